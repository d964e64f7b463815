import PyProof.Rows.All
import Wide.All
import KE.KIsAll
import KE.KNestM
import KE.KSortTup
import KE.KLam
import KE.KTryDeep
import KE.KFromBytes
import KE.KDictOf
import Wide.FinOn
import PySem.Challenge.RW_ringhues_k70_webs_by_their_shortest_ring
set_option compiler.extract_closed false
theorem gV{p:Prop}(h:p:=by lia):p:=h
theorem Dc{p:Prop}(h:p:=by decide +kernel):p:=h
theorem RB{p:Prop}(h:p:=by decide):p:=h
theorem Zaa{p:Prop}(h:p:=by simp):p:=h
abbrev aA:=@PySem.wpAny_bind
abbrev cD:=@PySem.Heap.get?_push_of_some
abbrev eE:=@List.getElem?_eq_getElem
abbrev aP:=@PySem.wpAny_pure
abbrev fG:=@List.getElem?_eq_some_iff
abbrev cP:=@Option.some.inj
abbrev bQ:=@PySem.Heap.lt_size
abbrev eN:=@PySem.Heap.get?_push_size
abbrev gH:=@List.mem_of_getElem?
abbrev gY:=@List.mem_cons_of_mem
abbrev f9:=@Nat.lt_of_lt_of_le
abbrev fH:=@List.size_toArray
abbrev cj:=@Nat.le_refl
abbrev fK:=@Bool.and_eq_true
abbrev jO:=@Option.map_eq_some_iff
abbrev cY:=@Nat.ne_of_lt
abbrev fZ:=@List.length_map
abbrev nF:=@List.getD_eq_getElem?_getD
abbrev gZ:=@List.length_cons
abbrev lg:=@List.mem_append_right
abbrev iz:=@List.all_eq_true
abbrev pF:=@List.getElem?_append_left
abbrev jD:=@List.getElem?_map
abbrev pK:=@List.getElem?_append_right
abbrev jP:=@of_decide_eq_true
abbrev lq:=@List.mem_cons_self
abbrev qK:=@List.getElem?_eq_none_iff
abbrev jm:=@List.mem_cons
abbrev jo:=@List.map_cons
abbrev gb:=@PySem.wpAny_mono
abbrev lK:=@List.mem_filter
abbrev pL:=@Array.length_toList
abbrev pG:=@List.length_append
abbrev qL:=@List.getElem?_set_ne
abbrev nG:=@List.mem_append
abbrev jU:=@Nat.le_trans
abbrev nH:=@decide_eq_true
abbrev pN:=@List.lookup_cons
abbrev rK:=@Bool.false_eq_true
abbrev rM:=@List.mem_singleton
abbrev rN:=@Int.toNat_natCast
abbrev pO:=@List.length_set
abbrev wF:=@PySem.Heap.get?_update_other
abbrev tO:=@PySem.wpAny_newObj_type
abbrev Ae:=@PyProof.Rows.callWith_type1
abbrev Dz:=@PyProof.Rows.slot_tuple_getitem
abbrev tQ:=@Nat.lt_succ_of_lt
abbrev yO:=@Option.bind_eq_some_iff
abbrev yP:=@List.getElem?_set_self
abbrev mF:=@PySem.wpAny_field
abbrev pP:=@Nat.lt_irrefl
abbrev pQ:=@PySem.wpAny_holding
abbrev rO:=@PySem.wpAny_seqItems
abbrev vO:=@PySem.wpAny_truthy_bool
abbrev Af:=@List.getElem?_replicate
abbrev Ag:=@PySem.wpAny_callSpecial?_slot
abbrev vP:=@List.length_range
abbrev pR:=@Nat.ne_of_gt
abbrev uf:=@decide_eq_false
abbrev yQ:=@PySem.Heap.get?_update_ne
abbrev yR:=@List.getElem_of_mem
abbrev Ah:=@PySem.Heap.get?_update_self
abbrev yS:=@PySem.Obj.data_mapFields
abbrev DG:=@List.getElem?_cons_succ
abbrev nU:=@beq_iff_eq
abbrev rP:=@Nat.le_of_lt
abbrev rQ:=@List.mem_map
abbrev wG:=@decide_eq_decide
abbrev lu:=@congrArg
abbrev ug:=@PySem.wpAny_standAt
abbrev vQ:=@PySem.Heap.size_push
abbrev wH:=@List.append_nil
abbrev wI:=@List.nodup_cons
abbrev Ai:=@PySem.wpAny_Call_Name_kw
abbrev rR:=@Nat.zero_le
abbrev yU:=@PySem.wpAny_call_entry
abbrev DK:=@PySem.Heap.get?_none_of_le
abbrev Aj:=@decide_eq_true_eq
abbrev DN:=@beq_eq_false_iff_ne
abbrev DP:=@PySem.mem_of_lookup
abbrev DQ:=@List.getElem?_range
abbrev Lb:=@PySem.F.slot_tuple_iterator_next
abbrev Ak:=@List.length_take
abbrev Al:=@List.countP_cons
abbrev Am:=@PySem.F.plain_min_loop
abbrev Gp:=@List.length_replicate
abbrev DR:=@PySem.wpAny_setField_rec
abbrev DW:=@Nat.lt_of_le_of_lt
abbrev DX:=@Int.emod_lt_of_pos
abbrev yV:=@List.mem_range
abbrev Gq:=@List.mem_append_left
abbrev nW:=@if_false
abbrev Gs:=@PySem.Around.under_plainId
abbrev Ao:=@PySem.wpAny_passesOwn
abbrev Ld:=@PySem.wpAny_comprehension_free
abbrev DY:=@PySem.Heap.get?_push_ne
abbrev Lf:=@PySem.AutoSeq1.wpAny_loadPart'
abbrev Aq:=@Int.emod_nonneg
abbrev Gu:=@List.filterMap_cons
abbrev vR:=@PySem.sizeLine_eq
abbrev yW:=@List.all_cons
abbrev Lg:=@Int.eq_ofNat_of_zero_le
abbrev D_:=@beq_self_eq_true
abbrev Ar:=@List.nodup_nil
abbrev Lh:=@PySem.W.cellsFrom_some
abbrev Gv:=@Bool.false_ne_true
abbrev Gw:=@List.mem_filterMap
abbrev Gx:=@List.zip_cons_cons
abbrev Gy:=@List.pairwise_cons
abbrev Ed:=@List.map_append
abbrev Ef:=@List.length_nil
abbrev yX:=@PySem.codeAny_mono
abbrev wJ:=@Nat.le_succ
abbrev Li:=@PySem.Obj.isFreed_of_fields
abbrev Eh:=@List.forIn_cons
abbrev Av:=@PyProof.Rows.listUpdate_at
abbrev Lj:=@Nat.mul_le_mul_right
abbrev Gz:=@Nat.lt_succ_self
abbrev GC:=@PySem.Heap.size_update
abbrev GD:=@List.take_length
abbrev yZ:=@PySem.wpAny_letGo
abbrev O8:=@Option.isSome_iff_exists
abbrev O9:=@PySem.F.args_tuple_add_2
abbrev O_:=@List.length_filterMap_le
abbrev Ln:=@PySem.Calls.spliced_cons
abbrev Pa:=@PySem.F.entry_tuple_add
abbrev Ej:=@PySem.wpAny_attempt
abbrev Lp:=@Array.forIn_toList
abbrev Pb:=@PySem.F.plainAttrs_list
abbrev GF:=@PySem.codeAny_builtin
abbrev Pg:=@PySem.F.slot_tuple_add
abbrev Pj:=@PySem.Calls.callWith_builtin
abbrev Pk:=@List.range_succ_eq_map
abbrev Pn:=@List.length_pos_of_mem
abbrev zc:=@PySem.wpAny_rule
abbrev Lq:=@PySem.wpAny_pyIter_list
abbrev Lr:=@List.append_assoc
abbrev Ls:=@List.nodup_append
abbrev GJ:=@PySem.wpAny_setField
abbrev Pq:=@List.length_filter_le
abbrev Pu:=@Int.emod_add_mul_ediv
abbrev Lw:=@Nat.le_of_not_lt
abbrev Lx:=@PySem.wpAny_isInstance
abbrev Px:=@Array.toArray_toList
abbrev Py:=@PySem.wpAny_updateSeq_pair
abbrev GK:=@PySem.wpAny_newList
abbrev GP:=@PySem.plainId_quiet
abbrev Pz:=@PySem.W.plainGet_of
abbrev Ek:=@PySem.wpAny_of_eq
abbrev Ly:=@PySem.F.slot_zip_next
abbrev Lz:=@Bool.or_eq_true
abbrev PB:=@PySem.W.callWith_K
abbrev GQ:=@List.map_map
abbrev PJ:=@decide_eq_true_iff
abbrev LC:=@List.forIn_nil
abbrev El:=@PySem.wpAny_call
abbrev Em:=@Nat.not_lt
abbrev PK:=@bne_self_eq_false
abbrev PL:=@List.getElem?_inj
abbrev PN:=@List.map_inj_left
abbrev PX:=@List.pairwise_map
abbrev P0:=@List.flatMap_cons
set_option Elab.async false
set_option linter.all false
set_option maxRecDepth 100000
set_option maxHeartbeats 4000000
namespace L2
open PySem PySem.Spec PyProof.Rows PySem.W
noncomputable def subIn(K:W.Frag)(C D:Addr):Bool:=PySem.W.ktsIn K C "BaseException"&&PySem.W.ktsIn K D "BaseException"&&match K.lookup C with
 |some ⟨_,_,.cls cd,_⟩=>cd.mro.contains (.ref D)
 |_=>false
noncomputable def GR:List Value:=[.type "ValueError",.type "Exception",.type "BaseException",.type "object"]
noncomputable def uh:List Value->Bool
 |.ref _::r=>uh r
 |l=>l==GR
noncomputable def uo(K:Frag)(C fI:Addr):Bool:=match K.lookup C with
 |some ⟨.type "type",_,.cls cd,sl⟩=>(match cd.mro,sl.toList with
  |.ref C'::bm,[_,_,_,_,some (.builtin n),_]=>C'==C&&n=="ValueError.__new__" && !cd.hasDel&&tailIn K GR bm&&nsOkIn K cd.ns&&nsIn K cd.ns "__init__"==some (some (.ref fI))
  |_,_=>false)
 |_=>false
noncomputable def aY(s:Stmt):Arguments:=match s with
 |.FunctionDef _ a _ _ _ _ _ _ _ _=>a
 |_=>{posonlyargs:=[],args:=[],vararg:=none,kwonlyargs:=[],kw_defaults:=[],kwarg:=none,defaults:=[]}
noncomputable def aJ(s:Stmt):List Stmt:=match s with
 |.FunctionDef _ _ b _ _ _ _ _ _ _=>b
 |_=>[]
noncomputable def au(s:Stmt):Scope:=match s with
 |.FunctionDef _ _ _ _ _ _ sc _ _ _=>sc
 |_=>{kind:=.function,names:=[],isGenerator:=false,isCoroutine:=false}
end L2
namespace Mi
open PySem PySem.Spec PyProof.Rows L2 PySem.W
noncomputable def LQ(n c:Nat):Nat:=if c<n then c else 0
noncomputable def GX(n c e:Nat):Bool:=LQ n e==0||LQ n c==LQ n e
noncomputable def iW(L:List Addr)(c:Nat):Addr:=L.getD (LQ L.length c) 0
noncomputable def xcB(K:W.Frag)(C:Addr):Bool:=
 PySem.W.findIn K (.ref C) "__getattribute__"==some (some (.builtin "BaseException.__getattribute__"))&&PySem.W.findIn K (.ref C) "__getattr__"==some none&&PySem.W.findIn K (.ref C) "__class__"==some (some (.builtin "object.__class__")) &&
 PySem.W.mroIn K C (.type "BaseException")==some true&&PySem.W.mroIn K C (.type "object")==some true&&(PySem.W.clsIn K C).isSome &&
 PySem.W.specialIn K (.builtin "object.__class__") "__get__"==some (some (.builtin "getset_descriptor.__get__"))&&PySem.W.takesIn K (.builtin "object.__class__")==some true
noncomputable def zj(K:W.Frag)(L:List Addr):Bool:=(List.range L.length).all λc=>xcB K (L.getD c 0)&&PySem.W.kitOne K (.ref (L.getD c 0)) (.type "ValueError")==some true &&
 (List.range L.length).all λe=>PySem.W.kitOne K (.ref (L.getD c 0)) (.ref (L.getD e 0))==some (GX L.length c e)
noncomputable def subB(K:W.Frag)(L:List Addr)(d:Nat):Bool:=(List.range L.length).all λc=>!(GX L.length c d)||L2.subIn K (L.getD c 0) (iW L d)
noncomputable def nY(fd:FuncData):FuncData:={fd with kwdefaults:=.none,doc:=.none,pyModule:=.none,annotations:=none,code:=.none,closureTuple:=.none}
noncomputable def vU(x:Str)(st:Stmt):FuncData:=fnOf x x (aY st) (aJ st) (au st) .none .none .none .none none .none .none
noncomputable def wK(K:Frag)(x:Str):Option (Addr×FuncData):=match nsIn K mainGlobals x with
 |some (some (.ref f))=>(match K.lookup f with
  |some ⟨_,_,.func fd,_⟩=>(match codeIn K fd.code x&&keepIn K (.ref f) with
   |true=>some (f,fd)
   |false=>none)
  |_=>none)
 |_=>none
noncomputable def dY(K:Frag)(x:Str):Addr:=match nsIn K mainGlobals x with
 |some (some (.ref C))=>C
 |_=>0
noncomputable def uq(K:Frag)(x:Str):Bool:=match nsIn K mainGlobals x with
 |some (some (.ref _))=>true
 |_=>false
noncomputable def mH(K:Frag)(p:Str×Int):Bool:=match nsIn K mainGlobals p.1 with
 |some (some (.int i _))=>decide (i=p.2)
 |_=>false
noncomputable def qM(K:Frag)(x:Str):Bool:=match nsIn K mainGlobals x with
 |some none=>true
 |_=>false
noncomputable def GZ(K:Frag)(C:Addr):Bool:=excIn K C [.type "ValueError",.type "Exception",.type "BaseException",.type "object"] "ValueError.__new__"
structure Lk where
 G3:List Str
 wL:List (Str×Int)
 Ws:List Str
 Wt:List Nat
 Wu:List Nat
noncomputable def Lk.L(l:Lk)(K:Frag):List Addr:=l.G3.map (dY K)
noncomputable def Lk.good(l:Lk)(K:Frag):Bool:=
 l.G3.all (uq K)&&(l.G3.isEmpty||zj K (l.L K))&&l.Wt.all (λk=>GZ K (iW (l.L K) k))&&l.Wu.all (λk=>subB K (l.L K) k)&&l.wL.all (mH K)&&l.Ws.all (qM K)
noncomputable def qN(h:Heap):List Addr->Frag
 |[]=>[]
 |a::r=>match h.get? a with
  |some o=>(a,o)::qN h r
  |none=>qN h r
noncomputable def eO(s:Stmt):List Stmt:=match s with
 |.ClassDef _ _ _ b _ _ _ _ _ _ _=>b
 |_=>[]
noncomputable def Aw(q:Str)(st:Stmt):FuncData:=fnOf "__init__" q (aY st) (aJ st) (au st) .none .none .none .none none .none .none
noncomputable def G4(K:Frag)(C:Addr):Option FuncData:=match clsIn K C with
 |some cd=>(match nsIn K cd.ns "__init__" with
  |some (some (.ref f))=>(match K.lookup f with
   |some ⟨.type "function",_,.func fd,_⟩=>(match codeIn K fd.code fd.qualname&&uo K C f&&uh cd.mro&&cd.hasDict with
    |true=>some fd
    |false=>none)
   |_=>none)
  |_=>none)
 |none=>none
noncomputable def setB(K:Frag)(C:Addr)(fs:List Str):Bool:=findIn K (.ref C) "__setattr__"==some (some (.builtin "object.__setattr__"))&&fs.all (λf=>findIn K (.ref C) f==some none)
noncomputable def LR(K:Frag)(C:Addr)(f:Str):Bool:=findIn K (.ref C) "__getattribute__"==some (some (.builtin "BaseException.__getattribute__"))&&findIn K (.ref C) "__getattr__"==some none&&mroIn K C (.type "BaseException")==some true&&findIn K (.ref C) f==some none&&hasDictIn K C
structure ur where
 c:Nat
 q:Str
 st:Stmt
 fs:List Str
noncomputable def qO(o:Obj):Bool:=match o with
 |⟨.none,none,.fields vs,sl⟩=>vs.isEmpty&&sl.isEmpty
 |_=>false
noncomputable def G5:Nat->List Obj->Frag
 |_,[]=>[]
 |i,o::r=>match o.isFreed||qO o with
  |true=>G5 (i+1) r
  |false=>(i,o)::G5 (i+1) r
noncomputable def bR(h:Heap):Frag:=qN h [mainGlobals]++(G5 0 h.objs.toList).reverse
noncomputable def jV(fs:List (Str×Stmt))(ms:List ur)(xs:List (Nat×Str))(l:Lk)(s:Shared):List (Option FuncData)×List (Option FuncData)×Bool:=
 (fs.map (λp=>(wK (bR s.heap) p.1).map (λq=>nY q.2)),ms.map (λm=>(G4 (bR s.heap) (iW (l.L (bR s.heap)) m.c)).map nY),
  l.good (bR s.heap)&&ms.all (λm=>setB (bR s.heap) (iW (l.L (bR s.heap)) m.c) m.fs)&&xs.all (λx=>LR (bR s.heap) (iW (l.L (bR s.heap)) x.1) x.2))
noncomputable def lD(fs:List (Str×Stmt))(ms:List ur)(w:World):List (Option FuncData)×List (Option FuncData)×Bool:=(fs.map (λp=>some (vU p.1 p.2)),ms.map (λm=>some (Aw m.q m.st)),true)
noncomputable def L_(fs:List (Str×Stmt))(s:Shared):List (Option FuncData):=fs.map (λp=>(wK (bR s.heap) p.1).map (λq=>nY q.2))
noncomputable def Wv(ms:List ur)(xs:List (Nat×Str))(l:Lk)(s:Shared):List (Option FuncData)×Bool:=(ms.map (λm=>(G4 (bR s.heap) (iW (l.L (bR s.heap)) m.c)).map nY),
  l.good (bR s.heap)&&ms.all (λm=>setB (bR s.heap) (iW (l.L (bR s.heap)) m.c) m.fs)&&xs.all (λx=>LR (bR s.heap) (iW (l.L (bR s.heap)) x.1) x.2))
theorem zfk{p q:Program}{loose:List Str}{Xt:Shared->Bool}{N:Nat}{fs1 rT:List (Str×Stmt)}{ms:List ur}{xs:List (Nat×Str)}{l:Lk}
  (a:∀w,(openEnds treeTable p w N).map (λs=>openSeen q loose (importedModules p.main.body) Xt true s)=some (openGood q loose))
  (b1:∀w,(openEnds treeTable p w N).map (L_ fs1)=some (fs1.map λp=>some (vU p.1 p.2)))
  (b2:∀w,(openEnds treeTable p w N).map (L_ rT)=some (rT.map λp=>some (vU p.1 p.2)))
  (c:∀w,(openEnds treeTable p w N).map (Wv ms xs l)=some (ms.map (λm=>some (Aw m.q m.st)),true)):LeftO p q loose Xt (jV (fs1++rT) ms xs l) (lD (fs1++rT) ms) N:=by
 intro w;have a:=a w;have b1:=b1 w;have b2:=b2 w;have c:=c w;cases e:openEnds treeTable p w N with
 |none=>rw[e] at a;cases a
 |some s=>
  rw[e] at a b1 b2 c;have a:openSeen q loose (importedModules p.main.body) Xt true s=openGood q loose:=cP a;have b1:=cP b1;have b2:=cP b2;have c:=cP c;have c1:=lu Prod.fst c;have c2:=lu Prod.snd c;show some (_,jV (fs1++rT) ms xs l s)=_;rw[a];have:jV (fs1++rT) ms xs l s=lD (fs1++rT) ms w:=by
   unfold jV lD;rw[Ed,Ed];have b1:List.map _ fs1=List.map _ fs1:=b1;have b2:List.map _ rT=List.map _ rT:=b2;rw[b1,b2];exact Prod.ext rfl (Prod.ext c1 c2)
  rw[this]
structure Bd where
 n:Str
 fs:List Str
 ms:List (Str×Str×Stmt)
noncomputable def lM(K:Frag)(C:Addr)(m:Str):Option (Addr×FuncData):=match findIn K (.ref C) m with
 |some (some (.ref f))=>(match K.lookup f with
  |some ⟨_,_,.func fd,_⟩=>(match codeIn K fd.code fd.qualname&&keepIn K (.ref f)&&isFn K (.ref f) with
   |true=>some (f,fd)
   |false=>none)
  |_=>none)
 |_=>none
noncomputable def En(m q:Str)(st:Stmt):FuncData:=fnOf m q (aY st) (aJ st) (au st) .none .none .none .none none .none .none
noncomputable def zm(K:Frag)(b:Bd):Bool:=uq K b.n&&plainGet K (dY K b.n) Str.empty&&hasDictIn K (dY K b.n)&&plainOver K (dY K b.n)&&findIn K (.ref (dY K b.n)) "__setattr__"==some (some (.builtin "object.__setattr__"))&&makesIn K (dY K b.n)&&keepIn K (.ref (dY K b.n))&&b.fs.all (λf=>findIn K (.ref (dY K b.n)) f==some none)
noncomputable def wM(b:Bd)(s:Shared):List (Option FuncData)×Bool:=(b.ms.map λp=>(lM (bR s.heap) (dY (bR s.heap) b.n) p.1).map λq=>nY q.2,zm (bR s.heap) b)
noncomputable def wN(b:Bd):List (Option FuncData)×Bool:=(b.ms.map λp=>some (En p.1 p.2.1 p.2.2),true)
theorem zjk{p q:Program}{loose:List Str}{Xt:Shared->Bool}{N:Nat}{fs:List (Str×Stmt)}{ms:List ur}{xs:List (Nat×Str)}{l:Lk}{b:Bd}(h:LeftO p q loose Xt (jV fs ms xs l) (lD fs ms) N)(e:∀w,(openEnds treeTable p w N).map (wM b)=some (wN b)) :
  LeftO p q loose Xt (λs=>(jV fs ms xs l s,wM b s)) (λw=>(lD fs ms w,wN b)) N:=by
 intro w;have h:=h w;have e:=e w;cases z:openEnds treeTable p w N with
 |none=>rw[z] at e;cases e
 |some s=>
  rw[z] at h e;have e:wM b s=wN b:=cP e;have h:=cP h;have h1:=lu Prod.fst h;have h2:=lu Prod.snd h;show some (_,_,_)=some (_,_,_);rw[e];exact lu some (Prod.ext h1 (Prod.ext h2 rfl))
noncomputable def lN(o:Obj):Option Value:=match o.data with
 |.fields vs=>(match (vs[1]? : Option Value) with
  |some (.str q _)=>(match q=="plain_rings" with
   |true=>vs[11]?
   |false=>none)
  |_=>none)
 |_=>none
noncomputable def bmB(K:Frag):Bool:=match nsIn K mainGlobals "__builtins__" with
 |some (some (.ref bm))=>(match K.lookup bm with
  |some ⟨.type "module",some d,.plain,_⟩=>d==builtinsNs&&bm != builtinsNs&&bm != mainGlobals
  |_=>false)
 |_=>false
noncomputable def G6(h:Heap)(P:Addr):Bool:=match h.get? P with
 |some o=>qO o
 |none=>false
noncomputable def Ax(K:Frag)(h:Heap):Bool:=match wK K "plain_rings" with
 |some q=>(match q.2.code with
  |.ref c=>(match (K.lookup c).bind lN with
   |some (.ref P)=>codeHdIn K c P&&(K.lookup P).isNone&&G6 h P&&bmB K&&K.all (λr=>match lN r.2 with
    |some (.ref p)=>p==P
    |_=>true)
   |_=>false)
  |_=>false)
 |none=>false
noncomputable def nZ(s:Shared):Bool:=Ax (bR s.heap) s.heap
theorem zhd{p q:Program}{loose:List Str}{Xt:Shared->Bool}{N:Nat}{α:Type}{Yf:Shared->α}{Ya:World->α}(h:LeftO p q loose Xt Yf Ya N)(e:∀w,(openEnds treeTable p w N).map nZ=some true) :
  LeftO p q loose Xt (λs=>(Yf s,nZ s)) (λw=>(Ya w,true)) N:=by
 intro w;have h:=h w;have e:=e w;cases z:openEnds treeTable p w N with
 |none=>rw[z] at h;cases h
 |some s=>
  rw[z] at h e;have h:=cP h;have e:nZ s=true:=cP e;show some (_,(Yf s,nZ s))=_;have h1:openSeen q loose (importedModules p.main.body) Xt true s=openGood q loose:=lu Prod.fst h;have h2:Yf s=Ya w:=lu Prod.snd h;rw[e,h1,h2]
end Mi
namespace eF
open PySem PySem.Spec PyProof.Rows PySem.W L2 Mi
noncomputable def top(i:Nat):Stmt:=PySem.Challenge.pw_ringhues_k70_webs_by_their_shortest_ring.main.body.getD i (.Pass ⟨0,0,0,0⟩)
noncomputable def Ep:Stmt:=(eO (top 19)).getD 0 (.Pass ⟨0,0,0,0⟩)
noncomputable def G7:Stmt:=(eO (top 19)).getD 1 (.Pass ⟨0,0,0,0⟩)
noncomputable def Er:Stmt:=(eO (top 19)).getD 2 (.Pass ⟨0,0,0,0⟩)
noncomputable def Et:Stmt:=(eO (top 19)).getD 3 (.Pass ⟨0,0,0,0⟩)
noncomputable def Eu:Stmt:=(eO (top 19)).getD 4 (.Pass ⟨0,0,0,0⟩)
noncomputable def G8:Stmt:=(eO (top 19)).getD 5 (.Pass ⟨0,0,0,0⟩)
noncomputable def Ew:Stmt:=(eO (top 19)).getD 6 (.Pass ⟨0,0,0,0⟩)
noncomputable def bd:Bd:=⟨"Board",["ends","spots","apart","alike"],[("__init__","Board.__init__",Ep),("far_apart","Board.far_apart",G7),("settled","Board.settled",Er),("ties_left","Board.ties_left",Et),("bound","Board.bound",Eu),("narrowest","Board.narrowest",G8),("all_free","Board.all_free",Ew)]⟩
noncomputable def fs1:List (Str×Stmt):=("is_whole",top 5)::("is_within",top 6)::("is_row",top 7)::("is_web",top 10)::("is_many",top 11)::("is_place",top 12)::("is_tie",top 13)::("check_web",top 14)::("all_pairs",top 15)::("tied_to",top 16)::("all_ends",top 17)::("ring_board",top 20)::("is_ring",top 23)::("check_ring",top 24)::("lowest_terms",top 25)::("first_hues",top 27)::("first_among",top 28)::("first_spot",top 29)::[]
noncomputable def rT:List (Str×Stmt):=("can_settle",top 30)::("search",top 31)::("plain_rings",top 34)::("has_room",top 35)::("shortest",top 36)::("is_plain",top 37)::("by_shortest",top 39)::("webs_with",top 40)::("_law_cell",top 42)::("_law_pen",top 43)::("_law_draw",top 44)::("_law_whole",top 45)::("_law_apart",top 46)::("_law_first",top 47)::("_law_plain",top 48)::("_law_shortest",top 49)::("_law_all_webs",top 50)::("_law_right",top 51)::("law",top 52)::[]
noncomputable abbrev fs:List (Str×Stmt):=fs1++rT
noncomputable def lk:Lk:=⟨[],[("MOST_PLACES",8),("MOST_SPOTS",24),("SO_OFTEN",27720)],["abs","all","bool","divmod","enumerate","int","isinstance","len","list","max","min","range","sorted","tuple","zip"],[],[]⟩
noncomputable def ms:List ur:=[]
noncomputable def xs:List (Nat×Str):=[]
noncomputable abbrev pv:Program:=PySem.Challenge.pw_ringhues_k70_webs_by_their_shortest_ring
noncomputable def qv:Program:={pv with main:={pv.main with body:=[pv.main.body.getD 52 (.Pass ⟨0,0,0,0⟩)]}}
noncomputable def loose:List Str:=(["HueError","NoRing","NoWeb","is_whole","is_within","is_row","MOST_PLACES","is_web","is_many","is_place","is_tie","check_web","all_pairs","tied_to","all_ends","Board","ring_board","MOST_SPOTS","is_ring","check_ring","lowest_terms","first_hues","first_among","first_spot","can_settle","search","SO_OFTEN","plain_rings","has_room","shortest","is_plain","by_shortest","webs_with","_law_cell","_law_pen","_law_draw","_law_whole","_law_apart","_law_first","_law_plain","_law_shortest","_law_all_webs","_law_right"]:List String).map Str.ofString
theorem zk9(w:World):(openEnds treeTable pv w 20000).map (λs=>openSeen qv loose (importedModules pv.main.body) (λs=>xlAt qv [] s&&recOk [] s) true s)=some (openGood qv loose):=by
 kernel_rfl
theorem zlA(w:World):(openEnds treeTable pv w 20000).map (L_ fs1)=some (fs1.map λp=>some (vU p.1 p.2)):=by
 kernel_rfl
theorem zmf(w:World):(openEnds treeTable pv w 20000).map (L_ rT)=some (rT.map λp=>some (vU p.1 p.2)):=by
 kernel_rfl
theorem zkZ(w:World):(openEnds treeTable pv w 20000).map (Wv ms xs lk)=some (ms.map (λm=>some (Aw m.q m.st)),true):=by
 kernel_rfl
theorem ws:PySem.Challenge.rw_ringhues_k70_webs_by_their_shortest_ring.wellSaid=true:=by
 kernel_rfl
theorem zkI(w:World):(openEnds treeTable pv w 20000).map (wM bd)=some (wN bd):=by
 kernel_rfl
theorem zkU:LeftO pv qv loose (λs=>xlAt qv [] s&&recOk [] s) (λs=>(jV fs ms xs lk s,wM bd s)) (λw=>(lD fs ms w,wN bd)) 20000:=zjk (zfk zk9 zlA zmf zkZ) zkI
theorem zln(w:World):(openEnds treeTable pv w 20000).map nZ=some true:=by
 kernel_rfl
theorem left:LeftO pv qv loose (λs=>xlAt qv [] s&&recOk [] s) (λs=>((jV fs ms xs lk s,wM bd s),nZ s)) (λw=>((lD fs ms w,wN bd),true)) 20000:=zhd zkU zln
end eF
namespace L2
open PySem PySem.Spec PyProof.Rows
theorem eG{α:Sort u}{β:Sort v}{A B C:α->β->Prop}{P:Prop}(h:∃x y,A x y/\B x y/\C x y)(k:∀x y,A x y->B x y->C x y->P):P:=by
 obtain⟨x,y,a,b,c⟩:=h;exact k x y a b c
theorem P_{α:Sort u}{β:Sort v}{γ:Sort w}{A B:α->β->Prop}{C D:α->β->γ->Prop}{P:Prop}(h:∃x y,A x y/\B x y/\∃z,C x y z/\D x y z)(k:∀x y,A x y->B x y->∀z,C x y z->D x y z->P):P:=by
 obtain⟨x,y,a,b,z,c,d⟩:=h;exact k x y a b z c d
theorem vV{α:Sort u}{A B:α->Prop}{P:Prop}(h:∃x,A x/\B x)(k:∀x,A x->B x->P):P:=by
 obtain⟨x,a,b⟩:=h;exact k x a b
noncomputable abbrev Key:=Sum Int Str
noncomputable def zp:Key->Value->Bool
 |.inl k,v=>Value.isInt k v
 |.inr x,v=>Value.isStrOf x v
noncomputable def Qa(w:World):Key->Int
 |.inl k=>hashInt k
 |.inr x=>hashStr w x
theorem wO:∀{k:Key} {v:Value},zp k v=true->(∃i t,k=Sum.inl i/\v=Value.int i t)\/(∃x t,k=Sum.inr x/\v=Value.str x t)
 |.inl i,v,h=>by
  obtain⟨t,e⟩:=Value.isInt_shape (k:=i) (v:=v) h;exact .inl ⟨i,t,rfl,e⟩
 |.inr x,v,h=>by
  obtain⟨t,e⟩:=Value.isStrOf_shape (x:=x) (v:=v) h;exact .inr ⟨x,t,rfl,e⟩
theorem zkQ(a b:Int):decide ((Sum.inl a:Key)=Sum.inl b)=(a==b):=by
 by_cases e:a=b
 ·subst e;simp
 ·have h:¬(Sum.inl a:Key)=Sum.inl b:=λq=>e (Sum.inl.inj q);rw[uf h];exact(DN.mpr e).symm
theorem zl8(a b:Str):decide ((Sum.inr a:Key)=Sum.inr b)=decide (a=b):=by
 by_cases e:a=b
 ·subst e;simp
 ·have h:¬(Sum.inr a:Key)=Sum.inr b:=λq=>e (Sum.inr.inj q);rw[uf h,uf e]
theorem zks(a:Int)(b:Str):decide ((Sum.inl a:Key)=Sum.inr b)=false:=uf (λq=>nomatch q)
theorem zl3(a:Str)(b:Int):decide ((Sum.inr a:Key)=Sum.inl b)=false:=uf (λq=>nomatch q)
noncomputable def mJ(prog:Program)(w:World):PySem.KeyKind prog w Key where
 is:=zp
 hash:=Qa w
 inj:=λv a b ha hb=>by
  rcases wO ha with ⟨i,t,rfl,rfl⟩|⟨x,t,rfl,rfl⟩
  ·rcases wO hb with ⟨j,u,rfl,e⟩|⟨y,u,rfl,e⟩
   ·injection e with e1 _;rw[e1]
   ·exact nomatch e
  ·rcases wO hb with ⟨j,u,rfl,e⟩|⟨y,u,rfl,e⟩
   ·exact nomatch e
   ·injection e with e1 _;rw[e1]
 byValue:=λk v h=>by
  rcases wO h with ⟨i,t,rfl,rfl⟩|⟨x,t,rfl,rfl⟩<;>rfl
 pyHash:=λhv h=>by
  rcases wO hv with ⟨i,t,rfl,rfl⟩|⟨x,t,rfl,rfl⟩
  ·exact wpAny_pyHash_int h
  ·exact wpAny_pyHash_str h
 eqBool:=λhu hv h=>by
  rcases wO hu with ⟨i,t,rfl,rfl⟩|⟨x,t,rfl,rfl⟩
  ·rcases wO hv with ⟨j,u,rfl,rfl⟩|⟨y,u,rfl,rfl⟩
   ·rw[zkQ] at h;exact wpAny_eqBool_int h
   ·rw[zks] at h;exact SeqAt.EqAt.int_str i t y u _ _ _ _ h
  ·rcases wO hv with ⟨j,u,rfl,rfl⟩|⟨y,u,rfl,rfl⟩
   ·rw[zl3] at h;exact SeqAt.EqAt.str_int x t j u _ _ _ _ h
   ·rw[zl8] at h;exact wpAny_eqBool_str h
 «strs»:=λk x t v h=>by
  rcases wO h with ⟨i,u,rfl,e⟩|⟨y,u,rfl,e⟩
  ·exact nomatch e
  ·injection e with e1 _;subst e1;cases v<;>rfl
inductive V where
 |non|bl (b:Bool)|int (i:Int)|str (x:Str)|Ay (b:Array UInt8)|flt (b:UInt64)|ref (a:Addr)|ty (n:String)
 deriving DecidableEq
noncomputable def RelV:V->Value->Prop
 |.non,u=>u=Value.none
 |.bl b,u=>u=Value.bool b
 |.int i,u=>∃t,u=Value.int i t
 |.str x,u=>∃t,u=Value.str x t
 |.Ay b,u=>∃t,u=Value.bytes b t
 |.flt b,u=>∃t,u=Value.float b t
 |.ref a,u=>u=Value.ref a
 |.ty n,u=>u=Value.type n
noncomputable abbrev Vals:List V->List Value->Prop:=Paired RelV
theorem Vals.length{xs:List V}{us:List Value}(r:Vals xs us):xs.length=us.length:=Paired.length r
theorem Vals.get:∀{xs:List V} {us:List Value} {i:Nat} {x:V},Vals xs us->xs[i]?=some x->∃u,us[i]?=some u/\RelV x u
 |_,_,_,_,.nil,e=>by simp at e
 |_,_,0,_,.cons r _,e=>by simp at e;subst e;exact⟨_,rfl,r⟩
 |_,_,i+1,x,.cons _ t,e=>by
  obtain⟨u,h1,h2⟩:=Vals.get (i:=i) (x:=x) t (by simpa using e);exact⟨u,by simpa using h1,h2⟩
theorem Vals.set{x:V}{u:Value}(r:RelV x u):∀{xs:List V} {us:List Value} (i:Nat),Vals xs us->Vals (xs.set i x) (us.set i u)
 |_,_,_,.nil=>.nil
 |_,_,0,.cons _ t=>.cons r t
 |_,_,i+1,.cons q t=>.cons q (Vals.set r i t)
theorem Vals.append{xs ys:List V}{us ws:List Value}(h:Vals xs us)(s:Vals ys ws):Vals (xs++ys) (us++ws):=by
 induction h with
 |nil=>exact s
 |cons r _ ih=>exact .cons r ih
theorem Vals.take:∀{xs:List V} {us:List Value} (n:Nat),Vals xs us->Vals (xs.take n) (us.take n)
 |_,_,0,_=>.nil
 |_,_,_+1,.nil=>.nil
 |_,_,n+1,.cons r t=>.cons r (Vals.take n t)
theorem Vals.drop:∀{xs:List V} {us:List Value} (n:Nat),Vals xs us->Vals (xs.drop n) (us.drop n)
 |_,_,0,r=>r
 |_,_,_+1,.nil=>.nil
 |_,_,n+1,.cons _ t=>Vals.drop n t
noncomputable def rW:Option V->Option Value->Prop
 |some v,some u=>RelV v u
 |none,none=>True
 |_,_=>False
noncomputable def KV{κ:Type}:List (κ×V)->List (κ×Value)->Prop:=Paired λ(p:κ×V) (q:κ×Value)=>p.1=q.1/\RelV p.2 q.2
noncomputable def kV:Key->V
 |.inl i=>.int i
 |.inr x=>.str x
inductive HO where
 |lst (xs:List V)
 |tup (xs:List V)
 |dK (kvs:List (Key×V))|dT (kvs:List (List Key×V))
 |set (S:Int->Bool) (n:Nat)
 |ins (C dx:Addr) (fs:List (Str×V))
 |own (x:Addr)
 |xd (fs:List (Str×V))
 |met (f x:Addr)
 |rng (lo hi:Int)
 |n6 (o:Obj) (u:HO)
 |lO (ps:Array Value)
 |ext (U:Heap->Prop)
noncomputable abbrev Hp:=Addr->Option HO
noncomputable def upd(H:Hp)(a:Addr)(o:HO):Hp:=λb=>if b=a then some o else H b
theorem iD{H:Hp}{a:Addr}{o:HO}:upd H a o a=some o:=by unfold upd;rw[if_pos rfl]
theorem bT{H:Hp}{a b:Addr}{o:HO}(h:b≠a):upd H a o b=H b:=by unfold upd;rw[if_neg h]
theorem Ww{H:Hp}{a:Addr}{o u:HO}:upd (upd H a o) a u=upd H a u:=by
 funext b;unfold upd;split<;>rfl
theorem wQ{H:Hp}{a b:Addr}{o:HO}(h:H a=some o)(h':H b=none):a≠b:=by
 intro e;subst e;rw[h] at h';cases h'
section
variable (P:Program)(w:World)
noncomputable def bI(H:Hp)(h:Heap)(a:Addr):HO->Prop
 |.lst xs=>xs.length<=sizeLine/\∃(its:List Value) (n:Nat),Vals xs its/\h.get? a=some {cls:=.type "list",data:=.seq its.toArray n}
 |.tup xs=>xs.length<=sizeLine/\∃its:List Value,Vals xs its/\IsTup h a its.toArray
 |.dK kvs=>kvs.length<=sizeLine/\(a==sysModules)=false/\∃vs,KV kvs vs/\h.DictOf (mJ P w) a vs
 |.dT kvs=>kvs.length<=sizeLine/\(a==sysModules)=false/\∃xs:List (List Key×Addr×Value),
   Paired (λ(p:List Key×V) (q:List Key×Addr×Value)=>p.1=q.1/\H q.2.1=some (.tup (p.1.map kV))/\RelV p.2 q.2.2) kvs xs /\
   ∃o es ep,h.get? a=some o/\o.ExactDict/\o.data=.dict es ep/\es.toList=xs.map (entryOfKey (tupleKind (mJ P w)))/\(xs.map (·.1)).Nodup
 |.set S n=>h.SetOf (intKind P w) a S n
 |.ins C dx fs=>H dx=some (.own a)/\fs.length<=1000/\dx≠a/\h.get? a=some (PySem.W.instObj C dx) /\
   ∃mA,h.Ns1 dx mA/\(∀f,rW (fs.lookup f) (mA f))/\PySem.Within mA (fs.map (·.1))
 |.own _=>∃o,h.get? a=some o
 |.xd fs=>∃mA,h.Ns1 a mA/\∀f,rW (fs.lookup f) (mA f)
 |.rng lo hi=>∃t u v,h.get? a=some {cls:=.type "range",data:=.fields #[.int lo t,.int hi u,.int 1 v]}
 |.n6 o u=>h.get? a=some o/\bI H h a u
 |.lO ps=>h.get? a=some {cls:=.none,data:=.fields ps}
 |.met f x=>h.get? a=some (PySem.W.methodObj (.ref f) (.ref x))
 |.ext U=>U h/\(∃o,h.get? a=some o)/\∀h1 h2:Heap,U h1->(∀o,h1.get? a=some o->h2.get? a=some o)->U h2
def iR(H:Hp)(h:Heap):Prop:=∀a o,H a=some o->bI P w H h a o
end
section
variable {P:Program}{w:World}{H H':Hp}{h h':Heap}{a:Addr}{o:HO}
theorem bI.lt(x:bI P w H h a o):a<h.objs.size:=by
 cases o with
 |lst xs=>obtain⟨_,_,_,_,e⟩:=x;exact bQ e
 |tup xs=>obtain⟨_,_,_,p⟩:=x;exact p.lt
 |dK kvs=>obtain⟨_,_,_,_,o,_,_,e,_⟩:=x;exact bQ e
 |dT kvs=>obtain⟨_,_,_,_,o,_,_,e,_⟩:=x;exact bQ e
 |set S n=>obtain⟨o,_,_,_,e,_⟩:=x;exact bQ e
 |ins C dx fs=>obtain⟨_,_,_,e,_⟩:=x;exact bQ e
 |own y=>obtain⟨_,e⟩:=x;exact bQ e
 |xd fs=>obtain⟨_,⟨_,_,_,e,_⟩,_⟩:=x;exact bQ e
 |rng lo hi=>obtain⟨_,_,_,e⟩:=x;exact bQ e
 |n6 ob u=>obtain⟨e,_⟩:=x;exact bQ e
 |lO ps=>exact bQ (show h.get? a=some _ from x)
 |met f y=>exact bQ (show h.get? a=some _ from x)
 |ext U=>obtain⟨_,⟨_,e⟩,_⟩:=x;exact bQ e
theorem Wx{α β:Type}{F G:α->β->Prop}:∀{l₁:List α} {l₂:List β},Paired F l₁ l₂->(∀a b,F a b->G a b)->Paired G l₁ l₂
 |_,_,.nil,_=>.nil
 |_,_,.cons r t,f=>.cons (f _ _ r) (Wx t f)
theorem bI.stay(x:bI P w H h a o)(k:∀b u,(b=a\/H b=some (.own a))->h.get? b=some u->h'.get? b=some u)
  (ho:∀b,H b=some (.own a)->H' b=some (.own a)) (ht:∀b xs,H b=some (.tup xs)->H' b=some (.tup xs)):bI P w H' h' a o:=by
 induction o with
 |lst xs=>obtain⟨z,its,n,r,e⟩:=x;exact⟨z,its,n,r,k _ _ (.inl rfl) e⟩
 |tup xs=>obtain⟨z,its,r,ob,e,c⟩:=x;exact⟨z,its,r,ob,k _ _ (.inl rfl) e,c⟩
 |dK kvs=>obtain⟨z,y,vs,r,ob,es,ep,e,c⟩:=x;exact⟨z,y,vs,r,ob,es,ep,k _ _ (.inl rfl) e,c⟩
 |dT kvs=>
  obtain⟨z,y,xs,r,ob,es,ep,e,c⟩:=x;exact⟨z,y,xs,Wx r λp q z=>⟨z.1,ht _ _ z.2.1,z.2.2⟩,ob,es,ep,k _ _ (.inl rfl) e,c⟩
 |set S n=>obtain⟨ob,es,ep,t,e,c⟩:=x;exact⟨ob,es,ep,t,k _ _ (.inl rfl) e,c⟩
 |ins C dx fs=>
  obtain⟨d,z,ne,e,mA,⟨od,es,ep,e2,c⟩,r⟩:=x;exact⟨ho _ d,z,ne,k _ _ (.inl rfl) e,mA,⟨od,es,ep,k _ _ (.inr d) e2,c⟩,r⟩
 |own y=>obtain⟨ob,e⟩:=x;exact⟨ob,k _ _ (.inl rfl) e⟩
 |xd fs=>obtain⟨mA,⟨od,es,ep,e,c⟩,r⟩:=x;exact⟨mA,⟨od,es,ep,k _ _ (.inl rfl) e,c⟩,r⟩
 |rng lo hi=>obtain⟨t,u,v,e⟩:=x;exact⟨t,u,v,k _ _ (.inl rfl) e⟩
 |n6 ob u ih=>obtain⟨e,q⟩:=x;exact⟨k _ _ (.inl rfl) e,ih q⟩
 |lO ps=>
  have e:h.get? a=some {cls:=.none,data:=.fields ps}:=x;show h'.get? a=some {cls:=.none,data:=.fields ps};exact k a _ (.inl rfl) e
 |met f y=>
  have e:h.get? a=some (PySem.W.methodObj (.ref f) (.ref y)):=x;show h'.get? a=some (PySem.W.methodObj (.ref f) (.ref y));exact k a _ (.inl rfl) e
 |ext U=>obtain⟨p,⟨o,e⟩,st⟩:=x;exact⟨st _ _ p λo q=>k _ _ (.inl rfl) q,⟨o,k _ _ (.inl rfl) e⟩,st⟩
theorem iR.lt(x:iR P w H h)(e:H a=some o):a<h.objs.size:=(x a o e).lt
theorem iR.fresh(x:iR P w H h)(e:h.objs.size<=a):H a=none:=by
 cases q:H a with
 |none=>rfl
 |some u=>exact absurd (f9 (x.lt q) e) (pP _)
theorem iR.kept(x:iR P w H h)(k:∀b u,h.get? b=some u->h'.get? b=some u):iR P w H h':=λa o e=>
 (x a o e).stay (λb u _ q=>k b u q) (λ_ q=>q) λ_ _ q=>q
theorem iR.laid(x:iR P w H h)(k:∀b u,h.get? b=some u->h'.get? b=some u)(hp:h.objs.size<=a)(new:bI P w (upd H a o) h' a o):iR P w (upd H a o) h':=λb u e=>by
 have hn:=x.fresh hp;by_cases hb:b=a
 ·subst hb;rw[iD] at e;cases e;exact new
 ·rw[bT hb] at e;exact(x b u e).stay (λc v _ q=>k c v q) (λc q=>by rw[bT (wQ q hn)];exact q) λc xs q=>by rw[bT (wQ q hn)];exact q
end
def Rd(H:Hp)(a:Addr)(u:HO):Prop:=H a=some u\/∃o,H a=some (.n6 o u)
theorem Rd.ok{P:Program}{w:World}{H:Hp}{h:Heap}{a:Addr}{u:HO}(r:Rd H a u)(x:iR P w H h):bI P w H h a u:=by
 rcases r with r|⟨o,r⟩
 ·exact x a u r
 ·obtain⟨_,q⟩:=x a _ r;exact q
noncomputable def G9:Option HO->Prop
 |some (.lst _)=>True
 |some (.dK _)=>True
 |some (.dT _)=>True
 |some (.set _ _)=>True
 |some (.ins _ _ _)=>True
 |some (.ext _)=>True
 |_=>False
section
variable {P:Program}{w:World}{H:Hp}{h h':Heap}{x e:Addr}{o':HO}
theorem iR.write(ok:iR P w H h)(mu:G9 (H x))(he:e=x\/H e=some (.own x))(k:∀b u,b≠e->h.get? b=some u->h'.get? b=some u)(Ey:∃u,h'.get? e=some u)
  (new:bI P w (upd H x o') h' x o'):iR P w (upd H x o') h':=λb u q=>by
 have G_:∀c y,H c=some (.own y)->c≠x:=λc y r z=>by subst z;rw[r] at mu;exact mu
 have Qc:∀c xs,H c=some (.tup xs)->c≠x:=λc xs r z=>by subst z;rw[r] at mu;exact mu
 by_cases hb:b=x
 ·subst hb;rw[iD] at q;cases q;exact new
 ·rw[bT hb] at q;by_cases Az:b=e
  ·have q':H b=some (.own x):=by
    rcases he with z|z
    ·exact absurd (Az.trans z) hb
    ·rw[Az];exact z
   rw[q] at q';cases q';obtain⟨v,hv⟩:=Ey;exact⟨v,by rw[Az];exact hv⟩
  ·refine(ok b u q).stay (λc v hc r=>k c v ?_ r) (λc r=>by rw[bT (G_ c b r)];exact r) λc xs r=>by rw[bT (Qc c xs r)];exact r
   rcases hc with rfl|hc
   ·exact Az
   ·rintro rfl;rcases he with z|z
    ·exact G_ c b hc z
    ·rw[hc] at z;cases z;exact hb rfl
end
noncomputable def iY:Str:="plain_rings.<locals>.<lambda>"
noncomputable def qP:Bool:=true
def GoodC(H:Hp)(c:Addr):Prop:=∃oc u vs t,H c=some (.n6 oc u)/\oc.data=.fields vs/\vs[1]?=some (.str iY t)
inductive fL (H:Hp):List Value->Prop
 |nil:fL H []
 |cons (l m:Int) (c:Addr) (r:List Value):GoodC H c->fL H r->fL H (rawInt l::rawInt m::.ref c::r)
theorem fL.app{H:Hp}{a b:List Value}(x:fL H a)(y:fL H b):fL H (a++b):=by
 induction x with
 |nil=>exact y
 |cons l m c r g _ ih=>exact .cons l m c _ g ih
theorem fL.mono{H H':Hp}(k:∀b o u,H b=some (.n6 o u)->H' b=some (.n6 o u)){a:List Value}(x:fL H a):fL H' a:=by
 induction x with
 |nil=>exact .nil
 |cons l m c r g _ ih=>
  obtain⟨oc,u,vs,t,e,q⟩:=g;exact .cons l m c _ ⟨oc,u,vs,t,k _ _ _ e,q⟩ ih
noncomputable def jW(K:W.Frag)(c P:Addr):Bool:=match K.lookup c with
 |some o=>(match o.data with
  |.fields vs=>(match (vs[1]? : Option Value) with|some (.str q _)=>q=="plain_rings"|_=>false)&&(match (vs[11]? : Option Value) with|some (.ref p)=>p==P|_=>false)
  |_=>false)
 |none=>false
def A_(K:W.Frag)(H:Hp):Prop:=qP=true->∀c P,jW K c P=true->∃ps,H P=some (.lO ps)/\fL H ps.toList
structure Un(fs ex:List Addr)(H H':Hp)(h h':Heap):Prop where
 keep:∀b o,h.get? b=some o->H b=none->b∉fs->b∉ex->h'.get? b=some o
 slot:∀b o,h.get? b=some o->H b=none->b∈fs->b∉ex->∃sl,h'.get? b=some {o with slots:=sl}
 free:∀b o,h.get? b=some o->H b=none->b∉ex->H' b=none
 there:∀b o,h.get? b=some o->b∉ex->∃o',h'.get? b=some o'
 tups:∀b xs,H b=some (.tup xs)->H' b=some (.tup xs)
 iZ:∀b o u,H b=some (.n6 o u)->H' b=some (.n6 o u)
 jE:∀b ps,H b=some (.lO ps)->∃more,H' b=some (.lO (ps++more))/\fL H' more.toList
section
variable {fs fs' ex ex':List Addr}{H H1 H2:Hp}{h h1 h2 h':Heap}{a x e:Addr}{o:HO}
theorem Un.any(u:Un fs ex H H1 h h1){b:Addr}{ob:Obj}(q:h.get? b=some ob)(n:H b=none)(hx:b∉ex):∃sl,h1.get? b=some {ob with slots:=sl}:=by
 by_cases hb:b∈fs
 ·exact u.slot b ob q n hb hx
 ·exact⟨ob.slots,u.keep b ob q n hb hx⟩
theorem Un.kept(k:∀b u,h.get? b=some u->h'.get? b=some u):Un fs ex H H h h':=
 ⟨λb ob q _ _ _=>k b ob q,λb ob q _ _ _=>⟨ob.slots,k b ob q⟩,λ_ _ _ n _=>n,λb ob q _=>⟨ob,k b ob q⟩,λ_ _ q=>q,λ_ _ _ q=>q,λ_ ps q=>⟨#[],by rw[q];simp,.nil⟩⟩
theorem Un.refl:Un fs ex H H h h:=Un.kept λ_ _ q=>q
theorem Un.laid(k:∀b u,h.get? b=some u->h'.get? b=some u)(hp:h.objs.size<=a)(hn:H a=none):Un fs ex H (upd H a o) h h' where
 keep:=λb u q _ _ _=>k b u q
 slot:=λb u q _ _ _=>⟨u.slots,k b u q⟩
 free:=λb u q n _=>by rw[bT (cY (f9 (bQ q) hp))];exact n
 there:=λb u q _=>⟨u,k b u q⟩
 tups:=λb xs q=>by rw[bT (wQ q hn)];exact q
 iZ:=λb u xs q=>by rw[bT (wQ q hn)];exact q
 jE:=λb ps q=>⟨#[],by rw[bT (wQ q hn),q];simp,.nil⟩
theorem Un.write(mu:G9 (H x))(he:e=x\/H e=some (.own x))(k:∀b u,b≠e->h.get? b=some u->h'.get? b=some u)(Ey:∃u,h'.get? e=some u):Un fs ex H (upd H x o) h h':=by
 have hx:∀b,H b=none->b≠x:=λb n z=>by subst z;rw[n] at mu;exact mu
 have hb:∀b,H b=none->b≠e:=λb n z=>by
  subst z;rcases he with r|r
  ·exact hx b n r
  ·rw[n] at r;cases r
 have hm:∀b u,H b=some u->¬G9 (some u)->b≠x:=λb u q nm z=>by subst z;rw[q] at mu;exact nm mu
 refine⟨λb u q n _ _=>k b u (hb b n) q,λb u q n _ _=>⟨u.slots,k b u (hb b n) q⟩,λb u q n _=>by rw[bT (hx b n)];exact n,λb u q _=>?_,
  λb xs q=>by rw[bT (hm b _ q λz=>z)];exact q,λb u xs q=>by rw[bT (hm b _ q λz=>z)];exact q,λb ps q=>⟨#[],by rw[bT (hm b _ q λz=>z),q];simp,.nil⟩⟩
 by_cases Az:b=e
 ·subst Az;exact Ey
 ·exact⟨u,k b u Az q⟩
end
noncomputable def Ma(h:Heap)(H:Hp):List Addr:=(List.range h.objs.size).filter λa=>(H a).isSome
noncomputable def mK(h:Heap)(H:Hp):Heap:=PySem.W.hideAll h (Ma h H)
theorem zgM(h:Heap)(H:Hp):(mK h H).objs.size=h.objs.size:=PySem.W.hideAll_size _ _
theorem zh9{h:Heap}{H:Hp}{b:Addr}{o:Obj}(e:h.get? b=some o)(n:H b=none):(mK h H).get? b=some o:=
 PySem.W.hideAll_get _ e λhm=>by
  have q:(H b).isSome=true:=(lK.mp hm).2;rw[n] at q;simp at q
theorem ziU{h:Heap}{H:Hp}{b:Addr}{o:Obj}(e:(mK h H).get? b=some o):h.get? b=some o/\H b=none:=by
 have e':h.get? b=some o:=PySem.W.of_hideAll (Ma h H) e;refine⟨e',?_⟩;cases q:H b with
 |none=>rfl
 |some x=>
  have hm:b∈Ma h H:=lK.mpr ⟨yV.mpr (bQ e'),by simp[q]⟩;have z:(mK h H).get? b=none:=PySem.W.hideAll_none (Ma h H) hm;rw[z] at e;cases e
structure Mod(K:W.Frag)(mg:Str->Option Value)(base:Heap):Prop where
 wL:K.In base
 glob:base.Ns mainGlobals mg
 blt:∃mb,base.Ns builtinsNs mb/\∀x:Str,x≠"__name__"->mb x=bootBuiltins x
 nolimit:base.NoLimit
structure Cx where
 prog:Program
 w:World
 K:W.Frag
 mg:Str->Option Value
 base:Heap
 A:Around
 N:List Str
 s₀:Shared
 H₀:Hp
 env:Env
 outer:List Env
 stack:List Env
 ex:List Addr
 fn:Str->Bool
 aj:Bool
 pn:List (Addr×Obj)
 xe:Value->Shared->Prop
noncomputable def frs(l:List Env):List Addr:=l.filterMap (·.frame)
noncomputable abbrev Cx.fs(X:Cx):List Addr:=frs X.outer
def Mf(sc:Scope)(x:Str):Prop:=sc.names.lookup x=some .local\/sc.names.lookup x=some .cell\/sc.names.lookup x=some .free
def Loc(sc:Scope)(x:Str):Prop:=sc.names.lookup x=some .local\/sc.names.lookup x=some .cell
def Look(env:Env)(h:Heap)(m:Str->Option Value)(x:Str)(u:Value):Prop:=
 (env.kindOf x=some .local/\m x=some u)\/((env.kindOf x=some .cell\/env.kindOf x=some .free)/\∃c,env.cells.lookup x=some c/\h.IsCell c (some u))
structure Cx.Ok(X:Cx):Prop where
 mod:Mod X.K X.mg X.base
 kind:X.env.scope.kind=.function
 glob:X.env.globals=mainGlobals
 blt:X.env.builtins=builtinsNs
 above:X.s₀.heap.objs.size<=X.env.locals
 inj:∀x y c,X.env.cells.lookup x=some c->X.env.cells.lookup y=some c->x=y
 has:∀x,(X.env.kindOf x=some .cell\/X.env.kindOf x=some .free)->∃c,X.env.cells.lookup x=some c
 cab:∀x c,X.fn x=true->X.env.cells.lookup x=some c->X.s₀.heap.objs.size<=c
 hd:X.aj=true->X.A.handled=none
 frames:X.A.frames=some X.stack
 stk:X.stack=X.outer\/(X.stack=X.env::X.outer/\X.env.frame=some X.env.locals)
 Wy:∀b∈X.ex,b≠X.env.locals/\∀x c,X.env.cells.lookup x=some c->c≠b
 bs:∀b o,X.base.get? b=some o->X.s₀.heap.get? b=some o/\X.H₀ b=none
 wR:X.base.objs.size<=X.s₀.heap.objs.size
 uw:∀b o,X.base.get? b=some o->b∉X.ex
 wU:∀b∈X.ex,b∉X.fs
 jF:X.s₀.heap.FunFrames X.base X.outer
 zu:(∀b∈X.fs,X.H₀ b=none)/\A_ X.K X.H₀
structure Inv(X:Cx)(ao:List (Addr×Obj))(Z:List (Option V))(H:Hp)(s:Shared):Prop where
 ok:X.Ok
 os:s.os=X.s₀.os
 bare:AllBare s.gens
 base:Un X.fs X.ex X.H₀ H X.s₀.heap s.heap
 loc:∃m,s.heap.Ns X.env.locals m/\∀(i:Nat) (x:Str) (v:V),X.N[i]?=some x->Z[i]?=some (some v)->Mf X.env.scope x->∃u,RelV v u/\Look X.env s.heap m x u
 cell:∀x c,X.env.cells.lookup x=some c->∃v,s.heap.IsCell c v
 free:H X.env.locals=none
 gj:∀x c,X.env.cells.lookup x=some c->H c=none
 pin:∀p∈X.pn++ao,s.heap.get? p.1=some p.2/\H p.1=none/\p.1≠X.env.locals/\p.1∉X.fs/\∀v,p.2.data≠.cell v
 hok:iR X.prog X.w H s.heap
 len:Z.length=X.N.length
section
variable {X:Cx}{ao:List (Addr×Obj)}{Z:List (Option V)}{H H':Hp}{s:Shared}{h':Heap}
theorem Cx.Ok.Qd(ok:X.Ok){b:Addr}{o:Obj}(e:X.base.get? b=some o):b∉X.fs:=λhb=>by
 have:=(ok.jF.mem hb).1;rw[e] at this;cases this
theorem Inv.bs(I:Inv X ao Z H s):∀b o,X.base.get? b=some o->s.heap.get? b=some o/\H b=none:=λb o e=>
 ⟨I.base.keep b o (I.ok.bs b o e).1 (I.ok.bs b o e).2 (I.ok.Qd e) (I.ok.uw b o e),I.base.free b o (I.ok.bs b o e).1 (I.ok.bs b o e).2 (I.ok.uw b o e)⟩
theorem Inv.bk(I:Inv X ao Z H s):∀b o,X.base.get? b=some o->s.heap.get? b=some o:=λb o e=>(I.bs b o e).1
theorem Inv.mod(I:Inv X ao Z H s):Mod X.K X.mg X.base:=I.ok.mod
theorem Inv.lQ(I:Inv X ao Z H s):X.K.In s.heap:=I.ok.mod.wL.keeps I.bk
theorem Inv.nolimit(I:Inv X ao Z H s):s.heap.NoLimit:=I.ok.mod.nolimit.keeps I.bk
theorem Inv.lt(I:Inv X ao Z H s):X.env.locals<s.heap.objs.size:=let ⟨_,hn,_⟩:=I.loc;hn.lt
theorem Inv.sz(I:Inv X ao Z H s):X.s₀.heap.objs.size<=s.heap.objs.size:=jU I.ok.above (rP I.lt)
theorem Inv.Ba(I:Inv X ao Z H s):A_ X.K H:=λon c P hc=>by
 obtain⟨ps,e,g⟩:=I.ok.zu.2 on c P hc;obtain⟨more,e2,g2⟩:=I.base.jE P ps e;exact⟨ps++more,e2,by rw[Array.toList_append];exact(g.mono I.base.iZ).app g2⟩
theorem Inv.wV(I:Inv X ao Z H s){a:Addr}(h:s.heap.objs.size<=a):a∉X.fs:=λhb=>by
 obtain⟨_,o,ho,_⟩:=I.ok.jF.mem hb;exact absurd (f9 (bQ ho) (jU I.sz h)) (pP _)
theorem Inv.Bb(I:Inv X ao Z H s):∀x c,X.env.cells.lookup x=some c->c≠X.env.locals:=λx c e z=>by
 obtain⟨v,o,ho,hd⟩:=I.cell x c e;obtain⟨m,⟨o',es,ep,pU,Bc,_⟩,_⟩:=I.loc;rw[z,pU] at ho;cases ho;rw[Bc] at hd;cases hd
theorem Inv.jF(I:Inv X ao Z H s):s.heap.FunFrames X.base X.outer:=by
 have all:∀(l:List Env),(∀b∈frs l,b∈X.fs)->X.s₀.heap.FunFrames X.base l->s.heap.FunFrames X.base l:=by
  intro l
  induction l with
  |nil=>intro _ _;trivial
  |cons env r ih=>
   intro hs hl;obtain⟨hk,⟨L,o,hf,hn,ho,hd⟩,hr⟩:=hl;have hL:L∈X.fs:=hs L (by unfold frs;rw[Gu,hf];exact lq);obtain⟨sl,e⟩:=I.base.slot L o ho (I.ok.zu.1 L hL) hL λz=>I.ok.wU L z hL;exact⟨hk,⟨L,_,hf,hn,e,hd⟩,ih (λb hb=>hs b (by unfold frs;rw[Gu,hf];exact gY _ hb)) hr⟩
 exact all X.outer (λ_ hb=>hb) I.ok.jF
theorem Inv.stack(I:Inv X ao Z H s):s.heap.FunFrames X.base X.stack:=by
 rcases I.ok.stk with e|⟨e,hf⟩
 ·rw[e];exact I.jF
 ·rw[e];obtain⟨m,hn,_⟩:=I.loc;refine .cons (by rw[I.ok.kind];decide) hf hn ?_ I.jF;exact DK (jU I.ok.wR I.ok.above)
theorem Inv.jX(I:Inv X ao Z H s):∀b∈frs X.stack,b∈X.env.locals::X.fs:=λb hb=>by
 rcases I.ok.stk with e|⟨e,hf⟩
 ·rw[e] at hb;exact gY _ hb
 ·rw[e] at hb;unfold frs at hb;rw[Gu,hf] at hb;exact hb
theorem Inv.mL(I:Inv X ao Z H s):∀b∈frs X.stack,H b=none:=λb hb=>by
 rcases jm.mp (I.jX b hb) with e|hb
 ·rw[e];exact I.free
 ·obtain⟨_,o,ho,_⟩:=I.ok.jF.mem hb;exact I.base.free b o ho (I.ok.zu.1 b hb) λz=>I.ok.wU b z hb
theorem Inv.step{g':Array GenState}{t':Nat}{d':Drawn}{ch:List Addr}(I:Inv X ao Z H s)
  (vW:∀b∈ch,(b∈X.ex\/X.s₀.heap.get? b=none)/\b≠X.env.locals/\(∀x c,X.env.cells.lookup x=some c->c≠b)/\∀p∈X.pn++ao,p.1≠b)
  (keep:∀b o,b≠X.env.locals->b∉X.fs->b∉ch->s.heap.get? b=some o->H b=none->h'.get? b=some o)
  (slot:∀b o,b≠X.env.locals->b∈X.fs->b∉ch->s.heap.get? b=some o->H b=none->∃sl,h'.get? b=some {o with slots:=sl}) (free:∀b o,b∉ch->s.heap.get? b=some o->H b=none->H' b=none)
  (there:∀b o,b∉ch->s.heap.get? b=some o->∃o',h'.get? b=some o')
  (tups:∀b xs,H b=some (.tup xs)->H' b=some (.tup xs)) (iZ:∀b o u,H b=some (.n6 o u)->H' b=some (.n6 o u)) (jE:∀b ps,H b=some (.lO ps)->∃more,H' b=some (.lO (ps++more))/\fL H' more.toList)
  (ns:∀m,s.heap.Ns X.env.locals m->h'.Ns X.env.locals m) (hok:iR X.prog X.w H' h') (hg:AllBare g') :
  Inv X ao Z H' {s with heap:=h',gens:=g',drawn:=d',toks:=t'}:=by
 have Wz:∀b o,X.s₀.heap.get? b=some o->b≠X.env.locals:=λb o e=>cY (f9 (bQ e) I.ok.above);have Mg:∀b o,X.s₀.heap.get? b=some o->b∉X.ex->b∉ch:=λb o e hx hb=>by
  rcases(vW b hb).1 with z|z
  ·exact hx z
  ·rw[e] at z;cases z
 have cellK:∀x c,X.env.cells.lookup x=some c->∀v,s.heap.IsCell c v->h'.IsCell c v:=λx c e v hx=>vV hx λo ho hd=>by
  have Hg:c∉ch:=λz=>(vW c z).2.2.1 x c e rfl;by_cases hc:c∈X.fs
  ·obtain⟨sl,q⟩:=slot c o (I.Bb x c e) hc Hg ho (I.gj x c e);exact⟨_,q,hd⟩
  ·exact⟨o,keep c o (I.Bb x c e) hc Hg ho (I.gj x c e),hd⟩
 refine⟨I.ok,I.os,hg,⟨λb o e n hb hx=>?_,λb o e n hb hx=>?_,λb o e n hx=>?_,λb o e hx=>?_,λb xs e=>tups b xs (I.base.tups b xs e),λb o xs e=>iZ b o xs (I.base.iZ b o xs e),λb ps e=>?_⟩,?_,λx c e=>?_,?_,λx c e=>?_,λp hp=>?_,hok,I.len⟩
 ·exact keep b o (Wz b o e) hb (Mg b o e hx) (I.base.keep b o e n hb hx) (I.base.free b o e n hx)
 ·obtain⟨sl,e1⟩:=I.base.slot b o e n hb hx;obtain⟨sl',e2⟩:=slot b _ (Wz b o e) hb (Mg b o e hx) e1 (I.base.free b o e n hx);exact⟨sl',e2⟩
 ·obtain⟨o',e1⟩:=I.base.there b o e hx;exact free b o' (Mg b o e hx) e1 (I.base.free b o e n hx)
 ·obtain⟨o',e1⟩:=I.base.there b o e hx;exact there b o' (Mg b o e hx) e1
 ·obtain⟨m1,e1,g1⟩:=I.base.jE b ps e;obtain⟨m2,e2,g2⟩:=jE b _ e1;exact⟨m1++m2,by rw[e2,Array.append_assoc],by rw[Array.toList_append];exact(g1.mono iZ).app g2⟩
 ·obtain⟨m,hn,hl⟩:=I.loc;refine⟨m,ns m hn,λi x v e1 e2 e3=>?_⟩;obtain⟨u,r,l⟩:=hl i x v e1 e2 e3;refine⟨u,r,?_⟩;rcases l with l|⟨k,c,e,z⟩
  ·exact .inl l
  ·exact .inr ⟨k,c,e,cellK x c e _ z⟩
 ·obtain⟨v,z⟩:=I.cell x c e;exact⟨v,cellK x c e v z⟩
 ·obtain⟨m,⟨o,_,_,ho,_⟩,_⟩:=I.loc;exact free _ o (λz=>(vW _ z).2.1 rfl) ho I.free
 ·obtain⟨v,o,ho,hd⟩:=I.cell x c e;exact free c o (λz=>(vW c z).2.2.1 x c e rfl) ho (I.gj x c e)
 ·obtain⟨e,n,ne,nf,d⟩:=I.pin p hp;have Hg:p.1∉ch:=λz=>(vW p.1 z).2.2.2 p hp rfl;exact⟨keep p.1 p.2 ne nf Hg e n,free p.1 p.2 Hg e n,ne,nf,d⟩
theorem Inv.un{t':Nat}(I:Inv X ao Z H s)(u:Un X.fs [] H H' s.heap h')(hok:iR X.prog X.w H' h'):Inv X ao Z H' {s with heap:=h',toks:=t'}:=by
 obtain⟨m,⟨o,es,ep,ho,r⟩,_⟩:=id I.loc;obtain⟨sl,hL⟩:=u.any ho I.free Zaa;exact I.step (g':=s.gens) (d':=s.drawn) (ch:=[]) (λ_ z=>nomatch z) (λb o _ hb _ e n=>u.keep b o e n hb Zaa) (λb o _ hb _ e n=>u.slot b o e n hb Zaa) (λb o _ e n=>u.free b o e n Zaa) (λb o _ e=>u.there b o e Zaa) u.tups u.iZ u.jE (λm' hm=>by
  obtain⟨o',es',ep',pU,r'⟩:=hm;rw[ho] at pU;cases pU;exact⟨_,es',ep',hL,r'⟩) hok I.bare
theorem Inv.call{g':Array GenState}{t':Nat}{d':Drawn}{ch:List Addr}(I:Inv X ao Z H s)(u:Un (frs X.stack) ch H H' s.heap h')(hok:iR X.prog X.w H' h')(hg:AllBare g')
  (vW:∀b∈ch,(b∈X.ex\/X.s₀.heap.get? b=none)/\b≠X.env.locals/\(∀x c,X.env.cells.lookup x=some c->c≠b)/\∀p∈X.pn++ao,p.1≠b) :
  Inv X ao Z H' {s with heap:=h',gens:=g',drawn:=d',toks:=t'}:=by
 obtain⟨m,⟨o,es,ep,ho,r⟩,_⟩:=id I.loc;obtain⟨sl,hL⟩:=u.any ho I.free λz=>(vW _ z).2.1 rfl;exact I.step (ch:=ch) vW (λb o hL hb hc e n=>u.keep b o e n (λz=>(jm.mp (I.jX b z)).elim hL hb) hc) (λb o _ _ hc e n=>u.any e n hc) (λb o hc e n=>u.free b o e n hc) (λb o hc e=>u.there b o e hc) u.tups u.iZ u.jE (λm' hm=>by
  obtain⟨o',es',ep',pU,r'⟩:=hm;rw[ho] at pU;cases pU;exact⟨_,es',ep',hL,r'⟩) hok hg
theorem Inv.turned{t':Nat}{it:Addr}(I:Inv X ao Z H s)(k:∀b o,b≠it->s.heap.get? b=some o->h'.get? b=some o)(hn:H it=none)(hL:it≠X.env.locals)
  (h1:it∈X.ex\/X.s₀.heap.objs.size<=it) (h2:∀x c,X.env.cells.lookup x=some c->c≠it) (h3:∀p∈X.pn++ao,p.1≠it):Inv X ao Z H {s with heap:=h',toks:=t'}:=by
 have zx:∀b u,H b=some u->b≠it:=λb u e z=>by rw[z,hn] at e;cases e
 refine I.step (g':=s.gens) (d':=s.drawn) (ch:=[it]) (λb hb=>?_) (λb o _ _ hc e _=>k b o (λz=>hc (by simp[z])) e) (λb o _ _ hc e _=>⟨o.slots,k b o (λz=>hc (by simp[z])) e⟩) (λ_ _ _ _ n=>n)
  (λb o hc e=>⟨o,k b o (λz=>hc (by simp[z])) e⟩) (λ_ _ e=>e) (λ_ _ _ e=>e) (λb ps e=>⟨#[],by rw[e];simp,.nil⟩) (λm hm=>?_) (λb u e=>?_) I.bare
 ·have e:b=it:=by simpa using hb
  subst e;exact⟨h1.imp id λz=>DK z,hL,h2,h3⟩
 ·obtain⟨o,es,ep,ho,r⟩:=hm;exact⟨o,es,ep,k _ o (Ne.symm hL) ho,r⟩
 ·refine(I.hok b u e).stay (λc v hc q=>k c v ?_ q) (λ_ q=>q) λ_ _ q=>q;rcases hc with z|z
  ·rw[z];exact zx b u e
  ·exact zx c _ z
theorem Inv.tok(I:Inv X ao Z H s)(t:Nat):Inv X ao Z H {s with toks:=t}:=I.un (h':=s.heap) (t':=t) Un.refl I.hok
theorem Inv.kept{t':Nat}(I:Inv X ao Z H s)(k:∀b u,s.heap.get? b=some u->h'.get? b=some u):Inv X ao Z H {s with heap:=h',toks:=t'}:=I.un (Un.kept k) (I.hok.kept k)
theorem Inv.laid{a:Addr}{o:HO}{t':Nat}(I:Inv X ao Z H s)(k:∀b u,s.heap.get? b=some u->h'.get? b=some u)(hp:s.heap.objs.size<=a)(new:bI X.prog X.w (upd H a o) h' a o) :
  Inv X ao Z (upd H a o) {s with heap:=h',toks:=t'}:=I.un (Un.laid k hp (I.hok.fresh hp)) (I.hok.laid k hp new)
theorem Inv.write{x e:Addr}{o:HO}{t':Nat}(I:Inv X ao Z H s)(mu:G9 (H x))(he:e=x\/H e=some (.own x))(k:∀b u,b≠e->s.heap.get? b=some u->h'.get? b=some u)(Ey:∃u,h'.get? e=some u)
  (new:bI X.prog X.w (upd H x o) h' x o):Inv X ao Z (upd H x o) {s with heap:=h',toks:=t'}:=I.un (Un.write mu he k Ey) (I.hok.write mu he k Ey new)
theorem Inv.jQ{jq:List (Addr×Obj)}(I:Inv X ao Z H s)(h:∀p∈jq,s.heap.get? p.1=some p.2/\H p.1=none/\p.1≠X.env.locals/\p.1∉X.fs/\∀v,p.2.data≠.cell v):Inv X jq Z H s:=
 ⟨I.ok,I.os,I.bare,I.base,I.loc,I.cell,I.free,I.gj,λp hp=>(nG.mp hp).elim (λz=>I.pin p (Gq _ z)) (h p),I.hok,I.len⟩
theorem WD{N:List Str}(hN:N.Nodup){i j:Nat}{x:Str}(a:N[i]?=some x)(b:N[j]?=some x):i=j:=by
 obtain⟨h1,e1⟩:=fG.mp a;obtain⟨h2,e2⟩:=fG.mp b;exact(List.getElem_inj hN).mp (e1.trans e2.symm)
theorem Qe{M:Model}{A:Around}{E:Value->Shared->Prop}{i:Nat}{x:Str}{v:V}{u:Value}{Q:Unit->Shared->Prop}(I:Inv X ao Z H s)(hN:X.N.Nodup)(hi:X.N[i]?=some x)(hx:Loc X.env.scope x)(r:RelV v u)
  (h:∀s',Inv X ao (Z.set i (some v)) H s'->(∃a,Heap.SameBut a s.heap s'.heap/\(a=X.env.locals\/X.env.cells.lookup x=some a))->Q () s') (hf:X.fn x=true\/X.env.scope.names.lookup x=some .local:=by first|exact .inl rfl|exact .inr rfl|assumption):wpAny M A (storeName X.env x u) Q E s:=by
 obtain⟨m,hn,hl⟩:=id I.loc;have Qf:(X.env.scope.kind==.class||(X.env.scope.kind==.module&&X.env.locals != X.env.globals))=false:=by rw[I.ok.kind];rfl
 have WK:i<Z.length:=by rw[I.len];exact(fG.mp hi).1
 have Bb:=I.Bb;have tracked:∀{a:Addr} {h':Heap},(∃o,s.heap.get? a=some o/\H a=none)->Heap.SameBut a s.heap h'->iR X.prog X.w H h':=λ{a h'} ha hs b ob e=>by
  obtain⟨_,_,qQ⟩:=ha;refine(I.hok b ob e).stay (λc w' hc q=>(hs.2 c ?_).trans q) (λ_ q=>q) λ_ _ q=>q;rintro rfl;rcases hc with rfl|hc
  ·rw[qQ] at e;cases e
  ·rw[qQ] at hc;cases hc
 rcases hx with hk|hk
 ·refine wpAny_storeName_local hk hn (λh' Mh hs=>?_) Qf;obtain⟨oL,_,_,Bf,_⟩:=id hn;refine h _ ⟨I.ok,I.os,I.bare,⟨λb o e n hb hx=>?_,λb o e n hb hx=>?_,I.base.free,λb o e hx=>?_,I.base.tups,I.base.iZ,I.base.jE⟩,⟨_,Mh,λj y v' e1 e2 e3=>?_⟩,λy c e=>?_,I.free,I.gj,λp hp=>?_,tracked ⟨oL,Bf,I.free⟩ hs,by simpa using I.len⟩ ⟨_,hs,.inl rfl⟩
  ·exact(hs.2 b (cY (f9 (bQ e) I.ok.above))).trans (I.base.keep b o e n hb hx)
  ·obtain⟨sl,e1⟩:=I.base.slot b o e n hb hx;exact⟨sl,(hs.2 b (cY (f9 (bQ e) I.ok.above))).trans e1⟩
  ·obtain⟨o',e1⟩:=I.base.there b o e hx;exact⟨o',(hs.2 b (cY (f9 (bQ e) I.ok.above))).trans e1⟩
  ·by_cases hj:j=i
   ·subst hj;rw[hi] at e1;cases e1;rw[yP WK] at e2;cases e2;exact⟨u,r,.inl ⟨hk,by simp⟩⟩
   ·rw[qL (Ne.symm hj)] at e2;obtain⟨u',r',q⟩:=hl j y v' e1 e2 e3;refine⟨u',r',?_⟩;rcases q with ⟨k,e⟩|⟨k,c,e,z⟩
    ·refine .inl ⟨k,?_⟩;have:y≠x:=λe=>hj (WD hN e1 (e▸hi));simp[this,e]
    ·exact .inr ⟨k,c,e,z.sameBut hs (Bb y c e)⟩
  ·obtain⟨w',z⟩:=I.cell y c e;exact⟨w',z.sameBut hs (Bb y c e)⟩
  ·obtain⟨e,n,ne,nf,d⟩:=I.pin p hp;exact⟨(hs.2 p.1 ne).trans e,n,ne,nf,d⟩
 ·have Qg:X.fn x=true:=by
   rcases hf with z|z
   ·exact z
   ·rw[z] at hk;cases hk
  obtain⟨c,hc⟩:=I.ok.has x (.inl hk);obtain⟨w',z⟩:=I.cell x c hc;refine wpAny_storeName_cell I.ok.kind hk hc z (λh' lE hs=>?_);obtain⟨oc,Hj,Qh⟩:=id z;refine h {s with heap:=h'} ⟨I.ok,I.os,I.bare,⟨λb o e n hb hx=>?_,λb o e n hb hx=>?_,I.base.free,λb o e hx=>?_,I.base.tups,I.base.iZ,I.base.jE⟩,⟨m,hn.sameBut hs (Ne.symm (Bb x c hc)),λj y v' e1 e2 e3=>?_⟩,λy c' e=>?_,I.free,I.gj,λp hp=>?_,tracked ⟨oc,Hj,I.gj x c hc⟩ hs,by simpa using I.len⟩ ⟨c,hs,.inr hc⟩
  ·exact(hs.2 b (cY (f9 (bQ e) (I.ok.cab x c Qg hc)))).trans (I.base.keep b o e n hb hx)
  ·obtain⟨sl,e1⟩:=I.base.slot b o e n hb hx;exact⟨sl,(hs.2 b (cY (f9 (bQ e) (I.ok.cab x c Qg hc)))).trans e1⟩
  ·obtain⟨o',e1⟩:=I.base.there b o e hx;exact⟨o',(hs.2 b (cY (f9 (bQ e) (I.ok.cab x c Qg hc)))).trans e1⟩
  ·by_cases hj:j=i
   ·subst hj;rw[hi] at e1;cases e1;rw[yP WK] at e2;cases e2;exact⟨u,r,.inr ⟨.inl hk,c,hc,lE⟩⟩
   ·rw[qL (Ne.symm hj)] at e2;obtain⟨u',r',q⟩:=hl j y v' e1 e2 e3;refine⟨u',r',?_⟩;rcases q with q|⟨k,c',e,z'⟩
    ·exact .inl q
    ·refine .inr ⟨k,c',e,z'.sameBut hs ?_⟩;rintro rfl;exact hj (WD hN e1 (I.ok.inj _ _ _ e hc▸hi))
  ·by_cases WL:c'=c
   ·subst WL;exact⟨_,lE⟩
   ·obtain⟨w2,z2⟩:=I.cell y c' e;exact⟨w2,z2.sameBut hs WL⟩
  ·obtain⟨e,n,ne,nf,d⟩:=I.pin p hp;refine⟨(hs.2 p.1 ?_).trans e,n,ne,nf,d⟩;intro q;rw[q,Hj] at e;have q':oc=p.2:=cP e;exact d w' (by rw[<-q'];exact Qh)
theorem Hl{M:Model}{A:Around}{E:Value->Shared->Prop}{i:Nat}{x:Str}{v:V}{u:Value}{Q:Unit->Shared->Prop}(I:Inv X ao Z H s)(hN:X.N.Nodup)(hi:X.N[i]?=some x)(hx:Loc X.env.scope x)(r:RelV v u)
  (h:∀s',Inv X ao (Z.set i (some v)) H s'->Q () s') (hf:X.fn x=true\/X.env.scope.names.lookup x=some .local:=by first|exact .inl rfl|exact .inr rfl|assumption):wpAny M A (storeName X.env x u) Q E s:=
 Qe I hN hi hx r (λs' I' _=>h s' I') hf
theorem Inv.call'{s':Shared}{ch:List Addr}(I:Inv X ao Z H s)(ho:s'.os=s.os)(u:Un (frs X.stack) ch H H' s.heap s'.heap)(hok:iR X.prog X.w H' s'.heap)(hg:AllBare s'.gens)
  (vW:∀b∈ch,(b∈X.ex\/X.s₀.heap.get? b=none)/\b≠X.env.locals/\(∀x c,X.env.cells.lookup x=some c->c≠b)/\∀p∈X.pn++ao,p.1≠b):Inv X ao Z H' s':=by
 obtain⟨h',g',d',t',o'⟩:=s';have e:o'=s.os:=ho;subst e;exact I.call (g':=g') (t':=t') (d':=d') u hok hg vW
end
noncomputable abbrev XK:=Value->Option Addr->Hp->Prop
noncomputable abbrev St:=List (Option V)
noncomputable abbrev VK:=V->Hp->Prop
noncomputable abbrev TE:=St->Hp->VK->Prop
noncomputable abbrev TT:=St->Hp->(Bool->Hp->Prop)->Prop
noncomputable abbrev TA:=St->Hp->(List V->Hp->Prop)->Prop
structure Ends where
 nx:St->Hp->Prop
 rt:VK
 bk:St->Hp->Prop:=λ_ _=>False
 ct:St->Hp->Prop:=λ_ _=>False
noncomputable abbrev TS:=Ends->St->Hp->Prop
def EP(X:Cx)(ao:List (Addr×Obj))(Z:St)(Q:VK)(u:Value)(s':Shared):Prop:=∃v H',Inv X ao Z H' s'/\RelV v u/\Q v H'
def TP(X:Cx)(ao:List (Addr×Obj))(Z:St)(Q:Bool->Hp->Prop)(b:Bool)(s':Shared):Prop:=∃H',Inv X ao Z H' s'/\Q b H'
def AP(X:Cx)(ao:List (Addr×Obj))(Z:St)(Q:List V->Hp->Prop)(us:List Value)(s':Shared):Prop:=∃vs H',Inv X ao Z H' s'/\Vals vs us/\Q vs H'
def SP(X:Cx)(ao:List (Addr×Obj))(D:Ends)(f:Flow)(s':Shared):Prop:=
 match f with
 |.next=>∃Z' H',Inv X ao Z' H' s'/\D.nx Z' H'
 |.brk=>∃Z' H',Inv X ao Z' H' s'/\D.bk Z' H'
 |.cont=>∃Z' H',Inv X ao Z' H' s'/\D.ct Z' H'
 |.ret u=>∃v Z' H',Inv X ao Z' H' s'/\RelV v u/\D.rt v H'
def PE(X:Cx)(e:Expr)(t:TE):Prop:=
 ∀(ao:List (Addr×Obj)) (s:Shared) (Z:St) (H:Hp) (Q:VK),Inv X ao Z H s->t Z H Q->wpAny (model X.prog X.w) X.A (eval e X.env) (EP X ao Z Q) X.xe s
def PT(X:Cx)(e:Expr)(t:TT):Prop:=
 ∀(ao:List (Addr×Obj)) (s:Shared) (Z:St) (H:Hp) (Q:Bool->Hp->Prop),Inv X ao Z H s->t Z H Q->wpAny (model X.prog X.w) X.A (isTrue e X.env (eval e X.env)) (TP X ao Z Q) X.xe s
def PW(X:Cx)(e:Expr)(t:TT):Prop:=
 ∀(whole:Sem Value) (ao:List (Addr×Obj)) (s:Shared) (Z:St) (H:Hp) (Q:Bool->Hp->Prop),Inv X ao Z H s->t Z H Q->wpAny (model X.prog X.w) X.A (isTrue e X.env whole) (TP X ao Z Q) X.xe s
theorem Kad{X:Cx}{e:Expr}{t:TT}(h:PW X e t):PT X e t:=h _
def PA(X:Cx)(es:List Expr)(t:TA):Prop:=
 ∀(pos:Pos) (ao:List (Addr×Obj)) (s:Shared) (Z:St) (H:Hp) (Q:List V->Hp->Prop),Inv X ao Z H s->t Z H Q->wpAny (model X.prog X.w) X.A (spliced (backTo pos (starEach es X.env))) (AP X ao Z Q) X.xe s
def PS(X:Cx)(st:Stmt)(t:TS):Prop:=
 ∀(ao:List (Addr×Obj)) (s:Shared) (Z:St) (H:Hp) (D:Ends),Inv X ao Z H s->t D Z H->wpAny (model X.prog X.w) X.A (exec st X.env) (SP X ao D) X.xe s
def pW(X:Cx)(st:List Stmt)(t:TS):Prop:=
 ∀(ao:List (Addr×Obj)) (s:Shared) (Z:St) (H:Hp) (D:Ends),Inv X ao Z H s->t D Z H->wpAny (model X.prog X.w) X.A (execs st X.env) (SP X ao D) X.xe s
theorem aQ{α:Type}{t:Sem α}{Q Q':α->Shared->Prop}{M:Model}{A:Around}{E:Value->Shared->Prop}{s:Shared}(h:wpAny M A t Q E s)(hQ:∀a s,Q a s->Q' a s):wpAny M A t Q' E s:=gb h hQ λ_ _ x=>x
section
variable {X:Cx}
noncomputable def Qi(i:Nat):TE:=λZ H Q=>∃v,Z[i]?=some (some v)/\Q v H
noncomputable def tC(v:V):TE:=λ_ H Q=>Q v H
theorem WM{i:Nat}{x:Str}{pos:Pos}(hN:X.N[i]?=some x)(hv:Mf X.env.scope x)(hd:(x==("__debug__" : Str))=false:=by decide)(iG:(x==("__classdict__" : Str))=false:=by decide):PE X (.Name x pos) (Qi i):=by
 intro ao s Z H Q I h;obtain⟨v,e,h⟩:=h;obtain⟨m,hn,hl⟩:=I.loc;obtain⟨u,r,l⟩:=hl i x v hN e hv;have fin:EP X ao Z Q u s:=⟨v,H,I,r,h⟩;rcases l with ⟨hk,hm⟩|⟨hk,c,hc,qR⟩
 ·exact wpAny_Name (wpAny_loadName_local I.ok.kind hk hn hm fin) hd
 ·rcases hk with hk|hk
  ·exact wpAny_Name (wpAny_loadName_cell I.ok.kind hk hc qR fin) hd
  ·exact wpAny_Name (wpAny_loadName_free I.ok.kind hk hc qR fin iG) hd
theorem zlM{i j pos}:PE X (.Constant (.int i) j pos) (tC (.int i)):=λ_ _ _ H _ I h=>wpAny_Constant_int ⟨.int i,H,I.tok _,⟨_,rfl⟩,h⟩
theorem znz{b j pos}:PE X (.Constant (.bool b) j pos) (tC (.bl b)):=λ_ _ _ H _ I h=>Constant_bool ⟨.bl b,H,I,rfl,h⟩
theorem zlK{j pos}:PE X (.Constant .none j pos) (tC .non):=λ_ _ _ H _ I h=>Constant_none ⟨.non,H,I,rfl,h⟩
def Gl(X:Cx)(x:Str):Prop:=X.env.kindOf x=some .globalImplicit
theorem Qj{E:Value->Shared->Prop}{ao:List (Addr×Obj)}{s:Shared}{Z:St}{H:Hp}{x:Str}{u:Value}{pos:Pos}{Q:Value->Shared->Prop}(I:Inv X ao Z H s)(hg:Gl X x)(hm:X.mg x=some u)(h:Q u s)
  (hd:(x==("__debug__" : Str))=false:=by decide):wpAny (model X.prog X.w) X.A (eval (.Name x pos) X.env) Q E s:=
 Calls.Name_function_global I.ok.kind hg (Calls.loadGlobal_global (by rw[I.ok.glob];exact I.mod.glob.keeps I.bk) hm h) hd
theorem vX{E:Value->Shared->Prop}{ao:List (Addr×Obj)}{s:Shared}{Z:St}{H:Hp}{x:Str}{u:Value}{pos:Pos}{Q:Value->Shared->Prop}(I:Inv X ao Z H s)(hg:Gl X x)(hm:X.mg x=none)(hv:bootBuiltins x=some u)(h:Q u s)
  (hn:x≠"__name__":=by decide) (hd:(x==("__debug__" : Str))=false:=by decide):wpAny (model X.prog X.w) X.A (eval (.Name x pos) X.env) Q E s:=by
 obtain⟨mb,h1,h2⟩:=I.mod.blt;exact Calls.Name_function_global I.ok.kind hg (Calls.loadGlobal_builtin (by rw[I.ok.glob];exact I.mod.glob.keeps I.bk) hm (by rw[I.ok.blt];exact h1.keeps I.bk) ((h2 x hn).trans hv) h) hd
theorem zj1{x:Str}{v:V}{u:Value}{pos:Pos}(hg:Gl X x)(hm:X.mg x=some u)(r:RelV v u)(hd:(x==("__debug__" : Str))=false:=by decide):PE X (.Name x pos) (tC v):=
 λ_ _ _ H _ I h=>Qj I hg hm ⟨v,H,I,r,h⟩ hd
variable {a b:Expr}{ta tb:TE}{pos:Pos}
def PC(X:Cx)(op:CmpOp)(a b:Expr)(t:TE):Prop:=
 ∀(ao:List (Addr×Obj)) (s:Shared) (Z:St) (H:Hp) (Q:VK),Inv X ao Z H s->t Z H Q->
  wpAny (model X.prog X.w) X.A (eval a X.env) (λv s₁=>wpAny (model X.prog X.w) X.A (eval b X.env) (λu s₂=>wpAny (model X.prog X.w) X.A (compareOp op v u) (EP X ao Z Q) X.xe s₂) X.xe s₁) X.xe s
theorem n8(b:Expr){op:CmpOp}(h:op≠.In)(h2:op≠.NotIn):behindInMarks op b=false:=by
 have e1:(op==CmpOp.In)=false:=by cases op<;>first|rfl|exact absurd rfl h
 have e2:(op==CmpOp.NotIn)=false:=by cases op<;>first|rfl|exact absurd rfl h2
 cases b<;>simp[behindInMarks,e1,e2]
noncomputable def Qk(ta:TE):TE:=λZ H Q=>ta Z H λx H1=>Q (.bl (decide (x=.non))) H1
noncomputable def Ho(ta:TE):TE:=λZ H Q=>ta Z H λx H1=>Q (.bl (!decide (x=.non))) H1
theorem RelV.n_{x:V}{v:Value}(r:RelV x v):(v==Value.none)=decide (x=.non):=by
 cases x with
 |non=>cases r;rfl
 |bl _=>cases r;rfl
 |int _=>obtain⟨t,rfl⟩:=r;rfl
 |str _=>obtain⟨t,rfl⟩:=r;rfl
 |Ay _=>obtain⟨t,rfl⟩:=r;rfl
 |flt _=>obtain⟨t,rfl⟩:=r;rfl
 |ref _=>cases r;rfl
 |ty _=>cases r;rfl
theorem WQ{j pos'}(ha:PE X a ta):PC X .Is a (.Constant .none j pos') (Qk ta):=by
 intro ao s Z H Q I h;refine aQ (ha ao s Z H _ I h) λv s1 hx=>eG hx λx H1 I1 r1 q1=>?_;exact Constant_none (is_none_gen ⟨.bl _,H1,I1,by rw[r1.n_];rfl,q1⟩)
theorem WR{j pos'}(ha:PE X a ta):PC X .IsNot a (.Constant .none j pos') (Ho ta):=by
 intro ao s Z H Q I h;refine aQ (ha ao s Z H _ I h) λv s1 hx=>eG hx λx H1 I1 r1 q1=>?_;exact Constant_none (isnot_none_gen ⟨.bl _,H1,I1,by rw[r1.n_];rfl,q1⟩)
noncomputable def tB(t:TE):TT:=λZ H Q=>t Z H λx H1=>∃c,x=.bl c/\Q c H1
theorem WT{op:CmpOp}{t:TE}(h:PC X op a b t)(h1:behindInMarks op b=false:=by first|exact n8 _ RB RB|rfl):PE X (.Compare a [op] [b] pos) t:=λao s Z H Q I hw=>wpAny_Compare1 (h ao s Z H Q I hw) h1
theorem Mj{op:CmpOp}{t:TE}(h:PC X op a b t)(h1:behindInMarks op b=false:=by first|exact n8 _ RB RB|rfl):PT X (.Compare a [op] [b] pos) (tB t):=by
 intro ao s Z H Q I hw;refine wpAny_isTrue_Compare1 (aQ (h ao s Z H _ I hw) λv s1 h1=>aQ h1 λu s2 h2=>aQ h2 λc s3 hx=>eG hx λx H1 I1 r1 q1=>?_) h1;obtain⟨d,rfl,q⟩:=q1;cases r1;exact vO ⟨H1,I1,q⟩
theorem zl1{e:Expr}{t:TE}(h:PE X e t)(he:∀whole,isTrue e X.env whole=(do let v <-whole;standAt e.pos;holding [v] (truthy v)):=by intro _;rfl):PT X e (tB t):=by
 intro ao s Z H Q I hw;refine isTrue_plain (aQ (h ao s Z H _ I hw) λv s1 hx=>eG hx λx H1 I1 r1 q1=>?_) (he _);obtain⟨d,rfl,q⟩:=q1;cases r1;exact vO ⟨H1,I1,q⟩
variable {tA Ml:TT}{rest:List Expr}
noncomputable def Ql(t u:TT):TT:=λZ H Q=>t Z H λc H1=>if c=true then u Z H1 Q else Q false H1
noncomputable def tOr(t u:TT):TT:=λZ H Q=>t Z H λc H1=>if c=true then Q true H1 else u Z H1 Q
noncomputable def Qm(t:TT):TT:=λZ H Q=>t Z H λc H1=>Q (!c) H1
theorem zjx(ha:PT X a tA):PW X (.BoolOp .And [a] pos) tA:=by
 intro wh ao s Z H Q I h;refine isTrue_and (aQ (ha ao s Z H Q I h) λc s1 e=>?_);cases c with
 |true=>exact isTrue_and_nil e
 |false=>exact e
theorem zkO(ha:PT X a tA):PW X (.BoolOp .Or [a] pos) tA:=by
 intro wh ao s Z H Q I h;refine isTrue_or (aQ (ha ao s Z H Q I h) λc s1 e=>?_);cases c with
 |false=>exact isTrue_or_nil e
 |true=>exact e
theorem zk2(ha:PT X a tA)(hb:PW X (.BoolOp .And (b::rest) pos) Ml):PW X (.BoolOp .And (a::b::rest) pos) (Ql tA Ml):=by
 intro wh ao s Z H Q I h;refine isTrue_and (aQ (ha ao s Z H _ I h) λc s1 hx=>vV hx λH1 I1 q1=>?_);cases c with
 |true=>exact hb wh ao s1 Z H1 Q I1 q1
 |false=>exact⟨H1,I1,q1⟩
theorem znu(ha:PT X a tA)(hb:PW X (.BoolOp .Or (b::rest) pos) Ml):PW X (.BoolOp .Or (a::b::rest) pos) (tOr tA Ml):=by
 intro wh ao s Z H Q I h;refine isTrue_or (aQ (ha ao s Z H _ I h) λc s1 hx=>vV hx λH1 I1 q1=>?_);cases c with
 |true=>exact⟨H1,I1,q1⟩
 |false=>exact hb wh ao s1 Z H1 Q I1 q1
theorem zl6(ha:PT X a tA):PT X (.UnaryOp .Not a pos) (Qm tA):=by
 intro ao s Z H Q I h;exact isTrue_not (ha ao s Z H (λc H1=>Q (!c) H1) I h)
noncomputable def Hq(ta tb:TE):TE:=λZ H Q=>ta Z H λx H1=>∃c,x=.bl c/\if c=true then tb Z H1 Q else Q (.bl false) H1
noncomputable def Qn(ta tb:TE):TE:=λZ H Q=>ta Z H λx H1=>∃c,x=.bl c/\if c=true then Q (.bl true) H1 else tb Z H1 Q
noncomputable def Hr(ta:TE):TE:=λZ H Q=>ta Z H λx H1=>∃c,x=.bl c/\Q (.bl (!c)) H1
theorem zmt{op}{t:TE}(h:PE X a t):PE X (.BoolOp op [a] pos) t:=λao s Z H Q I hw=>BoolOp_one (h ao s Z H Q I hw)
theorem zlz(ha:PE X a ta)(hb:PE X (.BoolOp .And (b::rest) pos) tb):PE X (.BoolOp .And (a::b::rest) pos) (Hq ta tb):=by
 intro ao s Z H Q I h;refine BoolOp_and (aQ (ha ao s Z H _ I h) λv s1 hx=>eG hx λx H1 I1 r1 q1=>?_);obtain⟨c,rfl,q1⟩:=q1;cases r1;refine vO ?_;cases c with
 |true=>exact hb ao s1 Z H1 Q I1 q1
 |false=>exact⟨.bl false,H1,I1,rfl,q1⟩
theorem zm0(ha:PE X a ta)(hb:PE X (.BoolOp .Or (b::rest) pos) tb):PE X (.BoolOp .Or (a::b::rest) pos) (Qn ta tb):=by
 intro ao s Z H Q I h;refine BoolOp_or (aQ (ha ao s Z H _ I h) λv s1 hx=>eG hx λx H1 I1 r1 q1=>?_);obtain⟨c,rfl,q1⟩:=q1;cases r1;refine vO ?_;cases c with
 |false=>exact hb ao s1 Z H1 Q I1 q1
 |true=>exact⟨.bl true,H1,I1,rfl,q1⟩
theorem zkG(ha:PE X a ta):PE X (.UnaryOp .Not a pos) (Hr ta):=by
 intro ao s Z H Q I h;refine UnaryOp_ (aQ (ha ao s Z H _ I h) λv s1 hx=>eG hx λx H1 I1 r1 q1=>?_);obtain⟨c,rfl,q1⟩:=q1;cases r1;exact not_of (vO ⟨.bl (!c),H1,I1,rfl,q1⟩)
noncomputable def tIf(t:TT)(ta tb:TE):TE:=λZ H Q=>t Z H λc H1=>if c=true then ta Z H1 Q else tb Z H1 Q
theorem zho{c:Expr}(hc:PT X c tA)(ha:PE X a ta)(hb:PE X b tb):PE X (.IfExp c a b pos) (tIf tA ta tb):=by
 intro ao s Z H Q I h;refine wpAny_IfExp (aQ (hc ao s Z H _ I h) λd s1 hx=>vV hx λH1 I1 q1=>?_);cases d with
 |true=>exact ha ao s1 Z H1 Q I1 q1
 |false=>exact hb ao s1 Z H1 Q I1 q1
end
def cT(K:W.Frag)(H:Hp)(a:Addr)(xs:List V):Prop:=
 Rd H a (.lst xs) \/
  ∃(o:Obj) (its:Array Value) (n:Nat),K.lookup a=some o/\o.cls=.type "list"/\o.dict=none/\o.data=.seq its n/\its.size<=sizeLine/\Vals xs its.toList
def gP(K:W.Frag)(H:Hp)(a:Addr)(xs:List V):Prop:=
 Rd H a (.tup xs) \/
  ∃(o:Obj) (its:Array Value) (n:Nat),K.lookup a=some o/\o.cls=.type "tuple"/\o.data=.seq its n/\its.size<=sizeLine/\Vals xs its.toList
noncomputable def Qo:Value->Option V
 |.none=>some .non
 |.bool b=>some (.bl b)
 |.int i _=>some (.int i)
 |.str x _=>some (.str x)
 |.bytes b _=>some (.Ay b)
 |.float b _=>some (.flt b)
 |.ref a=>some (.ref a)
 |.type n=>some (.ty n)
 |_=>none
theorem RelV.abs{x:V}{u:Value}(r:RelV x u):Qo u=some x:=by
 cases x with
 |non=>cases r;rfl
 |bl _=>cases r;rfl
 |int _=>obtain⟨t,rfl⟩:=r;rfl
 |str _=>obtain⟨t,rfl⟩:=r;rfl
 |Ay _=>obtain⟨t,rfl⟩:=r;rfl
 |flt _=>obtain⟨t,rfl⟩:=r;rfl
 |ref _=>cases r;rfl
 |ty _=>cases r;rfl
theorem RelV.inj{x y:V}{u:Value}(r:RelV x u)(q:RelV y u):x=y:=cP (r.abs.symm.trans q.abs)
theorem Vals.inj{xs ys:List V}{us:List Value}(h:Vals xs us)(h':Vals ys us):xs=ys:=by
 induction h generalizing ys with
 |nil=>cases h';rfl
 |cons r _ ih=>
  cases h' with
  |cons r' t'=>rw[r.inj r',ih t']
section
variable {X:Cx}{ao:List (Addr×Obj)}{Z:St}{H:Hp}{s:Shared}{a:Addr}{xs ys:List V}
theorem cT.of{K:W.Frag}(h:H a=some (.lst xs)):cT K H a xs:=.inl (.inl h)
theorem Inv.list(I:Inv X ao Z H s)(h:cT X.K H a xs):∃its:List Value,Vals xs its/\PlainL s.heap a its.toArray/\xs.length<=sizeLine:=by
 rcases h with h|⟨o,its,n,hk,hc,hd,hs,hz,r⟩
 ·obtain⟨z,its,n,r,e⟩:=h.ok I.hok;exact⟨its,r,⟨_,n,e,rfl,rfl,rfl⟩,z⟩
 ·refine⟨its.toList,r,⟨o,n,I.lQ a o hk,hc,hd,by simpa using hs⟩,?_⟩;have e:=r.length;simp only[pL] at e
  lia
theorem Inv.tuple(I:Inv X ao Z H s)(h:gP X.K H a xs):∃its:List Value,Vals xs its/\IsTup s.heap a its.toArray/\xs.length<=sizeLine:=by
 rcases h with h|⟨o,its,n,hk,hc,hs,hz,r⟩
 ·obtain⟨z,its,r,p⟩:=h.ok I.hok;exact⟨its,r,p,z⟩
 ·refine⟨its.toList,r,⟨o,I.lQ a o hk,hc,n,by simpa using hs⟩,?_⟩;have e:=r.length;simp only[pL] at e
  lia
theorem Inv.oh(I:Inv X ao Z H s)(h:cT X.K H a xs)(h':cT X.K H a ys):xs=ys:=by
 obtain⟨its,r,⟨o,n,e,_,_,d⟩,_⟩:=I.list h;obtain⟨its',r',⟨o',n',e',_,_,d'⟩,_⟩:=I.list h';rw[e] at e';cases e';rw[d] at d';injection d' with d1 _;have:its=its':=by simpa using lu Array.toList d1
 subst this;exact r.inj r'
theorem Inv.lR(I:Inv X ao Z H s)(h:gP X.K H a xs)(h':gP X.K H a ys):xs=ys:=by
 obtain⟨its,r,⟨o,e,_,n,d⟩,_⟩:=I.tuple h;obtain⟨its',r',⟨o',e',_,n',d'⟩,_⟩:=I.tuple h';rw[e] at e';cases e';rw[d] at d';injection d' with d1 _;have:its=its':=by simpa using lu Array.toList d1
 subst this;exact r.inj r'
end
section
variable {X:Cx}{st:Stmt}{rest:List Stmt}{t u:TS}{e:Expr}{te:TE}{pos:Pos}
noncomputable def Hs:TS:=λD Z H=>D.nx Z H
noncomputable def Qp(t u:TS):TS:=λD Z H=>t {D with nx:=u D} Z H
theorem WW:pW X [] Hs:=λ_ _ Z H _ I h=>wpAny_execs_nil ⟨Z,H,I,h⟩
theorem WX(h1:PS X st t)(h2:pW X rest u):pW X (st::rest) (Qp t u):=by
 intro ao s Z H D I h;refine wpAny_execs_cons (aQ (h1 ao s Z H {D with nx:=u D} I h) λf s1 q=>?_);cases f with
 |next=>
  obtain⟨Z',H',I',q⟩:=q;exact h2 ao s1 Z' H' D I' q
 |ret v=>exact q
 |brk=>exact q
 |cont=>exact q
theorem Inv.quiet{ao:List (Addr×Obj)}{Z:St}{H:Hp}{s:Shared}(I:Inv X ao Z H s):interactive X.env=false:=by simp[interactive,I.ok.kind]
noncomputable def Ht(te:TE):TS:=λD Z H=>te Z H λ_ H1=>D.nx Z H1
theorem zjf(he:PE X e te)(hs:swapsWith e none pos.line X.env=pure false:=by rfl):PS X (.Expr e pos) (Ht te):=by
 intro ao s Z H D I h;exact wpAny_Expr_any (aQ (he ao s Z H _ I h) λv s1 hx=>eG hx λx H1 I1 r1 q1=>⟨Z,H1,I1,q1⟩) I.quiet hs
noncomputable def Qq(te:TE):TS:=λD Z H=>te Z H D.rt
theorem zlY(he:PE X e te):PS X (.Return (some e) pos) (Qq te):=by
 intro ao s Z H D I h;exact wpAny_Return_some (aQ (he ao s Z H _ I h) λv s1 hx=>eG hx λx H1 I1 r1 q1=>⟨x,Z,H1,I1,r1,q1⟩)
noncomputable def Qs(c:TT)(t u:TS):TS:=λD Z H=>c Z H λb H1=>if b=true then t D Z H1 else u D Z H1
theorem znU{c:Expr}{a b:List Stmt}{tc:TT}(hc:PT X c tc)(ha:pW X a t)(hb:pW X b u):PS X (.If c a b pos) (Qs tc t u):=by
 intro ao s Z H D I h;refine wpAny_If (aQ (hc ao s Z H _ I h) λd s1 hx=>vV hx λH1 I1 q1=>?_);cases d with
 |true=>exact ha ao s1 Z H1 D I1 q1
 |false=>exact hb ao s1 Z H1 D I1 q1
end
noncomputable abbrev TG:=V->St->Hp->(St->Hp->Prop)->Prop
noncomputable abbrev Bg:=List V->St->Hp->(St->Hp->Prop)->Prop
def PG(X:Cx)(target:Expr)(t:TG):Prop:=
 ∀(ao:List (Addr×Obj)) (s:Shared) (Z:St) (H:Hp) (v:V) (u:Value) (Q:St->Hp->Prop),Inv X ao Z H s->RelV v u->t v Z H Q->
  wpAny (model X.prog X.w) X.A (assign target X.env u) (λ_ s'=>∃Z' H',Inv X ao Z' H' s'/\Q Z' H') X.xe s
def Mp(X:Cx)(ts:List Expr)(t:Bg):Prop:=
 ∀(ao:List (Addr×Obj)) (s:Shared) (Z:St) (H:Hp) (vs:List V) (us:List Value) (Q:St->Hp->Prop),Inv X ao Z H s->Vals vs us->t vs Z H Q->
  wpAny (model X.prog X.w) X.A (assignInOrder ((assignEach ts X.env).map (·.2)) us) (λ_ s'=>∃Z' H',Inv X ao Z' H' s'/\Q Z' H') X.xe s
noncomputable abbrev Bh:=V->V->V->Hp->(Hp->Prop)->Prop
def Hu(X:Cx)(t:Bh):Prop:=
 ∀(ao:List (Addr×Obj)) (s:Shared) (Z:St) (H:Hp) (o i v:V) (ov iv u:Value) (Q:Hp->Prop),Inv X ao Z H s->RelV o ov->RelV i iv->RelV v u->t o i v H Q->
  wpAny (model X.prog X.w) X.A (setItem ov iv u) (λ_ s'=>∃H',Inv X ao Z H' s'/\Q H') X.xe s
noncomputable abbrev Mq:=V->V->Hp->VK->Prop
def WY(X:Cx)(op:Operator)(t:Mq):Prop:=
 ∀(ao:List (Addr×Obj)) (s:Shared) (Z:St) (H:Hp) (x y:V) (v u:Value) (Q:VK),Inv X ao Z H s->RelV x v->RelV y u->t x y H Q->
  wpAny (model X.prog X.w) X.A (inplaceOp op v u) (EP X ao Z Q) X.xe s
section
variable {X:Cx}{pos:Pos}
noncomputable def dO(i:Nat):TG:=λv Z H Q=>Q (Z.set i (some v)) H
theorem Mr{i:Nat}{x:Str}(hN:X.N.Nodup)(hi:X.N[i]?=some x)(hx:Loc X.env.scope x)(hf:X.fn x=true\/X.env.scope.names.lookup x=some .local:=by first|exact .inl rfl|exact .inr rfl|assumption):PG X (.Name x pos) (dO i):=by
 intro ao s Z H v u Q I r h;exact wpAny_assign_Name (Hl I hN hi hx r (λs' I'=>⟨_,H,I',h⟩) hf)
noncomputable def ux:Bg:=λvs Z H Q=>vs=[]/\Q Z H
noncomputable def iH(t:TG)(u:Bg):Bg:=λvs Z H Q=>∃v r,vs=v::r/\t v Z H λZ' H'=>u r Z' H' Q
theorem zi5:Mp X [] ux:=by
 intro ao s Z H vs us Q I r h;obtain⟨e,h⟩:=h;subst e;cases r;exact assignInOrder_nil ⟨Z,H,I,h⟩
theorem W0{e:Expr}{es:List Expr}{t:TG}{u:Bg}(h1:PG X e t)(h2:Mp X es u)
  (hs:(assignEach (e::es) X.env).map (·.2)=assign e X.env::(assignEach es X.env).map (·.2):=by rfl):Mp X (e::es) (iH t u):=by
 intro ao s Z H vs us Q I r h;obtain⟨v,vr,e1,h⟩:=h;subst e1;cases r with
 |cons r rr=>
  rw[hs];refine assignInOrder_cons (aQ (h1 ao s Z H _ _ _ I r h) λ_ s1 ⟨Z1,H1,I1,q1⟩=>?_);exact h2 ao s1 Z1 H1 _ _ Q I1 rr q1
noncomputable def uy(K:W.Frag)(n:Nat)(t:Bg):TG:=λv Z H Q=>∃a xs,v=.ref a/\gP K H a xs/\xs.length=n/\t xs Z H Q
theorem zlf{es:List Expr}{k:Nat}{t:Bg}{n:Nat}(hc:X.aj=true)(h:Mp X es t)
  (hn:(assignEach es X.env).length=n:=by rfl) (Bj:(assignEach es X.env).findIdx? (·.1)=none:=by rfl):PG X (.Tuple es k pos) (uy X.K n t):=by
 intro ao s Z H v u Q I r hw;obtain⟨a,xs,e1,hq,hl,hw⟩:=hw;subst e1;cases r;obtain⟨its,rv,ht,hz⟩:=I.tuple hq;refine assign_Tuple_tuple (I.ok.hd hc) ht (by simp[hn,<-hl,rv.length]) Bj λh' hx=>?_;have I1:Inv X ao Z H {s with heap:=h'}:=I.kept (t':=s.toks) λb o e=>hx b o (cY (bQ e)) e;exact h ao _ Z H xs _ Q I1 (by simpa using rv) hw
noncomputable def Qt(to ti:TE)(t:Bh):TG:=λv Z H Q=>to Z H λo H1=>ti Z H1 λi H2=>t o i v H2 λH3=>Q Z H3
theorem zmo{o i:Expr}{to ti:TE}{t:Bh}(ho:PE X o to)(hi:PE X i ti)(hs:Hu X t)
  (ha:∀v,assign (.Subscript o i pos) X.env v=(do
   let ov <-holding [v] (eval o X.env)
   let iv <-holding [v,ov] (eval i X.env)
   standAt pos
   holding [v,ov,iv] (setItem ov iv v)
   release [v,ov,iv] []):=by intro _;rfl):PG X (.Subscript o i pos) (Qt to ti t):=by
 intro ao s Z H v u Q I r h;rw[ha];refine aA (pQ (aQ (ho ao s Z H _ I h) λov s1 hx=>eG hx λx H1 I1 r1 q1=>?_));refine aA (pQ (aQ (hi ao s1 Z H1 _ I1 q1) λiv s2 hx=>eG hx λy H2 I2 r2 q2=>?_));refine aA (ug (aA (pQ (aQ (hs ao s2 Z H2 x y v ov iv u _ I2 r1 r2 r q2) λ_ s3 hx=>vV hx λH3 I3 q3=>?_))));exact wpAny_release ⟨Z,H3,I3,q3⟩
noncomputable def wW(te:TE)(g:TG):TS:=λD Z H=>te Z H λx H1=>g x Z H1 D.nx
theorem W2{tg e:Expr}{te:TE}{g:TG}(he:PE X e te)(hg:PG X tg g)(hs:swapsWithSole [tg] e pos.line X.env=pure false:=by rfl)(hw:swappedStores [tg] e X.env=pure none:=by rfl)
  (h1:(assignEach [tg] X.env).map (·.2)=[assign tg X.env]:=by rfl):PS X (.Assign [tg] e pos) (wW te g):=by
 intro ao s Z H D I h;refine wpAny_Assign_stores (aQ (he ao s Z H _ I h) λv s1 hx=>eG hx λx H1 I1 r1 q1=>?_) hs hw;rw[h1];exact aQ (hg ao s1 Z H1 x v _ I1 r1 q1) λ_ s2 q=>q
theorem zlU{i:Nat}{x:Str}{e:Expr}{te:TE}{pos':Pos}(hN:X.N.Nodup)(hi:X.N[i]?=some x)(hx:Loc X.env.scope x)(he:PE X e te)(hs:swapsWith e (some (.Name x pos')) pos.line X.env=pure false:=by rfl)(hf:X.fn x=true\/X.env.scope.names.lookup x=some .local:=by first|exact .inl rfl|exact .inr rfl|assumption) :
  PS X (.Assign [.Name x pos'] e pos) (wW te (dO i)):=by
 intro ao s Z H D I h;refine wpAny_Assign_Name (aQ (he ao s Z H _ I h) λv s1 ⟨y,H1,I1,r1,q1⟩=>?_) hs;exact Hl I1 hN hi hx r1 (λs2 I2=>⟨_,H1,I2,q1⟩) hf
noncomputable def Qu(i j:Nat)(ta:TA):TS:=λD Z H=>ta Z H λvs H1=>∃v w,vs=[v,w]/\D.nx ((Z.set i (some v)).set j (some w)) H1
theorem zls{i j:Nat}{x y:Str}{a b:Expr}{ta:TA}{px py pt:Pos}{kt k2 uz}(hc:X.aj=true)(hN:X.N.Nodup)(hi:X.N[i]?=some x)(hj:X.N[j]?=some y)(wX:i≠j)
  (hx:X.env.scope.names.lookup x=some .local) (hy:X.env.scope.names.lookup y=some .local) (ha:PA X [a,b] ta)
  (hw:swappedStores [.Tuple [.Name x px,.Name y py] kt pt] (.Tuple [a,b] k2 uz) X.env=pure (some [x,y]))
  (hs:swapsWithSole [.Tuple [.Name x px,.Name y py] kt pt] (.Tuple [a,b] k2 uz) pos.line X.env=pure false:=by rfl) :
  PS X (.Assign [.Tuple [.Name x px,.Name y py] kt pt] (.Tuple [a,b] k2 uz) pos) (Qu i j ta):=by
 intro ao s Z H D I h;rw[exec_Assign_arm];refine aA (ug ?_);rw[hs];refine aA (aP ?_);rw[if_neg RB];refine aA (Tuple_ (aQ (ha _ ao s Z H _ I h) λus s1 ⟨vs,H1,I1,r1,q1⟩=>?_));obtain⟨v,w,e1,q1⟩:=q1;subst e1;obtain⟨u1,u2,rfl,rv,jY⟩ : ∃u1 u2,us=[u1,u2]/\RelV v u1/\RelV w u2:=by
  cases r1 with
  |cons p q=>
   cases q with
   |cons p' q'=>
    cases q';exact⟨_,_,rfl,p,p'⟩
 refine tO ?_ (by show 2<=sizeLine;decide);have I2:Inv X ao Z H1 {s1 with heap:=s1.heap.push {cls:=.type "tuple",data:=.seq [u1,u2].toArray}}:=I1.kept (t':=s1.toks) λb o e=>cD _ e;rw[hw];refine aA (aP ?_);show wpAny (model X.prog X.w) X.A (do rule "assign.swapped-stores";let items <-unpackItems (.ref s1.heap.objs.size) 2 none;assignInOrder [λv=>bindName X.env y v,λv=>bindName X.env x v] items.reverse;pure Flow.next) _ _ _;refine aA (zc (aA (unpackItems_tuple (items:=#[u1,u2]) (I.ok.hd hc) (IsTup.new s1.heap _) λh' hx'=>?_)));have I3:=I2.kept (h':=h') (t':=s1.toks) λb o e=>hx' b o (cY (bQ e)) e;show wpAny _ _ (assignInOrder [λv=>bindName X.env y v,λv=>bindName X.env x v] [u2,u1] >>= λ_=>pure Flow.next) _ _ _;refine aA (assignInOrder_cons (wpAny_bindName (Hl I3 hN hj (.inl hy) jY (λs2 I4=>?_) (.inr hy))));refine assignInOrder_cons (wpAny_bindName (Hl I4 hN hi (.inl hx) rv (λs3 I5=>assignInOrder_nil (aP ?_)) (.inr hx)));rw[List.set_comm _ _ (Ne.symm wX)] at I5;exact⟨_,H1,I5,q1⟩
noncomputable def Hv(i:Nat)(te:TE)(ti:Mq):TS:=λD Z H=>∃x,Z[i]?=some (some x)/\te Z H λy H1=>ti x y H1 λz H2=>D.nx (Z.set i (some z)) H2
theorem zlQ{i:Nat}{x:Str}{e:Expr}{te:TE}{op:Operator}{ti:Mq}{pos':Pos}(hN:X.N.Nodup)(hi:X.N[i]?=some x)(hx:Loc X.env.scope x)(he:PE X e te)(ho:WY X op ti)(hf:X.fn x=true\/X.env.scope.names.lookup x=some .local:=by first|exact .inl rfl|exact .inr rfl|assumption) :
  PS X (.AugAssign (.Name x pos') op e pos) (Hv i te ti):=by
 intro ao s Z H D I h;obtain⟨v,e1,h⟩:=h;obtain⟨m,hn,hl⟩:=I.loc;have vis:Mf X.env.scope x:=by rcases hx with k|k;exact .inl k;exact .inr (.inl k)
 obtain⟨u,r,l⟩:=hl i x v hi e1 vis;refine wpAny_AugAssign_Name ?_;have go:wpAny (model X.prog X.w) X.A (eval e X.env) (λw s₂=>wpAny (model X.prog X.w) X.A (inplaceOp op u w) (λr s₃=>wpAny (model X.prog X.w) X.A (storeName X.env x r) (λ_=>SP X ao D .next) X.xe s₃) X.xe s₂) X.xe s:=by
  refine aQ (he ao s Z H _ I h) λw s1 ⟨y,H1,I1,r1,q1⟩=>?_;refine aQ (ho ao s1 Z H1 v y u w _ I1 r r1 q1) λz s2 ⟨zv,H2,I2,r2,q2⟩=>?_;exact Hl I2 hN hi hx r2 (λs3 I3=>⟨_,H2,I3,q2⟩) hf
 rcases l with ⟨hk,hm⟩|⟨hk,c,hc,qR⟩
 ·exact wpAny_loadName_local I.ok.kind hk hn hm go
 ·rcases hk with hk|hk
  ·exact wpAny_loadName_cell I.ok.kind hk hc qR go
  ·rcases hx with k|k
   ·have:X.env.scope.names.lookup x=some .free:=hk;rw[k] at this;cases this
   ·have:X.env.scope.names.lookup x=some .free:=hk;rw[k] at this;cases this
noncomputable def W3(f:Int->Int->Int):Mq:=λx y H Q=>∃i j,x=.int i/\y=.int j/\Q (.int (f i j)) H
theorem zlC:WY X .Add (W3 λi j=>i+j):=by
 intro ao s Z H x y v u Q I r1 r2 h;obtain⟨i,j,e1,e2,q⟩:=h;subst e1;subst e2;obtain⟨t,rfl⟩:=r1;obtain⟨t',rfl⟩:=r2;exact iadd_int ⟨.int _,H,I.tok _,⟨_,rfl⟩,q⟩
end
section
variable {X:Cx}{pos:Pos}
noncomputable def Bk(c:TT)(tb:TS):TS:=λD Z H=>∃W:Nat->St->Hp->Prop,(∃m,W m Z H)/\∀m Z H,W m Z H->
 c Z H λb H1=>if b=true then ∃N:St->Hp->Prop,(∀Z' H',N Z' H'->∃m',m'<m/\W m' Z' H')/\tb {D with nx:=N,ct:=N,bk:=D.nx} Z H1 else D.nx Z H1
theorem zhC{c:Expr}{body:List Stmt}{tc:TT}{tb:TS}(hp:PassesOwn (model X.prog X.w) X.A X.env X.xe)(hc:PT X c tc)(hb:pW X body tb):PS X (.While c body [] pos) (Bk tc tb):=by
 intro ao s Z H D I h;obtain⟨W,⟨m0,w0⟩,turn⟩:=h;refine wpAny_While (codeAny_whileLoop (λn s'=>∃Z' H',Inv X ao Z' H' s'/\W n Z' H') ?_ m0 ⟨Z,H,I,w0⟩);rintro n s1 ⟨Z1,H1,I1,w1⟩;refine Ao hp (aQ (hc ao s1 Z1 H1 _ I1 (turn n Z1 H1 w1)) λb s2 hx=>vV hx λH2 I2 q2=>?_);cases b with
 |true=>
  obtain⟨N,hN,q2⟩:=q2;rw[if_pos rfl];refine Ao hp (aQ (hb ao s2 Z1 H2 _ I2 q2) λf s3 q3=>?_);cases f with
  |next=>
   obtain⟨Z3,H3,I3,n3⟩:=q3;obtain⟨m',hm,w3⟩:=hN Z3 H3 n3;exact⟨m',hm,Z3,H3,I3,w3⟩
  |cont=>
   obtain⟨Z3,H3,I3,n3⟩:=q3;obtain⟨m',hm,w3⟩:=hN Z3 H3 n3;exact⟨m',hm,Z3,H3,I3,w3⟩
  |brk=>exact q3
  |ret v=>exact q3
 |false=>
  rw[if_neg Gv];exact wpAny_execs_nil ⟨Z1,H2,I2,q2⟩
end
structure It where
 go:Nat->Hp->Prop
 uD:Nat->Hp->V->Hp->Prop
 stop:Nat->Hp->Prop
def fO(X:Cx)(ao:List (Addr×Obj))(H:Hp)(b:Addr):Prop:=
 H b=none/\b≠X.env.locals/\b∉X.fs/\(b∈X.ex\/X.s₀.heap.objs.size<=b)/\(∀x c,X.env.cells.lookup x=some c->c≠b)/\∀p∈X.pn++ao,p.1≠b
theorem Inv.uE{X:Cx}{ao:List (Addr×Obj)}{Z:St}{H H':Hp}{s:Shared}{b:Addr}(I:Inv X ao Z H s)(hb:s.heap.objs.size<=b)(hn:H' b=none):fO X ao H' b:=by
 refine⟨hn,pR (f9 I.lt hb),I.wV hb,.inr (jU I.sz hb),λx c e z=>?_,λp hp z=>?_⟩
 ·obtain⟨v,q⟩:=I.cell x c e;exact absurd (f9 q.lt (by rw[z];exact hb)) (pP _)
 ·exact absurd (f9 (bQ (I.pin p hp).1) (by rw[z];exact hb)) (pP _)
structure Turn(P:Program)(w:World)(K:W.Frag)(tg:Expr)(aZ:It)(fp:List Addr)(it:Addr)(tn:Nat->Heap->Prop):Prop where
 mem:it∈fp
 obj:∀i h,tn i h->∀b∈fp,∃o,h.get? b=some o/\∀v,o.data≠.cell v
 keep:∀i h h',tn i h->(∀b∈fp,∀o,h.get? b=some o->h'.get? b=some o)->tn i h'
 item:∀(X:Cx),X.prog=P->X.w=w->X.K=K->X.aj=true->∀(i:Nat) (ao:List (Addr×Obj)) (s:Shared) (Z:St) (H:Hp) (E:Value->Shared->Prop),Inv X ao Z H s->(∀b∈fp,fO X ao H b)->tn i s.heap->aZ.go i H->
  wpAny (model P w) X.A (pyNext (.ref it)) (λr s1=>∃u,r=some u /\
   wpAny (model P w) X.A (letOwnedTupleGo tg (.ref it) u) (λ_ s2=>∃x H',Inv X ao Z H' s2/\RelV x u/\aZ.uD i H x H'/\tn (i+1) s2.heap/\∀b∈fp,H' b=none) E s1) E s
 done:∀(X:Cx),X.prog=P->X.w=w->X.K=K->X.aj=true->∀(i:Nat) (ao:List (Addr×Obj)) (s:Shared) (Z:St) (H:Hp) (E:Value->Shared->Prop),Inv X ao Z H s->(∀b∈fp,fO X ao H b)->tn i s.heap->aZ.stop i H->
  wpAny (model P w) X.A (pyNext (.ref it)) (λr s1=>r=none/\Inv X ao Z H s1) E s
 self:∀(A:Around) (i:Nat) (s:Shared) (Q:Value->Shared->Prop) (E:Value->Shared->Prop),tn i s.heap->Q (.ref it) s->wpAny (model P w) A (pyIter (.ref it)) Q E s
noncomputable abbrev TI:=St->Hp->(It->Hp->Prop)->Prop
def PIE(X:Cx)(ao:List (Addr×Obj))(Z:St)(tg:Expr)(R:It->Hp->Prop)(itv:Value)(s2:Shared):Prop:=
 ∃(it:Addr) (fp:List Addr) (tn:Nat->Heap->Prop) (aZ:It) (H':Hp),itv=.ref it/\Inv X ao Z H' s2/\Turn X.prog X.w X.K tg aZ fp it tn/\tn 0 s2.heap/\(∀b∈fp,fO X ao H' b)/\R aZ H'
def PI(X:Cx)(tg iter:Expr)(wi:TI):Prop:=
 ∀(ao:List (Addr×Obj)) (s:Shared) (Z:St) (H:Hp) (R:It->Hp->Prop),Inv X ao Z H s->wi Z H R->
  wpAny (model X.prog X.w) X.A (eval iter X.env) (λv s1=>wpAny (model X.prog X.w) X.A (pyIter v) (PIE X ao Z tg R) X.xe s1) X.xe s
theorem Qv{M:Model}{A:Around}{E:Value->Shared->Prop}{s:Shared}{tg:Expr}{it:Addr}{u:Value}{o:Obj}{n:String}{vs:Array Value}{Q:Unit->Shared->Prop}(ho:s.heap.get? it=some o)(hc:o.cls=.type n)(hd:o.data=.fields vs)
  (hn:["enumerate","zip","dict_itemiterator","dict_reverseitemiterator","odict_iterator","itertools.zip_longest","itertools.pairwise"].contains n=false) (hQ:Q () s):wpAny M A (letOwnedTupleGo tg (.ref it) u) Q E s:=by
 unfold letOwnedTupleGo;cases tg<;>first
  |exact aP hQ
  | (cases u<;>first
    |exact aP hQ
    | (refine aA (wpAny_load ho ?_)
       rw[hc,hd];show wpAny M A (if (["enumerate","zip","dict_itemiterator","dict_reverseitemiterator","odict_iterator","itertools.zip_longest","itertools.pairwise"].contains n&&vs[0]?==some (rawInt _))=true then _ else _) Q E s;rw[if_neg (by intro h;rw[hn,Bool.false_and] at h;cases h)];exact aP hQ))
noncomputable def Ms(K:W.Frag)(a:Addr):It:=
 ⟨λi H=>∃xs x,cT K H a xs/\xs[i]?=some x,λi H x H'=>H'=H/\∀xs,cT K H a xs->xs[i]?=some x,λi H=>∃xs,cT K H a xs/\xs.length<=i⟩
noncomputable def Qw(K:W.Frag)(a:Addr):It:=
 ⟨λi H=>∃xs x,gP K H a xs/\xs[i]?=some x,λi H x H'=>H'=H/\∀xs,gP K H a xs->xs[i]?=some x,λi H=>∃xs,gP K H a xs/\xs.length<=i⟩
noncomputable def Hw(lo:Int)(n:Nat):It:=⟨λi _=>i<n,λi H x H'=>H'=H/\x=.int (lo+i),λi _=>n<=i⟩
theorem zgQ{P:Program}{w:World}{K:W.Frag}{tg:Expr}(a it:Addr):Turn P w K tg (Ms K a) [it] it (λi h=>h.IsListIter it a i) where
 mem:=by simp
 obj:=λi h st b hb=>by
  have e:b=it:=by simpa using hb
  subst e;obtain⟨o,e,c,d⟩:=st;exact⟨o,e,λv z=>by rw[d] at z;cases z⟩
 keep:=λi h h' st k=>st.at λo e=>k it Zaa o e
 item:=by
  intro X hP hw hK hc i ao s Z H E I hf st hg;subst hP hw hK;obtain⟨xs,x,hq,hx⟩:=hg;obtain⟨its,rv,p,hz⟩:=I.list hq;obtain⟨u,hu,ru⟩:=rv.get hx;obtain⟨f0,f1,f2,f3,f4,f5⟩:=hf it Zaa;refine wpAny_pyNext_list_item st p.isList (x:=u) (by simpa using hu) λh' st' sb=>?_;have I1:Inv X ao Z H {s with heap:=h'}:=I.turned (t':=s.toks) (λb o hb e=>(sb.2 b hb).trans e) f0 f1 f3 f4 f5;obtain⟨o,e,c,d⟩:=id st';exact⟨u,rfl,Qv (s:={s with heap:=h'}) e c d RB ⟨x,H,I1,ru,⟨rfl,λys hy=>by rw[I.oh hy hq];exact hx⟩,st',λb hb=>(hf b hb).1⟩⟩
 done:=by
  intro X hP hw hK hc i ao s Z H E I hf st hg;subst hP hw hK;obtain⟨xs,hq,hx⟩:=hg;obtain⟨its,rv,p,hz⟩:=I.list hq;obtain⟨f0,f1,f2,f3,f4,f5⟩:=hf it Zaa;have hl:=rv.length;exact wpAny_pyNext_list_end (I.ok.hd hc) st p.isList (by simp;lia) λh' eb=>⟨rfl,I.turned (t':=s.toks) (λb o hb e=>eb b o hb e) f0 f1 f3 f4 f5⟩
 self:=λ_ _ _ _ _ st h=>wpAny_pyIter_listiter st h
theorem zfj{P:Program}{w:World}{K:W.Frag}{tg:Expr}(a it:Addr):Turn P w K tg (Qw K a) [it] it (λi h=>h.IsTupleIter it a i) where
 mem:=by simp
 obj:=λi h st b hb=>by
  have e:b=it:=by simpa using hb
  subst e;obtain⟨o,e,c,d⟩:=st;exact⟨o,e,λv z=>by rw[d] at z;cases z⟩
 keep:=λi h h' st k=>st.at λo e=>k it Zaa o e
 item:=by
  intro X hP hw hK hc i ao s Z H E I hf st hg;subst hP hw hK;obtain⟨xs,x,hq,hx⟩:=hg;obtain⟨its,rv,p,hz⟩:=I.tuple hq;obtain⟨u,hu,ru⟩:=rv.get hx;obtain⟨f0,f1,f2,f3,f4,f5⟩:=hf it Zaa;refine wpAny_pyNext_tuple_item st (show s.heap.IsTuple a its.toArray from p) (x:=u) (by simpa using hu) λh' st' sb=>?_;have I1:Inv X ao Z H {s with heap:=h'}:=I.turned (t':=s.toks) (λb o hb e=>(sb.2 b hb).trans e) f0 f1 f3 f4 f5;obtain⟨o,e,c,d⟩:=id st';exact⟨u,rfl,Qv (s:={s with heap:=h'}) e c d RB ⟨x,H,I1,ru,⟨rfl,λys hy=>by rw[I.lR hy hq];exact hx⟩,st',λb hb=>(hf b hb).1⟩⟩
 done:=by
  intro X hP hw hK hc i ao s Z H E I hf st hg;subst hP hw hK;obtain⟨xs,hq,hx⟩:=hg;obtain⟨its,rv,p,hz⟩:=I.tuple hq;obtain⟨f0,f1,f2,f3,f4,f5⟩:=hf it Zaa;have hl:=rv.length;exact wpAny_pyNext_tuple_end (I.ok.hd hc) st (show s.heap.IsTuple a its.toArray from p) (by simp;lia) λh' eb=>⟨rfl,I.turned (t':=s.toks) (λb o hb e=>eb b o hb e) f0 f1 f3 f4 f5⟩
 self:=λ_ _ _ _ _ st h=>wpAny_pyIter_tupleiter st h
theorem zfg{P:Program}{w:World}{K:W.Frag}{tg:Expr}(it:Addr)(lo:Int)(n:Nat):Turn P w K tg (Hw lo n) [it] it (λi h=>IsRangeIter h it (lo+(i:Nat)*1) ((n:Int)-(i:Nat)) 1) where
 mem:=by simp
 obj:=λi h st b hb=>by
  have e:b=it:=by simpa using hb
  subst e;exact⟨_,st,λv z=>by
   have z':Data.fields _=Data.cell v:=z;cases z'⟩
 keep:=λi h h' st k=>k it Zaa _ st
 item:=by
  intro X hP hw hK hc i ao s Z H E I hf st hg;subst hP hw hK;obtain⟨f0,f1,f2,f3,f4,f5⟩:=hf it Zaa;have W:=Walks.range (prog:=X.prog) (w:=X.w) (I.ok.hd hc) it lo 1 n;refine W.item i s _ _ hg st λv h' tk hv st' kk=>?_;obtain⟨t,rfl⟩:=hv;have I1:Inv X ao Z H {s with heap:=h',toks:=tk}:=I.turned (λb o hb e=>kk b o (by simpa using hb) e) f0 f1 f3 f4 f5;refine⟨_,rfl,Qv (s:={s with heap:=h',toks:=tk}) (n:="range_iterator") st' rfl rfl RB ⟨.int (lo+i),H,I1,⟨t,?_⟩,⟨rfl,rfl⟩,st',λb hb=>(hf b hb).1⟩⟩;rw[Int.mul_one]
 done:=by
  intro X hP hw hK hc i ao s Z H E I hf st hg;subst hP hw hK;obtain⟨f0,f1,f2,f3,f4,f5⟩:=hf it Zaa;exact wpAny_pyNext_range_end (I.ok.hd hc) st (by have:n<=i:=hg;lia) λh' eb=>⟨rfl,I.turned (t':=s.toks) (λb o hb e=>eb b o hb e) f0 f1 f3 f4 f5⟩
 self:=λ_ _ _ _ _ st h=>wpAny_pyIter_rangeiter st h
section
variable {X:Cx}{tg:Expr}
theorem W4{ao:List (Addr×Obj)}{Z:St}{H:Hp}{s:Shared}{R:It->Hp->Prop}{E:Value->Shared->Prop}{lo hi:Int}{t u v:Tok}{tk:Nat}(I:Inv X ao Z H s)(h1 : -(2^62)<=lo)(h2:lo<2^62)(h3 : -(2^62)<=hi)(h4:hi<2^62)
  (q:R (Hw lo (hi-lo).toNat) H):wpAny (model X.prog X.w) X.A (pyIter (.ref s.heap.objs.size)) (PIE X ao Z tg R) E {s with heap:=s.heap.push {cls:=.type "range",data:=.fields #[.int lo t,.int hi u,.int 1 v]},toks:=tk}:=by
 refine wpAny_pyIter_range (IsRange.new ..) (small_one h1 h2 h3 h4) ?_;have I1:Inv X ao Z H {s with heap:=s.heap.push {cls:=.type "range",data:=.fields #[.int lo t,.int hi u,.int 1 v]},toks:=tk}:=I.kept λb o e=>cD _ e;refine⟨(s.heap.push {cls:=.type "range",data:=.fields #[.int lo t,.int hi u,.int 1 v]}).objs.size,[(s.heap.push {cls:=.type "range",data:=.fields #[.int lo t,.int hi u,.int 1 v]}).objs.size],_,_,H,rfl,
  I1.kept (t':=tk) λb o e=>cD _ e,zfg _ lo (hi-lo).toNat,?_,λb hb=>?_,q⟩
 ·have e1:lo+((0:Nat):Int)*1=lo:=by simp
  have e2:(((hi-lo).toNat:Nat):Int)-((0:Nat):Int)=Builtin.Range.rangeSize lo hi 1:=by rw[rangeSize_one];split<;>lia
  show IsRangeIter _ _ (lo+((0:Nat):Int)*1) ((((hi-lo).toNat:Nat):Int)-((0:Nat):Int)) 1;rw[e1,e2];exact eN _ rfl
 ·have e:b=(s.heap.push {cls:=.type "range",data:=.fields #[.int lo t,.int hi u,.int 1 v]}).objs.size:=by simpa using hb
  subst e;exact I1.uE (cj _) (I1.hok.fresh (cj _))
noncomputable def Hx(ta:TA):TI:=λZ H R=>ta Z H λvs H1=>∃j:Int,vs=[.int j]/\-(2^62)<=j/\j<2^62/\R (Hw 0 j.toNat) H1
noncomputable def Hy(ta:TA):TI:=λZ H R=>ta Z H λvs H1=>∃i j:Int,vs=[.int i,.int j]/\(-(2^62)<=i/\i<2^62/\-(2^62)<=j/\j<2^62)/\R (Hw i (j-i).toNat) H1
theorem zfB{a:Expr}{ta:TA}{p pos:Pos}(hg:Gl X "range")(hm:X.mg "range"=none)(ha:PA X [a] ta)(hs:starEach [a] X.env=[(false,eval a X.env)]:=by rfl):PI X tg (.Call (.Name "range" p) [a] [] pos) (Hx ta):=by
 intro ao s Z H R I h;refine Call_ (vX I hg hm boot_range (Ae (aQ (ha pos ao s Z H _ I h) λus s1 hx=>eG hx λvs H1 I1 r1 q1=>?_) hs rfl));obtain⟨j,e,q1,q2,q⟩:=q1;subst e;cases r1 with
 |cons r rr=>
  cases rr;obtain⟨t,rfl⟩:=r;exact call_range_1 (W4 I1 gV gV q1 q2 (by simpa using q))
theorem zgb{a b:Expr}{ta:TA}{p pos:Pos}(hg:Gl X "range")(hm:X.mg "range"=none)(ha:PA X [a,b] ta)(hs:starEach [a,b] X.env=[(false,eval a X.env),(false,eval b X.env)]:=by rfl)(uF:starEach [b] X.env=[(false,eval b X.env)]:=by rfl) :
  PI X tg (.Call (.Name "range" p) [a,b] [] pos) (Hy ta):=by
 intro ao s Z H R I h;refine Call_ (vX I hg hm boot_range (Ae (aQ (ha pos ao s Z H _ I h) λus s1 hx=>eG hx λvs H1 I1 r1 q1=>?_) (by rw[hs,uF]) (by rw[uF];rfl)));obtain⟨i,j,e,⟨q1,q2,q3,q4⟩,q⟩:=q1;subst e;cases r1 with
 |cons r rr=>
  cases rr with
  |cons r' rr=>
   cases rr;obtain⟨t,rfl⟩:=r;obtain⟨t',rfl⟩:=r';exact call_range_2 (W4 I1 q1 q2 q3 q4 q)
noncomputable def Qx(wi:TI)(g:TG)(tb:TS):TS:=λD Z H=>wi Z H λaZ H1=>∃W:Nat->Nat->St->Hp->Prop,(∃m,W 0 m Z H1)/\∀i m Z H,W i m Z H->
 (aZ.stop i H/\D.nx Z H)\/(aZ.go i H/\∃N:St->Hp->Prop,(∀Z' H',N Z' H'->∃m',m'<m/\W (i+1) m' Z' H')/\∀x H',aZ.uD i H x H'->g x Z H' λZ2 H2=>tb {D with nx:=N,ct:=N,bk:=D.nx} Z2 H2)
noncomputable def i_(fp:List Addr)(h:Heap):List (Addr×Obj):=fp.filterMap λb=>(h.get? b).map λo=>(b,o)
theorem zy{fp:List Addr}{h:Heap}{b:Addr}{o:Obj}(hb:b∈fp)(e:h.get? b=some o):(b,o)∈i_ fp h:=Gw.mpr ⟨b,hb,by rw[e];rfl⟩
theorem zf5{fp:List Addr}{h:Heap}{p:Addr×Obj}(hp:p∈i_ fp h):p.1∈fp/\h.get? p.1=some p.2:=by
 obtain⟨b,hb,e⟩:=Gw.mp hp;cases q:h.get? b with
 |none=>rw[q] at e;cases e
 |some o=>
  rw[q] at e;have e':(b,o)=p:=cP e;subst e';exact⟨hb,q⟩
theorem Inv.pinned{ao:List (Addr×Obj)}{Z:St}{H:Hp}{s:Shared}{fp:List Addr}(I:Inv X ao Z H s)(hf:∀b∈fp,fO X ao H b)(ho:∀b∈fp,∃o,s.heap.get? b=some o/\∀v,o.data≠.cell v):Inv X (ao++i_ fp s.heap) Z H s:=
 I.jQ λp hp=>(nG.mp hp).elim (λz=>I.pin p (lg _ z)) λz=>by
  obtain⟨hb,e⟩:=zf5 z;obtain⟨f0,f1,f2,_⟩:=hf p.1 hb;obtain⟨o,e',d⟩:=ho p.1 hb;rw[e] at e';cases e';exact⟨e,f0,f1,f2,d⟩
theorem Inv.bZ{ao pl:List (Addr×Obj)}{Z:St}{H:Hp}{s:Shared}(I:Inv X (ao++pl) Z H s):Inv X ao Z H s:=I.jQ λp hp=>I.pin p (lg _ (Gq _ hp))
theorem zmD{iter:Expr}{body:List Stmt}{wi:TI}{g:TG}{tb:TS}{pos:Pos}(hp:PassesOwn (model X.prog X.w) X.A X.env X.xe)(hc:X.aj=true)(hi:PI X tg iter wi)(hg:PG X tg g)(hb:pW X body tb)
  (hs:∀x,foldedSetIterable iter X.env x=pure x:=by intro _;rfl):PS X (.For tg iter body [] pos) (Qx wi g tb):=by
 intro ao s Z H D I h;refine wpAny_For (aQ (hi ao s Z H _ I h) λv s1 h1=>aQ h1 λitv s2 h2=>?_) hs;obtain⟨it,fp,tn,aZ,H2,e,I2,T,st2,f2,W,⟨m0,w0⟩,turn⟩:=h2;subst e;have stat:∀{H':Hp},(∀b∈fp,H' b=none)->∀b∈fp,fO X ao H' b:=λhn b hb=>⟨hn b hb,(f2 b hb).2⟩;refine codeAny_forLoop_any (λn s'=>∃i Z' H',Inv X ao Z' H' s'/\tn i s'.heap/\(∀b∈fp,H' b=none)/\W i n Z' H') ?_ m0 ⟨0,Z,H2,I2,st2,λb hb=>(f2 b hb).1,w0⟩;rintro n s3 ⟨i,Z3,H3,I3,st3,W5,w3⟩;rcases turn i n Z3 H3 w3 with ⟨stop,qn⟩|⟨go,N,hN,step⟩
 ·refine Ao hp (aQ (T.done X rfl rfl rfl hc i ao s3 Z3 H3 X.xe I3 (stat W5) st3 stop) λr s4 ⟨hr,I4⟩=>?_);subst hr;exact wpAny_execs_nil ⟨Z3,H3,I4,qn⟩
 ·refine Ao hp (aQ (T.item X rfl rfl rfl hc i ao s3 Z3 H3 X.xe I3 (stat W5) st3 go) λr s4 hx=>vV hx λu hr h4=>?_);subst hr;refine Ao hp (aQ h4 λ_ s5 ⟨x,H5,I5,r5,y5,tR,vY⟩=>?_);have I5':=I5.pinned (stat vY) (T.obj _ _ tR);refine Ao hp (aQ (hg _ s5 Z3 H5 x u _ I5' r5 (step x H5 y5)) λ_ s6 ⟨Z6,H6,I6,q6⟩=>?_);refine Ao hp (aQ (hb _ s6 Z6 H6 _ I6 q6) λf s7 q7=>?_);have again:∀{Z7:St} {H7:Hp},Inv X (ao++i_ fp s5.heap) Z7 H7 s7->N Z7 H7->∃m,m<n/\∃i Z' H',Inv X ao Z' H' s7/\tn i s7.heap/\(∀b∈fp,H' b=none)/\W i m Z' H':=λ{Z7 H7} I7 n7=>by
   obtain⟨m',hm,w7⟩:=hN Z7 H7 n7;refine⟨m',hm,i+1,Z7,H7,I7.bZ,T.keep _ _ _ tR λb hb o e=>(I7.pin (b,o) (lg _ (lg _ (zy hb e)))).1,λb hb=>?_,w7⟩;obtain⟨o,e,d⟩:=T.obj _ _ tR b hb;exact(I7.pin (b,o) (lg _ (lg _ (zy hb e)))).2.1
  cases f with
  |next=>obtain⟨Z7,H7,I7,n7⟩:=q7;exact again I7 n7
  |cont=>obtain⟨Z7,H7,I7,n7⟩:=q7;exact again I7 n7
  |brk=>obtain⟨Z7,H7,I7,q7⟩:=q7;exact⟨Z7,H7,I7.bZ,q7⟩
  |ret v=>obtain⟨x7,Z7,H7,I7,r7,q7⟩:=q7;exact⟨x7,Z7,H7,I7.bZ,r7,q7⟩
end
noncomputable abbrev R2:=V->V->Hp->VK->Prop
def fP(X:Cx)(f:Value->Value->Sem Value)(r:R2):Prop:=
 ∀(ao:List (Addr×Obj)) (s:Shared) (Z:St) (H:Hp) (x y:V) (v u:Value) (Q:VK),Inv X ao Z H s->RelV x v->RelV y u->r x y H Q->
  wpAny (model X.prog X.w) X.A (f v u) (EP X ao Z Q) X.xe s
def Mu(X:Cx)(f:Value->Sem Value)(r:V->Hp->VK->Prop):Prop:=
 ∀(ao:List (Addr×Obj)) (s:Shared) (Z:St) (H:Hp) (x:V) (v:Value) (Q:VK),Inv X ao Z H s->RelV x v->r x H Q->
  wpAny (model X.prog X.w) X.A (f v) (EP X ao Z Q) X.xe s
def cZ(X:Cx)(f:Value)(r:List V->Hp->VK->Prop):Prop:=
 ∀(ao:List (Addr×Obj)) (s:Shared) (Z:St) (H:Hp) (xs:List V) (us:List Value) (Q:VK),Inv X ao Z H s->Vals xs us->r xs H Q->
  wpAny (model X.prog X.w) X.A (call f us) (EP X ao Z Q) X.xe s
def Qy(X:Cx)(r:V->Hp->(Bool->Hp->Prop)->Prop):Prop:=
 ∀(ao:List (Addr×Obj)) (s:Shared) (Z:St) (H:Hp) (x:V) (v:Value) (Q:Bool->Hp->Prop),Inv X ao Z H s->RelV x v->r x H Q->
  wpAny (model X.prog X.w) X.A (truthy v) (TP X ao Z Q) X.xe s
noncomputable def Mv(r:R2)(ta tb:TE):TE:=λZ H Q=>ta Z H λx H1=>tb Z H1 λy H2=>r x y H2 Q
noncomputable def tUn(r:V->Hp->VK->Prop)(ta:TE):TE:=λZ H Q=>ta Z H λx H1=>r x H1 Q
noncomputable def rI(C:Int->Int->Prop)(g:Int->Int->V):R2:=λx y H Q=>∃i j,x=.int i/\y=.int j/\C i j/\Q (g i j) H
noncomputable def pX(g:Int->Int->V):R2:=λx y H Q=>∃i j,x=.int i/\y=.int j/\Q (g i j) H
noncomputable def rU(g:Int->V):V->Hp->VK->Prop:=λx H Q=>∃i,x=.int i/\Q (g i) H
section
variable {X:Cx}{a b c:Expr}{ta tb tc:TE}{pos:Pos}
theorem Bl(ha:PE X a ta)(hb:PE X b tb){ao:List (Addr×Obj)}{s:Shared}{Z:St}{H:Hp}{R:V->V->Hp->Prop}(I:Inv X ao Z H s)
  (h:ta Z H λx H1=>tb Z H1 λy H2=>R x y H2) {Q:Value->Shared->Prop} {f:Value->Value->Sem Value}
  (hf:∀v u s2 x y H2,Inv X ao Z H2 s2->RelV x v->RelV y u->R x y H2->wpAny (model X.prog X.w) X.A (f v u) Q X.xe s2) :
  wpAny (model X.prog X.w) X.A (eval a X.env) (λv s₁=>wpAny (model X.prog X.w) X.A (eval b X.env) (λu s₂=>wpAny (model X.prog X.w) X.A (f v u) Q X.xe s₂) X.xe s₁) X.xe s:=by
 refine aQ (ha ao s Z H _ I h) λv s1 hx=>eG hx λx H1 I1 r1 q1=>?_;refine aQ (hb ao s1 Z H1 _ I1 q1) λu s2 hx=>eG hx λy H2 I2 r2 q2=>?_;exact hf v u s2 x y H2 I2 r1 r2 q2
theorem zmS{op:Operator}{r:R2}(ho:fP X (binaryOp op) r)(ha:PE X a ta)(hb:PE X b tb):PE X (.BinOp a op b pos) (Mv r ta tb):=by
 intro ao s Z H Q I h;exact wpAny_BinOp (Bl ha hb I h λv u s2 x y H2 I2 rx ry q=>ho ao s2 Z H2 x y v u Q I2 rx ry q)
theorem zm5{op:UnaryOp}{r:V->Hp->VK->Prop}(ho:Mu X (unaryOp op) r)(ha:PE X a ta):PE X (.UnaryOp op a pos) (tUn r ta):=by
 intro ao s Z H Q I h;exact UnaryOp_ (aQ (ha ao s Z H _ I h) λv s1 hx=>eG hx λx H1 I1 r1 q1=>ho ao s1 Z H1 x v Q I1 r1 q1)
theorem Mw{f:Value->Value->Sem Value}{C:Int->Int->Prop}{g:Int->Int->Int}
  (rule:∀(i j:Int) (t u:Tok) (s:Shared) (Q:Value->Shared->Prop) (E:Value->Shared->Prop),C i j->Q (.int (g i j) s.toks) {s with toks:=s.toks+1}->wpAny (model X.prog X.w) X.A (f (.int i t) (.int j u)) Q E s) :
  fP X f (rI C λi j=>.int (g i j)):=by
 intro ao s Z H x y v u Q I rx ry h;obtain⟨i,j,rfl,rfl,hc,q⟩:=h;obtain⟨t,rfl⟩:=rx;obtain⟨t',rfl⟩:=ry;exact rule i j t t' s _ _ hc ⟨.int (g i j),H,I.tok _,⟨_,rfl⟩,q⟩
theorem Hz{f:Value->Value->Sem Value}{g:Int->Int->Int}
  (rule:∀(i j:Int) (t u:Tok) (s:Shared) (Q:Value->Shared->Prop) (E:Value->Shared->Prop),Q (.int (g i j) s.toks) {s with toks:=s.toks+1}->wpAny (model X.prog X.w) X.A (f (.int i t) (.int j u)) Q E s) :
  fP X f (pX λi j=>.int (g i j)):=by
 intro ao s Z H x y v u Q I rx ry h;obtain⟨i,j,rfl,rfl,q⟩:=h;obtain⟨t,rfl⟩:=rx;obtain⟨t',rfl⟩:=ry;exact rule i j t t' s _ _ ⟨.int (g i j),H,I.tok _,⟨_,rfl⟩,q⟩
theorem wY{f:Value->Value->Sem Value}{g:Int->Int->Bool}
  (rule:∀(i j:Int) (t u:Tok) (s:Shared) (Q:Value->Shared->Prop) (E:Value->Shared->Prop),Q (.bool (g i j)) s->wpAny (model X.prog X.w) X.A (f (.int i t) (.int j u)) Q E s) :
  fP X f (pX λi j=>.bl (g i j)):=by
 intro ao s Z H x y v u Q I rx ry h;obtain⟨i,j,rfl,rfl,q⟩:=h;obtain⟨t,rfl⟩:=rx;obtain⟨t',rfl⟩:=ry;exact rule i j t t' s _ _ ⟨.bl (g i j),H,I,rfl,q⟩
def wZ(i j:Int):Prop:=0<j/\j<1073741824
def HB(i j:Int):Prop:=0<=j/\j<=1000000/\i.natAbs<2^64
def w6(i j:Int):Prop:=(-(2^64)<i/\i<2^64)\/(-(2^64)<j/\j<2^64)
theorem w6.ok{i j:Int}(h:w6 i j):IntMulOk i j:=by
 rcases h with ⟨h1,h2⟩|⟨h1,h2⟩
 ·exact .of_left (intBits_le_64 h1 h2)
 ·exact .of_right (intBits_le_64 h1 h2)
theorem Bm:fP X (binaryOp .Add) (pX λi j=>.int (i+j)):=Hz λ_ _ _ _ _ _ _ q=>add_int q
theorem zk8:fP X (binaryOp .Sub) (pX λi j=>.int (i-j)):=Hz λ_ _ _ _ _ _ _ q=>sub_int q
theorem zmh:fP X (binaryOp .Mult) (rI w6 λi j=>.int (i*j)):=Mw λ_ _ _ _ _ _ _ hc q=>mul_int q hc.ok
theorem zji:fP X (binaryOp .FloorDiv) (rI wZ λi j=>.int (i/j)):=Mw λi j _ _ _ _ _ hc q=>by
 have h1:(0:Int)<j:=hc.1;have h2:j<1073741824:=hc.2;exact floordiv_int gV (by rw[Int.fdiv_eq_ediv_of_nonneg i gV];exact q) (.inl (PyProof.noPylong_small gV))
theorem zkR:fP X (binaryOp .Mod) (rI (λ_ j=>0<j) λi j=>.int (i%j)):=Mw λi j _ _ _ _ _ hc q=>by
 have h1:(0:Int)<j:=hc;exact mod_int' gV (by rw[Int.fmod_eq_emod_of_nonneg i gV];exact q)
theorem zlp:fP X (binaryOp .Pow) (rI HB λi j=>.int (i^j.toNat)):=Mw λ_ _ _ _ _ _ _ hc q=>pow_int_small hc.1 hc.2.1 hc.2.2 q
theorem unI{f:Value->Sem Value}{g:Int->Int}
  (rule:∀(i:Int) (t:Tok) (s:Shared) (Q:Value->Shared->Prop) (E:Value->Shared->Prop),Q (.int (g i) s.toks) {s with toks:=s.toks+1}->wpAny (model X.prog X.w) X.A (f (.int i t)) Q E s) :
  Mu X f (rU λi=>.int (g i)):=by
 intro ao s Z H x v Q I rx h;obtain⟨i,rfl,q⟩:=h;obtain⟨t,rfl⟩:=rx;exact rule i t s _ _ ⟨.int (g i),H,I.tok _,⟨_,rfl⟩,q⟩
theorem zkv:Mu X (unaryOp .USub) (rU λi=>.int (-i)):=unI λ_ _ _ _ _ q=>neg_int q
end
section
variable {X:Cx}{a b c:Expr}{ta tb tc:TE}{pos:Pos}
theorem HD:fP X (compareOp .Lt) (pX λi j=>.bl (decide (i<j))):=wY λ_ _ _ _ _ _ _ q=>lt_int q
theorem znr:fP X (compareOp .LtE) (pX λi j=>.bl (decide (i<=j))):=wY λ_ _ _ _ _ _ _ q=>le_int q
theorem zmZ:fP X (compareOp .Gt) (pX λi j=>.bl (decide (j<i))):=wY λ_ _ _ _ _ _ _ q=>gt_int q
theorem zmT:fP X (compareOp .GtE) (pX λi j=>.bl (decide (j<=i))):=wY λ_ _ _ _ _ _ _ q=>ge_int q
theorem fP.or{f:Value->Value->Sem Value}{r r':R2}(h:fP X f r)(h':fP X f r'):fP X f (λx y H Q=>r x y H Q\/r' x y H Q):=by
 intro ao s Z H x y v u Q I rx ry q;rcases q with q|q
 ·exact h ao s Z H x y v u Q I rx ry q
 ·exact h' ao s Z H x y v u Q I rx ry q
theorem zi6{op:CmpOp}{r:R2}(ho:fP X (compareOp op) r)(ha:PE X a ta)(hb:PE X b tb)(hm:behindInMarks op b=false):PE X (.Compare a [op] [b] pos) (Mv r ta tb):=by
 intro ao s Z H Q I h;exact wpAny_Compare1 (Bl ha hb I h λv u s2 x y H2 I2 rx ry q=>ho ao s2 Z H2 x y v u Q I2 rx ry q) hm
noncomputable def HF(t:TE):TT:=λZ H Q=>t Z H λx H'=>∃k,x=.bl k/\Q k H'
theorem zi1{op:CmpOp}{r:R2}(ho:fP X (compareOp op) r)(ha:PE X a ta)(hb:PE X b tb)(hm:behindInMarks op b=false):PT X (.Compare a [op] [b] pos) (HF (Mv r ta tb)):=by
 intro ao s Z H Q I h;refine wpAny_isTrue_Compare1 (aQ (ha ao s Z H _ I h) λv s1 hx=>eG hx λx H1 I1 r1 q1=>aQ (hb ao s1 Z H1 _ I1 q1) λu s2 hx=>eG hx λy H2 I2 r2 q2=>
  aQ (ho ao s2 Z H2 x y v u _ I2 r1 r2 q2) λc s3 hx=>P_ hx λz H3 I3 r3 k e q3=>?_) hm
 subst e;cases r3;exact vO ⟨H3,I3,q3⟩
noncomputable def Bp(r r':R2)(ta tb tc:TE):TE:=λZ H Q=>ta Z H λx H1=>tb Z H1 λy H2=>r x y H2 λz H3=>∃k,z=.bl k /\
 (if k=true then tc Z H3 λw' H4=>r' y w' H4 Q else Q (.bl false) H3)
theorem zh6{op op':CmpOp}{r r':R2}(ho:fP X (compareOp op) r)(pU:fP X (compareOp op') r')(ha:PE X a ta)(hb:PE X b tb)(hc:PE X c tc)
  (hm:lastMarks [op,op'] [b,c]=false:=by with_unfolding_all rfl):PE X (.Compare a [op,op'] [b,c] pos) (Bp r r' ta tb tc):=by
 intro ao s Z H Q I h;refine Compare_chain (aQ (ha ao s Z H _ I h) λv s1 hx=>eG hx λx H1 I1 r1 q1=>chain_link (aQ (hb ao s1 Z H1 _ I1 q1) λu s2 hx=>eG hx λy H2 I2 r2 q2=>
  aQ (ho ao s2 Z H2 x y v u _ I2 r1 r2 q2) λd s3 hx=>P_ hx λz H3 I3 r3 k e q3=>?_)) hm
 subst e;cases r3;refine vO ?_;cases k with
 |false=>exact ite_ff ⟨.bl false,H3,I3,rfl,q3⟩
 |true=>exact ite_tt (chain_last (aQ (hc ao s3 Z H3 _ I3 q3) λw' s4 hx=>eG hx λz' H4 I4 r4 q4=>pU ao s4 Z H4 y z' u w' Q I4 r2 r4 q4))
def Bq(K:W.Frag)(x:V)(H:Hp)(k:Bool):Prop:=
 match x with
 |.non=>k=false
 |.bl b=>k=b
 |.int i=>k=(i != 0)
 |.str y=>y.length<=sizeLine/\k=((y.length:Int) != 0)
 |.Ay y=>y.size<=sizeLine/\k=((y.size:Int) != 0)
 |.ref p=>(∃xs,cT K H p xs/\k = !xs.isEmpty)\/(∃xs,gP K H p xs/\k = !xs.isEmpty)\/∃kvs,H p=some (.dK kvs)/\k = !kvs.isEmpty
 |_=>False
theorem zfl{κ:Type}{kvs:List (κ×V)}{vs:List (κ×Value)}(r:KV kvs vs):(!vs.isEmpty) = !kvs.isEmpty:=by
 cases r<;>rfl
theorem W6{xs:List V}{its:List Value}(r:Vals xs its):(!its.toArray.isEmpty) = !xs.isEmpty:=by
 cases r<;>simp
theorem jd:(sizeLine:Nat)<2^63:=by rw[vR];decide
theorem zl5:Qy X (λx H Q=>∃k,Bq X.K x H k/\Q k H):=by
 intro ao s Z H x v Q I rx h;obtain⟨k,e,q⟩:=h;have hl:=jd;have hs:sizeLine=16777216:=vR;cases x with
 |non=>
  cases rx;have e':k=false:=e;subst e';exact truthy_none ⟨H,I,q⟩
 |bl b=>
  cases rx;have e':k=b:=e;subst e';exact vO ⟨H,I,q⟩
 |int i=>
  obtain⟨t,rfl⟩:=rx;have e':k=(i != 0):=e;subst e';exact PySem.P.truthy_int ⟨H,I,q⟩
 |str y=>
  obtain⟨t,rfl⟩:=rx;obtain⟨hy,e'⟩ : y.length<=sizeLine/\k=((y.length:Int) != 0):=e;subst e';exact PySem.P.truthy_str gV ⟨H,I.tok _,q⟩
 |Ay y=>
  obtain⟨t,rfl⟩:=rx;obtain⟨hy,e'⟩ : y.size<=sizeLine/\k=((y.size:Int) != 0):=e;subst e';exact PySem.W.truthy_bytes gV ⟨H,I.tok _,q⟩
 |ref p=>
  cases rx;have e':(∃xs,cT X.K H p xs/\k = !xs.isEmpty)\/(∃xs,gP X.K H p xs/\k = !xs.isEmpty)\/∃kvs,H p=some (.dK kvs)/\k = !kvs.isEmpty:=e;rcases e' with ⟨xs,hx,e'⟩|⟨xs,hx,e'⟩|⟨kvs,hx,e'⟩
  ·subst e';obtain⟨its,r,pl,hz⟩:=I.list hx;have hlen:=r.length;exact wpAny_truthy_list pl.isList (by simp only[fH];lia) ⟨H,I.tok _,by rw[W6 r];exact q⟩
  ·subst e';obtain⟨its,r,pl,hz⟩:=I.tuple hx;have hlen:=r.length;exact truthy_tuple pl (by simp only[fH];lia) ⟨H,I.tok _,by rw[W6 r];exact q⟩
  ·subst e';obtain⟨hz,hS,vs,r,m⟩ : kvs.length<=sizeLine/\(p==sysModules)=false/\∃vs,KV kvs vs/\s.heap.DictOf (mJ X.prog X.w) p vs:=I.hok p _ hx;have hlen:kvs.length=vs.length:=Paired.length r;exact wpAny_truthy_dict hS m gV ⟨H,I.tok _,by rw[zfl r];exact q⟩
 |_=>exact(show False from e).elim
theorem zfs:fP X (binaryOp .Add) (λx y H Q=>∃i j,x=.str i/\y=.str j/\i.length+j.length<=sizeLine/\Q (.str (i++j)) H):=by
 intro ao s Z H x y v u Q I rx ry h;obtain⟨i,j,rfl,rfl,hz,q⟩:=h;obtain⟨t,rfl⟩:=rx;obtain⟨t',rfl⟩:=ry;exact add_str (λt' tk=>⟨.str (i++j),H,I.tok _,⟨_,rfl⟩,q⟩) hz
theorem vals1{x:V}{us:List Value}(r:Vals [x] us):∃u,us=[u]/\RelV x u:=by
 cases r with
 |cons r1 r2=>cases r2;exact⟨_,rfl,r1⟩
theorem vals2{x y:V}{us:List Value}(r:Vals [x,y] us):∃u w',us=[u,w']/\RelV x u/\RelV y w':=by
 cases r with
 |cons r1 r2=>
  cases r2 with
  |cons r3 r4=>cases r4;exact⟨_,_,rfl,r1,r3⟩
theorem zhK:cZ X (.builtin "abs") (λxs H Q=>∃i,xs=[.int i]/\Q (.int (if i<0 then -i else i)) H):=by
 intro ao s Z H xs us Q I r h;obtain⟨i,rfl,q⟩:=h;obtain⟨u,rfl,t,rfl⟩:=vals1 r;exact call_abs_int λu tk=>⟨.int (if i<0 then -i else i),H,I.tok _,⟨_,rfl⟩,q⟩
theorem zfy(hc:X.aj=true):cZ X (.builtin "max") (λxs H Q=>∃i j,xs=[.int i,.int j]/\Q (.int (if j>i then j else i)) H):=by
 intro ao s Z H xs us Q I r h;obtain⟨i,j,rfl,q⟩:=h;obtain⟨u,w',rfl,⟨t,rfl⟩,⟨t',rfl⟩⟩:=vals2 r;refine max_two_ints (I.ok.hd hc) λh' tk k=>⟨_,H,I.kept k,?_,q⟩;by_cases hj:j>i
 ·rw[if_pos hj,if_pos hj];exact⟨_,rfl⟩
 ·rw[if_neg hj,if_neg hj];exact⟨_,rfl⟩
theorem zfN(hc:X.aj=true):cZ X (.builtin "min") (λxs H Q=>∃i j,xs=[.int i,.int j]/\Q (.int (if j<i then j else i)) H):=by
 intro ao s Z H xs us Q I r h;obtain⟨i,j,rfl,q⟩:=h;obtain⟨u,w',rfl,⟨t,rfl⟩,⟨t',rfl⟩⟩:=vals2 r;refine min_two_ints (I.ok.hd hc) λh' tk k=>⟨_,H,I.kept k,?_,q⟩;by_cases hj:j<i
 ·rw[if_pos hj,if_pos hj];exact⟨_,rfl⟩
 ·rw[if_neg hj,if_neg hj];exact⟨_,rfl⟩
theorem zgR:cZ X (.type "int") (λxs H Q=>(∃i,xs=[.int i]/\Q (.int i) H)\/∃k,xs=[.bl k]/\Q (.int (if k then 1 else 0)) H):=by
 intro ao s Z H xs us Q I r h;rcases h with ⟨i,rfl,q⟩|⟨k,rfl,q⟩
 ·obtain⟨u,rfl,t,rfl⟩:=vals1 r;exact call_int_int ⟨.int i,H,I,⟨_,rfl⟩,q⟩
 ·obtain⟨u,rfl,r1⟩:=vals1 r;cases r1;exact call_int_bool ⟨.int (if k then 1 else 0),H,I.tok _,⟨_,rfl⟩,q⟩
theorem zdT:cZ X (.builtin "divmod") (λxs H Q=>∃i j,xs=[.int i,.int j]/\wZ i j/\∀p,H p=none->Q (.ref p) (upd H p (.tup [.int (i/j),.int (i%j)]))):=by
 intro ao s Z H xs us Q I r h;obtain⟨i,j,rfl,⟨h1,h2⟩,q⟩:=h;obtain⟨u,w',rfl,⟨t,rfl⟩,⟨t',rfl⟩⟩:=vals2 r;refine divmod_int gV ?_ (.inl (PyProof.noPylong_small gV));rw[Int.fdiv_eq_ediv_of_nonneg i gV,Int.fmod_eq_emod_of_nonneg i gV];have hn:H s.heap.objs.size=none:=I.hok.fresh (cj _);refine⟨.ref s.heap.objs.size,_,?_,rfl,q _ hn⟩;refine I.laid (λb o e=>cD _ e) (cj _) ⟨by simp only[gZ,Ef];rw[vR];decide,[.int (i/j) s.toks,.int (i%j) (s.toks+1)],.cons ⟨_,rfl⟩ (.cons ⟨_,rfl⟩ .nil),?_⟩;exact⟨_,eN s.heap rfl,rfl,0,rfl⟩
end
structure pY(h:Heap)(x dx C:Addr)(mA:Str->Option Value):Prop where
 obj:h.get? x=some (PySem.W.instObj C dx)
 ns:h.Ns1 dx mA
 ne:dx≠x
theorem zf3{h:Heap}{dx:Addr}{mA:Str->Option Value}(n:h.Ns1 dx mA):∃od,h.get? dx=some od/\∀name,PySem.W.lookIn name od=some (mA name):=by
 obtain⟨o,es,ep,ho,hd,hk,_,hm⟩:=n;refine⟨o,ho,λname=>?_⟩;have e:=hm name;unfold nsFind findBy at e;rw[<-Array.find?_toList] at e;unfold PySem.W.lookIn;rw[hd];dsimp only
 split
 ·rename_i y q;rw[q] at e;exact lu some e
 ·rename_i q;rw[q] at e;have a:es.toList.any (·.refKey)=false:=by
   rw[List.any_eq_false];intro y hy;obtain⟨z,t,Qz⟩:=hk y (Array.mem_toList_iff.mp hy);simp[DictEntry.refKey,Qz]
  have a':¬es.toList.any (·.refKey)=true:=by rw[a];exact Gv
  rw[if_neg a'];exact lu some e
theorem pY.look{h:Heap}{x dx C:Addr}{mA:Str->Option Value}(I:pY h x dx C mA):∃od,PySem.W.InstAt h x (PySem.W.instObj C dx) C (some od)/\∀name,PySem.W.lookIn name od=some (mA name):=
 let ⟨od,ho,hl⟩:=zf3 I.ns
 ⟨od,⟨I.obj,rfl,rfl,ho⟩,hl⟩
section
variable {prog:Program}{w:World}{A:Around}{E:Value->Shared->Prop}{s:Shared}{K:W.Frag}{x dx C f:Addr}{mA:Str->Option Value}{name:Str}{v:Value}
theorem zj4{expr:Bool}{Q:Value->Shared->Prop}(X:K.In s.heap)(I:pY s.heap x dx C mA)(hg:PySem.W.plainGet K C name=true)(hh:PySem.W.hasDictIn K C=true)
  (ha:PySem.W.findIn K (.ref C) name=some none) (hv:mA name=some v) (QB:PySem.W.handedIn v=true) (h:Q v {s with toks:=s.toks+1}) :
  wpAny (model prog w) A (getAttr (.ref x) name expr) Q E s:=by
 obtain⟨od,aZ,hl⟩:=I.look;exact PySem.W.get_value X aZ (Pz hg).1 (PySem.W.findObj_own hh ha rfl (by rw[hl,hv])) QB h
theorem zhZ{pl:Sem Bool}{Q:Value×List Value->Shared->Prop}(X:K.In s.heap)(I:pY s.heap x dx C mA)(hg:PySem.W.plainGet K C name=true)
  (hf:PySem.W.findIn K (.ref C) name=some (some (.ref f))) (ht:PySem.W.isFn K (.ref f)=true) (hv:mA name=none) (h:Q (.ref f,[.ref x]) s) :
  wpAny (model prog w) A (getMethod (.ref x) name pl) Q E s:=by
 obtain⟨od,aZ,hl⟩:=I.look;exact PySem.W.method_fn X aZ (Pz hg).1 (Pz hg).2 hf (nU.mp ht) (by show (PySem.W.lookIn name od).map (·.isSome)=some false;rw[hl,hv];rfl) h
theorem ziY{ns:List Str}{Q:Unit->Shared->Prop}(X:K.In s.heap)(I:pY s.heap x dx C mA)
  (hs:PySem.W.findIn K (.ref C) "__setattr__"=some (some (.builtin "object.__setattr__"))) (hp:PySem.W.plainOver K C=true) (ht:PySem.W.takerIn K C name=some none) (hh:PySem.W.hasDictIn K C=true)
  (hw:PySem.Within mA ns) (hsz:ns.length<=sizeLine)
  (h:∀h',pY h' x dx C (λy=>if y=name then some v else mA y)->Heap.SameBut dx s.heap h'->Q () {s with heap:=h',toks:=s.toks+2}) :
  wpAny (model prog w) A (setAttr (.ref x) name v) Q E s:=by
 obtain⟨od,aZ,hl⟩:=I.look;refine PySem.W.set_plain X aZ hs (PySem.W.osa_open (s:={s with toks:=s.toks+1}) (r:=none) X aZ hp ht λb=>?_);obtain⟨cd,hc,Bc⟩:=PySem.W.any_some hh;have hx:s.heap.get? x=some ⟨.ref C,some dx,.plain,#[]⟩:=I.obj;refine aA (aP (aA (aA (wpAny_loadPart hx (aA (PySem.W.Looks.here (s:={s with toks:=s.toks+1}) (PySem.W.looks_clsIn X hc) ?_))))));rw[Bc];refine aP (a:=some dx) (aA (aP (aA ?_)));refine wpAny_nsSet1 (s:={s with toks:=s.toks+1}) I.ns λh' Mx uF=>?_;obtain⟨oD,esD,epD,hoD,hdD,hcD⟩:=Mx.count (PySem.Within.cons name v hw);refine aA (wpAny_lookBehind hoD (by rw[hdD];exact pastItsLine_dict (jU hcD (by rw[gZ];lia))) ?_);exact aP (h _ ⟨(uF.2 _ (Ne.symm I.ne)).trans I.obj,Mx,I.ne⟩ uF)
theorem zhT{R:Result->Shared->Prop}{vs:List Value}{kw:List (Str×Value)}(X:K.In s.heap)(hm:PySem.W.makesIn K C=true)
  (hi:PySem.W.findIn K (.ref C) "__init__"=some (some (.ref f))) (hf:PySem.W.typeIn K (.ref f)=some (.type "function"))
  (h:codeAny (model prog w) (A.under (.builtin "type.__call__" ⟨.ref C::vs,kw⟩)) (.call (.ref f) ⟨.ref (s.heap.objs.size+1)::vs,kw⟩) (PySem.W.InitBack (s.heap.objs.size+1) R)
   {s with heap:=(s.heap.push PySem.W.emptyDict).push (PySem.W.instObj C s.heap.objs.size)}) :
  codeAny (model prog w) A (.call (.ref C) ⟨vs,kw⟩) R s:=by
 obtain⟨hh,g,d,t,os⟩:=s;exact PySem.W.make_core (PySem.W.makes_of X hm) (PySem.W.looks_findIn X hi) (λself=>PySem.W.bind_fn X self hf) (.inl rfl) h
end
noncomputable def fQ(f:Str)(v:V):List (Str×V)->List (Str×V)
 |[]=>[(f,v)]
 |(g,x)::r=>if g=f then (g,v)::r else (g,x)::fQ f v r
theorem W7(f g:Str)(v:V):∀fs:List (Str×V),(fQ f v fs).lookup g=if g=f then some v else fs.lookup g
 |[]=>by
  show List.lookup g [(f,v)]=_;by_cases h:g=f
  ·have hb:(g==f)=true:=nU.mpr h;simp only[List.lookup,hb,if_pos h]
  ·have hb:(g==f)=false:=DN.mpr h;simp only[List.lookup,hb,if_neg h]
 |(k,x)::r=>by
  have ih:=W7 f g v r;rw[show fQ f v ((k,x)::r)=(if k=f then (k,v)::r else (k,x)::fQ f v r) from rfl];by_cases hk:k=f
  ·rw[if_pos hk];by_cases h:g=k
   ·have hb:(g==k)=true:=nU.mpr h;simp only[List.lookup,hb,if_pos (h.trans hk)]
   ·have hb:(g==k)=false:=DN.mpr h;simp only[List.lookup,hb,if_neg (λe:g=f=>h (e.trans hk.symm))]
  ·rw[if_neg hk];by_cases h:g=k
   ·have hb:(g==k)=true:=nU.mpr h;simp only[List.lookup,hb,if_neg (λe:g=f=>hk (h.symm.trans e))]
   ·have hb:(g==k)=false:=DN.mpr h;simp only[List.lookup,hb];exact ih
theorem QC(f:Str)(v:V):∀fs:List (Str×V),f∈(fQ f v fs).map (·.1)/\∀g,g∈fs.map (·.1)->g∈(fQ f v fs).map (·.1)
 |[]=>⟨by simp[fQ],λg h=>by simp at h⟩
 |(k,x)::r=>by
  obtain⟨i1,i2⟩:=QC f v r;rw[show fQ f v ((k,x)::r)=(if k=f then (k,v)::r else (k,x)::fQ f v r) from rfl];by_cases hk:k=f
  ·rw[if_pos hk];subst hk;exact⟨by simp,λg h=>by simpa using h⟩
  ·rw[if_neg hk];refine⟨?_,λg h=>?_⟩
   ·rw[jo];exact gY _ i1
   ·rw[jo] at h ⊢;rcases jm.mp h with e|e
    ·exact jm.mpr (.inl e)
    ·exact gY _ (i2 g e)
theorem W8(f:Str)(v:V):∀fs:List (Str×V),(fQ f v fs).length<=fs.length+1
 |[]=>by simp[fQ]
 |(k,x)::r=>by
  have ih:=W8 f v r;rw[show fQ f v ((k,x)::r)=(if k=f then (k,v)::r else (k,x)::fQ f v r) from rfl];by_cases hk:k=f
  ·rw[if_pos hk,gZ,gZ];lia
  ·rw[if_neg hk,gZ,gZ];lia
theorem Kag{v:V}{o:Option Value}(r:rW (some v) o):∃u,o=some u/\RelV v u:=by
 cases o with
 |none=>exact(show False from r).elim
 |some u=>exact⟨u,rfl,r⟩
theorem Kaf{o:Option Value}(r:rW none o):o=none:=by
 cases o with
 |none=>rfl
 |some u=>exact(show False from r).elim
theorem zgp{v:V}{u:Value}(r:RelV v u):PySem.W.handedIn u=true:=by
 cases v with
 |non=>cases (show u=Value.none from r);rfl
 |bl b=>cases (show u=Value.bool b from r);rfl
 |int i=>obtain⟨t,e⟩:=(show ∃t,u=Value.int i t from r);cases e;rfl
 |str x=>obtain⟨t,e⟩:=(show ∃t,u=Value.str x t from r);cases e;rfl
 |Ay b=>obtain⟨t,e⟩:=(show ∃t,u=Value.bytes b t from r);cases e;rfl
 |flt b=>obtain⟨t,e⟩:=(show ∃t,u=Value.float b t from r);cases e;rfl
 |ref a=>cases (show u=Value.ref a from r);rfl
 |ty n=>cases (show u=Value.type n from r);rfl
section
variable {P:Program}{w:World}{H H':Hp}{h h':Heap}{a C dx:Addr}{fs fs':List (Str×V)}
theorem QD(hok:iR P w H h)(e:H a=some (.ins C dx fs)):∃mA,pY h a dx C mA/\(∀f,rW (fs.lookup f) (mA f))/\PySem.Within mA (fs.map (·.1))/\fs.length<=1000/\H dx=some (.own a):=by
 obtain⟨d,z,ne,ob,mA,n,r,q⟩:=(show bI P w H h a (.ins C dx fs) from hok a _ e);exact⟨mA,⟨ob,n,ne⟩,r,q,z,d⟩
end
structure Cls(K:W.Frag)(C:Addr):Prop where
 pg:PySem.W.plainGet K C Str.empty=true
 hd:PySem.W.hasDictIn K C=true
 po:PySem.W.plainOver K C=true
 sa:PySem.W.findIn K (.ref C) "__setattr__"=some (some (.builtin "object.__setattr__"))
theorem Cls.get{K:W.Frag}{C:Addr}(c:Cls K C)(f:Str):PySem.W.plainGet K C f=true:=c.pg
def g8(K:W.Frag)(C:Addr)(f:Str):Prop:=PySem.W.findIn K (.ref C) f=some none
theorem g8.taker{K:W.Frag}{C:Addr}{f:Str}(n:g8 K C f):PySem.W.takerIn K C f=some none:=by
 unfold PySem.W.takerIn;rw[show PySem.W.findIn K (.ref C) f=some none from n];rfl
structure Meth(K:W.Frag)(C:Addr)(m:Str)(f:Addr):Prop where
 at_:PySem.W.findIn K (.ref C) m=some (some (.ref f))
 fn:PySem.W.isFn K (.ref f)=true
 kp:PySem.W.keepIn K (.ref f)=true
section
variable {X:Cx}{ao:List (Addr×Obj)}{Z:St}{H:Hp}{s:Shared}{a C dx:Addr}{fs:List (Str×V)}{f:Str}{v:V}{A:Around}{E:Value->Shared->Prop}
theorem ze6{b:Bool}{Q:Value->Shared->Prop}(I:Inv X ao Z H s)(e:H a=some (.ins C dx fs))(c:Cls X.K C)(n:g8 X.K C f)(l:fs.lookup f=some v)
  (h:∀u s',Inv X ao Z H s'->RelV v u->Q u s'):wpAny (model X.prog X.w) A (getAttr (.ref a) f b) Q E s:=by
 obtain⟨mA,O,r,_,_,_⟩:=QD I.hok e;obtain⟨u,hu,ru⟩:=Kag (v:=v) (o:=mA f) (by rw[<-l];exact r f);exact zj4 I.lQ O (c.get f) c.hd n hu (zgp ru) (h u _ (I.tok _) ru)
theorem zfn{m:Str}{g:Addr}{pl:Sem Bool}{Q:Value×List Value->Shared->Prop}(I:Inv X ao Z H s)(e:H a=some (.ins C dx fs))(c:Cls X.K C)(k:Meth X.K C m g)(l:fs.lookup m=none)
  (h:Q (.ref g,[.ref a]) s):wpAny (model X.prog X.w) A (getMethod (.ref a) m pl) Q E s:=by
 obtain⟨mA,O,r,_,_,_⟩:=QD I.hok e;have hn:mA m=none:=Kaf (by rw[<-l];exact r m);exact zhZ I.lQ O (c.get m) k.at_ k.fn hn h
theorem zfb{y:V}{u:Value}{Q:Unit->Shared->Prop}(I:Inv X ao Z H s)(e:H a=some (.ins C dx fs))(c:Cls X.K C)(n:g8 X.K C f)(hl:fs.length<1000)(ry:RelV y u)
  (h:∀s',Inv X ao Z (upd H a (.ins C dx (fQ f y fs))) s'->Q () s'):wpAny (model X.prog X.w) A (setAttr (.ref a) f u) Q E s:=by
 obtain⟨mA,O,r,wi,_,ho⟩:=QD I.hok e;have hz:(fs.map (·.1)).length<=sizeLine:=by rw[fZ,vR];lia
 refine ziY I.lQ O c.sa c.po n.taker c.hd wi hz λh' O' sb=>h _ ?_;have hd:∃o,h'.get? dx=some o:=let ⟨o,_,_,e',_⟩:=O'.ns;⟨o,e'⟩;refine I.write (x:=a) (e:=dx) (by rw[e];exact True.intro) (.inr ho) (λb q hb z=>(sb.2 b hb).trans z) hd ?_;refine⟨by rw[bT O.ne];exact ho,?_,O.ne,O'.obj,_,O'.ns,λg=>?_,λg hg=>?_⟩
 ·have:=W8 f y fs;lia
 ·show rW ((fQ f y fs).lookup g) (if g=f then some u else mA g);rw[W7];by_cases q:g=f
  ·rw[if_pos q,if_pos q];exact ry
  ·rw[if_neg q,if_neg q];exact r g
 ·by_cases q:g=f
  ·rw[q];exact(QC f y fs).1
  ·refine(QC f y fs).2 g (wi g λz=>hg ?_);show (if g=f then some u else mA g)=none;rw[if_neg q];exact z
theorem Inv.made(I:Inv X ao Z H s):Inv X ao Z (upd (upd H s.heap.objs.size (.own (s.heap.objs.size+1))) (s.heap.objs.size+1) (.ins C s.heap.objs.size []))
  {s with heap:=(s.heap.push PySem.W.emptyDict).push (PySem.W.instObj C s.heap.objs.size)}:=by
 have e1:(s.heap.push PySem.W.emptyDict).get? s.heap.objs.size=some PySem.W.emptyDict:=eN s.heap rfl;have e2:((s.heap.push PySem.W.emptyDict).push (PySem.W.instObj C s.heap.objs.size)).get? (s.heap.objs.size+1)=some (PySem.W.instObj C s.heap.objs.size):=by
  have:=eN (s.heap.push PySem.W.emptyDict) (o:=PySem.W.instObj C s.heap.objs.size) rfl
  rwa [vQ] at this
 have e3:(s.heap.push PySem.W.emptyDict).Ns s.heap.objs.size (λ_=>none):=⟨PySem.W.emptyDict,#[],_,e1,rfl,(λe he=>absurd he Zaa),λ_=>rfl⟩;have I1:=I.laid (a:=s.heap.objs.size) (o:=.own (s.heap.objs.size+1)) (h':=s.heap.push PySem.W.emptyDict) (t':=s.toks) (λb u q=>cD _ q) (cj _) ⟨_,e1⟩;refine I1.laid (a:=s.heap.objs.size+1) (o:=.ins C s.heap.objs.size []) (t':=s.toks) (λb u q=>cD _ q) (Nat.le_of_eq (vQ _ _)) ?_;have ne:s.heap.objs.size≠s.heap.objs.size+1:=cY (Gz _);refine⟨by rw[bT ne,iD],rR _,ne,e2,λ_=>none,(Heap.Ns1.of_empty e3).at λo q=>cD _ q,λ_=>True.intro,λy hy=>absurd rfl hy⟩
theorem zjI{prog:Program}{w:World}{env:Env}{e:Expr}{f:Str}{pos:Pos}{s:Shared}{Q:Value->Shared->Prop}(hb:attributeBase e f env (eval e env)=eval e env)
  (h:wpAny (model prog w) A (eval e env) (λo s₁=>wpAny (model prog w) A (getAttr o f true) Q E s₁) E s):wpAny (model prog w) A (eval (.Attribute e f pos) env) Q E s:=
 Attribute_any_ h (by rw[arm_eval_Attribute,hb])
end
noncomputable def QF(K:W.Frag)(ta:TE)(f:Str):TE:=λZ H Q=>ta Z H λx H1=>∃a C dx fs v,x=.ref a/\H1 a=some (.ins C dx fs)/\Cls K C/\g8 K C f/\fs.lookup f=some v/\Q v H1
noncomputable def QG(K:W.Frag)(ta tv:TE)(f:Str):TS:=λD Z H=>tv Z H λy H1=>ta Z H1 λx H2=>∃a C dx fs,x=.ref a/\H2 a=some (.ins C dx fs)/\Cls K C/\g8 K C f/\fs.length<1000 /\
 D.nx Z (upd H2 a (.ins C dx (fQ f y fs)))
section
variable {X:Cx}{o e value:Expr}{f:Str}{pos pos' tpos:Pos}{ta tv:TE}
theorem zll(he:PE X e ta)(hb:attributeBase e f X.env (eval e X.env)=eval e X.env):PE X (.Attribute e f pos) (QF X.K ta f):=by
 intro ao s Z H Q I h;refine zjI hb (aQ (he ao s Z H _ I h) λu s1 ⟨x,H1,I1,rx,a,C,dx,fs,v,ex,ea,c,n,l,q⟩=>?_);subst ex;obtain rfl:u=Value.ref a:=rx;exact ze6 I1 ea c n l λu' s2 I2 ru=>⟨v,H1,I2,ru,q⟩
theorem zkx(ha:PE X o ta)(hv:PE X value tv)(hs:swapsWith value (some (.Attribute o f pos')) pos.line X.env=pure false):PS X (.Assign [.Attribute o f pos'] value pos) (QG X.K ta tv f):=by
 intro ao s Z H D I h;refine plainObj_wpAny_Assign_Attribute (aQ (hv ao s Z H _ I h) λu s1 hx=>eG hx λy H1 I1 ry q=>aQ (ha ao s1 Z H1 _ I1 q) λov s2 ⟨x,H2,I2,rx,a,C,dx,fs,ex,ea,c,n,l,q2⟩=>?_) hs;subst ex;obtain rfl:ov=Value.ref a:=rx;exact zfb I2 ea c n l ry λs3 I3=>⟨Z,_,I3,q2⟩
end
structure bx(k:Nat)(A:Around):Prop where
 dp:A.depth+3*k+5<recursionLimit
 un:A.units+16*k+200<cLine
 gd:A.guards=some []
theorem bx.deeper{k:Nat}{A:Around}(r:bx (k+1) A)(env:Env):bx k (A.deeper env):=
 ⟨by have:=r.dp;show A.depth+1+3*k+5<_;lia,by have:=r.un;show A.units+3+16*k+200<_;lia,r.gd⟩
theorem ze7{A:Around}{C:Addr}{us:List Value}{kw:List (Str×Value)}:(A.under (.builtin "type.__call__" ⟨.ref C::us,kw⟩)).depth=A.depth+1:=by
 first|rfl|simp[Around.under,Code.weight,Code.isCreation,Code.isGuard,Code.isCaller,Code.frames,Code.isFrame,guardIds]
theorem zfr{A:Around}{C:Addr}{us:List Value}{kw:List (Str×Value)}:(A.under (.builtin "type.__call__" ⟨.ref C::us,kw⟩)).units=A.units+1:=by
 first|rfl|simp[Around.under,Code.cUnits,Code.frames,Code.isFrame]
theorem bx.depth{k:Nat}{A:Around}(r:bx k A):A.depth<recursionLimit:=by have:=r.dp;lia
noncomputable def HJ:TA:=λ_ H Q=>Q [] H
noncomputable def zA(ta:TE)(tr:TA):TA:=λZ H Q=>ta Z H λx H1=>tr Z H1 λxs H2=>Q (x::xs) H2
section
variable {X:Cx}{e:Expr}{es:List Expr}{te:TE}{t:TA}{pos:Pos}
theorem xq:PA X [] HJ:=λ_ _ _ _ H Q I h=>Calls.spliced_nil ⟨[],H,I,.nil,h⟩
theorem rY(ha:PE X e te)(hr:PA X es t)(hs:starEach (e::es) X.env=(false,eval e X.env)::starEach es X.env:=by rfl):PA X (e::es) (zA te t):=by
 intro pos ao s Z H Q I h;rw[hs];show wpAny _ _ (spliced ((false,eval e X.env)::backTo pos (starEach es X.env))) _ _ s;refine Ln (aQ (ha ao s Z H _ I h) λu s1 hx=>eG hx λx H1 I1 r1 q1=>?_);exact aQ (hr pos ao s1 Z H1 _ I1 q1) λus s2 hx=>eG hx λxs H2 I2 r2 q2=>⟨x::xs,H2,I2,.cons r1 r2,q2⟩
noncomputable def QJ(t:TA):TE:=λZ H Q=>t Z H λxs H1=>xs.length<=sizeLine/\∀p,H1 p=none->Q (.ref p) (upd H1 p (.tup xs))
noncomputable def QK(t:TA):TE:=λZ H Q=>t Z H λxs H1=>xs.length<=sizeLine/\∀p,H1 p=none->Q (.ref p) (upd H1 p (.lst xs))
theorem zk6{x1}(h:PA X es t):PE X (.Tuple es x1 pos) (QJ t):=by
 intro ao s Z H Q I hq;refine wpAny_Tuple_spliced (aQ (h pos ao s Z H _ I hq) λus s1 ⟨xs,H1,I1,r,z,q⟩=>⟨by rw[<-r.length];exact z,?_⟩);have hf:H1 s1.heap.objs.size=none:=I1.hok.fresh (cj _);refine⟨.ref s1.heap.objs.size,upd H1 s1.heap.objs.size (.tup xs),I1.laid (t':=s1.toks) (λb u e=>cD _ e) (cj _) ?_,rfl,q _ hf⟩;exact⟨z,us,r,⟨_,eN _ rfl,rfl,_,rfl⟩⟩
theorem zkS(h:PA X es t):PE X (.List es pos) (QK t):=by
 intro ao s Z H Q I hq;refine wpAny_List_spliced (aQ (h pos ao s Z H _ I hq) λus s1 ⟨xs,H1,I1,r,z,q⟩=>⟨by rw[<-r.length];exact z,?_⟩);have hf:H1 s1.heap.objs.size=none:=I1.hok.fresh (cj _);refine⟨.ref s1.heap.objs.size,upd H1 s1.heap.objs.size (.lst xs),I1.laid (t':=s1.toks) (λb u e=>cD _ e) (cj _) ?_,rfl,q _ hf⟩;exact⟨z,us,0,r,eN _ rfl⟩
end
noncomputable abbrev Sp:=List V->Hp->VK->XK->Prop
noncomputable abbrev rZ:=List Env->Hp->Shared->XK->Value->Shared->Prop
structure pZ(P:Program)(w:World)(K:W.Frag)(mg:Str->Option Value)(base:Heap)(A:Around)(outer:List Env)(s:Shared)(H:Hp):Prop where
 frames:A.frames=some outer
 mod:Mod K mg base
 bs:∀b o,base.get? b=some o->s.heap.get? b=some o/\H b=none
 wR:base.objs.size<=s.heap.objs.size
 jF:s.heap.FunFrames base outer
 zu:(∀b∈frs outer,H b=none)/\A_ K H
 hok:iR P w H s.heap
 bare:AllBare s.gens
def CE(outer:List Env)(P:Program)(w:World)(H:Hp)(s:Shared)(Q:VK)(u:Value)(s':Shared):Prop:=
 ∃v H',s'.os=s.os/\AllBare s'.gens/\Un (frs outer) [] H H' s.heap s'.heap/\iR P w H' s'.heap/\RelV v u/\Q v H'
def CR(CX:rZ)(outer:List Env)(P:Program)(w:World)(H:Hp)(s:Shared)(Q:VK)(E:XK)(r:Result)(s':Shared):Prop:=
 match r with
 |.ok (.ret u)=>CE outer P w H s Q u s'
 |.ok _=>False
 |.error e=>CX outer H s E e s'
structure cF(P:Program)(w:World)(K:W.Frag)(mg:Str->Option Value)(base:Heap)(CX:rZ)(cm:Bool)(k:Nat)(f:Addr)(fd:FuncData)(ps:List Str)(sp:Sp):Prop where
 len:∀vs H Q E,sp vs H Q E->vs.length=ps.length
 run:∀(A:Around) (outer:List Env) (s:Shared) (H:Hp) (args:Args) (us:List Value) (vs:List V) (Q:VK) (E:XK),(cm=true->A.handled=none)->bx k A->pZ P w K mg base A outer s H->BindsTo s fd args (ps.zip us)->Vals vs us->sp vs H Q E->
  codeAny (model P w) A (.call (.ref f) args) (CR CX outer P w H s Q E) s
theorem cF.imp{P:Program}{w:World}{K:W.Frag}{mg:Str->Option Value}{base:Heap}{CX:rZ}{cm:Bool}{k:Nat}{f:Addr}{fd:FuncData}{ps:List Str}{sp W9:Sp}(F:cF P w K mg base CX cm k f fd ps sp)
  (h:∀vs H Q E,W9 vs H Q E->sp vs H Q E):cF P w K mg base CX cm k f fd ps W9:=
 ⟨λvs H Q E q=>F.len vs H Q E (h _ _ _ _ q),λA outer s H args us vs Q E je hr he hb hv hs=>F.run A outer s H args us vs Q E je hr he hb hv (h _ _ _ _ hs)⟩
theorem pZ.make{P:Program}{w:World}{K:W.Frag}{mg:Str->Option Value}{base:Heap}{A:Around}{outer:List Env}{s:Shared}{H:Hp}(e:pZ P w K mg base A outer s H)(C:Addr)(us:List Value)(kw:List (Str×Value)) :
  pZ P w K mg base (A.under (.builtin "type.__call__" ⟨.ref C::us,kw⟩)) outer s H:=⟨by first|exact e.frames|(simpa [Around.under,Code.envs,Code.isFrame,pushEnvs] using e.frames),e.mod,e.bs,e.wR,e.jF,e.zu,e.hok,e.bare⟩
section
variable {X:Cx}{ao:List (Addr×Obj)}{Z:St}{H:Hp}{s s':Shared}
theorem Inv.env0(I:Inv X ao Z H s):pZ X.prog X.w X.K X.mg X.base X.A X.stack s H:=
 ⟨I.ok.frames,I.ok.mod,I.bs,jU I.ok.wR I.sz,I.stack,⟨I.mL,I.Ba⟩,I.hok,I.bare⟩
theorem Inv.after{Q:VK}{u:Value}(I:Inv X ao Z H s)(h:CE X.stack X.prog X.w H s Q u s'):EP X ao Z Q u s':=by
 obtain⟨v,H',os,bare,un,hok,r,q⟩:=h;obtain⟨hh,g,d,t,os'⟩:=s';obtain rfl:os'=s.os:=os;exact⟨v,H',I.call (h':=hh) (g':=g) (d':=d) (t':=t) (ch:=[]) un hok bare (λb z=>absurd z Zaa),r,q⟩
end
noncomputable def HN(C:Addr)(m:Str)(sp:Sp)(ou:List V)(E:XK)(ta:TE)(t:TA):TE:=λZ H Q=>ta Z H λx H1=>∃a dx fs,x=.ref a/\H1 a=some (.ins C dx fs)/\fs.lookup m=none /\
 t Z H1 λvs H2=>sp (x::(vs++ou)) H2 Q E
noncomputable def HS(C:Addr)(sp:Sp)(ou:List V)(E:XK)(t:TA):TE:=λZ H Q=>t Z H λvs H1=>∀x dx,H1 x=none->H1 dx=none->dx≠x->
 sp (.ref x::(vs++ou)) (upd (upd H1 dx (.own x)) x (.ins C dx [])) (λv H2=>v=.non/\Q (.ref x) H2) E
def Binds(K:W.Frag)(fd:FuncData)(ps:List Str)(ds:List Value):Prop:=
 ∀(s:Shared) (us:List Value),K.In s.heap->(us++ds).length=ps.length->BindsTo s fd ⟨us,[]⟩ (ps.zip (us++ds))
theorem Binds.all{K:W.Frag}{fd:FuncData}{ps:List Str}(h:∀us:List Value,us.length=ps.length->bindArgs fd ⟨us,[]⟩=pure (ps.zip us)):Binds K fd ps []:=λs us _ hl=>by
 rw[wH] at hl ⊢;exact .of_eq (h us hl)
def Passes(CX:rZ)(X:Cx)(E:XK):Prop:=∀(ao:List (Addr×Obj)) (Z:St) (H:Hp) (s:Shared) (e:Value) (s':Shared),Inv X ao Z H s->CX X.stack H s E e s'->X.xe e s'
section
variable {X:Cx}{CX:rZ}{cm:Bool}{k:Nat}{f C:Addr}{fd:FuncData}{ps:List Str}{sp:Sp}{ou:List V}{ds:List Value}{E:XK}{x m:Str}{p pos apos:Pos}{e o:Expr}{es:List Expr}{ta:TE}{t:TA}
theorem zlN{ao:List (Addr×Obj)}{Z:St}{H:Hp}{s:Shared}{Q:VK}{us:List Value}{vs:List V}(F:cF X.prog X.w X.K X.mg X.base CX cm k f fd ps sp)(je:cm=true->X.aj=true)(hr:bx k X.A)(hb:Binds X.K fd ps ds)(hd:Vals ou ds)(hx:Passes CX X E)
  (I:Inv X ao Z H s) (r:Vals vs us) (h:sp (vs++ou) H Q E):wpAny (model X.prog X.w) X.A (call (.ref f) us) (EP X ao Z Q) X.xe s:=by
 have r2:Vals (vs++ou) (us++ds):=r.append hd;have hl:(us++ds).length=ps.length:=by rw[<-r2.length];exact F.len _ _ _ _ h
 refine El (yX (F.run X.A X.stack s H ⟨us,[]⟩ (us++ds) (vs++ou) Q E (λz=>I.ok.hd (je z)) hr I.env0 (hb s us I.lQ hl) r2 h) λr s' hq=>?_);cases r with
 |error e=>exact hx ao Z H s e s' I hq
 |ok fl=>
  cases fl with
  |ret u=>exact I.after hq
  |next=>exact False.elim hq
  |brk=>exact False.elim hq
  |cont=>exact False.elim hq
theorem ziL{pl:Sem Bool}(he:PE X o ta)(c:Cls X.K C)(hm:Meth X.K C m f)(F:cF X.prog X.w X.K X.mg X.base CX cm k f fd ps sp)(je:cm=true->X.aj=true)(hr:bx k X.A)(hb:Binds X.K fd ps ds)(hd:Vals ou ds)(hx:Passes CX X E)(ha:PA X (e::es) t)
  (Bj:starEach (e::es) X.env=(false,eval e X.env)::starEach es X.env:=by rfl) (cU:(backTo pos (starEach es X.env)).any (·.1)=false:=by rfl)
  (ht:eval (.Call (.Attribute o m apos) (e::es) [] pos) X.env=(do
   let ov <-eval o X.env
   standAt apos.atName
   let (f,first) <-holding [ov] (getMethod ov m pl)
   callWith pos f first (backTo pos (starEach (e::es) X.env)) (backToKw pos (keywordEach [] X.env))):=by rfl) :
  PE X (.Call (.Attribute o m apos) (e::es) [] pos) (HN C m sp ou E ta t):=by
 intro ao s Z H Q I h;refine PySem.W.methodCall_KW (pl:=pl) (aQ (he ao s Z H _ I h) λu s1 ⟨x,H1,I1,rx,a,dx,fs,ex,ea,l,q⟩=>?_) ht;subst ex;obtain rfl:u=Value.ref a:=rx;refine zfn I1 ea c hm l ?_;refine PB (first:=[.ref a]) (h₀:=X.base) I.ok.mod.wL hm.kp (aQ (ha pos ao s1 Z H1 _ I1 q) λus s2 ⟨vs,H2,I2,r,q2⟩=>⟨I2.lQ,?_⟩) Bj cU;exact zlN (us:=.ref a::us) (vs:=.ref a::vs) F je hr hb hd hx I2 (.cons rfl r) q2
structure Mk(K:W.Frag)(C f:Addr):Prop where
 makes:PySem.W.makesIn K C=true
 init:PySem.W.findIn K (.ref C) "__init__"=some (some (.ref f))
 fn:PySem.W.isFn K (.ref f)=true
 kp:PySem.W.keepIn K (.ref C)=true
theorem zg2{ao:List (Addr×Obj)}{Z:St}{H:Hp}{s:Shared}{Q:VK}{us:List Value}{vs:List V}(M:Mk X.K C f)(F:cF X.prog X.w X.K X.mg X.base CX cm k f fd ps sp)(je:cm=true->X.aj=true)(hr:∀us,bx k (X.A.under (.builtin "type.__call__" ⟨.ref C::us,[]⟩)))(hb:Binds X.K fd ps ds)(hd:Vals ou ds)
  (hx:Passes CX X E) (I:Inv X ao Z H s) (r:Vals vs us)
  (h:∀x dx,H x=none->H dx=none->dx≠x->sp (.ref x::(vs++ou)) (upd (upd H dx (.own x)) x (.ins C dx [])) (λv H2=>v=.non/\Q (.ref x) H2) E) :
  wpAny (model X.prog X.w) X.A (call (.ref C) us) (EP X ao Z Q) X.xe s:=by
 have hq:=h (s.heap.objs.size+1) s.heap.objs.size (I.hok.fresh (wJ _)) (I.hok.fresh (cj _)) (cY (Gz _));have I2:=Inv.made (C:=C) I;have r2:Vals (V.ref (s.heap.objs.size+1)::(vs++ou)) (Value.ref (s.heap.objs.size+1)::(us++ds)):=.cons rfl (r.append hd);have hl:(Value.ref (s.heap.objs.size+1)::us++ds).length=ps.length:=by
  have e:=r2.length;rw[F.len _ _ _ _ hq] at e;exact e.symm
 refine El (zhT (f:=f) I.lQ M.makes M.init (nU.mp M.fn) (yX (F.run _ X.stack _ _ ⟨Value.ref (s.heap.objs.size+1)::us,[]⟩ (Value.ref (s.heap.objs.size+1)::(us++ds)) _ _ E (λz=>I.ok.hd (je z)) (hr us)
  (I2.env0.make C us []) (hb _ (Value.ref (s.heap.objs.size+1)::us) I2.lQ hl) r2 hq) λr s' HW=>?_))
 cases r with
 |error e=>exact hx ao Z _ _ e s' I2 HW
 |ok fl=>
  cases fl with
  |ret u=>
   obtain⟨v,H',I3,rv,ev,q3⟩:=I2.after HW;subst ev;exact⟨rv,⟨V.ref (s.heap.objs.size+1),H',I3,rfl,q3⟩⟩
  |next=>exact False.elim HW
  |brk=>exact False.elim HW
  |cont=>exact False.elim HW
theorem ziS(M:Mk X.K C f)(F:cF X.prog X.w X.K X.mg X.base CX cm k f fd ps sp)(je:cm=true->X.aj=true)(hr:∀us,bx k (X.A.under (.builtin "type.__call__" ⟨.ref C::us,[]⟩)))(hg:Gl X x)(hm:X.mg x=some (.ref C))(hb:Binds X.K fd ps ds)(hd:Vals ou ds)(hx:Passes CX X E)
  (ha:PA X (e::es) t) (su:(x==("__debug__" : Str))=false:=by decide) (he:starEach (e::es) X.env=(false,eval e X.env)::starEach es X.env:=by rfl) (cU:(backTo pos (starEach es X.env)).any (·.1)=false:=by rfl) :
  PE X (.Call (.Name x p) (e::es) [] pos) (HS C sp ou E t):=by
 intro ao s Z H Q I h;refine Ai (Qj I hg hm ?_ su);refine PB (h₀:=X.base) I.ok.mod.wL M.kp (aQ (ha pos ao s Z H _ I h) λus s1 ⟨vs,H1,I1,r,q⟩=>⟨I1.lQ,?_⟩) he cU;exact zg2 M F je hr hb hd hx I1 r q
end
structure bW(N P:List Str)(sc:Scope):Prop where
 kind:sc.kind=.function
 co:sc.isCoroutine=false
 gen:sc.isGenerator=false
 nd:N.Nodup
 pre:N.take P.length=P
 par:∀x∈P,sc.names.lookup x=some .local\/sc.names.lookup x=some .cell
 Br:∀y∈sc.names,y.2≠.free
theorem W_{kindOf:Str->Option NameKind}{x:Str}:∀{binds:List (Str×Value)} {m:Str->Option Value},(∀v,(x,v)∉binds)->bindL kindOf binds m x=m x
 |[],_,_=>rfl
 |(n,v)::r,m,h=>by
  unfold bindL;rw[W_ λw hw=>h w (gY _ hw)]
  split
  ·have:x≠n:=by rintro rfl;exact h v lq
   simp[this]
  ·rfl
theorem Xa{kindOf:Str->Option NameKind}{x:Str}:∀{binds:List (Str×Value)} {m:Str->Option Value},(∀v,(x,v)∉binds)->bindC kindOf binds m x=m x
 |[],_,_=>rfl
 |(n,v)::r,m,h=>by
  unfold bindC;rw[Xa λw hw=>h w (gY _ hw)]
  split
  ·rfl
  ·have:x≠n:=by rintro rfl;exact h v lq
   simp[this]
theorem Xb{kindOf:Str->Option NameKind}{x:Str}{v:Value}:∀{P:List Str} {vs:List Value} {i:Nat} {m:Str->Option Value},P.Nodup->P[i]?=some x->vs[i]?=some v->kindOf x=some .local->
  bindL kindOf (P.zip vs) m x=some v
 |[],_,_,_,_,h,_,_=>by simp at h
 |_::_,[],_,_,_,_,h,_=>by simp at h
 |p::P,w::vs,0,m,nd,h1,h2,hk=>by
  simp at h1 h2;subst h1;subst h2;show bindL kindOf ((p,w)::P.zip vs) m p=_;unfold bindL;rw[W_ λv hv=>(wI.mp nd).1 (List.of_mem_zip hv).1,if_pos hk];simp
 |p::P,w::vs,i+1,m,nd,h1,h2,hk=>by
  show bindL kindOf ((p,w)::P.zip vs) m x=_;unfold bindL;exact Xb (i:=i) (wI.mp nd).2 (by simpa using h1) (by simpa using h2) hk
theorem Xc{kindOf:Str->Option NameKind}{x:Str}{v:Value}:∀{P:List Str} {vs:List Value} {i:Nat} {m:Str->Option Value},P.Nodup->P[i]?=some x->vs[i]?=some v->kindOf x≠some .local->
  bindC kindOf (P.zip vs) m x=some v
 |[],_,_,_,_,h,_,_=>by simp at h
 |_::_,[],_,_,_,_,h,_=>by simp at h
 |p::P,w::vs,0,m,nd,h1,h2,hk=>by
  simp at h1 h2;subst h1;subst h2;show bindC kindOf ((p,w)::P.zip vs) m p=_;unfold bindC;rw[Xa λv hv=>(wI.mp nd).1 (List.of_mem_zip hv).1,if_neg hk];simp
 |p::P,w::vs,i+1,m,nd,h1,h2,hk=>by
  show bindC kindOf ((p,w)::P.zip vs) m x=_;unfold bindC;exact Xc (i:=i) (wI.mp nd).2 (by simpa using h1) (by simpa using h2) hk
noncomputable def start(N:List Str)(vs:List V):St:=vs.map some++List.replicate (N.length-vs.length) none
noncomputable def dJ(CX:rZ)(P:Program)(w:World)(K:W.Frag)(mg:Str->Option Value)(base:Heap)(N:List Str)(qual:Str)(scope:Scope)(f:Addr)(cd:Value)(A:Around)(outer:List Env)(s:Shared)(H:Hp)(E:XK)(cm:Bool):Cx where
 prog:=P
 w:=w
 K:=K
 mg:=mg
 base:=base
 A:=A.deeper (envOfC qual scope s.heap.objs.size f cd)
 N:=N
 s₀:=s
 H₀:=H
 env:=envOfC qual scope s.heap.objs.size f cd
 outer:=outer
 stack:=envOfC qual scope s.heap.objs.size f cd::outer
 ex:=[]
 aj:=cm
 fn:=λ_=>true
 pn:=[]
 xe:=λe s'=>wpAny (model P w) (A.deeper (envOfC qual scope s.heap.objs.size f cd)) (leaving (envOfC qual scope s.heap.objs.size f cd) e) (λ_ s''=>CX outer H s E e s'') (λe' s''=>CX outer H s E e' s'') s'
theorem Xd{sc:Scope}{n:Nat}{x:Str}(h:sc.names.lookup x=some .cell):∃c,(cellsFrom n sc.names []).lookup x=some c:=by
 have q:=Lh sc.names n [] (.inl h);exact O8.mp q
theorem Xe{CX:rZ}{P:Program}{w:World}{K:W.Frag}{mg:Str->Option Value}{base:Heap}{N ps:List Str}{qual:Str}{scope:Scope}{f:Addr}{cd:Value}{A:Around}{outer:List Env}{s s1:Shared}{H:Hp}{E:XK}{us:List Value}{vs:List V}
  {cm:Bool} (S:bW N ps scope) (hd:cm=true->A.handled=none) (e0:pZ P w K mg base A outer s H) (hl:vs.length=ps.length) (r:Vals vs us)
  (x:InCallC s s.heap.objs.size (bindL (envOfC qual scope s.heap.objs.size f cd).kindOf (ps.zip us) λ_=>none) (cellsFrom (s.heap.objs.size+1) scope.names []) (bindC (envOfC qual scope s.heap.objs.size f cd).kindOf (ps.zip us) λ_=>none) s1) :
  Inv (dJ CX P w K mg base N qual scope f cd A outer s H E cm) [] (start N vs) H s1:=by
 have cU:ps.length<=N.length:=by have:=lu List.length S.pre;rw[Ak] at this;lia
 obtain⟨h1,tk,rfl,hk⟩:=x.done;have HX:∀b:Addr,b∉(dJ CX P w K mg base N qual scope f cd A outer s H E cm).ex:=λb z=>absurd (show b∈([]:List Addr) from z) Zaa;refine⟨⟨e0.mod,S.kind,rfl,rfl,cj _,λy z c h1 h2=>?_,λy hy=>?_,λy c _ h=>?_,hd,Around.frames_deeper e0.frames,.inr ⟨rfl,rfl⟩,λb z=>absurd z (HX b),e0.bs,e0.wR,λb _ _=>HX b,λb z=>absurd z (HX b),e0.jF,e0.zu⟩,
  rfl,e0.bare,Un.kept hk,⟨_,x.toInCall.ns,λi y v h1 h2 h3=>?_⟩,λy c h=>⟨_,x.cell y c h⟩,e0.hok.fresh (cj _),λy c h=>?_,λp hp=>absurd (show p∈([]:List (Addr×Obj)) from hp) Zaa,e0.hok.kept hk,?_⟩
 ·exact name_of_addr x.apart (DP h1) (DP h2)
 ·have hy:scope.names.lookup y=some .cell\/scope.names.lookup y=some .free:=hy;rcases hy with hy|hy
  ·exact Xd hy
  ·exact absurd rfl (S.Br _ (DP hy))
 ·exact rP (x.above y c (DP h))
 ·have hi:i<vs.length:=by
   unfold start at h2;by_cases hi:i<vs.length
   ·exact hi
   ·rw[pK (by simpa using hi)] at h2;rw[Af] at h2;split at h2<;>cases h2
  have ha:vs[i]?=some v:=by
   unfold start at h2;rw[pF (by simpa using hi),jD] at h2;cases e:vs[i]? with
   |none=>rw[e] at h2;cases h2
   |some a=>rw[e] at h2;cases h2;rfl
  obtain⟨u,hu,rv⟩:=r.get ha;have hp:ps[i]?=some y:=by
   rw[<-S.pre,List.getElem?_take_of_lt gV];exact h1
  have Xf:ps.Nodup:=by rw[<-S.pre];exact S.nd.sublist (List.take_sublist _ _)
  refine⟨u,rv,?_⟩;rcases S.par y (gH hp) with k|k
  ·exact .inl ⟨k,Xb Xf hp hu k⟩
  ·obtain⟨c,e⟩:=Xd (n:=s.heap.objs.size+1) k;refine .inr ⟨.inl k,c,e,?_⟩;have q:=x.cell y c e;rw[Xc Xf hp hu (by show scope.names.lookup y≠_;rw[k];decide)] at q;exact q
 ·exact e0.hok.fresh (rP (x.above y c (DP h)))
 ·unfold start;show _=N.length;rw[pG,fZ,Gp]
  lia
theorem QL{CX:rZ}{cm:Bool}{P:Program}{w:World}{K:W.Frag}{mg:Str->Option Value}{base:Heap}{k:Nat}{f:Addr}{name qual:Str}{params:Arguments}{body:List Stmt}{scope:Scope}{dV kV doc pm cdv ct oc:Value}{an od:Option Addr}
  {osl:Array (Option Value)} {N ps:List Str} {sp:Sp} (lk:K.lookup f=some ⟨oc,od,.func (PySem.W.fnOf name qual params body scope dV kV doc pm an cdv ct),osl⟩) (iG:PySem.W.codeIn K cdv qual=true) (S:bW N ps scope)
  (len:∀vs H Q E,sp vs H Q E->vs.length=ps.length)
  (HY:∀(A:Around) (outer:List Env) (s:Shared) (H:Hp) (vs:List V) (Q:VK) (E:XK),bx (k+1) A->sp vs H Q E->
   ∃t,pW (dJ CX P w K mg base N qual scope f cdv A outer s H E cm) body t/\t {nx:=λ_ H'=>Q .non H',rt:=Q} (start N vs) H) :
  cF P w K mg base CX cm (k+1) f (PySem.W.fnOf name qual params body scope dV kV doc pm an cdv ct) ps sp:=by
 refine⟨len,λA outer s H args us vs Q E je hr e0 hb r Mz=>?_⟩;have hl:=len _ _ _ _ Mz;have KX:K.In s.heap:=e0.mod.wL.keeps λb o e=>(e0.bs b o e).1;have lim:s.heap.NoLimit:=e0.mod.nolimit.keeps λb o e=>(e0.bs b o e).1;have uG:∀y∈ps.zip us,scope.names.lookup y.1=some .local\/(scope.names.lookup y.1=some .cell/\((cellsFrom (s.heap.objs.size+1) scope.names []).lookup y.1).isSome=true):=λ⟨n,v⟩ hy=>by
  rcases S.par n (List.of_mem_zip hy).1 with q|q
  ·exact .inl q
  ·exact .inr ⟨q,Lh _ _ _ (.inl q)⟩
 refine codeAny_call_function hr.depth (KX _ _ lk) rfl S.co S.gen rfl (PySem.W.codeRec_of KX iG) (hb _ _ _ _ ?_);refine wpAny_newFunctionEnv_cells S.kind uG λenv he s1 x=>?_;subst he;refine⟨lim.keeps x.toInCall.keep,codeAny_func ?_⟩;obtain⟨t,ht,hq⟩:=HY A outer s H vs Q E hr Mz;have I:Inv (dJ CX P w K mg base N qual scope f cdv A outer s H E cm) [] (start N vs) H s1:=Xe S je e0 hl r x;refine gb (ht [] s1 (start N vs) H _ I hq) (λfl s' hs=>?_) λe s' hs=>hs;have fin:∀{Z':St} {H':Hp} {v:V} {u:Value},Inv (dJ CX P w K mg base N qual scope f cdv A outer s H E cm) [] Z' H' s'->RelV v u->Q v H'->CE outer P w H s Q u s':=
  λ{Z' H' v u} aZ rv q=>⟨v,H',aZ.os,aZ.bare,aZ.base,aZ.hok,rv,q⟩
 cases fl with
 |ret u=>
  obtain⟨v,Z',H',aZ,rv,q⟩:=hs;exact fin aZ rv q
 |next=>
  obtain⟨Z',H',aZ,q⟩:=hs;exact fin (v:=V.non) (u:=Value.none) aZ rfl q
 |brk=>
  obtain⟨_,_,_,q⟩:=hs;exact False.elim q
 |cont=>
  obtain⟨_,_,_,q⟩:=hs;exact False.elim q
section
variable {X:Cx}{x:Str}{p pos:Pos}{e:Expr}{es:List Expr}{t:TA}{id T:String}{r:List V->Hp->VK->Prop}
noncomputable def QM(r:List V->Hp->VK->Prop)(t:TA):TE:=λZ H Q=>t Z H λvs H1=>r vs H1 Q
theorem Xg(hc:cZ X (.builtin id) r)(hg:Gl X x)(hm:X.mg x=none)(hv:bootBuiltins x=some (.builtin id))(ha:PA X (e::es) t)(hn:x≠"__name__":=by decide)(su:(x==("__debug__" : Str))=false:=by decide)
  (he:starEach (e::es) X.env=(false,eval e X.env)::starEach es X.env:=by rfl) (cU:(backTo pos (starEach es X.env)).any (·.1)=false:=by rfl):PE X (.Call (.Name x p) (e::es) [] pos) (QM r t):=by
 intro ao s Z H Q I h;refine Ai (vX I hg hm hv ?_ hn su);exact PyProof.Rows.callWith_builtin1 (aQ (ha pos ao s Z H _ I h) λus s1 hx=>eG hx λvs H1 I1 r1 q1=>hc ao s1 Z H1 vs us Q I1 r1 q1) he cU
theorem zf2(hc:cZ X (.type T) r)(hg:Gl X x)(hm:X.mg x=none)(hv:bootBuiltins x=some (.type T))(ha:PA X (e::es) t)(hn:x≠"__name__":=by decide)(su:(x==("__debug__" : Str))=false:=by decide)
  (he:starEach (e::es) X.env=(false,eval e X.env)::starEach es X.env:=by rfl) (cU:(backTo pos (starEach es X.env)).any (·.1)=false:=by rfl):PE X (.Call (.Name x p) (e::es) [] pos) (QM r t):=by
 intro ao s Z H Q I h;refine Ai (vX I hg hm hv ?_ hn su);exact Ae (aQ (ha pos ao s Z H _ I h) λus s1 hx=>eG hx λvs H1 I1 r1 q1=>hc ao s1 Z H1 vs us Q I1 r1 q1) he cU
end
end L2
namespace HT
open PySem PyProof.Rows
noncomputable def lexLt:List Int->List Int->Bool
 |[],[]=>false
 |[],_::_=>true
 |_::_,[]=>false
 |x::xs,y::ys=>if x=y then lexLt xs ys else decide (x<y)
theorem jZ(x y:Int)(xs ys:List Int):lexLt (x::xs) (y::ys)=if x=y then lexLt xs ys else decide (x<y):=rfl
theorem zcQ:lexLt [] []=false:=rfl
theorem zcg(y:Int)(ys:List Int):lexLt [] (y::ys)=true:=rfl
theorem zck(x:Int)(xs:List Int):lexLt (x::xs) []=false:=rfl
theorem zhJ(A:Around)(s:Shared)(a:Int)(t:Tok)(c:Int)(u:Tok):∃e,SeqAt.EqAt A s (.int a t) (.int c u) e/\(e=true↔a=c):=
 ⟨(a==c),SeqAt.EqAt.int_int a t c u,by simp⟩
theorem zgY(A:Around)(s:Shared)(a:Int)(t:Tok)(c:Int)(u:Tok)(prog:Program)(w:World)(E:Value->Shared->Prop)(Q:Value->Shared->Prop)(h:Q (.bool (decide (a<c))) s) :
  wpAny (model prog w) A (richCompare .Lt (.int a t) (.int c u)) Q E s:=
 (PyProof.Rows.lt_int h:wpAny (model prog w) A (compareOp .Lt (.int a t) (.int c u)) Q E s)
section
open PySem.SeqAt
open PySem.AutoSeq1 (wpAny_loadPart')
open PySem.MeetsSeq PySem.MeetsSeq2 PySem.MeetsSeq3
theorem zcY(l b:Addr)(items items2:Array Value)(n n2:Nat)(dd dd2:Option Addr)(sl sl2:Array (Option Value))(ns ms:List Int)(hi:IntsAre items.toList ns)(hj:IntsAre items2.toList ms) :
  Meets (Builtin.«tuple.__lt__» ⟨[.ref l,.ref b],[]⟩)
   (λ_ R s=>s.heap.get? l=some {cls:=.type "tuple",dict:=dd,data:=.seq items n,slots:=sl}/\s.heap.get? b=some {cls:=.type "tuple",dict:=dd2,data:=.seq items2 n2,slots:=sl2} /\
    R (.ok (.ret (.bool (lexLt ns ms)))) s):=
 .of_wp λprog w A R s h=>by
  obtain⟨hp,g,d,tk,os⟩:=s;obtain⟨hl,hb,h⟩:=h;have f2:=AutoSeq1.sub_tuple_tuple;have z1:items.size=ns.length:=by rw[<-hi.length];simp
  have z2:items2.size=ms.length:=by rw[<-hj.length];simp
  wp_walk using wpAny_loadPart' hl,wpAny_loadPart' hb,wpAny_forIn_list _ (λrest b s'=>b.1=none/\s'=⟨hp,g,d,tk,os⟩/\∃(vs ws:List Value) (ns' Ez:List Int),rest=vs.zip ws /\
   IntsAre vs ns'/\IntsAre ws Ez/\ns'.length+items2.size=Ez.length+items.size/\R (.ok (.ret (.bool (lexLt ns' Ez)))) ⟨hp,g,d,tk,os⟩) _
  case turn=>
   rintro⟨y,x⟩ rest b s' ⟨hb',rfl,vs,ws,ns',Ez,hz,QS,MF,hlen,hR⟩;cases QS with
   |nil=>rw[List.zip_nil_left] at hz;cases hz
   |cons a t QT=>
    cases MF with
    |nil=>rw[List.zip_nil_right] at hz;cases hz
    |cons c u QV=>
     rw[Gx] at hz;injection hz with hyx H_;injection hyx with hy hx;subst hy hx;rw[jZ] at hR;simp only[gZ] at hlen;obtain⟨e,he,Ia⟩:=zhJ A.in1 ⟨hp,g,d,tk,os⟩ a t c u;refine aA (he prog w _ _ ?_);cases e with
     |true=>
      rw[if_pos (Ia.mp rfl)] at hR
      wp_walk
      exact⟨rfl,rfl,_,_,_,_,H_,QT,QV,by lia,hR⟩
     |false=>
      rw[if_neg (λq=>absurd (Ia.mpr q) Gv)] at hR;have hri:=zgY A.in1 ⟨hp,g,d,tk,os⟩ a t c u prog w
      wp_walk using hri
      exact⟨_,rfl,by simpa using hR⟩
  case fin=>
   rintro⟨b1,b2⟩ s' ⟨hb',rfl,vs,ws,ns',Ez,hz,QS,MF,hlen,hR⟩;simp only at hb';subst hb';have hv:lexLt ns' Ez=decide (items.size<items2.size):=by
    cases QS with
    |nil=>
     cases MF with
     |nil=>
      simp only[Ef] at hlen;rw[zcQ];exact(uf gV).symm
     |cons c u hw=>
      simp only[Ef,gZ] at hlen;rw[zcg];exact(nH gV).symm
    |cons a t hv=>
     cases MF with
     |nil=>
      simp only[Ef,gZ] at hlen;rw[zck];exact(uf gV).symm
     |cons c u hw=>
      rw[Gx] at hz;cases hz
   rw[hv] at hR
   wp_walk
   exact⟨_,rfl,by simpa [Builtin.Tuple.tupleCompareSizes] using hR⟩
  case h=>
   exact⟨rfl,rfl,items.toList,items2.toList,ns,ms,rfl,hi,hj,by lia,h⟩
end
section
variable {prog:Program}{w:World}{A:Around}{E:Value->Shared->Prop}{s:Shared}
theorem j8{l b:Addr}{items items2:Array Value}{ns ms:List Int}{Q:Value->Shared->Prop}(hl:IsTup s.heap l items)(hb:IsTup s.heap b items2)(hi:IntsAre items.toList ns)(hj:IntsAre items2.toList ms)
  (hu:A.units<cLine) (h:Q (.bool (lexLt ns ms)) s):wpAny (model prog w) A (compareOp .Lt (.ref l) (.ref b)) Q E s:=by
 obtain⟨⟨cls,dd,data,sl⟩,ho,hc,n,hd⟩:=id hl;obtain⟨⟨cls2,dd2,data2,sl2⟩,p7,nJ,n2,hd2⟩:=id hb;simp only at hc hd nJ hd2;subst hc hd nJ hd2;exact richCompare_meets_room (op:=.Lt) ⟨_,ho,rfl⟩ ⟨_,p7,rfl⟩ PySem.F.slot_tuple_lt PySem.F.entry_tuple_lt (PySem.F.args_tuple_lt_2 _ _) (zcY l b items items2 n n2 dd dd2 sl sl2 ns ms hi hj)
  ⟨ho,p7,show Value.bool (lexLt ns ms)≠Value.notImplemented/\Q (.bool (lexLt ns ms)) s from ⟨(λx=>nomatch x),h⟩⟩ hu
theorem xr{t b:Addr}{vs ws:List Value}{Q:Value->Shared->Prop}(ht:IsTup s.heap t vs.toArray)(hb:IsTup s.heap b ws.toArray)(hv:vs≠[])
  (h1:ws=[]->Q (.ref t) s) (h2:ws≠[]->Q (.ref s.heap.objs.size) {s with heap:=s.heap.push {cls:=.type "tuple",data:=.seq (vs++ws).toArray}})
  (hsz:vs.length+ws.length<=sizeLine):wpAny (model prog w) A (binaryOp .Add (.ref t) (.ref b)) Q E s:=by
 obtain⟨⟨cls,dd,data,sl⟩,ho,hc,n,hd⟩:=id ht;obtain⟨⟨cls2,dd2,data2,sl2⟩,p7,nJ,n2,hd2⟩:=id hb;simp only at hc hd nJ hd2;subst hc hd nJ hd2;have e:vs.toArray++ws.toArray=(vs++ws).toArray:=by simp
 by_cases hw:ws=[]
 ·exact concat_meets ⟨_,ho,rfl⟩ ⟨_,p7,rfl⟩ noFill_tuple_add seq_tuple_add Pg Pa (O9 _ _)
   (tuple_addW1 t b vs.toArray ws.toArray n n2 dd dd2 sl sl2 (by simpa using hv) (by simp[hw])) ⟨ho,p7,h1 hw⟩
 ·refine concat_meets ⟨_,ho,rfl⟩ ⟨_,p7,rfl⟩ noFill_tuple_add seq_tuple_add Pg Pa (O9 _ _)
   (tuple_addW2 t b vs.toArray ws.toArray n n2 dd dd2 sl sl2 (by simpa using hv) (by simpa using hw) (by rw[fH,fH];exact hsz)) ⟨ho,p7,?_⟩
  rw[e];exact h2 hw
noncomputable def bY(n d:Nat):Option Int->Nat
 |none=>d
 |some v=>if v<0 then (v+(n:Int)).toNat else min v.toNat n
theorem uH(n d:Nat):bY n d none=d:=rfl
theorem xu(n d k:Nat):bY n d (some (k:Int))=min k n:=by
 show (if (k:Int)<0 then ((k:Int)+(n:Int)).toNat else min (k:Int).toNat n)=min k n;rw[if_neg gV,rN]
theorem zmq(n d:Nat)(hd:d<=n)(o:Option Int):bY n d o<=n:=by
 cases o with
 |none=>exact hd
 |some v=>
  show (if v<0 then (v+(n:Int)).toNat else min v.toNat n)<=n;by_cases hv:v<0
  ·rw[if_pos hv];lia
  ·rw[if_neg hv];exact Nat.min_le_right _ _
theorem Xh(v:Int)(n d:Nat):(if v<0 then max (v+(n:Int)) 0 else min v (n:Int))=((bY n d (some v):Nat):Int):=by
 show (if v<0 then max (v+(n:Int)) 0 else min v (n:Int))=(((if v<0 then (v+(n:Int)).toNat else min v.toNat n):Nat):Int);by_cases hv:v<0
 ·simp only[if_pos hv];lia
 ·simp only[if_neg hv];lia
theorem zft(lo hi:Option Int)(n:Nat):Builtin.Slice.sliceAdjust lo hi 1 (n:Int)=(((bY n 0 lo:Nat):Int),((bY n n hi:Nat):Int)):=by
 have h1:¬((1:Int)<0):=by lia
 unfold Builtin.Slice.sliceAdjust;simp only[h1,nW];refine Prod.ext ?_ ?_
 ·cases lo with
  |none=>rfl
  |some v=>exact Xh v n 0
 ·cases hi with
  |none=>rfl
  |some v=>exact Xh v n n
theorem ze9(i j:Nat):Builtin.Slice.slicePlaces (i:Int) (j:Int) 1=j-i:=by
 unfold Builtin.Slice.slicePlaces;have h1:(1:Int)>0:=by lia
 simp only[h1,if_true,Int.ediv_one]
 split<;>lia
theorem Xi{v:Value}{o:Option Int}{Q:Option Int->Shared->Prop}(p:IsPart v o)(h:Q o s):wpAny (model prog w) A (Builtin.Slice.slicePartIndex v) Q E s:=by
 cases p with
 |none=>exact slicePart_none h
 |int i t=>exact slicePart_int h
theorem Xj{sl:Addr}{vl vu:Value}{lo hi:Option Int}{n:Nat}{Q:Int×Int×Nat->Shared->Prop}(hs:s.heap.IsSliceOf sl vl vu .none)(pl:IsPart vl lo)(pu:IsPart vu hi)
  (h:Q (((bY n 0 lo:Nat):Int),1,bY n n hi-bY n 0 lo) s):wpAny (model prog w) A (Builtin.Slice.sliceApplied (.ref sl) (pure (n:Int))) Q E s:=by
 obtain⟨os,Bs,MJ,Ib⟩:=id hs;unfold Builtin.Slice.sliceApplied Builtin.Slice.sliceFields;refine aA (aA (mF Bs Ib (x:=vl) rfl (aA (mF Bs Ib (x:=vu) rfl (aA (mF Bs Ib (x:=.none) rfl (aP ?_)))))));refine aA (slicePart_none ?_);show wpAny _ _ (if ((1:Int)==0)=true then _ else _) _ _ s;rw[if_neg RB];refine aA (Xi pl (aA (Xi pu (aA (aP ?_)))));show wpAny _ _ (match Builtin.Slice.sliceAdjust lo hi 1 (n:Int) with|(lo,hi)=>pure (lo,(1:Int),Builtin.Slice.slicePlaces lo hi 1)) _ _ s;rw[zft lo hi n];show wpAny _ _ (pure (((bY n 0 lo:Nat):Int),(1:Int),Builtin.Slice.slicePlaces ((bY n 0 lo:Nat):Int) ((bY n n hi:Nat):Int) 1)) _ _ s;rw[ze9];exact aP h
theorem zg3(xs:Array Value)(i k:Nat):((List.range k).filterMap λ(m:Nat)=>xs[((i:Int)+(m:Int)*1).toNat]?).toArray=((xs.toList.drop i).take k).toArray:=by
 have e:(λ(m:Nat)=>xs[((i:Int)+(m:Int)*1).toNat]?)=λm=>xs[i+m]?:=by
  funext m
  have:((i:Int)+(m:Int)*1).toNat=i+m:=by lia
  rw[this]
 rw[e];have:=pick_run xs i k;rw[List.filterMap_map] at this;have e2:((λx=>xs[x]?)∘λx=>i+x)=λm=>xs[i+m]?:=rfl;rw[e2] at this;rw[this]
theorem iI{t sl:Addr}{items:Array Value}{vl vu:Value}{lo hi:Option Int}{Q:Value->Shared->Prop}(ht:IsTup s.heap t items)(hs:s.heap.IsSliceOf sl vl vu .none)(pl:IsPart vl lo)(pu:IsPart vu hi)
  (hw:¬(bY items.size 0 lo=0/\bY items.size items.size hi=items.size))
  (h:Q (.ref s.heap.objs.size) {s with heap:=s.heap.push {cls:=.type "tuple",data:=.seq ((items.toList.drop (bY items.size 0 lo)).take (bY items.size items.size hi-bY items.size 0 lo)).toArray}})
  (hsz:items.size<=sizeLine):wpAny (model prog w) A (getItem (.ref t) (.ref sl)) Q E s:=by
 have qT:sizeOk (.seq ((items.toList.drop (bY items.size 0 lo)).take (bY items.size items.size hi-bY items.size 0 lo)).toArray):=by
  show ((items.toList.drop (bY items.size 0 lo)).take (bY items.size items.size hi-bY items.size 0 lo)).toArray.size<=sizeLine;rw[fH,Ak,List.length_drop,pL]
  lia
 have hj:bY items.size items.size hi<=items.size:=zmq _ _ (cj _) hi;obtain⟨os,Bs,MJ,Ib⟩:=id hs;have QW:s.TypeIs (.ref sl) "slice":=⟨os,Bs,MJ⟩;unfold getItem
 try with_reducible refine pQ ?_
 first|refine aA (aP ?_)|skip
 refine aA (wpAny_sequenceKey ht.typeIs RB ?_);refine aA (Ag (name:=Str.ofString "__getitem__") ht.typeIs Dz
  (yU Dz ht.typeIs entry_tuple_getitem ?_ (args_tuple_getitem _ _)))
 show wpAny _ _ (Builtin.Tuple.tupleItemsOf (.ref t) >>= _) _ _ s;refine aA (tupleItemsOf_ ht ?_);refine aA (wpAny_typeOf QW ?_);rw[if_pos RB];refine aA (Xj hs pl pu ?_);have nM:¬((((bY items.size 0 lo:Nat):Int)==0&&(1:Int)==1&&(bY items.size items.size hi-bY items.size 0 lo)==items.size)=true):=by
  intro q;rw[fK,fK] at q;have q1:((bY items.size 0 lo:Nat):Int)=0:=eq_of_beq q.1.1;have q2:bY items.size items.size hi-bY items.size 0 lo=items.size:=eq_of_beq q.2;exact hw ⟨by lia,by lia⟩
 show wpAny _ _ (if (((bY items.size 0 lo:Nat):Int)==0&&(1:Int)==1&&(bY items.size items.size hi-bY items.size 0 lo)==items.size)=true then _ else _) _ _ s;rw[if_neg nM,zg3]
 first
  |exact aA (m:=Builtin.Tuple.tupleExact _) (tO (aP ⟨_,rfl,aP h⟩) qT)
  |exact aA (m:=Builtin.Tuple.tupleExact _) (tO (aA (aP (aP ⟨_,rfl,aP h⟩))) qT)
  |exact aA (aA (m:=Builtin.Tuple.tupleExact _) (tO (aP (aP ⟨_,rfl,aP h⟩)) qT))
  |exact aA (aA (m:=Builtin.Tuple.tupleExact _) (tO (aP ⟨_,rfl,aP h⟩) qT))
end
end HT
namespace L2
open PySem PySem.Spec PyProof.Rows
noncomputable abbrev TO:=St->Hp->(Option Int->Hp->Prop)->Prop
def PO(X:Cx)(e:Option Expr)(t:TO):Prop:=
 ∀(ao:List (Addr×Obj)) (s:Shared) (Z:St) (H:Hp) (Q:Option Int->Hp->Prop),Inv X ao Z H s->t Z H Q->
  wpAny (model X.prog X.w) X.A (evalPart e X.env) (λu s'=>∃o H',Inv X ao Z H' s'/\IsPart u o/\Q o H') X.xe s
noncomputable def xG:TO:=λ_ H Q=>Q none H
noncomputable def Ie(t:TE):TO:=λZ H Q=>t Z H λx H1=>∃i,x=.int i/\Q (some i) H1
theorem Xk{ns:List Int}:∀{us:List Value},Vals (ns.map V.int) us->IntsAre us ns:=by
 induction ns with
 |nil=>intro us r;rw[List.map_nil] at r;cases r;exact .nil
 |cons n ns ih=>
  intro us r;rw[jo] at r;cases r with
  |cons r1 r2=>
   obtain⟨t,e⟩:=r1;subst e;exact .cons n t (ih r2)
section
variable {X:Cx}{e:Expr}{te:TE}{lo hi:Option Expr}{tl th:TO}{pos p2:Pos}
theorem zjg:PO X none xG:=by
 intro ao s Z H Q I h;rw[evalPart_none];exact aP ⟨none,H,I,.none,h⟩
theorem zi4(h:PE X e te):PO X (some e) (Ie te):=by
 intro ao s Z H Q I hw;rw[evalPart_some];refine aQ (h ao s Z H _ I hw) λu s1 hx=>eG hx λx H1 I1 r1 q1=>?_;obtain⟨i,rfl,q⟩:=q1;obtain⟨t,rfl⟩:=r1;exact⟨some i,H1,I1,.int i t,q⟩
def xH(X:Cx)(r:V->Option Int->Option Int->Hp->VK->Prop):Prop:=
 ∀(ao:List (Addr×Obj)) (s:Shared) (Z:St) (H:Hp) (x:V) (v vl vu:Value) (lo hi:Option Int) (sl:Addr) (Q:VK),Inv X ao Z H s->RelV x v->s.heap.IsSliceOf sl vl vu .none->IsPart vl lo->IsPart vu hi->r x lo hi H Q->
  ∃T id,typeLookup (.type T) "__getitem__"=pure (some (.builtin id))/\s.TypeIs v T/\wpAny (model X.prog X.w) X.A (getItem v (.ref sl)) (EP X ao Z Q) X.xe s
theorem xH.or{r r':V->Option Int->Option Int->Hp->VK->Prop}(h:xH X r)(h':xH X r'):xH X (λx lo hi H Q=>r x lo hi H Q\/r' x lo hi H Q):=by
 intro ao s Z H x v vl vu lo hi sl Q I rx hs pl pu q;rcases q with q|q
 ·exact h ao s Z H x v vl vu lo hi sl Q I rx hs pl pu q
 ·exact h' ao s Z H x v vl vu lo hi sl Q I rx hs pl pu q
noncomputable def tSl(r:V->Option Int->Option Int->Hp->VK->Prop)(te:TE)(tl th:TO):TE:=λZ H Q=>te Z H λx H1=>tl Z H1 λl H2=>th Z H2 λu H3=>r x l u H3 Q
theorem zic{r:V->Option Int->Option Int->Hp->VK->Prop}(hr:xH X r)(he:PE X e te)(hl:PO X lo tl)(hu:PO X hi th):PE X (.Subscript e (.Slice lo hi none p2) pos) (tSl r te tl th):=by
 intro ao s Z H Q I h;refine Subscript_ (aQ (he ao s Z H _ I h) λv s1 hx=>eG hx λx H1 I1 r1 q1=>?_);refine wpAny_Slice (aQ (hl ao s1 Z H1 _ I1 q1) λvl s2 hx=>eG hx λl H2 I2 pl q2=>aQ (hu ao s2 Z H2 _ I2 q2) λvu s3 hx=>eG hx λu H3 I3 pu q3=>?_);rw[evalPart_none];refine aP ?_;have I4:Inv X ao Z H3 {s3 with heap:=s3.heap.push {cls:=.type "slice",data:=.fields #[vl,vu,.none]}}:=I3.kept (t':=s3.toks) λb ob q=>cD _ q;obtain⟨T,id,hT,ht,hg⟩:=hr ao {s3 with heap:=s3.heap.push {cls:=.type "slice",data:=.fields #[vl,vu,.none]}} Z H3 x v vl vu l u s3.heap.objs.size Q I4 r1 (Heap.IsSliceOf.new ..) pl pu q3;show wpAny (model X.prog X.w) X.A (subscriptTail e (.Slice lo hi none p2) v (.ref s3.heap.objs.size)) (EP X ao Z Q) X.xe {s3 with heap:=s3.heap.push {cls:=.type "slice",data:=.fields #[vl,vu,.none]}};exact tail_any (ops:=[.ref s3.heap.objs.size,v]) ht hT hg (by with_unfolding_all rfl)
noncomputable def mO(xs:List V)(lo hi:Option Int):List V:=(xs.drop (HT.bY xs.length 0 lo)).take (HT.bY xs.length xs.length hi-HT.bY xs.length 0 lo)
theorem Xl(xs:List V)(lo hi:Option Int):(mO xs lo hi).length<=xs.length:=by
 unfold mO;rw[Ak,List.length_drop]
 lia
noncomputable def QX(K:W.Frag):V->Option Int->Option Int->Hp->VK->Prop:=λx lo hi H Q=>∃a xs,x=.ref a/\gP K H a xs /\
 ¬(HT.bY xs.length 0 lo=0/\HT.bY xs.length xs.length hi=xs.length)/\∀p,H p=none->Q (.ref p) (upd H p (.tup (mO xs lo hi)))
theorem zlj:xH X (QX X.K):=by
 intro ao s Z H x v vl vu lo hi sl Q I rx hs pl pu h;obtain⟨a,xs,rfl,hx,hw,q⟩:=h;cases rx;obtain⟨its,r,ht,hz⟩:=I.tuple hx;have hlen:its.toArray.size=xs.length:=by rw[fH];exact r.length.symm
 refine⟨"tuple",_,Dz.lookup,ht.typeIs,?_⟩;refine HT.iI ht hs pl pu (by rw[hlen];exact hw) ?_ (by rw[hlen];exact hz);rw[hlen];refine⟨.ref s.heap.objs.size,_,I.laid (t':=s.toks) (o:=.tup (mO xs lo hi)) (λb ob q=>cD _ q) (cj _) ?_,rfl,q _ (I.hok.fresh (cj _))⟩;exact⟨jU (Xl xs lo hi) hz,_,(r.drop (HT.bY xs.length 0 lo)).take (HT.bY xs.length xs.length hi-HT.bY xs.length 0 lo),IsTup.new _ _⟩
noncomputable def Ig(K:W.Frag):R2:=λx y H Q=>∃a b ns ms,x=.ref a/\y=.ref b/\gP K H a (ns.map V.int)/\gP K H b (ms.map V.int)/\Q (.bl (HT.lexLt ns ms)) H
theorem zkD(hu:X.A.units<cLine):fP X (compareOp .Lt) (Ig X.K):=by
 intro ao s Z H x y v u Q I rx ry h;obtain⟨a,b,ns,ms,rfl,rfl,ha,hb,q⟩:=h;cases rx;cases ry;obtain⟨its,r1,p1,_⟩:=I.tuple ha;obtain⟨its2,r2,p2,_⟩:=I.tuple hb;have i1:IntsAre its.toArray.toList ns:=Xk r1;have i2:IntsAre its2.toArray.toList ms:=Xk r2;exact HT.j8 p1 p2 i1 i2 hu ⟨.bl (HT.lexLt ns ms),H,I,rfl,q⟩
theorem Vals.mQ{xs:List V}{us:List Value}(r:Vals xs us):us=[]↔xs=[]:=by
 cases r with
 |nil=>simp
 |cons _ _=>simp
end
noncomputable def sy(n:Nat)(i:Int):Option Nat:=if 0<=i then (if i<n then some i.toNat else none) else if -(n:Int)<=i then some (i+n).toNat else none
noncomputable def qU{α:Type}(xs:List α)(i:Int):Option α:=(sy xs.length i).bind λj=>xs[j]?
theorem Xm{n:Nat}{i:Int}{j:Nat}(h:sy n i=some j):seqIndex? i n=some j/\j<n/\-(n:Int)<=i/\i<n:=by
 unfold sy at h;by_cases h0:0<=i
 ·rw[if_pos h0] at h;by_cases h1:i<n
  ·rw[if_pos h1] at h;have e:i.toNat=j:=cP h;exact⟨by rw[seqIndex_of h0 h1,e],by lia,by lia,h1⟩
  ·rw[if_neg h1] at h;cases h
 ·rw[if_neg h0] at h;by_cases h1 : -(n:Int)<=i
  ·rw[if_pos h1] at h;have e:(i+n).toNat=j:=cP h;exact⟨by rw[seqIndex_neg gV h1,e],by lia,h1,by lia⟩
  ·rw[if_neg h1] at h;cases h
theorem QZ{α:Type}{xs:List α}{i:Int}{v:α}(h:qU xs i=some v):∃j,seqIndex? i xs.length=some j/\xs[j]?=some v/\j<xs.length/\-(xs.length:Int)<=i/\i<xs.length:=by
 unfold qU at h;cases e:sy xs.length i with
 |none=>rw[e] at h;cases h
 |some j=>
  rw[e] at h;obtain⟨h1,h2,h3,h4⟩:=Xm e;exact⟨j,h1,h,h2,h3,h4⟩
def qW(b:Expr):Prop:=∀o i,subscripted b false o i=operate [o,i] (getItem o i)
def xJ(X:Cx)(r:R2):Prop:=
 ∀(value slice:Expr) (ao:List (Addr×Obj)) (s:Shared) (Z:St) (H:Hp) (x y:V) (v u:Value) (Q:VK),Inv X ao Z H s->RelV x v->RelV y u->r x y H Q->
  subscripted slice false v u=operate [v,u] (getItem v u)->wpAny (model X.prog X.w) X.A (subscriptTail value slice v u) (EP X ao Z Q) X.xe s
def MK(X:Cx)(id:String)(r:V->List V->Hp->VK->Prop):Prop:=
 ∀(ao:List (Addr×Obj)) (s:Shared) (Z:St) (H:Hp) (x:V) (xs:List V) (v:Value) (us:List Value) (Q:VK),Inv X ao Z H s->RelV x v->Vals xs us->r x xs H Q->
  wpAny (model X.prog X.w) X.A (call (.builtin id) (v::us)) (EP X ao Z Q) X.xe s
section
variable {X:Cx}{a b:Expr}{ta tb:TE}{pos:Pos}
theorem xJ.or{r r':R2}(h:xJ X r)(h':xJ X r'):xJ X (λx y H Q=>r x y H Q\/r' x y H Q):=by
 intro value slice ao s Z H x y v u Q I rx ry q hs;rcases q with q|q
 ·exact h value slice ao s Z H x y v u Q I rx ry q hs
 ·exact h' value slice ao s Z H x y v u Q I rx ry q hs
theorem zm3{r:R2}(hr:xJ X r)(ha:PE X a ta)(hb:PE X b tb)(hs:qW b):PE X (.Subscript a b pos) (Mv r ta tb):=by
 intro ao s Z H Q I h;exact Subscript_ (Bl ha hb I h λv u s2 x y H2 I2 rx ry q=>hr a b ao s2 Z H2 x y v u Q I2 rx ry q (hs _ _))
noncomputable def Ih(K:W.Frag):R2:=λx y H Q=>∃p xs i v,x=.ref p/\y=.int i/\cT K H p xs/\qU xs i=some v/\Q v H
noncomputable def Ii(K:W.Frag):R2:=λx y H Q=>∃p xs i v,x=.ref p/\y=.int i/\gP K H p xs/\qU xs i=some v/\Q v H
noncomputable def Ij:R2:=λx y H Q=>∃z i c,x=.str z/\y=.int i/\z.length<=sizeLine/\qU z.cps.toList i=some c/\Q (.str ⟨#[c]⟩) H
theorem xK:xJ X (Ih X.K):=by
 intro value slice ao s Z H x y v u Q I rx ry h hs;obtain⟨p,xs,i,z,rfl,rfl,hq,he,q⟩:=h;cases rx;obtain⟨t,rfl⟩:=ry;obtain⟨its,r,pl,hz⟩:=I.list hq;obtain⟨j,h1,h2,h3,h4,h5⟩:=QZ he;obtain⟨w,ew,jY⟩:=r.get h2;have hl:=r.length;have hn:=jd;have fin:EP X ao Z Q w s:=⟨z,H,I,jY,q⟩;by_cases h0:0<=i
 ·have hj:i.toNat=j:=by
   rw[seqIndex_of h0 h5] at h1;exact cP h1
  exact item_listR pl.isList h0 gV (by rw[hj];simpa using ew) fin hs
 ·have hj:(i+(its.toArray.size:Int)).toNat=j:=by
   rw[seqIndex_neg gV h4] at h1;rw[fH,<-hl];exact cP h1
  exact subscriptTail_builtinR (x:=w) pl.isList.typeIs slot_list_getitem.lookup
   (wpAny_getItem_list_neg (Q:=λr s'=>r=w/\EP X ao Z Q r s') pl.isList gV (by rw[fH]<;>lia) gV (by rw[hj];simpa using ew) ⟨rfl,fin⟩) hs
theorem Bt:xJ X (Ii X.K):=by
 intro value slice ao s Z H x y v u Q I rx ry h hs;obtain⟨p,xs,i,z,rfl,rfl,hq,he,q⟩:=h;cases rx;obtain⟨t,rfl⟩:=ry;obtain⟨its,r,pl,hz⟩:=I.tuple hq;obtain⟨j,h1,h2,h3,h4,h5⟩:=QZ he;obtain⟨w,ew,jY⟩:=r.get h2;have hl:=r.length;have hn:=jd;have fin:EP X ao Z Q w s:=⟨z,H,I,jY,q⟩;exact subscriptTail_builtinR (x:=w) pl.typeIs slot_tuple_getitem.lookup
  (getItem_tuple (j:=j) (Q:=λr s'=>r=w/\EP X ao Z Q r s') pl gV gV (by rw[fH,<-hl];exact h1) (by simpa using ew) ⟨rfl,fin⟩) hs
theorem zmm:xJ X Ij:=by
 intro value slice ao s Z H x y v u Q I rx ry h hs;obtain⟨z,i,c,rfl,rfl,hz,he,q⟩:=h;obtain⟨t,rfl⟩:=rx;obtain⟨t',rfl⟩:=ry;obtain⟨j,h1,h2,h3,h4,h5⟩:=QZ he;have hl:z.cps.toList.length=z.length:=by simp[Str.length]
 rw[hl] at h1 h4 h5;have hn:=jd;exact tail_any (typeIs_str s z t) slot_str_getitem.lookup (getItem_str (c:=c) (by
  have e1:decide (i < -(2^63:Int))=false:=uf gV;have e2:decide (i>=2^63)=false:=uf gV;rw[e1,e2,Bool.or_false]) (by rw[h1];simpa using h2) ⟨.str ⟨#[c]⟩,H,I.tok _,⟨_,rfl⟩,q⟩) hs
noncomputable def Q0(K:W.Frag):R2:=λx y H Q=>Ih K x y H Q\/Ii K x y H Q\/Ij x y H Q
theorem zkC:xJ X (Q0 X.K):=xK.or (Bt.or zmm)
theorem zfm(its:List Value)(n j:Nat)(u:Value):Obj.mapSeq (·.setIfInBounds j u) {cls:=.type "list",data:=.seq its.toArray n}={cls:=.type "list",data:=.seq (its.set j u).toArray n}:=by
 simp[Obj.mapSeq]
theorem Inv.lst{ao:List (Addr×Obj)}{Z:St}{H:Hp}{s:Shared}{p:Addr}{xs:List V}(I:Inv X ao Z H s)(h:H p=some (.lst xs)) :
  ∃(its:List Value) (n:Nat),Vals xs its/\s.heap.get? p=some {cls:=.type "list",data:=.seq its.toArray n}/\xs.length<=sizeLine:=by
 obtain⟨z,its,n,r,e⟩:=I.hok p _ h;exact⟨its,n,r,e,z⟩
theorem Inv.Bu{ao:List (Addr×Obj)}{Z:St}{H:Hp}{s:Shared}{p:Addr}{xs ys:List V}{its its':List Value}{n n':Nat}{f:Obj->Obj}(I:Inv X ao Z H s)(h:H p=some (.lst xs))
  (ho:s.heap.get? p=some {cls:=.type "list",data:=.seq its.toArray n}) (hf:f {cls:=.type "list",data:=.seq its.toArray n}={cls:=.type "list",data:=.seq its'.toArray n'}) (r:Vals ys its') (hz:ys.length<=sizeLine) (t:Nat) :
  Inv X ao Z (upd H p (.lst ys)) {s with heap:=s.heap.update p f,toks:=t}:=by
 have e:(s.heap.update p f).get? p=some {cls:=.type "list",data:=.seq its'.toArray n'}:=by
  rw[Ah f ho (by rw[hf]<;>rfl),hf]
 refine I.write (x:=p) (e:=p) (by rw[h];trivial) (.inl rfl) (λb u hb q=>(wF _ _ (Ne.symm hb)).trans q) ⟨_,e⟩ ?_;exact⟨hz,its',n',r,e⟩
noncomputable def Ik:V->V->V->Hp->(Hp->Prop)->Prop:=λo i v H Q=>∃p xs k j,o=.ref p/\i=.int k/\H p=some (.lst xs)/\sy xs.length k=some j/\Q (upd H p (.lst (xs.set j v)))
theorem zhQ:Hu X Ik:=by
 intro ao s Z H o i v ov iv u Q I ro ri rv h;obtain⟨p,xs,k,j,rfl,rfl,hp,hj,q⟩:=h;cases ro;obtain⟨t,rfl⟩:=ri;obtain⟨its,n,r,ho,hz⟩:=I.lst hp;obtain⟨h1,h2,h3,h4⟩:=Xm hj;have hl:=r.length;have hn:=jd;have I':Inv X ao Z (upd H p (.lst (xs.set j v))) {s with heap:=s.heap.update p (Obj.mapSeq (·.setIfInBounds j u))}:=
  I.Bu hp ho (zfm its n j u) (r.set rv j) (by rw[pO];exact hz) s.toks
 by_cases h0:0<=k
 ·have hk:k.toNat=j:=by
   rw[seqIndex_of h0 h4] at h1;exact cP h1
  exact PySem.W.ki_setAt ho h0 gV (by rw[fH,<-hl];exact h4) (by rw[hk];exact⟨_,I',q⟩)
 ·have hk:(k+(its.toArray.size:Int)).toNat=j:=by
   rw[seqIndex_neg gV h3] at h1;rw[fH,<-hl];exact cP h1
  exact PySem.W.ki_setBack ho gV (by rw[fH,<-hl];exact h3) gV (by rw[hk];exact⟨_,I',q⟩)
theorem zdB(lo hi:Option Int)(n:Nat):(sliceBounds lo hi none n).1=((HT.bY n 0 lo:Nat):Int)/\(sliceBounds lo hi none n).2.1=((HT.bY n n hi:Nat):Int)/\(sliceBounds lo hi none n).2.2=1:=by
 refine⟨?_,?_,rfl⟩
 ·cases lo with
  |none=>simp[sliceBounds,HT.bY]
  |some i=>
   simp only[sliceBounds,HT.bY,Option.getD_none,show (1:Int)>0 by decide,if_true];by_cases h:i<0
   ·simp only[h,if_true]<;>lia
   ·simp only[h,nW]<;>lia
 ·cases hi with
  |none=>simp[sliceBounds,HT.bY]
  |some i=>
   simp only[sliceBounds,HT.bY,Option.getD_none,show (1:Int)>0 by decide,if_true];by_cases h:i<0
   ·simp only[h,if_true]<;>lia
   ·simp only[h,nW]<;>lia
theorem zcV(its:List Value)(lo hi:Option Int):slicePick its.toArray lo hi none=((its.drop (HT.bY its.length 0 lo)).take (HT.bY its.length its.length hi-HT.bY its.length 0 lo)).toArray:=by
 obtain⟨h1,h2,h3⟩:=zdB lo hi its.toArray.size;unfold slicePick;rw[h1,h2,h3];simp only[sliceRange_one,pick_run,fH]<;>rfl
noncomputable def Il(K:W.Frag):V->Option Int->Option Int->Hp->VK->Prop:=λx lo hi H Q=>∃a xs,x=.ref a/\cT K H a xs/\∀p,H p=none->Q (.ref p) (upd H p (.lst (mO xs lo hi)))
theorem xM:xH X (Il X.K):=by
 intro ao s Z H x v vl vu lo hi sl Q I rx hs pl pu h;obtain⟨a,xs,rfl,hx,q⟩:=h;cases rx;obtain⟨its,r,ht,hz⟩:=I.list hx;have hlen:=r.length;refine⟨"list",_,slot_list_getitem.lookup,ht.isList.typeIs,?_⟩;refine wpAny_getItem_list_slice ht.isList hs pl pu .none Zaa ?_ (by rw[fH]<;>lia);rw[zcV,<-hlen];refine⟨.ref s.heap.objs.size,_,I.laid (t':=s.toks) (o:=.lst (mO xs lo hi)) (λb ob q=>cD _ q) (cj _) ?_,rfl,q _ (I.hok.fresh (cj _))⟩;exact⟨jU (Xl xs lo hi) hz,_,0,(r.drop (HT.bY xs.length 0 lo)).take (HT.bY xs.length xs.length hi-HT.bY xs.length 0 lo),eN _ rfl⟩
theorem zdE:cZ X (.builtin "len") (λxs H Q=>∃p ys,xs=[.ref p]/\(cT X.K H p ys\/gP X.K H p ys)/\Q (.int ys.length) H):=by
 intro ao s Z H xs us Q I r h;obtain⟨p,ys,rfl,hq,q⟩:=h;obtain⟨u,rfl,rx⟩:=vals1 r;cases rx;have hn:=jd;rcases hq with hq|hq
 ·obtain⟨its,r',pl,hz⟩:=I.list hq;have hlen:=r'.length;exact Calls.call_len_list pl.isList (by simp only[fH]<;>lia) ⟨.int ys.length,H,I.tok _,⟨s.toks+1,by rw[fH,hlen]⟩,q⟩
 ·obtain⟨its,r',pl,hz⟩:=I.tuple hq;have hlen:=r'.length;exact len_tuple pl (by simp only[fH]<;>lia) ⟨.int ys.length,H,I.tok _,⟨s.toks+1,by rw[fH,hlen]⟩,q⟩
theorem zdi:cZ X (.type "list") (λxs H Q=>∃p ys,xs=[.ref p]/\(cT X.K H p ys\/gP X.K H p ys)/\∀l,H l=none->Q (.ref l) (upd H l (.lst ys))):=by
 intro ao s Z H xs us Q I r h;obtain⟨p,ys,rfl,hq,q⟩:=h;obtain⟨u,rfl,rx⟩:=vals1 r;cases rx;have fin:∀(its:List Value),Vals ys its->ys.length<=sizeLine->∀(h':Heap) (c':Nat),(∀b o',s.heap.get? b=some o'->h'.get? b=some o')->
   h'.get? s.heap.objs.size=some {cls:=.type "list",dict:=none,data:=.seq its.toArray c',slots:=#[]}->EP X ao Z Q (.ref s.heap.objs.size) {s with heap:=h'}:=λits r' hz h' c' kp e=>
  ⟨.ref s.heap.objs.size,_,I.laid (t':=s.toks) kp (cj _) (show bI X.prog X.w _ h' _ (.lst ys) from ⟨hz,its,c',r',e⟩),rfl,q _ (I.hok.fresh (cj _))⟩
 rcases hq with hq|hq
 ·obtain⟨its,r',pl,hz⟩:=I.list hq;have hlen:=r'.length;obtain⟨o,ho,hc,n,hd⟩:=pl.isList;exact call_list_seq p (.inl rfl) ho hc hd (λh' c' kp e=>fin its r' hz h' c' kp e) (by simp only[fH]<;>lia)
 ·obtain⟨its,r',pl,hz⟩:=I.tuple hq;have hlen:=r'.length;obtain⟨o,ho,hc,n,hd⟩:=pl;exact call_list_seq p (.inr rfl) ho hc hd (λh' c' kp e=>fin its r' hz h' c' kp e) (by simp only[fH]<;>lia)
theorem zcE:cZ X (.type "tuple") (λxs H Q=>∃p ys,xs=[.ref p]/\((cT X.K H p ys/\∀l,H l=none->Q (.ref l) (upd H l (.tup ys)))\/(gP X.K H p ys/\Q (.ref p) H))):=by
 intro ao s Z H xs us Q I r h;obtain⟨p,ys,rfl,h⟩:=h;obtain⟨u,rfl,rx⟩:=vals1 r;cases rx;rcases h with ⟨hq,q⟩|⟨hq,q⟩
 ·obtain⟨its,r',pl,hz⟩:=I.list hq;have hlen:=r'.length;refine call_tuple_list pl.isList (λh' kp=>?_) (by simp only[fH]<;>lia);have I1:Inv X ao Z H {s with heap:=h'}:=I.kept (t':=s.toks) kp;have I2:Inv X ao Z (upd H h'.objs.size (.tup ys)) {s with heap:=h'.push {cls:=.type "tuple",data:=.seq its.toArray}}:=
   I1.laid (t':=s.toks) (λb o e=>cD _ e) (cj _) (show bI X.prog X.w _ _ _ (.tup ys) from ⟨hz,its,r',IsTup.new _ _⟩)
  exact⟨.ref h'.objs.size,_,I2,rfl,q _ (I1.hok.fresh (cj _))⟩
 ·obtain⟨its,r',pl,hz⟩:=I.tuple hq;exact call_tuple_same pl ⟨.ref p,H,I,rfl,q⟩
def MN(K:W.Frag)(T:String)(x:V)(H:Hp):Prop:=match x with
 |.str _=>T="str"
 |.int _=>T="int"
 |.ref p=>(T="list"/\∃xs,cT K H p xs)\/(T="tuple"/\∃o,K.lookup p=some o/\o.cls=.type "tuple"/\o.dict=none) \/
   (T="dict"/\((∃kvs,H p=some (.dK kvs))\/∃kvs,H p=some (.dT kvs)))\/(T="set"/\∃S n,H p=some (.set S n))
 |_=>False
theorem Xn{ao:List (Addr×Obj)}{Z:St}{H:Hp}{s:Shared}{T:String}{x:V}{v:Value}(I:Inv X ao Z H s)(r:RelV x v)(ty:MN X.K T x H) :
  s.TypeIs v T/\∀a,v=.ref a->∃ob,s.heap.get? a=some ob/\ob.dict=none:=by
 cases x with
 |str z=>
  obtain⟨t,rfl⟩:=r;cases (show T="str" from ty);exact⟨typeIs_str s z t,λ_ e=>nomatch e⟩
 |int i=>
  obtain⟨t,rfl⟩:=r;cases (show T="int" from ty);exact⟨typeIs_int s i t,λ_ e=>nomatch e⟩
 |ref p=>
  cases r;rcases ty with ⟨rfl,xs,hq⟩|⟨rfl,o,hk,hc,hd⟩|⟨rfl,hk⟩|⟨rfl,S,n,hk⟩
  ·obtain⟨its,_,pl,_⟩:=I.list hq;refine⟨pl.isList.typeIs,λa e=>?_⟩;cases e;obtain⟨o,n,e,c,hd,_⟩:=pl;exact⟨o,e,hd⟩
  ·refine⟨⟨o,I.lQ p o hk,hc⟩,λa e=>?_⟩;cases e;exact⟨o,I.lQ _ o hk,hd⟩
  ·have z:∃o,s.heap.get? p=some o/\o.ExactDict:=by
    rcases hk with ⟨kvs,hk⟩|⟨kvs,hk⟩
    ·obtain⟨_,_,_,_,o,_,_,e,ex,_⟩:=I.hok p _ hk;exact⟨o,e,ex⟩
    ·obtain⟨_,_,_,_,o,_,_,e,ex,_⟩:=I.hok p _ hk;exact⟨o,e,ex⟩
   obtain⟨o,e,ex⟩:=z;refine⟨⟨o,e,ex.1⟩,λa e2=>?_⟩;cases e2;exact⟨o,e,ex.2.1⟩
  ·obtain⟨o,_,_,_,e,ex,_⟩:=I.hok p _ hk;refine⟨⟨o,e,ex.1⟩,λa e2=>?_⟩;cases e2;exact⟨o,e,ex.2.1⟩
 |_=>exact False.elim ty
noncomputable def Q5(K:W.Frag)(T:String)(r:V->List V->Hp->VK->Prop)(to:TE):TE:=λZ H Q=>to Z H λx H1=>MN K T x H1/\r x [] H1 Q
noncomputable def tBM(K:W.Frag)(T:String)(r:V->List V->Hp->VK->Prop)(to:TE)(t:TA):TE:=λZ H Q=>to Z H λx H1=>MN K T x H1/\t Z H1 λxs H2=>r x xs H2 Q
variable {o e:Expr}{es:List Expr}{to:TE}{t:TA}{name:Str}{apos cpos:Pos}{T id:String}{r:V->List V->Hp->VK->Prop}
theorem zmc(pa:PlainAttrs T)(slot:Slot T name id)(Im:typeOf (.builtin id)=pure (.type "method_descriptor"))(hm:MK X id r)(ho:PE X o to)
  (cQ:attributeBase o name X.env (eval o X.env)=eval o X.env:=by rfl) (cR:(apos.endLine==cpos.line)=true:=by rfl):PE X (.Call (.Attribute o name apos) [] [] cpos) (Q5 X.K T r to):=by
 intro ao s Z H Q I h;refine wpAny_Call_method0_late cQ cR (aQ (ho ao s Z H _ I h) λv s1 ⟨x,H1,I1,r1,ty,q1⟩=>?_);obtain⟨h1,h2⟩:=Xn I1 r1 ty;exact⟨T,id,pa,slot,Im,h1,h2,Pj rfl (PySem.evalArgs_none (hm ao s1 Z H1 x [] v [] Q I1 r1 .nil q1))⟩
theorem Xo(pa:PlainAttrs T)(slot:Slot T name id)(Im:typeOf (.builtin id)=pure (.type "method_descriptor"))(hm:MK X id r)(ho:PE X o to)(ha:PA X (e::es) t)
  (cQ:attributeBase o name X.env (eval o X.env)=eval o X.env:=by rfl)
  (p8:((backTo cpos (starEach (e::es) X.env)).all (λx=>!x.1)&&(backToKw cpos (keywordEach [] X.env)).all (λx=>x.1.isSome)
  &&decide ((e::es).length+([]:List Keyword).length+(if ([]:List Keyword).isEmpty then 0 else 1)<30))=true:=by rfl)
  (cR:(apos.endLine==cpos.line)=true:=by rfl) (hs:starEach (e::es) X.env=(false,eval e X.env)::starEach es X.env:=by rfl) (gq:(backTo cpos (starEach es X.env)).any (·.1)=false:=by rfl) :
  PE X (.Call (.Attribute o name apos) (e::es) [] cpos) (tBM X.K T r to t):=by
 intro ao s Z H Q I h;refine wpAny_Call_method_late cQ p8 cR rfl (aQ (ho ao s Z H _ I h) λv s1 ⟨x,H1,I1,r1,ty,q1⟩=>?_);obtain⟨h1,h2⟩:=Xn I1 r1 ty;refine⟨T,id,pa,slot,Im,h1,h2,?_⟩;have hA:=ha cpos ao s1 Z H1 _ I1 q1;rw[hs] at hA ⊢;refine Pj (by show (false||(backTo cpos (starEach es X.env)).any (·.1))=false;rw[gq]<;>rfl) (Calls.evalArgs_plain ?_);exact aQ hA λus s2 hx=>eG hx λvs H2 I2 r2 q2=>hm ao s2 Z H2 x vs v us Q I2 r1 r2 q2
end
def Xp(X:Cx)(id:String)(r:V->List V->Hp->VK->Prop):Prop:=
 ∀(ao:List (Addr×Obj)) (s:Shared) (Z:St) (H:Hp) (x:V) (xs:List V) (v:Value) (us:List Value) (Q:VK),Inv X ao Z H s->RelV x v->Vals xs us->r x xs H Q->
  wpAny (model X.prog X.w) X.A (call (.builtin id) (v::us)) (EP X ao Z Q) X.xe s
theorem Vals.one{x:V}{us:List Value}(h:Vals [x] us):∃u,us=[u]/\RelV x u:=by
 cases h with
 |cons r t=>cases t;exact⟨_,rfl,r⟩
theorem Vals.two{x y:V}{us:List Value}(h:Vals [x,y] us):∃u v,us=[u,v]/\RelV x u/\RelV y v:=by
 cases h with
 |cons r t=>
  obtain⟨v,rfl,q⟩:=Vals.one t;exact⟨_,_,rfl,r,q⟩
theorem Vals.zero:∀{us:List Value},Vals [] us->us=[]
 |_,.nil=>rfl
theorem Vals.dropLast{xs:List V}{us:List Value}(h:Vals xs us):Vals xs.dropLast us.dropLast:=by
 induction h with
 |nil=>exact .nil
 |cons r t ih=>
  cases t with
  |nil=>exact .nil
  |cons q t'=>exact .cons r ih
theorem zfu{α:Type}(l:List α):l.eraseIdx (l.length-1)=l.dropLast:=by
 induction l with
 |nil=>rfl
 |cons a r ih=>
  cases r with
  |nil=>rfl
  |cons b r=>
   have e:(a::b::r).length-1=((b::r).length-1)+1:=by
    have h1:(a::b::r).length=r.length+2:=rfl;have h2:(b::r).length=r.length+1:=rfl
    lia
   rw[e,List.eraseIdx_cons_succ,ih]
   all_goals rfl
section
variable {X:Cx}{ao:List (Addr×Obj)}{Z:St}{H:Hp}{s:Shared}{l b:Addr}{xs ys zs:List V}
theorem Inv.Io{its its':List Value}{n:Nat}{f:Array Value->Array Value}{t':Nat}(I:Inv X ao Z H s)(hH:H l=some (.lst xs))
  (e:s.heap.get? l=some {cls:=.type "list",data:=.seq its.toArray n}) (hf:f its.toArray=its'.toArray) (hv:Vals ys its') (hz:ys.length<=sizeLine) :
  Inv X ao Z (upd H l (.lst ys)) {s with heap:=s.heap.update l (Obj.mapSeq f),toks:=t'}:=by
 have q:=PySem.IsL.update e f;rw[hf] at q;refine I.write (x:=l) (e:=l) (by rw[hH];exact trivial) (.inl rfl) (λb' u hb hu=>(wF s.heap (Obj.mapSeq f) (Ne.symm hb)).trans hu) ⟨_,q⟩ ?_;exact⟨hz,its',_,hv,q⟩
theorem Inv.Q6{its:List Value}{t':Nat}(I:Inv X ao Z H s)(hv:Vals ys its)(hz:ys.length<=sizeLine) :
  Inv X ao Z (upd H s.heap.objs.size (.lst ys)) {s with heap:=s.heap.push {cls:=.type "list",data:=.seq its.toArray},toks:=t'}:=
 I.laid (λ_ _ q=>cD _ q) (cj _) ⟨hz,its,0,hv,eN _ rfl⟩
theorem Inv.fresh(I:Inv X ao Z H s):H s.heap.objs.size=none:=I.hok.fresh (cj _)
theorem Inv.Ip(I:Inv X ao Z H s)(hH:H l=some (.lst xs)):xs.length<=sizeLine/\∃(its:List Value) (n:Nat),Vals xs its/\xs.length=its.length/\s.heap.get? l=some {cls:=.type "list",data:=.seq its.toArray n}:=by
 obtain⟨z,its,n,r,e⟩:=I.hok l _ hH;exact⟨z,its,n,r,r.length,e⟩
end
section
variable {X:Cx}
noncomputable def xO:V->List V->Hp->VK->Prop:=λx vs H Q=>∃l xs y,x=.ref l/\vs=[y]/\H l=some (.lst xs)/\xs.length<sizeLine/\Q .non (upd H l (.lst (xs++[y])))
theorem Q7:Xp X "list.append" xO:=by
 intro ao s Z H x vs v us Q I rx rv h;obtain⟨l,xs,y,rfl,rfl,hH,hz,q⟩:=h;cases rx;obtain⟨u,rfl,ru⟩:=rv.one;obtain⟨z,its,n,r,hl,e⟩:=I.Ip hH;refine call_meets F.slot_list_append ⟨_,e,rfl⟩ F.entry_list_append (F.args_list_append_2 _ _) (PySem.list_append l its.toArray n u (by rw[fH];lia)) ⟨e,?_⟩;refine⟨.non,_,I.Io (its':=its++[u]) hH e Zaa (r.append (.cons ru .nil)) ?_,rfl,q⟩;rw[pG,List.length_singleton]
 lia
noncomputable def Q8:V->List V->Hp->VK->Prop:=λx vs H Q=>∃l xs y,x=.ref l/\vs=[]/\H l=some (.lst xs)/\xs[xs.length-1]?=some y/\Q y (upd H l (.lst xs.dropLast))
theorem zlt:Xp X "list.pop" Q8:=by
 intro ao s Z H x vs v us Q I rx rv h;obtain⟨l,xs,y,rfl,rfl,hH,hy,q⟩:=h;cases rx;have hus:=rv.zero;subst hus;obtain⟨z,its,n,r,hl,e⟩:=I.Ip hH;obtain⟨u,hu,ru⟩:=r.get hy;have hy':its.toArray[its.toArray.size-1]?=some u:=by
  show its.toArray[its.length-1]?=some u;rw[<-Array.getElem?_toList,<-hl];exact hu
 refine call_meets F.slot_list_pop ⟨_,e,rfl⟩ F.entry_list_pop (F.args_list_pop_1 _) (MeetsSeq.list_pop_last l its.toArray n u hy' (by rw[fH];lia)) ⟨e,?_⟩;refine⟨y,_,I.Io (its':=its.dropLast) hH e ?_ r.dropLast ?_,ru,q⟩
 ·show its.toArray.eraseIdxIfInBounds (its.toArray.size-1)=its.dropLast.toArray;rw[fH,List.eraseIdxIfInBounds_toArray,zfu]
 ·rw[List.length_dropLast]
  lia
end
section
variable {prog:Program}{w:World}{A:Around}{E:Value->Shared->Prop}{s:Shared}
set_option maxRecDepth 100000 in
end
end L2
namespace Xq
open PySem PySem.W PySem.Calls PyProof.Rows
theorem zb2{P:Params}{h:Heap}:∀(ns:List Int) (vs:List Value),WellAll P h vs (ns.map WData.int)->IntsAre vs ns:=by
 intro ns
 induction ns with
 |nil=>
  intro vs w;rw[List.map_nil] at w;cases w;exact .nil
 |cons n ns ih=>
  intro vs w;rw[jo] at w;cases w with
  |cons a b=>
   cases a;exact .cons _ _ (ih _ b)
theorem zgh{l:OpenLaw}{n:Nat}(hn:l.most=some n){P:Params}{h:Heap}{args:List WData}{vals:List Value}
  (hpre:l.row.toRowW.claim.pre args=true) (Q9:WellAll P h vals args) :
  ∃a vs ns,vals=[Value.ref a]/\args=[WData.list (ns.map WData.int)]/\h.get? a=some {cls:=.type "list",data:=.seq vs.toArray}/\IntsAre vs ns/\ns.length<=n:=by
 have hsh:WShape.hasAll [] args [.list .int]=true:=(pre_splitW hpre).1;have hc:l.pre.holds [] {args:=args}=true:=(pre_splitW hpre).2;obtain⟨d,r,rfl,h1,h2⟩:=hasAllW_cons hsh;obtain rfl:=hasAllW_nil h2;obtain⟨xs,rfl,h3⟩:=hasW_list h1;obtain⟨ns,rfl⟩:=items_int h3;have hlen:ns.length<=n:=by
  unfold OpenLaw.pre at hc;have h4:(WTm.not (.lt (.lit (.int (n:Int))) (.len (.arg 0)))).holds [] {args:=[.list (ns.map .int)]}=true:=by
   have h4:=(holds_andW hc).1;rw[hn] at h4;exact h4
  have h5:=condW_of h4 (w_not (w_lt w_lit (w_len_list (w_arg rfl))));rw[fZ] at h5;refine Lw λq=>?_;have q':(n:Int)<((ns.length:Nat):Int):=by lia
  first
   |(rw[nH q'] at h5;exact absurd h5 RB)
   |(simp at h5;lia)
 cases Q9 with
 |cons w1 w2=>
  cases w2;cases w1 with
  |list ho qb=>exact⟨_,_,ns,rfl,rfl,ho,zb2 ns _ qb,hlen⟩
theorem zf7(l:OpenLaw)(args:List WData):l.row.toRowW.claim.post args (.bool true) args=true:=
 postW_of (r:=l.row.toRowW) (X:=(true==true))
  (show WShape.has [] (.bool true) .bool=true by first|rfl|decide|simp[WShape.has,WShape.arms,WShape.armsAll])
  (show (WTm.eq .res (.lit (.bool true))).value [] {args:=args,res:=some (.bool true),after:=args}=some (.bool (true==true)) from w_eq_bool (w_res rfl) w_lit) rfl
theorem oA{l:OpenLaw}{n:Nat}{q:Program}{loose:List Str}{XP:(Str->Option Value)->Heap->Prop}{YP:World->Heap->Prop}{d:DefRec}
  (hn:l.most=some n) (Q_:d.params.defaults=[])
  (call:∀(w:World) (s₀ s₁:Shared) (mg mb:Str->Option Value) (fa:Addr) (o:Obj) (pm cd doc:Value) (a:Addr) (vs:List Value) (ns:List Int),
   Ground q loose [] XP w s₀ mg mb s₁.heap->YP w s₁.heap->
   s₁.heap.get? fa=some o->o.data=.func (docDef d.name d.params d.body d.scope pm cd doc)->s₁.heap.CodeRec cd d.name->mg d.name=some (.ref fa)->
   s₁.heap.get? a=some {cls:=.type "list",data:=.seq vs.toArray}->IntsAre vs ns->ns.length<=n->s₁.gens=#[]->
   codeAny (model l.prog w) callerA (.call (.ref fa) ⟨[.ref a],[]⟩) (λr s'=>r=.ok (.ret (.bool true))/\OldK s₁.heap s'.heap/\s'.os=s₁.os/\AllBare s'.gens) s₁) :
  WalkO q loose XP YP l.row.toRowW d [] (λf vs=>PySem.call f vs):=by
 intro w s₀ s₁ mg mb G Y fa o pm cd doc dV kV ho hd iG hD hmg hg args vals as hpre aac hrd Q9 hlo;obtain rfl:dV=.none:=Dflts.none hD Q_;obtain rfl:kV=.none:=Dflts.noKw hD;obtain⟨a,vs,ns,rfl,rfl,Bv,hints,hlen⟩:=zgh hn hpre Q9;refine enter_call (yX (call w s₀ s₁ mg mb fa o pm cd doc a vs ns G Y ho (fd_plain hd) iG hmg Bv hints hlen hg) λr s' hq=>?_);obtain⟨rfl,h2,h3,h4⟩:=hq;exact⟨.inl ⟨.bool true,.bool true,[],rfl,λ_=>rfl,.bool true,zf7 l _,λ_=>⟨List.Pairwise.nil,λ_ hm=>(nomatch hm)⟩⟩,h2,h3,h4⟩
end Xq
namespace L2
open PySem PySem.Spec PyProof.Rows
theorem Xr:∀{vs:List Value} {ns:List Int},IntsAre vs ns->Vals (ns.map V.int) vs
 |_,_,.nil=>.nil
 |_,_,.cons n t h=>.cons ⟨t,rfl⟩ (Xr h)
def Ra(h0:Heap)(H:Hp)(h:Heap)(e:Addr)(hd:Value):Prop:=
 hd=.none\/∃T oT ts,hd=.ref T/\h0.get? T=none/\H T=none/\T≠e/\h.get? T=some oT/\oT.data=.fields ts/\ts[3]?=some .none
structure Exc(h0:Heap)(H:Hp)(h:Heap)(e C:Addr)(dx:Option Addr):Prop where
 new:h0.get? e=none
 un:H e=none
 ob:∃oe vs hd,h.get? e=some oe/\oe.cls=.ref C/\oe.dict=dx/\oe.data=.fields vs/\vs[1]?=some hd/\Ra h0 H h e hd
structure Rb(h0:Heap)(H:Hp)(fr:List Addr)(h h':Heap)(ch:List Addr):Prop where
 rec_:∀b∈ch,h0.get? b=none/\H b=none/\∃o vs,h.get? b=some o/\o.data=.fields vs
 keep:∀b o,h.get? b=some o->b∉fr->b∉ch->h'.get? b=some o
 slot:∀b o,h.get? b=some o->b∈fr->∃sl,h'.get? b=some {o with slots:=sl}
 there:∀b o,h.get? b=some o->∃o',h'.get? b=some o'
noncomputable def uI(head:Value)(L:Addr)(pl:List Value):Obj:=
 {cls:=.type "traceback",dict:=none,data:=.fields ([head,.ref L,.none,rawInt L,.none]++(if pl.isEmpty then List.replicate 6 Value.none else pl)).toArray}
theorem Xu(o:Obj)(f:Array Value->Array Value):(o.mapFields f).dict=o.dict:=by
 obtain⟨c,d,dt,sl⟩:=o;cases dt<;>rfl
theorem Xw(o:Obj)(f:Array Value->Array Value):(o.mapFields f).cls=o.cls:=by
 obtain⟨c,d,dt,sl⟩:=o;cases dt<;>rfl
section
variable {M:Model}{A:Around}{E:Value->Shared->Prop}{s:Shared}{base h0:Heap}{env:Env}{outer:List Env}{L e C:Addr}{dx:Option Addr}{H:Hp}{Q:Unit->Shared->Prop}
theorem Xx(pH:A.frames=some (env::outer))(hl:s.heap.FunFrames base (env::outer))(hf:env.frame=some L)
  (he:s.heap.get? e=some oe) (hd:oe.data=.fields vs) (hsz:1<vs.size)
  (k:∀h' T oT ts,s.heap.objs.size<=T->(∀b o,s.heap.get? b=some o->b∉frs (env::outer)->b≠e->h'.get? b=some o)->(∀b o,s.heap.get? b=some o->b∈frs (env::outer)->∃sl,h'.get? b=some {o with slots:=sl})->
   h'.get? e=some (oe.mapFields (·.setIfInBounds 1 (.ref T)))->h'.get? T=some oT->oT.data=.fields ts->3<ts.size->ts[3]?=some (rawInt L)->Q () {s with heap:=h'}) :
  wpAny M A (do let a <-frameOf env;let pl <-entryPlaceOf L hn;let b <-EntryCells.newEntry head a .none (rawInt L) .none pl;setField (.ref e) 1 b) Q E s:=by
 have Ir:e∉frs (env::outer):=λhm=>by
  obtain⟨_,o,ho,hx⟩:=hl.mem hm;rw[he] at ho;cases ho;exact hx vs hd
 refine aA (wpAny_frameOf_fun pH hl hf λh₁ sl₁=>?_);refine aA (wpAny_entryPlaceOf λpl cU=>?_);unfold EntryCells.newEntry newFields;refine aA (tO ?_ (cU.sizeOk5 _ _ _ _ _));have e1:h₁.get? e=some oe:=(sl₁.2.1 e Ir).trans he;have e2:(h₁.push (uI head L pl)).get? e=some oe:=cD _ e1;refine GJ e2 hd hsz ?_;have ne:h₁.objs.size≠e:=pR (bQ e1);have d3:=yS hd (·.setIfInBounds 1 (Value.ref h₁.objs.size));have kp:∀b o,h₁.get? b=some o->b≠e->((h₁.push (uI head L pl)).update e (Obj.mapFields (·.setIfInBounds 1 (Value.ref h₁.objs.size)))).get? b=some o:=λb o q n=>by
  rw[wF _ _ n.symm];exact cD _ q
 refine k _ h₁.objs.size (uI head L pl) _ (by rw[sl₁.1];exact cj _) (λb o q n1 n2=>kp b o ((sl₁.2.1 b n1).trans q) n2) (λb o q m=>?_) (Ah _ e2 (Li d3)) ?_ rfl ?_ ?_
 ·obtain⟨sl,z⟩:=sl₁.2.2 b o q;exact⟨sl,kp b _ z λy=>Ir (y▸m)⟩
 ·rw[wF _ _ ne.symm];exact eN _ rfl
 ·simp only[fH,pG,gZ,Ef]<;>lia
 ·first
   |(simp;done)
   |(rcases cU with rfl|⟨_,_,_,_,_,_,_,rfl⟩<;>simp)
theorem zhS(pH:A.frames=some (env::outer))(hl:s.heap.FunFrames base (env::outer))(hf:env.frame=some L)(x:Exc h0 H s.heap e C dx)
  (k:∀h' T oT oe ts vs ch,Rb h0 H (frs (env::outer)) s.heap h' ch->s.heap.objs.size<=T->h'.get? e=some oe->oe.cls=.ref C->oe.dict=dx->oe.data=.fields vs->vs[1]?=some (.ref T)->h'.get? T=some oT->oT.data=.fields ts->
   3<ts.size->ts[3]?=some (rawInt L)->Q () {s with heap:=h'}):wpAny M A (noteFrame (.ref e) env) Q E s:=by
 obtain⟨oe,vs,hd,he,hc,MP,vZ,h1,tb⟩:=x.ob;have hsz:1<vs.size:=(Array.getElem?_eq_some_iff.mp h1).1;have Ir:∀b o ws,s.heap.get? b=some o->o.data=.fields ws->b∉frs (env::outer):=λb o ws q d hm=>by
  obtain⟨_,o',ho,hx⟩:=hl.mem hm;rw[q] at ho;cases ho;exact hx ws d
 unfold noteFrame;simp only[hf];refine aA (mF he vZ h1 ?_);rcases tb with rfl|⟨T,oT,ts,rfl,nT,uT,neT,gT,dT,h3⟩
 ·rw[if_neg RB];refine Xx pH hl hf he vZ hsz λh' T oT ts lt kp sl ge gT dT z3 z4=>?_;refine k h' T oT _ ts _ [e] ⟨λb hb=>?_,λb o q n1 n2=>kp b o q n1 λz=>n2 (by rw[z];exact .head _),sl,λb o q=>?_⟩ lt ge ((Xw _ _).trans hc) ((Xu _ _).trans MP) (yS vZ _) (by simp[hsz]) gT dT z3 z4
  ·obtain rfl:b=e:=by simpa using hb
   exact⟨x.new,x.un,oe,vs,he,vZ⟩
  ·by_cases z:b=e
   ·subst z;exact⟨_,ge⟩
   ·by_cases m:b∈frs (env::outer)
    ·obtain⟨w,q'⟩:=sl b o q m;exact⟨_,q'⟩
    ·exact⟨o,kp b o q m z⟩
 ·rw[if_pos (show (Value.ref T != Value.none)=true from by simp)];refine aA (mF gT dT h3 ?_);rw[if_neg (show ¬((Value.none==rawInt L)=true) from by simp[rawInt])];have z3:3<ts.size:=(Array.getElem?_eq_some_iff.mp h3).1;refine aA (GJ gT dT z3 ?_);have oth:∀b,b≠T->(s.heap.update T (Obj.mapFields (·.setIfInBounds 3 Value.none))).get? b=s.heap.get? b:=λb n=>wF _ _ n.symm;have hl':(s.heap.update T (Obj.mapFields (·.setIfInBounds 3 Value.none))).FunFrames base (env::outer):=hl.of_keeps λb o q nd=>⟨o,(oth b λz=>by subst z;rw[gT] at q;cases q;exact nd ts dT).trans q,rfl⟩;have sT:(s.heap.update T (Obj.mapFields (·.setIfInBounds 3 Value.none))).get? T=some (oT.mapFields (·.setIfInBounds 3 Value.none)):=Ah _ gT (Li (yS dT _));refine Xx pH hl' hf ((oth e neT.symm).trans he) vZ hsz λh' T' oT' ts' lt kp sl ge gT' dT' z3' z4'=>?_;have lt':s.heap.objs.size<=T':=by
   have:=lt;simp only[Heap.size_after_update] at this;exact this
  refine k h' T' oT' _ ts' _ [e,T] ⟨λb hb=>?_,λb o q n1 n2=>kp b o ((oth b λz=>n2 (by simp[z])).trans q) n1 λz=>n2 (by simp[z]),λb o q m=>?_,λb o q=>?_⟩ lt' ge ((Xw _ _).trans hc) ((Xu _ _).trans MP) (yS vZ _) (by simp[hsz]) gT' dT' z3' z4'
  ·have hb':b=e\/b=T:=by simpa using hb
   rcases hb' with rfl|rfl
   ·exact⟨x.new,x.un,oe,vs,he,vZ⟩
   ·exact⟨nT,uT,oT,ts,gT,dT⟩
  ·exact sl b o ((oth b λz=>by subst z;exact Ir b o ts q (by rw[gT] at q;cases q;exact dT) m).trans q) m
  ·by_cases z:b=e
   ·subst z;exact⟨_,ge⟩
   ·by_cases y:b=T
    ·subst y;exact⟨_,kp b _ sT (Ir b oT ts gT dT) z⟩
    ·by_cases m:b∈frs (env::outer)
     ·obtain⟨w,q'⟩:=sl b o ((oth b y).trans q) m;exact⟨_,q'⟩
     ·exact⟨o,kp b o ((oth b y).trans q) m z⟩
theorem zhl(he:s.heap.get? e=some oe)(hd:oe.data=.fields vs)(h1:vs[1]?=some (.ref T))(gT:s.heap.get? T=some oT)(dT:oT.data=.fields ts)(z3:3<ts.size)
  (k:∀h',(∀b o,b≠T->s.heap.get? b=some o->h'.get? b=some o)->h'.get? T=some (oT.mapFields (·.setIfInBounds 3 Value.none))->Q () {s with heap:=h'}):wpAny M A (setFlight (.ref e) none) Q E s:=by
 unfold setFlight;refine aA (mF he hd h1 ?_);rw[if_pos (show (Value.ref T != Value.none)=true from by simp)];exact GJ gT dT z3 (k _ (λb o n q=>(wF _ _ n.symm).trans q) (Ah _ gT (Li (yS dT _))))
theorem zgm(pH:A.frames=some (env::outer))(hl:s.heap.FunFrames base (env::outer))(hf:env.frame=some L)(x:Exc h0 H s.heap e C dx)
  (qQ:∀b,s.heap.objs.size<=b->H b=none) (h0s:∀b o,h0.get? b=some o->∃o',s.heap.get? b=some o')
  (k:∀h' ch,Rb h0 H (frs (env::outer)) s.heap h' ch->Exc h0 H h' e C dx->Q () {s with heap:=h'}) :
  wpAny M A (noteFrame (.ref e) env) (λ_ s₁=>wpAny M A (setFlight (.ref e) none) Q E s₁) E s:=by
 have ele:∃o,s.heap.get? e=some o:=let ⟨oe,_,_,he,_⟩:=x.ob;⟨oe,he⟩;refine zhS pH hl hf x λh' T oT oe ts vs ch t lt ge hc MP vZ h1 gT dT z3 z4=>?_;have neT:T≠e:=λz=>by
  obtain⟨o,q⟩:=ele;exact absurd (f9 (bQ q) (z▸lt)) (pP _)
 refine zhl (s:={s with heap:=h'}) ge vZ h1 gT dT z3 λh2 kp gT2=>?_;have nT:∀b o,s.heap.get? b=some o->b≠T:=λb o q z=>absurd (f9 (bQ q) (z▸lt)) (pP _);refine k h2 ch ⟨t.rec_,λb o q n1 n2=>kp b o (nT b o q) (t.keep b o q n1 n2),λb o q m=>?_,λb o q=>?_⟩ ⟨x.new,x.un,oe,vs,.ref T,kp e oe neT.symm ge,hc,MP,vZ,h1,.inr ⟨T,_,_,rfl,?_,qQ T lt,neT,gT2,yS dT _,by simp[z3]⟩⟩
 ·obtain⟨sl,q'⟩:=t.slot b o q m;exact⟨sl,kp b _ (nT b o q) q'⟩
 ·obtain⟨o',q'⟩:=t.there b o q;exact⟨o',kp b o' (nT b o q) q'⟩
 ·cases z:h0.get? T with
  |none=>rfl
  |some o=>
   obtain⟨o',q⟩:=h0s T o z;exact absurd rfl (nT T o' q)
end
noncomputable abbrev XS:=St->Value->Option Addr->Hp->Prop
def Sub(h0 h:Heap):Prop:=∀b o,h0.get? b=some o->∃o',h.get? b=some o'
theorem Sub.none{h0 h:Heap}(x:Sub h0 h){b:Addr}(e:h.get? b=none):h0.get? b=none:=by
 cases q:h0.get? b with
 |none=>rfl
 |some o=>
  obtain⟨o',z⟩:=x b o q;rw[e] at z;cases z
theorem Exc.older{h0 h1:Heap}{H:Hp}{h:Heap}{e C:Addr}{dx:Option Addr}(x:Exc h1 H h e C dx)(y:Sub h0 h1):Exc h0 H h e C dx:=by
 obtain⟨oe,vs,hd,a,b,c,d,f,tb⟩:=x.ob;refine⟨y.none x.new,x.un,oe,vs,hd,a,b,c,d,f,?_⟩;rcases tb with z|⟨T,oT,ts,z1,z2,z3⟩
 ·exact .inl z
 ·exact .inr ⟨T,oT,ts,z1,y.none z2,z3⟩
section
variable {X:Cx}{ao:List (Addr×Obj)}{Z:St}{H:Hp}{s:Shared}{h0 h':Heap}{ch fr:List Addr}
theorem iR.tbd{P:Program}{w:World}{h:Heap}(x:iR P w H h)(t:Rb h0 H fr h h' ch)(hf:∀b∈fr,H b=none):iR P w H h':=λa o e=>by
 have st:∀b u,(b=a\/H b=some (.own a))->h.get? b=some u->h'.get? b=some u:=λb u z q=>by
  have nb:H b≠none:=by
   rcases z with z|z
   ·rw[z,e];simp
   ·rw[z];simp
  exact t.keep b u q (λm=>nb (hf b m)) λm=>nb (t.rec_ b m).2.1
 exact(x a o e).stay st (λ_ z=>z) λ_ _ z=>z
end
def Raises(X:Cx)(EX:XS):Prop:=
 ∀(ao:List (Addr×Obj)) (Z:St) (H:Hp) (s:Shared) (h0:Heap) (e C:Addr) (dx:Option Addr),Inv X ao Z H s->(∀b o,X.s₀.heap.get? b=some o->b∉X.ex->∃o',h0.get? b=some o')->
  (∀p∈X.pn++ao,∃o,h0.get? p.1=some o)->Sub h0 s.heap->Exc h0 H s.heap e C dx->EX Z (.ref C) dx H->X.xe (.ref e) s
noncomputable def fj(P:Program)(w:World):rZ:=λouter H s E e s'=>
 ∃(a C:Addr) (dx:Option Addr) (H':Hp),e=.ref a/\s'.os=s.os/\AllBare s'.gens/\Un (frs outer) [] H H' s.heap s'.heap/\iR P w H' s'.heap/\Exc s.heap H' s'.heap a C dx/\E (.ref C) dx H'
theorem zfq{P:Program}{w:World}{K:W.Frag}{mg:Str->Option Value}{base:Heap}{N:List Str}{qual:Str}{scope:Scope}{f:Addr}{cd:Value}{A:Around}{outer:List Env}{s:Shared}{H:Hp}{E:XK}{cm:Bool} :
  Raises (dJ (fj P w) P w K mg base N qual scope f cd A outer s H E cm) (λ_ C dx H'=>E C dx H'):=by
 intro ao Z H1 s1 h0 e C dx I hs hp h01 x ex;have I0:Inv (dJ (fj P w) P w K mg base N qual scope f cd A outer s H E cm) [] Z H1 s1:=I.jQ λp z=>absurd z Zaa;show wpAny (model P w) (A.deeper (envOfC qual scope s.heap.objs.size f cd)) (leaving (envOfC qual scope s.heap.objs.size f cd) (.ref e)) _ _ s1;unfold leaving;have hsub:Sub s.heap h0:=λb o q=>hs b o q (by show b∉([]:List Addr);simp);refine aA (zgm (base:=base) (outer:=outer) (L:=s.heap.objs.size) I0.ok.frames I0.stack rfl x (λb z=>I0.hok.fresh z) h01 λh' ch t x'=>?_);have fin:∀b o,s.heap.get? b=some o->b∉ch:=λb o q m=>by
  have z:=hsub.none (t.rec_ b m).1;rw[q] at z;cases z
 have nL:∀b o,s.heap.get? b=some o->b∉frs outer->b∉frs (envOfC qual scope s.heap.objs.size f cd::outer):=λb o q n m=>by
  have m':b∈s.heap.objs.size::frs outer:=m;rcases jm.mp m' with z|z
  ·exact absurd (bQ q) (by rw[z];exact pP _)
  ·exact n z
 refine⟨e,C,dx,H1,rfl,I0.os,I0.bare,⟨λb o q n hb _=>?_,λb o q n hb _=>?_,λb o q n _=>I0.base.free b o q n (by show b∉([]:List Addr);simp),λb o q _=>?_,I0.base.tups,I0.base.iZ,I0.base.jE⟩,I0.hok.tbd t I0.mL,x'.older hsub,ex⟩
 ·exact t.keep b o (I0.base.keep b o q n hb (by show b∉([]:List Addr);simp)) (nL b o q hb) (fin b o q)
 ·obtain⟨sl,q1⟩:=I0.base.slot b o q n hb (by show b∉([]:List Addr);simp);obtain⟨sl',q2⟩:=t.slot b _ q1 (show b∈s.heap.objs.size::frs outer from gY _ hb);exact⟨sl',q2⟩
 ·obtain⟨o',q1⟩:=I0.base.there b o q (by show b∉([]:List Addr);simp);exact t.there b o' q1
section
variable {X:Cx}{cm:Bool}{k:Nat}{f C:Addr}{fd:FuncData}{ps:List Str}{sp:Sp}{EX:XS}{x m:Str}{p pos apos:Pos}{e o:Expr}{es:List Expr}{ta:TE}{t:TA}
theorem Raises.pass(R:Raises X EX)(I:Inv X ao Z H s)(h:fj X.prog X.w X.stack H s (EX Z) v s'):X.xe v s':=by
 obtain⟨a,C,dx,H',rfl,os,bare,un,hok,x,q⟩:=h;have aq:Sub s.heap s'.heap:=λb o z=>un.there b o z Zaa;refine R ao Z H' s' s.heap a C dx (I.call' os un hok bare λb z=>absurd z Zaa) (λb o z n=>I.base.there b o z n) (λp hp=>?_) aq x q;exact⟨p.2,(I.pin p hp).1⟩
noncomputable def Bw(sp:Sp)(EX:XS)(t:TA):TE:=λZ H Q=>t Z H λvs H1=>sp vs H1 Q (EX Z)
theorem zjR(F:cF X.prog X.w X.K X.mg X.base (fj X.prog X.w) cm k f fd ps sp)(je:cm=true->X.aj=true)(hr:bx k X.A)(hb:Binds X.K fd ps [])(R:Raises X EX)
  (I:Inv X ao Z H s) (r:Vals vs us) (h:sp vs H Q (EX Z)):wpAny (model X.prog X.w) X.A (call (.ref f) us) (EP X ao Z Q) X.xe s:=by
 have hl:us.length=ps.length:=by rw[<-r.length];exact F.len _ _ _ _ h
 have hb':=hb s us I.lQ (by rw[wH];exact hl);rw[wH] at hb';refine El (yX (F.run X.A X.stack s H ⟨us,[]⟩ us vs Q (EX Z) (λz=>I.ok.hd (je z)) hr I.env0 hb' r h) λr s' hq=>?_);cases r with
 |error v=>exact R.pass I hq
 |ok fl=>
  cases fl with
  |ret u=>exact I.after hq
  |next=>exact False.elim hq
  |brk=>exact False.elim hq
  |cont=>exact False.elim hq
theorem zg8(F:cF X.prog X.w X.K X.mg X.base (fj X.prog X.w) cm k f fd ps sp)(je:cm=true->X.aj=true)(hr:bx k X.A)(hg:Gl X x)(hm:X.mg x=some (.ref f))(hk:PySem.W.keepIn X.K (.ref f)=true)(hb:Binds X.K fd ps [])(R:Raises X EX)
  (ha:PA X (e::es) t) (su:(x==("__debug__" : Str))=false:=by decide) (he:starEach (e::es) X.env=(false,eval e X.env)::starEach es X.env:=by rfl) (cU:(backTo pos (starEach es X.env)).any (·.1)=false:=by rfl) :
  PE X (.Call (.Name x p) (e::es) [] pos) (Bw sp EX t):=by
 intro ao s Z H Q I h;refine Ai (Qj I hg hm ?_ su);exact PB (h₀:=X.base) I.ok.mod.wL hk (aQ (ha pos ao s Z H _ I h) λus s1 ⟨vs,H1,I1,r,q⟩=>⟨I1.lQ,zjR F je hr hb R I1 r q⟩) he cU
end
noncomputable def xP(a C:Addr)(dx:Option Addr):HO:=.ext λh=>∃oe vs,h.get? a=some oe/\oe.cls=.ref C/\oe.dict=dx/\oe.data=.fields vs
section
variable {X:Cx}{ao:List (Addr×Obj)}{Z:St}{H:Hp}{s:Shared}{e:Addr}{o:HO}
theorem Inv.track(I:Inv X ao Z H s)(hn:X.s₀.heap.get? e=none)(un:H e=none)(hp:∀p∈X.pn++ao,p.1≠e)(hL:e≠X.env.locals)(hc:∀x c,X.env.cells.lookup x=some c->c≠e)
  (new:bI X.prog X.w (upd H e o) s.heap e o):Inv X ao Z (upd H e o) s:=by
 have ne:∀b u,H b=some u->b≠e:=λb u q z=>by rw[z,un] at q;cases q
 have n0:∀b u,X.s₀.heap.get? b=some u->b≠e:=λb u q z=>by rw[z,hn] at q;cases q
 refine⟨I.ok,I.os,I.bare,⟨I.base.keep,I.base.slot,λb u q n hx=>?_,I.base.there,λb xs q=>?_,λb u v q=>?_,λb ps q=>?_⟩,I.loc,I.cell,?_,λx c q=>?_,λp q=>?_,λb u q=>?_,I.len⟩
 ·rw[bT (n0 b u q)];exact I.base.free b u q n hx
 ·have z:=I.base.tups b xs q;rw[bT (ne b _ z)];exact z
 ·have z:=I.base.iZ b u v q;rw[bT (ne b _ z)];exact z
 ·obtain⟨m,z,g⟩:=I.base.jE b ps q;exact⟨m,by rw[bT (ne b _ z)];exact z,g.mono λb o u q=>by rw[bT (ne b _ q)];exact q⟩
 ·rw[bT hL.symm];exact I.free
 ·rw[bT (hc x c q)];exact I.gj x c q
 ·obtain⟨a1,a2,a3⟩:=I.pin p q;exact⟨a1,by rw[bT (hp p q)];exact a2,a3⟩
 ·by_cases z:b=e
  ·subst z;rw[iD] at q;cases q;exact new
  ·rw[bT z] at q;exact(I.hok b u q).stay (λ_ _ _ r=>r) (λc r=>by rw[bT (ne c _ r)];exact r) λc xs r=>by rw[bT (ne c _ r)];exact r
noncomputable def Cx.seen(X:Cx)(A:Around)(aj:Bool)(pn:List (Addr×Obj))(E:Value->Shared->Prop):Cx:={X with A:=A,aj:=aj,pn:=pn,xe:=E}
theorem Inv.seen(I:Inv X ao Z H s)(hA:A.frames=X.A.frames)(hc:c=true->A.handled=none)(hp:∀p∈pn++ps,p∈X.pn++ao):Inv (X.seen A c pn E) ps Z H s:=
 ⟨⟨I.ok.mod,I.ok.kind,I.ok.glob,I.ok.blt,I.ok.above,I.ok.inj,I.ok.has,I.ok.cab,hc,hA.trans I.ok.frames,I.ok.stk,I.ok.Wy,I.ok.bs,I.ok.wR,I.ok.uw,I.ok.wU,I.ok.jF,I.ok.zu⟩,I.os,I.bare,I.base,I.loc,I.cell,I.free,I.gj,λp z=>I.pin p (hp p z),I.hok,I.len⟩
theorem Inv.BJ(I:Inv (X.seen A c pn E) ps Z H s)(hA:X.A.frames=A.frames)(hc:X.aj=true->X.A.handled=none)(hp:∀p∈X.pn++ao,p∈pn++ps):Inv X ao Z H s:=
 ⟨⟨I.ok.mod,I.ok.kind,I.ok.glob,I.ok.blt,I.ok.above,I.ok.inj,I.ok.has,I.ok.cab,hc,hA.trans I.ok.frames,I.ok.stk,I.ok.Wy,I.ok.bs,I.ok.wR,I.ok.uw,I.ok.wU,I.ok.jF,I.ok.zu⟩,I.os,I.bare,I.base,I.loc,I.cell,I.free,I.gj,λp z=>I.pin p (hp p z),I.hok,I.len⟩
end
end L2
namespace L2
open PySem PySem.Spec PyProof.Rows PySem.W Builtin.ObjectAttr
section
variable {prog:Program}{w:World}{A:Around}{E:Value->Shared->Prop}{s:Shared}{K:Frag}{x C:Addr}{ox:Obj}{od:Option Obj}{name:Str}{tk:Tok}
theorem zjv(XI:K.In s.heap)(I:InstAt s.heap x ox C od)(hf:findObj K C od name=some r)
  (h:match r with|.value v=>Q (.done (.ret v)) s|.bind g a=>wpAny (model prog w) A (call g [a,.ref x,.ref C]) (λv s'=>Q (.done (.ret v)) s') E s|.missing=>False) :
  wpAny (model prog w) A (Builtin.«object.__getattribute__» ⟨[.ref x,.str name tk],[]⟩) Q E s:=by
 obtain⟨hh,g,d,t,os⟩:=s;have L0:=I.type (M:=model prog w);have L1:=looks_find (M:=model prog w) XI I hf;unfold Builtin.«object.__getattribute__»;refine aA (Ek (a:=(Value.ref x,[Value.str name tk])) (by rfl) ?_);refine aA (Ek (a:=name) (by rfl) ?_);refine aA (L0.at (aA (L1.at ?_)));cases r with
 |value v=>exact aP h
 |bind g a=>
  show wpAny _ _ (holding [a] (call g [a,.ref x,.ref C]) >>= ret) _ _ _;exact aA (pQ (gb h (λv s' z=>aP z) λ_ _ z=>z))
 |missing=>exact h.elim
theorem zgu(XI:K.In s.heap)(I:InstAt s.heap x ox C od)(hb:mroIn K C (.type "BaseException")=some true)(hf:findObj K C od name=some r)
  (h:match r with|.value v=>R (.ok (.ret v)) s|.bind g a=>wpAny (model prog w) A.in1 (call g [a,.ref x,.ref C]) (λv s'=>R (.ok (.ret v)) s') (λe s'=>R (.error e) s') s|.missing=>False) :
  codeAny (model prog w) A (.call (.builtin "BaseException.__getattribute__") ⟨[.ref x,.str name tk],[]⟩) R s:=by
 have hk:builtinKind "BaseException.__getattribute__"=some .slot:=by decide +kernel
 have BK:splitId "BaseException.__getattribute__"=some ("BaseException","__getattribute__"):=by decide +kernel
 have ha:=F.args_bexc_ga (.ref x) (.str name tk);refine codeAny_call_builtin F.attr_ValueError.ga.plain F.entry_bexc_ga ?_;have fin:wpAny (model prog w) A.in1 (Builtin.«object.__getattribute__» ⟨[.ref x,.str name tk],[]⟩) (λfin s'=>match fin with|.done f=>R (.ok f) s'|.again c'=>c'.quiet=true/\codeAny (model prog w) A c' R s') (λe s'=>R (.error e) s') s:=by
  refine zjv XI I hf ?_;cases r with
  |value v=>exact h
  |bind g a=>exact h
  |missing=>exact h.elim
 have chk:∀Q:Unit->Shared->Prop,Q () s->wpAny (model prog w) A.in1 (checkBuiltinCall "BaseException.__getattribute__" ⟨[.ref x,.str name tk],[]⟩) Q (λe s'=>R (.error e) s') s:=λQ hq=>by
  obtain⟨hh,g,d,t,os⟩:=s;have L0:=I.type (M:=model prog w);have L1:=looks_mroIn (M:=model prog w) XI hb;have LI:Looks (model prog w) hh (isInstance (.ref x) (.type "BaseException")) true:=L0.andThen L1;simp only[checkBuiltinCall,hk,BK];refine aA ?_
  repeat (first|with_reducible exact hq|with_reducible refine LI.at ?_|wp_step)
 exact chk _ fin
theorem bexc_get?(XI:K.In s.heap)(I:InstAt s.heap x ox C od)(hb:mroIn K C (.type "BaseException")=some true)(hga:findIn K (.ref C) "__getattribute__"=some (some (.builtin "BaseException.__getattribute__")))
  (hgn:findIn K (.ref C) "__getattr__"=some none) (hf:findObj K C od name=some r)
  (h:match r with|.value v=>wpAny (model prog w) A (handedOut v) (λu s'=>Q (some u) s') (λ_ _=>False) {s with toks:=s.toks+1}|.bind g a=>wpAny (model prog w) A.in1 (call g [a,.ref x,.ref C]) (λv s'=>wpAny (model prog w) A (handedOut v) (λu s''=>Q (some u) s'') (λ_ _=>False) s') (λ_ _=>False) {s with toks:=s.toks+1}|.missing=>False) :
  wpAny (model prog w) A (getAttr? (.ref x) name) Q E s:=by
 obtain⟨hh,g,d,t,os⟩:=s;have L0:=I.type (M:=model prog w);have L1:=looks_findIn (M:=model prog w) XI hga;have L2:=looks_findIn (M:=model prog w) XI hgn;have M4:(Value.builtin "BaseException.__getattribute__"==Value.builtin "object.__getattribute__")=false:=by decide +kernel
 unfold getAttr? getAttrBy? getAttrBy;refine aA (wpAny_mkText (aA (Ej (pQ (aA (L0.at (aA (L1.at ?_))))))));show wpAny _ _ (if (onTheHeap (.ref C)&&(Value.builtin "BaseException.__getattribute__"==Value.builtin "object.__getattribute__"))=true then _ else getAttrByItsOwn _ _ _ _ _ _) _ _ _;rw[M4,Bool.and_false,if_neg RB];unfold getAttrByItsOwn hookBefore callGetattribute boundAndCalled;refine aA (L2.at ?_);refine aA (Ej (pQ (aA (Ek (F.attr_ValueError.ga.bind (.ref x)) ?_))));refine El (zgu XI I hb hf ?_);cases r with
 |value v=>exact gb h (λv s'' hv=>aP hv) (λ_ _ z=>z.elim)
 |bind g a=>exact gb h (λv s' hv=>gb hv (λu s'' z=>aP z) λ_ _ z=>z.elim) (λ_ _ z=>z.elim)
 |missing=>exact h.elim
end
structure XC(K:Frag)(C:Addr):Prop where
 ga:findIn K (.ref C) "__getattribute__"=some (some (.builtin "BaseException.__getattribute__"))
 gn:findIn K (.ref C) "__getattr__"=some none
 cl:findIn K (.ref C) "__class__"=some (some (.builtin "object.__class__"))
 mb:mroIn K C (.type "BaseException")=some true
 mo:mroIn K C (.type "object")=some true
 cd:(clsIn K C).isSome=true
 dg:specialIn K (.builtin "object.__class__") "__get__"=some (some (.builtin "getset_descriptor.__get__"))
 dt:takesIn K (.builtin "object.__class__")=some true
theorem zf8{K:Frag}{C:Addr}{od:Option Obj}{name:Str}{a g:Value}(hc:(clsIn K C).isSome=true)(ha:findIn K (.ref C) name=some (some a))(hg:specialIn K a "__get__"=some (some g))(ht:takesIn K a=some true):findObj K C od name=some (.bind g a):=by
 obtain⟨cd,z⟩:=O8.mp hc;simp only[findObj,z,ha,hg,ht,Option.bind_some]
theorem Xy{K:Frag}{e C:Addr}(c:XC K C):KitX K (.ref e) (.ref C) (λh=>∃ox od,InstAt h e ox C od) where
 ty:=λ_ _ _ ⟨_,_,I⟩=>I.type
 it:=λ_ _ XI _=>by
  have q:=c.cd;unfold clsIn at q;split at q
  ·rename_i c' d' cd' sl' lk;intro A' Q' E' s' k z;unfold isType loadHead;exact aA (wpAny_loadPart (k _ _ (XI _ _ lk)) (aP z))
  ·cases q
 ne:=λh tp dd its n sl XI htp=>by
  refine Bool.eq_false_iff.mpr λz=>?_;have ee:C=tp:=Value.ref.inj (nU.mp z);subst ee;have q:=c.cd;unfold clsIn at q;split at q
  ·rename_i c' d' cd' sl' lk;have y:=(XI _ _ lk).symm.trans htp;cases y
  ·cases q
 ca:=λ{prog w A E Q s} XI ⟨ox,od,I⟩ k=>by
  have hf:findObj K C od "__class__"=some (.bind (.builtin "getset_descriptor.__get__") (.builtin "object.__class__")):=zf8 c.cd c.cl c.dg c.dt;refine bexc_get? XI I c.mb c.ga c.gn hf ?_;exact El (class_get (s:={s with toks:=s.toks+1}) (ox:=ox) (od:=od) XI I c.mo (handed_on rfl k))
end L2
namespace L2
open PySem PySem.Spec PyProof.Rows
theorem zff:∀(names:List (Str×NameKind)) (cs:List (Str×Addr)),(∀x∈names,x.2=.free->∃c,env.cells.lookup x.1=some c)->(∀x c,cs.lookup x=some c->env.cells.lookup x=some c)->
  ∃cl,(forIn names cs λx r=>(do
    if x.2==.free then
     let a <-cellOf env x.1
     pure (ForInStep.yield ((x.1,a)::r))
    else pure (ForInStep.yield r)):Sem (List (Str×Addr)))=pure cl/\(∀x c,cl.lookup x=some c->env.cells.lookup x=some c)/\(∀x c,cs.lookup x=some c->cl.lookup x=some c)/\∀x∈names,x.2=.free->∃c,cl.lookup x.1=some c:=by
 intro names
 induction names with
 |nil=>intro cs _ h;exact⟨cs,rfl,h,λ_ _ q=>q,λx z=>nomatch z⟩
 |cons y r ih=>
  intro cs h1 h2;obtain⟨n,k⟩:=y;by_cases hk:k=.free
  ·subst hk;obtain⟨c,hc⟩:=h1 (n,.free) lq rfl;have hc:env.cells.lookup n=some c:=hc;have h3:∀x d,((n,c)::cs).lookup x=some d->env.cells.lookup x=some d:=λx d q=>by
    rw[pN] at q;by_cases z:x=n
    ·subst z;simp at q;subst q;exact hc
    ·have z':(x==n)=false:=by simpa using z
     rw[z'] at q;exact h2 x d q
   obtain⟨cl,e,a,b,d⟩:=ih ((n,c)::cs) (λx z=>h1 x (gY _ z)) h3;have hco:cellOf env n=pure c:=by
    unfold cellOf;rw[hc]
   refine⟨cl,?_,a,λx q z=>?_,λx z q=>?_⟩
   ·rw[Eh];simp only[D_,if_true,hco];exact e
   ·by_cases y:x=n
    ·subst y;have z1:=h2 x q z;rw[hc] at z1;cases z1;exact b x c Zaa
    ·have y':(x==n)=false:=by simpa using y
     exact b x q (by rw[pN,y'];exact z)
   ·rcases jm.mp z with z|z
    ·subst z;exact⟨c,b n c Zaa⟩
    ·exact d x z q
  ·have hb:(k==NameKind.free)=false:=by simpa using hk
   obtain⟨cl,e,a,b,d⟩:=ih cs (λx z=>h1 x (gY _ z)) h2;refine⟨cl,?_,a,b,λx z q=>?_⟩
   ·rw[Eh];simp only[hb,rK,nW];exact e
   ·rcases jm.mp z with z|z
    ·subst z;exact absurd q hk
    ·exact d x z q
theorem zfa(h:∀x∈scope.names,x.2=.free->∃c,env.cells.lookup x.1=some c):∃cl,closureFor scope env=pure cl/\(∀x c,cl.lookup x=some c->env.cells.lookup x=some c)/\∀x∈scope.names,x.2=.free->∃c,cl.lookup x.1=some c:=by
 obtain⟨cl,e,a,_,d⟩:=zff scope.names [] h (λx c q=>by cases q);refine⟨cl,?_,a,d⟩;unfold closureFor;have e':=e;simp only[pure_bind,bind_pure] at e' ⊢;exact e'
theorem Rf{env:Env}{k:NameKind}:∀{names:List (Str×NameKind)} {x:Str},(names.map λ(n,k)=>if (k==NameKind.free&&env.scope.kind==.function&&env.kindOf n==some .cell) then (n,NameKind.cell) else (n,k)).lookup x=some k->
  names.lookup x=some k\/(k=.cell/\names.lookup x=some .free)
 |[],x,h=>by simp at h
 |(n,q)::r,x,h=>by
  rw[jo,pN] at h;rw[pN];have hd:∀c:Bool,(if c=true then (n,NameKind.cell) else (n,q)).1=n:=λc=>by cases c<;>rfl
  rw[hd] at h;by_cases z:x=n
  ·subst z;simp only[D_] at h ⊢;split at h
   ·rename_i y;simp only[fK,nU] at y;cases h;exact .inr ⟨rfl,by rw[y.1.1]⟩
   ·cases h;exact .inl rfl
  ·have z':(x==n)=false:=by simpa using z
   simp only[z'] at h ⊢;exact Rf h
theorem M5{env:Env}:∀{names:List (Str×NameKind)} {x:Str},names.lookup x=some .free->
  (names.map λ(n,k)=>if (k==NameKind.free&&env.scope.kind==.function&&env.kindOf n==some .cell) then (n,NameKind.cell) else (n,k)).lookup x=some .cell \/
  (names.map λ(n,k)=>if (k==NameKind.free&&env.scope.kind==.function&&env.kindOf n==some .cell) then (n,NameKind.cell) else (n,k)).lookup x=some .free
 |[],x,h=>by simp at h
 |(n,q)::r,x,h=>by
  rw[pN] at h;rw[jo,pN];have hd:∀c:Bool,(if c=true then (n,NameKind.cell) else (n,q)).1=n:=λc=>by cases c<;>rfl
  rw[hd];by_cases z:x=n
  ·subst z;simp only[D_] at h ⊢;cases h
   split
   ·exact .inl rfl
   ·exact .inr rfl
  ·have z':(x==n)=false:=by simpa using z
   simp only[z'] at h ⊢;exact M5 h
structure oE(n:Nat)(h1:Heap)(names:List (Str×NameKind))(cl fu:List (Str×Addr)):Prop where
 d1:∀x c,fu.lookup x=some c->(cl.lookup x=some c/\(x,NameKind.cell)∉names)\/((x,NameKind.cell)∈names/\n<c/\h1.IsCell c none)
 d2:∀x y c,n<c->fu.lookup x=some c->fu.lookup y=some c->x=y
 d3:∀x,names.lookup x=some .cell->∃c,fu.lookup x=some c
 d4:∀x c,(x,NameKind.cell)∉names->cl.lookup x=some c->fu.lookup x=some c
theorem cc:(NameKind.cell==NameKind.cell)=true:=by decide
theorem Iu:∀(names:List (Str×NameKind)) (h:Heap) (b:Addr) (o:Obj),h.get? b=some o->(pushCells h names).get? b=some o
 |[],h,b,o,e=>e
 |(x,k)::r,h,b,o,e=>by
  rw[pushCells]
  split
  ·exact Iu r _ b o (cD _ e)
  ·exact Iu r h b o e
theorem Rg:∀(names:List (Str×NameKind)) (h:Heap) (acc:List (Str×Addr)) (x:Str) (c:Addr),(cellsFrom h.objs.size names acc).lookup x=some c->
  (acc.lookup x=some c/\(x,NameKind.cell)∉names)\/((x,NameKind.cell)∈names/\h.objs.size<=c/\(pushCells h names).IsCell c none)
 |[],h,acc,x,c,e=>.inl ⟨e,by simp⟩
 |(y,k)::r,h,acc,x,c,e=>by
  rw[cellsFrom] at e;rw[pushCells];by_cases hk:k=.cell
  ·subst hk;rw[if_pos cc] at e ⊢;have sz:(h.push {cls:=Value.type "cell",data:=Data.cell none}).objs.size=h.objs.size+1:=by unfold Heap.push;simp
   rw[<-sz] at e;rcases Rg r _ _ x c e with ⟨a,b⟩|⟨a,b,d⟩
   ·rw[pN] at a;by_cases z:x=y
    ·subst z;simp at a;subst a;exact .inr ⟨lq,cj _,_,Iu r _ _ _ (eN _ rfl),rfl⟩
    ·have z':(x==y)=false:=by simpa using z
     rw[z'] at a;exact .inl ⟨a,by simp[z,b]⟩
   ·exact .inr ⟨gY _ a,by lia,d⟩
  ·have hb:(k==NameKind.cell)=false:=by simpa using hk
   rw[if_neg (by rw[hb];decide)] at e ⊢;rcases Rg r _ _ x c e with ⟨a,b⟩|⟨a,b,d⟩
   ·exact .inl ⟨a,by simp[b];intro _ q;exact hk q.symm⟩
   ·exact .inr ⟨gY _ a,b,d⟩
theorem Rh:∀(names:List (Str×NameKind)) (n:Nat) (acc:List (Str×Addr)) (x y:Str) (c:Addr),(∀u v,acc.lookup u=some c->acc.lookup v=some c->u=v)->(∀u a,acc.lookup u=some a->a<n\/a≠c)->(cellsFrom n names acc).lookup x=some c->(cellsFrom n names acc).lookup y=some c->x=y
 |[],n,acc,x,y,c,h,_,e1,e2=>h x y e1 e2
 |(z,k)::r,n,acc,x,y,c,h,hl,e1,e2=>by
  rw[cellsFrom] at e1 e2;by_cases hk:k=.cell
  ·subst hk;rw[if_pos cc] at e1 e2;refine Rh r (n+1) _ x y c (λu v a b=>?_) (λu a q=>?_) e1 e2
   ·rw[pN] at a b;by_cases u1:u=z
    ·by_cases v1:v=z
     ·rw[u1,v1]
     ·have v':(v==z)=false:=by simpa using v1
      subst u1;simp at a;rw[v'] at b;subst a;have b:acc.lookup v=some n:=b;rcases hl v n b with q|q
      ·exact absurd q (pP _)
      ·exact absurd rfl q
    ·have u':(u==z)=false:=by simpa using u1
     rw[u'] at a;have a:acc.lookup u=some c:=a;by_cases v1:v=z
     ·subst v1;simp at b;subst b;rcases hl u n a with q|q
      ·exact absurd q (pP _)
      ·exact absurd rfl q
     ·have v':(v==z)=false:=by simpa using v1
      rw[v'] at b;exact h u v a b
   ·rw[pN] at q;by_cases u1:u=z
    ·subst u1;simp at q;subst q;exact .inl (Gz _)
    ·have u':(u==z)=false:=by simpa using u1
     rw[u'] at q;exact(hl u a q).imp (λq=>tQ q) id
  ·have hb:(k==NameKind.cell)=false:=by simpa using hk
   rw[if_neg (by rw[hb];decide)] at e1 e2;exact Rh r n acc x y c h hl e1 e2
theorem Ri:∀(names:List (Str×NameKind)) (n:Nat) (acc:List (Str×Addr)) (x:Str) (c:Addr),(x,NameKind.cell)∉names->acc.lookup x=some c->(cellsFrom n names acc).lookup x=some c
 |[],n,acc,x,c,_,e=>e
 |(z,k)::r,n,acc,x,c,h,e=>by
  rw[cellsFrom];have hr:(x,NameKind.cell)∉r:=λq=>h (gY _ q);by_cases hk:k=.cell
  ·subst hk;rw[if_pos cc];refine Ri r (n+1) _ x c hr ?_;have:x≠z:=λq=>h (by rw[q];exact lq);have z':(x==z)=false:=by simpa using this
   rw[pN,z'];exact e
  ·have hb:(k==NameKind.cell)=false:=by simpa using hk
   rw[if_neg (by rw[hb];decide)];exact Ri r n acc x c hr e
theorem Rj:∀(names:List (Str×NameKind)) (acc:List (Str×Addr)) (s:Shared) (Q:List (Str×Addr)->Shared->Prop),
  Q (cellsFrom s.heap.objs.size names acc) {s with heap:=pushCells s.heap names}->
  wpAny M A (forIn names acc λx (cells:List (Str×Addr))=>match x with
   |(name,kind)=>if (kind==NameKind.cell)=true then do
     let a <-alloc {cls:=Value.type "cell",data:=Data.cell none}
     pure (ForInStep.yield ((name,a)::cells))
    else pure (ForInStep.yield cells)) Q E s
 |[],acc,s,Q,h=>by
  rw[LC];exact aP h
 |(z,k)::r,acc,s,Q,h=>by
  rw[Eh];rw[cellsFrom,pushCells] at h;by_cases hk:k=.cell
  ·subst hk;rw[if_pos cc,if_pos cc] at h;refine aA ?_;dsimp only;rw[if_pos cc];refine aA (wpAny_alloc (aP ?_));refine Rj r _ _ Q ?_;have sz:(s.heap.push {cls:=Value.type "cell",data:=Data.cell none}).objs.size=s.heap.objs.size+1:=by unfold Heap.push;simp
   rw[sz];exact h
  ·have hb:(k==NameKind.cell)=false:=by simpa using hk
   rw[if_neg (by rw[hb];decide),if_neg (by rw[hb];decide)] at h;refine aA ?_;dsimp only;rw[if_neg (by rw[hb];decide)];exact aP (Rj r _ _ Q h)
theorem Xz(old:∀x c,cl.lookup x=some c->c<s.heap.objs.size)(inj:∀x y c,cl.lookup x=some c->cl.lookup y=some c->x=y)
  (h:∀h1 fu,h1.Ns s.heap.objs.size (λ_=>none)->(∀b o,s.heap.get? b=some o->h1.get? b=some o)->oE s.heap.objs.size h1 scope.names cl fu->Q {scope:=scope,locals:=s.heap.objs.size,globals:=globals,cells:=fu,qual:=qual,func:=none,code:=env.code,frame:=env.frame,builtins:=env.builtins} {s with heap:=h1}) :
  wpAny M A (newFunctionEnv scope globals cl [] qual none .none (some env)) Q E s:=by
 unfold newFunctionEnv;refine aA (wpAny_alloc ?_);refine aA ?_;refine Rj scope.names cl _ _ ?_;dsimp only;rw[LC];refine aA (aP (aP ?_));have sz:(s.heap.push {cls:=Value.type (if (some env).isSome=true then "dict" else "frame"),data:=Data.dict #[]}).objs.size=s.heap.objs.size+1:=by unfold Heap.push;simp
 refine h _ _ ?_ (λb o e=>Iu _ _ _ _ (cD _ e)) ⟨λx c e=>?_,λx y c hc e1 e2=>?_,λx e=>?_,λx c hx e=>Ri _ _ _ x c hx e⟩
 ·refine⟨_,#[],_,Iu _ _ _ _ (eN _ rfl),rfl,?_,λ_=>rfl⟩;intro e he;simp at he
 ·rcases Rg _ _ _ x c e with ⟨a,b⟩|⟨a,b,d⟩
  ·exact .inl ⟨a,b⟩
  ·rw[sz] at b;exact .inr ⟨a,by lia,d⟩
 ·exact Rh _ _ _ x y c (λu v a b=>inj u v c a b) (λu a q=>.inl (by rw[sz];exact tQ (old u a q))) e1 e2
 ·have:=Lh scope.names (s.heap.push {cls:=Value.type (if (some env).isSome=true then "dict" else "frame"),data:=Data.dict #[]}).objs.size cl (.inl e);exact O8.mp this
noncomputable def Cx.blk(X:Cx)(scope:Scope)(cl:List (Str×Addr))(N:List Str)(C:Addr)(s3:Shared)(H3:Hp)(fp:List Addr)(ao:List (Addr×Obj)):Cx where
 prog:=X.prog
 w:=X.w
 K:=X.K
 mg:=X.mg
 base:=X.base
 A:=X.A
 N:=N
 s₀:=s3
 H₀:=H3
 env:=compEnvC scope cl C X.env
 outer:=X.stack
 stack:=X.stack
 ex:=fp
 fn:=λx=>scope.names.lookup x==some .cell
 aj:=X.aj
 pn:=X.pn++ao
 xe:=λ_ _=>False
structure b_(sc scope:Scope):Prop where
 kind:scope.kind=.function
 XD:∀y∈scope.names,y.2=.cell->scope.names.lookup y.1=some .cell
 free:∀y∈scope.names,y.2=.free->sc.names.lookup y.1=some .cell\/sc.names.lookup y.1=some .free
 loc:∀y∈scope.names,y.2=.local->scope.names.lookup y.1=some .local
section
variable {X:Cx}{ao:List (Addr×Obj)}{Z:St}{H:Hp}{s:Shared}{scope:Scope}{cl:List (Str×Addr)}{N:List Str}{fp:List Addr}{ZY:St}
theorem XH{h1:Heap}{t:Nat}{fu:List (Str×Addr)}(I:Inv X ao Z H s)(B:b_ X.env.scope scope)(c1:∀x c,cl.lookup x=some c->X.env.cells.lookup x=some c)(c2:∀x∈scope.names,x.2=.free->∃c,cl.lookup x.1=some c)
  (f:∀b∈fp,fO X ao H b) (fo:∀b∈fp,∃o,s.heap.get? b=some o) (hn:h1.Ns s.heap.objs.size (λ_=>none)) (kp:∀b o,s.heap.get? b=some o->h1.get? b=some o) (CN:oE s.heap.objs.size h1 scope.names cl fu)
  (hl:ZY.length=N.length) (hZ:∀(i:Nat) (x:Str) (v:V),N[i]?=some x->ZY[i]?=some (some v)->scope.names.lookup x=some .free/\∃j:Nat,X.N[j]?=some x/\Z[j]?=some (some v)) :
  Inv (X.blk scope fu N s.heap.objs.size s H fp ao) [] ZY H {s with heap:=h1,toks:=t}:=by
 have lt:∀b o,s.heap.get? b=some o->b≠s.heap.objs.size:=λb o q=>cY (bQ q);have XJ:∀b,b≠X.env.locals->b∉X.fs->b∉frs X.stack:=λb a c z=>(jm.mp (I.jX b z)).elim a c;have mem_of:∀x k,scope.names.lookup x=some k->(x,k)∈scope.names:=λx k q=>DP q;have old:∀x c,cl.lookup x=some c->c<s.heap.objs.size:=λx c q=>by
  obtain⟨v,o,q1,q2⟩:=I.cell x c (c1 x c q);exact bQ q1
 have XM:∀x,scope.names.lookup x=some .free->(x,NameKind.cell)∉scope.names:=λx q z=>by
  have:=B.XD _ z rfl;have this:scope.names.lookup x=some .cell:=this;rw[q] at this;cases this
 refine⟨⟨I.ok.mod,B.kind,I.ok.glob,I.ok.blt,cj _,λx y c a b=>?_,λx hx=>?_,λx c z q=>?_,I.ok.hd,I.ok.frames,.inl rfl,λb hb=>?_,I.bs,jU I.ok.wR I.sz,λb o q hb=>?_,λb hb=>XJ b (f b hb).2.1 (f b hb).2.2.1,I.stack,⟨I.mL,I.Ba⟩⟩,
  rfl,I.bare,Un.kept kp,⟨_,hn,λi x v e1 e2 e3=>?_⟩,λx c q=>?_,I.hok.fresh (cj _),λx c q=>?_,λp hp=>?_,I.hok.kept kp,hl⟩
 ·by_cases hc:s.heap.objs.size<c
  ·exact CN.d2 x y c hc a b
  ·rcases CN.d1 x c a with ⟨a1,_⟩|⟨_,a1,_⟩
   ·rcases CN.d1 y c b with ⟨b1,_⟩|⟨_,b1,_⟩
    ·exact I.ok.inj x y c (c1 x c a1) (c1 y c b1)
    ·exact absurd b1 hc
   ·exact absurd a1 hc
 ·have hx:(relabel scope X.env).names.lookup x=some .cell\/(relabel scope X.env).names.lookup x=some .free:=hx;have fr:scope.names.lookup x=some .cell\/scope.names.lookup x=some .free:=by
   rcases hx with hx|hx
   ·rcases Rf hx with z|⟨_,z⟩
    ·exact .inl z
    ·exact .inr z
   ·rcases Rf hx with z|⟨z,_⟩
    ·exact .inr z
    ·cases z
  rcases fr with fr|fr
  ·exact CN.d3 x fr
  ·obtain⟨c,hc⟩:=c2 (x,.free) (mem_of x _ fr) rfl;exact⟨c,CN.d4 x c (XM x fr) hc⟩
 ·rcases CN.d1 x c q with ⟨_,q1⟩|⟨_,q1,_⟩
  ·have z:(scope.names.lookup x==some NameKind.cell)=true:=z;exact absurd (mem_of x _ (by simpa using z)) q1
  ·exact rP q1
 ·obtain⟨o,q⟩:=fo b hb;refine⟨lt b o q,λx c z=>?_⟩;rcases CN.d1 x c z with ⟨q1,_⟩|⟨_,q1,_⟩
  ·exact(f b hb).2.2.2.2.1 x c (c1 x c q1)
  ·exact λe=>absurd (bQ q) (by rw[<-e];exact Em.mpr (rP q1))
 ·obtain⟨_,_,_,z,_⟩:=f b hb;rcases z with z|z
  ·exact I.ok.uw b o q z
  ·exact absurd (f9 (bQ q) (jU I.ok.wR z)) (pP _)
 ·obtain⟨fr,j,hj,hv⟩:=hZ i x v e1 e2;have hk:=B.free (x,.free) (mem_of x _ fr) rfl;obtain⟨m,hm,hlk⟩:=I.loc;obtain⟨u,r,l⟩:=hlk j x v hj hv (hk.elim (λz=>.inr (.inl z)) λz=>.inr (.inr z));obtain⟨c',lE⟩:=c2 (x,.free) (mem_of x _ fr) rfl;have lE:cl.lookup x=some c':=lE;refine⟨u,r,.inr ⟨M5 fr,c',CN.d4 x c' (XM x fr) lE,?_⟩⟩;rcases l with ⟨k1,_⟩|⟨_,c,k2,oc,k3,k4⟩
  ·have k1:X.env.scope.names.lookup x=some .local:=k1;rcases hk with hk|hk
   ·have hk:X.env.scope.names.lookup x=some .cell:=hk;rw[k1] at hk;cases hk
   ·have hk:X.env.scope.names.lookup x=some .free:=hk;rw[k1] at hk;cases hk
  ·have e:=c1 x c' lE;rw[k2] at e;cases e;exact⟨oc,kp _ oc k3,k4⟩
 ·rcases CN.d1 x c q with ⟨q1,_⟩|⟨_,_,q1⟩
  ·obtain⟨v,o,q1,q2⟩:=I.cell x c (c1 x c q1);exact⟨v,o,kp c o q1,q2⟩
  ·exact⟨none,q1⟩
 ·rcases CN.d1 x c q with ⟨q1,_⟩|⟨_,q1,_⟩
  ·exact I.gj x c (c1 x c q1)
  ·exact I.hok.fresh (rP q1)
 ·have hp:p∈X.pn++ao:=by
   have z:p∈(X.pn++ao)++[]:=hp;simpa using z
  obtain⟨a1,a2,a3,a4,a5⟩:=I.pin p hp;exact⟨kp _ _ a1,a2,lt _ _ a1,XJ _ a3 a4,a5⟩
theorem XQ(I:Inv X ao Z H s)(f:∀b∈fp,fO X ao H b)(aZ:Inv (X.blk scope cl N s.heap.objs.size s H fp ao) [] Z' H' s'):Inv X ao Z H' s':=
 I.call' (ch:=fp) aZ.os aZ.base aZ.hok aZ.bare λb hb=>by
  obtain⟨_,a2,_,a4,a5,a6⟩:=f b hb;exact⟨a4.imp id λz=>DK z,a2,a5,a6⟩
theorem M6{Z':St}{H':Hp}{s':Shared}{h2:Heap}{C:Addr}(aZ:Inv X ao Z H' s')(hC:X.s₀.heap.objs.size<=C)(n1:H' C=none)(n2:C≠X.env.locals)(n3:∀x c,X.env.cells.lookup x=some c->c≠C)(n4:∀p∈X.pn++ao,p.1≠C)
  (sb:Heap.SameBut C s'.heap h2):Inv X ao Z H' {s' with heap:=h2}:=
 aZ.turned (t':=s'.toks) (λb o z q=>(sb.2 b z).trans q) n1 n2 (.inr hC) n3 n4
end
noncomputable abbrev jR(ifs:List Expr)(env:Env):Sem Bool:=forIn ifs true λc r=>if r=true then do let ok <-isTrue c env (eval c env);pure (ForInStep.yield ok) else pure (ForInStep.yield r)
theorem zgk{prog:Program}{w:World}{A:Around}{R:Result->Shared->Prop}{s:Shared}{elt target iter:Expr}{ifs:List Expr}{scope:Scope}{pos:Pos}{it acc:Value}{env:Env}(V:Nat->Shared->Prop)
  (turn:∀n s,V n s->wpAny (model prog w) A (pyNext it) (λr s₁=>match r with
   |none=>R (.ok .next) s₁
   |some v=>wpAny (model prog w) A (letOwnedTupleGo target it v) (λ_ s₂=>wpAny (model prog w) A (assign target env v) (λ_ s₃=>
     wpAny (model prog w) A (jR ifs env) (λok s₄=>
      if ok=true then wpAny (model prog w) A (eval elt env) (λx s₅=>wpAny (model prog w) A (call (.builtin "list.append") [acc,x]) (λ_ s₆=>∃m,m<n/\V m s₆) (λ_ _=>False) s₅) (λ_ _=>False) s₄
      else ∃m,m<n/\V m s₄) (λ_ _=>False) s₃) (λ_ _=>False) s₂) (λ_ _=>False) s₁) (λ_ _=>False) s)
  (n:Nat) (h:V n s):codeAny (model prog w) A (.compLoop (.ListComp elt [⟨target,iter,ifs,0⟩] scope pos) 0 it acc env) R s:=by
 refine codeAny_loop rfl V (λn s hV=>?_) n h;show wpAny _ A ((compTurn (.ListComp elt [⟨target,iter,ifs,0⟩] scope pos) 0 it acc env).onRaise (λx=>do noteFrame x env;theTreesLotGoes x)) _ _ s;refine wpAny_noted ?_;rw[compTurn_list];refine aA (ug (aA (gb (turn n s hV) (λr s₁ h₁=>?_) λ_ _ z=>z.elim)));cases r with
 |none=>exact aP h₁
 |some v=>
  refine aA (gb h₁ (λ_ s₂ h₂=>?_) λ_ _ z=>z.elim);refine aA (gb h₂ (λ_ s₃ h₃=>aA (gb h₃ (λok s₄ h₄=>?_) λ_ _ z=>z.elim)) λ_ _ z=>z.elim);cases ok with
  |true=>
   simp only[if_true] at h₄ ⊢;exact aA (aA (gb h₄ (λx s₅ h₅=>aA (gb h₅ (λ_ s₆ h₆=>aP (aP ⟨rfl,h₆⟩)) λ_ _ z=>z.elim)) λ_ _ z=>z.elim))
  |false=>
   simp only[rK,nW] at h₄ ⊢;exact aP ⟨rfl,h₄⟩
def EY(X:Cx)(ifs:List Expr)(t:TT):Prop:=
 ∀(ao:List (Addr×Obj)) (s:Shared) (Z:St) (H:Hp) (Q:Bool->Hp->Prop),Inv X ao Z H s->t Z H Q->wpAny (model X.prog X.w) X.A (jR ifs X.env) (TP X ao Z Q) X.xe s
noncomputable def Rm:TT:=λ_ H Q=>Q true H
theorem zjY:EY X [] Rm:=λ_ _ _ H _ I h=>wpAny_tests_nil ⟨H,I,h⟩
theorem zj7(h:PT X c t):EY X [c] t:=λao s Z H Q I hq=>wpAny_tests_one (h ao s Z H Q I hq)
def Iv(ZY:St->St)(g:TG)(tt:TT)(te:TE)(aZ:It)(Z:St)(H:Hp)(Q:VK):Prop:=∀D,H D=none->∃W:Nat->Nat->St->Hp->Prop,(∃m,W 0 m (ZY Z) (upd H D (.lst [])))/\∀i m Z' H',W i m Z' H'->
 (aZ.stop i H'/\Q (.ref D) H')\/(aZ.go i H'/\∃N:St->Hp->Prop,(∀Z2 H2,N Z2 H2->∃m',m'<m/\W (i+1) m' Z2 H2)/\∀x H2,aZ.uD i H' x H2->g x Z' H2 λZ3 H3=>tt Z3 H3 λok H4=>
  if ok=true then te Z3 H4 λy H5=>∃ys,H5 D=some (.lst ys)/\ys.length<sizeLine/\N Z3 (upd H5 D (.lst (ys++[y]))) else N Z3 H4)
section
variable {X:Cx}{elt tg iter:Expr}{ifs:List Expr}{scope:Scope}{pos:Pos}{N:List Str}{ZY:St->St}{wi:TI}{g:TG}{tt:TT}{te:TE}
structure Parts(X:Cx)(elt tg:Expr)(ifs:List Expr)(scope:Scope)(N:List Str)(g:TG)(tt:TT)(te:TE):Prop where
 tgt:∀cl C s3 H3 fp ao,PG (X.blk scope cl N C s3 H3 fp ao) tg g
 Iw:∀cl C s3 H3 fp ao,EY (X.blk scope cl N C s3 H3 fp ao) ifs tt
 el:∀cl C s3 H3 fp ao,PE (X.blk scope cl N C s3 H3 fp ao) elt te
theorem XR(hc:X.aj=true)(B:b_ X.env.scope scope)(P:Parts X elt tg ifs scope N g tt te)(hl:∀Z,(ZY Z).length=N.length)
  (hZ:∀(Z:St) (i:Nat) (x:Str) (v:V),N[i]?=some x->(ZY Z)[i]?=some (some v)->scope.names.lookup x=some .free/\∃j:Nat,X.N[j]?=some x/\Z[j]?=some (some v))
  {ao:List (Addr×Obj)} {s:Shared} {Z:St} {H:Hp} {Q:VK} {it:Addr} {fp:List Addr} {tn:Nat->Heap->Prop} {aZ:It} (I:Inv X ao Z H s) (T:Turn X.prog X.w X.K tg aZ fp it tn) (st:tn 0 s.heap) (f:∀b∈fp,fO X ao H b) (h:Iv ZY g tt te aZ Z H Q)
  {cl:List (Str×Addr)} (c1:∀x c,cl.lookup x=some c->X.env.cells.lookup x=some c) (c2:∀x∈scope.names,x.2=.free->∃c,cl.lookup x.1=some c) {R:Value->Addr->Result->Shared->Prop} {E:Value->Shared->Prop}
  (k:∀D C s' H',Inv X ao Z H' s'->X.s₀.heap.objs.size<=C->H' C=none->C≠X.env.locals->(∀x c,X.env.cells.lookup x=some c->c≠C)->(∀p∈X.pn++ao,p.1≠C)->(∃m,s'.heap.Ns C m)->Q (.ref D) H'->R (.ref D) C (.ok .next) s') :
  wpAny (model X.prog X.w) X.A (newList []) (λacc s₃=>wpAny (model X.prog X.w) X.A (newFunctionEnv scope X.env.globals cl [] X.env.qual none .none (some X.env)) (λcenv s₄=>
   codeAny (model X.prog X.w) X.A (.compStart (.ListComp elt [⟨tg,iter,ifs,0⟩] scope pos) 0 (.ref it) acc {cenv with scope:=relabel scope X.env}) (R acc cenv.locals) s₄) E s₃) E s:=by
 refine tO ?_;have hD:H s.heap.objs.size=none:=I.hok.fresh (cj _);have I3:Inv X ao Z (upd H s.heap.objs.size (.lst [])) {s with heap:=s.heap.push {cls:=.type "list",dict:=none,data:=.seq ([]:List Value).toArray}}:=
  I.laid (t':=s.toks) (λb u q=>cD _ q) (cj _) ⟨rR _,[],0,.nil,eN _ rfl⟩
 have f3:∀b∈fp,fO X ao (upd H s.heap.objs.size (.lst [])) b:=λb hb=>by
  obtain⟨a1,a2⟩:=f b hb;obtain⟨o,q,_⟩:=T.obj 0 _ st b hb;exact⟨by rw[bT (cY (bQ q))];exact a1,a2⟩
 have st3:tn 0 (s.heap.push {cls:=.type "list",dict:=none,data:=.seq ([]:List Value).toArray}):=T.keep _ _ _ st λb hb o q=>cD _ q;obtain⟨W,⟨m0,w0⟩,turn⟩:=h s.heap.objs.size hD;generalize Rn:({s with heap:=s.heap.push {cls:=.type "list",dict:=none,data:=.seq ([]:List Value).toArray}}:Shared)=s3 at *;have qd:tn 0 s3.heap:=by rw[<-Rn];exact st3
 generalize hH3:upd H s.heap.objs.size (.lst [])=H3 at *;refine Xz (λx c q=>by obtain⟨v,o,q1,_⟩:=I3.cell x c (c1 x c q);exact bQ q1) (λx y c a b=>I3.ok.inj x y c (c1 x c a) (c1 y c b)) λh1 fu hn kp CN=>?_;have BL:Inv (X.blk scope fu N s3.heap.objs.size s3 H3 fp ao) [] (ZY Z) H3 {s3 with heap:=h1}:=
  XH (t:=s3.toks) I3 B c1 c2 f3 (λb hb=>let ⟨o,q,_⟩:=T.obj 0 _ qd b hb;⟨o,q⟩) hn kp CN (hl Z) (hZ Z)
 have Iz:tn 0 h1:=T.keep _ _ _ qd λb hb o q=>kp b o q;have fY:∀{H':Hp},(∀b∈fp,H' b=none)->∀b∈fp,fO (X.blk scope fu N s3.heap.objs.size s3 H3 fp ao) [] H' b:=λ{H'} z b hb=>by
  obtain⟨a1,a2,a3,a4,a5,a6⟩:=f3 b hb;obtain⟨o,q,_⟩:=T.obj 0 _ qd b hb;refine⟨z b hb,cY (bQ q),λy=>(jm.mp (I3.jX b y)).elim a2 a3,.inl hb,λx c y=>?_,λp hp=>a6 p ?_⟩
  ·rcases CN.d1 x c y with ⟨q1,_⟩|⟨_,q1,_⟩
   ·exact a5 x c (c1 x c q1)
   ·exact λe=>absurd (bQ q) (by rw[<-e];exact Em.mpr (rP q1))
  have y:p∈(X.pn++ao)++[]:=hp;simpa using y
 have loop:codeAny (model X.prog X.w) X.A (.compLoop (.ListComp elt [⟨tg,iter,ifs,0⟩] scope pos) 0 (.ref it) (.ref s.heap.objs.size) (compEnvC scope fu s3.heap.objs.size X.env)) (R (.ref s.heap.objs.size) s3.heap.objs.size) {s3 with heap:=h1}:=by
  refine zgk (λn s'=>∃i Z' H',Inv (X.blk scope fu N s3.heap.objs.size s3 H3 fp ao) [] Z' H' s'/\tn i s'.heap/\(∀b∈fp,H' b=none)/\W i n Z' H') ?_ m0 ⟨0,ZY Z,H3,BL,Iz,λb hb=>(f3 b hb).1,w0⟩;rintro n s5 ⟨i,Z5,H5,jG,tR,vY,w5⟩;rcases turn i n Z5 H5 w5 with ⟨stop,q⟩|⟨go,Nx,hN,step⟩
  ·refine aQ (T.done (X.blk scope fu N s3.heap.objs.size s3 H3 fp ao) rfl rfl rfl hc i [] s5 Z5 H5 _ jG (fY vY) tR stop) λr s6 ⟨hr,mR⟩=>?_;subst hr;have JX:=XQ I3 f3 mR;refine k s.heap.objs.size s3.heap.objs.size s6 H5 JX I3.sz mR.free (pR I3.lt) (λx c y z=>?_) (λp hp z=>?_) ?_ q
   ·obtain⟨v,qc⟩:=I3.cell x c y;exact absurd qc.lt (by rw[z];exact pP _)
   ·exact absurd (bQ (I3.pin p hp).1) (by rw[z];exact pP _)
   ·obtain⟨m,hm,_⟩:=mR.loc;exact⟨m,hm⟩
  ·refine aQ (T.item (X.blk scope fu N s3.heap.objs.size s3 H3 fp ao) rfl rfl rfl hc i [] s5 Z5 H5 _ jG (fY vY) tR go) λr s6 hx=>vV hx λu hr h6=>?_;subst hr;refine aQ h6 λ_ s7 ⟨x,H7,uJ,r7,y7,uK,IK⟩=>?_;have oF:=uJ.pinned (fY IK) (T.obj _ _ uK);refine aQ (P.tgt fu s3.heap.objs.size s3 H3 fp ao _ s7 Z5 H7 x u _ oF r7 (step x H7 y7)) λ_ s8 ⟨Z8,H8,uL,q8⟩=>?_;refine aQ (P.Iw fu s3.heap.objs.size s3 H3 fp ao _ s8 Z8 H8 _ uL q8) λok s9 hx=>vV hx λH9 uM q9=>?_;have again:∀{H':Hp} {s':Shared},Inv (X.blk scope fu N s3.heap.objs.size s3 H3 fp ao) ([]++i_ fp s7.heap) Z8 H' s'->Nx Z8 H'->∃m,m<n/\∃i Z' H',Inv (X.blk scope fu N s3.heap.objs.size s3 H3 fp ao) [] Z' H' s'/\tn i s'.heap/\(∀b∈fp,H' b=none)/\W i m Z' H':=λ{H' s'} eU n'=>by
    obtain⟨m',hm,w'⟩:=hN Z8 H' n';refine⟨m',hm,i+1,Z8,H',eU.bZ,T.keep _ _ _ uK λb hb o e=>(eU.pin (b,o) (lg _ (lg _ (zy hb e)))).1,λb hb=>?_,w'⟩;obtain⟨o,e,d⟩:=T.obj _ _ uK b hb;exact(eU.pin (b,o) (lg _ (lg _ (zy hb e)))).2.1
   cases ok with
   |false=>
    rw[if_neg RB] at q9 ⊢;exact again uM q9
   |true=>
    rw[if_pos rfl] at q9 ⊢;refine aQ (P.el fu s3.heap.objs.size s3 H3 fp ao _ s9 Z8 H9 _ uM q9) λv M7 ⟨y,Ro,uN,r10,ys,BP,hz,Rp⟩=>?_;refine aQ (Q7 (X:=(X.blk scope fu N s3.heap.objs.size s3 H3 fp ao)) _ M7 Z8 Ro (.ref s.heap.objs.size) [y] (.ref s.heap.objs.size) [v] (λ_ H'=>Nx Z8 H') uN rfl (.cons r10 .nil) ⟨s.heap.objs.size,ys,y,rfl,rfl,BP,hz,Rp⟩) λ_ X3 hx=>eG hx λ_ X4 oG _ Rq=>again oG Rq
 exact codeAny_compStart_list loop (T.self _ 0 _ _ _ Iz loop)
end
noncomputable def uO(wi:TI)(ZY:St->St)(g:TG)(tt:TT)(te:TE):TE:=λZ H Q=>wi Z H λaZ H1=>Iv ZY g tt te aZ Z H1 Q
section
variable {X:Cx}{elt tg iter:Expr}{ifs:List Expr}{scope:Scope}{pos spos py:Pos}{N:List Str}{ZY:St->St}{wi:TI}{g:TG}{tt:TT}{te:TE}{i:Nat}{y:Str}
theorem M8(I:Inv X ao Z H s)(B:b_ X.env.scope scope):∃cl,closureFor scope X.env=pure cl/\(∀x c,cl.lookup x=some c->X.env.cells.lookup x=some c)/\∀x∈scope.names,x.2=.free->∃c,cl.lookup x.1=some c:=
 zfa λx hx hf=>I.ok.has x.1 (B.free x hx hf)
theorem zi8(hc:X.aj=true)(B:b_ X.env.scope scope)(hi:PI X tg iter wi)(P:Parts X elt tg ifs scope N g tt te)(hl:∀Z,(ZY Z).length=N.length)
  (hZ:∀(Z:St) (i:Nat) (x:Str) (v:V),N[i]?=some x->(ZY Z)[i]?=some (some v)->scope.names.lookup x=some .free/\∃j:Nat,X.N[j]?=some x/\Z[j]?=some (some v))
  (hs:∀x,foldedSetIterable iter X.env x=pure x:=by intro _;rfl):PE X (.ListComp elt [⟨tg,iter,ifs,0⟩] scope pos) (uO wi ZY g tt te):=by
 intro ao s Z H Q I h;obtain⟨cl,oH,c1,c2⟩:=M8 I B;rw[eval_ListComp];refine Ld (use:=none) rfl hs oH B.kind B.loc (aQ (hi ao s Z H _ I h) λxv s1 h1=>aQ h1 λitv s2 h2=>?_);obtain⟨it,fp,tn,aZ,H2,e,I2,T,st2,f2,hq⟩:=h2;subst e;exact XR hc B P hl hZ I2 T st2 f2 hq c1 c2 (R:=λacc C=>compPost (model X.prog X.w) X.A X.xe none (EP X ao Z Q) acc C) λD C s' H' eU a b c d e ⟨m,hm⟩ q=>⟨m,hm,λh' sb=>⟨.ref D,H',M6 (Z':=Z) eU a b c d e sb,rfl,q⟩⟩
theorem ze3(hc:X.aj=true)(hN:X.N.Nodup)(sE:X.N[i]?=some y)(hx:Loc X.env.scope y)(hf:X.fn y=true\/X.env.scope.names.lookup y=some .local)(B:b_ X.env.scope scope)(hi:PI X tg iter wi)(P:Parts X elt tg ifs scope N g tt te)(hl:∀Z,(ZY Z).length=N.length)
  (hZ:∀(Z:St) (i:Nat) (x:Str) (v:V),N[i]?=some x->(ZY Z)[i]?=some (some v)->scope.names.lookup x=some .free/\∃j:Nat,X.N[j]?=some x/\Z[j]?=some (some v))
  (uP:swapsWith (.ListComp elt [⟨tg,iter,ifs,0⟩] scope pos) (some (.Name y py)) spos.line X.env=pure true) (hs:∀x,foldedSetIterable iter X.env x=pure x:=by intro _;rfl) :
  PS X (.Assign [.Name y py] (.ListComp elt [⟨tg,iter,ifs,0⟩] scope pos) spos) (wW (uO wi ZY g tt te) (dO i)):=by
 intro ao s Z H D I h;obtain⟨cl,oH,c1,c2⟩:=M8 I B;rw[exec_Assign_Name_used _ _ _ _ uP];refine aA (ug (aA ?_));show wpAny _ X.A (do let _ <-comprehension (.ListComp elt [⟨tg,iter,ifs,0⟩] scope pos) scope X.env _ (newList []) false (eval iter X.env) (some (assign (.Name y py) X.env))) _ _ s;refine aA (Ld (use:=some (assign (.Name y py) X.env)) rfl hs oH B.kind B.loc (aQ (hi ao s Z H _ I h) λxv s1 h1=>aQ h1 λitv s2 h2=>?_));obtain⟨it,fp,tn,aZ,H2,e,I2,T,st2,f2,hq⟩:=h2;subst e;refine XR hc B P hl hZ I2 T st2 f2 hq c1 c2 (R:=λacc C=>compPost (model X.prog X.w) X.A X.xe (some (assign (.Name y py) X.env)) _ acc C) λD' C s' H' eU a b c d e ⟨m,hm⟩ q=>?_;show wpAny _ _ (assign (.Name y py) X.env (.ref D')) _ _ s';refine wpAny_assign_Name (Qe (v:=.ref D') eU hN sE hx rfl (λs5 jG ⟨ad,sb,Rr⟩=>?_) hf);have nC:C≠ad:=by
  rcases Rr with z|z
  ·rw[z];exact c
  ·exact(d y ad z).symm
 obtain⟨ol,es,ep,e1,r1⟩:=hm;refine⟨m,⟨ol,es,ep,(sb.2 C nC).trans e1,r1⟩,λh' Rt=>aP (aP ⟨_,H',M6 (Z':=Z) jG a b c d e Rt,q⟩)⟩
end
theorem zdZ(elt target iter:Expr)(ifs:List Expr)(g₁:Comprehension)(scope:Scope)(pos:Pos)(it acc:Value)(env:Env) :
  compTurn (.ListComp elt [g₁,⟨target,iter,ifs,0⟩] scope pos) 1 it acc env=(do
   standAt iter.pos
   match <-pyNext it with
   |none=>pure (.done .next)
   |some v=>
    letOwnedTupleGo target it v
    assign target env v
    let mut ok:=true
    for c in ifs do
     if ok then ok <-isTrue c env (eval c env)
    if ok then
     (do let _ <-call (.builtin "list.append") [acc,<-eval elt env])
    again (.compLoop (.ListComp elt [g₁,⟨target,iter,ifs,0⟩] scope pos) 1 it acc env)):=by rfl
theorem zdz(elt target iter target₂ iter₂:Expr)(ifs ifs₂:List Expr)(scope:Scope)(pos:Pos)(it acc:Value)(env:Env) :
  compTurn (.ListComp elt [⟨target,iter,ifs,0⟩,⟨target₂,iter₂,ifs₂,0⟩] scope pos) 0 it acc env=(do
   standAt iter.pos
   match <-pyNext it with
   |none=>pure (.done .next)
   |some v=>
    letOwnedTupleGo target it v
    assign target env v
    let mut ok:=true
    for c in ifs do
     if ok then ok <-isTrue c env (eval c env)
    if ok then
     let x <-eval iter₂ env
     standAt iter₂.pos
     let x <-foldedSetIterable iter₂ env x
     let _ <-runOwn (.compStart (.ListComp elt [⟨target,iter,ifs,0⟩,⟨target₂,iter₂,ifs₂,0⟩] scope pos) 1 (<-holding [x] (pyIter x)) acc env) env
     again (.compLoop (.ListComp elt [⟨target,iter,ifs,0⟩,⟨target₂,iter₂,ifs₂,0⟩] scope pos) 0 it acc env)
    else
     again (.compLoop (.ListComp elt [⟨target,iter,ifs,0⟩,⟨target₂,iter₂,ifs₂,0⟩] scope pos) 0 it acc env)):=by rfl
theorem zjX(V:Nat->Shared->Prop)
  (turn:∀n s,V n s->wpAny (model prog w) A (pyNext it) (λr s₁=>match r with
   |none=>R (.ok .next) s₁
   |some v=>wpAny (model prog w) A (letOwnedTupleGo target it v) (λ_ s₂=>wpAny (model prog w) A (assign target env v) (λ_ s₃=>
     wpAny (model prog w) A (jR ifs env) (λok s₄=>
      if ok=true then wpAny (model prog w) A (eval elt env) (λx s₅=>wpAny (model prog w) A (call (.builtin "list.append") [acc,x]) (λ_ s₆=>∃m,m<n/\V m s₆) (λ_ _=>False) s₅) (λ_ _=>False) s₄
      else ∃m,m<n/\V m s₄) (λ_ _=>False) s₃) (λ_ _=>False) s₂) (λ_ _=>False) s₁) (λ_ _=>False) s)
  (n:Nat) (h:V n s):codeAny (model prog w) A (.compLoop (.ListComp elt [g₁,⟨target,iter,ifs,0⟩] scope pos) 1 it acc env) R s:=by
 refine codeAny_loop rfl V (λn s hV=>?_) n h;show wpAny _ A ((compTurn (.ListComp elt [g₁,⟨target,iter,ifs,0⟩] scope pos) 1 it acc env).onRaise (λx=>do noteFrame x env;theTreesLotGoes x)) _ _ s;refine wpAny_noted ?_;rw[zdZ];refine aA (ug (aA (gb (turn n s hV) (λr s₁ h₁=>?_) λ_ _ z=>z.elim)));cases r with
 |none=>exact aP h₁
 |some v=>
  refine aA (gb h₁ (λ_ s₂ h₂=>?_) λ_ _ z=>z.elim);refine aA (gb h₂ (λ_ s₃ h₃=>aA (gb h₃ (λok s₄ h₄=>?_) λ_ _ z=>z.elim)) λ_ _ z=>z.elim);cases ok with
  |true=>
   simp only[if_true] at h₄ ⊢;exact aA (aA (gb h₄ (λx s₅ h₅=>aA (gb h₅ (λ_ s₆ h₆=>aP (aP ⟨rfl,h₆⟩)) λ_ _ z=>z.elim)) λ_ _ z=>z.elim))
  |false=>
   simp only[rK,nW] at h₄ ⊢;exact aP ⟨rfl,h₄⟩
theorem zhU{prog:Program}{w:World}{A:Around}{R:Result->Shared->Prop}{s:Shared}{elt target iter target₂ iter₂:Expr}{ifs ifs₂:List Expr}{scope:Scope}{pos:Pos}{it acc:Value}{env:Env}(V:Nat->Shared->Prop)(hs:∀x,foldedSetIterable iter₂ env x=pure x)
  (turn:∀n s,V n s->wpAny (model prog w) A (pyNext it) (λr s₁=>match r with
   |none=>R (.ok .next) s₁
   |some v=>wpAny (model prog w) A (letOwnedTupleGo target it v) (λ_ s₂=>wpAny (model prog w) A (assign target env v) (λ_ s₃=>
     wpAny (model prog w) A (jR ifs env) (λok s₄=>
      if ok=true then wpAny (model prog w) A (eval iter₂ env) (λx s₅=>wpAny (model prog w) A (pyIter x) (λit₂ s₆=>codeAny (model prog w) A (.compStart (.ListComp elt [⟨target,iter,ifs,0⟩,⟨target₂,iter₂,ifs₂,0⟩] scope pos) 1 it₂ acc env) (λr s₇=>r=.ok .next/\∃m,m<n/\V m s₇) s₆) (λ_ _=>False) s₅) (λ_ _=>False) s₄
      else ∃m,m<n/\V m s₄) (λ_ _=>False) s₃) (λ_ _=>False) s₂) (λ_ _=>False) s₁) (λ_ _=>False) s)
  (n:Nat) (h:V n s):codeAny (model prog w) A (.compLoop (.ListComp elt [⟨target,iter,ifs,0⟩,⟨target₂,iter₂,ifs₂,0⟩] scope pos) 0 it acc env) R s:=by
 refine codeAny_loop rfl V (λn s hV=>?_) n h;show wpAny _ A ((compTurn (.ListComp elt [⟨target,iter,ifs,0⟩,⟨target₂,iter₂,ifs₂,0⟩] scope pos) 0 it acc env).onRaise (λx=>do noteFrame x env;theTreesLotGoes x)) _ _ s;refine wpAny_noted ?_;rw[zdz];refine aA (ug (aA (gb (turn n s hV) (λr s₁ h₁=>?_) λ_ _ z=>z.elim)));cases r with
 |none=>exact aP h₁
 |some v=>
  refine aA (gb h₁ (λ_ s₂ h₂=>?_) λ_ _ z=>z.elim);refine aA (gb h₂ (λ_ s₃ h₃=>aA (gb h₃ (λok s₄ h₄=>?_) λ_ _ z=>z.elim)) λ_ _ z=>z.elim);cases ok with
  |true=>
   simp only[if_true] at h₄ ⊢;refine aA (gb h₄ (λx s₅ h₅=>aA (ug (aA (Ek (hs x) (aA (pQ (gb h₅ (λit₂ s₆ h₆=>aA (wpAny_runOwn (yX h₆ λr s₇ h₇=>?_))) λ_ _ z=>z.elim))))))) λ_ _ z=>z.elim);obtain⟨rfl,h₇⟩:=h₇;exact aP ⟨rfl,h₇⟩
  |false=>
   simp only[rK,nW] at h₄ ⊢;exact aP ⟨rfl,h₄⟩
theorem za1
  (h0:codeAny (model prog w) A (.compLoop (.ListComp elt [g₁,⟨target,iter,ifs,0⟩] scope pos) 1 it acc env) R s)
  (h:wpAny (model prog w) A (pyIter it) (λit' s'=>codeAny (model prog w) A (.compLoop (.ListComp elt [g₁,⟨target,iter,ifs,0⟩] scope pos) 1 it' acc env) R s') (λ_ _=>False) s) :
  codeAny (model prog w) A (.compStart (.ListComp elt [g₁,⟨target,iter,ifs,0⟩] scope pos) 1 it acc env) R s:=by
 refine codeAny_of_tree ?_;show wpAny _ _ ((compStart (.ListComp elt [g₁,⟨target,iter,ifs,0⟩] scope pos) 1 it acc env).onRaise (λx=>do noteFrame x env;standAt theWindowsPlace)) _ _ s;refine wpAny_notedAt ?_;unfold compStart;show wpAny _ _ (ask >>= _) _ _ s;refine aA (wpAny_askSetting (wpAny_ite ?_))
 split
 ·first
   |exact aA (aP (aP (And.intro rfl h0)))
   |exact aP (And.intro rfl h0)
 ·first
   |exact aA (zc (aA (ug (aA (gb h (λit' s' h'=>aP (And.intro rfl h')) λ_ _ x=>x.elim)))))
   |(refine aA (zc ?_);show wpAny _ _ (standAt iter.pos >>= _) _ _ s;exact aA (ug (aA (gb h (λit' s' h'=>aP (And.intro rfl h')) λ_ _ x=>x.elim))))
def Ru(g:TG)(tt:TT)(te:TE)(D:Addr)(aZ:It)(Z:St)(H:Hp)(Nx:St->Hp->Prop):Prop:=∃W:Nat->Nat->St->Hp->Prop,(∃m,W 0 m Z H)/\∀i m Z' H',W i m Z' H'->
 (aZ.stop i H'/\Nx Z' H')\/(aZ.go i H'/\∃N:St->Hp->Prop,(∀Z2 H2,N Z2 H2->∃m',m'<m/\W (i+1) m' Z2 H2)/\∀x H2,aZ.uD i H' x H2->g x Z' H2 λZ3 H3=>tt Z3 H3 λok H4=>
  if ok=true then te Z3 H4 λy H5=>∃ys,H5 D=some (.lst ys)/\ys.length<sizeLine/\N Z3 (upd H5 D (.lst (ys++[y]))) else N Z3 H4)
theorem zkj{Y:Cx}{elt tg iter:Expr}{ifs:List Expr}{g₁:Comprehension}{scope:Scope}{pos:Pos}{g:TG}{tt:TT}{te:TE}(hc:Y.aj=true)(M9:Y.xe=λ_ _=>False)(tgt:PG Y tg g)(Iw:EY Y ifs tt)(el:PE Y elt te)
  {ao:List (Addr×Obj)} {s:Shared} {Z:St} {H:Hp} {D it:Addr} {fp:List Addr} {tn:Nat->Heap->Prop} {aZ:It} {Nx:St->Hp->Prop} (I:Inv Y ao Z H s) (T:Turn Y.prog Y.w Y.K tg aZ fp it tn) (st:tn 0 s.heap) (f:∀b∈fp,fO Y ao H b) (h:Ru g tt te D aZ Z H Nx)
  {R:Result->Shared->Prop} (k:∀s' Z' H',Inv Y ao Z' H' s'->Nx Z' H'->R (.ok .next) s') :
  codeAny (model Y.prog Y.w) Y.A (.compStart (.ListComp elt [g₁,⟨tg,iter,ifs,0⟩] scope pos) 1 (.ref it) (.ref D) Y.env) R s:=by
 obtain⟨W,⟨m0,w0⟩,turn⟩:=h;have fY:∀{H':Hp},(∀b∈fp,H' b=none)->∀b∈fp,fO Y ao H' b:=λ{H'} z b hb=>⟨z b hb,(f b hb).2⟩;have loop:codeAny (model Y.prog Y.w) Y.A (.compLoop (.ListComp elt [g₁,⟨tg,iter,ifs,0⟩] scope pos) 1 (.ref it) (.ref D) Y.env) R s:=by
  refine zjX (λn s'=>∃i Z' H',Inv Y ao Z' H' s'/\tn i s'.heap/\(∀b∈fp,H' b=none)/\W i n Z' H') ?_ m0 ⟨0,Z,H,I,st,λb hb=>(f b hb).1,w0⟩;rintro n s5 ⟨i,Z5,H5,jG,tR,vY,w5⟩;rcases turn i n Z5 H5 w5 with ⟨stop,q⟩|⟨go,Nn,hN,step⟩
  ·refine aQ (T.done Y rfl rfl rfl hc i ao s5 Z5 H5 _ jG (fY vY) tR stop) λr s6 ⟨hr,mR⟩=>?_;subst hr;exact k s6 Z5 H5 mR q
  ·refine aQ (T.item Y rfl rfl rfl hc i ao s5 Z5 H5 _ jG (fY vY) tR go) λr s6 ⟨u,hr,h6⟩=>?_;subst hr;refine aQ h6 λ_ s7 ⟨x,H7,uJ,r7,y7,uK,IK⟩=>?_;have oF:=uJ.pinned (fY IK) (T.obj _ _ uK);have a1:=tgt _ s7 Z5 H7 x u _ oF r7 (step x H7 y7);rw[M9] at a1;refine aQ a1 λ_ s8 ⟨Z8,H8,uL,q8⟩=>?_;have a2:=Iw _ s8 Z8 H8 _ uL q8;rw[M9] at a2;refine aQ a2 λok s9 ⟨H9,uM,q9⟩=>?_;have again:∀{H':Hp} {s':Shared},Inv Y (ao++i_ fp s7.heap) Z8 H' s'->Nn Z8 H'->∃m,m<n/\∃i Z' H',Inv Y ao Z' H' s'/\tn i s'.heap/\(∀b∈fp,H' b=none)/\W i m Z' H':=λ{H' s'} eU n'=>by
    obtain⟨m',hm,w'⟩:=hN Z8 H' n';refine⟨m',hm,i+1,Z8,H',eU.bZ,T.keep _ _ _ uK λb hb o e=>(eU.pin (b,o) (lg _ (lg _ (zy hb e)))).1,λb hb=>?_,w'⟩;obtain⟨o,e,d⟩:=T.obj _ _ uK b hb;exact(eU.pin (b,o) (lg _ (lg _ (zy hb e)))).2.1
   cases ok with
   |false=>
    rw[if_neg RB] at q9 ⊢;exact again uM q9
   |true=>
    rw[if_pos rfl] at q9 ⊢;have a3:=el _ s9 Z8 H9 _ uM q9;rw[M9] at a3;refine aQ a3 λv M7 ⟨y,Ro,uN,r10,ys,BP,hz,Rp⟩=>?_;have a4:=Q7 (X:=Y) _ M7 Z8 Ro (.ref D) [y] (.ref D) [v] (λ_ H'=>Nn Z8 H') uN rfl (.cons r10 .nil) ⟨D,ys,y,rfl,rfl,BP,hz,Rp⟩;rw[M9] at a4;exact aQ a4 λ_ X3 ⟨_,X4,oG,_,Rq⟩=>again oG Rq
 exact za1 loop (T.self _ 0 _ _ _ st loop)
def zB(ZY:St->St)(g₁:TG)(wi₂:TI)(g:TG)(tt:TT)(te:TE)(aZ:It)(Z:St)(H:Hp)(Q:VK):Prop:=∀D,H D=none->∃W:Nat->Nat->St->Hp->Prop,(∃m,W 0 m (ZY Z) (upd H D (.lst [])))/\∀i m Z' H',W i m Z' H'->
 (aZ.stop i H'/\Q (.ref D) H')\/(aZ.go i H'/\∃N:St->Hp->Prop,(∀Z2 H2,N Z2 H2->∃m',m'<m/\W (i+1) m' Z2 H2)/\∀x H2,aZ.uD i H' x H2->g₁ x Z' H2 λZ3 H3=>wi₂ Z3 H3 λaZ₂ H5=>Ru g tt te D aZ₂ Z3 H5 N)
section
variable {X:Cx}{elt tg iter tg₂ iter₂:Expr}{ifs₂:List Expr}{scope:Scope}{pos spos py:Pos}{N:List Str}{ZY:St->St}{wi wi₂:TI}{g g₁:TG}{tt:TT}{te:TE}{i:Nat}{y:Str}
structure j9(X:Cx)(elt tg tg₂ iter₂:Expr)(ifs₂:List Expr)(scope:Scope)(N:List Str)(g₁:TG)(wi₂:TI)(g:TG)(tt:TT)(te:TE):Prop where
 tgt₁:∀cl C s3 H3 fp ao,PG (X.blk scope cl N C s3 H3 fp ao) tg g₁
 it:∀cl C s3 H3 fp ao,PI (X.blk scope cl N C s3 H3 fp ao) tg₂ iter₂ wi₂
 tgt:∀cl C s3 H3 fp ao,PG (X.blk scope cl N C s3 H3 fp ao) tg₂ g
 Iw:∀cl C s3 H3 fp ao,EY (X.blk scope cl N C s3 H3 fp ao) ifs₂ tt
 el:∀cl C s3 H3 fp ao,PE (X.blk scope cl N C s3 H3 fp ao) elt te
theorem X5(hc:X.aj=true)(B:b_ X.env.scope scope)(P:j9 X elt tg tg₂ iter₂ ifs₂ scope N g₁ wi₂ g tt te)(hs₂:∀env x,foldedSetIterable iter₂ env x=pure x)(hl:∀Z,(ZY Z).length=N.length)
  (hZ:∀(Z:St) (i:Nat) (x:Str) (v:V),N[i]?=some x->(ZY Z)[i]?=some (some v)->scope.names.lookup x=some .free/\∃j:Nat,X.N[j]?=some x/\Z[j]?=some (some v))
  {ao:List (Addr×Obj)} {s:Shared} {Z:St} {H:Hp} {Q:VK} {it:Addr} {fp:List Addr} {tn:Nat->Heap->Prop} {aZ:It} (I:Inv X ao Z H s) (T:Turn X.prog X.w X.K tg aZ fp it tn) (st:tn 0 s.heap) (f:∀b∈fp,fO X ao H b) (h:zB ZY g₁ wi₂ g tt te aZ Z H Q)
  {cl:List (Str×Addr)} (c1:∀x c,cl.lookup x=some c->X.env.cells.lookup x=some c) (c2:∀x∈scope.names,x.2=.free->∃c,cl.lookup x.1=some c) {R:Value->Addr->Result->Shared->Prop} {E:Value->Shared->Prop}
  (k:∀D C s' H',Inv X ao Z H' s'->X.s₀.heap.objs.size<=C->H' C=none->C≠X.env.locals->(∀x c,X.env.cells.lookup x=some c->c≠C)->(∀p∈X.pn++ao,p.1≠C)->(∃m,s'.heap.Ns C m)->Q (.ref D) H'->R (.ref D) C (.ok .next) s') :
  wpAny (model X.prog X.w) X.A (newList []) (λacc s₃=>wpAny (model X.prog X.w) X.A (newFunctionEnv scope X.env.globals cl [] X.env.qual none .none (some X.env)) (λcenv s₄=>
   codeAny (model X.prog X.w) X.A (.compStart (.ListComp elt [⟨tg,iter,[],0⟩,⟨tg₂,iter₂,ifs₂,0⟩] scope pos) 0 (.ref it) acc {cenv with scope:=relabel scope X.env}) (R acc cenv.locals) s₄) E s₃) E s:=by
 refine tO ?_;have hD:H s.heap.objs.size=none:=I.hok.fresh (cj _);have I3:Inv X ao Z (upd H s.heap.objs.size (.lst [])) {s with heap:=s.heap.push {cls:=.type "list",dict:=none,data:=.seq ([]:List Value).toArray}}:=
  I.laid (t':=s.toks) (λb u q=>cD _ q) (cj _) ⟨rR _,[],0,.nil,eN _ rfl⟩
 have f3:∀b∈fp,fO X ao (upd H s.heap.objs.size (.lst [])) b:=λb hb=>by
  obtain⟨a1,a2⟩:=f b hb;obtain⟨o,q,_⟩:=T.obj 0 _ st b hb;exact⟨by rw[bT (cY (bQ q))];exact a1,a2⟩
 have st3:tn 0 (s.heap.push {cls:=.type "list",dict:=none,data:=.seq ([]:List Value).toArray}):=T.keep _ _ _ st λb hb o q=>cD _ q;obtain⟨W,⟨m0,w0⟩,turn⟩:=h s.heap.objs.size hD;generalize Rn:({s with heap:=s.heap.push {cls:=.type "list",dict:=none,data:=.seq ([]:List Value).toArray}}:Shared)=s3 at *;have qd:tn 0 s3.heap:=by rw[<-Rn];exact st3
 generalize hH3:upd H s.heap.objs.size (.lst [])=H3 at *;refine Xz (λx c q=>by obtain⟨v,o,q1,_⟩:=I3.cell x c (c1 x c q);exact bQ q1) (λx y c a b=>I3.ok.inj x y c (c1 x c a) (c1 y c b)) λh1 fu hn kp CN=>?_;have BL:Inv (X.blk scope fu N s3.heap.objs.size s3 H3 fp ao) [] (ZY Z) H3 {s3 with heap:=h1}:=
  XH (t:=s3.toks) I3 B c1 c2 f3 (λb hb=>let ⟨o,q,_⟩:=T.obj 0 _ qd b hb;⟨o,q⟩) hn kp CN (hl Z) (hZ Z)
 have Iz:tn 0 h1:=T.keep _ _ _ qd λb hb o q=>kp b o q;have fY:∀{H':Hp},(∀b∈fp,H' b=none)->∀b∈fp,fO (X.blk scope fu N s3.heap.objs.size s3 H3 fp ao) [] H' b:=λ{H'} z b hb=>by
  obtain⟨a1,a2,a3,a4,a5,a6⟩:=f3 b hb;obtain⟨o,q,_⟩:=T.obj 0 _ qd b hb;refine⟨z b hb,cY (bQ q),λy=>(jm.mp (I3.jX b y)).elim a2 a3,.inl hb,λx c y=>?_,λp hp=>a6 p ?_⟩
  ·rcases CN.d1 x c y with ⟨q1,_⟩|⟨_,q1,_⟩
   ·exact a5 x c (c1 x c q1)
   ·exact λe=>absurd (bQ q) (by rw[<-e];exact Em.mpr (rP q1))
  have y:p∈(X.pn++ao)++[]:=hp;simpa using y
 have loop:codeAny (model X.prog X.w) X.A (.compLoop (.ListComp elt [⟨tg,iter,[],0⟩,⟨tg₂,iter₂,ifs₂,0⟩] scope pos) 0 (.ref it) (.ref s.heap.objs.size) (compEnvC scope fu s3.heap.objs.size X.env)) (R (.ref s.heap.objs.size) s3.heap.objs.size) {s3 with heap:=h1}:=by
  refine zhU (λn s'=>∃i Z' H',Inv (X.blk scope fu N s3.heap.objs.size s3 H3 fp ao) [] Z' H' s'/\tn i s'.heap/\(∀b∈fp,H' b=none)/\W i n Z' H') (hs₂ _) ?_ m0 ⟨0,ZY Z,H3,BL,Iz,λb hb=>(f3 b hb).1,w0⟩;rintro n s5 ⟨i,Z5,H5,jG,tR,vY,w5⟩;rcases turn i n Z5 H5 w5 with ⟨stop,q⟩|⟨go,Nx,hN,step⟩
  ·refine aQ (T.done (X.blk scope fu N s3.heap.objs.size s3 H3 fp ao) rfl rfl rfl hc i [] s5 Z5 H5 _ jG (fY vY) tR stop) λr s6 ⟨hr,mR⟩=>?_;subst hr;have JX:=XQ I3 f3 mR;refine k s.heap.objs.size s3.heap.objs.size s6 H5 JX I3.sz mR.free (pR I3.lt) (λx c y z=>?_) (λp hp z=>?_) ?_ q
   ·obtain⟨v,qc⟩:=I3.cell x c y;exact absurd qc.lt (by rw[z];exact pP _)
   ·exact absurd (bQ (I3.pin p hp).1) (by rw[z];exact pP _)
   ·obtain⟨m,hm,_⟩:=mR.loc;exact⟨m,hm⟩
  ·refine aQ (T.item (X.blk scope fu N s3.heap.objs.size s3 H3 fp ao) rfl rfl rfl hc i [] s5 Z5 H5 _ jG (fY vY) tR go) λr s6 ⟨u,hr,h6⟩=>?_;subst hr;refine aQ h6 λ_ s7 ⟨x,H7,uJ,r7,y7,uK,IK⟩=>?_;have oF:=uJ.pinned (fY IK) (T.obj _ _ uK);refine aQ (P.tgt₁ fu s3.heap.objs.size s3 H3 fp ao _ s7 Z5 H7 x u _ oF r7 (step x H7 y7)) λ_ s8 ⟨Z8,H8,uL,q8⟩=>?_;refine aQ (wpAny_tests_nil (env:=compEnvC scope fu s3.heap.objs.size X.env) (Q:=λok s'=>ok=true/\s'=s8) ⟨rfl,rfl⟩) λok s9 ⟨e9,e9'⟩=>?_;subst e9 e9';rw[if_pos rfl];refine aQ (P.it fu s3.heap.objs.size s3 H3 fp ao _ s9 Z8 H8 _ uL q8) λxv M7 h10=>aQ h10 λitv X3 h11=>?_;obtain⟨it₂,fp₂,tn₂,aZ₂,X4,Rw,oG,T₂,st₂,f₂,hq⟩:=h11;subst Rw;refine zkj (Y:=X.blk scope fu N s3.heap.objs.size s3 H3 fp ao) hc rfl (P.tgt fu s3.heap.objs.size s3 H3 fp ao) (P.Iw fu s3.heap.objs.size s3 H3 fp ao) (P.el fu s3.heap.objs.size s3 H3 fp ao) oG T₂ st₂ f₂ hq λs' Z' H' eU n'=>⟨rfl,?_⟩;obtain⟨m',hm,w'⟩:=hN Z' H' n';refine⟨m',hm,i+1,Z',H',eU.bZ,T.keep _ _ _ uK λb hb o e=>(eU.pin (b,o) (lg _ (lg _ (zy hb e)))).1,λb hb=>?_,w'⟩;obtain⟨o,e,d⟩:=T.obj _ _ uK b hb;exact(eU.pin (b,o) (lg _ (lg _ (zy hb e)))).2.1
 exact codeAny_compStart_list loop (T.self _ 0 _ _ _ Iz loop)
noncomputable def qe(wi:TI)(ZY:St->St)(g₁:TG)(wi₂:TI)(g:TG)(tt:TT)(te:TE):TE:=λZ H Q=>wi Z H λaZ H1=>zB ZY g₁ wi₂ g tt te aZ Z H1 Q
theorem zia(hc:X.aj=true)(B:b_ X.env.scope scope)(hi:PI X tg iter wi)(P:j9 X elt tg tg₂ iter₂ ifs₂ scope N g₁ wi₂ g tt te)(hs₂:∀env x,foldedSetIterable iter₂ env x=pure x)(hl:∀Z,(ZY Z).length=N.length)
  (hZ:∀(Z:St) (i:Nat) (x:Str) (v:V),N[i]?=some x->(ZY Z)[i]?=some (some v)->scope.names.lookup x=some .free/\∃j:Nat,X.N[j]?=some x/\Z[j]?=some (some v))
  (hs:∀x,foldedSetIterable iter X.env x=pure x:=by intro _;rfl):PE X (.ListComp elt [⟨tg,iter,[],0⟩,⟨tg₂,iter₂,ifs₂,0⟩] scope pos) (qe wi ZY g₁ wi₂ g tt te):=by
 intro ao s Z H Q I h;obtain⟨cl,oH,c1,c2⟩:=M8 I B;rw[eval_ListComp];refine Ld (use:=none) rfl hs oH B.kind B.loc (aQ (hi ao s Z H _ I h) λxv s1 h1=>aQ h1 λitv s2 h2=>?_);obtain⟨it,fp,tn,aZ,H2,e,I2,T,st2,f2,hq⟩:=h2;subst e;exact X5 hc B P hs₂ hl hZ I2 T st2 f2 hq c1 c2 (R:=λacc C=>compPost (model X.prog X.w) X.A X.xe none (EP X ao Z Q) acc C) λD C s' H' eU a b c d e ⟨m,hm⟩ q=>⟨m,hm,λh' sb=>⟨.ref D,H',M6 (Z':=Z) eU a b c d e sb,rfl,q⟩⟩
theorem zd4(hc:X.aj=true)(hN:X.N.Nodup)(sE:X.N[i]?=some y)(hx:Loc X.env.scope y)(hf:X.fn y=true\/X.env.scope.names.lookup y=some .local)(B:b_ X.env.scope scope)(hi:PI X tg iter wi)(P:j9 X elt tg tg₂ iter₂ ifs₂ scope N g₁ wi₂ g tt te)(hs₂:∀env x,foldedSetIterable iter₂ env x=pure x)(hl:∀Z,(ZY Z).length=N.length)
  (hZ:∀(Z:St) (i:Nat) (x:Str) (v:V),N[i]?=some x->(ZY Z)[i]?=some (some v)->scope.names.lookup x=some .free/\∃j:Nat,X.N[j]?=some x/\Z[j]?=some (some v))
  (uP:swapsWith (.ListComp elt [⟨tg,iter,[],0⟩,⟨tg₂,iter₂,ifs₂,0⟩] scope pos) (some (.Name y py)) spos.line X.env=pure true) (hs:∀x,foldedSetIterable iter X.env x=pure x:=by intro _;rfl) :
  PS X (.Assign [.Name y py] (.ListComp elt [⟨tg,iter,[],0⟩,⟨tg₂,iter₂,ifs₂,0⟩] scope pos) spos) (wW (qe wi ZY g₁ wi₂ g tt te) (dO i)):=by
 intro ao s Z H D I h;obtain⟨cl,oH,c1,c2⟩:=M8 I B;rw[exec_Assign_Name_used _ _ _ _ uP];refine aA (ug (aA ?_));show wpAny _ X.A (do let _ <-comprehension (.ListComp elt [⟨tg,iter,[],0⟩,⟨tg₂,iter₂,ifs₂,0⟩] scope pos) scope X.env _ (newList []) false (eval iter X.env) (some (assign (.Name y py) X.env))) _ _ s;refine aA (Ld (use:=some (assign (.Name y py) X.env)) rfl hs oH B.kind B.loc (aQ (hi ao s Z H _ I h) λxv s1 h1=>aQ h1 λitv s2 h2=>?_));obtain⟨it,fp,tn,aZ,H2,e,I2,T,st2,f2,hq⟩:=h2;subst e;refine X5 hc B P hs₂ hl hZ I2 T st2 f2 hq c1 c2 (R:=λacc C=>compPost (model X.prog X.w) X.A X.xe (some (assign (.Name y py) X.env)) _ acc C) λD' C s' H' eU a b c d e ⟨m,hm⟩ q=>?_;show wpAny _ _ (assign (.Name y py) X.env (.ref D')) _ _ s';refine wpAny_assign_Name (Qe (v:=.ref D') eU hN sE hx rfl (λs5 jG ⟨ad,sb,Rr⟩=>?_) hf);have nC:C≠ad:=by
  rcases Rr with z|z
  ·rw[z];exact c
  ·exact(d y ad z).symm
 obtain⟨ol,es,ep,e1,r1⟩:=hm;refine⟨m,⟨ol,es,ep,(sb.2 C nC).trans e1,r1⟩,λh' Rt=>aP (aP ⟨_,H',M6 (Z':=Z) jG a b c d e Rt,q⟩)⟩
end
end L2
namespace L2
open PySem PySem.Spec PyProof.Rows PySem.W
noncomputable def bF{α:Type}(lt:Nat->Nat->Option Bool):KasT α->Option α
 |.ret a=>some a
 |.ask i j k=>match lt i j with
  |some b=>bF lt (k b)
  |none=>none
theorem Rx{α:Type}{lt:Nat->Nat->Option Bool}{cmp:Nat->Nat->(Bool->Shared->Prop)->Shared->Prop}{Q:α->Shared->Prop}{s:Shared}(hc:∀i j b C,lt i j=some b->C b s->cmp i j C s){a:α}(q:Q a s):∀{t:KasT α},bF lt t=some a->t.kasWp cmp Q s
 |.ret a',h=>by
  unfold bF at h;cases h;exact q
 |.ask i j k,h=>by
  unfold bF at h;cases e:lt i j with
  |none=>rw[e] at h;cases h
  |some b=>
   rw[e] at h;exact hc i j b _ e (Rx hc q h)
noncomputable def dM(vs:List Value)(p:Array Nat):Array Value:=if vs.length<2 then vs.toArray else List.toArray (p.toList.map λi=>vs.getD i Value.none)
section
variable {prog:Program}{w:World}{A:Around}{E:Value->Shared->Prop}{s:Shared}{κ:SortKind}{lt:Nat->Nat->Option Bool}{p:Array Nat}
theorem zc0{a:Addr}{vs:List Value}{n:Nat}{P:PySem.Fin->Shared->Prop}(ho:s.heap.get? a=some (seqObj "list" vs.toArray n))(nO:vs.length<64)
  (hk:2<=vs.length->∀(s':Shared) (Q:SortKind->Shared->Prop),(∀b o,b≠a->s.heap.get? b=some o->s'.heap.get? b=some o)->Q κ s'->wpAny (model prog w) A (keyKind' vs.toArray) Q E s')
  (cL:2<=vs.length->∀(s':Shared) i j b C,(∀b o,b≠a->s.heap.get? b=some o->s'.heap.get? b=some o)->lt i j=some b->C b s'->kas_ask prog w A κ vs i j C s') (hr:2<=vs.length->bF lt (kas_sort vs.length)=some p) (IV:2<=vs.length->p.size=vs.length)
  (h:P (.done (.ret .none)) {s with heap:=sortedHeap s.heap a vs (dM vs p)}) :
  wpAny (model prog w) A (Builtin.«list.sort» ⟨[.ref a],[]⟩) P E s:=by
 rw[list_sort_plain];have ha:a<s.heap.objs.size:=bQ ho;refine aA (listItems_at ho rfl ?_);refine aA (Av ho rfl ?_ (by rw[fH,vR];lia) (rR _));obtain⟨e1,BR⟩ : ∃e1,(s.heap.update a (Obj.mapSeq λ_=>#[])).get? a=some (seqObj "list" #[] e1):=⟨_,get?_update_seq ho (λ_=>#[])⟩;refine aA (seqEpoch_at BR rfl ?_);refine aA (wpAny_newTuple ?_ (by show vs.length<=_;rw[vR];lia));refine aA (GK ?_ (rR _));refine pQ ?_;have keep:∀b o,b≠a->s.heap.get? b=some o->(((s.heap.update a (Obj.mapSeq λ_=>(#[]:Array Value))).push (seqObj "tuple" vs.toArray 0)).push (seqObj "list" #[] 0)).get? b=some o:=λb o nb e=>
  cD _ (cD _ ((yQ _ _ _ _ nb).trans e))
 have M_:(((s.heap.update a (Obj.mapSeq λ_=>(#[]:Array Value))).push (seqObj "tuple" vs.toArray 0)).push (seqObj "list" #[] 0)).get? a=some (seqObj "list" #[] e1):=by
  rw[DY _ _ _ (by rw[size_push',GC];exact cY (tQ ha)),DY _ _ _ (by rw[GC];exact cY ha)];exact BR
 show wpAny (model prog w) A _ P E {s with heap:=((s.heap.update a (Obj.mapSeq λ_=>#[])).push (seqObj "tuple" vs.toArray 0)).push (seqObj "list" #[] 0)};dsimp only;have hsz:vs.toArray.size=vs.length:=by simp
 by_cases h2:vs.toArray.size<2
 ·rw[if_pos h2,if_pos h2];refine aA (aP ?_);rw[StateT.run_pure];refine aA (aP ?_);dsimp only;refine aA (seqEpoch_at M_ rfl ?_);refine aA (Av M_ rfl ?_ (rR _) (by rw[Array.size_map];show (pairsOf vs).size<=_;rw[pairsOf_size,vR];lia));simp only[PK,rK,nW];have e:((vs.toArray.zip vs.toArray).map (·.2))=dM vs p:=by
   unfold dM;rw[if_pos (by rw[hsz] at h2;exact h2)];apply Array.toList_inj.mp;simp[List.map_snd_zip]
  refine aP ?_;have h':=h;rw[<-e] at h';exact h'
 ·rw[if_neg h2,if_neg h2];have lU:2<=vs.length:=by lia
  refine aA (hk lU _ _ keep ?_);refine aA (gb (kat_run (κ:=κ) (ks:=vs) (vs:=vs) (G:=λp' s'=>p'=p/\s'={s with heap:=((s.heap.update a (Obj.mapSeq λ_=>#[])).push (seqObj "tuple" vs.toArray 0)).push (seqObj "list" #[] 0)})
   (Q:=λst' s'=>arrOf st'=p.map (kas_item (vs.toArray.zip vs.toArray))/\failedOf st'=none/\s'={s with heap:=((s.heap.update a (Obj.mapSeq λ_=>#[])).push (seqObj "tuple" vs.toArray 0)).push (seqObj "list" #[] 0)})
   rfl lU nO (λp' st' s' a1 a2 a3 a4=>⟨by rw[a2,a4.1],a3,a4.2⟩) (Rx (λi j b C hl hC=>cL lU _ i j b C keep hl hC) ⟨rfl,rfl⟩ (hr lU))) ?_ λ_ _ e=>e)
  rintro⟨⟨⟩,st'⟩ s' ⟨E_,hf,rfl⟩;dsimp only;have hout:=kat_snds (ks:=vs) (vs:=vs) rfl E_;have e:List.toArray (p.toList.map λi=>vs.getD i Value.none)=dM vs p:=by
   unfold dM;rw[if_neg gV]
  rw[hout,e];have X6:(dM vs p).size=vs.length:=by rw[<-e,fH,fZ,pL,IV lU]
  refine aA (seqEpoch_at M_ rfl ?_);refine aA (Av M_ rfl ?_ (rR _) (by rw[X6,vR];lia));rw[hf];simp only[PK,rK,nW];exact aP h
theorem Ry(hl:s.heap.IsList l vs.toArray)(nO:vs.length<64)
  (hk:2<=vs.length->∀(s':Shared) (Q:SortKind->Shared->Prop) E,(∀b o,s.heap.get? b=some o->s'.heap.get? b=some o)->Q κ s'->wpAny (model prog w) A.in1.in1 (keyKind' vs.toArray) Q E s')
  (cL:2<=vs.length->∀(s':Shared) i j b C,(∀b o,s.heap.get? b=some o->s'.heap.get? b=some o)->lt i j=some b->C b s'->kas_ask prog w A.in1.in1 κ vs i j C s') (hr:2<=vs.length->bF lt (kas_sort vs.length)=some p) (IV:2<=vs.length->p.size=vs.length)
  (h:Q (.ref (s.heap.objs.size+1)) {s with heap:=sortedAll s.heap vs (dM vs p)}) :
  wpAny (model prog w) A (call (.builtin "sorted") [.ref l]) Q E s:=by
 refine Calls.call_function_entry kind_sorted plain_sorted entry_sorted (args_sorted1 _) ?_;unfold Builtin.«sorted»;refine aA (m:=checkCount "sorted" 1 1 _) (aP ?_);refine aA (collect_list hl ?_ (by rw[vR];lia));refine aA (GK ?_ (by rw[vR];lia));have hsz:((s.heap.push (seqObj "list" #[] 0)).update s.heap.objs.size (Obj.mapSeq (·++vs.toArray))).objs.size=s.heap.objs.size+1:=by
  rw[GC,size_push']
 have Bf:(((s.heap.push (seqObj "list" #[] 0)).update s.heap.objs.size (Obj.mapSeq (·++vs.toArray))).push (seqObj "list" vs.toArray 0)).get? (s.heap.objs.size+1)=some (seqObj "list" vs.toArray 0):=by
  rw[<-hsz];exact eN _ rfl
 have keep:∀b o,s.heap.get? b=some o->(((s.heap.push (seqObj "list" #[] 0)).update s.heap.objs.size (Obj.mapSeq (·++vs.toArray))).push (seqObj "list" vs.toArray 0)).get? b=some o:=λb o q=>by
  have cL:b<s.heap.objs.size:=bQ q;rw[DY _ _ _ (by rw[hsz];exact cY (tQ cL)),yQ _ _ _ _ (cY cL),DY _ _ _ (cY cL)];exact q
 show wpAny _ _ _ _ _ {s with heap:=((s.heap.push (seqObj "list" #[] 0)).update s.heap.objs.size (Obj.mapSeq (·++vs.toArray))).push (seqObj "list" vs.toArray 0)};rw[hsz];have nn:∀b o,s.heap.get? b=some o->b≠s.heap.objs.size+1:=λb o e=>cY (tQ (bQ e));refine aA (pQ (yU slot_list_sort ⟨_,Bf,rfl⟩ entry_list_sort (zc0 (κ:=κ) (lt:=lt) (p:=p) Bf nO (λh2 s' Q' k q=>hk h2 s' Q' _ (λb o e=>k b o (nn b o e) (keep b o e)) q) (λh2 s' i j b C k e q=>cL h2 s' i j b C (λb o e=>k b o (nn b o e) (keep b o e)) e q) hr IV ⟨_,rfl,?_⟩) (args_list_sort _)));exact aP ⟨_,rfl,h⟩
end
noncomputable def lF:List V->List V->Option Bool
 |[],ys=>some (decide (0<ys.length))
 |_::_,[]=>some false
 |.int x::xs,.int y::ys=>if x=y then lF xs ys else some (decide (x<y))
 |_::_,_::_=>none
theorem zky{prog:Program}{w:World}{A:Around}{s:Shared}{fin:Bool}{C:Bool->Shared->Prop}{b:Bool}:∀{us ws:List V} {its jts:List Value} {i:Nat},Vals us its->Vals ws jts->lF us ws=some b->fin=decide (us.length<ws.length)->C b s->KatLex prog w A true fin C (its.zip jts) i s:=by
 intro us ws its jts i r1
 induction r1 generalizing ws jts i with
 |nil=>
  intro _ h hf hc;rw[List.zip_nil_left];unfold lF at h;cases h;rw[hf];exact kat_nil hc
 |@cons x u us its rx ri ih=>
  intro r2 h hf hc;cases r2 with
  |nil=>
   rw[List.zip_nil_right];unfold lF at h;cases h;rw[hf];exact kat_nil (by simpa using hc)
  |@cons y v ws jts ry rj=>
   rw[Gx];cases x with
   |int a=>
    cases y with
    |int c=>
     obtain⟨t,rfl⟩:=rx;obtain⟨t',rfl⟩:=ry;unfold lF at h;refine kat_cons (wpAny_eqBool_int ?_);by_cases e:a=c
     ·rw[if_pos e] at h;subst e;rw[D_];exact kat_yes (ih rj h (by rw[hf];simp) hc)
     ·rw[if_neg e] at h;cases h;rw[show (a==c)=false by simpa using e];refine kat_no ?_;by_cases hi:i=0
      ·subst hi;exact oneLt_int hc
      ·rw[show (true&&i==0)=false by simpa using hi];exact kat_one _ _ (wpAny_lt_int hc)
    |_=>cases h
   |_=>cases y<;>cases h
def uQ(K:W.Frag)(H:Hp)(ys:List V)(lt:Nat->Nat->Option Bool):Prop:=
 ((∀v∈ys,∃i,v=V.int i)/\∀i j b,lt i j=some b->∃x y,ys[i]?=some (.int x)/\ys[j]?=some (.int y)/\b=decide (x<y)) \/
 ((∀v∈ys,∃a i r,v=.ref a/\gP K H a (.int i::r))/\∀i j b,lt i j=some b->∃a c us ws,ys[i]?=some (.ref a)/\ys[j]?=some (.ref c)/\gP K H a us/\gP K H c ws/\lF us ws=some b)
noncomputable def fU(ys:List V)(p:Array Nat):List V:=if ys.length<2 then ys else p.toList.map λi=>ys.getD i .non
theorem X7(r:Vals ys its):∀l:List Nat,Vals (l.map λi=>ys.getD i .non) (l.map λi=>its.getD i Value.none)
 |[]=>.nil
 |i::l=>by
  refine .cons ?_ (X7 r l);cases e:ys[i]? with
  |some y=>
   obtain⟨u,e1,e2⟩:=r.get e;show RelV (ys.getD i .non) (its.getD i Value.none);rw[nF,nF,e,e1];exact e2
  |none=>
   have e1:its[i]?=none:=by rw[qK] at e ⊢;rw[<-r.length];exact e
   show RelV (ys.getD i .non) (its.getD i Value.none);rw[nF,nF,e,e1];rfl
theorem X8{ys:List V}{its:List Value}(r:Vals ys its)(p:Array Nat):Vals (fU ys p) (dM its p).toList:=by
 unfold fU dM;rw[r.length];by_cases h:its.length<2
 ·rw[if_pos h,if_pos h];exact r
 ·rw[if_neg h,if_neg h];exact X7 r p.toList
theorem zhf{ys:List V}{its:List Value}(r:Vals ys its):∀u∈its,∃v∈ys,RelV v u:=by
 induction r with
 |nil=>intro u hu;cases hu
 |cons h t ih=>
  intro u hu;rcases jm.mp hu with rfl|hu
  ·exact⟨_,lq,h⟩
  ·obtain⟨v,a,b⟩:=ih u hu;exact⟨v,gY _ a,b⟩
section
variable {X:Cx}
theorem X_{prog:Program}{w:World}{A:Around}{E:Value->Shared->Prop}{s:Shared}{its:List Value}{Q:SortKind->Shared->Prop}(h2:2<=its.length)(hi:∀u∈its,∃i t,u=Value.int i t)(q:Q oneType' s):wpAny (model prog w) A (keyKind' its.toArray) Q E s:=
 kas_kind (T:=.type "int") h2 (λv hv=>by obtain⟨i,t,rfl⟩:=hi v hv;exact .of_pure rfl) RB RB q
theorem zjS{K:W.Frag}{ao:List (Addr×Obj)}{s:Shared}{Z:St}{H:Hp}(I:Inv X ao Z H s){h':Heap}(k:∀b o,s.heap.get? b=some o->h'.get? b=some o):∀{ys:List V} {its:List Value},Vals ys its->(∀v∈ys,∃a i r,v=.ref a/\gP X.K H a (.int i::r))->∃fs:List Value,fs.length=its.length/\(∀f∈fs,∃i t,f=Value.int i t)/\KatTups h' its fs:=by
 intro ys its r0
 induction r0 with
 |nil=>exact λ_=>⟨[],rfl,(λf hf=>by cases hf),trivial⟩
 |@cons v u ys its r rs ih=>
  intro h;obtain⟨a,i,r',rfl,hq⟩:=h _ lq;obtain⟨fs,l,hf,kt⟩:=ih λv hv=>h v (gY _ hv);obtain⟨its',rv,⟨o,ho,hc,n,hd⟩,_⟩:=I.tuple hq;cases (show u=Value.ref a from r);cases rv with
  |cons ri rr=>
   obtain⟨t,rfl⟩:=ri;refine⟨Value.int i t::fs,by simp[l],λf hf'=>?_,KatTups.cons (k _ _ ho) hc hd Zaa kt⟩;rcases jm.mp hf' with rfl|z
   ·exact⟨i,t,rfl⟩
   ·exact hf f z
theorem zfD{prog:Program}{w:World}{A:Around}{E:Value->Shared->Prop}{s:Shared}{its fs:List Value}{Q:SortKind->Shared->Prop}(h2:2<=its.length)(hl:fs.length=its.length)(hi:∀u∈fs,∃i t,u=Value.int i t)(kt:KatTups s.heap its fs)(q:Q (tuples' true) s):wpAny (model prog w) A (keyKind' its.toArray) Q E s:=
 kat_kind (T:=.type "int") kt gV (λv hv=>by obtain⟨i,t,rfl⟩:=hi v hv;exact .of_pure rfl) RB q
theorem Fb{its:List Value}{i:Nat}{u:Value}(h:its[i]?=some u):its.getD i Value.none=u:=by rw[nF,h];rfl
theorem zdU:cZ X (.builtin "sorted") (λxs H Q=>∃l ys lt p,xs=[.ref l]/\cT X.K H l ys/\ys.length<64/\(2<=ys.length->uQ X.K H ys lt/\bF lt (kas_sort ys.length)=some p/\p.size=ys.length)/\∀r,H r=none->Q (.ref r) (upd H r (.lst (fU ys p)))):=by
 intro ao s Z H xs us Q I r h;obtain⟨l,ys,lt,p,rfl,hq,nO,hs,q⟩:=h;obtain⟨u,rfl,rx⟩:=vals1 r;cases rx;obtain⟨its,rv,pl,hz⟩:=I.list hq;have hlen:=rv.length;have fin:EP X ao Z Q (.ref (s.heap.objs.size+1)) {s with heap:=sortedAll s.heap its (dM its p)}:=by
  obtain⟨e,he⟩:=sortedAll_at s.heap its (dM its p);have hn:H (s.heap.objs.size+1)=none:=I.hok.fresh (wJ _);refine⟨.ref (s.heap.objs.size+1),_,I.laid (t':=s.toks) (λb u q=>sortedAll_old q) (wJ _) (show bI X.prog X.w _ _ _ (.lst (fU ys p)) from ⟨?_,(dM its p).toList,e,X8 rv p,by rw[Px];exact he⟩),rfl,q _ hn⟩;unfold fU;by_cases h2:ys.length<2
  ·rw[if_pos h2];exact hz
  ·rw[if_neg h2,fZ,pL,(hs gV).2.2];exact hz
 by_cases h2:2<=ys.length
 ·obtain⟨hS,hr,hp⟩:=hs h2;rcases hS with ⟨hI,cL⟩|⟨hT,cL⟩
  ·refine Ry (κ:=oneType') (lt:=lt) (p:=p) pl.isList gV (λlU s' Q' E' k q'=>X_ lU (λu hu=>?_) q') (λ_ s' i j b C k e hC=>?_) (λ_=>by rw[<-hlen];exact hr) (λ_=>by lia) fin
   ·obtain⟨v,hv,rr⟩:=zhf rv u hu;obtain⟨i,rfl⟩:=hI v hv;obtain⟨t,rfl⟩:=rr;exact⟨i,t,rfl⟩
   ·obtain⟨x,y,e1,e2,rfl⟩:=cL i j b e;obtain⟨u1,f1,g1⟩:=rv.get e1;obtain⟨u2,f2,g2⟩:=rv.get e2;obtain⟨t1,rfl⟩:=g1;obtain⟨t2,rfl⟩:=g2;show wpAny _ _ (keyLt' oneType' (its.getD i Value.none) (its.getD j Value.none)) C _ s';rw[Fb f1,Fb f2];exact kat_lt_int hC
  ·refine Ry (κ:=tuples' true) (lt:=lt) (p:=p) pl.isList gV (λlU s' Q' E' k q'=>?_) (λ_ s' i j b C k e hC=>?_) (λ_=>by rw[<-hlen];exact hr) (λ_=>by lia) fin
   ·obtain⟨fs,l1,hf,kt⟩:=zjS (K:=X.K) I k rv hT;exact zfD lU l1 hf kt q'
   ·obtain⟨a,c,us,ws,e1,e2,q1,q2,e3⟩:=cL i j b e;obtain⟨u1,f1,g1⟩:=rv.get e1;obtain⟨u2,f2,g2⟩:=rv.get e2;cases (show u1=Value.ref a from g1);cases (show u2=Value.ref c from g2);obtain⟨i1,r1,⟨o1,BR,hc1,n1,hd1⟩,_⟩:=I.tuple q1;obtain⟨i2,r2,⟨o2,p7,nJ,n2,hd2⟩,_⟩:=I.tuple q2;show wpAny _ _ (keyLt' (tuples' true) (its.getD i Value.none) (its.getD j Value.none)) C _ s';rw[Fb f1,Fb f2];refine kat_lt (k _ _ BR) hd1 (k _ _ p7) hd2 (zky r1 r2 e3 ?_ hC);rw[r1.length,r2.length];simp
 ·exact Ry (κ:=oneType') (lt:=lt) (p:=p) pl.isList gV (λlU=>absurd lU gV) (λlU=>absurd lU gV) (λlU=>absurd lU gV) (λlU=>absurd lU gV) fin
end
end L2
namespace L2
open PySem PySem.Spec PyProof.Rows PySem.W PySem.Calls
theorem Yb{α:Type}:∀{l:List (Str×α)} {f:Str} {u:α},(l.map (·.1)).Nodup->(f,u)∈l->l.lookup f=some u
 |(g,v)::r,f,u,hn,hm=>by
  rw[jo,wI] at hn;rw[pN];rcases jm.mp hm with e|hm
  ·cases e;simp
  ·have:f≠g:=λz=>hn.1 (by rw[<-z];exact rQ.mpr ⟨(f,u),hm,rfl⟩);rw[show (f==g)=false by simpa using this];exact Yb hn.2 hm
theorem zka{α:Type}{fs:List Str}{us:List α}{i:Nat}{f:Str}{u:α}(h1:fs[i]?=some f)(h2:us[i]?=some u):(f,u)∈fs.zip us:=by
 refine gH (i:=i) ?_;exact(List.getElem?_zip_eq_some (z:=(f,u))).mpr ⟨h1,h2⟩
structure XF(K:Frag)(C:Addr)(f:Str):Prop where
 ga:findIn K (.ref C) "__getattribute__"=some (some (.builtin "BaseException.__getattribute__"))
 gn:findIn K (.ref C) "__getattr__"=some none
 mb:mroIn K C (.type "BaseException")=some true
 no:findIn K (.ref C) f=some none
 hd:hasDictIn K C=true
end L2
namespace L2
open PySem PySem.Spec PyProof.Rows
section
variable {X:Cx}{ao:List (Addr×Obj)}{Z:St}{H:Hp}{s:Shared}{h':Heap}
theorem Inv.lV{t':Nat}{ch:List Addr}{a:Addr}{o:HO}(I:Inv X ao Z H s)(k:∀b u,b∉ch->s.heap.get? b=some u->h'.get? b=some u)(hf:∀b∈ch,fO X ao H b)(ha:s.heap.objs.size<=a)(new:bI X.prog X.w (upd H a o) h' a o) :
  Inv X ao Z (upd H a o) {s with heap:=h',toks:=t'}:=by
 have zx:∀b u,H b=some u->b∉ch:=λb u e z=>by rw[(hf b z).1] at e;cases e
 have hn:H a=none:=I.hok.fresh ha;have na:∀b u,H b=some u->b≠a:=λb u e z=>by rw[z,hn] at e;cases e
 have la:∀b u,s.heap.get? b=some u->b≠a:=λb u e=>cY (f9 (bQ e) ha);refine I.step (g':=s.gens) (d':=s.drawn) (ch:=ch) (λb hb=>?_) (λb o _ _ hc e _=>k b o hc e) (λb o _ _ hc e _=>⟨o.slots,k b o hc e⟩) (λb o' _ e n=>by rw[bT (la b o' e)];exact n)
  (λb o hc e=>⟨o,k b o hc e⟩) (λb xs e=>by rw[bT (na b _ e)];exact e) (λb o u e=>by rw[bT (na b _ e)];exact e) (λb ps e=>⟨#[],by rw[bT (na b _ e),e];simp,.nil⟩) (λm hm=>?_) (λb u e=>?_) I.bare
 ·obtain⟨f0,f1,f2,f3,f4,f5⟩:=hf b hb;exact⟨f3.imp id λz=>DK z,f1,f4,f5⟩
 ·obtain⟨o,es,ep,ho,r⟩:=hm;exact⟨o,es,ep,k _ o (λz=>(hf _ z).2.1 rfl) ho,r⟩
 ·by_cases z:b=a
  ·subst z;rw[iD] at e;cases e;exact new
  ·rw[bT z] at e;refine(I.hok b u e).stay (λc v hc q=>k c v ?_ q) (λc q=>by rw[bT (na c _ q)];exact q) λc _ q=>by rw[bT (na c _ q)];exact q
   rcases hc with y|y
   ·rw[y];exact zx b u e
   ·exact zx c _ y
theorem Inv.qX{t':Nat}{ch:List Addr}(I:Inv X ao Z H s)(k:∀b u,b∉ch->s.heap.get? b=some u->h'.get? b=some u)(hf:∀b∈ch,fO X ao H b):Inv X ao Z H {s with heap:=h',toks:=t'}:=by
 have zx:∀b u,H b=some u->b∉ch:=λb u e z=>by rw[(hf b z).1] at e;cases e
 refine I.step (g':=s.gens) (d':=s.drawn) (ch:=ch) (λb hb=>?_) (λb o _ _ hc e _=>k b o hc e) (λb o _ _ hc e _=>⟨o.slots,k b o hc e⟩) (λ_ _ _ _ n=>n)
  (λb o hc e=>⟨o,k b o hc e⟩) (λ_ _ e=>e) (λ_ _ _ e=>e) (λb ps e=>⟨#[],by rw[e];simp,.nil⟩) (λm hm=>?_) (λb u e=>?_) I.bare
 ·obtain⟨f0,f1,f2,f3,f4,f5⟩:=hf b hb;exact⟨f3.imp id λz=>DK z,f1,f4,f5⟩
 ·obtain⟨o,es,ep,ho,r⟩:=hm;exact⟨o,es,ep,k _ o (λz=>(hf _ z).2.1 rfl) ho,r⟩
 ·refine(I.hok b u e).stay (λc v hc q=>k c v ?_ q) (λ_ q=>q) λ_ _ q=>q;rcases hc with y|y
  ·rw[y];exact zx b u e
  ·exact zx c _ y
end
structure lW(prog:Program)(w:World)(it src:Addr)(st:Nat->Heap->Prop)(its:Array Value):Prop where
 item:∀(A:Around) (E:Value->Shared->Prop) (s:Shared) (i:Nat) (x:Value) (Q:Value->Shared->Prop),st i s.heap->its[i]?=some x->(∀h',st (i+1) h'->Heap.SameBut it s.heap h'->Q x {s with heap:=h'})->wpAny (model prog w) A (Builtin.SmallTypes.nextOf (.ref it)) Q E s
 fin:∀(A:Around) (E:Value->Shared->Prop) (s:Shared) (i:Nat) (Q:Value->Shared->Prop),A.handled=none->st i s.heap->its[i]?=none->(∀h' e,Heap.ExtBut it s.heap h'->(∃o,h'.get? e=some o/\o.cls=.type "StopIteration")->E (.ref e) {s with heap:=h'})->wpAny (model prog w) A (Builtin.SmallTypes.nextOf (.ref it)) Q E s
 keep:∀i h h',st i h->(∀b o,b=it\/b=src->h.get? b=some o->h'.get? b=some o)->st i h'
theorem lW.list(tU:l≠it):lW prog w it l (λi h=>h.IsListIter it l i/\h.IsList l its) its where
 item:=λA E s i x Q ⟨h1,h2⟩ hx q=>wpAny_nextOf_list_item h1 h2 hx λh' a sb=>q h' ⟨a,h2.at λo e=>(sb.2 l tU).trans e⟩ sb
 fin:=λA E s i Q hh ⟨h1,h2⟩ hx q=>wpAny_nextOf_list_end hh h1 h2 hx q
 keep:=λi h h' ⟨h1,h2⟩ k=>⟨h1.at λo e=>k it o (.inl rfl) e,h2.at λo e=>k l o (.inr rfl) e⟩
theorem Yc(l:Addr):¬((Value.ref l==Value.none)=true):=λz=>by cases (show false=true from z)
theorem IsTupleIter.at'{h h':Heap}{it l:Addr}{i:Nat}(x:h.IsTupleIter it l i)(k:∀o,h.get? it=some o->h'.get? it=some o):h'.IsTupleIter it l i:=by
 obtain⟨o,e,r⟩:=x;exact⟨o,k o e,r⟩
theorem IsTuple.at'{h h':Heap}{l:Addr}{xs:Array Value}(x:h.IsTuple l xs)(k:∀o,h.get? l=some o->h'.get? l=some o):h'.IsTuple l xs:=by
 obtain⟨o,e,r⟩:=x;exact⟨o,k o e,r⟩
section
variable {prog:Program}{w:World}{A:Around}{E:Value->Shared->Prop}{s:Shared}{it l:Addr}{i:Nat}{its:Array Value}
theorem zfd{x:Value}{Q:Value->Shared->Prop}(hi:s.heap.IsTupleIter it l i)(hl:s.heap.IsTuple l its)(hx:its[i]?=some x)(q:∀h',h'.IsTupleIter it l (i+1)->Heap.SameBut it s.heap h'->Q x {s with heap:=h'}) :
  wpAny (model prog w) A (Builtin.SmallTypes.nextOf (.ref it)) Q E s:=by
 obtain⟨oi,ei,ci,di⟩:=id hi;obtain⟨ol,el,_,nl,dl⟩:=hl;unfold Builtin.SmallTypes.nextOf;refine aA (Ag (name:=Str.ofString "__next__") hi.typeIs Lb (yU Lb hi.typeIs F.entry_tuple_iterator_next ?_ (F.args_tuple_iterator_next_1 _)));show wpAny _ A.in1 (field (.ref it) 0 >>= _) _ E s;refine aA (mF ei di (x:=.ref l) rfl ?_);show wpAny _ A.in1 (if (Value.ref l==Value.none)=true then _ else _) _ E s;rw[if_neg (Yc l)];show wpAny _ A.in1 (field (.ref it) 1 >>= _) _ E s;refine aA (mF ei di (x:=.int i 0) rfl ?_);show wpAny _ A.in1 (seqItems? (.ref l) >>= _) _ E s;refine aA (rO el dl ?_);simp only[rN,hx];refine aA (GJ ei di Zaa (aP ⟨x,rfl,aP (q _ ⟨_,Ah _ ei (Li (yS di _)),(Obj.cls_mapFields ..).trans ci,?_⟩ (Heap.SameBut.update ..))⟩));rw[yS di];simp[rawInt]
theorem zgE{Q:Value->Shared->Prop}(hh:A.handled=none)(hi:s.heap.IsTupleIter it l i)(hl:s.heap.IsTuple l its)(hx:its[i]?=none)(q:∀h' e,Heap.ExtBut it s.heap h'->(∃o,h'.get? e=some o/\o.cls=.type "StopIteration")->E (.ref e) {s with heap:=h'}) :
  wpAny (model prog w) A (Builtin.SmallTypes.nextOf (.ref it)) Q E s:=by
 obtain⟨oi,ei,ci,di⟩:=id hi;obtain⟨ol,el,_,nl,dl⟩:=hl;unfold Builtin.SmallTypes.nextOf;refine aA (Ag (name:=Str.ofString "__next__") hi.typeIs Lb (yU Lb hi.typeIs F.entry_tuple_iterator_next ?_ (F.args_tuple_iterator_next_1 _)));show wpAny _ A.in1 (field (.ref it) 0 >>= _) _ E s;refine aA (mF ei di (x:=.ref l) rfl ?_);show wpAny _ A.in1 (if (Value.ref l==Value.none)=true then _ else _) _ E s;rw[if_neg (Yc l)];show wpAny _ A.in1 (field (.ref it) 1 >>= _) _ E s;refine aA (mF ei di (x:=.int i 0) rfl ?_);show wpAny _ A.in1 (seqItems? (.ref l) >>= _) _ E s;refine aA (rO el dl ?_);simp only[rN,hx];refine aA (zc (aA (GJ ei di Zaa ?_)));show wpAny _ A.in1 (newExc (.type "StopIteration") [] >>= _) _ E _;refine aA ?_;simp only[newExc,newTuple];refine aA (tO (aA (m:=firstArgMember _ _) (Ek (a:=Value.none) (by first|rfl|(simp only[firstArgMember];rfl)) (tO ?_ (by size_fits)))) (by size_fits));simp only[raiseNew];refine aA (wpAny_handled ?_);rw[show A.in1.handled=none from hh];exact aA (aP (wpAny_throw (q _ _ (((Heap.SameBut.update ..).extBut.push _).push _) ⟨_,eN _ rfl,rfl⟩)))
end
theorem lW.tuple{prog:Program}{w:World}{it l:Addr}{its:Array Value}(tU:l≠it):lW prog w it l (λi h=>h.IsTupleIter it l i/\h.IsTuple l its) its where
 item:=λA E s i x Q ⟨h1,h2⟩ hx q=>zfd h1 h2 hx λh' a sb=>q h' ⟨a,IsTuple.at' h2 λo e=>(sb.2 l tU).trans e⟩ sb
 fin:=λA E s i Q hh ⟨h1,h2⟩ hx q=>zgE hh h1 h2 hx q
 keep:=λi h h' ⟨h1,h2⟩ k=>⟨IsTupleIter.at' h1 λo e=>k it o (.inl rfl) e,IsTuple.at' h2 λo e=>k l o (.inr rfl) e⟩
structure mU(z TI TO i1 i2 l1 l2:Addr):Prop where
 zs:z≠TI/\z≠TO/\z≠i1/\z≠i2/\z≠l1/\z≠l2
 os:TO≠TI/\TO≠i1/\TO≠i2/\TO≠l1/\TO≠l2
 is:TI≠i1/\TI≠i2/\i1≠i2/\i1≠l1/\i1≠l2/\i2≠l1/\i2≠l2
section
variable {prog:Program}{w:World}{A:Around}{E:Value->Shared->Prop}{s:Shared}{z TI TO i1 i2 l1 l2:Addr}{st1 st2:Nat->Heap->Prop}{xs ys:Array Value}{k:Nat}{a b:Value}
theorem zhp(N1:lW prog w i1 l1 st1 xs)(N2:lW prog w i2 l2 st2 ys)(D:mU z TI TO i1 i2 l1 l2)(hz:IsZip s.heap z TI TO .none)(RD:IsPair s.heap TI (.ref i1) (.ref i2))(RG:IsPair s.heap TO a b)
  (h1:st1 k s.heap) (h2:st2 k s.heap) (hx:xs[k]?=some x) (hy:ys[k]?=some y)
  (q:∀h',IsZip h' z TI TO (rawInt s.heap.objs.size)->IsPair h' TO x y->st1 (k+1) h'->st2 (k+1) h'->IsPair h' s.heap.objs.size x y->h'.objs.size=s.heap.objs.size+1->(∀c o,c≠z->c≠TO->c≠i1->c≠i2->s.heap.get? c=some o->h'.get? c=some o)->Q (some (.ref s.heap.objs.size)) {s with heap:=h'}) :
  wpAny (model prog w) A (pyNext (.ref z)) Q E s:=by
 obtain⟨⟨z1,z2,z3,z4,z5,z6⟩,⟨t1,t2,t3,t4,t5⟩,⟨j1,j2,j3,j4,j5,j6,j7⟩⟩:=D;have hT:s.TypeIs (.ref z) "zip":=⟨_,hz,rfl⟩;unfold pyNext;refine aA (Ej (Ag (name:=Str.ofString "__next__") hT Ly (yU Ly hT F.entry_zip_next ?_ (F.args_zip_next_1 _))));show wpAny _ A.in1 (field (.ref z) 2 >>= _) _ _ s;refine aA (mF hz rfl (x:=.bool false) rfl ?_);show wpAny _ A.in1 (field (.ref z) 3 >>= _) _ _ s;refine aA (mF hz rfl (x:=.ref TI) rfl (aA (rO RD rfl ?_)));show wpAny _ A.in1 (Builtin.SmallTypes.ownedTupleIsFree (.ref z) >>= _) _ _ s;refine aA ?_;unfold Builtin.SmallTypes.ownedTupleIsFree;refine aA (mF hz rfl (x:=.none) rfl (aP ?_));simp only[if_true];refine aA (zc (aA (mF hz rfl (x:=.ref TO) rfl (aA (DR hz Zaa λha za sa=>aA ?_)))))
 replace za:IsZip ha z TI TO .ellipsis:=za
 simp only[List.zipIdx_cons,List.zipIdx_nil,Eh,LC];refine aA (aA (wpAny_onRaise ?_));show wpAny _ A.in1 (Builtin.SmallTypes.nextOf (.ref i1) >>= _) _ _ _;refine aA (N1.item _ _ {s with heap:=ha} k x _ (N1.keep _ _ _ h1 λc o hc e=>sa.extBut c o (by rcases hc with rfl|rfl;exact z3.symm;exact z5.symm) e) hx λhb Yd sb=>aP ?_);have tb:IsPair hb TO a b:=sb.extBut _ _ t2 (sa.extBut _ _ z2.symm RG);refine aA (rO tb rfl (aA (Py tb λhc tc sc=>aA (yZ (aP ?_)))))
 replace tc:IsPair hc TO x b:=tc
 refine aA (aA (wpAny_onRaise ?_));show wpAny _ A.in1 (Builtin.SmallTypes.nextOf (.ref i2) >>= _) _ _ _;have k2:st2 k hc:=N2.keep _ _ _ h2 λc o lE e=>by
  rcases lE with rfl|rfl
  ·exact sc.extBut _ _ t3.symm (sb.extBut _ _ j3.symm (sa.extBut _ _ z4.symm e))
  ·exact sc.extBut _ _ t5.symm (sb.extBut _ _ j5.symm (sa.extBut _ _ z6.symm e))
 have k1:st1 (k+1) hc:=N1.keep _ _ _ Yd λc o lE e=>by
  rcases lE with rfl|rfl
  ·exact sc.extBut _ _ t2.symm e
  ·exact sc.extBut _ _ t4.symm e
 refine aA (N2.item _ _ {s with heap:=hc} k y _ k2 hy λhd sd2 sd=>aP ?_);have td:IsPair hd TO x b:=sd.extBut _ _ t3 tc;refine aA (rO td rfl (aA (Py td λhe te se=>aA (yZ (aP (aP ?_))))))
 replace te:IsPair he TO x y:=te
 refine aA (rO te rfl (aA (wpAny_newTuple ?_)));have size:he.objs.size=s.heap.objs.size:=by rw[se.1,sd.1,sc.1,sb.1,sa.1]
 have ze:IsZip he z TI TO .ellipsis:=se.extBut _ _ z2 (sd.extBut _ _ z4 (sc.extBut _ _ z2 (sb.extBut _ _ z3 za)));have kept:∀c o,c≠z->c≠TO->c≠i1->c≠i2->s.heap.get? c=some o->he.get? c=some o:=λc o c1 c2 c3 c4 e=>se.extBut _ _ c2 (sd.extBut _ _ c4 (sc.extBut _ _ c2 (sb.extBut _ _ c3 (sa.extBut _ _ c1 e))));have e1:st1 (k+1) he:=N1.keep _ _ _ k1 λc o lE e=>by
  rcases lE with rfl|rfl
  ·exact se.extBut _ _ t2.symm (sd.extBut _ _ j3 e)
  ·exact se.extBut _ _ t4.symm (sd.extBut _ _ j6.symm e)
 have e2:st2 (k+1) he:=N2.keep _ _ _ sd2 λc o lE e=>by
  rcases lE with rfl|rfl
  ·exact se.extBut _ _ t3.symm e
  ·exact se.extBut _ _ t5.symm e
 show wpAny _ A.in1 (Builtin.SmallTypes.ownedTupleHandOut (.ref z) (.ref he.objs.size) >>= _) _ _ _;refine aA ?_;unfold Builtin.SmallTypes.ownedTupleHandOut;have zf:IsZip (he.push {cls:=.type "tuple",data:=.seq #[x,y]}) z TI TO .ellipsis:=cD _ ze;refine aA (DR zf Zaa λhg zg sg=>DR zg Zaa λhh zh sh=>aP ⟨_,rfl,aP ?_⟩)
 replace zh:IsZip hh z TI TO (rawInt he.objs.size):=zh
 have up:∀c o,c≠z->he.get? c=some o->hh.get? c=some o:=λc o c1 e=>sh.extBut _ _ c1 (sg.extBut _ _ c1 (cD _ e));have lz:z<he.objs.size:=bQ ze;have tn:IsPair hh he.objs.size x y:=sh.extBut _ _ (pR lz) (sg.extBut _ _ (pR lz) (eN _ rfl));have sz:hh.objs.size=he.objs.size+1:=by rw[sh.1,sg.1,vQ]
 rw[size] at zh tn sz;show Q (some (.ref he.objs.size)) _;rw[size];exact q hh zh (up _ _ z2.symm te) (N1.keep _ _ _ e1 λc o lE e=>up c o (by rcases lE with rfl|rfl;exact z3.symm;exact z5.symm) e) (N2.keep _ _ _ e2 λc o lE e=>up c o (by rcases lE with rfl|rfl;exact z4.symm;exact z6.symm) e) tn sz λc o c1 c2 c3 c4 e=>up c o c1 (kept c o c1 c2 c3 c4 e)
theorem ziR(hn:A.handled=none)(N1:lW prog w i1 l1 st1 xs)(N2:lW prog w i2 l2 st2 ys)(D:mU z TI TO i1 i2 l1 l2)(hz:IsZip s.heap z TI TO .none)(RD:IsPair s.heap TI (.ref i1) (.ref i2))(RG:IsPair s.heap TO a b)
  (h1:st1 k s.heap) (h2:st2 k s.heap) (hx:xs[k]?=none\/ys[k]?=none) (q:∀h',(∀c o,c≠z->c≠TO->c≠i1->c≠i2->s.heap.get? c=some o->h'.get? c=some o)->Q none {s with heap:=h'}):wpAny (model prog w) A (pyNext (.ref z)) Q E s:=by
 obtain⟨⟨z1,z2,z3,z4,z5,z6⟩,⟨t1,t2,t3,t4,t5⟩,⟨j1,j2,j3,j4,j5,j6,j7⟩⟩:=D;have hT:s.TypeIs (.ref z) "zip":=⟨_,hz,rfl⟩;have stop:∀(h':Heap) (e:Addr),(∀c o,c≠z->c≠TO->c≠i1->c≠i2->s.heap.get? c=some o->h'.get? c=some o)->(∃o,h'.get? e=some o/\o.cls=.type "StopIteration")->
   wpAny (model prog w) A (do if <-isInstance (.ref e) (.type "StopIteration") then pure none else throw (.ref e):Sem (Option Value)) Q E {s with heap:=h'}:=λh' e kp ⟨o,ho,hc⟩=>
  aA (Lx (T:="StopIteration") (b:=true) ⟨o,ho,hc⟩ isSubtype_stop (aP (q h' kp)))
 unfold pyNext;refine aA (Ej (Ag (name:=Str.ofString "__next__") hT Ly (yU Ly hT F.entry_zip_next ?_ (F.args_zip_next_1 _))));show wpAny _ A.in1 (field (.ref z) 2 >>= _) _ _ s;refine aA (mF hz rfl (x:=.bool false) rfl ?_);show wpAny _ A.in1 (field (.ref z) 3 >>= _) _ _ s;refine aA (mF hz rfl (x:=.ref TI) rfl (aA (rO RD rfl ?_)));show wpAny _ A.in1 (Builtin.SmallTypes.ownedTupleIsFree (.ref z) >>= _) _ _ s;refine aA ?_;unfold Builtin.SmallTypes.ownedTupleIsFree;refine aA (mF hz rfl (x:=.none) rfl (aP ?_));simp only[if_true];refine aA (zc (aA (mF hz rfl (x:=.ref TO) rfl (aA (DR hz Zaa λha za sa=>aA ?_)))))
 replace za:IsZip ha z TI TO .ellipsis:=za
 simp only[List.zipIdx_cons,List.zipIdx_nil,Eh,LC];refine aA (aA (wpAny_onRaise ?_));show wpAny _ A.in1 (Builtin.SmallTypes.nextOf (.ref i1) >>= _) _ _ _;have ka:st1 k ha:=N1.keep _ _ _ h1 λc o hc e=>sa.extBut c o (by rcases hc with rfl|rfl;exact z3.symm;exact z5.symm) e;cases ex:xs[k]? with
 |none=>
  refine aA (N1.fin _ _ {s with heap:=ha} k _ hn ka ex λhb e sb se=>?_);obtain⟨oe,ho,hc⟩:=se;have zb:IsZip hb z TI TO .ellipsis:=sb _ _ z3 za;have ne:e≠z:=λy=>by subst y;rw[zb] at ho;cases ho;simp at hc
  exact DR zb Zaa λhd _ sd=>stop hd e (λc o c1 _ c3 _ y=>sd.extBut _ _ c1 (sb _ _ c3 (sa.extBut _ _ c1 y))) ⟨oe,sd.extBut _ _ ne ho,hc⟩
 |some x=>
  have ey:ys[k]?=none:=by
   rcases hx with y|y
   ·rw[ex] at y;cases y
   ·exact y
  refine aA (N1.item _ _ {s with heap:=ha} k x _ ka ex λhb Yd sb=>aP ?_);have tb:IsPair hb TO a b:=sb.extBut _ _ t2 (sa.extBut _ _ z2.symm RG);refine aA (rO tb rfl (aA (Py tb λhc tc sc=>aA (yZ (aP ?_)))));refine aA (aA (wpAny_onRaise ?_));show wpAny _ A.in1 (Builtin.SmallTypes.nextOf (.ref i2) >>= _) _ _ _;have k2:st2 k hc:=N2.keep _ _ _ h2 λc o lE e=>by
   rcases lE with rfl|rfl
   ·exact sc.extBut _ _ t3.symm (sb.extBut _ _ j3.symm (sa.extBut _ _ z4.symm e))
   ·exact sc.extBut _ _ t5.symm (sb.extBut _ _ j5.symm (sa.extBut _ _ z6.symm e))
  refine aA (N2.fin _ _ {s with heap:=hc} k _ hn k2 ey λhd e sd se=>?_);obtain⟨oe,ho,oH⟩:=se;have zd:IsZip hd z TI TO .ellipsis:=sd _ _ z4 (sc.extBut _ _ z2 (sb.extBut _ _ z3 za));have ne:e≠z:=λy=>by subst y;rw[zd] at ho;cases ho;simp at oH
  exact DR zd Zaa λhf _ sf=>stop hf e (λc o c1 c2 c3 c4 y=>sf.extBut _ _ c1 (sd _ _ c4 (sc.extBut _ _ c2 (sb.extBut _ _ c3 (sa.extBut _ _ c1 y))))) ⟨oe,sf.extBut _ _ ne ho,oH⟩
end
noncomputable def Ck:Bool->Heap->Addr->Array Value->Prop
 |true,h,l,xs=>h.IsList l xs
 |false,h,l,xs=>h.IsTuple l xs
noncomputable def Rk:Bool->Addr->Addr->Nat->Heap->Prop
 |true,it,l,i,h=>h.IsListIter it l i
 |false,it,l,i,h=>h.IsTupleIter it l i
noncomputable def Sk:Bool->W.Frag->Hp->Addr->List V->Prop
 |true,K,H,l,xs=>cT K H l xs
 |false,K,H,l,xs=>gP K H l xs
noncomputable def gJ:Bool->Addr->Obj
 |true,l=>{cls:=.type "list_iterator",data:=.fields #[.ref l,.int 0 0]}
 |false,l=>{cls:=.type "tuple_iterator",data:=.fields #[.ref l,.int 0 0]}
theorem lW.of(kd:Bool)(tU:l≠it):lW prog w it l (λi h=>Rk kd it l i h/\Ck kd h l its) its:=by
 cases kd
 ·exact lW.tuple tU
 ·exact lW.list tU
theorem Ck.keep(x:Ck kd h l xs)(k:∀o,h.get? l=some o->h'.get? l=some o):Ck kd h' l xs:=by
 cases kd
 ·exact IsTuple.at' x k
 ·exact Heap.IsList.at x k
theorem Rk.keep(x:Rk kd it l i h)(k:∀o,h.get? it=some o->h'.get? it=some o):Rk kd it l i h':=by
 cases kd
 ·exact IsTupleIter.at' x k
 ·exact Heap.IsListIter.at x k
theorem Rk.obj(x:Rk kd it l i h):∃o,h.get? it=some o/\∀v,o.data≠.cell v:=by
 cases kd
 ·obtain⟨o,e,c,d⟩:=x;exact⟨o,e,λv z=>by rw[d] at z;cases z⟩
 ·obtain⟨o,e,c,d⟩:=x;exact⟨o,e,λv z=>by rw[d] at z;cases z⟩
theorem Ck.lt(x:Ck kd h l xs):l<h.objs.size:=by
 cases kd
 ·obtain⟨o,e,_⟩:=x;exact bQ e
 ·obtain⟨o,e,_⟩:=x;exact bQ e
section
variable {prog:Program}{w:World}{A:Around}{E:Value->Shared->Prop}{s:Shared}
theorem Nb(c:Ck kd s.heap l xs)(q:Q (.ref s.heap.objs.size) {s with heap:=s.heap.push (gJ kd l)}):wpAny (model prog w) A (pyIter (.ref l)) Q E s:=by
 cases kd
 ·exact wpAny_pyIter_tuple c q
 ·exact Lq c q
end
noncomputable def zH(h:Heap)(k1 k2:Bool)(l1 l2:Addr):Heap:=((((h.push (gJ k1 l1)).push (gJ k2 l2)).push {cls:=.type "tuple",data:=.seq #[.ref h.objs.size,.ref (h.push (gJ k1 l1)).objs.size]}).push {cls:=.type "tuple",data:=.seq #[.none,.none]}).push
 {cls:=.type "zip",data:=.fields #[.none,.bool false,.bool false,.ref ((h.push (gJ k1 l1)).push (gJ k2 l2)).objs.size,.ref (((h.push (gJ k1 l1)).push (gJ k2 l2)).push {cls:=.type "tuple",data:=.seq #[.ref h.objs.size,.ref (h.push (gJ k1 l1)).objs.size]}).objs.size]}
theorem zhk(k1 k2:Bool)(l1 l2:Addr)(xs ys:Array Value):Meets (Builtin.«zip.__new__» ⟨[.type "zip",.ref l1,.ref l2],[]⟩) (λ_ R s=>Ck k1 s.heap l1 xs/\Ck k2 s.heap l2 ys /\
   R (.ok (.ret (.ref ((((s.heap.push (gJ k1 l1)).push (gJ k2 l2)).push {cls:=.type "tuple",data:=.seq #[.ref s.heap.objs.size,.ref (s.heap.push (gJ k1 l1)).objs.size]}).push {cls:=.type "tuple",data:=.seq #[.none,.none]}).objs.size))) {s with heap:=zH s.heap k1 k2 l1 l2}):=
 .of_wp λprog w A R s h=>by
  obtain⟨hp,g,d,tk,os⟩:=s;obtain⟨c1,c2,h⟩:=h;have hsub:=sub_zip;have C1:Ck k1 (Shared.heap ⟨hp,g,d,tk,os⟩) l1 xs:=c1;have C2:Ck k2 (Shared.heap ⟨hp.push (gJ k1 l1),g,d,tk,os⟩) l2 ys:=c2.keep λo e=>cD _ e
  wp_walk using Nb C1,Nb C2
  exact⟨_,rfl,h⟩
section
variable {prog:Program}{w:World}{A:Around}{E:Value->Shared->Prop}{s:Shared}
theorem zj3(c1:Ck k1 s.heap l1 xs)(c2:Ck k2 s.heap l2 ys)
  (h:∀h',IsZip h' (s.heap.objs.size+4) (s.heap.objs.size+2) (s.heap.objs.size+3) .none->IsPair h' (s.heap.objs.size+2) (.ref s.heap.objs.size) (.ref (s.heap.objs.size+1))->IsPair h' (s.heap.objs.size+3) .none .none->
   Rk k1 s.heap.objs.size l1 0 h'->Rk k2 (s.heap.objs.size+1) l2 0 h'->(∀c o,s.heap.get? c=some o->h'.get? c=some o)->Q (.ref (s.heap.objs.size+4)) {s with heap:=h'}) :
  wpAny (model prog w) A (call (.type "zip") [.ref l1,.ref l2]) Q E s:=by
 refine callType_new F.called_zip RB (F.typeCall_zip_2 _ _) (F.newCall_zip_2 _ _) (λobj=>F.args_object_init_3 obj _ _) F.entry_zip_new (zhk k1 k2 l1 l2 xs ys) ⟨c1,c2,?_⟩;have n1:(s.heap.push (gJ k1 l1)).objs.size=s.heap.objs.size+1:=vQ ..;have n2:((s.heap.push (gJ k1 l1)).push (gJ k2 l2)).objs.size=s.heap.objs.size+2:=by rw[vQ,n1]
 have fr:∀kd l,(gJ kd l).isFreed=false:=λkd l=>by cases kd<;>rfl
 have rk:∀{h:Heap} {a:Addr} {kd:Bool} {l:Addr},h.get? a=some (gJ kd l)->Rk kd a l 0 h:=λ{h a kd l} e=>by
  cases kd
  ·exact⟨_,e,rfl,rfl⟩
  ·exact⟨_,e,rfl,rfl⟩
 have o1:(s.heap.push (gJ k1 l1)).get? s.heap.objs.size=some (gJ k1 l1):=eN _ (fr _ _);have o2:((s.heap.push (gJ k1 l1)).push (gJ k2 l2)).get? (s.heap.objs.size+1)=some (gJ k2 l2):=by
  have:=eN (s.heap.push (gJ k1 l1)) (o:=gJ k2 l2) (fr _ _);rw[n1] at this;exact this
 generalize hA:(s.heap.push (gJ k1 l1)).push (gJ k2 l2)=Nf at *;have eH:zH s.heap k1 k2 l1 l2=((Nf.push {cls:=.type "tuple",data:=.seq #[.ref s.heap.objs.size,.ref (s.heap.objs.size+1)]}).push {cls:=.type "tuple",data:=.seq #[.none,.none]}).push {cls:=.type "zip",data:=.fields #[.none,.bool false,.bool false,.ref (s.heap.objs.size+2),.ref (s.heap.objs.size+3)]}:=by
  unfold zH;rw[hA,n1,n2,vQ,n2]
 have n3:(Nf.push {cls:=.type "tuple",data:=.seq #[.ref s.heap.objs.size,.ref (s.heap.objs.size+1)]}).objs.size=s.heap.objs.size+3:=by rw[vQ,n2]
 have n4:((Nf.push {cls:=.type "tuple",data:=.seq #[.ref s.heap.objs.size,.ref (s.heap.objs.size+1)]}).push {cls:=.type "tuple",data:=.seq #[.none,.none]}).objs.size=s.heap.objs.size+4:=by rw[vQ,n3]
 rw[n1,n4];have g5:(zH s.heap k1 k2 l1 l2).get? (s.heap.objs.size+4)=some {cls:=.type "zip",data:=.fields #[.none,.bool false,.bool false,.ref (s.heap.objs.size+2),.ref (s.heap.objs.size+3)]}:=by
  rw[eH,<-n4];exact eN _ rfl
 have g4:(zH s.heap k1 k2 l1 l2).get? (s.heap.objs.size+3)=some {cls:=.type "tuple",data:=.seq #[.none,.none]}:=by
  rw[eH,<-n3];exact cD _ (eN _ rfl)
 have g3:(zH s.heap k1 k2 l1 l2).get? (s.heap.objs.size+2)=some {cls:=.type "tuple",data:=.seq #[.ref s.heap.objs.size,.ref (s.heap.objs.size+1)]}:=by
  rw[eH,<-n2];exact cD _ (cD _ (eN _ rfl))
 have up:∀c o,Nf.get? c=some o->(zH s.heap k1 k2 l1 l2).get? c=some o:=λc o e=>by rw[eH];exact cD _ (cD _ (cD _ e))
 refine⟨⟨_,g5,rfl⟩,h _ g5 g3 g4 (rk (up _ _ ?_)) (rk (up _ _ o2)) λc o e=>up _ _ ?_⟩
 ·rw[<-hA];exact cD _ o1
 ·rw[<-hA];exact cD _ (cD _ e)
end
noncomputable def RJ(K:W.Frag)(k1 k2:Bool)(l1 l2:Addr):It:=
 ⟨λi H=>∃xs ys x y,Sk k1 K H l1 xs/\Sk k2 K H l2 ys/\xs[i]?=some x/\ys[i]?=some y,
  λi H v H'=>∃a x y,H a=none/\v=.ref a/\H'=upd H a (.tup [x,y])/\(∀xs,Sk k1 K H l1 xs->xs[i]?=some x)/\∀ys,Sk k2 K H l2 ys->ys[i]?=some y,
  λi H=>∃xs ys,Sk k1 K H l1 xs/\Sk k2 K H l2 ys/\(xs.length<=i\/ys.length<=i)⟩
section
variable {X:Cx}{ao:List (Addr×Obj)}{Z:St}{H:Hp}{s:Shared}{kd:Bool}{l:Addr}{xs ys:List V}
theorem Inv.row(I:Inv X ao Z H s)(h:Sk kd X.K H l xs):∃its:List Value,Vals xs its/\Ck kd s.heap l its.toArray:=by
 cases kd
 ·obtain⟨its,rv,p,hz⟩:=I.tuple h;exact⟨its,rv,p⟩
 ·obtain⟨its,rv,p,hz⟩:=I.list h;exact⟨its,rv,p.isList⟩
theorem Inv.mV(I:Inv X ao Z H s)(h:Sk kd X.K H l xs)(h':Sk kd X.K H l ys):xs=ys:=by
 cases kd
 ·exact I.lR h h'
 ·exact I.oh h h'
end
theorem zhg{P:Program}{w:World}{K:W.Frag}{elts:List Expr}{kk:Nat}{pos:Pos}{k1 k2:Bool}{l1 l2 z TI TO i1 i2:Addr}(D:mU z TI TO i1 i2 l1 l2) :
  Turn P w K (.Tuple elts kk pos) (RJ K k1 k2 l1 l2) [z,TI,TO,i1,i2] z (λi h=>IsZip h z TI TO .none/\IsPair h TI (.ref i1) (.ref i2)/\(∃a b,IsPair h TO a b)/\Rk k1 i1 l1 i h/\Rk k2 i2 l2 i h) where
 mem:=by simp
 obj:=λi h ⟨a1,a2,⟨p,q,a3⟩,a4,a5⟩ b hb=>by
  have:b=z\/b=TI\/b=TO\/b=i1\/b=i2:=by simpa using hb
  rcases this with rfl|rfl|rfl|rfl|rfl
  ·exact⟨_,a1,λv y=>by cases y⟩
  ·exact⟨_,a2,λv y=>by cases y⟩
  ·exact⟨_,a3,λv y=>by cases y⟩
  ·exact a4.obj
  ·exact a5.obj
 keep:=λi h h' ⟨a1,a2,⟨p,q,a3⟩,a4,a5⟩ k=>⟨k z Zaa _ a1,k TI Zaa _ a2,⟨p,q,k TO Zaa _ a3⟩,a4.keep λo e=>k i1 Zaa o e,a5.keep λo e=>k i2 Zaa o e⟩
 item:=by
  intro X hP hw hK hc i ao s Z H E I hf ⟨a1,a2,⟨p,q,a3⟩,a4,a5⟩ hg;subst hP hw hK;obtain⟨xs,ys,x,y,Fd,Fe,hx,hy⟩:=hg;obtain⟨Ye,Ng,c1⟩:=I.row Fd;obtain⟨BW,Nh,c2⟩:=I.row Fe;obtain⟨u,hu,ru⟩:=Ng.get hx;obtain⟨v,hv,rv⟩:=Nh.get hy;have D':=D;obtain⟨⟨z1,z2,z3,z4,z5,z6⟩,⟨t1,t2,t3,t4,t5⟩,⟨j1,j2,j3,j4,j5,j6,j7⟩⟩:=D';refine zhp (lW.of k1 j4.symm) (lW.of k2 j7.symm) D a1 a2 a3 ⟨a4,c1⟩ ⟨a5,c2⟩ (x:=u) (y:=v) (by simpa using hu) (by simpa using hv) λh1 b1 b2 b3 b4 b5 b6 kp=>?_;refine⟨_,rfl,wpAny_letOwnedTupleGo_zip (s:={s with heap:=h1}) b1 λh2 e2 sb=>?_⟩;have RK:IsPair h2 s.heap.objs.size u v:=(sb.2 _ (pR (bQ a1))).trans b5;have kk:∀b o,b∉[z,TI,TO,i1,i2]->s.heap.get? b=some o->h2.get? b=some o:=λb o hb e=>(sb.2 b λy=>hb (by simp[y])).trans (kp b o (λy=>hb (by simp[y])) (λy=>hb (by simp[y])) (λy=>hb (by simp[y])) (λy=>hb (by simp[y])) e);have I2:=I.lV (t':=s.toks) (a:=s.heap.objs.size) (o:=.tup [x,y]) kk (λb hb=>hf b hb) (cj _) (show bI X.prog X.w _ h2 _ (.tup [x,y]) from ⟨by show 2<=sizeLine;decide,[u,v],.cons ru (.cons rv .nil),⟨_,RK,rfl,_,rfl⟩⟩);have hn:H s.heap.objs.size=none:=I.hok.fresh (cj _);refine⟨.ref s.heap.objs.size,_,I2,rfl,⟨_,x,y,hn,rfl,rfl,λzs hz=>by rw[I.mV hz Fd];exact hx,λzs hz=>by rw[I.mV hz Fe];exact hy⟩,⟨e2,(sb.2 _ z1.symm).trans (kp _ _ z1.symm t1.symm j1 j2 a2),⟨_,_,(sb.2 _ z2.symm).trans b2⟩,b3.1.keep λo e=>(sb.2 _ z3.symm).trans e,b4.1.keep λo e=>(sb.2 _ z4.symm).trans e⟩,λb hb=>?_⟩;have nb:b≠s.heap.objs.size:=by
   have:b=z\/b=TI\/b=TO\/b=i1\/b=i2:=by simpa using hb
   rcases this with rfl|rfl|rfl|rfl|rfl
   ·exact cY (bQ a1)
   ·exact cY (bQ a2)
   ·exact cY (bQ a3)
   ·obtain⟨o,e,_⟩:=a4.obj;exact cY (bQ e)
   ·obtain⟨o,e,_⟩:=a5.obj;exact cY (bQ e)
  rw[bT nb];exact(hf b hb).1
 done:=by
  intro X hP hw hK hc i ao s Z H E I hf ⟨a1,a2,⟨p,q,a3⟩,a4,a5⟩ hg;subst hP hw hK;obtain⟨xs,ys,Fd,Fe,hx⟩:=hg;obtain⟨Ye,Ng,c1⟩:=I.row Fd;obtain⟨BW,Nh,c2⟩:=I.row Fe;have n1:=Ng.length;have n2:=Nh.length;refine ziR (I.ok.hd hc) (lW.of k1 D.is.2.2.2.1.symm) (lW.of k2 D.is.2.2.2.2.2.2.symm) D a1 a2 a3 ⟨a4,c1⟩ ⟨a5,c2⟩ ?_ λh' kp=>⟨rfl,I.qX (t':=s.toks) (ch:=[z,TI,TO,i1,i2]) (λb o hb e=>kp b o (λy=>hb (by simp[y])) (λy=>hb (by simp[y])) (λy=>hb (by simp[y])) (λy=>hb (by simp[y])) e) λb hb=>hf b hb⟩;rcases hx with y|y
  ·exact .inl (by simp;lia)
  ·exact .inr (by simp;lia)
 self:=λ_ _ _ _ _ ⟨a1,_⟩ h=>wpAny_pyIter_zip a1 h
section
variable {X:Cx}
noncomputable def RL(K:W.Frag)(ta:TA):TI:=λZ H R=>ta Z H λvs H1=>∃k1 k2 l1 l2 xs ys,vs=[.ref l1,.ref l2]/\Sk k1 K H1 l1 xs/\Sk k2 K H1 l2 ys/\R (RJ K k1 k2 l1 l2) H1
theorem zhM:bootBuiltins "zip"=some (.type "zip"):=by decide +kernel
theorem zmi{a b:Expr}{ta:TA}{p pos tpos:Pos}{elts:List Expr}{kk:Nat}(hg:Gl X "zip")(hm:X.mg "zip"=none)(ha:PA X [a,b] ta)(hs:starEach [a,b] X.env=[(false,eval a X.env),(false,eval b X.env)]:=by rfl)(uF:starEach [b] X.env=[(false,eval b X.env)]:=by rfl) :
  PI X (.Tuple elts kk tpos) (.Call (.Name "zip" p) [a,b] [] pos) (RL X.K ta):=by
 intro ao s Z H R I h;refine Call_ (vX I hg hm zhM (Ae (aQ (ha pos ao s Z H _ I h) λus s1 ⟨vs,H1,I1,r1,q1⟩=>?_) (by rw[hs,uF]) (by rw[uF];rfl)));obtain⟨k1,k2,l1,l2,xs,ys,e,Fd,Fe,q⟩:=q1;subst e;cases r1 with
 |cons r rr=>
  cases rr with
  |cons r' rr=>
   cases rr;cases r;cases r';obtain⟨Ye,Ng,c1⟩:=I1.row Fd;obtain⟨BW,Nh,c2⟩:=I1.row Fe;have m1:=c1.lt;have m2:=c2.lt;refine zj3 c1 c2 λh' b1 b2 b3 b4 b5 kp=>?_;refine wpAny_pyIter_zip b1 ?_;have ne:∀{u v:Nat},u<v->u≠v:=λh=>cY h;have D:mU (s1.heap.objs.size+4) (s1.heap.objs.size+2) (s1.heap.objs.size+3) s1.heap.objs.size (s1.heap.objs.size+1) l1 l2:=
    ⟨⟨(ne gV).symm,(ne gV).symm,(ne gV).symm,(ne gV).symm,(ne (f9 m1 gV)).symm,(ne (f9 m2 gV)).symm⟩,
     ⟨(ne gV).symm,(ne gV).symm,(ne gV).symm,(ne (f9 m1 gV)).symm,(ne (f9 m2 gV)).symm⟩,
     ⟨(ne gV).symm,(ne gV).symm,ne gV,(ne m1).symm,(ne m2).symm,(ne (f9 m1 gV)).symm,(ne (f9 m2 gV)).symm⟩⟩
   refine⟨s1.heap.objs.size+4,[s1.heap.objs.size+4,s1.heap.objs.size+2,s1.heap.objs.size+3,s1.heap.objs.size,s1.heap.objs.size+1],_,_,H1,rfl,I1.kept (t':=s1.toks) kp,zhg D,⟨b1,b2,⟨_,_,b3⟩,b4,b5⟩,λb hb=>?_,q⟩;have:s1.heap.objs.size<=b:=by
    have:b=s1.heap.objs.size+4\/b=s1.heap.objs.size+2\/b=s1.heap.objs.size+3\/b=s1.heap.objs.size\/b=s1.heap.objs.size+1:=by simpa using hb
    rcases this with rfl|rfl|rfl|rfl|rfl<;>lia
   exact I1.uE this (I1.hok.fresh this)
end
noncomputable def Ite(K:W.Frag)(kd:Bool)(l:Addr):It:=
 ⟨λi H=>∃xs x,Sk kd K H l xs/\xs[i]?=some x,λi H v H'=>∃a x,H a=none/\v=.ref a/\H'=upd H a (.tup [.int i,x])/\∀xs,Sk kd K H l xs->xs[i]?=some x,λi H=>∃xs,Sk kd K H l xs/\xs.length<=i⟩
theorem BX{prog:Program}{w:World}{A:Around}(hh:A.handled=none)(kd:Bool){it l:Addr}(tU:l≠it)(its:Array Value):Draws prog w A it [it,l] its.size (λi v=>its[i]?=some v) (λi h=>Rk kd it l i h/\Ck kd h l its) where
 live:=λ_ _ st=>let ⟨o,e,_⟩:=st.1.obj;⟨o,e⟩
 frame:=λ_ _ _ st k=>⟨st.1.keep λo e=>k it Zaa o e,st.2.keep λo e=>k l Zaa o e⟩
 item:=λi s Q E hi st q=>(lW.of kd tU).item A E s i its[i] Q st (by simp[hi]) λh' a b=>q _ h' s.toks (by simp[hi]) a b
 done:=λs Q E st q=>(lW.of kd tU).fin A E s its.size Q hh st Zaa q
theorem zhu(kd:Bool)(l:Addr)(xs:Array Value):Meets (Builtin.«enumerate.__new__» ⟨[.type "enumerate",.ref l],[]⟩) (λ_ R s=>Ck kd s.heap l xs /\
   R (.ok (.ret (.ref (s.heap.push (gJ kd l)).objs.size))) {s with heap:=(s.heap.push (gJ kd l)).push {cls:=.type "enumerate",data:=.fields #[.none,.bool false,.ref s.heap.objs.size,rawInt 0,.none,.none]}}):=
 .of_wp λprog w A R s h=>by
  obtain⟨hp,g,d,tk,os⟩:=s;obtain⟨c1,h⟩:=h;have hsub:=sub_enumerate;have C1:Ck kd (Shared.heap ⟨hp,g,d,tk,os⟩) l xs:=c1;obtain⟨ol,el⟩ : ∃o,hp.get? l=some o:=by
   cases kd
   ·obtain⟨o,e,_⟩:=c1;exact⟨o,e⟩
   ·obtain⟨o,e,_⟩:=c1;exact⟨o,e⟩
  wp_walk using Lf el
  refine wpAny_stack_any λst=>aP ?_
  split
  ·rename_i c _ _ _ _ _;cases (c==Value.type "enumerate")<;>(wp_walk using Lf el,Nb C1;exact⟨_,rfl,h⟩)
  ·wp_walk using Lf el,Nb C1
   exact⟨_,rfl,h⟩
theorem zhy{prog:Program}{w:World}{A:Around}{E:Value->Shared->Prop}{s:Shared}{e it l:Addr}{its:Array Value}{st:Nat->Heap->Prop}{i:Nat}{old:Value}{Q:Option Value->Shared->Prop}(hh:A.handled=none)(N:lW prog w it l st its)(he:IsEnum s.heap e it i old)(Bj:st i s.heap)(hx:its[i]?=none)
  (q:∀h',Heap.ExtBut it s.heap h'->Q none {s with heap:=h'}):wpAny (model prog w) A (pyNext (.ref e)) Q E s:=by
 have ty:s.TypeIs (.ref e) "enumerate":=⟨_,he,rfl⟩;have body:∀{E':Value->Shared->Prop},(∀h' x,Heap.ExtBut it s.heap h'->(∃o,h'.get? x=some o/\o.cls=.type "StopIteration")->E' (.ref x) {s with heap:=h'})->wpAny (model prog w) A.in1 (Builtin.«enumerate.__next__» ⟨[.ref e],[]⟩) (λ_ _=>False) E' s:=λk=>by
  show wpAny _ A.in1 (field (.ref e) 2 >>= _) _ _ _;exact aA (mF he rfl (x:=.ref it) rfl (aA (N.fin A.in1 _ s i _ hh Bj hx k)))
 unfold pyNext;refine aA (Ej (Ag (name:=Str.ofString "__next__") ty F.slot_enumerate_next (yU F.slot_enumerate_next ty F.entry_enumerate_next (gb (body λh' x a b=>?_) (λ_ _ z=>z.elim) λ_ _ z=>z) (F.args_enumerate_next_1 _))));obtain⟨o,a1,a2⟩:=b;exact aA (Lx (T:="StopIteration") (b:=true) ⟨o,a1,a2⟩ isSubtype_stop (aP (q h' a)))
theorem zga{P:Program}{w:World}{K:W.Frag}{elts:List Expr}{kk:Nat}{pos:Pos}{kd:Bool}{l e it:Addr}(RM:e≠it)(Yg:l≠it)(hle:l≠e) :
  Turn P w K (.Tuple elts kk pos) (Ite K kd l) [e,it] e (λi h=>(∃old,IsEnum h e it i old)/\Rk kd it l i h) where
 mem:=by simp
 obj:=λi h ⟨⟨old,he⟩,st⟩ b hb=>by
  have:b=e\/b=it:=by simpa using hb
  rcases this with rfl|rfl
  ·exact⟨_,he,λv z=>by cases z⟩
  ·exact st.obj
 keep:=λi h h' ⟨⟨old,he⟩,st⟩ k=>⟨⟨old,k e Zaa _ he⟩,st.keep λo e=>k it Zaa o e⟩
 item:=by
  intro X hP hw hK hc i ao s Z H E I hf ⟨⟨old,he⟩,st⟩ hg;subst hP hw hK;obtain⟨xs,x,hq,hx⟩:=hg;obtain⟨its,rv,p⟩:=I.row hq;obtain⟨u,hu,ru⟩:=rv.get hx;have cL:i<its.toArray.size:=by simpa using (fG.mp hu).1
  refine wpAny_pyNext_enum_itemD (BX (A:=X.A.in1) (I.ok.hd hc) kd Yg its.toArray) he ⟨st,p⟩ cL RM (by simp[RM,hle.symm]) λu' h1 tk hP ho RN hT hsz hk=>?_;have eu:u'=u:=by
   have:its[i]?=some u':=by simpa using hP
   rw[hu] at this;cases this;rfl
  subst eu;refine⟨_,rfl,wpAny_letOwnedTupleGo_enum (s:={s with heap:=h1,toks:=tk+1}) ho λh2 he2 sb=>?_⟩;have RK:h2.get? s.heap.objs.size=some {cls:=.type "tuple",data:=.seq #[.int i tk,u']}:=(sb.2 _ (pR (bQ he))).trans hT;have kk:∀b o,b∉[e,it]->s.heap.get? b=some o->h2.get? b=some o:=λb o hb q=>(sb.2 b λz=>hb (by simp[z])).trans (hk b o (λz=>hb (by simp[z])) (λz=>hb (by simp[z])) q);have I2:=I.lV (t':=tk+1) (a:=s.heap.objs.size) (o:=.tup [.int i,x]) kk (λb hb=>hf b hb) (cj _) (show bI X.prog X.w _ h2 _ (.tup [.int i,x]) from ⟨by show 2<=sizeLine;decide,[.int i tk,u'],.cons ⟨_,rfl⟩ (.cons ru .nil),⟨_,RK,rfl,_,rfl⟩⟩);have hn:H s.heap.objs.size=none:=I.hok.fresh (cj _);refine⟨.ref s.heap.objs.size,_,I2,rfl,⟨_,x,hn,rfl,rfl,λys hy=>by rw[I.mV hy hq];exact hx⟩,⟨⟨_,by simpa using he2⟩,RN.1.keep λo q=>(sb.2 it RM.symm).trans q⟩,λb hb=>?_⟩;have nb:b≠s.heap.objs.size:=by
   have:b=e\/b=it:=by simpa using hb
   rcases this with rfl|rfl
   ·exact cY (bQ he)
   ·obtain⟨o,q,_⟩:=st.obj;exact cY (bQ q)
  rw[bT nb];exact(hf b hb).1
 done:=by
  intro X hP hw hK hc i ao s Z H E I hf ⟨⟨old,he⟩,st⟩ hg;subst hP hw hK;obtain⟨xs,hq,hx⟩:=hg;obtain⟨its,rv,p⟩:=I.row hq;have hl:=rv.length;exact zhy (I.ok.hd hc) (lW.of kd Yg) he ⟨st,p⟩ (by simp;lia) λh' eb=>⟨rfl,I.qX (t':=s.toks) (ch:=[e,it]) (λb o hb q=>eb b o (λz=>hb (by simp[z])) q) λb hb=>hf b hb⟩
 self:=λ_ _ _ _ _ ⟨⟨old,he⟩,_⟩ h=>wpAny_pyIter_enum he h
section
variable {X:Cx}
noncomputable def IW(K:W.Frag)(ta:TA):TI:=λZ H R=>ta Z H λvs H1=>∃kd l xs,vs=[.ref l]/\Sk kd K H1 l xs/\R (Ite K kd l) H1
theorem zf0:bootBuiltins "enumerate"=some (.type "enumerate"):=by decide +kernel
theorem zjB{a:Expr}{ta:TA}{p pos tpos:Pos}{elts:List Expr}{kk:Nat}(hg:Gl X "enumerate")(hm:X.mg "enumerate"=none)(ha:PA X [a] ta)(hs:starEach [a] X.env=[(false,eval a X.env)]:=by rfl):PI X (.Tuple elts kk tpos) (.Call (.Name "enumerate" p) [a] [] pos) (IW X.K ta):=by
 intro ao s Z H R I h;refine Call_ (vX I hg hm zf0 (Ae (aQ (ha pos ao s Z H _ I h) λus s1 ⟨vs,H1,I1,r1,q1⟩=>?_) hs rfl));obtain⟨kd,l,xs,e,hq,q⟩:=q1;subst e;cases r1 with
 |cons r rr=>
  cases rr;cases r;obtain⟨its,rv,p⟩:=I1.row hq;have hl:l<s1.heap.objs.size:=p.lt;refine callType_new F.called_enumerate RB (F.typeCall_enumerate_1 _) (F.newCall_enumerate_1 _) (λobj=>F.args_object_init_2 obj _) F.entry_enumerate_new (zhu kd l its.toArray) ⟨p,?_⟩;have n1:(s1.heap.push (gJ kd l)).objs.size=s1.heap.objs.size+1:=vQ ..;have he:IsEnum ((s1.heap.push (gJ kd l)).push {cls:=.type "enumerate",data:=.fields #[.none,.bool false,.ref s1.heap.objs.size,rawInt 0,.none,.none]}) (s1.heap.objs.size+1) s1.heap.objs.size 0 .none:=by
   have:=eN (s1.heap.push (gJ kd l)) (o:={cls:=.type "enumerate",data:=.fields #[.none,.bool false,.ref s1.heap.objs.size,rawInt 0,.none,.none]}) rfl;rw[n1] at this;exact this
  show _/\_;rw[n1];refine⟨⟨_,he,rfl⟩,wpAny_pyIter_enum (s:={s1 with heap:=(s1.heap.push (gJ kd l)).push {cls:=.type "enumerate",data:=.fields #[.none,.bool false,.ref s1.heap.objs.size,rawInt 0,.none,.none]}}) he ?_⟩;have rk:Rk kd s1.heap.objs.size l 0 ((s1.heap.push (gJ kd l)).push {cls:=.type "enumerate",data:=.fields #[.none,.bool false,.ref s1.heap.objs.size,rawInt 0,.none,.none]}):=by
   cases kd
   ·exact⟨_,cD _ (eN _ rfl),rfl,rfl⟩
   ·exact⟨_,cD _ (eN _ rfl),rfl,rfl⟩
  refine⟨s1.heap.objs.size+1,[s1.heap.objs.size+1,s1.heap.objs.size],_,_,H1,rfl,I1.kept (t':=s1.toks) λb o x=>cD _ (cD _ x),zga (kd:=kd) (l:=l) (Nat.succ_ne_self _) (cY hl) (cY (tQ hl)),⟨⟨_,he⟩,rk⟩,λb hb=>?_,q⟩;have:s1.heap.objs.size<=b:=by
   have:b=s1.heap.objs.size+1\/b=s1.heap.objs.size:=by simpa using hb
   rcases this with rfl|rfl
   ·exact wJ _
   ·exact cj _
  exact I1.uE this (I1.hok.fresh this)
end
end L2
set_option genSizeOf false
set_option genInjectivity false
namespace Mi
open PySem
inductive D where
 |non|bl (b:Bool)|int (i:Int)|str (s:Str)|tup (xs:List D)|fl (xs:List D)|fd (ks vs:List D)|exc (c:Nat) (fs:List D)|ob (c:Nat) (fs:List D)|any
inductive Xv where
 |d (x:D)|l (n:Nat)
inductive Kx where
 |non|int (i:Int)|row (is:List Int)
deriving DecidableEq
inductive SO where
 |lst (xs:List D)
 |dct (kvs:List (List Kx×D))
noncomputable abbrev S:=List SO
inductive Rs (α:Type) where
 |ok (a:α)|er (c:Nat) (fs:List D)
noncomputable abbrev M(α:Type):=S->Option (Rs α×S)
noncomputable def M.ret{α:Type}(a:α):M α:=λs=>some (.ok a,s)
noncomputable def M.bd{α β:Type}(m:M α)(k:α->M β):M β:=λs=>match m s with
 |some (.ok a,s')=>k a s'
 |some (.er c f,s')=>some (.er c f,s')
 |none=>none
noncomputable def M.qt{α:Type}(m:M α):M α:=λs=>match m s with
 |some (.ok a,s')=>some (.ok a,s')
 |_=>none
noncomputable def M.no{α:Type}:M α:=λ_=>none
noncomputable def M.opt{α:Type}:Option α->M α
 |some a=>M.ret a
 |none=>M.no
inductive Rz where
 |dat (d:D)|nw (xs:List D)
inductive Pr where
 |add|aq|mul|fdiv|mod|pow|neg
 |eq|ne|lt|le|gt|ge|inn|nin
 |xQ|sG
 |len|abs|max2|min2|I8|I9|sH|Fg|xR|divmod|all|sum|list|tuple|sorted|qY|BZ|str1
 |ix|rev|Yh|I_|mult|zE
 |count|index|repr
inductive Kd where
 |int|bool|str|tuple|list|dict|cls (c:Nat)|sI
mutual
inductive E where
 |c (d:D)
 |v (i:Nat)
 |pr (fz:Bool) (p:Pr) (xs:Es)
 |xT (p q:Pr) (a b c:E)
 |Yi (p q r:Pr) (a b c d:E)
 |and (a b:E)
 |or (a b:E)
 |not (a:E)
 |ite (c a b:E)
 |tup (xs:Es)
 |lst (fz:Bool) (xs:Es)
 |B_ (k:Str) (i:Int)
 |call (f:Nat) (xs:Es)
 |mW (a:E) (k:Kd)
 |sl (fz:Bool) (a:E) (lo hi:Eo)
 |meth (fz:Bool) (p:Pr) (k:Kd) (o:E) (xs:Es)
 |push (o a:E)
 |pop (o:E)
 |comp (fz:Bool) (elt:E) (tg:List Nat) (it:Wk) (fr:List Nat) (many:Nat) (cond:Eo)
 |iJ (fz:Bool) (elt:E) (tg:List Nat) (it:Wk) (RP:List Nat) (BW:Wk) (fr:List Nat) (many:Nat) (cond:Eo)
 |fld (o:E) (cs:List Nat) (i:Nat)
 |of (o:E) (c i:Nat)
 |mk (c f:Nat) (xs:Es)
 |cm (c f:Nat) (o:E) (xs:Es)
 |oJ
 |sJ (b:Bool) (k d:E)
 |jH (d k:E)
 |Ca (a:E)
 |oM (fz:Bool) (a:E) (b:E)
 |Yj (a b:E)
 |ins (o i a:E)
 |no
inductive Wk where
 |seq (e:E)
 |rg (a b:E)
 |zip (a b:E)
 |enum (a:E)
 |Yk (a:E)
inductive Es where
 |nil
 |cons (a:E) (r:Es)
inductive Eo where
 |no
 |yes (a:E)
end
noncomputable abbrev Ea(a:E):Es:=.cons a .nil
noncomputable abbrev Eb(a b:E):Es:=.cons a (.cons b .nil)
noncomputable abbrev Ec(a b c:E):Es:=.cons a (.cons b (.cons c .nil))
noncomputable abbrev Ei(a b:E):E:=.pr true .ix (.cons a (.cons b .nil))
noncomputable abbrev Ci(i:Int):E:=.c (.int i)
noncomputable def Es.len:Es->Nat
 |.nil=>0
 |.cons _ r=>r.len+1
inductive Tg where
 |nm (i:Nat)
 |tp (is:List Nat)
 |aq (o i:E)
mutual
inductive St where
 |pass
 |ex (e:E)
 |asg (t:Tg) (e:E)
 |par (i j:Nat) (a b:E)
 |aug (i:Nat) (e:E)
 |ret (e:E)
 |rise (c:Nat) (kp:Bool) (xs:Es)
 |iff (c:E) (t e:cB)
 |wh (c:E) (b:cB)
 |fr (t:Tg) (w:Wk) (b:cB)
 |Ja (b:cB) (d:Nat) (i:Nat) (h:cB)
 |dput (d k v:E)
 |no
inductive cB where
 |nil
 |cons (a:St) (r:cB)
end
noncomputable def dU(eq:D->D->Option Bool):List D->List D->Option Bool
 |[],[]=>some true
 |[],_::_=>some false
 |_::_,[]=>some false
 |x::xs,y::ys=>match eq x y,dU eq xs ys with
  |some a,some b=>some (a&&b)
  |_,_=>none
noncomputable def kq:D->Option Nat
 |.non=>some 0
 |.bl _=>some 1
 |.int _=>some 1
 |.str _=>some 2
 |.tup _=>some 3
 |.fl _=>some 4
 |_=>none
noncomputable def c7:Nat->D->D->Option Bool
 |n+1,.tup xs,.tup ys=>dU (c7 n) xs ys
 |n+1,.fl xs,.fl ys=>dU (c7 n) xs ys
 |_,.non,.non=>some true
 |_,.bl a,.bl b=>some (a==b)
 |_,.int a,.int b=>some (a==b)
 |_,.str a,.str b=>some (a==b)
 |_,.bl a,.int b=>some ((if a then 1 else 0)==b)
 |_,.int a,.bl b=>some (a==(if b then 1 else 0))
 |_,a,b=>match kq a,kq b with
  |some i,some j=>if i=j then none else some false
  |_,_=>none
noncomputable def cH:List D->Option (List Int)
 |[]=>some []
 |.int i::r=>(cH r).map (i::·)
 |_=>none
noncomputable def ltI:List Int->List Int->Bool
 |_,[]=>false
 |[],_::_=>true
 |x::xs,y::ys=>if x=y then ltI xs ys else decide (x<y)
noncomputable def fB:List D->Option (List Bool)
 |[]=>some []
 |.bl b::r=>(fB r).map (b::·)
 |_=>none
noncomputable def cut{α:Type}(xs:List α)(lo hi:Option Int):List α:=(xs.drop (HT.bY xs.length 0 lo)).take (HT.bY xs.length xs.length hi-HT.bY xs.length 0 lo)
noncomputable def mX:D->Option (List D)
 |.tup xs=>some xs
 |.fl xs=>some xs
 |_=>none
noncomputable def cutD(x:D)(lo hi:Option Int):Option Rz:=match x with
 |.tup xs=>some (.dat (.tup (cut xs lo hi)))
 |.fl xs=>some (.nw (cut xs lo hi))
 |_=>none
noncomputable def memD(d:D):List D->Option Bool
 |[]=>some false
 |x::r=>match c7 50 x d,memD d r with
  |some a,some b=>some (a||b)
  |_,_=>none
noncomputable def sO(d:D):List D->Nat
 |[]=>0
 |x::r=>sO d r+(if c7 50 x d=some true then 1 else 0)
noncomputable def qg:Kd->D->Bool
 |.list,.fl _=>true
 |.str,.str _=>true
 |.dict,.fd _ _=>true
 |_,_=>false
noncomputable def dw(f:Int->Int->Option D):List D->Option Rz
 |[.int i,.int j]=>(f i j).map .dat
 |_=>none
noncomputable def qZ(f:Int->D):List D->Option Rz
 |[.int i]=>some (.dat (f i))
 |_=>none
noncomputable def sS(f:List D->Option Rz):List D->Option Rz
 |[a]=>(mX a).bind f
 |_=>none
noncomputable def Cd:List D->Option Rz
 |[.int i,.int j]=>some (.dat (.int (i+j)))
 |[.tup xs,.tup ys]=>if xs.length+ys.length<=sizeLine then some (.dat (.tup (xs++ys))) else none
 |[.fl xs,.fl ys]=>if xs.length+ys.length<=sizeLine then some (.nw (xs++ys)) else none
 |[.str x,.str y]=>if x.length+y.length<=sizeLine then some (.dat (.str (x++y))) else none
 |_=>none
noncomputable def Jc:List D->Option Rz
 |[.int i,.int j]=>some (.dat (.bl (decide (i<j))))
 |[.tup xs,.tup ys]=>match cH xs,cH ys with
  |some a,some b=>some (.dat (.bl (ltI a b)))
  |_,_=>none
 |_=>none
noncomputable def Ce(f:Bool->Bool):List D->Option Rz
 |[a,b]=>(c7 50 a b).map λk=>.dat (.bl (f k))
 |_=>none
noncomputable def Fj(f:Bool->Bool):List D->Option Rz
 |[a,b]=>((mX b).bind (memD a)).map λk=>.dat (.bl (f k))
 |_=>none
noncomputable def D.uR:D->Bool
 |.non=>true
 |_=>false
noncomputable def Cg(f:Bool->Bool):List D->Option Rz
 |[a]=>some (.dat (.bl (f a.uR)))
 |_=>none
noncomputable def Jd:List D->Option Rz
 |[.int i]=>some (.dat (.int i))
 |[.bl k]=>some (.dat (.int (if k then 1 else 0)))
 |_=>none
noncomputable def Cj:List D->Option Rz
 |[.fl xs]=>(fB xs).map λbs=>.dat (.bl (bs.all id))
 |_=>none
noncomputable def mY:List D->Option (List Int)
 |[]=>some []
 |.int i::r=>(mY r).map (i::·)
 |_=>none
noncomputable def best(bt:Int->Int->Bool)(i:Int)(is:List Int):Int:=is.foldl (λm j=>if bt j m then j else m) i
noncomputable def Je(bt:Int->Int->Bool):Option (List Int)->Option Rz
 |some (i::is)=>some (.dat (.int (best bt i is)))
 |_=>none
noncomputable def zF(bt:Int->Int->Bool):List D->Option Rz
 |[a]=>(mX a).bind λxs=>Je bt (mY xs)
 |_=>none
noncomputable def okR(i j:Int):Bool:=decide (-(2^62)<=i/\i<2^62/\-(2^62)<=j/\j<2^62/\(j-i).toNat<=65536)
noncomputable def Jf(i:Int)(n:Nat):List D:=(List.range n).map λk=>.int (i+(k:Nat))
noncomputable def RQ:List D->Option Rz
 |[.int j]=>if okR 0 j then some (.nw (Jf 0 (j-0).toNat)) else none
 |[.int i,.int j]=>if okR i j then some (.nw (Jf i (j-i).toNat)) else none
 |_=>none
noncomputable def Cm:List D->Option Rz
 |[.int j]=>if okR 0 j then some (.dat (.tup (Jf 0 (j-0).toNat))) else none
 |_=>none
noncomputable def qj:List D->Option Rz
 |[a]=>(mX a).map λxs=>.dat (.tup xs)
 |_=>none
noncomputable def RT:List D->Option Rz
 |[a,.int i]=>((mX a).bind λxs=>L2.qU xs i).map .dat
 |_=>none
noncomputable def sU:List D->List D->Option Bool
 |[],ys=>some (decide (0<ys.length))
 |_::_,[]=>some false
 |.int x::xs,.int y::ys=>if x=y then sU xs ys else some (decide (x<y))
 |_::_,_::_=>none
noncomputable def zG(xs:List D)(i j:Nat):Option Bool:=match xs[i]?,xs[j]? with
 |some (.int x),some (.int y)=>some (decide (x<y))
 |some (.tup us),some (.tup ws)=>sU us ws
 |_,_=>none
noncomputable def gw(b:List Int):List (List Int)->List Int
 |[]=>b
 |x::r=>gw (if ltI x b=true then x else b) r
noncomputable def j_:List D->Option (List (List Int))
 |[]=>some []
 |.tup xs::r=>match cH xs,j_ r with
  |some a,some b=>some (a::b)
  |_,_=>none
 |_=>none
noncomputable def oN:List D->Option Rz
 |[.fl xs]=>match j_ xs with
  |some (x::r)=>some (.dat (.tup ((gw x r).map .int)))
  |_=>none
 |_=>none
noncomputable def kh:D->Bool
 |.int _=>true
 |_=>false
noncomputable def jf:D->Bool
 |.tup (.int _::_)=>true
 |_=>false
noncomputable def jr(lt:Nat->Nat->Option Bool)(xs:List D):Option (List D):=if xs.length<2 then some xs else if xs.length<64 then (match L2.bF lt (PySem.W.kas_sort xs.length) with
  |some p=>if p.size=xs.length then some (p.toList.map λi=>xs.getD i .non) else none
  |none=>none) else none
noncomputable def zJ(xs:List D):Option (List D):=if xs.all kh||xs.all jf then jr (zG xs) xs else none
noncomputable def mZ:List D->Option Rz
 |[.fl xs]=>(zJ xs).map .nw
 |_=>none
noncomputable def zK(ks:List Int)(i j:Nat):Option Bool:=match ks[i]?,ks[j]? with
 |some x,some y=>some (decide (x<y))
 |_,_=>none
noncomputable def RV:List D->Option Rz
 |[.tup xs]=>some (.dat (.tup xs.reverse))
 |_=>none
noncomputable def ql:List D->Option Rz
 |[.fl xs,d]=>(memD d xs).map λ_=>.dat (.int (sO d xs:Nat))
 |_=>none
noncomputable def Cp:List D->Option Rz
 |[.fl xs,.bl b]=>((fB xs).bind λbs=>bs.idxOf? b).map λ(i:Nat)=>.dat (.int i)
 |_=>none
noncomputable def RW:List D->Option Rz
 |[.int i]=>if i.natAbs<2^62 then some (.dat (.str (Str.ofString (toString i)))) else none
 |_=>none
noncomputable def RX(f:D->Option PyData):List D->Option (List PyData)
 |[]=>some []
 |x::r=>match f x,RX f r with
  |some a,some b=>some (a::b)
  |_,_=>none
noncomputable def pd:Nat->D->Option PyData
 |n+1,.tup xs=>(RX (pd n) xs).map .tuple
 |n+1,.fl xs=>(RX (pd n) xs).map .list
 |_,.non=>some .none
 |_,.bl b=>some (.bool b)
 |_,.int i=>some (.int i)
 |_,.str x=>some (.str x)
 |_,_=>none
noncomputable def pdT:D->Option PyData
 |.fd [.str k] [.int i]=>some (.dict [(.str k,.int i)])
 |x=>pd 40 x
noncomputable def shw(d:PyData):Option Rz:=if d.showable=true/\d.shown.length<=sizeLine then some (.dat (.str d.shown)) else none
noncomputable def Jg:List D->Option Rz
 |[x]=>(pdT x).bind shw
 |_=>none
noncomputable def zL:List (Int×Int):=[(0,1),(0,2),(0,3),(0,4),(0,5),(0,6),(0,7),(1,2),(1,3),(1,4),(1,5),(1,6),(1,7),(2,3),(2,4),(2,5),(2,6),(2,7),(3,4),(3,5),(3,6),(3,7),(4,5),(4,6),(4,7),(5,6),(5,7),(6,7)]
noncomputable def ss(ts:List (Int×Int)):List (Int×Int):=zL.filter λt=>ts.contains t
noncomputable def RZ:D->Option (Int×Int)
 |.tup [.int a,.int b]=>if 0<=a/\a<b/\b<8 then some (a,b) else none
 |_=>none
noncomputable def zM:List D->Option (List (Int×Int))
 |[]=>some []
 |x::r=>match RZ x,zM r with
  |some a,some b=>some (a::b)
  |_,_=>none
noncomputable def pSs:List D->Option Rz
 |[.tup xs]=>(zM xs).map λts=>.nw ((ss ts).map λp=>.tup [.int p.1,.int p.2])
 |_=>none
noncomputable def Jh(is:List Int):Bool:=decide (is.length<=1000)&&is.all λi=>decide (-1000000<=i/\i<=1000000)
noncomputable def R0(is:List Int):Option Rz:=match Jh is with
 |true=>some (.dat (.int is.sum))
 |false=>none
noncomputable def R3:List D->Option Rz
 |[a]=>(mX a).bind λxs=>(mY xs).bind R0
 |_=>none
noncomputable def m5:List Int->List Int
 |[]=>[]
 |x::r=>if r.contains x then m5 r else x::m5 r
noncomputable def Ji:List D->Option Rz
 |[.tup xs]=>(mY xs).map λis=>.dat (.int (m5 is).length)
 |_=>none
noncomputable def rep{α:Type}(xs:List α)(n:Nat):List α:=(List.replicate n xs).flatten
noncomputable def Jj:List D->Option Rz
 |[.fl xs,.int n]=>if 0<=n/\n<=1000/\xs.length<=1000 then some (.nw (rep xs n.toNat)) else none
 |_=>none
noncomputable def Cq:List D->Option Rz
 |[.tup xs]=>if xs.all kh=true then (zJ xs).map .nw else none
 |_=>none
noncomputable def Jk:List D->Option Rz
 |[.tup xs,.int n]=>if 1<=n/\n<=1000/\1<=xs.length/\xs.length<=1000 then some (.dat (.tup (rep xs n.toNat))) else none
 |_=>none
noncomputable def xU:D->Option Bool
 |.non=>some false
 |.bl b=>some b
 |.int i=>some (i != 0)
 |.tup xs=>some (!xs.isEmpty)
 |.fl xs=>some (!xs.isEmpty)
 |_=>none
noncomputable def prim:Pr->List D->Option Rz
 |.add=>Cd
 |.aq=>dw λi j=>some (.int (i-j))
 |.mul=>dw λi j=>if (-(2^64)<i/\i<2^64)\/(-(2^64)<j/\j<2^64) then some (.int (i*j)) else none
 |.fdiv=>dw λi j=>if 0<j/\j<1073741824 then some (.int (i/j)) else none
 |.mod=>dw λi j=>if 0<j then some (.int (i%j)) else none
 |.pow=>dw λi j=>if 0<=j/\j<=1000000/\i.natAbs<2^64 then some (.int (i^j.toNat)) else none
 |.neg=>qZ λi=>.int (-i)
 |.eq=>Ce id
 |.ne=>Ce not
 |.lt=>Jc
 |.le=>dw λi j=>some (.bl (decide (i<=j)))
 |.gt=>dw λi j=>some (.bl (decide (j<i)))
 |.ge=>dw λi j=>some (.bl (decide (j<=i)))
 |.inn=>Fj id
 |.nin=>Fj not
 |.xQ=>Cg id
 |.sG=>Cg not
 |.len=>sS λxs=>some (.dat (.int xs.length))
 |.abs=>qZ λi=>.int (if i<0 then -i else i)
 |.max2=>dw λi j=>some (.int (if j>i then j else i))
 |.min2=>dw λi j=>some (.int (if j<i then j else i))
 |.xR=>Jd
 |.divmod=>dw λi j=>if 0<j/\j<1073741824 then some (.tup [.int (i/j),.int (i%j)]) else none
 |.all=>Cj
 |.Yh=>RQ
 |.I8=>zF λa b=>decide (a>b)
 |.I9=>zF λa b=>decide (a<b)
 |.sH=>oN
 |.Fg=>Cm
 |.list=>sS λxs=>some (.nw xs)
 |.tuple=>qj
 |.ix=>RT
 |.rev=>RV
 |.sorted=>mZ
 |.qY=>pSs
 |.I_=>Jj
 |.mult=>Jk
 |.zE=>Cq
 |.sum=>R3
 |.BZ=>Ji
 |.count=>ql
 |.index=>Cp
 |.repr=>Jg
 |.str1=>RW
noncomputable def lX(aq:Nat->Nat->Bool):D->Kd->Option Bool
 |.exc c _,.cls e=>some (aq c e)
 |.exc _ _,.sI=>some true
 |.exc _ _,_=>none
 |.ob _ _,_=>none
 |.any,_=>none
 |_,.cls _=>none
 |_,.sI=>none
 |.bl _,.bool=>some true
 |.bl _,.int=>some true
 |.bl _,_=>some false
 |.int _,.int=>some true
 |.int _,_=>some false
 |.non,_=>some false
 |.str _,.str=>some true
 |.str _,_=>some false
 |.tup _,.tuple=>some true
 |.tup _,_=>some false
 |.fl _,.list=>some true
 |.fl _,_=>some false
 |.fd _ _,.dict=>some true
 |.fd _ _,_=>some false
noncomputable def rd(x:Xv):M D:=λs=>match x with
 |.d v=>some (.ok v,s)
 |.l n=>match s[n]? with
  |some (.lst xs)=>some (.ok (.fl xs),s)
  |_=>none
noncomputable def g_:List Xv->M (List D)
 |[]=>M.ret []
 |x::r=>M.bd (rd x) λd=>M.bd (g_ r) λds=>M.ret (d::ds)
noncomputable def dat(x:Xv):M D:=match x with
 |.d v=>M.ret v
 |.l _=>M.no
noncomputable def cM:List Xv->M (List D)
 |[]=>M.ret []
 |x::r=>M.bd (dat x) λd=>M.bd (cM r) λds=>M.ret (d::ds)
noncomputable def bool(x:Xv):M Bool:=match x with
 |.d (.bl b)=>M.ret b
 |_=>M.no
noncomputable def int(x:Xv):M Int:=match x with
 |.d (.int b)=>M.ret b
 |_=>M.no
noncomputable def newL(fz:Bool)(xs:List D):M Xv:=match fz with
 |true=>M.ret (.d (.fl xs))
 |false=>λs=>some (.ok (.l s.length),s++[.lst xs])
noncomputable def cI(fz:Bool)(o:Option Rz):M Xv:=match o with
 |some (.dat d)=>M.ret (.d d)
 |some (.nw xs)=>newL fz xs
 |none=>M.no
noncomputable def dh(x:Xv):M (Nat×List D):=λs=>match x with
 |.l n=>match s[n]? with
  |some (.lst xs)=>some (.ok (n,xs),s)
  |_=>none
 |_=>none
noncomputable def putL(n:Nat)(xs:List D):M Unit:=λs=>some (.ok (),s.set n (.lst xs))
noncomputable def uU:D->Option Kx
 |.non=>some .non
 |.int i=>some (.int i)
 |.tup xs=>(cH xs).map .row
 |_=>none
noncomputable def Cr:List D->Option (List Kx)
 |[]=>some []
 |x::r=>match uU x,Cr r with
  |some a,some b=>some (a::b)
  |_,_=>none
noncomputable def kOf:D->Option (List Kx)
 |.tup xs=>Cr xs
 |_=>none
noncomputable abbrev iU:=List (List Kx×D)
noncomputable def bL(k:List Kx):iU->Option D
 |[]=>none
 |p::r=>if p.1=k then some p.2 else bL k r
noncomputable def jJ(k:List Kx)(d:D)(r:iU):iU:=if (bL k r).isSome=true then r.map λp=>if p.1=k then (p.1,d) else p else r++[(k,d)]
noncomputable def cC(x:Xv):M (Nat×iU):=λs=>match x with
 |.l n=>match s[n]? with
  |some (.dct kvs)=>some (.ok (n,kvs),s)
  |_=>none
 |_=>none
noncomputable def putD(n:Nat)(kvs:iU):M Unit:=λs=>some (.ok (),s.set n (.dct kvs))
noncomputable def key(x:Xv):M (List Kx):=match x with
 |.d v=>M.opt (kOf v)
 |.l _=>M.no
noncomputable def enumFrom:Nat->List D->List D
 |_,[]=>[]
 |i,x::r=>.tup [.int i,x]::enumFrom (i+1) r
inductive Src where
 |fix (xs:List D)|live (n:Nat)|lY (n:Nat)
noncomputable def Src.at(c:Src)(i:Nat)(s:S):Option (Option D):=match c with
 |.fix xs=>some xs[i]?
 |.live n=>match s[n]? with
  |some (.lst xs)=>some xs[i]?
  |_=>none
 |.lY n=>match s[n]? with
  |some (.lst xs)=>some (xs[i]?.map λx=>.tup [.int i,x])
  |_=>none
noncomputable def oO(x:Xv):M (Src×Nat):=λs=>match x with
 |.d (.tup xs)=>some (.ok (.fix (enumFrom 0 xs),(enumFrom 0 xs).length),s)
 |.d (.fl xs)=>some (.ok (.fix (enumFrom 0 xs),(enumFrom 0 xs).length),s)
 |.l n=>match s[n]? with
  |some (.lst xs)=>some (.ok (.lY n,xs.length),s)
  |_=>none
 |_=>none
noncomputable def src(x:Xv):M (Src×Nat):=λs=>match x with
 |.d (.tup xs)=>some (.ok (.fix xs,xs.length),s)
 |.d (.fl xs)=>some (.ok (.fix xs,xs.length),s)
 |.l n=>match s[n]? with
  |some (.lst xs)=>some (.ok (.live n,xs.length),s)
  |_=>none
 |_=>none
noncomputable def qm(x:Xv):M (List D):=match x with
 |.d (.tup xs)=>M.ret xs
 |.d (.fl xs)=>M.ret xs
 |_=>M.no
noncomputable def lZ(a b:Int):List D:=(List.range (b-a).toNat).map λ(i:Nat)=>.int (a+i)
noncomputable def gA(a:Int):Bool:=decide (-(2^62)<a)&&decide (a<2^62)
noncomputable def walk(c:Src)(f:D->List D->M (List D)):Nat->Nat->List D->M (List D)
 |0,_,_=>M.no
 |k+1,i,acc=>λs=>match c.at i s with
  |none=>none
  |some none=>some (.ok acc,s)
  |some (some x)=>M.bd (f x acc) (λacc'=>walk c f k (i+1) acc') s
noncomputable def gB(f:D->M Xv):List D->Option (List Int)
 |[]=>some []
 |x::r=>match f x [] with
  |some (.ok (.d (.int k)),[])=>(gB f r).map (k::·)
  |_=>none
noncomputable abbrev Vs:=List (Option Xv)
noncomputable abbrev Fn:=Nat->List Xv->M Xv
noncomputable def locs:List Xv->List Nat
 |[]=>[]
 |.d _::r=>locs r
 |.l n::r=>n::locs r
noncomputable def dz:Nat->List Xv->List Xv
 |_,[]=>[]
 |k,.d v::r=>.d v::dz k r
 |k,.l _::r=>.l k::dz (k+1) r
noncomputable def iK(s:S):List Nat->Option S
 |[]=>some []
 |n::r=>match s[n]?,iK s r with
  |some o,some q=>some (o::q)
  |_,_=>none
noncomputable def dB(s:S):List Nat->S->S
 |n::r,o::q=>dB (s.set n o) r q
 |_,_=>s
noncomputable def bU(F:List Xv->M Xv)(xs:List Xv):M Xv:=λs=>
 if (locs xs).Nodup then match iK s (locs xs) with
  |none=>none
  |some s0=>match F (dz 0 xs) s0 with
   |none=>none
   |some (.er c fs,s1)=>some (.er c fs,dB s (locs xs) s1)
   |some (.ok (.d v),s1)=>some (.ok (.d v),dB s (locs xs) s1)
   |some (.ok (.l n),s1)=>match (locs xs)[n]? with
    |some m=>some (.ok (.l m),dB s (locs xs) s1)
    |none=>match s1[n]? with
     |some o=>some (.ok (.l s.length),dB s (locs xs) s1++[o])
     |none=>none
 else none
noncomputable def zN(F:List Xv->M Xv)(c:Nat)(vs:List Xv):M Xv:=λs=>
 if locs vs=[] then match F (.d .any::vs) [] with
  |some (.ok (.d (.tup ds)),_)=>some (.ok (.d (.ob c ds)),s)
  |_=>none
 else none
noncomputable def sV(c:Nat)(x:Xv):M (List D):=match x with
 |.d (.ob e fs)=>if e=c then M.ret fs else M.no
 |_=>M.no
noncomputable def gC{α:Type}:List Nat->List α->List (Option α)->Option (List (Option α))
 |[],[],J=>some J
 |i::is,d::ds,J=>gC is ds (J.set i (some d))
 |_,_,_=>none
noncomputable def kj:D->Option (List D)
 |.tup xs=>some xs
 |_=>none
noncomputable def fC(tg:List Nat)(x:D)(J:Vs):Option Vs:=match tg with
 |[i]=>some (J.set i (some (.d x)))
 |is=>(kj x).bind λds=>gC is (ds.map .d) J
noncomputable def blk(many:Nat)(fr:List Nat)(J:Vs):Vs:=List.replicate many none++fr.map λj=>J[j]?.join
section
variable (aq:Nat->Nat->Bool)(aj:Bool)(F:Fn)
mutual
noncomputable def ev:E->Vs->M Xv
 |.c d,_=>M.ret (.d d)
 |.v i,J=>M.opt (J[i]?.join)
 |.pr fz p xs,J=>M.bd (evs xs J) λvs=>M.bd (g_ vs) λds=>cI fz (prim p ds)
 |.xT p q a b c,J=>M.bd (ev a J) λx=>M.bd (ev b J) λy=>M.bd (g_ [x,y]) λds=>M.bd (cI true (prim p ds)) λt=>M.bd (bool t) λk=>
   if k=true then M.bd (ev c J) λz=>M.bd (g_ [y,z]) λds=>cI true (prim q ds) else M.ret (.d (.bl false))
 |.Yi p q r a b c d,J=>M.bd (ev a J) λx=>M.bd (ev b J) λy=>M.bd (g_ [x,y]) λds=>M.bd (cI true (prim p ds)) λt=>M.bd (bool t) λk=>
   if k=true then M.bd (ev c J) λz=>M.bd (g_ [y,z]) λds=>M.bd (cI true (prim q ds)) λt=>M.bd (bool t) λk2=>
    if k2=true then M.bd (ev d J) λw=>M.bd (g_ [z,w]) λds=>cI true (prim r ds) else M.ret (.d (.bl false))
   else M.ret (.d (.bl false))
 |.and a b,J=>M.bd (ev a J) λx=>M.bd (bool x) λk=>if k=true then ev b J else M.ret (.d (.bl false))
 |.or a b,J=>M.bd (ev a J) λx=>M.bd (bool x) λk=>if k=true then M.ret (.d (.bl true)) else ev b J
 |.not a,J=>M.bd (ev a J) λx=>M.bd (bool x) λk=>M.ret (.d (.bl (!k)))
 |.ite c a b,J=>M.bd (ev c J) λx=>M.bd (bool x) λk=>if k=true then ev a J else ev b J
 |.tup xs,J=>M.bd (evs xs J) λvs=>M.bd (cM vs) λds=>M.ret (.d (.tup ds))
 |.lst fz xs,J=>M.bd (evs xs J) λvs=>M.bd (cM vs) λds=>newL fz ds
 |.B_ k i,_=>M.ret (.d (.fd [.str k] [.int i]))
 |.call f xs,J=>M.bd (evs xs J) λvs=>bU (F f) vs
 |.mW a k,J=>M.bd (ev a J) λx=>M.bd (rd x) λd=>M.bd (M.opt (lX aq d k)) λb=>M.ret (.d (.bl b))
 |.sl fz a lo hi,J=>M.bd (ev a J) λx=>M.bd (tV lo J) λl=>M.bd (tV hi J) λh=>M.bd (rd x) λd=>cI fz (cutD d l h)
 |.meth fz p k o xs,J=>M.bd (ev o J) λx=>M.bd (rd x) λd=>if qg k d=true then M.bd (evs xs J) λys=>M.bd (g_ (x::ys)) λds=>cI fz (prim p ds) else M.no
 |.push o a,J=>M.bd (ev o J) λx=>M.bd (dh x) λ_=>M.bd (ev a J) λy=>M.bd (dat y) λd=>M.bd (dh x) λnx=>if nx.2.length<sizeLine then M.bd (putL nx.1 (nx.2++[d])) λ_=>M.ret (.d .non) else M.no
 |.pop o,J=>M.bd (ev o J) λx=>M.bd (dh x) λnx=>match nx.2.getLast? with
   |some d=>M.bd (putL nx.1 nx.2.dropLast) λ_=>M.ret (.d d)
   |none=>M.no
 |.comp fz elt tg it fr many cond,J=>if aj=true then M.bd (gK it J) λcn=>
   M.bd (walk cn.1 (λd acc=>M.bd (M.opt (fC tg d (blk many fr J))) λJ'=>M.bd (M.qt (mj cond J')) λok=>
    if ok=true then M.bd (M.qt (ev elt J')) λy=>M.bd (dat y) λe=>if acc.length<sizeLine then M.ret (acc++[e]) else M.no else M.ret acc) (cn.2+1) 0 []) λxs=>newL fz xs
  else M.no
 |.iJ fz elt tg it RP BW fr many cond,J=>if aj=true then M.bd (gK it J) λcn=>
   M.bd (walk cn.1 (λd acc=>M.bd (M.opt (fC tg d (blk many fr J))) λJ'=>M.bd (M.qt (gK BW J')) λqp=>
    walk qp.1 (λd2 acc=>M.bd (M.opt (fC RP d2 J')) λJl=>M.bd (M.qt (mj cond Jl)) λok=>
     if ok=true then M.bd (M.qt (ev elt Jl)) λy=>M.bd (dat y) λe=>if acc.length<sizeLine then M.ret (acc++[e]) else M.no else M.ret acc) (qp.2+1) 0 acc) (cn.2+1) 0 []) λxs=>newL fz xs
  else M.no
 |.fld o cs i,J=>M.bd (ev o J) λx=>match x with
   |.d (.exc c fs)=>if cs.contains c=true then M.opt (fs[i]?.map .d) else M.no
   |_=>M.no
 |.of o c i,J=>M.bd (ev o J) λx=>M.bd (sV c x) λfs=>M.opt (fs[i]?.map .d)
 |.mk c f xs,J=>M.bd (evs xs J) λvs=>zN (F f) c vs
 |.cm c f o xs,J=>M.bd (ev o J) λx=>M.bd (sV c x) λ_=>M.bd (evs xs J) λvs=>M.qt (bU (F f) (x::vs))
 |.oJ,_=>λs=>some (.ok (.l s.length),s++[.dct []])
 |.sJ b k d,J=>M.bd (ev k J) λx=>M.bd (ev d J) λy=>M.bd (key x) λkx=>M.bd (cC y) λnk=>M.ret (.d (.bl ((bL kx nk.2).isSome==b)))
 |.jH d k,J=>M.bd (ev d J) λy=>M.bd (ev k J) λx=>M.bd (key x) λkx=>M.bd (cC y) λnk=>M.opt ((bL kx nk.2).map .d)
 |.Ca a,J=>M.bd (ev a J) λx=>M.bd (rd x) λd=>M.bd (M.opt (xU d)) λk=>M.ret (.d (.bl k))
 |.oM fz a b,J=>if aj=true then M.bd (ev a J) λx=>match x with
   |.d (.fl xs)=>M.bd (M.opt (gB (λd=>ev b [some (.d d)]) xs)) λks=>M.bd (M.opt (jr (zK ks) xs)) λys=>newL fz ys
   |_=>M.no else M.no
 |.Yj a b,J=>M.bd (ev a J) λx=>M.bd (rd x) λd=>M.bd (M.opt (xU d)) λk=>if k=true then M.ret x else ev b J
 |.ins o i a,J=>M.bd (ev o J) λx=>M.bd (dh x) λ_=>M.bd (ev i J) λz=>M.bd (int z) λj=>M.bd (ev a J) λy=>M.bd (dat y) λd=>M.bd (dh x) λnx=>if 0<=j/\j<=nx.2.length/\nx.2.length<sizeLine then M.bd (putL nx.1 (nx.2.take j.toNat++d::nx.2.drop j.toNat)) λ_=>M.ret (.d .non) else M.no
 |.no,_=>M.no
noncomputable def gK:Wk->Vs->M (Src×Nat)
 |.seq e,J=>M.bd (ev e J) src
 |.rg a b,J=>M.bd (ev a J) λx=>M.bd (ev b J) λy=>M.bd (int x) λi=>M.bd (int y) λj=>if gA i&&gA j then M.ret (.fix (lZ i j),(lZ i j).length) else M.no
 |.zip a b,J=>M.bd (ev a J) λx=>M.bd (ev b J) λy=>M.bd (qm x) λxs=>M.bd (qm y) λys=>M.ret (.fix (List.zipWith (λp q=>.tup [p,q]) xs ys),(List.zipWith (λ(p q:D)=>D.tup [p,q]) xs ys).length)
 |.enum a,J=>M.bd (ev a J) oO
 |.Yk a,J=>M.bd (ev a J) λx=>M.bd (int x) λi=>if gA i then M.ret (.fix (lZ 0 i).reverse,(lZ 0 i).length) else M.no
noncomputable def tV:Eo->Vs->M (Option Int)
 |.no,_=>M.ret none
 |.yes a,J=>M.bd (ev a J) λx=>M.bd (int x) λi=>M.ret (some i)
noncomputable def mj:Eo->Vs->M Bool
 |.no,_=>M.ret true
 |.yes a,J=>M.bd (ev a J) bool
noncomputable def evs:Es->Vs->M (List Xv)
 |.nil,_=>M.ret []
 |.cons a r,J=>M.bd (ev a J) λx=>M.bd (evs r J) λxs=>M.ret (x::xs)
end
end
inductive Out where
 |nx (J:Vs)|rt (x:Xv)|bk (J:Vs)|ct (J:Vs)|er (c:Nat) (fs:List D) (J:Vs)
noncomputable abbrev MS:=S->Option (Out×S)
noncomputable def ofM{α:Type}(m:M α)(J:Vs)(k:α->MS):MS:=λs=>match m s with
 |some (.ok a,s')=>k a s'
 |some (.er c fs,s')=>some (.er c fs J,s')
 |none=>none
noncomputable def bO(m:MS)(k:Vs->MS):MS:=λs=>match m s with
 |some (.nx J,s')=>k J s'
 |r=>r
section
variable (aq:Nat->Nat->Bool)
noncomputable def store(aj:Bool)(F:Fn)(t:Tg)(x:Xv)(J:Vs):MS:=match t with
 |.nm i=>λs=>some (.nx (J.set i (some x)),s)
 |.tp is=>if aj=true then ofM (M.bd (dat x) λd=>M.opt ((kj d).bind λds=>gC is (ds.map .d) J)) J (λJ' s=>some (.nx J',s)) else λ_=>none
 |.aq o i=>ofM (M.bd (dat x) λd=>M.bd (ev aq aj F o J) λy=>M.bd (ev aq aj F i J) λz=>M.bd (int z) λj=>M.bd (dh y) λnx=>
   match L2.sy nx.2.length j with
   |some q=>putL nx.1 (nx.2.set q d)
   |none=>M.no) J (λ_ s=>some (.nx J,s))
noncomputable def cJ(c:Vs->M Bool)(b:Vs->MS):Nat->Vs->MS
 |0,_=>λ_=>none
 |k+1,J=>ofM (c J) J λok=>if ok=true then λs=>match b J s with
   |some (.nx J',s')=>cJ c b k J' s'
   |some (.ct J',s')=>cJ c b k J' s'
   |some (.bk J',s')=>some (.nx J',s')
   |r=>r
  else λs=>some (.nx J,s)
noncomputable def cN(c:Src)(b:D->Vs->MS):Nat->Nat->Vs->MS
 |0,_,_=>λ_=>none
 |k+1,i,J=>λs=>match c.at i s with
  |none=>none
  |some none=>some (.nx J,s)
  |some (some d)=>match b d J s with
   |some (.nx J',s')=>cN c b k (i+1) J' s'
   |some (.ct J',s')=>cN c b k (i+1) J' s'
   |some (.bk J',s')=>some (.nx J',s')
   |r=>r
noncomputable def goes(i:Nat):Out->Out
 |.nx J=>.nx (J.set i none)
 |.bk J=>.bk (J.set i none)
 |.ct J=>.ct (J.set i none)
 |r=>r
noncomputable def oR:Nat:=1000000000000
mutual
noncomputable def ex(aj:Bool)(F:Bool->Fn):St->Vs->MS
 |.pass,J=>λs=>some (.nx J,s)
 |.ex e,J=>ofM (ev aq aj (F aj) e J) J λ_ s=>some (.nx J,s)
 |.asg t e,J=>ofM (ev aq aj (F aj) e J) J λx=>store aq aj (F aj) t x J
 |.par i j a b,J=>if aj=true then ofM (M.bd (ev aq aj (F aj) a J) λx=>M.bd (ev aq aj (F aj) b J) λy=>M.ret (x,y)) J λxy s=>some (.nx ((J.set i (some xy.1)).set j (some xy.2)),s) else λ_=>none
 |.aug i e,J=>ofM (M.bd (M.opt (J[i]?.join)) λx=>M.bd (ev aq aj (F aj) e J) λy=>M.bd (int x) λp=>M.bd (int y) λq=>M.ret (p+q)) J λr s=>some (.nx (J.set i (some (.d (.int r)))),s)
 |.ret e,J=>ofM (ev aq aj (F aj) e J) J λx s=>some (.rt x,s)
 |.rise c kp xs,J=>if aj=true then ofM (M.bd (evs aq aj (F aj) xs J) cM) J λds s=>some (.er c (if kp=true then ds else []) J,s) else λ_=>none
 |.iff c t e,J=>ofM (M.bd (ev aq aj (F aj) c J) bool) J λb=>if b=true then exs aj F t J else exs aj F e J
 |.wh c b,J=>cJ (λJ=>M.bd (ev aq aj (F aj) c J) bool) (λJ=>exs aj F b J) oR J
 |.fr t w b,J=>if aj=true then ofM (gK aq aj (F aj) w J) J λcn=>cN cn.1 (λd J=>bO (store aq aj (F aj) t (.d d) J) λJ'=>exs aj F b J') (cn.2+1) 0 J else λ_=>none
 |.Ja b d i h,J=>if aj=true then λs=>match exs aj F b J s with
   |some (.er c fs J',s')=>if aq c d=true then (match exs false F h (J'.set i (some (.d (.exc c fs)))) s' with
    |some (r,s'')=>(match r with
     |.er _ _ _=>none
     |r=>some (goes i r,s''))
    |none=>none) else none
   |r=>r
  else λ_=>none
 |.dput d k v,J=>ofM (M.bd (ev aq aj (F aj) v J) λz=>M.bd (dat z) λw=>M.bd (ev aq aj (F aj) d J) λy=>M.bd (ev aq aj (F aj) k J) λx=>M.bd (key x) λkx=>M.bd (cC y) λnk=>if nk.2.length<sizeLine then putD nk.1 (jJ kx w nk.2) else M.no) J (λ_ s=>some (.nx J,s))
 |.no,_=>λ_=>none
noncomputable def exs(aj:Bool)(F:Bool->Fn):cB->Vs->MS
 |.nil,J=>λs=>some (.nx J,s)
 |.cons a r,J=>bO (ex aj F a J) λJ'=>exs aj F r J'
end
structure Df where
 many:Nat
 dD:Nat
 body:cB
noncomputable def call(T:Nat->Option Df):Nat->Bool->Fn
 |0,_,_,_=>M.no
 |k+1,aj,f,xs=>match T f with
  |none=>M.no
  |some d=>if xs.length=d.dD then λs=>match exs aq aj (λc=>call T k c) d.body (xs.map some++List.replicate (d.many-d.dD) none) s with
    |some (.nx _,s')=>some (.ok (.d .non),s')
    |some (.rt v,s')=>some (.ok v,s')
    |some (.er c fs _,s')=>some (.er c fs,s')
    |_=>none
   else M.no
end
end Mi
namespace Mi
open PySem L2
structure Ph where
 z:Addr->Prop
 l:List Addr
structure Cl where
 a:Nat->Addr
 f:Nat->List Str
 b:Nat->Addr
 g:Nat->List Str
section
variable (K:W.Frag)(cA:Cl)
def KT(a:Addr)(vs:List V):Prop:=gP K (λ_=>none) a vs
def KL(a:Addr)(vs:List V):Prop:=cT K (λ_=>none) a vs
def TupAt(U:Ph)(H:Hp)(a:Addr)(vs:List V):Prop:=(Rd H a (.tup vs)/\¬U.z a)\/KT K a vs
def LstAt(U:Ph)(H:Hp)(a:Addr)(vs:List V):Prop:=(Rd H a (.lst vs)/\¬U.z a)\/KL K a vs
def ExcAt(U:Ph)(H:Hp)(a:Addr)(c:Nat)(vs:List V):Prop:=¬U.z a/\((cA.f c=[]/\vs=[]/\H a=some (xP a (cA.a c) none))\/∃dx,H a=some (xP a (cA.a c) (some dx))/\¬U.z dx/\H dx=some (.xd ((cA.f c).zip vs))/\(cA.f c).length=vs.length)
def qu(U:Ph)(H:Hp)(a:Addr)(c:Nat)(vs:List V):Prop:=¬U.z a/\∃dx,H a=some (.ins (cA.b c) dx ((cA.g c).zip vs))/\(cA.g c).length=vs.length
mutual
inductive Rep (U:Ph) (H:Hp):D->V->Prop where
 |non:Rep U H .non .non
 |bl (b:Bool):Rep U H (.bl b) (.bl b)
 |int (i:Int):Rep U H (.int i) (.int i)
 |str (x:Str):Rep U H (.str x) (.str x)
 |tup {a:Addr} {xs:List D} {vs:List V} (h:TupAt K U H a vs) (r:aB U H xs vs):Rep U H (.tup xs) (.ref a)
 |fl {a:Addr} {xs:List D} {vs:List V} (h:LstAt K U H a vs) (r:aB U H xs vs):Rep U H (.fl xs) (.ref a)
 |fd {a:Addr} {k:Str} {i:Int} (h:H a=some (.dK [(.inr k,.int i)])) (n:¬U.z a):Rep U H (.fd [.str k] [.int i]) (.ref a)
 |exc {a:Addr} {c:Nat} {xs:List D} {vs:List V} (h:ExcAt cA U H a c vs) (r:aB U H xs vs):Rep U H (.exc c xs) (.ref a)
 |ob {a:Addr} {c:Nat} {xs:List D} {vs:List V} (h:qu cA U H a c vs) (r:aB U H xs vs):Rep U H (.ob c xs) (.ref a)
 |any (a:Addr):Rep U H .any (.ref a)
inductive aB (U:Ph) (H:Hp):List D->List V->Prop where
 |nil:aB U H [] []
 |cons {d:D} {v:V} {ds:List D} {vs:List V} (h:Rep U H d v) (r:aB U H ds vs):aB U H (d::ds) (v::vs)
end
inductive aU (U:Ph) (H:Hp):Xv->V->Prop where
 |d {x:D} {v:V} (h:Rep K cA U H x v):aU U H (.d x) v
 |l {n:Nat} {a:Addr} (h:U.l[n]?=some a):aU U H (.l n) (.ref a)
inductive aR (U:Ph) (H:Hp):List Xv->List V->Prop where
 |nil:aR U H [] []
 |cons {d:Xv} {v:V} {ds:List Xv} {vs:List V} (h:aU K cA U H d v) (r:aR U H ds vs):aR U H (d::ds) (v::vs)
noncomputable def R4:Kx->Int
 |.non=>reduceHash 0xFCA86420
 |.int i=>hashInt i
 |.row is=>reduceHash (Builtin.Tuple.tupleHashOf (is.map hashInt))
noncomputable def q_(k:List Kx):Int:=reduceHash (Builtin.Tuple.tupleHashOf (k.map R4))
noncomputable def sW:Kx->D
 |.non=>.non
 |.int i=>.int i
 |.row is=>.tup (is.map .int)
noncomputable def iM(k:List Kx):D:=.tup (k.map sW)
noncomputable abbrev m6:=List (List Kx×Addr×Value)
noncomputable def sX(a:Addr)(xs:m6):HO:=.ext λh=>(a==sysModules)=false/\xs.length<=sizeLine/\∃o es ep,h.get? a=some o/\o.ExactDict/\o.data=.dict es ep/\es.toList=xs.map (λx=>⟨q_ x.1,.ref x.2.1,x.2.2⟩)/\(xs.map (·.1)).Nodup
inductive iV (U:Ph) (H:Hp):iU->m6->Prop where
 |nil:iV U H [] []
 |cons {k:List Kx} {d:D} {ka:Addr} {u:Value} {v:V} {r:iU} {xs:m6} (hk:Rep K cA U H (iM k) (.ref ka)) (hu:RelV v u) (hv:Rep K cA U H d v) (q:iV U H r xs):iV U H ((k,d)::r) ((k,ka,u)::xs)
noncomputable def lA(U:Ph)(H:Hp)(a:Addr):SO->Prop
 |.lst xs=>∃vs,H a=some (.lst vs)/\aB K cA U H xs vs
 |.dct kvs=>∃xs,H a=some (sX a xs)/\iV K cA U H kvs xs
structure aD(U:Ph)(H:Hp)(s:S):Prop where
 len:U.l.length=s.length
 obj:∀(n:Nat) o a,s[n]?=some o->U.l[n]?=some a->lA K cA U H a o
 uniq:U.l.Nodup
 lz:∀a∈U.l,U.z a
 zt:∀a,U.z a->∃o,H a=some o
noncomputable def NT:HO->Prop
 |.lO _=>False
 |_=>True
structure Ext(U:Ph)(H:Hp)(U':Ph)(H':Hp):Prop where
 more:∃r,U'.l=U.l++r/\∀b∈r,H b=none
 qw:∀a,U.z a->U'.z a
 kE:∀a,U'.z a->U.z a\/H a=none
 frame:∀a o,H a=some o->NT o->a∉U.l->H' a=some o
 stay:∀a o,H a=some o->∃o',H' a=some o'
def aW(U:Ph)(H:Hp)(Z:L2.St)(J:Vs):Prop:=Z.length=J.length/\∀(i:Nat) (x:Xv),J[i]?=some (some x)->∃v,Z[i]?=some (some v)/\aU K cA U H x v
end
section
variable {K:W.Frag}{cA:Cl}{U U' kI:Ph}{H H' m7:Hp}{s:S}{Z:L2.St}{J:Vs}
theorem Ext.refl:Ext U H U H:=⟨⟨[],by simp,by simp⟩,λ_ h=>h,λ_ h=>.inl h,λ_ _ h _ _=>h,λ_ o h=>⟨o,h⟩⟩
theorem Ext.mz(x:Ext U H U' H'){a:Addr}(h:H' a=none):H a=none:=by
 cases e:H a with
 |none=>rfl
 |some o=>obtain⟨o',q⟩:=x.stay a o e;rw[h] at q;cases q
theorem Ext.trans(x:Ext U H U' H')(y:Ext U' H' kI m7):Ext U H kI m7:=by
 obtain⟨r,e,hr⟩:=x.more;obtain⟨r',e',hr'⟩:=y.more;refine⟨⟨r++r',by rw[e',e,Lr],λb hb=>?_⟩,λa h=>y.qw a (x.qw a h),λa h=>?_,λa o h t n=>y.frame a o (x.frame a o h t n) t ?_,λa o h=>?_⟩
 ·rcases nG.mp hb with z|z
  ·exact hr b z
  ·exact x.mz (hr' b z)
 ·rcases y.kE a h with z|z
  ·exact x.kE a z
  ·exact .inr (x.mz z)
 ·rw[e];intro z;rcases nG.mp z with z|z
  ·exact n z
  ·rw[hr a z] at h;cases h
 ·obtain⟨o',q⟩:=x.stay a o h;exact y.stay a o' q
theorem Ext.get(x:Ext U H U' H'){n:Nat}{a:Addr}(h:U.l[n]?=some a):U'.l[n]?=some a:=by
 obtain⟨r,e,_⟩:=x.more;rw[e,pF (fG.mp h).1];exact h
theorem Ext.out(x:Ext U H U' H')(hz:∀a∈U.l,U.z a){a:Addr}{o:HO}(h:H a=some o)(n:¬U.z a)(t:NT o:=by exact trivial):H' a=some o/\¬U'.z a:=
 ⟨x.frame a o h t λz=>n (hz a z),λz=>by
  rcases x.kE a z with y|y
  ·exact n y
  ·rw[h] at y;cases y⟩
theorem TupAt.mono(x:Ext U H U' H')(hz:∀a∈U.l,U.z a){a:Addr}{vs:List V}(h:TupAt K U H a vs):TupAt K U' H' a vs:=by
 rcases h with ⟨h|⟨o,h⟩,n⟩|h
 ·obtain⟨p,q⟩:=x.out hz h n;exact .inl ⟨.inl p,q⟩
 ·obtain⟨p,q⟩:=x.out hz h n;exact .inl ⟨.inr ⟨o,p⟩,q⟩
 ·exact .inr h
theorem LstAt.mono(x:Ext U H U' H')(hz:∀a∈U.l,U.z a){a:Addr}{vs:List V}(h:LstAt K U H a vs):LstAt K U' H' a vs:=by
 rcases h with ⟨h|⟨o,h⟩,n⟩|h
 ·obtain⟨p,q⟩:=x.out hz h n;exact .inl ⟨.inl p,q⟩
 ·obtain⟨p,q⟩:=x.out hz h n;exact .inl ⟨.inr ⟨o,p⟩,q⟩
 ·exact .inr h
theorem ExcAt.mono(x:Ext U H U' H')(hz:∀a∈U.l,U.z a){a:Addr}{c:Nat}{vs:List V}(h:ExcAt cA U H a c vs):ExcAt cA U' H' a c vs:=by
 obtain⟨n,⟨e1,e2,h⟩|⟨dx,h,n2,h2,h3⟩⟩:=h
 ·obtain⟨p,q⟩:=x.out hz h n;exact⟨q,.inl ⟨e1,e2,p⟩⟩
 ·obtain⟨p,q⟩:=x.out hz h n;obtain⟨p2,q2⟩:=x.out hz h2 n2;exact⟨q,.inr ⟨dx,p,q2,p2,h3⟩⟩
theorem qu.mono(x:Ext U H U' H')(hz:∀a∈U.l,U.z a){a:Addr}{c:Nat}{vs:List V}(h:qu cA U H a c vs):qu cA U' H' a c vs:=by
 obtain⟨n,dx,h,h3⟩:=h;obtain⟨p,q⟩:=x.out hz h n;exact⟨q,dx,p,h3⟩
theorem Rep.mono(x:Ext U H U' H')(hz:∀a∈U.l,U.z a){d:D}{v:V}(h:Rep K cA U H d v):Rep K cA U' H' d v:=
 Rep.rec (motive_1:=λd v _=>Rep K cA U' H' d v) (motive_2:=λd v _=>aB K cA U' H' d v) .non .bl .int .str (λh _ i=>.tup (h.mono x hz) i) (λh _ i=>.fl (h.mono x hz) i) (λh n=>.fd (x.out hz h n).1 (x.out hz h n).2) (λh _ i=>.exc (h.mono x hz) i) (λh _ i=>.ob (h.mono x hz) i) .any .nil (λ_ _ i j=>.cons i j) h
theorem aB.mono(x:Ext U H U' H')(hz:∀a∈U.l,U.z a){d:List D}{v:List V}(h:aB K cA U H d v):aB K cA U' H' d v:=
 aB.rec (motive_1:=λd v _=>Rep K cA U' H' d v) (motive_2:=λd v _=>aB K cA U' H' d v) .non .bl .int .str (λh _ i=>.tup (h.mono x hz) i) (λh _ i=>.fl (h.mono x hz) i) (λh n=>.fd (x.out hz h n).1 (x.out hz h n).2) (λh _ i=>.exc (h.mono x hz) i) (λh _ i=>.ob (h.mono x hz) i) .any .nil (λ_ _ i j=>.cons i j) h
theorem aB.map(m:∀d v,Rep K cA U H d v->Rep K cA U' H' d v):∀{d:List D} {v:List V},aB K cA U H d v->aB K cA U' H' d v
 |_,_,.nil=>.nil
 |_,_,.cons h r=>.cons (m _ _ h) (aB.map m r)
theorem iV.map(m:∀d v,Rep K cA U H d v->Rep K cA U' H' d v){d:iU}{v:m6}(h:iV K cA U H d v):iV K cA U' H' d v:=by
 induction h with
 |nil=>exact .nil
 |cons a b c _ ih=>exact .cons (m _ _ a) b (m _ _ c) ih
theorem lA.map{a:Addr}{o:SO}(h:lA K cA U H a o)(e:∀u,NT u->H a=some u->H' a=some u)(m:∀d v,Rep K cA U H d v->Rep K cA U' H' d v):lA K cA U' H' a o:=by
 cases o with
 |lst xs=>obtain⟨vs,q,r⟩:=h;exact⟨vs,e _ trivial q,r.map m⟩
 |dct xs=>obtain⟨vs,q,r⟩:=h;exact⟨vs,e _ trivial q,r.map m⟩
theorem aU.mono(x:Ext U H U' H')(hz:∀a∈U.l,U.z a){d:Xv}{v:V}(h:aU K cA U H d v):aU K cA U' H' d v:=by
 cases h with
 |d h=>exact .d (h.mono x hz)
 |l h=>exact .l (x.get h)
theorem aR.mono(x:Ext U H U' H')(hz:∀a∈U.l,U.z a):∀{ds:List Xv} {vs:List V},aR K cA U H ds vs->aR K cA U' H' ds vs
 |_,_,.nil=>.nil
 |_,_,.cons h r=>.cons (h.mono x hz) (aR.mono x hz r)
theorem aW.mono(x:Ext U H U' H')(hz:∀a∈U.l,U.z a)(h:aW K cA U H Z J):aW K cA U' H' Z J:=⟨h.1,λi d e=>let ⟨v,a,b⟩:=h.2 i d e;⟨v,a,b.mono x hz⟩⟩
theorem aB.len:∀{ds:List D} {vs:List V},aB K cA U H ds vs->ds.length=vs.length
 |_,_,.nil=>rfl
 |_,_,.cons _ r=>by rw[gZ,gZ,aB.len r]
theorem aR.len:∀{ds:List Xv} {vs:List V},aR K cA U H ds vs->ds.length=vs.length
 |_,_,.nil=>rfl
 |_,_,.cons _ r=>by rw[gZ,gZ,aR.len r]
theorem aB.get:∀{ds:List D} {vs:List V} {i:Nat} {d:D},aB K cA U H ds vs->ds[i]?=some d->∃v,vs[i]?=some v/\Rep K cA U H d v
 |_,_,_,_,.nil,e=>by simp at e
 |_,_,0,_,.cons h _,e=>by simp at e;subst e;exact⟨_,rfl,h⟩
 |_,_,i+1,d,.cons _ r,e=>by
  obtain⟨v,a,b⟩:=aB.get (i:=i) (d:=d) r (by simpa using e);exact⟨v,by simpa using a,b⟩
theorem aR.get:∀{ds:List Xv} {vs:List V} {i:Nat} {d:Xv},aR K cA U H ds vs->ds[i]?=some d->∃v,vs[i]?=some v/\aU K cA U H d v
 |_,_,_,_,.nil,e=>by simp at e
 |_,_,0,_,.cons h _,e=>by simp at e;subst e;exact⟨_,rfl,h⟩
 |_,_,i+1,d,.cons _ r,e=>by
  obtain⟨v,a,b⟩:=aR.get (i:=i) (d:=d) r (by simpa using e);exact⟨v,by simpa using a,b⟩
theorem aB.none:∀{ds:List D} {vs:List V} {i:Nat},aB K cA U H ds vs->ds[i]?=none->vs[i]?=none:=λ{ds vs i} r e=>by
 have:=r.len;have h2:ds.length<=i:=qK.mp e;exact qK.mpr gV
theorem aB.app:∀{ds es:List D} {vs us:List V},aB K cA U H ds vs->aB K cA U H es us->aB K cA U H (ds++es) (vs++us)
 |_,_,_,_,.nil,s=>s
 |_,_,_,_,.cons h r,s=>.cons h (aB.app r s)
theorem aB.take:∀{ds:List D} {vs:List V} (n:Nat),aB K cA U H ds vs->aB K cA U H (ds.take n) (vs.take n)
 |_,_,0,_=>by simp;exact .nil
 |_,_,n+1,.nil=>by simp;exact .nil
 |_,_,n+1,.cons h r=>by simp only[List.take_succ_cons];exact .cons h (aB.take n r)
theorem aB.drop:∀{ds:List D} {vs:List V} (n:Nat),aB K cA U H ds vs->aB K cA U H (ds.drop n) (vs.drop n)
 |_,_,0,r=>r
 |_,_,n+1,.nil=>by simp;exact .nil
 |_,_,n+1,.cons _ r=>by simp only[List.drop_succ_cons];exact aB.drop n r
theorem aB.set{d:D}{v:V}(h:Rep K cA U H d v):∀{ds:List D} {vs:List V} (i:Nat),aB K cA U H ds vs->aB K cA U H (ds.set i d) (vs.set i v)
 |_,_,_,.nil=>.nil
 |_,_,0,.cons _ r=>.cons h r
 |_,_,i+1,.cons q r=>.cons q (aB.set h i r)
theorem aB.cut{ds:List D}{vs:List V}{l h:Option Int}(r:aB K cA U H ds vs):aB K cA U H (Mi.cut ds l h) (mO vs l h):=by
 unfold Mi.cut mO;rw[<-r.len];exact(r.drop _).take _
def bG(H H':Hp):Prop:=∀a o,H a=some o->H' a=some o
theorem bG.refl:bG H H:=λ_ _ h=>h
theorem bG.trans(x:bG H H')(y:bG H' m7):bG H m7:=λa o h=>y a o (x a o h)
theorem bG.new{p:Addr}{o:HO}(hp:H p=none):bG H (upd H p o):=λa u h=>by rw[bT (wQ h hp)];exact h
theorem bG.ext(g:bG H H'):Ext U H U H':=⟨⟨[],by simp,by simp⟩,λ_ h=>h,λ_ h=>.inl h,λa o h _ _=>g a o h,λa o h=>⟨o,g a o h⟩⟩
theorem lA.grow{a:Addr}{o:SO}(g:bG H H')(hz:∀a∈U.l,U.z a)(h:lA K cA U H a o):lA K cA U H' a o:=h.map (λu _=>g _ u) λ_ _ r=>r.mono g.ext hz
theorem aD.grow(g:bG H H')(h:aD K cA U H s):aD K cA U H' s:=
 ⟨h.len,λn o a e1 e2=>(h.obj n o a e1 e2).grow g h.lz,h.uniq,h.lz,λa z=>let ⟨o,e⟩:=h.zt a z;⟨o,g _ _ e⟩⟩
theorem aD.nz(h:aD K cA U H s){p:Addr}(hp:H p=none):¬U.z p:=λz=>by obtain⟨o,e⟩:=h.zt p z;rw[hp] at e;cases e
noncomputable def Ph.add(U:Ph)(p:Addr):Ph:=⟨λa=>U.z a\/a=p,U.l++[p]⟩
theorem Ext.add{p:Addr}{o:HO}(hp:H p=none):Ext U H (U.add p) (upd H p o):=
 ⟨⟨[p],rfl,by simpa using hp⟩,λ_ h=>.inl h,λa h=>h.imp id λe=>by rw[e];exact hp,λa u h _ _=>bG.new hp a u h,λa u h=>⟨u,bG.new hp a u h⟩⟩
theorem aD.Jm{p:Addr}{so:SO}{ho:HO}(h:aD K cA U H s)(hp:H p=none)(hr:lA K cA (U.add p) (upd H p ho) p so):aD K cA (U.add p) (upd H p ho) (s++[so]):=by
 have pn:p∉U.l:=λz=>h.nz hp (h.lz p z);refine⟨by show (U.l++[p]).length=_;rw[pG,pG,h.len];rfl,λn o a e1 e2=>?_,?_,λa ha=>?_,λa ha=>?_⟩
 ·have e2:(U.l++[p])[n]?=some a:=e2;by_cases hn:n<s.length
  ·rw[pF hn] at e1;rw[pF (by rw[h.len];exact hn)] at e2;exact(h.obj n o a e1 e2).map (λu _=>bG.new hp _ u) λ_ _ r=>r.mono (Ext.add hp) h.lz
  ·have hl:n=s.length:=by
    have z:=(fG.mp e1).1;rw[pG] at z;simp at z
    lia
   subst hl;rw[pK (cj _)] at e1;rw[pK (by rw[h.len];exact cj _)] at e2;simp at e1;simp[h.len] at e2;subst e1 e2;exact hr
 ·show (U.l++[p]).Nodup;rw[Ls];refine⟨h.uniq,by simp,λa ha b hb e=>?_⟩;simp at hb;subst hb e;exact pn ha
 ·have ha:a∈U.l++[p]:=ha;rcases nG.mp ha with z|z
  ·exact .inl (h.lz a z)
  ·simp at z;exact .inr z
 ·rcases ha with z|z
  ·obtain⟨o,e⟩:=h.zt a z;exact⟨o,bG.new hp _ _ e⟩
  ·subst z;exact⟨_,iD⟩
theorem aD.add{p:Addr}{xs:List D}{vs:List V}(h:aD K cA U H s)(hp:H p=none)(r:aB K cA U H xs vs):aD K cA (U.add p) (upd H p (.lst vs)) (s++[.lst xs]):=h.Jm hp ⟨vs,iD,r.mono (Ext.add hp) h.lz⟩
theorem Ext.write{n:Nat}{p:Addr}{o:HO}(hp:U.l[n]?=some p)(hv:∃u,H p=some u):Ext U H U (upd H p o):=by
 have hm:p∈U.l:=gH hp;refine⟨⟨[],by simp,by simp⟩,λ_ h=>h,λ_ h=>.inl h,λa u h _ n=>by
  have ne:a≠p:=λe=>n (by rw[e];exact hm);rw[bT ne];exact h,λa u h=>?_⟩
 by_cases e:a=p
 ·subst e;exact⟨o,iD⟩
 ·exact⟨u,by rw[bT e];exact h⟩
theorem aD.uV{n:Nat}{p:Addr}{so:SO}{ho:HO}(h:aD K cA U H s)(hl:n<s.length)(hp:U.l[n]?=some p)(hr:lA K cA U (upd H p ho) p so):aD K cA U (upd H p ho) (s.set n so):=by
 have hv:=h.zt p (h.lz p (gH hp));have x:Ext U H U (upd H p ho):=Ext.write hp hv;refine⟨by rw[pO];exact h.len,λm o a e1 e2=>?_,h.uniq,h.lz,λa ha=>?_⟩
 ·by_cases hm:n=m
  ·subst hm;rw[yP hl] at e1;cases e1;rw[hp] at e2;cases e2;exact hr
  ·rw[qL hm] at e1;have ne:a≠p:=λy=>by
    subst y;exact hm ((PL (fG.mp hp).1 h.uniq).mp (hp.trans e2.symm))
   exact(h.obj m o a e1 e2).map (λ_ _ q=>by rw[bT ne];exact q) λ_ _ r=>r.mono x h.lz
 ·obtain⟨o,e⟩:=h.zt a ha;obtain⟨o',e'⟩:=x.stay a o e;exact⟨o',e'⟩
theorem aD.write{n:Nat}{p:Addr}{xs ys:List D}{us:List V}(h:aD K cA U H s)(hn:s[n]?=some (.lst xs))(hp:U.l[n]?=some p)(r:aB K cA U H ys us):aD K cA U (upd H p (.lst us)) (s.set n (.lst ys)):=
 h.uV (fG.mp hn).1 hp ⟨us,iD,r.mono (Ext.write hp (h.zt p (h.lz p (gH hp)))) h.lz⟩
theorem aW.set{i:Nat}{d:Xv}{v:V}(hL:aW K cA U H Z J)(r:aU K cA U H d v):aW K cA U H (Z.set i (some v)) (J.set i (some d)):=by
 refine⟨by rw[pO,pO];exact hL.1,λj e h=>?_⟩;by_cases wX:i=j
 ·subst wX;by_cases hl:i<J.length
  ·rw[yP hl] at h;cases h;exact⟨v,by rw[yP (by rw[hL.1];exact hl)],r⟩
  ·rw[List.getElem?_eq_none (by rw[pO];lia)] at h;cases h
 ·rw[qL wX] at h;obtain⟨u,a,b⟩:=hL.2 j e h;exact⟨u,by rw[qL wX];exact a,b⟩
theorem TupAt.jK{a:Addr}{vs:List V}(h:TupAt K U H a vs):gP K H a vs:=by
 rcases h with ⟨h,_⟩|(h|h)
 ·exact .inl h
 ·rcases h with h|⟨o,h⟩<;>cases h
 ·exact .inr h
theorem LstAt.sY{a:Addr}{vs:List V}(h:LstAt K U H a vs):cT K H a vs:=by
 rcases h with ⟨h,_⟩|(h|h)
 ·exact .inl h
 ·rcases h with h|⟨o,h⟩<;>cases h
 ·exact .inr h
theorem TupAt.new{p:Addr}{vs:List V}(hz:¬U.z p):TupAt K U (upd H p (.tup vs)) p vs:=.inl ⟨.inl iD,hz⟩
theorem LstAt.new{p:Addr}{vs:List V}(hz:¬U.z p):LstAt K U (upd H p (.lst vs)) p vs:=.inl ⟨.inl iD,hz⟩
end
end Mi
namespace Mi
open PySem PySem.Spec PyProof.Rows L2
theorem un{α β γ:Type}{A B C:α->β->γ->Prop}{R:Prop}(h:∃a b c,A a b c/\B a b c/\C a b c)(f:∀a b c,A a b c->B a b c->C a b c->R):R:=by
 obtain⟨a,b,c,x,y,z⟩:=h;exact f a b c x y z
section
variable (K:W.Frag)(cA:Cl)
def Run{α:Type}(m:M α)(U:Ph)(H:Hp)(s:S)(P:α->S->Ph->Hp->Prop)(Ee:Nat->List D->S->Ph->Hp->Prop):Prop:=
 match m s with
 |some (.ok a,s')=>∀U' H',Ext U H U' H'->aD K cA U' H' s'->P a s' U' H'
 |some (.er c f,s')=>∀U' H',Ext U H U' H'->aD K cA U' H' s'->Ee c f s' U' H'
 |none=>False
def kJ(U:Ph)(H:Hp)(c:Nat)(fs:List D)(dx:Option Addr):Prop:=
 (cA.f c=[]/\fs=[]/\dx=none)\/∃d vs,dx=some d/\¬U.z d/\H d=some (.xd ((cA.f c).zip vs))/\(cA.f c).length=vs.length/\aB K cA U H fs vs
noncomputable def eX(EX:XS)(Z:L2.St):Nat->List D->S->Ph->Hp->Prop:=λc fs _ U' H'=>∀dx,kJ K cA U' H' c fs dx->EX Z (.ref (cA.a c)) dx H'
noncomputable def tE(EX:XS)(m:Vs->M Xv):TE:=λZ H Q=>∃U J s,aW K cA U H Z J/\aD K cA U H s/\Run K cA (m J) U H s (λd _ U' H'=>∀v,aU K cA U' H' d v->Q v H') (eX K cA EX Z)
noncomputable def R5(EX:XS)(m:Vs->M (List Xv)):TA:=λZ H Q=>∃U J s,aW K cA U H Z J/\aD K cA U H s/\Run K cA (m J) U H s (λd _ U' H'=>∀v,aR K cA U' H' d v->Q v H') (eX K cA EX Z)
noncomputable def qx(EX:XS)(m:Vs->M Bool):TT:=λZ H Q=>∃U J s,aW K cA U H Z J/\aD K cA U H s/\Run K cA (m J) U H s (λd _ U' H'=>Q d H') (eX K cA EX Z)
def Rv(U:Ph)(H:Hp)(d:D)(v:V):Prop:=match d with
 |.fl xs=>∃a vs,v=.ref a/\cT K H a vs/\aB K cA U H xs vs
 |d=>Rep K cA U H d v
inductive xV (U:Ph) (H:Hp):List D->List V->Prop where
 |nil:xV U H [] []
 |cons {d:D} {v:V} {ds:List D} {vs:List V} (h:Rv K cA U H d v) (r:xV U H ds vs):xV U H (d::ds) (v::vs)
def bK(U:Ph)(H:Hp)(o:Option Rz)(Q:VK):Prop:=match o with
 |none=>False
 |some (.dat d)=>∀H' v,bG H H'->Rep K cA U H' d v->Q v H'
 |some (.nw xs)=>∀p vs,H p=none->aB K cA U H xs vs->Q (.ref p) (upd H p (.lst vs))
structure Zt(U:Ph)(H:Hp):Prop where
 lz:∀a∈U.l,U.z a
 zt:∀a,U.z a->∃o,H a=some o
def bH(p:Pr)(r:List V->Hp->VK->Prop):Prop:=∀(U:Ph) (H:Hp) (ds:List D) (vs:List V) (Q:VK),Zt U H->xV K cA U H ds vs->bK K cA U H (prim p ds) Q->r vs H Q
end
section
variable {K:W.Frag}{cA:Cl}{U U':Ph}{H H':Hp}{s:S}{Z:L2.St}{J:Vs}{EX:XS}
theorem aD.zs(h:aD K cA U H s):Zt U H:=⟨h.lz,h.zt⟩
theorem Zt.nz(h:Zt U H)(hp:H p=none):¬U.z p:=λz=>by obtain⟨o,e⟩:=h.zt p z;rw[hp] at e;cases e
theorem Rep.rv{d:D}{v:V}(h:Rep K cA U H d v):Rv K cA U H d v:=by
 cases h with
 |fl h r=>exact⟨_,_,rfl,h.sY,r⟩
 |non=>exact .non
 |bl b=>exact .bl b
 |int b=>exact .int b
 |str b=>exact .str b
 |tup h r=>exact .tup h r
 |fd h n=>exact .fd h n
 |exc h r=>exact .exc h r
 |ob h r=>exact .ob h r
 |any v=>exact .any v
theorem Run.bd{α β:Type}{m:M α}{k:α->M β}{P:β->S->Ph->Hp->Prop}{Ee:Nat->List D->S->Ph->Hp->Prop}(h:Run K cA (M.bd m k) U H s P Ee):Run K cA m U H s (λa s1 U1 H1=>Ext U H U1 H1/\aD K cA U1 H1 s1/\Run K cA (k a) U1 H1 s1 P Ee) Ee:=by
 unfold Run M.bd at *;cases e:m s with
 |none=>rw[e] at h;exact h
 |some r=>
  obtain⟨r,s1⟩:=r;rw[e] at h;cases r with
  |er c f=>exact h
  |ok a=>
   intro U1 H1 x1 r1;refine⟨x1,r1,?_⟩;dsimp only at h ⊢;cases e2:k a s1 with
   |none=>rw[e2] at h;exact h
   |some q=>
    obtain⟨q,s2⟩:=q;rw[e2] at h;cases q with
    |ok b=>exact λU2 H2 x2 r2=>h U2 H2 (x1.trans x2) r2
    |er c f=>exact λU2 H2 x2 r2=>h U2 H2 (x1.trans x2) r2
theorem Run.imp{α:Type}{m:M α}{P P':α->S->Ph->Hp->Prop}{Ee:Nat->List D->S->Ph->Hp->Prop}(h:Run K cA m U H s P Ee)(f:∀a s' U' H',P a s' U' H'->P' a s' U' H'):Run K cA m U H s P' Ee:=by
 unfold Run at *;split at h
 ·exact λU' H' x r=>f _ _ _ _ (h U' H' x r)
 ·exact h
 ·exact h
theorem Run.ext(x:Ext U H U' H')(h:Run K cA m U H s P Ee):Run K cA m U' H' s P Ee:=by
 unfold Run at *;split at h
 ·exact λU2 H2 y r=>h U2 H2 (x.trans y) r
 ·exact λU2 H2 y r=>h U2 H2 (x.trans y) r
 ·exact h.elim
theorem Run.bC{α:Type}{a:α}{P:α->S->Ph->Hp->Prop}{Ee:Nat->List D->S->Ph->Hp->Prop}(r:aD K cA U H s)(h:Run K cA (M.ret a) U H s P Ee):P a s U H:=h U H Ext.refl r
theorem Run.opt{α:Type}{o:Option α}{P:α->S->Ph->Hp->Prop}{Ee:Nat->List D->S->Ph->Hp->Prop}(r:aD K cA U H s)(h:Run K cA (M.opt o) U H s P Ee):∃a,o=some a/\P a s U H:=by
 cases o with
 |none=>exact h.elim
 |some a=>exact⟨a,rfl,h U H Ext.refl r⟩
theorem Run.m8(h:Run K cA (M.bd (M.opt o) k) U H s P Ee):∃a,o=some a/\Run K cA (k a) U H s P Ee:=by
 cases o with
 |none=>exact h.elim
 |some a=>exact⟨a,rfl,h⟩
theorem Jo{β:Type}{x:Xv}{v:V}{k:Bool->M β}{P:β->S->Ph->Hp->Prop}{Ee:Nat->List D->S->Ph->Hp->Prop}(r:aU K cA U H x v)(h:Run K cA (M.bd (bool x) k) U H s P Ee):∃b,x=.d (.bl b)/\v=.bl b/\Run K cA (k b) U H s P Ee:=by
 cases r with
 |l _=>exact h.elim
 |d r=>cases r with
  |bl b=>exact⟨b,rfl,rfl,h⟩
  |_=>exact h.elim
theorem Cu(r:aU K cA U H x v)(h:Run K cA (M.bd (int x) k) U H s P Ee):∃b,x=.d (.int b)/\v=.int b/\Run K cA (k b) U H s P Ee:=by
 cases r with
 |l _=>exact h.elim
 |d r=>cases r with
  |int b=>exact⟨b,rfl,rfl,h⟩
  |_=>exact h.elim
theorem Ni(r:aU K cA U H x v)(h:Run K cA (M.bd (dat x) k) U H s P Ee):∃d,x=.d d/\Rep K cA U H d v/\Run K cA (k d) U H s P Ee:=by
 cases r with
 |l _=>exact h.elim
 |d r=>exact⟨_,rfl,r,h⟩
theorem R6:∀{xs:List Xv} {vs:List V} {k:List D->M β} {P:β->S->Ph->Hp->Prop} {Ee:Nat->List D->S->Ph->Hp->Prop},aR K cA U H xs vs->Run K cA (M.bd (cM xs) k) U H s P Ee->∃ds,xs=ds.map .d/\aB K cA U H ds vs/\Run K cA (k ds) U H s P Ee:=by
 intro xs
 induction xs with
 |nil=>intro vs k P Ee r h;cases r;exact⟨[],rfl,.nil,h⟩
 |cons x xs ih=>
  intro vs k P Ee r h;cases r with
  |cons a r=>
   cases a with
   |l _=>exact h.elim
   |@d y v a=>
    have h2:Run K cA (M.bd (cM xs) λds=>k (y::ds)) U H s P Ee:=by
     unfold Run M.bd cM dat at h;unfold Run M.bd;simp only[M.bd,M.ret] at h;cases e:cM xs s with
     |none=>simp only[e] at h
     |some q=>
      obtain⟨q,s1⟩:=q;simp only[e] at h;cases q with
      |ok ds=>exact h
      |er c f=>exact h
    obtain⟨ds,e,rs,h3⟩:=ih r h2;exact⟨y::ds,by rw[e];rfl,.cons a rs,h3⟩
theorem Jp(hS:aD K cA U H s)(r:aU K cA U H x v)(h:Run K cA (M.bd (rd x) k) U H s P Ee):∃d,Rv K cA U H d v/\Run K cA (k d) U H s P Ee:=by
 cases r with
 |d r=>exact⟨_,r.rv,h⟩
 |@l n a hl=>
  unfold Run M.bd rd at h;dsimp only at h;cases e:s[n]? with
  |none=>rw[e] at h;exact h.elim
  |some o=>
   rw[e] at h;cases o with
   |lst xs=>
    obtain⟨vs,q1,q2⟩:=hS.obj n _ _ e hl;exact⟨.fl xs,⟨a,vs,rfl,cT.of q1,q2⟩,h⟩
   |_=>exact h.elim
theorem gQ{α β γ:Type}(m:M α)(f:α->M β)(g:β->M γ):M.bd (M.bd m f) g=M.bd m λx=>M.bd (f x) g:=by
 funext s
 unfold M.bd;cases m s with
 |none=>rfl
 |some r=>
  obtain⟨r,s1⟩:=r;cases r<;>rfl
theorem uW{β:Type}:∀{xs:List Xv} {vs:List V} {k:List D->M β} {P:β->S->Ph->Hp->Prop} {Ee:Nat->List D->S->Ph->Hp->Prop},aD K cA U H s->aR K cA U H xs vs->Run K cA (M.bd (g_ xs) k) U H s P Ee->∃ds,xV K cA U H ds vs/\Run K cA (k ds) U H s P Ee:=by
 intro xs
 induction xs with
 |nil=>intro vs k P Ee hS r h;cases r;exact⟨[],.nil,h⟩
 |cons x xs ih=>
  intro vs k P Ee hS r h;cases r with
  |cons a r=>
   have h2:Run K cA (M.bd (rd x) λd=>M.bd (g_ xs) λds=>k (d::ds)) U H s P Ee:=by
    have e:M.bd (g_ (x::xs)) k=M.bd (rd x) λd=>M.bd (g_ xs) λds=>k (d::ds):=by
     show M.bd (M.bd (rd x) λd=>M.bd (g_ xs) λds=>M.ret (d::ds)) k=_;rw[gQ]
     congr 1
     funext d
     rw[gQ];rfl
    rw[e] at h;exact h
   obtain⟨d,rd,h3⟩:=Jp hS a h2;obtain⟨ds,rs,h4⟩:=ih hS r h3;exact⟨d::ds,.cons rd rs,h4⟩
theorem tW{fz:Bool}{o:Option Rz}{Q:VK}{Ee:Nat->List D->S->Ph->Hp->Prop}(hS:aD K cA U H s)(h:Run K cA (cI fz o) U H s (λx _ U' H'=>∀v,aU K cA U' H' x v->Q v H') Ee):bK K cA U H o Q:=by
 cases o with
 |none=>exact h.elim
 |some z=>
  cases z with
  |dat d=>exact λH' v g r=>h U H' g.ext (hS.grow g) v (.d r)
  |nw xs=>
   intro p vs hp r;cases fz with
   |true=>exact h U _ (bG.new hp).ext (hS.grow (bG.new hp)) _ (.d (.fl (LstAt.new (hS.nz hp)) (r.mono (bG.new hp).ext hS.lz)))
   |false=>exact h (U.add p) _ (Ext.add hp) (hS.add hp r) _ (.l (by show (U.l++[p])[s.length]?=_;rw[<-hS.len];simp))
theorem Yl{fz:Bool}{xs:List D}{Q:VK}{Ee:Nat->List D->S->Ph->Hp->Prop}(hS:aD K cA U H s)(h:Run K cA (newL fz xs) U H s (λx _ U' H'=>∀v,aU K cA U' H' x v->Q v H') Ee):∀p vs,H p=none->aB K cA U H xs vs->Q (.ref p) (upd H p (.lst vs)):=
 tW (o:=some (.nw xs)) hS h
theorem aX{β:Type}{ma:Vs->M Xv}{k:Xv->M β}{P:β->S->Ph->Hp->Prop}(hL:aW K cA U H Z J)(hS:aD K cA U H s)(h:Run K cA (M.bd (ma J) k) U H s P (eX K cA EX Z)){Q:VK}
  (f:∀x H1 U1 d s1,Ext U H U1 H1->aW K cA U1 H1 Z J->aD K cA U1 H1 s1->aU K cA U1 H1 d x->Run K cA (k d) U1 H1 s1 P (eX K cA EX Z)->Q x H1):tE K cA EX ma Z H Q:=
 ⟨U,J,s,hL,hS,h.bd.imp λd s1 U1 H1 ⟨x1,r1,h1⟩ v rv=>f v H1 U1 d s1 x1 (hL.mono x1 hS.lz) r1 rv h1⟩
theorem oU{β:Type}{ma:Vs->M (List Xv)}{k:List Xv->M β}{P:β->S->Ph->Hp->Prop}(hL:aW K cA U H Z J)(hS:aD K cA U H s)(h:Run K cA (M.bd (ma J) k) U H s P (eX K cA EX Z)){Q:List V->Hp->Prop}
  (f:∀x H1 U1 d s1,Ext U H U1 H1->aW K cA U1 H1 Z J->aD K cA U1 H1 s1->aR K cA U1 H1 d x->Run K cA (k d) U1 H1 s1 P (eX K cA EX Z)->Q x H1):R5 K cA EX ma Z H Q:=
 ⟨U,J,s,hL,hS,h.bd.imp λd s1 U1 H1 ⟨x1,r1,h1⟩ v rv=>f v H1 U1 d s1 x1 (hL.mono x1 hS.lz) r1 rv h1⟩
theorem xW(hL:aW K cA U H Z J)(hS:aD K cA U H s)(h:Run K cA (M.bd (ma J) k) U H s P (eX K cA EX Z))
  (f:∀b H1 U1 s1,Ext U H U1 H1->aW K cA U1 H1 Z J->aD K cA U1 H1 s1->Run K cA (k b) U1 H1 s1 P (eX K cA EX Z)->Q b H1):qx K cA EX ma Z H Q:=
 ⟨U,J,s,hL,hS,h.bd.imp λd s1 U1 H1 ⟨x1,r1,h1⟩=>f d H1 U1 s1 x1 (hL.mono x1 hS.lz) r1 h1⟩
end
section
variable (X:Cx)(cA:Cl)(aq:Nat->Nat->Bool)(aj:Bool)(F:Fn)(EX:XS)
def SE(e:Expr)(m:E):Prop:=PE X e (tE X.K cA EX (ev aq aj F m))
def SA(es:List Expr)(m:Es):Prop:=PA X es (R5 X.K cA EX (evs aq aj F m))
def ST(e:Expr)(m:E):Prop:=PT X e (qx X.K cA EX (λJ=>M.bd (ev aq aj F m J) bool))
def SW(e:Expr)(m:E):Prop:=PW X e (qx X.K cA EX (λJ=>M.bd (ev aq aj F m J) bool))
end
section
variable {X:Cx}{cA:Cl}{aq:Nat->Nat->Bool}{aj:Bool}{F:Fn}{EX:XS}{a b c d e:Expr}{A B C Dd E':E}{pos:Pos}{es:List Expr}{Xs:Es}{fz:Bool}{p:Pr}
theorem PE.weak{t t':TE}(h:PE X e t)(f:∀Z H Q,t' Z H Q->t Z H Q):PE X e t':=λao s Z H Q I q=>h ao s Z H Q I (f Z H Q q)
theorem PT.weak{t t':TT}(h:PT X e t)(f:∀Z H Q,t' Z H Q->t Z H Q):PT X e t':=λao s Z H Q I q=>h ao s Z H Q I (f Z H Q q)
theorem PW.weak{t t':TT}(h:PW X e t)(f:∀Z H Q,t' Z H Q->t Z H Q):PW X e t':=λwh ao s Z H Q I q=>h wh ao s Z H Q I (f Z H Q q)
theorem PA.weak{t t':TA}(h:PA X es t)(f:∀Z H Q,t' Z H Q->t Z H Q):PA X es t':=λp ao s Z H Q I q=>h p ao s Z H Q I (f Z H Q q)
theorem zl2{i j p}:SE X cA aq aj F EX (.Constant (.int i) j p) (.c (.int i)):=PE.weak zlM λZ H Q hh=>un hh λU J s hL hS h=>h.bC hS _ (.d (.int i))
theorem znt{i j p}:SE X cA aq aj F EX (.Constant (.bool i) j p) (.c (.bl i)):=PE.weak znz λZ H Q hh=>un hh λU J s hL hS h=>h.bC hS _ (.d (.bl i))
theorem zly{j p}:SE X cA aq aj F EX (.Constant .none j p) (.c .non):=PE.weak zlK λZ H Q hh=>un hh λU J s hL hS h=>h.bC hS _ (.d .non)
theorem Nj{α:Type}{o:Option (Option α)}{x:α}(h:o.join=some x):o=some (some x):=by
 cases o with
 |none=>cases h
 |some y=>cases y with
  |none=>cases h
  |some z=>cases h;rfl
theorem Ym(i:Nat){x:Str}(hN:X.N[i]?=some x:=by rfl)(hv:Mf X.env.scope x:=by first|exact Or.inl rfl|exact Or.inr (Or.inl rfl)|exact Or.inr (Or.inr rfl))(hd:(x==("__debug__" : Str))=false:=by decide)
  (iG:(x==("__classdict__" : Str))=false:=by decide):SE X cA aq aj F EX (.Name x pos) (.v i):=PE.weak (WM hN hv hd iG) λZ H Q hh=>un hh λU J s hL hS h=>by
 obtain⟨dd,e1,q⟩:=Run.opt hS h;obtain⟨v,q1,q2⟩:=hL.2 i dd (Nj e1);exact⟨v,q1,q v q2⟩
theorem zjO{x:Str}{i:Int}{t:Tok}(hg:Gl X x)(hm:X.mg x=some (.int i t))(hd:(x==("__debug__" : Str))=false:=by decide):SE X cA aq aj F EX (.Name x pos) (.c (.int i)):=PE.weak (zj1 (v:=.int i) hg hm ⟨t,rfl⟩ hd) λZ H Q hh=>un hh λU J s hL hS h=>h.bC hS _ (.d (.int i))
theorem zkA:SA X cA aq aj F EX [] .nil:=PA.weak xq λZ H Q hh=>un hh λU J s hL hS h=>h.bC hS _ .nil
theorem zjF(ha:SE X cA aq aj F EX a A)(hr:SA X cA aq aj F EX es Xs)(hs:starEach (a::es) X.env=(false,eval a X.env)::starEach es X.env:=by rfl):SA X cA aq aj F EX (a::es) (.cons A Xs):=PA.weak (rY ha hr hs) λZ H Q hh=>un hh λU J s hL hS h=>by
 refine aX hL hS h λx H1 U1 d1 s1 x1 hL1 aG r1 h1=>oU hL1 aG h1 λys H2 U2 d2 s2 x2 hL2 aM r2 h2=>h2.bC aM _ (.cons (r1.mono x2 aG.lz) r2)
theorem Nk{U U1 U2:Ph}{H1 H2:Hp}{s1 s2:S}{d1 d2:Xv}{x y:V}{Q:VK}{Ee:Nat->List D->S->Ph->Hp->Prop}(x2:Ext U1 H1 U2 H2)(aG:aD X.K cA U1 H1 s1)(aM:aD X.K cA U2 H2 s2)(r1:aU X.K cA U1 H1 d1 x)(r2:aU X.K cA U2 H2 d2 y)
  (h:Run X.K cA (M.bd (g_ [d1,d2]) λds=>cI fz (prim p ds)) U2 H2 s2 (λx _ U' H'=>∀v,aU X.K cA U' H' x v->Q v H') Ee) {r:List V->Hp->VK->Prop} (hp:bH X.K cA p r):r [x,y] H2 Q:=by
 obtain⟨ds,rs,h2⟩:=uW aM (.cons (r1.mono x2 aG.lz) (.cons r2 .nil)) h;exact hp U2 H2 ds _ Q aM.zs rs (tW aM h2)
noncomputable def r2(r:R2):List V->Hp->VK->Prop:=λvs H Q=>∃x y,vs=[x,y]/\r x y H Q
theorem Fl{r:R2}{x y:V}{H:Hp}{Q:VK}(h:r2 r [x,y] H Q):r x y H Q:=by
 obtain⟨_,_,e,q⟩:=h;cases e;exact q
theorem zk1{op:Operator}{r:R2}(ho:fP X (binaryOp op) r)(hp:bH X.K cA p (r2 r))(ha:SE X cA aq aj F EX a A)(hb:SE X cA aq aj F EX b B):SE X cA aq aj F EX (.BinOp a op b pos) (.pr fz p (.cons A (.cons B .nil))):=PE.weak (zmS ho ha hb) λZ H Q hh=>un hh λU J s hL hS h=>by
 have h:Run X.K cA (M.bd (M.bd (ev aq aj F A J) λx=>M.bd (M.bd (ev aq aj F B J) λy=>M.bd (M.ret []) λz=>M.ret (y::z)) λys=>M.ret (x::ys)) λvs=>M.bd (g_ vs) λds=>cI fz (prim p ds)) U H s _ _:=h;simp only[gQ] at h;refine aX hL hS h λx H1 U1 d1 s1 x1 hL1 aG r1 h1=>aX hL1 aG h1 λy H2 U2 d2 s2 x2 hL2 aM r2' h2=>?_;exact Fl (Nk (fz:=fz) (U:=U) x2 aG aM r1 r2' h2 hp)
theorem zms{op:CmpOp}{r:R2}(ho:fP X (compareOp op) r)(hp:bH X.K cA p (r2 r))(ha:SE X cA aq aj F EX a A)(hb:SE X cA aq aj F EX b B)(hm:behindInMarks op b=false):SE X cA aq aj F EX (.Compare a [op] [b] pos) (.pr true p (.cons A (.cons B .nil))):=PE.weak (zi6 ho ha hb hm) λZ H Q hh=>un hh λU J s hL hS h=>by
 have h:Run X.K cA (M.bd (M.bd (ev aq aj F A J) λx=>M.bd (M.bd (ev aq aj F B J) λy=>M.bd (M.ret []) λz=>M.ret (y::z)) λys=>M.ret (x::ys)) λvs=>M.bd (g_ vs) λds=>cI true (prim p ds)) U H s _ _:=h;simp only[gQ] at h;refine aX hL hS h λx H1 U1 d1 s1 x1 hL1 aG r1 h1=>aX hL1 aG h1 λy H2 U2 d2 s2 x2 hL2 aM r2' h2=>?_;exact Fl (Nk (fz:=true) (U:=U) x2 aG aM r1 r2' h2 hp)
theorem iT{A B:Prop}(h:A):if true=true then A else B:=by rw[if_pos rfl];exact h
theorem iF{A B:Prop}(h:B):if false=true then A else B:=by rw[if_neg Gv];exact h
theorem zlW{op:CmpOp}{r:R2}(ho:fP X (compareOp op) r)(hp:bH X.K cA p (r2 r))(ha:SE X cA aq aj F EX a A)(hb:SE X cA aq aj F EX b B)(hm:behindInMarks op b=false):ST X cA aq aj F EX (.Compare a [op] [b] pos) (.pr true p (.cons A (.cons B .nil))):=PT.weak (zi1 ho ha hb hm) λZ H Q hh=>un hh λU J s hL hS h=>by
 have h:Run X.K cA (M.bd (M.bd (M.bd (ev aq aj F A J) λx=>M.bd (M.bd (ev aq aj F B J) λy=>M.bd (M.ret []) λz=>M.ret (y::z)) λys=>M.ret (x::ys)) λvs=>M.bd (g_ vs) λds=>cI true (prim p ds)) bool) U H s _ _:=h;simp only[gQ] at h;refine aX hL hS h λx H1 U1 d1 s1 x1 hL1 aG r1 h1=>aX hL1 aG h1 λy H2 U2 d2 s2 x2 hL2 aM r2' h2=>?_;obtain⟨ds,rs,h3⟩:=uW aM (.cons (r1.mono x2 aG.lz) (.cons r2' .nil)) h2;refine Fl (hp U2 H2 ds _ _ aM.zs rs (tW (Ee:=eX X.K cA EX Z) aM (h3.bd.imp λt s3 U3 H3 ⟨x3,fV,h4⟩ v rv=>?_)));cases rv with
 |l _=>exact h4.elim
 |d rv=>cases rv with
  |bl k=>exact⟨k,rfl,h4 U3 H3 Ext.refl fV⟩
  |_=>exact h4.elim
theorem zlh{op op':CmpOp}{r r':R2}{q:Pr}(ho:fP X (compareOp op) r)(hp:bH X.K cA p (r2 r))(pU:fP X (compareOp op') r')(hp':bH X.K cA q (r2 r'))(ha:SE X cA aq aj F EX a A)(hb:SE X cA aq aj F EX b B)(hc:SE X cA aq aj F EX c C)(hm:lastMarks [op,op'] [b,c]=false:=by with_unfolding_all rfl) :
  SE X cA aq aj F EX (.Compare a [op,op'] [b,c] pos) (.xT p q A B C):=PE.weak (zh6 ho pU ha hb hc hm) λZ H Q hh=>un hh λU J s hL hS h=>by
 refine aX hL hS h λx H1 U1 d1 s1 x1 hL1 aG r1 h1=>aX hL1 aG h1 λy H2 U2 d2 s2 x2 hL2 aM r2' h2=>?_;obtain⟨ds,rs,h3⟩:=uW aM (.cons (r1.mono x2 aG.lz) (.cons r2' .nil)) h2;refine Fl (hp U2 H2 ds _ _ aM.zs rs (tW (Ee:=eX X.K cA EX Z) aM (h3.bd.imp λt s3 U3 H3 ⟨x3,fV,h4⟩ v rv=>?_)));obtain⟨k,_,e,h5⟩:=Jo rv h4;refine⟨k,e,?_⟩;cases k with
 |false=>exact iF (h5.bC fV _ (.d (.bl _)))
 |true=>
  have nQ:=hL2.mono x3 aM.lz;refine iT (aX nQ fV h5 λz H4 U4 d4 s4 x4 hL4 rm r4 h6=>?_);exact Fl (Nk (fz:=true) (U:=U) x4 fV rm (r2'.mono x3 aM.lz) r4 h6 hp')
theorem zlg(ha:SE X cA aq aj F EX a A):SE X cA aq aj F EX (.UnaryOp .Not a pos) (.not A):=PE.weak (zkG ha) λZ H Q hh=>un hh λU J s hL hS h=>by
 refine aX hL hS h λx H1 U1 d1 s1 x1 hL1 aG r1 h1=>?_;obtain⟨i,_,e,h3⟩:=Jo r1 h1;exact⟨i,e,h3.bC aG _ (.d (.bl _))⟩
theorem zlF{op}(ha:SE X cA aq aj F EX a A):SE X cA aq aj F EX (.BoolOp op [a] pos) A:=zmt ha
theorem zmn{rest:List Expr}(ha:SE X cA aq aj F EX a A)(hb:SE X cA aq aj F EX (.BoolOp .And (b::rest) pos) B):SE X cA aq aj F EX (.BoolOp .And (a::b::rest) pos) (.and A B):=PE.weak (zlz ha hb) λZ H Q hh=>un hh λU J s hL hS h=>by
 refine aX hL hS h λx H1 U1 d1 s1 x1 hL1 aG r1 h1=>?_;obtain⟨i,_,e,h3⟩:=Jo r1 h1;refine⟨i,e,?_⟩;cases i with
 |true=>exact iT ⟨U1,J,s1,hL1,aG,h3⟩
 |false=>exact iF (h3.bC aG _ (.d (.bl _)))
theorem znw{rest:List Expr}(ha:SE X cA aq aj F EX a A)(hb:SE X cA aq aj F EX (.BoolOp .Or (b::rest) pos) B):SE X cA aq aj F EX (.BoolOp .Or (a::b::rest) pos) (.or A B):=PE.weak (zm0 ha hb) λZ H Q hh=>un hh λU J s hL hS h=>by
 refine aX hL hS h λx H1 U1 d1 s1 x1 hL1 aG r1 h1=>?_;obtain⟨i,_,e,h3⟩:=Jo r1 h1;refine⟨i,e,?_⟩;cases i with
 |true=>exact iT (h3.bC aG _ (.d (.bl _)))
 |false=>exact iF ⟨U1,J,s1,hL1,aG,h3⟩
end
section
variable {X:Cx}{cA:Cl}{aq:Nat->Nat->Bool}{aj:Bool}{F:Fn}{EX:XS}{a b c d e o:Expr}{A B C Dd E' O:E}{pos pp p2 apos:Pos}{es:List Expr}{Xs:Es}{fz:Bool}{p:Pr}{x:Str}
theorem zlB(ha:SE X cA aq aj F EX a A)(he:∀whole,isTrue a X.env whole=(do let v <-whole;standAt a.pos;holding [v] (truthy v)):=by intro _;rfl):ST X cA aq aj F EX a A:=PT.weak (zl1 ha he) λZ H Q hh=>un hh λU J s hL hS h=>by
 refine aX hL hS h λx H1 U1 d1 s1 x1 hL1 aG r1 h1=>?_;have h1:Run X.K cA (M.bd (bool d1) M.ret) U1 H1 s1 (λd _ U' H'=>Q d H') (eX X.K cA EX Z):=by
  cases d1 with
  |l n=>exact h1
  |d v=>cases v<;>exact h1
 obtain⟨k,_,e,q⟩:=Jo r1 h1;exact⟨k,e,q.bC aG⟩
theorem zhF{m:M Xv}{g:Bool->Bool}:M.bd (M.bd m λx=>M.bd (bool x) λk=>M.ret (Xv.d (.bl (g k)))) bool=M.bd (M.bd m bool) λk=>M.ret (g k):=by
 rw[gQ,gQ]
 congr 1
 funext x
 rw[gQ];rfl
theorem zmA(ha:ST X cA aq aj F EX a A):ST X cA aq aj F EX (.UnaryOp .Not a pos) (.not A):=PT.weak (zl6 ha) λZ H Q hh=>un hh λU J s hL hS h=>by
 have h:Run X.K cA (M.bd (M.bd (ev aq aj F A J) λx=>M.bd (bool x) λk=>M.ret (Xv.d (.bl (!k)))) bool) U H s _ _:=h;rw[zhF (g:=λk=>!k)] at h;exact xW hL hS h λk H1 U1 s1 x1 hL1 aG h1=>h1.bC aG
theorem ziW(ha:ST X cA aq aj F EX a A):SW X cA aq aj F EX (.BoolOp .And [a] pos) A:=zjx ha
theorem zld(ha:ST X cA aq aj F EX a A):SW X cA aq aj F EX (.BoolOp .Or [a] pos) A:=zkO ha
theorem Yn{m:M Xv}{k:Bool->M Xv}:M.bd (M.bd m λx=>M.bd (bool x) k) bool=M.bd (M.bd m bool) λb=>M.bd (k b) bool:=by
 rw[gQ,gQ]
 congr 1
 funext x
 rw[gQ]
theorem zlq{rest:List Expr}(ha:ST X cA aq aj F EX a A)(hb:SW X cA aq aj F EX (.BoolOp .And (b::rest) pos) B):SW X cA aq aj F EX (.BoolOp .And (a::b::rest) pos) (.and A B):=PW.weak (zk2 ha hb) λZ H Q hh=>un hh λU J s hL hS h=>by
 have h:Run X.K cA (M.bd (M.bd (ev aq aj F A J) λx=>M.bd (bool x) λk=>if k=true then ev aq aj F B J else M.ret (Xv.d (.bl false))) bool) U H s _ _:=h;rw[Yn] at h;refine xW hL hS h λk H1 U1 s1 x1 hL1 aG h3=>?_;cases k with
 |true=>exact iT ⟨U1,J,s1,hL1,aG,h3⟩
 |false=>exact iF (Run.bC aG (a:=false) h3)
theorem znp{rest:List Expr}(ha:ST X cA aq aj F EX a A)(hb:SW X cA aq aj F EX (.BoolOp .Or (b::rest) pos) B):SW X cA aq aj F EX (.BoolOp .Or (a::b::rest) pos) (.or A B):=PW.weak (znu ha hb) λZ H Q hh=>un hh λU J s hL hS h=>by
 have h:Run X.K cA (M.bd (M.bd (ev aq aj F A J) λx=>M.bd (bool x) λk=>if k=true then M.ret (Xv.d (.bl true)) else ev aq aj F B J) bool) U H s _ _:=h;rw[Yn] at h;refine xW hL hS h λk H1 U1 s1 x1 hL1 aG h3=>?_;cases k with
 |true=>exact iT (Run.bC aG (a:=true) h3)
 |false=>exact iF ⟨U1,J,s1,hL1,aG,h3⟩
theorem zoz(h:SW X cA aq aj F EX a A):ST X cA aq aj F EX a A:=Kad h
theorem zjG:(M.bd m λx=>M.bd (bool x) k)=M.bd (M.bd m bool) k:=by rw[gQ]
theorem zkP(hc:ST X cA aq aj F EX c C)(ha:SE X cA aq aj F EX a A)(hb:SE X cA aq aj F EX b B):SE X cA aq aj F EX (.IfExp c a b pos) (.ite C A B):=PE.weak (zho hc ha hb) λZ H Q hh=>un hh λU J s hL hS h=>by
 have h:Run X.K cA (M.bd (ev aq aj F C J) λx=>M.bd (bool x) λk=>if k=true then ev aq aj F A J else ev aq aj F B J) U H s _ _:=h;rw[zjG] at h;refine xW hL hS h λk H1 U1 s1 x1 hL1 aG h3=>?_;cases k with
 |true=>exact iT ⟨U1,J,s1,hL1,aG,h3⟩
 |false=>exact iF ⟨U1,J,s1,hL1,aG,h3⟩
theorem Yo:∀(Xs:Es) (J:Vs) (s:S) (ds:List Xv) (s':S),evs aq aj F Xs J s=some (.ok ds,s')->ds.length=Es.len Xs
 |.nil,J,s,ds,s',h=>by cases h;rfl
 |.cons a r,J,s,ds,s',h=>by
  have h:M.bd (ev aq aj F a J) (λx=>M.bd (evs aq aj F r J) λxs=>M.ret (x::xs)) s=some (.ok ds,s'):=h;unfold M.bd at h;cases e1:ev aq aj F a J s with
  |none=>rw[e1] at h;cases h
  |some q=>
   obtain⟨q,s1⟩:=q;rw[e1] at h;cases q with
   |er c f=>cases h
   |ok d=>
    dsimp only at h;cases e2:evs aq aj F r J s1 with
    |none=>rw[e2] at h;cases h
    |some q=>
     obtain⟨q,s2⟩:=q;rw[e2] at h;cases q with
     |er c f=>cases h
     |ok ds'=>
      cases h;rw[gZ,Yo r J s1 ds' _ e2];rfl
theorem Jq{β:Type}{K:W.Frag}{U:Ph}{H:Hp}{s:S}{Z:L2.St}{J:Vs}{k:List Xv->M β}{P:β->S->Ph->Hp->Prop}(hL:aW K cA U H Z J)(hS:aD K cA U H s)(h:Run K cA (M.bd (evs aq aj F Xs J) k) U H s P (eX K cA EX Z)){Q:List V->Hp->Prop}
  (f:∀x H1 U1 d s1,d.length=Es.len Xs->Ext U H U1 H1->aW K cA U1 H1 Z J->aD K cA U1 H1 s1->aR K cA U1 H1 d x->Run K cA (k d) U1 H1 s1 P (eX K cA EX Z)->Q x H1):R5 K cA EX (evs aq aj F Xs) Z H Q:=by
 refine⟨U,J,s,hL,hS,?_⟩;have h2:=h.bd;unfold Run at h2 ⊢;cases e:evs aq aj F Xs J s with
 |none=>rw[e] at h2;exact h2
 |some r=>
  obtain⟨r,s1⟩:=r;rw[e] at h2;cases r with
  |er c f=>exact h2
  |ok ds=>
   intro U1 H1 x1 r1 v rv;obtain⟨_,_,h3⟩:=h2 U1 H1 x1 r1;exact f v H1 U1 ds s1 (Yo Xs J s ds s1 e) x1 (hL.mono x1 hS.lz) r1 rv h3
theorem zl0{k}(ha:SA X cA aq aj F EX es Xs)(hz:Es.len Xs<=sizeLine):SE X cA aq aj F EX (.Tuple es k pos) (.tup Xs):=PE.weak (zk6 ha) λZ H Q hh=>un hh λU J s hL hS h=>by
 refine Jq hL hS h λvs H1 U1 xs s1 hl x1 hL1 aG rv h1=>?_;obtain⟨ds,e,rs,h2⟩:=R6 rv h1;refine⟨by rw[<-rv.len,hl];exact hz,λp hp=>?_⟩;exact h2 U1 (upd H1 p (.tup vs)) (bG.new hp).ext (aG.grow (bG.new hp)) _ (.d (.tup (TupAt.new (aG.nz hp)) (rs.mono (bG.new hp).ext aG.lz)))
theorem zk7(ha:SA X cA aq aj F EX es Xs)(hz:Es.len Xs<=sizeLine):SE X cA aq aj F EX (.List es pos) (.lst fz Xs):=PE.weak (zkS ha) λZ H Q hh=>un hh λU J s hL hS h=>by
 refine Jq hL hS h λvs H1 U1 xs s1 hl x1 hL1 aG rv h1=>?_;obtain⟨ds,e,rs,h2⟩:=R6 rv h1;exact⟨by rw[<-rv.len,hl];exact hz,λp hp=>Yl aG h2 p vs hp rs⟩
theorem zO{id:String}{r:List V->Hp->VK->Prop}(hc:cZ X (.builtin id) r)(hp:bH X.K cA p r)
  (hg:Gl X x) (hm:X.mg x=none) (hv:bootBuiltins x=some (.builtin id)) (ha:SA X cA aq aj F EX (e::es) Xs) (hn:x≠"__name__":=by decide) (su:(x==("__debug__" : Str))=false:=by decide)
  (he:starEach (e::es) X.env=(false,eval e X.env)::starEach es X.env:=by rfl) (cU:(backTo pos (starEach es X.env)).any (·.1)=false:=by rfl):SE X cA aq aj F EX (.Call (.Name x pp) (e::es) [] pos) (.pr fz p Xs):=PE.weak (Xg hc hg hm hv ha hn su he cU) λZ H Q hh=>un hh λU J s hL hS h=>
 oU hL hS h λvs H1 U1 ds s1 x1 hL1 aG r1 h1=>by
  obtain⟨ds,rs,h3⟩:=uW aG r1 h1;exact hp U1 H1 ds _ _ aG.zs rs (tW aG h3)
theorem R7{id:String}{r:List V->Hp->VK->Prop}(hc:cZ X (.type id) r)(hp:bH X.K cA p r)
  (hg:Gl X x) (hm:X.mg x=none) (hv:bootBuiltins x=some (.type id)) (ha:SA X cA aq aj F EX (e::es) Xs) (hn:x≠"__name__":=by decide) (su:(x==("__debug__" : Str))=false:=by decide)
  (he:starEach (e::es) X.env=(false,eval e X.env)::starEach es X.env:=by rfl) (cU:(backTo pos (starEach es X.env)).any (·.1)=false:=by rfl):SE X cA aq aj F EX (.Call (.Name x pp) (e::es) [] pos) (.pr fz p Xs):=PE.weak (zf2 hc hg hm hv ha hn su he cU) λZ H Q hh=>un hh λU J s hL hS h=>
 oU hL hS h λvs H1 U1 ds s1 x1 hL1 aG r1 h1=>by
  obtain⟨ds,rs,h3⟩:=uW aG r1 h1;exact hp U1 H1 ds _ _ aG.zs rs (tW aG h3)
theorem zm6(hp:bH X.K cA p (r2 (Q0 X.K)))(ha:SE X cA aq aj F EX a A)(hb:SE X cA aq aj F EX b B)(hs:qW b:=by intro _ _;rfl):SE X cA aq aj F EX (.Subscript a b pos) (.pr true p (.cons A (.cons B .nil))):=PE.weak (zm3 zkC ha hb hs) λZ H Q hh=>un hh λU J s hL hS h=>by
 have h:Run X.K cA (M.bd (M.bd (ev aq aj F A J) λx=>M.bd (M.bd (ev aq aj F B J) λy=>M.bd (M.ret []) λz=>M.ret (y::z)) λys=>M.ret (x::ys)) λvs=>M.bd (g_ vs) λds=>cI true (prim p ds)) U H s _ _:=h;simp only[gQ] at h;refine aX hL hS h λx H1 U1 d1 s1 x1 hL1 aG r1 h1=>aX hL1 aG h1 λy H2 U2 d2 s2 x2 hL2 aM r2' h2=>?_;exact Fl (Nk (fz:=true) (U:=U) x2 aG aM r1 r2' h2 hp)
theorem znQ(ho:Mu X (unaryOp op) r)(hp:bH X.K cA p (λvs H Q=>∃x,vs=[x]/\r x H Q))(ha:SE X cA aq aj F EX a A):SE X cA aq aj F EX (.UnaryOp op a pos) (.pr true p (.cons A .nil)):=PE.weak (zm5 ho ha) λZ H Q hh=>un hh λU J s hL hS h=>by
 have h:Run X.K cA (M.bd (M.bd (ev aq aj F A J) λx=>M.bd (M.ret []) λz=>M.ret (x::z)) λvs=>M.bd (g_ vs) λds=>cI true (prim p ds)) U H s _ _:=h;simp only[gQ] at h;refine aX hL hS h λx H1 U1 d1 s1 x1 hL1 aG r1 h1=>?_;obtain⟨ds,rs,h3⟩:=uW aG (.cons r1 .nil) h1;obtain⟨_,e,q⟩:=hp U1 H1 ds _ _ aG.zs rs (tW aG h3);cases e;exact q
theorem zkt{j p'}(ha:SE X cA aq aj F EX a A):SE X cA aq aj F EX (.Compare a [.Is] [.Constant .none j p'] pos) (.pr true .xQ (.cons A .nil)):=PE.weak (WT (WQ ha)) λZ H Q hh=>un hh λU J s hL hS h=>by
 have h:Run X.K cA (M.bd (M.bd (ev aq aj F A J) λx=>M.bd (M.ret []) λz=>M.ret (x::z)) λvs=>M.bd (g_ vs) λds=>cI true (prim .xQ ds)) U H s _ _:=h;simp only[gQ] at h;refine aX hL hS h λx H1 U1 d1 s1 x1 hL1 aG r1 h1=>?_;obtain⟨ds,rs,h3⟩:=uW aG (.cons r1 .nil) h1;cases rs with
 |cons r rs=>cases rs with
  |nil=>
   rename_i d;have h4:=tW aG h3;have q:=h4 H1 _ bG.refl (.bl _);cases d<;>first
    |(obtain⟨_,_,rfl,_,_⟩:=r;exact q)
    |(cases (show Rep _ _ _ _ _ x from r)<;>exact q)
theorem ziX{j p'}(ha:SE X cA aq aj F EX a A):SE X cA aq aj F EX (.Compare a [.IsNot] [.Constant .none j p'] pos) (.pr true .sG (.cons A .nil)):=PE.weak (WT (WR ha)) λZ H Q hh=>un hh λU J s hL hS h=>by
 have h:Run X.K cA (M.bd (M.bd (ev aq aj F A J) λx=>M.bd (M.ret []) λz=>M.ret (x::z)) λvs=>M.bd (g_ vs) λds=>cI true (prim .sG ds)) U H s _ _:=h;simp only[gQ] at h;refine aX hL hS h λx H1 U1 d1 s1 x1 hL1 aG r1 h1=>?_;obtain⟨ds,rs,h3⟩:=uW aG (.cons r1 .nil) h1;cases rs with
 |cons r rs=>cases rs with
  |nil=>
   rename_i d;have h4:=tW aG h3;have q:=h4 H1 _ bG.refl (.bl _);cases d<;>first
    |(obtain⟨_,_,rfl,_,_⟩:=r;exact q)
    |(cases (show Rep _ _ _ _ _ x from r)<;>exact q)
theorem Yp(q:Pr)(hq:prim q=Cg f)(hh:qx X.K cA EX (λJ=>M.bd (ev aq aj F (.pr true q (.cons A .nil)) J) bool) Z H Q):tE X.K cA EX (ev aq aj F A) Z H λx H1=>Q (f (decide (x=.non))) H1:=un hh λU J s hL hS h=>by
 have h:Run X.K cA (M.bd (M.bd (M.bd (ev aq aj F A J) λx=>M.bd (M.ret []) λz=>M.ret (x::z)) λvs=>M.bd (g_ vs) λds=>cI true (prim q ds)) bool) U H s _ _:=h;simp only[gQ] at h;refine aX hL hS h λx H1 U1 d1 s1 x1 hL1 aG r1 h1=>?_;obtain⟨ds,rs,h3⟩:=uW aG (.cons r1 .nil) h1;cases rs with
 |cons r rs=>cases rs with
  |nil=>
   rename_i d;rw[hq] at h3;have h4:Run X.K cA (M.bd (M.ret (Xv.d (.bl (f d.uR)))) bool) U1 H1 s1 (λd _ U' H'=>Q d H') (eX X.K cA EX Z):=h3;have q:=h4 U1 H1 Ext.refl aG;cases d<;>first
    |(obtain⟨_,_,rfl,_,_⟩:=r;exact q)
    |(cases (show Rep _ _ _ _ _ x from r)<;>exact q)
theorem zmz{j p'}(ha:SE X cA aq aj F EX a A):ST X cA aq aj F EX (.Compare a [.Is] [.Constant .none j p'] pos) (.pr true .xQ (.cons A .nil)):=PT.weak (Mj (WQ ha)) λZ H Q hh=>by
 have:=Yp .xQ (f:=id) rfl hh;obtain⟨U,J,s,a,b,c⟩:=this;exact⟨U,J,s,a,b,c.imp λd s' U' H' k v rv=>⟨_,rfl,k v rv⟩⟩
theorem ziT{j p'}(ha:SE X cA aq aj F EX a A):ST X cA aq aj F EX (.Compare a [.IsNot] [.Constant .none j p'] pos) (.pr true .sG (.cons A .nil)):=PT.weak (Mj (WR ha)) λZ H Q hh=>by
 have:=Yp .sG (f:=not) rfl hh;obtain⟨U,J,s,a,b,c⟩:=this;exact⟨U,J,s,a,b,c.imp λd s' U' H' k v rv=>⟨_,rfl,k v rv⟩⟩
theorem zhi{K:W.Frag}{U:Ph}{H:Hp}{s:S}{x:Xv}{v:V}{Q:Bool->Hp->Prop}{Ee:Nat->List D->S->Ph->Hp->Prop}(hS:aD K cA U H s)(r:aU K cA U H x v)(h:Run K cA (bool x) U H s (λd _ U' H'=>Q d H') Ee):∃k,v=.bl k/\Q k H:=by
 cases r with
 |l _=>exact h.elim
 |d rv=>cases rv with
  |bl k=>exact⟨k,rfl,h U H Ext.refl hS⟩
  |_=>exact h.elim
end
mutual
inductive Is (h:Heap):D->Value->Prop where
 |non:Is h .non .none
 |bl (b:Bool):Is h (.bl b) (.bool b)
 |int (i:Int) (t:Tok):Is h (.int i) (.int i t)
 |str (x:Str) (t:Tok):Is h (.str x) (.str x t)
 |tup {a:Addr} {xs:List D} {its:List Value} (p:h.IsTuple a its.toArray) (r:jt h xs its):Is h (.tup xs) (.ref a)
 |fl {a:Addr} {xs:List D} {its:List Value} (p:h.IsList a its.toArray) (r:jt h xs its):Is h (.fl xs) (.ref a)
 |oth {d:D} {u:Value} (k:kq d=none):Is h d u
inductive jt (h:Heap):List D->List Value->Prop where
 |nil:jt h [] []
 |cons {d:D} {u:Value} {ds:List D} {us:List Value} (a:Is h d u) (r:jt h ds us):jt h (d::ds) (u::us)
end
section
variable {X:Cx}{cA:Cl}{ao:List (Addr×Obj)}{Z:L2.St}{H:Hp}{s:Shared}{U:Ph}{h:Heap}
theorem R8(I:Inv X ao Z H s){ds:List D}{vs:List V}{us:List Value}(h:aB X.K cA U H ds vs)(r:Vals vs us):jt s.heap ds us:=
 aB.rec (motive_1:=λd v _=>∀{u:Value},RelV v u->Is s.heap d u) (motive_2:=λd v _=>∀{u:List Value},Vals v u->jt s.heap d u) (λr=>by cases r;exact .non) (λb _ r=>by cases r;exact .bl b) (λi _ r=>by obtain⟨t,rfl⟩:=r;exact .int i t) (λi _ r=>by obtain⟨t,rfl⟩:=r;exact .str i t)
 (λh _ ih _ r=>by
  cases r;obtain⟨its,rv,ht,_⟩:=I.tuple h.jK;exact .tup ht (ih rv))
 (λh _ ih _ r=>by
  cases r;obtain⟨its,rv,ht,_⟩:=I.list h.sY;exact .fl ht.isList (ih rv))
 (λ_ _ _ _=>.oth rfl) (λ_ _ _ _ _=>.oth rfl) (λ_ _ _ _ _=>.oth rfl) (λ_ _ _=>.oth rfl)
 (λr=>by cases r;exact .nil)
 (λ_ _ i j _ r=>by
  cases r with
  |cons a b=>exact .cons (i a) (j b)) h r
theorem qy(I:Inv X ao Z H s){d:D}{v:V}{u:Value}(h:Rep X.K cA U H d v)(r:RelV v u):Is s.heap d u:=by
 cases h with
 |non=>cases r;exact .non
 |bl b=>cases r;exact .bl b
 |int i=>obtain⟨t,rfl⟩:=r;exact .int i t
 |str i=>obtain⟨t,rfl⟩:=r;exact .str i t
 |tup h q=>
  cases r;obtain⟨its,rv,ht,_⟩:=I.tuple h.jK;exact .tup ht (R8 I q rv)
 |fl h q=>
  cases r;obtain⟨its,rv,ht,_⟩:=I.list h.sY;exact .fl ht.isList (R8 I q rv)
 |fd _ _=>exact .oth rfl
 |exc _ _=>exact .oth rfl
 |ob _ _=>exact .oth rfl
 |any _=>exact .oth rfl
theorem zP(I:Inv X ao Z H s){d:D}{v:V}{u:Value}(q:Rv X.K cA U H d v)(r:RelV v u):Is s.heap d u:=by
 cases d with
 |fl xs=>
  obtain⟨a,vs,rfl,sq,rs⟩:=q;cases r;obtain⟨its,rv,ht,_⟩:=I.list sq;exact .fl ht.isList (R8 I rs rv)
 |non=>exact qy I q r
 |bl b=>exact qy I q r
 |int b=>exact qy I q r
 |str b=>exact qy I q r
 |tup b=>exact qy I q r
 |fd b c=>exact qy I q r
 |exc b c=>exact qy I q r
 |ob b c=>exact qy I q r
 |any=>exact qy I q r
theorem jt.len:∀{ds:List D} {us:List Value},jt h ds us->ds.length=us.length
 |_,_,.nil=>rfl
 |_,_,.cons _ r=>by rw[gZ,gZ,jt.len r]
theorem jt.get:∀{ds:List D} {us:List Value} {i:Nat} {d:D},jt h ds us->ds[i]?=some d->∃u,us[i]?=some u/\Is h d u
 |_,_,_,_,.nil,e=>by simp at e
 |_,_,0,_,.cons h _,e=>by simp at e;subst e;exact⟨_,rfl,h⟩
 |_,_,i+1,d,.cons _ r,e=>by
  obtain⟨v,a,b⟩:=jt.get (i:=i) (d:=d) r (by simpa using e);exact⟨v,by simpa using a,b⟩
theorem Yq{a:Addr}{is js:Array Value}(p:h.IsTuple a is)(q:h.IsTuple a js):is=js:=by
 obtain⟨o,e,c,n,d⟩:=p;obtain⟨o',e',c',n',d'⟩:=q;rw[e] at e';cases e';rw[d] at d';cases d';rfl
theorem Yr{a:Addr}{is js:Array Value}(p:h.IsList a is)(q:h.IsList a js):is=js:=by
 obtain⟨o,e,c,n,d⟩:=p;obtain⟨o',e',c',n',d'⟩:=q;rw[e] at e';cases e';rw[d] at d';cases d';rfl
theorem v7{a:Addr}{is js:Array Value}(p:h.IsList a is)(q:h.IsTuple a js):False:=by
 obtain⟨o,e,c,n,d⟩:=p;obtain⟨o',e',c',n',d'⟩:=q;rw[e] at e';cases e';rw[c] at c';exact absurd c' Zaa
theorem Jr{eq:D->D->Option Bool}:∀{xs ys:List D} {b:Bool},dU eq xs ys=some b->∃e:Nat->Bool,(∀(j:Nat) x y,xs[j]?=some x->ys[j]?=some y->eq x y=some (e j))/\b=((List.range (min xs.length ys.length)).all e&&xs.length==ys.length)
 |[],[],b,h=>by cases h;exact⟨λ_=>true,λj x y q=>by simp at q,by simp⟩
 |[],y::ys,b,h=>by cases h;exact⟨λ_=>true,λj x y q=>by simp at q,by simp⟩
 |x::xs,[],b,h=>by cases h;exact⟨λ_=>true,λj x y q r=>by simp at r,by simp⟩
 |x::xs,y::ys,b,h=>by
  simp only[dU] at h;cases e1:eq x y with
  |none=>rw[e1] at h;cases h
  |some a=>
   cases e2:dU eq xs ys with
   |none=>rw[e1,e2] at h;cases h
   |some c=>
    rw[e1,e2] at h;cases h;obtain⟨e,h1,h2⟩:=Jr e2;refine⟨λj=>match j with|0=>a|j+1=>e j,λj p q r1 r2=>?_,?_⟩
    ·cases j with
     |zero=>
      simp at r1 r2;subst r1 r2;exact e1
     |succ j=>exact h1 j p q (by simpa using r1) (by simpa using r2)
    ·rw[h2];simp only[gZ,Nat.succ_min_succ,Pk,yW,List.all_map,Function.comp_def];rw[Bool.and_assoc]
     congr 2
     simp
theorem ju{n:Nat}{d e:D}(k:kq d=none):c7 n d e=none:=by
 cases n<;>cases d<;>first|cases k;done|(cases e<;>rfl)
theorem iB{n:Nat}{d e:D}(k:kq e=none):c7 n d e=none:=by
 cases n<;>cases e<;>first|cases k;done|(cases d<;>rfl)
theorem R9:∀(n:Nat) {d1 d2:D} {u:Value} {b:Bool},Is h d1 u->Is h d2 u->c7 n d1 d2=some b->b=true:=by
 intro n;have rows:∀(n:Nat),(∀{d1 d2:D} {u:Value} {b:Bool},Is h d1 u->Is h d2 u->c7 n d1 d2=some b->b=true)->∀{xs ys:List D} {is js:List Value} {b:Bool},jt h xs is->jt h ys js->is.toArray=js.toArray->dU (c7 n) xs ys=some b->b=true:=by
  intro n ih xs ys is js b q1 q2 e hd;have e:is=js:=by simpa using e
  subst e;obtain⟨e,a1,a2⟩:=Jr (eq:=c7 n) hd;rw[a2];have hl:_=_:=q1.len.trans q2.len.symm;rw[fK];refine⟨iz.mpr λj hj=>?_,by rw[hl];simp⟩;have hj:=yV.mp hj;obtain⟨x,hx⟩ : ∃x,_=some x:=⟨_,eE (f9 hj (Nat.min_le_left _ _))⟩;obtain⟨y,hy⟩ : ∃y,_=some y:=⟨_,eE (f9 hj (Nat.min_le_right _ _))⟩;obtain⟨v1,e1,p1⟩:=q1.get hx;obtain⟨v2,e2,p2⟩:=q2.get hy;rw[e1] at e2;cases e2;exact ih p1 p2 (a1 j x y hx hy)
 induction n with
 |zero=>
  intro d1 d2 u b r1 r2 hd;cases r1 with
  |oth k=>rw[ju k] at hd;cases hd
  |non=>cases r2 with
   |oth k=>rw[iB k] at hd;cases hd
   |non=>cases hd;rfl
  |bl x=>cases r2 with
   |oth k=>rw[iB k] at hd;cases hd
   |bl y=>cases hd;simp
  |int x t=>cases r2 with
   |oth k=>rw[iB k] at hd;cases hd
   |int y=>cases hd;simp
  |str x t=>cases r2 with
   |oth k=>rw[iB k] at hd;cases hd
   |str y=>cases hd;simp
  |tup p q=>cases r2 with
   |oth k=>rw[iB k] at hd;cases hd
   |tup p2 q2=>cases hd
   |fl p2 q2=>exact(v7 p2 p).elim
  |fl p q=>cases r2 with
   |oth k=>rw[iB k] at hd;cases hd
   |fl p2 q2=>cases hd
   |tup p2 q2=>exact(v7 p p2).elim
 |succ n ih=>
  intro d1 d2 u b r1 r2 hd;cases r1 with
  |oth k=>rw[ju k] at hd;cases hd
  |non=>cases r2 with
   |oth k=>rw[iB k] at hd;cases hd
   |non=>cases hd;rfl
  |bl x=>cases r2 with
   |oth k=>rw[iB k] at hd;cases hd
   |bl y=>cases hd;simp
  |int x t=>cases r2 with
   |oth k=>rw[iB k] at hd;cases hd
   |int y=>cases hd;simp
  |str x t=>cases r2 with
   |oth k=>rw[iB k] at hd;cases hd
   |str y=>cases hd;simp
  |tup p q=>cases r2 with
   |oth k=>rw[iB k] at hd;cases hd
   |tup p2 q2=>exact rows n ih q q2 (Yq p p2) hd
   |fl p2 q2=>exact(v7 p2 p).elim
  |fl p q=>cases r2 with
   |oth k=>rw[iB k] at hd;cases hd
   |fl p2 q2=>exact rows n ih q q2 (Yr p p2) hd
   |tup p2 q2=>exact(v7 p p2).elim
theorem parts{n:Nat}{A:Around}{xs ys:List D}{is js:List Value}{b:Bool}(r1:jt s.heap xs is)(r2:jt s.heap ys js)(hd:dU (c7 n) xs ys=some b)
  (ih:∀{d1 d2:D} {u1 u2:Value} {b:Bool},Is s.heap d1 u1->Is s.heap d2 u2->c7 n d1 d2=some b->SeqAt.EqAt A s u1 u2 b) :
  ∃e:Nat->Bool,(∀j (h1:j<is.toArray.size) (h2:j<js.toArray.size),SeqAt.EqAt A s is.toArray[j] js.toArray[j] (e j))/\b=((List.range (min is.toArray.size js.toArray.size)).all e&&is.toArray.size==js.toArray.size):=by
 obtain⟨e,a1,a2⟩:=Jr hd;have z1:=r1.len;have z2:=r2.len;refine⟨e,λj h1 h2=>?_,by simp only[fH,<-z1,<-z2];exact a2⟩;simp only[fH] at h1 h2;obtain⟨x,hx⟩ : ∃x,xs[j]?=some x:=⟨_,eE (by rw[z1];exact h1)⟩;obtain⟨y,hy⟩ : ∃y,ys[j]?=some y:=⟨_,eE (by rw[z2];exact h2)⟩;obtain⟨u,f1,g1⟩:=r1.get hx;obtain⟨u',f2,g2⟩:=r2.get hy;have k1:is.toArray[j]=u:=by
  have:=fG.mp f1;simpa using this.2
 have k2:js.toArray[j]=u':=by
  have:=fG.mp f2;simpa using this.2
 rw[k1,k2];exact ih g1 g2 (a1 j x y hx hy)
theorem Ys{A:Around}{l m:Addr}{is js:Array Value}{e:Nat->Bool}{b:Bool}(p1:s.heap.IsList l is)(p2:s.heap.IsList m js)(hu:A.units<cLine)(he:∀j (h1:j<is.size) (h2:j<js.size),SeqAt.EqAt A.in1 s is[j] js[j] (e j))(hb:b=((List.range (min is.size js.size)).all e&&is.size==js.size)):SeqAt.RcAt A s (.ref l) (.ref m) b:=by
 by_cases hz:is.size=js.size
 ·have:b=(List.range is.size).all e:=by rw[hb,hz];simp
  rw[this];exact SeqAt.RcAt.lists p1 p2 hz hu he
 ·have R_:(is.size != js.size)=true:=by simpa using hz
  have:b=false:=by rw[hb];simp[hz]
  rw[this];exact SeqAt.RcAt.lists_lengths p1 p2 R_ hu
theorem zfM{A:Around}{l m:Addr}{is js:Array Value}{e:Nat->Bool}{b:Bool}(p1:s.heap.IsList l is)(p2:s.heap.IsList m js)(hu:A.units<cLine)(he:∀j (h1:j<is.size) (h2:j<js.size),SeqAt.EqAt A.in1 s is[j] js[j] (e j))(hb:b=((List.range (min is.size js.size)).all e&&is.size==js.size)):SeqAt.RcNeAt A s (.ref l) (.ref m) (!b):=by
 by_cases hz:is.size=js.size
 ·have:b=(List.range is.size).all e:=by rw[hb,hz];simp
  rw[this];exact SeqAt.RcNeAt.lists p1 p2 hz hu he
 ·have R_:(is.size != js.size)=true:=by simpa using hz
  have:b=false:=by rw[hb];simp[hz]
  rw[this];exact SeqAt.RcNeAt.lists_lengths p1 p2 R_ hu
open SeqAt in
theorem Fp:∀(n:Nat) {A:Around} {d1 d2:D} {u1 u2:Value} {b:Bool},A.units+n<cLine->Is s.heap d1 u1->Is s.heap d2 u2->c7 n d1 d2=some b->SeqAt.EqAt A s u1 u2 b:=by
 intro n
 induction n with
 |zero=>
  intro A d1 d2 u1 u2 b hu r1 r2 hd;have hu:A.units<cLine:=by lia
  cases r1 with
  |oth k=>rw[ju k] at hd;cases hd
  |non=>cases r2 with
   |oth k=>rw[iB k] at hd;cases hd
   |non=>cases hd;exact EqAt.same _
   |bl y=>cases hd;exact EqAt.none_bool _
   |int y t=>cases hd;exact EqAt.none_int _ _
   |str y t=>cases hd;exact EqAt.none_str _ _
   |tup p q=>cases hd;exact EqAt.none_tuple p hu
   |fl p q=>cases hd;exact EqAt.none_list p hu
  |bl x=>cases r2 with
   |oth k=>rw[iB k] at hd;cases hd
   |non=>cases hd;exact EqAt.bool_none _
   |bl y=>cases hd;exact EqAt.bool_bool _ _
   |int y t=>cases hd;exact EqAt.bool_int _ _ _
   |str y t=>cases hd;exact EqAt.bool_str _ _ _
   |tup p q=>cases hd;exact EqAt.bool_tuple _ p hu
   |fl p q=>cases hd;exact EqAt.bool_list _ p hu
  |int x t=>cases r2 with
   |oth k=>rw[iB k] at hd;cases hd
   |non=>cases hd;exact EqAt.int_none _ _
   |bl y=>cases hd;exact EqAt.int_bool _ _ _
   |int y t=>cases hd;exact EqAt.int_int _ _ _ _
   |str y t=>cases hd;exact EqAt.int_str _ _ _ _
   |tup p q=>cases hd;exact EqAt.int_tuple _ _ p hu
   |fl p q=>cases hd;exact EqAt.int_list _ _ p hu
  |str x t=>cases r2 with
   |oth k=>rw[iB k] at hd;cases hd
   |non=>cases hd;exact EqAt.str_none _ _
   |bl y=>cases hd;exact EqAt.str_bool _ _ _
   |int y t=>cases hd;exact EqAt.str_int _ _ _ _
   |str y t=>cases hd;exact EqAt.str_str _ _ _ _
   |tup p q=>cases hd;exact EqAt.str_tuple _ _ p hu
   |fl p q=>cases hd;exact EqAt.str_list _ _ p hu
  |tup p q=>cases r2 with
   |oth k=>rw[iB k] at hd;cases hd
   |non=>cases hd;exact EqAt.tuple_none p hu
   |bl y=>cases hd;exact EqAt.tuple_bool _ p hu
   |int y t=>cases hd;exact EqAt.tuple_int _ _ p hu
   |str y t=>cases hd;exact EqAt.tuple_str _ _ p hu
   |tup p2 q2=>cases hd
   |fl p2 q2=>cases hd;exact EqAt.tuple_list p p2 hu
  |fl p q=>cases r2 with
   |oth k=>rw[iB k] at hd;cases hd
   |non=>cases hd;exact EqAt.list_none p hu
   |bl y=>cases hd;exact EqAt.list_bool _ p hu
   |int y t=>cases hd;exact EqAt.list_int _ _ p hu
   |str y t=>cases hd;exact EqAt.list_str _ _ p hu
   |tup p2 q2=>cases hd;exact EqAt.list_tuple p p2 hu
   |fl p2 q2=>cases hd
 |succ n ih=>
  intro A d1 d2 u1 u2 b Js r1 r2 hd;have hu:A.units<cLine:=by lia
  have cV:A.in1.units+n<cLine:=by show A.units+1+n<cLine;lia
  cases r1 with
  |oth k=>rw[ju k] at hd;cases hd
  |non=>cases r2 with
   |oth k=>rw[iB k] at hd;cases hd
   |non=>cases hd;exact EqAt.same _
   |bl y=>cases hd;exact EqAt.none_bool _
   |int y t=>cases hd;exact EqAt.none_int _ _
   |str y t=>cases hd;exact EqAt.none_str _ _
   |tup p q=>cases hd;exact EqAt.none_tuple p hu
   |fl p q=>cases hd;exact EqAt.none_list p hu
  |bl x=>cases r2 with
   |oth k=>rw[iB k] at hd;cases hd
   |non=>cases hd;exact EqAt.bool_none _
   |bl y=>cases hd;exact EqAt.bool_bool _ _
   |int y t=>cases hd;exact EqAt.bool_int _ _ _
   |str y t=>cases hd;exact EqAt.bool_str _ _ _
   |tup p q=>cases hd;exact EqAt.bool_tuple _ p hu
   |fl p q=>cases hd;exact EqAt.bool_list _ p hu
  |int x t=>cases r2 with
   |oth k=>rw[iB k] at hd;cases hd
   |non=>cases hd;exact EqAt.int_none _ _
   |bl y=>cases hd;exact EqAt.int_bool _ _ _
   |int y t=>cases hd;exact EqAt.int_int _ _ _ _
   |str y t=>cases hd;exact EqAt.int_str _ _ _ _
   |tup p q=>cases hd;exact EqAt.int_tuple _ _ p hu
   |fl p q=>cases hd;exact EqAt.int_list _ _ p hu
  |str x t=>cases r2 with
   |oth k=>rw[iB k] at hd;cases hd
   |non=>cases hd;exact EqAt.str_none _ _
   |bl y=>cases hd;exact EqAt.str_bool _ _ _
   |int y t=>cases hd;exact EqAt.str_int _ _ _ _
   |str y t=>cases hd;exact EqAt.str_str _ _ _ _
   |tup p q=>cases hd;exact EqAt.str_tuple _ _ p hu
   |fl p q=>cases hd;exact EqAt.str_list _ _ p hu
  |@tup a1 xs is p q=>cases r2 with
   |oth k=>rw[iB k] at hd;cases hd
   |non=>cases hd;exact EqAt.tuple_none p hu
   |bl y=>cases hd;exact EqAt.tuple_bool _ p hu
   |int y t=>cases hd;exact EqAt.tuple_int _ _ p hu
   |str y t=>cases hd;exact EqAt.tuple_str _ _ p hu
   |@tup a2 ys js p2 q2=>
    by_cases ea:a1=a2
    ·subst ea;have:=R9 (n+1) (.tup p q) (.tup p2 q2) hd;subst this;exact EqAt.same _
    ·obtain⟨e,he,hb⟩:=parts (A:=A.in1) q q2 hd λa b c=>ih cV a b c;rw[hb];exact EqAt.of_refs ea (RcAt.tuples p p2 hu he)
   |fl p2 q2=>cases hd;exact EqAt.tuple_list p p2 hu
  |@fl a1 xs is p q=>cases r2 with
   |oth k=>rw[iB k] at hd;cases hd
   |non=>cases hd;exact EqAt.list_none p hu
   |bl y=>cases hd;exact EqAt.list_bool _ p hu
   |int y t=>cases hd;exact EqAt.list_int _ _ p hu
   |str y t=>cases hd;exact EqAt.list_str _ _ p hu
   |tup p2 q2=>cases hd;exact EqAt.list_tuple p p2 hu
   |@fl a2 ys js p2 q2=>
    by_cases ea:a1=a2
    ·subst ea;have:=R9 (n+1) (.fl p q) (.fl p2 q2) hd;subst this;exact EqAt.same _
    ·obtain⟨e,he,hb⟩:=parts (A:=A.in1) q q2 hd λa b c=>ih cV a b c;exact EqAt.of_refs ea (Ys p p2 hu he hb)
end
section
variable {X:Cx}{cA:Cl}{ao:List (Addr×Obj)}{Z:L2.St}{H:Hp}{s:Shared}{U:Ph}{h:Heap}
open SeqAt in
theorem Yt(Js:A.units+(n+1)<cLine)(r1:Is s.heap d1 u1)(r2:Is s.heap d2 u2)(hd:c7 (n+1) d1 d2=some b):RcAt A s u1 u2 b/\RcNeAt A s u1 u2 (!b):=by
 have hu:A.units<cLine:=by lia
 have cV:A.in1.units+n<cLine:=by show A.units+1+n<cLine;lia
 cases r1 with
 |oth k=>rw[ju k] at hd;cases hd
 |non=>cases r2 with
  |oth k=>rw[iB k] at hd;cases hd
  |non=>cases hd;exact⟨RcAt.none_none,RcNeAt.none_none⟩
  |bl y=>cases hd;exact⟨RcAt.none_bool _,RcNeAt.none_bool _⟩
  |int y t=>cases hd;exact⟨RcAt.none_int _ _,RcNeAt.none_int _ _⟩
  |str y t=>cases hd;exact⟨RcAt.none_str _ _,RcNeAt.none_str _ _⟩
  |tup p q=>cases hd;exact⟨RcAt.none_tuple p hu,RcNeAt.none_tuple p hu⟩
  |fl p q=>cases hd;exact⟨RcAt.none_list p hu,RcNeAt.none_list p hu⟩
 |bl x=>cases r2 with
  |oth k=>rw[iB k] at hd;cases hd
  |non=>cases hd;exact⟨RcAt.bool_none _,RcNeAt.bool_none _⟩
  |bl y=>cases hd;exact⟨RcAt.bool_bool _ _,RcNeAt.bool_bool _ _⟩
  |int y t=>cases hd;exact⟨RcAt.bool_int _ _ _,RcNeAt.bool_int _ _ _⟩
  |str y t=>cases hd;exact⟨RcAt.bool_str _ _ _,RcNeAt.bool_str _ _ _⟩
  |tup p q=>cases hd;exact⟨RcAt.bool_tuple _ p hu,RcNeAt.bool_tuple _ p hu⟩
  |fl p q=>cases hd;exact⟨RcAt.bool_list _ p hu,RcNeAt.bool_list _ p hu⟩
 |int x t=>cases r2 with
  |oth k=>rw[iB k] at hd;cases hd
  |non=>cases hd;exact⟨RcAt.int_none _ _,RcNeAt.int_none _ _⟩
  |bl y=>cases hd;exact⟨RcAt.int_bool _ _ _,RcNeAt.int_bool _ _ _⟩
  |int y t=>cases hd;exact⟨RcAt.int_int _ _ _ _,RcNeAt.int_int _ _ _ _⟩
  |str y t=>cases hd;exact⟨RcAt.int_str _ _ _ _,RcNeAt.int_str _ _ _ _⟩
  |tup p q=>cases hd;exact⟨RcAt.int_tuple _ _ p hu,RcNeAt.int_tuple _ _ p hu⟩
  |fl p q=>cases hd;exact⟨RcAt.int_list _ _ p hu,RcNeAt.int_list _ _ p hu⟩
 |str x t=>cases r2 with
  |oth k=>rw[iB k] at hd;cases hd
  |non=>cases hd;exact⟨RcAt.str_none _ _,RcNeAt.str_none _ _⟩
  |bl y=>cases hd;exact⟨RcAt.str_bool _ _ _,RcNeAt.str_bool _ _ _⟩
  |int y t=>cases hd;exact⟨RcAt.str_int _ _ _ _,RcNeAt.str_int _ _ _ _⟩
  |str y t=>cases hd;exact⟨RcAt.str_str _ _ _ _,RcNeAt.str_str _ _ _ _⟩
  |tup p q=>cases hd;exact⟨RcAt.str_tuple _ _ p hu,RcNeAt.str_tuple _ _ p hu⟩
  |fl p q=>cases hd;exact⟨RcAt.str_list _ _ p hu,RcNeAt.str_list _ _ p hu⟩
 |@tup a1 xs is p q=>cases r2 with
  |oth k=>rw[iB k] at hd;cases hd
  |non=>cases hd;exact⟨RcAt.tuple_none p hu,RcNeAt.tuple_none p hu⟩
  |bl y=>cases hd;exact⟨RcAt.tuple_bool _ p hu,RcNeAt.tuple_bool _ p hu⟩
  |int y t=>cases hd;exact⟨RcAt.tuple_int _ _ p hu,RcNeAt.tuple_int _ _ p hu⟩
  |str y t=>cases hd;exact⟨RcAt.tuple_str _ _ p hu,RcNeAt.tuple_str _ _ p hu⟩
  |@tup a2 ys js p2 q2=>
   obtain⟨e,he,hb⟩:=parts (A:=A.in1) q q2 hd λa b c=>Fp n cV a b c;rw[hb];exact⟨RcAt.tuples p p2 hu he,RcNeAt.tuples p p2 hu he⟩
  |fl p2 q2=>cases hd;exact⟨RcAt.tuple_list p p2 hu,RcNeAt.tuple_list p p2 hu⟩
 |@fl a1 xs is p q=>cases r2 with
  |oth k=>rw[iB k] at hd;cases hd
  |non=>cases hd;exact⟨RcAt.list_none p hu,RcNeAt.list_none p hu⟩
  |bl y=>cases hd;exact⟨RcAt.list_bool _ p hu,RcNeAt.list_bool _ p hu⟩
  |int y t=>cases hd;exact⟨RcAt.list_int _ _ p hu,RcNeAt.list_int _ _ p hu⟩
  |str y t=>cases hd;exact⟨RcAt.list_str _ _ p hu,RcNeAt.list_str _ _ p hu⟩
  |tup p2 q2=>cases hd;exact⟨RcAt.list_tuple p p2 hu,RcNeAt.list_tuple p p2 hu⟩
  |@fl a2 ys js p2 q2=>
   obtain⟨e,he,hb⟩:=parts (A:=A.in1) q q2 hd λa b c=>Fp n cV a b c;exact⟨Ys p p2 hu he hb,zfM p p2 hu he hb⟩
noncomputable def xX(K:W.Frag)(cA:Cl)(f:Bool->Bool):R2:=λx y H Q=>∃U d1 d2 b,Rv K cA U H d1 x/\Rv K cA U H d2 y/\c7 50 d1 d2=some b/\Q (.bl (f b)) H
theorem zmx(hu:X.A.units+60<cLine):fP X (compareOp .Eq) (xX X.K cA id):=by
 intro ao s Z H x y v u Q I rx ry ⟨U,d1,d2,b,r1,r2,hd,q⟩;exact(Yt (n:=49) gV (zP I r1 rx) (zP I r2 ry) hd).1 X.prog X.w X.xe _ ⟨.bl b,H,I,rfl,q⟩
theorem zkL(hu:X.A.units+60<cLine):fP X (compareOp .NotEq) (xX X.K cA not):=by
 intro ao s Z H x y v u Q I rx ry ⟨U,d1,d2,b,r1,r2,hd,q⟩;exact(Yt (n:=49) gV (zP I r1 rx) (zP I r2 ry) hd).2 X.prog X.w X.xe _ ⟨.bl (!b),H,I,rfl,q⟩
theorem Yu:∀(n:Nat) {d d' x:D} {u:Value} {b b':Bool},Is h d u->Is h d' u->c7 n d x=some b->c7 n d' x=some b'->b=b':=by
 intro n;have flat:∀{d d' x:D} {u:Value} {b b':Bool},Is h d u->Is h d' u->(∀xs xs',d=.tup xs->d'=.tup xs'->False)->(∀xs xs',d=.fl xs->d'=.fl xs'->False)->c7 n d x=some b->c7 n d' x=some b'->b=b':=by
  intro d d' x u b b' r1 r2 n1 n2 h1 h2;cases r1 with
  |oth k=>rw[ju k] at h1;cases h1
  |non=>cases r2 with
   |oth k=>rw[ju k] at h2;cases h2
   |non=>rw[h1] at h2;exact cP h2
  |bl y=>cases r2 with
   |oth k=>rw[ju k] at h2;cases h2
   |bl=>rw[h1] at h2;exact cP h2
  |int y=>cases r2 with
   |oth k=>rw[ju k] at h2;cases h2
   |int=>rw[h1] at h2;exact cP h2
  |str y=>cases r2 with
   |oth k=>rw[ju k] at h2;cases h2
   |str=>rw[h1] at h2;exact cP h2
  |tup p q=>cases r2 with
   |oth k=>rw[ju k] at h2;cases h2
   |tup=>exact(n1 _ _ rfl rfl).elim
   |fl p2 q2=>exact(v7 p2 p).elim
  |fl p q=>cases r2 with
   |oth k=>rw[ju k] at h2;cases h2
   |fl=>exact(n2 _ _ rfl rfl).elim
   |tup p2 q2=>exact(v7 p p2).elim
 have tn:∀{n:Nat} {xs xs':List D} {x:D},(∀ys,x=.tup ys->False)->c7 n (.tup xs) x=c7 n (.tup xs') x:=λ{n xs xs' x} hx=>by
  cases n<;>cases x<;>first|rfl|exact(hx _ rfl).elim
 have ln:∀{n:Nat} {xs xs':List D} {x:D},(∀ys,x=.fl ys->False)->c7 n (.fl xs) x=c7 n (.fl xs') x:=λ{n xs xs' x} hx=>by
  cases n<;>cases x<;>first|rfl|exact(hx _ rfl).elim
 clear flat
 induction n with
 |zero=>
  intro d d' x u b b' r1 r2 h1 h2;cases r1 with
  |oth k=>rw[ju k] at h1;cases h1
  |non=>cases r2 with
   |oth k=>rw[ju k] at h2;cases h2
   |non=>rw[h1] at h2;exact cP h2
  |bl y=>cases r2 with
   |oth k=>rw[ju k] at h2;cases h2
   |bl=>rw[h1] at h2;exact cP h2
  |int y=>cases r2 with
   |oth k=>rw[ju k] at h2;cases h2
   |int=>rw[h1] at h2;exact cP h2
  |str y=>cases r2 with
   |oth k=>rw[ju k] at h2;cases h2
   |str=>rw[h1] at h2;exact cP h2
  |tup p q=>cases r2 with
   |oth k=>rw[ju k] at h2;cases h2
   |tup p2 q2=>
    cases x with
    |tup ys=>cases h1
    |_=>rw[tn (by intro ys z;cases z),h2] at h1;exact(cP h1).symm
   |fl p2 q2=>exact(v7 p2 p).elim
  |fl p q=>cases r2 with
   |oth k=>rw[ju k] at h2;cases h2
   |fl p2 q2=>
    cases x with
    |fl ys=>cases h1
    |_=>rw[ln (by intro ys z;cases z),h2] at h1;exact(cP h1).symm
   |tup p2 q2=>exact(v7 p p2).elim
 |succ n ih=>
  intro d d' x u b b' r1 r2 h1 h2;have rows:∀{xs xs' ys:List D} {is js:List Value} {b b':Bool},jt h xs is->jt h xs' js->is.toArray=js.toArray->dU (c7 n) xs ys=some b->dU (c7 n) xs' ys=some b'->b=b':=by
   intro xs xs' ys is js b b' q1 q2 e h1 h2;have e:is=js:=by simpa using e
   subst e;obtain⟨e1,a1,b1⟩:=Jr h1;obtain⟨e2,a2,b2⟩:=Jr h2;have hl:xs.length=xs'.length:=q1.len.trans q2.len.symm;rw[b1,b2,hl]
   congr 1
   rw[Bool.eq_iff_iff,iz,iz];have key:∀j∈List.range (min xs'.length ys.length),e1 j=e2 j:=λj hj=>by
    have hj:=yV.mp hj;obtain⟨x1,Yv⟩ : ∃x,xs[j]?=some x:=⟨_,eE (by rw[hl];exact f9 hj (Nat.min_le_left _ _))⟩;obtain⟨x2,M4⟩ : ∃x,xs'[j]?=some x:=⟨_,eE (f9 hj (Nat.min_le_left _ _))⟩;obtain⟨y,hy⟩ : ∃y,ys[j]?=some y:=⟨_,eE (f9 hj (Nat.min_le_right _ _))⟩;obtain⟨v1,f1,p1⟩:=q1.get Yv;obtain⟨v2,f2,p2⟩:=q2.get M4;rw[f1] at f2;cases f2;exact ih p1 p2 (a1 j x1 y Yv hy) (a2 j x2 y M4 hy)
   exact⟨λz j hj=>by rw[<-key j hj];exact z j hj,λz j hj=>by rw[key j hj];exact z j hj⟩
  cases r1 with
  |oth k=>rw[ju k] at h1;cases h1
  |non=>cases r2 with
   |oth k=>rw[ju k] at h2;cases h2
   |non=>rw[h1] at h2;exact cP h2
  |bl y=>cases r2 with
   |oth k=>rw[ju k] at h2;cases h2
   |bl=>rw[h1] at h2;exact cP h2
  |int y=>cases r2 with
   |oth k=>rw[ju k] at h2;cases h2
   |int=>rw[h1] at h2;exact cP h2
  |str y=>cases r2 with
   |oth k=>rw[ju k] at h2;cases h2
   |str=>rw[h1] at h2;exact cP h2
  |tup p q=>cases r2 with
   |oth k=>rw[ju k] at h2;cases h2
   |tup p2 q2=>
    cases x with
    |tup ys=>exact rows q q2 (Yq p p2) h1 h2
    |_=>rw[tn (by intro ys z;cases z),h2] at h1;exact(cP h1).symm
   |fl p2 q2=>exact(v7 p2 p).elim
  |fl p q=>cases r2 with
   |oth k=>rw[ju k] at h2;cases h2
   |fl p2 q2=>
    cases x with
    |fl ys=>exact rows q q2 (Yr p p2) h1 h2
    |_=>rw[ln (by intro ys z;cases z),h2] at h1;exact(cP h1).symm
   |tup p2 q2=>exact(v7 p p2).elim
theorem Sd:∀{xs:List D} {b:Bool},memD x xs=some b->∀d∈xs,∃k,c7 50 d x=some k
 |[],_,_,d,hd=>by cases hd
 |y::xs,b,h,d,hd=>by
  unfold memD at h;cases e1:c7 50 y x with
  |none=>simp only[e1] at h;cases h
  |some a=>
   cases e2:memD x xs with
   |none=>simp only[e1,e2] at h;cases h
   |some c=>
    rcases jm.mp hd with rfl|hd
    ·exact⟨a,e1⟩
    ·exact Sd e2 d hd
theorem Sg:∀{xs:List D} {us:List Value} {b:Bool},memD x xs=some b->jt h xs us->∃e:Value->Bool,(∀u∈us,∃d,Is h d u/\c7 50 d x=some (e u))/\us.any e=b:=by
 intro xs us b hm r;have ex:∀u∈us,∃d k,Is h d u/\c7 50 d x=some k:=by
  intro u hu;obtain⟨i,hi,e⟩:=yR hu;have hl:=r.len;obtain⟨d,hd⟩ : ∃d,xs[i]?=some d:=⟨_,eE gV⟩;obtain⟨u',e1,q⟩:=r.get hd;rw[eE hi,e] at e1;cases e1;obtain⟨k,hk⟩:=Sd hm d (gH hd);exact⟨d,k,q,hk⟩
 refine⟨λu=>by classical exact if z:∃k,∃d,Is h d u/\c7 50 d x=some k then z.choose else false,λu hu=>?_,?_⟩
 ·obtain⟨d,k,q,hk⟩:=ex u hu;have z:∃k,∃d,Is h d u/\c7 50 d x=some k:=⟨k,d,q,hk⟩;dsimp only;rw[dif_pos z];exact z.choose_spec
 ·clear ex;have key:∀(xs:List D) (us:List Value) (b:Bool),memD x xs=some b->jt h xs us->us.any (λu=>by classical exact if z:∃k,∃d,Is h d u/\c7 50 d x=some k then z.choose else false)=b:=by
   intro xs
   induction xs with
   |nil=>intro us b hm r;cases r;cases hm;rfl
   |cons d ds ih=>
    intro us b hm r;cases r with
    |@cons _ u _ us a r=>
     unfold memD at hm;cases e1:c7 50 d x with
     |none=>simp only[e1] at hm;cases hm
     |some k=>
      cases e2:memD x ds with
      |none=>simp only[e1,e2] at hm;cases hm
      |some c=>
       simp only[e1,e2] at hm;cases hm;rw[List.any_cons];have z:∃k,∃d,Is h d u/\c7 50 d x=some k:=⟨k,d,a,e1⟩;have hk:z.choose=k:=by
        obtain⟨d',q,Bc⟩:=z.choose_spec;exact Yu 50 q a Bc e1
       rw[dif_pos z,hk,ih us c e2 r]
  exact key xs us b hm r
noncomputable def Jt(K:W.Frag)(cA:Cl)(f:Bool->Bool):R2:=λx y H Q=>∃U d1 d2 xs b,Rv K cA U H d1 x/\Rv K cA U H d2 y/\mX d2=some xs/\memD d1 xs=some b/\Q (.bl (f b)) H
theorem zli(hu:X.A.units+60<cLine):fP X (compareOp .In) (Jt X.K cA id):=by
 intro ao s Z H x y v u Q I rx ry ⟨U,d1,d2,xs,b,r1,r2,hq,hm,q⟩;have cV:X.A.in1.units+50<cLine:=by show X.A.units+1+50<cLine;lia
 have i1:=zP I r1 rx;cases zP I r2 ry with
 |tup p r=>
  cases hq;obtain⟨e,he,hb⟩:=Sg hm r;refine SeqAt.in_tupleAt e p (λw hw=>?_) ⟨.bl b,H,I,by rw[<-hb];simp[L2.RelV],q⟩;obtain⟨d,q1,q2⟩:=he w (by simpa using hw);exact Fp 50 cV q1 i1 q2
 |fl p r=>
  cases hq;obtain⟨e,he,hb⟩:=Sg hm r;refine SeqAt.in_listAt e p (λw hw=>?_) ⟨.bl b,H,I,by rw[<-hb];simp[L2.RelV],q⟩;obtain⟨d,q1,q2⟩:=he w (by simpa using hw);exact Fp 50 cV q1 i1 q2
 |oth k=>cases d2<;>cases hq<;>cases k
 |_=>cases hq
end
end Mi
namespace HT
open PySem PyProof.Rows
section
variable {prog:Program}{w:World}{A:Around}{E:Value->Shared->Prop}{s:Shared}
theorem uX{t b:Addr}{vs ws:List Value}{Q:Value->Shared->Prop}(ht:IsTup s.heap t vs.toArray)(hb:IsTup s.heap b ws.toArray)(hv:vs=[])
  (h1:Q (.ref b) s):wpAny (model prog w) A (binaryOp .Add (.ref t) (.ref b)) Q E s:=by
 obtain⟨⟨cls,dd,data,sl⟩,ho,hc,n,hd⟩:=id ht;obtain⟨⟨cls2,dd2,data2,sl2⟩,p7,nJ,n2,hd2⟩:=id hb;simp only at hc hd nJ hd2;subst hc hd nJ hd2;exact concat_meets ⟨_,ho,rfl⟩ ⟨_,p7,rfl⟩ noFill_tuple_add seq_tuple_add Pg Pa (O9 _ _)
   (tuple_addW0 t b vs.toArray ws.toArray n n2 dd dd2 sl sl2 (by simp[hv])) ⟨ho,p7,h1⟩
theorem gO{t sl:Addr}{items:Array Value}{vl vu:Value}{lo hi:Option Int}{Q:Value->Shared->Prop}(ht:IsTup s.heap t items)(hs:s.heap.IsSliceOf sl vl vu .none)(pl:IsPart vl lo)(pu:IsPart vu hi)
  (hw:bY items.size 0 lo=0/\bY items.size items.size hi=items.size) (h:Q (.ref t) s):wpAny (model prog w) A (getItem (.ref t) (.ref sl)) Q E s:=by
 obtain⟨os,Bs,MJ,Ib⟩:=id hs;have QW:s.TypeIs (.ref sl) "slice":=⟨os,Bs,MJ⟩;unfold getItem
 try with_reducible refine pQ ?_
 first|refine aA (aP ?_)|skip
 refine aA (wpAny_sequenceKey ht.typeIs RB ?_);refine aA (Ag (name:=Str.ofString "__getitem__") ht.typeIs Dz
  (yU Dz ht.typeIs entry_tuple_getitem ?_ (args_tuple_getitem _ _)))
 show wpAny _ _ (Builtin.Tuple.tupleItemsOf (.ref t) >>= _) _ _ s;refine aA (tupleItemsOf_ ht ?_);refine aA (wpAny_typeOf QW ?_);rw[if_pos RB];refine aA (Xj hs pl pu ?_);have Sh:(((bY items.size 0 lo:Nat):Int)==0&&(1:Int)==1&&(bY items.size items.size hi-bY items.size 0 lo)==items.size)=true:=by
  rw[hw.1,hw.2];simp
 show wpAny _ _ (if (((bY items.size 0 lo:Nat):Int)==0&&(1:Int)==1&&(bY items.size items.size hi-bY items.size 0 lo)==items.size)=true then _ else _) _ _ s;rw[if_pos Sh];refine aA ?_;unfold Builtin.Tuple.tupleIsExact;refine aA (wpAny_typeOf ht.typeIs ?_);refine aP ?_;rw[if_pos RB];refine aA (zc ?_);exact aP ⟨_,rfl,aP h⟩
end
end HT
namespace L2
open PySem PySem.Spec PyProof.Rows
section
variable {X:Cx}{e:Expr}{te:TE}{pos p2:Pos}
noncomputable def uY(K:W.Frag):R2:=λx y H Q=>∃a b xs ys,x=.ref a/\y=.ref b/\gP K H a xs/\gP K H b ys/\xs.length+ys.length<=sizeLine /\
 (xs=[]->Q (.ref b) H)/\(ys=[]->Q (.ref a) H)/\∀p,H p=none->Q (.ref p) (upd H p (.tup (xs++ys)))
theorem uZ:fP X (binaryOp .Add) (uY X.K):=by
 intro ao s Z H x y v u Q I rx ry h;obtain⟨a,b,xs,ys,rfl,rfl,ha,hb,hz,q0,q1,q2⟩:=h;cases rx;cases ry;obtain⟨its,r1,p1,_⟩:=I.tuple ha;obtain⟨its2,r2,p2,_⟩:=I.tuple hb;by_cases hx:xs=[]
 ·exact HT.uX p1 p2 (r1.mQ.mpr hx) ⟨.ref b,H,I,rfl,q0 hx⟩
 ·refine HT.xr p1 p2 (λz=>hx (r1.mQ.mp z)) (λz=>⟨.ref a,H,I,rfl,q1 (r2.mQ.mp z)⟩) (λz=>?_) (by rw[<-r1.length,<-r2.length];exact hz);refine⟨.ref s.heap.objs.size,_,I.laid (t':=s.toks) (o:=.tup (xs++ys)) (λb ob q=>cD _ q) (cj _) ?_,rfl,q2 _ (I.hok.fresh (cj _))⟩;exact⟨by rw[pG];exact hz,_,r1.append r2,IsTup.new _ _⟩
noncomputable def zQ(K:W.Frag):V->Option Int->Option Int->Hp->VK->Prop:=λx lo hi H Q=>∃a xs,x=.ref a/\gP K H a xs /\
 ((HT.bY xs.length 0 lo=0/\HT.bY xs.length xs.length hi=xs.length)->Q (.ref a) H)/\∀p,H p=none->Q (.ref p) (upd H p (.tup (mO xs lo hi)))
theorem zkf:xH X (zQ X.K):=by
 intro ao s Z H x v vl vu lo hi sl Q I rx hs pl pu h;obtain⟨a,xs,rfl,hx,hw,q⟩:=h;by_cases hz:HT.bY xs.length 0 lo=0/\HT.bY xs.length xs.length hi=xs.length
 ·cases rx;obtain⟨its,r,ht,_⟩:=I.tuple hx;have hlen:its.toArray.size=xs.length:=by rw[fH];exact r.length.symm
  refine⟨"tuple",_,Dz.lookup,ht.typeIs,?_⟩;exact HT.gO ht hs pl pu (by rw[hlen];exact hz) ⟨.ref a,H,I,rfl,hw hz⟩
 ·exact zlj ao s Z H (.ref a) v vl vu lo hi sl Q I rx hs pl pu ⟨a,xs,rfl,hx,hz,q⟩
end
section
variable {X:Cx}
noncomputable def zR(K:W.Frag):R2:=λx y H Q=>∃l b xs zs,x=.ref l/\y=.ref b/\cT K H l xs/\cT K H b zs/\xs.length+zs.length<=sizeLine/\∀p,H p=none->Q (.ref p) (upd H p (.lst (xs++zs)))
theorem xY:fP X (binaryOp .Add) (zR X.K):=by
 intro ao s Z H x y v u Q I rx ry h;obtain⟨l,b,xs,zs,rfl,rfl,hH,hB,hz,q⟩:=h;cases rx;cases ry;obtain⟨its,r,pl,_⟩:=I.list hH;obtain⟨its2,r2,pl2,_⟩:=I.list hB;obtain⟨⟨cls,dd,data,sl⟩,ho,hc,n,hd⟩:=pl.isList;obtain⟨⟨cls2,dd2,data2,sl2⟩,p7,nJ,n2,hd2⟩:=pl2.isList;simp only at hc hd nJ hd2;subst hc hd nJ hd2;refine concat_meets ⟨_,ho,rfl⟩ ⟨_,p7,rfl⟩ noFill_list_add seq_list_add PySem.F.slot_list_add PySem.F.entry_list_add (PySem.F.args_list_add_2 _ _) (list_addW l b its.toArray its2.toArray n n2 dd dd2 sl sl2 (by rw[fH,fH,<-r.length,<-r2.length];exact hz)) ⟨ho,p7,?_⟩;have ea:its.toArray++its2.toArray=(its++its2).toArray:=by simp
 rw[ea];exact⟨.ref _,_,I.Q6 (t':=s.toks) (r.append r2) (by rw[pG];omega),rfl,q _ I.fresh⟩
noncomputable def rA(K:W.Frag):R2:=λx y H Q=>pX (λi j=>.int (i+j)) x y H Q\/zR K x y H Q\/uY K x y H Q\/∃i j,x=.str i/\y=.str j/\i.length+j.length<=sizeLine/\Q (.str (i++j)) H
theorem zfF:fP X (binaryOp .Add) (rA X.K):=Bm.or (xY.or (uZ.or zfs))
end
end L2
namespace Mi
open PySem PySem.Spec PyProof.Rows L2
section
variable {K:W.Frag}{cA:Cl}{U:Ph}{H:Hp}{Q:VK}{p:Pr}
theorem bK.some'{o:Option Rz}(h:bK K cA U H o Q):∃z,o=some z:=by
 cases o with
 |none=>exact h.elim
 |some z=>exact⟨z,rfl⟩
theorem bK.of{o:Option Rz}{z:Rz}(h:bK K cA U H o Q)(e:o=some z):bK K cA U H (some z) Q:=e▸h
theorem bK.here{d:D}{v:V}(h:bK K cA U H (some (.dat d)) Q)(r:Rep K cA U H d v):Q v H:=h H v bG.refl r
theorem bK.tup{xs:List D}{vs:List V}{a:Addr}(h:bK K cA U H (some (.dat (.tup xs))) Q)(z:Zt U H)(r:aB K cA U H xs vs)(hp:H a=none):Q (.ref a) (upd H a (.tup vs)):=
 h _ _ (bG.new hp) (.tup (TupAt.new (z.nz hp)) (r.mono (bG.new hp).ext z.lz))
theorem xV.two{ds:List D}{vs:List V}{d d':D}(h:xV K cA U H [d,d'] vs):∃v v',vs=[v,v']/\Rv K cA U H d v/\Rv K cA U H d' v':=by
 cases h with
 |cons a r=>cases r with
  |cons b r=>cases r;exact⟨_,_,rfl,a,b⟩
theorem xV.one(h:xV K cA U H [d] vs):∃v,vs=[v]/\Rv K cA U H d v:=by
 cases h with
 |cons a r=>cases r;exact⟨_,rfl,a⟩
theorem Rv.int{i:Int}{v:V}(h:Rv K cA U H (.int i) v):v=.int i:=by cases (show Rep K cA U H (.int i) v from h);rfl
theorem Rv.bl{i:Bool}{v:V}(h:Rv K cA U H (.bl i) v):v=.bl i:=by cases (show Rep K cA U H (.bl i) v from h);rfl
theorem Rv.str{i:Str}{v:V}(h:Rv K cA U H (.str i) v):v=.str i:=by cases (show Rep K cA U H (.str i) v from h);rfl
theorem Rv.tup{xs:List D}{v:V}(h:Rv K cA U H (.tup xs) v):∃a vs,v=.ref a/\TupAt K U H a vs/\aB K cA U H xs vs:=by
 cases (show Rep K cA U H (.tup xs) v from h) with
 |tup a r=>exact⟨_,_,rfl,a,r⟩
theorem Rv.sq{d:D}{xs:List D}{v:V}(h:Rv K cA U H d v)(e:mX d=some xs):∃a vs,v=.ref a/\(cT K H a vs\/gP K H a vs)/\aB K cA U H xs vs:=by
 cases d with
 |tup ys=>
  cases e;obtain⟨a,vs,e,t,r⟩:=Rv.tup h;exact⟨a,vs,e,.inr t.jK,r⟩
 |fl ys=>
  cases e;obtain⟨a,vs,e,l,r⟩:=h;exact⟨a,vs,e,.inl l,r⟩
 |_=>cases e
theorem Yw{f:Int->Int->Option D}{ds:List D}{z:Rz}(h:dw f ds=some z):∃i j d,ds=[.int i,.int j]/\f i j=some d/\z=.dat d:=by
 cases ds with
 |nil=>cases h
 |cons a t=>
 cases a with
 |int i=>
  cases t with
  |nil=>cases h
  |cons b t=>
  cases b with
  |int j=>
   cases t with
   |cons _ _=>cases h
   |nil=>
    obtain⟨d,e1,e2⟩:=jO.mp h;exact⟨_,_,d,rfl,e1,e2.symm⟩
  |_=>cases h
 |_=>cases h
theorem Ju{f:Int->Int->Option D}(hp:prim p=dw f){C:Int->Int->Prop}{g:Int->Int->V}(hf:∀i j d,f i j=some d->C i j/\∀U H,Rep K cA U H d (g i j)):bH K cA p (r2 (rI C g)):=by
 intro U H ds vs Q zt rs o;rw[hp] at o;obtain⟨z,e⟩:=o.some';obtain⟨i,j,d,rfl,e1,rfl⟩:=Yw e;obtain⟨c,r⟩:=hf i j d e1;obtain⟨v,v',rfl,r1,r2⟩:=rs.two (ds:=[]);rw[r1.int,r2.int];exact⟨_,_,rfl,i,j,rfl,rfl,c,(o.of e).here (r U H)⟩
theorem Fq{f:Int->Int->D}(hp:prim p=dw λi j=>some (f i j)){g:Int->Int->V}(hf:∀i j U H,Rep K cA U H (f i j) (g i j)):bH K cA p (r2 (pX g)):=by
 intro U H ds vs Q zt rs o;obtain⟨x,y,e,i,j,a,b,_,q⟩:=Ju (K:=K) (cA:=cA) (C:=λ_ _=>True) hp (λi j d e=>⟨trivial,λU H=>by cases e;exact hf i j U H⟩) U H ds vs Q zt rs o;exact⟨x,y,e,i,j,a,b,q⟩
theorem Jv{α:Type}{c:Prop}[Decidable c]{x y:α}(h:(if c then some x else none)=some y):c/\y=x:=by
 split at h
 ·rename_i z;cases h;exact⟨z,rfl⟩
 ·cases h
theorem zkW:bH K cA .aq (r2 (pX λi j=>.int (i-j))):=Fq (f:=λi j=>.int (i-j)) rfl λi j _ _=>.int _
theorem zmw:bH K cA .mul (r2 (rI w6 λi j=>.int (i*j))):=Ju rfl λi j d e=>by obtain⟨c,rfl⟩:=Jv e;exact⟨c,λ_ _=>.int _⟩
theorem ziP:bH K cA .fdiv (r2 (rI wZ λi j=>.int (i/j))):=Ju rfl λi j d e=>by obtain⟨c,rfl⟩:=Jv e;exact⟨c,λ_ _=>.int _⟩
theorem zmb:bH K cA .mod (r2 (rI (λ_ j=>0<j) λi j=>.int (i%j))):=Ju rfl λi j d e=>by obtain⟨c,rfl⟩:=Jv e;exact⟨c,λ_ _=>.int _⟩
theorem zlm:bH K cA .pow (r2 (rI HB λi j=>.int (i^j.toNat))):=Ju rfl λi j d e=>by obtain⟨c,rfl⟩:=Jv e;exact⟨c,λ_ _=>.int _⟩
theorem zm1:bH K cA .le (r2 (pX λi j=>.bl (decide (i<=j)))):=Fq (f:=λi j=>.bl (decide (i<=j))) rfl λi j _ _=>.bl _
theorem znK:bH K cA .gt (r2 (pX λi j=>.bl (decide (j<i)))):=Fq (f:=λi j=>.bl (decide (j<i))) rfl λi j _ _=>.bl _
theorem znR:bH K cA .ge (r2 (pX λi j=>.bl (decide (j<=i)))):=Fq (f:=λi j=>.bl (decide (j<=i))) rfl λi j _ _=>.bl _
theorem zlr:bH K cA .neg (λvs H Q=>∃x,vs=[x]/\rU (λi=>.int (-i)) x H Q):=by
 intro U H ds vs Q zt rs o;obtain⟨z,e⟩:=o.some';have e:qZ (λi=>.int (-i)) ds=some z:=e;cases ds with
 |nil=>cases e
 |cons a t=>
 cases a with
 |int i=>
  cases t with
  |cons _ _=>cases e
  |nil=>
   cases e;obtain⟨v,rfl,r1⟩:=rs.one;exact⟨_,rfl,_,r1.int,bK.here (o.of rfl) (.int _)⟩
 |_=>cases e
theorem zna:bH K cA .eq (r2 (xX K cA id)):=by
 intro U H ds vs Q zt rs o;obtain⟨z,e⟩:=o.some';have e:Ce id ds=some z:=e;unfold Ce at e;split at e
 ·obtain⟨b,e1,e2⟩:=jO.mp e;obtain⟨v,v',rfl,r1,r2⟩:=rs.two (ds:=[]);subst e2;exact⟨_,_,rfl,U,_,_,b,r1,r2,e1,(o.of e).here (.bl _)⟩
 ·cases e
theorem znN:bH K cA .ne (r2 (xX K cA not)):=by
 intro U H ds vs Q zt rs o;obtain⟨z,e⟩:=o.some';have e:Ce not ds=some z:=e;unfold Ce at e;split at e
 ·obtain⟨b,e1,e2⟩:=jO.mp e;obtain⟨v,v',rfl,r1,r2⟩:=rs.two (ds:=[]);subst e2;exact⟨_,_,rfl,U,_,_,b,r1,r2,e1,(o.of e).here (.bl _)⟩
 ·cases e
theorem zki{f:Bool->Bool}{ds:List D}{z:Rz}(h:Fj f ds=some z):∃a b xs k,ds=[a,b]/\mX b=some xs/\memD a xs=some k/\z=.dat (.bl (f k)):=by
 unfold Fj at h;split at h
 ·obtain⟨k,e1,e2⟩:=jO.mp h;obtain⟨xs,e3,e4⟩:=yO.mp e1;exact⟨_,_,xs,k,rfl,e3,e4,e2.symm⟩
 ·cases h
theorem znh:bH K cA .inn (r2 (Jt K cA id)):=by
 intro U H ds vs Q zt rs o;obtain⟨z,e⟩:=o.some';obtain⟨a,b,xs,k,rfl,e1,e2,rfl⟩:=zki (show Fj id ds=some z from e);obtain⟨v,v',rfl,r1,r2⟩:=rs.two (ds:=[]);exact⟨_,_,rfl,U,_,_,xs,k,r1,r2,e1,e2,(o.of e).here (.bl _)⟩
theorem Nm:∀{xs:List D} {ns:List Int} {vs:List V},cH xs=some ns->aB K cA U H xs vs->vs=ns.map V.int
 |[],ns,vs,h,r=>by cases h;cases r;rfl
 |d::xs,ns,vs,h,r=>by
  cases d with
  |int i=>
   simp only[cH,jO] at h;obtain⟨ns',h1,rfl⟩:=h;cases r with
   |cons a r=>cases a;rw[Nm h1 r];rfl
  |_=>simp[cH] at h
theorem Sq:∀(a b:List Int),ltI a b=HT.lexLt a b
 |_,[]=>by cases ‹List Int›<;>rfl
 |[],_::_=>rfl
 |x::xs,y::ys=>by
  unfold ltI;rw[Sq xs ys,HT.jZ]
theorem znb:bH K cA .lt (r2 λx y H Q=>pX (λi j=>.bl (decide (i<j))) x y H Q\/Ig K x y H Q):=by
 intro U H ds vs Q zt rs o;obtain⟨z,e⟩:=o.some';have e:Jc ds=some z:=e;unfold Jc at e;split at e
 ·cases e;obtain⟨v,v',rfl,r1,r2⟩:=rs.two (ds:=[]);exact⟨_,_,rfl,.inl ⟨_,_,r1.int,r2.int,bK.here (o.of rfl) (.bl _)⟩⟩
 ·split at e
  ·rename_i a b h1 h2;cases e;obtain⟨v,v',rfl,r1,r2⟩:=rs.two (ds:=[]);obtain⟨p,us,rfl,t1,q1⟩:=r1.tup;obtain⟨p',us',rfl,t2,q2⟩:=r2.tup;have o2:bK K cA U H (some (.dat (.bl (ltI a b)))) Q:=by
    have o3:bK K cA U H (Jc [.tup _,.tup _]) Q:=o;unfold Jc at o3;simp only[h1,h2] at o3;exact o3
   refine⟨_,_,rfl,.inr ⟨p,p',a,b,rfl,rfl,by rw[<-Nm h1 q1];exact t1.jK,by rw[<-Nm h2 q2];exact t2.jK,?_⟩⟩;rw[<-Sq];exact o2.here (.bl _)
  ·cases e
 ·cases e
theorem zlO:bH K cA .add (r2 (rA K)):=by
 intro U H ds vs Q zt rs o;have o:bK K cA U H (Cd ds) Q:=o;cases ds with
 |nil=>exact False.elim o
 |cons a t=>
 cases a with
 |int i=>
  cases t with
  |nil=>exact False.elim o
  |cons b t=>
  cases b with
  |int j=>
   cases t with
   |cons _ _=>exact False.elim o
   |nil=>
    obtain⟨v,v',rfl,r1,r2⟩:=rs.two (ds:=[]);exact⟨_,_,rfl,.inl ⟨_,_,r1.int,r2.int,bK.here o (.int _)⟩⟩
  |_=>exact False.elim o
 |tup xs=>
  cases t with
  |nil=>exact False.elim o
  |cons b t=>
  cases b with
  |tup ys=>
   cases t with
   |cons _ _=>exact False.elim o
   |nil=>
    obtain⟨v,v',rfl,r1,r2⟩:=rs.two (ds:=[]);obtain⟨p,us,rfl,t1,q1⟩:=r1.tup;obtain⟨p',us',rfl,t2,q2⟩:=r2.tup;have o:bK K cA U H (if xs.length+ys.length<=sizeLine then some (.dat (.tup (xs++ys))) else none) Q:=o;by_cases hz:xs.length+ys.length<=sizeLine
    ·rw[if_pos hz] at o;refine⟨_,_,rfl,.inr (.inr (.inl ⟨p,p',us,us',rfl,rfl,t1.jK,t2.jK,by rw[<-q1.len,<-q2.len];exact hz,λe=>?_,λe=>?_,λa ha=>o.tup zt (q1.app q2) ha⟩))⟩
     ·subst e;cases q1;exact o.here (.tup t2 q2)
     ·subst e;cases q2;rw[wH] at o;exact o.here (.tup t1 q1)
    ·rw[if_neg hz] at o;exact o.elim
  |_=>exact False.elim o
 |fl xs=>
  cases t with
  |nil=>exact False.elim o
  |cons b t=>
  cases b with
  |fl ys=>
   cases t with
   |cons _ _=>exact False.elim o
   |nil=>
    obtain⟨v,v',rfl,⟨p,us,rfl,t1,q1⟩,⟨p',us',rfl,t2,q2⟩⟩:=rs.two (ds:=[]);have o:bK K cA U H (if xs.length+ys.length<=sizeLine then some (.nw (xs++ys)) else none) Q:=o;by_cases hz:xs.length+ys.length<=sizeLine
    ·rw[if_pos hz] at o;exact⟨_,_,rfl,.inr (.inl ⟨p,p',us,us',rfl,rfl,t1,t2,by rw[<-q1.len,<-q2.len];exact hz,λa ha=>o a _ ha (q1.app q2)⟩)⟩
    ·rw[if_neg hz] at o;exact o.elim
  |_=>exact False.elim o
 |str x=>
  cases t with
  |nil=>exact False.elim o
  |cons b t=>
  cases b with
  |str y=>
   cases t with
   |cons _ _=>exact False.elim o
   |nil=>
    obtain⟨v,v',rfl,r1,r2⟩:=rs.two (ds:=[]);have o:bK K cA U H (if x.length+y.length<=sizeLine then some (.dat (.str (x++y))) else none) Q:=o;by_cases hz:x.length+y.length<=sizeLine
    ·rw[if_pos hz] at o;exact⟨_,_,rfl,.inr (.inr (.inr ⟨_,_,r1.str,r2.str,hz,o.here (.str _)⟩))⟩
    ·rw[if_neg hz] at o;exact o.elim
  |_=>exact False.elim o
 |_=>exact False.elim o
theorem zlL:bH K cA .len (λxs H Q=>∃p ys,xs=[.ref p]/\(cT K H p ys\/gP K H p ys)/\Q (.int ys.length) H):=by
 intro U H ds vs Q zt rs o;have o:bK K cA U H (sS (λxs=>some (.dat (.int xs.length))) ds) Q:=o;unfold sS at o;split at o
 ·obtain⟨v,rfl,r1⟩:=rs.one;obtain⟨z,e⟩:=o.some';obtain⟨xs,e1,e2⟩:=yO.mp e;obtain⟨a,us,rfl,sq,q⟩:=r1.sq e1;cases e2;refine⟨a,us,rfl,sq,?_⟩;rw[<-q.len];exact(o.of e).here (.int _)
 ·exact o.elim
theorem zi3:bH K cA .list (λxs H Q=>∃p ys,xs=[.ref p]/\(cT K H p ys\/gP K H p ys)/\∀l,H l=none->Q (.ref l) (upd H l (.lst ys))):=by
 intro U H ds vs Q zt rs o;have o:bK K cA U H (sS (λxs=>some (.nw xs)) ds) Q:=o;unfold sS at o;split at o
 ·obtain⟨v,rfl,r1⟩:=rs.one;obtain⟨z,e⟩:=o.some';obtain⟨xs,e1,e2⟩:=yO.mp e;obtain⟨a,us,rfl,sq,q⟩:=r1.sq e1;cases e2;exact⟨a,us,rfl,sq,λl hl=>(o.of e) l us hl q⟩
 ·exact o.elim
theorem zh2:bH K cA .tuple (λxs H Q=>∃p ys,xs=[.ref p]/\((cT K H p ys/\∀l,H l=none->Q (.ref l) (upd H l (.tup ys)))\/(gP K H p ys/\Q (.ref p) H))):=by
 intro U H ds vs Q zt rs o;have o:bK K cA U H (qj ds) Q:=o;unfold qj at o;split at o
 ·rename_i d _;obtain⟨v,rfl,r1⟩:=rs.one;cases d with
  |tup xs=>
   obtain⟨a,us,rfl,t,q⟩:=r1.tup;exact⟨a,us,rfl,.inr ⟨t.jK,bK.here o (.tup t q)⟩⟩
  |fl xs=>
   obtain⟨a,us,rfl,t,q⟩:=r1;exact⟨a,us,rfl,.inl ⟨t,λl hl=>bK.tup o zt q hl⟩⟩
  |_=>exact o.elim
 ·exact o.elim
theorem zmE:bH K cA .abs (λxs H Q=>∃i,xs=[.int i]/\Q (.int (if i<0 then -i else i)) H):=by
 intro U H ds vs Q zt rs o;have o:bK K cA U H (qZ (λi=>.int (if i<0 then -i else i)) ds) Q:=o;cases ds with
 |nil=>exact False.elim o
 |cons a t=>
 cases a with
 |int i=>
  cases t with
  |cons _ _=>exact False.elim o
  |nil=>
   obtain⟨v,rfl,r1⟩:=rs.one;rw[r1.int];exact⟨_,rfl,bK.here o (.int _)⟩
 |_=>exact False.elim o
theorem zjJ:bH K cA .xR (λxs H Q=>(∃i,xs=[.int i]/\Q (.int i) H)\/∃k,xs=[.bl k]/\Q (.int (if k then 1 else 0)) H):=by
 intro U H ds vs Q zt rs o;have o:bK K cA U H (Jd ds) Q:=o;cases ds with
 |nil=>exact False.elim o
 |cons a t=>
 cases a with
 |int i=>
  cases t with
  |cons _ _=>exact False.elim o
  |nil=>
   obtain⟨v,rfl,r1⟩:=rs.one;rw[r1.int];exact .inl ⟨_,rfl,bK.here o (.int _)⟩
 |bl k=>
  cases t with
  |cons _ _=>exact False.elim o
  |nil=>
   obtain⟨v,rfl,r1⟩:=rs.one;rw[r1.bl];exact .inr ⟨_,rfl,bK.here o (.int _)⟩
 |_=>exact False.elim o
theorem zjn:bH K cA .max2 (λxs H Q=>∃i j,xs=[.int i,.int j]/\Q (.int (if j>i then j else i)) H):=by
 intro U H ds vs Q zt rs o;obtain⟨x,y,e,i,j,rfl,rfl,q⟩:=Fq (K:=K) (cA:=cA) (p:=.max2) (f:=λi j=>.int (if j>i then j else i)) rfl (λi j _ _=>.int _) U H ds vs Q zt rs o;exact⟨i,j,e,q⟩
theorem zkn:bH K cA .min2 (λxs H Q=>∃i j,xs=[.int i,.int j]/\Q (.int (if j<i then j else i)) H):=by
 intro U H ds vs Q zt rs o;obtain⟨x,y,e,i,j,rfl,rfl,q⟩:=Fq (K:=K) (cA:=cA) (p:=.min2) (f:=λi j=>.int (if j<i then j else i)) rfl (λi j _ _=>.int _) U H ds vs Q zt rs o;exact⟨i,j,e,q⟩
theorem zgw:bH K cA .divmod (λxs H Q=>∃i j,xs=[.int i,.int j]/\wZ i j/\∀p,H p=none->Q (.ref p) (upd H p (.tup [.int (i/j),.int (i%j)]))):=by
 intro U H ds vs Q zt rs o;have o:bK K cA U H (dw (λi j=>if 0<j/\j<1073741824 then some (.tup [.int (i/j),.int (i%j)]) else none) ds) Q:=o;obtain⟨z,e⟩:=o.some';obtain⟨i,j,d,rfl,e1,rfl⟩:=Yw e;obtain⟨c,rfl⟩:=Jv e1;obtain⟨v,v',rfl,r1,r2⟩:=rs.two (ds:=[]);rw[r1.int,r2.int];exact⟨i,j,rfl,c,λp hp=>(o.of e).tup zt (.cons (.int _) (.cons (.int _) .nil)) hp⟩
theorem Yx:∀{xs:List D} {bs:List Bool} {vs:List V},fB xs=some bs->aB K cA U H xs vs->vs=bs.map V.bl
 |[],bs,vs,h,r=>by cases h;cases r;rfl
 |d::xs,bs,vs,h,r=>by
  cases d with
  |bl b=>
   simp only[fB,jO] at h;obtain⟨bs',h1,rfl⟩:=h;cases r with
   |cons q r=>cases q;rw[Yx h1 r];rfl
  |_=>simp[fB] at h
theorem znS:bH K cA .ix (r2 (Q0 K)):=by
 intro U H ds vs Q zt rs o;have o:bK K cA U H (RT ds) Q:=o;unfold RT at o;split at o
 ·rename_i d i _;obtain⟨v,v',rfl,r1,r2⟩:=rs.two (ds:=[]);obtain⟨z,e⟩:=o.some';obtain⟨y,e1,e2⟩:=jO.mp e;obtain⟨xs,e3,e4⟩:=yO.mp e1;obtain⟨a,us,rfl,sq,q⟩:=r1.sq e3;have key:∃w,L2.qU us i=some w/\Rep K cA U H y w:=by
   unfold L2.qU at *;rw[<-q.len];obtain⟨j,h1,h2⟩:=yO.mp e4;obtain⟨w,h3,h4⟩:=q.get h2;exact⟨w,by rw[h1];exact h3,h4⟩
  obtain⟨w,hw,jY⟩:=key;subst e2;have q':=(o.of e).here jY;rcases sq with sq|sq
  ·exact⟨_,_,rfl,.inl ⟨a,us,i,w,rfl,r2.int,sq,hw,q'⟩⟩
  ·exact⟨_,_,rfl,.inr (.inl ⟨a,us,i,w,rfl,r2.int,sq,hw,q'⟩)⟩
 ·exact o.elim
noncomputable def Yy(K:W.Frag):V->Option Int->Option Int->Hp->VK->Prop:=λx lo hi H Q=>Il K x lo hi H Q\/zQ K x lo hi H Q
theorem zmd:xH X (Yy X.K):=xM.or zkf
theorem zjA{d:D}{lo hi:Option Int}{v:V}(zt:Zt U H)(r:Rv K cA U H d v)(o:bK K cA U H (cutD d lo hi) Q):Yy K v lo hi H Q:=by
 cases d with
 |tup xs=>
  obtain⟨a,us,rfl,t,q⟩:=r.tup;refine .inr ⟨a,us,rfl,t.jK,λe=>?_,λp hp=>bK.tup o zt q.cut hp⟩;have hc:cut xs lo hi=xs:=by
   unfold cut;rw[q.len,e.1,e.2,List.drop_zero,Nat.sub_zero,<-q.len,GD]
  have o:bK K cA U H (some (.dat (.tup (cut xs lo hi)))) Q:=o;rw[hc] at o;exact o.here (.tup t q)
 |fl xs=>
  obtain⟨a,us,rfl,t,q⟩:=r;exact .inl ⟨a,us,rfl,t,λp hp=>o p _ hp q.cut⟩
 |_=>exact o.elim
end
end Mi
namespace L2
open PySem PySem.Spec PyProof.Rows
section
variable {X:Cx}{ao:List (Addr×Obj)}{Z:St}{H:Hp}{s:Shared}{a:Addr}{y v:V}{u r:Value}{o:Option V}{A:Around}{E:Value->Shared->Prop}
theorem Inv.big(I:Inv X ao Z H s):sysModules<s.heap.objs.size:=by
 have h:mainGlobals<s.heap.objs.size:=(I.mod.glob.keeps I.bk).lt;exact Nat.lt_trans RB h
theorem zi0(I:Inv X ao Z H s)(mu:G9 (H a))(hs:Heap.SameBut a s.heap h')(he:∃q,h'.get? a=some q)(new:bI X.prog X.w (upd H a ob) h' a ob) :
  Inv X ao Z (upd H a ob) {s with heap:=h',toks:=t'}:=
 I.write (x:=a) (e:=a) mu (.inl rfl) (λb q hb z=>(hs.2 b hb).trans z) he new
end
def Cv(i:Expr):Prop:=∀ov iv,subscripted i false ov iv=operate [ov,iv] (getItem ov iv)
theorem zjr{prog:Program}{w:World}{A:Around}{E:Value->Shared->Prop}{s:Shared}{env:Env}{value slice:Expr}{pos:Pos}{T id:String}{Q:Value->Shared->Prop}
  (hl:typeLookup (.type T) "__getitem__"=pure (some (.builtin id))) (hs:Cv slice)
  (h:wpAny (model prog w) A (eval value env) (λo s₁=>wpAny (model prog w) A (eval slice env) (λi s₂=>s₂.TypeIs o T/\wpAny (model prog w) A (getItem o i) Q E s₂) E s₁) E s) :
  wpAny (model prog w) A (eval (.Subscript value slice pos) env) Q E s:=by
 refine Subscript_ (gb h (λo s₁ h₁=>gb h₁ (λi s₂ h₂=>?_) λ_ _ x=>x) λ_ _ x=>x);obtain⟨hT,h₂⟩:=h₂;unfold subscriptTail;refine aA ?_;rw[getitemInPython_of_ne hT.not_modules];refine aA (wpAny_specialOf hT hl ?_);have fin:wpAny (model prog w) A (subscripted slice false o i) (λr s₃=>wpAny (model prog w) A (letTemporaryGo value o r >>= λ_=>pure r) Q E s₃) E s₂:=by
  rw[hs o i];exact wpAny_operating (gb h₂ (λr s₃ h₃=>aA (wpAny_letTemporaryGo (aP h₃))) λ_ _ x=>x)
 first
  |exact aP (aA fin)
  |exact aA (aP (aA fin))
  |exact aA fin
structure M2(X:Cx)(o:Expr)(m:Str)(apos:Pos)(e f:Expr)(cpos:Pos):Prop where
 base:attributeBase o m X.env (eval o X.env)=eval o X.env
 few:((backTo cpos (starEach [e,f] X.env)).all (λx=>!x.1)&&(backToKw cpos (keywordEach [] X.env)).all (λx=>x.1.isSome)
 &&decide (([e,f]:List Expr).length+([]:List Keyword).length+(if ([]:List Keyword).isEmpty then 0 else 1)<30))=true
 line:(apos.endLine==cpos.line)=true
 trees:backTo cpos (starEach [e,f] X.env)=[(false,eval e X.env),(false,eval f X.env)]
end L2
namespace Mi
open PySem PySem.Spec PyProof.Rows L2
section
variable {X:Cx}{cA:Cl}{aq:Nat->Nat->Bool}{aj:Bool}{F:Fn}{EX:XS}{a b c d e o:Expr}{A B C Dd E' O:E}{pos pp p2 apos cpos:Pos}{es:List Expr}{Xs:Es}{fz:Bool}{p:Pr}{x:Str}{U:Ph}{H:Hp}{s:S}{lo hi:Option Expr}{Lo Hi:Eo}
def Jw(X:Cx)(cA:Cl)(aq:Nat->Nat->Bool)(aj:Bool)(F:Fn)(EX:XS)(oe:Option Expr)(m:Eo):Prop:=
 PO X oe (λZ H Q=>∃U J s,aW X.K cA U H Z J/\aD X.K cA U H s/\Run X.K cA (tV aq aj F m J) U H s (λi _ U' H'=>Q i H') (eX X.K cA EX Z))
theorem PO.weak{oe:Option Expr}{t t':TO}(h:PO X oe t)(f:∀Z H Q,t' Z H Q->t Z H Q):PO X oe t':=by
 intro ao s Z H Q I q;exact h ao s Z H Q I (f Z H Q q)
theorem znc:Jw X cA aq aj F EX none .no:=PO.weak zjg λZ H Q hh=>un hh λU J s hL hS h=>h.bC hS
theorem zlX(ha:SE X cA aq aj F EX a A):Jw X cA aq aj F EX (some a) (.yes A):=PO.weak (zi4 ha) λZ H Q hh=>un hh λU J s hL hS h=>by
 refine aX hL hS h λx H1 U1 d1 s1 x1 hL1 aG r1 h1=>?_;obtain⟨i,_,e,h3⟩:=Cu r1 h1;exact⟨i,e,h3.bC aG⟩
theorem Jx{β:Type}{Z:L2.St}{J:Vs}{m:Eo}{k:Option Int->M β}{P:β->S->Ph->Hp->Prop}(hL:aW X.K cA U H Z J)(hS:aD X.K cA U H s)(h:Run X.K cA (M.bd (tV aq aj F m J) k) U H s P (eX X.K cA EX Z)){Q:Option Int->Hp->Prop}
  (f:∀i H1 U1 s1,Ext U H U1 H1->aW X.K cA U1 H1 Z J->aD X.K cA U1 H1 s1->Run X.K cA (k i) U1 H1 s1 P (eX X.K cA EX Z)->Q i H1) :
  ∃U J s,aW X.K cA U H Z J/\aD X.K cA U H s/\Run X.K cA (tV aq aj F m J) U H s (λi _ U' H'=>Q i H') (eX X.K cA EX Z):=
 ⟨U,J,s,hL,hS,h.bd.imp λi s1 U1 H1 ⟨x1,r1,h1⟩=>f i H1 U1 s1 x1 (hL.mono x1 hS.lz) r1 h1⟩
theorem znB(ha:SE X cA aq aj F EX a A)(hl:Jw X cA aq aj F EX lo Lo)(hh:Jw X cA aq aj F EX hi Hi):SE X cA aq aj F EX (.Subscript a (.Slice lo hi none p2) pos) (.sl fz A Lo Hi):=PE.weak (zic zmd ha hl hh) λZ H Q hh=>un hh λU J s hL hS h=>by
 refine aX hL hS h λx H1 U1 d1 s1 x1 hL1 aG r1 h1=>Jx hL1 aG h1 λl H2 U2 s2 x2 hL2 aM h2=>Jx hL2 aM h2 λu H3 U3 s3 x3 nQ fV h3=>?_;obtain⟨dd,rv,h4⟩:=Jp fV ((r1.mono x2 aG.lz).mono x3 aM.lz) h3;exact zjA fV.zs rv (tW fV h4)
theorem Yz:∀bs:List Bool,(List.range bs.length).all (λi=>(bs[i]?).getD false)=bs.all id
 |[]=>rfl
 |b::r=>by
  rw[gZ,Pk,yW,List.all_map,yW];have:=Yz r;simp only[Function.comp_def,DG,List.getElem?_cons_zero,Option.getD_some,id];rw[this]
theorem zfO(hc:X.aj=true):cZ X (.builtin "all") (λxs H Q=>∃(p:Addr) (bs:List Bool),xs=[.ref p]/\cT X.K H p (bs.map V.bl)/\Q (.bl (bs.all id)) H):=by
 intro ao s Z H xs us Q I r ⟨p,bs,e,hp,q⟩;subst e;obtain⟨u,rfl,ru⟩:=Vals.one r;cases (show u=Value.ref p from ru);obtain⟨its,rv,pl,hz⟩:=I.list hp;have hl:s.heap.IsList p its.toArray:=pl.isList;have hpn:p≠s.heap.objs.size:=by
  obtain⟨o,hg,_⟩:=hl;exact cY (bQ hg)
 refine call_all_walk (Lq hl ?_);refine⟨_,_,_,_,_,_,λi=>(bs[i]?).getD false,rfl,Walks.list (A:=X.A.in1) (I.ok.hd hc) _ p hpn its.toArray,⟨⟨_,eN _ rfl,rfl,rfl⟩,hl.push _⟩,?_,λh' tk hk=>?_⟩
 ·intro i v s' Q' E' hP hQ;have hi:its[i]?=some v:=by simpa using hP
  have hb:∃b,bs[i]?=some b:=by
   have cL:i<its.length:=(fG.mp hi).1;have z:=rv.length;rw[fZ] at z;exact⟨_,eE gV⟩
  obtain⟨b,hb⟩:=hb;obtain⟨u,e1,e2⟩:=rv.get (i:=i) (x:=V.bl b) (by rw[jD,hb];rfl);rw[hi] at e1;cases e1;cases (show v=Value.bool b from e2);have hQ:Q' ((bs[i]?).getD false) s':=hQ;rw[hb] at hQ;exact vO hQ
 ·have ez:(List.range its.toArray.size).all (λi=>(bs[i]?).getD false)=bs.all id:=by
   have z:=rv.length;rw[fZ] at z;rw[fH,<-z];exact Yz bs
  rw[ez];refine⟨.bl (bs.all id),H,I.kept (h':=h') (t':=tk) (old_kept hk),rfl,q⟩
theorem zlc{K:W.Frag}:bH K cA .all (λxs H Q=>∃(p:Addr) (bs:List Bool),xs=[.ref p]/\cT K H p (bs.map V.bl)/\Q (.bl (bs.all id)) H):=by
 intro U H ds vs Q zt rs o;have o:bK K cA U H (Cj ds) Q:=o;unfold Cj at o;split at o
 ·obtain⟨v,rfl,⟨ad,us,rfl,l,q⟩⟩:=rs.one;obtain⟨z,e⟩:=o.some';obtain⟨bs,e1,e2⟩:=jO.mp e;subst e2;exact⟨ad,bs,rfl,by rw[<-Yx e1 q];exact l,(o.of e).here (.bl _)⟩
 ·exact o.elim
theorem zg6{h:Heap}{x:D}{e:Value->Bool}:∀{xs:List D} {us:List Value},jt h xs us->(∀u∈us,∃d,Is h d u/\c7 50 d x=some (e u))->(∀d∈xs,∃k,c7 50 d x=some k)->us.countP e=sO x xs:=by
 intro xs
 induction xs with
 |nil=>intro us r _ _;cases r;rfl
 |cons d ds ih=>
  intro us r he hk;cases r with
  |@cons _ u _ us a r=>
   rw[Al,ih r (λu hu=>he u (gY _ hu)) λd hd=>hk d (gY _ hd)];obtain⟨d',q,Bc⟩:=he u lq;obtain⟨k,Cw⟩:=hk d lq;have:=Yu 50 q a Bc Cw;show _+_=sO x ds+(if c7 50 d x=some true then 1 else 0);rw[Cw,this];cases k<;>rfl
def Jy(K:W.Frag)(cA:Cl)(x:V)(xs:List V)(H:Hp)(Q:VK):Prop:=∃U ds d v b,xs=[v]/\Rv K cA U H (.fl ds) x/\Rv K cA U H d v/\memD d ds=some b/\Q (.int (sO d ds:Nat)) H
theorem zgr(hu:X.A.units+60<cLine):MK X "list.count" (Jy X.K cA):=by
 intro ao sh Z H x xs v us Q I rx r ⟨U,ds,d,y,b,e2,r1,r2,hm,q⟩;subst e2;obtain⟨u,rfl,ru⟩:=Vals.one r;have cV:X.A.in1.units+50<cLine:=by show X.A.units+1+50<cLine;lia
 have i1:=zP I r2 ru;cases zP I r1 rx with
 |@fl l _ its p rr=>
  obtain⟨e,he,_⟩:=Sg hm rr;obtain⟨⟨cls,dd,data,sl⟩,hg,hc,n,hd⟩:=p;simp only at hc hd;subst hc hd;refine call_meets PySem.F.slot_list_count ⟨_,hg,rfl⟩ PySem.F.entry_list_count (PySem.F.args_list_count_2 _ _) (SeqAt.list_countAt l _ n dd sl u e) ⟨hg,λw hw=>?_,?_⟩
  ·obtain⟨d',q1,q2⟩:=he w (by simpa using hw);exact Fp 50 cV q1 i1 q2
  ·refine⟨.int (sO d ds:Nat),H,I.tok _,?_,q⟩;rw[<-zg6 rr he (Sd hm)];exact⟨_,rfl⟩
 |oth k=>cases k
def YB(K:W.Frag)(cA:Cl)(p:Pr)(r:V->List V->Hp->VK->Prop):Prop:=bH K cA p (λvs H Q=>∃x xs,vs=x::xs/\r x xs H Q)
theorem zhs{K:W.Frag}:YB K cA .count (Jy K cA):=by
 intro U H ds vs Q zt rs o;have o:bK K cA U H (ql ds) Q:=o;unfold ql at o;split at o
 ·obtain⟨v,v',rfl,r1,r2⟩:=rs.two (ds:=[]);obtain⟨z,e⟩:=o.some';obtain⟨b,e1,e2⟩:=jO.mp e;subst e2;exact⟨_,_,rfl,U,_,_,_,b,rfl,r1,r2,e1,(o.of e).here (.int _)⟩
 ·exact o.elim
noncomputable def kdT:Kd->String
 |.list=>"list"
 |.str=>"str"
 |_=>"dict"
theorem zj8{K:W.Frag}{k:Kd}{dd:D}{v:V}(h:qg k dd=true)(r:Rv K cA U H dd v):MN K (kdT k) v H:=by
 cases k<;>cases dd<;>first
  |(cases h;done)
  |(obtain⟨a,vs,rfl,l,_⟩:=r;exact .inl ⟨rfl,vs,l⟩)
  |(rw[r.str];exact rfl)
  |(cases (show Rep K cA U H (.fd _ _) v from r) with|@fd _ _ _ q n=>exact .inr (.inr (.inl ⟨rfl,.inl ⟨_,q⟩⟩)))
theorem zjU{k:Kd}{id:String}{name:Str}{r:V->List V->Hp->VK->Prop}(pa:PlainAttrs (kdT k))(slot:Slot (kdT k) name id)(Im:typeOf (.builtin id)=pure (.type "method_descriptor"))(hm:MK X id r)(hr:YB X.K cA p r)
  (ho:SE X cA aq aj F EX o O) (ha:SA X cA aq aj F EX (e::es) Xs)
  (cQ:attributeBase o name X.env (eval o X.env)=eval o X.env:=by rfl)
  (p8:((backTo cpos (starEach (e::es) X.env)).all (λx=>!x.1)&&(backToKw cpos (keywordEach [] X.env)).all (λx=>x.1.isSome)
  &&decide ((e::es).length+([]:List Keyword).length+(if ([]:List Keyword).isEmpty then 0 else 1)<30))=true:=by rfl)
  (cR:(apos.endLine==cpos.line)=true:=by rfl) (hs:starEach (e::es) X.env=(false,eval e X.env)::starEach es X.env:=by rfl) (gq:(backTo cpos (starEach es X.env)).any (·.1)=false:=by rfl) :
  SE X cA aq aj F EX (.Call (.Attribute o name apos) (e::es) [] cpos) (.meth fz p k O Xs):=PE.weak (Xo pa slot Im hm ho ha cQ p8 cR hs gq) λZ H Q hh=>un hh λU J s hL hS h=>by
 refine aX hL hS h λx H1 U1 d1 s1 x1 hL1 aG r1 h1=>?_;obtain⟨dd,rv,h2⟩:=Jp aG r1 h1;by_cases hk:qg k dd=true
 ·rw[if_pos hk] at h2;refine⟨zj8 hk rv,oU hL1 aG h2 λys H2 U2 ds s2 x2 hL2 aM r2 h3=>?_⟩;obtain⟨ds,rs,h4⟩:=uW aM (.cons (r1.mono x2 aG.lz) r2) h3;obtain⟨_,_,e,q⟩:=hr U2 H2 ds _ _ aM.zs rs (tW aM h4);cases e;exact q
 ·rw[if_neg hk] at h2;exact h2.elim
noncomputable def Np:Kd->String->Bool
 |.int,"int"=>true
 |.int,"bool"=>true
 |.bool,"bool"=>true
 |.str,"str"=>true
 |.tuple,"tuple"=>true
 |.list,"list"=>true
 |.dict,"dict"=>true
 |_,_=>false
noncomputable def u5:Kd->Option Value
 |.int=>some (.type "int")
 |.bool=>some (.type "bool")
 |.str=>some (.type "str")
 |.tuple=>some (.type "tuple")
 |.list=>some (.type "list")
 |.dict=>some (.type "dict")
 |_=>none
theorem zle{K:W.Frag}{k:Kd}{cu:Value}(h:u5 k=some cu){T:String}(hT:T∈["NoneType","bool","int","str","tuple","list","dict"]):PySem.W.kitOne K (.type T) cu=some (Np k T):=by
 simp only[jm,List.mem_nil_iff,or_false] at hT;cases k<;>simp only[u5] at h<;>cases h<;>rcases hT with rfl|rfl|rfl|rfl|rfl|rfl|rfl<;>rfl
structure Jz(K:W.Frag)(cA:Cl)(aq:Nat->Nat->Bool):Prop where
 xc:∀c,XC K (cA.a c)
 aq:∀c e,PySem.W.kitOne K (.ref (cA.a c)) (.ref (cA.a e))=some (aq c e)
 sI:∀c,PySem.W.kitOne K (.ref (cA.a c)) (.type "ValueError")=some true
noncomputable def Ft(cA:Cl):Kd->V
 |.cls e=>.ref (cA.a e)
 |.sI=>.ty "ValueError"
 |.int=>.ty "int"
 |.bool=>.ty "bool"
 |.str=>.ty "str"
 |.tuple=>.ty "tuple"
 |.list=>.ty "list"
 |.dict=>.ty "dict"
theorem zhq(Cs:u5 k=none->Jz X.K cA aq) :
  cZ X (.builtin "isinstance") (λxs H Q=>∃U d v bb,xs=[v,Ft cA k]/\Rv X.K cA U H d v/\lX aq d k=some bb/\Q (.bl bb) H):=by
 intro ao sh Z H xs us Q I r ⟨U,d,v,bb,e,rd,hi,q⟩;subst e;obtain⟨u,w,rfl,ru,Ss⟩:=Vals.two r;have u6:∀tk,EP X ao Z Q (.bool bb) {sh with toks:=tk}:=λtk=>⟨.bl bb,H,I.tok tk,rfl,q⟩;have bt:∀{T:String} {Hh:Heap->Prop},PySem.W.KitX X.K u (.type T) Hh->Hh sh.heap->T∈["NoneType","bool","int","str","tuple","list","dict"]->u≠Value.builtin "__main__.__loader__#opaque"->(∃cu,u5 k=some cu/\w=cu/\Np k T=bb)->wpAny (model X.prog X.w) X.A (PySem.call (.builtin "isinstance") [u,w]) (EP X ao Z Q) X.xe sh:=λ{T Hh} Sv hh hT hx ⟨cu,h1,h2,h3⟩=>by
  subst h2 h3;exact PySem.W.kia_one Sv I.lQ hh (zle h1 hT) hx u6
 have wv:∀cu,u5 k=some cu->w=cu:=λcu h=>by
  cases k<;>simp only[u5] at h<;>cases h<;>exact Ss
 have fin:∀T,lX aq d k=(match u5 k with|some _=>some (Np k T)|none=>none)->∃cu,u5 k=some cu/\w=cu/\Np k T=bb:=λT h=>by
  rw[hi] at h;cases z:u5 k with
  |none=>rw[z] at h;cases h
  |some cu=>rw[z] at h;cases h;exact⟨cu,rfl,wv cu z,rfl⟩
 cases d with
 |non=>
  cases (show Rep X.K cA U H .non v from rd);cases (show u=Value.none from ru);exact bt PySem.W.kitx_none trivial Zaa (λz=>nomatch z) (fin "NoneType" (by cases k<;>rfl))
 |bl b=>
  cases rd.bl;cases (show u=Value.bool b from ru);exact bt PySem.W.kitx_bool trivial Zaa (λz=>nomatch z) (fin "bool" (by cases k<;>rfl))
 |int i=>
  cases rd.int;obtain⟨t,z⟩:=(show ∃t,u=Value.int i t from ru);cases z;exact bt PySem.W.kitx_int trivial Zaa (λz=>nomatch z) (fin "int" (by cases k<;>rfl))
 |str y=>
  cases rd.str;obtain⟨t,z⟩:=(show ∃t,u=Value.str y t from ru);cases z;exact bt PySem.W.kitx_str trivial Zaa (λz=>nomatch z) (fin "str" (by cases k<;>rfl))
 |tup xs=>
  obtain⟨ad,vs,rfl,h1,h2⟩:=rd.tup;cases (show u=Value.ref ad from ru);obtain⟨its,_,ht,_⟩:=I.tuple h1.jK;obtain⟨o,q1,q2,_⟩:=ht;exact bt PySem.W.kitx_tuple ⟨o,q1,q2⟩ Zaa (λz=>nomatch z) (fin "tuple" (by cases k<;>rfl))
 |fl xs=>
  obtain⟨ad,vs,rfl,h1,h2⟩:=rd;cases (show u=Value.ref ad from ru);obtain⟨its,_,ht,_⟩:=I.list h1;obtain⟨o,q1,q2,_⟩:=ht.isList;exact bt PySem.W.kitx_list ⟨o,q1,q2⟩ Zaa (λz=>nomatch z) (fin "list" (by cases k<;>rfl))
 |fd ks vs=>
  cases (show Rep X.K cA U H (.fd ks vs) v from rd) with
  |@fd ad kk ii q1 n=>
   cases (show u=Value.ref ad from ru);obtain⟨_,_,vs,_,o,es',ep,g1,g2,_⟩:=(show bI X.prog X.w H sh.heap ad (.dK [(.inr kk,.int ii)]) from I.hok ad _ q1);exact bt PySem.W.kitx_dict ⟨o,g1,g2.1⟩ Zaa (λz=>nomatch z) (fin "dict" (by cases k<;>rfl))
 |ob c fs=>cases k<;>cases hi
 |any=>cases k<;>cases hi
 |exc c fs=>
  cases (show Rep X.K cA U H (.exc c fs) v from rd) with
  |@exc ad _ _ vs hx rs=>
   cases (show u=Value.ref ad from ru);have hI:∃ox od,PySem.W.InstAt sh.heap ad ox (cA.a c) od:=by
    obtain⟨_,⟨_,_,hx⟩|⟨dx,hx,_,hd,_⟩⟩:=hx
    ·obtain⟨⟨oe,vs,g1,g2,g3,g4⟩,_⟩:=(show bI X.prog X.w H sh.heap ad (xP ad (cA.a c) none) from I.hok ad _ hx);exact⟨oe,none,g1,g2,by unfold PySem.W.notCls;rw[g4],by rw[g3];trivial⟩
    ·obtain⟨⟨oe,vs,g1,g2,g3,g4⟩,_⟩:=(show bI X.prog X.w H sh.heap ad (xP ad (cA.a c) (some dx)) from I.hok ad _ hx);obtain⟨mA,⟨od,es,ep,e1,c1⟩,_⟩:=(show bI X.prog X.w H sh.heap dx (.xd _) from I.hok dx _ hd);exact⟨oe,some od,g1,g2,by unfold PySem.W.notCls;rw[g4],by rw[g3];exact e1⟩
   cases k with
   |cls e=>
    cases (show w=Value.ref (cA.a e) from Ss);have z:some (aq c e)=some bb:=hi;cases z;exact PySem.W.kia_one (Xy ((Cs rfl).xc c)) I.lQ hI ((Cs rfl).aq c e) (λz=>nomatch z) u6
   |sI=>
    cases (show w=Value.type "ValueError" from Ss);have z:some true=some bb:=hi;cases z;exact PySem.W.kia_one (Xy ((Cs rfl).xc c)) I.lQ hI ((Cs rfl).sI c) (λz=>nomatch z) u6
   |_=>cases hi
theorem zmu(Cs:u5 k=none->Jz X.K cA aq)(hg:Gl X "isinstance")(hm:X.mg "isinstance"=none)(ha:SE X cA aq aj F EX a A)(hk:PE X kx (tC (Ft cA k)))(h1:starEach [a,kx] X.env=(false,eval a X.env)::starEach [kx] X.env:=by rfl)(h2:starEach [kx] X.env=(false,eval kx X.env)::starEach [] X.env:=by rfl)
  (cU:(backTo pos (starEach [kx] X.env)).any (·.1)=false:=by rfl):SE X cA aq aj F EX (.Call (.Name "isinstance" pp) [a,kx] [] pos) (.mW A k):=PE.weak (Xg (zhq (cA:=cA) (k:=k) Cs) hg hm PyProof.Rows.boot_isinstance (rY ha (rY hk xq h2) h1) RB RB h1 cU) λZ H Q hh=>un hh λU J s hL hS h=>
 aX hL hS h λv H1 U1 d s1 x1 hL1 aG r1 h1=>by
  show ∃U d' v' bb,[v,Ft cA k]=[v',Ft cA k]/\_;obtain⟨dd,rv,h2⟩:=Jp aG r1 h1;obtain⟨bb,e,h3⟩:=Run.m8 h2;exact⟨U1,dd,v,bb,rfl,rv,e,h3.bC aG _ (.d (.bl bb))⟩
end
theorem YC(n:Nat):∀is js:List Int,dU (c7 n) (is.map .int) (js.map .int)=some (decide (is=js))
 |[],[]=>rfl
 |[],_::_=>rfl
 |_::_,[]=>rfl
 |i::is,j::js=>by
  have e:c7 n (.int i) (.int j)=some (i==j):=by cases n<;>rfl
  simp only[jo,dU,YC n is js,e]
  congr 1
  by_cases h:i=j
  ·subst h;by_cases h2:is=js<;>simp[h2]
  ·simp[h]
theorem zl9{a b:Kx}:c7 2 (sW a) (sW b)=some (decide (a=b)):=by
 cases a with
 |non=>cases b<;>rfl
 |int i=>cases b with
  |int j=>
   show some (i==j)=_;by_cases h:i=j
   ·subst h;simp
   ·have hn:¬Kx.int i=Kx.int j:=λz=>h (by cases z;rfl);simp[h,hn]
  |_=>rfl
 |row is=>cases b with
  |row js=>
   show dU (c7 1) (is.map .int) (js.map .int)=_;rw[YC];by_cases h:is=js
   ·subst h;simp
   ·have hn:¬Kx.row is=Kx.row js:=λz=>h (by cases z;rfl);simp[h,hn]
  |_=>rfl
theorem YD{x y:List Kx}:c7 3 (iM x) (iM y)=some (decide (x=y)):=by
 show dU (c7 2) (x.map sW) (y.map sW)=_
 induction x generalizing y with
 |nil=>cases y<;>rfl
 |cons a x ih=>cases y with
  |nil=>rfl
  |cons b y=>
   simp only[jo,dU,ih,zl9]
   congr 1
   by_cases h:a=b
   ·subst h;by_cases h2:x=y<;>simp[h2]
   ·simp[h]
theorem YF:∀{xs:List D} {is:List Int},cH xs=some is->xs=is.map .int
 |[],is,h=>by cases h;rfl
 |x::r,is,h=>by
  cases x with
  |int i=>
   simp only[cH,jO] at h;obtain⟨js,h1,rfl⟩:=h;rw[YF h1];rfl
  |_=>cases h
theorem ziN{d:D}{k:Kx}(h:uU d=some k):d=sW k:=by
 cases d with
 |non=>cases h;rfl
 |int i=>cases h;rfl
 |tup xs=>
  simp only[uU,jO] at h;obtain⟨js,h1,rfl⟩:=h;rw[YF h1];rfl
 |_=>cases h
theorem YG:∀{xs:List D} {k:List Kx},Cr xs=some k->xs=k.map sW
 |[],k,h=>by cases h;rfl
 |x::r,k,h=>by
  unfold Cr at h;cases e1:uU x with
  |none=>simp only[e1] at h;cases h
  |some a=>cases e2:Cr r with
   |none=>simp only[e1,e2] at h;cases h
   |some b=>
    simp only[e1,e2] at h;cases h;rw[ziN e1,YG e2];rfl
theorem zmj{d:D}{k:List Kx}(h:kOf d=some k):d=iM k:=by
 cases d with
 |tup xs=>show D.tup xs=.tup _;rw[YG h]
 |_=>cases h
noncomputable def YH:Kx->Nat
 |.row is=>is.length+1
 |_=>1
noncomputable def u9:List Kx->Nat
 |[]=>0
 |x::r=>YH x+u9 r
section
variable {prog:Program}{w:World}{A:Around}{E:Value->Shared->Prop}{s:Shared}{h h':Heap}
theorem YJ:∀{is:List Int} {us:List Value},jt h (is.map .int) us->ItemsAre (intKind prog w) is us
 |[],us,r=>by cases r;exact .nil
 |i::is,us,r=>by
  cases r with
  |cons a r=>cases a with
   |int i t=>exact .cons (by simp[intKind,Value.isInt]) (YJ r)
   |oth k=>cases k
theorem u_{is:List Int}{a:Value}(x:Is h (.tup (is.map .int)) a):∃b,a=.ref b/\IsTupleKey (intKind prog w) h is b:=by
 cases x with
 |tup p r=>
  obtain⟨o,e,c,n,d⟩:=p;exact⟨_,rfl,o,_,n,e,c,d,by simpa using YJ r⟩
 |oth k=>cases k
theorem zjK{x:Kx}{u:Value}{Q:Int->Shared->Prop}(hu:A.units<cLine)(hx:Is s.heap (sW x) u)(q:Q (R4 x) {s with toks:=s.toks+YH x}):wpAny (model prog w) A (pyHash u) Q E s:=by
 cases x with
 |non=>
  cases hx with
  |non=>exact PySem.W.pyHash_slot (T:="NoneType") rfl F.slot_NoneType_hash F.entry_NoneType_hash (F.args_NoneType_hash_1 _) (beq_builtin_none _) (.inr hu) (aA (aP (aA (wpAny_mkInt (aP ⟨_,_,rfl,q⟩)))))
  |oth k=>cases k
 |int i=>
  cases hx with
  |int i t=>exact wpAny_pyHash_int q
  |oth k=>cases k
 |row is=>
  obtain⟨b,rfl,k⟩:=u_ (prog:=prog) (w:=w) hx;exact wpAny_pyHash_tuple hu k q
theorem YK{k:List Kx}:∀{r:List Kx} {us:List Value} {b:Array Int} {s:Shared} {Q:Array Int->Shared->Prop},A.units<cLine->jt s.heap (r.map sW) us->(∀b':Array Int,b'.toList=b.toList++r.map R4->Q b' {s with toks:=s.toks+u9 r})->
  wpAny (model prog w) A (forIn us b λx r=>do let h <-pyHash x;pure PUnit.unit;pure (ForInStep.yield (r.push h))) Q E s
 |[],us,b,s,Q,hu,x,q=>by cases x;exact aP (q b Zaa)
 |a::r,us,b,s,Q,hu,x,q=>by
  cases x with
  |cons x1 x2=>
   rw[Eh];refine aA (aA (zjK hu x1 (aA (aP (aP ?_)))));refine YK (k:=k) hu x2 λb' e=>?_;have:=q b' (by simp[e]);simpa [u9,Nat.add_assoc] using this
theorem zhA{k:List Kx}{a:Addr}{Q:Int->Shared->Prop}(hu:A.units+1<cLine)(hk:Is s.heap (iM k) (.ref a))(q:Q (q_ k) {s with toks:=s.toks+(u9 k+1)}):wpAny (model prog w) A (pyHash (.ref a)) Q E s:=by
 cases hk with
 |oth k=>cases k
 |tup p r=>
  obtain⟨o,e,c,n,d⟩:=p;refine PySem.W.pyHash_slot (T:="tuple") ⟨_,e,c⟩ F.slot_tuple_hash F.entry_tuple_hash (F.args_tuple_hash_1 _) (beq_builtin_none _) (.inr gV) ?_;show wpAny _ _ (Builtin.Tuple.tupleItemsOf (.ref a) >>= _) _ _ s;refine aA (wpAny_tupleItemsOf e d (aA ?_));rw[<-Lp];refine YK (A:=A.in1) (k:=k) (show A.units+1<cLine from hu) (by simpa using r) λb hb=>?_;show wpAny _ _ (retInt (Builtin.Tuple.tupleHashOf b.toList)) _ _ _;rw[hb];exact aA (wpAny_mkInt (aP ⟨_,_,rfl,by simpa [Nat.add_assoc,q_] using q⟩))
theorem zg5(ht:∀a xs,h.IsTuple a xs->h'.IsTuple a xs)(hl:∀a xs,h.IsList a xs->h'.IsList a xs){d:D}{u:Value}(x:Is h d u):Is h' d u:=
 Is.rec (motive_1:=λd u _=>Is h' d u) (motive_2:=λd u _=>jt h' d u) .non .bl .int .str (λp _ r=>.tup (ht _ _ p) r) (λp _ r=>.fl (hl _ _ p) r) (λk=>.oth k) .nil (λ_ _ a r=>.cons a r) x
theorem zh5:∀{n:Nat} {x:Kx} {u:Value} {Q:Bool->Shared->Prop},Is s.heap (sW x) u->Q true s->wpAny (model prog w) A (eqIsQuiet (n+1) u) Q E s:=by
 intro n x u Q hx q;cases x with
 |non=>
  cases hx with
  |non=>rw[eqIsQuiet_byValue _ rfl];exact aP q
  |oth k=>cases k
 |int i=>
  cases hx with
  |int i t=>rw[eqIsQuiet_byValue _ rfl];exact aP q
  |oth k=>cases k
 |row is=>
  obtain⟨b,rfl,k⟩:=u_ (prog:=prog) (w:=w) hx;have ty:=k.typeIs;obtain⟨o,items,m,ho,_,hd,hi⟩:=k;unfold eqIsQuiet;refine aA (wpAny_specialOf ty F.slot_tuple_eq.lookup ?_);show wpAny _ A (isInstance (.ref b) (.type "tuple") >>= _) Q E s;refine aA (Lx ty isSubtype_tuple_tuple ?_);simp only[Bool.not_true,rK,nW];refine aA (rO ho hd (aA ?_));show wpAny _ A (forIn items _ _) _ E s;rw[<-Lp];refine wpAny_forIn_list _ (λl r t=>r.1=none/\t=s/\∀v∈l,carriedByValue v=true) _ (λv l r t z=>?_) (λr t z=>?_) _ _ ⟨rfl,rfl,hi.byValue⟩
  ·obtain⟨_,rfl,qb⟩:=z;rw[eqIsQuiet_byValue _ (qb v lq)];exact aA (aP (aP ⟨rfl,rfl,λy hy=>qb y (gY _ hy)⟩))
  ·obtain⟨r1,r2⟩:=r;obtain⟨z1,rfl,_⟩:=z;cases z1;exact aP q
theorem zfW{k:List Kx}{a:Addr}{Q:Bool->Shared->Prop}(hk:Is s.heap (iM k) (.ref a))(q:Q true s):wpAny (model prog w) A (eqIsQuiet 8 (.ref a)) Q E s:=by
 cases hk with
 |oth k=>cases k
 |@tup _ _ its p r=>
  obtain⟨o,ho,c,n,hd⟩:=p;unfold eqIsQuiet;refine aA (wpAny_specialOf ⟨_,ho,c⟩ F.slot_tuple_eq.lookup ?_);show wpAny _ A (isInstance (.ref a) (.type "tuple") >>= _) Q E s;refine aA (Lx ⟨_,ho,c⟩ isSubtype_tuple_tuple ?_);simp only[Bool.not_true,rK,nW];refine aA (rO ho hd (aA ?_));show wpAny _ A (forIn its.toArray _ _) _ E s;rw[<-Lp];refine wpAny_forIn_list _ (λl r t=>r.1=none/\t=s/\∀v∈l,∃x,Is s.heap (sW x) v) _ (λv l r t z=>?_) (λr t z=>?_) _ _ ⟨rfl,rfl,?_⟩
  ·obtain⟨_,rfl,qb⟩:=z;obtain⟨x,hx⟩:=qb v lq;exact aA (zh5 (n:=6) hx (aP ⟨rfl,rfl,λy hy=>qb y (gY _ hy)⟩))
  ·obtain⟨r1,r2⟩:=r;obtain⟨z1,rfl,_⟩:=z;cases z1;exact aP q
  ·intro v hv;have:∀{ks:List Kx} {us:List Value},jt s.heap (ks.map sW) us->∀v∈us,∃x,Is s.heap (sW x) v:=λ{ks}=>by
    induction ks with
    |nil=>intro us r v hv;cases r;cases hv
    |cons y ks ih=>
     intro us r v hv;cases r with
     |cons a r=>
      rcases jm.mp hv with rfl|hv
      ·exact⟨y,a⟩
      ·exact ih r v hv
   exact this r v (by simpa using hv)
end
noncomputable def gM(prog:Program)(w:World):HeapKind prog w (List Kx) where
 is:=λh k a=>Is h (iM k) (.ref a)
 hash:=q_
 draws:=λk=>u9 k+1
 room:=λA=>A.units+4<cLine
 inj:=λx y=>jP (R9 3 x y YD)
 keeps:=λ{h h' k a d o es ep} x ho hd hs=>zg5 (λb xs ⟨q,e,c,n,z⟩=>⟨q,(hs.2 b λy=>by subst y;rw[ho] at e;cases e;rw[hd] at z;cases z).trans e,c,n,z⟩) (λb xs ⟨q,e,c,n,z⟩=>⟨q,(hs.2 b λy=>by subst y;rw[ho] at e;cases e;rw[hd] at z;cases z).trans e,c,n,z⟩) x
 pyHash:=λhu hk q=>zhA gV hk q
 eqBool:=λ{A E s x y a b Q} hu hx hy q=>Fp 3 (show A.units+3<cLine by lia) hx hy YD _ _ _ _ q
 quiet:=λhk q=>zfW hk q
section
variable {K:W.Frag}{cA:Cl}{U U':Ph}{H H':Hp}{s:S}
theorem TupAt.kO(e:∀a,U'.z a->U.z a){a:Addr}{vs:List V}(h:TupAt K U H a vs):TupAt K U' H a vs:=h.imp (λ⟨p,n⟩=>⟨p,λz=>n (e a z)⟩) id
theorem LstAt.kO(e:∀a,U'.z a->U.z a){a:Addr}{vs:List V}(h:LstAt K U H a vs):LstAt K U' H a vs:=h.imp (λ⟨p,n⟩=>⟨p,λz=>n (e a z)⟩) id
theorem ExcAt.kO(e:∀a,U'.z a->U.z a){a:Addr}{c:Nat}{vs:List V}(h:ExcAt cA U H a c vs):ExcAt cA U' H a c vs:=
 ⟨λz=>h.1 (e a z),h.2.imp id λ⟨dx,p,n,q,l⟩=>⟨dx,p,λz=>n (e dx z),q,l⟩⟩
theorem qu.kO(e:∀a,U'.z a->U.z a){a:Addr}{c:Nat}{vs:List V}(h:qu cA U H a c vs):qu cA U' H a c vs:=⟨λz=>h.1 (e a z),h.2⟩
theorem Rep.kO(e:∀a,U'.z a->U.z a){d:D}{v:V}(h:Rep K cA U H d v):Rep K cA U' H d v:=
 Rep.rec (motive_1:=λd v _=>Rep K cA U' H d v) (motive_2:=λd v _=>aB K cA U' H d v) .non .bl .int .str (λh _ i=>.tup (h.kO e) i) (λh _ i=>.fl (h.kO e) i) (λh n=>.fd h (λz=>n (e _ z))) (λh _ i=>.exc (h.kO e) i) (λh _ i=>.ob (h.kO e) i) .any .nil (λ_ _ i j=>.cons i j) h
theorem aB.kO(e:∀a,U'.z a->U.z a){d:List D}{v:List V}(h:aB K cA U H d v):aB K cA U' H d v:=
 aB.rec (motive_1:=λd v _=>Rep K cA U' H d v) (motive_2:=λd v _=>aB K cA U' H d v) .non .bl .int .str (λh _ i=>.tup (h.kO e) i) (λh _ i=>.fl (h.kO e) i) (λh n=>.fd h (λz=>n (e _ z))) (λh _ i=>.exc (h.kO e) i) (λh _ i=>.ob (h.kO e) i) .any .nil (λ_ _ i j=>.cons i j) h
theorem lA.kO(e:∀a,U'.z a->U.z a){a:Addr}{o:SO}(h:lA K cA U H a o):lA K cA U' H a o:=h.map (λ_ _ q=>q) λ_ _ r=>r.kO e
theorem Rep.zl{d:D}{v:V}(h:Rep K cA U H d v)(l:List Addr):Rep K cA ⟨U.z,l⟩ H d v:=Rep.kO (U:=U) (U':=⟨U.z,l⟩) (λ_ z=>z) h
theorem aB.zl{d:List D}{v:List V}(h:aB K cA U H d v)(l:List Addr):aB K cA ⟨U.z,l⟩ H d v:=aB.kO (U:=U) (U':=⟨U.z,l⟩) (λ_ z=>z) h
theorem lA.zl{a:Addr}{o:SO}(h:lA K cA U H a o)(l:List Addr):lA K cA ⟨U.z,l⟩ H a o:=lA.kO (U:=U) (U':=⟨U.z,l⟩) (λ_ z=>z) h
noncomputable def adr(l:List Addr):List Nat->List Addr
 |[]=>[]
 |n::r=>match l[n]? with
  |some a=>a::adr l r
  |none=>adr l r
theorem Fw{l:List Addr}:∀{ns:List Nat} {a:Addr},a∈adr l ns->∃n∈ns,l[n]?=some a
 |[],a,h=>by cases h
 |n::r,a,h=>by
  unfold adr at h;cases e:l[n]? with
  |none=>
   simp only[e] at h;obtain⟨m,h1,h2⟩:=Fw h;exact⟨m,gY _ h1,h2⟩
  |some b=>
   simp only[e] at h;rcases jm.mp h with rfl|h
   ·exact⟨n,lq,e⟩
   ·obtain⟨m,h1,h2⟩:=Fw h;exact⟨m,gY _ h1,h2⟩
theorem YL{s:S}:∀{ns:List Nat} {s0:S} {i n:Nat},iK s ns=some s0->ns[i]?=some n->s0[i]?=s[n]?/\∃o,s[n]?=some o
 |[],s0,i,n,h,e=>by simp at e
 |m::r,s0,i,n,h,e=>by
  unfold iK at h;cases e1:s[m]? with
  |none=>simp only[e1] at h;cases h
  |some o=>
   cases e2:iK s r with
   |none=>simp only[e1,e2] at h;cases h
   |some q=>
    simp only[e1,e2] at h;cases h;cases i with
    |zero=>simp at e;subst e;exact⟨by simp[e1],o,e1⟩
    |succ i=>simpa using YL e2 (by simpa using e)
theorem YM{s:S}:∀{ns:List Nat} {s0:S},iK s ns=some s0->s0.length=ns.length
 |[],s0,h=>by cases h;rfl
 |m::r,s0,h=>by
  unfold iK at h;cases e1:s[m]? with
  |none=>simp only[e1] at h;cases h
  |some o=>
   cases e2:iK s r with
   |none=>simp only[e1,e2] at h;cases h
   |some q=>
    simp only[e1,e2] at h;cases h;rw[gZ,gZ,YM e2]
theorem JD{l:List Addr}:∀{ns:List Nat} {i n:Nat},(∀n∈ns,∃a,l[n]?=some a)->ns[i]?=some n->(adr l ns)[i]?=l[n]?
 |[],i,n,_,e=>by simp at e
 |m::r,i,n,h,e=>by
  obtain⟨a,ha⟩:=h m lq;unfold adr;simp only[ha];cases i with
  |zero=>simp at e;subst e;simp[ha]
  |succ i=>simpa using JD (λn hn=>h n (gY _ hn)) (by simpa using e)
theorem JF{l:List Addr}:∀{ns:List Nat},(∀n∈ns,∃a,l[n]?=some a)->(adr l ns).length=ns.length
 |[],_=>rfl
 |m::r,h=>by
  obtain⟨a,ha⟩:=h m lq;unfold adr;simp only[ha];rw[gZ,gZ,JF (λn hn=>h n (gY _ hn))]
theorem YQ{l:List Addr}(hl:l.Nodup):∀{ns:List Nat},ns.Nodup->(∀n∈ns,∃a,l[n]?=some a)->(adr l ns).Nodup
 |[],_,_=>Ar
 |m::r,hn,h=>by
  obtain⟨a,ha⟩:=h m lq;unfold adr;simp only[ha];obtain⟨h1,h2⟩:=wI.mp hn;refine wI.mpr ⟨λz=>?_,YQ hl h2 (λn hn=>h n (gY _ hn))⟩;obtain⟨n,q1,q2⟩:=Fw z;have:m=n:=(PL (fG.mp ha).1 hl).mp (ha.trans q2.symm);exact h1 (this▸q1)
theorem Fx{s:S}:∀{ns:List Nat} {s1:S},(dB s ns s1).length=s.length
 |[],s1=>by cases s1<;>rfl
 |n::r,[]=>rfl
 |n::r,o::q=>by
  show (dB (s.set n o) r q).length=_;rw[Fx,pO]
theorem Sw{s:S}:∀{ns:List Nat} {s1:S} {m:Nat},m∉ns->(dB s ns s1)[m]?=s[m]?
 |[],s1,m,_=>by cases s1<;>rfl
 |n::r,[],m,_=>rfl
 |n::r,o::q,m,h=>by
  show (dB (s.set n o) r q)[m]?=_;rw[Sw (λz=>h (gY _ z)),qL (λz=>h (by rw[z];exact lq))]
theorem YS{s:S}:∀{ns:List Nat} {s1:S} {i m:Nat} {o:SO},ns.Nodup->ns[i]?=some m->s1[i]?=some o->m<s.length->(dB s ns s1)[m]?=some o
 |[],s1,i,m,o,_,e,_,_=>by simp at e
 |n::r,[],i,m,o,_,_,e,_=>by simp at e
 |n::r,q::qs,i,m,o,hn,e1,e2,hm=>by
  show (dB (s.set n q) r qs)[m]?=_;obtain⟨h1,h2⟩:=wI.mp hn;cases i with
  |zero=>
   simp at e1 e2;subst e1 e2;rw[Sw h1,yP hm]
  |succ i=>exact YS h2 (by simpa using e1) (by simpa using e2) (by rw[pO];exact hm)
theorem zgq:∀{xs:List Xv} {vs:List V} (l0:List Addr) (z:Addr->Prop) (k:Nat),aR K cA U H xs vs->U.z=z->(∀i n,(locs xs)[i]?=some n->l0[k+i]?=U.l[n]?)->aR K cA ⟨z,l0⟩ H (dz k xs) vs
 :=by
 intro xs vs l0 z k r0
 induction r0 generalizing k with
 |nil=>exact λ_ _=>.nil
 |@cons x v xs vs a q ih=>
  intro ez h;cases a with
  |d a=>exact .cons (.d (a.kO λb hb=>by rw[ez];exact hb)) (ih k ez h)
  |@l n a' a=>
   refine .cons (.l ?_) (ih (k+1) ez λi m e=>?_)
   ·have:=h 0 n rfl;rw[Nat.add_zero] at this;show l0[k]?=_;rw[this];exact a
   ·have:=h (i+1) m (by simpa [locs] using e);rw[<-this]
    congr 1
    lia
theorem zfc:∀{xs:List Xv} {vs:List V},aR K cA U H xs vs->∀n∈locs xs,∃a,U.l[n]?=some a
 :=by
 intro xs vs r0
 induction r0 with
 |nil=>exact λn h=>by cases h
 |cons a q ih=>
  intro n h;cases a with
  |d a=>exact ih n h
  |l a=>
   rcases jm.mp h with rfl|h
   ·exact⟨_,a⟩
   ·exact ih n h
theorem YT{xs:List Xv}{U1:Ph}{s0 s1:S}(hS:aD K cA U H s)(hn:(locs xs).Nodup)(ht:∀n∈locs xs,∃a,U.l[n]?=some a)(x:Ext ⟨U.z,adr U.l (locs xs)⟩ H U1 H')(r1:aD K cA U1 H' s1) :
  Ext U H ⟨U1.z,U.l⟩ H'/\aD K cA ⟨U1.z,U.l⟩ H' (dB s (locs xs) s1):=by
 have aq:∀a∈adr U.l (locs xs),a∈U.l:=λa ha=>by obtain⟨n,_,q⟩:=Fw ha;exact gH q
 obtain⟨r,er,hr⟩:=x.more;have er:U1.l=adr U.l (locs xs)++r:=er;refine⟨⟨⟨[],by simp,by simp⟩,λa h=>x.qw a h,λa h=>x.kE a h,λa o h t n=>x.frame a o h t λz=>n (aq a z),x.stay⟩,?_⟩;refine⟨by rw[Fx];exact hS.len,λn o a e1 e2=>?_,hS.uniq,λa ha=>x.qw a (hS.lz a ha),r1.zt⟩;have e2:U.l[n]?=some a:=e2;by_cases cV:n∈locs xs
 ·obtain⟨i,hi,ei⟩:=yR cV;have ei:(locs xs)[i]?=some n:=by rw[eE hi,ei]
  have ha:(adr U.l (locs xs))[i]?=some a:=by rw[JD ht ei];exact e2
  have YW:U1.l[i]?=some a:=by rw[er,pF (fG.mp ha).1];exact ha
  have cL:i<s1.length:=by rw[<-r1.len];exact(fG.mp YW).1
  have hb:=YS (s:=s) (s1:=s1) hn ei (eE cL) (by rw[<-hS.len];exact(fG.mp e2).1);rw[hb] at e1;cases e1;exact lA.zl (r1.obj i _ a (eE cL) YW) _
 ·rw[Sw cV] at e1;have Sx:a∉adr U.l (locs xs):=λz=>by
   obtain⟨m,q1,q2⟩:=Fw z;have:n=m:=(PL (fG.mp e2).1 hS.uniq).mp (e2.trans q2.symm);exact cV (this▸q1)
  exact(hS.obj n o a e1 e2).map (λ_ t q=>x.frame a _ q t Sx) λ_ _ r=>Rep.zl ((Rep.zl r _).mono x λa ha=>hS.lz a (aq a ha)) _
theorem YX{F:List Xv->M Xv}{xs:List Xv}{vs:List V}{Q:VK}{EE:Nat->List D->Ph->Hp->Prop}(hS:aD K cA U H s)(r:aR K cA U H xs vs)
  (hE:∀c fs U1 U2 H',U1.z=U2.z->EE c fs U1 H'->EE c fs U2 H')
  (h:Run K cA (bU F xs) U H s (λx _ U' H'=>∀v,aU K cA U' H' x v->Q v H') (λc fs _ U' H'=>EE c fs U' H')) :
  ∃U0 s0,aR K cA U0 H (dz 0 xs) vs/\aD K cA U0 H s0/\Run K cA (F (dz 0 xs)) U0 H s0 (λx _ U' H'=>∀v,aU K cA U' H' x v->Q v H') (λc fs _ U' H'=>EE c fs U' H'):=by
 unfold Run bU at h;by_cases hn:(locs xs).Nodup
 ·simp only[if_pos hn] at h;have ht:=zfc r;have aq:∀a∈adr U.l (locs xs),a∈U.l:=λa ha=>by obtain⟨n,_,q⟩:=Fw ha;exact gH q
  cases e0:iK s (locs xs) with
  |none=>simp only[e0] at h
  |some s0=>
   simp only[e0] at h;refine⟨⟨U.z,adr U.l (locs xs)⟩,s0,zgq _ _ 0 r rfl (λi n e=>by rw[Nat.zero_add];exact JD ht e),?_,?_⟩
   ·refine⟨by rw[YM e0];exact JF ht,λi o a e1 e2=>?_,YQ hS.uniq hn ht,λa ha=>hS.lz a (aq a ha),hS.zt⟩;have e2:(adr U.l (locs xs))[i]?=some a:=e2;have hi:i<(locs xs).length:=by rw[<-JF ht];exact(fG.mp e2).1
    have ei:(locs xs)[i]?=some ((locs xs)[i]):=eE hi;rw[JD ht ei] at e2;rw[(YL e0 ei).1] at e1;exact lA.zl (hS.obj _ o a e1 e2) _
   ·unfold Run;cases e1:F (dz 0 xs) s0 with
    |none=>simp only[e1] at h
    |some q=>
     obtain⟨q,s1⟩:=q;simp only[e1] at h;cases q with
     |er c fs=>
      intro U1 H' x r1;obtain⟨x2,r2⟩:=YT (s0:=s0) hS hn ht x r1;exact hE c fs ⟨U1.z,U.l⟩ U1 H' rfl (h ⟨U1.z,U.l⟩ H' x2 r2)
     |ok y=>
      intro U1 H' x r1 v rv;obtain⟨x2,r2⟩:=YT (s0:=s0) hS hn ht x r1;cases y with
      |d w=>
       cases rv with
       |d rv=>exact h ⟨U1.z,U.l⟩ H' x2 r2 v (.d (Rep.zl rv _))
      |l n=>
       cases rv with
       |@l _ a hl=>
        obtain⟨rr,er,hr⟩:=x.more;have er:U1.l=adr U.l (locs xs)++rr:=er;cases em:(locs xs)[n]? with
        |some m=>
         simp only[em] at h;refine h _ H' x2 r2 _ (.l ?_);show U.l[m]?=some a;have ha:(adr U.l (locs xs))[n]?=U.l[m]?:=JD ht em;have cL:n<(adr U.l (locs xs)).length:=by rw[JF ht];exact(fG.mp em).1
         rw[er,pF cL] at hl;rw[<-ha];exact hl
        |none=>
         simp only[em] at h;have v8:(adr U.l (locs xs)).length<=n:=by rw[JF ht];exact qK.mp em
         have E_:a∈rr:=by
          rw[er,pK v8] at hl;exact gH hl
         have Sx:a∉U.l:=λz=>by
          obtain⟨o,eo⟩:=hS.zt a (hS.lz a z);rw[hr a E_] at eo;cases eo
         cases eo:s1[n]? with
         |none=>simp only[eo] at h
         |some o=>
          simp only[eo] at h;have ho:=r1.obj n o a eo hl;refine h ⟨U1.z,U.l++[a]⟩ H' ⟨⟨[a],rfl,by simpa using hr a E_⟩,x2.qw,x2.kE,x2.frame,x2.stay⟩ ?_ _ (.l (by show (U.l++[a])[s.length]?=_;rw[<-hS.len];simp));refine⟨by show (U.l++[a]).length=_;rw[pG,pG,Fx,hS.len];rfl,λm o' a' e1 e2=>?_,?_,λb hb=>?_,r1.zt⟩
          ·have e2:(U.l++[a])[m]?=some a':=e2;by_cases hm:m<s.length
           ·rw[pF (by rw[Fx];exact hm)] at e1;rw[pF (by rw[hS.len];exact hm)] at e2;exact lA.zl (r2.obj m o' a' e1 e2) _
           ·have v9:m=s.length:=by
             have z:=(fG.mp e2).1;rw[pG,hS.len] at z;simp at z
             lia
            subst v9;rw[pK (by rw[Fx];exact cj _)] at e1;rw[pK (by rw[hS.len];exact cj _)] at e2;simp[Fx] at e1;simp[hS.len] at e2;subst e1 e2;exact lA.zl ho _
          ·show (U.l++[a]).Nodup;rw[Ls];refine⟨hS.uniq,by simp,λb hb c hc e=>?_⟩;simp at hc;subst hc e;exact Sx hb
          ·have hb:b∈U.l++[a]:=hb;rcases nG.mp hb with z|z
           ·exact x2.qw b (hS.lz b z)
           ·simp at z;subst z;exact r1.lz _ (gH hl)
 ·simp only[if_neg hn] at h
end
section
variable {X:Cx}{cA:Cl}{aq:Nat->Nat->Bool}{aj:Bool}{F:Fn}{EX:XS}{a b c d e o:Expr}{A B C Dd E' O:E}{pos pp p2 apos cpos:Pos}{es:List Expr}{Xs:Es}{fz:Bool}{p:Pr}{x:Str}{U:Ph}{H:Hp}{s:S}
theorem Nq{K:W.Frag}{β:Type}{x:Xv}{v:V}{k:Nat×List D->M β}{P:β->S->Ph->Hp->Prop}{Ee:Nat->List D->S->Ph->Hp->Prop}(hS:aD K cA U H s)(r:aU K cA U H x v)(h:Run K cA (M.bd (dh x) k) U H s P Ee) :
  ∃n ad xs vs,x=.l n/\v=.ref ad/\s[n]?=some (.lst xs)/\U.l[n]?=some ad/\H ad=some (.lst vs)/\aB K cA U H xs vs/\Run K cA (k (n,xs)) U H s P Ee:=by
 cases r with
 |d _=>exact h.elim
 |@l n ad hl=>
  unfold Run M.bd dh at h;dsimp only at h;cases e:s[n]? with
  |none=>rw[e] at h;exact h.elim
  |some o=>
   rw[e] at h;cases o with
   |lst xs=>
    obtain⟨vs,q1,q2⟩:=hS.obj n _ _ e hl;exact⟨n,ad,xs,vs,rfl,rfl,e,hl,q1,q2,h⟩
   |_=>exact h.elim
theorem zjT(ho:SE X cA aq aj F EX o O)(ha:SE X cA aq aj F EX a A)
  (cQ:attributeBase o "append" X.env (eval o X.env)=eval o X.env:=by rfl)
  (p8:((backTo cpos (starEach [a] X.env)).all (λx=>!x.1)&&(backToKw cpos (keywordEach [] X.env)).all (λx=>x.1.isSome)
  &&decide ([a].length+([]:List Keyword).length+(if ([]:List Keyword).isEmpty then 0 else 1)<30))=true:=by rfl)
  (cR:(apos.endLine==cpos.line)=true:=by rfl) (hs:starEach [a] X.env=(false,eval a X.env)::starEach [] X.env:=by rfl) (gq:(backTo cpos (starEach [] X.env)).any (·.1)=false:=by rfl) :
  SE X cA aq aj F EX (.Call (.Attribute o "append" apos) [a] [] cpos) (.push O A):=PE.weak (Xo Pb PySem.F.slot_list_append PySem.F.type_list_append Q7 ho (rY ha xq hs) cQ p8 cR hs gq) λZ H Q hh=>un hh λU J s hL hS h=>by
 refine aX hL hS h λx H1 U1 d1 s1 x1 hL1 aG r1 h1=>?_;obtain⟨n,ad,xs,vs,rfl,rfl,e1,f1,g1,q1,h2⟩:=Nq aG r1 h1;refine⟨.inl ⟨rfl,vs,cT.of g1⟩,aX hL1 aG h2 λy H2 U2 d2 s2 x2 hL2 aM r2 h3=>?_⟩;obtain⟨dd,_,rd,h4⟩:=Ni r2 h3;obtain⟨n',ad',ys,us,en,ea,e2,f2,g2,q2,h5⟩:=Nq aM (r1.mono x2 aG.lz) h4;cases en;cases ea;by_cases hz:ys.length<sizeLine
 ·have h5:Run X.K cA (M.bd (putL n (ys++[dd])) λ_=>M.ret (Xv.d .non)) U2 H2 s2 (λd _ U' H'=>∀v,aU X.K cA U' H' d v->Q v H') (eX X.K cA EX Z):=by
   have h6:Run X.K cA (if ys.length<sizeLine then M.bd (putL n (ys++[dd])) λ_=>M.ret (Xv.d .non) else M.no) U2 H2 s2 (λd _ U' H'=>∀v,aU X.K cA U' H' d v->Q v H') (eX X.K cA EX Z):=h5;rw[if_pos hz] at h6;exact h6
  refine⟨ad,us,y,rfl,rfl,g2,by rw[<-q2.len];exact hz,?_⟩;exact h5 U2 _ (Ext.write f2 ⟨_,g2⟩) (aM.write e2 f2 (q2.app (.cons rd .nil))) _ (.d .non)
 ·have h6:Run X.K cA (if ys.length<sizeLine then M.bd (putL n (ys++[dd])) λ_=>M.ret (Xv.d .non) else M.no) U2 H2 s2 (λd _ U' H'=>∀v,aU X.K cA U' H' d v->Q v H') (eX X.K cA EX Z):=h5;rw[if_neg hz] at h6;exact h6.elim
theorem zd2{α:Type}{xs:List α}{d:α}(h:xs.getLast?=some d):xs[xs.length-1]?=some d:=by
 rw[List.getLast?_eq_getElem?] at h;exact h
theorem aB.dropLast{K:W.Frag}{ds:List D}{vs:List V}(r:aB K cA U H ds vs):aB K cA U H ds.dropLast vs.dropLast:=by
 rw[List.dropLast_eq_take,List.dropLast_eq_take,r.len];exact r.take _
theorem zkB(ho:SE X cA aq aj F EX o O)(cQ:attributeBase o "pop" X.env (eval o X.env)=eval o X.env:=by rfl)(cR:(apos.endLine==cpos.line)=true:=by rfl) :
  SE X cA aq aj F EX (.Call (.Attribute o "pop" apos) [] [] cpos) (.pop O):=PE.weak (zmc Pb PySem.F.slot_list_pop PySem.F.type_list_pop zlt ho cQ cR) λZ H Q hh=>un hh λU J s hL hS h=>by
 refine aX hL hS h λx H1 U1 d1 s1 x1 hL1 aG r1 h1=>?_;obtain⟨n,ad,xs,vs,rfl,rfl,e1,f1,g1,q1,h2⟩:=Nq aG r1 h1;refine⟨.inl ⟨rfl,vs,cT.of g1⟩,?_⟩;cases eg:xs.getLast? with
 |none=>simp only[eg] at h2;exact h2.elim
 |some dd=>
  simp only[eg] at h2;obtain⟨w,hw,jY⟩:=q1.get (zd2 eg);rw[q1.len] at hw;refine⟨ad,vs,w,rfl,rfl,g1,hw,?_⟩;have x2:Ext U1 H1 U1 (upd H1 ad (.lst vs.dropLast)):=Ext.write f1 ⟨_,g1⟩;exact h2 U1 _ x2 (aG.write e1 f1 q1.dropLast) _ (.d (jY.mono x2 aG.lz))
noncomputable def lG(K:W.Frag)(cA:Cl)(m:List Xv->M Xv):Sp:=λvs H Q E=>∃U xs s,aR K cA U H xs vs/\aD K cA U H s/\Run K cA (m xs) U H s (λd _ U' H'=>∀v,aU K cA U' H' d v->Q v H') (λc fs _ U' H'=>∀dx,kJ K cA U' H' c fs dx->E (.ref (cA.a c)) dx H')
theorem zjc{K:W.Frag}{U1 U2:Ph}{c:Nat}{fs:List D}{dx:Option Addr}(e:U1.z=U2.z)(h:kJ K cA U2 H c fs dx):kJ K cA U1 H c fs dx:=h.imp id λ⟨d,vs,a,b,c,l,r⟩=>⟨d,vs,a,by rw[e];exact b,c,l,r.kO λ_ z=>by rw[<-e];exact z⟩
theorem zjd{cm:Bool}{k f:Nat}{fa:Addr}{fd:FuncData}{ps:List Str}(Fo:cF X.prog X.w X.K X.mg X.base (fj X.prog X.w) cm k fa fd ps (lG X.K cA (F f)))(je:cm=true->X.aj=true)(hr:bx k X.A)(hg:Gl X x)(hm:X.mg x=some (.ref fa))(hk:PySem.W.keepIn X.K (.ref fa)=true)(hb:Binds X.K fd ps [])(R:Raises X EX)
  (ha:SA X cA aq aj F EX (e::es) Xs) (su:(x==("__debug__" : Str))=false:=by decide) (he:starEach (e::es) X.env=(false,eval e X.env)::starEach es X.env:=by rfl) (cU:(backTo pos (starEach es X.env)).any (·.1)=false:=by rfl) :
  SE X cA aq aj F EX (.Call (.Name x pp) (e::es) [] pos) (.call f Xs):=PE.weak (zg8 Fo je hr hg hm hk hb R ha su he cU) λZ H Q hh=>un hh λU J s hL hS h=>
 oU hL hS h λvs H1 U1 ds s1 x1 hL1 aG r1 h1=>by
  obtain⟨U0,s0,a1,a2,a3⟩:=YX (EE:=λc fs U' H'=>∀dx,kJ X.K cA U' H' c fs dx->EX Z (.ref (cA.a c)) dx H') aG r1 (λc fs U1 U2 H' ez z dx q=>z dx (zjc ez q)) h1;exact⟨U0,_,s0,a1,a2,a3⟩
end
section
variable {K:W.Frag}{cA:Cl}{U U':Ph}{H H':Hp}{s:S}
def cO(U:Ph)(H H':Hp):Prop:=∀a o,H a=some o->¬U.z a->H' a=some o
mutual
theorem Rep.out(x:cO U H H'):∀{d:D} {v:V},Rep K cA U H d v->Rep K cA U H' d v
 |_,_,.non=>.non
 |_,_,.bl b=>.bl b
 |_,_,.int i=>.int i
 |_,_,.str z=>.str z
 |_,_,.tup h r=>.tup (h.imp (λ⟨p,n⟩=>⟨p.imp (λq=>x _ _ q n) λ⟨o,q⟩=>⟨o,x _ _ q n⟩,n⟩) id) (aB.out x r)
 |_,_,.fl h r=>.fl (h.imp (λ⟨p,n⟩=>⟨p.imp (λq=>x _ _ q n) λ⟨o,q⟩=>⟨o,x _ _ q n⟩,n⟩) id) (aB.out x r)
 |_,_,.fd h n=>.fd (x _ _ h n) n
 |_,_,.exc h r=>.exc ⟨h.1,h.2.imp (λ⟨a,b,q⟩=>⟨a,b,x _ _ q h.1⟩) λ⟨dx,p,n,q,l⟩=>⟨dx,x _ _ p h.1,n,x _ _ q n,l⟩⟩ (aB.out x r)
 |_,_,.any v=>.any v
 |_,_,.ob h r=>.ob ⟨h.1,let ⟨dx,p,l⟩:=h.2;⟨dx,x _ _ p h.1,l⟩⟩ (aB.out x r)
theorem aB.out(x:cO U H H'):∀{ds:List D} {vs:List V},aB K cA U H ds vs->aB K cA U H' ds vs
 |_,_,.nil=>.nil
 |_,_,.cons h r=>.cons (Rep.out x h) (aB.out x r)
end
theorem aU.out(x:cO U H H'){d:Xv}{v:V}(h:aU K cA U H d v):aU K cA U H' d v:=by
 cases h with
 |d h=>exact .d (h.out x)
 |l h=>exact .l h
theorem aW.out(x:cO U H H')(h:aW K cA U H Z J):aW K cA U H' Z J:=⟨h.1,λi d e=>let ⟨v,a,b⟩:=h.2 i d e;⟨v,a,b.out x⟩⟩
theorem cO.refl:cO U H H:=λa o e _=>e
structure jL(K:W.Frag)(cA:Cl)(c:Src)(U:Ph)(H:Hp)(aZ:L2.It):Prop where
 stop:∀U' H₁ H' s' i,Ext U H U' H₁->cO U' H₁ H'->aD K cA U' H' s'->c.at i s'=some none->aZ.stop i H'
 go:∀U' H₁ H' s' i x,Ext U H U' H₁->cO U' H₁ H'->aD K cA U' H' s'->c.at i s'=some (some x)->aZ.go i H'
 uD:∀U' H₁ H' s' i x v H2,Ext U H U' H₁->cO U' H₁ H'->aD K cA U' H' s'->c.at i s'=some (some x)->aZ.uD i H' v H2->bG H' H2/\Rep K cA U' H2 x v
theorem LstAt.later(hz:∀a∈U.l,U.z a)(h:LstAt K U H a vs)(x:Ext U H U' H₁)(o:cO U' H₁ H'):LstAt K U' H' a vs:=
 (h.mono x hz).imp (λ⟨p,n⟩=>⟨p.imp (λq=>o _ _ q n) λ⟨w,q⟩=>⟨w,o _ _ q n⟩,n⟩) id
theorem TupAt.later(hz:∀a∈U.l,U.z a)(h:TupAt K U H a vs)(x:Ext U H U' H₁)(o:cO U' H₁ H'):TupAt K U' H' a vs:=
 (h.mono x hz).imp (λ⟨p,n⟩=>⟨p.imp (λq=>o _ _ q n) λ⟨w,q⟩=>⟨w,o _ _ q n⟩,n⟩) id
theorem jL.list(hz:∀a∈U.l,U.z a)(h:LstAt K U H a vs)(r:aB K cA U H xs vs):jL K cA (.fix xs) U H (Ms K a):=by
 refine⟨λU' H₁ H' s' i x o hS e=>⟨vs,(h.later hz x o).sY,?_⟩,λU' H₁ H' s' i d x o hS e=>?_,λU' H₁ H' s' i d v H2 x o hS e y=>?_⟩
 ·have e:xs[i]?=none:=cP e;exact qK.mp ((r.mono x hz).none e)
 ·have e:xs[i]?=some d:=cP e;obtain⟨v,q,_⟩:=r.get e;exact⟨vs,v,(h.later hz x o).sY,q⟩
 ·have e:xs[i]?=some d:=cP e;obtain⟨rfl,y⟩:=y;obtain⟨w,q,jY⟩:=((r.mono x hz).out o).get e;have:=y vs (h.later hz x o).sY;rw[q] at this;cases this;exact⟨bG.refl,jY⟩
theorem jL.tuple(hz:∀a∈U.l,U.z a)(h:TupAt K U H a vs)(r:aB K cA U H xs vs):jL K cA (.fix xs) U H (Qw K a):=by
 refine⟨λU' H₁ H' s' i x o hS e=>⟨vs,(h.later hz x o).jK,?_⟩,λU' H₁ H' s' i d x o hS e=>?_,λU' H₁ H' s' i d v H2 x o hS e y=>?_⟩
 ·have e:xs[i]?=none:=cP e;exact qK.mp ((r.mono x hz).none e)
 ·have e:xs[i]?=some d:=cP e;obtain⟨v,q,_⟩:=r.get e;exact⟨vs,v,(h.later hz x o).jK,q⟩
 ·have e:xs[i]?=some d:=cP e;obtain⟨rfl,y⟩:=y;obtain⟨w,q,jY⟩:=((r.mono x hz).out o).get e;have:=y vs (h.later hz x o).jK;rw[q] at this;cases this;exact⟨bG.refl,jY⟩
theorem Sy(h:(Src.live n).at i s=some o):∃xs,s[n]?=some (.lst xs)/\xs[i]?=o:=by
 unfold Src.at at h;dsimp only at h;cases e:s[n]? with
 |none=>rw[e] at h;cases h
 |some ob=>
  rw[e] at h;cases ob with
  |lst xs=>exact⟨xs,rfl,cP h⟩
  |_=>cases h
theorem jL.live(h:U.l[n]?=some a):jL K cA (.live n) U H (Ms K a):=by
 refine⟨λU' H₁ H' s' i x o hS e=>?_,λU' H₁ H' s' i d x o hS e=>?_,λU' H₁ H' s' i d v H2 x o hS e y=>?_⟩
 ·obtain⟨xs,e1,e2⟩:=Sy e;obtain⟨vs,q1,q2⟩:=hS.obj n _ a e1 (x.get h);exact⟨vs,cT.of q1,qK.mp (q2.none e2)⟩
 ·obtain⟨xs,e1,e2⟩:=Sy e;obtain⟨vs,q1,q2⟩:=hS.obj n _ a e1 (x.get h);obtain⟨v,q3,_⟩:=q2.get e2;exact⟨vs,v,cT.of q1,q3⟩
 ·obtain⟨xs,e1,e2⟩:=Sy e;obtain⟨vs,q1,q2⟩:=hS.obj n _ a e1 (x.get h);obtain⟨w,q3,jY⟩:=q2.get e2;obtain⟨rfl,y⟩:=y;have:=y vs (cT.of q1);rw[q3] at this;cases this;exact⟨bG.refl,jY⟩
theorem SJ:(lZ a b)[i]?=if i<(b-a).toNat then some (.int (a+i)) else none:=by
 unfold lZ;rw[jD,List.getElem?_range']
where
 List.getElem?_range' {n i:Nat}:Option.map (λ(i:Nat)=>D.int (a+i)) (List.range n)[i]?=if i<n then some (.int (a+i)) else none:=by
  by_cases h:i<n
  ·rw[if_pos h,DQ h];rfl
  ·rw[if_neg h,List.getElem?_eq_none (by simp;lia)];rfl
theorem jL.range{a b:Int}:jL K cA (.fix (lZ a b)) U H (Hw a (b-a).toNat):=by
 refine⟨λU' H₁ H' s' i x o hS e=>?_,λU' H₁ H' s' i d x o hS e=>?_,λU' H₁ H' s' i d v H2 x o hS e y=>?_⟩
 ·have e:(lZ a b)[i]?=none:=cP e;rw[SJ] at e;split at e
  ·cases e
  ·exact Lw (by assumption)
 ·have e:(lZ a b)[i]?=some d:=cP e;rw[SJ] at e;split at e
  ·assumption
  ·cases e
 ·have e:(lZ a b)[i]?=some d:=cP e;rw[SJ] at e;split at e
  ·cases e;obtain⟨rfl,rfl⟩:=y;exact⟨bG.refl,.int _⟩
  ·cases e
end
noncomputable def SM(K:W.Frag)(te:TE):TI:=λZ H R=>te Z H λv H1=>∃a,v=.ref a/\(((∃xs,cT K H1 a xs)/\R (Ms K a) H1)\/((∃xs,gP K H1 a xs)/\R (Qw K a) H1))
theorem zkT(he:PE X l te):PI X tg l (SM X.K te):=by
 intro ao s Z H R I h;refine aQ (he ao s Z H _ I h) λv s1 hx=>P_ hx λx H1 I1 r1 a e q=>?_;subst e;cases r1;rcases q with ⟨⟨xs,hq⟩,q⟩|⟨⟨xs,hq⟩,q⟩
 ·obtain⟨its,rv,p,hz⟩:=I1.list hq;refine Lq p.isList ?_;refine⟨s1.heap.objs.size,[s1.heap.objs.size],_,_,H1,rfl,I1.kept (t':=s1.toks) λb o e=>cD _ e,zgQ a _,⟨_,eN _ rfl,rfl,rfl⟩,λb hb=>?_,q⟩;have e:b=s1.heap.objs.size:=by simpa using hb
  subst e;exact I1.uE (cj _) (I1.hok.fresh (cj _))
 ·obtain⟨its,rv,p,hz⟩:=I1.tuple hq;refine wpAny_pyIter_tuple (show s1.heap.IsTuple a its.toArray from p) ?_;refine⟨s1.heap.objs.size,[s1.heap.objs.size],_,_,H1,rfl,I1.kept (t':=s1.toks) λb o e=>cD _ e,zfj a _,⟨_,eN _ rfl,rfl,rfl⟩,λb hb=>?_,q⟩;have e:b=s1.heap.objs.size:=by simpa using hb
  subst e;exact I1.uE (cj _) (I1.hok.fresh (cj _))
section
variable {X:Cx}{cA:Cl}{aq:Nat->Nat->Bool}{aj:Bool}{F:Fn}{EX:XS}{a b tg:Expr}{A B:E}{pos pp:Pos}
noncomputable def tI(K:W.Frag)(cA:Cl)(EX:XS)(m:Vs->M (Src×Nat)):TI:=λZ H R=>∃U J s,aW K cA U H Z J/\aD K cA U H s/\Run K cA (m J) U H s (λcn _ U1 H1=>∀aZ,jL K cA cn.1 U1 H1 aZ->R aZ H1) (eX K cA EX Z)
def SI(X:Cx)(cA:Cl)(aq:Nat->Nat->Bool)(aj:Bool)(F:Fn)(EX:XS)(tg iter:Expr)(w:Wk):Prop:=PI X tg iter (tI X.K cA EX (gK aq aj F w))
theorem PI.weak{iter:Expr}{t t':TI}(h:PI X tg iter t)(f:∀Z H Q,t' Z H Q->t Z H Q):PI X tg iter t':=λao s Z H Q I q=>h ao s Z H Q I (f Z H Q q)
theorem zlv(ha:SE X cA aq aj F EX a A):SI X cA aq aj F EX tg a (.seq A):=PI.weak (zkT ha) λZ H R hh=>un hh λU J s hL hS h=>by
 refine aX hL hS h λv H1 U1 d s1 x1 hL1 aG r1 h1=>?_;cases r1 with
 |@l n ad hl=>
  unfold Run src at h1;dsimp only at h1;cases e:s1[n]? with
  |none=>rw[e] at h1;exact h1.elim
  |some o=>
   rw[e] at h1;cases o with
   |lst xs=>
    obtain⟨vs,q1,q2⟩:=aG.obj n _ _ e hl;exact⟨ad,rfl,.inl ⟨⟨vs,cT.of q1⟩,h1 U1 H1 Ext.refl aG _ (jL.live hl)⟩⟩
   |_=>exact h1.elim
 |d r1=>
  cases r1 with
  |tup q r=>exact⟨_,rfl,.inr ⟨⟨_,q.jK⟩,h1 U1 H1 Ext.refl aG _ (jL.tuple aG.lz q r)⟩⟩
  |fl q r=>exact⟨_,rfl,.inl ⟨⟨_,q.sY⟩,h1 U1 H1 Ext.refl aG _ (jL.list aG.lz q r)⟩⟩
  |_=>exact h1.elim
theorem YZ{i:Int}(h:gA i=true) : -(2^62)<=i/\i<2^62:=by
 unfold gA at h;rw[fK,Aj,Aj] at h;exact⟨by lia,h.2⟩
theorem Y0{K:W.Frag}{U:Ph}{H:Hp}{s:S}{i j:Int}{P:Src×Nat->S->Ph->Hp->Prop}{Ee:Nat->List D->S->Ph->Hp->Prop}(hS:aD K cA U H s)(h:Run K cA (if (gA i&&gA j)=true then M.ret (Src.fix (lZ i j),(lZ i j).length) else M.no) U H s P Ee):(-(2^62)<=i/\i<2^62/\-(2^62)<=j/\j<2^62)/\P (.fix (lZ i j),(lZ i j).length) s U H:=by
 by_cases hk:(gA i&&gA j)=true
 ·rw[if_pos hk] at h;rw[fK] at hk;obtain⟨a,b⟩:=YZ hk.1;obtain⟨c,d⟩:=YZ hk.2;exact⟨⟨a,b,c,d⟩,h.bC hS⟩
 ·rw[if_neg hk] at h;exact h.elim
theorem znf(qz:Gl X "range")(hmg:X.mg "range"=none)(ha:SE X cA aq aj F EX a A)(hb:SE X cA aq aj F EX b B)(h1:starEach [a,b] X.env=(false,eval a X.env)::starEach [b] X.env)(h2:starEach [b] X.env=(false,eval b X.env)::starEach [] X.env) :
  SI X cA aq aj F EX tg (.Call (.Name "range" pp) [a,b] [] pos) (.rg A B):=PI.weak (zgb qz hmg (rY ha (rY hb xq h2) h1) (by rw[h1,h2];rfl) (by rw[h2];rfl)) λZ H R hh=>un hh λU J s hL hS h=>by
 refine aX hL hS h λx H1 U1 d1 s1 x1 hL1 aG r1 h1=>aX hL1 aG h1 λy H2 U2 d2 s2 x2 hL2 aM r2 h2=>?_;obtain⟨i,_,e1,h3⟩:=Cu (r1.mono x2 aG.lz) h2;obtain⟨j,_,e2,h4⟩:=Cu r2 h3;obtain⟨hz,q⟩:=Y0 aM h4;subst e1 e2;exact⟨i,j,rfl,hz,q _ jL.range⟩
theorem zk0(qz:Gl X "range")(hmg:X.mg "range"=none)(hb:SE X cA aq aj F EX b B)(h2:starEach [b] X.env=(false,eval b X.env)::starEach [] X.env) :
  SI X cA aq aj F EX tg (.Call (.Name "range" pp) [b] [] pos) (.rg (.c (.int 0)) B):=PI.weak (zfB qz hmg (rY hb xq h2) (by rw[h2];rfl)) λZ H R hh=>un hh λU J s hL hS h=>by
 have h:Run X.K cA (M.bd (ev aq aj F B J) λy=>M.bd (int (.d (.int 0))) λi=>M.bd (int y) λj=>if (gA i&&gA j)=true then M.ret (Src.fix (lZ i j),(lZ i j).length) else M.no) U H s _ _:=h;refine aX hL hS h λy H2 U2 d2 s2 x2 hL2 aM r2 h2=>?_;obtain⟨j,_,e2,h4⟩:=Cu r2 (show Run X.K cA (M.bd (int d2) λj=>if (gA 0&&gA j)=true then M.ret (Src.fix (lZ 0 j),(lZ 0 j).length) else M.no) U2 H2 s2 _ _ from h2);obtain⟨hz,q⟩:=Y0 aM h4;subst e2;refine⟨j,rfl,hz.2.2.1,hz.2.2.2,q _ ?_⟩;have:=jL.range (K:=X.K) (cA:=cA) (U:=U2) (H:=H2) (a:=0) (b:=j);rw[Int.sub_zero] at this;exact this
end
section
variable {K:W.Frag}{cA:Cl}{U U' U0:Ph}{H H' H0:Hp}{s:S}
theorem Run.bd0(x:Ext U0 H0 U H)(h:Run K cA (M.bd m k) U0 H0 s P Ee) :
  Run K cA m U H s (λa s1 U1 H1=>Ext U H U1 H1/\aD K cA U1 H1 s1/\Run K cA (k a) U0 H0 s1 P Ee) Ee:=by
 unfold Run M.bd at *;cases e:m s with
 |none=>rw[e] at h;exact h
 |some r=>
  obtain⟨r,s1⟩:=r;rw[e] at h;cases r with
  |er c f=>exact λU1 H1 x1 r1=>h U1 H1 (x.trans x1) r1
  |ok a=>exact λU1 H1 x1 r1=>⟨x1,r1,h⟩
theorem JM{α β:Type}{m:M α}{k:α->M β}{P:β->S->Ph->Hp->Prop}{Ee Ee':Nat->List D->S->Ph->Hp->Prop}(x:Ext U0 H0 U H)(h:Run K cA (M.bd (M.qt m) k) U0 H0 s P Ee) :
  Run K cA m U H s (λa s1 U1 H1=>Ext U H U1 H1/\aD K cA U1 H1 s1/\Run K cA (k a) U0 H0 s1 P Ee) Ee':=by
 have h2:=h.bd0 x;unfold Run at h2 ⊢;unfold M.qt at h2;cases e:m s with
 |none=>rw[e] at h2;exact h2
 |some r=>
  obtain⟨r,s1⟩:=r;rw[e] at h2;cases r with
  |ok a=>exact h2
  |er c f=>exact h2.elim
theorem SN{α β:Type}{m m':M α}{k:α->M β}{P:β->S->Ph->Hp->Prop}{Ee:Nat->List D->S->Ph->Hp->Prop}(e:m s=m' s)(h:Run K cA (M.bd m k) U H s P Ee):Run K cA (M.bd m' k) U H s P Ee:=by
 unfold Run M.bd at *;rw[<-e];exact h
end
section
variable {X:Cx}{cA:Cl}{aq:Nat->Nat->Bool}{aj:Bool}{F:Fn}{EX:XS}{elt iter tg:Expr}{A B:E}{pos p:Pos}{ifs:List Expr}{scope:Scope}{N:List Str}{cond:Eo}{fr aL:List Nat}{many:Nat}{fz:Bool}{w:Wk}
def Cy(X:Cx)(cA:Cl)(aq:Nat->Nat->Bool)(aj:Bool)(F:Fn)(EX:XS)(ifs:List Expr)(m:Eo):Prop:=EY X ifs (qx X.K cA EX (mj aq aj F m))
theorem zlw:Cy X cA aq aj F EX [] .no:=λao s Z H Q I ⟨U,J,st,hL,hS,h⟩=>zjY ao s Z H Q I (h.bC hS)
theorem zjN(h:ST X cA aq aj F EX c C):Cy X cA aq aj F EX [c] (.yes C):=zj7 h
structure dW(K:W.Frag)(cA:Cl)(g:TG)(aL:List Nat):Prop where
 run:∀(U:Ph) (H:Hp) (s:S) (Z:L2.St) (J J':Vs) (d:D) (v:V) (Q:L2.St->Hp->Prop),aW K cA U H Z J->aD K cA U H s->Rep K cA U H d v->fC aL d J=some J'->
  (∀Z',aW K cA U H Z' J'->Z'.length=Z.length->(∀i,i∉aL->Z'[i]?=Z[i]?)->Q Z' H)->g v Z H Q
theorem jg{K:W.Frag}(i:Nat):dW K cA (dO i) [i] where
 run:=λU H s Z J J' d v Q hL hS r e k=>by
  cases e;exact k _ (hL.set (.d r)) (pO ..) λj hj=>qL (by simpa using λz=>hj (by simp[z]))
theorem JV{K:W.Frag}(i j:Nat):dW K cA (uy K 2 (iH (dO i) (iH (dO j) ux))) [i,j] where
 run:=λU H s Z J J' d v Q hL hS r e k=>by
  have e:(kj d).bind (λds=>gC [i,j] (ds.map Xv.d) J)=some J':=e;obtain⟨ds,e1,e2⟩:=yO.mp e;cases r with
  |@tup ad xs vs h1 h2=>
   have e1:xs=ds:=cP e1;subst e1;cases h2 with
   |nil=>cases e2
   |cons r1 t1=>
    cases t1 with
    |nil=>cases e2
    |cons r2 t2=>
     cases t2 with
     |nil=>
      have e2:=cP e2;subst e2;refine⟨ad,_,rfl,h1.jK,rfl,_,_,rfl,_,_,rfl,rfl,k _ ((hL.set (.d r1)).set (.d r2)) (by rw[pO,pO]) λm hm=>?_⟩;rw[qL (λz=>hm (by simp[z])),qL (λz=>hm (by simp[z]))]
     |cons r3 t3=>cases e2
  |_=>cases e1
noncomputable def bB(many:Nat)(fr:List Nat)(Z:L2.St):L2.St:=List.replicate many none++fr.map λj=>(Z[j]?).join
theorem Y4{U:Ph}{H:Hp}{Z:L2.St}{J:Vs}(hL:aW X.K cA U H Z J){Z':L2.St}(hl:Z'.length=many+fr.length)(hf:∀(i:Nat) j v,fr[i]?=some j->Z[j]?=some (some v)->Z'[many+i]?=some (some v)):aW X.K cA U H Z' (blk many fr J):=by
 refine⟨by unfold blk;simp[hl],λi d e=>?_⟩;unfold blk at e;by_cases hi:i<many
 ·rw[pF (by simpa using hi),Af,if_pos hi] at e;cases e
 ·rw[pK (by simpa using Lw hi),Gp,jD] at e;cases z:fr[i-many]? with
  |none=>rw[z] at e;cases e
  |some j=>
   rw[z] at e;have e3:J[j]?.join=some d:=by simpa using e
   obtain⟨v,q1,q2⟩:=hL.2 j d (Nj e3);refine⟨v,?_,q2⟩;have:=hf (i-many) j v z q1;rw[show many+(i-many)=i by omega] at this;exact this
structure fD(U:Ph)(H:Hp)(Dd:Addr)(o:HO):Prop where
 at_:H Dd=some o
 nl:Dd∉U.l
 z:U.z Dd
 t:NT o:=by exact trivial
abbrev Keep(U:Ph)(H:Hp)(Dd:Addr)(vs:List V):Prop:=fD U H Dd (.lst vs)
theorem fD.mono{U U':Ph}{H H':Hp}{Dd:Addr}{o:HO}(x:Ext U H U' H')(k:fD U H Dd o):fD U' H' Dd o:=by
 refine⟨x.frame _ _ k.at_ k.t k.nl,λz=>?_,x.qw _ k.z,k.t⟩;obtain⟨r,er,hr⟩:=x.more;rw[er] at z;rcases nG.mp z with z|z
 ·exact k.nl z
 ·have:=hr _ z;rw[k.at_] at this;cases this
theorem fD.ext{U:Ph}{H:Hp}{Dd:Addr}{o u:HO}(k:fD U H Dd o)(tu:NT u:=by exact trivial):(∀a o,H a=some o->¬U.z a->(upd H Dd u) a=some o)/\fD U (upd H Dd u) Dd u:=
 ⟨λa o e n=>by rw[bT (λz=>n (by rw[z];exact k.z))];exact e,iD,k.nl,k.z,tu⟩
end
section
variable {K:W.Frag}{cA:Cl}{U U':Ph}{H H':Hp}
theorem aD.keep{s:S}{Dd:Addr}{o u:HO}(h:aD K cA U H s)(k:fD U H Dd o)(tu:NT u:=by exact trivial):aD K cA U (upd H Dd u) s:=by
 have x:cO U H (upd H Dd u):=(k.ext tu).1;refine⟨h.len,λn o a e1 e2=>?_,h.uniq,h.lz,λa z=>?_⟩
 ·have na:a≠Dd:=λy=>k.nl (by rw[<-y];exact gH e2);exact(h.obj n o a e1 e2).map (λ_ _ q=>by rw[bT na];exact q) λ_ _ r=>r.out x
 ·by_cases e:a=Dd
  ·subst e;exact⟨_,iD⟩
  ·obtain⟨o,q⟩:=h.zt a z;exact⟨o,by rw[bT e];exact q⟩
theorem Ext.keep{U1:Ph}{H1:Hp}{Dd:Addr}{vs:List V}{u:HO}(x:Ext U1 H1 U H)(hD:H1 Dd=none):Ext U1 H1 U (upd H Dd u):=by
 refine⟨x.more,x.qw,x.kE,λa o h t n=>?_,λa o h=>?_⟩
 ·rw[bT (λz=>by rw[z,hD] at h;cases h)];exact x.frame a o h t n
 ·rw[bT (λz=>by rw[z,hD] at h;cases h)];exact x.stay a o h
theorem Y5{U1:Ph}{H1:Hp}{s':S}{fz:Bool}{acc:List D}{vs:List V}{Dd:Addr}{Q:VK}{Ee:Nat->List D->S->Ph->Hp->Prop}(h:Run K cA (newL fz acc) U1 H1 s' (λd _ U' H'=>∀v,aU K cA U' H' d v->Q v H') Ee)
  (x2:Ext U1 H1 U' H') (hD:H1 Dd=none) (nz:¬U1.z Dd) (aM:aD K cA U' H' s') (k:Keep U' H' Dd vs) (pI:aB K cA U' H' acc vs):Q (.ref Dd) H':=by
 cases fz with
 |true=>
  have zq:∀a,(λa=>U'.z a/\a≠Dd) a->U'.z a:=λa z=>z.1;refine h ⟨λa=>U'.z a/\a≠Dd,U'.l⟩ H' ⟨x2.more,λa z=>⟨x2.qw a z,λe=>nz (by rw[<-e];exact z)⟩,λa z=>x2.kE a z.1,x2.frame,x2.stay⟩ ?_ _ (.d (.fl (.inl ⟨.inl k.at_,λz=>z.2 rfl⟩) (aB.kO (U:=U') zq pI)));refine⟨aM.len,λn o a e1 e2=>lA.kO (U:=U') zq (aM.obj n o a e1 e2),aM.uniq,λa ha=>⟨aM.lz a ha,λe=>k.nl (by rw[<-e];exact ha)⟩,λa z=>aM.zt a z.1⟩
 |false=>
  obtain⟨r,er,hr⟩:=x2.more;refine h ⟨U'.z,U'.l++[Dd]⟩ H' ⟨⟨r++[Dd],by show U'.l++[Dd]=_;rw[er,Lr],λb hb=>?_⟩,x2.qw,x2.kE,x2.frame,x2.stay⟩ ?_ _ (.l (by show (U'.l++[Dd])[s'.length]?=_;rw[<-aM.len];simp))
  ·rcases nG.mp hb with z|z
   ·exact hr b z
   ·simp at z;subst z;exact hD
  ·refine⟨by show (U'.l++[Dd]).length=_;rw[pG,pG,aM.len];rfl,λm o' a' e1 e2=>?_,?_,λb hb=>?_,aM.zt⟩
   ·have e2:(U'.l++[Dd])[m]?=some a':=e2;by_cases hm:m<s'.length
    ·rw[pF hm] at e1;rw[pF (by rw[aM.len];exact hm)] at e2;exact lA.zl (aM.obj m o' a' e1 e2) _
    ·have v9:m=s'.length:=by
      have z:=(fG.mp e2).1;rw[pG,aM.len] at z;simp at z;omega
     subst v9;rw[pK (cj _)] at e1;rw[pK (by rw[aM.len];exact cj _)] at e2;simp at e1;simp[aM.len] at e2;subst e1 e2;exact⟨vs,k.at_,aB.zl pI _⟩
   ·show (U'.l++[Dd]).Nodup;rw[Ls];refine⟨aM.uniq,by simp,λb hb c hc e=>?_⟩;simp at hc;subst hc e;exact k.nl hb
   ·have hb:b∈U'.l++[Dd]:=hb;rcases nG.mp hb with z|z
    ·exact aM.lz b z
    ·simp at z;subst z;exact k.z
noncomputable def Ph.mark(U:Ph)(p:Addr):Ph:=⟨λa=>U.z a\/a=p,U.l⟩
theorem Y6{s:S}{p:Addr}(hS:aD K cA U H s)(hp:H p=none):Ext U H (U.mark p) (upd H p (.lst []))/\aD K cA (U.mark p) (upd H p (.lst [])) s/\Keep (U.mark p) (upd H p (.lst [])) p []:=by
 have g:=bG.new (o:=.lst []) hp;have nz:=hS.nz hp;refine⟨⟨⟨[],by simp[Ph.mark],by simp⟩,λa z=>.inl z,λa z=>z.imp id λe=>by rw[e];exact hp,λa o h _ _=>g a o h,λa o h=>⟨o,g a o h⟩⟩,⟨hS.len,λn o a e1 e2=>?_,hS.uniq,λa ha=>.inl (hS.lz a ha),λa z=>?_⟩,iD,λz=>nz (hS.lz p z),.inr rfl,trivial⟩
 ·have x:Ext U H (U.mark p) (upd H p (.lst [])):=⟨⟨[],by simp[Ph.mark],by simp⟩,λa z=>.inl z,λa z=>z.imp id λe=>by rw[e];exact hp,λa o h _ _=>g a o h,λa o h=>⟨o,g a o h⟩⟩;exact(hS.obj n o a e1 e2).map (λu _=>g _ u) λ_ _ r=>r.mono x hS.lz
 ·rcases z with z|z
  ·obtain⟨o,e⟩:=hS.zt a z;exact⟨o,g _ _ e⟩
  ·subst z;exact⟨_,iD⟩
end
section
variable {X:Cx}{cA:Cl}{aq:Nat->Nat->Bool}{aj:Bool}{F:Fn}{EX:XS}{elt iter tg:Expr}{A B:E}{pos p:Pos}{ifs:List Expr}{scope:Scope}{N:List Str}{cond:Eo}{fr aL:List Nat}{many:Nat}{fz:Bool}{w:Wk}
noncomputable abbrev bV(aq:Nat->Nat->Bool)(aj:Bool)(F:Fn)(B:E)(cond:Eo)(aL:List Nat)(Jb:Vs):D->List D->M (List D):=λd acc=>M.bd (M.opt (fC aL d Jb)) λJ'=>M.bd (M.qt (mj aq aj F cond J')) λok=>
    if ok=true then M.bd (M.qt (ev aq aj F B J')) λy=>M.bd (dat y) λe=>if acc.length<sizeLine then M.ret (acc++[e]) else M.no else M.ret acc
theorem Fy{H:Hp}{a:Addr}{o:HO}(h:H a=some o):upd H a o=H:=funext λb=>by
 by_cases z:b=a
 ·subst z;rw[iD,h]
 ·rw[bT z]
theorem zg0{K:W.Frag}{g:TG}{U1 U':Ph}{H1 H2:Hp}{s':S}{Z':L2.St}{Jb:Vs}{Dd:Addr}{acc:List D}{vs:List V}{xi:D}{v:V}{β:Type}{kk:List D->M β}{P:β->S->Ph->Hp->Prop}{Ee:Nat->List D->S->Ph->Hp->Prop}(hT:dW K cA g aL)(cV:∀i∈aL,i<many)
  (hD:H1 Dd=none) (x2:Ext U1 H1 U' H2) (hL2:aW K cA U' H2 Z' Jb) (aM:aD K cA U' H2 s') (kp:Keep U' H2 Dd vs) (pI:aB K cA U' H2 acc vs) (rx:Rep K cA U' H2 xi v)
  (h:Run K cA (M.bd (bV aq aj F B cond aL Jb xi acc) kk) U1 H1 s' P Ee) {Nn:L2.St->Hp->Prop}
  (hN:∀Z3 H3 U3 s3 m9 xZ,Z3.length=Z'.length->(∀i,many<=i->Z3[i]?=Z'[i]?)->Ext U1 H1 U3 H3->Ext U' H2 U3 (upd H3 Dd (.lst vs))->aD K cA U3 H3 s3->Keep U3 H3 Dd xZ->aB K cA U3 H3 m9 xZ->Run K cA (kk m9) U1 H1 s3 P Ee->Nn Z3 H3) :
  g v Z' H2 λZ3 H3=>qx K cA (λ_ _ _ _=>False) (mj aq aj F cond) Z3 H3 λok H4=>
   if ok=true then tE K cA (λ_ _ _ _=>False) (ev aq aj F B) Z3 H4 λy H5=>∃ys,H5 Dd=some (.lst ys)/\ys.length<sizeLine/\Nn Z3 (upd H5 Dd (.lst (ys++[y]))) else Nn Z3 H4:=by
 unfold bV at h;rw[gQ] at h;obtain⟨J',e1,h1⟩:=Run.m8 h;refine hT.run U' H2 s' Z' Jb J' xi v _ hL2 aM rx e1 λZ3 nQ Cz Fz=>?_;rw[gQ] at h1;have kf:∀i,many<=i->Z3[i]?=Z'[i]?:=λi hi=>Fz i λz=>absurd (cV i z) (Em.mpr hi);refine⟨U',J',s',nQ,aM,(JM x2 h1).imp λok s4 U4 H4 ⟨x4,rm,h6⟩=>?_⟩;cases ok with
 |false=>
  refine iF (hN Z3 H4 U4 s4 acc vs Cz kf (x2.trans x4) (by rw[Fy (kp.mono x4).at_];exact x4) rm (kp.mono x4) (pI.mono x4 aM.lz) ?_);rw[if_neg RB] at h6;exact h6
 |true=>
  rw[if_pos rfl,gQ] at h6;refine iT ⟨U4,J',s4,nQ.mono x4 aM.lz,rm,(JM (x2.trans x4) h6).imp λy s5 U5 H5 ⟨x5,JZ,h7⟩ u ru=>?_⟩;rw[gQ] at h7;have k5:=(kp.mono x4).mono x5;have r5:=(pI.mono x4 aM.lz).mono x5 rm.lz;have SQ:=(x2.trans x4).trans x5;obtain⟨dd,ey,rd,h8⟩ : ∃d,y=.d d/\Rep K cA U5 H5 d u/\Run K cA (M.bd (if acc.length<sizeLine then M.ret (acc++[d]) else M.no) kk) U1 H1 s5 P Ee:=by
   cases ru with
   |l _=>exact h7.elim
   |d r=>exact⟨_,rfl,r,h7⟩
  by_cases hz:acc.length<sizeLine
  ·rw[if_pos hz] at h8;refine⟨vs,k5.at_,by rw[<-r5.len];exact hz,?_⟩;have ox:cO U5 H5 (upd H5 Dd (.lst (vs++[u]))):=k5.ext.1;exact hN Z3 _ U5 s5 (acc++[dd]) (vs++[u]) Cz kf (Ext.keep (vs:=vs) SQ hD) (by rw[Ww,Fy k5.at_];exact x4.trans x5) (JZ.keep k5) k5.ext.2 ((r5.app (.cons rd .nil)).out ox) h8
  ·rw[if_neg hz] at h8;exact h8.elim
theorem Y7{g:TG}{iter':Expr}(hT:dW X.K cA g aL)(cV:∀i∈aL,i<many){Z:L2.St}{H:Hp}{Q:VK}(hh:tE X.K cA EX (ev aq aj F (.comp fz B aL w fr many cond)) Z H Q) :
  uO (tI X.K cA EX (gK aq aj F w)) (bB many fr) g (qx X.K cA (λ_ _ _ _=>False) (mj aq aj F cond)) (tE X.K cA (λ_ _ _ _=>False) (ev aq aj F B)) Z H Q:=un hh λU J s hL hS h=>by
 by_cases dF:aj=true
 ·have h:Run X.K cA (if aj=true then M.bd (gK aq aj F w J) λcn=>M.bd (walk cn.1 (bV aq aj F B cond aL (blk many fr J)) (cn.2+1) 0 []) λxs=>newL fz xs else M.no) U H s (λd _ U' H'=>∀v,aU X.K cA U' H' d v->Q v H') (eX X.K cA EX Z):=h;rw[if_pos dF] at h;refine⟨U,J,s,hL,hS,h.bd.imp λcn s1 U1 H1 ⟨x1,aG,h1⟩ aZ hJ=>?_⟩;have hL1:=hL.mono x1 hS.lz;obtain⟨c,n⟩:=cn;dsimp only at h1 hJ;intro Dd hD;obtain⟨x0,SX,k0⟩:=Y6 aG hD;have CG:∀{Z':L2.St},(Z'.length=many+fr.length/\∀i,many<=i->Z'[i]?=(bB many fr Z)[i]?)->∀{U' H'},Ext U1 H1 U' H'->aW X.K cA U' H' Z' (blk many fr J):=λ{Z'} hZ {U' H'} x=>Y4 (hL1.mono x aG.lz) hZ.1 λi j v e1 e2=>by
   rw[hZ.2 _ (by omega)];unfold bB;rw[pK Zaa,Gp,jD,show many+i-many=i by omega,e1];simp[e2]
  refine⟨λi m Z' H'=>m=n+1-i/\(Z'.length=many+fr.length/\∀i,many<=i->Z'[i]?=(bB many fr Z)[i]?)/\∃U' s' acc vs,Ext U1 H1 U' H'/\aD X.K cA U' H' s'/\Keep U' H' Dd vs/\aB X.K cA U' H' acc vs /\
   Run X.K cA (M.bd (walk c (bV aq aj F B cond aL (blk many fr J)) (n+1-i) i acc) λxs=>newL fz xs) U1 H1 s' (λd _ U' H'=>∀v,aU X.K cA U' H' d v->Q v H') (eX X.K cA EX Z),⟨n+1,rfl,⟨by simp[bB],λi _=>rfl⟩,U1.mark Dd,s1,[],[],x0,SX,k0,.nil,h1⟩,?_⟩
  rintro i m Z' H' ⟨rfl,hZ,U',s',acc,vs,x2,aM,kp,pI,h3⟩;have hL2:=CG hZ x2;cases ek:n+1-i with
  |zero=>rw[ek] at h3;exact h3.elim
  |succ k=>
   rw[ek] at h3;cases ei:c.at i s' with
   |none=>
    exfalso
    unfold Run M.bd walk at h3;simp only[ei] at h3
   |some oi=>
    cases oi with
    |none=>
     refine .inl ⟨hJ.stop U' H' H' s' i x2 cO.refl aM ei,?_⟩;have h4:Run X.K cA (newL fz acc) U1 H1 s' (λd _ U' H'=>∀v,aU X.K cA U' H' d v->Q v H') (eX X.K cA EX Z):=by
      unfold Run M.bd walk at h3;simp only[ei] at h3;exact h3
     exact Y5 h4 x2 hD (aG.nz hD) aM kp pI
    |some xi=>
     refine .inr ⟨hJ.go U' H' H' s' i xi x2 cO.refl aM ei,λZ2 H2=>(Z2.length=many+fr.length/\∀i,many<=i->Z2[i]?=(bB many fr Z)[i]?)/\∃U' s' acc vs,Ext U1 H1 U' H2/\aD X.K cA U' H2 s'/\Keep U' H2 Dd vs/\aB X.K cA U' H2 acc vs /\
      Run X.K cA (M.bd (walk c (bV aq aj F B cond aL (blk many fr J)) k (i+1) acc) λxs=>newL fz xs) U1 H1 s' (λd _ U' H'=>∀v,aU X.K cA U' H' d v->Q v H') (eX X.K cA EX Z),λZ2 H2 hn=>⟨k,by omega,by omega,hn.1,?_⟩,λv H2 hy=>?_⟩
     ·have:n+1-(i+1)=k:=by omega
      rw[this];exact hn.2
     ·obtain⟨gr,rx⟩:=hJ.uD U' H' H' s' i xi v H2 x2 cO.refl aM ei hy;have h4:Run X.K cA (M.bd (bV aq aj F B cond aL (blk many fr J) xi acc) λacc'=>M.bd (walk c (bV aq aj F B cond aL (blk many fr J)) k (i+1) acc') λxs=>newL fz xs) U1 H1 s' (λd _ U' H'=>∀v,aU X.K cA U' H' d v->Q v H') (eX X.K cA EX Z):=by
       have h5:=SN (m':=M.bd (bV aq aj F B cond aL (blk many fr J) xi acc) λacc'=>walk c (bV aq aj F B cond aL (blk many fr J)) k (i+1) acc') (by rw[walk];simp only[ei]) h3;rw[gQ] at h5;exact h5
      exact zg0 hT cV hD (x2.trans gr.ext) (hL2.mono gr.ext aM.lz) (aM.grow gr) (kp.mono gr.ext) (pI.mono gr.ext aM.lz) rx h4 λZ3 H3 U3 s3 m9 xZ l3 f3 x3 _ fV k3 r3 h6=>⟨⟨l3.trans hZ.1,λi hi=>(f3 i hi).trans (hZ.2 i hi)⟩,U3,s3,m9,xZ,x3,fV,k3,r3,h6⟩
 ·have h:Run X.K cA (if aj=true then M.bd (gK aq aj F w J) λcn=>M.bd (walk cn.1 (bV aq aj F B cond aL (blk many fr J)) (cn.2+1) 0 []) λxs=>newL fz xs else M.no) U H s (λd _ U' H'=>∀v,aU X.K cA U' H' d v->Q v H') (eX X.K cA EX Z):=h;rw[if_neg dF] at h;exact h.elim
theorem Nr{XN:List Str}(pH:∀(i:Nat) (y:Str) (j:Nat),N[many+i]?=some y->fr[i]?=some j->scope.names.lookup y=some .free/\XN[j]?=some y)(Z:L2.St)(i:Nat)(x:Str)(v:V)(e1:N[i]?=some x)(e2:(bB many fr Z)[i]?=some (some v)):scope.names.lookup x=some .free/\∃j:Nat,XN[j]?=some x/\Z[j]?=some (some v):=by
 unfold bB at e2;by_cases hi:i<many
 ·rw[pF (by simpa using hi),Af,if_pos hi] at e2;cases e2
 ·rw[pK (by simpa using Lw hi),Gp,jD] at e2;cases z:fr[i-many]? with
  |none=>rw[z] at e2;cases e2
  |some j=>
   rw[z] at e2;have e3:(Z[j]?).join=some v:=by simpa using e2
   obtain⟨a1,a2⟩:=pH (i-many) x j (by rw[show many+(i-many)=i by omega];exact e1) z;exact⟨a1,j,a2,Nj e3⟩
theorem Y8{g:TG}(hc:X.aj=true)(B':b_ X.env.scope scope)(hi:SI X cA aq aj F EX tg iter w)(hN:N.length=many+fr.length)
  (pH:∀(i:Nat) (y:Str) (j:Nat),N[many+i]?=some y->fr[i]?=some j->scope.names.lookup y=some .free/\X.N[j]?=some y)
  (hg:∀cl C s3 H3 fp ao,PG (X.blk scope cl N C s3 H3 fp ao) tg g) (hT:dW X.K cA g aL) (cV:∀i∈aL,i<many)
  (ht:∀cl C s3 H3 fp ao,Cy (X.blk scope cl N C s3 H3 fp ao) cA aq aj F (λ_ _ _ _=>False) ifs cond) (he:∀cl C s3 H3 fp ao,SE (X.blk scope cl N C s3 H3 fp ao) cA aq aj F (λ_ _ _ _=>False) elt B)
  (hs:∀x,foldedSetIterable iter X.env x=pure x:=by intro _;rfl):SE X cA aq aj F EX (.ListComp elt [⟨tg,iter,ifs,0⟩] scope pos) (.comp fz B aL w fr many cond):=
 PE.weak (zi8 hc B' hi (⟨hg,ht,he⟩ : Parts X elt tg ifs scope N g (qx X.K cA (λ_ _ _ _=>False) (mj aq aj F cond)) (tE X.K cA (λ_ _ _ _=>False) (ev aq aj F B))) (ZY:=bB many fr) (λZ=>by simp[bB,hN]) (λZ i x v e1 e2=>Nr pH Z i x v e1 e2) hs) λZ H Q hh=>Y7 (iter':=iter) hT cV hh
end
section
variable (K:W.Frag)(cA:Cl)
def aV(m:MS)(U:Ph)(H:Hp)(s:S)(D:Ends)(EX:XS):Prop:=match m s with
 |some (.nx J,s')=>∀U' H' Z',Ext U H U' H'->aD K cA U' H' s'->aW K cA U' H' Z' J->D.nx Z' H'
 |some (.bk J,s')=>∀U' H' Z',Ext U H U' H'->aD K cA U' H' s'->aW K cA U' H' Z' J->D.bk Z' H'
 |some (.ct J,s')=>∀U' H' Z',Ext U H U' H'->aD K cA U' H' s'->aW K cA U' H' Z' J->D.ct Z' H'
 |some (.rt d,s')=>∀U' H' v,Ext U H U' H'->aD K cA U' H' s'->aU K cA U' H' d v->D.rt v H'
 |some (.er c fs J,s')=>∀U' H' Z',Ext U H U' H'->aD K cA U' H' s'->aW K cA U' H' Z' J->∀dx,kJ K cA U' H' c fs dx->EX Z' (.ref (cA.a c)) dx H'
 |none=>False
noncomputable def tS(EX:XS)(m:Vs->MS):TS:=λD Z H=>∃U J s,aW K cA U H Z J/\aD K cA U H s/\aV K cA (m J) U H s D EX
end
section
variable {K:W.Frag}{cA:Cl}{U U':Ph}{H H':Hp}{s:S}{Z:L2.St}{J:Vs}{EX:XS}{D:Ends}
theorem aV.ext{m:MS}(x:Ext U H U' H')(h:aV K cA m U H s D EX):aV K cA m U' H' s D EX:=by
 unfold aV at *;split at h<;>first
  |exact λU2 H2 a y r l=>h U2 H2 a (x.trans y) r l
  |exact h.elim
theorem aV.ofM{α:Type}{m:M α}{k:α->MS}(hL:aW K cA U H Z J)(hz:∀a∈U.l,U.z a)(h:aV K cA (ofM m J k) U H s D EX):Run K cA m U H s (λa s1 U1 H1=>Ext U H U1 H1/\aD K cA U1 H1 s1/\aV K cA (k a) U1 H1 s1 D EX) (eX K cA EX Z):=by
 unfold aV Mi.ofM at h;unfold Run;cases e:m s with
 |none=>rw[e] at h;exact h
 |some r=>
  obtain⟨r,s1⟩:=r;rw[e] at h;cases r with
  |er c fs=>exact λU1 H1 x r=>h U1 H1 Z x r (hL.mono x hz)
  |ok a=>
   intro U1 H1 x r;refine⟨x,r,?_⟩;have h2:aV K cA (k a) U H s1 D EX:=h;exact h2.ext x
theorem aV.then_(h:aV K cA (bO m k) U H s D EX):aV K cA m U H s {D with nx:=λZ' H'=>∃U' J' s',aW K cA U' H' Z' J'/\aD K cA U' H' s'/\aV K cA (k J') U' H' s' D EX} EX:=by
 unfold aV bO at h;unfold aV;cases e:m s with
 |none=>rw[e] at h;exact h
 |some r=>
  obtain⟨r,s1⟩:=r;rw[e] at h;cases r with
  |nx J=>
   intro U1 H1 Z1 x r l;have h2:aV K cA (k J) U H s1 D EX:=h;exact⟨U1,J,s1,l,r,h2.ext x⟩
  |bk J=>exact h
  |ct J=>exact h
  |rt d=>exact h
  |er c fs J=>exact h
end
section
variable (X:Cx)(cA:Cl)(aq:Nat->Nat->Bool)(aj:Bool)(F:Bool->Fn)(EX:XS)
def SS(st:Stmt)(m:St):Prop:=PS X st (tS X.K cA EX (ex aq aj F m))
def wg(st:List Stmt)(m:cB):Prop:=pW X st (tS X.K cA EX (exs aq aj F m))
end
section
variable {X:Cx}{cA:Cl}{aq:Nat->Nat->Bool}{aj:Bool}{F:Bool->Fn}{EX:XS}{a b c d e:Expr}{A B C:E}{pos p p2:Pos}{st:Stmt}{sts body orelse:List Stmt}{m:St}{ms mb me mh:cB}{es:List Expr}{Xs:Es}{x y n:Str}{i j:Nat}
theorem PS.weak{t t':TS}(h:PS X st t)(f:∀D Z H,t' D Z H->t D Z H):PS X st t':=λao s Z H D I q=>h ao s Z H D I (f D Z H q)
theorem pW.weak{t t':TS}(h:pW X sts t)(f:∀D Z H,t' D Z H->t D Z H):pW X sts t':=λao s Z H D I q=>h ao s Z H D I (f D Z H q)
theorem znL:SS X cA aq aj F EX st .no:=λ_ _ _ _ _ _ ⟨_,_,_,_,_,h⟩=>h.elim
theorem zjs:wg X cA aq aj F EX [] .nil:=pW.weak WW λD Z H hh=>un hh λU J s hL hS h=>h U H Z Ext.refl hS hL
theorem zhD(h1:SS X cA aq aj F EX st m)(h2:wg X cA aq aj F EX sts ms):wg X cA aq aj F EX (st::sts) (.cons m ms):=pW.weak (WX h1 h2) λD Z H hh=>un hh λU J s hL hS h=>by
 have h:aV X.K cA (bO (ex aq aj F m J) λJ'=>exs aq aj F ms J') U H s D EX:=h;exact⟨U,J,s,hL,hS,h.then_⟩
theorem zmR(ha:SE X cA aq aj (F aj) EX a A)(hs:swapsWith a none pos.line X.env=pure false:=by rfl):SS X cA aq aj F EX (.Expr a pos) (.ex A):=PS.weak (zjf ha hs) λD Z H hh=>un hh λU J s hL hS h=>
 ⟨U,J,s,hL,hS,(aV.ofM hL hS.lz h).imp λd s1 U1 H1 ⟨x1,aG,h1⟩ v rv=>h1 U1 H1 Z Ext.refl aG (hL.mono x1 hS.lz)⟩
theorem zmC(ha:SE X cA aq aj (F aj) EX a A):SS X cA aq aj F EX (.Return (some a) pos) (.ret A):=PS.weak (zlY ha) λD Z H hh=>un hh λU J s hL hS h=>
 ⟨U,J,s,hL,hS,(aV.ofM hL hS.lz h).imp λd s1 U1 H1 ⟨x1,aG,h1⟩ v rv=>h1 U1 H1 v Ext.refl aG rv⟩
theorem zkF(hN:X.N.Nodup)(hi:X.N[i]?=some x)(hx:Loc X.env.scope x)(ha:SE X cA aq aj (F aj) EX a A)(hs:swapsWith a (some (.Name x p)) pos.line X.env=pure false:=by rfl)(hf:X.fn x=true\/X.env.scope.names.lookup x=some .local:=by first|exact .inl rfl|exact .inr rfl) :
  SS X cA aq aj F EX (.Assign [.Name x p] a pos) (.asg (.nm i) A):=PS.weak (zlU hN hi hx ha hs hf) λD Z H hh=>un hh λU J s hL hS h=>
 ⟨U,J,s,hL,hS,(aV.ofM hL hS.lz h).imp λd s1 U1 H1 ⟨x1,aG,h1⟩ v rv=>h1 U1 H1 _ Ext.refl aG ((hL.mono x1 hS.lz).set rv)⟩
theorem S5{k}(hc:X.aj=true)(hN:X.N.Nodup)(hi:X.N[i]?=some x)(hj:X.N[j]?=some y)(hx:Loc X.env.scope x)(hy:Loc X.env.scope y)(yc:X.fn x=true\/X.env.scope.names.lookup x=some .local)(yd:X.fn y=true\/X.env.scope.names.lookup y=some .local) :
  PG X (.Tuple [.Name x px,.Name y py] k pos) (uy X.K 2 (iH (dO i) (iH (dO j) ux))):=zlf hc (W0 (Mr hN hi hx yc) (W0 (Mr hN hj hy yd) zi5))
theorem Y9{K:W.Frag}{U:Ph}{H:Hp}{s:S}{J:Vs}{Z:L2.St}{D:Ends}{d:Xv}{v:V}(dF:aj=true)(hL:aW K cA U H Z J)(hS:aD K cA U H s)(rv:aU K cA U H d v)(h:aV K cA (store aq aj (F aj) (.tp [i,j]) d J) U H s D EX):uy K 2 (iH (dO i) (iH (dO j) ux)) v Z H D.nx:=by
 have h:aV K cA (if aj=true then ofM (M.bd (dat d) λd=>M.opt ((kj d).bind λds=>gC [i,j] (ds.map Xv.d) J)) J (λJ' s=>some (Out.nx J',s)) else λ_=>none) U H s D EX:=h;rw[if_pos dF] at h;obtain⟨dd,e0,rd,h1⟩:=Ni rv (aV.ofM hL hS.lz h);obtain⟨J',e,_,aG,h2⟩:=Run.opt hS h1;refine(JV i j).run U H s Z J J' dd v _ hL hS rd e λZ' hL' _ _=>h2 U H Z' Ext.refl hS hL'
theorem zj0{k}(hc:X.aj=true)(dF:aj=true)(hN:X.N.Nodup)(hi:X.N[i]?=some x)(hj:X.N[j]?=some y)(hx:Loc X.env.scope x)(hy:Loc X.env.scope y)(yc:X.fn x=true\/X.env.scope.names.lookup x=some .local)(yd:X.fn y=true\/X.env.scope.names.lookup y=some .local)(ha:SE X cA aq aj (F aj) EX a A)
  (hs:swapsWithSole [.Tuple [.Name x px,.Name y py] k pt] a pos.line X.env=pure false:=by rfl) (hw:swappedStores [.Tuple [.Name x px,.Name y py] k pt] a X.env=pure none:=by rfl)
  (h1:(assignEach [.Tuple [.Name x px,.Name y py] k pt] X.env).map (·.2)=[assign (.Tuple [.Name x px,.Name y py] k pt) X.env]:=by rfl) :
  SS X cA aq aj F EX (.Assign [.Tuple [.Name x px,.Name y py] k pt] a pos) (.asg (.tp [i,j]) A):=PS.weak (W2 ha (S5 hc hN hi hj hx hy yc yd) hs hw h1) λD Z H hh=>un hh λU J s hL hS h=>
 ⟨U,J,s,hL,hS,(aV.ofM hL hS.lz h).imp λd s1 U1 H1 ⟨x1,aG,h1⟩ v rv=>Y9 dF (hL.mono x1 hS.lz) aG rv h1⟩
theorem zkz(hO:SE X cA aq aj (F aj) EX oo O)(hI:SE X cA aq aj (F aj) EX ii I')(ha:SE X cA aq aj (F aj) EX a A)
  (S6:∀v,assign (.Subscript oo ii p) X.env v=(do
   let ov <-holding [v] (eval oo X.env)
   let iv <-holding [v,ov] (eval ii X.env)
   standAt p
   holding [v,ov,iv] (setItem ov iv v)
   release [v,ov,iv] []):=by intro _;rfl) (hs:swapsWithSole [.Subscript oo ii p] a pos.line X.env=pure false:=by rfl) (hw:swappedStores [.Subscript oo ii p] a X.env=pure none:=by rfl)
  (h1:(assignEach [.Subscript oo ii p] X.env).map (·.2)=[assign (.Subscript oo ii p) X.env]:=by rfl) :
  SS X cA aq aj F EX (.Assign [.Subscript oo ii p] a pos) (.asg (.aq O I') A):=PS.weak (W2 ha (zmo hO hI zhQ S6) hs hw h1) λD Z H hh=>un hh λU J s hL hS h=>by
 refine⟨U,J,s,hL,hS,(aV.ofM hL hS.lz h).imp λd s1 U1 H1 ⟨x1,aG,h1⟩ v rv=>?_⟩;obtain⟨dd,e0,rd,h2⟩:=Ni rv (aV.ofM (hL.mono x1 hS.lz) aG.lz h1);refine aX (hL.mono x1 hS.lz) aG h2 λxo H2 U2 d2 s2 x2 hL2 aM r2 h3=>aX hL2 aM h3 λyi H3 U3 d3 s3 x3 nQ fV r3 h4=>?_;obtain⟨k,_,ek,h5⟩:=Cu r3 h4;obtain⟨n,ad,xs,vs,_,ea,e1,f1,g1,q1,h6⟩:=Nq fV (r2.mono x3 aM.lz) h5;subst ek ea;cases ej:L2.sy xs.length k with
 |none=>simp only[ej] at h6;exact h6.elim
 |some jj=>
  simp only[ej] at h6;refine⟨ad,vs,k,jj,rfl,rfl,g1,by rw[<-q1.len];exact ej,?_⟩;have rv3:=(rd.mono x2 aG.lz).mono x3 aM.lz;have rm:=fV.write e1 f1 (q1.set rv3 jj);have x4:Ext U3 H3 U3 (upd H3 ad (.lst (vs.set jj v))):=Ext.write f1 ⟨_,g1⟩;obtain⟨_,_,h8⟩:=h6 U3 _ x4 rm;exact h8 U3 _ Z Ext.refl rm (nQ.mono x4 fV.lz)
theorem zkK{kt k2 uz}(hc:X.aj=true)(dF:aj=true)(hN:X.N.Nodup)(hi:X.N[i]?=some x)(hj:X.N[j]?=some y)(wX:i≠j)(hx:X.env.scope.names.lookup x=some .local)(hy:X.env.scope.names.lookup y=some .local)
  (ha:SE X cA aq aj (F aj) EX a A) (hb:SE X cA aq aj (F aj) EX b B) (h1:starEach [a,b] X.env=(false,eval a X.env)::starEach [b] X.env) (h2:starEach [b] X.env=(false,eval b X.env)::starEach [] X.env)
  (hw:swappedStores [.Tuple [.Name x px,.Name y py] kt pt] (.Tuple [a,b] k2 uz) X.env=pure (some [x,y]))
  (hs:swapsWithSole [.Tuple [.Name x px,.Name y py] kt pt] (.Tuple [a,b] k2 uz) pos.line X.env=pure false:=by rfl) :
  SS X cA aq aj F EX (.Assign [.Tuple [.Name x px,.Name y py] kt pt] (.Tuple [a,b] k2 uz) pos) (.par i j A B):=PS.weak (zls hc hN hi hj wX hx hy (rY ha (rY hb xq h2) h1) hw hs) λD Z H hh=>un hh λU J s hL hS h=>by
 have h:aV X.K cA (if aj=true then ofM (M.bd (ev aq aj (F aj) A J) λx=>M.bd (ev aq aj (F aj) B J) λy=>M.ret (x,y)) J (λxy s=>some (.nx ((J.set i (some xy.1)).set j (some xy.2)),s)) else λ_=>none) U H s D EX:=h;rw[if_pos dF] at h;refine aX hL hS (aV.ofM hL hS.lz h) λx H1 U1 d1 s1 x1 hL1 aG r1 h1=>aX hL1 aG h1 λy H2 U2 d2 s2 x2 hL2 aM r2 h2=>?_;obtain⟨_,_,h3⟩:=h2.bC aM;exact⟨x,y,rfl,h3 U2 H2 _ Ext.refl aM ((hL2.set (r1.mono x2 aG.lz)).set r2)⟩
theorem zkE{pos':Pos}(hN:X.N.Nodup)(hi:X.N[i]?=some x)(hx:Loc X.env.scope x)(ha:SE X cA aq aj (F aj) EX a A)(hf:X.fn x=true\/X.env.scope.names.lookup x=some .local)(hr:PS X (.AugAssign (.Name x p) .Add a pos) (Hv i (tE X.K cA EX (ev aq aj (F aj) A)) (W3 λi j=>i+j))) :
  SS X cA aq aj F EX (.AugAssign (.Name x p) .Add a pos) (.aug i A):=PS.weak hr λD Z H hh=>un hh λU J s hL hS h=>by
 have h:=aV.ofM hL hS.lz h;obtain⟨xv,e,h1⟩:=Run.m8 h;obtain⟨v,q1,q2⟩:=hL.2 i xv (Nj e);refine⟨v,q1,aX hL hS h1 λy H1 U1 d1 s1 x1 hL1 aG r1 h2=>?_⟩;obtain⟨p1,_,e1,h3⟩:=Cu (q2.mono x1 hS.lz) h2;obtain⟨p2,_,e2,h4⟩:=Cu r1 h3;obtain⟨_,_,h5⟩:=h4.bC aG;exact⟨p1,p2,e1,e2,h5 U1 H1 _ Ext.refl aG (hL1.set (.d (.int _)))⟩
theorem zne(hc:ST X cA aq aj (F aj) EX c C)(ht:wg X cA aq aj F EX body mb)(he:wg X cA aq aj F EX orelse me):SS X cA aq aj F EX (.If c body orelse pos) (.iff C mb me):=PS.weak (znU hc ht he) λD Z H hh=>un hh λU J s hL hS h=>by
 refine⟨U,J,s,hL,hS,(aV.ofM hL hS.lz h).imp λk s1 U1 H1 ⟨x1,aG,h1⟩=>?_⟩;cases k with
 |true=>exact iT ⟨U1,J,s1,hL.mono x1 hS.lz,aG,h1⟩
 |false=>exact iF ⟨U1,J,s1,hL.mono x1 hS.lz,aG,h1⟩
theorem zkm{g:TG}{elt iter tg:Expr}{ifs:List Expr}{scope:Scope}{N:List Str}{cond:Eo}{fr aL:List Nat}{many:Nat}{fz:Bool}{w:Wk}{spos py:Pos}(hc:X.aj=true)(oV:X.N.Nodup)(sE:X.N[i]?=some y)(hx:Loc X.env.scope y)(hf:X.fn y=true\/X.env.scope.names.lookup y=some .local)(B':b_ X.env.scope scope)(hi:SI X cA aq aj (F aj) EX tg iter w)(hN:N.length=many+fr.length)
  (pH:∀(i:Nat) (y:Str) (j:Nat),N[many+i]?=some y->fr[i]?=some j->scope.names.lookup y=some .free/\X.N[j]?=some y)
  (hg:∀cl C s3 H3 fp ao,PG (X.blk scope cl N C s3 H3 fp ao) tg g) (hT:dW X.K cA g aL) (cV:∀i∈aL,i<many)
  (ht:∀cl C s3 H3 fp ao,Cy (X.blk scope cl N C s3 H3 fp ao) cA aq aj (F aj) (λ_ _ _ _=>False) ifs cond) (he:∀cl C s3 H3 fp ao,SE (X.blk scope cl N C s3 H3 fp ao) cA aq aj (F aj) (λ_ _ _ _=>False) elt B)
  (uP:swapsWith (.ListComp elt [⟨tg,iter,ifs,0⟩] scope pos) (some (.Name y py)) spos.line X.env=pure true) (hs:∀x,foldedSetIterable iter X.env x=pure x:=by intro _;rfl) :
  SS X cA aq aj F EX (.Assign [.Name y py] (.ListComp elt [⟨tg,iter,ifs,0⟩] scope pos) spos) (.asg (.nm i) (.comp fz B aL w fr many cond)):=
 PS.weak (ze3 hc oV sE hx hf B' hi (⟨hg,ht,he⟩ : Parts X elt tg ifs scope N g (qx X.K cA (λ_ _ _ _=>False) (mj aq aj (F aj) cond)) (tE X.K cA (λ_ _ _ _=>False) (ev aq aj (F aj) B))) (ZY:=bB many fr) (λZ=>by simp[bB,hN]) (λZ i x v e1 e2=>Nr pH Z i x v e1 e2) uP hs) λD Z H hh=>un hh λU J s hL hS h=>
  Y7 (iter':=iter) hT cV ⟨U,J,s,hL,hS,(aV.ofM hL hS.lz h).imp λd s1 U1 H1 ⟨x1,aG,h1⟩ v rv=>h1 U1 H1 _ Ext.refl aG ((hL.mono x1 hS.lz).set rv)⟩
noncomputable def oW(m:MS)(kN:Vs->MS):MS:=λs=>match m s with
 |some (.nx J',s')=>kN J' s'
 |some (.ct J',s')=>kN J' s'
 |some (.bk J',s')=>some (.nx J',s')
 |r=>r
theorem Y_{K:W.Frag}{U:Ph}{H:Hp}{s:S}{D:Ends}{m:MS}{kN:Vs->MS}{N:L2.St->Hp->Prop}(hN:∀U' J' s' Z' H',Ext U H U' H'->aW K cA U' H' Z' J'->aD K cA U' H' s'->aV K cA (kN J') U' H' s' D EX->N Z' H')(h:aV K cA (oW m kN) U H s D EX) :
  aV K cA m U H s {D with nx:=N,ct:=N,bk:=D.nx} EX:=by
 unfold aV oW at h;unfold aV;cases e:m s with
 |none=>rw[e] at h;exact h
 |some r=>
  obtain⟨r,s1⟩:=r;rw[e] at h;cases r with
  |nx J'=>
   intro U1 H1 Z1 x r l;have h2:aV K cA (kN J') U H s1 D EX:=h;exact hN U1 J' s1 Z1 H1 x l r (h2.ext x)
  |ct J'=>
   intro U1 H1 Z1 x r l;have h2:aV K cA (kN J') U H s1 D EX:=h;exact hN U1 J' s1 Z1 H1 x l r (h2.ext x)
  |bk J'=>exact h
  |rt d=>exact h
  |er c fs J'=>exact h
theorem zha(hp:PassesOwn (model X.prog X.w) X.A X.env X.xe)(hc:ST X cA aq aj (F aj) EX c C)(hb:wg X cA aq aj F EX body mb):SS X cA aq aj F EX (.While c body [] pos) (.wh C mb):=PS.weak (zhC hp hc hb) λD Z H hh=>un hh λU J s hL hS h=>by
 refine⟨λm Z H=>∃U J s,aW X.K cA U H Z J/\aD X.K cA U H s/\aV X.K cA (cJ (λJ=>M.bd (ev aq aj (F aj) C J) bool) (λJ=>exs aq aj F mb J) m J) U H s D EX,⟨oR,U,J,s,hL,hS,h⟩,?_⟩;rintro m Z H ⟨U,J,s,hL,hS,h⟩;cases m with
 |zero=>exact h.elim
 |succ m=>
  refine⟨U,J,s,hL,hS,(aV.ofM (k:=λok=>if ok=true then oW (exs aq aj F mb J) (cJ (λJ=>M.bd (ev aq aj (F aj) C J) bool) (λJ=>exs aq aj F mb J) m) else λs=>some (.nx J,s)) hL hS.lz h).imp λk s1 U1 H1 ⟨x1,aG,h1⟩=>?_⟩;cases k with
  |true=>
   rw[if_pos rfl] at h1 ⊢;refine⟨_,λZ' H' z=>⟨m,Gz m,z⟩,U1,J,s1,hL.mono x1 hS.lz,aG,Y_ (λU' J' s' Z' H' _ l r q=>?_) h1⟩;exact⟨U',J',s',l,r,q⟩
  |false=>
   rw[if_neg Gv] at h1 ⊢;exact h1 U1 H1 Z Ext.refl aG (hL.mono x1 hS.lz)
def SG(X:Cx)(cA:Cl)(aq:Nat->Nat->Bool)(aj:Bool)(F:Bool->Fn)(EX:XS)(tg:Expr)(t:Tg):Prop:=∃g:TG,PG X tg g/\∀(U:Ph) (H:Hp) (s:S) (Z:L2.St) (J:Vs) (d:Xv) (v:V) (D:Ends),aW X.K cA U H Z J->aD X.K cA U H s->aU X.K cA U H d v->
 aV X.K cA (store aq aj (F aj) t d J) U H s D EX->g v Z H D.nx
theorem zjm(hN:X.N.Nodup)(hi:X.N[i]?=some x)(hx:Loc X.env.scope x)(hf:X.fn x=true\/X.env.scope.names.lookup x=some .local:=by first|exact .inl rfl|exact .inr rfl):SG X cA aq aj F EX (.Name x pos) (.nm i):=
 ⟨_,Mr hN hi hx hf,λU H s Z J d v D hL hS r h=>h U H _ Ext.refl hS (hL.set r)⟩
theorem zjQ{k}(hc:X.aj=true)(dF:aj=true)(hN:X.N.Nodup)(hi:X.N[i]?=some x)(hj:X.N[j]?=some y)(hx:Loc X.env.scope x)(hy:Loc X.env.scope y)(yc:X.fn x=true\/X.env.scope.names.lookup x=some .local)(yd:X.fn y=true\/X.env.scope.names.lookup y=some .local) :
  SG X cA aq aj F EX (.Tuple [.Name x px,.Name y py] k pos) (.tp [i,j]):=
 ⟨_,S5 hc hN hi hj hx hy yc yd,λU H s Z J d v D hL hS r h=>Y9 dF hL hS r h⟩
theorem zlR(hp:PassesOwn (model X.prog X.w) X.A X.env X.xe)(hc:X.aj=true)(dF:aj=true)(ha:SI X cA aq aj (F aj) EX tg a w)(hg:SG X cA aq aj F EX tg t)(hb:wg X cA aq aj F EX body mb)
  (hs:∀x,foldedSetIterable a X.env x=pure x:=by intro _;rfl):SS X cA aq aj F EX (.For tg a body [] pos) (.fr t w mb):=by
 obtain⟨g,hG,hg⟩:=hg;refine PS.weak (zmD hp hc ha hG hb hs) λD Z H hh=>un hh λU J s hL hS h=>?_;have h:aV X.K cA (if aj=true then ofM (gK aq aj (F aj) w J) J λcn=>cN cn.1 (λd J=>bO (store aq aj (F aj) t (.d d) J) λJ'=>exs aq aj F mb J') (cn.2+1) 0 J else λ_=>none) U H s D EX:=h;rw[if_pos dF] at h;refine⟨U,J,s,hL,hS,(aV.ofM hL hS.lz h).imp λcn s1 U1 H1 ⟨x1,aG,h1⟩ aZ hJ=>?_⟩;have hL1:=hL.mono x1 hS.lz;obtain⟨c,n⟩:=cn;dsimp only at h1 hJ;refine⟨λi m Z' H'=>∃U' J' s',Ext U1 H1 U' H'/\aW X.K cA U' H' Z' J'/\aD X.K cA U' H' s'/\aV X.K cA (cN c (λd J=>bO (store aq aj (F aj) t (.d d) J) λJ'=>exs aq aj F mb J') m i J') U' H' s' D EX,⟨n+1,U1,J,s1,Ext.refl,hL1,aG,h1⟩,?_⟩;rintro i m Z' H' ⟨U',J',s',x2,hL2,aM,h4⟩;cases m with
 |zero=>exact h4.elim
 |succ m=>
  cases ei:c.at i s' with
  |none=>
   exfalso
   unfold aV cN at h4;simp only[ei] at h4
  |some oi=>
   cases oi with
   |none=>
    refine .inl ⟨hJ.stop U' H' H' s' i x2 cO.refl aM ei,?_⟩;unfold aV cN at h4;simp only[ei] at h4;exact h4 U' H' Z' Ext.refl aM hL2
   |some xi=>
    refine .inr ⟨hJ.go U' H' H' s' i xi x2 cO.refl aM ei,_,λZ3 H3 z=>⟨m,Gz m,z⟩,λv H3 hy=>?_⟩;obtain⟨gr,rx⟩:=hJ.uD U' H' H' s' i xi v H3 x2 cO.refl aM ei hy;have h5:aV X.K cA (oW (bO (store aq aj (F aj) t (.d xi) J') λJ'=>exs aq aj F mb J') (cN c (λd J=>bO (store aq aj (F aj) t (.d d) J) λJ'=>exs aq aj F mb J') m (i+1))) U' H' s' D EX:=by
     unfold aV at h4 ⊢;have e:cN c (λd J=>bO (store aq aj (F aj) t (.d d) J) λJ'=>exs aq aj F mb J') (m+1) i J' s'=oW (bO (store aq aj (F aj) t (.d xi) J') λJ'=>exs aq aj F mb J') (cN c (λd J=>bO (store aq aj (F aj) t (.d d) J) λJ'=>exs aq aj F mb J') m (i+1)) s':=by
      rw[cN];simp only[ei];rfl
     rw[e] at h4;exact h4
    exact hg U' H3 s' Z' J' (.d xi) v _ (hL2.mono gr.ext aM.lz) (aM.grow gr) (.d rx) (aV.then_ (Y_ (λU4 J4 s4 Z4 H4 x4 l4 r4 q4=>⟨U4,J4,s4,(x2.trans gr.ext).trans x4,l4,r4,q4⟩) (h5.ext gr.ext)))
end
end Mi
namespace L2
open PySem PySem.Spec PyProof.Rows
structure oX(K:W.Frag)(x qual:Str)(st:Stmt)(f:Addr)(fd:FuncData):Prop where
 ex:∃(oc:Value) (od:Option Addr) (kV doc pm:Value) (an:Option Addr) (cdv ct:Value) (osl:Array (Option Value)),
  fd=PySem.W.fnOf x qual (aY st) (aJ st) (au st) .none kV doc pm an cdv ct/\K.lookup f=some ⟨oc,od,.func fd,osl⟩/\PySem.W.codeIn K cdv qual=true
 kp:PySem.W.keepIn K (.ref f)=true
end L2
namespace Mi
open PySem PySem.Spec PyProof.Rows L2
section
variable {P:Program}{w:World}{K:W.Frag}{mg:Str->Option Value}{base:Heap}{cA:Cl}{aq:Nat->Nat->Bool}{T:Nat->Option Df}
theorem S7{U:Ph}{H:Hp}{N:List Str}{ds:List Xv}{vs:List V}{m p:Nat}(r:aR K cA U H ds vs)(hp:p=ds.length)(hm:m=N.length):aW K cA U H (L2.start N vs) (ds.map some++List.replicate (m-p) none):=by
 subst hp hm;unfold L2.start;have hl:=r.len;refine⟨by simp[hl],λi d e=>?_⟩;by_cases hi:i<ds.length
 ·rw[pF (by simpa using hi),jD] at e;cases z:ds[i]? with
  |none=>rw[z] at e;cases e
  |some x=>
   rw[z] at e;cases e;obtain⟨v,a,b⟩:=r.get z;exact⟨v,by rw[pF (by simp;lia),jD,a];rfl,b⟩
 ·rw[pK (by simpa using hi),Af] at e;split at e<;>cases e
theorem Nt{U:Ph}{H:Hp}{s:S}{ds:List Xv}{k n:Nat}{cm:Bool}{df:Df}{Q:VK}{E:XK}(hT:T n=some df)
  (h:Run K cA (call aq T (k+1) cm n ds) U H s (λd _ U' H'=>∀v,aU K cA U' H' d v->Q v H') (λc fs _ U' H'=>∀dx,kJ K cA U' H' c fs dx->E (.ref (cA.a c)) dx H')) :
  ds.length=df.dD/\aV K cA (exs aq cm (λc=>call aq T k c) df.body (ds.map some++List.replicate (df.many-df.dD) none)) U H s {nx:=λ_ H'=>Q .non H',rt:=Q} (λ_ C dx H'=>E C dx H'):=by
 unfold call at h;simp only[hT] at h;by_cases hl:ds.length=df.dD
 ·refine⟨hl,?_⟩;rw[if_pos hl] at h;unfold Run at h;unfold aV;cases e:exs aq cm (λc=>call aq T k c) df.body (ds.map some++List.replicate (df.many-df.dD) none) s with
  |none=>simp only[e] at h
  |some r=>
   obtain⟨r,s1⟩:=r;simp only[e] at h;cases r with
   |nx J=>exact λU' H' Z' x r l=>h U' H' x r _ (.d .non)
   |rt d=>exact λU' H' v x r rv=>h U' H' x r v rv
   |er c fs J=>exact λU' H' Z' x r l=>h U' H' x r
   |bk J=>exact h.elim
   |ct J=>exact h.elim
 ·rw[if_neg hl] at h;exact h.elim
theorem dX:cF P w K mg base (fj P w) cm 0 f fd ps (lG K cA (call aq T 0 cm n)):=
 ⟨λvs H Q E ⟨_,_,_,_,_,h⟩=>h.elim,λA outer s H args us vs Q E _ _ _ _ _ ⟨_,_,_,_,_,h⟩=>h.elim⟩
theorem Za{x qual:Str}{st:Stmt}{f:Addr}{fd:FuncData}{N ps:List Str}{k n:Nat}{cm:Bool}{df:Df}(F:oX K x qual st f fd)(S:bW N ps (au st))(hT:T n=some df)(hp:df.dD=ps.length)(hm:df.many=N.length)
  (hb:∀(cdv:Value) (A:Around) (outer:List Env) (s:Shared) (H:Hp) (E:XK),bx (k+1) A->
   wg (dJ (fj P w) P w K mg base N qual (au st) f cdv A outer s H E cm) cA aq cm (λc=>call aq T k c) (λ_ C dx H'=>E C dx H') (aJ st) df.body) :
  cF P w K mg base (fj P w) cm (k+1) f fd ps (lG K cA (call aq T (k+1) cm n)):=by
 obtain⟨oc,od,kV,doc,pm,an,cdv,ct,osl,rfl,lk,iG⟩:=F.ex;refine QL lk iG S (λvs H Q E ⟨U,ds,s,r,hS,h⟩=>?_) λA outer s H vs Q E hr ⟨U,ds,st',r,hS,h⟩=>?_
 ·rw[<-r.len,(Nt hT h).1,hp]
 ·obtain⟨hl,h2⟩:=Nt hT h;exact⟨_,hb cdv A outer s H E hr,U,_,st',S7 r hl.symm hm,hS,h2⟩
theorem zlP{x qual:Str}{st:Stmt}{f:Addr}{fd:FuncData}{N ps:List Str}{k n:Nat}{cm:Bool}{df:Df}(F:oX K x qual st f fd)(S:bW N ps (au st))(hT:T n=some df)(hp:df.dD=ps.length)(hm:df.many=N.length)
  (hb:∀(cdv:Value) (A:Around) (outer:List Env) (s:Shared) (H:Hp) (E:XK),bx k (A.deeper (envOfC qual (au st) s.heap.objs.size f cdv))->
   wg (dJ (fj P w) P w K mg base N qual (au st) f cdv A outer s H E cm) cA aq cm (λc=>call aq T k c) (λ_ C dx H'=>E C dx H') (aJ st) df.body) :
  cF P w K mg base (fj P w) cm (k+1) f fd ps (lG K cA (call aq T (k+1) cm n)):=Za F S hT hp hm λcdv A outer s H E hr=>hb cdv A outer s H E (hr.deeper _)
end
theorem zlD{K:W.Frag}{cA:Cl}{m:List Xv->M Xv}{H:Hp}{a:Addr}{ns:List Int}(hq:cT K H a (ns.map V.int))(hm:∃s',m [.d (.fl (ns.map D.int))] []=some (.ok (.d (.bl true)),s')) :
  lG K cA m [.ref a] H (λv _=>v=.bl true) λ_ _ _=>False:=by
 have rs:∀(l:List Int) U,aB K cA U H (l.map D.int) (l.map V.int):=λl U=>by
  induction l with
  |nil=>exact .nil
  |cons i l ih=>exact .cons (.int i) ih
 have hl:LstAt K ⟨λ_=>False,[]⟩ H a (ns.map V.int):=by
  rcases hq with h|h
  ·exact .inl ⟨h,λz=>z⟩
  ·exact .inr (.inr h)
 refine⟨⟨λ_=>False,[]⟩,[.d (.fl (ns.map D.int))],[],.cons (.d (.fl hl (rs ns _))) .nil,⟨rfl,(λn o b e1 e2=>by simp at e1),Ar,(λb hb=>by cases hb),(λb z=>False.elim z)⟩,?_⟩;obtain⟨s',e⟩:=hm;unfold Run;rw[e];intro U' H' _ _ v rv;cases rv with
 |d rv=>cases rv;rfl
theorem zfV:Raises X (λ_ _ _ _=>False):=λ_ _ _ _ _ _ _ _ _ _ _ _ _ z=>z.elim
theorem yg(r:bx k A):A.units+60<cLine:=by have:=r.un;lia
noncomputable def aC:Expr->Bool
 |.Starred _ _=>false
 |_=>true
theorem bf(h:aC e=true):starEach (e::es) env=(false,eval e env)::starEach es env:=by
 cases e<;>first|rfl|cases h
theorem bD:∀{es:List Expr} {env:Env} {pos:Pos},es.all aC=true->(backTo pos (starEach es env)).any (·.1)=false
 |[],_,_,_=>rfl
 |e::es,env,pos,h=>by
  rw[yW,fK] at h;rw[bf h.1];show (false||(backTo pos (starEach es env)).any (·.1))=false;rw[bD h.2];rfl
theorem rB:∀{es:List Expr} {env:Env} {pos:Pos},es.all aC=true->(backTo pos (starEach es env)).all (λx=>!x.1)=true
 |[],_,_,_=>rfl
 |e::es,env,pos,h=>by
  rw[yW,fK] at h;rw[bf h.1];show (true&&(backTo pos (starEach es env)).all (λx=>!x.1))=true;rw[rB h.2];rfl
theorem m_(h1:aC e=true)(h2:es.all aC=true)(h3:decide (es.length<28)=true):((backTo pos (starEach (e::es) env)).all (λx=>!x.1)&&(backToKw pos (keywordEach [] env)).all (λx=>x.1.isSome)&&decide ((e::es).length+([]:List Keyword).length+(if ([]:List Keyword).isEmpty then 0 else 1)<30))=true:=by
 rw[rB (es:=e::es) (by rw[yW,h1,h2];rfl)];have:=jP h3;have z:(e::es).length+([]:List Keyword).length+(if ([]:List Keyword).isEmpty then 0 else 1)<30:=by
  show es.length+1+0+0<30
  lia
 rw[nH z];rfl
noncomputable def qC(sc scope:Scope):Bool:=(match scope.kind with|.function=>true|_=>false)&&scope.names.all λy=>match y.2 with
 |.cell=>(match scope.names.lookup y.1 with|some .cell=>true|_=>false)
 |.free=>(match sc.names.lookup y.1 with|some .cell=>true|some .free=>true|_=>false)
 |.local=>(match scope.names.lookup y.1 with|some .local=>true|_=>false)
 |_=>true
theorem b_.of(h:qC sc scope=true):b_ sc scope:=by
 unfold qC at h;rw[fK,iz] at h;obtain⟨h1,h2⟩:=h;refine⟨?_,λy hy z=>?_,λy hy z=>?_,λy hy z=>?_⟩
 ·split at h1
  ·assumption
  ·cases h1
 ·have:=h2 y hy;rw[z] at this;dsimp only at this;split at this
  ·assumption
  ·cases this
 ·have:=h2 y hy;rw[z] at this;dsimp only at this;split at this
  ·exact .inl (by assumption)
  ·exact .inr (by assumption)
  ·cases this
 ·have:=h2 y hy;rw[z] at this;dsimp only at this;split at this
  ·assumption
  ·cases this
noncomputable def frB(scope:Scope)(XN:List Str):List Str->List Nat->Bool
 |y::N,j::fr=>(match scope.names.lookup y with|some .free=>true|_=>false)&&decide (XN[j]?=some y)&&frB scope XN N fr
 |[],[]=>true
 |_,_=>false
theorem Zb:∀{N:List Str} {fr:List Nat},frB scope XN N fr=true->N.length=fr.length/\∀(i:Nat) (y:Str) (j:Nat),N[i]?=some y->fr[i]?=some j->scope.names.lookup y=some .free/\XN[j]?=some y
 |[],[],_=>⟨rfl,λi y j h=>by simp at h⟩
 |[],_::_,h=>by cases h
 |_::_,[],h=>by cases h
 |y::N,j::fr,h=>by
  unfold frB at h;rw[fK,fK,Aj] at h;obtain⟨⟨h1,h2⟩,h3⟩:=h;obtain⟨l,q⟩:=Zb h3;refine⟨by simp[l],λi z m e1 e2=>?_⟩;cases i with
  |zero=>
   simp at e1 e2;subst e1 e2;refine⟨?_,h2⟩;split at h1
   ·assumption
   ·cases h1
  |succ i=>exact q i z m (by simpa using e1) (by simpa using e2)
noncomputable def okN(x:Str):Bool:=!(x==("__debug__" : Str)) && !(x==("__classdict__" : Str)) && !decide (x="__name__")
theorem vd(h:okN x=true):(x==("__debug__" : Str))=false/\(x==("__classdict__" : Str))=false/\x≠"__name__":=by
 unfold okN at h;simp only[fK,Bool.not_eq_true',decide_eq_false_iff_not] at h;exact⟨h.1.1,h.1.2,h.2⟩
theorem Nu{env:Env}{k:NameKind}(hk:k≠.free):∀{names:List (Str×NameKind)} {x:Str},names.lookup x=some k->
  (names.map λ(n,k)=>if (k==NameKind.free&&env.scope.kind==.function&&env.kindOf n==some .cell) then (n,NameKind.cell) else (n,k)).lookup x=some k
 |[],x,h=>by simp at h
 |(n,q)::r,x,h=>by
  rw[pN] at h;rw[jo,pN];have hd:∀c:Bool,(if c=true then (n,NameKind.cell) else (n,q)).1=n:=λc=>by cases c<;>rfl
  rw[hd];by_cases z:x=n
  ·subst z;simp only[D_] at h ⊢;cases h
   split
   ·rename_i y;simp only[fK,nU] at y;exact absurd y.1.1 hk
   ·rfl
  ·have z':(x==n)=false:=by simpa using z
   simp only[z'] at h ⊢;exact Nu hk h
noncomputable def vf(K:W.Frag):Sp:=λvs H Q _=>∃(a:Addr) (ns:List Int),vs=[.ref a]/\cT K H a (ns.map V.int)/\ns.length<=63/\True/\∀H',Q (.bl true) H'
theorem zjH{K:W.Frag}{cA:Cl}{m:List Xv->M Xv}(hm:∀ns:List Int,ns.length<=63->∃s',m [.d (.fl (ns.map D.int))] []=some (.ok (.d (.bl true)),s'))(vs:List V)(H:Hp)(Q:VK)(E:XK)(h:vf K vs H Q E):lG K cA m vs H Q E:=by
 obtain⟨a,ns,rfl,hq,hl,hO,k⟩:=h;obtain⟨U,ds,s,r1,r2,h⟩:=zlD (cA:=cA) (m:=m) hq (hm ns hl);refine⟨U,ds,s,r1,r2,?_⟩;unfold Run at h ⊢;split at h
 ·intro U' H' x r v rv;rw[h U' H' x r v rv];exact k H'
 ·exact λU' H' x r dx q=>(h U' H' x r dx q).elim
 ·exact h
theorem CJ{K:W.Frag}{fd:FuncData}{p:Str}(h:∀a,bindArgs fd ⟨[a],[]⟩=pure [(p,a)]):Binds K fd [p] []:=.all λus hl=>by
 cases us with
 |nil=>cases hl
 |cons a r=>cases r with
  |nil=>exact h a
  |cons b r=>cases hl
theorem vg{K:W.Frag}{fd:FuncData}{p q:Str}(h:∀a b,bindArgs fd ⟨[a,b],[]⟩=pure [(p,a),(q,b)]):Binds K fd [p,q] []:=.all λus hl=>by
 cases us with
 |nil=>cases hl
 |cons a r=>cases r with
  |nil=>cases hl
  |cons b r=>cases r with
   |nil=>exact h a b
   |cons c r=>cases hl
theorem vh{K:W.Frag}{fd:FuncData}{p q t:Str}(h:∀a b c,bindArgs fd ⟨[a,b,c],[]⟩=pure [(p,a),(q,b),(t,c)]):Binds K fd [p,q,t] []:=.all λus hl=>by
 cases us with
 |nil=>cases hl
 |cons a r=>cases r with
  |nil=>cases hl
  |cons b r=>cases r with
   |nil=>cases hl
   |cons c r=>cases r with
    |nil=>exact h a b c
    |cons d r=>cases hl
theorem vm{K:W.Frag}{fd:FuncData}{p q t u:Str}(h:∀a b c d,bindArgs fd ⟨[a,b,c,d],[]⟩=pure [(p,a),(q,b),(t,c),(u,d)]):Binds K fd [p,q,t,u] []:=.all λus hl=>by
 cases us with
 |nil=>cases hl
 |cons a r=>cases r with
  |nil=>cases hl
  |cons b r=>cases r with
   |nil=>cases hl
   |cons c r=>cases r with
    |nil=>cases hl
    |cons d r=>cases r with
     |nil=>exact h a b c d
     |cons e r=>cases hl
theorem Zc:bootBuiltins "int"=some (.type "int"):=by decide +kernel
theorem Zd:bootBuiltins "bool"=some (.type "bool"):=by decide +kernel
theorem J0:bootBuiltins "tuple"=some (.type "tuple"):=by decide +kernel
theorem Ze:bootBuiltins "list"=some (.type "list"):=by decide +kernel
structure JE(X:Cx)(cA:Cl)(aq:Nat->Nat->Bool)(aj:Bool)(F:Fn)(EX:XS)(e:Expr)(m:E):Prop where
 o:SE X cA aq aj F EX e m
structure JA(X:Cx)(cA:Cl)(aq:Nat->Nat->Bool)(aj:Bool)(F:Fn)(EX:XS)(e:List Expr)(m:Es):Prop where
 o:SA X cA aq aj F EX e m
structure JT(X:Cx)(cA:Cl)(aq:Nat->Nat->Bool)(aj:Bool)(F:Fn)(EX:XS)(e:Expr)(m:E):Prop where
 o:ST X cA aq aj F EX e m
structure JW(X:Cx)(cA:Cl)(aq:Nat->Nat->Bool)(aj:Bool)(F:Fn)(EX:XS)(e:Expr)(m:E):Prop where
 o:SW X cA aq aj F EX e m
structure JC(X:Cx)(cA:Cl)(aq:Nat->Nat->Bool)(aj:Bool)(F:Fn)(EX:XS)(e:List Expr)(m:Eo):Prop where
 o:Cy X cA aq aj F EX e m
structure JO(X:Cx)(cA:Cl)(aq:Nat->Nat->Bool)(aj:Bool)(F:Fn)(EX:XS)(e:Option Expr)(m:Eo):Prop where
 o:Jw X cA aq aj F EX e m
structure JI(X:Cx)(cA:Cl)(aq:Nat->Nat->Bool)(aj:Bool)(F:Fn)(EX:XS)(tg e:Expr)(m:Wk):Prop where
 o:SI X cA aq aj F EX tg e m
structure JG(X:Cx)(cA:Cl)(aq:Nat->Nat->Bool)(aj:Bool)(F:Bool->Fn)(EX:XS)(e:Expr)(m:Tg):Prop where
 o:SG X cA aq aj F EX e m
structure JS(X:Cx)(cA:Cl)(aq:Nat->Nat->Bool)(aj:Bool)(F:Bool->Fn)(EX:XS)(e:Stmt)(m:St):Prop where
 o:SS X cA aq aj F EX e m
structure JB(X:Cx)(cA:Cl)(aq:Nat->Nat->Bool)(aj:Bool)(F:Bool->Fn)(EX:XS)(e:List Stmt)(m:cB):Prop where
 o:wg X cA aq aj F EX e m
structure JK(X:Cx)(x:Str)(k:NameKind):Prop where
 o:X.env.scope.names.lookup x=some k
structure JP(X:Cx)(cA:Cl)(op:CmpOp)(p:Pr):Prop where
 o:∃r,fP X (compareOp op) r/\bH X.K cA p (r2 r)
structure JQ(X:Cx)(cA:Cl)(op:Operator)(p:Pr):Prop where
 o:∃r,fP X (binaryOp op) r/\bH X.K cA p (r2 r)
structure JN(X:Cx)(cA:Cl)(kx:Expr)(k:Kd):Prop where
 o:PE X kx (tC (Ft cA k))
structure JR(X:Cx)(EX:XS):Prop where
 o:Raises X EX
structure JH(X:Cx):Prop where
 o:PassesOwn (model X.prog X.w) X.A X.env X.xe
structure JY(X:Cx)(tg:Expr)(g:TG):Prop where
 o:PG X tg g
noncomputable def lH:NameKind->Bool
 |.local=>true
 |.cell=>true
 |_=>false
noncomputable def CK:NameKind->Bool
 |.local=>true
 |.cell=>true
 |.free=>true
 |_=>false
section
variable {X:Cx}{cA:Cl}{aq:Nat->Nat->Bool}{aj:Bool}{F:Fn}{EX:XS}{a b c d e:Expr}{A B C Dd E':E}{pos p p2 apos:Pos}{es:List Expr}{Xs:Es}{x y:Str}{k k':NameKind}{q q1 q2 q3:Pr}{fz:Bool}
theorem Zf(h:scope.names.lookup x=some k)(hk:(match k with|.free=>false|_=>true)=true):JK (X.blk scope cl N Cc s3 H3 fp ao) x k:=
 ⟨Nu (by intro z;subst z;cases hk) h⟩
theorem Zg(i:Nat)(hN:X.N[i]?=some x)(h:JK X x k)(hv:CK k=true)(hd:okN x=true):JE X cA aq aj F EX (.Name x pos) (.v i):=
 ⟨Ym i hN (by cases k<;>first|exact .inl h.o|exact .inr (.inl h.o)|exact .inr (.inr h.o)|cases hv) (vd hd).1 (vd hd).2.1⟩
theorem zox(i:Nat)(hN:N[i]?=some x)(h:scope.names.lookup x=some .free)(hd:okN x=true):JE (X.blk scope cl N Cc s3 H3 fp ao) cA aq aj F EX (.Name x pos) (.v i):=
 ⟨Ym i hN (.inr (M5 h)) (vd hd).1 (vd hd).2.1⟩
theorem aO{i j p}:JE X cA aq aj F EX (.Constant (.int i) j p) (.c (.int i)):=⟨zl2⟩
theorem rC{i j p}:JE X cA aq aj F EX (.Constant (.bool i) j p) (.c (.bl i)):=⟨znt⟩
theorem vo{j p}:JE X cA aq aj F EX (.Constant .none j p) (.c .non):=⟨zly⟩
theorem Nv(h:∃t,X.mg x=some (.int i t))(hg:JK X x .globalImplicit)(hd:okN x=true):JE X cA aq aj F EX (.Name x pos) (.c (.int i)):=by
 obtain⟨t,h⟩:=h;exact⟨zjO hg.o h (vd hd).1⟩
theorem nR:JQ X cA .Add .add:=⟨_,zfF,zlO⟩
theorem zT:JQ X cA .Sub .aq:=⟨_,zk8,zkW⟩
theorem yh:JQ X cA .Mult .mul:=⟨_,zmh,zmw⟩
theorem FJ:JQ X cA .FloorDiv .fdiv:=⟨_,zji,ziP⟩
theorem zU:JQ X cA .Mod .mod:=⟨_,zkR,zmb⟩
theorem zm7:JQ X cA .Pow .pow:=⟨_,zlp,zlm⟩
theorem dj(h:JQ X cA op q)(ha:JE X cA aq aj F EX a A)(hb:JE X cA aq aj F EX b B):JE X cA aq aj F EX (.BinOp a op b pos) (.pr fz q (.cons A (.cons B .nil))):=by
 obtain⟨r,h1,h2⟩:=h.o;exact⟨zk1 h1 h2 ha.o hb.o⟩
theorem zV(ha:JE X cA aq aj F EX a A):JE X cA aq aj F EX (.UnaryOp .USub a pos) (.pr true .neg (.cons A .nil)):=⟨znQ zkv zlr ha.o⟩
theorem Zh(ha:JE X cA aq aj F EX a A):JE X cA aq aj F EX (.UnaryOp .Not a pos) (.not A):=⟨zlg ha.o⟩
theorem wj{op}(ha:JE X cA aq aj F EX a A):JE X cA aq aj F EX (.BoolOp op [a] pos) A:=⟨zlF ha.o⟩
theorem yj{rest:List Expr}(ha:JE X cA aq aj F EX a A)(hb:JE X cA aq aj F EX (.BoolOp .And (b::rest) pos) B):JE X cA aq aj F EX (.BoolOp .And (a::b::rest) pos) (.and A B):=⟨zmn ha.o hb.o⟩
theorem Zi{rest:List Expr}(ha:JE X cA aq aj F EX a A)(hb:JE X cA aq aj F EX (.BoolOp .Or (b::rest) pos) B):JE X cA aq aj F EX (.BoolOp .Or (a::b::rest) pos) (.or A B):=⟨znw ha.o hb.o⟩
theorem oY{k:Nat}(hr:bx k X.A):JP X cA .Eq .eq:=⟨_,zmx (yg hr),zna⟩
theorem Ny{k:Nat}(hr:bx k X.A):JP X cA .NotEq .ne:=⟨_,zkL (yg hr),znN⟩
theorem FN{k:Nat}(hr:bx k X.A):JP X cA .Lt .lt:=⟨_,HD.or (zkD (by have:=yg hr;lia)),znb⟩
theorem Zj:JP X cA .LtE .le:=⟨_,znr,zm1⟩
theorem S8:JP X cA .Gt .gt:=⟨_,zmZ,znK⟩
theorem S9:JP X cA .GtE .ge:=⟨_,zmT,znR⟩
theorem CP{k:Nat}(hr:bx k X.A):JP X cA .In .inn:=⟨_,zli (yg hr),znh⟩
noncomputable def mC:Expr->Bool
 |.Set _ _ _=>false
 |_=>true
theorem vp(h:mC b=true):behindInMarks op b=false:=by cases b<;>first|rfl|cases h
theorem yp(ho:JP X cA op q)(ha:JE X cA aq aj F EX a A)(hb:JE X cA aq aj F EX b B)(h1:mC b=true:=by rfl):JE X cA aq aj F EX (.Compare a [op] [b] pos) (.pr true q (.cons A (.cons B .nil))):=by
 obtain⟨r,h2,h3⟩:=ho.o;exact⟨zms h2 h3 ha.o hb.o (vp h1)⟩
theorem h_(ho:JP X cA op q)(ha:JE X cA aq aj F EX a A)(hb:JE X cA aq aj F EX b B)(h1:mC b=true:=by rfl):JT X cA aq aj F EX (.Compare a [op] [b] pos) (.pr true q (.cons A (.cons B .nil))):=by
 obtain⟨r,h2,h3⟩:=ho.o;exact⟨zlW h2 h3 ha.o hb.o (vp h1)⟩
theorem znV(h1:JP X cA op q1)(h2:JP X cA op' q2)(ha:JE X cA aq aj F EX a A)(hb:JE X cA aq aj F EX b B)(hc:JE X cA aq aj F EX c C)(hm:mC c=true:=by rfl):JE X cA aq aj F EX (.Compare a [op,op'] [b,c] pos) (.xT q1 q2 A B C):=by
 obtain⟨r,h3,h4⟩:=h1.o;obtain⟨r',h5,h6⟩:=h2.o;exact⟨zlh h3 h4 h5 h6 ha.o hb.o hc.o (vp hm)⟩
theorem zm9{j p}(ha:JE X cA aq aj F EX a A):JE X cA aq aj F EX (.Compare a [.Is] [.Constant .none j p] pos) (.pr true .xQ (.cons A .nil)):=⟨zkt ha.o⟩
theorem Zk{j p}(ha:JE X cA aq aj F EX a A):JE X cA aq aj F EX (.Compare a [.IsNot] [.Constant .none j p] pos) (.pr true .sG (.cons A .nil)):=⟨ziX ha.o⟩
theorem znd{j p}(ha:JE X cA aq aj F EX a A):JT X cA aq aj F EX (.Compare a [.Is] [.Constant .none j p] pos) (.pr true .xQ (.cons A .nil)):=⟨zmz ha.o⟩
theorem Nz{j p}(ha:JE X cA aq aj F EX a A):JT X cA aq aj F EX (.Compare a [.IsNot] [.Constant .none j p] pos) (.pr true .sG (.cons A .nil)):=⟨ziT ha.o⟩
noncomputable def zW:Expr->Bool
 |.Call _ _ _ _=>true
 |.Name _ _=>true
 |.Subscript _ _ _=>true
 |.Attribute _ _ _=>true
 |_=>false
theorem lB(ha:JE X cA aq aj F EX a A)(he:zW a=true:=by rfl):JT X cA aq aj F EX a A:=⟨zlB ha.o (by cases a<;>first|(intro _;rfl)|cases he)⟩
theorem pJ(ha:JT X cA aq aj F EX a A):JT X cA aq aj F EX (.UnaryOp .Not a pos) (.not A):=⟨zmA ha.o⟩
theorem CQ(ha:JT X cA aq aj F EX a A):JW X cA aq aj F EX (.BoolOp .And [a] pos) A:=⟨ziW ha.o⟩
theorem J1(ha:JT X cA aq aj F EX a A):JW X cA aq aj F EX (.BoolOp .Or [a] pos) A:=⟨zld ha.o⟩
theorem CT{rest:List Expr}(ha:JT X cA aq aj F EX a A)(hb:JW X cA aq aj F EX (.BoolOp .And (b::rest) pos) B):JW X cA aq aj F EX (.BoolOp .And (a::b::rest) pos) (.and A B):=⟨zlq ha.o hb.o⟩
theorem J2{rest:List Expr}(ha:JT X cA aq aj F EX a A)(hb:JW X cA aq aj F EX (.BoolOp .Or (b::rest) pos) B):JW X cA aq aj F EX (.BoolOp .Or (a::b::rest) pos) (.or A B):=⟨znp ha.o hb.o⟩
theorem tX(h:JW X cA aq aj F EX a A):JT X cA aq aj F EX a A:=⟨zoz h.o⟩
theorem NK(hc:JT X cA aq aj F EX c C)(ha:JE X cA aq aj F EX a A)(hb:JE X cA aq aj F EX b B):JE X cA aq aj F EX (.IfExp c a b pos) (.ite C A B):=⟨zkP hc.o ha.o hb.o⟩
theorem aK:JA X cA aq aj F EX [] .nil:=⟨zkA⟩
theorem aF(ha:JE X cA aq aj F EX a A)(hr:JA X cA aq aj F EX es Xs)(hs:aC a=true:=by rfl):JA X cA aq aj F EX (a::es) (.cons A Xs):=⟨zjF ha.o hr.o (bf hs)⟩
theorem jw{k}(ha:JA X cA aq aj F EX es Xs)(hz:decide (Es.len Xs<=sizeLine)=true:=by rfl):JE X cA aq aj F EX (.Tuple es k pos) (.tup Xs):=⟨zl0 ha.o (jP hz)⟩
theorem qD(ha:JA X cA aq aj F EX es Xs)(hz:decide (Es.len Xs<=sizeLine)=true:=by rfl):JE X cA aq aj F EX (.List es pos) (.lst fz Xs):=⟨zk7 ha.o (jP hz)⟩
noncomputable def vq:Expr->Bool
 |.Constant _ _ _=>true
 |.Name _ _=>true
 |.Call _ _ _ _=>true
 |.BinOp _ _ _ _=>true
 |.UnaryOp _ _ _=>true
 |.Subscript _ _ _=>true
 |.IfExp _ _ _ _=>true
 |.Attribute _ _ _=>true
 |.Compare _ _ _ _=>true
 |.BoolOp _ _ _=>true
 |_=>false
theorem cW(ha:JE X cA aq aj F EX a A)(hb:JE X cA aq aj F EX b B)(hs:vq b=true:=by rfl):JE X cA aq aj F EX (.Subscript a b pos) (.pr true .ix (.cons A (.cons B .nil))):=⟨zm6 znS ha.o hb.o (by cases b<;>first|(intro _ _;rfl)|cases hs)⟩
theorem Zm:JO X cA aq aj F EX none .no:=⟨znc⟩
theorem NP(ha:JE X cA aq aj F EX a A):JO X cA aq aj F EX (some a) (.yes A):=⟨zlX ha.o⟩
theorem S_{lo hi:Option Expr}{Lo Hi:Eo}(ha:JE X cA aq aj F EX a A)(hl:JO X cA aq aj F EX lo Lo)(hh:JO X cA aq aj F EX hi Hi):JE X cA aq aj F EX (.Subscript a (.Slice lo hi none p2) pos) (.sl fz A Lo Hi):=⟨znB ha.o hl.o hh.o⟩
theorem zlG(f:Nat){cm:Bool}{k:Nat}{fa:Addr}{fd:FuncData}{ps:List Str}(Fo:cF X.prog X.w X.K X.mg X.base (fj X.prog X.w) cm k fa fd ps (lG X.K cA (F f)))(je:cm=true->X.aj=true)(hr:bx k X.A)(hm:X.mg x=some (.ref fa))(hk:PySem.W.keepIn X.K (.ref fa)=true)(hb:Binds X.K fd ps [])(R:JR X EX)(hg:JK X x .globalImplicit)
  (ha:JA X cA aq aj F EX (e::es) Xs) (hd:okN x=true) (he:aC e=true:=by rfl) (cU:es.all aC=true:=by rfl) :
  JE X cA aq aj F EX (.Call (.Name x p) (e::es) [] pos) (.call f Xs):=⟨zjd Fo je hr hg.o hm hk hb R.o ha.o (vd hd).1 (bf he) (bD cU)⟩
theorem zX(hv:Ft cA kd=.ty T)(hm:X.mg x=none)(hb:bootBuiltins x=some (.type T))(hg:JK X x .globalImplicit)(hd:okN x=true):JN X cA (.Name x pos) kd:=⟨λao s Z H Q I h=>by
 rw[hv] at h;exact vX I hg.o hm hb ⟨.ty T,H,I,rfl,h⟩ (vd hd).2.2 (vd hd).1⟩
theorem zY(h0:(u5 kd).isSome=true)(hm:X.mg "isinstance"=none)(hg:JK X "isinstance" .globalImplicit)(ha:JE X cA aq aj F EX a A)(hk:JN X cA kx kd)(h1:aC a=true:=by rfl)(h2:aC kx=true:=by rfl):JE X cA aq aj F EX (.Call (.Name "isinstance" p) [a,kx] [] pos) (.mW A kd):=
 ⟨zmu (λz=>by rw[z] at h0;cases h0) hg.o hm ha.o hk.o (bf h1) (bf h2) (bD (by rw[yW,h2];rfl))⟩
theorem yq(hm:X.mg "len"=none)(hg:JK X "len" .globalImplicit)(ha:JA X cA aq aj F EX (e::es) Xs)(he:aC e=true:=by rfl)(cU:es.all aC=true:=by rfl):JE X cA aq aj F EX (.Call (.Name "len" p) (e::es) [] pos) (.pr fz .len Xs):=⟨zO zdE zlL hg.o hm PySem.boot_len ha.o RB RB (bf he) (bD cU)⟩
theorem zno(hm:X.mg "abs"=none)(hg:JK X "abs" .globalImplicit)(ha:JA X cA aq aj F EX (e::es) Xs)(he:aC e=true:=by rfl)(cU:es.all aC=true:=by rfl):JE X cA aq aj F EX (.Call (.Name "abs" p) (e::es) [] pos) (.pr fz .abs Xs):=⟨zO zhK zmE hg.o hm PyProof.Rows.boot_abs ha.o RB RB (bf he) (bD cU)⟩
theorem zmp(hc:X.aj=true)(hm:X.mg "max"=none)(hg:JK X "max" .globalImplicit)(ha:JA X cA aq aj F EX (e::es) Xs)(he:aC e=true:=by rfl)(cU:es.all aC=true:=by rfl):JE X cA aq aj F EX (.Call (.Name "max" p) (e::es) [] pos) (.pr fz .max2 Xs):=⟨zO (zfy hc) zjn hg.o hm PyProof.Rows.boot_max ha.o RB RB (bf he) (bD cU)⟩
theorem Tc(hc:X.aj=true)(hm:X.mg "min"=none)(hg:JK X "min" .globalImplicit)(ha:JA X cA aq aj F EX (e::es) Xs)(he:aC e=true:=by rfl)(cU:es.all aC=true:=by rfl):JE X cA aq aj F EX (.Call (.Name "min" p) (e::es) [] pos) (.pr fz .min2 Xs):=⟨zO (zfN hc) zkn hg.o hm PyProof.Rows.boot_min ha.o RB RB (bf he) (bD cU)⟩
theorem zk3(hm:X.mg "int"=none)(hg:JK X "int" .globalImplicit)(ha:JA X cA aq aj F EX (e::es) Xs)(he:aC e=true:=by rfl)(cU:es.all aC=true:=by rfl):JE X cA aq aj F EX (.Call (.Name "int" p) (e::es) [] pos) (.pr fz .xR Xs):=⟨R7 zgR zjJ hg.o hm PyProof.Rows.boot_int ha.o RB RB (bf he) (bD cU)⟩
theorem zhz(hm:X.mg "divmod"=none)(hg:JK X "divmod" .globalImplicit)(ha:JA X cA aq aj F EX (e::es) Xs)(he:aC e=true:=by rfl)(cU:es.all aC=true:=by rfl):JE X cA aq aj F EX (.Call (.Name "divmod" p) (e::es) [] pos) (.pr fz .divmod Xs):=⟨zO zdT zgw hg.o hm PyProof.Rows.boot_divmod ha.o RB RB (bf he) (bD cU)⟩
theorem NQ(hc:X.aj=true)(hm:X.mg "all"=none)(hg:JK X "all" .globalImplicit)(ha:JA X cA aq aj F EX (e::es) Xs)(he:aC e=true:=by rfl)(cU:es.all aC=true:=by rfl):JE X cA aq aj F EX (.Call (.Name "all" p) (e::es) [] pos) (.pr fz .all Xs):=⟨zO (zfO hc) zlc hg.o hm PyProof.Rows.boot_all ha.o RB RB (bf he) (bD cU)⟩
theorem zlI(hm:X.mg "list"=none)(hg:JK X "list" .globalImplicit)(ha:JA X cA aq aj F EX (e::es) Xs)(he:aC e=true:=by rfl)(cU:es.all aC=true:=by rfl):JE X cA aq aj F EX (.Call (.Name "list" p) (e::es) [] pos) (.pr fz .list Xs):=⟨R7 zdi zi3 hg.o hm Ze ha.o RB RB (bf he) (bD cU)⟩
theorem CV(hm:X.mg "tuple"=none)(hg:JK X "tuple" .globalImplicit)(ha:JA X cA aq aj F EX (e::es) Xs)(he:aC e=true:=by rfl)(cU:es.all aC=true:=by rfl):JE X cA aq aj F EX (.Call (.Name "tuple" p) (e::es) [] pos) (.pr fz .tuple Xs):=⟨R7 zcE zh2 hg.o hm J0 ha.o RB RB (bf he) (bD cU)⟩
theorem zjZ{k:Nat}(hr:bx k X.A)(ho:JE X cA aq aj F EX a A)(ha:JA X cA aq aj F EX (e::es) Xs)(cQ:attributeBase a "count" X.env (eval a X.env)=eval a X.env:=by rfl)(p8:decide (es.length<28)=true:=by rfl)(cR:(apos.endLine==pos.line)=true:=by rfl)(hs:aC e=true:=by rfl)(gq:es.all aC=true:=by rfl) :
  JE X cA aq aj F EX (.Call (.Attribute a "count" apos) (e::es) [] pos) (.meth true .count .list A Xs):=⟨zjU (k:=.list) Pb PySem.F.slot_list_count PySem.F.type_list_count (zgr (by have:=hr.un;lia)) zhs ho.o ha.o cQ (m_ hs gq p8) cR (bf hs) (bD gq)⟩
theorem J3(ho:JE X cA aq aj F EX a A)(hb:JE X cA aq aj F EX b B)(cQ:attributeBase a "append" X.env (eval a X.env)=eval a X.env:=by rfl)(cR:(apos.endLine==pos.line)=true:=by rfl)(hs:aC b=true:=by rfl) :
  JE X cA aq aj F EX (.Call (.Attribute a "append" apos) [b] [] pos) (.push A B):=⟨zjT ho.o hb.o cQ (m_ hs rfl rfl) cR (bf hs) rfl⟩
theorem zm8(ho:JE X cA aq aj F EX a A)(cQ:attributeBase a "pop" X.env (eval a X.env)=eval a X.env:=by rfl)(cR:(apos.endLine==pos.line)=true:=by rfl) :
  JE X cA aq aj F EX (.Call (.Attribute a "pop" apos) [] [] pos) (.pop A):=⟨zkB ho.o cQ cR⟩
theorem oZ:JC X cA aq aj F EX [] .no:=⟨zlw⟩
theorem tY(h:JT X cA aq aj F EX c C):JC X cA aq aj F EX [c] (.yes C):=⟨zjN h.o⟩
theorem jM(ha:JE X cA aq aj F EX a A):JI X cA aq aj F EX tg a (.seq A):=⟨zlv ha.o⟩
theorem FP(hmg:X.mg "range"=none)(qz:JK X "range" .globalImplicit)(ha:JE X cA aq aj F EX a A)(hb:JE X cA aq aj F EX b B)(h1:aC a=true:=by rfl)(h2:aC b=true:=by rfl):JI X cA aq aj F EX tg (.Call (.Name "range" p) [a,b] [] pos) (.rg A B):=⟨znf qz.o hmg ha.o hb.o (bf h1) (bf h2)⟩
theorem vA(hmg:X.mg "range"=none)(qz:JK X "range" .globalImplicit)(hb:JE X cA aq aj F EX b B)(h2:aC b=true:=by rfl):JI X cA aq aj F EX tg (.Call (.Name "range" p) [b] [] pos) (.rg (.c (.int 0)) B):=⟨zk0 qz.o hmg hb.o (bf h2)⟩
noncomputable def J5(scope:Scope)(x:Str):Bool:=match scope.names.lookup x with
 |some .local=>true
 |some .cell=>true
 |_=>false
theorem FQ(h:J5 scope x=true):Loc (X.blk scope cl N Cc s3 H3 fp ao).env.scope x/\((X.blk scope cl N Cc s3 H3 fp ao).fn x=true\/(X.blk scope cl N Cc s3 H3 fp ao).env.scope.names.lookup x=some .local):=by
 unfold J5 at h;split at h
 ·rename_i z;exact⟨.inl (lookup_relabel_local z),.inr (lookup_relabel_local z)⟩
 ·rename_i z;exact⟨.inr (Nu (by intro y;cases y) z),.inl (by show (scope.names.lookup x==some NameKind.cell)=true;rw[z];rfl)⟩
 ·cases h
theorem jh(i:Nat)(Td:N.Nodup)(hi:N[i]?=some x)(hl:J5 scope x=true):JY (X.blk scope cl N Cc s3 H3 fp ao) (.Name x tp) (dO i):=
 ⟨Mr Td hi (FQ hl).1 (FQ hl).2⟩
theorem NZ(i j:Nat)(hc:X.aj=true)(Td:N.Nodup)(hi:N[i]?=some x)(hj:N[j]?=some y)(hl:J5 scope x=true)(v9:J5 scope y=true):JY (X.blk scope cl N Cc s3 H3 fp ao) (.Tuple [.Name x px,.Name y py] kt tp) (uy X.K 2 (iH (dO i) (iH (dO j) ux))):=
 ⟨S5 (X:=X.blk scope cl N Cc s3 H3 fp ao) hc Td hi hj (FQ hl).1 (FQ v9).1 (FQ hl).2 (FQ v9).2⟩
theorem wu{scope:Scope}{XN:List Str}{M0 N:List Str}{fr:List Nat}(h:frB scope XN N fr=true):(M0++N).length=M0.length+fr.length/\∀(i:Nat) (y:Str) (j:Nat),(M0++N)[M0.length+i]?=some y->fr[i]?=some j->scope.names.lookup y=some .free/\XN[j]?=some y:=by
 obtain⟨l,q⟩:=Zb h;refine⟨by rw[pG,l],λi y j e1 e2=>q i y j ?_ e2⟩;rw[pK gV] at e1;rw[show M0.length+i-M0.length=i by lia] at e1;exact e1
theorem nj{elt iter tg:Expr}{ifs:List Expr}{scope:Scope}{cond:Eo}{aL:List Nat}{g:TG}{w:Wk}(sc:Scope)(XN M0 N:List Str)(fr:List Nat)(hc:X.aj=true)(CW:X.env.scope=sc)(oV:X.N=XN)(hB:qC sc scope=true)(hf:frB scope XN N fr=true)(hT:dW X.K cA g aL)(cV:aL.all (λi=>decide (i<M0.length))=true)
  (hi:JI X cA aq aj F EX tg iter w) (hg:∀cl C s3 H3 fp ao,JY (X.blk scope cl (M0++N) C s3 H3 fp ao) tg g)
  (ht:∀cl C s3 H3 fp ao,JC (X.blk scope cl (M0++N) C s3 H3 fp ao) cA aq aj F (λ_ _ _ _=>False) ifs cond) (he:∀cl C s3 H3 fp ao,JE (X.blk scope cl (M0++N) C s3 H3 fp ao) cA aq aj F (λ_ _ _ _=>False) elt B)
  (hs:∀x,foldedSetIterable iter X.env x=pure x:=by intro _;rfl):JE X cA aq aj F EX (.ListComp elt [⟨tg,iter,ifs,0⟩] scope pos) (.comp fz B aL w fr M0.length cond):=
 ⟨Y8 hc (b_.of (CW▸hB)) hi.o (wu (oV▸hf)).1 (wu (oV▸hf)).2 (λa b c d e f=>(hg a b c d e f).o) hT (λi hi=>jP (iz.mp cV i hi)) (λa b c d e f=>(ht a b c d e f).o) (λa b c d e f=>(he a b c d e f).o) hs⟩
theorem Kaa{scope eY:Scope}{env:Env}(h:b_ scope eY):b_ (relabel scope env) eY:=⟨h.kind,h.XD,λy hy z=>by
 rcases h.free y hy z with q|q
 ·exact .inl (Nu (by intro y;cases y) q)
 ·exact M5 q,h.loc⟩
theorem Zn{elt iter tg:Expr}{ifs:List Expr}{scope eY:Scope}{cond:Eo}{aL:List Nat}{g:TG}{w:Wk}{cl:List (Str×Addr)}{zZ:List Str}{Cc:Addr}{s3:Shared}{H3:Hp}{fp:List Addr}{ao:List (Addr×Obj)}(XN M0 N:List Str)(fr:List Nat)(hc:X.aj=true)(oV:zZ=XN)(hB:qC scope eY=true)(hf:frB eY XN N fr=true)(hT:dW X.K cA g aL)(cV:aL.all (λi=>decide (i<M0.length))=true)
  (hi:JI (X.blk scope cl zZ Cc s3 H3 fp ao) cA aq aj F EX tg iter w) (hg:∀cl2 C s3' J6 fp' jq,JY ((X.blk scope cl zZ Cc s3 H3 fp ao).blk eY cl2 (M0++N) C s3' J6 fp' jq) tg g)
  (ht:∀cl2 C s3' J6 fp' jq,JC ((X.blk scope cl zZ Cc s3 H3 fp ao).blk eY cl2 (M0++N) C s3' J6 fp' jq) cA aq aj F (λ_ _ _ _=>False) ifs cond) (he:∀cl2 C s3' J6 fp' jq,JE ((X.blk scope cl zZ Cc s3 H3 fp ao).blk eY cl2 (M0++N) C s3' J6 fp' jq) cA aq aj F (λ_ _ _ _=>False) elt B)
  (hs:∀x,foldedSetIterable iter (X.blk scope cl zZ Cc s3 H3 fp ao).env x=pure x:=by intro _;rfl):JE (X.blk scope cl zZ Cc s3 H3 fp ao) cA aq aj F EX (.ListComp elt [⟨tg,iter,ifs,0⟩] eY pos) (.comp fz B aL w fr M0.length cond):=by
 subst oV;exact⟨Y8 (X:=X.blk scope cl zZ Cc s3 H3 fp ao) hc (Kaa (b_.of hB)) hi.o (wu hf).1 (wu hf).2 (λa b c d e f=>(hg a b c d e f).o) hT (λi hi=>jP (iz.mp cV i hi)) (λa b c d e f=>(ht a b c d e f).o) (λa b c d e f=>(he a b c d e f).o) hs⟩
theorem FT:JR X (λ_ _ _ _=>False):=⟨zfV⟩
theorem dI{P:Program}{w:World}{K:W.Frag}{mg:Str->Option Value}{base:Heap}{N:List Str}{qual:Str}{scope:Scope}{f:Addr}{cd:Value}{A:Around}{outer:List Env}{s:Shared}{H:Hp}{E:XK}{cm:Bool} :
  JR (dJ (fj P w) P w K mg base N qual scope f cd A outer s H E cm) (λ_ C dx H'=>E C dx H'):=⟨zfq⟩
theorem o7{CX:rZ}{P:Program}{w:World}{K:W.Frag}{mg:Str->Option Value}{base:Heap}{N:List Str}{qual:Str}{scope:Scope}{f:Addr}{cd:Value}{A:Around}{outer:List Env}{s:Shared}{H:Hp}{E:XK}{cm:Bool} :
  JH (dJ CX P w K mg base N qual scope f cd A outer s H E cm):=⟨PassesOwn.leaving⟩
end
section
variable {X:Cx}{cA:Cl}{aq:Nat->Nat->Bool}{aj:Bool}{F:Bool->Fn}{EX:XS}{a b c d e:Expr}{A B C:E}{pos p p2:Pos}{st:Stmt}{sts body orelse:List Stmt}{m:St}{ms mb me mh:cB}{es:List Expr}{Xs:Es}{x y n:Str}{k k':NameKind}
theorem wz(h:JK X x k)(hv:lH k=true):Loc X.env.scope x:=by cases k<;>first|exact .inl h.o|exact .inr h.o|cases hv
theorem wA(h:JK X x k)(hv:X.fn x=true\/k=.local):X.fn x=true\/X.env.scope.names.lookup x=some .local:=by
 rcases hv with hv|hv
 ·exact .inl hv
 ·subst hv;exact .inr h.o
theorem aN:JB X cA aq aj F EX [] .nil:=⟨zjs⟩
theorem aH(h1:JS X cA aq aj F EX st m)(h2:JB X cA aq aj F EX sts ms):JB X cA aq aj F EX (st::sts) (.cons m ms):=⟨zhD h1.o h2.o⟩
theorem Zo:JS X cA aq aj F EX st .no:=⟨znL⟩
theorem yr(ha:JE X cA aq aj (F aj) EX a A)(hs:swapsWith a none pos.line X.env=pure false:=by rfl):JS X cA aq aj F EX (.Expr a pos) (.ex A):=⟨zmR ha.o hs⟩
theorem cg(ha:JE X cA aq aj (F aj) EX a A):JS X cA aq aj F EX (.Return (some a) pos) (.ret A):=⟨zmC ha.o⟩
theorem iu(i:Nat)(hN:X.N.Nodup)(hi:X.N[i]?=some x)(hx:JK X x k)(hl:lH k=true)(ha:JE X cA aq aj (F aj) EX a A)(hs:swapsWith a (some (.Name x p)) pos.line X.env=pure false:=by rfl)(hf:X.fn x=true\/k=.local:=by first|exact .inl rfl|exact .inr rfl):JS X cA aq aj F EX (.Assign [.Name x p] a pos) (.asg (.nm i) A):=
 ⟨zkF hN hi (wz hx hl) ha.o hs (wA hx hf)⟩
theorem FW{elt iter tg:Expr}{ifs:List Expr}{scope:Scope}{cond:Eo}{aL:List Nat}{g:TG}{w:Wk}{fz:Bool}{py spos:Pos}(i:Nat)(sc:Scope)(XN M0 N:List Str)(fr:List Nat)(hN:X.N.Nodup)(sE:X.N[i]?=some y)(hx:JK X y k)(hl:lH k=true)(hc:X.aj=true)(CW:X.env.scope=sc)(oV:X.N=XN)(hB:qC sc scope=true)(hf:frB scope XN N fr=true)(hT:dW X.K cA g aL)(cV:aL.all (λi=>decide (i<M0.length))=true)
  (hi:JI X cA aq aj (F aj) EX tg iter w) (hg:∀cl C s3 H3 fp ao,JY (X.blk scope cl (M0++N) C s3 H3 fp ao) tg g)
  (ht:∀cl C s3 H3 fp ao,JC (X.blk scope cl (M0++N) C s3 H3 fp ao) cA aq aj (F aj) (λ_ _ _ _=>False) ifs cond) (he:∀cl C s3 H3 fp ao,JE (X.blk scope cl (M0++N) C s3 H3 fp ao) cA aq aj (F aj) (λ_ _ _ _=>False) elt B)
  (uP:swapsWith (.ListComp elt [⟨tg,iter,ifs,0⟩] scope pos) (some (.Name y py)) spos.line X.env=pure true:=by rfl) (Te:X.fn y=true\/k=.local:=by first|exact .inl rfl|exact .inr rfl) (hs:∀x,foldedSetIterable iter X.env x=pure x:=by intro _;rfl) :
  JS X cA aq aj F EX (.Assign [.Name y py] (.ListComp elt [⟨tg,iter,ifs,0⟩] scope pos) spos) (.asg (.nm i) (.comp fz B aL w fr M0.length cond)):=
 ⟨zkm hc hN sE (wz hx hl) (wA hx Te) (b_.of (CW▸hB)) hi.o (wu (oV▸hf)).1 (wu (oV▸hf)).2 (λa b c d e f=>(hg a b c d e f).o) hT (λi hi=>jP (iz.mp cV i hi)) (λa b c d e f=>(ht a b c d e f).o) (λa b c d e f=>(he a b c d e f).o) uP hs⟩
theorem J7(i j:Nat){k0}(hc:X.aj=true)(dF:aj=true)(hN:X.N.Nodup)(hi:X.N[i]?=some x)(hj:X.N[j]?=some y)(hx:JK X x k)(hy:JK X y k')(Tf:lH k=true)(Ti:lH k'=true)(ha:JE X cA aq aj (F aj) EX a A)
  (yc:X.fn x=true\/k=.local:=by first|exact .inl rfl|exact .inr rfl) (yd:X.fn y=true\/k'=.local:=by first|exact .inl rfl|exact .inr rfl)
  (hs:swapsWithSole [.Tuple [.Name x px,.Name y py] k0 pt] a pos.line X.env=pure false:=by rfl) (hw:swappedStores [.Tuple [.Name x px,.Name y py] k0 pt] a X.env=pure none:=by rfl) (h1:(assignEach [.Tuple [.Name x px,.Name y py] k0 pt] X.env).map (·.2)=[assign (.Tuple [.Name x px,.Name y py] k0 pt) X.env]:=by rfl) :
  JS X cA aq aj F EX (.Assign [.Tuple [.Name x px,.Name y py] k0 pt] a pos) (.asg (.tp [i,j]) A):=⟨zj0 hc dF hN hi hj (wz hx Tf) (wz hy Ti) (wA hx yc) (wA hy yd) ha.o hs hw h1⟩
theorem FZ(hO:JE X cA aq aj (F aj) EX oo O)(hI:JE X cA aq aj (F aj) EX ii I')(ha:JE X cA aq aj (F aj) EX a A)
  (S6:∀v,assign (.Subscript oo ii p) X.env v=(do
   let obj <-holding [v] (eval oo X.env)
   let at_ <-holding [v,obj] (eval ii X.env)
   standAt p
   holding [v,obj,at_] (setItem obj at_ v)
   release [v,obj,at_] []):=by intro _;rfl) (hs:swapsWithSole [.Subscript oo ii p] a pos.line X.env=pure false:=by rfl) (hw:swappedStores [.Subscript oo ii p] a X.env=pure none:=by rfl)
  (h1:(assignEach [.Subscript oo ii p] X.env).map (·.2)=[assign (.Subscript oo ii p) X.env]:=by rfl):JS X cA aq aj F EX (.Assign [.Subscript oo ii p] a pos) (.asg (.aq O I') A):=⟨zkz hO.o hI.o ha.o S6 hs hw h1⟩
theorem Zq(i j:Nat){kt k2 uz}(hc:X.aj=true)(dF:aj=true)(hN:X.N.Nodup)(hi:X.N[i]?=some x)(hj:X.N[j]?=some y)(wX:i≠j)(hx:JK X x .local)(hy:JK X y .local)
  (ha:JE X cA aq aj (F aj) EX a A) (hb:JE X cA aq aj (F aj) EX b B) (hw:swappedStores [.Tuple [.Name x px,.Name y py] kt pt] (.Tuple [a,b] k2 uz) X.env=pure (some [x,y])) (h1:aC a=true:=by rfl) (h2:aC b=true:=by rfl)
  (hs:swapsWithSole [.Tuple [.Name x px,.Name y py] kt pt] (.Tuple [a,b] k2 uz) pos.line X.env=pure false:=by rfl):JS X cA aq aj F EX (.Assign [.Tuple [.Name x px,.Name y py] kt pt] (.Tuple [a,b] k2 uz) pos) (.par i j A B):=
 ⟨zkK hc dF hN hi hj wX hx.o hy.o ha.o hb.o (bf h1) (bf h2) hw hs⟩
theorem zmO(i:Nat)(hN:X.N.Nodup)(hi:X.N[i]?=some x)(hx:JK X x k)(hl:lH k=true)(ha:JE X cA aq aj (F aj) EX a A)(hf:X.fn x=true\/k=.local:=by first|exact .inl rfl|exact .inr rfl)(hd:okN x=true:=by decide +kernel):JS X cA aq aj F EX (.AugAssign (.Name x p) .Add a pos) (.aug i A):=
 ⟨zkE (pos':=pos) hN hi (wz hx hl) ha.o (wA hx hf) (zlQ hN hi (wz hx hl) ha.o zlC (wA hx hf))⟩
theorem iC(hc:JT X cA aq aj (F aj) EX c C)(ht:JB X cA aq aj F EX body mb)(he:JB X cA aq aj F EX orelse me):JS X cA aq aj F EX (.If c body orelse pos) (.iff C mb me):=⟨zne hc.o ht.o he.o⟩
theorem Tj(hp:JH X)(hc:JT X cA aq aj (F aj) EX c C)(hb:JB X cA aq aj F EX body mb):JS X cA aq aj F EX (.While c body [] pos) (.wh C mb):=⟨zha hp.o hc.o hb.o⟩
theorem tZ(i:Nat)(hN:X.N.Nodup)(hi:X.N[i]?=some x)(hx:JK X x k)(hl:lH k=true)(hf:X.fn x=true\/k=.local:=by first|exact .inl rfl|exact .inr rfl):JG X cA aq aj F EX (.Name x pos) (.nm i):=⟨zjm hN hi (wz hx hl) (wA hx hf)⟩
theorem Zr(i j:Nat){k0}(hc:X.aj=true)(dF:aj=true)(hN:X.N.Nodup)(hi:X.N[i]?=some x)(hj:X.N[j]?=some y)(hx:JK X x k)(hy:JK X y k')(Tf:lH k=true)(Ti:lH k'=true)(yc:X.fn x=true\/k=.local:=by first|exact .inl rfl|exact .inr rfl)(yd:X.fn y=true\/k'=.local:=by first|exact .inl rfl|exact .inr rfl) :
  JG X cA aq aj F EX (.Tuple [.Name x px,.Name y py] k0 pos) (.tp [i,j]):=⟨zjQ hc dF hN hi hj (wz hx Tf) (wz hy Ti) (wA hx yc) (wA hy yd)⟩
theorem rE(hp:JH X)(hc:X.aj=true)(dF:aj=true)(ha:JI X cA aq aj (F aj) EX tg a w)(hg:JG X cA aq aj F EX tg t)(hb:JB X cA aq aj F EX body mb)(hs:∀x,foldedSetIterable a X.env x=pure x:=by intro _;rfl):JS X cA aq aj F EX (.For tg a body [] pos) (.fr t w mb):=
 ⟨zlR hp.o hc dF ha.o hg.o hb.o hs⟩
end
theorem Zu{P:Program}{w:World}{K:W.Frag}{mg:Str->Option Value}{base:Heap}{cA:Cl}{aq:Nat->Nat->Bool}{T:Nat->Option Df}{x qual:Str}{st:Stmt}{f:Addr}{fd:FuncData}{N ps:List Str}{k n:Nat}{cm:Bool}{df:Df}(F:oX K x qual st f fd)(S:bW N ps (au st))(hT:T n=some df)(hp:df.dD=ps.length)(hm:df.many=N.length)
  (hb:∀(cdv:Value) (A:Around) (outer:List Env) (s:Shared) (H:Hp) (E:XK),bx k (A.deeper (envOfC qual (au st) s.heap.objs.size f cdv))->
   JB (dJ (fj P w) P w K mg base N qual (au st) f cdv A outer s H E cm) cA aq cm (λc=>call aq T k c) (λ_ C dx H'=>E C dx H') (aJ st) df.body) :
  cF P w K mg base (fj P w) cm (k+1) f fd ps (lG K cA (call aq T (k+1) cm n)):=zlP F S hT hp hm λcdv A outer s H E hr=>(hb cdv A outer s H E hr).o
section
variable {K:W.Frag}{cA:Cl}{U:Ph}{H:Hp}{kvs:iU}{xs:m6}{k:List Kx}
theorem iV.len(r:iV K cA U H kvs xs):kvs.length=xs.length:=by
 induction r with
 |nil=>rfl
 |cons _ _ _ _ ih=>rw[gZ,gZ,ih]
theorem zjp{j:List Kx}{a:Addr}{u:Value}{r:m6}:atKey ((j,a,u)::r) k=if j=k then some (a,u) else atKey r k:=by
 unfold atKey;rw[List.find?_cons];by_cases e:j=k
 ·simp[e]
 ·simp[e]
theorem iV.at(r:iV K cA U H kvs xs):(bL k kvs=none/\atKey xs k=none)\/∃d p v,bL k kvs=some d/\atKey xs k=some p/\RelV v p.2/\Rep K cA U H d v:=by
 induction r with
 |nil=>exact .inl ⟨rfl,rfl⟩
 |@cons j d ka u v r xs hk hu hv q ih=>
  rw[zjp];unfold bL;by_cases e:j=k
  ·rw[if_pos e,if_pos e];exact .inr ⟨d,(ka,u),v,rfl,rfl,hu,hv⟩
  ·rw[if_neg e,if_neg e];exact ih
theorem iV.isSome(r:iV K cA U H kvs xs):(atKey xs k).isSome=(bL k kvs).isSome:=by
 rcases r.at (k:=k) with ⟨a,b⟩|⟨d,p,v,a,b,_⟩<;>rw[a,b]<;>rfl
theorem iV.app{kvs':iU}{xs':m6}(r:iV K cA U H kvs xs)(r':iV K cA U H kvs' xs'):iV K cA U H (kvs++kvs') (xs++xs'):=by
 induction r with
 |nil=>exact r'
 |cons a b c _ ih=>exact .cons a b c ih
theorem iV.put{ka:Addr}{u:Value}{v:V}{d:D}(r:iV K cA U H kvs xs)(hk:Rep K cA U H (iM k) (.ref ka))(hu:RelV v u)(hv:Rep K cA U H d v):iV K cA U H (jJ k d kvs) (storedH xs k ka u):=by
 unfold jJ storedH;rw[r.isSome];by_cases e:(bL k kvs).isSome=true
 ·rw[if_pos e,if_pos e];clear e
  induction r with
  |nil=>exact .nil
  |@cons j d' Zv u' v' r xs Cw hu' QB q ih=>
   rw[jo,jo];show iV K cA U H ((if j=k then (j,d) else (j,d'))::_) ((if j=k then (j,Zv,u) else (j,Zv,u'))::_);by_cases e:j=k
   ·rw[if_pos e,if_pos e];exact .cons Cw hu hv ih
   ·rw[if_neg e,if_neg e];exact .cons Cw hu' QB ih
 ·rw[if_neg e,if_neg e];exact r.app (.cons hk hu hv .nil)
end
section
variable {X:Cx}{cA:Cl}{ao:List (Addr×Obj)}{Z:L2.St}{H:Hp}{s:Shared}{U:Ph}{a:Addr}{kvs:iU}{xs:m6}{k:List Kx}{y v:V}{u:Value}{A:Around}{E:Value->Shared->Prop}
theorem Ga(I:Inv X ao Z H s)(e:H a=some (sX a xs))(r:iV X.K cA U H kvs xs):(a==sysModules)=false/\xs.length<=sizeLine/\s.heap.DictOfH (gM X.prog X.w) a xs:=by
 have z:=(I.hok a _ e).1;obtain⟨h1,h2,o,es,ep,h3,h4,h5,h6,h7⟩:=z;refine⟨h1,h2,o,es,ep,h3,h4,h5,h6,?_,h7⟩;clear h2 h6 h7 e
 induction r with
 |nil=>exact λx hx=>nomatch hx
 |cons hk hu hv q ih=>exact List.forall_mem_cons.mpr ⟨qy I hk rfl,ih⟩
theorem J8{d:D}(hk:Rep X.K cA U H (iM k) y):∃b,y=.ref b:=by cases hk;exact⟨_,rfl⟩
noncomputable def tGx(K:W.Frag)(cA:Cl)(td ty:TE):TE:=λZ H Q=>td Z H λx H1=>ty Z H1 λy H2=>∃a U kvs xs k d,x=.ref a/\H2 a=some (sX a xs)/\iV K cA U H2 kvs xs/\Rep K cA U H2 (iM k) y/\bL k kvs=some d/\∀v,Rep K cA U H2 d v->Q v H2
noncomputable def Tn(K:W.Frag)(cA:Cl)(f:Bool->Bool)(ty td:TE):TE:=λZ H Q=>ty Z H λy H1=>td Z H1 λx H2=>∃a U kvs xs k,x=.ref a/\H2 a=some (sX a xs)/\iV K cA U H2 kvs xs/\Rep K cA U H2 (iM k) y/\Q (.bl (f (bL k kvs).isSome)) H2
noncomputable def sPx(K:W.Frag)(cA:Cl)(td ty tv:TE):TS:=λD Z H=>tv Z H λv H1=>td Z H1 λx H2=>ty Z H2 λy H3=>∃a b U kvs xs k d,x=.ref a/\H3 a=some (sX a xs)/\iV K cA U H3 kvs xs/\y=.ref b/\Rep K cA U H3 (iM k) y/\Rep K cA U H3 d v/\kvs.length<sizeLine /\
 ∀u,RelV v u->D.nx Z (upd H3 a (sX a (storedH xs k b u)))
variable {o i value:Expr}{pos pos':Pos}{td ty tv:TE}
theorem zmW(hu:X.A.units+5<cLine)(ho:PE X o td)(hi:PE X i ty)(hs:Cv i):PE X (.Subscript o i pos) (tGx X.K cA td ty):=by
 intro ao s Z H Q I h;refine zjr PySem.F.slot_dict_getitem.lookup hs (aQ (ho ao s Z H _ I h) λu s1 hx=>eG hx λx H1 I1 rx q1=>aQ (hi ao s1 Z H1 _ I1 q1) λiv s2 ⟨y,H2,I2,ry,a,U,kvs,xs,k,d,ex,ea,rr,rk,g,q2⟩=>?_);subst ex;obtain rfl:u=Value.ref a:=rx;obtain⟨b,rfl⟩:=J8 (d:=d) rk;obtain rfl:iv=Value.ref b:=ry;obtain⟨z1,z2,dd⟩:=Ga I2 ea rr;rcases rr.at (k:=k) with ⟨z,_⟩|⟨d',p,v,z,hp,rv,rd⟩
 ·rw[g] at z;cases z
 ·rw[g] at z;cases z;exact⟨dd.typeIs,wpAny_getItem_heap (knd:=gM X.prog X.w) (show X.A.units+1+4<cLine by lia) (qy I2 rk rfl) dd hp ⟨v,H2,I2.tok _,rv,q2 v rd⟩⟩
theorem znA(hu:X.A.units+5<cLine)(hi:PE X i ty)(ho:PE X o td):PC X .In i o (Tn X.K cA id ty td):=by
 intro ao s Z H Q I h;refine aQ (hi ao s Z H _ I h) λiv s1 hx=>eG hx λy H1 I1 ry q1=>aQ (ho ao s1 Z H1 _ I1 q1) λu s2 ⟨x,H2,I2,rx,a,U,kvs,xs,k,ex,ea,rr,rk,q2⟩=>?_;subst ex;obtain rfl:u=Value.ref a:=rx;obtain⟨b,rfl⟩:=J8 (d:=.non) rk;obtain rfl:iv=Value.ref b:=ry;obtain⟨z1,z2,dd⟩:=Ga I2 ea rr;exact wpAny_in_heap (knd:=gM X.prog X.w) (show X.A.units+1+4<cLine by lia) (qy I2 rk rfl) z1 dd ⟨_,H2,I2.tok _,by rw[rr.isSome];rfl,q2⟩
theorem zlu(hu:X.A.units+5<cLine)(hi:PE X i ty)(ho:PE X o td):PC X .NotIn i o (Tn X.K cA not ty td):=by
 intro ao s Z H Q I h;refine aQ (hi ao s Z H _ I h) λiv s1 hx=>eG hx λy H1 I1 ry q1=>aQ (ho ao s1 Z H1 _ I1 q1) λu s2 ⟨x,H2,I2,rx,a,U,kvs,xs,k,ex,ea,rr,rk,q2⟩=>?_;subst ex;obtain rfl:u=Value.ref a:=rx;obtain⟨b,rfl⟩:=J8 (d:=.non) rk;obtain rfl:iv=Value.ref b:=ry;obtain⟨z1,z2,dd⟩:=Ga I2 ea rr;exact wpAny_notIn_heap (knd:=gM X.prog X.w) (show X.A.units+1+4<cLine by lia) (qy I2 rk rfl) z1 dd ⟨_,H2,I2.tok _,by rw[rr.isSome];rfl,q2⟩
theorem ze4{xs:m6}{b:Addr}{u:Value}:(storedH xs k b u).length<=xs.length+1:=by
 unfold storedH
 split
 ·rw[fZ];lia
 ·simp
theorem zmK(hu:X.A.units+5<cLine)(ho:PE X o td)(hi:PE X i ty)(hv:PE X value tv)(hs:swapsWith value (some (.Subscript o i pos')) pos.line X.env=pure false):PS X (.Assign [.Subscript o i pos'] value pos) (sPx X.K cA td ty tv):=by
 intro ao s Z H D I h;refine wpAny_Assign_Subscript (aQ (hv ao s Z H _ I h) λr s1 hx=>eG hx λv H1 I1 rv q1=>aQ (ho ao s1 Z H1 _ I1 q1) λu s2 hx=>eG hx λx H2 I2 rx q2=>aQ (hi ao s2 Z H2 _ I2 q2) λiv s3 ⟨y,H3,I3,ry,a,b,U,kvs,xs,k,d,ex,ea,rr,ey,rk,rd,hl,q3⟩=>?_) hs;subst ex ey;obtain rfl:u=Value.ref a:=rx;obtain rfl:iv=Value.ref b:=ry;obtain⟨z1,z2,dd⟩:=Ga I3 ea rr;have v9:xs.length+1<=sizeLine:=by rw[<-rr.len];exact hl
 refine wpAny_setItem_heap (knd:=gM X.prog X.w) (hsz:=z2) (show X.A.units+1+4<cLine by lia) (qy I3 rk rfl) dd λh' dd' hs'=>⟨Z,_,?_,q3 r rv⟩;obtain⟨q,es,ep,hq,h2,h3,h4,_,h5⟩:=dd';exact zi0 I3 (by rw[ea];exact True.intro) hs' ⟨q,hq⟩ ⟨⟨z1,jU ze4 v9,q,es,ep,hq,h2,h3,h4,h5⟩,⟨q,hq⟩,λh1 h2 ⟨a1,a2,o,es,ep,a3,a4⟩ kp=>⟨a1,a2,o,es,ep,kp o a3,a4⟩⟩
theorem zmM:PE X (.Dict [] [] pos) (λ_ H Q=>∀p,H p=none->Q (.ref p) (upd H p (sX p []))):=λao s Z H Q I h=>
 wpAny_Dict_empty ⟨.ref s.heap.objs.size,_,I.laid (a:=s.heap.objs.size) (o:=sX s.heap.objs.size []) (t':=s.toks) (λ_ _ q=>cD _ q) (cj _)
  ⟨⟨DN.mpr (Ne.symm (cY I.big)),rR _,_,#[],0,eN _ rfl,⟨rfl,rfl,rfl⟩,rfl,rfl,Ar⟩,⟨_,eN _ rfl⟩,λh1 h2 ⟨a1,a2,o,es,ep,a3,a4⟩ kp=>⟨a1,a2,o,es,ep,kp o a3,a4⟩⟩,rfl,h _ (I.hok.fresh (cj _))⟩
end
section
variable {X:Cx}{cA:Cl}{aq:Nat->Nat->Bool}{aj:Bool}{F:Fn}{EX:XS}{a b:Expr}{A B:E}{pos p:Pos}{K:W.Frag}{U:Ph}{H:Hp}{s:S}
theorem N5{β:Type}{x:Xv}{v:V}{k:List Kx->M β}{P:β->S->Ph->Hp->Prop}{Ee:Nat->List D->S->Ph->Hp->Prop}(r:aU K cA U H x v)(h:Run K cA (M.bd (key x) k) U H s P Ee):∃kx,Rep K cA U H (iM kx) v/\Run K cA (k kx) U H s P Ee:=by
 cases r with
 |l _=>exact h.elim
 |@d y _ r=>
  obtain⟨kx,e,h2⟩:=Run.m8 (o:=kOf y) h;rw[zmj e] at r;exact⟨kx,r,h2⟩
theorem J9{β:Type}{x:Xv}{v:V}{k:Nat×iU->M β}{P:β->S->Ph->Hp->Prop}{Ee:Nat->List D->S->Ph->Hp->Prop}(hS:aD K cA U H s)(r:aU K cA U H x v)(h:Run K cA (M.bd (cC x) k) U H s P Ee) :
  ∃n ad kvs xs,x=.l n/\v=.ref ad/\s[n]?=some (.dct kvs)/\U.l[n]?=some ad/\H ad=some (sX ad xs)/\iV K cA U H kvs xs/\Run K cA (k (n,kvs)) U H s P Ee:=by
 cases r with
 |d _=>exact h.elim
 |@l n ad hl=>
  unfold Run M.bd cC at h;dsimp only at h;cases e:s[n]? with
  |none=>rw[e] at h;exact h.elim
  |some o=>
   rw[e] at h;cases o with
   |dct kvs=>
    obtain⟨xs,q1,q2⟩:=hS.obj n _ _ e hl;exact⟨n,ad,kvs,xs,rfl,rfl,e,hl,q1,q2,h⟩
   |_=>exact h.elim
theorem Zw{k:Nat}(hr:bx k X.A)(ha:JE X cA aq aj F EX a A)(hb:JE X cA aq aj F EX b B)(hs:Cv b:=by exact λ_ _=>rfl):JE X cA aq aj F EX (.Subscript a b pos) (.jH A B):=⟨PE.weak (zmW (cA:=cA) (by have:=hr.un;lia) ha.o hb.o hs) λZ H Q hh=>un hh λU J s hL hS h=>by
 refine aX hL hS h λx H1 U1 d1 s1 x1 hL1 aG r1 h1=>aX hL1 aG h1 λy H2 U2 d2 s2 x2 hL2 aM r2 h2=>?_;obtain⟨kx,rk,h3⟩:=N5 r2 h2;obtain⟨n,ad,kvs,xs,_,rfl,e1,e2,e3,rr,h4⟩:=J9 aM (r1.mono x2 aG.lz) h3;have h4:Run X.K cA (M.opt ((bL kx kvs).map Xv.d)) U2 H2 s2 (λd _ U' H'=>∀v,aU X.K cA U' H' d v->Q v H') (eX X.K cA EX Z):=h4;cases e:bL kx kvs with
 |none=>rw[e] at h4;exact h4.elim
 |some d=>
  rw[e] at h4;exact⟨ad,U2,kvs,xs,kx,d,rfl,e3,rr,rk,e,λv rv=>h4.bC aM v (.d rv)⟩⟩
theorem Zx{b':Bool}{Z:L2.St}{Q:VK}(f:Bool->Bool)(hf:∀c,f c=(c==b'))(hh:tE X.K cA EX (ev aq aj F (.sJ b' A B)) Z H Q):Tn X.K cA f (tE X.K cA EX (ev aq aj F A)) (tE X.K cA EX (ev aq aj F B)) Z H Q:=un hh λU J s hL hS h=>by
 refine aX hL hS h λx H1 U1 d1 s1 x1 hL1 aG r1 h1=>aX hL1 aG h1 λy H2 U2 d2 s2 x2 hL2 aM r2 h2=>?_;obtain⟨kx,rk,h3⟩:=N5 (r1.mono x2 aG.lz) h2;obtain⟨n,ad,kvs,xs,_,rfl,e1,e2,e3,rr,h4⟩:=J9 aM r2 h3;refine⟨ad,U2,kvs,xs,kx,rfl,e3,rr,rk,?_⟩;rw[hf];exact h4.bC aM _ (.d (.bl _))
theorem Tq{m:Vs->M Xv}{Z:L2.St}{Q:Bool->Hp->Prop}(hh:qx K cA EX (λJ=>M.bd (m J) bool) Z H Q):tE K cA EX m Z H λx H1=>∃c,x=.bl c/\Q c H1:=un hh λU J s hL hS h=>
 ⟨U,J,s,hL,hS,h.bd.imp λd s1 U1 H1 ⟨_,r1,h1⟩ v rv=>zhi r1 rv h1⟩
theorem znM{k:Nat}(hr:bx k X.A)(ha:JE X cA aq aj F EX a A)(hb:JE X cA aq aj F EX b B)(h1:mC b=true:=by rfl):JT X cA aq aj F EX (.Compare a [.In] [b] pos) (.sJ true A B):=⟨PT.weak (Mj (znA (cA:=cA) (by have:=hr.un;lia) ha.o hb.o) (vp h1)) λZ H Q hh=>Zx id (λc=>by cases c<;>rfl) (Tq hh)⟩
theorem zkM{k:Nat}(hr:bx k X.A)(ha:JE X cA aq aj F EX a A)(hb:JE X cA aq aj F EX b B)(h1:mC b=true:=by rfl):JT X cA aq aj F EX (.Compare a [.NotIn] [b] pos) (.sJ false A B):=⟨PT.weak (Mj (zlu (cA:=cA) (by have:=hr.un;lia) ha.o hb.o) (vp h1)) λZ H Q hh=>Zx not (λc=>by cases c<;>rfl) (Tq hh)⟩
theorem Zy:JE X cA aq aj F EX (.Dict [] [] pos) .oJ:=⟨PE.weak zmM λZ H Q hh=>un hh λU J s hL hS h p hp=>
 h (U.add p) _ (Ext.add hp) (hS.Jm hp ⟨[],iD,.nil⟩) _ (.l (by show (U.l++[p])[s.length]?=_;rw[<-hS.len];simp))⟩
end
section
variable {X:Cx}{cA:Cl}{aq:Nat->Nat->Bool}{aj:Bool}{F:Bool->Fn}{EX:XS}{a oo ii:Expr}{A O I':E}{pos p:Pos}
theorem Zz{k:Nat}(hr:bx k X.A)(hO:JE X cA aq aj (F aj) EX oo O)(hI:JE X cA aq aj (F aj) EX ii I')(ha:JE X cA aq aj (F aj) EX a A)(hs:swapsWith a (some (.Subscript oo ii p)) pos.line X.env=pure false:=by rfl) :
  JS X cA aq aj F EX (.Assign [.Subscript oo ii p] a pos) (.dput O I' A):=⟨PS.weak (zmK (cA:=cA) (by have:=hr.un;lia) hO.o hI.o ha.o hs) λD Z H hh=>un hh λU J s hL hS h=>by
 refine aX hL hS (aV.ofM hL hS.lz h) λz H1 U1 d1 s1 x1 hL1 aG r1 h1=>?_;obtain⟨w,_,jY,h2⟩:=Ni r1 h1;refine aX hL1 aG h2 λx H2 U2 d2 s2 x2 hL2 aM r2 h3=>aX hL2 aM h3 λy H3 U3 d3 s3 x3 nQ fV r3 h4=>?_;obtain⟨kx,rk,h5⟩:=N5 r3 h4;obtain⟨n,ad,kvs,xs,_,rfl,e1,e2,e3,rr,h6⟩:=J9 fV (r2.mono x3 aM.lz) h5;obtain⟨b,rfl⟩:=J8 (X:=X) (d:=.non) rk;have ZC:=(jY.mono x2 aG.lz).mono x3 aM.lz;by_cases hz:kvs.length<sizeLine
 ·refine⟨ad,b,U3,kvs,xs,kx,w,rfl,e3,rr,rfl,rk,ZC,hz,λu ru=>?_⟩;have h6:Run X.K cA (if kvs.length<sizeLine then putD n (jJ kx w kvs) else M.no) U3 H3 s3 _ _:=h6;rw[if_pos hz] at h6;have x4:Ext U3 H3 U3 (upd H3 ad (sX ad (storedH xs kx b u))):=Ext.write e2 ⟨_,e3⟩;have rS:=fV.uV (so:=.dct (jJ kx w kvs)) (ho:=sX ad (storedH xs kx b u)) (fG.mp e1).1 e2 ⟨_,iD,(rr.put rk ru ZC).map λ_ _ r=>r.mono x4 fV.lz⟩;obtain⟨x5,r5,h7⟩:=h6 U3 _ x4 rS;exact h7 U3 _ Z Ext.refl rS (nQ.mono x4 fV.lz)
 ·have h6:Run X.K cA (if kvs.length<sizeLine then putD n (jJ kx w kvs) else M.no) U3 H3 s3 _ _:=h6;rw[if_neg hz] at h6;exact h6.elim⟩
end
end Mi
namespace Mi
open PySem PySem.Spec PyProof.Rows L2 PySem.W
theorem zmB{fd:FuncData}{x:Str}{st:Stmt}(h:nY fd=vU x st):fd=fnOf x x (aY st) (aJ st) (au st) .none fd.kwdefaults fd.doc fd.pyModule fd.annotations fd.code fd.closureTuple:=by
 cases fd;unfold nY vU at h;cases h;rfl
noncomputable def fW(K:Frag)(x:Str):Addr:=match wK K x with
 |some p=>p.1
 |none=>0
noncomputable def fdOf(K:Frag)(x:Str)(st:Stmt):FuncData:=match wK K x with
 |some p=>p.2
 |none=>vU x st
structure FnAt(K:Frag)(x:Str)(st:Stmt):Prop where
 ns:nsIn K mainGlobals x=some (some (.ref (fW K x)))
 fn:oX K x x st (fW K x) (fdOf K x st)
theorem zmQ{K:Frag}{x:Str}{st:Stmt}(h:(wK K x).map (λp=>nY p.2)=some (vU x st)):FnAt K x st:=by
 cases e:wK K x with
 |none=>rw[e] at h;cases h
 |some p=>
  rw[e] at h;have hp:nY p.2=vU x st:=cP h;have h1:fW K x=p.1:=by unfold fW;rw[e]
  have h2:fdOf K x st=p.2:=by unfold fdOf;rw[e]
  unfold wK at e;split at e
  ·rename_i f hf;split at e
   ·rename_i oc od fd sl hl;split at e
    ·rename_i hc;cases e;rw[fK] at hc;refine⟨by rw[h1];exact hf,?_⟩;rw[h1,h2];exact⟨⟨oc,od,_,_,_,_,_,_,sl,zmB hp,hl,hc.1⟩,hc.2⟩
    ·cases e
   ·cases e
  ·cases e
theorem FnAt.m{K:Frag}{x:Str}{st:Stmt}(F:FnAt K x st){h:Heap}{mg:Str->Option Value}(X:K.In h)(G:h.Ns mainGlobals mg):mg x=some (.ref (fW K x)):=mg_of X G F.ns
theorem zmV{K:Frag}{x:Str}(h:uq K x=true){hp:Heap}{mg:Str->Option Value}(X:K.In hp)(G:hp.Ns mainGlobals mg):mg x=some (.ref (dY K x)):=by
 refine mg_of X G ?_;unfold uq at h;unfold dY;split at h
 ·rename_i C e;rw[e]
 ·cases h
theorem Tr{K:Frag}{x:Str}{i:Int}(h:mH K (x,i)=true){hp:Heap}{mg:Str->Option Value}(X:K.In hp)(G:hp.Ns mainGlobals mg):∃t,mg x=some (.int i t):=by
 unfold mH at h;split at h
 ·rename_i j t e;rw[Aj] at h;subst h;exact⟨t,mg_of X G e⟩
 ·cases h
theorem qF{K:Frag}{x:Str}(h:qM K x=true){hp:Heap}{mg:Str->Option Value}(X:K.In hp)(G:hp.Ns mainGlobals mg):mg x=none:=by
 refine mg_none_of X G ?_;unfold qM at h;split at h
 ·rename_i e;exact e
 ·cases h
structure z_(l:Lk)(K:Frag):Prop where
 cl:∀x∈l.G3,uq K x=true
 cs:l.G3.isEmpty=true\/zj K (l.L K)=true
 ra:∀k∈l.Wt,GZ K (iW (l.L K) k)=true
 ca:∀k∈l.Wu,subB K (l.L K) k=true
 it:∀p∈l.wL,mH K p=true
 no:∀x∈l.Ws,qM K x=true
theorem Kac{l:Lk}{K:Frag}(h:l.good K=true):z_ l K:=by
 unfold Lk.good at h;simp only[fK,Lz,iz] at h;obtain⟨⟨⟨⟨⟨h1,h2⟩,h3⟩,h4⟩,h5⟩,h6⟩:=h;exact⟨h1,h2,h3,h4,h5,h6⟩
theorem yt{K:Frag}{x:Str}{st:Stmt}{f:Addr}{fd:FuncData}{p:Str}(F:oX K x x st f fd)(h:∀(kV doc pm:Value) (an:Option Addr) (cdv ct a:Value),bindArgs (fnOf x x (aY st) (aJ st) (au st) .none kV doc pm an cdv ct) ⟨[a],[]⟩=pure [(p,a)]):Binds K fd [p] []:=by
 obtain⟨oc,od,kV,doc,pm,an,cdv,ct,osl,rfl,lk,iG⟩:=F.ex;exact CJ (h kV doc pm an cdv ct)
theorem yu{K:Frag}{x:Str}{st:Stmt}{f:Addr}{fd:FuncData}{p q:Str}(F:oX K x x st f fd)(h:∀(kV doc pm:Value) (an:Option Addr) (cdv ct a b:Value),bindArgs (fnOf x x (aY st) (aJ st) (au st) .none kV doc pm an cdv ct) ⟨[a,b],[]⟩=pure [(p,a),(q,b)]):Binds K fd [p,q] []:=by
 obtain⟨oc,od,kV,doc,pm,an,cdv,ct,osl,rfl,lk,iG⟩:=F.ex;exact vg (h kV doc pm an cdv ct)
theorem yw{K:Frag}{x:Str}{st:Stmt}{f:Addr}{fd:FuncData}{p q t:Str}(F:oX K x x st f fd)(h:∀(kV doc pm:Value) (an:Option Addr) (cdv ct a b c:Value),bindArgs (fnOf x x (aY st) (aJ st) (au st) .none kV doc pm an cdv ct) ⟨[a,b,c],[]⟩=pure [(p,a),(q,b),(t,c)]):Binds K fd [p,q,t] []:=by
 obtain⟨oc,od,kV,doc,pm,an,cdv,ct,osl,rfl,lk,iG⟩:=F.ex;exact vh (h kV doc pm an cdv ct)
theorem yx{K:Frag}{x:Str}{st:Stmt}{f:Addr}{fd:FuncData}{p q t u:Str}(F:oX K x x st f fd)(h:∀(kV doc pm:Value) (an:Option Addr) (cdv ct a b c d:Value),bindArgs (fnOf x x (aY st) (aJ st) (au st) .none kV doc pm an cdv ct) ⟨[a,b,c,d],[]⟩=pure [(p,a),(q,b),(t,c),(u,d)]):Binds K fd [p,q,t,u] []:=by
 obtain⟨oc,od,kV,doc,pm,an,cdv,ct,osl,rfl,lk,iG⟩:=F.ex;exact vm (h kV doc pm an cdv ct)
theorem CZ{K:Frag}{x:Str}{st:Stmt}{f:Addr}{fd:FuncData}{p:Str}(F:oX K x x st f fd)(h:∀(kV doc pm:Value) (an:Option Addr) (cdv ct a:Value),bindArgs (fnOf x x (aY st) (aJ st) (au st) .none kV doc pm an cdv ct) ⟨[a],[]⟩=pure [(p,a)]):∀(s:Shared) (u:Value),BindsTo s fd ⟨[u],[]⟩ [(p,u)]:=by
 obtain⟨oc,od,kV,doc,pm,an,cdv,ct,osl,rfl,lk,iG⟩:=F.ex;exact λs u=>.of_eq (h kV doc pm an cdv ct u)
end Mi
namespace Mi
open PySem PySem.Spec PyProof.Rows L2
theorem ZD:∀{is:List Nat} {ds:List α} {J J':List (Option α)},gC is ds J=some J'->∀j,j∉is->J'[j]?=J[j]?
 |[],[],J,J',e,j,_=>by cases e;rfl
 |[],_::_,J,J',e,j,_=>by cases e
 |_::_,[],J,J',e,j,_=>by cases e
 |i::is,d::ds,J,J',e,j,h=>by
  have h1:=ZD (is:=is) (ds:=ds) e j (λz=>h (gY _ z));rw[h1,qL (λz=>h (by rw[z];exact lq))]
theorem zhW{tg:List Nat}{x:D}{J J':Vs}(e:fC tg x J=some J')(j:Nat)(h:j∉tg):J'[j]?=J[j]?:=by
 unfold fC at e;split at e
 ·cases e;rw[qL (λz=>h (by simp[z]))]
 ·cases ht:kj x with
  |none=>rw[ht] at e;cases e
  |some ds=>rw[ht] at e;exact ZD e j h
theorem zhj{many:Nat}{fr:List Nat}{J:Vs}{i:Nat}(h:i<many):(blk many fr J)[i]?=some none:=by
 unfold blk;rw[pF (by simpa using h),Af,if_pos h]
section
variable {K:W.Frag}{cA:Cl}{U U' kI:Ph}{H H' m7:Hp}{s:S}
theorem Ext.put{Dd:Addr}{us vs:List V}(x:Ext U H U' (upd H' Dd (.lst us)))(k:Keep U H Dd us):Ext U (upd H Dd (.lst vs)) U' (upd H' Dd (.lst vs)):=by
 obtain⟨r,er,hr⟩:=x.more;have nD:∀b,H b=none->b≠Dd:=λb e z=>by rw[z,k.at_] at e;cases e
 refine⟨⟨r,er,λb hb=>by rw[bT (nD b (hr b hb))];exact hr b hb⟩,x.qw,λa z=>?_,λa o e t n=>?_,λa o e=>?_⟩
 ·rcases x.kE a z with z|z
  ·exact .inl z
  ·exact .inr (by rw[bT (nD a z)];exact z)
 ·by_cases z:a=Dd
  ·subst z;rw[iD] at e ⊢;exact e
  ·rw[bT z] at e ⊢;have:=x.frame a o e t n;rw[bT z] at this;exact this
 ·by_cases z:a=Dd
  ·subst z;exact⟨_,iD⟩
  ·rw[bT z] at e ⊢;have:=x.stay a o e;rw[bT z] at this;exact this
theorem aW.slots{Z Z':L2.St}{J:Vs}{is:List Nat}(h:aW K cA U H Z J)(hl:Z'.length=Z.length)(he:∀j,j∉is->Z'[j]?=Z[j]?)(hn:∀i∈is,∀x,J[i]?≠some (some x)):aW K cA U H Z' J:=by
 refine⟨hl.trans h.1,λi x e=>?_⟩;obtain⟨v,a,b⟩:=h.2 i x e;exact⟨v,by rw[he i λz=>hn i z x e];exact a,b⟩
end
section
variable {X:Cx}{cA:Cl}{aq:Nat->Nat->Bool}{aj:Bool}{F:Fn}{EX:XS}{elt iter tg iter₂ tg₂:Expr}{A B:E}{pos p:Pos}{ifs:List Expr}{scope:Scope}{N:List Str}{cond:Eo}{fr aL aL₂:List Nat}{many:Nat}{fz:Bool}{w w₂:Wk}
theorem zjC{K:W.Frag}{g:TG}{U1 U':Ph}{H1 H':Hp}{s':S}{Z3:L2.St}{J':Vs}{Dd:Addr}{acc:List D}{vs:List V}{β:Type}{kk:List D->M β}{P:β->S->Ph->Hp->Prop}{Ee:Nat->List D->S->Ph->Hp->Prop}{c:Src}{n:Nat}{aZ:It}
  (hT:dW K cA g aL) (cV:∀i∈aL,i<many) (nM:∀i∈aL,∀x,J'[i]?≠some (some x)) (hD:H1 Dd=none) (x2:Ext U1 H1 U' H') (hL:aW K cA U' H' Z3 J') (aM:aD K cA U' H' s') (kp:Keep U' H' Dd vs) (pI:aB K cA U' H' acc vs) (hJ:jL K cA c U' H' aZ)
  (h:Run K cA (M.bd (walk c (bV aq aj F B cond aL J') (n+1) 0 acc) kk) U1 H1 s' P Ee) {Nn:L2.St->Hp->Prop}
  (hN:∀Z4 H4 U4 s4 J_ ZF,Z4.length=Z3.length->(∀i,i∉aL->Z4[i]?=Z3[i]?)->Ext U1 H1 U4 H4->Ext U' H' U4 (upd H4 Dd (.lst vs))->aD K cA U4 H4 s4->Keep U4 H4 Dd ZF->aB K cA U4 H4 J_ ZF->Run K cA (kk J_) U1 H1 s4 P Ee->Nn Z4 H4) :
  Ru g (qx K cA (λ_ _ _ _=>False) (mj aq aj F cond)) (tE K cA (λ_ _ _ _=>False) (ev aq aj F B)) Dd aZ Z3 H' Nn:=by
 refine⟨λi m Ka m7=>m=n+1-i/\(Ka.length=Z3.length/\∀j,j∉aL->Ka[j]?=Z3[j]?)/\∃kI s'' gR vs'',Ext U1 H1 kI m7/\Ext U' H' kI (upd m7 Dd (.lst vs))/\aD K cA kI m7 s''/\Keep kI m7 Dd vs''/\aB K cA kI m7 gR vs'' /\
  Run K cA (M.bd (walk c (bV aq aj F B cond aL J') (n+1-i) i gR) kk) U1 H1 s'' P Ee,⟨n+1,rfl,⟨rfl,λ_ _=>rfl⟩,U',s',acc,vs,x2,by rw[Fy kp.at_];exact Ext.refl,aM,kp,pI,h⟩,?_⟩
 rintro i m Ka m7 ⟨rfl,hZ,kI,s'',gR,vs'',x3,xb,fV,k3,r3,h3⟩;have ox:cO kI (upd m7 Dd (.lst vs)) m7:=λa o e nz=>by
  rw[bT (λz=>nz (by rw[z];exact k3.z))] at e;exact e
 have nQ:aW K cA kI m7 Ka J':=((hL.mono xb aM.lz).out ox).slots hZ.1 hZ.2 nM;cases ek:n+1-i with
 |zero=>rw[ek] at h3;exact h3.elim
 |succ k=>
  rw[ek] at h3;cases ei:c.at i s'' with
  |none=>
   exfalso
   unfold Run M.bd walk at h3;simp only[ei] at h3
  |some oi=>
   cases oi with
   |none=>
    refine .inl ⟨hJ.stop kI _ m7 s'' i xb ox fV ei,?_⟩;have h4:Run K cA (kk gR) U1 H1 s'' P Ee:=by
     unfold Run M.bd walk at h3;simp only[ei] at h3;exact h3
    exact hN Ka m7 kI s'' gR vs'' hZ.1 hZ.2 x3 xb fV k3 r3 h4
   |some xi=>
    refine .inr ⟨hJ.go kI _ m7 s'' i xi xb ox fV ei,λZ2 H2=>(Z2.length=Z3.length/\∀j,j∉aL->Z2[j]?=Z3[j]?)/\∃kI s'' gR vs'',Ext U1 H1 kI H2/\Ext U' H' kI (upd H2 Dd (.lst vs))/\aD K cA kI H2 s''/\Keep kI H2 Dd vs''/\aB K cA kI H2 gR vs'' /\
     Run K cA (M.bd (walk c (bV aq aj F B cond aL J') k (i+1) gR) kk) U1 H1 s'' P Ee,λZ2 H2 hn=>⟨k,by omega,by omega,hn.1,?_⟩,λv H2 hy=>?_⟩
    ·have:n+1-(i+1)=k:=by omega
     rw[this];exact hn.2
    ·obtain⟨gr,rx⟩:=hJ.uD kI _ m7 s'' i xi v H2 xb ox fV ei hy;have h4:Run K cA (M.bd (bV aq aj F B cond aL J' xi gR) λacc'=>M.bd (walk c (bV aq aj F B cond aL J') k (i+1) acc') kk) U1 H1 s'' P Ee:=by
      have h5:=SN (m':=M.bd (bV aq aj F B cond aL J' xi gR) λacc'=>walk c (bV aq aj F B cond aL J') k (i+1) acc') (by rw[walk];simp only[ei]) h3;rw[gQ] at h5;exact h5
     have kg:=k3.mono gr.ext;have xg:Ext U' H' kI (upd H2 Dd (.lst vs)):=xb.trans (Ext.put (us:=vs'') (vs:=vs) (by rw[Fy kg.at_];exact gr.ext) k3);refine sZ hT (x3.trans gr.ext) hD (nQ.mono gr.ext fV.lz) (fV.grow gr) kg (r3.mono gr.ext fV.lz) rx h4 λZ3' H3 U3 s3 m9 xZ l3 f3 x3' xe Tt k3' r3' h6=>⟨⟨l3.trans hZ.1,λj hj=>(f3 j hj).trans (hZ.2 j hj)⟩,U3,s3,m9,xZ,x3',xg.trans (Ext.put (us:=vs'') (vs:=vs) xe kg),Tt,k3',r3',h6⟩
where
 sZ {K:W.Frag} {g:TG} {U1 U':Ph} {H1 H2:Hp} {s':S} {Z':L2.St} {Jb:Vs} {Dd:Addr} {acc:List D} {vs:List V} {xi:D} {v:V} {β:Type} {kk:List D->M β} {P:β->S->Ph->Hp->Prop} {Ee:Nat->List D->S->Ph->Hp->Prop} (hT:dW K cA g aL)
  (x2:Ext U1 H1 U' H2) (hD:H1 Dd=none) (hL2:aW K cA U' H2 Z' Jb) (aM:aD K cA U' H2 s') (kp:Keep U' H2 Dd vs) (pI:aB K cA U' H2 acc vs) (rx:Rep K cA U' H2 xi v)
  (h:Run K cA (M.bd (bV aq aj F B cond aL Jb xi acc) kk) U1 H1 s' P Ee) {Nn:L2.St->Hp->Prop}
  (hN:∀Z3 H3 U3 s3 m9 xZ,Z3.length=Z'.length->(∀i,i∉aL->Z3[i]?=Z'[i]?)->Ext U1 H1 U3 H3->Ext U' H2 U3 (upd H3 Dd (.lst vs))->aD K cA U3 H3 s3->Keep U3 H3 Dd xZ->aB K cA U3 H3 m9 xZ->Run K cA (kk m9) U1 H1 s3 P Ee->Nn Z3 H3) :
  g v Z' H2 λZ3 H3=>qx K cA (λ_ _ _ _=>False) (mj aq aj F cond) Z3 H3 λok H4=>
   if ok=true then tE K cA (λ_ _ _ _=>False) (ev aq aj F B) Z3 H4 λy H5=>∃ys,H5 Dd=some (.lst ys)/\ys.length<sizeLine/\Nn Z3 (upd H5 Dd (.lst (ys++[y]))) else Nn Z3 H4:=by
  unfold bV at h;rw[gQ] at h;obtain⟨J',e1,h1⟩:=Run.m8 h;refine hT.run U' H2 s' Z' Jb J' xi v _ hL2 aM rx e1 λZ3 nQ Cz Fz=>?_;rw[gQ] at h1;refine⟨U',J',s',nQ,aM,(JM x2 h1).imp λok s4 U4 H4 ⟨x4,rm,h6⟩=>?_⟩;cases ok with
  |false=>
   refine iF (hN Z3 H4 U4 s4 acc vs Cz Fz (x2.trans x4) (by rw[Fy (kp.mono x4).at_];exact x4) rm (kp.mono x4) (pI.mono x4 aM.lz) ?_);rw[if_neg RB] at h6;exact h6
  |true=>
   rw[if_pos rfl,gQ] at h6;refine iT ⟨U4,J',s4,nQ.mono x4 aM.lz,rm,(JM (x2.trans x4) h6).imp λy s5 U5 H5 ⟨x5,JZ,h7⟩ u ru=>?_⟩;rw[gQ] at h7;have k5:=(kp.mono x4).mono x5;have r5:=(pI.mono x4 aM.lz).mono x5 rm.lz;have SQ:=(x2.trans x4).trans x5;obtain⟨dd,ey,rd,h8⟩ : ∃d,y=.d d/\Rep K cA U5 H5 d u/\Run K cA (M.bd (if acc.length<sizeLine then M.ret (acc++[d]) else M.no) kk) U1 H1 s5 P Ee:=by
    cases ru with
    |l _=>exact h7.elim
    |d r=>exact⟨_,rfl,r,h7⟩
   by_cases hz:acc.length<sizeLine
   ·rw[if_pos hz] at h8;refine⟨vs,k5.at_,by rw[<-r5.len];exact hz,?_⟩;have ox:cO U5 H5 (upd H5 Dd (.lst (vs++[u]))):=k5.ext.1;exact hN Z3 _ U5 s5 (acc++[dd]) (vs++[u]) Cz Fz (Ext.keep (vs:=vs) SQ hD) (by rw[Ww,Fy k5.at_];exact x4.trans x5) (JZ.keep k5) k5.ext.2 ((r5.app (.cons rd .nil)).out ox) h8
   ·rw[if_neg hz] at h8;exact h8.elim
noncomputable abbrev gU(aq:Nat->Nat->Bool)(aj:Bool)(F:Fn)(B:E)(cond:Eo)(aL aL₂:List Nat)(w₂:Wk)(Jb:Vs):D->List D->M (List D):=λd acc=>M.bd (M.opt (fC aL d Jb)) λJ'=>M.bd (M.qt (gK aq aj F w₂ J')) λqp=>
    walk qp.1 (bV aq aj F B cond aL₂ J') (qp.2+1) 0 acc
theorem ZG{g₁ g:TG}(hT:dW X.K cA g₁ aL)(cV:∀i∈aL,i<many)(hT₂:dW X.K cA g aL₂)(cV₂:∀i∈aL₂,i<many)(vB:∀i∈aL₂,i∉aL){Z:L2.St}{H:Hp}{Q:VK}(hh:tE X.K cA EX (ev aq aj F (.iJ fz B aL w aL₂ w₂ fr many cond)) Z H Q) :
  qe (tI X.K cA EX (gK aq aj F w)) (bB many fr) g₁ (tI X.K cA (λ_ _ _ _=>False) (gK aq aj F w₂)) g (qx X.K cA (λ_ _ _ _=>False) (mj aq aj F cond)) (tE X.K cA (λ_ _ _ _=>False) (ev aq aj F B)) Z H Q:=un hh λU J s hL hS h=>by
 by_cases dF:aj=true
 ·have h:Run X.K cA (if aj=true then M.bd (gK aq aj F w J) λcn=>M.bd (walk cn.1 (gU aq aj F B cond aL aL₂ w₂ (blk many fr J)) (cn.2+1) 0 []) λxs=>newL fz xs else M.no) U H s (λd _ U' H'=>∀v,aU X.K cA U' H' d v->Q v H') (eX X.K cA EX Z):=h;rw[if_pos dF] at h;refine⟨U,J,s,hL,hS,h.bd.imp λcn s1 U1 H1 ⟨x1,aG,h1⟩ aZ hJ=>?_⟩;have hL1:=hL.mono x1 hS.lz;obtain⟨c,n⟩:=cn;dsimp only at h1 hJ;intro Dd hD;obtain⟨x0,SX,k0⟩:=Y6 aG hD;have CG:∀{Z':L2.St},(Z'.length=many+fr.length/\∀i,many<=i->Z'[i]?=(bB many fr Z)[i]?)->∀{U' H'},Ext U1 H1 U' H'->aW X.K cA U' H' Z' (blk many fr J):=λ{Z'} hZ {U' H'} x=>Y4 (hL1.mono x aG.lz) hZ.1 λi j v e1 e2=>by
   rw[hZ.2 _ (by omega)];unfold bB;rw[pK Zaa,Gp,jD,show many+i-many=i by omega,e1];simp[e2]
  refine⟨λi m Z' H'=>m=n+1-i/\(Z'.length=many+fr.length/\∀i,many<=i->Z'[i]?=(bB many fr Z)[i]?)/\∃U' s' acc vs,Ext U1 H1 U' H'/\aD X.K cA U' H' s'/\Keep U' H' Dd vs/\aB X.K cA U' H' acc vs /\
   Run X.K cA (M.bd (walk c (gU aq aj F B cond aL aL₂ w₂ (blk many fr J)) (n+1-i) i acc) λxs=>newL fz xs) U1 H1 s' (λd _ U' H'=>∀v,aU X.K cA U' H' d v->Q v H') (eX X.K cA EX Z),⟨n+1,rfl,⟨by simp[bB],λi _=>rfl⟩,U1.mark Dd,s1,[],[],x0,SX,k0,.nil,h1⟩,?_⟩
  rintro i m Z' H' ⟨rfl,hZ,U',s',acc,vs,x2,aM,kp,pI,h3⟩;have hL2:=CG hZ x2;cases ek:n+1-i with
  |zero=>rw[ek] at h3;exact h3.elim
  |succ k=>
   rw[ek] at h3;cases ei:c.at i s' with
   |none=>
    exfalso
    unfold Run M.bd walk at h3;simp only[ei] at h3
   |some oi=>
    cases oi with
    |none=>
     refine .inl ⟨hJ.stop U' H' H' s' i x2 cO.refl aM ei,?_⟩;have h4:Run X.K cA (newL fz acc) U1 H1 s' (λd _ U' H'=>∀v,aU X.K cA U' H' d v->Q v H') (eX X.K cA EX Z):=by
      unfold Run M.bd walk at h3;simp only[ei] at h3;exact h3
     exact Y5 h4 x2 hD (aG.nz hD) aM kp pI
    |some xi=>
     refine .inr ⟨hJ.go U' H' H' s' i xi x2 cO.refl aM ei,λZ2 H2=>(Z2.length=many+fr.length/\∀i,many<=i->Z2[i]?=(bB many fr Z)[i]?)/\∃U' s' acc vs,Ext U1 H1 U' H2/\aD X.K cA U' H2 s'/\Keep U' H2 Dd vs/\aB X.K cA U' H2 acc vs /\
      Run X.K cA (M.bd (walk c (gU aq aj F B cond aL aL₂ w₂ (blk many fr J)) k (i+1) acc) λxs=>newL fz xs) U1 H1 s' (λd _ U' H'=>∀v,aU X.K cA U' H' d v->Q v H') (eX X.K cA EX Z),λZ2 H2 hn=>⟨k,by omega,by omega,hn.1,?_⟩,λv H2 hy=>?_⟩
     ·have:n+1-(i+1)=k:=by omega
      rw[this];exact hn.2
     ·obtain⟨gr,rx⟩:=hJ.uD U' H' H' s' i xi v H2 x2 cO.refl aM ei hy;have h4:Run X.K cA (M.bd (M.opt (fC aL xi (blk many fr J))) λJ'=>M.bd (M.qt (gK aq aj F w₂ J')) λqp=>M.bd (walk qp.1 (bV aq aj F B cond aL₂ J') (qp.2+1) 0 acc) λacc'=>M.bd (walk c (gU aq aj F B cond aL aL₂ w₂ (blk many fr J)) k (i+1) acc') λxs=>newL fz xs) U1 H1 s' (λd _ U' H'=>∀v,aU X.K cA U' H' d v->Q v H') (eX X.K cA EX Z):=by
       have h5:=SN (m':=M.bd (gU aq aj F B cond aL aL₂ w₂ (blk many fr J) xi acc) λacc'=>walk c (gU aq aj F B cond aL aL₂ w₂ (blk many fr J)) k (i+1) acc') (by rw[walk];simp only[ei]) h3;rw[gQ] at h5;unfold gU at h5;rw[gQ] at h5;have e:(λJ'=>M.bd (M.bd (M.qt (gK aq aj F w₂ J')) λqp=>walk qp.1 (bV aq aj F B cond aL₂ J') (qp.2+1) 0 acc) λacc'=>M.bd (walk c (gU aq aj F B cond aL aL₂ w₂ (blk many fr J)) k (i+1) acc') λxs=>newL fz xs)=λJ'=>M.bd (M.qt (gK aq aj F w₂ J')) λqp=>M.bd (walk qp.1 (bV aq aj F B cond aL₂ J') (qp.2+1) 0 acc) λacc'=>M.bd (walk c (gU aq aj F B cond aL aL₂ w₂ (blk many fr J)) k (i+1) acc') λxs=>newL fz xs:=funext λJ'=>gQ _ _ _;rw[<-e];exact h5
      obtain⟨J',e1,h6⟩:=Run.m8 h4;have fV:=aM.grow gr;refine hT.run U' H2 s' Z' _ J' xi v _ (hL2.mono gr.ext aM.lz) fV rx e1 λZ3 nQ Cz Fz=>?_;have kg:=kp.mono gr.ext;have rg:=pI.mono gr.ext aM.lz;have xg:=x2.trans gr.ext;refine⟨U',J',s',nQ,fV,(JM xg h6).imp λqp s4 U4 H4 ⟨x4,rm,h7⟩ aZ₂ hJ₂=>?_⟩;refine zjC (many:=many) hT₂ cV₂ (λi hi x z=>?_) hD (xg.trans x4) (nQ.mono x4 fV.lz) rm (kg.mono x4) (rg.mono x4 fV.lz) hJ₂ h7 λZ4 H5 U5 s5 Tv vs5 l5 f5 x5 _ JZ k5 r5 h8=>⟨⟨l5.trans (Cz.trans hZ.1),λi hi=>?_⟩,U5,s5,Tv,vs5,x5,JZ,k5,r5,h8⟩
      ·rw[zhW e1 i (vB i hi),zhj (cV₂ i hi)] at z;cases z
      ·rw[f5 i λz=>absurd (cV₂ i z) (Em.mpr hi),Fz i λz=>absurd (cV i z) (Em.mpr hi)];exact hZ.2 i hi
 ·have h:Run X.K cA (if aj=true then M.bd (gK aq aj F w J) λcn=>M.bd (walk cn.1 (gU aq aj F B cond aL aL₂ w₂ (blk many fr J)) (cn.2+1) 0 []) λxs=>newL fz xs else M.no) U H s (λd _ U' H'=>∀v,aU X.K cA U' H' d v->Q v H') (eX X.K cA EX Z):=h;rw[if_neg dF] at h;exact h.elim
theorem zhr(hc:X.aj=true)(B':b_ X.env.scope scope)(hi:SI X cA aq aj F EX tg iter w)(hN:N.length=many+fr.length)
  (pH:∀(i:Nat) (y:Str) (j:Nat),N[many+i]?=some y->fr[i]?=some j->scope.names.lookup y=some .free/\X.N[j]?=some y)
  (hg₁:∀cl C s3 H3 fp ao,PG (X.blk scope cl N C s3 H3 fp ao) tg g₁) (hT:dW X.K cA g₁ aL) (cV:∀i∈aL,i<many) (hi₂:∀cl C s3 H3 fp ao,SI (X.blk scope cl N C s3 H3 fp ao) cA aq aj F (λ_ _ _ _=>False) tg₂ iter₂ w₂)
  (hg:∀cl C s3 H3 fp ao,PG (X.blk scope cl N C s3 H3 fp ao) tg₂ g) (hT₂:dW X.K cA g aL₂) (cV₂:∀i∈aL₂,i<many) (vB:∀i∈aL₂,i∉aL)
  (ht:∀cl C s3 H3 fp ao,Cy (X.blk scope cl N C s3 H3 fp ao) cA aq aj F (λ_ _ _ _=>False) ifs cond) (he:∀cl C s3 H3 fp ao,SE (X.blk scope cl N C s3 H3 fp ao) cA aq aj F (λ_ _ _ _=>False) elt B)
  (hs₂:∀env x,foldedSetIterable iter₂ env x=pure x) (hs:∀x,foldedSetIterable iter X.env x=pure x:=by intro _;rfl):SE X cA aq aj F EX (.ListComp elt [⟨tg,iter,[],0⟩,⟨tg₂,iter₂,ifs,0⟩] scope pos) (.iJ fz B aL w aL₂ w₂ fr many cond):=
 PE.weak (zia hc B' hi (⟨hg₁,hi₂,hg,ht,he⟩ : j9 X elt tg tg₂ iter₂ ifs scope N g₁ (tI X.K cA (λ_ _ _ _=>False) (gK aq aj F w₂)) g (qx X.K cA (λ_ _ _ _=>False) (mj aq aj F cond)) (tE X.K cA (λ_ _ _ _=>False) (ev aq aj F B))) hs₂ (ZY:=bB many fr) (λZ=>by simp[bB,hN]) (λZ i x v e1 e2=>Nr pH Z i x v e1 e2) hs) λZ H Q hh=>ZG hT cV hT₂ cV₂ vB hh
end
section
variable {X:Cx}{cA:Cl}{aq:Nat->Nat->Bool}{aj:Bool}{F:Bool->Fn}{EX:XS}{elt iter tg iter₂ tg₂:Expr}{A B:E}{pos p:Pos}{ifs:List Expr}{scope:Scope}{N:List Str}{cond:Eo}{fr aL aL₂:List Nat}{many:Nat}{fz:Bool}{w w₂:Wk}{i:Nat}{y:Str}
theorem zhe(hc:X.aj=true)(oV:X.N.Nodup)(sE:X.N[i]?=some y)(hx:Loc X.env.scope y)(hf:X.fn y=true\/X.env.scope.names.lookup y=some .local)(B':b_ X.env.scope scope)(hi:SI X cA aq aj (F aj) EX tg iter w)(hN:N.length=many+fr.length)
  (pH:∀(i:Nat) (y:Str) (j:Nat),N[many+i]?=some y->fr[i]?=some j->scope.names.lookup y=some .free/\X.N[j]?=some y)
  (hg₁:∀cl C s3 H3 fp ao,PG (X.blk scope cl N C s3 H3 fp ao) tg g₁) (hT:dW X.K cA g₁ aL) (cV:∀i∈aL,i<many) (hi₂:∀cl C s3 H3 fp ao,SI (X.blk scope cl N C s3 H3 fp ao) cA aq aj (F aj) (λ_ _ _ _=>False) tg₂ iter₂ w₂)
  (hg:∀cl C s3 H3 fp ao,PG (X.blk scope cl N C s3 H3 fp ao) tg₂ g) (hT₂:dW X.K cA g aL₂) (cV₂:∀i∈aL₂,i<many) (vB:∀i∈aL₂,i∉aL)
  (ht:∀cl C s3 H3 fp ao,Cy (X.blk scope cl N C s3 H3 fp ao) cA aq aj (F aj) (λ_ _ _ _=>False) ifs cond) (he:∀cl C s3 H3 fp ao,SE (X.blk scope cl N C s3 H3 fp ao) cA aq aj (F aj) (λ_ _ _ _=>False) elt B)
  (uP:swapsWith (.ListComp elt [⟨tg,iter,[],0⟩,⟨tg₂,iter₂,ifs,0⟩] scope pos) (some (.Name y py)) spos.line X.env=pure true)
  (hs₂:∀env x,foldedSetIterable iter₂ env x=pure x) (hs:∀x,foldedSetIterable iter X.env x=pure x:=by intro _;rfl) :
  SS X cA aq aj F EX (.Assign [.Name y py] (.ListComp elt [⟨tg,iter,[],0⟩,⟨tg₂,iter₂,ifs,0⟩] scope pos) spos) (.asg (.nm i) (.iJ fz B aL w aL₂ w₂ fr many cond)):=
 PS.weak (zd4 hc oV sE hx hf B' hi (⟨hg₁,hi₂,hg,ht,he⟩ : j9 X elt tg tg₂ iter₂ ifs scope N g₁ (tI X.K cA (λ_ _ _ _=>False) (gK aq aj (F aj) w₂)) g (qx X.K cA (λ_ _ _ _=>False) (mj aq aj (F aj) cond)) (tE X.K cA (λ_ _ _ _=>False) (ev aq aj (F aj) B))) hs₂ (ZY:=bB many fr) (λZ=>by simp[bB,hN]) (λZ i x v e1 e2=>Nr pH Z i x v e1 e2) uP hs) λD Z H hh=>un hh λU J s hL hS h=>
  ZG hT cV hT₂ cV₂ vB ⟨U,J,s,hL,hS,(aV.ofM hL hS.lz h).imp λd s1 U1 H1 ⟨x1,aG,h1⟩ v rv=>h1 U1 H1 _ Ext.refl aG ((hL.mono x1 hS.lz).set rv)⟩
noncomputable def yC(aL aL₂:List Nat)(m:Nat):Bool:=aL.all (λi=>decide (i<m))&&aL₂.all (λi=>decide (i<m) && !aL.contains i)
theorem Gb(h:yC aL aL₂ m=true):(∀i∈aL,i<m)/\(∀i∈aL₂,i<m)/\∀i∈aL₂,i∉aL:=by
 unfold yC at h;simp only[fK,iz,Aj,Bool.not_eq_true'] at h;exact⟨h.1,λi hi=>(h.2 i hi).1,λi hi z=>by have:=(h.2 i hi).2;rw[List.contains_iff_mem.mpr z] at this;cases this⟩
noncomputable def qG:Expr->Bool
 |.Call _ _ _ _=>true
 |.Name _ _=>true
 |.BinOp _ _ _ _=>true
 |.Subscript _ _ _=>true
 |.Attribute _ _ _=>true
 |_=>false
theorem ZJ(h:qG e=true):∀env x,foldedSetIterable e env x=pure x:=by cases e<;>first|(intro _ _;rfl)|cases h
theorem zj9(i:Nat)(sc:Scope)(XN M0 N:List Str)(fr:List Nat)(hN:X.N.Nodup)(sE:X.N[i]?=some y)(hx:JK X y k)(hl:lH k=true)(hc:X.aj=true)(CW:X.env.scope=sc)(oV:X.N=XN)(hB:qC sc scope=true)(hf:frB scope XN N fr=true)(hT:dW X.K cA g₁ aL)(hT₂:dW X.K cA g aL₂)(cV:yC aL aL₂ M0.length=true)
  (hi:JI X cA aq aj (F aj) EX tg iter w) (hg₁:∀cl C s3 H3 fp ao,JY (X.blk scope cl (M0++N) C s3 H3 fp ao) tg g₁) (hi₂:∀cl C s3 H3 fp ao,JI (X.blk scope cl (M0++N) C s3 H3 fp ao) cA aq aj (F aj) (λ_ _ _ _=>False) tg₂ iter₂ w₂) (hg:∀cl C s3 H3 fp ao,JY (X.blk scope cl (M0++N) C s3 H3 fp ao) tg₂ g)
  (ht:∀cl C s3 H3 fp ao,JC (X.blk scope cl (M0++N) C s3 H3 fp ao) cA aq aj (F aj) (λ_ _ _ _=>False) ifs cond) (he:∀cl C s3 H3 fp ao,JE (X.blk scope cl (M0++N) C s3 H3 fp ao) cA aq aj (F aj) (λ_ _ _ _=>False) elt B)
  (qH:qG iter₂=true:=by rfl) (uP:swapsWith (.ListComp elt [⟨tg,iter,[],0⟩,⟨tg₂,iter₂,ifs,0⟩] scope pos) (some (.Name y py)) spos.line X.env=pure true:=by rfl) (Te:X.fn y=true\/k=.local:=by first|exact .inl rfl|exact .inr rfl) (hs:∀x,foldedSetIterable iter X.env x=pure x:=by intro _;rfl) :
  JS X cA aq aj F EX (.Assign [.Name y py] (.ListComp elt [⟨tg,iter,[],0⟩,⟨tg₂,iter₂,ifs,0⟩] scope pos) spos) (.asg (.nm i) (.iJ fz B aL w aL₂ w₂ fr M0.length cond)):=
 ⟨zhe hc hN sE (wz hx hl) (wA hx Te) (b_.of (CW▸hB)) hi.o (wu (oV▸hf)).1 (wu (oV▸hf)).2 (λa b c d e f=>(hg₁ a b c d e f).o) hT (Gb cV).1 (λa b c d e f=>(hi₂ a b c d e f).o) (λa b c d e f=>(hg a b c d e f).o) hT₂ (Gb cV).2.1 (Gb cV).2.2 (λa b c d e f=>(ht a b c d e f).o) (λa b c d e f=>(he a b c d e f).o) uP (ZJ qH) hs⟩
end
section
variable {X:Cx}{cA:Cl}{aq:Nat->Nat->Bool}{aj:Bool}{F:Fn}{EX:XS}{elt iter tg iter₂ tg₂:Expr}{A B:E}{pos p:Pos}{ifs:List Expr}{scope:Scope}{N:List Str}{cond:Eo}{fr aL aL₂:List Nat}{many:Nat}{fz:Bool}{w w₂:Wk}{i:Nat}{y:Str}
theorem ziV(sc:Scope)(XN M0 N:List Str)(fr:List Nat)(hc:X.aj=true)(CW:X.env.scope=sc)(oV:X.N=XN)(hB:qC sc scope=true)(hf:frB scope XN N fr=true)(hT:dW X.K cA g₁ aL)(hT₂:dW X.K cA g aL₂)(cV:yC aL aL₂ M0.length=true)
  (hi:JI X cA aq aj F EX tg iter w) (hg₁:∀cl C s3 H3 fp ao,JY (X.blk scope cl (M0++N) C s3 H3 fp ao) tg g₁) (hi₂:∀cl C s3 H3 fp ao,JI (X.blk scope cl (M0++N) C s3 H3 fp ao) cA aq aj F (λ_ _ _ _=>False) tg₂ iter₂ w₂) (hg:∀cl C s3 H3 fp ao,JY (X.blk scope cl (M0++N) C s3 H3 fp ao) tg₂ g)
  (ht:∀cl C s3 H3 fp ao,JC (X.blk scope cl (M0++N) C s3 H3 fp ao) cA aq aj F (λ_ _ _ _=>False) ifs cond) (he:∀cl C s3 H3 fp ao,JE (X.blk scope cl (M0++N) C s3 H3 fp ao) cA aq aj F (λ_ _ _ _=>False) elt B)
  (qH:qG iter₂=true:=by rfl) (hs:∀x,foldedSetIterable iter X.env x=pure x:=by intro _;rfl):JE X cA aq aj F EX (.ListComp elt [⟨tg,iter,[],0⟩,⟨tg₂,iter₂,ifs,0⟩] scope pos) (.iJ fz B aL w aL₂ w₂ fr M0.length cond):=
 ⟨zhr hc (b_.of (CW▸hB)) hi.o (wu (oV▸hf)).1 (wu (oV▸hf)).2 (λa b c d e f=>(hg₁ a b c d e f).o) hT (Gb cV).1 (λa b c d e f=>(hi₂ a b c d e f).o) (λa b c d e f=>(hg a b c d e f).o) hT₂ (Gb cV).2.1 (Gb cV).2.2 (λa b c d e f=>(ht a b c d e f).o) (λa b c d e f=>(he a b c d e f).o) (ZJ qH) hs⟩
end
section
variable {K:W.Frag}{cA:Cl}{U:Ph}{H:Hp}
theorem aB.C_(r:aB K cA U H xs ys):∀l:List Nat,aB K cA U H (l.map λi=>xs.getD i .non) (l.map λi=>ys.getD i .non)
 |[]=>.nil
 |i::l=>by
  refine .cons ?_ (aB.C_ r l);show Rep K cA U H (xs.getD i .non) (ys.getD i .non);cases e:xs[i]? with
  |some x=>
   obtain⟨u,e1,e2⟩:=r.get e;rw[nF,nF,e,e1];exact e2
  |none=>
   have e1:ys[i]?=Option.none:=r.none e;rw[nF,nF,e,e1];exact .non
theorem aB.mem(r:aB K cA U H xs ys):∀v∈ys,∃d∈xs,Rep K cA U H d v:=by
 intro v hv;obtain⟨i,hi,e⟩:=yR hv;have e':ys[i]?=some v:=by rw[eE hi,e]
 cases ex:xs[i]? with
 |none=>rw[r.none ex] at e';cases e'
 |some d=>
  obtain⟨u,e1,e2⟩:=r.get ex;rw[e1] at e';cases e';exact⟨d,gH ex,e2⟩
theorem ZK:∀{us ws:List D} {xs ys:List V},aB K cA U H us xs->aB K cA U H ws ys->∀{b:Bool},sU us ws=some b->lF xs ys=some b
 |[],ws,_,ys,r1,r2,b,h=>by
  cases r1;unfold sU at h;unfold lF;rw[<-r2.len];exact h
 |_::_,[],_,_,r1,r2,b,h=>by
  cases r2;cases r1;unfold sU at h;unfold lF;exact h
 |x::us,y::ws,_,_,r1,r2,b,h=>by
  cases r1 with
  |cons a1 b1=>
   cases r2 with
   |cons a2 b2=>
    unfold sU at h;split at h
    ·rename_i z;cases z
    ·rename_i z;cases z
    ·rename_i p ps q qs e1 e2;cases e1;cases e2;cases a1;cases a2;unfold lF;by_cases e:p=q
     ·rw[if_pos e] at h ⊢;exact ZK b1 b2 h
     ·rw[if_neg e] at h ⊢;exact h
    ·cases h
theorem zhX(r:aB K cA U H xs ys)(h:(xs.all kh||xs.all jf)=true):uQ K H ys (zG xs):=by
 rw[Lz] at h;rcases h with h|h
 ·left
  rw[iz] at h;refine⟨λv hv=>?_,λi j b e=>?_⟩
  ·obtain⟨d,hd,q⟩:=r.mem v hv;have:=h d hd;cases q<;>first|exact⟨_,rfl⟩|cases this
  ·unfold zG at e;cases e1:xs[i]? with
   |none=>rw[e1] at e;cases e
   |some d1=>
    cases e2:xs[j]? with
    |none=>rw[e1,e2] at e;cases d1<;>cases e
    |some d2=>
     have h1:=h d1 (gH e1);have h2:=h d2 (gH e2);rw[e1,e2] at e;obtain⟨v1,a1,b1⟩:=r.get e1;obtain⟨v2,a2,b2⟩:=r.get e2;cases d1<;>first|cases h1|skip
     cases d2<;>first|cases h2|skip
     cases b1;cases b2;cases e;exact⟨_,_,a1,a2,rfl⟩
 ·right
  rw[iz] at h;refine⟨λv hv=>?_,λi j b e=>?_⟩
  ·obtain⟨d,hd,q⟩:=r.mem v hv;have:=h d hd;unfold jf at this;split at this
   ·cases q with
    |tup t r'=>
     cases r' with
     |cons a1 b1=>
      cases a1;exact⟨_,_,_,rfl,t.jK⟩
   ·cases this
  ·unfold zG at e;cases e1:xs[i]? with
   |none=>rw[e1] at e;cases e
   |some d1=>
    cases e2:xs[j]? with
    |none=>rw[e1,e2] at e;cases d1<;>cases e
    |some d2=>
     have h1:=h d1 (gH e1);have h2:=h d2 (gH e2);rw[e1,e2] at e;obtain⟨v1,a1,b1⟩:=r.get e1;obtain⟨v2,a2,b2⟩:=r.get e2;unfold jf at h1 h2;split at h1
     ·split at h2
      ·cases b1 with
       |tup t1 r1=>
        cases b2 with
        |tup t2 r2=>exact⟨_,_,_,_,a1,a2,t1.jK,t2.jK,ZK r1 r2 e⟩
      ·cases h2
     ·cases h1
theorem zgo:bH K cA .sorted (λxs H Q=>∃l ys lt p,xs=[.ref l]/\cT K H l ys/\ys.length<64/\(2<=ys.length->uQ K H ys lt/\bF lt (PySem.W.kas_sort ys.length)=some p/\p.size=ys.length)/\∀r,H r=none->Q (.ref r) (upd H r (.lst (fU ys p)))):=by
 intro U H ds vs Q zt rs o;have o:bK K cA U H (mZ ds) Q:=o;unfold mZ at o;split at o
 ·rename_i xs _;obtain⟨v,rfl,r1⟩:=rs.one;obtain⟨z,e⟩:=o.some';obtain⟨zs,e1,e2⟩:=jO.mp e;subst e2;obtain⟨a,us,rfl,sq,q⟩ : ∃a us,v=.ref a/\cT K H a us/\aB K cA U H xs us:=r1;have hl:=q.len;unfold zJ at e1;by_cases hk:(xs.all kh||xs.all jf)=true
  ·rw[if_pos hk] at e1;unfold jr at e1;by_cases h2:xs.length<2
   ·rw[if_pos h2] at e1;cases e1;refine⟨a,us,λ_ _=>none,#[],rfl,sq,by lia,λz=>absurd z gV,λr hr=>?_⟩;have:fU us #[]=us:=by unfold fU;rw[if_pos gV]
    rw[this];exact(o.of e) r us hr q
   ·rw[if_neg h2] at e1;by_cases nO:xs.length<64
    ·rw[if_pos nO] at e1;cases ek:bF (zG xs) (PySem.W.kas_sort xs.length) with
     |none=>rw[ek] at e1;cases e1
     |some p=>
      rw[ek] at e1;dsimp only at e1;by_cases hp:p.size=xs.length
      ·rw[if_pos hp] at e1;cases e1;refine⟨a,us,zG xs,p,rfl,sq,by lia,λ_=>⟨zhX q hk,by rw[<-hl];exact ek,by lia⟩,λr hr=>?_⟩;have:fU us p=p.toList.map λi=>us.getD i .non:=by unfold fU;rw[if_neg gV]
       rw[this];exact(o.of e) r _ hr (q.C_ p.toList)
      ·rw[if_neg hp] at e1;cases e1
    ·rw[if_neg nO] at e1;cases e1
  ·rw[if_neg hk] at e1;cases e1
 ·exact o.elim
end
section
variable {X:Cx}{cA:Cl}{aq:Nat->Nat->Bool}{aj:Bool}{F:Fn}{EX:XS}{e:Expr}{pos p:Pos}{es:List Expr}{Xs:Es}{fz:Bool}
theorem ZL:bootBuiltins "sorted"=some (.builtin "sorted"):=by decide +kernel
theorem ZM(hm:X.mg "sorted"=none)(hg:JK X "sorted" .globalImplicit)(ha:JA X cA aq aj F EX (e::es) Xs)(he:aC e=true:=by rfl)(cU:es.all aC=true:=by rfl):JE X cA aq aj F EX (.Call (.Name "sorted" p) (e::es) [] pos) (.pr fz .sorted Xs):=⟨zO zdU zgo hg.o hm ZL ha.o RB RB (bf he) (bD cU)⟩
end
section
variable {K:W.Frag}{cA:Cl}{U:Ph}{H:Hp}
theorem N6:∀{xs:List D} {k i:Nat},(enumFrom k xs)[i]?=(xs[i]?).map λd=>.tup [.int ((k+i:Nat):Int),d]
 |[],k,i=>by simp[enumFrom]
 |x::r,k,0=>by simp[enumFrom]
 |x::r,k,i+1=>by
  unfold enumFrom;rw[DG,DG,N6]
  congr 1
  funext d
  rw[show k+1+i=k+(i+1) by lia]
noncomputable def tD(K:W.Frag)(U:Ph)(H:Hp):Bool->Addr->List V->Prop
 |true,a,vs=>LstAt K U H a vs
 |false,a,vs=>TupAt K U H a vs
theorem tD.sk{kd:Bool}{a:Addr}{vs:List V}(h:tD K U H kd a vs):Sk kd K H a vs:=by
 cases kd
 ·exact TupAt.jK h
 ·exact LstAt.sY h
theorem tD.later{U':Ph}{H₁ H':Hp}{kd:Bool}{a:Addr}{vs:List V}(hz:∀a∈U.l,U.z a)(h:tD K U H kd a vs)(x:Ext U H U' H₁)(o:cO U' H₁ H'):tD K U' H' kd a vs:=by
 cases kd
 ·exact TupAt.later hz h x o
 ·exact LstAt.later hz h x o
theorem jL.enum{kd:Bool}{l:Addr}{xs:List D}{vs:List V}(hz:∀a∈U.l,U.z a)(h:tD K U H kd l vs)(r:aB K cA U H xs vs):jL K cA (.fix (enumFrom 0 xs)) U H (Ite K kd l):=by
 refine⟨λU' H₁ H' s' i x o hS e=>⟨vs,(h.later hz x o).sk,?_⟩,λU' H₁ H' s' i d x o hS e=>?_,λU' H₁ H' s' i d v H2 x o hS e y=>?_⟩
 ·have e:(enumFrom 0 xs)[i]?=none:=cP e;rw[N6,Option.map_eq_none_iff] at e;exact qK.mp ((r.mono x hz).none e)
 ·have e:(enumFrom 0 xs)[i]?=some d:=cP e;rw[N6] at e;obtain⟨d',e',_⟩:=jO.mp e;obtain⟨v,q,_⟩:=r.get e';exact⟨vs,v,(h.later hz x o).sk,q⟩
 ·have e:(enumFrom 0 xs)[i]?=some d:=cP e;rw[N6] at e;obtain⟨d',e',rfl⟩:=jO.mp e;obtain⟨a,u,hn,rfl,rfl,hu⟩:=y;obtain⟨w,q,jY⟩:=((r.mono x hz).out o).get e';have:=hu vs (h.later hz x o).sk;rw[q] at this;cases this;have g:bG H' (upd H' a (.tup [.int i,u])):=bG.new hn;refine⟨g,?_⟩;rw[show ((0+i:Nat):Int)=(i:Int) by simp];exact .tup (.inl ⟨.inl iD,hS.nz hn⟩) (.cons (.int _) (.cons (jY.mono g.ext hS.lz) .nil))
theorem Tw(h:(Src.lY n).at i s=some o):∃xs,s[n]?=some (.lst xs)/\(xs[i]?.map λx=>D.tup [.int i,x])=o:=by
 unfold Src.at at h;dsimp only at h;cases e:s[n]? with
 |none=>rw[e] at h;cases h
 |some ob=>
  rw[e] at h;cases ob with
  |lst xs=>exact⟨xs,rfl,cP h⟩
  |_=>cases h
theorem jL.lY{a:Addr}{n:Nat}(h:U.l[n]?=some a):jL K cA (.lY n) U H (Ite K true a):=by
 refine⟨λU' H₁ H' s' i x o hS e=>?_,λU' H₁ H' s' i d x o hS e=>?_,λU' H₁ H' s' i d v H2 x o hS e y=>?_⟩
 ·obtain⟨xs,e1,e2⟩:=Tw e;rw[Option.map_eq_none_iff] at e2;obtain⟨vs,q1,q2⟩:=hS.obj n _ a e1 (x.get h);exact⟨vs,cT.of q1,qK.mp (q2.none e2)⟩
 ·obtain⟨xs,e1,e2⟩:=Tw e;obtain⟨d',e',_⟩:=jO.mp e2;obtain⟨vs,q1,q2⟩:=hS.obj n _ a e1 (x.get h);obtain⟨v,q3,_⟩:=q2.get e';exact⟨vs,v,cT.of q1,q3⟩
 ·obtain⟨xs,e1,e2⟩:=Tw e;obtain⟨d',e',rfl⟩:=jO.mp e2;obtain⟨vs,q1,q2⟩:=hS.obj n _ a e1 (x.get h);obtain⟨w,q3,jY⟩:=q2.get e';obtain⟨b,u,hn,rfl,rfl,hu⟩:=y;have:=hu vs (cT.of q1);rw[q3] at this;cases this;have g:bG H' (upd H' b (.tup [.int i,w])):=bG.new hn;exact⟨g,.tup (.inl ⟨.inl iD,hS.nz hn⟩) (.cons (.int _) (.cons (jY.mono g.ext hS.lz) .nil))⟩
end
section
variable {X:Cx}{cA:Cl}{aq:Nat->Nat->Bool}{aj:Bool}{F:Fn}{EX:XS}{a b:Expr}{A B:E}{pos pp tpos:Pos}{elts:List Expr}{kk:Nat}
theorem zja(qz:Gl X "enumerate")(hmg:X.mg "enumerate"=none)(hb:SE X cA aq aj F EX b B)(h2:starEach [b] X.env=(false,eval b X.env)::starEach [] X.env) :
  SI X cA aq aj F EX (.Tuple elts kk tpos) (.Call (.Name "enumerate" pp) [b] [] pos) (.enum B):=PI.weak (zjB qz hmg (rY hb xq h2) (by rw[h2];rfl)) λZ H R hh=>un hh λU J s hL hS h=>by
 refine aX hL hS h λy H2 U2 d2 s2 x2 hL2 aM r2 h2=>?_;cases r2 with
 |@l n ad hl=>
  unfold Run oO at h2;dsimp only at h2;cases e:s2[n]? with
  |none=>rw[e] at h2;exact h2.elim
  |some o=>
   rw[e] at h2;cases o with
   |lst xs=>
    obtain⟨vs,q1,q2⟩:=aM.obj n _ _ e hl;exact⟨true,_,_,rfl,cT.of q1,h2 U2 H2 Ext.refl aM _ (jL.lY hl)⟩
   |_=>exact h2.elim
 |d r2=>
  cases r2 with
  |fl q r=>exact⟨true,_,_,rfl,q.sY,h2 U2 H2 Ext.refl aM _ (jL.enum (kd:=true) aM.lz q r)⟩
  |tup q r=>exact⟨false,_,_,rfl,q.jK,h2 U2 H2 Ext.refl aM _ (jL.enum (kd:=false) aM.lz q r)⟩
  |_=>exact h2.elim
theorem ZP:∀(ns:List Str) (vs:List V),((ns.zip vs).map (·.1)).Sublist ns
 |[],vs=>by simp
 |n::ns,[]=>by simp
 |n::ns,v::vs=>by
  rw[Gx,jo];exact(ZP ns vs).cons₂ n
theorem zfo:∀{ns:List Str} {vs:List V} {i:Nat} {x:Str} {v:V},ns.Nodup->ns[i]?=some x->vs[i]?=some v->(ns.zip vs).lookup x=some v
 |ns,vs,i,x,v,hn,h1,h2=>by
  refine Yb ?_ (zka h1 h2);exact List.Sublist.nodup (ZP ns vs) hn
end
section
variable {X:Cx}{cA:Cl}{aq:Nat->Nat->Bool}{aj:Bool}{F:Fn}{EX:XS}{a b:Expr}{A B:E}{pos p tpos:Pos}{elts:List Expr}{kk:Nat}
theorem ZQ(hmg:X.mg "enumerate"=none)(qz:JK X "enumerate" .globalImplicit)(hb:JE X cA aq aj F EX b B)(h2:aC b=true:=by rfl):JI X cA aq aj F EX (.Tuple elts kk tpos) (.Call (.Name "enumerate" p) [b] [] pos) (.enum B):=⟨zja qz.o hmg hb.o (bf h2)⟩
end
end Mi
namespace Mi
open PySem PySem.Spec PyProof.Rows L2 PySem.W
theorem zj2{fd:FuncData}{q:Str}{st:Stmt}(h:nY fd=Aw q st):fd=fnOf "__init__" q (aY st) (aJ st) (au st) .none fd.kwdefaults fd.doc fd.pyModule fd.annotations fd.code fd.closureTuple:=by
 cases fd;unfold nY Aw at h;cases h;rfl
structure Kc(K:Frag)(C:Addr)(q:Str)(st:Stmt):Prop where
 ex:∃(fI:Addr) (od:Option Addr) (kV doc pm:Value) (an:Option Addr) (cdv ct:Value) (osl:Array (Option Value)) (cd:ClassData),
  K.lookup fI=some ⟨.type "function",od,.func (fnOf "__init__" q (aY st) (aJ st) (au st) .none kV doc pm an cdv ct),osl⟩/\codeIn K cdv q=true/\uo K C fI=true/\clsIn K C=some cd/\uh cd.mro=true/\cd.hasDict=true
theorem zmU{K:Frag}{C:Addr}{q:Str}{st:Stmt}(h:(G4 K C).map nY=some (Aw q st)):Kc K C q st:=by
 cases e:G4 K C with
 |none=>rw[e] at h;cases h
 |some fd=>
  rw[e] at h;have hp:nY fd=Aw q st:=cP h;unfold G4 at e;split at e
  ·rename_i cd iG;split at e
   ·rename_i f hf;split at e
    ·rename_i od fd' sl hl;split at e
     ·rename_i hc;cases e;simp only[fK] at hc;obtain⟨⟨⟨c1,c2⟩,c3⟩,c4⟩:=hc;have eq:=zj2 hp;have qn:fd.qualname=q:=by rw[eq]
      refine⟨⟨f,od,fd.kwdefaults,fd.doc,fd.pyModule,fd.annotations,fd.code,fd.closureTuple,sl,cd,?_,by rw[<-qn];exact c1,c2,iG,c3,c4⟩⟩;rw[<-eq];exact hl
     ·cases e
    ·cases e
   ·cases e
  ·cases e
theorem znH{K:Frag}{C:Addr}{f:Str}(h:LR K C f=true):XF K C f:=by
 unfold LR at h;simp only[fK,nU] at h;obtain⟨⟨⟨⟨h1,h2⟩,h3⟩,h4⟩,h5⟩:=h;exact⟨h1,h2,h3,h4,h5⟩
structure o8(fs:List (Str×Stmt))(ms:List ur)(xs:List (Nat×Str))(l:Lk)(K:Frag):Prop where
 fn:∀p∈fs,FnAt K p.1 p.2
 gd:z_ l K
 mi:∀m∈ms,Kc K (iW (l.L K) m.c) m.q m.st
 se:∀m∈ms,setB K (iW (l.L K) m.c) m.fs=true
 xf:∀x∈xs,XF K (iW (l.L K) x.1) x.2
theorem Tz{a:Nat}{o:Obj}:∀{l:List Obj} {i:Nat},((a:Addr),o)∈G5 i l->i<=a/\l[a-i]?=some o/\o.isFreed=false
 |[],i,h=>by cases h
 |p::r,i,h=>by
  unfold G5 at h;split at h
  ·obtain⟨h1,h2,h3⟩:=Tz h;refine⟨by lia,?_,h3⟩;rw[show a-i=(a-(i+1))+1 by lia];exact h2
  ·rename_i hf;rcases jm.mp h with e|h
   ·cases e;exact⟨cj _,by simp,(Bool.or_eq_false_iff.mp hf).1⟩
   ·obtain⟨h1,h2,h3⟩:=Tz h;refine⟨by lia,?_,h3⟩;rw[show a-i=(a-(i+1))+1 by lia];exact h2
theorem TF:∀{K:Frag},K.lookup a=some o->(a,o)∈K
 |[],h=>by cases h
 |(b,p)::r,h=>by
  rw[pN] at h;by_cases e:a=b
  ·subst e;simp only[D_] at h;cases h;exact lq
  ·rw[show (a==b)=false by simpa using e] at h;exact gY _ (TF h)
theorem zhm:(bR h).In h:=λa o e=>by
 have hm:=TF e;unfold bR at hm;rcases nG.mp hm with z|z
 ·unfold qN at z;split at z
  ·rename_i p hp;rcases jm.mp z with e|z
   ·cases e;exact hp
   ·cases z
  ·cases z
 ·obtain⟨_,h2,h3⟩:=Tz (List.mem_reverse.mp z);rw[Heap.get?_some_iff];refine⟨?_,h3⟩;have:h.objs.toList[a]?=some o:=by simpa using h2
  simpa using this
end Mi
namespace Mi
open PySem PySem.Spec PyProof.Rows L2
section
variable {K:W.Frag}{cA:Cl}{U:Ph}{H:Hp}
noncomputable def jx(K:W.Frag)(U:Ph)(H:Hp):Bool->Addr->List V->Prop
 |true,a,vs=>LstAt K U H a vs
 |false,a,vs=>TupAt K U H a vs
theorem jx.sk{kd:Bool}{a:Addr}{vs:List V}(h:jx K U H kd a vs):Sk kd K H a vs:=by
 cases kd
 ·exact TupAt.jK h
 ·exact LstAt.sY h
theorem jx.later{kd:Bool}{a:Addr}{vs:List V}{U':Ph}{H₁ H':Hp}(hz:∀a∈U.l,U.z a)(h:jx K U H kd a vs)(x:Ext U H U' H₁)(o:cO U' H₁ H'):jx K U' H' kd a vs:=by
 cases kd
 ·exact TupAt.later hz h x o
 ·exact LstAt.later hz h x o
theorem TJ{xs ys:List D}{i:Nat}:(List.zipWith (λp q=>D.tup [p,q]) xs ys)[i]?=match xs[i]?,ys[i]? with
  |some p,some q=>some (.tup [p,q])
  |_,_=>none:=by
 rw[List.getElem?_zipWith];cases xs[i]?<;>cases ys[i]?<;>rfl
theorem jL.zip{k1 k2:Bool}{l1 l2:Addr}{xs ys:List D}{us vs:List V}(hz:∀a∈U.l,U.z a)(h1:jx K U H k1 l1 us)(h2:jx K U H k2 l2 vs)(r1:aB K cA U H xs us)(r2:aB K cA U H ys vs):jL K cA (.fix (List.zipWith (λp q=>D.tup [p,q]) xs ys)) U H (RJ K k1 k2 l1 l2):=by
 refine⟨λU' H₁ H' s' i x o hS e=>?_,λU' H₁ H' s' i d x o hS e=>?_,λU' H₁ H' s' i d v H2 x o hS e y=>?_⟩
 ·have e:(List.zipWith (λp q=>D.tup [p,q]) xs ys)[i]?=none:=cP e;rw[TJ] at e;refine⟨us,vs,(h1.later hz x o).sk,(h2.later hz x o).sk,?_⟩;cases ex:xs[i]? with
  |none=>exact .inl (qK.mp (r1.none ex))
  |some p=>
   cases ey:ys[i]? with
   |none=>exact .inr (qK.mp (r2.none ey))
   |some q=>rw[ex,ey] at e;cases e
 ·have e:(List.zipWith (λp q=>D.tup [p,q]) xs ys)[i]?=some d:=cP e;rw[TJ] at e;cases ex:xs[i]? with
  |none=>rw[ex] at e;cases e
  |some p=>
   cases ey:ys[i]? with
   |none=>rw[ex,ey] at e;cases e
   |some q=>
    obtain⟨u,q1,_⟩:=r1.get ex;obtain⟨v,q2,_⟩:=r2.get ey;exact⟨us,vs,u,v,(h1.later hz x o).sk,(h2.later hz x o).sk,q1,q2⟩
 ·have e:(List.zipWith (λp q=>D.tup [p,q]) xs ys)[i]?=some d:=cP e;rw[TJ] at e;cases ex:xs[i]? with
  |none=>rw[ex] at e;cases e
  |some p=>
   cases ey:ys[i]? with
   |none=>rw[ex,ey] at e;cases e
   |some q=>
    rw[ex,ey] at e;cases e;obtain⟨a,u,w,hn,rfl,rfl,hu,hw⟩:=y;obtain⟨u',q1,ru⟩:=((r1.mono x hz).out o).get ex;obtain⟨w',q2,jY⟩:=((r2.mono x hz).out o).get ey;have e1:=hu us (h1.later hz x o).sk;have e2:=hw vs (h2.later hz x o).sk;rw[q1] at e1;rw[q2] at e2;cases e1;cases e2;have g:bG H' (upd H' a (.tup [u,w])):=bG.new hn;exact⟨g,.tup (.inl ⟨.inl iD,hS.nz hn⟩) (.cons (ru.mono g.ext hS.lz) (.cons (jY.mono g.ext hS.lz) .nil))⟩
theorem ZR(r:aU K cA U H x v)(h:Run K cA (M.bd (qm x) k) U H s P Ee) :
  ∃xs kd a vs,v=.ref a/\jx K U H kd a vs/\aB K cA U H xs vs/\Run K cA (k xs) U H s P Ee:=by
 cases r with
 |l _=>exact h.elim
 |d r=>
  cases r with
  |tup q r=>exact⟨_,false,_,_,rfl,q,r,h⟩
  |fl q r=>exact⟨_,true,_,_,rfl,q,r,h⟩
  |_=>exact h.elim
end
section
variable {X:Cx}{cA:Cl}{aq:Nat->Nat->Bool}{aj:Bool}{F:Fn}{EX:XS}{a b:Expr}{A B:E}{pos pp tpos:Pos}{elts:List Expr}{kk:Nat}
theorem zlJ(qz:Gl X "zip")(hmg:X.mg "zip"=none)(ha:SE X cA aq aj F EX a A)(hb:SE X cA aq aj F EX b B)(h1:starEach [a,b] X.env=(false,eval a X.env)::starEach [b] X.env)(h2:starEach [b] X.env=(false,eval b X.env)::starEach [] X.env) :
  SI X cA aq aj F EX (.Tuple elts kk tpos) (.Call (.Name "zip" pp) [a,b] [] pos) (.zip A B):=PI.weak (zmi qz hmg (rY ha (rY hb xq h2) h1) (by rw[h1,h2];rfl) (by rw[h2];rfl)) λZ H R hh=>un hh λU J s hL hS h=>by
 refine aX hL hS h λx H1 U1 d1 s1 x1 hL1 aG r1 h1=>aX hL1 aG h1 λy H2 U2 d2 s2 x2 hL2 aM r2 h2=>?_;obtain⟨xs,k1,l1,us,e1,q1,p1,h3⟩:=ZR (r1.mono x2 aG.lz) h2;obtain⟨ys,k2,l2,vs,e2,q2,p2,h4⟩:=ZR r2 h3;subst e1 e2;exact⟨k1,k2,l1,l2,us,vs,rfl,q1.sk,q2.sk,(h4.bC aM) _ (jL.zip aM.lz q1 q2 p1 p2)⟩
theorem znE(hmg:X.mg "zip"=none)(qz:JK X "zip" .globalImplicit)(ha:JE X cA aq aj F EX a A)(hb:JE X cA aq aj F EX b B)(h1:aC a=true:=by rfl)(h2:aC b=true:=by rfl):JI X cA aq aj F EX (.Tuple elts kk tpos) (.Call (.Name "zip" p) [a,b] [] pos) (.zip A B):=⟨zlJ qz.o hmg ha.o hb.o (bf h1) (bf h2)⟩
end
noncomputable def Gd(i:Int)(n:Nat):List V:=(List.range n).map λk=>.int (i+(k:Nat))
theorem zkg{i:Int}{acc:Array Value}:∀{n m:Nat},(∀k v,acc.toList[k]?=some (v:Value)->∃t,v=Value.int (i+((m+k:Nat):Int)) t)->acc.toList.length=n->Vals ((List.range n).map λk=>V.int (i+((m+k:Nat):Int))) acc.toList:=by
 generalize acc.toList=l
 induction l with
 |nil=>intro n m _ e;subst e;exact .nil
 |cons v l ih=>
  intro n m h e;subst e;rw[gZ,Pk,jo,GQ];refine .cons (h 0 v rfl) ?_;have:=ih (n:=l.length) (m:=m+1) (λk v e=>by
   have:=h (k+1) v e;rw[show m+1+k=m+(k+1) by lia];exact this) rfl
  have e:((λk=>V.int (i+((m+k:Nat):Int)))∘Nat.succ)=λk=>V.int (i+((m+1+k:Nat):Int)):=by
   funext k
   show V.int (i+((m+(k+1):Nat):Int))=_;rw[show m+(k+1)=m+1+k by lia]
  rw[e];exact this
section
variable {K:W.Frag}{cA:Cl}{U:Ph}{H:Hp}
theorem ZS:∀l:List Nat,aB K cA U H (l.map λk=>D.int (i+(k:Nat))) (l.map λk=>V.int (i+(k:Nat)))
 |[]=>.nil
 |_::l=>.cons (.int _) (ZS l)
end
end Mi
namespace Mi
open PySem PySem.Spec PyProof.Rows L2 PySem.W
structure D3(K:Frag)(mg:Str->Option Value)(x:Str)(st:Stmt)(ps:List Str):Prop where
 f:oX K x x st (fW K x) (fdOf K x st)
 m:mg x=some (.ref (fW K x))
 b:Binds K (fdOf K x st) ps []
theorem dk{p:Prop}(h:p:=by decide +kernel):p:=h
section
variable {fs:List (Str×Stmt)}{ms:List ur}{xs:List (Nat×Str)}{lk:Lk}{K:Frag}{h:Heap}{mg:Str->Option Value}{x:Str}{st:Stmt}
theorem nq(S:o8 fs ms xs lk K)(X:K.In h)(G:h.Ns mainGlobals mg)(j:Nat)(hj:fs[j]?=some (x,st):=by rfl)(hb:∀(kV doc pm:Value) (an:Option Addr) (cdv ct a:Value),bindArgs (fnOf x x (aY st) (aJ st) (au st) .none kV doc pm an cdv ct) ⟨[a],[]⟩=pure [(p,a)]:=by intros;rfl):D3 K mg x st [p]:=have F:=S.fn (x,st) (gH hj);⟨F.fn,F.m X G,yt F.fn hb⟩
theorem tG(S:o8 fs ms xs lk K)(X:K.In h)(G:h.Ns mainGlobals mg)(j:Nat)(hj:fs[j]?=some (x,st):=by rfl)(hb:∀(kV doc pm:Value) (an:Option Addr) (cdv ct a b:Value),bindArgs (fnOf x x (aY st) (aJ st) (au st) .none kV doc pm an cdv ct) ⟨[a,b],[]⟩=pure [(p,a),(q,b)]:=by intros;rfl):D3 K mg x st [p,q]:=have F:=S.fn (x,st) (gH hj);⟨F.fn,F.m X G,yu F.fn hb⟩
theorem N7(S:o8 fs ms xs lk K)(X:K.In h)(G:h.Ns mainGlobals mg)(j:Nat)(hj:fs[j]?=some (x,st):=by rfl)(hb:∀(kV doc pm:Value) (an:Option Addr) (cdv ct a b c:Value),bindArgs (fnOf x x (aY st) (aJ st) (au st) .none kV doc pm an cdv ct) ⟨[a,b,c],[]⟩=pure [(p,a),(q,b),(t,c)]:=by intros;rfl):D3 K mg x st [p,q,t]:=have F:=S.fn (x,st) (gH hj);⟨F.fn,F.m X G,yw F.fn hb⟩
theorem zou(S:o8 fs ms xs lk K)(X:K.In h)(G:h.Ns mainGlobals mg)(j:Nat)(hj:fs[j]?=some (x,st):=by rfl)(hb:∀(kV doc pm:Value) (an:Option Addr) (cdv ct a b c d:Value),bindArgs (fnOf x x (aY st) (aJ st) (au st) .none kV doc pm an cdv ct) ⟨[a,b,c,d],[]⟩=pure [(p,a),(q,b),(t,c),(u,d)]:=by intros;rfl):D3 K mg x st [p,q,t,u]:=have F:=S.fn (x,st) (gH hj);⟨F.fn,F.m X G,yx F.fn hb⟩
theorem mG{α:Type}{l:List α}{a:α}(j:Nat)(h:l[j]?=some a:=by rfl):a∈l:=gH h
end
end Mi
namespace Mi
open PySem
def W{α:Type}(m:M α)(s:S)(P:α->S->Prop):Prop:=∃a s',m s=some (.ok a,s')/\P a s'
def WS(m:MS)(s:S)(Q:Out->S->Prop):Prop:=∃o s',m s=some (o,s')/\Q o s'
section
variable {α β:Type}{m:M α}{k:α->M β}{s:S}{P:α->S->Prop}{R:β->S->Prop}
theorem W.bd(h:W m s λa s'=>W (k a) s' R):W (M.bd m k) s R:=by
 obtain⟨a,s',e,b,s2,e2,r⟩:=h;exact⟨b,s2,by unfold M.bd;rw[e];exact e2,r⟩
theorem W.ret{a:α}(h:P a s):W (M.ret a) s P:=⟨a,s,rfl,h⟩
theorem W.qt(h:W m s P):W (M.qt m) s P:=by
 obtain⟨a,s',e,p⟩:=h;exact⟨a,s',by unfold M.qt;rw[e],p⟩
theorem W.opt(e:o=some a)(h:P a s):W (M.opt o) s P:=by subst e;exact⟨a,s,rfl,h⟩
theorem W.imp{P':α->S->Prop}(h:W m s P)(f:∀a s',P a s'->P' a s'):W m s P':=let ⟨a,s',e,p⟩:=h;⟨a,s',e,f a s' p⟩
theorem W.eq(e:m s=some (.ok a,s'))(p:P a s'):W m s P:=⟨a,s',e,p⟩
theorem KaZ{d:D}{P:D->S->Prop}(h:P d s):W (rd (.d d)) s P:=⟨d,s,rfl,h⟩
theorem ZV{n:Nat}{xs:List D}{P:D->S->Prop}(e:s[n]?=some (.lst xs))(h:P (.fl xs) s):W (rd (.l n)) s P:=⟨.fl xs,s,by unfold rd;simp only[e],h⟩
theorem Ka2{P:List D->S->Prop}(h:P [] s):W (g_ []) s P:=⟨[],s,rfl,h⟩
theorem Ka1{x:Xv}{r:List Xv}{P:List D->S->Prop}(h:W (rd x) s λd s1=>W (g_ r) s1 λds s2=>P (d::ds) s2):W (g_ (x::r)) s P:=W.bd (h.imp λd s1 h1=>W.bd (h1.imp λds s2 h2=>W.ret h2))
theorem Kav{P:List D->S->Prop}(h:P [] s):W (cM []) s P:=⟨[],s,rfl,h⟩
theorem Kau{d:D}{r:List Xv}{P:List D->S->Prop}(h:W (cM r) s λds s2=>P (d::ds) s2):W (cM (.d d::r)) s P:=W.bd (W.ret (W.bd (h.imp λds s2 h2=>W.ret h2)))
theorem W.dat{x:D}{P:D->S->Prop}(h:P x s):W (dat (.d x)) s P:=⟨x,s,rfl,h⟩
theorem W.bool{b:Bool}{P:Bool->S->Prop}(h:P b s):W (bool (.d (.bl b))) s P:=⟨b,s,rfl,h⟩
theorem W.int{b:Int}{P:Int->S->Prop}(h:P b s):W (int (.d (.int b))) s P:=⟨b,s,rfl,h⟩
theorem lC{fz:Bool}{o:Option Rz}{d:D}{P:Xv->S->Prop}(e:o=some (.dat d))(h:P (.d d) s):W (cI fz o) s P:=by subst e;exact⟨_,s,rfl,h⟩
theorem TQ{o:Option Rz}{xs:List D}{P:Xv->S->Prop}(e:o=some (.nw xs))(h:P (.d (.fl xs)) s):W (cI true o) s P:=by subst e;exact⟨_,s,rfl,h⟩
theorem KaP{xs:List D}{P:Xv->S->Prop}(h:P (.d (.fl xs)) s):W (newL true xs) s P:=⟨_,s,rfl,h⟩
theorem KaO{xs:List D}{P:Xv->S->Prop}(h:P (.l s.length) (s++[.lst xs])):W (newL false xs) s P:=⟨_,_,rfl,h⟩
theorem t_{F:List Xv->M Xv}{xs:List Xv}{P:Xv->S->Prop}(hl:locs xs=[])(h:W (F (dz 0 xs)) [] λv _=>∃d,v=.d d/\P (.d d) s):W (bU F xs) s P:=by
 obtain⟨v,s1,e,d,rfl,p⟩:=h;refine⟨.d d,s,?_,p⟩;unfold bU;rw[hl,if_pos Ar];simp only[iK,e,dB]
theorem Kan{F:List Xv->M Xv}{xs:List Xv}{P:Xv->S->Prop}(hl:locs xs=[])(h:W (F (dz 0 xs)) [] λv s1=>∃n o,v=.l n/\s1[n]?=some o/\P (.l s.length) (s++[o])):W (bU F xs) s P:=by
 obtain⟨v,s1,e,n,o,rfl,eo,p⟩:=h;refine⟨.l s.length,s++[o],?_,p⟩;unfold bU;rw[hl,if_pos Ar];simp only[iK,e,dB,List.getElem?_nil,eo]
theorem ZW{F:List Xv->M Xv}{xs:List Xv}{n:Nat}{o:SO}{P:Xv->S->Prop}(hl:locs xs=[n])(ho:s[n]?=some o)(h:W (F (dz 0 xs)) [o] λv s1=>∃d o',v=.d d/\s1=[o']/\P (.d d) (s.set n o')):W (bU F xs) s P:=by
 obtain⟨v,s1,e,d,o',rfl,rfl,p⟩:=h;refine⟨.d d,s.set n o',?_,p⟩;unfold bU;rw[hl,if_pos Zaa];simp only[iK,ho,e,dB]
end
section
variable {s:S}{Q:Out->S->Prop}
theorem WS.ofM(h:W m s λa s'=>WS (k a) s' Q):WS (Mi.ofM m J k) s Q:=by
 obtain⟨a,s',e,o,s2,e2,q⟩:=h;exact⟨o,s2,by unfold Mi.ofM;rw[e];exact e2,q⟩
theorem WS.nx(h:Q (.nx J) s):WS (λs=>some (.nx J,s)) s Q:=⟨_,s,rfl,h⟩
theorem WS.rt(h:Q (.rt x) s):WS (λs=>some (.rt x,s)) s Q:=⟨_,s,rfl,h⟩
end
theorem W.call(hT:T f=some d)(hl:xs.length=d.dD)
  (h:WS (exs aq aj (λc=>Mi.call aq T k c) d.body (xs.map some++List.replicate (d.many-d.dD) none)) s λo s'=>match o with|.nx _=>P (.d .non) s'|.rt v=>P v s'|_=>False):W (Mi.call aq T (k+1) aj f xs) s P:=by
 obtain⟨o,s',e,q⟩:=h;unfold Mi.call;simp only[hT,if_pos hl];unfold W;simp only[e];cases o with
 |nx J=>exact⟨_,_,rfl,q⟩
 |rt v=>exact⟨_,_,rfl,q⟩
 |bk J=>exact q.elim
 |ct J=>exact q.elim
 |er c fs J=>exact q.elim
theorem N_(I:Nat->Vs->S->Prop)(h0:I 0 J s)(hb:∀i x J s,c[i]?=some x->I i J s->WS (b x J) s λo s'=>∃J',o=.nx J'/\I (i+1) J' s')
  (he:∀J s,I c.length J s->Q (.nx J) s):WS (cN (.fix c) b (c.length+1) 0 J) s Q:=by
 have key:∀n i J s,i+n=c.length->I i J s->WS (cN (.fix c) b (n+1) i J) s Q:=by
  intro n
  induction n with
  |zero=>
   intro i J s hi hI;have e:c[i]?=none:=by rw[qK];lia
   have:i=c.length:=by lia
   subst this;refine⟨_,s,?_,he J s hI⟩;unfold cN;simp only[Src.at,e]
  |succ n ih=>
   intro i J s hi hI;have cL:i<c.length:=by lia
   have e:c[i]?=some c[i]:=eE cL;obtain⟨o,s',eb,J',rfl,Dg⟩:=hb i c[i] J s e hI;obtain⟨o2,s2,e2,q⟩:=ih (i+1) J' s' gV Dg;refine⟨o2,s2,?_,q⟩;unfold cN;simp only[Src.at,e,eb];exact e2
 exact key c.length 0 J s gV h0
theorem znP{i j:Int}(h:(-(2^64)<i/\i<2^64)\/(-(2^64)<j/\j<2^64)):prim .mul [.int i,.int j]=some (.dat (.int (i*j))):=by
 show Option.map _ (if _ then _ else _)=_;rw[if_pos h];rfl
theorem znm{i j:Int}(h:0<j):prim .mod [.int i,.int j]=some (.dat (.int (i%j))):=by
 show Option.map _ (if _ then _ else _)=_;rw[if_pos h];rfl
theorem zku{i j:Int}(h:0<j/\j<1073741824):prim .fdiv [.int i,.int j]=some (.dat (.int (i/j))):=by
 show Option.map _ (if _ then _ else _)=_;rw[if_pos h];rfl
theorem zhR{i j:Int}(h:0<j/\j<1073741824):prim .divmod [.int i,.int j]=some (.dat (.tup [.int (i/j),.int (i%j)])):=by
 show Option.map _ (if _ then _ else _)=_;rw[if_pos h];rfl
theorem zmY{i j:Int}(h:0<=j/\j<=1000000/\i.natAbs<2^64):prim .pow [.int i,.int j]=some (.dat (.int (i^j.toNat))):=by
 show Option.map _ (if _ then _ else _)=_;rw[if_pos h];rfl
theorem ZX{xs:List D}{i:Nat}{x:D}(h:xs[i]?=some x):prim .ix [.fl xs,.int i]=some (.dat x):=by
 show Option.map Rz.dat (L2.qU xs i)=_;have:L2.qU xs (i:Int)=some x:=by
  unfold L2.qU L2.sy;have hl:i<xs.length:=(fG.mp h).1;simp[hl];exact(fG.mp h).2
 rw[this];rfl
theorem zla(h:xs.length+ys.length<=sizeLine):prim .add [.fl xs,.fl ys]=some (.nw (xs++ys)):=by
 show (if _ then _ else _)=_;rw[if_pos h]
theorem W.ite[Decidable c](h1:c->W m1 s P)(h2:¬c->W m2 s P):W (if c then m1 else m2) s P:=by
 by_cases h:c
 ·rw[if_pos h];exact h1 h
 ·rw[if_neg h];exact h2 h
theorem WS.ite[Decidable c](h1:c->WS m1 s P)(h2:¬c->WS m2 s P):WS (if c then m1 else m2) s P:=by
 by_cases h:c
 ·rw[if_pos h];exact h1 h
 ·rw[if_neg h];exact h2 h
theorem TV{n:Nat}{xs:List D}{s:S}{P:Unit->S->Prop}(h:P () (s.set n (.lst xs))):W (putL n xs) s P:=⟨_,_,rfl,h⟩
theorem W.dh{n:Nat}{xs:List D}{s:S}{P:Nat×List D->S->Prop}(e:s[n]?=some (.lst xs))(h:P (n,xs) s):W (dh (.l n)) s P:=⟨_,s,by unfold Mi.dh;simp only[e],h⟩
theorem Ka4{xs:List D}{s:S}{P:Src×Nat->S->Prop}(h:P (.fix xs,xs.length) s):W (src (.d (.tup xs))) s P:=⟨_,s,rfl,h⟩
theorem Ka3{xs:List D}{s:S}{P:Src×Nat->S->Prop}(h:P (.fix xs,xs.length) s):W (src (.d (.fl xs))) s P:=⟨_,s,rfl,h⟩
theorem WS.nil{aq:Nat->Nat->Bool}{aj:Bool}{F:Bool->Fn}{J:Vs}{s:S}{Q:Out->S->Prop}(h:Q (.nx J) s):WS (exs aq aj F .nil J) s Q:=⟨_,s,rfl,h⟩
theorem WS.cons{aq:Nat->Nat->Bool}{aj:Bool}{F:Bool->Fn}{a:St}{r:cB}{J:Vs}{s:S}{Q:Out->S->Prop}(h:WS (ex aq aj F a J) s λo s'=>match o with|.nx J'=>WS (exs aq aj F r J') s' Q|.rt x=>Q (.rt x) s'|_=>False):WS (exs aq aj F (.cons a r) J) s Q:=by
 obtain⟨o,s',e,q⟩:=h;unfold WS exs Mi.bO;rw[e];cases o with
 |nx J'=>exact q
 |rt x=>exact⟨_,_,rfl,q⟩
 |bk _=>exact q.elim
 |ct _=>exact q.elim
 |er _ _ _=>exact q.elim
def yD{α:Type}(o:Option α)(P:α->Prop):Prop:=∃a,o=some a/\P a
theorem yD.mk{α:Type}{o:Option α}{P:α->Prop}{a:α}(e:o=some a)(h:P a):yD o P:=⟨a,e,h⟩
section
variable {aq:Nat->Nat->Bool}{aj:Bool}{F:Fn}{J:Vs}{s:S}{P:Xv->S->Prop}
theorem W.eC{d:D}(h:P (.d d) s):W (ev aq aj F (.c d) J) s P:=W.ret h
theorem W.eV{i:Nat}{x:Xv}(e:J[i]?.join=some x)(h:P x s):W (ev aq aj F (.v i) J) s P:=W.opt e h
theorem Z0{fz:Bool}{p:Pr}{xs:Es}(h:W (evs aq aj F xs J) s λvs s1=>W (g_ vs) s1 λds s2=>W (cI fz (prim p ds)) s2 P):W (ev aq aj F (.pr fz p xs) J) s P:=W.bd (h.imp λ_ _ h=>W.bd h)
theorem Kaw{a b:E}(h:W (ev aq aj F a J) s λx s1=>W (Mi.bool x) s1 λk s2=>W (if k=true then ev aq aj F b J else M.ret (.d (.bl false))) s2 P):W (ev aq aj F (.and a b) J) s P:=W.bd (h.imp λ_ _ h=>W.bd h)
theorem KaE{a b:E}(h:W (ev aq aj F a J) s λx s1=>W (Mi.bool x) s1 λk s2=>W (if k=true then M.ret (.d (.bl true)) else ev aq aj F b J) s2 P):W (ev aq aj F (.or a b) J) s P:=W.bd (h.imp λ_ _ h=>W.bd h)
theorem KaD{a:E}(h:W (ev aq aj F a J) s λx s1=>W (Mi.bool x) s1 λk s2=>P (.d (.bl (!k))) s2):W (ev aq aj F (.not a) J) s P:=W.bd (h.imp λ_ _ h=>W.bd (h.imp λ_ _ h=>W.ret h))
theorem KaH{xs:Es}(h:W (evs aq aj F xs J) s λvs s1=>W (cM vs) s1 λds s2=>P (.d (.tup ds)) s2):W (ev aq aj F (.tup xs) J) s P:=W.bd (h.imp λ_ _ h=>W.bd (h.imp λ_ _ h=>W.ret h))
theorem KaC{fz:Bool}{xs:Es}(h:W (evs aq aj F xs J) s λvs s1=>W (cM vs) s1 λds s2=>W (newL fz ds) s2 P):W (ev aq aj F (.lst fz xs) J) s P:=W.bd (h.imp λ_ _ h=>W.bd h)
theorem Kaz{k:Str}{i:Int}(h:P (.d (.fd [.str k] [.int i])) s):W (ev aq aj F (.B_ k i) J) s P:=W.ret h
theorem Z9{f:Nat}{xs:Es}(h:W (evs aq aj F xs J) s λvs s1=>W (bU (F f) vs) s1 P):W (ev aq aj F (.call f xs) J) s P:=W.bd h
theorem KaG{fz:Bool}{a:E}{lo hi:Eo}(h:W (ev aq aj F a J) s λx s1=>W (tV aq aj F lo J) s1 λl s2=>W (tV aq aj F hi J) s2 λu s3=>W (rd x) s3 λd s4=>W (cI fz (cutD d l u)) s4 P):W (ev aq aj F (.sl fz a lo hi) J) s P:=W.bd (h.imp λ_ _ h=>W.bd (h.imp λ_ _ h=>W.bd (h.imp λ_ _ h=>W.bd h)))
theorem KaQ{P:Option Int->S->Prop}(h:P none s):W (tV aq aj F .no J) s P:=W.ret h
theorem KaR{a:E}{P:Option Int->S->Prop}(h:W (ev aq aj F a J) s λx s1=>W (Mi.int x) s1 λi s2=>P (some i) s2):W (tV aq aj F (.yes a) J) s P:=W.bd (h.imp λ_ _ h=>W.bd (h.imp λ_ _ h=>W.ret h))
theorem Kaj{P:List Xv->S->Prop}(h:P [] s):W (evs aq aj F .nil J) s P:=W.ret h
theorem Z_{a:E}{r:Es}{P:List Xv->S->Prop}(h:W (ev aq aj F a J) s λx s1=>W (evs aq aj F r J) s1 λxs s2=>P (x::xs) s2):W (evs aq aj F (.cons a r) J) s P:=W.bd (h.imp λ_ _ h=>W.bd (h.imp λ_ _ h=>W.ret h))
theorem KaM{a:E}{P:Src×Nat->S->Prop}(h:W (ev aq aj F a J) s λx s1=>W (src x) s1 P):W (gK aq aj F (.seq a) J) s P:=W.bd h
end
section
variable {aq:Nat->Nat->Bool}{aj:Bool}{F:Bool->Fn}{J:Vs}{s:S}{Q:Out->S->Prop}
theorem WS.TX{b:Bool}{m1 m2:MS}(e:b=true)(h:WS m1 s Q):WS (if b=true then m1 else m2) s Q:=by rw[if_pos e];exact h
theorem WS.TY{b:Bool}{m1 m2:MS}(e:b=false)(h:WS m2 s Q):WS (if b=true then m1 else m2) s Q:=by rw[if_neg (by rw[e];decide)];exact h
theorem WS.Aa{m1 m2:MS}(h:WS m1 s Q):WS (if true=true then m1 else m2) s Q:=by rw[if_pos rfl];exact h
theorem WS.T3{m1 m2:MS}(h:WS m2 s Q):WS (if false=true then m1 else m2) s Q:=by rw[if_neg RB];exact h
theorem Kba{e:E}(h:W (ev aq aj (F aj) e J) s λ_ s1=>Q (.nx J) s1):WS (ex aq aj F (.ex e) J) s Q:=WS.ofM (h.imp λ_ _ h=>WS.nx h)
theorem Kbd{i:Nat}{e:E}(h:W (ev aq aj (F aj) e J) s λx s1=>Q (.nx (J.set i (some x))) s1):WS (ex aq aj F (.asg (.nm i) e) J) s Q:=WS.ofM (h.imp λ_ _ h=>WS.nx h)
theorem Kbi{is:List Nat}{e:E}(h:W (ev aq true (F true) e J) s λx s1=>W (dat x) s1 λd s2=>yD ((kj d).bind λds=>gC is (ds.map .d) J) λJ'=>Q (.nx J') s2):WS (ex aq true F (.asg (.tp is) e) J) s Q:=by
 refine WS.ofM (h.imp λx s1 h=>?_);exact WS.Aa (m2:=λ_=>none) (WS.ofM (W.bd (h.imp λd s2 ⟨J',e,q⟩=>W.opt e (WS.nx q))))
theorem Kbh{o i e:E}(h:W (ev aq aj (F aj) e J) s λx s1=>W (dat x) s1 λd s2=>W (ev aq aj (F aj) o J) s2 λy s3=>W (ev aq aj (F aj) i J) s3 λz s4=>W (Mi.int z) s4 λj s5=>W (dh y) s5 λnx s6=>yD (L2.sy nx.2.length j) λq=>Q (.nx J) (s6.set nx.1 (.lst (nx.2.set q d)))):WS (ex aq aj F (.asg (.aq o i) e) J) s Q:=by
 refine WS.ofM (h.imp λx s1 h=>WS.ofM (W.bd (h.imp λd s2 h=>W.bd (h.imp λy s3 h=>W.bd (h.imp λz s4 h=>W.bd (h.imp λj s5 h=>W.bd (h.imp λnx s6 h=>?_)))))));obtain⟨q,e,h⟩:=h;simp only[e];exact TV (WS.nx h)
theorem Kbe{i j:Nat}{a b:E}(h:W (ev aq true (F true) a J) s λx s1=>W (ev aq true (F true) b J) s1 λy s2=>Q (.nx ((J.set i (some x)).set j (some y))) s2):WS (ex aq true F (.par i j a b) J) s Q:=by
 exact WS.Aa (m2:=λ_=>none) (WS.ofM (W.bd (h.imp λx s1 h=>W.bd (h.imp λy s2 h=>W.ret (WS.nx h)))))
theorem Kbf{e:E}(h:W (ev aq aj (F aj) e J) s λx s1=>Q (.rt x) s1):WS (ex aq aj F (.ret e) J) s Q:=WS.ofM (h.imp λ_ _ h=>WS.rt h)
theorem Kbc{c:E}{t e:cB}(h:W (ev aq aj (F aj) c J) s λx s1=>W (Mi.bool x) s1 λb s2=>WS (if b=true then exs aq aj F t J else exs aq aj F e J) s2 Q):WS (ex aq aj F (.iff c t e) J) s Q:=WS.ofM (W.bd h)
theorem Kbb{t:Tg}{w:Wk}{b:cB}(h:W (gK aq true (F true) w J) s λcn s1=>WS (cN cn.1 (λd J=>Mi.bO (store aq true (F true) t (.d d) J) λJ'=>exs aq true F b J') (cn.2+1) 0 J) s1 Q):WS (ex aq true F (.fr t w b) J) s Q:=by
 exact WS.Aa (m2:=λ_=>none) (WS.ofM h)
end
theorem W.TX{α:Type}{b:Bool}{m1 m2:M α}{s:S}{P:α->S->Prop}(e:b=true)(h:W m1 s P):W (if b=true then m1 else m2) s P:=by rw[if_pos e];exact h
theorem W.TY{α:Type}{b:Bool}{m1 m2:M α}{s:S}{P:α->S->Prop}(e:b=false)(h:W m2 s P):W (if b=true then m1 else m2) s P:=by rw[if_neg (by rw[e];decide)];exact h
theorem W.Aa{α:Type}{m1 m2:M α}{s:S}{P:α->S->Prop}(h:W m1 s P):W (if true=true then m1 else m2) s P:=by rw[if_pos rfl];exact h
theorem W.T3{α:Type}{m1 m2:M α}{s:S}{P:α->S->Prop}(h:W m2 s P):W (if false=true then m1 else m2) s P:=by rw[if_neg RB];exact h
structure Bx(R:Prop):Prop where
 o:R
end Mi
namespace Mi
open PySem PySem.W PyProof.Rows L2
def tH{α:Type}(lt:Nat->Nat->Option Bool)(t:KasT α)(P:α->Prop):Prop:=∃a,bF lt t=some a/\P a
section
variable {α β:Type}{lt:Nat->Nat->Option Bool}{n:Nat}
theorem tH.ret(h:P a):tH lt (.ret a) P:=⟨a,rfl,h⟩
theorem tH.bind(hf:∀a,P a->tH lt (f a) R):∀{t:KasT α},tH lt t P->tH lt (t.bind f) R
 |.ret a,⟨a',e,h⟩=>by cases e;exact hf _ h
 |.ask i j k,⟨a',e,h⟩=>by
  unfold bF at e;cases el:lt i j with
  |none=>rw[el] at e;cases e
  |some b=>
   rw[el] at e;obtain⟨c,e1,h1⟩:=tH.bind hf (t:=k b) ⟨a',e,h⟩;refine⟨c,?_,h1⟩;show bF lt (.ask i j λb=>(k b).bind f)=some c;unfold bF;rw[el];exact e1
def Tot(n:Nat)(lt:Nat->Nat->Option Bool):Prop:=∀i j,i<n->j<n->∃b,lt i j=some b
variable (ht:Tot n lt)(hn:0<n)
include ht hn
end
section
variable {lt:Nat->Nat->Option Bool}{n:Nat}
theorem zgj(h:∀k,1<=k->k<n->lt (p.getD k 0) (p.getD (k-1) 0)=some false):∀f k,1<=k->k+f=n->tH lt (kas_asc p f k) λr=>r=n
 |0,k,h1,e=>.ret gV
 |f+1,k,h1,e=>by
  obtain⟨a,e1,e2⟩:=zgj h f (k+1) gV gV;refine⟨a,?_,e2⟩;unfold kas_asc bF;rw[h k h1 gV];exact e1
theorem zee(hk:k<n):(List.range n).toArray.getD k 0=k:=by
 simp[Array.getD,hk]
theorem zgI(hn:0<n)(h:∀k,k+1<n->lt (k+1) k=some false):bF lt (kas_sort n)=some (List.range n).toArray:=by
 have h1:tH lt (kas_asc (List.range n).toArray (n-1) 1) λr=>r=n:=zgj (λk a b=>by
  rw[zee b,zee gV];have:=h (k-1) gV
  rwa [show k-1+1=k by lia] at this) _ _ (cj _) gV
 have h2:tH lt (kas_count n (List.range n).toArray) λr=>r=(n,(List.range n).toArray):=by
  refine tH.bind (λr hr=>?_) h1;subst hr;rw[if_pos Zaa];exact .ret rfl
 have h3:tH lt (kas_sort n) λr=>r=(List.range n).toArray:=by
  refine tH.bind (λr hr=>?_) h2;subst hr;rw[if_neg (pP _)];exact .ret rfl
 obtain⟨a,e,rfl⟩:=h3;exact e
end
theorem zhh(hk:(xs.all kh||xs.all jf)=true)(nO:xs.length<64)(h:∀k,k+1<xs.length->zG xs (k+1) k=some false):zJ xs=some xs:=by
 unfold zJ;rw[if_pos hk];unfold jr;by_cases h2:xs.length<2
 ·rw[if_pos h2]
 ·rw[if_neg h2,if_pos nO,zgI gV h];dsimp only;rw[if_pos Zaa]
  congr 1
  apply List.ext_getElem
  ·simp
  ·intro i a b;simp[nF,b]
noncomputable def kW(p:Int×Int):D:=.tup [.int p.1,.int p.2]
end Mi
namespace Mi
open PySem
theorem W.walk{c:List D}{f:D->List D->M (List D)}{s:S}{acc:List D}{P:List D->S->Prop}(I:Nat->List D->S->Prop)(h0:I 0 acc s)(hb:∀i x acc s,c[i]?=some x->I i acc s->W (f x acc) s λa s'=>I (i+1) a s')
  (he:∀acc s,I c.length acc s->P acc s):W (Mi.walk (.fix c) f (c.length+1) 0 acc) s P:=by
 have key:∀n i acc s,i+n=c.length->I i acc s->W (Mi.walk (.fix c) f (n+1) i acc) s P:=by
  intro n
  induction n with
  |zero=>
   intro i acc s hi hI;have e:c[i]?=none:=by rw[qK];lia
   have:i=c.length:=by lia
   subst this;refine⟨acc,s,?_,he acc s hI⟩;unfold Mi.walk;simp only[Src.at,e]
  |succ n ih=>
   intro i acc s hi hI;have cL:i<c.length:=by lia
   have e:c[i]?=some c[i]:=eE cL;obtain⟨a,s',eb,Dg⟩:=hb i c[i] acc s e hI;obtain⟨a2,s2,e2,q⟩:=ih (i+1) a s' gV Dg;refine⟨a2,s2,?_,q⟩;unfold Mi.walk;simp only[Src.at,e,M.bd,eb];exact e2
 exact key c.length 0 acc s gV h0
section
variable {aq:Nat->Nat->Bool}{F:Fn}{J:Vs}{s:S}{P:Xv->S->Prop}
theorem Kar{fz:Bool}{elt:E}{tg:List Nat}{it:Wk}{fr:List Nat}{many:Nat}{cond:Eo}{c:List D}(g:D->Option D)(hc:c.length<=sizeLine)
  (hw:W (gK aq true F it J) s λcn s1=>cn=(.fix c,c.length)/\s1=s)
  (hb:∀x∈c,∃J',fC tg x (blk many fr J)=some J'/\W (mj aq true F cond J') s λb s1=>s1=s/\(if b=true then W (ev aq true F elt J') s λy s2=>s2=s/\∃d,y=.d d/\g x=some d else g x=none))
  (h:W (newL fz (c.filterMap g)) s P):W (ev aq true F (.comp fz elt tg it fr many cond) J) s P:=by
 change W (_root_.ite (true=true) _ _) s P
 rw[if_pos rfl];refine W.bd (hw.imp λcn s1=>?_);rintro⟨rfl,rfl⟩;refine W.bd ?_;refine W.walk (c:=c) (λi acc s'=>s'=s1/\acc=(c.take i).filterMap g) ⟨rfl,rfl⟩ (λi x acc s' e hI=>?_) (λacc s' hI=>?_)
 ·obtain⟨rfl,rfl⟩:=hI;have hi:i<c.length:=(fG.mp e).1;have ht:c.take (i+1)=c.take i++[x]:=by rw[List.take_succ,e];rfl
  have hl:((c.take i).filterMap g).length<sizeLine:=DW (O_ _ _) (by rw[Ak];lia);obtain⟨J',e1,h1⟩:=hb x (gH e);refine W.bd (W.opt e1 ?_);refine W.bd (W.qt (h1.imp λb s2=>?_));rintro⟨rfl,h2⟩;rw[ht,List.filterMap_append];cases b
  ·rw[if_neg RB] at h2 ⊢;refine W.ret ⟨rfl,?_⟩;simp[h2]
  ·rw[if_pos rfl] at h2 ⊢;refine W.bd (W.qt (h2.imp λy s3=>?_));rintro⟨rfl,d,rfl,eg⟩;refine W.bd (W.dat ?_);rw[if_pos hl];refine W.ret ⟨rfl,?_⟩;simp[eg]
 ·obtain⟨rfl,rfl⟩:=hI;rw[GD];exact h
end
section
variable {aq:Nat->Nat->Bool}{aj:Bool}{F:Fn}{J:Vs}{s:S}{P:Xv->S->Prop}
theorem KaA(h:W (ev aq aj F a J) s λx s1=>W (rd x) s1 λd s2=>∃b,lX aq d k=some b/\P (.d (.bl b)) s2):W (ev aq aj F (.mW a k) J) s P:=
 W.bd (h.imp λ_ _ h=>W.bd (h.imp λ_ _ ⟨_,e,h⟩=>W.bd (W.opt e (W.ret h))))
theorem Kay(h:W (ev aq aj F a J) s λx s1=>W (ev aq aj F b J) s1 λy s2=>W (g_ [x,y]) s2 λds s3=>W (cI true (prim p ds)) s3 λt s4=>W (Mi.bool t) s4 λk s5=>
  W (if k=true then M.bd (ev aq aj F c J) λz=>M.bd (g_ [y,z]) λds=>cI true (prim q ds) else M.ret (.d (.bl false))) s5 P):W (ev aq aj F (.xT p q a b c) J) s P:=
 W.bd (h.imp λ_ _ h=>W.bd (h.imp λ_ _ h=>W.bd (h.imp λ_ _ h=>W.bd (h.imp λ_ _ h=>W.bd h))))
end
noncomputable def Ke(fz:Bool):Option Rz->Option Xv
 |some (.dat d)=>some (.d d)
 |some (.nw ys)=>match fz with
  |true=>some (.d (.fl ys))
  |false=>none
 |none=>none
noncomputable def addQ:D->D->Option Rz
 |.int i,.int j=>some (.dat (.int (i+j)))
 |_,_=>none
noncomputable def Ab:List D->Option Rz
 |a::r=>match r with
  |b::r=>match r with
   |[]=>addQ a b
   |_::_=>none
  |[]=>none
 |[]=>none
noncomputable def quick:Pr->Bool
 |.sH=>false|.Fg=>false|.mul=>false|.fdiv=>false|.mod=>false|.pow=>false|.divmod=>false|.sorted=>false|.qY=>false|.I_=>false|.mult=>false|.zE=>false|.repr=>false|.str1=>false|.Yh=>false|.I8=>false|.I9=>false
 |_=>true
noncomputable def rF(p:Pr)(ds:List D):Option Rz:=match p with
 |.add=>Ab ds
 |p=>match quick p with
  |true=>prim p ds
  |false=>none
theorem Kf{ds:List D}{r:Rz}(h:Ab ds=some r):Cd ds=some r:=by
 cases ds with
 |nil=>cases h
 |cons a t=>cases t with
  |nil=>cases h
  |cons b t=>cases t with
   |cons _ _=>cases h
   |nil=>cases a with
    |int i=>cases b with
     |int j=>exact h
     |_=>cases h
    |_=>cases h
theorem Dh{p:Pr}{ds:List D}{r:Rz}(h:rF p ds=some r):prim p ds=some r:=by
 cases p with
 |add=>exact Kf h
 |_=>first|exact h|cases h
noncomputable def T4(fz:Bool)(ds:List D):Option Xv:=match fz with
 |true=>some (.d (.fl ds))
 |false=>none
noncomputable def Kg:Xv->Option D
 |.d x=>some x
 |.l _=>none
noncomputable def obP(c:Nat):Xv->Option (List D)
 |.d (.ob e fs)=>if e=c then some fs else none
 |_=>none
noncomputable def notP:Xv->Option Xv
 |.d (.bl b)=>some (.d (.bl (!b)))
 |_=>none
noncomputable def T5(r:Option Xv):Xv->Option Xv
 |.d (.bl true)=>r
 |.d (.bl false)=>some (.d (.bl false))
 |_=>none
noncomputable def orP(r:Option Xv):Xv->Option Xv
 |.d (.bl true)=>some (.d (.bl true))
 |.d (.bl false)=>r
 |_=>none
section
variable (aq:Nat->Nat->Bool)
mutual
noncomputable def dG:E->Vs->Option Xv
 |.c d,_=>some (.d d)
 |.v i,J=>J[i]?.join
 |.pr fz p xs,J=>(qI xs J).bind λds=>Ke fz (rF p ds)
 |.tup xs,J=>(qI xs J).bind λds=>some (.d (.tup ds))
 |.lst fz xs,J=>(qI xs J).bind λds=>T4 fz ds
 |.not a,J=>(dG a J).bind notP
 |.and a b,J=>(dG a J).bind (T5 (dG b J))
 |.or a b,J=>(dG a J).bind (orP (dG b J))
 |.mW a k,J=>(dG a J).bind λx=>(Kg x).bind λd=>(lX aq d k).bind λb=>some (.d (.bl b))
 |.of o c i,J=>(dG o J).bind λx=>(obP c x).bind λfs=>fs[i]?.map .d
 |_,_=>none
noncomputable def qI:Es->Vs->Option (List D)
 |.nil,_=>some []
 |.cons a r,J=>(dG a J).bind λx=>(Kg x).bind λd=>(qI r J).bind λds=>some (d::ds)
end
noncomputable def o9:Es->Vs->Option (List Xv)
 |.nil,_=>some []
 |.cons a r,J=>(dG aq a J).bind λx=>(o9 r J).bind λxs=>some (x::xs)
end
theorem nu{α β:Type}{o:Option α}{f:α->Option β}{b:β}(h:o.bind f=some b):∃a,o=some a/\f a=some b:=yO.mp h
theorem jy{α β:Type}{m:M α}{k:α->M β}{s s':S}{a:α}(e:m s=some (.ok a,s')):M.bd m k s=k a s':=by
 show (match m s with|some (.ok a,s')=>k a s'|some (.er c f,s')=>some (.er c f,s')|none=>none)=_;rw[e]
theorem Di(s:S):∀ds:List D,g_ (ds.map .d) s=some (.ok ds,s)
 |[]=>rfl
 |d::r=>(jy (s':=s) (a:=d) rfl).trans ((jy (Di s r)).trans rfl)
theorem vC(s:S):∀ds:List D,cM (ds.map .d) s=some (.ok ds,s)
 |[]=>rfl
 |d::r=>(jy (s':=s) (a:=d) rfl).trans ((jy (vC s r)).trans rfl)
theorem T6{fz:Bool}{p:Pr}{ds:List D}{x:Xv}{s:S}(h:Ke fz (rF p ds)=some x):cI fz (prim p ds) s=some (.ok x,s):=by
 cases o:rF p ds with
 |none=>rw[o] at h;cases h
 |some r=>
  rw[o] at h;rw[Dh o];cases r with
  |dat d=>cases h;rfl
  |nw ys=>cases fz with
   |true=>cases h;rfl
   |false=>cases h
section
variable {aq:Nat->Nat->Bool}{aj:Bool}{F:Fn}{J:Vs}{s:S}
theorem gD(e:E):∀x:Xv,dG aq e J=some x->ev aq aj F e J s=some (.ok x,s):=by
 refine E.rec (motive_1:=λe=>∀x:Xv,dG aq e J=some x->ev aq aj F e J s=some (.ok x,s)) (motive_2:=λ_=>True) (motive_3:=λxs=>∀ds:List D,qI aq xs J=some ds->evs aq aj F xs J s=some (.ok (ds.map .d),s)) (motive_4:=λ_=>True)
  ?c ?v ?pr (λ_ _ _ _ _ _ _ _ _ h=>nomatch h) (λ_ _ _ _ _ _ _ _ _ _ _ _ h=>nomatch h) ?and ?or ?not (λ_ _ _ _ _ _ _ h=>nomatch h) ?tup ?lst (λ_ _ _ h=>nomatch h) (λ_ _ _ _ h=>nomatch h) ?mW (λ_ _ _ _ _ _ _ _ h=>nomatch h) (λ_ _ _ _ _ _ _ _ h=>nomatch h) (λ_ _ _ _ _ h=>nomatch h) (λ_ _ _ h=>nomatch h)
  (λ_ _ _ _ _ _ _ _ _ _ _ h=>nomatch h) (λ_ _ _ _ _ _ _ _ _ _ _ _ _ _ h=>nomatch h) (λ_ _ _ _ _ h=>nomatch h) ?of (λ_ _ _ _ _ h=>nomatch h) (λ_ _ _ _ _ _ _ h=>nomatch h) (λ_ h=>nomatch h) (λ_ _ _ _ _ _ h=>nomatch h) (λ_ _ _ _ _ h=>nomatch h) (λ_ _ _ h=>nomatch h) (λ_ _ _ _ _ _ h=>nomatch h) (λ_ _ _ _ _ h=>nomatch h) (λ_ _ _ _ _ _ _ h=>nomatch h) (λ_ h=>nomatch h)
  (λ_ _=>trivial) (λ_ _ _ _=>trivial) (λ_ _ _ _=>trivial) (λ_ _=>trivial) (λ_ _=>trivial) ?nil ?cons trivial (λ_ _=>trivial) e
 case c=>intro d x h;cases h;rfl
 case v=>intro i x h;exact(show M.opt (J[i]?.join) s=_ from by rw[show J[i]?.join=some x from h];rfl)
 case pr=>
  intro fz p xs ih x h;obtain⟨ds,e1,e2⟩:=nu h;exact(jy (ih _ e1)).trans ((jy (Di s ds)).trans (T6 e2))
 case tup=>
  intro xs ih x h;obtain⟨ds,e1,e2⟩:=nu h;cases e2;exact(jy (ih _ e1)).trans ((jy (vC s ds)).trans rfl)
 case lst=>
  intro fz xs ih x h;obtain⟨ds,e1,e2⟩:=nu h;cases fz with
  |false=>cases e2
  |true=>cases e2;exact(jy (ih _ e1)).trans ((jy (vC s ds)).trans rfl)
 case not=>
  intro a ih x h;obtain⟨y,e1,e2⟩:=nu h;cases y with
  |l n=>cases e2
  |d y=>cases y with
   |bl b=>cases e2;exact(jy (ih _ e1)).trans rfl
   |_=>cases e2
 case and=>
  intro a b ih ih2 x h;obtain⟨y,e1,e2⟩:=nu h;cases y with
  |l n=>cases e2
  |d y=>cases y with
   |bl b=>cases b with
    |true=>exact(jy (ih _ e1)).trans (ih2 _ e2)
    |false=>cases e2;exact(jy (ih _ e1)).trans rfl
   |_=>cases e2
 case or=>
  intro a b ih ih2 x h;obtain⟨y,e1,e2⟩:=nu h;cases y with
  |l n=>cases e2
  |d y=>cases y with
   |bl b=>cases b with
    |true=>cases e2;exact(jy (ih _ e1)).trans rfl
    |false=>exact(jy (ih _ e1)).trans (ih2 _ e2)
   |_=>cases e2
 case mW=>
  intro a k ih x h;obtain⟨y,e1,e2⟩:=nu h;cases y with
  |l n=>cases e2
  |d y=>
   obtain⟨d,e3,e4⟩:=nu e2;cases e3;obtain⟨b,e5,e6⟩:=nu e4;cases e6;refine(jy (ih _ e1)).trans ((jy (s':=s) (a:=y) rfl).trans ((jy (s':=s) (a:=b) ?_).trans rfl));rw[e5];rfl
 case of=>
  intro o c i ih x h;obtain⟨y,e1,e2⟩:=nu h;obtain⟨fs,e3,e4⟩:=nu e2;refine(jy (ih _ e1)).trans ((jy (s':=s) (a:=fs) ?_).trans ?_)
  ·cases y with
   |l n=>cases e3
   |d y=>cases y with
    |ob e gs=>
     have e3:(if e=c then some gs else none)=some fs:=e3;show (if e=c then M.ret gs else M.no) s=_;split at e3
     ·rename_i h;cases e3;rw[if_pos h];rfl
     ·cases e3
    |_=>cases e3
  ·show M.opt (fs[i]?.map Xv.d) s=_;rw[e4];rfl
 case nil=>intro ds h;cases h;rfl
 case cons=>
  intro a r ih ih2 ds h;obtain⟨y,e1,e2⟩:=nu h;cases y with
  |l n=>cases e2
  |d y=>
   obtain⟨d,e3,e4⟩:=nu e2;cases e3;obtain⟨rs,e5,e6⟩:=nu e4;cases e6;exact(jy (ih _ e1)).trans ((jy (ih2 _ e5)).trans rfl)
theorem vD:∀(xs:Es) (ds:List D),qI aq xs J=some ds->evs aq aj F xs J s=some (.ok (ds.map .d),s)
 |.nil,ds,h=>by cases h;rfl
 |.cons a r,ds,h=>by
  obtain⟨y,e1,e2⟩:=nu h;cases y with
  |l n=>cases e2
  |d y=>
   obtain⟨d,e3,e4⟩:=nu e2;cases e3;obtain⟨rs,e5,e6⟩:=nu e4;cases e6;exact(jy (gD a _ e1)).trans ((jy (vD r _ e5)).trans rfl)
theorem jT:∀(xs:Es) {vs:List Xv},o9 aq xs J=some vs->evs aq aj F xs J s=some (.ok vs,s)
 |.nil,vs,h=>by cases h;rfl
 |.cons a r,vs,h=>by
  obtain⟨y,e1,e2⟩:=nu h;obtain⟨ys,e3,e4⟩:=nu e2;cases e4;exact(jy (gD a _ e1)).trans ((jy (jT r e3)).trans rfl)
variable {P:Xv->S->Prop}
theorem W.pv{e:E}{x:Xv}(h:dG aq e J=some x)(k:P x s):W (ev aq aj F e J) s P:=W.eq (gD e _ h) k
theorem KaX{f:Nat}{xs:Es}{vs:List Xv}(h:o9 aq xs J=some vs)(k:W (bU (F f) vs) s P):W (ev aq aj F (.call f xs) J) s P:=Z9 (W.eq (jT xs h) k)
theorem KaY{fz:Bool}{p:Pr}{xs:Es}{ds:List D}(h:qI aq xs J=some ds)(k:W (cI fz (prim p ds)) s P):W (ev aq aj F (.pr fz p xs) J) s P:=Z0 (W.eq (vD xs _ h) (W.eq (Di s ds) k))
theorem KaW{xs:Es}{vs:List Xv}{P:List Xv->S->Prop}(h:o9 aq xs J=some vs)(k:P vs s):W (evs aq aj F xs J) s P:=W.eq (jT xs h) k
end
section
variable {aq:Nat->Nat->Bool}{aj:Bool}{F:Bool->Fn}{J:Vs}{s:S}{Q:Out->S->Prop}{e:E}{r:cB}
theorem Ka8{i:Nat}{x:Xv}(h:dG aq e J=some x)(k:WS (exs aq aj F r (J.set i (some x))) s Q):WS (exs aq aj F (.cons (.asg (.nm i) e) r) J) s Q:=WS.cons (Kbd (W.pv h k))
theorem Ka9{x:Xv}(h:dG aq e J=some x)(k:Q (.rt x) s):WS (exs aq aj F (.cons (.ret e) r) J) s Q:=WS.cons (Kbf (W.pv h k))
theorem Ka7{b:Bool}{t u:cB}(h:dG aq e J=some (.d (.bl b)))(k:WS (if b=true then exs aq aj F t J else exs aq aj F u J) s λo s'=>match o with|.nx J'=>WS (exs aq aj F r J') s' Q|.rt x=>Q (.rt x) s'|_=>False):WS (exs aq aj F (.cons (.iff e t u) r) J) s Q:=WS.cons (Kbc (W.pv h (W.bool k)))
end
section
variable {aq:Nat->Nat->Bool}{aj:Bool}{F:Bool->Fn}{J:Vs}{s:S}{Q:Out->S->Prop}{c:Nat}{fs:List D}
theorem Kbg{c:Nat}{kp:Bool}{xs:Es}(h:W (evs aq true (F true) xs J) s λvs s1=>W (cM vs) s1 λds s2=>Q (.er c (if kp=true then ds else []) J) s2):WS (ex aq true F (.rise c kp xs) J) s Q:=by
 refine WS.Aa (m2:=λ_=>none) (WS.ofM (W.bd (h.imp λvs s1 h=>h.imp λds s2 h=>?_)));exact⟨_,s2,rfl,h⟩
theorem Kbl{m:MS}{k:Vs->MS}(h:WS m s λo s'=>match o with|.nx J'=>WS (k J') s' Q|.rt x=>Q (.rt x) s'|_=>False):WS (Mi.bO m k) s Q:=by
 obtain⟨o,s',e,q⟩:=h;unfold WS Mi.bO;rw[e];cases o with
 |nx J'=>exact q
 |rt x=>exact⟨_,_,rfl,q⟩
 |bk _=>exact q.elim
 |ct _=>exact q.elim
 |er _ _ _=>exact q.elim
theorem Kbj{F:Fn}{i:Nat}{x:Xv}(h:Q (.nx (J.set i (some x))) s):WS (store aq aj F (.nm i) x J) s Q:=⟨_,s,rfl,h⟩
theorem Kbk{F:Fn}{is:List Nat}{d:D}(h:yD ((kj d).bind λds=>gC is (ds.map .d) J) λJ'=>Q (.nx J') s):WS (store aq true F (.tp is) (.d d) J) s Q:=by
 obtain⟨J',e,q⟩:=h;exact WS.Aa (m2:=λ_=>none) (WS.ofM (W.bd (W.dat (W.opt e (WS.nx q)))))
end
section
variable {aq:Nat->Nat->Bool}{aj:Bool}{F:Fn}{J:Vs}{s:S}{P:Xv->S->Prop}
theorem W.mW{a:E}{k:Kd}(h:W (ev aq aj F a J) s λx s1=>W (rd x) s1 λd s2=>yD (lX aq d k) λb=>P (.d (.bl b)) s2):W (ev aq aj F (.mW a k) J) s P:=KaA h
theorem W.xT{p q:Pr}{a b c:E}(h:W (ev aq aj F a J) s λx s1=>W (ev aq aj F b J) s1 λy s2=>W (g_ [x,y]) s2 λds s3=>W (cI true (prim p ds)) s3 λt s4=>W (Mi.bool t) s4 λk s5=>
  W (if k=true then M.bd (ev aq aj F c J) λz=>M.bd (g_ [y,z]) λds=>cI true (prim q ds) else M.ret (.d (.bl false))) s5 P):W (ev aq aj F (.xT p q a b c) J) s P:=Kay h
theorem KaB{c a b:E}(h:W (ev aq aj F c J) s λx s1=>W (Mi.bool x) s1 λk s2=>W (if k=true then ev aq aj F a J else ev aq aj F b J) s2 P):W (ev aq aj F (.ite c a b) J) s P:=W.bd (h.imp λ_ _ h=>W.bd h)
theorem KaK{a:E}{P:Src×Nat->S->Prop}(h:W (ev aq aj F a J) s λx s1=>W (oO x) s1 P):W (gK aq aj F (.enum a) J) s P:=W.bd h
theorem KaI{xs:List D}{P:Src×Nat->S->Prop}(h:P (.fix (enumFrom 0 xs),(enumFrom 0 xs).length) s):W (oO (.d (.fl xs))) s P:=⟨_,s,rfl,h⟩
theorem KaL{a b:E}{P:Src×Nat->S->Prop}(h:W (ev aq aj F a J) s λx s1=>W (ev aq aj F b J) s1 λy s2=>W (Mi.int x) s2 λi s3=>W (Mi.int y) s3 λj s4=>(gA i&&gA j)=true/\P (.fix (lZ i j),(lZ i j).length) s4):W (gK aq aj F (.rg a b) J) s P:=by
 refine W.bd (h.imp λx s1 h=>W.bd (h.imp λy s2 h=>W.bd (h.imp λi s3 h=>W.bd (h.imp λj s4 h=>?_))));rw[if_pos h.1];exact W.ret h.2
theorem KaN{a b:E}{P:Src×Nat->S->Prop}(h:W (ev aq aj F a J) s λx s1=>W (ev aq aj F b J) s1 λy s2=>W (qm x) s2 λxs s3=>W (qm y) s3 λys s4=>P (.fix (List.zipWith (λp q=>.tup [p,q]) xs ys),(List.zipWith (λ(p q:D)=>D.tup [p,q]) xs ys).length) s4):W (gK aq aj F (.zip a b) J) s P:=
 W.bd (h.imp λx s1 h=>W.bd (h.imp λy s2 h=>W.bd (h.imp λxs s3 h=>W.bd (h.imp λys s4 h=>W.ret h))))
theorem W.jK{xs:List D}{P:List D->S->Prop}(h:P xs s):W (qm (.d (.tup xs))) s P:=W.ret h
theorem W.sY{xs:List D}{P:List D->S->Prop}(h:P xs s):W (qm (.d (.fl xs))) s P:=W.ret h
theorem Kak{P:Bool->S->Prop}(h:P true s):W (mj aq aj F .no J) s P:=W.ret h
theorem Kal{a:E}{P:Bool->S->Prop}(h:W (ev aq aj F a J) s λx s1=>W (Mi.bool x) s1 P):W (mj aq aj F (.yes a) J) s P:=W.bd h
theorem Kas(g:D->D)(hc:c.length<=sizeLine)
  (hw:W (gK aq true F it J) s λcn s1=>cn=(.fix c,c.length)/\s1=s)
  (hb:∀x∈c,yD (fC tg x (blk many fr J)) λJ'=>W (ev aq true F elt J') s λy s2=>s2=s/\y=.d (g x))
  (h:W (newL fz (c.map g)) s P):W (ev aq true F (.comp fz elt tg it fr many .no) J) s P:=by
 refine Kar (c:=c) (λx=>some (g x)) hc hw (λx hx=>?_) ?_
 ·obtain⟨J',e,h1⟩:=hb x hx;refine⟨J',e,W.ret ⟨rfl,?_⟩⟩;rw[if_pos rfl];exact h1.imp λy s2 ⟨a,b⟩=>⟨a,_,b,rfl⟩
 ·rw[show c.filterMap (λx=>some (g x))=c.map g by rw[<-List.filterMap_eq_map];rfl];exact h
theorem wB{α:Type}{f:α->D}{l:List α}{fz:Bool}{elt:E}{tg:List Nat}{it:Wk}{fr:List Nat}{many:Nat}{cond:Eo}(g:α->Option D)(hc:l.length<=sizeLine)
  (hw:W (gK aq true F it J) s λcn s1=>cn=(.fix (l.map f),(l.map f).length)/\s1=s)
  (hb:∀x∈l,yD (fC tg (f x) (blk many fr J)) λJ'=>W (mj aq true F cond J') s λb s1=>s1=s/\(b=true->W (ev aq true F elt J') s λy s2=>s2=s/\∃d,y=.d d/\g x=some d)/\(b=false->g x=none))
  (h:W (newL fz (l.filterMap g)) s P):W (ev aq true F (.comp fz elt tg it fr many cond) J) s P:=by
 change W (_root_.ite (true=true) _ _) s P
 rw[if_pos rfl];refine W.bd (hw.imp λcn s1=>?_);rintro⟨rfl,rfl⟩;refine W.bd ?_;refine W.walk (c:=l.map f) (λi acc s'=>s'=s1/\acc=(l.take i).filterMap g) ⟨rfl,rfl⟩ (λi x acc s' e hI=>?_) (λacc s' hI=>?_)
 ·obtain⟨rfl,rfl⟩:=hI;rw[jD] at e;cases el:l[i]? with
  |none=>rw[el] at e;cases e
  |some y=>
   rw[el] at e;cases e;have hi:i<l.length:=(fG.mp el).1;have ht:l.take (i+1)=l.take i++[y]:=by rw[List.take_succ,el];rfl
   have hl:((l.take i).filterMap g).length<sizeLine:=DW (O_ _ _) (by rw[Ak];lia);obtain⟨J',e1,h1⟩:=hb y (gH el);refine W.bd (W.opt e1 ?_);refine W.bd (W.qt (h1.imp λb s2=>?_));rintro⟨rfl,h2,h3⟩;rw[ht,List.filterMap_append];cases b
   ·rw[if_neg RB];refine W.ret ⟨rfl,?_⟩;simp[h3 rfl]
   ·rw[if_pos rfl];refine W.bd (W.qt ((h2 rfl).imp λy s3=>?_));rintro⟨rfl,d,rfl,eg⟩;refine W.bd (W.dat ?_);rw[if_pos hl];refine W.ret ⟨rfl,?_⟩;simp[eg]
 ·obtain⟨rfl,rfl⟩:=hI;rw[fZ,GD];exact h
theorem W.push{o a:E}(h:W (ev aq aj F o J) s λx s1=>W (Mi.dh x) s1 λ_ s2=>W (ev aq aj F a J) s2 λy s3=>W (Mi.dat y) s3 λd s4=>W (Mi.dh x) s4 λnx s5=>nx.2.length<sizeLine/\P (.d .non) (s5.set nx.1 (.lst (nx.2++[d])))):W (ev aq aj F (.push o a) J) s P:=by
 refine W.bd (h.imp λx s1 h=>W.bd (h.imp λ_ s2 h=>W.bd (h.imp λy s3 h=>W.bd (h.imp λd s4 h=>W.bd (h.imp λnx s5 h=>?_)))));rw[if_pos h.1];exact W.bd (TV (W.ret h.2))
end
theorem zeE{s:S}{o:SO}:(s++[o])[s.length]?=some o:=by simp
theorem Y{P R:Prop}(k:R)(h:Bx R->P:=by
 intro k
 repeat (first|with_reducible first
   |refine Ka8 (by with_unfolding_all rfl) ?_|refine Ka9 (by with_unfolding_all rfl) ?_|refine Ka7 (by with_unfolding_all rfl) ?_|refine W.pv (by with_unfolding_all rfl) ?_|refine KaY (by with_unfolding_all rfl) ?_|refine KaX (by with_unfolding_all rfl) ?_|refine KaW (by with_unfolding_all rfl) ?_
   |refine WS.cons ?_|refine WS.nil ?_|refine Kbl ?_|refine Kbj ?_|refine Kbk ?_|refine Kbd ?_|refine Kbf ?_|refine Kbc ?_|refine Kbi ?_|refine Kbh ?_|refine Kbe ?_|refine Kba ?_|refine Kbb ?_|refine Kbg ?_|refine WS.Aa ?_|refine WS.T3 ?_|refine WS.TX (by with_unfolding_all rfl) ?_|refine WS.TY (by with_unfolding_all rfl) ?_|refine yD.mk (by with_unfolding_all rfl) ?_
   |refine Z_ ?_|refine Kaj ?_|refine W.eC ?_|refine W.eV (by with_unfolding_all rfl) ?_|refine Z0 ?_|refine Z9 ?_|refine KaH ?_|refine KaC ?_|refine KaD ?_|refine Kaw ?_|refine KaE ?_|refine KaB ?_|refine W.mW ?_|refine W.xT ?_|refine W.push ?_|refine KaG ?_|refine Kaz ?_|refine KaQ ?_|refine KaR ?_|refine KaM ?_|refine KaL ?_|refine KaN ?_|refine KaK ?_|refine Kak ?_|refine Kal ?_|refine W.Aa ?_|refine W.T3 ?_|refine W.TX (by with_unfolding_all rfl) ?_|refine W.TY (by with_unfolding_all rfl) ?_
   |refine Ka1 ?_|refine Ka2 ?_|refine KaZ ?_|refine ZV (by with_unfolding_all rfl) ?_|refine ZV zeE ?_|refine Kau ?_|refine Kav ?_|refine W.dat ?_|refine W.bool ?_|refine W.int ?_|refine W.dh (by with_unfolding_all rfl) ?_|refine W.dh zeE ?_|refine TV ?_|refine Ka4 ?_|refine KaI ?_|refine W.jK ?_|refine W.sY ?_|refine Ka3 ?_|refine KaP ?_|refine KaO ?_
   |refine lC (by first|(with_unfolding_all rfl)|exact znP (by first|(left;constructor<;>lia)|(right;constructor<;>lia))|exact znm gV|exact zku gV|exact zhR gV|exact zmY RB) ?_|refine TQ (by with_unfolding_all rfl) ?_
   |refine W.ret ?_|refine W.bd ?_
   | (dsimp only))
 all_goals exact k.o):P:=h ⟨k⟩
def lx(p q:Int×Int):Prop:=p.1<q.1\/p.1=q.1/\p.2<q.2
noncomputable def fX(n:Int)(ps:List (Int×Int)):D:=.tup [.int n,.tup (ps.map kW)]
structure Web(n:Int)(ps:List (Int×Int)):Prop where
 h1:1<=n
 h8:n<=8
 tie:∀p∈ps,0<=p.1/\p.1<p.2/\p.2<n
 inc:ps.Pairwise lx
 len:(ps.length:Int)<=7*n
theorem zkl(h:∀x∈xs,x=.bl true):fB xs=some (List.replicate xs.length true):=by
 induction xs with
 |nil=>rfl
 |cons x r ih=>
  rw[h x Zaa];show Option.map _ (fB r)=_;rw[ih λy hy=>h y (by simp[hy])];rfl
theorem zih(h:∀x∈xs,x=.bl true):prim .all [.fl xs]=some (.dat (.bl true)):=by
 show Option.map _ (fB xs)=_;rw[zkl h];simp
theorem znI(h:lx p q):ltI [p.1,p.2] [q.1,q.2]=true:=by
 simp only[ltI];rcases h with h|⟨h,h2⟩
 ·rw[if_neg gV];simp[h]
 ·rw[if_pos h,if_neg gV];simp[h2]
theorem T7(xs:List D):cut xs (some 1) none=xs.drop 1:=by
 unfold cut;rw[HT.uH];rw[show (some 1:Option Int)=some ((1:Nat):Int) from rfl,HT.xu];cases xs with
 |nil=>rfl
 |cons x r=>simp
theorem ziy:∀{ps:List (Int×Int)},ps.Pairwise lx->∀x∈List.zipWith (λ(p q:D)=>D.tup [p,q]) (ps.map kW) ((ps.map kW).drop 1),∃p q,x=.tup [kW p,kW q]/\lx p q
 |[],_,x,hx=>by simp at hx
 |[p],_,x,hx=>by simp at hx
 |p::q::r,h,x,hx=>by
  rw[show (List.map kW (p::q::r)).drop 1=List.map kW (q::r) from rfl] at hx;have e:List.zipWith (λ(p q:D)=>D.tup [p,q]) (List.map kW (p::q::r)) (List.map kW (q::r))=.tup [kW p,kW q]::List.zipWith (λ(p q:D)=>D.tup [p,q]) (List.map kW (q::r)) (List.map kW r):=rfl;rw[e,jm] at hx;rcases hx with rfl|hx
  ·exact⟨p,q,rfl,(Gy.mp h).1 q Zaa⟩
  ·exact ziy (ps:=q::r) (Gy.mp h).2 x hx
theorem zfE:∀(xs:List D) (j i:Nat),(enumFrom j xs)[i]?=xs[i]?.map λx=>.tup [.int ((j+i:Nat):Int),x]
 |[],j,i=>by simp[enumFrom]
 |x::r,j,0=>by simp[enumFrom]
 |x::r,j,i+1=>by
  simp only[enumFrom,DG,zfE r (j+1) i];rw[show j+1+i=j+(i+1) by lia]
theorem zeW:∀(xs:List D) (j:Nat),(enumFrom j xs).length=xs.length
 |[],j=>rfl
 |x::r,j=>by simp[enumFrom,zeW r (j+1)]
theorem zlS{p:Int×Int}:¬lx p p:=by rintro(h|⟨_,h⟩)<;>lia
theorem zg4{ps:List (Int×Int)}(h:ps.Pairwise lx):ps.Nodup:=h.imp λ{p q} h e=>by subst e;exact zlS h
theorem zfX(h:zJ xs=some ys):prim .sorted [.fl xs]=some (.nw ys):=by
 show Option.map Rz.nw (zJ xs)=_;rw[h];rfl
theorem zhx{es:List Int}(nO:es.length<64)(h:es.Pairwise (·<·)):zJ (es.map D.int)=some (es.map D.int):=by
 refine zhh ?_ (by rw[fZ];exact nO) λk hk=>?_
 ·rw[Lz]
  left
  rw[List.all_map,iz];intro x _;rfl
 ·rw[fZ] at hk;unfold zG;rw[jD,jD,eE hk,eE (show k<es.length by lia)];have:=List.pairwise_iff_getElem.mp h k (k+1) gV hk gV;simp only[Option.map_some]
  congr 1
  apply uf
  lia
noncomputable def endOf(i:Int)(p:Int×Int):Option Int:=if p.1=i then some p.2 else if p.2=i then some p.1 else none
noncomputable def bM(i:Int)(ps:List (Int×Int)):List Int:=ps.filterMap (endOf i)
theorem zeX(h:Web n ps)(i:Int):(bM i ps).Pairwise (·<·):=by
 have ht:=h.tie;have hi:=h.inc;clear h;unfold bM
 induction ps with
 |nil=>simp
 |cons p r ih=>
  obtain⟨hp,hr⟩:=Gy.mp hi;have ih:=ih (λq hq=>ht q (by simp[hq])) hr;rw[Gu]
  split
  ·exact ih
  ·rename_i b eb;refine Gy.mpr ⟨λc hc=>?_,ih⟩;obtain⟨q,hq,eq⟩:=Gw.mp hc;have l:=hp q hq;have tp:=ht p Zaa;have tq:=ht q (by simp[hq]);unfold endOf at eb eq;unfold lx at l;split at eb
   ·cases eb;split at eq
    ·cases eq;lia
    ·split at eq
     ·cases eq;lia
     ·cases eq
   ·split at eb
    ·cases eb;split at eq
     ·cases eq;lia
     ·split at eq
      ·cases eq;lia
      ·cases eq
    ·cases eb
theorem zev(h:Web n ps)(he:e∈bM i ps):0<=e/\e<n:=by
 obtain⟨q,hq,eq⟩:=Gw.mp he;have tq:=h.tie q hq;unfold endOf at eq;split at eq
 ·cases eq;lia
 ·split at eq
  ·cases eq;lia
  ·cases eq
theorem uc(h1 : -1000<=a)(h2:a<=1000):gA a=true:=by
 unfold gA;rw[nH gV,nH gV];rfl
theorem yE(hl:locs xs=[s.length])(h:W (F (dz 0 xs)) [o] λv s1=>∃d o',v=.d d/\s1=[o']/\P (.d d) (s++[o'])):W (bU F xs) (s++[o]) P:=by
 refine ZW (n:=s.length) (o:=o) hl Zaa (h.imp λv s1=>?_);rintro⟨d,o',rfl,rfl,hp⟩;exact⟨d,o',rfl,rfl,by rw[show (s++[o]).set s.length o'=s++[o'] by simp];exact hp⟩
theorem zkb{ns:List Int}{lo hi:Option Int}{x:D}(h:x∈cut (ns.map D.int) lo hi):∃n,x=.int n:=by
 have:=List.mem_of_mem_drop (List.mem_of_mem_take h);obtain⟨n,_,rfl⟩:=rQ.mp this;exact⟨n,rfl⟩
theorem zjy{ns:List Int}{lo hi:Option Int}:(cut (ns.map D.int) lo hi).length<=ns.length:=by
 unfold cut;rw[Ak,List.length_drop,fZ]
 lia
theorem zde{α:Type}[DecidableEq α]:∀{l m:List α},l.Nodup->(∀x∈l,x∈m)->l.length<=m.length
 |[],m,_,_=>rR _
 |x::r,m,h,hm=>by
  obtain⟨h1,h2⟩:=wI.mp h;have hx:x∈m:=hm x Zaa;have:=zde (l:=r) (m:=m.erase x) h2 λy hy=>(List.mem_erase_of_ne (λe=>by subst e;exact h1 hy)).mpr (hm y (by simp[hy]));rw[List.length_erase_of_mem hx] at this;have:=Pn hx;rw[gZ]
  lia
noncomputable def at'(fs:List Int)(j:Int):Int:=fs.getD j.toNat 0
theorem T8{fs:List Int}{j:Int}(h0:0<=j)(h:j<fs.length):∃(i:Nat) (hi:i<fs.length),j=i/\at' fs j=fs[i]:=by
 obtain⟨i,rfl⟩:=Lg h0;have hi:i<fs.length:=by lia
 refine⟨i,hi,rfl,?_⟩;unfold at';rw[rN,nF,eE hi];rfl
theorem Kh{fs:List Int}{j:Int}(h0:0<=j)(h:j<fs.length):at' fs j∈fs:=by
 obtain⟨i,hi,_,e⟩:=T8 h0 h;rw[e];exact List.getElem_mem _
theorem Ac{fs gs:List Int}{j:Int}(h0:0<=j)(h:j<fs.length):at' (fs++gs) j=at' fs j:=by
 obtain⟨i,hi,rfl,e⟩:=T8 h0 h;unfold at';rw[rN,nF,nF,pF hi]
theorem T9:at' (fs++[x]) fs.length=x:=by
 unfold at';rw[rN,nF,pK (cj _)];simp
theorem vG(h0:0<=j)(h:xs[j.toNat]?=some x):prim .ix [.fl xs,.int j]=some (.dat x):=by
 obtain⟨k,rfl⟩:=Lg h0;exact ZX h
theorem zml(h0:0<=j)(h:xs[j.toNat]?=some x):prim .ix [.tup xs,.int j]=some (.dat x):=vG h0 h
noncomputable def o_(k a b:Int):Int:=if k-(if a-b<0 then -(a-b) else a-b)<(if a-b<0 then -(a-b) else a-b) then k-(if a-b<0 then -(a-b) else a-b) else (if a-b<0 then -(a-b) else a-b)
theorem Dj(hd:1<=d):d<=o_ k a b↔(d<=a-b/\a-b<=k-d)\/(d<=b-a/\b-a<=k-d):=by
 unfold o_
 split<;>split<;>lia
structure gF(n k d:Int)(ps:List (Int×Int))(hs:List Int):Prop where
 len:(hs.length:Int)=n
 lo:∀x∈hs,0<=x/\x<k
 fit:∀p∈ps,d<=o_ k (at' hs p.1) (at' hs p.2)
section
variable {aq:Nat->Nat->Bool}{aj:Bool}{F:Bool->Fn}{J:Vs}{s:S}{Q:Out->S->Prop}
theorem WS.wh(I:Nat->Vs->S->Prop)(hm:m<oR)(h0:I m J s)
  (step:∀m J s,I m J s->W (ev aq aj (F aj) c J) s λx s1=>W (Mi.bool x) s1 λk s2=>(k=true->WS (exs aq aj F b J) s2 λo s3=>(∃J' m',o=.nx J'/\m'<m/\I m' J' s3)\/(∃x,o=.rt x/\Q (.rt x) s3))/\(k=false->Q (.nx J) s2)):WS (ex aq aj F (.wh c b) J) s Q:=by
 have key:∀n m J s,m<n->I m J s->WS (cJ (λJ=>M.bd (ev aq aj (F aj) c J) Mi.bool) (λJ=>exs aq aj F b J) n J) s Q:=by
  intro n
  induction n with
  |zero=>intro m J s h;exact absurd h (Nat.not_lt_zero _)
  |succ n ih=>
   intro m J s hmn hI;obtain⟨x,s1,e1,k,s2,e2,hk⟩:=step m J s hI;unfold cJ;refine WS.ofM (W.bd ⟨x,s1,e1,k,s2,e2,?_⟩);cases k with
   |false=>exact⟨_,s2,by rw[if_neg RB],hk.2 rfl⟩
   |true=>
    obtain⟨o,s3,e3,hr⟩:=hk.1 rfl;rcases hr with ⟨J',m',rfl,Oa,Dg⟩|⟨x,rfl,hq⟩
    ·obtain⟨o2,s4,e4,q⟩:=ih m' J' s3 gV Dg;exact⟨o2,s4,by rw[if_pos rfl,e3];exact e4,q⟩
    ·exact⟨_,s3,by rw[if_pos rfl,e3],hq⟩
 exact key oR m J s hm h0
end
def Ge(h r:List Int):Prop:=∀j:Nat,j<r.length->(∀i:Nat,i<j->at' h i=at' r i)->at' r j<=at' h j
theorem zkX{m:Nat}{f:Nat->Int}{j:Int}(h0:0<=j)(h:j<m):at' ((List.range m).map f) j=f j.toNat:=by
 unfold at';rw[nF,jD,DQ gV];rfl
noncomputable def jz(k d:Int):D:=.tup [.int k,.int d]
theorem Dk{α:Type}{l:List α}{f:α->D}:l.filterMap (λx=>some (f x))=l.map f:=by
 rw[<-List.filterMap_eq_map];rfl
theorem Ka6(I:Nat->Vs->S->Prop)(h0:I 0 J s)(hb:∀i x J s,c[i]?=some x->I i J s->WS (b x J) s λo s'=>(∃J',o=.nx J'/\I (i+1) J' s')\/(∃x,o=.rt x/\Q (.rt x) s'))
  (he:∀J s,I c.length J s->Q (.nx J) s):WS (cN (.fix c) b (c.length+1) 0 J) s Q:=by
 have key:∀n i J s,i+n=c.length->I i J s->WS (cN (.fix c) b (n+1) i J) s Q:=by
  intro n
  induction n with
  |zero=>
   intro i J s hi hI;have e:c[i]?=none:=by rw[qK];lia
   have:i=c.length:=by lia
   subst this;refine⟨_,s,?_,he J s hI⟩;unfold cN;simp only[Src.at,e]
  |succ n ih=>
   intro i J s hi hI;have cL:i<c.length:=by lia
   have e:c[i]?=some c[i]:=eE cL;obtain⟨o,s',eb,hr⟩:=hb i c[i] J s e hI;rcases hr with ⟨J',rfl,Dg⟩|⟨x,rfl,hq⟩
   ·obtain⟨o2,s2,e2,q⟩:=ih (i+1) J' s' gV Dg;refine⟨o2,s2,?_,q⟩;unfold cN;simp only[Src.at,e,eb];exact e2
   ·refine⟨_,s',?_,hq⟩;unfold cN;simp only[Src.at,e,eb]
 exact key c.length 0 J s gV h0
noncomputable def pq(n:Nat):List Int:=(List.range n).map λ(k:Nat)=>(k:Int)
theorem zfG{n:Nat}{j:Int}(h0:0<=j)(h:j<n):at' (pq n) j=j:=by
 unfold pq;rw[zkX h0 h]
 lia
theorem zjV{n K:Int}{ps:List (Int×Int)}(w:Web n ps)(hK:n<=K):gF n K 1 ps (pq n.toNat) where
 len:=by have:=w.h1;unfold pq;simp;lia
 lo:=λx hx=>by
  unfold pq at hx;obtain⟨i,hi,rfl⟩:=rQ.mp hx;have:=yV.mp hi
  lia
 fit:=λp hp=>by
  have ht:=w.tie p hp;rw[zfG gV gV,zfG gV gV,Dj gV]
  lia
theorem Kl{hs:List Int}{f:Int->Int}{j:Int}(h0:0<=j)(h:j<hs.length):at' (hs.map f) j=f (at' hs j):=by
 obtain⟨i,hi,rfl,e⟩:=T8 h0 h;rw[e];unfold at';rw[rN,nF,jD,eE hi];rfl
theorem zfK{α:Type}(l:List α)(f:α->Bool):fB (l.map λx=>D.bl (f x))=some (l.map f):=by
 induction l with
 |nil=>rfl
 |cons x r ih=>
  show Option.map _ (fB (r.map λx=>D.bl (f x)))=_;rw[ih];rfl
theorem zkV{α:Type}{l:List α}{f:α->Bool}:prim .all [.fl (l.map λx=>D.bl (f x))]=some (.dat (.bl (l.all f))):=by
 show Option.map _ (fB (l.map λx=>D.bl (f x)))=_;rw[zfK];show some (Rz.dat (.bl ((l.map f).all id)))=_;rw[List.all_map];rfl
end Mi
namespace Mi
open PySem PySem.W PyProof.Rows L2
structure Ord(n:Nat)(lt:Nat->Nat->Option Bool)(le:Nat->Nat->Prop):Prop where
 ans:∀i j,i<n->j<n->(lt i j=some true/\le i j)\/(lt i j=some false/\le j i)
 tr:∀i j k,i<n->j<n->k<n->le i j->le j k->le i k
end Mi
namespace Mi
open PySem PySem.Spec PyProof.Rows L2 PySem.W
section
variable {K:W.Frag}{cA:Cl}{U:Ph}{H:Hp}
theorem zme{d:D}{v:V}{k:Bool}(r:Rv K cA U H d v)(e:xU d=some k):Bq K v H k:=by
 cases d with
 |non=>
  cases (show Rep K cA U H .non v from r);cases e;rfl
 |bl c=>
  cases (show Rep K cA U H (.bl c) v from r);cases e;rfl
 |int i=>
  cases (show Rep K cA U H (.int i) v from r);cases e;rfl
 |tup xs=>
  cases (show Rep K cA U H (.tup xs) v from r) with
  |tup t q=>
   cases e;refine .inr (.inl ⟨_,t.jK,?_⟩);cases q<;>rfl
 |fl xs=>
  obtain⟨a,us,rfl,sq,q⟩ : ∃a us,v=.ref a/\cT K H a us/\aB K cA U H xs us:=r;cases e;refine .inl ⟨_,sq,?_⟩;cases q<;>rfl
 |_=>cases e
end
section
variable {X:Cx}{cA:Cl}{aq:Nat->Nat->Bool}{aj:Bool}{F:Fn}{EX:XS}{a b:Expr}{A B:E}{pos p:Pos}{x:Str}{e:Expr}{es:List Expr}{Xs:Es}
noncomputable def vH(sc:Scope)(x:Str):Bool:=match sc.names.lookup x with
 |some k=>CK k
 |none=>false
noncomputable def Ob(sc:Scope)(x:Str):Bool:=match sc.names.lookup x with
 |some .globalImplicit=>true
 |_=>false
theorem T_{sc:Scope}{x:Str}(h:vH sc x=true):∃k,sc.names.lookup x=some k/\CK k=true:=by
 unfold vH at h;split at h
 ·rename_i k e;exact⟨k,e,h⟩
 ·cases h
theorem zie{sc:Scope}{x:Str}(h:Ob sc x=true):sc.names.lookup x=some .globalImplicit:=by
 unfold Ob at h;split at h
 ·assumption
 ·cases h
theorem gk(h:Ob X.env.scope x=true:=by kernel_rfl):JK X x .globalImplicit:=⟨zie h⟩
theorem jl(h:(match X.env.scope.names.lookup x with|some .local=>true|_=>false)=true:=by kernel_rfl):JK X x .local:=by
 split at h
 ·exact⟨by assumption⟩
 ·cases h
theorem jc(h:(match X.env.scope.names.lookup x with|some .cell=>true|_=>false)=true:=by kernel_rfl):JK X x .cell:=by
 split at h
 ·exact⟨by assumption⟩
 ·cases h
theorem tK{scope:Scope}{cl:List (Str×Addr)}{N:List Str}{Cc:Addr}{s3:Shared}{H3:Hp}{fp:List Addr}{ao:List (Addr×Obj)}(h:Ob scope x=true:=by kernel_rfl):JK (X.blk scope cl N Cc s3 H3 fp ao) x .globalImplicit:=Zf (zie h) rfl
theorem gv(i:Nat)(h:(decide (X.N[i]?=some x)&&vH X.env.scope x&&okN x)=true:=by kernel_rfl):JE X cA aq aj F EX (.Name x pos) (.v i):=by
 rw[fK,fK] at h;obtain⟨k,e,hv⟩:=T_ h.1.2;exact Zg i (jP h.1.1) ⟨e⟩ hv h.2
theorem bw(i:Nat){scope:Scope}{cl:List (Str×Addr)}{N:List Str}{Cc:Addr}{s3:Shared}{H3:Hp}{fp:List Addr}{ao:List (Addr×Obj)}(h:(decide (N[i]?=some x)&&vH scope x&&okN x)=true:=by kernel_rfl):JE (X.blk scope cl N Cc s3 H3 fp ao) cA aq aj F EX (.Name x pos) (.v i):=by
 rw[fK,fK] at h;obtain⟨k,e,hv⟩:=T_ h.1.2;by_cases hk:k=.free
 ·subst hk;exact zox i (jP h.1.1) e h.2
 ·exact Zg i (jP h.1.1) (Zf e (by cases k<;>first|rfl|exact absurd rfl hk)) hv h.2
theorem gc{f k:Nat}{cm:Bool}{st:Stmt}{ps:List Str}(Fo:cF X.prog X.w X.K X.mg X.base (fj X.prog X.w) cm k (fW X.K x) (fdOf X.K x st) ps (lG X.K cA (F f)))(D:D3 X.K X.mg x st ps)(hr:bx k X.A)(R:JR X EX)(g:JK X x .globalImplicit)(ha:JA X cA aq aj F EX (e::es) Xs)(h:okN x=true:=by kernel_rfl)
  (je:cm=true->X.aj=true:=by first|exact λ_=>rfl|exact λz=>nomatch z) (he:aC e=true:=by rfl) (cU:es.all aC=true:=by rfl):JE X cA aq aj F EX (.Call (.Name x p) (e::es) [] pos) (.call f Xs):=
 zlG f Fo je hr D.m D.f.kp D.b R g ha h he cU
theorem nd(h:decide X.N.Nodup=true:=by kernel_rfl):X.N.Nodup:=jP h
end
theorem fJ{P:Program}{w:World}{K:W.Frag}{mg:Str->Option Value}{base:Heap}{cA:Cl}{aq:Nat->Nat->Bool}{T:Nat->Option Df}{x:Str}{st:Stmt}{ps:List Str}{k n:Nat}{cm:Bool}{df:Df}(D:D3 K mg x st ps)(N:List Str)(hT:T n=some df)
  (hb:∀(cdv:Value) (A:Around) (outer:List Env) (s:Shared) (H:Hp) (E:XK),bx k (A.deeper (envOfC x (au st) s.heap.objs.size (fW K x) cdv))->
   JB (dJ (fj P w) P w K mg base N x (au st) (fW K x) cdv A outer s H E cm) cA aq cm (λc=>call aq T k c) (λ_ C dx H'=>E C dx H') (aJ st) df.body) (S:bW N ps (au st):=by exact⟨rfl,rfl,rfl,dk,rfl,dk,dk⟩) (hp:df.dD=ps.length:=by rfl) (hm:df.many=N.length:=by rfl) :
  cF P w K mg base (fj P w) cm (k+1) (fW K x) (fdOf K x st) ps (lG K cA (call aq T (k+1) cm n)):=Zu D.f S hT hp hm hb
end Mi
namespace L2
open PySem PySem.Spec PySem.Calls PyProof.Rows PySem.W
theorem fL.tri{H:Hp}{l:List Value}(x:fL H l):TriplesOk l:=by
 induction x with
 |nil=>trivial
 |cons l m c r _ _ ih=>exact ih
theorem fL.found{H:Hp}{pos:Pos}{cv:Value}{l:List Value}(x:fL H l)(h:codeAmong pos l=some cv):∃c,cv=.ref c/\GoodC H c:=by
 induction x with
 |nil=>cases h
 |cons a b c r g _ ih=>
  unfold rawInt codeAmong at h;split at h
  ·cases h;exact⟨c,rfl,g⟩
  ·exact ih h
structure vI(H H':Hp):Prop where
 kp:∀b o,H b=some o->(∀ps,o≠.lO ps)->H' b=some o
 st:∀b o,H b=some o->∃o',H' b=some o'
theorem vI.refl{H:Hp}:vI H H:=⟨λ_ _ e _=>e,λ_ o e=>⟨o,e⟩⟩
def Km(K:Frag)(mg:Str->Option Value):Prop:=∃bm ob,mg "__builtins__"=some (.ref bm)/\bm≠builtinsNs/\bm≠mainGlobals/\K.lookup bm=some ob/\ob.cls=.type "module"/\ob.dict=some builtinsNs/\ob.data=.plain
noncomputable abbrev lamO(params:Arguments)(body:Expr)(scope:Scope)(pm:Value)(c':Addr)(ctv:Value):Obj:=kla_obj "<lambda>" iY params body scope [] pm c' ctv
section
variable {X:Cx}{ao:List (Addr×Obj)}{Z:St}{H:Hp}{s:Shared}{c P:Addr}{params:Arguments}{body:Expr}{scope:Scope}{pos:Pos}{E:Value->Shared->Prop}{Q:Value->Shared->Prop}
theorem Inv.Dl{H1:Hp}{s1:Shared}{fa:Addr}{o:Obj}(I:Inv X ao Z H1 s1)(h1:s1.heap.get? fa=some o)(h2:H1 fa=none)(h3:fa≠X.env.locals)(h4:fa∉X.fs)(h5:∀v,o.data≠.cell v):Inv X (ao++[(fa,o)]) Z H1 s1:=
 I.jQ λp hp=>by
  rcases nG.mp hp with hp|hp
  ·exact I.pin p (lg _ hp)
  ·rw[rM.mp hp];exact⟨h1,h2,h3,h4,h5⟩
theorem zh8(I:Inv X ao Z H s)(on:qP=true)(iG:X.env.code=.ref c)(hC:codeHdIn X.K c P=true)(hl:jW X.K c P=true)(Ua:Km X.K X.mg)(oH:closureFor scope X.env=pure [])(hq:X.env.qual++"<lambda>"=iY)(vJ:defaultsOf params X.env=([],[]))
  (k:∀fa c' ctv pm H1 s1,Inv X (ao++[(fa,lamO params body scope pm c' ctv)]) Z H1 s1->GoodC H1 c'->vI H H1->Q (.ref fa) s1) :
  wpAny (model X.prog X.w) X.A (eval (.Lambda params body scope pos) X.env) Q E s:=by
 obtain⟨ps,hP,hT⟩:=I.Ba on c P hl;have oP:s.heap.get? P=some (tabObj ps):=I.hok P _ hP;obtain⟨bm,ob,b1,b2,b3,b4,b5,b6,b7⟩:=Ua;have kb:s.heap.get? bm=some ob:=I.lQ bm ob b4;have nb:H bm=none:=(I.bs bm ob (I.mod.wL bm ob b4)).2;have hg:=I.mod.glob.keeps I.bk;have ng:H mainGlobals=none:=by
  obtain⟨o,_,_,e,_⟩:=I.mod.glob;exact(I.bs _ _ e).2
 have hgP:mainGlobals≠P:=λz=>by rw[z,hP] at ng;cases ng
 have hB:s.heap.BuiltinsAt X.mg P:=⟨bm,ob,b1,b2,b3,(λz=>by rw[z,hP] at nb;cases nb),kb,b5,b6,b7⟩;refine kla_eval vJ ?_;rw[hq];cases hf:codeAmong pos ps.toList with
 |some cv=>
  obtain⟨c',rfl,gc⟩:=hT.found hf;refine kla_makeFunctionHit (mg:=X.mg) oH I.ok.glob hg iG (codeHd_of_K I.lQ hC) oP hT.tri hf hB λctv h' tk hk hsz=>?_;have kp:∀b u,s.heap.get? b=some u->(h'.push (lamO params body scope ((X.mg "__name__").getD .none) c' ctv)).get? b=some u:=λb u e=>cD _ (hk b u e);have I1:=I.kept (t':=tk) kp;refine k _ c' ctv _ H _ (I1.Dl (eN _ rfl) (I.hok.fresh hsz) (pR (f9 I.lt hsz)) (I.wV hsz) λv z=>by cases z) gc vI.refl
 |none=>
  refine kla_makeFunction (mg:=X.mg) oH I.ok.glob hg iG (codeHd_of_K I.lQ hC) oP hT.tri hf hgP hB λc' ctv h' tk hx v8 cL Dm htb=>?_;obtain⟨c2,oc,vs,t,e2,Hj,hd,hv⟩:=Dm;cases e2;have nc:H c'=none:=I.hok.fresh v8;have ncP:c'≠P:=λz=>by rw[z,hP] at nc;cases nc
  have kp:∀b u,b≠P->s.heap.get? b=some u->(h'.push (lamO params body scope ((X.mg "__name__").getD .none) c' ctv)).get? b=some u:=λb u nb e=>cD _ (hx b u nb e);have nP:∀b,H b=none->b≠P:=λb e z=>by rw[z,hP] at e;cases e
  have old:∀b u,s.heap.get? b=some u->b≠c':=λb u e=>cY (f9 (bQ e) v8);have hP1:upd (upd H P (.lO (ps++#[rawInt pos.line,rawInt pos.col,.ref c']))) c' (.n6 oc (.own 0)) P=some (.lO (ps++#[rawInt pos.line,rawInt pos.col,.ref c'])):=by rw[bT ncP.symm,iD]
  have ot:∀b u,H b=some u->(∀ps,u≠.lO ps)->upd (upd H P (.lO (ps++#[rawInt pos.line,rawInt pos.col,.ref c']))) c' (.n6 oc (.own 0)) b=some u:=λb u e nt=>by
   rw[bT (wQ e nc),bT λz=>by rw[z,hP] at e;cases e;exact nt _ rfl];exact e
  have gc:GoodC (upd (upd H P (.lO (ps++#[rawInt pos.line,rawInt pos.col,.ref c']))) c' (.n6 oc (.own 0))) c':=⟨oc,_,vs,t,iD,hd,hv⟩;have I1:Inv X ao Z (upd (upd H P (.lO (ps++#[rawInt pos.line,rawInt pos.col,.ref c']))) c' (.n6 oc (.own 0))) {s with heap:=h'.push (lamO params body scope ((X.mg "__name__").getD .none) c' ctv),toks:=tk}:=by
   refine I.step (g':=s.gens) (d':=s.drawn) (ch:=[]) (λ_ z=>nomatch z) (λb o _ _ _ e n=>kp b o (nP b n) e) (λb o _ _ _ e n=>⟨o.slots,kp b o (nP b n) e⟩) (λb o _ e n=>by rw[bT (old b o e),bT (nP b n)];exact n) (λb o _ e=>?_) (λb xs e=>ot b _ e λ_ z=>by cases z) (λb o u e=>ot b _ e λ_ z=>by cases z) (λb qs e=>?_) (λm hm=>?_) (λb u e=>?_) I.bare
   ·by_cases z:b=P
    ·exact⟨_,by rw[z];exact cD _ htb⟩
    ·exact⟨o,kp b o z e⟩
   ·by_cases z:b=P
    ·subst z;rw[hP] at e;cases e;exact⟨_,hP1,fL.cons _ _ c' _ gc .nil⟩
    ·exact⟨#[],by rw[bT (wQ e nc),bT z,e];simp,.nil⟩
   ·obtain⟨o,es,ep,ho,r⟩:=hm;exact⟨o,es,ep,kp _ o (nP _ I.free) ho,r⟩
   ·by_cases z:b=c'
    ·subst z;rw[iD] at e;cases e;exact⟨cD _ Hj,⟨oc,cD _ Hj⟩⟩
    ·rw[bT z] at e;by_cases y:b=P
     ·subst y;rw[iD] at e;cases e;show (h'.push _).get? b=some _;exact cD _ htb
     ·rw[bT y] at e;refine(I.hok b u e).stay (λa v ha q=>kp a v ?_ q) (λa q=>ot a _ q λ_ z=>by cases z) λa xs q=>ot a _ q λ_ z=>by cases z
      rcases ha with rfl|ha
      ·exact y
      ·intro z;rw[z,hP] at ha;cases ha
  refine k _ c' ctv _ _ _ (I1.Dl (eN _ rfl) ?_ (pR (f9 I.lt (rP (DW v8 cL)))) (I.wV (rP (DW v8 cL))) λv z=>by cases z) gc ⟨ot,λb o e=>?_⟩
  ·rw[bT (pR cL),bT (pR (f9 (bQ oP) (rP (DW v8 cL))))];exact I.hok.fresh (rP (DW v8 cL))
  ·by_cases z:b=P
   ·rw[z];exact⟨_,hP1⟩
   ·exact⟨o,by rw[bT (wQ e nc),bT z];exact e⟩
end
section
variable {X:Cx}{ao:List (Addr×Obj)}{Z:St}{H:Hp}{s:Shared}{CX:rZ}{cm:Bool}{k:Nat}{fa c':Addr}{params:Arguments}{body:Expr}{scope:Scope}{pm ctv:Value}{N:List Str}{x:Str}{u:Value}{v:V}{t:TE}{Q:VK}
theorem zhN(I:Inv X ao Z H s)(hfo:s.heap.get? fa=some (lamO params body scope pm c' ctv))(gc:GoodC H c')(S:bW N [x] scope)(je:cm=true->X.A.handled=none)(hr:X.A.depth<recursionLimit)(kY:∀u,bindArgs (kla_fn "<lambda>" iY params body scope [] pm (.ref c') ctv) ⟨[u],[]⟩=pure [(x,u)])(rv:RelV v u)
  (hb:PE (dJ CX X.prog X.w X.K X.mg X.base N iY scope fa (.ref c') X.A X.stack s H (λ_ _ _=>False) cm) body t) (hq:t (start N [v]) H Q) (nM:∀e s',CX X.stack H s (λ_ _ _=>False) e s'->X.xe e s') :
  wpAny (model X.prog X.w) X.A (call (.ref fa) [u]) (EP X ao Z Q) X.xe s:=by
 have e0:=I.env0;have lim:s.heap.NoLimit:=I.nolimit;obtain⟨oc,w,vs,tq,g1,g2,g3⟩:=gc;have Dm:s.heap.CodeRec (.ref c') iY:=⟨c',oc,vs,tq,rfl,(I.hok c' _ g1).1,g2,g3⟩;have uG:∀y∈[(x,u)],scope.names.lookup y.1=some .local\/(scope.names.lookup y.1=some .cell/\((cellsFrom (s.heap.objs.size+1) scope.names []).lookup y.1).isSome=true):=λy hy=>by
  rw[rM.mp hy];rcases S.par x Zaa with q|q
  ·exact .inl q
  ·exact .inr ⟨q,Lh _ _ _ (.inl q)⟩
 refine El (yX (R:=CR CX X.stack X.prog X.w H s Q λ_ _ _=>False) (kla_callFunE hr hfo rfl S.co S.gen rfl Dm ?_) λr s' hq=>?_)
 ·rw[kY];refine aP ?_;refine wpAny_newFunctionEnv_cells S.kind uG λenv he s1 y=>?_;subst he;refine⟨lim.keeps y.toInCall.keep,kla_codeExpr ?_⟩;have I1:Inv (dJ CX X.prog X.w X.K X.mg X.base N iY scope fa (.ref c') X.A X.stack s H (λ_ _ _=>False) cm) [] (start N [v]) H s1:=Xe S je e0 rfl (.cons rv .nil) y;refine gb (hb [] s1 (start N [v]) H _ I1 hq) (λu' s' hs=>?_) λe s' hs=>hs;obtain⟨v',H',aZ,rv',q⟩:=hs;exact⟨v',H',aZ.os,aZ.bare,aZ.base,aZ.hok,rv',q⟩
 ·cases r with
  |error e=>exact nM e s' hq
  |ok fl=>
   cases fl with
   |ret u=>exact I.after hq
   |next=>exact False.elim hq
   |brk=>exact False.elim hq
   |cont=>exact False.elim hq
end
section
variable {X:Cx}{ao:List (Addr×Obj)}{Z:St}{H:Hp}{s:Shared}{E:Value->Shared->Prop}{fa D:Addr}{fo:Obj}{ys:List V}{its:List Value}{kz:List Int}{lt:Nat->Nat->Option Bool}{p:Array Nat}
theorem Inv.apart{a:Addr}(I:Inv X ao Z H s)(h:s.heap.objs.size<=a):a≠X.env.locals/\a∉X.fs/\(a∈X.ex\/X.s₀.heap.objs.size<=a)/\(∀x c,X.env.cells.lookup x=some c->c≠a)/\∀p∈X.pn++ao,p.1≠a:=
 ⟨pR (f9 I.lt h),I.wV h,.inr (jU I.sz h),λx c e=>by
  obtain⟨v,o,ho,_⟩:=I.cell x c e;exact cY (f9 (bQ ho) h),λp hp=>cY (f9 (bQ (I.pin p hp).1) h)⟩
structure Own(X:Cx)(ao:List (Addr×Obj))(a:Addr):Prop where
 hL:a≠X.env.locals
 hf:a∉X.fs
 h1:a∈X.ex\/X.s₀.heap.objs.size<=a
 h2:∀x c,X.env.cells.lookup x=some c->c≠a
 h3:∀p∈X.pn++ao,p.1≠a
theorem Inv.own{a:Addr}(I:Inv X ao Z H s)(h:s.heap.objs.size<=a):Own X ao a:=let ⟨a1,a2,a3,a4,a5⟩:=I.apart h;⟨a1,a2,a3,a4,a5⟩
theorem Own.set{a:Addr}{h':Heap}{t':Nat}(o:Own X ao a)(hn:H a=none)(I:Inv X ao Z H s)(k:∀b o,b≠a->s.heap.get? b=some o->h'.get? b=some o):Inv X ao Z H {s with heap:=h',toks:=t'}:=I.turned k hn o.hL o.h1 o.h2 o.h3
theorem Own.pin{a:Addr}{u:Obj}(o:Own X ao a)(hn:H a=none)(I:Inv X ao Z H s)(h:s.heap.get? a=some u)(d:∀v,u.data≠.cell v):Inv X (ao++[(a,u)]) Z H s:=I.Dl h hn o.hL o.hf d
noncomputable abbrev Cx.Dn(X:Cx):Cx:=X.seen X.A.in1.in1 X.aj X.pn λ_ _=>False
theorem Inv.Dn(I:Inv X ao Z H s):Inv X.Dn ao Z H s:=I.seen rfl (λz=>I.ok.hd z) λ_ z=>z
theorem Inv.Ub(I:Inv X.Dn ao Z H s)(aZ:X.aj=true->X.A.handled=none):Inv X ao Z H s:=I.BJ rfl aZ λ_ z=>z
def Ko(X:Cx)(Z:St)(G:Hp->Prop)(fa:Addr)(fo:Obj)(ys:List V)(kz:List Int):Prop:=
 ∀(i:Nat) (v:V) (k:Int),ys[i]?=some v->kz[i]?=some k->∀(H:Hp) (ps:List (Addr×Obj)) (s':Shared) (u:Value),G H->Inv X.Dn ps Z H s'->(fa,fo)∈ps->RelV v u->
  wpAny (model X.prog X.w) X.A.in1.in1 (call (.ref fa) [u]) (EP X.Dn ps Z λv' H'=>v'=.int k/\G H') (λ_ _=>False) s'
theorem zeQ{kS:Addr}{keys:Array Value}{e e1:Nat}{st:SortSt}{A:Around}{P:PySem.Fin->Shared->Prop}{out:Array Value}(oD:Own X ao D)(oK:Own X (ao++[(D,seqObj "list" #[] e1)]) kS)
  (I:Inv X (ao++[(D,seqObj "list" #[] e1)]++[(kS,seqObj "list" keys e)]) Z H s) (hz:keys.size<=100) (ho:out.size<=100) (hs:(arrOf st).map (·.2)=out) (hf:failedOf st=none)
  (h:∀s' c,Inv X ao Z H s'->H D=none->s'.heap.get? D=some (seqObj "list" out c)->P (.done (.ret .none)) s') :
  wpAny (model X.prog X.w) A (ksk_tail D false e1 (.ref kS) st) P E s:=by
 have hl:(100:Nat)<=sizeLine:=by decide
 obtain⟨nk,Uc,_⟩:=I.pin (kS,seqObj "list" keys e) Zaa;obtain⟨nd,Kp,_⟩:=I.pin (D,seqObj "list" #[] e1) Zaa;have nDK:D≠kS:=oK.h3 (D,seqObj "list" #[] e1) Zaa;have I1:Inv X (ao++[(D,seqObj "list" #[] e1)]) Z H {s with heap:=s.heap.update kS (Obj.mapSeq λ_=>(#[]:Array Value))}:=oK.set (t':=s.toks) Uc I.bZ λb o nb q=>(yQ _ _ _ _ nb).trans q;have Ud:(s.heap.update kS (Obj.mapSeq λ_=>(#[]:Array Value))).get? D=some (seqObj "list" #[] e1):=(yQ _ _ _ _ nDK).trans nd;obtain⟨c2,nJ⟩ : ∃c2,((s.heap.update kS (Obj.mapSeq λ_=>(#[]:Array Value))).update D (Obj.mapSeq λ_=>out)).get? D=some (seqObj "list" out c2):=⟨_,get?_update_seq Ud λ_=>out⟩;unfold ksk_tail
 try dsimp only
 refine aA (Av nk rfl ?_ gV (rR _));refine aA (yZ ?_);refine aA (seqEpoch_at Ud rfl ?_);rw[hs];refine aA (Av Ud rfl ?_ (rR _) (by simp only[rK,nW];lia));rw[hf];simp only[PK,rK,nW];refine aP (h _ c2 ?_ Kp nJ);exact Own.set (s:={s with heap:=s.heap.update kS (Obj.mapSeq λ_=>(#[]:Array Value))}) (h':=(s.heap.update kS (Obj.mapSeq λ_=>(#[]:Array Value))).update D (Obj.mapSeq λ_=>out)) (t':=s.toks) oD Kp I1.bZ λb o nb q=>(yQ _ _ _ _ nb).trans q
theorem zjD{kS:Addr}{keys:Array Value}{e e1:Nat}{A:Around}{P:PySem.Fin->Shared->Prop}(oD:Own X ao D)(oK:Own X (ao++[(D,seqObj "list" #[] e1)]) kS)
  (I:Inv X (ao++[(D,seqObj "list" #[] e1)]++[(kS,seqObj "list" keys e)]) Z H s) (hk:IntsAre keys.toList kz) (hlen:kz.length=its.length) (nO:its.length<64)
  (cL:∀i j b,lt i j=some b->∃x y,kz[i]?=some x/\kz[j]?=some y/\b=decide (x<y)) (hr:2<=its.length->bF lt (kas_sort its.length)=some p/\p.size=its.length)
  (h:∀s' c,Inv X ao Z H s'->H D=none->s'.heap.get? D=some (seqObj "list" (dM its p) c)->P (.done (.ret .none)) s') :
  wpAny (model X.prog X.w) A (ksk_end D false its.toArray e1 (.ref kS) keys) P E s:=by
 have hkl:=hk.length;rw[pL] at hkl;have hsz:its.toArray.size=its.length:=by simp
 unfold ksk_end
 try dsimp only
 simp only[rK,nW];by_cases h2:its.toArray.size<2
 ·rw[if_pos h2,if_pos h2];refine aA (aP ?_);rw[StateT.run_pure];refine aA (aP ?_)
  try dsimp only
  refine zeQ (out:=dM its p) oD oK I gV ?_ ?_ rfl h
  ·unfold dM;rw[if_pos gV];simp;lia
  ·unfold dM;rw[if_pos gV];apply Array.toList_inj.mp;show ((keys.zip its.toArray).map (·.2)).toList=_;rw[Array.toList_map,ksk_zip];have:keys.toList.length=keys.size:=pL;exact List.map_snd_zip gV
 ·rw[if_neg h2,if_neg h2];have lU:2<=its.length:=by lia
  obtain⟨hr,IV⟩:=hr lU;have ek:keys=keys.toList.toArray:=by rw[Px]
  rw[ek];refine aA (X_ (by rw[pL];lia) (λu hu=>?_) ?_)
  ·obtain⟨n,t,e⟩:=hk.all u hu;exact⟨n,t,e⟩
  refine aA (gb (kat_run (κ:=oneType') (ks:=keys.toList) (vs:=its) (G:=λp' s'=>p'=p/\s'=s)
   (Q:=λst' s'=>arrOf st'=p.map (kas_item (keys.toList.toArray.zip its.toArray))/\failedOf st'=none/\s'=s)
   (by rw[pL];lia) lU nO (λp' st' s' a1 a2 a3 a4=>⟨by rw[a2,a4.1],a3,a4.2⟩) (Rx (λi j b C hl hC=>?_) ⟨rfl,rfl⟩ hr)) ?_ λ_ _ e=>e)
  ·obtain⟨x,y,e1,e2,rfl⟩:=cL i j b hl;obtain⟨t1,f1⟩:=hk.get i x e1;obtain⟨t2,f2⟩:=hk.get j y e2;show wpAny _ _ (keyLt' oneType' (keys.toList.getD i Value.none) (keys.toList.getD j Value.none)) C _ s;rw[Fb f1,Fb f2];exact kat_lt_int hC
  ·rintro⟨⟨⟩,st'⟩ s' ⟨E_,hf,rfl⟩
   try dsimp only
   have hout:=kat_snds (ks:=keys.toList) (vs:=its) (by rw[pL];lia) E_;have e:List.toArray (p.toList.map λi=>its.getD i Value.none)=dM its p:=by
    unfold dM;rw[if_neg gV]
   rw[e] at hout;have X6:(dM its p).size=its.length:=by rw[<-e,fH,fZ,pL,IV]
   exact zeQ (out:=dM its p) oD oK I gV gV hout hf h
theorem zhB{G:Hp->Prop}{n:Nat}{P:PySem.Fin->Shared->Prop}(I:Inv X ao Z H s)(g:G H)(oD:Own X ao D)(Kp:H D=none)(ho:s.heap.get? D=some (seqObj "list" its.toArray n))(Dp:(fa,fo)∈ao)(rv:Vals ys its)(hlen:kz.length=ys.length)(nO:ys.length<64)(K:Ko X Z G fa fo ys kz)
  (cL:∀i j b,lt i j=some b->∃x y,kz[i]?=some x/\kz[j]?=some y/\b=decide (x<y)) (hr:2<=ys.length->bF lt (kas_sort ys.length)=some p/\p.size=ys.length)
  (h:∀H' s' c,G H'->Inv X ao Z H' s'->H' D=none->s'.heap.get? D=some (seqObj "list" (dM its p) c)->P (.done (.ret .none)) s') :
  wpAny (model X.prog X.w) X.A.in1.in1 (ksk_tree D (.ref fa) false) P E s:=by
 have hl:(100:Nat)<=sizeLine:=by decide
 have hil:=rv.length;have hD:D<s.heap.objs.size:=bQ ho;obtain⟨e1,BR⟩ : ∃e1,(s.heap.update D (Obj.mapSeq λ_=>(#[]:Array Value))).get? D=some (seqObj "list" #[] e1):=⟨_,get?_update_seq ho λ_=>#[]⟩;have hkS:((s.heap.update D (Obj.mapSeq λ_=>(#[]:Array Value))).push (seqObj "tuple" its.toArray 0)).objs.size=s.heap.objs.size+1:=by rw[size_push',GC]
 have Gf:Own X ao (s.heap.objs.size+1):=I.own (wJ _);have Uc:H (s.heap.objs.size+1)=none:=I.hok.fresh (wJ _);have oK:Own X (ao++[(D,seqObj "list" #[] e1)]) (s.heap.objs.size+1):=⟨Gf.hL,Gf.hf,Gf.h1,Gf.h2,λq hq=>by
  rcases nG.mp hq with hq|hq
  ·exact Gf.h3 q (Gq _ hq)
  ·rcases nG.mp hq with hq|hq
   ·exact Gf.h3 q (lg _ hq)
   ·rw[rM.mp hq];exact cY (tQ hD)⟩
 have kp:∀b o,b≠D->s.heap.get? b=some o->(((s.heap.update D (Obj.mapSeq λ_=>(#[]:Array Value))).push (seqObj "tuple" its.toArray 0)).push (seqObj "list" #[] 0)).get? b=some o:=λb o nb q=>
  cD _ (cD _ ((yQ _ _ _ _ nb).trans q))
 unfold ksk_tree;refine aA (listItems_at ho rfl ?_);refine aA (Av ho rfl ?_ (by rw[fH];lia) (rR _));refine aA (seqEpoch_at BR rfl ?_);refine aA (wpAny_newTuple ?_ (by show its.length<=_;lia));refine aA (GK ?_ (rR _));refine pQ ?_;rw[hkS];have I3:Inv X (ao++[(D,seqObj "list" #[] e1)]++[(s.heap.objs.size+1,seqObj "list" #[] 0)]) Z H {s with heap:=((s.heap.update D (Obj.mapSeq λ_=>(#[]:Array Value))).push (seqObj "tuple" its.toArray 0)).push (seqObj "list" #[] 0)}:=by
  have aZ:=oD.set (t':=s.toks) Kp I kp;have Ue:=oD.pin Kp aZ (cD _ (cD _ BR)) λv z=>by cases z
  exact oK.pin Uc Ue (by rw[<-hkS];exact eN _ rfl) λv z=>by cases z
 show wpAny (model X.prog X.w) X.A.in1.in1 (ksk_rest D (.ref fa) false its.toArray e1 (.ref (s.heap.objs.size+1))) P E _;unfold ksk_rest;refine aA (zc ?_)
 first
  |rw[List.forIn_toArray]
  |(rw[<-Lp];simp only[List.toList_toArray])
 refine aA (ksk_fold (λi s'=>∃(H':Hp) (kA:Array Value) (e:Nat),G H'/\Inv X (ao++[(D,seqObj "list" #[] e1)]++[(s.heap.objs.size+1,seqObj "list" kA e)]) Z H' s'/\IntsAre kA.toList (kz.take i)) its 0 _
  ⟨H,#[],0,g,I3,by simpa using IntsAre.nil⟩ ?step ?done)
 case step=>
  rintro j x s' hx ⟨H1,kA,e,g1,I',hk⟩;simp only[Nat.zero_add] at hk ⊢;have hj:j<its.length:=(fG.mp hx).1;obtain⟨k,hkj⟩ : ∃k,kz[j]?=some k:=⟨_,eE gV⟩;obtain⟨v,hv⟩ : ∃v,ys[j]?=some v:=⟨_,eE gV⟩;obtain⟨u,hu,rvu⟩:=rv.get hv;rw[hx] at hu;cases hu;have hz:kA.size<=64:=by
   have h1:=hk.length;rw[pL,Ak] at h1
   lia
  refine aA (Ej (gb (K j v k hv hkj H1 _ s' x g1 I'.Dn (by simp[Dp]) rvu) (λw s2 he=>?_) λ_ _ hF=>hF.elim));obtain⟨v',H2,aZ,rv',rfl,g2⟩:=he;obtain⟨t2,rfl⟩:=rv';have aZ:=aZ.Ub I'.ok.hd
  try dsimp only
  obtain⟨nk,Kq,_⟩:=aZ.pin (s.heap.objs.size+1,seqObj "list" kA e) Zaa;obtain⟨c2,nJ⟩ : ∃c2,(s2.heap.update (s.heap.objs.size+1) (Obj.mapSeq (·.push (.int k t2)))).get? (s.heap.objs.size+1)=some (seqObj "list" (kA.push (.int k t2)) c2):=⟨_,get?_update_seq nk (·.push (.int k t2))⟩;have ek:kz.take (j+1)=kz.take j++[k]:=by rw[List.take_add_one,hkj];simp
  have ea:(kA.push (Value.int k t2)).toList=kA.toList++[Value.int k t2]:=by simp
  refine aA (Av nk rfl ?_ gV (jU (Nat.le_of_eq (Array.size_push ..)) gV));refine aP ⟨rfl,H2,kA.push (.int k t2),c2,g2,?_,by rw[ea,ek];exact ksk_snoc hk⟩;exact oK.pin Kq (oK.set (t':=s2.toks) Kq aZ.bZ λb o nb q=>(yQ _ _ _ _ nb).trans q) nJ λv z=>by cases z
 case done=>
  rintro s' ⟨H1,kA,e,g1,I',hk⟩;have Cw:IntsAre kA.toList kz:=by
   have e3:kz.take (0+its.length)=kz:=List.take_of_length_le gV;rw[e3] at hk;exact hk
  have nk:=(I'.pin (s.heap.objs.size+1,seqObj "list" kA e) Zaa).1
  try dsimp only
  refine aA (listItems_at nk rfl ?_);exact zjD oD oK I' Cw gV gV cL (by rw[<-hil];exact hr) λs' c=>h H1 s' c g1
theorem zgG{G:Hp->Prop}{l:Addr}{Q:VK}(I:Inv X (ao++[(fa,fo)]) Z H s)(g:G H)(hq:cT X.K H l ys)(hlen:kz.length=ys.length)(nO:ys.length<64)(K:Ko X Z G fa fo ys kz)
  (cL:∀i j b,lt i j=some b->∃x y,kz[i]?=some x/\kz[j]?=some y/\b=decide (x<y)) (hr:2<=ys.length->bF lt (kas_sort ys.length)=some p/\p.size=ys.length)
  (q:∀H' r,G H'->H' r=none->Q (.ref r) (upd H' r (.lst (fU ys p)))) :
  wpAny (model X.prog X.w) X.A (call (.builtin "sorted") [.ref l] [(Str.ofString "key",.ref fa)]) (EP X ao Z Q) E s:=by
 have hl:(100:Nat)<=sizeLine:=by decide
 obtain⟨its,rv,pl,hz⟩:=I.list hq;have hil:=rv.length;refine call_function_entry_kw kind_sorted plain_sorted entry_sorted (ksk_s1 _ _) ?_;unfold Builtin.«sorted»;refine aA (m:=checkCount "sorted" 1 1 _) (aP ?_);refine aA (collect_list pl.isList ?_ gV);refine aA (GK ?_ (by show its.length<=_;lia));have hsz:((s.heap.push (seqObj "list" #[] 0)).update s.heap.objs.size (Obj.mapSeq (·++its.toArray))).objs.size=s.heap.objs.size+1:=by
  rw[GC,size_push']
 have Bf:(((s.heap.push (seqObj "list" #[] 0)).update s.heap.objs.size (Obj.mapSeq (·++its.toArray))).push (seqObj "list" its.toArray 0)).get? (s.heap.objs.size+1)=some (seqObj "list" its.toArray 0):=by
  rw[<-hsz];exact eN _ rfl
 have keep:∀b o,s.heap.get? b=some o->(((s.heap.push (seqObj "list" #[] 0)).update s.heap.objs.size (Obj.mapSeq (·++its.toArray))).push (seqObj "list" its.toArray 0)).get? b=some o:=λb o q=>by
  have cL:b<s.heap.objs.size:=bQ q;rw[DY _ _ _ (by rw[hsz];exact cY (tQ cL)),yQ _ _ _ _ (cY cL),DY _ _ _ (cY cL)];exact q
 show wpAny _ _ _ _ _ {s with heap:=((s.heap.push (seqObj "list" #[] 0)).update s.heap.objs.size (Obj.mapSeq (·++its.toArray))).push (seqObj "list" its.toArray 0)};rw[hsz];have oD:Own X (ao++[(fa,fo)]) (s.heap.objs.size+1):=I.own (wJ _);have I1:=I.kept (t':=s.toks) keep;refine aA (pQ (wpAny_call_entry_kw slot_list_sort ⟨_,Bf,rfl⟩ entry_list_sort ?body (ksk_l1 _ _)));show wpAny (model X.prog X.w) X.A.in1.in1 (Builtin.«list.sort» ⟨[.ref (s.heap.objs.size+1)],[(Str.ofString "key",.ref fa)]⟩) _ _ _;rw[ksk_t1];refine zhB (n:=0) I1 g oD (I.hok.fresh (wJ _)) Bf Zaa rv hlen nO K cL hr λH' s' c g' aZ Mh hc=>⟨_,rfl,?_⟩;refine aP ⟨_,rfl,.ref (s.heap.objs.size+1),upd H' (s.heap.objs.size+1) (.lst (fU ys p)),?_,rfl,q H' _ g' Mh⟩;have hn:X.s₀.heap.get? (s.heap.objs.size+1)=none:=DK (jU I.sz (wJ _));refine aZ.bZ.track hn Mh (λp hp=>oD.h3 p (by
  rcases nG.mp hp with z|z
  ·exact Gq _ z
  ·exact lg _ (Gq _ z))) oD.hL oD.h2 ⟨?_,(dM its p).toList,c,X8 rv p,by rw[Px];exact hc⟩
 unfold fU;by_cases h2:ys.length<2
 ·rw[if_pos h2];exact hz
 ·rw[if_neg h2,fZ,pL,(hr gV).2];exact hz
end
end L2
namespace Mi
open PySem PySem.Spec PyProof.Rows L2 PySem.W
section
variable {K:Frag}{cA:Cl}{U U1:Ph}{H H':Hp}{s:S}
theorem Kr(hS:aD K cA U H s)(x:Ext ⟨U.z,[]⟩ H U1 H')(r1:aD K cA U1 H' []):Ext U H ⟨U1.z,U.l⟩ H'/\aD K cA ⟨U1.z,U.l⟩ H' s:=by
 refine⟨⟨⟨[],by simp,by simp⟩,λa h=>x.qw a h,λa h=>x.kE a h,λa o h t n=>x.frame a o h t Zaa,x.stay⟩,?_⟩;exact⟨hS.len,λn o a e1 e2=>(hS.obj n o a e1 e2).map (λ_ t q=>x.frame a _ q t Zaa) λ_ _ r=>Rep.zl ((Rep.zl r []).mono x λa ha=>by simp at ha) _,hS.uniq,λa ha=>x.qw a (hS.lz a ha),r1.zt⟩
theorem zkk(t:vI H H'):Ext ⟨U.z,[]⟩ H ⟨U.z,[]⟩ H':=
 ⟨⟨[],by simp,by simp⟩,λ_ h=>h,λ_ h=>.inl h,λa o h nt _=>t.kp a o h λps e=>by rw[e] at nt;exact nt,t.st⟩
theorem Ks(z:∀a,U.z a->∃o,H a=some o):aD K cA ⟨U.z,[]⟩ H []:=⟨rfl,λn o a e=>by simp at e,Ar,λa h=>by simp at h,z⟩
theorem zeB{f:D->M Xv}:∀{xs:List D} {ks:List Int},gB f xs=some ks->ks.length=xs.length/\∀(i:Nat) d k,xs[i]?=some d->ks[i]?=some k->f d []=some (.ok (.d (.int k)),[])
 |[],ks,h=>by
  cases h;exact⟨rfl,λi d k e=>by simp at e⟩
 |x::r,ks,h=>by
  unfold gB at h;split at h
  ·rename_i k e;obtain⟨ks',e1,rfl⟩:=jO.mp h;obtain⟨l,q⟩:=zeB e1;refine⟨by simp[l],λi d k' ed ek=>?_⟩;cases i with
   |zero=>simp at ed ek;subst ed ek;exact e
   |succ i=>exact q i d k' (by simpa using ed) (by simpa using ek)
  ·cases h
end
section
variable {X:Cx}{cA:Cl}{aq:Nat->Nat->Bool}{aj:Bool}{F:Fn}{EX:XS}{a:Expr}{A B:E}{fz:Bool}{k:Nat}{c P:Addr}{params:Arguments}{body:Expr}{scope:Scope}{x:Str}{p pos yF kpos:Pos}
theorem zhn(on:qP=true)(hc:X.aj=true)(iG:X.env.code=.ref c)(hC:codeHdIn X.K c P=true)(hl:jW X.K c P=true)(Ua:Km X.K X.mg)(oH:closureFor scope X.env=pure [])(hq:X.env.qual++"<lambda>"=iY)(vJ:defaultsOf params X.env=([],[]))
  (Sc:bW [x] [x] scope) (hr:bx k X.A) (kY:∀pm c' ctv u,bindArgs (kla_fn "<lambda>" iY params body scope [] pm (.ref c') ctv) ⟨[u],[]⟩=pure [(x,u)])
  (hm:X.mg "sorted"=none) (hg:Gl X "sorted") (ha:SE X cA aq aj F EX a A)
  (hb:∀fa c' s' H',SE (dJ (fj X.prog X.w) X.prog X.w X.K X.mg X.base [x] iY scope fa (.ref c') X.A.in1.in1 X.stack s' H' (λ_ _ _=>False) true) cA aq aj F (λ_ _ _ _=>False) body B)
  (he:starEach [a] X.env=(false,eval a X.env)::starEach [] X.env:=by rfl) :
  SE X cA aq aj F EX (.Call (.Name "sorted" p) [a] [⟨some "key",.Lambda params body scope yF,kpos⟩] pos) (.oM fz A B):=by
 intro ao s Z H Q I hh;obtain⟨U,J,st,hL,hS,h⟩:=hh;cases aj with
 |false=>exact h.elim
 |true=>
 have h:Run X.K cA (M.bd (ev aq true F A J) λx=>match x with
   |.d (.fl xs)=>M.bd (M.opt (gB (λd=>ev aq true F B [some (.d d)]) xs)) λks=>M.bd (M.opt (jr (zK ks) xs)) λys=>newL fz ys
   |_=>M.no) U H st _ _:=h
 refine Ai (vX I hg hm ZL ?_ RB RB);refine callWith_kw (e:=a) (rest:=[]) ?_ (by rw[he];rfl) (by rw[he];rfl);have PAa:PA X [a] (zA (tE X.K cA EX (ev aq true F A)) HJ):=rY ha xq he;refine aQ (PAa pos ao s Z H (λvs H1=>∃v U1 d st1,vs=[v]/\aW X.K cA U1 H1 Z J/\aD X.K cA U1 H1 st1/\aU X.K cA U1 H1 d v/\Run X.K cA ((λx:Xv=>match x with
   |.d (.fl xs)=>M.bd (M.opt (gB (λd=>ev aq true F B [some (.d d)]) xs)) λks=>M.bd (M.opt (jr (zK ks) xs)) λys=>newL fz ys
   |_=>M.no) d) U1 H1 st1 (λd _ U' H'=>∀v,aU X.K cA U' H' d v->Q v H') (eX X.K cA EX Z)) I ?_) λus s1 hx=>?_
 ·exact aX hL hS h λv H1 U1 d st1 x1 hL1 aG r1 h2=>⟨v,U1,d,st1,rfl,hL1,aG,r1,h2⟩
 obtain⟨vs0,H1,I1,rvs,v,U1,d,st1,rfl,hL1,aG,r1,h2⟩:=hx;obtain⟨u,rfl,ru⟩:=vals1 rvs;have key:∃xs,d=.d (.fl xs):=by
  cases d with
  |l n=>exact h2.elim
  |d d=>cases d<;>first|exact⟨_,rfl⟩|exact h2.elim
 obtain⟨xs,rfl⟩:=key;have h2:Run X.K cA (M.bd (M.opt (gB (λd=>ev aq true F B [some (.d d)]) xs)) λks=>M.bd (M.opt (jr (zK ks) xs)) λys=>newL fz ys) U1 H1 st1 (λd _ U' H'=>∀v,aU X.K cA U' H' d v->Q v H') (eX X.K cA EX Z):=h2;obtain⟨ks,ek,h3⟩:=h2.m8;obtain⟨zs,ez,h4⟩:=h3.m8;obtain⟨kl,kf⟩:=zeB ek;cases r1 with
 |d r1=>
 cases r1 with
 |@fl _ l vs hl1 rs=>
 cases ru;have hlen:=rs.len;obtain⟨pp,qH,nO,hz⟩ : ∃pp:Array Nat,(2<=vs.length->bF (zK ks) (kas_sort vs.length)=some pp/\pp.size=vs.length)/\vs.length<64/\∀{U':Ph} {H':Hp},aB X.K cA U' H' xs vs->aB X.K cA U' H' zs (fU vs pp):=by
  unfold jr at ez;by_cases c2:xs.length<2
  ·rw[if_pos c2] at ez;cases ez;refine⟨#[],λz=>absurd z gV,by lia,λr=>?_⟩;have:fU vs #[]=vs:=by unfold fU;rw[if_pos gV]
   rw[this];exact r
  ·rw[if_neg c2] at ez;by_cases c3:xs.length<64
   ·rw[if_pos c3] at ez;cases e:bF (zK ks) (PySem.W.kas_sort xs.length) with
    |none=>rw[e] at ez;cases ez
    |some q=>
     rw[e] at ez;dsimp only at ez;by_cases hq:q.size=xs.length
     ·rw[if_pos hq] at ez;cases ez;refine⟨q,λ_=>⟨by rw[<-hlen];exact e,by lia⟩,by lia,λr=>?_⟩;have:fU vs q=q.toList.map λi=>vs.getD i .non:=by unfold fU;rw[if_neg gV]
      rw[this];exact r.C_ q.toList
     ·rw[if_neg hq] at ez;cases ez
   ·rw[if_neg c3] at ez;cases ez
 show wpAny _ _ (evalAll [do let v <-eval (.Lambda params body scope yF) X.env;standAt pos;pure v]) _ _ s1;refine wpAny_evalAll_cons (aA (zh8 I1 on iG hC hl Ua oH hq vJ λfa c' ctv pm H2 s2 I2 gc tx=>aA (ug (aP (wpAny_evalAll_nil ?_)))));have x2:Ext ⟨U1.z,[]⟩ H1 ⟨U1.z,[]⟩ H2:=zkk tx;have r2:aD X.K cA ⟨U1.z,[]⟩ H2 []:=Ks λa z=>by obtain⟨o,e⟩:=aG.zt a z;exact tx.st a o e
 refine zgG (G:=λH3=>∃U3,Ext ⟨U1.z,[]⟩ H2 U3 H3/\aD X.K cA U3 H3 []) (fo:=lamO params body scope pm c' ctv) (ys:=vs) (kz:=ks) (lt:=zK ks) (p:=pp) I2 ⟨_,Ext.refl,r2⟩ (LstAt.sY (LstAt.mono (U:=⟨U1.z,[]⟩) x2 (λa ha=>by simp at ha) hl1)) gV nO (λi v k' hv hk H3 ps s' u g3 aZ Dp rv=>?_) (λi j b e=>?_) qH λH' r g3 hn=>?_
 ·obtain⟨U3,x3,r3⟩:=g3;obtain⟨d,ed⟩ : ∃d,xs[i]?=some d:=by
   cases e:xs[i]? with
   |none=>rw[rs.none e] at hv;cases hv
   |some d=>exact⟨d,rfl⟩
  obtain⟨v2,ev2,rd⟩:=rs.get ed;rw[hv] at ev2;cases ev2;have ef:=kf i d k' ed hk;have rd3:Rep X.K cA U3 H3 d v:=((Rep.zl rd []).mono x2 λa ha=>by simp at ha).mono x3 λa ha=>by simp at ha
  obtain⟨oc,w,ws,tq,g1,g2,g4⟩:=gc;have gc3:GoodC H3 c':=⟨oc,w,ws,tq,x3.frame c' _ g1 trivial Zaa,g2,g4⟩;refine zhN (X:=X.Dn) (CX:=fj X.prog X.w) (cm:=true) aZ (aZ.pin _ (lg _ Dp)).1 gc3 Sc (λ_=>aZ.ok.hd hc) hr.depth (kY pm c' ctv) rv (hb fa c' s' H3) ?_ (λe s' z=>by obtain⟨_,_,_,_,_,_,_,_,_,_,z⟩:=z;exact z);refine⟨U3,[some (.d d)],[],⟨rfl,λj y e=>?_⟩,r3,?_⟩
  ·cases j with
   |zero=>simp at e;subst e;exact⟨v,rfl,.d rd3⟩
   |succ j=>simp at e
  ·unfold Run;rw[ef];intro U' H' x' r' v' rv';cases rv' with
   |d rv'=>
    cases rv';exact⟨rfl,U',x3.trans x',r'⟩
 ·unfold zK at e;cases e1:ks[i]? with
  |none=>rw[e1] at e;cases e
  |some a=>
   cases e2:ks[j]? with
   |none=>rw[e1,e2] at e;cases e
   |some b'=>
    rw[e1,e2] at e;cases e;exact⟨a,b',rfl,rfl,rfl⟩
 ·obtain⟨U3,x3,r3⟩:=g3;obtain⟨xe,re⟩:=Kr aG (x2.trans x3) r3;have rs3:aB X.K cA ⟨U3.z,U1.l⟩ H' xs vs:=rs.mono xe aG.lz;exact Yl re (h4.ext xe) r _ hn (hz rs3)
end
structure JL(X:Cx):Prop where
 ex:∃c P,X.env.code=.ref c/\codeHdIn X.K c P=true/\jW X.K c P=true/\Km X.K X.mg
structure Dq(K:Frag)(mg:Str->Option Value)(fd:FuncData):Prop where
 ex:∃c P,fd.code=.ref c/\codeHdIn K c P=true/\jW K c P=true/\Km K mg
section
variable {X:Cx}{cA:Cl}{aq:Nat->Nat->Bool}{aj:Bool}{F:Fn}{EX:XS}{a:Expr}{A B:E}{fz:Bool}{k:Nat}{params:Arguments}{body:Expr}{scope:Scope}{p pos yF kpos:Pos}
theorem ziQ(x:Str)(L:JL X)(hr:bx k X.A)(hc:X.aj=true)(hm:X.mg "sorted"=none)(hg:JK X "sorted" .globalImplicit)(ha:JE X cA aq aj F EX a A)
  (hb:∀fa c' s' H',JE (dJ (fj X.prog X.w) X.prog X.w X.K X.mg X.base [x] iY scope fa (.ref c') X.A.in1.in1 X.stack s' H' (λ_ _ _=>False) true) cA aq aj F (λ_ _ _ _=>False) body B)
  (oH:closureFor scope X.env=pure []:=by rfl) (hq:X.env.qual++"<lambda>"=iY:=by kernel_rfl) (vJ:defaultsOf params X.env=([],[]):=by rfl)
  (kY:∀pm c' ctv u,bindArgs (kla_fn "<lambda>" iY params body scope [] pm (.ref c') ctv) ⟨[u],[]⟩=pure [(x,u)]:=by intros;rfl)
  (Sc:bW [x] [x] scope:=by exact⟨rfl,rfl,rfl,dk,rfl,dk,dk⟩) (he:starEach [a] X.env=(false,eval a X.env)::starEach [] X.env:=by rfl) (on:qP=true:=by rfl) :
  JE X cA aq aj F EX (.Call (.Name "sorted" p) [a] [⟨some "key",.Lambda params body scope yF,kpos⟩] pos) (.oM fz A B):=by
 obtain⟨c,P,l1,l2,l3,l4⟩:=L.ex;exact⟨zhn on hc l1 l2 l3 l4 oH hq vJ Sc hr kY hm hg.o ha.o (λfa c' s' H'=>(hb fa c' s' H').o) he⟩
end
theorem fJL{P:Program}{w:World}{K:Frag}{mg:Str->Option Value}{base:Heap}{cA:Cl}{aq:Nat->Nat->Bool}{T:Nat->Option Df}{x:Str}{st:Stmt}{ps:List Str}{k n:Nat}{cm:Bool}{df:Df}(D:D3 K mg x st ps)(LK:Dq K mg (fdOf K x st))(N:List Str)(hT:T n=some df)
  (hb:∀(cdv:Value) (A:Around) (outer:List Env) (s:Shared) (H:Hp) (E:XK),bx k (A.deeper (envOfC x (au st) s.heap.objs.size (fW K x) cdv))->JL (dJ (fj P w) P w K mg base N x (au st) (fW K x) cdv A outer s H E cm)->
   JB (dJ (fj P w) P w K mg base N x (au st) (fW K x) cdv A outer s H E cm) cA aq cm (λc=>call aq T k c) (λ_ C dx H'=>E C dx H') (aJ st) df.body) (S:bW N ps (au st):=by exact⟨rfl,rfl,rfl,dk,rfl,dk,dk⟩) (hp:df.dD=ps.length:=by rfl) (hm:df.many=N.length:=by rfl) :
  cF P w K mg base (fj P w) cm (k+1) (fW K x) (fdOf K x st) ps (lG K cA (call aq T (k+1) cm n)):=by
 obtain⟨c,P',l1,l2,l3,l4⟩:=LK.ex;obtain⟨oc,od,kV,doc,pm,an,cdv,ct,osl,e,lk,iG⟩:=D.f.ex;rw[e] at lk l1 ⊢;have l1:cdv=.ref c:=l1;refine QL lk iG S (λvs H Q E ⟨U,ds,s,r,hS,h⟩=>?_) λA outer s H vs Q E hr ⟨U,ds,st',r,hS,h⟩=>?_
 ·rw[<-r.len,(Nt hT h).1,hp]
 ·obtain⟨hl,h2⟩:=Nt hT h;exact⟨_,(hb cdv A outer s H E (hr.deeper _) ⟨c,P',l1,l2,l3,l4⟩).o,U,_,st',S7 r hl.symm hm,hS,h2⟩
structure kZ(K:Frag)(h:Heap):Prop where
 ex:∃(q:Addr×FuncData) (c P:Addr),wK K "plain_rings"=some q/\q.2.code=.ref c/\codeHdIn K c P=true/\jW K c P=true/\K.lookup P=none/\h.get? P=some (tabObj #[])/\(∀c' P',jW K c' P'=true->P'=P)/\bmB K=true
theorem zj5{K:Frag}{c P:Addr}(h:jW K c P=true):∃o,K.lookup c=some o/\lN o=some (.ref P):=by
 unfold jW at h;split at h
 ·rename_i o e;refine⟨o,e,?_⟩;split at h
  ·rename_i vs ed;rw[fK] at h;obtain⟨h1,h2⟩:=h;split at h1
   ·rename_i q t e1;split at h2
    ·rename_i p Rw;unfold lN;rw[ed];dsimp only;rw[e1];dsimp only;rw[h1];dsimp only;rw[Rw,nU.mp h2]
    ·cases h2
   ·cases h1
  ·cases h
 ·cases h
theorem zj6{K:Frag}{c P:Addr}{o:Obj}(e:K.lookup c=some o)(h:lN o=some (.ref P)):jW K c P=true:=by
 unfold lN at h;split at h
 ·rename_i vs ed;split at h
  ·rename_i q t e1;split at h
   ·rename_i eq;unfold jW;rw[e];dsimp only;rw[ed];dsimp only;rw[e1,h];dsimp only;rw[eq];simp
   ·cases h
  ·cases h
 ·cases h
theorem zg1{o:Obj}(h:qO o=true):o=tabObj #[]:=by
 unfold qO at h;split at h
 ·rename_i vs sl;rw[fK] at h;rw[Array.isEmpty_iff.mp h.1,Array.isEmpty_iff.mp h.2]
 ·cases h
theorem zi7{K:Frag}{h:Heap}(e:Ax K h=true):kZ K h:=by
 unfold Ax at e;split at e
 ·rename_i q hq;split at e
  ·rename_i c hc;split at e
   ·rename_i P hP;simp only[fK,iz] at e;obtain⟨⟨⟨⟨e1,e2⟩,e3⟩,e4⟩,e5⟩:=e;obtain⟨o,ho,hi⟩:=yO.mp hP;refine⟨q,c,P,hq,hc,e1,zj6 ho hi,by simpa using e2,?_,λc' P' hl=>?_,e4⟩
    ·unfold G6 at e3;split at e3
     ·rename_i o' pU;rw[pU,zg1 e3]
     ·cases e3
    ·obtain⟨o',pU,sE⟩:=zj5 hl;have:=e5 (c',o') (TF pU);dsimp only at this;rw[sE] at this;exact nU.mp this
   ·cases e
  ·cases e
 ·cases e
theorem kZ.keeps{K:Frag}{h h':Heap}(L:kZ K h)(k:∀b o,h.get? b=some o->h'.get? b=some o):kZ K h':=by
 obtain⟨q,c,P,a1,a2,a3,a4,a5,a6,a7⟩:=L.ex;exact⟨q,c,P,a1,a2,a3,a4,a5,k _ _ a6,a7⟩
theorem znG{K:Frag}{h:Heap}{mg:Str->Option Value}(e:bmB K=true)(X:K.In h)(G:h.Ns mainGlobals mg):Km K mg:=by
 unfold bmB at e;split at e
 ·rename_i bm hb;split at e
  ·rename_i d sl hl;simp only[fK,nU,bne_iff_ne] at e;obtain⟨⟨e1,e2⟩,e3⟩:=e;exact⟨bm,_,mg_of X G hb,e2,e3,hl,rfl,by rw[e1],rfl⟩
  ·cases e
 ·cases e
theorem kZ.lk{K:Frag}{h:Heap}{mg:Str->Option Value}(L:kZ K h)(X:K.In h)(G:h.Ns mainGlobals mg)(st:Stmt):Dq K mg (fdOf K "plain_rings" st):=by
 obtain⟨q,c,P,a1,a2,a3,a4,a5,a6,a7,a8⟩:=L.ex;refine⟨c,P,?_,a3,a4,znG a8 X G⟩;unfold fdOf;rw[a1];exact a2
theorem zgT{P:Program}{w:World}{K:Frag}{mg mb:Str->Option Value}{CX:rZ}{k:Nat}{fa a:Addr}{fd:FuncData}{x:Str}{sp:Sp}{s₁:Shared}{vs:List Value}{ns:List Int}
  (KX:K.In s₁.heap) (hns:s₁.heap.Ns mainGlobals mg) (hb:s₁.heap.Ns builtinsNs mb) (hbb:∀x:Str,x≠"__name__"->mb x=bootBuiltins x) (Ug:s₁.heap.NoLimit) (hg:s₁.gens=#[])
  (ha:s₁.heap.get? a=some {cls:=.type "list",data:=.seq vs.toArray}) (hi:IntsAre vs ns) (hl:ns.length<=sizeLine) (hr:bx k callerA)
  (F:∀base:Heap,K.In base->base.Ns mainGlobals mg->cF P w K mg base CX true k fa fd [x] sp) (kY:∀(s:Shared) (u:Value),BindsTo s fd ⟨[u],[]⟩ [(x,u)])
  (Mz:∀H:Hp,cT K H a (ns.map V.int)->sp [.ref a] H (λv _=>v=.bl true) λ_ _ _=>False)
  (hCX:∀H e s',CX [] H s₁ (λ_ _ _=>False) e s'->False) (LH:kZ K s₁.heap) :
  codeAny (model P w) callerA (.call (.ref fa) ⟨[.ref a],[]⟩) (λr s'=>r=.ok (.ret (.bool true))/\OldK s₁.heap s'.heap/\s'.os=s₁.os/\AllBare s'.gens) s₁:=by
 have rv:=Xr hi;have lenV:=hi.length;obtain⟨q,c,T,a1,a2,a3,a4,a5,a6,a7,a8⟩:=LH.ex;have nTa:T≠a:=λz=>by rw[z,ha] at a6;cases a6
 have core:∀H:Hp,H T=some (.lO #[])->cT K H a (ns.map V.int)->iR P w H s₁.heap->(∀b,H b≠none->b=T\/(b=a/\∃o xs,H b=some (.n6 o (.lst xs))))->(H a≠none->K.lookup a=none)->
   codeAny (model P w) callerA (.call (.ref fa) ⟨[.ref a],[]⟩) (λr s'=>r=.ok (.ret (.bool true))/\OldK s₁.heap s'.heap/\s'.os=s₁.os/\AllBare s'.gens) s₁:=by
  intro H hT hS hok hA hK;have rG:∀{b:Addr} {o:Obj},s₁.heap.get? b=some o->H b=none->(mK s₁.heap H).get? b=some o:=λe n=>zh9 e n;have HX:∀{b:Addr} {o:Obj} {es:Array DictEntry} {ep:Nat},s₁.heap.get? b=some o->o.data=.dict es ep->H b=none:=λ{b o es ep} e d=>by
   cases qq:H b with
   |none=>rfl
   |some u=>
    rcases hA b (by rw[qq];simp) with z|⟨z,_⟩
    ·subst z;rw[a6] at e;cases e;have d':Data.fields #[]=Data.dict es ep:=d;cases d'
    ·subst z;rw[ha] at e;cases e;have d':Data.seq vs.toArray _=Data.dict es ep:=d;cases d'
  have Oc:∀{b:Addr} {m:Str->Option Value},s₁.heap.Ns b m->(mK s₁.heap H).Ns b m:=λ{b m} ⟨o,es,ep,e,d,r⟩=>⟨o,es,ep,rG e (HX e d),d,r⟩;have hKb:K.In (mK s₁.heap H):=λb o e=>rG (KX b o e) (by
   cases qq:H b with
   |none=>rfl
   |some u=>
    rcases hA b (by rw[qq];simp) with z|⟨z,_⟩
    ·subst z;rw[a5] at e;cases e
    ·subst z;rw[hK (by rw[qq];simp)] at e;cases e)
  have hM:Mod K mg (mK s₁.heap H):=⟨hKb,Oc hns,⟨mb,Oc hb,hbb⟩,let ⟨mc,h1,h2⟩:=Ug;⟨mc,Oc h1,h2⟩⟩;have e0:pZ P w K mg (mK s₁.heap H) callerA [] s₁ H:=⟨rfl,hM,λb o e=>ziU e,Nat.le_of_eq (zgM _ _),trivial,⟨λb hb=>absurd (show b∈([]:List Addr) from hb) Zaa,λ_ c' P' hc=>⟨#[],by rw[a7 c' P' hc];exact hT,.nil⟩⟩,hok,.of_eq hg⟩;refine yX ((F _ hKb (Oc hns)).run callerA [] s₁ H ⟨[.ref a],[]⟩ [.ref a] [.ref a] _ _ (λ_=>rfl) hr e0 (kY s₁ (.ref a)) (.cons rfl .nil) (Mz H hS)) λr s' h=>?_;cases r with
  |error e=>exact(hCX H e s' h).elim
  |ok fl=>
   cases fl with
   |next=>exact False.elim h
   |brk=>exact False.elim h
   |cont=>exact False.elim h
   |ret u=>
    obtain⟨v,H',os,bare,un,Ku,r',q'⟩:=h;have q':v=.bl true:=q';subst q';obtain rfl:u=Value.bool true:=r';obtain⟨more,hT',_⟩:=un.jE T #[] hT;have oT:s'.heap.get? T=some (tabObj (#[]++more)):=Ku T _ hT';have ht₀:s₁.heap.TableAt c T #[]:=(codeHd_of_K KX a3).tab a6;have kept:∀b o,b≠T->s₁.heap.get? b=some o->s'.heap.get? b=some o:=λb o nb e=>by
     cases qq:H b with
     |none=>exact un.keep b o e qq (by intro z;exact absurd (show b∈([]:List Addr) from z) Zaa) Zaa
     |some u=>
      rcases hA b (by rw[qq];simp) with z|⟨_,ob,xs,z⟩
      ·exact absurd z nb
      ·have z2:=un.iZ b ob _ z;obtain⟨e1,_⟩:=hok b _ z;obtain⟨e2,_⟩:=Ku b _ z2;rw[e] at e1;cases e1;exact e2
    refine⟨rfl,⟨λb o e=>?_,λb o e=>?_⟩,os,bare⟩
    ·by_cases z:b=T
     ·subst z;rw[a6] at e;cases e;exact .inr (.inl ⟨ht₀.isCodeTable,rfl,#[],more,rfl,oT⟩)
     ·exact .inl (kept b o z e)
    ·by_cases z:b=T
     ·exact⟨_,by rw[z];exact oT⟩
     ·exact⟨o,kept b o z e⟩
 have Ad:∀H,bI P w H s₁.heap T (.lO #[]):=λH=>a6;cases hk:K.lookup a with
 |some o=>
  have e:=KX a o hk;rw[ha] at e;cases e;refine core (λb=>if b=T then some (.lO #[]) else none) (if_pos rfl) (.inr ⟨_,vs.toArray,_,hk,rfl,rfl,rfl,by rw[fH,lenV];exact hl,by simpa using rv⟩) (λb u z=>?_) (λb z=>?_) λz=>absurd (if_neg (Ne.symm nTa)) z
  ·by_cases hb:b=T
   ·subst hb;have z':=(if_pos rfl).symm.trans z;cases z';exact Ad _
   ·have z':=(if_neg hb).symm.trans z;cases z'
  ·by_cases hb:b=T
   ·exact .inl hb
   ·exact absurd (if_neg hb) z
 |none=>
  refine core (λb=>if b=T then some (.lO #[]) else if b=a then some (.n6 {cls:=.type "list",data:=.seq vs.toArray} (.lst (ns.map V.int))) else none) (if_pos rfl) (.inl (.inr ⟨{cls:=.type "list",data:=.seq vs.toArray},by show (if a=T then _ else _)=_;rw[if_neg (Ne.symm nTa),if_pos rfl]⟩)) (λb u z=>?_) (λb z=>?_) λ_=>hk
  ·by_cases hb:b=T
   ·subst hb;have z':=(if_pos rfl).symm.trans z;cases z';exact Ad _
   ·have z':=(if_neg hb).symm.trans z;by_cases ud:b=a
    ·have z'':=(if_pos ud).symm.trans z';cases z'';subst ud;exact⟨ha,by rw[fZ];exact hl,vs,_,rv,ha⟩
    ·have z'':=(if_neg ud).symm.trans z';cases z''
  ·by_cases hb:b=T
   ·exact .inl hb
   ·by_cases ud:b=a
    ·exact .inr ⟨ud,_,_,(if_neg hb).trans (if_pos ud)⟩
    ·exact absurd ((if_neg hb).trans (if_neg ud)) z
end Mi
namespace Mi
open PySem PySem.Spec PyProof.Rows L2
section
variable {K:W.Frag}{cA:Cl}{U:Ph}{H:Hp}{s:S}
theorem zel{β:Type}{c:Nat}{x:Xv}{v:V}{k:List D->M β}{P:β->S->Ph->Hp->Prop}{Ee:Nat->List D->S->Ph->Hp->Prop}(r:aU K cA U H x v)(h:Run K cA (M.bd (sV c x) k) U H s P Ee) :
  ∃fs ad dx vs,v=.ref ad/\H ad=some (.ins (cA.b c) dx ((cA.g c).zip vs))/\aB K cA U H fs vs/\Run K cA (k fs) U H s P Ee:=by
 cases r with
 |l _=>exact h.elim
 |d r=>cases r with
  |@ob ad e fs vs q r=>
   have h2:Run K cA (M.bd (if e=c then M.ret fs else M.no) k) U H s P Ee:=h;clear h;by_cases z:e=c
   ·rw[if_pos z] at h2;subst z;obtain⟨_,dx,q1,_⟩:=q;exact⟨fs,ad,dx,vs,rfl,q1,r,h2⟩
   ·rw[if_neg z] at h2;exact h2.elim
  |_=>exact h.elim
theorem Run.qt'{α:Type}{m:M α}{P:α->S->Ph->Hp->Prop}{Ee Ee':Nat->List D->S->Ph->Hp->Prop}(h:Run K cA (M.qt m) U H s P Ee):Run K cA m U H s P Ee':=by
 unfold Run M.qt at *;cases e:m s with
 |none=>rw[e] at h;exact h
 |some r=>
  obtain⟨r,s1⟩:=r;rw[e] at h;cases r with
  |ok a=>exact h
  |er c f=>exact h.elim
theorem zcl:∀{ns:List Str} {vs:List V} {m:Str},m∉ns->(ns.zip vs).lookup m=none
 |[],vs,m,_=>by simp
 |n::ns,[],m,_=>by simp
 |n::ns,v::vs,m,h=>by
  rw[Gx,pN,show (m==n)=false from DN.mpr λe=>h (by simp[e])];exact zcl λz=>h (gY _ z)
end
structure Ow(K:W.Frag)(cA:Cl)(c:Nat):Prop where
 cl:Cls K (cA.b c)
 nf:∀f∈cA.g c,g8 K (cA.b c) f
 nd:(cA.g c).Nodup
section
variable {X:Cx}{cA:Cl}{aq:Nat->Nat->Bool}{aj:Bool}{F:Fn}{EX:XS}{a e:Expr}{es:List Expr}{A:E}{Xs:Es}{pos apos p:Pos}{x:Str}
theorem Gg{c i:Nat}(o:Ow X.K cA c)(ha:JE X cA aq aj F EX a A)(hi:((cA.g c)[i]?==some x)=true:=by kernel_rfl)(hb:attributeBase a x X.env (eval a X.env)=eval a X.env:=by rfl):JE X cA aq aj F EX (.Attribute a x pos) (.of A c i):=⟨PE.weak (zll ha.o hb) λZ H Q hh=>un hh λU J s hL hS h=>by
 refine aX hL hS h λy H1 U1 d1 s1 x1 hL1 aG r1 h1=>?_;obtain⟨fs,ad,dx,vs,rfl,q1,q2,h2⟩:=zel r1 h1;have hi:(cA.g c)[i]?=some x:=nU.mp hi;cases ef:fs[i]? with
 |none=>rw[ef] at h2;exact h2.elim
 |some d=>
  rw[ef] at h2;obtain⟨v,e1,rv⟩:=q2.get ef;exact⟨ad,_,dx,_,v,rfl,q1,o.cl,o.nf x (gH hi),zfo o.nd hi e1,h2.bC aG v (.d rv)⟩⟩
theorem zge:Passes (fj X.prog X.w) X λ_ _ _=>False:=λao Z H s e s' I h=>by
 obtain⟨_,_,_,_,_,_,_,_,_,_,z⟩:=h;exact z.elim
structure Mt(K:W.Frag)(C:Addr)(m q:Str)(st:Stmt)(ps:List Str)(f:Addr)(fd:FuncData):Prop where
 fn:oX K m q st f fd
 mt:Meth K C m f
 bd:Binds K fd ps []
theorem yG{c f k:Nat}{cm:Bool}{m q:Str}{st:Stmt}{ps:List Str}{fa:Addr}{fd:FuncData}{pl:Sem Bool}(o:Ow X.K cA c)(D:Mt X.K (cA.b c) m q st ps fa fd)(Fo:cF X.prog X.w X.K X.mg X.base (fj X.prog X.w) cm k fa fd ps (lG X.K cA (F f)))(hr:bx k X.A)(ha:JE X cA aq aj F EX a A)(hb:JA X cA aq aj F EX (e::es) Xs)
  (hm:decide (m∉cA.g c)=true:=by kernel_rfl) (je:cm=true->X.aj=true:=by first|exact λ_=>rfl|exact λz=>nomatch z) (he:aC e=true:=by rfl) (cU:es.all aC=true:=by rfl)
  (ht:eval (.Call (.Attribute a m apos) (e::es) [] pos) X.env=(do
   let ov <-eval a X.env
   standAt apos.atName
   let (f,first) <-holding [ov] (getMethod ov m pl)
   callWith pos f first (backTo pos (starEach (e::es) X.env)) (backToKw pos (keywordEach [] X.env))):=by rfl):JE X cA aq aj F EX (.Call (.Attribute a m apos) (e::es) [] pos) (.cm c f A Xs):=⟨PE.weak (ziL (pl:=pl) (ou:=[]) ha.o o.cl D.mt Fo je hr D.bd .nil zge hb.o (bf he) (bD cU) ht) λZ H Q hh=>un hh λU J s hL hS h=>by
 refine aX hL hS h λy H1 U1 d1 s1 x1 hL1 aG r1 h1=>?_;obtain⟨fs,ad,dx,vs,rfl,q1,q2,h2⟩:=zel r1 h1;refine⟨ad,dx,_,rfl,q1,zcl (jP hm),oU hL1 aG h2 λus H2 U2 ds s2 x2 hL2 aM r2 h3=>?_⟩;rw[wH];obtain⟨U0,s0,a1,a2,a3⟩:=YX (EE:=λ_ _ _ _=>False) aM (.cons (r1.mono x2 aG.lz) r2) (λ_ _ _ _ _ _ z=>z) (h3.qt');refine⟨U0,_,s0,a1,a2,?_⟩;unfold Run at a3 ⊢;split at a3
 ·exact a3
 ·exact λU' H' x r=>(a3 U' H' x r).elim
 ·exact a3⟩
end
noncomputable def Od(K:W.Frag)(cA:Cl)(c:Nat)(m:List Xv->M Xv):Sp:=λvs H Q _=>∃x dx us U H0 xs s,vs=.ref x::us/\H0 x=none/\H0 dx=none/\dx≠x/\H=upd (upd H0 dx (.own x)) x (.ins (cA.b c) dx [])/\aR K cA U H0 xs us/\aD K cA U H0 s /\
 Run K cA (m (.d .any::xs)) U H0 s (λr _ U' H'=>∀ds ws,r=.d (.tup ds)->aB K cA U' H' ds ws->fD U' H' x (.ins (cA.b c) dx ((cA.g c).zip ws))->(cA.g c).length=ws.length->Q .non H') (λ_ _ _ _ _=>False)
section
variable {K:W.Frag}{cA:Cl}{U:Ph}{H:Hp}{s:S}
theorem zhE{xs:List Xv}{vs:List V}(h:locs xs=[])(r:aR K cA U H xs vs)(l:List Addr):aR K cA ⟨U.z,l⟩ H xs vs:=by
 induction r with
 |nil=>exact .nil
 |cons a r ih=>cases a with
  |d a=>exact .cons (.d (Rep.zl a l)) (ih h)
  |l a=>cases h
theorem Ext.made{x dx:Addr}{C:Addr}(hx:H x=none)(hd:H dx=none)(hn:dx≠x):Ext U H (U.mark x) (upd (upd H dx (.own x)) x (.ins C dx [])):=by
 have g:bG H (upd (upd H dx (.own x)) x (.ins C dx [])):=(bG.new hd).trans (bG.new (by rw[bT hn.symm];exact hx));exact⟨⟨[],by simp[Ph.mark],by simp⟩,λa z=>.inl z,λa z=>z.imp id λe=>by rw[e];exact hx,λa o h _ _=>g a o h,λa o h=>⟨o,g a o h⟩⟩
theorem aD.made{x dx:Addr}{C:Addr}(hS:aD K cA U H s)(hx:H x=none)(hd:H dx=none)(hn:dx≠x):aD K cA (U.mark x) (upd (upd H dx (.own x)) x (.ins C dx [])) s:=by
 have xt:=Ext.made (U:=U) (C:=C) hx hd hn;refine⟨hS.len,λn o a e1 e2=>(hS.obj n o a e1 e2).map (λu _ q=>?_) λ_ _ r=>r.mono xt hS.lz,hS.uniq,λa ha=>.inl (hS.lz a ha),λa z=>?_⟩
 ·have n1:a≠x:=λy=>by rw[y,hx] at q;cases q
  have n2:a≠dx:=λy=>by rw[y,hd] at q;cases q
  rw[bT n1,bT n2];exact q
 ·rcases z with z|z
  ·obtain⟨o,e⟩:=hS.zt a z;exact xt.stay a o e
  ·subst z;exact⟨_,iD⟩
end
section
variable {X:Cx}{cA:Cl}{aq:Nat->Nat->Bool}{aj:Bool}{F:Fn}{EX:XS}{e:Expr}{es:List Expr}{Xs:Es}{pos p:Pos}{x:Str}
theorem zor{c f k:Nat}{cm:Bool}{ps:List Str}{fa:Addr}{fd:FuncData}(M:Mk X.K (cA.b c) fa)(Fo:cF X.prog X.w X.K X.mg X.base (fj X.prog X.w) cm k fa fd ps (Od X.K cA c (F f)))(hr:∀us,bx k (X.A.under (.builtin "type.__call__" ⟨.ref (cA.b c)::us,[]⟩)))(hb:Binds X.K fd ps [])(hm:X.mg x=some (.ref (cA.b c)))(hg:JK X x .globalImplicit)
  (ha:JA X cA aq aj F EX (e::es) Xs) (h:okN x=true:=by kernel_rfl) (je:cm=true->X.aj=true:=by first|exact λ_=>rfl|exact λz=>nomatch z) (he:aC e=true:=by rfl) (cU:es.all aC=true:=by rfl):JE X cA aq aj F EX (.Call (.Name x p) (e::es) [] pos) (.mk c f Xs):=⟨PE.weak (ziS (ou:=[]) M Fo je hr hg.o hm hb .nil zge ha.o (vd h).1 (bf he) (bD cU)) λZ H Q hh=>un hh λU J s hL hS h=>
 oU hL hS h λus H1 U1 ds s1 x1 hL1 aG r1 h1 x dx hx hd hn=>by
  rw[wH];unfold Run zN at h1;by_cases hl:locs ds=[]
  ·simp only[if_pos hl] at h1;refine⟨x,dx,us,⟨U1.z,[]⟩,H1,ds,[],rfl,hx,hd,hn,rfl,zhE hl r1 [],⟨rfl,(λn o a e=>by simp at e),Ar,(λa ha=>by cases ha),aG.zt⟩,?_⟩;unfold Run;cases e:F f (.d .any::ds) [] with
   |none=>simp only[e] at h1
   |some r=>
    obtain⟨r,s2⟩:=r;simp only[e] at h1;cases r with
    |er c f=>exact h1.elim
    |ok r=>
     intro U' H' xt aM ts ws er rs kp hlen;subst er;have nx:¬U1.z x:=aG.nz hx;have ne:∀a o,H1 a=some o->a≠x:=λa o q y=>by rw[y,hx] at q;cases q
     have xt2:Ext U1 H1 ⟨λa=>U'.z a/\a≠x,U1.l⟩ H':=by
      refine⟨⟨[],by simp,by simp⟩,λa z=>⟨xt.qw a z,λy=>nx (y▸z)⟩,λa z=>xt.kE a z.1,λa o q t _=>xt.frame a o q t Zaa,xt.stay⟩
     refine⟨rfl,h1 _ H' xt2 ⟨aG.len,λn o a e1 e2=>(aG.obj n o a e1 e2).map (λu t q=>xt.frame a u q t Zaa) λ_ _ r=>r.mono xt2 aG.lz,aG.uniq,λa ha=>⟨xt.qw a (aG.lz a ha),λy=>nx (y▸aG.lz a ha)⟩,λa z=>aM.zt a z.1⟩ _ (.d (.ob ⟨λz=>z.2 rfl,dx,kp.at_,hlen⟩ (rs.kO (U':=⟨λa=>U'.z a/\a≠x,U1.l⟩) λ_ z=>z.1)))⟩
  ·simp only[if_neg hl] at h1⟩
end
structure yH(X:Cx)(cA:Cl)(aq:Nat->Nat->Bool)(aj:Bool)(F:Fn)(EX:XS)(c:Nat)(body:List Stmt)(is:Es)(ns:List Str):Prop where
 o:pW X body λD Z H=>∃U0 H0 U J s x dx done vs ys,Ext U0 H0 U H/\aW X.K cA U H Z J/\aD X.K cA U H s/\H0 x=none/\Z[0]?=some (some (.ref x))/\fD U H x (.ins (cA.b c) dx (done.zip vs))/\aR X.K cA U H ys vs/\done.length=vs.length/\done++ns=cA.g c/\done.length+ns.length<=900 /\
  Run X.K cA (M.bd (evs aq aj F is J) λzs=>cM (ys++zs)) U0 H0 s (λes _ U' H'=>∀ws,aB X.K cA U' H' es ws->fD U' H' x (.ins (cA.b c) dx ((cA.g c).zip ws))->(cA.g c).length=ws.length->D.nx Z H') (eX X.K cA EX Z)
theorem zeN{f:Str}{v:V}:∀{fs:List (Str×V)},f∉fs.map (·.1)->fQ f v fs=fs++[(f,v)]
 |[],_=>rfl
 |(g,x)::r,h=>by
  unfold fQ;rw[if_neg λe=>h (by simp[e]),zeN λz=>h (gY _ z)];rfl
theorem aR.out{K:W.Frag}{cA:Cl}{U:Ph}{H H':Hp}(x:cO U H H'):∀{ds:List Xv} {vs:List V},aR K cA U H ds vs->aR K cA U H' ds vs
 |_,_,.nil=>.nil
 |_,_,.cons h r=>.cons (h.out x) (aR.out x r)
theorem aR.app{K:W.Frag}{cA:Cl}{U:Ph}{H:Hp}:∀{ds es:List Xv} {vs us:List V},aR K cA U H ds vs->aR K cA U H es us->aR K cA U H (ds++es) (vs++us)
 |_,_,_,_,.nil,s=>s
 |_,_,_,_,.cons h r,s=>.cons h (aR.app r s)
theorem Run.er{K:W.Frag}{cA:Cl}{U:Ph}{H:Hp}{s:S}{α:Type}{m:M α}{P:α->S->Ph->Hp->Prop}{Ee:Nat->List D->S->Ph->Hp->Prop}(h:Run K cA m U H s P λ_ _ _ _ _=>False):Run K cA m U H s P Ee:=by
 unfold Run at *;split at h
 ·exact h
 ·exact λU' H' x r=>(h U' H' x r).elim
 ·exact h
section
variable {X:Cx}{cA:Cl}{aq:Nat->Nat->Bool}{aj:Bool}{F:Fn}{EX:XS}{c:Nat}{a:Expr}{A:E}{is:Es}{ns:List Str}{body:List Stmt}{f:Str}{pos p p2:Pos}
theorem zl4:yH X cA aq aj F EX c [] .nil []:=⟨λao s Z H D I hh=>WW ao s Z H D I (by
 obtain⟨U0,H0,U,J,st,x,dx,done,vs,ys,xt,hL,hS,hx,h0,kp,rs,hl,hg,hz,h⟩:=hh;rw[wH] at hg;subst hg;have h2:Run X.K cA (M.bd (cM ys) M.ret) U H st (λes _ U' H'=>∀ws,aB X.K cA U' H' es ws->fD U' H' x (.ins (cA.b c) dx ((cA.g c).zip ws))->(cA.g c).length=ws.length->D.nx Z H') (eX X.K cA EX Z):=by
  have h3:=h.ext xt;unfold Run at h3 ⊢;have e0:M.bd (evs aq aj F .nil J) (λzs=>cM (ys++zs)) st=cM ys st:=by show cM (ys++[]) st=_;rw[wH]
  rw[e0] at h3;unfold M.bd;cases e1:cM ys st with
  |none=>rw[e1] at h3;exact h3
  |some r=>
   obtain⟨r,s2⟩:=r;rw[e1] at h3;cases r with
   |er c f=>exact h3
   |ok ds=>exact h3
 obtain⟨ds,_,rs2,h4⟩:=R6 rs h2;exact h4.bC hS vs rs2 kp hl)⟩
theorem Oe{j:Nat}(ow:Ow X.K cA c)(ha:JE X cA aq aj F EX a A)(hr:yH X cA aq aj F EX c body is ns)(h0:(decide (X.N[0]?=some ("self" : Str))&&vH X.env.scope "self"&&okN "self")=true:=by kernel_rfl)
  (hs:swapsWith a (some (.Attribute (.Name "self" p) f p2)) pos.line X.env=pure false:=by rfl):yH X cA aq aj F EX c (.Assign [.Attribute (.Name "self" p) f p2] a pos::body) (.cons A is) (f::ns):=by
 rw[fK,fK] at h0;obtain⟨k,e,hv⟩:=T_ h0.1.2;refine⟨λao s Z H D I hh=>WX (zkx (WM (i:=0) (jP h0.1.1) (by cases k<;>first|exact .inl e|exact .inr (.inl e)|exact .inr (.inr e)|cases hv) (vd h0.2).1 (vd h0.2).2.1) ha.o hs) hr.o ao s Z H D I ?_⟩;obtain⟨U0,H0,U,J,st,x,dx,done,vs,ys,xt,hL,hS,hx,hx0,kp,rs,hl,hg,hz,h⟩:=hh;have h:Run X.K cA (M.bd (M.bd (ev aq aj F A J) λy=>M.bd (evs aq aj F is J) λzs=>M.ret (y::zs)) λzs=>cM (ys++zs)) U0 H0 st _ _:=h;simp only[gQ] at h;refine⟨U,J,st,hL,hS,(h.bd0 xt).imp λy s1 U1 H1 ⟨x1,aG,h1⟩ v rv=>?_⟩;have Og:=kp.mono x1;have nf:f∈cA.g c:=by rw[<-hg];simp
 have nd:f∉done:=λz=>by
  have:=ow.nd;rw[<-hg,Ls] at this;exact this.2.2 f z f Zaa rfl
 have hk:(done.zip vs).map (·.1)=done:=by rw[List.map_fst_zip];lia
 refine⟨.ref x,hx0,x,_,dx,_,rfl,Og.at_,ow.cl,ow.nf f nf,?_,?_⟩
 ·have:(done.zip vs).length<=done.length:=by rw[List.length_zip];lia
  simp at hz
  lia
 rw[zeN (by rw[hk];exact nd)];have ez:done.zip vs++[(f,v)]=(done++[f]).zip (vs++[v]):=by rw[List.zip_append hl];rfl
 rw[ez];have ox:cO U1 H1 (upd H1 x (.ins (cA.b c) dx ((done++[f]).zip (vs++[v])))):=Og.ext.1;refine⟨U0,H0,U1,J,s1,x,dx,done++[f],vs++[v],ys++[y],Ext.keep (vs:=[]) (xt.trans x1) hx,(hL.mono x1 hS.lz).out ox,aG.keep Og,hx,hx0,Og.ext.2,((rs.mono x1 hS.lz).app (.cons rv .nil)).out ox,by simp[hl],by rw[<-hg,Lr];rfl,by simp at hz ⊢;lia,?_⟩;have h1:Run X.K cA (M.bd (evs aq aj F is J) λzs=>M.bd (M.ret (y::zs)) λzs=>cM (ys++zs)) U0 H0 s1 _ _:=h1;have e2:(λzs=>cM (ys++[y]++zs))=λzs=>M.bd (M.ret (y::zs)) λzs=>cM (ys++zs):=by
  funext zs
  rw[Lr];rfl
 rw[e2];exact h1
end
theorem zh7{K:W.Frag}{cA:Cl}{U:Ph}{H:Hp}{s:S}{α:Type}{m m':M α}{P:α->S->Ph->Hp->Prop}{Ee:Nat->List D->S->Ph->Hp->Prop}(e:m s=m' s)(h:Run K cA m U H s P Ee):Run K cA m' U H s P Ee:=by
 unfold Run at *;rw[<-e];exact h
theorem zgl{aq:Nat->Nat->Bool}{T:Nat->Option Df}{k n m p:Nat}{cm:Bool}{is:Es}{xs:List Xv}{s:S}(hT:T n=some ⟨m,p,.cons (.ret (.tup is)) .nil⟩)(hl:xs.length=p) :
  call aq T (k+1) cm n xs s=M.bd (M.bd (evs aq cm (call aq T k cm) is (xs.map some++List.replicate (m-p) none)) cM) (λds=>M.ret (.d (.tup ds))) s:=by
 unfold call;simp only[hT,if_pos hl];show (match bO (ofM (M.bd (evs aq cm (call aq T k cm) is _) λvs=>M.bd (cM vs) λds=>M.ret (.d (.tup ds))) _ λx s=>some (.rt x,s)) _ s with|some (.nx _,s')=>_|some (.rt v,s')=>_|some (.er c fs _,s')=>_|_=>none)=_;rw[gQ];unfold bO ofM;cases e:M.bd (evs aq cm (call aq T k cm) is (xs.map some++List.replicate (m-p) none)) (λvs=>M.bd (cM vs) λds=>M.ret (Xv.d (.tup ds))) s with
 |none=>rfl
 |some r=>
  obtain⟨r,s1⟩:=r;cases r<;>rfl
theorem zjt{P:Program}{w:World}{K:W.Frag}{mg:Str->Option Value}{base:Heap}{cA:Cl}{aq:Nat->Nat->Bool}{T:Nat->Option Df}{x qual:Str}{st:Stmt}{f:Addr}{fd:FuncData}{N ps:List Str}{k n c m p:Nat}{cm:Bool}{is:Es}(F:oX K x qual st f fd)(hT:T n=some ⟨m,p,.cons (.ret (.tup is)) .nil⟩)
  (hb:∀(cdv:Value) (A:Around) (outer:List Env) (s:Shared) (H:Hp) (E:XK),bx k (A.deeper (envOfC qual (au st) s.heap.objs.size f cdv))->
   yH (dJ (fj P w) P w K mg base N qual (au st) f cdv A outer s H E cm) cA aq cm (call aq T k cm) (λ_ C dx H'=>E C dx H') c (aJ st) is (cA.g c)) (hg:(cA.g c).length<=900) (S:bW N ps (au st):=by exact⟨rfl,rfl,rfl,dk,rfl,dk,dk⟩) (hp:p=ps.length:=by rfl) (hm:m=N.length:=by rfl) (h0:0<p:=by decide) :
  cF P w K mg base (fj P w) cm (k+1) f fd ps (Od K cA c (call aq T (k+1) cm n)):=by
 obtain⟨oc,od,kV,doc,pm,an,cdv,ct,osl,rfl,lk,iG⟩:=F.ex;have hlen:∀{U:Ph} {H:Hp} {s:Mi.S} {xs:List Xv} {P:Xv->Mi.S->Ph->Hp->Prop},Run K cA (call aq T (k+1) cm n (.d .any::xs)) U H s P (λ_ _ _ _ _=>False)->xs.length+1=p:=λ{U H s xs P} h=>by
  unfold call at h;simp only[hT] at h;by_cases hl:(Xv.d D.any::xs).length=p
  ·simpa using hl
  ·rw[if_neg hl] at h;exact h.elim
 refine QL lk iG S (λvs H Q E ⟨x,dx,us,U,H0,xs,s,e,_,_,_,_,r,_,h⟩=>?_) λA outer s H vs Q E hr ⟨x,dx,us,U,H0,xs,st',e,hx,hd,hn,eH,r,hS,h⟩=>⟨_,(hb cdv A outer s H E (hr.deeper _)).o,?_⟩
 ·have:=hlen h;rw[e,gZ,<-r.len,<-hp]
  lia
 ·subst e eH;have hl:=hlen h;have xt:=Ext.made (U:=U) (C:=cA.b c) hx hd hn;refine⟨U,H0,U.mark x,(Xv.d .any::xs).map some++List.replicate (m-p) none,st',x,dx,[],[],[],xt,S7 (.cons (.d (.any x)) (r.mono xt hS.lz)) (by simp;lia) hm,hS.made hx hd hn,hx,rfl,⟨iD,λz=>hS.nz hx (hS.lz x z),.inr rfl,trivial⟩,.nil,rfl,rfl,by simpa using hg,?_⟩;have h2:=(zh7 (zgl hT (by simpa using hl)) h).bd0 Ext.refl;exact Run.er (Run.imp h2 λds s1 U1 H1 ⟨x1,aG,h4⟩ ws rs kp hl=>h4 U1 H1 x1 aG ds ws rfl rs kp hl)
section
variable {prog:Program}{w:World}{A:Around}{E:Value->Shared->Prop}{s:Shared}
theorem zd9{r:Addr}{n:Nat}{lo hi:Int}{t u v:Tok}{Q:List Value->Shared->Prop}(hh:A.handled=none)(hr:IsRange s.heap r lo hi 1 t u v)(hs:Builtin.Range.small lo hi 1=true)(hn:Builtin.Range.rangeSize lo hi 1=n)(hl:n<=65536)
  (q:∀(h':Heap) (tk:Nat) (acc:Array Value),(∀b o,s.heap.get? b=some o->h'.get? b=some o)->ItemsOf (λi v=>∃t,v=.int (lo+i*1) t) acc n->Q acc.toList {s with heap:=h',toks:=tk}):wpAny (model prog w) A (collect (.ref r)) Q E s:=by
 unfold collect;refine aA (wpAny_runValue (GF F.entry_proto_collect ?_));rw[Gs F.plain_proto_collect _];refine aA (m:=newList []) (GK (aP ⟨GP F.plain_list_iadd _,GF F.entry_list_iadd ?_⟩));rw[Gs F.plain_list_iadd _];have fin:∀{r':Result} {s':Shared},(∃h' tk acc c,r'=.ok (.ret (.ref s.heap.objs.size))/\s'={s with heap:=h',toks:=tk}/\h'.get? s.heap.objs.size=some (seqObj "list" acc c)/\(∀b o,s.heap.get? b=some o->h'.get? b=some o)/\ItemsOf (λi v=>∃t,v=.int (lo+i*1) t) acc n)->(match r' with
   |.ok (.ret v)=>wpAny (model prog w) A (match v with
    |.ref a=>do
     match (<-load a).data with
      |.seq xs _=>pure xs.toList
      |_=>unsupported "internal:collect"
    |_=>unsupported "internal:collect") Q E s'
   |.ok _=>False
   |.error e=>E e s'):=λ{r' s'} z=>by
  obtain⟨h',tk,acc,c,rfl,rfl,hS,kp,tL⟩:=z;exact aA (wpAny_load hS (aP (q h' tk acc kp tL)))
 refine gb (wpAny_extend_range (A:=A) (s:={s with heap:=s.heap.push (seqObj "list" #[] 0)}) (R:=λr' s'=>∃h' tk acc c,r'=.ok (.ret (.ref s.heap.objs.size))/\s'={s with heap:=h',toks:=tk}/\h'.get? s.heap.objs.size=some (seqObj "list" acc c)/\(∀b o,s.heap.get? b=some o->h'.get? b=some o)/\ItemsOf (λi v=>∃t,v=.int (lo+i*1) t) acc n)
  hh (cD _ hr) hs hn gV s.heap.objs.size (.ref s.heap.objs.size) 0 (eN _ rfl) λh' tk acc c kp hS tL=>⟨h',tk,acc,c,rfl,rfl,hS,λb o e=>kp b o (cY (bQ e)) (cD _ e),tL⟩) (λf s' z=>?_) λe s' z=>?_
 ·cases f with
  |done f=>exact fin z
  |again c'=>exact⟨z.1,yX z.2 λr s'' hr=>fin hr⟩
 ·obtain⟨_,_,_,_,e,_⟩:=z;cases e
end
theorem zfp(r:Addr)(lo hi:Int)(t u v:Tok)(n:Nat)(hs:Builtin.Range.small lo hi 1=true)(hn:Builtin.Range.rangeSize lo hi 1=n)(hl:n<=65536):Meets (Builtin.«tuple.__new__» ⟨[.type "tuple",.ref r],[]⟩)
   (λA R s=>A.handled=none/\IsRange s.heap r lo hi 1 t u v/\∀(h':Heap) (tk:Nat) (acc:Array Value),(∀b o,s.heap.get? b=some o->h'.get? b=some o)->ItemsOf (λi v=>∃t,v=.int (lo+i*1) t) acc n->R (.ok (.ret (.ref h'.objs.size))) {s with heap:=h'.push {cls:=.type "tuple",data:=.seq acc},toks:=tk}):=
 .of_wp λprog w A R s h=>by
  obtain⟨hh,hr,h⟩:=h;have hsub:=sub_tuple_self;have hinit:=init_tuple_lookup;have hmh:=madeHere_tuple;have hT:s.TypeIs (.ref r) "range":=⟨_,hr,rfl⟩;have Uh:A.in1.handled=none:=hh
  wp_walk using wpAny_typeOf hT,Lf hr,zd9 Uh hr hs hn hl
  intro h' tk acc hk tL;show wpAny _ _ (Builtin.Tuple.tupleExact acc.toList.toArray >>= λv=>ret v) _ _ _;unfold Builtin.Tuple.tupleExact;have e:acc.toList.toArray=acc:=by simp
  rw[e];exact aA (tO (aP ⟨_,rfl,h h' tk acc hk tL⟩) (show acc.size<=sizeLine by rw[tL.1];exact jU hl RB))
section
variable {X:Cx}
theorem zcj{ao:List (Addr×Obj)}{Z:L2.St}{H:Hp}{s:Shared}{Q:VK}{hi:Int}{t u v:Tok}{tk:Nat}(hc:X.aj=true)(I:Inv X ao Z H s)(hk:okR 0 hi=true)
  (q:∀l,H l=none->Q (.ref l) (upd H l (.tup (Gd 0 (hi-0).toNat)))) :
  wpAny (model X.prog X.w) X.A (PySem.call (.type "tuple") [.ref s.heap.objs.size]) (EP X ao Z Q) X.xe {s with heap:=s.heap.push {cls:=.type "range",data:=.fields #[.int 0 t,.int hi u,.int 1 v]},toks:=tk}:=by
 obtain⟨h1,h2,h3,h4,h5⟩:=jP hk;have en:Builtin.Range.rangeSize 0 hi 1=((hi-0).toNat:Nat):=by rw[rangeSize_one];split<;>lia
 refine callType_new F.called_tuple RB (F.typeCall_tuple_1 _) (F.newCall_tuple_1 _) (λobj=>F.args_object_init_2 obj _) F.entry_tuple_new (zfp _ 0 hi t u v _ (small_one h1 h2 h3 h4) en h5) ⟨I.ok.hd hc,IsRange.new ..,λh' tk' acc kp ⟨z1,z2⟩=>?_⟩;have hv:Vals (Gd 0 (hi-0).toNat) acc.toList:=by
  have:=zkg (i:=0) (acc:=acc) (n:=(hi-0).toNat) (m:=0) (λk v e=>by
   obtain⟨t,e⟩:=z2 k v (by simpa using e);exact⟨t,by rw[e,Int.mul_one,Nat.zero_add]⟩) (by rw[pL];exact z1)
  simpa [Gd] using this
 have hz:s.heap.objs.size<=h'.objs.size:=rP (bQ (kp _ _ (eN s.heap rfl)));have I':=I.laid (a:=h'.objs.size) (o:=.tup (Gd 0 (hi-0).toNat)) (h':=h'.push {cls:=.type "tuple",data:=.seq acc}) (t':=tk') (λb u q=>cD _ (kp b u (cD _ q))) hz (show bI X.prog X.w _ _ _ (.tup (Gd 0 (hi-0).toNat)) from ⟨by
  rw[hv.length,pL,z1];exact jU h5 RB,acc.toList,hv,⟨_,eN _ rfl,rfl,0,by simp⟩⟩)
 exact⟨⟨_,eN _ rfl,rfl⟩,.ref h'.objs.size,_,I',rfl,q _ (I.hok.fresh hz)⟩
def Kv(vs:List V)(H:Hp)(Q:VK):Prop:=∃j:Int,vs=[.int j]/\okR 0 j=true/\∀l,H l=none->Q (.ref l) (upd H l (.tup (Gd 0 (j-0).toNat)))
theorem zlH{e:Expr}{t:TA}{p p' pos pos':Pos}(hc:X.aj=true)(hg:Gl X "tuple")(hm:X.mg "tuple"=none)(Ui:Gl X "range")(Oa:X.mg "range"=none)(ha:PA X [e] t)(he:starEach [e] X.env=(false,eval e X.env)::starEach [] X.env:=by rfl) :
  PE X (.Call (.Name "tuple" p) [.Call (.Name "range" p') [e] [] pos'] [] pos) (QM Kv t):=by
 intro ao s Z H Q I h;refine Ai (vX I hg hm J0 ?_);refine Ae ?_ rfl rfl;show wpAny _ _ (spliced ((false,eval (.Call (.Name "range" p') [e] [] pos') X.env)::backTo pos (starEach [] X.env))) _ _ s;refine Ln ?_;refine Ai (vX I Ui Oa boot_range ?_);refine Ae (aQ (ha pos' ao s Z H _ I h) λus s1 ⟨vs,H1,I1,r1,q1⟩=>?_) he rfl;obtain⟨j,rfl,hk,q⟩:=q1;cases r1 with
 |cons r rr=>
  cases rr;obtain⟨t,rfl⟩:=r;exact call_range_1 (Calls.spliced_nil (zcj hc I1 hk q))
theorem zl7{e:Expr}{te:TE}(h:PE X e te)(he:∀whole,isTrue e X.env whole=(do let v <-whole;standAt e.pos;holding [v] (truthy v))):PT X e (λZ H Q=>te Z H λx H1=>∃k,Bq X.K x H1 k/\Q k H1):=by
 intro ao s Z H Q I hw;exact isTrue_plain (aQ (h ao s Z H _ I hw) λv s1 hx=>eG hx λx H1 I1 r1 q1=>zl5 ao s1 Z H1 x v Q I1 r1 q1) (he _)
end
section
variable {K:W.Frag}{cA:Cl}{U:Ph}{H:Hp}
theorem zlZ:bH K cA .Fg Kv:=by
 intro U H ds vs Q zt rs o;have o:bK K cA U H (Cm ds) Q:=o;unfold Cm at o;split at o
 ·rename_i j _;obtain⟨v,rfl,r1⟩:=rs.one;cases (show Rep K cA U H (.int j) v from r1);by_cases hk:okR 0 j=true
  ·rw[if_pos hk] at o;exact⟨j,rfl,hk,λl hl=>o.tup zt (ZS _) hl⟩
  ·rw[if_neg hk] at o;exact o.elim
 ·exact o.elim
end
section
variable {X:Cx}{cA:Cl}{aq:Nat->Nat->Bool}{aj:Bool}{F:Fn}{EX:XS}{a e:Expr}{A:E}{pos pos' p p':Pos}{Xs:Es}{fz:Bool}
theorem zmX(hc:X.aj=true)(hm:X.mg "tuple"=none)(hg:JK X "tuple" .globalImplicit)(Oa:X.mg "range"=none)(Ui:JK X "range" .globalImplicit)(ha:JA X cA aq aj F EX [e] Xs)(he:aC e=true:=by rfl):JE X cA aq aj F EX (.Call (.Name "tuple" p) [.Call (.Name "range" p') [e] [] pos'] [] pos) (.pr fz .Fg Xs):=⟨PE.weak (zlH hc hg.o hm Ui.o Oa ha.o (bf he)) λZ H Q hh=>un hh λU J s hL hS h=>
 oU hL hS h λvs H1 U1 ds s1 x1 hL1 aG r1 h1=>by
  obtain⟨ds,rs,h3⟩:=uW aG r1 h1;exact zlZ U1 H1 ds _ _ aG.zs rs (tW aG h3)⟩
theorem zm4(ha:JE X cA aq aj F EX a A)(he:zW a=true:=by rfl):JT X cA aq aj F EX a (.Ca A):=⟨PT.weak (zl7 ha.o (by cases a<;>first|(intro _;rfl)|cases he)) λZ H Q hh=>un (Tq hh) λU J s hL hS h=>by
 refine aX hL hS h λx H1 U1 d1 s1 x1 hL1 aG r1 h1=>?_;obtain⟨dd,rv,h2⟩:=Jp aG r1 h1;obtain⟨bb,e,h3⟩:=Run.m8 h2;obtain⟨c,ec,q⟩:=h3.bC aG _ (.d (.bl bb));cases ec;exact⟨bb,zme rv e,q⟩⟩
end
def iw(h:Heap)(items:Array Value)(rows:List (List Int))(no:List Addr):Prop:=∀i v,items[i]?=some v->∃a xs,v=.ref a/\IsTup h a xs/\IntsAre xs.toList (rows.getD i [])/\a∉no
theorem iw.keep{h h':Heap}{items:Array Value}{rows:List (List Int)}{no:List Addr}(g:iw h items rows no)(k:∀b o,b∉no->h.get? b=some o->h'.get? b=some o):iw h' items rows no:=λi v e=>by
 obtain⟨a,xs,e1,⟨o,e2,r⟩,e3,e4⟩:=g i v e;exact⟨a,xs,e1,⟨o,k a o e4 e2,r⟩,e3,e4⟩
noncomputable abbrev wC(rows:List (List Int))(i j:Nat):Bool:=HT.lexLt (rows.getD i []) (rows.getD j [])
section
variable {prog:Program}{w:World}{A:Around}{R:Result->Shared->Prop}{I S l:Addr}{items:Array Value}{rows:List (List Int)}
theorem zjP{s:Shared}{i j:Nat}{u v:Value}{Q:Value->Shared->Prop}{E:Value->Shared->Prop}(hu:A.units<cLine)(g:iw s.heap items rows [I,S])(h1:items[i]?=some u)(h2:items[j]?=some v)(q:Q (.bool (wC rows i j)) s):wpAny (model prog w) A (richCompare .Lt u v) Q E s:=by
 obtain⟨a,xs,rfl,p1,i1,_⟩:=g i u h1;obtain⟨b,ys,rfl,p2,i2,_⟩:=g j v h2;exact HT.j8 p1 p2 i1 i2 hu q
theorem zfe(hh:A.handled=none)(hu:A.units+1<cLine)(hlI:l≠I)(hS:S∉[I,l]):∀(k j:Nat) (s:Shared) (vb:Value) (c:Nat),items.size-(j+1)=k->j+1<=items.size->(s.heap.IsListIter I l (j+1)/\s.heap.IsList l items)->items[argBest (wC rows) j]?=some vb->iw s.heap items rows [I,S]->
  s.heap.get? S=some (seqObj "list" #[vb,vb] c)->(∀v h' tk,items[argBest (wC rows) (items.size-1)]?=some v->(∀b o,b∉[I,S]->s.heap.get? b=some o->h'.get? b=some o)->R (.ok (.ret v)) {s with heap:=h',toks:=tk})->
  codeAny (model prog w) A (.builtin "min.loop" ⟨[.ref I,.none,.ref S],[]⟩) R s:=by
 have W:=Walks.list (prog:=prog) (w:=w) (A:=A.in1) hh I l hlI items;have nm:(toString "min"++toString ".loop" : String)="min.loop":=by decide
 have SI:S∉[I]:=λz=>hS (by simp at z;simp[z]);intro k
 induction k with
 |zero=>
  intro j s vb c e1 e2 st hb g oS q;refine GF F.entry_min_loop ?_;rw[Gs Am _];refine aA (m:=seqItems? (.ref S)) (rO oS rfl ?_);refine aA (m:=tryCatch (pyNext (.ref I)) _) (wpAny_tryCatch (W.done s _ _ ((show j+1=items.size by lia)▸st) λh' tk kp=>?_));refine aA (m:=updateSeq S λ_=>#[]) (wpAny_updateSeq (kp S _ SI oS) rfl (aA (yZ (aP (q vb _ tk ?_ λb o hb e=>?_)))))
  ·rw[show items.size-1=j by lia];exact hb
  ·exact(wF _ _ (λz=>hb (by simp[z]))).trans (kp b o (λz=>hb (by simp at z;simp[z])) e)
 |succ k ih=>
  intro j s vb c e1 e2 st hb g oS q;refine GF F.entry_min_loop ?_;rw[Gs Am _];refine aA (m:=seqItems? (.ref S)) (rO oS rfl ?_);refine aA (m:=tryCatch (pyNext (.ref I)) _) (wpAny_tryCatch (W.item (j+1) s _ _ gV st λv h' tk hP st' kp=>?_));have Uj:=kp S _ SI oS;have g':iw h' items rows [I,S]:=g.keep λb o hb e=>kp b o (λz=>hb (by simp at z;simp[z])) e;refine aA (m:=tryCatch (holding [v,v] (richCompare .Lt v vb >>= _)) _) (wpAny_tryCatch (pQ (aA (zjP (A:=A.in1) (s:={s with heap:=h',toks:=tk}) hu g' hP hb ?_))));refine aA (pQ (vO (aA (yZ (aP ?_)))));cases e3:wC rows (j+1) (argBest (wC rows) j) with
  |true=>
   simp only[if_true];refine aA (wpAny_updateSeq Uj rfl (aA (yZ ?_)));rw[nm];have Gh:∀b o,b≠S->h'.get? b=some o->(h'.update S (Obj.mapSeq λ_=>#[v,v])).get? b=some o:=λb o hb e=>(wF _ _ (Ne.symm hb)).trans e;refine aP ⟨GP Am _,ih (j+1) _ v _ gV gV (W.frame _ _ _ st' λb hb o e=>Gh b o (λz=>hS (by rw[<-z];exact hb)) e) (by simp only[argBest,e3,if_true];exact hP) (g'.keep λb o hb e=>Gh b o (λz=>hb (by simp[z])) e) (Ah _ Uj rfl) λv' h2 tk2 Kw Ky=>q v' h2 tk2 Kw λb o hb e=>Ky b o hb (Gh b o (λz=>hb (by simp[z])) (kp b o (λz=>hb (by simp at z;simp[z])) e))⟩
  |false=>
   simp only[rK,nW];refine aA (yZ ?_);rw[nm];exact aP ⟨GP Am _,ih (j+1) _ vb c gV gV st' (by simp only[argBest,e3,rK,nW];exact hb) g' Uj λv' h2 tk2 Kw Ky=>q v' h2 tk2 Kw λb o hb e=>Ky b o hb (kp b o (λz=>hb (by simp at z;simp[z])) e)⟩
theorem zfi{s:Shared}{E:Value->Shared->Prop}{Q:Value->Shared->Prop}(hh:A.handled=none)(hu:A.units+2<cLine)(hl:s.heap.IsList l items)(h0:0<items.size)(g:iw s.heap items rows [])
  (q:∀v h' tk,items[argBest (wC rows) (items.size-1)]?=some v->(∀b o,s.heap.get? b=some o->h'.get? b=some o)->Q v {s with heap:=h',toks:=tk}):wpAny (model prog w) A (PySem.call (.builtin "min") [.ref l]) Q E s:=by
 have nm:(toString "min"++toString ".loop" : String)="min.loop":=by decide
 have cL:l<s.heap.objs.size:=by obtain⟨o,e,_⟩:=hl;exact bQ e
 refine call_function_tree F.kind_min F.plain_min F.entry_min (F.args_min1 _) ?_;refine aA (m:=Builtin.Builtins.bindParams "min" ["key","default"] 0 ⟨[],[]⟩) (Ek (show Builtin.Builtins.bindParams "min" ["key","default"] 0 ⟨[],[]⟩=pure [none,none] from rfl) (aA (aP ?_)));refine aA (Lq hl (aA (tO ?_)));rw[nm];have n1:(s.heap.push {cls:=.type "list_iterator",data:=.fields #[.ref l,.int 0 0]}).objs.size=s.heap.objs.size+1:=vQ ..;refine aP ⟨GP Am _,?_⟩;refine GF F.entry_min_loop ?_;rw[Gs Am _];have W:=Walks.list (prog:=prog) (w:=w) (A:=A.in1) hh s.heap.objs.size l (cY cL) items;have oS:((s.heap.push {cls:=.type "list_iterator",data:=.fields #[.ref l,.int 0 0]}).push (seqObj "list" #[] 0)).get? (s.heap.objs.size+1)=some (seqObj "list" #[] 0):=by rw[<-n1];exact eN _ rfl
 have k0:∀b o,s.heap.get? b=some o->((s.heap.push {cls:=.type "list_iterator",data:=.fields #[.ref l,.int 0 0]}).push (seqObj "list" #[] 0)).get? b=some o:=λb o e=>cD _ (cD _ e);rw[n1];refine aA (m:=seqItems? (.ref (s.heap.objs.size+1))) (rO oS rfl ?_);refine aA (m:=tryCatch (pyNext (.ref s.heap.objs.size)) _) (wpAny_tryCatch (W.item 0 _ _ _ h0 ⟨⟨_,cD _ (eN _ rfl),rfl,rfl⟩,hl.at λo e=>k0 l o e⟩ λv h' tk hP st' kp=>?_));have ne1:s.heap.objs.size+1∉[s.heap.objs.size]:=by simp
 refine aA (m:=updateSeq (s.heap.objs.size+1) λ_=>#[v,v]) (wpAny_updateSeq (kp _ _ ne1 oS) rfl ?_);rw[nm];have Gh:∀b o,b≠s.heap.objs.size+1->h'.get? b=some o->(h'.update (s.heap.objs.size+1) (Obj.mapSeq λ_=>#[v,v])).get? b=some o:=λb o hb e=>(wF _ _ (Ne.symm hb)).trans e;have Kz:∀b o,s.heap.get? b=some o->(h'.update (s.heap.objs.size+1) (Obj.mapSeq λ_=>#[v,v])).get? b=some o:=λb o e=>Gh b o (cY (tQ (bQ e))) (kp b o (by simpa using cY (bQ e)) (k0 b o e));have out:∀b o,s.heap.get? b=some o->b∉[s.heap.objs.size,s.heap.objs.size+1]:=λb o e z=>by
  rcases jm.mp z with z|z
  ·exact absurd z (cY (bQ e))
  ·exact absurd (rM.mp z) (cY (tQ (bQ e)))
 refine aP ⟨GP Am _,zfe (A:=A) (rows:=rows) hh gV (cY cL) (λz=>by
  rcases jm.mp z with z|z
  ·exact absurd z (Nat.succ_ne_self _)
  ·exact absurd (rM.mp z) (pR (tQ cL))) _ 0 _ v _ rfl h0 (W.frame _ _ _ st' λb hb o e=>Gh b o (λz=>by
  rcases jm.mp hb with y|y
  ·exact absurd (z.symm.trans y) (Nat.succ_ne_self _)
  ·exact absurd (z.symm.trans (rM.mp y)) (pR (tQ cL))) e) hP ?_ (Ah _ (kp _ _ ne1 oS) rfl) λv' h2 tk2 Kw Ky=>q v' h2 tk2 Kw λb o e=>Ky b o (out b o e) (Kz b o e)⟩
 intro i u e;obtain⟨a,xs,e1,⟨o,e2,r⟩,e3,_⟩:=g i u e;exact⟨a,xs,e1,⟨o,Kz a o e2,r⟩,e3,out a o e2⟩
end
theorem zeZ{x:List Int}{rs:List (List Int)}:∀k,k<=rs.length->(x::rs).getD (argBest (wC (x::rs)) k) []=gw x (rs.take k)
 |0,_=>rfl
 |k+1,hk=>by
  have ih:=zeZ (x:=x) (rs:=rs) k gV;have app:∀(a b:List (List Int)) (y:List Int),gw y (a++b)=gw (gw y a) b:=λa=>by
   induction a with
   |nil=>intro b y;rfl
   |cons z a ih=>intro b y;exact ih b _
  have ht:rs.take (k+1)=rs.take k++[rs[k]' gV]:=List.take_succ_eq_append_getElem gV;have hv:(x::rs).getD (k+1) []=rs[k]' gV:=by
   rw[nF,DG,eE gV];rfl
  rw[ht,app,<-ih];show _=(if ltI (rs[k]' gV) _=true then _ else _);rw[argBest.eq_2,Sq];unfold wC;rw[hv]
  split
  ·exact hv
  ·rfl
theorem zcr{K:W.Frag}{cA:Cl}{U:Ph}{H:Hp}:∀{xs:List D} {rs:List (List Int)} {vs:List V},j_ xs=some rs->aB K cA U H xs vs->rs.length=vs.length/\∀(i:Nat) v,vs[i]?=some v->∃a,v=.ref a/\TupAt K U H a ((rs.getD i []).map .int)
 |[],rs,vs,h,r=>by cases h;cases r;exact⟨rfl,λi v e=>by simp at e⟩
 |d::xs,rs,vs,h,r=>by
  cases r with
  |cons q r=>cases q with
   |@tup a ys us t ts=>
    unfold j_ at h;cases e1:cH ys with
    |none=>simp only[e1] at h;cases h
    |some is=>cases e2:j_ xs with
     |none=>simp only[e1,e2] at h;cases h
     |some rr=>
      simp only[e1,e2] at h;cases h;obtain⟨l,k⟩:=zcr e2 r;refine⟨by simp[l],λi v e=>?_⟩;cases i with
      |zero=>
       simp at e;subst e;refine⟨a,rfl,?_⟩;show TupAt K U H a (is.map V.int);rw[<-show _=is.map V.int from Nm e1 ts];exact t
      |succ i=>exact k i v (by simpa using e)
   |_=>cases h
section
variable {X:Cx}{cA:Cl}{aq:Nat->Nat->Bool}{aj:Bool}{F:Fn}{EX:XS}{e:Expr}{pos p:Pos}{es:List Expr}{Xs:Es}{fz:Bool}
def vK(K:W.Frag)(vs:List V)(H:Hp)(Q:VK):Prop:=∃(l:Addr) (x:List Int) (rs:List (List Int)) (us:List V),vs=[.ref l]/\cT K H l us/\(x::rs).length=us.length/\(∀(i:Nat) v,us[i]?=some v->∃a,v=.ref a/\gP K H a (((x::rs).getD i []).map V.int))/\∀(i:Nat) a,us[i]?=some (.ref a)->(x::rs).getD i []=gw x rs->Q (.ref a) H
theorem zgg:∀{is:List Int} {us:List Value},Vals (is.map V.int) us->IntsAre us is
 |[],_,.nil=>.nil
 |_::is,_,.cons ⟨t,e⟩ r=>by subst e;exact .cons _ t (zgg r)
theorem zgi(hc:X.aj=true)(hu:X.A.units+2<cLine):cZ X (.builtin "min") (vK X.K):=by
 intro ao s Z H xs us Q I r ⟨l,x,rs,ws,e,hl,hlen,KC,q⟩;subst e;obtain⟨u,rfl,ru⟩:=Vals.one r;cases (show u=Value.ref l from ru);obtain⟨its,rv,pl,hz⟩:=I.list hl;have hL:=rv.length;have hsz:its.toArray.size=rs.length+1:=by rw[fH,<-hL,<-hlen];rfl
 refine zfi (rows:=x::rs) (I.ok.hd hc) hu pl.isList gV (λi v e=>?_) λv h' tk hP hk=>?_
 ·have hi:its[i]?=some v:=by simpa using e
  have cL:i<ws.length:=by rw[hL];exact(fG.mp hi).1
  obtain⟨a,ea,ht⟩:=KC i _ (eE cL);obtain⟨v',e1,e2⟩:=rv.get (eE cL);rw[hi] at e1;cases e1;rw[ea] at e2;cases (show v=Value.ref a from e2);obtain⟨xs,rx,p,_⟩:=I.tuple ht;exact⟨a,_,rfl,p,by simpa using zgg rx,by simp⟩
 ·rw[hsz,Nat.add_sub_cancel] at hP;have hi:its[argBest (wC (x::rs)) rs.length]?=some v:=by simpa using hP
  have cL:argBest (wC (x::rs)) rs.length<ws.length:=by rw[hL];exact(fG.mp hi).1
  obtain⟨a,ea,ht⟩:=KC _ _ (eE cL);obtain⟨v',e1,e2⟩:=rv.get (eE cL);rw[hi] at e1;cases e1;rw[ea] at e2;cases (show v=Value.ref a from e2);exact⟨.ref a,H,I.kept (h':=h') (t':=tk) hk,rfl,q _ a ((eE cL).trans (by rw[ea])) (by rw[zeZ rs.length (cj _),GD])⟩
theorem ziM{K:W.Frag}:bH K cA .sH (vK K):=by
 intro U H ds vs Q zt rs o;have o:bK K cA U H (oN ds) Q:=o;unfold oN at o;split at o
 ·rename_i xs _;obtain⟨v,rfl,rv⟩:=rs.one;obtain⟨a,us,rfl,sq,q⟩ : ∃a us,v=.ref a/\cT K H a us/\aB K cA U H xs us:=rv;split at o
  ·rename_i x r e;obtain⟨l,k⟩:=zcr e q;refine⟨a,x,r,us,rfl,sq,l,λi v ei=>?_,λi b ei hb=>?_⟩
   ·obtain⟨c,e1,e2⟩:=k i v ei;exact⟨c,e1,e2.jK⟩
   ·obtain⟨c,e1,e2⟩:=k i _ ei;cases e1;rw[hb] at e2;have rr:∀is:List Int,aB K cA U H (is.map D.int) (is.map V.int):=λis=>by
     induction is with
     |nil=>exact .nil
     |cons j is ih=>exact .cons (.int j) ih
    exact o.here (.tup e2 (rr _))
  ·exact o.elim
 ·exact o.elim
theorem zkN{k:Nat}(hr:bx k X.A)(hc:X.aj=true)(hm:X.mg "min"=none)(hg:JK X "min" .globalImplicit)(ha:JA X cA aq aj F EX (e::es) Xs)(he:aC e=true:=by rfl)(cU:es.all aC=true:=by rfl):JE X cA aq aj F EX (.Call (.Name "min" p) (e::es) [] pos) (.pr fz .sH Xs):=⟨zO (zgi hc (by have:=hr.un;lia)) ziM hg.o hm PyProof.Rows.boot_min ha.o RB RB (bf he) (bD cU)⟩
end
end Mi
namespace Mi
open PySem PySem.Spec PyProof.Rows L2 PySem.W
noncomputable def iy(K:Frag)(C:Addr)(m:Str):Addr:=match lM K C m with
 |some p=>p.1
 |none=>0
noncomputable def jN(K:Frag)(C:Addr)(m:Str)(st:Stmt):FuncData:=match lM K C m with
 |some p=>p.2
 |none=>En m m st
theorem zkc{fd:FuncData}{m q:Str}{st:Stmt}(h:nY fd=En m q st):fd=fnOf m q (aY st) (aJ st) (au st) .none fd.kwdefaults fd.doc fd.pyModule fd.annotations fd.code fd.closureTuple:=by
 cases fd;unfold nY En at h;cases h;rfl
theorem znC{K:Frag}{C:Addr}{m q:Str}{st:Stmt}(h:(lM K C m).map (λp=>nY p.2)=some (En m q st)):oX K m q st (iy K C m) (jN K C m st)/\Meth K C m (iy K C m):=by
 cases e:lM K C m with
 |none=>rw[e] at h;cases h
 |some p=>
  rw[e] at h;have hp:nY p.2=En m q st:=cP h;have h1:iy K C m=p.1:=by unfold iy;rw[e]
  have h2:jN K C m st=p.2:=by unfold jN;rw[e]
  rw[h1,h2];unfold lM at e;split at e
  ·rename_i f hf;split at e
   ·rename_i oc od fd sl hl;split at e
    ·rename_i hc;cases e;simp only[fK] at hc;have eq:fd=_:=zkc hp;have qn:fd.qualname=q:=by rw[eq]
     exact⟨⟨⟨oc,od,_,_,_,_,_,_,sl,eq,hl,by rw[<-qn];exact hc.1.1⟩,hc.1.2⟩,hf,hc.2,hc.1.2⟩
    ·cases e
   ·cases e
  ·cases e
structure rH(fs:List (Str×Stmt))(ms:List ur)(xs:List (Nat×Str))(l:Lk)(b:Bd)(K:Frag):Prop where
 i:o8 fs ms xs l K
 m:∀p∈b.ms,oX K p.1 p.2.1 p.2.2 (iy K (dY K b.n) p.1) (jN K (dY K b.n) p.1 p.2.2)/\Meth K (dY K b.n) p.1 (iy K (dY K b.n) p.1)
 b:zm K b=true
section
variable {K:Frag}{b:Bd}
theorem zm2{cA:Cl}(h:zm K b=true)(hb:cA.b 0=dY K b.n)(hg:cA.g 0=b.fs)(nd:b.fs.Nodup):Ow K cA 0:=by
 unfold zm at h;simp only[fK,nU,iz] at h;obtain⟨⟨⟨⟨⟨⟨⟨h1,h2⟩,h3⟩,h4⟩,h5⟩,h6⟩,h7⟩,h8⟩:=h;exact⟨by rw[hb];exact⟨h2,h3,h4,h5⟩,λf hf=>by rw[hb];rw[hg] at hf;exact h8 f hf,by rw[hg];exact nd⟩
theorem znl{f:Addr}(h:zm K b=true)(m:Meth K (dY K b.n) "__init__" f):Mk K (dY K b.n) f:=by
 unfold zm at h;simp only[fK,nU,iz] at h;exact⟨h.1.1.2,m.at_,m.fn,h.1.2⟩
theorem zmP{h:Heap}{mg:Str->Option Value}(z:zm K b=true)(X:K.In h)(G:h.Ns mainGlobals mg):mg b.n=some (.ref (dY K b.n)):=by
 unfold zm at z;simp only[fK] at z;exact zmV z.1.1.1.1.1.1.1 X G
end
theorem bx.made{k:Nat}{A:Around}(r:bx (k+1) A)(env:Env)(C:Addr)(us:List Value):bx k ((A.deeper env).under (.builtin "type.__call__" ⟨.ref C::us,[]⟩)):=
 ⟨by have:=r.dp;rw[ze7];show A.depth+1+1+3*k+5<_;lia,by have:=r.un;rw[zfr];show A.units+3+1+16*k+200<_;lia,by
  have e:(A.deeper env).guards=some []:=r.gd;rw[<-e];cases h:(A.deeper env).guards<;>simp[Around.under,pushGuards,Code.guards,Code.isGuard,guardIds,h]⟩
section
variable {P:Program}{w:World}{K:Frag}{mg:Str->Option Value}{base:Heap}{cA:Cl}{aq:Nat->Nat->Bool}{T:Nat->Option Df}{x m q:Str}{st:Stmt}{ps:List Str}{k n:Nat}{cm:Bool}{df:Df}{C fa:Addr}{fd:FuncData}
theorem fM(D:Mt K C m q st ps fa fd)(N:List Str)(hT:T n=some df)
  (hb:∀(cdv:Value) (A:Around) (outer:List Env) (s:Shared) (H:Hp) (E:XK),bx k (A.deeper (envOfC q (au st) s.heap.objs.size fa cdv))->
   JB (dJ (fj P w) P w K mg base N q (au st) fa cdv A outer s H E cm) cA aq cm (λc=>call aq T k c) (λ_ C dx H'=>E C dx H') (aJ st) df.body) (S:bW N ps (au st):=by exact⟨rfl,rfl,rfl,dk,rfl,dk,dk⟩) (hp:df.dD=ps.length:=by rfl) (hm:df.many=N.length:=by rfl) :
  cF P w K mg base (fj P w) cm (k+1) fa fd ps (lG K cA (call aq T (k+1) cm n)):=Zu D.fn S hT hp hm hb
theorem zhw{c:Nat}:cF P w K mg base (fj P w) cm 0 fa fd ps (Od K cA c (call aq T 0 cm n)):=
 ⟨λvs H Q E ⟨_,_,_,_,_,_,_,_,_,_,_,_,_,_,h⟩=>h.elim,λA outer s H args us vs Q E _ _ _ _ _ ⟨_,_,_,_,_,_,_,_,_,_,_,_,_,_,h⟩=>h.elim⟩
theorem fR(D:D3 K mg x st ps)(N:List Str)(hT:T n=some df)
  (hb:∀(cdv:Value) (A:Around) (outer:List Env) (s:Shared) (H:Hp) (E:XK),bx (k+1) A->
   JB (dJ (fj P w) P w K mg base N x (au st) (fW K x) cdv A outer s H E cm) cA aq cm (λc=>call aq T k c) (λ_ C dx H'=>E C dx H') (aJ st) df.body) (S:bW N ps (au st):=by exact⟨rfl,rfl,rfl,dk,rfl,dk,dk⟩) (hp:df.dD=ps.length:=by rfl) (hm:df.many=N.length:=by rfl) :
  cF P w K mg base (fj P w) cm (k+1) (fW K x) (fdOf K x st) ps (lG K cA (call aq T (k+1) cm n)):=Za D.f S hT hp hm λcdv A outer s H E hr=>(hb cdv A outer s H E hr).o
theorem Uk{p p2:Str}(h:oX K m q st fa fd/\Meth K C m fa)(hb:∀(kV doc pm:Value) (an:Option Addr) (cdv ct a b:Value),bindArgs (fnOf m q (aY st) (aJ st) (au st) .none kV doc pm an cdv ct) ⟨[a,b],[]⟩=pure [(p,a),(p2,b)]:=by intros;rfl):Mt K C m q st [p,p2] fa fd:=⟨h.1,h.2,by
 obtain⟨oc,od,kV,doc,pm,an,cdv,ct,osl,rfl,lk,iG⟩:=h.1.ex;exact vg (hb kV doc pm an cdv ct)⟩
theorem zoe{p p2 p3:Str}(h:oX K m q st fa fd/\Meth K C m fa)(hb:∀(kV doc pm:Value) (an:Option Addr) (cdv ct a b c:Value),bindArgs (fnOf m q (aY st) (aJ st) (au st) .none kV doc pm an cdv ct) ⟨[a,b,c],[]⟩=pure [(p,a),(p2,b),(p3,c)]:=by intros;rfl):Mt K C m q st [p,p2,p3] fa fd:=⟨h.1,h.2,by
 obtain⟨oc,od,kV,doc,pm,an,cdv,ct,osl,rfl,lk,iG⟩:=h.1.ex;exact vh (hb kV doc pm an cdv ct)⟩
theorem zn2{p p2 p3 p4:Str}(h:oX K m q st fa fd/\Meth K C m fa)(hb:∀(kV doc pm:Value) (an:Option Addr) (cdv ct a b c d:Value),bindArgs (fnOf m q (aY st) (aJ st) (au st) .none kV doc pm an cdv ct) ⟨[a,b,c,d],[]⟩=pure [(p,a),(p2,b),(p3,c),(p4,d)]:=by intros;rfl):Mt K C m q st [p,p2,p3,p4] fa fd:=⟨h.1,h.2,by
 obtain⟨oc,od,kV,doc,pm,an,cdv,ct,osl,rfl,lk,iG⟩:=h.1.ex;exact vm (hb kV doc pm an cdv ct)⟩
end
noncomputable def ji(fs:List (Str×Stmt))(ms:List ur)(xs:List (Nat×Str))(l:Lk)(b:Bd):Hook where
 α:=((List (Option FuncData)×List (Option FuncData)×Bool)×(List (Option FuncData)×Bool))×Bool
 obs:=λs=>((jV fs ms xs l s,wM b s),nZ s)
 val:=λw=>((lD fs ms w,wN b),true)
 says:=λ_ h=>∃K:Frag,K.In h/\rH fs ms xs l b K/\kZ K h
 of:=λw s e=>by
  have e9:(jV fs ms xs l s,wM b s)=(lD fs ms w,wN b):=lu Prod.fst e;have el:nZ s=true:=lu Prod.snd e;have e0:jV fs ms xs l s=lD fs ms w:=lu Prod.fst e9;have e4:wM b s=wN b:=lu Prod.snd e9;have e3:(_&&_&&_)=true:=lu (λx=>x.2.2) e0;rw[fK,fK,iz,iz] at e3;refine⟨bR s.heap,zhm,⟨⟨λp hp=>?_,Kac e3.1.1,λm hm=>?_,e3.1.2,λx hx=>znH (e3.2 x hx)⟩,λp hp=>?_,lu Prod.snd e4⟩,zi7 el⟩
  ·exact zmQ (PN.mp (lu Prod.fst e0) p hp)
  ·exact zmU (PN.mp (lu (λx=>x.2.1) e0) m hm)
  ·exact znC (PN.mp (lu Prod.fst e4) p hp)
 keeps:=λw h h' ⟨K,X,Y,Sv⟩ k=>⟨K,X.keeps k,Y,Sv.keeps k⟩
theorem Dr{l:OpenLaw}{k:Nat}{q:Program}{loose:List Str}{XP:(Str->Option Value)->Heap->Prop}{fs:List (Str×Stmt)}{ms:List ur}{xs:List (Nat×Str)}{lk:Lk}{b:Bd}{d:DefRec}{x:Str}(hn:l.most=some 63)(Q_:d.params.defaults=[])(hr:bx k callerA)
  (F:∀(w:World) (K:Frag) (mg:Str->Option Value) (fa:Addr) (h:Heap),rH fs ms xs lk b K->kZ K h->K.In h->h.Ns mainGlobals mg->mg d.name=some (.ref fa)->
   ∃fd:FuncData,(∀(s:Shared) (u:Value),BindsTo s fd ⟨[u],[]⟩ [(x,u)])/\∀base:Heap,K.In base->base.Ns mainGlobals mg->cF l.prog w K mg base (fj l.prog w) true k fa fd [x] (vf K)) :
  WalkO q loose XP (ji fs ms xs lk b).says l.row.toRowW d [] (λf vs=>PySem.call f vs):=by
 refine Xq.oA hn Q_ λw s₀ s₁ mg mb fa o pm cd doc a vs ns G Y ho hd iG hmg Bv hints hlen hg=>?_;obtain⟨K,KX,SY,LH⟩:=Y;obtain⟨fd,hb,hF⟩:=F w K mg fa _ SY LH KX G.T.g hmg;exact zgT KX G.T.g G.T.b G.T.builtins G.T.nolimit hg Bv hints (jU hlen RB) hr hF hb (λH hS=>⟨a,ns,rfl,hS,hlen,trivial,λ_=>rfl⟩) (λH e s' h=>by
  obtain⟨_,_,_,_,_,_,_,_,_,_,z⟩:=h;exact z) LH
end Mi
namespace Mi
open PySem
theorem zdO{α:Type}{q:α->Bool}:∀l:List α,l.length=(l.filter q).length+(l.filter λx=>!q x).length
 |[]=>rfl
 |x::l=>by
  have:=zdO (q:=q) l;simp only[List.filter_cons];cases q x<;>simp<;>lia
theorem zkY{ps:List (Int×Int)}{n:Int}(h1:1<=n)(h8:n<=8)(ht:∀p∈ps,0<=p.1/\p.1<p.2/\p.2<n)(hi:ps.Pairwise lx):(ps.length:Int)<=7*n:=by
 have key:∀m:Nat,∀qs:List (Int×Int),(∀p∈qs,0<=p.1/\p.1<(m:Int)/\p.1<p.2/\p.2<n)->qs.Nodup->(qs.length:Int)<=7*m:=by
  intro m
  induction m with
  |zero=>
   intro qs hq _;cases qs with
   |nil=>simp
   |cons p r=>have:=hq p Zaa;lia
  |succ m ih=>
   intro qs hq nd;have h1:=ih (qs.filter λp=>decide (p.1<(m:Int))) (λp hp=>by
    obtain⟨a,b⟩:=lK.mp hp;have:=hq p a;have:=jP b
    lia) (nd.filter _)
   have h2:(qs.filter λp=>!decide (p.1<(m:Int))).length<=(([1,2,3,4,5,6,7]:List Int).map λx=>((m:Int),x)).length:=zde (nd.filter _) (λp hp=>by
    obtain⟨a,b⟩:=lK.mp hp;have:=hq p a;have b:¬p.1<(m:Int):=by simpa using b
    obtain⟨p1,p2⟩:=p;dsimp only at *;have e:p1=(m:Int):=by lia
    subst e;refine rQ.mpr ⟨p2,?_,rfl⟩;have:p2=1\/p2=2\/p2=3\/p2=4\/p2=5\/p2=6\/p2=7:=by lia
    simpa using this)
   have h3:=zdO (q:=λp=>decide (p.1<(m:Int))) qs;simp only[fZ,gZ,Ef] at h2
   lia
 have:=key n.toNat ps (λp hp=>by have:=ht p hp;lia) (zg4 hi)
 lia
theorem W.c0{F:List Xv->M Xv}{xs:List Xv}{s:S}{e:D}{P:Xv->S->Prop}(h:W (F (dz 0 xs)) [] λv _=>v=.d e)(k:P (.d e) s)(hl:locs xs=[]:=by rfl):W (bU F xs) s P:=t_ hl (h.imp λ_ _ q=>⟨_,q,k⟩)
theorem W.c1{F:List Xv->M Xv}{xs:List Xv}{s:S}{P:Xv->S->Prop}(h:W (F (dz 0 xs)) [] λv _=>∃d,v=.d d)(k:∀d,P (.d d) s)(hl:locs xs=[]:=by rfl):W (bU F xs) s P:=t_ hl (h.imp λ_ _ ⟨d,q⟩=>⟨d,q,k d⟩)
section
variable {s:S}{o o' L L':SO}
theorem g1_:(s++[o]++[L])[s.length]?=some o:=by simp
theorem znv:(s++[o]++[L]).set s.length o'=s++[o']++[L]:=by simp
theorem Kaq{F:List Xv->M Xv}{xs:List Xv}{P:Xv->S->Prop}(hl:locs xs=[s.length])(h:W (F (dz 0 xs)) [o] λv s1=>∃d o',v=.d d/\s1=[o']/\P (.d d) (s++[o']++[L])):W (bU F xs) (s++[o]++[L]) P:=by
 refine ZW (n:=s.length) (o:=o) hl g1_ (h.imp λv s1=>?_);rintro⟨d,o',rfl,rfl,hp⟩;exact⟨d,o',rfl,rfl,by rw[znv];exact hp⟩
end
noncomputable abbrev Fr:=List (Option (List Int))
noncomputable def bJ:Option (List Int)->D
 |none=>.non
 |some l=>.tup (l.map .int)
noncomputable def cellK:Option (List Int)->Kx
 |none=>.non
 |some l=>.row l
noncomputable def jA(F:Fr):D:=.tup (F.map bJ)
theorem Ul:∀l:List Int,cH (l.map .int)=some l
 |[]=>rfl
 |i::l=>by show Option.map _ (cH (l.map .int))=_;rw[Ul l];rfl
theorem Oh(F:Fr):kOf (jA F)=some (F.map cellK):=by
 show Cr (F.map bJ)=_
 induction F with
 |nil=>rfl
 |cons c F ih=>
  have e:uU (bJ c)=some (cellK c):=by
   cases c with
   |none=>rfl
   |some l=>show Option.map _ (cH (l.map .int))=_;rw[Ul];rfl
  simp only[jo,Cr,e,ih]
theorem zf9:∀{F G:Fr},F.map cellK=G.map cellK->F=G
 |[],[],_=>rfl
 |[],_::_,h=>by cases h
 |_::_,[],h=>by cases h
 |c::F,e::G,h=>by
  simp only[jo,List.cons.injEq] at h;rw[zf9 h.2]
  congr 1
  have h1:=h.1;cases c with
  |none=>cases e with
   |none=>rfl
   |some _=>cases h1
  |some l=>cases e with
   |none=>cases h1
   |some m=>cases h1;rfl
structure Bo(n k:Nat)(es:Nat->List Int)(A:Int->Int->Bool):Prop where
 hn:n<=8
 hk:k<=24
 mem:∀i,i<n->∀e∈es i,0<=e/\e<n/\e≠i
 sym:∀i e:Nat,i<n->e<n->(e:Int)∈es i->(i:Int)∈es e
 len:∀i,i<n->(es i).length<=8
 asy:∀a b:Int,0<=a->a<k->0<=b->b<k->A a b=A b a
structure Fv(n k:Nat)(F:Fr):Prop where
 len:F.length=n
 lo:∀(i:Nat) L,F[i]?=some (some L)->∀x∈L,0<=x/\x<k
 ll:∀(i:Nat) L,F[i]?=some (some L)->L.length<=24
 so:∀(i:Nat) L,F[i]?=some (some L)->L.Pairwise (·<·)
structure qJ(es:Nat->List Int)(A:Int->Int->Bool)(F:Fr)(g:Nat->Int):Prop where
 mem:∀(i:Nat) L,F[i]?=some (some L)->g i∈L
 fit:∀(i e:Nat) L M,F[i]?=some (some L)->F[e]?=some (some M)->(e:Int)∈es i->A (g i) (g e)=true
def Sat(es:Nat->List Int)(A:Int->Int->Bool)(F:Fr):Prop:=∃g,qJ es A F g
noncomputable def gG(f:Int->Bool)(F:Fr)(e:Int):Fr:=F.set e.toNat ((F[e.toNat]?.join).map (·.filter f))
noncomputable def settle(es:Nat->List Int)(A:Int->Int->Bool)(F:Fr)(p:Nat)(x:Int):Fr:=(es p).foldl (gG (A x)) (F.set p none)
theorem zeo{f:Int->Bool}{F:Fr}{e:Int}:(gG f F e).length=F.length:=pO ..
theorem Um{f:Int->Bool}:∀{l:List Int} {F:Fr},(l.foldl (gG f) F).length=F.length
 |[],F=>rfl
 |e::l,F=>by rw[List.foldl_cons,Um,zeo]
theorem zju{f:Int->Bool}{F:Fr}{e:Int}(h0:0<=e)(i:Nat)(hi:i<F.length):(gG f F e)[i]?=if (i:Int)=e then F[i]?.map (Option.map (·.filter f)) else F[i]?:=by
 unfold gG;by_cases z:(i:Int)=e
 ·have:e.toNat=i:=by lia
  rw[if_pos z,this,yP hi,eE hi];rfl
 ·rw[if_neg z,qL gV]
theorem Uo{f:Int->Bool}:∀{l:List Int} {F:Fr} (i:Nat),(∀e∈l,0<=e)->i<F.length->(l.foldl (gG f) F)[i]?=if (i:Int)∈l then F[i]?.map (Option.map (·.filter f)) else F[i]?
 |[],F,i,_,hi=>by simp
 |e::l,F,i,h,hi=>by
  rw[List.foldl_cons,Uo i (λx hx=>h x (by simp[hx])) (by rw[zeo];exact hi),zju (h e Zaa) i hi];have ff:∀c:Option (Option (List Int)),(c.map (Option.map (·.filter f))).map (Option.map (·.filter f))=c.map (Option.map (·.filter f)):=λc=>by
   cases c with
   |none=>rfl
   |some c=>cases c with
    |none=>rfl
    |some L=>simp
  by_cases a:(i:Int)=e
  ·by_cases b:(i:Int)∈l
   ·rw[if_pos b,if_pos a,if_pos (by simp[b]),ff]
   ·rw[if_neg b,if_pos a,if_pos (by simp[a])]
  ·by_cases b:(i:Int)∈l
   ·rw[if_pos b,if_neg a,if_pos (by simp[b])]
   ·rw[if_neg b,if_neg a,if_neg (by simp[a,b])]
section
variable {n k:Nat}{es:Nat->List Int}{A:Int->Int->Bool}{F:Fr}{p:Nat}{x:Int}{g:Nat->Int}
theorem zco:(settle es A F p x).length=F.length:=by unfold settle;rw[Um,pO]
theorem zdr(B:Bo n k es A)(hF:F.length=n)(hp:p<n)(i:Nat)(hi:i<n):(settle es A F p x)[i]?=if i=p then some none else if (i:Int)∈es p then F[i]?.map (Option.map (·.filter (A x))) else F[i]?:=by
 unfold settle;rw[Uo i (λe he=>(B.mem p hp e he).1) (by rw[pO,hF];exact hi)];by_cases e:i=p
 ·subst e;rw[if_pos rfl,if_neg (λz=>(B.mem i hp _ z).2.2 rfl),yP (by rw[hF];exact hi)]
 ·rw[if_neg e,qL (Ne.symm e)]
theorem rJ{i:Nat}{c:Option (List Int)}(hF:F.length=n)(h:F[i]?=some c):i<n:=by rw[<-hF];exact(fG.mp h).1
theorem Oi(B:Bo n k es A)(hF:F.length=n)(hp:p<n){i:Nat}{M:List Int}(h:(settle es A F p x)[i]?=some (some M)):i≠p/\∃L,F[i]?=some (some L)/\M=if (i:Int)∈es p then L.filter (A x) else L:=by
 have hi:i<n:=rJ (by rw[zco];exact hF) h;rw[zdr B hF hp i hi] at h;by_cases e:i=p
 ·rw[if_pos e] at h;cases h
 ·rw[if_neg e] at h;refine⟨e,?_⟩;by_cases m:(i:Int)∈es p
  ·rw[if_pos m] at h;obtain⟨c,e1,e2⟩:=jO.mp h;cases c with
   |none=>cases e2
   |some L=>cases e2;exact⟨L,e1,by rw[if_pos m]⟩
  ·rw[if_neg m] at h;exact⟨M,h,by rw[if_neg m]⟩
theorem KD(B:Bo n k es A)(hF:F.length=n)(hp:p<n){i:Nat}{L:List Int}(hi:i≠p)(h:F[i]?=some (some L)):(settle es A F p x)[i]?=some (some (if (i:Int)∈es p then L.filter (A x) else L)):=by
 rw[zdr B hF hp i (rJ hF h),if_neg hi,h]
 split<;>rfl
theorem KH(B:Bo n k es A)(v:Fv n k F)(hp:p<n):Fv n k (settle es A F p x):=by
 refine⟨by rw[zco];exact v.len,λi M h=>?_,λi M h=>?_,λi M h=>?_⟩<;>obtain⟨_,L,e,rfl⟩:=Oi B v.len hp h
 ·intro y hy;refine v.lo i L e y ?_;split at hy
  ·exact(lK.mp hy).1
  ·exact hy
 ·split
  ·exact jU (Pq _ _) (v.ll i L e)
  ·exact v.ll i L e
 ·split
  ·exact(v.so i L e).filter _
  ·exact v.so i L e
theorem Oj(B:Bo n k es A)(v:Fv n k F)(hp:p<n){L:List Int}(hL:F[p]?=some (some L))(s:qJ es A F g):qJ es A (settle es A F p (g p)) g:=by
 refine⟨λi M h=>?_,λi e M N h1 h2 he=>?_⟩
 ·obtain⟨_,L',e,rfl⟩:=Oi B v.len hp h;have:=s.mem i L' e
  split
  ·exact lK.mpr ⟨this,s.fit p i L L' hL e (by assumption)⟩
  ·exact this
 ·obtain⟨_,L',e1,_⟩:=Oi B v.len hp h1;obtain⟨_,L2,e2,_⟩:=Oi B v.len hp h2;exact s.fit i e L' L2 e1 e2 he
theorem zet(B:Bo n k es A)(v:Fv n k F)(hp:p<n){L:List Int}(hL:F[p]?=some (some L))(hx:x∈L)(s:qJ es A (settle es A F p x) g):qJ es A F λi=>if i=p then x else g i:=by
 have ap:∀(i:Nat) M,i≠p->F[i]?=some (some M)->(i:Int)∈es p->A x (g i)=true/\(0<=g i/\g i<k):=λi M ni h m=>by
  have h2:=KD (x:=x) B v.len hp ni h;have:=s.mem i _ h2;rw[if_pos m] at this;exact⟨(lK.mp this).2,v.lo i M h _ (lK.mp this).1⟩
 have hxk:=v.lo p L hL x hx;refine⟨λi M h=>?_,λi e M N h1 h2 he=>?_⟩
 ·by_cases z:i=p
  ·subst z;rw[if_pos rfl];rw[hL] at h;cases h;exact hx
  ·rw[if_neg z];have:=s.mem i _ (KD (x:=x) B v.len hp z h);split at this
   ·exact(lK.mp this).1
   ·exact this
 ·have li:=rJ v.len h1;have le:=rJ v.len h2;by_cases z:i=p
  ·subst z;have ne:e≠i:=λq=>(B.mem i li _ he).2.2 (by rw[q]);rw[if_pos rfl,if_neg ne];exact(ap e N ne h2 he).1
  ·by_cases y:e=p
   ·subst y;rw[if_neg z,if_pos rfl];have m:=B.sym i e li le he;obtain⟨q1,q2⟩:=ap i M z h1 m;rw[B.asy _ _ q2.1 q2.2 hxk.1 hxk.2];exact q1
   ·rw[if_neg z,if_neg y];exact s.fit i e _ _ (KD (x:=x) B v.len hp z h1) (KD (x:=x) B v.len hp y h2) he
theorem Gi(B:Bo n k es A)(v:Fv n k F)(hp:p<n){L:List Int}(hL:F[p]?=some (some L)):Sat es A F↔∃x∈L,Sat es A (settle es A F p x):=
 ⟨λ⟨g,s⟩=>⟨g p,s.mem p L hL,g,Oj B v hp hL s⟩,λ⟨x,hx,g,s⟩=>⟨_,zet B v hp hL hx s⟩⟩
noncomputable def dR(es:Nat->List Int)(F:Fr)(p:Nat):Nat:=((es p).filter λe=>(F[e.toNat]?.join).isSome).length
noncomputable def bnd(es:Nat->List Int)(F:Fr):Fr:=F.mapIdx λi c=>if 0<dR es F i then c else none
theorem ziG{i:Nat}:(bnd es F)[i]?=F[i]?.map λc=>if 0<dR es F i then c else none:=by unfold bnd;rw[List.getElem?_mapIdx]
theorem Ds{i:Nat}{L:List Int}(h:(bnd es F)[i]?=some (some L)):F[i]?=some (some L)/\0<dR es F i:=by
 rw[ziG] at h;obtain⟨c,e1,e2⟩:=jO.mp h;split at e2
 ·subst e2;exact⟨e1,by assumption⟩
 ·cases e2
theorem zim(v:Fv n k F):Fv n k (bnd es F):=⟨by unfold bnd;rw[List.length_mapIdx];exact v.len,λi L h=>v.lo i L (Ds h).1,λi L h=>v.ll i L (Ds h).1,λi L h=>v.so i L (Ds h).1⟩
theorem zek{i e:Nat}{L:List Int}(hm:(e:Int)∈es i)(h:F[e]?=some (some L)):0<dR es F i:=by
 unfold dR;refine Pn (a:=(e:Int)) (lK.mpr ⟨hm,?_⟩);rw[rN,h];rfl
theorem zi2(B:Bo n k es A)(v:Fv n k F)(ne:∀(i:Nat) L,F[i]?=some (some L)->L≠[]):Sat es A (bnd es F)↔Sat es A F:=by
 constructor
 ·rintro⟨g,s⟩;have to:∀(i:Nat) L,F[i]?=some (some L)->0<dR es F i->(bnd es F)[i]?=some (some L):=λi L h q=>by rw[ziG,h];show some (if _ then _ else _)=_;rw[if_pos q]
  refine⟨λi=>if 0<dR es F i then g i else ((F[i]?.join).getD []).headD 0,λi L h=>?_,λi e L M h1 h2 he=>?_⟩
  ·by_cases q:0<dR es F i
   ·rw[if_pos q];exact s.mem i L (to i L h q)
   ·rw[if_neg q,h];show L.headD 0∈L;cases L with
    |nil=>exact absurd rfl (ne i [] h)
    |cons a L=>exact lq
  ·have q1:=zek he h2;have q2:=zek (B.sym i e (rJ v.len h1) (rJ v.len h2) he) h1;rw[if_pos q1,if_pos q2];exact s.fit i e L M (to i L h1 q1) (to e M h2 q2) he
 ·rintro⟨g,s⟩;exact⟨g,λi L h=>s.mem i L (Ds h).1,λi e L M h1 h2 he=>s.fit i e L M (Ds h1).1 (Ds h2).1 he⟩
theorem Uq(h:∀(i:Nat) L,F[i]?≠some (some L)):Sat es A F:=⟨λ_=>0,λi L q=>absurd q (h i L),λi _ L _ q=>absurd q (h i L)⟩
theorem zi9{i:Nat}(h:F[i]?=some (some [])):¬Sat es A F:=λ⟨g,s⟩=>nomatch s.mem i [] h
noncomputable def dZ(k:Nat):List Int:=(List.range k).map λ(i:Nat)=>(i:Int)
theorem bN{k:Nat}{y:Int}:y∈dZ k↔0<=y/\y<k:=by
 unfold dZ;rw[rQ]
 constructor
 ·rintro⟨i,hi,rfl⟩;have:=yV.mp hi;lia
 ·intro h;exact⟨y.toNat,yV.mpr gV,by lia⟩
theorem Ur(B:Bo n k es A)(v:Fv n k F)(hp:p<n)(hk:1<=k)(dN:∀t a b:Int,0<=a->a<k->0<=b->b<k->A ((a+t)%k) ((b+t)%k)=A a b)(all:∀(i:Nat) L,F[i]?=some (some L)->L=dZ k)(hL:F[p]?=some (some (dZ k))):Sat es A F↔Sat es A (settle es A F p 0):=by
 constructor
 ·rintro⟨g,s⟩;have md:∀z:Int,0<=z%(k:Int)/\z%(k:Int)<k:=λz=>⟨Aq _ gV,DX _ gV⟩;have s2:qJ es A F λi=>(g i + -(g p))%k:=by
   refine⟨λi L h=>?_,λi e L M h1 h2 he=>?_⟩
   ·rw[all i L h];exact bN.mpr (md _)
   ·have a:=bN.mp (all i L h1▸s.mem i L h1);have b:=bN.mp (all e M h2▸s.mem e M h2);show A ((g i + -(g p))%k) ((g e + -(g p))%k)=true;rw[dN _ _ _ a.1 a.2 b.1 b.2];exact s.fit i e L M h1 h2 he
  have:=Oj B v hp hL s2;have e0:(g p + -(g p))%(k:Int)=0:=by rw[Int.add_right_neg];rfl
  simp only[e0] at this;exact⟨_,this⟩
 ·intro h;exact(Gi B v hp hL).mpr ⟨0,bN.mpr ⟨by lia,by lia⟩,h⟩
noncomputable def unset(F:Fr):Nat:=F.countP Option.isSome
theorem zdN:unset (bnd es F)<=unset F:=by
 unfold unset bnd;generalize dR es F=f
 induction F generalizing f with
 |nil=>simp
 |cons c F ih=>
  rw[List.mapIdx_cons,Al,Al];have:=ih (λi=>f (i+1));have e:(if (if 0<f 0 then c else none).isSome=true then 1 else 0)<=(if c.isSome=true then 1 else 0):=by
   split<;>split<;>simp_all
  lia
theorem zfR{F:Fr}:∀{p:Nat} {L:List Int},F[p]?=some (some L)->unset (F.set p none)+1=unset F:=by
 unfold unset
 induction F with
 |nil=>intro p L h;simp at h
 |cons c F ih=>
  intro p L h;cases p with
  |zero=>simp at h;subst h;simp
  |succ p=>
   have:=ih (p:=p) (L:=L) (by simpa using h);rw[List.set_cons_succ,Al,Al]
   lia
theorem zgO{f:Int->Bool}{F:Fr}{e:Int}:unset (gG f F e)<=unset F:=by
 unfold unset gG;generalize e.toNat=j
 induction F generalizing j with
 |nil=>simp
 |cons c F ih=>
  cases j with
  |zero=>cases c<;>simp
  |succ j=>
   rw[List.set_cons_succ,Al,Al,DG];have:=ih j
   lia
theorem zcn{f:Int->Bool}:∀{l:List Int} {F:Fr},unset (l.foldl (gG f) F)<=unset F
 |[],F=>cj _
 |e::l,F=>jU (zcn (l:=l)) zgO
theorem KJ{L:List Int}(h:F[p]?=some (some L)):unset (settle es A F p x)+1<=unset F:=by
 have:=zcn (f:=A x) (l:=es p) (F:=F.set p none);have:=zfR h;unfold settle
 lia
theorem zfv(h:unset F=0)(i:Nat)(L:List Int):F[i]?≠some (some L):=λe=>by
 have:=List.countP_eq_zero.mp h _ (gH e);exact this rfl
def lJ(es:Nat->List Int)(A:Int->Int->Bool)(kvs:iU):Prop:=∀F d,bL (F.map cellK) kvs=some d->∃b,d=.bl b/\(b=true↔Sat es A F)
theorem zeO{j q:List Kx}{d:D}:∀{kvs:iU},bL j (jJ q d kvs)=if j=q then some d else bL j kvs:=by
 intro kvs;unfold jJ;have app:∀{r:iU},bL j (r++[(q,d)])=match bL j r with|some e=>some e|none=>if j=q then some d else none:=λ{r}=>by
  induction r with
  |nil=>
   show (if q=j then some d else none)=if j=q then some d else none
   by_cases e:q=j
   ·rw[if_pos e,if_pos e.symm]
   ·rw[if_neg e,if_neg λz=>e z.symm]
  |cons p r ih=>
   rw[List.cons_append];unfold bL;by_cases e:p.1=j
   ·simp[e]
   ·simp only[e,nW];exact ih
 by_cases h:(bL q kvs).isSome=true
 ·rw[if_pos h];by_cases e:j=q
  ·subst e;rw[if_pos rfl]
   induction kvs with
   |nil=>simp[bL] at h
   |cons p r ih=>
    rw[jo];by_cases z:p.1=j
    ·rw[if_pos z];unfold bL;rw[if_pos z]
    ·rw[if_neg z];unfold bL at h ⊢;rw[if_neg z] at h ⊢;exact ih h
  ·rw[if_neg e];clear h
   induction kvs with
   |nil=>rfl
   |cons p r ih=>
    rw[jo];by_cases z:p.1=q
    ·rw[if_pos z];unfold bL;rw[if_neg (λy=>e (y.symm.trans z)),if_neg (λy=>e (y.symm.trans z))];exact ih
    ·rw[if_neg z];unfold bL;by_cases y:p.1=j
     ·rw[if_pos y,if_pos y]
     ·rw[if_neg y,if_neg y];exact ih
 ·rw[if_neg h,app];by_cases e:j=q
  ·subst e;have:bL j kvs=none:=by simpa using h
   simp[this]
  ·rw[if_neg e,if_neg e];cases bL j kvs<;>rfl
theorem zh4{q:List Kx}{d:D}{kvs:iU}:(jJ q d kvs).length<=kvs.length+1:=by
 unfold jJ
 split
 ·rw[fZ];lia
 ·simp
theorem ziZ{kvs:iU}{b:Bool}(h:lJ es A kvs)(hb:b=true↔Sat es A F):lJ es A (jJ (F.map cellK) (.bl b) kvs):=λG d e=>by
 rw[zeO] at e;by_cases z:G.map cellK=F.map cellK
 ·rw[if_pos z] at e;cases e;rw[zf9 z];exact⟨b,rfl,hb⟩
 ·rw[if_neg z] at e;exact h G d e
end
noncomputable def cnt(k:Nat):Nat->Nat
 |0=>1
 |m+1=>1+k*cnt k m
section
variable {aq:Nat->Nat->Bool}{aj:Bool}{F:Fn}{J:Vs}{s:S}{P:Xv->S->Prop}
theorem W.sV{c:Nat}{fs:List D}{P:List D->S->Prop}(h:P fs s):W (Mi.sV c (.d (.ob c fs))) s P:=by
 show W (if c=c then M.ret fs else M.no) s P;rw[if_pos rfl];exact W.ret h
theorem W.cm{c f:Nat}{o:E}{xs:Es}{fs:List D}{vs:List Xv}(h1:dG aq o J=some (.d (.ob c fs)))(h2:o9 aq xs J=some vs)(k:W (bU (F f) (.d (.ob c fs)::vs)) s P):W (ev aq aj F (.cm c f o xs) J) s P:=
 W.bd (W.eq (gD o _ h1) (W.bd (W.sV (W.bd (W.eq (jT xs h2) (W.qt k))))))
theorem W.oJ(h:P (.l s.length) (s++[.dct []])):W (ev aq aj F .oJ J) s P:=⟨_,_,rfl,h⟩
theorem W.key{x:D}{kx:List Kx}{P:List Kx->S->Prop}(e:kOf x=some kx)(h:P kx s):W (Mi.key (.d x)) s P:=W.opt e h
theorem W.cC{n:Nat}{kvs:iU}{P:Nat×iU->S->Prop}(e:s[n]?=some (.dct kvs))(h:P (n,kvs) s):W (Mi.cC (.l n)) s P:=⟨_,s,by unfold Mi.cC;simp only[e],h⟩
theorem W.sJ{b:Bool}{k d:E}{x:D}{n:Nat}{kx:List Kx}{kvs:iU}(h1:dG aq k J=some (.d x))(h2:dG aq d J=some (.l n))(e:kOf x=some kx)(hn:s[n]?=some (.dct kvs))(h:P (.d (.bl ((bL kx kvs).isSome==b))) s):W (ev aq aj F (.sJ b k d) J) s P:=
 W.bd (W.eq (gD k _ h1) (W.bd (W.eq (gD d _ h2) (W.bd (W.key e (W.bd (W.cC hn (W.ret h))))))))
theorem W.jH{d k:E}{x v:D}{n:Nat}{kx:List Kx}{kvs:iU}(h1:dG aq d J=some (.l n))(h2:dG aq k J=some (.d x))(e:kOf x=some kx)(hn:s[n]?=some (.dct kvs))(hv:bL kx kvs=some v)(h:P (.d v) s):W (ev aq aj F (.jH d k) J) s P:=
 W.bd (W.eq (gD d _ h1) (W.bd (W.eq (gD k _ h2) (W.bd (W.key e (W.bd (W.cC hn (W.opt (a:=.d v) (by show Option.map _ (bL kx kvs)=_;rw[hv];rfl) h))))))))
theorem W.Ca{a:E}(h:W (ev aq aj F a J) s λx s1=>W (rd x) s1 λd s2=>∃b,xU d=some b/\P (.d (.bl b)) s2):W (ev aq aj F (.Ca a) J) s P:=
 W.bd (h.imp λ_ _ h=>W.bd (h.imp λ_ _ ⟨_,e,h⟩=>W.bd (W.opt e (W.ret h))))
theorem KaJ{xs:List D}{P:Src×Nat->S->Prop}(h:P (.fix (enumFrom 0 xs),(enumFrom 0 xs).length) s):W (oO (.d (.tup xs))) s P:=⟨_,s,rfl,h⟩
theorem W.mk{c f:Nat}{xs:Es}{vs:List Xv}{ds:List D}(h:W (evs aq aj F xs J) s λus s1=>us=vs/\P (.d (.ob c ds)) s1)(hl:locs vs=[])(k:W (F f (.d .any::vs)) [] λv _=>v=.d (.tup ds)):W (ev aq aj F (.mk c f xs) J) s P:=by
 refine W.bd (h.imp λus s1 ⟨e,hp⟩=>?_);subst e;obtain⟨v,s2,e1,rfl⟩:=k;refine⟨_,s1,?_,hp⟩;unfold zN;rw[if_pos hl];simp only[e1]
end
theorem WS.dput{aq:Nat->Nat->Bool}{aj:Bool}{F:Bool->Fn}{J:Vs}{s:S}{Q:Out->S->Prop}{d k v:E}{x:D}{n:Nat}{kx:List Kx}(h1:dG aq d J=some (.l n))(h2:dG aq k J=some (.d x))(e:kOf x=some kx)
  (h:W (ev aq aj (F aj) v J) s λz s1=>∃w kvs,z=.d w/\s1[n]?=some (.dct kvs)/\kvs.length<sizeLine/\Q (.nx J) (s1.set n (.dct (jJ kx w kvs)))):WS (ex aq aj F (.dput d k v) J) s Q:=by
 refine WS.ofM (W.bd (h.imp λz s1 ⟨w,kvs,ez,hn,hl,q⟩=>?_));subst ez;refine W.bd (W.dat (W.bd (W.eq (gD d _ h1) (W.bd (W.eq (gD k _ h2) (W.bd (W.key e (W.bd (W.cC hn ?_)))))))));rw[if_pos hl];exact⟨_,_,rfl,WS.nx q⟩
theorem zbB{α:Type}{f:α->D}:∀(l:List α) (j:Nat),enumFrom j (l.map f)=(l.zipIdx j).map λp=>.tup [.int p.2,f p.1]
 |[],j=>rfl
 |a::l,j=>by rw[jo,List.zipIdx_cons,jo,<-zbB l (j+1)];rfl
theorem KaU{o:Option Rz}{xs:List D}{s:S}{P:Xv->S->Prop}(e:o=some (.nw xs))(h:P (.l s.length) (s++[.lst xs])):W (cI false o) s P:=by subst e;exact⟨_,_,rfl,h⟩
theorem ziq{n:Nat}{j:Int}(h0:0<=j)(h:j<n):L2.sy n j=some j.toNat:=by
 unfold L2.sy;rw[if_pos h0,if_pos h]
theorem zjh{n:Nat}{j:Int}(h0:j<0)(h : -(n:Int)<=j):L2.sy n j=some (j+n).toNat:=by
 unfold L2.sy;rw[if_neg gV,if_pos h]
theorem znD{xs:List D}{j:Int}{x:D}(h0:j<0)(h1 : -(xs.length:Int)<=j)(h:xs[(j+xs.length).toNat]?=some x):prim .ix [.fl xs,.int j]=some (.dat x):=by
 show Option.map Rz.dat (L2.qU xs j)=_;have:L2.qU xs j=some x:=by
  unfold L2.qU;rw[zjh h0 h1];exact h
 rw[this];rfl
theorem zhG(F:Fr):memD (.tup []) (F.map bJ)=some (decide (some []∈F)):=by
 induction F with
 |nil=>rfl
 |cons c F ih=>
  simp only[jo,memD,ih];cases c with
  |none=>simp[bJ,c7,kq]
  |some l=>
   cases l with
   |nil=>
    have:c7 50 (bJ (some [])) (.tup [])=some true:=rfl;rw[this];simp
   |cons a l=>
    have:c7 50 (bJ (some (a::l))) (.tup [])=some false:=rfl;rw[this];simp
theorem zmL{f:Bool->Bool}{F:Fr}:Fj f [.tup [],jA F]=some (.dat (.bl (f (decide (some []∈F))))):=by
 show Option.map _ (memD (.tup []) (F.map bJ))=_;rw[zhG];rfl
theorem zgN{k':Nat}:∀(a b:List Int),dU (c7 k') (a.map D.int) (b.map D.int)=some (decide (a=b))
 |[],[]=>by simp[dU]
 |[],_::_=>by simp[dU]
 |_::_,[]=>by simp[dU]
 |x::a,y::b=>by
  have hi:c7 k' (.int x) (.int y)=some (x==y):=by cases k'<;>rfl
  simp only[jo,dU,zgN a b,hi]
  congr 1
  by_cases e:x=y<;>by_cases e2:a=b<;>simp[e,e2]
theorem znT{f:Bool->Bool}{a b:List Int}:Ce f [.tup (a.map .int),.tup (b.map .int)]=some (.dat (.bl (f (decide (a=b))))):=by
 show Option.map _ (dU (c7 49) (a.map D.int) (b.map D.int))=_;rw[zgN];rfl
theorem zdc:∀rs:List (List Int),j_ (rs.map λr=>D.tup (r.map .int))=some rs
 |[]=>rfl
 |r::rs=>by simp only[jo,j_,Ul,zdc rs]
theorem Us:∀(rs:List (List Int)) (b:List Int),gw b rs=b\/gw b rs∈rs
 |[],b=>.inl rfl
 |x::r,b=>by
  unfold gw
  split
  ·rcases Us r x with h|h
   ·rw[h];exact .inr lq
   ·exact .inr (gY _ h)
  ·rcases Us r b with h|h
   ·exact .inl h
   ·exact .inr (gY _ h)
theorem zlb{rs:List (List Int)}(h:rs≠[]):∃r∈rs,prim .sH [.fl (rs.map λr=>D.tup (r.map .int))]=some (.dat (.tup (r.map .int))):=by
 cases rs with
 |nil=>exact absurd rfl h
 |cons x r=>
  refine⟨gw x r,?_,?_⟩
  ·rcases Us r x with h|h
   ·rw[h];exact lq
   ·exact gY _ h
  ·show oN [.fl ((x::r).map λr=>D.tup (r.map .int))]=_;unfold oN;simp only[zdc]
theorem zny{n:Nat}(h:n<=65536):prim .Fg [.int n]=some (.dat (.tup ((dZ n).map .int))):=by
 show (if okR 0 (n:Int)=true then some (Rz.dat (.tup (Jf 0 ((n:Int)-0).toNat))) else none)=_;rw[if_pos (show okR 0 (n:Int)=true from nH gV)];unfold Jf dZ;rw[GQ,show ((n:Int)-0).toNat=n by lia]
 congr 4
 funext i
 simp
noncomputable def Dt(n:Nat)(es:Nat->List Int):List D:=(List.range n).map λi=>.tup ((es i).map .int)
noncomputable def wD(k:Nat)(A:Int->Int->Bool):List D:=(List.range k).map λ(a:Nat)=>.fl ((List.range k).map λ(b:Nat)=>.bl (A a b))
noncomputable def jB(al:Bool)(n k:Nat)(es:Nat->List Int)(A:Int->Int->Bool):D:=.ob 0 [.fl (Dt n es),.tup ((dZ k).map .int),.fl (wD k A),.bl al]
noncomputable abbrev boD(n k:Nat)(es:Nat->List Int)(A:Int->Int->Bool):D:=jB true n k es A
theorem zmg{n:Nat}{es:Nat->List Int}{i:Nat}(h:i<n):(Dt n es)[i]?=some (.tup ((es i).map .int)):=by
 unfold Dt;rw[jD,DQ h];rfl
theorem znq{k:Nat}{A:Int->Int->Bool}{a:Int}(h0:0<=a)(h:a<k):(wD k A)[a.toNat]?=some (.fl ((List.range k).map λ(b:Nat)=>.bl (A a b))):=by
 unfold wD;rw[jD,DQ gV];have:((a.toNat:Nat):Int)=a:=by lia
 simp[this]
theorem Ut{k:Nat}{f:Int->Bool}{b:Int}(h0:0<=b)(h:b<k):((List.range k).map λ(b:Nat)=>D.bl (f b))[b.toNat]?=some (.bl (f b)):=by
 rw[jD,DQ gV];have:((b.toNat:Nat):Int)=b:=by lia
 simp[this]
theorem KN{F:Fr}{i:Nat}{c:Option (List Int)}(h:F[i]?=some c):(F.map bJ)[i]?=some (bJ c):=by rw[jD,h];rfl
theorem zkd{f:Int->Bool}{F:Fr}{e:Int}:(gG f F e).map bJ=(F.map bJ).set e.toNat (bJ ((F[e.toNat]?.join).map (·.filter f))):=by
 unfold gG;rw[List.map_set]
theorem zhv{f:Int->Bool}{F:Fr}{e:Int}(h:F[e.toNat]?=some none):gG f F e=F:=by
 unfold gG;rw[h];obtain⟨hl,e2⟩:=fG.mp h;show F.set e.toNat none=F;rw[<-e2,List.set_getElem_self]
theorem zdu{α:Type}{p:Int->Bool}(l:List Int):l.filterMap (λy=>if p y=true then some (D.int y) else none)=(l.filter p).map .int:=by
 induction l with
 |nil=>rfl
 |cons a l ih=>
  rw[Gu,List.filter_cons];by_cases q:p a=true
  ·simp[q,ih]
  ·simp[q,ih]
noncomputable def tot(k:Nat):Nat->Nat
 |0=>0
 |m+1=>k*cnt k m+tot k m
theorem zil{k:Nat}{L:List Int}(h:L.Pairwise (·<·))(hb:∀x∈L,0<=x/\x<k):L.length<=k:=by
 have key:∀(L:List Int) (a:Int),L.Pairwise (·<·)->(∀x∈L,a<=x/\x<k)->a<=k->(L.length:Int)<=k-a:=by
  intro L
  induction L with
  |nil=>intro a _ _ ha;simp;lia
  |cons x r ih=>
   intro a h hb ha;rw[Gy] at h;have hx:=hb x Zaa;have:=ih (x+1) h.2 (λy hy=>by have:=h.1 y hy;have:=hb y (by simp[hy]);lia) gV;rw[gZ]
   lia
 have:=key L 0 h hb gV
 lia
noncomputable def cX(k d:Int)(a b:Int):Bool:=decide (d<=o_ k a b)
section
variable {n k d:Int}{ps:List (Int×Int)}{ls:List Int}
theorem zgV(hd:1<=d){a b:Int}:cX k d a b=cX k d b a:=by
 unfold cX;rw[wG,Dj hd,Dj hd]
 lia
theorem Ol(hd:1<=d)(t a b:Int)(a0:0<=a)(ak:a<k)(b0:0<=b)(bk:b<k):cX k d ((a+t)%k) ((b+t)%k)=cX k d a b:=by
 unfold cX;rw[wG,Dj hd,Dj hd];have e1:=Pu (a+t) k;have e2:=Pu (b+t) k;have u0:=Aq (a+t) (b:=k) gV;have w0:=Aq (b+t) (b:=k) gV;have uk:=DX (a+t) (b:=k) gV;have wk:=DX (b+t) (b:=k) gV;generalize (a+t)%k=u at *;generalize (b+t)%k=w at *;generalize (a+t)/k=q1 at *;generalize (b+t)/k=q2 at *;have e3:k*(q1-q2)=(a-b)-(u-w):=by rw[Int.mul_sub];lia
 have c:q1-q2 = -1\/q1-q2=0\/q1-q2=1:=by
  have h1:q1-q2<2:=Int.not_le.mp λz=>by
   have:=Int.mul_le_mul_of_nonneg_left z (show 0<=k by lia)
   lia
  have h2 : -2<q1-q2:=Int.not_le.mp λz=>by
   have:=Int.mul_le_mul_of_nonneg_left z (show 0<=k by lia)
   lia
  lia
 rcases c with c|c|c<;>rw[c] at e3<;>lia
theorem KQ(w:Web n ps){i e:Int}:e∈bM i ps↔(i,e)∈ps\/(e,i)∈ps:=by
 unfold bM;rw[Gw]
 constructor
 ·rintro⟨p,hp,h⟩;obtain⟨a,b⟩:=p;unfold endOf at h;dsimp only at h;split at h
  ·cases h;subst_vars;exact .inl hp
  ·split at h
   ·cases h;subst_vars;exact .inr hp
   ·cases h
 ·rintro(hp|hp)
  ·exact⟨_,hp,by simp[endOf]⟩
  ·have:=w.tie _ hp;dsimp only at this;exact⟨_,hp,by unfold endOf;dsimp only;rw[if_neg gV,if_pos rfl]⟩
theorem zlE(w:Web n ps)(hd:1<=d)(hk:k<=24):Bo n.toNat k.toNat (λi=>bM i ps) (cX k d) where
 hn:=by have:=w.h8;lia
 hk:=by lia
 mem:=λi hi e he=>by
  have:=zev w he;refine⟨this.1,by lia,λz=>?_⟩;subst z;rcases(KQ w).mp he with h|h<;>have:=w.tie _ h<;>dsimp only at this<;>lia
 sym:=λi e _ _ he=>(KQ w).mpr ((KQ w).mp he).symm
 len:=λi hi=>by
  have:=zil (k:=n.toNat) (zeX w i) (λx hx=>by have:=zev w hx;have:=w.h1;lia);have:=w.h8
  lia
 asy:=λa b _ _ _ _=>zgV hd
noncomputable def jk(n k:Int):Fr:=List.replicate n.toNat (some (dZ k.toNat))
theorem KR{i:Nat}{L:List Int}(h:(jk n k)[i]?=some (some L)):i<n.toNat/\L=dZ k.toNat:=by
 unfold jk at h;rw[Af] at h;split at h
 ·cases h;exact⟨by assumption,rfl⟩
 ·cases h
theorem Om{i:Nat}(h:i<n.toNat):(jk n k)[i]?=some (some (dZ k.toNat)):=by
 unfold jk;rw[Af,if_pos h]
theorem Oo(hk:k<=24):Fv n.toNat k.toNat (jk n k) where
 len:=by unfold jk;simp
 lo:=λi L h x hx=>by rw[(KR h).2] at hx;exact bN.mp hx
 ll:=λi L h=>by rw[(KR h).2];unfold dZ;simp;lia
 so:=λi L h=>by
  rw[(KR h).2];unfold dZ;rw[PX];exact List.pairwise_lt_range.imp (by intro a b h;lia)
theorem zep(w:Web n ps)(hd:1<=d){hs:List Int}(h:gF n k d ps hs):qJ (λi=>bM i ps) (cX k d) (jk n k) λj=>at' hs j where
 mem:=λi L e=>by
  obtain⟨h1,rfl⟩:=KR e;have:=h.len;have:=h.lo _ (Kh (fs:=hs) (j:=i) gV gV);exact bN.mpr gV
 fit:=λi e L M _ _ he=>by
  rcases(KQ w).mp he with q|q
  ·have:=h.fit _ q;show cX k d (at' hs i) (at' hs e)=true;unfold cX;rw[PJ];exact this
  ·have:=h.fit _ q;rw[zgV hd];show cX k d (at' hs e) (at' hs i)=true;unfold cX;rw[PJ];exact this
theorem zhH(w:Web n ps){hs:List Int}(hl:hs.length=n.toNat)(s:qJ (λi=>bM i ps) (cX k d) (jk n k) λj=>at' hs j):gF n k d ps hs where
 len:=by have:=w.h1;lia
 lo:=λx hx=>by
  obtain⟨j,hj,e⟩:=yR hx;have:=s.mem j _ (Om gV);have e2:at' hs (j:Int)=x:=by
   unfold at';rw[rN,nF,eE hj,e];rfl
  rw[e2] at this;have:=bN.mp this
  lia
 fit:=λp hp=>by
  have ht:=w.tie p hp;obtain⟨a,b⟩:=p;dsimp only at ht;obtain⟨i,rfl⟩:=Lg ht.1;obtain⟨e,rfl⟩:=Lg (show 0<=b by lia);have:=s.fit i e _ _ (Om gV) (Om gV) ((KQ w).mpr (.inl hp));unfold cX at this;rw[PJ] at this;exact this
end
theorem zeb{k k2 m m2:Nat}(hk:k<=k2)(hm:m<=m2):cnt k m<=cnt k2 m2:=by
 have h1:∀m,cnt k m<=cnt k2 m:=by
  intro m
  induction m with
  |zero=>exact cj _
  |succ m ih=>exact Nat.add_le_add_left (Nat.mul_le_mul hk ih) 1
 have h3:∀m,1<=cnt k2 m:=λm=>by cases m<;>unfold cnt<;>lia
 by_cases c:k2=0
 ·subst c;have:k=0:=by lia
  subst this;cases m<;>cases m2<;>simp[cnt]
 ·have h2:∀j,cnt k2 m<=cnt k2 (m+j):=by
   intro j
   induction j with
   |zero=>exact cj _
   |succ j ih=>
    have:1*cnt k2 (m+j)<=k2*cnt k2 (m+j):=Lj _ gV;show _<=1+k2*cnt k2 (m+j)
    lia
  have:=h2 (m2-m);rw[show m+(m2-m)=m2 by lia] at this;exact jU (h1 m) this
theorem zg7{k k2 m m2:Nat}(hk:k<=k2)(hm:m<=m2):tot k m<=tot k2 m2:=by
 have h1:∀m,tot k m<=tot k2 m:=by
  intro m
  induction m with
  |zero=>exact cj _
  |succ m ih=>exact Nat.add_le_add (Nat.mul_le_mul hk (zeb hk (cj _))) ih
 have h2:∀j,tot k2 m<=tot k2 (m+j):=by
  intro j
  induction j with
  |zero=>exact cj _
  |succ j ih=>show _<=k2*cnt k2 (m+j)+tot k2 (m+j);lia
 have:=h2 (m2-m);rw[show m+(m2-m)=m2 by lia] at this;exact jU (h1 m) this
theorem WS.aug{aq:Nat->Nat->Bool}{aj:Bool}{F:Bool->Fn}{J:Vs}{s:S}{Q:Out->S->Prop}{i:Nat}{e:E}{p q:Int}(h1:J[i]?.join=some (.d (.int p)))(h2:dG aq e J=some (.d (.int q)))(h:Q (.nx (J.set i (some (.d (.int (p+q)))))) s):WS (ex aq aj F (.aug i e) J) s Q:=
 WS.ofM (W.bd (W.opt h1 (W.bd (W.eq (gD e _ h2) (W.bd (W.int (W.bd (W.int (W.ret (WS.nx h))))))))))
theorem Uu(a b k:Int):(a%k+b)%k=(a+b)%k:=by
 have e:=Pu a k;have:a%k+b=(a+b)+k*(-(a/k)):=by rw[Int.mul_neg];lia
 rw[this,Int.add_mul_emod_self_left]
theorem Oq{a k:Int}(h0:0<=a)(h:a<k):a%k=a:=Int.emod_eq_of_lt h0 h
theorem Uv{a k:Int}(h:0<k):0<=a%k/\a%k<k:=⟨Aq _ gV,DX _ h⟩
noncomputable def bA(k m:Int)(hs:List Int):List Int:=hs.map λx=>(x+m)%k
section
variable {n k d m:Int}{ps:List (Int×Int)}{hs:List Int}
theorem zf1(w:Web n ps)(hd:1<=d)(hk:1<=k)(h:gF n k d ps hs):gF n k d ps (bA k m hs) where
 len:=by unfold bA;rw[fZ];exact h.len
 lo:=λx hx=>by
  obtain⟨y,_,rfl⟩:=rQ.mp hx;exact Uv gV
 fit:=λp hp=>by
  have ht:=w.tie p hp;have hl:=h.len;have a:=h.lo _ (Kh (fs:=hs) (j:=p.1) gV gV);have b:=h.lo _ (Kh (fs:=hs) (j:=p.2) gV gV);unfold bA;rw[Kl gV gV,Kl gV gV];have:=Ol (k:=k) hd m _ _ a.1 a.2 b.1 b.2;unfold cX at this;rw[wG] at this;exact this.mpr (h.fit p hp)
end
section
variable {n k d:Int}{ps:List (Int×Int)}
noncomputable def yI(k d:Int)(ps:List (Int×Int))(r:List Int)(x:Int):Bool:=ps.all λp=>decide (p.2=(r.length:Int)->d<=o_ k (at' r p.1) x)
noncomputable def nextR(k d:Int)(ps:List (Int×Int))(r:List Int):List (List Int):=((dZ k.toNat).filter (yI k d ps r)).map λx=>r++[x]
noncomputable def grow(k d:Int)(ps:List (Int×Int))(rows:List (List Int)):List (List Int):=rows.flatMap (nextR k d ps)
noncomputable def grows(k d:Int)(ps:List (Int×Int))(rows:List (List Int)):Nat->List (List Int)
 |0=>rows
 |i+1=>grow k d ps (grows k d ps rows i)
theorem pA{rows:List (List Int)}{h:List Int}:h∈grow k d ps rows↔∃r∈rows,∃x:Int,(0<=x/\x<(k.toNat:Nat))/\yI k d ps r x=true/\h=r++[x]:=by
 unfold grow nextR;rw[List.mem_flatMap]
 constructor
 ·rintro⟨r,hr,hh⟩;obtain⟨x,hx,rfl⟩:=rQ.mp hh;obtain⟨h1,h2⟩:=lK.mp hx;exact⟨r,hr,x,bN.mp h1,h2,rfl⟩
 ·rintro⟨r,hr,x,h1,h2,rfl⟩;exact⟨r,hr,rQ.mpr ⟨x,lK.mpr ⟨bN.mpr h1,h2⟩,rfl⟩⟩
structure Pre(k d:Int)(ps:List (Int×Int))(i:Nat)(r:List Int):Prop where
 len:r.length=i
 lo:∀x∈r,0<=x/\x<k
 fit:∀p∈ps,p.2<i->d<=o_ k (at' r p.1) (at' r p.2)
theorem zhO(w:Web n ps)(hk:1<=k){i:Nat}{rows:List (List Int)}(P:List Int->Prop)(hP:∀r x,i≠0->r.length=i->(P (r++[x])↔P r))(h0:i≠0)(h:∀r,r∈rows↔Pre k d ps i r/\P r):∀r,r∈grow k d ps rows↔Pre k d ps (i+1) r/\P r:=by
 intro g;rw[pA]
 constructor
 ·rintro⟨r,hr,x,hx,ok,rfl⟩;obtain⟨hp,hq⟩:=(h r).mp hr;have hl:=hp.len;refine⟨⟨by simp[hl],λy hy=>?_,λp qH v9=>?_⟩,(hP r x h0 hl).mpr hq⟩
  ·rcases nG.mp hy with hy|hy
   ·exact hp.lo y hy
   ·have:y=x:=rM.mp hy
    lia
  ·have ht:=w.tie p qH;by_cases c:p.2<i
   ·rw[Ac gV gV,Ac gV gV];exact hp.fit p qH c
   ·have e:p.2=(r.length:Int):=by lia
    have:=jP (iz.mp ok p qH) e;rw[e,T9,Ac gV gV];exact this
 ·rintro⟨hp,hq⟩;have hl:=hp.len;have tU:g≠[]:=λe=>by rw[e] at hl;simp at hl
  obtain⟨r,x,rfl⟩ : ∃r x,g=r++[x]:=⟨g.dropLast,g.getLast tU,(List.dropLast_concat_getLast tU).symm⟩;have hrl:r.length=i:=by simpa using hl
  have hx:=hp.lo x Zaa;refine⟨r,(h r).mpr ⟨⟨hrl,λy hy=>hp.lo y (by simp[hy]),λp qH v9=>?_⟩,(hP r x h0 hrl).mp hq⟩,x,by lia,iz.mpr λp qH=>nH λe=>?_,rfl⟩
  ·have ht:=w.tie p qH;have:=hp.fit p qH gV
   rwa [Ac gV gV,Ac gV gV] at this
  ·have ht:=w.tie p qH;have:=hp.fit p qH gV
   rwa [e,T9,Ac gV gV] at this
theorem ze5(w:Web n ps):grow k d ps [[]]=(dZ k.toNat).map λx=>[x]:=by
 unfold grow nextR;rw[P0,List.flatMap_nil,wH];have:(dZ k.toNat).filter (yI k d ps [])=dZ k.toNat:=by
  refine List.filter_eq_self.mpr λx _=>iz.mpr λp hp=>nH λe=>?_;have:=w.tie p hp;simp at e
  lia
 rw[this];rfl
theorem zfJ(w:Web n ps)(hd:1<=d){r:List Int}(hr:∀x∈r,0<=x/\x<k)(t x:Int)(hx:0<=x/\x<k):yI k d ps (bA k t r) ((x+t)%k)=yI k d ps r x:=by
 unfold yI;rw[Bool.eq_iff_iff,iz,iz];have key:∀p∈ps,(p.2=((bA k t r).length:Int)->d<=o_ k (at' (bA k t r) p.1) ((x+t)%k))↔(p.2=(r.length:Int)->d<=o_ k (at' r p.1) x):=λp hp=>by
  have ht:=w.tie p hp;have el:(bA k t r).length=r.length:=by unfold bA;rw[fZ]
  rw[el]
  constructor
  ·intro h e;have:=h e;unfold bA at this;rw[Kl gV gV] at this;have a:=hr _ (Kh (fs:=r) (j:=p.1) gV gV);have f:=Ol (k:=k) hd t _ _ a.1 a.2 hx.1 hx.2;unfold cX at f;rw[wG] at f;exact f.mp this
  ·intro h e;have:=h e;unfold bA;rw[Kl gV gV];have a:=hr _ (Kh (fs:=r) (j:=p.1) gV gV);have f:=Ol (k:=k) hd t _ _ a.1 a.2 hx.1 hx.2;unfold cX at f;rw[wG] at f;exact f.mpr this
 constructor
 ·intro h p hp;exact nH ((key p hp).mp (jP (h p hp)))
 ·intro h p hp;exact nH ((key p hp).mpr (jP (h p hp)))
theorem pB{k:Nat}:(dZ k).Nodup:=by
 unfold dZ;exact PX.mpr (List.nodup_range.imp λh e=>h gV)
theorem zf6(w:Web n ps)(hd:1<=d)(hk:1<=k){r:List Int}(hr:∀x∈r,0<=x/\x<k)(t:Int):((nextR k d ps r).map (bA k t)).Perm (nextR k d ps (bA k t r)):=by
 unfold nextR;have e1:(((dZ k.toNat).filter (yI k d ps r)).map λx=>r++[x]).map (bA k t)=((((dZ k.toNat).filter (yI k d ps r)).map λx=>(x+t)%k).map λx=>bA k t r++[x]):=by
  rw[GQ,GQ];refine List.map_congr_left λx _=>?_;show bA k t (r++[x])=bA k t r++[(x+t)%k];unfold bA;rw[Ed];rfl
 rw[e1];refine List.Perm.map _ ?_;have inj:∀a b:Int,0<=a->a<k->0<=b->b<k->(a+t)%k=(b+t)%k->a=b:=λa b a0 a1 b0 b1 e=>by
  have h1:((a+t)%k + -t)%k=a:=by rw[Uu,show a+t + -t=a by lia,Oq a0 a1]
  have h2:((b+t)%k + -t)%k=b:=by rw[Uu,show b+t + -t=b by lia,Oq b0 b1]
  rw[<-h1,<-h2,e]
 refine(List.perm_ext_iff_of_nodup ?_ (pB.filter _)).mpr λy=>?_
 ·refine PX.mpr (List.Pairwise.imp_of_mem (λ{a b} ha hb h e=>?_) (pB.filter (yI k d ps r)));have a1:=bN.mp (lK.mp ha).1;have b1:=bN.mp (lK.mp hb).1;exact h (inj a b gV gV gV gV e)
 ·constructor
  ·intro hy;obtain⟨x,hx,rfl⟩:=rQ.mp hy;obtain⟨h1,h2⟩:=lK.mp hx;have h1:=bN.mp h1;have:=Uv (a:=x+t) (k:=k) gV;exact lK.mpr ⟨bN.mpr gV,by rw[zfJ w hd hr t x gV];exact h2⟩
  ·intro hy;obtain⟨h1,h2⟩:=lK.mp hy;have h1:=bN.mp h1;have hm:=Uv (a:=y + -t) (k:=k) gV;have ey:((y + -t)%k+t)%k=y:=by rw[Uu,show y + -t+t=y by lia,Oq gV gV]
   refine rQ.mpr ⟨(y + -t)%k,lK.mpr ⟨bN.mpr gV,?_⟩,ey⟩;rw[<-zfJ w hd hr t _ hm,ey];exact h2
theorem zke(hk:1<=k){rows:List (List Int)}(h:∀r∈rows,∀x∈r,0<=x/\x<k):∀r∈grow k d ps rows,∀x∈r,0<=x/\x<k:=λr hr x hx=>by
 obtain⟨q,hq,y,hy,_,rfl⟩:=pA.mp hr;rcases nG.mp hx with hx|hx
 ·exact h q hq x hx
 ·have:x=y:=rM.mp hx
  lia
theorem zdH(w:Web n ps)(hd:1<=d)(hk:1<=k)(t:Int):∀{rows:List (List Int)},(∀r∈rows,∀x∈r,0<=x/\x<k)->((grow k d ps rows).map (bA k t)).Perm (grow k d ps (rows.map (bA k t)))
 |[],_=>List.Perm.refl _
 |r::rows,h=>by
  have e1:grow k d ps (r::rows)=nextR k d ps r++grow k d ps rows:=by unfold grow;rw[P0]
  have e2:grow k d ps ((r::rows).map (bA k t))=nextR k d ps (bA k t r)++grow k d ps (rows.map (bA k t)):=by unfold grow;rw[jo,P0]
  rw[e1,e2,Ed];exact(zf6 w hd hk (h r Zaa) t).append (zdH w hd hk t λq hq=>h q (by simp[hq]))
theorem zcC(w:Web n ps)(hd:1<=d)(hk:1<=k)(t:Int){rows:List (List Int)}(h:∀r∈rows,∀x∈r,0<=x/\x<k):∀m,(∀r∈grows k d ps rows m,∀x∈r,0<=x/\x<k)/\((grows k d ps rows m).map (bA k t)).Perm (grows k d ps (rows.map (bA k t)) m)
 |0=>⟨h,List.Perm.refl _⟩
 |m+1=>by
  obtain⟨h1,h2⟩:=zcC w hd hk t h m;refine⟨zke hk h1,?_⟩;show ((grow k d ps (grows k d ps rows m)).map (bA k t)).Perm (grow k d ps (grows k d ps (rows.map (bA k t)) m));refine(zdH w hd hk t h1).trans ?_;unfold grow;exact List.Perm.flatMap_right _ h2
theorem zc6{a b:List (List Int)}:∀m,grows k d ps (a++b) m=grows k d ps a m++grows k d ps b m
 |0=>rfl
 |m+1=>by
  show grow k d ps (grows k d ps (a++b) m)=grow k d ps (grows k d ps a m)++grow k d ps (grows k d ps b m);rw[zc6 m];unfold grow;rw[List.flatMap_append]
theorem zdd:∀m,grows k d ps [] m=[]
 |0=>rfl
 |m+1=>by show grow k d ps (grows k d ps [] m)=[];rw[zdd m];rfl
theorem zcq{rows:List (List Int)}:∀m,grows k d ps rows (m+1)=grows k d ps (grow k d ps rows) m
 |0=>rfl
 |m+1=>by
  show grow k d ps (grows k d ps rows (m+1))=grow k d ps (grows k d ps (grow k d ps rows) m);rw[zcq m]
theorem zb3(w:Web n ps)(hd:1<=d)(hk:1<=k)(m:Nat):(grows k d ps [[]] (m+1)).length=k.toNat*(grows k d ps [[0]] m).length:=by
 rw[zcq,ze5 w];have one:∀x:Int,0<=x->x<k->(grows k d ps [[x]] m).length=(grows k d ps [[0]] m).length:=λx h0 h1=>by
  have:=(zcC w hd hk x (rows:=[[0]]) (λr hr y hy=>by
   rw[rM.mp hr] at hy;have:y=0:=rM.mp hy
   lia) m).2.length_eq
  rw[fZ] at this;rw[this];have e:[[(0:Int)]].map (bA k x)=[[x]]:=by
   unfold bA;simp[Oq h0 h1]
  rw[e]
 have all:∀l:List Int,(∀x∈l,0<=x/\x<k)->(grows k d ps (l.map λx=>[x]) m).length=l.length*(grows k d ps [[0]] m).length:=λl=>by
  induction l with
  |nil=>intro _;rw[List.map_nil,zdd];simp
  |cons x l ih=>
   intro h;rw[jo,show [x]::l.map (λx=>[x])=[[x]]++l.map (λx=>[x]) from rfl,zc6,pG,one x (h x Zaa).1 (h x Zaa).2,ih λy hy=>h y (by simp[hy]),gZ,Nat.succ_mul]
   lia
 rw[all _ λx hx=>by have:=bN.mp hx;lia]
 congr 1
 unfold dZ;simp
end
section
variable {n k d:Int}{ps:List (Int×Int)}
theorem Uw(w:Web n ps)(hk:1<=k):∀(m:Nat) r,r∈grows k d ps [[0]] m↔Pre k d ps (m+1) r/\at' r 0=0
 |0,r=>by
  show r∈[[0]]↔_;rw[rM]
  constructor
  ·rintro rfl;refine⟨⟨rfl,λx hx=>by rw[rM.mp hx];lia,λp hp hl=>?_⟩,rfl⟩;have:=w.tie p hp
   lia
  ·rintro⟨h,e⟩;have hl:=h.len
   match r,hl with
   |[x],_=>
    have:at' [x] 0=x:=rfl;rw[this] at e;rw[e]
 |m+1,r=>zhO w hk (λr=>at' r 0=0) (λr x h0 hl=>by rw[Ac gV gV]) gV (Uw w hk m) r
theorem zdL(w:Web n ps){h:List Int}:(gF n k d ps h/\at' h 0=0)↔Pre k d ps (n.toNat-1+1) h/\at' h 0=0:=by
 have h1:=w.h1
 constructor
 ·rintro⟨q,e⟩;exact⟨⟨by have:=q.len;lia,q.lo,λp hp _=>q.fit p hp⟩,e⟩
 ·rintro⟨q,e⟩;exact⟨⟨by have:=q.len;lia,q.lo,λp hp=>q.fit p hp (by have:=w.tie p hp;lia)⟩,e⟩
theorem zh1(w:Web n ps)(hd:1<=d)(hk:1<=k):0<(grows k d ps [[]] n.toNat).length↔∃h,gF n k d ps h:=by
 have h1:=w.h1;have e:=zb3 w hd hk (n.toNat-1);rw[show n.toNat-1+1=n.toNat by lia] at e;rw[e]
 constructor
 ·intro h;have:0<(grows k d ps [[0]] (n.toNat-1)).length:=Nat.pos_of_mul_pos_left h;obtain⟨r,hr⟩:=List.exists_mem_of_length_pos this;exact⟨r,((zdL w).mpr ((Uw w hk _ r).mp hr)).1⟩
 ·rintro⟨h,hh⟩;have hl:=hh.len;have ht:=zf1 (m:=-(at' h 0)) w hd hk hh;have e0:at' (bA k (-(at' h 0)) h) 0=0:=by
   unfold bA;rw[Kl gV gV,show at' h 0 + -(at' h 0)=0 by lia];exact Int.zero_emod k
  have:=(Uw w hk _ _).mpr ((zdL w).mp ⟨ht,e0⟩);exact Nat.mul_pos gV (Pn this)
end
def Le{Z ρ:Type}(a b:Z->Option ρ):Prop:=∀s r,a s=some r->b s=some r
theorem Le.refl{Z ρ:Type}{a:Z->Option ρ}:Le a a:=λ_ _ h=>h
section
variable {α β:Type}
theorem Le.bd{m1 m2:M α}{k1 k2:α->M β}(h:Le m1 m2)(k:∀a,Le (k1 a) (k2 a)):Le (M.bd m1 k1) (M.bd m2 k2):=λs r e=>by
 unfold M.bd at e ⊢;cases em:m1 s with
 |none=>rw[em] at e;cases e
 |some q=>
  rw[em] at e;rw[h s q em];obtain⟨q,s'⟩:=q;cases q with
  |ok a=>exact k a s' r e
  |er c f=>exact e
theorem Le.qt{m1 m2:M α}(h:Le m1 m2):Le (M.qt m1) (M.qt m2):=λs r e=>by
 unfold M.qt at e ⊢;cases em:m1 s with
 |none=>rw[em] at e;cases e
 |some q=>rw[em] at e;rw[h s q em];exact e
theorem Le.ite{Z ρ:Type}{c:Prop}[Decidable c]{a b a' b':Z->Option ρ}(h:Le a a')(k:Le b b'):Le (if c then a else b) (if c then a' else b'):=by
 by_cases z:c
 ·rw[if_pos z,if_pos z];exact h
 ·rw[if_neg z,if_neg z];exact k
theorem Le.walk{c:Src}{f1 f2:D->List D->M (List D)}(h:∀d acc,Le (f1 d acc) (f2 d acc)):∀(k i:Nat) (acc:List D),Le (walk c f1 k i acc) (walk c f2 k i acc)
 |0,_,_=>Le.refl
 |k+1,i,acc=>λs r e=>by
  unfold Mi.walk at e ⊢;split at e
  ·cases e
  ·exact e
  ·exact Le.bd (h _ _) (λacc'=>Le.walk h k (i+1) acc') s r e
theorem Kab{f1 f2:D->M Xv}(h:∀d,Le (f1 d) (f2 d)):∀{xs:List D} {ks:List Int},gB f1 xs=some ks->gB f2 xs=some ks
 |[],ks,e=>e
 |x::r,ks,e=>by
  unfold gB at e ⊢;split at e
  ·rename_i k ex;rw[h x _ _ ex];obtain⟨q,e1,e2⟩:=jO.mp e;dsimp only;rw[Kab h e1];exact lu some e2
  ·cases e
def RF(a b:List Xv->M Xv):Prop:=∀xs s r s1,a xs s=some (r,s1)->b xs s=some (r,s1)\/(s=[]/\∃d s2,r=.ok (.d d)/\b xs s=some (.ok (.d d),s2))
theorem Le.bU{F1 F2:List Xv->M Xv}{xs:List Xv}(h:RF F1 F2):Le (bU F1 xs) (bU F2 xs):=λs r e=>by
 unfold Mi.bU at e ⊢;by_cases hn:(locs xs).Nodup
 ·rw[if_pos hn] at e ⊢;cases es:iK s (locs xs) with
  |none=>rw[es] at e;cases e
  |some s0=>
   rw[es] at e;dsimp only at e ⊢;cases ef:F1 (dz 0 xs) s0 with
   |none=>rw[ef] at e;cases e
   |some q=>
    obtain⟨q,s1⟩:=q;rw[ef] at e;rcases h _ _ _ _ ef with z|⟨rfl,d,s2,rfl,z⟩
    ·rw[z];exact e
    ·rw[z];have hl:locs xs=[]:=by
      cases el:locs xs with
      |nil=>rfl
      |cons n l=>
       rw[el] at es;unfold iK at es;split at es<;>cases es
     rw[hl] at e ⊢;cases s1<;>cases s2<;>exact e
 ·rw[if_neg hn] at e;cases e
theorem Le.zN{F1 F2:List Xv->M Xv}{c:Nat}{xs:List Xv}(h:RF F1 F2):Le (zN F1 c xs) (zN F2 c xs):=λs r e=>by
 unfold Mi.zN at e ⊢;by_cases hn:locs xs=[]
 ·rw[if_pos hn] at e ⊢;split at e
  ·rename_i ds s1 ef;rcases h _ _ _ _ ef with z|⟨_,d,s2,e2,z⟩
   ·rw[z];exact e
   ·cases e2;rw[z];exact e
  ·cases e
 ·rw[if_neg hn] at e;cases e
theorem Le.ofM{m1 m2:M α}{J:Vs}{k1 k2:α->MS}(h:Le m1 m2)(k:∀a,Le (k1 a) (k2 a)):Le (ofM m1 J k1) (ofM m2 J k2):=λs r e=>by
 unfold Mi.ofM at e ⊢;cases em:m1 s with
 |none=>rw[em] at e;cases e
 |some q=>
  rw[em] at e;rw[h s q em];obtain⟨q,s'⟩:=q;cases q with
  |ok a=>exact k a s' r e
  |er c f=>exact e
theorem Le.bO{m1 m2:MS}{k1 k2:Vs->MS}(h:Le m1 m2)(k:∀a,Le (k1 a) (k2 a)):Le (bO m1 k1) (bO m2 k2):=λs r e=>by
 unfold Mi.bO at e ⊢;cases em:m1 s with
 |none=>rw[em] at e;cases e
 |some q=>
  rw[em] at e;rw[h s q em];obtain⟨q,s'⟩:=q;cases q with
  |nx J=>exact k J s' r e
  |_=>exact e
theorem Le.cJ{c1 c2:Vs->M Bool}{b1 b2:Vs->MS}(h:∀J,Le (c1 J) (c2 J))(k:∀J,Le (b1 J) (b2 J)):∀(n:Nat) (J:Vs),Le (cJ c1 b1 n J) (cJ c2 b2 n J)
 |0,_=>Le.refl
 |n+1,J=>by
  unfold Mi.cJ;refine Le.ofM (h J) λok=>Le.ite (λs r e=>?_) Le.refl
  try dsimp only at e ⊢
  cases em:b1 J s with
  |none=>rw[em] at e;cases e
  |some q=>
   rw[em] at e;rw[k J s q em];obtain⟨q,s'⟩:=q;cases q with
   |nx J'=>exact Le.cJ h k n J' s' r e
   |ct J'=>exact Le.cJ h k n J' s' r e
   |_=>exact e
theorem Le.cN{c:Src}{b1 b2:D->Vs->MS}(k:∀d J,Le (b1 d J) (b2 d J)):∀(n i:Nat) (J:Vs),Le (cN c b1 n i J) (cN c b2 n i J)
 |0,_,_=>Le.refl
 |n+1,i,J=>λs r e=>by
  unfold Mi.cN at e ⊢;split at e
  ·cases e
  ·exact e
  ·rename_i d ed;cases em:b1 d J s with
   |none=>rw[em] at e;cases e
   |some q=>
    rw[em] at e;rw[k d J s q em];obtain⟨q,s'⟩:=q;cases q with
    |nx J'=>exact Le.cN k n (i+1) J' s' r e
    |ct J'=>exact Le.cN k n (i+1) J' s' r e
    |_=>exact e
end
section
variable {aq:Nat->Nat->Bool}{aj:Bool}{F1 F2:Fn}(h:∀f,RF (F1 f) (F2 f))
include h
mutual
theorem cG:∀(e:E) (J:Vs),Le (ev aq aj F1 e J) (ev aq aj F2 e J)
 |.c d,J=>Le.refl
 |.v i,J=>Le.refl
 |.pr fz p xs,J=>by unfold ev;exact Le.bd (yJ xs J) λ_=>Le.refl
 |.xT p q a b c,J=>by
  unfold ev;exact Le.bd (cG a J) λ_=>Le.bd (cG b J) λ_=>Le.bd Le.refl λ_=>Le.bd Le.refl λ_=>Le.bd Le.refl λ_=>Le.ite (Le.bd (cG c J) λ_=>Le.refl) Le.refl
 |.Yi p q r a b c d,J=>by
  unfold ev;exact Le.bd (cG a J) λ_=>Le.bd (cG b J) λ_=>Le.bd Le.refl λ_=>Le.bd Le.refl λ_=>Le.bd Le.refl λ_=>Le.ite (Le.bd (cG c J) λ_=>Le.bd Le.refl λ_=>Le.bd Le.refl λ_=>Le.bd Le.refl λ_=>Le.ite (Le.bd (cG d J) λ_=>Le.refl) Le.refl) Le.refl
 |.and a b,J=>by unfold ev;exact Le.bd (cG a J) λ_=>Le.bd Le.refl λ_=>Le.ite (cG b J) Le.refl
 |.or a b,J=>by unfold ev;exact Le.bd (cG a J) λ_=>Le.bd Le.refl λ_=>Le.ite Le.refl (cG b J)
 |.not a,J=>by unfold ev;exact Le.bd (cG a J) λ_=>Le.refl
 |.ite c a b,J=>by unfold ev;exact Le.bd (cG c J) λ_=>Le.bd Le.refl λ_=>Le.ite (cG a J) (cG b J)
 |.tup xs,J=>by unfold ev;exact Le.bd (yJ xs J) λ_=>Le.refl
 |.lst fz xs,J=>by unfold ev;exact Le.bd (yJ xs J) λ_=>Le.refl
 |.B_ k i,J=>Le.refl
 |.call f xs,J=>by unfold ev;exact Le.bd (yJ xs J) λ_=>Le.bU (h f)
 |.mW a k,J=>by unfold ev;exact Le.bd (cG a J) λ_=>Le.refl
 |.sl fz a lo hi,J=>by unfold ev;exact Le.bd (cG a J) λ_=>Le.bd (ziK lo J) λ_=>Le.bd (ziK hi J) λ_=>Le.refl
 |.meth fz p k o xs,J=>by unfold ev;exact Le.bd (cG o J) λ_=>Le.bd Le.refl λ_=>Le.ite (Le.bd (yJ xs J) λ_=>Le.refl) Le.refl
 |.push o a,J=>by unfold ev;exact Le.bd (cG o J) λ_=>Le.bd Le.refl λ_=>Le.bd (cG a J) λ_=>Le.refl
 |.pop o,J=>by unfold ev;exact Le.bd (cG o J) λ_=>Le.refl
 |.comp fz elt tg it fr many cond,J=>by
  unfold ev;exact Le.ite (Le.bd (Ot it J) λ_=>Le.bd (Le.walk (λ_ _=>Le.bd Le.refl λJ'=>Le.bd (Le.qt (ziA cond J')) λ_=>Le.ite (Le.bd (Le.qt (cG elt J')) λ_=>Le.refl) Le.refl) _ _ _) λ_=>Le.refl) Le.refl
 |.iJ fz elt tg it RP BW fr many cond,J=>by
  unfold ev;exact Le.ite (Le.bd (Ot it J) λ_=>Le.bd (Le.walk (λ_ _=>Le.bd Le.refl λJ'=>Le.bd (Le.qt (Ot BW J')) λ_=>Le.walk (λ_ _=>Le.bd Le.refl λJl=>Le.bd (Le.qt (ziA cond Jl)) λ_=>Le.ite (Le.bd (Le.qt (cG elt Jl)) λ_=>Le.refl) Le.refl) _ _ _) _ _ _) λ_=>Le.refl) Le.refl
 |.fld o cs i,J=>by unfold ev;exact Le.bd (cG o J) λ_=>Le.refl
 |.of o c i,J=>by unfold ev;exact Le.bd (cG o J) λ_=>Le.refl
 |.mk c f xs,J=>by unfold ev;exact Le.bd (yJ xs J) λ_=>Le.zN (h f)
 |.cm c f o xs,J=>by unfold ev;exact Le.bd (cG o J) λ_=>Le.bd Le.refl λ_=>Le.bd (yJ xs J) λ_=>Le.qt (Le.bU (h f))
 |.oJ,J=>Le.refl
 |.sJ b k d,J=>by unfold ev;exact Le.bd (cG k J) λ_=>Le.bd (cG d J) λ_=>Le.refl
 |.jH d k,J=>by unfold ev;exact Le.bd (cG d J) λ_=>Le.bd (cG k J) λ_=>Le.refl
 |.Ca a,J=>by unfold ev;exact Le.bd (cG a J) λ_=>Le.refl
 |.oM fz a b,J=>by
  unfold ev;refine Le.ite (Le.bd (cG a J) λx=>?_) Le.refl
  split
  ·intro s r e;rename_i xs;cases ek:gB (λd=>ev aq aj F1 b [some (.d d)]) xs with
   |none=>rw[ek] at e;cases e
   |some ks=>
    rw[ek] at e;rw[Kab (λd=>cG b [some (.d d)]) ek];exact e
  ·exact Le.refl
 |.Yj a b,J=>by unfold ev;exact Le.bd (cG a J) λ_=>Le.bd Le.refl λ_=>Le.bd Le.refl λ_=>Le.ite Le.refl (cG b J)
 |.ins o i a,J=>by unfold ev;exact Le.bd (cG o J) λ_=>Le.bd Le.refl λ_=>Le.bd (cG i J) λ_=>Le.bd Le.refl λ_=>Le.bd (cG a J) λ_=>Le.refl
 |.no,J=>Le.refl
theorem Ot:∀(w:Wk) (J:Vs),Le (gK aq aj F1 w J) (gK aq aj F2 w J)
 |.seq e,J=>by unfold gK;exact Le.bd (cG e J) λ_=>Le.refl
 |.rg a b,J=>by unfold gK;exact Le.bd (cG a J) λ_=>Le.bd (cG b J) λ_=>Le.refl
 |.zip a b,J=>by unfold gK;exact Le.bd (cG a J) λ_=>Le.bd (cG b J) λ_=>Le.refl
 |.enum a,J=>by unfold gK;exact Le.bd (cG a J) λ_=>Le.refl
 |.Yk a,J=>by unfold gK;exact Le.bd (cG a J) λ_=>Le.refl
theorem ziK:∀(o:Eo) (J:Vs),Le (tV aq aj F1 o J) (tV aq aj F2 o J)
 |.no,J=>Le.refl
 |.yes a,J=>by unfold tV;exact Le.bd (cG a J) λ_=>Le.refl
theorem ziA:∀(o:Eo) (J:Vs),Le (mj aq aj F1 o J) (mj aq aj F2 o J)
 |.no,J=>Le.refl
 |.yes a,J=>by unfold mj;exact Le.bd (cG a J) λ_=>Le.refl
theorem yJ:∀(xs:Es) (J:Vs),Le (evs aq aj F1 xs J) (evs aq aj F2 xs J)
 |.nil,J=>Le.refl
 |.cons a r,J=>by unfold evs;exact Le.bd (cG a J) λ_=>Le.bd (yJ r J) λ_=>Le.refl
end
theorem zez(t:Tg)(x:Xv)(J:Vs):Le (store aq aj F1 t x J) (store aq aj F2 t x J):=by
 cases t with
 |nm i=>exact Le.refl
 |tp is=>exact Le.refl
 |aq o i=>exact Le.ofM (Le.bd Le.refl λ_=>Le.bd (cG h o J) λ_=>Le.bd (cG h i J) λ_=>Le.refl) λ_=>Le.refl
end
section
variable {aq:Nat->Nat->Bool}{F1 F2:Bool->Fn}(h:∀c f,RF (F1 c f) (F2 c f))
include h
mutual
theorem znx:∀(aj:Bool) (st:St) (J:Vs),Le (ex aq aj F1 st J) (ex aq aj F2 st J)
 |aj,.pass,J=>Le.refl
 |aj,.ex e,J=>by unfold ex;exact Le.ofM (cG (h aj) e J) λ_=>Le.refl
 |aj,.asg t e,J=>by unfold ex;exact Le.ofM (cG (h aj) e J) λx=>zez (h aj) t x J
 |aj,.par i j a b,J=>by unfold ex;exact Le.ite (Le.ofM (Le.bd (cG (h aj) a J) λ_=>Le.bd (cG (h aj) b J) λ_=>Le.refl) λ_=>Le.refl) Le.refl
 |aj,.aug i e,J=>by unfold ex;exact Le.ofM (Le.bd Le.refl λ_=>Le.bd (cG (h aj) e J) λ_=>Le.refl) λ_=>Le.refl
 |aj,.ret e,J=>by unfold ex;exact Le.ofM (cG (h aj) e J) λ_=>Le.refl
 |aj,.rise c kp xs,J=>by unfold ex;exact Le.ite (Le.ofM (Le.bd (yJ (h aj) xs J) λ_=>Le.refl) λ_=>Le.refl) Le.refl
 |aj,.iff c t e,J=>by unfold ex;exact Le.ofM (Le.bd (cG (h aj) c J) λ_=>Le.refl) λ_=>Le.ite (yK aj t J) (yK aj e J)
 |aj,.wh c b,J=>by unfold ex;exact Le.cJ (λJ=>Le.bd (cG (h aj) c J) λ_=>Le.refl) (λJ=>yK aj b J) _ J
 |aj,.fr t w b,J=>by unfold ex;exact Le.ite (Le.ofM (Ot (h aj) w J) λ_=>Le.cN (λd J=>Le.bO (zez (h aj) t (.d d) J) λJ'=>yK aj b J') _ _ J) Le.refl
 |aj,.Ja b d i hh,J=>by
  unfold ex;refine Le.ite (λs r e=>?_) Le.refl
  try dsimp only at e ⊢
  cases em:exs aq aj F1 b J s with
  |none=>rw[em] at e;cases e
  |some q=>
   rw[em] at e;rw[yK aj b J s q em];obtain⟨q,s'⟩:=q;cases q with
   |er c fs J'=>
    dsimp only at e ⊢;by_cases z:aq c d=true
    ·rw[if_pos z] at e ⊢;cases Ux:exs aq false F1 hh (J'.set i (some (.d (.exc c fs)))) s' with
     |none=>rw[Ux] at e;cases e
     |some q2=>rw[Ux] at e;rw[yK false hh _ s' q2 Ux];exact e
    ·rw[if_neg z] at e;cases e
   |_=>exact e
 |aj,.dput d k v,J=>by unfold ex;exact Le.ofM (Le.bd (cG (h aj) v J) λ_=>Le.bd Le.refl λ_=>Le.bd (cG (h aj) d J) λ_=>Le.bd (cG (h aj) k J) λ_=>Le.refl) λ_=>Le.refl
 |aj,.no,J=>Le.refl
theorem yK:∀(aj:Bool) (st:cB) (J:Vs),Le (exs aq aj F1 st J) (exs aq aj F2 st J)
 |aj,.nil,J=>Le.refl
 |aj,.cons a r,J=>by unfold exs;exact Le.bO (znx aj a J) λJ'=>yK aj r J'
end
end
noncomputable def mD(aq:Nat->Nat->Bool)(T:Nat->Option Df)(f0:Nat)(O:List Xv->Option D):Nat->Bool->Fn
 |0,_,_,_=>M.no
 |k+1,aj,f,xs=>if f=f0 then λs=>match s,aj,O xs with
   |[],true,some d=>some (.ok (.d d),[])
   |_,_,_=>none
  else match T f with
  |none=>M.no
  |some d=>if xs.length=d.dD then λs=>match exs aq aj (λc=>mD aq T f0 O k c) d.body (xs.map some++List.replicate (d.many-d.dD) none) s with
    |some (.nx _,s')=>some (.ok (.d .non),s')
    |some (.rt v,s')=>some (.ok v,s')
    |some (.er c fs _,s')=>some (.er c fs,s')
    |_=>none
   else M.no
theorem Uy{aq:Nat->Nat->Bool}{T:Nat->Option Df}{f0 m:Nat}{O:List Xv->Option D}(hO:∀k xs d,O xs=some d->W (call aq T (k+m) true f0 xs) [] λv _=>v=.d d):∀(k:Nat) (aj:Bool) (f:Nat),RF (mD aq T f0 O k aj f) (call aq T (k+m) aj f)
 |0,_,_=>λxs s r s1 e=>by cases e
 |k+1,aj,f=>λxs s r s1 e=>by
  unfold mD at e;by_cases z:f=f0
  ·rw[if_pos z] at e;subst z;split at e
   ·rename_i d hd;cases e;obtain⟨v,s2,ev,rfl⟩:=hO (k+1) xs d hd;exact .inr ⟨rfl,d,s2,rfl,ev⟩
   ·cases e
  ·rw[if_neg z] at e
   left
   rw[show k+1+m=(k+m)+1 by lia];unfold call;cases eT:T f with
   |none=>rw[eT] at e;cases e
   |some d=>
    rw[eT] at e;dsimp only at e ⊢;by_cases hl:xs.length=d.dD
    ·rw[if_pos hl] at e ⊢;cases em:exs aq aj (λc=>mD aq T f0 O k c) d.body (xs.map some++List.replicate (d.many-d.dD) none) s with
     |none=>rw[em] at e;cases e
     |some q=>
      rw[em] at e;rw[yK (λc f=>Uy hO k c f) aj d.body _ s q em];exact e
    ·rw[if_neg hl] at e;cases e
noncomputable def pC(aq:Nat->Nat->Bool)(T:Nat->Option Df)(p:Nat->Bool)(O:Nat->List Xv->Option D):Nat->Bool->Fn
 |0,_,_,_=>M.no
 |k+1,aj,f,xs=>if p f=true then λs=>match s,aj,O f xs with
   |[],true,some d=>some (.ok (.d d),[])
   |_,_,_=>none
  else match T f with
  |none=>M.no
  |some d=>if xs.length=d.dD then λs=>match exs aq aj (λc=>pC aq T p O k c) d.body (xs.map some++List.replicate (d.many-d.dD) none) s with
    |some (.nx _,s')=>some (.ok (.d .non),s')
    |some (.rt v,s')=>some (.ok v,s')
    |some (.er c fs _,s')=>some (.er c fs,s')
    |_=>none
   else M.no
theorem zeR{aq:Nat->Nat->Bool}{T:Nat->Option Df}{p:Nat->Bool}{m:Nat}{O:Nat->List Xv->Option D}(hO:∀k f xs d,p f=true->O f xs=some d->W (call aq T (k+m) true f xs) [] λv _=>v=.d d):∀(k:Nat) (aj:Bool) (f:Nat),RF (pC aq T p O k aj f) (call aq T (k+m) aj f)
 |0,_,_=>λxs s r s1 e=>by cases e
 |k+1,aj,f=>λxs s r s1 e=>by
  unfold pC at e;by_cases z:p f=true
  ·rw[if_pos z] at e;split at e
   ·rename_i d hd;cases e;obtain⟨v,s2,ev,rfl⟩:=hO (k+1) f xs d z hd;exact .inr ⟨rfl,d,s2,rfl,ev⟩
   ·cases e
  ·rw[if_neg z] at e
   left
   rw[show k+1+m=(k+m)+1 by lia];unfold call;cases eT:T f with
   |none=>rw[eT] at e;cases e
   |some d=>
    rw[eT] at e;dsimp only at e ⊢;by_cases hl:xs.length=d.dD
    ·rw[if_pos hl] at e ⊢;cases em:exs aq aj (λc=>pC aq T p O k c) d.body (xs.map some++List.replicate (d.many-d.dD) none) s with
     |none=>rw[em] at e;cases e
     |some q=>
      rw[em] at e;rw[yK (λc f=>zeR hO k c f) aj d.body _ s q em];exact e
    ·rw[if_neg hl] at e;cases e
section
variable {n k d k2 d2:Int}{ps:List (Int×Int)}{hs:List Int}
noncomputable def Uz:List (Int×Int):=[(1,1),(2,1),(7,3),(5,2),(8,3),(3,1),(7,2),(4,1),(5,1),(6,1),(7,1),(8,1)]
noncomputable def jC(n:Int):List (Int×Int):=Uz.filter λr=>decide (r.1<=n)
theorem UG{n:Int}{r:Int×Int}(h:r∈jC n):1<=r.2/\r.2<=r.1/\r.1<=n/\r.1<=8:=by
 obtain⟨a,b⟩:=lK.mp h;have key:∀r∈Uz,1<=r.2/\r.2<=r.1/\r.1<=8:=by decide
 have:=key r a;have:=jP b;omega
theorem zg9(h1:1<=n)(h8:n<=8):(n,1)∈jC n:=by
 have:n=1\/n=2\/n=3\/n=4\/n=5\/n=6\/n=7\/n=8:=by omega
 rcases this with rfl|rfl|rfl|rfl|rfl|rfl|rfl|rfl<;>decide
def KY(n:Int)(ps:List (Int×Int))(r:Int×Int):Prop:=∃i:Nat,(jC n)[i]?=some r/\(∃hs,gF n r.1 r.2 ps hs)/\∀(j:Nat) q,j<i->(jC n)[j]?=some q->∀hs,¬gF n q.1 q.2 ps hs
theorem KY.uniq{r q:Int×Int}(a:KY n ps r)(b:KY n ps q):r=q:=by
 obtain⟨i,e1,⟨h1,Uh⟩,n1⟩:=a;obtain⟨j,e2,⟨h2,hh2⟩,n2⟩:=b;rcases Nat.lt_trichotomy i j with z|z|z
 ·exact absurd Uh (n2 i r z e1 h1)
 ·subst z;rw[e1] at e2;exact cP e2
 ·exact absurd hh2 (n1 j q z e2 h2)
end
end Mi
namespace Mi
open PySem PySem.Spec PyProof.Rows L2 PySem.W
section
variable {X:Cx}{cA:Cl}{o e f:Expr}{apos cpos:Pos}{td ty tx:TE}
noncomputable def UJ(K:W.Frag)(cA:Cl)(td ty tx:TE):TE:=λZ H Q=>td Z H λx H1=>∃a U kvs xs,x=.ref a/\H1 a=some (sX a xs)/\iV K cA U H1 kvs xs/\ty Z H1 λy H2=>tx Z H2 λz H3=>∃U kvs xs k,H3 a=some (sX a xs)/\iV K cA U H3 kvs xs/\Rep K cA U H3 (iM k) y /\
 (∀d v,bL k kvs=some d->Rep K cA U H3 d v->Q v H3)/\(bL k kvs=none->Q z H3)
theorem zma(hu:X.A.units+5<cLine)(ho:PE X o td)(he:PE X e ty)(hf:PE X f tx)(m:M2 X o "get" apos e f cpos):PE X (.Call (.Attribute o "get" apos) [e,f] [] cpos) (UJ X.K cA td ty tx):=by
 intro ao s Z H Q I h;refine wpAny_Call_method m.base m.few m.line PySem.F.plainAttrs_dict PySem.F.slot_dict_get PySem.F.type_dict_get (aQ (ho ao s Z H _ I h) λu s1 ⟨x,H1,I1,rx,a,U,kvs,xs,ex,ea,rr,q1⟩=>?_);subst ex;obtain rfl:u=Value.ref a:=rx;obtain⟨_,_,dd⟩:=Ga I1 ea rr;refine⟨dd.typeIs,λb q=>?_,?_⟩
 ·cases q;obtain⟨ob,_,_,h1,h2,_⟩:=dd;exact⟨ob,h1,h2.2.1⟩
 rw[m.trees];refine Pj rfl (Calls.evalArgs_plain (Ln (aQ (he ao s1 Z H1 _ I1 q1) λiv s2 hx=>eG hx λy H2 I2 ry q2=>
  Ln (aQ (hf ao s2 Z H2 _ I2 q2) λfv s3 ⟨z,H3,I3,rz,U3,aae,xs3,k,ea3,rr3,rk,qs,qn⟩=>Calls.spliced_nil ?_))))
 obtain⟨b,rfl⟩:=J8 (d:=.non) rk;obtain rfl:iv=Value.ref b:=ry;obtain⟨z1,z2,dd3⟩:=Ga I3 ea3 rr3;refine call_meetsIn PySem.F.slot_dict_get dd3.typeIs PySem.F.entry_dict_get (PySem.F.args_dict_get_3 _ _ _) (meetsH_dict_get_default (gM X.prog X.w) a b z1 fv) ⟨(show X.A.units+1+4<cLine by lia),k,xs3,qy I3 rk rfl,dd3,?_⟩;rcases rr3.at (k:=k) with ⟨z0,hp⟩|⟨d',p,v,z0,hp,rv,rd⟩
 ·rw[hp];exact⟨z,H3,I3.tok _,rz,qn z0⟩
 ·rw[hp];exact⟨v,H3,I3.tok _,rv,qs d' v z0 rd⟩
end
section
variable {X:Cx}{cA:Cl}{aq:Nat->Nat->Bool}{aj:Bool}{F:Fn}{EX:XS}{a b f:Expr}{apos pos:Pos}{i j:Nat}{d0:D}
theorem ziJ(x:Xv)(s:S):cC x s=none\/∃nk,cC x s=some (.ok nk,s):=by
 unfold cC
 split
 ·split
  ·exact .inr ⟨_,rfl⟩
  ·exact .inl rfl
 ·exact .inl rfl
theorem zit(x:Xv):key x=M.no\/∃kx,key x=M.ret kx:=by
 cases x with
 |l _=>exact .inl rfl
 |d v=>
  show M.opt (kOf v)=M.no\/∃kx,M.opt (kOf v)=M.ret kx;cases kOf v with
  |none=>exact .inl rfl
  |some kx=>exact .inr ⟨kx,rfl⟩
theorem zkJ{J:Vs}:ev aq aj F (.ite (.sJ true (.v j) (.v i)) (.jH (.v i) (.v j)) (.c d0)) J=M.bd (ev aq aj F (.v i) J) λx=>M.bd (cC x) λ_=>M.bd (ev aq aj F (.v j) J) λy=>M.bd (ev aq aj F (.c d0) J) λz=>M.bd (key y) λkx=>M.bd (cC x) λnk=>M.ret ((bL kx nk.2).elim z .d):=by
 funext s
 show M.bd (M.bd (M.opt (J[j]?.join)) λx=>M.bd (M.opt (J[i]?.join)) λy=>M.bd (key x) λkx=>M.bd (cC y) λnk=>M.ret (Xv.d (.bl ((bL kx nk.2).isSome==true)))) (λx=>M.bd (bool x) λk=>if k=true then M.bd (M.opt (J[i]?.join)) λy=>M.bd (M.opt (J[j]?.join)) λx=>M.bd (key x) λkx=>M.bd (cC y) λnk=>M.opt ((bL kx nk.2).map Xv.d) else M.ret (Xv.d d0)) s=M.bd (M.opt (J[i]?.join)) (λx=>M.bd (cC x) λ_=>M.bd (M.opt (J[j]?.join)) λy=>M.bd (M.ret (Xv.d d0)) λz=>M.bd (key y) λkx=>M.bd (cC x) λnk=>M.ret ((bL kx nk.2).elim z Xv.d)) s;cases J[i]?.join with
 |none=>cases J[j]?.join<;>rfl
 |some x=>
  cases J[j]?.join with
  |none=>
   rcases ziJ x s with e|⟨nk,e⟩<;>simp only[M.bd,M.opt,M.ret,M.no,e]
  |some y=>
   rcases ziJ x s with e|⟨nk,e⟩
   ·rcases zit y with e2|⟨kx,e2⟩<;>simp only[M.bd,M.opt,M.ret,M.no,e,e2]
   ·rcases zit y with e2|⟨kx,e2⟩
    ·simp only[M.bd,M.opt,M.ret,M.no,e,e2]
    ·cases g:bL kx nk.2 with
     |none=>simp[M.bd,M.opt,M.ret,M.no,e,e2,g,bool]
     |some d=>simp[M.bd,M.opt,M.ret,M.no,e,e2,g,bool]
theorem znF{k:Nat}(hr:bx k X.A)(ha:JE X cA aq aj F EX a (.v i))(hb:JE X cA aq aj F EX b (.v j))(hf:JE X cA aq aj F EX f (.c d0))(cQ:attributeBase a "get" X.env (eval a X.env)=eval a X.env:=by rfl)(cR:(apos.endLine==pos.line)=true:=by rfl)(hs:aC b=true:=by rfl)(uF:aC f=true:=by rfl) :
  JE X cA aq aj F EX (.Call (.Attribute a "get" apos) [b,f] [] pos) (.ite (.sJ true (.v j) (.v i)) (.jH (.v i) (.v j)) (.c d0)):=by
 have h2:[f].all aC=true:=by rw[yW,uF];rfl
 refine⟨PE.weak (zma (cA:=cA) (by have:=hr.un;lia) ha.o hb.o hf.o ⟨cQ,m_ hs h2 rfl,cR,?_⟩) λZ H Q hh=>un hh λU J s hL hS h=>?_⟩
 ·rw[bf hs,bf uF];rfl
 ·rw[zkJ] at h;refine aX hL hS h λx H1 U1 d1 s1 x1 hL1 aG r1 h1=>?_;obtain⟨n,ad,kvs,xs,rfl,rfl,e1,e2,e3,rr,h2⟩:=J9 aG r1 h1;refine⟨ad,U1,kvs,xs,rfl,e3,rr,aX hL1 aG h2 λy H2 U2 d2 s2 x2 hL2 aM r2 h3=>aX hL2 aM h3 λz H3 U3 d3 s3 x3 nQ fV r3 h4=>?_⟩;obtain⟨kx,rk,h5⟩:=N5 (r2.mono x3 aM.lz) h4;obtain⟨n',ad',kvs',xs',en,ea,f1,f2,f3,rr',h6⟩:=J9 fV ((r1.mono x2 aG.lz).mono x3 aM.lz) h5;cases en;cases ea;refine⟨U3,kvs',xs',kx,f3,rr',rk,λd v g rv=>?_,λg=>?_⟩
  ·dsimp only at h6;rw[g] at h6;exact h6.bC fV v (.d rv)
  ·dsimp only at h6;rw[g] at h6;exact h6.bC fV z r3
end
end Mi
namespace eF
open PySem Mi
noncomputable def b0:cB:=(.cons (.ret (.and (.mW (.v 0) .int) (.not (.mW (.v 0) .bool)))) .nil)
noncomputable def b1:cB:=(.cons (.ret (.and (.call 0 (Ea (.v 0))) (.xT .le .le (.v 1) (.v 0) (.v 2)))) .nil)
noncomputable def b2:cB:=(.cons (.ret (.and (.mW (.v 0) .tuple) (.pr true .eq (Eb (.pr true .len (Ea (.v 0))) (.v 1))))) .nil)
noncomputable def b3:cB:=(.cons (.iff (.not (.call 2 (Eb (.v 0) (Ci 2)))) (.cons (.ret (.c (.bl false))) .nil) .nil) (.cons (.asg (.tp [1,2]) (.v 0)) (.cons (.iff (.or (.not (.call 4 (Ea (.v 1)))) (.not (.mW (.v 2) .tuple))) (.cons (.ret (.c (.bl false))) .nil) .nil) (.cons (.iff (.not (.pr true .all (Ea (.comp true (.call 6 (Eb (.v 1) (.v 0))) [0] (.seq (.v 2)) [1] 1 .no)))) (.cons (.ret (.c (.bl false))) .nil) .nil) (.cons (.ret (.pr true .all (Ea (.comp true (.pr true .lt (Eb (.v 0) (.v 1))) [0,1] (.zip (.v 2) (.sl true (.v 2) (.yes (Ci 1)) .no)) [] 2 .no)))) .nil)))))
noncomputable def b4:cB:=(.cons (.ret (.call 1 (Ec (.v 0) (Ci 1) (Ci 8)))) .nil)
noncomputable def b5:cB:=(.cons (.ret (.call 1 (Ec (.v 1) (Ci 0) (.pr true .aq (Eb (.v 0) (Ci 1)))))) .nil)
noncomputable def b6:cB:=(.cons (.iff (.not (.call 2 (Eb (.v 1) (Ci 2)))) (.cons (.ret (.c (.bl false))) .nil) .nil) (.cons (.asg (.tp [2,3]) (.v 1)) (.cons (.ret (.and (.call 5 (Eb (.v 0) (.v 2))) (.and (.call 5 (Eb (.v 0) (.v 3))) (.pr true .lt (Eb (.v 2) (.v 3)))))) .nil)))
noncomputable def b7:cB:=(.cons (.iff (.not (.call 3 (Ea (.v 0)))) (.cons .no .nil) .nil) .nil)
noncomputable def b8:cB:=(.cons (.ret (.iJ true (.tup (Eb (.v 0) (.v 1))) [0] (.rg (Ci 0) (.v 0)) [1] (.rg (.pr true .add (Eb (.v 0) (Ci 1))) (.v 2)) [0] 2 .no)) .nil)
noncomputable def b9:cB:=(.cons (.asg (.nm 2) (.comp true (.ite (.pr true .eq (Eb (.v 0) (.v 2))) (.v 1) (.v 0)) [0,1] (.seq (Ei (.v 0) (Ci 1))) [1] 2 (.yes (.pr true .inn (Eb (.v 2) (.tup (Eb (.v 0) (.v 1)))))))) (.cons (.ret (.pr true .tuple (Ea (.pr true .sorted (Ea (.v 2)))))) .nil))
noncomputable def b10:cB:=(.cons (.ret (.comp true (.call 9 (Eb (.v 1) (.v 0))) [0] (.rg (Ci 0) (Ei (.v 0) (Ci 0))) [0] 1 .no)) .nil)
noncomputable def UL:cB:=(.cons (.ret (.tup (.cons (.call 10 (Ea (.v 1))) (Ec (.pr true .Fg (Ea (.pr true .len (Ea (.v 2))))) (.v 2) (.v 3))))) .nil)
noncomputable def UW:cB:=(.cons (.ret (Ei (Ei (.of (.v 0) 0 2) (.v 1)) (.v 2))) .nil)
noncomputable def U6:cB:=(.cons (.asg (.nm 4) (.pr false .list (Ea (.v 1)))) (.cons (.asg (.aq (.v 4) (.v 2)) (.c .non)) (.cons (.fr (.nm 5) (.seq (Ei (.of (.v 0) 0 0) (.v 2))) (.cons (.iff (.pr true .sG (Ea (Ei (.v 4) (.v 5)))) (.cons (.asg (.aq (.v 4) (.v 5)) (.pr true .tuple (Ea (.comp true (.v 0) [0] (.seq (Ei (.v 4) (.v 5))) [0,3] 1 (.yes (.cm 0 12 (.v 1) (Eb (.v 2) (.v 0)))))))) .nil) .nil) .nil)) (.cons (.ret (.pr true .tuple (Ea (.v 4)))) .nil))))
noncomputable def U7:cB:=(.cons (.ret (.pr true .len (Ea (.comp true (.v 0) [0] (.seq (Ei (.of (.v 0) 0 0) (.v 2))) [1] 1 (.yes (.pr true .sG (Ea (Ei (.v 1) (.v 0))))))))) .nil)
noncomputable def U8:cB:=(.cons (.ret (.pr true .tuple (Ea (.comp true (.ite (.pr true .gt (Eb (.cm 0 14 (.v 2) (Eb (.v 3) (.v 0))) (Ci 0))) (.v 1) (.c .non)) [0,1] (.enum (.v 1)) [0,1] 2 .no)))) .nil)
noncomputable def U9:cB:=(.cons (.asg (.nm 2) (.lst false .nil)) (.cons (.fr (.tp [3,4]) (.enum (.v 1)) (.cons (.iff (.pr true .sG (Ea (.v 4))) (.cons (.ex (.push (.v 2) (.tup (Ec (.pr true .len (Ea (.v 4))) (.pr true .neg (Ea (.cm 0 14 (.v 0) (Eb (.v 1) (.v 3))))) (.v 3))))) .nil) .nil) .nil)) (.cons (.ret (.ite (.Ca (.v 2)) (Ei (.pr true .sH (Ea (.v 2))) (Ci 2)) (.c .non))) .nil)))
noncomputable def U_:cB:=(.cons (.ret (.pr true .all (Ea (.comp true (.or (.pr true .xQ (Ea (.v 0))) (.pr true .eq (Eb (.v 0) (.of (.v 1) 0 1)))) [0] (.seq (.v 1)) [0] 1 .no)))) .nil)
noncomputable def Va:cB:=(.cons (.asg (.tp [2,3]) (.v 1)) (.cons (.asg (.nm 4) (.comp true (.pr true .ge (Eb (.pr true .min2 (Eb (.v 0) (.pr true .aq (Eb (.v 1) (.v 0))))) (.v 2))) [0] (.rg (Ci 0) (.v 2)) [2,3] 1 .no)) (.cons (.ret (.mk 0 11 (Ec (.v 0) (.comp true (.comp true (Ei (.v 1) (.pr true .aq (Eb (.v 2) (.v 0)))) [0] (.rg (Ci 0) (.v 1)) [2,0] 1 .no) [0] (.rg (Ci 0) (.v 2)) [2,4] 1 .no) (.c (.bl true))))) .nil)))
noncomputable def Vb:cB:=(.cons (.iff (.not (.call 2 (Eb (.v 0) (Ci 2)))) (.cons (.ret (.c (.bl false))) .nil) .nil) (.cons (.asg (.tp [1,2]) (.v 0)) (.cons (.ret (.and (.call 1 (Ec (.v 1) (Ci 1) (Ci 24))) (.call 1 (Ec (.v 2) (Ci 1) (.v 1))))) .nil)))
noncomputable def Vc:cB:=(.cons (.iff (.not (.call 19 (Ea (.v 0)))) (.cons .no .nil) .nil) .nil)
noncomputable def b21:cB:=(.cons (.par 2 3 (.v 0) (.v 1)) (.cons (.wh (.pr true .gt (Eb (.v 3) (Ci 0))) (.cons (.par 2 3 (.v 3) (.pr true .mod (Eb (.v 2) (.v 3)))) .nil)) (.cons (.ret (.tup (Eb (.pr true .fdiv (Eb (.v 0) (.v 2))) (.pr true .fdiv (Eb (.v 1) (.v 2)))))) .nil)))
noncomputable def Vd:cB:=(.cons (.ex (.call 7 (Ea (.v 0)))) (.cons (.ex (.call 20 (Ea (.v 1)))) (.cons (.asg (.nm 2) (.call 18 (Eb (.v 0) (.v 1)))) (.cons (.ret (.call 23 (Eb (.v 2) (.comp true (.of (.v 1) 0 1) [0] (.rg (Ci 0) (Ei (.v 0) (Ci 0))) [2] 1 .no)))) .nil))))
noncomputable def Ve:cB:=(.cons (.asg (.nm 2) (.pr true .tuple (Ea (.v 1)))) (.cons (.asg (.nm 3) .oJ) (.cons (.iff (.not (.call 25 (Ec (.v 0) (.v 3) (.v 2)))) (.cons (.ret (.c .non)) .nil) .nil) (.cons (.asg (.nm 4) (.lst false .nil)) (.cons (.fr (.nm 5) (.rg (Ci 0) (.pr true .len (Ea (.v 1)))) (.cons (.asg (.nm 6) (.call 24 (.cons (.v 0) (Ec (.v 3) (.v 2) (.v 5))))) (.cons (.asg (.nm 2) (.cm 0 13 (.v 0) (Ec (.v 2) (.v 5) (.v 6)))) (.cons (.ex (.push (.v 4) (.v 6))) .nil)))) (.cons (.ret (.pr true .tuple (Ea (.v 4)))) .nil))))))
noncomputable def Ou:cB:=(.cons (.fr (.nm 4) (.seq (Ei (.v 2) (.v 3))) (.cons (.iff (.call 25 (Ec (.v 0) (.v 1) (.cm 0 13 (.v 0) (Ec (.v 2) (.v 3) (.v 4))))) (.cons (.ret (.v 4)) .nil) .nil) .nil)) (.cons (.ret (.c .non)) .nil))
noncomputable def Vf:cB:=(.cons (.iff (.pr true .inn (Eb (.tup .nil) (.v 2))) (.cons (.ret (.c (.bl false))) .nil) .nil) (.cons (.asg (.nm 3) (.cm 0 15 (.v 0) (Ea (.v 2)))) (.cons (.iff (.sJ false (.v 3) (.v 1)) (.cons (.dput (.v 1) (.v 3) (.call 26 (Ec (.v 0) (.v 1) (.v 3)))) .nil) .nil) (.cons (.ret (.jH (.v 1) (.v 3))) .nil))))
noncomputable def KZ:cB:=(.cons (.asg (.nm 3) (.cm 0 16 (.v 0) (Ea (.v 2)))) (.cons (.iff (.pr true .xQ (Ea (.v 3))) (.cons (.ret (.c (.bl true))) .nil) .nil) (.cons (.iff (.and (.of (.v 0) 0 3) (.cm 0 17 (.v 0) (Ea (.v 2)))) (.cons (.ret (.call 25 (Ec (.v 0) (.v 1) (.cm 0 13 (.v 0) (Ec (.v 2) (.v 3) (Ci 0)))))) .nil) .nil) (.cons (.ret (.pr true .sG (Ea (.call 24 (.cons (.v 0) (Ec (.v 1) (.v 2) (.v 3))))))) .nil))))
noncomputable def b27:cB:=(.cons (.asg (.nm 1) (.pr true .min2 (Eb (.v 0) (Ci 24)))) (.cons (.asg (.nm 2) (.iJ true (.tup (Eb (.v 0) (.v 1))) [0] (.rg (Ci 1) (.pr true .add (Eb (.v 1) (Ci 1)))) [1] (.rg (Ci 1) (.pr true .add (Eb (.v 0) (Ci 1)))) [] 2 (.yes (.call 30 (Eb (.v 0) (.v 1)))))) (.cons (.ret (.oM true (.v 2) (.pr true .fdiv (Eb (.pr true .mul (Eb (Ei (.v 0) (Ci 0)) (Ci 27720))) (Ei (.v 0) (Ci 1)))))) .nil)))
noncomputable def Vg:cB:=(.cons (.ret (.pr true .sG (Ea (.call 22 (Eb (.v 0) (.v 1)))))) .nil)
noncomputable def Vh:cB:=(.cons (.ex (.call 7 (Ea (.v 0)))) (.cons (.asg (.nm 1) (.call 27 (Ea (Ei (.v 0) (Ci 0))))) (.cons (.asg (.nm 2) (Ci 0)) (.cons (.wh (.not (.call 28 (Eb (.v 0) (Ei (.v 1) (.v 2))))) (.cons (.aug 2 (Ci 1)) .nil)) (.cons (.ret (Ei (.v 1) (.v 2))) .nil)))))
noncomputable def b30:cB:=(.cons (.ret (.and (.pr true .eq (Eb (.call 21 (Eb (.v 0) (.v 1))) (.tup (Eb (.v 0) (.v 1))))) (.or (.pr true .eq (Eb (.v 0) (Ci 1))) (.pr true .ge (Eb (.v 0) (.pr true .mul (Eb (Ci 2) (.v 1)))))))) .nil)
noncomputable def b31:cB:=(.cons (.asg (.nm 1) .oJ) (.cons (.fr (.nm 2) (.seq (.call 32 (Ea (.v 0)))) (.cons (.asg (.nm 3) (.call 29 (Ea (.v 2)))) (.cons (.dput (.v 1) (.v 3) (.pr true .add (Eb (.ite (.sJ true (.v 3) (.v 1)) (.jH (.v 1) (.v 3)) (Ci 0)) (Ci 1)))) .nil))) (.cons (.ret (.comp false (.tup (Eb (.v 0) (.jH (.v 1) (.v 0)))) [0] (.seq (.call 27 (Ea (.v 0)))) [1] 1 (.yes (.sJ true (.v 0) (.v 1))))) .nil)))
noncomputable def b32:cB:=(.cons (.asg (.nm 1) (.ite (.call 4 (Ea (.v 0))) (.lst true (Ea (.tup .nil))) (.lst true .nil))) (.cons (.fr (.nm 2) (.seq (.call 8 (Ea (.v 0)))) (.cons (.asg (.nm 1) (.pr true .add (Eb (.v 1) (.comp true (.pr true .add (Eb (.v 0) (.tup (Ea (.v 1))))) [0] (.seq (.v 1)) [2] 1 .no)))) .nil)) (.cons (.ret (.comp true (.tup (Eb (.v 1) (.v 0))) [0] (.seq (.v 1)) [0] 1 .no)) .nil)))
noncomputable def Vi:cB:=(.cons (.iff (.pr true .lt (Eb (.v 1) (.pr true .len (Ea (.v 0))))) (.cons (.ret (Ei (.v 0) (.v 1))) .nil) .nil) (.cons (.ret (Ci 0)) .nil))
noncomputable def Vj:cB:=(.cons (.asg (.nm 1) (.pr true .max2 (Eb (.v 0) (.pr true .aq (Eb (Ci 0) (.v 0)))))) (.cons (.ret (.lst false (Eb (.v 1) (.pr true .xR (Ea (.pr true .ge (Eb (.v 1) (.pr true .pow (Eb (Ci 10) (Ci 18)))))))))) .nil))
noncomputable def Vk:cB:=(.cons (.iff (.pr true .eq (Eb (Ei (.v 0) (Ci 1)) (Ci 1))) (.cons (.asg (.tp [2,3]) (.pr true .divmod (Eb (Ei (.v 0) (Ci 0)) (.v 1)))) (.cons (.asg (.aq (.v 0) (Ci 0)) (.v 2)) (.cons (.ret (.v 3)) .nil))) .nil) (.cons (.asg (.nm 4) (.pr true .mod (Eb (.pr true .mul (Eb (.pr true .add (Eb (.pr true .mod (Eb (Ei (.v 0) (Ci 0)) (Ci 2147483647))) (Ci 40503))) (Ci 69621))) (Ci 2147483629)))) (.cons (.asg (.nm 4) (.pr true .mod (Eb (.pr true .add (Eb (.pr true .mul (Eb (.v 4) (.v 4))) (Ci 7817))) (Ci 2147483587)))) (.cons (.asg (.aq (.v 0) (Ci 0)) (.pr true .mod (Eb (.pr true .add (Eb (.pr true .mul (Eb (.v 4) (Ci 48271))) (Ci 11))) (Ci 2147483629)))) (.cons (.ret (.pr true .mod (Eb (.pr true .fdiv (Eb (Ei (.v 0) (Ci 0)) (Ci 32))) (.v 1)))) .nil)))))
noncomputable def b36:cB:=(.cons (.ret (.and (.mW (.v 0) .int) (.not (.mW (.v 0) .bool)))) .nil)
noncomputable def b37:cB:=(.cons (.asg (.nm 3) (.pr true .abs (Ea (.pr true .aq (Eb (.v 1) (.v 2)))))) (.cons (.ret (.pr true .min2 (Eb (.v 3) (.pr true .aq (Eb (.v 0) (.v 3)))))) .nil))
noncomputable def b38:cB:=(.cons (.iff (.and (.pr true .ne (Eb (Ei (.v 0) (Ci 1)) (.tup .nil))) (.pr true .lt (Eb (Ei (.v 1) (Ci 0)) (.pr true .mul (Eb (Ci 2) (Ei (.v 1) (Ci 1))))))) (.cons (.ret (.c .non)) .nil) .nil) (.cons (.asg (.nm 2) (.lst true .nil)) (.cons (.fr (.tp [3,4]) (.seq (Ei (.v 0) (Ci 1))) (.cons (.asg (.nm 5) (.comp true (.v 0) [0] (.rg (Ci 0) (Ei (.v 0) (Ci 0))) [3,0,4] 1 (.yes (.and (.pr true .inn (Eb (.tup (Eb (.v 1) (.v 0))) (Ei (.v 2) (Ci 1)))) (.pr true .inn (Eb (.tup (Eb (.v 3) (.v 0))) (Ei (.v 2) (Ci 1)))))))) (.cons (.asg (.nm 2) (.pr true .add (Eb (.v 2) (.v 5)))) .nil))) (.cons (.iff (.and (.pr true .ne (Eb (.v 2) (.lst true .nil))) (.pr true .lt (Eb (Ei (.v 1) (Ci 0)) (.pr true .mul (Eb (Ci 3) (Ei (.v 1) (Ci 1))))))) (.cons (.ret (.c .non)) .nil) .nil) (.cons (.asg (.nm 6) (.comp true (.v 0) [0] (.rg (Ci 0) (Ei (.v 0) (Ci 0))) [0] 1 (.yes (.pr true .eq (Eb (.comp true (.v 0) [0] (.seq (Ei (.v 1) (Ci 1))) [0] 1 (.yes (.pr true .inn (Eb (.v 1) (.v 0))))) (.lst true .nil)))))) (.cons (.asg (.nm 7) (.lst false (Ea (Ci 0)))) (.cons (.wh (.pr true .eq (Eb (Ei (.v 7) (Ci 0)) (Ci 0))) (.cons (.iff (.or (.pr true .eq (Eb (Ei (.v 7) (.pr true .neg (Ea (Ci 1)))) (Ei (.v 1) (Ci 0)))) (.and (.pr true .gt (Eb (Ei (.v 7) (.pr true .neg (Ea (Ci 1)))) (Ci 0))) (.pr true .inn (Eb (.pr true .aq (Eb (.pr true .len (Ea (.v 7))) (Ci 1))) (.v 6))))) (.cons (.ex (.pop (.v 7))) (.cons (.iff (.pr true .eq (Eb (.v 7) (.lst true .nil))) (.cons (.ret (.c .non)) .nil) .nil) (.cons (.asg (.aq (.v 7) (.pr true .neg (Ea (Ci 1)))) (.pr true .add (Eb (Ei (.v 7) (.pr true .neg (Ea (Ci 1)))) (Ci 1)))) .nil))) (.cons (.asg (.nm 8) (.comp true (.v 0) [0] (.seq (Ei (.v 0) (Ci 1))) [7] 1 (.yes (.pr true .eq (Eb (Ei (.v 0) (Ci 1)) (.pr true .aq (Eb (.pr true .len (Ea (.v 1))) (Ci 1)))))))) (.cons (.asg (.nm 9) (.comp true (.v 0) [0] (.seq (.v 8)) [1,7] 1 (.yes (.pr true .lt (Eb (.call 37 (Ec (Ei (.v 1) (Ci 0)) (Ei (.v 2) (Ei (.v 0) (Ci 0))) (Ei (.v 2) (.pr true .neg (Ea (Ci 1)))))) (Ei (.v 1) (Ci 1))))))) (.cons (.iff (.pr true .ne (Eb (.v 9) (.lst true .nil))) (.cons (.asg (.aq (.v 7) (.pr true .neg (Ea (Ci 1)))) (.pr true .add (Eb (Ei (.v 7) (.pr true .neg (Ea (Ci 1)))) (Ci 1)))) .nil) (.cons (.iff (.pr true .eq (Eb (.pr true .len (Ea (.v 7))) (Ei (.v 0) (Ci 0)))) (.cons (.ret (.pr true .tuple (Ea (.v 7)))) .nil) (.cons (.ex (.push (.v 7) (Ci 0))) .nil)) .nil)) .nil)))) .nil)) (.cons (.ret (.c .non)) .nil))))))))
noncomputable def b39:cB:=(.cons (.asg (.nm 1) (.lst false (Ea (.tup (Eb (Ci 60) (.tup (Eb (Ci 1) (Ci 1)))))))) (.cons (.fr (.nm 2) (.rg (Ci 1) (.pr true .add (Eb (.pr true .fdiv (Eb (.v 0) (Ci 2))) (Ci 1)))) (.cons (.fr (.nm 3) (.rg (.pr true .mul (Eb (Ci 2) (.v 2))) (.pr true .add (Eb (.v 0) (Ci 1)))) (.cons (.iff (.pr true .eq (Eb (.comp true (.v 0) [0] (.seq (.tup (Ec (Ci 2) (Ci 3) (Ci 5)))) [3,2] 1 (.yes (.and (.pr true .eq (Eb (.pr true .mod (Eb (.v 1) (.v 0))) (Ci 0))) (.pr true .eq (Eb (.pr true .mod (Eb (.v 2) (.v 0))) (Ci 0)))))) (.lst true .nil))) (.cons (.ex (.push (.v 1) (.tup (Eb (.pr true .fdiv (Eb (.pr true .mul (Eb (Ci 60) (.v 3))) (.v 2))) (.tup (Eb (.v 3) (.v 2))))))) .nil) .nil) .nil)) .nil)) (.cons (.ret (.comp true (.v 1) [0,1] (.seq (.pr true .sorted (Ea (.v 1)))) [] 2 .no)) .nil)))
noncomputable def b40:cB:=(.cons (.iff (.pr true .eq (Eb (Ei (.v 0) (Ci 1)) (.tup .nil))) (.cons (.ret (.tup (Eb (Ci 1) (Ci 1)))) .nil) .nil) (.cons (.fr (.nm 1) (.seq (.sl true (.call 39 (Ea (Ei (.v 0) (Ci 0)))) (.yes (Ci 1)) .no)) (.cons (.iff (.pr true .sG (Ea (.call 38 (Eb (.v 0) (.v 1))))) (.cons (.ret (.v 1)) .nil) .nil) .nil)) (.cons (.ret (.c .non)) .nil)))
noncomputable def b41:cB:=(.cons (.asg (.nm 1) (.lst true (Ea (.tup .nil)))) (.cons (.fr (.nm 2) (.rg (Ci 0) (.v 0)) (.cons (.fr (.nm 3) (.rg (.pr true .add (Eb (.v 2) (Ci 1))) (.v 0)) (.cons (.asg (.nm 1) (.pr true .add (Eb (.v 1) (.comp true (.pr true .add (Eb (.v 0) (.tup (Ea (.tup (Eb (.v 1) (.v 2))))))) [0] (.seq (.v 1)) [2,3] 1 .no)))) .nil)) .nil)) (.cons (.ret (.comp true (.tup (Eb (.v 1) (.v 0))) [0] (.seq (.v 1)) [0] 1 .no)) .nil)))
noncomputable def b42:cB:=(.cons (.asg (.nm 1) (.comp true (.call 40 (Ea (.v 0))) [0] (.seq (.call 41 (Ea (.v 0)))) [] 1 .no)) (.cons (.asg (.nm 2) (.comp true (.tup (Eb (.v 0) (.meth true .count .list (.v 1) (Ea (.v 0))))) [0] (.seq (.call 39 (Ea (.v 0)))) [1] 1 (.yes (.pr true .inn (Eb (.v 0) (.v 1)))))) (.cons (.fr (.nm 3) (.rg (Ci 0) (Ci 2)) (.cons (.asg (.nm 4) (.call 31 (Ea (.v 0)))) (.cons (.iff (.or (.not (.mW (.v 4) .list)) (.pr true .ne (Eb (.v 4) (.v 2)))) (.cons (.ret (.c (.bl false))) .nil) .nil) (.cons (.iff (.not (.pr true .all (Ea (.comp true (.and (.mW (.v 0) .tuple) (.call 36 (Ea (Ei (.v 0) (Ci 1))))) [0] (.seq (.v 4)) [] 1 .no)))) (.cons (.ret (.c (.bl false))) .nil) .nil) (.cons (.ex (.push (.v 4) (.c .non))) .nil))))) (.cons (.ret (.c (.bl true))) .nil))))
noncomputable def Vl:cB:=(.cons (.iff (.or (.not (.call 42 (Ea (Ci 1)))) (.not (.call 42 (Ea (Ci 2))))) (.cons (.ret (.c (.bl false))) .nil) .nil) (.cons (.fr (.nm 1) (.seq (.pr true .add (Eb (.lst true (Ea (.call 33 (Eb (.v 0) (Ci 0))))) (.sl true (.v 0) (.yes (Ci 1)) (.yes (Ci 2)))))) (.cons (.asg (.nm 2) (.call 34 (Ea (.v 1)))) (.cons (.iff (.or (.not (.call 42 (Ea (Ci 3)))) (.and (.pr true .eq (Eb (.call 35 (Eb (.v 2) (Ci 4))) (Ci 0))) (.not (.call 42 (Ea (Ci 4)))))) (.cons (.ret (.c (.bl false))) .nil) .nil) .nil))) (.cons (.ret (.c (.bl true))) .nil)))
noncomputable def T(n:Nat):Option Df:=([⟨1,1,b0⟩,⟨3,3,b1⟩,⟨2,2,b2⟩,⟨3,1,b3⟩,⟨1,1,b4⟩,⟨2,2,b5⟩,⟨4,2,b6⟩,⟨1,1,b7⟩,⟨1,1,b8⟩,⟨3,2,b9⟩,⟨1,1,b10⟩,⟨4,4,UL⟩,⟨3,3,UW⟩,⟨6,4,U6⟩,⟨3,3,U7⟩,⟨2,2,U8⟩,⟨5,2,U9⟩,⟨2,2,U_⟩,⟨5,2,Va⟩,⟨3,1,Vb⟩,⟨1,1,Vc⟩,⟨4,2,b21⟩,⟨3,2,Vd⟩,⟨7,2,Ve⟩,⟨5,4,Ou⟩,⟨4,3,Vf⟩,⟨4,3,KZ⟩,⟨3,1,b27⟩,⟨2,2,Vg⟩,⟨3,1,Vh⟩,⟨2,2,b30⟩,⟨4,1,b31⟩,⟨3,1,b32⟩,⟨2,2,Vi⟩,⟨2,1,Vj⟩,⟨5,2,Vk⟩,⟨1,1,b36⟩,⟨4,3,b37⟩,⟨10,2,b38⟩,⟨4,1,b39⟩,⟨2,1,b40⟩,⟨4,1,b41⟩,⟨5,1,b42⟩,⟨3,1,Vl⟩]:List Df)[n]?
theorem T_0:T 0=some ⟨1,1,b0⟩:=rfl
theorem T_1:T 1=some ⟨3,3,b1⟩:=rfl
theorem T_2:T 2=some ⟨2,2,b2⟩:=rfl
theorem T_3:T 3=some ⟨3,1,b3⟩:=rfl
theorem T_4:T 4=some ⟨1,1,b4⟩:=rfl
theorem T_5:T 5=some ⟨2,2,b5⟩:=rfl
theorem T_6:T 6=some ⟨4,2,b6⟩:=rfl
theorem T_7:T 7=some ⟨1,1,b7⟩:=rfl
theorem T_8:T 8=some ⟨1,1,b8⟩:=rfl
theorem T_9:T 9=some ⟨3,2,b9⟩:=rfl
theorem zol:T 10=some ⟨1,1,b10⟩:=rfl
theorem zn1:T 11=some ⟨4,4,UL⟩:=rfl
theorem zoc:T 12=some ⟨3,3,UW⟩:=rfl
theorem zof:T 13=some ⟨6,4,U6⟩:=rfl
theorem znX:T 14=some ⟨3,3,U7⟩:=rfl
theorem zn5:T 15=some ⟨2,2,U8⟩:=rfl
theorem zn8:T 16=some ⟨5,2,U9⟩:=rfl
theorem zoo:T 17=some ⟨2,2,U_⟩:=rfl
theorem zon:T 18=some ⟨5,2,Va⟩:=rfl
theorem znW:T 19=some ⟨3,1,Vb⟩:=rfl
theorem znY:T 20=some ⟨1,1,Vc⟩:=rfl
theorem zoq:T 21=some ⟨4,2,b21⟩:=rfl
theorem zok:T 22=some ⟨3,2,Vd⟩:=rfl
theorem zn0:T 23=some ⟨7,2,Ve⟩:=rfl
theorem Vm:T 24=some ⟨5,4,Ou⟩:=rfl
theorem zoj:T 25=some ⟨4,3,Vf⟩:=rfl
theorem Ov:T 26=some ⟨4,3,KZ⟩:=rfl
theorem zoD:T 27=some ⟨3,1,b27⟩:=rfl
theorem zob:T 28=some ⟨2,2,Vg⟩:=rfl
theorem zn6:T 29=some ⟨3,1,Vh⟩:=rfl
theorem zot:T 30=some ⟨2,2,b30⟩:=rfl
theorem zoy:T 31=some ⟨4,1,b31⟩:=rfl
theorem zoE:T 32=some ⟨3,1,b32⟩:=rfl
theorem zn7:T 33=some ⟨2,2,Vi⟩:=rfl
theorem zom:T 34=some ⟨2,1,Vj⟩:=rfl
theorem zoa:T 35=some ⟨5,2,Vk⟩:=rfl
theorem zow:T 36=some ⟨1,1,b36⟩:=rfl
theorem zoC:T 37=some ⟨4,3,b37⟩:=rfl
theorem zov:T 38=some ⟨10,2,b38⟩:=rfl
theorem zos:T 39=some ⟨4,1,b39⟩:=rfl
theorem zoA:T 40=some ⟨2,1,b40⟩:=rfl
theorem zop:T 41=some ⟨4,1,b41⟩:=rfl
theorem zoB:T 42=some ⟨5,1,b42⟩:=rfl
theorem zoi:T 43=some ⟨3,1,Vl⟩:=rfl
noncomputable def aq:Nat->Nat->Bool:=λc e=>(let n:=λc=>if c<0 then c else 0;n e==0||n c==n e)
end eF
namespace eF
open PySem PySem.Spec PyProof.Rows L2 Mi
abbrev LK(i:Nat)(x:Str)(k:NameKind):Prop:=(au (top i)).names.lookup x=some k
noncomputable abbrev gI:NameKind:=.globalImplicit
abbrev N3:List Str:=["thing","many","ties"]
abbrev N8:List Str:=["many"]
abbrev N9:List Str:=["web","place","ends"]
abbrev N10:List Str:=["web"]
abbrev N13:List Str:=["self","free","place","spot","left","end"]
abbrev N14:List Str:=["self","free","place"]
abbrev N15:List Str:=["self","free"]
abbrev N17:List Str:=["self","free"]
abbrev Vn:List Str:=["web","ring","k","d","wide"]
abbrev N22:List Str:=["web","ring","board"]
abbrev N27:List Str:=["most","limit","rings"]
abbrev N31:List Str:=["many","counts","web","ring"]
abbrev Vo:List Str:=["many","rows","pair"]
abbrev K1:List Str:=["_law_web","_law_ring","_law_threes","_law_one","_law_other","_law_both_near","_law_loose","_law_row","_law_ties","_law_near"]
abbrev Vp:List Str:=["_law_most","_law_found","_law_d","_law_k"]
abbrev Vq:List Str:=["_law_many","_law_ties","_law_one","_law_other"]
abbrev Ox:List Str:=["_law_many","_law_rings","_law_due","_law_turn","_law_found"]
noncomputable def cl(K:W.Frag):Cl:=⟨iW (lk.L K),λ_=>[],λ_=>dY K "Board",λ_=>["ends","spots","apart","alike"]⟩
structure Top(K:W.Frag)(mg:Str->Option Value):Prop where
 d0:D3 K mg "is_whole" (top 5) ["thing"]
 d1:D3 K mg "is_within" (top 6) ["thing","least","most"]
 d2:D3 K mg "is_row" (top 7) ["thing","many"]
 d3:D3 K mg "is_web" (top 10) ["thing"]
 d4:D3 K mg "is_many" (top 11) ["thing"]
 d5:D3 K mg "is_place" (top 12) ["many","thing"]
 d6:D3 K mg "is_tie" (top 13) ["many","thing"]
 d7:D3 K mg "check_web" (top 14) ["thing"]
 d8:D3 K mg "all_pairs" (top 15) ["many"]
 d9:D3 K mg "tied_to" (top 16) ["web","place"]
 Vr:D3 K mg "all_ends" (top 17) ["web"]
 Vt:D3 K mg "ring_board" (top 20) ["web","ring"]
 Vu:D3 K mg "is_ring" (top 23) ["thing"]
 Vv:D3 K mg "check_ring" (top 24) ["thing"]
 Vw:D3 K mg "lowest_terms" (top 25) ["top","bottom"]
 Vx:D3 K mg "first_hues" (top 27) ["web","ring"]
 Vy:D3 K mg "first_among" (top 28) ["board","choices"]
 Oz:D3 K mg "first_spot" (top 29) ["board","answers","free","place"]
 K3:D3 K mg "can_settle" (top 30) ["board","answers","free"]
 Vz:D3 K mg "search" (top 31) ["board","answers","free"]
 OD:D3 K mg "plain_rings" (top 34) ["most"]
 VB:D3 K mg "has_room" (top 35) ["web","ring"]
 VD:D3 K mg "shortest" (top 36) ["web"]
 VF:D3 K mg "is_plain" (top 37) ["k","d"]
 VG:D3 K mg "by_shortest" (top 39) ["many"]
 VH:D3 K mg "webs_with" (top 40) ["many"]
 VJ:D3 K mg "_law_cell" (top 42) ["_law_script","_law_k"]
 VL:D3 K mg "_law_pen" (top 43) ["_law_cell_here"]
 VN:D3 K mg "_law_draw" (top 44) ["_law_pen_here","_law_many"]
 VP:D3 K mg "_law_whole" (top 45) ["_law_thing"]
 VR:D3 K mg "_law_apart" (top 46) ["_law_k","_law_one","_law_other"]
 V0:D3 K mg "_law_first" (top 47) ["_law_web","_law_ring"]
 OJ:D3 K mg "_law_plain" (top 48) ["_law_most"]
 V1:D3 K mg "_law_shortest" (top 49) ["_law_web"]
 V2:D3 K mg "_law_all_webs" (top 50) ["_law_many"]
 Gj:D3 K mg "_law_right" (top 51) ["_law_many"]
 O1:D3 K mg "law" (top 52) ["_law_script"]
 gW:∃t,mg "MOST_PLACES"=some (.int 8 t)
 eZ:∃t,mg "MOST_SPOTS"=some (.int 24 t)
 k_:∃t,mg "SO_OFTEN"=some (.int 27720 t)
 z14:mg "abs"=none
 z6:mg "all"=none
 z2:mg "bool"=none
 z13:mg "divmod"=none
 V3:mg "enumerate"=none
 z1:mg "int"=none
 z0:mg "isinstance"=none
 z4:mg "len"=none
 z9:mg "list"=none
 z12:mg "max"=none
 K4:mg "min"=none
 z7:mg "range"=none
 z8:mg "sorted"=none
 z3:mg "tuple"=none
 z5:mg "zip"=none
 ow:Ow K (cl K) 0
 mq:Mk K ((cl K).b 0) (iy K ((cl K).b 0) "__init__")
 mc:mg "Board"=some (.ref ((cl K).b 0))
 V4:Mt K ((cl K).b 0) "__init__" "Board.__init__" Ep ["self","web","apart","alike"] (iy K ((cl K).b 0) "__init__") (jN K ((cl K).b 0) "__init__" Ep)
 V5:Mt K ((cl K).b 0) "far_apart" "Board.far_apart" G7 ["self","spot","other"] (iy K ((cl K).b 0) "far_apart") (jN K ((cl K).b 0) "far_apart" G7)
 K5:Mt K ((cl K).b 0) "settled" "Board.settled" Er ["self","free","place","spot"] (iy K ((cl K).b 0) "settled") (jN K ((cl K).b 0) "settled" Er)
 O2:Mt K ((cl K).b 0) "ties_left" "Board.ties_left" Et ["self","free","place"] (iy K ((cl K).b 0) "ties_left") (jN K ((cl K).b 0) "ties_left" Et)
 V6:Mt K ((cl K).b 0) "bound" "Board.bound" Eu ["self","free"] (iy K ((cl K).b 0) "bound") (jN K ((cl K).b 0) "bound" Eu)
 V7:Mt K ((cl K).b 0) "narrowest" "Board.narrowest" G8 ["self","free"] (iy K ((cl K).b 0) "narrowest") (jN K ((cl K).b 0) "narrowest" G8)
 V8:Mt K ((cl K).b 0) "all_free" "Board.all_free" Ew ["self","free"] (iy K ((cl K).b 0) "all_free") (jN K ((cl K).b 0) "all_free" Ew)
 lam:Dq K mg (fdOf K "plain_rings" (top 34))
theorem zmy{K:W.Frag}{h:Heap}{mg:Str->Option Value}(Sb:rH fs ms xs lk bd K)(LH:kZ K h)(X:K.In h)(G:h.Ns mainGlobals mg):Top K mg where
 d0:=nq Sb.i X G 0
 d1:=N7 Sb.i X G 1
 d2:=tG Sb.i X G 2
 d3:=nq Sb.i X G 3
 d4:=nq Sb.i X G 4
 d5:=tG Sb.i X G 5
 d6:=tG Sb.i X G 6
 d7:=nq Sb.i X G 7
 d8:=nq Sb.i X G 8
 d9:=tG Sb.i X G 9
 Vr:=nq Sb.i X G 10
 Vt:=tG Sb.i X G 11
 Vu:=nq Sb.i X G 12
 Vv:=nq Sb.i X G 13
 Vw:=tG Sb.i X G 14
 Vx:=tG Sb.i X G 15
 Vy:=tG Sb.i X G 16
 Oz:=zou Sb.i X G 17
 K3:=N7 Sb.i X G 18
 Vz:=N7 Sb.i X G 19
 OD:=nq Sb.i X G 20
 VB:=tG Sb.i X G 21
 VD:=nq Sb.i X G 22
 VF:=tG Sb.i X G 23
 VG:=nq Sb.i X G 24
 VH:=nq Sb.i X G 25
 VJ:=tG Sb.i X G 26
 VL:=nq Sb.i X G 27
 VN:=tG Sb.i X G 28
 VP:=nq Sb.i X G 29
 VR:=N7 Sb.i X G 30
 V0:=tG Sb.i X G 31
 OJ:=nq Sb.i X G 32
 V1:=nq Sb.i X G 33
 V2:=nq Sb.i X G 34
 Gj:=nq Sb.i X G 35
 O1:=nq Sb.i X G 36
 gW:=Tr (Sb.i.gd.it ("MOST_PLACES",8) (mG 0)) X G
 eZ:=Tr (Sb.i.gd.it ("MOST_SPOTS",24) (mG 1)) X G
 k_:=Tr (Sb.i.gd.it ("SO_OFTEN",27720) (mG 2)) X G
 z14:=qF (Sb.i.gd.no "abs" (mG 0)) X G
 z6:=qF (Sb.i.gd.no "all" (mG 1)) X G
 z2:=qF (Sb.i.gd.no "bool" (mG 2)) X G
 z13:=qF (Sb.i.gd.no "divmod" (mG 3)) X G
 V3:=qF (Sb.i.gd.no "enumerate" (mG 4)) X G
 z1:=qF (Sb.i.gd.no "int" (mG 5)) X G
 z0:=qF (Sb.i.gd.no "isinstance" (mG 6)) X G
 z4:=qF (Sb.i.gd.no "len" (mG 7)) X G
 z9:=qF (Sb.i.gd.no "list" (mG 8)) X G
 z12:=qF (Sb.i.gd.no "max" (mG 9)) X G
 K4:=qF (Sb.i.gd.no "min" (mG 10)) X G
 z7:=qF (Sb.i.gd.no "range" (mG 11)) X G
 z8:=qF (Sb.i.gd.no "sorted" (mG 12)) X G
 z3:=qF (Sb.i.gd.no "tuple" (mG 13)) X G
 z5:=qF (Sb.i.gd.no "zip" (mG 14)) X G
 ow:=zm2 Sb.b rfl rfl Dc
 mq:=znl Sb.b (Sb.m ("__init__","Board.__init__",Ep) (mG 0)).2
 mc:=zmP Sb.b X G
 V4:=zn2 (Sb.m ("__init__","Board.__init__",Ep) (mG 0))
 V5:=zoe (Sb.m ("far_apart","Board.far_apart",G7) (mG 1))
 K5:=zn2 (Sb.m ("settled","Board.settled",Er) (mG 2))
 O2:=zoe (Sb.m ("ties_left","Board.ties_left",Et) (mG 3))
 V6:=Uk (Sb.m ("bound","Board.bound",Eu) (mG 4))
 V7:=Uk (Sb.m ("narrowest","Board.narrowest",G8) (mG 5))
 V8:=Uk (Sb.m ("all_free","Board.all_free",Ew) (mG 6))
 lam:=LH.lk X G (top 34)
abbrev FO(P:Program)(w:World)(K:W.Frag)(mg:Str->Option Value)(base:Heap)(k:Nat)(c:Bool)(x:Str)(i:Nat)(ps:List Str)(n:Nat):Prop:=cF P w K mg base (fj P w) c k (fW K x) (fdOf K x (top i)) ps (lG K (cl K) (call aq T k c n))
abbrev FM(P:Program)(w:World)(K:W.Frag)(mg:Str->Option Value)(base:Heap)(k:Nat)(m:Str)(st:Stmt)(ps:List Str)(sp:Sp):Prop:=cF P w K mg base (fj P w) true k (iy K ((cl K).b 0) m) (jN K ((cl K).b 0) m st) ps sp
structure Fs(P:Program)(w:World)(K:W.Frag)(mg:Str->Option Value)(base:Heap)(k:Nat):Prop where
 t0:FO P w K mg base k true "is_whole" 5 ["thing"] 0
 t1:FO P w K mg base k true "is_within" 6 ["thing","least","most"] 1
 t2:FO P w K mg base k true "is_row" 7 ["thing","many"] 2
 t3:FO P w K mg base k true "is_web" 10 ["thing"] 3
 t4:FO P w K mg base k true "is_many" 11 ["thing"] 4
 t5:FO P w K mg base k true "is_place" 12 ["many","thing"] 5
 t6:FO P w K mg base k true "is_tie" 13 ["many","thing"] 6
 t7:FO P w K mg base k true "check_web" 14 ["thing"] 7
 t8:FO P w K mg base k true "all_pairs" 15 ["many"] 8
 t9:FO P w K mg base k true "tied_to" 16 ["web","place"] 9
 t10:FO P w K mg base k true "all_ends" 17 ["web"] 10
 t11:FM P w K mg base k "__init__" Ep ["self","web","apart","alike"] (Od K (cl K) 0 (call aq T k true 11))
 t12:FM P w K mg base k "far_apart" G7 ["self","spot","other"] (lG K (cl K) (call aq T k true 12))
 O4:FM P w K mg base k "settled" Er ["self","free","place","spot"] (lG K (cl K) (call aq T k true 13))
 V9:FM P w K mg base k "ties_left" Et ["self","free","place"] (lG K (cl K) (call aq T k true 14))
 t15:FM P w K mg base k "bound" Eu ["self","free"] (lG K (cl K) (call aq T k true 15))
 t16:FM P w K mg base k "narrowest" G8 ["self","free"] (lG K (cl K) (call aq T k true 16))
 t17:FM P w K mg base k "all_free" Ew ["self","free"] (lG K (cl K) (call aq T k true 17))
 t18:FO P w K mg base k true "ring_board" 20 ["web","ring"] 18
 t19:FO P w K mg base k true "is_ring" 23 ["thing"] 19
 t20:FO P w K mg base k true "check_ring" 24 ["thing"] 20
 t21:FO P w K mg base k true "lowest_terms" 25 ["top","bottom"] 21
 t22:FO P w K mg base k true "first_hues" 27 ["web","ring"] 22
 t23:FO P w K mg base k true "first_among" 28 ["board","choices"] 23
 V_:FO P w K mg base k true "first_spot" 29 ["board","answers","free","place"] 24
 O5:FO P w K mg base k true "can_settle" 30 ["board","answers","free"] 25
 t26:FO P w K mg base k true "search" 31 ["board","answers","free"] 26
 Wa:FO P w K mg base k true "plain_rings" 34 ["most"] 27
 t28:FO P w K mg base k true "has_room" 35 ["web","ring"] 28
 t29:FO P w K mg base k true "shortest" 36 ["web"] 29
 t30:FO P w K mg base k true "is_plain" 37 ["k","d"] 30
 t31:FO P w K mg base k true "by_shortest" 39 ["many"] 31
 t32:FO P w K mg base k true "webs_with" 40 ["many"] 32
 t33:FO P w K mg base k true "_law_cell" 42 ["_law_script","_law_k"] 33
 t34:FO P w K mg base k true "_law_pen" 43 ["_law_cell_here"] 34
 t35:FO P w K mg base k true "_law_draw" 44 ["_law_pen_here","_law_many"] 35
 t36:FO P w K mg base k true "_law_whole" 45 ["_law_thing"] 36
 t37:FO P w K mg base k true "_law_apart" 46 ["_law_k","_law_one","_law_other"] 37
 t38:FO P w K mg base k true "_law_first" 47 ["_law_web","_law_ring"] 38
 Wb:FO P w K mg base k true "_law_plain" 48 ["_law_most"] 39
 t40:FO P w K mg base k true "_law_shortest" 49 ["_law_web"] 40
 t41:FO P w K mg base k true "_law_all_webs" 50 ["_law_many"] 41
 K6:FO P w K mg base k true "_law_right" 51 ["_law_many"] 42
 t43:FO P w K mg base k true "law" 52 ["_law_script"] 43
section
variable {P:Program}{w:World}{K:W.Frag}{mg:Str->Option Value}{base:Heap}{k:Nat}
theorem zjz(Tp:Top K mg)(Fk:Fs P w K mg base k):Fs P w K mg base (k+1) where
 t0:=fJ Tp.d0 ["thing"] T_0 λ_ _ _ _ _ _ hr=>(aH (cg (yj (zY rfl Tp.z0 gk (gv 0) (zX rfl Tp.z1 Zc gk dk)) (wj (Zh (zY rfl Tp.z0 gk (gv 0) (zX rfl Tp.z2 Zd gk dk))))))
 aN)
 t1:=fJ Tp.d1 ["thing","least","most"] T_1 λ_ _ _ _ _ _ hr=>(aH (cg (yj (gc Fk.t0 Tp.d0 hr dI gk (aF (gv 0) aK)) (wj (znV Zj Zj (gv 1) (gv 0) (gv 2)))))
 aN)
 t2:=fJ Tp.d2 ["thing","many"] T_2 λ_ _ _ _ _ _ hr=>(aH (cg (yj (zY rfl Tp.z0 gk (gv 0) (zX rfl Tp.z3 J0 gk dk)) (wj (yp (oY hr) (yq Tp.z4 gk (aF (gv 0) aK)) (gv 1)))))
 aN)
 t3:=fJ Tp.d3 N3 T_3 λ_ _ _ _ _ _ hr=>(aH (iC (pJ (lB (gc Fk.t2 Tp.d2 hr dI gk (aF (gv 0) (aF aO aK))))) (aH (cg rC)
 aN) aN)
 (aH (J7 1 2 rfl rfl nd rfl rfl jc jl rfl rfl (gv 0))
 (aH (iC (tX (J2 (pJ (lB (gc Fk.t4 Tp.d4 hr dI gk (aF (gv 1) aK)))) (J1 (pJ (lB (zY rfl Tp.z0 gk (gv 2) (zX rfl Tp.z3 J0 gk dk))))))) (aH (cg rC)
 aN) aN)
 (aH (iC (pJ (lB (NQ rfl Tp.z6 gk (aF (nj (au (top 10)) N3 ["tie"] ["many"] [1] rfl rfl rfl Dc Dc (jg 0) Dc (jM (gv 2)) (λ_ _ _ _ _ _=>(jh 0 Dc rfl Dc)) (λ_ _ _ _ _ _=>oZ) (λ_ _ _ _ _ _=>(gc Fk.t6 Tp.d6 hr FT tK (aF (bw 1) (aF (bw 0) aK))))) aK)))) (aH (cg rC)
 aN) aN)
 (aH (cg (NQ rfl Tp.z6 gk (aF (nj (au (top 10)) N3 ["tie","later"] [] [] rfl rfl rfl Dc Dc (JV 0 1) Dc (znE Tp.z5 gk (gv 2) (S_ (gv 2) (NP aO) Zm)) (λ_ _ _ _ _ _=>(NZ 0 1 rfl Dc rfl rfl Dc Dc)) (λ_ _ _ _ _ _=>oZ) (λ_ _ _ _ _ _=>(yp (FN hr) (bw 0) (bw 1)))) aK)))
 aN)))))
 t4:=fJ Tp.d4 ["thing"] T_4 λ_ _ _ _ _ _ hr=>(aH (cg (gc Fk.t1 Tp.d1 hr dI gk (aF (gv 0) (aF aO (aF (Nv Tp.gW gk dk) aK)))))
 aN)
 t5:=fJ Tp.d5 ["many","thing"] T_5 λ_ _ _ _ _ _ hr=>(aH (cg (gc Fk.t1 Tp.d1 hr dI gk (aF (gv 1) (aF aO (aF (dj zT (gv 0) aO) aK)))))
 aN)
 t6:=fJ Tp.d6 ["many","thing","one","other"] T_6 λ_ _ _ _ _ _ hr=>(aH (iC (pJ (lB (gc Fk.t2 Tp.d2 hr dI gk (aF (gv 1) (aF aO aK))))) (aH (cg rC)
 aN) aN)
 (aH (J7 2 3 rfl rfl nd rfl rfl jl jl rfl rfl (gv 1))
 (aH (cg (yj (gc Fk.t5 Tp.d5 hr dI gk (aF (gv 0) (aF (gv 2) aK))) (yj (gc Fk.t5 Tp.d5 hr dI gk (aF (gv 0) (aF (gv 3) aK))) (wj (yp (FN hr) (gv 2) (gv 3))))))
 aN)))
 t7:=fJ Tp.d7 ["thing"] T_7 λ_ _ _ _ _ _ hr=>(aH (iC (pJ (lB (gc Fk.t3 Tp.d3 hr dI gk (aF (gv 0) aK)))) (aH Zo
 aN) aN)
 aN)
 t8:=fJ Tp.d8 N8 T_8 λ_ _ _ _ _ _ hr=>(aH (cg (ziV (au (top 15)) N8 ["one","other"] ["many"] [0] rfl rfl rfl Dc Dc (jg 0) (jg 1) Dc (vA Tp.z7 gk (gv 0)) (λ_ _ _ _ _ _=>(jh 0 Dc rfl Dc)) (λ_ _ _ _ _ _=>(FP Tp.z7 tK (dj nR (bw 0) aO) (bw 2))) (λ_ _ _ _ _ _=>(jh 1 Dc rfl Dc)) (λ_ _ _ _ _ _=>oZ) (λ_ _ _ _ _ _=>(jw (aF (bw 0) (aF (bw 1) aK))))))
 aN)
 t9:=fJ Tp.d9 N9 T_9 λ_ _ _ _ _ _ hr=>(aH (FW 2 (au (top 16)) N9 ["one","other"] ["place"] [1] nd rfl jl rfl rfl rfl rfl Dc Dc (JV 0 1) Dc (jM (cW (gv 0) aO)) (λ_ _ _ _ _ _=>(NZ 0 1 rfl Dc rfl rfl Dc Dc)) (λ_ _ _ _ _ _=>(tY (h_ (CP hr) (bw 2) (jw (aF (bw 0) (aF (bw 1) aK)))))) (λ_ _ _ _ _ _=>(NK (h_ (oY hr) (bw 0) (bw 2)) (bw 1) (bw 0))))
 (aH (cg (CV Tp.z3 gk (aF (ZM Tp.z8 gk (aF (gv 2) aK)) aK)))
 aN))
 t10:=fJ Tp.Vr N10 zol λ_ _ _ _ _ _ hr=>(aH (cg (nj (au (top 17)) N10 ["place"] ["web"] [0] rfl rfl rfl Dc Dc (jg 0) Dc (vA Tp.z7 gk (cW (gv 0) aO)) (λ_ _ _ _ _ _=>(jh 0 Dc rfl Dc)) (λ_ _ _ _ _ _=>oZ) (λ_ _ _ _ _ _=>(gc Fk.t9 Tp.d9 hr FT tK (aF (bw 1) (aF (bw 0) aK))))))
 aN)
 t11:=zjt (N:=["self","web","apart","alike"]) Tp.V4.fn zn1 (λ_ _ _ _ _ _ hr=>(Oe (j:=0) Tp.ow (gc Fk.t10 Tp.Vr hr dI gk (aF (gv 1) aK)) (Oe (j:=0) Tp.ow (zmX rfl Tp.z3 gk Tp.z7 gk (aF (yq Tp.z4 gk (aF (gv 2) aK)) aK)) (Oe (j:=0) Tp.ow (gv 2) (Oe (j:=0) Tp.ow (gv 3) zl4))))) (by show (4:Nat)<=900;decide)
 t12:=fM Tp.V5 ["self","spot","other"] zoc λ_ _ _ _ _ _ hr=>(aH (cg (cW (cW (Gg Tp.ow (gv 0)) (gv 1)) (gv 2)))
 aN)
 O4:=fM Tp.K5 N13 zof λ_ _ _ _ _ _ hr=>(aH (iu 4 nd rfl jl rfl (zlI Tp.z9 gk (aF (gv 1) aK)))
 (aH (FZ (gv 4) (gv 2) vo)
 (aH (rE o7 rfl rfl (jM (cW (Gg Tp.ow (gv 0)) (gv 2))) (tZ 5 nd rfl jl rfl) (aH (iC (Nz (cW (gv 4) (gv 5))) (aH (FZ (gv 4) (gv 5) (CV Tp.z3 gk (aF (nj (au (Er)) N13 ["other"] ["self","spot"] [0,3] rfl rfl rfl Dc Dc (jg 0) Dc (jM (cW (gv 4) (gv 5))) (λ_ _ _ _ _ _=>(jh 0 Dc rfl Dc)) (λ_ _ _ _ _ _=>(tY (lB (yG Tp.ow Tp.V5 Fk.t12 hr (bw 1) (aF (bw 2) (aF (bw 0) aK)))))) (λ_ _ _ _ _ _=>(bw 0))) aK)))
 aN) aN)
 aN))
 (aH (cg (CV Tp.z3 gk (aF (gv 4) aK)))
 aN))))
 V9:=fM Tp.O2 N14 znX λ_ _ _ _ _ _ hr=>(aH (cg (yq Tp.z4 gk (aF (nj (au (Et)) N14 ["end"] ["free"] [1] rfl rfl rfl Dc Dc (jg 0) Dc (jM (cW (Gg Tp.ow (gv 0)) (gv 2))) (λ_ _ _ _ _ _=>(jh 0 Dc rfl Dc)) (λ_ _ _ _ _ _=>(tY (Nz (cW (bw 1) (bw 0))))) (λ_ _ _ _ _ _=>(bw 0))) aK)))
 aN)
 t15:=fM Tp.V6 N15 zn5 λ_ _ _ _ _ _ hr=>(aH (cg (CV Tp.z3 gk (aF (nj (au (Eu)) N15 ["place","spots"] ["self","free"] [0,1] rfl rfl rfl Dc Dc (JV 0 1) Dc (ZQ Tp.V3 gk (gv 1)) (λ_ _ _ _ _ _=>(NZ 0 1 rfl Dc rfl rfl Dc Dc)) (λ_ _ _ _ _ _=>oZ) (λ_ _ _ _ _ _=>(NK (h_ S8 (yG Tp.ow Tp.O2 Fk.V9 hr (bw 2) (aF (bw 3) (aF (bw 0) aK))) aO) (bw 1) vo))) aK)))
 aN)
 t16:=fM Tp.V7 ["self","free","ranks","place","spots"] zn8 λ_ _ _ _ _ _ hr=>(aH (iu 2 nd rfl jl rfl (qD aK))
 (aH (rE o7 rfl rfl (ZQ Tp.V3 gk (gv 1)) (Zr 3 4 rfl rfl nd rfl rfl jl jl rfl rfl) (aH (iC (Nz (gv 4)) (aH (yr (J3 (gv 2) (jw (aF (yq Tp.z4 gk (aF (gv 4) aK)) (aF (zV (yG Tp.ow Tp.O2 Fk.V9 hr (gv 0) (aF (gv 1) (aF (gv 3) aK)))) (aF (gv 3) aK))))))
 aN) aN)
 aN))
 (aH (cg (NK (zm4 (gv 2)) (cW (zkN hr rfl Tp.K4 gk (aF (gv 2) aK)) aO) vo))
 aN)))
 t17:=fM Tp.V8 N17 zoo λ_ _ _ _ _ _ hr=>(aH (cg (NQ rfl Tp.z6 gk (aF (nj (au (Ew)) N17 ["spots"] ["self"] [0] rfl rfl rfl Dc Dc (jg 0) Dc (jM (gv 1)) (λ_ _ _ _ _ _=>(jh 0 Dc rfl Dc)) (λ_ _ _ _ _ _=>oZ) (λ_ _ _ _ _ _=>(Zi (zm9 (bw 0)) (wj (yp (oY hr) (bw 0) (Gg Tp.ow (bw 1))))))) aK)))
 aN)
 t18:=fR Tp.Vt Vn zon λ_ _ _ _ _ _ hr=>(aH (J7 2 3 rfl rfl nd rfl rfl jc jc rfl rfl (gv 1))
 (aH (iu 4 nd rfl jc rfl (nj (au (top 20)) Vn ["gap"] ["k","d"] [2,3] rfl rfl rfl Dc Dc (jg 0) Dc (vA Tp.z7 gk (gv 2)) (λ_ _ _ _ _ _=>(jh 0 Dc rfl Dc)) (λ_ _ _ _ _ _=>oZ) (λ_ _ _ _ _ _=>(yp S9 (Tc rfl Tp.K4 tK (aF (bw 0) (aF (dj zT (bw 1) (bw 0)) aK))) (bw 2)))))
 (aH (cg (zor Tp.mq Fk.t11 (Mi.bx.made hr _ _) Tp.V4.bd Tp.mc gk (aF (gv 0) (aF (nj (au (top 20)) Vn ["spot"] ["k","wide"] [2,4] rfl rfl rfl Dc Dc (jg 0) Dc (vA Tp.z7 gk (gv 2)) (λ_ _ _ _ _ _=>(jh 0 Dc rfl Dc)) (λ_ _ _ _ _ _=>oZ) (λ_ _ _ _ _ _=>(Zn ["spot","k","wide"] ["other"] ["wide","spot"] [2,0] rfl rfl Dc Dc (jg 0) Dc (vA Tp.z7 tK (bw 1)) (λ_ _ _ _ _ _=>(jh 0 Dc rfl Dc)) (λ_ _ _ _ _ _=>oZ) (λ_ _ _ _ _ _=>(cW (bw 1) (dj zT (bw 2) (bw 0))))))) (aF rC aK)))))
 aN)))
 t19:=fJ Tp.Vu ["thing","k","d"] znW λ_ _ _ _ _ _ hr=>(aH (iC (pJ (lB (gc Fk.t2 Tp.d2 hr dI gk (aF (gv 0) (aF aO aK))))) (aH (cg rC)
 aN) aN)
 (aH (J7 1 2 rfl rfl nd rfl rfl jl jl rfl rfl (gv 0))
 (aH (cg (yj (gc Fk.t1 Tp.d1 hr dI gk (aF (gv 1) (aF aO (aF (Nv Tp.eZ gk dk) aK)))) (wj (gc Fk.t1 Tp.d1 hr dI gk (aF (gv 2) (aF aO (aF (gv 1) aK)))))))
 aN)))
 t20:=fJ Tp.Vv ["thing"] znY λ_ _ _ _ _ _ hr=>(aH (iC (pJ (lB (gc Fk.t19 Tp.Vu hr dI gk (aF (gv 0) aK)))) (aH Zo
 aN) aN)
 aN)
 t21:=fJ Tp.Vw ["top","bottom","common","rest"] zoq λ_ _ _ _ _ _ hr=>(aH (Zq 2 3 rfl rfl nd rfl rfl RB jl jl (gv 0) (gv 1) rfl)
 (aH (Tj o7 (h_ S8 (gv 3) aO) (aH (Zq 2 3 rfl rfl nd rfl rfl RB jl jl (gv 3) (dj zU (gv 2) (gv 3)) rfl)
 aN))
 (aH (cg (jw (aF (dj FJ (gv 0) (gv 2)) (aF (dj FJ (gv 1) (gv 2)) aK))))
 aN)))
 t22:=fJ Tp.Vx N22 zok λ_ _ _ _ _ _ hr=>(aH (yr (gc Fk.t7 Tp.d7 hr dI gk (aF (gv 0) aK)))
 (aH (yr (gc Fk.t20 Tp.Vv hr dI gk (aF (gv 1) aK)))
 (aH (iu 2 nd rfl jc rfl (gc Fk.t18 Tp.Vt hr dI gk (aF (gv 0) (aF (gv 1) aK))))
 (aH (cg (gc Fk.t23 Tp.Vy hr dI gk (aF (gv 2) (aF (nj (au (top 27)) N22 ["place"] ["board"] [2] rfl rfl rfl Dc Dc (jg 0) Dc (vA Tp.z7 gk (cW (gv 0) aO)) (λ_ _ _ _ _ _=>(jh 0 Dc rfl Dc)) (λ_ _ _ _ _ _=>oZ) (λ_ _ _ _ _ _=>(Gg Tp.ow (bw 1)))) aK))))
 aN))))
 t23:=fJ Tp.Vy ["board","choices","free","answers","row","place","spot"] zn0 λ_ _ _ _ _ _ hr=>(aH (iu 2 nd rfl jl rfl (CV Tp.z3 gk (aF (gv 1) aK)))
 (aH (iu 3 nd rfl jl rfl Zy)
 (aH (iC (pJ (lB (gc Fk.O5 Tp.K3 hr dI gk (aF (gv 0) (aF (gv 3) (aF (gv 2) aK)))))) (aH (cg vo)
 aN) aN)
 (aH (iu 4 nd rfl jl rfl (qD aK))
 (aH (rE o7 rfl rfl (vA Tp.z7 gk (yq Tp.z4 gk (aF (gv 1) aK))) (tZ 5 nd rfl jl rfl) (aH (iu 6 nd rfl jl rfl (gc Fk.V_ Tp.Oz hr dI gk (aF (gv 0) (aF (gv 3) (aF (gv 2) (aF (gv 5) aK))))))
 (aH (iu 2 nd rfl jl rfl (yG Tp.ow Tp.K5 Fk.O4 hr (gv 0) (aF (gv 2) (aF (gv 5) (aF (gv 6) aK)))))
 (aH (yr (J3 (gv 4) (gv 6)))
 aN))))
 (aH (cg (CV Tp.z3 gk (aF (gv 4) aK)))
 aN))))))
 V_:=fJ Tp.Oz ["board","answers","free","place","spot"] Vm λ_ _ _ _ _ _ hr=>(aH (rE o7 rfl rfl (jM (cW (gv 2) (gv 3))) (tZ 4 nd rfl jl rfl) (aH (iC (lB (gc Fk.O5 Tp.K3 hr dI gk (aF (gv 0) (aF (gv 1) (aF (yG Tp.ow Tp.K5 Fk.O4 hr (gv 0) (aF (gv 2) (aF (gv 3) (aF (gv 4) aK)))) aK))))) (aH (cg (gv 4))
 aN) aN)
 aN))
 (aH (cg vo)
 aN))
 O5:=fJ Tp.K3 ["board","answers","free","rest"] zoj λ_ _ _ _ _ _ hr=>(aH (iC (h_ (CP hr) (jw aK) (gv 2)) (aH (cg rC)
 aN) aN)
 (aH (iu 3 nd rfl jl rfl (yG Tp.ow Tp.V6 Fk.t15 hr (gv 0) (aF (gv 2) aK)))
 (aH (iC (zkM hr (gv 3) (gv 1)) (aH (Zz hr (gv 1) (gv 3) (gc Fk.t26 Tp.Vz hr dI gk (aF (gv 0) (aF (gv 1) (aF (gv 3) aK)))))
 aN) aN)
 (aH (cg (Zw hr (gv 1) (gv 3)))
 aN))))
 t26:=fJ Tp.Vz ["board","answers","free","place"] Ov λ_ _ _ _ _ _ hr=>(aH (iu 3 nd rfl jl rfl (yG Tp.ow Tp.V7 Fk.t16 hr (gv 0) (aF (gv 2) aK)))
 (aH (iC (znd (gv 3)) (aH (cg rC)
 aN) aN)
 (aH (iC (tX (CT (lB (Gg Tp.ow (gv 0))) (CQ (lB (yG Tp.ow Tp.V8 Fk.t17 hr (gv 0) (aF (gv 2) aK)))))) (aH (cg (gc Fk.O5 Tp.K3 hr dI gk (aF (gv 0) (aF (gv 1) (aF (yG Tp.ow Tp.K5 Fk.O4 hr (gv 0) (aF (gv 2) (aF (gv 3) (aF aO aK)))) aK)))))
 aN) aN)
 (aH (cg (Zk (gc Fk.V_ Tp.Oz hr dI gk (aF (gv 0) (aF (gv 1) (aF (gv 2) (aF (gv 3) aK)))))))
 aN))))
 Wa:=fJL Tp.OD Tp.lam N27 zoD λ_ _ _ _ _ _ hr hL=>(aH (iu 1 nd rfl jl rfl (Tc rfl Tp.K4 gk (aF (gv 0) (aF (Nv Tp.eZ gk dk) aK))))
 (aH (zj9 2 (au (top 34)) N27 ["k","d"] [] [] nd rfl jl rfl rfl rfl rfl Dc Dc (jg 0) (jg 1) Dc (FP Tp.z7 gk aO (dj nR (gv 1) aO)) (λ_ _ _ _ _ _=>(jh 0 Dc rfl Dc)) (λ_ _ _ _ _ _=>(FP Tp.z7 tK aO (dj nR (bw 0) aO))) (λ_ _ _ _ _ _=>(jh 1 Dc rfl Dc)) (λ_ _ _ _ _ _=>(tY (lB (gc Fk.t30 Tp.VF hr FT tK (aF (bw 0) (aF (bw 1) aK)))))) (λ_ _ _ _ _ _=>(jw (aF (bw 0) (aF (bw 1) aK)))))
 (aH (cg (ziQ "ring" hL hr rfl Tp.z8 gk (gv 2) (λ_ _ _ _=>(dj FJ (dj yh (cW (gv 0) aO) (Nv Tp.k_ gk dk)) (cW (gv 0) aO)))))
 aN)))
 t28:=fJ Tp.VB ["web","ring"] zob λ_ _ _ _ _ _ hr=>(aH (cg (Zk (gc Fk.t22 Tp.Vx hr dI gk (aF (gv 0) (aF (gv 1) aK)))))
 aN)
 t29:=fJ Tp.VD ["web","rings","at"] zn6 λ_ _ _ _ _ _ hr=>(aH (yr (gc Fk.t7 Tp.d7 hr dI gk (aF (gv 0) aK)))
 (aH (iu 1 nd rfl jl rfl (gc Fk.Wa Tp.OD hr dI gk (aF (cW (gv 0) aO) aK)))
 (aH (iu 2 nd rfl jl rfl aO)
 (aH (Tj o7 (pJ (lB (gc Fk.t28 Tp.VB hr dI gk (aF (gv 0) (aF (cW (gv 1) (gv 2)) aK))))) (aH (zmO 2 nd rfl jl rfl aO)
 aN))
 (aH (cg (cW (gv 1) (gv 2)))
 aN)))))
 t30:=fJ Tp.VF ["k","d"] zot λ_ _ _ _ _ _ hr=>(aH (cg (yj (yp (oY hr) (gc Fk.t21 Tp.Vw hr dI gk (aF (gv 0) (aF (gv 1) aK))) (jw (aF (gv 0) (aF (gv 1) aK)))) (wj (Zi (yp (oY hr) (gv 0) aO) (wj (yp S9 (gv 0) (dj yh aO (gv 1))))))))
 aN)
 t31:=fJ Tp.VG N31 zoy λ_ _ _ _ _ _ hr=>(aH (iu 1 nd rfl jc rfl Zy)
 (aH (rE o7 rfl rfl (jM (gc Fk.t32 Tp.VH hr dI gk (aF (gv 0) aK))) (tZ 2 nd rfl jl rfl) (aH (iu 3 nd rfl jl rfl (gc Fk.t29 Tp.VD hr dI gk (aF (gv 2) aK)))
 (aH (Zz hr (gv 1) (gv 3) (dj nR (znF hr (gv 1) (gv 3) aO) aO))
 aN)))
 (aH (cg (nj (au (top 39)) N31 ["ring"] ["counts"] [1] rfl rfl rfl Dc Dc (jg 0) Dc (jM (gc Fk.Wa Tp.OD hr dI gk (aF (gv 0) aK))) (λ_ _ _ _ _ _=>(jh 0 Dc rfl Dc)) (λ_ _ _ _ _ _=>(tY (znM hr (bw 0) (bw 1)))) (λ_ _ _ _ _ _=>(jw (aF (bw 0) (aF (Zw hr (bw 1) (bw 0)) aK))))))
 aN)))
 t32:=fJ Tp.VH Vo zoE λ_ _ _ _ _ _ hr=>(aH (iu 1 nd rfl jl rfl (NK (lB (gc Fk.t4 Tp.d4 hr dI gk (aF (gv 0) aK))) (qD (aF (jw aK) aK)) (qD aK)))
 (aH (rE o7 rfl rfl (jM (gc Fk.t8 Tp.d8 hr dI gk (aF (gv 0) aK))) (tZ 2 nd rfl jc rfl) (aH (iu 1 nd rfl jl rfl (dj nR (gv 1) (nj (au (top 40)) Vo ["row"] ["pair"] [2] rfl rfl rfl Dc Dc (jg 0) Dc (jM (gv 1)) (λ_ _ _ _ _ _=>(jh 0 Dc rfl Dc)) (λ_ _ _ _ _ _=>oZ) (λ_ _ _ _ _ _=>(dj nR (bw 0) (jw (aF (bw 1) aK)))))))
 aN))
 (aH (cg (nj (au (top 40)) Vo ["row"] ["many"] [0] rfl rfl rfl Dc Dc (jg 0) Dc (jM (gv 1)) (λ_ _ _ _ _ _=>(jh 0 Dc rfl Dc)) (λ_ _ _ _ _ _=>oZ) (λ_ _ _ _ _ _=>(jw (aF (bw 1) (aF (bw 0) aK))))))
 aN)))
 t33:=fJ Tp.VJ ["_law_script","_law_k"] zn7 λ_ _ _ _ _ _ hr=>(aH (iC (h_ (FN hr) (gv 1) (yq Tp.z4 gk (aF (gv 0) aK))) (aH (cg (cW (gv 0) (gv 1)))
 aN) aN)
 (aH (cg aO)
 aN))
 t34:=fJ Tp.VL ["_law_cell_here","_law_left"] zom λ_ _ _ _ _ _ hr=>(aH (iu 1 nd rfl jl rfl (zmp rfl Tp.z12 gk (aF (gv 0) (aF (dj zT aO (gv 0)) aK))))
 (aH (cg (qD (aF (gv 1) (aF (zk3 Tp.z1 gk (aF (yp S9 (gv 1) (dj zm7 aO aO)) aK)) aK))))
 aN))
 t35:=fJ Tp.VN ["_law_pen_here","_law_many","_law_left","_law_found","_law_stir"] zoa λ_ _ _ _ _ _ hr=>(aH (iC (h_ (oY hr) (cW (gv 0) aO) aO) (aH (J7 2 3 rfl rfl nd rfl rfl jl jl rfl rfl (zhz Tp.z13 gk (aF (cW (gv 0) aO) (aF (gv 1) aK))))
 (aH (FZ (gv 0) aO (gv 2))
 (aH (cg (gv 3))
 aN))) aN)
 (aH (iu 4 nd rfl jl rfl (dj zU (dj yh (dj nR (dj zU (cW (gv 0) aO) aO) aO) aO) aO))
 (aH (iu 4 nd rfl jl rfl (dj zU (dj nR (dj yh (gv 4) (gv 4)) aO) aO))
 (aH (FZ (gv 0) aO (dj zU (dj nR (dj yh (gv 4) aO) aO) aO))
 (aH (cg (dj zU (dj FJ (cW (gv 0) aO) aO) (gv 1)))
 aN)))))
 t36:=fJ Tp.VP ["_law_thing"] zow λ_ _ _ _ _ _ hr=>(aH (cg (yj (zY rfl Tp.z0 gk (gv 0) (zX rfl Tp.z1 Zc gk dk)) (wj (Zh (zY rfl Tp.z0 gk (gv 0) (zX rfl Tp.z2 Zd gk dk))))))
 aN)
 t37:=fJ Tp.VR ["_law_k","_law_one","_law_other","_law_there"] zoC λ_ _ _ _ _ _ hr=>(aH (iu 3 nd rfl jl rfl (zno Tp.z14 gk (aF (dj zT (gv 1) (gv 2)) aK)))
 (aH (cg (Tc rfl Tp.K4 gk (aF (gv 3) (aF (dj zT (gv 0) (gv 3)) aK))))
 aN))
 t38:=fJ Tp.V0 K1 zov λ_ _ _ _ _ _ hr=>(aH (iC (tX (CT (h_ (Ny hr) (cW (gv 0) aO) (jw aK)) (CQ (h_ (FN hr) (cW (gv 1) aO) (dj yh aO (cW (gv 1) aO)))))) (aH (cg vo)
 aN) aN)
 (aH (iu 2 nd rfl jl rfl (qD aK))
 (aH (rE o7 rfl rfl (jM (cW (gv 0) aO)) (Zr 3 4 rfl rfl nd rfl rfl jc jc rfl rfl) (aH (FW 5 (au (top 47)) K1 ["_law_place"] ["_law_one","_law_web","_law_other"] [3,0,4] nd rfl jl rfl rfl rfl rfl Dc Dc (jg 0) Dc (vA Tp.z7 gk (cW (gv 0) aO)) (λ_ _ _ _ _ _=>(jh 0 Dc rfl Dc)) (λ_ _ _ _ _ _=>(tY (tX (CT (h_ (CP hr) (jw (aF (bw 1) (aF (bw 0) aK))) (cW (bw 2) aO)) (CQ (h_ (CP hr) (jw (aF (bw 3) (aF (bw 0) aK))) (cW (bw 2) aO))))))) (λ_ _ _ _ _ _=>(bw 0)))
 (aH (iu 2 nd rfl jl rfl (dj nR (gv 2) (gv 5)))
 aN)))
 (aH (iC (tX (CT (h_ (Ny hr) (gv 2) (qD aK)) (CQ (h_ (FN hr) (cW (gv 1) aO) (dj yh aO (cW (gv 1) aO)))))) (aH (cg vo)
 aN) aN)
 (aH (FW 6 (au (top 47)) K1 ["_law_place"] ["_law_web"] [0] nd rfl jl rfl rfl rfl rfl Dc Dc (jg 0) Dc (vA Tp.z7 gk (cW (gv 0) aO)) (λ_ _ _ _ _ _=>(jh 0 Dc rfl Dc)) (λ_ _ _ _ _ _=>(tY (h_ (oY hr) (Zn ["_law_place","_law_web"] ["_law_tie"] ["_law_place"] [0] rfl rfl Dc Dc (jg 0) Dc (jM (cW (bw 1) aO)) (λ_ _ _ _ _ _=>(jh 0 Dc rfl Dc)) (λ_ _ _ _ _ _=>(tY (h_ (CP hr) (bw 1) (bw 0)))) (λ_ _ _ _ _ _=>(bw 0))) (qD aK)))) (λ_ _ _ _ _ _=>(bw 0)))
 (aH (iu 7 nd rfl jc rfl (qD (aF aO aK)))
 (aH (Tj o7 (h_ (oY hr) (cW (gv 7) aO) aO) (aH (iC (tX (J2 (h_ (oY hr) (cW (gv 7) (zV aO)) (cW (gv 1) aO)) (J1 (tX (CT (h_ S8 (cW (gv 7) (zV aO)) aO) (CQ (h_ (CP hr) (dj zT (yq Tp.z4 gk (aF (gv 7) aK)) aO) (gv 6)))))))) (aH (yr (zm8 (gv 7)))
 (aH (iC (h_ (oY hr) (gv 7) (qD aK)) (aH (cg vo)
 aN) aN)
 (aH (FZ (gv 7) (zV aO) (dj nR (cW (gv 7) (zV aO)) aO))
 aN))) (aH (FW 8 (au (top 47)) K1 ["_law_tie"] ["_law_row"] [7] nd rfl jl rfl rfl rfl rfl Dc Dc (jg 0) Dc (jM (cW (gv 0) aO)) (λ_ _ _ _ _ _=>(jh 0 Dc rfl Dc)) (λ_ _ _ _ _ _=>(tY (h_ (oY hr) (cW (bw 0) aO) (dj zT (yq Tp.z4 tK (aF (bw 1) aK)) aO)))) (λ_ _ _ _ _ _=>(bw 0)))
 (aH (FW 9 (au (top 47)) K1 ["_law_tie"] ["_law_ring","_law_row"] [1,7] nd rfl jl rfl rfl rfl rfl Dc Dc (jg 0) Dc (jM (gv 8)) (λ_ _ _ _ _ _=>(jh 0 Dc rfl Dc)) (λ_ _ _ _ _ _=>(tY (h_ (FN hr) (gc Fk.t37 Tp.VR hr FT tK (aF (cW (bw 1) aO) (aF (cW (bw 2) (cW (bw 0) aO)) (aF (cW (bw 2) (zV aO)) aK)))) (cW (bw 1) aO)))) (λ_ _ _ _ _ _=>(bw 0)))
 (aH (iC (h_ (Ny hr) (gv 9) (qD aK)) (aH (FZ (gv 7) (zV aO) (dj nR (cW (gv 7) (zV aO)) aO))
 aN) (aH (iC (h_ (oY hr) (yq Tp.z4 gk (aF (gv 7) aK)) (cW (gv 0) aO)) (aH (cg (CV Tp.z3 gk (aF (gv 7) aK)))
 aN) (aH (yr (J3 (gv 7) aO))
 aN))
 aN))
 aN))))
 aN))
 (aH (cg vo)
 aN))))))))
 Wb:=fJ Tp.OJ Vp zos λ_ _ _ _ _ _ hr=>(aH (iu 1 nd rfl jl rfl (qD (aF (jw (aF aO (aF (jw (aF aO (aF aO aK))) aK))) aK)))
 (aH (rE o7 rfl rfl (FP Tp.z7 gk aO (dj nR (dj FJ (gv 0) aO) aO)) (tZ 2 nd rfl jc rfl) (aH (rE o7 rfl rfl (FP Tp.z7 gk (dj yh aO (gv 2)) (dj nR (gv 0) aO)) (tZ 3 nd rfl jc rfl) (aH (iC (h_ (oY hr) (nj (au (top 48)) Vp ["_law_part"] ["_law_k","_law_d"] [3,2] rfl rfl rfl Dc Dc (jg 0) Dc (jM (jw (aF aO (aF aO (aF aO aK))))) (λ_ _ _ _ _ _=>(jh 0 Dc rfl Dc)) (λ_ _ _ _ _ _=>(tY (tX (CT (h_ (oY hr) (dj zU (bw 1) (bw 0)) aO) (CQ (h_ (oY hr) (dj zU (bw 2) (bw 0)) aO)))))) (λ_ _ _ _ _ _=>(bw 0))) (qD aK)) (aH (yr (J3 (gv 1) (jw (aF (dj FJ (dj yh aO (gv 3)) (gv 2)) (aF (jw (aF (gv 3) (aF (gv 2) aK))) aK)))))
 aN) aN)
 aN))
 aN))
 (aH (cg (nj (au (top 48)) Vp ["_law_length","_law_ring"] [] [] rfl rfl rfl Dc Dc (JV 0 1) Dc (jM (ZM Tp.z8 gk (aF (gv 1) aK))) (λ_ _ _ _ _ _=>(NZ 0 1 rfl Dc rfl rfl Dc Dc)) (λ_ _ _ _ _ _=>oZ) (λ_ _ _ _ _ _=>(bw 1))))
 aN)))
 t40:=fJ Tp.V1 ["_law_web","_law_ring"] zoA λ_ _ _ _ _ _ hr=>(aH (iC (h_ (oY hr) (cW (gv 0) aO) (jw aK)) (aH (cg (jw (aF aO (aF aO aK))))
 aN) aN)
 (aH (rE o7 rfl rfl (jM (S_ (gc Fk.Wb Tp.OJ hr dI gk (aF (cW (gv 0) aO) aK)) (NP aO) Zm)) (tZ 1 nd rfl jl rfl) (aH (iC (Nz (gc Fk.t38 Tp.V0 hr dI gk (aF (gv 0) (aF (gv 1) aK)))) (aH (cg (gv 1))
 aN) aN)
 aN))
 (aH (cg vo)
 aN)))
 t41:=fJ Tp.V2 Vq zop λ_ _ _ _ _ _ hr=>(aH (iu 1 nd rfl jl rfl (qD (aF (jw aK) aK)))
 (aH (rE o7 rfl rfl (vA Tp.z7 gk (gv 0)) (tZ 2 nd rfl jc rfl) (aH (rE o7 rfl rfl (FP Tp.z7 gk (dj nR (gv 2) aO) (gv 0)) (tZ 3 nd rfl jc rfl) (aH (iu 1 nd rfl jl rfl (dj nR (gv 1) (nj (au (top 50)) Vq ["_law_row"] ["_law_one","_law_other"] [2,3] rfl rfl rfl Dc Dc (jg 0) Dc (jM (gv 1)) (λ_ _ _ _ _ _=>(jh 0 Dc rfl Dc)) (λ_ _ _ _ _ _=>oZ) (λ_ _ _ _ _ _=>(dj nR (bw 0) (jw (aF (jw (aF (bw 1) (aF (bw 2) aK))) aK)))))))
 aN))
 aN))
 (aH (cg (nj (au (top 50)) Vq ["_law_row"] ["_law_many"] [0] rfl rfl rfl Dc Dc (jg 0) Dc (jM (gv 1)) (λ_ _ _ _ _ _=>(jh 0 Dc rfl Dc)) (λ_ _ _ _ _ _=>oZ) (λ_ _ _ _ _ _=>(jw (aF (bw 1) (aF (bw 0) aK))))))
 aN)))
 K6:=fJ Tp.Gj Ox zoB λ_ _ _ _ _ _ hr=>(aH (iu 1 nd rfl jc rfl (nj (au (top 51)) Ox ["_law_web"] [] [] rfl rfl rfl Dc Dc (jg 0) Dc (jM (gc Fk.t41 Tp.V2 hr dI gk (aF (gv 0) aK))) (λ_ _ _ _ _ _=>(jh 0 Dc rfl Dc)) (λ_ _ _ _ _ _=>oZ) (λ_ _ _ _ _ _=>(gc Fk.t40 Tp.V1 hr FT tK (aF (bw 0) aK)))))
 (aH (FW 2 (au (top 51)) Ox ["_law_ring"] ["_law_rings"] [1] nd rfl jl rfl rfl rfl rfl Dc Dc (jg 0) Dc (jM (gc Fk.Wb Tp.OJ hr dI gk (aF (gv 0) aK))) (λ_ _ _ _ _ _=>(jh 0 Dc rfl Dc)) (λ_ _ _ _ _ _=>(tY (h_ (CP hr) (bw 0) (bw 1)))) (λ_ _ _ _ _ _=>(jw (aF (bw 0) (aF (zjZ hr (bw 1) (aF (bw 0) aK)) aK)))))
 (aH (rE o7 rfl rfl (vA Tp.z7 gk aO) (tZ 3 nd rfl jl rfl) (aH (iu 4 nd rfl jl rfl (gc Fk.t31 Tp.VG hr dI gk (aF (gv 0) aK)))
 (aH (iC (tX (J2 (pJ (lB (zY rfl Tp.z0 gk (gv 4) (zX rfl Tp.z9 Ze gk dk)))) (J1 (h_ (Ny hr) (gv 4) (gv 2))))) (aH (cg rC)
 aN) aN)
 (aH (iC (pJ (lB (NQ rfl Tp.z6 gk (aF (nj (au (top 51)) Ox ["_law_one"] [] [] rfl rfl rfl Dc Dc (jg 0) Dc (jM (gv 4)) (λ_ _ _ _ _ _=>(jh 0 Dc rfl Dc)) (λ_ _ _ _ _ _=>oZ) (λ_ _ _ _ _ _=>(yj (zY rfl Tp.z0 tK (bw 0) (zX rfl Tp.z3 J0 tK dk)) (wj (gc Fk.t36 Tp.VP hr FT tK (aF (cW (bw 0) aO) aK)))))) aK)))) (aH (cg rC)
 aN) aN)
 (aH (yr (J3 (gv 4) vo))
 aN)))))
 (aH (cg rC)
 aN))))
 t43:=fJ Tp.O1 ["_law_script","_law_cell_here","_law_pen_here"] zoi λ_ _ _ _ _ _ hr=>(aH (iC (tX (J2 (pJ (lB (gc Fk.K6 Tp.Gj hr dI gk (aF aO aK)))) (J1 (pJ (lB (gc Fk.K6 Tp.Gj hr dI gk (aF aO aK))))))) (aH (cg rC)
 aN) aN)
 (aH (rE o7 rfl rfl (jM (dj nR (qD (aF (gc Fk.t33 Tp.VJ hr dI gk (aF (gv 0) (aF aO aK))) aK)) (S_ (gv 0) (NP aO) (NP aO)))) (tZ 1 nd rfl jl rfl) (aH (iu 2 nd rfl jl rfl (gc Fk.t34 Tp.VL hr dI gk (aF (gv 1) aK)))
 (aH (iC (tX (J2 (pJ (lB (gc Fk.K6 Tp.Gj hr dI gk (aF aO aK)))) (J1 (tX (CT (h_ (oY hr) (gc Fk.t35 Tp.VN hr dI gk (aF (gv 2) (aF aO aK))) aO) (CQ (pJ (lB (gc Fk.K6 Tp.Gj hr dI gk (aF aO aK)))))))))) (aH (cg rC)
 aN) aN)
 aN)))
 (aH (cg rC)
 aN)))
theorem ziI(Tp:Top K mg):∀k,Fs P w K mg base k
 |0=>⟨dX,dX,dX,dX,dX,dX,dX,dX,dX,dX,dX,zhw,dX,dX,dX,dX,dX,dX,dX,dX,dX,dX,dX,dX,dX,dX,dX,dX,dX,dX,dX,dX,dX,dX,dX,dX,dX,dX,dX,dX,dX,dX,dX,dX⟩
 |k+1=>zjz Tp (ziI Tp k)
end
theorem all_mk{l:PySem.W.OpenLaw}{w:World}{K:W.Frag}{h:Heap}{mg:Str->Option Value}{fa:Addr}(hm:∀ns:List Int,ns.length<=63->∃s',call aq T 60 true 43 [.d (.fl (ns.map D.int))] []=some (.ok (.d (.bl true)),s'))
  (S:rH fs ms xs lk bd K) (LH:kZ K h) (X:K.In h) (G:h.Ns mainGlobals mg) (Dp:mg "law"=some (.ref fa)) :
  ∃fd:FuncData,(∀(s:Shared) (u:Value),BindsTo s fd ⟨[u],[]⟩ [("_law_script",u)])/\∀base:Heap,K.In base->base.Ns mainGlobals mg->cF l.prog w K mg base (fj l.prog w) true 60 fa fd ["_law_script"] (vf K):=by
 have Tp:Top K mg:=zmy S LH X G;have e:=Dp.symm.trans Tp.O1.m;cases e;exact⟨_,CZ Tp.O1.f (λ_ _ _ _ _ _ _=>rfl),λbase _ _=>(ziI Tp 60).t43.imp (zjH hm)⟩
end eF
namespace eF
open PySem Mi
theorem zhL{k:Nat}{n i:Int}{ps:List (Int×Int)}(h:Web n ps):W (call aq T (k+1) true 9 [.d (fX n ps),.d (.int i)]) [] λv s=>v=.d (.tup ((bM i ps).map .int)):=by
 refine W.call T_9 rfl ?_;unfold b9 fX;have hl:(ps.map kW).length<=100:=by rw[fZ];have:=h.len;have:=h.h8;lia
 have hs:(100:Nat)<=sizeLine:=by decide
 refine Y ?_;refine wB (l:=ps) (f:=kW) (λp=>(endOf i p).map .int) (by rw[fZ] at hl;lia) ?_ (λp hp=>?_) ?_
 ·refine Y ?_;exact⟨rfl,rfl⟩
 ·obtain⟨a,b⟩:=p;refine Y ?_;refine⟨rfl,λhb=>?_,λhb=>?_⟩
  ·refine Y ?_;refine W.ite (λh1=>?_) (λh1=>?_)
   ·refine Y ?_;refine⟨rfl,_,rfl,?_⟩;have h1:a=i:=by simpa using h1
    simp[endOf,h1]
   ·refine Y ?_;refine⟨rfl,_,rfl,?_⟩;simp[nU] at h1 hb;rcases hb with hb|hb
    ·exact absurd hb h1
    ·simp[endOf,h1,hb]
  ·simp[nU] at hb;simp[endOf,hb]
 ·have he:ps.filterMap (λp=>(endOf i p).map D.int)=(bM i ps).map D.int:=by unfold bM;rw[List.map_filterMap]
  rw[he];refine Y ?_;refine TQ (zfX (zhx ?_ (zeX h i))) ?_
  ·have:=O_ (endOf i) ps;have:=h.len;have:=h.h8;unfold bM
   lia
  exact Y trivial
section
variable {al:Bool}{n k:Nat}{es:Nat->List Int}{A:Int->Int->Bool}{F:Fr}{p:Nat}{x y:Int}
theorem zng{k':Nat}(hx:0<=x/\x<k)(hy:0<=y/\y<k):W (call aq T (k'+1) true 12 [.d (jB al n k es A),.d (.int x),.d (.int y)]) [] λv s=>v=.d (.bl (A x y)):=by
 refine W.call zoc rfl ?_;unfold UW jB;refine Y ?_;refine lC (vG hx.1 (znq hx.1 hx.2)) ?_;refine Y ?_;refine lC (vG hy.1 (Ut hy.1 hy.2)) ?_;exact Y trivial
theorem K7{k':Nat}(B:Bo n k es A)(v:Fv n k F)(hp:p<n)(hx:0<=x/\x<k):W (call aq T (k'+2) true 13 [.d (jB al n k es A),.d (jA F),.d (.int p),.d (.int x)]) [] λv s=>v=.d (jA (settle es A F p x)):=by
 refine W.call zof rfl ?_;unfold U6 jA;have yL:(100:Nat)<=sizeLine:=by decide
 have hn:=B.hn;have hv:=v.len;have ebo:jB al n k es A=.ob 0 [.fl (Dt n es),.tup ((dZ k).map .int),.fl (wD k A),.bl al]:=rfl;refine Y ?_;refine KaU rfl ?_;refine Y ?_;refine⟨_,ziq gV (by rw[fZ];lia),?_⟩;refine Y ?_;refine lC (vG gV (zmg gV)) ?_;refine Y ?_;refine N_ (λi J s=>s=[.lst ((((es p).take i).foldl (gG (A x)) (F.set p none)).map bJ)]/\∃a5:Option Xv,J=[some (.d (jB al n k es A)),some (.d (.tup (F.map bJ))),some (.d (.int p)),some (.d (.int x)),some (.l 0),a5]) ⟨?_,_,rfl⟩ (λi z J s e hI=>?_) (λJ s hI=>?_)
 ·show [SO.lst ((F.map bJ).set p .non)]=_;rw[List.take_zero,List.foldl_nil,List.map_set];rfl
 ·obtain⟨rfl,a5,rfl⟩:=hI;rw[jD] at e;cases ei:(es p)[i]? with
  |none=>
   rw[rN,ei] at e;cases e
  |some q=>
   rw[rN,ei] at e;cases e;have hq:=B.mem p hp q (gH ei);have ht:(es p).take (i+1)=(es p).take i++[q]:=by rw[List.take_succ,ei];rfl
   rw[ht,List.foldl_append,List.foldl_cons,List.foldl_nil];have hG:(((es p).take i).foldl (gG (A x)) (F.set p none)).length=n:=by rw[Um,pO,hv]
   have lo:∀L,(((es p).take i).foldl (gG (A x)) (F.set p none))[q.toNat]?=some (some L)->(∀y∈L,0<=y/\y<k)/\L.length<=24:=λL hL=>by
    rw[Uo q.toNat (λe he=>(B.mem p hp e (List.mem_of_mem_take he)).1) (by rw[pO];lia),qL gV] at hL;have hz:∀L',F[q.toNat]?=some (some L')->(∀y∈L',0<=y/\y<k)/\L'.length<=24:=λL' h=>⟨v.lo _ L' h,v.ll _ L' h⟩;split at hL
    ·obtain⟨c,e1,e2⟩:=jO.mp hL;cases c with
     |none=>cases e2
     |some L'=>
      cases e2;exact⟨λy hy=>(hz L' e1).1 y (lK.mp hy).1,jU (Pq _ _) (hz L' e1).2⟩
    ·exact hz L hL
   generalize ((es p).take i).foldl (gG (A x)) (F.set p none)=G at hG lo ⊢;obtain⟨c,ec⟩ : ∃c,G[q.toNat]?=some c:=⟨_,eE gV⟩;refine Y ?_;refine lC (vG hq.1 (KN ec)) ?_;refine Y ?_;cases c with
   |none=>
    refine Y ?_;exact⟨_,rfl,by rw[zhv ec],_,rfl⟩
   |some L=>
    obtain⟨l1,l2⟩:=lo L ec;refine Y ?_;refine wB (l:=L) (f:=D.int) (λy=>if A x y=true then some (.int y) else none) gV ?_ (λy hy=>?_) ?_
    ·refine Y ?_;refine lC (vG hq.1 (KN ec)) ?_;show W (src (.d (.tup (L.map .int)))) _ _;refine Y ?_;exact⟨rfl,rfl⟩
    ·refine Y ?_;refine W.cm rfl rfl (W.c0 (zng hx (l1 y hy)) ?_);refine Y ?_;refine⟨rfl,λhb=>?_,λhb=>?_⟩
     ·refine Y ?_;exact⟨rfl,_,rfl,by rw[if_pos hb]⟩
     ·rw[if_neg (by rw[hb];decide)]
    ·rw[zdu (α:=Unit)];refine Y ?_;refine⟨_,ziq hq.1 (by rw[fZ];lia),?_⟩;refine Y ?_;refine⟨_,rfl,?_,_,rfl⟩;rw[zkd,ec];rfl
 ·obtain⟨rfl,a5,rfl⟩:=hI;rw[fZ,rN,GD];refine Y ?_;rfl
theorem zif{k':Nat}(B:Bo n k es A)(v:Fv n k F)(hp:p<n):W (call aq T (k'+1) true 14 [.d (jB al n k es A),.d (jA F),.d (.int p)]) [] λv s=>v=.d (.int (dR es F p)):=by
 refine W.call znX rfl ?_;unfold U7 jA jB;have yL:(100:Nat)<=sizeLine:=by decide
 have hn:=B.hn;have hv:=v.len;have hl:=B.len p hp;refine Y ?_;refine wB (l:=es p) (f:=D.int) (λe=>if ((λe:Int=>(F[e.toNat]?.join).isSome) e)=true then some (.int e) else none) gV ?_ (λe he=>?_) ?_
 ·refine Y ?_;refine lC (vG gV (zmg gV)) ?_;rw[rN];refine Y ?_;exact⟨rfl,rfl⟩
 ·have hq:=B.mem p hp e he;obtain⟨c,ec⟩ : ∃c,F[e.toNat]?=some c:=⟨_,eE gV⟩;refine Y ?_;refine lC (vG hq.1 (KN ec)) ?_;refine Y ?_;have hc:(F[e.toNat]?.join).isSome=c.isSome:=by rw[ec];rfl
  have hd:(!(bJ c).uR)=c.isSome:=by cases c<;>rfl
  rw[hd];refine⟨rfl,λhb=>?_,λhb=>?_⟩
  ·refine Y ?_;exact⟨rfl,_,rfl,if_pos (hc.trans hb)⟩
  ·exact if_neg (λz=>by rw[hc.symm.trans z] at hb;cases hb)
 ·rw[zdu (α:=Unit)];refine Y ?_;show Xv.d (.int (((((es p).filter _).map D.int).length:Nat):Int))=_;rw[fZ];rfl
theorem zjl{k':Nat}(B:Bo n k es A)(v:Fv n k F):W (call aq T (k'+2) true 15 [.d (jB al n k es A),.d (jA F)]) [] λv s=>v=.d (jA (bnd es F)):=by
 refine W.call zn5 rfl ?_;unfold U8;have yL:(100:Nat)<=sizeLine:=by decide
 have hn:=B.hn;have hv:=v.len;refine Y ?_;refine wB (l:=F.zipIdx 0) (f:=λq=>.tup [.int q.2,bJ q.1]) (λq=>some (bJ (if 0<dR es F q.2 then q.1 else none))) (by rw[List.length_zipIdx];lia) ?_ (λq hq=>?_) ?_
 ·refine KaK ?_;refine Y ?_;refine KaJ ?_;rw[zbB];exact⟨rfl,rfl⟩
 ·obtain⟨c,i⟩:=q;have hi:i<n:=by
   have:=List.mem_zipIdx hq
   lia
  refine Y ?_;refine⟨rfl,λ_=>?_,λhb=>by cases hb⟩;refine Y ?_;refine W.cm rfl rfl (W.c0 (zif B v hi) ?_);refine Y ?_;refine W.ite (λh1=>?_) (λh1=>?_)
  ·refine Y ?_;have h1:0<dR es F i:=by simpa using h1
   exact⟨rfl,_,rfl,by rw[if_pos h1]⟩
  ·refine Y ?_;have h1:¬0<dR es F i:=by simpa using h1
   exact⟨rfl,_,rfl,by rw[if_neg h1];rfl⟩
 ·rw[Dk];refine Y ?_;show Xv.d (.tup _)=_;unfold jA bnd;rw[List.mapIdx_eq_zipIdx_map,GQ];rfl
end
section
variable {al:Bool}{n k:Nat}{es:Nat->List Int}{A:Int->Int->Bool}{F:Fr}{p:Nat}{x y:Int}
theorem Wc{k':Nat}(B:Bo n k es A)(v:Fv n k F):W (call aq T (k'+2) true 16 [.d (jB al n k es A),.d (jA F)]) [] λv s=>(v=.d .non/\∀(i:Nat) L,F[i]?≠some (some L))\/∃(p:Nat) (L:List Int),v=.d (.int p)/\F[p]?=some (some L):=by
 refine W.call zn8 rfl ?_;unfold U9;have yL:(100:Nat)<=sizeLine:=by decide
 have hn:=B.hn;have hv:=v.len;refine Y ?_;refine KaJ ?_;refine N_ (λi J s=>∃(rs:List (List Int)) (a3 a4:Option Xv),s=[.lst (rs.map λr=>D.tup (r.map .int))]/\J=[some (.d (jB al n k es A)),some (.d (jA F)),some (.l 0),a3,a4]/\rs.length<=i/\(∀r∈rs,∃(a b:Int) (p:Nat) (L:List Int),r=[a,b,(p:Int)]/\F[p]?=some (some L))/\(rs=[]->∀j,j<i->∀L,F[j]?≠some (some L))) ⟨[],_,_,rfl,rfl,cj _,by simp,λ_ j hj=>absurd hj gV⟩ (λi z J s e hI=>?_) (λJ s hI=>?_)
 ·obtain⟨rs,a3,a4,rfl,rfl,hl,h1,h2⟩:=hI;rw[zfE,jD] at e;cases ei:F[i]? with
  |none=>rw[ei] at e;cases e
  |some c=>
   rw[ei] at e;cases e;have hi:i<n:=by have:=(fG.mp ei).1;lia
   cases c with
   |none=>
    refine Y ?_;refine⟨_,rfl,rs,_,_,rfl,rfl,by lia,h1,λer j hj L=>?_⟩;by_cases z:j=i
    ·rw[z,ei];exact λq=>by cases q
    ·exact h2 er j gV L
   |some L=>
    refine Y ?_;refine W.cm rfl rfl (W.c0 (zif (p:=0+i) B v gV) ?_);refine Y ?_;refine⟨by rw[fZ];lia,?_⟩;refine Y ?_;refine⟨_,rfl,rs++[[(((L.map D.int).length:Nat):Int),-(dR es F (0+i):Int),((0+i:Nat):Int)]],_,_,?_,rfl,by simp;lia,λr hr=>?_,λer=>by simp at er⟩
    ·rw[Ed];rfl
    ·rcases nG.mp hr with hr|hr
     ·exact h1 r hr
     ·rw[rM.mp hr];exact⟨_,_,i,L,by rw[Nat.zero_add],ei⟩
 ·obtain⟨rs,a3,a4,rfl,rfl,hl,h1,h2⟩:=hI;rw[zeW,fZ] at h2;refine Y ?_;refine W.Ca ?_;refine Y ?_;refine⟨_,rfl,?_⟩;by_cases er:rs=[]
  ·subst er;refine Y ?_;refine .inl ⟨rfl,λi L e=>?_⟩;exact h2 rfl i (fG.mp e).1 L e
  ·have et:(!(rs.map λr=>D.tup (r.map .int)).isEmpty)=true:=by
    cases rs with
    |nil=>exact absurd rfl er
    |cons=>rfl
   rw[et];obtain⟨r,hr,em⟩:=zlb er;refine Y ?_;refine lC em ?_;obtain⟨a,b,p,L,rfl,ep⟩:=h1 r hr;refine Y ?_;exact .inr ⟨p,L,rfl,ep⟩
noncomputable def Gk(k:Nat):Option (List Int)->Bool
 |none=>true
 |some L=>decide (L=dZ k)
theorem zdt{k':Nat}(B:Bo n k es A)(v:Fv n k F):W (call aq T (k'+1) true 17 [.d (jB al n k es A),.d (jA F)]) [] λv s=>v=.d (.bl (F.all (Gk k))):=by
 refine W.call zoo rfl ?_;unfold U_;have yL:(100:Nat)<=sizeLine:=by decide
 have hn:=B.hn;have hv:=v.len;refine Y ?_;refine wB (l:=F) (f:=bJ) (λc=>some (.bl (Gk k c))) gV ?_ (λc hc=>?_) ?_
 ·refine Y ?_;show W (src (.d (.tup (F.map bJ)))) _ _;refine Y ?_;exact⟨rfl,rfl⟩
 ·cases c with
  |none=>
   refine Y ?_;refine⟨rfl,λ_=>?_,λhb=>by cases hb⟩;refine Y ?_;exact⟨rfl,_,rfl,rfl⟩
  |some L=>
   refine Y ?_;refine⟨rfl,λ_=>?_,λhb=>by cases hb⟩;refine Y ?_;refine lC (znT (f:=id)) ?_;exact⟨rfl,_,rfl,rfl⟩
 ·rw[Dk];refine Y ?_;refine lC zkV ?_;rfl
end
section
variable {n k d:Int}{ps:List (Int×Int)}
theorem zgs{k':Nat}(h:Web n ps):W (call aq T (k'+2) true 10 [.d (fX n ps)]) [] λv s=>v=.d (.fl (Dt n.toNat λi=>bM i ps)):=by
 refine W.call zol rfl ?_;unfold b10;have yL:(100:Nat)<=sizeLine:=by decide
 have h1:=h.h1;have h8:=h.h8;refine Y ?_;refine wB (l:=List.range (n-0).toNat) (f:=λ(j:Nat)=>.int (0+j)) (λ(i:Nat)=>some (.tup ((bM i ps).map .int))) (by rw[vP];lia) ?_ (λj hj=>?_) ?_
 ·unfold fX;refine Y ?_;refine⟨by rw[uc gV gV,uc gV gV];rfl,?_⟩;exact⟨rfl,rfl⟩
 ·refine Y ?_;refine⟨rfl,λ_=>?_,λhb=>by cases hb⟩;refine Y ?_;refine W.c0 (zhL h) ?_;exact⟨rfl,_,rfl,by rw[show (0:Int)+j=j by lia]⟩
 ·rw[show (List.range (n-0).toNat).filterMap (λ(i:Nat)=>some (D.tup ((bM i ps).map .int)))=Dt n.toNat λi=>bM i ps by rw[Dk,show n-0=n by lia];rfl];exact Y trivial
theorem zmk{k':Nat}{al:Bool}{A:Int->Int->Bool}(h:Web n ps){m:Nat}(hm:m<=24):W (call aq T (k'+3) true 11 [.d .any,.d (fX n ps),.d (.fl (wD m A)),.d (.bl al)]) [] λv s=>v=.d (.tup [.fl (Dt n.toNat λi=>bM i ps),.tup ((dZ m).map .int),.fl (wD m A),.bl al]):=by
 refine W.call zn1 rfl ?_;unfold UL;refine Y ?_;refine W.c0 (zgs h) ?_;have em:(wD m A).length=m:=by unfold wD;simp
 refine Z_ (KaY (ds:=[.int ((wD m A).length:Nat)]) rfl (lC (d:=.tup ((dZ m).map .int)) (by rw[em];exact zny gV) ?_));exact Y trivial
theorem ziO{k':Nat}(h:Web n ps)(hd:1<=d)(Gm:d<=k)(hk:k<=24):W (call aq T (k'+4) true 18 [.d (fX n ps),.d (jz k d)]) [] λv s=>v=.d (boD n.toNat k.toNat (λi=>bM i ps) (cX k d)):=by
 refine W.call zon rfl ?_;unfold Va jz;have yL:(100:Nat)<=sizeLine:=by decide
 have e0:(k-0).toNat=k.toNat:=by lia
 refine Y ?_;refine wB (l:=List.range (k-0).toNat) (f:=λ(j:Nat)=>.int (0+j)) (λ(j:Nat)=>some (.bl ((λj:Int=>decide (d<=j/\d<=k-j)) j))) (by rw[vP];lia) ?_ (λj hj=>?_) ?_
 ·refine Y ?_;refine⟨by rw[uc gV gV,uc gV gV];rfl,?_⟩;exact⟨rfl,rfl⟩
 ·refine Y ?_;refine⟨rfl,λ_=>?_,λhb=>by cases hb⟩;refine Y ?_;refine⟨rfl,_,rfl,?_⟩
  congr 2
  rw[wG]
  split<;>lia
 ·rw[Dk,e0];refine Y ?_;refine W.mk (vs:=[.d (fX n ps),.d (.fl (wD k.toNat (cX k d))),.d (.bl true)]) ?_ rfl (zmk h gV);refine Y ?_;refine wB (l:=List.range (k-0).toNat) (f:=λ(j:Nat)=>.int (0+j)) (λ(a:Nat)=>some (.fl ((List.range k.toNat).map λ(b:Nat)=>.bl (cX k d a b)))) (by rw[vP];lia) ?_ (λa ha=>?_) ?_
  ·refine Y ?_;refine⟨by rw[uc gV gV,uc gV gV];rfl,?_⟩;exact⟨rfl,rfl⟩
  ·have ha:=yV.mp ha;refine Y ?_;refine⟨rfl,λ_=>?_,λhb=>by cases hb⟩;refine Y ?_;refine wB (l:=List.range (k-0).toNat) (f:=λ(j:Nat)=>.int (0+j)) (λ(b:Nat)=>some (.bl (cX k d a b))) (by rw[vP];lia) ?_ (λb hb=>?_) ?_
   ·refine Y ?_;refine⟨by rw[uc gV gV,uc gV gV];rfl,?_⟩;exact⟨rfl,rfl⟩
   ·have hb:=yV.mp hb;refine Y ?_;refine⟨rfl,λ_=>?_,λhb=>by cases hb⟩;refine Y ?_;by_cases c:(0:Int)<=(0+a:Int)-(0+b)
    ·refine lC (vG c (Ut (f:=λj=>decide (d<=j/\d<=k-j)) c gV)) ?_;refine⟨rfl,_,rfl,?_⟩;unfold cX
     congr 2
     rw[wG,Dj hd]
     lia
    ·refine lC (znD (x:=.bl (decide (d<=a-b+k/\d<=k-(a-b+k)))) gV (by rw[fZ,vP];lia) ?_) ?_
     ·rw[fZ,vP];refine(Ut (f:=λj=>decide (d<=j/\d<=k-j)) gV gV).trans ?_
      congr 3
      simp
      lia
     ·refine⟨rfl,_,rfl,?_⟩;unfold cX
      congr 2
      rw[wG,Dj hd]
      lia
   ·rw[Dk,e0];refine Y ?_;exact⟨rfl,_,rfl,rfl⟩
  ·rw[Dk,e0];refine Y ?_;exact⟨rfl,rfl⟩
end
theorem zjj{k:Nat}{i:Int}:W (call aq T (k+1) true 0 [.d (.int i)]) [] λv s=>v=.d (.bl true):=W.eq (a:=.d (.bl true)) (s':=[]) rfl rfl
theorem Wd{k:Nat}{a b:D}:W (call aq T (k+1) true 2 [.d (.tup [a,b]),.d (.int 2)]) [] λv s=>v=.d (.bl true):=W.eq (a:=.d (.bl true)) (s':=[]) rfl rfl
theorem iQ{k:Nat}{i a b:Int}:W (call aq T (k+2) true 1 [.d (.int i),.d (.int a),.d (.int b)]) [] λv s=>v=.d (.bl (decide (a<=i/\i<=b))):=by
 refine W.call T_1 rfl ?_;unfold b1;refine Y ?_;refine W.c0 zjj ?_;refine Y ?_;refine W.ite (λh1=>?_) (λh1=>?_)
 ·refine Y ?_;have:=jP h1;simp[this]
 ·refine Y ?_;simp at h1;have:¬(a<=i/\i<=b):=by lia
  simp[this]
theorem zlx{k:Nat}{i:Int}(h1:1<=i)(h2:i<=8):W (call aq T (k+3) true 4 [.d (.int i)]) [] λv s=>v=.d (.bl true):=by
 refine W.call T_4 rfl ?_;unfold b4;refine Y ?_;exact t_ rfl (iQ.imp λv s e=>⟨_,e,by rw[nH (And.intro h1 h2)]⟩)
theorem zgL{k:Nat}{n i:Int}:W (call aq T (k+3) true 5 [.d (.int n),.d (.int i)]) [] λv s=>v=.d (.bl (decide (0<=i/\i<n))):=by
 refine W.call T_5 rfl ?_;unfold b5;refine Y ?_;exact t_ rfl (iQ.imp λv s e=>⟨_,e,by rw[wG.mpr (show 0<=i/\i<=n-1↔0<=i/\i<n by lia)]⟩)
theorem znj{k:Nat}{n:Int}{p:Int×Int}(h:0<=p.1/\p.1<p.2/\p.2<n):W (call aq T (k+4) true 6 [.d (.int n),.d (kW p)]) [] λv s=>v=.d (.bl true):=by
 obtain⟨a,b⟩:=p;obtain⟨h1,h2,h3⟩:=h;unfold kW;dsimp only at h1 h2 h3 ⊢;refine W.call T_6 rfl ?_;unfold b6;refine Y ?_;refine W.c0 Wd ?_;refine Y ?_;refine W.c0 zgL ?_;rw[nH (show 0<=a/\a<n by lia)];refine Y ?_;refine W.c0 zgL ?_;rw[nH (show 0<=b/\b<n by lia)];refine Y ?_;rw[nH h2]
theorem zjL{k:Nat}{n:Int}{ps:List (Int×Int)}(h:Web n ps):W (call aq T (k+5) true 3 [.d (fX n ps)]) [] λv s=>v=.d (.bl true):=by
 refine W.call T_3 rfl ?_;unfold b3 fX;have hl:(ps.map kW).length<=100:=by rw[fZ];have:=h.len;have:=h.h8;lia
 have hs:(100:Nat)<=sizeLine:=by decide
 refine Y ?_;refine W.c0 Wd ?_;refine Y ?_;refine W.c0 (zlx h.h1 h.h8) ?_;refine Y ?_;refine Kas (c:=ps.map kW) (λ_=>.bl true) gV ?_ (λx hx=>?_) ?_
 ·refine Y ?_;exact⟨rfl,rfl⟩
 ·obtain⟨p,hp,rfl⟩:=rQ.mp hx;refine Y ?_;exact t_ rfl ((znj (h.tie p hp)).imp λv s e=>⟨_,e,rfl,rfl⟩)
 ·refine Y ?_;refine lC (zih ?_) ?_
  ·intro x hx;obtain⟨_,_,e⟩:=rQ.mp hx;exact e.symm
  refine Y ?_;refine Kas (c:=List.zipWith (λ(p q:D)=>D.tup [p,q]) (ps.map kW) ((ps.map kW).drop 1)) (λ_=>.bl true) (by rw[List.length_zipWith];lia) ?_ (λx hx=>?_) ?_
  ·refine Y ?_;rw[T7];exact⟨rfl,rfl⟩
  ·obtain⟨p,q,rfl,hpq⟩:=ziy h.inc x hx;refine Y ?_;rw[znI hpq];exact⟨rfl,rfl⟩
  ·refine Y ?_;refine lC (zih ?_) ?_
   ·intro x hx;obtain⟨_,_,e⟩:=rQ.mp hx;exact e.symm
   rfl
theorem zen{k:Nat}{n:Int}{ps:List (Int×Int)}(h:Web n ps):W (call aq T (k+6) true 7 [.d (fX n ps)]) [] λv s=>∃d,v=.d d:=by
 refine W.call T_7 rfl ?_;unfold b7;refine Y ?_;refine W.c0 (zjL h) ?_;refine Y ?_;exact⟨_,rfl⟩
theorem zgZ{k':Nat}{k d:Int}(hd:1<=d)(Gm:d<=k)(hk:k<=24):W (call aq T (k'+3) true 19 [.d (jz k d)]) [] λv s=>v=.d (.bl true):=by
 refine W.call znW rfl ?_;unfold Vb jz;refine Y ?_;refine W.c0 Wd ?_;refine Y ?_;refine W.c0 iQ ?_;rw[nH (show 1<=k/\k<=24 by lia)];refine Y ?_;refine W.c0 iQ ?_;rw[nH (show 1<=d/\d<=k by lia)]
theorem zgf{k':Nat}{k d:Int}(hd:1<=d)(Gm:d<=k)(hk:k<=24):W (call aq T (k'+4) true 20 [.d (jz k d)]) [] λv s=>∃d,v=.d d:=by
 refine W.call znY rfl ?_;unfold Vc;refine Y ?_;refine W.c0 (zgZ hd Gm hk) ?_;refine Y ?_;exact⟨_,rfl⟩
section
variable {al:Bool}{n k:Nat}{es:Nat->List Int}{A:Int->Int->Bool}
def Told(al:Bool)(n k:Nat)(es:Nat->List Int)(A:Int->Int->Bool)(f l m c:Nat):Prop:=∀F kvs,Fv n k F->unset F<=m->lJ es A kvs->kvs.length+c<sizeLine->
 W (call aq T l true f [.d (jB al n k es A),.l 0,.d (jA F)]) [.dct kvs] λv s=>∃b kvs',v=.d (.bl b)/\(b=true↔Sat es A F)/\s=[.dct kvs']/\lJ es A kvs'/\kvs'.length<=kvs.length+c
theorem Wf{l m c:Nat}(B:Bo n k es A)(H:Told al n k es A 25 (l+2) m c){F:Fr}{p:Nat}{L:List Int}{kvs:iU}(v:Fv n k F)(hu:unset F<=m+1)(hL:F[p]?=some (some L))(ha:lJ es A kvs)(hl:kvs.length+k*c<sizeLine) :
  W (call aq T (l+3) true 24 [.d (jB al n k es A),.l 0,.d (jA F),.d (.int p)]) [.dct kvs] λv s=>∃kvs',s=[.dct kvs']/\lJ es A kvs'/\kvs'.length<=kvs.length+k*c /\
   ((v=.d .non/\∀x∈L,¬Sat es A (settle es A F p x))\/∃x∈L,v=.d (.int x)/\Sat es A (settle es A F p x)/\∀y∈L,y<x->¬Sat es A (settle es A F p y)):=by
 refine W.call Vm rfl ?_;unfold Ou;have yL:(100:Nat)<=sizeLine:=by decide
 have hp:=rJ v.len hL;have hLk:L.length<=k:=zil (v.so p L hL) (v.lo p L hL);refine Y ?_;refine lC (zml gV (KN hL)) ?_;show W (src (.d (.tup (L.map .int)))) _ _;refine Y ?_;refine Ka6 (λi J s=>∃(kvs':iU) (a4:Option Xv),s=[.dct kvs']/\J=[some (.d (jB al n k es A)),some (.l 0),some (.d (jA F)),some (.d (.int p)),a4]/\lJ es A kvs'/\kvs'.length<=kvs.length+i*c/\∀j y,j<i->L[j]?=some y->¬Sat es A (settle es A F p y)) ⟨kvs,_,rfl,rfl,ha,by lia,λj _ hj=>absurd hj gV⟩ (λi z J s e hI=>?_) (λJ s hI=>?_)
 ·obtain⟨kvs',a4,rfl,rfl,h1,h2,h3⟩:=hI;rw[jD] at e;cases ei:L[i]? with
  |none=>rw[ei] at e;cases e
  |some x=>
   rw[ei] at e;cases e;have hi:i<L.length:=(fG.mp ei).1;have hx:=gH ei;have hc:(i+1)*c<=k*c:=Lj _ gV;have nJ:(i+1)*c=i*c+c:=Nat.succ_mul ..;refine Y ?_;refine W.cm rfl rfl (W.c0 (K7 B v hp (v.lo p L hL x hx)) ?_);refine Y ?_;have hu2:=KJ (es:=es) (A:=A) (x:=x) hL;refine yE (s:=[]) rfl ((H _ kvs' (KH B v hp) gV h1 gV).imp λv1 s1=>?_);rintro⟨b,dH,rfl,hb,rfl,g1,g2⟩;refine⟨_,_,rfl,rfl,?_⟩;refine Y ?_;cases b with
   |true=>
    refine Y ?_;refine .inr ⟨_,rfl,?_⟩;refine⟨dH,rfl,g1,by lia,.inr ⟨x,hx,rfl,hb.mp rfl,λy hy cL=>?_⟩⟩;obtain⟨j,hj,ej⟩:=yR hy;refine h3 j y ?_ (by rw[eE hj,ej]);obtain⟨_,ex⟩:=fG.mp ei;exact Nat.lt_of_not_le λq=>by
     rcases Nat.lt_or_eq_of_le q with q|q
     ·have:=List.pairwise_iff_getElem.mp (v.so p L hL) i j hi hj q
      lia
     ·subst q;lia
   |false=>
    refine Y ?_;refine .inl ⟨_,rfl,dH,_,rfl,rfl,g1,by lia,λj y hj ej=>?_⟩;by_cases q:j=i
    ·subst q;rw[ei] at ej;cases ej;exact λz=>by cases hb.mpr z
    ·exact h3 j y gV ej
 ·obtain⟨kvs',a4,rfl,rfl,h1,h2,h3⟩:=hI;rw[fZ] at h2 h3;have hc:L.length*c<=k*c:=Lj _ hLk;refine Y ?_;refine⟨kvs',rfl,h1,by lia,.inl ⟨rfl,λx hx=>?_⟩⟩;obtain⟨j,hj,ej⟩:=yR hx;exact h3 j x hj (by rw[eE hj,ej])
theorem zib{l:Nat}(B:Bo n k es A):Told al n k es A 26 (l+3) 0 0:=by
 intro F kvs v hu ha hl;refine W.call Ov rfl ?_;unfold KZ;refine Y ?_;refine W.cm rfl rfl (t_ rfl ((Wc B v).imp λx s=>?_));rintro(⟨rfl,hz⟩|⟨p,L,rfl,hL⟩)
 ·refine⟨_,rfl,?_⟩;refine Y ?_;exact⟨true,kvs,rfl,⟨λ_=>Uq hz,λ_=>rfl⟩,rfl,ha,by lia⟩
 ·exact absurd hL (zfv gV p L)
theorem zhV{l m c:Nat}(B:Bo n k es A)(nA:1<=k)(dN:al=true->∀t a b:Int,0<=a->a<k->0<=b->b<k->A ((a+t)%k) ((b+t)%k)=A a b)(H:∀j,Told al n k es A 25 (l+2+j) m c):Told al n k es A 26 (l+4) (m+1) (k*c):=by
 intro F kvs v hu ha hl;refine W.call Ov rfl ?_;unfold KZ;have hkc:1*c<=k*c:=Lj _ nA;refine Y ?_;refine W.cm rfl rfl (t_ rfl ((Wc B v).imp λx s=>?_));rintro(⟨rfl,hz⟩|⟨p,L,rfl,hL⟩)
 ·refine⟨_,rfl,?_⟩;refine Y ?_;exact⟨true,kvs,rfl,⟨λ_=>Uq hz,λ_=>rfl⟩,rfl,ha,by lia⟩
 ·refine⟨_,rfl,?_⟩;have hp:=rJ v.len hL;cases al with
  |false=>
   refine Y ?_;refine yE (s:=[]) rfl ((Wf B (H 0) v hu hL ha gV).imp λv1 s1=>?_);rintro⟨dH,rfl,g1,g2,h⟩;rcases h with ⟨rfl,nM⟩|⟨x,hx,rfl,hs,_⟩
   ·refine⟨_,_,rfl,rfl,?_⟩;refine Y ?_;refine⟨false,dH,rfl,⟨λz=>(by cases z),λz=>?_⟩,rfl,g1,g2⟩;obtain⟨x,hx,q⟩:=(Gi B v hp hL).mp z;exact absurd q (nM x hx)
   ·refine⟨_,_,rfl,rfl,?_⟩;refine Y ?_;exact⟨true,dH,rfl,⟨λ_=>(Gi B v hp hL).mpr ⟨x,hx,hs⟩,λ_=>rfl⟩,rfl,g1,g2⟩
  |true=>
  have dN:=dN rfl;refine Y ?_;refine W.cm rfl rfl (W.c0 (zdt B v) ?_);refine Y ?_;cases eb:F.all (Gk k) with
  |true=>
   have all:∀(i:Nat) L,F[i]?=some (some L)->L=dZ k:=λi L h=>jP (iz.mp eb _ (gH h));refine Y ?_;refine W.cm rfl rfl (W.c0 (K7 B v hp ⟨by lia,by lia⟩) ?_);refine Y ?_;have hu2:=KJ (es:=es) (A:=A) (x:=0) hL;refine yE (s:=[]) rfl ((H 1 _ kvs (KH B v hp) gV ha gV).imp λv1 s1=>?_);rintro⟨b,dH,rfl,hb,rfl,g1,g2⟩;refine⟨_,_,rfl,rfl,?_⟩;refine Y ?_;exact⟨b,dH,rfl,hb.trans (Ur B v hp nA dN all (all p L hL▸hL)).symm,rfl,g1,by lia⟩
  |false=>
   refine Y ?_;refine yE (s:=[]) rfl ((Wf B (H 0) v hu hL ha gV).imp λv1 s1=>?_);rintro⟨dH,rfl,g1,g2,h⟩;rcases h with ⟨rfl,nM⟩|⟨x,hx,rfl,hs,_⟩
   ·refine⟨_,_,rfl,rfl,?_⟩;refine Y ?_;refine⟨false,dH,rfl,⟨λz=>(by cases z),λz=>?_⟩,rfl,g1,g2⟩;obtain⟨x,hx,q⟩:=(Gi B v hp hL).mp z;exact absurd q (nM x hx)
   ·refine⟨_,_,rfl,rfl,?_⟩;refine Y ?_;exact⟨true,dH,rfl,⟨λ_=>(Gi B v hp hL).mpr ⟨x,hx,hs⟩,λ_=>rfl⟩,rfl,g1,g2⟩
theorem zh3{l m c:Nat}(B:Bo n k es A)(nA:1<=k)(dN:∀t a b:Int,0<=a->a<k->0<=b->b<k->A ((a+t)%k) ((b+t)%k)=A a b)(H:Told true n k es A 25 (l+3) m c){F:Fr}{kvs:iU}(v:Fv n k F)(hu:unset F<=m+1)(eb:F.all (Gk k)=true)(ha:lJ es A kvs)(hl:kvs.length+c<sizeLine) :
  W (call aq T (l+4) true 26 [.d (jB true n k es A),.l 0,.d (jA F)]) [.dct kvs] λv s=>∃b kvs',v=.d (.bl b)/\(b=true↔Sat es A F)/\s=[.dct kvs']/\lJ es A kvs'/\kvs'.length<=kvs.length+c:=by
 refine W.call Ov rfl ?_;unfold KZ;refine Y ?_;refine W.cm rfl rfl (t_ rfl ((Wc B v).imp λx s=>?_));rintro(⟨rfl,hz⟩|⟨p,L,rfl,hL⟩)
 ·refine⟨_,rfl,?_⟩;refine Y ?_;exact⟨true,kvs,rfl,⟨λ_=>Uq hz,λ_=>rfl⟩,rfl,ha,by lia⟩
 ·refine⟨_,rfl,?_⟩;have hp:=rJ v.len hL;refine Y ?_;refine W.cm rfl rfl (W.c0 (zdt B v) ?_);refine Y ?_;have all:∀(i:Nat) L,F[i]?=some (some L)->L=dZ k:=λi L h=>jP (iz.mp eb _ (gH h));rw[eb];refine Y ?_;refine W.cm rfl rfl (W.c0 (K7 B v hp ⟨by lia,by lia⟩) ?_);refine Y ?_;have hu2:=KJ (es:=es) (A:=A) (x:=0) hL;refine yE (s:=[]) rfl ((H _ kvs (KH B v hp) gV ha gV).imp λv1 s1=>?_);rintro⟨b,dH,rfl,hb,rfl,g1,g2⟩;refine⟨_,_,rfl,rfl,?_⟩;refine Y ?_;exact⟨b,dH,rfl,hb.trans (Ur B v hp nA dN all (all p L hL▸hL)).symm,rfl,g1,by lia⟩
theorem zlo{l c:Nat}(B:Bo n k es A){F:Fr}{kvs:iU}(v:Fv n k F)(ha:lJ es A kvs)(hl:kvs.length+(1+c)<sizeLine)(H:W (call aq T (l+3) true 26 [.d (jB al n k es A),.l 0,.d (jA (bnd es F))]) [.dct kvs] λv s=>∃b kvs',v=.d (.bl b)/\(b=true↔Sat es A (bnd es F))/\s=[.dct kvs']/\lJ es A kvs'/\kvs'.length<=kvs.length+c) :
  W (call aq T (l+4) true 25 [.d (jB al n k es A),.l 0,.d (jA F)]) [.dct kvs] λv s=>∃b kvs',v=.d (.bl b)/\(b=true↔Sat es A F)/\s=[.dct kvs']/\lJ es A kvs'/\kvs'.length<=kvs.length+(1+c):=by
 refine W.call zoj rfl ?_;unfold Vf;refine Y ?_;refine lC (zmL (f:=id)) ?_;by_cases e0:some []∈F
 ·rw[nH e0];refine Y ?_;obtain⟨i,hi,ei⟩:=yR e0;refine⟨false,kvs,rfl,⟨λz=>(by cases z),λz=>absurd z (zi9 (i:=i) (by rw[eE hi,ei]))⟩,rfl,ha,by lia⟩
 ·rw[uf e0];have ne:∀(i:Nat) L,F[i]?=some (some L)->L≠[]:=λi L h q=>by subst q;exact e0 (gH h)
  have sb:=zi2 B v ne;refine Y ?_;refine W.cm rfl rfl (W.c0 (zjl B v) ?_);refine Y ?_;refine W.sJ rfl rfl (Oh _) rfl ?_;cases eg:bL ((bnd es F).map cellK) kvs with
  |some d=>
   obtain⟨b,rfl,hb⟩:=ha _ _ eg;refine Y ?_;refine W.jH rfl rfl (Oh _) rfl eg ?_;refine Y ?_;exact⟨b,kvs,rfl,hb.trans sb,rfl,ha,by lia⟩
  |none=>
   refine Y ?_;refine WS.dput rfl rfl (Oh _) ?_;refine Y ?_;refine yE (s:=[]) rfl (H.imp λv1 s1=>?_);rintro⟨b,dH,rfl,hb,rfl,g1,g2⟩;refine⟨_,_,rfl,rfl,?_⟩;refine⟨_,dH,rfl,rfl,by lia,?_⟩;refine Y ?_;refine W.jH (v:=.bl b) rfl rfl (Oh _) rfl (by rw[zeO,if_pos rfl]) ?_;refine Y ?_;have:=zh4 (q:=(bnd es F).map cellK) (d:=.bl b) (kvs:=dH);exact⟨b,_,rfl,hb.trans sb,rfl,ziZ g1 hb,by lia⟩
theorem zk4{l m c:Nat}(B:Bo n k es A)(H:Told al n k es A 26 (l+3) m c):Told al n k es A 25 (l+4) m (1+c):=by
 intro F kvs v hu ha hl;have hu2:=zdN (es:=es) (F:=F);exact zlo B v ha hl (H _ kvs (zim v) gV ha gV)
theorem O6(B:Bo n k es A)(nA:1<=k)(dN:al=true->∀t a b:Int,0<=a->a<k->0<=b->b<k->A ((a+t)%k) ((b+t)%k)=A a b):∀m j,Told al n k es A 25 (3*m+4+j) m (cnt k m)
 |0,j=>by
  rw[show 3*0+4+j=j+4 by lia];exact zk4 (c:=0) B (zib B)
 |m+1,j=>by
  rw[show 3*(m+1)+4+j=(3*m+3+j)+4 by lia];refine zk4 B ?_;rw[show 3*m+3+j+3=(3*m+2+j)+4 by lia];refine zhV B nA dN λi=>?_;rw[show 3*m+2+j+2+i=3*m+4+(j+i) by lia];exact O6 B nA dN m (j+i)
theorem zhP{m j:Nat}(B:Bo n k es A)(nA:1<=k)(dN:∀t a b:Int,0<=a->a<k->0<=b->b<k->A ((a+t)%k) ((b+t)%k)=A a b){F:Fr}{kvs:iU}(v:Fv n k F)(hu:unset F<=m+1)(eb:F.all (Gk k)=true)(ha:lJ es A kvs)(hl:kvs.length+(1+cnt k m)<sizeLine) :
  W (call aq T (3*(m+1)+4+j) true 25 [.d (jB true n k es A),.l 0,.d (jA F)]) [.dct kvs] λv s=>∃b kvs',v=.d (.bl b)/\(b=true↔Sat es A F)/\s=[.dct kvs']/\lJ es A kvs'/\kvs'.length<=kvs.length+(1+cnt k m):=by
 rw[show 3*(m+1)+4+j=(3*m+3+j)+4 by lia];refine zlo B v ha hl ?_;rw[show 3*m+3+j+3=(3*m+2+j)+4 by lia];have hu2:=zdN (es:=es) (F:=F);refine zh3 B nA dN ?_ (zim v) (jU hu2 hu) ?_ ha gV
 ·rw[show 3*m+2+j+3=3*m+4+(j+1) by lia];exact O6 B nA (λ_=>dN) m (j+1)
 ·refine iz.mpr λc hc=>?_;cases c with
  |none=>rfl
  |some L=>
   obtain⟨i,hi,ei⟩:=yR hc;have:=Ds (es:=es) (F:=F) (i:=i) (L:=L) (by rw[eE hi,ei]);exact iz.mp eb _ (gH this.1)
theorem zmr{l m c:Nat}(B:Bo n k es A)(nA:1<=k)(dN:∀t a b:Int,0<=a->a<k->0<=b->b<k->A ((a+t)%k) ((b+t)%k)=A a b)(H:Told true n k es A 25 (l+2) m c){F:Fr}{p:Nat}{kvs:iU}(v:Fv n k F)(hu:unset F<=m+1)(all:∀(i:Nat) L,F[i]?=some (some L)->L=dZ k)(hL:F[p]?=some (some (dZ k)))(tM:Sat es A F)(ha:lJ es A kvs)(hl:kvs.length+c<sizeLine) :
  W (call aq T (l+3) true 24 [.d (jB true n k es A),.l 0,.d (jA F),.d (.int p)]) [.dct kvs] λv s=>∃kvs',s=[.dct kvs']/\lJ es A kvs'/\kvs'.length<=kvs.length+c /\
   ((v=.d .non/\∀x∈dZ k,¬Sat es A (settle es A F p x))\/∃x∈dZ k,v=.d (.int x)/\Sat es A (settle es A F p x)/\∀y∈dZ k,y<x->¬Sat es A (settle es A F p y)):=by
 refine W.call Vm rfl ?_;unfold Ou;have hp:=rJ v.len hL;have h0:=(Ur B v hp nA dN all hL).mp tM;refine Y ?_;refine lC (zml gV (KN hL)) ?_;show W (src (.d (.tup ((dZ k).map .int)))) _ _;refine Y ?_;refine Ka6 (λi J s=>i=0/\∃a4:Option Xv,s=[.dct kvs]/\J=[some (.d (jB true n k es A)),some (.l 0),some (.d (jA F)),some (.d (.int p)),a4]) ⟨rfl,_,rfl,rfl⟩ (λi z J s e hI=>?_) (λJ s hI=>?_)
 ·obtain⟨rfl,a4,rfl,rfl⟩:=hI;rw[jD] at e;have ei:(dZ k)[0]?=some 0:=by unfold dZ;rw[jD,DQ gV];rfl
  rw[ei] at e;cases e;have hx:(0:Int)∈dZ k:=bN.mpr ⟨by lia,by lia⟩;refine Y ?_;refine W.cm rfl rfl (W.c0 (K7 B v hp ⟨by lia,by lia⟩) ?_);refine Y ?_;have hu2:=KJ (es:=es) (A:=A) (x:=0) hL;refine yE (s:=[]) rfl ((H _ kvs (KH B v hp) gV ha gV).imp λv1 s1=>?_);rintro⟨b,dH,rfl,hb,rfl,g1,g2⟩;have eb:b=true:=hb.mpr h0;subst eb;refine⟨_,_,rfl,rfl,?_⟩;refine Y ?_;refine .inr ⟨_,rfl,?_⟩;exact⟨dH,rfl,g1,g2,.inr ⟨0,hx,rfl,h0,λy hy cL=>absurd (bN.mp hy).1 gV⟩⟩
 ·obtain⟨hz,_⟩:=hI;rw[fZ] at hz;have:(dZ k).length=k:=by unfold dZ;simp
  lia
end
section
variable {al:Bool}{n k:Nat}{es:Nat->List Int}{A:Int->Int->Bool}
theorem zkh{k':Nat}(B:Bo n k es A)(nA:1<=k)(dN:al=true->∀t a b:Int,0<=a->a<k->0<=b->b<k->A ((a+t)%k) ((b+t)%k)=A a b){F0:Fr}(v0:Fv n k F0)(all:∀i,i<n->∃L,F0[i]?=some (some L)){c0 c1:Nat}(hz:c0+c1+tot k (n-1)<sizeLine)
  (Hc:W (call aq T (3*n+4+k') true 25 [.d (jB al n k es A),.l 0,.d (jA F0)]) [.dct []] λv s=>∃b kvs',v=.d (.bl b)/\(b=true↔Sat es A F0)/\s=[.dct kvs']/\lJ es A kvs'/\kvs'.length<=c0)
  (Hf:∀kvs L,F0[0]?=some (some L)->Sat es A F0->lJ es A kvs->kvs.length<=c0->W (call aq T (3*n+1+k'+3) true 24 [.d (jB al n k es A),.l 0,.d (jA F0),.d (.int (0:Nat))]) [.dct kvs] λv s=>∃kvs',s=[.dct kvs']/\lJ es A kvs'/\kvs'.length<=kvs.length+c1 /\
   ((v=.d .non/\∀x∈L,¬Sat es A (settle es A F0 0 x))\/∃x∈L,v=.d (.int x)/\Sat es A (settle es A F0 0 x)/\∀y∈L,y<x->¬Sat es A (settle es A F0 0 y))) :
  W (call aq T (3*n+5+k') true 23 [.d (jB al n k es A),.d (.fl (F0.map bJ))]) [] λv s=>(v=.d .non/\¬Sat es A F0)\/∃hs:List Int,v=.d (.tup (hs.map .int))/\hs.length=n/\qJ es A F0 (λj=>at' hs j)/\∀g,qJ es A F0 g->∀j,j<n->(∀t,t<j->g t=at' hs t)->at' hs j<=g j:=by
 have hn:=B.hn;have hl:=v0.len;rw[show 3*n+5+k'=(3*n+4+k')+1 by lia];refine W.call zn0 rfl ?_;unfold Ve;have yL:(100:Nat)<=sizeLine:=by decide
 have Js:unset F0<=n:=by unfold unset;rw[<-hl];exact List.countP_le_length
 refine Y ?_;refine W.oJ ?_;refine Y ?_;refine yE (s:=[]) rfl (Hc.imp λv1 s1=>?_);rintro⟨b,kvs,rfl,hb,rfl,g1,g2⟩;refine⟨_,_,rfl,rfl,?_⟩;refine Y ?_;cases b with
 |false=>
  refine Y ?_;exact .inl ⟨rfl,λz=>by cases hb.mpr z⟩
 |true=>
  have tM:=hb.mp rfl;refine Y ?_;have K8:((F0.map bJ).length:Int)=n:=by rw[fZ,hl]
  refine⟨by rw[K8,uc gV gV,uc gV gV];rfl,?_⟩;rw[K8];refine N_ (c:=(List.range ((n:Int)-0).toNat).map λ(j:Nat)=>.int (0+j)) (λi J s=>∃(kvs':iU) (Fi:Fr) (hs:List Int) (a5 a6:Option Xv),s=[.dct kvs',.lst (hs.map .int)]/\J=[some (.d (jB al n k es A)),some (.d (.fl (F0.map bJ))),some (.d (jA Fi)),some (.l 0),some (.l 1),a5,a6]/\lJ es A kvs'/\(i=0->Fi=F0/\kvs'.length<=c0)/\(1<=i->kvs'.length+tot k (n-i)<=c0+c1+tot k (n-1))/\hs.length=i/\Fv n k Fi/\unset Fi<=n-i/\(∀j,i<=j->j<n->∃L,Fi[j]?=some (some L))/\Sat es A Fi /\
   (∀g,qJ es A Fi g->qJ es A F0 λj=>if j<i then at' hs j else g j)/\(∀g,qJ es A F0 g->(∀t,t<i->g t=at' hs t)->qJ es A Fi g)/\(∀g,qJ es A F0 g->∀j,j<i->(∀t,t<j->g t=at' hs t)->at' hs j<=g j)) ?_ (λi z J s e hI=>?_) (λJ s hI=>?_)
  ·exact⟨kvs,F0,[],_,_,rfl,rfl,g1,λ_=>⟨rfl,g2⟩,λz=>absurd z gV,rfl,v0,by lia,λj _ hj=>all j hj,tM,λg s=>by simpa using s,λg s _=>s,λg _ j hj=>absurd hj gV⟩
  ·obtain⟨kvs',Fi,hs,a5,a6,rfl,rfl,i1,i0,i2,i3,i4,i5,i6,i7,i8,i9,O7⟩:=hI;rw[jD] at e;cases ei:(List.range ((n:Int)-0).toNat)[i]? with
   |none=>rw[ei] at e;cases e
   |some j=>
    rw[ei] at e;cases e;obtain⟨hil,ej⟩:=fG.mp ei;rw[List.getElem_range] at ej;rw[vP] at hil;subst ej;obtain⟨L,hL⟩:=i6 i (cj _) gV;have ez:((0:Int)+(i:Nat))=(i:Int):=by lia
    dsimp only;rw[ez];have hp:=rJ i4.len hL;obtain⟨m,hm⟩ : ∃m,n-i=m+1:=⟨n-i-1,by lia⟩;rw[hm] at i2 i5;have et:tot k (m+1)=k*cnt k m+tot k m:=rfl;refine Y ?_;have lv:3*n+4+k'=(3*n+1+k')+3:=by lia
    refine Kaq (s:=[]) rfl ?_;rw[lv];have H:Told al n k es A 25 (3*n+1+k'+2) m (cnt k m):=by
     rw[show 3*n+1+k'+2=3*m+4+(3*n-3*m+k'-1) by lia];exact O6 B nA dN m _
    obtain⟨c2,nJ,hW⟩ : ∃c2,(kvs'.length+c2+tot k m<=c0+c1+tot k (n-1))/\W (call aq T (3*n+1+k'+3) true 24 [.d (jB al n k es A),.l 0,.d (jA Fi),.d (.int i)]) [.dct kvs'] λv s=>∃dH,s=[.dct dH]/\lJ es A dH/\dH.length<=kvs'.length+c2 /\
      ((v=.d .non/\∀x∈L,¬Sat es A (settle es A Fi i x))\/∃x∈L,v=.d (.int x)/\Sat es A (settle es A Fi i x)/\∀y∈L,y<x->¬Sat es A (settle es A Fi i y)):=by
     by_cases c:i=0
     ·subst c;obtain⟨rfl,q⟩:=i0 rfl;have em:n-1=m:=by lia
      rw[em];exact⟨c1,by lia,Hf kvs' L hL tM i1 q⟩
     ·have i2:=i2 gV;refine⟨k*cnt k m,by lia,Wf B H i4 i5 hL i1 gV⟩
    clear i2;refine hW.imp λv1 s1=>?_;rintro⟨dH,rfl,q1,q2,h⟩;rcases h with ⟨rfl,nM⟩|⟨x,hx,rfl,Bj,cL⟩
    ·obtain⟨x,hx,q⟩:=(Gi B i4 hp hL).mp i7;exact absurd q (nM x hx)
    ·refine⟨_,_,rfl,rfl,?_⟩;refine Y ?_;refine W.cm rfl rfl (W.c0 (K7 (k':=3*n+2+k') B i4 hp (i4.lo i L hL x hx)) ?_);refine Y ?_;refine⟨by rw[fZ];lia,?_⟩;refine Y ?_;have ag:∀j:Nat,j<i->at' (hs++[x]) j=at' hs j:=λj hj=>Ac gV gV;have ai:at' (hs++[x]) (i:Int)=x:=by rw[<-i3];exact T9
     refine⟨_,rfl,dH,settle es A Fi i x,hs++[x],_,_,?_,rfl,q1,λz=>absurd z gV,λ_=>by rw[show n-(i+1)=m by lia];lia,by simp[i3],KH B i4 hp,?_,λj hj hjn=>?_,Bj,λg s=>?_,λg s hg=>?_,λg s j hj hg=>?_⟩
     ·rw[Ed];rfl
     ·have:=KJ (es:=es) (A:=A) (x:=x) hL
      lia
     ·obtain⟨M,hM⟩:=i6 j gV hjn;exact⟨_,KD B i4.len hp gV hM⟩
     ·have s2:=i8 _ (zet B i4 hp hL hx s);refine⟨λj M hM=>?_,λj e M N h1 h2 he=>?_⟩
      ·have:=s2.mem j M hM
       try dsimp only at this ⊢
       by_cases c1:j<i
       ·rw[if_pos c1] at this;rw[if_pos gV,ag j c1];exact this
       ·rw[if_neg c1] at this;by_cases c2:j=i
        ·rw[if_pos c2] at this;rw[if_pos gV,c2,ai];exact this
        ·rw[if_neg c2] at this;rw[if_neg gV];exact this
      ·have ff:∀j:Nat,(if j<i then at' hs j else if j=i then x else g j)=if j<i+1 then at' (hs++[x]) j else g j:=λj=>by
        by_cases c1:j<i
        ·rw[if_pos c1,if_pos gV,ag j c1]
        ·rw[if_neg c1];by_cases c2:j=i
         ·rw[if_pos c2,if_pos gV,c2,ai]
         ·rw[if_neg c2,if_neg gV]
       have:=s2.fit j e M N h1 h2 he
       try dsimp only at this ⊢
       rw[<-ff,<-ff];exact this
     ·have s2:=i9 g s λt ht=>by rw[hg t gV,ag t ht]
      have s3:=Oj B i4 hp hL s2;rw[hg i gV,ai] at s3;exact s3
     ·by_cases c1:j<i
      ·rw[ag j c1];exact O7 g s j c1 λt ht=>by rw[hg t ht,ag t gV]
      ·have:j=i:=by lia
       subst this;rw[ai];have s2:=i9 g s λt ht=>by rw[hg t ht,ag t ht]
       have s3:=Oj B i4 hp hL s2;exact Int.not_lt.mp λq=>cL (g j) (s2.mem j L hL) q ⟨g,s3⟩
  ·obtain⟨kvs',Fi,hs,a5,a6,rfl,rfl,i1,i0,i2,i3,i4,i5,i6,i7,i8,i9,O7⟩:=hI;rw[fZ,vP,show ((n:Int)-0).toNat=n by lia] at i3 i8 O7;refine Y ?_;refine .inr ⟨hs,rfl,i3,?_,O7⟩;obtain⟨g,sg⟩:=i7;have s2:=i8 g sg;refine⟨λj M hM=>?_,λj e M N h1 h2 he=>?_⟩
   ·have:=s2.mem j M hM;rw[if_pos (rJ hl hM)] at this;exact this
   ·have:=s2.fit j e M N h1 h2 he;rw[if_pos (rJ hl h1),if_pos (rJ hl h2)] at this;exact this
end
section
variable {n k d:Int}{ps:List (Int×Int)}
theorem zd3{k':Nat}(h:Web n ps)(hd:1<=d)(Gm:d<=k)(hk:k<=24)(hz:1+cnt k.toNat (n.toNat-1)+cnt k.toNat (n.toNat-1)+tot k.toNat (n.toNat-1)<sizeLine):W (call aq T (k'+40) true 22 [.d (fX n ps),.d (jz k d)]) [] λv s=>(v=.d .non/\∀hs,¬gF n k d ps hs)\/∃hs,v=.d (.tup (hs.map .int))/\gF n k d ps hs/\∀g,gF n k d ps g->Ge g hs:=by
 refine W.call zok rfl ?_;unfold Vd;have yL:(100:Nat)<=sizeLine:=by decide
 have h1:=h.h1;have h8:=h.h8;refine Y ?_;refine W.c1 (zen h) λ_=>?_;refine Y ?_;refine W.c1 (zgf hd Gm hk) λ_=>?_;refine Y ?_;refine W.c0 (ziO h hd Gm hk) ?_;refine Y ?_;refine wB (l:=List.range (n-0).toNat) (f:=λ(j:Nat)=>.int (0+j)) (λ(_:Nat)=>some (bJ (some (dZ k.toNat)))) (by rw[vP];lia) ?_ (λj hj=>?_) ?_
 ·unfold fX;refine Y ?_;refine⟨by rw[uc gV gV,uc gV gV];rfl,?_⟩;exact⟨rfl,rfl⟩
 ·refine Y ?_;refine⟨rfl,λ_=>?_,λhb=>by cases hb⟩;refine Y ?_;exact⟨rfl,_,rfl,rfl⟩
 ·have ef:(List.range (n-0).toNat).filterMap (λ(_:Nat)=>some (bJ (some (dZ k.toNat))))=(jk n k).map bJ:=by
   rw[Dk,show n-0=n by lia];unfold jk;rw[List.map_replicate];rw[List.map_const',vP]
  rw[ef];refine Y ?_;have lv:k'+39=3*n.toNat+5+(k'+34-3*n.toNat):=by lia
  refine t_ rfl ?_;show W (Mi.call aq T (k'+39) true _ _) _ _;rw[lv];have B:=zlE h hd hk;have nA:1<=k.toNat:=by lia
  have dN:∀t a b:Int,0<=a->a<(k.toNat:Nat)->0<=b->b<(k.toNat:Nat)->cX k d ((a+t)%(k.toNat:Nat)) ((b+t)%(k.toNat:Nat))=cX k d a b:=λt a b a0 ak b0 bk=>by rw[show ((k.toNat:Nat):Int)=k by lia] at *;exact Ol hd t a b a0 ak b0 bk
  obtain⟨m,hm⟩ : ∃m,n.toNat=m+1:=⟨n.toNat-1,by lia⟩;have em:n.toNat-1=m:=by lia
  have Js:unset (jk n k)<=m+1:=by
   have:=(Oo (n:=n) hk).len;rw[<-hm,<-this];exact List.countP_le_length
  have al:∀(i:Nat) L,(jk n k)[i]?=some (some L)->L=dZ k.toNat:=λi L e=>(KR e).2;have eb:(jk n k).all (Gk k.toNat)=true:=iz.mpr λc hc=>by rw[List.eq_of_mem_replicate hc];exact nH rfl
  rw[em] at hz;refine(zkh (c0:=1+cnt k.toNat m) (c1:=cnt k.toNat m) B nA (λ_=>dN) (Oo hk) (λi hi=>⟨_,Om hi⟩) (by rw[em];exact hz) ?_ (λkvs L hL tM ha hl=>?_)).imp λv s=>?_
  ·rw[hm];have:=zhP (m:=m) (j:=k'+34-3*(m+1)) (kvs:=[]) B nA dN (Oo hk) Js eb (λF d e=>by cases e) (by simp;lia);rw[hm] at this;simpa using this
  ·have e:=al 0 L hL;subst e;refine zmr B nA dN ?_ (Oo hk) Js al hL tM ha gV;rw[show 3*n.toNat+1+(k'+34-3*n.toNat)+2=3*m+4+(k'+33-3*m) by lia];exact O6 B nA (λ_=>dN) m _
  rintro(⟨rfl,nM⟩|⟨hs,rfl,hl,Wg,v8⟩)
  ·refine⟨_,rfl,?_⟩;refine Y ?_;exact .inl ⟨rfl,λhs hh=>nM ⟨_,zep h hd hh⟩⟩
  ·refine⟨_,rfl,?_⟩;refine Y ?_;refine .inr ⟨hs,rfl,zhH h hl Wg,λg hg j hj ha=>?_⟩;exact v8 _ (zep h hd hg) j gV ha
end
theorem small{n k:Int}(hn:n<=8)(hk:k<=8):1+cnt k.toNat (n.toNat-1)+cnt k.toNat (n.toNat-1)+tot k.toNat (n.toNat-1)<sizeLine:=by
 have:=zeb (k:=k.toNat) (k2:=8) (m:=n.toNat-1) (m2:=7) gV gV;have:=zg7 (k:=k.toNat) (k2:=8) (m:=n.toNat-1) (m2:=7) gV gV;have e:1+cnt 8 7+cnt 8 7+tot 8 7<sizeLine:=by decide
 lia
section
variable {n k d:Int}{ps:List (Int×Int)}
theorem zjo{k':Nat}(h:Web n ps)(hr:1<=d/\d<=k/\k<=24)(hz:1+cnt k.toNat (n.toNat-1)+cnt k.toNat (n.toNat-1)+tot k.toNat (n.toNat-1)<sizeLine):W (call aq T (k'+41) true 28 [.d (fX n ps),.d (jz k d)]) [] λv s=>∃b,v=.d (.bl b)/\(b=true↔∃g,gF n k d ps g):=by
 refine W.call zob rfl ?_;unfold Vg;refine Y ?_;refine t_ rfl ((zd3 (k':=k') h hr.1 hr.2.1 hr.2.2 hz).imp λv s hv=>?_);rcases hv with ⟨rfl,nM⟩|⟨hs,rfl,hh,hg⟩
 ·refine⟨_,rfl,?_⟩;refine Y ?_;exact⟨false,rfl,⟨λe=>(by cases e),λ⟨g,hg⟩=>absurd hg (nM g)⟩⟩
 ·refine⟨_,rfl,?_⟩;refine Y ?_;exact⟨true,rfl,⟨λ_=>⟨hs,hh⟩,λ_=>rfl⟩⟩
noncomputable def rD(r:Int×Int):D:=jz r.1 r.2
theorem zhI{k':Nat}(h1:1<=n)(h8:n<=8):W (call aq T (k'+4) true 27 [.d (.int n)]) [] λv s=>v=.d (.fl ((jC n).map rD)):=by
 have:n=1\/n=2\/n=3\/n=4\/n=5\/n=6\/n=7\/n=8:=by lia
 rcases this with rfl|rfl|rfl|rfl|rfl|rfl|rfl|rfl
 ·exact W.eq (a:=.d (.fl ((jC 1).map rD))) (s':=[]) (by kernel_rfl) rfl
 ·exact W.eq (a:=.d (.fl ((jC 2).map rD))) (s':=[]) (by kernel_rfl) rfl
 ·exact W.eq (a:=.d (.fl ((jC 3).map rD))) (s':=[]) (by kernel_rfl) rfl
 ·exact W.eq (a:=.d (.fl ((jC 4).map rD))) (s':=[]) (by kernel_rfl) rfl
 ·exact W.eq (a:=.d (.fl ((jC 5).map rD))) (s':=[]) (by kernel_rfl) rfl
 ·exact W.eq (a:=.d (.fl ((jC 6).map rD))) (s':=[]) (by kernel_rfl) rfl
 ·exact W.eq (a:=.d (.fl ((jC 7).map rD))) (s':=[]) (by kernel_rfl) rfl
 ·exact W.eq (a:=.d (.fl ((jC 8).map rD))) (s':=[]) (by kernel_rfl) rfl
theorem zir{j:Nat}{r:Int×Int}(e:(jC n)[j]?=some r):((jC n).map rD)[((j:Int)).toNat]?=some (rD r):=by
 rw[show ((j:Int)).toNat=j by lia,jD,e];rfl
theorem ze8{k':Nat}(h:Web n ps):W (call aq T (k'+42) true 29 [.d (fX n ps)]) [] λv s=>∃r,v=.d (rD r)/\KY n ps r:=by
 have h8:=h.h8;have h1:=h.h1;have hwk:oR=1000000000000:=rfl;have ew:fX n ps=.tup [.int n,.tup (ps.map kW)]:=rfl;have hlen:(jC n).length<=12:=Pq _ Uz;obtain⟨jl,ejl⟩:=List.getElem?_of_mem (zg9 h1 h8);have hjl:=(fG.mp ejl).1;refine W.call zn6 rfl ?_;unfold Vh;refine Y ?_;refine W.c1 (zen h) λ_=>?_;unfold fX;refine Y ?_;refine W.c0 (zhI h1 h8) ?_;refine Y ?_;refine WS.wh (λq J s'=>∃j:Nat,J=[some (.d (fX n ps)),some (.d (.fl ((jC n).map rD))),some (.d (.int j))]/\j<(jC n).length/\(∀(i:Nat) q,i<j->(jC n)[i]?=some q->∀hs,¬gF n q.1 q.2 ps hs)/\q=(jC n).length-j) (m:=(jC n).length) gV ⟨0,rfl,by lia,λi q hi=>absurd hi (Nat.not_lt_zero _),rfl⟩ λq J s' hI=>?_;obtain⟨j,rfl,hj,nM,rfl⟩:=hI;obtain⟨r,er⟩ : ∃r,(jC n)[j]?=some r:=⟨_,eE hj⟩;have hr:=UG (gH er);refine Y ?_;refine lC (vG gV (zir er)) ?_;refine Y ?_;refine t_ rfl ((zjo (k':=k') (k:=r.1) (d:=r.2) h gV (small h8 gV)).imp λv s hv=>?_);obtain⟨b,rfl,hb⟩:=hv;refine⟨_,rfl,?_⟩;refine Y ?_;refine⟨λe=>?_,λe=>?_⟩
 ·have ud:b=false:=by cases b<;>simp_all
  have Mx:∀hs,¬gF n r.1 r.2 ps hs:=λhs hh=>by rw[hb.mpr ⟨hs,hh⟩] at ud;cases ud
  have K9:∀(i:Nat) q,i<j+1->(jC n)[i]?=some q->∀hs,¬gF n q.1 q.2 ps hs:=λi q hi e'=>by
   rcases Nat.lt_or_eq_of_le (Nat.le_of_lt_succ hi) with z|z
   ·exact nM i q z e'
   ·subst z;rw[er] at e';cases e';exact Mx
  have hj2:j+1<(jC n).length:=by
   refine Nat.not_le.mp λz=>?_;exact K9 jl _ gV ejl _ (zjV h (Int.le_refl _))
  refine Y ?_;refine WS.aug rfl rfl ?_;refine Y ?_;exact .inl ⟨_,(jC n).length-(j+1),rfl,by lia,j+1,by rfl,hj2,K9,rfl⟩
 ·have ud:b=true:=by cases b<;>simp_all
  refine Y ?_;refine lC (vG gV (zir er)) ?_;refine Y ?_;exact⟨r,rfl,j,er,hb.mp ud,nM⟩
end
section
variable {n k d:Int}{ps:List (Int×Int)}
noncomputable def vL(n k d:Int)(ps:List (Int×Int)):Bool:=!(grows k d ps [[0]] (n.toNat-1)).isEmpty
theorem ze1(h:Web n ps)(hd:1<=d)(hk:1<=k):vL n k d ps=true↔∃g,gF n k d ps g:=by
 have h1:=h.h1;rw[<-zh1 h hd hk];have e:=zb3 h hd hk (n.toNat-1);rw[show n.toNat-1+1=n.toNat by lia] at e;rw[e];unfold vL;cases grows k d ps [[0]] (n.toNat-1) with
 |nil=>simp
 |cons a l=>simp;lia
end
noncomputable def pD:List D->Option (List (Int×Int))
 |[]=>some []
 |.tup [.int a,.int b]::r=>(pD r).map ((a,b)::·)
 |_=>none
theorem Wh:∀{xs:List D} {ps:List (Int×Int)},pD xs=some ps->xs=ps.map kW
 |[],ps,h=>by cases h;rfl
 |d::r,ps,h=>by
  unfold pD at h;split at h
  ·rename_i e;cases e
  ·rename_i a b r' e;cases e;obtain⟨q,e1,e2⟩:=jO.mp h;subst e2;rw[jo,<-Wh e1];rfl
  ·cases h
noncomputable def lxB(p q:Int×Int):Bool:=decide (p.1<q.1)||(decide (p.1=q.1)&&decide (p.2<q.2))
noncomputable def yM:List (Int×Int)->Bool
 |[]=>true
 |p::r=>r.all (lxB p)&&yM r
theorem Wi:∀{ps:List (Int×Int)},yM ps=true->ps.Pairwise lx
 |[],_=>List.Pairwise.nil
 |p::r,h=>by
  unfold yM at h;rw[fK,iz] at h;refine List.Pairwise.cons (λq hq=>?_) (Wi h.2);have:=h.1 q hq;unfold lxB at this;simp only[Lz,fK,Aj] at this;unfold lx
  lia
noncomputable def Du(n:Int)(ps:List (Int×Int)):Bool:=decide (1<=n)&&decide (n<=8)&&ps.all (λp=>decide (0<=p.1)&&decide (p.1<p.2)&&decide (p.2<n))&&yM ps
theorem zjW{n:Int}{ps:List (Int×Int)}(h:Du n ps=true):Web n ps:=by
 unfold Du at h;simp only[fK,iz,Aj] at h;obtain⟨⟨⟨h1,h8⟩,ht⟩,hi⟩:=h;have ht':∀p∈ps,0<=p.1/\p.1<p.2/\p.2<n:=λp hp=>by have:=ht p hp;lia
 exact⟨h1,h8,ht',Wi hi,zkY h1 h8 ht' (Wi hi)⟩
noncomputable def tabS(n:Int)(ps:List (Int×Int)):Option (Int×Int):=(jC n).find? λr=>vL n r.1 r.2 ps
theorem zjw{n:Int}{ps:List (Int×Int)}{r:Int×Int}(w:Web n ps)(h:tabS n ps=some r):KY n ps r:=by
 obtain⟨h1,i,hi,e,h2⟩:=List.find?_eq_some_iff_getElem.mp h;have hr:=UG (List.mem_of_find?_eq_some h);refine⟨i,by rw[eE hi,e],(ze1 w hr.1 gV).mp h1,λj q hj eq hs hh=>?_⟩;have hq:=UG (gH eq);have:=h2 j hj;obtain⟨hj',e2⟩:=fG.mp eq;rw[e2,(ze1 w hq.1 gV).mpr ⟨hs,hh⟩] at this;cases this
noncomputable def Gn:List Xv->Option D
 |[.d (.tup [.int n,.tup ts])]=>match pD ts with
  |some ps=>if Du n ps=true then (tabS n ps).map rD else none
  |none=>none
 |_=>none
theorem Wj(k:Nat)(xs:List Xv)(d:D)(h:Gn xs=some d):W (call aq T (k+42) true 29 xs) [] λv _=>v=.d d:=by
 unfold Gn at h;split at h
 ·rename_i n ts;split at h
  ·rename_i ps e;split at h
   ·rename_i c;obtain⟨r,e1,rfl⟩:=jO.mp h;have w:=zjW c;rw[Wh e];refine(ze8 (k':=k) w).imp λv s hv=>?_;obtain⟨q,rfl,hF⟩:=hv;rw[hF.uniq (zjw w e1)]
   ·cases h
  ·cases h
 ·cases h
noncomputable def vM(f:Nat)(xs:List Xv):Option D:=match mD aq T 29 Gn 17 true f xs [] with
 |some (.ok (.d d),_)=>some d
 |_=>none
theorem Wm{f:Nat}{xs:List Xv}{d:D}(h:vM f xs=some d):W (call aq T 59 true f xs) [] λv _=>v=.d d:=by
 unfold vM at h;split at h
 ·rename_i d' s1 e;cases h;rcases Uy (m:=42) Wj 17 true f xs [] _ _ e with z|⟨_,d2,s2,e2,z⟩
  ·exact⟨_,_,z,rfl⟩
  ·cases e2;exact⟨_,_,z,rfl⟩
 ·cases h
theorem r1:vM 42 [.d (.int 1)]=some (.bl true):=by kernel_rfl
theorem r2:vM 42 [.d (.int 2)]=some (.bl true):=by kernel_rfl
theorem r3:vM 42 [.d (.int 3)]=some (.bl true):=by kernel_rfl
noncomputable def K_(f:Nat)(xs:List Xv):Option D:=match mD aq T 29 Gn 6 true f xs [] with
 |some (.ok (.d d),_)=>some d
 |_=>none
noncomputable def eqR:Option D->Option (Int×Int)->Bool
 |some (.tup [.int a,.int b]),some r=>decide (a=r.1/\b=r.2)
 |_,_=>false
noncomputable def La:List (List (Int×Int)):=[[],[(2,3)],[(1,3)],[(1,3),(2,3)],[(1,2)],[(1,2),(2,3)],[(1,2),(1,3)],[(1,2),(1,3),(2,3)]]
noncomputable def Dv:List (List (Int×Int)):=[[],[(0,3)],[(0,2)],[(0,2),(0,3)],[(0,1)],[(0,1),(0,3)],[(0,1),(0,2)],[(0,1),(0,2),(0,3)]]
noncomputable def yN(p:List (Int×Int)):Bool:=La.all λl=>eqR (K_ 40 [.d (fX 4 (p++l))]) (tabS 4 (p++l))
theorem q0:yN []=true:=by kernel_rfl
theorem q1:yN [(0,3)]=true:=by kernel_rfl
theorem q2:yN [(0,2)]=true:=by kernel_rfl
theorem q3:yN [(0,2),(0,3)]=true:=by kernel_rfl
theorem q4:yN [(0,1)]=true:=by kernel_rfl
theorem q5:yN [(0,1),(0,3)]=true:=by kernel_rfl
theorem q6:yN [(0,1),(0,2)]=true:=by kernel_rfl
theorem q7:yN [(0,1),(0,2),(0,3)]=true:=by kernel_rfl
theorem Wn:∀p∈Dv,yN p=true:=by
 intro p hp;unfold Dv at hp;simp only[jm,List.not_mem_nil,or_false] at hp;rcases hp with rfl|rfl|rfl|rfl|rfl|rfl|rfl|rfl
 ·exact q0
 ·exact q1
 ·exact q2
 ·exact q3
 ·exact q4
 ·exact q5
 ·exact q6
 ·exact q7
noncomputable def Wo(ps:List (Int×Int)):Bool:=Dv.any λp=>La.any λl=>decide (ps=p++l)
noncomputable def Wq(f:Nat)(xs:List Xv):Option D:=if f=29 then Gn xs else match xs with
 |[.d (.tup [.int n,.tup ts])]=>match pD ts with
  |some ps=>if n=4/\Wo ps=true then (tabS 4 ps).map rD else none
  |none=>none
 |_=>none
noncomputable def two(f:Nat):Bool:=f==29||f==40
theorem zk5(k f:Nat)(xs:List Xv)(d:D)(hp:two f=true)(h:Wq f xs=some d):W (call aq T (k+48) true f xs) [] λv _=>v=.d d:=by
 unfold Wq at h;by_cases z:f=29
 ·rw[if_pos z] at h;subst z;exact Wj (k+6) xs d h
 ·rw[if_neg z] at h;have z2:f=40:=by
   unfold two at hp;rcases Bool.or_eq_true_iff.mp hp with e|e
   ·exact absurd (eq_of_beq e) z
   ·exact eq_of_beq e
  subst z2;split at h
  ·rename_i n ts;split at h
   ·rename_i ps e;split at h
    ·rename_i c;obtain⟨rfl,c⟩:=c;obtain⟨r,e1,rfl⟩:=jO.mp h;obtain⟨p,hp1,c⟩:=List.any_eq_true.mp c;obtain⟨l,hl,c⟩:=List.any_eq_true.mp c;have c:=jP c;have o:=iz.mp (Wn p hp1) l hl;rw[<-c,e1] at o;rw[Wh e];unfold eqR at o;split at o
     ·rename_i a b r' e5 e6;cases e6;obtain⟨rfl,rfl⟩:=jP o;unfold K_ at e5;split at e5
      ·rename_i d' s1 e7;cases e5;have hO:∀j xs d,Gn xs=some d->W (call aq T (j+(k+42)) true 29 xs) [] λv _=>v=.d d:=λj xs d h=>by
        rw[<-Nat.add_assoc];exact Wj (j+k) xs d h
       rw[show k+48=6+(k+42) by lia];rcases Uy (m:=k+42) hO 6 true 40 _ [] _ _ e7 with z|⟨_,d2,s2,e2,z⟩
       ·exact⟨_,_,z,rfl⟩
       ·cases e2;exact⟨_,_,z,rfl⟩
      ·cases e5
     ·cases o
    ·cases h
   ·cases h
  ·cases h
noncomputable def Dw(f:Nat)(xs:List Xv):Option D:=match pC aq T two Wq 11 true f xs [] with
 |some (.ok (.d d),_)=>some d
 |_=>none
theorem zmN{f:Nat}{xs:List Xv}{d:D}(h:Dw f xs=some d):W (call aq T 59 true f xs) [] λv _=>v=.d d:=by
 unfold Dw at h;split at h
 ·rename_i d' s1 e;cases h;rcases zeR (m:=48) zk5 11 true f xs [] _ _ e with z|⟨_,d2,s2,e2,z⟩
  ·exact⟨_,_,z,rfl⟩
  ·cases e2;exact⟨_,_,z,rfl⟩
 ·cases h
theorem r4:Dw 42 [.d (.int 4)]=some (.bl true):=by kernel_rfl
def Wr(o:SO):Prop:=∃a b:Int,o=.lst [.int a,.int b]/\0<=a/\(b=0\/b=1)
theorem zlk{k:Nat}{o:SO}{m:Int}(ho:Wr o)(hm:0<m)(hm2:m<1073741824):W (call aq T (k+1) true 35 [.l 0,.d (.int m)]) [o] λv s=>∃d o',v=.d d/\s=[o']/\(∃r:Int,d=.int r/\0<=r/\r<m)/\Wr o':=by
 obtain⟨a,b,rfl,ha,hb⟩:=ho;refine W.call zoa rfl ?_;unfold Vk;rcases hb with rfl|rfl
 ·refine Y ?_;exact⟨_,_,rfl,rfl,⟨_,rfl,Aq _ gV,DX _ hm⟩,⟨_,_,rfl,Aq _ RB,.inl rfl⟩⟩
 ·refine Y ?_;exact⟨_,_,rfl,rfl,⟨_,rfl,Aq _ gV,DX _ hm⟩,⟨_,_,rfl,Int.ediv_nonneg ha gV,.inr rfl⟩⟩
theorem znn{k:Nat}{n:Int}:W (call aq T (k+1) true 34 [.d (.int n)]) [] λv s=>∃i o,v=.l i/\s[i]?=some o/\Wr o:=by
 refine W.call zom rfl ?_;unfold Vj;refine Y ?_;refine⟨0,_,rfl,rfl,⟨_,_,rfl,?_,?_⟩⟩
 ·split<;>lia
 ·have:∀c:Bool,(if c=true then (1:Int) else 0)=0\/(if c=true then (1:Int) else 0)=1:=by intro c;cases c<;>simp
  exact this _
theorem zkH{k:Nat}{ns:List Int}:W (call aq T (k+1) true 33 [.d (.fl (ns.map D.int)),.d (.int 0)]) [] λv _=>∃n,v=.d (.int n):=by
 refine W.call zn7 rfl ?_;unfold Vi;cases ns with
 |nil=>
  refine Y ?_;exact⟨_,rfl⟩
 |cons n r=>
  refine Y ?_;refine WS.ite (λ_=>?_) (λ_=>?_)
  ·refine Y ?_;refine lC (ZX (i:=0) (x:=.int n) rfl) ?_;refine Y ?_;exact⟨_,rfl⟩
  ·refine Y ?_;exact⟨_,rfl⟩
theorem vN(ns:List Int)(hn:ns.length<=63):∃s',call aq T 60 true 43 [.d (.fl (ns.map D.int))] []=some (.ok (.d (.bl true)),s'):=by
 suffices h:W (call aq T 60 true 43 [.d (.fl (ns.map D.int))]) [] λv _=>v=.d (.bl true) by
  obtain⟨v,s',e,rfl⟩:=h;exact⟨s',e⟩
 have hs:(1000:Nat)<=sizeLine:=by decide
 refine W.call (k:=59) zoi rfl ?_;unfold Vl;refine Y ?_;refine W.c0 (Wm r1) ?_;refine Y ?_;refine W.c0 (Wm r2) ?_;refine Y ?_;refine t_ rfl ((zkH (k:=58)).imp λv _=>?_);rintro⟨n0,rfl⟩;refine⟨_,rfl,?_⟩;refine Y ?_;refine TQ (zla ?_) ?_
 ·have:=zjy (ns:=ns) (lo:=some 1) (hi:=some 2);show 1+_<=_
  lia
 refine Y ?_;refine N_ (λ_ J s=>∃(a b:Option Xv),J=[some (.d (.fl (ns.map D.int))),a,b]) ⟨_,_,rfl⟩ (λi x J s hx Dy=>?_) (λJ s Dy=>?_)
 ·obtain⟨m,rfl⟩ : ∃m,x=.int m:=by
   rcases nG.mp (gH hx) with z|z
   ·rcases jm.mp z with rfl|z
    ·exact⟨_,rfl⟩
    ·cases z
   ·exact zkb z
  obtain⟨a,b,rfl⟩:=Dy;refine Y ?_;refine Kan rfl ((znn (k:=58)).imp λv s1=>?_);rintro⟨j,o,rfl,hj,hp⟩;refine⟨j,o,rfl,hj,?_⟩;refine Y ?_;refine W.c0 (Wm r3) ?_;refine Y ?_;refine yE rfl ((zlk (k:=58) hp (m:=4) gV gV).imp λv s1=>?_);rintro⟨_,o1,rfl,rfl,⟨r,rfl,hr0,hr1⟩,hp⟩;refine⟨_,_,rfl,rfl,?_⟩;refine Y ?_;refine W.ite (λc=>?_) (λc=>?_)
  ·refine Y ?_;refine W.c0 (zmN r4) ?_;refine Y ?_;exact⟨_,rfl,_,_,rfl⟩
  ·refine Y ?_;exact⟨_,rfl,_,_,rfl⟩
 ·obtain⟨a,b,rfl⟩:=Dy;exact Y trivial
end eF
open PySem PySem.W PyProof.Rows
set_option maxRecDepth 100000 in
set_option maxHeartbeats 0 in
theorem PySem.Challenge.cw_ringhues_k70_webs_by_their_shortest_ring_holds : PySem.Challenge.rw_ringhues_k70_webs_by_their_shortest_ring.Holds := by
 refine PySem.W.holds_law eF.ws λsaid=>?_;refine holds_open (q:=eF.qv) (loose:=eF.loose) (Xt:=λs=>xlAt eF.qv [] s&&recOk [] s) (XP:=XL eF.qv []) (Yf:=(Mi.ji eF.fs eF.ms eF.xs eF.lk eF.bd).obs) (Ya:=(Mi.ji eF.fs eF.ms eF.xs eF.lk eF.bd).val) (YP:=(Mi.ji eF.fs eF.ms eF.xs eF.lk eF.bd).says) (N:=20000) eF.left (Mi.ji eF.fs eF.ms eF.xs eF.lk eF.bd).of (Mi.ji eF.fs eF.ms eF.xs eF.lk eF.bd).keeps (λs e=>xl_of s (Bool.and_eq_true_iff.mp e).1) XL.keeps (by rfl) (by rfl) (by rfl) (λs e=>recFacts_of (Bool.and_eq_true_iff.mp e).2) (by rfl) (by first|assumption|decide +kernel) Dc ⟨rfl,rfl,rfl,rfl,rfl,by decide +kernel⟩ ?hw ?hc
 case hw=>w_witness2
 case hc=>exact Mi.Dr (l:=PySem.Challenge.rw_ringhues_k70_webs_by_their_shortest_ring) (x:="_law_script") (k:=60) rfl rfl ⟨by decide,by decide,rfl⟩ (λw K mg fa h S LH X G Dp=>eF.all_mk eF.vN S LH X G Dp)
