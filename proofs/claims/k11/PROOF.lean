import PyProof.Rows.All
import Wide.All
import KE.KIsAll
import KE.KSortTup
import KE.KTryDeep
import KE.KDictOf
import KE.KFromBytes
import Wide.FinOn
import PySem.Challenge.RW_ringhues_k11_hues_with_known_spots
set_option compiler.extract_closed false
abbrev aB:=@PySem.wpAny_bind
abbrev bY:=@PySem.Heap.get?_push_of_some
abbrev dj:=@List.getElem?_eq_getElem
abbrev dN:=@List.getElem?_eq_some_iff
abbrev aR:=@PySem.wpAny_pure
abbrev cg:=@List.length_map
abbrev dG:=@List.length_append
abbrev cJ:=@Option.some.inj
abbrev bN:=@PySem.Heap.lt_size
abbrev fZ:=@List.mem_of_getElem?
abbrev gb:=@List.mem_cons_of_mem
abbrev fO:=@PySem.Heap.get?_push_size
abbrev bO:=@Nat.le_refl
abbrev eY:=@Bool.and_eq_true
abbrev fD:=@List.size_toArray
abbrev fK:=@List.length_cons
abbrev gJ:=@Nat.lt_of_lt_of_le
abbrev lZ:=@List.getD_eq_getElem?_getD
abbrev dw:=@Nat.ne_of_lt
abbrev kE:=@Option.map_eq_some_iff
abbrev iW:=@List.getElem?_map
abbrev nQ:=@List.getElem?_append_left
abbrev ji:=@of_decide_eq_true
abbrev jF:=@List.mem_cons_self
abbrev iY:=@List.all_eq_true
abbrev iR:=@List.mem_append
abbrev pG:=@List.getElem?_eq_none_iff
abbrev qF:=@List.getElem?_append_right
abbrev gY:=@List.mem_cons
abbrev jG:=@decide_eq_false
abbrev iU:=@List.map_cons
abbrev pH:=@List.getElem?_set_ne
abbrev jP:=@decide_eq_true
abbrev fL:=@beq_iff_eq
abbrev mj:=@List.lookup_cons
abbrev lB:=@List.length_set
abbrev o_:=@Int.toNat_natCast
abbrev gZ:=@PySem.wpAny_mono
abbrev pI:=@List.length_range
abbrev qG:=@List.mem_singleton
abbrev kI:=@Nat.le_trans
abbrev vL:=@List.getElem?_set_self
abbrev vM:=@List.mem_append_right
abbrev wH:=@PySem.Heap.get?_update_other
abbrev qH:=@List.map_append
abbrev Ab:=@PyProof.Rows.callWith_type1
abbrev Dj:=@PyProof.Rows.slot_tuple_getitem
abbrev sW:=@Nat.lt_succ_of_lt
abbrev pq:=@PySem.wpAny_holding
abbrev lC:=@PySem.wpAny_field
abbrev yD:=@Option.bind_eq_some_iff
abbrev yE:=@PySem.Heap.get?_update_self
abbrev rG:=@PySem.wpAny_seqItems
abbrev qI:=@Nat.lt_irrefl
abbrev vN:=@PySem.wpAny_truthy_bool
abbrev Ac:=@PySem.wpAny_callSpecial?_slot
abbrev vO:=@PySem.wpAny_newObj_type
abbrev Ad:=@Int.eq_ofNat_of_zero_le
abbrev wI:=@PySem.Obj.data_mapFields
abbrev pJ:=@List.mem_map
abbrev tX:=@List.mem_filter
abbrev sX:=@PySem.Heap.size_push
abbrev yF:=@beq_eq_false_iff_ne
abbrev yG:=@Array.length_toList
abbrev yH:=@List.getElem_of_mem
abbrev vP:=@List.nodup_cons
abbrev yI:=@Bool.false_eq_true
abbrev Dk:=@List.getElem?_cons_succ
abbrev FP:=@PySem.F.excBase_ValueError
abbrev qJ:=@PySem.sizeLine_eq
abbrev vQ:=@List.mem_range
abbrev Ae:=@List.zip_cons_cons
abbrev yJ:=@PySem.wpAny_call_entry
abbrev Dl:=@PySem.Heap.get?_none_of_le
abbrev Dm:=@List.mem_append_left
abbrev Dn:=@Nat.mul_le_mul_right
abbrev vR:=@PySem.wpAny_standAt
abbrev Af:=@PySem.wpAny_loadPart_at
abbrev Dp:=@List.filterMap_cons
abbrev yK:=@List.length_nil
abbrev yL:=@List.append_nil
abbrev Dq:=@PySem.mem_of_lookup
abbrev Dr:=@List.replicate_succ
abbrev KJ:=@Array.getElem?_eq_some_iff
abbrev KN:=@PySem.F.slot_tuple_iterator_next
abbrev Ag:=@List.length_take
abbrev Ah:=@List.countP_cons
abbrev Ai:=@PySem.F.plain_min_loop
abbrev Aj:=@decide_eq_decide
abbrev nF:=@congrArg
abbrev vU:=@Nat.ne_of_gt
abbrev Ds:=@List.mem_filterMap
abbrev Dt:=@PySem.wpAny_Call_Name_kw
abbrev FQ:=@List.length_replicate
abbrev FT:=@List.getElem?_eq_none
abbrev Du:=@PySem.wpAny_setField_rec
abbrev Dv:=@List.pairwise_cons
abbrev FW:=@PySem.wpAny_loadName_local
abbrev FZ:=@PySem.Around.under_plainId
abbrev Ak:=@PySem.wpAny_passesOwn
abbrev O6:=@PySem.plainObj_wpAny_Assign_Attribute
abbrev KQ:=@PySem.AutoSeq1.wpAny_loadPart'
abbrev vV:=@Nat.zero_le
abbrev KR:=@List.getElem?_replicate
abbrev yM:=@List.all_cons
abbrev KY:=@PySem.F.plainAttrs_list
abbrev Dw:=@beq_self_eq_true
abbrev Al:=@List.nodup_nil
abbrev Ga:=@Bool.false_ne_true
abbrev Gb:=@Int.emod_lt_of_pos
abbrev yN:=@Nat.le_of_lt
abbrev KZ:=@PySem.Obj.isFreed_of_fields
abbrev Dy:=@List.forIn_cons
abbrev K1:=@List.length_filter_le
abbrev Dz:=@Int.emod_nonneg
abbrev DG:=@Nat.mul_le_mul
abbrev Gd:=@Nat.lt_succ_self
abbrev Gf:=@Nat.le_of_not_lt
abbrev Gg:=@List.take_length
abbrev Gh:=@List.not_mem_nil
abbrev K3:=@PySem.wpAny_isSubtype_exc
abbrev K4:=@PySem.Heap.get?_update_ne
abbrev K5:=@List.getElem?_range
abbrev K6:=@Nat.mul_le_mul_left
abbrev O7:=@Option.isSome_iff_exists
abbrev O8:=@PySem.F.args_tuple_add_2
abbrev Am:=@List.map_map
abbrev O9:=@List.length_filterMap_le
abbrev Ao:=@Nat.succ_mul
abbrev Gi:=@PySem.wpAny_execs_nil
abbrev O_:=@PySem.F.entry_tuple_add
abbrev sY:=@if_false
abbrev K7:=@List.getElem_range
abbrev Gj:=@PySem.codeAny_builtin
abbrev Gk:=@PySem.wpAny_ite_false
abbrev Pa:=@PySem.W.cellsFrom_some
abbrev Pb:=@PySem.F.slot_tuple_add
abbrev Pg:=@List.range_succ_eq_map
abbrev yO:=@PySem.wpAny_call
abbrev K8:=@Bool.not_eq_true'
abbrev K9:=@PySem.Heap.get?_push_ne
abbrev Aq:=@PySem.wpAny_letGo
abbrev K_:=@PySem.wpAny_pyIter_list
abbrev La:=@List.append_assoc
abbrev Lb:=@List.nodup_append
abbrev Ld:=@decide_eq_true_eq
abbrev Gm:=@PySem.wpAny_setField
abbrev DK:=@PySem.codeAny_mono
abbrev Pj:=@Nat.le_of_ble_eq_true
abbrev Le:=@List.length_drop
abbrev Lf:=@PySem.wpAny_isInstance
abbrev Lg:=@List.getElem_mem
abbrev Lh:=@PySem.F.slot_tuple_mul
abbrev Pk:=@PySem.Calls.evalArgs_plain
abbrev Pn:=@PySem.wpAny_updateSeq_pair
abbrev Pq:=@List.mem_of_mem_take
abbrev Gn:=@PySem.wpAny_attempt
abbrev Gp:=@PySem.plainId_quiet
abbrev Ar:=@PySem.wpAny_Name
abbrev Av:=@PySem.call_meets
abbrev Pu:=@PySem.W.plainGet_of
abbrev DN:=@Nat.le_succ
abbrev Li:=@List.of_mem_zip
abbrev Lj:=@PySem.F.slot_zip_next
abbrev Ln:=@List.foldl_cons
abbrev Px:=@PySem.W.callWith_K
abbrev Gq:=@PySem.wpAny_typeOf
abbrev Py:=@List.contains_cons
abbrev Gs:=@List.all_map
abbrev Pz:=@Array.forIn_toList
abbrev PB:=@decide_eq_true_iff
abbrev Lp:=@List.forIn_nil
abbrev PJ:=@List.getElem?_inj
abbrev PK:=@List.flatten_cons
abbrev PL:=@List.map_inj_left
set_option Elab.async false
set_option linter.all false
set_option maxRecDepth 100000
set_option maxHeartbeats 4000000
namespace L2
open PySem PySem.Spec PyProof.Rows PySem.W
noncomputable def subIn(K:W.Frag)(C D:Addr):Bool:=PySem.W.ktsIn K C "BaseException"&&PySem.W.ktsIn K D "BaseException"&&match K.lookup C with
 |some ⟨_,_,.cls cd,_⟩=>cd.mro.contains (.ref D)
 |_=>false
noncomputable def rH:List Value:=[.type "ValueError",.type "Exception",.type "BaseException",.type "object"]
noncomputable def bF:List Value->Bool
 |.ref _::r=>bF r
 |l=>l==rH
noncomputable def jQ(K:Frag)(C fI:Addr):Bool:=match K.lookup C with
 |some ⟨.type "type",_,.cls cd,sl⟩=>(match cd.mro,sl.toList with
  |.ref C'::bm,[_,_,_,_,some (.builtin n),_]=>C'==C&&n=="ValueError.__new__" && !cd.hasDel&&tailIn K rH bm&&nsOkIn K cd.ns&&nsIn K cd.ns "__init__"==some (some (.ref fI))
  |_,_=>false)
 |_=>false
noncomputable def aN(s:Stmt):Arguments:=match s with
 |.FunctionDef _ a _ _ _ _ _ _ _ _=>a
 |_=>{posonlyargs:=[],args:=[],vararg:=none,kwonlyargs:=[],kw_defaults:=[],kwarg:=none,defaults:=[]}
noncomputable def aK(s:Stmt):List Stmt:=match s with
 |.FunctionDef _ _ b _ _ _ _ _ _ _=>b
 |_=>[]
noncomputable def au(s:Stmt):Scope:=match s with
 |.FunctionDef _ _ _ _ _ _ sc _ _ _=>sc
 |_=>{kind:=.function,names:=[],isGenerator:=false,isCoroutine:=false}
end L2
namespace Mi
open PySem PySem.Spec PyProof.Rows L2 PySem.W
noncomputable def pA(n c:Nat):Nat:=if c<n then c else 0
noncomputable def jR(n c e:Nat):Bool:=pA n e==0||pA n c==pA n e
noncomputable def dY(L:List Addr)(c:Nat):Addr:=L.getD (pA L.length c) 0
noncomputable def Lq(K:W.Frag)(C:Addr):Bool:=
 PySem.W.findIn K (.ref C) "__getattribute__"==some (some (.builtin "BaseException.__getattribute__"))&&PySem.W.findIn K (.ref C) "__getattr__"==some none&&PySem.W.findIn K (.ref C) "__class__"==some (some (.builtin "object.__class__")) &&
 PySem.W.mroIn K C (.type "BaseException")==some true&&PySem.W.mroIn K C (.type "object")==some true&&(PySem.W.clsIn K C).isSome &&
 PySem.W.specialIn K (.builtin "object.__class__") "__get__"==some (some (.builtin "getset_descriptor.__get__"))&&PySem.W.takesIn K (.builtin "object.__class__")==some true
noncomputable def qK(K:W.Frag)(L:List Addr):Bool:=(List.range L.length).all λc=>Lq K (L.getD c 0)&&PySem.W.kitOne K (.ref (L.getD c 0)) (.type "ValueError")==some true &&
 (List.range L.length).all λe=>PySem.W.kitOne K (.ref (L.getD c 0)) (.ref (L.getD e 0))==some (jR L.length c e)
noncomputable def subB(K:W.Frag)(L:List Addr)(d:Nat):Bool:=(List.range L.length).all λc=>!(jR L.length c d)||L2.subIn K (L.getD c 0) (dY L d)
noncomputable def nR(fd:FuncData):FuncData:={fd with kwdefaults:=.none,doc:=.none,pyModule:=.none,annotations:=none,code:=.none,closureTuple:=.none}
noncomputable def vW(x:Str)(st:Stmt):FuncData:=fnOf x x (aN st) (aK st) (au st) .none .none .none .none none .none .none
noncomputable def Aw(K:Frag)(x:Str):Option (Addr×FuncData):=match nsIn K mainGlobals x with
 |some (some (.ref f))=>(match K.lookup f with
  |some ⟨_,_,.func fd,_⟩=>(match codeIn K fd.code x&&keepIn K (.ref f) with
   |true=>some (f,fd)
   |false=>none)
  |_=>none)
 |_=>none
noncomputable def dZ(K:Frag)(x:Str):Addr:=match nsIn K mainGlobals x with
 |some (some (.ref C))=>C
 |_=>0
noncomputable def tY(K:Frag)(x:Str):Bool:=match nsIn K mainGlobals x with
 |some (some (.ref _))=>true
 |_=>false
noncomputable def mz(K:Frag)(p:Str×Int):Bool:=match nsIn K mainGlobals p.1 with
 |some (some (.int i _))=>decide (i=p.2)
 |_=>false
noncomputable def qL(K:Frag)(x:Str):Bool:=match nsIn K mainGlobals x with
 |some none=>true
 |_=>false
noncomputable def Gu(K:Frag)(C:Addr):Bool:=excIn K C [.type "ValueError",.type "Exception",.type "BaseException",.type "object"] "ValueError.__new__"
structure Lk where
 Gv:List Str
 vX:List (Str×Int)
 Wz:List Str
 WD:List Nat
 WK:List Nat
noncomputable def Lk.L(l:Lk)(K:Frag):List Addr:=l.Gv.map (dZ K)
noncomputable def Lk.good(l:Lk)(K:Frag):Bool:=
 l.Gv.all (tY K)&&(l.Gv.isEmpty||qK K (l.L K))&&l.WD.all (λk=>Gu K (dY (l.L K) k))&&l.WK.all (λk=>subB K (l.L K) k)&&l.vX.all (mz K)&&l.Wz.all (qL K)
noncomputable def qM(h:Heap):List Addr->Frag
 |[]=>[]
 |a::r=>match h.get? a with
  |some o=>(a,o)::qM h r
  |none=>qM h r
noncomputable def dO(s:Stmt):List Stmt:=match s with
 |.ClassDef _ _ _ b _ _ _ _ _ _ _=>b
 |_=>[]
noncomputable def Ax(q:Str)(st:Stmt):FuncData:=fnOf "__init__" q (aN st) (aK st) (au st) .none .none .none .none none .none .none
noncomputable def Gw(K:Frag)(C:Addr):Option FuncData:=match clsIn K C with
 |some cd=>(match nsIn K cd.ns "__init__" with
  |some (some (.ref f))=>(match K.lookup f with
   |some ⟨.type "function",_,.func fd,_⟩=>(match codeIn K fd.code fd.qualname&&jQ K C f&&bF cd.mro&&cd.hasDict with
    |true=>some fd
    |false=>none)
   |_=>none)
  |_=>none)
 |none=>none
noncomputable def setB(K:Frag)(C:Addr)(fs:List Str):Bool:=findIn K (.ref C) "__setattr__"==some (some (.builtin "object.__setattr__"))&&fs.all (λf=>findIn K (.ref C) f==some none)
noncomputable def Lr(K:Frag)(C:Addr)(f:Str):Bool:=findIn K (.ref C) "__getattribute__"==some (some (.builtin "BaseException.__getattribute__"))&&findIn K (.ref C) "__getattr__"==some none&&mroIn K C (.type "BaseException")==some true&&findIn K (.ref C) f==some none&&hasDictIn K C
structure tZ where
 c:Nat
 q:Str
 st:Stmt
 fs:List Str
noncomputable def Gx:Nat->List Obj->Frag
 |_,[]=>[]
 |i,o::r=>match o.isFreed with
  |true=>Gx (i+1) r
  |false=>(i,o)::Gx (i+1) r
noncomputable def bQ(h:Heap):Frag:=qM h [mainGlobals]++(Gx 0 h.objs.toList).reverse
noncomputable def mC(fs:List (Str×Stmt))(ms:List tZ)(xs:List (Nat×Str))(l:Lk)(s:Shared):List (Option FuncData)×List (Option FuncData)×Bool:=
 (fs.map (λp=>(Aw (bQ s.heap) p.1).map (λq=>nR q.2)),ms.map (λm=>(Gw (bQ s.heap) (dY (l.L (bQ s.heap)) m.c)).map nR),
  l.good (bQ s.heap)&&ms.all (λm=>setB (bQ s.heap) (dY (l.L (bQ s.heap)) m.c) m.fs)&&xs.all (λx=>Lr (bQ s.heap) (dY (l.L (bQ s.heap)) x.1) x.2))
noncomputable def nU(fs:List (Str×Stmt))(ms:List tZ)(w:World):List (Option FuncData)×List (Option FuncData)×Bool:=(fs.map (λp=>some (vW p.1 p.2)),ms.map (λm=>some (Ax m.q m.st)),true)
noncomputable def Ls(fs:List (Str×Stmt))(s:Shared):List (Option FuncData):=fs.map (λp=>(Aw (bQ s.heap) p.1).map (λq=>nR q.2))
noncomputable def WL(ms:List tZ)(xs:List (Nat×Str))(l:Lk)(s:Shared):List (Option FuncData)×Bool:=(ms.map (λm=>(Gw (bQ s.heap) (dY (l.L (bQ s.heap)) m.c)).map nR),
  l.good (bQ s.heap)&&ms.all (λm=>setB (bQ s.heap) (dY (l.L (bQ s.heap)) m.c) m.fs)&&xs.all (λx=>Lr (bQ s.heap) (dY (l.L (bQ s.heap)) x.1) x.2))
theorem zeX{p q:Program}{loose:List Str}{Xt:Shared->Bool}{N:Nat}{fs1 rJ:List (Str×Stmt)}{ms:List tZ}{xs:List (Nat×Str)}{l:Lk}
  (a:∀w,(openEnds treeTable p w N).map (λs=>openSeen q loose (importedModules p.main.body) Xt true s)=some (openGood q loose))
  (b1:∀w,(openEnds treeTable p w N).map (Ls fs1)=some (fs1.map λp=>some (vW p.1 p.2)))
  (b2:∀w,(openEnds treeTable p w N).map (Ls rJ)=some (rJ.map λp=>some (vW p.1 p.2)))
  (c:∀w,(openEnds treeTable p w N).map (WL ms xs l)=some (ms.map (λm=>some (Ax m.q m.st)),true)):LeftO p q loose Xt (mC (fs1++rJ) ms xs l) (nU (fs1++rJ) ms) N:=by
 intro w;have a:=a w;have b1:=b1 w;have b2:=b2 w;have c:=c w;cases e:openEnds treeTable p w N with
 |none=>rw[e] at a;cases a
 |some s=>
  rw[e] at a b1 b2 c;have a:openSeen q loose (importedModules p.main.body) Xt true s=openGood q loose:=cJ a;have b1:=cJ b1;have b2:=cJ b2;have c:=cJ c;have c1:=nF Prod.fst c;have c2:=nF Prod.snd c;show some (_,mC (fs1++rJ) ms xs l s)=_;rw[a];have:mC (fs1++rJ) ms xs l s=nU (fs1++rJ) ms w:=by
   unfold mC nU;rw[qH,qH];have b1:List.map _ fs1=List.map _ fs1:=b1;have b2:List.map _ rJ=List.map _ rJ:=b2;rw[b1,b2];exact Prod.ext rfl (Prod.ext c1 c2)
  rw[this]
structure Bd where
 n:Str
 fs:List Str
 ms:List (Str×Str×Stmt)
noncomputable def lD(K:Frag)(C:Addr)(m:Str):Option (Addr×FuncData):=match findIn K (.ref C) m with
 |some (some (.ref f))=>(match K.lookup f with
  |some ⟨_,_,.func fd,_⟩=>(match codeIn K fd.code fd.qualname&&keepIn K (.ref f)&&isFn K (.ref f) with
   |true=>some (f,fd)
   |false=>none)
  |_=>none)
 |_=>none
noncomputable def DP(m q:Str)(st:Stmt):FuncData:=fnOf m q (aN st) (aK st) (au st) .none .none .none .none none .none .none
noncomputable def yP(K:Frag)(b:Bd):Bool:=tY K b.n&&plainGet K (dZ K b.n) Str.empty&&hasDictIn K (dZ K b.n)&&plainOver K (dZ K b.n)&&findIn K (.ref (dZ K b.n)) "__setattr__"==some (some (.builtin "object.__setattr__"))&&makesIn K (dZ K b.n)&&keepIn K (.ref (dZ K b.n))&&b.fs.all (λf=>findIn K (.ref (dZ K b.n)) f==some none)
noncomputable def Ay(b:Bd)(s:Shared):List (Option FuncData)×Bool:=(b.ms.map λp=>(lD (bQ s.heap) (dZ (bQ s.heap) b.n) p.1).map λq=>nR q.2,yP (bQ s.heap) b)
noncomputable def Az(b:Bd):List (Option FuncData)×Bool:=(b.ms.map λp=>some (DP p.1 p.2.1 p.2.2),true)
theorem zjd{p q:Program}{loose:List Str}{Xt:Shared->Bool}{N:Nat}{fs:List (Str×Stmt)}{ms:List tZ}{xs:List (Nat×Str)}{l:Lk}{b:Bd}(h:LeftO p q loose Xt (mC fs ms xs l) (nU fs ms) N)(e:∀w,(openEnds treeTable p w N).map (Ay b)=some (Az b)) :
  LeftO p q loose Xt (λs=>(mC fs ms xs l s,Ay b s)) (λw=>(nU fs ms w,Az b)) N:=by
 intro w;have h:=h w;have e:=e w;cases z:openEnds treeTable p w N with
 |none=>rw[z] at e;cases e
 |some s=>
  rw[z] at h e;have e:Ay b s=Az b:=cJ e;have h:=cJ h;have h1:=nF Prod.fst h;have h2:=nF Prod.snd h;show some (_,_,_)=some (_,_,_);rw[e];exact nF some (Prod.ext h1 (Prod.ext h2 rfl))
end Mi
namespace eZ
open PySem PySem.Spec PyProof.Rows PySem.W L2 Mi
noncomputable def top(i:Nat):Stmt:=PySem.Challenge.pw_ringhues_k11_hues_with_known_spots.main.body.getD i (.Pass ⟨0,0,0,0⟩)
noncomputable def DQ:Stmt:=(dO (top 27)).getD 0 (.Pass ⟨0,0,0,0⟩)
noncomputable def Gy:Stmt:=(dO (top 27)).getD 1 (.Pass ⟨0,0,0,0⟩)
noncomputable def DR:Stmt:=(dO (top 27)).getD 2 (.Pass ⟨0,0,0,0⟩)
noncomputable def DW:Stmt:=(dO (top 27)).getD 3 (.Pass ⟨0,0,0,0⟩)
noncomputable def DX:Stmt:=(dO (top 27)).getD 4 (.Pass ⟨0,0,0,0⟩)
noncomputable def Gz:Stmt:=(dO (top 27)).getD 5 (.Pass ⟨0,0,0,0⟩)
noncomputable def DY:Stmt:=(dO (top 27)).getD 6 (.Pass ⟨0,0,0,0⟩)
noncomputable def bd:Bd:=⟨"Board",["ends","spots","apart","alike"],[("__init__","Board.__init__",DQ),("far_apart","Board.far_apart",Gy),("settled","Board.settled",DR),("ties_left","Board.ties_left",DW),("bound","Board.bound",DX),("narrowest","Board.narrowest",Gz),("all_free","Board.all_free",DY)]⟩
noncomputable def fs1:List (Str×Stmt):=(("is_whole" : Str),top 14)::(("is_within" : Str),top 15)::(("is_row" : Str),top 16)::(("is_web" : Str),top 19)::(("is_many" : Str),top 20)::(("is_place" : Str),top 21)::(("is_tie" : Str),top 22)::(("check_web" : Str),top 23)::(("tied_to" : Str),top 24)::(("all_ends" : Str),top 25)::(("ring_board" : Str),top 28)::(("is_ring" : Str),top 31)::(("is_spot" : Str),top 32)::(("check_ring" : Str),top 33)::(("first_known" : Str),top 35)::(("are_known" : Str),top 36)::(("check_known" : Str),top 37)::(("first_among" : Str),top 38)::(("first_spot" : Str),top 39)::[]
noncomputable def rJ:List (Str×Stmt):=(("can_settle" : Str),top 40)::(("search" : Str),top 41)::(("_law_cell" : Str),top 43)::(("_law_pen" : Str),top 44)::(("_law_draw" : Str),top 45)::(("_law_whole" : Str),top 46)::(("_law_odd" : Str),top 47)::(("_law_kind" : Str),top 48)::(("_law_web" : Str),top 49)::(("_law_short" : Str),top 50)::(("_law_apart" : Str),top 51)::(("_law_all" : Str),top 52)::(("_law_known" : Str),top 53)::(("_law_are_known" : Str),top 54)::(("_law_first_with" : Str),top 55)::(("_law_bent_row" : Str),top 56)::(("_law_told_as" : Str),top 57)::(("_law_said" : Str),top 58)::(("_law_right" : Str),top 59)::(("law" : Str),top 60)::[]
noncomputable abbrev fs:List (Str×Stmt):=fs1++rJ
noncomputable def lk:Lk:=⟨["HueError","NoRing","NoHues","NoPlace","NoArrows","NoMap","NoPaper","Apart","NoRow","NoWeb","NoText","TooGreat"],[("MOST_PLACES",8),("MOST_SPOTS",24)],["ValueError","abs","all","bool","divmod","enumerate","int","isinstance","len","list","max","min","range","sorted","tuple","zip"],[1,2],[0]⟩
noncomputable def pK:Stmt:=(dO (top 10)).getD 0 (.Pass ⟨0,0,0,0⟩)
noncomputable def ms:List tZ:=[⟨9,"NoWeb.__init__",pK,["at"]⟩]
noncomputable def xs:List (Nat×Str):=[]
noncomputable abbrev pv:Program:=PySem.Challenge.pw_ringhues_k11_hues_with_known_spots
noncomputable def qv:Program:={pv with main:={pv.main with body:=[pv.main.body.getD 60 (.Pass ⟨0,0,0,0⟩)]}}
noncomputable def loose:List Str:=(["HueError","NoRing","NoHues","NoPlace","NoArrows","NoMap","NoPaper","Apart","NoRow","NoWeb","NoText","TooGreat","is_whole","is_within","is_row","MOST_PLACES","is_web","is_many","is_place","is_tie","check_web","tied_to","all_ends","Board","ring_board","MOST_SPOTS","is_ring","is_spot","check_ring","first_known","are_known","check_known","first_among","first_spot","can_settle","search","_law_cell","_law_pen","_law_draw","_law_whole","_law_odd","_law_kind","_law_web","_law_short","_law_apart","_law_all","_law_known","_law_are_known","_law_first_with","_law_bent_row","_law_told_as","_law_said","_law_right"]:List String).map Str.ofString
theorem zmx(w:World):(openEnds treeTable pv w 20000).map (λs=>openSeen qv loose (importedModules pv.main.body) (λs=>xlAt qv [] s&&recOk [] s) true s)=some (openGood qv loose):=by
 kernel_rfl
theorem zmY(w:World):(openEnds treeTable pv w 20000).map (Ls fs1)=some (fs1.map λp=>some (vW p.1 p.2)):=by
 kernel_rfl
theorem zll(w:World):(openEnds treeTable pv w 20000).map (Ls rJ)=some (rJ.map λp=>some (vW p.1 p.2)):=by
 kernel_rfl
theorem zlD(w:World):(openEnds treeTable pv w 20000).map (WL ms xs lk)=some (ms.map (λm=>some (Ax m.q m.st)),true):=by
 kernel_rfl
theorem ws:PySem.Challenge.rw_ringhues_k11_hues_with_known_spots.wellSaid=true:=by
 kernel_rfl
theorem zlg(w:World):(openEnds treeTable pv w 20000).map (Ay bd)=some (Az bd):=by
 kernel_rfl
theorem left:LeftO pv qv loose (λs=>xlAt qv [] s&&recOk [] s) (λs=>(mC fs ms xs lk s,Ay bd s)) (λw=>(nU fs ms w,Az bd)) 20000:=zjd (zeX zmx zmY zll zlD) zlg
end eZ
namespace L2
open PySem PySem.Spec PyProof.Rows
theorem eE{α:Sort u}{β:Sort v}{A B C:α->β->Prop}{P:Prop}(h:∃x y,A x y/\B x y/\C x y)(k:∀x y,A x y->B x y->C x y->P):P:=by
 obtain⟨x,y,a,b,c⟩:=h;exact k x y a b c
theorem PN{α:Sort u}{β:Sort v}{γ:Sort w}{A B:α->β->Prop}{C D:α->β->γ->Prop}{P:Prop}(h:∃x y,A x y/\B x y/\∃z,C x y z/\D x y z)(k:∀x y,A x y->B x y->∀z,C x y z->D x y z->P):P:=by
 obtain⟨x,y,a,b,z,c,d⟩:=h;exact k x y a b z c d
theorem vY{α:Sort u}{A B:α->Prop}{P:Prop}(h:∃x,A x/\B x)(k:∀x,A x->B x->P):P:=by
 obtain⟨x,a,b⟩:=h;exact k x a b
noncomputable abbrev Key:=Sum Int Str
noncomputable def lE:Key->Value->Bool
 |.inl k,v=>Value.isInt k v
 |.inr x,v=>Value.isStrOf x v
noncomputable def PX(w:World):Key->Int
 |.inl k=>hashInt k
 |.inr x=>hashStr w x
theorem wJ:∀{k:Key} {v:Value},lE k v=true->(∃i t,k=Sum.inl i/\v=Value.int i t)\/(∃x t,k=Sum.inr x/\v=Value.str x t)
 |.inl i,v,h=>by
  obtain⟨t,e⟩:=Value.isInt_shape (k:=i) (v:=v) h;exact .inl ⟨i,t,rfl,e⟩
 |.inr x,v,h=>by
  obtain⟨t,e⟩:=Value.isStrOf_shape (x:=x) (v:=v) h;exact .inr ⟨x,t,rfl,e⟩
theorem zgs(i:Int)(t:Tok):lE (.inl i) (.int i t)=true:=by simp[lE,Value.isInt]
theorem zf9(x:Str)(t:Tok):lE (.inr x) (.str x t)=true:=by simp[lE,Value.isStrOf]
theorem zmQ(a b:Int):decide ((Sum.inl a:Key)=Sum.inl b)=(a==b):=by
 by_cases e:a=b
 ·subst e;simp
 ·have h:¬(Sum.inl a:Key)=Sum.inl b:=λq=>e (Sum.inl.inj q);rw[jG h];exact(yF.mpr e).symm
theorem zmK(a b:Str):decide ((Sum.inr a:Key)=Sum.inr b)=decide (a=b):=by
 by_cases e:a=b
 ·subst e;simp
 ·have h:¬(Sum.inr a:Key)=Sum.inr b:=λq=>e (Sum.inr.inj q);rw[jG h,jG e]
theorem zmJ(a:Int)(b:Str):decide ((Sum.inl a:Key)=Sum.inr b)=false:=jG (λq=>nomatch q)
theorem zmh(a:Str)(b:Int):decide ((Sum.inr a:Key)=Sum.inl b)=false:=jG (λq=>nomatch q)
noncomputable def cj(prog:Program)(w:World):PySem.KeyKind prog w Key where
 is:=lE
 hash:=PX w
 inj:=λv a b ha hb=>by
  rcases wJ ha with ⟨i,t,rfl,rfl⟩|⟨x,t,rfl,rfl⟩
  ·rcases wJ hb with ⟨j,u,rfl,e⟩|⟨y,u,rfl,e⟩
   ·injection e with e1 _;rw[e1]
   ·exact nomatch e
  ·rcases wJ hb with ⟨j,u,rfl,e⟩|⟨y,u,rfl,e⟩
   ·exact nomatch e
   ·injection e with e1 _;rw[e1]
 byValue:=λk v h=>by
  rcases wJ h with ⟨i,t,rfl,rfl⟩|⟨x,t,rfl,rfl⟩<;>rfl
 pyHash:=λhv h=>by
  rcases wJ hv with ⟨i,t,rfl,rfl⟩|⟨x,t,rfl,rfl⟩
  ·exact wpAny_pyHash_int h
  ·exact wpAny_pyHash_str h
 eqBool:=λhu hv h=>by
  rcases wJ hu with ⟨i,t,rfl,rfl⟩|⟨x,t,rfl,rfl⟩
  ·rcases wJ hv with ⟨j,u,rfl,rfl⟩|⟨y,u,rfl,rfl⟩
   ·rw[zmQ] at h;exact wpAny_eqBool_int h
   ·rw[zmJ] at h;exact SeqAt.EqAt.int_str i t y u _ _ _ _ h
  ·rcases wJ hv with ⟨j,u,rfl,rfl⟩|⟨y,u,rfl,rfl⟩
   ·rw[zmh] at h;exact SeqAt.EqAt.str_int x t j u _ _ _ _ h
   ·rw[zmK] at h;exact wpAny_eqBool_str h
 «strs»:=λk x t v h=>by
  rcases wJ h with ⟨i,u,rfl,e⟩|⟨y,u,rfl,e⟩
  ·exact nomatch e
  ·injection e with e1 _;subst e1;cases v<;>rfl
theorem zdK(prog:Program)(w:World)(i:Int)(t:Tok):(cj prog w).is (.inl i) (.int i t)=true:=zgs i t
theorem zdB(prog:Program)(w:World)(x:Str)(t:Tok):(cj prog w).is (.inr x) (.str x t)=true:=zf9 x t
inductive V where
 |non|bl (b:Bool)|int (i:Int)|str (x:Str)|A_ (b:Array UInt8)|flt (b:UInt64)|ref (a:Addr)|ty (n:String)
 deriving DecidableEq
noncomputable def RelV:V->Value->Prop
 |.non,u=>u=Value.none
 |.bl b,u=>u=Value.bool b
 |.int i,u=>∃t,u=Value.int i t
 |.str x,u=>∃t,u=Value.str x t
 |.A_ b,u=>∃t,u=Value.bytes b t
 |.flt b,u=>∃t,u=Value.float b t
 |.ref a,u=>u=Value.ref a
 |.ty n,u=>u=Value.type n
noncomputable abbrev Vals:List V->List Value->Prop:=Paired RelV
theorem Vals.length{xs:List V}{us:List Value}(r:Vals xs us):xs.length=us.length:=Paired.length r
theorem Vals.get:∀{xs:List V} {us:List Value} {i:Nat} {x:V},Vals xs us->xs[i]?=some x->∃u,us[i]?=some u/\RelV x u
 |_,_,_,_,.nil,e=>by simp at e
 |_,_,0,_,.cons r _,e=>by simp at e;subst e;exact⟨_,rfl,r⟩
 |_,_,i+1,x,.cons _ t,e=>by
  obtain⟨u,h1,h2⟩:=Vals.get (i:=i) (x:=x) t (by simpa using e);exact⟨u,by simpa using h1,h2⟩
theorem Vals.set{x:V}{u:Value}(r:RelV x u):∀{xs:List V} {us:List Value} (i:Nat),Vals xs us->Vals (xs.set i x) (us.set i u)
 |_,_,_,.nil=>.nil
 |_,_,0,.cons _ t=>.cons r t
 |_,_,i+1,.cons q t=>.cons q (Vals.set r i t)
theorem Vals.append{xs ys:List V}{us ws:List Value}(h:Vals xs us)(s:Vals ys ws):Vals (xs++ys) (us++ws):=by
 induction h with
 |nil=>exact s
 |cons r _ ih=>exact .cons r ih
theorem Vals.take:∀{xs:List V} {us:List Value} (n:Nat),Vals xs us->Vals (xs.take n) (us.take n)
 |_,_,0,_=>.nil
 |_,_,_+1,.nil=>.nil
 |_,_,n+1,.cons r t=>.cons r (Vals.take n t)
theorem Vals.drop:∀{xs:List V} {us:List Value} (n:Nat),Vals xs us->Vals (xs.drop n) (us.drop n)
 |_,_,0,r=>r
 |_,_,_+1,.nil=>.nil
 |_,_,n+1,.cons _ t=>Vals.drop n t
noncomputable def pL:Option V->Option Value->Prop
 |some v,some u=>RelV v u
 |none,none=>True
 |_,_=>False
noncomputable def KV{κ:Type}:List (κ×V)->List (κ×Value)->Prop:=Paired λ(p:κ×V) (q:κ×Value)=>p.1=q.1/\RelV p.2 q.2
noncomputable def kV:Key->V
 |.inl i=>.int i
 |.inr x=>.str x
inductive HO where
 |lst (xs:List V)
 |tup (xs:List V)
 |dK (kvs:List (Key×V))|dT (kvs:List (List Key×V))
 |set (S:Int->Bool) (n:Nat)
 |ins (C dx:Addr) (fs:List (Str×V))
 |own (x:Addr)
 |xd (fs:List (Str×V))
 |met (f x:Addr)
 |rng (lo hi:Int)
 |t_ (o:Obj) (u:HO)
 |yQ (ps:Array Value)
 |ext (U:Heap->Prop)
noncomputable abbrev Hp:=Addr->Option HO
noncomputable def upd(H:Hp)(a:Addr)(o:HO):Hp:=λb=>if b=a then some o else H b
theorem iV{H:Hp}{a:Addr}{o:HO}:upd H a o a=some o:=by unfold upd;rw[if_pos rfl]
theorem cW{H:Hp}{a b:Addr}{o:HO}(h:b≠a):upd H a o b=H b:=by unfold upd;rw[if_neg h]
theorem WM{H:Hp}{a:Addr}{o u:HO}:upd (upd H a o) a u=upd H a u:=by
 funext b;unfold upd;split<;>rfl
theorem D_{H:Hp}{a b:Addr}{o:HO}(h:H a=some o)(h':H b=none):a≠b:=by
 intro e;subst e;rw[h] at h';cases h'
section
variable (P:Program)(w:World)
noncomputable def aU(H:Hp)(h:Heap)(a:Addr):HO->Prop
 |.lst xs=>xs.length<=sizeLine/\∃(its:List Value) (n:Nat),Vals xs its/\h.get? a=some {cls:=.type "list",data:=.seq its.toArray n}
 |.tup xs=>xs.length<=sizeLine/\∃its:List Value,Vals xs its/\IsTup h a its.toArray
 |.dK kvs=>kvs.length<=sizeLine/\(a==sysModules)=false/\∃vs,KV kvs vs/\h.DictOf (cj P w) a vs
 |.dT kvs=>kvs.length<=sizeLine/\(a==sysModules)=false/\∃xs:List (List Key×Addr×Value),
   Paired (λ(p:List Key×V) (q:List Key×Addr×Value)=>p.1=q.1/\H q.2.1=some (.tup (p.1.map kV))/\RelV p.2 q.2.2) kvs xs /\
   ∃o es ep,h.get? a=some o/\o.ExactDict/\o.data=.dict es ep/\es.toList=xs.map (entryOfKey (tupleKind (cj P w)))/\(xs.map (·.1)).Nodup
 |.set S n=>h.SetOf (intKind P w) a S n
 |.ins C dx fs=>H dx=some (.own a)/\fs.length<=1000/\dx≠a/\h.get? a=some (PySem.W.instObj C dx) /\
   ∃mA,h.Ns1 dx mA/\(∀f,pL (fs.lookup f) (mA f))/\PySem.Within mA (fs.map (·.1))
 |.own _=>∃o,h.get? a=some o
 |.xd fs=>∃mA,h.Ns1 a mA/\∀f,pL (fs.lookup f) (mA f)
 |.rng lo hi=>∃t u v,h.get? a=some {cls:=.type "range",data:=.fields #[.int lo t,.int hi u,.int 1 v]}
 |.t_ o u=>h.get? a=some o/\aU H h a u
 |.yQ ps=>h.get? a=some {cls:=.none,data:=.fields ps}
 |.met f x=>h.get? a=some (PySem.W.methodObj (.ref f) (.ref x))
 |.ext U=>U h/\(∃o,h.get? a=some o)/\∀h1 h2:Heap,U h1->(∀o,h1.get? a=some o->h2.get? a=some o)->U h2
def gK(H:Hp)(h:Heap):Prop:=∀a o,H a=some o->aU P w H h a o
end
section
variable {P:Program}{w:World}{H H':Hp}{h h':Heap}{a:Addr}{o:HO}
theorem aU.lt(x:aU P w H h a o):a<h.objs.size:=by
 cases o with
 |lst xs=>obtain⟨_,_,_,_,e⟩:=x;exact bN e
 |tup xs=>obtain⟨_,_,_,p⟩:=x;exact p.lt
 |dK kvs=>obtain⟨_,_,_,_,o,_,_,e,_⟩:=x;exact bN e
 |dT kvs=>obtain⟨_,_,_,_,o,_,_,e,_⟩:=x;exact bN e
 |set S n=>obtain⟨o,_,_,_,e,_⟩:=x;exact bN e
 |ins C dx fs=>obtain⟨_,_,_,e,_⟩:=x;exact bN e
 |own y=>obtain⟨_,e⟩:=x;exact bN e
 |xd fs=>obtain⟨_,⟨_,_,_,e,_⟩,_⟩:=x;exact bN e
 |rng lo hi=>obtain⟨_,_,_,e⟩:=x;exact bN e
 |t_ ob u=>obtain⟨e,_⟩:=x;exact bN e
 |yQ ps=>exact bN (show h.get? a=some _ from x)
 |met f y=>exact bN (show h.get? a=some _ from x)
 |ext U=>obtain⟨_,⟨_,e⟩,_⟩:=x;exact bN e
theorem WQ{α β:Type}{F G:α->β->Prop}:∀{l₁:List α} {l₂:List β},Paired F l₁ l₂->(∀a b,F a b->G a b)->Paired G l₁ l₂
 |_,_,.nil,_=>.nil
 |_,_,.cons r t,f=>.cons (f _ _ r) (WQ t f)
theorem aU.stay(x:aU P w H h a o)(k:∀b u,(b=a\/H b=some (.own a))->h.get? b=some u->h'.get? b=some u)
  (ho:∀b,H b=some (.own a)->H' b=some (.own a)) (ht:∀b xs,H b=some (.tup xs)->H' b=some (.tup xs)):aU P w H' h' a o:=by
 induction o with
 |lst xs=>obtain⟨z,its,n,r,e⟩:=x;exact⟨z,its,n,r,k _ _ (.inl rfl) e⟩
 |tup xs=>obtain⟨z,its,r,ob,e,c⟩:=x;exact⟨z,its,r,ob,k _ _ (.inl rfl) e,c⟩
 |dK kvs=>obtain⟨z,y,vs,r,ob,es,ep,e,c⟩:=x;exact⟨z,y,vs,r,ob,es,ep,k _ _ (.inl rfl) e,c⟩
 |dT kvs=>
  obtain⟨z,y,xs,r,ob,es,ep,e,c⟩:=x;exact⟨z,y,xs,WQ r λp q z=>⟨z.1,ht _ _ z.2.1,z.2.2⟩,ob,es,ep,k _ _ (.inl rfl) e,c⟩
 |set S n=>obtain⟨ob,es,ep,t,e,c⟩:=x;exact⟨ob,es,ep,t,k _ _ (.inl rfl) e,c⟩
 |ins C dx fs=>
  obtain⟨d,z,ne,e,mA,⟨od,es,ep,e2,c⟩,r⟩:=x;exact⟨ho _ d,z,ne,k _ _ (.inl rfl) e,mA,⟨od,es,ep,k _ _ (.inr d) e2,c⟩,r⟩
 |own y=>obtain⟨ob,e⟩:=x;exact⟨ob,k _ _ (.inl rfl) e⟩
 |xd fs=>obtain⟨mA,⟨od,es,ep,e,c⟩,r⟩:=x;exact⟨mA,⟨od,es,ep,k _ _ (.inl rfl) e,c⟩,r⟩
 |rng lo hi=>obtain⟨t,u,v,e⟩:=x;exact⟨t,u,v,k _ _ (.inl rfl) e⟩
 |t_ ob u ih=>obtain⟨e,q⟩:=x;exact⟨k _ _ (.inl rfl) e,ih q⟩
 |yQ ps=>
  have e:h.get? a=some {cls:=.none,data:=.fields ps}:=x;show h'.get? a=some {cls:=.none,data:=.fields ps};exact k a _ (.inl rfl) e
 |met f y=>
  have e:h.get? a=some (PySem.W.methodObj (.ref f) (.ref y)):=x;show h'.get? a=some (PySem.W.methodObj (.ref f) (.ref y));exact k a _ (.inl rfl) e
 |ext U=>obtain⟨p,⟨o,e⟩,st⟩:=x;exact⟨st _ _ p λo q=>k _ _ (.inl rfl) q,⟨o,k _ _ (.inl rfl) e⟩,st⟩
theorem gK.lt(x:gK P w H h)(e:H a=some o):a<h.objs.size:=(x a o e).lt
theorem gK.fresh(x:gK P w H h)(e:h.objs.size<=a):H a=none:=by
 cases q:H a with
 |none=>rfl
 |some u=>exact absurd (gJ (x.lt q) e) (qI _)
theorem gK.kept(x:gK P w H h)(k:∀b u,h.get? b=some u->h'.get? b=some u):gK P w H h':=λa o e=>
 (x a o e).stay (λb u _ q=>k b u q) (λ_ q=>q) λ_ _ q=>q
theorem gK.laid(x:gK P w H h)(k:∀b u,h.get? b=some u->h'.get? b=some u)(hp:h.objs.size<=a)(new:aU P w (upd H a o) h' a o):gK P w (upd H a o) h':=λb u e=>by
 have hn:=x.fresh hp;by_cases hb:b=a
 ·subst hb;rw[iV] at e;cases e;exact new
 ·rw[cW hb] at e;exact(x b u e).stay (λc v _ q=>k c v q) (λc q=>by rw[cW (D_ q hn)];exact q) λc xs q=>by rw[cW (D_ q hn)];exact q
end
def Rd(H:Hp)(a:Addr)(u:HO):Prop:=H a=some u\/∃o,H a=some (.t_ o u)
theorem Rd.ok{P:Program}{w:World}{H:Hp}{h:Heap}{a:Addr}{u:HO}(r:Rd H a u)(x:gK P w H h):aU P w H h a u:=by
 rcases r with r|⟨o,r⟩
 ·exact x a u r
 ·obtain⟨_,q⟩:=x a _ r;exact q
noncomputable def GC:Option HO->Prop
 |some (.lst _)=>True
 |some (.dK _)=>True
 |some (.dT _)=>True
 |some (.set _ _)=>True
 |some (.ins _ _ _)=>True
 |some (.ext _)=>True
 |_=>False
section
variable {P:Program}{w:World}{H:Hp}{h h':Heap}{x e:Addr}{o':HO}
theorem gK.write(ok:gK P w H h)(mu:GC (H x))(he:e=x\/H e=some (.own x))(k:∀b u,b≠e->h.get? b=some u->h'.get? b=some u)(Ed:∃u,h'.get? e=some u)
  (new:aU P w (upd H x o') h' x o'):gK P w (upd H x o') h':=λb u q=>by
 have GD:∀c y,H c=some (.own y)->c≠x:=λc y r z=>by subst z;rw[r] at mu;exact mu
 have P0:∀c xs,H c=some (.tup xs)->c≠x:=λc xs r z=>by subst z;rw[r] at mu;exact mu
 by_cases hb:b=x
 ·subst hb;rw[iV] at q;cases q;exact new
 ·rw[cW hb] at q;by_cases Ba:b=e
  ·have q':H b=some (.own x):=by
    rcases he with z|z
    ·exact absurd (Ba.trans z) hb
    ·rw[Ba];exact z
   rw[q] at q';cases q';obtain⟨v,hv⟩:=Ed;exact⟨v,by rw[Ba];exact hv⟩
  ·refine(ok b u q).stay (λc v hc r=>k c v ?_ r) (λc r=>by rw[cW (GD c b r)];exact r) λc xs r=>by rw[cW (P0 c xs r)];exact r
   rcases hc with rfl|hc
   ·exact Ba
   ·rintro rfl;rcases he with z|z
    ·exact GD c b hc z
    ·rw[hc] at z;cases z;exact hb rfl
end
structure Un(fs ex:List Addr)(H H':Hp)(h h':Heap):Prop where
 keep:∀b o,h.get? b=some o->H b=none->b∉fs->b∉ex->h'.get? b=some o
 slot:∀b o,h.get? b=some o->H b=none->b∈fs->b∉ex->∃sl,h'.get? b=some {o with slots:=sl}
 free:∀b o,h.get? b=some o->H b=none->b∉ex->H' b=none
 there:∀b o,h.get? b=some o->b∉ex->∃o',h'.get? b=some o'
 tups:∀b xs,H b=some (.tup xs)->H' b=some (.tup xs)
 jt:∀b o u,H b=some (.t_ o u)->H' b=some (.t_ o u)
 jT:∀b ps,H b=some (.yQ ps)->∃more,H' b=some (.yQ (ps++more))
section
variable {fs fs' ex ex':List Addr}{H H1 H2:Hp}{h h1 h2 h':Heap}{a x e:Addr}{o:HO}
theorem Un.any(u:Un fs ex H H1 h h1){b:Addr}{ob:Obj}(q:h.get? b=some ob)(n:H b=none)(hx:b∉ex):∃sl,h1.get? b=some {ob with slots:=sl}:=by
 by_cases hb:b∈fs
 ·exact u.slot b ob q n hb hx
 ·exact⟨ob.slots,u.keep b ob q n hb hx⟩
theorem Un.kept(k:∀b u,h.get? b=some u->h'.get? b=some u):Un fs ex H H h h':=
 ⟨λb ob q _ _ _=>k b ob q,λb ob q _ _ _=>⟨ob.slots,k b ob q⟩,λ_ _ _ n _=>n,λb ob q _=>⟨ob,k b ob q⟩,λ_ _ q=>q,λ_ _ _ q=>q,λ_ ps q=>⟨#[],by rw[q];simp⟩⟩
theorem Un.refl:Un fs ex H H h h:=Un.kept λ_ _ q=>q
theorem Un.laid(k:∀b u,h.get? b=some u->h'.get? b=some u)(hp:h.objs.size<=a)(hn:H a=none):Un fs ex H (upd H a o) h h' where
 keep:=λb u q _ _ _=>k b u q
 slot:=λb u q _ _ _=>⟨u.slots,k b u q⟩
 free:=λb u q n _=>by rw[cW (dw (gJ (bN q) hp))];exact n
 there:=λb u q _=>⟨u,k b u q⟩
 tups:=λb xs q=>by rw[cW (D_ q hn)];exact q
 jt:=λb u xs q=>by rw[cW (D_ q hn)];exact q
 jT:=λb ps q=>⟨#[],by rw[cW (D_ q hn),q];simp⟩
theorem Un.write(mu:GC (H x))(he:e=x\/H e=some (.own x))(k:∀b u,b≠e->h.get? b=some u->h'.get? b=some u)(Ed:∃u,h'.get? e=some u):Un fs ex H (upd H x o) h h':=by
 have hx:∀b,H b=none->b≠x:=λb n z=>by subst z;rw[n] at mu;exact mu
 have hb:∀b,H b=none->b≠e:=λb n z=>by
  subst z;rcases he with r|r
  ·exact hx b n r
  ·rw[n] at r;cases r
 have hm:∀b u,H b=some u->¬GC (some u)->b≠x:=λb u q nm z=>by subst z;rw[q] at mu;exact nm mu
 refine⟨λb u q n _ _=>k b u (hb b n) q,λb u q n _ _=>⟨u.slots,k b u (hb b n) q⟩,λb u q n _=>by rw[cW (hx b n)];exact n,λb u q _=>?_,
  λb xs q=>by rw[cW (hm b _ q λz=>z)];exact q,λb u xs q=>by rw[cW (hm b _ q λz=>z)];exact q,λb ps q=>⟨#[],by rw[cW (hm b _ q λz=>z),q];simp⟩⟩
 by_cases Ba:b=e
 ·subst Ba;exact Ed
 ·exact⟨u,k b u Ba q⟩
end
noncomputable def Lw(h:Heap)(H:Hp):List Addr:=(List.range h.objs.size).filter λa=>(H a).isSome
noncomputable def mD(h:Heap)(H:Hp):Heap:=PySem.W.hideAll h (Lw h H)
theorem zf2(h:Heap)(H:Hp):(mD h H).objs.size=h.objs.size:=PySem.W.hideAll_size _ _
theorem zhn{h:Heap}{H:Hp}{b:Addr}{o:Obj}(e:h.get? b=some o)(n:H b=none):(mD h H).get? b=some o:=
 PySem.W.hideAll_get _ e λhm=>by
  have q:(H b).isSome=true:=(tX.mp hm).2;rw[n] at q;simp at q
theorem zjp{h:Heap}{H:Hp}{b:Addr}{o:Obj}(e:(mD h H).get? b=some o):h.get? b=some o/\H b=none:=by
 have e':h.get? b=some o:=PySem.W.of_hideAll (Lw h H) e;refine⟨e',?_⟩;cases q:H b with
 |none=>rfl
 |some x=>
  have hm:b∈Lw h H:=tX.mpr ⟨vQ.mpr (bN e'),by simp[q]⟩;have z:(mD h H).get? b=none:=PySem.W.hideAll_none (Lw h H) hm;rw[z] at e;cases e
structure Mod(K:W.Frag)(mg:Str->Option Value)(base:Heap):Prop where
 vX:K.In base
 glob:base.Ns mainGlobals mg
 blt:∃mb,base.Ns builtinsNs mb/\∀x:Str,x≠"__name__"->mb x=bootBuiltins x
 nolimit:base.NoLimit
structure Cx where
 prog:Program
 w:World
 K:W.Frag
 mg:Str->Option Value
 base:Heap
 A:Around
 N:List Str
 s₀:Shared
 H₀:Hp
 env:Env
 outer:List Env
 stack:List Env
 ex:List Addr
 fn:Str->Bool
 aj:Bool
 pn:List (Addr×Obj)
 xe:Value->Shared->Prop
noncomputable def frs(l:List Env):List Addr:=l.filterMap (·.frame)
noncomputable abbrev Cx.fs(X:Cx):List Addr:=frs X.outer
def P_(sc:Scope)(x:Str):Prop:=sc.names.lookup x=some .local\/sc.names.lookup x=some .cell\/sc.names.lookup x=some .free
def Loc(sc:Scope)(x:Str):Prop:=sc.names.lookup x=some .local\/sc.names.lookup x=some .cell
def Look(env:Env)(h:Heap)(m:Str->Option Value)(x:Str)(u:Value):Prop:=
 (env.kindOf x=some .local/\m x=some u)\/((env.kindOf x=some .cell\/env.kindOf x=some .free)/\∃c,env.cells.lookup x=some c/\h.IsCell c (some u))
structure Cx.Ok(X:Cx):Prop where
 mod:Mod X.K X.mg X.base
 kind:X.env.scope.kind=.function
 glob:X.env.globals=mainGlobals
 blt:X.env.builtins=builtinsNs
 above:X.s₀.heap.objs.size<=X.env.locals
 inj:∀x y c,X.env.cells.lookup x=some c->X.env.cells.lookup y=some c->x=y
 has:∀x,(X.env.kindOf x=some .cell\/X.env.kindOf x=some .free)->∃c,X.env.cells.lookup x=some c
 cab:∀x c,X.fn x=true->X.env.cells.lookup x=some c->X.s₀.heap.objs.size<=c
 hd:X.aj=true->X.A.handled=none
 frames:X.A.frames=some X.stack
 stk:X.stack=X.outer\/(X.stack=X.env::X.outer/\X.env.frame=some X.env.locals)
 WT:∀b∈X.ex,b≠X.env.locals/\∀x c,X.env.cells.lookup x=some c->c≠b
 bs:∀b o,X.base.get? b=some o->X.s₀.heap.get? b=some o/\X.H₀ b=none
 wK:X.base.objs.size<=X.s₀.heap.objs.size
 uc:∀b o,X.base.get? b=some o->b∉X.ex
 wL:∀b∈X.ex,b∉X.fs
 ju:X.s₀.heap.FunFrames X.base X.outer
 Bb:∀b∈X.fs,X.H₀ b=none
structure Inv(X:Cx)(ao:List (Addr×Obj))(Z:List (Option V))(H:Hp)(s:Shared):Prop where
 ok:X.Ok
 os:s.os=X.s₀.os
 bare:AllBare s.gens
 base:Un X.fs X.ex X.H₀ H X.s₀.heap s.heap
 loc:∃m,s.heap.Ns X.env.locals m/\∀(i:Nat) (x:Str) (v:V),X.N[i]?=some x->Z[i]?=some (some v)->P_ X.env.scope x->∃u,RelV v u/\Look X.env s.heap m x u
 cell:∀x c,X.env.cells.lookup x=some c->∃v,s.heap.IsCell c v
 free:H X.env.locals=none
 fB:∀x c,X.env.cells.lookup x=some c->H c=none
 pin:∀p∈X.pn++ao,s.heap.get? p.1=some p.2/\H p.1=none/\p.1≠X.env.locals/\p.1∉X.fs/\∀v,p.2.data≠.cell v
 hok:gK X.prog X.w H s.heap
 len:Z.length=X.N.length
section
variable {X:Cx}{ao:List (Addr×Obj)}{Z:List (Option V)}{H H':Hp}{s:Shared}{h':Heap}
theorem Cx.Ok.Qa(ok:X.Ok){b:Addr}{o:Obj}(e:X.base.get? b=some o):b∉X.fs:=λhb=>by
 have:=(ok.ju.mem hb).1;rw[e] at this;cases this
theorem Inv.bs(I:Inv X ao Z H s):∀b o,X.base.get? b=some o->s.heap.get? b=some o/\H b=none:=λb o e=>
 ⟨I.base.keep b o (I.ok.bs b o e).1 (I.ok.bs b o e).2 (I.ok.Qa e) (I.ok.uc b o e),I.base.free b o (I.ok.bs b o e).1 (I.ok.bs b o e).2 (I.ok.uc b o e)⟩
theorem Inv.bk(I:Inv X ao Z H s):∀b o,X.base.get? b=some o->s.heap.get? b=some o:=λb o e=>(I.bs b o e).1
theorem Inv.mod(I:Inv X ao Z H s):Mod X.K X.mg X.base:=I.ok.mod
theorem Inv.kZ(I:Inv X ao Z H s):X.K.In s.heap:=I.ok.mod.vX.keeps I.bk
theorem Inv.nolimit(I:Inv X ao Z H s):s.heap.NoLimit:=I.ok.mod.nolimit.keeps I.bk
theorem Inv.lt(I:Inv X ao Z H s):X.env.locals<s.heap.objs.size:=let ⟨_,hn,_⟩:=I.loc;hn.lt
theorem Inv.sz(I:Inv X ao Z H s):X.s₀.heap.objs.size<=s.heap.objs.size:=kI I.ok.above (yN I.lt)
theorem Inv.Qc(I:Inv X ao Z H s){a:Addr}(h:s.heap.objs.size<=a):a∉X.fs:=λhb=>by
 obtain⟨_,o,ho,_⟩:=I.ok.ju.mem hb;exact absurd (gJ (bN ho) (kI I.sz h)) (qI _)
theorem Inv.wM(I:Inv X ao Z H s):∀x c,X.env.cells.lookup x=some c->c≠X.env.locals:=λx c e z=>by
 obtain⟨v,o,ho,hd⟩:=I.cell x c e;obtain⟨m,⟨o',es,ep,ud,Bc,_⟩,_⟩:=I.loc;rw[z,ud] at ho;cases ho;rw[Bc] at hd;cases hd
theorem Inv.ju(I:Inv X ao Z H s):s.heap.FunFrames X.base X.outer:=by
 have all:∀(l:List Env),(∀b∈frs l,b∈X.fs)->X.s₀.heap.FunFrames X.base l->s.heap.FunFrames X.base l:=by
  intro l
  induction l with
  |nil=>intro _ _;trivial
  |cons env r ih=>
   intro hs hl;obtain⟨hk,⟨L,o,hf,hn,ho,hd⟩,hr⟩:=hl;have hL:L∈X.fs:=hs L (by unfold frs;rw[Dp,hf];exact jF);obtain⟨sl,e⟩:=I.base.slot L o ho (I.ok.Bb L hL) hL λz=>I.ok.wL L z hL;exact⟨hk,⟨L,_,hf,hn,e,hd⟩,ih (λb hb=>hs b (by unfold frs;rw[Dp,hf];exact gb _ hb)) hr⟩
 exact all X.outer (λ_ hb=>hb) I.ok.ju
theorem Inv.stack(I:Inv X ao Z H s):s.heap.FunFrames X.base X.stack:=by
 rcases I.ok.stk with e|⟨e,hf⟩
 ·rw[e];exact I.ju
 ·rw[e];obtain⟨m,hn,_⟩:=I.loc;refine .cons (by rw[I.ok.kind];decide) hf hn ?_ I.ju;exact Dl (kI I.ok.wK I.ok.above)
theorem Inv.mF(I:Inv X ao Z H s):∀b∈frs X.stack,b∈X.env.locals::X.fs:=λb hb=>by
 rcases I.ok.stk with e|⟨e,hf⟩
 ·rw[e] at hb;exact gb _ hb
 ·rw[e] at hb;unfold frs at hb;rw[Dp,hf] at hb;exact hb
theorem Inv.jH(I:Inv X ao Z H s):∀b∈frs X.stack,H b=none:=λb hb=>by
 rcases gY.mp (I.mF b hb) with e|hb
 ·rw[e];exact I.free
 ·obtain⟨_,o,ho,_⟩:=I.ok.ju.mem hb;exact I.base.free b o ho (I.ok.Bb b hb) λz=>I.ok.wL b z hb
theorem Inv.step{g':Array GenState}{t':Nat}{d':Drawn}{ch:List Addr}(I:Inv X ao Z H s)
  (vZ:∀b∈ch,(b∈X.ex\/X.s₀.heap.get? b=none)/\b≠X.env.locals/\(∀x c,X.env.cells.lookup x=some c->c≠b)/\∀p∈X.pn++ao,p.1≠b)
  (keep:∀b o,b≠X.env.locals->b∉X.fs->b∉ch->s.heap.get? b=some o->H b=none->h'.get? b=some o)
  (slot:∀b o,b≠X.env.locals->b∈X.fs->b∉ch->s.heap.get? b=some o->H b=none->∃sl,h'.get? b=some {o with slots:=sl}) (free:∀b o,b∉ch->s.heap.get? b=some o->H b=none->H' b=none)
  (there:∀b o,b∉ch->s.heap.get? b=some o->∃o',h'.get? b=some o')
  (tups:∀b xs,H b=some (.tup xs)->H' b=some (.tup xs)) (jt:∀b o u,H b=some (.t_ o u)->H' b=some (.t_ o u)) (jT:∀b ps,H b=some (.yQ ps)->∃more,H' b=some (.yQ (ps++more)))
  (ns:∀m,s.heap.Ns X.env.locals m->h'.Ns X.env.locals m) (hok:gK X.prog X.w H' h') (hg:AllBare g') :
  Inv X ao Z H' {s with heap:=h',gens:=g',drawn:=d',toks:=t'}:=by
 have WW:∀b o,X.s₀.heap.get? b=some o->b≠X.env.locals:=λb o e=>dw (gJ (bN e) I.ok.above);have Lx:∀b o,X.s₀.heap.get? b=some o->b∉X.ex->b∉ch:=λb o e hx hb=>by
  rcases(vZ b hb).1 with z|z
  ·exact hx z
  ·rw[e] at z;cases z
 have cellK:∀x c,X.env.cells.lookup x=some c->∀v,s.heap.IsCell c v->h'.IsCell c v:=λx c e v hx=>vY hx λo ho hd=>by
  have GF:c∉ch:=λz=>(vZ c z).2.2.1 x c e rfl;by_cases hc:c∈X.fs
  ·obtain⟨sl,q⟩:=slot c o (I.wM x c e) hc GF ho (I.fB x c e);exact⟨_,q,hd⟩
  ·exact⟨o,keep c o (I.wM x c e) hc GF ho (I.fB x c e),hd⟩
 refine⟨I.ok,I.os,hg,⟨λb o e n hb hx=>?_,λb o e n hb hx=>?_,λb o e n hx=>?_,λb o e hx=>?_,λb xs e=>tups b xs (I.base.tups b xs e),λb o xs e=>jt b o xs (I.base.jt b o xs e),λb ps e=>?_⟩,?_,λx c e=>?_,?_,λx c e=>?_,λp hp=>?_,hok,I.len⟩
 ·exact keep b o (WW b o e) hb (Lx b o e hx) (I.base.keep b o e n hb hx) (I.base.free b o e n hx)
 ·obtain⟨sl,e1⟩:=I.base.slot b o e n hb hx;obtain⟨sl',e2⟩:=slot b _ (WW b o e) hb (Lx b o e hx) e1 (I.base.free b o e n hx);exact⟨sl',e2⟩
 ·obtain⟨o',e1⟩:=I.base.there b o e hx;exact free b o' (Lx b o e hx) e1 (I.base.free b o e n hx)
 ·obtain⟨o',e1⟩:=I.base.there b o e hx;exact there b o' (Lx b o e hx) e1
 ·obtain⟨m1,e1⟩:=I.base.jT b ps e;obtain⟨m2,e2⟩:=jT b _ e1;exact⟨m1++m2,by rw[e2,Array.append_assoc]⟩
 ·obtain⟨m,hn,hl⟩:=I.loc;refine⟨m,ns m hn,λi x v e1 e2 e3=>?_⟩;obtain⟨u,r,l⟩:=hl i x v e1 e2 e3;refine⟨u,r,?_⟩;rcases l with l|⟨k,c,e,z⟩
  ·exact .inl l
  ·exact .inr ⟨k,c,e,cellK x c e _ z⟩
 ·obtain⟨v,z⟩:=I.cell x c e;exact⟨v,cellK x c e v z⟩
 ·obtain⟨m,⟨o,_,_,ho,_⟩,_⟩:=I.loc;exact free _ o (λz=>(vZ _ z).2.1 rfl) ho I.free
 ·obtain⟨v,o,ho,hd⟩:=I.cell x c e;exact free c o (λz=>(vZ c z).2.2.1 x c e rfl) ho (I.fB x c e)
 ·obtain⟨e,n,ne,nf,d⟩:=I.pin p hp;have GF:p.1∉ch:=λz=>(vZ p.1 z).2.2.2 p hp rfl;exact⟨keep p.1 p.2 ne nf GF e n,free p.1 p.2 GF e n,ne,nf,d⟩
theorem Inv.un{t':Nat}(I:Inv X ao Z H s)(u:Un X.fs [] H H' s.heap h')(hok:gK X.prog X.w H' h'):Inv X ao Z H' {s with heap:=h',toks:=t'}:=by
 obtain⟨m,⟨o,es,ep,ho,r⟩,_⟩:=id I.loc;obtain⟨sl,hL⟩:=u.any ho I.free (by simp);exact I.step (g':=s.gens) (d':=s.drawn) (ch:=[]) (λ_ z=>nomatch z) (λb o _ hb _ e n=>u.keep b o e n hb (by simp)) (λb o _ hb _ e n=>u.slot b o e n hb (by simp)) (λb o _ e n=>u.free b o e n (by simp)) (λb o _ e=>u.there b o e (by simp)) u.tups u.jt u.jT (λm' hm=>by
  obtain⟨o',es',ep',ud,r'⟩:=hm;rw[ho] at ud;cases ud;exact⟨_,es',ep',hL,r'⟩) hok I.bare
theorem Inv.call{g':Array GenState}{t':Nat}{d':Drawn}{ch:List Addr}(I:Inv X ao Z H s)(u:Un (frs X.stack) ch H H' s.heap h')(hok:gK X.prog X.w H' h')(hg:AllBare g')
  (vZ:∀b∈ch,(b∈X.ex\/X.s₀.heap.get? b=none)/\b≠X.env.locals/\(∀x c,X.env.cells.lookup x=some c->c≠b)/\∀p∈X.pn++ao,p.1≠b) :
  Inv X ao Z H' {s with heap:=h',gens:=g',drawn:=d',toks:=t'}:=by
 obtain⟨m,⟨o,es,ep,ho,r⟩,_⟩:=id I.loc;obtain⟨sl,hL⟩:=u.any ho I.free λz=>(vZ _ z).2.1 rfl;exact I.step (ch:=ch) vZ (λb o hL hb hc e n=>u.keep b o e n (λz=>(gY.mp (I.mF b z)).elim hL hb) hc) (λb o _ _ hc e n=>u.any e n hc) (λb o hc e n=>u.free b o e n hc) (λb o hc e=>u.there b o e hc) u.tups u.jt u.jT (λm' hm=>by
  obtain⟨o',es',ep',ud,r'⟩:=hm;rw[ho] at ud;cases ud;exact⟨_,es',ep',hL,r'⟩) hok hg
theorem Inv.turned{t':Nat}{it:Addr}(I:Inv X ao Z H s)(k:∀b o,b≠it->s.heap.get? b=some o->h'.get? b=some o)(hn:H it=none)(hL:it≠X.env.locals)
  (h1:it∈X.ex\/X.s₀.heap.objs.size<=it) (h2:∀x c,X.env.cells.lookup x=some c->c≠it) (h3:∀p∈X.pn++ao,p.1≠it):Inv X ao Z H {s with heap:=h',toks:=t'}:=by
 have yR:∀b u,H b=some u->b≠it:=λb u e z=>by rw[z,hn] at e;cases e
 refine I.step (g':=s.gens) (d':=s.drawn) (ch:=[it]) (λb hb=>?_) (λb o _ _ hc e _=>k b o (λz=>hc (by simp[z])) e) (λb o _ _ hc e _=>⟨o.slots,k b o (λz=>hc (by simp[z])) e⟩) (λ_ _ _ _ n=>n)
  (λb o hc e=>⟨o,k b o (λz=>hc (by simp[z])) e⟩) (λ_ _ e=>e) (λ_ _ _ e=>e) (λb ps e=>⟨#[],by rw[e];simp⟩) (λm hm=>?_) (λb u e=>?_) I.bare
 ·have e:b=it:=by simpa using hb
  subst e;exact⟨h1.imp id λz=>Dl z,hL,h2,h3⟩
 ·obtain⟨o,es,ep,ho,r⟩:=hm;exact⟨o,es,ep,k _ o (Ne.symm hL) ho,r⟩
 ·refine(I.hok b u e).stay (λc v hc q=>k c v ?_ q) (λ_ q=>q) λ_ _ q=>q;rcases hc with z|z
  ·rw[z];exact yR b u e
  ·exact yR c _ z
theorem Inv.tok(I:Inv X ao Z H s)(t:Nat):Inv X ao Z H {s with toks:=t}:=I.un (h':=s.heap) (t':=t) Un.refl I.hok
theorem Inv.kept{t':Nat}(I:Inv X ao Z H s)(k:∀b u,s.heap.get? b=some u->h'.get? b=some u):Inv X ao Z H {s with heap:=h',toks:=t'}:=I.un (Un.kept k) (I.hok.kept k)
theorem Inv.laid{a:Addr}{o:HO}{t':Nat}(I:Inv X ao Z H s)(k:∀b u,s.heap.get? b=some u->h'.get? b=some u)(hp:s.heap.objs.size<=a)(new:aU X.prog X.w (upd H a o) h' a o) :
  Inv X ao Z (upd H a o) {s with heap:=h',toks:=t'}:=I.un (Un.laid k hp (I.hok.fresh hp)) (I.hok.laid k hp new)
theorem Inv.write{x e:Addr}{o:HO}{t':Nat}(I:Inv X ao Z H s)(mu:GC (H x))(he:e=x\/H e=some (.own x))(k:∀b u,b≠e->s.heap.get? b=some u->h'.get? b=some u)(Ed:∃u,h'.get? e=some u)
  (new:aU X.prog X.w (upd H x o) h' x o):Inv X ao Z (upd H x o) {s with heap:=h',toks:=t'}:=I.un (Un.write mu he k Ed) (I.hok.write mu he k Ed new)
theorem Inv.mH{h_:List (Addr×Obj)}(I:Inv X ao Z H s)(h:∀p∈h_,s.heap.get? p.1=some p.2/\H p.1=none/\p.1≠X.env.locals/\p.1∉X.fs/\∀v,p.2.data≠.cell v):Inv X h_ Z H s:=
 ⟨I.ok,I.os,I.bare,I.base,I.loc,I.cell,I.free,I.fB,λp hp=>(iR.mp hp).elim (λz=>I.pin p (Dm _ z)) (h p),I.hok,I.len⟩
theorem Qd{N:List Str}(hN:N.Nodup){i j:Nat}{x:Str}(a:N[i]?=some x)(b:N[j]?=some x):i=j:=by
 obtain⟨h1,e1⟩:=dN.mp a;obtain⟨h2,e2⟩:=dN.mp b;exact(List.getElem_inj hN).mp (e1.trans e2.symm)
theorem WX{M:Model}{A:Around}{E:Value->Shared->Prop}{i:Nat}{x:Str}{v:V}{u:Value}{Q:Unit->Shared->Prop}(I:Inv X ao Z H s)(hN:X.N.Nodup)(hi:X.N[i]?=some x)(hx:Loc X.env.scope x)(r:RelV v u)
  (h:∀s',Inv X ao (Z.set i (some v)) H s'->(∃a,Heap.SameBut a s.heap s'.heap/\(a=X.env.locals\/X.env.cells.lookup x=some a))->Q () s') (hf:X.fn x=true\/X.env.scope.names.lookup x=some .local:=by first|exact .inl rfl|exact .inr rfl|assumption):wpAny M A (storeName X.env x u) Q E s:=by
 obtain⟨m,hn,hl⟩:=id I.loc;have Bf:(X.env.scope.kind==.class||(X.env.scope.kind==.module&&X.env.locals != X.env.globals))=false:=by rw[I.ok.kind];rfl
 have WY:i<Z.length:=by rw[I.len];exact(dN.mp hi).1
 have wM:=I.wM;have tracked:∀{a:Addr} {h':Heap},(∃o,s.heap.get? a=some o/\H a=none)->Heap.SameBut a s.heap h'->gK X.prog X.w H h':=λ{a h'} ha hs b ob e=>by
  obtain⟨_,_,qN⟩:=ha;refine(I.hok b ob e).stay (λc w' hc q=>(hs.2 c ?_).trans q) (λ_ q=>q) λ_ _ q=>q;rintro rfl;rcases hc with rfl|hc
  ·rw[qN] at e;cases e
  ·rw[qN] at hc;cases hc
 rcases hx with hk|hk
 ·refine wpAny_storeName_local hk hn (λh' wN hs=>?_) Bf;obtain⟨oL,_,_,Ly,_⟩:=id hn;refine h _ ⟨I.ok,I.os,I.bare,⟨λb o e n hb hx=>?_,λb o e n hb hx=>?_,I.base.free,λb o e hx=>?_,I.base.tups,I.base.jt,I.base.jT⟩,⟨_,wN,λj y v' e1 e2 e3=>?_⟩,λy c e=>?_,I.free,I.fB,λp hp=>?_,tracked ⟨oL,Ly,I.free⟩ hs,by simpa using I.len⟩ ⟨_,hs,.inl rfl⟩
  ·exact(hs.2 b (dw (gJ (bN e) I.ok.above))).trans (I.base.keep b o e n hb hx)
  ·obtain⟨sl,e1⟩:=I.base.slot b o e n hb hx;exact⟨sl,(hs.2 b (dw (gJ (bN e) I.ok.above))).trans e1⟩
  ·obtain⟨o',e1⟩:=I.base.there b o e hx;exact⟨o',(hs.2 b (dw (gJ (bN e) I.ok.above))).trans e1⟩
  ·by_cases hj:j=i
   ·subst hj;rw[hi] at e1;cases e1;rw[vL WY] at e2;cases e2;exact⟨u,r,.inl ⟨hk,by simp⟩⟩
   ·rw[pH (Ne.symm hj)] at e2;obtain⟨u',r',q⟩:=hl j y v' e1 e2 e3;refine⟨u',r',?_⟩;rcases q with ⟨k,e⟩|⟨k,c,e,z⟩
    ·refine .inl ⟨k,?_⟩;have:y≠x:=λe=>hj (Qd hN e1 (e▸hi));simp[this,e]
    ·exact .inr ⟨k,c,e,z.sameBut hs (wM y c e)⟩
  ·obtain⟨w',z⟩:=I.cell y c e;exact⟨w',z.sameBut hs (wM y c e)⟩
  ·obtain⟨e,n,ne,nf,d⟩:=I.pin p hp;exact⟨(hs.2 p.1 ne).trans e,n,ne,nf,d⟩
 ·have Qe:X.fn x=true:=by
   rcases hf with z|z
   ·exact z
   ·rw[z] at hk;cases hk
  obtain⟨c,hc⟩:=I.ok.has x (.inl hk);obtain⟨w',z⟩:=I.cell x c hc;refine wpAny_storeName_cell I.ok.kind hk hc z (λh' k_ hs=>?_);obtain⟨oc,W0,Qf⟩:=id z;refine h {s with heap:=h'} ⟨I.ok,I.os,I.bare,⟨λb o e n hb hx=>?_,λb o e n hb hx=>?_,I.base.free,λb o e hx=>?_,I.base.tups,I.base.jt,I.base.jT⟩,⟨m,hn.sameBut hs (Ne.symm (wM x c hc)),λj y v' e1 e2 e3=>?_⟩,λy c' e=>?_,I.free,I.fB,λp hp=>?_,tracked ⟨oc,W0,I.fB x c hc⟩ hs,by simpa using I.len⟩ ⟨c,hs,.inr hc⟩
  ·exact(hs.2 b (dw (gJ (bN e) (I.ok.cab x c Qe hc)))).trans (I.base.keep b o e n hb hx)
  ·obtain⟨sl,e1⟩:=I.base.slot b o e n hb hx;exact⟨sl,(hs.2 b (dw (gJ (bN e) (I.ok.cab x c Qe hc)))).trans e1⟩
  ·obtain⟨o',e1⟩:=I.base.there b o e hx;exact⟨o',(hs.2 b (dw (gJ (bN e) (I.ok.cab x c Qe hc)))).trans e1⟩
  ·by_cases hj:j=i
   ·subst hj;rw[hi] at e1;cases e1;rw[vL WY] at e2;cases e2;exact⟨u,r,.inr ⟨.inl hk,c,hc,k_⟩⟩
   ·rw[pH (Ne.symm hj)] at e2;obtain⟨u',r',q⟩:=hl j y v' e1 e2 e3;refine⟨u',r',?_⟩;rcases q with q|⟨k,c',e,z'⟩
    ·exact .inl q
    ·refine .inr ⟨k,c',e,z'.sameBut hs ?_⟩;rintro rfl;exact hj (Qd hN e1 (I.ok.inj _ _ _ e hc▸hi))
  ·by_cases W2:c'=c
   ·subst W2;exact⟨_,k_⟩
   ·obtain⟨w2,z2⟩:=I.cell y c' e;exact⟨w2,z2.sameBut hs W2⟩
  ·obtain⟨e,n,ne,nf,d⟩:=I.pin p hp;refine⟨(hs.2 p.1 ?_).trans e,n,ne,nf,d⟩;intro q;rw[q,W0] at e;have q':oc=p.2:=cJ e;exact d w' (by rw[<-q'];exact Qf)
theorem Qg{M:Model}{A:Around}{E:Value->Shared->Prop}{i:Nat}{x:Str}{v:V}{u:Value}{Q:Unit->Shared->Prop}(I:Inv X ao Z H s)(hN:X.N.Nodup)(hi:X.N[i]?=some x)(hx:Loc X.env.scope x)(r:RelV v u)
  (h:∀s',Inv X ao (Z.set i (some v)) H s'->Q () s') (hf:X.fn x=true\/X.env.scope.names.lookup x=some .local:=by first|exact .inl rfl|exact .inr rfl|assumption):wpAny M A (storeName X.env x u) Q E s:=
 WX I hN hi hx r (λs' I' _=>h s' I') hf
theorem Inv.call'{s':Shared}{ch:List Addr}(I:Inv X ao Z H s)(ho:s'.os=s.os)(u:Un (frs X.stack) ch H H' s.heap s'.heap)(hok:gK X.prog X.w H' s'.heap)(hg:AllBare s'.gens)
  (vZ:∀b∈ch,(b∈X.ex\/X.s₀.heap.get? b=none)/\b≠X.env.locals/\(∀x c,X.env.cells.lookup x=some c->c≠b)/\∀p∈X.pn++ao,p.1≠b):Inv X ao Z H' s':=by
 obtain⟨h',g',d',t',o'⟩:=s';have e:o'=s.os:=ho;subst e;exact I.call (g':=g') (t':=t') (d':=d') u hok hg vZ
end
noncomputable abbrev XK:=Value->Option Addr->Hp->Prop
noncomputable abbrev St:=List (Option V)
noncomputable abbrev VK:=V->Hp->Prop
noncomputable abbrev TE:=St->Hp->VK->Prop
noncomputable abbrev TT:=St->Hp->(Bool->Hp->Prop)->Prop
noncomputable abbrev TA:=St->Hp->(List V->Hp->Prop)->Prop
structure Ends where
 nx:St->Hp->Prop
 rt:VK
 bk:St->Hp->Prop:=λ_ _=>False
 ct:St->Hp->Prop:=λ_ _=>False
noncomputable abbrev TS:=Ends->St->Hp->Prop
def EP(X:Cx)(ao:List (Addr×Obj))(Z:St)(Q:VK)(u:Value)(s':Shared):Prop:=∃v H',Inv X ao Z H' s'/\RelV v u/\Q v H'
def TP(X:Cx)(ao:List (Addr×Obj))(Z:St)(Q:Bool->Hp->Prop)(b:Bool)(s':Shared):Prop:=∃H',Inv X ao Z H' s'/\Q b H'
def AP(X:Cx)(ao:List (Addr×Obj))(Z:St)(Q:List V->Hp->Prop)(us:List Value)(s':Shared):Prop:=∃vs H',Inv X ao Z H' s'/\Vals vs us/\Q vs H'
def SP(X:Cx)(ao:List (Addr×Obj))(D:Ends)(f:Flow)(s':Shared):Prop:=
 match f with
 |.next=>∃Z' H',Inv X ao Z' H' s'/\D.nx Z' H'
 |.brk=>∃Z' H',Inv X ao Z' H' s'/\D.bk Z' H'
 |.cont=>∃Z' H',Inv X ao Z' H' s'/\D.ct Z' H'
 |.ret u=>∃v Z' H',Inv X ao Z' H' s'/\RelV v u/\D.rt v H'
def PE(X:Cx)(e:Expr)(t:TE):Prop:=
 ∀(ao:List (Addr×Obj)) (s:Shared) (Z:St) (H:Hp) (Q:VK),Inv X ao Z H s->t Z H Q->wpAny (model X.prog X.w) X.A (eval e X.env) (EP X ao Z Q) X.xe s
def PT(X:Cx)(e:Expr)(t:TT):Prop:=
 ∀(ao:List (Addr×Obj)) (s:Shared) (Z:St) (H:Hp) (Q:Bool->Hp->Prop),Inv X ao Z H s->t Z H Q->wpAny (model X.prog X.w) X.A (isTrue e X.env (eval e X.env)) (TP X ao Z Q) X.xe s
def PW(X:Cx)(e:Expr)(t:TT):Prop:=
 ∀(whole:Sem Value) (ao:List (Addr×Obj)) (s:Shared) (Z:St) (H:Hp) (Q:Bool->Hp->Prop),Inv X ao Z H s->t Z H Q->wpAny (model X.prog X.w) X.A (isTrue e X.env whole) (TP X ao Z Q) X.xe s
theorem Kac{X:Cx}{e:Expr}{t:TT}(h:PW X e t):PT X e t:=h _
def PA(X:Cx)(es:List Expr)(t:TA):Prop:=
 ∀(pos:Pos) (ao:List (Addr×Obj)) (s:Shared) (Z:St) (H:Hp) (Q:List V->Hp->Prop),Inv X ao Z H s->t Z H Q->wpAny (model X.prog X.w) X.A (spliced (backTo pos (starEach es X.env))) (AP X ao Z Q) X.xe s
def PS(X:Cx)(st:Stmt)(t:TS):Prop:=
 ∀(ao:List (Addr×Obj)) (s:Shared) (Z:St) (H:Hp) (D:Ends),Inv X ao Z H s->t D Z H->wpAny (model X.prog X.w) X.A (exec st X.env) (SP X ao D) X.xe s
def nW(X:Cx)(st:List Stmt)(t:TS):Prop:=
 ∀(ao:List (Addr×Obj)) (s:Shared) (Z:St) (H:Hp) (D:Ends),Inv X ao Z H s->t D Z H->wpAny (model X.prog X.w) X.A (execs st X.env) (SP X ao D) X.xe s
theorem bf{α:Type}{t:Sem α}{Q Q':α->Shared->Prop}{M:Model}{A:Around}{E:Value->Shared->Prop}{s:Shared}(h:wpAny M A t Q E s)(hQ:∀a s,Q a s->Q' a s):wpAny M A t Q' E s:=gZ h hQ λ_ _ x=>x
section
variable {X:Cx}
noncomputable def Qh(i:Nat):TE:=λZ H Q=>∃v,Z[i]?=some (some v)/\Q v H
noncomputable def tC(v:V):TE:=λ_ H Q=>Q v H
theorem W3{i:Nat}{x:Str}{pos:Pos}(hN:X.N[i]?=some x)(hv:P_ X.env.scope x)(hd:(x==("__debug__" : Str))=false:=by decide)(jJ:(x==("__classdict__" : Str))=false:=by decide):PE X (.Name x pos) (Qh i):=by
 intro ao s Z H Q I h;obtain⟨v,e,h⟩:=h;obtain⟨m,hn,hl⟩:=I.loc;obtain⟨u,r,l⟩:=hl i x v hN e hv;have fin:EP X ao Z Q u s:=⟨v,H,I,r,h⟩;rcases l with ⟨hk,hm⟩|⟨hk,c,hc,yS⟩
 ·exact Ar (FW I.ok.kind hk hn hm fin) hd
 ·rcases hk with hk|hk
  ·exact Ar (wpAny_loadName_cell I.ok.kind hk hc yS fin) hd
  ·exact Ar (wpAny_loadName_free I.ok.kind hk hc yS fin jJ) hd
theorem W4{i j pos}:PE X (.Constant (.int i) j pos) (tC (.int i)):=λ_ _ _ H _ I h=>wpAny_Constant_int ⟨.int i,H,I.tok _,⟨_,rfl⟩,h⟩
theorem znW{b j pos}:PE X (.Constant (.bool b) j pos) (tC (.bl b)):=λ_ _ _ H _ I h=>Constant_bool ⟨.bl b,H,I,rfl,h⟩
theorem zkZ{j pos}:PE X (.Constant .none j pos) (tC .non):=λ_ _ _ H _ I h=>Constant_none ⟨.non,H,I,rfl,h⟩
theorem W5{x j pos}:PE X (.Constant (.str x) j pos) (tC (.str x)):=λ_ _ _ H _ I h=>Calls.Constant_str ⟨.str x,H,I.tok _,⟨_,rfl⟩,h⟩
def Gl(X:Cx)(x:Str):Prop:=X.env.kindOf x=some .globalImplicit
theorem Ef{E:Value->Shared->Prop}{ao:List (Addr×Obj)}{s:Shared}{Z:St}{H:Hp}{x:Str}{u:Value}{pos:Pos}{Q:Value->Shared->Prop}(I:Inv X ao Z H s)(hg:Gl X x)(hm:X.mg x=some u)(h:Q u s)
  (hd:(x==("__debug__" : Str))=false:=by decide):wpAny (model X.prog X.w) X.A (eval (.Name x pos) X.env) Q E s:=
 Calls.Name_function_global I.ok.kind hg (Calls.loadGlobal_global (by rw[I.ok.glob];exact I.mod.glob.keeps I.bk) hm h) hd
theorem wO{E:Value->Shared->Prop}{ao:List (Addr×Obj)}{s:Shared}{Z:St}{H:Hp}{x:Str}{u:Value}{pos:Pos}{Q:Value->Shared->Prop}(I:Inv X ao Z H s)(hg:Gl X x)(hm:X.mg x=none)(hv:bootBuiltins x=some u)(h:Q u s)
  (hn:x≠"__name__":=by decide) (hd:(x==("__debug__" : Str))=false:=by decide):wpAny (model X.prog X.w) X.A (eval (.Name x pos) X.env) Q E s:=by
 obtain⟨mb,h1,h2⟩:=I.mod.blt;exact Calls.Name_function_global I.ok.kind hg (Calls.loadGlobal_builtin (by rw[I.ok.glob];exact I.mod.glob.keeps I.bk) hm (by rw[I.ok.blt];exact h1.keeps I.bk) ((h2 x hn).trans hv) h) hd
theorem W6{x:Str}{v:V}{u:Value}{pos:Pos}(hg:Gl X x)(hm:X.mg x=some u)(r:RelV v u)(hd:(x==("__debug__" : Str))=false:=by decide):PE X (.Name x pos) (tC v):=
 λ_ _ _ H _ I h=>Ef I hg hm ⟨v,H,I,r,h⟩ hd
variable {a b:Expr}{ta tb:TE}{pos:Pos}
def PC(X:Cx)(op:CmpOp)(a b:Expr)(t:TE):Prop:=
 ∀(ao:List (Addr×Obj)) (s:Shared) (Z:St) (H:Hp) (Q:VK),Inv X ao Z H s->t Z H Q->
  wpAny (model X.prog X.w) X.A (eval a X.env) (λv s₁=>wpAny (model X.prog X.w) X.A (eval b X.env) (λu s₂=>wpAny (model X.prog X.w) X.A (compareOp op v u) (EP X ao Z Q) X.xe s₂) X.xe s₁) X.xe s
theorem nY(b:Expr){op:CmpOp}(h:op≠.In)(h2:op≠.NotIn):behindInMarks op b=false:=by
 have e1:(op==CmpOp.In)=false:=by cases op<;>first|rfl|exact absurd rfl h
 have e2:(op==CmpOp.NotIn)=false:=by cases op<;>first|rfl|exact absurd rfl h2
 cases b<;>simp[behindInMarks,e1,e2]
noncomputable def Qi(ta:TE):TE:=λZ H Q=>ta Z H λx H1=>Q (.bl (decide (x=.non))) H1
noncomputable def GJ(ta:TE):TE:=λZ H Q=>ta Z H λx H1=>Q (.bl (!decide (x=.non))) H1
theorem RelV.nZ{x:V}{v:Value}(r:RelV x v):(v==Value.none)=decide (x=.non):=by
 cases x with
 |non=>cases r;rfl
 |bl _=>cases r;rfl
 |int _=>obtain⟨t,rfl⟩:=r;rfl
 |str _=>obtain⟨t,rfl⟩:=r;rfl
 |A_ _=>obtain⟨t,rfl⟩:=r;rfl
 |flt _=>obtain⟨t,rfl⟩:=r;rfl
 |ref _=>cases r;rfl
 |ty _=>cases r;rfl
theorem W7{j pos'}(ha:PE X a ta):PC X .Is a (.Constant .none j pos') (Qi ta):=by
 intro ao s Z H Q I h;refine bf (ha ao s Z H _ I h) λv s1 hx=>eE hx λx H1 I1 r1 q1=>?_;exact Constant_none (is_none_gen ⟨.bl _,H1,I1,by rw[r1.nZ];rfl,q1⟩)
theorem W8{j pos'}(ha:PE X a ta):PC X .IsNot a (.Constant .none j pos') (GJ ta):=by
 intro ao s Z H Q I h;refine bf (ha ao s Z H _ I h) λv s1 hx=>eE hx λx H1 I1 r1 q1=>?_;exact Constant_none (isnot_none_gen ⟨.bl _,H1,I1,by rw[r1.nZ];rfl,q1⟩)
noncomputable def tB(t:TE):TT:=λZ H Q=>t Z H λx H1=>∃c,x=.bl c/\Q c H1
theorem W9{op:CmpOp}{t:TE}(h:PC X op a b t)(h1:behindInMarks op b=false:=by first|exact nY _ (by decide) (by decide)|rfl):PE X (.Compare a [op] [b] pos) t:=λao s Z H Q I hw=>wpAny_Compare1 (h ao s Z H Q I hw) h1
theorem Qj{op:CmpOp}{t:TE}(h:PC X op a b t)(h1:behindInMarks op b=false:=by first|exact nY _ (by decide) (by decide)|rfl):PT X (.Compare a [op] [b] pos) (tB t):=by
 intro ao s Z H Q I hw;refine wpAny_isTrue_Compare1 (bf (h ao s Z H _ I hw) λv s1 h1=>bf h1 λu s2 h2=>bf h2 λc s3 hx=>eE hx λx H1 I1 r1 q1=>?_) h1;obtain⟨d,rfl,q⟩:=q1;cases r1;exact vN ⟨H1,I1,q⟩
theorem zmc{e:Expr}{t:TE}(h:PE X e t)(he:∀whole,isTrue e X.env whole=(do let v <-whole;standAt e.pos;holding [v] (truthy v)):=by intro _;rfl):PT X e (tB t):=by
 intro ao s Z H Q I hw;refine isTrue_plain (bf (h ao s Z H _ I hw) λv s1 hx=>eE hx λx H1 I1 r1 q1=>?_) (he _);obtain⟨d,rfl,q⟩:=q1;cases r1;exact vN ⟨H1,I1,q⟩
variable {tA Lz:TT}{rest:List Expr}
noncomputable def Qk(t u:TT):TT:=λZ H Q=>t Z H λc H1=>if c=true then u Z H1 Q else Q false H1
noncomputable def tOr(t u:TT):TT:=λZ H Q=>t Z H λc H1=>if c=true then Q true H1 else u Z H1 Q
noncomputable def Ql(t:TT):TT:=λZ H Q=>t Z H λc H1=>Q (!c) H1
theorem zjm(ha:PT X a tA):PW X (.BoolOp .And [a] pos) tA:=by
 intro wh ao s Z H Q I h;refine isTrue_and (bf (ha ao s Z H Q I h) λc s1 e=>?_);cases c with
 |true=>exact isTrue_and_nil e
 |false=>exact e
theorem zl2(ha:PT X a tA):PW X (.BoolOp .Or [a] pos) tA:=by
 intro wh ao s Z H Q I h;refine isTrue_or (bf (ha ao s Z H Q I h) λc s1 e=>?_);cases c with
 |false=>exact isTrue_or_nil e
 |true=>exact e
theorem znd(ha:PT X a tA)(hb:PW X (.BoolOp .And (b::rest) pos) Lz):PW X (.BoolOp .And (a::b::rest) pos) (Qk tA Lz):=by
 intro wh ao s Z H Q I h;refine isTrue_and (bf (ha ao s Z H _ I h) λc s1 hx=>vY hx λH1 I1 q1=>?_);cases c with
 |true=>exact hb wh ao s1 Z H1 Q I1 q1
 |false=>exact⟨H1,I1,q1⟩
theorem znB(ha:PT X a tA)(hb:PW X (.BoolOp .Or (b::rest) pos) Lz):PW X (.BoolOp .Or (a::b::rest) pos) (tOr tA Lz):=by
 intro wh ao s Z H Q I h;refine isTrue_or (bf (ha ao s Z H _ I h) λc s1 hx=>vY hx λH1 I1 q1=>?_);cases c with
 |true=>exact⟨H1,I1,q1⟩
 |false=>exact hb wh ao s1 Z H1 Q I1 q1
theorem zm5(ha:PT X a tA):PT X (.UnaryOp .Not a pos) (Ql tA):=by
 intro ao s Z H Q I h;exact isTrue_not (ha ao s Z H (λc H1=>Q (!c) H1) I h)
noncomputable def GK(ta tb:TE):TE:=λZ H Q=>ta Z H λx H1=>∃c,x=.bl c/\if c=true then tb Z H1 Q else Q (.bl false) H1
noncomputable def Qm(ta tb:TE):TE:=λZ H Q=>ta Z H λx H1=>∃c,x=.bl c/\if c=true then Q (.bl true) H1 else tb Z H1 Q
noncomputable def GP(ta:TE):TE:=λZ H Q=>ta Z H λx H1=>∃c,x=.bl c/\Q (.bl (!c)) H1
theorem zlN{op}{t:TE}(h:PE X a t):PE X (.BoolOp op [a] pos) t:=λao s Z H Q I hw=>BoolOp_one (h ao s Z H Q I hw)
theorem zmZ(ha:PE X a ta)(hb:PE X (.BoolOp .And (b::rest) pos) tb):PE X (.BoolOp .And (a::b::rest) pos) (GK ta tb):=by
 intro ao s Z H Q I h;refine BoolOp_and (bf (ha ao s Z H _ I h) λv s1 hx=>eE hx λx H1 I1 r1 q1=>?_);obtain⟨c,rfl,q1⟩:=q1;cases r1;refine vN ?_;cases c with
 |true=>exact hb ao s1 Z H1 Q I1 q1
 |false=>exact⟨.bl false,H1,I1,rfl,q1⟩
theorem znV(ha:PE X a ta)(hb:PE X (.BoolOp .Or (b::rest) pos) tb):PE X (.BoolOp .Or (a::b::rest) pos) (Qm ta tb):=by
 intro ao s Z H Q I h;refine BoolOp_or (bf (ha ao s Z H _ I h) λv s1 hx=>eE hx λx H1 I1 r1 q1=>?_);obtain⟨c,rfl,q1⟩:=q1;cases r1;refine vN ?_;cases c with
 |false=>exact hb ao s1 Z H1 Q I1 q1
 |true=>exact⟨.bl true,H1,I1,rfl,q1⟩
theorem zmz(ha:PE X a ta):PE X (.UnaryOp .Not a pos) (GP ta):=by
 intro ao s Z H Q I h;refine UnaryOp_ (bf (ha ao s Z H _ I h) λv s1 hx=>eE hx λx H1 I1 r1 q1=>?_);obtain⟨c,rfl,q1⟩:=q1;cases r1;exact not_of (vN ⟨.bl (!c),H1,I1,rfl,q1⟩)
noncomputable def tIf(t:TT)(ta tb:TE):TE:=λZ H Q=>t Z H λc H1=>if c=true then ta Z H1 Q else tb Z H1 Q
theorem zhY{c:Expr}(hc:PT X c tA)(ha:PE X a ta)(hb:PE X b tb):PE X (.IfExp c a b pos) (tIf tA ta tb):=by
 intro ao s Z H Q I h;refine wpAny_IfExp (bf (hc ao s Z H _ I h) λd s1 hx=>vY hx λH1 I1 q1=>?_);cases d with
 |true=>exact ha ao s1 Z H1 Q I1 q1
 |false=>exact hb ao s1 Z H1 Q I1 q1
end
def cO(K:W.Frag)(H:Hp)(a:Addr)(xs:List V):Prop:=
 Rd H a (.lst xs) \/
  ∃(o:Obj) (its:Array Value) (n:Nat),K.lookup a=some o/\o.cls=.type "list"/\o.dict=none/\o.data=.seq its n/\its.size<=sizeLine/\Vals xs its.toList
def gj(K:W.Frag)(H:Hp)(a:Addr)(xs:List V):Prop:=
 Rd H a (.tup xs) \/
  ∃(o:Obj) (its:Array Value) (n:Nat),K.lookup a=some o/\o.cls=.type "tuple"/\o.data=.seq its n/\its.size<=sizeLine/\Vals xs its.toList
noncomputable def Qn:Value->Option V
 |.none=>some .non
 |.bool b=>some (.bl b)
 |.int i _=>some (.int i)
 |.str x _=>some (.str x)
 |.bytes b _=>some (.A_ b)
 |.float b _=>some (.flt b)
 |.ref a=>some (.ref a)
 |.type n=>some (.ty n)
 |_=>none
theorem RelV.abs{x:V}{u:Value}(r:RelV x u):Qn u=some x:=by
 cases x with
 |non=>cases r;rfl
 |bl _=>cases r;rfl
 |int _=>obtain⟨t,rfl⟩:=r;rfl
 |str _=>obtain⟨t,rfl⟩:=r;rfl
 |A_ _=>obtain⟨t,rfl⟩:=r;rfl
 |flt _=>obtain⟨t,rfl⟩:=r;rfl
 |ref _=>cases r;rfl
 |ty _=>cases r;rfl
theorem RelV.inj{x y:V}{u:Value}(r:RelV x u)(q:RelV y u):x=y:=cJ (r.abs.symm.trans q.abs)
theorem Vals.inj{xs ys:List V}{us:List Value}(h:Vals xs us)(h':Vals ys us):xs=ys:=by
 induction h generalizing ys with
 |nil=>cases h';rfl
 |cons r _ ih=>
  cases h' with
  |cons r' t'=>rw[r.inj r',ih t']
section
variable {X:Cx}{ao:List (Addr×Obj)}{Z:St}{H:Hp}{s:Shared}{a:Addr}{xs ys:List V}
theorem cO.of{K:W.Frag}(h:H a=some (.lst xs)):cO K H a xs:=.inl (.inl h)
theorem Inv.list(I:Inv X ao Z H s)(h:cO X.K H a xs):∃its:List Value,Vals xs its/\PlainL s.heap a its.toArray/\xs.length<=sizeLine:=by
 rcases h with h|⟨o,its,n,hk,hc,hd,hs,hz,r⟩
 ·obtain⟨z,its,n,r,e⟩:=h.ok I.hok;exact⟨its,r,⟨_,n,e,rfl,rfl,rfl⟩,z⟩
 ·refine⟨its.toList,r,⟨o,n,I.kZ a o hk,hc,hd,by simpa using hs⟩,?_⟩;have e:=r.length;simp only[yG] at e
  lia
theorem Inv.tuple(I:Inv X ao Z H s)(h:gj X.K H a xs):∃its:List Value,Vals xs its/\IsTup s.heap a its.toArray/\xs.length<=sizeLine:=by
 rcases h with h|⟨o,its,n,hk,hc,hs,hz,r⟩
 ·obtain⟨z,its,r,p⟩:=h.ok I.hok;exact⟨its,r,p,z⟩
 ·refine⟨its.toList,r,⟨o,I.kZ a o hk,hc,n,by simpa using hs⟩,?_⟩;have e:=r.length;simp only[yG] at e
  lia
theorem Inv.n6(I:Inv X ao Z H s)(h:cO X.K H a xs)(h':cO X.K H a ys):xs=ys:=by
 obtain⟨its,r,⟨o,n,e,_,_,d⟩,_⟩:=I.list h;obtain⟨its',r',⟨o',n',e',_,_,d'⟩,_⟩:=I.list h';rw[e] at e';cases e';rw[d] at d';injection d' with d1 _;have:its=its':=by simpa using nF Array.toList d1
 subst this;exact r.inj r'
theorem Inv.lF(I:Inv X ao Z H s)(h:gj X.K H a xs)(h':gj X.K H a ys):xs=ys:=by
 obtain⟨its,r,⟨o,e,_,n,d⟩,_⟩:=I.tuple h;obtain⟨its',r',⟨o',e',_,n',d'⟩,_⟩:=I.tuple h';rw[e] at e';cases e';rw[d] at d';injection d' with d1 _;have:its=its':=by simpa using nF Array.toList d1
 subst this;exact r.inj r'
end
section
variable {X:Cx}{ao:List (Addr×Obj)}{Z:St}{H:Hp}{s:Shared}{E:Value->Shared->Prop}
end
section
variable {X:Cx}{st:Stmt}{rest:List Stmt}{t u:TS}{e:Expr}{te:TE}{pos:Pos}
noncomputable def GQ:TS:=λD Z H=>D.nx Z H
noncomputable def Qo(t u:TS):TS:=λD Z H=>t {D with nx:=u D} Z H
theorem W_:nW X [] GQ:=λ_ _ Z H _ I h=>Gi ⟨Z,H,I,h⟩
theorem Xa(h1:PS X st t)(h2:nW X rest u):nW X (st::rest) (Qo t u):=by
 intro ao s Z H D I h;refine wpAny_execs_cons (bf (h1 ao s Z H {D with nx:=u D} I h) λf s1 q=>?_);cases f with
 |next=>
  obtain⟨Z',H',I',q⟩:=q;exact h2 ao s1 Z' H' D I' q
 |ret v=>exact q
 |brk=>exact q
 |cont=>exact q
theorem Inv.quiet{ao:List (Addr×Obj)}{Z:St}{H:Hp}{s:Shared}(I:Inv X ao Z H s):interactive X.env=false:=by simp[interactive,I.ok.kind]
noncomputable def GR(te:TE):TS:=λD Z H=>te Z H λ_ H1=>D.nx Z H1
theorem zj3(he:PE X e te)(hs:swapsWith e none pos.line X.env=pure false:=by rfl):PS X (.Expr e pos) (GR te):=by
 intro ao s Z H D I h;exact wpAny_Expr_any (bf (he ao s Z H _ I h) λv s1 hx=>eE hx λx H1 I1 r1 q1=>⟨Z,H1,I1,q1⟩) I.quiet hs
noncomputable def Qp(te:TE):TS:=λD Z H=>te Z H D.rt
theorem zna(he:PE X e te):PS X (.Return (some e) pos) (Qp te):=by
 intro ao s Z H D I h;exact wpAny_Return_some (bf (he ao s Z H _ I h) λv s1 hx=>eE hx λx H1 I1 r1 q1=>⟨x,Z,H1,I1,r1,q1⟩)
noncomputable def Qq(c:TT)(t u:TS):TS:=λD Z H=>c Z H λb H1=>if b=true then t D Z H1 else u D Z H1
theorem znA{c:Expr}{a b:List Stmt}{tc:TT}(hc:PT X c tc)(ha:nW X a t)(hb:nW X b u):PS X (.If c a b pos) (Qq tc t u):=by
 intro ao s Z H D I h;refine wpAny_If (bf (hc ao s Z H _ I h) λd s1 hx=>vY hx λH1 I1 q1=>?_);cases d with
 |true=>exact ha ao s1 Z H1 D I1 q1
 |false=>exact hb ao s1 Z H1 D I1 q1
end
noncomputable abbrev TG:=V->St->Hp->(St->Hp->Prop)->Prop
noncomputable abbrev Bg:=List V->St->Hp->(St->Hp->Prop)->Prop
def PG(X:Cx)(target:Expr)(t:TG):Prop:=
 ∀(ao:List (Addr×Obj)) (s:Shared) (Z:St) (H:Hp) (v:V) (u:Value) (Q:St->Hp->Prop),Inv X ao Z H s->RelV v u->t v Z H Q->
  wpAny (model X.prog X.w) X.A (assign target X.env u) (λ_ s'=>∃Z' H',Inv X ao Z' H' s'/\Q Z' H') X.xe s
def LC(X:Cx)(ts:List Expr)(t:Bg):Prop:=
 ∀(ao:List (Addr×Obj)) (s:Shared) (Z:St) (H:Hp) (vs:List V) (us:List Value) (Q:St->Hp->Prop),Inv X ao Z H s->Vals vs us->t vs Z H Q->
  wpAny (model X.prog X.w) X.A (assignInOrder ((assignEach ts X.env).map (·.2)) us) (λ_ s'=>∃Z' H',Inv X ao Z' H' s'/\Q Z' H') X.xe s
noncomputable abbrev Bh:=V->V->V->Hp->(Hp->Prop)->Prop
def GX(X:Cx)(t:Bh):Prop:=
 ∀(ao:List (Addr×Obj)) (s:Shared) (Z:St) (H:Hp) (o i v:V) (ov iv u:Value) (Q:Hp->Prop),Inv X ao Z H s->RelV o ov->RelV i iv->RelV v u->t o i v H Q->
  wpAny (model X.prog X.w) X.A (setItem ov iv u) (λ_ s'=>∃H',Inv X ao Z H' s'/\Q H') X.xe s
section
variable {X:Cx}{pos:Pos}
noncomputable def eF(i:Nat):TG:=λv Z H Q=>Q (Z.set i (some v)) H
theorem LQ{i:Nat}{x:Str}(hN:X.N.Nodup)(hi:X.N[i]?=some x)(hx:Loc X.env.scope x)(hf:X.fn x=true\/X.env.scope.names.lookup x=some .local:=by first|exact .inl rfl|exact .inr rfl|assumption):PG X (.Name x pos) (eF i):=by
 intro ao s Z H v u Q I r h;exact wpAny_assign_Name (Qg I hN hi hx r (λs' I'=>⟨_,H,I',h⟩) hf)
noncomputable def uf:Bg:=λvs Z H Q=>vs=[]/\Q Z H
noncomputable def iu(t:TG)(u:Bg):Bg:=λvs Z H Q=>∃v r,vs=v::r/\t v Z H λZ' H'=>u r Z' H' Q
theorem zkt:LC X [] uf:=by
 intro ao s Z H vs us Q I r h;obtain⟨e,h⟩:=h;subst e;cases r;exact assignInOrder_nil ⟨Z,H,I,h⟩
theorem Xb{e:Expr}{es:List Expr}{t:TG}{u:Bg}(h1:PG X e t)(h2:LC X es u)
  (hs:(assignEach (e::es) X.env).map (·.2)=assign e X.env::(assignEach es X.env).map (·.2):=by rfl):LC X (e::es) (iu t u):=by
 intro ao s Z H vs us Q I r h;obtain⟨v,vr,e1,h⟩:=h;subst e1;cases r with
 |cons r rr=>
  rw[hs];refine assignInOrder_cons (bf (h1 ao s Z H _ _ _ I r h) λ_ s1 ⟨Z1,H1,I1,q1⟩=>?_);exact h2 ao s1 Z1 H1 _ _ Q I1 rr q1
noncomputable def ug(K:W.Frag)(n:Nat)(t:Bg):TG:=λv Z H Q=>∃a xs,v=.ref a/\gj K H a xs/\xs.length=n/\t xs Z H Q
theorem zl7{es:List Expr}{k:Nat}{t:Bg}{n:Nat}(hc:X.aj=true)(h:LC X es t)
  (hn:(assignEach es X.env).length=n:=by rfl) (pB:(assignEach es X.env).findIdx? (·.1)=none:=by rfl):PG X (.Tuple es k pos) (ug X.K n t):=by
 intro ao s Z H v u Q I r hw;obtain⟨a,xs,e1,hq,hl,hw⟩:=hw;subst e1;cases r;obtain⟨its,rv,ht,hz⟩:=I.tuple hq;refine assign_Tuple_tuple (I.ok.hd hc) ht (by simp[hn,<-hl,rv.length]) pB λh' hx=>?_;have I1:Inv X ao Z H {s with heap:=h'}:=I.kept (t':=s.toks) λb o e=>hx b o (dw (bN e)) e;exact h ao _ Z H xs _ Q I1 (by simpa using rv) hw
noncomputable def Qs(to ti:TE)(t:Bh):TG:=λv Z H Q=>to Z H λo H1=>ti Z H1 λi H2=>t o i v H2 λH3=>Q Z H3
theorem zlo{o i:Expr}{to ti:TE}{t:Bh}(ho:PE X o to)(hi:PE X i ti)(hs:GX X t)
  (ha:∀v,assign (.Subscript o i pos) X.env v=(do
   let ov <-holding [v] (eval o X.env)
   let iv <-holding [v,ov] (eval i X.env)
   standAt pos
   holding [v,ov,iv] (setItem ov iv v)
   release [v,ov,iv] []):=by intro _;rfl):PG X (.Subscript o i pos) (Qs to ti t):=by
 intro ao s Z H v u Q I r h;rw[ha];refine aB (pq (bf (ho ao s Z H _ I h) λov s1 hx=>eE hx λx H1 I1 r1 q1=>?_));refine aB (pq (bf (hi ao s1 Z H1 _ I1 q1) λiv s2 hx=>eE hx λy H2 I2 r2 q2=>?_));refine aB (vR (aB (pq (bf (hs ao s2 Z H2 x y v ov iv u _ I2 r1 r2 r q2) λ_ s3 hx=>vY hx λH3 I3 q3=>?_))));exact wpAny_release ⟨Z,H3,I3,q3⟩
noncomputable def Bj(te:TE)(g:TG):TS:=λD Z H=>te Z H λx H1=>g x Z H1 D.nx
theorem Xc{tg e:Expr}{te:TE}{g:TG}(he:PE X e te)(hg:PG X tg g)(hs:swapsWithSole [tg] e pos.line X.env=pure false:=by rfl)(hw:swappedStores [tg] e X.env=pure none:=by rfl)
  (h1:(assignEach [tg] X.env).map (·.2)=[assign tg X.env]:=by rfl):PS X (.Assign [tg] e pos) (Bj te g):=by
 intro ao s Z H D I h;refine wpAny_Assign_stores (bf (he ao s Z H _ I h) λv s1 hx=>eE hx λx H1 I1 r1 q1=>?_) hs hw;rw[h1];exact bf (hg ao s1 Z H1 x v _ I1 r1 q1) λ_ s2 q=>q
theorem zmP{i:Nat}{x:Str}{e:Expr}{te:TE}{pos':Pos}(hN:X.N.Nodup)(hi:X.N[i]?=some x)(hx:Loc X.env.scope x)(he:PE X e te)(hs:swapsWith e (some (.Name x pos')) pos.line X.env=pure false:=by rfl)(hf:X.fn x=true\/X.env.scope.names.lookup x=some .local:=by first|exact .inl rfl|exact .inr rfl|assumption) :
  PS X (.Assign [.Name x pos'] e pos) (Bj te (eF i)):=by
 intro ao s Z H D I h;refine wpAny_Assign_Name (bf (he ao s Z H _ I h) λv s1 ⟨y,H1,I1,r1,q1⟩=>?_) hs;exact Qg I1 hN hi hx r1 (λs2 I2=>⟨_,H1,I2,q1⟩) hf
end
section
variable {X:Cx}{pos:Pos}
noncomputable def Bk(c:TT)(tb:TS):TS:=λD Z H=>∃W:Nat->St->Hp->Prop,(∃m,W m Z H)/\∀m Z H,W m Z H->
 c Z H λb H1=>if b=true then ∃N:St->Hp->Prop,(∀Z' H',N Z' H'->∃m',m'<m/\W m' Z' H')/\tb {D with nx:=N,ct:=N,bk:=D.nx} Z H1 else D.nx Z H1
theorem zhA{c:Expr}{body:List Stmt}{tc:TT}{tb:TS}(hp:PassesOwn (model X.prog X.w) X.A X.env X.xe)(hc:PT X c tc)(hb:nW X body tb):PS X (.While c body [] pos) (Bk tc tb):=by
 intro ao s Z H D I h;obtain⟨W,⟨m0,w0⟩,turn⟩:=h;refine wpAny_While (codeAny_whileLoop (λn s'=>∃Z' H',Inv X ao Z' H' s'/\W n Z' H') ?_ m0 ⟨Z,H,I,w0⟩);rintro n s1 ⟨Z1,H1,I1,w1⟩;refine Ak hp (bf (hc ao s1 Z1 H1 _ I1 (turn n Z1 H1 w1)) λb s2 hx=>vY hx λH2 I2 q2=>?_);cases b with
 |true=>
  obtain⟨N,hN,q2⟩:=q2;rw[if_pos rfl];refine Ak hp (bf (hb ao s2 Z1 H2 _ I2 q2) λf s3 q3=>?_);cases f with
  |next=>
   obtain⟨Z3,H3,I3,n3⟩:=q3;obtain⟨m',hm,w3⟩:=hN Z3 H3 n3;exact⟨m',hm,Z3,H3,I3,w3⟩
  |cont=>
   obtain⟨Z3,H3,I3,n3⟩:=q3;obtain⟨m',hm,w3⟩:=hN Z3 H3 n3;exact⟨m',hm,Z3,H3,I3,w3⟩
  |brk=>exact q3
  |ret v=>exact q3
 |false=>
  rw[if_neg Ga];exact Gi ⟨Z1,H2,I2,q2⟩
end
structure It where
 go:Nat->Hp->Prop
 Bl:Nat->Hp->V->Hp->Prop
 stop:Nat->Hp->Prop
def iZ(X:Cx)(ao:List (Addr×Obj))(H:Hp)(b:Addr):Prop:=
 H b=none/\b≠X.env.locals/\b∉X.fs/\(b∈X.ex\/X.s₀.heap.objs.size<=b)/\(∀x c,X.env.cells.lookup x=some c->c≠b)/\∀p∈X.pn++ao,p.1≠b
theorem Inv.uh{X:Cx}{ao:List (Addr×Obj)}{Z:St}{H H':Hp}{s:Shared}{b:Addr}(I:Inv X ao Z H s)(hb:s.heap.objs.size<=b)(hn:H' b=none):iZ X ao H' b:=by
 refine⟨hn,vU (gJ I.lt hb),I.Qc hb,.inr (kI I.sz hb),λx c e z=>?_,λp hp z=>?_⟩
 ·obtain⟨v,q⟩:=I.cell x c e;exact absurd (gJ q.lt (by rw[z];exact hb)) (qI _)
 ·exact absurd (gJ (bN (I.pin p hp).1) (by rw[z];exact hb)) (qI _)
structure Turn(P:Program)(w:World)(K:W.Frag)(tg:Expr)(bR:It)(fp:List Addr)(it:Addr)(tn:Nat->Heap->Prop):Prop where
 mem:it∈fp
 obj:∀i h,tn i h->∀b∈fp,∃o,h.get? b=some o/\∀v,o.data≠.cell v
 keep:∀i h h',tn i h->(∀b∈fp,∀o,h.get? b=some o->h'.get? b=some o)->tn i h'
 item:∀(X:Cx),X.prog=P->X.w=w->X.K=K->X.aj=true->∀(i:Nat) (ao:List (Addr×Obj)) (s:Shared) (Z:St) (H:Hp) (E:Value->Shared->Prop),Inv X ao Z H s->(∀b∈fp,iZ X ao H b)->tn i s.heap->bR.go i H->
  wpAny (model P w) X.A (pyNext (.ref it)) (λr s1=>∃u,r=some u /\
   wpAny (model P w) X.A (letOwnedTupleGo tg (.ref it) u) (λ_ s2=>∃x H',Inv X ao Z H' s2/\RelV x u/\bR.Bl i H x H'/\tn (i+1) s2.heap/\∀b∈fp,H' b=none) E s1) E s
 done:∀(X:Cx),X.prog=P->X.w=w->X.K=K->X.aj=true->∀(i:Nat) (ao:List (Addr×Obj)) (s:Shared) (Z:St) (H:Hp) (E:Value->Shared->Prop),Inv X ao Z H s->(∀b∈fp,iZ X ao H b)->tn i s.heap->bR.stop i H->
  wpAny (model P w) X.A (pyNext (.ref it)) (λr s1=>r=none/\Inv X ao Z H s1) E s
 self:∀(A:Around) (i:Nat) (s:Shared) (Q:Value->Shared->Prop) (E:Value->Shared->Prop),tn i s.heap->Q (.ref it) s->wpAny (model P w) A (pyIter (.ref it)) Q E s
noncomputable abbrev TI:=St->Hp->(It->Hp->Prop)->Prop
def PIE(X:Cx)(ao:List (Addr×Obj))(Z:St)(tg:Expr)(R:It->Hp->Prop)(itv:Value)(s2:Shared):Prop:=
 ∃(it:Addr) (fp:List Addr) (tn:Nat->Heap->Prop) (bR:It) (H':Hp),itv=.ref it/\Inv X ao Z H' s2/\Turn X.prog X.w X.K tg bR fp it tn/\tn 0 s2.heap/\(∀b∈fp,iZ X ao H' b)/\R bR H'
def PI(X:Cx)(tg iter:Expr)(wi:TI):Prop:=
 ∀(ao:List (Addr×Obj)) (s:Shared) (Z:St) (H:Hp) (R:It->Hp->Prop),Inv X ao Z H s->wi Z H R->
  wpAny (model X.prog X.w) X.A (eval iter X.env) (λv s1=>wpAny (model X.prog X.w) X.A (pyIter v) (PIE X ao Z tg R) X.xe s1) X.xe s
theorem Qt{M:Model}{A:Around}{E:Value->Shared->Prop}{s:Shared}{tg:Expr}{it:Addr}{u:Value}{o:Obj}{n:String}{vs:Array Value}{Q:Unit->Shared->Prop}(ho:s.heap.get? it=some o)(hc:o.cls=.type n)(hd:o.data=.fields vs)
  (hn:["enumerate","zip","dict_itemiterator","dict_reverseitemiterator","odict_iterator","itertools.zip_longest","itertools.pairwise"].contains n=false) (hQ:Q () s):wpAny M A (letOwnedTupleGo tg (.ref it) u) Q E s:=by
 unfold letOwnedTupleGo;cases tg<;>first
  |exact aR hQ
  | (cases u<;>first
    |exact aR hQ
    | (refine aB (wpAny_load ho ?_)
       rw[hc,hd];show wpAny M A (if (["enumerate","zip","dict_itemiterator","dict_reverseitemiterator","odict_iterator","itertools.zip_longest","itertools.pairwise"].contains n&&vs[0]?==some (rawInt _))=true then _ else _) Q E s;rw[if_neg (by intro h;rw[hn,Bool.false_and] at h;cases h)];exact aR hQ))
noncomputable def LR(K:W.Frag)(a:Addr):It:=
 ⟨λi H=>∃xs x,cO K H a xs/\xs[i]?=some x,λi H x H'=>H'=H/\∀xs,cO K H a xs->xs[i]?=some x,λi H=>∃xs,cO K H a xs/\xs.length<=i⟩
noncomputable def Qu(K:W.Frag)(a:Addr):It:=
 ⟨λi H=>∃xs x,gj K H a xs/\xs[i]?=some x,λi H x H'=>H'=H/\∀xs,gj K H a xs->xs[i]?=some x,λi H=>∃xs,gj K H a xs/\xs.length<=i⟩
noncomputable def GZ(lo:Int)(n:Nat):It:=⟨λi _=>i<n,λi H x H'=>H'=H/\x=.int (lo+i),λi _=>n<=i⟩
theorem zfv{P:Program}{w:World}{K:W.Frag}{tg:Expr}(a it:Addr):Turn P w K tg (LR K a) [it] it (λi h=>h.IsListIter it a i) where
 mem:=by simp
 obj:=λi h st b hb=>by
  have e:b=it:=by simpa using hb
  subst e;obtain⟨o,e,c,d⟩:=st;exact⟨o,e,λv z=>by rw[d] at z;cases z⟩
 keep:=λi h h' st k=>st.at λo e=>k it (by simp) o e
 item:=by
  intro X hP hw hK hc i ao s Z H E I hf st hg;subst hP hw hK;obtain⟨xs,x,hq,hx⟩:=hg;obtain⟨its,rv,p,hz⟩:=I.list hq;obtain⟨u,hu,ru⟩:=rv.get hx;obtain⟨f0,f1,f2,f3,f4,f5⟩:=hf it (by simp);refine wpAny_pyNext_list_item st p.isList (x:=u) (by simpa using hu) λh' st' sb=>?_;have I1:Inv X ao Z H {s with heap:=h'}:=I.turned (t':=s.toks) (λb o hb e=>(sb.2 b hb).trans e) f0 f1 f3 f4 f5;obtain⟨o,e,c,d⟩:=id st';exact⟨u,rfl,Qt (s:={s with heap:=h'}) e c d (by decide) ⟨x,H,I1,ru,⟨rfl,λys hy=>by rw[I.n6 hy hq];exact hx⟩,st',λb hb=>(hf b hb).1⟩⟩
 done:=by
  intro X hP hw hK hc i ao s Z H E I hf st hg;subst hP hw hK;obtain⟨xs,hq,hx⟩:=hg;obtain⟨its,rv,p,hz⟩:=I.list hq;obtain⟨f0,f1,f2,f3,f4,f5⟩:=hf it (by simp);have hl:=rv.length;exact wpAny_pyNext_list_end (I.ok.hd hc) st p.isList (by simp;lia) λh' eb=>⟨rfl,I.turned (t':=s.toks) (λb o hb e=>eb b o hb e) f0 f1 f3 f4 f5⟩
 self:=λ_ _ _ _ _ st h=>wpAny_pyIter_listiter st h
theorem ze0{P:Program}{w:World}{K:W.Frag}{tg:Expr}(a it:Addr):Turn P w K tg (Qu K a) [it] it (λi h=>h.IsTupleIter it a i) where
 mem:=by simp
 obj:=λi h st b hb=>by
  have e:b=it:=by simpa using hb
  subst e;obtain⟨o,e,c,d⟩:=st;exact⟨o,e,λv z=>by rw[d] at z;cases z⟩
 keep:=λi h h' st k=>st.at λo e=>k it (by simp) o e
 item:=by
  intro X hP hw hK hc i ao s Z H E I hf st hg;subst hP hw hK;obtain⟨xs,x,hq,hx⟩:=hg;obtain⟨its,rv,p,hz⟩:=I.tuple hq;obtain⟨u,hu,ru⟩:=rv.get hx;obtain⟨f0,f1,f2,f3,f4,f5⟩:=hf it (by simp);refine wpAny_pyNext_tuple_item st (show s.heap.IsTuple a its.toArray from p) (x:=u) (by simpa using hu) λh' st' sb=>?_;have I1:Inv X ao Z H {s with heap:=h'}:=I.turned (t':=s.toks) (λb o hb e=>(sb.2 b hb).trans e) f0 f1 f3 f4 f5;obtain⟨o,e,c,d⟩:=id st';exact⟨u,rfl,Qt (s:={s with heap:=h'}) e c d (by decide) ⟨x,H,I1,ru,⟨rfl,λys hy=>by rw[I.lF hy hq];exact hx⟩,st',λb hb=>(hf b hb).1⟩⟩
 done:=by
  intro X hP hw hK hc i ao s Z H E I hf st hg;subst hP hw hK;obtain⟨xs,hq,hx⟩:=hg;obtain⟨its,rv,p,hz⟩:=I.tuple hq;obtain⟨f0,f1,f2,f3,f4,f5⟩:=hf it (by simp);have hl:=rv.length;exact wpAny_pyNext_tuple_end (I.ok.hd hc) st (show s.heap.IsTuple a its.toArray from p) (by simp;lia) λh' eb=>⟨rfl,I.turned (t':=s.toks) (λb o hb e=>eb b o hb e) f0 f1 f3 f4 f5⟩
 self:=λ_ _ _ _ _ st h=>wpAny_pyIter_tupleiter st h
theorem zfo{P:Program}{w:World}{K:W.Frag}{tg:Expr}(it:Addr)(lo:Int)(n:Nat):Turn P w K tg (GZ lo n) [it] it (λi h=>IsRangeIter h it (lo+(i:Nat)*1) ((n:Int)-(i:Nat)) 1) where
 mem:=by simp
 obj:=λi h st b hb=>by
  have e:b=it:=by simpa using hb
  subst e;exact⟨_,st,λv z=>by
   have z':Data.fields _=Data.cell v:=z;cases z'⟩
 keep:=λi h h' st k=>k it (by simp) _ st
 item:=by
  intro X hP hw hK hc i ao s Z H E I hf st hg;subst hP hw hK;obtain⟨f0,f1,f2,f3,f4,f5⟩:=hf it (by simp);have W:=Walks.range (prog:=X.prog) (w:=X.w) (I.ok.hd hc) it lo 1 n;refine W.item i s _ _ hg st λv h' tk hv st' kk=>?_;obtain⟨t,rfl⟩:=hv;have I1:Inv X ao Z H {s with heap:=h',toks:=tk}:=I.turned (λb o hb e=>kk b o (by simpa using hb) e) f0 f1 f3 f4 f5;refine⟨_,rfl,Qt (s:={s with heap:=h',toks:=tk}) (n:="range_iterator") st' rfl rfl (by decide) ⟨.int (lo+i),H,I1,⟨t,?_⟩,⟨rfl,rfl⟩,st',λb hb=>(hf b hb).1⟩⟩;rw[Int.mul_one]
 done:=by
  intro X hP hw hK hc i ao s Z H E I hf st hg;subst hP hw hK;obtain⟨f0,f1,f2,f3,f4,f5⟩:=hf it (by simp);exact wpAny_pyNext_range_end (I.ok.hd hc) st (by have:n<=i:=hg;lia) λh' eb=>⟨rfl,I.turned (t':=s.toks) (λb o hb e=>eb b o hb e) f0 f1 f3 f4 f5⟩
 self:=λ_ _ _ _ _ st h=>wpAny_pyIter_rangeiter st h
section
variable {X:Cx}{tg:Expr}
theorem Xd{ao:List (Addr×Obj)}{Z:St}{H:Hp}{s:Shared}{R:It->Hp->Prop}{E:Value->Shared->Prop}{lo hi:Int}{t u v:Tok}{tk:Nat}(I:Inv X ao Z H s)(h1 : -(2^62)<=lo)(h2:lo<2^62)(h3 : -(2^62)<=hi)(h4:hi<2^62)
  (q:R (GZ lo (hi-lo).toNat) H):wpAny (model X.prog X.w) X.A (pyIter (.ref s.heap.objs.size)) (PIE X ao Z tg R) E {s with heap:=s.heap.push {cls:=.type "range",data:=.fields #[.int lo t,.int hi u,.int 1 v]},toks:=tk}:=by
 refine wpAny_pyIter_range (IsRange.new ..) (small_one h1 h2 h3 h4) ?_;have I1:Inv X ao Z H {s with heap:=s.heap.push {cls:=.type "range",data:=.fields #[.int lo t,.int hi u,.int 1 v]},toks:=tk}:=I.kept λb o e=>bY _ e;refine⟨(s.heap.push {cls:=.type "range",data:=.fields #[.int lo t,.int hi u,.int 1 v]}).objs.size,[(s.heap.push {cls:=.type "range",data:=.fields #[.int lo t,.int hi u,.int 1 v]}).objs.size],_,_,H,rfl,
  I1.kept (t':=tk) λb o e=>bY _ e,zfo _ lo (hi-lo).toNat,?_,λb hb=>?_,q⟩
 ·have e1:lo+((0:Nat):Int)*1=lo:=by simp
  have e2:(((hi-lo).toNat:Nat):Int)-((0:Nat):Int)=Builtin.Range.rangeSize lo hi 1:=by rw[rangeSize_one];split<;>lia
  show IsRangeIter _ _ (lo+((0:Nat):Int)*1) ((((hi-lo).toNat:Nat):Int)-((0:Nat):Int)) 1;rw[e1,e2];exact fO _ rfl
 ·have e:b=(s.heap.push {cls:=.type "range",data:=.fields #[.int lo t,.int hi u,.int 1 v]}).objs.size:=by simpa using hb
  subst e;exact I1.uh (bO _) (I1.hok.fresh (bO _))
noncomputable def G3(ta:TA):TI:=λZ H R=>ta Z H λvs H1=>∃j:Int,vs=[.int j]/\-(2^62)<=j/\j<2^62/\R (GZ 0 j.toNat) H1
noncomputable def G4(ta:TA):TI:=λZ H R=>ta Z H λvs H1=>∃i j:Int,vs=[.int i,.int j]/\(-(2^62)<=i/\i<2^62/\-(2^62)<=j/\j<2^62)/\R (GZ i (j-i).toNat) H1
theorem zf1{a:Expr}{ta:TA}{p pos:Pos}(hg:Gl X "range")(hm:X.mg "range"=none)(ha:PA X [a] ta)(hs:starEach [a] X.env=[(false,eval a X.env)]:=by rfl):PI X tg (.Call (.Name "range" p) [a] [] pos) (G3 ta):=by
 intro ao s Z H R I h;refine Call_ (wO I hg hm boot_range (Ab (bf (ha pos ao s Z H _ I h) λus s1 hx=>eE hx λvs H1 I1 r1 q1=>?_) hs rfl));obtain⟨j,e,q1,q2,q⟩:=q1;subst e;cases r1 with
 |cons r rr=>
  cases rr;obtain⟨t,rfl⟩:=r;exact call_range_1 (Xd I1 (by lia) (by lia) q1 q2 (by simpa using q))
theorem zfy{a b:Expr}{ta:TA}{p pos:Pos}(hg:Gl X "range")(hm:X.mg "range"=none)(ha:PA X [a,b] ta)(hs:starEach [a,b] X.env=[(false,eval a X.env),(false,eval b X.env)]:=by rfl)(v7:starEach [b] X.env=[(false,eval b X.env)]:=by rfl) :
  PI X tg (.Call (.Name "range" p) [a,b] [] pos) (G4 ta):=by
 intro ao s Z H R I h;refine Call_ (wO I hg hm boot_range (Ab (bf (ha pos ao s Z H _ I h) λus s1 hx=>eE hx λvs H1 I1 r1 q1=>?_) (by rw[hs,v7]) (by rw[v7];rfl)));obtain⟨i,j,e,⟨q1,q2,q3,q4⟩,q⟩:=q1;subst e;cases r1 with
 |cons r rr=>
  cases rr with
  |cons r' rr=>
   cases rr;obtain⟨t,rfl⟩:=r;obtain⟨t',rfl⟩:=r';exact call_range_2 (Xd I1 q1 q2 q3 q4 q)
noncomputable def Qv(wi:TI)(g:TG)(tb:TS):TS:=λD Z H=>wi Z H λbR H1=>∃W:Nat->Nat->St->Hp->Prop,(∃m,W 0 m Z H1)/\∀i m Z H,W i m Z H->
 (bR.stop i H/\D.nx Z H)\/(bR.go i H/\∃N:St->Hp->Prop,(∀Z' H',N Z' H'->∃m',m'<m/\W (i+1) m' Z' H')/\∀x H',bR.Bl i H x H'->g x Z H' λZ2 H2=>tb {D with nx:=N,ct:=N,bk:=D.nx} Z2 H2)
noncomputable def jU(fp:List Addr)(h:Heap):List (Addr×Obj):=fp.filterMap λb=>(h.get? b).map λo=>(b,o)
theorem L_{fp:List Addr}{h:Heap}{b:Addr}{o:Obj}(hb:b∈fp)(e:h.get? b=some o):(b,o)∈jU fp h:=Ds.mpr ⟨b,hb,by rw[e];rfl⟩
theorem zg0{fp:List Addr}{h:Heap}{p:Addr×Obj}(hp:p∈jU fp h):p.1∈fp/\h.get? p.1=some p.2:=by
 obtain⟨b,hb,e⟩:=Ds.mp hp;cases q:h.get? b with
 |none=>rw[q] at e;cases e
 |some o=>
  rw[q] at e;have e':(b,o)=p:=cJ e;subst e';exact⟨hb,q⟩
theorem Inv.pinned{ao:List (Addr×Obj)}{Z:St}{H:Hp}{s:Shared}{fp:List Addr}(I:Inv X ao Z H s)(hf:∀b∈fp,iZ X ao H b)(ho:∀b∈fp,∃o,s.heap.get? b=some o/\∀v,o.data≠.cell v):Inv X (ao++jU fp s.heap) Z H s:=
 I.mH λp hp=>(iR.mp hp).elim (λz=>I.pin p (vM _ z)) λz=>by
  obtain⟨hb,e⟩:=zg0 z;obtain⟨f0,f1,f2,_⟩:=hf p.1 hb;obtain⟨o,e',d⟩:=ho p.1 hb;rw[e] at e';cases e';exact⟨e,f0,f1,f2,d⟩
theorem Inv.iw{ao pl:List (Addr×Obj)}{Z:St}{H:Hp}{s:Shared}(I:Inv X (ao++pl) Z H s):Inv X ao Z H s:=I.mH λp hp=>I.pin p (vM _ (Dm _ hp))
theorem znb{iter:Expr}{body:List Stmt}{wi:TI}{g:TG}{tb:TS}{pos:Pos}(hp:PassesOwn (model X.prog X.w) X.A X.env X.xe)(hc:X.aj=true)(hi:PI X tg iter wi)(hg:PG X tg g)(hb:nW X body tb)
  (hs:∀x,foldedSetIterable iter X.env x=pure x:=by intro _;rfl):PS X (.For tg iter body [] pos) (Qv wi g tb):=by
 intro ao s Z H D I h;refine wpAny_For (bf (hi ao s Z H _ I h) λv s1 h1=>bf h1 λitv s2 h2=>?_) hs;obtain⟨it,fp,tn,bR,H2,e,I2,T,st2,f2,W,⟨m0,w0⟩,turn⟩:=h2;subst e;have stat:∀{H':Hp},(∀b∈fp,H' b=none)->∀b∈fp,iZ X ao H' b:=λhn b hb=>⟨hn b hb,(f2 b hb).2⟩;refine codeAny_forLoop_any (λn s'=>∃i Z' H',Inv X ao Z' H' s'/\tn i s'.heap/\(∀b∈fp,H' b=none)/\W i n Z' H') ?_ m0 ⟨0,Z,H2,I2,st2,λb hb=>(f2 b hb).1,w0⟩;rintro n s3 ⟨i,Z3,H3,I3,st3,Xe,w3⟩;rcases turn i n Z3 H3 w3 with ⟨stop,qn⟩|⟨go,N,hN,step⟩
 ·refine Ak hp (bf (T.done X rfl rfl rfl hc i ao s3 Z3 H3 X.xe I3 (stat Xe) st3 stop) λr s4 ⟨hr,I4⟩=>?_);subst hr;exact Gi ⟨Z3,H3,I4,qn⟩
 ·refine Ak hp (bf (T.item X rfl rfl rfl hc i ao s3 Z3 H3 X.xe I3 (stat Xe) st3 go) λr s4 hx=>vY hx λu hr h4=>?_);subst hr;refine Ak hp (bf h4 λ_ s5 ⟨x,H5,I5,r5,y5,Eh,Ma⟩=>?_);have I5':=I5.pinned (stat Ma) (T.obj _ _ Eh);refine Ak hp (bf (hg _ s5 Z3 H5 x u _ I5' r5 (step x H5 y5)) λ_ s6 ⟨Z6,H6,I6,q6⟩=>?_);refine Ak hp (bf (hb _ s6 Z6 H6 _ I6 q6) λf s7 q7=>?_);have again:∀{Z7:St} {H7:Hp},Inv X (ao++jU fp s5.heap) Z7 H7 s7->N Z7 H7->∃m,m<n/\∃i Z' H',Inv X ao Z' H' s7/\tn i s7.heap/\(∀b∈fp,H' b=none)/\W i m Z' H':=λ{Z7 H7} I7 n7=>by
   obtain⟨m',hm,w7⟩:=hN Z7 H7 n7;refine⟨m',hm,i+1,Z7,H7,I7.iw,T.keep _ _ _ Eh λb hb o e=>(I7.pin (b,o) (vM _ (vM _ (L_ hb e)))).1,λb hb=>?_,w7⟩;obtain⟨o,e,d⟩:=T.obj _ _ Eh b hb;exact(I7.pin (b,o) (vM _ (vM _ (L_ hb e)))).2.1
  cases f with
  |next=>obtain⟨Z7,H7,I7,n7⟩:=q7;exact again I7 n7
  |cont=>obtain⟨Z7,H7,I7,n7⟩:=q7;exact again I7 n7
  |brk=>obtain⟨Z7,H7,I7,q7⟩:=q7;exact⟨Z7,H7,I7.iw,q7⟩
  |ret v=>obtain⟨x7,Z7,H7,I7,r7,q7⟩:=q7;exact⟨x7,Z7,H7,I7.iw,r7,q7⟩
end
noncomputable abbrev R2:=V->V->Hp->VK->Prop
def fj(X:Cx)(f:Value->Value->Sem Value)(r:R2):Prop:=
 ∀(ao:List (Addr×Obj)) (s:Shared) (Z:St) (H:Hp) (x y:V) (v u:Value) (Q:VK),Inv X ao Z H s->RelV x v->RelV y u->r x y H Q->
  wpAny (model X.prog X.w) X.A (f v u) (EP X ao Z Q) X.xe s
def Mf(X:Cx)(f:Value->Sem Value)(r:V->Hp->VK->Prop):Prop:=
 ∀(ao:List (Addr×Obj)) (s:Shared) (Z:St) (H:Hp) (x:V) (v:Value) (Q:VK),Inv X ao Z H s->RelV x v->r x H Q->
  wpAny (model X.prog X.w) X.A (f v) (EP X ao Z Q) X.xe s
def cX(X:Cx)(f:Value)(r:List V->Hp->VK->Prop):Prop:=
 ∀(ao:List (Addr×Obj)) (s:Shared) (Z:St) (H:Hp) (xs:List V) (us:List Value) (Q:VK),Inv X ao Z H s->Vals xs us->r xs H Q->
  wpAny (model X.prog X.w) X.A (call f us) (EP X ao Z Q) X.xe s
def Qw(X:Cx)(r:V->Hp->(Bool->Hp->Prop)->Prop):Prop:=
 ∀(ao:List (Addr×Obj)) (s:Shared) (Z:St) (H:Hp) (x:V) (v:Value) (Q:Bool->Hp->Prop),Inv X ao Z H s->RelV x v->r x H Q->
  wpAny (model X.prog X.w) X.A (truthy v) (TP X ao Z Q) X.xe s
noncomputable def Mg(r:R2)(ta tb:TE):TE:=λZ H Q=>ta Z H λx H1=>tb Z H1 λy H2=>r x y H2 Q
noncomputable def tUn(r:V->Hp->VK->Prop)(ta:TE):TE:=λZ H Q=>ta Z H λx H1=>r x H1 Q
noncomputable def rI(C:Int->Int->Prop)(g:Int->Int->V):R2:=λx y H Q=>∃i j,x=.int i/\y=.int j/\C i j/\Q (g i j) H
noncomputable def pN(g:Int->Int->V):R2:=λx y H Q=>∃i j,x=.int i/\y=.int j/\Q (g i j) H
noncomputable def rU(g:Int->V):V->Hp->VK->Prop:=λx H Q=>∃i,x=.int i/\Q (g i) H
section
variable {X:Cx}{a b c:Expr}{ta tb tc:TE}{pos:Pos}
theorem Bm(ha:PE X a ta)(hb:PE X b tb){ao:List (Addr×Obj)}{s:Shared}{Z:St}{H:Hp}{R:V->V->Hp->Prop}(I:Inv X ao Z H s)
  (h:ta Z H λx H1=>tb Z H1 λy H2=>R x y H2) {Q:Value->Shared->Prop} {f:Value->Value->Sem Value}
  (hf:∀v u s2 x y H2,Inv X ao Z H2 s2->RelV x v->RelV y u->R x y H2->wpAny (model X.prog X.w) X.A (f v u) Q X.xe s2) :
  wpAny (model X.prog X.w) X.A (eval a X.env) (λv s₁=>wpAny (model X.prog X.w) X.A (eval b X.env) (λu s₂=>wpAny (model X.prog X.w) X.A (f v u) Q X.xe s₂) X.xe s₁) X.xe s:=by
 refine bf (ha ao s Z H _ I h) λv s1 hx=>eE hx λx H1 I1 r1 q1=>?_;refine bf (hb ao s1 Z H1 _ I1 q1) λu s2 hx=>eE hx λy H2 I2 r2 q2=>?_;exact hf v u s2 x y H2 I2 r1 r2 q2
theorem zoj{op:Operator}{r:R2}(ho:fj X (binaryOp op) r)(ha:PE X a ta)(hb:PE X b tb):PE X (.BinOp a op b pos) (Mg r ta tb):=by
 intro ao s Z H Q I h;exact wpAny_BinOp (Bm ha hb I h λv u s2 x y H2 I2 rx ry q=>ho ao s2 Z H2 x y v u Q I2 rx ry q)
theorem znt{op:UnaryOp}{r:V->Hp->VK->Prop}(ho:Mf X (unaryOp op) r)(ha:PE X a ta):PE X (.UnaryOp op a pos) (tUn r ta):=by
 intro ao s Z H Q I h;exact UnaryOp_ (bf (ha ao s Z H _ I h) λv s1 hx=>eE hx λx H1 I1 r1 q1=>ho ao s1 Z H1 x v Q I1 r1 q1)
theorem Mh{f:Value->Value->Sem Value}{C:Int->Int->Prop}{g:Int->Int->Int}
  (rule:∀(i j:Int) (t u:Tok) (s:Shared) (Q:Value->Shared->Prop) (E:Value->Shared->Prop),C i j->Q (.int (g i j) s.toks) {s with toks:=s.toks+1}->wpAny (model X.prog X.w) X.A (f (.int i t) (.int j u)) Q E s) :
  fj X f (rI C λi j=>.int (g i j)):=by
 intro ao s Z H x y v u Q I rx ry h;obtain⟨i,j,rfl,rfl,hc,q⟩:=h;obtain⟨t,rfl⟩:=rx;obtain⟨t',rfl⟩:=ry;exact rule i j t t' s _ _ hc ⟨.int (g i j),H,I.tok _,⟨_,rfl⟩,q⟩
theorem G5{f:Value->Value->Sem Value}{g:Int->Int->Int}
  (rule:∀(i j:Int) (t u:Tok) (s:Shared) (Q:Value->Shared->Prop) (E:Value->Shared->Prop),Q (.int (g i j) s.toks) {s with toks:=s.toks+1}->wpAny (model X.prog X.w) X.A (f (.int i t) (.int j u)) Q E s) :
  fj X f (pN λi j=>.int (g i j)):=by
 intro ao s Z H x y v u Q I rx ry h;obtain⟨i,j,rfl,rfl,q⟩:=h;obtain⟨t,rfl⟩:=rx;obtain⟨t',rfl⟩:=ry;exact rule i j t t' s _ _ ⟨.int (g i j),H,I.tok _,⟨_,rfl⟩,q⟩
theorem wQ{f:Value->Value->Sem Value}{g:Int->Int->Bool}
  (rule:∀(i j:Int) (t u:Tok) (s:Shared) (Q:Value->Shared->Prop) (E:Value->Shared->Prop),Q (.bool (g i j)) s->wpAny (model X.prog X.w) X.A (f (.int i t) (.int j u)) Q E s) :
  fj X f (pN λi j=>.bl (g i j)):=by
 intro ao s Z H x y v u Q I rx ry h;obtain⟨i,j,rfl,rfl,q⟩:=h;obtain⟨t,rfl⟩:=rx;obtain⟨t',rfl⟩:=ry;exact rule i j t t' s _ _ ⟨.bl (g i j),H,I,rfl,q⟩
def wR(i j:Int):Prop:=0<j/\j<1073741824
def G6(i j:Int):Prop:=0<=j/\j<=1000000/\i.natAbs<2^64
def wU(i j:Int):Prop:=(-(2^64)<i/\i<2^64)\/(-(2^64)<j/\j<2^64)
theorem wU.ok{i j:Int}(h:wU i j):IntMulOk i j:=by
 rcases h with ⟨h1,h2⟩|⟨h1,h2⟩
 ·exact .of_left (intBits_le_64 h1 h2)
 ·exact .of_right (intBits_le_64 h1 h2)
theorem Bp:fj X (binaryOp .Add) (pN λi j=>.int (i+j)):=G5 λ_ _ _ _ _ _ _ q=>add_int q
theorem zl3:fj X (binaryOp .Sub) (pN λi j=>.int (i-j)):=G5 λ_ _ _ _ _ _ _ q=>sub_int q
theorem zmu:fj X (binaryOp .Mult) (rI wU λi j=>.int (i*j)):=Mh λ_ _ _ _ _ _ _ hc q=>mul_int q hc.ok
theorem zkx:fj X (binaryOp .FloorDiv) (rI wR λi j=>.int (i/j)):=Mh λi j _ _ _ _ _ hc q=>by
 have h1:(0:Int)<j:=hc.1;have h2:j<1073741824:=hc.2;exact floordiv_int (by lia) (by rw[Int.fdiv_eq_ediv_of_nonneg i (by lia)];exact q) (.inl (PyProof.noPylong_small (by lia)))
theorem zmW:fj X (binaryOp .Mod) (rI (λ_ j=>0<j) λi j=>.int (i%j)):=Mh λi j _ _ _ _ _ hc q=>by
 have h1:(0:Int)<j:=hc;exact mod_int' (by lia) (by rw[Int.fmod_eq_emod_of_nonneg i (by lia)];exact q)
theorem zmp:fj X (binaryOp .Pow) (rI G6 λi j=>.int (i^j.toNat)):=Mh λ_ _ _ _ _ _ _ hc q=>pow_int_small hc.1 hc.2.1 hc.2.2 q
theorem unI{f:Value->Sem Value}{g:Int->Int}
  (rule:∀(i:Int) (t:Tok) (s:Shared) (Q:Value->Shared->Prop) (E:Value->Shared->Prop),Q (.int (g i) s.toks) {s with toks:=s.toks+1}->wpAny (model X.prog X.w) X.A (f (.int i t)) Q E s) :
  Mf X f (rU λi=>.int (g i)):=by
 intro ao s Z H x v Q I rx h;obtain⟨i,rfl,q⟩:=h;obtain⟨t,rfl⟩:=rx;exact rule i t s _ _ ⟨.int (g i),H,I.tok _,⟨_,rfl⟩,q⟩
theorem zlm:Mf X (unaryOp .USub) (rU λi=>.int (-i)):=unI λ_ _ _ _ _ q=>neg_int q
end
section
variable {X:Cx}{a b c:Expr}{ta tb tc:TE}{pos:Pos}
theorem G7:fj X (compareOp .Lt) (pN λi j=>.bl (decide (i<j))):=wQ λ_ _ _ _ _ _ _ q=>lt_int q
theorem zny:fj X (compareOp .LtE) (pN λi j=>.bl (decide (i<=j))):=wQ λ_ _ _ _ _ _ _ q=>le_int q
theorem znO:fj X (compareOp .Gt) (pN λi j=>.bl (decide (j<i))):=wQ λ_ _ _ _ _ _ _ q=>gt_int q
theorem zoh:fj X (compareOp .GtE) (pN λi j=>.bl (decide (j<=i))):=wQ λ_ _ _ _ _ _ _ q=>ge_int q
theorem fj.or{f:Value->Value->Sem Value}{r r':R2}(h:fj X f r)(h':fj X f r'):fj X f (λx y H Q=>r x y H Q\/r' x y H Q):=by
 intro ao s Z H x y v u Q I rx ry q;rcases q with q|q
 ·exact h ao s Z H x y v u Q I rx ry q
 ·exact h' ao s Z H x y v u Q I rx ry q
theorem zj4{op:CmpOp}{r:R2}(ho:fj X (compareOp op) r)(ha:PE X a ta)(hb:PE X b tb)(hm:behindInMarks op b=false):PE X (.Compare a [op] [b] pos) (Mg r ta tb):=by
 intro ao s Z H Q I h;exact wpAny_Compare1 (Bm ha hb I h λv u s2 x y H2 I2 rx ry q=>ho ao s2 Z H2 x y v u Q I2 rx ry q) hm
noncomputable def G8(t:TE):TT:=λZ H Q=>t Z H λx H'=>∃k,x=.bl k/\Q k H'
theorem zjq{op:CmpOp}{r:R2}(ho:fj X (compareOp op) r)(ha:PE X a ta)(hb:PE X b tb)(hm:behindInMarks op b=false):PT X (.Compare a [op] [b] pos) (G8 (Mg r ta tb)):=by
 intro ao s Z H Q I h;refine wpAny_isTrue_Compare1 (bf (ha ao s Z H _ I h) λv s1 hx=>eE hx λx H1 I1 r1 q1=>bf (hb ao s1 Z H1 _ I1 q1) λu s2 hx=>eE hx λy H2 I2 r2 q2=>
  bf (ho ao s2 Z H2 x y v u _ I2 r1 r2 q2) λc s3 hx=>PN hx λz H3 I3 r3 k e q3=>?_) hm
 subst e;cases r3;exact vN ⟨H3,I3,q3⟩
noncomputable def Bq(r r':R2)(ta tb tc:TE):TE:=λZ H Q=>ta Z H λx H1=>tb Z H1 λy H2=>r x y H2 λz H3=>∃k,z=.bl k /\
 (if k=true then tc Z H3 λw' H4=>r' y w' H4 Q else Q (.bl false) H3)
theorem zhX{op op':CmpOp}{r r':R2}(ho:fj X (compareOp op) r)(ud:fj X (compareOp op') r')(ha:PE X a ta)(hb:PE X b tb)(hc:PE X c tc)
  (hm:lastMarks [op,op'] [b,c]=false:=by with_unfolding_all rfl):PE X (.Compare a [op,op'] [b,c] pos) (Bq r r' ta tb tc):=by
 intro ao s Z H Q I h;refine Compare_chain (bf (ha ao s Z H _ I h) λv s1 hx=>eE hx λx H1 I1 r1 q1=>chain_link (bf (hb ao s1 Z H1 _ I1 q1) λu s2 hx=>eE hx λy H2 I2 r2 q2=>
  bf (ho ao s2 Z H2 x y v u _ I2 r1 r2 q2) λd s3 hx=>PN hx λz H3 I3 r3 k e q3=>?_)) hm
 subst e;cases r3;refine vN ?_;cases k with
 |false=>exact ite_ff ⟨.bl false,H3,I3,rfl,q3⟩
 |true=>exact ite_tt (chain_last (bf (hc ao s3 Z H3 _ I3 q3) λw' s4 hx=>eE hx λz' H4 I4 r4 q4=>ud ao s4 Z H4 y z' u w' Q I4 r2 r4 q4))
def Br(K:W.Frag)(x:V)(H:Hp)(k:Bool):Prop:=
 match x with
 |.non=>k=false
 |.bl b=>k=b
 |.int i=>k=(i != 0)
 |.str y=>y.length<=sizeLine/\k=((y.length:Int) != 0)
 |.A_ y=>y.size<=sizeLine/\k=((y.size:Int) != 0)
 |.ref p=>(∃xs,cO K H p xs/\k = !xs.isEmpty)\/(∃xs,gj K H p xs/\k = !xs.isEmpty)\/∃kvs,H p=some (.dK kvs)/\k = !kvs.isEmpty
 |_=>False
theorem zfb{κ:Type}{kvs:List (κ×V)}{vs:List (κ×Value)}(r:KV kvs vs):(!vs.isEmpty) = !kvs.isEmpty:=by
 cases r<;>rfl
theorem Xf{xs:List V}{its:List Value}(r:Vals xs its):(!its.toArray.isEmpty) = !xs.isEmpty:=by
 cases r<;>simp
theorem i_:(sizeLine:Nat)<2^63:=by rw[qJ];decide
theorem zk8:Qw X (λx H Q=>∃k,Br X.K x H k/\Q k H):=by
 intro ao s Z H x v Q I rx h;obtain⟨k,e,q⟩:=h;have hl:=i_;have hs:sizeLine=16777216:=qJ;cases x with
 |non=>
  cases rx;have e':k=false:=e;subst e';exact truthy_none ⟨H,I,q⟩
 |bl b=>
  cases rx;have e':k=b:=e;subst e';exact vN ⟨H,I,q⟩
 |int i=>
  obtain⟨t,rfl⟩:=rx;have e':k=(i != 0):=e;subst e';exact PySem.P.truthy_int ⟨H,I,q⟩
 |str y=>
  obtain⟨t,rfl⟩:=rx;obtain⟨hy,e'⟩ : y.length<=sizeLine/\k=((y.length:Int) != 0):=e;subst e';exact PySem.P.truthy_str (by lia) ⟨H,I.tok _,q⟩
 |A_ y=>
  obtain⟨t,rfl⟩:=rx;obtain⟨hy,e'⟩ : y.size<=sizeLine/\k=((y.size:Int) != 0):=e;subst e';exact PySem.W.truthy_bytes (by lia) ⟨H,I.tok _,q⟩
 |ref p=>
  cases rx;have e':(∃xs,cO X.K H p xs/\k = !xs.isEmpty)\/(∃xs,gj X.K H p xs/\k = !xs.isEmpty)\/∃kvs,H p=some (.dK kvs)/\k = !kvs.isEmpty:=e;rcases e' with ⟨xs,hx,e'⟩|⟨xs,hx,e'⟩|⟨kvs,hx,e'⟩
  ·subst e';obtain⟨its,r,pl,hz⟩:=I.list hx;have hlen:=r.length;exact wpAny_truthy_list pl.isList (by simp only[fD];lia) ⟨H,I.tok _,by rw[Xf r];exact q⟩
  ·subst e';obtain⟨its,r,pl,hz⟩:=I.tuple hx;have hlen:=r.length;exact truthy_tuple pl (by simp only[fD];lia) ⟨H,I.tok _,by rw[Xf r];exact q⟩
  ·subst e';obtain⟨hz,hS,vs,r,m⟩ : kvs.length<=sizeLine/\(p==sysModules)=false/\∃vs,KV kvs vs/\s.heap.DictOf (cj X.prog X.w) p vs:=I.hok p _ hx;have hlen:kvs.length=vs.length:=Paired.length r;exact wpAny_truthy_dict hS m (by lia) ⟨H,I.tok _,by rw[zfb r];exact q⟩
 |_=>exact(show False from e).elim
theorem ze1:fj X (binaryOp .Add) (λx y H Q=>∃i j,x=.str i/\y=.str j/\i.length+j.length<=sizeLine/\Q (.str (i++j)) H):=by
 intro ao s Z H x y v u Q I rx ry h;obtain⟨i,j,rfl,rfl,hz,q⟩:=h;obtain⟨t,rfl⟩:=rx;obtain⟨t',rfl⟩:=ry;exact add_str (λt' tk=>⟨.str (i++j),H,I.tok _,⟨_,rfl⟩,q⟩) hz
theorem vals1{x:V}{us:List Value}(r:Vals [x] us):∃u,us=[u]/\RelV x u:=by
 cases r with
 |cons r1 r2=>cases r2;exact⟨_,rfl,r1⟩
theorem vals2{x y:V}{us:List Value}(r:Vals [x,y] us):∃u w',us=[u,w']/\RelV x u/\RelV y w':=by
 cases r with
 |cons r1 r2=>
  cases r2 with
  |cons r3 r4=>cases r4;exact⟨_,_,rfl,r1,r3⟩
theorem zhk:cX X (.builtin "abs") (λxs H Q=>∃i,xs=[.int i]/\Q (.int (if i<0 then -i else i)) H):=by
 intro ao s Z H xs us Q I r h;obtain⟨i,rfl,q⟩:=h;obtain⟨u,rfl,t,rfl⟩:=vals1 r;exact call_abs_int λu tk=>⟨.int (if i<0 then -i else i),H,I.tok _,⟨_,rfl⟩,q⟩
theorem zgC(hc:X.aj=true):cX X (.builtin "max") (λxs H Q=>∃i j,xs=[.int i,.int j]/\Q (.int (if j>i then j else i)) H):=by
 intro ao s Z H xs us Q I r h;obtain⟨i,j,rfl,q⟩:=h;obtain⟨u,w',rfl,⟨t,rfl⟩,⟨t',rfl⟩⟩:=vals2 r;refine max_two_ints (I.ok.hd hc) λh' tk k=>⟨_,H,I.kept k,?_,q⟩;by_cases hj:j>i
 ·rw[if_pos hj,if_pos hj];exact⟨_,rfl⟩
 ·rw[if_neg hj,if_neg hj];exact⟨_,rfl⟩
theorem zft(hc:X.aj=true):cX X (.builtin "min") (λxs H Q=>∃i j,xs=[.int i,.int j]/\Q (.int (if j<i then j else i)) H):=by
 intro ao s Z H xs us Q I r h;obtain⟨i,j,rfl,q⟩:=h;obtain⟨u,w',rfl,⟨t,rfl⟩,⟨t',rfl⟩⟩:=vals2 r;refine min_two_ints (I.ok.hd hc) λh' tk k=>⟨_,H,I.kept k,?_,q⟩;by_cases hj:j<i
 ·rw[if_pos hj,if_pos hj];exact⟨_,rfl⟩
 ·rw[if_neg hj,if_neg hj];exact⟨_,rfl⟩
theorem zg8:cX X (.type "int") (λxs H Q=>(∃i,xs=[.int i]/\Q (.int i) H)\/∃k,xs=[.bl k]/\Q (.int (if k then 1 else 0)) H):=by
 intro ao s Z H xs us Q I r h;rcases h with ⟨i,rfl,q⟩|⟨k,rfl,q⟩
 ·obtain⟨u,rfl,t,rfl⟩:=vals1 r;exact call_int_int ⟨.int i,H,I,⟨_,rfl⟩,q⟩
 ·obtain⟨u,rfl,r1⟩:=vals1 r;cases r1;exact call_int_bool ⟨.int (if k then 1 else 0),H,I.tok _,⟨_,rfl⟩,q⟩
theorem zdO:cX X (.builtin "divmod") (λxs H Q=>∃i j,xs=[.int i,.int j]/\wR i j/\∀p,H p=none->Q (.ref p) (upd H p (.tup [.int (i/j),.int (i%j)]))):=by
 intro ao s Z H xs us Q I r h;obtain⟨i,j,rfl,⟨h1,h2⟩,q⟩:=h;obtain⟨u,w',rfl,⟨t,rfl⟩,⟨t',rfl⟩⟩:=vals2 r;refine divmod_int (by lia) ?_ (.inl (PyProof.noPylong_small (by lia)));rw[Int.fdiv_eq_ediv_of_nonneg i (by lia),Int.fmod_eq_emod_of_nonneg i (by lia)];have hn:H s.heap.objs.size=none:=I.hok.fresh (bO _);refine⟨.ref s.heap.objs.size,_,?_,rfl,q _ hn⟩;refine I.laid (λb o e=>bY _ e) (bO _) ⟨by simp only[fK,yK];rw[qJ];decide,[.int (i/j) s.toks,.int (i%j) (s.toks+1)],.cons ⟨_,rfl⟩ (.cons ⟨_,rfl⟩ .nil),?_⟩;exact⟨_,fO s.heap rfl,rfl,0,rfl⟩
end
structure pO(h:Heap)(x dx C:Addr)(mA:Str->Option Value):Prop where
 obj:h.get? x=some (PySem.W.instObj C dx)
 ns:h.Ns1 dx mA
 ne:dx≠x
theorem zf5{h:Heap}{dx:Addr}{mA:Str->Option Value}(n:h.Ns1 dx mA):∃od,h.get? dx=some od/\∀name,PySem.W.lookIn name od=some (mA name):=by
 obtain⟨o,es,ep,ho,hd,hk,_,hm⟩:=n;refine⟨o,ho,λname=>?_⟩;have e:=hm name;unfold nsFind findBy at e;rw[<-Array.find?_toList] at e;unfold PySem.W.lookIn;rw[hd];dsimp only
 split
 ·rename_i y q;rw[q] at e;exact nF some e
 ·rename_i q;rw[q] at e;have a:es.toList.any (·.refKey)=false:=by
   rw[List.any_eq_false];intro y hy;obtain⟨z,t,Qx⟩:=hk y (Array.mem_toList_iff.mp hy);simp[DictEntry.refKey,Qx]
  have a':¬es.toList.any (·.refKey)=true:=by rw[a];exact Ga
  rw[if_neg a'];exact nF some e
theorem pO.look{h:Heap}{x dx C:Addr}{mA:Str->Option Value}(I:pO h x dx C mA):∃od,PySem.W.InstAt h x (PySem.W.instObj C dx) C (some od)/\∀name,PySem.W.lookIn name od=some (mA name):=
 let ⟨od,ho,hl⟩:=zf5 I.ns
 ⟨od,⟨I.obj,rfl,rfl,ho⟩,hl⟩
section
variable {prog:Program}{w:World}{A:Around}{E:Value->Shared->Prop}{s:Shared}{K:W.Frag}{x dx C f:Addr}{mA:Str->Option Value}{name:Str}{v:Value}
theorem zjP{expr:Bool}{Q:Value->Shared->Prop}(X:K.In s.heap)(I:pO s.heap x dx C mA)(hg:PySem.W.plainGet K C name=true)(hh:PySem.W.hasDictIn K C=true)
  (ha:PySem.W.findIn K (.ref C) name=some none) (hv:mA name=some v) (Qy:PySem.W.handedIn v=true) (h:Q v {s with toks:=s.toks+1}) :
  wpAny (model prog w) A (getAttr (.ref x) name expr) Q E s:=by
 obtain⟨od,bR,hl⟩:=I.look;exact PySem.W.get_value X bR (Pu hg).1 (PySem.W.findObj_own hh ha rfl (by rw[hl,hv])) Qy h
theorem zh1{pl:Sem Bool}{Q:Value×List Value->Shared->Prop}(X:K.In s.heap)(I:pO s.heap x dx C mA)(hg:PySem.W.plainGet K C name=true)
  (hf:PySem.W.findIn K (.ref C) name=some (some (.ref f))) (ht:PySem.W.isFn K (.ref f)=true) (hv:mA name=none) (h:Q (.ref f,[.ref x]) s) :
  wpAny (model prog w) A (getMethod (.ref x) name pl) Q E s:=by
 obtain⟨od,bR,hl⟩:=I.look;exact PySem.W.method_fn X bR (Pu hg).1 (Pu hg).2 hf (fL.mp ht) (by show (PySem.W.lookIn name od).map (·.isSome)=some false;rw[hl,hv];rfl) h
theorem zjw{ns:List Str}{Q:Unit->Shared->Prop}(X:K.In s.heap)(I:pO s.heap x dx C mA)
  (hs:PySem.W.findIn K (.ref C) "__setattr__"=some (some (.builtin "object.__setattr__"))) (hp:PySem.W.plainOver K C=true) (ht:PySem.W.takerIn K C name=some none) (hh:PySem.W.hasDictIn K C=true)
  (hw:PySem.Within mA ns) (hsz:ns.length<=sizeLine)
  (h:∀h',pO h' x dx C (λy=>if y=name then some v else mA y)->Heap.SameBut dx s.heap h'->Q () {s with heap:=h',toks:=s.toks+2}) :
  wpAny (model prog w) A (setAttr (.ref x) name v) Q E s:=by
 obtain⟨od,bR,hl⟩:=I.look;refine PySem.W.set_plain X bR hs (PySem.W.osa_open (s:={s with toks:=s.toks+1}) (r:=none) X bR hp ht λb=>?_);obtain⟨cd,hc,Bc⟩:=PySem.W.any_some hh;have hx:s.heap.get? x=some ⟨.ref C,some dx,.plain,#[]⟩:=I.obj;refine aB (aR (aB (aB (wpAny_loadPart hx (aB (PySem.W.Looks.here (s:={s with toks:=s.toks+1}) (PySem.W.looks_clsIn X hc) ?_))))));rw[Bc];refine aR (a:=some dx) (aB (aR (aB ?_)));refine wpAny_nsSet1 (s:={s with toks:=s.toks+1}) I.ns λh' hn2 v7=>?_;obtain⟨oD,esD,epD,G9,G_,Hg⟩:=hn2.count (PySem.Within.cons name v hw);refine aB (wpAny_lookBehind G9 (by rw[G_];exact pastItsLine_dict (kI Hg (by rw[fK];lia))) ?_);exact aR (h _ ⟨(v7.2 _ (Ne.symm I.ne)).trans I.obj,hn2,I.ne⟩ v7)
theorem zio{R:Result->Shared->Prop}{vs:List Value}{kw:List (Str×Value)}(X:K.In s.heap)(hm:PySem.W.makesIn K C=true)
  (hi:PySem.W.findIn K (.ref C) "__init__"=some (some (.ref f))) (hf:PySem.W.typeIn K (.ref f)=some (.type "function"))
  (h:codeAny (model prog w) (A.under (.builtin "type.__call__" ⟨.ref C::vs,kw⟩)) (.call (.ref f) ⟨.ref (s.heap.objs.size+1)::vs,kw⟩) (PySem.W.InitBack (s.heap.objs.size+1) R)
   {s with heap:=(s.heap.push PySem.W.emptyDict).push (PySem.W.instObj C s.heap.objs.size)}) :
  codeAny (model prog w) A (.call (.ref C) ⟨vs,kw⟩) R s:=by
 obtain⟨hh,g,d,t,os⟩:=s;exact PySem.W.make_core (PySem.W.makes_of X hm) (PySem.W.looks_findIn X hi) (λself=>PySem.W.bind_fn X self hf) (.inl rfl) h
end
noncomputable def fG(f:Str)(v:V):List (Str×V)->List (Str×V)
 |[]=>[(f,v)]
 |(g,x)::r=>if g=f then (g,v)::r else (g,x)::fG f v r
theorem Xg(f g:Str)(v:V):∀fs:List (Str×V),(fG f v fs).lookup g=if g=f then some v else fs.lookup g
 |[]=>by
  show List.lookup g [(f,v)]=_;by_cases h:g=f
  ·have hb:(g==f)=true:=fL.mpr h;simp only[List.lookup,hb,if_pos h]
  ·have hb:(g==f)=false:=yF.mpr h;simp only[List.lookup,hb,if_neg h]
 |(k,x)::r=>by
  have ih:=Xg f g v r;rw[show fG f v ((k,x)::r)=(if k=f then (k,v)::r else (k,x)::fG f v r) from rfl];by_cases hk:k=f
  ·rw[if_pos hk];by_cases h:g=k
   ·have hb:(g==k)=true:=fL.mpr h;simp only[List.lookup,hb,if_pos (h.trans hk)]
   ·have hb:(g==k)=false:=yF.mpr h;simp only[List.lookup,hb,if_neg (λe:g=f=>h (e.trans hk.symm))]
  ·rw[if_neg hk];by_cases h:g=k
   ·have hb:(g==k)=true:=fL.mpr h;simp only[List.lookup,hb,if_neg (λe:g=f=>hk (h.symm.trans e))]
   ·have hb:(g==k)=false:=yF.mpr h;simp only[List.lookup,hb];exact ih
theorem Qz(f:Str)(v:V):∀fs:List (Str×V),f∈(fG f v fs).map (·.1)/\∀g,g∈fs.map (·.1)->g∈(fG f v fs).map (·.1)
 |[]=>⟨by simp[fG],λg h=>by simp at h⟩
 |(k,x)::r=>by
  obtain⟨i1,i2⟩:=Qz f v r;rw[show fG f v ((k,x)::r)=(if k=f then (k,v)::r else (k,x)::fG f v r) from rfl];by_cases hk:k=f
  ·rw[if_pos hk];subst hk;exact⟨by simp,λg h=>by simpa using h⟩
  ·rw[if_neg hk];refine⟨?_,λg h=>?_⟩
   ·rw[iU];exact gb _ i1
   ·rw[iU] at h ⊢;rcases gY.mp h with e|e
    ·exact gY.mpr (.inl e)
    ·exact gb _ (i2 g e)
theorem Xh(f:Str)(v:V):∀fs:List (Str×V),(fG f v fs).length<=fs.length+1
 |[]=>by simp[fG]
 |(k,x)::r=>by
  have ih:=Xh f v r;rw[show fG f v ((k,x)::r)=(if k=f then (k,v)::r else (k,x)::fG f v r) from rfl];by_cases hk:k=f
  ·rw[if_pos hk,fK,fK];lia
  ·rw[if_neg hk,fK,fK];lia
theorem Kaf{v:V}{o:Option Value}(r:pL (some v) o):∃u,o=some u/\RelV v u:=by
 cases o with
 |none=>exact(show False from r).elim
 |some u=>exact⟨u,rfl,r⟩
theorem Kae{o:Option Value}(r:pL none o):o=none:=by
 cases o with
 |none=>rfl
 |some u=>exact(show False from r).elim
theorem zgS{v:V}{u:Value}(r:RelV v u):PySem.W.handedIn u=true:=by
 cases v with
 |non=>cases (show u=Value.none from r);rfl
 |bl b=>cases (show u=Value.bool b from r);rfl
 |int i=>obtain⟨t,e⟩:=(show ∃t,u=Value.int i t from r);cases e;rfl
 |str x=>obtain⟨t,e⟩:=(show ∃t,u=Value.str x t from r);cases e;rfl
 |A_ b=>obtain⟨t,e⟩:=(show ∃t,u=Value.bytes b t from r);cases e;rfl
 |flt b=>obtain⟨t,e⟩:=(show ∃t,u=Value.float b t from r);cases e;rfl
 |ref a=>cases (show u=Value.ref a from r);rfl
 |ty n=>cases (show u=Value.type n from r);rfl
section
variable {P:Program}{w:World}{H H':Hp}{h h':Heap}{a C dx:Addr}{fs fs':List (Str×V)}
theorem QB(hok:gK P w H h)(e:H a=some (.ins C dx fs)):∃mA,pO h a dx C mA/\(∀f,pL (fs.lookup f) (mA f))/\PySem.Within mA (fs.map (·.1))/\fs.length<=1000/\H dx=some (.own a):=by
 obtain⟨d,z,ne,ob,mA,n,r,q⟩:=(show aU P w H h a (.ins C dx fs) from hok a _ e);exact⟨mA,⟨ob,n,ne⟩,r,q,z,d⟩
end
structure Cls(K:W.Frag)(C:Addr):Prop where
 pg:PySem.W.plainGet K C Str.empty=true
 hd:PySem.W.hasDictIn K C=true
 po:PySem.W.plainOver K C=true
 sa:PySem.W.findIn K (.ref C) "__setattr__"=some (some (.builtin "object.__setattr__"))
theorem Cls.get{K:W.Frag}{C:Addr}(c:Cls K C)(f:Str):PySem.W.plainGet K C f=true:=c.pg
def gM(K:W.Frag)(C:Addr)(f:Str):Prop:=PySem.W.findIn K (.ref C) f=some none
theorem gM.taker{K:W.Frag}{C:Addr}{f:Str}(n:gM K C f):PySem.W.takerIn K C f=some none:=by
 unfold PySem.W.takerIn;rw[show PySem.W.findIn K (.ref C) f=some none from n];rfl
structure Meth(K:W.Frag)(C:Addr)(m:Str)(f:Addr):Prop where
 at_:PySem.W.findIn K (.ref C) m=some (some (.ref f))
 fn:PySem.W.isFn K (.ref f)=true
 kp:PySem.W.keepIn K (.ref f)=true
section
variable {X:Cx}{ao:List (Addr×Obj)}{Z:St}{H:Hp}{s:Shared}{a C dx:Addr}{fs:List (Str×V)}{f:Str}{v:V}{A:Around}{E:Value->Shared->Prop}
theorem ze9{b:Bool}{Q:Value->Shared->Prop}(I:Inv X ao Z H s)(e:H a=some (.ins C dx fs))(c:Cls X.K C)(n:gM X.K C f)(l:fs.lookup f=some v)
  (h:∀u s',Inv X ao Z H s'->RelV v u->Q u s'):wpAny (model X.prog X.w) A (getAttr (.ref a) f b) Q E s:=by
 obtain⟨mA,O,r,_,_,_⟩:=QB I.hok e;obtain⟨u,hu,ru⟩:=Kaf (v:=v) (o:=mA f) (by rw[<-l];exact r f);exact zjP I.kZ O (c.get f) c.hd n hu (zgS ru) (h u _ (I.tok _) ru)
theorem ze3{m:Str}{g:Addr}{pl:Sem Bool}{Q:Value×List Value->Shared->Prop}(I:Inv X ao Z H s)(e:H a=some (.ins C dx fs))(c:Cls X.K C)(k:Meth X.K C m g)(l:fs.lookup m=none)
  (h:Q (.ref g,[.ref a]) s):wpAny (model X.prog X.w) A (getMethod (.ref a) m pl) Q E s:=by
 obtain⟨mA,O,r,_,_,_⟩:=QB I.hok e;have hn:mA m=none:=Kae (by rw[<-l];exact r m);exact zh1 I.kZ O (c.get m) k.at_ k.fn hn h
theorem zfh{y:V}{u:Value}{Q:Unit->Shared->Prop}(I:Inv X ao Z H s)(e:H a=some (.ins C dx fs))(c:Cls X.K C)(n:gM X.K C f)(hl:fs.length<1000)(ry:RelV y u)
  (h:∀s',Inv X ao Z (upd H a (.ins C dx (fG f y fs))) s'->Q () s'):wpAny (model X.prog X.w) A (setAttr (.ref a) f u) Q E s:=by
 obtain⟨mA,O,r,wi,_,ho⟩:=QB I.hok e;have hz:(fs.map (·.1)).length<=sizeLine:=by rw[cg,qJ];lia
 refine zjw I.kZ O c.sa c.po n.taker c.hd wi hz λh' O' sb=>h _ ?_;have hd:∃o,h'.get? dx=some o:=let ⟨o,_,_,e',_⟩:=O'.ns;⟨o,e'⟩;refine I.write (x:=a) (e:=dx) (by rw[e];exact True.intro) (.inr ho) (λb q hb z=>(sb.2 b hb).trans z) hd ?_;refine⟨by rw[cW O.ne];exact ho,?_,O.ne,O'.obj,_,O'.ns,λg=>?_,λg hg=>?_⟩
 ·have:=Xh f y fs;lia
 ·show pL ((fG f y fs).lookup g) (if g=f then some u else mA g);rw[Xg];by_cases q:g=f
  ·rw[if_pos q,if_pos q];exact ry
  ·rw[if_neg q,if_neg q];exact r g
 ·by_cases q:g=f
  ·rw[q];exact(Qz f y fs).1
  ·refine(Qz f y fs).2 g (wi g λz=>hg ?_);show (if g=f then some u else mA g)=none;rw[if_neg q];exact z
theorem Inv.made(I:Inv X ao Z H s):Inv X ao Z (upd (upd H s.heap.objs.size (.own (s.heap.objs.size+1))) (s.heap.objs.size+1) (.ins C s.heap.objs.size []))
  {s with heap:=(s.heap.push PySem.W.emptyDict).push (PySem.W.instObj C s.heap.objs.size)}:=by
 have e1:(s.heap.push PySem.W.emptyDict).get? s.heap.objs.size=some PySem.W.emptyDict:=fO s.heap rfl;have e2:((s.heap.push PySem.W.emptyDict).push (PySem.W.instObj C s.heap.objs.size)).get? (s.heap.objs.size+1)=some (PySem.W.instObj C s.heap.objs.size):=by
  have:=fO (s.heap.push PySem.W.emptyDict) (o:=PySem.W.instObj C s.heap.objs.size) rfl
  rwa [sX] at this
 have e3:(s.heap.push PySem.W.emptyDict).Ns s.heap.objs.size (λ_=>none):=⟨PySem.W.emptyDict,#[],_,e1,rfl,(λe he=>absurd he (by simp)),λ_=>rfl⟩;have I1:=I.laid (a:=s.heap.objs.size) (o:=.own (s.heap.objs.size+1)) (h':=s.heap.push PySem.W.emptyDict) (t':=s.toks) (λb u q=>bY _ q) (bO _) ⟨_,e1⟩;refine I1.laid (a:=s.heap.objs.size+1) (o:=.ins C s.heap.objs.size []) (t':=s.toks) (λb u q=>bY _ q) (Nat.le_of_eq (sX _ _)) ?_;have ne:s.heap.objs.size≠s.heap.objs.size+1:=dw (Gd _);refine⟨by rw[cW ne,iV],vV _,ne,e2,λ_=>none,(Heap.Ns1.of_empty e3).at λo q=>bY _ q,λ_=>True.intro,λy hy=>absurd rfl hy⟩
theorem zjR{prog:Program}{w:World}{env:Env}{e:Expr}{f:Str}{pos:Pos}{s:Shared}{Q:Value->Shared->Prop}(hb:attributeBase e f env (eval e env)=eval e env)
  (h:wpAny (model prog w) A (eval e env) (λo s₁=>wpAny (model prog w) A (getAttr o f true) Q E s₁) E s):wpAny (model prog w) A (eval (.Attribute e f pos) env) Q E s:=
 Attribute_any_ h (by rw[arm_eval_Attribute,hb])
end
noncomputable def QC(K:W.Frag)(ta:TE)(f:Str):TE:=λZ H Q=>ta Z H λx H1=>∃a C dx fs v,x=.ref a/\H1 a=some (.ins C dx fs)/\Cls K C/\gM K C f/\fs.lookup f=some v/\Q v H1
noncomputable def QD(K:W.Frag)(ta tv:TE)(f:Str):TS:=λD Z H=>tv Z H λy H1=>ta Z H1 λx H2=>∃a C dx fs,x=.ref a/\H2 a=some (.ins C dx fs)/\Cls K C/\gM K C f/\fs.length<1000 /\
 D.nx Z (upd H2 a (.ins C dx (fG f y fs)))
section
variable {X:Cx}{o e value:Expr}{f:Str}{pos pos' tpos:Pos}{ta tv:TE}
theorem zmV(he:PE X e ta)(hb:attributeBase e f X.env (eval e X.env)=eval e X.env):PE X (.Attribute e f pos) (QC X.K ta f):=by
 intro ao s Z H Q I h;refine zjR hb (bf (he ao s Z H _ I h) λu s1 ⟨x,H1,I1,rx,a,C,dx,fs,v,ex,ea,c,n,l,q⟩=>?_);subst ex;obtain rfl:u=Value.ref a:=rx;exact ze9 I1 ea c n l λu' s2 I2 ru=>⟨v,H1,I2,ru,q⟩
theorem zmI(ha:PE X o ta)(hv:PE X value tv)(hs:swapsWith value (some (.Attribute o f pos')) pos.line X.env=pure false):PS X (.Assign [.Attribute o f pos'] value pos) (QD X.K ta tv f):=by
 intro ao s Z H D I h;refine O6 (bf (hv ao s Z H _ I h) λu s1 hx=>eE hx λy H1 I1 ry q=>bf (ha ao s1 Z H1 _ I1 q) λov s2 ⟨x,H2,I2,rx,a,C,dx,fs,ex,ea,c,n,l,q2⟩=>?_) hs;subst ex;obtain rfl:ov=Value.ref a:=rx;exact zfh I2 ea c n l ry λs3 I3=>⟨Z,_,I3,q2⟩
end
section
variable {X:Cx}{ao:List (Addr×Obj)}{Z:St}{H:Hp}{s:Shared}{A:Around}{E:Value->Shared->Prop}{Q:Value->Shared->Prop}{c:Value}{b:Bool}
end
structure bA(k:Nat)(A:Around):Prop where
 dp:A.depth+3*k+5<recursionLimit
 un:A.units+16*k+200<cLine
 gd:A.guards=some []
theorem bA.deeper{k:Nat}{A:Around}(r:bA (k+1) A)(env:Env):bA k (A.deeper env):=
 ⟨by have:=r.dp;show A.depth+1+3*k+5<_;lia,by have:=r.un;show A.units+3+16*k+200<_;lia,r.gd⟩
theorem ze5{A:Around}{C:Addr}{us:List Value}{kw:List (Str×Value)}:(A.under (.builtin "type.__call__" ⟨.ref C::us,kw⟩)).depth=A.depth+1:=by
 first|rfl|simp[Around.under,Code.weight,Code.isCreation,Code.isGuard,Code.isCaller,Code.frames,Code.isFrame,guardIds]
theorem zeP{A:Around}{C:Addr}{us:List Value}{kw:List (Str×Value)}:(A.under (.builtin "type.__call__" ⟨.ref C::us,kw⟩)).units=A.units+1:=by
 first|rfl|simp[Around.under,Code.cUnits,Code.frames,Code.isFrame]
theorem bA.depth{k:Nat}{A:Around}(r:bA k A):A.depth<recursionLimit:=by have:=r.dp;lia
noncomputable def QF:TA:=λ_ H Q=>Q [] H
noncomputable def Hj(ta:TE)(tr:TA):TA:=λZ H Q=>ta Z H λx H1=>tr Z H1 λxs H2=>Q (x::xs) H2
section
variable {X:Cx}{e:Expr}{es:List Expr}{te:TE}{t:TA}{pos:Pos}
theorem Bs:PA X [] QF:=λ_ _ _ _ H Q I h=>Calls.spliced_nil ⟨[],H,I,.nil,h⟩
theorem v8(ha:PE X e te)(hr:PA X es t)(hs:starEach (e::es) X.env=(false,eval e X.env)::starEach es X.env:=by rfl):PA X (e::es) (Hj te t):=by
 intro pos ao s Z H Q I h;rw[hs];show wpAny _ _ (spliced ((false,eval e X.env)::backTo pos (starEach es X.env))) _ _ s;refine Calls.spliced_cons (bf (ha ao s Z H _ I h) λu s1 hx=>eE hx λx H1 I1 r1 q1=>?_);exact bf (hr pos ao s1 Z H1 _ I1 q1) λus s2 hx=>eE hx λxs H2 I2 r2 q2=>⟨x::xs,H2,I2,.cons r1 r2,q2⟩
noncomputable def QG(t:TA):TE:=λZ H Q=>t Z H λxs H1=>xs.length<=sizeLine/\∀p,H1 p=none->Q (.ref p) (upd H1 p (.tup xs))
noncomputable def QJ(t:TA):TE:=λZ H Q=>t Z H λxs H1=>xs.length<=sizeLine/\∀p,H1 p=none->Q (.ref p) (upd H1 p (.lst xs))
theorem zmO{x1}(h:PA X es t):PE X (.Tuple es x1 pos) (QG t):=by
 intro ao s Z H Q I hq;refine wpAny_Tuple_spliced (bf (h pos ao s Z H _ I hq) λus s1 ⟨xs,H1,I1,r,z,q⟩=>⟨by rw[<-r.length];exact z,?_⟩);have hf:H1 s1.heap.objs.size=none:=I1.hok.fresh (bO _);refine⟨.ref s1.heap.objs.size,upd H1 s1.heap.objs.size (.tup xs),I1.laid (t':=s1.toks) (λb u e=>bY _ e) (bO _) ?_,rfl,q _ hf⟩;exact⟨z,us,r,⟨_,fO _ rfl,rfl,_,rfl⟩⟩
theorem zmg(h:PA X es t):PE X (.List es pos) (QJ t):=by
 intro ao s Z H Q I hq;refine wpAny_List_spliced (bf (h pos ao s Z H _ I hq) λus s1 ⟨xs,H1,I1,r,z,q⟩=>⟨by rw[<-r.length];exact z,?_⟩);have hf:H1 s1.heap.objs.size=none:=I1.hok.fresh (bO _);refine⟨.ref s1.heap.objs.size,upd H1 s1.heap.objs.size (.lst xs),I1.laid (t':=s1.toks) (λb u e=>bY _ e) (bO _) ?_,rfl,q _ hf⟩;exact⟨z,us,0,r,fO _ rfl⟩
end
noncomputable abbrev Sp:=List V->Hp->VK->XK->Prop
noncomputable abbrev sZ:=List Env->Hp->Shared->XK->Value->Shared->Prop
structure pP(P:Program)(w:World)(K:W.Frag)(mg:Str->Option Value)(base:Heap)(A:Around)(outer:List Env)(s:Shared)(H:Hp):Prop where
 frames:A.frames=some outer
 mod:Mod K mg base
 bs:∀b o,base.get? b=some o->s.heap.get? b=some o/\H b=none
 wK:base.objs.size<=s.heap.objs.size
 ju:s.heap.FunFrames base outer
 Bb:∀b∈frs outer,H b=none
 hok:gK P w H s.heap
 bare:AllBare s.gens
def CE(outer:List Env)(P:Program)(w:World)(H:Hp)(s:Shared)(Q:VK)(u:Value)(s':Shared):Prop:=
 ∃v H',s'.os=s.os/\AllBare s'.gens/\Un (frs outer) [] H H' s.heap s'.heap/\gK P w H' s'.heap/\RelV v u/\Q v H'
def CR(CX:sZ)(outer:List Env)(P:Program)(w:World)(H:Hp)(s:Shared)(Q:VK)(E:XK)(r:Result)(s':Shared):Prop:=
 match r with
 |.ok (.ret u)=>CE outer P w H s Q u s'
 |.ok _=>False
 |.error e=>CX outer H s E e s'
structure cB(P:Program)(w:World)(K:W.Frag)(mg:Str->Option Value)(base:Heap)(CX:sZ)(cm:Bool)(k:Nat)(f:Addr)(fd:FuncData)(ps:List Str)(sp:Sp):Prop where
 len:∀vs H Q E,sp vs H Q E->vs.length=ps.length
 run:∀(A:Around) (outer:List Env) (s:Shared) (H:Hp) (args:Args) (us:List Value) (vs:List V) (Q:VK) (E:XK),(cm=true->A.handled=none)->bA k A->pP P w K mg base A outer s H->BindsTo s fd args (ps.zip us)->Vals vs us->sp vs H Q E->
  codeAny (model P w) A (.call (.ref f) args) (CR CX outer P w H s Q E) s
theorem cB.imp{P:Program}{w:World}{K:W.Frag}{mg:Str->Option Value}{base:Heap}{CX:sZ}{cm:Bool}{k:Nat}{f:Addr}{fd:FuncData}{ps:List Str}{sp Xi:Sp}(F:cB P w K mg base CX cm k f fd ps sp)
  (h:∀vs H Q E,Xi vs H Q E->sp vs H Q E):cB P w K mg base CX cm k f fd ps Xi:=
 ⟨λvs H Q E q=>F.len vs H Q E (h _ _ _ _ q),λA outer s H args us vs Q E jw hr he hb hv hs=>F.run A outer s H args us vs Q E jw hr he hb hv (h _ _ _ _ hs)⟩
theorem pP.make{P:Program}{w:World}{K:W.Frag}{mg:Str->Option Value}{base:Heap}{A:Around}{outer:List Env}{s:Shared}{H:Hp}(e:pP P w K mg base A outer s H)(C:Addr)(us:List Value)(kw:List (Str×Value)) :
  pP P w K mg base (A.under (.builtin "type.__call__" ⟨.ref C::us,kw⟩)) outer s H:=⟨by first|exact e.frames|(simpa [Around.under,Code.envs,Code.isFrame,pushEnvs] using e.frames),e.mod,e.bs,e.wK,e.ju,e.Bb,e.hok,e.bare⟩
section
variable {X:Cx}{ao:List (Addr×Obj)}{Z:St}{H:Hp}{s s':Shared}
theorem Inv.env0(I:Inv X ao Z H s):pP X.prog X.w X.K X.mg X.base X.A X.stack s H:=
 ⟨I.ok.frames,I.ok.mod,I.bs,kI I.ok.wK I.sz,I.stack,I.jH,I.hok,I.bare⟩
theorem Inv.after{Q:VK}{u:Value}(I:Inv X ao Z H s)(h:CE X.stack X.prog X.w H s Q u s'):EP X ao Z Q u s':=by
 obtain⟨v,H',os,bare,un,hok,r,q⟩:=h;obtain⟨hh,g,d,t,os'⟩:=s';obtain rfl:os'=s.os:=os;exact⟨v,H',I.call (h':=hh) (g':=g) (d':=d) (t':=t) (ch:=[]) un hok bare (λb z=>absurd z (by simp)),r,q⟩
end
noncomputable def Hl(C:Addr)(m:Str)(sp:Sp)(n8:List V)(E:XK)(ta:TE)(t:TA):TE:=λZ H Q=>ta Z H λx H1=>∃a dx fs,x=.ref a/\H1 a=some (.ins C dx fs)/\fs.lookup m=none /\
 t Z H1 λvs H2=>sp (x::(vs++n8)) H2 Q E
noncomputable def Ho(C:Addr)(sp:Sp)(n8:List V)(E:XK)(t:TA):TE:=λZ H Q=>t Z H λvs H1=>∀x dx,H1 x=none->H1 dx=none->dx≠x->
 sp (.ref x::(vs++n8)) (upd (upd H1 dx (.own x)) x (.ins C dx [])) (λv H2=>v=.non/\Q (.ref x) H2) E
def Binds(K:W.Frag)(fd:FuncData)(ps:List Str)(ds:List Value):Prop:=
 ∀(s:Shared) (us:List Value),K.In s.heap->(us++ds).length=ps.length->BindsTo s fd ⟨us,[]⟩ (ps.zip (us++ds))
theorem Binds.all{K:W.Frag}{fd:FuncData}{ps:List Str}(h:∀us:List Value,us.length=ps.length->bindArgs fd ⟨us,[]⟩=pure (ps.zip us)):Binds K fd ps []:=λs us _ hl=>by
 rw[yL] at hl ⊢;exact .of_eq (h us hl)
def Passes(CX:sZ)(X:Cx)(E:XK):Prop:=∀(ao:List (Addr×Obj)) (Z:St) (H:Hp) (s:Shared) (e:Value) (s':Shared),Inv X ao Z H s->CX X.stack H s E e s'->X.xe e s'
section
variable {X:Cx}{CX:sZ}{cm:Bool}{k:Nat}{f C:Addr}{fd:FuncData}{ps:List Str}{sp:Sp}{n8:List V}{ds:List Value}{E:XK}{x m:Str}{p pos apos:Pos}{e o:Expr}{es:List Expr}{ta:TE}{t:TA}
theorem zlw{ao:List (Addr×Obj)}{Z:St}{H:Hp}{s:Shared}{Q:VK}{us:List Value}{vs:List V}(F:cB X.prog X.w X.K X.mg X.base CX cm k f fd ps sp)(jw:cm=true->X.aj=true)(hr:bA k X.A)(hb:Binds X.K fd ps ds)(hd:Vals n8 ds)(hx:Passes CX X E)
  (I:Inv X ao Z H s) (r:Vals vs us) (h:sp (vs++n8) H Q E):wpAny (model X.prog X.w) X.A (call (.ref f) us) (EP X ao Z Q) X.xe s:=by
 have r2:Vals (vs++n8) (us++ds):=r.append hd;have hl:(us++ds).length=ps.length:=by rw[<-r2.length];exact F.len _ _ _ _ h
 refine yO (DK (F.run X.A X.stack s H ⟨us,[]⟩ (us++ds) (vs++n8) Q E (λz=>I.ok.hd (jw z)) hr I.env0 (hb s us I.kZ hl) r2 h) λr s' hq=>?_);cases r with
 |error e=>exact hx ao Z H s e s' I hq
 |ok fl=>
  cases fl with
  |ret u=>exact I.after hq
  |next=>exact False.elim hq
  |brk=>exact False.elim hq
  |cont=>exact False.elim hq
theorem zkC{pl:Sem Bool}(he:PE X o ta)(c:Cls X.K C)(hm:Meth X.K C m f)(F:cB X.prog X.w X.K X.mg X.base CX cm k f fd ps sp)(jw:cm=true->X.aj=true)(hr:bA k X.A)(hb:Binds X.K fd ps ds)(hd:Vals n8 ds)(hx:Passes CX X E)(ha:PA X (e::es) t)
  (pB:starEach (e::es) X.env=(false,eval e X.env)::starEach es X.env:=by rfl) (hpl:(backTo pos (starEach es X.env)).any (·.1)=false:=by rfl)
  (ht:eval (.Call (.Attribute o m apos) (e::es) [] pos) X.env=(do
   let ov <-eval o X.env
   standAt apos.atName
   let (f,first) <-holding [ov] (getMethod ov m pl)
   callWith pos f first (backTo pos (starEach (e::es) X.env)) (backToKw pos (keywordEach [] X.env))):=by rfl) :
  PE X (.Call (.Attribute o m apos) (e::es) [] pos) (Hl C m sp n8 E ta t):=by
 intro ao s Z H Q I h;refine PySem.W.methodCall_KW (pl:=pl) (bf (he ao s Z H _ I h) λu s1 ⟨x,H1,I1,rx,a,dx,fs,ex,ea,l,q⟩=>?_) ht;subst ex;obtain rfl:u=Value.ref a:=rx;refine ze3 I1 ea c hm l ?_;refine Px (first:=[.ref a]) (h₀:=X.base) I.ok.mod.vX hm.kp (bf (ha pos ao s1 Z H1 _ I1 q) λus s2 ⟨vs,H2,I2,r,q2⟩=>⟨I2.kZ,?_⟩) pB hpl;exact zlw (us:=.ref a::us) (vs:=.ref a::vs) F jw hr hb hd hx I2 (.cons rfl r) q2
structure Mk(K:W.Frag)(C f:Addr):Prop where
 makes:PySem.W.makesIn K C=true
 init:PySem.W.findIn K (.ref C) "__init__"=some (some (.ref f))
 fn:PySem.W.isFn K (.ref f)=true
 kp:PySem.W.keepIn K (.ref C)=true
theorem zhM{ao:List (Addr×Obj)}{Z:St}{H:Hp}{s:Shared}{Q:VK}{us:List Value}{vs:List V}(M:Mk X.K C f)(F:cB X.prog X.w X.K X.mg X.base CX cm k f fd ps sp)(jw:cm=true->X.aj=true)(hr:∀us,bA k (X.A.under (.builtin "type.__call__" ⟨.ref C::us,[]⟩)))(hb:Binds X.K fd ps ds)(hd:Vals n8 ds)
  (hx:Passes CX X E) (I:Inv X ao Z H s) (r:Vals vs us)
  (h:∀x dx,H x=none->H dx=none->dx≠x->sp (.ref x::(vs++n8)) (upd (upd H dx (.own x)) x (.ins C dx [])) (λv H2=>v=.non/\Q (.ref x) H2) E) :
  wpAny (model X.prog X.w) X.A (call (.ref C) us) (EP X ao Z Q) X.xe s:=by
 have hq:=h (s.heap.objs.size+1) s.heap.objs.size (I.hok.fresh (DN _)) (I.hok.fresh (bO _)) (dw (Gd _));have I2:=Inv.made (C:=C) I;have r2:Vals (V.ref (s.heap.objs.size+1)::(vs++n8)) (Value.ref (s.heap.objs.size+1)::(us++ds)):=.cons rfl (r.append hd);have hl:(Value.ref (s.heap.objs.size+1)::us++ds).length=ps.length:=by
  have e:=r2.length;rw[F.len _ _ _ _ hq] at e;exact e.symm
 refine yO (zio (f:=f) I.kZ M.makes M.init (fL.mp M.fn) (DK (F.run _ X.stack _ _ ⟨Value.ref (s.heap.objs.size+1)::us,[]⟩ (Value.ref (s.heap.objs.size+1)::(us++ds)) _ _ E (λz=>I.ok.hd (jw z)) (hr us)
  (I2.env0.make C us []) (hb _ (Value.ref (s.heap.objs.size+1)::us) I2.kZ hl) r2 hq) λr s' Hq=>?_))
 cases r with
 |error e=>exact hx ao Z _ _ e s' I2 Hq
 |ok fl=>
  cases fl with
  |ret u=>
   obtain⟨v,H',I3,rv,ev,q3⟩:=I2.after Hq;subst ev;exact⟨rv,⟨V.ref (s.heap.objs.size+1),H',I3,rfl,q3⟩⟩
  |next=>exact False.elim Hq
  |brk=>exact False.elim Hq
  |cont=>exact False.elim Hq
theorem zjv(M:Mk X.K C f)(F:cB X.prog X.w X.K X.mg X.base CX cm k f fd ps sp)(jw:cm=true->X.aj=true)(hr:∀us,bA k (X.A.under (.builtin "type.__call__" ⟨.ref C::us,[]⟩)))(hg:Gl X x)(hm:X.mg x=some (.ref C))(hb:Binds X.K fd ps ds)(hd:Vals n8 ds)(hx:Passes CX X E)
  (ha:PA X (e::es) t) (jx:(x==("__debug__" : Str))=false:=by decide) (he:starEach (e::es) X.env=(false,eval e X.env)::starEach es X.env:=by rfl) (hpl:(backTo pos (starEach es X.env)).any (·.1)=false:=by rfl) :
  PE X (.Call (.Name x p) (e::es) [] pos) (Ho C sp n8 E t):=by
 intro ao s Z H Q I h;refine Dt (Ef I hg hm ?_ jx);refine Px (h₀:=X.base) I.ok.mod.vX M.kp (bf (ha pos ao s Z H _ I h) λus s1 ⟨vs,H1,I1,r,q⟩=>⟨I1.kZ,?_⟩) he hpl;exact zhM M F jw hr hb hd hx I1 r q
end
section
variable {X:Cx}{CX:sZ}{cm:Bool}{k:Nat}{f C:Addr}{fd:FuncData}{ps ks:List Str}{sp:Sp}{E:XK}{x m:Str}{p pos apos kpos:Pos}{e o:Expr}{es:List Expr}{kws:List Keyword}{te ta:TE}{t tk:TA}{nm:Option Str}
variable {g:List Value->List Value->List Value}{gV:List V->List V->List V}
end
structure dh(N P:List Str)(sc:Scope):Prop where
 kind:sc.kind=.function
 co:sc.isCoroutine=false
 gen:sc.isGenerator=false
 nd:N.Nodup
 pre:N.take P.length=P
 par:∀x∈P,sc.names.lookup x=some .local\/sc.names.lookup x=some .cell
 Bt:∀y∈sc.names,y.2≠.free
theorem Xj{kindOf:Str->Option NameKind}{x:Str}:∀{binds:List (Str×Value)} {m:Str->Option Value},(∀v,(x,v)∉binds)->bindL kindOf binds m x=m x
 |[],_,_=>rfl
 |(n,v)::r,m,h=>by
  unfold bindL;rw[Xj λw hw=>h w (gb _ hw)]
  split
  ·have:x≠n:=by rintro rfl;exact h v jF
   simp[this]
  ·rfl
theorem Xk{kindOf:Str->Option NameKind}{x:Str}:∀{binds:List (Str×Value)} {m:Str->Option Value},(∀v,(x,v)∉binds)->bindC kindOf binds m x=m x
 |[],_,_=>rfl
 |(n,v)::r,m,h=>by
  unfold bindC;rw[Xk λw hw=>h w (gb _ hw)]
  split
  ·rfl
  ·have:x≠n:=by rintro rfl;exact h v jF
   simp[this]
theorem zdt{kindOf:Str->Option NameKind}{x:Str}{v:Value}:∀{P:List Str} {vs:List Value} {i:Nat} {m:Str->Option Value},P.Nodup->P[i]?=some x->vs[i]?=some v->kindOf x=some .local->
  bindL kindOf (P.zip vs) m x=some v
 |[],_,_,_,_,h,_,_=>by simp at h
 |_::_,[],_,_,_,_,h,_=>by simp at h
 |p::P,w::vs,0,m,nd,h1,h2,hk=>by
  simp at h1 h2;subst h1;subst h2;show bindL kindOf ((p,w)::P.zip vs) m p=_;unfold bindL;rw[Xj λv hv=>(vP.mp nd).1 (Li hv).1,if_pos hk];simp
 |p::P,w::vs,i+1,m,nd,h1,h2,hk=>by
  show bindL kindOf ((p,w)::P.zip vs) m x=_;unfold bindL;exact zdt (i:=i) (vP.mp nd).2 (by simpa using h1) (by simpa using h2) hk
theorem Xl{kindOf:Str->Option NameKind}{x:Str}{v:Value}:∀{P:List Str} {vs:List Value} {i:Nat} {m:Str->Option Value},P.Nodup->P[i]?=some x->vs[i]?=some v->kindOf x≠some .local->
  bindC kindOf (P.zip vs) m x=some v
 |[],_,_,_,_,h,_,_=>by simp at h
 |_::_,[],_,_,_,_,h,_=>by simp at h
 |p::P,w::vs,0,m,nd,h1,h2,hk=>by
  simp at h1 h2;subst h1;subst h2;show bindC kindOf ((p,w)::P.zip vs) m p=_;unfold bindC;rw[Xk λv hv=>(vP.mp nd).1 (Li hv).1,if_neg hk];simp
 |p::P,w::vs,i+1,m,nd,h1,h2,hk=>by
  show bindC kindOf ((p,w)::P.zip vs) m x=_;unfold bindC;exact Xl (i:=i) (vP.mp nd).2 (by simpa using h1) (by simpa using h2) hk
noncomputable def start(N:List Str)(vs:List V):St:=vs.map some++List.replicate (N.length-vs.length) none
noncomputable def gq(CX:sZ)(P:Program)(w:World)(K:W.Frag)(mg:Str->Option Value)(base:Heap)(N:List Str)(qual:Str)(scope:Scope)(f:Addr)(cd:Value)(A:Around)(outer:List Env)(s:Shared)(H:Hp)(E:XK)(cm:Bool):Cx where
 prog:=P
 w:=w
 K:=K
 mg:=mg
 base:=base
 A:=A.deeper (envOfC qual scope s.heap.objs.size f cd)
 N:=N
 s₀:=s
 H₀:=H
 env:=envOfC qual scope s.heap.objs.size f cd
 outer:=outer
 stack:=envOfC qual scope s.heap.objs.size f cd::outer
 ex:=[]
 aj:=cm
 fn:=λ_=>true
 pn:=[]
 xe:=λe s'=>wpAny (model P w) (A.deeper (envOfC qual scope s.heap.objs.size f cd)) (leaving (envOfC qual scope s.heap.objs.size f cd) e) (λ_ s''=>CX outer H s E e s'') (λe' s''=>CX outer H s E e' s'') s'
theorem Xm{sc:Scope}{n:Nat}{x:Str}(h:sc.names.lookup x=some .cell):∃c,(cellsFrom n sc.names []).lookup x=some c:=by
 have q:=Pa sc.names n [] (.inl h);exact O7.mp q
theorem zgn{CX:sZ}{P:Program}{w:World}{K:W.Frag}{mg:Str->Option Value}{base:Heap}{N ps:List Str}{qual:Str}{scope:Scope}{f:Addr}{cd:Value}{A:Around}{outer:List Env}{s s1:Shared}{H:Hp}{E:XK}{us:List Value}{vs:List V}
  {cm:Bool} (S:dh N ps scope) (hd:cm=true->A.handled=none) (e0:pP P w K mg base A outer s H) (hl:vs.length=ps.length) (r:Vals vs us)
  (x:InCallC s s.heap.objs.size (bindL (envOfC qual scope s.heap.objs.size f cd).kindOf (ps.zip us) λ_=>none) (cellsFrom (s.heap.objs.size+1) scope.names []) (bindC (envOfC qual scope s.heap.objs.size f cd).kindOf (ps.zip us) λ_=>none) s1) :
  Inv (gq CX P w K mg base N qual scope f cd A outer s H E cm) [] (start N vs) H s1:=by
 have hpl:ps.length<=N.length:=by have:=nF List.length S.pre;rw[Ag] at this;lia
 obtain⟨h1,tk,rfl,hk⟩:=x.done;have Hr:∀b:Addr,b∉(gq CX P w K mg base N qual scope f cd A outer s H E cm).ex:=λb z=>absurd (show b∈([]:List Addr) from z) (by simp);refine⟨⟨e0.mod,S.kind,rfl,rfl,bO _,λy z c h1 h2=>?_,λy hy=>?_,λy c _ h=>?_,hd,Around.frames_deeper e0.frames,.inr ⟨rfl,rfl⟩,λb z=>absurd z (Hr b),e0.bs,e0.wK,λb _ _=>Hr b,λb z=>absurd z (Hr b),e0.ju,e0.Bb⟩,
  rfl,e0.bare,Un.kept hk,⟨_,x.toInCall.ns,λi y v h1 h2 h3=>?_⟩,λy c h=>⟨_,x.cell y c h⟩,e0.hok.fresh (bO _),λy c h=>?_,λp hp=>absurd (show p∈([]:List (Addr×Obj)) from hp) (by simp),e0.hok.kept hk,?_⟩
 ·exact name_of_addr x.apart (Dq h1) (Dq h2)
 ·have hy:scope.names.lookup y=some .cell\/scope.names.lookup y=some .free:=hy;rcases hy with hy|hy
  ·exact Xm hy
  ·exact absurd rfl (S.Bt _ (Dq hy))
 ·exact yN (x.above y c (Dq h))
 ·have hi:i<vs.length:=by
   unfold start at h2;by_cases hi:i<vs.length
   ·exact hi
   ·rw[qF (by simpa using hi)] at h2;rw[KR] at h2;split at h2<;>cases h2
  have ha:vs[i]?=some v:=by
   unfold start at h2;rw[nQ (by simpa using hi),iW] at h2;cases e:vs[i]? with
   |none=>rw[e] at h2;cases h2
   |some a=>rw[e] at h2;cases h2;rfl
  obtain⟨u,hu,rv⟩:=r.get ha;have hp:ps[i]?=some y:=by
   rw[<-S.pre,List.getElem?_take_of_lt (by lia)];exact h1
  have Xn:ps.Nodup:=by rw[<-S.pre];exact S.nd.sublist (List.take_sublist _ _)
  refine⟨u,rv,?_⟩;rcases S.par y (fZ hp) with k|k
  ·exact .inl ⟨k,zdt Xn hp hu k⟩
  ·obtain⟨c,e⟩:=Xm (n:=s.heap.objs.size+1) k;refine .inr ⟨.inl k,c,e,?_⟩;have q:=x.cell y c e;rw[Xl Xn hp hu (by show scope.names.lookup y≠_;rw[k];decide)] at q;exact q
 ·exact e0.hok.fresh (yN (x.above y c (Dq h)))
 ·unfold start;show _=N.length;rw[dG,cg,FQ]
  lia
theorem Xo{CX:sZ}{cm:Bool}{P:Program}{w:World}{K:W.Frag}{mg:Str->Option Value}{base:Heap}{k:Nat}{f:Addr}{name qual:Str}{params:Arguments}{body:List Stmt}{scope:Scope}{dV kV doc pm cdv ct oc:Value}{an od:Option Addr}
  {osl:Array (Option Value)} {N ps:List Str} {sp:Sp} (lk:K.lookup f=some ⟨oc,od,.func (PySem.W.fnOf name qual params body scope dV kV doc pm an cdv ct),osl⟩) (jJ:PySem.W.codeIn K cdv qual=true) (S:dh N ps scope)
  (len:∀vs H Q E,sp vs H Q E->vs.length=ps.length)
  (Hs:∀(A:Around) (outer:List Env) (s:Shared) (H:Hp) (vs:List V) (Q:VK) (E:XK),bA (k+1) A->sp vs H Q E->
   ∃t,nW (gq CX P w K mg base N qual scope f cdv A outer s H E cm) body t/\t {nx:=λ_ H'=>Q .non H',rt:=Q} (start N vs) H) :
  cB P w K mg base CX cm (k+1) f (PySem.W.fnOf name qual params body scope dV kV doc pm an cdv ct) ps sp:=by
 refine⟨len,λA outer s H args us vs Q E jw hr e0 hb r Mj=>?_⟩;have hl:=len _ _ _ _ Mj;have KX:K.In s.heap:=e0.mod.vX.keeps λb o e=>(e0.bs b o e).1;have lim:s.heap.NoLimit:=e0.mod.nolimit.keeps λb o e=>(e0.bs b o e).1;have Ht:∀y∈ps.zip us,scope.names.lookup y.1=some .local\/(scope.names.lookup y.1=some .cell/\((cellsFrom (s.heap.objs.size+1) scope.names []).lookup y.1).isSome=true):=λ⟨n,v⟩ hy=>by
  rcases S.par n (Li hy).1 with q|q
  ·exact .inl q
  ·exact .inr ⟨q,Pa _ _ _ (.inl q)⟩
 refine codeAny_call_function hr.depth (KX _ _ lk) rfl S.co S.gen rfl (PySem.W.codeRec_of KX jJ) (hb _ _ _ _ ?_);refine wpAny_newFunctionEnv_cells S.kind Ht λenv he s1 x=>?_;subst he;refine⟨lim.keeps x.toInCall.keep,codeAny_func ?_⟩;obtain⟨t,ht,hq⟩:=Hs A outer s H vs Q E hr Mj;have I:Inv (gq CX P w K mg base N qual scope f cdv A outer s H E cm) [] (start N vs) H s1:=zgn S jw e0 hl r x;refine gZ (ht [] s1 (start N vs) H _ I hq) (λfl s' hs=>?_) λe s' hs=>hs;have fin:∀{Z':St} {H':Hp} {v:V} {u:Value},Inv (gq CX P w K mg base N qual scope f cdv A outer s H E cm) [] Z' H' s'->RelV v u->Q v H'->CE outer P w H s Q u s':=
  λ{Z' H' v u} bR rv q=>⟨v,H',bR.os,bR.bare,bR.base,bR.hok,rv,q⟩
 cases fl with
 |ret u=>
  obtain⟨v,Z',H',bR,rv,q⟩:=hs;exact fin bR rv q
 |next=>
  obtain⟨Z',H',bR,q⟩:=hs;exact fin (v:=V.non) (u:=Value.none) bR rfl q
 |brk=>
  obtain⟨_,_,_,q⟩:=hs;exact False.elim q
 |cont=>
  obtain⟨_,_,_,q⟩:=hs;exact False.elim q
section
variable {X:Cx}{x:Str}{p pos:Pos}{e:Expr}{es:List Expr}{t:TA}{id T:String}{r:List V->Hp->VK->Prop}
noncomputable def QK(r:List V->Hp->VK->Prop)(t:TA):TE:=λZ H Q=>t Z H λvs H1=>r vs H1 Q
theorem Xp(hc:cX X (.builtin id) r)(hg:Gl X x)(hm:X.mg x=none)(hv:bootBuiltins x=some (.builtin id))(ha:PA X (e::es) t)(hn:x≠"__name__":=by decide)(jx:(x==("__debug__" : Str))=false:=by decide)
  (he:starEach (e::es) X.env=(false,eval e X.env)::starEach es X.env:=by rfl) (hpl:(backTo pos (starEach es X.env)).any (·.1)=false:=by rfl):PE X (.Call (.Name x p) (e::es) [] pos) (QK r t):=by
 intro ao s Z H Q I h;refine Dt (wO I hg hm hv ?_ hn jx);exact PyProof.Rows.callWith_builtin1 (bf (ha pos ao s Z H _ I h) λus s1 hx=>eE hx λvs H1 I1 r1 q1=>hc ao s1 Z H1 vs us Q I1 r1 q1) he hpl
theorem zf7(hc:cX X (.type T) r)(hg:Gl X x)(hm:X.mg x=none)(hv:bootBuiltins x=some (.type T))(ha:PA X (e::es) t)(hn:x≠"__name__":=by decide)(jx:(x==("__debug__" : Str))=false:=by decide)
  (he:starEach (e::es) X.env=(false,eval e X.env)::starEach es X.env:=by rfl) (hpl:(backTo pos (starEach es X.env)).any (·.1)=false:=by rfl):PE X (.Call (.Name x p) (e::es) [] pos) (QK r t):=by
 intro ao s Z H Q I h;refine Dt (wO I hg hm hv ?_ hn jx);exact Ab (bf (ha pos ao s Z H _ I h) λus s1 hx=>eE hx λvs H1 I1 r1 q1=>hc ao s1 Z H1 vs us Q I1 r1 q1) he hpl
end
end L2
namespace HT
open PySem PyProof.Rows
noncomputable def lexLt:List Int->List Int->Bool
 |[],[]=>false
 |[],_::_=>true
 |_::_,[]=>false
 |x::xs,y::ys=>if x=y then lexLt xs ys else decide (x<y)
theorem jV(x y:Int)(xs ys:List Int):lexLt (x::xs) (y::ys)=if x=y then lexLt xs ys else decide (x<y):=rfl
theorem zcD:lexLt [] []=false:=rfl
theorem zcc(y:Int)(ys:List Int):lexLt [] (y::ys)=true:=rfl
theorem zce(x:Int)(xs:List Int):lexLt (x::xs) []=false:=rfl
theorem zhC(A:Around)(s:Shared)(a:Int)(t:Tok)(c:Int)(u:Tok):∃e,SeqAt.EqAt A s (.int a t) (.int c u) e/\(e=true↔a=c):=
 ⟨(a==c),SeqAt.EqAt.int_int a t c u,by simp⟩
theorem zir(A:Around)(s:Shared)(a:Int)(t:Tok)(c:Int)(u:Tok)(prog:Program)(w:World)(E:Value->Shared->Prop)(Q:Value->Shared->Prop)(h:Q (.bool (decide (a<c))) s) :
  wpAny (model prog w) A (richCompare .Lt (.int a t) (.int c u)) Q E s:=
 (PyProof.Rows.lt_int h:wpAny (model prog w) A (compareOp .Lt (.int a t) (.int c u)) Q E s)
section
open PySem.SeqAt
open PySem.AutoSeq1 (wpAny_loadPart')
open PySem.MeetsSeq PySem.MeetsSeq2 PySem.MeetsSeq3
theorem zcF(l b:Addr)(items items2:Array Value)(n n2:Nat)(dd dd2:Option Addr)(sl sl2:Array (Option Value))(ns ms:List Int)(hi:IntsAre items.toList ns)(hj:IntsAre items2.toList ms) :
  Meets (Builtin.«tuple.__lt__» ⟨[.ref l,.ref b],[]⟩)
   (λ_ R s=>s.heap.get? l=some {cls:=.type "tuple",dict:=dd,data:=.seq items n,slots:=sl}/\s.heap.get? b=some {cls:=.type "tuple",dict:=dd2,data:=.seq items2 n2,slots:=sl2} /\
    R (.ok (.ret (.bool (lexLt ns ms)))) s):=
 .of_wp λprog w A R s h=>by
  obtain⟨hp,g,d,tk,os⟩:=s;obtain⟨hl,hb,h⟩:=h;have f2:=AutoSeq1.sub_tuple_tuple;have z1:items.size=ns.length:=by rw[<-hi.length];simp
  have z2:items2.size=ms.length:=by rw[<-hj.length];simp
  wp_walk using wpAny_loadPart' hl,wpAny_loadPart' hb,wpAny_forIn_list _ (λrest b s'=>b.1=none/\s'=⟨hp,g,d,tk,os⟩/\∃(vs ws:List Value) (ns' Ej:List Int),rest=vs.zip ws /\
   IntsAre vs ns'/\IntsAre ws Ej/\ns'.length+items2.size=Ej.length+items.size/\R (.ok (.ret (.bool (lexLt ns' Ej)))) ⟨hp,g,d,tk,os⟩) _
  case turn=>
   rintro⟨y,x⟩ rest b s' ⟨hb',rfl,vs,ws,ns',Ej,hz,QL,Ml,hlen,hR⟩;cases QL with
   |nil=>rw[List.zip_nil_left] at hz;cases hz
   |cons a t QM=>
    cases Ml with
    |nil=>rw[List.zip_nil_right] at hz;cases hz
    |cons c u QS=>
     rw[Ae] at hz;injection hz with hyx hrest;injection hyx with hy hx;subst hy hx;rw[jV] at hR;simp only[fK] at hlen;obtain⟨e,he,Hu⟩:=zhC A.in1 ⟨hp,g,d,tk,os⟩ a t c u;refine aB (he prog w _ _ ?_);cases e with
     |true=>
      rw[if_pos (Hu.mp rfl)] at hR
      wp_walk
      exact⟨rfl,rfl,_,_,_,_,hrest,QM,QS,by lia,hR⟩
     |false=>
      rw[if_neg (λq=>absurd (Hu.mpr q) Ga)] at hR;have hri:=zir A.in1 ⟨hp,g,d,tk,os⟩ a t c u prog w
      wp_walk using hri
      exact⟨_,rfl,by simpa using hR⟩
  case fin=>
   rintro⟨b1,b2⟩ s' ⟨hb',rfl,vs,ws,ns',Ej,hz,QL,Ml,hlen,hR⟩;simp only at hb';subst hb';have hv:lexLt ns' Ej=decide (items.size<items2.size):=by
    cases QL with
    |nil=>
     cases Ml with
     |nil=>
      simp only[yK] at hlen;rw[zcD];exact(jG (by lia)).symm
     |cons c u hw=>
      simp only[yK,fK] at hlen;rw[zcc];exact(jP (by lia)).symm
    |cons a t hv=>
     cases Ml with
     |nil=>
      simp only[yK,fK] at hlen;rw[zce];exact(jG (by lia)).symm
     |cons c u hw=>
      rw[Ae] at hz;cases hz
   rw[hv] at hR
   wp_walk
   exact⟨_,rfl,by simpa [Builtin.Tuple.tupleCompareSizes] using hR⟩
  case h=>
   exact⟨rfl,rfl,items.toList,items2.toList,ns,ms,rfl,hi,hj,by lia,h⟩
end
section
variable {prog:Program}{w:World}{A:Around}{E:Value->Shared->Prop}{s:Shared}
theorem jW{l b:Addr}{items items2:Array Value}{ns ms:List Int}{Q:Value->Shared->Prop}(hl:IsTup s.heap l items)(hb:IsTup s.heap b items2)(hi:IntsAre items.toList ns)(hj:IntsAre items2.toList ms)
  (hu:A.units<cLine) (h:Q (.bool (lexLt ns ms)) s):wpAny (model prog w) A (compareOp .Lt (.ref l) (.ref b)) Q E s:=by
 obtain⟨⟨cls,dd,data,sl⟩,ho,hc,n,hd⟩:=id hl;obtain⟨⟨cls2,dd2,data2,sl2⟩,pQ,qO,n2,hd2⟩:=id hb;simp only at hc hd qO hd2;subst hc hd qO hd2;exact richCompare_meets_room (op:=.Lt) ⟨_,ho,rfl⟩ ⟨_,pQ,rfl⟩ PySem.F.slot_tuple_lt PySem.F.entry_tuple_lt (PySem.F.args_tuple_lt_2 _ _) (zcF l b items items2 n n2 dd dd2 sl sl2 ns ms hi hj)
  ⟨ho,pQ,show Value.bool (lexLt ns ms)≠Value.notImplemented/\Q (.bool (lexLt ns ms)) s from ⟨(λx=>nomatch x),h⟩⟩ hu
theorem wV{t b:Addr}{vs ws:List Value}{Q:Value->Shared->Prop}(ht:IsTup s.heap t vs.toArray)(hb:IsTup s.heap b ws.toArray)(hv:vs≠[])
  (h1:ws=[]->Q (.ref t) s) (h2:ws≠[]->Q (.ref s.heap.objs.size) {s with heap:=s.heap.push {cls:=.type "tuple",data:=.seq (vs++ws).toArray}})
  (hsz:vs.length+ws.length<=sizeLine):wpAny (model prog w) A (binaryOp .Add (.ref t) (.ref b)) Q E s:=by
 obtain⟨⟨cls,dd,data,sl⟩,ho,hc,n,hd⟩:=id ht;obtain⟨⟨cls2,dd2,data2,sl2⟩,pQ,qO,n2,hd2⟩:=id hb;simp only at hc hd qO hd2;subst hc hd qO hd2;have e:vs.toArray++ws.toArray=(vs++ws).toArray:=by simp
 by_cases hw:ws=[]
 ·exact concat_meets ⟨_,ho,rfl⟩ ⟨_,pQ,rfl⟩ noFill_tuple_add seq_tuple_add Pb O_ (O8 _ _)
   (tuple_addW1 t b vs.toArray ws.toArray n n2 dd dd2 sl sl2 (by simpa using hv) (by simp[hw])) ⟨ho,pQ,h1 hw⟩
 ·refine concat_meets ⟨_,ho,rfl⟩ ⟨_,pQ,rfl⟩ noFill_tuple_add seq_tuple_add Pb O_ (O8 _ _)
   (tuple_addW2 t b vs.toArray ws.toArray n n2 dd dd2 sl sl2 (by simpa using hv) (by simpa using hw) (by rw[fD,fD];exact hsz)) ⟨ho,pQ,?_⟩
  rw[e];exact h2 hw
noncomputable def bT(n d:Nat):Option Int->Nat
 |none=>d
 |some v=>if v<0 then (v+(n:Int)).toNat else min v.toNat n
theorem uo(n d:Nat):bT n d none=d:=rfl
theorem wW(n d k:Nat):bT n d (some (k:Int))=min k n:=by
 show (if (k:Int)<0 then ((k:Int)+(n:Int)).toNat else min (k:Int).toNat n)=min k n;rw[if_neg (by lia),o_]
theorem zmU(n d:Nat)(hd:d<=n)(o:Option Int):bT n d o<=n:=by
 cases o with
 |none=>exact hd
 |some v=>
  show (if v<0 then (v+(n:Int)).toNat else min v.toNat n)<=n;by_cases hv:v<0
  ·rw[if_pos hv];lia
  ·rw[if_neg hv];exact Nat.min_le_right _ _
theorem Xq(v:Int)(n d:Nat):(if v<0 then max (v+(n:Int)) 0 else min v (n:Int))=((bT n d (some v):Nat):Int):=by
 show (if v<0 then max (v+(n:Int)) 0 else min v (n:Int))=(((if v<0 then (v+(n:Int)).toNat else min v.toNat n):Nat):Int);by_cases hv:v<0
 ·simp only[if_pos hv];lia
 ·simp only[if_neg hv];lia
theorem zfk(lo hi:Option Int)(n:Nat):Builtin.Slice.sliceAdjust lo hi 1 (n:Int)=(((bT n 0 lo:Nat):Int),((bT n n hi:Nat):Int)):=by
 have h1:¬((1:Int)<0):=by lia
 unfold Builtin.Slice.sliceAdjust;simp only[h1,sY];refine Prod.ext ?_ ?_
 ·cases lo with
  |none=>rfl
  |some v=>exact Xq v n 0
 ·cases hi with
  |none=>rfl
  |some v=>exact Xq v n n
theorem zfe(i j:Nat):Builtin.Slice.slicePlaces (i:Int) (j:Int) 1=j-i:=by
 unfold Builtin.Slice.slicePlaces;have h1:(1:Int)>0:=by lia
 simp only[h1,if_true,Int.ediv_one]
 split<;>lia
theorem Xr{v:Value}{o:Option Int}{Q:Option Int->Shared->Prop}(p:IsPart v o)(h:Q o s):wpAny (model prog w) A (Builtin.Slice.slicePartIndex v) Q E s:=by
 cases p with
 |none=>exact slicePart_none h
 |int i t=>exact slicePart_int h
theorem Xu{sl:Addr}{vl vu:Value}{lo hi:Option Int}{n:Nat}{Q:Int×Int×Nat->Shared->Prop}(hs:s.heap.IsSliceOf sl vl vu .none)(pl:IsPart vl lo)(pu:IsPart vu hi)
  (h:Q (((bT n 0 lo:Nat):Int),1,bT n n hi-bT n 0 lo) s):wpAny (model prog w) A (Builtin.Slice.sliceApplied (.ref sl) (pure (n:Int))) Q E s:=by
 obtain⟨os,Bu,Mp,Hv⟩:=id hs;unfold Builtin.Slice.sliceApplied Builtin.Slice.sliceFields;refine aB (aB (lC Bu Hv (x:=vl) rfl (aB (lC Bu Hv (x:=vu) rfl (aB (lC Bu Hv (x:=.none) rfl (aR ?_)))))));refine aB (slicePart_none ?_);show wpAny _ _ (if ((1:Int)==0)=true then _ else _) _ _ s;rw[if_neg (by decide)];refine aB (Xr pl (aB (Xr pu (aB (aR ?_)))));show wpAny _ _ (match Builtin.Slice.sliceAdjust lo hi 1 (n:Int) with|(lo,hi)=>pure (lo,(1:Int),Builtin.Slice.slicePlaces lo hi 1)) _ _ s;rw[zfk lo hi n];show wpAny _ _ (pure (((bT n 0 lo:Nat):Int),(1:Int),Builtin.Slice.slicePlaces ((bT n 0 lo:Nat):Int) ((bT n n hi:Nat):Int) 1)) _ _ s;rw[zfe];exact aR h
theorem zid(xs:Array Value)(i k:Nat):((List.range k).filterMap λ(m:Nat)=>xs[((i:Int)+(m:Int)*1).toNat]?).toArray=((xs.toList.drop i).take k).toArray:=by
 have e:(λ(m:Nat)=>xs[((i:Int)+(m:Int)*1).toNat]?)=λm=>xs[i+m]?:=by
  funext m
  have:((i:Int)+(m:Int)*1).toNat=i+m:=by lia
  rw[this]
 rw[e];have:=pick_run xs i k;rw[List.filterMap_map] at this;have e2:((λx=>xs[x]?)∘λx=>i+x)=λm=>xs[i+m]?:=rfl;rw[e2] at this;rw[this]
theorem iy{t sl:Addr}{items:Array Value}{vl vu:Value}{lo hi:Option Int}{Q:Value->Shared->Prop}(ht:IsTup s.heap t items)(hs:s.heap.IsSliceOf sl vl vu .none)(pl:IsPart vl lo)(pu:IsPart vu hi)
  (hw:¬(bT items.size 0 lo=0/\bT items.size items.size hi=items.size))
  (h:Q (.ref s.heap.objs.size) {s with heap:=s.heap.push {cls:=.type "tuple",data:=.seq ((items.toList.drop (bT items.size 0 lo)).take (bT items.size items.size hi-bT items.size 0 lo)).toArray}})
  (hsz:items.size<=sizeLine):wpAny (model prog w) A (getItem (.ref t) (.ref sl)) Q E s:=by
 have qP:sizeOk (.seq ((items.toList.drop (bT items.size 0 lo)).take (bT items.size items.size hi-bT items.size 0 lo)).toArray):=by
  show ((items.toList.drop (bT items.size 0 lo)).take (bT items.size items.size hi-bT items.size 0 lo)).toArray.size<=sizeLine;rw[fD,Ag,Le,yG]
  lia
 have hj:bT items.size items.size hi<=items.size:=zmU _ _ (bO _) hi;obtain⟨os,Bu,Mp,Hv⟩:=id hs;have QT:s.TypeIs (.ref sl) "slice":=⟨os,Bu,Mp⟩;unfold getItem
 try with_reducible refine pq ?_
 first|refine aB (aR ?_)|skip
 refine aB (wpAny_sequenceKey ht.typeIs (by decide) ?_);refine aB (Ac (name:=Str.ofString "__getitem__") ht.typeIs Dj
  (yJ Dj ht.typeIs entry_tuple_getitem ?_ (args_tuple_getitem _ _)))
 show wpAny _ _ (Builtin.Tuple.tupleItemsOf (.ref t) >>= _) _ _ s;refine aB (tupleItemsOf_ ht ?_);refine aB (Gq QT ?_);rw[if_pos (by decide)];refine aB (Xu hs pl pu ?_);have rK:¬((((bT items.size 0 lo:Nat):Int)==0&&(1:Int)==1&&(bT items.size items.size hi-bT items.size 0 lo)==items.size)=true):=by
  intro q;rw[eY,eY] at q;have q1:((bT items.size 0 lo:Nat):Int)=0:=eq_of_beq q.1.1;have q2:bT items.size items.size hi-bT items.size 0 lo=items.size:=eq_of_beq q.2;exact hw ⟨by lia,by lia⟩
 show wpAny _ _ (if (((bT items.size 0 lo:Nat):Int)==0&&(1:Int)==1&&(bT items.size items.size hi-bT items.size 0 lo)==items.size)=true then _ else _) _ _ s;rw[if_neg rK,zid]
 first
  |exact aB (m:=Builtin.Tuple.tupleExact _) (vO (aR ⟨_,rfl,aR h⟩) qP)
  |exact aB (m:=Builtin.Tuple.tupleExact _) (vO (aB (aR (aR ⟨_,rfl,aR h⟩))) qP)
  |exact aB (aB (m:=Builtin.Tuple.tupleExact _) (vO (aR (aR ⟨_,rfl,aR h⟩)) qP))
  |exact aB (aB (m:=Builtin.Tuple.tupleExact _) (vO (aR ⟨_,rfl,aR h⟩) qP))
end
end HT
namespace L2
open PySem PySem.Spec PyProof.Rows
noncomputable abbrev TO:=St->Hp->(Option Int->Hp->Prop)->Prop
def PO(X:Cx)(e:Option Expr)(t:TO):Prop:=
 ∀(ao:List (Addr×Obj)) (s:Shared) (Z:St) (H:Hp) (Q:Option Int->Hp->Prop),Inv X ao Z H s->t Z H Q->
  wpAny (model X.prog X.w) X.A (evalPart e X.env) (λu s'=>∃o H',Inv X ao Z H' s'/\IsPart u o/\Q o H') X.xe s
noncomputable def wX:TO:=λ_ H Q=>Q none H
noncomputable def Hw(t:TE):TO:=λZ H Q=>t Z H λx H1=>∃i,x=.int i/\Q (some i) H1
theorem Xw{ns:List Int}:∀{us:List Value},Vals (ns.map V.int) us->IntsAre us ns:=by
 induction ns with
 |nil=>intro us r;rw[List.map_nil] at r;cases r;exact .nil
 |cons n ns ih=>
  intro us r;rw[iU] at r;cases r with
  |cons r1 r2=>
   obtain⟨t,e⟩:=r1;subst e;exact .cons n t (ih r2)
section
variable {X:Cx}{e:Expr}{te:TE}{lo hi:Option Expr}{tl th:TO}{pos p2:Pos}
theorem zkz:PO X none wX:=by
 intro ao s Z H Q I h;rw[evalPart_none];exact aR ⟨none,H,I,.none,h⟩
theorem zkO(h:PE X e te):PO X (some e) (Hw te):=by
 intro ao s Z H Q I hw;rw[evalPart_some];refine bf (h ao s Z H _ I hw) λu s1 hx=>eE hx λx H1 I1 r1 q1=>?_;obtain⟨i,rfl,q⟩:=q1;obtain⟨t,rfl⟩:=r1;exact⟨some i,H1,I1,.int i t,q⟩
def wY(X:Cx)(r:V->Option Int->Option Int->Hp->VK->Prop):Prop:=
 ∀(ao:List (Addr×Obj)) (s:Shared) (Z:St) (H:Hp) (x:V) (v vl vu:Value) (lo hi:Option Int) (sl:Addr) (Q:VK),Inv X ao Z H s->RelV x v->s.heap.IsSliceOf sl vl vu .none->IsPart vl lo->IsPart vu hi->r x lo hi H Q->
  ∃T id,typeLookup (.type T) "__getitem__"=pure (some (.builtin id))/\s.TypeIs v T/\wpAny (model X.prog X.w) X.A (getItem v (.ref sl)) (EP X ao Z Q) X.xe s
theorem wY.or{r r':V->Option Int->Option Int->Hp->VK->Prop}(h:wY X r)(h':wY X r'):wY X (λx lo hi H Q=>r x lo hi H Q\/r' x lo hi H Q):=by
 intro ao s Z H x v vl vu lo hi sl Q I rx hs pl pu q;rcases q with q|q
 ·exact h ao s Z H x v vl vu lo hi sl Q I rx hs pl pu q
 ·exact h' ao s Z H x v vl vu lo hi sl Q I rx hs pl pu q
noncomputable def tSl(r:V->Option Int->Option Int->Hp->VK->Prop)(te:TE)(tl th:TO):TE:=λZ H Q=>te Z H λx H1=>tl Z H1 λl H2=>th Z H2 λu H3=>r x l u H3 Q
theorem zh5{r:V->Option Int->Option Int->Hp->VK->Prop}(hr:wY X r)(he:PE X e te)(hl:PO X lo tl)(hu:PO X hi th):PE X (.Subscript e (.Slice lo hi none p2) pos) (tSl r te tl th):=by
 intro ao s Z H Q I h;refine Subscript_ (bf (he ao s Z H _ I h) λv s1 hx=>eE hx λx H1 I1 r1 q1=>?_);refine wpAny_Slice (bf (hl ao s1 Z H1 _ I1 q1) λvl s2 hx=>eE hx λl H2 I2 pl q2=>bf (hu ao s2 Z H2 _ I2 q2) λvu s3 hx=>eE hx λu H3 I3 pu q3=>?_);rw[evalPart_none];refine aR ?_;have I4:Inv X ao Z H3 {s3 with heap:=s3.heap.push {cls:=.type "slice",data:=.fields #[vl,vu,.none]}}:=I3.kept (t':=s3.toks) λb ob q=>bY _ q;obtain⟨T,id,hT,ht,hg⟩:=hr ao {s3 with heap:=s3.heap.push {cls:=.type "slice",data:=.fields #[vl,vu,.none]}} Z H3 x v vl vu l u s3.heap.objs.size Q I4 r1 (Heap.IsSliceOf.new ..) pl pu q3;show wpAny (model X.prog X.w) X.A (subscriptTail e (.Slice lo hi none p2) v (.ref s3.heap.objs.size)) (EP X ao Z Q) X.xe {s3 with heap:=s3.heap.push {cls:=.type "slice",data:=.fields #[vl,vu,.none]}};exact tail_any (ops:=[.ref s3.heap.objs.size,v]) ht hT hg (by with_unfolding_all rfl)
noncomputable def mJ(xs:List V)(lo hi:Option Int):List V:=(xs.drop (HT.bT xs.length 0 lo)).take (HT.bT xs.length xs.length hi-HT.bT xs.length 0 lo)
theorem Xx(xs:List V)(lo hi:Option Int):(mJ xs lo hi).length<=xs.length:=by
 unfold mJ;rw[Ag,Le]
 lia
noncomputable def QV(K:W.Frag):V->Option Int->Option Int->Hp->VK->Prop:=λx lo hi H Q=>∃a xs,x=.ref a/\gj K H a xs /\
 ¬(HT.bT xs.length 0 lo=0/\HT.bT xs.length xs.length hi=xs.length)/\∀p,H p=none->Q (.ref p) (upd H p (.tup (mJ xs lo hi)))
theorem zlP:wY X (QV X.K):=by
 intro ao s Z H x v vl vu lo hi sl Q I rx hs pl pu h;obtain⟨a,xs,rfl,hx,hw,q⟩:=h;cases rx;obtain⟨its,r,ht,hz⟩:=I.tuple hx;have hlen:its.toArray.size=xs.length:=by rw[fD];exact r.length.symm
 refine⟨"tuple",_,Dj.lookup,ht.typeIs,?_⟩;refine HT.iy ht hs pl pu (by rw[hlen];exact hw) ?_ (by rw[hlen];exact hz);rw[hlen];refine⟨.ref s.heap.objs.size,_,I.laid (t':=s.toks) (o:=.tup (mJ xs lo hi)) (λb ob q=>bY _ q) (bO _) ?_,rfl,q _ (I.hok.fresh (bO _))⟩;exact⟨kI (Xx xs lo hi) hz,_,(r.drop (HT.bT xs.length 0 lo)).take (HT.bT xs.length xs.length hi-HT.bT xs.length 0 lo),IsTup.new _ _⟩
noncomputable def Hx(K:W.Frag):R2:=λx y H Q=>∃a b ns ms,x=.ref a/\y=.ref b/\gj K H a (ns.map V.int)/\gj K H b (ms.map V.int)/\Q (.bl (HT.lexLt ns ms)) H
theorem zlK(hu:X.A.units<cLine):fj X (compareOp .Lt) (Hx X.K):=by
 intro ao s Z H x y v u Q I rx ry h;obtain⟨a,b,ns,ms,rfl,rfl,ha,hb,q⟩:=h;cases rx;cases ry;obtain⟨its,r1,p1,_⟩:=I.tuple ha;obtain⟨its2,r2,p2,_⟩:=I.tuple hb;have i1:IntsAre its.toArray.toList ns:=Xw r1;have i2:IntsAre its2.toArray.toList ms:=Xw r2;exact HT.jW p1 p2 i1 i2 hu ⟨.bl (HT.lexLt ns ms),H,I,rfl,q⟩
theorem Vals.mK{xs:List V}{us:List Value}(r:Vals xs us):us=[]↔xs=[]:=by
 cases r with
 |nil=>simp
 |cons _ _=>simp
end
noncomputable def pC(n:Nat)(i:Int):Option Nat:=if 0<=i then (if i<n then some i.toNat else none) else if -(n:Int)<=i then some (i+n).toNat else none
noncomputable def n_{α:Type}(xs:List α)(i:Int):Option α:=(pC xs.length i).bind λj=>xs[j]?
theorem Xy{n:Nat}{i:Int}{j:Nat}(h:pC n i=some j):seqIndex? i n=some j/\j<n/\-(n:Int)<=i/\i<n:=by
 unfold pC at h;by_cases h0:0<=i
 ·rw[if_pos h0] at h;by_cases h1:i<n
  ·rw[if_pos h1] at h;have e:i.toNat=j:=cJ h;exact⟨by rw[seqIndex_of h0 h1,e],by lia,by lia,h1⟩
  ·rw[if_neg h1] at h;cases h
 ·rw[if_neg h0] at h;by_cases h1 : -(n:Int)<=i
  ·rw[if_pos h1] at h;have e:(i+n).toNat=j:=cJ h;exact⟨by rw[seqIndex_neg (by lia) h1,e],by lia,h1,by lia⟩
  ·rw[if_neg h1] at h;cases h
theorem QW{α:Type}{xs:List α}{i:Int}{v:α}(h:n_ xs i=some v):∃j,seqIndex? i xs.length=some j/\xs[j]?=some v/\j<xs.length/\-(xs.length:Int)<=i/\i<xs.length:=by
 unfold n_ at h;cases e:pC xs.length i with
 |none=>rw[e] at h;cases h
 |some j=>
  rw[e] at h;obtain⟨h1,h2,h3,h4⟩:=Xy e;exact⟨j,h1,h,h2,h3,h4⟩
def qQ(b:Expr):Prop:=∀o i,subscripted b false o i=operate [o,i] (getItem o i)
def wZ(X:Cx)(r:R2):Prop:=
 ∀(value slice:Expr) (ao:List (Addr×Obj)) (s:Shared) (Z:St) (H:Hp) (x y:V) (v u:Value) (Q:VK),Inv X ao Z H s->RelV x v->RelV y u->r x y H Q->
  subscripted slice false v u=operate [v,u] (getItem v u)->wpAny (model X.prog X.w) X.A (subscriptTail value slice v u) (EP X ao Z Q) X.xe s
def Hy(X:Cx)(id:String)(r:V->List V->Hp->VK->Prop):Prop:=
 ∀(ao:List (Addr×Obj)) (s:Shared) (Z:St) (H:Hp) (x:V) (xs:List V) (v:Value) (us:List Value) (Q:VK),Inv X ao Z H s->RelV x v->Vals xs us->r x xs H Q->
  wpAny (model X.prog X.w) X.A (call (.builtin id) (v::us)) (EP X ao Z Q) X.xe s
section
variable {X:Cx}{a b:Expr}{ta tb:TE}{pos:Pos}
theorem wZ.or{r r':R2}(h:wZ X r)(h':wZ X r'):wZ X (λx y H Q=>r x y H Q\/r' x y H Q):=by
 intro value slice ao s Z H x y v u Q I rx ry q hs;rcases q with q|q
 ·exact h value slice ao s Z H x y v u Q I rx ry q hs
 ·exact h' value slice ao s Z H x y v u Q I rx ry q hs
theorem zop{r:R2}(hr:wZ X r)(ha:PE X a ta)(hb:PE X b tb)(hs:qQ b):PE X (.Subscript a b pos) (Mg r ta tb):=by
 intro ao s Z H Q I h;exact Subscript_ (Bm ha hb I h λv u s2 x y H2 I2 rx ry q=>hr a b ao s2 Z H2 x y v u Q I2 rx ry q (hs _ _))
noncomputable def Hz(K:W.Frag):R2:=λx y H Q=>∃p xs i v,x=.ref p/\y=.int i/\cO K H p xs/\n_ xs i=some v/\Q v H
noncomputable def HB(K:W.Frag):R2:=λx y H Q=>∃p xs i v,x=.ref p/\y=.int i/\gj K H p xs/\n_ xs i=some v/\Q v H
noncomputable def HD:R2:=λx y H Q=>∃z i c,x=.str z/\y=.int i/\z.length<=sizeLine/\n_ z.cps.toList i=some c/\Q (.str ⟨#[c]⟩) H
theorem w6:wZ X (Hz X.K):=by
 intro value slice ao s Z H x y v u Q I rx ry h hs;obtain⟨p,xs,i,z,rfl,rfl,hq,he,q⟩:=h;cases rx;obtain⟨t,rfl⟩:=ry;obtain⟨its,r,pl,hz⟩:=I.list hq;obtain⟨j,h1,h2,h3,h4,h5⟩:=QW he;obtain⟨w,ew,lg⟩:=r.get h2;have hl:=r.length;have hn:=i_;have fin:EP X ao Z Q w s:=⟨z,H,I,lg,q⟩;by_cases h0:0<=i
 ·have hj:i.toNat=j:=by
   rw[seqIndex_of h0 h5] at h1;exact cJ h1
  exact item_listR pl.isList h0 (by lia) (by rw[hj];simpa using ew) fin hs
 ·have hj:(i+(its.toArray.size:Int)).toNat=j:=by
   rw[seqIndex_neg (by lia) h4] at h1;rw[fD,<-hl];exact cJ h1
  exact subscriptTail_builtinR (x:=w) pl.isList.typeIs slot_list_getitem.lookup
   (wpAny_getItem_list_neg (Q:=λr s'=>r=w/\EP X ao Z Q r s') pl.isList (by lia) (by rw[fD]<;>lia) (by lia) (by rw[hj];simpa using ew) ⟨rfl,fin⟩) hs
theorem Bv:wZ X (HB X.K):=by
 intro value slice ao s Z H x y v u Q I rx ry h hs;obtain⟨p,xs,i,z,rfl,rfl,hq,he,q⟩:=h;cases rx;obtain⟨t,rfl⟩:=ry;obtain⟨its,r,pl,hz⟩:=I.tuple hq;obtain⟨j,h1,h2,h3,h4,h5⟩:=QW he;obtain⟨w,ew,lg⟩:=r.get h2;have hl:=r.length;have hn:=i_;have fin:EP X ao Z Q w s:=⟨z,H,I,lg,q⟩;exact subscriptTail_builtinR (x:=w) pl.typeIs slot_tuple_getitem.lookup
  (getItem_tuple (j:=j) (Q:=λr s'=>r=w/\EP X ao Z Q r s') pl (by lia) (by lia) (by rw[fD,<-hl];exact h1) (by simpa using ew) ⟨rfl,fin⟩) hs
theorem zmL:wZ X HD:=by
 intro value slice ao s Z H x y v u Q I rx ry h hs;obtain⟨z,i,c,rfl,rfl,hz,he,q⟩:=h;obtain⟨t,rfl⟩:=rx;obtain⟨t',rfl⟩:=ry;obtain⟨j,h1,h2,h3,h4,h5⟩:=QW he;have hl:z.cps.toList.length=z.length:=by simp[Str.length]
 rw[hl] at h1 h4 h5;have hn:=i_;exact tail_any (typeIs_str s z t) slot_str_getitem.lookup (getItem_str (c:=c) (by
  have e1:decide (i < -(2^63:Int))=false:=jG (by lia);have e2:decide (i>=2^63)=false:=jG (by lia);rw[e1,e2,Bool.or_false]) (by rw[h1];simpa using h2) ⟨.str ⟨#[c]⟩,H,I.tok _,⟨_,rfl⟩,q⟩) hs
noncomputable def QX(K:W.Frag):R2:=λx y H Q=>Hz K x y H Q\/HB K x y H Q\/HD x y H Q
theorem zlp:wZ X (QX X.K):=w6.or (Bv.or zmL)
theorem zfl(its:List Value)(n j:Nat)(u:Value):Obj.mapSeq (·.setIfInBounds j u) {cls:=.type "list",data:=.seq its.toArray n}={cls:=.type "list",data:=.seq (its.set j u).toArray n}:=by
 simp[Obj.mapSeq]
theorem Inv.lst{ao:List (Addr×Obj)}{Z:St}{H:Hp}{s:Shared}{p:Addr}{xs:List V}(I:Inv X ao Z H s)(h:H p=some (.lst xs)) :
  ∃(its:List Value) (n:Nat),Vals xs its/\s.heap.get? p=some {cls:=.type "list",data:=.seq its.toArray n}/\xs.length<=sizeLine:=by
 obtain⟨z,its,n,r,e⟩:=I.hok p _ h;exact⟨its,n,r,e,z⟩
theorem Inv.Bw{ao:List (Addr×Obj)}{Z:St}{H:Hp}{s:Shared}{p:Addr}{xs ys:List V}{its its':List Value}{n n':Nat}{f:Obj->Obj}(I:Inv X ao Z H s)(h:H p=some (.lst xs))
  (ho:s.heap.get? p=some {cls:=.type "list",data:=.seq its.toArray n}) (hf:f {cls:=.type "list",data:=.seq its.toArray n}={cls:=.type "list",data:=.seq its'.toArray n'}) (r:Vals ys its') (hz:ys.length<=sizeLine) (t:Nat) :
  Inv X ao Z (upd H p (.lst ys)) {s with heap:=s.heap.update p f,toks:=t}:=by
 have e:(s.heap.update p f).get? p=some {cls:=.type "list",data:=.seq its'.toArray n'}:=by
  rw[yE f ho (by rw[hf]<;>rfl),hf]
 refine I.write (x:=p) (e:=p) (by rw[h];trivial) (.inl rfl) (λb u hb q=>(wH _ _ (Ne.symm hb)).trans q) ⟨_,e⟩ ?_;exact⟨hz,its',n',r,e⟩
noncomputable def HF:V->V->V->Hp->(Hp->Prop)->Prop:=λo i v H Q=>∃p xs k j,o=.ref p/\i=.int k/\H p=some (.lst xs)/\pC xs.length k=some j/\Q (upd H p (.lst (xs.set j v)))
theorem zhV:GX X HF:=by
 intro ao s Z H o i v ov iv u Q I ro ri rv h;obtain⟨p,xs,k,j,rfl,rfl,hp,hj,q⟩:=h;cases ro;obtain⟨t,rfl⟩:=ri;obtain⟨its,n,r,ho,hz⟩:=I.lst hp;obtain⟨h1,h2,h3,h4⟩:=Xy hj;have hl:=r.length;have hn:=i_;have I':Inv X ao Z (upd H p (.lst (xs.set j v))) {s with heap:=s.heap.update p (Obj.mapSeq (·.setIfInBounds j u))}:=
  I.Bw hp ho (zfl its n j u) (r.set rv j) (by rw[lB];exact hz) s.toks
 by_cases h0:0<=k
 ·have hk:k.toNat=j:=by
   rw[seqIndex_of h0 h4] at h1;exact cJ h1
  exact PySem.W.ki_setAt ho h0 (by lia) (by rw[fD,<-hl];exact h4) (by rw[hk];exact⟨_,I',q⟩)
 ·have hk:(k+(its.toArray.size:Int)).toNat=j:=by
   rw[seqIndex_neg (by lia) h3] at h1;rw[fD,<-hl];exact cJ h1
  exact PySem.W.ki_setBack ho (by lia) (by rw[fD,<-hl];exact h3) (by lia) (by rw[hk];exact⟨_,I',q⟩)
theorem zc1(lo hi:Option Int)(n:Nat):(sliceBounds lo hi none n).1=((HT.bT n 0 lo:Nat):Int)/\(sliceBounds lo hi none n).2.1=((HT.bT n n hi:Nat):Int)/\(sliceBounds lo hi none n).2.2=1:=by
 refine⟨?_,?_,rfl⟩
 ·cases lo with
  |none=>simp[sliceBounds,HT.bT]
  |some i=>
   simp only[sliceBounds,HT.bT,Option.getD_none,show (1:Int)>0 by decide,if_true];by_cases h:i<0
   ·simp only[h,if_true]<;>lia
   ·simp only[h,sY]<;>lia
 ·cases hi with
  |none=>simp[sliceBounds,HT.bT]
  |some i=>
   simp only[sliceBounds,HT.bT,Option.getD_none,show (1:Int)>0 by decide,if_true];by_cases h:i<0
   ·simp only[h,if_true]<;>lia
   ·simp only[h,sY]<;>lia
theorem zcz(its:List Value)(lo hi:Option Int):slicePick its.toArray lo hi none=((its.drop (HT.bT its.length 0 lo)).take (HT.bT its.length its.length hi-HT.bT its.length 0 lo)).toArray:=by
 obtain⟨h1,h2,h3⟩:=zc1 lo hi its.toArray.size;unfold slicePick;rw[h1,h2,h3];simp only[sliceRange_one,pick_run,fD]<;>rfl
noncomputable def HJ(K:W.Frag):V->Option Int->Option Int->Hp->VK->Prop:=λx lo hi H Q=>∃a xs,x=.ref a/\cO K H a xs/\∀p,H p=none->Q (.ref p) (upd H p (.lst (mJ xs lo hi)))
theorem xg:wY X (HJ X.K):=by
 intro ao s Z H x v vl vu lo hi sl Q I rx hs pl pu h;obtain⟨a,xs,rfl,hx,q⟩:=h;cases rx;obtain⟨its,r,ht,hz⟩:=I.list hx;have hlen:=r.length;refine⟨"list",_,slot_list_getitem.lookup,ht.isList.typeIs,?_⟩;refine wpAny_getItem_list_slice ht.isList hs pl pu .none (by simp) ?_ (by rw[fD]<;>lia);rw[zcz,<-hlen];refine⟨.ref s.heap.objs.size,_,I.laid (t':=s.toks) (o:=.lst (mJ xs lo hi)) (λb ob q=>bY _ q) (bO _) ?_,rfl,q _ (I.hok.fresh (bO _))⟩;exact⟨kI (Xx xs lo hi) hz,_,0,(r.drop (HT.bT xs.length 0 lo)).take (HT.bT xs.length xs.length hi-HT.bT xs.length 0 lo),fO _ rfl⟩
theorem zcZ:cX X (.builtin "len") (λxs H Q=>∃p ys,xs=[.ref p]/\(cO X.K H p ys\/gj X.K H p ys)/\Q (.int ys.length) H):=by
 intro ao s Z H xs us Q I r h;obtain⟨p,ys,rfl,hq,q⟩:=h;obtain⟨u,rfl,rx⟩:=vals1 r;cases rx;have hn:=i_;rcases hq with hq|hq
 ·obtain⟨its,r',pl,hz⟩:=I.list hq;have hlen:=r'.length;exact Calls.call_len_list pl.isList (by simp only[fD]<;>lia) ⟨.int ys.length,H,I.tok _,⟨s.toks+1,by rw[fD,hlen]⟩,q⟩
 ·obtain⟨its,r',pl,hz⟩:=I.tuple hq;have hlen:=r'.length;exact len_tuple pl (by simp only[fD]<;>lia) ⟨.int ys.length,H,I.tok _,⟨s.toks+1,by rw[fD,hlen]⟩,q⟩
theorem zdp:cX X (.type "list") (λxs H Q=>∃p ys,xs=[.ref p]/\(cO X.K H p ys\/gj X.K H p ys)/\∀l,H l=none->Q (.ref l) (upd H l (.lst ys))):=by
 intro ao s Z H xs us Q I r h;obtain⟨p,ys,rfl,hq,q⟩:=h;obtain⟨u,rfl,rx⟩:=vals1 r;cases rx;have fin:∀(its:List Value),Vals ys its->ys.length<=sizeLine->∀(h':Heap) (c':Nat),(∀b o',s.heap.get? b=some o'->h'.get? b=some o')->
   h'.get? s.heap.objs.size=some {cls:=.type "list",dict:=none,data:=.seq its.toArray c',slots:=#[]}->EP X ao Z Q (.ref s.heap.objs.size) {s with heap:=h'}:=λits r' hz h' c' kp e=>
  ⟨.ref s.heap.objs.size,_,I.laid (t':=s.toks) kp (bO _) (show aU X.prog X.w _ h' _ (.lst ys) from ⟨hz,its,c',r',e⟩),rfl,q _ (I.hok.fresh (bO _))⟩
 rcases hq with hq|hq
 ·obtain⟨its,r',pl,hz⟩:=I.list hq;have hlen:=r'.length;obtain⟨o,ho,hc,n,hd⟩:=pl.isList;exact call_list_seq p (.inl rfl) ho hc hd (λh' c' kp e=>fin its r' hz h' c' kp e) (by simp only[fD]<;>lia)
 ·obtain⟨its,r',pl,hz⟩:=I.tuple hq;have hlen:=r'.length;obtain⟨o,ho,hc,n,hd⟩:=pl;exact call_list_seq p (.inr rfl) ho hc hd (λh' c' kp e=>fin its r' hz h' c' kp e) (by simp only[fD]<;>lia)
theorem zcE:cX X (.type "tuple") (λxs H Q=>∃p ys,xs=[.ref p]/\((cO X.K H p ys/\∀l,H l=none->Q (.ref l) (upd H l (.tup ys)))\/(gj X.K H p ys/\Q (.ref p) H))):=by
 intro ao s Z H xs us Q I r h;obtain⟨p,ys,rfl,h⟩:=h;obtain⟨u,rfl,rx⟩:=vals1 r;cases rx;rcases h with ⟨hq,q⟩|⟨hq,q⟩
 ·obtain⟨its,r',pl,hz⟩:=I.list hq;have hlen:=r'.length;refine call_tuple_list pl.isList (λh' kp=>?_) (by simp only[fD]<;>lia);have I1:Inv X ao Z H {s with heap:=h'}:=I.kept (t':=s.toks) kp;have I2:Inv X ao Z (upd H h'.objs.size (.tup ys)) {s with heap:=h'.push {cls:=.type "tuple",data:=.seq its.toArray}}:=
   I1.laid (t':=s.toks) (λb o e=>bY _ e) (bO _) (show aU X.prog X.w _ _ _ (.tup ys) from ⟨hz,its,r',IsTup.new _ _⟩)
  exact⟨.ref h'.objs.size,_,I2,rfl,q _ (I1.hok.fresh (bO _))⟩
 ·obtain⟨its,r',pl,hz⟩:=I.tuple hq;exact call_tuple_same pl ⟨.ref p,H,I,rfl,q⟩
def Mq(K:W.Frag)(T:String)(x:V)(H:Hp):Prop:=match x with
 |.str _=>T="str"
 |.int _=>T="int"
 |.ref p=>(T="list"/\∃xs,cO K H p xs)\/(T="tuple"/\∃o,K.lookup p=some o/\o.cls=.type "tuple"/\o.dict=none) \/
   (T="dict"/\((∃kvs,H p=some (.dK kvs))\/∃kvs,H p=some (.dT kvs)))\/(T="set"/\∃S n,H p=some (.set S n))
 |_=>False
theorem Xz{ao:List (Addr×Obj)}{Z:St}{H:Hp}{s:Shared}{T:String}{x:V}{v:Value}(I:Inv X ao Z H s)(r:RelV x v)(ty:Mq X.K T x H) :
  s.TypeIs v T/\∀a,v=.ref a->∃ob,s.heap.get? a=some ob/\ob.dict=none:=by
 cases x with
 |str z=>
  obtain⟨t,rfl⟩:=r;cases (show T="str" from ty);exact⟨typeIs_str s z t,λ_ e=>nomatch e⟩
 |int i=>
  obtain⟨t,rfl⟩:=r;cases (show T="int" from ty);exact⟨typeIs_int s i t,λ_ e=>nomatch e⟩
 |ref p=>
  cases r;rcases ty with ⟨rfl,xs,hq⟩|⟨rfl,o,hk,hc,hd⟩|⟨rfl,hk⟩|⟨rfl,S,n,hk⟩
  ·obtain⟨its,_,pl,_⟩:=I.list hq;refine⟨pl.isList.typeIs,λa e=>?_⟩;cases e;obtain⟨o,n,e,c,hd,_⟩:=pl;exact⟨o,e,hd⟩
  ·refine⟨⟨o,I.kZ p o hk,hc⟩,λa e=>?_⟩;cases e;exact⟨o,I.kZ _ o hk,hd⟩
  ·have z:∃o,s.heap.get? p=some o/\o.ExactDict:=by
    rcases hk with ⟨kvs,hk⟩|⟨kvs,hk⟩
    ·obtain⟨_,_,_,_,o,_,_,e,ex,_⟩:=I.hok p _ hk;exact⟨o,e,ex⟩
    ·obtain⟨_,_,_,_,o,_,_,e,ex,_⟩:=I.hok p _ hk;exact⟨o,e,ex⟩
   obtain⟨o,e,ex⟩:=z;refine⟨⟨o,e,ex.1⟩,λa e2=>?_⟩;cases e2;exact⟨o,e,ex.2.1⟩
  ·obtain⟨o,_,_,_,e,ex,_⟩:=I.hok p _ hk;refine⟨⟨o,e,ex.1⟩,λa e2=>?_⟩;cases e2;exact⟨o,e,ex.2.1⟩
 |_=>exact False.elim ty
noncomputable def QZ(K:W.Frag)(T:String)(r:V->List V->Hp->VK->Prop)(to:TE):TE:=λZ H Q=>to Z H λx H1=>Mq K T x H1/\r x [] H1 Q
noncomputable def tBM(K:W.Frag)(T:String)(r:V->List V->Hp->VK->Prop)(to:TE)(t:TA):TE:=λZ H Q=>to Z H λx H1=>Mq K T x H1/\t Z H1 λxs H2=>r x xs H2 Q
variable {o e:Expr}{es:List Expr}{to:TE}{t:TA}{name:Str}{apos cpos:Pos}{T id:String}{r:V->List V->Hp->VK->Prop}
theorem zl9(pa:PlainAttrs T)(slot:Slot T name id)(HN:typeOf (.builtin id)=pure (.type "method_descriptor"))(hm:Hy X id r)(ho:PE X o to)
  (bL:attributeBase o name X.env (eval o X.env)=eval o X.env:=by rfl) (cP:(apos.endLine==cpos.line)=true:=by rfl):PE X (.Call (.Attribute o name apos) [] [] cpos) (QZ X.K T r to):=by
 intro ao s Z H Q I h;refine wpAny_Call_method0_late bL cP (bf (ho ao s Z H _ I h) λv s1 ⟨x,H1,I1,r1,ty,q1⟩=>?_);obtain⟨h1,h2⟩:=Xz I1 r1 ty;exact⟨T,id,pa,slot,HN,h1,h2,Calls.callWith_builtin rfl (PySem.evalArgs_none (hm ao s1 Z H1 x [] v [] Q I1 r1 .nil q1))⟩
theorem XD(pa:PlainAttrs T)(slot:Slot T name id)(HN:typeOf (.builtin id)=pure (.type "method_descriptor"))(hm:Hy X id r)(ho:PE X o to)(ha:PA X (e::es) t)
  (bL:attributeBase o name X.env (eval o X.env)=eval o X.env:=by rfl)
  (mL:((backTo cpos (starEach (e::es) X.env)).all (λx=>!x.1)&&(backToKw cpos (keywordEach [] X.env)).all (λx=>x.1.isSome)
  &&decide ((e::es).length+([]:List Keyword).length+(if ([]:List Keyword).isEmpty then 0 else 1)<30))=true:=by rfl)
  (cP:(apos.endLine==cpos.line)=true:=by rfl) (hs:starEach (e::es) X.env=(false,eval e X.env)::starEach es X.env:=by rfl) (cL:(backTo cpos (starEach es X.env)).any (·.1)=false:=by rfl) :
  PE X (.Call (.Attribute o name apos) (e::es) [] cpos) (tBM X.K T r to t):=by
 intro ao s Z H Q I h;refine wpAny_Call_method_late bL mL cP rfl (bf (ho ao s Z H _ I h) λv s1 ⟨x,H1,I1,r1,ty,q1⟩=>?_);obtain⟨h1,h2⟩:=Xz I1 r1 ty;refine⟨T,id,pa,slot,HN,h1,h2,?_⟩;have hA:=ha cpos ao s1 Z H1 _ I1 q1;rw[hs] at hA ⊢;refine Calls.callWith_builtin (by show (false||(backTo cpos (starEach es X.env)).any (·.1))=false;rw[cL]<;>rfl) (Pk ?_);exact bf hA λus s2 hx=>eE hx λvs H2 I2 r2 q2=>hm ao s2 Z H2 x vs v us Q I2 r1 r2 q2
end
def XH(X:Cx)(id:String)(r:V->List V->Hp->VK->Prop):Prop:=
 ∀(ao:List (Addr×Obj)) (s:Shared) (Z:St) (H:Hp) (x:V) (xs:List V) (v:Value) (us:List Value) (Q:VK),Inv X ao Z H s->RelV x v->Vals xs us->r x xs H Q->
  wpAny (model X.prog X.w) X.A (call (.builtin id) (v::us)) (EP X ao Z Q) X.xe s
theorem Vals.one{x:V}{us:List Value}(h:Vals [x] us):∃u,us=[u]/\RelV x u:=by
 cases h with
 |cons r t=>cases t;exact⟨_,rfl,r⟩
theorem Vals.two{x y:V}{us:List Value}(h:Vals [x,y] us):∃u v,us=[u,v]/\RelV x u/\RelV y v:=by
 cases h with
 |cons r t=>
  obtain⟨v,rfl,q⟩:=Vals.one t;exact⟨_,_,rfl,r,q⟩
theorem Vals.zero:∀{us:List Value},Vals [] us->us=[]
 |_,.nil=>rfl
theorem Vals.dropLast{xs:List V}{us:List Value}(h:Vals xs us):Vals xs.dropLast us.dropLast:=by
 induction h with
 |nil=>exact .nil
 |cons r t ih=>
  cases t with
  |nil=>exact .nil
  |cons q t'=>exact .cons r ih
theorem zfi{α:Type}(l:List α):l.eraseIdx (l.length-1)=l.dropLast:=by
 induction l with
 |nil=>rfl
 |cons a r ih=>
  cases r with
  |nil=>rfl
  |cons b r=>
   have e:(a::b::r).length-1=((b::r).length-1)+1:=by
    have h1:(a::b::r).length=r.length+2:=rfl;have h2:(b::r).length=r.length+1:=rfl
    lia
   rw[e,List.eraseIdx_cons_succ,ih]
   all_goals rfl
section
variable {X:Cx}{ao:List (Addr×Obj)}{Z:St}{H:Hp}{s:Shared}{l b:Addr}{xs ys zs:List V}
theorem Inv.HS{its its':List Value}{n:Nat}{f:Array Value->Array Value}{t':Nat}(I:Inv X ao Z H s)(hH:H l=some (.lst xs))
  (e:s.heap.get? l=some {cls:=.type "list",data:=.seq its.toArray n}) (hf:f its.toArray=its'.toArray) (hv:Vals ys its') (hz:ys.length<=sizeLine) :
  Inv X ao Z (upd H l (.lst ys)) {s with heap:=s.heap.update l (Obj.mapSeq f),toks:=t'}:=by
 have q:=PySem.IsL.update e f;rw[hf] at q;refine I.write (x:=l) (e:=l) (by rw[hH];exact trivial) (.inl rfl) (λb' u hb hu=>(wH s.heap (Obj.mapSeq f) (Ne.symm hb)).trans hu) ⟨_,q⟩ ?_;exact⟨hz,its',_,hv,q⟩
theorem Inv.Q0{its:List Value}{t':Nat}(I:Inv X ao Z H s)(hv:Vals ys its)(hz:ys.length<=sizeLine) :
  Inv X ao Z (upd H s.heap.objs.size (.lst ys)) {s with heap:=s.heap.push {cls:=.type "list",data:=.seq its.toArray},toks:=t'}:=
 I.laid (λ_ _ q=>bY _ q) (bO _) ⟨hz,its,0,hv,fO _ rfl⟩
theorem Inv.fresh(I:Inv X ao Z H s):H s.heap.objs.size=none:=I.hok.fresh (bO _)
theorem Inv.HW(I:Inv X ao Z H s)(hH:H l=some (.lst xs)):xs.length<=sizeLine/\∃(its:List Value) (n:Nat),Vals xs its/\xs.length=its.length/\s.heap.get? l=some {cls:=.type "list",data:=.seq its.toArray n}:=by
 obtain⟨z,its,n,r,e⟩:=I.hok l _ hH;exact⟨z,its,n,r,r.length,e⟩
end
section
variable {X:Cx}
noncomputable def xq:V->List V->Hp->VK->Prop:=λx vs H Q=>∃l xs y,x=.ref l/\vs=[y]/\H l=some (.lst xs)/\xs.length<sizeLine/\Q .non (upd H l (.lst (xs++[y])))
theorem XJ:XH X "list.append" xq:=by
 intro ao s Z H x vs v us Q I rx rv h;obtain⟨l,xs,y,rfl,rfl,hH,hz,q⟩:=h;cases rx;obtain⟨u,rfl,ru⟩:=rv.one;obtain⟨z,its,n,r,hl,e⟩:=I.HW hH;refine Av F.slot_list_append ⟨_,e,rfl⟩ F.entry_list_append (F.args_list_append_2 _ _) (PySem.list_append l its.toArray n u (by rw[fD];lia)) ⟨e,?_⟩;refine⟨.non,_,I.HS (its':=its++[u]) hH e (by simp) (r.append (.cons ru .nil)) ?_,rfl,q⟩;rw[dG,List.length_singleton]
 lia
noncomputable def Q5:V->List V->Hp->VK->Prop:=λx vs H Q=>∃l xs y,x=.ref l/\vs=[]/\H l=some (.lst xs)/\xs[xs.length-1]?=some y/\Q y (upd H l (.lst xs.dropLast))
theorem zlj:XH X "list.pop" Q5:=by
 intro ao s Z H x vs v us Q I rx rv h;obtain⟨l,xs,y,rfl,rfl,hH,hy,q⟩:=h;cases rx;have hus:=rv.zero;subst hus;obtain⟨z,its,n,r,hl,e⟩:=I.HW hH;obtain⟨u,hu,ru⟩:=r.get hy;have hy':its.toArray[its.toArray.size-1]?=some u:=by
  show its.toArray[its.length-1]?=some u;rw[<-Array.getElem?_toList,<-hl];exact hu
 refine Av F.slot_list_pop ⟨_,e,rfl⟩ F.entry_list_pop (F.args_list_pop_1 _) (MeetsSeq.list_pop_last l its.toArray n u hy' (by rw[fD];lia)) ⟨e,?_⟩;refine⟨y,_,I.HS (its':=its.dropLast) hH e ?_ r.dropLast ?_,ru,q⟩
 ·show its.toArray.eraseIdxIfInBounds (its.toArray.size-1)=its.dropLast.toArray;rw[fD,List.eraseIdxIfInBounds_toArray,zfi]
 ·rw[List.length_dropLast]
  lia
end
section
variable {prog:Program}{w:World}{A:Around}{E:Value->Shared->Prop}{s:Shared}
set_option maxRecDepth 100000 in
end
section
variable {X:Cx}
end
end L2
namespace XM
open PySem PySem.W PySem.Calls PyProof.Rows
theorem zbK{P:Params}{h:Heap}:∀(ns:List Int) (vs:List Value),WellAll P h vs (ns.map WData.int)->IntsAre vs ns:=by
 intro ns
 induction ns with
 |nil=>
  intro vs w;rw[List.map_nil] at w;cases w;exact .nil
 |cons n ns ih=>
  intro vs w;rw[iU] at w;cases w with
  |cons a b=>
   cases a;exact .cons _ _ (ih _ b)
theorem zgF{l:OpenLaw}{n:Nat}(hn:l.most=some n){P:Params}{h:Heap}{args:List WData}{vals:List Value}
  (hpre:l.row.toRowW.claim.pre args=true) (Q6:WellAll P h vals args) :
  ∃a vs ns,vals=[Value.ref a]/\args=[WData.list (ns.map WData.int)]/\h.get? a=some {cls:=.type "list",data:=.seq vs.toArray}/\IntsAre vs ns/\ns.length<=n:=by
 have hsh:WShape.hasAll [] args [.list .int]=true:=(pre_splitW hpre).1;have hc:l.pre.holds [] {args:=args}=true:=(pre_splitW hpre).2;obtain⟨d,r,rfl,h1,h2⟩:=hasAllW_cons hsh;obtain rfl:=hasAllW_nil h2;obtain⟨xs,rfl,h3⟩:=hasW_list h1;obtain⟨ns,rfl⟩:=items_int h3;have hlen:ns.length<=n:=by
  unfold OpenLaw.pre at hc;have h4:(WTm.not (.lt (.lit (.int (n:Int))) (.len (.arg 0)))).holds [] {args:=[.list (ns.map .int)]}=true:=by
   have h4:=(holds_andW hc).1;rw[hn] at h4;exact h4
  have h5:=condW_of h4 (w_not (w_lt w_lit (w_len_list (w_arg rfl))));rw[cg] at h5;refine Gf λq=>?_;have q':(n:Int)<((ns.length:Nat):Int):=by lia
  first
   |(rw[jP q'] at h5;exact absurd h5 (by decide))
   |(simp at h5;lia)
 cases Q6 with
 |cons w1 w2=>
  cases w2;cases w1 with
  |list ho mO=>exact⟨_,_,ns,rfl,rfl,ho,zbK ns _ mO,hlen⟩
theorem zgm(l:OpenLaw)(args:List WData):l.row.toRowW.claim.post args (.bool true) args=true:=
 postW_of (r:=l.row.toRowW) (X:=(true==true))
  (show WShape.has [] (.bool true) .bool=true by first|rfl|decide|simp[WShape.has,WShape.arms,WShape.armsAll])
  (show (WTm.eq .res (.lit (.bool true))).value [] {args:=args,res:=some (.bool true),after:=args}=some (.bool (true==true)) from w_eq_bool (w_res rfl) w_lit) rfl
theorem oh{l:OpenLaw}{n:Nat}{q:Program}{loose:List Str}{XP:(Str->Option Value)->Heap->Prop}{YP:World->Heap->Prop}{d:DefRec}
  (hn:l.most=some n) (Q7:d.params.defaults=[])
  (call:∀(w:World) (s₀ s₁:Shared) (mg mb:Str->Option Value) (fa:Addr) (o:Obj) (pm cd doc:Value) (a:Addr) (vs:List Value) (ns:List Int),
   Ground q loose [] XP w s₀ mg mb s₁.heap->YP w s₁.heap->
   s₁.heap.get? fa=some o->o.data=.func (docDef d.name d.params d.body d.scope pm cd doc)->s₁.heap.CodeRec cd d.name->mg d.name=some (.ref fa)->
   s₁.heap.get? a=some {cls:=.type "list",data:=.seq vs.toArray}->IntsAre vs ns->ns.length<=n->s₁.gens=#[]->
   codeAny (model l.prog w) callerA (.call (.ref fa) ⟨[.ref a],[]⟩) (λr s'=>r=.ok (.ret (.bool true))/\OldK s₁.heap s'.heap/\s'.os=s₁.os/\AllBare s'.gens) s₁) :
  WalkO q loose XP YP l.row.toRowW d [] (λf vs=>PySem.call f vs):=by
 intro w s₀ s₁ mg mb G Y fa o pm cd doc dV kV ho hd jJ hD hmg hg args vals as hpre aac hrd Q6 yU;obtain rfl:dV=.none:=Dflts.none hD Q7;obtain rfl:kV=.none:=Dflts.noKw hD;obtain⟨a,vs,ns,rfl,rfl,BJ,hints,hlen⟩:=zgF hn hpre Q6;refine enter_call (DK (call w s₀ s₁ mg mb fa o pm cd doc a vs ns G Y ho (fd_plain hd) jJ hmg BJ hints hlen hg) λr s' hq=>?_);obtain⟨rfl,h2,h3,h4⟩:=hq;exact⟨.inl ⟨.bool true,.bool true,[],rfl,λ_=>rfl,.bool true,zgm l _,λ_=>⟨List.Pairwise.nil,λ_ hm=>(nomatch hm)⟩⟩,h2,h3,h4⟩
section
variable {prog:Program}{w:World}{A:Around}{E:Value->Shared->Prop}{s:Shared}{K:Frag}
end
end XM
namespace L2
open PySem PySem.Spec PyProof.Rows
theorem XQ:∀{vs:List Value} {ns:List Int},IntsAre vs ns->Vals (ns.map V.int) vs
 |_,_,.nil=>.nil
 |_,_,.cons n t h=>.cons ⟨t,rfl⟩ (XQ h)
def Only(H:Hp):Prop:=∀b,H b=none\/∃o xs,H b=some (.t_ o (.lst xs))
theorem zh2{P:Program}{w:World}{K:W.Frag}{mg mb:Str->Option Value}{CX:sZ}{k:Nat}{fa a:Addr}{fd:FuncData}{x:Str}{sp:Sp}{s₁:Shared}{vs:List Value}{ns:List Int}
  (KX:K.In s₁.heap) (HX:s₁.heap.Ns mainGlobals mg) (hb:s₁.heap.Ns builtinsNs mb) (hbb:∀x:Str,x≠"__name__"->mb x=bootBuiltins x) (Q8:s₁.heap.NoLimit) (hg:s₁.gens=#[])
  (ha:s₁.heap.get? a=some {cls:=.type "list",data:=.seq vs.toArray}) (hi:IntsAre vs ns) (hl:ns.length<=sizeLine) (hr:bA k callerA)
  (F:∀base:Heap,K.In base->base.Ns mainGlobals mg->cB P w K mg base CX true k fa fd [x] sp) (uq:∀(s:Shared) (u:Value),BindsTo s fd ⟨[u],[]⟩ [(x,u)])
  (Mj:∀H:Hp,Only H->cO K H a (ns.map V.int)->sp [.ref a] H (λv _=>v=.bl true) λ_ _ _=>False)
  (hCX:∀H e s',CX [] H s₁ (λ_ _ _=>False) e s'->False) :
  codeAny (model P w) callerA (.call (.ref fa) ⟨[.ref a],[]⟩) (λr s'=>r=.ok (.ret (.bool true))/\OldK s₁.heap s'.heap/\s'.os=s₁.os/\AllBare s'.gens) s₁:=by
 have rv:=XQ hi;have lenV:=hi.length;have core:∀H:Hp,Only H->cO K H a (ns.map V.int)->gK P w H s₁.heap->(∀b,H b≠none->b=a)->(H a≠none->K.lookup a=none)->
   codeAny (model P w) callerA (.call (.ref fa) ⟨[.ref a],[]⟩) (λr s'=>r=.ok (.ret (.bool true))/\OldK s₁.heap s'.heap/\s'.os=s₁.os/\AllBare s'.gens) s₁:=by
  intro H hO hS hok hA hK;have qR:∀{b:Addr} {o:Obj},s₁.heap.get? b=some o->H b=none->(mD s₁.heap H).get? b=some o:=λe n=>zhn e n;have Hr:∀{b:Addr} {o:Obj} {es:Array DictEntry} {ep:Nat},s₁.heap.get? b=some o->o.data=.dict es ep->H b=none:=λ{b o es ep} e d=>by
   cases q:H b with
   |none=>rfl
   |some u=>
    have e':b=a:=hA b (by rw[q];simp);subst e';rw[ha] at e;cases e;have d':Data.seq vs.toArray _=Data.dict es ep:=d;cases d'
  have Mr:∀{b:Addr} {m:Str->Option Value},s₁.heap.Ns b m->(mD s₁.heap H).Ns b m:=λ{b m} ⟨o,es,ep,e,d,r⟩=>⟨o,es,ep,qR e (Hr e d),d,r⟩;have XR:K.In (mD s₁.heap H):=λb o e=>qR (KX b o e) (by
   cases q:H b with
   |none=>rfl
   |some u=>
    have e':b=a:=hA b (by rw[q];simp);subst e';rw[hK (by rw[q];simp)] at e;cases e)
  have hM:Mod K mg (mD s₁.heap H):=⟨XR,Mr HX,⟨mb,Mr hb,hbb⟩,let ⟨mc,h1,h2⟩:=Q8;⟨mc,Mr h1,h2⟩⟩;have e0:pP P w K mg (mD s₁.heap H) callerA [] s₁ H:=⟨rfl,hM,λb o e=>zjp e,Nat.le_of_eq (zf2 _ _),trivial,λb hb=>absurd (show b∈([]:List Addr) from hb) (by simp),hok,.of_eq hg⟩;refine DK ((F _ XR (Mr HX)).run callerA [] s₁ H ⟨[.ref a],[]⟩ [.ref a] [.ref a] _ _ (λ_=>rfl) hr e0 (uq s₁ (.ref a)) (.cons rfl .nil) (Mj H hO hS)) λr s' h=>?_;cases r with
  |error e=>exact(hCX H e s' h).elim
  |ok fl=>
   cases fl with
   |next=>exact False.elim h
   |brk=>exact False.elim h
   |cont=>exact False.elim h
   |ret u=>
    obtain⟨v,H',os,bare,un,Q9,r',q⟩:=h;have q':v=.bl true:=q;subst q';obtain rfl:u=Value.bool true:=r';refine⟨rfl,OldK.of_keep λb o e=>?_,os,bare⟩;cases q:H b with
    |none=>exact un.keep b o e q (by intro z;exact absurd (show b∈([]:List Addr) from z) (by simp)) (by simp)
    |some u=>
     rcases hO b with z|⟨ob,xs,z⟩
     ·rw[q] at z;cases z
     ·have z2:=un.jt b ob _ z;obtain⟨e1,_⟩:=hok b _ z;obtain⟨e2,_⟩:=Q9 b _ z2;rw[e] at e1;cases e1;exact e2
 cases hk:K.lookup a with
 |some o=>
  have e:=KX a o hk;rw[ha] at e;cases e;refine core (λ_=>none) (λ_=>.inl rfl) (.inr ⟨_,vs.toArray,_,hk,rfl,rfl,rfl,by rw[fD,lenV];exact hl,by simpa using rv⟩) (λb u z=>by have z':(none:Option HO)=some u:=z;cases z') (λb z=>absurd rfl z) λz=>absurd rfl z
 |none=>
  refine core (λb=>if b=a then some (.t_ {cls:=.type "list",data:=.seq vs.toArray} (.lst (ns.map V.int))) else none) (λb=>?_) (.inl (.inr ⟨{cls:=.type "list",data:=.seq vs.toArray},if_pos rfl⟩)) (λb u z=>?_) (λb z=>?_) λ_=>hk
  ·by_cases hb:b=a
   ·exact .inr ⟨_,_,if_pos hb⟩
   ·exact .inl (if_neg hb)
  ·by_cases hb:b=a
   ·have z':=(if_pos hb).symm.trans z;cases z';subst hb;exact⟨ha,by rw[cg];exact hl,vs,_,rv,ha⟩
   ·have z':=(if_neg hb).symm.trans z;cases z'
  ·by_cases hb:b=a
   ·exact hb
   ·exact absurd (if_neg hb) z
def Q_(h0:Heap)(H:Hp)(h:Heap)(e:Addr)(hd:Value):Prop:=
 hd=.none\/∃T oT ts,hd=.ref T/\h0.get? T=none/\H T=none/\T≠e/\h.get? T=some oT/\oT.data=.fields ts/\ts[3]?=some .none
structure Exc(h0:Heap)(H:Hp)(h:Heap)(e C:Addr)(dx:Option Addr):Prop where
 new:h0.get? e=none
 un:H e=none
 ob:∃oe vs hd,h.get? e=some oe/\oe.cls=.ref C/\oe.dict=dx/\oe.data=.fields vs/\vs[1]?=some hd/\Q_ h0 H h e hd
structure HY(h0:Heap)(H:Hp)(fr:List Addr)(h h':Heap)(ch:List Addr):Prop where
 rec_:∀b∈ch,h0.get? b=none/\H b=none/\∃o vs,h.get? b=some o/\o.data=.fields vs
 keep:∀b o,h.get? b=some o->b∉fr->b∉ch->h'.get? b=some o
 slot:∀b o,h.get? b=some o->b∈fr->∃sl,h'.get? b=some {o with slots:=sl}
 there:∀b o,h.get? b=some o->∃o',h'.get? b=some o'
noncomputable def uw(head:Value)(L:Addr)(pl:List Value):Obj:=
 {cls:=.type "traceback",dict:=none,data:=.fields ([head,.ref L,.none,rawInt L,.none]++(if pl.isEmpty then List.replicate 6 Value.none else pl)).toArray}
theorem X3(o:Obj)(f:Array Value->Array Value):(o.mapFields f).dict=o.dict:=by
 obtain⟨c,d,dt,sl⟩:=o;cases dt<;>rfl
theorem X4(o:Obj)(f:Array Value->Array Value):(o.mapFields f).cls=o.cls:=by
 obtain⟨c,d,dt,sl⟩:=o;cases dt<;>rfl
section
variable {M:Model}{A:Around}{E:Value->Shared->Prop}{s:Shared}{base h0:Heap}{env:Env}{outer:List Env}{L e C:Addr}{dx:Option Addr}{H:Hp}{Q:Unit->Shared->Prop}
theorem X5(hfr:A.frames=some (env::outer))(hl:s.heap.FunFrames base (env::outer))(hf:env.frame=some L)
  (he:s.heap.get? e=some oe) (hd:oe.data=.fields vs) (hsz:1<vs.size)
  (k:∀h' T oT ts,s.heap.objs.size<=T->(∀b o,s.heap.get? b=some o->b∉frs (env::outer)->b≠e->h'.get? b=some o)->(∀b o,s.heap.get? b=some o->b∈frs (env::outer)->∃sl,h'.get? b=some {o with slots:=sl})->
   h'.get? e=some (oe.mapFields (·.setIfInBounds 1 (.ref T)))->h'.get? T=some oT->oT.data=.fields ts->3<ts.size->ts[3]?=some (rawInt L)->Q () {s with heap:=h'}) :
  wpAny M A (do let a <-frameOf env;let pl <-entryPlaceOf L hn;let b <-EntryCells.newEntry head a .none (rawInt L) .none pl;setField (.ref e) 1 b) Q E s:=by
 have H_:e∉frs (env::outer):=λhm=>by
  obtain⟨_,o,ho,hx⟩:=hl.mem hm;rw[he] at ho;cases ho;exact hx vs hd
 refine aB (wpAny_frameOf_fun hfr hl hf λh₁ sl₁=>?_);refine aB (wpAny_entryPlaceOf λpl hpl=>?_);unfold EntryCells.newEntry newFields;refine aB (vO ?_ (hpl.sizeOk5 _ _ _ _ _));have e1:h₁.get? e=some oe:=(sl₁.2.1 e H_).trans he;have e2:(h₁.push (uw head L pl)).get? e=some oe:=bY _ e1;refine Gm e2 hd hsz ?_;have ne:h₁.objs.size≠e:=vU (bN e1);have d3:=wI hd (·.setIfInBounds 1 (Value.ref h₁.objs.size));have kp:∀b o,h₁.get? b=some o->b≠e->((h₁.push (uw head L pl)).update e (Obj.mapFields (·.setIfInBounds 1 (Value.ref h₁.objs.size)))).get? b=some o:=λb o q n=>by
  rw[wH _ _ n.symm];exact bY _ q
 refine k _ h₁.objs.size (uw head L pl) _ (by rw[sl₁.1];exact bO _) (λb o q n1 n2=>kp b o ((sl₁.2.1 b n1).trans q) n2) (λb o q m=>?_) (yE _ e2 (KZ d3)) ?_ rfl ?_ ?_
 ·obtain⟨sl,z⟩:=sl₁.2.2 b o q;exact⟨sl,kp b _ z λy=>H_ (y▸m)⟩
 ·rw[wH _ _ ne.symm];exact fO _ rfl
 ·simp only[fD,dG,fK,yK]<;>lia
 ·first
   |(simp;done)
   |(rcases hpl with rfl|⟨_,_,_,_,_,_,_,rfl⟩<;>simp)
theorem zhl(hfr:A.frames=some (env::outer))(hl:s.heap.FunFrames base (env::outer))(hf:env.frame=some L)(x:Exc h0 H s.heap e C dx)
  (k:∀h' T oT oe ts vs ch,HY h0 H (frs (env::outer)) s.heap h' ch->s.heap.objs.size<=T->h'.get? e=some oe->oe.cls=.ref C->oe.dict=dx->oe.data=.fields vs->vs[1]?=some (.ref T)->h'.get? T=some oT->oT.data=.fields ts->
   3<ts.size->ts[3]?=some (rawInt L)->Q () {s with heap:=h'}):wpAny M A (noteFrame (.ref e) env) Q E s:=by
 obtain⟨oe,vs,hd,he,hc,yV,ou,h1,tb⟩:=x.ob;have hsz:1<vs.size:=(KJ.mp h1).1;have H_:∀b o ws,s.heap.get? b=some o->o.data=.fields ws->b∉frs (env::outer):=λb o ws q d hm=>by
  obtain⟨_,o',ho,hx⟩:=hl.mem hm;rw[q] at ho;cases ho;exact hx ws d
 unfold noteFrame;simp only[hf];refine aB (lC he ou h1 ?_);rcases tb with rfl|⟨T,oT,ts,rfl,nT,uT,neT,gT,dT,h3⟩
 ·rw[if_neg (by decide)];refine X5 hfr hl hf he ou hsz λh' T oT ts lt kp sl ge gT dT z3 z4=>?_;refine k h' T oT _ ts _ [e] ⟨λb hb=>?_,λb o q n1 n2=>kp b o q n1 λz=>n2 (by rw[z];exact .head _),sl,λb o q=>?_⟩ lt ge ((X4 _ _).trans hc) ((X3 _ _).trans yV) (wI ou _) (by simp[hsz]) gT dT z3 z4
  ·obtain rfl:b=e:=by simpa using hb
   exact⟨x.new,x.un,oe,vs,he,ou⟩
  ·by_cases z:b=e
   ·subst z;exact⟨_,ge⟩
   ·by_cases m:b∈frs (env::outer)
    ·obtain⟨w,q'⟩:=sl b o q m;exact⟨_,q'⟩
    ·exact⟨o,kp b o q m z⟩
 ·rw[if_pos (show (Value.ref T != Value.none)=true from by simp)];refine aB (lC gT dT h3 ?_);rw[if_neg (show ¬((Value.none==rawInt L)=true) from by simp[rawInt])];have z3:3<ts.size:=(KJ.mp h3).1;refine aB (Gm gT dT z3 ?_);have oth:∀b,b≠T->(s.heap.update T (Obj.mapFields (·.setIfInBounds 3 Value.none))).get? b=s.heap.get? b:=λb n=>wH _ _ n.symm;have qT:(s.heap.update T (Obj.mapFields (·.setIfInBounds 3 Value.none))).FunFrames base (env::outer):=hl.of_keeps λb o q nd=>⟨o,(oth b λz=>by subst z;rw[gT] at q;cases q;exact nd ts dT).trans q,rfl⟩;have sT:(s.heap.update T (Obj.mapFields (·.setIfInBounds 3 Value.none))).get? T=some (oT.mapFields (·.setIfInBounds 3 Value.none)):=yE _ gT (KZ (wI dT _));refine X5 hfr qT hf ((oth e neT.symm).trans he) ou hsz λh' T' oT' ts' lt kp sl ge gT' dT' z3' z4'=>?_;have lt':s.heap.objs.size<=T':=by
   have:=lt;simp only[Heap.size_after_update] at this;exact this
  refine k h' T' oT' _ ts' _ [e,T] ⟨λb hb=>?_,λb o q n1 n2=>kp b o ((oth b λz=>n2 (by simp[z])).trans q) n1 λz=>n2 (by simp[z]),λb o q m=>?_,λb o q=>?_⟩ lt' ge ((X4 _ _).trans hc) ((X3 _ _).trans yV) (wI ou _) (by simp[hsz]) gT' dT' z3' z4'
  ·have hb':b=e\/b=T:=by simpa using hb
   rcases hb' with rfl|rfl
   ·exact⟨x.new,x.un,oe,vs,he,ou⟩
   ·exact⟨nT,uT,oT,ts,gT,dT⟩
  ·exact sl b o ((oth b λz=>by subst z;exact H_ b o ts q (by rw[gT] at q;cases q;exact dT) m).trans q) m
  ·by_cases z:b=e
   ·subst z;exact⟨_,ge⟩
   ·by_cases y:b=T
    ·subst y;exact⟨_,kp b _ sT (H_ b oT ts gT dT) z⟩
    ·by_cases m:b∈frs (env::outer)
     ·obtain⟨w,q'⟩:=sl b o ((oth b y).trans q) m;exact⟨_,q'⟩
     ·exact⟨o,kp b o ((oth b y).trans q) m z⟩
theorem X6(he:s.heap.get? e=some oe)(hd:oe.data=.fields vs)(h1:vs[1]?=some (.ref T))(gT:s.heap.get? T=some oT)(dT:oT.data=.fields ts)(z3:3<ts.size)
  (k:∀h',(∀b o,b≠T->s.heap.get? b=some o->h'.get? b=some o)->h'.get? T=some (oT.mapFields (·.setIfInBounds 3 Value.none))->Q () {s with heap:=h'}):wpAny M A (setFlight (.ref e) none) Q E s:=by
 unfold setFlight;refine aB (lC he hd h1 ?_);rw[if_pos (show (Value.ref T != Value.none)=true from by simp)];exact Gm gT dT z3 (k _ (λb o n q=>(wH _ _ n.symm).trans q) (yE _ gT (KZ (wI dT _))))
theorem X7(hfr:A.frames=some (env::outer))(hl:s.heap.FunFrames base (env::outer))(hf:env.frame=some L)(x:Exc h0 H s.heap e C dx)
  (qN:∀b,s.heap.objs.size<=b->H b=none) (h0s:∀b o,h0.get? b=some o->∃o',s.heap.get? b=some o')
  (k:∀h' ch,HY h0 H (frs (env::outer)) s.heap h' ch->Exc h0 H h' e C dx->Q () {s with heap:=h'}) :
  wpAny M A (noteFrame (.ref e) env) (λ_ s₁=>wpAny M A (setFlight (.ref e) none) Q E s₁) E s:=by
 have ele:∃o,s.heap.get? e=some o:=let ⟨oe,_,_,he,_⟩:=x.ob;⟨oe,he⟩;refine zhl hfr hl hf x λh' T oT oe ts vs ch t lt ge hc yV ou h1 gT dT z3 z4=>?_;have neT:T≠e:=λz=>by
  obtain⟨o,q⟩:=ele;exact absurd (gJ (bN q) (z▸lt)) (qI _)
 refine X6 (s:={s with heap:=h'}) ge ou h1 gT dT z3 λh2 kp gT2=>?_;have nT:∀b o,s.heap.get? b=some o->b≠T:=λb o q z=>absurd (gJ (bN q) (z▸lt)) (qI _);refine k h2 ch ⟨t.rec_,λb o q n1 n2=>kp b o (nT b o q) (t.keep b o q n1 n2),λb o q m=>?_,λb o q=>?_⟩ ⟨x.new,x.un,oe,vs,.ref T,kp e oe neT.symm ge,hc,yV,ou,h1,.inr ⟨T,_,_,rfl,?_,qN T lt,neT,gT2,wI dT _,by simp[z3]⟩⟩
 ·obtain⟨sl,q'⟩:=t.slot b o q m;exact⟨sl,kp b _ (nT b o q) q'⟩
 ·obtain⟨o',q'⟩:=t.there b o q;exact⟨o',kp b o' (nT b o q) q'⟩
 ·cases z:h0.get? T with
  |none=>rfl
  |some o=>
   obtain⟨o',q⟩:=h0s T o z;exact absurd rfl (nT T o' q)
end
noncomputable abbrev XS:=St->Value->Option Addr->Hp->Prop
def Sub(h0 h:Heap):Prop:=∀b o,h0.get? b=some o->∃o',h.get? b=some o'
theorem Sub.none{h0 h:Heap}(x:Sub h0 h){b:Addr}(e:h.get? b=none):h0.get? b=none:=by
 cases q:h0.get? b with
 |none=>rfl
 |some o=>
  obtain⟨o',z⟩:=x b o q;rw[e] at z;cases z
theorem Exc.older{h0 h1:Heap}{H:Hp}{h:Heap}{e C:Addr}{dx:Option Addr}(x:Exc h1 H h e C dx)(y:Sub h0 h1):Exc h0 H h e C dx:=by
 obtain⟨oe,vs,hd,a,b,c,d,f,tb⟩:=x.ob;refine⟨y.none x.new,x.un,oe,vs,hd,a,b,c,d,f,?_⟩;rcases tb with z|⟨T,oT,ts,z1,z2,z3⟩
 ·exact .inl z
 ·exact .inr ⟨T,oT,ts,z1,y.none z2,z3⟩
section
variable {X:Cx}{ao:List (Addr×Obj)}{Z:St}{H:Hp}{s:Shared}{h0 h':Heap}{ch fr:List Addr}
theorem gK.Ia{P:Program}{w:World}{h:Heap}(x:gK P w H h)(t:HY h0 H fr h h' ch)(hf:∀b∈fr,H b=none):gK P w H h':=λa o e=>by
 have st:∀b u,(b=a\/H b=some (.own a))->h.get? b=some u->h'.get? b=some u:=λb u z q=>by
  have nb:H b≠none:=by
   rcases z with z|z
   ·rw[z,e];simp
   ·rw[z];simp
  exact t.keep b u q (λm=>nb (hf b m)) λm=>nb (t.rec_ b m).2.1
 exact(x a o e).stay st (λ_ z=>z) λ_ _ z=>z
theorem Inv.Ia(I:Inv X ao Z H s)(t:HY h0 H (frs X.stack) s.heap h' ch)(hs:∀b o,X.s₀.heap.get? b=some o->b∉X.ex->∃o',h0.get? b=some o')(hp:∀p∈X.pn++ao,∃o,h0.get? p.1=some o):Inv X ao Z H {s with heap:=h'}:=by
 refine I.call (g':=s.gens) (d':=s.drawn) (t':=s.toks) (ch:=ch) ⟨λb o q _ n1 n2=>t.keep b o q n1 n2,λb o q _ m _=>t.slot b o q m,λ_ _ _ n _=>n,λb o q _=>t.there b o q,λ_ _ q=>q,λ_ _ _ q=>q,λ_ ps q=>⟨#[],by rw[q];simp⟩⟩ (I.hok.Ia t I.jH) I.bare λb hb=>?_;obtain⟨n0,_,o,vs,q,d⟩:=t.rec_ b hb;refine⟨?_,λz=>?_,λx c e z=>?_,λp hq z=>?_⟩
 ·by_cases m:b∈X.ex
  ·exact .inl m
  ·refine .inr ?_;cases z:X.s₀.heap.get? b with
   |none=>rfl
   |some u=>
    obtain⟨o',z'⟩:=hs b u z m;rw[n0] at z';cases z'
 ·subst z;obtain⟨m,⟨ol,es,ep,e1,e2,_⟩,_⟩:=I.loc;rw[q] at e1;cases e1;rw[d] at e2;cases e2
 ·subst z;obtain⟨v,oc,e1,e2⟩:=I.cell x c e;rw[q] at e1;cases e1;rw[d] at e2;cases e2
 ·obtain⟨u,e1⟩:=hp p hq;rw[z,n0] at e1;cases e1
end
def Raises(X:Cx)(EX:XS):Prop:=
 ∀(ao:List (Addr×Obj)) (Z:St) (H:Hp) (s:Shared) (h0:Heap) (e C:Addr) (dx:Option Addr),Inv X ao Z H s->(∀b o,X.s₀.heap.get? b=some o->b∉X.ex->∃o',h0.get? b=some o')->
  (∀p∈X.pn++ao,∃o,h0.get? p.1=some o)->Sub h0 s.heap->Exc h0 H s.heap e C dx->EX Z (.ref C) dx H->X.xe (.ref e) s
noncomputable def gD(P:Program)(w:World):sZ:=λouter H s E e s'=>
 ∃(a C:Addr) (dx:Option Addr) (H':Hp),e=.ref a/\s'.os=s.os/\AllBare s'.gens/\Un (frs outer) [] H H' s.heap s'.heap/\gK P w H' s'.heap/\Exc s.heap H' s'.heap a C dx/\E (.ref C) dx H'
theorem zfn{P:Program}{w:World}{K:W.Frag}{mg:Str->Option Value}{base:Heap}{N:List Str}{qual:Str}{scope:Scope}{f:Addr}{cd:Value}{A:Around}{outer:List Env}{s:Shared}{H:Hp}{E:XK}{cm:Bool} :
  Raises (gq (gD P w) P w K mg base N qual scope f cd A outer s H E cm) (λ_ C dx H'=>E C dx H'):=by
 intro ao Z H1 s1 h0 e C dx I hs hp h01 x ex;have I0:Inv (gq (gD P w) P w K mg base N qual scope f cd A outer s H E cm) [] Z H1 s1:=I.mH λp z=>absurd z (by simp);show wpAny (model P w) (A.deeper (envOfC qual scope s.heap.objs.size f cd)) (leaving (envOfC qual scope s.heap.objs.size f cd) (.ref e)) _ _ s1;unfold leaving;have hsub:Sub s.heap h0:=λb o q=>hs b o q (by show b∉([]:List Addr);simp);refine aB (X7 (base:=base) (outer:=outer) (L:=s.heap.objs.size) I0.ok.frames I0.stack rfl x (λb z=>I0.hok.fresh z) h01 λh' ch t x'=>?_);have fin:∀b o,s.heap.get? b=some o->b∉ch:=λb o q m=>by
  have z:=hsub.none (t.rec_ b m).1;rw[q] at z;cases z
 have nL:∀b o,s.heap.get? b=some o->b∉frs outer->b∉frs (envOfC qual scope s.heap.objs.size f cd::outer):=λb o q n m=>by
  have m':b∈s.heap.objs.size::frs outer:=m;rcases gY.mp m' with z|z
  ·exact absurd (bN q) (by rw[z];exact qI _)
  ·exact n z
 refine⟨e,C,dx,H1,rfl,I0.os,I0.bare,⟨λb o q n hb _=>?_,λb o q n hb _=>?_,λb o q n _=>I0.base.free b o q n (by show b∉([]:List Addr);simp),λb o q _=>?_,I0.base.tups,I0.base.jt,I0.base.jT⟩,I0.hok.Ia t I0.jH,x'.older hsub,ex⟩
 ·exact t.keep b o (I0.base.keep b o q n hb (by show b∉([]:List Addr);simp)) (nL b o q hb) (fin b o q)
 ·obtain⟨sl,q1⟩:=I0.base.slot b o q n hb (by show b∉([]:List Addr);simp);obtain⟨sl',q2⟩:=t.slot b _ q1 (show b∈s.heap.objs.size::frs outer from gb _ hb);exact⟨sl',q2⟩
 ·obtain⟨o',q1⟩:=I0.base.there b o q (by show b∉([]:List Addr);simp);exact t.there b o' q1
section
variable {X:Cx}{cm:Bool}{k:Nat}{f C:Addr}{fd:FuncData}{ps:List Str}{sp:Sp}{EX:XS}{x m:Str}{p pos apos:Pos}{e o:Expr}{es:List Expr}{ta:TE}{t:TA}
theorem Raises.pass(R:Raises X EX)(I:Inv X ao Z H s)(h:gD X.prog X.w X.stack H s (EX Z) v s'):X.xe v s':=by
 obtain⟨a,C,dx,H',rfl,os,bare,un,hok,x,q⟩:=h;have aq:Sub s.heap s'.heap:=λb o z=>un.there b o z (by simp);refine R ao Z H' s' s.heap a C dx (I.call' os un hok bare λb z=>absurd z (by simp)) (λb o z n=>I.base.there b o z n) (λp hp=>?_) aq x q;exact⟨p.2,(I.pin p hp).1⟩
noncomputable def BK(sp:Sp)(EX:XS)(t:TA):TE:=λZ H Q=>t Z H λvs H1=>sp vs H1 Q (EX Z)
theorem zja(F:cB X.prog X.w X.K X.mg X.base (gD X.prog X.w) cm k f fd ps sp)(jw:cm=true->X.aj=true)(hr:bA k X.A)(hb:Binds X.K fd ps [])(R:Raises X EX)
  (I:Inv X ao Z H s) (r:Vals vs us) (h:sp vs H Q (EX Z)):wpAny (model X.prog X.w) X.A (call (.ref f) us) (EP X ao Z Q) X.xe s:=by
 have hl:us.length=ps.length:=by rw[<-r.length];exact F.len _ _ _ _ h
 have hb':=hb s us I.kZ (by rw[yL];exact hl);rw[yL] at hb';refine yO (DK (F.run X.A X.stack s H ⟨us,[]⟩ us vs Q (EX Z) (λz=>I.ok.hd (jw z)) hr I.env0 hb' r h) λr s' hq=>?_);cases r with
 |error v=>exact R.pass I hq
 |ok fl=>
  cases fl with
  |ret u=>exact I.after hq
  |next=>exact False.elim hq
  |brk=>exact False.elim hq
  |cont=>exact False.elim hq
theorem zhx(F:cB X.prog X.w X.K X.mg X.base (gD X.prog X.w) cm k f fd ps sp)(jw:cm=true->X.aj=true)(hr:bA k X.A)(hg:Gl X x)(hm:X.mg x=some (.ref f))(hk:PySem.W.keepIn X.K (.ref f)=true)(hb:Binds X.K fd ps [])(R:Raises X EX)
  (ha:PA X (e::es) t) (jx:(x==("__debug__" : Str))=false:=by decide) (he:starEach (e::es) X.env=(false,eval e X.env)::starEach es X.env:=by rfl) (hpl:(backTo pos (starEach es X.env)).any (·.1)=false:=by rfl) :
  PE X (.Call (.Name x p) (e::es) [] pos) (BK sp EX t):=by
 intro ao s Z H Q I h;refine Dt (Ef I hg hm ?_ jx);exact Px (h₀:=X.base) I.ok.mod.vX hk (bf (ha pos ao s Z H _ I h) λus s1 ⟨vs,H1,I1,r,q⟩=>⟨I1.kZ,zja F jw hr hb R I1 r q⟩) he hpl
theorem aU.there{P:Program}{w:World}{H:Hp}{h:Heap}{a:Addr}{o:HO}(x:aU P w H h a o):∃ob,h.get? a=some ob:=by
 cases o with
 |lst xs=>obtain⟨_,_,_,_,q⟩:=x;exact⟨_,q⟩
 |tup xs=>obtain⟨_,_,_,ob,q,_⟩:=x;exact⟨_,q⟩
 |dK kvs=>obtain⟨_,_,_,_,ob,_,_,q,_⟩:=x;exact⟨_,q⟩
 |dT kvs=>obtain⟨_,_,_,_,ob,_,_,q,_⟩:=x;exact⟨_,q⟩
 |set S n=>obtain⟨ob,_,_,_,q,_⟩:=x;exact⟨_,q⟩
 |ins C dx fs=>obtain⟨_,_,_,q,_⟩:=x;exact⟨_,q⟩
 |own y=>exact x
 |xd fs=>obtain⟨_,⟨_,_,_,q,_⟩,_⟩:=x;exact⟨_,q⟩
 |rng lo hi=>obtain⟨_,_,_,q⟩:=x;exact⟨_,q⟩
 |t_ ob u=>obtain⟨q,_⟩:=x;exact⟨_,q⟩
 |yQ ps=>exact⟨_,(show h.get? a=some _ from x)⟩
 |met f y=>exact⟨_,(show h.get? a=some _ from x)⟩
 |ext U=>obtain⟨_,q,_⟩:=x;exact q
theorem zjD{K:W.Frag}{h:Heap}{C:Addr}{bmB:List Value}{newId:String}(XI:K.In h)(q:PySem.W.excIn K C bmB newId=true) :
  ∃bm N nm qn bs hdct sn aq ab col dd k0 k1 k2 k3 k5 mN,h.get? C=some (excClassObj nm qn C N bs bm hdct sn aq ab col dd k0 k1 k2 k3 k5 newId)/\h.Ns N mN/\mN "__init__"=none/\OwnTail h bmB bm:=by
 unfold PySem.W.excIn at q;split at q
 ·rename_i dd cd sl lk;split at q
  ·rename_i C' bm k0 k1 k2 k3 nw k5 em es;simp only[eY,fL,K8] at q;obtain⟨⟨⟨⟨⟨rfl,rfl⟩,oA⟩,tl⟩,Ek⟩,Ib⟩:=q;obtain⟨nm,bs,mro,ns,qn,hd,sn,aq,ab,col,del⟩:=cd;dsimp only at em oA Ek Ib;subst em oA;have esl:sl=#[k0,k1,k2,k3,some (.builtin nw),k5]:=by
    obtain⟨ll⟩:=sl;simp only at es;rw[es]
   subst esl;exact⟨bm,ns,nm,qn,bs,hd,sn,aq,ab,col,dd,k0,k1,k2,k3,k5,_,XI _ _ lk,.of_isNs (PySem.W.isNs_of_in XI Ek),PySem.W.nsMap_none_of_in XI Ek Ib,PySem.W.tail_of_in XI tl⟩
  ·cases q
 ·cases q
noncomputable def BL(EX:XS)(C:Addr)(t:TA):TS:=λ_ Z H=>t Z H λvs H1=>vs.length<=sizeLine/\EX Z (.ref C) none H1
theorem ziq{B Bn newId nid initId inN:String}{bmB bmN:List Value}(Fn:ExcBaseFacts Bn newId inN bmN)(v9:bmB.contains (.type Bn)=true)(FB:ExcBaseFacts B nid initId bmB)(hc:X.aj=true)(hX:PySem.W.excIn X.K C bmB newId=true)(hg:Gl X x)(hm:X.mg x=some (.ref C))
  (R:Raises X EX) (ha:PA X (e::es) t) (jx:(x==("__debug__" : Str))=false:=by decide) (he:starEach (e::es) X.env=(false,eval e X.env)::starEach es X.env:=by rfl) (hpl:(backTo apos (starEach es X.env)).any (·.1)=false:=by rfl) :
  PS X (.Raise (some (.Call (.Name x p) (e::es) [] apos)) none pos) (BL EX C t):=by
 intro ao s Z H D I h;obtain⟨bm,N,nm,qn,bs,hdct,sn,aq,ab,col,dd,k0,k1,k2,k3,k5,mN,hC,hN,Ra,T⟩:=zjD I.mod.vX hX;refine wpAny_Raise_call_subU (C:=C) (nm:=nm) (q:=qn) (N:=N) (bs:=bs) (bm:=bm) (hdct:=hdct) (sn:=sn) («sub»:=aq) (ab:=ab) (col:=col) (dd:=dd) (k0:=k0) (k1:=k1) (k2:=k2) (k3:=k3) (k5:=k5)
  Fn v9 FB (mN:=mN) (T.hasType FB.hasBase) (I.ok.hd hc) (by rw[he];show (false||(backTo apos (starEach es X.env)).any (·.1))=false;rw[hpl];rfl) Ra (Ef I hg hm ⟨rfl,?_⟩ jx)
 have h2:=ha apos ao s Z H _ I h;rw[he] at h2 ⊢;refine Pk (bf h2 λus s2 ⟨vs,H2,I2,r,z,q⟩=>⟨rfl,by rw[<-r.length];exact z,I2.bk _ _ hC,hN.keeps I2.bk,T.keeps I2.bk,λh' a mx=>?_⟩);obtain⟨tt,ge,_,_⟩:=mx.there;have un:H2 a=none:=by
  cases z:H2 a with
  |none=>rfl
  |some u=>
   have lt:=I2.hok.lt z;obtain⟨ob,z'⟩ : ∃ob,s2.heap.get? a=some ob:=by
    have:=I2.hok a u z;exact aU.there this
   rw[mx.new] at z';cases z'
 exact R ao Z H2 _ s2.heap a C none (I2.kept (t':=s2.toks) mx.keeps) (λb ob z n=>I2.base.there b ob z n) (λq hq=>⟨q.2,(I2.pin q hq).1⟩) (λb ob z=>⟨ob,mx.keeps b ob z⟩) ⟨mx.new,un,_,_,_,ge,rfl,rfl,rfl,rfl,.inl rfl⟩ q
end
noncomputable def jX(a C:Addr)(dx:Option Addr):HO:=.ext λh=>∃oe vs,h.get? a=some oe/\oe.cls=.ref C/\oe.dict=dx/\oe.data=.fields vs
theorem zjW(x:Exc h0 H0 h a C dx):aU P w H h a (jX a C dx):=by
 obtain⟨oe,vs,hd,q,c,d,f,_⟩:=x.ob;exact⟨⟨oe,vs,q,c,d,f⟩,⟨oe,q⟩,λh1 h2 ⟨o1,v1,q1,c1,d1,f1⟩ k=>⟨o1,v1,k o1 q1,c1,d1,f1⟩⟩
section
variable {X:Cx}{ao:List (Addr×Obj)}{Z:St}{H:Hp}{s:Shared}{e:Addr}{o:HO}
theorem Inv.track(I:Inv X ao Z H s)(hn:X.s₀.heap.get? e=none)(un:H e=none)(hp:∀p∈X.pn++ao,p.1≠e)(hL:e≠X.env.locals)(hc:∀x c,X.env.cells.lookup x=some c->c≠e)
  (new:aU X.prog X.w (upd H e o) s.heap e o):Inv X ao Z (upd H e o) s:=by
 have ne:∀b u,H b=some u->b≠e:=λb u q z=>by rw[z,un] at q;cases q
 have n0:∀b u,X.s₀.heap.get? b=some u->b≠e:=λb u q z=>by rw[z,hn] at q;cases q
 refine⟨I.ok,I.os,I.bare,⟨I.base.keep,I.base.slot,λb u q n hx=>?_,I.base.there,λb xs q=>?_,λb u v q=>?_,λb ps q=>?_⟩,I.loc,I.cell,?_,λx c q=>?_,λp q=>?_,λb u q=>?_,I.len⟩
 ·rw[cW (n0 b u q)];exact I.base.free b u q n hx
 ·have z:=I.base.tups b xs q;rw[cW (ne b _ z)];exact z
 ·have z:=I.base.jt b u v q;rw[cW (ne b _ z)];exact z
 ·obtain⟨m,z⟩:=I.base.jT b ps q;exact⟨m,by rw[cW (ne b _ z)];exact z⟩
 ·rw[cW hL.symm];exact I.free
 ·rw[cW (hc x c q)];exact I.fB x c q
 ·obtain⟨a1,a2,a3⟩:=I.pin p q;exact⟨a1,by rw[cW (hp p q)];exact a2,a3⟩
 ·by_cases z:b=e
  ·subst z;rw[iV] at q;cases q;exact new
  ·rw[cW z] at q;exact(I.hok b u q).stay (λ_ _ _ r=>r) (λc r=>by rw[cW (ne c _ r)];exact r) λc xs r=>by rw[cW (ne c _ r)];exact r
noncomputable def Cx.seen(X:Cx)(A:Around)(aj:Bool)(pn:List (Addr×Obj))(E:Value->Shared->Prop):Cx:={X with A:=A,aj:=aj,pn:=pn,xe:=E}
theorem Inv.seen(I:Inv X ao Z H s)(hA:A.frames=X.A.frames)(hc:c=true->A.handled=none)(hp:∀p∈pn++ps,p∈X.pn++ao):Inv (X.seen A c pn E) ps Z H s:=
 ⟨⟨I.ok.mod,I.ok.kind,I.ok.glob,I.ok.blt,I.ok.above,I.ok.inj,I.ok.has,I.ok.cab,hc,hA.trans I.ok.frames,I.ok.stk,I.ok.WT,I.ok.bs,I.ok.wK,I.ok.uc,I.ok.wL,I.ok.ju,I.ok.Bb⟩,I.os,I.bare,I.base,I.loc,I.cell,I.free,I.fB,λp z=>I.pin p (hp p z),I.hok,I.len⟩
theorem Inv.fP(I:Inv (X.seen A c pn E) ps Z H s)(hA:X.A.frames=A.frames)(hc:X.aj=true->X.A.handled=none)(hp:∀p∈X.pn++ao,p∈pn++ps):Inv X ao Z H s:=
 ⟨⟨I.ok.mod,I.ok.kind,I.ok.glob,I.ok.blt,I.ok.above,I.ok.inj,I.ok.has,I.ok.cab,hc,hA.trans I.ok.frames,I.ok.stk,I.ok.WT,I.ok.bs,I.ok.wK,I.ok.uc,I.ok.wL,I.ok.ju,I.ok.Bb⟩,I.os,I.bare,I.base,I.loc,I.cell,I.free,I.fB,λp z=>I.pin p (hp p z),I.hok,I.len⟩
theorem SP.fP(h:SP (X.seen A c pn E) ps D f s)(hA:X.A.frames=A.frames)(hc:X.aj=true->X.A.handled=none)(hp:∀p∈X.pn++ao,p∈pn++ps):SP X ao D f s:=by
 cases f with
 |next=>obtain⟨a,b,bR,q⟩:=h;exact⟨a,b,bR.fP hA hc hp,q⟩
 |brk=>obtain⟨a,b,bR,q⟩:=h;exact⟨a,b,bR.fP hA hc hp,q⟩
 |cont=>obtain⟨a,b,bR,q⟩:=h;exact⟨a,b,bR.fP hA hc hp,q⟩
 |ret u=>obtain⟨v,a,b,bR,r,q⟩:=h;exact⟨v,a,b,bR.fP hA hc hp,r,q⟩
theorem Inv.gone(I:Inv X ao Z H s)(hN:X.N.Nodup)(hi:X.N[i]?=some n)(hl:X.env.kindOf n=some .local)(hm:s.heap.Ns X.env.locals m)
  (hn:h'.Ns X.env.locals (λx=>if x=n then v else m x)) (sb:Heap.SameBut X.env.locals s.heap h'):Inv X ao (Z.set i none) H {s with heap:=h',toks:=t'}:=by
 have kp:∀b u,b≠X.env.locals->s.heap.get? b=some u->h'.get? b=some u:=λb u z q=>(sb.2 b z).trans q;have n0:∀b u,X.s₀.heap.get? b=some u->b≠X.env.locals:=λb u q=>dw (gJ (bN q) I.ok.above);have nH:∀b u,H b=some u->b≠X.env.locals:=λb u q z=>by rw[z,I.free] at q;cases q
 refine⟨I.ok,I.os,I.bare,⟨λb u q n hb hx=>kp b u (n0 b u q) (I.base.keep b u q n hb hx),λb u q n hb hx=>?_,I.base.free,λb u q hx=>?_,I.base.tups,I.base.jt,I.base.jT⟩,⟨_,hn,λj x w e1 e2 e3=>?_⟩,λx c q=>?_,I.free,I.fB,λp q=>?_,λb u q=>?_,by rw[lB];exact I.len⟩
 ·obtain⟨sl,z⟩:=I.base.slot b u q n hb hx;exact⟨sl,kp b _ (n0 b u q) z⟩
 ·obtain⟨u',z⟩:=I.base.there b u q hx;exact⟨u',kp b u' (n0 b u q) z⟩
 ·have X8:i≠j:=λz=>by
   subst z;by_cases hl:i<Z.length
   ·rw[vL hl] at e2;cases e2
   ·rw[FT (by rw[lB];lia)] at e2;cases e2
  rw[pH X8] at e2;obtain⟨m2,hm2,tu⟩:=I.loc;obtain⟨u,r,l⟩:=tu j x w e1 e2 e3;refine⟨u,r,?_⟩;rcases l with ⟨k1,k2⟩|⟨k1,c,k2,oc,k3,k4⟩
  ·refine .inl ⟨k1,?_⟩;have nx:x≠n:=λz=>X8 (Qd hN (by rw[z] at e1;exact hi) (z▸e1));have em:m=m2:=by
    obtain⟨o1,es1,ep1,g1,d1,t1,f1⟩:=hm;obtain⟨o2,es2,ep2,g2,d2,t2,f2⟩:=hm2;rw[g1] at g2;cases g2;rw[d1] at d2;cases d2
    funext y
    rw[<-f1,<-f2]
   show (if x=n then v else m x)=some u;rw[if_neg nx,em];exact k2
  ·exact .inr ⟨k1,c,k2,oc,kp c oc (I.wM x c k2) k3,k4⟩
 ·obtain⟨u,oc,k3,k4⟩:=I.cell x c q;exact⟨u,oc,kp c oc (I.wM x c q) k3,k4⟩
 ·obtain⟨a1,a2,a3,a4⟩:=I.pin p q;exact⟨kp _ _ a3 a1,a2,a3,a4⟩
 ·exact(I.hok b u q).stay (λc w z r=>kp c w (z.elim (λy=>y▸nH b u q) λy=>nH c _ y) r) (λ_ r=>r) λ_ _ r=>r
end
theorem zhL(x:Exc h0 H s.heap e C dx)(hf:∀b∈fr,∀o vs,s.heap.get? b=some o->o.data≠.fields vs)
  (k:∀h' ch,HY h0 H fr s.heap h' ch->Exc h0 H h' e C dx->Q () {s with heap:=h'}):wpAny M A (setFlight (.ref e) none) Q E s:=by
 obtain⟨oe,vs,hd,he,hc,yV,ou,h1,tb⟩:=x.ob;rcases tb with rfl|⟨T,oT,ts,rfl,nT,uT,neT,gT,dT,h3⟩
 ·unfold setFlight;refine aB (lC he ou h1 ?_);rw[if_neg (by decide)];exact aR (k s.heap [] {rec_:=(λ_ z=>nomatch z),keep:=(λb o q _ _=>q),slot:=(λb o q _=>⟨o.slots,q⟩),there:=(λb o q=>⟨o,q⟩)} x)
 ·refine X6 he ou h1 gT dT (KJ.mp h3).1 λh' kp g'=>?_;have z3:3<ts.size:=(KJ.mp h3).1;refine k h' [T] ⟨λb z=>?_,λb o q _ n=>kp b o (λz=>n (by simp[z])) q,λb o q m=>?_,λb o q=>?_⟩ ⟨x.new,x.un,oe,vs,.ref T,kp e oe neT.symm he,hc,yV,ou,h1,.inr ⟨T,_,_,rfl,nT,uT,neT,g',wI dT _,by simp[z3]⟩⟩
  ·obtain rfl:b=T:=by simpa using z
   exact⟨nT,uT,oT,ts,gT,dT⟩
  ·refine⟨o.slots,kp b o (λz=>?_) q⟩;subst z;rw[gT] at q;cases q;exact hf b m _ ts gT dT
  ·by_cases z:b=T
   ·subst z;exact⟨_,g'⟩
   ·exact⟨o,kp b o z q⟩
theorem zcb{M:Model}{A:Around}{E:Value->Shared->Prop}{K:W.Frag}{h:Heap}{g:Array GenState}{d:Drawn}{t:Nat}{os:OsState}{e C D:Addr}{oe:Obj}{Q:Bool->Shared->Prop}(KI:K.In h)(q:subIn K C D=true)
  (he:h.get? e=some oe) (Bf:oe.cls=.ref C) (hq:Q true ⟨h,g,d,t,os⟩):wpAny M A (excMatches (.ref e) (.ref D)) Q E ⟨h,g,d,t,os⟩:=by
 unfold subIn at q;simp only[eY] at q;obtain⟨⟨q1,q2⟩,q3⟩:=q;obtain⟨nm,qn,N,bs,bm,hdct,sn,aq,ab,col,dd,k0,k1,k2,k3,k5,newId,hC,_,_⟩:=PySem.W.kts_cls KI q1;obtain⟨nm',qn',N',bs',bm',X_,sn',sub',ab',col',Ie,k0',k1',k2',k3',k5',newId',hD,hb',_⟩:=PySem.W.kts_cls KI q2;have m1:(Value.ref C::bm).contains (.ref D)=true:=by
  split at q3
  ·rename_i c0 d0 cd sl lk;have z:=KI _ _ lk;rw[hC] at z;cases z;exact q3
  ·cases q3
 have m2:(Value.ref D::bm').contains (.type "BaseException")=true:=by rw[Py,hb',Bool.or_true]
 have f:=tc_notTuple;unfold excMatches
 repeat (first|(with_reducible refine Af he ?_;rw[Bf])|with_reducible refine Af hD ?_|(with_reducible refine K3 hD ?_;rw[m2])|(with_reducible refine K3 hC ?_;rw[m1])|wp_step)
 exact hq
noncomputable def ux(D:Ends)(i:Nat):Ends:={nx:=λZ H=>D.nx (Z.set i none) H,rt:=D.rt,bk:=λZ H=>D.bk (Z.set i none) H,ct:=λZ H=>D.ct (Z.set i none) H}
noncomputable def Ig(K:W.Frag)(Dc:Addr)(i:Nat)(th:TS)(D:Ends):XS:=λZ C dx H=>∃Ca,C=.ref Ca/\subIn K Ca Dc=true/\∀a,H a=none->th (ux D i) (Z.set i (some (.ref a))) (upd H a (jX a Ca dx))
section
variable {X:Cx}{x n:Str}{np uy pos:Pos}{b₀:Stmt}{body suite:List Stmt}{Dc:Addr}{i:Nat}{tb:XS->TS}{th:TS}
theorem zm0(hex:X.ex=[])(pB:X.stack=X.env::X.outer/\X.env.frame=some X.env.locals)(hg:Gl X x)(hm:X.mg x=some (.ref Dc))(hN:X.N.Nodup)(hi:X.N[i]?=some n)(hl:X.env.scope.names.lookup n=some .local)
  (hb:∀(pn:List (Addr×Obj)) (E':Value->Shared->Prop) (tD:XS),Raises (X.seen X.A X.aj pn E') tD->PassesOwn (model X.prog X.w) X.A X.env E'->nW (X.seen X.A X.aj pn E') body (tb tD))
  (hh:∀e:Value,nW (X.seen (X.A.mark (some e)) false X.pn (λ_ _=>False)) (b₀::suite) th) (jx:(x==("__debug__" : Str))=false:=by decide) :
  PS X (.Try body [.ExceptHandler (some (.Name x np)) (some n) (b₀::suite) uy] [] [] pos) (λD Z H=>tb (Ig X.K Dc i th D) D Z H):=by
 intro ao s Z H D I h;refine wpAny_Try_except ?_;have B:=hb (X.pn++ao) (λe s₁=>wpAny (model X.prog X.w) X.A (noteFrame e X.env) (λ_ s₂=>wpAny (model X.prog X.w) X.A (setFlight e none) (λ_ s₃=>wpAny (model X.prog X.w) X.A (handleBy e X.env [.ExceptHandler (some (.Name x np)) (some n) (b₀::suite) uy]) (SP X ao D) X.xe s₃) X.xe s₂) X.xe s₁) (Ig X.K Dc i th D) ?R PassesOwn.looking [] s Z H D (I.seen rfl I.ok.hd (by intro p z;simpa using z)) h
 case R=>
  intro h_ Z' H' s' h0 e C dx bR hs hp aq xc ⟨Ca,eC,sI,k⟩;cases eC;have I1:Inv X ao Z' H' s':=bR.fP rfl I.ok.hd (λp z=>Dm _ z);have Ih:∀p∈X.pn++ao,∃o,h0.get? p.1=some o:=λp z=>hp p (Dm _ z);show wpAny (model X.prog X.w) X.A (noteFrame (.ref e) X.env) _ X.xe s';refine X7 (base:=X.base) (outer:=X.outer) (L:=X.env.locals) (I1.ok.frames.trans (nF some pB.1)) (pB.1▸I1.stack) pB.2 xc (λb z=>I1.hok.fresh z) aq λh1 ch1 t1 x1=>?_;have I2:=I1.Ia (pB.1▸t1) hs Ih;refine wpAny_handleBy_cons (codeAny_handlers_test ?_) (by intro z;cases z);have I2h:Inv (X.seen (X.A.mark (some (.ref e))) false X.pn (λ_ _=>False)) ao Z' H' {s' with heap:=h1}:=I2.seen rfl (λz=>by cases z) (λp z=>z);refine Ef (E:=_) I2h hg hm ?_ jx;obtain⟨oe,vs,hd,g1,c1,d1,f1,_⟩:=x1.ob;refine zcb I2.kZ sI g1 c1 ?_;refine codeAny_handlers_suite_as ?_;have Rb:∀b∈frs X.stack,∀o vs,h1.get? b=some o->o.data≠.fields vs:=λb hb o vs q d=>by
   obtain⟨_,o',q',nd⟩:=I2.stack.mem hb;have q'':h1.get? b=some o':=q';rw[q] at q'';cases q'';exact nd vs d
  refine zhL (s:={s' with heap:=h1}) (fr:=frs X.stack) x1 Rb λh2 wg t2 x2=>?_;have I3:Inv X ao Z' H' {s' with heap:=h2}:=I2.Ia t2 hs Ih;obtain⟨oe2,vs2,hd2,g2,c2,d2,f2,_⟩:=x2.ob;have ns0:X.s₀.heap.get? e=none:=by
   cases z:X.s₀.heap.get? e with
   |none=>rfl
   |some u=>
    obtain⟨u',z'⟩:=hs e u z (by show e∉X.ex;rw[hex];simp);rw[x2.new] at z';cases z'
  have nL:e≠X.env.locals:=λz=>by
   obtain⟨m,⟨ol,es,ep,e1,e2,_⟩,_⟩:=I3.loc;have e1':h2.get? X.env.locals=some ol:=e1;rw[<-z,g2] at e1';cases e1';rw[f2] at e2;cases e2
  have nC:∀y c,X.env.cells.lookup y=some c->c≠e:=λy c q z=>by
   obtain⟨v,oc,e1,e2⟩:=I3.cell y c q;have e1':h2.get? c=some oc:=e1;rw[z,g2] at e1';cases e1';rw[f2] at e2;cases e2
  have I4:=I3.track (o:=jX e C dx) ns0 x2.un (λp z y=>by
   obtain⟨u,q⟩:=Ih p z;rw[y,x2.new] at q;cases q) nL nC (zjW x2)
  have I4h:Inv (X.seen (X.A.mark (some (.ref e))) false X.pn (λ_ _=>False)) ao Z' (upd H' e (jX e C dx)) {s' with heap:=h2}:=I4.seen rfl (λz=>by cases z) (λp z=>z);refine Qg (X:=X.seen (X.A.mark (some (.ref e))) false X.pn (λ_ _=>False)) (v:=.ref e) I4h hN hi (.inl hl) rfl (λs5 I5=>?_) (.inr hl);refine gZ (hh (.ref e) ao s5 _ _ (ux D i) I5 (k e x2.un)) (λf s6 q6=>?_) (λ_ _ z=>z.elim);have hkd:(X.env.scope.kind==.class||(X.env.scope.kind==.module&&X.env.locals != X.env.globals))=false:=by rw[I.ok.kind];rfl
  have fin:∀{Z6:St} {H6:Hp} {Q:Shared->Prop},Inv (X.seen (X.A.mark (some (.ref e))) false X.pn (λ_ _=>False)) ao Z6 H6 s6->(∀s7,Inv X ao (Z6.set i none) H6 s7->Q s7)->
    wpAny (model X.prog X.w) X.A (do bindName X.env n .none;unbindBehindTheSuite X.env n uy) (λ_ s7=>Q s7) X.xe s6:=λ{Z6 H6 Q} jd kq=>by
   have bR:Inv X ao Z6 H6 s6:=jd.fP rfl I.ok.hd (λp z=>z);obtain⟨m,Yb,_⟩:=id bR.loc;exact wpAny_nameGoes_keeps hl Yb hkd λh' v wN sb=>kq _ (bR.gone hN hi hl Yb wN sb)
  cases f with
  |next=>obtain⟨Z6,H6,jd,q⟩:=q6;exact fin jd λs7 mQ=>⟨_,_,mQ,q⟩
  |brk=>obtain⟨Z6,H6,jd,q⟩:=q6;exact fin jd λs7 mQ=>⟨_,_,mQ,q⟩
  |cont=>obtain⟨Z6,H6,jd,q⟩:=q6;exact fin jd λs7 mQ=>⟨_,_,mQ,q⟩
  |ret u=>obtain⟨v,Z6,H6,jd,r,q⟩:=q6;exact fin jd λs7 mQ=>⟨v,_,_,mQ,r,q⟩
 refine gZ B (λf s1 q=>?_) λ_ _ z=>z;have q':SP X ao D f s1:=SP.fP q rfl I.ok.hd (by intro p z;simpa using z);cases f with
 |next=>exact Gi q'
 |brk=>exact q'
 |cont=>exact q'
 |ret u=>exact q'
end
end L2
namespace L2
open PySem PySem.Spec PyProof.Rows PySem.W Builtin.ObjectAttr
section
variable {prog:Program}{w:World}{A:Around}{E:Value->Shared->Prop}{s:Shared}{K:Frag}{x C:Addr}{ox:Obj}{od:Option Obj}{name:Str}{tk:Tok}
theorem zje(XI:K.In s.heap)(I:InstAt s.heap x ox C od)(hf:findObj K C od name=some r)
  (h:match r with|.value v=>Q (.done (.ret v)) s|.bind g a=>wpAny (model prog w) A (call g [a,.ref x,.ref C]) (λv s'=>Q (.done (.ret v)) s') E s|.missing=>False) :
  wpAny (model prog w) A (Builtin.«object.__getattribute__» ⟨[.ref x,.str name tk],[]⟩) Q E s:=by
 obtain⟨hh,g,d,t,os⟩:=s;have L0:=I.type (M:=model prog w);have L1:=looks_find (M:=model prog w) XI I hf;unfold Builtin.«object.__getattribute__»;refine aB (wpAny_of_eq (a:=(Value.ref x,[Value.str name tk])) (by rfl) ?_);refine aB (wpAny_of_eq (a:=name) (by rfl) ?_);refine aB (L0.at (aB (L1.at ?_)));cases r with
 |value v=>exact aR h
 |bind g a=>
  show wpAny _ _ (holding [a] (call g [a,.ref x,.ref C]) >>= ret) _ _ _;exact aB (pq (gZ h (λv s' z=>aR z) λ_ _ z=>z))
 |missing=>exact h.elim
theorem zgc(XI:K.In s.heap)(I:InstAt s.heap x ox C od)(hb:mroIn K C (.type "BaseException")=some true)(hf:findObj K C od name=some r)
  (h:match r with|.value v=>R (.ok (.ret v)) s|.bind g a=>wpAny (model prog w) A.in1 (call g [a,.ref x,.ref C]) (λv s'=>R (.ok (.ret v)) s') (λe s'=>R (.error e) s') s|.missing=>False) :
  codeAny (model prog w) A (.call (.builtin "BaseException.__getattribute__") ⟨[.ref x,.str name tk],[]⟩) R s:=by
 have hk:builtinKind "BaseException.__getattribute__"=some .slot:=by decide +kernel
 have BP:splitId "BaseException.__getattribute__"=some ("BaseException","__getattribute__"):=by decide +kernel
 have ha:=F.args_bexc_ga (.ref x) (.str name tk);refine codeAny_call_builtin F.attr_ValueError.ga.plain F.entry_bexc_ga ?_;have fin:wpAny (model prog w) A.in1 (Builtin.«object.__getattribute__» ⟨[.ref x,.str name tk],[]⟩) (λfin s'=>match fin with|.done f=>R (.ok f) s'|.again c'=>c'.quiet=true/\codeAny (model prog w) A c' R s') (λe s'=>R (.error e) s') s:=by
  refine zje XI I hf ?_;cases r with
  |value v=>exact h
  |bind g a=>exact h
  |missing=>exact h.elim
 have chk:∀Q:Unit->Shared->Prop,Q () s->wpAny (model prog w) A.in1 (checkBuiltinCall "BaseException.__getattribute__" ⟨[.ref x,.str name tk],[]⟩) Q (λe s'=>R (.error e) s') s:=λQ hq=>by
  obtain⟨hh,g,d,t,os⟩:=s;have L0:=I.type (M:=model prog w);have L1:=looks_mroIn (M:=model prog w) XI hb;have LI:Looks (model prog w) hh (isInstance (.ref x) (.type "BaseException")) true:=L0.andThen L1;simp only[checkBuiltinCall,hk,BP];refine aB ?_
  repeat (first|with_reducible exact hq|with_reducible refine LI.at ?_|wp_step)
 exact chk _ fin
theorem bexc_get?(XI:K.In s.heap)(I:InstAt s.heap x ox C od)(hb:mroIn K C (.type "BaseException")=some true)(hga:findIn K (.ref C) "__getattribute__"=some (some (.builtin "BaseException.__getattribute__")))
  (hgn:findIn K (.ref C) "__getattr__"=some none) (hf:findObj K C od name=some r)
  (h:match r with|.value v=>wpAny (model prog w) A (handedOut v) (λu s'=>Q (some u) s') (λ_ _=>False) {s with toks:=s.toks+1}|.bind g a=>wpAny (model prog w) A.in1 (call g [a,.ref x,.ref C]) (λv s'=>wpAny (model prog w) A (handedOut v) (λu s''=>Q (some u) s'') (λ_ _=>False) s') (λ_ _=>False) {s with toks:=s.toks+1}|.missing=>False) :
  wpAny (model prog w) A (getAttr? (.ref x) name) Q E s:=by
 obtain⟨hh,g,d,t,os⟩:=s;have L0:=I.type (M:=model prog w);have L1:=looks_findIn (M:=model prog w) XI hga;have L2:=looks_findIn (M:=model prog w) XI hgn;have Ms:(Value.builtin "BaseException.__getattribute__"==Value.builtin "object.__getattribute__")=false:=by decide +kernel
 unfold getAttr? getAttrBy? getAttrBy;refine aB (wpAny_mkText (aB (Gn (pq (aB (L0.at (aB (L1.at ?_))))))));show wpAny _ _ (if (onTheHeap (.ref C)&&(Value.builtin "BaseException.__getattribute__"==Value.builtin "object.__getattribute__"))=true then _ else getAttrByItsOwn _ _ _ _ _ _) _ _ _;rw[Ms,Bool.and_false,if_neg (by decide)];unfold getAttrByItsOwn hookBefore callGetattribute boundAndCalled;refine aB (L2.at ?_);refine aB (Gn (pq (aB (wpAny_of_eq (F.attr_ValueError.ga.bind (.ref x)) ?_))));refine yO (zgc XI I hb hf ?_);cases r with
 |value v=>exact gZ h (λv s'' hv=>aR hv) (λ_ _ z=>z.elim)
 |bind g a=>exact gZ h (λv s' hv=>gZ hv (λu s'' z=>aR z) λ_ _ z=>z.elim) (λ_ _ z=>z.elim)
 |missing=>exact h.elim
end
structure XC(K:Frag)(C:Addr):Prop where
 ga:findIn K (.ref C) "__getattribute__"=some (some (.builtin "BaseException.__getattribute__"))
 gn:findIn K (.ref C) "__getattr__"=some none
 cl:findIn K (.ref C) "__class__"=some (some (.builtin "object.__class__"))
 mb:mroIn K C (.type "BaseException")=some true
 mo:mroIn K C (.type "object")=some true
 cd:(clsIn K C).isSome=true
 dg:specialIn K (.builtin "object.__class__") "__get__"=some (some (.builtin "getset_descriptor.__get__"))
 dt:takesIn K (.builtin "object.__class__")=some true
theorem zfU{K:Frag}{C:Addr}{od:Option Obj}{name:Str}{a g:Value}(hc:(clsIn K C).isSome=true)(ha:findIn K (.ref C) name=some (some a))(hg:specialIn K a "__get__"=some (some g))(ht:takesIn K a=some true):findObj K C od name=some (.bind g a):=by
 obtain⟨cd,z⟩:=O7.mp hc;simp only[findObj,z,ha,hg,ht,Option.bind_some]
theorem Yc{K:Frag}{e C:Addr}(c:XC K C):KitX K (.ref e) (.ref C) (λh=>∃ox od,InstAt h e ox C od) where
 ty:=λ_ _ _ ⟨_,_,I⟩=>I.type
 it:=λ_ _ XI _=>by
  have q:=c.cd;unfold clsIn at q;split at q
  ·rename_i c' d' cd' sl' lk;intro A' Q' E' s' k z;unfold isType loadHead;exact aB (wpAny_loadPart (k _ _ (XI _ _ lk)) (aR z))
  ·cases q
 ne:=λh tp dd its n sl XI htp=>by
  refine Bool.eq_false_iff.mpr λz=>?_;have ee:C=tp:=Value.ref.inj (fL.mp z);subst ee;have q:=c.cd;unfold clsIn at q;split at q
  ·rename_i c' d' cd' sl' lk;have y:=(XI _ _ lk).symm.trans htp;cases y
  ·cases q
 ca:=λ{prog w A E Q s} XI ⟨ox,od,I⟩ k=>by
  have hf:findObj K C od "__class__"=some (.bind (.builtin "getset_descriptor.__get__") (.builtin "object.__class__")):=zfU c.cd c.cl c.dg c.dt;refine bexc_get? XI I c.mb c.ga c.gn hf ?_;exact yO (class_get (s:={s with toks:=s.toks+1}) (ox:=ox) (od:=od) XI I c.mo (handed_on rfl k))
end L2
namespace L2
open PySem PySem.Spec PyProof.Rows
theorem zff:∀(names:List (Str×NameKind)) (cs:List (Str×Addr)),(∀x∈names,x.2=.free->∃c,env.cells.lookup x.1=some c)->(∀x c,cs.lookup x=some c->env.cells.lookup x=some c)->
  ∃cl,(forIn names cs λx r=>(do
    if x.2==.free then
     let a <-cellOf env x.1
     pure (ForInStep.yield ((x.1,a)::r))
    else pure (ForInStep.yield r)):Sem (List (Str×Addr)))=pure cl/\(∀x c,cl.lookup x=some c->env.cells.lookup x=some c)/\(∀x c,cs.lookup x=some c->cl.lookup x=some c)/\∀x∈names,x.2=.free->∃c,cl.lookup x.1=some c:=by
 intro names
 induction names with
 |nil=>intro cs _ h;exact⟨cs,rfl,h,λ_ _ q=>q,λx z=>nomatch z⟩
 |cons y r ih=>
  intro cs h1 h2;obtain⟨n,k⟩:=y;by_cases hk:k=.free
  ·subst hk;obtain⟨c,hc⟩:=h1 (n,.free) jF rfl;have hc:env.cells.lookup n=some c:=hc;have h3:∀x d,((n,c)::cs).lookup x=some d->env.cells.lookup x=some d:=λx d q=>by
    rw[mj] at q;by_cases z:x=n
    ·subst z;simp at q;subst q;exact hc
    ·have z':(x==n)=false:=by simpa using z
     rw[z'] at q;exact h2 x d q
   obtain⟨cl,e,a,b,d⟩:=ih ((n,c)::cs) (λx z=>h1 x (gb _ z)) h3;have hco:cellOf env n=pure c:=by
    unfold cellOf;rw[hc]
   refine⟨cl,?_,a,λx q z=>?_,λx z q=>?_⟩
   ·rw[Dy];simp only[Dw,if_true,hco];exact e
   ·by_cases y:x=n
    ·subst y;have z1:=h2 x q z;rw[hc] at z1;cases z1;exact b x c (by simp)
    ·have y':(x==n)=false:=by simpa using y
     exact b x q (by rw[mj,y'];exact z)
   ·rcases gY.mp z with z|z
    ·subst z;exact⟨c,b n c (by simp)⟩
    ·exact d x z q
  ·have hb:(k==NameKind.free)=false:=by simpa using hk
   obtain⟨cl,e,a,b,d⟩:=ih cs (λx z=>h1 x (gb _ z)) h2;refine⟨cl,?_,a,b,λx z q=>?_⟩
   ·rw[Dy];simp only[hb,yI,sY];exact e
   ·rcases gY.mp z with z|z
    ·subst z;exact absurd q hk
    ·exact d x z q
theorem zeY(h:∀x∈scope.names,x.2=.free->∃c,env.cells.lookup x.1=some c):∃cl,closureFor scope env=pure cl/\(∀x c,cl.lookup x=some c->env.cells.lookup x=some c)/\∀x∈scope.names,x.2=.free->∃c,cl.lookup x.1=some c:=by
 obtain⟨cl,e,a,_,d⟩:=zff scope.names [] h (λx c q=>by cases q);refine⟨cl,?_,a,d⟩;unfold closureFor;have e':=e;simp only[pure_bind,bind_pure] at e' ⊢;exact e'
theorem Rf{env:Env}{k:NameKind}:∀{names:List (Str×NameKind)} {x:Str},(names.map λ(n,k)=>if (k==NameKind.free&&env.scope.kind==.function&&env.kindOf n==some .cell) then (n,NameKind.cell) else (n,k)).lookup x=some k->
  names.lookup x=some k\/(k=.cell/\names.lookup x=some .free)
 |[],x,h=>by simp at h
 |(n,q)::r,x,h=>by
  rw[iU,mj] at h;rw[mj];have hd:∀c:Bool,(if c=true then (n,NameKind.cell) else (n,q)).1=n:=λc=>by cases c<;>rfl
  rw[hd] at h;by_cases z:x=n
  ·subst z;simp only[Dw] at h ⊢;split at h
   ·rename_i y;simp only[eY,fL] at y;cases h;exact .inr ⟨rfl,by rw[y.1.1]⟩
   ·cases h;exact .inl rfl
  ·have z':(x==n)=false:=by simpa using z
   simp only[z'] at h ⊢;exact Rf h
theorem Mu{env:Env}:∀{names:List (Str×NameKind)} {x:Str},names.lookup x=some .free->
  (names.map λ(n,k)=>if (k==NameKind.free&&env.scope.kind==.function&&env.kindOf n==some .cell) then (n,NameKind.cell) else (n,k)).lookup x=some .cell \/
  (names.map λ(n,k)=>if (k==NameKind.free&&env.scope.kind==.function&&env.kindOf n==some .cell) then (n,NameKind.cell) else (n,k)).lookup x=some .free
 |[],x,h=>by simp at h
 |(n,q)::r,x,h=>by
  rw[mj] at h;rw[iU,mj];have hd:∀c:Bool,(if c=true then (n,NameKind.cell) else (n,q)).1=n:=λc=>by cases c<;>rfl
  rw[hd];by_cases z:x=n
  ·subst z;simp only[Dw] at h ⊢;cases h
   split
   ·exact .inl rfl
   ·exact .inr rfl
  ·have z':(x==n)=false:=by simpa using z
   simp only[z'] at h ⊢;exact Mu h
structure oE(n:Nat)(h1:Heap)(names:List (Str×NameKind))(cl jK:List (Str×Addr)):Prop where
 d1:∀x c,jK.lookup x=some c->(cl.lookup x=some c/\(x,NameKind.cell)∉names)\/((x,NameKind.cell)∈names/\n<c/\h1.IsCell c none)
 d2:∀x y c,n<c->jK.lookup x=some c->jK.lookup y=some c->x=y
 d3:∀x,names.lookup x=some .cell->∃c,jK.lookup x=some c
 d4:∀x c,(x,NameKind.cell)∉names->cl.lookup x=some c->jK.lookup x=some c
theorem cc:(NameKind.cell==NameKind.cell)=true:=by decide
theorem Ii:∀(names:List (Str×NameKind)) (h:Heap) (b:Addr) (o:Obj),h.get? b=some o->(pushCells h names).get? b=some o
 |[],h,b,o,e=>e
 |(x,k)::r,h,b,o,e=>by
  rw[pushCells]
  split
  ·exact Ii r _ b o (bY _ e)
  ·exact Ii r h b o e
theorem Rg:∀(names:List (Str×NameKind)) (h:Heap) (acc:List (Str×Addr)) (x:Str) (c:Addr),(cellsFrom h.objs.size names acc).lookup x=some c->
  (acc.lookup x=some c/\(x,NameKind.cell)∉names)\/((x,NameKind.cell)∈names/\h.objs.size<=c/\(pushCells h names).IsCell c none)
 |[],h,acc,x,c,e=>.inl ⟨e,by simp⟩
 |(y,k)::r,h,acc,x,c,e=>by
  rw[cellsFrom] at e;rw[pushCells];by_cases hk:k=.cell
  ·subst hk;rw[if_pos cc] at e ⊢;have sz:(h.push {cls:=Value.type "cell",data:=Data.cell none}).objs.size=h.objs.size+1:=by unfold Heap.push;simp
   rw[<-sz] at e;rcases Rg r _ _ x c e with ⟨a,b⟩|⟨a,b,d⟩
   ·rw[mj] at a;by_cases z:x=y
    ·subst z;simp at a;subst a;exact .inr ⟨jF,bO _,_,Ii r _ _ _ (fO _ rfl),rfl⟩
    ·have z':(x==y)=false:=by simpa using z
     rw[z'] at a;exact .inl ⟨a,by simp[z,b]⟩
   ·exact .inr ⟨gb _ a,by lia,d⟩
  ·have hb:(k==NameKind.cell)=false:=by simpa using hk
   rw[if_neg (by rw[hb];decide)] at e ⊢;rcases Rg r _ _ x c e with ⟨a,b⟩|⟨a,b,d⟩
   ·exact .inl ⟨a,by simp[b];intro _ q;exact hk q.symm⟩
   ·exact .inr ⟨gb _ a,b,d⟩
theorem Rh:∀(names:List (Str×NameKind)) (n:Nat) (acc:List (Str×Addr)) (x y:Str) (c:Addr),(∀u v,acc.lookup u=some c->acc.lookup v=some c->u=v)->(∀u a,acc.lookup u=some a->a<n\/a≠c)->(cellsFrom n names acc).lookup x=some c->(cellsFrom n names acc).lookup y=some c->x=y
 |[],n,acc,x,y,c,h,_,e1,e2=>h x y e1 e2
 |(z,k)::r,n,acc,x,y,c,h,hl,e1,e2=>by
  rw[cellsFrom] at e1 e2;by_cases hk:k=.cell
  ·subst hk;rw[if_pos cc] at e1 e2;refine Rh r (n+1) _ x y c (λu v a b=>?_) (λu a q=>?_) e1 e2
   ·rw[mj] at a b;by_cases u1:u=z
    ·by_cases v1:v=z
     ·rw[u1,v1]
     ·have v':(v==z)=false:=by simpa using v1
      subst u1;simp at a;rw[v'] at b;subst a;have b:acc.lookup v=some n:=b;rcases hl v n b with q|q
      ·exact absurd q (qI _)
      ·exact absurd rfl q
    ·have u':(u==z)=false:=by simpa using u1
     rw[u'] at a;have a:acc.lookup u=some c:=a;by_cases v1:v=z
     ·subst v1;simp at b;subst b;rcases hl u n a with q|q
      ·exact absurd q (qI _)
      ·exact absurd rfl q
     ·have v':(v==z)=false:=by simpa using v1
      rw[v'] at b;exact h u v a b
   ·rw[mj] at q;by_cases u1:u=z
    ·subst u1;simp at q;subst q;exact .inl (Gd _)
    ·have u':(u==z)=false:=by simpa using u1
     rw[u'] at q;exact(hl u a q).imp (λq=>sW q) id
  ·have hb:(k==NameKind.cell)=false:=by simpa using hk
   rw[if_neg (by rw[hb];decide)] at e1 e2;exact Rh r n acc x y c h hl e1 e2
theorem Ri:∀(names:List (Str×NameKind)) (n:Nat) (acc:List (Str×Addr)) (x:Str) (c:Addr),(x,NameKind.cell)∉names->acc.lookup x=some c->(cellsFrom n names acc).lookup x=some c
 |[],n,acc,x,c,_,e=>e
 |(z,k)::r,n,acc,x,c,h,e=>by
  rw[cellsFrom];have hr:(x,NameKind.cell)∉r:=λq=>h (gb _ q);by_cases hk:k=.cell
  ·subst hk;rw[if_pos cc];refine Ri r (n+1) _ x c hr ?_;have:x≠z:=λq=>h (by rw[q];exact jF);have z':(x==z)=false:=by simpa using this
   rw[mj,z'];exact e
  ·have hb:(k==NameKind.cell)=false:=by simpa using hk
   rw[if_neg (by rw[hb];decide)];exact Ri r n acc x c hr e
theorem Rj:∀(names:List (Str×NameKind)) (acc:List (Str×Addr)) (s:Shared) (Q:List (Str×Addr)->Shared->Prop),
  Q (cellsFrom s.heap.objs.size names acc) {s with heap:=pushCells s.heap names}->
  wpAny M A (forIn names acc λx (cells:List (Str×Addr))=>match x with
   |(name,kind)=>if (kind==NameKind.cell)=true then do
     let a <-alloc {cls:=Value.type "cell",data:=Data.cell none}
     pure (ForInStep.yield ((name,a)::cells))
    else pure (ForInStep.yield cells)) Q E s
 |[],acc,s,Q,h=>by
  rw[Lp];exact aR h
 |(z,k)::r,acc,s,Q,h=>by
  rw[Dy];rw[cellsFrom,pushCells] at h;by_cases hk:k=.cell
  ·subst hk;rw[if_pos cc,if_pos cc] at h;refine aB ?_;dsimp only;rw[if_pos cc];refine aB (wpAny_alloc (aR ?_));refine Rj r _ _ Q ?_;have sz:(s.heap.push {cls:=Value.type "cell",data:=Data.cell none}).objs.size=s.heap.objs.size+1:=by unfold Heap.push;simp
   rw[sz];exact h
  ·have hb:(k==NameKind.cell)=false:=by simpa using hk
   rw[if_neg (by rw[hb];decide),if_neg (by rw[hb];decide)] at h;refine aB ?_;dsimp only;rw[if_neg (by rw[hb];decide)];exact aR (Rj r _ _ Q h)
theorem zfF(old:∀x c,cl.lookup x=some c->c<s.heap.objs.size)(inj:∀x y c,cl.lookup x=some c->cl.lookup y=some c->x=y)
  (h:∀h1 jK,h1.Ns s.heap.objs.size (λ_=>none)->(∀b o,s.heap.get? b=some o->h1.get? b=some o)->oE s.heap.objs.size h1 scope.names cl jK->Q {scope:=scope,locals:=s.heap.objs.size,globals:=globals,cells:=jK,qual:=qual,func:=none,code:=env.code,frame:=env.frame,builtins:=env.builtins} {s with heap:=h1}) :
  wpAny M A (newFunctionEnv scope globals cl [] qual none .none (some env)) Q E s:=by
 unfold newFunctionEnv;refine aB (wpAny_alloc ?_);refine aB ?_;refine Rj scope.names cl _ _ ?_;dsimp only;rw[Lp];refine aB (aR (aR ?_));have sz:(s.heap.push {cls:=Value.type (if (some env).isSome=true then "dict" else "frame"),data:=Data.dict #[]}).objs.size=s.heap.objs.size+1:=by unfold Heap.push;simp
 refine h _ _ ?_ (λb o e=>Ii _ _ _ _ (bY _ e)) ⟨λx c e=>?_,λx y c hc e1 e2=>?_,λx e=>?_,λx c hx e=>Ri _ _ _ x c hx e⟩
 ·refine⟨_,#[],_,Ii _ _ _ _ (fO _ rfl),rfl,?_,λ_=>rfl⟩;intro e he;simp at he
 ·rcases Rg _ _ _ x c e with ⟨a,b⟩|⟨a,b,d⟩
  ·exact .inl ⟨a,b⟩
  ·rw[sz] at b;exact .inr ⟨a,by lia,d⟩
 ·exact Rh _ _ _ x y c (λu v a b=>inj u v c a b) (λu a q=>.inl (by rw[sz];exact sW (old u a q))) e1 e2
 ·have:=Pa scope.names (s.heap.push {cls:=Value.type (if (some env).isSome=true then "dict" else "frame"),data:=Data.dict #[]}).objs.size cl (.inl e);exact O7.mp this
noncomputable def Cx.blk(X:Cx)(scope:Scope)(cl:List (Str×Addr))(N:List Str)(C:Addr)(s3:Shared)(H3:Hp)(fp:List Addr)(ao:List (Addr×Obj)):Cx where
 prog:=X.prog
 w:=X.w
 K:=X.K
 mg:=X.mg
 base:=X.base
 A:=X.A
 N:=N
 s₀:=s3
 H₀:=H3
 env:=compEnvC scope cl C X.env
 outer:=X.stack
 stack:=X.stack
 ex:=fp
 fn:=λx=>scope.names.lookup x==some .cell
 aj:=X.aj
 pn:=X.pn++ao
 xe:=λ_ _=>False
structure dR(sc scope:Scope):Prop where
 kind:scope.kind=.function
 Yd:∀y∈scope.names,y.2=.cell->scope.names.lookup y.1=some .cell
 free:∀y∈scope.names,y.2=.free->sc.names.lookup y.1=some .cell\/sc.names.lookup y.1=some .free
 loc:∀y∈scope.names,y.2=.local->scope.names.lookup y.1=some .local
section
variable {X:Cx}{ao:List (Addr×Obj)}{Z:St}{H:Hp}{s:Shared}{scope:Scope}{cl:List (Str×Addr)}{N:List Str}{fp:List Addr}{ZY:St}
theorem zkc{h1:Heap}{t:Nat}{jK:List (Str×Addr)}(I:Inv X ao Z H s)(B:dR X.env.scope scope)(c1:∀x c,cl.lookup x=some c->X.env.cells.lookup x=some c)(c2:∀x∈scope.names,x.2=.free->∃c,cl.lookup x.1=some c)
  (f:∀b∈fp,iZ X ao H b) (fo:∀b∈fp,∃o,s.heap.get? b=some o) (hn:h1.Ns s.heap.objs.size (λ_=>none)) (kp:∀b o,s.heap.get? b=some o->h1.get? b=some o) (CN:oE s.heap.objs.size h1 scope.names cl jK)
  (hl:ZY.length=N.length) (hZ:∀(i:Nat) (x:Str) (v:V),N[i]?=some x->ZY[i]?=some (some v)->scope.names.lookup x=some .free/\∃j:Nat,X.N[j]?=some x/\Z[j]?=some (some v)) :
  Inv (X.blk scope jK N s.heap.objs.size s H fp ao) [] ZY H {s with heap:=h1,toks:=t}:=by
 have lt:∀b o,s.heap.get? b=some o->b≠s.heap.objs.size:=λb o q=>dw (bN q);have Ye:∀b,b≠X.env.locals->b∉X.fs->b∉frs X.stack:=λb a c z=>(gY.mp (I.mF b z)).elim a c;have mem_of:∀x k,scope.names.lookup x=some k->(x,k)∈scope.names:=λx k q=>Dq q;have old:∀x c,cl.lookup x=some c->c<s.heap.objs.size:=λx c q=>by
  obtain⟨v,o,q1,q2⟩:=I.cell x c (c1 x c q);exact bN q1
 have Yg:∀x,scope.names.lookup x=some .free->(x,NameKind.cell)∉scope.names:=λx q z=>by
  have:=B.Yd _ z rfl;have this:scope.names.lookup x=some .cell:=this;rw[q] at this;cases this
 refine⟨⟨I.ok.mod,B.kind,I.ok.glob,I.ok.blt,bO _,λx y c a b=>?_,λx hx=>?_,λx c z q=>?_,I.ok.hd,I.ok.frames,.inl rfl,λb hb=>?_,I.bs,kI I.ok.wK I.sz,λb o q hb=>?_,λb hb=>Ye b (f b hb).2.1 (f b hb).2.2.1,I.stack,I.jH⟩,
  rfl,I.bare,Un.kept kp,⟨_,hn,λi x v e1 e2 e3=>?_⟩,λx c q=>?_,I.hok.fresh (bO _),λx c q=>?_,λp hp=>?_,I.hok.kept kp,hl⟩
 ·by_cases hc:s.heap.objs.size<c
  ·exact CN.d2 x y c hc a b
  ·rcases CN.d1 x c a with ⟨a1,_⟩|⟨_,a1,_⟩
   ·rcases CN.d1 y c b with ⟨b1,_⟩|⟨_,b1,_⟩
    ·exact I.ok.inj x y c (c1 x c a1) (c1 y c b1)
    ·exact absurd b1 hc
   ·exact absurd a1 hc
 ·have hx:(relabel scope X.env).names.lookup x=some .cell\/(relabel scope X.env).names.lookup x=some .free:=hx;have fr:scope.names.lookup x=some .cell\/scope.names.lookup x=some .free:=by
   rcases hx with hx|hx
   ·rcases Rf hx with z|⟨_,z⟩
    ·exact .inl z
    ·exact .inr z
   ·rcases Rf hx with z|⟨z,_⟩
    ·exact .inr z
    ·cases z
  rcases fr with fr|fr
  ·exact CN.d3 x fr
  ·obtain⟨c,hc⟩:=c2 (x,.free) (mem_of x _ fr) rfl;exact⟨c,CN.d4 x c (Yg x fr) hc⟩
 ·rcases CN.d1 x c q with ⟨_,q1⟩|⟨_,q1,_⟩
  ·have z:(scope.names.lookup x==some NameKind.cell)=true:=z;exact absurd (mem_of x _ (by simpa using z)) q1
  ·exact yN q1
 ·obtain⟨o,q⟩:=fo b hb;refine⟨lt b o q,λx c z=>?_⟩;rcases CN.d1 x c z with ⟨q1,_⟩|⟨_,q1,_⟩
  ·exact(f b hb).2.2.2.2.1 x c (c1 x c q1)
  ·exact λe=>absurd (bN q) (by rw[<-e];exact Nat.not_lt.mpr (yN q1))
 ·obtain⟨_,_,_,z,_⟩:=f b hb;rcases z with z|z
  ·exact I.ok.uc b o q z
  ·exact absurd (gJ (bN q) (kI I.ok.wK z)) (qI _)
 ·obtain⟨fr,j,hj,hv⟩:=hZ i x v e1 e2;have hk:=B.free (x,.free) (mem_of x _ fr) rfl;obtain⟨m,hm,hlk⟩:=I.loc;obtain⟨u,r,l⟩:=hlk j x v hj hv (hk.elim (λz=>.inr (.inl z)) λz=>.inr (.inr z));obtain⟨c',k_⟩:=c2 (x,.free) (mem_of x _ fr) rfl;have k_:cl.lookup x=some c':=k_;refine⟨u,r,.inr ⟨Mu fr,c',CN.d4 x c' (Yg x fr) k_,?_⟩⟩;rcases l with ⟨k1,_⟩|⟨_,c,k2,oc,k3,k4⟩
  ·have k1:X.env.scope.names.lookup x=some .local:=k1;rcases hk with hk|hk
   ·have hk:X.env.scope.names.lookup x=some .cell:=hk;rw[k1] at hk;cases hk
   ·have hk:X.env.scope.names.lookup x=some .free:=hk;rw[k1] at hk;cases hk
  ·have e:=c1 x c' k_;rw[k2] at e;cases e;exact⟨oc,kp _ oc k3,k4⟩
 ·rcases CN.d1 x c q with ⟨q1,_⟩|⟨_,_,q1⟩
  ·obtain⟨v,o,q1,q2⟩:=I.cell x c (c1 x c q1);exact⟨v,o,kp c o q1,q2⟩
  ·exact⟨none,q1⟩
 ·rcases CN.d1 x c q with ⟨q1,_⟩|⟨_,q1,_⟩
  ·exact I.fB x c (c1 x c q1)
  ·exact I.hok.fresh (yN q1)
 ·have hp:p∈X.pn++ao:=by
   have z:p∈(X.pn++ao)++[]:=hp;simpa using z
  obtain⟨a1,a2,a3,a4,a5⟩:=I.pin p hp;exact⟨kp _ _ a1,a2,lt _ _ a1,Ye _ a3 a4,a5⟩
theorem zdA(I:Inv X ao Z H s)(f:∀b∈fp,iZ X ao H b)(bR:Inv (X.blk scope cl N s.heap.objs.size s H fp ao) [] Z' H' s'):Inv X ao Z H' s':=
 I.call' (ch:=fp) bR.os bR.base bR.hok bR.bare λb hb=>by
  obtain⟨_,a2,_,a4,a5,a6⟩:=f b hb;exact⟨a4.imp id λz=>Dl z,a2,a5,a6⟩
theorem Yh{Z':St}{H':Hp}{s':Shared}{h2:Heap}{C:Addr}(bR:Inv X ao Z H' s')(hC:X.s₀.heap.objs.size<=C)(n1:H' C=none)(n2:C≠X.env.locals)(n3:∀x c,X.env.cells.lookup x=some c->c≠C)(n4:∀p∈X.pn++ao,p.1≠C)
  (sb:Heap.SameBut C s'.heap h2):Inv X ao Z H' {s' with heap:=h2}:=
 bR.turned (t':=s'.toks) (λb o z q=>(sb.2 b z).trans q) n1 n2 (.inr hC) n3 n4
end
noncomputable abbrev qU(ifs:List Expr)(env:Env):Sem Bool:=forIn ifs true λc r=>if r=true then do let ok <-isTrue c env (eval c env);pure (ForInStep.yield ok) else pure (ForInStep.yield r)
theorem zgk{prog:Program}{w:World}{A:Around}{R:Result->Shared->Prop}{s:Shared}{elt target iter:Expr}{ifs:List Expr}{scope:Scope}{pos:Pos}{it acc:Value}{env:Env}(V:Nat->Shared->Prop)
  (turn:∀n s,V n s->wpAny (model prog w) A (pyNext it) (λr s₁=>match r with
   |none=>R (.ok .next) s₁
   |some v=>wpAny (model prog w) A (letOwnedTupleGo target it v) (λ_ s₂=>wpAny (model prog w) A (assign target env v) (λ_ s₃=>
     wpAny (model prog w) A (qU ifs env) (λok s₄=>
      if ok=true then wpAny (model prog w) A (eval elt env) (λx s₅=>wpAny (model prog w) A (call (.builtin "list.append") [acc,x]) (λ_ s₆=>∃m,m<n/\V m s₆) (λ_ _=>False) s₅) (λ_ _=>False) s₄
      else ∃m,m<n/\V m s₄) (λ_ _=>False) s₃) (λ_ _=>False) s₂) (λ_ _=>False) s₁) (λ_ _=>False) s)
  (n:Nat) (h:V n s):codeAny (model prog w) A (.compLoop (.ListComp elt [⟨target,iter,ifs,0⟩] scope pos) 0 it acc env) R s:=by
 refine codeAny_loop rfl V (λn s hV=>?_) n h;show wpAny _ A ((compTurn (.ListComp elt [⟨target,iter,ifs,0⟩] scope pos) 0 it acc env).onRaise (λx=>do noteFrame x env;theTreesLotGoes x)) _ _ s;refine wpAny_noted ?_;rw[compTurn_list];refine aB (vR (aB (gZ (turn n s hV) (λr s₁ h₁=>?_) λ_ _ z=>z.elim)));cases r with
 |none=>exact aR h₁
 |some v=>
  refine aB (gZ h₁ (λ_ s₂ h₂=>?_) λ_ _ z=>z.elim);refine aB (gZ h₂ (λ_ s₃ h₃=>aB (gZ h₃ (λok s₄ h₄=>?_) λ_ _ z=>z.elim)) λ_ _ z=>z.elim);cases ok with
  |true=>
   simp only[if_true] at h₄ ⊢;exact aB (aB (gZ h₄ (λx s₅ h₅=>aB (gZ h₅ (λ_ s₆ h₆=>aR (aR ⟨rfl,h₆⟩)) λ_ _ z=>z.elim)) λ_ _ z=>z.elim))
  |false=>
   simp only[yI,sY] at h₄ ⊢;exact aR ⟨rfl,h₄⟩
def Mv(X:Cx)(ifs:List Expr)(t:TT):Prop:=
 ∀(ao:List (Addr×Obj)) (s:Shared) (Z:St) (H:Hp) (Q:Bool->Hp->Prop),Inv X ao Z H s->t Z H Q->wpAny (model X.prog X.w) X.A (qU ifs X.env) (TP X ao Z Q) X.xe s
noncomputable def Rm:TT:=λ_ H Q=>Q true H
theorem zjn:Mv X [] Rm:=λ_ _ _ H _ I h=>wpAny_tests_nil ⟨H,I,h⟩
theorem zjh(h:PT X c t):Mv X [c] t:=λao s Z H Q I hq=>wpAny_tests_one (h ao s Z H Q I hq)
def Ij(ZY:St->St)(g:TG)(tt:TT)(te:TE)(bR:It)(Z:St)(H:Hp)(Q:VK):Prop:=∀D,H D=none->∃W:Nat->Nat->St->Hp->Prop,(∃m,W 0 m (ZY Z) (upd H D (.lst [])))/\∀i m Z' H',W i m Z' H'->
 (bR.stop i H'/\Q (.ref D) H')\/(bR.go i H'/\∃N:St->Hp->Prop,(∀Z2 H2,N Z2 H2->∃m',m'<m/\W (i+1) m' Z2 H2)/\∀x H2,bR.Bl i H' x H2->g x Z' H2 λZ3 H3=>tt Z3 H3 λok H4=>
  if ok=true then te Z3 H4 λy H5=>∃ys,H5 D=some (.lst ys)/\ys.length<sizeLine/\N Z3 (upd H5 D (.lst (ys++[y]))) else N Z3 H4)
section
variable {X:Cx}{elt tg iter:Expr}{ifs:List Expr}{scope:Scope}{pos:Pos}{N:List Str}{ZY:St->St}{wi:TI}{g:TG}{tt:TT}{te:TE}
structure Parts(X:Cx)(elt tg:Expr)(ifs:List Expr)(scope:Scope)(N:List Str)(g:TG)(tt:TT)(te:TE):Prop where
 tgt:∀cl C s3 H3 fp ao,PG (X.blk scope cl N C s3 H3 fp ao) tg g
 tst:∀cl C s3 H3 fp ao,Mv (X.blk scope cl N C s3 H3 fp ao) ifs tt
 el:∀cl C s3 H3 fp ao,PE (X.blk scope cl N C s3 H3 fp ao) elt te
theorem Yi(hc:X.aj=true)(B:dR X.env.scope scope)(P:Parts X elt tg ifs scope N g tt te)(hl:∀Z,(ZY Z).length=N.length)
  (hZ:∀(Z:St) (i:Nat) (x:Str) (v:V),N[i]?=some x->(ZY Z)[i]?=some (some v)->scope.names.lookup x=some .free/\∃j:Nat,X.N[j]?=some x/\Z[j]?=some (some v))
  {ao:List (Addr×Obj)} {s:Shared} {Z:St} {H:Hp} {Q:VK} {it:Addr} {fp:List Addr} {tn:Nat->Heap->Prop} {bR:It} (I:Inv X ao Z H s) (T:Turn X.prog X.w X.K tg bR fp it tn) (st:tn 0 s.heap) (f:∀b∈fp,iZ X ao H b) (h:Ij ZY g tt te bR Z H Q)
  {cl:List (Str×Addr)} (c1:∀x c,cl.lookup x=some c->X.env.cells.lookup x=some c) (c2:∀x∈scope.names,x.2=.free->∃c,cl.lookup x.1=some c) {R:Value->Addr->Result->Shared->Prop} {E:Value->Shared->Prop}
  (k:∀D C s' H',Inv X ao Z H' s'->X.s₀.heap.objs.size<=C->H' C=none->C≠X.env.locals->(∀x c,X.env.cells.lookup x=some c->c≠C)->(∀p∈X.pn++ao,p.1≠C)->(∃m,s'.heap.Ns C m)->Q (.ref D) H'->R (.ref D) C (.ok .next) s') :
  wpAny (model X.prog X.w) X.A (newList []) (λacc s₃=>wpAny (model X.prog X.w) X.A (newFunctionEnv scope X.env.globals cl [] X.env.qual none .none (some X.env)) (λcenv s₄=>
   codeAny (model X.prog X.w) X.A (.compStart (.ListComp elt [⟨tg,iter,ifs,0⟩] scope pos) 0 (.ref it) acc {cenv with scope:=relabel scope X.env}) (R acc cenv.locals) s₄) E s₃) E s:=by
 refine vO ?_;have hD:H s.heap.objs.size=none:=I.hok.fresh (bO _);have I3:Inv X ao Z (upd H s.heap.objs.size (.lst [])) {s with heap:=s.heap.push {cls:=.type "list",dict:=none,data:=.seq ([]:List Value).toArray}}:=
  I.laid (t':=s.toks) (λb u q=>bY _ q) (bO _) ⟨vV _,[],0,.nil,fO _ rfl⟩
 have f3:∀b∈fp,iZ X ao (upd H s.heap.objs.size (.lst [])) b:=λb hb=>by
  obtain⟨a1,a2⟩:=f b hb;obtain⟨o,q,_⟩:=T.obj 0 _ st b hb;exact⟨by rw[cW (dw (bN q))];exact a1,a2⟩
 have st3:tn 0 (s.heap.push {cls:=.type "list",dict:=none,data:=.seq ([]:List Value).toArray}):=T.keep _ _ _ st λb hb o q=>bY _ q;obtain⟨W,⟨m0,w0⟩,turn⟩:=h s.heap.objs.size hD;generalize Rn:({s with heap:=s.heap.push {cls:=.type "list",dict:=none,data:=.seq ([]:List Value).toArray}}:Shared)=s3 at *;have BR:tn 0 s3.heap:=by rw[<-Rn];exact st3
 generalize hH3:upd H s.heap.objs.size (.lst [])=H3 at *;refine zfF (λx c q=>by obtain⟨v,o,q1,_⟩:=I3.cell x c (c1 x c q);exact bN q1) (λx y c a b=>I3.ok.inj x y c (c1 x c a) (c1 y c b)) λh1 jK hn kp CN=>?_;have Ro:Inv (X.blk scope jK N s3.heap.objs.size s3 H3 fp ao) [] (ZY Z) H3 {s3 with heap:=h1}:=
  zkc (t:=s3.toks) I3 B c1 c2 f3 (λb hb=>let ⟨o,q,_⟩:=T.obj 0 _ BR b hb;⟨o,q⟩) hn kp CN (hl Z) (hZ Z)
 have Yj:tn 0 h1:=T.keep _ _ _ BR λb hb o q=>kp b o q;have fY:∀{H':Hp},(∀b∈fp,H' b=none)->∀b∈fp,iZ (X.blk scope jK N s3.heap.objs.size s3 H3 fp ao) [] H' b:=λ{H'} z b hb=>by
  obtain⟨a1,a2,a3,a4,a5,a6⟩:=f3 b hb;obtain⟨o,q,_⟩:=T.obj 0 _ BR b hb;refine⟨z b hb,dw (bN q),λy=>(gY.mp (I3.mF b y)).elim a2 a3,.inl hb,λx c y=>?_,λp hp=>a6 p ?_⟩
  ·rcases CN.d1 x c y with ⟨q1,_⟩|⟨_,q1,_⟩
   ·exact a5 x c (c1 x c q1)
   ·exact λe=>absurd (bN q) (by rw[<-e];exact Nat.not_lt.mpr (yN q1))
  have y:p∈(X.pn++ao)++[]:=hp;simpa using y
 have loop:codeAny (model X.prog X.w) X.A (.compLoop (.ListComp elt [⟨tg,iter,ifs,0⟩] scope pos) 0 (.ref it) (.ref s.heap.objs.size) (compEnvC scope jK s3.heap.objs.size X.env)) (R (.ref s.heap.objs.size) s3.heap.objs.size) {s3 with heap:=h1}:=by
  refine zgk (λn s'=>∃i Z' H',Inv (X.blk scope jK N s3.heap.objs.size s3 H3 fp ao) [] Z' H' s'/\tn i s'.heap/\(∀b∈fp,H' b=none)/\W i n Z' H') ?_ m0 ⟨0,ZY Z,H3,Ro,Yj,λb hb=>(f3 b hb).1,w0⟩;rintro n s5 ⟨i,Z5,H5,xr,Eh,Ma,w5⟩;rcases turn i n Z5 H5 w5 with ⟨stop,q⟩|⟨go,Nx,hN,step⟩
  ·refine bf (T.done (X.blk scope jK N s3.heap.objs.size s3 H3 fp ao) rfl rfl rfl hc i [] s5 Z5 H5 _ xr (fY Ma) Eh stop) λr s6 ⟨hr,jd⟩=>?_;subst hr;have JX:=zdA I3 f3 jd;refine k s.heap.objs.size s3.heap.objs.size s6 H5 JX I3.sz jd.free (vU I3.lt) (λx c y z=>?_) (λp hp z=>?_) ?_ q
   ·obtain⟨v,qc⟩:=I3.cell x c y;exact absurd qc.lt (by rw[z];exact qI _)
   ·exact absurd (bN (I3.pin p hp).1) (by rw[z];exact qI _)
   ·obtain⟨m,hm,_⟩:=jd.loc;exact⟨m,hm⟩
  ·refine bf (T.item (X.blk scope jK N s3.heap.objs.size s3 H3 fp ao) rfl rfl rfl hc i [] s5 Z5 H5 _ xr (fY Ma) Eh go) λr s6 hx=>vY hx λu hr h6=>?_;subst hr;refine bf h6 λ_ s7 ⟨x,H7,mQ,r7,y7,Rp,fr7⟩=>?_;have Ik:=mQ.pinned (fY fr7) (T.obj _ _ Rp);refine bf (P.tgt jK s3.heap.objs.size s3 H3 fp ao _ s7 Z5 H7 x u _ Ik r7 (step x H7 y7)) λ_ s8 ⟨Z8,H8,Rq,q8⟩=>?_;refine bf (P.tst jK s3.heap.objs.size s3 H3 fp ao _ s8 Z8 H8 _ Rq q8) λok s9 hx=>vY hx λH9 Il q9=>?_;have again:∀{H':Hp} {s':Shared},Inv (X.blk scope jK N s3.heap.objs.size s3 H3 fp ao) ([]++jU fp s7.heap) Z8 H' s'->Nx Z8 H'->∃m,m<n/\∃i Z' H',Inv (X.blk scope jK N s3.heap.objs.size s3 H3 fp ao) [] Z' H' s'/\tn i s'.heap/\(∀b∈fp,H' b=none)/\W i m Z' H':=λ{H' s'} pR n'=>by
    obtain⟨m',hm,w'⟩:=hN Z8 H' n';refine⟨m',hm,i+1,Z8,H',pR.iw,T.keep _ _ _ Rp λb hb o e=>(pR.pin (b,o) (vM _ (vM _ (L_ hb e)))).1,λb hb=>?_,w'⟩;obtain⟨o,e,d⟩:=T.obj _ _ Rp b hb;exact(pR.pin (b,o) (vM _ (vM _ (L_ hb e)))).2.1
   cases ok with
   |false=>
    rw[if_neg (by decide)] at q9 ⊢;exact again Il q9
   |true=>
    rw[if_pos rfl] at q9 ⊢;refine bf (P.el jK s3.heap.objs.size s3 H3 fp ao _ s9 Z8 H9 _ Il q9) λv s10 ⟨y,H10,Im,r10,ys,Rr,hz,q10⟩=>?_;refine bf (XJ (X:=(X.blk scope jK N s3.heap.objs.size s3 H3 fp ao)) _ s10 Z8 H10 (.ref s.heap.objs.size) [y] (.ref s.heap.objs.size) [v] (λ_ H'=>Nx Z8 H') Im rfl (.cons r10 .nil) ⟨s.heap.objs.size,ys,y,rfl,rfl,Rr,hz,q10⟩) λ_ s11 hx=>eE hx λ_ H11 Io _ q11=>again Io q11
 exact codeAny_compStart_list loop (T.self _ 0 _ _ _ Yj loop)
end
noncomputable def uz(wi:TI)(ZY:St->St)(g:TG)(tt:TT)(te:TE):TE:=λZ H Q=>wi Z H λbR H1=>Ij ZY g tt te bR Z H1 Q
section
variable {X:Cx}{elt tg iter:Expr}{ifs:List Expr}{scope:Scope}{pos spos py:Pos}{N:List Str}{ZY:St->St}{wi:TI}{g:TG}{tt:TT}{te:TE}{i:Nat}{y:Str}
theorem Yk(I:Inv X ao Z H s)(B:dR X.env.scope scope):∃cl,closureFor scope X.env=pure cl/\(∀x c,cl.lookup x=some c->X.env.cells.lookup x=some c)/\∀x∈scope.names,x.2=.free->∃c,cl.lookup x.1=some c:=
 zeY λx hx hf=>I.ok.has x.1 (B.free x hx hf)
theorem zkg(hc:X.aj=true)(B:dR X.env.scope scope)(hi:PI X tg iter wi)(P:Parts X elt tg ifs scope N g tt te)(hl:∀Z,(ZY Z).length=N.length)
  (hZ:∀(Z:St) (i:Nat) (x:Str) (v:V),N[i]?=some x->(ZY Z)[i]?=some (some v)->scope.names.lookup x=some .free/\∃j:Nat,X.N[j]?=some x/\Z[j]?=some (some v))
  (hs:∀x,foldedSetIterable iter X.env x=pure x:=by intro _;rfl):PE X (.ListComp elt [⟨tg,iter,ifs,0⟩] scope pos) (uz wi ZY g tt te):=by
 intro ao s Z H Q I h;obtain⟨cl,lG,c1,c2⟩:=Yk I B;rw[eval_ListComp];refine wpAny_comprehension_free (use:=none) rfl hs lG B.kind B.loc (bf (hi ao s Z H _ I h) λxv s1 h1=>bf h1 λitv s2 h2=>?_);obtain⟨it,fp,tn,bR,H2,e,I2,T,st2,f2,hq⟩:=h2;subst e;exact Yi hc B P hl hZ I2 T st2 f2 hq c1 c2 (R:=λacc C=>compPost (model X.prog X.w) X.A X.xe none (EP X ao Z Q) acc C) λD C s' H' pR a b c d e ⟨m,hm⟩ q=>⟨m,hm,λh' sb=>⟨.ref D,H',Yh (Z':=Z) pR a b c d e sb,rfl,q⟩⟩
theorem ze7(hc:X.aj=true)(hN:X.N.Nodup)(Ip:X.N[i]?=some y)(hx:Loc X.env.scope y)(hf:X.fn y=true\/X.env.scope.names.lookup y=some .local)(B:dR X.env.scope scope)(hi:PI X tg iter wi)(P:Parts X elt tg ifs scope N g tt te)(hl:∀Z,(ZY Z).length=N.length)
  (hZ:∀(Z:St) (i:Nat) (x:Str) (v:V),N[i]?=some x->(ZY Z)[i]?=some (some v)->scope.names.lookup x=some .free/\∃j:Nat,X.N[j]?=some x/\Z[j]?=some (some v))
  (Ir:swapsWith (.ListComp elt [⟨tg,iter,ifs,0⟩] scope pos) (some (.Name y py)) spos.line X.env=pure true) (hs:∀x,foldedSetIterable iter X.env x=pure x:=by intro _;rfl) :
  PS X (.Assign [.Name y py] (.ListComp elt [⟨tg,iter,ifs,0⟩] scope pos) spos) (Bj (uz wi ZY g tt te) (eF i)):=by
 intro ao s Z H D I h;obtain⟨cl,lG,c1,c2⟩:=Yk I B;rw[exec_Assign_Name_used _ _ _ _ Ir];refine aB (vR (aB ?_));show wpAny _ X.A (do let _ <-comprehension (.ListComp elt [⟨tg,iter,ifs,0⟩] scope pos) scope X.env _ (newList []) false (eval iter X.env) (some (assign (.Name y py) X.env))) _ _ s;refine aB (wpAny_comprehension_free (use:=some (assign (.Name y py) X.env)) rfl hs lG B.kind B.loc (bf (hi ao s Z H _ I h) λxv s1 h1=>bf h1 λitv s2 h2=>?_));obtain⟨it,fp,tn,bR,H2,e,I2,T,st2,f2,hq⟩:=h2;subst e;refine Yi hc B P hl hZ I2 T st2 f2 hq c1 c2 (R:=λacc C=>compPost (model X.prog X.w) X.A X.xe (some (assign (.Name y py) X.env)) _ acc C) λD' C s' H' pR a b c d e ⟨m,hm⟩ q=>?_;show wpAny _ _ (assign (.Name y py) X.env (.ref D')) _ _ s';refine wpAny_assign_Name (WX (v:=.ref D') pR hN Ip hx rfl (λs5 xr ⟨ad,sb,had⟩=>?_) hf);have nC:C≠ad:=by
  rcases had with z|z
  ·rw[z];exact c
  ·exact(d y ad z).symm
 obtain⟨ol,es,ep,e1,r1⟩:=hm;refine⟨m,⟨ol,es,ep,(sb.2 C nC).trans e1,r1⟩,λh' sb'=>aR (aR ⟨_,H',Yh (Z':=Z) xr a b c d e sb',q⟩)⟩
end
section
variable {X:Cx}{elt tg iter tg₂ iter₂:Expr}{ifs₂:List Expr}{scope:Scope}{pos spos py:Pos}{N:List Str}{ZY:St->St}{wi wi₂:TI}{g g₁:TG}{tt:TT}{te:TE}{i:Nat}{y:Str}
end
end L2
namespace L2
open PySem PySem.Spec PyProof.Rows PySem.W
noncomputable def bU{α:Type}(lt:Nat->Nat->Option Bool):KasT α->Option α
 |.ret a=>some a
 |.ask i j k=>match lt i j with
  |some b=>bU lt (k b)
  |none=>none
theorem Yl{α:Type}{lt:Nat->Nat->Option Bool}{cmp:Nat->Nat->(Bool->Shared->Prop)->Shared->Prop}{Q:α->Shared->Prop}{s:Shared}(hc:∀i j b C,lt i j=some b->C b s->cmp i j C s){a:α}(q:Q a s):∀{t:KasT α},bU lt t=some a->t.kasWp cmp Q s
 |.ret a',h=>by
  unfold bU at h;cases h;exact q
 |.ask i j k,h=>by
  unfold bU at h;cases e:lt i j with
  |none=>rw[e] at h;cases h
  |some b=>
   rw[e] at h;exact hc i j b _ e (Yl hc q h)
noncomputable def jy(vs:List Value)(p:Array Nat):Array Value:=if vs.length<2 then vs.toArray else List.toArray (p.toList.map λi=>vs.getD i Value.none)
section
variable {prog:Program}{w:World}{A:Around}{E:Value->Shared->Prop}{s:Shared}{κ:SortKind}{lt:Nat->Nat->Option Bool}{p:Array Nat}
theorem zcM{a:Addr}{vs:List Value}{n:Nat}{P:PySem.Fin->Shared->Prop}(ho:s.heap.get? a=some (seqObj "list" vs.toArray n))(uD:vs.length<64)
  (hk:2<=vs.length->∀(s':Shared) (Q:SortKind->Shared->Prop),(∀b o,b≠a->s.heap.get? b=some o->s'.heap.get? b=some o)->Q κ s'->wpAny (model prog w) A (keyKind' vs.toArray) Q E s')
  (dU:2<=vs.length->∀(s':Shared) i j b C,(∀b o,b≠a->s.heap.get? b=some o->s'.heap.get? b=some o)->lt i j=some b->C b s'->kas_ask prog w A κ vs i j C s') (hr:2<=vs.length->bU lt (kas_sort vs.length)=some p) (Rt:2<=vs.length->p.size=vs.length)
  (h:P (.done (.ret .none)) {s with heap:=sortedHeap s.heap a vs (jy vs p)}) :
  wpAny (model prog w) A (Builtin.«list.sort» ⟨[.ref a],[]⟩) P E s:=by
 rw[list_sort_plain];have ha:a<s.heap.objs.size:=bN ho;refine aB (listItems_at ho rfl ?_);refine aB (listUpdate_at ho rfl ?_ (by rw[fD,qJ];lia) (vV _));obtain⟨e1,Mw⟩ : ∃e1,(s.heap.update a (Obj.mapSeq λ_=>#[])).get? a=some (seqObj "list" #[] e1):=⟨_,get?_update_seq ho (λ_=>#[])⟩;refine aB (seqEpoch_at Mw rfl ?_);refine aB (wpAny_newTuple ?_ (by show vs.length<=_;rw[qJ];lia));refine aB (wpAny_newList ?_ (vV _));refine pq ?_;have keep:∀b o,b≠a->s.heap.get? b=some o->(((s.heap.update a (Obj.mapSeq λ_=>(#[]:Array Value))).push (seqObj "tuple" vs.toArray 0)).push (seqObj "list" #[] 0)).get? b=some o:=λb o nb e=>
  bY _ (bY _ ((K4 _ _ _ _ nb).trans e))
 have Mx:(((s.heap.update a (Obj.mapSeq λ_=>(#[]:Array Value))).push (seqObj "tuple" vs.toArray 0)).push (seqObj "list" #[] 0)).get? a=some (seqObj "list" #[] e1):=by
  rw[K9 _ _ _ (by rw[size_push',Heap.size_update];exact dw (sW ha)),K9 _ _ _ (by rw[Heap.size_update];exact dw ha)];exact Mw
 show wpAny (model prog w) A _ P E {s with heap:=((s.heap.update a (Obj.mapSeq λ_=>#[])).push (seqObj "tuple" vs.toArray 0)).push (seqObj "list" #[] 0)};dsimp only;have hsz:vs.toArray.size=vs.length:=by simp
 by_cases h2:vs.toArray.size<2
 ·rw[if_pos h2,if_pos h2];refine aB (aR ?_);rw[StateT.run_pure];refine aB (aR ?_);dsimp only;refine aB (seqEpoch_at Mx rfl ?_);refine aB (listUpdate_at Mx rfl ?_ (vV _) (by rw[Array.size_map];show (pairsOf vs).size<=_;rw[pairsOf_size,qJ];lia));simp only[bne_self_eq_false,yI,sY];have e:((vs.toArray.zip vs.toArray).map (·.2))=jy vs p:=by
   unfold jy;rw[if_pos (by rw[hsz] at h2;exact h2)];apply Array.toList_inj.mp;simp[List.map_snd_zip]
  refine aR ?_;have h':=h;rw[<-e] at h';exact h'
 ·rw[if_neg h2,if_neg h2];have mR:2<=vs.length:=by lia
  refine aB (hk mR _ _ keep ?_);refine aB (gZ (kat_run (κ:=κ) (ks:=vs) (vs:=vs) (G:=λp' s'=>p'=p/\s'={s with heap:=((s.heap.update a (Obj.mapSeq λ_=>#[])).push (seqObj "tuple" vs.toArray 0)).push (seqObj "list" #[] 0)})
   (Q:=λst' s'=>arrOf st'=p.map (kas_item (vs.toArray.zip vs.toArray))/\failedOf st'=none/\s'={s with heap:=((s.heap.update a (Obj.mapSeq λ_=>#[])).push (seqObj "tuple" vs.toArray 0)).push (seqObj "list" #[] 0)})
   rfl mR uD (λp' st' s' a1 a2 a3 a4=>⟨by rw[a2,a4.1],a3,a4.2⟩) (Yl (λi j b C hl hC=>dU mR _ i j b C keep hl hC) ⟨rfl,rfl⟩ (hr mR))) ?_ λ_ _ e=>e)
  rintro⟨⟨⟩,st'⟩ s' ⟨Mz,hf,rfl⟩;dsimp only;have hout:=kat_snds (ks:=vs) (vs:=vs) rfl Mz;have e:List.toArray (p.toList.map λi=>vs.getD i Value.none)=jy vs p:=by
   unfold jy;rw[if_neg (by lia)]
  rw[hout,e];have hso:(jy vs p).size=vs.length:=by rw[<-e,fD,cg,yG,Rt mR]
  refine aB (seqEpoch_at Mx rfl ?_);refine aB (listUpdate_at Mx rfl ?_ (vV _) (by rw[hso,qJ];lia));rw[hf];simp only[bne_self_eq_false,yI,sY];exact aR h
theorem Ru(hl:s.heap.IsList l vs.toArray)(uD:vs.length<64)
  (hk:2<=vs.length->∀(s':Shared) (Q:SortKind->Shared->Prop) E,(∀b o,s.heap.get? b=some o->s'.heap.get? b=some o)->Q κ s'->wpAny (model prog w) A.in1.in1 (keyKind' vs.toArray) Q E s')
  (dU:2<=vs.length->∀(s':Shared) i j b C,(∀b o,s.heap.get? b=some o->s'.heap.get? b=some o)->lt i j=some b->C b s'->kas_ask prog w A.in1.in1 κ vs i j C s') (hr:2<=vs.length->bU lt (kas_sort vs.length)=some p) (Rt:2<=vs.length->p.size=vs.length)
  (h:Q (.ref (s.heap.objs.size+1)) {s with heap:=sortedAll s.heap vs (jy vs p)}) :
  wpAny (model prog w) A (call (.builtin "sorted") [.ref l]) Q E s:=by
 refine Calls.call_function_entry kind_sorted plain_sorted entry_sorted (args_sorted1 _) ?_;unfold Builtin.«sorted»;refine aB (m:=checkCount "sorted" 1 1 _) (aR ?_);refine aB (collect_list hl ?_ (by rw[qJ];lia));refine aB (wpAny_newList ?_ (by rw[qJ];lia));have hsz:((s.heap.push (seqObj "list" #[] 0)).update s.heap.objs.size (Obj.mapSeq (·++vs.toArray))).objs.size=s.heap.objs.size+1:=by
  rw[Heap.size_update,size_push']
 have Ly:(((s.heap.push (seqObj "list" #[] 0)).update s.heap.objs.size (Obj.mapSeq (·++vs.toArray))).push (seqObj "list" vs.toArray 0)).get? (s.heap.objs.size+1)=some (seqObj "list" vs.toArray 0):=by
  rw[<-hsz];exact fO _ rfl
 have keep:∀b o,s.heap.get? b=some o->(((s.heap.push (seqObj "list" #[] 0)).update s.heap.objs.size (Obj.mapSeq (·++vs.toArray))).push (seqObj "list" vs.toArray 0)).get? b=some o:=λb o q=>by
  have dU:b<s.heap.objs.size:=bN q;rw[K9 _ _ _ (by rw[hsz];exact dw (sW dU)),K4 _ _ _ _ (dw dU),K9 _ _ _ (dw dU)];exact q
 show wpAny _ _ _ _ _ {s with heap:=((s.heap.push (seqObj "list" #[] 0)).update s.heap.objs.size (Obj.mapSeq (·++vs.toArray))).push (seqObj "list" vs.toArray 0)};rw[hsz];have nn:∀b o,s.heap.get? b=some o->b≠s.heap.objs.size+1:=λb o e=>dw (sW (bN e));refine aB (pq (yJ slot_list_sort ⟨_,Ly,rfl⟩ entry_list_sort (zcM (κ:=κ) (lt:=lt) (p:=p) Ly uD (λh2 s' Q' k q=>hk h2 s' Q' _ (λb o e=>k b o (nn b o e) (keep b o e)) q) (λh2 s' i j b C k e q=>dU h2 s' i j b C (λb o e=>k b o (nn b o e) (keep b o e)) e q) hr Rt ⟨_,rfl,?_⟩) (args_list_sort _)));exact aR ⟨_,rfl,h⟩
end
noncomputable def lq:List V->List V->Option Bool
 |[],ys=>some (decide (0<ys.length))
 |_::_,[]=>some false
 |.int x::xs,.int y::ys=>if x=y then lq xs ys else some (decide (x<y))
 |_::_,_::_=>none
theorem zla{prog:Program}{w:World}{A:Around}{s:Shared}{fin:Bool}{C:Bool->Shared->Prop}{b:Bool}:∀{us ws:List V} {its jts:List Value} {i:Nat},Vals us its->Vals ws jts->lq us ws=some b->fin=decide (us.length<ws.length)->C b s->KatLex prog w A true fin C (its.zip jts) i s:=by
 intro us ws its jts i r1
 induction r1 generalizing ws jts i with
 |nil=>
  intro _ h hf hc;rw[List.zip_nil_left];unfold lq at h;cases h;rw[hf];exact kat_nil hc
 |@cons x u us its rx ri ih=>
  intro r2 h hf hc;cases r2 with
  |nil=>
   rw[List.zip_nil_right];unfold lq at h;cases h;rw[hf];exact kat_nil (by simpa using hc)
  |@cons y v ws jts ry rj=>
   rw[Ae];cases x with
   |int a=>
    cases y with
    |int c=>
     obtain⟨t,rfl⟩:=rx;obtain⟨t',rfl⟩:=ry;unfold lq at h;refine kat_cons (wpAny_eqBool_int ?_);by_cases e:a=c
     ·rw[if_pos e] at h;subst e;rw[Dw];exact kat_yes (ih rj h (by rw[hf];simp) hc)
     ·rw[if_neg e] at h;cases h;rw[show (a==c)=false by simpa using e];refine kat_no ?_;by_cases hi:i=0
      ·subst hi;exact oneLt_int hc
      ·rw[show (true&&i==0)=false by simpa using hi];exact kat_one _ _ (wpAny_lt_int hc)
    |_=>cases h
   |_=>cases y<;>cases h
def uE(K:W.Frag)(H:Hp)(ys:List V)(lt:Nat->Nat->Option Bool):Prop:=
 ((∀v∈ys,∃i,v=V.int i)/\∀i j b,lt i j=some b->∃x y,ys[i]?=some (.int x)/\ys[j]?=some (.int y)/\b=decide (x<y)) \/
 ((∀v∈ys,∃a i r,v=.ref a/\gj K H a (.int i::r))/\∀i j b,lt i j=some b->∃a c us ws,ys[i]?=some (.ref a)/\ys[j]?=some (.ref c)/\gj K H a us/\gj K H c ws/\lq us ws=some b)
noncomputable def lu(ys:List V)(p:Array Nat):List V:=if ys.length<2 then ys else p.toList.map λi=>ys.getD i .non
theorem Ym(r:Vals ys its):∀l:List Nat,Vals (l.map λi=>ys.getD i .non) (l.map λi=>its.getD i Value.none)
 |[]=>.nil
 |i::l=>by
  refine .cons ?_ (Ym r l);cases e:ys[i]? with
  |some y=>
   obtain⟨u,e1,e2⟩:=r.get e;show RelV (ys.getD i .non) (its.getD i Value.none);rw[lZ,lZ,e,e1];exact e2
  |none=>
   have e1:its[i]?=none:=by rw[pG] at e ⊢;rw[<-r.length];exact e
   show RelV (ys.getD i .non) (its.getD i Value.none);rw[lZ,lZ,e,e1];rfl
theorem zit{ys:List V}{its:List Value}(r:Vals ys its)(p:Array Nat):Vals (lu ys p) (jy its p).toList:=by
 unfold lu jy;rw[r.length];by_cases h:its.length<2
 ·rw[if_pos h,if_pos h];exact r
 ·rw[if_neg h,if_neg h];exact Ym r p.toList
theorem zim{ys:List V}{its:List Value}(r:Vals ys its):∀u∈its,∃v∈ys,RelV v u:=by
 induction r with
 |nil=>intro u hu;cases hu
 |cons h t ih=>
  intro u hu;rcases gY.mp hu with rfl|hu
  ·exact⟨_,jF,h⟩
  ·obtain⟨v,a,b⟩:=ih u hu;exact⟨v,gb _ a,b⟩
section
variable {X:Cx}
theorem zfx{prog:Program}{w:World}{A:Around}{E:Value->Shared->Prop}{s:Shared}{its:List Value}{Q:SortKind->Shared->Prop}(h2:2<=its.length)(hi:∀u∈its,∃i t,u=Value.int i t)(q:Q oneType' s):wpAny (model prog w) A (keyKind' its.toArray) Q E s:=
 kas_kind (T:=.type "int") h2 (λv hv=>by obtain⟨i,t,rfl⟩:=hi v hv;exact .of_pure rfl) (by decide) (by decide) q
theorem zjO{K:W.Frag}{ao:List (Addr×Obj)}{s:Shared}{Z:St}{H:Hp}(I:Inv X ao Z H s){h':Heap}(k:∀b o,s.heap.get? b=some o->h'.get? b=some o):∀{ys:List V} {its:List Value},Vals ys its->(∀v∈ys,∃a i r,v=.ref a/\gj X.K H a (.int i::r))->∃fs:List Value,fs.length=its.length/\(∀f∈fs,∃i t,f=Value.int i t)/\KatTups h' its fs:=by
 intro ys its r0
 induction r0 with
 |nil=>exact λ_=>⟨[],rfl,(λf hf=>by cases hf),trivial⟩
 |@cons v u ys its r rs ih=>
  intro h;obtain⟨a,i,r',rfl,hq⟩:=h _ jF;obtain⟨fs,l,hf,kt⟩:=ih λv hv=>h v (gb _ hv);obtain⟨its',rv,⟨o,ho,hc,n,hd⟩,_⟩:=I.tuple hq;cases (show u=Value.ref a from r);cases rv with
  |cons ri rr=>
   obtain⟨t,rfl⟩:=ri;refine⟨Value.int i t::fs,by simp[l],λf Rw=>?_,KatTups.cons (k _ _ ho) hc hd (by simp) kt⟩;rcases gY.mp Rw with rfl|z
   ·exact⟨i,t,rfl⟩
   ·exact hf f z
theorem zg3{prog:Program}{w:World}{A:Around}{E:Value->Shared->Prop}{s:Shared}{its fs:List Value}{Q:SortKind->Shared->Prop}(h2:2<=its.length)(hl:fs.length=its.length)(hi:∀u∈fs,∃i t,u=Value.int i t)(kt:KatTups s.heap its fs)(q:Q (tuples' true) s):wpAny (model prog w) A (keyKind' its.toArray) Q E s:=
 kat_kind (T:=.type "int") kt (by lia) (λv hv=>by obtain⟨i,t,rfl⟩:=hi v hv;exact .of_pure rfl) (by decide) q
theorem MF{its:List Value}{i:Nat}{u:Value}(h:its[i]?=some u):its.getD i Value.none=u:=by rw[lZ,h];rfl
theorem zdy:cX X (.builtin "sorted") (λxs H Q=>∃l ys lt p,xs=[.ref l]/\cO X.K H l ys/\ys.length<64/\(2<=ys.length->uE X.K H ys lt/\bU lt (kas_sort ys.length)=some p/\p.size=ys.length)/\∀r,H r=none->Q (.ref r) (upd H r (.lst (lu ys p)))):=by
 intro ao s Z H xs us Q I r h;obtain⟨l,ys,lt,p,rfl,hq,uD,hs,q⟩:=h;obtain⟨u,rfl,rx⟩:=vals1 r;cases rx;obtain⟨its,rv,pl,hz⟩:=I.list hq;have hlen:=rv.length;have fin:EP X ao Z Q (.ref (s.heap.objs.size+1)) {s with heap:=sortedAll s.heap its (jy its p)}:=by
  obtain⟨e,he⟩:=sortedAll_at s.heap its (jy its p);have hn:H (s.heap.objs.size+1)=none:=I.hok.fresh (DN _);refine⟨.ref (s.heap.objs.size+1),_,I.laid (t':=s.toks) (λb u q=>sortedAll_old q) (DN _) (show aU X.prog X.w _ _ _ (.lst (lu ys p)) from ⟨?_,(jy its p).toList,e,zit rv p,by rw[Array.toArray_toList];exact he⟩),rfl,q _ hn⟩;unfold lu;by_cases h2:ys.length<2
  ·rw[if_pos h2];exact hz
  ·rw[if_neg h2,cg,yG,(hs (by lia)).2.2];exact hz
 by_cases h2:2<=ys.length
 ·obtain⟨hS,hr,hp⟩:=hs h2;rcases hS with ⟨hI,dU⟩|⟨hT,dU⟩
  ·refine Ru (κ:=oneType') (lt:=lt) (p:=p) pl.isList (by lia) (λmR s' Q' E' k q'=>zfx mR (λu hu=>?_) q') (λ_ s' i j b C k e hC=>?_) (λ_=>by rw[<-hlen];exact hr) (λ_=>by lia) fin
   ·obtain⟨v,hv,rr⟩:=zim rv u hu;obtain⟨i,rfl⟩:=hI v hv;obtain⟨t,rfl⟩:=rr;exact⟨i,t,rfl⟩
   ·obtain⟨x,y,e1,e2,rfl⟩:=dU i j b e;obtain⟨u1,f1,g1⟩:=rv.get e1;obtain⟨u2,f2,g2⟩:=rv.get e2;obtain⟨t1,rfl⟩:=g1;obtain⟨t2,rfl⟩:=g2;show wpAny _ _ (keyLt' oneType' (its.getD i Value.none) (its.getD j Value.none)) C _ s';rw[MF f1,MF f2];exact kat_lt_int hC
  ·refine Ru (κ:=tuples' true) (lt:=lt) (p:=p) pl.isList (by lia) (λmR s' Q' E' k q'=>?_) (λ_ s' i j b C k e hC=>?_) (λ_=>by rw[<-hlen];exact hr) (λ_=>by lia) fin
   ·obtain⟨fs,l1,hf,kt⟩:=zjO (K:=X.K) I k rv hT;exact zg3 mR l1 hf kt q'
   ·obtain⟨a,c,us,ws,e1,e2,q1,q2,e3⟩:=dU i j b e;obtain⟨u1,f1,g1⟩:=rv.get e1;obtain⟨u2,f2,g2⟩:=rv.get e2;cases (show u1=Value.ref a from g1);cases (show u2=Value.ref c from g2);obtain⟨i1,r1,⟨o1,Mw,hc1,n1,hd1⟩,_⟩:=I.tuple q1;obtain⟨i2,r2,⟨o2,pQ,qO,n2,hd2⟩,_⟩:=I.tuple q2;show wpAny _ _ (keyLt' (tuples' true) (its.getD i Value.none) (its.getD j Value.none)) C _ s';rw[MF f1,MF f2];refine kat_lt (k _ _ Mw) hd1 (k _ _ pQ) hd2 (zla r1 r2 e3 ?_ hC);rw[r1.length,r2.length];simp
 ·exact Ru (κ:=oneType') (lt:=lt) (p:=p) pl.isList (by lia) (λmR=>absurd mR (by lia)) (λmR=>absurd mR (by lia)) (λmR=>absurd mR (by lia)) (λmR=>absurd mR (by lia)) fin
end
end L2
namespace L2
open PySem PySem.Spec PyProof.Rows PySem.W PySem.Calls PySem.Builtin PySem.Builtin.ObjectAttr
theorem Yn(self:Value):∀{l:List Value},bF l=true->refuseLoop self "__setattr__" l=pure ()
 |.ref c::r,e=>by rw[refuseLoop_ref];exact Yn self (by unfold bF at e;exact e)
 |[],e=>by cases e
 |.type n::r,e=>by
  have e':(Value.type n::r)=rH:=by unfold bF at e;exact fL.mp e
  rw[e'];exact PySem.F.store_ValueError.passes self
 |.none::r,e=>by unfold bF at e;cases (fL.mp e)
 |.bool _::r,e=>by unfold bF at e;cases (fL.mp e)
 |.int _ _::r,e=>by unfold bF at e;cases (fL.mp e)
 |.str _ _::r,e=>by unfold bF at e;cases (fL.mp e)
 |.bytes _ _::r,e=>by unfold bF at e;cases (fL.mp e)
 |.float _ _::r,e=>by unfold bF at e;cases (fL.mp e)
 |.builtin _::r,e=>by unfold bF at e;cases (fL.mp e)
theorem Yo:∀{l:List Value},bF l=true->l.contains (.type "object")=true
 |.ref c::r,e=>by rw[Py,Yo (l:=r) (by unfold bF at e;exact e),Bool.or_true]
 |[],e=>by cases e
 |.type n::r,e=>by
  have e':(Value.type n::r)=rH:=by unfold bF at e;exact fL.mp e
  rw[e']
  decide
 |.none::r,e=>by unfold bF at e;cases (fL.mp e)
 |.bool _::r,e=>by unfold bF at e;cases (fL.mp e)
 |.int _ _::r,e=>by unfold bF at e;cases (fL.mp e)
 |.str _ _::r,e=>by unfold bF at e;cases (fL.mp e)
 |.bytes _ _::r,e=>by unfold bF at e;cases (fL.mp e)
 |.float _ _::r,e=>by unfold bF at e;cases (fL.mp e)
 |.builtin _::r,e=>by unfold bF at e;cases (fL.mp e)
section
variable {prog:Program}{w:World}{A:Around}{R:Result->Shared->Prop}{E:Value->Shared->Prop}{s:Shared}{K:W.Frag}{x C:Addr}{ox:Obj}{cd:ClassData}{name:Str}{v:Value}{mA:Str->Option Value}{ns:List Str}
theorem yW(hx:h.get? x=some ox)(hc:ox.cls=.ref C):Looks M h (typeOf (.ref x)) (.ref C):=by
 rw[<-hc];exact(Looks.ld hx).andThen .now
theorem Rx(X:K.In s.heap)(hx:s.heap.get? x=some ox)(hc:ox.cls=.ref C)(uF:∀c,ox.data≠.cls c)(lG:clsIn K C=some cd)(hm:bF cd.mro=true)(uG:cd.hasDict=true)(ht:findIn K (.ref C) name=some none)
  (hd:(ox.dict=none/\∀n,mA n=none)\/∃dx,ox.dict=some dx/\dx≠x/\s.heap.Ns1 dx mA) (hw:Within mA ns) (hsz:ns.length<=1000)
  (hq:∀h' tk' d,h'.get? x=some {ox with dict:=some d}->d≠x->h'.Ns1 d (λy=>if y=name then some v else mA y)->((ox.dict=none/\s.heap.objs.size<=d)\/ox.dict=some d)->(∀b o,b≠x->b≠d->s.heap.get? b=some o->h'.get? b=some o)->R (.ok (.ret .none)) {s with heap:=h',toks:=tk'}) :
  codeAny (model prog w) A (.call (.builtin "object.__setattr__") ⟨[.ref x,.str name tk,v],[]⟩) R s:=by
 have SF:=PySem.F.store_object;have ne:cd.mro.isEmpty=false:=by cases q:cd.mro with|nil=>rw[q] at hm;cases hm|cons _ _=>rfl
 have I:Looks (model prog w) s.heap (typeOf (.ref x)) (.ref C):=yW hx hc;have aq:Looks (model prog w) s.heap (isInstance (.ref x) (.type "object")) true:=I.andThen (looks_mroIn X (by unfold mroIn;rw[lG,Option.bind_some,if_neg (by rw[ne];decide),Yo hm]));refine codeAny_call_builtin SF.slot.plain SF.entry (@check_slot (model prog w) _ _ s "object.__setattr__" "object" "__setattr__" (.ref x) [.str name tk,v] [] _ SF.kind SF.split aq (SF.args (.ref x) (.str name tk) v) ?_);have El:Looks (model prog w) s.heap (mroOf (.ref C)) cd.mro:=(looks_clsIn X lG).andThen .now;rw[osa_eq,refuse_eq];refine aB (aB (I.here (aB (El.here ?_))));rw[Yn _ hm];refine aR (aB (I.here (aB ((looks_findIn X ht).here (aB (aR ?_))))));obtain⟨oc,odi,oda,osl⟩:=ox;dsimp only at hc hd hq uF;subst hc;refine aB (aR (aB (aB (wpAny_loadPart hx (aB ((looks_clsIn X lG).here ?_))))));rw[uG];rcases hd with ⟨rfl,hn⟩|⟨dx,rfl,nx,n1⟩
 ·have hfr:=(Heap.get?_some_iff.mp hx).2;have hx₁:(s.heap.push {cls:=.type "dict",data:=.dict #[]}).get? x=some ⟨.ref C,none,oda,osl⟩:=bY _ hx;have Ry:x≠s.heap.objs.size:=dw (bN hx);have key:wpAny (model prog w) A.in1 (do
    let d <-alloc {cls:=Value.type "dict",data:=Data.dict #[]}
    update x λo=>{cls:=o.cls,dict:=some d,data:=o.data,slots:=o.slots}
    dictMade (Value.ref C) x d) (λa s'=>wpAny (model prog w) A.in1 (match a with
    |some d=>storeInDict d (Value.str name tk) name v
    |none=>noDictFor (Value.ref x) (Value.ref C) name (Option.isSome (none:Option Value)))
    (λfin s'=>match fin with
     |Fin.done f=>R (Except.ok f) s'
     |Fin.again c'=>c'.quiet=true/\codeAny (model prog w) A c' R s')
    (λe s'=>R (Except.error e) s') s') (λe s'=>R (Except.error e) s') s:=by
   refine aB (wpAny_alloc' ?_);refine aB (wpAny_update' hx₁ ?_);refine aR (a:=some s.heap.objs.size) ?_;have hgd:((s.heap.push {cls:=.type "dict",data:=.dict #[]}).update x λo=>{cls:=o.cls,dict:=some s.heap.objs.size,data:=o.data,slots:=o.slots}).get? s.heap.objs.size
    =some {cls:=.type "dict",data:=.dict #[]}:=
    (K4 _ _ _ _ Ry.symm).trans (Heap.get?_push_at rfl rfl)
   have Iu:((s.heap.push {cls:=.type "dict",data:=.dict #[]}).update x λo=>{cls:=o.cls,dict:=some s.heap.objs.size,data:=o.data,slots:=o.slots}).Ns s.heap.objs.size (λ_=>none):=
    ⟨_,#[],_,hgd,rfl,λe he=>absurd he (by simp),λ_=>rfl⟩
   show wpAny _ _ (storeInDict s.heap.objs.size (.str name tk) name v) _ _ _;unfold storeInDict newKeyGuard;refine aB (aR (aB (wpAny_nsSet1 (Heap.Ns1.of_empty Iu) λh' wN hs=>?_)));obtain⟨oD,esD,epD,G9,G_,Hg⟩:=wN.count (Within.cons name v Within.nil);refine aB (wpAny_lookBehind G9 (by rw[G_];exact pastItsLine_dict (kI Hg (by rw[fK,yK,qJ];lia))) ?_);refine aR (hq h' _ s.heap.objs.size ?_ Ry.symm ?_ (.inl ⟨rfl,bO _⟩) λb ob hbx _ hb=>?_)
   ·refine(hs.2 x Ry).trans (yE _ hx₁ ?_);cases oda<;>first|rfl|exact hfr
   ·obtain⟨o',es,ep,e1,e2,e3,eu,e4⟩:=wN;exact⟨o',es,ep,e1,e2,e3,eu,λy=>by rw[e4 y];by_cases hy:y=name<;>simp[hy,hn]⟩
   ·exact(hs.2 b (dw (bN hb))).trans ((K4 _ _ _ _ hbx).trans (bY _ hb))
  cases oda<;>first|exact key|exact absurd rfl (uF _)
 ·refine aR (a:=some dx) ?_;show wpAny _ _ (storeInDict dx (.str name tk) name v) _ _ _;unfold storeInDict newKeyGuard;refine aB (aR (aB (wpAny_nsSet1 n1 λh' wN hs=>?_)));obtain⟨oD,esD,epD,G9,G_,Hg⟩:=wN.count (Within.cons name v hw);refine aB (wpAny_lookBehind G9 (by rw[G_];exact pastItsLine_dict (kI Hg (by rw[fK,qJ];lia))) ?_);exact aR (hq h' _ dx ((hs.2 x nx.symm).trans hx) nx wN (.inr rfl) λb o _ nb e=>(hs.2 b nb).trans e)
theorem Iv(X:K.In s.heap)(hx:s.heap.get? x=some ox)(hc:ox.cls=.ref C)(uF:∀c,ox.data≠.cls c)(hs:findIn K (.ref C) "__setattr__"=some (some (.builtin "object.__setattr__")))(lG:clsIn K C=some cd)(hm:bF cd.mro=true)(uG:cd.hasDict=true)(ht:findIn K (.ref C) name=some none)
  (hd:(ox.dict=none/\∀n,mA n=none)\/∃dx,ox.dict=some dx/\dx≠x/\s.heap.Ns1 dx mA) (hw:Within mA ns) (hsz:ns.length<=1000)
  (hq:∀h' tk' d,h'.get? x=some {ox with dict:=some d}->d≠x->h'.Ns1 d (λy=>if y=name then some v else mA y)->((ox.dict=none/\s.heap.objs.size<=d)\/ox.dict=some d)->(∀b o,b≠x->b≠d->s.heap.get? b=some o->h'.get? b=some o)->Q () {s with heap:=h',toks:=tk'}) :
  wpAny (model prog w) A (setAttr (.ref x) name v) Q E s:=by
 refine aB (wpAny_mkText (aB (aB (aB (yW hx hc _ _ _ _ (λ_ _ e=>e) (looks_findIn X hs _ _ _ _ (λ_ _ e=>e) (pq ?_)))))));rw[PySem.F.store_object.slot.bind];refine aB (aR (aB (yO (Rx (s:={s with toks:=s.toks+1}) X hx hc uF lG hm uG ht hd hw hsz λh' tk' d a1 a2 a3 a4 a5=>?_))));exact aR (aR (hq h' tk' d a1 a2 a3 a4 a5))
end
end L2
namespace L2
open PySem PySem.Spec PyProof.Rows PySem.W PySem.Calls
noncomputable def xu:Stmt->Option (Str×Str×Str)
 |.Assign [.Attribute (.Name a _) x _] (.Name y _) _=>some (a,x,y)
 |_=>none
theorem zj5{st:Stmt}{t:Str×Str×Str}(h:xu st=some t):∃p1 p2 p3 p4,st=.Assign [.Attribute (.Name t.1 p1) t.2.1 p2] (.Name t.2.2 p3) p4:=by
 unfold xu at h;split at h
 ·cases h;exact⟨_,_,_,_,rfl⟩
 ·cases h
noncomputable def iz(sf:Str):List Stmt->List Str->Bool
 |[],fs=>fs.isEmpty
 |st::rest,fs=>match fs with
  |[]=>false
  |f::fs=>xu st==some (sf,f,f)&&iz sf rest fs
theorem Yp{sf f:Str}{fs:List Str}{body:List Stmt}(h:iz sf body (f::fs)=true):∃p1 p2 p3 p4 rest,body=.Assign [.Attribute (.Name sf p1) f p2] (.Name f p3) p4::rest/\iz sf rest fs=true:=by
 cases body with
 |nil=>cases h
 |cons st rest=>
  have h:(xu st==some (sf,f,f)&&iz sf rest fs)=true:=h;obtain⟨h1,h2⟩:=(eY _ _).mp h;obtain⟨p1,p2,p3,p4,e⟩:=zj5 (eq_of_beq h1);exact⟨p1,p2,p3,p4,rest,by rw[e],h2⟩
noncomputable def jY:List (Str×Value)->(Str->Option Value)->Str->Option Value
 |[],m=>m
 |(f,u)::r,m=>jY r (λy=>if y=f then some u else m y)
section
variable {prog:Program}{w:World}{K:W.Frag}{C e:Addr}{cd:ClassData}{env:Env}{m:Str->Option Value}{A:Around}{E:Value->Shared->Prop}{sf:Str}
theorem Yq(hk:env.scope.kind=.function)(oF:m sf=some (.ref e))(Iw:env.scope.names.lookup sf=some .local)(Iz:(sf==("__debug__" : Str))=false)(uH:findIn K (.ref C) "__setattr__"=some (some (.builtin "object.__setattr__")))(lG:clsIn K C=some cd)(hm:bF cd.mro=true)(uG:cd.hasDict=true)
  (IK:∀b o,K.lookup b=some o->b≠e) (hL:env.locals≠e):∀(fs:List Str) (us:List Value) (body:List Stmt) (ox:Obj) (mA:Str->Option Value) (ns:List Str) (s:Shared) (Q:Flow->Shared->Prop),iz sf body fs=true->fs.length=us.length->
  (∀(i:Nat) f u,fs[i]?=some f->us[i]?=some u->m f=some u)->(∀f∈fs,env.scope.names.lookup f=some .local/\(f==("__debug__" : Str))=false/\findIn K (.ref C) f=some none)->
  K.In s.heap->s.heap.Ns env.locals m->s.heap.get? e=some ox->ox.cls=.ref C->(∀c,ox.data≠.cls c)->(∃dx,ox.dict=some dx/\dx≠e/\s.heap.Ns1 dx mA/\dx≠env.locals/\∀b o,K.lookup b=some o->b≠dx)->Within mA ns->ns.length+fs.length<=1000->
  (∀h' tk',h'.get? e=some ox->(∀dx,ox.dict=some dx->h'.Ns1 dx (jY (fs.zip us) mA))->(∀b o,b≠e->(∀dx,ox.dict=some dx->b≠dx)->s.heap.get? b=some o->h'.get? b=some o)->Q .next {s with heap:=h',toks:=tk'})->
  wpAny (model prog w) A (execs body env) Q E s
 |[],us,[],ox,mA,ns,s,Q,hb,hl,hv,hf,X,hN,he,hc,uF,⟨dx,h1,h2,h3,h4,h5⟩,hw,hz,q=>by
  cases us with
  |cons _ _=>cases hl
  |nil=>exact Gi (q s.heap s.toks he (λd hd=>by rw[h1] at hd;cases hd;exact h3) λb o _ _ e=>e)
 |[],us,st::rest,ox,mA,ns,s,Q,hb,_,_,_,_,_,_,_,_,_,_,_,_=>by
  cases hb
 |f::fs,[],body,ox,mA,ns,s,Q,hb,hl,_,_,_,_,_,_,_,_,_,_,_=>by cases hl
 |f::fs,u::us,body,ox,mA,ns,s,Q,hb,hl,hv,hf,X,hN,he,hc,uF,⟨dx,h1,h2,h3,h4,h5⟩,hw,hz,q=>by
  obtain⟨p1,p2,p3,p4,rest,rfl,RB⟩:=Yp hb;obtain⟨k1,k2,k3⟩:=hf _ jF;have hu:=hv 0 _ _ rfl rfl;refine wpAny_execs_cons ?_;refine O6 ?_ rfl;refine Ar (FW hk k1 hN hu ?_) k2;refine Ar (FW hk Iw hN oF ?_) Iz;refine Iv (ns:=ns) X he hc uF uH lG hm uG k3 (.inr ⟨dx,h1,h2,h3⟩) hw (by lia) λh' tk' d a1 a2 a3 a4 a5=>?_;have ed:d=dx:=by
   rcases a4 with ⟨z,_⟩|z
   ·rw[h1] at z;cases z
   ·rw[h1] at z;cases z;rfl
  subst ed;have eo:({ox with dict:=some d}:Obj)=ox:=by rw[<-h1]
  rw[eo] at a1;have X':K.In h':=λb o z=>a5 b o (IK b o z) (h5 b o z) (X b o z);have RD:h'.Ns env.locals m:=let ⟨o,es,ep,e1,r⟩:=hN;⟨o,es,ep,a5 _ _ hL h4.symm e1,r⟩;refine Yq hk oF Iw Iz uH lG hm uG IK hL fs us rest ox _ (f::ns) {s with heap:=h',toks:=tk'} Q RB (by simpa using hl) (λi f u e1 e2=>hv (i+1) f u (by simpa using e1) (by simpa using e2)) (λf Rw=>hf f (gb _ Rw)) X' RD a1 hc uF ⟨d,h1,h2,a3,h4,h5⟩ (Within.cons f u hw) (by simp at hz ⊢;lia) λmR tk2 b1 b2 b3=>q mR tk2 b1 (λdx' Bc=>?_) λb o nb nd e'=>b3 b o nb nd (a5 b o nb (nd d h1) e');exact b2 dx' Bc
theorem zdI(hk:env.scope.kind=.function)(oF:m sf=some (.ref e))(Iw:env.scope.names.lookup sf=some .local)(Iz:(sf==("__debug__" : Str))=false)(uH:findIn K (.ref C) "__setattr__"=some (some (.builtin "object.__setattr__")))(lG:clsIn K C=some cd)(hm:bF cd.mro=true)(uG:cd.hasDict=true)
  (IK:∀b o,K.lookup b=some o->b≠e) (hL:env.locals≠e) {f:Str} {fs:List Str} {u:Value} {us:List Value} {body:List Stmt} {ox:Obj} {s:Shared} {Q:Flow->Shared->Prop} (hb:iz sf body (f::fs)=true) (hl:fs.length=us.length) (hz:fs.length<=900)
  (hv:∀(i:Nat) g v,(f::fs)[i]?=some g->(u::us)[i]?=some v->m g=some v) (hf:∀g∈f::fs,env.scope.names.lookup g=some .local/\(g==("__debug__" : Str))=false/\findIn K (.ref C) g=some none)
  (X:K.In s.heap) (hN:s.heap.Ns env.locals m) (he:s.heap.get? e=some ox) (hc:ox.cls=.ref C) (uF:∀c,ox.data≠.cls c) (hd:ox.dict=none)
  (q:∀h' tk' d,s.heap.objs.size<=d->h'.get? e=some {ox with dict:=some d}->h'.Ns1 d (jY ((f::fs).zip (u::us)) λ_=>none)->(∀b o,b≠e->b≠d->s.heap.get? b=some o->h'.get? b=some o)->Q .next {s with heap:=h',toks:=tk'}) :
  wpAny (model prog w) A (execs body env) Q E s:=by
 obtain⟨p1,p2,p3,p4,rest,rfl,RB⟩:=Yp hb;obtain⟨k1,k2,k3⟩:=hf _ jF;have hu:=hv 0 _ _ rfl rfl;refine wpAny_execs_cons ?_;refine O6 ?_ rfl;refine Ar (FW hk k1 hN hu ?_) k2;refine Ar (FW hk Iw hN oF ?_) Iz;refine Iv (ns:=[]) (mA:=λ_=>none) X he hc uF uH lG hm uG k3 (.inl ⟨hd,λ_=>rfl⟩) Within.nil (vV _) λh' tk' d a1 a2 a3 a4 a5=>?_;have fd:s.heap.objs.size<=d:=by
  rcases a4 with ⟨_,z⟩|z
  ·exact z
  ·rw[hd] at z;cases z
 have nd:∀b o,s.heap.get? b=some o->b≠d:=λb o z=>dw (gJ (bN z) fd);have X':K.In h':=λb o z=>a5 b o (IK b o z) (nd b o (X b o z)) (X b o z);have RD:h'.Ns env.locals m:=let ⟨o,es,ep,e1,r⟩:=hN;⟨o,es,ep,a5 _ _ hL (nd _ _ e1) e1,r⟩;have nL:d≠env.locals:=let ⟨o,es,ep,e1,r⟩:=hN;(nd _ _ e1).symm;refine Yq hk oF Iw Iz uH lG hm uG IK hL fs us rest {ox with dict:=some d} _ [f] {s with heap:=h',toks:=tk'} Q RB hl (λi g v e1 e2=>hv (i+1) g v (by simpa using e1) (by simpa using e2)) (λg hg=>hf g (gb _ hg)) X' RD a1 hc uF ⟨d,rfl,a2,a3,nL,λb o z=>nd b o (X b o z)⟩ (Within.cons f u Within.nil) (by simp;lia) λh2 tk2 b1 b2 b3=>q h2 tk2 d fd b1 (b2 d rfl) λb o n1 n2 z=>b3 b o n1 (λdx hx=>by cases hx;exact n2) (a5 b o n1 n2 z)
end
end L2
namespace PySem
open Sem (wp)
section
variable {prog:Program}{w:World}{A:Around}{E:Value->Shared->Prop}{h:Heap}{g:Array GenState}{d:Drawn}{t:Nat}{os:OsState}
variable {nm q:Str}{C N:Addr}{bs bm bmB:List Value}{hdct:Bool}{sn:List Str}{aq:List Value}{ab:Bool}{col:Option Bool}{dd:Option Addr}{k0 k1 k2 k3 k5:Option Value}{B Bn newId nid initId inN:String}{bmN:List Value}
theorem zaI(Fn:ExcBaseFacts Bn newId inN bmN)(v9:bmB.contains (.type Bn)=true)(F:ExcBaseFacts B nid initId bmB)(T:OwnTail h bmB bm)
  (hC:h.get? C=some (excClassObj nm q C N bs bm hdct sn aq ab col dd k0 k1 k2 k3 k5 newId)) (hn:h.Ns N mN) (hi:mN "__init__"=some (.ref fI))
  (BW:h.get? fI=some oI) (IV:oI.cls=.type "function")
  (hq:wpAny (model prog w) A (call (.ref fI) (.ref (h.objs.size+1)::rest)) (λr s'=>r=.none/\Q (.done (.ret (.ref (h.objs.size+1)))) s') E
   ⟨(h.push {cls:=.type "tuple",data:=.seq rest.toArray}).push {cls:=.ref C,data:=.fields #[.ref h.objs.size,.none,.none,.none,.bool false,.none]},g,d,t,os⟩) (hrest:rest.length<=sizeLine:=by size_fits) :
  wpAny (model prog w) A (Builtin.«type.__call__» ⟨.ref C::rest,[]⟩) Q E ⟨h,g,d,t,os⟩:=by
 repeat (first|with_reducible refine Af hC ?_|with_reducible refine wpAny_madeBy_exc hC ?_|wp_step)
 refine codeAny_call_builtin_code (Code.quiet_builtin _ Fn.quiet) (wpAny_check_new_subU Fn v9 T hC ?_);refine codeAny_exc_new_subU Fn v9 F T hC ?_ hrest;show wpAny _ _ _ _ _ _;have hC₁:=bY {cls:=.ref C,data:=.fields #[.ref h.objs.size,.none,.none,.none,.bool false,.none]}
  (bY {cls:=.type "tuple",data:=.seq rest.toArray} hC)
 have BW₁:=bY {cls:=.ref C,data:=.fields #[.ref h.objs.size,.none,.none,.none,.bool false,.none]}
  (bY {cls:=.type "tuple",data:=.seq rest.toArray} BW)
 have hn₁:((h.push {cls:=.type "tuple",data:=.seq rest.toArray}).push {cls:=.ref C,data:=.fields #[.ref h.objs.size,.none,.none,.none,.bool false,.none]}).Ns N mN:=
  let ⟨o,es,ep,e,r⟩:=hn;⟨o,es,ep,bY _ (bY _ e),r⟩
 have RG:((h.push {cls:=.type "tuple",data:=.seq rest.toArray}).push
   {cls:=.ref C,data:=.fields #[.ref h.objs.size,.none,.none,.none,.bool false,.none]}).get? (h.objs.size+1)=some
   {cls:=.ref C,data:=.fields #[.ref h.objs.size,.none,.none,.none,.bool false,.none]}:=by heap_get
 have hcC:(Value.ref C::bm).contains (.ref C)=true:=by simp
 have T₁:=T.keeps (h':=(h.push {cls:=.type "tuple",data:=.seq rest.toArray}).push {cls:=.ref C,data:=.fields #[.ref h.objs.size,.none,.none,.none,.bool false,.none]})
  λb o e=>bY _ (bY _ e)
 unfold isInstance
 repeat (first|with_reducible refine Af RG ?_|(with_reducible refine K3 hC₁ ?_;rw[hcC])|wp_step)
 show wpAny _ _ (typeLookup (.ref C) _) _ _ _;refine wpAny_typeLookup_tail hC₁ hn₁ T₁ F.mroIs F.init.lookup ?_;rw[hi];refine pq (aB ?_);unfold bindSpecial;refine aB (Gq (T:="function") ⟨_,BW₁,IV⟩ ?_);rw[if_pos (by decide)];refine aR (aB (gZ hq (λr s' hr=>?_) λ_ _ x=>x));obtain⟨rfl,hQ⟩:=hr
 wp_walk
 exact hQ
theorem za8(Fn:ExcBaseFacts Bn newId inN bmN)(v9:bmB.contains (.type Bn)=true)(F:ExcBaseFacts B nid initId bmB)(T:OwnTail h bmB bm)
  (hC:h.get? C=some (excClassObj nm q C N bs bm hdct sn aq ab col dd k0 k1 k2 k3 k5 newId)) (hn:h.Ns N mN) (hi:mN "__init__"=some (.ref fI))
  (BW:h.get? fI=some oI) (IV:oI.cls=.type "function")
  (hq:wpAny (model prog w) (A.under (.builtin "type.__call__" ⟨.ref C::rest,[]⟩)) (call (.ref fI) (.ref (h.objs.size+1)::rest)) (λr s'=>r=.none/\Q (.ref (h.objs.size+1)) s') E
   ⟨(h.push {cls:=.type "tuple",data:=.seq rest.toArray}).push {cls:=.ref C,data:=.fields #[.ref h.objs.size,.none,.none,.none,.bool false,.none]},g,d,t,os⟩) (hrest:rest.length<=sizeLine:=by size_fits) :
  wpAny (model prog w) A (call (.ref C) rest) Q E ⟨h,g,d,t,os⟩:=by
 have f1:=tc_lookup;have f2:=tc_bind (.ref C);have hT:(⟨h,g,d,t,os⟩ : Shared).TypeIs (.ref C) "type":=⟨_,hC,rfl⟩;refine yO (codeAny_of_tree ?_);show wpAny _ _ (callAny (.ref C) _) _ _ _
 repeat (any_goals (first|assumption|with_reducible refine Af hC ?_|wp_step))
 refine⟨rfl,?_⟩;refine codeAny_call_builtin_at (Code.quiet_builtin _ (by decide +kernel)) entry_typeCall (wpAny_check_type_call_sub hC (zaI (hrest:=hrest) Fn v9 F T hC hn hi BW IV ?_));exact hq
end
section
variable {prog:Program}{w:World}{A:Around}{E:Value->Shared->Prop}{s:Shared}{env:Env}
variable {nm q:Str}{C N:Addr}{bs bm bmB:List Value}{hdct:Bool}{sn:List Str}{aq:List Value}{ab:Bool}{col:Option Bool}{dd:Option Addr}{k0 k1 k2 k3 k5:Option Value}{B Bn newId nid initId inN:String}{bmN:List Value}
theorem RJ(bL:bm.contains (.type "BaseException")=true)(hh:A.handled=none)
  (h:wpAny M A x (λv s₁=>∃e t dx,v=.ref e/\s₁.heap.get? C=some (excClassObj nm q C N bs bm hdct sn aq ab col dd k0 k1 k2 k3 k5 newId) /\
   s₁.heap.get? e=some {cls:=.ref C,dict:=dx,data:=.fields #[.ref t,.none,.none,.none,.bool false,.none]}/\E (.ref e) s₁) E s) :
  wpAny M A (raiseStmt env (some x) none) Q E s:=by
 have hcB:(Value.ref C::bm).contains (.type "BaseException")=true:=by rw[Py,bL,Bool.or_true]
 unfold raiseStmt;refine aB (gZ h (λv s₁ h₁=>?_) λ_ _ x=>x);obtain⟨e,t,dx,rfl,hC,he,hE⟩:=h₁;obtain⟨hp,g,d,tk,os⟩:=s₁
 repeat (first|with_reducible refine Af he ?_|with_reducible refine Af hC ?_|(with_reducible refine K3 hC ?_;rw[hcB])|wp_step)
 exact wpAny_raiseNew_none hh hE
theorem zaV(Fn:ExcBaseFacts Bn newId inN bmN)(v9:bmB.contains (.type Bn)=true)(F:ExcBaseFacts B nid initId bmB){mN:Str->Option Value}{fI:Addr}{oI:Obj}{x:Str}{np cpos pos:Pos}{args:List Expr}{Q:Flow->Shared->Prop}
  (bL:bm.contains (.type "BaseException")=true) (hh:A.handled=none) (cL:(backTo cpos (starEach args env)).any (·.1)=false) (hi:mN "__init__"=some (.ref fI)) (IV:oI.cls=.type "function")
  (h:wpAny (model prog w) A (eval (.Name x np) env) (λf s₁=>f=.ref C/\wpAny (model prog w) A (evalArgs (.ref C) true (backTo cpos (starEach args env)) [])
   (λa s₂=>a.kw=[]/\a.pos.length<=sizeLine/\s₂.heap.get? C=some (excClassObj nm q C N bs bm hdct sn aq ab col dd k0 k1 k2 k3 k5 newId)/\s₂.heap.Ns N mN/\OwnTail s₂.heap bmB bm/\s₂.heap.get? fI=some oI /\
    wpAny (model prog w) (A.under (.builtin "type.__call__" ⟨.ref C::a.pos,[]⟩)) (call (.ref fI) (.ref (s₂.heap.objs.size+1)::a.pos)) (λr s'=>r=.none/\(∃dx t0,s'.heap.get? (s₂.heap.objs.size+1)=some {cls:=.ref C,dict:=dx,data:=.fields #[.ref t0,.none,.none,.none,.bool false,.none]})/\s'.heap.get? C=some (excClassObj nm q C N bs bm hdct sn aq ab col dd k0 k1 k2 k3 k5 newId)/\E (.ref (s₂.heap.objs.size+1)) s') E
     {s₂ with heap:=(s₂.heap.push {cls:=.type "tuple",data:=.seq a.pos.toArray}).push {cls:=.ref C,data:=.fields #[.ref s₂.heap.objs.size,.none,.none,.none,.bool false,.none]}}) E s₁) E s) :
  wpAny (model prog w) A (exec (.Raise (some (.Call (.Name x np) args [] cpos)) none pos) env) Q E s:=by
 rw[arm_exec_Raise]
 first
  |refine aB (vR (RJ (C:=C) (nm:=nm) (q:=q) (N:=N) (bs:=bs) (bm:=bm) (hdct:=hdct) (sn:=sn) (aq:=aq) (ab:=ab) (col:=col) (dd:=dd) (k0:=k0) (k1:=k1) (k2:=k2) (k3:=k3) (k5:=k5) (newId:=newId) bL hh (aB (gZ (wpAny_Call_ofName (gZ h (λf s₁ h₁=>?_) λ_ _ x=>x)) (λv s₃ h₃=>aB (vR (aR h₃))) λ_ _ x=>x))))
  |(simp only[evalOpt,Option.map];refine aB (vR (RJ (C:=C) (nm:=nm) (q:=q) (N:=N) (bs:=bs) (bm:=bm) (hdct:=hdct) (sn:=sn) (aq:=aq) (ab:=ab) (col:=col) (dd:=dd) (k0:=k0) (k1:=k1) (k2:=k2) (k3:=k3) (k5:=k5) (newId:=newId) bL hh (aB (gZ (wpAny_Call_ofName (gZ h (λf s₁ h₁=>?_) λ_ _ x=>x)) (λv s₃ h₃=>aB (vR (aR h₃))) λ_ _ x=>x)))))
  |(refine aB (vR (RJ (C:=C) (nm:=nm) (q:=q) (N:=N) (bs:=bs) (bm:=bm) (hdct:=hdct) (sn:=sn) (aq:=aq) (ab:=ab) (col:=col) (dd:=dd) (k0:=k0) (k1:=k1) (k2:=k2) (k3:=k3) (k5:=k5) (newId:=newId) bL hh ?_));refine aB (gZ (wpAny_Call_ofName (gZ h (λf s₁ h₁=>?_) λ_ _ x=>x)) (λv s₃ h₃=>aB (vR (aR h₃))) λ_ _ x=>x))
 obtain⟨rfl,h₁⟩:=h₁;unfold callWith;refine aB (pq (gZ h₁ (λa s₂ h₂=>aB (vR ?_)) λ_ _ x=>x));obtain⟨apos,akw⟩:=a;obtain⟨hkw,hlen,hC,hn,T,BW,h₂⟩:=h₂;obtain rfl:akw=[]:=hkw;obtain⟨hp,g,d,tk,os⟩:=s₂;simp only[cL];refine aB (wpAny_keeperOf_exc hC ?_);refine aB (za8 (hrest:=hlen) Fn v9 F T hC hn hi BW IV (gZ h₂ (λr s' hr=>?_) λ_ _ x=>x));obtain⟨rfl,⟨dx,t0,ht⟩,hC',hE⟩:=hr;exact⟨rfl,aB (pq (wpAny_point (aR ⟨_,t0,dx,rfl,hC',ht,hE⟩)))⟩
end
end PySem
namespace L2
open PySem PySem.Spec PyProof.Rows PySem.W PySem.Calls
theorem RK{α:Type}:∀{l:List (Str×α)} {f:Str} {u:α},(l.map (·.1)).Nodup->(f,u)∈l->l.lookup f=some u
 |(g,v)::r,f,u,hn,hm=>by
  rw[iU,vP] at hn;rw[mj];rcases gY.mp hm with e|hm
  ·cases e;simp
  ·have:f≠g:=λz=>hn.1 (by rw[<-z];exact pJ.mpr ⟨(f,u),hm,rfl⟩);rw[show (f==g)=false by simpa using this];exact RK hn.2 hm
theorem Yr{α:Type}{fs:List Str}{us:List α}{i:Nat}{f:Str}{u:α}(h1:fs[i]?=some f)(h2:us[i]?=some u):(f,u)∈fs.zip us:=by
 refine fZ (i:=i) ?_;exact(List.getElem?_zip_eq_some (z:=(f,u))).mpr ⟨h1,h2⟩
theorem Ys{α:Type}{fs:List Str}{us:List α}(h:fs.length=us.length):(fs.zip us).map (·.1)=fs:=by
 rw[List.map_fst_zip]
 lia
theorem zfc{α:Type}{fs:List Str}{us:List α}(hn:fs.Nodup)(hl:fs.length=us.length){i:Nat}{f:Str}{u:α}(h1:fs[i]?=some f)(h2:us[i]?=some u):(fs.zip us).reverse.lookup f=some u:=by
 refine RK ?_ (List.mem_reverse.mpr (Yr h1 h2));rw[List.map_reverse,Ys hl,List.Nodup,List.pairwise_reverse];exact List.Pairwise.imp (λh=>h.symm) hn
theorem Yt:∀{l:List (Str×Value)} {m:Str->Option Value} {f:Str},(l.map (·.1)).Nodup->jY l m f=match l.lookup f with|some u=>some u|none=>m f
 |[],m,f,_=>rfl
 |(g,v)::r,m,f,hn=>by
  rw[iU,vP] at hn;unfold jY;rw[Yt hn.2,mj];by_cases e:f=g
  ·subst e;have:r.lookup f=none:=by
    cases z:r.lookup f with
    |none=>rfl
    |some u=>
     exfalso
     apply hn.1;clear hn
     induction r with
     |nil=>cases z
     |cons p r ih=>
      rw[mj] at z;by_cases e:f=p.1
      ·rw[e];exact jF
      ·rw[show (f==p.1)=false by simpa using e] at z;exact gb _ (ih z)
   rw[this];simp
  ·rw[show (f==g)=false by simpa using e,if_neg e]
theorem zhq{fs:List Str}:∀{vs:List V} {us:List Value},Vals vs us->∀f,pL ((fs.zip vs).lookup f) ((fs.zip us).lookup f):=by
 induction fs with
 |nil=>intro vs us _ f;exact trivial
 |cons g r ih=>
  intro vs us h f;cases h with
  |nil=>exact trivial
  |cons h t=>
   rw[Ae,Ae,mj,mj];by_cases e:f=g
   ·rw[show (f==g)=true by simpa using e];exact h
   ·rw[show (f==g)=false by simpa using e];exact ih t f
theorem zhy{K:Frag}{h:Heap}{C fI:Addr}(XI:K.In h)(q:jQ K C fI=true) :
  ∃bm N nm qn bs hdct sn aq ab col dd k0 k1 k2 k3 k5 mN,h.get? C=some (excClassObj nm qn C N bs bm hdct sn aq ab col dd k0 k1 k2 k3 k5 "ValueError.__new__")/\h.Ns N mN/\mN "__init__"=some (.ref fI)/\OwnTail h rH bm:=by
 unfold jQ at q;split at q
 ·rename_i dd cd sl lk;split at q
  ·rename_i C' bm k0 k1 k2 k3 nw k5 em es;simp only[eY,fL,K8] at q;obtain⟨⟨⟨⟨⟨rfl,rfl⟩,oA⟩,tl⟩,Ek⟩,Ib⟩:=q;obtain⟨nm,bs,mro,ns,qn,hd,sn,aq,ab,col,del⟩:=cd;dsimp only at em oA Ek Ib;subst em oA;have esl:sl=#[k0,k1,k2,k3,some (.builtin "ValueError.__new__"),k5]:=by
    obtain⟨ll⟩:=sl;simp only at es;rw[es]
   subst esl;have Yu:h.Ns ns (h.nsMap ns):=.of_isNs (isNs_of_in XI Ek);refine⟨bm,ns,nm,qn,bs,hd,sn,aq,ab,col,dd,k0,k1,k2,k3,k5,_,XI _ _ lk,Yu,?_,tail_of_in XI tl⟩;exact pU XI Yu Ib
  ·cases q
 ·cases q
where
 pU {K:Frag} {h:Heap} {N:Addr} {x:Str} {v:Value} {m:Str->Option Value} (X:K.In h) (G:h.Ns N m) (e:nsIn K N x=some (some v)):m x=some v:=by
  obtain⟨o,es,ep,ho,hd,_,hf⟩:=G;unfold nsIn at e;split at e
  ·rename_i c d es' n' sl q;have:=X _ _ q;rw[ho] at this;cases this;cases hd;rw[<-hf x];split at e
   ·rename_i z;cases e;unfold nsFind findBy;rw[<-Array.find?_toList,z];rfl
   ·split at e<;>cases e
  ·cases e
structure jZ(K:Frag)(C:Addr)(ar:Arguments)(bd:List Stmt)(sc:Scope)(fs:List Str):Prop where
 ex:∃(fI:Addr) (od:Option Addr) (kV doc pm:Value) (an:Option Addr) (cdv ct:Value) (osl:Array (Option Value)) (qual:Str) (cd:ClassData),
  K.lookup fI=some ⟨.type "function",od,.func (fnOf "__init__" qual ar bd sc .none kV doc pm an cdv ct),osl⟩/\codeIn K cdv qual=true/\jQ K C fI=true/\clsIn K C=some cd/\bF cd.mro=true/\cd.hasDict=true /\
  (∀us:List Value,us.length=fs.length+1->bindArgs (fnOf "__init__" qual ar bd sc .none kV doc pm an cdv ct) ⟨us,[]⟩=pure ((("self" : Str)::fs).zip us))
 set:findIn K (.ref C) "__setattr__"=some (some (.builtin "object.__setattr__"))
 nd:("self"::fs:List Str).Nodup
 ne:fs≠[]
 few:fs.length<=900
 body:iz "self" bd fs=true
 pW:∀x∈sc.names,x.2≠.cell
 loc:∀f∈("self"::fs:List Str),sc.names.lookup f=some .local/\(f==("__debug__" : Str))=false
 fld:∀f∈fs,findIn K (.ref C) f=some none
 co:sc.isCoroutine=false
 gen:sc.isGenerator=false
 kind:sc.kind=.function
section
variable {X:Cx}{EX:XS}{C:Addr}{ar:Arguments}{bd:List Stmt}{sc:Scope}{fs:List Str}{t:TA}{x:Str}{p apos pos:Pos}{e:Expr}{es:List Expr}
noncomputable def xG(EX:XS)(C:Addr)(fs:List Str)(t:TA):TS:=λ_ Z H=>t Z H λvs H1=>vs.length=fs.length/\vs.length<=sizeLine/\∀d,H1 d=none->EX Z (.ref C) (some d) (upd H1 d (.xd (fs.zip vs)))
theorem zgO{k:Nat}(hr:bA k X.A)(hc:X.aj=true)(IO:jZ X.K C ar bd sc fs)(hg:Gl X x)(hm:X.mg x=some (.ref C))
  (R:Raises X EX) (ha:PA X (e::es) t) (jx:(x==("__debug__" : Str))=false:=by decide) (he:starEach (e::es) X.env=(false,eval e X.env)::starEach es X.env:=by rfl) (hpl:(backTo apos (starEach es X.env)).any (·.1)=false:=by rfl) :
  PS X (.Raise (some (.Call (.Name x p) (e::es) [] apos)) none pos) (xG EX C fs t):=by
 intro ao s Z H D I h;obtain⟨fI,od,kV,doc,pm,an,cdv,ct,osl,qual,cd,lk,jJ,hX,lG,RL,uG,uq⟩:=IO.ex;obtain⟨bm,N,nm,qn,bs,hdct,sn,aq,ab,col,dd,k0,k1,k2,k3,k5,mN,hC,hN,Ra,T⟩:=zhy I.mod.vX hX;refine zaV (C:=C) (nm:=nm) (q:=qn) (N:=N) (bs:=bs) (bm:=bm) (hdct:=hdct) (sn:=sn) (aq:=aq) (ab:=ab) (col:=col) (dd:=dd) (k0:=k0) (k1:=k1) (k2:=k2) (k3:=k3) (k5:=k5) (bmB:=rH)
  FP (by decide +kernel) FP (mN:=mN) (fI:=fI) (T.hasType FP.hasBase) (I.ok.hd hc) (by rw[he];show (false||(backTo apos (starEach es X.env)).any (·.1))=false;rw[hpl];rfl) Ra (oI:=⟨.type "function",od,.func (fnOf "__init__" qual ar bd sc .none kV doc pm an cdv ct),osl⟩) rfl (Ef I hg hm ⟨rfl,?_⟩ jx)
 have h2:=ha apos ao s Z H _ I h;rw[he] at h2 ⊢;refine Pk (bf h2 λus s2 ⟨vs,H2,I2,r,hl,z,q⟩=>⟨rfl,by rw[<-r.length];exact z,I2.bk _ _ hC,hN.keeps I2.bk,T.keeps I2.bk,I2.kZ _ _ lk,?_⟩);have Em:us.length=fs.length:=by rw[<-r.length];exact hl
 dsimp only;generalize hS:({s2 with heap:=(s2.heap.push {cls:=.type "tuple",data:=.seq us.toArray}).push {cls:=.ref C,data:=.fields #[.ref s2.heap.objs.size,.none,.none,.none,.bool false,.none]}}:Shared)=s3;have IW:s3.heap.objs.size=s2.heap.objs.size+2:=by rw[<-hS];simp[sX]
 have uI:∀b o,s2.heap.get? b=some o->s3.heap.get? b=some o:=λb o q=>by rw[<-hS];exact bY _ (bY _ q)
 have he3:s3.heap.get? (s2.heap.objs.size+1)=some {cls:=.ref C,data:=.fields #[.ref s2.heap.objs.size,.none,.none,.none,.bool false,.none]}:=by
  rw[<-hS];have:=fO (s2.heap.push {cls:=.type "tuple",data:=.seq us.toArray}) (o:={cls:=.ref C,data:=.fields #[.ref s2.heap.objs.size,.none,.none,.none,.bool false,.none]}) rfl;rw[sX] at this;exact this
 have RM:X.K.In s3.heap:=I2.kZ.keeps uI;have RN:s3.heap.NoLimit:=I2.nolimit.keeps uI;have nK:∀b o,X.K.lookup b=some o->b≠s2.heap.objs.size+1:=λb o q=>dw (sW (bN (I2.kZ b o q)));have hlen:("self"::fs:List Str).length=(Value.ref (s2.heap.objs.size+1)::us).length:=by simp[Em]
 refine yO (codeAny_call_def (fd:=fnOf "__init__" qual ar bd sc .none kV doc pm an cdv ct) (binds:=(("self" : Str)::fs).zip (Value.ref (s2.heap.objs.size+1)::us)) (by have:=hr.dp;show X.A.depth+(Code.builtin "type.__call__" {pos:=Value.ref C::us}).weight<recursionLimit;have w:(Code.builtin "type.__call__" {pos:=Value.ref C::us}).weight<=1:=(by show (Code.builtin "type.__call__" {pos:=Value.ref C::us}).weight<=1;first|exact bO _|exact vV _|exact Pj (by kernel_rfl)|(simp[Code.weight,Code.frames,Code.isGuard,Code.isCaller]));lia) (RM _ _ lk) rfl RN (codeRec_of RM jJ) rfl
  (.of_eq (uq _ (by simp[Em]))) IO.pW (λy hy=>(IO.loc y.1 (Li hy).1).1) (λh₀ HX RP=>?_) IO.co IO.gen IO.kind)
 obtain⟨f0,fr,rfl⟩ : ∃f0 fr,fs=f0::fr:=by
  cases hfs:fs with
  |nil=>exact absurd hfs IO.ne
  |cons a b=>exact⟨a,b,rfl⟩
 obtain⟨u0,ur,rfl⟩ : ∃u0 ur,us=u0::ur:=by
  cases hus:us with
  |nil=>rw[hus] at Em;cases Em
  |cons a b=>exact⟨a,b,rfl⟩
 have get:∀(i:Nat) g v,("self"::f0::fr:List Str)[i]?=some g->(Value.ref (s2.heap.objs.size+1)::u0::ur)[i]?=some v->((("self" : Str)::f0::fr).zip (Value.ref (s2.heap.objs.size+1)::u0::ur)).reverse.lookup g=some v:=λi g v e1 e2=>zfc IO.nd hlen e1 e2;refine zdI (K:=X.K) (C:=C) (cd:=cd) (sf:="self") (e:=s2.heap.objs.size+1) (m:=λx=>((("self" : Str)::f0::fr).zip (Value.ref (s2.heap.objs.size+1)::u0::ur)).reverse.lookup x) (fs:=fr) (us:=ur) (ox:={cls:=.ref C,data:=.fields #[.ref s2.heap.objs.size,.none,.none,.none,.bool false,.none]})
  IO.kind (get 0 _ _ rfl rfl) (IO.loc _ jF).1 (IO.loc _ jF).2 IO.set lG RL uG nK (vU (by show _<s3.heap.objs.size;rw[IW];lia)) IO.body (by simpa using Em.symm) (by have:=IO.few;simp at this;lia)
  (λi g v e1 e2=>get (i+1) g v (by simpa using e1) (by simpa using e2)) (λg hg=>⟨(IO.loc g (gb _ hg)).1,(IO.loc g (gb _ hg)).2,IO.fld g hg⟩)
  (RM.keeps RP) HX (RP _ _ he3) rfl (λc z=>by cases z) rfl λh' tk' d hd a1 a2 a3=>?_
 have hd3:s3.heap.objs.size<=d:=by
  refine kI ?_ hd;by_cases z:h₀.objs.size<s3.heap.objs.size
  ·exfalso
   have e1:=HX.lt;exact absurd (Nat.lt_trans e1 z) (qI _)
  ·exact Gf z
 have mU:∀b o,s2.heap.get? b=some o->h'.get? b=some o:=λb o q=>a3 b o (dw (sW (bN q))) (dw (gJ (bN q) (by rw[IW] at hd3;lia))) (RP _ _ (uI _ _ q));have oG:d≠s2.heap.objs.size+1:=by lia
 have und:H2 d=none:=I2.hok.fresh (by lia);refine⟨rfl,⟨some d,_,a1⟩,mU _ _ (I2.bk _ _ hC),?_⟩;have new:aU X.prog X.w (upd H2 d (.xd ((f0::fr).zip vs))) h' d (.xd ((f0::fr).zip vs)):=⟨_,a2,λf=>by
  rw[Yt (by rw[Ys Em.symm];exact(vP.mp IO.nd).2)];have:=zhq (fs:=f0::fr) r f
  revert this
  cases ((f0::fr).zip (u0::ur)).lookup f<;>exact id⟩
 have I3:Inv X ao Z (upd H2 d (.xd ((f0::fr).zip vs))) {s3 with heap:=h',toks:=tk'}:=by
  have:=I2.laid (t':=tk') mU (by lia) new;rw[<-hS];exact this
 have une:upd H2 d (.xd ((f0::fr).zip vs)) (s2.heap.objs.size+1)=none:=by
  rw[cW (Ne.symm oG)];exact I2.hok.fresh (DN _)
 refine R ao Z _ _ s2.heap (s2.heap.objs.size+1) C (some d) I3 (λb ob z n=>I2.base.there b ob z n) (λq hq=>⟨q.2,(I2.pin q hq).1⟩) (λb ob z=>⟨ob,mU b ob z⟩) ⟨Dl (DN _),une,_,_,_,a1,rfl,rfl,rfl,rfl,.inl rfl⟩ (q d und)
end
section
variable {prog:Program}{w:World}{A:Around}{E:Value->Shared->Prop}{s:Shared}{K:Frag}{x C:Addr}{ox:Obj}{od:Option Obj}{name:Str}
end
structure XF(K:Frag)(C:Addr)(f:Str):Prop where
 ga:findIn K (.ref C) "__getattribute__"=some (some (.builtin "BaseException.__getattribute__"))
 gn:findIn K (.ref C) "__getattr__"=some none
 mb:mroIn K C (.type "BaseException")=some true
 no:findIn K (.ref C) f=some none
 hd:hasDictIn K C=true
section
variable {X:Cx}{e:Expr}{f:Str}{pos:Pos}{ta:TE}
end
end L2
namespace L2
open PySem PySem.Spec PyProof.Rows
section
variable {X:Cx}{ao:List (Addr×Obj)}{Z:St}{H:Hp}{s:Shared}{h':Heap}
theorem Inv.lH{t':Nat}{ch:List Addr}{a:Addr}{o:HO}(I:Inv X ao Z H s)(k:∀b u,b∉ch->s.heap.get? b=some u->h'.get? b=some u)(hf:∀b∈ch,iZ X ao H b)(ha:s.heap.objs.size<=a)(new:aU X.prog X.w (upd H a o) h' a o) :
  Inv X ao Z (upd H a o) {s with heap:=h',toks:=t'}:=by
 have yR:∀b u,H b=some u->b∉ch:=λb u e z=>by rw[(hf b z).1] at e;cases e
 have hn:H a=none:=I.hok.fresh ha;have na:∀b u,H b=some u->b≠a:=λb u e z=>by rw[z,hn] at e;cases e
 have la:∀b u,s.heap.get? b=some u->b≠a:=λb u e=>dw (gJ (bN e) ha);refine I.step (g':=s.gens) (d':=s.drawn) (ch:=ch) (λb hb=>?_) (λb o _ _ hc e _=>k b o hc e) (λb o _ _ hc e _=>⟨o.slots,k b o hc e⟩) (λb o' _ e n=>by rw[cW (la b o' e)];exact n)
  (λb o hc e=>⟨o,k b o hc e⟩) (λb xs e=>by rw[cW (na b _ e)];exact e) (λb o u e=>by rw[cW (na b _ e)];exact e) (λb ps e=>⟨#[],by rw[cW (na b _ e),e];simp⟩) (λm hm=>?_) (λb u e=>?_) I.bare
 ·obtain⟨f0,f1,f2,f3,f4,f5⟩:=hf b hb;exact⟨f3.imp id λz=>Dl z,f1,f4,f5⟩
 ·obtain⟨o,es,ep,ho,r⟩:=hm;exact⟨o,es,ep,k _ o (λz=>(hf _ z).2.1 rfl) ho,r⟩
 ·by_cases z:b=a
  ·subst z;rw[iV] at e;cases e;exact new
  ·rw[cW z] at e;refine(I.hok b u e).stay (λc v hc q=>k c v ?_ q) (λc q=>by rw[cW (na c _ q)];exact q) λc _ q=>by rw[cW (na c _ q)];exact q
   rcases hc with y|y
   ·rw[y];exact yR b u e
   ·exact yR c _ y
theorem Inv.qW{t':Nat}{ch:List Addr}(I:Inv X ao Z H s)(k:∀b u,b∉ch->s.heap.get? b=some u->h'.get? b=some u)(hf:∀b∈ch,iZ X ao H b):Inv X ao Z H {s with heap:=h',toks:=t'}:=by
 have yR:∀b u,H b=some u->b∉ch:=λb u e z=>by rw[(hf b z).1] at e;cases e
 refine I.step (g':=s.gens) (d':=s.drawn) (ch:=ch) (λb hb=>?_) (λb o _ _ hc e _=>k b o hc e) (λb o _ _ hc e _=>⟨o.slots,k b o hc e⟩) (λ_ _ _ _ n=>n)
  (λb o hc e=>⟨o,k b o hc e⟩) (λ_ _ e=>e) (λ_ _ _ e=>e) (λb ps e=>⟨#[],by rw[e];simp⟩) (λm hm=>?_) (λb u e=>?_) I.bare
 ·obtain⟨f0,f1,f2,f3,f4,f5⟩:=hf b hb;exact⟨f3.imp id λz=>Dl z,f1,f4,f5⟩
 ·obtain⟨o,es,ep,ho,r⟩:=hm;exact⟨o,es,ep,k _ o (λz=>(hf _ z).2.1 rfl) ho,r⟩
 ·refine(I.hok b u e).stay (λc v hc q=>k c v ?_ q) (λ_ q=>q) λ_ _ q=>q;rcases hc with y|y
  ·rw[y];exact yR b u e
  ·exact yR c _ y
end
structure lJ(prog:Program)(w:World)(it src:Addr)(st:Nat->Heap->Prop)(its:Array Value):Prop where
 item:∀(A:Around) (E:Value->Shared->Prop) (s:Shared) (i:Nat) (x:Value) (Q:Value->Shared->Prop),st i s.heap->its[i]?=some x->(∀h',st (i+1) h'->Heap.SameBut it s.heap h'->Q x {s with heap:=h'})->wpAny (model prog w) A (Builtin.SmallTypes.nextOf (.ref it)) Q E s
 fin:∀(A:Around) (E:Value->Shared->Prop) (s:Shared) (i:Nat) (Q:Value->Shared->Prop),A.handled=none->st i s.heap->its[i]?=none->(∀h' e,Heap.ExtBut it s.heap h'->(∃o,h'.get? e=some o/\o.cls=.type "StopIteration")->E (.ref e) {s with heap:=h'})->wpAny (model prog w) A (Builtin.SmallTypes.nextOf (.ref it)) Q E s
 keep:∀i h h',st i h->(∀b o,b=it\/b=src->h.get? b=some o->h'.get? b=some o)->st i h'
theorem lJ.list(oG:l≠it):lJ prog w it l (λi h=>h.IsListIter it l i/\h.IsList l its) its where
 item:=λA E s i x Q ⟨h1,h2⟩ hx q=>wpAny_nextOf_list_item h1 h2 hx λh' a sb=>q h' ⟨a,h2.at λo e=>(sb.2 l oG).trans e⟩ sb
 fin:=λA E s i Q hh ⟨h1,h2⟩ hx q=>wpAny_nextOf_list_end hh h1 h2 hx q
 keep:=λi h h' ⟨h1,h2⟩ k=>⟨h1.at λo e=>k it o (.inl rfl) e,h2.at λo e=>k l o (.inr rfl) e⟩
theorem Yv(l:Addr):¬((Value.ref l==Value.none)=true):=λz=>by cases (show false=true from z)
theorem IsTupleIter.at'{h h':Heap}{it l:Addr}{i:Nat}(x:h.IsTupleIter it l i)(k:∀o,h.get? it=some o->h'.get? it=some o):h'.IsTupleIter it l i:=by
 obtain⟨o,e,r⟩:=x;exact⟨o,k o e,r⟩
theorem IsTuple.at'{h h':Heap}{l:Addr}{xs:Array Value}(x:h.IsTuple l xs)(k:∀o,h.get? l=some o->h'.get? l=some o):h'.IsTuple l xs:=by
 obtain⟨o,e,r⟩:=x;exact⟨o,k o e,r⟩
section
variable {prog:Program}{w:World}{A:Around}{E:Value->Shared->Prop}{s:Shared}{it l:Addr}{i:Nat}{its:Array Value}
theorem zfd{x:Value}{Q:Value->Shared->Prop}(hi:s.heap.IsTupleIter it l i)(hl:s.heap.IsTuple l its)(hx:its[i]?=some x)(q:∀h',h'.IsTupleIter it l (i+1)->Heap.SameBut it s.heap h'->Q x {s with heap:=h'}) :
  wpAny (model prog w) A (Builtin.SmallTypes.nextOf (.ref it)) Q E s:=by
 obtain⟨oi,ei,ci,di⟩:=id hi;obtain⟨ol,el,_,nl,dl⟩:=hl;unfold Builtin.SmallTypes.nextOf;refine aB (Ac (name:=Str.ofString "__next__") hi.typeIs KN (yJ KN hi.typeIs F.entry_tuple_iterator_next ?_ (F.args_tuple_iterator_next_1 _)));show wpAny _ A.in1 (field (.ref it) 0 >>= _) _ E s;refine aB (lC ei di (x:=.ref l) rfl ?_);show wpAny _ A.in1 (if (Value.ref l==Value.none)=true then _ else _) _ E s;rw[if_neg (Yv l)];show wpAny _ A.in1 (field (.ref it) 1 >>= _) _ E s;refine aB (lC ei di (x:=.int i 0) rfl ?_);show wpAny _ A.in1 (seqItems? (.ref l) >>= _) _ E s;refine aB (rG el dl ?_);simp only[o_,hx];refine aB (Gm ei di (by simp) (aR ⟨x,rfl,aR (q _ ⟨_,yE _ ei (KZ (wI di _)),(Obj.cls_mapFields ..).trans ci,?_⟩ (Heap.SameBut.update ..))⟩));rw[wI di];simp[rawInt]
theorem zfB{Q:Value->Shared->Prop}(hh:A.handled=none)(hi:s.heap.IsTupleIter it l i)(hl:s.heap.IsTuple l its)(hx:its[i]?=none)(q:∀h' e,Heap.ExtBut it s.heap h'->(∃o,h'.get? e=some o/\o.cls=.type "StopIteration")->E (.ref e) {s with heap:=h'}) :
  wpAny (model prog w) A (Builtin.SmallTypes.nextOf (.ref it)) Q E s:=by
 obtain⟨oi,ei,ci,di⟩:=id hi;obtain⟨ol,el,_,nl,dl⟩:=hl;unfold Builtin.SmallTypes.nextOf;refine aB (Ac (name:=Str.ofString "__next__") hi.typeIs KN (yJ KN hi.typeIs F.entry_tuple_iterator_next ?_ (F.args_tuple_iterator_next_1 _)));show wpAny _ A.in1 (field (.ref it) 0 >>= _) _ E s;refine aB (lC ei di (x:=.ref l) rfl ?_);show wpAny _ A.in1 (if (Value.ref l==Value.none)=true then _ else _) _ E s;rw[if_neg (Yv l)];show wpAny _ A.in1 (field (.ref it) 1 >>= _) _ E s;refine aB (lC ei di (x:=.int i 0) rfl ?_);show wpAny _ A.in1 (seqItems? (.ref l) >>= _) _ E s;refine aB (rG el dl ?_);simp only[o_,hx];refine aB (wpAny_rule (aB (Gm ei di (by simp) ?_)));show wpAny _ A.in1 (newExc (.type "StopIteration") [] >>= _) _ E _;refine aB ?_;simp only[newExc,newTuple];refine aB (vO (aB (m:=firstArgMember _ _) (wpAny_of_eq (a:=Value.none) (by first|rfl|(simp only[firstArgMember];rfl)) (vO ?_ (by size_fits)))) (by size_fits));simp only[raiseNew];refine aB (wpAny_handled ?_);rw[show A.in1.handled=none from hh];exact aB (aR (wpAny_throw (q _ _ (((Heap.SameBut.update ..).extBut.push _).push _) ⟨_,fO _ rfl,rfl⟩)))
end
theorem lJ.tuple{prog:Program}{w:World}{it l:Addr}{its:Array Value}(oG:l≠it):lJ prog w it l (λi h=>h.IsTupleIter it l i/\h.IsTuple l its) its where
 item:=λA E s i x Q ⟨h1,h2⟩ hx q=>zfd h1 h2 hx λh' a sb=>q h' ⟨a,IsTuple.at' h2 λo e=>(sb.2 l oG).trans e⟩ sb
 fin:=λA E s i Q hh ⟨h1,h2⟩ hx q=>zfB hh h1 h2 hx q
 keep:=λi h h' ⟨h1,h2⟩ k=>⟨IsTupleIter.at' h1 λo e=>k it o (.inl rfl) e,IsTuple.at' h2 λo e=>k l o (.inr rfl) e⟩
structure mV(z TI TO i1 i2 l1 l2:Addr):Prop where
 zs:z≠TI/\z≠TO/\z≠i1/\z≠i2/\z≠l1/\z≠l2
 os:TO≠TI/\TO≠i1/\TO≠i2/\TO≠l1/\TO≠l2
 is:TI≠i1/\TI≠i2/\i1≠i2/\i1≠l1/\i1≠l2/\i2≠l1/\i2≠l2
section
variable {prog:Program}{w:World}{A:Around}{E:Value->Shared->Prop}{s:Shared}{z TI TO i1 i2 l1 l2:Addr}{st1 st2:Nat->Heap->Prop}{xs ys:Array Value}{k:Nat}{a b:Value}
theorem zij(N1:lJ prog w i1 l1 st1 xs)(N2:lJ prog w i2 l2 st2 ys)(D:mV z TI TO i1 i2 l1 l2)(hz:IsZip s.heap z TI TO .none)(RQ:IsPair s.heap TI (.ref i1) (.ref i2))(RT:IsPair s.heap TO a b)
  (h1:st1 k s.heap) (h2:st2 k s.heap) (hx:xs[k]?=some x) (hy:ys[k]?=some y)
  (q:∀h',IsZip h' z TI TO (rawInt s.heap.objs.size)->IsPair h' TO x y->st1 (k+1) h'->st2 (k+1) h'->IsPair h' s.heap.objs.size x y->h'.objs.size=s.heap.objs.size+1->(∀c o,c≠z->c≠TO->c≠i1->c≠i2->s.heap.get? c=some o->h'.get? c=some o)->Q (some (.ref s.heap.objs.size)) {s with heap:=h'}) :
  wpAny (model prog w) A (pyNext (.ref z)) Q E s:=by
 obtain⟨⟨z1,z2,z3,z4,z5,z6⟩,⟨t1,t2,t3,t4,t5⟩,⟨j1,j2,j3,j4,j5,j6,j7⟩⟩:=D;have hT:s.TypeIs (.ref z) "zip":=⟨_,hz,rfl⟩;unfold pyNext;refine aB (Gn (Ac (name:=Str.ofString "__next__") hT Lj (yJ Lj hT F.entry_zip_next ?_ (F.args_zip_next_1 _))));show wpAny _ A.in1 (field (.ref z) 2 >>= _) _ _ s;refine aB (lC hz rfl (x:=.bool false) rfl ?_);show wpAny _ A.in1 (field (.ref z) 3 >>= _) _ _ s;refine aB (lC hz rfl (x:=.ref TI) rfl (aB (rG RQ rfl ?_)));show wpAny _ A.in1 (Builtin.SmallTypes.ownedTupleIsFree (.ref z) >>= _) _ _ s;refine aB ?_;unfold Builtin.SmallTypes.ownedTupleIsFree;refine aB (lC hz rfl (x:=.none) rfl (aR ?_));simp only[if_true];refine aB (wpAny_rule (aB (lC hz rfl (x:=.ref TO) rfl (aB (Du hz (by simp) λha za sa=>aB ?_)))))
 replace za:IsZip ha z TI TO .ellipsis:=za
 simp only[List.zipIdx_cons,List.zipIdx_nil,Dy,Lp];refine aB (aB (wpAny_onRaise ?_));show wpAny _ A.in1 (Builtin.SmallTypes.nextOf (.ref i1) >>= _) _ _ _;refine aB (N1.item _ _ {s with heap:=ha} k x _ (N1.keep _ _ _ h1 λc o hc e=>sa.extBut c o (by rcases hc with rfl|rfl;exact z3.symm;exact z5.symm) e) hx λhb Yw sb=>aR ?_);have tb:IsPair hb TO a b:=sb.extBut _ _ t2 (sa.extBut _ _ z2.symm RT);refine aB (rG tb rfl (aB (Pn tb λhc tc sc=>aB (Aq (aR ?_)))))
 replace tc:IsPair hc TO x b:=tc
 refine aB (aB (wpAny_onRaise ?_));show wpAny _ A.in1 (Builtin.SmallTypes.nextOf (.ref i2) >>= _) _ _ _;have k2:st2 k hc:=N2.keep _ _ _ h2 λc o k_ e=>by
  rcases k_ with rfl|rfl
  ·exact sc.extBut _ _ t3.symm (sb.extBut _ _ j3.symm (sa.extBut _ _ z4.symm e))
  ·exact sc.extBut _ _ t5.symm (sb.extBut _ _ j5.symm (sa.extBut _ _ z6.symm e))
 have k1:st1 (k+1) hc:=N1.keep _ _ _ Yw λc o k_ e=>by
  rcases k_ with rfl|rfl
  ·exact sc.extBut _ _ t2.symm e
  ·exact sc.extBut _ _ t4.symm e
 refine aB (N2.item _ _ {s with heap:=hc} k y _ k2 hy λhd sd2 sd=>aR ?_);have td:IsPair hd TO x b:=sd.extBut _ _ t3 tc;refine aB (rG td rfl (aB (Pn td λhe te se=>aB (Aq (aR (aR ?_))))))
 replace te:IsPair he TO x y:=te
 refine aB (rG te rfl (aB (wpAny_newTuple ?_)));have size:he.objs.size=s.heap.objs.size:=by rw[se.1,sd.1,sc.1,sb.1,sa.1]
 have ze:IsZip he z TI TO .ellipsis:=se.extBut _ _ z2 (sd.extBut _ _ z4 (sc.extBut _ _ z2 (sb.extBut _ _ z3 za)));have kept:∀c o,c≠z->c≠TO->c≠i1->c≠i2->s.heap.get? c=some o->he.get? c=some o:=λc o c1 c2 c3 c4 e=>se.extBut _ _ c2 (sd.extBut _ _ c4 (sc.extBut _ _ c2 (sb.extBut _ _ c3 (sa.extBut _ _ c1 e))));have e1:st1 (k+1) he:=N1.keep _ _ _ k1 λc o k_ e=>by
  rcases k_ with rfl|rfl
  ·exact se.extBut _ _ t2.symm (sd.extBut _ _ j3 e)
  ·exact se.extBut _ _ t4.symm (sd.extBut _ _ j6.symm e)
 have e2:st2 (k+1) he:=N2.keep _ _ _ sd2 λc o k_ e=>by
  rcases k_ with rfl|rfl
  ·exact se.extBut _ _ t3.symm e
  ·exact se.extBut _ _ t5.symm e
 show wpAny _ A.in1 (Builtin.SmallTypes.ownedTupleHandOut (.ref z) (.ref he.objs.size) >>= _) _ _ _;refine aB ?_;unfold Builtin.SmallTypes.ownedTupleHandOut;have zf:IsZip (he.push {cls:=.type "tuple",data:=.seq #[x,y]}) z TI TO .ellipsis:=bY _ ze;refine aB (Du zf (by simp) λhg zg sg=>Du zg (by simp) λhh zh sh=>aR ⟨_,rfl,aR ?_⟩)
 replace zh:IsZip hh z TI TO (rawInt he.objs.size):=zh
 have up:∀c o,c≠z->he.get? c=some o->hh.get? c=some o:=λc o c1 e=>sh.extBut _ _ c1 (sg.extBut _ _ c1 (bY _ e));have lz:z<he.objs.size:=bN ze;have tn:IsPair hh he.objs.size x y:=sh.extBut _ _ (vU lz) (sg.extBut _ _ (vU lz) (fO _ rfl));have sz:hh.objs.size=he.objs.size+1:=by rw[sh.1,sg.1,sX]
 rw[size] at zh tn sz;show Q (some (.ref he.objs.size)) _;rw[size];exact q hh zh (up _ _ z2.symm te) (N1.keep _ _ _ e1 λc o k_ e=>up c o (by rcases k_ with rfl|rfl;exact z3.symm;exact z5.symm) e) (N2.keep _ _ _ e2 λc o k_ e=>up c o (by rcases k_ with rfl|rfl;exact z4.symm;exact z6.symm) e) tn sz λc o c1 c2 c3 c4 e=>up c o c1 (kept c o c1 c2 c3 c4 e)
theorem zjs(hn:A.handled=none)(N1:lJ prog w i1 l1 st1 xs)(N2:lJ prog w i2 l2 st2 ys)(D:mV z TI TO i1 i2 l1 l2)(hz:IsZip s.heap z TI TO .none)(RQ:IsPair s.heap TI (.ref i1) (.ref i2))(RT:IsPair s.heap TO a b)
  (h1:st1 k s.heap) (h2:st2 k s.heap) (hx:xs[k]?=none\/ys[k]?=none) (q:∀h',(∀c o,c≠z->c≠TO->c≠i1->c≠i2->s.heap.get? c=some o->h'.get? c=some o)->Q none {s with heap:=h'}):wpAny (model prog w) A (pyNext (.ref z)) Q E s:=by
 obtain⟨⟨z1,z2,z3,z4,z5,z6⟩,⟨t1,t2,t3,t4,t5⟩,⟨j1,j2,j3,j4,j5,j6,j7⟩⟩:=D;have hT:s.TypeIs (.ref z) "zip":=⟨_,hz,rfl⟩;have stop:∀(h':Heap) (e:Addr),(∀c o,c≠z->c≠TO->c≠i1->c≠i2->s.heap.get? c=some o->h'.get? c=some o)->(∃o,h'.get? e=some o/\o.cls=.type "StopIteration")->
   wpAny (model prog w) A (do if <-isInstance (.ref e) (.type "StopIteration") then pure none else throw (.ref e):Sem (Option Value)) Q E {s with heap:=h'}:=λh' e kp ⟨o,ho,hc⟩=>
  aB (Lf (T:="StopIteration") (b:=true) ⟨o,ho,hc⟩ isSubtype_stop (aR (q h' kp)))
 unfold pyNext;refine aB (Gn (Ac (name:=Str.ofString "__next__") hT Lj (yJ Lj hT F.entry_zip_next ?_ (F.args_zip_next_1 _))));show wpAny _ A.in1 (field (.ref z) 2 >>= _) _ _ s;refine aB (lC hz rfl (x:=.bool false) rfl ?_);show wpAny _ A.in1 (field (.ref z) 3 >>= _) _ _ s;refine aB (lC hz rfl (x:=.ref TI) rfl (aB (rG RQ rfl ?_)));show wpAny _ A.in1 (Builtin.SmallTypes.ownedTupleIsFree (.ref z) >>= _) _ _ s;refine aB ?_;unfold Builtin.SmallTypes.ownedTupleIsFree;refine aB (lC hz rfl (x:=.none) rfl (aR ?_));simp only[if_true];refine aB (wpAny_rule (aB (lC hz rfl (x:=.ref TO) rfl (aB (Du hz (by simp) λha za sa=>aB ?_)))))
 replace za:IsZip ha z TI TO .ellipsis:=za
 simp only[List.zipIdx_cons,List.zipIdx_nil,Dy,Lp];refine aB (aB (wpAny_onRaise ?_));show wpAny _ A.in1 (Builtin.SmallTypes.nextOf (.ref i1) >>= _) _ _ _;have ka:st1 k ha:=N1.keep _ _ _ h1 λc o hc e=>sa.extBut c o (by rcases hc with rfl|rfl;exact z3.symm;exact z5.symm) e;cases ex:xs[k]? with
 |none=>
  refine aB (N1.fin _ _ {s with heap:=ha} k _ hn ka ex λhb e sb se=>?_);obtain⟨oe,ho,hc⟩:=se;have zb:IsZip hb z TI TO .ellipsis:=sb _ _ z3 za;have ne:e≠z:=λy=>by subst y;rw[zb] at ho;cases ho;simp at hc
  exact Du zb (by simp) λhd _ sd=>stop hd e (λc o c1 _ c3 _ y=>sd.extBut _ _ c1 (sb _ _ c3 (sa.extBut _ _ c1 y))) ⟨oe,sd.extBut _ _ ne ho,hc⟩
 |some x=>
  have ey:ys[k]?=none:=by
   rcases hx with y|y
   ·rw[ex] at y;cases y
   ·exact y
  refine aB (N1.item _ _ {s with heap:=ha} k x _ ka ex λhb Yw sb=>aR ?_);have tb:IsPair hb TO a b:=sb.extBut _ _ t2 (sa.extBut _ _ z2.symm RT);refine aB (rG tb rfl (aB (Pn tb λhc tc sc=>aB (Aq (aR ?_)))));refine aB (aB (wpAny_onRaise ?_));show wpAny _ A.in1 (Builtin.SmallTypes.nextOf (.ref i2) >>= _) _ _ _;have k2:st2 k hc:=N2.keep _ _ _ h2 λc o k_ e=>by
   rcases k_ with rfl|rfl
   ·exact sc.extBut _ _ t3.symm (sb.extBut _ _ j3.symm (sa.extBut _ _ z4.symm e))
   ·exact sc.extBut _ _ t5.symm (sb.extBut _ _ j5.symm (sa.extBut _ _ z6.symm e))
  refine aB (N2.fin _ _ {s with heap:=hc} k _ hn k2 ey λhd e sd se=>?_);obtain⟨oe,ho,lG⟩:=se;have zd:IsZip hd z TI TO .ellipsis:=sd _ _ z4 (sc.extBut _ _ z2 (sb.extBut _ _ z3 za));have ne:e≠z:=λy=>by subst y;rw[zd] at ho;cases ho;simp at lG
  exact Du zd (by simp) λhf _ sf=>stop hf e (λc o c1 c2 c3 c4 y=>sf.extBut _ _ c1 (sd _ _ c4 (sc.extBut _ _ c2 (sb.extBut _ _ c3 (sa.extBut _ _ c1 y))))) ⟨oe,sf.extBut _ _ ne ho,lG⟩
end
noncomputable def Ck:Bool->Heap->Addr->Array Value->Prop
 |true,h,l,xs=>h.IsList l xs
 |false,h,l,xs=>h.IsTuple l xs
noncomputable def Rk:Bool->Addr->Addr->Nat->Heap->Prop
 |true,it,l,i,h=>h.IsListIter it l i
 |false,it,l,i,h=>h.IsTupleIter it l i
noncomputable def Sk:Bool->W.Frag->Hp->Addr->List V->Prop
 |true,K,H,l,xs=>cO K H l xs
 |false,K,H,l,xs=>gj K H l xs
noncomputable def f9:Bool->Addr->Obj
 |true,l=>{cls:=.type "list_iterator",data:=.fields #[.ref l,.int 0 0]}
 |false,l=>{cls:=.type "tuple_iterator",data:=.fields #[.ref l,.int 0 0]}
theorem lJ.of(kd:Bool)(oG:l≠it):lJ prog w it l (λi h=>Rk kd it l i h/\Ck kd h l its) its:=by
 cases kd
 ·exact lJ.tuple oG
 ·exact lJ.list oG
theorem Ck.keep(x:Ck kd h l xs)(k:∀o,h.get? l=some o->h'.get? l=some o):Ck kd h' l xs:=by
 cases kd
 ·exact IsTuple.at' x k
 ·exact Heap.IsList.at x k
theorem Rk.keep(x:Rk kd it l i h)(k:∀o,h.get? it=some o->h'.get? it=some o):Rk kd it l i h':=by
 cases kd
 ·exact IsTupleIter.at' x k
 ·exact Heap.IsListIter.at x k
theorem Rk.obj(x:Rk kd it l i h):∃o,h.get? it=some o/\∀v,o.data≠.cell v:=by
 cases kd
 ·obtain⟨o,e,c,d⟩:=x;exact⟨o,e,λv z=>by rw[d] at z;cases z⟩
 ·obtain⟨o,e,c,d⟩:=x;exact⟨o,e,λv z=>by rw[d] at z;cases z⟩
theorem Ck.lt(x:Ck kd h l xs):l<h.objs.size:=by
 cases kd
 ·obtain⟨o,e,_⟩:=x;exact bN e
 ·obtain⟨o,e,_⟩:=x;exact bN e
section
variable {prog:Program}{w:World}{A:Around}{E:Value->Shared->Prop}{s:Shared}
theorem MJ(c:Ck kd s.heap l xs)(q:Q (.ref s.heap.objs.size) {s with heap:=s.heap.push (f9 kd l)}):wpAny (model prog w) A (pyIter (.ref l)) Q E s:=by
 cases kd
 ·exact wpAny_pyIter_tuple c q
 ·exact K_ c q
end
noncomputable def zH(h:Heap)(k1 k2:Bool)(l1 l2:Addr):Heap:=((((h.push (f9 k1 l1)).push (f9 k2 l2)).push {cls:=.type "tuple",data:=.seq #[.ref h.objs.size,.ref (h.push (f9 k1 l1)).objs.size]}).push {cls:=.type "tuple",data:=.seq #[.none,.none]}).push
 {cls:=.type "zip",data:=.fields #[.none,.bool false,.bool false,.ref ((h.push (f9 k1 l1)).push (f9 k2 l2)).objs.size,.ref (((h.push (f9 k1 l1)).push (f9 k2 l2)).push {cls:=.type "tuple",data:=.seq #[.ref h.objs.size,.ref (h.push (f9 k1 l1)).objs.size]}).objs.size]}
theorem zhz(k1 k2:Bool)(l1 l2:Addr)(xs ys:Array Value):Meets (Builtin.«zip.__new__» ⟨[.type "zip",.ref l1,.ref l2],[]⟩) (λ_ R s=>Ck k1 s.heap l1 xs/\Ck k2 s.heap l2 ys /\
   R (.ok (.ret (.ref ((((s.heap.push (f9 k1 l1)).push (f9 k2 l2)).push {cls:=.type "tuple",data:=.seq #[.ref s.heap.objs.size,.ref (s.heap.push (f9 k1 l1)).objs.size]}).push {cls:=.type "tuple",data:=.seq #[.none,.none]}).objs.size))) {s with heap:=zH s.heap k1 k2 l1 l2}):=
 .of_wp λprog w A R s h=>by
  obtain⟨hp,g,d,tk,os⟩:=s;obtain⟨c1,c2,h⟩:=h;have hsub:=sub_zip;have C1:Ck k1 (Shared.heap ⟨hp,g,d,tk,os⟩) l1 xs:=c1;have C2:Ck k2 (Shared.heap ⟨hp.push (f9 k1 l1),g,d,tk,os⟩) l2 ys:=c2.keep λo e=>bY _ e
  wp_walk using MJ C1,MJ C2
  exact⟨_,rfl,h⟩
section
variable {prog:Program}{w:World}{A:Around}{E:Value->Shared->Prop}{s:Shared}
theorem zkq(c1:Ck k1 s.heap l1 xs)(c2:Ck k2 s.heap l2 ys)
  (h:∀h',IsZip h' (s.heap.objs.size+4) (s.heap.objs.size+2) (s.heap.objs.size+3) .none->IsPair h' (s.heap.objs.size+2) (.ref s.heap.objs.size) (.ref (s.heap.objs.size+1))->IsPair h' (s.heap.objs.size+3) .none .none->
   Rk k1 s.heap.objs.size l1 0 h'->Rk k2 (s.heap.objs.size+1) l2 0 h'->(∀c o,s.heap.get? c=some o->h'.get? c=some o)->Q (.ref (s.heap.objs.size+4)) {s with heap:=h'}) :
  wpAny (model prog w) A (call (.type "zip") [.ref l1,.ref l2]) Q E s:=by
 refine callType_new F.called_zip (by decide) (F.typeCall_zip_2 _ _) (F.newCall_zip_2 _ _) (λobj=>F.args_object_init_3 obj _ _) F.entry_zip_new (zhz k1 k2 l1 l2 xs ys) ⟨c1,c2,?_⟩;have n1:(s.heap.push (f9 k1 l1)).objs.size=s.heap.objs.size+1:=sX ..;have n2:((s.heap.push (f9 k1 l1)).push (f9 k2 l2)).objs.size=s.heap.objs.size+2:=by rw[sX,n1]
 have fr:∀kd l,(f9 kd l).isFreed=false:=λkd l=>by cases kd<;>rfl
 have rk:∀{h:Heap} {a:Addr} {kd:Bool} {l:Addr},h.get? a=some (f9 kd l)->Rk kd a l 0 h:=λ{h a kd l} e=>by
  cases kd
  ·exact⟨_,e,rfl,rfl⟩
  ·exact⟨_,e,rfl,rfl⟩
 have o1:(s.heap.push (f9 k1 l1)).get? s.heap.objs.size=some (f9 k1 l1):=fO _ (fr _ _);have o2:((s.heap.push (f9 k1 l1)).push (f9 k2 l2)).get? (s.heap.objs.size+1)=some (f9 k2 l2):=by
  have:=fO (s.heap.push (f9 k1 l1)) (o:=f9 k2 l2) (fr _ _);rw[n1] at this;exact this
 generalize hA:(s.heap.push (f9 k1 l1)).push (f9 k2 l2)=MK at *;have eH:zH s.heap k1 k2 l1 l2=((MK.push {cls:=.type "tuple",data:=.seq #[.ref s.heap.objs.size,.ref (s.heap.objs.size+1)]}).push {cls:=.type "tuple",data:=.seq #[.none,.none]}).push {cls:=.type "zip",data:=.fields #[.none,.bool false,.bool false,.ref (s.heap.objs.size+2),.ref (s.heap.objs.size+3)]}:=by
  unfold zH;rw[hA,n1,n2,sX,n2]
 have n3:(MK.push {cls:=.type "tuple",data:=.seq #[.ref s.heap.objs.size,.ref (s.heap.objs.size+1)]}).objs.size=s.heap.objs.size+3:=by rw[sX,n2]
 have n4:((MK.push {cls:=.type "tuple",data:=.seq #[.ref s.heap.objs.size,.ref (s.heap.objs.size+1)]}).push {cls:=.type "tuple",data:=.seq #[.none,.none]}).objs.size=s.heap.objs.size+4:=by rw[sX,n3]
 rw[n1,n4];have g5:(zH s.heap k1 k2 l1 l2).get? (s.heap.objs.size+4)=some {cls:=.type "zip",data:=.fields #[.none,.bool false,.bool false,.ref (s.heap.objs.size+2),.ref (s.heap.objs.size+3)]}:=by
  rw[eH,<-n4];exact fO _ rfl
 have g4:(zH s.heap k1 k2 l1 l2).get? (s.heap.objs.size+3)=some {cls:=.type "tuple",data:=.seq #[.none,.none]}:=by
  rw[eH,<-n3];exact bY _ (fO _ rfl)
 have g3:(zH s.heap k1 k2 l1 l2).get? (s.heap.objs.size+2)=some {cls:=.type "tuple",data:=.seq #[.ref s.heap.objs.size,.ref (s.heap.objs.size+1)]}:=by
  rw[eH,<-n2];exact bY _ (bY _ (fO _ rfl))
 have up:∀c o,MK.get? c=some o->(zH s.heap k1 k2 l1 l2).get? c=some o:=λc o e=>by rw[eH];exact bY _ (bY _ (bY _ e))
 refine⟨⟨_,g5,rfl⟩,h _ g5 g3 g4 (rk (up _ _ ?_)) (rk (up _ _ o2)) λc o e=>up _ _ ?_⟩
 ·rw[<-hA];exact bY _ o1
 ·rw[<-hA];exact bY _ (bY _ e)
end
noncomputable def RV(K:W.Frag)(k1 k2:Bool)(l1 l2:Addr):It:=
 ⟨λi H=>∃xs ys x y,Sk k1 K H l1 xs/\Sk k2 K H l2 ys/\xs[i]?=some x/\ys[i]?=some y,
  λi H v H'=>∃a x y,H a=none/\v=.ref a/\H'=upd H a (.tup [x,y])/\(∀xs,Sk k1 K H l1 xs->xs[i]?=some x)/\∀ys,Sk k2 K H l2 ys->ys[i]?=some y,
  λi H=>∃xs ys,Sk k1 K H l1 xs/\Sk k2 K H l2 ys/\(xs.length<=i\/ys.length<=i)⟩
section
variable {X:Cx}{ao:List (Addr×Obj)}{Z:St}{H:Hp}{s:Shared}{kd:Bool}{l:Addr}{xs ys:List V}
theorem Inv.row(I:Inv X ao Z H s)(h:Sk kd X.K H l xs):∃its:List Value,Vals xs its/\Ck kd s.heap l its.toArray:=by
 cases kd
 ·obtain⟨its,rv,p,hz⟩:=I.tuple h;exact⟨its,rv,p⟩
 ·obtain⟨its,rv,p,hz⟩:=I.list h;exact⟨its,rv,p.isList⟩
theorem Inv.mW(I:Inv X ao Z H s)(h:Sk kd X.K H l xs)(h':Sk kd X.K H l ys):xs=ys:=by
 cases kd
 ·exact I.lF h h'
 ·exact I.n6 h h'
end
theorem zhP{P:Program}{w:World}{K:W.Frag}{elts:List Expr}{kk:Nat}{pos:Pos}{k1 k2:Bool}{l1 l2 z TI TO i1 i2:Addr}(D:mV z TI TO i1 i2 l1 l2) :
  Turn P w K (.Tuple elts kk pos) (RV K k1 k2 l1 l2) [z,TI,TO,i1,i2] z (λi h=>IsZip h z TI TO .none/\IsPair h TI (.ref i1) (.ref i2)/\(∃a b,IsPair h TO a b)/\Rk k1 i1 l1 i h/\Rk k2 i2 l2 i h) where
 mem:=by simp
 obj:=λi h ⟨a1,a2,⟨p,q,a3⟩,a4,a5⟩ b hb=>by
  have:b=z\/b=TI\/b=TO\/b=i1\/b=i2:=by simpa using hb
  rcases this with rfl|rfl|rfl|rfl|rfl
  ·exact⟨_,a1,λv y=>by cases y⟩
  ·exact⟨_,a2,λv y=>by cases y⟩
  ·exact⟨_,a3,λv y=>by cases y⟩
  ·exact a4.obj
  ·exact a5.obj
 keep:=λi h h' ⟨a1,a2,⟨p,q,a3⟩,a4,a5⟩ k=>⟨k z (by simp) _ a1,k TI (by simp) _ a2,⟨p,q,k TO (by simp) _ a3⟩,a4.keep λo e=>k i1 (by simp) o e,a5.keep λo e=>k i2 (by simp) o e⟩
 item:=by
  intro X hP hw hK hc i ao s Z H E I hf ⟨a1,a2,⟨p,q,a3⟩,a4,a5⟩ hg;subst hP hw hK;obtain⟨xs,ys,x,y,En,Ep,hx,hy⟩:=hg;obtain⟨Yx,MN,c1⟩:=I.row En;obtain⟨I8,MP,c2⟩:=I.row Ep;obtain⟨u,hu,ru⟩:=MN.get hx;obtain⟨v,hv,rv⟩:=MP.get hy;have D':=D;obtain⟨⟨z1,z2,z3,z4,z5,z6⟩,⟨t1,t2,t3,t4,t5⟩,⟨j1,j2,j3,j4,j5,j6,j7⟩⟩:=D';refine zij (lJ.of k1 j4.symm) (lJ.of k2 j7.symm) D a1 a2 a3 ⟨a4,c1⟩ ⟨a5,c2⟩ (x:=u) (y:=v) (by simpa using hu) (by simpa using hv) λh1 b1 b2 b3 b4 b5 b6 kp=>?_;refine⟨_,rfl,wpAny_letOwnedTupleGo_zip (s:={s with heap:=h1}) b1 λh2 e2 sb=>?_⟩;have RW:IsPair h2 s.heap.objs.size u v:=(sb.2 _ (vU (bN a1))).trans b5;have kk:∀b o,b∉[z,TI,TO,i1,i2]->s.heap.get? b=some o->h2.get? b=some o:=λb o hb e=>(sb.2 b λy=>hb (by simp[y])).trans (kp b o (λy=>hb (by simp[y])) (λy=>hb (by simp[y])) (λy=>hb (by simp[y])) (λy=>hb (by simp[y])) e);have I2:=I.lH (t':=s.toks) (a:=s.heap.objs.size) (o:=.tup [x,y]) kk (λb hb=>hf b hb) (bO _) (show aU X.prog X.w _ h2 _ (.tup [x,y]) from ⟨by show 2<=sizeLine;decide,[u,v],.cons ru (.cons rv .nil),⟨_,RW,rfl,_,rfl⟩⟩);have hn:H s.heap.objs.size=none:=I.hok.fresh (bO _);refine⟨.ref s.heap.objs.size,_,I2,rfl,⟨_,x,y,hn,rfl,rfl,λzs hz=>by rw[I.mW hz En];exact hx,λzs hz=>by rw[I.mW hz Ep];exact hy⟩,⟨e2,(sb.2 _ z1.symm).trans (kp _ _ z1.symm t1.symm j1 j2 a2),⟨_,_,(sb.2 _ z2.symm).trans b2⟩,b3.1.keep λo e=>(sb.2 _ z3.symm).trans e,b4.1.keep λo e=>(sb.2 _ z4.symm).trans e⟩,λb hb=>?_⟩;have nb:b≠s.heap.objs.size:=by
   have:b=z\/b=TI\/b=TO\/b=i1\/b=i2:=by simpa using hb
   rcases this with rfl|rfl|rfl|rfl|rfl
   ·exact dw (bN a1)
   ·exact dw (bN a2)
   ·exact dw (bN a3)
   ·obtain⟨o,e,_⟩:=a4.obj;exact dw (bN e)
   ·obtain⟨o,e,_⟩:=a5.obj;exact dw (bN e)
  rw[cW nb];exact(hf b hb).1
 done:=by
  intro X hP hw hK hc i ao s Z H E I hf ⟨a1,a2,⟨p,q,a3⟩,a4,a5⟩ hg;subst hP hw hK;obtain⟨xs,ys,En,Ep,hx⟩:=hg;obtain⟨Yx,MN,c1⟩:=I.row En;obtain⟨I8,MP,c2⟩:=I.row Ep;have n1:=MN.length;have n2:=MP.length;refine zjs (I.ok.hd hc) (lJ.of k1 D.is.2.2.2.1.symm) (lJ.of k2 D.is.2.2.2.2.2.2.symm) D a1 a2 a3 ⟨a4,c1⟩ ⟨a5,c2⟩ ?_ λh' kp=>⟨rfl,I.qW (t':=s.toks) (ch:=[z,TI,TO,i1,i2]) (λb o hb e=>kp b o (λy=>hb (by simp[y])) (λy=>hb (by simp[y])) (λy=>hb (by simp[y])) (λy=>hb (by simp[y])) e) λb hb=>hf b hb⟩;rcases hx with y|y
  ·exact .inl (by simp;lia)
  ·exact .inr (by simp;lia)
 self:=λ_ _ _ _ _ ⟨a1,_⟩ h=>wpAny_pyIter_zip a1 h
section
variable {X:Cx}
noncomputable def RX(K:W.Frag)(ta:TA):TI:=λZ H R=>ta Z H λvs H1=>∃k1 k2 l1 l2 xs ys,vs=[.ref l1,.ref l2]/\Sk k1 K H1 l1 xs/\Sk k2 K H1 l2 ys/\R (RV K k1 k2 l1 l2) H1
theorem zhf:bootBuiltins "zip"=some (.type "zip"):=by decide +kernel
theorem zkU{a b:Expr}{ta:TA}{p pos tpos:Pos}{elts:List Expr}{kk:Nat}(hg:Gl X "zip")(hm:X.mg "zip"=none)(ha:PA X [a,b] ta)(hs:starEach [a,b] X.env=[(false,eval a X.env),(false,eval b X.env)]:=by rfl)(v7:starEach [b] X.env=[(false,eval b X.env)]:=by rfl) :
  PI X (.Tuple elts kk tpos) (.Call (.Name "zip" p) [a,b] [] pos) (RX X.K ta):=by
 intro ao s Z H R I h;refine Call_ (wO I hg hm zhf (Ab (bf (ha pos ao s Z H _ I h) λus s1 ⟨vs,H1,I1,r1,q1⟩=>?_) (by rw[hs,v7]) (by rw[v7];rfl)));obtain⟨k1,k2,l1,l2,xs,ys,e,En,Ep,q⟩:=q1;subst e;cases r1 with
 |cons r rr=>
  cases rr with
  |cons r' rr=>
   cases rr;cases r;cases r';obtain⟨Yx,MN,c1⟩:=I1.row En;obtain⟨I8,MP,c2⟩:=I1.row Ep;have m1:=c1.lt;have m2:=c2.lt;refine zkq c1 c2 λh' b1 b2 b3 b4 b5 kp=>?_;refine wpAny_pyIter_zip b1 ?_;have ne:∀{u v:Nat},u<v->u≠v:=λh=>dw h;have D:mV (s1.heap.objs.size+4) (s1.heap.objs.size+2) (s1.heap.objs.size+3) s1.heap.objs.size (s1.heap.objs.size+1) l1 l2:=
    ⟨⟨(ne (by lia)).symm,(ne (by lia)).symm,(ne (by lia)).symm,(ne (by lia)).symm,(ne (gJ m1 (by lia))).symm,(ne (gJ m2 (by lia))).symm⟩,
     ⟨(ne (by lia)).symm,(ne (by lia)).symm,(ne (by lia)).symm,(ne (gJ m1 (by lia))).symm,(ne (gJ m2 (by lia))).symm⟩,
     ⟨(ne (by lia)).symm,(ne (by lia)).symm,ne (by lia),(ne m1).symm,(ne m2).symm,(ne (gJ m1 (by lia))).symm,(ne (gJ m2 (by lia))).symm⟩⟩
   refine⟨s1.heap.objs.size+4,[s1.heap.objs.size+4,s1.heap.objs.size+2,s1.heap.objs.size+3,s1.heap.objs.size,s1.heap.objs.size+1],_,_,H1,rfl,I1.kept (t':=s1.toks) kp,zhP D,⟨b1,b2,⟨_,_,b3⟩,b4,b5⟩,λb hb=>?_,q⟩;have:s1.heap.objs.size<=b:=by
    have:b=s1.heap.objs.size+4\/b=s1.heap.objs.size+2\/b=s1.heap.objs.size+3\/b=s1.heap.objs.size\/b=s1.heap.objs.size+1:=by simpa using hb
    rcases this with rfl|rfl|rfl|rfl|rfl<;>lia
   exact I1.uh this (I1.hok.fresh this)
end
noncomputable def Ite(K:W.Frag)(kd:Bool)(l:Addr):It:=
 ⟨λi H=>∃xs x,Sk kd K H l xs/\xs[i]?=some x,λi H v H'=>∃a x,H a=none/\v=.ref a/\H'=upd H a (.tup [.int i,x])/\∀xs,Sk kd K H l xs->xs[i]?=some x,λi H=>∃xs,Sk kd K H l xs/\xs.length<=i⟩
theorem BX{prog:Program}{w:World}{A:Around}(hh:A.handled=none)(kd:Bool){it l:Addr}(oG:l≠it)(its:Array Value):Draws prog w A it [it,l] its.size (λi v=>its[i]?=some v) (λi h=>Rk kd it l i h/\Ck kd h l its) where
 live:=λ_ _ st=>let ⟨o,e,_⟩:=st.1.obj;⟨o,e⟩
 frame:=λ_ _ _ st k=>⟨st.1.keep λo e=>k it (by simp) o e,st.2.keep λo e=>k l (by simp) o e⟩
 item:=λi s Q E hi st q=>(lJ.of kd oG).item A E s i its[i] Q st (by simp[hi]) λh' a b=>q _ h' s.toks (by simp[hi]) a b
 done:=λs Q E st q=>(lJ.of kd oG).fin A E s its.size Q hh st (by simp) q
theorem zhs(kd:Bool)(l:Addr)(xs:Array Value):Meets (Builtin.«enumerate.__new__» ⟨[.type "enumerate",.ref l],[]⟩) (λ_ R s=>Ck kd s.heap l xs /\
   R (.ok (.ret (.ref (s.heap.push (f9 kd l)).objs.size))) {s with heap:=(s.heap.push (f9 kd l)).push {cls:=.type "enumerate",data:=.fields #[.none,.bool false,.ref s.heap.objs.size,rawInt 0,.none,.none]}}):=
 .of_wp λprog w A R s h=>by
  obtain⟨hp,g,d,tk,os⟩:=s;obtain⟨c1,h⟩:=h;have hsub:=sub_enumerate;have C1:Ck kd (Shared.heap ⟨hp,g,d,tk,os⟩) l xs:=c1;obtain⟨ol,el⟩ : ∃o,hp.get? l=some o:=by
   cases kd
   ·obtain⟨o,e,_⟩:=c1;exact⟨o,e⟩
   ·obtain⟨o,e,_⟩:=c1;exact⟨o,e⟩
  wp_walk using KQ el
  refine wpAny_stack_any λst=>aR ?_
  split
  ·rename_i c _ _ _ _ _;cases (c==Value.type "enumerate")<;>(wp_walk using KQ el,MJ C1;exact⟨_,rfl,h⟩)
  ·wp_walk using KQ el,MJ C1
   exact⟨_,rfl,h⟩
theorem zhc{prog:Program}{w:World}{A:Around}{E:Value->Shared->Prop}{s:Shared}{e it l:Addr}{its:Array Value}{st:Nat->Heap->Prop}{i:Nat}{old:Value}{Q:Option Value->Shared->Prop}(hh:A.handled=none)(N:lJ prog w it l st its)(he:IsEnum s.heap e it i old)(pB:st i s.heap)(hx:its[i]?=none)
  (q:∀h',Heap.ExtBut it s.heap h'->Q none {s with heap:=h'}):wpAny (model prog w) A (pyNext (.ref e)) Q E s:=by
 have ty:s.TypeIs (.ref e) "enumerate":=⟨_,he,rfl⟩;have body:∀{E':Value->Shared->Prop},(∀h' x,Heap.ExtBut it s.heap h'->(∃o,h'.get? x=some o/\o.cls=.type "StopIteration")->E' (.ref x) {s with heap:=h'})->wpAny (model prog w) A.in1 (Builtin.«enumerate.__next__» ⟨[.ref e],[]⟩) (λ_ _=>False) E' s:=λk=>by
  show wpAny _ A.in1 (field (.ref e) 2 >>= _) _ _ _;exact aB (lC he rfl (x:=.ref it) rfl (aB (N.fin A.in1 _ s i _ hh pB hx k)))
 unfold pyNext;refine aB (Gn (Ac (name:=Str.ofString "__next__") ty F.slot_enumerate_next (yJ F.slot_enumerate_next ty F.entry_enumerate_next (gZ (body λh' x a b=>?_) (λ_ _ z=>z.elim) λ_ _ z=>z) (F.args_enumerate_next_1 _))));obtain⟨o,a1,a2⟩:=b;exact aB (Lf (T:="StopIteration") (b:=true) ⟨o,a1,a2⟩ isSubtype_stop (aR (q h' a)))
theorem zgl{P:Program}{w:World}{K:W.Frag}{elts:List Expr}{kk:Nat}{pos:Pos}{kd:Bool}{l e it:Addr}(RZ:e≠it)(Yy:l≠it)(hle:l≠e) :
  Turn P w K (.Tuple elts kk pos) (Ite K kd l) [e,it] e (λi h=>(∃old,IsEnum h e it i old)/\Rk kd it l i h) where
 mem:=by simp
 obj:=λi h ⟨⟨old,he⟩,st⟩ b hb=>by
  have:b=e\/b=it:=by simpa using hb
  rcases this with rfl|rfl
  ·exact⟨_,he,λv z=>by cases z⟩
  ·exact st.obj
 keep:=λi h h' ⟨⟨old,he⟩,st⟩ k=>⟨⟨old,k e (by simp) _ he⟩,st.keep λo e=>k it (by simp) o e⟩
 item:=by
  intro X hP hw hK hc i ao s Z H E I hf ⟨⟨old,he⟩,st⟩ hg;subst hP hw hK;obtain⟨xs,x,hq,hx⟩:=hg;obtain⟨its,rv,p⟩:=I.row hq;obtain⟨u,hu,ru⟩:=rv.get hx;have dU:i<its.toArray.size:=by simpa using (dN.mp hu).1
  refine wpAny_pyNext_enum_itemD (BX (A:=X.A.in1) (I.ok.hd hc) kd Yy its.toArray) he ⟨st,p⟩ dU RZ (by simp[RZ,hle.symm]) λu' h1 tk hP ho R0 hT hsz hk=>?_;have eu:u'=u:=by
   have:its[i]?=some u':=by simpa using hP
   rw[hu] at this;cases this;rfl
  subst eu;refine⟨_,rfl,wpAny_letOwnedTupleGo_enum (s:={s with heap:=h1,toks:=tk+1}) ho λh2 he2 sb=>?_⟩;have RW:h2.get? s.heap.objs.size=some {cls:=.type "tuple",data:=.seq #[.int i tk,u']}:=(sb.2 _ (vU (bN he))).trans hT;have kk:∀b o,b∉[e,it]->s.heap.get? b=some o->h2.get? b=some o:=λb o hb q=>(sb.2 b λz=>hb (by simp[z])).trans (hk b o (λz=>hb (by simp[z])) (λz=>hb (by simp[z])) q);have I2:=I.lH (t':=tk+1) (a:=s.heap.objs.size) (o:=.tup [.int i,x]) kk (λb hb=>hf b hb) (bO _) (show aU X.prog X.w _ h2 _ (.tup [.int i,x]) from ⟨by show 2<=sizeLine;decide,[.int i tk,u'],.cons ⟨_,rfl⟩ (.cons ru .nil),⟨_,RW,rfl,_,rfl⟩⟩);have hn:H s.heap.objs.size=none:=I.hok.fresh (bO _);refine⟨.ref s.heap.objs.size,_,I2,rfl,⟨_,x,hn,rfl,rfl,λys hy=>by rw[I.mW hy hq];exact hx⟩,⟨⟨_,by simpa using he2⟩,R0.1.keep λo q=>(sb.2 it RZ.symm).trans q⟩,λb hb=>?_⟩;have nb:b≠s.heap.objs.size:=by
   have:b=e\/b=it:=by simpa using hb
   rcases this with rfl|rfl
   ·exact dw (bN he)
   ·obtain⟨o,q,_⟩:=st.obj;exact dw (bN q)
  rw[cW nb];exact(hf b hb).1
 done:=by
  intro X hP hw hK hc i ao s Z H E I hf ⟨⟨old,he⟩,st⟩ hg;subst hP hw hK;obtain⟨xs,hq,hx⟩:=hg;obtain⟨its,rv,p⟩:=I.row hq;have hl:=rv.length;exact zhc (I.ok.hd hc) (lJ.of kd Yy) he ⟨st,p⟩ (by simp;lia) λh' eb=>⟨rfl,I.qW (t':=s.toks) (ch:=[e,it]) (λb o hb q=>eb b o (λz=>hb (by simp[z])) q) λb hb=>hf b hb⟩
 self:=λ_ _ _ _ _ ⟨⟨old,he⟩,_⟩ h=>wpAny_pyIter_enum he h
section
variable {X:Cx}
noncomputable def I9(K:W.Frag)(ta:TA):TI:=λZ H R=>ta Z H λvs H1=>∃kd l xs,vs=[.ref l]/\Sk kd K H1 l xs/\R (Ite K kd l) H1
theorem zfC:bootBuiltins "enumerate"=some (.type "enumerate"):=by decide +kernel
theorem zkJ{a:Expr}{ta:TA}{p pos tpos:Pos}{elts:List Expr}{kk:Nat}(hg:Gl X "enumerate")(hm:X.mg "enumerate"=none)(ha:PA X [a] ta)(hs:starEach [a] X.env=[(false,eval a X.env)]:=by rfl):PI X (.Tuple elts kk tpos) (.Call (.Name "enumerate" p) [a] [] pos) (I9 X.K ta):=by
 intro ao s Z H R I h;refine Call_ (wO I hg hm zfC (Ab (bf (ha pos ao s Z H _ I h) λus s1 ⟨vs,H1,I1,r1,q1⟩=>?_) hs rfl));obtain⟨kd,l,xs,e,hq,q⟩:=q1;subst e;cases r1 with
 |cons r rr=>
  cases rr;cases r;obtain⟨its,rv,p⟩:=I1.row hq;have hl:l<s1.heap.objs.size:=p.lt;refine callType_new F.called_enumerate (by decide) (F.typeCall_enumerate_1 _) (F.newCall_enumerate_1 _) (λobj=>F.args_object_init_2 obj _) F.entry_enumerate_new (zhs kd l its.toArray) ⟨p,?_⟩;have n1:(s1.heap.push (f9 kd l)).objs.size=s1.heap.objs.size+1:=sX ..;have he:IsEnum ((s1.heap.push (f9 kd l)).push {cls:=.type "enumerate",data:=.fields #[.none,.bool false,.ref s1.heap.objs.size,rawInt 0,.none,.none]}) (s1.heap.objs.size+1) s1.heap.objs.size 0 .none:=by
   have:=fO (s1.heap.push (f9 kd l)) (o:={cls:=.type "enumerate",data:=.fields #[.none,.bool false,.ref s1.heap.objs.size,rawInt 0,.none,.none]}) rfl;rw[n1] at this;exact this
  show _/\_;rw[n1];refine⟨⟨_,he,rfl⟩,wpAny_pyIter_enum (s:={s1 with heap:=(s1.heap.push (f9 kd l)).push {cls:=.type "enumerate",data:=.fields #[.none,.bool false,.ref s1.heap.objs.size,rawInt 0,.none,.none]}}) he ?_⟩;have rk:Rk kd s1.heap.objs.size l 0 ((s1.heap.push (f9 kd l)).push {cls:=.type "enumerate",data:=.fields #[.none,.bool false,.ref s1.heap.objs.size,rawInt 0,.none,.none]}):=by
   cases kd
   ·exact⟨_,bY _ (fO _ rfl),rfl,rfl⟩
   ·exact⟨_,bY _ (fO _ rfl),rfl,rfl⟩
  refine⟨s1.heap.objs.size+1,[s1.heap.objs.size+1,s1.heap.objs.size],_,_,H1,rfl,I1.kept (t':=s1.toks) λb o x=>bY _ (bY _ x),zgl (kd:=kd) (l:=l) (Nat.succ_ne_self _) (dw hl) (dw (sW hl)),⟨⟨_,he⟩,rk⟩,λb hb=>?_,q⟩;have:s1.heap.objs.size<=b:=by
   have:b=s1.heap.objs.size+1\/b=s1.heap.objs.size:=by simpa using hb
   rcases this with rfl|rfl
   ·exact DN _
   ·exact bO _
  exact I1.uh this (I1.hok.fresh this)
end
end L2
set_option genSizeOf false
set_option genInjectivity false
namespace Mi
open PySem
inductive D where
 |non|bl (b:Bool)|int (i:Int)|str (s:Str)|tup (xs:List D)|fl (xs:List D)|fd (ks vs:List D)|exc (c:Nat) (fs:List D)|ob (c:Nat) (fs:List D)|any
inductive Xv where
 |d (x:D)|l (n:Nat)
inductive Kx where
 |non|int (i:Int)|row (is:List Int)
deriving DecidableEq
inductive SO where
 |lst (xs:List D)
 |dct (kvs:List (List Kx×D))
noncomputable abbrev S:=List SO
inductive Rs (α:Type) where
 |ok (a:α)|er (c:Nat) (fs:List D)
noncomputable abbrev M(α:Type):=S->Option (Rs α×S)
noncomputable def M.ret{α:Type}(a:α):M α:=λs=>some (.ok a,s)
noncomputable def M.bd{α β:Type}(m:M α)(k:α->M β):M β:=λs=>match m s with
 |some (.ok a,s')=>k a s'
 |some (.er c f,s')=>some (.er c f,s')
 |none=>none
noncomputable def M.qt{α:Type}(m:M α):M α:=λs=>match m s with
 |some (.ok a,s')=>some (.ok a,s')
 |_=>none
noncomputable def M.no{α:Type}:M α:=λ_=>none
noncomputable def M.opt{α:Type}:Option α->M α
 |some a=>M.ret a
 |none=>M.no
inductive Rz where
 |dat (d:D)|nw (xs:List D)
inductive Pr where
 |add|aq|mul|fdiv|mod|pow|neg
 |eq|ne|lt|le|gt|ge|inn|nin
 |qX|uJ
 |len|abs|max2|min2|I_|Ja|rM|Er|xH|divmod|all|sum|list|tuple|sorted|qY|BZ|str1
 |ix|rev|Yz|Jc|mult|yX
 |count|index|repr
inductive Kd where
 |int|bool|str|tuple|list|dict|cls (c:Nat)|pX
mutual
inductive E where
 |c (d:D)
 |v (i:Nat)
 |pr (fz:Bool) (p:Pr) (xs:Es)
 |wg (p q:Pr) (a b c:E)
 |ch3 (p q r:Pr) (a b c d:E)
 |and (a b:E)
 |or (a b:E)
 |not (a:E)
 |ite (c a b:E)
 |tup (xs:Es)
 |lst (fz:Bool) (xs:Es)
 |uK (k:Str) (i:Int)
 |call (f:Nat) (xs:Es)
 |g8 (a:E) (k:Kd)
 |sl (fz:Bool) (a:E) (lo hi:Eo)
 |meth (fz:Bool) (p:Pr) (k:Kd) (o:E) (xs:Es)
 |push (o a:E)
 |pop (o:E)
 |comp (fz:Bool) (elt:E) (tg:List Nat) (it:Wk) (fr:List Nat) (many:Nat) (cond:Eo)
 |Jd (fz:Bool) (elt:E) (tg:List Nat) (it:Wk) (YB:List Nat) (I8:Wk) (fr:List Nat) (many:Nat) (cond:Eo)
 |fld (o:E) (cs:List Nat) (i:Nat)
 |of (o:E) (c i:Nat)
 |mk (c f:Nat) (xs:Es)
 |cm (c f:Nat) (o:E) (xs:Es)
 |rN
 |B_ (b:Bool) (k d:E)
 |pY (d k:E)
 |Et (a:E)
 |Je (fz:Bool) (a:E) (b:E)
 |orv (a b:E)
 |ins (o i a:E)
 |no
inductive Wk where
 |seq (e:E)
 |rg (a b:E)
 |zip (a b:E)
 |enum (a:E)
 |rrg (a:E)
inductive Es where
 |nil
 |cons (a:E) (r:Es)
inductive Eo where
 |no
 |yes (a:E)
end
noncomputable abbrev Ea(a:E):Es:=.cons a .nil
noncomputable abbrev Eb(a b:E):Es:=.cons a (.cons b .nil)
noncomputable abbrev Ec(a b c:E):Es:=.cons a (.cons b (.cons c .nil))
noncomputable abbrev Ei(a b:E):E:=.pr true .ix (.cons a (.cons b .nil))
noncomputable abbrev Ci(i:Int):E:=.c (.int i)
noncomputable def Es.len:Es->Nat
 |.nil=>0
 |.cons _ r=>r.len+1
inductive Tg where
 |nm (i:Nat)
 |tp (is:List Nat)
 |aq (o i:E)
mutual
inductive St where
 |pass
 |ex (e:E)
 |asg (t:Tg) (e:E)
 |par (i j:Nat) (a b:E)
 |aug (i:Nat) (e:E)
 |ret (e:E)
 |rise (c:Nat) (kp:Bool) (xs:Es)
 |iff (c:E) (t e:bV)
 |wh (c:E) (b:bV)
 |fr (t:Tg) (w:Wk) (b:bV)
 |rO (b:bV) (d:Nat) (i:Nat) (h:bV)
 |dput (d k v:E)
 |no
inductive bV where
 |nil
 |cons (a:St) (r:bV)
end
noncomputable def dX(eq:D->D->Option Bool):List D->List D->Option Bool
 |[],[]=>some true
 |[],_::_=>some false
 |_::_,[]=>some false
 |x::xs,y::ys=>match eq x y,dX eq xs ys with
  |some a,some b=>some (a&&b)
  |_,_=>none
noncomputable def kq:D->Option Nat
 |.non=>some 0
 |.bl _=>some 1
 |.int _=>some 1
 |.str _=>some 2
 |.tup _=>some 3
 |.fl _=>some 4
 |_=>none
noncomputable def cY:Nat->D->D->Option Bool
 |n+1,.tup xs,.tup ys=>dX (cY n) xs ys
 |n+1,.fl xs,.fl ys=>dX (cY n) xs ys
 |_,.non,.non=>some true
 |_,.bl a,.bl b=>some (a==b)
 |_,.int a,.int b=>some (a==b)
 |_,.str a,.str b=>some (a==b)
 |_,.bl a,.int b=>some ((if a then 1 else 0)==b)
 |_,.int a,.bl b=>some (a==(if b then 1 else 0))
 |_,a,b=>match kq a,kq b with
  |some i,some j=>if i=j then none else some false
  |_,_=>none
noncomputable def cC:List D->Option (List Int)
 |[]=>some []
 |.int i::r=>(cC r).map (i::·)
 |_=>none
noncomputable def ltI:List Int->List Int->Bool
 |_,[]=>false
 |[],_::_=>true
 |x::xs,y::ys=>if x=y then ltI xs ys else decide (x<y)
noncomputable def eG:List D->Option (List Bool)
 |[]=>some []
 |.bl b::r=>(eG r).map (b::·)
 |_=>none
noncomputable def cut{α:Type}(xs:List α)(lo hi:Option Int):List α:=(xs.drop (HT.bT xs.length 0 lo)).take (HT.bT xs.length xs.length hi-HT.bT xs.length 0 lo)
noncomputable def mX:D->Option (List D)
 |.tup xs=>some xs
 |.fl xs=>some xs
 |_=>none
noncomputable def cutD(x:D)(lo hi:Option Int):Option Rz:=match x with
 |.tup xs=>some (.dat (.tup (cut xs lo hi)))
 |.fl xs=>some (.nw (cut xs lo hi))
 |_=>none
noncomputable def memD(d:D):List D->Option Bool
 |[]=>some false
 |x::r=>match cY 50 x d,memD d r with
  |some a,some b=>some (a||b)
  |_,_=>none
noncomputable def pZ:Kd->D->Bool
 |.list,.fl _=>true
 |.str,.str _=>true
 |.dict,.fd _ _=>true
 |_,_=>false
noncomputable def dz(f:Int->Int->Option D):List D->Option Rz
 |[.int i,.int j]=>(f i j).map .dat
 |_=>none
noncomputable def qZ(f:Int->D):List D->Option Rz
 |[.int i]=>some (.dat (f i))
 |_=>none
noncomputable def rP(f:List D->Option Rz):List D->Option Rz
 |[a]=>(mX a).bind f
 |_=>none
noncomputable def Cd:List D->Option Rz
 |[.int i,.int j]=>some (.dat (.int (i+j)))
 |[.tup xs,.tup ys]=>if xs.length+ys.length<=sizeLine then some (.dat (.tup (xs++ys))) else none
 |[.fl xs,.fl ys]=>if xs.length+ys.length<=sizeLine then some (.nw (xs++ys)) else none
 |[.str x,.str y]=>if x.length+y.length<=sizeLine then some (.dat (.str (x++y))) else none
 |_=>none
noncomputable def Jf:List D->Option Rz
 |[.int i,.int j]=>some (.dat (.bl (decide (i<j))))
 |[.tup xs,.tup ys]=>match cC xs,cC ys with
  |some a,some b=>some (.dat (.bl (ltI a b)))
  |_,_=>none
 |_=>none
noncomputable def yZ(f:Bool->Bool):List D->Option Rz
 |[a,b]=>(cY 50 a b).map λk=>.dat (.bl (f k))
 |_=>none
noncomputable def Ce(f:Bool->Bool):List D->Option Rz
 |[a,b]=>((mX b).bind (memD a)).map λk=>.dat (.bl (f k))
 |_=>none
noncomputable def D.iB:D->Bool
 |.non=>true
 |_=>false
noncomputable def Cg(f:Bool->Bool):List D->Option Rz
 |[a]=>some (.dat (.bl (f a.iB)))
 |_=>none
noncomputable def Jg:List D->Option Rz
 |[.int i]=>some (.dat (.int i))
 |[.bl k]=>some (.dat (.int (if k then 1 else 0)))
 |_=>none
noncomputable def Cj:List D->Option Rz
 |[.fl xs]=>(eG xs).map λbs=>.dat (.bl (bs.all id))
 |_=>none
noncomputable def mY:List D->Option (List Int)
 |[]=>some []
 |.int i::r=>(mY r).map (i::·)
 |_=>none
noncomputable def best(bt:Int->Int->Bool)(i:Int)(is:List Int):Int:=is.foldl (λm j=>if bt j m then j else m) i
noncomputable def Jh(bt:Int->Int->Bool):Option (List Int)->Option Rz
 |some (i::is)=>some (.dat (.int (best bt i is)))
 |_=>none
noncomputable def zc(bt:Int->Int->Bool):List D->Option Rz
 |[a]=>(mX a).bind λxs=>Jh bt (mY xs)
 |_=>none
noncomputable def okR(i j:Int):Bool:=decide (-(2^62)<=i/\i<2^62/\-(2^62)<=j/\j<2^62/\(j-i).toNat<=65536)
noncomputable def Ji(i:Int)(n:Nat):List D:=(List.range n).map λk=>.int (i+(k:Nat))
noncomputable def R3:List D->Option Rz
 |[.int j]=>if okR 0 j then some (.nw (Ji 0 (j-0).toNat)) else none
 |[.int i,.int j]=>if okR i j then some (.nw (Ji i (j-i).toNat)) else none
 |_=>none
noncomputable def Cm:List D->Option Rz
 |[.int j]=>if okR 0 j then some (.dat (.tup (Ji 0 (j-0).toNat))) else none
 |_=>none
noncomputable def p8:List D->Option Rz
 |[a]=>(mX a).map λxs=>.dat (.tup xs)
 |_=>none
noncomputable def R4:List D->Option Rz
 |[a,.int i]=>((mX a).bind λxs=>L2.n_ xs i).map .dat
 |_=>none
noncomputable def rQ:List D->List D->Option Bool
 |[],ys=>some (decide (0<ys.length))
 |_::_,[]=>some false
 |.int x::xs,.int y::ys=>if x=y then rQ xs ys else some (decide (x<y))
 |_::_,_::_=>none
noncomputable def zj(xs:List D)(i j:Nat):Option Bool:=match xs[i]?,xs[j]? with
 |some (.int x),some (.int y)=>some (decide (x<y))
 |some (.tup us),some (.tup ws)=>rQ us ws
 |_,_=>none
noncomputable def fQ(b:List Int):List (List Int)->List Int
 |[]=>b
 |x::r=>fQ (if ltI x b=true then x else b) r
noncomputable def j8:List D->Option (List (List Int))
 |[]=>some []
 |.tup xs::r=>match cC xs,j8 r with
  |some a,some b=>some (a::b)
  |_,_=>none
 |_=>none
noncomputable def oH:List D->Option Rz
 |[.fl xs]=>match j8 xs with
  |some (x::r)=>some (.dat (.tup ((fQ x r).map .int)))
  |_=>none
 |_=>none
noncomputable def j9:D->Bool
 |.int _=>true
 |_=>false
noncomputable def je:D->Bool
 |.tup (.int _::_)=>true
 |_=>false
noncomputable def q_(lt:Nat->Nat->Option Bool)(xs:List D):Option (List D):=if xs.length<2 then some xs else if xs.length<64 then (match L2.bU lt (PySem.W.kas_sort xs.length) with
  |some p=>if p.size=xs.length then some (p.toList.map λi=>xs.getD i .non) else none
  |none=>none) else none
noncomputable def zm(xs:List D):Option (List D):=if xs.all j9||xs.all je then q_ (zj xs) xs else none
noncomputable def mZ:List D->Option Rz
 |[.fl xs]=>(zm xs).map .nw
 |_=>none
noncomputable def ltK(ks:List Int)(i j:Nat):Option Bool:=match ks[i]?,ks[j]? with
 |some x,some y=>some (decide (x<y))
 |_,_=>none
noncomputable def R5:List D->Option Rz
 |[.tup xs]=>some (.dat (.tup xs.reverse))
 |_=>none
noncomputable def qb:List D->Option Rz
 |[.fl xs,.bl b]=>(eG xs).map λbs=>.dat (.int (bs.count b))
 |_=>none
noncomputable def qd:List D->Option Rz
 |[.fl xs,.bl b]=>((eG xs).bind λbs=>bs.idxOf? b).map λ(i:Nat)=>.dat (.int i)
 |_=>none
noncomputable def R6:List D->Option Rz
 |[.int i]=>if i.natAbs<2^62 then some (.dat (.str (Str.ofString (toString i)))) else none
 |_=>none
noncomputable def R7(f:D->Option PyData):List D->Option (List PyData)
 |[]=>some []
 |x::r=>match f x,R7 f r with
  |some a,some b=>some (a::b)
  |_,_=>none
noncomputable def pd:Nat->D->Option PyData
 |n+1,.tup xs=>(R7 (pd n) xs).map .tuple
 |n+1,.fl xs=>(R7 (pd n) xs).map .list
 |_,.non=>some .none
 |_,.bl b=>some (.bool b)
 |_,.int i=>some (.int i)
 |_,.str x=>some (.str x)
 |_,_=>none
noncomputable def pdT:D->Option PyData
 |.fd [.str k] [.int i]=>some (.dict [(.str k,.int i)])
 |x=>pd 40 x
noncomputable def shw(d:PyData):Option Rz:=if d.showable=true/\d.shown.length<=sizeLine then some (.dat (.str d.shown)) else none
noncomputable def Jj:List D->Option Rz
 |[x]=>(pdT x).bind shw
 |_=>none
noncomputable def zp:List (Int×Int):=[(0,1),(0,2),(0,3),(0,4),(0,5),(0,6),(0,7),(1,2),(1,3),(1,4),(1,5),(1,6),(1,7),(2,3),(2,4),(2,5),(2,6),(2,7),(3,4),(3,5),(3,6),(3,7),(4,5),(4,6),(4,7),(5,6),(5,7),(6,7)]
noncomputable def ss(ts:List (Int×Int)):List (Int×Int):=zp.filter λt=>ts.contains t
noncomputable def R8:D->Option (Int×Int)
 |.tup [.int a,.int b]=>if 0<=a/\a<b/\b<8 then some (a,b) else none
 |_=>none
noncomputable def zu:List D->Option (List (Int×Int))
 |[]=>some []
 |x::r=>match R8 x,zu r with
  |some a,some b=>some (a::b)
  |_,_=>none
noncomputable def pSs:List D->Option Rz
 |[.tup xs]=>(zu xs).map λts=>.nw ((ss ts).map λp=>.tup [.int p.1,.int p.2])
 |_=>none
noncomputable def Jk(is:List Int):Bool:=decide (is.length<=1000)&&is.all λi=>decide (-1000000<=i/\i<=1000000)
noncomputable def R9(is:List Int):Option Rz:=match Jk is with
 |true=>some (.dat (.int is.sum))
 |false=>none
noncomputable def R_:List D->Option Rz
 |[a]=>(mX a).bind λxs=>(mY xs).bind R9
 |_=>none
noncomputable def m5:List Int->List Int
 |[]=>[]
 |x::r=>if r.contains x then m5 r else x::m5 r
noncomputable def Jl:List D->Option Rz
 |[.tup xs]=>(mY xs).map λis=>.dat (.int (m5 is).length)
 |_=>none
noncomputable def rep{α:Type}(xs:List α)(n:Nat):List α:=(List.replicate n xs).flatten
noncomputable def Jm:List D->Option Rz
 |[.fl xs,.int n]=>if 0<=n/\n<=1000/\xs.length<=1000 then some (.nw (rep xs n.toNat)) else none
 |_=>none
noncomputable def Cp:List D->Option Rz
 |[.tup xs]=>if xs.all j9=true then (zm xs).map .nw else none
 |_=>none
noncomputable def zx:List D->Option Rz
 |[.tup xs,.int n]=>if 1<=n/\n<=1000/\1<=xs.length/\xs.length<=1000 then some (.dat (.tup (rep xs n.toNat))) else none
 |_=>none
noncomputable def xJ:D->Option Bool
 |.non=>some false
 |.bl b=>some b
 |.int i=>some (i != 0)
 |.tup xs=>some (!xs.isEmpty)
 |.fl xs=>some (!xs.isEmpty)
 |_=>none
noncomputable def prim:Pr->List D->Option Rz
 |.add=>Cd
 |.aq=>dz λi j=>some (.int (i-j))
 |.mul=>dz λi j=>if (-(2^64)<i/\i<2^64)\/(-(2^64)<j/\j<2^64) then some (.int (i*j)) else none
 |.fdiv=>dz λi j=>if 0<j/\j<1073741824 then some (.int (i/j)) else none
 |.mod=>dz λi j=>if 0<j then some (.int (i%j)) else none
 |.pow=>dz λi j=>if 0<=j/\j<=1000000/\i.natAbs<2^64 then some (.int (i^j.toNat)) else none
 |.neg=>qZ λi=>.int (-i)
 |.eq=>yZ id
 |.ne=>yZ not
 |.lt=>Jf
 |.le=>dz λi j=>some (.bl (decide (i<=j)))
 |.gt=>dz λi j=>some (.bl (decide (j<i)))
 |.ge=>dz λi j=>some (.bl (decide (j<=i)))
 |.inn=>Ce id
 |.nin=>Ce not
 |.qX=>Cg id
 |.uJ=>Cg not
 |.len=>rP λxs=>some (.dat (.int xs.length))
 |.abs=>qZ λi=>.int (if i<0 then -i else i)
 |.max2=>dz λi j=>some (.int (if j>i then j else i))
 |.min2=>dz λi j=>some (.int (if j<i then j else i))
 |.xH=>Jg
 |.divmod=>dz λi j=>if 0<j/\j<1073741824 then some (.tup [.int (i/j),.int (i%j)]) else none
 |.all=>Cj
 |.Yz=>R3
 |.I_=>zc λa b=>decide (a>b)
 |.Ja=>zc λa b=>decide (a<b)
 |.rM=>oH
 |.Er=>Cm
 |.list=>rP λxs=>some (.nw xs)
 |.tuple=>p8
 |.ix=>R4
 |.rev=>R5
 |.sorted=>mZ
 |.qY=>pSs
 |.Jc=>Jm
 |.mult=>zx
 |.yX=>Cp
 |.sum=>R_
 |.BZ=>Jl
 |.count=>qb
 |.index=>qd
 |.repr=>Jj
 |.str1=>R6
noncomputable def lK(aq:Nat->Nat->Bool):D->Kd->Option Bool
 |.exc c _,.cls e=>some (aq c e)
 |.exc _ _,.pX=>some true
 |.exc _ _,_=>none
 |.ob _ _,_=>none
 |.any,_=>none
 |_,.cls _=>none
 |_,.pX=>none
 |.bl _,.bool=>some true
 |.bl _,.int=>some true
 |.bl _,_=>some false
 |.int _,.int=>some true
 |.int _,_=>some false
 |.non,_=>some false
 |.str _,.str=>some true
 |.str _,_=>some false
 |.tup _,.tuple=>some true
 |.tup _,_=>some false
 |.fl _,.list=>some true
 |.fl _,_=>some false
 |.fd _ _,.dict=>some true
 |.fd _ _,_=>some false
noncomputable def rd(x:Xv):M D:=λs=>match x with
 |.d v=>some (.ok v,s)
 |.l n=>match s[n]? with
  |some (.lst xs)=>some (.ok (.fl xs),s)
  |_=>none
noncomputable def gO:List Xv->M (List D)
 |[]=>M.ret []
 |x::r=>M.bd (rd x) λd=>M.bd (gO r) λds=>M.ret (d::ds)
noncomputable def dat(x:Xv):M D:=match x with
 |.d v=>M.ret v
 |.l _=>M.no
noncomputable def bM:List Xv->M (List D)
 |[]=>M.ret []
 |x::r=>M.bd (dat x) λd=>M.bd (bM r) λds=>M.ret (d::ds)
noncomputable def bool(x:Xv):M Bool:=match x with
 |.d (.bl b)=>M.ret b
 |_=>M.no
noncomputable def int(x:Xv):M Int:=match x with
 |.d (.int b)=>M.ret b
 |_=>M.no
noncomputable def newL(fz:Bool)(xs:List D):M Xv:=match fz with
 |true=>M.ret (.d (.fl xs))
 |false=>λs=>some (.ok (.l s.length),s++[.lst xs])
noncomputable def cG(fz:Bool)(o:Option Rz):M Xv:=match o with
 |some (.dat d)=>M.ret (.d d)
 |some (.nw xs)=>newL fz xs
 |none=>M.no
noncomputable def cQ(x:Xv):M (Nat×List D):=λs=>match x with
 |.l n=>match s[n]? with
  |some (.lst xs)=>some (.ok (n,xs),s)
  |_=>none
 |_=>none
noncomputable def putL(n:Nat)(xs:List D):M Unit:=λs=>some (.ok (),s.set n (.lst xs))
noncomputable def uL:D->Option Kx
 |.non=>some .non
 |.int i=>some (.int i)
 |.tup xs=>(cC xs).map .row
 |_=>none
noncomputable def Cq:List D->Option (List Kx)
 |[]=>some []
 |x::r=>match uL x,Cq r with
  |some a,some b=>some (a::b)
  |_,_=>none
noncomputable def kOf:D->Option (List Kx)
 |.tup xs=>Cq xs
 |_=>none
noncomputable abbrev jz:=List (List Kx×D)
noncomputable def bW(k:List Kx):jz->Option D
 |[]=>none
 |p::r=>if p.1=k then some p.2 else bW k r
noncomputable def jA(k:List Kx)(d:D)(r:jz):jz:=if (bW k r).isSome=true then r.map λp=>if p.1=k then (p.1,d) else p else r++[(k,d)]
noncomputable def fU(x:Xv):M (Nat×jz):=λs=>match x with
 |.l n=>match s[n]? with
  |some (.dct kvs)=>some (.ok (n,kvs),s)
  |_=>none
 |_=>none
noncomputable def putD(n:Nat)(kvs:jz):M Unit:=λs=>some (.ok (),s.set n (.dct kvs))
noncomputable def key(x:Xv):M (List Kx):=match x with
 |.d v=>M.opt (kOf v)
 |.l _=>M.no
noncomputable def enumFrom:Nat->List D->List D
 |_,[]=>[]
 |i,x::r=>.tup [.int i,x]::enumFrom (i+1) r
inductive Src where
 |fix (xs:List D)|live (n:Nat)|lM (n:Nat)
noncomputable def Src.at(c:Src)(i:Nat)(s:S):Option (Option D):=match c with
 |.fix xs=>some xs[i]?
 |.live n=>match s[n]? with
  |some (.lst xs)=>some xs[i]?
  |_=>none
 |.lM n=>match s[n]? with
  |some (.lst xs)=>some (xs[i]?.map λx=>.tup [.int i,x])
  |_=>none
noncomputable def oJ(x:Xv):M (Src×Nat):=λs=>match x with
 |.d (.tup xs)=>some (.ok (.fix (enumFrom 0 xs),(enumFrom 0 xs).length),s)
 |.d (.fl xs)=>some (.ok (.fix (enumFrom 0 xs),(enumFrom 0 xs).length),s)
 |.l n=>match s[n]? with
  |some (.lst xs)=>some (.ok (.lM n,xs.length),s)
  |_=>none
 |_=>none
noncomputable def src(x:Xv):M (Src×Nat):=λs=>match x with
 |.d (.tup xs)=>some (.ok (.fix xs,xs.length),s)
 |.d (.fl xs)=>some (.ok (.fix xs,xs.length),s)
 |.l n=>match s[n]? with
  |some (.lst xs)=>some (.ok (.live n,xs.length),s)
  |_=>none
 |_=>none
noncomputable def qe(x:Xv):M (List D):=match x with
 |.d (.tup xs)=>M.ret xs
 |.d (.fl xs)=>M.ret xs
 |_=>M.no
noncomputable def jB(a b:Int):List D:=(List.range (b-a).toNat).map λ(i:Nat)=>.int (a+i)
noncomputable def fV(a:Int):Bool:=decide (-(2^62)<a)&&decide (a<2^62)
noncomputable def walk(c:Src)(f:D->List D->M (List D)):Nat->Nat->List D->M (List D)
 |0,_,_=>M.no
 |k+1,i,acc=>λs=>match c.at i s with
  |none=>none
  |some none=>some (.ok acc,s)
  |some (some x)=>M.bd (f x acc) (λacc'=>walk c f k (i+1) acc') s
noncomputable def zy(f:D->M Xv):List D->M (List Int)
 |[]=>M.ret []
 |x::r=>M.bd (M.qt (f x)) λy=>M.bd (int y) λk=>M.bd (zy f r) λks=>M.ret (k::ks)
noncomputable abbrev Vs:=List (Option Xv)
noncomputable abbrev Fn:=Nat->List Xv->M Xv
noncomputable def locs:List Xv->List Nat
 |[]=>[]
 |.d _::r=>locs r
 |.l n::r=>n::locs r
noncomputable def dB:Nat->List Xv->List Xv
 |_,[]=>[]
 |k,.d v::r=>.d v::dB k r
 |k,.l _::r=>.l k::dB (k+1) r
noncomputable def jf(s:S):List Nat->Option S
 |[]=>some []
 |n::r=>match s[n]?,jf s r with
  |some o,some q=>some (o::q)
  |_,_=>none
noncomputable def cZ(s:S):List Nat->S->S
 |n::r,o::q=>cZ (s.set n o) r q
 |_,_=>s
noncomputable def bZ(F:List Xv->M Xv)(xs:List Xv):M Xv:=λs=>
 if (locs xs).Nodup then match jf s (locs xs) with
  |none=>none
  |some s0=>match F (dB 0 xs) s0 with
   |none=>none
   |some (.er c fs,s1)=>some (.er c fs,cZ s (locs xs) s1)
   |some (.ok (.d v),s1)=>some (.ok (.d v),cZ s (locs xs) s1)
   |some (.ok (.l n),s1)=>match (locs xs)[n]? with
    |some m=>some (.ok (.l m),cZ s (locs xs) s1)
    |none=>match s1[n]? with
     |some o=>some (.ok (.l s.length),cZ s (locs xs) s1++[o])
     |none=>none
 else none
noncomputable def Sd(F:List Xv->M Xv)(c:Nat)(vs:List Xv):M Xv:=λs=>
 if locs vs=[] then match F (.d .any::vs) [] with
  |some (.ok (.d (.tup ds)),_)=>some (.ok (.d (.ob c ds)),s)
  |_=>none
 else none
noncomputable def rR(c:Nat)(x:Xv):M (List D):=match x with
 |.d (.ob e fs)=>if e=c then M.ret fs else M.no
 |_=>M.no
noncomputable def gP{α:Type}:List Nat->List α->List (Option α)->Option (List (Option α))
 |[],[],J=>some J
 |i::is,d::ds,J=>gP is ds (J.set i (some d))
 |_,_,_=>none
noncomputable def lN:D->Option (List D)
 |.tup xs=>some xs
 |_=>none
noncomputable def iC(tg:List Nat)(x:D)(J:Vs):Option Vs:=match tg with
 |[i]=>some (J.set i (some (.d x)))
 |is=>(lN x).bind λds=>gP is (ds.map .d) J
noncomputable def blk(many:Nat)(fr:List Nat)(J:Vs):Vs:=List.replicate many none++fr.map λj=>J[j]?.join
section
variable (aq:Nat->Nat->Bool)(aj:Bool)(F:Fn)
mutual
noncomputable def ev:E->Vs->M Xv
 |.c d,_=>M.ret (.d d)
 |.v i,J=>M.opt (J[i]?.join)
 |.pr fz p xs,J=>M.bd (evs xs J) λvs=>M.bd (gO vs) λds=>cG fz (prim p ds)
 |.wg p q a b c,J=>M.bd (ev a J) λx=>M.bd (ev b J) λy=>M.bd (gO [x,y]) λds=>M.bd (cG true (prim p ds)) λt=>M.bd (bool t) λk=>
   if k=true then M.bd (ev c J) λz=>M.bd (gO [y,z]) λds=>cG true (prim q ds) else M.ret (.d (.bl false))
 |.ch3 p q r a b c d,J=>M.bd (ev a J) λx=>M.bd (ev b J) λy=>M.bd (gO [x,y]) λds=>M.bd (cG true (prim p ds)) λt=>M.bd (bool t) λk=>
   if k=true then M.bd (ev c J) λz=>M.bd (gO [y,z]) λds=>M.bd (cG true (prim q ds)) λt=>M.bd (bool t) λk2=>
    if k2=true then M.bd (ev d J) λw=>M.bd (gO [z,w]) λds=>cG true (prim r ds) else M.ret (.d (.bl false))
   else M.ret (.d (.bl false))
 |.and a b,J=>M.bd (ev a J) λx=>M.bd (bool x) λk=>if k=true then ev b J else M.ret (.d (.bl false))
 |.or a b,J=>M.bd (ev a J) λx=>M.bd (bool x) λk=>if k=true then M.ret (.d (.bl true)) else ev b J
 |.not a,J=>M.bd (ev a J) λx=>M.bd (bool x) λk=>M.ret (.d (.bl (!k)))
 |.ite c a b,J=>M.bd (ev c J) λx=>M.bd (bool x) λk=>if k=true then ev a J else ev b J
 |.tup xs,J=>M.bd (evs xs J) λvs=>M.bd (bM vs) λds=>M.ret (.d (.tup ds))
 |.lst fz xs,J=>M.bd (evs xs J) λvs=>M.bd (bM vs) λds=>newL fz ds
 |.uK k i,_=>M.ret (.d (.fd [.str k] [.int i]))
 |.call f xs,J=>M.bd (evs xs J) λvs=>bZ (F f) vs
 |.g8 a k,J=>M.bd (ev a J) λx=>M.bd (rd x) λd=>M.bd (M.opt (lK aq d k)) λb=>M.ret (.d (.bl b))
 |.sl fz a lo hi,J=>M.bd (ev a J) λx=>M.bd (xK lo J) λl=>M.bd (xK hi J) λh=>M.bd (rd x) λd=>cG fz (cutD d l h)
 |.meth fz p k o xs,J=>M.bd (ev o J) λx=>M.bd (rd x) λd=>if pZ k d=true then M.bd (evs xs J) λys=>M.bd (gO (x::ys)) λds=>cG fz (prim p ds) else M.no
 |.push o a,J=>M.bd (ev o J) λx=>M.bd (cQ x) λ_=>M.bd (ev a J) λy=>M.bd (dat y) λd=>M.bd (cQ x) λnx=>if nx.2.length<sizeLine then M.bd (putL nx.1 (nx.2++[d])) λ_=>M.ret (.d .non) else M.no
 |.pop o,J=>M.bd (ev o J) λx=>M.bd (cQ x) λnx=>match nx.2.getLast? with
   |some d=>M.bd (putL nx.1 nx.2.dropLast) λ_=>M.ret (.d d)
   |none=>M.no
 |.comp fz elt tg it fr many cond,J=>if aj=true then M.bd (nG it J) λcn=>
   M.bd (walk cn.1 (λd acc=>M.bd (M.opt (iC tg d (blk many fr J))) λJ'=>M.bd (M.qt (rT cond J')) λok=>
    if ok=true then M.bd (M.qt (ev elt J')) λy=>M.bd (dat y) λe=>if acc.length<sizeLine then M.ret (acc++[e]) else M.no else M.ret acc) (cn.2+1) 0 []) λxs=>newL fz xs
  else M.no
 |.Jd fz elt tg it YB I8 fr many cond,J=>if aj=true then M.bd (nG it J) λcn=>
   M.bd (walk cn.1 (λd acc=>M.bd (M.opt (iC tg d (blk many fr J))) λJ'=>M.bd (M.qt (nG I8 J')) λYC=>
    walk YC.1 (λd2 acc=>M.bd (M.opt (iC YB d2 J')) λYD=>M.bd (M.qt (rT cond YD)) λok=>
     if ok=true then M.bd (M.qt (ev elt YD)) λy=>M.bd (dat y) λe=>if acc.length<sizeLine then M.ret (acc++[e]) else M.no else M.ret acc) (YC.2+1) 0 acc) (cn.2+1) 0 []) λxs=>newL fz xs
  else M.no
 |.fld o cs i,J=>M.bd (ev o J) λx=>match x with
   |.d (.exc c fs)=>if cs.contains c=true then M.opt (fs[i]?.map .d) else M.no
   |_=>M.no
 |.of o c i,J=>M.bd (ev o J) λx=>M.bd (rR c x) λfs=>M.opt (fs[i]?.map .d)
 |.mk c f xs,J=>M.bd (evs xs J) λvs=>Sd (F f) c vs
 |.cm c f o xs,J=>M.bd (ev o J) λx=>M.bd (rR c x) λ_=>M.bd (evs xs J) λvs=>M.qt (bZ (F f) (x::vs))
 |.rN,_=>λs=>some (.ok (.l s.length),s++[.dct []])
 |.B_ b k d,J=>M.bd (ev k J) λx=>M.bd (ev d J) λy=>M.bd (key x) λkx=>M.bd (fU y) λnk=>M.ret (.d (.bl ((bW kx nk.2).isSome==b)))
 |.pY d k,J=>M.bd (ev d J) λy=>M.bd (ev k J) λx=>M.bd (key x) λkx=>M.bd (fU y) λnk=>M.opt ((bW kx nk.2).map .d)
 |.Et a,J=>M.bd (ev a J) λx=>M.bd (rd x) λd=>M.bd (M.opt (xJ d)) λk=>M.ret (.d (.bl k))
 |.Je fz a b,J=>if aj=true then M.bd (ev a J) λx=>match x with
   |.d (.fl xs)=>M.bd (zy (λd=>ev b [some (.d d)]) xs) λks=>M.bd (M.opt (q_ (ltK ks) xs)) λys=>newL fz ys
   |_=>M.no else M.no
 |.orv a b,J=>M.bd (ev a J) λx=>M.bd (rd x) λd=>M.bd (M.opt (xJ d)) λk=>if k=true then M.ret x else ev b J
 |.ins o i a,J=>M.bd (ev o J) λx=>M.bd (cQ x) λ_=>M.bd (ev i J) λz=>M.bd (int z) λj=>M.bd (ev a J) λy=>M.bd (dat y) λd=>M.bd (cQ x) λnx=>if 0<=j/\j<=nx.2.length/\nx.2.length<sizeLine then M.bd (putL nx.1 (nx.2.take j.toNat++d::nx.2.drop j.toNat)) λ_=>M.ret (.d .non) else M.no
 |.no,_=>M.no
noncomputable def nG:Wk->Vs->M (Src×Nat)
 |.seq e,J=>M.bd (ev e J) src
 |.rg a b,J=>M.bd (ev a J) λx=>M.bd (ev b J) λy=>M.bd (int x) λi=>M.bd (int y) λj=>if fV i&&fV j then M.ret (.fix (jB i j),(jB i j).length) else M.no
 |.zip a b,J=>M.bd (ev a J) λx=>M.bd (ev b J) λy=>M.bd (qe x) λxs=>M.bd (qe y) λys=>M.ret (.fix (List.zipWith (λp q=>.tup [p,q]) xs ys),(List.zipWith (λ(p q:D)=>D.tup [p,q]) xs ys).length)
 |.enum a,J=>M.bd (ev a J) oJ
 |.rrg a,J=>M.bd (ev a J) λx=>M.bd (int x) λi=>if fV i then M.ret (.fix (jB 0 i).reverse,(jB 0 i).length) else M.no
noncomputable def xK:Eo->Vs->M (Option Int)
 |.no,_=>M.ret none
 |.yes a,J=>M.bd (ev a J) λx=>M.bd (int x) λi=>M.ret (some i)
noncomputable def rT:Eo->Vs->M Bool
 |.no,_=>M.ret true
 |.yes a,J=>M.bd (ev a J) bool
noncomputable def evs:Es->Vs->M (List Xv)
 |.nil,_=>M.ret []
 |.cons a r,J=>M.bd (ev a J) λx=>M.bd (evs r J) λxs=>M.ret (x::xs)
end
end
inductive Out where
 |nx (J:Vs)|rt (x:Xv)|bk (J:Vs)|ct (J:Vs)|er (c:Nat) (fs:List D) (J:Vs)
noncomputable abbrev MS:=S->Option (Out×S)
noncomputable def ofM{α:Type}(m:M α)(J:Vs)(k:α->MS):MS:=λs=>match m s with
 |some (.ok a,s')=>k a s'
 |some (.er c fs,s')=>some (.er c fs J,s')
 |none=>none
noncomputable def cH(m:MS)(k:Vs->MS):MS:=λs=>match m s with
 |some (.nx J,s')=>k J s'
 |r=>r
section
variable (aq:Nat->Nat->Bool)
noncomputable def store(aj:Bool)(F:Fn)(t:Tg)(x:Xv)(J:Vs):MS:=match t with
 |.nm i=>λs=>some (.nx (J.set i (some x)),s)
 |.tp is=>if aj=true then ofM (M.bd (dat x) λd=>M.opt ((lN d).bind λds=>gP is (ds.map .d) J)) J (λJ' s=>some (.nx J',s)) else λ_=>none
 |.aq o i=>ofM (M.bd (dat x) λd=>M.bd (ev aq aj F o J) λy=>M.bd (ev aq aj F i J) λz=>M.bd (int z) λj=>M.bd (cQ y) λnx=>
   match L2.pC nx.2.length j with
   |some q=>putL nx.1 (nx.2.set q d)
   |none=>M.no) J (λ_ s=>some (.nx J,s))
noncomputable def gQ(c:Vs->M Bool)(b:Vs->MS):Nat->Vs->MS
 |0,_=>λ_=>none
 |k+1,J=>ofM (c J) J λok=>if ok=true then λs=>match b J s with
   |some (.nx J',s')=>gQ c b k J' s'
   |some (.ct J',s')=>gQ c b k J' s'
   |some (.bk J',s')=>some (.nx J',s')
   |r=>r
  else λs=>some (.nx J,s)
noncomputable def cT(c:Src)(b:D->Vs->MS):Nat->Nat->Vs->MS
 |0,_,_=>λ_=>none
 |k+1,i,J=>λs=>match c.at i s with
  |none=>none
  |some none=>some (.nx J,s)
  |some (some d)=>match b d J s with
   |some (.nx J',s')=>cT c b k (i+1) J' s'
   |some (.ct J',s')=>cT c b k (i+1) J' s'
   |some (.bk J',s')=>some (.nx J',s')
   |r=>r
noncomputable def goes(i:Nat):Out->Out
 |.nx J=>.nx (J.set i none)
 |.bk J=>.bk (J.set i none)
 |.ct J=>.ct (J.set i none)
 |r=>r
noncomputable def oK:Nat:=1000000000000
mutual
noncomputable def ex(aj:Bool)(F:Bool->Fn):St->Vs->MS
 |.pass,J=>λs=>some (.nx J,s)
 |.ex e,J=>ofM (ev aq aj (F aj) e J) J λ_ s=>some (.nx J,s)
 |.asg t e,J=>ofM (ev aq aj (F aj) e J) J λx=>store aq aj (F aj) t x J
 |.par i j a b,J=>if aj=true then ofM (M.bd (ev aq aj (F aj) a J) λx=>M.bd (ev aq aj (F aj) b J) λy=>M.ret (x,y)) J λxy s=>some (.nx ((J.set i (some xy.1)).set j (some xy.2)),s) else λ_=>none
 |.aug i e,J=>ofM (M.bd (M.opt (J[i]?.join)) λx=>M.bd (ev aq aj (F aj) e J) λy=>M.bd (int x) λp=>M.bd (int y) λq=>M.ret (p+q)) J λr s=>some (.nx (J.set i (some (.d (.int r)))),s)
 |.ret e,J=>ofM (ev aq aj (F aj) e J) J λx s=>some (.rt x,s)
 |.rise c kp xs,J=>if aj=true then ofM (M.bd (evs aq aj (F aj) xs J) bM) J λds s=>some (.er c (if kp=true then ds else []) J,s) else λ_=>none
 |.iff c t e,J=>ofM (M.bd (ev aq aj (F aj) c J) bool) J λb=>if b=true then exs aj F t J else exs aj F e J
 |.wh c b,J=>gQ (λJ=>M.bd (ev aq aj (F aj) c J) bool) (λJ=>exs aj F b J) oK J
 |.fr t w b,J=>if aj=true then ofM (nG aq aj (F aj) w J) J λcn=>cT cn.1 (λd J=>cH (store aq aj (F aj) t (.d d) J) λJ'=>exs aj F b J') (cn.2+1) 0 J else λ_=>none
 |.rO b d i h,J=>if aj=true then λs=>match exs aj F b J s with
   |some (.er c fs J',s')=>if aq c d=true then (match exs false F h (J'.set i (some (.d (.exc c fs)))) s' with
    |some (r,s'')=>(match r with
     |.er _ _ _=>none
     |r=>some (goes i r,s''))
    |none=>none) else none
   |r=>r
  else λ_=>none
 |.dput d k v,J=>ofM (M.bd (ev aq aj (F aj) v J) λz=>M.bd (dat z) λw=>M.bd (ev aq aj (F aj) d J) λy=>M.bd (ev aq aj (F aj) k J) λx=>M.bd (key x) λkx=>M.bd (fU y) λnk=>if nk.2.length<sizeLine then putD nk.1 (jA kx w nk.2) else M.no) J (λ_ s=>some (.nx J,s))
 |.no,_=>λ_=>none
noncomputable def exs(aj:Bool)(F:Bool->Fn):bV->Vs->MS
 |.nil,J=>λs=>some (.nx J,s)
 |.cons a r,J=>cH (ex aj F a J) λJ'=>exs aj F r J'
end
structure Df where
 many:Nat
 gw:Nat
 body:bV
noncomputable def call(T:Nat->Option Df):Nat->Bool->Fn
 |0,_,_,_=>M.no
 |k+1,aj,f,xs=>match T f with
  |none=>M.no
  |some d=>if xs.length=d.gw then λs=>match exs aq aj (λc=>call T k c) d.body (xs.map some++List.replicate (d.many-d.gw) none) s with
    |some (.nx _,s')=>some (.ok (.d .non),s')
    |some (.rt v,s')=>some (.ok v,s')
    |some (.er c fs _,s')=>some (.er c fs,s')
    |_=>none
   else M.no
end
end Mi
namespace Mi
open PySem L2
structure Ph where
 z:Addr->Prop
 l:List Addr
structure Cl where
 a:Nat->Addr
 f:Nat->List Str
 b:Nat->Addr
 g:Nat->List Str
section
variable (K:W.Frag)(cA:Cl)
def KT(a:Addr)(vs:List V):Prop:=gj K (λ_=>none) a vs
def KL(a:Addr)(vs:List V):Prop:=cO K (λ_=>none) a vs
def TupAt(U:Ph)(H:Hp)(a:Addr)(vs:List V):Prop:=(Rd H a (.tup vs)/\¬U.z a)\/KT K a vs
def LstAt(U:Ph)(H:Hp)(a:Addr)(vs:List V):Prop:=(Rd H a (.lst vs)/\¬U.z a)\/KL K a vs
def ExcAt(U:Ph)(H:Hp)(a:Addr)(c:Nat)(vs:List V):Prop:=¬U.z a/\((cA.f c=[]/\vs=[]/\H a=some (jX a (cA.a c) none))\/∃dx,H a=some (jX a (cA.a c) (some dx))/\¬U.z dx/\H dx=some (.xd ((cA.f c).zip vs))/\(cA.f c).length=vs.length)
def qg(U:Ph)(H:Hp)(a:Addr)(c:Nat)(vs:List V):Prop:=¬U.z a/\∃dx,H a=some (.ins (cA.b c) dx ((cA.g c).zip vs))/\(cA.g c).length=vs.length
mutual
inductive Rep (U:Ph) (H:Hp):D->V->Prop where
 |non:Rep U H .non .non
 |bl (b:Bool):Rep U H (.bl b) (.bl b)
 |int (i:Int):Rep U H (.int i) (.int i)
 |str (x:Str):Rep U H (.str x) (.str x)
 |tup {a:Addr} {xs:List D} {vs:List V} (h:TupAt K U H a vs) (r:aC U H xs vs):Rep U H (.tup xs) (.ref a)
 |fl {a:Addr} {xs:List D} {vs:List V} (h:LstAt K U H a vs) (r:aC U H xs vs):Rep U H (.fl xs) (.ref a)
 |fd {a:Addr} {k:Str} {i:Int} (h:H a=some (.dK [(.inr k,.int i)])) (n:¬U.z a):Rep U H (.fd [.str k] [.int i]) (.ref a)
 |exc {a:Addr} {c:Nat} {xs:List D} {vs:List V} (h:ExcAt cA U H a c vs) (r:aC U H xs vs):Rep U H (.exc c xs) (.ref a)
 |ob {a:Addr} {c:Nat} {xs:List D} {vs:List V} (h:qg cA U H a c vs) (r:aC U H xs vs):Rep U H (.ob c xs) (.ref a)
 |any (a:Addr):Rep U H .any (.ref a)
inductive aC (U:Ph) (H:Hp):List D->List V->Prop where
 |nil:aC U H [] []
 |cons {d:D} {v:V} {ds:List D} {vs:List V} (h:Rep U H d v) (r:aC U H ds vs):aC U H (d::ds) (v::vs)
end
inductive bw (U:Ph) (H:Hp):Xv->V->Prop where
 |d {x:D} {v:V} (h:Rep K cA U H x v):bw U H (.d x) v
 |l {n:Nat} {a:Addr} (h:U.l[n]?=some a):bw U H (.l n) (.ref a)
inductive aP (U:Ph) (H:Hp):List Xv->List V->Prop where
 |nil:aP U H [] []
 |cons {d:Xv} {v:V} {ds:List Xv} {vs:List V} (h:bw K cA U H d v) (r:aP U H ds vs):aP U H (d::ds) (v::vs)
noncomputable def Sg:Kx->Int
 |.non=>reduceHash 0xFCA86420
 |.int i=>hashInt i
 |.row is=>reduceHash (Builtin.Tuple.tupleHashOf (is.map hashInt))
noncomputable def rm(k:List Kx):Int:=reduceHash (Builtin.Tuple.tupleHashOf (k.map Sg))
noncomputable def rW:Kx->D
 |.non=>.non
 |.int i=>.int i
 |.row is=>.tup (is.map .int)
noncomputable def jg(k:List Kx):D:=.tup (k.map rW)
noncomputable abbrev m6:=List (List Kx×Addr×Value)
noncomputable def uM(a:Addr)(xs:m6):HO:=.ext λh=>(a==sysModules)=false/\xs.length<=sizeLine/\∃o es ep,h.get? a=some o/\o.ExactDict/\o.data=.dict es ep/\es.toList=xs.map (λx=>⟨rm x.1,.ref x.2.1,x.2.2⟩)/\(xs.map (·.1)).Nodup
inductive jk (U:Ph) (H:Hp):jz->m6->Prop where
 |nil:jk U H [] []
 |cons {k:List Kx} {d:D} {ka:Addr} {u:Value} {v:V} {r:jz} {xs:m6} (hk:Rep K cA U H (jg k) (.ref ka)) (hu:RelV v u) (hv:Rep K cA U H d v) (q:jk U H r xs):jk U H ((k,d)::r) ((k,ka,u)::xs)
noncomputable def kJ(U:Ph)(H:Hp)(a:Addr):SO->Prop
 |.lst xs=>∃vs,H a=some (.lst vs)/\aC K cA U H xs vs
 |.dct kvs=>∃xs,H a=some (uM a xs)/\jk K cA U H kvs xs
structure aF(U:Ph)(H:Hp)(s:S):Prop where
 len:U.l.length=s.length
 obj:∀(n:Nat) o a,s[n]?=some o->U.l[n]?=some a->kJ K cA U H a o
 uniq:U.l.Nodup
 lz:∀a∈U.l,U.z a
 zt:∀a,U.z a->∃o,H a=some o
structure Ext(U:Ph)(H:Hp)(U':Ph)(H':Hp):Prop where
 more:∃r,U'.l=U.l++r/\∀b∈r,H b=none
 tG:∀a,U.z a->U'.z a
 m7:∀a,U'.z a->U.z a\/H a=none
 frame:∀a o,H a=some o->a∉U.l->H' a=some o
 stay:∀a o,H a=some o->∃o',H' a=some o'
def aZ(U:Ph)(H:Hp)(Z:L2.St)(J:Vs):Prop:=Z.length=J.length/\∀(i:Nat) (x:Xv),J[i]?=some (some x)->∃v,Z[i]?=some (some v)/\bw K cA U H x v
end
section
variable {K:W.Frag}{cA:Cl}{U U' Sh:Ph}{H H' Jo:Hp}{s:S}{Z:L2.St}{J:Vs}
theorem Ext.refl:Ext U H U H:=⟨⟨[],by simp,by simp⟩,λ_ h=>h,λ_ h=>.inl h,λ_ _ h _=>h,λ_ o h=>⟨o,h⟩⟩
theorem Ext.lO(x:Ext U H U' H'){a:Addr}(h:H' a=none):H a=none:=by
 cases e:H a with
 |none=>rfl
 |some o=>obtain⟨o',q⟩:=x.stay a o e;rw[h] at q;cases q
theorem Ext.trans(x:Ext U H U' H')(y:Ext U' H' Sh Jo):Ext U H Sh Jo:=by
 obtain⟨r,e,hr⟩:=x.more;obtain⟨r',e',zA⟩:=y.more;refine⟨⟨r++r',by rw[e',e,La],λb hb=>?_⟩,λa h=>y.tG a (x.tG a h),λa h=>?_,λa o h n=>y.frame a o (x.frame a o h n) ?_,λa o h=>?_⟩
 ·rcases iR.mp hb with z|z
  ·exact hr b z
  ·exact x.lO (zA b z)
 ·rcases y.m7 a h with z|z
  ·exact x.m7 a z
  ·exact .inr (x.lO z)
 ·rw[e];intro z;rcases iR.mp z with z|z
  ·exact n z
  ·rw[hr a z] at h;cases h
 ·obtain⟨o',q⟩:=x.stay a o h;exact y.stay a o' q
theorem Ext.get(x:Ext U H U' H'){n:Nat}{a:Addr}(h:U.l[n]?=some a):U'.l[n]?=some a:=by
 obtain⟨r,e,_⟩:=x.more;rw[e,nQ (dN.mp h).1];exact h
theorem Ext.out(x:Ext U H U' H')(hz:∀a∈U.l,U.z a){a:Addr}{o:HO}(h:H a=some o)(n:¬U.z a):H' a=some o/\¬U'.z a:=
 ⟨x.frame a o h λz=>n (hz a z),λz=>by
  rcases x.m7 a z with y|y
  ·exact n y
  ·rw[h] at y;cases y⟩
theorem TupAt.mono(x:Ext U H U' H')(hz:∀a∈U.l,U.z a){a:Addr}{vs:List V}(h:TupAt K U H a vs):TupAt K U' H' a vs:=by
 rcases h with ⟨h|⟨o,h⟩,n⟩|h
 ·obtain⟨p,q⟩:=x.out hz h n;exact .inl ⟨.inl p,q⟩
 ·obtain⟨p,q⟩:=x.out hz h n;exact .inl ⟨.inr ⟨o,p⟩,q⟩
 ·exact .inr h
theorem LstAt.mono(x:Ext U H U' H')(hz:∀a∈U.l,U.z a){a:Addr}{vs:List V}(h:LstAt K U H a vs):LstAt K U' H' a vs:=by
 rcases h with ⟨h|⟨o,h⟩,n⟩|h
 ·obtain⟨p,q⟩:=x.out hz h n;exact .inl ⟨.inl p,q⟩
 ·obtain⟨p,q⟩:=x.out hz h n;exact .inl ⟨.inr ⟨o,p⟩,q⟩
 ·exact .inr h
theorem ExcAt.mono(x:Ext U H U' H')(hz:∀a∈U.l,U.z a){a:Addr}{c:Nat}{vs:List V}(h:ExcAt cA U H a c vs):ExcAt cA U' H' a c vs:=by
 obtain⟨n,⟨e1,e2,h⟩|⟨dx,h,n2,h2,h3⟩⟩:=h
 ·obtain⟨p,q⟩:=x.out hz h n;exact⟨q,.inl ⟨e1,e2,p⟩⟩
 ·obtain⟨p,q⟩:=x.out hz h n;obtain⟨p2,q2⟩:=x.out hz h2 n2;exact⟨q,.inr ⟨dx,p,q2,p2,h3⟩⟩
theorem qg.mono(x:Ext U H U' H')(hz:∀a∈U.l,U.z a){a:Addr}{c:Nat}{vs:List V}(h:qg cA U H a c vs):qg cA U' H' a c vs:=by
 obtain⟨n,dx,h,h3⟩:=h;obtain⟨p,q⟩:=x.out hz h n;exact⟨q,dx,p,h3⟩
theorem Rep.mono(x:Ext U H U' H')(hz:∀a∈U.l,U.z a){d:D}{v:V}(h:Rep K cA U H d v):Rep K cA U' H' d v:=
 Rep.rec (motive_1:=λd v _=>Rep K cA U' H' d v) (motive_2:=λd v _=>aC K cA U' H' d v) .non .bl .int .str (λh _ i=>.tup (h.mono x hz) i) (λh _ i=>.fl (h.mono x hz) i) (λh n=>.fd (x.out hz h n).1 (x.out hz h n).2) (λh _ i=>.exc (h.mono x hz) i) (λh _ i=>.ob (h.mono x hz) i) .any .nil (λ_ _ i j=>.cons i j) h
theorem aC.mono(x:Ext U H U' H')(hz:∀a∈U.l,U.z a){d:List D}{v:List V}(h:aC K cA U H d v):aC K cA U' H' d v:=
 aC.rec (motive_1:=λd v _=>Rep K cA U' H' d v) (motive_2:=λd v _=>aC K cA U' H' d v) .non .bl .int .str (λh _ i=>.tup (h.mono x hz) i) (λh _ i=>.fl (h.mono x hz) i) (λh n=>.fd (x.out hz h n).1 (x.out hz h n).2) (λh _ i=>.exc (h.mono x hz) i) (λh _ i=>.ob (h.mono x hz) i) .any .nil (λ_ _ i j=>.cons i j) h
theorem aC.map(m:∀d v,Rep K cA U H d v->Rep K cA U' H' d v):∀{d:List D} {v:List V},aC K cA U H d v->aC K cA U' H' d v
 |_,_,.nil=>.nil
 |_,_,.cons h r=>.cons (m _ _ h) (aC.map m r)
theorem jk.map(m:∀d v,Rep K cA U H d v->Rep K cA U' H' d v){d:jz}{v:m6}(h:jk K cA U H d v):jk K cA U' H' d v:=by
 induction h with
 |nil=>exact .nil
 |cons a b c _ ih=>exact .cons (m _ _ a) b (m _ _ c) ih
theorem kJ.map{a:Addr}{o:SO}(h:kJ K cA U H a o)(e:∀u,H a=some u->H' a=some u)(m:∀d v,Rep K cA U H d v->Rep K cA U' H' d v):kJ K cA U' H' a o:=by
 cases o with
 |lst xs=>obtain⟨vs,q,r⟩:=h;exact⟨vs,e _ q,r.map m⟩
 |dct xs=>obtain⟨vs,q,r⟩:=h;exact⟨vs,e _ q,r.map m⟩
theorem bw.mono(x:Ext U H U' H')(hz:∀a∈U.l,U.z a){d:Xv}{v:V}(h:bw K cA U H d v):bw K cA U' H' d v:=by
 cases h with
 |d h=>exact .d (h.mono x hz)
 |l h=>exact .l (x.get h)
theorem aP.mono(x:Ext U H U' H')(hz:∀a∈U.l,U.z a):∀{ds:List Xv} {vs:List V},aP K cA U H ds vs->aP K cA U' H' ds vs
 |_,_,.nil=>.nil
 |_,_,.cons h r=>.cons (h.mono x hz) (aP.mono x hz r)
theorem aZ.mono(x:Ext U H U' H')(hz:∀a∈U.l,U.z a)(h:aZ K cA U H Z J):aZ K cA U' H' Z J:=⟨h.1,λi d e=>let ⟨v,a,b⟩:=h.2 i d e;⟨v,a,b.mono x hz⟩⟩
theorem aC.len:∀{ds:List D} {vs:List V},aC K cA U H ds vs->ds.length=vs.length
 |_,_,.nil=>rfl
 |_,_,.cons _ r=>by rw[fK,fK,aC.len r]
theorem aP.len:∀{ds:List Xv} {vs:List V},aP K cA U H ds vs->ds.length=vs.length
 |_,_,.nil=>rfl
 |_,_,.cons _ r=>by rw[fK,fK,aP.len r]
theorem aC.get:∀{ds:List D} {vs:List V} {i:Nat} {d:D},aC K cA U H ds vs->ds[i]?=some d->∃v,vs[i]?=some v/\Rep K cA U H d v
 |_,_,_,_,.nil,e=>by simp at e
 |_,_,0,_,.cons h _,e=>by simp at e;subst e;exact⟨_,rfl,h⟩
 |_,_,i+1,d,.cons _ r,e=>by
  obtain⟨v,a,b⟩:=aC.get (i:=i) (d:=d) r (by simpa using e);exact⟨v,by simpa using a,b⟩
theorem aP.get:∀{ds:List Xv} {vs:List V} {i:Nat} {d:Xv},aP K cA U H ds vs->ds[i]?=some d->∃v,vs[i]?=some v/\bw K cA U H d v
 |_,_,_,_,.nil,e=>by simp at e
 |_,_,0,_,.cons h _,e=>by simp at e;subst e;exact⟨_,rfl,h⟩
 |_,_,i+1,d,.cons _ r,e=>by
  obtain⟨v,a,b⟩:=aP.get (i:=i) (d:=d) r (by simpa using e);exact⟨v,by simpa using a,b⟩
theorem aC.none:∀{ds:List D} {vs:List V} {i:Nat},aC K cA U H ds vs->ds[i]?=none->vs[i]?=none:=λ{ds vs i} r e=>by
 have:=r.len;have h2:ds.length<=i:=pG.mp e;exact pG.mpr (by lia)
theorem aC.app:∀{ds es:List D} {vs us:List V},aC K cA U H ds vs->aC K cA U H es us->aC K cA U H (ds++es) (vs++us)
 |_,_,_,_,.nil,s=>s
 |_,_,_,_,.cons h r,s=>.cons h (aC.app r s)
theorem aC.take:∀{ds:List D} {vs:List V} (n:Nat),aC K cA U H ds vs->aC K cA U H (ds.take n) (vs.take n)
 |_,_,0,_=>by simp;exact .nil
 |_,_,n+1,.nil=>by simp;exact .nil
 |_,_,n+1,.cons h r=>by simp only[List.take_succ_cons];exact .cons h (aC.take n r)
theorem aC.drop:∀{ds:List D} {vs:List V} (n:Nat),aC K cA U H ds vs->aC K cA U H (ds.drop n) (vs.drop n)
 |_,_,0,r=>r
 |_,_,n+1,.nil=>by simp;exact .nil
 |_,_,n+1,.cons _ r=>by simp only[List.drop_succ_cons];exact aC.drop n r
theorem aC.set{d:D}{v:V}(h:Rep K cA U H d v):∀{ds:List D} {vs:List V} (i:Nat),aC K cA U H ds vs->aC K cA U H (ds.set i d) (vs.set i v)
 |_,_,_,.nil=>.nil
 |_,_,0,.cons _ r=>.cons h r
 |_,_,i+1,.cons q r=>.cons q (aC.set h i r)
theorem aC.cut{ds:List D}{vs:List V}{l h:Option Int}(r:aC K cA U H ds vs):aC K cA U H (Mi.cut ds l h) (mJ vs l h):=by
 unfold Mi.cut mJ;rw[<-r.len];exact(r.drop _).take _
def aY(H H':Hp):Prop:=∀a o,H a=some o->H' a=some o
theorem aY.refl:aY H H:=λ_ _ h=>h
theorem aY.trans(x:aY H H')(y:aY H' Jo):aY H Jo:=λa o h=>y a o (x a o h)
theorem aY.new{p:Addr}{o:HO}(hp:H p=none):aY H (upd H p o):=λa u h=>by rw[cW (D_ h hp)];exact h
theorem aY.ext(g:aY H H'):Ext U H U H':=⟨⟨[],by simp,by simp⟩,λ_ h=>h,λ_ h=>.inl h,λa o h _=>g a o h,λa o h=>⟨o,g a o h⟩⟩
theorem kJ.grow{a:Addr}{o:SO}(g:aY H H')(hz:∀a∈U.l,U.z a)(h:kJ K cA U H a o):kJ K cA U H' a o:=h.map (g _) λ_ _ r=>r.mono g.ext hz
theorem aF.grow(g:aY H H')(h:aF K cA U H s):aF K cA U H' s:=
 ⟨h.len,λn o a e1 e2=>(h.obj n o a e1 e2).grow g h.lz,h.uniq,h.lz,λa z=>let ⟨o,e⟩:=h.zt a z;⟨o,g _ _ e⟩⟩
theorem aF.nz(h:aF K cA U H s){p:Addr}(hp:H p=none):¬U.z p:=λz=>by obtain⟨o,e⟩:=h.zt p z;rw[hp] at e;cases e
noncomputable def Ph.add(U:Ph)(p:Addr):Ph:=⟨λa=>U.z a\/a=p,U.l++[p]⟩
theorem Ext.add{p:Addr}{o:HO}(hp:H p=none):Ext U H (U.add p) (upd H p o):=
 ⟨⟨[p],rfl,by simpa using hp⟩,λ_ h=>.inl h,λa h=>h.imp id λe=>by rw[e];exact hp,λa u h _=>aY.new hp a u h,λa u h=>⟨u,aY.new hp a u h⟩⟩
theorem aF.Jp{p:Addr}{so:SO}{ho:HO}(h:aF K cA U H s)(hp:H p=none)(hr:kJ K cA (U.add p) (upd H p ho) p so):aF K cA (U.add p) (upd H p ho) (s++[so]):=by
 have pn:p∉U.l:=λz=>h.nz hp (h.lz p z);refine⟨by show (U.l++[p]).length=_;rw[dG,dG,h.len];rfl,λn o a e1 e2=>?_,?_,λa ha=>?_,λa ha=>?_⟩
 ·have e2:(U.l++[p])[n]?=some a:=e2;by_cases hn:n<s.length
  ·rw[nQ hn] at e1;rw[nQ (by rw[h.len];exact hn)] at e2;exact(h.obj n o a e1 e2).map (aY.new hp _) λ_ _ r=>r.mono (Ext.add hp) h.lz
  ·have hl:n=s.length:=by
    have z:=(dN.mp e1).1;rw[dG] at z;simp at z
    lia
   subst hl;rw[qF (bO _)] at e1;rw[qF (by rw[h.len];exact bO _)] at e2;simp at e1;simp[h.len] at e2;subst e1 e2;exact hr
 ·show (U.l++[p]).Nodup;rw[Lb];refine⟨h.uniq,by simp,λa ha b hb e=>?_⟩;simp at hb;subst hb e;exact pn ha
 ·have ha:a∈U.l++[p]:=ha;rcases iR.mp ha with z|z
  ·exact .inl (h.lz a z)
  ·simp at z;exact .inr z
 ·rcases ha with z|z
  ·obtain⟨o,e⟩:=h.zt a z;exact⟨o,aY.new hp _ _ e⟩
  ·subst z;exact⟨_,iV⟩
theorem aF.add{p:Addr}{xs:List D}{vs:List V}(h:aF K cA U H s)(hp:H p=none)(r:aC K cA U H xs vs):aF K cA (U.add p) (upd H p (.lst vs)) (s++[.lst xs]):=h.Jp hp ⟨vs,iV,r.mono (Ext.add hp) h.lz⟩
theorem Ext.write{n:Nat}{p:Addr}{o:HO}(hp:U.l[n]?=some p)(hv:∃u,H p=some u):Ext U H U (upd H p o):=by
 have hm:p∈U.l:=fZ hp;refine⟨⟨[],by simp,by simp⟩,λ_ h=>h,λ_ h=>.inl h,λa u h n=>by
  have ne:a≠p:=λe=>n (by rw[e];exact hm);rw[cW ne];exact h,λa u h=>?_⟩
 by_cases e:a=p
 ·subst e;exact⟨o,iV⟩
 ·exact⟨u,by rw[cW e];exact h⟩
theorem aF.uN{n:Nat}{p:Addr}{so:SO}{ho:HO}(h:aF K cA U H s)(hl:n<s.length)(hp:U.l[n]?=some p)(hr:kJ K cA U (upd H p ho) p so):aF K cA U (upd H p ho) (s.set n so):=by
 have hv:=h.zt p (h.lz p (fZ hp));have x:Ext U H U (upd H p ho):=Ext.write hp hv;refine⟨by rw[lB];exact h.len,λm o a e1 e2=>?_,h.uniq,h.lz,λa ha=>?_⟩
 ·by_cases hm:n=m
  ·subst hm;rw[vL hl] at e1;cases e1;rw[hp] at e2;cases e2;exact hr
  ·rw[pH hm] at e1;have ne:a≠p:=λy=>by
    subst y;exact hm ((PJ (dN.mp hp).1 h.uniq).mp (hp.trans e2.symm))
   exact(h.obj m o a e1 e2).map (λ_ q=>by rw[cW ne];exact q) λ_ _ r=>r.mono x h.lz
 ·obtain⟨o,e⟩:=h.zt a ha;obtain⟨o',e'⟩:=x.stay a o e;exact⟨o',e'⟩
theorem aF.write{n:Nat}{p:Addr}{xs ys:List D}{us:List V}(h:aF K cA U H s)(hn:s[n]?=some (.lst xs))(hp:U.l[n]?=some p)(r:aC K cA U H ys us):aF K cA U (upd H p (.lst us)) (s.set n (.lst ys)):=
 h.uN (dN.mp hn).1 hp ⟨us,iV,r.mono (Ext.write hp (h.zt p (h.lz p (fZ hp)))) h.lz⟩
theorem aZ.set{i:Nat}{d:Xv}{v:V}(hL:aZ K cA U H Z J)(r:bw K cA U H d v):aZ K cA U H (Z.set i (some v)) (J.set i (some d)):=by
 refine⟨by rw[lB,lB];exact hL.1,λj e h=>?_⟩;by_cases Cr:i=j
 ·subst Cr;by_cases hl:i<J.length
  ·rw[vL hl] at h;cases h;exact⟨v,by rw[vL (by rw[hL.1];exact hl)],r⟩
  ·rw[FT (by rw[lB];lia)] at h;cases h
 ·rw[pH Cr] at h;obtain⟨u,a,b⟩:=hL.2 j e h;exact⟨u,by rw[pH Cr];exact a,b⟩
theorem aZ.unset{i:Nat}(hL:aZ K cA U H Z J):aZ K cA U H (Z.set i none) (J.set i none):=by
 refine⟨by rw[lB,lB];exact hL.1,λj e h=>?_⟩;by_cases Cr:i=j
 ·subst Cr;by_cases hl:i<J.length
  ·rw[vL hl] at h;cases h
  ·rw[FT (by rw[lB];lia)] at h;cases h
 ·rw[pH Cr] at h;obtain⟨u,a,b⟩:=hL.2 j e h;exact⟨u,by rw[pH Cr];exact a,b⟩
theorem TupAt.jm{a:Addr}{vs:List V}(h:TupAt K U H a vs):gj K H a vs:=by
 rcases h with ⟨h,_⟩|(h|h)
 ·exact .inl h
 ·rcases h with h|⟨o,h⟩<;>cases h
 ·exact .inr h
theorem LstAt.tH{a:Addr}{vs:List V}(h:LstAt K U H a vs):cO K H a vs:=by
 rcases h with ⟨h,_⟩|(h|h)
 ·exact .inl h
 ·rcases h with h|⟨o,h⟩<;>cases h
 ·exact .inr h
theorem TupAt.new{p:Addr}{vs:List V}(hz:¬U.z p):TupAt K U (upd H p (.tup vs)) p vs:=.inl ⟨.inl iV,hz⟩
theorem LstAt.new{p:Addr}{vs:List V}(hz:¬U.z p):LstAt K U (upd H p (.lst vs)) p vs:=.inl ⟨.inl iV,hz⟩
end
end Mi
namespace Mi
open PySem PySem.Spec PyProof.Rows L2
theorem un{α β γ:Type}{A B C:α->β->γ->Prop}{R:Prop}(h:∃a b c,A a b c/\B a b c/\C a b c)(f:∀a b c,A a b c->B a b c->C a b c->R):R:=by
 obtain⟨a,b,c,x,y,z⟩:=h;exact f a b c x y z
section
variable (K:W.Frag)(cA:Cl)
def Run{α:Type}(m:M α)(U:Ph)(H:Hp)(s:S)(P:α->S->Ph->Hp->Prop)(Ee:Nat->List D->S->Ph->Hp->Prop):Prop:=
 match m s with
 |some (.ok a,s')=>∀U' H',Ext U H U' H'->aF K cA U' H' s'->P a s' U' H'
 |some (.er c f,s')=>∀U' H',Ext U H U' H'->aF K cA U' H' s'->Ee c f s' U' H'
 |none=>False
def j_(U:Ph)(H:Hp)(c:Nat)(fs:List D)(dx:Option Addr):Prop:=
 (cA.f c=[]/\fs=[]/\dx=none)\/∃d vs,dx=some d/\¬U.z d/\H d=some (.xd ((cA.f c).zip vs))/\(cA.f c).length=vs.length/\aC K cA U H fs vs
noncomputable def eX(EX:XS)(Z:L2.St):Nat->List D->S->Ph->Hp->Prop:=λc fs _ U' H'=>∀dx,j_ K cA U' H' c fs dx->EX Z (.ref (cA.a c)) dx H'
noncomputable def tE(EX:XS)(m:Vs->M Xv):TE:=λZ H Q=>∃U J s,aZ K cA U H Z J/\aF K cA U H s/\Run K cA (m J) U H s (λd _ U' H'=>∀v,bw K cA U' H' d v->Q v H') (eX K cA EX Z)
noncomputable def Sq(EX:XS)(m:Vs->M (List Xv)):TA:=λZ H Q=>∃U J s,aZ K cA U H Z J/\aF K cA U H s/\Run K cA (m J) U H s (λd _ U' H'=>∀v,aP K cA U' H' d v->Q v H') (eX K cA EX Z)
noncomputable def wj(EX:XS)(m:Vs->M Bool):TT:=λZ H Q=>∃U J s,aZ K cA U H Z J/\aF K cA U H s/\Run K cA (m J) U H s (λd _ U' H'=>Q d H') (eX K cA EX Z)
def Rv(U:Ph)(H:Hp)(d:D)(v:V):Prop:=match d with
 |.fl xs=>∃a vs,v=.ref a/\cO K H a vs/\aC K cA U H xs vs
 |d=>Rep K cA U H d v
inductive xM (U:Ph) (H:Hp):List D->List V->Prop where
 |nil:xM U H [] []
 |cons {d:D} {v:V} {ds:List D} {vs:List V} (h:Rv K cA U H d v) (r:xM U H ds vs):xM U H (d::ds) (v::vs)
def bD(U:Ph)(H:Hp)(o:Option Rz)(Q:VK):Prop:=match o with
 |none=>False
 |some (.dat d)=>∀H' v,aY H H'->Rep K cA U H' d v->Q v H'
 |some (.nw xs)=>∀p vs,H p=none->aC K cA U H xs vs->Q (.ref p) (upd H p (.lst vs))
structure Zt(U:Ph)(H:Hp):Prop where
 lz:∀a∈U.l,U.z a
 zt:∀a,U.z a->∃o,H a=some o
def bC(p:Pr)(r:List V->Hp->VK->Prop):Prop:=∀(U:Ph) (H:Hp) (ds:List D) (vs:List V) (Q:VK),Zt U H->xM K cA U H ds vs->bD K cA U H (prim p ds) Q->r vs H Q
end
section
variable {K:W.Frag}{cA:Cl}{U U':Ph}{H H':Hp}{s:S}{Z:L2.St}{J:Vs}{EX:XS}
theorem aF.zs(h:aF K cA U H s):Zt U H:=⟨h.lz,h.zt⟩
theorem Zt.nz(h:Zt U H)(hp:H p=none):¬U.z p:=λz=>by obtain⟨o,e⟩:=h.zt p z;rw[hp] at e;cases e
theorem Rep.rv{d:D}{v:V}(h:Rep K cA U H d v):Rv K cA U H d v:=by
 cases h with
 |fl h r=>exact⟨_,_,rfl,h.tH,r⟩
 |non=>exact .non
 |bl b=>exact .bl b
 |int b=>exact .int b
 |str b=>exact .str b
 |tup h r=>exact .tup h r
 |fd h n=>exact .fd h n
 |exc h r=>exact .exc h r
 |ob h r=>exact .ob h r
 |any v=>exact .any v
theorem Run.bd{α β:Type}{m:M α}{k:α->M β}{P:β->S->Ph->Hp->Prop}{Ee:Nat->List D->S->Ph->Hp->Prop}(h:Run K cA (M.bd m k) U H s P Ee):Run K cA m U H s (λa s1 U1 H1=>Ext U H U1 H1/\aF K cA U1 H1 s1/\Run K cA (k a) U1 H1 s1 P Ee) Ee:=by
 unfold Run M.bd at *;cases e:m s with
 |none=>rw[e] at h;exact h
 |some r=>
  obtain⟨r,s1⟩:=r;rw[e] at h;cases r with
  |er c f=>exact h
  |ok a=>
   intro U1 H1 x1 r1;refine⟨x1,r1,?_⟩;dsimp only at h ⊢;cases e2:k a s1 with
   |none=>rw[e2] at h;exact h
   |some q=>
    obtain⟨q,s2⟩:=q;rw[e2] at h;cases q with
    |ok b=>exact λU2 H2 x2 r2=>h U2 H2 (x1.trans x2) r2
    |er c f=>exact λU2 H2 x2 r2=>h U2 H2 (x1.trans x2) r2
theorem Run.imp{α:Type}{m:M α}{P P':α->S->Ph->Hp->Prop}{Ee:Nat->List D->S->Ph->Hp->Prop}(h:Run K cA m U H s P Ee)(f:∀a s' U' H',P a s' U' H'->P' a s' U' H'):Run K cA m U H s P' Ee:=by
 unfold Run at *;split at h
 ·exact λU' H' x r=>f _ _ _ _ (h U' H' x r)
 ·exact h
 ·exact h
theorem Run.ext(x:Ext U H U' H')(h:Run K cA m U H s P Ee):Run K cA m U' H' s P Ee:=by
 unfold Run at *;split at h
 ·exact λU2 H2 y r=>h U2 H2 (x.trans y) r
 ·exact λU2 H2 y r=>h U2 H2 (x.trans y) r
 ·exact h.elim
theorem Run.bG{α:Type}{a:α}{P:α->S->Ph->Hp->Prop}{Ee:Nat->List D->S->Ph->Hp->Prop}(r:aF K cA U H s)(h:Run K cA (M.ret a) U H s P Ee):P a s U H:=h U H Ext.refl r
theorem Run.opt{α:Type}{o:Option α}{P:α->S->Ph->Hp->Prop}{Ee:Nat->List D->S->Ph->Hp->Prop}(r:aF K cA U H s)(h:Run K cA (M.opt o) U H s P Ee):∃a,o=some a/\P a s U H:=by
 cases o with
 |none=>exact h.elim
 |some a=>exact⟨a,rfl,h U H Ext.refl r⟩
theorem M4(h:Run K cA (M.bd (M.opt o) k) U H s P Ee):∃a,o=some a/\Run K cA (k a) U H s P Ee:=by
 cases o with
 |none=>exact h.elim
 |some a=>exact⟨a,rfl,h⟩
theorem Jq{β:Type}{x:Xv}{v:V}{k:Bool->M β}{P:β->S->Ph->Hp->Prop}{Ee:Nat->List D->S->Ph->Hp->Prop}(r:bw K cA U H x v)(h:Run K cA (M.bd (bool x) k) U H s P Ee):∃b,x=.d (.bl b)/\v=.bl b/\Run K cA (k b) U H s P Ee:=by
 cases r with
 |l _=>exact h.elim
 |d r=>cases r with
  |bl b=>exact⟨b,rfl,rfl,h⟩
  |_=>exact h.elim
theorem Jr(r:bw K cA U H x v)(h:Run K cA (M.bd (int x) k) U H s P Ee):∃b,x=.d (.int b)/\v=.int b/\Run K cA (k b) U H s P Ee:=by
 cases r with
 |l _=>exact h.elim
 |d r=>cases r with
  |int b=>exact⟨b,rfl,rfl,h⟩
  |_=>exact h.elim
theorem M5(r:bw K cA U H x v)(h:Run K cA (M.bd (dat x) k) U H s P Ee):∃d,x=.d d/\Rep K cA U H d v/\Run K cA (k d) U H s P Ee:=by
 cases r with
 |l _=>exact h.elim
 |d r=>exact⟨_,rfl,r,h⟩
theorem Js:∀{xs:List Xv} {vs:List V} {k:List D->M β} {P:β->S->Ph->Hp->Prop} {Ee:Nat->List D->S->Ph->Hp->Prop},aP K cA U H xs vs->Run K cA (M.bd (bM xs) k) U H s P Ee->∃ds,xs=ds.map .d/\aC K cA U H ds vs/\Run K cA (k ds) U H s P Ee:=by
 intro xs
 induction xs with
 |nil=>intro vs k P Ee r h;cases r;exact⟨[],rfl,.nil,h⟩
 |cons x xs ih=>
  intro vs k P Ee r h;cases r with
  |cons a r=>
   cases a with
   |l _=>exact h.elim
   |@d y v a=>
    have h2:Run K cA (M.bd (bM xs) λds=>k (y::ds)) U H s P Ee:=by
     unfold Run M.bd bM dat at h;unfold Run M.bd;simp only[M.bd,M.ret] at h;cases e:bM xs s with
     |none=>simp only[e] at h
     |some q=>
      obtain⟨q,s1⟩:=q;simp only[e] at h;cases q with
      |ok ds=>exact h
      |er c f=>exact h
    obtain⟨ds,e,rs,h3⟩:=ih r h2;exact⟨y::ds,by rw[e];rfl,.cons a rs,h3⟩
theorem Jt(hS:aF K cA U H s)(r:bw K cA U H x v)(h:Run K cA (M.bd (rd x) k) U H s P Ee):∃d,Rv K cA U H d v/\Run K cA (k d) U H s P Ee:=by
 cases r with
 |d r=>exact⟨_,r.rv,h⟩
 |@l n a hl=>
  unfold Run M.bd rd at h;dsimp only at h;cases e:s[n]? with
  |none=>rw[e] at h;exact h.elim
  |some o=>
   rw[e] at h;cases o with
   |lst xs=>
    obtain⟨vs,q1,q2⟩:=hS.obj n _ _ e hl;exact⟨.fl xs,⟨a,vs,rfl,cO.of q1,q2⟩,h⟩
   |_=>exact h.elim
theorem jL{α β γ:Type}(m:M α)(f:α->M β)(g:β->M γ):M.bd (M.bd m f) g=M.bd m λx=>M.bd (f x) g:=by
 funext s
 unfold M.bd;cases m s with
 |none=>rfl
 |some r=>
  obtain⟨r,s1⟩:=r;cases r<;>rfl
theorem uO{β:Type}:∀{xs:List Xv} {vs:List V} {k:List D->M β} {P:β->S->Ph->Hp->Prop} {Ee:Nat->List D->S->Ph->Hp->Prop},aF K cA U H s->aP K cA U H xs vs->Run K cA (M.bd (gO xs) k) U H s P Ee->∃ds,xM K cA U H ds vs/\Run K cA (k ds) U H s P Ee:=by
 intro xs
 induction xs with
 |nil=>intro vs k P Ee hS r h;cases r;exact⟨[],.nil,h⟩
 |cons x xs ih=>
  intro vs k P Ee hS r h;cases r with
  |cons a r=>
   have h2:Run K cA (M.bd (rd x) λd=>M.bd (gO xs) λds=>k (d::ds)) U H s P Ee:=by
    have e:M.bd (gO (x::xs)) k=M.bd (rd x) λd=>M.bd (gO xs) λds=>k (d::ds):=by
     show M.bd (M.bd (rd x) λd=>M.bd (gO xs) λds=>M.ret (d::ds)) k=_;rw[jL]
     congr 1
     funext d
     rw[jL];rfl
    rw[e] at h;exact h
   obtain⟨d,rd,h3⟩:=Jt hS a h2;obtain⟨ds,rs,h4⟩:=ih hS r h3;exact⟨d::ds,.cons rd rs,h4⟩
theorem tK{fz:Bool}{o:Option Rz}{Q:VK}{Ee:Nat->List D->S->Ph->Hp->Prop}(hS:aF K cA U H s)(h:Run K cA (cG fz o) U H s (λx _ U' H'=>∀v,bw K cA U' H' x v->Q v H') Ee):bD K cA U H o Q:=by
 cases o with
 |none=>exact h.elim
 |some z=>
  cases z with
  |dat d=>exact λH' v g r=>h U H' g.ext (hS.grow g) v (.d r)
  |nw xs=>
   intro p vs hp r;cases fz with
   |true=>exact h U _ (aY.new hp).ext (hS.grow (aY.new hp)) _ (.d (.fl (LstAt.new (hS.nz hp)) (r.mono (aY.new hp).ext hS.lz)))
   |false=>exact h (U.add p) _ (Ext.add hp) (hS.add hp r) _ (.l (by show (U.l++[p])[s.length]?=_;rw[<-hS.len];simp))
theorem zig{fz:Bool}{xs:List D}{Q:VK}{Ee:Nat->List D->S->Ph->Hp->Prop}(hS:aF K cA U H s)(h:Run K cA (newL fz xs) U H s (λx _ U' H'=>∀v,bw K cA U' H' x v->Q v H') Ee):∀p vs,H p=none->aC K cA U H xs vs->Q (.ref p) (upd H p (.lst vs)):=
 tK (o:=some (.nw xs)) hS h
theorem bB{β:Type}{ma:Vs->M Xv}{k:Xv->M β}{P:β->S->Ph->Hp->Prop}(hL:aZ K cA U H Z J)(hS:aF K cA U H s)(h:Run K cA (M.bd (ma J) k) U H s P (eX K cA EX Z)){Q:VK}
  (f:∀x H1 U1 d s1,Ext U H U1 H1->aZ K cA U1 H1 Z J->aF K cA U1 H1 s1->bw K cA U1 H1 d x->Run K cA (k d) U1 H1 s1 P (eX K cA EX Z)->Q x H1):tE K cA EX ma Z H Q:=
 ⟨U,J,s,hL,hS,h.bd.imp λd s1 U1 H1 ⟨x1,r1,h1⟩ v rv=>f v H1 U1 d s1 x1 (hL.mono x1 hS.lz) r1 rv h1⟩
theorem oM{β:Type}{ma:Vs->M (List Xv)}{k:List Xv->M β}{P:β->S->Ph->Hp->Prop}(hL:aZ K cA U H Z J)(hS:aF K cA U H s)(h:Run K cA (M.bd (ma J) k) U H s P (eX K cA EX Z)){Q:List V->Hp->Prop}
  (f:∀x H1 U1 d s1,Ext U H U1 H1->aZ K cA U1 H1 Z J->aF K cA U1 H1 s1->aP K cA U1 H1 d x->Run K cA (k d) U1 H1 s1 P (eX K cA EX Z)->Q x H1):Sq K cA EX ma Z H Q:=
 ⟨U,J,s,hL,hS,h.bd.imp λd s1 U1 H1 ⟨x1,r1,h1⟩ v rv=>f v H1 U1 d s1 x1 (hL.mono x1 hS.lz) r1 rv h1⟩
theorem xO(hL:aZ K cA U H Z J)(hS:aF K cA U H s)(h:Run K cA (M.bd (ma J) k) U H s P (eX K cA EX Z))
  (f:∀b H1 U1 s1,Ext U H U1 H1->aZ K cA U1 H1 Z J->aF K cA U1 H1 s1->Run K cA (k b) U1 H1 s1 P (eX K cA EX Z)->Q b H1):wj K cA EX ma Z H Q:=
 ⟨U,J,s,hL,hS,h.bd.imp λd s1 U1 H1 ⟨x1,r1,h1⟩=>f d H1 U1 s1 x1 (hL.mono x1 hS.lz) r1 h1⟩
end
section
variable (X:Cx)(cA:Cl)(aq:Nat->Nat->Bool)(aj:Bool)(F:Fn)(EX:XS)
def SE(e:Expr)(m:E):Prop:=PE X e (tE X.K cA EX (ev aq aj F m))
def SA(es:List Expr)(m:Es):Prop:=PA X es (Sq X.K cA EX (evs aq aj F m))
def ST(e:Expr)(m:E):Prop:=PT X e (wj X.K cA EX (λJ=>M.bd (ev aq aj F m J) bool))
def SW(e:Expr)(m:E):Prop:=PW X e (wj X.K cA EX (λJ=>M.bd (ev aq aj F m J) bool))
end
section
variable {X:Cx}{cA:Cl}{aq:Nat->Nat->Bool}{aj:Bool}{F:Fn}{EX:XS}{a b c d e:Expr}{A B C Dd E':E}{pos:Pos}{es:List Expr}{Xs:Es}{fz:Bool}{p:Pr}
theorem PE.weak{t t':TE}(h:PE X e t)(f:∀Z H Q,t' Z H Q->t Z H Q):PE X e t':=λao s Z H Q I q=>h ao s Z H Q I (f Z H Q q)
theorem PT.weak{t t':TT}(h:PT X e t)(f:∀Z H Q,t' Z H Q->t Z H Q):PT X e t':=λao s Z H Q I q=>h ao s Z H Q I (f Z H Q q)
theorem PW.weak{t t':TT}(h:PW X e t)(f:∀Z H Q,t' Z H Q->t Z H Q):PW X e t':=λwh ao s Z H Q I q=>h wh ao s Z H Q I (f Z H Q q)
theorem PA.weak{t t':TA}(h:PA X es t)(f:∀Z H Q,t' Z H Q->t Z H Q):PA X es t':=λp ao s Z H Q I q=>h p ao s Z H Q I (f Z H Q q)
theorem zm3{i j p}:SE X cA aq aj F EX (.Constant (.int i) j p) (.c (.int i)):=PE.weak W4 λZ H Q hh=>un hh λU J s hL hS h=>h.bG hS _ (.d (.int i))
theorem zot{i j p}:SE X cA aq aj F EX (.Constant (.bool i) j p) (.c (.bl i)):=PE.weak znW λZ H Q hh=>un hh λU J s hL hS h=>h.bG hS _ (.d (.bl i))
theorem zlY{j p}:SE X cA aq aj F EX (.Constant .none j p) (.c .non):=PE.weak zkZ λZ H Q hh=>un hh λU J s hL hS h=>h.bG hS _ (.d .non)
theorem zne{i j p}:SE X cA aq aj F EX (.Constant (.str i) j p) (.c (.str i)):=PE.weak W5 λZ H Q hh=>un hh λU J s hL hS h=>h.bG hS _ (.d (.str i))
theorem Ss{α:Type}{o:Option (Option α)}{x:α}(h:o.join=some x):o=some (some x):=by
 cases o with
 |none=>cases h
 |some y=>cases y with
  |none=>cases h
  |some z=>cases h;rfl
theorem YF(i:Nat){x:Str}(hN:X.N[i]?=some x:=by rfl)(hv:P_ X.env.scope x:=by first|exact Or.inl rfl|exact Or.inr (Or.inl rfl)|exact Or.inr (Or.inr rfl))(hd:(x==("__debug__" : Str))=false:=by decide)
  (jJ:(x==("__classdict__" : Str))=false:=by decide):SE X cA aq aj F EX (.Name x pos) (.v i):=PE.weak (W3 hN hv hd jJ) λZ H Q hh=>un hh λU J s hL hS h=>by
 obtain⟨dd,e1,q⟩:=Run.opt hS h;obtain⟨v,q1,q2⟩:=hL.2 i dd (Ss e1);exact⟨v,q1,q v q2⟩
theorem zkb{x:Str}{i:Int}{t:Tok}(hg:Gl X x)(hm:X.mg x=some (.int i t))(hd:(x==("__debug__" : Str))=false:=by decide):SE X cA aq aj F EX (.Name x pos) (.c (.int i)):=PE.weak (W6 (v:=.int i) hg hm ⟨t,rfl⟩ hd) λZ H Q hh=>un hh λU J s hL hS h=>h.bG hS _ (.d (.int i))
theorem zml:SA X cA aq aj F EX [] .nil:=PA.weak Bs λZ H Q hh=>un hh λU J s hL hS h=>h.bG hS _ .nil
theorem zi9(ha:SE X cA aq aj F EX a A)(hr:SA X cA aq aj F EX es Xs)(hs:starEach (a::es) X.env=(false,eval a X.env)::starEach es X.env:=by rfl):SA X cA aq aj F EX (a::es) (.cons A Xs):=PA.weak (v8 ha hr hs) λZ H Q hh=>un hh λU J s hL hS h=>by
 refine bB hL hS h λx H1 U1 d1 s1 x1 hL1 aH r1 h1=>oM hL1 aH h1 λys H2 U2 d2 s2 x2 hL2 aX r2 h2=>h2.bG aX _ (.cons (r1.mono x2 aH.lz) r2)
theorem M6{U U1 U2:Ph}{H1 H2:Hp}{s1 s2:S}{d1 d2:Xv}{x y:V}{Q:VK}{Ee:Nat->List D->S->Ph->Hp->Prop}(x2:Ext U1 H1 U2 H2)(aH:aF X.K cA U1 H1 s1)(aX:aF X.K cA U2 H2 s2)(r1:bw X.K cA U1 H1 d1 x)(r2:bw X.K cA U2 H2 d2 y)
  (h:Run X.K cA (M.bd (gO [d1,d2]) λds=>cG fz (prim p ds)) U2 H2 s2 (λx _ U' H'=>∀v,bw X.K cA U' H' x v->Q v H') Ee) {r:List V->Hp->VK->Prop} (hp:bC X.K cA p r):r [x,y] H2 Q:=by
 obtain⟨ds,rs,h2⟩:=uO aX (.cons (r1.mono x2 aH.lz) (.cons r2 .nil)) h;exact hp U2 H2 ds _ Q aX.zs rs (tK aX h2)
noncomputable def r2(r:R2):List V->Hp->VK->Prop:=λvs H Q=>∃x y,vs=[x,y]/\r x y H Q
theorem Eu{r:R2}{x y:V}{H:Hp}{Q:VK}(h:r2 r [x,y] H Q):r x y H Q:=by
 obtain⟨_,_,e,q⟩:=h;cases e;exact q
theorem zmB{op:Operator}{r:R2}(ho:fj X (binaryOp op) r)(hp:bC X.K cA p (r2 r))(ha:SE X cA aq aj F EX a A)(hb:SE X cA aq aj F EX b B):SE X cA aq aj F EX (.BinOp a op b pos) (.pr fz p (.cons A (.cons B .nil))):=PE.weak (zoj ho ha hb) λZ H Q hh=>un hh λU J s hL hS h=>by
 have h:Run X.K cA (M.bd (M.bd (ev aq aj F A J) λx=>M.bd (M.bd (ev aq aj F B J) λy=>M.bd (M.ret []) λz=>M.ret (y::z)) λys=>M.ret (x::ys)) λvs=>M.bd (gO vs) λds=>cG fz (prim p ds)) U H s _ _:=h;simp only[jL] at h;refine bB hL hS h λx H1 U1 d1 s1 x1 hL1 aH r1 h1=>bB hL1 aH h1 λy H2 U2 d2 s2 x2 hL2 aX r2' h2=>?_;exact Eu (M6 (fz:=fz) (U:=U) x2 aH aX r1 r2' h2 hp)
theorem zmq{op:CmpOp}{r:R2}(ho:fj X (compareOp op) r)(hp:bC X.K cA p (r2 r))(ha:SE X cA aq aj F EX a A)(hb:SE X cA aq aj F EX b B)(hm:behindInMarks op b=false):SE X cA aq aj F EX (.Compare a [op] [b] pos) (.pr true p (.cons A (.cons B .nil))):=PE.weak (zj4 ho ha hb hm) λZ H Q hh=>un hh λU J s hL hS h=>by
 have h:Run X.K cA (M.bd (M.bd (ev aq aj F A J) λx=>M.bd (M.bd (ev aq aj F B J) λy=>M.bd (M.ret []) λz=>M.ret (y::z)) λys=>M.ret (x::ys)) λvs=>M.bd (gO vs) λds=>cG true (prim p ds)) U H s _ _:=h;simp only[jL] at h;refine bB hL hS h λx H1 U1 d1 s1 x1 hL1 aH r1 h1=>bB hL1 aH h1 λy H2 U2 d2 s2 x2 hL2 aX r2' h2=>?_;exact Eu (M6 (fz:=true) (U:=U) x2 aH aX r1 r2' h2 hp)
theorem iT{A B:Prop}(h:A):if true=true then A else B:=by rw[if_pos rfl];exact h
theorem iF{A B:Prop}(h:B):if false=true then A else B:=by rw[if_neg Ga];exact h
theorem zmT{op:CmpOp}{r:R2}(ho:fj X (compareOp op) r)(hp:bC X.K cA p (r2 r))(ha:SE X cA aq aj F EX a A)(hb:SE X cA aq aj F EX b B)(hm:behindInMarks op b=false):ST X cA aq aj F EX (.Compare a [op] [b] pos) (.pr true p (.cons A (.cons B .nil))):=PT.weak (zjq ho ha hb hm) λZ H Q hh=>un hh λU J s hL hS h=>by
 have h:Run X.K cA (M.bd (M.bd (M.bd (ev aq aj F A J) λx=>M.bd (M.bd (ev aq aj F B J) λy=>M.bd (M.ret []) λz=>M.ret (y::z)) λys=>M.ret (x::ys)) λvs=>M.bd (gO vs) λds=>cG true (prim p ds)) bool) U H s _ _:=h;simp only[jL] at h;refine bB hL hS h λx H1 U1 d1 s1 x1 hL1 aH r1 h1=>bB hL1 aH h1 λy H2 U2 d2 s2 x2 hL2 aX r2' h2=>?_;obtain⟨ds,rs,h3⟩:=uO aX (.cons (r1.mono x2 aH.lz) (.cons r2' .nil)) h2;refine Eu (hp U2 H2 ds _ _ aX.zs rs (tK (Ee:=eX X.K cA EX Z) aX (h3.bd.imp λt s3 U3 H3 ⟨x3,lQ,h4⟩ v rv=>?_)));cases rv with
 |l _=>exact h4.elim
 |d rv=>cases rv with
  |bl k=>exact⟨k,rfl,h4 U3 H3 Ext.refl lQ⟩
  |_=>exact h4.elim
theorem zmr{op op':CmpOp}{r r':R2}{q:Pr}(ho:fj X (compareOp op) r)(hp:bC X.K cA p (r2 r))(ud:fj X (compareOp op') r')(YG:bC X.K cA q (r2 r'))(ha:SE X cA aq aj F EX a A)(hb:SE X cA aq aj F EX b B)(hc:SE X cA aq aj F EX c C)(hm:lastMarks [op,op'] [b,c]=false:=by with_unfolding_all rfl) :
  SE X cA aq aj F EX (.Compare a [op,op'] [b,c] pos) (.wg p q A B C):=PE.weak (zhX ho ud ha hb hc hm) λZ H Q hh=>un hh λU J s hL hS h=>by
 refine bB hL hS h λx H1 U1 d1 s1 x1 hL1 aH r1 h1=>bB hL1 aH h1 λy H2 U2 d2 s2 x2 hL2 aX r2' h2=>?_;obtain⟨ds,rs,h3⟩:=uO aX (.cons (r1.mono x2 aH.lz) (.cons r2' .nil)) h2;refine Eu (hp U2 H2 ds _ _ aX.zs rs (tK (Ee:=eX X.K cA EX Z) aX (h3.bd.imp λt s3 U3 H3 ⟨x3,lQ,h4⟩ v rv=>?_)));obtain⟨k,_,e,h5⟩:=Jq rv h4;refine⟨k,e,?_⟩;cases k with
 |false=>exact iF (h5.bG lQ _ (.d (.bl _)))
 |true=>
  have xP:=hL2.mono x3 aX.lz;refine iT (bB xP lQ h5 λz H4 U4 d4 s4 x4 hL4 zB r4 h6=>?_);exact Eu (M6 (fz:=true) (U:=U) x4 lQ zB (r2'.mono x3 aX.lz) r4 h6 YG)
theorem zme(ha:SE X cA aq aj F EX a A):SE X cA aq aj F EX (.UnaryOp .Not a pos) (.not A):=PE.weak (zmz ha) λZ H Q hh=>un hh λU J s hL hS h=>by
 refine bB hL hS h λx H1 U1 d1 s1 x1 hL1 aH r1 h1=>?_;obtain⟨i,_,e,h3⟩:=Jq r1 h1;exact⟨i,e,h3.bG aH _ (.d (.bl _))⟩
theorem zlV{op}(ha:SE X cA aq aj F EX a A):SE X cA aq aj F EX (.BoolOp op [a] pos) A:=zlN ha
theorem zmE{rest:List Expr}(ha:SE X cA aq aj F EX a A)(hb:SE X cA aq aj F EX (.BoolOp .And (b::rest) pos) B):SE X cA aq aj F EX (.BoolOp .And (a::b::rest) pos) (.and A B):=PE.weak (zmZ ha hb) λZ H Q hh=>un hh λU J s hL hS h=>by
 refine bB hL hS h λx H1 U1 d1 s1 x1 hL1 aH r1 h1=>?_;obtain⟨i,_,e,h3⟩:=Jq r1 h1;refine⟨i,e,?_⟩;cases i with
 |true=>exact iT ⟨U1,J,s1,hL1,aH,h3⟩
 |false=>exact iF (h3.bG aH _ (.d (.bl _)))
theorem zoq{rest:List Expr}(ha:SE X cA aq aj F EX a A)(hb:SE X cA aq aj F EX (.BoolOp .Or (b::rest) pos) B):SE X cA aq aj F EX (.BoolOp .Or (a::b::rest) pos) (.or A B):=PE.weak (znV ha hb) λZ H Q hh=>un hh λU J s hL hS h=>by
 refine bB hL hS h λx H1 U1 d1 s1 x1 hL1 aH r1 h1=>?_;obtain⟨i,_,e,h3⟩:=Jq r1 h1;refine⟨i,e,?_⟩;cases i with
 |true=>exact iT (h3.bG aH _ (.d (.bl _)))
 |false=>exact iF ⟨U1,J,s1,hL1,aH,h3⟩
end
section
variable {X:Cx}{cA:Cl}{aq:Nat->Nat->Bool}{aj:Bool}{F:Fn}{EX:XS}{a b c d e o:Expr}{A B C Dd E' O:E}{pos pp p2 apos:Pos}{es:List Expr}{Xs:Es}{fz:Bool}{p:Pr}{x:Str}
theorem zmD(ha:SE X cA aq aj F EX a A)(he:∀whole,isTrue a X.env whole=(do let v <-whole;standAt a.pos;holding [v] (truthy v)):=by intro _;rfl):ST X cA aq aj F EX a A:=PT.weak (zmc ha he) λZ H Q hh=>un hh λU J s hL hS h=>by
 refine bB hL hS h λx H1 U1 d1 s1 x1 hL1 aH r1 h1=>?_;have h1:Run X.K cA (M.bd (bool d1) M.ret) U1 H1 s1 (λd _ U' H'=>Q d H') (eX X.K cA EX Z):=by
  cases d1 with
  |l n=>exact h1
  |d v=>cases v<;>exact h1
 obtain⟨k,_,e,q⟩:=Jq r1 h1;exact⟨k,e,q.bG aH⟩
theorem zh6{m:M Xv}{g:Bool->Bool}:M.bd (M.bd m λx=>M.bd (bool x) λk=>M.ret (Xv.d (.bl (g k)))) bool=M.bd (M.bd m bool) λk=>M.ret (g k):=by
 rw[jL,jL]
 congr 1
 funext x
 rw[jL];rfl
theorem zmN(ha:ST X cA aq aj F EX a A):ST X cA aq aj F EX (.UnaryOp .Not a pos) (.not A):=PT.weak (zm5 ha) λZ H Q hh=>un hh λU J s hL hS h=>by
 have h:Run X.K cA (M.bd (M.bd (ev aq aj F A J) λx=>M.bd (bool x) λk=>M.ret (Xv.d (.bl (!k)))) bool) U H s _ _:=h;rw[zh6 (g:=λk=>!k)] at h;exact xO hL hS h λk H1 U1 s1 x1 hL1 aH h1=>h1.bG aH
theorem zj9(ha:ST X cA aq aj F EX a A):SW X cA aq aj F EX (.BoolOp .And [a] pos) A:=zjm ha
theorem zk7(ha:ST X cA aq aj F EX a A):SW X cA aq aj F EX (.BoolOp .Or [a] pos) A:=zl2 ha
theorem YH{m:M Xv}{k:Bool->M Xv}:M.bd (M.bd m λx=>M.bd (bool x) k) bool=M.bd (M.bd m bool) λb=>M.bd (k b) bool:=by
 rw[jL,jL]
 congr 1
 funext x
 rw[jL]
theorem zk5{rest:List Expr}(ha:ST X cA aq aj F EX a A)(hb:SW X cA aq aj F EX (.BoolOp .And (b::rest) pos) B):SW X cA aq aj F EX (.BoolOp .And (a::b::rest) pos) (.and A B):=PW.weak (znd ha hb) λZ H Q hh=>un hh λU J s hL hS h=>by
 have h:Run X.K cA (M.bd (M.bd (ev aq aj F A J) λx=>M.bd (bool x) λk=>if k=true then ev aq aj F B J else M.ret (Xv.d (.bl false))) bool) U H s _ _:=h;rw[YH] at h;refine xO hL hS h λk H1 U1 s1 x1 hL1 aH h3=>?_;cases k with
 |true=>exact iT ⟨U1,J,s1,hL1,aH,h3⟩
 |false=>exact iF (Run.bG aH (a:=false) h3)
theorem znm{rest:List Expr}(ha:ST X cA aq aj F EX a A)(hb:SW X cA aq aj F EX (.BoolOp .Or (b::rest) pos) B):SW X cA aq aj F EX (.BoolOp .Or (a::b::rest) pos) (.or A B):=PW.weak (znB ha hb) λZ H Q hh=>un hh λU J s hL hS h=>by
 have h:Run X.K cA (M.bd (M.bd (ev aq aj F A J) λx=>M.bd (bool x) λk=>if k=true then M.ret (Xv.d (.bl true)) else ev aq aj F B J) bool) U H s _ _:=h;rw[YH] at h;refine xO hL hS h λk H1 U1 s1 x1 hL1 aH h3=>?_;cases k with
 |true=>exact iT (Run.bG aH (a:=true) h3)
 |false=>exact iF ⟨U1,J,s1,hL1,aH,h3⟩
theorem zpf(h:SW X cA aq aj F EX a A):ST X cA aq aj F EX a A:=Kac h
theorem zjG:(M.bd m λx=>M.bd (bool x) k)=M.bd (M.bd m bool) k:=by rw[jL]
theorem zm1(hc:ST X cA aq aj F EX c C)(ha:SE X cA aq aj F EX a A)(hb:SE X cA aq aj F EX b B):SE X cA aq aj F EX (.IfExp c a b pos) (.ite C A B):=PE.weak (zhY hc ha hb) λZ H Q hh=>un hh λU J s hL hS h=>by
 have h:Run X.K cA (M.bd (ev aq aj F C J) λx=>M.bd (bool x) λk=>if k=true then ev aq aj F A J else ev aq aj F B J) U H s _ _:=h;rw[zjG] at h;refine xO hL hS h λk H1 U1 s1 x1 hL1 aH h3=>?_;cases k with
 |true=>exact iT ⟨U1,J,s1,hL1,aH,h3⟩
 |false=>exact iF ⟨U1,J,s1,hL1,aH,h3⟩
theorem YJ:∀(Xs:Es) (J:Vs) (s:S) (ds:List Xv) (s':S),evs aq aj F Xs J s=some (.ok ds,s')->ds.length=Es.len Xs
 |.nil,J,s,ds,s',h=>by cases h;rfl
 |.cons a r,J,s,ds,s',h=>by
  have h:M.bd (ev aq aj F a J) (λx=>M.bd (evs aq aj F r J) λxs=>M.ret (x::xs)) s=some (.ok ds,s'):=h;unfold M.bd at h;cases e1:ev aq aj F a J s with
  |none=>rw[e1] at h;cases h
  |some q=>
   obtain⟨q,s1⟩:=q;rw[e1] at h;cases q with
   |er c f=>cases h
   |ok d=>
    dsimp only at h;cases e2:evs aq aj F r J s1 with
    |none=>rw[e2] at h;cases h
    |some q=>
     obtain⟨q,s2⟩:=q;rw[e2] at h;cases q with
     |er c f=>cases h
     |ok ds'=>
      cases h;rw[fK,YJ r J s1 ds' _ e2];rfl
theorem xQ{β:Type}{K:W.Frag}{U:Ph}{H:Hp}{s:S}{Z:L2.St}{J:Vs}{k:List Xv->M β}{P:β->S->Ph->Hp->Prop}(hL:aZ K cA U H Z J)(hS:aF K cA U H s)(h:Run K cA (M.bd (evs aq aj F Xs J) k) U H s P (eX K cA EX Z)){Q:List V->Hp->Prop}
  (f:∀x H1 U1 d s1,d.length=Es.len Xs->Ext U H U1 H1->aZ K cA U1 H1 Z J->aF K cA U1 H1 s1->aP K cA U1 H1 d x->Run K cA (k d) U1 H1 s1 P (eX K cA EX Z)->Q x H1):Sq K cA EX (evs aq aj F Xs) Z H Q:=by
 refine⟨U,J,s,hL,hS,?_⟩;have h2:=h.bd;unfold Run at h2 ⊢;cases e:evs aq aj F Xs J s with
 |none=>rw[e] at h2;exact h2
 |some r=>
  obtain⟨r,s1⟩:=r;rw[e] at h2;cases r with
  |er c f=>exact h2
  |ok ds=>
   intro U1 H1 x1 r1 v rv;obtain⟨_,_,h3⟩:=h2 U1 H1 x1 r1;exact f v H1 U1 ds s1 (YJ Xs J s ds s1 e) x1 (hL.mono x1 hS.lz) r1 rv h3
theorem zl8{k}(ha:SA X cA aq aj F EX es Xs)(hz:Es.len Xs<=sizeLine):SE X cA aq aj F EX (.Tuple es k pos) (.tup Xs):=PE.weak (zmO ha) λZ H Q hh=>un hh λU J s hL hS h=>by
 refine xQ hL hS h λvs H1 U1 xs s1 hl x1 hL1 aH rv h1=>?_;obtain⟨ds,e,rs,h2⟩:=Js rv h1;refine⟨by rw[<-rv.len,hl];exact hz,λp hp=>?_⟩;exact h2 U1 (upd H1 p (.tup vs)) (aY.new hp).ext (aH.grow (aY.new hp)) _ (.d (.tup (TupAt.new (aH.nz hp)) (rs.mono (aY.new hp).ext aH.lz)))
theorem znf(ha:SA X cA aq aj F EX es Xs)(hz:Es.len Xs<=sizeLine):SE X cA aq aj F EX (.List es pos) (.lst fz Xs):=PE.weak (zmg ha) λZ H Q hh=>un hh λU J s hL hS h=>by
 refine xQ hL hS h λvs H1 U1 xs s1 hl x1 hL1 aH rv h1=>?_;obtain⟨ds,e,rs,h2⟩:=Js rv h1;exact⟨by rw[<-rv.len,hl];exact hz,λp hp=>zig aH h2 p vs hp rs⟩
theorem zE{id:String}{r:List V->Hp->VK->Prop}(hc:cX X (.builtin id) r)(hp:bC X.K cA p r)
  (hg:Gl X x) (hm:X.mg x=none) (hv:bootBuiltins x=some (.builtin id)) (ha:SA X cA aq aj F EX (e::es) Xs) (hn:x≠"__name__":=by decide) (jx:(x==("__debug__" : Str))=false:=by decide)
  (he:starEach (e::es) X.env=(false,eval e X.env)::starEach es X.env:=by rfl) (hpl:(backTo pos (starEach es X.env)).any (·.1)=false:=by rfl):SE X cA aq aj F EX (.Call (.Name x pp) (e::es) [] pos) (.pr fz p Xs):=PE.weak (Xp hc hg hm hv ha hn jx he hpl) λZ H Q hh=>un hh λU J s hL hS h=>
 oM hL hS h λvs H1 U1 ds s1 x1 hL1 aH r1 h1=>by
  obtain⟨ds,rs,h3⟩:=uO aH r1 h1;exact hp U1 H1 ds _ _ aH.zs rs (tK aH h3)
theorem Sv{id:String}{r:List V->Hp->VK->Prop}(hc:cX X (.type id) r)(hp:bC X.K cA p r)
  (hg:Gl X x) (hm:X.mg x=none) (hv:bootBuiltins x=some (.type id)) (ha:SA X cA aq aj F EX (e::es) Xs) (hn:x≠"__name__":=by decide) (jx:(x==("__debug__" : Str))=false:=by decide)
  (he:starEach (e::es) X.env=(false,eval e X.env)::starEach es X.env:=by rfl) (hpl:(backTo pos (starEach es X.env)).any (·.1)=false:=by rfl):SE X cA aq aj F EX (.Call (.Name x pp) (e::es) [] pos) (.pr fz p Xs):=PE.weak (zf7 hc hg hm hv ha hn jx he hpl) λZ H Q hh=>un hh λU J s hL hS h=>
 oM hL hS h λvs H1 U1 ds s1 x1 hL1 aH r1 h1=>by
  obtain⟨ds,rs,h3⟩:=uO aH r1 h1;exact hp U1 H1 ds _ _ aH.zs rs (tK aH h3)
theorem zof(hp:bC X.K cA p (r2 (QX X.K)))(ha:SE X cA aq aj F EX a A)(hb:SE X cA aq aj F EX b B)(hs:qQ b:=by intro _ _;rfl):SE X cA aq aj F EX (.Subscript a b pos) (.pr true p (.cons A (.cons B .nil))):=PE.weak (zop zlp ha hb hs) λZ H Q hh=>un hh λU J s hL hS h=>by
 have h:Run X.K cA (M.bd (M.bd (ev aq aj F A J) λx=>M.bd (M.bd (ev aq aj F B J) λy=>M.bd (M.ret []) λz=>M.ret (y::z)) λys=>M.ret (x::ys)) λvs=>M.bd (gO vs) λds=>cG true (prim p ds)) U H s _ _:=h;simp only[jL] at h;refine bB hL hS h λx H1 U1 d1 s1 x1 hL1 aH r1 h1=>bB hL1 aH h1 λy H2 U2 d2 s2 x2 hL2 aX r2' h2=>?_;exact Eu (M6 (fz:=true) (U:=U) x2 aH aX r1 r2' h2 hp)
theorem zn5(ho:Mf X (unaryOp op) r)(hp:bC X.K cA p (λvs H Q=>∃x,vs=[x]/\r x H Q))(ha:SE X cA aq aj F EX a A):SE X cA aq aj F EX (.UnaryOp op a pos) (.pr true p (.cons A .nil)):=PE.weak (znt ho ha) λZ H Q hh=>un hh λU J s hL hS h=>by
 have h:Run X.K cA (M.bd (M.bd (ev aq aj F A J) λx=>M.bd (M.ret []) λz=>M.ret (x::z)) λvs=>M.bd (gO vs) λds=>cG true (prim p ds)) U H s _ _:=h;simp only[jL] at h;refine bB hL hS h λx H1 U1 d1 s1 x1 hL1 aH r1 h1=>?_;obtain⟨ds,rs,h3⟩:=uO aH (.cons r1 .nil) h1;obtain⟨_,e,q⟩:=hp U1 H1 ds _ _ aH.zs rs (tK aH h3);cases e;exact q
theorem zli{j p'}(ha:SE X cA aq aj F EX a A):SE X cA aq aj F EX (.Compare a [.Is] [.Constant .none j p'] pos) (.pr true .qX (.cons A .nil)):=PE.weak (W9 (W7 ha)) λZ H Q hh=>un hh λU J s hL hS h=>by
 have h:Run X.K cA (M.bd (M.bd (ev aq aj F A J) λx=>M.bd (M.ret []) λz=>M.ret (x::z)) λvs=>M.bd (gO vs) λds=>cG true (prim .qX ds)) U H s _ _:=h;simp only[jL] at h;refine bB hL hS h λx H1 U1 d1 s1 x1 hL1 aH r1 h1=>?_;obtain⟨ds,rs,h3⟩:=uO aH (.cons r1 .nil) h1;cases rs with
 |cons r rs=>cases rs with
  |nil=>
   rename_i d;have h4:=tK aH h3;have q:=h4 H1 _ aY.refl (.bl _);cases d<;>first
    |(obtain⟨_,_,rfl,_,_⟩:=r;exact q)
    |(cases (show Rep _ _ _ _ _ x from r)<;>exact q)
theorem zkv{j p'}(ha:SE X cA aq aj F EX a A):SE X cA aq aj F EX (.Compare a [.IsNot] [.Constant .none j p'] pos) (.pr true .uJ (.cons A .nil)):=PE.weak (W9 (W8 ha)) λZ H Q hh=>un hh λU J s hL hS h=>by
 have h:Run X.K cA (M.bd (M.bd (ev aq aj F A J) λx=>M.bd (M.ret []) λz=>M.ret (x::z)) λvs=>M.bd (gO vs) λds=>cG true (prim .uJ ds)) U H s _ _:=h;simp only[jL] at h;refine bB hL hS h λx H1 U1 d1 s1 x1 hL1 aH r1 h1=>?_;obtain⟨ds,rs,h3⟩:=uO aH (.cons r1 .nil) h1;cases rs with
 |cons r rs=>cases rs with
  |nil=>
   rename_i d;have h4:=tK aH h3;have q:=h4 H1 _ aY.refl (.bl _);cases d<;>first
    |(obtain⟨_,_,rfl,_,_⟩:=r;exact q)
    |(cases (show Rep _ _ _ _ _ x from r)<;>exact q)
theorem YK(q:Pr)(hq:prim q=Cg f)(hh:wj X.K cA EX (λJ=>M.bd (ev aq aj F (.pr true q (.cons A .nil)) J) bool) Z H Q):tE X.K cA EX (ev aq aj F A) Z H λx H1=>Q (f (decide (x=.non))) H1:=un hh λU J s hL hS h=>by
 have h:Run X.K cA (M.bd (M.bd (M.bd (ev aq aj F A J) λx=>M.bd (M.ret []) λz=>M.ret (x::z)) λvs=>M.bd (gO vs) λds=>cG true (prim q ds)) bool) U H s _ _:=h;simp only[jL] at h;refine bB hL hS h λx H1 U1 d1 s1 x1 hL1 aH r1 h1=>?_;obtain⟨ds,rs,h3⟩:=uO aH (.cons r1 .nil) h1;cases rs with
 |cons r rs=>cases rs with
  |nil=>
   rename_i d;rw[hq] at h3;have h4:Run X.K cA (M.bd (M.ret (Xv.d (.bl (f d.iB)))) bool) U1 H1 s1 (λd _ U' H'=>Q d H') (eX X.K cA EX Z):=h3;have q:=h4 U1 H1 Ext.refl aH;cases d<;>first
    |(obtain⟨_,_,rfl,_,_⟩:=r;exact q)
    |(cases (show Rep _ _ _ _ _ x from r)<;>exact q)
theorem zlF{j p'}(ha:SE X cA aq aj F EX a A):ST X cA aq aj F EX (.Compare a [.Is] [.Constant .none j p'] pos) (.pr true .qX (.cons A .nil)):=PT.weak (Qj (W7 ha)) λZ H Q hh=>by
 have:=YK .qX (f:=id) rfl hh;obtain⟨U,J,s,a,b,c⟩:=this;exact⟨U,J,s,a,b,c.imp λd s' U' H' k v rv=>⟨_,rfl,k v rv⟩⟩
theorem zjx{j p'}(ha:SE X cA aq aj F EX a A):ST X cA aq aj F EX (.Compare a [.IsNot] [.Constant .none j p'] pos) (.pr true .uJ (.cons A .nil)):=PT.weak (Qj (W8 ha)) λZ H Q hh=>by
 have:=YK .uJ (f:=not) rfl hh;obtain⟨U,J,s,a,b,c⟩:=this;exact⟨U,J,s,a,b,c.imp λd s' U' H' k v rv=>⟨_,rfl,k v rv⟩⟩
theorem zia{K:W.Frag}{U:Ph}{H:Hp}{s:S}{x:Xv}{v:V}{Q:Bool->Hp->Prop}{Ee:Nat->List D->S->Ph->Hp->Prop}(hS:aF K cA U H s)(r:bw K cA U H x v)(h:Run K cA (bool x) U H s (λd _ U' H'=>Q d H') Ee):∃k,v=.bl k/\Q k H:=by
 cases r with
 |l _=>exact h.elim
 |d rv=>cases rv with
  |bl k=>exact⟨k,rfl,h U H Ext.refl hS⟩
  |_=>exact h.elim
end
mutual
inductive Is (h:Heap):D->Value->Prop where
 |non:Is h .non .none
 |bl (b:Bool):Is h (.bl b) (.bool b)
 |int (i:Int) (t:Tok):Is h (.int i) (.int i t)
 |str (x:Str) (t:Tok):Is h (.str x) (.str x t)
 |tup {a:Addr} {xs:List D} {its:List Value} (p:h.IsTuple a its.toArray) (r:jC h xs its):Is h (.tup xs) (.ref a)
 |fl {a:Addr} {xs:List D} {its:List Value} (p:h.IsList a its.toArray) (r:jC h xs its):Is h (.fl xs) (.ref a)
 |oth {d:D} {u:Value} (k:kq d=none):Is h d u
inductive jC (h:Heap):List D->List Value->Prop where
 |nil:jC h [] []
 |cons {d:D} {u:Value} {ds:List D} {us:List Value} (a:Is h d u) (r:jC h ds us):jC h (d::ds) (u::us)
end
section
variable {X:Cx}{cA:Cl}{ao:List (Addr×Obj)}{Z:L2.St}{H:Hp}{s:Shared}{U:Ph}{h:Heap}
theorem Sw(I:Inv X ao Z H s){ds:List D}{vs:List V}{us:List Value}(h:aC X.K cA U H ds vs)(r:Vals vs us):jC s.heap ds us:=
 aC.rec (motive_1:=λd v _=>∀{u:Value},RelV v u->Is s.heap d u) (motive_2:=λd v _=>∀{u:List Value},Vals v u->jC s.heap d u) (λr=>by cases r;exact .non) (λb _ r=>by cases r;exact .bl b) (λi _ r=>by obtain⟨t,rfl⟩:=r;exact .int i t) (λi _ r=>by obtain⟨t,rfl⟩:=r;exact .str i t)
 (λh _ ih _ r=>by
  cases r;obtain⟨its,rv,ht,_⟩:=I.tuple h.jm;exact .tup ht (ih rv))
 (λh _ ih _ r=>by
  cases r;obtain⟨its,rv,ht,_⟩:=I.list h.tH;exact .fl ht.isList (ih rv))
 (λ_ _ _ _=>.oth rfl) (λ_ _ _ _ _=>.oth rfl) (λ_ _ _ _ _=>.oth rfl) (λ_ _ _=>.oth rfl)
 (λr=>by cases r;exact .nil)
 (λ_ _ i j _ r=>by
  cases r with
  |cons a b=>exact .cons (i a) (j b)) h r
theorem rY(I:Inv X ao Z H s){d:D}{v:V}{u:Value}(h:Rep X.K cA U H d v)(r:RelV v u):Is s.heap d u:=by
 cases h with
 |non=>cases r;exact .non
 |bl b=>cases r;exact .bl b
 |int i=>obtain⟨t,rfl⟩:=r;exact .int i t
 |str i=>obtain⟨t,rfl⟩:=r;exact .str i t
 |tup h q=>
  cases r;obtain⟨its,rv,ht,_⟩:=I.tuple h.jm;exact .tup ht (Sw I q rv)
 |fl h q=>
  cases r;obtain⟨its,rv,ht,_⟩:=I.list h.tH;exact .fl ht.isList (Sw I q rv)
 |fd _ _=>exact .oth rfl
 |exc _ _=>exact .oth rfl
 |ob _ _=>exact .oth rfl
 |any _=>exact .oth rfl
theorem zF(I:Inv X ao Z H s){d:D}{v:V}{u:Value}(q:Rv X.K cA U H d v)(r:RelV v u):Is s.heap d u:=by
 cases d with
 |fl xs=>
  obtain⟨a,vs,rfl,sq,rs⟩:=q;cases r;obtain⟨its,rv,ht,_⟩:=I.list sq;exact .fl ht.isList (Sw I rs rv)
 |non=>exact rY I q r
 |bl b=>exact rY I q r
 |int b=>exact rY I q r
 |str b=>exact rY I q r
 |tup b=>exact rY I q r
 |fd b c=>exact rY I q r
 |exc b c=>exact rY I q r
 |ob b c=>exact rY I q r
 |any=>exact rY I q r
theorem jC.len:∀{ds:List D} {us:List Value},jC h ds us->ds.length=us.length
 |_,_,.nil=>rfl
 |_,_,.cons _ r=>by rw[fK,fK,jC.len r]
theorem jC.get:∀{ds:List D} {us:List Value} {i:Nat} {d:D},jC h ds us->ds[i]?=some d->∃u,us[i]?=some u/\Is h d u
 |_,_,_,_,.nil,e=>by simp at e
 |_,_,0,_,.cons h _,e=>by simp at e;subst e;exact⟨_,rfl,h⟩
 |_,_,i+1,d,.cons _ r,e=>by
  obtain⟨v,a,b⟩:=jC.get (i:=i) (d:=d) r (by simpa using e);exact⟨v,by simpa using a,b⟩
theorem YL{a:Addr}{is js:Array Value}(p:h.IsTuple a is)(q:h.IsTuple a js):is=js:=by
 obtain⟨o,e,c,n,d⟩:=p;obtain⟨o',e',c',n',d'⟩:=q;rw[e] at e';cases e';rw[d] at d';cases d';rfl
theorem YM{a:Addr}{is js:Array Value}(p:h.IsList a is)(q:h.IsList a js):is=js:=by
 obtain⟨o,e,c,n,d⟩:=p;obtain⟨o',e',c',n',d'⟩:=q;rw[e] at e';cases e';rw[d] at d';cases d';rfl
theorem wu{a:Addr}{is js:Array Value}(p:h.IsList a is)(q:h.IsTuple a js):False:=by
 obtain⟨o,e,c,n,d⟩:=p;obtain⟨o',e',c',n',d'⟩:=q;rw[e] at e';cases e';rw[c] at c';exact absurd c' (by simp)
theorem Ju{eq:D->D->Option Bool}:∀{xs ys:List D} {b:Bool},dX eq xs ys=some b->∃e:Nat->Bool,(∀(j:Nat) x y,xs[j]?=some x->ys[j]?=some y->eq x y=some (e j))/\b=((List.range (min xs.length ys.length)).all e&&xs.length==ys.length)
 |[],[],b,h=>by cases h;exact⟨λ_=>true,λj x y q=>by simp at q,by simp⟩
 |[],y::ys,b,h=>by cases h;exact⟨λ_=>true,λj x y q=>by simp at q,by simp⟩
 |x::xs,[],b,h=>by cases h;exact⟨λ_=>true,λj x y q r=>by simp at r,by simp⟩
 |x::xs,y::ys,b,h=>by
  simp only[dX] at h;cases e1:eq x y with
  |none=>rw[e1] at h;cases h
  |some a=>
   cases e2:dX eq xs ys with
   |none=>rw[e1,e2] at h;cases h
   |some c=>
    rw[e1,e2] at h;cases h;obtain⟨e,h1,h2⟩:=Ju e2;refine⟨λj=>match j with|0=>a|j+1=>e j,λj p q r1 r2=>?_,?_⟩
    ·cases j with
     |zero=>
      simp at r1 r2;subst r1 r2;exact e1
     |succ j=>exact h1 j p q (by simpa using r1) (by simpa using r2)
    ·rw[h2];simp only[fK,Nat.succ_min_succ,Pg,yM,Gs,Function.comp_def];rw[Bool.and_assoc]
     congr 2
     simp
theorem jo{n:Nat}{d e:D}(k:kq d=none):cY n d e=none:=by
 cases n<;>cases d<;>first|cases k;done|(cases e<;>rfl)
theorem g_{n:Nat}{d e:D}(k:kq e=none):cY n d e=none:=by
 cases n<;>cases e<;>first|cases k;done|(cases d<;>rfl)
theorem Sx:∀(n:Nat) {d1 d2:D} {u:Value} {b:Bool},Is h d1 u->Is h d2 u->cY n d1 d2=some b->b=true:=by
 intro n;have rows:∀(n:Nat),(∀{d1 d2:D} {u:Value} {b:Bool},Is h d1 u->Is h d2 u->cY n d1 d2=some b->b=true)->∀{xs ys:List D} {is js:List Value} {b:Bool},jC h xs is->jC h ys js->is.toArray=js.toArray->dX (cY n) xs ys=some b->b=true:=by
  intro n ih xs ys is js b q1 q2 e hd;have e:is=js:=by simpa using e
  subst e;obtain⟨e,a1,a2⟩:=Ju (eq:=cY n) hd;rw[a2];have hl:_=_:=q1.len.trans q2.len.symm;rw[eY];refine⟨iY.mpr λj hj=>?_,by rw[hl];simp⟩;have hj:=vQ.mp hj;obtain⟨x,hx⟩ : ∃x,_=some x:=⟨_,dj (gJ hj (Nat.min_le_left _ _))⟩;obtain⟨y,hy⟩ : ∃y,_=some y:=⟨_,dj (gJ hj (Nat.min_le_right _ _))⟩;obtain⟨v1,e1,p1⟩:=q1.get hx;obtain⟨v2,e2,p2⟩:=q2.get hy;rw[e1] at e2;cases e2;exact ih p1 p2 (a1 j x y hx hy)
 induction n with
 |zero=>
  intro d1 d2 u b r1 r2 hd;cases r1 with
  |oth k=>rw[jo k] at hd;cases hd
  |non=>cases r2 with
   |oth k=>rw[g_ k] at hd;cases hd
   |non=>cases hd;rfl
  |bl x=>cases r2 with
   |oth k=>rw[g_ k] at hd;cases hd
   |bl y=>cases hd;simp
  |int x t=>cases r2 with
   |oth k=>rw[g_ k] at hd;cases hd
   |int y=>cases hd;simp
  |str x t=>cases r2 with
   |oth k=>rw[g_ k] at hd;cases hd
   |str y=>cases hd;simp
  |tup p q=>cases r2 with
   |oth k=>rw[g_ k] at hd;cases hd
   |tup p2 q2=>cases hd
   |fl p2 q2=>exact(wu p2 p).elim
  |fl p q=>cases r2 with
   |oth k=>rw[g_ k] at hd;cases hd
   |fl p2 q2=>cases hd
   |tup p2 q2=>exact(wu p p2).elim
 |succ n ih=>
  intro d1 d2 u b r1 r2 hd;cases r1 with
  |oth k=>rw[jo k] at hd;cases hd
  |non=>cases r2 with
   |oth k=>rw[g_ k] at hd;cases hd
   |non=>cases hd;rfl
  |bl x=>cases r2 with
   |oth k=>rw[g_ k] at hd;cases hd
   |bl y=>cases hd;simp
  |int x t=>cases r2 with
   |oth k=>rw[g_ k] at hd;cases hd
   |int y=>cases hd;simp
  |str x t=>cases r2 with
   |oth k=>rw[g_ k] at hd;cases hd
   |str y=>cases hd;simp
  |tup p q=>cases r2 with
   |oth k=>rw[g_ k] at hd;cases hd
   |tup p2 q2=>exact rows n ih q q2 (YL p p2) hd
   |fl p2 q2=>exact(wu p2 p).elim
  |fl p q=>cases r2 with
   |oth k=>rw[g_ k] at hd;cases hd
   |fl p2 q2=>exact rows n ih q q2 (YM p p2) hd
   |tup p2 q2=>exact(wu p p2).elim
theorem parts{n:Nat}{A:Around}{xs ys:List D}{is js:List Value}{b:Bool}(r1:jC s.heap xs is)(r2:jC s.heap ys js)(hd:dX (cY n) xs ys=some b)
  (ih:∀{d1 d2:D} {u1 u2:Value} {b:Bool},Is s.heap d1 u1->Is s.heap d2 u2->cY n d1 d2=some b->SeqAt.EqAt A s u1 u2 b) :
  ∃e:Nat->Bool,(∀j (h1:j<is.toArray.size) (h2:j<js.toArray.size),SeqAt.EqAt A s is.toArray[j] js.toArray[j] (e j))/\b=((List.range (min is.toArray.size js.toArray.size)).all e&&is.toArray.size==js.toArray.size):=by
 obtain⟨e,a1,a2⟩:=Ju hd;have z1:=r1.len;have z2:=r2.len;refine⟨e,λj h1 h2=>?_,by simp only[fD,<-z1,<-z2];exact a2⟩;simp only[fD] at h1 h2;obtain⟨x,hx⟩ : ∃x,xs[j]?=some x:=⟨_,dj (by rw[z1];exact h1)⟩;obtain⟨y,hy⟩ : ∃y,ys[j]?=some y:=⟨_,dj (by rw[z2];exact h2)⟩;obtain⟨u,f1,g1⟩:=r1.get hx;obtain⟨u',f2,g2⟩:=r2.get hy;have k1:is.toArray[j]=u:=by
  have:=dN.mp f1;simpa using this.2
 have k2:js.toArray[j]=u':=by
  have:=dN.mp f2;simpa using this.2
 rw[k1,k2];exact ih g1 g2 (a1 j x y hx hy)
theorem YQ{A:Around}{l m:Addr}{is js:Array Value}{e:Nat->Bool}{b:Bool}(p1:s.heap.IsList l is)(p2:s.heap.IsList m js)(hu:A.units<cLine)(he:∀j (h1:j<is.size) (h2:j<js.size),SeqAt.EqAt A.in1 s is[j] js[j] (e j))(hb:b=((List.range (min is.size js.size)).all e&&is.size==js.size)):SeqAt.RcAt A s (.ref l) (.ref m) b:=by
 by_cases hz:is.size=js.size
 ·have:b=(List.range is.size).all e:=by rw[hb,hz];simp
  rw[this];exact SeqAt.RcAt.lists p1 p2 hz hu he
 ·have Sy:(is.size != js.size)=true:=by simpa using hz
  have:b=false:=by rw[hb];simp[hz]
  rw[this];exact SeqAt.RcAt.lists_lengths p1 p2 Sy hu
theorem zgf{A:Around}{l m:Addr}{is js:Array Value}{e:Nat->Bool}{b:Bool}(p1:s.heap.IsList l is)(p2:s.heap.IsList m js)(hu:A.units<cLine)(he:∀j (h1:j<is.size) (h2:j<js.size),SeqAt.EqAt A.in1 s is[j] js[j] (e j))(hb:b=((List.range (min is.size js.size)).all e&&is.size==js.size)):SeqAt.RcNeAt A s (.ref l) (.ref m) (!b):=by
 by_cases hz:is.size=js.size
 ·have:b=(List.range is.size).all e:=by rw[hb,hz];simp
  rw[this];exact SeqAt.RcNeAt.lists p1 p2 hz hu he
 ·have Sy:(is.size != js.size)=true:=by simpa using hz
  have:b=false:=by rw[hb];simp[hz]
  rw[this];exact SeqAt.RcNeAt.lists_lengths p1 p2 Sy hu
open SeqAt in
theorem Cu:∀(n:Nat) {A:Around} {d1 d2:D} {u1 u2:Value} {b:Bool},A.units+n<cLine->Is s.heap d1 u1->Is s.heap d2 u2->cY n d1 d2=some b->SeqAt.EqAt A s u1 u2 b:=by
 intro n
 induction n with
 |zero=>
  intro A d1 d2 u1 u2 b hu r1 r2 hd;have hu:A.units<cLine:=by lia
  cases r1 with
  |oth k=>rw[jo k] at hd;cases hd
  |non=>cases r2 with
   |oth k=>rw[g_ k] at hd;cases hd
   |non=>cases hd;exact EqAt.same _
   |bl y=>cases hd;exact EqAt.none_bool _
   |int y t=>cases hd;exact EqAt.none_int _ _
   |str y t=>cases hd;exact EqAt.none_str _ _
   |tup p q=>cases hd;exact EqAt.none_tuple p hu
   |fl p q=>cases hd;exact EqAt.none_list p hu
  |bl x=>cases r2 with
   |oth k=>rw[g_ k] at hd;cases hd
   |non=>cases hd;exact EqAt.bool_none _
   |bl y=>cases hd;exact EqAt.bool_bool _ _
   |int y t=>cases hd;exact EqAt.bool_int _ _ _
   |str y t=>cases hd;exact EqAt.bool_str _ _ _
   |tup p q=>cases hd;exact EqAt.bool_tuple _ p hu
   |fl p q=>cases hd;exact EqAt.bool_list _ p hu
  |int x t=>cases r2 with
   |oth k=>rw[g_ k] at hd;cases hd
   |non=>cases hd;exact EqAt.int_none _ _
   |bl y=>cases hd;exact EqAt.int_bool _ _ _
   |int y t=>cases hd;exact EqAt.int_int _ _ _ _
   |str y t=>cases hd;exact EqAt.int_str _ _ _ _
   |tup p q=>cases hd;exact EqAt.int_tuple _ _ p hu
   |fl p q=>cases hd;exact EqAt.int_list _ _ p hu
  |str x t=>cases r2 with
   |oth k=>rw[g_ k] at hd;cases hd
   |non=>cases hd;exact EqAt.str_none _ _
   |bl y=>cases hd;exact EqAt.str_bool _ _ _
   |int y t=>cases hd;exact EqAt.str_int _ _ _ _
   |str y t=>cases hd;exact EqAt.str_str _ _ _ _
   |tup p q=>cases hd;exact EqAt.str_tuple _ _ p hu
   |fl p q=>cases hd;exact EqAt.str_list _ _ p hu
  |tup p q=>cases r2 with
   |oth k=>rw[g_ k] at hd;cases hd
   |non=>cases hd;exact EqAt.tuple_none p hu
   |bl y=>cases hd;exact EqAt.tuple_bool _ p hu
   |int y t=>cases hd;exact EqAt.tuple_int _ _ p hu
   |str y t=>cases hd;exact EqAt.tuple_str _ _ p hu
   |tup p2 q2=>cases hd
   |fl p2 q2=>cases hd;exact EqAt.tuple_list p p2 hu
  |fl p q=>cases r2 with
   |oth k=>rw[g_ k] at hd;cases hd
   |non=>cases hd;exact EqAt.list_none p hu
   |bl y=>cases hd;exact EqAt.list_bool _ p hu
   |int y t=>cases hd;exact EqAt.list_int _ _ p hu
   |str y t=>cases hd;exact EqAt.list_str _ _ p hu
   |tup p2 q2=>cases hd;exact EqAt.list_tuple p p2 hu
   |fl p2 q2=>cases hd
 |succ n ih=>
  intro A d1 d2 u1 u2 b M7 r1 r2 hd;have hu:A.units<cLine:=by lia
  have iD:A.in1.units+n<cLine:=by show A.units+1+n<cLine;lia
  cases r1 with
  |oth k=>rw[jo k] at hd;cases hd
  |non=>cases r2 with
   |oth k=>rw[g_ k] at hd;cases hd
   |non=>cases hd;exact EqAt.same _
   |bl y=>cases hd;exact EqAt.none_bool _
   |int y t=>cases hd;exact EqAt.none_int _ _
   |str y t=>cases hd;exact EqAt.none_str _ _
   |tup p q=>cases hd;exact EqAt.none_tuple p hu
   |fl p q=>cases hd;exact EqAt.none_list p hu
  |bl x=>cases r2 with
   |oth k=>rw[g_ k] at hd;cases hd
   |non=>cases hd;exact EqAt.bool_none _
   |bl y=>cases hd;exact EqAt.bool_bool _ _
   |int y t=>cases hd;exact EqAt.bool_int _ _ _
   |str y t=>cases hd;exact EqAt.bool_str _ _ _
   |tup p q=>cases hd;exact EqAt.bool_tuple _ p hu
   |fl p q=>cases hd;exact EqAt.bool_list _ p hu
  |int x t=>cases r2 with
   |oth k=>rw[g_ k] at hd;cases hd
   |non=>cases hd;exact EqAt.int_none _ _
   |bl y=>cases hd;exact EqAt.int_bool _ _ _
   |int y t=>cases hd;exact EqAt.int_int _ _ _ _
   |str y t=>cases hd;exact EqAt.int_str _ _ _ _
   |tup p q=>cases hd;exact EqAt.int_tuple _ _ p hu
   |fl p q=>cases hd;exact EqAt.int_list _ _ p hu
  |str x t=>cases r2 with
   |oth k=>rw[g_ k] at hd;cases hd
   |non=>cases hd;exact EqAt.str_none _ _
   |bl y=>cases hd;exact EqAt.str_bool _ _ _
   |int y t=>cases hd;exact EqAt.str_int _ _ _ _
   |str y t=>cases hd;exact EqAt.str_str _ _ _ _
   |tup p q=>cases hd;exact EqAt.str_tuple _ _ p hu
   |fl p q=>cases hd;exact EqAt.str_list _ _ p hu
  |@tup a1 xs is p q=>cases r2 with
   |oth k=>rw[g_ k] at hd;cases hd
   |non=>cases hd;exact EqAt.tuple_none p hu
   |bl y=>cases hd;exact EqAt.tuple_bool _ p hu
   |int y t=>cases hd;exact EqAt.tuple_int _ _ p hu
   |str y t=>cases hd;exact EqAt.tuple_str _ _ p hu
   |@tup a2 ys js p2 q2=>
    by_cases ea:a1=a2
    ·subst ea;have:=Sx (n+1) (.tup p q) (.tup p2 q2) hd;subst this;exact EqAt.same _
    ·obtain⟨e,he,hb⟩:=parts (A:=A.in1) q q2 hd λa b c=>ih iD a b c;rw[hb];exact EqAt.of_refs ea (RcAt.tuples p p2 hu he)
   |fl p2 q2=>cases hd;exact EqAt.tuple_list p p2 hu
  |@fl a1 xs is p q=>cases r2 with
   |oth k=>rw[g_ k] at hd;cases hd
   |non=>cases hd;exact EqAt.list_none p hu
   |bl y=>cases hd;exact EqAt.list_bool _ p hu
   |int y t=>cases hd;exact EqAt.list_int _ _ p hu
   |str y t=>cases hd;exact EqAt.list_str _ _ p hu
   |tup p2 q2=>cases hd;exact EqAt.list_tuple p p2 hu
   |@fl a2 ys js p2 q2=>
    by_cases ea:a1=a2
    ·subst ea;have:=Sx (n+1) (.fl p q) (.fl p2 q2) hd;subst this;exact EqAt.same _
    ·obtain⟨e,he,hb⟩:=parts (A:=A.in1) q q2 hd λa b c=>ih iD a b c;exact EqAt.of_refs ea (YQ p p2 hu he hb)
end
section
variable {X:Cx}{cA:Cl}{ao:List (Addr×Obj)}{Z:L2.St}{H:Hp}{s:Shared}{U:Ph}{h:Heap}
open SeqAt in
theorem YS(M7:A.units+(n+1)<cLine)(r1:Is s.heap d1 u1)(r2:Is s.heap d2 u2)(hd:cY (n+1) d1 d2=some b):RcAt A s u1 u2 b/\RcNeAt A s u1 u2 (!b):=by
 have hu:A.units<cLine:=by lia
 have iD:A.in1.units+n<cLine:=by show A.units+1+n<cLine;lia
 cases r1 with
 |oth k=>rw[jo k] at hd;cases hd
 |non=>cases r2 with
  |oth k=>rw[g_ k] at hd;cases hd
  |non=>cases hd;exact⟨RcAt.none_none,RcNeAt.none_none⟩
  |bl y=>cases hd;exact⟨RcAt.none_bool _,RcNeAt.none_bool _⟩
  |int y t=>cases hd;exact⟨RcAt.none_int _ _,RcNeAt.none_int _ _⟩
  |str y t=>cases hd;exact⟨RcAt.none_str _ _,RcNeAt.none_str _ _⟩
  |tup p q=>cases hd;exact⟨RcAt.none_tuple p hu,RcNeAt.none_tuple p hu⟩
  |fl p q=>cases hd;exact⟨RcAt.none_list p hu,RcNeAt.none_list p hu⟩
 |bl x=>cases r2 with
  |oth k=>rw[g_ k] at hd;cases hd
  |non=>cases hd;exact⟨RcAt.bool_none _,RcNeAt.bool_none _⟩
  |bl y=>cases hd;exact⟨RcAt.bool_bool _ _,RcNeAt.bool_bool _ _⟩
  |int y t=>cases hd;exact⟨RcAt.bool_int _ _ _,RcNeAt.bool_int _ _ _⟩
  |str y t=>cases hd;exact⟨RcAt.bool_str _ _ _,RcNeAt.bool_str _ _ _⟩
  |tup p q=>cases hd;exact⟨RcAt.bool_tuple _ p hu,RcNeAt.bool_tuple _ p hu⟩
  |fl p q=>cases hd;exact⟨RcAt.bool_list _ p hu,RcNeAt.bool_list _ p hu⟩
 |int x t=>cases r2 with
  |oth k=>rw[g_ k] at hd;cases hd
  |non=>cases hd;exact⟨RcAt.int_none _ _,RcNeAt.int_none _ _⟩
  |bl y=>cases hd;exact⟨RcAt.int_bool _ _ _,RcNeAt.int_bool _ _ _⟩
  |int y t=>cases hd;exact⟨RcAt.int_int _ _ _ _,RcNeAt.int_int _ _ _ _⟩
  |str y t=>cases hd;exact⟨RcAt.int_str _ _ _ _,RcNeAt.int_str _ _ _ _⟩
  |tup p q=>cases hd;exact⟨RcAt.int_tuple _ _ p hu,RcNeAt.int_tuple _ _ p hu⟩
  |fl p q=>cases hd;exact⟨RcAt.int_list _ _ p hu,RcNeAt.int_list _ _ p hu⟩
 |str x t=>cases r2 with
  |oth k=>rw[g_ k] at hd;cases hd
  |non=>cases hd;exact⟨RcAt.str_none _ _,RcNeAt.str_none _ _⟩
  |bl y=>cases hd;exact⟨RcAt.str_bool _ _ _,RcNeAt.str_bool _ _ _⟩
  |int y t=>cases hd;exact⟨RcAt.str_int _ _ _ _,RcNeAt.str_int _ _ _ _⟩
  |str y t=>cases hd;exact⟨RcAt.str_str _ _ _ _,RcNeAt.str_str _ _ _ _⟩
  |tup p q=>cases hd;exact⟨RcAt.str_tuple _ _ p hu,RcNeAt.str_tuple _ _ p hu⟩
  |fl p q=>cases hd;exact⟨RcAt.str_list _ _ p hu,RcNeAt.str_list _ _ p hu⟩
 |@tup a1 xs is p q=>cases r2 with
  |oth k=>rw[g_ k] at hd;cases hd
  |non=>cases hd;exact⟨RcAt.tuple_none p hu,RcNeAt.tuple_none p hu⟩
  |bl y=>cases hd;exact⟨RcAt.tuple_bool _ p hu,RcNeAt.tuple_bool _ p hu⟩
  |int y t=>cases hd;exact⟨RcAt.tuple_int _ _ p hu,RcNeAt.tuple_int _ _ p hu⟩
  |str y t=>cases hd;exact⟨RcAt.tuple_str _ _ p hu,RcNeAt.tuple_str _ _ p hu⟩
  |@tup a2 ys js p2 q2=>
   obtain⟨e,he,hb⟩:=parts (A:=A.in1) q q2 hd λa b c=>Cu n iD a b c;rw[hb];exact⟨RcAt.tuples p p2 hu he,RcNeAt.tuples p p2 hu he⟩
  |fl p2 q2=>cases hd;exact⟨RcAt.tuple_list p p2 hu,RcNeAt.tuple_list p p2 hu⟩
 |@fl a1 xs is p q=>cases r2 with
  |oth k=>rw[g_ k] at hd;cases hd
  |non=>cases hd;exact⟨RcAt.list_none p hu,RcNeAt.list_none p hu⟩
  |bl y=>cases hd;exact⟨RcAt.list_bool _ p hu,RcNeAt.list_bool _ p hu⟩
  |int y t=>cases hd;exact⟨RcAt.list_int _ _ p hu,RcNeAt.list_int _ _ p hu⟩
  |str y t=>cases hd;exact⟨RcAt.list_str _ _ p hu,RcNeAt.list_str _ _ p hu⟩
  |tup p2 q2=>cases hd;exact⟨RcAt.list_tuple p p2 hu,RcNeAt.list_tuple p p2 hu⟩
  |@fl a2 ys js p2 q2=>
   obtain⟨e,he,hb⟩:=parts (A:=A.in1) q q2 hd λa b c=>Cu n iD a b c;exact⟨YQ p p2 hu he hb,zgf p p2 hu he hb⟩
noncomputable def xR(K:W.Frag)(cA:Cl)(f:Bool->Bool):R2:=λx y H Q=>∃U d1 d2 b,Rv K cA U H d1 x/\Rv K cA U H d2 y/\cY 50 d1 d2=some b/\Q (.bl (f b)) H
theorem zmH(hu:X.A.units+60<cLine):fj X (compareOp .Eq) (xR X.K cA id):=by
 intro ao s Z H x y v u Q I rx ry ⟨U,d1,d2,b,r1,r2,hd,q⟩;exact(YS (n:=49) (by lia) (zF I r1 rx) (zF I r2 ry) hd).1 X.prog X.w X.xe _ ⟨.bl b,H,I,rfl,q⟩
theorem zms(hu:X.A.units+60<cLine):fj X (compareOp .NotEq) (xR X.K cA not):=by
 intro ao s Z H x y v u Q I rx ry ⟨U,d1,d2,b,r1,r2,hd,q⟩;exact(YS (n:=49) (by lia) (zF I r1 rx) (zF I r2 ry) hd).2 X.prog X.w X.xe _ ⟨.bl (!b),H,I,rfl,q⟩
theorem zi2:∀(n:Nat) {d d' x:D} {u:Value} {b b':Bool},Is h d u->Is h d' u->cY n d x=some b->cY n d' x=some b'->b=b':=by
 intro n;have flat:∀{d d' x:D} {u:Value} {b b':Bool},Is h d u->Is h d' u->(∀xs xs',d=.tup xs->d'=.tup xs'->False)->(∀xs xs',d=.fl xs->d'=.fl xs'->False)->cY n d x=some b->cY n d' x=some b'->b=b':=by
  intro d d' x u b b' r1 r2 n1 n2 h1 h2;cases r1 with
  |oth k=>rw[jo k] at h1;cases h1
  |non=>cases r2 with
   |oth k=>rw[jo k] at h2;cases h2
   |non=>rw[h1] at h2;exact cJ h2
  |bl y=>cases r2 with
   |oth k=>rw[jo k] at h2;cases h2
   |bl=>rw[h1] at h2;exact cJ h2
  |int y=>cases r2 with
   |oth k=>rw[jo k] at h2;cases h2
   |int=>rw[h1] at h2;exact cJ h2
  |str y=>cases r2 with
   |oth k=>rw[jo k] at h2;cases h2
   |str=>rw[h1] at h2;exact cJ h2
  |tup p q=>cases r2 with
   |oth k=>rw[jo k] at h2;cases h2
   |tup=>exact(n1 _ _ rfl rfl).elim
   |fl p2 q2=>exact(wu p2 p).elim
  |fl p q=>cases r2 with
   |oth k=>rw[jo k] at h2;cases h2
   |fl=>exact(n2 _ _ rfl rfl).elim
   |tup p2 q2=>exact(wu p p2).elim
 have tn:∀{n:Nat} {xs xs':List D} {x:D},(∀ys,x=.tup ys->False)->cY n (.tup xs) x=cY n (.tup xs') x:=λ{n xs xs' x} hx=>by
  cases n<;>cases x<;>first|rfl|exact(hx _ rfl).elim
 have ln:∀{n:Nat} {xs xs':List D} {x:D},(∀ys,x=.fl ys->False)->cY n (.fl xs) x=cY n (.fl xs') x:=λ{n xs xs' x} hx=>by
  cases n<;>cases x<;>first|rfl|exact(hx _ rfl).elim
 clear flat
 induction n with
 |zero=>
  intro d d' x u b b' r1 r2 h1 h2;cases r1 with
  |oth k=>rw[jo k] at h1;cases h1
  |non=>cases r2 with
   |oth k=>rw[jo k] at h2;cases h2
   |non=>rw[h1] at h2;exact cJ h2
  |bl y=>cases r2 with
   |oth k=>rw[jo k] at h2;cases h2
   |bl=>rw[h1] at h2;exact cJ h2
  |int y=>cases r2 with
   |oth k=>rw[jo k] at h2;cases h2
   |int=>rw[h1] at h2;exact cJ h2
  |str y=>cases r2 with
   |oth k=>rw[jo k] at h2;cases h2
   |str=>rw[h1] at h2;exact cJ h2
  |tup p q=>cases r2 with
   |oth k=>rw[jo k] at h2;cases h2
   |tup p2 q2=>
    cases x with
    |tup ys=>cases h1
    |_=>rw[tn (by intro ys z;cases z),h2] at h1;exact(cJ h1).symm
   |fl p2 q2=>exact(wu p2 p).elim
  |fl p q=>cases r2 with
   |oth k=>rw[jo k] at h2;cases h2
   |fl p2 q2=>
    cases x with
    |fl ys=>cases h1
    |_=>rw[ln (by intro ys z;cases z),h2] at h1;exact(cJ h1).symm
   |tup p2 q2=>exact(wu p p2).elim
 |succ n ih=>
  intro d d' x u b b' r1 r2 h1 h2;have rows:∀{xs xs' ys:List D} {is js:List Value} {b b':Bool},jC h xs is->jC h xs' js->is.toArray=js.toArray->dX (cY n) xs ys=some b->dX (cY n) xs' ys=some b'->b=b':=by
   intro xs xs' ys is js b b' q1 q2 e h1 h2;have e:is=js:=by simpa using e
   subst e;obtain⟨e1,a1,b1⟩:=Ju h1;obtain⟨e2,a2,b2⟩:=Ju h2;have hl:xs.length=xs'.length:=q1.len.trans q2.len.symm;rw[b1,b2,hl]
   congr 1
   rw[Bool.eq_iff_iff,iY,iY];have key:∀j∈List.range (min xs'.length ys.length),e1 j=e2 j:=λj hj=>by
    have hj:=vQ.mp hj;obtain⟨x1,YT⟩ : ∃x,xs[j]?=some x:=⟨_,dj (by rw[hl];exact gJ hj (Nat.min_le_left _ _))⟩;obtain⟨x2,Ms⟩ : ∃x,xs'[j]?=some x:=⟨_,dj (gJ hj (Nat.min_le_left _ _))⟩;obtain⟨y,hy⟩ : ∃y,ys[j]?=some y:=⟨_,dj (gJ hj (Nat.min_le_right _ _))⟩;obtain⟨v1,f1,p1⟩:=q1.get YT;obtain⟨v2,f2,p2⟩:=q2.get Ms;rw[f1] at f2;cases f2;exact ih p1 p2 (a1 j x1 y YT hy) (a2 j x2 y Ms hy)
   exact⟨λz j hj=>by rw[<-key j hj];exact z j hj,λz j hj=>by rw[key j hj];exact z j hj⟩
  cases r1 with
  |oth k=>rw[jo k] at h1;cases h1
  |non=>cases r2 with
   |oth k=>rw[jo k] at h2;cases h2
   |non=>rw[h1] at h2;exact cJ h2
  |bl y=>cases r2 with
   |oth k=>rw[jo k] at h2;cases h2
   |bl=>rw[h1] at h2;exact cJ h2
  |int y=>cases r2 with
   |oth k=>rw[jo k] at h2;cases h2
   |int=>rw[h1] at h2;exact cJ h2
  |str y=>cases r2 with
   |oth k=>rw[jo k] at h2;cases h2
   |str=>rw[h1] at h2;exact cJ h2
  |tup p q=>cases r2 with
   |oth k=>rw[jo k] at h2;cases h2
   |tup p2 q2=>
    cases x with
    |tup ys=>exact rows q q2 (YL p p2) h1 h2
    |_=>rw[tn (by intro ys z;cases z),h2] at h1;exact(cJ h1).symm
   |fl p2 q2=>exact(wu p2 p).elim
  |fl p q=>cases r2 with
   |oth k=>rw[jo k] at h2;cases h2
   |fl p2 q2=>
    cases x with
    |fl ys=>exact rows q q2 (YM p p2) h1 h2
    |_=>rw[ln (by intro ys z;cases z),h2] at h1;exact(cJ h1).symm
   |tup p2 q2=>exact(wu p p2).elim
theorem YW:∀{xs:List D} {b:Bool},memD x xs=some b->∀d∈xs,∃k,cY 50 d x=some k
 |[],_,_,d,hd=>by cases hd
 |y::xs,b,h,d,hd=>by
  unfold memD at h;cases e1:cY 50 y x with
  |none=>simp only[e1] at h;cases h
  |some a=>
   cases e2:memD x xs with
   |none=>simp only[e1,e2] at h;cases h
   |some c=>
    rcases gY.mp hd with rfl|hd
    ·exact⟨a,e1⟩
    ·exact YW e2 d hd
theorem M8:∀{xs:List D} {us:List Value} {b:Bool},memD x xs=some b->jC h xs us->∃e:Value->Bool,(∀u∈us,∃d,Is h d u/\cY 50 d x=some (e u))/\us.any e=b:=by
 intro xs us b hm r;have ex:∀u∈us,∃d k,Is h d u/\cY 50 d x=some k:=by
  intro u hu;obtain⟨i,hi,e⟩:=yH hu;have hl:=r.len;obtain⟨d,hd⟩ : ∃d,xs[i]?=some d:=⟨_,dj (by lia)⟩;obtain⟨u',e1,q⟩:=r.get hd;rw[dj hi,e] at e1;cases e1;obtain⟨k,hk⟩:=YW hm d (fZ hd);exact⟨d,k,q,hk⟩
 refine⟨λu=>by classical exact if z:∃k,∃d,Is h d u/\cY 50 d x=some k then z.choose else false,λu hu=>?_,?_⟩
 ·obtain⟨d,k,q,hk⟩:=ex u hu;have z:∃k,∃d,Is h d u/\cY 50 d x=some k:=⟨k,d,q,hk⟩;dsimp only;rw[dif_pos z];exact z.choose_spec
 ·clear ex;have key:∀(xs:List D) (us:List Value) (b:Bool),memD x xs=some b->jC h xs us->us.any (λu=>by classical exact if z:∃k,∃d,Is h d u/\cY 50 d x=some k then z.choose else false)=b:=by
   intro xs
   induction xs with
   |nil=>intro us b hm r;cases r;cases hm;rfl
   |cons d ds ih=>
    intro us b hm r;cases r with
    |@cons _ u _ us a r=>
     unfold memD at hm;cases e1:cY 50 d x with
     |none=>simp only[e1] at hm;cases hm
     |some k=>
      cases e2:memD x ds with
      |none=>simp only[e1,e2] at hm;cases hm
      |some c=>
       simp only[e1,e2] at hm;cases hm;rw[List.any_cons];have z:∃k,∃d,Is h d u/\cY 50 d x=some k:=⟨k,d,a,e1⟩;have hk:z.choose=k:=by
        obtain⟨d',q,Bc⟩:=z.choose_spec;exact zi2 50 q a Bc e1
       rw[dif_pos z,hk,ih us c e2 r]
  exact key xs us b hm r
noncomputable def xT(K:W.Frag)(cA:Cl)(f:Bool->Bool):R2:=λx y H Q=>∃U d1 d2 xs b,Rv K cA U H d1 x/\Rv K cA U H d2 y/\mX d2=some xs/\memD d1 xs=some b/\Q (.bl (f b)) H
theorem zlu(hu:X.A.units+60<cLine):fj X (compareOp .In) (xT X.K cA id):=by
 intro ao s Z H x y v u Q I rx ry ⟨U,d1,d2,xs,b,r1,r2,hq,hm,q⟩;have iD:X.A.in1.units+50<cLine:=by show X.A.units+1+50<cLine;lia
 have i1:=zF I r1 rx;cases zF I r2 ry with
 |tup p r=>
  cases hq;obtain⟨e,he,hb⟩:=M8 hm r;refine SeqAt.in_tupleAt e p (λw hw=>?_) ⟨.bl b,H,I,by rw[<-hb];simp[L2.RelV],q⟩;obtain⟨d,q1,q2⟩:=he w (by simpa using hw);exact Cu 50 iD q1 i1 q2
 |fl p r=>
  cases hq;obtain⟨e,he,hb⟩:=M8 hm r;refine SeqAt.in_listAt e p (λw hw=>?_) ⟨.bl b,H,I,by rw[<-hb];simp[L2.RelV],q⟩;obtain⟨d,q1,q2⟩:=he w (by simpa using hw);exact Cu 50 iD q1 i1 q2
 |oth k=>cases d2<;>cases hq<;>cases k
 |_=>cases hq
theorem zjF(hu:X.A.units+60<cLine):fj X (compareOp .NotIn) (xT X.K cA not):=by
 intro ao s Z H x y v u Q I rx ry ⟨U,d1,d2,xs,b,r1,r2,hq,hm,q⟩;have iD:X.A.in1.units+50<cLine:=by show X.A.units+1+50<cLine;lia
 have i1:=zF I r1 rx;cases zF I r2 ry with
 |tup p r=>
  cases hq;obtain⟨e,he,hb⟩:=M8 hm r;refine SeqAt.notIn_tupleAt e p (λw hw=>?_) ⟨.bl (!b),H,I,by rw[<-hb];simp[L2.RelV],q⟩;obtain⟨d,q1,q2⟩:=he w (by simpa using hw);exact Cu 50 iD q1 i1 q2
 |fl p r=>
  cases hq;obtain⟨e,he,hb⟩:=M8 hm r;refine SeqAt.notIn_listAt e p (λw hw=>?_) ⟨.bl (!b),H,I,by rw[<-hb];simp[L2.RelV],q⟩;obtain⟨d,q1,q2⟩:=he w (by simpa using hw);exact Cu 50 iD q1 i1 q2
 |oth k=>cases d2<;>cases hq<;>cases k
 |_=>cases hq
end
end Mi
namespace HT
open PySem PyProof.Rows
section
variable {prog:Program}{w:World}{A:Around}{E:Value->Shared->Prop}{s:Shared}
theorem uP{t b:Addr}{vs ws:List Value}{Q:Value->Shared->Prop}(ht:IsTup s.heap t vs.toArray)(hb:IsTup s.heap b ws.toArray)(hv:vs=[])
  (h1:Q (.ref b) s):wpAny (model prog w) A (binaryOp .Add (.ref t) (.ref b)) Q E s:=by
 obtain⟨⟨cls,dd,data,sl⟩,ho,hc,n,hd⟩:=id ht;obtain⟨⟨cls2,dd2,data2,sl2⟩,pQ,qO,n2,hd2⟩:=id hb;simp only at hc hd qO hd2;subst hc hd qO hd2;exact concat_meets ⟨_,ho,rfl⟩ ⟨_,pQ,rfl⟩ noFill_tuple_add seq_tuple_add Pb O_ (O8 _ _)
   (tuple_addW0 t b vs.toArray ws.toArray n n2 dd dd2 sl sl2 (by simp[hv])) ⟨ho,pQ,h1⟩
theorem gA{t sl:Addr}{items:Array Value}{vl vu:Value}{lo hi:Option Int}{Q:Value->Shared->Prop}(ht:IsTup s.heap t items)(hs:s.heap.IsSliceOf sl vl vu .none)(pl:IsPart vl lo)(pu:IsPart vu hi)
  (hw:bT items.size 0 lo=0/\bT items.size items.size hi=items.size) (h:Q (.ref t) s):wpAny (model prog w) A (getItem (.ref t) (.ref sl)) Q E s:=by
 obtain⟨os,Bu,Mp,Hv⟩:=id hs;have QT:s.TypeIs (.ref sl) "slice":=⟨os,Bu,Mp⟩;unfold getItem
 try with_reducible refine pq ?_
 first|refine aB (aR ?_)|skip
 refine aB (wpAny_sequenceKey ht.typeIs (by decide) ?_);refine aB (Ac (name:=Str.ofString "__getitem__") ht.typeIs Dj
  (yJ Dj ht.typeIs entry_tuple_getitem ?_ (args_tuple_getitem _ _)))
 show wpAny _ _ (Builtin.Tuple.tupleItemsOf (.ref t) >>= _) _ _ s;refine aB (tupleItemsOf_ ht ?_);refine aB (Gq QT ?_);rw[if_pos (by decide)];refine aB (Xu hs pl pu ?_);have SJ:(((bT items.size 0 lo:Nat):Int)==0&&(1:Int)==1&&(bT items.size items.size hi-bT items.size 0 lo)==items.size)=true:=by
  rw[hw.1,hw.2];simp
 show wpAny _ _ (if (((bT items.size 0 lo:Nat):Int)==0&&(1:Int)==1&&(bT items.size items.size hi-bT items.size 0 lo)==items.size)=true then _ else _) _ _ s;rw[if_pos SJ];refine aB ?_;unfold Builtin.Tuple.tupleIsExact;refine aB (Gq ht.typeIs ?_);refine aR ?_;rw[if_pos (by decide)];refine aB (wpAny_rule ?_);exact aR ⟨_,rfl,aR h⟩
end
end HT
namespace L2
open PySem PySem.Spec PyProof.Rows
section
variable {X:Cx}{e:Expr}{te:TE}{pos p2:Pos}
noncomputable def uQ(K:W.Frag):R2:=λx y H Q=>∃a b xs ys,x=.ref a/\y=.ref b/\gj K H a xs/\gj K H b ys/\xs.length+ys.length<=sizeLine /\
 (xs=[]->Q (.ref b) H)/\(ys=[]->Q (.ref a) H)/\∀p,H p=none->Q (.ref p) (upd H p (.tup (xs++ys)))
theorem uR:fj X (binaryOp .Add) (uQ X.K):=by
 intro ao s Z H x y v u Q I rx ry h;obtain⟨a,b,xs,ys,rfl,rfl,ha,hb,hz,q0,q1,q2⟩:=h;cases rx;cases ry;obtain⟨its,r1,p1,_⟩:=I.tuple ha;obtain⟨its2,r2,p2,_⟩:=I.tuple hb;by_cases hx:xs=[]
 ·exact HT.uP p1 p2 (r1.mK.mpr hx) ⟨.ref b,H,I,rfl,q0 hx⟩
 ·refine HT.wV p1 p2 (λz=>hx (r1.mK.mp z)) (λz=>⟨.ref a,H,I,rfl,q1 (r2.mK.mp z)⟩) (λz=>?_) (by rw[<-r1.length,<-r2.length];exact hz);refine⟨.ref s.heap.objs.size,_,I.laid (t':=s.toks) (o:=.tup (xs++ys)) (λb ob q=>bY _ q) (bO _) ?_,rfl,q2 _ (I.hok.fresh (bO _))⟩;exact⟨by rw[dG];exact hz,_,r1.append r2,IsTup.new _ _⟩
noncomputable def zG(K:W.Frag):V->Option Int->Option Int->Hp->VK->Prop:=λx lo hi H Q=>∃a xs,x=.ref a/\gj K H a xs /\
 ((HT.bT xs.length 0 lo=0/\HT.bT xs.length xs.length hi=xs.length)->Q (.ref a) H)/\∀p,H p=none->Q (.ref p) (upd H p (.tup (mJ xs lo hi)))
theorem zjB:wY X (zG X.K):=by
 intro ao s Z H x v vl vu lo hi sl Q I rx hs pl pu h;obtain⟨a,xs,rfl,hx,hw,q⟩:=h;by_cases hz:HT.bT xs.length 0 lo=0/\HT.bT xs.length xs.length hi=xs.length
 ·cases rx;obtain⟨its,r,ht,_⟩:=I.tuple hx;have hlen:its.toArray.size=xs.length:=by rw[fD];exact r.length.symm
  refine⟨"tuple",_,Dj.lookup,ht.typeIs,?_⟩;exact HT.gA ht hs pl pu (by rw[hlen];exact hz) ⟨.ref a,H,I,rfl,hw hz⟩
 ·exact zlP ao s Z H (.ref a) v vl vu lo hi sl Q I rx hs pl pu ⟨a,xs,rfl,hx,hz,q⟩
end
section
variable {X:Cx}
noncomputable def zJ(K:W.Frag):R2:=λx y H Q=>∃l b xs zs,x=.ref l/\y=.ref b/\cO K H l xs/\cO K H b zs/\xs.length+zs.length<=sizeLine/\∀p,H p=none->Q (.ref p) (upd H p (.lst (xs++zs)))
theorem xU:fj X (binaryOp .Add) (zJ X.K):=by
 intro ao s Z H x y v u Q I rx ry h;obtain⟨l,b,xs,zs,rfl,rfl,hH,hB,hz,q⟩:=h;cases rx;cases ry;obtain⟨its,r,pl,_⟩:=I.list hH;obtain⟨its2,r2,pl2,_⟩:=I.list hB;obtain⟨⟨cls,dd,data,sl⟩,ho,hc,n,hd⟩:=pl.isList;obtain⟨⟨cls2,dd2,data2,sl2⟩,pQ,qO,n2,hd2⟩:=pl2.isList;simp only at hc hd qO hd2;subst hc hd qO hd2;refine concat_meets ⟨_,ho,rfl⟩ ⟨_,pQ,rfl⟩ noFill_list_add seq_list_add PySem.F.slot_list_add PySem.F.entry_list_add (PySem.F.args_list_add_2 _ _) (list_addW l b its.toArray its2.toArray n n2 dd dd2 sl sl2 (by rw[fD,fD,<-r.length,<-r2.length];exact hz)) ⟨ho,pQ,?_⟩;have ea:its.toArray++its2.toArray=(its++its2).toArray:=by simp
 rw[ea];exact⟨.ref _,_,I.Q0 (t':=s.toks) (r.append r2) (by rw[dG];omega),rfl,q _ I.fresh⟩
noncomputable def rz(K:W.Frag):R2:=λx y H Q=>pN (λi j=>.int (i+j)) x y H Q\/zJ K x y H Q\/uQ K x y H Q\/∃i j,x=.str i/\y=.str j/\i.length+j.length<=sizeLine/\Q (.str (i++j)) H
theorem zgK:fj X (binaryOp .Add) (rz X.K):=Bp.or (xU.or (uR.or ze1))
end
end L2
namespace Mi
open PySem PySem.Spec PyProof.Rows L2
section
variable {K:W.Frag}{cA:Cl}{U:Ph}{H:Hp}{Q:VK}{p:Pr}
theorem bD.some'{o:Option Rz}(h:bD K cA U H o Q):∃z,o=some z:=by
 cases o with
 |none=>exact h.elim
 |some z=>exact⟨z,rfl⟩
theorem bD.of{o:Option Rz}{z:Rz}(h:bD K cA U H o Q)(e:o=some z):bD K cA U H (some z) Q:=e▸h
theorem bD.here{d:D}{v:V}(h:bD K cA U H (some (.dat d)) Q)(r:Rep K cA U H d v):Q v H:=h H v aY.refl r
theorem bD.tup{xs:List D}{vs:List V}{a:Addr}(h:bD K cA U H (some (.dat (.tup xs))) Q)(z:Zt U H)(r:aC K cA U H xs vs)(hp:H a=none):Q (.ref a) (upd H a (.tup vs)):=
 h _ _ (aY.new hp) (.tup (TupAt.new (z.nz hp)) (r.mono (aY.new hp).ext z.lz))
theorem xM.two{ds:List D}{vs:List V}{d d':D}(h:xM K cA U H [d,d'] vs):∃v v',vs=[v,v']/\Rv K cA U H d v/\Rv K cA U H d' v':=by
 cases h with
 |cons a r=>cases r with
  |cons b r=>cases r;exact⟨_,_,rfl,a,b⟩
theorem xM.one(h:xM K cA U H [d] vs):∃v,vs=[v]/\Rv K cA U H d v:=by
 cases h with
 |cons a r=>cases r;exact⟨_,rfl,a⟩
theorem Rv.int{i:Int}{v:V}(h:Rv K cA U H (.int i) v):v=.int i:=by cases (show Rep K cA U H (.int i) v from h);rfl
theorem Rv.bl{i:Bool}{v:V}(h:Rv K cA U H (.bl i) v):v=.bl i:=by cases (show Rep K cA U H (.bl i) v from h);rfl
theorem Rv.str{i:Str}{v:V}(h:Rv K cA U H (.str i) v):v=.str i:=by cases (show Rep K cA U H (.str i) v from h);rfl
theorem Rv.tup{xs:List D}{v:V}(h:Rv K cA U H (.tup xs) v):∃a vs,v=.ref a/\TupAt K U H a vs/\aC K cA U H xs vs:=by
 cases (show Rep K cA U H (.tup xs) v from h) with
 |tup a r=>exact⟨_,_,rfl,a,r⟩
theorem Rv.sq{d:D}{xs:List D}{v:V}(h:Rv K cA U H d v)(e:mX d=some xs):∃a vs,v=.ref a/\(cO K H a vs\/gj K H a vs)/\aC K cA U H xs vs:=by
 cases d with
 |tup ys=>
  cases e;obtain⟨a,vs,e,t,r⟩:=Rv.tup h;exact⟨a,vs,e,.inr t.jm,r⟩
 |fl ys=>
  cases e;obtain⟨a,vs,e,l,r⟩:=h;exact⟨a,vs,e,.inl l,r⟩
 |_=>cases e
theorem YX{f:Int->Int->Option D}{ds:List D}{z:Rz}(h:dz f ds=some z):∃i j d,ds=[.int i,.int j]/\f i j=some d/\z=.dat d:=by
 cases ds with
 |nil=>cases h
 |cons a t=>
 cases a with
 |int i=>
  cases t with
  |nil=>cases h
  |cons b t=>
  cases b with
  |int j=>
   cases t with
   |cons _ _=>cases h
   |nil=>
    obtain⟨d,e1,e2⟩:=kE.mp h;exact⟨_,_,d,rfl,e1,e2.symm⟩
  |_=>cases h
 |_=>cases h
theorem Jv{f:Int->Int->Option D}(hp:prim p=dz f){C:Int->Int->Prop}{g:Int->Int->V}(hf:∀i j d,f i j=some d->C i j/\∀U H,Rep K cA U H d (g i j)):bC K cA p (r2 (rI C g)):=by
 intro U H ds vs Q zt rs o;rw[hp] at o;obtain⟨z,e⟩:=o.some';obtain⟨i,j,d,rfl,e1,rfl⟩:=YX e;obtain⟨c,r⟩:=hf i j d e1;obtain⟨v,v',rfl,r1,r2⟩:=rs.two (ds:=[]);rw[r1.int,r2.int];exact⟨_,_,rfl,i,j,rfl,rfl,c,(o.of e).here (r U H)⟩
theorem Ew{f:Int->Int->D}(hp:prim p=dz λi j=>some (f i j)){g:Int->Int->V}(hf:∀i j U H,Rep K cA U H (f i j) (g i j)):bC K cA p (r2 (pN g)):=by
 intro U H ds vs Q zt rs o;obtain⟨x,y,e,i,j,a,b,_,q⟩:=Jv (K:=K) (cA:=cA) (C:=λ_ _=>True) hp (λi j d e=>⟨trivial,λU H=>by cases e;exact hf i j U H⟩) U H ds vs Q zt rs o;exact⟨x,y,e,i,j,a,b,q⟩
theorem Jw{α:Type}{c:Prop}[Decidable c]{x y:α}(h:(if c then some x else none)=some y):c/\y=x:=by
 split at h
 ·rename_i z;cases h;exact⟨z,rfl⟩
 ·cases h
theorem zlC:bC K cA .aq (r2 (pN λi j=>.int (i-j))):=Ew (f:=λi j=>.int (i-j)) rfl λi j _ _=>.int _
theorem zkX:bC K cA .mul (r2 (rI wU λi j=>.int (i*j))):=Jv rfl λi j d e=>by obtain⟨c,rfl⟩:=Jw e;exact⟨c,λ_ _=>.int _⟩
theorem zjf:bC K cA .fdiv (r2 (rI wR λi j=>.int (i/j))):=Jv rfl λi j d e=>by obtain⟨c,rfl⟩:=Jw e;exact⟨c,λ_ _=>.int _⟩
theorem zm7:bC K cA .mod (r2 (rI (λ_ j=>0<j) λi j=>.int (i%j))):=Jv rfl λi j d e=>by obtain⟨c,rfl⟩:=Jw e;exact⟨c,λ_ _=>.int _⟩
theorem zlR:bC K cA .pow (r2 (rI G6 λi j=>.int (i^j.toNat))):=Jv rfl λi j d e=>by obtain⟨c,rfl⟩:=Jw e;exact⟨c,λ_ _=>.int _⟩
theorem znU:bC K cA .le (r2 (pN λi j=>.bl (decide (i<=j)))):=Ew (f:=λi j=>.bl (decide (i<=j))) rfl λi j _ _=>.bl _
theorem zn4:bC K cA .gt (r2 (pN λi j=>.bl (decide (j<i)))):=Ew (f:=λi j=>.bl (decide (j<i))) rfl λi j _ _=>.bl _
theorem znr:bC K cA .ge (r2 (pN λi j=>.bl (decide (j<=i)))):=Ew (f:=λi j=>.bl (decide (j<=i))) rfl λi j _ _=>.bl _
theorem zkY:bC K cA .neg (λvs H Q=>∃x,vs=[x]/\rU (λi=>.int (-i)) x H Q):=by
 intro U H ds vs Q zt rs o;obtain⟨z,e⟩:=o.some';have e:qZ (λi=>.int (-i)) ds=some z:=e;cases ds with
 |nil=>cases e
 |cons a t=>
 cases a with
 |int i=>
  cases t with
  |cons _ _=>cases e
  |nil=>
   cases e;obtain⟨v,rfl,r1⟩:=rs.one;exact⟨_,rfl,_,r1.int,bD.here (o.of rfl) (.int _)⟩
 |_=>cases e
theorem znS:bC K cA .eq (r2 (xR K cA id)):=by
 intro U H ds vs Q zt rs o;obtain⟨z,e⟩:=o.some';have e:yZ id ds=some z:=e;unfold yZ at e;split at e
 ·obtain⟨b,e1,e2⟩:=kE.mp e;obtain⟨v,v',rfl,r1,r2⟩:=rs.two (ds:=[]);subst e2;exact⟨_,_,rfl,U,_,_,b,r1,r2,e1,(o.of e).here (.bl _)⟩
 ·cases e
theorem znw:bC K cA .ne (r2 (xR K cA not)):=by
 intro U H ds vs Q zt rs o;obtain⟨z,e⟩:=o.some';have e:yZ not ds=some z:=e;unfold yZ at e;split at e
 ·obtain⟨b,e1,e2⟩:=kE.mp e;obtain⟨v,v',rfl,r1,r2⟩:=rs.two (ds:=[]);subst e2;exact⟨_,_,rfl,U,_,_,b,r1,r2,e1,(o.of e).here (.bl _)⟩
 ·cases e
theorem YZ{f:Bool->Bool}{ds:List D}{z:Rz}(h:Ce f ds=some z):∃a b xs k,ds=[a,b]/\mX b=some xs/\memD a xs=some k/\z=.dat (.bl (f k)):=by
 unfold Ce at h;split at h
 ·obtain⟨k,e1,e2⟩:=kE.mp h;obtain⟨xs,e3,e4⟩:=yD.mp e1;exact⟨_,_,xs,k,rfl,e3,e4,e2.symm⟩
 ·cases h
theorem znE:bC K cA .inn (r2 (xT K cA id)):=by
 intro U H ds vs Q zt rs o;obtain⟨z,e⟩:=o.some';obtain⟨a,b,xs,k,rfl,e1,e2,rfl⟩:=YZ (show Ce id ds=some z from e);obtain⟨v,v',rfl,r1,r2⟩:=rs.two (ds:=[]);exact⟨_,_,rfl,U,_,_,xs,k,r1,r2,e1,e2,(o.of e).here (.bl _)⟩
theorem zlM:bC K cA .nin (r2 (xT K cA not)):=by
 intro U H ds vs Q zt rs o;obtain⟨z,e⟩:=o.some';obtain⟨a,b,xs,k,rfl,e1,e2,rfl⟩:=YZ (show Ce not ds=some z from e);obtain⟨v,v',rfl,r1,r2⟩:=rs.two (ds:=[]);exact⟨_,_,rfl,U,_,_,xs,k,r1,r2,e1,e2,(o.of e).here (.bl _)⟩
theorem M9:∀{xs:List D} {ns:List Int} {vs:List V},cC xs=some ns->aC K cA U H xs vs->vs=ns.map V.int
 |[],ns,vs,h,r=>by cases h;cases r;rfl
 |d::xs,ns,vs,h,r=>by
  cases d with
  |int i=>
   simp only[cC,kE] at h;obtain⟨ns',h1,rfl⟩:=h;cases r with
   |cons a r=>cases a;rw[M9 h1 r];rfl
  |_=>simp[cC] at h
theorem SM:∀(a b:List Int),ltI a b=HT.lexLt a b
 |_,[]=>by cases ‹List Int›<;>rfl
 |[],_::_=>rfl
 |x::xs,y::ys=>by
  unfold ltI;rw[SM xs ys,HT.jV]
theorem znX:bC K cA .lt (r2 λx y H Q=>pN (λi j=>.bl (decide (i<j))) x y H Q\/Hx K x y H Q):=by
 intro U H ds vs Q zt rs o;obtain⟨z,e⟩:=o.some';have e:Jf ds=some z:=e;unfold Jf at e;split at e
 ·cases e;obtain⟨v,v',rfl,r1,r2⟩:=rs.two (ds:=[]);exact⟨_,_,rfl,.inl ⟨_,_,r1.int,r2.int,bD.here (o.of rfl) (.bl _)⟩⟩
 ·split at e
  ·rename_i a b h1 h2;cases e;obtain⟨v,v',rfl,r1,r2⟩:=rs.two (ds:=[]);obtain⟨p,us,rfl,t1,q1⟩:=r1.tup;obtain⟨p',us',rfl,t2,q2⟩:=r2.tup;have o2:bD K cA U H (some (.dat (.bl (ltI a b)))) Q:=by
    have o3:bD K cA U H (Jf [.tup _,.tup _]) Q:=o;unfold Jf at o3;simp only[h1,h2] at o3;exact o3
   refine⟨_,_,rfl,.inr ⟨p,p',a,b,rfl,rfl,by rw[<-M9 h1 q1];exact t1.jm,by rw[<-M9 h2 q2];exact t2.jm,?_⟩⟩;rw[<-SM];exact o2.here (.bl _)
  ·cases e
 ·cases e
theorem zlb:bC K cA .add (r2 (rz K)):=by
 intro U H ds vs Q zt rs o;have o:bD K cA U H (Cd ds) Q:=o;cases ds with
 |nil=>exact False.elim o
 |cons a t=>
 cases a with
 |int i=>
  cases t with
  |nil=>exact False.elim o
  |cons b t=>
  cases b with
  |int j=>
   cases t with
   |cons _ _=>exact False.elim o
   |nil=>
    obtain⟨v,v',rfl,r1,r2⟩:=rs.two (ds:=[]);exact⟨_,_,rfl,.inl ⟨_,_,r1.int,r2.int,bD.here o (.int _)⟩⟩
  |_=>exact False.elim o
 |tup xs=>
  cases t with
  |nil=>exact False.elim o
  |cons b t=>
  cases b with
  |tup ys=>
   cases t with
   |cons _ _=>exact False.elim o
   |nil=>
    obtain⟨v,v',rfl,r1,r2⟩:=rs.two (ds:=[]);obtain⟨p,us,rfl,t1,q1⟩:=r1.tup;obtain⟨p',us',rfl,t2,q2⟩:=r2.tup;have o:bD K cA U H (if xs.length+ys.length<=sizeLine then some (.dat (.tup (xs++ys))) else none) Q:=o;by_cases hz:xs.length+ys.length<=sizeLine
    ·rw[if_pos hz] at o;refine⟨_,_,rfl,.inr (.inr (.inl ⟨p,p',us,us',rfl,rfl,t1.jm,t2.jm,by rw[<-q1.len,<-q2.len];exact hz,λe=>?_,λe=>?_,λa ha=>o.tup zt (q1.app q2) ha⟩))⟩
     ·subst e;cases q1;exact o.here (.tup t2 q2)
     ·subst e;cases q2;rw[yL] at o;exact o.here (.tup t1 q1)
    ·rw[if_neg hz] at o;exact o.elim
  |_=>exact False.elim o
 |fl xs=>
  cases t with
  |nil=>exact False.elim o
  |cons b t=>
  cases b with
  |fl ys=>
   cases t with
   |cons _ _=>exact False.elim o
   |nil=>
    obtain⟨v,v',rfl,⟨p,us,rfl,t1,q1⟩,⟨p',us',rfl,t2,q2⟩⟩:=rs.two (ds:=[]);have o:bD K cA U H (if xs.length+ys.length<=sizeLine then some (.nw (xs++ys)) else none) Q:=o;by_cases hz:xs.length+ys.length<=sizeLine
    ·rw[if_pos hz] at o;exact⟨_,_,rfl,.inr (.inl ⟨p,p',us,us',rfl,rfl,t1,t2,by rw[<-q1.len,<-q2.len];exact hz,λa ha=>o a _ ha (q1.app q2)⟩)⟩
    ·rw[if_neg hz] at o;exact o.elim
  |_=>exact False.elim o
 |str x=>
  cases t with
  |nil=>exact False.elim o
  |cons b t=>
  cases b with
  |str y=>
   cases t with
   |cons _ _=>exact False.elim o
   |nil=>
    obtain⟨v,v',rfl,r1,r2⟩:=rs.two (ds:=[]);have o:bD K cA U H (if x.length+y.length<=sizeLine then some (.dat (.str (x++y))) else none) Q:=o;by_cases hz:x.length+y.length<=sizeLine
    ·rw[if_pos hz] at o;exact⟨_,_,rfl,.inr (.inr (.inr ⟨_,_,r1.str,r2.str,hz,o.here (.str _)⟩))⟩
    ·rw[if_neg hz] at o;exact o.elim
  |_=>exact False.elim o
 |_=>exact False.elim o
theorem zlH:bC K cA .len (λxs H Q=>∃p ys,xs=[.ref p]/\(cO K H p ys\/gj K H p ys)/\Q (.int ys.length) H):=by
 intro U H ds vs Q zt rs o;have o:bD K cA U H (rP (λxs=>some (.dat (.int xs.length))) ds) Q:=o;unfold rP at o;split at o
 ·obtain⟨v,rfl,r1⟩:=rs.one;obtain⟨z,e⟩:=o.some';obtain⟨xs,e1,e2⟩:=yD.mp e;obtain⟨a,us,rfl,sq,q⟩:=r1.sq e1;cases e2;refine⟨a,us,rfl,sq,?_⟩;rw[<-q.len];exact(o.of e).here (.int _)
 ·exact o.elim
theorem zkD:bC K cA .list (λxs H Q=>∃p ys,xs=[.ref p]/\(cO K H p ys\/gj K H p ys)/\∀l,H l=none->Q (.ref l) (upd H l (.lst ys))):=by
 intro U H ds vs Q zt rs o;have o:bD K cA U H (rP (λxs=>some (.nw xs)) ds) Q:=o;unfold rP at o;split at o
 ·obtain⟨v,rfl,r1⟩:=rs.one;obtain⟨z,e⟩:=o.some';obtain⟨xs,e1,e2⟩:=yD.mp e;obtain⟨a,us,rfl,sq,q⟩:=r1.sq e1;cases e2;exact⟨a,us,rfl,sq,λl hl=>(o.of e) l us hl q⟩
 ·exact o.elim
theorem zhu:bC K cA .tuple (λxs H Q=>∃p ys,xs=[.ref p]/\((cO K H p ys/\∀l,H l=none->Q (.ref l) (upd H l (.tup ys)))\/(gj K H p ys/\Q (.ref p) H))):=by
 intro U H ds vs Q zt rs o;have o:bD K cA U H (p8 ds) Q:=o;unfold p8 at o;split at o
 ·rename_i d _;obtain⟨v,rfl,r1⟩:=rs.one;cases d with
  |tup xs=>
   obtain⟨a,us,rfl,t,q⟩:=r1.tup;exact⟨a,us,rfl,.inr ⟨t.jm,bD.here o (.tup t q)⟩⟩
  |fl xs=>
   obtain⟨a,us,rfl,t,q⟩:=r1;exact⟨a,us,rfl,.inl ⟨t,λl hl=>bD.tup o zt q hl⟩⟩
  |_=>exact o.elim
 ·exact o.elim
theorem zm8:bC K cA .abs (λxs H Q=>∃i,xs=[.int i]/\Q (.int (if i<0 then -i else i)) H):=by
 intro U H ds vs Q zt rs o;have o:bD K cA U H (qZ (λi=>.int (if i<0 then -i else i)) ds) Q:=o;cases ds with
 |nil=>exact False.elim o
 |cons a t=>
 cases a with
 |int i=>
  cases t with
  |cons _ _=>exact False.elim o
  |nil=>
   obtain⟨v,rfl,r1⟩:=rs.one;rw[r1.int];exact⟨_,rfl,bD.here o (.int _)⟩
 |_=>exact False.elim o
theorem zjo:bC K cA .xH (λxs H Q=>(∃i,xs=[.int i]/\Q (.int i) H)\/∃k,xs=[.bl k]/\Q (.int (if k then 1 else 0)) H):=by
 intro U H ds vs Q zt rs o;have o:bD K cA U H (Jg ds) Q:=o;cases ds with
 |nil=>exact False.elim o
 |cons a t=>
 cases a with
 |int i=>
  cases t with
  |cons _ _=>exact False.elim o
  |nil=>
   obtain⟨v,rfl,r1⟩:=rs.one;rw[r1.int];exact .inl ⟨_,rfl,bD.here o (.int _)⟩
 |bl k=>
  cases t with
  |cons _ _=>exact False.elim o
  |nil=>
   obtain⟨v,rfl,r1⟩:=rs.one;rw[r1.bl];exact .inr ⟨_,rfl,bD.here o (.int _)⟩
 |_=>exact False.elim o
theorem zjj:bC K cA .max2 (λxs H Q=>∃i j,xs=[.int i,.int j]/\Q (.int (if j>i then j else i)) H):=by
 intro U H ds vs Q zt rs o;obtain⟨x,y,e,i,j,rfl,rfl,q⟩:=Ew (K:=K) (cA:=cA) (p:=.max2) (f:=λi j=>.int (if j>i then j else i)) rfl (λi j _ _=>.int _) U H ds vs Q zt rs o;exact⟨i,j,e,q⟩
theorem zka:bC K cA .min2 (λxs H Q=>∃i j,xs=[.int i,.int j]/\Q (.int (if j<i then j else i)) H):=by
 intro U H ds vs Q zt rs o;obtain⟨x,y,e,i,j,rfl,rfl,q⟩:=Ew (K:=K) (cA:=cA) (p:=.min2) (f:=λi j=>.int (if j<i then j else i)) rfl (λi j _ _=>.int _) U H ds vs Q zt rs o;exact⟨i,j,e,q⟩
theorem zga:bC K cA .divmod (λxs H Q=>∃i j,xs=[.int i,.int j]/\wR i j/\∀p,H p=none->Q (.ref p) (upd H p (.tup [.int (i/j),.int (i%j)]))):=by
 intro U H ds vs Q zt rs o;have o:bD K cA U H (dz (λi j=>if 0<j/\j<1073741824 then some (.tup [.int (i/j),.int (i%j)]) else none) ds) Q:=o;obtain⟨z,e⟩:=o.some';obtain⟨i,j,d,rfl,e1,rfl⟩:=YX e;obtain⟨c,rfl⟩:=Jw e1;obtain⟨v,v',rfl,r1,r2⟩:=rs.two (ds:=[]);rw[r1.int,r2.int];exact⟨i,j,rfl,c,λp hp=>(o.of e).tup zt (.cons (.int _) (.cons (.int _) .nil)) hp⟩
theorem M_:∀{xs:List D} {bs:List Bool} {vs:List V},eG xs=some bs->aC K cA U H xs vs->vs=bs.map V.bl
 |[],bs,vs,h,r=>by cases h;cases r;rfl
 |d::xs,bs,vs,h,r=>by
  cases d with
  |bl b=>
   simp only[eG,kE] at h;obtain⟨bs',h1,rfl⟩:=h;cases r with
   |cons q r=>cases q;rw[M_ h1 r];rfl
  |_=>simp[eG] at h
theorem zog:bC K cA .ix (r2 (QX K)):=by
 intro U H ds vs Q zt rs o;have o:bD K cA U H (R4 ds) Q:=o;unfold R4 at o;split at o
 ·rename_i d i _;obtain⟨v,v',rfl,r1,r2⟩:=rs.two (ds:=[]);obtain⟨z,e⟩:=o.some';obtain⟨y,e1,e2⟩:=kE.mp e;obtain⟨xs,e3,e4⟩:=yD.mp e1;obtain⟨a,us,rfl,sq,q⟩:=r1.sq e3;have key:∃w,L2.n_ us i=some w/\Rep K cA U H y w:=by
   unfold L2.n_ at *;rw[<-q.len];obtain⟨j,h1,h2⟩:=yD.mp e4;obtain⟨w,h3,h4⟩:=q.get h2;exact⟨w,by rw[h1];exact h3,h4⟩
  obtain⟨w,hw,lg⟩:=key;subst e2;have q':=(o.of e).here lg;rcases sq with sq|sq
  ·exact⟨_,_,rfl,.inl ⟨a,us,i,w,rfl,r2.int,sq,hw,q'⟩⟩
  ·exact⟨_,_,rfl,.inr (.inl ⟨a,us,i,w,rfl,r2.int,sq,hw,q'⟩)⟩
 ·exact o.elim
noncomputable def Y0(K:W.Frag):V->Option Int->Option Int->Hp->VK->Prop:=λx lo hi H Q=>HJ K x lo hi H Q\/zG K x lo hi H Q
theorem zk4:wY X (Y0 X.K):=xg.or zjB
theorem zkl{d:D}{lo hi:Option Int}{v:V}(zt:Zt U H)(r:Rv K cA U H d v)(o:bD K cA U H (cutD d lo hi) Q):Y0 K v lo hi H Q:=by
 cases d with
 |tup xs=>
  obtain⟨a,us,rfl,t,q⟩:=r.tup;refine .inr ⟨a,us,rfl,t.jm,λe=>?_,λp hp=>bD.tup o zt q.cut hp⟩;have hc:cut xs lo hi=xs:=by
   unfold cut;rw[q.len,e.1,e.2,List.drop_zero,Nat.sub_zero,<-q.len,Gg]
  have o:bD K cA U H (some (.dat (.tup (cut xs lo hi)))) Q:=o;rw[hc] at o;exact o.here (.tup t q)
 |fl xs=>
  obtain⟨a,us,rfl,t,q⟩:=r;exact .inl ⟨a,us,rfl,t,λp hp=>o p _ hp q.cut⟩
 |_=>exact o.elim
end
end Mi
namespace L2
open PySem PySem.Spec PyProof.Rows
section
variable {κ:Type}[DecidableEq κ]
noncomputable def putK(kvs:List (κ×V))(k:κ)(v:V):List (κ×V):=
 if (kvs.any λkv=>decide (kv.1=k))=true then kvs.map (λkv=>if kv.1=k then (kv.1,v) else kv) else kvs++[(k,v)]
theorem zdG(kvs:List (κ×V))(k:κ)(v:V):(putK kvs k v).length<=kvs.length+1:=by
 unfold putK
 split
 ·rw[cg];lia
 ·rw[dG,fK,yK];lia
theorem KV.any(r:KV kvs vs)(k:κ):(kvs.any λkv=>decide (kv.1=k))=vs.any λkv=>decide (kv.1=k):=by
 unfold KV at r
 induction r with
 |nil=>rfl
 |cons h t ih=>rw[List.any_cons,List.any_cons,ih,h.1]
theorem KV.repl(r:KV kvs vs)(k:κ)(ry:RelV y u) :
  KV (kvs.map λkv=>if kv.1=k then (kv.1,y) else kv) (vs.map λkv=>if kv.1=k then (kv.1,u) else kv):=by
 unfold KV at r ⊢
 induction r with
 |nil=>exact .nil
 |@cons p q ps qs h t ih=>
  rw[iU,iU];refine .cons ?_ ih;obtain⟨h1,h2⟩:=h;by_cases e:p.1=k
  ·rw[if_pos e,if_pos (h1.symm.trans e)];exact⟨h1,ry⟩
  ·rw[if_neg e,if_neg (λz=>e (h1.trans z))];exact⟨h1,h2⟩
theorem KV.put(r:KV kvs vs)(k:κ)(ry:RelV y u):KV (putK kvs k y) (stored vs k u):=by
 unfold putK stored;rw[r.any k];by_cases e:(vs.any λkv=>decide (kv.1=k))=true
 ·rw[if_pos e,if_pos e];exact r.repl k ry
 ·rw[if_neg e,if_neg e];exact Paired.snoc r ⟨rfl,ry⟩
end
theorem zn1(r:RelV (kV k) u):(cj P w).is k u=true:=by
 cases k with
 |inl i=>obtain⟨t,e⟩:=(show ∃t,u=Value.int i t from r);subst e;exact zdK P w i t
 |inr x=>obtain⟨t,e⟩:=(show ∃t,u=Value.str x t from r);subst e;exact zdB P w x t
section
variable {P:Program}{w:World}{H:Hp}{h:Heap}{a:Addr}
theorem znl(ok:gK P w H h)(e:Rd H a u):aU P w H h a u:=e.ok ok
theorem znC(ok:gK P w H h)(e:Rd H a (.dK kvs)):kvs.length<=sizeLine/\(a==sysModules)=false/\∃vs,KV kvs vs/\h.DictOf (cj P w) a vs:=
 show aU P w H h a (.dK kvs) from znl ok e
theorem znz(ok:gK P w H h)(e:H a=some (.dK kvs)):kvs.length<=sizeLine/\(a==sysModules)=false/\∃vs,KV kvs vs/\h.DictOf (cj P w) a vs:=znC ok (.inl e)
end
section
variable {X:Cx}{ao:List (Addr×Obj)}{Z:St}{H:Hp}{s:Shared}{a:Addr}{y v:V}{u r:Value}{o:Option V}{A:Around}{E:Value->Shared->Prop}
theorem Inv.big(I:Inv X ao Z H s):sysModules<s.heap.objs.size:=by
 have h:mainGlobals<s.heap.objs.size:=(I.mod.glob.keeps I.bk).lt;exact Nat.lt_trans (by decide) h
theorem Y4(I:Inv X ao Z H s)(mu:GC (H a))(hs:Heap.SameBut a s.heap h')(he:∃q,h'.get? a=some q)(new:aU X.prog X.w (upd H a ob) h' a ob) :
  Inv X ao Z (upd H a ob) {s with heap:=h',toks:=t'}:=
 I.write (x:=a) (e:=a) mu (.inl rfl) (λb q hb z=>(hs.2 b hb).trans z) he new
theorem zlf(z:kvs.length<=sizeLine)(hd:(a==sysModules)=false)(rel:KV kvs vs)(dd:h'.DictOf (cj P w) a vs) :
  aU P w H' h' a (.dK kvs):=⟨z,hd,vs,rel,dd⟩
end
section
variable {X:Cx}{ao:List (Addr×Obj)}{Z:St}{H:Hp}{s:Shared}{a:Addr}{kvs:List (Key×V)}{k:Key}{u:Value}{A:Around}{E:Value->Shared->Prop}
end
def Cv(i:Expr):Prop:=∀ov iv,subscripted i false ov iv=operate [ov,iv] (getItem ov iv)
theorem zj6{prog:Program}{w:World}{A:Around}{E:Value->Shared->Prop}{s:Shared}{env:Env}{value slice:Expr}{pos:Pos}{T id:String}{Q:Value->Shared->Prop}
  (hl:typeLookup (.type T) "__getitem__"=pure (some (.builtin id))) (hs:Cv slice)
  (h:wpAny (model prog w) A (eval value env) (λo s₁=>wpAny (model prog w) A (eval slice env) (λi s₂=>s₂.TypeIs o T/\wpAny (model prog w) A (getItem o i) Q E s₂) E s₁) E s) :
  wpAny (model prog w) A (eval (.Subscript value slice pos) env) Q E s:=by
 refine Subscript_ (gZ h (λo s₁ h₁=>gZ h₁ (λi s₂ h₂=>?_) λ_ _ x=>x) λ_ _ x=>x);obtain⟨hT,h₂⟩:=h₂;unfold subscriptTail;refine aB ?_;rw[getitemInPython_of_ne hT.not_modules];refine aB (wpAny_specialOf hT hl ?_);have fin:wpAny (model prog w) A (subscripted slice false o i) (λr s₃=>wpAny (model prog w) A (letTemporaryGo value o r >>= λ_=>pure r) Q E s₃) E s₂:=by
  rw[hs o i];exact wpAny_operating (gZ h₂ (λr s₃ h₃=>aB (wpAny_letTemporaryGo (aR h₃))) λ_ _ x=>x)
 first
  |exact aR (aB fin)
  |exact aB (aR (aB fin))
  |exact aB fin
section
variable {X:Cx}{o i e value:Expr}{pos pos' tpos:Pos}{td ty tv:TE}
end
theorem zhG(h:Heap)(hb:sysModules<h.objs.size):aU P w H (h.push {cls:=.type "dict",data:=.dict #[]}) h.objs.size (.dK []):=
 ⟨vV _,yF.mpr (Ne.symm (dw hb)),[],.nil,Heap.DictOf.new h⟩
section
variable {X:Cx}{pos:Pos}
end
noncomputable def qj:List (TE×TE)->St->Hp->(List (V×V)->Hp->Prop)->Prop
 |[],_,H,Q=>Q [] H
 |(tk,tv)::r,Z,H,Q=>tk Z H λx H1=>tv Z H1 λy H2=>qj r Z H2 λps H3=>Q ((x,y)::ps) H3
noncomputable abbrev VV:List (V×V)->List (Value×Value)->Prop:=Paired λp q=>RelV p.1 q.1/\RelV p.2 q.2
def Nb(X:Cx)(pos:Pos)(keys:List (Option Expr))(values:List Expr)(Cw:List (TE×TE)):Prop:=
 ∀(ao:List (Addr×Obj)) (s:Shared) (Z:St) (H:Hp) (Q:List (V×V)->Hp->Prop),Inv X ao Z H s->qj Cw Z H Q->
  wpAny (model X.prog X.w) X.A (evalPairs (pairTrees keys values X.env pos)) (λvs s'=>∃ps H',Inv X ao Z H' s'/\VV ps vs/\Q ps H') X.xe s
theorem zki:Nb X pos [] [] []:=λao s Z H Q I h=>pairTrees_nil_walk ⟨[],H,I,.nil,h⟩
theorem zik(hk:PE X k tk)(hv:PE X v tv)(hr:Nb X pos ks vs Cw) :
  Nb X pos (some k::ks) (v::vs) ((tk,tv)::Cw):=λao s Z H Q I h=>
 pairTrees_cons_walk (bf (hk ao s Z H _ I h) λu s1 hx=>eE hx λx H1 I1 rx q1=>bf (hv ao s1 Z H1 _ I1 q1) λw2 s2 hx=>eE hx λy H2 I2 ry q2=>
  bf (hr ao s2 Z H2 _ I2 q2) λws s3 hx=>eE hx λps H3 I3 rel q3=>⟨(x,y)::ps,H3,I3,.cons ⟨rx,ry⟩ rel,q3⟩)
noncomputable def kh(kvs more:List (Key×V)):List (Key×V):=more.foldl (λacc kv=>putK acc kv.1 kv.2) kvs
theorem KV.merge:∀{more:List (Key×V)} {rs:List (Key×Value)} {kvs:List (Key×V)} {vs:List (Key×Value)},KV more rs->KV kvs vs->KV (kh kvs more) (merged vs rs):=by
 intro more rs kvs vs r;unfold KV at r
 induction r generalizing kvs vs with
 |nil=>intro q;exact q
 |@cons p q ps qs h t ih=>
  intro r0;have e:KV (putK kvs p.1 p.2) (stored vs q.1 q.2):=by
   have:=r0.put p.1 h.2;rw[<-h.1];exact this
  exact ih e
theorem Y5:∀(more kvs:List (Key×V)),(kh kvs more).length<=kvs.length+more.length
 |[],kvs=>by show kvs.length<=kvs.length+0;lia
 |p::r,kvs=>by
  have h1:=Y5 r (putK kvs p.1 p.2);have h2:=zdG kvs p.1 p.2;show (kh (putK kvs p.1 p.2) r).length<=_;rw[fK];lia
theorem Y6:∀{kvs:List (Key×V)} {ws:List (Value×Value)},VV (kvs.map λkv=>(kV kv.1,kv.2)) ws->∃rs,Carries (cj P w) ws rs/\KV kvs rs
 |[],_,r=>by rw[List.map_nil] at r;cases r;exact⟨[],True.intro,.nil⟩
 |p::kvs,_,r=>by
  rw[iU] at r;cases r with
  |@cons a b as bs h t=>
   obtain⟨rs,c,q⟩:=Y6 (P:=P) (w:=w) t;obtain⟨b1,b2⟩:=b;exact⟨(p.1,b2)::rs,⟨zn1 h.1,rfl,c⟩,.cons ⟨rfl,h.2⟩ q⟩
noncomputable def Jx(Cw:List (TE×TE)):TE:=λZ H Q=>∀p,H p=none->qj Cw Z (upd H p (.dK [])) λps H2=>H2 p=some (.dK [])/\∃kvs:List (Key×V),ps=kvs.map (λkv=>(kV kv.1,kv.2))/\kvs.length<=15/\Q (.ref p) (upd H2 p (.dK (kh [] kvs)))
theorem zkG(h:Nb X pos keys values Cw)(mO:keys.all (·.isSome)=true)(hl:keys.length=values.length)(h0:keys≠[])
  (h15:keys.length<=15):PE X (.Dict keys values pos) (Jx Cw):=by
 intro ao s Z H Q I q;have hn:=I.hok.fresh (bO s.heap.objs.size);have I1:=I.laid (a:=s.heap.objs.size) (o:=.dK []) (h':=s.heap.push {cls:=.type "dict",data:=.dict #[]}) (t':=s.toks) (λ_ _ q=>bY _ q) (bO _) (zhG s.heap I.big);refine wpAny_Dict_walk (knd:=cj X.prog X.w) mO hl h0 h15 (bf (h ao _ Z _ _ I1 (q _ hn)) λws s2 ⟨ps,H2,I2,rel,e,kvs,ep,lk,q2⟩=>?_);subst ep;obtain⟨rs,c,rk⟩:=Y6 (P:=X.prog) (w:=X.w) rel;obtain⟨z,hd,vs0,r0,dd⟩:=znz I2.hok e;cases r0;refine⟨rs,c,dd,λh' Ie hs=>⟨.ref s.heap.objs.size,_,?_,rfl,q2⟩⟩;have hz:(kh [] kvs).length<=sizeLine:=by
  have h1:=Y5 kvs [];rw[yK] at h1;rw[qJ];lia
 have he:∃q,h'.get? s.heap.objs.size=some q:=let ⟨q,_,_,hq,_⟩:=Ie;⟨q,hq⟩;exact Y4 I2 (by rw[e];exact True.intro) hs he (zlf hz hd (rk.merge .nil) Ie)
section
variable {X:Cx}{ao:List (Addr×Obj)}{Z:St}{H:Hp}{s:Shared}{a:Addr}{y d:V}{u r:Value}{o:Option V}{A:Around}{E:Value->Shared->Prop}
end
section
variable {X:Cx}{o e f:Expr}{apos cpos:Pos}{td ty tx:TE}
end
section
variable {X:Cx}{ao:List (Addr×Obj)}{Z:St}{H:Hp}{s:Shared}{a:Addr}{kvs:List (Key×V)}{A:Around}{E:Value->Shared->Prop}
end
section
variable {X:Cx}{ao:List (Addr×Obj)}{Z:St}{H:Hp}{s:Shared}{a:Addr}{y:V}{u:Value}{A:Around}{E:Value->Shared->Prop}
end
end L2
namespace Mi
open PySem PySem.Spec PyProof.Rows L2
section
variable {X:Cx}{cA:Cl}{aq:Nat->Nat->Bool}{aj:Bool}{F:Fn}{EX:XS}{a b c d e o:Expr}{A B C Dd E' O:E}{pos pp p2 apos cpos:Pos}{es:List Expr}{Xs:Es}{fz:Bool}{p:Pr}{x:Str}{U:Ph}{H:Hp}{s:S}{lo hi:Option Expr}{Lo Hi:Eo}
def Jy(X:Cx)(cA:Cl)(aq:Nat->Nat->Bool)(aj:Bool)(F:Fn)(EX:XS)(oe:Option Expr)(m:Eo):Prop:=
 PO X oe (λZ H Q=>∃U J s,aZ X.K cA U H Z J/\aF X.K cA U H s/\Run X.K cA (xK aq aj F m J) U H s (λi _ U' H'=>Q i H') (eX X.K cA EX Z))
theorem PO.weak{oe:Option Expr}{t t':TO}(h:PO X oe t)(f:∀Z H Q,t' Z H Q->t Z H Q):PO X oe t':=by
 intro ao s Z H Q I q;exact h ao s Z H Q I (f Z H Q q)
theorem zoz:Jy X cA aq aj F EX none .no:=PO.weak zkz λZ H Q hh=>un hh λU J s hL hS h=>h.bG hS
theorem zlO(ha:SE X cA aq aj F EX a A):Jy X cA aq aj F EX (some a) (.yes A):=PO.weak (zkO ha) λZ H Q hh=>un hh λU J s hL hS h=>by
 refine bB hL hS h λx H1 U1 d1 s1 x1 hL1 aH r1 h1=>?_;obtain⟨i,_,e,h3⟩:=Jr r1 h1;exact⟨i,e,h3.bG aH⟩
theorem Jz{β:Type}{Z:L2.St}{J:Vs}{m:Eo}{k:Option Int->M β}{P:β->S->Ph->Hp->Prop}(hL:aZ X.K cA U H Z J)(hS:aF X.K cA U H s)(h:Run X.K cA (M.bd (xK aq aj F m J) k) U H s P (eX X.K cA EX Z)){Q:Option Int->Hp->Prop}
  (f:∀i H1 U1 s1,Ext U H U1 H1->aZ X.K cA U1 H1 Z J->aF X.K cA U1 H1 s1->Run X.K cA (k i) U1 H1 s1 P (eX X.K cA EX Z)->Q i H1) :
  ∃U J s,aZ X.K cA U H Z J/\aF X.K cA U H s/\Run X.K cA (xK aq aj F m J) U H s (λi _ U' H'=>Q i H') (eX X.K cA EX Z):=
 ⟨U,J,s,hL,hS,h.bd.imp λi s1 U1 H1 ⟨x1,r1,h1⟩=>f i H1 U1 s1 x1 (hL.mono x1 hS.lz) r1 h1⟩
theorem znQ(ha:SE X cA aq aj F EX a A)(hl:Jy X cA aq aj F EX lo Lo)(hh:Jy X cA aq aj F EX hi Hi):SE X cA aq aj F EX (.Subscript a (.Slice lo hi none p2) pos) (.sl fz A Lo Hi):=PE.weak (zh5 zk4 ha hl hh) λZ H Q hh=>un hh λU J s hL hS h=>by
 refine bB hL hS h λx H1 U1 d1 s1 x1 hL1 aH r1 h1=>Jz hL1 aH h1 λl H2 U2 s2 x2 hL2 aX h2=>Jz hL2 aX h2 λu H3 U3 s3 x3 xP lQ h3=>?_;obtain⟨dd,rv,h4⟩:=Jt lQ ((r1.mono x2 aH.lz).mono x3 aX.lz) h3;exact zkl lQ.zs rv (tK lQ h4)
theorem Y7:∀bs:List Bool,(List.range bs.length).all (λi=>(bs[i]?).getD false)=bs.all id
 |[]=>rfl
 |b::r=>by
  rw[fK,Pg,yM,Gs,yM];have:=Y7 r;simp only[Function.comp_def,Dk,List.getElem?_cons_zero,Option.getD_some,id];rw[this]
theorem zfV(hc:X.aj=true):cX X (.builtin "all") (λxs H Q=>∃(p:Addr) (bs:List Bool),xs=[.ref p]/\cO X.K H p (bs.map V.bl)/\Q (.bl (bs.all id)) H):=by
 intro ao s Z H xs us Q I r ⟨p,bs,e,hp,q⟩;subst e;obtain⟨u,rfl,ru⟩:=Vals.one r;cases (show u=Value.ref p from ru);obtain⟨its,rv,pl,hz⟩:=I.list hp;have hl:s.heap.IsList p its.toArray:=pl.isList;have hpn:p≠s.heap.objs.size:=by
  obtain⟨o,hg,_⟩:=hl;exact dw (bN hg)
 refine call_all_walk (K_ hl ?_);refine⟨_,_,_,_,_,_,λi=>(bs[i]?).getD false,rfl,Walks.list (A:=X.A.in1) (I.ok.hd hc) _ p hpn its.toArray,⟨⟨_,fO _ rfl,rfl,rfl⟩,hl.push _⟩,?_,λh' tk hk=>?_⟩
 ·intro i v s' Q' E' hP hQ;have hi:its[i]?=some v:=by simpa using hP
  have hb:∃b,bs[i]?=some b:=by
   have dU:i<its.length:=(dN.mp hi).1;have z:=rv.length;rw[cg] at z;exact⟨_,dj (by lia)⟩
  obtain⟨b,hb⟩:=hb;obtain⟨u,e1,e2⟩:=rv.get (i:=i) (x:=V.bl b) (by rw[iW,hb];rfl);rw[hi] at e1;cases e1;cases (show v=Value.bool b from e2);have hQ:Q' ((bs[i]?).getD false) s':=hQ;rw[hb] at hQ;exact vN hQ
 ·have ez:(List.range its.toArray.size).all (λi=>(bs[i]?).getD false)=bs.all id:=by
   have z:=rv.length;rw[cg] at z;rw[fD,<-z];exact Y7 bs
  rw[ez];refine⟨.bl (bs.all id),H,I.kept (h':=h') (t':=tk) (old_kept hk),rfl,q⟩
theorem zmt{K:W.Frag}:bC K cA .all (λxs H Q=>∃(p:Addr) (bs:List Bool),xs=[.ref p]/\cO K H p (bs.map V.bl)/\Q (.bl (bs.all id)) H):=by
 intro U H ds vs Q zt rs o;have o:bD K cA U H (Cj ds) Q:=o;unfold Cj at o;split at o
 ·obtain⟨v,rfl,⟨ad,us,rfl,l,q⟩⟩:=rs.one;obtain⟨z,e⟩:=o.some';obtain⟨bs,e1,e2⟩:=kE.mp e;subst e2;exact⟨ad,bs,rfl,by rw[<-M_ e1 q];exact l,(o.of e).here (.bl _)⟩
 ·exact o.elim
noncomputable def zK(k:Bool):Value->Bool
 |.bool c=>c==k
 |_=>false
theorem Y8{A:Around}{sh:Shared}{k:Bool}{bs:List Bool}{its:List Value}(rv:Vals (bs.map V.bl) its):∀y,y∈its.toArray->SeqAt.EqAt A sh y (.bool k) (zK k y):=λy hy=>by
 have hy:y∈its:=by simpa using hy
 obtain⟨i,hi,e⟩:=yH hy;have hl:=rv.length;rw[cg] at hl;obtain⟨u,e1,e2⟩:=rv.get (i:=i) (x:=V.bl (bs[i]'(by lia))) (by rw[iW,dj (by lia)];rfl);rw[dj hi,e] at e1;cases e1;cases e2;exact SeqAt.EqAt.bool_bool _ _
theorem Y9:∀{bs:List Bool} {its:List Value},Vals (bs.map V.bl) its->its.countP (zK k)=bs.count k
 |[],_,.nil=>rfl
 |b::bs,_,.cons r t=>by
  cases r;rw[Ah,List.count_cons,Y9 t];rfl
theorem zfw:Hy X "list.count" (λx xs H Q=>∃(l:Addr) (bs:List Bool) (b:Bool),x=.ref l/\xs=[.bl b]/\cO X.K H l (bs.map V.bl)/\Q (.int (bs.count b)) H):=by
 intro ao sh Z H x xs v us Q I rx r ⟨l,bs,b,e1,e2,hl,q⟩;subst e1 e2;cases (show v=Value.ref l from rx);obtain⟨u,rfl,ru⟩:=Vals.one r;cases (show u=Value.bool b from ru);obtain⟨its,rv,pl,_⟩:=I.list hl;obtain⟨⟨cls,dd,data,sl⟩,hg,hc,n,hd⟩:=pl.isList;simp only at hc hd;subst hc hd;refine Av PySem.F.slot_list_count ⟨_,hg,rfl⟩ PySem.F.entry_list_count (PySem.F.args_list_count_2 _ _) (SeqAt.list_countAt l its.toArray n dd sl (.bool b) (zK b)) ⟨hg,Y8 rv,?_⟩;show EP X ao Z Q (.int _ _) _;refine⟨.int (bs.count b),H,I.tok _,?_,q⟩;rw[show its.toArray.toList=its from rfl,Y9 rv];exact⟨_,rfl⟩
theorem Y_:∀{bs:List Bool} {its:List Value} {j:Nat},Vals (bs.map V.bl) its->bs.idxOf? k=some j->∃hj:j<its.length,zK k its[j]=true/\∀m (hm:m<its.length),m<j->zK k its[m]=false
 |[],_,j,.nil,h=>by simp at h
 |b::bs,_,j,.cons r t,h=>by
  cases r;rw[List.idxOf?_cons] at h;by_cases hb:b=k
  ·subst hb;simp at h;subst h;exact⟨Nat.zero_lt_succ _,by simp[zK],λm hm z=>absurd z (Nat.not_lt_zero _)⟩
  ·have hb':(b==k)=false:=by simpa using hb
   rw[hb'] at h;simp at h;obtain⟨j',h1,h2⟩:=h;subst h2;obtain⟨hj,a1,a2⟩:=Y_ t h1;refine⟨by simpa using hj,by simpa using a1,λm hm z=>?_⟩;cases m with
   |zero=>simp[zK,hb']
   |succ m=>simpa using a2 m (by simpa using hm) (by lia)
theorem zfI:Hy X "list.index" (λx xs H Q=>∃(l:Addr) (bs:List Bool) (b:Bool) (j:Nat),x=.ref l/\xs=[.bl b]/\cO X.K H l (bs.map V.bl)/\bs.idxOf? b=some j/\Q (.int j) H):=by
 intro ao sh Z H x xs v us Q I rx r ⟨l,bs,b,j,e1,e2,hl,hj,q⟩;subst e1 e2;cases (show v=Value.ref l from rx);obtain⟨u,rfl,ru⟩:=Vals.one r;cases (show u=Value.bool b from ru);obtain⟨its,rv,pl,hz⟩:=I.list hl;obtain⟨⟨cls,dd,data,sl⟩,hg,hc,n,hd⟩:=pl.isList;simp only at hc hd;subst hc hd;obtain⟨dU,h1,h2⟩:=Y_ rv hj;have hs:(j:Int)<2^63-1:=by
  have z:=rv.length;rw[qJ] at hz
  lia
 refine Av PySem.F.slot_list_index ⟨_,hg,rfl⟩ PySem.F.entry_list_index (PySem.F.args_list_index_2 _ _) (SeqAt.list_indexAt l its.toArray n dd sl (.bool b) (zK b) j (by simpa using dU) hs (by simpa using h1) (λm hm z=>by simpa using h2 m (by simpa using hm) z)) ⟨hg,Y8 rv,?_⟩;exact⟨.int j,H,I.tok _,⟨_,rfl⟩,q⟩
def SN(K:W.Frag)(cA:Cl)(p:Pr)(r:V->List V->Hp->VK->Prop):Prop:=bC K cA p (λvs H Q=>∃x xs,vs=x::xs/\r x xs H Q)
theorem zhh{K:W.Frag}:SN K cA .count (λx xs H Q=>∃(l:Addr) (bs:List Bool) (b:Bool),x=.ref l/\xs=[.bl b]/\cO K H l (bs.map V.bl)/\Q (.int (bs.count b)) H):=by
 intro U H ds vs Q zt rs o;have o:bD K cA U H (qb ds) Q:=o;unfold qb at o;split at o
 ·obtain⟨v,v',rfl,⟨ad,us,rfl,l,q⟩,r2⟩:=rs.two (ds:=[]);obtain⟨z,e⟩:=o.some';obtain⟨bs,e1,e2⟩:=kE.mp e;subst e2;exact⟨_,_,rfl,ad,bs,_,rfl,by rw[r2.bl],by rw[<-M_ e1 q];exact l,(o.of e).here (.int _)⟩
 ·exact o.elim
theorem zhr{K:W.Frag}:SN K cA .index (λx xs H Q=>∃(l:Addr) (bs:List Bool) (b:Bool) (j:Nat),x=.ref l/\xs=[.bl b]/\cO K H l (bs.map V.bl)/\bs.idxOf? b=some j/\Q (.int j) H):=by
 intro U H ds vs Q zt rs o;have o:bD K cA U H (qd ds) Q:=o;unfold qd at o;split at o
 ·obtain⟨v,v',rfl,⟨ad,us,rfl,l,q⟩,r2⟩:=rs.two (ds:=[]);obtain⟨z,e⟩:=o.some';obtain⟨j,e1,e2⟩:=kE.mp e;obtain⟨bs,e3,e4⟩:=yD.mp e1;subst e2;exact⟨_,_,rfl,ad,bs,_,j,rfl,by rw[r2.bl],by rw[<-M_ e3 q];exact l,e4,(o.of e).here (.int _)⟩
 ·exact o.elim
noncomputable def kdT:Kd->String
 |.list=>"list"
 |.str=>"str"
 |_=>"dict"
theorem zjb{K:W.Frag}{k:Kd}{dd:D}{v:V}(h:pZ k dd=true)(r:Rv K cA U H dd v):Mq K (kdT k) v H:=by
 cases k<;>cases dd<;>first
  |(cases h;done)
  |(obtain⟨a,vs,rfl,l,_⟩:=r;exact .inl ⟨rfl,vs,l⟩)
  |(rw[r.str];exact rfl)
  |(cases (show Rep K cA U H (.fd _ _) v from r) with|@fd _ _ _ q n=>exact .inr (.inr (.inl ⟨rfl,.inl ⟨_,q⟩⟩)))
theorem Za{k:Kd}{id:String}{name:Str}{r:V->List V->Hp->VK->Prop}(pa:PlainAttrs (kdT k))(slot:Slot (kdT k) name id)(HN:typeOf (.builtin id)=pure (.type "method_descriptor"))(hm:Hy X id r)(hr:SN X.K cA p r)
  (ho:SE X cA aq aj F EX o O) (ha:SA X cA aq aj F EX (e::es) Xs)
  (bL:attributeBase o name X.env (eval o X.env)=eval o X.env:=by rfl)
  (mL:((backTo cpos (starEach (e::es) X.env)).all (λx=>!x.1)&&(backToKw cpos (keywordEach [] X.env)).all (λx=>x.1.isSome)
  &&decide ((e::es).length+([]:List Keyword).length+(if ([]:List Keyword).isEmpty then 0 else 1)<30))=true:=by rfl)
  (cP:(apos.endLine==cpos.line)=true:=by rfl) (hs:starEach (e::es) X.env=(false,eval e X.env)::starEach es X.env:=by rfl) (cL:(backTo cpos (starEach es X.env)).any (·.1)=false:=by rfl) :
  SE X cA aq aj F EX (.Call (.Attribute o name apos) (e::es) [] cpos) (.meth fz p k O Xs):=PE.weak (XD pa slot HN hm ho ha bL mL cP hs cL) λZ H Q hh=>un hh λU J s hL hS h=>by
 refine bB hL hS h λx H1 U1 d1 s1 x1 hL1 aH r1 h1=>?_;obtain⟨dd,rv,h2⟩:=Jt aH r1 h1;by_cases hk:pZ k dd=true
 ·rw[if_pos hk] at h2;refine⟨zjb hk rv,oM hL1 aH h2 λys H2 U2 ds s2 x2 hL2 aX r2 h3=>?_⟩;obtain⟨ds,rs,h4⟩:=uO aX (.cons (r1.mono x2 aH.lz) r2) h3;obtain⟨_,_,e,q⟩:=hr U2 H2 ds _ _ aX.zs rs (tK aX h4);cases e;exact q
 ·rw[if_neg hk] at h2;exact h2.elim
noncomputable def Nf:Kd->String->Bool
 |.int,"int"=>true
 |.int,"bool"=>true
 |.bool,"bool"=>true
 |.str,"str"=>true
 |.tuple,"tuple"=>true
 |.list,"list"=>true
 |.dict,"dict"=>true
 |_,_=>false
noncomputable def wz:Kd->Option Value
 |.int=>some (.type "int")
 |.bool=>some (.type "bool")
 |.str=>some (.type "str")
 |.tuple=>some (.type "tuple")
 |.list=>some (.type "list")
 |.dict=>some (.type "dict")
 |_=>none
theorem zma{K:W.Frag}{k:Kd}{cu:Value}(h:wz k=some cu){T:String}(hT:T∈["NoneType","bool","int","str","tuple","list","dict"]):PySem.W.kitOne K (.type T) cu=some (Nf k T):=by
 simp only[gY,List.mem_nil_iff,or_false] at hT;cases k<;>simp only[wz] at h<;>cases h<;>rcases hT with rfl|rfl|rfl|rfl|rfl|rfl|rfl<;>rfl
structure uU(K:W.Frag)(cA:Cl)(aq:Nat->Nat->Bool):Prop where
 xc:∀c,XC K (cA.a c)
 aq:∀c e,PySem.W.kitOne K (.ref (cA.a c)) (.ref (cA.a e))=some (aq c e)
 pX:∀c,PySem.W.kitOne K (.ref (cA.a c)) (.type "ValueError")=some true
noncomputable def Ey(cA:Cl):Kd->V
 |.cls e=>.ref (cA.a e)
 |.pX=>.ty "ValueError"
 |.int=>.ty "int"
 |.bool=>.ty "bool"
 |.str=>.ty "str"
 |.tuple=>.ty "tuple"
 |.list=>.ty "list"
 |.dict=>.ty "dict"
theorem zh3(Cs:wz k=none->uU X.K cA aq) :
  cX X (.builtin "isinstance") (λxs H Q=>∃U d v bb,xs=[v,Ey cA k]/\Rv X.K cA U H d v/\lK aq d k=some bb/\Q (.bl bb) H):=by
 intro ao sh Z H xs us Q I r ⟨U,d,v,bb,e,rd,hi,q⟩;subst e;obtain⟨u,w,rfl,ru,SQ⟩:=Vals.two r;have uV:∀tk,EP X ao Z Q (.bool bb) {sh with toks:=tk}:=λtk=>⟨.bl bb,H,I.tok tk,rfl,q⟩;have bt:∀{T:String} {Hh:Heap->Prop},PySem.W.KitX X.K u (.type T) Hh->Hh sh.heap->T∈["NoneType","bool","int","str","tuple","list","dict"]->u≠Value.builtin "__main__.__loader__#opaque"->(∃cu,wz k=some cu/\w=cu/\Nf k T=bb)->wpAny (model X.prog X.w) X.A (PySem.call (.builtin "isinstance") [u,w]) (EP X ao Z Q) X.xe sh:=λ{T Hh} zzZ hh hT hx ⟨cu,h1,h2,h3⟩=>by
  subst h2 h3;exact PySem.W.kia_one zzZ I.kZ hh (zma h1 hT) hx uV
 have wv:∀cu,wz k=some cu->w=cu:=λcu h=>by
  cases k<;>simp only[wz] at h<;>cases h<;>exact SQ
 have fin:∀T,lK aq d k=(match wz k with|some _=>some (Nf k T)|none=>none)->∃cu,wz k=some cu/\w=cu/\Nf k T=bb:=λT h=>by
  rw[hi] at h;cases z:wz k with
  |none=>rw[z] at h;cases h
  |some cu=>rw[z] at h;cases h;exact⟨cu,rfl,wv cu z,rfl⟩
 cases d with
 |non=>
  cases (show Rep X.K cA U H .non v from rd);cases (show u=Value.none from ru);exact bt PySem.W.kitx_none trivial (by simp) (λz=>nomatch z) (fin "NoneType" (by cases k<;>rfl))
 |bl b=>
  cases rd.bl;cases (show u=Value.bool b from ru);exact bt PySem.W.kitx_bool trivial (by simp) (λz=>nomatch z) (fin "bool" (by cases k<;>rfl))
 |int i=>
  cases rd.int;obtain⟨t,z⟩:=(show ∃t,u=Value.int i t from ru);cases z;exact bt PySem.W.kitx_int trivial (by simp) (λz=>nomatch z) (fin "int" (by cases k<;>rfl))
 |str y=>
  cases rd.str;obtain⟨t,z⟩:=(show ∃t,u=Value.str y t from ru);cases z;exact bt PySem.W.kitx_str trivial (by simp) (λz=>nomatch z) (fin "str" (by cases k<;>rfl))
 |tup xs=>
  obtain⟨ad,vs,rfl,h1,h2⟩:=rd.tup;cases (show u=Value.ref ad from ru);obtain⟨its,_,ht,_⟩:=I.tuple h1.jm;obtain⟨o,q1,q2,_⟩:=ht;exact bt PySem.W.kitx_tuple ⟨o,q1,q2⟩ (by simp) (λz=>nomatch z) (fin "tuple" (by cases k<;>rfl))
 |fl xs=>
  obtain⟨ad,vs,rfl,h1,h2⟩:=rd;cases (show u=Value.ref ad from ru);obtain⟨its,_,ht,_⟩:=I.list h1;obtain⟨o,q1,q2,_⟩:=ht.isList;exact bt PySem.W.kitx_list ⟨o,q1,q2⟩ (by simp) (λz=>nomatch z) (fin "list" (by cases k<;>rfl))
 |fd ks vs=>
  cases (show Rep X.K cA U H (.fd ks vs) v from rd) with
  |@fd ad kk ii q1 n=>
   cases (show u=Value.ref ad from ru);obtain⟨_,_,vs,_,o,es',ep,g1,g2,_⟩:=(show aU X.prog X.w H sh.heap ad (.dK [(.inr kk,.int ii)]) from I.hok ad _ q1);exact bt PySem.W.kitx_dict ⟨o,g1,g2.1⟩ (by simp) (λz=>nomatch z) (fin "dict" (by cases k<;>rfl))
 |ob c fs=>cases k<;>cases hi
 |any=>cases k<;>cases hi
 |exc c fs=>
  cases (show Rep X.K cA U H (.exc c fs) v from rd) with
  |@exc ad _ _ vs hx rs=>
   cases (show u=Value.ref ad from ru);have hI:∃ox od,PySem.W.InstAt sh.heap ad ox (cA.a c) od:=by
    obtain⟨_,⟨_,_,hx⟩|⟨dx,hx,_,hd,_⟩⟩:=hx
    ·obtain⟨⟨oe,vs,g1,g2,g3,g4⟩,_⟩:=(show aU X.prog X.w H sh.heap ad (jX ad (cA.a c) none) from I.hok ad _ hx);exact⟨oe,none,g1,g2,by unfold PySem.W.notCls;rw[g4],by rw[g3];trivial⟩
    ·obtain⟨⟨oe,vs,g1,g2,g3,g4⟩,_⟩:=(show aU X.prog X.w H sh.heap ad (jX ad (cA.a c) (some dx)) from I.hok ad _ hx);obtain⟨mA,⟨od,es,ep,e1,c1⟩,_⟩:=(show aU X.prog X.w H sh.heap dx (.xd _) from I.hok dx _ hd);exact⟨oe,some od,g1,g2,by unfold PySem.W.notCls;rw[g4],by rw[g3];exact e1⟩
   cases k with
   |cls e=>
    cases (show w=Value.ref (cA.a e) from SQ);have z:some (aq c e)=some bb:=hi;cases z;exact PySem.W.kia_one (Yc ((Cs rfl).xc c)) I.kZ hI ((Cs rfl).aq c e) (λz=>nomatch z) uV
   |pX=>
    cases (show w=Value.type "ValueError" from SQ);have z:some true=some bb:=hi;cases z;exact PySem.W.kia_one (Yc ((Cs rfl).xc c)) I.kZ hI ((Cs rfl).pX c) (λz=>nomatch z) uV
   |_=>cases hi
theorem zlX(Cs:wz k=none->uU X.K cA aq)(hg:Gl X "isinstance")(hm:X.mg "isinstance"=none)(ha:SE X cA aq aj F EX a A)(hk:PE X kx (tC (Ey cA k)))(h1:starEach [a,kx] X.env=(false,eval a X.env)::starEach [kx] X.env:=by rfl)(h2:starEach [kx] X.env=(false,eval kx X.env)::starEach [] X.env:=by rfl)
  (hpl:(backTo pos (starEach [kx] X.env)).any (·.1)=false:=by rfl):SE X cA aq aj F EX (.Call (.Name "isinstance" pp) [a,kx] [] pos) (.g8 A k):=PE.weak (Xp (zh3 (cA:=cA) (k:=k) Cs) hg hm PyProof.Rows.boot_isinstance (v8 ha (v8 hk Bs h2) h1) (by decide) (by decide) h1 hpl) λZ H Q hh=>un hh λU J s hL hS h=>
 bB hL hS h λv H1 U1 d s1 x1 hL1 aH r1 h1=>by
  show ∃U d' v' bb,[v,Ey cA k]=[v',Ey cA k]/\_;obtain⟨dd,rv,h2⟩:=Jt aH r1 h1;obtain⟨bb,e,h3⟩:=M4 h2;exact⟨U1,dd,v,bb,rfl,rv,e,h3.bG aH _ (.d (.bl bb))⟩
theorem zkw{j p1 j2 p3}:SE X cA aq aj F EX (.Dict [some (.Constant (.str k) j p1)] [.Constant (.int i) j2 p3] pos) (.uK k i):=PE.weak (zkG (zik W5 W4 zki) rfl rfl (by simp) (Pj rfl)) λZ H Q hh=>un hh λU J s hL hS h=>by
 intro p hp;refine⟨iV,[(.inr k,.int i)],rfl,Pj rfl,?_⟩;rw[WM];exact h U _ (aY.new hp).ext (hS.grow (aY.new hp)) _ (.d (.fd iV (hS.nz hp)))
end
theorem Zb(n:Nat):∀is js:List Int,dX (cY n) (is.map .int) (js.map .int)=some (decide (is=js))
 |[],[]=>rfl
 |[],_::_=>rfl
 |_::_,[]=>rfl
 |i::is,j::js=>by
  have e:cY n (.int i) (.int j)=some (i==j):=by cases n<;>rfl
  simp only[iU,dX,Zb n is js,e]
  congr 1
  by_cases h:i=j
  ·subst h;by_cases h2:is=js<;>simp[h2]
  ·simp[h]
theorem zkW{a b:Kx}:cY 2 (rW a) (rW b)=some (decide (a=b)):=by
 cases a with
 |non=>cases b<;>rfl
 |int i=>cases b with
  |int j=>
   show some (i==j)=_;by_cases h:i=j
   ·subst h;simp
   ·have hn:¬Kx.int i=Kx.int j:=λz=>h (by cases z;rfl);simp[h,hn]
  |_=>rfl
 |row is=>cases b with
  |row js=>
   show dX (cY 1) (is.map .int) (js.map .int)=_;rw[Zb];by_cases h:is=js
   ·subst h;simp
   ·have hn:¬Kx.row is=Kx.row js:=λz=>h (by cases z;rfl);simp[h,hn]
  |_=>rfl
theorem Zc{x y:List Kx}:cY 3 (jg x) (jg y)=some (decide (x=y)):=by
 show dX (cY 2) (x.map rW) (y.map rW)=_
 induction x generalizing y with
 |nil=>cases y<;>rfl
 |cons a x ih=>cases y with
  |nil=>rfl
  |cons b y=>
   simp only[iU,dX,ih,zkW]
   congr 1
   by_cases h:a=b
   ·subst h;by_cases h2:x=y<;>simp[h2]
   ·simp[h]
theorem Zd:∀{xs:List D} {is:List Int},cC xs=some is->xs=is.map .int
 |[],is,h=>by cases h;rfl
 |x::r,is,h=>by
  cases x with
  |int i=>
   simp only[cC,kE] at h;obtain⟨js,h1,rfl⟩:=h;rw[Zd h1];rfl
  |_=>cases h
theorem zkk{d:D}{k:Kx}(h:uL d=some k):d=rW k:=by
 cases d with
 |non=>cases h;rfl
 |int i=>cases h;rfl
 |tup xs=>
  simp only[uL,kE] at h;obtain⟨js,h1,rfl⟩:=h;rw[Zd h1];rfl
 |_=>cases h
theorem Ze:∀{xs:List D} {k:List Kx},Cq xs=some k->xs=k.map rW
 |[],k,h=>by cases h;rfl
 |x::r,k,h=>by
  unfold Cq at h;cases e1:uL x with
  |none=>simp only[e1] at h;cases h
  |some a=>cases e2:Cq r with
   |none=>simp only[e1,e2] at h;cases h
   |some b=>
    simp only[e1,e2] at h;cases h;rw[zkk e1,Ze e2];rfl
theorem zm4{d:D}{k:List Kx}(h:kOf d=some k):d=jg k:=by
 cases d with
 |tup xs=>show D.tup xs=.tup _;rw[Ze h]
 |_=>cases h
noncomputable def Zf:Kx->Nat
 |.row is=>is.length+1
 |_=>1
noncomputable def uW:List Kx->Nat
 |[]=>0
 |x::r=>Zf x+uW r
section
variable {prog:Program}{w:World}{A:Around}{E:Value->Shared->Prop}{s:Shared}{h h':Heap}
theorem Zg:∀{is:List Int} {us:List Value},jC h (is.map .int) us->ItemsAre (intKind prog w) is us
 |[],us,r=>by cases r;exact .nil
 |i::is,us,r=>by
  cases r with
  |cons a r=>cases a with
   |int i t=>exact .cons (by simp[intKind,Value.isInt]) (Zg r)
   |oth k=>cases k
theorem uX{is:List Int}{a:Value}(x:Is h (.tup (is.map .int)) a):∃b,a=.ref b/\IsTupleKey (intKind prog w) h is b:=by
 cases x with
 |tup p r=>
  obtain⟨o,e,c,n,d⟩:=p;exact⟨_,rfl,o,_,n,e,c,d,by simpa using Zg r⟩
 |oth k=>cases k
theorem zkK{x:Kx}{u:Value}{Q:Int->Shared->Prop}(hu:A.units<cLine)(hx:Is s.heap (rW x) u)(q:Q (Sg x) {s with toks:=s.toks+Zf x}):wpAny (model prog w) A (pyHash u) Q E s:=by
 cases x with
 |non=>
  cases hx with
  |non=>exact PySem.W.pyHash_slot (T:="NoneType") rfl F.slot_NoneType_hash F.entry_NoneType_hash (F.args_NoneType_hash_1 _) (beq_builtin_none _) (.inr hu) (aB (aR (aB (wpAny_mkInt (aR ⟨_,_,rfl,q⟩)))))
  |oth k=>cases k
 |int i=>
  cases hx with
  |int i t=>exact wpAny_pyHash_int q
  |oth k=>cases k
 |row is=>
  obtain⟨b,rfl,k⟩:=uX (prog:=prog) (w:=w) hx;exact wpAny_pyHash_tuple hu k q
theorem Zh{k:List Kx}:∀{r:List Kx} {us:List Value} {b:Array Int} {s:Shared} {Q:Array Int->Shared->Prop},A.units<cLine->jC s.heap (r.map rW) us->(∀b':Array Int,b'.toList=b.toList++r.map Sg->Q b' {s with toks:=s.toks+uW r})->
  wpAny (model prog w) A (forIn us b λx r=>do let h <-pyHash x;pure PUnit.unit;pure (ForInStep.yield (r.push h))) Q E s
 |[],us,b,s,Q,hu,x,q=>by cases x;exact aR (q b (by simp))
 |a::r,us,b,s,Q,hu,x,q=>by
  cases x with
  |cons x1 x2=>
   rw[Dy];refine aB (aB (zkK hu x1 (aB (aR (aR ?_)))));refine Zh (k:=k) hu x2 λb' e=>?_;have:=q b' (by simp[e]);simpa [uW,Nat.add_assoc] using this
theorem zhF{k:List Kx}{a:Addr}{Q:Int->Shared->Prop}(hu:A.units+1<cLine)(hk:Is s.heap (jg k) (.ref a))(q:Q (rm k) {s with toks:=s.toks+(uW k+1)}):wpAny (model prog w) A (pyHash (.ref a)) Q E s:=by
 cases hk with
 |oth k=>cases k
 |tup p r=>
  obtain⟨o,e,c,n,d⟩:=p;refine PySem.W.pyHash_slot (T:="tuple") ⟨_,e,c⟩ F.slot_tuple_hash F.entry_tuple_hash (F.args_tuple_hash_1 _) (beq_builtin_none _) (.inr (by lia)) ?_;show wpAny _ _ (Builtin.Tuple.tupleItemsOf (.ref a) >>= _) _ _ s;refine aB (wpAny_tupleItemsOf e d (aB ?_));rw[<-Pz];refine Zh (A:=A.in1) (k:=k) (show A.units+1<cLine from hu) (by simpa using r) λb hb=>?_;show wpAny _ _ (retInt (Builtin.Tuple.tupleHashOf b.toList)) _ _ _;rw[hb];exact aB (wpAny_mkInt (aR ⟨_,_,rfl,by simpa [Nat.add_assoc,rm] using q⟩))
theorem zh0(ht:∀a xs,h.IsTuple a xs->h'.IsTuple a xs)(hl:∀a xs,h.IsList a xs->h'.IsList a xs){d:D}{u:Value}(x:Is h d u):Is h' d u:=
 Is.rec (motive_1:=λd u _=>Is h' d u) (motive_2:=λd u _=>jC h' d u) .non .bl .int .str (λp _ r=>.tup (ht _ _ p) r) (λp _ r=>.fl (hl _ _ p) r) (λk=>.oth k) .nil (λ_ _ a r=>.cons a r) x
theorem zhJ:∀{n:Nat} {x:Kx} {u:Value} {Q:Bool->Shared->Prop},Is s.heap (rW x) u->Q true s->wpAny (model prog w) A (eqIsQuiet (n+1) u) Q E s:=by
 intro n x u Q hx q;cases x with
 |non=>
  cases hx with
  |non=>rw[eqIsQuiet_byValue _ rfl];exact aR q
  |oth k=>cases k
 |int i=>
  cases hx with
  |int i t=>rw[eqIsQuiet_byValue _ rfl];exact aR q
  |oth k=>cases k
 |row is=>
  obtain⟨b,rfl,k⟩:=uX (prog:=prog) (w:=w) hx;have ty:=k.typeIs;obtain⟨o,items,m,ho,_,hd,hi⟩:=k;unfold eqIsQuiet;refine aB (wpAny_specialOf ty F.slot_tuple_eq.lookup ?_);show wpAny _ A (isInstance (.ref b) (.type "tuple") >>= _) Q E s;refine aB (Lf ty isSubtype_tuple_tuple ?_);simp only[Bool.not_true,yI,sY];refine aB (rG ho hd (aB ?_));show wpAny _ A (forIn items _ _) _ E s;rw[<-Pz];refine wpAny_forIn_list _ (λl r t=>r.1=none/\t=s/\∀v∈l,carriedByValue v=true) _ (λv l r t z=>?_) (λr t z=>?_) _ _ ⟨rfl,rfl,hi.byValue⟩
  ·obtain⟨_,rfl,mO⟩:=z;rw[eqIsQuiet_byValue _ (mO v jF)];exact aB (aR (aR ⟨rfl,rfl,λy hy=>mO y (gb _ hy)⟩))
  ·obtain⟨r1,r2⟩:=r;obtain⟨z1,rfl,_⟩:=z;cases z1;exact aR q
theorem zgM{k:List Kx}{a:Addr}{Q:Bool->Shared->Prop}(hk:Is s.heap (jg k) (.ref a))(q:Q true s):wpAny (model prog w) A (eqIsQuiet 8 (.ref a)) Q E s:=by
 cases hk with
 |oth k=>cases k
 |@tup _ _ its p r=>
  obtain⟨o,ho,c,n,hd⟩:=p;unfold eqIsQuiet;refine aB (wpAny_specialOf ⟨_,ho,c⟩ F.slot_tuple_eq.lookup ?_);show wpAny _ A (isInstance (.ref a) (.type "tuple") >>= _) Q E s;refine aB (Lf ⟨_,ho,c⟩ isSubtype_tuple_tuple ?_);simp only[Bool.not_true,yI,sY];refine aB (rG ho hd (aB ?_));show wpAny _ A (forIn its.toArray _ _) _ E s;rw[<-Pz];refine wpAny_forIn_list _ (λl r t=>r.1=none/\t=s/\∀v∈l,∃x,Is s.heap (rW x) v) _ (λv l r t z=>?_) (λr t z=>?_) _ _ ⟨rfl,rfl,?_⟩
  ·obtain⟨_,rfl,mO⟩:=z;obtain⟨x,hx⟩:=mO v jF;exact aB (zhJ (n:=6) hx (aR ⟨rfl,rfl,λy hy=>mO y (gb _ hy)⟩))
  ·obtain⟨r1,r2⟩:=r;obtain⟨z1,rfl,_⟩:=z;cases z1;exact aR q
  ·intro v hv;have:∀{ks:List Kx} {us:List Value},jC s.heap (ks.map rW) us->∀v∈us,∃x,Is s.heap (rW x) v:=λ{ks}=>by
    induction ks with
    |nil=>intro us r v hv;cases r;cases hv
    |cons y ks ih=>
     intro us r v hv;cases r with
     |cons a r=>
      rcases gY.mp hv with rfl|hv
      ·exact⟨y,a⟩
      ·exact ih r v hv
   exact this r v (by simpa using hv)
end
noncomputable def jM(prog:Program)(w:World):HeapKind prog w (List Kx) where
 is:=λh k a=>Is h (jg k) (.ref a)
 hash:=rm
 draws:=λk=>uW k+1
 room:=λA=>A.units+4<cLine
 inj:=λx y=>ji (Sx 3 x y Zc)
 keeps:=λ{h h' k a d o es ep} x ho hd hs=>zh0 (λb xs ⟨q,e,c,n,z⟩=>⟨q,(hs.2 b λy=>by subst y;rw[ho] at e;cases e;rw[hd] at z;cases z).trans e,c,n,z⟩) (λb xs ⟨q,e,c,n,z⟩=>⟨q,(hs.2 b λy=>by subst y;rw[ho] at e;cases e;rw[hd] at z;cases z).trans e,c,n,z⟩) x
 pyHash:=λhu hk q=>zhF (by lia) hk q
 eqBool:=λ{A E s x y a b Q} hu hx hy q=>Cu 3 (show A.units+3<cLine by lia) hx hy Zc _ _ _ _ q
 quiet:=λhk q=>zgM hk q
section
variable {K:W.Frag}{cA:Cl}{U U':Ph}{H H':Hp}{s:S}
theorem TupAt.kj(e:∀a,U'.z a->U.z a){a:Addr}{vs:List V}(h:TupAt K U H a vs):TupAt K U' H a vs:=h.imp (λ⟨p,n⟩=>⟨p,λz=>n (e a z)⟩) id
theorem LstAt.kj(e:∀a,U'.z a->U.z a){a:Addr}{vs:List V}(h:LstAt K U H a vs):LstAt K U' H a vs:=h.imp (λ⟨p,n⟩=>⟨p,λz=>n (e a z)⟩) id
theorem ExcAt.kj(e:∀a,U'.z a->U.z a){a:Addr}{c:Nat}{vs:List V}(h:ExcAt cA U H a c vs):ExcAt cA U' H a c vs:=
 ⟨λz=>h.1 (e a z),h.2.imp id λ⟨dx,p,n,q,l⟩=>⟨dx,p,λz=>n (e dx z),q,l⟩⟩
theorem qg.kj(e:∀a,U'.z a->U.z a){a:Addr}{c:Nat}{vs:List V}(h:qg cA U H a c vs):qg cA U' H a c vs:=⟨λz=>h.1 (e a z),h.2⟩
theorem Rep.kj(e:∀a,U'.z a->U.z a){d:D}{v:V}(h:Rep K cA U H d v):Rep K cA U' H d v:=
 Rep.rec (motive_1:=λd v _=>Rep K cA U' H d v) (motive_2:=λd v _=>aC K cA U' H d v) .non .bl .int .str (λh _ i=>.tup (h.kj e) i) (λh _ i=>.fl (h.kj e) i) (λh n=>.fd h (λz=>n (e _ z))) (λh _ i=>.exc (h.kj e) i) (λh _ i=>.ob (h.kj e) i) .any .nil (λ_ _ i j=>.cons i j) h
theorem aC.kj(e:∀a,U'.z a->U.z a){d:List D}{v:List V}(h:aC K cA U H d v):aC K cA U' H d v:=
 aC.rec (motive_1:=λd v _=>Rep K cA U' H d v) (motive_2:=λd v _=>aC K cA U' H d v) .non .bl .int .str (λh _ i=>.tup (h.kj e) i) (λh _ i=>.fl (h.kj e) i) (λh n=>.fd h (λz=>n (e _ z))) (λh _ i=>.exc (h.kj e) i) (λh _ i=>.ob (h.kj e) i) .any .nil (λ_ _ i j=>.cons i j) h
theorem kJ.kj(e:∀a,U'.z a->U.z a){a:Addr}{o:SO}(h:kJ K cA U H a o):kJ K cA U' H a o:=h.map (λ_ q=>q) λ_ _ r=>r.kj e
theorem Rep.zl{d:D}{v:V}(h:Rep K cA U H d v)(l:List Addr):Rep K cA ⟨U.z,l⟩ H d v:=Rep.kj (U:=U) (U':=⟨U.z,l⟩) (λ_ z=>z) h
theorem aC.zl{d:List D}{v:List V}(h:aC K cA U H d v)(l:List Addr):aC K cA ⟨U.z,l⟩ H d v:=aC.kj (U:=U) (U':=⟨U.z,l⟩) (λ_ z=>z) h
theorem kJ.zl{a:Addr}{o:SO}(h:kJ K cA U H a o)(l:List Addr):kJ K cA ⟨U.z,l⟩ H a o:=kJ.kj (U:=U) (U':=⟨U.z,l⟩) (λ_ z=>z) h
noncomputable def adr(l:List Addr):List Nat->List Addr
 |[]=>[]
 |n::r=>match l[n]? with
  |some a=>a::adr l r
  |none=>adr l r
theorem Ez{l:List Addr}:∀{ns:List Nat} {a:Addr},a∈adr l ns->∃n∈ns,l[n]?=some a
 |[],a,h=>by cases h
 |n::r,a,h=>by
  unfold adr at h;cases e:l[n]? with
  |none=>
   simp only[e] at h;obtain⟨m,h1,h2⟩:=Ez h;exact⟨m,gb _ h1,h2⟩
  |some b=>
   simp only[e] at h;rcases gY.mp h with rfl|h
   ·exact⟨n,jF,e⟩
   ·obtain⟨m,h1,h2⟩:=Ez h;exact⟨m,gb _ h1,h2⟩
theorem Zi{s:S}:∀{ns:List Nat} {s0:S} {i n:Nat},jf s ns=some s0->ns[i]?=some n->s0[i]?=s[n]?/\∃o,s[n]?=some o
 |[],s0,i,n,h,e=>by simp at e
 |m::r,s0,i,n,h,e=>by
  unfold jf at h;cases e1:s[m]? with
  |none=>simp only[e1] at h;cases h
  |some o=>
   cases e2:jf s r with
   |none=>simp only[e1,e2] at h;cases h
   |some q=>
    simp only[e1,e2] at h;cases h;cases i with
    |zero=>simp at e;subst e;exact⟨by simp[e1],o,e1⟩
    |succ i=>simpa using Zi e2 (by simpa using e)
theorem Zj{s:S}:∀{ns:List Nat} {s0:S},jf s ns=some s0->s0.length=ns.length
 |[],s0,h=>by cases h;rfl
 |m::r,s0,h=>by
  unfold jf at h;cases e1:s[m]? with
  |none=>simp only[e1] at h;cases h
  |some o=>
   cases e2:jf s r with
   |none=>simp only[e1,e2] at h;cases h
   |some q=>
    simp only[e1,e2] at h;cases h;rw[fK,fK,Zj e2]
theorem JD{l:List Addr}:∀{ns:List Nat} {i n:Nat},(∀n∈ns,∃a,l[n]?=some a)->ns[i]?=some n->(adr l ns)[i]?=l[n]?
 |[],i,n,_,e=>by simp at e
 |m::r,i,n,h,e=>by
  obtain⟨a,ha⟩:=h m jF;unfold adr;simp only[ha];cases i with
  |zero=>simp at e;subst e;simp[ha]
  |succ i=>simpa using JD (λn hn=>h n (gb _ hn)) (by simpa using e)
theorem JF{l:List Addr}:∀{ns:List Nat},(∀n∈ns,∃a,l[n]?=some a)->(adr l ns).length=ns.length
 |[],_=>rfl
 |m::r,h=>by
  obtain⟨a,ha⟩:=h m jF;unfold adr;simp only[ha];rw[fK,fK,JF (λn hn=>h n (gb _ hn))]
theorem Zk{l:List Addr}(hl:l.Nodup):∀{ns:List Nat},ns.Nodup->(∀n∈ns,∃a,l[n]?=some a)->(adr l ns).Nodup
 |[],_,_=>Al
 |m::r,hn,h=>by
  obtain⟨a,ha⟩:=h m jF;unfold adr;simp only[ha];obtain⟨h1,h2⟩:=vP.mp hn;refine vP.mpr ⟨λz=>?_,Zk hl h2 (λn hn=>h n (gb _ hn))⟩;obtain⟨n,q1,q2⟩:=Ez z;have:m=n:=(PJ (dN.mp ha).1 hl).mp (ha.trans q2.symm);exact h1 (this▸q1)
theorem EY{s:S}:∀{ns:List Nat} {s1:S},(cZ s ns s1).length=s.length
 |[],s1=>by cases s1<;>rfl
 |n::r,[]=>rfl
 |n::r,o::q=>by
  show (cZ (s.set n o) r q).length=_;rw[EY,lB]
theorem SX{s:S}:∀{ns:List Nat} {s1:S} {m:Nat},m∉ns->(cZ s ns s1)[m]?=s[m]?
 |[],s1,m,_=>by cases s1<;>rfl
 |n::r,[],m,_=>rfl
 |n::r,o::q,m,h=>by
  show (cZ (s.set n o) r q)[m]?=_;rw[SX (λz=>h (gb _ z)),pH (λz=>h (by rw[z];exact jF))]
theorem Zm{s:S}:∀{ns:List Nat} {s1:S} {i m:Nat} {o:SO},ns.Nodup->ns[i]?=some m->s1[i]?=some o->m<s.length->(cZ s ns s1)[m]?=some o
 |[],s1,i,m,o,_,e,_,_=>by simp at e
 |n::r,[],i,m,o,_,_,e,_=>by simp at e
 |n::r,q::qs,i,m,o,hn,e1,e2,hm=>by
  show (cZ (s.set n q) r qs)[m]?=_;obtain⟨h1,h2⟩:=vP.mp hn;cases i with
  |zero=>
   simp at e1 e2;subst e1 e2;rw[SX h1,vL hm]
  |succ i=>exact Zm h2 (by simpa using e1) (by simpa using e2) (by rw[lB];exact hm)
theorem zfZ:∀{xs:List Xv} {vs:List V} (l0:List Addr) (z:Addr->Prop) (k:Nat),aP K cA U H xs vs->U.z=z->(∀i n,(locs xs)[i]?=some n->l0[k+i]?=U.l[n]?)->aP K cA ⟨z,l0⟩ H (dB k xs) vs
 :=by
 intro xs vs l0 z k r0
 induction r0 generalizing k with
 |nil=>exact λ_ _=>.nil
 |@cons x v xs vs a q ih=>
  intro ez h;cases a with
  |d a=>exact .cons (.d (a.kj λb hb=>by rw[ez];exact hb)) (ih k ez h)
  |@l n a' a=>
   refine .cons (.l ?_) (ih (k+1) ez λi m e=>?_)
   ·have:=h 0 n rfl;rw[Nat.add_zero] at this;show l0[k]?=_;rw[this];exact a
   ·have:=h (i+1) m (by simpa [locs] using e);rw[<-this]
    congr 1
    lia
theorem zeS:∀{xs:List Xv} {vs:List V},aP K cA U H xs vs->∀n∈locs xs,∃a,U.l[n]?=some a
 :=by
 intro xs vs r0
 induction r0 with
 |nil=>exact λn h=>by cases h
 |cons a q ih=>
  intro n h;cases a with
  |d a=>exact ih n h
  |l a=>
   rcases gY.mp h with rfl|h
   ·exact⟨_,a⟩
   ·exact ih n h
theorem Zn{xs:List Xv}{U1:Ph}{s0 s1:S}(hS:aF K cA U H s)(hn:(locs xs).Nodup)(ht:∀n∈locs xs,∃a,U.l[n]?=some a)(x:Ext ⟨U.z,adr U.l (locs xs)⟩ H U1 H')(r1:aF K cA U1 H' s1) :
  Ext U H ⟨U1.z,U.l⟩ H'/\aF K cA ⟨U1.z,U.l⟩ H' (cZ s (locs xs) s1):=by
 have aq:∀a∈adr U.l (locs xs),a∈U.l:=λa ha=>by obtain⟨n,_,q⟩:=Ez ha;exact fZ q
 obtain⟨r,er,hr⟩:=x.more;have er:U1.l=adr U.l (locs xs)++r:=er;refine⟨⟨⟨[],by simp,by simp⟩,λa h=>x.tG a h,λa h=>x.m7 a h,λa o h n=>x.frame a o h λz=>n (aq a z),x.stay⟩,?_⟩;refine⟨by rw[EY];exact hS.len,λn o a e1 e2=>?_,hS.uniq,λa ha=>x.tG a (hS.lz a ha),r1.zt⟩;have e2:U.l[n]?=some a:=e2;by_cases iD:n∈locs xs
 ·obtain⟨i,hi,ei⟩:=yH iD;have ei:(locs xs)[i]?=some n:=by rw[dj hi,ei]
  have ha:(adr U.l (locs xs))[i]?=some a:=by rw[JD ht ei];exact e2
  have Zo:U1.l[i]?=some a:=by rw[er,nQ (dN.mp ha).1];exact ha
  have dU:i<s1.length:=by rw[<-r1.len];exact(dN.mp Zo).1
  have hb:=Zm (s:=s) (s1:=s1) hn ei (dj dU) (by rw[<-hS.len];exact(dN.mp e2).1);rw[hb] at e1;cases e1;exact kJ.zl (r1.obj i _ a (dj dU) Zo) _
 ·rw[SX iD] at e1;have S5:a∉adr U.l (locs xs):=λz=>by
   obtain⟨m,q1,q2⟩:=Ez z;have:n=m:=(PJ (dN.mp e2).1 hS.uniq).mp (e2.trans q2.symm);exact iD (this▸q1)
  exact(hS.obj n o a e1 e2).map (λ_ q=>x.frame a _ q S5) λ_ _ r=>Rep.zl ((Rep.zl r _).mono x λa ha=>hS.lz a (aq a ha)) _
theorem Zq{F:List Xv->M Xv}{xs:List Xv}{vs:List V}{Q:VK}{EE:Nat->List D->Ph->Hp->Prop}(hS:aF K cA U H s)(r:aP K cA U H xs vs)
  (hE:∀c fs U1 U2 H',U1.z=U2.z->EE c fs U1 H'->EE c fs U2 H')
  (h:Run K cA (bZ F xs) U H s (λx _ U' H'=>∀v,bw K cA U' H' x v->Q v H') (λc fs _ U' H'=>EE c fs U' H')) :
  ∃U0 s0,aP K cA U0 H (dB 0 xs) vs/\aF K cA U0 H s0/\Run K cA (F (dB 0 xs)) U0 H s0 (λx _ U' H'=>∀v,bw K cA U' H' x v->Q v H') (λc fs _ U' H'=>EE c fs U' H'):=by
 unfold Run bZ at h;by_cases hn:(locs xs).Nodup
 ·simp only[if_pos hn] at h;have ht:=zeS r;have aq:∀a∈adr U.l (locs xs),a∈U.l:=λa ha=>by obtain⟨n,_,q⟩:=Ez ha;exact fZ q
  cases e0:jf s (locs xs) with
  |none=>simp only[e0] at h
  |some s0=>
   simp only[e0] at h;refine⟨⟨U.z,adr U.l (locs xs)⟩,s0,zfZ _ _ 0 r rfl (λi n e=>by rw[Nat.zero_add];exact JD ht e),?_,?_⟩
   ·refine⟨by rw[Zj e0];exact JF ht,λi o a e1 e2=>?_,Zk hS.uniq hn ht,λa ha=>hS.lz a (aq a ha),hS.zt⟩;have e2:(adr U.l (locs xs))[i]?=some a:=e2;have hi:i<(locs xs).length:=by rw[<-JF ht];exact(dN.mp e2).1
    have ei:(locs xs)[i]?=some ((locs xs)[i]):=dj hi;rw[JD ht ei] at e2;rw[(Zi e0 ei).1] at e1;exact kJ.zl (hS.obj _ o a e1 e2) _
   ·unfold Run;cases e1:F (dB 0 xs) s0 with
    |none=>simp only[e1] at h
    |some q=>
     obtain⟨q,s1⟩:=q;simp only[e1] at h;cases q with
     |er c fs=>
      intro U1 H' x r1;obtain⟨x2,r2⟩:=Zn (s0:=s0) hS hn ht x r1;exact hE c fs ⟨U1.z,U.l⟩ U1 H' rfl (h ⟨U1.z,U.l⟩ H' x2 r2)
     |ok y=>
      intro U1 H' x r1 v rv;obtain⟨x2,r2⟩:=Zn (s0:=s0) hS hn ht x r1;cases y with
      |d w=>
       cases rv with
       |d rv=>exact h ⟨U1.z,U.l⟩ H' x2 r2 v (.d (Rep.zl rv _))
      |l n=>
       cases rv with
       |@l _ a hl=>
        obtain⟨rr,er,hr⟩:=x.more;have er:U1.l=adr U.l (locs xs)++rr:=er;cases em:(locs xs)[n]? with
        |some m=>
         simp only[em] at h;refine h _ H' x2 r2 _ (.l ?_);show U.l[m]?=some a;have ha:(adr U.l (locs xs))[n]?=U.l[m]?:=JD ht em;have dU:n<(adr U.l (locs xs)).length:=by rw[JF ht];exact(dN.mp em).1
         rw[er,nQ dU] at hl;rw[<-ha];exact hl
        |none=>
         simp only[em] at h;have hge:(adr U.l (locs xs)).length<=n:=by rw[JF ht];exact pG.mp em
         have Mz:a∈rr:=by
          rw[er,qF hge] at hl;exact fZ hl
         have S5:a∉U.l:=λz=>by
          obtain⟨o,eo⟩:=hS.zt a (hS.lz a z);rw[hr a Mz] at eo;cases eo
         cases eo:s1[n]? with
         |none=>simp only[eo] at h
         |some o=>
          simp only[eo] at h;have ho:=r1.obj n o a eo hl;refine h ⟨U1.z,U.l++[a]⟩ H' ⟨⟨[a],rfl,by simpa using hr a Mz⟩,x2.tG,x2.m7,x2.frame,x2.stay⟩ ?_ _ (.l (by show (U.l++[a])[s.length]?=_;rw[<-hS.len];simp));refine⟨by show (U.l++[a]).length=_;rw[dG,dG,EY,hS.len];rfl,λm o' a' e1 e2=>?_,?_,λb hb=>?_,r1.zt⟩
          ·have e2:(U.l++[a])[m]?=some a':=e2;by_cases hm:m<s.length
           ·rw[nQ (by rw[EY];exact hm)] at e1;rw[nQ (by rw[hS.len];exact hm)] at e2;exact kJ.zl (r2.obj m o' a' e1 e2) _
           ·have tu:m=s.length:=by
             have z:=(dN.mp e2).1;rw[dG,hS.len] at z;simp at z
             lia
            subst tu;rw[qF (by rw[EY];exact bO _)] at e1;rw[qF (by rw[hS.len];exact bO _)] at e2;simp[EY] at e1;simp[hS.len] at e2;subst e1 e2;exact kJ.zl ho _
          ·show (U.l++[a]).Nodup;rw[Lb];refine⟨hS.uniq,by simp,λb hb c hc e=>?_⟩;simp at hc;subst hc e;exact S5 hb
          ·have hb:b∈U.l++[a]:=hb;rcases iR.mp hb with z|z
           ·exact x2.tG b (hS.lz b z)
           ·simp at z;subst z;exact r1.lz _ (fZ hl)
 ·simp only[if_neg hn] at h
end
section
variable {X:Cx}{cA:Cl}{aq:Nat->Nat->Bool}{aj:Bool}{F:Fn}{EX:XS}{a b c d e o:Expr}{A B C Dd E' O:E}{pos pp p2 apos cpos:Pos}{es:List Expr}{Xs:Es}{fz:Bool}{p:Pr}{x:Str}{U:Ph}{H:Hp}{s:S}
theorem Ng{K:W.Frag}{β:Type}{x:Xv}{v:V}{k:Nat×List D->M β}{P:β->S->Ph->Hp->Prop}{Ee:Nat->List D->S->Ph->Hp->Prop}(hS:aF K cA U H s)(r:bw K cA U H x v)(h:Run K cA (M.bd (cQ x) k) U H s P Ee) :
  ∃n ad xs vs,x=.l n/\v=.ref ad/\s[n]?=some (.lst xs)/\U.l[n]?=some ad/\H ad=some (.lst vs)/\aC K cA U H xs vs/\Run K cA (k (n,xs)) U H s P Ee:=by
 cases r with
 |d _=>exact h.elim
 |@l n ad hl=>
  unfold Run M.bd cQ at h;dsimp only at h;cases e:s[n]? with
  |none=>rw[e] at h;exact h.elim
  |some o=>
   rw[e] at h;cases o with
   |lst xs=>
    obtain⟨vs,q1,q2⟩:=hS.obj n _ _ e hl;exact⟨n,ad,xs,vs,rfl,rfl,e,hl,q1,q2,h⟩
   |_=>exact h.elim
theorem zji(ho:SE X cA aq aj F EX o O)(ha:SE X cA aq aj F EX a A)
  (bL:attributeBase o "append" X.env (eval o X.env)=eval o X.env:=by rfl)
  (mL:((backTo cpos (starEach [a] X.env)).all (λx=>!x.1)&&(backToKw cpos (keywordEach [] X.env)).all (λx=>x.1.isSome)
  &&decide ([a].length+([]:List Keyword).length+(if ([]:List Keyword).isEmpty then 0 else 1)<30))=true:=by rfl)
  (cP:(apos.endLine==cpos.line)=true:=by rfl) (hs:starEach [a] X.env=(false,eval a X.env)::starEach [] X.env:=by rfl) (cL:(backTo cpos (starEach [] X.env)).any (·.1)=false:=by rfl) :
  SE X cA aq aj F EX (.Call (.Attribute o "append" apos) [a] [] cpos) (.push O A):=PE.weak (XD KY PySem.F.slot_list_append PySem.F.type_list_append XJ ho (v8 ha Bs hs) bL mL cP hs cL) λZ H Q hh=>un hh λU J s hL hS h=>by
 refine bB hL hS h λx H1 U1 d1 s1 x1 hL1 aH r1 h1=>?_;obtain⟨n,ad,xs,vs,rfl,rfl,e1,f1,g1,q1,h2⟩:=Ng aH r1 h1;refine⟨.inl ⟨rfl,vs,cO.of g1⟩,bB hL1 aH h2 λy H2 U2 d2 s2 x2 hL2 aX r2 h3=>?_⟩;obtain⟨dd,_,rd,h4⟩:=M5 r2 h3;obtain⟨n',ad',ys,us,en,ea,e2,f2,g2,q2,h5⟩:=Ng aX (r1.mono x2 aH.lz) h4;cases en;cases ea;by_cases hz:ys.length<sizeLine
 ·have h5:Run X.K cA (M.bd (putL n (ys++[dd])) λ_=>M.ret (Xv.d .non)) U2 H2 s2 (λd _ U' H'=>∀v,bw X.K cA U' H' d v->Q v H') (eX X.K cA EX Z):=by
   have h6:Run X.K cA (if ys.length<sizeLine then M.bd (putL n (ys++[dd])) λ_=>M.ret (Xv.d .non) else M.no) U2 H2 s2 (λd _ U' H'=>∀v,bw X.K cA U' H' d v->Q v H') (eX X.K cA EX Z):=h5;rw[if_pos hz] at h6;exact h6
  refine⟨ad,us,y,rfl,rfl,g2,by rw[<-q2.len];exact hz,?_⟩;exact h5 U2 _ (Ext.write f2 ⟨_,g2⟩) (aX.write e2 f2 (q2.app (.cons rd .nil))) _ (.d .non)
 ·have h6:Run X.K cA (if ys.length<sizeLine then M.bd (putL n (ys++[dd])) λ_=>M.ret (Xv.d .non) else M.no) U2 H2 s2 (λd _ U' H'=>∀v,bw X.K cA U' H' d v->Q v H') (eX X.K cA EX Z):=h5;rw[if_neg hz] at h6;exact h6.elim
theorem zdT{α:Type}{xs:List α}{d:α}(h:xs.getLast?=some d):xs[xs.length-1]?=some d:=by
 rw[List.getLast?_eq_getElem?] at h;exact h
theorem aC.dropLast{K:W.Frag}{ds:List D}{vs:List V}(r:aC K cA U H ds vs):aC K cA U H ds.dropLast vs.dropLast:=by
 rw[List.dropLast_eq_take,List.dropLast_eq_take,r.len];exact r.take _
theorem zmo(ho:SE X cA aq aj F EX o O)(bL:attributeBase o "pop" X.env (eval o X.env)=eval o X.env:=by rfl)(cP:(apos.endLine==cpos.line)=true:=by rfl) :
  SE X cA aq aj F EX (.Call (.Attribute o "pop" apos) [] [] cpos) (.pop O):=PE.weak (zl9 KY PySem.F.slot_list_pop PySem.F.type_list_pop zlj ho bL cP) λZ H Q hh=>un hh λU J s hL hS h=>by
 refine bB hL hS h λx H1 U1 d1 s1 x1 hL1 aH r1 h1=>?_;obtain⟨n,ad,xs,vs,rfl,rfl,e1,f1,g1,q1,h2⟩:=Ng aH r1 h1;refine⟨.inl ⟨rfl,vs,cO.of g1⟩,?_⟩;cases eg:xs.getLast? with
 |none=>simp only[eg] at h2;exact h2.elim
 |some dd=>
  simp only[eg] at h2;obtain⟨w,hw,lg⟩:=q1.get (zdT eg);rw[q1.len] at hw;refine⟨ad,vs,w,rfl,rfl,g1,hw,?_⟩;have x2:Ext U1 H1 U1 (upd H1 ad (.lst vs.dropLast)):=Ext.write f1 ⟨_,g1⟩;exact h2 U1 _ x2 (aH.write e1 f1 q1.dropLast) _ (.d (lg.mono x2 aH.lz))
noncomputable def lR(K:W.Frag)(cA:Cl)(m:List Xv->M Xv):Sp:=λvs H Q E=>∃U xs s,aP K cA U H xs vs/\aF K cA U H s/\Run K cA (m xs) U H s (λd _ U' H'=>∀v,bw K cA U' H' d v->Q v H') (λc fs _ U' H'=>∀dx,j_ K cA U' H' c fs dx->E (.ref (cA.a c)) dx H')
theorem zjr{K:W.Frag}{U1 U2:Ph}{c:Nat}{fs:List D}{dx:Option Addr}(e:U1.z=U2.z)(h:j_ K cA U2 H c fs dx):j_ K cA U1 H c fs dx:=h.imp id λ⟨d,vs,a,b,c,l,r⟩=>⟨d,vs,a,by rw[e];exact b,c,l,r.kj λ_ z=>by rw[<-e];exact z⟩
theorem zjI{cm:Bool}{k f:Nat}{fa:Addr}{fd:FuncData}{ps:List Str}(Fo:cB X.prog X.w X.K X.mg X.base (gD X.prog X.w) cm k fa fd ps (lR X.K cA (F f)))(jw:cm=true->X.aj=true)(hr:bA k X.A)(hg:Gl X x)(hm:X.mg x=some (.ref fa))(hk:PySem.W.keepIn X.K (.ref fa)=true)(hb:Binds X.K fd ps [])(R:Raises X EX)
  (ha:SA X cA aq aj F EX (e::es) Xs) (jx:(x==("__debug__" : Str))=false:=by decide) (he:starEach (e::es) X.env=(false,eval e X.env)::starEach es X.env:=by rfl) (hpl:(backTo pos (starEach es X.env)).any (·.1)=false:=by rfl) :
  SE X cA aq aj F EX (.Call (.Name x pp) (e::es) [] pos) (.call f Xs):=PE.weak (zhx Fo jw hr hg hm hk hb R ha jx he hpl) λZ H Q hh=>un hh λU J s hL hS h=>
 oM hL hS h λvs H1 U1 ds s1 x1 hL1 aH r1 h1=>by
  obtain⟨U0,s0,a1,a2,a3⟩:=Zq (EE:=λc fs U' H'=>∀dx,j_ X.K cA U' H' c fs dx->EX Z (.ref (cA.a c)) dx H') aH r1 (λc fs U1 U2 H' ez z dx q=>z dx (zjr ez q)) h1;exact⟨U0,_,s0,a1,a2,a3⟩
end
section
variable {K:W.Frag}{cA:Cl}{U U':Ph}{H H':Hp}{s:S}
def dD(U:Ph)(H H':Hp):Prop:=∀a o,H a=some o->¬U.z a->H' a=some o
mutual
theorem Rep.out(x:dD U H H'):∀{d:D} {v:V},Rep K cA U H d v->Rep K cA U H' d v
 |_,_,.non=>.non
 |_,_,.bl b=>.bl b
 |_,_,.int i=>.int i
 |_,_,.str z=>.str z
 |_,_,.tup h r=>.tup (h.imp (λ⟨p,n⟩=>⟨p.imp (λq=>x _ _ q n) λ⟨o,q⟩=>⟨o,x _ _ q n⟩,n⟩) id) (aC.out x r)
 |_,_,.fl h r=>.fl (h.imp (λ⟨p,n⟩=>⟨p.imp (λq=>x _ _ q n) λ⟨o,q⟩=>⟨o,x _ _ q n⟩,n⟩) id) (aC.out x r)
 |_,_,.fd h n=>.fd (x _ _ h n) n
 |_,_,.exc h r=>.exc ⟨h.1,h.2.imp (λ⟨a,b,q⟩=>⟨a,b,x _ _ q h.1⟩) λ⟨dx,p,n,q,l⟩=>⟨dx,x _ _ p h.1,n,x _ _ q n,l⟩⟩ (aC.out x r)
 |_,_,.any v=>.any v
 |_,_,.ob h r=>.ob ⟨h.1,let ⟨dx,p,l⟩:=h.2;⟨dx,x _ _ p h.1,l⟩⟩ (aC.out x r)
theorem aC.out(x:dD U H H'):∀{ds:List D} {vs:List V},aC K cA U H ds vs->aC K cA U H' ds vs
 |_,_,.nil=>.nil
 |_,_,.cons h r=>.cons (Rep.out x h) (aC.out x r)
end
theorem bw.out(x:dD U H H'){d:Xv}{v:V}(h:bw K cA U H d v):bw K cA U H' d v:=by
 cases h with
 |d h=>exact .d (h.out x)
 |l h=>exact .l h
theorem aZ.out(x:dD U H H')(h:aZ K cA U H Z J):aZ K cA U H' Z J:=⟨h.1,λi d e=>let ⟨v,a,b⟩:=h.2 i d e;⟨v,a,b.out x⟩⟩
theorem dD.refl:dD U H H:=λa o e _=>e
structure jN(K:W.Frag)(cA:Cl)(c:Src)(U:Ph)(H:Hp)(bR:L2.It):Prop where
 stop:∀U' H₁ H' s' i,Ext U H U' H₁->dD U' H₁ H'->aF K cA U' H' s'->c.at i s'=some none->bR.stop i H'
 go:∀U' H₁ H' s' i x,Ext U H U' H₁->dD U' H₁ H'->aF K cA U' H' s'->c.at i s'=some (some x)->bR.go i H'
 Bl:∀U' H₁ H' s' i x v H2,Ext U H U' H₁->dD U' H₁ H'->aF K cA U' H' s'->c.at i s'=some (some x)->bR.Bl i H' v H2->aY H' H2/\Rep K cA U' H2 x v
theorem LstAt.later(hz:∀a∈U.l,U.z a)(h:LstAt K U H a vs)(x:Ext U H U' H₁)(o:dD U' H₁ H'):LstAt K U' H' a vs:=
 (h.mono x hz).imp (λ⟨p,n⟩=>⟨p.imp (λq=>o _ _ q n) λ⟨w,q⟩=>⟨w,o _ _ q n⟩,n⟩) id
theorem TupAt.later(hz:∀a∈U.l,U.z a)(h:TupAt K U H a vs)(x:Ext U H U' H₁)(o:dD U' H₁ H'):TupAt K U' H' a vs:=
 (h.mono x hz).imp (λ⟨p,n⟩=>⟨p.imp (λq=>o _ _ q n) λ⟨w,q⟩=>⟨w,o _ _ q n⟩,n⟩) id
theorem jN.list(hz:∀a∈U.l,U.z a)(h:LstAt K U H a vs)(r:aC K cA U H xs vs):jN K cA (.fix xs) U H (LR K a):=by
 refine⟨λU' H₁ H' s' i x o hS e=>⟨vs,(h.later hz x o).tH,?_⟩,λU' H₁ H' s' i d x o hS e=>?_,λU' H₁ H' s' i d v H2 x o hS e y=>?_⟩
 ·have e:xs[i]?=none:=cJ e;exact pG.mp ((r.mono x hz).none e)
 ·have e:xs[i]?=some d:=cJ e;obtain⟨v,q,_⟩:=r.get e;exact⟨vs,v,(h.later hz x o).tH,q⟩
 ·have e:xs[i]?=some d:=cJ e;obtain⟨rfl,y⟩:=y;obtain⟨w,q,lg⟩:=((r.mono x hz).out o).get e;have:=y vs (h.later hz x o).tH;rw[q] at this;cases this;exact⟨aY.refl,lg⟩
theorem jN.tuple(hz:∀a∈U.l,U.z a)(h:TupAt K U H a vs)(r:aC K cA U H xs vs):jN K cA (.fix xs) U H (Qu K a):=by
 refine⟨λU' H₁ H' s' i x o hS e=>⟨vs,(h.later hz x o).jm,?_⟩,λU' H₁ H' s' i d x o hS e=>?_,λU' H₁ H' s' i d v H2 x o hS e y=>?_⟩
 ·have e:xs[i]?=none:=cJ e;exact pG.mp ((r.mono x hz).none e)
 ·have e:xs[i]?=some d:=cJ e;obtain⟨v,q,_⟩:=r.get e;exact⟨vs,v,(h.later hz x o).jm,q⟩
 ·have e:xs[i]?=some d:=cJ e;obtain⟨rfl,y⟩:=y;obtain⟨w,q,lg⟩:=((r.mono x hz).out o).get e;have:=y vs (h.later hz x o).jm;rw[q] at this;cases this;exact⟨aY.refl,lg⟩
theorem S6(h:(Src.live n).at i s=some o):∃xs,s[n]?=some (.lst xs)/\xs[i]?=o:=by
 unfold Src.at at h;dsimp only at h;cases e:s[n]? with
 |none=>rw[e] at h;cases h
 |some ob=>
  rw[e] at h;cases ob with
  |lst xs=>exact⟨xs,rfl,cJ h⟩
  |_=>cases h
theorem jN.live(h:U.l[n]?=some a):jN K cA (.live n) U H (LR K a):=by
 refine⟨λU' H₁ H' s' i x o hS e=>?_,λU' H₁ H' s' i d x o hS e=>?_,λU' H₁ H' s' i d v H2 x o hS e y=>?_⟩
 ·obtain⟨xs,e1,e2⟩:=S6 e;obtain⟨vs,q1,q2⟩:=hS.obj n _ a e1 (x.get h);exact⟨vs,cO.of q1,pG.mp (q2.none e2)⟩
 ·obtain⟨xs,e1,e2⟩:=S6 e;obtain⟨vs,q1,q2⟩:=hS.obj n _ a e1 (x.get h);obtain⟨v,q3,_⟩:=q2.get e2;exact⟨vs,v,cO.of q1,q3⟩
 ·obtain⟨xs,e1,e2⟩:=S6 e;obtain⟨vs,q1,q2⟩:=hS.obj n _ a e1 (x.get h);obtain⟨w,q3,lg⟩:=q2.get e2;obtain⟨rfl,y⟩:=y;have:=y vs (cO.of q1);rw[q3] at this;cases this;exact⟨aY.refl,lg⟩
theorem S7:(jB a b)[i]?=if i<(b-a).toNat then some (.int (a+i)) else none:=by
 unfold jB;rw[iW,List.getElem?_range']
where
 List.getElem?_range' {n i:Nat}:Option.map (λ(i:Nat)=>D.int (a+i)) (List.range n)[i]?=if i<n then some (.int (a+i)) else none:=by
  by_cases h:i<n
  ·rw[if_pos h,K5 h];rfl
  ·rw[if_neg h,FT (by simp;lia)];rfl
theorem jN.range{a b:Int}:jN K cA (.fix (jB a b)) U H (GZ a (b-a).toNat):=by
 refine⟨λU' H₁ H' s' i x o hS e=>?_,λU' H₁ H' s' i d x o hS e=>?_,λU' H₁ H' s' i d v H2 x o hS e y=>?_⟩
 ·have e:(jB a b)[i]?=none:=cJ e;rw[S7] at e;split at e
  ·cases e
  ·exact Gf (by assumption)
 ·have e:(jB a b)[i]?=some d:=cJ e;rw[S7] at e;split at e
  ·assumption
  ·cases e
 ·have e:(jB a b)[i]?=some d:=cJ e;rw[S7] at e;split at e
  ·cases e;obtain⟨rfl,rfl⟩:=y;exact⟨aY.refl,.int _⟩
  ·cases e
end
noncomputable def S8(K:W.Frag)(te:TE):TI:=λZ H R=>te Z H λv H1=>∃a,v=.ref a/\(((∃xs,cO K H1 a xs)/\R (LR K a) H1)\/((∃xs,gj K H1 a xs)/\R (Qu K a) H1))
theorem zk9(he:PE X l te):PI X tg l (S8 X.K te):=by
 intro ao s Z H R I h;refine bf (he ao s Z H _ I h) λv s1 hx=>PN hx λx H1 I1 r1 a e q=>?_;subst e;cases r1;rcases q with ⟨⟨xs,hq⟩,q⟩|⟨⟨xs,hq⟩,q⟩
 ·obtain⟨its,rv,p,hz⟩:=I1.list hq;refine K_ p.isList ?_;refine⟨s1.heap.objs.size,[s1.heap.objs.size],_,_,H1,rfl,I1.kept (t':=s1.toks) λb o e=>bY _ e,zfv a _,⟨_,fO _ rfl,rfl,rfl⟩,λb hb=>?_,q⟩;have e:b=s1.heap.objs.size:=by simpa using hb
  subst e;exact I1.uh (bO _) (I1.hok.fresh (bO _))
 ·obtain⟨its,rv,p,hz⟩:=I1.tuple hq;refine wpAny_pyIter_tuple (show s1.heap.IsTuple a its.toArray from p) ?_;refine⟨s1.heap.objs.size,[s1.heap.objs.size],_,_,H1,rfl,I1.kept (t':=s1.toks) λb o e=>bY _ e,ze0 a _,⟨_,fO _ rfl,rfl,rfl⟩,λb hb=>?_,q⟩;have e:b=s1.heap.objs.size:=by simpa using hb
  subst e;exact I1.uh (bO _) (I1.hok.fresh (bO _))
section
variable {X:Cx}{cA:Cl}{aq:Nat->Nat->Bool}{aj:Bool}{F:Fn}{EX:XS}{a b tg:Expr}{A B:E}{pos pp:Pos}
noncomputable def tI(K:W.Frag)(cA:Cl)(EX:XS)(m:Vs->M (Src×Nat)):TI:=λZ H R=>∃U J s,aZ K cA U H Z J/\aF K cA U H s/\Run K cA (m J) U H s (λcn _ U1 H1=>∀bR,jN K cA cn.1 U1 H1 bR->R bR H1) (eX K cA EX Z)
def SI(X:Cx)(cA:Cl)(aq:Nat->Nat->Bool)(aj:Bool)(F:Fn)(EX:XS)(tg iter:Expr)(w:Wk):Prop:=PI X tg iter (tI X.K cA EX (nG aq aj F w))
theorem PI.weak{iter:Expr}{t t':TI}(h:PI X tg iter t)(f:∀Z H Q,t' Z H Q->t Z H Q):PI X tg iter t':=λao s Z H Q I q=>h ao s Z H Q I (f Z H Q q)
theorem znc(ha:SE X cA aq aj F EX a A):SI X cA aq aj F EX tg a (.seq A):=PI.weak (zk9 ha) λZ H R hh=>un hh λU J s hL hS h=>by
 refine bB hL hS h λv H1 U1 d s1 x1 hL1 aH r1 h1=>?_;cases r1 with
 |@l n ad hl=>
  unfold Run src at h1;dsimp only at h1;cases e:s1[n]? with
  |none=>rw[e] at h1;exact h1.elim
  |some o=>
   rw[e] at h1;cases o with
   |lst xs=>
    obtain⟨vs,q1,q2⟩:=aH.obj n _ _ e hl;exact⟨ad,rfl,.inl ⟨⟨vs,cO.of q1⟩,h1 U1 H1 Ext.refl aH _ (jN.live hl)⟩⟩
   |_=>exact h1.elim
 |d r1=>
  cases r1 with
  |tup q r=>exact⟨_,rfl,.inr ⟨⟨_,q.jm⟩,h1 U1 H1 Ext.refl aH _ (jN.tuple aH.lz q r)⟩⟩
  |fl q r=>exact⟨_,rfl,.inl ⟨⟨_,q.tH⟩,h1 U1 H1 Ext.refl aH _ (jN.list aH.lz q r)⟩⟩
  |_=>exact h1.elim
theorem Zr{i:Int}(h:fV i=true) : -(2^62)<=i/\i<2^62:=by
 unfold fV at h;rw[eY,Ld,Ld] at h;exact⟨by lia,h.2⟩
theorem Zu{K:W.Frag}{U:Ph}{H:Hp}{s:S}{i j:Int}{P:Src×Nat->S->Ph->Hp->Prop}{Ee:Nat->List D->S->Ph->Hp->Prop}(hS:aF K cA U H s)(h:Run K cA (if (fV i&&fV j)=true then M.ret (Src.fix (jB i j),(jB i j).length) else M.no) U H s P Ee):(-(2^62)<=i/\i<2^62/\-(2^62)<=j/\j<2^62)/\P (.fix (jB i j),(jB i j).length) s U H:=by
 by_cases hk:(fV i&&fV j)=true
 ·rw[if_pos hk] at h;rw[eY] at hk;obtain⟨a,b⟩:=Zr hk.1;obtain⟨c,d⟩:=Zr hk.2;exact⟨⟨a,b,c,d⟩,h.bG hS⟩
 ·rw[if_neg hk] at h;exact h.elim
theorem zn8(ql:Gl X "range")(hmg:X.mg "range"=none)(ha:SE X cA aq aj F EX a A)(hb:SE X cA aq aj F EX b B)(h1:starEach [a,b] X.env=(false,eval a X.env)::starEach [b] X.env)(h2:starEach [b] X.env=(false,eval b X.env)::starEach [] X.env) :
  SI X cA aq aj F EX tg (.Call (.Name "range" pp) [a,b] [] pos) (.rg A B):=PI.weak (zfy ql hmg (v8 ha (v8 hb Bs h2) h1) (by rw[h1,h2];rfl) (by rw[h2];rfl)) λZ H R hh=>un hh λU J s hL hS h=>by
 refine bB hL hS h λx H1 U1 d1 s1 x1 hL1 aH r1 h1=>bB hL1 aH h1 λy H2 U2 d2 s2 x2 hL2 aX r2 h2=>?_;obtain⟨i,_,e1,h3⟩:=Jr (r1.mono x2 aH.lz) h2;obtain⟨j,_,e2,h4⟩:=Jr r2 h3;obtain⟨hz,q⟩:=Zu aX h4;subst e1 e2;exact⟨i,j,rfl,hz,q _ jN.range⟩
theorem zm9(ql:Gl X "range")(hmg:X.mg "range"=none)(hb:SE X cA aq aj F EX b B)(h2:starEach [b] X.env=(false,eval b X.env)::starEach [] X.env) :
  SI X cA aq aj F EX tg (.Call (.Name "range" pp) [b] [] pos) (.rg (.c (.int 0)) B):=PI.weak (zf1 ql hmg (v8 hb Bs h2) (by rw[h2];rfl)) λZ H R hh=>un hh λU J s hL hS h=>by
 have h:Run X.K cA (M.bd (ev aq aj F B J) λy=>M.bd (int (.d (.int 0))) λi=>M.bd (int y) λj=>if (fV i&&fV j)=true then M.ret (Src.fix (jB i j),(jB i j).length) else M.no) U H s _ _:=h;refine bB hL hS h λy H2 U2 d2 s2 x2 hL2 aX r2 h2=>?_;obtain⟨j,_,e2,h4⟩:=Jr r2 (show Run X.K cA (M.bd (int d2) λj=>if (fV 0&&fV j)=true then M.ret (Src.fix (jB 0 j),(jB 0 j).length) else M.no) U2 H2 s2 _ _ from h2);obtain⟨hz,q⟩:=Zu aX h4;subst e2;refine⟨j,rfl,hz.2.2.1,hz.2.2.2,q _ ?_⟩;have:=jN.range (K:=X.K) (cA:=cA) (U:=U2) (H:=H2) (a:=0) (b:=j);rw[Int.sub_zero] at this;exact this
end
section
variable {K:W.Frag}{cA:Cl}{U U' U0:Ph}{H H' H0:Hp}{s:S}
theorem Run.bd0(x:Ext U0 H0 U H)(h:Run K cA (M.bd m k) U0 H0 s P Ee) :
  Run K cA m U H s (λa s1 U1 H1=>Ext U H U1 H1/\aF K cA U1 H1 s1/\Run K cA (k a) U0 H0 s1 P Ee) Ee:=by
 unfold Run M.bd at *;cases e:m s with
 |none=>rw[e] at h;exact h
 |some r=>
  obtain⟨r,s1⟩:=r;rw[e] at h;cases r with
  |er c f=>exact λU1 H1 x1 r1=>h U1 H1 (x.trans x1) r1
  |ok a=>exact λU1 H1 x1 r1=>⟨x1,r1,h⟩
theorem Zv{α β:Type}{m:M α}{k:α->M β}{P:β->S->Ph->Hp->Prop}{Ee Ee':Nat->List D->S->Ph->Hp->Prop}(x:Ext U0 H0 U H)(h:Run K cA (M.bd (M.qt m) k) U0 H0 s P Ee) :
  Run K cA m U H s (λa s1 U1 H1=>Ext U H U1 H1/\aF K cA U1 H1 s1/\Run K cA (k a) U0 H0 s1 P Ee) Ee':=by
 have h2:=h.bd0 x;unfold Run at h2 ⊢;unfold M.qt at h2;cases e:m s with
 |none=>rw[e] at h2;exact h2
 |some r=>
  obtain⟨r,s1⟩:=r;rw[e] at h2;cases r with
  |ok a=>exact h2
  |er c f=>exact h2.elim
theorem zm6{α β:Type}{m m':M α}{k:α->M β}{P:β->S->Ph->Hp->Prop}{Ee:Nat->List D->S->Ph->Hp->Prop}(e:m s=m' s)(h:Run K cA (M.bd m k) U H s P Ee):Run K cA (M.bd m' k) U H s P Ee:=by
 unfold Run M.bd at *;rw[<-e];exact h
end
section
variable {X:Cx}{cA:Cl}{aq:Nat->Nat->Bool}{aj:Bool}{F:Fn}{EX:XS}{elt iter tg:Expr}{A B:E}{pos p:Pos}{ifs:List Expr}{scope:Scope}{N:List Str}{cond:Eo}{fr dH:List Nat}{many:Nat}{fz:Bool}{w:Wk}
def JL(X:Cx)(cA:Cl)(aq:Nat->Nat->Bool)(aj:Bool)(F:Fn)(EX:XS)(ifs:List Expr)(m:Eo):Prop:=Mv X ifs (wj X.K cA EX (rT aq aj F m))
theorem zmR:JL X cA aq aj F EX [] .no:=λao s Z H Q I ⟨U,J,st,hL,hS,h⟩=>zjn ao s Z H Q I (h.bG hS)
theorem zko(h:ST X cA aq aj F EX c C):JL X cA aq aj F EX [c] (.yes C):=zjh h
structure m8(K:W.Frag)(cA:Cl)(g:TG)(dH:List Nat):Prop where
 run:∀(U:Ph) (H:Hp) (s:S) (Z:L2.St) (J J':Vs) (d:D) (v:V) (Q:L2.St->Hp->Prop),aZ K cA U H Z J->aF K cA U H s->Rep K cA U H d v->iC dH d J=some J'->
  (∀Z',aZ K cA U H Z' J'->Z'.length=Z.length->(∀i,i∉dH->Z'[i]?=Z[i]?)->Q Z' H)->g v Z H Q
theorem nJ{K:W.Frag}(i:Nat):m8 K cA (eF i) [i] where
 run:=λU H s Z J J' d v Q hL hS r e k=>by
  cases e;exact k _ (hL.set (.d r)) (lB ..) λj hj=>pH (by simpa using λz=>hj (by simp[z]))
theorem E_{K:W.Frag}(i j:Nat):m8 K cA (ug K 2 (iu (eF i) (iu (eF j) uf))) [i,j] where
 run:=λU H s Z J J' d v Q hL hS r e k=>by
  have e:(lN d).bind (λds=>gP [i,j] (ds.map Xv.d) J)=some J':=e;obtain⟨ds,e1,e2⟩:=yD.mp e;cases r with
  |@tup ad xs vs h1 h2=>
   have e1:xs=ds:=cJ e1;subst e1;cases h2 with
   |nil=>cases e2
   |cons r1 t1=>
    cases t1 with
    |nil=>cases e2
    |cons r2 t2=>
     cases t2 with
     |nil=>
      have e2:=cJ e2;subst e2;refine⟨ad,_,rfl,h1.jm,rfl,_,_,rfl,_,_,rfl,rfl,k _ ((hL.set (.d r1)).set (.d r2)) (by rw[lB,lB]) λm hm=>?_⟩;rw[pH (λz=>hm (by simp[z])),pH (λz=>hm (by simp[z]))]
     |cons r3 t3=>cases e2
  |_=>cases e1
noncomputable def cU(many:Nat)(fr:List Nat)(Z:L2.St):L2.St:=List.replicate many none++fr.map λj=>(Z[j]?).join
theorem zjQ{U:Ph}{H:Hp}{Z:L2.St}{J:Vs}(hL:aZ X.K cA U H Z J){Z':L2.St}(hl:Z'.length=many+fr.length)(hf:∀(i:Nat) j v,fr[i]?=some j->Z[j]?=some (some v)->Z'[many+i]?=some (some v)):aZ X.K cA U H Z' (blk many fr J):=by
 refine⟨by unfold blk;simp[hl],λi d e=>?_⟩;unfold blk at e;by_cases hi:i<many
 ·rw[nQ (by simpa using hi),KR,if_pos hi] at e;cases e
 ·rw[qF (by simpa using Gf hi),FQ,iW] at e;cases z:fr[i-many]? with
  |none=>rw[z] at e;cases e
  |some j=>
   rw[z] at e;have e3:J[j]?.join=some d:=by simpa using e
   obtain⟨v,q1,q2⟩:=hL.2 j d (Ss e3);refine⟨v,?_,q2⟩;have:=hf (i-many) j v z q1;rw[show many+(i-many)=i by omega] at this;exact this
structure fC(U:Ph)(H:Hp)(Dd:Addr)(o:HO):Prop where
 at_:H Dd=some o
 nl:Dd∉U.l
 z:U.z Dd
abbrev Keep(U:Ph)(H:Hp)(Dd:Addr)(vs:List V):Prop:=fC U H Dd (.lst vs)
theorem fC.mono{U U':Ph}{H H':Hp}{Dd:Addr}{o:HO}(x:Ext U H U' H')(k:fC U H Dd o):fC U' H' Dd o:=by
 refine⟨x.frame _ _ k.at_ k.nl,λz=>?_,x.tG _ k.z⟩;obtain⟨r,er,hr⟩:=x.more;rw[er] at z;rcases iR.mp z with z|z
 ·exact k.nl z
 ·have:=hr _ z;rw[k.at_] at this;cases this
theorem fC.ext{U:Ph}{H:Hp}{Dd:Addr}{o u:HO}(k:fC U H Dd o):(∀a o,H a=some o->¬U.z a->(upd H Dd u) a=some o)/\fC U (upd H Dd u) Dd u:=
 ⟨λa o e n=>by rw[cW (λz=>n (by rw[z];exact k.z))];exact e,iV,k.nl,k.z⟩
end
section
variable {K:W.Frag}{cA:Cl}{U U':Ph}{H H':Hp}
theorem aF.keep{s:S}{Dd:Addr}{o u:HO}(h:aF K cA U H s)(k:fC U H Dd o):aF K cA U (upd H Dd u) s:=by
 have x:dD U H (upd H Dd u):=k.ext.1;refine⟨h.len,λn o a e1 e2=>?_,h.uniq,h.lz,λa z=>?_⟩
 ·have na:a≠Dd:=λy=>k.nl (by rw[<-y];exact fZ e2);exact(h.obj n o a e1 e2).map (λ_ q=>by rw[cW na];exact q) λ_ _ r=>r.out x
 ·by_cases e:a=Dd
  ·subst e;exact⟨_,iV⟩
  ·obtain⟨o,q⟩:=h.zt a z;exact⟨o,by rw[cW e];exact q⟩
theorem Ext.keep{U1:Ph}{H1:Hp}{Dd:Addr}{vs:List V}{u:HO}(x:Ext U1 H1 U H)(hD:H1 Dd=none):Ext U1 H1 U (upd H Dd u):=by
 refine⟨x.more,x.tG,x.m7,λa o h n=>?_,λa o h=>?_⟩
 ·rw[cW (λz=>by rw[z,hD] at h;cases h)];exact x.frame a o h n
 ·rw[cW (λz=>by rw[z,hD] at h;cases h)];exact x.stay a o h
theorem zgQ{U1:Ph}{H1:Hp}{s':S}{fz:Bool}{acc:List D}{vs:List V}{Dd:Addr}{Q:VK}{Ee:Nat->List D->S->Ph->Hp->Prop}(h:Run K cA (newL fz acc) U1 H1 s' (λd _ U' H'=>∀v,bw K cA U' H' d v->Q v H') Ee)
  (x2:Ext U1 H1 U' H') (hD:H1 Dd=none) (nz:¬U1.z Dd) (aX:aF K cA U' H' s') (k:Keep U' H' Dd vs) (zL:aC K cA U' H' acc vs):Q (.ref Dd) H':=by
 cases fz with
 |true=>
  have zq:∀a,(λa=>U'.z a/\a≠Dd) a->U'.z a:=λa z=>z.1;refine h ⟨λa=>U'.z a/\a≠Dd,U'.l⟩ H' ⟨x2.more,λa z=>⟨x2.tG a z,λe=>nz (by rw[<-e];exact z)⟩,λa z=>x2.m7 a z.1,x2.frame,x2.stay⟩ ?_ _ (.d (.fl (.inl ⟨.inl k.at_,λz=>z.2 rfl⟩) (aC.kj (U:=U') zq zL)));refine⟨aX.len,λn o a e1 e2=>kJ.kj (U:=U') zq (aX.obj n o a e1 e2),aX.uniq,λa ha=>⟨aX.lz a ha,λe=>k.nl (by rw[<-e];exact ha)⟩,λa z=>aX.zt a z.1⟩
 |false=>
  obtain⟨r,er,hr⟩:=x2.more;refine h ⟨U'.z,U'.l++[Dd]⟩ H' ⟨⟨r++[Dd],by show U'.l++[Dd]=_;rw[er,La],λb hb=>?_⟩,x2.tG,x2.m7,x2.frame,x2.stay⟩ ?_ _ (.l (by show (U'.l++[Dd])[s'.length]?=_;rw[<-aX.len];simp))
  ·rcases iR.mp hb with z|z
   ·exact hr b z
   ·simp at z;subst z;exact hD
  ·refine⟨by show (U'.l++[Dd]).length=_;rw[dG,dG,aX.len];rfl,λm o' a' e1 e2=>?_,?_,λb hb=>?_,aX.zt⟩
   ·have e2:(U'.l++[Dd])[m]?=some a':=e2;by_cases hm:m<s'.length
    ·rw[nQ hm] at e1;rw[nQ (by rw[aX.len];exact hm)] at e2;exact kJ.zl (aX.obj m o' a' e1 e2) _
    ·have tu:m=s'.length:=by
      have z:=(dN.mp e2).1;rw[dG,aX.len] at z;simp at z;omega
     subst tu;rw[qF (bO _)] at e1;rw[qF (by rw[aX.len];exact bO _)] at e2;simp at e1;simp[aX.len] at e2;subst e1 e2;exact⟨vs,k.at_,aC.zl zL _⟩
   ·show (U'.l++[Dd]).Nodup;rw[Lb];refine⟨aX.uniq,by simp,λb hb c hc e=>?_⟩;simp at hc;subst hc e;exact k.nl hb
   ·have hb:b∈U'.l++[Dd]:=hb;rcases iR.mp hb with z|z
    ·exact aX.lz b z
    ·simp at z;subst z;exact k.z
noncomputable def Ph.mark(U:Ph)(p:Addr):Ph:=⟨λa=>U.z a\/a=p,U.l⟩
theorem zeQ{s:S}{p:Addr}(hS:aF K cA U H s)(hp:H p=none):Ext U H (U.mark p) (upd H p (.lst []))/\aF K cA (U.mark p) (upd H p (.lst [])) s/\Keep (U.mark p) (upd H p (.lst [])) p []:=by
 have g:=aY.new (o:=.lst []) hp;have nz:=hS.nz hp;refine⟨⟨⟨[],by simp[Ph.mark],by simp⟩,λa z=>.inl z,λa z=>z.imp id λe=>by rw[e];exact hp,λa o h _=>g a o h,λa o h=>⟨o,g a o h⟩⟩,⟨hS.len,λn o a e1 e2=>?_,hS.uniq,λa ha=>.inl (hS.lz a ha),λa z=>?_⟩,iV,λz=>nz (hS.lz p z),.inr rfl⟩
 ·have x:Ext U H (U.mark p) (upd H p (.lst [])):=⟨⟨[],by simp[Ph.mark],by simp⟩,λa z=>.inl z,λa z=>z.imp id λe=>by rw[e];exact hp,λa o h _=>g a o h,λa o h=>⟨o,g a o h⟩⟩;exact(hS.obj n o a e1 e2).map (g _) λ_ _ r=>r.mono x hS.lz
 ·rcases z with z|z
  ·obtain⟨o,e⟩:=hS.zt a z;exact⟨o,g _ _ e⟩
  ·subst z;exact⟨_,iV⟩
end
section
variable {X:Cx}{cA:Cl}{aq:Nat->Nat->Bool}{aj:Bool}{F:Fn}{EX:XS}{elt iter tg:Expr}{A B:E}{pos p:Pos}{ifs:List Expr}{scope:Scope}{N:List Str}{cond:Eo}{fr dH:List Nat}{many:Nat}{fz:Bool}{w:Wk}
noncomputable abbrev gF(aq:Nat->Nat->Bool)(aj:Bool)(F:Fn)(B:E)(cond:Eo)(dH:List Nat)(Jb:Vs):D->List D->M (List D):=λd acc=>M.bd (M.opt (iC dH d Jb)) λJ'=>M.bd (M.qt (rT aq aj F cond J')) λok=>
    if ok=true then M.bd (M.qt (ev aq aj F B J')) λy=>M.bd (dat y) λe=>if acc.length<sizeLine then M.ret (acc++[e]) else M.no else M.ret acc
theorem Zw{H:Hp}{a:Addr}{o:HO}(h:H a=some o):upd H a o=H:=funext λb=>by
 by_cases z:b=a
 ·subst z;rw[iV,h]
 ·rw[cW z]
theorem zhv{K:W.Frag}{g:TG}{U1 U':Ph}{H1 H2:Hp}{s':S}{Z':L2.St}{Jb:Vs}{Dd:Addr}{acc:List D}{vs:List V}{xi:D}{v:V}{β:Type}{kk:List D->M β}{P:β->S->Ph->Hp->Prop}{Ee:Nat->List D->S->Ph->Hp->Prop}(hT:m8 K cA g dH)(iD:∀i∈dH,i<many)
  (hD:H1 Dd=none) (x2:Ext U1 H1 U' H2) (hL2:aZ K cA U' H2 Z' Jb) (aX:aF K cA U' H2 s') (kp:Keep U' H2 Dd vs) (zL:aC K cA U' H2 acc vs) (rx:Rep K cA U' H2 xi v)
  (h:Run K cA (M.bd (gF aq aj F B cond dH Jb xi acc) kk) U1 H1 s' P Ee) {Nn:L2.St->Hp->Prop}
  (hN:∀Z3 H3 U3 s3 xV Nh,Z3.length=Z'.length->(∀i,many<=i->Z3[i]?=Z'[i]?)->Ext U1 H1 U3 H3->Ext U' H2 U3 (upd H3 Dd (.lst vs))->aF K cA U3 H3 s3->Keep U3 H3 Dd Nh->aC K cA U3 H3 xV Nh->Run K cA (kk xV) U1 H1 s3 P Ee->Nn Z3 H3) :
  g v Z' H2 λZ3 H3=>wj K cA (λ_ _ _ _=>False) (rT aq aj F cond) Z3 H3 λok H4=>
   if ok=true then tE K cA (λ_ _ _ _=>False) (ev aq aj F B) Z3 H4 λy H5=>∃ys,H5 Dd=some (.lst ys)/\ys.length<sizeLine/\Nn Z3 (upd H5 Dd (.lst (ys++[y]))) else Nn Z3 H4:=by
 unfold gF at h;rw[jL] at h;obtain⟨J',e1,h1⟩:=M4 h;refine hT.run U' H2 s' Z' Jb J' xi v _ hL2 aX rx e1 λZ3 xP Zx hf3=>?_;rw[jL] at h1;have kf:∀i,many<=i->Z3[i]?=Z'[i]?:=λi hi=>hf3 i λz=>absurd (iD i z) (Nat.not_lt.mpr hi);refine⟨U',J',s',xP,aX,(Zv x2 h1).imp λok s4 U4 H4 ⟨x4,zB,h6⟩=>?_⟩;cases ok with
 |false=>
  refine iF (hN Z3 H4 U4 s4 acc vs Zx kf (x2.trans x4) (by rw[Zw (kp.mono x4).at_];exact x4) zB (kp.mono x4) (zL.mono x4 aX.lz) ?_);rw[if_neg (by decide)] at h6;exact h6
 |true=>
  rw[if_pos rfl,jL] at h6;refine iT ⟨U4,J',s4,xP.mono x4 aX.lz,zB,(Zv (x2.trans x4) h6).imp λy s5 U5 H5 ⟨x5,hS5,h7⟩ u ru=>?_⟩;rw[jL] at h7;have k5:=(kp.mono x4).mono x5;have r5:=(zL.mono x4 aX.lz).mono x5 zB.lz;have x15:=(x2.trans x4).trans x5;obtain⟨dd,ey,rd,h8⟩ : ∃d,y=.d d/\Rep K cA U5 H5 d u/\Run K cA (M.bd (if acc.length<sizeLine then M.ret (acc++[d]) else M.no) kk) U1 H1 s5 P Ee:=by
   cases ru with
   |l _=>exact h7.elim
   |d r=>exact⟨_,rfl,r,h7⟩
  by_cases hz:acc.length<sizeLine
  ·rw[if_pos hz] at h8;refine⟨vs,k5.at_,by rw[<-r5.len];exact hz,?_⟩;have ox:dD U5 H5 (upd H5 Dd (.lst (vs++[u]))):=k5.ext.1;exact hN Z3 _ U5 s5 (acc++[dd]) (vs++[u]) Zx kf (Ext.keep (vs:=vs) x15 hD) (by rw[WM,Zw k5.at_];exact x4.trans x5) (hS5.keep k5) k5.ext.2 ((r5.app (.cons rd .nil)).out ox) h8
  ·rw[if_neg hz] at h8;exact h8.elim
theorem Zy{g:TG}{iter':Expr}(hT:m8 X.K cA g dH)(iD:∀i∈dH,i<many){Z:L2.St}{H:Hp}{Q:VK}(hh:tE X.K cA EX (ev aq aj F (.comp fz B dH w fr many cond)) Z H Q) :
  uz (tI X.K cA EX (nG aq aj F w)) (cU many fr) g (wj X.K cA (λ_ _ _ _=>False) (rT aq aj F cond)) (tE X.K cA (λ_ _ _ _=>False) (ev aq aj F B)) Z H Q:=un hh λU J s hL hS h=>by
 by_cases cI:aj=true
 ·have h:Run X.K cA (if aj=true then M.bd (nG aq aj F w J) λcn=>M.bd (walk cn.1 (gF aq aj F B cond dH (blk many fr J)) (cn.2+1) 0 []) λxs=>newL fz xs else M.no) U H s (λd _ U' H'=>∀v,bw X.K cA U' H' d v->Q v H') (eX X.K cA EX Z):=h;rw[if_pos cI] at h;refine⟨U,J,s,hL,hS,h.bd.imp λcn s1 U1 H1 ⟨x1,aH,h1⟩ bR hJ=>?_⟩;have hL1:=hL.mono x1 hS.lz;obtain⟨c,n⟩:=cn;dsimp only at h1 hJ;intro Dd hD;obtain⟨x0,hS0,k0⟩:=zeQ aH hD;have S9:∀{Z':L2.St},(Z'.length=many+fr.length/\∀i,many<=i->Z'[i]?=(cU many fr Z)[i]?)->∀{U' H'},Ext U1 H1 U' H'->aZ X.K cA U' H' Z' (blk many fr J):=λ{Z'} hZ {U' H'} x=>zjQ (hL1.mono x aH.lz) hZ.1 λi j v e1 e2=>by
   rw[hZ.2 _ (by omega)];unfold cU;rw[qF (by simp),FQ,iW,show many+i-many=i by omega,e1];simp[e2]
  refine⟨λi m Z' H'=>m=n+1-i/\(Z'.length=many+fr.length/\∀i,many<=i->Z'[i]?=(cU many fr Z)[i]?)/\∃U' s' acc vs,Ext U1 H1 U' H'/\aF X.K cA U' H' s'/\Keep U' H' Dd vs/\aC X.K cA U' H' acc vs /\
   Run X.K cA (M.bd (walk c (gF aq aj F B cond dH (blk many fr J)) (n+1-i) i acc) λxs=>newL fz xs) U1 H1 s' (λd _ U' H'=>∀v,bw X.K cA U' H' d v->Q v H') (eX X.K cA EX Z),⟨n+1,rfl,⟨by simp[cU],λi _=>rfl⟩,U1.mark Dd,s1,[],[],x0,hS0,k0,.nil,h1⟩,?_⟩
  rintro i m Z' H' ⟨rfl,hZ,U',s',acc,vs,x2,aX,kp,zL,h3⟩;have hL2:=S9 hZ x2;cases ek:n+1-i with
  |zero=>rw[ek] at h3;exact h3.elim
  |succ k=>
   rw[ek] at h3;cases ei:c.at i s' with
   |none=>
    exfalso
    unfold Run M.bd walk at h3;simp only[ei] at h3
   |some oi=>
    cases oi with
    |none=>
     refine .inl ⟨hJ.stop U' H' H' s' i x2 dD.refl aX ei,?_⟩;have h4:Run X.K cA (newL fz acc) U1 H1 s' (λd _ U' H'=>∀v,bw X.K cA U' H' d v->Q v H') (eX X.K cA EX Z):=by
      unfold Run M.bd walk at h3;simp only[ei] at h3;exact h3
     exact zgQ h4 x2 hD (aH.nz hD) aX kp zL
    |some xi=>
     refine .inr ⟨hJ.go U' H' H' s' i xi x2 dD.refl aX ei,λZ2 H2=>(Z2.length=many+fr.length/\∀i,many<=i->Z2[i]?=(cU many fr Z)[i]?)/\∃U' s' acc vs,Ext U1 H1 U' H2/\aF X.K cA U' H2 s'/\Keep U' H2 Dd vs/\aC X.K cA U' H2 acc vs /\
      Run X.K cA (M.bd (walk c (gF aq aj F B cond dH (blk many fr J)) k (i+1) acc) λxs=>newL fz xs) U1 H1 s' (λd _ U' H'=>∀v,bw X.K cA U' H' d v->Q v H') (eX X.K cA EX Z),λZ2 H2 hn=>⟨k,by omega,by omega,hn.1,?_⟩,λv H2 hy=>?_⟩
     ·have:n+1-(i+1)=k:=by omega
      rw[this];exact hn.2
     ·obtain⟨gr,rx⟩:=hJ.Bl U' H' H' s' i xi v H2 x2 dD.refl aX ei hy;have h4:Run X.K cA (M.bd (gF aq aj F B cond dH (blk many fr J) xi acc) λacc'=>M.bd (walk c (gF aq aj F B cond dH (blk many fr J)) k (i+1) acc') λxs=>newL fz xs) U1 H1 s' (λd _ U' H'=>∀v,bw X.K cA U' H' d v->Q v H') (eX X.K cA EX Z):=by
       have h5:=zm6 (m':=M.bd (gF aq aj F B cond dH (blk many fr J) xi acc) λacc'=>walk c (gF aq aj F B cond dH (blk many fr J)) k (i+1) acc') (by rw[walk];simp only[ei]) h3;rw[jL] at h5;exact h5
      exact zhv hT iD hD (x2.trans gr.ext) (hL2.mono gr.ext aX.lz) (aX.grow gr) (kp.mono gr.ext) (zL.mono gr.ext aX.lz) rx h4 λZ3 H3 U3 s3 xV Nh l3 f3 x3 _ lQ k3 r3 h6=>⟨⟨l3.trans hZ.1,λi hi=>(f3 i hi).trans (hZ.2 i hi)⟩,U3,s3,xV,Nh,x3,lQ,k3,r3,h6⟩
 ·have h:Run X.K cA (if aj=true then M.bd (nG aq aj F w J) λcn=>M.bd (walk cn.1 (gF aq aj F B cond dH (blk many fr J)) (cn.2+1) 0 []) λxs=>newL fz xs else M.no) U H s (λd _ U' H'=>∀v,bw X.K cA U' H' d v->Q v H') (eX X.K cA EX Z):=h;rw[if_neg cI] at h;exact h.elim
theorem Zz{XN:List Str}(hfr:∀(i:Nat) (y:Str) (j:Nat),N[many+i]?=some y->fr[i]?=some j->scope.names.lookup y=some .free/\XN[j]?=some y)(Z:L2.St)(i:Nat)(x:Str)(v:V)(e1:N[i]?=some x)(e2:(cU many fr Z)[i]?=some (some v)):scope.names.lookup x=some .free/\∃j:Nat,XN[j]?=some x/\Z[j]?=some (some v):=by
 unfold cU at e2;by_cases hi:i<many
 ·rw[nQ (by simpa using hi),KR,if_pos hi] at e2;cases e2
 ·rw[qF (by simpa using Gf hi),FQ,iW] at e2;cases z:fr[i-many]? with
  |none=>rw[z] at e2;cases e2
  |some j=>
   rw[z] at e2;have e3:(Z[j]?).join=some v:=by simpa using e2
   obtain⟨a1,a2⟩:=hfr (i-many) x j (by rw[show many+(i-many)=i by omega];exact e1) z;exact⟨a1,j,a2,Ss e3⟩
theorem ZC{g:TG}(hc:X.aj=true)(B':dR X.env.scope scope)(hi:SI X cA aq aj F EX tg iter w)(hN:N.length=many+fr.length)
  (hfr:∀(i:Nat) (y:Str) (j:Nat),N[many+i]?=some y->fr[i]?=some j->scope.names.lookup y=some .free/\X.N[j]?=some y)
  (hg:∀cl C s3 H3 fp ao,PG (X.blk scope cl N C s3 H3 fp ao) tg g) (hT:m8 X.K cA g dH) (iD:∀i∈dH,i<many)
  (ht:∀cl C s3 H3 fp ao,JL (X.blk scope cl N C s3 H3 fp ao) cA aq aj F (λ_ _ _ _=>False) ifs cond) (he:∀cl C s3 H3 fp ao,SE (X.blk scope cl N C s3 H3 fp ao) cA aq aj F (λ_ _ _ _=>False) elt B)
  (hs:∀x,foldedSetIterable iter X.env x=pure x:=by intro _;rfl):SE X cA aq aj F EX (.ListComp elt [⟨tg,iter,ifs,0⟩] scope pos) (.comp fz B dH w fr many cond):=
 PE.weak (zkg hc B' hi (⟨hg,ht,he⟩ : Parts X elt tg ifs scope N g (wj X.K cA (λ_ _ _ _=>False) (rT aq aj F cond)) (tE X.K cA (λ_ _ _ _=>False) (ev aq aj F B))) (ZY:=cU many fr) (λZ=>by simp[cU,hN]) (λZ i x v e1 e2=>Zz hfr Z i x v e1 e2) hs) λZ H Q hh=>Zy (iter':=iter) hT iD hh
end
section
variable (K:W.Frag)(cA:Cl)
def aO(m:MS)(U:Ph)(H:Hp)(s:S)(D:Ends)(EX:XS):Prop:=match m s with
 |some (.nx J,s')=>∀U' H' Z',Ext U H U' H'->aF K cA U' H' s'->aZ K cA U' H' Z' J->D.nx Z' H'
 |some (.bk J,s')=>∀U' H' Z',Ext U H U' H'->aF K cA U' H' s'->aZ K cA U' H' Z' J->D.bk Z' H'
 |some (.ct J,s')=>∀U' H' Z',Ext U H U' H'->aF K cA U' H' s'->aZ K cA U' H' Z' J->D.ct Z' H'
 |some (.rt d,s')=>∀U' H' v,Ext U H U' H'->aF K cA U' H' s'->bw K cA U' H' d v->D.rt v H'
 |some (.er c fs J,s')=>∀U' H' Z',Ext U H U' H'->aF K cA U' H' s'->aZ K cA U' H' Z' J->∀dx,j_ K cA U' H' c fs dx->EX Z' (.ref (cA.a c)) dx H'
 |none=>False
noncomputable def tS(EX:XS)(m:Vs->MS):TS:=λD Z H=>∃U J s,aZ K cA U H Z J/\aF K cA U H s/\aO K cA (m J) U H s D EX
end
section
variable {K:W.Frag}{cA:Cl}{U U':Ph}{H H':Hp}{s:S}{Z:L2.St}{J:Vs}{EX:XS}{D:Ends}
theorem aO.ext{m:MS}(x:Ext U H U' H')(h:aO K cA m U H s D EX):aO K cA m U' H' s D EX:=by
 unfold aO at *;split at h<;>first
  |exact λU2 H2 a y r l=>h U2 H2 a (x.trans y) r l
  |exact h.elim
theorem aO.ofM{α:Type}{m:M α}{k:α->MS}(hL:aZ K cA U H Z J)(hz:∀a∈U.l,U.z a)(h:aO K cA (ofM m J k) U H s D EX):Run K cA m U H s (λa s1 U1 H1=>Ext U H U1 H1/\aF K cA U1 H1 s1/\aO K cA (k a) U1 H1 s1 D EX) (eX K cA EX Z):=by
 unfold aO Mi.ofM at h;unfold Run;cases e:m s with
 |none=>rw[e] at h;exact h
 |some r=>
  obtain⟨r,s1⟩:=r;rw[e] at h;cases r with
  |er c fs=>exact λU1 H1 x r=>h U1 H1 Z x r (hL.mono x hz)
  |ok a=>
   intro U1 H1 x r;refine⟨x,r,?_⟩;have h2:aO K cA (k a) U H s1 D EX:=h;exact h2.ext x
theorem aO.then_(h:aO K cA (cH m k) U H s D EX):aO K cA m U H s {D with nx:=λZ' H'=>∃U' J' s',aZ K cA U' H' Z' J'/\aF K cA U' H' s'/\aO K cA (k J') U' H' s' D EX} EX:=by
 unfold aO cH at h;unfold aO;cases e:m s with
 |none=>rw[e] at h;exact h
 |some r=>
  obtain⟨r,s1⟩:=r;rw[e] at h;cases r with
  |nx J=>
   intro U1 H1 Z1 x r l;have h2:aO K cA (k J) U H s1 D EX:=h;exact⟨U1,J,s1,l,r,h2.ext x⟩
  |bk J=>exact h
  |ct J=>exact h
  |rt d=>exact h
  |er c fs J=>exact h
end
section
variable (X:Cx)(cA:Cl)(aq:Nat->Nat->Bool)(aj:Bool)(F:Bool->Fn)(EX:XS)
def SS(st:Stmt)(m:St):Prop:=PS X st (tS X.K cA EX (ex aq aj F m))
def tL(st:List Stmt)(m:bV):Prop:=nW X st (tS X.K cA EX (exs aq aj F m))
end
section
variable {X:Cx}{cA:Cl}{aq:Nat->Nat->Bool}{aj:Bool}{F:Bool->Fn}{EX:XS}{a b c d e:Expr}{A B C:E}{pos p p2:Pos}{st:Stmt}{sts body orelse:List Stmt}{m:St}{ms mb me mh:bV}{es:List Expr}{Xs:Es}{x y n:Str}{i j:Nat}
theorem PS.weak{t t':TS}(h:PS X st t)(f:∀D Z H,t' D Z H->t D Z H):PS X st t':=λao s Z H D I q=>h ao s Z H D I (f D Z H q)
theorem nW.weak{t t':TS}(h:nW X sts t)(f:∀D Z H,t' D Z H->t D Z H):nW X sts t':=λao s Z H D I q=>h ao s Z H D I (f D Z H q)
theorem zjt:tL X cA aq aj F EX [] .nil:=nW.weak W_ λD Z H hh=>un hh λU J s hL hS h=>h U H Z Ext.refl hS hL
theorem zhD(h1:SS X cA aq aj F EX st m)(h2:tL X cA aq aj F EX sts ms):tL X cA aq aj F EX (st::sts) (.cons m ms):=nW.weak (Xa h1 h2) λD Z H hh=>un hh λU J s hL hS h=>by
 have h:aO X.K cA (cH (ex aq aj F m J) λJ'=>exs aq aj F ms J') U H s D EX:=h;exact⟨U,J,s,hL,hS,h.then_⟩
theorem znY(ha:SE X cA aq aj (F aj) EX a A)(hs:swapsWith a none pos.line X.env=pure false:=by rfl):SS X cA aq aj F EX (.Expr a pos) (.ex A):=PS.weak (zj3 ha hs) λD Z H hh=>un hh λU J s hL hS h=>
 ⟨U,J,s,hL,hS,(aO.ofM hL hS.lz h).imp λd s1 U1 H1 ⟨x1,aH,h1⟩ v rv=>h1 U1 H1 Z Ext.refl aH (hL.mono x1 hS.lz)⟩
theorem zmF(ha:SE X cA aq aj (F aj) EX a A):SS X cA aq aj F EX (.Return (some a) pos) (.ret A):=PS.weak (zna ha) λD Z H hh=>un hh λU J s hL hS h=>
 ⟨U,J,s,hL,hS,(aO.ofM hL hS.lz h).imp λd s1 U1 H1 ⟨x1,aH,h1⟩ v rv=>h1 U1 H1 v Ext.refl aH rv⟩
theorem zm2(hN:X.N.Nodup)(hi:X.N[i]?=some x)(hx:Loc X.env.scope x)(ha:SE X cA aq aj (F aj) EX a A)(hs:swapsWith a (some (.Name x p)) pos.line X.env=pure false:=by rfl)(hf:X.fn x=true\/X.env.scope.names.lookup x=some .local:=by first|exact .inl rfl|exact .inr rfl) :
  SS X cA aq aj F EX (.Assign [.Name x p] a pos) (.asg (.nm i) A):=PS.weak (zmP hN hi hx ha hs hf) λD Z H hh=>un hh λU J s hL hS h=>
 ⟨U,J,s,hL,hS,(aO.ofM hL hS.lz h).imp λd s1 U1 H1 ⟨x1,aH,h1⟩ v rv=>h1 U1 H1 _ Ext.refl aH ((hL.mono x1 hS.lz).set rv)⟩
theorem S_{k}(hc:X.aj=true)(hN:X.N.Nodup)(hi:X.N[i]?=some x)(hj:X.N[j]?=some y)(hx:Loc X.env.scope x)(hy:Loc X.env.scope y)(xW:X.fn x=true\/X.env.scope.names.lookup x=some .local)(xX:X.fn y=true\/X.env.scope.names.lookup y=some .local) :
  PG X (.Tuple [.Name x px,.Name y py] k pos) (ug X.K 2 (iu (eF i) (iu (eF j) uf))):=zl7 hc (Xb (LQ hN hi hx xW) (Xb (LQ hN hj hy xX) zkt))
theorem ZD{K:W.Frag}{U:Ph}{H:Hp}{s:S}{J:Vs}{Z:L2.St}{D:Ends}{d:Xv}{v:V}(cI:aj=true)(hL:aZ K cA U H Z J)(hS:aF K cA U H s)(rv:bw K cA U H d v)(h:aO K cA (store aq aj (F aj) (.tp [i,j]) d J) U H s D EX):ug K 2 (iu (eF i) (iu (eF j) uf)) v Z H D.nx:=by
 have h:aO K cA (if aj=true then ofM (M.bd (dat d) λd=>M.opt ((lN d).bind λds=>gP [i,j] (ds.map Xv.d) J)) J (λJ' s=>some (Out.nx J',s)) else λ_=>none) U H s D EX:=h;rw[if_pos cI] at h;obtain⟨dd,e0,rd,h1⟩:=M5 rv (aO.ofM hL hS.lz h);obtain⟨J',e,_,aH,h2⟩:=Run.opt hS h1;refine(E_ i j).run U H s Z J J' dd v _ hL hS rd e λZ' hL' _ _=>h2 U H Z' Ext.refl hS hL'
theorem zky{k}(hc:X.aj=true)(cI:aj=true)(hN:X.N.Nodup)(hi:X.N[i]?=some x)(hj:X.N[j]?=some y)(hx:Loc X.env.scope x)(hy:Loc X.env.scope y)(xW:X.fn x=true\/X.env.scope.names.lookup x=some .local)(xX:X.fn y=true\/X.env.scope.names.lookup y=some .local)(ha:SE X cA aq aj (F aj) EX a A)
  (hs:swapsWithSole [.Tuple [.Name x px,.Name y py] k pt] a pos.line X.env=pure false:=by rfl) (hw:swappedStores [.Tuple [.Name x px,.Name y py] k pt] a X.env=pure none:=by rfl)
  (h1:(assignEach [.Tuple [.Name x px,.Name y py] k pt] X.env).map (·.2)=[assign (.Tuple [.Name x px,.Name y py] k pt) X.env]:=by rfl) :
  SS X cA aq aj F EX (.Assign [.Tuple [.Name x px,.Name y py] k pt] a pos) (.asg (.tp [i,j]) A):=PS.weak (Xc ha (S_ hc hN hi hj hx hy xW xX) hs hw h1) λD Z H hh=>un hh λU J s hL hS h=>
 ⟨U,J,s,hL,hS,(aO.ofM hL hS.lz h).imp λd s1 U1 H1 ⟨x1,aH,h1⟩ v rv=>ZD cI (hL.mono x1 hS.lz) aH rv h1⟩
theorem zkV(hO:SE X cA aq aj (F aj) EX oo O)(hI:SE X cA aq aj (F aj) EX ii I')(ha:SE X cA aq aj (F aj) EX a A)
  (Tc:∀v,assign (.Subscript oo ii p) X.env v=(do
   let ov <-holding [v] (eval oo X.env)
   let iv <-holding [v,ov] (eval ii X.env)
   standAt p
   holding [v,ov,iv] (setItem ov iv v)
   release [v,ov,iv] []):=by intro _;rfl) (hs:swapsWithSole [.Subscript oo ii p] a pos.line X.env=pure false:=by rfl) (hw:swappedStores [.Subscript oo ii p] a X.env=pure none:=by rfl)
  (h1:(assignEach [.Subscript oo ii p] X.env).map (·.2)=[assign (.Subscript oo ii p) X.env]:=by rfl) :
  SS X cA aq aj F EX (.Assign [.Subscript oo ii p] a pos) (.asg (.aq O I') A):=PS.weak (Xc ha (zlo hO hI zhV Tc) hs hw h1) λD Z H hh=>un hh λU J s hL hS h=>by
 refine⟨U,J,s,hL,hS,(aO.ofM hL hS.lz h).imp λd s1 U1 H1 ⟨x1,aH,h1⟩ v rv=>?_⟩;obtain⟨dd,e0,rd,h2⟩:=M5 rv (aO.ofM (hL.mono x1 hS.lz) aH.lz h1);refine bB (hL.mono x1 hS.lz) aH h2 λxo H2 U2 d2 s2 x2 hL2 aX r2 h3=>bB hL2 aX h3 λyi H3 U3 d3 s3 x3 xP lQ r3 h4=>?_;obtain⟨k,_,ek,h5⟩:=Jr r3 h4;obtain⟨n,ad,xs,vs,_,ea,e1,f1,g1,q1,h6⟩:=Ng lQ (r2.mono x3 aX.lz) h5;subst ek ea;cases ej:L2.pC xs.length k with
 |none=>simp only[ej] at h6;exact h6.elim
 |some jj=>
  simp only[ej] at h6;refine⟨ad,vs,k,jj,rfl,rfl,g1,by rw[<-q1.len];exact ej,?_⟩;have rv3:=(rd.mono x2 aH.lz).mono x3 aX.lz;have zB:=lQ.write e1 f1 (q1.set rv3 jj);have x4:Ext U3 H3 U3 (upd H3 ad (.lst (vs.set jj v))):=Ext.write f1 ⟨_,g1⟩;obtain⟨_,_,h8⟩:=h6 U3 _ x4 zB;exact h8 U3 _ Z Ext.refl zB (xP.mono x4 lQ.lz)
theorem zn3(hc:ST X cA aq aj (F aj) EX c C)(ht:tL X cA aq aj F EX body mb)(he:tL X cA aq aj F EX orelse me):SS X cA aq aj F EX (.If c body orelse pos) (.iff C mb me):=PS.weak (znA hc ht he) λD Z H hh=>un hh λU J s hL hS h=>by
 refine⟨U,J,s,hL,hS,(aO.ofM hL hS.lz h).imp λk s1 U1 H1 ⟨x1,aH,h1⟩=>?_⟩;cases k with
 |true=>exact iT ⟨U1,J,s1,hL.mono x1 hS.lz,aH,h1⟩
 |false=>exact iF ⟨U1,J,s1,hL.mono x1 hS.lz,aH,h1⟩
theorem zhW{cc:Nat}{B' Bn newId nid initId inN:String}{bmB bmN:List Value}{apos:Pos}(hf:cA.f cc=[])(Fn':ExcBaseFacts Bn newId inN bmN)(v9:bmB.contains (.type Bn)=true)(FB:ExcBaseFacts B' nid initId bmB)(hc:X.aj=true)(cI:aj=true)(hX:PySem.W.excIn X.K (cA.a cc) bmB newId=true)(hg:Gl X x)(hm:X.mg x=some (.ref (cA.a cc)))
  (R:Raises X EX) (ha:SA X cA aq aj (F aj) EX (e::es) Xs) (hz:Es.len Xs<=sizeLine) (jx:(x==("__debug__" : Str))=false:=by decide) (he:starEach (e::es) X.env=(false,eval e X.env)::starEach es X.env:=by rfl) (hpl:(backTo apos (starEach es X.env)).any (·.1)=false:=by rfl) :
  SS X cA aq aj F EX (.Raise (some (.Call (.Name x p) (e::es) [] apos)) none pos) (.rise cc false Xs):=PS.weak (ziq Fn' v9 FB hc hX hg hm R ha jx he hpl) λD Z H hh=>un hh λU J s hL hS h=>by
 have h:aO X.K cA (if aj=true then ofM (M.bd (evs aq aj (F aj) Xs J) bM) J (λds s=>some (.er cc (if false=true then ds else []) J,s)) else λ_=>none) U H s D EX:=h;rw[if_pos cI] at h;refine xQ hL hS (aO.ofM hL hS.lz h) λvs H1 U1 xs s1 hl x1 hL1 aH rv h1=>?_;have h1:Run X.K cA (M.bd (bM xs) M.ret) U1 H1 s1 (λa s1 U1 H1=>Ext U H U1 H1/\aF X.K cA U1 H1 s1/\aO X.K cA (λs=>some (.er cc (if false=true then a else []) J,s)) U1 H1 s1 D EX) (eX X.K cA EX Z):=by
  unfold Run at h1 ⊢;unfold M.bd;cases e1:bM xs s1 with
  |none=>rw[e1] at h1;exact h1
  |some r=>
   obtain⟨r,s2⟩:=r;rw[e1] at h1;cases r with
   |er c f=>exact h1
   |ok ds=>exact h1
 obtain⟨ds,e1,rs,h2⟩:=Js rv h1;obtain⟨_,_,h3⟩:=h2.bG aH;exact⟨by rw[<-rv.len,hl];exact hz,h3 U1 H1 Z Ext.refl aH hL1 none (.inl ⟨hf,rfl,rfl⟩)⟩
theorem zke{g:TG}{elt iter tg:Expr}{ifs:List Expr}{scope:Scope}{N:List Str}{cond:Eo}{fr dH:List Nat}{many:Nat}{fz:Bool}{w:Wk}{spos py:Pos}(hc:X.aj=true)(xY:X.N.Nodup)(Ip:X.N[i]?=some y)(hx:Loc X.env.scope y)(hf:X.fn y=true\/X.env.scope.names.lookup y=some .local)(B':dR X.env.scope scope)(hi:SI X cA aq aj (F aj) EX tg iter w)(hN:N.length=many+fr.length)
  (hfr:∀(i:Nat) (y:Str) (j:Nat),N[many+i]?=some y->fr[i]?=some j->scope.names.lookup y=some .free/\X.N[j]?=some y)
  (hg:∀cl C s3 H3 fp ao,PG (X.blk scope cl N C s3 H3 fp ao) tg g) (hT:m8 X.K cA g dH) (iD:∀i∈dH,i<many)
  (ht:∀cl C s3 H3 fp ao,JL (X.blk scope cl N C s3 H3 fp ao) cA aq aj (F aj) (λ_ _ _ _=>False) ifs cond) (he:∀cl C s3 H3 fp ao,SE (X.blk scope cl N C s3 H3 fp ao) cA aq aj (F aj) (λ_ _ _ _=>False) elt B)
  (Ir:swapsWith (.ListComp elt [⟨tg,iter,ifs,0⟩] scope pos) (some (.Name y py)) spos.line X.env=pure true) (hs:∀x,foldedSetIterable iter X.env x=pure x:=by intro _;rfl) :
  SS X cA aq aj F EX (.Assign [.Name y py] (.ListComp elt [⟨tg,iter,ifs,0⟩] scope pos) spos) (.asg (.nm i) (.comp fz B dH w fr many cond)):=
 PS.weak (ze7 hc xY Ip hx hf B' hi (⟨hg,ht,he⟩ : Parts X elt tg ifs scope N g (wj X.K cA (λ_ _ _ _=>False) (rT aq aj (F aj) cond)) (tE X.K cA (λ_ _ _ _=>False) (ev aq aj (F aj) B))) (ZY:=cU many fr) (λZ=>by simp[cU,hN]) (λZ i x v e1 e2=>Zz hfr Z i x v e1 e2) Ir hs) λD Z H hh=>un hh λU J s hL hS h=>
  Zy (iter':=iter) hT iD ⟨U,J,s,hL,hS,(aO.ofM hL hS.lz h).imp λd s1 U1 H1 ⟨x1,aH,h1⟩ v rv=>h1 U1 H1 _ Ext.refl aH ((hL.mono x1 hS.lz).set rv)⟩
noncomputable def oN(m:MS)(kN:Vs->MS):MS:=λs=>match m s with
 |some (.nx J',s')=>kN J' s'
 |some (.ct J',s')=>kN J' s'
 |some (.bk J',s')=>some (.nx J',s')
 |r=>r
theorem ZF{K:W.Frag}{U:Ph}{H:Hp}{s:S}{D:Ends}{m:MS}{kN:Vs->MS}{N:L2.St->Hp->Prop}(hN:∀U' J' s' Z' H',Ext U H U' H'->aZ K cA U' H' Z' J'->aF K cA U' H' s'->aO K cA (kN J') U' H' s' D EX->N Z' H')(h:aO K cA (oN m kN) U H s D EX) :
  aO K cA m U H s {D with nx:=N,ct:=N,bk:=D.nx} EX:=by
 unfold aO oN at h;unfold aO;cases e:m s with
 |none=>rw[e] at h;exact h
 |some r=>
  obtain⟨r,s1⟩:=r;rw[e] at h;cases r with
  |nx J'=>
   intro U1 H1 Z1 x r l;have h2:aO K cA (kN J') U H s1 D EX:=h;exact hN U1 J' s1 Z1 H1 x l r (h2.ext x)
  |ct J'=>
   intro U1 H1 Z1 x r l;have h2:aO K cA (kN J') U H s1 D EX:=h;exact hN U1 J' s1 Z1 H1 x l r (h2.ext x)
  |bk J'=>exact h
  |rt d=>exact h
  |er c fs J'=>exact h
theorem zhi(hp:PassesOwn (model X.prog X.w) X.A X.env X.xe)(hc:ST X cA aq aj (F aj) EX c C)(hb:tL X cA aq aj F EX body mb):SS X cA aq aj F EX (.While c body [] pos) (.wh C mb):=PS.weak (zhA hp hc hb) λD Z H hh=>un hh λU J s hL hS h=>by
 refine⟨λm Z H=>∃U J s,aZ X.K cA U H Z J/\aF X.K cA U H s/\aO X.K cA (gQ (λJ=>M.bd (ev aq aj (F aj) C J) bool) (λJ=>exs aq aj F mb J) m J) U H s D EX,⟨oK,U,J,s,hL,hS,h⟩,?_⟩;rintro m Z H ⟨U,J,s,hL,hS,h⟩;cases m with
 |zero=>exact h.elim
 |succ m=>
  refine⟨U,J,s,hL,hS,(aO.ofM (k:=λok=>if ok=true then oN (exs aq aj F mb J) (gQ (λJ=>M.bd (ev aq aj (F aj) C J) bool) (λJ=>exs aq aj F mb J) m) else λs=>some (.nx J,s)) hL hS.lz h).imp λk s1 U1 H1 ⟨x1,aH,h1⟩=>?_⟩;cases k with
  |true=>
   rw[if_pos rfl] at h1 ⊢;refine⟨_,λZ' H' z=>⟨m,Gd m,z⟩,U1,J,s1,hL.mono x1 hS.lz,aH,ZF (λU' J' s' Z' H' _ l r q=>?_) h1⟩;exact⟨U',J',s',l,r,q⟩
  |false=>
   rw[if_neg Ga] at h1 ⊢;exact h1 U1 H1 Z Ext.refl aH (hL.mono x1 hS.lz)
def SG(X:Cx)(cA:Cl)(aq:Nat->Nat->Bool)(aj:Bool)(F:Bool->Fn)(EX:XS)(tg:Expr)(t:Tg):Prop:=∃g:TG,PG X tg g/\∀(U:Ph) (H:Hp) (s:S) (Z:L2.St) (J:Vs) (d:Xv) (v:V) (D:Ends),aZ X.K cA U H Z J->aF X.K cA U H s->bw X.K cA U H d v->
 aO X.K cA (store aq aj (F aj) t d J) U H s D EX->g v Z H D.nx
theorem zkQ(hN:X.N.Nodup)(hi:X.N[i]?=some x)(hx:Loc X.env.scope x)(hf:X.fn x=true\/X.env.scope.names.lookup x=some .local:=by first|exact .inl rfl|exact .inr rfl):SG X cA aq aj F EX (.Name x pos) (.nm i):=
 ⟨_,LQ hN hi hx hf,λU H s Z J d v D hL hS r h=>h U H _ Ext.refl hS (hL.set r)⟩
theorem zjA{k}(hc:X.aj=true)(cI:aj=true)(hN:X.N.Nodup)(hi:X.N[i]?=some x)(hj:X.N[j]?=some y)(hx:Loc X.env.scope x)(hy:Loc X.env.scope y)(xW:X.fn x=true\/X.env.scope.names.lookup x=some .local)(xX:X.fn y=true\/X.env.scope.names.lookup y=some .local) :
  SG X cA aq aj F EX (.Tuple [.Name x px,.Name y py] k pos) (.tp [i,j]):=
 ⟨_,S_ hc hN hi hj hx hy xW xX,λU H s Z J d v D hL hS r h=>ZD cI hL hS r h⟩
theorem zlr(hp:PassesOwn (model X.prog X.w) X.A X.env X.xe)(hc:X.aj=true)(cI:aj=true)(ha:SI X cA aq aj (F aj) EX tg a w)(hg:SG X cA aq aj F EX tg t)(hb:tL X cA aq aj F EX body mb)
  (hs:∀x,foldedSetIterable a X.env x=pure x:=by intro _;rfl):SS X cA aq aj F EX (.For tg a body [] pos) (.fr t w mb):=by
 obtain⟨g,hG,hg⟩:=hg;refine PS.weak (znb hp hc ha hG hb hs) λD Z H hh=>un hh λU J s hL hS h=>?_;have h:aO X.K cA (if aj=true then ofM (nG aq aj (F aj) w J) J λcn=>cT cn.1 (λd J=>cH (store aq aj (F aj) t (.d d) J) λJ'=>exs aq aj F mb J') (cn.2+1) 0 J else λ_=>none) U H s D EX:=h;rw[if_pos cI] at h;refine⟨U,J,s,hL,hS,(aO.ofM hL hS.lz h).imp λcn s1 U1 H1 ⟨x1,aH,h1⟩ bR hJ=>?_⟩;have hL1:=hL.mono x1 hS.lz;obtain⟨c,n⟩:=cn;dsimp only at h1 hJ;refine⟨λi m Z' H'=>∃U' J' s',Ext U1 H1 U' H'/\aZ X.K cA U' H' Z' J'/\aF X.K cA U' H' s'/\aO X.K cA (cT c (λd J=>cH (store aq aj (F aj) t (.d d) J) λJ'=>exs aq aj F mb J') m i J') U' H' s' D EX,⟨n+1,U1,J,s1,Ext.refl,hL1,aH,h1⟩,?_⟩;rintro i m Z' H' ⟨U',J',s',x2,hL2,aX,h4⟩;cases m with
 |zero=>exact h4.elim
 |succ m=>
  cases ei:c.at i s' with
  |none=>
   exfalso
   unfold aO cT at h4;simp only[ei] at h4
  |some oi=>
   cases oi with
   |none=>
    refine .inl ⟨hJ.stop U' H' H' s' i x2 dD.refl aX ei,?_⟩;unfold aO cT at h4;simp only[ei] at h4;exact h4 U' H' Z' Ext.refl aX hL2
   |some xi=>
    refine .inr ⟨hJ.go U' H' H' s' i xi x2 dD.refl aX ei,_,λZ3 H3 z=>⟨m,Gd m,z⟩,λv H3 hy=>?_⟩;obtain⟨gr,rx⟩:=hJ.Bl U' H' H' s' i xi v H3 x2 dD.refl aX ei hy;have h5:aO X.K cA (oN (cH (store aq aj (F aj) t (.d xi) J') λJ'=>exs aq aj F mb J') (cT c (λd J=>cH (store aq aj (F aj) t (.d d) J) λJ'=>exs aq aj F mb J') m (i+1))) U' H' s' D EX:=by
     unfold aO at h4 ⊢;have e:cT c (λd J=>cH (store aq aj (F aj) t (.d d) J) λJ'=>exs aq aj F mb J') (m+1) i J' s'=oN (cH (store aq aj (F aj) t (.d xi) J') λJ'=>exs aq aj F mb J') (cT c (λd J=>cH (store aq aj (F aj) t (.d d) J) λJ'=>exs aq aj F mb J') m (i+1)) s':=by
      rw[cT];simp only[ei];rfl
     rw[e] at h4;exact h4
    exact hg U' H3 s' Z' J' (.d xi) v _ (hL2.mono gr.ext aX.lz) (aX.grow gr) (.d rx) (aO.then_ (ZF (λU4 J4 s4 Z4 H4 x4 l4 r4 q4=>⟨U4,J4,s4,(x2.trans gr.ext).trans x4,l4,r4,q4⟩) (h5.ext gr.ext)))
theorem zk0(cI:aj=true)(hex:X.ex=[])(pB:X.stack=X.env::X.outer/\X.env.frame=some X.env.locals)(hg:Gl X x)(hm:X.mg x=some (.ref (cA.a dc)))(hN:X.N.Nodup)(hi:X.N[i]?=some n)(hl:X.env.scope.names.lookup n=some .local)
  (hsub:∀c,aq c dc=true->subIn X.K (cA.a c) (cA.a dc)=true)
  (hb:∀(pn:List (Addr×Obj)) (E':Value->Shared->Prop) (tD:XS),Raises (X.seen X.A X.aj pn E') tD->PassesOwn (model X.prog X.w) X.A X.env E'->tL (X.seen X.A X.aj pn E') cA aq aj F tD body mb)
  (hh:∀e:Value,tL (X.seen (X.A.mark (some e)) false X.pn (λ_ _=>False)) cA aq false F (λ_ _ _ _=>False) (b₀::suite) mh) (jx:(x==("__debug__" : Str))=false:=by decide) :
  SS X cA aq aj F EX (.Try body [.ExceptHandler (some (.Name x np)) (some n) (b₀::suite) uy] [] [] pos) (.rO mb dc i mh):=by
 refine PS.weak (zm0 (tb:=λtD=>tS X.K cA tD (exs aq aj F mb)) (th:=tS X.K cA (λ_ _ _ _=>False) (exs aq false F mh)) hex pB hg hm hN hi hl hb hh jx) λD Z H hh=>un hh λU J s hL hS h=>?_;refine⟨U,J,s,hL,hS,?_⟩;have h:aO X.K cA (if aj=true then λs=>match exs aq aj F mb J s with
   |some (.er c fs J',s')=>if aq c dc=true then (match exs aq false F mh (J'.set i (some (.d (.exc c fs)))) s' with
    |some (r,s'')=>(match r with
     |.er _ _ _=>none
     |r=>some (goes i r,s''))
    |none=>none) else none
   |r=>r
  else λ_=>none) U H s D EX:=h
 rw[if_pos cI] at h;unfold aO at h ⊢;cases e:exs aq aj F mb J s with
 |none=>simp only[e] at h
 |some r=>
  obtain⟨r,s1⟩:=r;simp only[e] at h;cases r with
  |nx J'=>exact h
  |ct J'=>exact h
  |bk J'=>exact h
  |rt d=>exact h
  |er c fs J'=>
   intro U1 H1 Z1 x1 r1 l1 dx yV;by_cases Td:aq c dc=true
   ·simp only[if_pos Td] at h;refine⟨cA.a c,rfl,hsub c Td,λad hn=>?_⟩;have gr:aY H1 (upd H1 ad (jX ad (cA.a c) dx)):=aY.new hn;have xe:Ext U1 H1 U1 (upd H1 ad (jX ad (cA.a c) dx)):=gr.ext;have rx:Rep X.K cA U1 (upd H1 ad (jX ad (cA.a c) dx)) (.exc c fs) (.ref ad):=by
     rcases yV with ⟨e1,e2,e3⟩|⟨d,vs,e3,nz,hd,hl,rs⟩
     ·subst e2 e3;exact .exc ⟨r1.nz hn,.inl ⟨e1,rfl,iV⟩⟩ .nil
     ·subst e3;exact .exc ⟨r1.nz hn,.inr ⟨d,iV,nz,gr _ _ hd,hl⟩⟩ (rs.mono xe r1.lz)
    refine⟨U1,J'.set i (some (.d (.exc c fs))),s1,(l1.mono xe r1.lz).set (.d rx),r1.grow gr,?_⟩;unfold aO;cases e2:exs aq false F mh (J'.set i (some (.d (.exc c fs)))) s1 with
    |none=>rw[e2] at h;exact h
    |some q=>
     obtain⟨q,s2⟩:=q;rw[e2] at h;cases q with
     |er c2 f2 J2=>exact h.elim
     |nx J2=>exact λU2 H2 Z2 x2 r2 l2=>h U2 H2 _ ((x1.trans xe).trans x2) r2 l2.unset
     |bk J2=>exact λU2 H2 Z2 x2 r2 l2=>h U2 H2 _ ((x1.trans xe).trans x2) r2 l2.unset
     |ct J2=>exact λU2 H2 Z2 x2 r2 l2=>h U2 H2 _ ((x1.trans xe).trans x2) r2 l2.unset
     |rt dd=>exact λU2 H2 v x2 r2 rv=>h U2 H2 v ((x1.trans xe).trans x2) r2 rv
   ·simp only[if_neg Td] at h
end
end Mi
namespace L2
open PySem PySem.Spec PyProof.Rows
structure oO(K:W.Frag)(x qual:Str)(st:Stmt)(f:Addr)(fd:FuncData):Prop where
 ex:∃(oc:Value) (od:Option Addr) (kV doc pm:Value) (an:Option Addr) (cdv ct:Value) (osl:Array (Option Value)),
  fd=PySem.W.fnOf x qual (aN st) (aK st) (au st) .none kV doc pm an cdv ct/\K.lookup f=some ⟨oc,od,.func fd,osl⟩/\PySem.W.codeIn K cdv qual=true
 kp:PySem.W.keepIn K (.ref f)=true
section
variable {P:Program}{w:World}{K:W.Frag}{mg:Str->Option Value}{base:Heap}
end
end L2
namespace Mi
open PySem PySem.Spec PyProof.Rows L2
section
variable {P:Program}{w:World}{K:W.Frag}{mg:Str->Option Value}{base:Heap}{cA:Cl}{aq:Nat->Nat->Bool}{T:Nat->Option Df}
theorem ZG{U:Ph}{H:Hp}{N:List Str}{ds:List Xv}{vs:List V}{m p:Nat}(r:aP K cA U H ds vs)(hp:p=ds.length)(hm:m=N.length):aZ K cA U H (L2.start N vs) (ds.map some++List.replicate (m-p) none):=by
 subst hp hm;unfold L2.start;have hl:=r.len;refine⟨by simp[hl],λi d e=>?_⟩;by_cases hi:i<ds.length
 ·rw[nQ (by simpa using hi),iW] at e;cases z:ds[i]? with
  |none=>rw[z] at e;cases e
  |some x=>
   rw[z] at e;cases e;obtain⟨v,a,b⟩:=r.get z;exact⟨v,by rw[nQ (by simp;lia),iW,a];rfl,b⟩
 ·rw[qF (by simpa using hi),KR] at e;split at e<;>cases e
theorem ZJ{U:Ph}{H:Hp}{s:S}{ds:List Xv}{k n:Nat}{cm:Bool}{df:Df}{Q:VK}{E:XK}(hT:T n=some df)
  (h:Run K cA (call aq T (k+1) cm n ds) U H s (λd _ U' H'=>∀v,bw K cA U' H' d v->Q v H') (λc fs _ U' H'=>∀dx,j_ K cA U' H' c fs dx->E (.ref (cA.a c)) dx H')) :
  ds.length=df.gw/\aO K cA (exs aq cm (λc=>call aq T k c) df.body (ds.map some++List.replicate (df.many-df.gw) none)) U H s {nx:=λ_ H'=>Q .non H',rt:=Q} (λ_ C dx H'=>E C dx H'):=by
 unfold call at h;simp only[hT] at h;by_cases hl:ds.length=df.gw
 ·refine⟨hl,?_⟩;rw[if_pos hl] at h;unfold Run at h;unfold aO;cases e:exs aq cm (λc=>call aq T k c) df.body (ds.map some++List.replicate (df.many-df.gw) none) s with
  |none=>simp only[e] at h
  |some r=>
   obtain⟨r,s1⟩:=r;simp only[e] at h;cases r with
   |nx J=>exact λU' H' Z' x r l=>h U' H' x r _ (.d .non)
   |rt d=>exact λU' H' v x r rv=>h U' H' x r v rv
   |er c fs J=>exact λU' H' Z' x r l=>h U' H' x r
   |bk J=>exact h.elim
   |ct J=>exact h.elim
 ·rw[if_neg hl] at h;exact h.elim
theorem dI:cB P w K mg base (gD P w) cm 0 f fd ps (lR K cA (call aq T 0 cm n)):=
 ⟨λvs H Q E ⟨_,_,_,_,_,h⟩=>h.elim,λA outer s H args us vs Q E _ _ _ _ _ ⟨_,_,_,_,_,h⟩=>h.elim⟩
theorem ZK{x qual:Str}{st:Stmt}{f:Addr}{fd:FuncData}{N ps:List Str}{k n:Nat}{cm:Bool}{df:Df}(F:oO K x qual st f fd)(S:dh N ps (au st))(hT:T n=some df)(hp:df.gw=ps.length)(hm:df.many=N.length)
  (hb:∀(cdv:Value) (A:Around) (outer:List Env) (s:Shared) (H:Hp) (E:XK),bA (k+1) A->
   tL (gq (gD P w) P w K mg base N qual (au st) f cdv A outer s H E cm) cA aq cm (λc=>call aq T k c) (λ_ C dx H'=>E C dx H') (aK st) df.body) :
  cB P w K mg base (gD P w) cm (k+1) f fd ps (lR K cA (call aq T (k+1) cm n)):=by
 obtain⟨oc,od,kV,doc,pm,an,cdv,ct,osl,rfl,lk,jJ⟩:=F.ex;refine Xo lk jJ S (λvs H Q E ⟨U,ds,s,r,hS,h⟩=>?_) λA outer s H vs Q E hr ⟨U,ds,st',r,hS,h⟩=>?_
 ·rw[<-r.len,(ZJ hT h).1,hp]
 ·obtain⟨hl,h2⟩:=ZJ hT h;exact⟨_,hb cdv A outer s H E hr,U,_,st',ZG r hl.symm hm,hS,h2⟩
theorem zln{x qual:Str}{st:Stmt}{f:Addr}{fd:FuncData}{N ps:List Str}{k n:Nat}{cm:Bool}{df:Df}(F:oO K x qual st f fd)(S:dh N ps (au st))(hT:T n=some df)(hp:df.gw=ps.length)(hm:df.many=N.length)
  (hb:∀(cdv:Value) (A:Around) (outer:List Env) (s:Shared) (H:Hp) (E:XK),bA k (A.deeper (envOfC qual (au st) s.heap.objs.size f cdv))->
   tL (gq (gD P w) P w K mg base N qual (au st) f cdv A outer s H E cm) cA aq cm (λc=>call aq T k c) (λ_ C dx H'=>E C dx H') (aK st) df.body) :
  cB P w K mg base (gD P w) cm (k+1) f fd ps (lR K cA (call aq T (k+1) cm n)):=ZK F S hT hp hm λcdv A outer s H E hr=>hb cdv A outer s H E (hr.deeper _)
end
theorem zmA{K:W.Frag}{cA:Cl}{m:List Xv->M Xv}{H:Hp}{a:Addr}{ns:List Int}(hq:cO K H a (ns.map V.int))(hm:∃s',m [.d (.fl (ns.map D.int))] []=some (.ok (.d (.bl true)),s')) :
  lR K cA m [.ref a] H (λv _=>v=.bl true) λ_ _ _=>False:=by
 have rs:∀(l:List Int) U,aC K cA U H (l.map D.int) (l.map V.int):=λl U=>by
  induction l with
  |nil=>exact .nil
  |cons i l ih=>exact .cons (.int i) ih
 have hl:LstAt K ⟨λ_=>False,[]⟩ H a (ns.map V.int):=by
  rcases hq with h|h
  ·exact .inl ⟨h,λz=>z⟩
  ·exact .inr (.inr h)
 refine⟨⟨λ_=>False,[]⟩,[.d (.fl (ns.map D.int))],[],.cons (.d (.fl hl (rs ns _))) .nil,⟨rfl,(λn o b e1 e2=>by simp at e1),Al,(λb hb=>by cases hb),(λb z=>False.elim z)⟩,?_⟩;obtain⟨s',e⟩:=hm;unfold Run;rw[e];intro U' H' _ _ v rv;cases rv with
 |d rv=>cases rv;rfl
theorem zfM:Raises X (λ_ _ _ _=>False):=λ_ _ _ _ _ _ _ _ _ _ _ _ _ z=>z.elim
theorem zgw(r:bA k A):bA k (A.mark o):=⟨r.dp,r.un,r.gd⟩
theorem uY(r:bA k A):A.units+60<cLine:=by have:=r.un;lia
noncomputable def aD:Expr->Bool
 |.Starred _ _=>false
 |_=>true
theorem bx(h:aD e=true):starEach (e::es) env=(false,eval e env)::starEach es env:=by
 cases e<;>first|rfl|cases h
theorem aV:∀{es:List Expr} {env:Env} {pos:Pos},es.all aD=true->(backTo pos (starEach es env)).any (·.1)=false
 |[],_,_,_=>rfl
 |e::es,env,pos,h=>by
  rw[yM,eY] at h;rw[bx h.1];show (false||(backTo pos (starEach es env)).any (·.1))=false;rw[aV h.2];rfl
theorem rA:∀{es:List Expr} {env:Env} {pos:Pos},es.all aD=true->(backTo pos (starEach es env)).all (λx=>!x.1)=true
 |[],_,_,_=>rfl
 |e::es,env,pos,h=>by
  rw[yM,eY] at h;rw[bx h.1];show (true&&(backTo pos (starEach es env)).all (λx=>!x.1))=true;rw[rA h.2];rfl
theorem m9(h1:aD e=true)(h2:es.all aD=true)(h3:decide (es.length<28)=true):((backTo pos (starEach (e::es) env)).all (λx=>!x.1)&&(backToKw pos (keywordEach [] env)).all (λx=>x.1.isSome)&&decide ((e::es).length+([]:List Keyword).length+(if ([]:List Keyword).isEmpty then 0 else 1)<30))=true:=by
 rw[rA (es:=e::es) (by rw[yM,h1,h2];rfl)];have:=ji h3;have z:(e::es).length+([]:List Keyword).length+(if ([]:List Keyword).isEmpty then 0 else 1)<30:=by
  show es.length+1+0+0<30
  lia
 rw[jP z];rfl
noncomputable def uZ(sc scope:Scope):Bool:=(match scope.kind with|.function=>true|_=>false)&&scope.names.all λy=>match y.2 with
 |.cell=>(match scope.names.lookup y.1 with|some .cell=>true|_=>false)
 |.free=>(match sc.names.lookup y.1 with|some .cell=>true|some .free=>true|_=>false)
 |.local=>(match scope.names.lookup y.1 with|some .local=>true|_=>false)
 |_=>true
theorem dR.of(h:uZ sc scope=true):dR sc scope:=by
 unfold uZ at h;rw[eY,iY] at h;obtain⟨h1,h2⟩:=h;refine⟨?_,λy hy z=>?_,λy hy z=>?_,λy hy z=>?_⟩
 ·split at h1
  ·assumption
  ·cases h1
 ·have:=h2 y hy;rw[z] at this;dsimp only at this;split at this
  ·assumption
  ·cases this
 ·have:=h2 y hy;rw[z] at this;dsimp only at this;split at this
  ·exact .inl (by assumption)
  ·exact .inr (by assumption)
  ·cases this
 ·have:=h2 y hy;rw[z] at this;dsimp only at this;split at this
  ·assumption
  ·cases this
noncomputable def frB(scope:Scope)(XN:List Str):List Str->List Nat->Bool
 |y::N,j::fr=>(match scope.names.lookup y with|some .free=>true|_=>false)&&decide (XN[j]?=some y)&&frB scope XN N fr
 |[],[]=>true
 |_,_=>false
theorem ZL:∀{N:List Str} {fr:List Nat},frB scope XN N fr=true->N.length=fr.length/\∀(i:Nat) (y:Str) (j:Nat),N[i]?=some y->fr[i]?=some j->scope.names.lookup y=some .free/\XN[j]?=some y
 |[],[],_=>⟨rfl,λi y j h=>by simp at h⟩
 |[],_::_,h=>by cases h
 |_::_,[],h=>by cases h
 |y::N,j::fr,h=>by
  unfold frB at h;rw[eY,eY,Ld] at h;obtain⟨⟨h1,h2⟩,h3⟩:=h;obtain⟨l,q⟩:=ZL h3;refine⟨by simp[l],λi z m e1 e2=>?_⟩;cases i with
  |zero=>
   simp at e1 e2;subst e1 e2;refine⟨?_,h2⟩;split at h1
   ·assumption
   ·cases h1
  |succ i=>exact q i z m (by simpa using e1) (by simpa using e2)
noncomputable def okN(x:Str):Bool:=!(x==("__debug__" : Str)) && !(x==("__classdict__" : Str)) && !decide (x="__name__")
theorem qm(h:okN x=true):(x==("__debug__" : Str))=false/\(x==("__classdict__" : Str))=false/\x≠"__name__":=by
 unfold okN at h;simp only[eY,K8,decide_eq_false_iff_not] at h;exact⟨h.1.1,h.1.2,h.2⟩
theorem Ni{env:Env}{k:NameKind}(hk:k≠.free):∀{names:List (Str×NameKind)} {x:Str},names.lookup x=some k->
  (names.map λ(n,k)=>if (k==NameKind.free&&env.scope.kind==.function&&env.kindOf n==some .cell) then (n,NameKind.cell) else (n,k)).lookup x=some k
 |[],x,h=>by simp at h
 |(n,q)::r,x,h=>by
  rw[mj] at h;rw[iU,mj];have hd:∀c:Bool,(if c=true then (n,NameKind.cell) else (n,q)).1=n:=λc=>by cases c<;>rfl
  rw[hd];by_cases z:x=n
  ·subst z;simp only[Dw] at h ⊢;cases h
   split
   ·rename_i y;simp only[eY,fL] at y;exact absurd y.1.1 hk
   ·rfl
  ·have z':(x==n)=false:=by simpa using z
   simp only[z'] at h ⊢;exact Ni hk h
theorem zl5{K:W.Frag}{C:Addr}(h:Lq K C=true):XC K C:=by
 unfold Lq at h;simp only[eY,fL] at h;obtain⟨⟨⟨⟨⟨⟨⟨h1,h2⟩,h3⟩,h4⟩,h5⟩,h6⟩,h7⟩,h8⟩:=h;exact⟨h1,h2,h3,h4,h5,h6,h7,h8⟩
theorem Te{n c:Nat}(hn:0<n):pA n c<n:=by unfold pA;split<;>lia
theorem Tf{n c:Nat}(hn:0<n):pA n (pA n c)=pA n c:=by unfold pA;split<;>simp_all
theorem zkh{n c e:Nat}(hn:0<n):jR n (pA n c) (pA n e)=jR n c e:=by unfold jR;rw[Tf hn,Tf hn]
theorem zjZ{K:W.Frag}{L:List Addr}{f g:Nat->List Str}{b:Nat->Addr}(hL:0<L.length)(h:qK K L=true):uU K ⟨dY L,f,b,g⟩ (jR L.length):=by
 unfold qK at h;rw[iY] at h;have key:∀c,Lq K (dY L c)=true/\PySem.W.kitOne K (.ref (dY L c)) (.type "ValueError")=some true/\∀e,PySem.W.kitOne K (.ref (dY L c)) (.ref (dY L e))=some (jR L.length c e):=λc=>by
  have z:=h (pA L.length c) (vQ.mpr (Te hL));simp only[eY,fL,iY] at z;obtain⟨⟨z1,z2⟩,z3⟩:=z;refine⟨z1,z2,λe=>?_⟩;have y:=z3 (pA L.length e) (vQ.mpr (Te hL));rw[zkh hL] at y;exact y
 exact⟨λc=>zl5 (key c).1,λc e=>(key c).2.2 e,λc=>(key c).2.1⟩
theorem zj7{K:W.Frag}{L:List Addr}{d:Nat}(hL:0<L.length)(h:subB K L d=true):∀c,jR L.length c d=true->L2.subIn K (dY L c) (dY L d)=true:=λc hc=>by
 unfold subB at h;rw[iY] at h;have z:=h (pA L.length c) (vQ.mpr (Te hL));have y:jR L.length (pA L.length c) d=true:=by
  unfold jR at hc ⊢;rw[Tf hL];exact hc
 rw[y] at z;exact z
noncomputable def u5(K:W.Frag):Sp:=λvs H Q _=>∃(a:Addr) (ns:List Int),vs=[.ref a]/\cO K H a (ns.map V.int)/\ns.length<=63/\Only H/\∀H',Q (.bl true) H'
theorem zjL{K:W.Frag}{cA:Cl}{m:List Xv->M Xv}(hm:∀ns:List Int,ns.length<=63->∃s',m [.d (.fl (ns.map D.int))] []=some (.ok (.d (.bl true)),s'))(vs:List V)(H:Hp)(Q:VK)(E:XK)(h:u5 K vs H Q E):lR K cA m vs H Q E:=by
 obtain⟨a,ns,rfl,hq,hl,hO,k⟩:=h;obtain⟨U,ds,s,r1,r2,h⟩:=zmA (cA:=cA) (m:=m) hq (hm ns hl);refine⟨U,ds,s,r1,r2,?_⟩;unfold Run at h ⊢;split at h
 ·intro U' H' x r v rv;rw[h U' H' x r v rv];exact k H'
 ·exact λU' H' x r dx q=>(h U' H' x r dx q).elim
 ·exact h
theorem Cy{K:W.Frag}{fd:FuncData}{p:Str}(h:∀a,bindArgs fd ⟨[a],[]⟩=pure [(p,a)]):Binds K fd [p] []:=.all λus hl=>by
 cases us with
 |nil=>cases hl
 |cons a r=>cases r with
  |nil=>exact h a
  |cons b r=>cases hl
theorem u6{K:W.Frag}{fd:FuncData}{p q:Str}(h:∀a b,bindArgs fd ⟨[a,b],[]⟩=pure [(p,a),(q,b)]):Binds K fd [p,q] []:=.all λus hl=>by
 cases us with
 |nil=>cases hl
 |cons a r=>cases r with
  |nil=>cases hl
  |cons b r=>cases r with
   |nil=>exact h a b
   |cons c r=>cases hl
theorem u9{K:W.Frag}{fd:FuncData}{p q t:Str}(h:∀a b c,bindArgs fd ⟨[a,b,c],[]⟩=pure [(p,a),(q,b),(t,c)]):Binds K fd [p,q,t] []:=.all λus hl=>by
 cases us with
 |nil=>cases hl
 |cons a r=>cases r with
  |nil=>cases hl
  |cons b r=>cases r with
   |nil=>cases hl
   |cons c r=>cases r with
    |nil=>exact h a b c
    |cons d r=>cases hl
theorem u_{K:W.Frag}{fd:FuncData}{p q t u:Str}(h:∀a b c d,bindArgs fd ⟨[a,b,c,d],[]⟩=pure [(p,a),(q,b),(t,c),(u,d)]):Binds K fd [p,q,t,u] []:=.all λus hl=>by
 cases us with
 |nil=>cases hl
 |cons a r=>cases r with
  |nil=>cases hl
  |cons b r=>cases r with
   |nil=>cases hl
   |cons c r=>cases r with
    |nil=>cases hl
    |cons d r=>cases r with
     |nil=>exact h a b c d
     |cons e r=>cases hl
theorem ZM:bootBuiltins "int"=some (.type "int"):=by decide +kernel
theorem ZP:bootBuiltins "bool"=some (.type "bool"):=by decide +kernel
theorem Fb:bootBuiltins "tuple"=some (.type "tuple"):=by decide +kernel
theorem zi3:bootBuiltins "list"=some (.type "list"):=by decide +kernel
theorem zcx:bootBuiltins "ValueError"=some (.type "ValueError"):=by decide +kernel
structure JE(X:Cx)(cA:Cl)(aq:Nat->Nat->Bool)(aj:Bool)(F:Fn)(EX:XS)(e:Expr)(m:E):Prop where
 o:SE X cA aq aj F EX e m
structure JA(X:Cx)(cA:Cl)(aq:Nat->Nat->Bool)(aj:Bool)(F:Fn)(EX:XS)(e:List Expr)(m:Es):Prop where
 o:SA X cA aq aj F EX e m
structure JT(X:Cx)(cA:Cl)(aq:Nat->Nat->Bool)(aj:Bool)(F:Fn)(EX:XS)(e:Expr)(m:E):Prop where
 o:ST X cA aq aj F EX e m
structure JW(X:Cx)(cA:Cl)(aq:Nat->Nat->Bool)(aj:Bool)(F:Fn)(EX:XS)(e:Expr)(m:E):Prop where
 o:SW X cA aq aj F EX e m
structure JC(X:Cx)(cA:Cl)(aq:Nat->Nat->Bool)(aj:Bool)(F:Fn)(EX:XS)(e:List Expr)(m:Eo):Prop where
 o:JL X cA aq aj F EX e m
structure JO(X:Cx)(cA:Cl)(aq:Nat->Nat->Bool)(aj:Bool)(F:Fn)(EX:XS)(e:Option Expr)(m:Eo):Prop where
 o:Jy X cA aq aj F EX e m
structure JI(X:Cx)(cA:Cl)(aq:Nat->Nat->Bool)(aj:Bool)(F:Fn)(EX:XS)(tg e:Expr)(m:Wk):Prop where
 o:SI X cA aq aj F EX tg e m
structure JG(X:Cx)(cA:Cl)(aq:Nat->Nat->Bool)(aj:Bool)(F:Bool->Fn)(EX:XS)(e:Expr)(m:Tg):Prop where
 o:SG X cA aq aj F EX e m
structure JS(X:Cx)(cA:Cl)(aq:Nat->Nat->Bool)(aj:Bool)(F:Bool->Fn)(EX:XS)(e:Stmt)(m:St):Prop where
 o:SS X cA aq aj F EX e m
structure JB(X:Cx)(cA:Cl)(aq:Nat->Nat->Bool)(aj:Bool)(F:Bool->Fn)(EX:XS)(e:List Stmt)(m:bV):Prop where
 o:tL X cA aq aj F EX e m
structure JK(X:Cx)(x:Str)(k:NameKind):Prop where
 o:X.env.scope.names.lookup x=some k
structure JP(X:Cx)(cA:Cl)(op:CmpOp)(p:Pr):Prop where
 o:∃r,fj X (compareOp op) r/\bC X.K cA p (r2 r)
structure JQ(X:Cx)(cA:Cl)(op:Operator)(p:Pr):Prop where
 o:∃r,fj X (binaryOp op) r/\bC X.K cA p (r2 r)
structure JN(X:Cx)(cA:Cl)(kx:Expr)(k:Kd):Prop where
 o:PE X kx (tC (Ey cA k))
structure JR(X:Cx)(EX:XS):Prop where
 o:Raises X EX
structure JH(X:Cx):Prop where
 o:PassesOwn (model X.prog X.w) X.A X.env X.xe
structure JY(X:Cx)(tg:Expr)(g:TG):Prop where
 o:PG X tg g
noncomputable def oR:NameKind->Bool
 |.local=>true
 |.cell=>true
 |_=>false
noncomputable def Cz:NameKind->Bool
 |.local=>true
 |.cell=>true
 |.free=>true
 |_=>false
section
variable {X:Cx}{cA:Cl}{aq:Nat->Nat->Bool}{aj:Bool}{F:Fn}{EX:XS}{a b c d e:Expr}{A B C Dd E':E}{pos p p2 apos:Pos}{es:List Expr}{Xs:Es}{x y:Str}{k k':NameKind}{q q1 q2 q3:Pr}{fz:Bool}
theorem ZQ(h:scope.names.lookup x=some k)(hk:(match k with|.free=>false|_=>true)=true):JK (X.blk scope cl N Cc s3 H3 fp ao) x k:=
 ⟨Ni (by intro z;subst z;cases hk) h⟩
theorem ZR(i:Nat)(hN:X.N[i]?=some x)(h:JK X x k)(hv:Cz k=true)(hd:okN x=true):JE X cA aq aj F EX (.Name x pos) (.v i):=
 ⟨YF i hN (by cases k<;>first|exact .inl h.o|exact .inr (.inl h.o)|exact .inr (.inr h.o)|cases hv) (qm hd).1 (qm hd).2.1⟩
theorem zph(i:Nat)(hN:N[i]?=some x)(h:scope.names.lookup x=some .free)(hd:okN x=true):JE (X.blk scope cl N Cc s3 H3 fp ao) cA aq aj F EX (.Name x pos) (.v i):=
 ⟨YF i hN (.inr (Mu h)) (qm hd).1 (qm hd).2.1⟩
theorem aL{i j p}:JE X cA aq aj F EX (.Constant (.int i) j p) (.c (.int i)):=⟨zm3⟩
theorem m_{i j p}:JE X cA aq aj F EX (.Constant (.bool i) j p) (.c (.bl i)):=⟨zot⟩
theorem rZ{j p}:JE X cA aq aj F EX (.Constant .none j p) (.c .non):=⟨zlY⟩
theorem nj{i j p}:JE X cA aq aj F EX (.Constant (.str i) j p) (.c (.str i)):=⟨zne⟩
theorem ZS(h:∃t,X.mg x=some (.int i t))(hg:JK X x .globalImplicit)(hd:okN x=true):JE X cA aq aj F EX (.Name x pos) (.c (.int i)):=by
 obtain⟨t,h⟩:=h;exact⟨zkb hg.o h (qm hd).1⟩
theorem lA:JQ X cA .Add .add:=⟨_,zgK,zlb⟩
theorem zM:JQ X cA .Sub .aq:=⟨_,zl3,zlC⟩
theorem Ti:JQ X cA .Mult .mul:=⟨_,zmu,zkX⟩
theorem zlI:JQ X cA .FloorDiv .fdiv:=⟨_,zkx,zjf⟩
theorem JM:JQ X cA .Mod .mod:=⟨_,zmW,zm7⟩
theorem ZV:JQ X cA .Pow .pow:=⟨_,zmp,zlR⟩
theorem eN(h:JQ X cA op q)(ha:JE X cA aq aj F EX a A)(hb:JE X cA aq aj F EX b B):JE X cA aq aj F EX (.BinOp a op b pos) (.pr fz q (.cons A (.cons B .nil))):=by
 obtain⟨r,h1,h2⟩:=h.o;exact⟨zmB h1 h2 ha.o hb.o⟩
theorem vd(ha:JE X cA aq aj F EX a A):JE X cA aq aj F EX (.UnaryOp .USub a pos) (.pr true .neg (.cons A .nil)):=⟨zn5 zlm zkY ha.o⟩
theorem ZW(ha:JE X cA aq aj F EX a A):JE X cA aq aj F EX (.UnaryOp .Not a pos) (.not A):=⟨zme ha.o⟩
theorem tM{op}(ha:JE X cA aq aj F EX a A):JE X cA aq aj F EX (.BoolOp op [a] pos) A:=⟨zlV ha.o⟩
theorem vf{rest:List Expr}(ha:JE X cA aq aj F EX a A)(hb:JE X cA aq aj F EX (.BoolOp .And (b::rest) pos) B):JE X cA aq aj F EX (.BoolOp .And (a::b::rest) pos) (.and A B):=⟨zmE ha.o hb.o⟩
theorem Tj{rest:List Expr}(ha:JE X cA aq aj F EX a A)(hb:JE X cA aq aj F EX (.BoolOp .Or (b::rest) pos) B):JE X cA aq aj F EX (.BoolOp .Or (a::b::rest) pos) (.or A B):=⟨zoq ha.o hb.o⟩
theorem tO{k:Nat}(hr:bA k X.A):JP X cA .Eq .eq:=⟨_,zmH (uY hr),znS⟩
theorem JV{k:Nat}(hr:bA k X.A):JP X cA .NotEq .ne:=⟨_,zms (uY hr),znw⟩
theorem zN{k:Nat}(hr:bA k X.A):JP X cA .Lt .lt:=⟨_,G7.or (zlK (by have:=uY hr;lia)),znX⟩
theorem Tn:JP X cA .LtE .le:=⟨_,zny,znU⟩
theorem zpg:JP X cA .Gt .gt:=⟨_,znO,zn4⟩
theorem ZX:JP X cA .GtE .ge:=⟨_,zoh,znr⟩
theorem Z0{k:Nat}(hr:bA k X.A):JP X cA .In .inn:=⟨_,zlu (uY hr),znE⟩
theorem znJ{k:Nat}(hr:bA k X.A):JP X cA .NotIn .nin:=⟨_,zjF (uY hr),zlM⟩
noncomputable def oU:Expr->Bool
 |.Set _ _ _=>false
 |_=>true
theorem xZ(h:oU b=true):behindInMarks op b=false:=by cases b<;>first|rfl|cases h
theorem zO(ho:JP X cA op q)(ha:JE X cA aq aj F EX a A)(hb:JE X cA aq aj F EX b B)(h1:oU b=true:=by rfl):JE X cA aq aj F EX (.Compare a [op] [b] pos) (.pr true q (.cons A (.cons B .nil))):=by
 obtain⟨r,h2,h3⟩:=ho.o;exact⟨zmq h2 h3 ha.o hb.o (xZ h1)⟩
theorem kO(ho:JP X cA op q)(ha:JE X cA aq aj F EX a A)(hb:JE X cA aq aj F EX b B)(h1:oU b=true:=by rfl):JT X cA aq aj F EX (.Compare a [op] [b] pos) (.pr true q (.cons A (.cons B .nil))):=by
 obtain⟨r,h2,h3⟩:=ho.o;exact⟨zmT h2 h3 ha.o hb.o (xZ h1)⟩
theorem Z9(h1:JP X cA op q1)(h2:JP X cA op' q2)(ha:JE X cA aq aj F EX a A)(hb:JE X cA aq aj F EX b B)(hc:JE X cA aq aj F EX c C)(hm:oU c=true:=by rfl):JE X cA aq aj F EX (.Compare a [op,op'] [b,c] pos) (.wg q1 q2 A B C):=by
 obtain⟨r,h3,h4⟩:=h1.o;obtain⟨r',h5,h6⟩:=h2.o;exact⟨zmr h3 h4 h5 h6 ha.o hb.o hc.o (xZ hm)⟩
theorem Nj{j p}(ha:JE X cA aq aj F EX a A):JE X cA aq aj F EX (.Compare a [.Is] [.Constant .none j p] pos) (.pr true .qX (.cons A .nil)):=⟨zli ha.o⟩
theorem zl1{j p}(ha:JE X cA aq aj F EX a A):JE X cA aq aj F EX (.Compare a [.IsNot] [.Constant .none j p] pos) (.pr true .uJ (.cons A .nil)):=⟨zkv ha.o⟩
theorem Tq{j p}(ha:JE X cA aq aj F EX a A):JT X cA aq aj F EX (.Compare a [.Is] [.Constant .none j p] pos) (.pr true .qX (.cons A .nil)):=⟨zlF ha.o⟩
theorem Tr{j p}(ha:JE X cA aq aj F EX a A):JT X cA aq aj F EX (.Compare a [.IsNot] [.Constant .none j p] pos) (.pr true .uJ (.cons A .nil)):=⟨zjx ha.o⟩
noncomputable def zP:Expr->Bool
 |.Call _ _ _ _=>true
 |.Name _ _=>true
 |.Subscript _ _ _=>true
 |.Attribute _ _ _=>true
 |_=>false
theorem nq(ha:JE X cA aq aj F EX a A)(he:zP a=true:=by rfl):JT X cA aq aj F EX a A:=⟨zmD ha.o (by cases a<;>first|(intro _;rfl)|cases he)⟩
theorem qp(ha:JT X cA aq aj F EX a A):JT X cA aq aj F EX (.UnaryOp .Not a pos) (.not A):=⟨zmN ha.o⟩
theorem zlG(ha:JT X cA aq aj F EX a A):JW X cA aq aj F EX (.BoolOp .And [a] pos) A:=⟨zj9 ha.o⟩
theorem Nk(ha:JT X cA aq aj F EX a A):JW X cA aq aj F EX (.BoolOp .Or [a] pos) A:=⟨zk7 ha.o⟩
theorem zom{rest:List Expr}(ha:JT X cA aq aj F EX a A)(hb:JW X cA aq aj F EX (.BoolOp .And (b::rest) pos) B):JW X cA aq aj F EX (.BoolOp .And (a::b::rest) pos) (.and A B):=⟨zk5 ha.o hb.o⟩
theorem Nm{rest:List Expr}(ha:JT X cA aq aj F EX a A)(hb:JW X cA aq aj F EX (.BoolOp .Or (b::rest) pos) B):JW X cA aq aj F EX (.BoolOp .Or (a::b::rest) pos) (.or A B):=⟨znm ha.o hb.o⟩
theorem JZ(h:JW X cA aq aj F EX a A):JT X cA aq aj F EX a A:=⟨zpf h.o⟩
theorem Fd(hc:JT X cA aq aj F EX c C)(ha:JE X cA aq aj F EX a A)(hb:JE X cA aq aj F EX b B):JE X cA aq aj F EX (.IfExp c a b pos) (.ite C A B):=⟨zm1 hc.o ha.o hb.o⟩
theorem aG:JA X cA aq aj F EX [] .nil:=⟨zml⟩
theorem aA(ha:JE X cA aq aj F EX a A)(hr:JA X cA aq aj F EX es Xs)(hs:aD a=true:=by rfl):JA X cA aq aj F EX (a::es) (.cons A Xs):=⟨zi9 ha.o hr.o (bx hs)⟩
theorem gB{k}(ha:JA X cA aq aj F EX es Xs)(hz:decide (Es.len Xs<=sizeLine)=true:=by rfl):JE X cA aq aj F EX (.Tuple es k pos) (.tup Xs):=⟨zl8 ha.o (ji hz)⟩
theorem iG(ha:JA X cA aq aj F EX es Xs)(hz:decide (Es.len Xs<=sizeLine)=true:=by rfl):JE X cA aq aj F EX (.List es pos) (.lst fz Xs):=⟨znf ha.o (ji hz)⟩
theorem zmn{j p1 j2 p3}{k:Str}{i:Int}:JE X cA aq aj F EX (.Dict [some (.Constant (.str k) j p1)] [.Constant (.int i) j2 p3] pos) (.uK k i):=⟨zkw⟩
noncomputable def vg:Expr->Bool
 |.Constant _ _ _=>true
 |.Name _ _=>true
 |.Call _ _ _ _=>true
 |.BinOp _ _ _ _=>true
 |.UnaryOp _ _ _=>true
 |.Subscript _ _ _=>true
 |.IfExp _ _ _ _=>true
 |.Attribute _ _ _=>true
 |.Compare _ _ _ _=>true
 |.BoolOp _ _ _=>true
 |_=>false
theorem cR(ha:JE X cA aq aj F EX a A)(hb:JE X cA aq aj F EX b B)(hs:vg b=true:=by rfl):JE X cA aq aj F EX (.Subscript a b pos) (.pr true .ix (.cons A (.cons B .nil))):=⟨zof zog ha.o hb.o (by cases b<;>first|(intro _ _;rfl)|cases hs)⟩
theorem J0:JO X cA aq aj F EX none .no:=⟨zoz⟩
theorem CG(ha:JE X cA aq aj F EX a A):JO X cA aq aj F EX (some a) (.yes A):=⟨zlO ha.o⟩
theorem Fe{lo hi:Option Expr}{Lo Hi:Eo}(ha:JE X cA aq aj F EX a A)(hl:JO X cA aq aj F EX lo Lo)(hh:JO X cA aq aj F EX hi Hi):JE X cA aq aj F EX (.Subscript a (.Slice lo hi none p2) pos) (.sl fz A Lo Hi):=⟨znQ ha.o hl.o hh.o⟩
theorem zlx(f:Nat){cm:Bool}{k:Nat}{fa:Addr}{fd:FuncData}{ps:List Str}(Fo:cB X.prog X.w X.K X.mg X.base (gD X.prog X.w) cm k fa fd ps (lR X.K cA (F f)))(jw:cm=true->X.aj=true)(hr:bA k X.A)(hm:X.mg x=some (.ref fa))(hk:PySem.W.keepIn X.K (.ref fa)=true)(hb:Binds X.K fd ps [])(R:JR X EX)(hg:JK X x .globalImplicit)
  (ha:JA X cA aq aj F EX (e::es) Xs) (hd:okN x=true) (he:aD e=true:=by rfl) (hpl:es.all aD=true:=by rfl) :
  JE X cA aq aj F EX (.Call (.Name x p) (e::es) [] pos) (.call f Xs):=⟨zjI Fo jw hr hg.o hm hk hb R.o ha.o (qm hd).1 (bx he) (aV hpl)⟩
theorem vh{c:Nat}(hm:X.mg x=some (.ref (cA.a c)))(hg:JK X x .globalImplicit)(hd:okN x=true):JN X cA (.Name x pos) (.cls c):=⟨W6 hg.o hm rfl (qm hd).1⟩
theorem yc(hv:Ey cA kd=.ty T)(hm:X.mg x=none)(hb:bootBuiltins x=some (.type T))(hg:JK X x .globalImplicit)(hd:okN x=true):JN X cA (.Name x pos) kd:=⟨λao s Z H Q I h=>by
 rw[hv] at h;exact wO I hg.o hm hb ⟨.ty T,H,I,rfl,h⟩ (qm hd).2.2 (qm hd).1⟩
theorem lU(Cs:uU X.K cA aq)(hm:X.mg "isinstance"=none)(hg:JK X "isinstance" .globalImplicit)(ha:JE X cA aq aj F EX a A)(hk:JN X cA kx kd)(h1:aD a=true:=by rfl)(h2:aD kx=true:=by rfl):JE X cA aq aj F EX (.Call (.Name "isinstance" p) [a,kx] [] pos) (.g8 A kd):=
 ⟨zlX (λ_=>Cs) hg.o hm ha.o hk.o (bx h1) (bx h2) (aV (by rw[yM,h2];rfl))⟩
theorem vm(hm:X.mg "len"=none)(hg:JK X "len" .globalImplicit)(ha:JA X cA aq aj F EX (e::es) Xs)(he:aD e=true:=by rfl)(hpl:es.all aD=true:=by rfl):JE X cA aq aj F EX (.Call (.Name "len" p) (e::es) [] pos) (.pr fz .len Xs):=⟨zE zcZ zlH hg.o hm PySem.boot_len ha.o (by decide) (by decide) (bx he) (aV hpl)⟩
theorem znR(hm:X.mg "abs"=none)(hg:JK X "abs" .globalImplicit)(ha:JA X cA aq aj F EX (e::es) Xs)(he:aD e=true:=by rfl)(hpl:es.all aD=true:=by rfl):JE X cA aq aj F EX (.Call (.Name "abs" p) (e::es) [] pos) (.pr fz .abs Xs):=⟨zE zhk zm8 hg.o hm PyProof.Rows.boot_abs ha.o (by decide) (by decide) (bx he) (aV hpl)⟩
theorem zk3(hc:X.aj=true)(hm:X.mg "max"=none)(hg:JK X "max" .globalImplicit)(ha:JA X cA aq aj F EX (e::es) Xs)(he:aD e=true:=by rfl)(hpl:es.all aD=true:=by rfl):JE X cA aq aj F EX (.Call (.Name "max" p) (e::es) [] pos) (.pr fz .max2 Xs):=⟨zE (zgC hc) zjj hg.o hm PyProof.Rows.boot_max ha.o (by decide) (by decide) (bx he) (aV hpl)⟩
theorem Z_(hc:X.aj=true)(hm:X.mg "min"=none)(hg:JK X "min" .globalImplicit)(ha:JA X cA aq aj F EX (e::es) Xs)(he:aD e=true:=by rfl)(hpl:es.all aD=true:=by rfl):JE X cA aq aj F EX (.Call (.Name "min" p) (e::es) [] pos) (.pr fz .min2 Xs):=⟨zE (zft hc) zka hg.o hm PyProof.Rows.boot_min ha.o (by decide) (by decide) (bx he) (aV hpl)⟩
theorem zmj(hm:X.mg "int"=none)(hg:JK X "int" .globalImplicit)(ha:JA X cA aq aj F EX (e::es) Xs)(he:aD e=true:=by rfl)(hpl:es.all aD=true:=by rfl):JE X cA aq aj F EX (.Call (.Name "int" p) (e::es) [] pos) (.pr fz .xH Xs):=⟨Sv zg8 zjo hg.o hm PyProof.Rows.boot_int ha.o (by decide) (by decide) (bx he) (aV hpl)⟩
theorem zhZ(hm:X.mg "divmod"=none)(hg:JK X "divmod" .globalImplicit)(ha:JA X cA aq aj F EX (e::es) Xs)(he:aD e=true:=by rfl)(hpl:es.all aD=true:=by rfl):JE X cA aq aj F EX (.Call (.Name "divmod" p) (e::es) [] pos) (.pr fz .divmod Xs):=⟨zE zdO zga hg.o hm PyProof.Rows.boot_divmod ha.o (by decide) (by decide) (bx he) (aV hpl)⟩
theorem CJ(hc:X.aj=true)(hm:X.mg "all"=none)(hg:JK X "all" .globalImplicit)(ha:JA X cA aq aj F EX (e::es) Xs)(he:aD e=true:=by rfl)(hpl:es.all aD=true:=by rfl):JE X cA aq aj F EX (.Call (.Name "all" p) (e::es) [] pos) (.pr fz .all Xs):=⟨zE (zfV hc) zmt hg.o hm PyProof.Rows.boot_all ha.o (by decide) (by decide) (bx he) (aV hpl)⟩
theorem zi1(hm:X.mg "list"=none)(hg:JK X "list" .globalImplicit)(ha:JA X cA aq aj F EX (e::es) Xs)(he:aD e=true:=by rfl)(hpl:es.all aD=true:=by rfl):JE X cA aq aj F EX (.Call (.Name "list" p) (e::es) [] pos) (.pr fz .list Xs):=⟨Sv zdp zkD hg.o hm zi3 ha.o (by decide) (by decide) (bx he) (aV hpl)⟩
theorem wA(hm:X.mg "tuple"=none)(hg:JK X "tuple" .globalImplicit)(ha:JA X cA aq aj F EX (e::es) Xs)(he:aD e=true:=by rfl)(hpl:es.all aD=true:=by rfl):JE X cA aq aj F EX (.Call (.Name "tuple" p) (e::es) [] pos) (.pr fz .tuple Xs):=⟨Sv zcE zhu hg.o hm Fb ha.o (by decide) (by decide) (bx he) (aV hpl)⟩
theorem zkH(ho:JE X cA aq aj F EX a A)(ha:JA X cA aq aj F EX (e::es) Xs)(bL:attributeBase a "count" X.env (eval a X.env)=eval a X.env:=by rfl)(mL:decide (es.length<28)=true:=by rfl)(cP:(apos.endLine==pos.line)=true:=by rfl)(hs:aD e=true:=by rfl)(cL:es.all aD=true:=by rfl) :
  JE X cA aq aj F EX (.Call (.Attribute a "count" apos) (e::es) [] pos) (.meth true .count .list A Xs):=⟨Za (k:=.list) KY PySem.F.slot_list_count PySem.F.type_list_count zfw zhh ho.o ha.o bL (m9 hs cL mL) cP (bx hs) (aV cL)⟩
theorem zjK(ho:JE X cA aq aj F EX a A)(ha:JA X cA aq aj F EX (e::es) Xs)(bL:attributeBase a "index" X.env (eval a X.env)=eval a X.env:=by rfl)(mL:decide (es.length<28)=true:=by rfl)(cP:(apos.endLine==pos.line)=true:=by rfl)(hs:aD e=true:=by rfl)(cL:es.all aD=true:=by rfl) :
  JE X cA aq aj F EX (.Call (.Attribute a "index" apos) (e::es) [] pos) (.meth true .index .list A Xs):=⟨Za (k:=.list) KY PySem.F.slot_list_index PySem.F.type_list_index zfI zhr ho.o ha.o bL (m9 hs cL mL) cP (bx hs) (aV cL)⟩
theorem Np(ho:JE X cA aq aj F EX a A)(hb:JE X cA aq aj F EX b B)(bL:attributeBase a "append" X.env (eval a X.env)=eval a X.env:=by rfl)(cP:(apos.endLine==pos.line)=true:=by rfl)(hs:aD b=true:=by rfl) :
  JE X cA aq aj F EX (.Call (.Attribute a "append" apos) [b] [] pos) (.push A B):=⟨zji ho.o hb.o bL (m9 hs rfl rfl) cP (bx hs) rfl⟩
theorem znM(ho:JE X cA aq aj F EX a A)(bL:attributeBase a "pop" X.env (eval a X.env)=eval a X.env:=by rfl)(cP:(apos.endLine==pos.line)=true:=by rfl) :
  JE X cA aq aj F EX (.Call (.Attribute a "pop" apos) [] [] pos) (.pop A):=⟨zmo ho.o bL cP⟩
theorem qu:JC X cA aq aj F EX [] .no:=⟨zmR⟩
theorem zQ(h:JT X cA aq aj F EX c C):JC X cA aq aj F EX [c] (.yes C):=⟨zko h.o⟩
theorem nu(ha:JE X cA aq aj F EX a A):JI X cA aq aj F EX tg a (.seq A):=⟨znc ha.o⟩
theorem zpc(hmg:X.mg "range"=none)(ql:JK X "range" .globalImplicit)(ha:JE X cA aq aj F EX a A)(hb:JE X cA aq aj F EX b B)(h1:aD a=true:=by rfl)(h2:aD b=true:=by rfl):JI X cA aq aj F EX tg (.Call (.Name "range" p) [a,b] [] pos) (.rg A B):=⟨zn8 ql.o hmg ha.o hb.o (bx h1) (bx h2)⟩
theorem wB(hmg:X.mg "range"=none)(ql:JK X "range" .globalImplicit)(hb:JE X cA aq aj F EX b B)(h2:aD b=true:=by rfl):JI X cA aq aj F EX tg (.Call (.Name "range" p) [b] [] pos) (.rg (.c (.int 0)) B):=⟨zm9 ql.o hmg hb.o (bx h2)⟩
noncomputable def J1(scope:Scope)(x:Str):Bool:=match scope.names.lookup x with
 |some .local=>true
 |some .cell=>true
 |_=>false
theorem Fg(h:J1 scope x=true):Loc (X.blk scope cl N Cc s3 H3 fp ao).env.scope x/\((X.blk scope cl N Cc s3 H3 fp ao).fn x=true\/(X.blk scope cl N Cc s3 H3 fp ao).env.scope.names.lookup x=some .local):=by
 unfold J1 at h;split at h
 ·rename_i z;exact⟨.inl (lookup_relabel_local z),.inr (lookup_relabel_local z)⟩
 ·rename_i z;exact⟨.inr (Ni (by intro y;cases y) z),.inl (by show (scope.names.lookup x==some NameKind.cell)=true;rw[z];rfl)⟩
 ·cases h
theorem nM(i:Nat)(Iu:N.Nodup)(hi:N[i]?=some x)(hl:J1 scope x=true):JY (X.blk scope cl N Cc s3 H3 fp ao) (.Name x tp) (eF i):=
 ⟨LQ Iu hi (Fg hl).1 (Fg hl).2⟩
theorem J3(i j:Nat)(hc:X.aj=true)(Iu:N.Nodup)(hi:N[i]?=some x)(hj:N[j]?=some y)(hl:J1 scope x=true)(tu:J1 scope y=true):JY (X.blk scope cl N Cc s3 H3 fp ao) (.Tuple [.Name x px,.Name y py] kt tp) (ug X.K 2 (iu (eF i) (iu (eF j) uf))):=
 ⟨S_ (X:=X.blk scope cl N Cc s3 H3 fp ao) hc Iu hi hj (Fg hl).1 (Fg tu).1 (Fg hl).2 (Fg tu).2⟩
theorem Fj{scope:Scope}{XN:List Str}{M0 N:List Str}{fr:List Nat}(h:frB scope XN N fr=true):(M0++N).length=M0.length+fr.length/\∀(i:Nat) (y:Str) (j:Nat),(M0++N)[M0.length+i]?=some y->fr[i]?=some j->scope.names.lookup y=some .free/\XN[j]?=some y:=by
 obtain⟨l,q⟩:=ZL h;refine⟨by rw[dG,l],λi y j e1 e2=>q i y j ?_ e2⟩;rw[qF (by lia)] at e1;rw[show M0.length+i-M0.length=i by lia] at e1;exact e1
theorem nO{elt iter tg:Expr}{ifs:List Expr}{scope:Scope}{cond:Eo}{dH:List Nat}{g:TG}{w:Wk}(sc:Scope)(XN M0 N:List Str)(fr:List Nat)(hc:X.aj=true)(Tt:X.env.scope=sc)(xY:X.N=XN)(hB:uZ sc scope=true)(hf:frB scope XN N fr=true)(hT:m8 X.K cA g dH)(iD:dH.all (λi=>decide (i<M0.length))=true)
  (hi:JI X cA aq aj F EX tg iter w) (hg:∀cl C s3 H3 fp ao,JY (X.blk scope cl (M0++N) C s3 H3 fp ao) tg g)
  (ht:∀cl C s3 H3 fp ao,JC (X.blk scope cl (M0++N) C s3 H3 fp ao) cA aq aj F (λ_ _ _ _=>False) ifs cond) (he:∀cl C s3 H3 fp ao,JE (X.blk scope cl (M0++N) C s3 H3 fp ao) cA aq aj F (λ_ _ _ _=>False) elt B)
  (hs:∀x,foldedSetIterable iter X.env x=pure x:=by intro _;rfl):JE X cA aq aj F EX (.ListComp elt [⟨tg,iter,ifs,0⟩] scope pos) (.comp fz B dH w fr M0.length cond):=
 ⟨ZC hc (dR.of (Tt▸hB)) hi.o (Fj (xY▸hf)).1 (Fj (xY▸hf)).2 (λa b c d e f=>(hg a b c d e f).o) hT (λi hi=>ji (iY.mp iD i hi)) (λa b c d e f=>(ht a b c d e f).o) (λa b c d e f=>(he a b c d e f).o) hs⟩
theorem Kaa{scope fu:Scope}{env:Env}(h:dR scope fu):dR (relabel scope env) fu:=⟨h.kind,h.Yd,λy hy z=>by
 rcases h.free y hy z with q|q
 ·exact .inl (Ni (by intro y;cases y) q)
 ·exact Mu q,h.loc⟩
theorem zi7{elt iter tg:Expr}{ifs:List Expr}{scope fu:Scope}{cond:Eo}{dH:List Nat}{g:TG}{w:Wk}{cl:List (Str×Addr)}{zR:List Str}{Cc:Addr}{s3:Shared}{H3:Hp}{fp:List Addr}{ao:List (Addr×Obj)}(XN M0 N:List Str)(fr:List Nat)(hc:X.aj=true)(xY:zR=XN)(hB:uZ scope fu=true)(hf:frB fu XN N fr=true)(hT:m8 X.K cA g dH)(iD:dH.all (λi=>decide (i<M0.length))=true)
  (hi:JI (X.blk scope cl zR Cc s3 H3 fp ao) cA aq aj F EX tg iter w) (hg:∀cl2 C s3' J5 fp' h_,JY ((X.blk scope cl zR Cc s3 H3 fp ao).blk fu cl2 (M0++N) C s3' J5 fp' h_) tg g)
  (ht:∀cl2 C s3' J5 fp' h_,JC ((X.blk scope cl zR Cc s3 H3 fp ao).blk fu cl2 (M0++N) C s3' J5 fp' h_) cA aq aj F (λ_ _ _ _=>False) ifs cond) (he:∀cl2 C s3' J5 fp' h_,JE ((X.blk scope cl zR Cc s3 H3 fp ao).blk fu cl2 (M0++N) C s3' J5 fp' h_) cA aq aj F (λ_ _ _ _=>False) elt B)
  (hs:∀x,foldedSetIterable iter (X.blk scope cl zR Cc s3 H3 fp ao).env x=pure x:=by intro _;rfl):JE (X.blk scope cl zR Cc s3 H3 fp ao) cA aq aj F EX (.ListComp elt [⟨tg,iter,ifs,0⟩] fu pos) (.comp fz B dH w fr M0.length cond):=by
 subst xY;exact⟨ZC (X:=X.blk scope cl zR Cc s3 H3 fp ao) hc (Kaa (dR.of hB)) hi.o (Fj hf).1 (Fj hf).2 (λa b c d e f=>(hg a b c d e f).o) hT (λi hi=>ji (iY.mp iD i hi)) (λa b c d e f=>(ht a b c d e f).o) (λa b c d e f=>(he a b c d e f).o) hs⟩
theorem su:JR X (λ_ _ _ _=>False):=⟨zfM⟩
theorem cM{P:Program}{w:World}{K:W.Frag}{mg:Str->Option Value}{base:Heap}{N:List Str}{qual:Str}{scope:Scope}{f:Addr}{cd:Value}{A:Around}{outer:List Env}{s:Shared}{H:Hp}{E:XK}{cm:Bool} :
  JR (gq (gD P w) P w K mg base N qual scope f cd A outer s H E cm) (λ_ C dx H'=>E C dx H'):=⟨zfn⟩
theorem vo{CX:sZ}{P:Program}{w:World}{K:W.Frag}{mg:Str->Option Value}{base:Heap}{N:List Str}{qual:Str}{scope:Scope}{f:Addr}{cd:Value}{A:Around}{outer:List Env}{s:Shared}{H:Hp}{E:XK}{cm:Bool} :
  JH (gq CX P w K mg base N qual scope f cd A outer s H E cm):=⟨PassesOwn.leaving⟩
end
section
variable {X:Cx}{cA:Cl}{aq:Nat->Nat->Bool}{aj:Bool}{F:Bool->Fn}{EX:XS}{a b c d e:Expr}{A B C:E}{pos p p2:Pos}{st:Stmt}{sts body orelse:List Stmt}{m:St}{ms mb me mh:bV}{es:List Expr}{Xs:Es}{x y n:Str}{k k':NameKind}
theorem CK(h:JK X x k)(hv:oR k=true):Loc X.env.scope x:=by cases k<;>first|exact .inl h.o|exact .inr h.o|cases hv
theorem CP(h:JK X x k)(hv:X.fn x=true\/k=.local):X.fn x=true\/X.env.scope.names.lookup x=some .local:=by
 rcases hv with hv|hv
 ·exact .inl hv
 ·subst hv;exact .inr h.o
theorem aQ:JB X cA aq aj F EX [] .nil:=⟨zjt⟩
theorem aJ(h1:JS X cA aq aj F EX st m)(h2:JB X cA aq aj F EX sts ms):JB X cA aq aj F EX (st::sts) (.cons m ms):=⟨zhD h1.o h2.o⟩
theorem zT(ha:JE X cA aq aj (F aj) EX a A)(hs:swapsWith a none pos.line X.env=pure false:=by rfl):JS X cA aq aj F EX (.Expr a pos) (.ex A):=⟨znY ha.o hs⟩
theorem b_(ha:JE X cA aq aj (F aj) EX a A):JS X cA aq aj F EX (.Return (some a) pos) (.ret A):=⟨zmF ha.o⟩
theorem eO(i:Nat)(hN:X.N.Nodup)(hi:X.N[i]?=some x)(hx:JK X x k)(hl:oR k=true)(ha:JE X cA aq aj (F aj) EX a A)(hs:swapsWith a (some (.Name x p)) pos.line X.env=pure false:=by rfl)(hf:X.fn x=true\/k=.local:=by first|exact .inl rfl|exact .inr rfl):JS X cA aq aj F EX (.Assign [.Name x p] a pos) (.asg (.nm i) A):=
 ⟨zm2 hN hi (CK hx hl) ha.o hs (CP hx hf)⟩
theorem Nq{elt iter tg:Expr}{ifs:List Expr}{scope:Scope}{cond:Eo}{dH:List Nat}{g:TG}{w:Wk}{fz:Bool}{py spos:Pos}(i:Nat)(sc:Scope)(XN M0 N:List Str)(fr:List Nat)(hN:X.N.Nodup)(Ip:X.N[i]?=some y)(hx:JK X y k)(hl:oR k=true)(hc:X.aj=true)(Tt:X.env.scope=sc)(xY:X.N=XN)(hB:uZ sc scope=true)(hf:frB scope XN N fr=true)(hT:m8 X.K cA g dH)(iD:dH.all (λi=>decide (i<M0.length))=true)
  (hi:JI X cA aq aj (F aj) EX tg iter w) (hg:∀cl C s3 H3 fp ao,JY (X.blk scope cl (M0++N) C s3 H3 fp ao) tg g)
  (ht:∀cl C s3 H3 fp ao,JC (X.blk scope cl (M0++N) C s3 H3 fp ao) cA aq aj (F aj) (λ_ _ _ _=>False) ifs cond) (he:∀cl C s3 H3 fp ao,JE (X.blk scope cl (M0++N) C s3 H3 fp ao) cA aq aj (F aj) (λ_ _ _ _=>False) elt B)
  (Ir:swapsWith (.ListComp elt [⟨tg,iter,ifs,0⟩] scope pos) (some (.Name y py)) spos.line X.env=pure true:=by rfl) (hff:X.fn y=true\/k=.local:=by first|exact .inl rfl|exact .inr rfl) (hs:∀x,foldedSetIterable iter X.env x=pure x:=by intro _;rfl) :
  JS X cA aq aj F EX (.Assign [.Name y py] (.ListComp elt [⟨tg,iter,ifs,0⟩] scope pos) spos) (.asg (.nm i) (.comp fz B dH w fr M0.length cond)):=
 ⟨zke hc hN Ip (CK hx hl) (CP hx hff) (dR.of (Tt▸hB)) hi.o (Fj (xY▸hf)).1 (Fj (xY▸hf)).2 (λa b c d e f=>(hg a b c d e f).o) hT (λi hi=>ji (iY.mp iD i hi)) (λa b c d e f=>(ht a b c d e f).o) (λa b c d e f=>(he a b c d e f).o) Ir hs⟩
theorem J6(i j:Nat){k0}(hc:X.aj=true)(cI:aj=true)(hN:X.N.Nodup)(hi:X.N[i]?=some x)(hj:X.N[j]?=some y)(hx:JK X x k)(hy:JK X y k')(Tv:oR k=true)(Tw:oR k'=true)(ha:JE X cA aq aj (F aj) EX a A)
  (xW:X.fn x=true\/k=.local:=by first|exact .inl rfl|exact .inr rfl) (xX:X.fn y=true\/k'=.local:=by first|exact .inl rfl|exact .inr rfl)
  (hs:swapsWithSole [.Tuple [.Name x px,.Name y py] k0 pt] a pos.line X.env=pure false:=by rfl) (hw:swappedStores [.Tuple [.Name x px,.Name y py] k0 pt] a X.env=pure none:=by rfl) (h1:(assignEach [.Tuple [.Name x px,.Name y py] k0 pt] X.env).map (·.2)=[assign (.Tuple [.Name x px,.Name y py] k0 pt) X.env]:=by rfl) :
  JS X cA aq aj F EX (.Assign [.Tuple [.Name x px,.Name y py] k0 pt] a pos) (.asg (.tp [i,j]) A):=⟨zky hc cI hN hi hj (CK hx Tv) (CK hy Tw) (CP hx xW) (CP hy xX) ha.o hs hw h1⟩
theorem Fl(hO:JE X cA aq aj (F aj) EX oo O)(hI:JE X cA aq aj (F aj) EX ii I')(ha:JE X cA aq aj (F aj) EX a A)
  (Tc:∀v,assign (.Subscript oo ii p) X.env v=(do
   let obj <-holding [v] (eval oo X.env)
   let at_ <-holding [v,obj] (eval ii X.env)
   standAt p
   holding [v,obj,at_] (setItem obj at_ v)
   release [v,obj,at_] []):=by intro _;rfl) (hs:swapsWithSole [.Subscript oo ii p] a pos.line X.env=pure false:=by rfl) (hw:swappedStores [.Subscript oo ii p] a X.env=pure none:=by rfl)
  (h1:(assignEach [.Subscript oo ii p] X.env).map (·.2)=[assign (.Subscript oo ii p) X.env]:=by rfl):JS X cA aq aj F EX (.Assign [.Subscript oo ii p] a pos) (.asg (.aq O I') A):=⟨zkV hO.o hI.o ha.o Tc hs hw h1⟩
theorem iH(hc:JT X cA aq aj (F aj) EX c C)(ht:JB X cA aq aj F EX body mb)(he:JB X cA aq aj F EX orelse me):JS X cA aq aj F EX (.If c body orelse pos) (.iff C mb me):=⟨zn3 hc.o ht.o he.o⟩
theorem zjN(hp:JH X)(hc:JT X cA aq aj (F aj) EX c C)(hb:JB X cA aq aj F EX body mb):JS X cA aq aj F EX (.While c body [] pos) (.wh C mb):=⟨zhi hp.o hc.o hb.o⟩
theorem yd(i:Nat)(hN:X.N.Nodup)(hi:X.N[i]?=some x)(hx:JK X x k)(hl:oR k=true)(hf:X.fn x=true\/k=.local:=by first|exact .inl rfl|exact .inr rfl):JG X cA aq aj F EX (.Name x pos) (.nm i):=⟨zkQ hN hi (CK hx hl) (CP hx hf)⟩
theorem zmk(i j:Nat){k0}(hc:X.aj=true)(cI:aj=true)(hN:X.N.Nodup)(hi:X.N[i]?=some x)(hj:X.N[j]?=some y)(hx:JK X x k)(hy:JK X y k')(Tv:oR k=true)(Tw:oR k'=true)(xW:X.fn x=true\/k=.local:=by first|exact .inl rfl|exact .inr rfl)(xX:X.fn y=true\/k'=.local:=by first|exact .inl rfl|exact .inr rfl) :
  JG X cA aq aj F EX (.Tuple [.Name x px,.Name y py] k0 pos) (.tp [i,j]):=⟨zjA hc cI hN hi hj (CK hx Tv) (CK hy Tw) (CP hx xW) (CP hy xX)⟩
theorem wC(hp:JH X)(hc:X.aj=true)(cI:aj=true)(ha:JI X cA aq aj (F aj) EX tg a w)(hg:JG X cA aq aj F EX tg t)(hb:JB X cA aq aj F EX body mb)(hs:∀x,foldedSetIterable a X.env x=pure x:=by intro _;rfl):JS X cA aq aj F EX (.For tg a body [] pos) (.fr t w mb):=
 ⟨zlr hp.o hc cI ha.o hg.o hb.o hs⟩
theorem zfJ{cc:Nat}{apos:Pos}(hf:cA.f cc=[])(hc:X.aj=true)(cI:aj=true)(hX:PySem.W.excIn X.K (cA.a cc) [.type "ValueError",.type "Exception",.type "BaseException",.type "object"] "ValueError.__new__"=true)(hm:X.mg x=some (.ref (cA.a cc)))(hg:JK X x .globalImplicit)
  (R:JR X EX) (ha:JA X cA aq aj (F aj) EX (e::es) Xs) (hd:okN x=true) (hz:decide (Es.len Xs<=sizeLine)=true:=by rfl) (he:aD e=true:=by rfl) (hpl:es.all aD=true:=by rfl) :
  JS X cA aq aj F EX (.Raise (some (.Call (.Name x p) (e::es) [] apos)) none pos) (.rise cc false Xs):=⟨zhW hf FP (by decide +kernel) FP hc cI hX hg.o hm R.o ha.o (ji hz) (qm hd).1 (bx he) (aV hpl)⟩
theorem zol(i:Nat)(cI:aj=true)(hex:X.ex=[])(pB:X.stack=X.env::X.outer/\X.env.frame=some X.env.locals)(hg:JK X x .globalImplicit)(hm:X.mg x=some (.ref (cA.a dc)))(hN:X.N.Nodup)(hi:X.N[i]?=some n)(hl:JK X n .local)
  (hsub:∀c,aq c dc=true->subIn X.K (cA.a c) (cA.a dc)=true)
  (hb:∀(pn:List (Addr×Obj)) (E':Value->Shared->Prop) (tD:XS),JR (X.seen X.A X.aj pn E') tD->JH (X.seen X.A X.aj pn E')->JB (X.seen X.A X.aj pn E') cA aq aj F tD body mb)
  (hh:∀e:Value,JB (X.seen (X.A.mark (some e)) false X.pn (λ_ _=>False)) cA aq false F (λ_ _ _ _=>False) (b₀::suite) mh) (hd:okN x=true) :
  JS X cA aq aj F EX (.Try body [.ExceptHandler (some (.Name x np)) (some n) (b₀::suite) uy] [] [] pos) (.rO mb dc i mh):=
 ⟨zk0 cI hex pB hg.o hm hN hi hl.o hsub (λpn E' tD R H=>(hb pn E' tD ⟨R⟩ ⟨H⟩).o) (λe=>(hh e).o) (qm hd).1⟩
end
theorem ziD{P:Program}{w:World}{K:W.Frag}{mg:Str->Option Value}{base:Heap}{cA:Cl}{aq:Nat->Nat->Bool}{T:Nat->Option Df}{x qual:Str}{st:Stmt}{f:Addr}{fd:FuncData}{N ps:List Str}{k n:Nat}{cm:Bool}{df:Df}(F:oO K x qual st f fd)(S:dh N ps (au st))(hT:T n=some df)(hp:df.gw=ps.length)(hm:df.many=N.length)
  (hb:∀(cdv:Value) (A:Around) (outer:List Env) (s:Shared) (H:Hp) (E:XK),bA k (A.deeper (envOfC qual (au st) s.heap.objs.size f cdv))->
   JB (gq (gD P w) P w K mg base N qual (au st) f cdv A outer s H E cm) cA aq cm (λc=>call aq T k c) (λ_ C dx H'=>E C dx H') (aK st) df.body) :
  cB P w K mg base (gD P w) cm (k+1) f fd ps (lR K cA (call aq T (k+1) cm n)):=zln F S hT hp hm λcdv A outer s H E hr=>(hb cdv A outer s H E hr).o
section
variable {K:W.Frag}{cA:Cl}{U:Ph}{H:Hp}{kvs:jz}{xs:m6}{k:List Kx}
theorem jk.len(r:jk K cA U H kvs xs):kvs.length=xs.length:=by
 induction r with
 |nil=>rfl
 |cons _ _ _ _ ih=>rw[fK,fK,ih]
theorem zjT{j:List Kx}{a:Addr}{u:Value}{r:m6}:atKey ((j,a,u)::r) k=if j=k then some (a,u) else atKey r k:=by
 unfold atKey;rw[List.find?_cons];by_cases e:j=k
 ·simp[e]
 ·simp[e]
theorem jk.at(r:jk K cA U H kvs xs):(bW k kvs=none/\atKey xs k=none)\/∃d p v,bW k kvs=some d/\atKey xs k=some p/\RelV v p.2/\Rep K cA U H d v:=by
 induction r with
 |nil=>exact .inl ⟨rfl,rfl⟩
 |@cons j d ka u v r xs hk hu hv q ih=>
  rw[zjT];unfold bW;by_cases e:j=k
  ·rw[if_pos e,if_pos e];exact .inr ⟨d,(ka,u),v,rfl,rfl,hu,hv⟩
  ·rw[if_neg e,if_neg e];exact ih
theorem jk.isSome(r:jk K cA U H kvs xs):(atKey xs k).isSome=(bW k kvs).isSome:=by
 rcases r.at (k:=k) with ⟨a,b⟩|⟨d,p,v,a,b,_⟩<;>rw[a,b]<;>rfl
theorem jk.app{kvs':jz}{xs':m6}(r:jk K cA U H kvs xs)(r':jk K cA U H kvs' xs'):jk K cA U H (kvs++kvs') (xs++xs'):=by
 induction r with
 |nil=>exact r'
 |cons a b c _ ih=>exact .cons a b c ih
theorem jk.put{ka:Addr}{u:Value}{v:V}{d:D}(r:jk K cA U H kvs xs)(hk:Rep K cA U H (jg k) (.ref ka))(hu:RelV v u)(hv:Rep K cA U H d v):jk K cA U H (jA k d kvs) (storedH xs k ka u):=by
 unfold jA storedH;rw[r.isSome];by_cases e:(bW k kvs).isSome=true
 ·rw[if_pos e,if_pos e];clear e
  induction r with
  |nil=>exact .nil
  |@cons j d' ka' u' v' r xs Nr hu' Qy q ih=>
   rw[iU,iU];show jk K cA U H ((if j=k then (j,d) else (j,d'))::_) ((if j=k then (j,ka',u) else (j,ka',u'))::_);by_cases e:j=k
   ·rw[if_pos e,if_pos e];exact .cons Nr hu hv ih
   ·rw[if_neg e,if_neg e];exact .cons Nr hu' Qy ih
 ·rw[if_neg e,if_neg e];exact r.app (.cons hk hu hv .nil)
end
section
variable {X:Cx}{cA:Cl}{ao:List (Addr×Obj)}{Z:L2.St}{H:Hp}{s:Shared}{U:Ph}{a:Addr}{kvs:jz}{xs:m6}{k:List Kx}{y v:V}{u:Value}{A:Around}{E:Value->Shared->Prop}
theorem Tz(I:Inv X ao Z H s)(e:H a=some (uM a xs))(r:jk X.K cA U H kvs xs):(a==sysModules)=false/\xs.length<=sizeLine/\s.heap.DictOfH (jM X.prog X.w) a xs:=by
 have z:=(I.hok a _ e).1;obtain⟨h1,h2,o,es,ep,h3,h4,h5,h6,h7⟩:=z;refine⟨h1,h2,o,es,ep,h3,h4,h5,h6,?_,h7⟩;clear h2 h6 h7 e
 induction r with
 |nil=>exact λx hx=>nomatch hx
 |cons hk hu hv q ih=>exact List.forall_mem_cons.mpr ⟨rY I hk rfl,ih⟩
theorem TF{d:D}(hk:Rep X.K cA U H (jg k) y):∃b,y=.ref b:=by cases hk;exact⟨_,rfl⟩
noncomputable def tGx(K:W.Frag)(cA:Cl)(td ty:TE):TE:=λZ H Q=>td Z H λx H1=>ty Z H1 λy H2=>∃a U kvs xs k d,x=.ref a/\H2 a=some (uM a xs)/\jk K cA U H2 kvs xs/\Rep K cA U H2 (jg k) y/\bW k kvs=some d/\∀v,Rep K cA U H2 d v->Q v H2
noncomputable def tIx(K:W.Frag)(cA:Cl)(f:Bool->Bool)(ty td:TE):TE:=λZ H Q=>ty Z H λy H1=>td Z H1 λx H2=>∃a U kvs xs k,x=.ref a/\H2 a=some (uM a xs)/\jk K cA U H2 kvs xs/\Rep K cA U H2 (jg k) y/\Q (.bl (f (bW k kvs).isSome)) H2
noncomputable def sPx(K:W.Frag)(cA:Cl)(td ty tv:TE):TS:=λD Z H=>tv Z H λv H1=>td Z H1 λx H2=>ty Z H2 λy H3=>∃a b U kvs xs k d,x=.ref a/\H3 a=some (uM a xs)/\jk K cA U H3 kvs xs/\y=.ref b/\Rep K cA U H3 (jg k) y/\Rep K cA U H3 d v/\kvs.length<sizeLine /\
 ∀u,RelV v u->D.nx Z (upd H3 a (uM a (storedH xs k b u)))
variable {o i value:Expr}{pos pos':Pos}{td ty tv:TE}
theorem zns(hu:X.A.units+5<cLine)(ho:PE X o td)(hi:PE X i ty)(hs:Cv i):PE X (.Subscript o i pos) (tGx X.K cA td ty):=by
 intro ao s Z H Q I h;refine zj6 PySem.F.slot_dict_getitem.lookup hs (bf (ho ao s Z H _ I h) λu s1 hx=>eE hx λx H1 I1 rx q1=>bf (hi ao s1 Z H1 _ I1 q1) λiv s2 ⟨y,H2,I2,ry,a,U,kvs,xs,k,d,ex,ea,rr,rk,g,q2⟩=>?_);subst ex;obtain rfl:u=Value.ref a:=rx;obtain⟨b,rfl⟩:=TF (d:=d) rk;obtain rfl:iv=Value.ref b:=ry;obtain⟨z1,z2,dd⟩:=Tz I2 ea rr;rcases rr.at (k:=k) with ⟨z,_⟩|⟨d',p,v,z,hp,rv,rd⟩
 ·rw[g] at z;cases z
 ·rw[g] at z;cases z;exact⟨dd.typeIs,wpAny_getItem_heap (knd:=jM X.prog X.w) (show X.A.units+1+4<cLine by lia) (rY I2 rk rfl) dd hp ⟨v,H2,I2.tok _,rv,q2 v rd⟩⟩
theorem zlh(hu:X.A.units+5<cLine)(hi:PE X i ty)(ho:PE X o td):PC X .NotIn i o (tIx X.K cA not ty td):=by
 intro ao s Z H Q I h;refine bf (hi ao s Z H _ I h) λiv s1 hx=>eE hx λy H1 I1 ry q1=>bf (ho ao s1 Z H1 _ I1 q1) λu s2 ⟨x,H2,I2,rx,a,U,kvs,xs,k,ex,ea,rr,rk,q2⟩=>?_;subst ex;obtain rfl:u=Value.ref a:=rx;obtain⟨b,rfl⟩:=TF (d:=.non) rk;obtain rfl:iv=Value.ref b:=ry;obtain⟨z1,z2,dd⟩:=Tz I2 ea rr;exact wpAny_notIn_heap (knd:=jM X.prog X.w) (show X.A.units+1+4<cLine by lia) (rY I2 rk rfl) z1 dd ⟨_,H2,I2.tok _,by rw[rr.isSome];rfl,q2⟩
theorem zeV{xs:m6}{b:Addr}{u:Value}:(storedH xs k b u).length<=xs.length+1:=by
 unfold storedH
 split
 ·rw[cg];lia
 ·simp
theorem zod(hu:X.A.units+5<cLine)(ho:PE X o td)(hi:PE X i ty)(hv:PE X value tv)(hs:swapsWith value (some (.Subscript o i pos')) pos.line X.env=pure false):PS X (.Assign [.Subscript o i pos'] value pos) (sPx X.K cA td ty tv):=by
 intro ao s Z H D I h;refine wpAny_Assign_Subscript (bf (hv ao s Z H _ I h) λr s1 hx=>eE hx λv H1 I1 rv q1=>bf (ho ao s1 Z H1 _ I1 q1) λu s2 hx=>eE hx λx H2 I2 rx q2=>bf (hi ao s2 Z H2 _ I2 q2) λiv s3 ⟨y,H3,I3,ry,a,b,U,kvs,xs,k,d,ex,ea,rr,ey,rk,rd,hl,q3⟩=>?_) hs;subst ex ey;obtain rfl:u=Value.ref a:=rx;obtain rfl:iv=Value.ref b:=ry;obtain⟨z1,z2,dd⟩:=Tz I3 ea rr;have tu:xs.length+1<=sizeLine:=by rw[<-rr.len];exact hl
 refine wpAny_setItem_heap (knd:=jM X.prog X.w) (hsz:=z2) (show X.A.units+1+4<cLine by lia) (rY I3 rk rfl) dd λh' Ie hs'=>⟨Z,_,?_,q3 r rv⟩;obtain⟨q,es,ep,hq,h2,h3,h4,_,h5⟩:=Ie;exact Y4 I3 (by rw[ea];exact True.intro) hs' ⟨q,hq⟩ ⟨⟨z1,kI zeV tu,q,es,ep,hq,h2,h3,h4,h5⟩,⟨q,hq⟩,λh1 h2 ⟨a1,a2,o,es,ep,a3,a4⟩ kp=>⟨a1,a2,o,es,ep,kp o a3,a4⟩⟩
theorem znL:PE X (.Dict [] [] pos) (λ_ H Q=>∀p,H p=none->Q (.ref p) (upd H p (uM p []))):=λao s Z H Q I h=>
 wpAny_Dict_empty ⟨.ref s.heap.objs.size,_,I.laid (a:=s.heap.objs.size) (o:=uM s.heap.objs.size []) (t':=s.toks) (λ_ _ q=>bY _ q) (bO _)
  ⟨⟨yF.mpr (Ne.symm (dw I.big)),vV _,_,#[],0,fO _ rfl,⟨rfl,rfl,rfl⟩,rfl,rfl,Al⟩,⟨_,fO _ rfl⟩,λh1 h2 ⟨a1,a2,o,es,ep,a3,a4⟩ kp=>⟨a1,a2,o,es,ep,kp o a3,a4⟩⟩,rfl,h _ (I.hok.fresh (bO _))⟩
end
section
variable {X:Cx}{cA:Cl}{aq:Nat->Nat->Bool}{aj:Bool}{F:Fn}{EX:XS}{a b:Expr}{A B:E}{pos p:Pos}{K:W.Frag}{U:Ph}{H:Hp}{s:S}
theorem TJ{β:Type}{x:Xv}{v:V}{k:List Kx->M β}{P:β->S->Ph->Hp->Prop}{Ee:Nat->List D->S->Ph->Hp->Prop}(r:bw K cA U H x v)(h:Run K cA (M.bd (key x) k) U H s P Ee):∃kx,Rep K cA U H (jg kx) v/\Run K cA (k kx) U H s P Ee:=by
 cases r with
 |l _=>exact h.elim
 |@d y _ r=>
  obtain⟨kx,e,h2⟩:=M4 (o:=kOf y) h;rw[zm4 e] at r;exact⟨kx,r,h2⟩
theorem TQ{β:Type}{x:Xv}{v:V}{k:Nat×jz->M β}{P:β->S->Ph->Hp->Prop}{Ee:Nat->List D->S->Ph->Hp->Prop}(hS:aF K cA U H s)(r:bw K cA U H x v)(h:Run K cA (M.bd (fU x) k) U H s P Ee) :
  ∃n ad kvs xs,x=.l n/\v=.ref ad/\s[n]?=some (.dct kvs)/\U.l[n]?=some ad/\H ad=some (uM ad xs)/\jk K cA U H kvs xs/\Run K cA (k (n,kvs)) U H s P Ee:=by
 cases r with
 |d _=>exact h.elim
 |@l n ad hl=>
  unfold Run M.bd fU at h;dsimp only at h;cases e:s[n]? with
  |none=>rw[e] at h;exact h.elim
  |some o=>
   rw[e] at h;cases o with
   |dct kvs=>
    obtain⟨xs,q1,q2⟩:=hS.obj n _ _ e hl;exact⟨n,ad,kvs,xs,rfl,rfl,e,hl,q1,q2,h⟩
   |_=>exact h.elim
theorem zlt{k:Nat}(hr:bA k X.A)(ha:JE X cA aq aj F EX a A)(hb:JE X cA aq aj F EX b B)(hs:Cv b:=by exact λ_ _=>rfl):JE X cA aq aj F EX (.Subscript a b pos) (.pY A B):=⟨PE.weak (zns (cA:=cA) (by have:=hr.un;lia) ha.o hb.o hs) λZ H Q hh=>un hh λU J s hL hS h=>by
 refine bB hL hS h λx H1 U1 d1 s1 x1 hL1 aH r1 h1=>bB hL1 aH h1 λy H2 U2 d2 s2 x2 hL2 aX r2 h2=>?_;obtain⟨kx,rk,h3⟩:=TJ r2 h2;obtain⟨n,ad,kvs,xs,_,rfl,e1,e2,e3,rr,h4⟩:=TQ aX (r1.mono x2 aH.lz) h3;have h4:Run X.K cA (M.opt ((bW kx kvs).map Xv.d)) U2 H2 s2 (λd _ U' H'=>∀v,bw X.K cA U' H' d v->Q v H') (eX X.K cA EX Z):=h4;cases e:bW kx kvs with
 |none=>rw[e] at h4;exact h4.elim
 |some d=>
  rw[e] at h4;exact⟨ad,U2,kvs,xs,kx,d,rfl,e3,rr,rk,e,λv rv=>h4.bG aX v (.d rv)⟩⟩
theorem zjH{b':Bool}{Z:L2.St}{Q:VK}(f:Bool->Bool)(hf:∀c,f c=(c==b'))(hh:tE X.K cA EX (ev aq aj F (.B_ b' A B)) Z H Q):tIx X.K cA f (tE X.K cA EX (ev aq aj F A)) (tE X.K cA EX (ev aq aj F B)) Z H Q:=un hh λU J s hL hS h=>by
 refine bB hL hS h λx H1 U1 d1 s1 x1 hL1 aH r1 h1=>bB hL1 aH h1 λy H2 U2 d2 s2 x2 hL2 aX r2 h2=>?_;obtain⟨kx,rk,h3⟩:=TJ (r1.mono x2 aH.lz) h2;obtain⟨n,ad,kvs,xs,_,rfl,e1,e2,e3,rr,h4⟩:=TQ aX r2 h3;refine⟨ad,U2,kvs,xs,kx,rfl,e3,rr,rk,?_⟩;rw[hf];exact h4.bG aX _ (.d (.bl _))
theorem zfK{m:Vs->M Xv}{Z:L2.St}{Q:Bool->Hp->Prop}(hh:wj K cA EX (λJ=>M.bd (m J) bool) Z H Q):tE K cA EX m Z H λx H1=>∃c,x=.bl c/\Q c H1:=un hh λU J s hL hS h=>
 ⟨U,J,s,hL,hS,h.bd.imp λd s1 U1 H1 ⟨_,r1,h1⟩ v rv=>zia r1 rv h1⟩
theorem zlL{k:Nat}(hr:bA k X.A)(ha:JE X cA aq aj F EX a A)(hb:JE X cA aq aj F EX b B)(h1:oU b=true:=by rfl):JT X cA aq aj F EX (.Compare a [.NotIn] [b] pos) (.B_ false A B):=⟨PT.weak (Qj (zlh (cA:=cA) (by have:=hr.un;lia) ha.o hb.o) (xZ h1)) λZ H Q hh=>zjH not (λc=>by cases c<;>rfl) (zfK hh)⟩
theorem zlv:JE X cA aq aj F EX (.Dict [] [] pos) .rN:=⟨PE.weak znL λZ H Q hh=>un hh λU J s hL hS h p hp=>
 h (U.add p) _ (Ext.add hp) (hS.Jp hp ⟨[],iV,.nil⟩) _ (.l (by show (U.l++[p])[s.length]?=_;rw[<-hS.len];simp))⟩
end
section
variable {X:Cx}{cA:Cl}{aq:Nat->Nat->Bool}{aj:Bool}{F:Bool->Fn}{EX:XS}{a oo ii:Expr}{A O I':E}{pos p:Pos}
theorem zmG{k:Nat}(hr:bA k X.A)(hO:JE X cA aq aj (F aj) EX oo O)(hI:JE X cA aq aj (F aj) EX ii I')(ha:JE X cA aq aj (F aj) EX a A)(hs:swapsWith a (some (.Subscript oo ii p)) pos.line X.env=pure false:=by rfl) :
  JS X cA aq aj F EX (.Assign [.Subscript oo ii p] a pos) (.dput O I' A):=⟨PS.weak (zod (cA:=cA) (by have:=hr.un;lia) hO.o hI.o ha.o hs) λD Z H hh=>un hh λU J s hL hS h=>by
 refine bB hL hS (aO.ofM hL hS.lz h) λz H1 U1 d1 s1 x1 hL1 aH r1 h1=>?_;obtain⟨w,_,lg,h2⟩:=M5 r1 h1;refine bB hL1 aH h2 λx H2 U2 d2 s2 x2 hL2 aX r2 h3=>bB hL2 aX h3 λy H3 U3 d3 s3 x3 xP lQ r3 h4=>?_;obtain⟨kx,rk,h5⟩:=TJ r3 h4;obtain⟨n,ad,kvs,xs,_,rfl,e1,e2,e3,rr,h6⟩:=TQ lQ (r2.mono x3 aX.lz) h5;obtain⟨b,rfl⟩:=TF (X:=X) (d:=.non) rk;have rw3:=(lg.mono x2 aH.lz).mono x3 aX.lz;by_cases hz:kvs.length<sizeLine
 ·refine⟨ad,b,U3,kvs,xs,kx,w,rfl,e3,rr,rfl,rk,rw3,hz,λu ru=>?_⟩;have h6:Run X.K cA (if kvs.length<sizeLine then putD n (jA kx w kvs) else M.no) U3 H3 s3 _ _:=h6;rw[if_pos hz] at h6;have x4:Ext U3 H3 U3 (upd H3 ad (uM ad (storedH xs kx b u))):=Ext.write e2 ⟨_,e3⟩;have rS:=lQ.uN (so:=.dct (jA kx w kvs)) (ho:=uM ad (storedH xs kx b u)) (dN.mp e1).1 e2 ⟨_,iV,(rr.put rk ru rw3).map λ_ _ r=>r.mono x4 lQ.lz⟩;obtain⟨x5,r5,h7⟩:=h6 U3 _ x4 rS;exact h7 U3 _ Z Ext.refl rS (xP.mono x4 lQ.lz)
 ·have h6:Run X.K cA (if kvs.length<sizeLine then putD n (jA kx w kvs) else M.no) U3 H3 s3 _ _:=h6;rw[if_neg hz] at h6;exact h6.elim⟩
end
end Mi
namespace Mi
open PySem PySem.Spec PyProof.Rows L2 PySem.W
theorem zlc{fd:FuncData}{x:Str}{st:Stmt}(h:nR fd=vW x st):fd=fnOf x x (aN st) (aK st) (au st) .none fd.kwdefaults fd.doc fd.pyModule fd.annotations fd.code fd.closureTuple:=by
 cases fd;unfold nR vW at h;cases h;rfl
noncomputable def iI(K:Frag)(x:Str):Addr:=match Aw K x with
 |some p=>p.1
 |none=>0
noncomputable def fdOf(K:Frag)(x:Str)(st:Stmt):FuncData:=match Aw K x with
 |some p=>p.2
 |none=>vW x st
structure FnAt(K:Frag)(x:Str)(st:Stmt):Prop where
 ns:nsIn K mainGlobals x=some (some (.ref (iI K x)))
 fn:oO K x x st (iI K x) (fdOf K x st)
theorem zok{K:Frag}{x:Str}{st:Stmt}(h:(Aw K x).map (λp=>nR p.2)=some (vW x st)):FnAt K x st:=by
 cases e:Aw K x with
 |none=>rw[e] at h;cases h
 |some p=>
  rw[e] at h;have hp:nR p.2=vW x st:=cJ h;have h1:iI K x=p.1:=by unfold iI;rw[e]
  have h2:fdOf K x st=p.2:=by unfold fdOf;rw[e]
  unfold Aw at e;split at e
  ·rename_i f hf;split at e
   ·rename_i oc od fd sl hl;split at e
    ·rename_i hc;cases e;rw[eY] at hc;refine⟨by rw[h1];exact hf,?_⟩;rw[h1,h2];exact⟨⟨oc,od,_,_,_,_,_,_,sl,zlc hp,hl,hc.1⟩,hc.2⟩
    ·cases e
   ·cases e
  ·cases e
theorem FnAt.m{K:Frag}{x:Str}{st:Stmt}(F:FnAt K x st){h:Heap}{mg:Str->Option Value}(X:K.In h)(G:h.Ns mainGlobals mg):mg x=some (.ref (iI K x)):=mg_of X G F.ns
theorem sy{K:Frag}{x:Str}(h:tY K x=true){hp:Heap}{mg:Str->Option Value}(X:K.In hp)(G:hp.Ns mainGlobals mg):mg x=some (.ref (dZ K x)):=by
 refine mg_of X G ?_;unfold tY at h;unfold dZ;split at h
 ·rename_i C e;rw[e]
 ·cases h
theorem ziY{K:Frag}{x:Str}{i:Int}(h:mz K (x,i)=true){hp:Heap}{mg:Str->Option Value}(X:K.In hp)(G:hp.Ns mainGlobals mg):∃t,mg x=some (.int i t):=by
 unfold mz at h;split at h
 ·rename_i j t e;rw[Ld] at h;subst h;exact⟨t,mg_of X G e⟩
 ·cases h
theorem pD{K:Frag}{x:Str}(h:qL K x=true){hp:Heap}{mg:Str->Option Value}(X:K.In hp)(G:hp.Ns mainGlobals mg):mg x=none:=by
 refine mg_none_of X G ?_;unfold qL at h;split at h
 ·rename_i e;exact e
 ·cases h
structure zU(l:Lk)(K:Frag):Prop where
 cl:∀x∈l.Gv,tY K x=true
 cs:l.Gv.isEmpty=true\/qK K (l.L K)=true
 ra:∀k∈l.WD,Gu K (dY (l.L K) k)=true
 ca:∀k∈l.WK,subB K (l.L K) k=true
 it:∀p∈l.vX,mz K p=true
 no:∀x∈l.Wz,qL K x=true
theorem Kab{l:Lk}{K:Frag}(h:l.good K=true):zU l K:=by
 unfold Lk.good at h;simp only[eY,Bool.or_eq_true,iY] at h;obtain⟨⟨⟨⟨⟨h1,h2⟩,h3⟩,h4⟩,h5⟩,h6⟩:=h;exact⟨h1,h2,h3,h4,h5,h6⟩
theorem yg{K:Frag}{x:Str}{st:Stmt}{f:Addr}{fd:FuncData}{p:Str}(F:oO K x x st f fd)(h:∀(kV doc pm:Value) (an:Option Addr) (cdv ct a:Value),bindArgs (fnOf x x (aN st) (aK st) (au st) .none kV doc pm an cdv ct) ⟨[a],[]⟩=pure [(p,a)]):Binds K fd [p] []:=by
 obtain⟨oc,od,kV,doc,pm,an,cdv,ct,osl,rfl,lk,jJ⟩:=F.ex;exact Cy (h kV doc pm an cdv ct)
theorem yh{K:Frag}{x:Str}{st:Stmt}{f:Addr}{fd:FuncData}{p q:Str}(F:oO K x x st f fd)(h:∀(kV doc pm:Value) (an:Option Addr) (cdv ct a b:Value),bindArgs (fnOf x x (aN st) (aK st) (au st) .none kV doc pm an cdv ct) ⟨[a,b],[]⟩=pure [(p,a),(q,b)]):Binds K fd [p,q] []:=by
 obtain⟨oc,od,kV,doc,pm,an,cdv,ct,osl,rfl,lk,jJ⟩:=F.ex;exact u6 (h kV doc pm an cdv ct)
theorem yj{K:Frag}{x:Str}{st:Stmt}{f:Addr}{fd:FuncData}{p q t:Str}(F:oO K x x st f fd)(h:∀(kV doc pm:Value) (an:Option Addr) (cdv ct a b c:Value),bindArgs (fnOf x x (aN st) (aK st) (au st) .none kV doc pm an cdv ct) ⟨[a,b,c],[]⟩=pure [(p,a),(q,b),(t,c)]):Binds K fd [p,q,t] []:=by
 obtain⟨oc,od,kV,doc,pm,an,cdv,ct,osl,rfl,lk,jJ⟩:=F.ex;exact u9 (h kV doc pm an cdv ct)
theorem yp{K:Frag}{x:Str}{st:Stmt}{f:Addr}{fd:FuncData}{p q t u:Str}(F:oO K x x st f fd)(h:∀(kV doc pm:Value) (an:Option Addr) (cdv ct a b c d:Value),bindArgs (fnOf x x (aN st) (aK st) (au st) .none kV doc pm an cdv ct) ⟨[a,b,c,d],[]⟩=pure [(p,a),(q,b),(t,c),(u,d)]):Binds K fd [p,q,t,u] []:=by
 obtain⟨oc,od,kV,doc,pm,an,cdv,ct,osl,rfl,lk,jJ⟩:=F.ex;exact u_ (h kV doc pm an cdv ct)
theorem CQ{K:Frag}{x:Str}{st:Stmt}{f:Addr}{fd:FuncData}{p:Str}(F:oO K x x st f fd)(h:∀(kV doc pm:Value) (an:Option Addr) (cdv ct a:Value),bindArgs (fnOf x x (aN st) (aK st) (au st) .none kV doc pm an cdv ct) ⟨[a],[]⟩=pure [(p,a)]):∀(s:Shared) (u:Value),BindsTo s fd ⟨[u],[]⟩ [(p,u)]:=by
 obtain⟨oc,od,kV,doc,pm,an,cdv,ct,osl,rfl,lk,jJ⟩:=F.ex;exact λs u=>.of_eq (h kV doc pm an cdv ct u)
end Mi
namespace Mi
open PySem PySem.Spec PyProof.Rows L2
section
variable {K:W.Frag}{cA:Cl}{U U' Sh:Ph}{H H' Jo:Hp}{s:S}
end
section
variable {X:Cx}{cA:Cl}{aq:Nat->Nat->Bool}{aj:Bool}{F:Fn}{EX:XS}{elt iter tg iter₂ tg₂:Expr}{A B:E}{pos p:Pos}{ifs:List Expr}{scope:Scope}{N:List Str}{cond:Eo}{fr dH dH₂:List Nat}{many:Nat}{fz:Bool}{w w₂:Wk}
end
section
variable {X:Cx}{cA:Cl}{aq:Nat->Nat->Bool}{aj:Bool}{F:Bool->Fn}{EX:XS}{elt iter tg iter₂ tg₂:Expr}{A B:E}{pos p:Pos}{ifs:List Expr}{scope:Scope}{N:List Str}{cond:Eo}{fr dH dH₂:List Nat}{many:Nat}{fz:Bool}{w w₂:Wk}{i:Nat}{y:Str}
end
section
variable {X:Cx}{cA:Cl}{aq:Nat->Nat->Bool}{aj:Bool}{F:Fn}{EX:XS}{elt iter tg iter₂ tg₂:Expr}{A B:E}{pos p:Pos}{ifs:List Expr}{scope:Scope}{N:List Str}{cond:Eo}{fr dH dH₂:List Nat}{many:Nat}{fz:Bool}{w w₂:Wk}{i:Nat}{y:Str}
end
section
variable {K:W.Frag}{cA:Cl}{U:Ph}{H:Hp}
theorem aC.J7(r:aC K cA U H xs ys):∀l:List Nat,aC K cA U H (l.map λi=>xs.getD i .non) (l.map λi=>ys.getD i .non)
 |[]=>.nil
 |i::l=>by
  refine .cons ?_ (aC.J7 r l);show Rep K cA U H (xs.getD i .non) (ys.getD i .non);cases e:xs[i]? with
  |some x=>
   obtain⟨u,e1,e2⟩:=r.get e;rw[lZ,lZ,e,e1];exact e2
  |none=>
   have e1:ys[i]?=Option.none:=r.none e;rw[lZ,lZ,e,e1];exact .non
theorem aC.mem(r:aC K cA U H xs ys):∀v∈ys,∃d∈xs,Rep K cA U H d v:=by
 intro v hv;obtain⟨i,hi,e⟩:=yH hv;have e':ys[i]?=some v:=by rw[dj hi,e]
 cases ex:xs[i]? with
 |none=>rw[r.none ex] at e';cases e'
 |some d=>
  obtain⟨u,e1,e2⟩:=r.get ex;rw[e1] at e';cases e';exact⟨d,fZ ex,e2⟩
theorem zg6:∀{us ws:List D} {xs ys:List V},aC K cA U H us xs->aC K cA U H ws ys->∀{b:Bool},rQ us ws=some b->lq xs ys=some b
 |[],ws,_,ys,r1,r2,b,h=>by
  cases r1;unfold rQ at h;unfold lq;rw[<-r2.len];exact h
 |_::_,[],_,_,r1,r2,b,h=>by
  cases r2;cases r1;unfold rQ at h;unfold lq;exact h
 |x::us,y::ws,_,_,r1,r2,b,h=>by
  cases r1 with
  |cons a1 b1=>
   cases r2 with
   |cons a2 b2=>
    unfold rQ at h;split at h
    ·rename_i z;cases z
    ·rename_i z;cases z
    ·rename_i p ps q qs e1 e2;cases e1;cases e2;cases a1;cases a2;unfold lq;by_cases e:p=q
     ·rw[if_pos e] at h ⊢;exact zg6 b1 b2 h
     ·rw[if_neg e] at h ⊢;exact h
    ·cases h
theorem zhm(r:aC K cA U H xs ys)(h:(xs.all j9||xs.all je)=true):uE K H ys (zj xs):=by
 rw[Bool.or_eq_true] at h;rcases h with h|h
 ·left
  rw[iY] at h;refine⟨λv hv=>?_,λi j b e=>?_⟩
  ·obtain⟨d,hd,q⟩:=r.mem v hv;have:=h d hd;cases q<;>first|exact⟨_,rfl⟩|cases this
  ·unfold zj at e;cases e1:xs[i]? with
   |none=>rw[e1] at e;cases e
   |some d1=>
    cases e2:xs[j]? with
    |none=>rw[e1,e2] at e;cases d1<;>cases e
    |some d2=>
     have h1:=h d1 (fZ e1);have h2:=h d2 (fZ e2);rw[e1,e2] at e;obtain⟨v1,a1,b1⟩:=r.get e1;obtain⟨v2,a2,b2⟩:=r.get e2;cases d1<;>first|cases h1|skip
     cases d2<;>first|cases h2|skip
     cases b1;cases b2;cases e;exact⟨_,_,a1,a2,rfl⟩
 ·right
  rw[iY] at h;refine⟨λv hv=>?_,λi j b e=>?_⟩
  ·obtain⟨d,hd,q⟩:=r.mem v hv;have:=h d hd;unfold je at this;split at this
   ·cases q with
    |tup t r'=>
     cases r' with
     |cons a1 b1=>
      cases a1;exact⟨_,_,_,rfl,t.jm⟩
   ·cases this
  ·unfold zj at e;cases e1:xs[i]? with
   |none=>rw[e1] at e;cases e
   |some d1=>
    cases e2:xs[j]? with
    |none=>rw[e1,e2] at e;cases d1<;>cases e
    |some d2=>
     have h1:=h d1 (fZ e1);have h2:=h d2 (fZ e2);rw[e1,e2] at e;obtain⟨v1,a1,b1⟩:=r.get e1;obtain⟨v2,a2,b2⟩:=r.get e2;unfold je at h1 h2;split at h1
     ·split at h2
      ·cases b1 with
       |tup t1 r1=>
        cases b2 with
        |tup t2 r2=>exact⟨_,_,_,_,a1,a2,t1.jm,t2.jm,zg6 r1 r2 e⟩
      ·cases h2
     ·cases h1
theorem zgu:bC K cA .sorted (λxs H Q=>∃l ys lt p,xs=[.ref l]/\cO K H l ys/\ys.length<64/\(2<=ys.length->uE K H ys lt/\bU lt (PySem.W.kas_sort ys.length)=some p/\p.size=ys.length)/\∀r,H r=none->Q (.ref r) (upd H r (.lst (lu ys p)))):=by
 intro U H ds vs Q zt rs o;have o:bD K cA U H (mZ ds) Q:=o;unfold mZ at o;split at o
 ·rename_i xs _;obtain⟨v,rfl,r1⟩:=rs.one;obtain⟨z,e⟩:=o.some';obtain⟨zs,e1,e2⟩:=kE.mp e;subst e2;obtain⟨a,us,rfl,sq,q⟩ : ∃a us,v=.ref a/\cO K H a us/\aC K cA U H xs us:=r1;have hl:=q.len;unfold zm at e1;by_cases hk:(xs.all j9||xs.all je)=true
  ·rw[if_pos hk] at e1;unfold q_ at e1;by_cases h2:xs.length<2
   ·rw[if_pos h2] at e1;cases e1;refine⟨a,us,λ_ _=>none,#[],rfl,sq,by lia,λz=>absurd z (by lia),λr hr=>?_⟩;have:lu us #[]=us:=by unfold lu;rw[if_pos (by lia)]
    rw[this];exact(o.of e) r us hr q
   ·rw[if_neg h2] at e1;by_cases uD:xs.length<64
    ·rw[if_pos uD] at e1;cases ek:bU (zj xs) (PySem.W.kas_sort xs.length) with
     |none=>rw[ek] at e1;cases e1
     |some p=>
      rw[ek] at e1;dsimp only at e1;by_cases hp:p.size=xs.length
      ·rw[if_pos hp] at e1;cases e1;refine⟨a,us,zj xs,p,rfl,sq,by lia,λ_=>⟨zhm q hk,by rw[<-hl];exact ek,by lia⟩,λr hr=>?_⟩;have:lu us p=p.toList.map λi=>us.getD i .non:=by unfold lu;rw[if_neg (by lia)]
       rw[this];exact(o.of e) r _ hr (q.J7 p.toList)
      ·rw[if_neg hp] at e1;cases e1
    ·rw[if_neg uD] at e1;cases e1
  ·rw[if_neg hk] at e1;cases e1
 ·exact o.elim
end
section
variable {X:Cx}{cA:Cl}{aq:Nat->Nat->Bool}{aj:Bool}{F:Fn}{EX:XS}{e:Expr}{pos p:Pos}{es:List Expr}{Xs:Es}{fz:Bool}
theorem zdz:bootBuiltins "sorted"=some (.builtin "sorted"):=by decide +kernel
theorem zh8(hm:X.mg "sorted"=none)(hg:JK X "sorted" .globalImplicit)(ha:JA X cA aq aj F EX (e::es) Xs)(he:aD e=true:=by rfl)(hpl:es.all aD=true:=by rfl):JE X cA aq aj F EX (.Call (.Name "sorted" p) (e::es) [] pos) (.pr fz .sorted Xs):=⟨zE zdy zgu hg.o hm zdz ha.o (by decide) (by decide) (bx he) (aV hpl)⟩
end
section
variable {K:W.Frag}{cA:Cl}{U:Ph}{H:Hp}
theorem Nt:∀{xs:List D} {k i:Nat},(enumFrom k xs)[i]?=(xs[i]?).map λd=>.tup [.int ((k+i:Nat):Int),d]
 |[],k,i=>by simp[enumFrom]
 |x::r,k,0=>by simp[enumFrom]
 |x::r,k,i+1=>by
  unfold enumFrom;rw[Dk,Dk,Nt]
  congr 1
  funext d
  rw[show k+1+i=k+(i+1) by lia]
noncomputable def sE(K:W.Frag)(U:Ph)(H:Hp):Bool->Addr->List V->Prop
 |true,a,vs=>LstAt K U H a vs
 |false,a,vs=>TupAt K U H a vs
theorem sE.sk{kd:Bool}{a:Addr}{vs:List V}(h:sE K U H kd a vs):Sk kd K H a vs:=by
 cases kd
 ·exact TupAt.jm h
 ·exact LstAt.tH h
theorem sE.later{U':Ph}{H₁ H':Hp}{kd:Bool}{a:Addr}{vs:List V}(hz:∀a∈U.l,U.z a)(h:sE K U H kd a vs)(x:Ext U H U' H₁)(o:dD U' H₁ H'):sE K U' H' kd a vs:=by
 cases kd
 ·exact TupAt.later hz h x o
 ·exact LstAt.later hz h x o
theorem jN.enum{kd:Bool}{l:Addr}{xs:List D}{vs:List V}(hz:∀a∈U.l,U.z a)(h:sE K U H kd l vs)(r:aC K cA U H xs vs):jN K cA (.fix (enumFrom 0 xs)) U H (Ite K kd l):=by
 refine⟨λU' H₁ H' s' i x o hS e=>⟨vs,(h.later hz x o).sk,?_⟩,λU' H₁ H' s' i d x o hS e=>?_,λU' H₁ H' s' i d v H2 x o hS e y=>?_⟩
 ·have e:(enumFrom 0 xs)[i]?=none:=cJ e;rw[Nt,Option.map_eq_none_iff] at e;exact pG.mp ((r.mono x hz).none e)
 ·have e:(enumFrom 0 xs)[i]?=some d:=cJ e;rw[Nt] at e;obtain⟨d',e',_⟩:=kE.mp e;obtain⟨v,q,_⟩:=r.get e';exact⟨vs,v,(h.later hz x o).sk,q⟩
 ·have e:(enumFrom 0 xs)[i]?=some d:=cJ e;rw[Nt] at e;obtain⟨d',e',rfl⟩:=kE.mp e;obtain⟨a,u,hn,rfl,rfl,hu⟩:=y;obtain⟨w,q,lg⟩:=((r.mono x hz).out o).get e';have:=hu vs (h.later hz x o).sk;rw[q] at this;cases this;have g:aY H' (upd H' a (.tup [.int i,u])):=aY.new hn;refine⟨g,?_⟩;rw[show ((0+i:Nat):Int)=(i:Int) by simp];exact .tup (.inl ⟨.inl iV,hS.nz hn⟩) (.cons (.int _) (.cons (lg.mono g.ext hS.lz) .nil))
theorem TV(h:(Src.lM n).at i s=some o):∃xs,s[n]?=some (.lst xs)/\(xs[i]?.map λx=>D.tup [.int i,x])=o:=by
 unfold Src.at at h;dsimp only at h;cases e:s[n]? with
 |none=>rw[e] at h;cases h
 |some ob=>
  rw[e] at h;cases ob with
  |lst xs=>exact⟨xs,rfl,cJ h⟩
  |_=>cases h
theorem jN.lM{a:Addr}{n:Nat}(h:U.l[n]?=some a):jN K cA (.lM n) U H (Ite K true a):=by
 refine⟨λU' H₁ H' s' i x o hS e=>?_,λU' H₁ H' s' i d x o hS e=>?_,λU' H₁ H' s' i d v H2 x o hS e y=>?_⟩
 ·obtain⟨xs,e1,e2⟩:=TV e;rw[Option.map_eq_none_iff] at e2;obtain⟨vs,q1,q2⟩:=hS.obj n _ a e1 (x.get h);exact⟨vs,cO.of q1,pG.mp (q2.none e2)⟩
 ·obtain⟨xs,e1,e2⟩:=TV e;obtain⟨d',e',_⟩:=kE.mp e2;obtain⟨vs,q1,q2⟩:=hS.obj n _ a e1 (x.get h);obtain⟨v,q3,_⟩:=q2.get e';exact⟨vs,v,cO.of q1,q3⟩
 ·obtain⟨xs,e1,e2⟩:=TV e;obtain⟨d',e',rfl⟩:=kE.mp e2;obtain⟨vs,q1,q2⟩:=hS.obj n _ a e1 (x.get h);obtain⟨w,q3,lg⟩:=q2.get e';obtain⟨b,u,hn,rfl,rfl,hu⟩:=y;have:=hu vs (cO.of q1);rw[q3] at this;cases this;have g:aY H' (upd H' b (.tup [.int i,w])):=aY.new hn;exact⟨g,.tup (.inl ⟨.inl iV,hS.nz hn⟩) (.cons (.int _) (.cons (lg.mono g.ext hS.lz) .nil))⟩
end
section
variable {X:Cx}{cA:Cl}{aq:Nat->Nat->Bool}{aj:Bool}{F:Fn}{EX:XS}{a b:Expr}{A B:E}{pos pp tpos:Pos}{elts:List Expr}{kk:Nat}
theorem zkP(ql:Gl X "enumerate")(hmg:X.mg "enumerate"=none)(hb:SE X cA aq aj F EX b B)(h2:starEach [b] X.env=(false,eval b X.env)::starEach [] X.env) :
  SI X cA aq aj F EX (.Tuple elts kk tpos) (.Call (.Name "enumerate" pp) [b] [] pos) (.enum B):=PI.weak (zkJ ql hmg (v8 hb Bs h2) (by rw[h2];rfl)) λZ H R hh=>un hh λU J s hL hS h=>by
 refine bB hL hS h λy H2 U2 d2 s2 x2 hL2 aX r2 h2=>?_;cases r2 with
 |@l n ad hl=>
  unfold Run oJ at h2;dsimp only at h2;cases e:s2[n]? with
  |none=>rw[e] at h2;exact h2.elim
  |some o=>
   rw[e] at h2;cases o with
   |lst xs=>
    obtain⟨vs,q1,q2⟩:=aX.obj n _ _ e hl;exact⟨true,_,_,rfl,cO.of q1,h2 U2 H2 Ext.refl aX _ (jN.lM hl)⟩
   |_=>exact h2.elim
 |d r2=>
  cases r2 with
  |fl q r=>exact⟨true,_,_,rfl,q.tH,h2 U2 H2 Ext.refl aX _ (jN.enum (kd:=true) aX.lz q r)⟩
  |tup q r=>exact⟨false,_,_,rfl,q.jm,h2 U2 H2 Ext.refl aX _ (jN.enum (kd:=false) aX.lz q r)⟩
  |_=>exact h2.elim
theorem zf8:∀(ns:List Str) (vs:List V),((ns.zip vs).map (·.1)).Sublist ns
 |[],vs=>by simp
 |n::ns,[]=>by simp
 |n::ns,v::vs=>by
  rw[Ae,iU];exact(zf8 ns vs).cons₂ n
theorem ze8:∀{ns:List Str} {vs:List V} {i:Nat} {x:Str} {v:V},ns.Nodup->ns[i]?=some x->vs[i]?=some v->(ns.zip vs).lookup x=some v
 |ns,vs,i,x,v,hn,h1,h2=>by
  refine RK ?_ (Yr h1 h2);exact List.Sublist.nodup (zf8 ns vs) hn
end
section
variable {X:Cx}{cA:Cl}{aq:Nat->Nat->Bool}{aj:Bool}{F:Bool->Fn}{EX:XS}{e:Expr}{es:List Expr}{Xs:Es}{pos p:Pos}{x:Str}
theorem zfT{k cc:Nat}{ar:Arguments}{bd:List Stmt}{sc:Scope}{apos:Pos}(hr:bA k X.A)(hc:X.aj=true)(cI:aj=true)(IO:jZ X.K (cA.a cc) ar bd sc (cA.f cc))(hl:Es.len Xs=(cA.f cc).length)(hg:Gl X x)(hm:X.mg x=some (.ref (cA.a cc)))
  (R:Raises X EX) (ha:SA X cA aq aj (F aj) EX (e::es) Xs) (hz:Es.len Xs<=sizeLine) (jx:(x==("__debug__" : Str))=false:=by decide) (he:starEach (e::es) X.env=(false,eval e X.env)::starEach es X.env:=by rfl) (hpl:(backTo apos (starEach es X.env)).any (·.1)=false:=by rfl) :
  SS X cA aq aj F EX (.Raise (some (.Call (.Name x p) (e::es) [] apos)) none pos) (.rise cc true Xs):=PS.weak (zgO hr hc IO hg hm R ha jx he hpl) λD Z H hh=>un hh λU J s hL hS h=>by
 have h:aO X.K cA (if aj=true then ofM (M.bd (evs aq aj (F aj) Xs J) bM) J (λds s=>some (.er cc (if true=true then ds else []) J,s)) else λ_=>none) U H s D EX:=h;rw[if_pos cI] at h;refine xQ hL hS (aO.ofM hL hS.lz h) λvs H1 U1 xs s1 TX x1 hL1 aH rv h1=>?_;have h1:Run X.K cA (M.bd (bM xs) M.ret) U1 H1 s1 (λa s1 U1 H1=>Ext U H U1 H1/\aF X.K cA U1 H1 s1/\aO X.K cA (λs=>some (.er cc (if true=true then a else []) J,s)) U1 H1 s1 D EX) (eX X.K cA EX Z):=by
  unfold Run at h1 ⊢;unfold M.bd;cases e1:bM xs s1 with
  |none=>rw[e1] at h1;exact h1
  |some r=>
   obtain⟨r,s2⟩:=r;rw[e1] at h1;cases r with
   |er c f=>exact h1
   |ok ds=>exact h1
 obtain⟨ds,e1,rs,h2⟩:=Js rv h1;obtain⟨_,_,h3⟩:=h2.bG aH;have hvl:vs.length=(cA.f cc).length:=by rw[<-rv.len,TX];exact hl
 refine⟨hvl,by rw[<-rv.len,TX];exact hz,λd hd=>?_⟩;have g:aY H1 (upd H1 d (.xd ((cA.f cc).zip vs))):=aY.new hd;exact h3 U1 _ Z g.ext (aH.grow g) (hL1.mono g.ext aH.lz) (some d) (.inr ⟨d,vs,rfl,aH.nz hd,iV,hvl.symm,rs.mono g.ext aH.lz⟩)
theorem zhb{k cc:Nat}{kk:NameKind}{ar:Arguments}{bd:List Stmt}{sc:Scope}{apos:Pos}(hr:bA k X.A)(hc:X.aj=true)(cI:aj=true)(IO:jZ X.K (cA.a cc) ar bd sc (cA.f cc))(hm:X.mg x=some (.ref (cA.a cc)))(hg:JK X x .globalImplicit)
  (R:JR X EX) (ha:JA X cA aq aj (F aj) EX (e::es) Xs) (hd:okN x=true) (hl:decide (Es.len Xs=(cA.f cc).length)=true:=by rfl) (hz:decide (Es.len Xs<=sizeLine)=true:=by rfl) (he:aD e=true:=by rfl) (hpl:es.all aD=true:=by rfl) :
  JS X cA aq aj F EX (.Raise (some (.Call (.Name x p) (e::es) [] apos)) none pos) (.rise cc true Xs):=⟨zfT hr hc cI IO (ji hl) hg.o hm R.o ha.o (ji hz) (qm hd).1 (bx he) (aV hpl)⟩
end
section
variable {X:Cx}{cA:Cl}{aq:Nat->Nat->Bool}{aj:Bool}{F:Fn}{EX:XS}{a b:Expr}{A B:E}{pos p tpos:Pos}{elts:List Expr}{kk:Nat}
theorem ziU(hmg:X.mg "enumerate"=none)(ql:JK X "enumerate" .globalImplicit)(hb:JE X cA aq aj F EX b B)(h2:aD b=true:=by rfl):JI X cA aq aj F EX (.Tuple elts kk tpos) (.Call (.Name "enumerate" p) [b] [] pos) (.enum B):=⟨zkP ql.o hmg hb.o (bx h2)⟩
end
end Mi
namespace Mi
open PySem PySem.Spec PyProof.Rows L2 PySem.W
theorem zkI{fd:FuncData}{q:Str}{st:Stmt}(h:nR fd=Ax q st):fd=fnOf "__init__" q (aN st) (aK st) (au st) .none fd.kwdefaults fd.doc fd.pyModule fd.annotations fd.code fd.closureTuple:=by
 cases fd;unfold nR Ax at h;cases h;rfl
structure CT(K:Frag)(C:Addr)(q:Str)(st:Stmt):Prop where
 ex:∃(fI:Addr) (od:Option Addr) (kV doc pm:Value) (an:Option Addr) (cdv ct:Value) (osl:Array (Option Value)) (cd:ClassData),
  K.lookup fI=some ⟨.type "function",od,.func (fnOf "__init__" q (aN st) (aK st) (au st) .none kV doc pm an cdv ct),osl⟩/\codeIn K cdv q=true/\jQ K C fI=true/\clsIn K C=some cd/\bF cd.mro=true/\cd.hasDict=true
theorem znp{K:Frag}{C:Addr}{q:Str}{st:Stmt}(h:(Gw K C).map nR=some (Ax q st)):CT K C q st:=by
 cases e:Gw K C with
 |none=>rw[e] at h;cases h
 |some fd=>
  rw[e] at h;have hp:nR fd=Ax q st:=cJ h;unfold Gw at e;split at e
  ·rename_i cd jJ;split at e
   ·rename_i f hf;split at e
    ·rename_i od fd' sl hl;split at e
     ·rename_i hc;cases e;simp only[eY] at hc;obtain⟨⟨⟨c1,c2⟩,c3⟩,c4⟩:=hc;have eq:=zkI hp;have qn:fd.qualname=q:=by rw[eq]
      refine⟨⟨f,od,fd.kwdefaults,fd.doc,fd.pyModule,fd.annotations,fd.code,fd.closureTuple,sl,cd,?_,by rw[<-qn];exact c1,c2,jJ,c3,c4⟩⟩;rw[<-eq];exact hl
     ·cases e
    ·cases e
   ·cases e
  ·cases e
structure vp(q:Str)(st:Stmt)(fs:List Str):Prop where
 bind:∀(kV doc pm:Value) (an:Option Addr) (cdv ct:Value) (us:List Value),us.length=fs.length+1->bindArgs (fnOf "__init__" q (aN st) (aK st) (au st) .none kV doc pm an cdv ct) ⟨us,[]⟩=pure (((("self" : Str))::fs).zip us)
 nd:(("self" : Str)::fs).Nodup
 ne:fs≠[]
 few:fs.length<=900
 body:iz "self" (aK st) fs=true
 pW:∀x∈(au st).names,x.2≠.cell
 loc:∀f∈(("self" : Str)::fs),(au st).names.lookup f=some .local/\(f==("__debug__" : Str))=false
 co:(au st).isCoroutine=false
 gen:(au st).isGenerator=false
 kind:(au st).kind=.function
noncomputable def scB(sc:Scope)(fs:List Str):Bool:=sc.names.all (λx=>match x.2 with|.cell=>false|_=>true)&&(("self" : Str)::fs).all (λf=>(match sc.names.lookup f with|some .local=>true|_=>false) && !(f==("__debug__" : Str)))
theorem vp.of{q:Str}{st:Stmt}{fs:List Str}(bind:∀(kV doc pm:Value) (an:Option Addr) (cdv ct:Value) (us:List Value),us.length=fs.length+1->bindArgs (fnOf "__init__" q (aN st) (aK st) (au st) .none kV doc pm an cdv ct) ⟨us,[]⟩=pure (((("self" : Str))::fs).zip us))(nd:(("self" : Str)::fs).Nodup)(ne:fs≠[])(few:fs.length<=900)(body:iz "self" (aK st) fs=true)
  (sc:scB (au st) fs=true) (co:(au st).isCoroutine=false) (gen:(au st).isGenerator=false) (kind:(au st).kind=.function):vp q st fs:=by
 unfold scB at sc;rw[eY,iY,iY] at sc;refine⟨bind,nd,ne,few,body,λx hx z=>?_,λf hf=>?_,co,gen,kind⟩
 ·have:=sc.1 x hx;rw[z] at this;cases this
 ·have:=sc.2 f hf;rw[eY,K8] at this;refine⟨?_,this.2⟩;have h1:=this.1;split at h1
  ·assumption
  ·cases h1
theorem zkL{K:Frag}{C:Addr}{q:Str}{st:Stmt}{fs:List Str}(a:CT K C q st)(t:vp q st fs)(s:setB K C fs=true):jZ K C (aN st) (aK st) (au st) fs:=by
 obtain⟨fI,od,kV,doc,pm,an,cdv,ct,osl,cd,h1,h2,h3,h4,h5,h6⟩:=a.ex;unfold setB at s;rw[eY,fL,iY] at s;exact⟨⟨fI,od,kV,doc,pm,an,cdv,ct,osl,q,cd,h1,h2,h3,h4,h5,h6,λus hl=>t.bind kV doc pm an cdv ct us hl⟩,s.1,t.nd,t.ne,t.few,t.body,t.pW,t.loc,λf hf=>fL.mp (s.2 f hf),t.co,t.gen,t.kind⟩
theorem zos{K:Frag}{C:Addr}{f:Str}(h:Lr K C f=true):XF K C f:=by
 unfold Lr at h;simp only[eY,fL] at h;obtain⟨⟨⟨⟨h1,h2⟩,h3⟩,h4⟩,h5⟩:=h;exact⟨h1,h2,h3,h4,h5⟩
structure oV(fs:List (Str×Stmt))(ms:List tZ)(xs:List (Nat×Str))(l:Lk)(K:Frag):Prop where
 fn:∀p∈fs,FnAt K p.1 p.2
 gd:zU l K
 mi:∀m∈ms,CT K (dY (l.L K) m.c) m.q m.st
 se:∀m∈ms,setB K (dY (l.L K) m.c) m.fs=true
 xf:∀x∈xs,XF K (dY (l.L K) x.1) x.2
theorem TY{a:Nat}{o:Obj}:∀{l:List Obj} {i:Nat},((a:Addr),o)∈Gx i l->i<=a/\l[a-i]?=some o/\o.isFreed=false
 |[],i,h=>by cases h
 |p::r,i,h=>by
  unfold Gx at h;split at h
  ·obtain⟨h1,h2,h3⟩:=TY h;refine⟨by lia,?_,h3⟩;rw[show a-i=(a-(i+1))+1 by lia];exact h2
  ·rename_i hf;rcases gY.mp h with e|h
   ·cases e;exact⟨bO _,by simp,hf⟩
   ·obtain⟨h1,h2,h3⟩:=TY h;refine⟨by lia,?_,h3⟩;rw[show a-i=(a-(i+1))+1 by lia];exact h2
theorem zch:∀{K:Frag},K.lookup a=some o->(a,o)∈K
 |[],h=>by cases h
 |(b,p)::r,h=>by
  rw[mj] at h;by_cases e:a=b
  ·subst e;simp only[Dw] at h;cases h;exact jF
  ·rw[show (a==b)=false by simpa using e] at h;exact gb _ (zch h)
theorem zht:(bQ h).In h:=λa o e=>by
 have hm:=zch e;unfold bQ at hm;rcases iR.mp hm with z|z
 ·unfold qM at z;split at z
  ·rename_i p hp;rcases gY.mp z with e|z
   ·cases e;exact hp
   ·cases z
  ·cases z
 ·obtain⟨_,h2,h3⟩:=TY (List.mem_reverse.mp z);rw[Heap.get?_some_iff];refine⟨?_,h3⟩;have:h.objs.toList[a]?=some o:=by simpa using h2
  simpa using this
theorem bind1{f:List Value->Sem (List (Str×Value))}{a b:Str}(h:∀x y,f [x,y]=pure [(a,x),(b,y)])(us:List Value)(hl:us.length=[b].length+1):f us=pure ([a,b].zip us):=by
 cases us with
 |nil=>cases hl
 |cons x t=>
  cases t with
  |nil=>cases hl
  |cons y t=>
   cases t with
   |nil=>exact h x y
   |cons z t=>cases hl
end Mi
namespace Mi
open PySem PySem.Spec PyProof.Rows L2
section
variable {K:W.Frag}{cA:Cl}{U:Ph}{H:Hp}
noncomputable def jq(K:W.Frag)(U:Ph)(H:Hp):Bool->Addr->List V->Prop
 |true,a,vs=>LstAt K U H a vs
 |false,a,vs=>TupAt K U H a vs
theorem jq.sk{kd:Bool}{a:Addr}{vs:List V}(h:jq K U H kd a vs):Sk kd K H a vs:=by
 cases kd
 ·exact TupAt.jm h
 ·exact LstAt.tH h
theorem jq.later{kd:Bool}{a:Addr}{vs:List V}{U':Ph}{H₁ H':Hp}(hz:∀a∈U.l,U.z a)(h:jq K U H kd a vs)(x:Ext U H U' H₁)(o:dD U' H₁ H'):jq K U' H' kd a vs:=by
 cases kd
 ·exact TupAt.later hz h x o
 ·exact LstAt.later hz h x o
theorem T3{xs ys:List D}{i:Nat}:(List.zipWith (λp q=>D.tup [p,q]) xs ys)[i]?=match xs[i]?,ys[i]? with
  |some p,some q=>some (.tup [p,q])
  |_,_=>none:=by
 rw[List.getElem?_zipWith];cases xs[i]?<;>cases ys[i]?<;>rfl
theorem jN.zip{k1 k2:Bool}{l1 l2:Addr}{xs ys:List D}{us vs:List V}(hz:∀a∈U.l,U.z a)(h1:jq K U H k1 l1 us)(h2:jq K U H k2 l2 vs)(r1:aC K cA U H xs us)(r2:aC K cA U H ys vs):jN K cA (.fix (List.zipWith (λp q=>D.tup [p,q]) xs ys)) U H (RV K k1 k2 l1 l2):=by
 refine⟨λU' H₁ H' s' i x o hS e=>?_,λU' H₁ H' s' i d x o hS e=>?_,λU' H₁ H' s' i d v H2 x o hS e y=>?_⟩
 ·have e:(List.zipWith (λp q=>D.tup [p,q]) xs ys)[i]?=none:=cJ e;rw[T3] at e;refine⟨us,vs,(h1.later hz x o).sk,(h2.later hz x o).sk,?_⟩;cases ex:xs[i]? with
  |none=>exact .inl (pG.mp (r1.none ex))
  |some p=>
   cases ey:ys[i]? with
   |none=>exact .inr (pG.mp (r2.none ey))
   |some q=>rw[ex,ey] at e;cases e
 ·have e:(List.zipWith (λp q=>D.tup [p,q]) xs ys)[i]?=some d:=cJ e;rw[T3] at e;cases ex:xs[i]? with
  |none=>rw[ex] at e;cases e
  |some p=>
   cases ey:ys[i]? with
   |none=>rw[ex,ey] at e;cases e
   |some q=>
    obtain⟨u,q1,_⟩:=r1.get ex;obtain⟨v,q2,_⟩:=r2.get ey;exact⟨us,vs,u,v,(h1.later hz x o).sk,(h2.later hz x o).sk,q1,q2⟩
 ·have e:(List.zipWith (λp q=>D.tup [p,q]) xs ys)[i]?=some d:=cJ e;rw[T3] at e;cases ex:xs[i]? with
  |none=>rw[ex] at e;cases e
  |some p=>
   cases ey:ys[i]? with
   |none=>rw[ex,ey] at e;cases e
   |some q=>
    rw[ex,ey] at e;cases e;obtain⟨a,u,w,hn,rfl,rfl,hu,hw⟩:=y;obtain⟨u',q1,ru⟩:=((r1.mono x hz).out o).get ex;obtain⟨w',q2,lg⟩:=((r2.mono x hz).out o).get ey;have e1:=hu us (h1.later hz x o).sk;have e2:=hw vs (h2.later hz x o).sk;rw[q1] at e1;rw[q2] at e2;cases e1;cases e2;have g:aY H' (upd H' a (.tup [u,w])):=aY.new hn;exact⟨g,.tup (.inl ⟨.inl iV,hS.nz hn⟩) (.cons (ru.mono g.ext hS.lz) (.cons (lg.mono g.ext hS.lz) .nil))⟩
theorem zev(r:bw K cA U H x v)(h:Run K cA (M.bd (qe x) k) U H s P Ee) :
  ∃xs kd a vs,v=.ref a/\jq K U H kd a vs/\aC K cA U H xs vs/\Run K cA (k xs) U H s P Ee:=by
 cases r with
 |l _=>exact h.elim
 |d r=>
  cases r with
  |tup q r=>exact⟨_,false,_,_,rfl,q,r,h⟩
  |fl q r=>exact⟨_,true,_,_,rfl,q,r,h⟩
  |_=>exact h.elim
end
section
variable {X:Cx}{cA:Cl}{aq:Nat->Nat->Bool}{aj:Bool}{F:Fn}{EX:XS}{a b:Expr}{A B:E}{pos pp tpos:Pos}{elts:List Expr}{kk:Nat}
theorem zlB(ql:Gl X "zip")(hmg:X.mg "zip"=none)(ha:SE X cA aq aj F EX a A)(hb:SE X cA aq aj F EX b B)(h1:starEach [a,b] X.env=(false,eval a X.env)::starEach [b] X.env)(h2:starEach [b] X.env=(false,eval b X.env)::starEach [] X.env) :
  SI X cA aq aj F EX (.Tuple elts kk tpos) (.Call (.Name "zip" pp) [a,b] [] pos) (.zip A B):=PI.weak (zkU ql hmg (v8 ha (v8 hb Bs h2) h1) (by rw[h1,h2];rfl) (by rw[h2];rfl)) λZ H R hh=>un hh λU J s hL hS h=>by
 refine bB hL hS h λx H1 U1 d1 s1 x1 hL1 aH r1 h1=>bB hL1 aH h1 λy H2 U2 d2 s2 x2 hL2 aX r2 h2=>?_;obtain⟨xs,k1,l1,us,e1,q1,p1,h3⟩:=zev (r1.mono x2 aH.lz) h2;obtain⟨ys,k2,l2,vs,e2,q2,p2,h4⟩:=zev r2 h3;subst e1 e2;exact⟨k1,k2,l1,l2,us,vs,rfl,q1.sk,q2.sk,(h4.bG aX) _ (jN.zip aX.lz q1 q2 p1 p2)⟩
theorem zox(hmg:X.mg "zip"=none)(ql:JK X "zip" .globalImplicit)(ha:JE X cA aq aj F EX a A)(hb:JE X cA aq aj F EX b B)(h1:aD a=true:=by rfl)(h2:aD b=true:=by rfl):JI X cA aq aj F EX (.Tuple elts kk tpos) (.Call (.Name "zip" p) [a,b] [] pos) (.zip A B):=⟨zlB ql.o hmg ha.o hb.o (bx h1) (bx h2)⟩
end
section
variable {K:W.Frag}{cA:Cl}{U:Ph}{H:Hp}
end
section
variable {X:Cx}
end
section
variable {X:Cx}{cA:Cl}{aq:Nat->Nat->Bool}{aj:Bool}{F:Fn}{EX:XS}{e:Expr}{pos p:Pos}{es:List Expr}{Xs:Es}{fz:Bool}
end
noncomputable def Fp(i:Int)(n:Nat):List V:=(List.range n).map λk=>.int (i+(k:Nat))
theorem zku{i:Int}{acc:Array Value}:∀{n m:Nat},(∀k v,acc.toList[k]?=some (v:Value)->∃t,v=Value.int (i+((m+k:Nat):Int)) t)->acc.toList.length=n->Vals ((List.range n).map λk=>V.int (i+((m+k:Nat):Int))) acc.toList:=by
 generalize acc.toList=l
 induction l with
 |nil=>intro n m _ e;subst e;exact .nil
 |cons v l ih=>
  intro n m h e;subst e;rw[fK,Pg,iU,Am];refine .cons (h 0 v rfl) ?_;have:=ih (n:=l.length) (m:=m+1) (λk v e=>by
   have:=h (k+1) v e;rw[show m+1+k=m+(k+1) by lia];exact this) rfl
  have e:((λk=>V.int (i+((m+k:Nat):Int)))∘Nat.succ)=λk=>V.int (i+((m+1+k:Nat):Int)):=by
   funext k
   show V.int (i+((m+(k+1):Nat):Int))=_;rw[show m+(k+1)=m+1+k by lia]
  rw[e];exact this
section
variable {X:Cx}
end
section
variable {K:W.Frag}{cA:Cl}{U:Ph}{H:Hp}
theorem zgd:∀l:List Nat,aC K cA U H (l.map λk=>D.int (i+(k:Nat))) (l.map λk=>V.int (i+(k:Nat)))
 |[]=>.nil
 |_::l=>.cons (.int _) (zgd l)
end
section
variable {X:Cx}{cA:Cl}{aq:Nat->Nat->Bool}{aj:Bool}{F:Fn}{EX:XS}{e:Expr}{pos pos' p p':Pos}{es:List Expr}{Xs:Es}{fz:Bool}
end
end Mi
namespace Mi
open PySem PySem.Spec PyProof.Rows L2 PySem.W
structure D3(K:Frag)(mg:Str->Option Value)(x:Str)(st:Stmt)(ps:List Str):Prop where
 f:oO K x x st (iI K x) (fdOf K x st)
 m:mg x=some (.ref (iI K x))
 b:Binds K (fdOf K x st) ps []
theorem dk{p:Prop}(h:p:=by decide +kernel):p:=h
section
variable {fs:List (Str×Stmt)}{ms:List tZ}{xs:List (Nat×Str)}{lk:Lk}{K:Frag}{h:Heap}{mg:Str->Option Value}{x:Str}{st:Stmt}
theorem sG(S:oV fs ms xs lk K)(X:K.In h)(G:h.Ns mainGlobals mg)(j:Nat)(hj:fs[j]?=some (x,st):=by rfl)(hb:∀(kV doc pm:Value) (an:Option Addr) (cdv ct a:Value),bindArgs (fnOf x x (aN st) (aK st) (au st) .none kV doc pm an cdv ct) ⟨[a],[]⟩=pure [(p,a)]:=by intros;rfl):D3 K mg x st [p]:=have F:=S.fn (x,st) (fZ hj);⟨F.fn,F.m X G,yg F.fn hb⟩
theorem tQ(S:oV fs ms xs lk K)(X:K.In h)(G:h.Ns mainGlobals mg)(j:Nat)(hj:fs[j]?=some (x,st):=by rfl)(hb:∀(kV doc pm:Value) (an:Option Addr) (cdv ct a b:Value),bindArgs (fnOf x x (aN st) (aK st) (au st) .none kV doc pm an cdv ct) ⟨[a,b],[]⟩=pure [(p,a),(q,b)]:=by intros;rfl):D3 K mg x st [p,q]:=have F:=S.fn (x,st) (fZ hj);⟨F.fn,F.m X G,yh F.fn hb⟩
theorem sH(S:oV fs ms xs lk K)(X:K.In h)(G:h.Ns mainGlobals mg)(j:Nat)(hj:fs[j]?=some (x,st):=by rfl)(hb:∀(kV doc pm:Value) (an:Option Addr) (cdv ct a b c:Value),bindArgs (fnOf x x (aN st) (aK st) (au st) .none kV doc pm an cdv ct) ⟨[a,b,c],[]⟩=pure [(p,a),(q,b),(t,c)]:=by intros;rfl):D3 K mg x st [p,q,t]:=have F:=S.fn (x,st) (fZ hj);⟨F.fn,F.m X G,yj F.fn hb⟩
theorem zpi(S:oV fs ms xs lk K)(X:K.In h)(G:h.Ns mainGlobals mg)(j:Nat)(hj:fs[j]?=some (x,st):=by rfl)(hb:∀(kV doc pm:Value) (an:Option Addr) (cdv ct a b c d:Value),bindArgs (fnOf x x (aN st) (aK st) (au st) .none kV doc pm an cdv ct) ⟨[a,b,c,d],[]⟩=pure [(p,a),(q,b),(t,c),(u,d)]:=by intros;rfl):D3 K mg x st [p,q,t,u]:=have F:=S.fn (x,st) (fZ hj);⟨F.fn,F.m X G,yp F.fn hb⟩
theorem mG{α:Type}{l:List α}{a:α}(j:Nat)(h:l[j]?=some a:=by rfl):a∈l:=fZ h
end
end Mi
namespace Mi
open PySem PySem.Spec PyProof.Rows L2
section
variable {X:Cx}{cA:Cl}
end
section
variable {X:Cx}{cA:Cl}{aq:Nat->Nat->Bool}{aj:Bool}{F:Fn}{EX:XS}{e:Expr}{pos p:Pos}{es:List Expr}{Xs:Es}{fz:Bool}
end
end Mi
namespace Mi
open PySem
def W{α:Type}(m:M α)(s:S)(P:α->S->Prop):Prop:=∃a s',m s=some (.ok a,s')/\P a s'
def WS(m:MS)(s:S)(Q:Out->S->Prop):Prop:=∃o s',m s=some (o,s')/\Q o s'
section
variable {α β:Type}{m:M α}{k:α->M β}{s:S}{P:α->S->Prop}{R:β->S->Prop}
theorem W.bd(h:W m s λa s'=>W (k a) s' R):W (M.bd m k) s R:=by
 obtain⟨a,s',e,b,s2,e2,r⟩:=h;exact⟨b,s2,by unfold M.bd;rw[e];exact e2,r⟩
theorem W.ret{a:α}(h:P a s):W (M.ret a) s P:=⟨a,s,rfl,h⟩
theorem W.qt(h:W m s P):W (M.qt m) s P:=by
 obtain⟨a,s',e,p⟩:=h;exact⟨a,s',by unfold M.qt;rw[e],p⟩
theorem W.opt(e:o=some a)(h:P a s):W (M.opt o) s P:=by subst e;exact⟨a,s,rfl,h⟩
theorem W.imp{P':α->S->Prop}(h:W m s P)(f:∀a s',P a s'->P' a s'):W m s P':=let ⟨a,s',e,p⟩:=h;⟨a,s',e,f a s' p⟩
theorem W.eq(e:m s=some (.ok a,s'))(p:P a s'):W m s P:=⟨a,s',e,p⟩
theorem Ka0{d:D}{P:D->S->Prop}(h:P d s):W (rd (.d d)) s P:=⟨d,s,rfl,h⟩
theorem Ka1{n:Nat}{xs:List D}{P:D->S->Prop}(e:s[n]?=some (.lst xs))(h:P (.fl xs) s):W (rd (.l n)) s P:=⟨.fl xs,s,by unfold rd;simp only[e],h⟩
theorem Ka3{P:List D->S->Prop}(h:P [] s):W (gO []) s P:=⟨[],s,rfl,h⟩
theorem Ka2{x:Xv}{r:List Xv}{P:List D->S->Prop}(h:W (rd x) s λd s1=>W (gO r) s1 λds s2=>P (d::ds) s2):W (gO (x::r)) s P:=W.bd (h.imp λd s1 h1=>W.bd (h1.imp λds s2 h2=>W.ret h2))
theorem Kav{P:List D->S->Prop}(h:P [] s):W (bM []) s P:=⟨[],s,rfl,h⟩
theorem Kau{d:D}{r:List Xv}{P:List D->S->Prop}(h:W (bM r) s λds s2=>P (d::ds) s2):W (bM (.d d::r)) s P:=W.bd (W.ret (W.bd (h.imp λds s2 h2=>W.ret h2)))
theorem W.dat{x:D}{P:D->S->Prop}(h:P x s):W (dat (.d x)) s P:=⟨x,s,rfl,h⟩
theorem W.bool{b:Bool}{P:Bool->S->Prop}(h:P b s):W (bool (.d (.bl b))) s P:=⟨b,s,rfl,h⟩
theorem W.int{b:Int}{P:Int->S->Prop}(h:P b s):W (int (.d (.int b))) s P:=⟨b,s,rfl,h⟩
theorem cV{fz:Bool}{o:Option Rz}{d:D}{P:Xv->S->Prop}(e:o=some (.dat d))(h:P (.d d) s):W (cG fz o) s P:=by subst e;exact⟨_,s,rfl,h⟩
theorem J8{o:Option Rz}{xs:List D}{P:Xv->S->Prop}(e:o=some (.nw xs))(h:P (.d (.fl xs)) s):W (cG true o) s P:=by subst e;exact⟨_,s,rfl,h⟩
theorem KaQ{xs:List D}{P:Xv->S->Prop}(h:P (.d (.fl xs)) s):W (newL true xs) s P:=⟨_,s,rfl,h⟩
theorem KaP{xs:List D}{P:Xv->S->Prop}(h:P (.l s.length) (s++[.lst xs])):W (newL false xs) s P:=⟨_,_,rfl,h⟩
theorem W.dF{F:List Xv->M Xv}{xs:List Xv}{P:Xv->S->Prop}(hl:locs xs=[])(h:W (F (dB 0 xs)) [] λv _=>∃d,v=.d d/\P (.d d) s):W (bZ F xs) s P:=by
 obtain⟨v,s1,e,d,rfl,p⟩:=h;refine⟨.d d,s,?_,p⟩;unfold bZ;rw[hl,if_pos Al];simp only[jf,e,cZ]
theorem Kam{F:List Xv->M Xv}{xs:List Xv}{P:Xv->S->Prop}(hl:locs xs=[])(h:W (F (dB 0 xs)) [] λv s1=>∃n o,v=.l n/\s1[n]?=some o/\P (.l s.length) (s++[o])):W (bZ F xs) s P:=by
 obtain⟨v,s1,e,n,o,rfl,eo,p⟩:=h;refine⟨.l s.length,s++[o],?_,p⟩;unfold bZ;rw[hl,if_pos Al];simp only[jf,e,cZ,List.getElem?_nil,eo]
theorem T4{F:List Xv->M Xv}{xs:List Xv}{n:Nat}{o:SO}{P:Xv->S->Prop}(hl:locs xs=[n])(ho:s[n]?=some o)(h:W (F (dB 0 xs)) [o] λv s1=>∃d o',v=.d d/\s1=[o']/\P (.d d) (s.set n o')):W (bZ F xs) s P:=by
 obtain⟨v,s1,e,d,o',rfl,rfl,p⟩:=h;refine⟨.d d,s.set n o',?_,p⟩;unfold bZ;rw[hl,if_pos (by simp)];simp only[jf,ho,e,cZ]
end
section
variable {s:S}{Q:Out->S->Prop}
theorem WS.ofM(h:W m s λa s'=>WS (k a) s' Q):WS (Mi.ofM m J k) s Q:=by
 obtain⟨a,s',e,o,s2,e2,q⟩:=h;exact⟨o,s2,by unfold Mi.ofM;rw[e];exact e2,q⟩
theorem WS.nx(h:Q (.nx J) s):WS (λs=>some (.nx J,s)) s Q:=⟨_,s,rfl,h⟩
theorem WS.rt(h:Q (.rt x) s):WS (λs=>some (.rt x,s)) s Q:=⟨_,s,rfl,h⟩
end
theorem W.call(hT:T f=some d)(hl:xs.length=d.gw)
  (h:WS (exs aq aj (λc=>Mi.call aq T k c) d.body (xs.map some++List.replicate (d.many-d.gw) none)) s λo s'=>match o with|.nx _=>P (.d .non) s'|.rt v=>P v s'|_=>False):W (Mi.call aq T (k+1) aj f xs) s P:=by
 obtain⟨o,s',e,q⟩:=h;unfold Mi.call;simp only[hT,if_pos hl];unfold W;simp only[e];cases o with
 |nx J=>exact⟨_,_,rfl,q⟩
 |rt v=>exact⟨_,_,rfl,q⟩
 |bk J=>exact q.elim
 |ct J=>exact q.elim
 |er c fs J=>exact q.elim
theorem yq(I:Nat->Vs->S->Prop)(h0:I 0 J s)(hb:∀i x J s,c[i]?=some x->I i J s->WS (b x J) s λo s'=>∃J',o=.nx J'/\I (i+1) J' s')
  (he:∀J s,I c.length J s->Q (.nx J) s):WS (cT (.fix c) b (c.length+1) 0 J) s Q:=by
 have key:∀n i J s,i+n=c.length->I i J s->WS (cT (.fix c) b (n+1) i J) s Q:=by
  intro n
  induction n with
  |zero=>
   intro i J s hi hI;have e:c[i]?=none:=by rw[pG];lia
   have:i=c.length:=by lia
   subst this;refine⟨_,s,?_,he J s hI⟩;unfold cT;simp only[Src.at,e]
  |succ n ih=>
   intro i J s hi hI;have dU:i<c.length:=by lia
   have e:c[i]?=some c[i]:=dj dU;obtain⟨o,s',eb,J',rfl,yr⟩:=hb i c[i] J s e hI;obtain⟨o2,s2,e2,q⟩:=ih (i+1) J' s' (by lia) yr;refine⟨o2,s2,?_,q⟩;unfold cT;simp only[Src.at,e,eb];exact e2
 exact key c.length 0 J s (by lia) h0
theorem zoa{i j:Int}(h:(-(2^64)<i/\i<2^64)\/(-(2^64)<j/\j<2^64)):prim .mul [.int i,.int j]=some (.dat (.int (i*j))):=by
 show Option.map _ (if _ then _ else _)=_;rw[if_pos h];rfl
theorem znD{i j:Int}(h:0<j):prim .mod [.int i,.int j]=some (.dat (.int (i%j))):=by
 show Option.map _ (if _ then _ else _)=_;rw[if_pos h];rfl
theorem zl0{i j:Int}(h:0<j/\j<1073741824):prim .fdiv [.int i,.int j]=some (.dat (.int (i/j))):=by
 show Option.map _ (if _ then _ else _)=_;rw[if_pos h];rfl
theorem zh4{i j:Int}(h:0<j/\j<1073741824):prim .divmod [.int i,.int j]=some (.dat (.tup [.int (i/j),.int (i%j)])):=by
 show Option.map _ (if _ then _ else _)=_;rw[if_pos h];rfl
theorem znG{i j:Int}(h:0<=j/\j<=1000000/\i.natAbs<2^64):prim .pow [.int i,.int j]=some (.dat (.int (i^j.toNat))):=by
 show Option.map _ (if _ then _ else _)=_;rw[if_pos h];rfl
theorem Fq{xs:List D}{i:Nat}{x:D}(h:xs[i]?=some x):prim .ix [.fl xs,.int i]=some (.dat x):=by
 show Option.map Rz.dat (L2.n_ xs i)=_;have:L2.n_ xs (i:Int)=some x:=by
  unfold L2.n_ L2.pC;have hl:i<xs.length:=(dN.mp h).1;simp[hl];exact(dN.mp h).2
 rw[this];rfl
theorem T5(h:xs.length+ys.length<=sizeLine):prim .add [.fl xs,.fl ys]=some (.nw (xs++ys)):=by
 show (if _ then _ else _)=_;rw[if_pos h]
theorem W.ite[Decidable c](h1:c->W m1 s P)(h2:¬c->W m2 s P):W (if c then m1 else m2) s P:=by
 by_cases h:c
 ·rw[if_pos h];exact h1 h
 ·rw[if_neg h];exact h2 h
theorem WS.ite[Decidable c](h1:c->WS m1 s P)(h2:¬c->WS m2 s P):WS (if c then m1 else m2) s P:=by
 by_cases h:c
 ·rw[if_pos h];exact h1 h
 ·rw[if_neg h];exact h2 h
theorem Nu{n:Nat}{xs:List D}{s:S}{P:Unit->S->Prop}(h:P () (s.set n (.lst xs))):W (putL n xs) s P:=⟨_,_,rfl,h⟩
theorem W.cQ{n:Nat}{xs:List D}{s:S}{P:Nat×List D->S->Prop}(e:s[n]?=some (.lst xs))(h:P (n,xs) s):W (cQ (.l n)) s P:=⟨_,s,by unfold Mi.cQ;simp only[e],h⟩
theorem Ka5{xs:List D}{s:S}{P:Src×Nat->S->Prop}(h:P (.fix xs,xs.length) s):W (src (.d (.tup xs))) s P:=⟨_,s,rfl,h⟩
theorem Ka4{xs:List D}{s:S}{P:Src×Nat->S->Prop}(h:P (.fix xs,xs.length) s):W (src (.d (.fl xs))) s P:=⟨_,s,rfl,h⟩
theorem WS.nil{aq:Nat->Nat->Bool}{aj:Bool}{F:Bool->Fn}{J:Vs}{s:S}{Q:Out->S->Prop}(h:Q (.nx J) s):WS (exs aq aj F .nil J) s Q:=⟨_,s,rfl,h⟩
theorem WS.cons{aq:Nat->Nat->Bool}{aj:Bool}{F:Bool->Fn}{a:St}{r:bV}{J:Vs}{s:S}{Q:Out->S->Prop}(h:WS (ex aq aj F a J) s λo s'=>match o with|.nx J'=>WS (exs aq aj F r J') s' Q|.rt x=>Q (.rt x) s'|_=>False):WS (exs aq aj F (.cons a r) J) s Q:=by
 obtain⟨o,s',e,q⟩:=h;unfold WS exs Mi.cH;rw[e];cases o with
 |nx J'=>exact q
 |rt x=>exact⟨_,_,rfl,q⟩
 |bk _=>exact q.elim
 |ct _=>exact q.elim
 |er _ _ _=>exact q.elim
def tR{α:Type}(o:Option α)(P:α->Prop):Prop:=∃a,o=some a/\P a
theorem tR.mk{α:Type}{o:Option α}{P:α->Prop}{a:α}(e:o=some a)(h:P a):tR o P:=⟨a,e,h⟩
section
variable {aq:Nat->Nat->Bool}{aj:Bool}{F:Fn}{J:Vs}{s:S}{P:Xv->S->Prop}
theorem W.eC{d:D}(h:P (.d d) s):W (ev aq aj F (.c d) J) s P:=W.ret h
theorem W.eV{i:Nat}{x:Xv}(e:J[i]?.join=some x)(h:P x s):W (ev aq aj F (.v i) J) s P:=W.opt e h
theorem KaG{fz:Bool}{p:Pr}{xs:Es}(h:W (evs aq aj F xs J) s λvs s1=>W (gO vs) s1 λds s2=>W (cG fz (prim p ds)) s2 P):W (ev aq aj F (.pr fz p xs) J) s P:=W.bd (h.imp λ_ _ h=>W.bd h)
theorem Kax{a b:E}(h:W (ev aq aj F a J) s λx s1=>W (Mi.bool x) s1 λk s2=>W (if k=true then ev aq aj F b J else M.ret (.d (.bl false))) s2 P):W (ev aq aj F (.and a b) J) s P:=W.bd (h.imp λ_ _ h=>W.bd h)
theorem KaF{a b:E}(h:W (ev aq aj F a J) s λx s1=>W (Mi.bool x) s1 λk s2=>W (if k=true then M.ret (.d (.bl true)) else ev aq aj F b J) s2 P):W (ev aq aj F (.or a b) J) s P:=W.bd (h.imp λ_ _ h=>W.bd h)
theorem KaE{a:E}(h:W (ev aq aj F a J) s λx s1=>W (Mi.bool x) s1 λk s2=>P (.d (.bl (!k))) s2):W (ev aq aj F (.not a) J) s P:=W.bd (h.imp λ_ _ h=>W.bd (h.imp λ_ _ h=>W.ret h))
theorem KaI{xs:Es}(h:W (evs aq aj F xs J) s λvs s1=>W (bM vs) s1 λds s2=>P (.d (.tup ds)) s2):W (ev aq aj F (.tup xs) J) s P:=W.bd (h.imp λ_ _ h=>W.bd (h.imp λ_ _ h=>W.ret h))
theorem KaD{fz:Bool}{xs:Es}(h:W (evs aq aj F xs J) s λvs s1=>W (bM vs) s1 λds s2=>W (newL fz ds) s2 P):W (ev aq aj F (.lst fz xs) J) s P:=W.bd (h.imp λ_ _ h=>W.bd h)
theorem KaA{k:Str}{i:Int}(h:P (.d (.fd [.str k] [.int i])) s):W (ev aq aj F (.uK k i) J) s P:=W.ret h
theorem Kay{f:Nat}{xs:Es}(h:W (evs aq aj F xs J) s λvs s1=>W (bZ (F f) vs) s1 P):W (ev aq aj F (.call f xs) J) s P:=W.bd h
theorem KaH{fz:Bool}{a:E}{lo hi:Eo}(h:W (ev aq aj F a J) s λx s1=>W (xK aq aj F lo J) s1 λl s2=>W (xK aq aj F hi J) s2 λu s3=>W (rd x) s3 λd s4=>W (cG fz (cutD d l u)) s4 P):W (ev aq aj F (.sl fz a lo hi) J) s P:=W.bd (h.imp λ_ _ h=>W.bd (h.imp λ_ _ h=>W.bd (h.imp λ_ _ h=>W.bd h)))
theorem KaR{P:Option Int->S->Prop}(h:P none s):W (xK aq aj F .no J) s P:=W.ret h
theorem KaS{a:E}{P:Option Int->S->Prop}(h:W (ev aq aj F a J) s λx s1=>W (Mi.int x) s1 λi s2=>P (some i) s2):W (xK aq aj F (.yes a) J) s P:=W.bd (h.imp λ_ _ h=>W.bd (h.imp λ_ _ h=>W.ret h))
theorem Kaj{P:List Xv->S->Prop}(h:P [] s):W (evs aq aj F .nil J) s P:=W.ret h
theorem Kai{a:E}{r:Es}{P:List Xv->S->Prop}(h:W (ev aq aj F a J) s λx s1=>W (evs aq aj F r J) s1 λxs s2=>P (x::xs) s2):W (evs aq aj F (.cons a r) J) s P:=W.bd (h.imp λ_ _ h=>W.bd (h.imp λ_ _ h=>W.ret h))
theorem KaN{a:E}{P:Src×Nat->S->Prop}(h:W (ev aq aj F a J) s λx s1=>W (src x) s1 P):W (nG aq aj F (.seq a) J) s P:=W.bd h
end
section
variable {aq:Nat->Nat->Bool}{aj:Bool}{F:Bool->Fn}{J:Vs}{s:S}{Q:Out->S->Prop}
theorem WS.J9{b:Bool}{m1 m2:MS}(e:b=true)(h:WS m1 s Q):WS (if b=true then m1 else m2) s Q:=by rw[if_pos e];exact h
theorem WS.J_{b:Bool}{m1 m2:MS}(e:b=false)(h:WS m2 s Q):WS (if b=true then m1 else m2) s Q:=by rw[if_neg (by rw[e];decide)];exact h
theorem WS.yt{m1 m2:MS}(h:WS m1 s Q):WS (if true=true then m1 else m2) s Q:=by rw[if_pos rfl];exact h
theorem WS.T6{m1 m2:MS}(h:WS m2 s Q):WS (if false=true then m1 else m2) s Q:=by rw[if_neg (by decide)];exact h
theorem Kbi{e:E}(h:W (ev aq aj (F aj) e J) s λ_ s1=>Q (.nx J) s1):WS (ex aq aj F (.ex e) J) s Q:=WS.ofM (h.imp λ_ _ h=>WS.nx h)
theorem Kbl{i:Nat}{e:E}(h:W (ev aq aj (F aj) e J) s λx s1=>Q (.nx (J.set i (some x))) s1):WS (ex aq aj F (.asg (.nm i) e) J) s Q:=WS.ofM (h.imp λ_ _ h=>WS.nx h)
theorem Kbq{is:List Nat}{e:E}(h:W (ev aq true (F true) e J) s λx s1=>W (dat x) s1 λd s2=>tR ((lN d).bind λds=>gP is (ds.map .d) J) λJ'=>Q (.nx J') s2):WS (ex aq true F (.asg (.tp is) e) J) s Q:=by
 refine WS.ofM (h.imp λx s1 h=>?_);exact WS.yt (m2:=λ_=>none) (WS.ofM (W.bd (h.imp λd s2 ⟨J',e,q⟩=>W.opt e (WS.nx q))))
theorem Kbp{o i e:E}(h:W (ev aq aj (F aj) e J) s λx s1=>W (dat x) s1 λd s2=>W (ev aq aj (F aj) o J) s2 λy s3=>W (ev aq aj (F aj) i J) s3 λz s4=>W (Mi.int z) s4 λj s5=>W (cQ y) s5 λnx s6=>tR (L2.pC nx.2.length j) λq=>Q (.nx J) (s6.set nx.1 (.lst (nx.2.set q d)))):WS (ex aq aj F (.asg (.aq o i) e) J) s Q:=by
 refine WS.ofM (h.imp λx s1 h=>WS.ofM (W.bd (h.imp λd s2 h=>W.bd (h.imp λy s3 h=>W.bd (h.imp λz s4 h=>W.bd (h.imp λj s5 h=>W.bd (h.imp λnx s6 h=>?_)))))));obtain⟨q,e,h⟩:=h;simp only[e];exact Nu (WS.nx h)
theorem Kbm{i j:Nat}{a b:E}(h:W (ev aq true (F true) a J) s λx s1=>W (ev aq true (F true) b J) s1 λy s2=>Q (.nx ((J.set i (some x)).set j (some y))) s2):WS (ex aq true F (.par i j a b) J) s Q:=by
 exact WS.yt (m2:=λ_=>none) (WS.ofM (W.bd (h.imp λx s1 h=>W.bd (h.imp λy s2 h=>W.ret (WS.nx h)))))
theorem Kbn{e:E}(h:W (ev aq aj (F aj) e J) s λx s1=>Q (.rt x) s1):WS (ex aq aj F (.ret e) J) s Q:=WS.ofM (h.imp λ_ _ h=>WS.rt h)
theorem T7{c:E}{t e:bV}(h:W (ev aq aj (F aj) c J) s λx s1=>W (Mi.bool x) s1 λb s2=>WS (if b=true then exs aq aj F t J else exs aq aj F e J) s2 Q):WS (ex aq aj F (.iff c t e) J) s Q:=WS.ofM (W.bd h)
theorem Kbj{t:Tg}{w:Wk}{b:bV}(h:W (nG aq true (F true) w J) s λcn s1=>WS (cT cn.1 (λd J=>Mi.cH (store aq true (F true) t (.d d) J) λJ'=>exs aq true F b J') (cn.2+1) 0 J) s1 Q):WS (ex aq true F (.fr t w b) J) s Q:=by
 exact WS.yt (m2:=λ_=>none) (WS.ofM h)
end
theorem W.J9{α:Type}{b:Bool}{m1 m2:M α}{s:S}{P:α->S->Prop}(e:b=true)(h:W m1 s P):W (if b=true then m1 else m2) s P:=by rw[if_pos e];exact h
theorem W.J_{α:Type}{b:Bool}{m1 m2:M α}{s:S}{P:α->S->Prop}(e:b=false)(h:W m2 s P):W (if b=true then m1 else m2) s P:=by rw[if_neg (by rw[e];decide)];exact h
theorem W.yt{α:Type}{m1 m2:M α}{s:S}{P:α->S->Prop}(h:W m1 s P):W (if true=true then m1 else m2) s P:=by rw[if_pos rfl];exact h
theorem W.T6{α:Type}{m1 m2:M α}{s:S}{P:α->S->Prop}(h:W m2 s P):W (if false=true then m1 else m2) s P:=by rw[if_neg (by decide)];exact h
structure Bx(R:Prop):Prop where
 o:R
end Mi
namespace Mi
open PySem PySem.W PyProof.Rows L2
def sJ{α:Type}(lt:Nat->Nat->Option Bool)(t:KasT α)(P:α->Prop):Prop:=∃a,bU lt t=some a/\P a
section
variable {α β:Type}{lt:Nat->Nat->Option Bool}{n:Nat}
theorem sJ.ret(h:P a):sJ lt (.ret a) P:=⟨a,rfl,h⟩
theorem sJ.bind(hf:∀a,P a->sJ lt (f a) R):∀{t:KasT α},sJ lt t P->sJ lt (t.bind f) R
 |.ret a,⟨a',e,h⟩=>by cases e;exact hf _ h
 |.ask i j k,⟨a',e,h⟩=>by
  unfold bU at e;cases el:lt i j with
  |none=>rw[el] at e;cases e
  |some b=>
   rw[el] at e;obtain⟨c,e1,h1⟩:=sJ.bind hf (t:=k b) ⟨a',e,h⟩;refine⟨c,?_,h1⟩;show bU lt (.ask i j λb=>(k b).bind f)=some c;unfold bU;rw[el];exact e1
def Tot(n:Nat)(lt:Nat->Nat->Option Bool):Prop:=∀i j,i<n->j<n->∃b,lt i j=some b
variable (ht:Tot n lt)(hn:0<n)
include ht hn
end
section
variable {lt:Nat->Nat->Option Bool}{n:Nat}
theorem zfL(h:∀k,1<=k->k<n->lt (p.getD k 0) (p.getD (k-1) 0)=some false):∀f k,1<=k->k+f=n->sJ lt (kas_asc p f k) λr=>r=n
 |0,k,h1,e=>.ret (by lia)
 |f+1,k,h1,e=>by
  obtain⟨a,e1,e2⟩:=zfL h f (k+1) (by lia) (by lia);refine⟨a,?_,e2⟩;unfold kas_asc bU;rw[h k h1 (by lia)];exact e1
theorem zd7(hk:k<n):(List.range n).toArray.getD k 0=k:=by
 simp[Array.getD,hk]
theorem zf6(hn:0<n)(h:∀k,k+1<n->lt (k+1) k=some false):bU lt (kas_sort n)=some (List.range n).toArray:=by
 have h1:sJ lt (kas_asc (List.range n).toArray (n-1) 1) λr=>r=n:=zfL (λk a b=>by
  rw[zd7 b,zd7 (by lia)];have:=h (k-1) (by lia)
  rwa [show k-1+1=k by lia] at this) _ _ (bO _) (by lia)
 have h2:sJ lt (kas_count n (List.range n).toArray) λr=>r=(n,(List.range n).toArray):=by
  refine sJ.bind (λr hr=>?_) h1;subst hr;rw[if_pos (by simp)];exact .ret rfl
 have h3:sJ lt (kas_sort n) λr=>r=(List.range n).toArray:=by
  refine sJ.bind (λr hr=>?_) h2;subst hr;rw[if_neg (qI _)];exact .ret rfl
 obtain⟨a,e,rfl⟩:=h3;exact e
end
theorem zib(hk:(xs.all j9||xs.all je)=true)(uD:xs.length<64)(h:∀k,k+1<xs.length->zj xs (k+1) k=some false):zm xs=some xs:=by
 unfold zm;rw[if_pos hk];unfold q_;by_cases h2:xs.length<2
 ·rw[if_pos h2]
 ·rw[if_neg h2,if_pos uD,zf6 (by lia) h];dsimp only;rw[if_pos (by simp)]
  congr 1
  apply List.ext_getElem
  ·simp
  ·intro i a b;simp[lZ,b]
noncomputable def iJ(p:Int×Int):D:=.tup [.int p.1,.int p.2]
end Mi
namespace Mi
open PySem
theorem W.walk{c:List D}{f:D->List D->M (List D)}{s:S}{acc:List D}{P:List D->S->Prop}(I:Nat->List D->S->Prop)(h0:I 0 acc s)(hb:∀i x acc s,c[i]?=some x->I i acc s->W (f x acc) s λa s'=>I (i+1) a s')
  (he:∀acc s,I c.length acc s->P acc s):W (Mi.walk (.fix c) f (c.length+1) 0 acc) s P:=by
 have key:∀n i acc s,i+n=c.length->I i acc s->W (Mi.walk (.fix c) f (n+1) i acc) s P:=by
  intro n
  induction n with
  |zero=>
   intro i acc s hi hI;have e:c[i]?=none:=by rw[pG];lia
   have:i=c.length:=by lia
   subst this;refine⟨acc,s,?_,he acc s hI⟩;unfold Mi.walk;simp only[Src.at,e]
  |succ n ih=>
   intro i acc s hi hI;have dU:i<c.length:=by lia
   have e:c[i]?=some c[i]:=dj dU;obtain⟨a,s',eb,yr⟩:=hb i c[i] acc s e hI;obtain⟨a2,s2,e2,q⟩:=ih (i+1) a s' (by lia) yr;refine⟨a2,s2,?_,q⟩;unfold Mi.walk;simp only[Src.at,e,M.bd,eb];exact e2
 exact key c.length 0 acc s (by lia) h0
section
variable {aq:Nat->Nat->Bool}{F:Fn}{J:Vs}{s:S}{P:Xv->S->Prop}
theorem Kaq{fz:Bool}{elt:E}{tg:List Nat}{it:Wk}{fr:List Nat}{many:Nat}{cond:Eo}{c:List D}(g:D->Option D)(hc:c.length<=sizeLine)
  (hw:W (nG aq true F it J) s λcn s1=>cn=(.fix c,c.length)/\s1=s)
  (hb:∀x∈c,∃J',iC tg x (blk many fr J)=some J'/\W (rT aq true F cond J') s λb s1=>s1=s/\(if b=true then W (ev aq true F elt J') s λy s2=>s2=s/\∃d,y=.d d/\g x=some d else g x=none))
  (h:W (newL fz (c.filterMap g)) s P):W (ev aq true F (.comp fz elt tg it fr many cond) J) s P:=by
 change W (_root_.ite (true=true) _ _) s P
 rw[if_pos rfl];refine W.bd (hw.imp λcn s1=>?_);rintro⟨rfl,rfl⟩;refine W.bd ?_;refine W.walk (c:=c) (λi acc s'=>s'=s1/\acc=(c.take i).filterMap g) ⟨rfl,rfl⟩ (λi x acc s' e hI=>?_) (λacc s' hI=>?_)
 ·obtain⟨rfl,rfl⟩:=hI;have hi:i<c.length:=(dN.mp e).1;have ht:c.take (i+1)=c.take i++[x]:=by rw[List.take_succ,e];rfl
  have hl:((c.take i).filterMap g).length<sizeLine:=Nat.lt_of_le_of_lt (O9 _ _) (by rw[Ag];lia);obtain⟨J',e1,h1⟩:=hb x (fZ e);refine W.bd (W.opt e1 ?_);refine W.bd (W.qt (h1.imp λb s2=>?_));rintro⟨rfl,h2⟩;rw[ht,List.filterMap_append];cases b
  ·rw[if_neg (by decide)] at h2 ⊢;refine W.ret ⟨rfl,?_⟩;simp[h2]
  ·rw[if_pos rfl] at h2 ⊢;refine W.bd (W.qt (h2.imp λy s3=>?_));rintro⟨rfl,d,rfl,eg⟩;refine W.bd (W.dat ?_);rw[if_pos hl];refine W.ret ⟨rfl,?_⟩;simp[eg]
 ·obtain⟨rfl,rfl⟩:=hI;rw[Gg];exact h
end
section
variable {aq:Nat->Nat->Bool}{aj:Bool}{F:Fn}{J:Vs}{s:S}{P:Xv->S->Prop}
theorem KaB(h:W (ev aq aj F a J) s λx s1=>W (rd x) s1 λd s2=>∃b,lK aq d k=some b/\P (.d (.bl b)) s2):W (ev aq aj F (.g8 a k) J) s P:=
 W.bd (h.imp λ_ _ h=>W.bd (h.imp λ_ _ ⟨_,e,h⟩=>W.bd (W.opt e (W.ret h))))
theorem Kaz(h:W (ev aq aj F a J) s λx s1=>W (ev aq aj F b J) s1 λy s2=>W (gO [x,y]) s2 λds s3=>W (cG true (prim p ds)) s3 λt s4=>W (Mi.bool t) s4 λk s5=>
  W (if k=true then M.bd (ev aq aj F c J) λz=>M.bd (gO [y,z]) λds=>cG true (prim q ds) else M.ret (.d (.bl false))) s5 P):W (ev aq aj F (.wg p q a b c) J) s P:=
 W.bd (h.imp λ_ _ h=>W.bd (h.imp λ_ _ h=>W.bd (h.imp λ_ _ h=>W.bd (h.imp λ_ _ h=>W.bd h))))
end
noncomputable def Ka(fz:Bool):Option Rz->Option Xv
 |some (.dat d)=>some (.d d)
 |some (.nw ys)=>match fz with
  |true=>some (.d (.fl ys))
  |false=>none
 |none=>none
noncomputable def addQ:D->D->Option Rz
 |.int i,.int j=>some (.dat (.int (i+j)))
 |_,_=>none
noncomputable def zV:List D->Option Rz
 |a::r=>match r with
  |b::r=>match r with
   |[]=>addQ a b
   |_::_=>none
  |[]=>none
 |[]=>none
noncomputable def quick:Pr->Bool
 |.rM=>false|.Er=>false|.mul=>false|.fdiv=>false|.mod=>false|.pow=>false|.divmod=>false|.sorted=>false|.qY=>false|.Jc=>false|.mult=>false|.yX=>false|.repr=>false|.str1=>false|.Yz=>false|.I_=>false|.Ja=>false
 |_=>true
noncomputable def rB(p:Pr)(ds:List D):Option Rz:=match p with
 |.add=>zV ds
 |p=>match quick p with
  |true=>prim p ds
  |false=>none
theorem Kc{ds:List D}{r:Rz}(h:zV ds=some r):Cd ds=some r:=by
 cases ds with
 |nil=>cases h
 |cons a t=>cases t with
  |nil=>cases h
  |cons b t=>cases t with
   |cons _ _=>cases h
   |nil=>cases a with
    |int i=>cases b with
     |int j=>exact h
     |_=>cases h
    |_=>cases h
theorem CV{p:Pr}{ds:List D}{r:Rz}(h:rB p ds=some r):prim p ds=some r:=by
 cases p with
 |add=>exact Kc h
 |_=>first|exact h|cases h
noncomputable def T8(fz:Bool)(ds:List D):Option Xv:=match fz with
 |true=>some (.d (.fl ds))
 |false=>none
noncomputable def Ke:Xv->Option D
 |.d x=>some x
 |.l _=>none
noncomputable def obP(c:Nat):Xv->Option (List D)
 |.d (.ob e fs)=>if e=c then some fs else none
 |_=>none
noncomputable def notP:Xv->Option Xv
 |.d (.bl b)=>some (.d (.bl (!b)))
 |_=>none
noncomputable def T9(r:Option Xv):Xv->Option Xv
 |.d (.bl true)=>r
 |.d (.bl false)=>some (.d (.bl false))
 |_=>none
noncomputable def orP(r:Option Xv):Xv->Option Xv
 |.d (.bl true)=>some (.d (.bl true))
 |.d (.bl false)=>r
 |_=>none
section
variable (aq:Nat->Nat->Bool)
mutual
noncomputable def dJ:E->Vs->Option Xv
 |.c d,_=>some (.d d)
 |.v i,J=>J[i]?.join
 |.pr fz p xs,J=>(qw xs J).bind λds=>Ka fz (rB p ds)
 |.tup xs,J=>(qw xs J).bind λds=>some (.d (.tup ds))
 |.lst fz xs,J=>(qw xs J).bind λds=>T8 fz ds
 |.not a,J=>(dJ a J).bind notP
 |.and a b,J=>(dJ a J).bind (T9 (dJ b J))
 |.or a b,J=>(dJ a J).bind (orP (dJ b J))
 |.g8 a k,J=>(dJ a J).bind λx=>(Ke x).bind λd=>(lK aq d k).bind λb=>some (.d (.bl b))
 |.of o c i,J=>(dJ o J).bind λx=>(obP c x).bind λfs=>fs[i]?.map .d
 |_,_=>none
noncomputable def qw:Es->Vs->Option (List D)
 |.nil,_=>some []
 |.cons a r,J=>(dJ a J).bind λx=>(Ke x).bind λd=>(qw r J).bind λds=>some (d::ds)
end
noncomputable def oW:Es->Vs->Option (List Xv)
 |.nil,_=>some []
 |.cons a r,J=>(dJ aq a J).bind λx=>(oW r J).bind λxs=>some (x::xs)
end
theorem nA{α β:Type}{o:Option α}{f:α->Option β}{b:β}(h:o.bind f=some b):∃a,o=some a/\f a=some b:=yD.mp h
theorem jr{α β:Type}{m:M α}{k:α->M β}{s s':S}{a:α}(e:m s=some (.ok a,s')):M.bd m k s=k a s':=by
 show (match m s with|some (.ok a,s')=>k a s'|some (.er c f,s')=>some (.er c f,s')|none=>none)=_;rw[e]
theorem CW(s:S):∀ds:List D,gO (ds.map .d) s=some (.ok ds,s)
 |[]=>rfl
 |d::r=>(jr (s':=s) (a:=d) rfl).trans ((jr (CW s r)).trans rfl)
theorem vq(s:S):∀ds:List D,bM (ds.map .d) s=some (.ok ds,s)
 |[]=>rfl
 |d::r=>(jr (s':=s) (a:=d) rfl).trans ((jr (vq s r)).trans rfl)
theorem T_{fz:Bool}{p:Pr}{ds:List D}{x:Xv}{s:S}(h:Ka fz (rB p ds)=some x):cG fz (prim p ds) s=some (.ok x,s):=by
 cases o:rB p ds with
 |none=>rw[o] at h;cases h
 |some r=>
  rw[o] at h;rw[CV o];cases r with
  |dat d=>cases h;rfl
  |nw ys=>cases fz with
   |true=>cases h;rfl
   |false=>cases h
section
variable {aq:Nat->Nat->Bool}{aj:Bool}{F:Fn}{J:Vs}{s:S}
theorem gG(e:E):∀x:Xv,dJ aq e J=some x->ev aq aj F e J s=some (.ok x,s):=by
 refine E.rec (motive_1:=λe=>∀x:Xv,dJ aq e J=some x->ev aq aj F e J s=some (.ok x,s)) (motive_2:=λ_=>True) (motive_3:=λxs=>∀ds:List D,qw aq xs J=some ds->evs aq aj F xs J s=some (.ok (ds.map .d),s)) (motive_4:=λ_=>True)
  ?c ?v ?pr (λ_ _ _ _ _ _ _ _ _ h=>nomatch h) (λ_ _ _ _ _ _ _ _ _ _ _ _ h=>nomatch h) ?and ?or ?not (λ_ _ _ _ _ _ _ h=>nomatch h) ?tup ?lst (λ_ _ _ h=>nomatch h) (λ_ _ _ _ h=>nomatch h) ?g8 (λ_ _ _ _ _ _ _ _ h=>nomatch h) (λ_ _ _ _ _ _ _ _ h=>nomatch h) (λ_ _ _ _ _ h=>nomatch h) (λ_ _ _ h=>nomatch h)
  (λ_ _ _ _ _ _ _ _ _ _ _ h=>nomatch h) (λ_ _ _ _ _ _ _ _ _ _ _ _ _ _ h=>nomatch h) (λ_ _ _ _ _ h=>nomatch h) ?of (λ_ _ _ _ _ h=>nomatch h) (λ_ _ _ _ _ _ _ h=>nomatch h) (λ_ h=>nomatch h) (λ_ _ _ _ _ _ h=>nomatch h) (λ_ _ _ _ _ h=>nomatch h) (λ_ _ _ h=>nomatch h) (λ_ _ _ _ _ _ h=>nomatch h) (λ_ _ _ _ _ h=>nomatch h) (λ_ _ _ _ _ _ _ h=>nomatch h) (λ_ h=>nomatch h)
  (λ_ _=>trivial) (λ_ _ _ _=>trivial) (λ_ _ _ _=>trivial) (λ_ _=>trivial) (λ_ _=>trivial) ?nil ?cons trivial (λ_ _=>trivial) e
 case c=>intro d x h;cases h;rfl
 case v=>intro i x h;exact(show M.opt (J[i]?.join) s=_ from by rw[show J[i]?.join=some x from h];rfl)
 case pr=>
  intro fz p xs ih x h;obtain⟨ds,e1,e2⟩:=nA h;exact(jr (ih _ e1)).trans ((jr (CW s ds)).trans (T_ e2))
 case tup=>
  intro xs ih x h;obtain⟨ds,e1,e2⟩:=nA h;cases e2;exact(jr (ih _ e1)).trans ((jr (vq s ds)).trans rfl)
 case lst=>
  intro fz xs ih x h;obtain⟨ds,e1,e2⟩:=nA h;cases fz with
  |false=>cases e2
  |true=>cases e2;exact(jr (ih _ e1)).trans ((jr (vq s ds)).trans rfl)
 case not=>
  intro a ih x h;obtain⟨y,e1,e2⟩:=nA h;cases y with
  |l n=>cases e2
  |d y=>cases y with
   |bl b=>cases e2;exact(jr (ih _ e1)).trans rfl
   |_=>cases e2
 case and=>
  intro a b ih ih2 x h;obtain⟨y,e1,e2⟩:=nA h;cases y with
  |l n=>cases e2
  |d y=>cases y with
   |bl b=>cases b with
    |true=>exact(jr (ih _ e1)).trans (ih2 _ e2)
    |false=>cases e2;exact(jr (ih _ e1)).trans rfl
   |_=>cases e2
 case or=>
  intro a b ih ih2 x h;obtain⟨y,e1,e2⟩:=nA h;cases y with
  |l n=>cases e2
  |d y=>cases y with
   |bl b=>cases b with
    |true=>cases e2;exact(jr (ih _ e1)).trans rfl
    |false=>exact(jr (ih _ e1)).trans (ih2 _ e2)
   |_=>cases e2
 case g8=>
  intro a k ih x h;obtain⟨y,e1,e2⟩:=nA h;cases y with
  |l n=>cases e2
  |d y=>
   obtain⟨d,e3,e4⟩:=nA e2;cases e3;obtain⟨b,e5,e6⟩:=nA e4;cases e6;refine(jr (ih _ e1)).trans ((jr (s':=s) (a:=y) rfl).trans ((jr (s':=s) (a:=b) ?_).trans rfl));rw[e5];rfl
 case of=>
  intro o c i ih x h;obtain⟨y,e1,e2⟩:=nA h;obtain⟨fs,e3,e4⟩:=nA e2;refine(jr (ih _ e1)).trans ((jr (s':=s) (a:=fs) ?_).trans ?_)
  ·cases y with
   |l n=>cases e3
   |d y=>cases y with
    |ob e gs=>
     have e3:(if e=c then some gs else none)=some fs:=e3;show (if e=c then M.ret gs else M.no) s=_;split at e3
     ·rename_i h;cases e3;rw[if_pos h];rfl
     ·cases e3
    |_=>cases e3
  ·show M.opt (fs[i]?.map Xv.d) s=_;rw[e4];rfl
 case nil=>intro ds h;cases h;rfl
 case cons=>
  intro a r ih ih2 ds h;obtain⟨y,e1,e2⟩:=nA h;cases y with
  |l n=>cases e2
  |d y=>
   obtain⟨d,e3,e4⟩:=nA e2;cases e3;obtain⟨rs,e5,e6⟩:=nA e4;cases e6;exact(jr (ih _ e1)).trans ((jr (ih2 _ e5)).trans rfl)
theorem vA:∀(xs:Es) (ds:List D),qw aq xs J=some ds->evs aq aj F xs J s=some (.ok (ds.map .d),s)
 |.nil,ds,h=>by cases h;rfl
 |.cons a r,ds,h=>by
  obtain⟨y,e1,e2⟩:=nA h;cases y with
  |l n=>cases e2
  |d y=>
   obtain⟨d,e3,e4⟩:=nA e2;cases e3;obtain⟨rs,e5,e6⟩:=nA e4;cases e6;exact(jr (gG a _ e1)).trans ((jr (vA r _ e5)).trans rfl)
theorem jO:∀(xs:Es) {vs:List Xv},oW aq xs J=some vs->evs aq aj F xs J s=some (.ok vs,s)
 |.nil,vs,h=>by cases h;rfl
 |.cons a r,vs,h=>by
  obtain⟨y,e1,e2⟩:=nA h;obtain⟨ys,e3,e4⟩:=nA e2;cases e4;exact(jr (gG a _ e1)).trans ((jr (jO r e3)).trans rfl)
variable {P:Xv->S->Prop}
theorem W.pv{e:E}{x:Xv}(h:dJ aq e J=some x)(k:P x s):W (ev aq aj F e J) s P:=W.eq (gG e _ h) k
theorem KaY{f:Nat}{xs:Es}{vs:List Xv}(h:oW aq xs J=some vs)(k:W (bZ (F f) vs) s P):W (ev aq aj F (.call f xs) J) s P:=Kay (W.eq (jO xs h) k)
theorem KaZ{fz:Bool}{p:Pr}{xs:Es}{ds:List D}(h:qw aq xs J=some ds)(k:W (cG fz (prim p ds)) s P):W (ev aq aj F (.pr fz p xs) J) s P:=KaG (W.eq (vA xs _ h) (W.eq (CW s ds) k))
theorem KaX{xs:Es}{vs:List Xv}{P:List Xv->S->Prop}(h:oW aq xs J=some vs)(k:P vs s):W (evs aq aj F xs J) s P:=W.eq (jO xs h) k
end
section
variable {aq:Nat->Nat->Bool}{aj:Bool}{F:Bool->Fn}{J:Vs}{s:S}{Q:Out->S->Prop}{e:E}{r:bV}
theorem Kbf{i:Nat}{x:Xv}(h:dJ aq e J=some x)(k:WS (exs aq aj F r (J.set i (some x))) s Q):WS (exs aq aj F (.cons (.asg (.nm i) e) r) J) s Q:=WS.cons (Kbl (W.pv h k))
theorem Kbg{x:Xv}(h:dJ aq e J=some x)(k:Q (.rt x) s):WS (exs aq aj F (.cons (.ret e) r) J) s Q:=WS.cons (Kbn (W.pv h k))
theorem Kbe{b:Bool}{t u:bV}(h:dJ aq e J=some (.d (.bl b)))(k:WS (if b=true then exs aq aj F t J else exs aq aj F u J) s λo s'=>match o with|.nx J'=>WS (exs aq aj F r J') s' Q|.rt x=>Q (.rt x) s'|_=>False):WS (exs aq aj F (.cons (.iff e t u) r) J) s Q:=WS.cons (T7 (W.pv h (W.bool k)))
end
def WR{α:Type}(m:M α)(s:S)(c:Nat)(fs:List D):Prop:=∃s',m s=some (.er c fs,s')
section
variable {α β:Type}{m:M α}{k:α->M β}{s:S}{c:Nat}{fs:List D}
theorem Ka7(h:W m s λa s'=>WR (k a) s' c fs):WR (M.bd m k) s c fs:=by
 obtain⟨a,s',e,s2,e2⟩:=h;exact⟨s2,by unfold M.bd;rw[e];exact e2⟩
theorem WR.dF(hl:locs xs=[])(h:WR (F (dB 0 xs)) [] c fs):WR (bZ F xs) s c fs:=by
 obtain⟨s1,e⟩:=h;refine⟨s,?_⟩;unfold bZ;rw[hl,if_pos Al];simp only[jf,e,cZ]
end
theorem WR.call(hT:T f=some d)(hl:xs.length=d.gw)
  (h:WS (exs aq aj (λc=>Mi.call aq T k c) d.body (xs.map some++List.replicate (d.many-d.gw) none)) s λo _=>∃J,o=.er c fs J):WR (Mi.call aq T (k+1) aj f xs) s c fs:=by
 obtain⟨o,s',e,J,rfl⟩:=h;unfold Mi.call;simp only[hT,if_pos hl];unfold WR;simp only[e];exact⟨_,rfl⟩
section
variable {aq:Nat->Nat->Bool}{aj:Bool}{F:Bool->Fn}{J:Vs}{s:S}{Q:Out->S->Prop}{c:Nat}{fs:List D}
theorem Kbd(h:WR m s c fs)(q:∀s',Q (.er c fs J) s'):WS (Mi.ofM m J k) s Q:=by
 obtain⟨s',e⟩:=h;exact⟨_,s',by unfold Mi.ofM;rw[e],q s'⟩
theorem Nv(h:WS (ex aq aj F a J) s λo s'=>(∃c fs J',o=.er c fs J')/\Q o s'):WS (exs aq aj F (.cons a r) J) s Q:=by
 obtain⟨o,s',e,⟨c,fs,J',rfl⟩,q⟩:=h;exact⟨_,s',by unfold exs Mi.cH;rw[e],q⟩
theorem Ka9(h:WR (ev aq aj (F aj) e J) s c fs)(q:∀s',Q (.er c fs J) s'):WS (ex aq aj F (.ex e) J) s Q:=Kbd h q
theorem Kbh(h:WR (ev aq aj (F aj) e J) s c fs)(q:∀s',Q (.er c fs J) s'):WS (ex aq aj F (.ret e) J) s Q:=Kbd h q
theorem Kbo{c:Nat}{kp:Bool}{xs:Es}(h:W (evs aq true (F true) xs J) s λvs s1=>W (bM vs) s1 λds s2=>Q (.er c (if kp=true then ds else []) J) s2):WS (ex aq true F (.rise c kp xs) J) s Q:=by
 refine WS.yt (m2:=λ_=>none) (WS.ofM (W.bd (h.imp λvs s1 h=>h.imp λds s2 h=>?_)));exact⟨_,s2,rfl,h⟩
theorem Ny{m:MS}{k:Vs->MS}(h:WS m s λo s'=>match o with|.nx J'=>WS (k J') s' Q|.rt x=>Q (.rt x) s'|_=>False):WS (Mi.cH m k) s Q:=by
 obtain⟨o,s',e,q⟩:=h;unfold WS Mi.cH;rw[e];cases o with
 |nx J'=>exact q
 |rt x=>exact⟨_,_,rfl,q⟩
 |bk _=>exact q.elim
 |ct _=>exact q.elim
 |er _ _ _=>exact q.elim
theorem Nz{F:Fn}{i:Nat}{x:Xv}(h:Q (.nx (J.set i (some x))) s):WS (store aq aj F (.nm i) x J) s Q:=⟨_,s,rfl,h⟩
theorem Kbs{F:Fn}{is:List Nat}{d:D}(h:tR ((lN d).bind λds=>gP is (ds.map .d) J) λJ'=>Q (.nx J') s):WS (store aq true F (.tp is) (.d d) J) s Q:=by
 obtain⟨J',e,q⟩:=h;exact WS.yt (m2:=λ_=>none) (WS.ofM (W.bd (W.dat (W.opt e (WS.nx q)))))
theorem Kbu(hb:WS (exs aq true F b J) s λo s'=>(∃x,o=.rt x)/\Q o s'):WS (ex aq true F (.rO b d i h) J) s Q:=by
 obtain⟨o,s',e,⟨x,rfl⟩,q⟩:=hb;exact⟨_,s',by unfold ex;rw[if_pos rfl];simp only[e],q⟩
theorem Kbv(hb:WS (exs aq true F b J) s λo s'=>∃c fs J',o=.er c fs J'/\aq c d=true/\WS (exs aq false F h (J'.set i (some (.d (.exc c fs))))) s' λr s2=>(∃x,r=.rt x)/\Q r s2):WS (ex aq true F (.rO b d i h) J) s Q:=by
 obtain⟨o,s',e,c,fs,J',rfl,hs,r,s2,e2,⟨x,rfl⟩,q⟩:=hb;exact⟨_,s2,by unfold ex;rw[if_pos rfl];simp only[e,hs,if_true,e2];rfl,q⟩
end
section
variable {aq:Nat->Nat->Bool}{aj:Bool}{F:Fn}{J:Vs}{s:S}{P:Xv->S->Prop}
theorem W.g8{a:E}{k:Kd}(h:W (ev aq aj F a J) s λx s1=>W (rd x) s1 λd s2=>tR (lK aq d k) λb=>P (.d (.bl b)) s2):W (ev aq aj F (.g8 a k) J) s P:=KaB h
theorem W.wg{p q:Pr}{a b c:E}(h:W (ev aq aj F a J) s λx s1=>W (ev aq aj F b J) s1 λy s2=>W (gO [x,y]) s2 λds s3=>W (cG true (prim p ds)) s3 λt s4=>W (Mi.bool t) s4 λk s5=>
  W (if k=true then M.bd (ev aq aj F c J) λz=>M.bd (gO [y,z]) λds=>cG true (prim q ds) else M.ret (.d (.bl false))) s5 P):W (ev aq aj F (.wg p q a b c) J) s P:=Kaz h
theorem KaC{c a b:E}(h:W (ev aq aj F c J) s λx s1=>W (Mi.bool x) s1 λk s2=>W (if k=true then ev aq aj F a J else ev aq aj F b J) s2 P):W (ev aq aj F (.ite c a b) J) s P:=W.bd (h.imp λ_ _ h=>W.bd h)
theorem KaL{a:E}{P:Src×Nat->S->Prop}(h:W (ev aq aj F a J) s λx s1=>W (oJ x) s1 P):W (nG aq aj F (.enum a) J) s P:=W.bd h
theorem KaJ{xs:List D}{P:Src×Nat->S->Prop}(h:P (.fix (enumFrom 0 xs),(enumFrom 0 xs).length) s):W (oJ (.d (.fl xs))) s P:=⟨_,s,rfl,h⟩
theorem KaM{a b:E}{P:Src×Nat->S->Prop}(h:W (ev aq aj F a J) s λx s1=>W (ev aq aj F b J) s1 λy s2=>W (Mi.int x) s2 λi s3=>W (Mi.int y) s3 λj s4=>(fV i&&fV j)=true/\P (.fix (jB i j),(jB i j).length) s4):W (nG aq aj F (.rg a b) J) s P:=by
 refine W.bd (h.imp λx s1 h=>W.bd (h.imp λy s2 h=>W.bd (h.imp λi s3 h=>W.bd (h.imp λj s4 h=>?_))));rw[if_pos h.1];exact W.ret h.2
theorem KaO{a b:E}{P:Src×Nat->S->Prop}(h:W (ev aq aj F a J) s λx s1=>W (ev aq aj F b J) s1 λy s2=>W (qe x) s2 λxs s3=>W (qe y) s3 λys s4=>P (.fix (List.zipWith (λp q=>.tup [p,q]) xs ys),(List.zipWith (λ(p q:D)=>D.tup [p,q]) xs ys).length) s4):W (nG aq aj F (.zip a b) J) s P:=
 W.bd (h.imp λx s1 h=>W.bd (h.imp λy s2 h=>W.bd (h.imp λxs s3 h=>W.bd (h.imp λys s4 h=>W.ret h))))
theorem W.jm{xs:List D}{P:List D->S->Prop}(h:P xs s):W (qe (.d (.tup xs))) s P:=W.ret h
theorem W.tH{xs:List D}{P:List D->S->Prop}(h:P xs s):W (qe (.d (.fl xs))) s P:=W.ret h
theorem Kak{P:Bool->S->Prop}(h:P true s):W (rT aq aj F .no J) s P:=W.ret h
theorem Kal{a:E}{P:Bool->S->Prop}(h:W (ev aq aj F a J) s λx s1=>W (Mi.bool x) s1 P):W (rT aq aj F (.yes a) J) s P:=W.bd h
theorem Kas(g:D->D)(hc:c.length<=sizeLine)
  (hw:W (nG aq true F it J) s λcn s1=>cn=(.fix c,c.length)/\s1=s)
  (hb:∀x∈c,tR (iC tg x (blk many fr J)) λJ'=>W (ev aq true F elt J') s λy s2=>s2=s/\y=.d (g x))
  (h:W (newL fz (c.map g)) s P):W (ev aq true F (.comp fz elt tg it fr many .no) J) s P:=by
 refine Kaq (c:=c) (λx=>some (g x)) hc hw (λx hx=>?_) ?_
 ·obtain⟨J',e,h1⟩:=hb x hx;refine⟨J',e,W.ret ⟨rfl,?_⟩⟩;rw[if_pos rfl];exact h1.imp λy s2 ⟨a,b⟩=>⟨a,_,b,rfl⟩
 ·rw[show c.filterMap (λx=>some (g x))=c.map g by rw[<-List.filterMap_eq_map];rfl];exact h
theorem nP{α:Type}{f:α->D}{l:List α}{fz:Bool}{elt:E}{tg:List Nat}{it:Wk}{fr:List Nat}{many:Nat}{cond:Eo}(g:α->Option D)(hc:l.length<=sizeLine)
  (hw:W (nG aq true F it J) s λcn s1=>cn=(.fix (l.map f),(l.map f).length)/\s1=s)
  (hb:∀x∈l,tR (iC tg (f x) (blk many fr J)) λJ'=>W (rT aq true F cond J') s λb s1=>s1=s/\(b=true->W (ev aq true F elt J') s λy s2=>s2=s/\∃d,y=.d d/\g x=some d)/\(b=false->g x=none))
  (h:W (newL fz (l.filterMap g)) s P):W (ev aq true F (.comp fz elt tg it fr many cond) J) s P:=by
 change W (_root_.ite (true=true) _ _) s P
 rw[if_pos rfl];refine W.bd (hw.imp λcn s1=>?_);rintro⟨rfl,rfl⟩;refine W.bd ?_;refine W.walk (c:=l.map f) (λi acc s'=>s'=s1/\acc=(l.take i).filterMap g) ⟨rfl,rfl⟩ (λi x acc s' e hI=>?_) (λacc s' hI=>?_)
 ·obtain⟨rfl,rfl⟩:=hI;rw[iW] at e;cases el:l[i]? with
  |none=>rw[el] at e;cases e
  |some y=>
   rw[el] at e;cases e;have hi:i<l.length:=(dN.mp el).1;have ht:l.take (i+1)=l.take i++[y]:=by rw[List.take_succ,el];rfl
   have hl:((l.take i).filterMap g).length<sizeLine:=Nat.lt_of_le_of_lt (O9 _ _) (by rw[Ag];lia);obtain⟨J',e1,h1⟩:=hb y (fZ el);refine W.bd (W.opt e1 ?_);refine W.bd (W.qt (h1.imp λb s2=>?_));rintro⟨rfl,h2,h3⟩;rw[ht,List.filterMap_append];cases b
   ·rw[if_neg (by decide)];refine W.ret ⟨rfl,?_⟩;simp[h3 rfl]
   ·rw[if_pos rfl];refine W.bd (W.qt ((h2 rfl).imp λy s3=>?_));rintro⟨rfl,d,rfl,eg⟩;refine W.bd (W.dat ?_);rw[if_pos hl];refine W.ret ⟨rfl,?_⟩;simp[eg]
 ·obtain⟨rfl,rfl⟩:=hI;rw[cg,Gg];exact h
theorem Ua{c:List D}{fz:Bool}{elt:E}{tg:List Nat}{it:Wk}{fr:List Nat}{many:Nat}{cond:Eo}(I:Nat->List D->S->Prop)
  (hw:W (nG aq true F it J) s λcn s1=>cn=(.fix c,c.length)/\I 0 [] s1)
  (hb:∀i x acc s,c[i]?=some x->I i acc s->tR (iC tg x (blk many fr J)) λJ'=>W (rT aq true F cond J') s λb s1=>(b=true->W (ev aq true F elt J') s1 λy s2=>∃d,y=.d d/\acc.length<sizeLine/\I (i+1) (acc++[d]) s2)/\(b=false->I (i+1) acc s1))
  (h:∀acc s,I c.length acc s->W (newL fz acc) s P):W (ev aq true F (.comp fz elt tg it fr many cond) J) s P:=by
 change W (_root_.ite (true=true) _ _) s P
 rw[if_pos rfl];refine W.bd (hw.imp λcn s1=>?_);rintro⟨rfl,h0⟩;refine W.bd ?_;refine W.walk (c:=c) I h0 (λi x acc s' e hI=>?_) (λacc s' hI=>h acc s' hI);obtain⟨J',e1,h1⟩:=hb i x acc s' e hI;refine W.bd (W.opt e1 ?_);refine W.bd (W.qt (h1.imp λb s2=>?_));rintro⟨h2,h3⟩;cases b
 ·rw[if_neg (by decide)];exact W.ret (h3 rfl)
 ·rw[if_pos rfl];refine W.bd (W.qt ((h2 rfl).imp λy s3=>?_));rintro⟨d,rfl,hl,hi⟩;refine W.bd (W.dat ?_);rw[if_pos hl];exact W.ret hi
theorem W.push{o a:E}(h:W (ev aq aj F o J) s λx s1=>W (Mi.cQ x) s1 λ_ s2=>W (ev aq aj F a J) s2 λy s3=>W (Mi.dat y) s3 λd s4=>W (Mi.cQ x) s4 λnx s5=>nx.2.length<sizeLine/\P (.d .non) (s5.set nx.1 (.lst (nx.2++[d])))):W (ev aq aj F (.push o a) J) s P:=by
 refine W.bd (h.imp λx s1 h=>W.bd (h.imp λ_ s2 h=>W.bd (h.imp λy s3 h=>W.bd (h.imp λd s4 h=>W.bd (h.imp λnx s5 h=>?_)))));rw[if_pos h.1];exact W.bd (Nu (W.ret h.2))
end
theorem NK{s:S}{o:SO}:(s++[o])[s.length]?=some o:=by simp
theorem zhp:(s++[o]).set s.length o'=s++[o']:=by simp
theorem Y{P R:Prop}(k:R)(h:Bx R->P:=by
 intro k
 repeat (first|with_reducible first
   |refine Kbf (by with_unfolding_all rfl) ?_|refine Kbg (by with_unfolding_all rfl) ?_|refine Kbe (by with_unfolding_all rfl) ?_|refine W.pv (by with_unfolding_all rfl) ?_|refine KaZ (by with_unfolding_all rfl) ?_|refine KaY (by with_unfolding_all rfl) ?_|refine KaX (by with_unfolding_all rfl) ?_
   |refine WS.cons ?_|refine WS.nil ?_|refine Ny ?_|refine Nz ?_|refine Kbs ?_|refine Kbl ?_|refine Kbn ?_|refine T7 ?_|refine Kbq ?_|refine Kbp ?_|refine Kbm ?_|refine Kbi ?_|refine Kbj ?_|refine Kbo ?_|refine WS.yt ?_|refine WS.T6 ?_|refine WS.J9 (by with_unfolding_all rfl) ?_|refine WS.J_ (by with_unfolding_all rfl) ?_|refine tR.mk (by with_unfolding_all rfl) ?_
   |refine Kai ?_|refine Kaj ?_|refine W.eC ?_|refine W.eV (by with_unfolding_all rfl) ?_|refine KaG ?_|refine Kay ?_|refine KaI ?_|refine KaD ?_|refine KaE ?_|refine Kax ?_|refine KaF ?_|refine KaC ?_|refine W.g8 ?_|refine W.wg ?_|refine W.push ?_|refine KaH ?_|refine KaA ?_|refine KaR ?_|refine KaS ?_|refine KaN ?_|refine KaM ?_|refine KaO ?_|refine KaL ?_|refine Kak ?_|refine Kal ?_|refine W.yt ?_|refine W.T6 ?_|refine W.J9 (by with_unfolding_all rfl) ?_|refine W.J_ (by with_unfolding_all rfl) ?_
   |refine Ka2 ?_|refine Ka3 ?_|refine Ka0 ?_|refine Ka1 (by with_unfolding_all rfl) ?_|refine Ka1 NK ?_|refine Kau ?_|refine Kav ?_|refine W.dat ?_|refine W.bool ?_|refine W.int ?_|refine W.cQ (by with_unfolding_all rfl) ?_|refine W.cQ NK ?_|refine Nu ?_|refine Ka5 ?_|refine KaJ ?_|refine W.jm ?_|refine W.tH ?_|refine Ka4 ?_|refine KaQ ?_|refine KaP ?_
   |refine cV (by first|(with_unfolding_all rfl)|exact zoa (by first|(left;constructor<;>lia)|(right;constructor<;>lia))|exact znD (by lia)|exact zl0 (by lia)|exact zh4 (by lia)|exact znG (by decide)) ?_|refine J8 (by with_unfolding_all rfl) ?_
   |refine W.ret ?_|refine W.bd ?_
   | (dsimp only))
 all_goals exact k.o):P:=h ⟨k⟩
def lx(p q:Int×Int):Prop:=p.1<q.1\/p.1=q.1/\p.2<q.2
noncomputable def bI(n:Int)(ps:List (Int×Int)):D:=.tup [.int n,.tup (ps.map iJ)]
structure Web(n:Int)(ps:List (Int×Int)):Prop where
 h1:1<=n
 h8:n<=8
 tie:∀p∈ps,0<=p.1/\p.1<p.2/\p.2<n
 inc:ps.Pairwise lx
 len:(ps.length:Int)<=7*n
theorem zkA(h:∀x∈xs,x=.bl true):eG xs=some (List.replicate xs.length true):=by
 induction xs with
 |nil=>rfl
 |cons x r ih=>
  rw[h x (by simp)];show Option.map _ (eG r)=_;rw[ih λy hy=>h y (by simp[hy])];rfl
theorem Ub(h:∀x∈xs,x=.bl true):prim .all [.fl xs]=some (.dat (.bl true)):=by
 show Option.map _ (eG xs)=_;rw[zkA h];simp
theorem zn7(h:lx p q):ltI [p.1,p.2] [q.1,q.2]=true:=by
 simp only[ltI];rcases h with h|⟨h,h2⟩
 ·rw[if_neg (by lia)];simp[h]
 ·rw[if_pos h,if_neg (by lia)];simp[h2]
theorem Uc(xs:List D):cut xs (some 1) none=xs.drop 1:=by
 unfold cut;rw[HT.uo];rw[show (some 1:Option Int)=some ((1:Nat):Int) from rfl,HT.wW];cases xs with
 |nil=>rfl
 |cons x r=>simp
theorem ziO:∀{ps:List (Int×Int)},ps.Pairwise lx->∀x∈List.zipWith (λ(p q:D)=>D.tup [p,q]) (ps.map iJ) ((ps.map iJ).drop 1),∃p q,x=.tup [iJ p,iJ q]/\lx p q
 |[],_,x,hx=>by simp at hx
 |[p],_,x,hx=>by simp at hx
 |p::q::r,h,x,hx=>by
  rw[show (List.map iJ (p::q::r)).drop 1=List.map iJ (q::r) from rfl] at hx;have e:List.zipWith (λ(p q:D)=>D.tup [p,q]) (List.map iJ (p::q::r)) (List.map iJ (q::r))=.tup [iJ p,iJ q]::List.zipWith (λ(p q:D)=>D.tup [p,q]) (List.map iJ (q::r)) (List.map iJ r):=rfl;rw[e,gY] at hx;rcases hx with rfl|hx
  ·exact⟨p,q,rfl,(Dv.mp h).1 q (by simp)⟩
  ·exact ziO (ps:=q::r) (Dv.mp h).2 x hx
theorem zgW:∀(xs:List D) (j i:Nat),(enumFrom j xs)[i]?=xs[i]?.map λx=>.tup [.int ((j+i:Nat):Int),x]
 |[],j,i=>by simp[enumFrom]
 |x::r,j,0=>by simp[enumFrom]
 |x::r,j,i+1=>by
  simp only[enumFrom,Dk,zgW r (j+1) i];rw[show j+1+i=j+(i+1) by lia]
theorem zew:∀(xs:List D) (j:Nat),(enumFrom j xs).length=xs.length
 |[],j=>rfl
 |x::r,j=>by simp[enumFrom,zew r (j+1)]
theorem zfO(h:zm xs=some ys):prim .sorted [.fl xs]=some (.nw ys):=by
 show Option.map Rz.nw (zm xs)=_;rw[h];rfl
theorem zhO{es:List Int}(uD:es.length<64)(h:es.Pairwise (·<·)):zm (es.map D.int)=some (es.map D.int):=by
 refine zib ?_ (by rw[cg];exact uD) λk hk=>?_
 ·rw[Bool.or_eq_true]
  left
  rw[Gs,iY];intro x _;rfl
 ·rw[cg] at hk;unfold zj;rw[iW,iW,dj hk,dj (show k<es.length by lia)];have:=List.pairwise_iff_getElem.mp h k (k+1) (by lia) hk (by lia);simp only[Option.map_some]
  congr 1
  apply jG
  lia
noncomputable def endOf(i:Int)(p:Int×Int):Option Int:=if p.1=i then some p.2 else if p.2=i then some p.1 else none
noncomputable def bK(i:Int)(ps:List (Int×Int)):List Int:=ps.filterMap (endOf i)
theorem zd6(h:Web n ps)(i:Int):(bK i ps).Pairwise (·<·):=by
 have ht:=h.tie;have hi:=h.inc;clear h;unfold bK
 induction ps with
 |nil=>simp
 |cons p r ih=>
  obtain⟨hp,hr⟩:=Dv.mp hi;have ih:=ih (λq hq=>ht q (by simp[hq])) hr;rw[Dp]
  split
  ·exact ih
  ·rename_i b eb;refine Dv.mpr ⟨λc hc=>?_,ih⟩;obtain⟨q,hq,eq⟩:=Ds.mp hc;have l:=hp q hq;have tp:=ht p (by simp);have tq:=ht q (by simp[hq]);unfold endOf at eb eq;unfold lx at l;split at eb
   ·cases eb;split at eq
    ·cases eq;lia
    ·split at eq
     ·cases eq;lia
     ·cases eq
   ·split at eb
    ·cases eb;split at eq
     ·cases eq;lia
     ·split at eq
      ·cases eq;lia
      ·cases eq
    ·cases eb
theorem zeG(h:Web n ps)(he:e∈bK i ps):0<=e/\e<n:=by
 obtain⟨q,hq,eq⟩:=Ds.mp he;have tq:=h.tie q hq;unfold endOf at eq;split at eq
 ·cases eq;lia
 ·split at eq
  ·cases eq;lia
  ·cases eq
theorem Ud:∀{es:List Int} {a n:Int},es.Pairwise (·<·)->(∀e∈es,a<=e/\e<n)->a<=n->(es.length:Int)<=n-a
 |[],a,n,_,_,h=>by simp;lia
 |e::r,a,n,h,hb,ha=>by
  obtain⟨h1,h2⟩:=Dv.mp h;have he:=hb e (by simp);have:=Ud (es:=r) (a:=e+1) (n:=n) h2 (λx hx=>⟨by have:=h1 x hx;lia,(hb x (by simp[hx])).2⟩) (by lia);rw[fK]
  lia
theorem zld{a b:Int}{i:Nat}{x:D}(h:(jB a b)[i]?=some x):x=.int (a+i)/\a+i<b:=by
 unfold jB at h;rw[iW] at h;cases e:(List.range (b-a).toNat)[i]? with
 |none=>rw[e] at h;cases h
 |some j=>
  rw[e] at h;cases h;obtain⟨hl,rfl⟩:=dN.mp e;rw[pI] at hl;rw[K7];exact⟨rfl,by lia⟩
theorem ziG:(jB a b).length=(b-a).toNat:=by unfold jB;simp
theorem lV(h1 : -1000<=a)(h2:a<=1000):fV a=true:=by
 unfold fV;rw[jP (by lia),jP (by lia)];rfl
theorem wD(hl:locs xs=[s.length])(h:W (F (dB 0 xs)) [o] λv s1=>∃d o',v=.d d/\s1=[o']/\P (.d d) (s++[o'])):W (bZ F xs) (s++[o]) P:=by
 refine T4 (n:=s.length) (o:=o) hl (by simp) (h.imp λv s1=>?_);rintro⟨d,o',rfl,rfl,hp⟩;exact⟨d,o',rfl,rfl,by rw[show (s++[o]).set s.length o'=s++[o'] by simp];exact hp⟩
theorem zkE{ns:List Int}{lo hi:Option Int}{x:D}(h:x∈cut (ns.map D.int) lo hi):∃n,x=.int n:=by
 have:=List.mem_of_mem_drop (Pq h);obtain⟨n,_,rfl⟩:=pJ.mp this;exact⟨n,rfl⟩
theorem zkr{ns:List Int}{lo hi:Option Int}:(cut (ns.map D.int) lo hi).length<=ns.length:=by
 unfold cut;rw[Ag,Le,cg]
 lia
section
variable {aq:Nat->Nat->Bool}{F:Fn}{J:Vs}{s:S}{P:Xv->S->Prop}
end
noncomputable def at'(fs:List Int)(j:Int):Int:=fs.getD j.toNat 0
theorem Ue{fs:List Int}{j:Int}(h0:0<=j)(h:j<fs.length):∃(i:Nat) (hi:i<fs.length),j=i/\at' fs j=fs[i]:=by
 obtain⟨i,rfl⟩:=Ad h0;have hi:i<fs.length:=by lia
 refine⟨i,hi,rfl,?_⟩;unfold at';rw[o_,lZ,dj hi];rfl
theorem NP{fs:List Int}{j:Int}(h0:0<=j)(h:j<fs.length):at' fs j∈fs:=by
 obtain⟨i,hi,_,e⟩:=Ue h0 h;rw[e];exact Lg _
theorem zoZ{fs:List Int}{j:Int}(h0:0<=j)(h:j<fs.length):(fs.map D.int)[j.toNat]?=some (.int (at' fs j)):=by
 obtain⟨i,hi,rfl,e⟩:=Ue h0 h;rw[e,o_,iW,dj hi];rfl
theorem lW{fs gs:List Int}{j:Int}(h0:0<=j)(h:j<fs.length):at' (fs++gs) j=at' fs j:=by
 obtain⟨i,hi,rfl,e⟩:=Ue h0 h;unfold at';rw[o_,lZ,lZ,nQ hi]
theorem zW:at' (fs++[x]) fs.length=x:=by
 unfold at';rw[o_,lZ,qF (bO _)];simp
theorem vB(h0:0<=j)(h:xs[j.toNat]?=some x):prim .ix [.fl xs,.int j]=some (.dat x):=by
 obtain⟨k,rfl⟩:=Ad h0;exact Fq h
theorem zk1(h0:0<=j)(h:xs[j.toNat]?=some x):prim .ix [.tup xs,.int j]=some (.dat x):=vB h0 h
theorem zmd(h0:0<=j)(h:j<fs.length):prim .ix [.fl (fs.map .int),.int j]=some (.dat (.int (at' fs j))):=vB h0 (zoZ h0 h)
theorem zng(h0:0<=j)(h:j<fs.length):prim .ix [.tup (fs.map .int),.int j]=some (.dat (.int (at' fs j))):=vB h0 (zoZ h0 h)
theorem Ug:L2.pC (n+1) (-1)=some n:=by
 unfold L2.pC;simp
 lia
theorem Kf:prim .ix [.fl (xs++[x]),.int (-1)]=some (.dat x):=by
 show Option.map Rz.dat (L2.n_ (xs++[x]) (-1))=_;have:L2.n_ (xs++[x]) (-1)=some x:=by
  unfold L2.n_;rw[dG];show (L2.pC (xs.length+1) (-1)).bind _=_;rw[Ug];simp
 rw[this];rfl
noncomputable def fH(k a b:Int):Int:=if k-(if a-b<0 then -(a-b) else a-b)<(if a-b<0 then -(a-b) else a-b) then k-(if a-b<0 then -(a-b) else a-b) else (if a-b<0 then -(a-b) else a-b)
theorem Ft(hd:1<=d):d<=fH k a b↔(d<=a-b/\a-b<=k-d)\/(d<=b-a/\b-a<=k-d):=by
 unfold fH
 split<;>split<;>lia
structure Uh(n k d:Int)(ps:List (Int×Int))(hs:List Int):Prop where
 len:(hs.length:Int)=n
 lo:∀x∈hs,0<=x/\x<k
 fit:∀p∈ps,d<=fH k (at' hs p.1) (at' hs p.2)
section
variable {aq:Nat->Nat->Bool}{aj:Bool}{F:Bool->Fn}{J:Vs}{s:S}{Q:Out->S->Prop}
theorem WS.wh(I:Nat->Vs->S->Prop)(hm:m<oK)(h0:I m J s)
  (step:∀m J s,I m J s->W (ev aq aj (F aj) c J) s λx s1=>W (Mi.bool x) s1 λk s2=>(k=true->WS (exs aq aj F b J) s2 λo s3=>(∃J' m',o=.nx J'/\m'<m/\I m' J' s3)\/(∃x,o=.rt x/\Q (.rt x) s3))/\(k=false->Q (.nx J) s2)):WS (ex aq aj F (.wh c b) J) s Q:=by
 have key:∀n m J s,m<n->I m J s->WS (gQ (λJ=>M.bd (ev aq aj (F aj) c J) Mi.bool) (λJ=>exs aq aj F b J) n J) s Q:=by
  intro n
  induction n with
  |zero=>intro m J s h;exact absurd h (Nat.not_lt_zero _)
  |succ n ih=>
   intro m J s hmn hI;obtain⟨x,s1,e1,k,s2,e2,hk⟩:=step m J s hI;unfold gQ;refine WS.ofM (W.bd ⟨x,s1,e1,k,s2,e2,?_⟩);cases k with
   |false=>exact⟨_,s2,by rw[if_neg (by decide)],hk.2 rfl⟩
   |true=>
    obtain⟨o,s3,e3,hr⟩:=hk.1 rfl;rcases hr with ⟨J',m',rfl,El,yr⟩|⟨x,rfl,hq⟩
    ·obtain⟨o2,s4,e4,q⟩:=ih m' J' s3 (by lia) yr;exact⟨o2,s4,by rw[if_pos rfl,e3];exact e4,q⟩
    ·exact⟨_,s3,by rw[if_pos rfl,e3],hq⟩
 exact key oK m J s hm h0
end
section
variable {aq:Nat->Nat->Bool}{aj:Bool}{F:Fn}{J:Vs}{s:S}{P:Xv->S->Prop}
theorem W.pop(h:W (ev aq aj F o J) s λv s1=>v=.l n/\s1[n]?=some (.lst (xs++[x]))/\P (.d x) (s1.set n (.lst xs))):W (ev aq aj F (.pop o) J) s P:=by
 refine W.bd (h.imp λv s1 h=>?_);obtain⟨rfl,e,h⟩:=h;refine W.bd (W.cQ e ?_);have e1:(xs++[x]).getLast?=some x:=by simp
 have e2:(xs++[x]).dropLast=xs:=by simp
 simp only[e1,e2];exact W.bd (Nu (W.ret h))
end
def Ge(h r:List Int):Prop:=∀j:Nat,j<r.length->(∀i:Nat,i<j->at' h i=at' r i)->at' r j<=at' h j
theorem zgy(g:Ge h r)(h0:∀j:Nat,0<=at' h j):Ge h (r++[0]):=by
 intro j hj ha;rw[dG] at hj;by_cases hl:j<r.length
 ·rw[lW (by lia) (by lia)];exact g j hl λi hi=>by rw[ha i hi,lW (by lia) (by lia)]
 ·have:j=r.length:=by simp at hj;lia
  subst this;rw[zW];exact h0 _
theorem ziX(g:Ge h (r++[x]))(hx:(∀i:Nat,i<r.length->at' h i=at' r i)->at' h r.length≠x):Ge h (r++[x+1]):=by
 intro j hj ha;rw[dG] at hj;by_cases hl:j<r.length
 ·rw[lW (by lia) (by lia)];have:=g j (by rw[dG];lia) λi hi=>by rw[ha i hi,lW (by lia) (by lia),lW (by lia) (by lia)]
  rwa [lW (by lia) (by lia)] at this
 ·have:j=r.length:=by simp at hj;lia
  subst this;rw[zW];have ha':∀i:Nat,i<r.length->at' h i=at' r i:=λi hi=>by rw[ha i hi,lW (by lia) (by lia)]
  have:=g r.length (by simp) λi hi=>by rw[ha' i hi,lW (by lia) (by lia)]
  rw[zW] at this;have:=hx ha'
  lia
theorem zly(g:Ge h (r++[y]++[x]))(hx:(∀i:Nat,i<(r++[y]).length->at' h i=at' (r++[y]) i)->False):Ge h (r++[y+1]):=by
 have g1:Ge h (r++[y]):=by
  intro j hj ha;have:=g j (by rw[dG];lia) λi hi=>by rw[ha i hi,lW (fs:=r++[y]) (gs:=[x]) (by lia) (by lia)]
  rwa [lW (by lia) (by lia)] at this
 refine ziX g1 λha e=>hx λi hi=>?_;rw[dG] at hi;by_cases hl:i<r.length
 ·rw[ha i hl,lW (by lia) (by lia)]
 ·have:i=r.length:=by simp at hi;lia
  subst this;rw[zW,e]
noncomputable def val(B:Nat):List Int->Nat->Nat
 |[],_=>0
 |x::r,n=>x.toNat*B^(n-1)+val B r (n-1)
theorem CZ(B:Nat):∀(r t:List Int) (n:Nat),val B (r++t) n=val B r n+val B t (n-r.length)
 |[],t,n=>by simp[val]
 |x::r,t,n=>by
  simp only[List.cons_append,val,CZ B r t (n-1),fK];rw[show n-1-r.length=n-(r.length+1) by lia]
  lia
theorem NQ{B:Nat}(hB:0<B):∀{r:List Int} {n:Nat},(∀z∈r,z<B)->r.length<=n->val B r n+B^(n-r.length)<=B^n
 |[],n,_,_=>by simp[val]
 |x::r,n,h,hl=>by
  rw[fK] at hl;have ih:=NQ hB (r:=r) (n:=n-1) (λz hz=>h z (by simp[hz])) (by lia);have hx:x.toNat+1<=B:=by have:=h x (by simp);lia
  simp only[val,fK];rw[show n-(r.length+1)=n-1-r.length by lia];have h2:B^n=B*B^(n-1):=by
   conv=>lhs;rw[show n=n-1+1 by lia]
   rw[Nat.pow_succ,Nat.mul_comm]
  rw[h2];have h3:=Dn (B^(n-1)) hx;rw[Ao] at h3
  lia
noncomputable def left'(B n:Nat)(r:List Int):Nat:=(n+1)*(B^n-val B r n)+(n-r.length)
theorem zgb(h:r.length<n):left' B n (r++[0])<left' B n r:=by
 unfold left';rw[CZ];simp[val]
 lia
theorem zgP{B n a b la lb:Nat}(h:a<b)(hb:b<=B^n)(hl:la<=n)(tu:lb<=n):(n+1)*(B^n-b)+(n-lb)<(n+1)*(B^n-a)+(n-la):=by
 have:B^n-b+1<=B^n-a:=by lia
 have:=K6 (n+1) this;rw[Nat.mul_add] at this
 lia
theorem zih{B n:Nat}{r:List Int}{x:Int}(h0:0<=x)(hx:x+1<B)(hr:∀z∈r,z<B)(h:r.length<n):left' B n (r++[x+1])<left' B n (r++[x]):=by
 have h1:=NQ (B:=B) (by lia) (r:=r++[x+1]) (n:=n) (λz hz=>by
  rcases iR.mp hz with hz|hz
  ·exact hr z hz
  ·have:z=x+1:=by simpa using hz
   lia) (by rw[dG];simp;lia)
 unfold left';refine zgP ?_ (by lia) (by simp;lia) (by simp;lia);rw[CZ,CZ];simp only[val];rw[show (x+1).toNat=x.toNat+1 by lia,Ao];have:0<B^(n-r.length-1):=Nat.pow_pos (by lia)
 lia
theorem zhT{B n:Nat}{r:List Int}{y x:Int}(h0:0<=y)(hy:y+1<B)(Ui:0<=x)(hx:x<B)(hr:∀z∈r,z<B)(h:r.length+1<n):left' B n (r++[y+1])<left' B n (r++[y]++[x]):=by
 have h1:=NQ (B:=B) (by lia) (r:=r++[y+1]) (n:=n) (λz hz=>by
  rcases iR.mp hz with hz|hz
  ·exact hr z hz
  ·have:z=y+1:=by simpa using hz
   lia) (by rw[dG];simp;lia)
 unfold left';refine zgP ?_ (by lia) (by simp;lia) (by simp;lia);rw[CZ,CZ,CZ];simp only[val,dG];rw[show (y+1).toNat=y.toNat+1 by lia,Ao];have e1:B^(n-r.length-1)=B*B^(n-(r.length+[y].length)-1):=by
  conv=>lhs;rw[show n-r.length-1=n-(r.length+[y].length)-1+1 by simp;lia]
  rw[Nat.pow_succ,Nat.mul_comm]
 have h2:x.toNat+1<=B:=by lia
 have h3:=Dn (B^(n-(r.length+[y].length)-1)) h2;rw[Ao] at h3;have:0<B^(n-(r.length+[y].length)-1):=Nat.pow_pos (by lia)
 lia
theorem zjE(xs:List D):cY 50 (.fl xs) (.fl [])=some (decide (xs=[])):=by
 cases xs with
 |nil=>rfl
 |cons x r=>rfl
theorem NT:yZ f [.fl xs,.fl []]=some (.dat (.bl (f (decide (xs=[]))))):=by
 show Option.map _ (cY 50 (.fl xs) (.fl []))=_;rw[zjE];rfl
noncomputable def aM(k d:Int):D:=.tup [.int k,.int d]
section
variable {n k d:Int}{ps:List (Int×Int)}{ls:List Int}
end
section
variable {aq:Nat->Nat->Bool}{F:Fn}{J:Vs}{s:S}{P:Xv->S->Prop}
end
theorem yu{α:Type}{l:List α}{f:α->D}:l.filterMap (λx=>some (f x))=l.map f:=by
 rw[<-List.filterMap_eq_map];rfl
theorem zmw{α:Type}{l:List α}{f:α->D}{q:α->Prop}[DecidablePred q]:l.filterMap (λx=>if q x then some (f x) else none)=(l.filter λx=>decide (q x)).map f:=by
 induction l with
 |nil=>rfl
 |cons x r ih=>
  rw[Dp,List.filter_cons];by_cases e:q x
  ·simp[e,ih]
  ·simp[e,ih]
theorem Kbc(I:Nat->Vs->S->Prop)(h0:I 0 J s)(hb:∀i x J s,c[i]?=some x->I i J s->WS (b x J) s λo s'=>(∃J',o=.nx J'/\I (i+1) J' s')\/(∃x,o=.rt x/\Q (.rt x) s'))
  (he:∀J s,I c.length J s->Q (.nx J) s):WS (cT (.fix c) b (c.length+1) 0 J) s Q:=by
 have key:∀n i J s,i+n=c.length->I i J s->WS (cT (.fix c) b (n+1) i J) s Q:=by
  intro n
  induction n with
  |zero=>
   intro i J s hi hI;have e:c[i]?=none:=by rw[pG];lia
   have:i=c.length:=by lia
   subst this;refine⟨_,s,?_,he J s hI⟩;unfold cT;simp only[Src.at,e]
  |succ n ih=>
   intro i J s hi hI;have dU:i<c.length:=by lia
   have e:c[i]?=some c[i]:=dj dU;obtain⟨o,s',eb,hr⟩:=hb i c[i] J s e hI;rcases hr with ⟨J',rfl,yr⟩|⟨x,rfl,hq⟩
   ·obtain⟨o2,s2,e2,q⟩:=ih (i+1) J' s' (by lia) yr;refine⟨o2,s2,?_,q⟩;unfold cT;simp only[Src.at,e,eb];exact e2
   ·refine⟨_,s',?_,hq⟩;unfold cT;simp only[Src.at,e,eb]
 exact key c.length 0 J s (by lia) h0
theorem Kg(h:xs.length+ys.length<=sizeLine):prim .add [.tup xs,.tup ys]=some (.dat (.tup (xs++ys))):=by
 show (if _ then _ else _)=_;rw[if_pos h]
noncomputable def lX:D->Bool
 |.exc _ _=>false
 |.ob _ _=>false
 |.any=>false
 |_=>true
noncomputable def whB:D->Bool
 |.int _=>true
 |_=>false
noncomputable def zX:D->Bool
 |.tup xs=>xs.all lX
 |d=>lX d
theorem zgE{α:Type}(l:List α)(f:α->Bool):eG (l.map λx=>D.bl (f x))=some (l.map f):=by
 induction l with
 |nil=>rfl
 |cons x r ih=>
  show Option.map _ (eG (r.map λx=>D.bl (f x)))=_;rw[ih];rfl
theorem Uj{α:Type}{l:List α}{f:α->Bool}:prim .all [.fl (l.map λx=>D.bl (f x))]=some (.dat (.bl (l.all f))):=by
 show Option.map _ (eG (l.map λx=>D.bl (f x)))=_;rw[zgE];show some (Rz.dat (.bl ((l.map f).all id)))=_;rw[Gs];rfl
theorem zgJ(h:x∈cut xs lo hi):x∈xs:=List.mem_of_mem_drop (Pq h)
theorem zgt:(cut xs lo hi).length<=xs.length:=by
 unfold cut;rw[Ag,Le]
 lia
section
variable {n m:Int}{ps:List (Int×Int)}
end
end Mi
namespace Mi
open PySem PySem.W PyProof.Rows L2
structure Ord(n:Nat)(lt:Nat->Nat->Option Bool)(le:Nat->Nat->Prop):Prop where
 ans:∀i j,i<n->j<n->(lt i j=some true/\le i j)\/(lt i j=some false/\le j i)
 tr:∀i j k,i<n->j<n->k<n->le i j->le j k->le i k
section
variable {lt:Nat->Nat->Option Bool}{le:Nat->Nat->Prop}{n:Nat}
variable (o:Ord n lt le)(hn:0<n)
include o hn
end
end Mi
namespace Ts
open PySem PySem.SetTable
end Ts
namespace Ts
open Mi PySem PySem.SetTable
end Ts
namespace Ts
open PySem PySem.SetTable
section
variable {prog:Program}{w:World}{A:Around}{E:Value->Shared->Prop}{s:Shared}{S:Addr}{items:List Value}{ts:List (Int×Int)}{L:Ent}{led:Bool}
end
end Ts
namespace Ts
open Mi (zp)
open PySem PySem.SetTable
section
variable {prog:Program}{w:World}{A:Around}{E:Value->Shared->Prop}{s:Shared}{S:Addr}{items:List Value}{ts:List (Int×Int)}{L:Ent}{led:Bool}
end
end Ts
namespace Ts
open PySem PySem.SetTable
section
variable {prog:Program}{w:World}{A:Around}{R:Result->Shared->Prop}{I:Addr}{fp wr:List Addr}{G:Array GenState->Array GenState->Prop}{n:Nat}{P:Nat->Value->Prop}{St:Nat->Shared->Prop}{S:Addr}{items:List Value}{ts:List (Int×Int)}{led:Bool}
end
section
variable {prog:Program}{w:World}{A:Around}{E:Value->Shared->Prop}{s:Shared}
end
section
variable {prog:Program}{w:World}{A:Around}{E:Value->Shared->Prop}{s:Shared}{S:Addr}{items:List Value}{ts:List (Int×Int)}{L:Ent}
end
end Ts
namespace Ts
open PySem PySem.SetTable PySem.Spec PyProof.Rows PySem.W L2
section
variable {prog:Program}{w:World}{A:Around}{E:Value->Shared->Prop}{s:Shared}{S:Addr}{items:List Value}{ts:List (Int×Int)}{L:Ent}
end
end Ts
namespace Mi
open PySem PySem.Spec PyProof.Rows L2 PySem.W Ts
section
variable {prog:Program}{w:World}{A:Around}{E:Value->Shared->Prop}{s:Shared}{S:Addr}{items:List Value}{ts:List (Int×Int)}{L:Ent}
end
section
variable {X:Cx}
end
section
variable {K:W.Frag}{cA:Cl}{U:Ph}{H:Hp}
end
section
variable {X:Cx}{cA:Cl}{aq:Nat->Nat->Bool}{aj:Bool}{F:Fn}{EX:XS}{e:Expr}{pos pos' p p':Pos}{Xs:Es}{fz:Bool}
end
end Mi
namespace Mi
open PySem PySem.Spec PyProof.Rows L2 PySem.W
section
variable {X:Cx}{a b:Expr}{rest:List Expr}{pos:Pos}{ta tb:TE}
end
section
variable {K:W.Frag}{cA:Cl}{U:Ph}{H:Hp}
theorem zls{d:D}{v:V}{k:Bool}(r:Rv K cA U H d v)(e:xJ d=some k):Br K v H k:=by
 cases d with
 |non=>
  cases (show Rep K cA U H .non v from r);cases e;rfl
 |bl c=>
  cases (show Rep K cA U H (.bl c) v from r);cases e;rfl
 |int i=>
  cases (show Rep K cA U H (.int i) v from r);cases e;rfl
 |tup xs=>
  cases (show Rep K cA U H (.tup xs) v from r) with
  |tup t q=>
   cases e;refine .inr (.inl ⟨_,t.jm,?_⟩);cases q<;>rfl
 |fl xs=>
  obtain⟨a,us,rfl,sq,q⟩ : ∃a us,v=.ref a/\cO K H a us/\aC K cA U H xs us:=r;cases e;refine .inl ⟨_,sq,?_⟩;cases q<;>rfl
 |_=>cases e
end
section
variable {X:Cx}{cA:Cl}{aq:Nat->Nat->Bool}{aj:Bool}{F:Fn}{EX:XS}{a b:Expr}{A B:E}{pos p:Pos}{x:Str}{e:Expr}{es:List Expr}{Xs:Es}
noncomputable def vC(sc:Scope)(x:Str):Bool:=match sc.names.lookup x with
 |some k=>Cz k
 |none=>false
noncomputable def NZ(sc:Scope)(x:Str):Bool:=match sc.names.lookup x with
 |some .globalImplicit=>true
 |_=>false
theorem Uk{sc:Scope}{x:Str}(h:vC sc x=true):∃k,sc.names.lookup x=some k/\Cz k=true:=by
 unfold vC at h;split at h
 ·rename_i k e;exact⟨k,e,h⟩
 ·cases h
theorem ziv{sc:Scope}{x:Str}(h:NZ sc x=true):sc.names.lookup x=some .globalImplicit:=by
 unfold NZ at h;split at h
 ·assumption
 ·cases h
theorem gk(h:NZ X.env.scope x=true:=by kernel_rfl):JK X x .globalImplicit:=⟨ziv h⟩
theorem jl(h:(match X.env.scope.names.lookup x with|some .local=>true|_=>false)=true:=by kernel_rfl):JK X x .local:=by
 split at h
 ·exact⟨by assumption⟩
 ·cases h
theorem jc(h:(match X.env.scope.names.lookup x with|some .cell=>true|_=>false)=true:=by kernel_rfl):JK X x .cell:=by
 split at h
 ·exact⟨by assumption⟩
 ·cases h
theorem rC{scope:Scope}{cl:List (Str×Addr)}{N:List Str}{Cc:Addr}{s3:Shared}{H3:Hp}{fp:List Addr}{ao:List (Addr×Obj)}(h:NZ scope x=true:=by kernel_rfl):JK (X.blk scope cl N Cc s3 H3 fp ao) x .globalImplicit:=ZQ (ziv h) rfl
theorem gv(i:Nat)(h:(decide (X.N[i]?=some x)&&vC X.env.scope x&&okN x)=true:=by kernel_rfl):JE X cA aq aj F EX (.Name x pos) (.v i):=by
 rw[eY,eY] at h;obtain⟨k,e,hv⟩:=Uk h.1.2;exact ZR i (ji h.1.1) ⟨e⟩ hv h.2
theorem bJ(i:Nat){scope:Scope}{cl:List (Str×Addr)}{N:List Str}{Cc:Addr}{s3:Shared}{H3:Hp}{fp:List Addr}{ao:List (Addr×Obj)}(h:(decide (N[i]?=some x)&&vC scope x&&okN x)=true:=by kernel_rfl):JE (X.blk scope cl N Cc s3 H3 fp ao) cA aq aj F EX (.Name x pos) (.v i):=by
 rw[eY,eY] at h;obtain⟨k,e,hv⟩:=Uk h.1.2;by_cases hk:k=.free
 ·subst hk;exact zph i (ji h.1.1) e h.2
 ·exact ZR i (ji h.1.1) (ZQ e (by cases k<;>first|rfl|exact absurd rfl hk)) hv h.2
theorem gc{f k:Nat}{cm:Bool}{st:Stmt}{ps:List Str}(Fo:cB X.prog X.w X.K X.mg X.base (gD X.prog X.w) cm k (iI X.K x) (fdOf X.K x st) ps (lR X.K cA (F f)))(D:D3 X.K X.mg x st ps)(hr:bA k X.A)(R:JR X EX)(g:JK X x .globalImplicit)(ha:JA X cA aq aj F EX (e::es) Xs)(h:okN x=true:=by kernel_rfl)
  (jw:cm=true->X.aj=true:=by first|exact λ_=>rfl|exact λz=>nomatch z) (he:aD e=true:=by rfl) (hpl:es.all aD=true:=by rfl):JE X cA aq aj F EX (.Call (.Name x p) (e::es) [] pos) (.call f Xs):=
 zlx f Fo jw hr D.m D.f.kp D.b R g ha h he hpl
theorem nd(h:decide X.N.Nodup=true:=by kernel_rfl):X.N.Nodup:=ji h
end
theorem fJ{P:Program}{w:World}{K:W.Frag}{mg:Str->Option Value}{base:Heap}{cA:Cl}{aq:Nat->Nat->Bool}{T:Nat->Option Df}{x:Str}{st:Stmt}{ps:List Str}{k n:Nat}{cm:Bool}{df:Df}(D:D3 K mg x st ps)(N:List Str)(hT:T n=some df)
  (hb:∀(cdv:Value) (A:Around) (outer:List Env) (s:Shared) (H:Hp) (E:XK),bA k (A.deeper (envOfC x (au st) s.heap.objs.size (iI K x) cdv))->
   JB (gq (gD P w) P w K mg base N x (au st) (iI K x) cdv A outer s H E cm) cA aq cm (λc=>call aq T k c) (λ_ C dx H'=>E C dx H') (aK st) df.body) (S:dh N ps (au st):=by exact⟨rfl,rfl,rfl,dk,rfl,dk,dk⟩) (hp:df.gw=ps.length:=by rfl) (hm:df.many=N.length:=by rfl) :
  cB P w K mg base (gD P w) cm (k+1) (iI K x) (fdOf K x st) ps (lR K cA (call aq T (k+1) cm n)):=ziD D.f S hT hp hm hb
end Mi
namespace Mi
open PySem PySem.Spec PyProof.Rows L2
section
variable {K:W.Frag}{cA:Cl}{U:Ph}{H:Hp}{s:S}
theorem zd4{β:Type}{c:Nat}{x:Xv}{v:V}{k:List D->M β}{P:β->S->Ph->Hp->Prop}{Ee:Nat->List D->S->Ph->Hp->Prop}(r:bw K cA U H x v)(h:Run K cA (M.bd (rR c x) k) U H s P Ee) :
  ∃fs ad dx vs,v=.ref ad/\H ad=some (.ins (cA.b c) dx ((cA.g c).zip vs))/\aC K cA U H fs vs/\Run K cA (k fs) U H s P Ee:=by
 cases r with
 |l _=>exact h.elim
 |d r=>cases r with
  |@ob ad e fs vs q r=>
   have h2:Run K cA (M.bd (if e=c then M.ret fs else M.no) k) U H s P Ee:=h;clear h;by_cases z:e=c
   ·rw[if_pos z] at h2;subst z;obtain⟨_,dx,q1,_⟩:=q;exact⟨fs,ad,dx,vs,rfl,q1,r,h2⟩
   ·rw[if_neg z] at h2;exact h2.elim
  |_=>exact h.elim
theorem Run.qt'{α:Type}{m:M α}{P:α->S->Ph->Hp->Prop}{Ee Ee':Nat->List D->S->Ph->Hp->Prop}(h:Run K cA (M.qt m) U H s P Ee):Run K cA m U H s P Ee':=by
 unfold Run M.qt at *;cases e:m s with
 |none=>rw[e] at h;exact h
 |some r=>
  obtain⟨r,s1⟩:=r;rw[e] at h;cases r with
  |ok a=>exact h
  |er c f=>exact h.elim
theorem zcu:∀{ns:List Str} {vs:List V} {m:Str},m∉ns->(ns.zip vs).lookup m=none
 |[],vs,m,_=>by simp
 |n::ns,[],m,_=>by simp
 |n::ns,v::vs,m,h=>by
  rw[Ae,mj,show (m==n)=false from yF.mpr λe=>h (by simp[e])];exact zcu λz=>h (gb _ z)
end
structure Ow(K:W.Frag)(cA:Cl)(c:Nat):Prop where
 cl:Cls K (cA.b c)
 nf:∀f∈cA.g c,gM K (cA.b c) f
 nd:(cA.g c).Nodup
section
variable {X:Cx}{cA:Cl}{aq:Nat->Nat->Bool}{aj:Bool}{F:Fn}{EX:XS}{a e:Expr}{es:List Expr}{A:E}{Xs:Es}{pos apos p:Pos}{x:Str}
theorem Fw{c i:Nat}(o:Ow X.K cA c)(ha:JE X cA aq aj F EX a A)(hi:((cA.g c)[i]?==some x)=true:=by kernel_rfl)(hb:attributeBase a x X.env (eval a X.env)=eval a X.env:=by rfl):JE X cA aq aj F EX (.Attribute a x pos) (.of A c i):=⟨PE.weak (zmV ha.o hb) λZ H Q hh=>un hh λU J s hL hS h=>by
 refine bB hL hS h λy H1 U1 d1 s1 x1 hL1 aH r1 h1=>?_;obtain⟨fs,ad,dx,vs,rfl,q1,q2,h2⟩:=zd4 r1 h1;have hi:(cA.g c)[i]?=some x:=fL.mp hi;cases ef:fs[i]? with
 |none=>rw[ef] at h2;exact h2.elim
 |some d=>
  rw[ef] at h2;obtain⟨v,e1,rv⟩:=q2.get ef;exact⟨ad,_,dx,_,v,rfl,q1,o.cl,o.nf x (fZ hi),ze8 o.nd hi e1,h2.bG aH v (.d rv)⟩⟩
theorem zfW:Passes (gD X.prog X.w) X λ_ _ _=>False:=λao Z H s e s' I h=>by
 obtain⟨_,_,_,_,_,_,_,_,_,_,z⟩:=h;exact z.elim
structure Mt(K:W.Frag)(C:Addr)(m q:Str)(st:Stmt)(ps:List Str)(f:Addr)(fd:FuncData):Prop where
 fn:oO K m q st f fd
 mt:Meth K C m f
 bd:Binds K fd ps []
theorem yw{c f k:Nat}{cm:Bool}{m q:Str}{st:Stmt}{ps:List Str}{fa:Addr}{fd:FuncData}{pl:Sem Bool}(o:Ow X.K cA c)(D:Mt X.K (cA.b c) m q st ps fa fd)(Fo:cB X.prog X.w X.K X.mg X.base (gD X.prog X.w) cm k fa fd ps (lR X.K cA (F f)))(hr:bA k X.A)(ha:JE X cA aq aj F EX a A)(hb:JA X cA aq aj F EX (e::es) Xs)
  (hm:decide (m∉cA.g c)=true:=by kernel_rfl) (jw:cm=true->X.aj=true:=by first|exact λ_=>rfl|exact λz=>nomatch z) (he:aD e=true:=by rfl) (hpl:es.all aD=true:=by rfl)
  (ht:eval (.Call (.Attribute a m apos) (e::es) [] pos) X.env=(do
   let ov <-eval a X.env
   standAt apos.atName
   let (f,first) <-holding [ov] (getMethod ov m pl)
   callWith pos f first (backTo pos (starEach (e::es) X.env)) (backToKw pos (keywordEach [] X.env))):=by rfl):JE X cA aq aj F EX (.Call (.Attribute a m apos) (e::es) [] pos) (.cm c f A Xs):=⟨PE.weak (zkC (pl:=pl) (n8:=[]) ha.o o.cl D.mt Fo jw hr D.bd .nil zfW hb.o (bx he) (aV hpl) ht) λZ H Q hh=>un hh λU J s hL hS h=>by
 refine bB hL hS h λy H1 U1 d1 s1 x1 hL1 aH r1 h1=>?_;obtain⟨fs,ad,dx,vs,rfl,q1,q2,h2⟩:=zd4 r1 h1;refine⟨ad,dx,_,rfl,q1,zcu (ji hm),oM hL1 aH h2 λus H2 U2 ds s2 x2 hL2 aX r2 h3=>?_⟩;rw[yL];obtain⟨U0,s0,a1,a2,a3⟩:=Zq (EE:=λ_ _ _ _=>False) aX (.cons (r1.mono x2 aH.lz) r2) (λ_ _ _ _ _ _ z=>z) (h3.qt');refine⟨U0,_,s0,a1,a2,?_⟩;unfold Run at a3 ⊢;split at a3
 ·exact a3
 ·exact λU' H' x r=>(a3 U' H' x r).elim
 ·exact a3⟩
end
noncomputable def N5(K:W.Frag)(cA:Cl)(c:Nat)(m:List Xv->M Xv):Sp:=λvs H Q _=>∃x dx us U H0 xs s,vs=.ref x::us/\H0 x=none/\H0 dx=none/\dx≠x/\H=upd (upd H0 dx (.own x)) x (.ins (cA.b c) dx [])/\aP K cA U H0 xs us/\aF K cA U H0 s /\
 Run K cA (m (.d .any::xs)) U H0 s (λr _ U' H'=>∀ds ws,r=.d (.tup ds)->aC K cA U' H' ds ws->fC U' H' x (.ins (cA.b c) dx ((cA.g c).zip ws))->(cA.g c).length=ws.length->Q .non H') (λ_ _ _ _ _=>False)
section
variable {K:W.Frag}{cA:Cl}{U:Ph}{H:Hp}{s:S}
theorem zhR{xs:List Xv}{vs:List V}(h:locs xs=[])(r:aP K cA U H xs vs)(l:List Addr):aP K cA ⟨U.z,l⟩ H xs vs:=by
 induction r with
 |nil=>exact .nil
 |cons a r ih=>cases a with
  |d a=>exact .cons (.d (Rep.zl a l)) (ih h)
  |l a=>cases h
theorem Ext.made{x dx:Addr}{C:Addr}(hx:H x=none)(hd:H dx=none)(hn:dx≠x):Ext U H (U.mark x) (upd (upd H dx (.own x)) x (.ins C dx [])):=by
 have g:aY H (upd (upd H dx (.own x)) x (.ins C dx [])):=(aY.new hd).trans (aY.new (by rw[cW hn.symm];exact hx));exact⟨⟨[],by simp[Ph.mark],by simp⟩,λa z=>.inl z,λa z=>z.imp id λe=>by rw[e];exact hx,λa o h _=>g a o h,λa o h=>⟨o,g a o h⟩⟩
theorem aF.made{x dx:Addr}{C:Addr}(hS:aF K cA U H s)(hx:H x=none)(hd:H dx=none)(hn:dx≠x):aF K cA (U.mark x) (upd (upd H dx (.own x)) x (.ins C dx [])) s:=by
 have xt:=Ext.made (U:=U) (C:=C) hx hd hn;refine⟨hS.len,λn o a e1 e2=>(hS.obj n o a e1 e2).map (λu q=>?_) λ_ _ r=>r.mono xt hS.lz,hS.uniq,λa ha=>.inl (hS.lz a ha),λa z=>?_⟩
 ·have n1:a≠x:=λy=>by rw[y,hx] at q;cases q
  have n2:a≠dx:=λy=>by rw[y,hd] at q;cases q
  rw[cW n1,cW n2];exact q
 ·rcases z with z|z
  ·obtain⟨o,e⟩:=hS.zt a z;exact xt.stay a o e
  ·subst z;exact⟨_,iV⟩
end
section
variable {X:Cx}{cA:Cl}{aq:Nat->Nat->Bool}{aj:Bool}{F:Fn}{EX:XS}{e:Expr}{es:List Expr}{Xs:Es}{pos p:Pos}{x:Str}
theorem zpd{c f k:Nat}{cm:Bool}{ps:List Str}{fa:Addr}{fd:FuncData}(M:Mk X.K (cA.b c) fa)(Fo:cB X.prog X.w X.K X.mg X.base (gD X.prog X.w) cm k fa fd ps (N5 X.K cA c (F f)))(hr:∀us,bA k (X.A.under (.builtin "type.__call__" ⟨.ref (cA.b c)::us,[]⟩)))(hb:Binds X.K fd ps [])(hm:X.mg x=some (.ref (cA.b c)))(hg:JK X x .globalImplicit)
  (ha:JA X cA aq aj F EX (e::es) Xs) (h:okN x=true:=by kernel_rfl) (jw:cm=true->X.aj=true:=by first|exact λ_=>rfl|exact λz=>nomatch z) (he:aD e=true:=by rfl) (hpl:es.all aD=true:=by rfl):JE X cA aq aj F EX (.Call (.Name x p) (e::es) [] pos) (.mk c f Xs):=⟨PE.weak (zjv (n8:=[]) M Fo jw hr hg.o hm hb .nil zfW ha.o (qm h).1 (bx he) (aV hpl)) λZ H Q hh=>un hh λU J s hL hS h=>
 oM hL hS h λus H1 U1 ds s1 x1 hL1 aH r1 h1 x dx hx hd hn=>by
  rw[yL];unfold Run Sd at h1;by_cases hl:locs ds=[]
  ·simp only[if_pos hl] at h1;refine⟨x,dx,us,⟨U1.z,[]⟩,H1,ds,[],rfl,hx,hd,hn,rfl,zhR hl r1 [],⟨rfl,(λn o a e=>by simp at e),Al,(λa ha=>by cases ha),aH.zt⟩,?_⟩;unfold Run;cases e:F f (.d .any::ds) [] with
   |none=>simp only[e] at h1
   |some r=>
    obtain⟨r,s2⟩:=r;simp only[e] at h1;cases r with
    |er c f=>exact h1.elim
    |ok r=>
     intro U' H' xt aX ts ws er rs kp hlen;subst er;have nx:¬U1.z x:=aH.nz hx;have ne:∀a o,H1 a=some o->a≠x:=λa o q y=>by rw[y,hx] at q;cases q
     have xt2:Ext U1 H1 ⟨λa=>U'.z a/\a≠x,U1.l⟩ H':=by
      refine⟨⟨[],by simp,by simp⟩,λa z=>⟨xt.tG a z,λy=>nx (y▸z)⟩,λa z=>xt.m7 a z.1,λa o q _=>xt.frame a o q (by simp),xt.stay⟩
     refine⟨rfl,h1 _ H' xt2 ⟨aH.len,λn o a e1 e2=>(aH.obj n o a e1 e2).map (λu q=>xt.frame a u q (by simp)) λ_ _ r=>r.mono xt2 aH.lz,aH.uniq,λa ha=>⟨xt.tG a (aH.lz a ha),λy=>nx (y▸aH.lz a ha)⟩,λa z=>aX.zt a z.1⟩ _ (.d (.ob ⟨λz=>z.2 rfl,dx,kp.at_,hlen⟩ (rs.kj (U':=⟨λa=>U'.z a/\a≠x,U1.l⟩) λ_ z=>z.1)))⟩
  ·simp only[if_neg hl] at h1⟩
end
structure yx(X:Cx)(cA:Cl)(aq:Nat->Nat->Bool)(aj:Bool)(F:Fn)(EX:XS)(c:Nat)(body:List Stmt)(is:Es)(ns:List Str):Prop where
 o:nW X body λD Z H=>∃U0 H0 U J s x dx done vs ys,Ext U0 H0 U H/\aZ X.K cA U H Z J/\aF X.K cA U H s/\H0 x=none/\Z[0]?=some (some (.ref x))/\fC U H x (.ins (cA.b c) dx (done.zip vs))/\aP X.K cA U H ys vs/\done.length=vs.length/\done++ns=cA.g c/\done.length+ns.length<=900 /\
  Run X.K cA (M.bd (evs aq aj F is J) λzs=>bM (ys++zs)) U0 H0 s (λes _ U' H'=>∀ws,aC X.K cA U' H' es ws->fC U' H' x (.ins (cA.b c) dx ((cA.g c).zip ws))->(cA.g c).length=ws.length->D.nx Z H') (eX X.K cA EX Z)
theorem zem{f:Str}{v:V}:∀{fs:List (Str×V)},f∉fs.map (·.1)->fG f v fs=fs++[(f,v)]
 |[],_=>rfl
 |(g,x)::r,h=>by
  unfold fG;rw[if_neg λe=>h (by simp[e]),zem λz=>h (gb _ z)];rfl
theorem aP.out{K:W.Frag}{cA:Cl}{U:Ph}{H H':Hp}(x:dD U H H'):∀{ds:List Xv} {vs:List V},aP K cA U H ds vs->aP K cA U H' ds vs
 |_,_,.nil=>.nil
 |_,_,.cons h r=>.cons (h.out x) (aP.out x r)
theorem aP.app{K:W.Frag}{cA:Cl}{U:Ph}{H:Hp}:∀{ds es:List Xv} {vs us:List V},aP K cA U H ds vs->aP K cA U H es us->aP K cA U H (ds++es) (vs++us)
 |_,_,_,_,.nil,s=>s
 |_,_,_,_,.cons h r,s=>.cons h (aP.app r s)
theorem Run.er{K:W.Frag}{cA:Cl}{U:Ph}{H:Hp}{s:S}{α:Type}{m:M α}{P:α->S->Ph->Hp->Prop}{Ee:Nat->List D->S->Ph->Hp->Prop}(h:Run K cA m U H s P λ_ _ _ _ _=>False):Run K cA m U H s P Ee:=by
 unfold Run at *;split at h
 ·exact h
 ·exact λU' H' x r=>(h U' H' x r).elim
 ·exact h
section
variable {X:Cx}{cA:Cl}{aq:Nat->Nat->Bool}{aj:Bool}{F:Fn}{EX:XS}{c:Nat}{a:Expr}{A:E}{is:Es}{ns:List Str}{body:List Stmt}{f:Str}{pos p p2:Pos}
theorem zmC:yx X cA aq aj F EX c [] .nil []:=⟨λao s Z H D I hh=>W_ ao s Z H D I (by
 obtain⟨U0,H0,U,J,st,x,dx,done,vs,ys,xt,hL,hS,hx,h0,kp,rs,hl,hg,hz,h⟩:=hh;rw[yL] at hg;subst hg;have h2:Run X.K cA (M.bd (bM ys) M.ret) U H st (λes _ U' H'=>∀ws,aC X.K cA U' H' es ws->fC U' H' x (.ins (cA.b c) dx ((cA.g c).zip ws))->(cA.g c).length=ws.length->D.nx Z H') (eX X.K cA EX Z):=by
  have h3:=h.ext xt;unfold Run at h3 ⊢;have e0:M.bd (evs aq aj F .nil J) (λzs=>bM (ys++zs)) st=bM ys st:=by show bM (ys++[]) st=_;rw[yL]
  rw[e0] at h3;unfold M.bd;cases e1:bM ys st with
  |none=>rw[e1] at h3;exact h3
  |some r=>
   obtain⟨r,s2⟩:=r;rw[e1] at h3;cases r with
   |er c f=>exact h3
   |ok ds=>exact h3
 obtain⟨ds,_,rs2,h4⟩:=Js rs h2;exact h4.bG hS vs rs2 kp hl)⟩
theorem N6{j:Nat}(ow:Ow X.K cA c)(ha:JE X cA aq aj F EX a A)(hr:yx X cA aq aj F EX c body is ns)(h0:(decide (X.N[0]?=some ("self" : Str))&&vC X.env.scope "self"&&okN "self")=true:=by kernel_rfl)
  (hs:swapsWith a (some (.Attribute (.Name "self" p) f p2)) pos.line X.env=pure false:=by rfl):yx X cA aq aj F EX c (.Assign [.Attribute (.Name "self" p) f p2] a pos::body) (.cons A is) (f::ns):=by
 rw[eY,eY] at h0;obtain⟨k,e,hv⟩:=Uk h0.1.2;refine⟨λao s Z H D I hh=>Xa (zmI (W3 (i:=0) (ji h0.1.1) (by cases k<;>first|exact .inl e|exact .inr (.inl e)|exact .inr (.inr e)|cases hv) (qm h0.2).1 (qm h0.2).2.1) ha.o hs) hr.o ao s Z H D I ?_⟩;obtain⟨U0,H0,U,J,st,x,dx,done,vs,ys,xt,hL,hS,hx,Ui,kp,rs,hl,hg,hz,h⟩:=hh;have h:Run X.K cA (M.bd (M.bd (ev aq aj F A J) λy=>M.bd (evs aq aj F is J) λzs=>M.ret (y::zs)) λzs=>bM (ys++zs)) U0 H0 st _ _:=h;simp only[jL] at h;refine⟨U,J,st,hL,hS,(h.bd0 xt).imp λy s1 U1 H1 ⟨x1,aH,h1⟩ v rv=>?_⟩;have N7:=kp.mono x1;have nf:f∈cA.g c:=by rw[<-hg];simp
 have nd:f∉done:=λz=>by
  have:=ow.nd;rw[<-hg,Lb] at this;exact this.2.2 f z f (by simp) rfl
 have hk:(done.zip vs).map (·.1)=done:=by rw[List.map_fst_zip];lia
 refine⟨.ref x,Ui,x,_,dx,_,rfl,N7.at_,ow.cl,ow.nf f nf,?_,?_⟩
 ·have:(done.zip vs).length<=done.length:=by rw[List.length_zip];lia
  simp at hz
  lia
 rw[zem (by rw[hk];exact nd)];have ez:done.zip vs++[(f,v)]=(done++[f]).zip (vs++[v]):=by rw[List.zip_append hl];rfl
 rw[ez];have ox:dD U1 H1 (upd H1 x (.ins (cA.b c) dx ((done++[f]).zip (vs++[v])))):=N7.ext.1;refine⟨U0,H0,U1,J,s1,x,dx,done++[f],vs++[v],ys++[y],Ext.keep (vs:=[]) (xt.trans x1) hx,(hL.mono x1 hS.lz).out ox,aH.keep N7,hx,Ui,N7.ext.2,((rs.mono x1 hS.lz).app (.cons rv .nil)).out ox,by simp[hl],by rw[<-hg,La];rfl,by simp at hz ⊢;lia,?_⟩;have h1:Run X.K cA (M.bd (evs aq aj F is J) λzs=>M.bd (M.ret (y::zs)) λzs=>bM (ys++zs)) U0 H0 s1 _ _:=h1;have e2:(λzs=>bM (ys++[y]++zs))=λzs=>M.bd (M.ret (y::zs)) λzs=>bM (ys++zs):=by
  funext zs
  rw[La];rfl
 rw[e2];exact h1
end
theorem zg9{K:W.Frag}{cA:Cl}{U:Ph}{H:Hp}{s:S}{α:Type}{m m':M α}{P:α->S->Ph->Hp->Prop}{Ee:Nat->List D->S->Ph->Hp->Prop}(e:m s=m' s)(h:Run K cA m U H s P Ee):Run K cA m' U H s P Ee:=by
 unfold Run at *;rw[<-e];exact h
theorem zg7{aq:Nat->Nat->Bool}{T:Nat->Option Df}{k n m p:Nat}{cm:Bool}{is:Es}{xs:List Xv}{s:S}(hT:T n=some ⟨m,p,.cons (.ret (.tup is)) .nil⟩)(hl:xs.length=p) :
  call aq T (k+1) cm n xs s=M.bd (M.bd (evs aq cm (call aq T k cm) is (xs.map some++List.replicate (m-p) none)) bM) (λds=>M.ret (.d (.tup ds))) s:=by
 unfold call;simp only[hT,if_pos hl];show (match cH (ofM (M.bd (evs aq cm (call aq T k cm) is _) λvs=>M.bd (bM vs) λds=>M.ret (.d (.tup ds))) _ λx s=>some (.rt x,s)) _ s with|some (.nx _,s')=>_|some (.rt v,s')=>_|some (.er c fs _,s')=>_|_=>none)=_;rw[jL];unfold cH ofM;cases e:M.bd (evs aq cm (call aq T k cm) is (xs.map some++List.replicate (m-p) none)) (λvs=>M.bd (bM vs) λds=>M.ret (Xv.d (.tup ds))) s with
 |none=>rfl
 |some r=>
  obtain⟨r,s1⟩:=r;cases r<;>rfl
theorem zkM{P:Program}{w:World}{K:W.Frag}{mg:Str->Option Value}{base:Heap}{cA:Cl}{aq:Nat->Nat->Bool}{T:Nat->Option Df}{x qual:Str}{st:Stmt}{f:Addr}{fd:FuncData}{N ps:List Str}{k n c m p:Nat}{cm:Bool}{is:Es}(F:oO K x qual st f fd)(hT:T n=some ⟨m,p,.cons (.ret (.tup is)) .nil⟩)
  (hb:∀(cdv:Value) (A:Around) (outer:List Env) (s:Shared) (H:Hp) (E:XK),bA k (A.deeper (envOfC qual (au st) s.heap.objs.size f cdv))->
   yx (gq (gD P w) P w K mg base N qual (au st) f cdv A outer s H E cm) cA aq cm (call aq T k cm) (λ_ C dx H'=>E C dx H') c (aK st) is (cA.g c)) (hg:(cA.g c).length<=900) (S:dh N ps (au st):=by exact⟨rfl,rfl,rfl,dk,rfl,dk,dk⟩) (hp:p=ps.length:=by rfl) (hm:m=N.length:=by rfl) (h0:0<p:=by decide) :
  cB P w K mg base (gD P w) cm (k+1) f fd ps (N5 K cA c (call aq T (k+1) cm n)):=by
 obtain⟨oc,od,kV,doc,pm,an,cdv,ct,osl,rfl,lk,jJ⟩:=F.ex;have hlen:∀{U:Ph} {H:Hp} {s:Mi.S} {xs:List Xv} {P:Xv->Mi.S->Ph->Hp->Prop},Run K cA (call aq T (k+1) cm n (.d .any::xs)) U H s P (λ_ _ _ _ _=>False)->xs.length+1=p:=λ{U H s xs P} h=>by
  unfold call at h;simp only[hT] at h;by_cases hl:(Xv.d D.any::xs).length=p
  ·simpa using hl
  ·rw[if_neg hl] at h;exact h.elim
 refine Xo lk jJ S (λvs H Q E ⟨x,dx,us,U,H0,xs,s,e,_,_,_,_,r,_,h⟩=>?_) λA outer s H vs Q E hr ⟨x,dx,us,U,H0,xs,st',e,hx,hd,hn,eH,r,hS,h⟩=>⟨_,(hb cdv A outer s H E (hr.deeper _)).o,?_⟩
 ·have:=hlen h;rw[e,fK,<-r.len,<-hp]
  lia
 ·subst e eH;have hl:=hlen h;have xt:=Ext.made (U:=U) (C:=cA.b c) hx hd hn;refine⟨U,H0,U.mark x,(Xv.d .any::xs).map some++List.replicate (m-p) none,st',x,dx,[],[],[],xt,ZG (.cons (.d (.any x)) (r.mono xt hS.lz)) (by simp;lia) hm,hS.made hx hd hn,hx,rfl,⟨iV,λz=>hS.nz hx (hS.lz x z),.inr rfl⟩,.nil,rfl,rfl,by simpa using hg,?_⟩;have h2:=(zg9 (zg7 hT (by simpa using hl)) h).bd0 Ext.refl;exact Run.er (Run.imp h2 λds s1 U1 H1 ⟨x1,aH,h4⟩ ws rs kp hl=>h4 U1 H1 x1 aH ds ws rfl rs kp hl)
section
variable {prog:Program}{w:World}{A:Around}{E:Value->Shared->Prop}{s:Shared}
theorem zdN{r:Addr}{n:Nat}{lo hi:Int}{t u v:Tok}{Q:List Value->Shared->Prop}(hh:A.handled=none)(hr:IsRange s.heap r lo hi 1 t u v)(hs:Builtin.Range.small lo hi 1=true)(hn:Builtin.Range.rangeSize lo hi 1=n)(hl:n<=65536)
  (q:∀(h':Heap) (tk:Nat) (acc:Array Value),(∀b o,s.heap.get? b=some o->h'.get? b=some o)->ItemsOf (λi v=>∃t,v=.int (lo+i*1) t) acc n->Q acc.toList {s with heap:=h',toks:=tk}):wpAny (model prog w) A (collect (.ref r)) Q E s:=by
 unfold collect;refine aB (wpAny_runValue (Gj F.entry_proto_collect ?_));rw[FZ F.plain_proto_collect _];refine aB (m:=newList []) (wpAny_newList (aR ⟨Gp F.plain_list_iadd _,Gj F.entry_list_iadd ?_⟩));rw[FZ F.plain_list_iadd _];have fin:∀{r':Result} {s':Shared},(∃h' tk acc c,r'=.ok (.ret (.ref s.heap.objs.size))/\s'={s with heap:=h',toks:=tk}/\h'.get? s.heap.objs.size=some (seqObj "list" acc c)/\(∀b o,s.heap.get? b=some o->h'.get? b=some o)/\ItemsOf (λi v=>∃t,v=.int (lo+i*1) t) acc n)->(match r' with
   |.ok (.ret v)=>wpAny (model prog w) A (match v with
    |.ref a=>do
     match (<-load a).data with
      |.seq xs _=>pure xs.toList
      |_=>unsupported "internal:collect"
    |_=>unsupported "internal:collect") Q E s'
   |.ok _=>False
   |.error e=>E e s'):=λ{r' s'} z=>by
  obtain⟨h',tk,acc,c,rfl,rfl,hS,kp,sO⟩:=z;exact aB (wpAny_load hS (aR (q h' tk acc kp sO)))
 refine gZ (wpAny_extend_range (A:=A) (s:={s with heap:=s.heap.push (seqObj "list" #[] 0)}) (R:=λr' s'=>∃h' tk acc c,r'=.ok (.ret (.ref s.heap.objs.size))/\s'={s with heap:=h',toks:=tk}/\h'.get? s.heap.objs.size=some (seqObj "list" acc c)/\(∀b o,s.heap.get? b=some o->h'.get? b=some o)/\ItemsOf (λi v=>∃t,v=.int (lo+i*1) t) acc n)
  hh (bY _ hr) hs hn (by lia) s.heap.objs.size (.ref s.heap.objs.size) 0 (fO _ rfl) λh' tk acc c kp hS sO=>⟨h',tk,acc,c,rfl,rfl,hS,λb o e=>kp b o (dw (bN e)) (bY _ e),sO⟩) (λf s' z=>?_) λe s' z=>?_
 ·cases f with
  |done f=>exact fin z
  |again c'=>exact⟨z.1,DK z.2 λr s'' hr=>fin hr⟩
 ·obtain⟨_,_,_,_,e,_⟩:=z;cases e
end
theorem ze6(r:Addr)(lo hi:Int)(t u v:Tok)(n:Nat)(hs:Builtin.Range.small lo hi 1=true)(hn:Builtin.Range.rangeSize lo hi 1=n)(hl:n<=65536):Meets (Builtin.«tuple.__new__» ⟨[.type "tuple",.ref r],[]⟩)
   (λA R s=>A.handled=none/\IsRange s.heap r lo hi 1 t u v/\∀(h':Heap) (tk:Nat) (acc:Array Value),(∀b o,s.heap.get? b=some o->h'.get? b=some o)->ItemsOf (λi v=>∃t,v=.int (lo+i*1) t) acc n->R (.ok (.ret (.ref h'.objs.size))) {s with heap:=h'.push {cls:=.type "tuple",data:=.seq acc},toks:=tk}):=
 .of_wp λprog w A R s h=>by
  obtain⟨hh,hr,h⟩:=h;have hsub:=sub_tuple_self;have hinit:=init_tuple_lookup;have hmh:=madeHere_tuple;have hT:s.TypeIs (.ref r) "range":=⟨_,hr,rfl⟩;have hh1:A.in1.handled=none:=hh
  wp_walk using Gq hT,KQ hr,zdN hh1 hr hs hn hl
  intro h' tk acc hk sO;show wpAny _ _ (Builtin.Tuple.tupleExact acc.toList.toArray >>= λv=>ret v) _ _ _;unfold Builtin.Tuple.tupleExact;have e:acc.toList.toArray=acc:=by simp
  rw[e];exact aB (vO (aR ⟨_,rfl,h h' tk acc hk sO⟩) (show acc.size<=sizeLine by rw[sO.1];exact kI hl (by decide)))
section
variable {X:Cx}
theorem zca{ao:List (Addr×Obj)}{Z:L2.St}{H:Hp}{s:Shared}{Q:VK}{hi:Int}{t u v:Tok}{tk:Nat}(hc:X.aj=true)(I:Inv X ao Z H s)(hk:okR 0 hi=true)
  (q:∀l,H l=none->Q (.ref l) (upd H l (.tup (Fp 0 (hi-0).toNat)))) :
  wpAny (model X.prog X.w) X.A (PySem.call (.type "tuple") [.ref s.heap.objs.size]) (EP X ao Z Q) X.xe {s with heap:=s.heap.push {cls:=.type "range",data:=.fields #[.int 0 t,.int hi u,.int 1 v]},toks:=tk}:=by
 obtain⟨h1,h2,h3,h4,h5⟩:=ji hk;have en:Builtin.Range.rangeSize 0 hi 1=((hi-0).toNat:Nat):=by rw[rangeSize_one];split<;>lia
 refine callType_new F.called_tuple (by decide) (F.typeCall_tuple_1 _) (F.newCall_tuple_1 _) (λobj=>F.args_object_init_2 obj _) F.entry_tuple_new (ze6 _ 0 hi t u v _ (small_one h1 h2 h3 h4) en h5) ⟨I.ok.hd hc,IsRange.new ..,λh' tk' acc kp ⟨z1,z2⟩=>?_⟩;have hv:Vals (Fp 0 (hi-0).toNat) acc.toList:=by
  have:=zku (i:=0) (acc:=acc) (n:=(hi-0).toNat) (m:=0) (λk v e=>by
   obtain⟨t,e⟩:=z2 k v (by simpa using e);exact⟨t,by rw[e,Int.mul_one,Nat.zero_add]⟩) (by rw[yG];exact z1)
  simpa [Fp] using this
 have hz:s.heap.objs.size<=h'.objs.size:=yN (bN (kp _ _ (fO s.heap rfl)));have I':=I.laid (a:=h'.objs.size) (o:=.tup (Fp 0 (hi-0).toNat)) (h':=h'.push {cls:=.type "tuple",data:=.seq acc}) (t':=tk') (λb u q=>bY _ (kp b u (bY _ q))) hz (show aU X.prog X.w _ _ _ (.tup (Fp 0 (hi-0).toNat)) from ⟨by
  rw[hv.length,yG,z1];exact kI h5 (by decide),acc.toList,hv,⟨_,fO _ rfl,rfl,0,by simp⟩⟩)
 exact⟨⟨_,fO _ rfl,rfl⟩,.ref h'.objs.size,_,I',rfl,q _ (I.hok.fresh hz)⟩
def Kh(vs:List V)(H:Hp)(Q:VK):Prop:=∃j:Int,vs=[.int j]/\okR 0 j=true/\∀l,H l=none->Q (.ref l) (upd H l (.tup (Fp 0 (j-0).toNat)))
theorem zk6{e:Expr}{t:TA}{p p' pos pos':Pos}(hc:X.aj=true)(hg:Gl X "tuple")(hm:X.mg "tuple"=none)(Ul:Gl X "range")(El:X.mg "range"=none)(ha:PA X [e] t)(he:starEach [e] X.env=(false,eval e X.env)::starEach [] X.env:=by rfl) :
  PE X (.Call (.Name "tuple" p) [.Call (.Name "range" p') [e] [] pos'] [] pos) (QK Kh t):=by
 intro ao s Z H Q I h;refine Dt (wO I hg hm Fb ?_);refine Ab ?_ rfl rfl;show wpAny _ _ (spliced ((false,eval (.Call (.Name "range" p') [e] [] pos') X.env)::backTo pos (starEach [] X.env))) _ _ s;refine Calls.spliced_cons ?_;refine Dt (wO I Ul El boot_range ?_);refine Ab (bf (ha pos' ao s Z H _ I h) λus s1 ⟨vs,H1,I1,r1,q1⟩=>?_) he rfl;obtain⟨j,rfl,hk,q⟩:=q1;cases r1 with
 |cons r rr=>
  cases rr;obtain⟨t,rfl⟩:=r;exact call_range_1 (Calls.spliced_nil (zca hc I1 hk q))
theorem zlT{e:Expr}{te:TE}(h:PE X e te)(he:∀whole,isTrue e X.env whole=(do let v <-whole;standAt e.pos;holding [v] (truthy v))):PT X e (λZ H Q=>te Z H λx H1=>∃k,Br X.K x H1 k/\Q k H1):=by
 intro ao s Z H Q I hw;exact isTrue_plain (bf (h ao s Z H _ I hw) λv s1 hx=>eE hx λx H1 I1 r1 q1=>zk8 ao s1 Z H1 x v Q I1 r1 q1) (he _)
end
section
variable {K:W.Frag}{cA:Cl}{U:Ph}{H:Hp}
theorem zmS:bC K cA .Er Kh:=by
 intro U H ds vs Q zt rs o;have o:bD K cA U H (Cm ds) Q:=o;unfold Cm at o;split at o
 ·rename_i j _;obtain⟨v,rfl,r1⟩:=rs.one;cases (show Rep K cA U H (.int j) v from r1);by_cases hk:okR 0 j=true
  ·rw[if_pos hk] at o;exact⟨j,rfl,hk,λl hl=>o.tup zt (zgd _) hl⟩
  ·rw[if_neg hk] at o;exact o.elim
 ·exact o.elim
end
section
variable {X:Cx}{cA:Cl}{aq:Nat->Nat->Bool}{aj:Bool}{F:Fn}{EX:XS}{a e:Expr}{A:E}{pos pos' p p':Pos}{Xs:Es}{fz:Bool}
theorem znv(hc:X.aj=true)(hm:X.mg "tuple"=none)(hg:JK X "tuple" .globalImplicit)(El:X.mg "range"=none)(Ul:JK X "range" .globalImplicit)(ha:JA X cA aq aj F EX [e] Xs)(he:aD e=true:=by rfl):JE X cA aq aj F EX (.Call (.Name "tuple" p) [.Call (.Name "range" p') [e] [] pos'] [] pos) (.pr fz .Er Xs):=⟨PE.weak (zk6 hc hg.o hm Ul.o El ha.o (bx he)) λZ H Q hh=>un hh λU J s hL hS h=>
 oM hL hS h λvs H1 U1 ds s1 x1 hL1 aH r1 h1=>by
  obtain⟨ds,rs,h3⟩:=uO aH r1 h1;exact zmS U1 H1 ds _ _ aH.zs rs (tK aH h3)⟩
theorem znq(ha:JE X cA aq aj F EX a A)(he:zP a=true:=by rfl):JT X cA aq aj F EX a (.Et A):=⟨PT.weak (zlT ha.o (by cases a<;>first|(intro _;rfl)|cases he)) λZ H Q hh=>un (zfK hh) λU J s hL hS h=>by
 refine bB hL hS h λx H1 U1 d1 s1 x1 hL1 aH r1 h1=>?_;obtain⟨dd,rv,h2⟩:=Jt aH r1 h1;obtain⟨bb,e,h3⟩:=M4 h2;obtain⟨c,ec,q⟩:=h3.bG aH _ (.d (.bl bb));cases ec;exact⟨bb,zls rv e,q⟩⟩
end
def gR(h:Heap)(items:Array Value)(rows:List (List Int))(no:List Addr):Prop:=∀i v,items[i]?=some v->∃a xs,v=.ref a/\IsTup h a xs/\IntsAre xs.toList (rows.getD i [])/\a∉no
theorem gR.keep{h h':Heap}{items:Array Value}{rows:List (List Int)}{no:List Addr}(g:gR h items rows no)(k:∀b o,b∉no->h.get? b=some o->h'.get? b=some o):gR h' items rows no:=λi v e=>by
 obtain⟨a,xs,e1,⟨o,e2,r⟩,e3,e4⟩:=g i v e;exact⟨a,xs,e1,⟨o,k a o e4 e2,r⟩,e3,e4⟩
noncomputable abbrev wF(rows:List (List Int))(i j:Nat):Bool:=HT.lexLt (rows.getD i []) (rows.getD j [])
section
variable {prog:Program}{w:World}{A:Around}{R:Result->Shared->Prop}{I S l:Addr}{items:Array Value}{rows:List (List Int)}
theorem zj8{s:Shared}{i j:Nat}{u v:Value}{Q:Value->Shared->Prop}{E:Value->Shared->Prop}(hu:A.units<cLine)(g:gR s.heap items rows [I,S])(h1:items[i]?=some u)(h2:items[j]?=some v)(q:Q (.bool (wF rows i j)) s):wpAny (model prog w) A (richCompare .Lt u v) Q E s:=by
 obtain⟨a,xs,rfl,p1,i1,_⟩:=g i u h1;obtain⟨b,ys,rfl,p2,i2,_⟩:=g j v h2;exact HT.jW p1 p2 i1 i2 hu q
theorem zeR(hh:A.handled=none)(hu:A.units+1<cLine)(hlI:l≠I)(hS:S∉[I,l]):∀(k j:Nat) (s:Shared) (vb:Value) (c:Nat),items.size-(j+1)=k->j+1<=items.size->(s.heap.IsListIter I l (j+1)/\s.heap.IsList l items)->items[argBest (wF rows) j]?=some vb->gR s.heap items rows [I,S]->
  s.heap.get? S=some (seqObj "list" #[vb,vb] c)->(∀v h' tk,items[argBest (wF rows) (items.size-1)]?=some v->(∀b o,b∉[I,S]->s.heap.get? b=some o->h'.get? b=some o)->R (.ok (.ret v)) {s with heap:=h',toks:=tk})->
  codeAny (model prog w) A (.builtin "min.loop" ⟨[.ref I,.none,.ref S],[]⟩) R s:=by
 have W:=Walks.list (prog:=prog) (w:=w) (A:=A.in1) hh I l hlI items;have nm:(toString "min"++toString ".loop" : String)="min.loop":=by decide
 have SI:S∉[I]:=λz=>hS (by simp at z;simp[z]);intro k
 induction k with
 |zero=>
  intro j s vb c e1 e2 st hb g oS q;refine Gj F.entry_min_loop ?_;rw[FZ Ai _];refine aB (m:=seqItems? (.ref S)) (rG oS rfl ?_);refine aB (m:=tryCatch (pyNext (.ref I)) _) (wpAny_tryCatch (W.done s _ _ ((show j+1=items.size by lia)▸st) λh' tk kp=>?_));refine aB (m:=updateSeq S λ_=>#[]) (wpAny_updateSeq (kp S _ SI oS) rfl (aB (Aq (aR (q vb _ tk ?_ λb o hb e=>?_)))))
  ·rw[show items.size-1=j by lia];exact hb
  ·exact(wH _ _ (λz=>hb (by simp[z]))).trans (kp b o (λz=>hb (by simp at z;simp[z])) e)
 |succ k ih=>
  intro j s vb c e1 e2 st hb g oS q;refine Gj F.entry_min_loop ?_;rw[FZ Ai _];refine aB (m:=seqItems? (.ref S)) (rG oS rfl ?_);refine aB (m:=tryCatch (pyNext (.ref I)) _) (wpAny_tryCatch (W.item (j+1) s _ _ (by lia) st λv h' tk hP st' kp=>?_));have Um:=kp S _ SI oS;have g':gR h' items rows [I,S]:=g.keep λb o hb e=>kp b o (λz=>hb (by simp at z;simp[z])) e;refine aB (m:=tryCatch (holding [v,v] (richCompare .Lt v vb >>= _)) _) (wpAny_tryCatch (pq (aB (zj8 (A:=A.in1) (s:={s with heap:=h',toks:=tk}) hu g' hP hb ?_))));refine aB (pq (vN (aB (Aq (aR ?_)))));cases e3:wF rows (j+1) (argBest (wF rows) j) with
  |true=>
   simp only[if_true];refine aB (wpAny_updateSeq Um rfl (aB (Aq ?_)));rw[nm];have Fx:∀b o,b≠S->h'.get? b=some o->(h'.update S (Obj.mapSeq λ_=>#[v,v])).get? b=some o:=λb o hb e=>(wH _ _ (Ne.symm hb)).trans e;refine aR ⟨Gp Ai _,ih (j+1) _ v _ (by lia) (by lia) (W.frame _ _ _ st' λb hb o e=>Fx b o (λz=>hS (by rw[<-z];exact hb)) e) (by simp only[argBest,e3,if_true];exact hP) (g'.keep λb o hb e=>Fx b o (λz=>hb (by simp[z])) e) (yE _ Um rfl) λv' h2 tk2 Kl Km=>q v' h2 tk2 Kl λb o hb e=>Km b o hb (Fx b o (λz=>hb (by simp[z])) (kp b o (λz=>hb (by simp at z;simp[z])) e))⟩
  |false=>
   simp only[yI,sY];refine aB (Aq ?_);rw[nm];exact aR ⟨Gp Ai _,ih (j+1) _ vb c (by lia) (by lia) st' (by simp only[argBest,e3,yI,sY];exact hb) g' Um λv' h2 tk2 Kl Km=>q v' h2 tk2 Kl λb o hb e=>Km b o hb (kp b o (λz=>hb (by simp at z;simp[z])) e)⟩
theorem zeU{s:Shared}{E:Value->Shared->Prop}{Q:Value->Shared->Prop}(hh:A.handled=none)(hu:A.units+2<cLine)(hl:s.heap.IsList l items)(h0:0<items.size)(g:gR s.heap items rows [])
  (q:∀v h' tk,items[argBest (wF rows) (items.size-1)]?=some v->(∀b o,s.heap.get? b=some o->h'.get? b=some o)->Q v {s with heap:=h',toks:=tk}):wpAny (model prog w) A (PySem.call (.builtin "min") [.ref l]) Q E s:=by
 have nm:(toString "min"++toString ".loop" : String)="min.loop":=by decide
 have dU:l<s.heap.objs.size:=by obtain⟨o,e,_⟩:=hl;exact bN e
 refine call_function_tree F.kind_min F.plain_min F.entry_min (F.args_min1 _) ?_;refine aB (m:=Builtin.Builtins.bindParams "min" ["key","default"] 0 ⟨[],[]⟩) (wpAny_of_eq (show Builtin.Builtins.bindParams "min" ["key","default"] 0 ⟨[],[]⟩=pure [none,none] from rfl) (aB (aR ?_)));refine aB (K_ hl (aB (vO ?_)));rw[nm];have n1:(s.heap.push {cls:=.type "list_iterator",data:=.fields #[.ref l,.int 0 0]}).objs.size=s.heap.objs.size+1:=sX ..;refine aR ⟨Gp Ai _,?_⟩;refine Gj F.entry_min_loop ?_;rw[FZ Ai _];have W:=Walks.list (prog:=prog) (w:=w) (A:=A.in1) hh s.heap.objs.size l (dw dU) items;have oS:((s.heap.push {cls:=.type "list_iterator",data:=.fields #[.ref l,.int 0 0]}).push (seqObj "list" #[] 0)).get? (s.heap.objs.size+1)=some (seqObj "list" #[] 0):=by rw[<-n1];exact fO _ rfl
 have k0:∀b o,s.heap.get? b=some o->((s.heap.push {cls:=.type "list_iterator",data:=.fields #[.ref l,.int 0 0]}).push (seqObj "list" #[] 0)).get? b=some o:=λb o e=>bY _ (bY _ e);rw[n1];refine aB (m:=seqItems? (.ref (s.heap.objs.size+1))) (rG oS rfl ?_);refine aB (m:=tryCatch (pyNext (.ref s.heap.objs.size)) _) (wpAny_tryCatch (W.item 0 _ _ _ h0 ⟨⟨_,bY _ (fO _ rfl),rfl,rfl⟩,hl.at λo e=>k0 l o e⟩ λv h' tk hP st' kp=>?_));have ne1:s.heap.objs.size+1∉[s.heap.objs.size]:=by simp
 refine aB (m:=updateSeq (s.heap.objs.size+1) λ_=>#[v,v]) (wpAny_updateSeq (kp _ _ ne1 oS) rfl ?_);rw[nm];have Fx:∀b o,b≠s.heap.objs.size+1->h'.get? b=some o->(h'.update (s.heap.objs.size+1) (Obj.mapSeq λ_=>#[v,v])).get? b=some o:=λb o hb e=>(wH _ _ (Ne.symm hb)).trans e;have Ko:∀b o,s.heap.get? b=some o->(h'.update (s.heap.objs.size+1) (Obj.mapSeq λ_=>#[v,v])).get? b=some o:=λb o e=>Fx b o (dw (sW (bN e))) (kp b o (by simpa using dw (bN e)) (k0 b o e));have out:∀b o,s.heap.get? b=some o->b∉[s.heap.objs.size,s.heap.objs.size+1]:=λb o e z=>by
  rcases gY.mp z with z|z
  ·exact absurd z (dw (bN e))
  ·exact absurd (qG.mp z) (dw (sW (bN e)))
 refine aR ⟨Gp Ai _,zeR (A:=A) (rows:=rows) hh (by lia) (dw dU) (λz=>by
  rcases gY.mp z with z|z
  ·exact absurd z (Nat.succ_ne_self _)
  ·exact absurd (qG.mp z) (vU (sW dU))) _ 0 _ v _ rfl h0 (W.frame _ _ _ st' λb hb o e=>Fx b o (λz=>by
  rcases gY.mp hb with y|y
  ·exact absurd (z.symm.trans y) (Nat.succ_ne_self _)
  ·exact absurd (z.symm.trans (qG.mp y)) (vU (sW dU))) e) hP ?_ (yE _ (kp _ _ ne1 oS) rfl) λv' h2 tk2 Kl Km=>q v' h2 tk2 Kl λb o e=>Km b o (out b o e) (Ko b o e)⟩
 intro i u e;obtain⟨a,xs,e1,⟨o,e2,r⟩,e3,_⟩:=g i u e;exact⟨a,xs,e1,⟨o,Ko a o e2,r⟩,e3,out a o e2⟩
end
theorem zel{x:List Int}{rs:List (List Int)}:∀k,k<=rs.length->(x::rs).getD (argBest (wF (x::rs)) k) []=fQ x (rs.take k)
 |0,_=>rfl
 |k+1,hk=>by
  have ih:=zel (x:=x) (rs:=rs) k (by lia);have app:∀(a b:List (List Int)) (y:List Int),fQ y (a++b)=fQ (fQ y a) b:=λa=>by
   induction a with
   |nil=>intro b y;rfl
   |cons z a ih=>intro b y;exact ih b _
  have ht:rs.take (k+1)=rs.take k++[rs[k]'(by lia)]:=List.take_succ_eq_append_getElem (by lia);have hv:(x::rs).getD (k+1) []=rs[k]'(by lia):=by
   rw[lZ,Dk,dj (by lia)];rfl
  rw[ht,app,<-ih];show _=(if ltI (rs[k]'(by lia)) _=true then _ else _);rw[argBest.eq_2,SM];unfold wF;rw[hv]
  split
  ·exact hv
  ·rfl
theorem zcl{K:W.Frag}{cA:Cl}{U:Ph}{H:Hp}:∀{xs:List D} {rs:List (List Int)} {vs:List V},j8 xs=some rs->aC K cA U H xs vs->rs.length=vs.length/\∀(i:Nat) v,vs[i]?=some v->∃a,v=.ref a/\TupAt K U H a ((rs.getD i []).map .int)
 |[],rs,vs,h,r=>by cases h;cases r;exact⟨rfl,λi v e=>by simp at e⟩
 |d::xs,rs,vs,h,r=>by
  cases r with
  |cons q r=>cases q with
   |@tup a ys us t ts=>
    unfold j8 at h;cases e1:cC ys with
    |none=>simp only[e1] at h;cases h
    |some is=>cases e2:j8 xs with
     |none=>simp only[e1,e2] at h;cases h
     |some rr=>
      simp only[e1,e2] at h;cases h;obtain⟨l,k⟩:=zcl e2 r;refine⟨by simp[l],λi v e=>?_⟩;cases i with
      |zero=>
       simp at e;subst e;refine⟨a,rfl,?_⟩;show TupAt K U H a (is.map V.int);rw[<-show _=is.map V.int from M9 e1 ts];exact t
      |succ i=>exact k i v (by simpa using e)
   |_=>cases h
section
variable {X:Cx}{cA:Cl}{aq:Nat->Nat->Bool}{aj:Bool}{F:Fn}{EX:XS}{e:Expr}{pos p:Pos}{es:List Expr}{Xs:Es}{fz:Bool}
def vD(K:W.Frag)(vs:List V)(H:Hp)(Q:VK):Prop:=∃(l:Addr) (x:List Int) (rs:List (List Int)) (us:List V),vs=[.ref l]/\cO K H l us/\(x::rs).length=us.length/\(∀(i:Nat) v,us[i]?=some v->∃a,v=.ref a/\gj K H a (((x::rs).getD i []).map V.int))/\∀(i:Nat) a,us[i]?=some (.ref a)->(x::rs).getD i []=fQ x rs->Q (.ref a) H
theorem zfr:∀{is:List Int} {us:List Value},Vals (is.map V.int) us->IntsAre us is
 |[],_,.nil=>.nil
 |_::is,_,.cons ⟨t,e⟩ r=>by subst e;exact .cons _ t (zfr r)
theorem zf0(hc:X.aj=true)(hu:X.A.units+2<cLine):cX X (.builtin "min") (vD X.K):=by
 intro ao s Z H xs us Q I r ⟨l,x,rs,ws,e,hl,hlen,Kp,q⟩;subst e;obtain⟨u,rfl,ru⟩:=Vals.one r;cases (show u=Value.ref l from ru);obtain⟨its,rv,pl,hz⟩:=I.list hl;have hL:=rv.length;have hsz:its.toArray.size=rs.length+1:=by rw[fD,<-hL,<-hlen];rfl
 refine zeU (rows:=x::rs) (I.ok.hd hc) hu pl.isList (by lia) (λi v e=>?_) λv h' tk hP hk=>?_
 ·have hi:its[i]?=some v:=by simpa using e
  have dU:i<ws.length:=by rw[hL];exact(dN.mp hi).1
  obtain⟨a,ea,ht⟩:=Kp i _ (dj dU);obtain⟨v',e1,e2⟩:=rv.get (dj dU);rw[hi] at e1;cases e1;rw[ea] at e2;cases (show v=Value.ref a from e2);obtain⟨xs,rx,p,_⟩:=I.tuple ht;exact⟨a,_,rfl,p,by simpa using zfr rx,by simp⟩
 ·rw[hsz,Nat.add_sub_cancel] at hP;have hi:its[argBest (wF (x::rs)) rs.length]?=some v:=by simpa using hP
  have dU:argBest (wF (x::rs)) rs.length<ws.length:=by rw[hL];exact(dN.mp hi).1
  obtain⟨a,ea,ht⟩:=Kp _ _ (dj dU);obtain⟨v',e1,e2⟩:=rv.get (dj dU);rw[hi] at e1;cases e1;rw[ea] at e2;cases (show v=Value.ref a from e2);exact⟨.ref a,H,I.kept (h':=h') (t':=tk) hk,rfl,q _ a ((dj dU).trans (by rw[ea])) (by rw[zel rs.length (bO _),Gg])⟩
theorem zju{K:W.Frag}:bC K cA .rM (vD K):=by
 intro U H ds vs Q zt rs o;have o:bD K cA U H (oH ds) Q:=o;unfold oH at o;split at o
 ·rename_i xs _;obtain⟨v,rfl,rv⟩:=rs.one;obtain⟨a,us,rfl,sq,q⟩ : ∃a us,v=.ref a/\cO K H a us/\aC K cA U H xs us:=rv;split at o
  ·rename_i x r e;obtain⟨l,k⟩:=zcl e q;refine⟨a,x,r,us,rfl,sq,l,λi v ei=>?_,λi b ei hb=>?_⟩
   ·obtain⟨c,e1,e2⟩:=k i v ei;exact⟨c,e1,e2.jm⟩
   ·obtain⟨c,e1,e2⟩:=k i _ ei;cases e1;rw[hb] at e2;have rr:∀is:List Int,aC K cA U H (is.map D.int) (is.map V.int):=λis=>by
     induction is with
     |nil=>exact .nil
     |cons j is ih=>exact .cons (.int j) ih
    exact o.here (.tup e2 (rr _))
  ·exact o.elim
 ·exact o.elim
theorem zmi{k:Nat}(hr:bA k X.A)(hc:X.aj=true)(hm:X.mg "min"=none)(hg:JK X "min" .globalImplicit)(ha:JA X cA aq aj F EX (e::es) Xs)(he:aD e=true:=by rfl)(hpl:es.all aD=true:=by rfl):JE X cA aq aj F EX (.Call (.Name "min" p) (e::es) [] pos) (.pr fz .rM Xs):=⟨zE (zf0 hc (by have:=hr.un;lia)) zju hg.o hm PyProof.Rows.boot_min ha.o (by decide) (by decide) (bx he) (aV hpl)⟩
end
end Mi
namespace Mi
open PySem PySem.Spec PyProof.Rows L2 PySem.W
theorem jh(its:List Value):∀(n:Nat) (acc:Array Value),(List.replicate n its.toArray).foldl (λx y=>x++y) acc=acc++(rep its n).toArray
 |0,acc=>by simp[rep]
 |n+1,acc=>by
  rw[Dr,Ln,jh its n];simp[rep,Dr]
theorem rD{α:Type}(xs:List α)(n:Nat):(rep xs n).length=n*xs.length:=by
 unfold rep
 induction n with
 |zero=>simp
 |succ n ih=>rw[Dr,PK,dG,ih,Ao];lia
theorem Kq{α:Type}(xs:List α)(n:Nat):rep xs (n+1)=xs++rep xs n:=by
 unfold rep;rw[Dr,PK]
theorem zeF{ys:List V}{its:List Value}(r:Vals ys its):∀n,Vals (rep ys n) (rep its n)
 |0=>.nil
 |n+1=>by
  rw[Kq,Kq];have key:∀{as:List V} {bs:List Value},Vals as bs->∀{cs:List V} {ds:List Value},Vals cs ds->Vals (as++cs) (bs++ds):=by
   intro as bs h
   induction h with
   |nil=>intro cs ds h2;exact h2
   |cons a _ ih=>intro cs ds h2;exact .cons a (ih h2)
  exact key r (zeF r n)
section
variable {X:Cx}
end
section
variable {K:W.Frag}{cA:Cl}{U:Ph}{H:Hp}
theorem zeJ{as:List D}{bs:List V}(h:aC K cA U H as bs){cs:List D}{ds:List V}(h2:aC K cA U H cs ds):aC K cA U H (as++cs) (bs++ds):=by
 match as,bs,h with
 |_,_,.nil=>exact h2
 |_,_,.cons a r=>exact .cons a (zeJ r h2)
theorem zec{xs:List D}{ys:List V}(r:aC K cA U H xs ys):∀n,aC K cA U H (rep xs n) (rep ys n)
 |0=>.nil
 |n+1=>by
  rw[Kq,Kq];exact zeJ r (zec r n)
end
end Mi
namespace PySem
open Builtin
theorem zbB:fillsNumberSlot (.type "tuple") "mul"=pure false:=
 fillsNumberSlot_seq (id:="tuple.__mul__") (r:=some (.builtin "tuple.__rmul__")) Lh.lookup (by decide +kernel) F.slot_tuple_rmul.lookup (by decide +kernel)
theorem zcT:seqRepeat? (.type "tuple")=pure (some (.builtin "tuple.__mul__")):=by
 unfold seqRepeat?;rw[seqSlot_of (T:="tuple") (name:="__mul__") (id:="tuple.__mul__") Lh.lookup (by decide +kernel),seqSlot_of (T:="tuple") (name:="__rmul__") (id:="tuple.__rmul__") F.slot_tuple_rmul.lookup (by decide +kernel)];rfl
theorem zb3(a:Int)(t:Tok)(l:Addr)(items:Array Value)(n:Nat)(d:Option Addr)(sl:Array (Option Value)) :
  Meets (Builtin.«int.__rmul__» ⟨[.int a t,.ref l],[]⟩) (λ_ R s=>s.heap.get? l=some {cls:=.type "tuple",dict:=d,data:=.seq items n,slots:=sl}/\R (.ok (.ret Value.notImplemented)) s):=
 .of_wp λprog w A R s h=>by obtain⟨hp,g,d,tk,os⟩:=s;obtain⟨hl,h⟩:=h;wp_walk;exact⟨_,rfl,h⟩
theorem zcR(l:Addr)(items:Array Value)(n:Nat)(d:Option Addr)(sl:Array (Option Value))(u:Tok) :
  Meets (Builtin.«tuple.__mul__» ⟨[.ref l,.int 1 u],[]⟩) (λ_ R s=>s.heap.get? l=some {cls:=.type "tuple",dict:=d,data:=.seq items n,slots:=sl}/\R (.ok (.ret (Value.ref l))) s):=
 .of_wp λprog w A R s h=>by
  obtain⟨hp,g,d,tk,os⟩:=s;obtain⟨hl,h⟩:=h
  wp_walk
  exact⟨_,rfl,h⟩
theorem zcC(l:Addr)(items:Array Value)(n:Nat)(d:Option Addr)(sl:Array (Option Value))(x:Int)(u:Tok)(h2:2<=x)(h3:x<=1000)(he:items.isEmpty=false)(hs:items.size<=1000) :
  Meets (Builtin.«tuple.__mul__» ⟨[.ref l,.int x u],[]⟩) (λ_ R s=>s.heap.get? l=some {cls:=.type "tuple",dict:=d,data:=.seq items n,slots:=sl}/\R (.ok (.ret (Value.ref s.heap.objs.size))) {s with heap:=s.heap.push {cls:=Value.type "tuple",data:=Data.seq (List.foldl (λx1 x2=>x1++x2) #[] (List.replicate x.toNat items))},toks:=s.toks}):=
 .of_wp λprog w A R s h=>by
  obtain⟨hp,g,d,tk,os⟩:=s;obtain⟨hl,h⟩:=h;have h1:(x==1)=false:=by simpa using show ¬x=1 by lia
  have hb:(decide (x < -(2^63))||decide (x>=2^63))=false:=by rw[jG (by lia),jG (by lia)];rfl
  have hm:(items.size:Int)*x<=1000000:=Int.le_trans (Int.mul_le_mul (show (items.size:Int)<=1000 by lia) h3 (by lia) (by lia)) (by decide);have v7:(1000000:Int)<=(sizeLine:Int):=by decide
  have hz:(List.foldl (λx1 x2=>x1++x2) #[] (List.replicate x.toNat items)).size<=1000000:=by
   have:=Mi.jh items.toList x.toNat #[];simp only[Array.toArray_toList] at this;rw[this];simp only[Array.size_append,fD,Mi.rD,yG];have:=DG (show x.toNat<=1000 by lia) hs;simp
   lia
  have Rn:(1000000:Nat)<=sizeLine:=by decide
  have nt:∀{b:Bool},b=false->decide (b=true)=false:=λ{b} e=>by rw[e];rfl
  wp_walk
  refine Gk (nt hb) ?_
  wp_walk
  refine Gk (nt (b:=decide (x<=0)||items.isEmpty) (by rw[he,jG (by lia)];rfl)) ?_
  wp_walk
  refine Gk (jG (by lia)) ?_
  wp_walk
  refine Gk (nt (b:=Builtin.Tuple.tupleTooMany (items.size*x)) (jG (by lia))) ?_
  wp_walk
  refine Gk (jG (by lia)) ?_
  wp_walk
  exact⟨_,rfl,h⟩
end PySem
namespace Mi
open PySem PySem.Spec PyProof.Rows L2 PySem.W
noncomputable def zY(K:W.Frag):R2:=λx y H Q=>∃l ys n,x=.ref l/\gj K H l ys/\y=.int n/\(1<=n/\n<=1000/\1<=ys.length/\ys.length<=1000)/\(n=1->Q (.ref l) H)/\∀p,H p=none->Q (.ref p) (upd H p (.tup (rep ys n.toNat)))
theorem zkp{X:Cx}:fj X (binaryOp .Mult) (zY X.K):=by
 intro ao s Z H x y v u Q I rx ry h;obtain⟨l,ys,n,rfl,hq,rfl,⟨h0,h1,TX,hl⟩,q1,q⟩:=h;cases (show v=Value.ref l from rx);obtain⟨t,rfl⟩:=ry;obtain⟨its,rv,⟨o,e,hc,c,ou⟩,hz⟩:=I.tuple hq;obtain⟨ocls,odict,odata,oslots⟩:=o;simp only at hc ou;subst hc ou;have hlen:=rv.length;refine wpAny_binaryOp_repeat_ref (T:="tuple") («U»:="int") (by decide) ⟨_,e,rfl⟩ (λ_=>rfl) zbB F.fills_int_mul F.slot_int_rmul zcT int_index ?_;refine Av F.slot_int_rmul rfl F.entry_int_rmul (F.args_int_rmul_2 _ _) (zb3 n t l its.toArray c odict oslots) ⟨e,rfl,⟨_,e,rfl⟩,?_⟩;by_cases hn:n=1
 ·subst hn;exact Av Lh ⟨_,e,rfl⟩ F.entry_tuple_mul (F.args_tuple_mul_2 _ _) (zcR l its.toArray c odict oslots t) ⟨e,⟨.ref l,H,I,rfl,q1 rfl⟩⟩
 ·have oG:its≠[]:=λz=>by rw[z] at hlen;have:ys.length=0:=hlen;lia
  refine Av Lh ⟨_,e,rfl⟩ F.entry_tuple_mul (F.args_tuple_mul_2 _ _) (zcC l its.toArray c odict oslots n t (by lia) h1 (by simpa using oG) (by rw[fD,<-hlen];exact hl)) ⟨e,?_⟩;have hn:H s.heap.objs.size=none:=I.hok.fresh (bO _);have ea:(List.replicate n.toNat its.toArray).foldl (λx y=>x++y) #[]=(rep its n.toNat).toArray:=by
   rw[jh];simp
  refine⟨.ref s.heap.objs.size,_,I.laid (a:=s.heap.objs.size) (o:=.tup (rep ys n.toNat)) (t':=s.toks) (λb w q=>bY _ q) (bO _) ?_,rfl,q _ hn⟩;refine⟨?_,_,zeF rv n.toNat,?_⟩
  ·rw[rD];have:=DG (show n.toNat<=1000 by lia) hl;have Rn:(1000000:Nat)<=sizeLine:=by decide
   lia
  ·rw[ea];exact IsTup.new _ _
section
variable {K:W.Frag}{cA:Cl}{U:Ph}{H:Hp}
theorem zkF:bC K cA .mult (r2 (zY K)):=by
 intro U H ds vs Q zt rs o;have o:bD K cA U H (zx ds) Q:=o;cases ds with
 |nil=>exact False.elim o
 |cons a t=>cases a with
  |tup xs=>cases t with
   |nil=>exact False.elim o
   |cons b t=>cases b with
    |int n=>cases t with
     |cons _ _=>exact False.elim o
     |nil=>
      obtain⟨v,v',rfl,r1,r2⟩:=rs.two (ds:=[]);rw[r2.int];obtain⟨a,us,rfl,ta,q⟩:=r1.tup;have hl:=q.len;have o:bD K cA U H (if 1<=n/\n<=1000/\1<=xs.length/\xs.length<=1000 then some (.dat (.tup (rep xs n.toNat))) else none) Q:=o;by_cases hk:1<=n/\n<=1000/\1<=xs.length/\xs.length<=1000
      ·rw[if_pos hk] at o;refine⟨_,_,rfl,a,us,n,rfl,ta.jm,rfl,⟨hk.1,hk.2.1,by lia,by lia⟩,λe=>?_,λp hp=>o.tup zt (zec q _) hp⟩;subst e;have e1:rep xs (1:Int).toNat=xs:=by show rep xs (0+1)=xs;rw[Kq];simp[rep]
       rw[e1] at o;exact o.here (.tup ta q)
      ·rw[if_neg hk] at o;exact o.elim
    |_=>exact False.elim o
  |_=>exact False.elim o
end
theorem zlS{X:Cx}{cA:Cl}:JQ X cA .Mult .mult:=⟨_,zkp,zkF⟩
section
variable {X:Cx}
end
section
variable {K:W.Frag}{cA:Cl}{U:Ph}{H:Hp}{Q:VK}
end
section
variable {X:Cx}{cA:Cl}{aq:Nat->Nat->Bool}{aj:Bool}{F:Fn}{EX:XS}{e:Expr}{pos p:Pos}{es:List Expr}{Xs:Es}{fz:Bool}
end
section
variable {X:Cx}
end
section
variable {X:Cx}{cA:Cl}{aq:Nat->Nat->Bool}{aj:Bool}{F:Fn}{EX:XS}{o i a:Expr}{O bR A:E}{apos cpos:Pos}
end
noncomputable def gU(K:Frag)(C:Addr)(m:Str):Addr:=match lD K C m with
 |some p=>p.1
 |none=>0
noncomputable def jD(K:Frag)(C:Addr)(m:Str)(st:Stmt):FuncData:=match lD K C m with
 |some p=>p.2
 |none=>DP m m st
theorem zj1{fd:FuncData}{m q:Str}{st:Stmt}(h:nR fd=DP m q st):fd=fnOf m q (aN st) (aK st) (au st) .none fd.kwdefaults fd.doc fd.pyModule fd.annotations fd.code fd.closureTuple:=by
 cases fd;unfold nR DP at h;cases h;rfl
theorem zov{K:Frag}{C:Addr}{m q:Str}{st:Stmt}(h:(lD K C m).map (λp=>nR p.2)=some (DP m q st)):oO K m q st (gU K C m) (jD K C m st)/\Meth K C m (gU K C m):=by
 cases e:lD K C m with
 |none=>rw[e] at h;cases h
 |some p=>
  rw[e] at h;have hp:nR p.2=DP m q st:=cJ h;have h1:gU K C m=p.1:=by unfold gU;rw[e]
  have h2:jD K C m st=p.2:=by unfold jD;rw[e]
  rw[h1,h2];unfold lD at e;split at e
  ·rename_i f hf;split at e
   ·rename_i oc od fd sl hl;split at e
    ·rename_i hc;cases e;simp only[eY] at hc;have eq:fd=_:=zj1 hp;have qn:fd.qualname=q:=by rw[eq]
     exact⟨⟨⟨oc,od,_,_,_,_,_,_,sl,eq,hl,by rw[<-qn];exact hc.1.1⟩,hc.1.2⟩,hf,hc.2,hc.1.2⟩
    ·cases e
   ·cases e
  ·cases e
structure rE(fs:List (Str×Stmt))(ms:List tZ)(xs:List (Nat×Str))(l:Lk)(b:Bd)(K:Frag):Prop where
 i:oV fs ms xs l K
 m:∀p∈b.ms,oO K p.1 p.2.1 p.2.2 (gU K (dZ K b.n) p.1) (jD K (dZ K b.n) p.1 p.2.2)/\Meth K (dZ K b.n) p.1 (gU K (dZ K b.n) p.1)
 b:yP K b=true
noncomputable def lY(fs:List (Str×Stmt))(ms:List tZ)(xs:List (Nat×Str))(l:Lk)(b:Bd):Hook where
 α:=(List (Option FuncData)×List (Option FuncData)×Bool)×(List (Option FuncData)×Bool)
 obs:=λs=>(mC fs ms xs l s,Ay b s)
 val:=λw=>(nU fs ms w,Az b)
 says:=λ_ h=>∃K:Frag,K.In h/\rE fs ms xs l b K
 of:=λw s e=>by
  have e0:mC fs ms xs l s=nU fs ms w:=nF Prod.fst e;have e4:Ay b s=Az b:=nF Prod.snd e;have e3:(_&&_&&_)=true:=nF (λx=>x.2.2) e0;rw[eY,eY,iY,iY] at e3;refine⟨bQ s.heap,zht,⟨λp hp=>?_,Kab e3.1.1,λm hm=>?_,e3.1.2,λx hx=>zos (e3.2 x hx)⟩,λp hp=>?_,nF Prod.snd e4⟩
  ·exact zok (PL.mp (nF Prod.fst e0) p hp)
  ·exact znp (PL.mp (nF (λx=>x.2.1) e0) m hm)
  ·exact zov (PL.mp (nF Prod.fst e4) p hp)
 keeps:=λw h h' ⟨K,X,Y⟩ k=>⟨K,X.keeps k,Y⟩
theorem Kr{l:OpenLaw}{k:Nat}{q:Program}{loose:List Str}{XP:(Str->Option Value)->Heap->Prop}{fs:List (Str×Stmt)}{ms:List tZ}{xs:List (Nat×Str)}{lk:Lk}{b:Bd}{d:DefRec}{x:Str}(hn:l.most=some 63)(Q7:d.params.defaults=[])(hr:bA k callerA)
  (F:∀(w:World) (K:Frag) (mg:Str->Option Value) (fa:Addr) (h:Heap),rE fs ms xs lk b K->K.In h->h.Ns mainGlobals mg->mg d.name=some (.ref fa)->
   ∃fd:FuncData,(∀(s:Shared) (u:Value),BindsTo s fd ⟨[u],[]⟩ [(x,u)])/\∀base:Heap,K.In base->base.Ns mainGlobals mg->cB l.prog w K mg base (gD l.prog w) true k fa fd [x] (u5 K)) :
  WalkO q loose XP (lY fs ms xs lk b).says l.row.toRowW d [] (λf vs=>PySem.call f vs):=by
 refine XM.oh hn Q7 λw s₀ s₁ mg mb fa o pm cd doc a vs ns G Y ho hd jJ hmg BJ hints hlen hg=>?_;obtain⟨K,KX,SY⟩:=Y;obtain⟨fd,hb,hF⟩:=F w K mg fa _ SY KX G.T.g hmg;exact zh2 KX G.T.g G.T.b G.T.builtins G.T.nolimit hg BJ hints (kI hlen (by decide)) hr hF hb (λH hO hS=>⟨a,ns,rfl,hS,hlen,hO,λ_=>rfl⟩) λH e s' h=>by
  obtain⟨_,_,_,_,_,_,_,_,_,_,z⟩:=h;exact z
section
variable {K:Frag}{b:Bd}
theorem znn{cA:Cl}(h:yP K b=true)(hb:cA.b 0=dZ K b.n)(hg:cA.g 0=b.fs)(nd:b.fs.Nodup):Ow K cA 0:=by
 unfold yP at h;simp only[eY,fL,iY] at h;obtain⟨⟨⟨⟨⟨⟨⟨h1,h2⟩,h3⟩,h4⟩,h5⟩,h6⟩,h7⟩,h8⟩:=h;exact⟨by rw[hb];exact⟨h2,h3,h4,h5⟩,λf hf=>by rw[hb];rw[hg] at hf;exact h8 f hf,by rw[hg];exact nd⟩
theorem zn6{f:Addr}(h:yP K b=true)(m:Meth K (dZ K b.n) "__init__" f):Mk K (dZ K b.n) f:=by
 unfold yP at h;simp only[eY,fL,iY] at h;exact⟨h.1.1.2,m.at_,m.fn,h.1.2⟩
theorem zn2{h:Heap}{mg:Str->Option Value}(z:yP K b=true)(X:K.In h)(G:h.Ns mainGlobals mg):mg b.n=some (.ref (dZ K b.n)):=by
 unfold yP at z;simp only[eY] at z;exact sy z.1.1.1.1.1.1.1 X G
end
theorem bA.made{k:Nat}{A:Around}(r:bA (k+1) A)(env:Env)(C:Addr)(us:List Value):bA k ((A.deeper env).under (.builtin "type.__call__" ⟨.ref C::us,[]⟩)):=
 ⟨by have:=r.dp;rw[ze5];show A.depth+1+1+3*k+5<_;lia,by have:=r.un;rw[zeP];show A.units+3+1+16*k+200<_;lia,by
  have e:(A.deeper env).guards=some []:=r.gd;rw[<-e];cases h:(A.deeper env).guards<;>simp[Around.under,pushGuards,Code.guards,Code.isGuard,guardIds,h]⟩
section
variable {P:Program}{w:World}{K:Frag}{mg:Str->Option Value}{base:Heap}{cA:Cl}{aq:Nat->Nat->Bool}{T:Nat->Option Df}{x m q:Str}{st:Stmt}{ps:List Str}{k n:Nat}{cm:Bool}{df:Df}{C fa:Addr}{fd:FuncData}
theorem fM(D:Mt K C m q st ps fa fd)(N:List Str)(hT:T n=some df)
  (hb:∀(cdv:Value) (A:Around) (outer:List Env) (s:Shared) (H:Hp) (E:XK),bA k (A.deeper (envOfC q (au st) s.heap.objs.size fa cdv))->
   JB (gq (gD P w) P w K mg base N q (au st) fa cdv A outer s H E cm) cA aq cm (λc=>call aq T k c) (λ_ C dx H'=>E C dx H') (aK st) df.body) (S:dh N ps (au st):=by exact⟨rfl,rfl,rfl,dk,rfl,dk,dk⟩) (hp:df.gw=ps.length:=by rfl) (hm:df.many=N.length:=by rfl) :
  cB P w K mg base (gD P w) cm (k+1) fa fd ps (lR K cA (call aq T (k+1) cm n)):=ziD D.fn S hT hp hm hb
theorem zhS{c:Nat}:cB P w K mg base (gD P w) cm 0 fa fd ps (N5 K cA c (call aq T 0 cm n)):=
 ⟨λvs H Q E ⟨_,_,_,_,_,_,_,_,_,_,_,_,_,_,h⟩=>h.elim,λA outer s H args us vs Q E _ _ _ _ _ ⟨_,_,_,_,_,_,_,_,_,_,_,_,_,_,h⟩=>h.elim⟩
theorem fR(D:D3 K mg x st ps)(N:List Str)(hT:T n=some df)
  (hb:∀(cdv:Value) (A:Around) (outer:List Env) (s:Shared) (H:Hp) (E:XK),bA (k+1) A->
   JB (gq (gD P w) P w K mg base N x (au st) (iI K x) cdv A outer s H E cm) cA aq cm (λc=>call aq T k c) (λ_ C dx H'=>E C dx H') (aK st) df.body) (S:dh N ps (au st):=by exact⟨rfl,rfl,rfl,dk,rfl,dk,dk⟩) (hp:df.gw=ps.length:=by rfl) (hm:df.many=N.length:=by rfl) :
  cB P w K mg base (gD P w) cm (k+1) (iI K x) (fdOf K x st) ps (lR K cA (call aq T (k+1) cm n)):=ZK D.f S hT hp hm λcdv A outer s H E hr=>(hb cdv A outer s H E hr).o
theorem Uo{p p2:Str}(h:oO K m q st fa fd/\Meth K C m fa)(hb:∀(kV doc pm:Value) (an:Option Addr) (cdv ct a b:Value),bindArgs (fnOf m q (aN st) (aK st) (au st) .none kV doc pm an cdv ct) ⟨[a,b],[]⟩=pure [(p,a),(p2,b)]:=by intros;rfl):Mt K C m q st [p,p2] fa fd:=⟨h.1,h.2,by
 obtain⟨oc,od,kV,doc,pm,an,cdv,ct,osl,rfl,lk,jJ⟩:=h.1.ex;exact u6 (hb kV doc pm an cdv ct)⟩
theorem zoT{p p2 p3:Str}(h:oO K m q st fa fd/\Meth K C m fa)(hb:∀(kV doc pm:Value) (an:Option Addr) (cdv ct a b c:Value),bindArgs (fnOf m q (aN st) (aK st) (au st) .none kV doc pm an cdv ct) ⟨[a,b,c],[]⟩=pure [(p,a),(p2,b),(p3,c)]:=by intros;rfl):Mt K C m q st [p,p2,p3] fa fd:=⟨h.1,h.2,by
 obtain⟨oc,od,kV,doc,pm,an,cdv,ct,osl,rfl,lk,jJ⟩:=h.1.ex;exact u9 (hb kV doc pm an cdv ct)⟩
theorem zoL{p p2 p3 p4:Str}(h:oO K m q st fa fd/\Meth K C m fa)(hb:∀(kV doc pm:Value) (an:Option Addr) (cdv ct a b c d:Value),bindArgs (fnOf m q (aN st) (aK st) (au st) .none kV doc pm an cdv ct) ⟨[a,b,c,d],[]⟩=pure [(p,a),(p2,b),(p3,c),(p4,d)]:=by intros;rfl):Mt K C m q st [p,p2,p3,p4] fa fd:=⟨h.1,h.2,by
 obtain⟨oc,od,kV,doc,pm,an,cdv,ct,osl,rfl,lk,jJ⟩:=h.1.ex;exact u_ (hb kV doc pm an cdv ct)⟩
end
end Mi
namespace Mi
open PySem
theorem zoi{r:List Int}{x j:Int}(h0:0<=j)(h:j<(r.length:Int)+1):prim .ix [.fl (r.map .int++[.int x]),.int j]=some (.dat (.int (at' (r++[x]) j))):=by
 have:=zmd (fs:=r++[x]) h0 (by rw[dG];simp;lia)
 rwa [qH] at this
theorem vG{α:Type}{l:List α}{g:α->Option D}:l.filterMap g=[]↔∀x∈l,g x=none:=by
 rw[List.filterMap_eq_nil_iff]
end Mi
namespace Mi
open PySem Ts
noncomputable def C_(n:Int):D->Bool
 |.tup xs=>decide ((xs.length:Int)=n)
 |_=>false
noncomputable def Fy(a b:Int):D->Bool
 |.int i=>decide (a<=i/\i<=b)
 |_=>false
theorem zmb{d:D}(h:zX d=true):lX d=true:=by cases d<;>first|rfl|cases h
end Mi
namespace Mi
open PySem
end Mi
namespace Mi
open PySem PySem.W L2
theorem Uq{n k:Int}(h1:1<=n)(h8:n<=8)(sS:1<=k)(hk:k<=10)(h7:n=8->k<=7):(n.toNat+1)*(k.toNat+1)^n.toNat+n.toNat<1000000000:=by
 have e:n.toNat=1\/n.toNat=2\/n.toNat=3\/n.toNat=4\/n.toNat=5\/n.toNat=6\/n.toNat=7\/n.toNat=8:=by lia
 have Nr:k.toNat+1<=11:=by lia
 have key:∀m:Nat,m<=7->(m+1)*(k.toNat+1)^m+m<1000000000:=λm hm=>by
  have h2:(k.toNat+1)^m<=11^m:=Nat.pow_le_pow_left Nr m;have h3:(m+1)*(k.toNat+1)^m<=(m+1)*11^m:=K6 _ h2;have h4:∀m,m<=7->(m+1)*11^m+m<1000000000:=by decide
  have:=h4 m hm
  lia
 rcases e with e|e|e|e|e|e|e|e
 all_goals first
  |(rw[e];exact key _ (by lia))
  |skip
 have h2:(k.toNat+1)^8<=8^8:=Nat.pow_le_pow_left (by have:=h7 (by lia);lia) 8;rw[e]
 lia
end Mi
namespace Mi
open PySem
theorem Kbb{n:Nat}{c:List D}{b:D->Vs->MS}{J:Vs}{s:S}{Q:Out->S->Prop}(I:Nat->Vs->S->Prop)(h0:I 0 J s)(hl:∀i J s,I i J s->s[n]?=some (.lst c))(hb:∀i x J s,c[i]?=some x->I i J s->WS (b x J) s λo s'=>∃J',o=.nx J'/\I (i+1) J' s')
  (he:∀J s,I c.length J s->Q (.nx J) s):WS (cT (.live n) b (c.length+1) 0 J) s Q:=by
 have key:∀m i J s,i+m=c.length->I i J s->WS (cT (.live n) b (m+1) i J) s Q:=by
  intro m
  induction m with
  |zero=>
   intro i J s hi hI;have e:c[i]?=none:=by rw[pG];lia
   have e0:=hl i J s hI;have:i=c.length:=by lia
   subst this;refine⟨_,s,?_,he J s hI⟩;unfold cT;simp only[Src.at,e0,e]
  |succ m ih=>
   intro i J s hi hI;have e0:=hl i J s hI;have dU:i<c.length:=by lia
   have e:c[i]?=some c[i]:=dj dU;obtain⟨o,s',eb,J',rfl,yr⟩:=hb i c[i] J s e hI;obtain⟨o2,s2,e2,q⟩:=ih (i+1) J' s' (by lia) yr;refine⟨o2,s2,?_,q⟩;unfold cT;simp only[Src.at,e0,e,eb];exact e2
 exact key c.length 0 J s (by lia) h0
theorem Ka6{n:Nat}{c:List D}{s:S}{P:Src×Nat->S->Prop}(e:s[n]?=some (.lst c))(h:P (.live n,c.length) s):W (src (.l n)) s P:=⟨_,s,by unfold src;simp only[e],h⟩
theorem W.c0{F:List Xv->M Xv}{xs:List Xv}{s:S}{e:D}{P:Xv->S->Prop}(h:W (F (dB 0 xs)) [] λv _=>v=.d e)(k:P (.d e) s)(hl:locs xs=[]:=by rfl):W (bZ F xs) s P:=W.dF hl (h.imp λ_ _ q=>⟨_,q,k⟩)
theorem W.c1{F:List Xv->M Xv}{xs:List Xv}{s:S}{P:Xv->S->Prop}(h:W (F (dB 0 xs)) [] λv _=>∃d,v=.d d)(k:∀d,P (.d d) s)(hl:locs xs=[]:=by rfl):W (bZ F xs) s P:=W.dF hl (h.imp λ_ _ ⟨d,q⟩=>⟨d,q,k d⟩)
section
variable {s:S}{o o' L L':SO}
theorem g1_:(s++[o]++[L])[s.length]?=some o:=by simp
theorem zor:(s++[o]++[L]).set s.length o'=s++[o']++[L]:=by simp
theorem Ks{F:List Xv->M Xv}{xs:List Xv}{P:Xv->S->Prop}(hl:locs xs=[s.length])(h:W (F (dB 0 xs)) [o] λv s1=>∃d o',v=.d d/\s1=[o']/\P (.d d) (s++[o']++[L])):W (bZ F xs) (s++[o]++[L]) P:=by
 refine T4 (n:=s.length) (o:=o) hl g1_ (h.imp λv s1=>?_);rintro⟨d,o',rfl,rfl,hp⟩;exact⟨d,o',rfl,rfl,by rw[zor];exact hp⟩
end
section
variable {n k x y:Int}{r:List Int}
end
section
variable {n m:Int}{ps qs:List (Int×Int)}{x:D}{hs:List Int}
end
section
variable {aq:Nat->Nat->Bool}{F:Fn}{J:Vs}{s:S}{P:Xv->S->Prop}
end
noncomputable abbrev Fr:=List (Option (List Int))
noncomputable def bH:Option (List Int)->D
 |none=>.non
 |some l=>.tup (l.map .int)
noncomputable def cellK:Option (List Int)->Kx
 |none=>.non
 |some l=>.row l
noncomputable def kW(F:Fr):D:=.tup (F.map bH)
theorem Ur:∀l:List Int,cC (l.map .int)=some l
 |[]=>rfl
 |i::l=>by show Option.map _ (cC (l.map .int))=_;rw[Ur l];rfl
theorem N_(F:Fr):kOf (kW F)=some (F.map cellK):=by
 show Cq (F.map bH)=_
 induction F with
 |nil=>rfl
 |cons c F ih=>
  have e:uL (bH c)=some (cellK c):=by
   cases c with
   |none=>rfl
   |some l=>show Option.map _ (cC (l.map .int))=_;rw[Ur];rfl
  simp only[iU,Cq,e,ih]
theorem zgX:∀{F G:Fr},F.map cellK=G.map cellK->F=G
 |[],[],_=>rfl
 |[],_::_,h=>by cases h
 |_::_,[],h=>by cases h
 |c::F,e::G,h=>by
  simp only[iU,List.cons.injEq] at h;rw[zgX h.2]
  congr 1
  have h1:=h.1;cases c with
  |none=>cases e with
   |none=>rfl
   |some _=>cases h1
  |some l=>cases e with
   |none=>cases h1
   |some m=>cases h1;rfl
structure Bo(n k:Nat)(es:Nat->List Int)(A:Int->Int->Bool):Prop where
 hn:n<=8
 hk:k<=24
 mem:∀i,i<n->∀e∈es i,0<=e/\e<n/\e≠i
 sym:∀i e:Nat,i<n->e<n->(e:Int)∈es i->(i:Int)∈es e
 len:∀i,i<n->(es i).length<=8
 asy:∀a b:Int,0<=a->a<k->0<=b->b<k->A a b=A b a
structure Fv(n k:Nat)(F:Fr):Prop where
 len:F.length=n
 lo:∀(i:Nat) L,F[i]?=some (some L)->∀x∈L,0<=x/\x<k
 ll:∀(i:Nat) L,F[i]?=some (some L)->L.length<=24
 so:∀(i:Nat) L,F[i]?=some (some L)->L.Pairwise (·<·)
structure qx(es:Nat->List Int)(A:Int->Int->Bool)(F:Fr)(g:Nat->Int):Prop where
 mem:∀(i:Nat) L,F[i]?=some (some L)->g i∈L
 fit:∀(i e:Nat) L M,F[i]?=some (some L)->F[e]?=some (some M)->(e:Int)∈es i->A (g i) (g e)=true
def Sat(es:Nat->List Int)(A:Int->Int->Bool)(F:Fr):Prop:=∃g,qx es A F g
noncomputable def fW(f:Int->Bool)(F:Fr)(e:Int):Fr:=F.set e.toNat ((F[e.toNat]?.join).map (·.filter f))
noncomputable def settle(es:Nat->List Int)(A:Int->Int->Bool)(F:Fr)(p:Nat)(x:Int):Fr:=(es p).foldl (fW (A x)) (F.set p none)
theorem zee{f:Int->Bool}{F:Fr}{e:Int}:(fW f F e).length=F.length:=lB ..
theorem Us{f:Int->Bool}:∀{l:List Int} {F:Fr},(l.foldl (fW f) F).length=F.length
 |[],F=>rfl
 |e::l,F=>by rw[Ln,Us,zee]
theorem zjV{f:Int->Bool}{F:Fr}{e:Int}(h0:0<=e)(i:Nat)(hi:i<F.length):(fW f F e)[i]?=if (i:Int)=e then F[i]?.map (Option.map (·.filter f)) else F[i]?:=by
 unfold fW;by_cases z:(i:Int)=e
 ·have:e.toNat=i:=by lia
  rw[if_pos z,this,vL hi,dj hi];rfl
 ·rw[if_neg z,pH (by lia)]
theorem Ut{f:Int->Bool}:∀{l:List Int} {F:Fr} (i:Nat),(∀e∈l,0<=e)->i<F.length->(l.foldl (fW f) F)[i]?=if (i:Int)∈l then F[i]?.map (Option.map (·.filter f)) else F[i]?
 |[],F,i,_,hi=>by simp
 |e::l,F,i,h,hi=>by
  rw[Ln,Ut i (λx hx=>h x (by simp[hx])) (by rw[zee];exact hi),zjV (h e (by simp)) i hi];have ff:∀c:Option (Option (List Int)),(c.map (Option.map (·.filter f))).map (Option.map (·.filter f))=c.map (Option.map (·.filter f)):=λc=>by
   cases c with
   |none=>rfl
   |some c=>cases c with
    |none=>rfl
    |some L=>simp
  by_cases a:(i:Int)=e
  ·by_cases b:(i:Int)∈l
   ·rw[if_pos b,if_pos a,if_pos (by simp[b]),ff]
   ·rw[if_neg b,if_pos a,if_pos (by simp[a])]
  ·by_cases b:(i:Int)∈l
   ·rw[if_pos b,if_neg a,if_pos (by simp[b])]
   ·rw[if_neg b,if_neg a,if_neg (by simp[a,b])]
section
variable {n k:Nat}{es:Nat->List Int}{A:Int->Int->Bool}{F:Fr}{p:Nat}{x:Int}{g:Nat->Int}
theorem zcj:(settle es A F p x).length=F.length:=by unfold settle;rw[Us,lB]
theorem zc4(B:Bo n k es A)(hF:F.length=n)(hp:p<n)(i:Nat)(hi:i<n):(settle es A F p x)[i]?=if i=p then some none else if (i:Int)∈es p then F[i]?.map (Option.map (·.filter (A x))) else F[i]?:=by
 unfold settle;rw[Ut i (λe he=>(B.mem p hp e he).1) (by rw[lB,hF];exact hi)];by_cases e:i=p
 ·subst e;rw[if_pos rfl,if_neg (λz=>(B.mem i hp _ z).2.2 rfl),vL (by rw[hF];exact hi)]
 ·rw[if_neg e,pH (Ne.symm e)]
theorem tU{i:Nat}{c:Option (List Int)}(hF:F.length=n)(h:F[i]?=some c):i<n:=by rw[<-hF];exact(dN.mp h).1
theorem Oa(B:Bo n k es A)(hF:F.length=n)(hp:p<n){i:Nat}{M:List Int}(h:(settle es A F p x)[i]?=some (some M)):i≠p/\∃L,F[i]?=some (some L)/\M=if (i:Int)∈es p then L.filter (A x) else L:=by
 have hi:i<n:=tU (by rw[zcj];exact hF) h;rw[zc4 B hF hp i hi] at h;by_cases e:i=p
 ·rw[if_pos e] at h;cases h
 ·rw[if_neg e] at h;refine⟨e,?_⟩;by_cases m:(i:Int)∈es p
  ·rw[if_pos m] at h;obtain⟨c,e1,e2⟩:=kE.mp h;cases c with
   |none=>cases e2
   |some L=>cases e2;exact⟨L,e1,by rw[if_pos m]⟩
  ·rw[if_neg m] at h;exact⟨M,h,by rw[if_neg m]⟩
theorem Ku(B:Bo n k es A)(hF:F.length=n)(hp:p<n){i:Nat}{L:List Int}(hi:i≠p)(h:F[i]?=some (some L)):(settle es A F p x)[i]?=some (some (if (i:Int)∈es p then L.filter (A x) else L)):=by
 rw[zc4 B hF hp i (tU hF h),if_neg hi,h]
 split<;>rfl
theorem Uu(B:Bo n k es A)(v:Fv n k F)(hp:p<n):Fv n k (settle es A F p x):=by
 refine⟨by rw[zcj];exact v.len,λi M h=>?_,λi M h=>?_,λi M h=>?_⟩<;>obtain⟨_,L,e,rfl⟩:=Oa B v.len hp h
 ·intro y hy;refine v.lo i L e y ?_;split at hy
  ·exact(tX.mp hy).1
  ·exact hy
 ·split
  ·exact kI (K1 _ _) (v.ll i L e)
  ·exact v.ll i L e
 ·split
  ·exact(v.so i L e).filter _
  ·exact v.so i L e
theorem Ob(B:Bo n k es A)(v:Fv n k F)(hp:p<n){L:List Int}(hL:F[p]?=some (some L))(s:qx es A F g):qx es A (settle es A F p (g p)) g:=by
 refine⟨λi M h=>?_,λi e M N h1 h2 he=>?_⟩
 ·obtain⟨_,L',e,rfl⟩:=Oa B v.len hp h;have:=s.mem i L' e
  split
  ·exact tX.mpr ⟨this,s.fit p i L L' hL e (by assumption)⟩
  ·exact this
 ·obtain⟨_,L',e1,_⟩:=Oa B v.len hp h1;obtain⟨_,L2,e2,_⟩:=Oa B v.len hp h2;exact s.fit i e L' L2 e1 e2 he
theorem zeh(B:Bo n k es A)(v:Fv n k F)(hp:p<n){L:List Int}(hL:F[p]?=some (some L))(hx:x∈L)(s:qx es A (settle es A F p x) g):qx es A F λi=>if i=p then x else g i:=by
 have ap:∀(i:Nat) M,i≠p->F[i]?=some (some M)->(i:Int)∈es p->A x (g i)=true/\(0<=g i/\g i<k):=λi M ni h m=>by
  have h2:=Ku (x:=x) B v.len hp ni h;have:=s.mem i _ h2;rw[if_pos m] at this;exact⟨(tX.mp this).2,v.lo i M h _ (tX.mp this).1⟩
 have hxk:=v.lo p L hL x hx;refine⟨λi M h=>?_,λi e M N h1 h2 he=>?_⟩
 ·by_cases z:i=p
  ·subst z;rw[if_pos rfl];rw[hL] at h;cases h;exact hx
  ·rw[if_neg z];have:=s.mem i _ (Ku (x:=x) B v.len hp z h);split at this
   ·exact(tX.mp this).1
   ·exact this
 ·have li:=tU v.len h1;have le:=tU v.len h2;by_cases z:i=p
  ·subst z;have ne:e≠i:=λq=>(B.mem i li _ he).2.2 (by rw[q]);rw[if_pos rfl,if_neg ne];exact(ap e N ne h2 he).1
  ·by_cases y:e=p
   ·subst y;rw[if_neg z,if_pos rfl];have m:=B.sym i e li le he;obtain⟨q1,q2⟩:=ap i M z h1 m;rw[B.asy _ _ q2.1 q2.2 hxk.1 hxk.2];exact q1
   ·rw[if_neg z,if_neg y];exact s.fit i e _ _ (Ku (x:=x) B v.len hp z h1) (Ku (x:=x) B v.len hp y h2) he
theorem Oc(B:Bo n k es A)(v:Fv n k F)(hp:p<n){L:List Int}(hL:F[p]?=some (some L)):Sat es A F↔∃x∈L,Sat es A (settle es A F p x):=
 ⟨λ⟨g,s⟩=>⟨g p,s.mem p L hL,g,Ob B v hp hL s⟩,λ⟨x,hx,g,s⟩=>⟨_,zeh B v hp hL hx s⟩⟩
noncomputable def dW(es:Nat->List Int)(F:Fr)(p:Nat):Nat:=((es p).filter λe=>(F[e.toNat]?.join).isSome).length
noncomputable def bnd(es:Nat->List Int)(F:Fr):Fr:=F.mapIdx λi c=>if 0<dW es F i then c else none
theorem ziS{i:Nat}:(bnd es F)[i]?=F[i]?.map λc=>if 0<dW es F i then c else none:=by unfold bnd;rw[List.getElem?_mapIdx]
theorem Fz{i:Nat}{L:List Int}(h:(bnd es F)[i]?=some (some L)):F[i]?=some (some L)/\0<dW es F i:=by
 rw[ziS] at h;obtain⟨c,e1,e2⟩:=kE.mp h;split at e2
 ·subst e2;exact⟨e1,by assumption⟩
 ·cases e2
theorem zlW(v:Fv n k F):Fv n k (bnd es F):=⟨by unfold bnd;rw[List.length_mapIdx];exact v.len,λi L h=>v.lo i L (Fz h).1,λi L h=>v.ll i L (Fz h).1,λi L h=>v.so i L (Fz h).1⟩
theorem zd0{i e:Nat}{L:List Int}(hm:(e:Int)∈es i)(h:F[e]?=some (some L)):0<dW es F i:=by
 unfold dW;refine List.length_pos_of_mem (a:=(e:Int)) (tX.mpr ⟨hm,?_⟩);rw[o_,h];rfl
theorem zks(B:Bo n k es A)(v:Fv n k F)(ne:∀(i:Nat) L,F[i]?=some (some L)->L≠[]):Sat es A (bnd es F)↔Sat es A F:=by
 constructor
 ·rintro⟨g,s⟩;have to:∀(i:Nat) L,F[i]?=some (some L)->0<dW es F i->(bnd es F)[i]?=some (some L):=λi L h q=>by rw[ziS,h];show some (if _ then _ else _)=_;rw[if_pos q]
  refine⟨λi=>if 0<dW es F i then g i else ((F[i]?.join).getD []).headD 0,λi L h=>?_,λi e L M h1 h2 he=>?_⟩
  ·by_cases q:0<dW es F i
   ·rw[if_pos q];exact s.mem i L (to i L h q)
   ·rw[if_neg q,h];show L.headD 0∈L;cases L with
    |nil=>exact absurd rfl (ne i [] h)
    |cons a L=>exact jF
  ·have q1:=zd0 he h2;have q2:=zd0 (B.sym i e (tU v.len h1) (tU v.len h2) he) h1;rw[if_pos q1,if_pos q2];exact s.fit i e L M (to i L h1 q1) (to e M h2 q2) he
 ·rintro⟨g,s⟩;exact⟨g,λi L h=>s.mem i L (Fz h).1,λi e L M h1 h2 he=>s.fit i e L M (Fz h1).1 (Fz h2).1 he⟩
theorem zeC(h:∀(i:Nat) L,F[i]?≠some (some L)):Sat es A F:=⟨λ_=>0,λi L q=>absurd q (h i L),λi _ L _ q=>absurd q (h i L)⟩
theorem zkd{i:Nat}(h:F[i]?=some (some [])):¬Sat es A F:=λ⟨g,s⟩=>nomatch s.mem i [] h
noncomputable def oX(k:Nat):List Int:=(List.range k).map λ(i:Nat)=>(i:Int)
theorem gW{k:Nat}{y:Int}:y∈oX k↔0<=y/\y<k:=by
 unfold oX;rw[pJ]
 constructor
 ·rintro⟨i,hi,rfl⟩;have:=vQ.mp hi;lia
 ·intro h;exact⟨y.toNat,vQ.mpr (by lia),by lia⟩
theorem zgh(B:Bo n k es A)(v:Fv n k F)(hp:p<n)(hk:1<=k)(jE:∀t a b:Int,0<=a->a<k->0<=b->b<k->A ((a+t)%k) ((b+t)%k)=A a b)(all:∀(i:Nat) L,F[i]?=some (some L)->L=oX k)(hL:F[p]?=some (some (oX k))):Sat es A F↔Sat es A (settle es A F p 0):=by
 constructor
 ·rintro⟨g,s⟩;have md:∀z:Int,0<=z%(k:Int)/\z%(k:Int)<k:=λz=>⟨Dz _ (by lia),Gb _ (by lia)⟩;have s2:qx es A F λi=>(g i + -(g p))%k:=by
   refine⟨λi L h=>?_,λi e L M h1 h2 he=>?_⟩
   ·rw[all i L h];exact gW.mpr (md _)
   ·have a:=gW.mp (all i L h1▸s.mem i L h1);have b:=gW.mp (all e M h2▸s.mem e M h2);show A ((g i + -(g p))%k) ((g e + -(g p))%k)=true;rw[jE _ _ _ a.1 a.2 b.1 b.2];exact s.fit i e L M h1 h2 he
  have:=Ob B v hp hL s2;have e0:(g p + -(g p))%(k:Int)=0:=by rw[Int.add_right_neg];rfl
  simp only[e0] at this;exact⟨_,this⟩
 ·intro h;exact(Oc B v hp hL).mpr ⟨0,gW.mpr ⟨by lia,by lia⟩,h⟩
noncomputable def unset(F:Fr):Nat:=F.countP Option.isSome
theorem zge:unset (bnd es F)<=unset F:=by
 unfold unset bnd;generalize dW es F=f
 induction F generalizing f with
 |nil=>simp
 |cons c F ih=>
  rw[List.mapIdx_cons,Ah,Ah];have:=ih (λi=>f (i+1));have e:(if (if 0<f 0 then c else none).isSome=true then 1 else 0)<=(if c.isSome=true then 1 else 0):=by
   split<;>split<;>simp_all
  lia
theorem zgq{F:Fr}:∀{p:Nat} {L:List Int},F[p]?=some (some L)->unset (F.set p none)+1=unset F:=by
 unfold unset
 induction F with
 |nil=>intro p L h;simp at h
 |cons c F ih=>
  intro p L h;cases p with
  |zero=>simp at h;subst h;simp
  |succ p=>
   have:=ih (p:=p) (L:=L) (by simpa using h);rw[List.set_cons_succ,Ah,Ah]
   lia
theorem zfz{f:Int->Bool}{F:Fr}{e:Int}:unset (fW f F e)<=unset F:=by
 unfold unset fW;generalize e.toNat=j
 induction F generalizing j with
 |nil=>simp
 |cons c F ih=>
  cases j with
  |zero=>cases c<;>simp
  |succ j=>
   rw[List.set_cons_succ,Ah,Ah,Dk];have:=ih j
   lia
theorem zck{f:Int->Bool}:∀{l:List Int} {F:Fr},unset (l.foldl (fW f) F)<=unset F
 |[],F=>bO _
 |e::l,F=>kI (zck (l:=l)) zfz
theorem Uv{L:List Int}(h:F[p]?=some (some L)):unset (settle es A F p x)+1<=unset F:=by
 have:=zck (f:=A x) (l:=es p) (F:=F.set p none);have:=zgq h;unfold settle
 lia
theorem zeZ(h:unset F=0)(i:Nat)(L:List Int):F[i]?≠some (some L):=λe=>by
 have:=List.countP_eq_zero.mp h _ (fZ e);exact this rfl
def qy(es:Nat->List Int)(A:Int->Int->Bool)(kvs:jz):Prop:=∀F d,bW (F.map cellK) kvs=some d->∃b,d=.bl b/\(b=true↔Sat es A F)
theorem zd9{j q:List Kx}{d:D}:∀{kvs:jz},bW j (jA q d kvs)=if j=q then some d else bW j kvs:=by
 intro kvs;unfold jA;have app:∀{r:jz},bW j (r++[(q,d)])=match bW j r with|some e=>some e|none=>if j=q then some d else none:=λ{r}=>by
  induction r with
  |nil=>
   show (if q=j then some d else none)=if j=q then some d else none
   by_cases e:q=j
   ·rw[if_pos e,if_pos e.symm]
   ·rw[if_neg e,if_neg λz=>e z.symm]
  |cons p r ih=>
   rw[List.cons_append];unfold bW;by_cases e:p.1=j
   ·simp[e]
   ·simp only[e,sY];exact ih
 by_cases h:(bW q kvs).isSome=true
 ·rw[if_pos h];by_cases e:j=q
  ·subst e;rw[if_pos rfl]
   induction kvs with
   |nil=>simp[bW] at h
   |cons p r ih=>
    rw[iU];by_cases z:p.1=j
    ·rw[if_pos z];unfold bW;rw[if_pos z]
    ·rw[if_neg z];unfold bW at h ⊢;rw[if_neg z] at h ⊢;exact ih h
  ·rw[if_neg e];clear h
   induction kvs with
   |nil=>rfl
   |cons p r ih=>
    rw[iU];by_cases z:p.1=q
    ·rw[if_pos z];unfold bW;rw[if_neg (λy=>e (y.symm.trans z)),if_neg (λy=>e (y.symm.trans z))];exact ih
    ·rw[if_neg z];unfold bW;by_cases y:p.1=j
     ·rw[if_pos y,if_pos y]
     ·rw[if_neg y,if_neg y];exact ih
 ·rw[if_neg h,app];by_cases e:j=q
  ·subst e;have:bW j kvs=none:=by simpa using h
   simp[this]
  ·rw[if_neg e,if_neg e];cases bW j kvs<;>rfl
theorem zhd{q:List Kx}{d:D}{kvs:jz}:(jA q d kvs).length<=kvs.length+1:=by
 unfold jA
 split
 ·rw[cg];lia
 ·simp
theorem zkf{kvs:jz}{b:Bool}(h:qy es A kvs)(hb:b=true↔Sat es A F):qy es A (jA (F.map cellK) (.bl b) kvs):=λG d e=>by
 rw[zd9] at e;by_cases z:G.map cellK=F.map cellK
 ·rw[if_pos z] at e;cases e;rw[zgX z];exact⟨b,rfl,hb⟩
 ·rw[if_neg z] at e;exact h G d e
end
noncomputable def cnt(k:Nat):Nat->Nat
 |0=>1
 |m+1=>1+k*cnt k m
section
variable {aq:Nat->Nat->Bool}{aj:Bool}{F:Fn}{J:Vs}{s:S}{P:Xv->S->Prop}
theorem W.rR{c:Nat}{fs:List D}{P:List D->S->Prop}(h:P fs s):W (Mi.rR c (.d (.ob c fs))) s P:=by
 show W (if c=c then M.ret fs else M.no) s P;rw[if_pos rfl];exact W.ret h
theorem W.cm{c f:Nat}{o:E}{xs:Es}{fs:List D}{vs:List Xv}(h1:dJ aq o J=some (.d (.ob c fs)))(h2:oW aq xs J=some vs)(k:W (bZ (F f) (.d (.ob c fs)::vs)) s P):W (ev aq aj F (.cm c f o xs) J) s P:=
 W.bd (W.eq (gG o _ h1) (W.bd (W.rR (W.bd (W.eq (jO xs h2) (W.qt k))))))
theorem W.rN(h:P (.l s.length) (s++[.dct []])):W (ev aq aj F .rN J) s P:=⟨_,_,rfl,h⟩
theorem W.key{x:D}{kx:List Kx}{P:List Kx->S->Prop}(e:kOf x=some kx)(h:P kx s):W (Mi.key (.d x)) s P:=W.opt e h
theorem W.fU{n:Nat}{kvs:jz}{P:Nat×jz->S->Prop}(e:s[n]?=some (.dct kvs))(h:P (n,kvs) s):W (Mi.fU (.l n)) s P:=⟨_,s,by unfold Mi.fU;simp only[e],h⟩
theorem W.B_{b:Bool}{k d:E}{x:D}{n:Nat}{kx:List Kx}{kvs:jz}(h1:dJ aq k J=some (.d x))(h2:dJ aq d J=some (.l n))(e:kOf x=some kx)(hn:s[n]?=some (.dct kvs))(h:P (.d (.bl ((bW kx kvs).isSome==b))) s):W (ev aq aj F (.B_ b k d) J) s P:=
 W.bd (W.eq (gG k _ h1) (W.bd (W.eq (gG d _ h2) (W.bd (W.key e (W.bd (W.fU hn (W.ret h))))))))
theorem W.pY{d k:E}{x v:D}{n:Nat}{kx:List Kx}{kvs:jz}(h1:dJ aq d J=some (.l n))(h2:dJ aq k J=some (.d x))(e:kOf x=some kx)(hn:s[n]?=some (.dct kvs))(hv:bW kx kvs=some v)(h:P (.d v) s):W (ev aq aj F (.pY d k) J) s P:=
 W.bd (W.eq (gG d _ h1) (W.bd (W.eq (gG k _ h2) (W.bd (W.key e (W.bd (W.fU hn (W.opt (a:=.d v) (by show Option.map _ (bW kx kvs)=_;rw[hv];rfl) h))))))))
theorem W.Et{a:E}(h:W (ev aq aj F a J) s λx s1=>W (rd x) s1 λd s2=>∃b,xJ d=some b/\P (.d (.bl b)) s2):W (ev aq aj F (.Et a) J) s P:=
 W.bd (h.imp λ_ _ h=>W.bd (h.imp λ_ _ ⟨_,e,h⟩=>W.bd (W.opt e (W.ret h))))
theorem KaK{xs:List D}{P:Src×Nat->S->Prop}(h:P (.fix (enumFrom 0 xs),(enumFrom 0 xs).length) s):W (oJ (.d (.tup xs))) s P:=⟨_,s,rfl,h⟩
theorem W.mk{c f:Nat}{xs:Es}{vs:List Xv}{ds:List D}(h:W (evs aq aj F xs J) s λus s1=>us=vs/\P (.d (.ob c ds)) s1)(hl:locs vs=[])(k:W (F f (.d .any::vs)) [] λv _=>v=.d (.tup ds)):W (ev aq aj F (.mk c f xs) J) s P:=by
 refine W.bd (h.imp λus s1 ⟨e,hp⟩=>?_);subst e;obtain⟨v,s2,e1,rfl⟩:=k;refine⟨_,s1,?_,hp⟩;unfold Sd;rw[if_pos hl];simp only[e1]
end
theorem WS.dput{aq:Nat->Nat->Bool}{aj:Bool}{F:Bool->Fn}{J:Vs}{s:S}{Q:Out->S->Prop}{d k v:E}{x:D}{n:Nat}{kx:List Kx}(h1:dJ aq d J=some (.l n))(h2:dJ aq k J=some (.d x))(e:kOf x=some kx)
  (h:W (ev aq aj (F aj) v J) s λz s1=>∃w kvs,z=.d w/\s1[n]?=some (.dct kvs)/\kvs.length<sizeLine/\Q (.nx J) (s1.set n (.dct (jA kx w kvs)))):WS (ex aq aj F (.dput d k v) J) s Q:=by
 refine WS.ofM (W.bd (h.imp λz s1 ⟨w,kvs,ez,hn,hl,q⟩=>?_));subst ez;refine W.bd (W.dat (W.bd (W.eq (gG d _ h1) (W.bd (W.eq (gG k _ h2) (W.bd (W.key e (W.bd (W.fU hn ?_)))))))));rw[if_pos hl];exact⟨_,_,rfl,WS.nx q⟩
theorem zbx{α:Type}{f:α->D}:∀(l:List α) (j:Nat),enumFrom j (l.map f)=(l.zipIdx j).map λp=>.tup [.int p.2,f p.1]
 |[],j=>rfl
 |a::l,j=>by rw[iU,List.zipIdx_cons,iU,<-zbx l (j+1)];rfl
theorem KaV{o:Option Rz}{xs:List D}{s:S}{P:Xv->S->Prop}(e:o=some (.nw xs))(h:P (.l s.length) (s++[.lst xs])):W (cG false o) s P:=by subst e;exact⟨_,_,rfl,h⟩
theorem ziZ{n:Nat}{j:Int}(h0:0<=j)(h:j<n):L2.pC n j=some j.toNat:=by
 unfold L2.pC;rw[if_pos h0,if_pos h]
theorem zjc{n:Nat}{j:Int}(h0:j<0)(h : -(n:Int)<=j):L2.pC n j=some (j+n).toNat:=by
 unfold L2.pC;rw[if_neg (by lia),if_pos h]
theorem zow{xs:List D}{j:Int}{x:D}(h0:j<0)(h1 : -(xs.length:Int)<=j)(h:xs[(j+xs.length).toNat]?=some x):prim .ix [.fl xs,.int j]=some (.dat x):=by
 show Option.map Rz.dat (L2.n_ xs j)=_;have:L2.n_ xs j=some x:=by
  unfold L2.n_;rw[zjc h0 h1];exact h
 rw[this];rfl
theorem zhj(F:Fr):memD (.tup []) (F.map bH)=some (decide (some []∈F)):=by
 induction F with
 |nil=>rfl
 |cons c F ih=>
  simp only[iU,memD,ih];cases c with
  |none=>simp[bH,cY,kq]
  |some l=>
   cases l with
   |nil=>
    have:cY 50 (bH (some [])) (.tup [])=some true:=rfl;rw[this];simp
   |cons a l=>
    have:cY 50 (bH (some (a::l))) (.tup [])=some false:=rfl;rw[this];simp
theorem zno{f:Bool->Bool}{F:Fr}:Ce f [.tup [],kW F]=some (.dat (.bl (f (decide (some []∈F))))):=by
 show Option.map _ (memD (.tup []) (F.map bH))=_;rw[zhj];rfl
theorem zfA{k':Nat}:∀(a b:List Int),dX (cY k') (a.map D.int) (b.map D.int)=some (decide (a=b))
 |[],[]=>by simp[dX]
 |[],_::_=>by simp[dX]
 |_::_,[]=>by simp[dX]
 |x::a,y::b=>by
  have hi:cY k' (.int x) (.int y)=some (x==y):=by cases k'<;>rfl
  simp only[iU,dX,zfA a b,hi]
  congr 1
  by_cases e:x=y<;>by_cases e2:a=b<;>simp[e,e2]
theorem zlA{f:Bool->Bool}{a b:List Int}:yZ f [.tup (a.map .int),.tup (b.map .int)]=some (.dat (.bl (f (decide (a=b))))):=by
 show Option.map _ (dX (cY 49) (a.map D.int) (b.map D.int))=_;rw[zfA];rfl
theorem zdf:∀rs:List (List Int),j8 (rs.map λr=>D.tup (r.map .int))=some rs
 |[]=>rfl
 |r::rs=>by simp only[iU,j8,Ur,zdf rs]
theorem Uw:∀(rs:List (List Int)) (b:List Int),fQ b rs=b\/fQ b rs∈rs
 |[],b=>.inl rfl
 |x::r,b=>by
  unfold fQ
  split
  ·rcases Uw r x with h|h
   ·rw[h];exact .inr jF
   ·exact .inr (gb _ h)
  ·rcases Uw r b with h|h
   ·exact .inl h
   ·exact .inr (gb _ h)
theorem zmv{rs:List (List Int)}(h:rs≠[]):∃r∈rs,prim .rM [.fl (rs.map λr=>D.tup (r.map .int))]=some (.dat (.tup (r.map .int))):=by
 cases rs with
 |nil=>exact absurd rfl h
 |cons x r=>
  refine⟨fQ x r,?_,?_⟩
  ·rcases Uw r x with h|h
   ·rw[h];exact jF
   ·exact gb _ h
  ·show oH [.fl ((x::r).map λr=>D.tup (r.map .int))]=_;unfold oH;simp only[zdf]
theorem zoc{n:Nat}(h:n<=65536):prim .Er [.int n]=some (.dat (.tup ((oX n).map .int))):=by
 show (if okR 0 (n:Int)=true then some (Rz.dat (.tup (Ji 0 ((n:Int)-0).toNat))) else none)=_;rw[if_pos (show okR 0 (n:Int)=true from jP (by lia))];unfold Ji oX;rw[Am,show ((n:Int)-0).toNat=n by lia]
 congr 4
 funext i
 simp
noncomputable def Dg(n:Nat)(es:Nat->List Int):List D:=(List.range n).map λi=>.tup ((es i).map .int)
noncomputable def wG(k:Nat)(A:Int->Int->Bool):List D:=(List.range k).map λ(a:Nat)=>.fl ((List.range k).map λ(b:Nat)=>.bl (A a b))
noncomputable def kY(n k:Nat)(es:Nat->List Int)(A:Int->Int->Bool):D:=.ob 0 [.fl (Dg n es),.tup ((oX k).map .int),.fl (wG k A),.bl true]
theorem zlE{n:Nat}{es:Nat->List Int}{i:Nat}(h:i<n):(Dg n es)[i]?=some (.tup ((es i).map .int)):=by
 unfold Dg;rw[iW,K5 h];rfl
theorem znT{k:Nat}{A:Int->Int->Bool}{a:Int}(h0:0<=a)(h:a<k):(wG k A)[a.toNat]?=some (.fl ((List.range k).map λ(b:Nat)=>.bl (A a b))):=by
 unfold wG;rw[iW,K5 (by lia)];have:((a.toNat:Nat):Int)=a:=by lia
 simp[this]
theorem Ux{k:Nat}{f:Int->Bool}{b:Int}(h0:0<=b)(h:b<k):((List.range k).map λ(b:Nat)=>D.bl (f b))[b.toNat]?=some (.bl (f b)):=by
 rw[iW,K5 (by lia)];have:((b.toNat:Nat):Int)=b:=by lia
 simp[this]
theorem Od{F:Fr}{i:Nat}{c:Option (List Int)}(h:F[i]?=some c):(F.map bH)[i]?=some (bH c):=by rw[iW,h];rfl
theorem zkN{f:Int->Bool}{F:Fr}{e:Int}:(fW f F e).map bH=(F.map bH).set e.toNat (bH ((F[e.toNat]?.join).map (·.filter f))):=by
 unfold fW;rw[List.map_set]
theorem zhU{f:Int->Bool}{F:Fr}{e:Int}(h:F[e.toNat]?=some none):fW f F e=F:=by
 unfold fW;rw[h];obtain⟨hl,e2⟩:=dN.mp h;show F.set e.toNat none=F;rw[<-e2,List.set_getElem_self]
theorem zc5{α:Type}{p:Int->Bool}(l:List Int):l.filterMap (λy=>if p y=true then some (D.int y) else none)=(l.filter p).map .int:=by
 induction l with
 |nil=>rfl
 |cons a l ih=>
  rw[Dp,List.filter_cons];by_cases q:p a=true
  ·simp[q,ih]
  ·simp[q,ih]
noncomputable def tot(k:Nat):Nat->Nat
 |0=>0
 |m+1=>k*cnt k m+tot k m
theorem ziy{k:Nat}{L:List Int}(h:L.Pairwise (·<·))(hb:∀x∈L,0<=x/\x<k):L.length<=k:=by
 have key:∀(L:List Int) (a:Int),L.Pairwise (·<·)->(∀x∈L,a<=x/\x<k)->a<=k->(L.length:Int)<=k-a:=by
  intro L
  induction L with
  |nil=>intro a _ _ ha;simp;lia
  |cons x r ih=>
   intro a h hb ha;rw[Dv] at h;have hx:=hb x (by simp);have:=ih (x+1) h.2 (λy hy=>by have:=h.1 y hy;have:=hb y (by simp[hy]);lia) (by lia);rw[fK]
   lia
 have:=key L 0 h hb (by lia)
 lia
noncomputable def dM(k d:Int)(a b:Int):Bool:=decide (d<=fH k a b)
section
variable {n k d:Int}{ps:List (Int×Int)}{ls:List Int}
theorem zgA(hd:1<=d){a b:Int}:dM k d a b=dM k d b a:=by
 unfold dM;rw[Aj,Ft hd,Ft hd]
 lia
theorem zjk(hd:1<=d)(t a b:Int)(a0:0<=a)(ak:a<k)(b0:0<=b)(bk:b<k):dM k d ((a+t)%k) ((b+t)%k)=dM k d a b:=by
 unfold dM;rw[Aj,Ft hd,Ft hd];have e1:=Int.emod_add_mul_ediv (a+t) k;have e2:=Int.emod_add_mul_ediv (b+t) k;have u0:=Dz (a+t) (b:=k) (by lia);have w0:=Dz (b+t) (b:=k) (by lia);have uk:=Gb (a+t) (b:=k) (by lia);have wk:=Gb (b+t) (b:=k) (by lia);generalize (a+t)%k=u at *;generalize (b+t)%k=w at *;generalize (a+t)/k=q1 at *;generalize (b+t)/k=q2 at *;have e3:k*(q1-q2)=(a-b)-(u-w):=by rw[Int.mul_sub];lia
 have c:q1-q2 = -1\/q1-q2=0\/q1-q2=1:=by
  have h1:q1-q2<2:=Int.not_le.mp λz=>by
   have:=Int.mul_le_mul_of_nonneg_left z (show 0<=k by lia)
   lia
  have h2 : -2<q1-q2:=Int.not_le.mp λz=>by
   have:=Int.mul_le_mul_of_nonneg_left z (show 0<=k by lia)
   lia
  lia
 rcases c with c|c|c<;>rw[c] at e3<;>lia
theorem Kv(w:Web n ps){i e:Int}:e∈bK i ps↔(i,e)∈ps\/(e,i)∈ps:=by
 unfold bK;rw[Ds]
 constructor
 ·rintro⟨p,hp,h⟩;obtain⟨a,b⟩:=p;unfold endOf at h;dsimp only at h;split at h
  ·cases h;subst_vars;exact .inl hp
  ·split at h
   ·cases h;subst_vars;exact .inr hp
   ·cases h
 ·rintro(hp|hp)
  ·exact⟨_,hp,by simp[endOf]⟩
  ·have:=w.tie _ hp;dsimp only at this;exact⟨_,hp,by unfold endOf;dsimp only;rw[if_neg (by lia),if_pos rfl]⟩
theorem zk2(w:Web n ps)(hd:1<=d)(hk:k<=24):Bo n.toNat k.toNat (λi=>bK i ps) (dM k d) where
 hn:=by have:=w.h8;lia
 hk:=by lia
 mem:=λi hi e he=>by
  have:=zeG w he;refine⟨this.1,by lia,λz=>?_⟩;subst z;rcases(Kv w).mp he with h|h<;>have:=w.tie _ h<;>dsimp only at this<;>lia
 sym:=λi e _ _ he=>(Kv w).mpr ((Kv w).mp he).symm
 len:=λi hi=>by
  have:=ziy (k:=n.toNat) (zd6 w i) (λx hx=>by have:=zeG w hx;have:=w.h1;lia);have:=w.h8
  lia
 asy:=λa b _ _ _ _=>zgA hd
theorem zjC{g h:List Int}(hl:g.length=h.length)(a:Ge g h)(b:Ge h g):g=h:=by
 have key:∀j:Nat,j<h.length->at' g j=at' h j:=by
  intro j
  induction j using Nat.strongRecOn with
  |_ j ih=>
   intro hj;have h1:=a j hj λi hi=>ih i hi (by lia);have h2:=b j (by lia) λi hi=>(ih i hi (by lia)).symm
   lia
 refine List.ext_getElem hl λj h1 h2=>?_;have:=key j h2;unfold at' at this;rw[o_,lZ,lZ,dj h1,dj h2] at this;exact this
end
theorem Uy{k k2 m m2:Nat}(hk:k<=k2)(hm:m<=m2):cnt k m<=cnt k2 m2:=by
 have h1:∀m,cnt k m<=cnt k2 m:=by
  intro m
  induction m with
  |zero=>exact bO _
  |succ m ih=>exact Nat.add_le_add_left (DG hk ih) 1
 have h3:∀m,1<=cnt k2 m:=λm=>by cases m<;>unfold cnt<;>lia
 by_cases c:k2=0
 ·subst c;have:k=0:=by lia
  subst this;cases m<;>cases m2<;>simp[cnt]
 ·have h2:∀j,cnt k2 m<=cnt k2 (m+j):=by
   intro j
   induction j with
   |zero=>exact bO _
   |succ j ih=>
    have:1*cnt k2 (m+j)<=k2*cnt k2 (m+j):=Dn _ (by lia);show _<=1+k2*cnt k2 (m+j)
    lia
  have:=h2 (m2-m);rw[show m+(m2-m)=m2 by lia] at this;exact kI (h1 m) this
theorem zhB{k k2 m m2:Nat}(hk:k<=k2)(hm:m<=m2):tot k m<=tot k2 m2:=by
 have h1:∀m,tot k m<=tot k2 m:=by
  intro m
  induction m with
  |zero=>exact bO _
  |succ m ih=>exact Nat.add_le_add (DG hk (Uy hk (bO _))) ih
 have h2:∀j,tot k2 m<=tot k2 (m+j):=by
  intro j
  induction j with
  |zero=>exact bO _
  |succ j ih=>show _<=k2*cnt k2 (m+j)+tot k2 (m+j);lia
 have:=h2 (m2-m);rw[show m+(m2-m)=m2 by lia] at this;exact kI (h1 m) this
section
variable {n m:Int}{ps:List (Int×Int)}{r h:List Int}{x y:Int}
end
section
variable {n k d m:Int}{ps:List (Int×Int)}{hs:List Int}
end
section
variable {n k d q:Int}{ps qs:List (Int×Int)}{hs:List Int}
end
noncomputable def cD:Option Int->D
 |none=>.non
 |some i=>.int i
noncomputable def rF(k:Int)(t:D):Bool:=t.iB||Fy 0 (k-1) t
noncomputable def tV(n k:Int):D->Bool
 |.tup xs=>decide ((xs.length:Int)=n)&&xs.all (rF k)
 |_=>false
structure Kn(n k:Int)(ks:List (Option Int)):Prop where
 len:(ks.length:Int)=n
 lo:∀i,some i∈ks->0<=i/\i<k
theorem zed{k:Int}:∀{xs:List D},xs.all (rF k)=true->∃ks:List (Option Int),xs=ks.map cD/\∀i,some i∈ks->0<=i/\i<k
 |[],_=>⟨[],rfl,λi h=>by cases h⟩
 |d::r,h=>by
  rw[yM,eY] at h;obtain⟨ks,rfl,hk⟩:=zed h.2;cases d with
  |non=>exact⟨none::ks,rfl,λi hi=>hk i (by simpa using hi)⟩
  |int i=>
   have h1:Fy 0 (k-1) (.int i)=true:=h.1;have h1:=ji h1;refine⟨some i::ks,rfl,λj hj=>?_⟩;rcases gY.mp hj with e|e
   ·cases e;lia
   ·exact hk j e
  |_=>exact absurd h.1 (by simp[rF,Fy,D.iB])
theorem zhg{n k:Int}{x:D}(h:tV n k x=true):∃ks,x=.tup (ks.map cD)/\Kn n k ks:=by
 cases x with
 |tup xs=>
  rw[show tV n k (.tup xs)=(decide ((xs.length:Int)=n)&&xs.all (rF k)) from rfl,eY] at h;obtain⟨ks,rfl,hk⟩:=zed h.2;exact⟨ks,rfl,by have:=ji h.1;rwa [cg] at this,hk⟩
 |_=>cases h
structure sU(n k d:Int)(ps:List (Int×Int))(ks:List (Option Int))(h:List Int):Prop where
 hu:Uh n k d ps h
 kn:∀(j:Nat) i,ks[j]?=some (some i)->at' h j=i
structure vH(n k d:Int)(ps:List (Int×Int))(ks:List (Option Int))(r:List Int)(x:Int):Prop where
 lo:∀z∈r,0<=z/\z<k
 x0:0<=x
 xk:x<=k
 len:(r.length:Int)<n
 fit:∀p∈ps,p.2<r.length->d<=fH k (at' r p.1) (at' r p.2)
 kn:∀(j:Nat) i,j<r.length->ks[j]?=some (some i)->at' r j=i
 ge:∀h,sU n k d ps ks h->Ge h (r++[x])
section
variable {n k d:Int}{ps:List (Int×Int)}{ks:List (Option Int)}{r:List Int}{x y:Int}
theorem ziP{h:List Int}(g:sU n k d ps ks h)(j:Nat):0<=at' h j:=by
 by_cases hj:j<h.length
 ·exact(g.hu.lo _ (NP (by lia) (by lia))).1
 ·unfold at';rw[o_,lZ,FT (by lia)];exact Int.le_refl _
theorem Uz(w:Web n ps)(hk:1<=k):vH n k d ps ks [] 0 where
 lo:=by simp
 x0:=by lia
 xk:=by lia
 len:=by have:=w.h1;simp;lia
 fit:=λp hp h=>by have:=w.tie p hp;simp at h;lia
 kn:=λj i h=>by simp at h
 ge:=λh g=>zgy (r:=[]) (λj hj=>by simp at hj) (ziP g)
theorem ziz(S:vH n k d ps ks r k){h:List Int}(g:sU n k d ps ks h)(ha:∀i:Nat,i<r.length->at' h i=at' r i):False:=by
 have hge:=S.ge h g r.length (by simp) λi hi=>by rw[ha i hi,lW (by lia) (by lia)]
 rw[zW] at hge;have hlen:=g.hu.len;have:=S.len;have:=(g.hu.lo _ (NP (fs:=h) (j:=(r.length:Nat)) (by lia) (by lia))).2
 lia
theorem zkB(w:Web n ps)(S:vH n k d ps ks (r++[y]) k):vH n k d ps ks r (y+1) where
 lo:=λz hz=>S.lo z (Dm _ hz)
 x0:=by have:=S.lo y (by simp);lia
 xk:=by have:=S.lo y (by simp);lia
 len:=by have:=S.len;rw[dG] at this;simp at this;lia
 fit:=λp hp h=>by
  have ht:=w.tie p hp;have:=S.fit p hp (by rw[dG];simp;lia)
  rwa [lW (by lia) (by lia),lW (by lia) (by lia)] at this
 kn:=λj i hj e=>by
  have:=S.kn j i (by rw[dG];simp;lia) e
  rwa [lW (by lia) (by lia)] at this
 ge:=λh g=>zly (S.ge h g) λha=>ziz S g ha
theorem zi6(w:Web n ps)(S:vH n k d ps ks r x)(hx:x≠k)(hn:(∃p∈ps,p.2=r.length/\fH k (at' (r++[x]) p.1) x<d)\/∃i,ks[r.length]?=some (some i)/\i≠x):vH n k d ps ks r (x+1) where
 lo:=S.lo
 x0:=by have:=S.x0;lia
 xk:=by have:=S.xk;lia
 len:=S.len
 fit:=S.fit
 kn:=S.kn
 ge:=λh g=>ziX (S.ge h g) λha e=>by
  rcases hn with ⟨p,hp,e2,hg⟩|⟨i,ei,hi⟩
  ·have ht:=w.tie p hp;have:=g.hu.fit p hp;rw[e2,e] at this;obtain⟨i,hi⟩:=Ad ht.1;rw[hi,ha i (by lia)] at this;rw[hi,lW (by lia) (by lia)] at hg
   lia
  ·have:=g.kn _ _ ei
   lia
theorem ziC(w:Web n ps)(S:vH n k d ps ks r x)(hx:x≠k)(hn:∀p∈ps,p.2=r.length->d<=fH k (at' (r++[x]) p.1) x)(hk:∀i,ks[r.length]?=some (some i)->i=x) :
  (∀z∈r++[x],0<=z/\z<k)/\(∀p∈ps,p.2<(r++[x]).length->d<=fH k (at' (r++[x]) p.1) (at' (r++[x]) p.2))/\(∀(j:Nat) i,j<(r++[x]).length->ks[j]?=some (some i)->at' (r++[x]) j=i):=by
 refine⟨λz hz=>?_,λp hp hl=>?_,λj i hj e=>?_⟩
 ·rcases iR.mp hz with hz|hz
  ·exact S.lo z hz
  ·have:z=x:=by simpa using hz
   have:=S.x0;have:=S.xk
   lia
 ·have ht:=w.tie p hp;rw[dG] at hl;simp at hl;by_cases c:p.2<r.length
  ·rw[lW (by lia) (by lia),lW (by lia) (by lia)];exact S.fit p hp c
  ·have e:p.2=r.length:=by lia
   have:=hn p hp e;rw[e,zW];exact this
 ·rw[dG] at hj;simp at hj;by_cases c:j<r.length
  ·rw[lW (by lia) (by lia)];exact S.kn j i c e
  ·have c:j=r.length:=by lia
   subst c;rw[zW];exact(hk i e).symm
theorem zic(w:Web n ps)(S:vH n k d ps ks r x)(sS:1<=k)(hx:x≠k)(hl:(r.length:Int)+1≠n)(hn:∀p∈ps,p.2=r.length->d<=fH k (at' (r++[x]) p.1) x)(hk:∀i,ks[r.length]?=some (some i)->i=x):vH n k d ps ks (r++[x]) 0:=
 have h:=ziC w S hx hn hk
 ⟨h.1,by lia,by lia,by have:=S.len;rw[dG];simp;lia,h.2.1,h.2.2,λg q=>zgy (S.ge g q) (ziP q)⟩
theorem zil(w:Web n ps)(S:vH n k d ps ks r x)(hx:x≠k)(hl:(r.length:Int)+1=n)(hkl:(ks.length:Int)=n)(hn:∀p∈ps,p.2=r.length->d<=fH k (at' (r++[x]) p.1) x)(hk:∀i,ks[r.length]?=some (some i)->i=x):sU n k d ps ks (r++[x]):=
 have h:=ziC w S hx hn hk;have el:((r++[x]).length:Int)=n:=by rw[dG];simp;lia
 ⟨⟨el,h.1,λp hp=>h.2.1 p hp (by have:=w.tie p hp;lia)⟩,λj i e=>h.2.2 j i (by have:=(dN.mp e).1;lia) e⟩
noncomputable def oY(k:Int):Option Int->List Int
 |none=>oX k.toNat
 |some i=>[i]
noncomputable def tW(k:Int)(ks:List (Option Int)):Fr:=ks.map λc=>some (oY k c)
theorem Oe{j:Nat}{L:List Int}(h:(tW k ks)[j]?=some (some L)):∃c,ks[j]?=some c/\L=oY k c:=by
 unfold tW at h;rw[iW,kE] at h;obtain⟨c,e,e2⟩:=h;exact⟨c,e,(cJ e2).symm⟩
theorem zoe(q:Kn n k ks)(hk:k<=24)(hn:0<=n):Fv n.toNat k.toNat (tW k ks) where
 len:=by unfold tW;rw[cg];have:=q.len;lia
 lo:=λj L h x hx=>by
  obtain⟨c,e,rfl⟩:=Oe h;cases c with
  |none=>exact gW.mp hx
  |some i=>
   have:=q.lo i (fZ e);have:x=i:=qG.mp hx
   lia
 ll:=λj L h=>by
  obtain⟨c,e,rfl⟩:=Oe h;cases c with
  |none=>show (oX k.toNat).length<=24;unfold oX;simp;lia
  |some i=>show [i].length<=24;simp
 so:=λj L h=>by
  obtain⟨c,e,rfl⟩:=Oe h;cases c with
  |none=>
   show (oX k.toNat).Pairwise _;unfold oX;rw[List.pairwise_map];exact List.pairwise_lt_range.imp (by intro a b h;lia)
  |some i=>exact List.pairwise_singleton ..
theorem Kw{j:Nat}{c:Option Int}(h:ks[j]?=some c):(tW k ks)[j]?=some (some (oY k c)):=by
 unfold tW;rw[iW,h];rfl
theorem zfu(w:Web n ps)(hd:1<=d)(q:Kn n k ks){hs:List Int}(h:sU n k d ps ks hs):qx (λi=>bK i ps) (dM k d) (tW k ks) λj=>at' hs j where
 mem:=λj L e=>by
  obtain⟨c,e1,rfl⟩:=Oe e;have hj:=(dN.mp e1).1;have:=h.hu.len;have hl:=q.len;have:=h.hu.lo _ (NP (fs:=hs) (j:=j) (by lia) (by lia));cases c with
  |none=>exact gW.mpr (by lia)
  |some i=>exact qG.mpr (h.kn j i e1)
 fit:=λi e L M _ _ he=>by
  rcases(Kv w).mp he with q|q
  ·have:=h.hu.fit _ q;show dM k d (at' hs i) (at' hs e)=true;unfold dM;rw[PB];exact this
  ·have:=h.hu.fit _ q;rw[zgA hd];show dM k d (at' hs e) (at' hs i)=true;unfold dM;rw[PB];exact this
theorem zkm(w:Web n ps)(q:Kn n k ks){hs:List Int}(hl:hs.length=n.toNat)(s:qx (λi=>bK i ps) (dM k d) (tW k ks) λj=>at' hs j):sU n k d ps ks hs:=by
 have h1:=w.h1;have hkl:=q.len;have mem:∀j:Nat,j<n.toNat->0<=at' hs j/\at' hs j<k:=λj hj=>by
  obtain⟨c,e⟩ : ∃c,ks[j]?=some c:=⟨_,dj (by lia)⟩;have m:=s.mem j _ (Kw e);cases c with
  |none=>have:=gW.mp m;lia
  |some i=>have m:=qG.mp m;have:=q.lo i (fZ e);lia
 refine⟨⟨by lia,λx hx=>?_,λp hp=>?_⟩,λj i e=>?_⟩
 ·obtain⟨j,hj,e⟩:=yH hx;have e2:at' hs (j:Int)=x:=by
   unfold at';rw[o_,lZ,dj hj,e];rfl
  rw[<-e2];exact mem j (by lia)
 ·have ht:=w.tie p hp;obtain⟨a,b⟩:=p;dsimp only at ht;obtain⟨i,rfl⟩:=Ad ht.1;obtain⟨e,rfl⟩:=Ad (show 0<=b by lia);have:=s.fit i e _ _ (Kw (dj (l:=ks) (i:=i) (by lia))) (Kw (dj (l:=ks) (i:=e) (by lia))) ((Kv w).mpr (.inl hp));unfold dM at this;rw[PB] at this;exact this
 ·exact qG.mp (s.mem j _ (Kw e))
end
noncomputable def Og(x:Int):Option Int->Bool
 |none=>false
 |some i=>decide (i≠x)
theorem znZ{c:Option Int}{x:Int}:prim .nin [cD c,.tup [.non,.int x]]=some (.dat (.bl (Og x c))):=by
 cases c with
 |none=>rfl
 |some i=>
  show Option.map (λk=>Rz.dat (.bl (!k))) (memD (.int i) [.non,.int x])=_;have e1:cY 50 .non (.int i)=some false:=rfl;have e2:cY 50 (.int x) (.int i)=some (x==i):=rfl;simp only[memD,e1,e2];show some (Rz.dat (.bl (!(false||(x==i||false)))))=_
  congr 3
  unfold Og;by_cases c:i=x
  ·subst c;simp
  ·have:(x==i)=false:=yF.mpr λz=>c z.symm;simp[c,this]
theorem zZ{x:Int}{c:Option Int}:Og x c=true↔∃i,c=some i/\i≠x:=by
 cases c with
 |none=>exact⟨λz=>(by cases z),λ⟨i,e,_⟩=>(by cases e)⟩
 |some i=>exact⟨λz=>⟨i,rfl,ji z⟩,λ⟨j,e,q⟩=>by cases e;exact jP q⟩
theorem zoy{ks:List (Option Int)}{j:Nat}{c:Option Int}(h:ks[j]?=some c):(ks.map cD)[j]?=some (cD c):=by rw[iW,h];rfl
section
variable {n k d:Int}{ps:List (Int×Int)}
end
end Mi
namespace eZ
open PySem Mi
noncomputable def b0:bV:=(.cons (.ret (.and (.g8 (.v 0) .int) (.not (.g8 (.v 0) .bool)))) .nil)
noncomputable def b1:bV:=(.cons (.ret (.and (.call 0 (Ea (.v 0))) (.wg .le .le (.v 1) (.v 0) (.v 2)))) .nil)
noncomputable def b2:bV:=(.cons (.ret (.and (.g8 (.v 0) .tuple) (.pr true .eq (Eb (.pr true .len (Ea (.v 0))) (.v 1))))) .nil)
noncomputable def b3:bV:=(.cons (.iff (.not (.call 2 (Eb (.v 0) (Ci 2)))) (.cons (.ret (.c (.bl false))) .nil) .nil) (.cons (.asg (.tp [1,2]) (.v 0)) (.cons (.iff (.or (.not (.call 4 (Ea (.v 1)))) (.not (.g8 (.v 2) .tuple))) (.cons (.ret (.c (.bl false))) .nil) .nil) (.cons (.iff (.not (.pr true .all (Ea (.comp true (.call 6 (Eb (.v 1) (.v 0))) [0] (.seq (.v 2)) [1] 1 .no)))) (.cons (.ret (.c (.bl false))) .nil) .nil) (.cons (.ret (.pr true .all (Ea (.comp true (.pr true .lt (Eb (.v 0) (.v 1))) [0,1] (.zip (.v 2) (.sl true (.v 2) (.yes (Ci 1)) .no)) [] 2 .no)))) .nil)))))
noncomputable def b4:bV:=(.cons (.ret (.call 1 (Ec (.v 0) (Ci 1) (Ci 8)))) .nil)
noncomputable def b5:bV:=(.cons (.ret (.call 1 (Ec (.v 1) (Ci 0) (.pr true .aq (Eb (.v 0) (Ci 1)))))) .nil)
noncomputable def b6:bV:=(.cons (.iff (.not (.call 2 (Eb (.v 1) (Ci 2)))) (.cons (.ret (.c (.bl false))) .nil) .nil) (.cons (.asg (.tp [2,3]) (.v 1)) (.cons (.ret (.and (.call 5 (Eb (.v 0) (.v 2))) (.and (.call 5 (Eb (.v 0) (.v 3))) (.pr true .lt (Eb (.v 2) (.v 3)))))) .nil)))
noncomputable def b7:bV:=(.cons (.iff (.not (.call 3 (Ea (.v 0)))) (.cons (.rise 9 true (Ea (.pr true .neg (Ea (Ci 1))))) .nil) .nil) .nil)
noncomputable def b8:bV:=(.cons (.asg (.nm 2) (.comp true (.ite (.pr true .eq (Eb (.v 0) (.v 2))) (.v 1) (.v 0)) [0,1] (.seq (Ei (.v 0) (Ci 1))) [1] 2 (.yes (.pr true .inn (Eb (.v 2) (.tup (Eb (.v 0) (.v 1)))))))) (.cons (.ret (.pr true .tuple (Ea (.pr true .sorted (Ea (.v 2)))))) .nil))
noncomputable def b9:bV:=(.cons (.ret (.comp true (.call 8 (Eb (.v 1) (.v 0))) [0] (.rg (Ci 0) (Ei (.v 0) (Ci 0))) [0] 1 .no)) .nil)
noncomputable def b10:bV:=(.cons (.ret (.tup (.cons (.call 9 (Ea (.v 1))) (Ec (.pr true .Er (Ea (.pr true .len (Ea (.v 2))))) (.v 2) (.v 3))))) .nil)
noncomputable def UG:bV:=(.cons (.ret (Ei (Ei (.of (.v 0) 0 2) (.v 1)) (.v 2))) .nil)
noncomputable def UJ:bV:=(.cons (.asg (.nm 4) (.pr false .list (Ea (.v 1)))) (.cons (.asg (.aq (.v 4) (.v 2)) (.c .non)) (.cons (.fr (.nm 5) (.seq (Ei (.of (.v 0) 0 0) (.v 2))) (.cons (.iff (.pr true .uJ (Ea (Ei (.v 4) (.v 5)))) (.cons (.asg (.aq (.v 4) (.v 5)) (.pr true .tuple (Ea (.comp true (.v 0) [0] (.seq (Ei (.v 4) (.v 5))) [0,3] 1 (.yes (.cm 0 11 (.v 1) (Eb (.v 2) (.v 0)))))))) .nil) .nil) .nil)) (.cons (.ret (.pr true .tuple (Ea (.v 4)))) .nil))))
noncomputable def UL:bV:=(.cons (.ret (.pr true .len (Ea (.comp true (.v 0) [0] (.seq (Ei (.of (.v 0) 0 0) (.v 2))) [1] 1 (.yes (.pr true .uJ (Ea (Ei (.v 1) (.v 0))))))))) .nil)
noncomputable def UW:bV:=(.cons (.ret (.pr true .tuple (Ea (.comp true (.ite (.pr true .gt (Eb (.cm 0 13 (.v 2) (Eb (.v 3) (.v 0))) (Ci 0))) (.v 1) (.c .non)) [0,1] (.enum (.v 1)) [0,1] 2 .no)))) .nil)
noncomputable def U6:bV:=(.cons (.asg (.nm 2) (.lst false .nil)) (.cons (.fr (.tp [3,4]) (.enum (.v 1)) (.cons (.iff (.pr true .uJ (Ea (.v 4))) (.cons (.ex (.push (.v 2) (.tup (Ec (.pr true .len (Ea (.v 4))) (.pr true .neg (Ea (.cm 0 13 (.v 0) (Eb (.v 1) (.v 3))))) (.v 3))))) .nil) .nil) .nil)) (.cons (.ret (.ite (.Et (.v 2)) (Ei (.pr true .rM (Ea (.v 2))) (Ci 2)) (.c .non))) .nil)))
noncomputable def U7:bV:=(.cons (.ret (.pr true .all (Ea (.comp true (.or (.pr true .qX (Ea (.v 0))) (.pr true .eq (Eb (.v 0) (.of (.v 1) 0 1)))) [0] (.seq (.v 1)) [0] 1 .no)))) .nil)
noncomputable def U8:bV:=(.cons (.asg (.tp [2,3]) (.v 1)) (.cons (.asg (.nm 4) (.comp true (.pr true .ge (Eb (.pr true .min2 (Eb (.v 0) (.pr true .aq (Eb (.v 1) (.v 0))))) (.v 2))) [0] (.rg (Ci 0) (.v 2)) [2,3] 1 .no)) (.cons (.ret (.mk 0 10 (Ec (.v 0) (.comp true (.comp true (Ei (.v 1) (.pr true .aq (Eb (.v 2) (.v 0)))) [0] (.rg (Ci 0) (.v 1)) [2,0] 1 .no) [0] (.rg (Ci 0) (.v 2)) [2,4] 1 .no) (.c (.bl true))))) .nil)))
noncomputable def U9:bV:=(.cons (.iff (.not (.call 2 (Eb (.v 0) (Ci 2)))) (.cons (.ret (.c (.bl false))) .nil) .nil) (.cons (.asg (.tp [1,2]) (.v 0)) (.cons (.ret (.and (.call 1 (Ec (.v 1) (Ci 1) (Ci 24))) (.call 1 (Ec (.v 2) (Ci 1) (.v 1))))) .nil)))
noncomputable def U_:bV:=(.cons (.ret (.call 1 (Ec (.v 1) (Ci 0) (.pr true .aq (Eb (Ei (.v 0) (Ci 0)) (Ci 1)))))) .nil)
noncomputable def Va:bV:=(.cons (.iff (.not (.call 18 (Ea (.v 0)))) (.cons (.rise 1 false (Ea (.c (.str "no ring")))) .nil) .nil) .nil)
noncomputable def Oh:bV:=(.cons (.ex (.call 23 (Ec (.v 0) (.v 1) (.v 2)))) (.cons (.asg (.nm 3) (.call 17 (Eb (.v 0) (.v 1)))) (.cons (.ret (.call 24 (Eb (.v 3) (.comp true (.ite (.pr true .qX (Ea (.v 0))) (.of (.v 1) 0 1) (.tup (Ea (.v 0)))) [0] (.seq (.v 2)) [3] 1 .no)))) .nil)))
noncomputable def Vb:bV:=(.cons (.ret (.and (.call 2 (Eb (.v 2) (Ei (.v 0) (Ci 0)))) (.pr true .all (Ea (.comp true (.or (.pr true .qX (Ea (.v 0))) (.call 19 (Eb (.v 1) (.v 0)))) [0] (.seq (.v 2)) [1] 1 .no))))) .nil)
noncomputable def Oi:bV:=(.cons (.ex (.call 7 (Ea (.v 0)))) (.cons (.ex (.call 20 (Ea (.v 1)))) (.cons (.iff (.not (.call 22 (Ec (.v 0) (.v 1) (.v 2)))) (.cons (.rise 2 false (Ea (.c (.str "no known spots of the web on the ring")))) .nil) .nil) .nil)))
noncomputable def Vc:bV:=(.cons (.asg (.nm 2) (.pr true .tuple (Ea (.v 1)))) (.cons (.asg (.nm 3) .rN) (.cons (.iff (.not (.call 26 (Ec (.v 0) (.v 3) (.v 2)))) (.cons (.ret (.c .non)) .nil) .nil) (.cons (.asg (.nm 4) (.lst false .nil)) (.cons (.fr (.nm 5) (.rg (Ci 0) (.pr true .len (Ea (.v 1)))) (.cons (.asg (.nm 6) (.call 25 (.cons (.v 0) (Ec (.v 3) (.v 2) (.v 5))))) (.cons (.asg (.nm 2) (.cm 0 12 (.v 0) (Ec (.v 2) (.v 5) (.v 6)))) (.cons (.ex (.push (.v 4) (.v 6))) .nil)))) (.cons (.ret (.pr true .tuple (Ea (.v 4)))) .nil))))))
noncomputable def Vd:bV:=(.cons (.fr (.nm 4) (.seq (Ei (.v 2) (.v 3))) (.cons (.iff (.call 26 (Ec (.v 0) (.v 1) (.cm 0 12 (.v 0) (Ec (.v 2) (.v 3) (.v 4))))) (.cons (.ret (.v 4)) .nil) .nil) .nil)) (.cons (.ret (.c .non)) .nil))
noncomputable def Ve:bV:=(.cons (.iff (.pr true .inn (Eb (.tup .nil) (.v 2))) (.cons (.ret (.c (.bl false))) .nil) .nil) (.cons (.asg (.nm 3) (.cm 0 14 (.v 0) (Ea (.v 2)))) (.cons (.iff (.B_ false (.v 3) (.v 1)) (.cons (.dput (.v 1) (.v 3) (.call 27 (Ec (.v 0) (.v 1) (.v 3)))) .nil) .nil) (.cons (.ret (.pY (.v 1) (.v 3))) .nil))))
noncomputable def Oj:bV:=(.cons (.asg (.nm 3) (.cm 0 15 (.v 0) (Ea (.v 2)))) (.cons (.iff (.pr true .qX (Ea (.v 3))) (.cons (.ret (.c (.bl true))) .nil) .nil) (.cons (.iff (.and (.of (.v 0) 0 3) (.cm 0 16 (.v 0) (Ea (.v 2)))) (.cons (.ret (.call 26 (Ec (.v 0) (.v 1) (.cm 0 12 (.v 0) (Ec (.v 2) (.v 3) (Ci 0)))))) .nil) .nil) (.cons (.ret (.pr true .uJ (Ea (.call 25 (.cons (.v 0) (Ec (.v 1) (.v 2) (.v 3))))))) .nil))))
noncomputable def Vf:bV:=(.cons (.iff (.pr true .lt (Eb (.v 1) (.pr true .len (Ea (.v 0))))) (.cons (.ret (Ei (.v 0) (.v 1))) .nil) .nil) (.cons (.ret (Ci 0)) .nil))
noncomputable def Vg:bV:=(.cons (.asg (.nm 1) (.pr true .max2 (Eb (.v 0) (.pr true .aq (Eb (Ci 0) (.v 0)))))) (.cons (.ret (.lst false (Eb (.v 1) (.pr true .xH (Ea (.pr true .ge (Eb (.v 1) (.pr true .pow (Eb (Ci 10) (Ci 18)))))))))) .nil))
noncomputable def Vh:bV:=(.cons (.iff (.pr true .eq (Eb (Ei (.v 0) (Ci 1)) (Ci 1))) (.cons (.asg (.tp [2,3]) (.pr true .divmod (Eb (Ei (.v 0) (Ci 0)) (.v 1)))) (.cons (.asg (.aq (.v 0) (Ci 0)) (.v 2)) (.cons (.ret (.v 3)) .nil))) .nil) (.cons (.asg (.nm 4) (.pr true .mod (Eb (.pr true .mul (Eb (.pr true .add (Eb (.pr true .mod (Eb (Ei (.v 0) (Ci 0)) (Ci 2147483647))) (Ci 40503))) (Ci 69621))) (Ci 2147483629)))) (.cons (.asg (.nm 4) (.pr true .mod (Eb (.pr true .add (Eb (.pr true .mul (Eb (.v 4) (.v 4))) (Ci 7817))) (Ci 2147483587)))) (.cons (.asg (.aq (.v 0) (Ci 0)) (.pr true .mod (Eb (.pr true .add (Eb (.pr true .mul (Eb (.v 4) (Ci 48271))) (Ci 11))) (Ci 2147483629)))) (.cons (.ret (.pr true .mod (Eb (.pr true .fdiv (Eb (Ei (.v 0) (Ci 0)) (Ci 32))) (.v 1)))) .nil)))))
noncomputable def b31:bV:=(.cons (.ret (.and (.g8 (.v 0) .int) (.not (.g8 (.v 0) .bool)))) .nil)
noncomputable def Vi:bV:=(.cons (.asg (.nm 1) (.lst true (.cons (.c .non) (.cons (.c (.bl true)) (.cons (.c (.bl false)) (.cons (.pr true .neg (Ea (Ci 1))) (.cons (.c (.str "1")) (.cons (.c (.str "")) (.cons (.tup .nil) (.cons (.lst true .nil) (.cons (.tup (Ea (Ci 0))) (.cons (.lst true (Ea (Ci 0))) (.cons (.uK "a" 1) (.cons (.tup (Eb (Ci 0) (Ci 1))) (Ec (.pr true .pow (Eb (Ci 10) (Ci 30))) (.tup (Eb (Ci 0) (.tup .nil))) (.tup (Ea (.c (.str "ab"))))))))))))))))))) (.cons (.ret (Ei (.pr true .add (Eb (.v 1) (.lst true (Ea (.tup (Eb (Ci 1) (.tup (Ea (.tup (Eb (Ci 0) (Ci 0))))))))))) (.call 30 (Eb (.v 0) (Ci 16))))) .nil))
noncomputable def b33:bV:=(.cons (.asg (.nm 1) (.lst true (.cons (.g8 (.v 0) (.cls 1)) (Ec (.g8 (.v 0) (.cls 2)) (.g8 (.v 0) (.cls 3)) (.g8 (.v 0) (.cls 4)))))) (.cons (.asg (.nm 1) (.pr true .add (Eb (.v 1) (.lst true (.cons (.g8 (.v 0) (.cls 5)) (Ec (.g8 (.v 0) (.cls 6)) (.g8 (.v 0) (.cls 7)) (.g8 (.v 0) (.cls 8)))))))) (.cons (.asg (.nm 1) (.pr true .add (Eb (.v 1) (.lst true (Ec (.g8 (.v 0) (.cls 9)) (.g8 (.v 0) (.cls 10)) (.g8 (.v 0) (.cls 11))))))) (.cons (.iff (.or (.not (.g8 (.v 0) .pX)) (.pr true .ne (Eb (.meth true .count .list (.v 1) (Ea (.c (.bl true)))) (Ci 1)))) (.cons (.ret (.c (.str "other"))) .nil) .nil) (.cons (.asg (.nm 2) (.lst true (.cons (.c (.str "ring")) (.cons (.c (.str "hues")) (.cons (.c (.str "place")) (.cons (.c (.str "arrows")) (.cons (.c (.str "map")) (.cons (.c (.str "paper")) (.cons (.c (.str "apart")) (.cons (.c (.str "row")) (Ec (.c (.str "web")) (.c (.str "text")) (.c (.str "great"))))))))))))) (.cons (.ret (Ei (.v 2) (.meth true .index .list (.v 1) (Ea (.c (.bl true)))))) .nil))))))
noncomputable def Vj:bV:=(.cons (.asg (.nm 2) (Ei (.lst true (Ec (Ci 2) (Ci 4) (Ci 6))) (.call 30 (Eb (.v 0) (Ci 3))))) (.cons (.asg (.nm 3) (.lst true .nil)) (.cons (.fr (.nm 4) (.rg (Ci 0) (.v 1)) (.cons (.asg (.nm 3) (.pr true .add (Eb (.v 3) (.comp true (.tup (Eb (.v 1) (.v 0))) [0] (.rg (.pr true .add (Eb (.v 4) (Ci 1))) (.v 1)) [4,0,2] 1 (.yes (.pr true .lt (Eb (.call 30 (Eb (.v 2) (Ci 8))) (.v 3)))))))) .nil)) (.cons (.ret (.tup (Eb (.v 1) (.pr true .tuple (Ea (.v 3)))))) .nil))))
noncomputable def Vk:bV:=(.cons (.ret (Ei (.lst true (.cons (.tup (Eb (Ci 2) (Ci 1))) (.cons (.tup (Eb (Ci 3) (Ci 1))) (.cons (.tup (Eb (Ci 5) (Ci 2))) (.cons (.tup (Eb (Ci 4) (Ci 1))) (.cons (.tup (Eb (Ci 4) (Ci 2))) (.cons (.tup (Eb (Ci 6) (Ci 2))) (.cons (.tup (Eb (Ci 5) (Ci 1))) (Ec (.tup (Eb (Ci 7) (Ci 3))) (.tup (Eb (Ci 3) (Ci 2))) (.tup (Eb (Ci 6) (Ci 3)))))))))))) (.call 30 (Eb (.v 0) (Ci 10))))) .nil)
noncomputable def b36:bV:=(.cons (.asg (.nm 3) (.pr true .abs (Ea (.pr true .aq (Eb (.v 1) (.v 2)))))) (.cons (.ret (.pr true .min2 (Eb (.v 3) (.pr true .aq (Eb (.v 0) (.v 3)))))) .nil))
noncomputable def Vl:bV:=(.cons (.asg (.nm 2) (.lst true (Ea (.tup .nil)))) (.cons (.fr (.nm 3) (.rg (Ci 0) (Ei (.v 0) (Ci 0))) (.cons (.asg (.nm 4) (.lst false .nil)) (.cons (.fr (.nm 5) (.seq (.v 2)) (.cons (.asg (.nm 6) (.comp true (Ei (.v 2) (.v 0)) [0,1] (.seq (Ei (.v 0) (Ci 1))) [5,3] 2 (.yes (.pr true .eq (Eb (.v 1) (.v 3)))))) (.cons (.fr (.nm 7) (.rg (Ci 0) (Ei (.v 1) (Ci 0))) (.cons (.iff (.pr true .eq (Eb (.comp true (.v 0) [0] (.seq (.v 6)) [1,7] 1 (.yes (.pr true .lt (Eb (.call 36 (Ec (Ei (.v 1) (Ci 0)) (.v 0) (.v 2))) (Ei (.v 1) (Ci 1)))))) (.lst true .nil))) (.cons (.ex (.push (.v 4) (.pr true .add (Eb (.v 5) (.tup (Ea (.v 7))))))) .nil) .nil) .nil)) .nil))) (.cons (.asg (.nm 2) (.v 4)) .nil)))) (.cons (.ret (.v 2)) .nil)))
noncomputable def Vm:bV:=(.cons (.asg (.nm 3) (Ei (.lst true (Ec (Ci 1) (Ci 2) (Ci 4))) (.call 30 (Eb (.v 0) (Ci 3))))) (.cons (.ret (.pr true .tuple (Ea (.comp true (.ite (.pr true .lt (Eb (.call 30 (Eb (.v 1) (Ci 5))) (.v 2))) (.call 30 (Eb (.v 1) (Ei (.v 3) (Ci 0)))) (.c .non)) [0] (.rg (Ci 0) (Ei (.v 1) (Ci 0))) [0,3,2] 1 .no)))) .nil))
noncomputable def Vn:bV:=(.cons (.iff (.or (.not (.g8 (.v 2) .tuple)) (.pr true .ne (Eb (.pr true .len (Ea (.v 2))) (Ei (.v 0) (Ci 0))))) (.cons (.ret (.c (.bl false))) .nil) .nil) (.cons (.ret (.pr true .all (Ea (.comp true (.or (.pr true .qX (Ea (.v 0))) (.and (.call 31 (Ea (.v 0))) (.wg .le .lt (Ci 0) (.v 0) (Ei (.v 1) (Ci 0))))) [0] (.seq (.v 2)) [1] 1 .no)))) .nil))
noncomputable def Vo:bV:=(.cons (.asg (.nm 3) (.lst false (Ea (Ci 0)))) (.cons (.wh (.pr true .ne (Eb (.v 3) (.lst true .nil))) (.cons (.asg (.nm 4) (.pr true .aq (Eb (.pr true .len (Ea (.v 3))) (Ci 1)))) (.cons (.iff (.pr true .eq (Eb (Ei (.v 3) (.pr true .neg (Ea (Ci 1)))) (Ei (.v 1) (Ci 0)))) (.cons (.ex (.pop (.v 3))) (.cons (.iff (.pr true .ne (Eb (.v 3) (.lst true .nil))) (.cons (.asg (.aq (.v 3) (.pr true .neg (Ea (Ci 1)))) (.pr true .add (Eb (Ei (.v 3) (.pr true .neg (Ea (Ci 1)))) (Ci 1)))) .nil) .nil) .nil)) (.cons (.asg (.nm 5) (.comp true (Ei (.v 2) (.v 0)) [0,1] (.seq (Ei (.v 0) (Ci 1))) [3,4] 2 (.yes (.pr true .eq (Eb (.v 1) (.v 3)))))) (.cons (.asg (.nm 6) (.comp true (.v 0) [0] (.seq (.v 5)) [1,3] 1 (.yes (.pr true .lt (Eb (.call 36 (Ec (Ei (.v 1) (Ci 0)) (.v 0) (Ei (.v 2) (.pr true .neg (Ea (Ci 1)))))) (Ei (.v 1) (Ci 1))))))) (.cons (.iff (.or (.pr true .ne (Eb (.v 6) (.lst true .nil))) (.pr true .nin (Eb (Ei (.v 2) (.v 4)) (.tup (Eb (.c .non) (Ei (.v 3) (.pr true .neg (Ea (Ci 1))))))))) (.cons (.asg (.aq (.v 3) (.pr true .neg (Ea (Ci 1)))) (.pr true .add (Eb (Ei (.v 3) (.pr true .neg (Ea (Ci 1)))) (Ci 1)))) .nil) (.cons (.iff (.pr true .eq (Eb (.pr true .len (Ea (.v 3))) (Ei (.v 0) (Ci 0)))) (.cons (.ret (.pr true .tuple (Ea (.v 3)))) .nil) (.cons (.ex (.push (.v 3) (Ci 0))) .nil)) .nil)) .nil)))) .nil))) (.cons (.ret (.c .non)) .nil)))
noncomputable def Vp:bV:=(.cons (.asg (.nm 3) (.call 30 (Eb (.v 0) (.pr true .add (Eb (.pr true .len (Ea (.v 1))) (Ci 1)))))) (.cons (.asg (.nm 4) (Ei (.lst true (.cons (.c (.bl true)) (.cons (.c (.bl false)) (.cons (.c .non) (.cons (.pr true .neg (Ea (Ci 1))) (.cons (.v 2) (Ec (.c (.str "0")) (.tup (Ea (Ci 0))) (.call 30 (Eb (.v 0) (.v 2)))))))))) (.call 30 (Eb (.v 0) (Ci 8))))) (.cons (.asg (.nm 5) (.lst true (.cons (.pr true .add (Eb (.pr true .add (Eb (.sl true (.v 1) .no (.yes (.v 3))) (.tup (Ea (.v 4))))) (.sl true (.v 1) (.yes (.pr true .add (Eb (.v 3) (Ci 1)))) .no))) (.cons (.pr true .add (Eb (.sl true (.v 1) .no (.yes (.v 3))) (.sl true (.v 1) (.yes (.pr true .add (Eb (.v 3) (Ci 1)))) .no))) (.cons (.pr true .add (Eb (.v 1) (.tup (Ea (Ci 0))))) (Ec (.pr true .list (Ea (.v 1))) (.c .non) (.tup (Ea (.v 1))))))))) (.cons (.ret (Ei (.v 5) (Ei (.lst true (.cons (Ci 0) (.cons (Ci 0) (.cons (Ci 0) (.cons (Ci 0) (.cons (Ci 1) (.cons (Ci 2) (Ec (Ci 3) (Ci 4) (Ci 5))))))))) (.call 30 (Eb (.v 0) (Ci 9)))))) .nil))))
noncomputable def Ol:bV:=(.cons (.iff (.pr true .qX (Ea (.v 1))) (.cons (.ret (.pr true .qX (Ea (.v 0)))) .nil) .nil) (.cons (.ret (.and (.g8 (.v 0) .tuple) (.and (.pr true .eq (Eb (.v 0) (.v 1))) (.pr true .all (Ea (.comp true (.call 31 (Ea (.v 0))) [0] (.seq (.v 0)) [] 1 .no)))))) .nil))
noncomputable def Om:bV:=(.cons (.rO (.cons (.ret (.call 21 (Ec (.v 0) (.v 1) (.v 2)))) .nil) 0 3 (.cons (.ret (.call 33 (Ea (.v 3)))) .nil)) .nil)
noncomputable def Vq:bV:=(.cons (.iff (.not (.call 39 (Ec (.v 0) (.v 1) (.v 2)))) (.cons (.ret (.pr true .eq (Eb (.call 43 (Ec (.v 0) (.v 1) (.v 2))) (.c (.str "hues"))))) .nil) .nil) (.cons (.asg (.nm 3) (.call 40 (Ec (.v 0) (.v 1) (.v 2)))) (.cons (.fr (.nm 4) (.rg (Ci 0) (Ci 2)) (.cons (.iff (.not (.call 42 (Eb (.call 43 (Ec (.v 0) (.v 1) (.v 2))) (.v 3)))) (.cons (.ret (.c (.bl false))) .nil) .nil) .nil)) (.cons (.ret (.c (.bl true))) .nil))))
noncomputable def Vr:bV:=(.cons (.fr (.nm 1) (.seq (.pr true .add (Eb (.lst true (Ea (.call 28 (Eb (.v 0) (Ci 0))))) (.sl true (.v 0) (.yes (Ci 1)) (.yes (Ci 4)))))) (.cons (.asg (.nm 2) (.call 29 (Ea (.v 1)))) (.cons (.asg (.nm 3) (.call 34 (Eb (.v 2) (.pr true .add (Eb (Ci 1) (.call 30 (Eb (.v 2) (Ei (.lst true (Eb (Ci 5) (Ci 4))) (.call 30 (Eb (.v 2) (Ci 2))))))))))) (.cons (.asg (.nm 4) (.call 35 (Ea (.v 2)))) (.cons (.asg (.nm 5) (.call 38 (Ec (.v 2) (.v 3) (.v 4)))) (.cons (.asg (.nm 6) (.pr true .add (Eb (.call 37 (Eb (.v 3) (.v 4))) (.lst true (Ea (.v 5)))))) (.cons (.asg (.nm 7) (Ei (.v 6) (.call 30 (Eb (.v 2) (.pr true .len (Ea (.v 6))))))) (.cons (.asg (.nm 8) (.pr true .tuple (Ea (.comp true (.ite (.pr true .eq (Eb (.call 30 (Eb (.v 1) (Ci 3))) (Ci 0))) (.v 0) (.c .non)) [0] (.seq (.v 7)) [2] 1 .no)))) (.cons (.asg (.nm 9) (.lst true (.cons (.v 5) (.cons (.v 8) (.cons (.v 7) (Ec (.pr true .mult (Eb (.tup (Ea (.c .non))) (Ei (.v 3) (Ci 0)))) (.call 32 (Ea (.v 2))) (.call 41 (Ec (.v 2) (.v 5) (Ei (.v 4) (Ci 0)))))))))) (.cons (.iff (.not (.pr true .all (Ea (.comp true (.call 44 (Ec (.v 1) (.v 2) (.v 0))) [0] (.seq (.v 9)) [3,4] 1 .no)))) (.cons (.ret (.c (.bl false))) .nil) .nil) .nil)))))))))) (.cons (.ret (.c (.bl true))) .nil))
noncomputable def T(n:Nat):Option Df:=([⟨1,1,b0⟩,⟨3,3,b1⟩,⟨2,2,b2⟩,⟨3,1,b3⟩,⟨1,1,b4⟩,⟨2,2,b5⟩,⟨4,2,b6⟩,⟨1,1,b7⟩,⟨3,2,b8⟩,⟨1,1,b9⟩,⟨4,4,b10⟩,⟨3,3,UG⟩,⟨6,4,UJ⟩,⟨3,3,UL⟩,⟨2,2,UW⟩,⟨5,2,U6⟩,⟨2,2,U7⟩,⟨5,2,U8⟩,⟨3,1,U9⟩,⟨2,2,U_⟩,⟨1,1,Va⟩,⟨4,3,Oh⟩,⟨3,3,Vb⟩,⟨3,3,Oi⟩,⟨7,2,Vc⟩,⟨5,4,Vd⟩,⟨4,3,Ve⟩,⟨4,3,Oj⟩,⟨2,2,Vf⟩,⟨2,1,Vg⟩,⟨5,2,Vh⟩,⟨1,1,b31⟩,⟨2,1,Vi⟩,⟨3,1,b33⟩,⟨5,2,Vj⟩,⟨1,1,Vk⟩,⟨4,3,b36⟩,⟨8,2,Vl⟩,⟨4,3,Vm⟩,⟨3,3,Vn⟩,⟨7,3,Vo⟩,⟨6,3,Vp⟩,⟨2,2,Ol⟩,⟨4,3,Om⟩,⟨5,3,Vq⟩,⟨10,1,Vr⟩]:List Df)[n]?
theorem T_0:T 0=some ⟨1,1,b0⟩:=rfl
theorem T_1:T 1=some ⟨3,3,b1⟩:=rfl
theorem T_2:T 2=some ⟨2,2,b2⟩:=rfl
theorem T_3:T 3=some ⟨3,1,b3⟩:=rfl
theorem T_4:T 4=some ⟨1,1,b4⟩:=rfl
theorem T_5:T 5=some ⟨2,2,b5⟩:=rfl
theorem T_6:T 6=some ⟨4,2,b6⟩:=rfl
theorem T_7:T 7=some ⟨1,1,b7⟩:=rfl
theorem T_8:T 8=some ⟨3,2,b8⟩:=rfl
theorem T_9:T 9=some ⟨1,1,b9⟩:=rfl
theorem zoM:T 10=some ⟨4,4,b10⟩:=rfl
theorem zoK:T 11=some ⟨3,3,UG⟩:=rfl
theorem zoD:T 12=some ⟨6,4,UJ⟩:=rfl
theorem zoI:T 13=some ⟨3,3,UL⟩:=rfl
theorem zoW:T 14=some ⟨2,2,UW⟩:=rfl
theorem zo0:T 15=some ⟨5,2,U6⟩:=rfl
theorem zoE:T 16=some ⟨2,2,U7⟩:=rfl
theorem zoV:T 17=some ⟨5,2,U8⟩:=rfl
theorem zo1:T 18=some ⟨3,1,U9⟩:=rfl
theorem zoU:T 19=some ⟨2,2,U_⟩:=rfl
theorem zo9:T 20=some ⟨1,1,Va⟩:=rfl
theorem Vt:T 21=some ⟨4,3,Oh⟩:=rfl
theorem zoX:T 22=some ⟨3,3,Vb⟩:=rfl
theorem Vu:T 23=some ⟨3,3,Oi⟩:=rfl
theorem zoS:T 24=some ⟨7,2,Vc⟩:=rfl
theorem zoB:T 25=some ⟨5,4,Vd⟩:=rfl
theorem zoO:T 26=some ⟨4,3,Ve⟩:=rfl
theorem Vv:T 27=some ⟨4,3,Oj⟩:=rfl
theorem zo7:T 28=some ⟨2,2,Vf⟩:=rfl
theorem zoF:T 29=some ⟨2,1,Vg⟩:=rfl
theorem zpa:T 30=some ⟨5,2,Vh⟩:=rfl
theorem zpb:T 31=some ⟨1,1,b31⟩:=rfl
theorem zoR:T 32=some ⟨2,1,Vi⟩:=rfl
theorem zpj:T 33=some ⟨3,1,b33⟩:=rfl
theorem zoN:T 34=some ⟨5,2,Vj⟩:=rfl
theorem zo3:T 35=some ⟨1,1,Vk⟩:=rfl
theorem zpe:T 36=some ⟨4,3,b36⟩:=rfl
theorem zo6:T 37=some ⟨8,2,Vl⟩:=rfl
theorem zo8:T 38=some ⟨4,3,Vm⟩:=rfl
theorem zoY:T 39=some ⟨3,3,Vn⟩:=rfl
theorem zoC:T 40=some ⟨7,3,Vo⟩:=rfl
theorem zoG:T 41=some ⟨6,3,Vp⟩:=rfl
theorem Vw:T 42=some ⟨2,2,Ol⟩:=rfl
theorem Vx:T 43=some ⟨4,3,Om⟩:=rfl
theorem zo4:T 44=some ⟨5,3,Vq⟩:=rfl
theorem zo2:T 45=some ⟨10,1,Vr⟩:=rfl
noncomputable def aq:Nat->Nat->Bool:=λc e=>(let n:=λc=>if c<12 then c else 0;n e==0||n c==n e)
end eZ
namespace eZ
open PySem PySem.Spec PyProof.Rows L2 Mi
abbrev LK(i:Nat)(x:Str)(k:NameKind):Prop:=(au (top i)).names.lookup x=some k
noncomputable abbrev gI:NameKind:=.globalImplicit
theorem zoP:aq=jR 12:=rfl
abbrev N3:List Str:=["thing","many","ties"]
abbrev N8:List Str:=["web","place","ends"]
abbrev N9:List Str:=["web"]
abbrev N12:List Str:=["self","free","place","spot","left","end"]
abbrev N13:List Str:=["self","free","place"]
abbrev N14:List Str:=["self","free"]
abbrev N16:List Str:=["self","free"]
abbrev Vy:List Str:=["web","ring","k","d","wide"]
abbrev N21:List Str:=["web","ring","known","board"]
abbrev N22:List Str:=["web","ring","thing"]
abbrev N34:List Str:=["_law_pen_here","_law_many","_law_often","_law_ties","_law_one"]
abbrev Vz:List Str:=["_law_web_here","_law_ring","_law_rows","_law_place","_law_more","_law_row","_law_near","_law_spot"]
abbrev N38:List Str:=["_law_pen_here","_law_web_here","_law_ring","_law_often"]
abbrev N39:List Str:=["_law_web_here","_law_ring","_law_thing"]
abbrev VB:List Str:=["_law_web_here","_law_ring","_law_known_here","_law_row","_law_place","_law_back","_law_near"]
abbrev N42:List Str:=["_law_found","_law_due"]
abbrev VD:List Str:=["_law_script","_law_cell_here","_law_pen_here","_law_web_here","_law_ring","_law_known_here","_law_every","_law_row","_law_mixed","_law_things"]
noncomputable def cl(K:W.Frag):Cl:=⟨dY (lk.L K),λc=>(([[],[],[],[],[],[],[],[],[],["at"],["at"],["many","most"]]:List (List Str)).getD c []),λ_=>dZ K "Board",λ_=>["ends","spots","apart","alike"]⟩
theorem tx9:vp "NoWeb.__init__" pK ["at"]:=vp.of (λ_ _ _ _ _ _ us hl=>bind1 (f:=λus=>bindArgs _ ⟨us,[]⟩) (λ_ _=>rfl) us hl) (by decide +kernel) (by intro z;cases z) (by decide) (by decide +kernel) (by decide +kernel) rfl rfl rfl
structure Top(K:W.Frag)(mg:Str->Option Value):Prop where
 cs:uU K (cl K) aq
 d0:D3 K mg "is_whole" (top 14) ["thing"]
 d1:D3 K mg "is_within" (top 15) ["thing","least","most"]
 d2:D3 K mg "is_row" (top 16) ["thing","many"]
 d3:D3 K mg "is_web" (top 19) ["thing"]
 d4:D3 K mg "is_many" (top 20) ["thing"]
 d5:D3 K mg "is_place" (top 21) ["many","thing"]
 d6:D3 K mg "is_tie" (top 22) ["many","thing"]
 d7:D3 K mg "check_web" (top 23) ["thing"]
 d8:D3 K mg "tied_to" (top 24) ["web","place"]
 d9:D3 K mg "all_ends" (top 25) ["web"]
 VF:D3 K mg "ring_board" (top 28) ["web","ring"]
 VG:D3 K mg "is_ring" (top 31) ["thing"]
 VH:D3 K mg "is_spot" (top 32) ["ring","thing"]
 VJ:D3 K mg "check_ring" (top 33) ["thing"]
 VL:D3 K mg "first_known" (top 35) ["web","ring","known"]
 VN:D3 K mg "are_known" (top 36) ["web","ring","thing"]
 VP:D3 K mg "check_known" (top 37) ["web","ring","thing"]
 VR:D3 K mg "first_among" (top 38) ["board","choices"]
 Oo:D3 K mg "first_spot" (top 39) ["board","answers","free","place"]
 Ky:D3 K mg "can_settle" (top 40) ["board","answers","free"]
 V0:D3 K mg "search" (top 41) ["board","answers","free"]
 V1:D3 K mg "_law_cell" (top 43) ["_law_script","_law_k"]
 V2:D3 K mg "_law_pen" (top 44) ["_law_cell_here"]
 oZ:D3 K mg "_law_draw" (top 45) ["_law_pen_here","_law_many"]
 Oq:D3 K mg "_law_whole" (top 46) ["_law_thing"]
 V3:D3 K mg "_law_odd" (top 47) ["_law_pen_here"]
 V4:D3 K mg "_law_kind" (top 48) ["_law_e"]
 V5:D3 K mg "_law_web" (top 49) ["_law_pen_here","_law_many"]
 V6:D3 K mg "_law_short" (top 50) ["_law_pen_here"]
 Ot:D3 K mg "_law_apart" (top 51) ["_law_k","_law_one","_law_other"]
 V7:D3 K mg "_law_all" (top 52) ["_law_web_here","_law_ring"]
 V8:D3 K mg "_law_known" (top 53) ["_law_pen_here","_law_web_here","_law_ring"]
 V9:D3 K mg "_law_are_known" (top 54) ["_law_web_here","_law_ring","_law_thing"]
 V_:D3 K mg "_law_first_with" (top 55) ["_law_web_here","_law_ring","_law_known_here"]
 Wa:D3 K mg "_law_bent_row" (top 56) ["_law_pen_here","_law_row","_law_k"]
 Wb:D3 K mg "_law_told_as" (top 57) ["_law_found","_law_due"]
 Ou:D3 K mg "_law_said" (top 58) ["_law_web_here","_law_ring","_law_known_here"]
 Wc:D3 K mg "_law_right" (top 59) ["_law_web_here","_law_ring","_law_known_here"]
 Ov:D3 K mg "law" (top 60) ["_law_script"]
 c0:mg "HueError"=some (.ref ((cl K).a 0))
 c1:mg "NoRing"=some (.ref ((cl K).a 1))
 c2:mg "NoHues"=some (.ref ((cl K).a 2))
 c3:mg "NoPlace"=some (.ref ((cl K).a 3))
 c4:mg "NoArrows"=some (.ref ((cl K).a 4))
 c5:mg "NoMap"=some (.ref ((cl K).a 5))
 c6:mg "NoPaper"=some (.ref ((cl K).a 6))
 c7:mg "Apart"=some (.ref ((cl K).a 7))
 c8:mg "NoRow"=some (.ref ((cl K).a 8))
 c9:mg "NoWeb"=some (.ref ((cl K).a 9))
 c10:mg "NoText"=some (.ref ((cl K).a 10))
 c11:mg "TooGreat"=some (.ref ((cl K).a 11))
 x1:PySem.W.excIn K ((cl K).a 1) [.type "ValueError",.type "Exception",.type "BaseException",.type "object"] "ValueError.__new__"=true
 x2:PySem.W.excIn K ((cl K).a 2) [.type "ValueError",.type "Exception",.type "BaseException",.type "object"] "ValueError.__new__"=true
 i9:jZ K ((cl K).a 9) (aN pK) (aK pK) (au pK) ((cl K).f 9)
 s0:∀c,aq c 0=true->subIn K ((cl K).a c) ((cl K).a 0)=true
 gH:∃t,mg "MOST_PLACES"=some (.int 8 t)
 iK:∃t,mg "MOST_SPOTS"=some (.int 24 t)
 z14:mg "ValueError"=none
 z15:mg "abs"=none
 z6:mg "all"=none
 z2:mg "bool"=none
 z13:mg "divmod"=none
 Wd:mg "enumerate"=none
 z1:mg "int"=none
 z0:mg "isinstance"=none
 z4:mg "len"=none
 z9:mg "list"=none
 z12:mg "max"=none
 Ox:mg "min"=none
 z8:mg "range"=none
 z7:mg "sorted"=none
 z3:mg "tuple"=none
 z5:mg "zip"=none
 ow:Ow K (cl K) 0
 mq:Mk K ((cl K).b 0) (gU K ((cl K).b 0) "__init__")
 mc:mg "Board"=some (.ref ((cl K).b 0))
 Wf:Mt K ((cl K).b 0) "__init__" "Board.__init__" DQ ["self","web","apart","alike"] (gU K ((cl K).b 0) "__init__") (jD K ((cl K).b 0) "__init__" DQ)
 Wg:Mt K ((cl K).b 0) "far_apart" "Board.far_apart" Gy ["self","spot","other"] (gU K ((cl K).b 0) "far_apart") (jD K ((cl K).b 0) "far_apart" Gy)
 Kz:Mt K ((cl K).b 0) "settled" "Board.settled" DR ["self","free","place","spot"] (gU K ((cl K).b 0) "settled") (jD K ((cl K).b 0) "settled" DR)
 Oz:Mt K ((cl K).b 0) "ties_left" "Board.ties_left" DW ["self","free","place"] (gU K ((cl K).b 0) "ties_left") (jD K ((cl K).b 0) "ties_left" DW)
 Wh:Mt K ((cl K).b 0) "bound" "Board.bound" DX ["self","free"] (gU K ((cl K).b 0) "bound") (jD K ((cl K).b 0) "bound" DX)
 Wi:Mt K ((cl K).b 0) "narrowest" "Board.narrowest" Gz ["self","free"] (gU K ((cl K).b 0) "narrowest") (jD K ((cl K).b 0) "narrowest" Gz)
 Wj:Mt K ((cl K).b 0) "all_free" "Board.all_free" DY ["self","free"] (gU K ((cl K).b 0) "all_free") (jD K ((cl K).b 0) "all_free" DY)
theorem zmX{K:W.Frag}{h:Heap}{mg:Str->Option Value}(Sb:rE fs ms xs lk bd K)(X:K.In h)(G:h.Ns mainGlobals mg):Top K mg where
 cs:=by
  rcases Sb.i.gd.cs with z|z
  ·cases z
  ·exact zjZ (Nat.zero_lt_succ _) z
 d0:=sG Sb.i X G 0
 d1:=sH Sb.i X G 1
 d2:=tQ Sb.i X G 2
 d3:=sG Sb.i X G 3
 d4:=sG Sb.i X G 4
 d5:=tQ Sb.i X G 5
 d6:=tQ Sb.i X G 6
 d7:=sG Sb.i X G 7
 d8:=tQ Sb.i X G 8
 d9:=sG Sb.i X G 9
 VF:=tQ Sb.i X G 10
 VG:=sG Sb.i X G 11
 VH:=tQ Sb.i X G 12
 VJ:=sG Sb.i X G 13
 VL:=sH Sb.i X G 14
 VN:=sH Sb.i X G 15
 VP:=sH Sb.i X G 16
 VR:=tQ Sb.i X G 17
 Oo:=zpi Sb.i X G 18
 Ky:=sH Sb.i X G 19
 V0:=sH Sb.i X G 20
 V1:=tQ Sb.i X G 21
 V2:=sG Sb.i X G 22
 oZ:=tQ Sb.i X G 23
 Oq:=sG Sb.i X G 24
 V3:=sG Sb.i X G 25
 V4:=sG Sb.i X G 26
 V5:=tQ Sb.i X G 27
 V6:=sG Sb.i X G 28
 Ot:=sH Sb.i X G 29
 V7:=tQ Sb.i X G 30
 V8:=sH Sb.i X G 31
 V9:=sH Sb.i X G 32
 V_:=sH Sb.i X G 33
 Wa:=sH Sb.i X G 34
 Wb:=tQ Sb.i X G 35
 Ou:=sH Sb.i X G 36
 Wc:=sH Sb.i X G 37
 Ov:=sG Sb.i X G 38
 c0:=sy (Sb.i.gd.cl "HueError" (mG 0)) X G
 c1:=sy (Sb.i.gd.cl "NoRing" (mG 1)) X G
 c2:=sy (Sb.i.gd.cl "NoHues" (mG 2)) X G
 c3:=sy (Sb.i.gd.cl "NoPlace" (mG 3)) X G
 c4:=sy (Sb.i.gd.cl "NoArrows" (mG 4)) X G
 c5:=sy (Sb.i.gd.cl "NoMap" (mG 5)) X G
 c6:=sy (Sb.i.gd.cl "NoPaper" (mG 6)) X G
 c7:=sy (Sb.i.gd.cl "Apart" (mG 7)) X G
 c8:=sy (Sb.i.gd.cl "NoRow" (mG 8)) X G
 c9:=sy (Sb.i.gd.cl "NoWeb" (mG 9)) X G
 c10:=sy (Sb.i.gd.cl "NoText" (mG 10)) X G
 c11:=sy (Sb.i.gd.cl "TooGreat" (mG 11)) X G
 x1:=Sb.i.gd.ra 1 (mG 0)
 x2:=Sb.i.gd.ra 2 (mG 1)
 i9:=zkL (Sb.i.mi ⟨9,"NoWeb.__init__",pK,["at"]⟩ (mG 0)) tx9 (Sb.i.se ⟨9,"NoWeb.__init__",pK,["at"]⟩ (mG 0))
 s0:=zj7 (L:=lk.L K) (Nat.zero_lt_succ _) (Sb.i.gd.ca 0 (mG 0))
 gH:=ziY (Sb.i.gd.it ("MOST_PLACES",8) (mG 0)) X G
 iK:=ziY (Sb.i.gd.it ("MOST_SPOTS",24) (mG 1)) X G
 z14:=pD (Sb.i.gd.no "ValueError" (mG 0)) X G
 z15:=pD (Sb.i.gd.no "abs" (mG 1)) X G
 z6:=pD (Sb.i.gd.no "all" (mG 2)) X G
 z2:=pD (Sb.i.gd.no "bool" (mG 3)) X G
 z13:=pD (Sb.i.gd.no "divmod" (mG 4)) X G
 Wd:=pD (Sb.i.gd.no "enumerate" (mG 5)) X G
 z1:=pD (Sb.i.gd.no "int" (mG 6)) X G
 z0:=pD (Sb.i.gd.no "isinstance" (mG 7)) X G
 z4:=pD (Sb.i.gd.no "len" (mG 8)) X G
 z9:=pD (Sb.i.gd.no "list" (mG 9)) X G
 z12:=pD (Sb.i.gd.no "max" (mG 10)) X G
 Ox:=pD (Sb.i.gd.no "min" (mG 11)) X G
 z8:=pD (Sb.i.gd.no "range" (mG 12)) X G
 z7:=pD (Sb.i.gd.no "sorted" (mG 13)) X G
 z3:=pD (Sb.i.gd.no "tuple" (mG 14)) X G
 z5:=pD (Sb.i.gd.no "zip" (mG 15)) X G
 ow:=znn Sb.b rfl rfl (by decide +kernel)
 mq:=zn6 Sb.b (Sb.m ("__init__","Board.__init__",DQ) (mG 0)).2
 mc:=zn2 Sb.b X G
 Wf:=zoL (Sb.m ("__init__","Board.__init__",DQ) (mG 0))
 Wg:=zoT (Sb.m ("far_apart","Board.far_apart",Gy) (mG 1))
 Kz:=zoL (Sb.m ("settled","Board.settled",DR) (mG 2))
 Oz:=zoT (Sb.m ("ties_left","Board.ties_left",DW) (mG 3))
 Wh:=Uo (Sb.m ("bound","Board.bound",DX) (mG 4))
 Wi:=Uo (Sb.m ("narrowest","Board.narrowest",Gz) (mG 5))
 Wj:=Uo (Sb.m ("all_free","Board.all_free",DY) (mG 6))
abbrev FO(P:Program)(w:World)(K:W.Frag)(mg:Str->Option Value)(base:Heap)(k:Nat)(c:Bool)(x:Str)(i:Nat)(ps:List Str)(n:Nat):Prop:=cB P w K mg base (gD P w) c k (iI K x) (fdOf K x (top i)) ps (lR K (cl K) (call aq T k c n))
abbrev FM(P:Program)(w:World)(K:W.Frag)(mg:Str->Option Value)(base:Heap)(k:Nat)(m:Str)(st:Stmt)(ps:List Str)(sp:Sp):Prop:=cB P w K mg base (gD P w) true k (gU K ((cl K).b 0) m) (jD K ((cl K).b 0) m st) ps sp
structure Fs(P:Program)(w:World)(K:W.Frag)(mg:Str->Option Value)(base:Heap)(k:Nat):Prop where
 t0:FO P w K mg base k true "is_whole" 14 ["thing"] 0
 t1:FO P w K mg base k true "is_within" 15 ["thing","least","most"] 1
 t2:FO P w K mg base k true "is_row" 16 ["thing","many"] 2
 t3:FO P w K mg base k true "is_web" 19 ["thing"] 3
 t4:FO P w K mg base k true "is_many" 20 ["thing"] 4
 t5:FO P w K mg base k true "is_place" 21 ["many","thing"] 5
 t6:FO P w K mg base k true "is_tie" 22 ["many","thing"] 6
 t7:FO P w K mg base k true "check_web" 23 ["thing"] 7
 t8:FO P w K mg base k true "tied_to" 24 ["web","place"] 8
 t9:FO P w K mg base k true "all_ends" 25 ["web"] 9
 t10:FM P w K mg base k "__init__" DQ ["self","web","apart","alike"] (N5 K (cl K) 0 (call aq T k true 10))
 t11:FM P w K mg base k "far_apart" Gy ["self","spot","other"] (lR K (cl K) (call aq T k true 11))
 OD:FM P w K mg base k "settled" DR ["self","free","place","spot"] (lR K (cl K) (call aq T k true 12))
 Wm:FM P w K mg base k "ties_left" DW ["self","free","place"] (lR K (cl K) (call aq T k true 13))
 t14:FM P w K mg base k "bound" DX ["self","free"] (lR K (cl K) (call aq T k true 14))
 t15:FM P w K mg base k "narrowest" Gz ["self","free"] (lR K (cl K) (call aq T k true 15))
 t16:FM P w K mg base k "all_free" DY ["self","free"] (lR K (cl K) (call aq T k true 16))
 t17:FO P w K mg base k true "ring_board" 28 ["web","ring"] 17
 t18:FO P w K mg base k true "is_ring" 31 ["thing"] 18
 t19:FO P w K mg base k true "is_spot" 32 ["ring","thing"] 19
 t20:FO P w K mg base k true "check_ring" 33 ["thing"] 20
 t21:FO P w K mg base k true "first_known" 35 ["web","ring","known"] 21
 t22:FO P w K mg base k true "are_known" 36 ["web","ring","thing"] 22
 t23:FO P w K mg base k true "check_known" 37 ["web","ring","thing"] 23
 t24:FO P w K mg base k true "first_among" 38 ["board","choices"] 24
 Wn:FO P w K mg base k true "first_spot" 39 ["board","answers","free","place"] 25
 OJ:FO P w K mg base k true "can_settle" 40 ["board","answers","free"] 26
 t27:FO P w K mg base k true "search" 41 ["board","answers","free"] 27
 t28:FO P w K mg base k true "_law_cell" 43 ["_law_script","_law_k"] 28
 t29:FO P w K mg base k true "_law_pen" 44 ["_law_cell_here"] 29
 pF:FO P w K mg base k true "_law_draw" 45 ["_law_pen_here","_law_many"] 30
 Wo:FO P w K mg base k true "_law_whole" 46 ["_law_thing"] 31
 t32:FO P w K mg base k true "_law_odd" 47 ["_law_pen_here"] 32
 q33:FO P w K mg base k false "_law_kind" 48 ["_law_e"] 33
 t34:FO P w K mg base k true "_law_web" 49 ["_law_pen_here","_law_many"] 34
 t35:FO P w K mg base k true "_law_short" 50 ["_law_pen_here"] 35
 Wq:FO P w K mg base k true "_law_apart" 51 ["_law_k","_law_one","_law_other"] 36
 t37:FO P w K mg base k true "_law_all" 52 ["_law_web_here","_law_ring"] 37
 t38:FO P w K mg base k true "_law_known" 53 ["_law_pen_here","_law_web_here","_law_ring"] 38
 t39:FO P w K mg base k true "_law_are_known" 54 ["_law_web_here","_law_ring","_law_thing"] 39
 t40:FO P w K mg base k true "_law_first_with" 55 ["_law_web_here","_law_ring","_law_known_here"] 40
 t41:FO P w K mg base k true "_law_bent_row" 56 ["_law_pen_here","_law_row","_law_k"] 41
 t42:FO P w K mg base k true "_law_told_as" 57 ["_law_found","_law_due"] 42
 Wr:FO P w K mg base k true "_law_said" 58 ["_law_web_here","_law_ring","_law_known_here"] 43
 t44:FO P w K mg base k true "_law_right" 59 ["_law_web_here","_law_ring","_law_known_here"] 44
 t45:FO P w K mg base k true "law" 60 ["_law_script"] 45
section
variable {P:Program}{w:World}{K:W.Frag}{mg:Str->Option Value}{base:Heap}{k:Nat}
theorem zjy(Tp:Top K mg)(Fk:Fs P w K mg base k):Fs P w K mg base (k+1) where
 t0:=fJ Tp.d0 ["thing"] T_0 λ_ _ _ _ _ _ hr=>(aJ (b_ (vf (lU Tp.cs Tp.z0 gk (gv 0) (yc rfl Tp.z1 ZM gk dk)) (tM (ZW (lU Tp.cs Tp.z0 gk (gv 0) (yc rfl Tp.z2 ZP gk dk))))))
 aQ)
 t1:=fJ Tp.d1 ["thing","least","most"] T_1 λ_ _ _ _ _ _ hr=>(aJ (b_ (vf (gc Fk.t0 Tp.d0 hr cM gk (aA (gv 0) aG)) (tM (Z9 Tn Tn (gv 1) (gv 0) (gv 2)))))
 aQ)
 t2:=fJ Tp.d2 ["thing","many"] T_2 λ_ _ _ _ _ _ hr=>(aJ (b_ (vf (lU Tp.cs Tp.z0 gk (gv 0) (yc rfl Tp.z3 Fb gk dk)) (tM (zO (tO hr) (vm Tp.z4 gk (aA (gv 0) aG)) (gv 1)))))
 aQ)
 t3:=fJ Tp.d3 N3 T_3 λ_ _ _ _ _ _ hr=>(aJ (iH (qp (nq (gc Fk.t2 Tp.d2 hr cM gk (aA (gv 0) (aA aL aG))))) (aJ (b_ m_)
 aQ) aQ)
 (aJ (J6 1 2 rfl rfl nd rfl rfl jc jl rfl rfl (gv 0))
 (aJ (iH (JZ (Nm (qp (nq (gc Fk.t4 Tp.d4 hr cM gk (aA (gv 1) aG)))) (Nk (qp (nq (lU Tp.cs Tp.z0 gk (gv 2) (yc rfl Tp.z3 Fb gk dk))))))) (aJ (b_ m_)
 aQ) aQ)
 (aJ (iH (qp (nq (CJ rfl Tp.z6 gk (aA (nO (au (top 19)) N3 ["tie"] ["many"] [1] rfl rfl rfl (by decide +kernel) (by decide +kernel) (nJ 0) (by decide +kernel) (nu (gv 2)) (λ_ _ _ _ _ _=>(nM 0 (by decide +kernel) rfl (by decide +kernel))) (λ_ _ _ _ _ _=>qu) (λ_ _ _ _ _ _=>(gc Fk.t6 Tp.d6 hr su rC (aA (bJ 1) (aA (bJ 0) aG))))) aG)))) (aJ (b_ m_)
 aQ) aQ)
 (aJ (b_ (CJ rfl Tp.z6 gk (aA (nO (au (top 19)) N3 ["tie","later"] [] [] rfl rfl rfl (by decide +kernel) (by decide +kernel) (E_ 0 1) (by decide +kernel) (zox Tp.z5 gk (gv 2) (Fe (gv 2) (CG aL) J0)) (λ_ _ _ _ _ _=>(J3 0 1 rfl (by decide +kernel) rfl rfl (by decide +kernel) (by decide +kernel))) (λ_ _ _ _ _ _=>qu) (λ_ _ _ _ _ _=>(zO (zN hr) (bJ 0) (bJ 1)))) aG)))
 aQ)))))
 t4:=fJ Tp.d4 ["thing"] T_4 λ_ _ _ _ _ _ hr=>(aJ (b_ (gc Fk.t1 Tp.d1 hr cM gk (aA (gv 0) (aA aL (aA (ZS Tp.gH gk dk) aG)))))
 aQ)
 t5:=fJ Tp.d5 ["many","thing"] T_5 λ_ _ _ _ _ _ hr=>(aJ (b_ (gc Fk.t1 Tp.d1 hr cM gk (aA (gv 1) (aA aL (aA (eN zM (gv 0) aL) aG)))))
 aQ)
 t6:=fJ Tp.d6 ["many","thing","one","other"] T_6 λ_ _ _ _ _ _ hr=>(aJ (iH (qp (nq (gc Fk.t2 Tp.d2 hr cM gk (aA (gv 1) (aA aL aG))))) (aJ (b_ m_)
 aQ) aQ)
 (aJ (J6 2 3 rfl rfl nd rfl rfl jl jl rfl rfl (gv 1))
 (aJ (b_ (vf (gc Fk.t5 Tp.d5 hr cM gk (aA (gv 0) (aA (gv 2) aG))) (vf (gc Fk.t5 Tp.d5 hr cM gk (aA (gv 0) (aA (gv 3) aG))) (tM (zO (zN hr) (gv 2) (gv 3))))))
 aQ)))
 t7:=fJ Tp.d7 ["thing"] T_7 λ_ _ _ _ _ _ hr=>(aJ (iH (qp (nq (gc Fk.t3 Tp.d3 hr cM gk (aA (gv 0) aG)))) (aJ (zhb (kk:=.globalImplicit) hr rfl rfl Tp.i9 Tp.c9 gk cM (aA (vd aL) aG) dk)
 aQ) aQ)
 aQ)
 t8:=fJ Tp.d8 N8 T_8 λ_ _ _ _ _ _ hr=>(aJ (Nq 2 (au (top 24)) N8 ["one","other"] ["place"] [1] nd rfl jl rfl rfl rfl rfl (by decide +kernel) (by decide +kernel) (E_ 0 1) (by decide +kernel) (nu (cR (gv 0) aL)) (λ_ _ _ _ _ _=>(J3 0 1 rfl (by decide +kernel) rfl rfl (by decide +kernel) (by decide +kernel))) (λ_ _ _ _ _ _=>(zQ (kO (Z0 hr) (bJ 2) (gB (aA (bJ 0) (aA (bJ 1) aG)))))) (λ_ _ _ _ _ _=>(Fd (kO (tO hr) (bJ 0) (bJ 2)) (bJ 1) (bJ 0))))
 (aJ (b_ (wA Tp.z3 gk (aA (zh8 Tp.z7 gk (aA (gv 2) aG)) aG)))
 aQ))
 t9:=fJ Tp.d9 N9 T_9 λ_ _ _ _ _ _ hr=>(aJ (b_ (nO (au (top 25)) N9 ["place"] ["web"] [0] rfl rfl rfl (by decide +kernel) (by decide +kernel) (nJ 0) (by decide +kernel) (wB Tp.z8 gk (cR (gv 0) aL)) (λ_ _ _ _ _ _=>(nM 0 (by decide +kernel) rfl (by decide +kernel))) (λ_ _ _ _ _ _=>qu) (λ_ _ _ _ _ _=>(gc Fk.t8 Tp.d8 hr su rC (aA (bJ 1) (aA (bJ 0) aG))))))
 aQ)
 t10:=zkM (N:=["self","web","apart","alike"]) Tp.Wf.fn zoM (λ_ _ _ _ _ _ hr=>(N6 (j:=0) Tp.ow (gc Fk.t9 Tp.d9 hr cM gk (aA (gv 1) aG)) (N6 (j:=0) Tp.ow (znv rfl Tp.z3 gk Tp.z8 gk (aA (vm Tp.z4 gk (aA (gv 2) aG)) aG)) (N6 (j:=0) Tp.ow (gv 2) (N6 (j:=0) Tp.ow (gv 3) zmC))))) (by show (4:Nat)<=900;decide)
 t11:=fM Tp.Wg ["self","spot","other"] zoK λ_ _ _ _ _ _ hr=>(aJ (b_ (cR (cR (Fw Tp.ow (gv 0)) (gv 1)) (gv 2)))
 aQ)
 OD:=fM Tp.Kz N12 zoD λ_ _ _ _ _ _ hr=>(aJ (eO 4 nd rfl jl rfl (zi1 Tp.z9 gk (aA (gv 1) aG)))
 (aJ (Fl (gv 4) (gv 2) rZ)
 (aJ (wC vo rfl rfl (nu (cR (Fw Tp.ow (gv 0)) (gv 2))) (yd 5 nd rfl jl rfl) (aJ (iH (Tr (cR (gv 4) (gv 5))) (aJ (Fl (gv 4) (gv 5) (wA Tp.z3 gk (aA (nO (au (DR)) N12 ["other"] ["self","spot"] [0,3] rfl rfl rfl (by decide +kernel) (by decide +kernel) (nJ 0) (by decide +kernel) (nu (cR (gv 4) (gv 5))) (λ_ _ _ _ _ _=>(nM 0 (by decide +kernel) rfl (by decide +kernel))) (λ_ _ _ _ _ _=>(zQ (nq (yw Tp.ow Tp.Wg Fk.t11 hr (bJ 1) (aA (bJ 2) (aA (bJ 0) aG)))))) (λ_ _ _ _ _ _=>(bJ 0))) aG)))
 aQ) aQ)
 aQ))
 (aJ (b_ (wA Tp.z3 gk (aA (gv 4) aG)))
 aQ))))
 Wm:=fM Tp.Oz N13 zoI λ_ _ _ _ _ _ hr=>(aJ (b_ (vm Tp.z4 gk (aA (nO (au (DW)) N13 ["end"] ["free"] [1] rfl rfl rfl (by decide +kernel) (by decide +kernel) (nJ 0) (by decide +kernel) (nu (cR (Fw Tp.ow (gv 0)) (gv 2))) (λ_ _ _ _ _ _=>(nM 0 (by decide +kernel) rfl (by decide +kernel))) (λ_ _ _ _ _ _=>(zQ (Tr (cR (bJ 1) (bJ 0))))) (λ_ _ _ _ _ _=>(bJ 0))) aG)))
 aQ)
 t14:=fM Tp.Wh N14 zoW λ_ _ _ _ _ _ hr=>(aJ (b_ (wA Tp.z3 gk (aA (nO (au (DX)) N14 ["place","spots"] ["self","free"] [0,1] rfl rfl rfl (by decide +kernel) (by decide +kernel) (E_ 0 1) (by decide +kernel) (ziU Tp.Wd gk (gv 1)) (λ_ _ _ _ _ _=>(J3 0 1 rfl (by decide +kernel) rfl rfl (by decide +kernel) (by decide +kernel))) (λ_ _ _ _ _ _=>qu) (λ_ _ _ _ _ _=>(Fd (kO zpg (yw Tp.ow Tp.Oz Fk.Wm hr (bJ 2) (aA (bJ 3) (aA (bJ 0) aG))) aL) (bJ 1) rZ))) aG)))
 aQ)
 t15:=fM Tp.Wi ["self","free","ranks","place","spots"] zo0 λ_ _ _ _ _ _ hr=>(aJ (eO 2 nd rfl jl rfl (iG aG))
 (aJ (wC vo rfl rfl (ziU Tp.Wd gk (gv 1)) (zmk 3 4 rfl rfl nd rfl rfl jl jl rfl rfl) (aJ (iH (Tr (gv 4)) (aJ (zT (Np (gv 2) (gB (aA (vm Tp.z4 gk (aA (gv 4) aG)) (aA (vd (yw Tp.ow Tp.Oz Fk.Wm hr (gv 0) (aA (gv 1) (aA (gv 3) aG)))) (aA (gv 3) aG))))))
 aQ) aQ)
 aQ))
 (aJ (b_ (Fd (znq (gv 2)) (cR (zmi hr rfl Tp.Ox gk (aA (gv 2) aG)) aL) rZ))
 aQ)))
 t16:=fM Tp.Wj N16 zoE λ_ _ _ _ _ _ hr=>(aJ (b_ (CJ rfl Tp.z6 gk (aA (nO (au (DY)) N16 ["spots"] ["self"] [0] rfl rfl rfl (by decide +kernel) (by decide +kernel) (nJ 0) (by decide +kernel) (nu (gv 1)) (λ_ _ _ _ _ _=>(nM 0 (by decide +kernel) rfl (by decide +kernel))) (λ_ _ _ _ _ _=>qu) (λ_ _ _ _ _ _=>(Tj (Nj (bJ 0)) (tM (zO (tO hr) (bJ 0) (Fw Tp.ow (bJ 1))))))) aG)))
 aQ)
 t17:=fR Tp.VF Vy zoV λ_ _ _ _ _ _ hr=>(aJ (J6 2 3 rfl rfl nd rfl rfl jc jc rfl rfl (gv 1))
 (aJ (eO 4 nd rfl jc rfl (nO (au (top 28)) Vy ["gap"] ["k","d"] [2,3] rfl rfl rfl (by decide +kernel) (by decide +kernel) (nJ 0) (by decide +kernel) (wB Tp.z8 gk (gv 2)) (λ_ _ _ _ _ _=>(nM 0 (by decide +kernel) rfl (by decide +kernel))) (λ_ _ _ _ _ _=>qu) (λ_ _ _ _ _ _=>(zO ZX (Z_ rfl Tp.Ox rC (aA (bJ 0) (aA (eN zM (bJ 1) (bJ 0)) aG))) (bJ 2)))))
 (aJ (b_ (zpd Tp.mq Fk.t10 (Mi.bA.made hr _ _) Tp.Wf.bd Tp.mc gk (aA (gv 0) (aA (nO (au (top 28)) Vy ["spot"] ["k","wide"] [2,4] rfl rfl rfl (by decide +kernel) (by decide +kernel) (nJ 0) (by decide +kernel) (wB Tp.z8 gk (gv 2)) (λ_ _ _ _ _ _=>(nM 0 (by decide +kernel) rfl (by decide +kernel))) (λ_ _ _ _ _ _=>qu) (λ_ _ _ _ _ _=>(zi7 ["spot","k","wide"] ["other"] ["wide","spot"] [2,0] rfl rfl (by decide +kernel) (by decide +kernel) (nJ 0) (by decide +kernel) (wB Tp.z8 rC (bJ 1)) (λ_ _ _ _ _ _=>(nM 0 (by decide +kernel) rfl (by decide +kernel))) (λ_ _ _ _ _ _=>qu) (λ_ _ _ _ _ _=>(cR (bJ 1) (eN zM (bJ 2) (bJ 0))))))) (aA m_ aG)))))
 aQ)))
 t18:=fJ Tp.VG ["thing","k","d"] zo1 λ_ _ _ _ _ _ hr=>(aJ (iH (qp (nq (gc Fk.t2 Tp.d2 hr cM gk (aA (gv 0) (aA aL aG))))) (aJ (b_ m_)
 aQ) aQ)
 (aJ (J6 1 2 rfl rfl nd rfl rfl jl jl rfl rfl (gv 0))
 (aJ (b_ (vf (gc Fk.t1 Tp.d1 hr cM gk (aA (gv 1) (aA aL (aA (ZS Tp.iK gk dk) aG)))) (tM (gc Fk.t1 Tp.d1 hr cM gk (aA (gv 2) (aA aL (aA (gv 1) aG)))))))
 aQ)))
 t19:=fJ Tp.VH ["ring","thing"] zoU λ_ _ _ _ _ _ hr=>(aJ (b_ (gc Fk.t1 Tp.d1 hr cM gk (aA (gv 1) (aA aL (aA (eN zM (cR (gv 0) aL) aL) aG)))))
 aQ)
 t20:=fJ Tp.VJ ["thing"] zo9 λ_ _ _ _ _ _ hr=>(aJ (iH (qp (nq (gc Fk.t18 Tp.VG hr cM gk (aA (gv 0) aG)))) (aJ (zfJ rfl rfl rfl Tp.x1 Tp.c1 gk cM (aA nj aG) dk)
 aQ) aQ)
 aQ)
 t21:=fJ Tp.VL N21 Vt λ_ _ _ _ _ _ hr=>(aJ (zT (gc Fk.t23 Tp.VP hr cM gk (aA (gv 0) (aA (gv 1) (aA (gv 2) aG)))))
 (aJ (eO 3 nd rfl jc rfl (gc Fk.t17 Tp.VF hr cM gk (aA (gv 0) (aA (gv 1) aG))))
 (aJ (b_ (gc Fk.t24 Tp.VR hr cM gk (aA (gv 3) (aA (nO (au (top 35)) N21 ["spot"] ["board"] [3] rfl rfl rfl (by decide +kernel) (by decide +kernel) (nJ 0) (by decide +kernel) (nu (gv 2)) (λ_ _ _ _ _ _=>(nM 0 (by decide +kernel) rfl (by decide +kernel))) (λ_ _ _ _ _ _=>qu) (λ_ _ _ _ _ _=>(Fd (Tq (bJ 0)) (Fw Tp.ow (bJ 1)) (gB (aA (bJ 0) aG))))) aG))))
 aQ)))
 t22:=fJ Tp.VN N22 zoX λ_ _ _ _ _ _ hr=>(aJ (b_ (vf (gc Fk.t2 Tp.d2 hr cM gk (aA (gv 2) (aA (cR (gv 0) aL) aG))) (tM (CJ rfl Tp.z6 gk (aA (nO (au (top 36)) N22 ["spot"] ["ring"] [1] rfl rfl rfl (by decide +kernel) (by decide +kernel) (nJ 0) (by decide +kernel) (nu (gv 2)) (λ_ _ _ _ _ _=>(nM 0 (by decide +kernel) rfl (by decide +kernel))) (λ_ _ _ _ _ _=>qu) (λ_ _ _ _ _ _=>(Tj (Nj (bJ 0)) (tM (gc Fk.t19 Tp.VH hr su rC (aA (bJ 1) (aA (bJ 0) aG))))))) aG)))))
 aQ)
 t23:=fJ Tp.VP ["web","ring","thing"] Vu λ_ _ _ _ _ _ hr=>(aJ (zT (gc Fk.t7 Tp.d7 hr cM gk (aA (gv 0) aG)))
 (aJ (zT (gc Fk.t20 Tp.VJ hr cM gk (aA (gv 1) aG)))
 (aJ (iH (qp (nq (gc Fk.t22 Tp.VN hr cM gk (aA (gv 0) (aA (gv 1) (aA (gv 2) aG)))))) (aJ (zfJ rfl rfl rfl Tp.x2 Tp.c2 gk cM (aA nj aG) dk)
 aQ) aQ)
 aQ)))
 t24:=fJ Tp.VR ["board","choices","free","answers","row","place","spot"] zoS λ_ _ _ _ _ _ hr=>(aJ (eO 2 nd rfl jl rfl (wA Tp.z3 gk (aA (gv 1) aG)))
 (aJ (eO 3 nd rfl jl rfl zlv)
 (aJ (iH (qp (nq (gc Fk.OJ Tp.Ky hr cM gk (aA (gv 0) (aA (gv 3) (aA (gv 2) aG)))))) (aJ (b_ rZ)
 aQ) aQ)
 (aJ (eO 4 nd rfl jl rfl (iG aG))
 (aJ (wC vo rfl rfl (wB Tp.z8 gk (vm Tp.z4 gk (aA (gv 1) aG))) (yd 5 nd rfl jl rfl) (aJ (eO 6 nd rfl jl rfl (gc Fk.Wn Tp.Oo hr cM gk (aA (gv 0) (aA (gv 3) (aA (gv 2) (aA (gv 5) aG))))))
 (aJ (eO 2 nd rfl jl rfl (yw Tp.ow Tp.Kz Fk.OD hr (gv 0) (aA (gv 2) (aA (gv 5) (aA (gv 6) aG)))))
 (aJ (zT (Np (gv 4) (gv 6)))
 aQ))))
 (aJ (b_ (wA Tp.z3 gk (aA (gv 4) aG)))
 aQ))))))
 Wn:=fJ Tp.Oo ["board","answers","free","place","spot"] zoB λ_ _ _ _ _ _ hr=>(aJ (wC vo rfl rfl (nu (cR (gv 2) (gv 3))) (yd 4 nd rfl jl rfl) (aJ (iH (nq (gc Fk.OJ Tp.Ky hr cM gk (aA (gv 0) (aA (gv 1) (aA (yw Tp.ow Tp.Kz Fk.OD hr (gv 0) (aA (gv 2) (aA (gv 3) (aA (gv 4) aG)))) aG))))) (aJ (b_ (gv 4))
 aQ) aQ)
 aQ))
 (aJ (b_ rZ)
 aQ))
 OJ:=fJ Tp.Ky ["board","answers","free","rest"] zoO λ_ _ _ _ _ _ hr=>(aJ (iH (kO (Z0 hr) (gB aG) (gv 2)) (aJ (b_ m_)
 aQ) aQ)
 (aJ (eO 3 nd rfl jl rfl (yw Tp.ow Tp.Wh Fk.t14 hr (gv 0) (aA (gv 2) aG)))
 (aJ (iH (zlL hr (gv 3) (gv 1)) (aJ (zmG hr (gv 1) (gv 3) (gc Fk.t27 Tp.V0 hr cM gk (aA (gv 0) (aA (gv 1) (aA (gv 3) aG)))))
 aQ) aQ)
 (aJ (b_ (zlt hr (gv 1) (gv 3)))
 aQ))))
 t27:=fJ Tp.V0 ["board","answers","free","place"] Vv λ_ _ _ _ _ _ hr=>(aJ (eO 3 nd rfl jl rfl (yw Tp.ow Tp.Wi Fk.t15 hr (gv 0) (aA (gv 2) aG)))
 (aJ (iH (Tq (gv 3)) (aJ (b_ m_)
 aQ) aQ)
 (aJ (iH (JZ (zom (nq (Fw Tp.ow (gv 0))) (zlG (nq (yw Tp.ow Tp.Wj Fk.t16 hr (gv 0) (aA (gv 2) aG)))))) (aJ (b_ (gc Fk.OJ Tp.Ky hr cM gk (aA (gv 0) (aA (gv 1) (aA (yw Tp.ow Tp.Kz Fk.OD hr (gv 0) (aA (gv 2) (aA (gv 3) (aA aL aG)))) aG)))))
 aQ) aQ)
 (aJ (b_ (zl1 (gc Fk.Wn Tp.Oo hr cM gk (aA (gv 0) (aA (gv 1) (aA (gv 2) (aA (gv 3) aG)))))))
 aQ))))
 t28:=fJ Tp.V1 ["_law_script","_law_k"] zo7 λ_ _ _ _ _ _ hr=>(aJ (iH (kO (zN hr) (gv 1) (vm Tp.z4 gk (aA (gv 0) aG))) (aJ (b_ (cR (gv 0) (gv 1)))
 aQ) aQ)
 (aJ (b_ aL)
 aQ))
 t29:=fJ Tp.V2 ["_law_cell_here","_law_left"] zoF λ_ _ _ _ _ _ hr=>(aJ (eO 1 nd rfl jl rfl (zk3 rfl Tp.z12 gk (aA (gv 0) (aA (eN zM aL (gv 0)) aG))))
 (aJ (b_ (iG (aA (gv 1) (aA (zmj Tp.z1 gk (aA (zO ZX (gv 1) (eN ZV aL aL)) aG)) aG))))
 aQ))
 pF:=fJ Tp.oZ ["_law_pen_here","_law_many","_law_left","_law_found","_law_stir"] zpa λ_ _ _ _ _ _ hr=>(aJ (iH (kO (tO hr) (cR (gv 0) aL) aL) (aJ (J6 2 3 rfl rfl nd rfl rfl jl jl rfl rfl (zhZ Tp.z13 gk (aA (cR (gv 0) aL) (aA (gv 1) aG))))
 (aJ (Fl (gv 0) aL (gv 2))
 (aJ (b_ (gv 3))
 aQ))) aQ)
 (aJ (eO 4 nd rfl jl rfl (eN JM (eN Ti (eN lA (eN JM (cR (gv 0) aL) aL) aL) aL) aL))
 (aJ (eO 4 nd rfl jl rfl (eN JM (eN lA (eN Ti (gv 4) (gv 4)) aL) aL))
 (aJ (Fl (gv 0) aL (eN JM (eN lA (eN Ti (gv 4) aL) aL) aL))
 (aJ (b_ (eN JM (eN zlI (cR (gv 0) aL) aL) (gv 1)))
 aQ)))))
 Wo:=fJ Tp.Oq ["_law_thing"] zpb λ_ _ _ _ _ _ hr=>(aJ (b_ (vf (lU Tp.cs Tp.z0 gk (gv 0) (yc rfl Tp.z1 ZM gk dk)) (tM (ZW (lU Tp.cs Tp.z0 gk (gv 0) (yc rfl Tp.z2 ZP gk dk))))))
 aQ)
 t32:=fJ Tp.V3 ["_law_pen_here","_law_some"] zoR λ_ _ _ _ _ _ hr=>(aJ (eO 1 nd rfl jl rfl (iG (aA rZ (aA m_ (aA m_ (aA (vd aL) (aA nj (aA nj (aA (gB aG) (aA (iG aG) (aA (gB (aA aL aG)) (aA (iG (aA aL aG)) (aA zmn (aA (gB (aA aL (aA aL aG))) (aA (eN ZV aL aL) (aA (gB (aA aL (aA (gB aG) aG))) (aA (gB (aA nj aG)) aG)))))))))))))))))
 (aJ (b_ (cR (eN lA (gv 1) (iG (aA (gB (aA aL (aA (gB (aA (gB (aA aL (aA aL aG))) aG)) aG))) aG))) (gc Fk.pF Tp.oZ hr cM gk (aA (gv 0) (aA aL aG)))))
 aQ))
 q33:=fJ Tp.V4 ["_law_e","_law_marks","_law_words"] zpj λ_ _ _ _ _ _ hr=>(aJ (eO 1 nd rfl jl rfl (iG (aA (lU Tp.cs Tp.z0 gk (gv 0) (vh Tp.c1 gk dk)) (aA (lU Tp.cs Tp.z0 gk (gv 0) (vh Tp.c2 gk dk)) (aA (lU Tp.cs Tp.z0 gk (gv 0) (vh Tp.c3 gk dk)) (aA (lU Tp.cs Tp.z0 gk (gv 0) (vh Tp.c4 gk dk)) aG))))))
 (aJ (eO 1 nd rfl jl rfl (eN lA (gv 1) (iG (aA (lU Tp.cs Tp.z0 gk (gv 0) (vh Tp.c5 gk dk)) (aA (lU Tp.cs Tp.z0 gk (gv 0) (vh Tp.c6 gk dk)) (aA (lU Tp.cs Tp.z0 gk (gv 0) (vh Tp.c7 gk dk)) (aA (lU Tp.cs Tp.z0 gk (gv 0) (vh Tp.c8 gk dk)) aG)))))))
 (aJ (eO 1 nd rfl jl rfl (eN lA (gv 1) (iG (aA (lU Tp.cs Tp.z0 gk (gv 0) (vh Tp.c9 gk dk)) (aA (lU Tp.cs Tp.z0 gk (gv 0) (vh Tp.c10 gk dk)) (aA (lU Tp.cs Tp.z0 gk (gv 0) (vh Tp.c11 gk dk)) aG))))))
 (aJ (iH (JZ (Nm (qp (nq (lU Tp.cs Tp.z0 gk (gv 0) (yc rfl Tp.z14 zcx gk dk)))) (Nk (kO (JV hr) (zkH (gv 1) (aA m_ aG)) aL)))) (aJ (b_ nj)
 aQ) aQ)
 (aJ (eO 2 nd rfl jl rfl (iG (aA nj (aA nj (aA nj (aA nj (aA nj (aA nj (aA nj (aA nj (aA nj (aA nj (aA nj aG)))))))))))))
 (aJ (b_ (cR (gv 2) (zjK (gv 1) (aA m_ aG))))
 aQ))))))
 t34:=fJ Tp.V5 N34 zoN λ_ _ _ _ _ _ hr=>(aJ (eO 2 nd rfl jc rfl (cR (iG (aA aL (aA aL (aA aL aG)))) (gc Fk.pF Tp.oZ hr cM gk (aA (gv 0) (aA aL aG)))))
 (aJ (eO 3 nd rfl jl rfl (iG aG))
 (aJ (wC vo rfl rfl (wB Tp.z8 gk (gv 1)) (yd 4 nd rfl jc rfl) (aJ (eO 3 nd rfl jl rfl (eN lA (gv 3) (nO (au (top 49)) N34 ["_law_other"] ["_law_one","_law_pen_here","_law_often"] [4,0,2] rfl rfl rfl (by decide +kernel) (by decide +kernel) (nJ 0) (by decide +kernel) (zpc Tp.z8 gk (eN lA (gv 4) aL) (gv 1)) (λ_ _ _ _ _ _=>(nM 0 (by decide +kernel) rfl (by decide +kernel))) (λ_ _ _ _ _ _=>(zQ (kO (zN hr) (gc Fk.pF Tp.oZ hr su rC (aA (bJ 2) (aA aL aG))) (bJ 3)))) (λ_ _ _ _ _ _=>(gB (aA (bJ 1) (aA (bJ 0) aG)))))))
 aQ))
 (aJ (b_ (gB (aA (gv 1) (aA (wA Tp.z3 gk (aA (gv 3) aG)) aG))))
 aQ))))
 t35:=fJ Tp.V6 ["_law_pen_here"] zo3 λ_ _ _ _ _ _ hr=>(aJ (b_ (cR (iG (aA (gB (aA aL (aA aL aG))) (aA (gB (aA aL (aA aL aG))) (aA (gB (aA aL (aA aL aG))) (aA (gB (aA aL (aA aL aG))) (aA (gB (aA aL (aA aL aG))) (aA (gB (aA aL (aA aL aG))) (aA (gB (aA aL (aA aL aG))) (aA (gB (aA aL (aA aL aG))) (aA (gB (aA aL (aA aL aG))) (aA (gB (aA aL (aA aL aG))) aG))))))))))) (gc Fk.pF Tp.oZ hr cM gk (aA (gv 0) (aA aL aG)))))
 aQ)
 Wq:=fJ Tp.Ot ["_law_k","_law_one","_law_other","_law_there"] zpe λ_ _ _ _ _ _ hr=>(aJ (eO 3 nd rfl jl rfl (znR Tp.z15 gk (aA (eN zM (gv 1) (gv 2)) aG)))
 (aJ (b_ (Z_ rfl Tp.Ox gk (aA (gv 3) (aA (eN zM (gv 0) (gv 3)) aG))))
 aQ))
 t37:=fJ Tp.V7 Vz zo6 λ_ _ _ _ _ _ hr=>(aJ (eO 2 nd rfl jl rfl (iG (aA (gB aG) aG)))
 (aJ (wC vo rfl rfl (wB Tp.z8 gk (cR (gv 0) aL)) (yd 3 nd rfl jc rfl) (aJ (eO 4 nd rfl jl rfl (iG aG))
 (aJ (wC vo rfl rfl (nu (gv 2)) (yd 5 nd rfl jc rfl) (aJ (Nq 6 (au (top 52)) Vz ["_law_one","_law_other"] ["_law_row","_law_place"] [5,3] nd rfl jl rfl rfl rfl rfl (by decide +kernel) (by decide +kernel) (E_ 0 1) (by decide +kernel) (nu (cR (gv 0) aL)) (λ_ _ _ _ _ _=>(J3 0 1 rfl (by decide +kernel) rfl rfl (by decide +kernel) (by decide +kernel))) (λ_ _ _ _ _ _=>(zQ (kO (tO hr) (bJ 1) (bJ 3)))) (λ_ _ _ _ _ _=>(cR (bJ 2) (bJ 0))))
 (aJ (wC vo rfl rfl (wB Tp.z8 gk (cR (gv 1) aL)) (yd 7 nd rfl jc rfl) (aJ (iH (kO (tO hr) (nO (au (top 52)) Vz ["_law_one"] ["_law_ring","_law_spot"] [1,7] rfl rfl rfl (by decide +kernel) (by decide +kernel) (nJ 0) (by decide +kernel) (nu (gv 6)) (λ_ _ _ _ _ _=>(nM 0 (by decide +kernel) rfl (by decide +kernel))) (λ_ _ _ _ _ _=>(zQ (kO (zN hr) (gc Fk.Wq Tp.Ot hr su rC (aA (cR (bJ 1) aL) (aA (bJ 0) (aA (bJ 2) aG)))) (cR (bJ 1) aL)))) (λ_ _ _ _ _ _=>(bJ 0))) (iG aG)) (aJ (zT (Np (gv 4) (eN lA (gv 5) (gB (aA (gv 7) aG)))))
 aQ) aQ)
 aQ))
 aQ)))
 (aJ (eO 2 nd rfl jl rfl (gv 4))
 aQ))))
 (aJ (b_ (gv 2))
 aQ)))
 t38:=fJ Tp.V8 N38 zo8 λ_ _ _ _ _ _ hr=>(aJ (eO 3 nd rfl jc rfl (cR (iG (aA aL (aA aL (aA aL aG)))) (gc Fk.pF Tp.oZ hr cM gk (aA (gv 0) (aA aL aG)))))
 (aJ (b_ (wA Tp.z3 gk (aA (nO (au (top 53)) N38 ["_law_place"] ["_law_pen_here","_law_often","_law_ring"] [0,3,2] rfl rfl rfl (by decide +kernel) (by decide +kernel) (nJ 0) (by decide +kernel) (wB Tp.z8 gk (cR (gv 1) aL)) (λ_ _ _ _ _ _=>(nM 0 (by decide +kernel) rfl (by decide +kernel))) (λ_ _ _ _ _ _=>qu) (λ_ _ _ _ _ _=>(Fd (kO (zN hr) (gc Fk.pF Tp.oZ hr su rC (aA (bJ 1) (aA aL aG))) (bJ 2)) (gc Fk.pF Tp.oZ hr su rC (aA (bJ 1) (aA (cR (bJ 3) aL) aG))) rZ))) aG)))
 aQ))
 t39:=fJ Tp.V9 N39 zoY λ_ _ _ _ _ _ hr=>(aJ (iH (JZ (Nm (qp (nq (lU Tp.cs Tp.z0 gk (gv 2) (yc rfl Tp.z3 Fb gk dk)))) (Nk (kO (JV hr) (vm Tp.z4 gk (aA (gv 2) aG)) (cR (gv 0) aL))))) (aJ (b_ m_)
 aQ) aQ)
 (aJ (b_ (CJ rfl Tp.z6 gk (aA (nO (au (top 54)) N39 ["_law_one"] ["_law_ring"] [1] rfl rfl rfl (by decide +kernel) (by decide +kernel) (nJ 0) (by decide +kernel) (nu (gv 2)) (λ_ _ _ _ _ _=>(nM 0 (by decide +kernel) rfl (by decide +kernel))) (λ_ _ _ _ _ _=>qu) (λ_ _ _ _ _ _=>(Tj (Nj (bJ 0)) (tM (vf (gc Fk.Wo Tp.Oq hr su rC (aA (bJ 0) aG)) (tM (Z9 Tn (zN hr) aL (bJ 0) (cR (bJ 1) aL)))))))) aG)))
 aQ))
 t40:=fJ Tp.V_ VB zoC λ_ _ _ _ _ _ hr=>(aJ (eO 3 nd rfl jc rfl (iG (aA aL aG)))
 (aJ (zjN vo (kO (JV hr) (gv 3) (iG aG)) (aJ (eO 4 nd rfl jc rfl (eN zM (vm Tp.z4 gk (aA (gv 3) aG)) aL))
 (aJ (iH (kO (tO hr) (cR (gv 3) (vd aL)) (cR (gv 1) aL)) (aJ (zT (znM (gv 3)))
 (aJ (iH (kO (JV hr) (gv 3) (iG aG)) (aJ (Fl (gv 3) (vd aL) (eN lA (cR (gv 3) (vd aL)) aL))
 aQ) aQ)
 aQ)) (aJ (Nq 5 (au (top 55)) VB ["_law_one","_law_other"] ["_law_row","_law_place"] [3,4] nd rfl jl rfl rfl rfl rfl (by decide +kernel) (by decide +kernel) (E_ 0 1) (by decide +kernel) (nu (cR (gv 0) aL)) (λ_ _ _ _ _ _=>(J3 0 1 rfl (by decide +kernel) rfl rfl (by decide +kernel) (by decide +kernel))) (λ_ _ _ _ _ _=>(zQ (kO (tO hr) (bJ 1) (bJ 3)))) (λ_ _ _ _ _ _=>(cR (bJ 2) (bJ 0))))
 (aJ (Nq 6 (au (top 55)) VB ["_law_spot"] ["_law_ring","_law_row"] [1,3] nd rfl jl rfl rfl rfl rfl (by decide +kernel) (by decide +kernel) (nJ 0) (by decide +kernel) (nu (gv 5)) (λ_ _ _ _ _ _=>(nM 0 (by decide +kernel) rfl (by decide +kernel))) (λ_ _ _ _ _ _=>(zQ (kO (zN hr) (gc Fk.Wq Tp.Ot hr su rC (aA (cR (bJ 1) aL) (aA (bJ 0) (aA (cR (bJ 2) (vd aL)) aG)))) (cR (bJ 1) aL)))) (λ_ _ _ _ _ _=>(bJ 0)))
 (aJ (iH (JZ (Nm (kO (JV hr) (gv 6) (iG aG)) (Nk (kO (znJ hr) (cR (gv 2) (gv 4)) (gB (aA rZ (aA (cR (gv 3) (vd aL)) aG))))))) (aJ (Fl (gv 3) (vd aL) (eN lA (cR (gv 3) (vd aL)) aL))
 aQ) (aJ (iH (kO (tO hr) (vm Tp.z4 gk (aA (gv 3) aG)) (cR (gv 0) aL)) (aJ (b_ (wA Tp.z3 gk (aA (gv 3) aG)))
 aQ) (aJ (zT (Np (gv 3) aL))
 aQ))
 aQ))
 aQ))))
 aQ)))
 (aJ (b_ rZ)
 aQ)))
 t41:=fJ Tp.Wa ["_law_pen_here","_law_row","_law_k","_law_at","_law_odd_here","_law_rows"] zoG λ_ _ _ _ _ _ hr=>(aJ (eO 3 nd rfl jl rfl (gc Fk.pF Tp.oZ hr cM gk (aA (gv 0) (aA (eN lA (vm Tp.z4 gk (aA (gv 1) aG)) aL) aG))))
 (aJ (eO 4 nd rfl jl rfl (cR (iG (aA m_ (aA m_ (aA rZ (aA (vd aL) (aA (gv 2) (aA nj (aA (gB (aA aL aG)) (aA (gc Fk.pF Tp.oZ hr cM gk (aA (gv 0) (aA (gv 2) aG))) aG))))))))) (gc Fk.pF Tp.oZ hr cM gk (aA (gv 0) (aA aL aG)))))
 (aJ (eO 5 nd rfl jl rfl (iG (aA (eN lA (eN lA (Fe (gv 1) J0 (CG (gv 3))) (gB (aA (gv 4) aG))) (Fe (gv 1) (CG (eN lA (gv 3) aL)) J0)) (aA (eN lA (Fe (gv 1) J0 (CG (gv 3))) (Fe (gv 1) (CG (eN lA (gv 3) aL)) J0)) (aA (eN lA (gv 1) (gB (aA aL aG))) (aA (zi1 Tp.z9 gk (aA (gv 1) aG)) (aA rZ (aA (gB (aA (gv 1) aG)) aG))))))))
 (aJ (b_ (cR (gv 5) (cR (iG (aA aL (aA aL (aA aL (aA aL (aA aL (aA aL (aA aL (aA aL (aA aL aG)))))))))) (gc Fk.pF Tp.oZ hr cM gk (aA (gv 0) (aA aL aG))))))
 aQ))))
 t42:=fJ Tp.Wb N42 Vw λ_ _ _ _ _ _ hr=>(aJ (iH (Tq (gv 1)) (aJ (b_ (Nj (gv 0)))
 aQ) aQ)
 (aJ (b_ (vf (lU Tp.cs Tp.z0 gk (gv 0) (yc rfl Tp.z3 Fb gk dk)) (vf (zO (tO hr) (gv 0) (gv 1)) (tM (CJ rfl Tp.z6 gk (aA (nO (au (top 57)) N42 ["_law_one"] [] [] rfl rfl rfl (by decide +kernel) (by decide +kernel) (nJ 0) (by decide +kernel) (nu (gv 0)) (λ_ _ _ _ _ _=>(nM 0 (by decide +kernel) rfl (by decide +kernel))) (λ_ _ _ _ _ _=>qu) (λ_ _ _ _ _ _=>(gc Fk.Wo Tp.Oq hr su rC (aA (bJ 0) aG)))) aG))))))
 aQ))
 Wr:=fJ Tp.Ou ["_law_web_here","_law_ring","_law_known_here","_law_e"] Vx λ_ _ _ _ _ _ hr=>(aJ (zol 3 (dc:=0) rfl rfl ⟨rfl,rfl⟩ gk Tp.c0 nd rfl jl Tp.s0 (λ_ _ _ R' YG=>(aJ (b_ (gc Fk.t21 Tp.VL hr R' gk (aA (gv 0) (aA (gv 1) (aA (gv 2) aG)))))
 aQ)) (λ_=>(aJ (b_ (gc Fk.q33 Tp.V4 (zgw hr) su gk (aA (gv 3) aG)))
 aQ)) dk)
 aQ)
 t44:=fJ Tp.Wc ["_law_web_here","_law_ring","_law_known_here","_law_due","_law_turn"] zo4 λ_ _ _ _ _ _ hr=>(aJ (iH (qp (nq (gc Fk.t39 Tp.V9 hr cM gk (aA (gv 0) (aA (gv 1) (aA (gv 2) aG)))))) (aJ (b_ (zO (tO hr) (gc Fk.Wr Tp.Ou hr cM gk (aA (gv 0) (aA (gv 1) (aA (gv 2) aG)))) nj))
 aQ) aQ)
 (aJ (eO 3 nd rfl jl rfl (gc Fk.t40 Tp.V_ hr cM gk (aA (gv 0) (aA (gv 1) (aA (gv 2) aG)))))
 (aJ (wC vo rfl rfl (wB Tp.z8 gk aL) (yd 4 nd rfl jl rfl) (aJ (iH (qp (nq (gc Fk.t42 Tp.Wb hr cM gk (aA (gc Fk.Wr Tp.Ou hr cM gk (aA (gv 0) (aA (gv 1) (aA (gv 2) aG)))) (aA (gv 3) aG))))) (aJ (b_ m_)
 aQ) aQ)
 aQ))
 (aJ (b_ m_)
 aQ))))
 t45:=fJ Tp.Ov VD zo2 λ_ _ _ _ _ _ hr=>(aJ (wC vo rfl rfl (nu (eN lA (iG (aA (gc Fk.t28 Tp.V1 hr cM gk (aA (gv 0) (aA aL aG))) aG)) (Fe (gv 0) (CG aL) (CG aL)))) (yd 1 nd rfl jl rfl) (aJ (eO 2 nd rfl jc rfl (gc Fk.t29 Tp.V2 hr cM gk (aA (gv 1) aG)))
 (aJ (eO 3 nd rfl jc rfl (gc Fk.t34 Tp.V5 hr cM gk (aA (gv 2) (aA (eN lA aL (gc Fk.pF Tp.oZ hr cM gk (aA (gv 2) (aA (cR (iG (aA aL (aA aL aG))) (gc Fk.pF Tp.oZ hr cM gk (aA (gv 2) (aA aL aG)))) aG)))) aG))))
 (aJ (eO 4 nd rfl jc rfl (gc Fk.t35 Tp.V6 hr cM gk (aA (gv 2) aG)))
 (aJ (eO 5 nd rfl jl rfl (gc Fk.t38 Tp.V8 hr cM gk (aA (gv 2) (aA (gv 3) (aA (gv 4) aG)))))
 (aJ (eO 6 nd rfl jl rfl (eN lA (gc Fk.t37 Tp.V7 hr cM gk (aA (gv 3) (aA (gv 4) aG))) (iG (aA (gv 5) aG))))
 (aJ (eO 7 nd rfl jl rfl (cR (gv 6) (gc Fk.pF Tp.oZ hr cM gk (aA (gv 2) (aA (vm Tp.z4 gk (aA (gv 6) aG)) aG)))))
 (aJ (eO 8 nd rfl jl rfl (wA Tp.z3 gk (aA (nO (au (top 60)) VD ["_law_one"] ["_law_pen_here"] [2] rfl rfl rfl (by decide +kernel) (by decide +kernel) (nJ 0) (by decide +kernel) (nu (gv 7)) (λ_ _ _ _ _ _=>(nM 0 (by decide +kernel) rfl (by decide +kernel))) (λ_ _ _ _ _ _=>qu) (λ_ _ _ _ _ _=>(Fd (kO (tO hr) (gc Fk.pF Tp.oZ hr su rC (aA (bJ 1) (aA aL aG))) aL) (bJ 0) rZ))) aG)))
 (aJ (eO 9 nd rfl jl rfl (iG (aA (gv 5) (aA (gv 8) (aA (gv 7) (aA (eN zlS (gB (aA rZ aG)) (cR (gv 3) aL)) (aA (gc Fk.t32 Tp.V3 hr cM gk (aA (gv 2) aG)) (aA (gc Fk.t41 Tp.Wa hr cM gk (aA (gv 2) (aA (gv 5) (aA (cR (gv 4) aL) aG)))) aG))))))))
 (aJ (iH (qp (nq (CJ rfl Tp.z6 gk (aA (nO (au (top 60)) VD ["_law_thing"] ["_law_web_here","_law_ring"] [3,4] rfl rfl rfl (by decide +kernel) (by decide +kernel) (nJ 0) (by decide +kernel) (nu (gv 9)) (λ_ _ _ _ _ _=>(nM 0 (by decide +kernel) rfl (by decide +kernel))) (λ_ _ _ _ _ _=>qu) (λ_ _ _ _ _ _=>(gc Fk.t44 Tp.Wc hr su rC (aA (bJ 1) (aA (bJ 2) (aA (bJ 0) aG)))))) aG)))) (aJ (b_ m_)
 aQ) aQ)
 aQ))))))))))
 (aJ (b_ m_)
 aQ))
theorem ziT(Tp:Top K mg):∀k,Fs P w K mg base k
 |0=>⟨dI,dI,dI,dI,dI,dI,dI,dI,dI,dI,zhS,dI,dI,dI,dI,dI,dI,dI,dI,dI,dI,dI,dI,dI,dI,dI,dI,dI,dI,dI,dI,dI,dI,dI,dI,dI,dI,dI,dI,dI,dI,dI,dI,dI,dI,dI⟩
 |k+1=>zjy Tp (ziT Tp k)
end
theorem all_mk{l:PySem.W.OpenLaw}{w:World}{K:W.Frag}{h:Heap}{mg:Str->Option Value}{fa:Addr}(hm:∀ns:List Int,ns.length<=63->∃s',call aq T 60 true 45 [.d (.fl (ns.map D.int))] []=some (.ok (.d (.bl true)),s'))
  (S:rE fs ms xs lk bd K) (X:K.In h) (G:h.Ns mainGlobals mg) (Ws:mg "law"=some (.ref fa)) :
  ∃fd:FuncData,(∀(s:Shared) (u:Value),BindsTo s fd ⟨[u],[]⟩ [("_law_script",u)])/\∀base:Heap,K.In base->base.Ns mainGlobals mg->cB l.prog w K mg base (gD l.prog w) true 60 fa fd ["_law_script"] (u5 K):=by
 have Tp:Top K mg:=zmX S X G;have e:=Ws.symm.trans Tp.Ov.m;cases e;exact⟨_,CQ Tp.Ov.f (λ_ _ _ _ _ _ _=>rfl),λbase _ _=>(ziT Tp 60).t45.imp (zjL hm)⟩
end eZ
namespace eZ
open PySem Mi
theorem zha{k:Nat}{n i:Int}{ps:List (Int×Int)}(h:Web n ps):W (call aq T (k+1) true 8 [.d (bI n ps),.d (.int i)]) [] λv s=>v=.d (.tup ((bK i ps).map .int)):=by
 refine W.call T_8 rfl ?_;unfold b8 bI;have hl:(ps.map iJ).length<=100:=by rw[cg];have:=h.len;have:=h.h8;lia
 have hs:(100:Nat)<=sizeLine:=by decide
 refine Y ?_;refine nP (l:=ps) (f:=iJ) (λp=>(endOf i p).map .int) (by rw[cg] at hl;lia) ?_ (λp hp=>?_) ?_
 ·refine Y ?_;exact⟨rfl,rfl⟩
 ·obtain⟨a,b⟩:=p;refine Y ?_;refine⟨rfl,λhb=>?_,λhb=>?_⟩
  ·refine Y ?_;refine W.ite (λh1=>?_) (λh1=>?_)
   ·refine Y ?_;refine⟨rfl,_,rfl,?_⟩;have h1:a=i:=by simpa using h1
    simp[endOf,h1]
   ·refine Y ?_;refine⟨rfl,_,rfl,?_⟩;simp[fL] at h1 hb;rcases hb with hb|hb
    ·exact absurd hb h1
    ·simp[endOf,h1,hb]
  ·simp[fL] at hb;simp[endOf,hb]
 ·have he:ps.filterMap (λp=>(endOf i p).map D.int)=(bK i ps).map D.int:=by unfold bK;rw[List.map_filterMap]
  rw[he];refine Y ?_;refine J8 (zfO (zhO ?_ (zd6 h i))) ?_
  ·have:=O9 (endOf i) ps;have:=h.len;have:=h.h8;unfold bK
   lia
  exact Y trivial
section
variable {n k:Nat}{es:Nat->List Int}{A:Int->Int->Bool}{F:Fr}{p:Nat}{x y:Int}
theorem znu{k':Nat}(hx:0<=x/\x<k)(hy:0<=y/\y<k):W (call aq T (k'+1) true 11 [.d (kY n k es A),.d (.int x),.d (.int y)]) [] λv s=>v=.d (.bl (A x y)):=by
 refine W.call zoK rfl ?_;unfold UG kY;refine Y ?_;refine cV (vB hx.1 (znT hx.1 hx.2)) ?_;refine Y ?_;refine cV (vB hy.1 (Ux hy.1 hy.2)) ?_;exact Y trivial
theorem Wt{k':Nat}(B:Bo n k es A)(v:Fv n k F)(hp:p<n)(hx:0<=x/\x<k):W (call aq T (k'+2) true 12 [.d (kY n k es A),.d (kW F),.d (.int p),.d (.int x)]) [] λv s=>v=.d (kW (settle es A F p x)):=by
 refine W.call zoD rfl ?_;unfold UJ kW;have qz:(100:Nat)<=sizeLine:=by decide
 have hn:=B.hn;have hv:=v.len;have ebo:kY n k es A=.ob 0 [.fl (Dg n es),.tup ((oX k).map .int),.fl (wG k A),.bl true]:=rfl;refine Y ?_;refine KaV rfl ?_;refine Y ?_;refine⟨_,ziZ (by lia) (by rw[cg];lia),?_⟩;refine Y ?_;refine cV (vB (by lia) (zlE (by lia))) ?_;refine Y ?_;refine yq (λi J s=>s=[.lst ((((es p).take i).foldl (fW (A x)) (F.set p none)).map bH)]/\∃a5:Option Xv,J=[some (.d (kY n k es A)),some (.d (.tup (F.map bH))),some (.d (.int p)),some (.d (.int x)),some (.l 0),a5]) ⟨?_,_,rfl⟩ (λi z J s e hI=>?_) (λJ s hI=>?_)
 ·show [SO.lst ((F.map bH).set p .non)]=_;rw[List.take_zero,List.foldl_nil,List.map_set];rfl
 ·obtain⟨rfl,a5,rfl⟩:=hI;rw[iW] at e;cases ei:(es p)[i]? with
  |none=>
   rw[o_,ei] at e;cases e
  |some q=>
   rw[o_,ei] at e;cases e;have hq:=B.mem p hp q (fZ ei);have ht:(es p).take (i+1)=(es p).take i++[q]:=by rw[List.take_succ,ei];rfl
   rw[ht,List.foldl_append,Ln,List.foldl_nil];have hG:(((es p).take i).foldl (fW (A x)) (F.set p none)).length=n:=by rw[Us,lB,hv]
   have lo:∀L,(((es p).take i).foldl (fW (A x)) (F.set p none))[q.toNat]?=some (some L)->(∀y∈L,0<=y/\y<k)/\L.length<=24:=λL hL=>by
    rw[Ut q.toNat (λe he=>(B.mem p hp e (Pq he)).1) (by rw[lB];lia),pH (by lia)] at hL;have hz:∀L',F[q.toNat]?=some (some L')->(∀y∈L',0<=y/\y<k)/\L'.length<=24:=λL' h=>⟨v.lo _ L' h,v.ll _ L' h⟩;split at hL
    ·obtain⟨c,e1,e2⟩:=kE.mp hL;cases c with
     |none=>cases e2
     |some L'=>
      cases e2;exact⟨λy hy=>(hz L' e1).1 y (tX.mp hy).1,kI (K1 _ _) (hz L' e1).2⟩
    ·exact hz L hL
   generalize ((es p).take i).foldl (fW (A x)) (F.set p none)=G at hG lo ⊢;obtain⟨c,ec⟩ : ∃c,G[q.toNat]?=some c:=⟨_,dj (by lia)⟩;refine Y ?_;refine cV (vB hq.1 (Od ec)) ?_;refine Y ?_;cases c with
   |none=>
    refine Y ?_;exact⟨_,rfl,by rw[zhU ec],_,rfl⟩
   |some L=>
    obtain⟨l1,l2⟩:=lo L ec;refine Y ?_;refine nP (l:=L) (f:=D.int) (λy=>if A x y=true then some (.int y) else none) (by lia) ?_ (λy hy=>?_) ?_
    ·refine Y ?_;refine cV (vB hq.1 (Od ec)) ?_;show W (src (.d (.tup (L.map .int)))) _ _;refine Y ?_;exact⟨rfl,rfl⟩
    ·refine Y ?_;refine W.cm rfl rfl (W.c0 (znu hx (l1 y hy)) ?_);refine Y ?_;refine⟨rfl,λhb=>?_,λhb=>?_⟩
     ·refine Y ?_;exact⟨rfl,_,rfl,by rw[if_pos hb]⟩
     ·rw[if_neg (by rw[hb];decide)]
    ·rw[zc5 (α:=Unit)];refine Y ?_;refine⟨_,ziZ hq.1 (by rw[cg];lia),?_⟩;refine Y ?_;refine⟨_,rfl,?_,_,rfl⟩;rw[zkN,ec];rfl
 ·obtain⟨rfl,a5,rfl⟩:=hI;rw[cg,o_,Gg];refine Y ?_;rfl
theorem ziR{k':Nat}(B:Bo n k es A)(v:Fv n k F)(hp:p<n):W (call aq T (k'+1) true 13 [.d (kY n k es A),.d (kW F),.d (.int p)]) [] λv s=>v=.d (.int (dW es F p)):=by
 refine W.call zoI rfl ?_;unfold UL kW kY;have qz:(100:Nat)<=sizeLine:=by decide
 have hn:=B.hn;have hv:=v.len;have hl:=B.len p hp;refine Y ?_;refine nP (l:=es p) (f:=D.int) (λe=>if ((λe:Int=>(F[e.toNat]?.join).isSome) e)=true then some (.int e) else none) (by lia) ?_ (λe he=>?_) ?_
 ·refine Y ?_;refine cV (vB (by lia) (zlE (by lia))) ?_;rw[o_];refine Y ?_;exact⟨rfl,rfl⟩
 ·have hq:=B.mem p hp e he;obtain⟨c,ec⟩ : ∃c,F[e.toNat]?=some c:=⟨_,dj (by lia)⟩;refine Y ?_;refine cV (vB hq.1 (Od ec)) ?_;refine Y ?_;have hc:(F[e.toNat]?.join).isSome=c.isSome:=by rw[ec];rfl
  have hd:(!(bH c).iB)=c.isSome:=by cases c<;>rfl
  rw[hd];refine⟨rfl,λhb=>?_,λhb=>?_⟩
  ·refine Y ?_;exact⟨rfl,_,rfl,if_pos (hc.trans hb)⟩
  ·exact if_neg (λz=>by rw[hc.symm.trans z] at hb;cases hb)
 ·rw[zc5 (α:=Unit)];refine Y ?_;show Xv.d (.int (((((es p).filter _).map D.int).length:Nat):Int))=_;rw[cg];rfl
theorem zjX{k':Nat}(B:Bo n k es A)(v:Fv n k F):W (call aq T (k'+2) true 14 [.d (kY n k es A),.d (kW F)]) [] λv s=>v=.d (kW (bnd es F)):=by
 refine W.call zoW rfl ?_;unfold UW;have qz:(100:Nat)<=sizeLine:=by decide
 have hn:=B.hn;have hv:=v.len;refine Y ?_;refine nP (l:=F.zipIdx 0) (f:=λq=>.tup [.int q.2,bH q.1]) (λq=>some (bH (if 0<dW es F q.2 then q.1 else none))) (by rw[List.length_zipIdx];lia) ?_ (λq hq=>?_) ?_
 ·refine KaL ?_;refine Y ?_;refine KaK ?_;rw[zbx];exact⟨rfl,rfl⟩
 ·obtain⟨c,i⟩:=q;have hi:i<n:=by
   have:=List.mem_zipIdx hq
   lia
  refine Y ?_;refine⟨rfl,λ_=>?_,λhb=>by cases hb⟩;refine Y ?_;refine W.cm rfl rfl (W.c0 (ziR B v hi) ?_);refine Y ?_;refine W.ite (λh1=>?_) (λh1=>?_)
  ·refine Y ?_;have h1:0<dW es F i:=by simpa using h1
   exact⟨rfl,_,rfl,by rw[if_pos h1]⟩
  ·refine Y ?_;have h1:¬0<dW es F i:=by simpa using h1
   exact⟨rfl,_,rfl,by rw[if_neg h1];rfl⟩
 ·rw[yu];refine Y ?_;show Xv.d (.tup _)=_;unfold kW bnd;rw[List.mapIdx_eq_zipIdx_map,Am];rfl
end
section
variable {n k:Nat}{es:Nat->List Int}{A:Int->Int->Bool}{F:Fr}{p:Nat}{x y:Int}
theorem zeu{k':Nat}(B:Bo n k es A)(v:Fv n k F):W (call aq T (k'+2) true 15 [.d (kY n k es A),.d (kW F)]) [] λv s=>(v=.d .non/\∀(i:Nat) L,F[i]?≠some (some L))\/∃(p:Nat) (L:List Int),v=.d (.int p)/\F[p]?=some (some L):=by
 refine W.call zo0 rfl ?_;unfold U6;have qz:(100:Nat)<=sizeLine:=by decide
 have hn:=B.hn;have hv:=v.len;refine Y ?_;refine KaK ?_;refine yq (λi J s=>∃(rs:List (List Int)) (a3 a4:Option Xv),s=[.lst (rs.map λr=>D.tup (r.map .int))]/\J=[some (.d (kY n k es A)),some (.d (kW F)),some (.l 0),a3,a4]/\rs.length<=i/\(∀r∈rs,∃(a b:Int) (p:Nat) (L:List Int),r=[a,b,(p:Int)]/\F[p]?=some (some L))/\(rs=[]->∀j,j<i->∀L,F[j]?≠some (some L))) ⟨[],_,_,rfl,rfl,bO _,by simp,λ_ j hj=>absurd hj (by lia)⟩ (λi z J s e hI=>?_) (λJ s hI=>?_)
 ·obtain⟨rs,a3,a4,rfl,rfl,hl,h1,h2⟩:=hI;rw[zgW,iW] at e;cases ei:F[i]? with
  |none=>rw[ei] at e;cases e
  |some c=>
   rw[ei] at e;cases e;have hi:i<n:=by have:=(dN.mp ei).1;lia
   cases c with
   |none=>
    refine Y ?_;refine⟨_,rfl,rs,_,_,rfl,rfl,by lia,h1,λer j hj L=>?_⟩;by_cases z:j=i
    ·rw[z,ei];exact λq=>by cases q
    ·exact h2 er j (by lia) L
   |some L=>
    refine Y ?_;refine W.cm rfl rfl (W.c0 (ziR (p:=0+i) B v (by lia)) ?_);refine Y ?_;refine⟨by rw[cg];lia,?_⟩;refine Y ?_;refine⟨_,rfl,rs++[[(((L.map D.int).length:Nat):Int),-(dW es F (0+i):Int),((0+i:Nat):Int)]],_,_,?_,rfl,by simp;lia,λr hr=>?_,λer=>by simp at er⟩
    ·rw[qH];rfl
    ·rcases iR.mp hr with hr|hr
     ·exact h1 r hr
     ·rw[qG.mp hr];exact⟨_,_,i,L,by rw[Nat.zero_add],ei⟩
 ·obtain⟨rs,a3,a4,rfl,rfl,hl,h1,h2⟩:=hI;rw[zew,cg] at h2;refine Y ?_;refine W.Et ?_;refine Y ?_;refine⟨_,rfl,?_⟩;by_cases er:rs=[]
  ·subst er;refine Y ?_;refine .inl ⟨rfl,λi L e=>?_⟩;exact h2 rfl i (dN.mp e).1 L e
  ·have et:(!(rs.map λr=>D.tup (r.map .int)).isEmpty)=true:=by
    cases rs with
    |nil=>exact absurd rfl er
    |cons=>rfl
   rw[et];obtain⟨r,hr,em⟩:=zmv er;refine Y ?_;refine cV em ?_;obtain⟨a,b,p,L,rfl,ep⟩:=h1 r hr;refine Y ?_;exact .inr ⟨p,L,rfl,ep⟩
noncomputable def Wu(k:Nat):Option (List Int)->Bool
 |none=>true
 |some L=>decide (L=oX k)
theorem zfs{k':Nat}(B:Bo n k es A)(v:Fv n k F):W (call aq T (k'+1) true 16 [.d (kY n k es A),.d (kW F)]) [] λv s=>v=.d (.bl (F.all (Wu k))):=by
 refine W.call zoE rfl ?_;unfold U7;have qz:(100:Nat)<=sizeLine:=by decide
 have hn:=B.hn;have hv:=v.len;refine Y ?_;refine nP (l:=F) (f:=bH) (λc=>some (.bl (Wu k c))) (by lia) ?_ (λc hc=>?_) ?_
 ·refine Y ?_;show W (src (.d (.tup (F.map bH)))) _ _;refine Y ?_;exact⟨rfl,rfl⟩
 ·cases c with
  |none=>
   refine Y ?_;refine⟨rfl,λ_=>?_,λhb=>by cases hb⟩;refine Y ?_;exact⟨rfl,_,rfl,rfl⟩
  |some L=>
   refine Y ?_;refine⟨rfl,λ_=>?_,λhb=>by cases hb⟩;refine Y ?_;refine cV (zlA (f:=id)) ?_;exact⟨rfl,_,rfl,rfl⟩
 ·rw[yu];refine Y ?_;refine cV Uj ?_;rfl
end
section
variable {n k d:Int}{ps:List (Int×Int)}
theorem zfP{k':Nat}(h:Web n ps):W (call aq T (k'+2) true 9 [.d (bI n ps)]) [] λv s=>v=.d (.fl (Dg n.toNat λi=>bK i ps)):=by
 refine W.call T_9 rfl ?_;unfold b9;have qz:(100:Nat)<=sizeLine:=by decide
 have h1:=h.h1;have h8:=h.h8;refine Y ?_;refine nP (l:=List.range (n-0).toNat) (f:=λ(j:Nat)=>.int (0+j)) (λ(i:Nat)=>some (.tup ((bK i ps).map .int))) (by rw[pI];lia) ?_ (λj hj=>?_) ?_
 ·unfold bI;refine Y ?_;refine⟨by rw[lV (by lia) (by lia),lV (by lia) (by lia)];rfl,?_⟩;exact⟨rfl,rfl⟩
 ·refine Y ?_;refine⟨rfl,λ_=>?_,λhb=>by cases hb⟩;refine Y ?_;refine W.c0 (zha h) ?_;exact⟨rfl,_,rfl,by rw[show (0:Int)+j=j by lia]⟩
 ·rw[show (List.range (n-0).toNat).filterMap (λ(i:Nat)=>some (D.tup ((bK i ps).map .int)))=Dg n.toNat λi=>bK i ps by rw[yu,show n-0=n by lia];rfl];exact Y trivial
theorem znh{k':Nat}{A:Int->Int->Bool}(h:Web n ps){m:Nat}(hm:m<=24):W (call aq T (k'+3) true 10 [.d .any,.d (bI n ps),.d (.fl (wG m A)),.d (.bl true)]) [] λv s=>v=.d (.tup [.fl (Dg n.toNat λi=>bK i ps),.tup ((oX m).map .int),.fl (wG m A),.bl true]):=by
 refine W.call zoM rfl ?_;unfold b10;refine Y ?_;refine W.c0 (zfP h) ?_;have em:(wG m A).length=m:=by unfold wG;simp
 refine Kai (KaZ (ds:=[.int ((wG m A).length:Nat)]) rfl (cV (d:=.tup ((oX m).map .int)) (by rw[em];exact zoc (by lia)) ?_));exact Y trivial
theorem zjY{k':Nat}(h:Web n ps)(hd:1<=d)(FJ:d<=k)(hk:k<=24):W (call aq T (k'+4) true 17 [.d (bI n ps),.d (aM k d)]) [] λv s=>v=.d (kY n.toNat k.toNat (λi=>bK i ps) (dM k d)):=by
 refine W.call zoV rfl ?_;unfold U8 aM;have qz:(100:Nat)<=sizeLine:=by decide
 have e0:(k-0).toNat=k.toNat:=by lia
 refine Y ?_;refine nP (l:=List.range (k-0).toNat) (f:=λ(j:Nat)=>.int (0+j)) (λ(j:Nat)=>some (.bl ((λj:Int=>decide (d<=j/\d<=k-j)) j))) (by rw[pI];lia) ?_ (λj hj=>?_) ?_
 ·refine Y ?_;refine⟨by rw[lV (by lia) (by lia),lV (by lia) (by lia)];rfl,?_⟩;exact⟨rfl,rfl⟩
 ·refine Y ?_;refine⟨rfl,λ_=>?_,λhb=>by cases hb⟩;refine Y ?_;refine⟨rfl,_,rfl,?_⟩
  congr 2
  rw[Aj]
  split<;>lia
 ·rw[yu,e0];refine Y ?_;refine W.mk (vs:=[.d (bI n ps),.d (.fl (wG k.toNat (dM k d))),.d (.bl true)]) ?_ rfl (znh h (by lia));refine Y ?_;refine nP (l:=List.range (k-0).toNat) (f:=λ(j:Nat)=>.int (0+j)) (λ(a:Nat)=>some (.fl ((List.range k.toNat).map λ(b:Nat)=>.bl (dM k d a b)))) (by rw[pI];lia) ?_ (λa ha=>?_) ?_
  ·refine Y ?_;refine⟨by rw[lV (by lia) (by lia),lV (by lia) (by lia)];rfl,?_⟩;exact⟨rfl,rfl⟩
  ·have ha:=vQ.mp ha;refine Y ?_;refine⟨rfl,λ_=>?_,λhb=>by cases hb⟩;refine Y ?_;refine nP (l:=List.range (k-0).toNat) (f:=λ(j:Nat)=>.int (0+j)) (λ(b:Nat)=>some (.bl (dM k d a b))) (by rw[pI];lia) ?_ (λb hb=>?_) ?_
   ·refine Y ?_;refine⟨by rw[lV (by lia) (by lia),lV (by lia) (by lia)];rfl,?_⟩;exact⟨rfl,rfl⟩
   ·have hb:=vQ.mp hb;refine Y ?_;refine⟨rfl,λ_=>?_,λhb=>by cases hb⟩;refine Y ?_;by_cases c:(0:Int)<=(0+a:Int)-(0+b)
    ·refine cV (vB c (Ux (f:=λj=>decide (d<=j/\d<=k-j)) c (by lia))) ?_;refine⟨rfl,_,rfl,?_⟩;unfold dM
     congr 2
     rw[Aj,Ft hd]
     lia
    ·refine cV (zow (x:=.bl (decide (d<=a-b+k/\d<=k-(a-b+k)))) (by lia) (by rw[cg,pI];lia) ?_) ?_
     ·rw[cg,pI];refine(Ux (f:=λj=>decide (d<=j/\d<=k-j)) (by lia) (by lia)).trans ?_
      congr 3
      simp
      lia
     ·refine⟨rfl,_,rfl,?_⟩;unfold dM
      congr 2
      rw[Aj,Ft hd]
      lia
   ·rw[yu,e0];refine Y ?_;exact⟨rfl,_,rfl,rfl⟩
  ·rw[yu,e0];refine Y ?_;exact⟨rfl,rfl⟩
end
section
variable {n k:Nat}{es:Nat->List Int}{A:Int->Int->Bool}
def Told(n k:Nat)(es:Nat->List Int)(A:Int->Int->Bool)(f l m c:Nat):Prop:=∀F kvs,Fv n k F->unset F<=m->qy es A kvs->kvs.length+c<sizeLine->
 W (call aq T l true f [.d (kY n k es A),.l 0,.d (kW F)]) [.dct kvs] λv s=>∃b kvs',v=.d (.bl b)/\(b=true↔Sat es A F)/\s=[.dct kvs']/\qy es A kvs'/\kvs'.length<=kvs.length+c
theorem Wv{l m c:Nat}(B:Bo n k es A)(H:Told n k es A 26 (l+2) m c){F:Fr}{p:Nat}{L:List Int}{kvs:jz}(v:Fv n k F)(hu:unset F<=m+1)(hL:F[p]?=some (some L))(ha:qy es A kvs)(hl:kvs.length+k*c<sizeLine) :
  W (call aq T (l+3) true 25 [.d (kY n k es A),.l 0,.d (kW F),.d (.int p)]) [.dct kvs] λv s=>∃kvs',s=[.dct kvs']/\qy es A kvs'/\kvs'.length<=kvs.length+k*c /\
   ((v=.d .non/\∀x∈L,¬Sat es A (settle es A F p x))\/∃x∈L,v=.d (.int x)/\Sat es A (settle es A F p x)/\∀y∈L,y<x->¬Sat es A (settle es A F p y)):=by
 refine W.call zoB rfl ?_;unfold Vd;have qz:(100:Nat)<=sizeLine:=by decide
 have hp:=tU v.len hL;have hLk:L.length<=k:=ziy (v.so p L hL) (v.lo p L hL);refine Y ?_;refine cV (zk1 (by lia) (Od hL)) ?_;show W (src (.d (.tup (L.map .int)))) _ _;refine Y ?_;refine Kbc (λi J s=>∃(kvs':jz) (a4:Option Xv),s=[.dct kvs']/\J=[some (.d (kY n k es A)),some (.l 0),some (.d (kW F)),some (.d (.int p)),a4]/\qy es A kvs'/\kvs'.length<=kvs.length+i*c/\∀j y,j<i->L[j]?=some y->¬Sat es A (settle es A F p y)) ⟨kvs,_,rfl,rfl,ha,by lia,λj _ hj=>absurd hj (by lia)⟩ (λi z J s e hI=>?_) (λJ s hI=>?_)
 ·obtain⟨kvs',a4,rfl,rfl,h1,h2,h3⟩:=hI;rw[iW] at e;cases ei:L[i]? with
  |none=>rw[ei] at e;cases e
  |some x=>
   rw[ei] at e;cases e;have hi:i<L.length:=(dN.mp ei).1;have hx:=fZ ei;have hc:(i+1)*c<=k*c:=Dn _ (by lia);have qO:(i+1)*c=i*c+c:=Ao ..;refine Y ?_;refine W.cm rfl rfl (W.c0 (Wt B v hp (v.lo p L hL x hx)) ?_);refine Y ?_;have hu2:=Uv (es:=es) (A:=A) (x:=x) hL;refine wD (s:=[]) rfl ((H _ kvs' (Uu B v hp) (by lia) h1 (by lia)).imp λv1 s1=>?_);rintro⟨b,gC,rfl,hb,rfl,g1,g2⟩;refine⟨_,_,rfl,rfl,?_⟩;refine Y ?_;cases b with
   |true=>
    refine Y ?_;refine .inr ⟨_,rfl,?_⟩;refine⟨gC,rfl,g1,by lia,.inr ⟨x,hx,rfl,hb.mp rfl,λy hy dU=>?_⟩⟩;obtain⟨j,hj,ej⟩:=yH hy;refine h3 j y ?_ (by rw[dj hj,ej]);obtain⟨_,ex⟩:=dN.mp ei;exact Nat.lt_of_not_le λq=>by
     rcases Nat.lt_or_eq_of_le q with q|q
     ·have:=List.pairwise_iff_getElem.mp (v.so p L hL) i j hi hj q
      lia
     ·subst q;lia
   |false=>
    refine Y ?_;refine .inl ⟨_,rfl,gC,_,rfl,rfl,g1,by lia,λj y hj ej=>?_⟩;by_cases q:j=i
    ·subst q;rw[ei] at ej;cases ej;exact λz=>by cases hb.mpr z
    ·exact h3 j y (by lia) ej
 ·obtain⟨kvs',a4,rfl,rfl,h1,h2,h3⟩:=hI;rw[cg] at h2 h3;have hc:L.length*c<=k*c:=Dn _ hLk;refine Y ?_;refine⟨kvs',rfl,h1,by lia,.inl ⟨rfl,λx hx=>?_⟩⟩;obtain⟨j,hj,ej⟩:=yH hx;exact h3 j x hj (by rw[dj hj,ej])
theorem zh7{l:Nat}(B:Bo n k es A):Told n k es A 27 (l+3) 0 0:=by
 intro F kvs v hu ha hl;refine W.call Vv rfl ?_;unfold Oj;refine Y ?_;refine W.cm rfl rfl (W.dF rfl ((zeu B v).imp λx s=>?_));rintro(⟨rfl,hz⟩|⟨p,L,rfl,hL⟩)
 ·refine⟨_,rfl,?_⟩;refine Y ?_;exact⟨true,kvs,rfl,⟨λ_=>zeC hz,λ_=>rfl⟩,rfl,ha,by lia⟩
 ·exact absurd hL (zeZ (by lia) p L)
theorem zhQ{l m c:Nat}(B:Bo n k es A)(sS:1<=k)(jE:∀t a b:Int,0<=a->a<k->0<=b->b<k->A ((a+t)%k) ((b+t)%k)=A a b)(H:∀j,Told n k es A 26 (l+2+j) m c):Told n k es A 27 (l+4) (m+1) (k*c):=by
 intro F kvs v hu ha hl;refine W.call Vv rfl ?_;unfold Oj;have hkc:1*c<=k*c:=Dn _ sS;refine Y ?_;refine W.cm rfl rfl (W.dF rfl ((zeu B v).imp λx s=>?_));rintro(⟨rfl,hz⟩|⟨p,L,rfl,hL⟩)
 ·refine⟨_,rfl,?_⟩;refine Y ?_;exact⟨true,kvs,rfl,⟨λ_=>zeC hz,λ_=>rfl⟩,rfl,ha,by lia⟩
 ·refine⟨_,rfl,?_⟩;have hp:=tU v.len hL;refine Y ?_;refine W.cm rfl rfl (W.c0 (zfs B v) ?_);refine Y ?_;cases eb:F.all (Wu k) with
  |true=>
   have all:∀(i:Nat) L,F[i]?=some (some L)->L=oX k:=λi L h=>ji (iY.mp eb _ (fZ h));refine Y ?_;refine W.cm rfl rfl (W.c0 (Wt B v hp ⟨by lia,by lia⟩) ?_);refine Y ?_;have hu2:=Uv (es:=es) (A:=A) (x:=0) hL;refine wD (s:=[]) rfl ((H 1 _ kvs (Uu B v hp) (by lia) ha (by lia)).imp λv1 s1=>?_);rintro⟨b,gC,rfl,hb,rfl,g1,g2⟩;refine⟨_,_,rfl,rfl,?_⟩;refine Y ?_;exact⟨b,gC,rfl,hb.trans (zgh B v hp sS jE all (all p L hL▸hL)).symm,rfl,g1,by lia⟩
  |false=>
   refine Y ?_;refine wD (s:=[]) rfl ((Wv B (H 0) v hu hL ha (by lia)).imp λv1 s1=>?_);rintro⟨gC,rfl,g1,g2,h⟩;rcases h with ⟨rfl,rK⟩|⟨x,hx,rfl,hs,_⟩
   ·refine⟨_,_,rfl,rfl,?_⟩;refine Y ?_;refine⟨false,gC,rfl,⟨λz=>(by cases z),λz=>?_⟩,rfl,g1,g2⟩;obtain⟨x,hx,q⟩:=(Oc B v hp hL).mp z;exact absurd q (rK x hx)
   ·refine⟨_,_,rfl,rfl,?_⟩;refine Y ?_;exact⟨true,gC,rfl,⟨λ_=>(Oc B v hp hL).mpr ⟨x,hx,hs⟩,λ_=>rfl⟩,rfl,g1,g2⟩
theorem znH{l c:Nat}(B:Bo n k es A){F:Fr}{kvs:jz}(v:Fv n k F)(ha:qy es A kvs)(hl:kvs.length+(1+c)<sizeLine)(H:W (call aq T (l+3) true 27 [.d (kY n k es A),.l 0,.d (kW (bnd es F))]) [.dct kvs] λv s=>∃b kvs',v=.d (.bl b)/\(b=true↔Sat es A (bnd es F))/\s=[.dct kvs']/\qy es A kvs'/\kvs'.length<=kvs.length+c) :
  W (call aq T (l+4) true 26 [.d (kY n k es A),.l 0,.d (kW F)]) [.dct kvs] λv s=>∃b kvs',v=.d (.bl b)/\(b=true↔Sat es A F)/\s=[.dct kvs']/\qy es A kvs'/\kvs'.length<=kvs.length+(1+c):=by
 refine W.call zoO rfl ?_;unfold Ve;refine Y ?_;refine cV (zno (f:=id)) ?_;by_cases e0:some []∈F
 ·rw[jP e0];refine Y ?_;obtain⟨i,hi,ei⟩:=yH e0;refine⟨false,kvs,rfl,⟨λz=>(by cases z),λz=>absurd z (zkd (i:=i) (by rw[dj hi,ei]))⟩,rfl,ha,by lia⟩
 ·rw[jG e0];have ne:∀(i:Nat) L,F[i]?=some (some L)->L≠[]:=λi L h q=>by subst q;exact e0 (fZ h)
  have sb:=zks B v ne;refine Y ?_;refine W.cm rfl rfl (W.c0 (zjX B v) ?_);refine Y ?_;refine W.B_ rfl rfl (N_ _) rfl ?_;cases eg:bW ((bnd es F).map cellK) kvs with
  |some d=>
   obtain⟨b,rfl,hb⟩:=ha _ _ eg;refine Y ?_;refine W.pY rfl rfl (N_ _) rfl eg ?_;refine Y ?_;exact⟨b,kvs,rfl,hb.trans sb,rfl,ha,by lia⟩
  |none=>
   refine Y ?_;refine WS.dput rfl rfl (N_ _) ?_;refine Y ?_;refine wD (s:=[]) rfl (H.imp λv1 s1=>?_);rintro⟨b,gC,rfl,hb,rfl,g1,g2⟩;refine⟨_,_,rfl,rfl,?_⟩;refine⟨_,gC,rfl,rfl,by lia,?_⟩;refine Y ?_;refine W.pY (v:=.bl b) rfl rfl (N_ _) rfl (by rw[zd9,if_pos rfl]) ?_;refine Y ?_;have:=zhd (q:=(bnd es F).map cellK) (d:=.bl b) (kvs:=gC);exact⟨b,_,rfl,hb.trans sb,rfl,zkf g1 hb,by lia⟩
theorem zmy{l m c:Nat}(B:Bo n k es A)(H:Told n k es A 27 (l+3) m c):Told n k es A 26 (l+4) m (1+c):=by
 intro F kvs v hu ha hl;have hu2:=zge (es:=es) (F:=F);exact znH B v ha hl (H _ kvs (zlW v) (by lia) ha (by lia))
theorem O1(B:Bo n k es A)(sS:1<=k)(jE:∀t a b:Int,0<=a->a<k->0<=b->b<k->A ((a+t)%k) ((b+t)%k)=A a b):∀m j,Told n k es A 26 (3*m+4+j) m (cnt k m)
 |0,j=>by
  rw[show 3*0+4+j=j+4 by lia];exact zmy (c:=0) B (zh7 B)
 |m+1,j=>by
  rw[show 3*(m+1)+4+j=(3*m+3+j)+4 by lia];refine zmy B ?_;rw[show 3*m+3+j+3=(3*m+2+j)+4 by lia];refine zhQ B sS jE λi=>?_;rw[show 3*m+2+j+2+i=3*m+4+(j+i) by lia];exact O1 B sS jE m (j+i)
end
section
variable {n k:Nat}{es:Nat->List Int}{A:Int->Int->Bool}
theorem zjg{k':Nat}(B:Bo n k es A)(sS:1<=k)(jE:∀t a b:Int,0<=a->a<k->0<=b->b<k->A ((a+t)%k) ((b+t)%k)=A a b){F0:Fr}(v0:Fv n k F0)(all:∀i,i<n->∃L,F0[i]?=some (some L)){c0 c1:Nat}(hz:c0+c1+tot k (n-1)<sizeLine)
  (Hc:W (call aq T (3*n+4+k') true 26 [.d (kY n k es A),.l 0,.d (kW F0)]) [.dct []] λv s=>∃b kvs',v=.d (.bl b)/\(b=true↔Sat es A F0)/\s=[.dct kvs']/\qy es A kvs'/\kvs'.length<=c0)
  (Hf:∀kvs L,F0[0]?=some (some L)->Sat es A F0->qy es A kvs->kvs.length<=c0->W (call aq T (3*n+1+k'+3) true 25 [.d (kY n k es A),.l 0,.d (kW F0),.d (.int (0:Nat))]) [.dct kvs] λv s=>∃kvs',s=[.dct kvs']/\qy es A kvs'/\kvs'.length<=kvs.length+c1 /\
   ((v=.d .non/\∀x∈L,¬Sat es A (settle es A F0 0 x))\/∃x∈L,v=.d (.int x)/\Sat es A (settle es A F0 0 x)/\∀y∈L,y<x->¬Sat es A (settle es A F0 0 y))) :
  W (call aq T (3*n+5+k') true 24 [.d (kY n k es A),.d (.fl (F0.map bH))]) [] λv s=>(v=.d .non/\¬Sat es A F0)\/∃hs:List Int,v=.d (.tup (hs.map .int))/\hs.length=n/\qx es A F0 (λj=>at' hs j)/\∀g,qx es A F0 g->∀j,j<n->(∀t,t<j->g t=at' hs t)->at' hs j<=g j:=by
 have hn:=B.hn;have hl:=v0.len;rw[show 3*n+5+k'=(3*n+4+k')+1 by lia];refine W.call zoS rfl ?_;unfold Vc;have qz:(100:Nat)<=sizeLine:=by decide
 have M7:unset F0<=n:=by unfold unset;rw[<-hl];exact List.countP_le_length
 refine Y ?_;refine W.rN ?_;refine Y ?_;refine wD (s:=[]) rfl (Hc.imp λv1 s1=>?_);rintro⟨b,kvs,rfl,hb,rfl,g1,g2⟩;refine⟨_,_,rfl,rfl,?_⟩;refine Y ?_;cases b with
 |false=>
  refine Y ?_;exact .inl ⟨rfl,λz=>by cases hb.mpr z⟩
 |true=>
  have Dh:=hb.mp rfl;refine Y ?_;have KC:((F0.map bH).length:Int)=n:=by rw[cg,hl]
  refine⟨by rw[KC,lV (by lia) (by lia),lV (by lia) (by lia)];rfl,?_⟩;rw[KC];refine yq (c:=(List.range ((n:Int)-0).toNat).map λ(j:Nat)=>.int (0+j)) (λi J s=>∃(kvs':jz) (Fi:Fr) (hs:List Int) (a5 a6:Option Xv),s=[.dct kvs',.lst (hs.map .int)]/\J=[some (.d (kY n k es A)),some (.d (.fl (F0.map bH))),some (.d (kW Fi)),some (.l 0),some (.l 1),a5,a6]/\qy es A kvs'/\(i=0->Fi=F0/\kvs'.length<=c0)/\(1<=i->kvs'.length+tot k (n-i)<=c0+c1+tot k (n-1))/\hs.length=i/\Fv n k Fi/\unset Fi<=n-i/\(∀j,i<=j->j<n->∃L,Fi[j]?=some (some L))/\Sat es A Fi /\
   (∀g,qx es A Fi g->qx es A F0 λj=>if j<i then at' hs j else g j)/\(∀g,qx es A F0 g->(∀t,t<i->g t=at' hs t)->qx es A Fi g)/\(∀g,qx es A F0 g->∀j,j<i->(∀t,t<j->g t=at' hs t)->at' hs j<=g j)) ?_ (λi z J s e hI=>?_) (λJ s hI=>?_)
  ·exact⟨kvs,F0,[],_,_,rfl,rfl,g1,λ_=>⟨rfl,g2⟩,λz=>absurd z (by lia),rfl,v0,by lia,λj _ hj=>all j hj,Dh,λg s=>by simpa using s,λg s _=>s,λg _ j hj=>absurd hj (by lia)⟩
  ·obtain⟨kvs',Fi,hs,a5,a6,rfl,rfl,i1,i0,i2,i3,i4,i5,i6,i7,i8,i9,O2⟩:=hI;rw[iW] at e;cases ei:(List.range ((n:Int)-0).toNat)[i]? with
   |none=>rw[ei] at e;cases e
   |some j=>
    rw[ei] at e;cases e;obtain⟨hil,ej⟩:=dN.mp ei;rw[K7] at ej;rw[pI] at hil;subst ej;obtain⟨L,hL⟩:=i6 i (bO _) (by lia);have ez:((0:Int)+(i:Nat))=(i:Int):=by lia
    dsimp only;rw[ez];have hp:=tU i4.len hL;obtain⟨m,hm⟩ : ∃m,n-i=m+1:=⟨n-i-1,by lia⟩;rw[hm] at i2 i5;have et:tot k (m+1)=k*cnt k m+tot k m:=rfl;refine Y ?_;have lv:3*n+4+k'=(3*n+1+k')+3:=by lia
    refine Ks (s:=[]) rfl ?_;rw[lv];have H:Told n k es A 26 (3*n+1+k'+2) m (cnt k m):=by
     rw[show 3*n+1+k'+2=3*m+4+(3*n-3*m+k'-1) by lia];exact O1 B sS jE m _
    obtain⟨c2,qO,hW⟩ : ∃c2,(kvs'.length+c2+tot k m<=c0+c1+tot k (n-1))/\W (call aq T (3*n+1+k'+3) true 25 [.d (kY n k es A),.l 0,.d (kW Fi),.d (.int i)]) [.dct kvs'] λv s=>∃gC,s=[.dct gC]/\qy es A gC/\gC.length<=kvs'.length+c2 /\
      ((v=.d .non/\∀x∈L,¬Sat es A (settle es A Fi i x))\/∃x∈L,v=.d (.int x)/\Sat es A (settle es A Fi i x)/\∀y∈L,y<x->¬Sat es A (settle es A Fi i y)):=by
     by_cases c:i=0
     ·subst c;obtain⟨rfl,q⟩:=i0 rfl;have em:n-1=m:=by lia
      rw[em];exact⟨c1,by lia,Hf kvs' L hL Dh i1 q⟩
     ·have i2:=i2 (by lia);refine⟨k*cnt k m,by lia,Wv B H i4 i5 hL i1 (by lia)⟩
    clear i2;refine hW.imp λv1 s1=>?_;rintro⟨gC,rfl,q1,q2,h⟩;rcases h with ⟨rfl,rK⟩|⟨x,hx,rfl,pB,dU⟩
    ·obtain⟨x,hx,q⟩:=(Oc B i4 hp hL).mp i7;exact absurd q (rK x hx)
    ·refine⟨_,_,rfl,rfl,?_⟩;refine Y ?_;refine W.cm rfl rfl (W.c0 (Wt (k':=3*n+2+k') B i4 hp (i4.lo i L hL x hx)) ?_);refine Y ?_;refine⟨by rw[cg];lia,?_⟩;refine Y ?_;have ag:∀j:Nat,j<i->at' (hs++[x]) j=at' hs j:=λj hj=>lW (by lia) (by lia);have ai:at' (hs++[x]) (i:Int)=x:=by rw[<-i3];exact zW
     refine⟨_,rfl,gC,settle es A Fi i x,hs++[x],_,_,?_,rfl,q1,λz=>absurd z (by lia),λ_=>by rw[show n-(i+1)=m by lia];lia,by simp[i3],Uu B i4 hp,?_,λj hj hjn=>?_,pB,λg s=>?_,λg s hg=>?_,λg s j hj hg=>?_⟩
     ·rw[qH];rfl
     ·have:=Uv (es:=es) (A:=A) (x:=x) hL
      lia
     ·obtain⟨M,hM⟩:=i6 j (by lia) hjn;exact⟨_,Ku B i4.len hp (by lia) hM⟩
     ·have s2:=i8 _ (zeh B i4 hp hL hx s);refine⟨λj M hM=>?_,λj e M N h1 h2 he=>?_⟩
      ·have:=s2.mem j M hM
       try dsimp only at this ⊢
       by_cases c1:j<i
       ·rw[if_pos c1] at this;rw[if_pos (by lia),ag j c1];exact this
       ·rw[if_neg c1] at this;by_cases c2:j=i
        ·rw[if_pos c2] at this;rw[if_pos (by lia),c2,ai];exact this
        ·rw[if_neg c2] at this;rw[if_neg (by lia)];exact this
      ·have ff:∀j:Nat,(if j<i then at' hs j else if j=i then x else g j)=if j<i+1 then at' (hs++[x]) j else g j:=λj=>by
        by_cases c1:j<i
        ·rw[if_pos c1,if_pos (by lia),ag j c1]
        ·rw[if_neg c1];by_cases c2:j=i
         ·rw[if_pos c2,if_pos (by lia),c2,ai]
         ·rw[if_neg c2,if_neg (by lia)]
       have:=s2.fit j e M N h1 h2 he
       try dsimp only at this ⊢
       rw[<-ff,<-ff];exact this
     ·have s2:=i9 g s λt ht=>by rw[hg t (by lia),ag t ht]
      have s3:=Ob B i4 hp hL s2;rw[hg i (by lia),ai] at s3;exact s3
     ·by_cases c1:j<i
      ·rw[ag j c1];exact O2 g s j c1 λt ht=>by rw[hg t ht,ag t (by lia)]
      ·have:j=i:=by lia
       subst this;rw[ai];have s2:=i9 g s λt ht=>by rw[hg t ht,ag t ht]
       have s3:=Ob B i4 hp hL s2;exact Int.not_lt.mp λq=>dU (g j) (s2.mem j L hL) q ⟨g,s3⟩
  ·obtain⟨kvs',Fi,hs,a5,a6,rfl,rfl,i1,i0,i2,i3,i4,i5,i6,i7,i8,i9,O2⟩:=hI;rw[cg,pI,show ((n:Int)-0).toNat=n by lia] at i3 i8 O2;refine Y ?_;refine .inr ⟨hs,rfl,i3,?_,O2⟩;obtain⟨g,sg⟩:=i7;have s2:=i8 g sg;refine⟨λj M hM=>?_,λj e M N h1 h2 he=>?_⟩
   ·have:=s2.mem j M hM;rw[if_pos (tU hl hM)] at this;exact this
   ·have:=s2.fit j e M N h1 h2 he;rw[if_pos (tU hl h1),if_pos (tU hl h2)] at this;exact this
end
theorem zi5{k:Nat}{i:Int}:W (call aq T (k+1) true 0 [.d (.int i)]) [] λv s=>v=.d (.bl true):=W.eq (a:=.d (.bl true)) (s':=[]) rfl rfl
theorem Ww{k:Nat}{a b:D}:W (call aq T (k+1) true 2 [.d (.tup [a,b]),.d (.int 2)]) [] λv s=>v=.d (.bl true):=W.eq (a:=.d (.bl true)) (s':=[]) rfl rfl
theorem fX{k:Nat}{i a b:Int}:W (call aq T (k+2) true 1 [.d (.int i),.d (.int a),.d (.int b)]) [] λv s=>v=.d (.bl (decide (a<=i/\i<=b))):=by
 refine W.call T_1 rfl ?_;unfold b1;refine Y ?_;refine W.c0 zi5 ?_;refine Y ?_;refine W.ite (λh1=>?_) (λh1=>?_)
 ·refine Y ?_;have:=ji h1;simp[this]
 ·refine Y ?_;simp at h1;have:¬(a<=i/\i<=b):=by lia
  simp[this]
theorem zlJ{k:Nat}{i:Int}(h1:1<=i)(h2:i<=8):W (call aq T (k+3) true 4 [.d (.int i)]) [] λv s=>v=.d (.bl true):=by
 refine W.call T_4 rfl ?_;unfold b4;refine Y ?_;exact W.dF rfl (fX.imp λv s e=>⟨_,e,by rw[jP (And.intro h1 h2)]⟩)
theorem zfY{k:Nat}{n i:Int}:W (call aq T (k+3) true 5 [.d (.int n),.d (.int i)]) [] λv s=>v=.d (.bl (decide (0<=i/\i<n))):=by
 refine W.call T_5 rfl ?_;unfold b5;refine Y ?_;exact W.dF rfl (fX.imp λv s e=>⟨_,e,by rw[Aj.mpr (show 0<=i/\i<=n-1↔0<=i/\i<n by lia)]⟩)
theorem znk{k:Nat}{n:Int}{p:Int×Int}(h:0<=p.1/\p.1<p.2/\p.2<n):W (call aq T (k+4) true 6 [.d (.int n),.d (iJ p)]) [] λv s=>v=.d (.bl true):=by
 obtain⟨a,b⟩:=p;obtain⟨h1,h2,h3⟩:=h;unfold iJ;dsimp only at h1 h2 h3 ⊢;refine W.call T_6 rfl ?_;unfold b6;refine Y ?_;refine W.c0 Ww ?_;refine Y ?_;refine W.c0 zfY ?_;rw[jP (show 0<=a/\a<n by lia)];refine Y ?_;refine W.c0 zfY ?_;rw[jP (show 0<=b/\b<n by lia)];refine Y ?_;rw[jP h2]
theorem zj2{k:Nat}{n:Int}{ps:List (Int×Int)}(h:Web n ps):W (call aq T (k+5) true 3 [.d (bI n ps)]) [] λv s=>v=.d (.bl true):=by
 refine W.call T_3 rfl ?_;unfold b3 bI;have hl:(ps.map iJ).length<=100:=by rw[cg];have:=h.len;have:=h.h8;lia
 have hs:(100:Nat)<=sizeLine:=by decide
 refine Y ?_;refine W.c0 Ww ?_;refine Y ?_;refine W.c0 (zlJ h.h1 h.h8) ?_;refine Y ?_;refine Kas (c:=ps.map iJ) (λ_=>.bl true) (by lia) ?_ (λx hx=>?_) ?_
 ·refine Y ?_;exact⟨rfl,rfl⟩
 ·obtain⟨p,hp,rfl⟩:=pJ.mp hx;refine Y ?_;exact W.dF rfl ((znk (h.tie p hp)).imp λv s e=>⟨_,e,rfl,rfl⟩)
 ·refine Y ?_;refine cV (Ub ?_) ?_
  ·intro x hx;obtain⟨_,_,e⟩:=pJ.mp hx;exact e.symm
  refine Y ?_;refine Kas (c:=List.zipWith (λ(p q:D)=>D.tup [p,q]) (ps.map iJ) ((ps.map iJ).drop 1)) (λ_=>.bl true) (by rw[List.length_zipWith];lia) ?_ (λx hx=>?_) ?_
  ·refine Y ?_;rw[Uc];exact⟨rfl,rfl⟩
  ·obtain⟨p,q,rfl,hpq⟩:=ziO h.inc x hx;refine Y ?_;rw[zn7 hpq];exact⟨rfl,rfl⟩
  ·refine Y ?_;refine cV (Ub ?_) ?_
   ·intro x hx;obtain⟨_,_,e⟩:=pJ.mp hx;exact e.symm
   rfl
theorem zej{k:Nat}{n:Int}{ps:List (Int×Int)}(h:Web n ps):W (call aq T (k+6) true 7 [.d (bI n ps)]) [] λv s=>∃d,v=.d d:=by
 refine W.call T_7 rfl ?_;unfold b7;refine Y ?_;refine W.c0 (zj2 h) ?_;refine Y ?_;exact⟨_,rfl⟩
theorem zhH{k':Nat}{k d:Int}(hd:1<=d)(FJ:d<=k)(hk:k<=24):W (call aq T (k'+3) true 18 [.d (aM k d)]) [] λv s=>v=.d (.bl true):=by
 refine W.call zo1 rfl ?_;unfold U9 aM;refine Y ?_;refine W.c0 Ww ?_;refine Y ?_;refine W.c0 fX ?_;rw[jP (show 1<=k/\k<=24 by lia)];refine Y ?_;refine W.c0 fX ?_;rw[jP (show 1<=d/\d<=k by lia)]
theorem zdu{k':Nat}{k d:Int}(hd:1<=d)(FJ:d<=k)(hk:k<=24):W (call aq T (k'+4) true 20 [.d (aM k d)]) [] λv s=>∃d,v=.d d:=by
 refine W.call zo9 rfl ?_;unfold Va;refine Y ?_;refine W.c0 (zhH hd FJ hk) ?_;refine Y ?_;exact⟨_,rfl⟩
theorem zkj{k:Nat}{d:D}(h:lX d=true):W (call aq T (k+1) true 31 [.d d]) [] λv s=>v=.d (.bl (whB d)):=by
 cases d with
 |exc _ _=>cases h
 |ob _ _=>cases h
 |any=>cases h
 |_=>exact W.eq (a:=_) (s':=[]) rfl rfl
theorem zon{k:Nat}{d:D}{n:Int}(h:lX d=true):W (call aq T (k+1) true 2 [.d d,.d (.int n)]) [] λv s=>v=.d (.bl (C_ n d)):=by
 cases d with
 |exc _ _=>cases h
 |ob _ _=>cases h
 |any=>cases h
 |tup xs=>
  refine W.call T_2 rfl ?_;unfold b2;refine Y ?_;show Xv.d (D.bl (id (((xs.length:Nat):Int)==n)))=_
  congr 2
 |_=>exact W.eq (a:=_) (s':=[]) rfl rfl
theorem zh9{k:Nat}{d:D}{a b:Int}(h:lX d=true):W (call aq T (k+2) true 1 [.d d,.d (.int a),.d (.int b)]) [] λv s=>v=.d (.bl (Fy a b d)):=by
 cases d with
 |exc _ _=>cases h
 |ob _ _=>cases h
 |any=>cases h
 |int i=>exact fX
 |_=>exact W.eq (a:=_) (s':=[]) rfl rfl
section
variable {n k d:Int}{ps:List (Int×Int)}{x:D}{ks:List (Option Int)}
theorem zjS{k':Nat}{x:D}(h:lX x=true):W (call aq T (k'+3) true 19 [.d (aM k d),.d x]) [] λv s=>v=.d (.bl (Fy 0 (k-1) x)):=by
 refine W.call zoU rfl ?_;unfold U_ aM;refine Y ?_;exact W.dF rfl ((zh9 h).imp λv s e=>⟨_,e,rfl⟩)
theorem zco{k':Nat}(h:zX x=true)(hl:∀xs,x=.tup xs->xs.length<=200):W (call aq T (k'+4) true 22 [.d (bI n ps),.d (aM k d),.d x]) [] λv s=>v=.d (.bl (tV n k x)):=by
 have hs:(200:Nat)<=sizeLine:=by decide
 refine W.call zoX rfl ?_;unfold Vb bI;refine Y ?_;refine W.c0 (zon (zmb h)) ?_;cases x with
 |tup xs=>
  have hx:∀y∈xs,lX y=true:=iY.mp h;have O4:=hl xs rfl;rw[show tV n k (.tup xs)=(decide ((xs.length:Int)=n)&&xs.all (rF k)) from rfl];by_cases hn:(xs.length:Int)=n
  ·rw[show C_ n (.tup xs)=true from jP hn,jP hn];refine Y ?_;refine nP (l:=xs) (f:=λx=>x) (λt=>some (.bl (rF k t))) (by lia) ?_ (λt ht=>?_) ?_
   ·refine Y ?_;rw[List.map_id'];exact⟨rfl,rfl⟩
   ·refine Y ?_;refine⟨rfl,λ_=>?_,λhb=>by cases hb⟩;refine Y ?_;refine W.ite (λc=>?_) (λc=>?_)
    ·refine Y ?_;exact⟨rfl,_,rfl,by unfold rF;rw[show t.iB=true from c];rfl⟩
    ·refine Y ?_;refine W.dF rfl ((zjS (hx t ht)).imp λv s e=>⟨_,e,rfl,_,rfl,?_⟩);unfold rF;rw[show t.iB=false from by simpa using c];rfl
   rw[yu];refine Y ?_;refine cV Uj ?_;rfl
  ·rw[show C_ n (.tup xs)=false from jG hn,jG hn,Bool.false_and];exact Y trivial
 |_=>exact Y rfl
theorem zdE{k':Nat}(h:zX x=true)(hl:∀xs,x=.tup xs->xs.length<=200):W (call aq T (k'+2) true 39 [.d (bI n ps),.d (aM k d),.d x]) [] λv s=>v=.d (.bl (tV n k x)):=by
 have hs:(200:Nat)<=sizeLine:=by decide
 refine W.call zoY rfl ?_;unfold Vn bI aM;cases x with
 |tup xs=>
  have hx:∀y∈xs,lX y=true:=iY.mp h;have O4:=hl xs rfl;rw[show tV n k (.tup xs)=(decide ((xs.length:Int)=n)&&xs.all (rF k)) from rfl];refine Y ?_;refine WS.ite (λhb=>?_) (λhb=>?_)
  ·have hn:(xs.length:Int)≠n:=by simpa using hb
   rw[jG hn,Bool.false_and];exact Y trivial
  ·have hn:(xs.length:Int)=n:=by simpa using hb
   rw[jP hn,Bool.true_and];refine Y ?_;refine nP (l:=xs) (f:=λx=>x) (λt=>some (.bl (rF k t))) (by lia) ?_ (λt ht=>?_) ?_
   ·refine Y ?_;rw[List.map_id'];exact⟨rfl,rfl⟩
   ·refine Y ?_;refine⟨rfl,λ_=>?_,λhb=>by cases hb⟩;refine Y ?_;refine W.ite (λc=>?_) (λc=>?_)
    ·refine Y ?_;exact⟨rfl,_,rfl,by unfold rF;rw[show t.iB=true from c];rfl⟩
    ·refine Y ?_;refine W.c0 (zkj (hx t ht)) ?_;have ec:rF k t=Fy 0 (k-1) t:=by unfold rF;rw[show t.iB=false from by simpa using c];rfl
     rw[ec];cases t with
     |int i=>
      refine Y ?_;refine W.ite (λc1=>?_) (λc1=>?_)
      ·have c1:=ji c1;refine Y ?_;refine⟨rfl,_,rfl,?_⟩;show some (D.bl (decide (0<=i/\i<=k-1)))=some (D.bl (decide (i<k)))
       congr 2
       rw[Aj]
       lia
      ·have c1:¬0<=i:=λz=>c1 (jP z);refine Y ?_;refine⟨rfl,_,rfl,?_⟩;show some (D.bl (decide (0<=i/\i<=k-1)))=some (D.bl false);rw[jG (by lia)]
     |exc _ _=>exact absurd (hx _ ht) (by simp[lX])
     |ob _ _=>exact absurd (hx _ ht) (by simp[lX])
     |any=>exact absurd (hx _ ht) (by simp[lX])
     |_=>
      refine Y ?_;exact⟨rfl,_,rfl,rfl⟩
   rw[yu];refine Y ?_;refine cV Uj ?_;rfl
 |exc _ _=>cases h
 |ob _ _=>cases h
 |any=>cases h
 |_=>exact Y rfl
theorem zfj{k':Nat}(h:Web n ps)(hr:1<=d/\d<=k/\k<=24)(hx:zX x=true)(hl:∀xs,x=.tup xs->xs.length<=200)(hb:tV n k x=true):W (call aq T (k'+7) true 23 [.d (bI n ps),.d (aM k d),.d x]) [] λv s=>∃d,v=.d d:=by
 refine W.call Vu rfl ?_;unfold Oi;refine Y ?_;refine W.c1 (zej h) λ_=>?_;refine Y ?_;refine W.c1 (zdu hr.1 hr.2.1 hr.2.2) λ_=>?_;refine Y ?_;refine W.c0 (zco hx hl) ?_;rw[hb];refine Y ?_;exact⟨_,rfl⟩
theorem zfm{k':Nat}(h:Web n ps)(hr:1<=d/\d<=k/\k<=24)(hx:zX x=true)(hl:∀xs,x=.tup xs->xs.length<=200)(hb:tV n k x=false):WR (call aq T (k'+7) true 23 [.d (bI n ps),.d (aM k d),.d x]) [] 2 []:=by
 refine WR.call Vu rfl ?_;unfold Oi;refine Y ?_;refine W.c1 (zej h) λ_=>?_;refine Y ?_;refine W.c1 (zdu hr.1 hr.2.1 hr.2.2) λ_=>?_;refine Nv ?_;refine Y ?_;refine W.c0 (zco hx hl) ?_;rw[hb];refine W.bool (W.bool (WS.yt (Nv ?_)));refine Y ?_;exact⟨⟨_,_,_,rfl⟩,⟨_,_,_,rfl⟩,_,rfl⟩
theorem zkn{k':Nat}(h:Web n ps)(hr:1<=d/\d<=k/\k<=24)(hx:zX x=true)(hl:∀xs,x=.tup xs->xs.length<=200)(hb:tV n k x=false):WR (call aq T (k'+8) true 21 [.d (bI n ps),.d (aM k d),.d x]) [] 2 []:=by
 refine WR.call Vt rfl ?_;unfold Oh;refine Nv (Ka9 ?_ λs'=>⟨⟨_,_,_,rfl⟩,_,rfl⟩);refine Ka7 ?_;refine Y ?_;exact WR.dF rfl (zfm h hr hx hl hb)
end
section
variable {n k d:Int}{ps:List (Int×Int)}{ks:List (Option Int)}
theorem zfH{k':Nat}(h:Web n ps)(hd:1<=d)(FJ:d<=k)(hk:k<=24)(q:Kn n k ks)(hz:cnt k.toNat n.toNat+k.toNat*cnt k.toNat (n.toNat-1)+tot k.toNat (n.toNat-1)<sizeLine):W (call aq T (k'+40) true 21 [.d (bI n ps),.d (aM k d),.d (.tup (ks.map cD))]) [] λv s=>(v=.d .non/\∀hs,¬sU n k d ps ks hs)\/∃hs,v=.d (.tup (hs.map .int))/\sU n k d ps ks hs/\∀g,sU n k d ps ks g->Ge g hs:=by
 have qz:(200:Nat)<=sizeLine:=by decide
 have h1:=h.h1;have h8:=h.h8;have hql:=q.len;have hkb:tV n k (.tup (ks.map cD))=true:=by
  rw[show tV n k (.tup (ks.map cD))=(decide (((ks.map cD).length:Int)=n)&&(ks.map cD).all (rF k)) from rfl,cg,jP hql,Bool.true_and,Gs,iY];intro c hc;cases c with
  |none=>rfl
  |some i=>have:=q.lo i hc;exact jP (p:=(0<=i/\i<=k-1)) (by lia)
 have hok:zX (.tup (ks.map cD))=true:=iY.mpr λy hy=>by
  obtain⟨c,_,rfl⟩:=pJ.mp hy;cases c<;>rfl
 refine W.call Vt rfl ?_;unfold Oh;refine Y ?_;refine W.c1 (zfj h ⟨hd,FJ,hk⟩ hok (λxs e=>by cases e;rw[cg];lia) hkb) λ_=>?_;refine Y ?_;refine W.c0 (zjY h hd FJ hk) ?_;refine Y ?_;refine nP (l:=ks) (f:=cD) (λc=>some (bH (some (oY k c)))) (by lia) ?_ (λc hc=>?_) ?_
 ·refine Y ?_;exact⟨rfl,rfl⟩
 ·cases c with
  |none=>
   refine Y ?_;refine⟨rfl,λ_=>?_,λhb=>by cases hb⟩;refine Y ?_;exact⟨rfl,_,rfl,rfl⟩
  |some i=>
   refine Y ?_;refine⟨rfl,λ_=>?_,λhb=>by cases hb⟩;refine Y ?_;exact⟨rfl,_,rfl,rfl⟩
 ·have ef:ks.filterMap (λc=>some (bH (some (oY k c))))=(tW k ks).map bH:=by
   rw[yu];unfold tW;rw[Am];rfl
  rw[ef];refine Y ?_;have lv:k'+39=3*n.toNat+5+(k'+34-3*n.toNat):=by lia
  refine W.dF rfl ?_;show W (Mi.call aq T (k'+39) true _ _) _ _;rw[lv];have B:=zk2 h hd hk;have sS:1<=k.toNat:=by lia
  have jE:∀t a b:Int,0<=a->a<(k.toNat:Nat)->0<=b->b<(k.toNat:Nat)->dM k d ((a+t)%(k.toNat:Nat)) ((b+t)%(k.toNat:Nat))=dM k d a b:=λt a b a0 ak b0 bk=>by rw[show ((k.toNat:Nat):Int)=k by lia] at *;exact zjk hd t a b a0 ak b0 bk
  have fv:=zoe q hk (by lia);have M7:unset (tW k ks)<=n.toNat:=by rw[<-fv.len];exact List.countP_le_length
  obtain⟨m,hm⟩ : ∃m,n.toNat=m+1:=⟨n.toNat-1,by lia⟩;have em:n.toNat-1=m:=by lia
  rw[em] at hz;refine(zjg (c0:=cnt k.toNat n.toNat) (c1:=k.toNat*cnt k.toNat m) B sS jE fv (λi hi=>⟨_,Kw (dj (l:=ks) (i:=i) (by lia))⟩) (by rw[em];exact hz) ?_ (λkvs L hL Dh ha hl=>?_)).imp λv s=>?_
  ·have:=O1 B sS jE n.toNat (k'+34-3*n.toNat) (tW k ks) [] fv M7 (λF d e=>by cases e) (by simp;lia);simpa using this
  ·refine Wv (m:=m) B ?_ fv (by lia) hL ha (by lia);rw[show 3*n.toNat+1+(k'+34-3*n.toNat)+2=3*m+4+(k'+33-3*m) by lia];exact O1 B sS jE m _
  rintro(⟨rfl,rK⟩|⟨hs,rfl,hl,Wx,hge⟩)
  ·refine⟨_,rfl,?_⟩;refine Y ?_;exact .inl ⟨rfl,λhs hh=>rK ⟨_,zfu h hd q hh⟩⟩
  ·refine⟨_,rfl,?_⟩;refine Y ?_;refine .inr ⟨hs,rfl,zkm h q hl Wx,λg hg j hj ha=>?_⟩;exact hge _ (zfu h hd q hg) j (by lia) ha
end
theorem zea{k':Nat}{k a b:Int}:W (call aq T (k'+1) true 36 [.d (.int k),.d (.int a),.d (.int b)]) [] λv s=>v=.d (.int (fH k a b)):=W.eq (a:=.d (.int (fH k a b))) (s':=[]) rfl rfl
theorem zdV{k':Nat}{n k d:Int}{ps:List (Int×Int)}{ks:List (Option Int)}(h:Web n ps)(hk:1<=k)(q:Kn n k ks)(hB:(n.toNat+1)*(k.toNat+1)^n.toNat+n.toNat<1000000000) :
  W (call aq T (k'+2) true 40 [.d (bI n ps),.d (aM k d),.d (.tup (ks.map cD))]) [] λv s=>(v=.d .non/\∀hs,¬sU n k d ps ks hs)\/∃hs,v=.d (.tup (hs.map .int))/\sU n k d ps ks hs/\∀g,sU n k d ps ks g->Ge g hs:=by
 refine W.call zoC rfl ?_;unfold Vo bI aM;have qz:(1000:Nat)<=sizeLine:=by decide
 have h1:=h.h1;have h8:=h.h8;have hlen:=h.len;have hql:=q.len;have hwk:oK=1000000000000:=rfl;refine Y ?_;have hB0:left' (k.toNat+1) n.toNat [0]<=(n.toNat+1)*(k.toNat+1)^n.toNat+n.toNat:=by
  unfold left';have:=K6 (n.toNat+1) (Nat.sub_le ((k.toNat+1)^n.toNat) (val (k.toNat+1) [0] n.toNat))
  lia
 refine WS.wh (λm J s=>(∃(a4 a5 a6:Option Xv),J=[some (.d (.tup [.int n,.tup (ps.map iJ)])),some (.d (.tup [.int k,.int d])),some (.d (.tup (ks.map cD))),some (.l 0),a4,a5,a6])/\((s=[.lst []]/\(∀hs,¬sU n k d ps ks hs)/\m=0)\/∃(r:List Int) (x:Int),s=[.lst (r.map .int++[.int x])]/\vH n k d ps ks r x/\m=left' (k.toNat+1) n.toNat (r++[x]))) (m:=left' (k.toNat+1) n.toNat [0]) (by lia) ⟨⟨_,_,_,rfl⟩,.inr ⟨[],0,rfl,Uz h hk,rfl⟩⟩ λm J s hI=>?_;obtain⟨⟨a4,a5,a6,rfl⟩,hI⟩:=hI;rcases hI with ⟨rfl,rK,rfl⟩|⟨r,x,rfl,St,rfl⟩
 ·refine Y ?_;refine⟨?_,λ_=>?_⟩
  ·intro hb;cases hb
  refine Y ?_;exact .inl ⟨rfl,rK⟩
 ·have g1:=St.len;have g2:=St.x0;have g3:=St.xk;have KD:∀z∈r,z<((k.toNat+1:Nat):Int):=λz hz=>by have:=St.lo z hz;lia
  have hlr:(((r.map D.int++[D.int x]).length:Nat):Int)=(r.length:Int)+1:=by simp
  obtain⟨c,ec⟩ : ∃c,ks[r.length]?=some c:=⟨_,dj (by lia)⟩;refine Y ?_;refine cV (NT (f:=not)) ?_;rw[jG (by simp)];refine Y ?_;refine⟨λ_=>?_,λhb=>by cases hb⟩;refine Y ?_;rw[hlr,show (r.length:Int)+1-1=(r.length:Int) by lia];refine cV Kf ?_;refine Y ?_;by_cases cA:x=k
  ·subst cA;refine WS.J9 (by simp) ?_;refine WS.cons (Kbi ?_);refine W.pop (n:=0) (xs:=r.map .int) (x:=.int x) ?_;refine Y ?_;refine⟨rfl,rfl,?_⟩;show WS _ [.lst (r.map D.int)] _;by_cases oG:r=[]
   ·subst oG;refine Y ?_;refine .inl ⟨_,0,rfl,?_,⟨_,_,_,rfl⟩,.inl ⟨rfl,λh g=>ziz St g (λi hi=>absurd hi (Nat.not_lt_zero _)),rfl⟩⟩;unfold left';have hv:=NQ (B:=x.toNat+1) (by lia) (r:=[x]) (n:=n.toNat) (λz hz=>by
     have e:z=x:=qG.mp hz
     lia) (by show 1<=_;lia)
    have h3:1<=(x.toNat+1)^(n.toNat - [x].length):=Nat.one_le_pow _ _ (by lia);have h2:(n.toNat+1)*1<=(n.toNat+1)*((x.toNat+1)^n.toNat-val (x.toNat+1) [x] n.toNat):=K6 _ (by lia);show 0<(n.toNat+1)*((x.toNat+1)^n.toNat-val (x.toNat+1) [x] n.toNat)+_
    lia
   ·obtain⟨r',y,rfl⟩ : ∃r' y,r=r'++[y]:=⟨r.dropLast,r.getLast oG,(List.dropLast_concat_getLast oG).symm⟩;have hy:=St.lo y (by simp);have tu:(r'.length:Int)+1<n:=by rw[dG] at g1;simpa using g1
    rw[qH];show WS _ ([.lst (r'.map D.int++[D.int y])]) _;refine Y ?_;refine cV (NT (f:=not)) ?_;rw[jG (by simp)];refine Y ?_;refine cV Kf ?_;refine Y ?_;refine tR.mk (a:=r'.length) ?_ ?_
    ·rw[dG,cg];exact Ug
    refine Y ?_;refine .inl ⟨_,left' (x.toNat+1) n.toNat (r'++[y+1]),rfl,?_,⟨_,_,_,rfl⟩,.inr ⟨r',y+1,?_,zkB h St,rfl⟩⟩
    ·exact zhT hy.1 (by lia) g2 (by lia) (λz hz=>KD z (Dm _ hz)) (by lia)
    ·have:(r'.map D.int++[D.int y]).set r'.length (.int (y+1))=r'.map .int++[.int (y+1)]:=by
      rw[List.set_append_right _ _ (by simp)];simp
     show [SO.lst ((r'.map D.int++[D.int y]).set r'.length (.int (y+1)))]=_;rw[this]
  ·refine WS.J_ (by simp;exact cA) ?_;refine Y ?_;refine nP (l:=ps) (f:=iJ) (λp=>if p.2=(r.length:Int) then some (.int (at' (r++[x]) p.1)) else none) (by lia) ?_ (λp hp=>?_) ?_
   ·refine Y ?_;exact⟨rfl,rfl⟩
   ·have ht:=h.tie p hp;obtain⟨a,b⟩:=p;dsimp only at ht;refine Y ?_;refine⟨rfl,λhb=>?_,λhb=>?_⟩
    ·have hb:b=(r.length:Int):=by simpa using hb
     refine Y ?_;refine cV (zoi (by lia) (by lia)) ?_;exact⟨rfl,_,rfl,by rw[if_pos hb]⟩
    ·rw[if_neg (by simpa using hb)]
   ·have ef:ps.filterMap (λp=>if p.2=(r.length:Int) then some (D.int (at' (r++[x]) p.1)) else none)=((ps.filter λp=>decide (p.2=(r.length:Int))).map λp=>at' (r++[x]) p.1).map .int:=by
     rw[zmw (f:=λ(p:Int×Int)=>D.int (at' (r++[x]) p.1)) (q:=λ(p:Int×Int)=>p.2=(r.length:Int)),Am];rfl
    rw[ef];have hfl:((ps.filter λp=>decide (p.2=(r.length:Int))).map λp=>at' (r++[x]) p.1).length<=ps.length:=by rw[cg];exact K1 _ _
    refine Y ?_;refine nP (l:=(ps.filter λp=>decide (p.2=(r.length:Int))).map λp=>at' (r++[x]) p.1) (f:=D.int) (λz=>if fH k z x<d then some (.int z) else none) (by lia) ?_ (λz hz=>?_) ?_
    ·refine Y ?_;exact⟨rfl,rfl⟩
    ·refine Y ?_;refine cV Kf ?_;refine Y ?_;refine W.c0 zea ?_;refine Y ?_;refine⟨rfl,λhb=>?_,λhb=>?_⟩
     ·refine Y ?_;exact⟨rfl,_,rfl,by rw[if_pos (ji hb)]⟩
     ·rw[if_neg (of_decide_eq_false hb)]
    ·refine KaQ ?_;refine WS.cons (T7 ?_);refine W.imp (P:=λv s1=>∃b,v=.d (.bl b)/\(b=true↔((∃p∈ps,p.2=(r.length:Int)/\fH k (at' (r++[x]) p.1) x<d)\/Og x c=true))/\s1=[.lst (r.map .int++[.int x])]) ?_ λv s1 hv=>?_
     ·refine Y ?_;refine cV (NT (f:=not)) ?_;by_cases cN:∃p∈ps,p.2=(r.length:Int)/\fH k (at' (r++[x]) p.1) x<d
      ·rw[jG (λz=>by
        obtain⟨p,hp,e1,e2⟩:=cN;have:=vG.mp z (at' (r++[x]) p.1) (pJ.mpr ⟨p,tX.mpr ⟨hp,jP e1⟩,rfl⟩);rw[if_pos e2] at this;cases this)]
       refine Y ?_;exact⟨true,rfl,⟨λ_=>.inl cN,λ_=>rfl⟩,rfl⟩
      ·rw[jP (vG.mpr λz hz=>by
        obtain⟨p,hp,rfl⟩:=pJ.mp hz;obtain⟨Ih,hp2⟩:=tX.mp hp;rw[if_neg λq=>cN ⟨p,Ih,ji hp2,q⟩])]
       refine Y ?_;refine cV (zk1 (by lia) (zoy (by rw[o_];exact ec))) ?_;refine Y ?_;refine cV Kf ?_;refine Y ?_;refine cV znZ ?_;exact⟨_,rfl,⟨λz=>.inr z,λz=>z.resolve_left cN⟩,rfl⟩
     ·obtain⟨b,rfl,hb,rfl⟩:=hv;cases b with
      |true=>
       have hn2:=(hb.mp rfl).imp id λz=>by obtain⟨i,e,q⟩:=zZ.mp z;exact(⟨i,by rw[ec,e],q⟩ : ∃i,ks[r.length]?=some (some i)/\i≠x)
       have St2:=zi6 h St cA hn2;clear hb hn2;refine Y ?_;refine cV Kf ?_;refine Y ?_;refine tR.mk (a:=r.length) ?_ ?_
       ·rw[dG,cg];exact Ug
       refine Y ?_;refine .inl ⟨_,left' (k.toNat+1) n.toNat (r++[x+1]),rfl,?_,⟨_,_,_,rfl⟩,.inr ⟨r,x+1,?_,St2,rfl⟩⟩
       ·exact zih g2 (by lia) KD (by lia)
       ·have:(r.map D.int++[D.int x]).set r.length (.int (x+1))=r.map .int++[.int (x+1)]:=by
         rw[List.set_append_right _ _ (by simp)];simp
        show [SO.lst ((r.map D.int++[D.int x]).set r.length (.int (x+1)))]=_;rw[this]
      |false=>
       have hN:∀p∈ps,p.2=(r.length:Int)->d<=fH k (at' (r++[x]) p.1) x:=λp hp e=>by
        by_cases z:fH k (at' (r++[x]) p.1) x<d
        ·exact absurd (hb.mpr (.inl ⟨p,hp,e,z⟩)) (by decide)
        ·lia
       have hK:∀i,ks[r.length]?=some (some i)->i=x:=λi e=>by
        by_cases z:i=x
        ·exact z
        ·exact absurd (hb.mpr (.inr (zZ.mpr ⟨i,by rw[ec] at e;exact cJ e,z⟩))) (by decide)
       refine Y ?_;rw[hlr];by_cases cF:(r.length:Int)+1=n
       ·refine WS.J9 (by simp;exact cF) ?_;refine Y ?_;refine .inr ⟨_,rfl,.inr ⟨r++[x],by rw[qH];rfl,zil h St cA cF hql hN hK,λg hg=>St.ge g hg⟩⟩
       ·refine WS.J_ (by simp;exact cF) ?_;refine Y ?_;refine⟨by rw[dG,cg];simp;lia,?_⟩;refine Y ?_;refine .inl ⟨_,left' (k.toNat+1) n.toNat (r++[x]++[0]),rfl,zgb (by rw[dG];simp;lia),⟨_,_,_,rfl⟩,.inr ⟨r++[x],0,?_,zic h St hk cA cF hN hK,rfl⟩⟩;rw[qH];rfl
def nD(o:SO):Prop:=∃a b:Int,o=.lst [.int a,.int b]/\0<=a/\(b=0\/b=1)
theorem KH{k:Nat}{o:SO}{m:Int}(ho:nD o)(hm:0<m)(hm2:m<1073741824):W (call aq T (k+1) true 30 [.l 0,.d (.int m)]) [o] λv s=>∃d o',v=.d d/\s=[o']/\(∃r:Int,d=.int r/\0<=r/\r<m)/\nD o':=by
 obtain⟨a,b,rfl,ha,hb⟩:=ho;refine W.call zpa rfl ?_;unfold Vh;rcases hb with rfl|rfl
 ·refine Y ?_;exact⟨_,_,rfl,rfl,⟨_,rfl,Dz _ (by lia),Gb _ hm⟩,⟨_,_,rfl,Dz _ (by decide),.inl rfl⟩⟩
 ·refine Y ?_;exact⟨_,_,rfl,rfl,⟨_,rfl,Dz _ (by lia),Gb _ hm⟩,⟨_,_,rfl,Int.ediv_nonneg ha (by lia),.inr rfl⟩⟩
theorem zn0{k:Nat}{n:Int}:W (call aq T (k+1) true 29 [.d (.int n)]) [] λv s=>∃i o,v=.l i/\s[i]?=some o/\nD o:=by
 refine W.call zoF rfl ?_;unfold Vg;refine Y ?_;refine⟨0,_,rfl,rfl,⟨_,_,rfl,?_,?_⟩⟩
 ·split<;>lia
 ·have:∀c:Bool,(if c=true then (1:Int) else 0)=0\/(if c=true then (1:Int) else 0)=1:=by intro c;cases c<;>simp
  exact this _
theorem vI{k:Nat}{o:SO}{m:Int}{P:Xv->S->Prop}(ho:nD o)(hm:0<m)(hm2:m<1073741824)(h:∀(r:Nat) o',(r:Int)<m->nD o'->P (.d (.int r)) [o']):W (bZ (call aq T (k+1) true 30) [.l 0,.d (.int m)]) [o] P:=by
 refine T4 (n:=0) (o:=o) rfl rfl ((KH ho hm hm2).imp λv s=>?_);rintro⟨d,o',rfl,rfl,⟨r,rfl,h0,h1⟩,hp⟩;obtain⟨n,rfl⟩:=Ad h0;exact⟨_,_,rfl,rfl,h n o' h1 hp⟩
theorem zle{k:Nat}{ns:List Int}:W (call aq T (k+1) true 28 [.d (.fl (ns.map D.int)),.d (.int 0)]) [] λv _=>∃n,v=.d (.int n):=by
 refine W.call zo7 rfl ?_;unfold Vf;cases ns with
 |nil=>
  refine Y ?_;exact⟨_,rfl⟩
 |cons n r=>
  refine Y ?_;refine WS.ite (λ_=>?_) (λ_=>?_)
  ·refine Y ?_;refine cV (Fq (i:=0) (x:=.int n) rfl) ?_;refine Y ?_;exact⟨_,rfl⟩
  ·refine Y ?_;exact⟨_,rfl⟩
noncomputable def sV:List D:=[.non,.bl true,.bl false,.int (-1),.str "1",.str "",.tup [],.fl [],.tup [.int 0],.fl [.int 0],.fd [.str "a"] [.int 1],.tup [.int 0,.int 1],.int 1000000000000000000000000000000,.tup [.int 0,.tup []],.tup [.str "ab"],.tup [.int 1,.tup [.tup [.int 0,.int 0]]]]
theorem zn9{k:Nat}{o:SO}(ho:nD o):W (call aq T (k+2) true 32 [.l 0]) [o] λv s=>∃d o',v=.d d/\s=[o']/\d∈sV/\nD o':=by
 refine W.call zoR rfl ?_;unfold Vi;refine Y ?_;refine vI ho (by decide) (by decide) λr o' hr hp=>?_;refine Y ?_;have zA:r<sV.length:=by show r<16;lia
 refine cV (Fq (x:=sV[r]) (dj (l:=sV) zA)) ?_;refine Y ?_;exact⟨_,_,rfl,rfl,Lg _,hp⟩
theorem zif{k:Nat}{o:SO}{n:Int}(ho:nD o)(h1:1<=n)(h8:n<=8):W (call aq T (k+2) true 34 [.l 0,.d (.int n)]) [o] λv s=>∃ps o',v=.d (bI n ps)/\s=[o']/\Web n ps/\nD o':=by
 refine W.call zoN rfl ?_;unfold Vj;have hs:(100:Nat)<=sizeLine:=by decide
 refine Y ?_;refine vI ho (by decide) (by decide) λr o' hr hp=>?_;refine Y ?_;have zA:r<3:=by lia
 refine cV (Fq (x:=.int (([2,4,6]:List Int)[r]'zA)) ?_) ?_
 ·revert zA;revert r;intro r _ zA;exact match r,zA with
  |0,_=>rfl|1,_=>rfl|2,_=>rfl
  |n+3,h=>absurd h (by lia)
 generalize ([2,4,6]:List Int)[r]=often;refine Y ?_;refine⟨by rw[lV (by lia) (by lia),lV (by lia) (by lia)];rfl,?_⟩;refine yq (λ(i:Nat) J s=>∃(ps:List (Int×Int)) (a:Option Xv) (o':SO),J=[some (.l 0),some (.d (.int n)),some (.d (.int often)),some (.d (.fl (ps.map iJ))),a]/\s=[o']/\nD o'/\(∀p∈ps,0<=p.1/\p.1<(i:Int)/\p.1<p.2/\p.2<n)/\ps.Pairwise lx/\ps.length<=7*i)
  ⟨[],_,_,rfl,rfl,hp,by simp,by simp,by simp⟩ (λi x J s e hI=>?_) (λJ s hI=>?_)
 ·obtain⟨ps,a,o',rfl,rfl,hp,ht,Di,hlen⟩:=hI;obtain⟨rfl,hi⟩:=zld e;have hi8:i<8:=by lia
  refine Y ?_;refine Ua (c:=jB (0+(i:Int)+1) n) (λ(j:Nat) acc s=>∃(es:List Int) (o':SO),acc=es.map (λe=>iJ (0+(i:Int),e))/\es.Pairwise (·<·)/\(∀e∈es,(i:Int)<e/\e<(i:Int)+1+j)/\s=[o']/\nD o') ?_ (λj x acc s e hJ=>?_) (λacc s hJ=>?_)
  ·refine Y ?_;refine⟨by rw[lV (by lia) (by lia),lV (by lia) (by lia)];rfl,?_⟩;exact⟨rfl,[],_,rfl,by simp,by simp,rfl,hp⟩
  ·obtain⟨es,o',rfl,FN,z_,rfl,hp⟩:=hJ;obtain⟨rfl,hj⟩:=zld e;have O5:(es.length:Int)<=(i:Int)+1+j-((i:Int)+1):=Ud FN (λe he=>by have:=z_ e he;lia) (by lia);refine Y ?_;refine vI hp (by decide) (by decide) λr o' hr hp=>?_;refine Y ?_;refine⟨λhb=>?_,λhb=>?_⟩
   ·refine Y ?_;refine⟨_,rfl,by rw[cg];lia,es++[0+(i:Int)+1+j],o',?_,?_,?_,rfl,hp⟩
    ·rw[qH];rfl
    ·rw[List.pairwise_append];refine⟨FN,by simp,λa ha b hb=>?_⟩;simp at hb;have:=z_ a ha
     lia
    ·intro e he;rcases iR.mp he with he|he
     ·have:=z_ e he;lia
     ·simp at he;lia
   ·exact⟨es,o',rfl,FN,λe he=>by have:=z_ e he;lia,rfl,hp⟩
  ·obtain⟨es,o',rfl,FN,z_,rfl,hp⟩:=hJ;rw[ziG] at z_;have O5:(es.length:Int)<=n-((i:Int)+1):=Ud FN (λe he=>by have:=z_ e he;lia) (by lia);refine Y ?_;refine J8 (T5 ?_) ?_
   ·rw[cg,cg];lia
   refine Y ?_;refine⟨_,rfl,ps++es.map (λe=>(0+(i:Int),e)),some (.d (.int (0+(i:Int)))),o',?_,rfl,hp,?_,?_,?_⟩
   ·rw[qH,Am];rfl
   ·intro p hp;rcases iR.mp hp with hp|hp
    ·have:=ht p hp;lia
    ·obtain⟨e,he,rfl⟩:=pJ.mp hp;have:=z_ e he;dsimp only
     lia
   ·rw[List.pairwise_append,List.pairwise_map];refine⟨Di,FN.imp λh=>.inr ⟨rfl,h⟩,λp hp q hq=>?_⟩;obtain⟨e,he,rfl⟩:=pJ.mp hq;have:=ht p hp;exact .inl (by dsimp only;lia)
   ·rw[dG,cg];lia
 ·obtain⟨ps,a,o',rfl,rfl,hp,ht,Di,hlen⟩:=hI;rw[ziG] at ht hlen;refine Y ?_;refine⟨ps,o',rfl,rfl,⟨h1,h8,λp hp=>?_,Di,by lia⟩,hp⟩;have:=ht p hp
  lia
theorem zhI{k:Nat}{c:Bool}{i:Int}:W (call aq T (k+1) c 31 [.d (.int i)]) [] λv s=>v=.d (.bl true):=W.eq (a:=.d (.bl true)) (s':=[]) rfl rfl
theorem Wy{xs:List D}{r:Nat}(hr:r<xs.length):∃x,prim .ix [.fl xs,.int r]=some (.dat x)/\x∈xs:=⟨xs[r],Fq (dj hr),Lg _⟩
theorem zgI{xs:List D}{z:Int}(h0:0<=z)(hz:z<xs.length):∃x,prim .ix [.fl xs,.int z]=some (.dat x)/\x∈xs:=by
 obtain⟨r,rfl⟩:=Ad h0;exact Wy (by lia)
theorem ziN{xs:List Int}{r:Nat}{q:Int->Prop}(hb:∀z∈xs,q z)(hr:r<xs.length):∃z:Int,prim .ix [.fl (xs.map .int),.int r]=some (.dat (.int z))/\q z:=
 ⟨xs[r],Fq (by rw[iW,dj hr];rfl),hb _ (Lg _)⟩
def vJ(d:D):Prop:=zX d=true/\∀xs,d=.tup xs->xs.length<=100
theorem Aa{xs:List D}(h:∀x∈xs,lX x=true)(hl:xs.length<=100):vJ (.tup xs):=⟨iY.mpr h,λys e=>by cases e;exact hl⟩
theorem zjJ{k':Nat}{o:SO}{row:List D}{kk:Int}(ho:nD o)(hl:row.length<=8)(mi:∀y∈row,lX y=true)(hk:1<=kk)(hk2:kk<=1000):W (call aq T (k'+2) true 41 [.l 0,.d (.tup row),.d (.int kk)]) [o] λv s=>∃(d:D) (o':SO),v=.d d/\s=[o']/\vJ d/\nD o':=by
 refine W.call zoG rfl ?_;unfold Vp;have qz:(100:Nat)<=sizeLine:=by decide
 refine Y ?_;refine vI ho (by lia) (by lia) λr o1 hr hp=>?_;refine Y ?_;refine vI hp (by lia) (by lia) λr2 o2 hr2 hp=>?_;refine Y ?_;refine vI hp (by decide) (by decide) λr3 o3 hr3 hp=>?_;refine Y ?_;obtain⟨x,ex,hx⟩:=Wy (xs:=[.bl true,.bl false,.non,.int (-1),.int kk,.str "0",.tup [.int 0],.int r2]) (r:=r3) (by show r3<8;lia);have hxo:lX x=true:=by
  simp only[gY,Gh,or_false] at hx;rcases hx with rfl|rfl|rfl|rfl|rfl|rfl|rfl|rfl
  all_goals rfl
 refine cV ex ?_;clear ex hx;have l1:=zgt (xs:=row) (lo:=none) (hi:=some (r:Int));have l2:=zgt (xs:=row) (lo:=some ((r:Int)+1)) (hi:=none);have m1:∀y∈cut row none (some (r:Int)),lX y=true:=λy hy=>mi y (zgJ hy);have m2:∀y∈cut row (some ((r:Int)+1)) none,lX y=true:=λy hy=>mi y (zgJ hy);refine Y ?_;refine cV (Kg (by show _+1<=_;lia)) ?_;refine Y ?_;refine cV (Kg (by rw[dG];show _+1+_<=_;lia)) ?_;refine Y ?_;refine cV (Kg (by lia)) ?_;refine Y ?_;refine cV (Kg (by show _+1<=_;lia)) ?_;refine Y ?_;refine vI hp (by decide) (by decide) λr4 o4 hr4 hp=>?_;refine Y ?_;obtain⟨z,ez,hz⟩:=ziN (xs:=[0,0,0,0,1,2,3,4,5]) (r:=r4) (q:=λz=>0<=z/\z<6) (by decide) (by show r4<9;lia);refine cV ez ?_;refine Y ?_;obtain⟨y,ey,hy⟩:=zgI (xs:=[.tup (cut row none (some (r:Int))++[x]++cut row (some ((r:Int)+1)) none),.tup (cut row none (some (r:Int))++cut row (some ((r:Int)+1)) none),.tup (row++[.int 0]),.fl row,.non,.tup [.tup row]]) hz.1 (by show z<6;exact hz.2);refine cV ey ?_;refine Y ?_;refine⟨_,_,rfl,rfl,?_,hp⟩;simp only[gY,Gh,or_false] at hy;rcases hy with rfl|rfl|rfl|rfl|rfl|rfl
 ·refine Aa (λy hy=>?_) (by rw[dG,dG];show _+1+_<=_;lia);rcases iR.mp hy with hy|hy
  ·rcases iR.mp hy with hy|hy
   ·exact m1 y hy
   ·have:y=x:=by simpa using hy
    rw[this];exact hxo
  ·exact m2 y hy
 ·refine Aa (λy hy=>?_) (by rw[dG];lia);rcases iR.mp hy with hy|hy
  ·exact m1 y hy
  ·exact m2 y hy
 ·refine Aa (λy hy=>?_) (by rw[dG];show _+1<=_;lia);rcases iR.mp hy with hy|hy
  ·exact mi y hy
  ·have:y=.int 0:=by simpa using hy
   rw[this];rfl
 ·exact⟨rfl,λxs e=>by cases e⟩
 ·exact⟨rfl,λxs e=>by cases e⟩
 ·exact Aa (λy hy=>by rw[show y=.tup row by simpa using hy];rfl) (by simp)
theorem zlq{x:D}(hx:x∈sV):vJ x:=by
 simp only[sV,gY,Gh,or_false] at hx;rcases hx with rfl|rfl|rfl|rfl|rfl|rfl|rfl|rfl|rfl|rfl|rfl|rfl|rfl|rfl|rfl|rfl
 all_goals exact⟨rfl,λxs e=>by cases e<;>decide⟩
theorem zhK{k':Nat}{hs:List Int}(hl:hs.length<=100):W (call aq T (k'+2) true 42 [.d (.tup (hs.map .int)),.d (.tup (hs.map .int))]) [] λv s=>v=.d (.bl true):=by
 refine W.call Vw rfl ?_;unfold Ol;have qz:(100:Nat)<=sizeLine:=by decide
 refine Y ?_;refine cV (zlA (f:=id)) ?_;rw[jP rfl];refine Y ?_;refine nP (l:=hs) (f:=D.int) (λ_=>some (.bl true)) (by lia) ?_ (λx hx=>?_) ?_
 ·refine Y ?_;exact⟨rfl,rfl⟩
 ·refine Y ?_;refine⟨rfl,λ_=>?_,λhb=>by cases hb⟩;refine Y ?_;refine W.c0 zhI ?_;exact⟨rfl,_,rfl,rfl⟩
 ·refine Y ?_;refine cV (Ub ?_) ?_
  ·intro x hx;obtain⟨_,_,e⟩:=Ds.mp hx;exact(cJ e).symm
  exact Y trivial
theorem zhE{k':Nat}:W (call aq T (k'+2) true 42 [.d .non,.d .non]) [] λv s=>v=.d (.bl true):=by
 refine W.call Vw rfl ?_;unfold Ol;refine Y ?_;rfl
section
variable {n k d:Int}{ps:List (Int×Int)}{x:D}
theorem zlz{k':Nat}{w r x e:D}(h:W (call aq T k' true 21 [.d w,.d r,.d x]) [] λv s=>v=.d e):W (call aq T (k'+1) true 43 [.d w,.d r,.d x]) [] λv s=>v=.d e:=by
 refine W.call Vx rfl ?_;unfold Om;refine WS.cons (Kbu ?_);refine Y ?_;refine W.c0 h ?_;refine Y ?_;exact⟨⟨_,rfl⟩,rfl⟩
theorem zlQ{k':Nat}{w r x:D}(h:WR (call aq T (k'+1) true 21 [.d w,.d r,.d x]) [] 2 []):W (call aq T (k'+2) true 43 [.d w,.d r,.d x]) [] λv s=>v=.d (.str "hues"):=by
 refine W.call Vx rfl ?_;unfold Om;refine WS.cons (Kbv ?_);refine Nv (Kbh (c:=2) (fs:=[]) ?_ λs'=>⟨⟨_,_,_,rfl⟩,_,_,_,rfl,rfl,?_⟩)
 ·refine Ka7 ?_;refine Y ?_;exact WR.dF rfl h
 ·exact⟨.rt (.d (.str "hues")),s',rfl,⟨_,rfl⟩,rfl⟩
theorem zjz{k':Nat}(h:Web n ps)(hr:1<=d/\d<=k/\k<=24)(hx:vJ x)(hz:cnt k.toNat n.toNat+k.toNat*cnt k.toNat (n.toNat-1)+tot k.toNat (n.toNat-1)<sizeLine)(hB:(n.toNat+1)*(k.toNat+1)^n.toNat+n.toNat<1000000000) :
  W (call aq T (k'+43) true 44 [.d (bI n ps),.d (aM k d),.d x]) [] λv s=>v=.d (.bl true):=by
 have h8:=h.h8;have O4:∀xs,x=.tup xs->xs.length<=200:=λxs e=>by have:=hx.2 xs e;lia
 refine W.call zo4 rfl ?_;unfold Vq;refine Y ?_;refine W.c0 (zdE hx.1 O4) ?_;cases hb:tV n k x
 ·refine Y ?_;refine W.c0 (zlQ (k':=k'+40) (zkn (k':=k'+33) h hr hx.1 O4 hb)) ?_;exact Y rfl
 ·obtain⟨ks,rfl,q⟩:=zhg hb;refine Y ?_;refine W.dF rfl ((zdV (k':=k'+40) (d:=d) h (by lia) q hB).imp λv s1 hv=>?_);obtain⟨fd,rfl,hf,ht⟩ : ∃fd,v=.d fd/\W (call aq T (k'+1+40) true 21 [.d (bI n ps),.d (aM k d),.d (.tup (ks.map cD))]) [] (λv s=>v=.d fd)/\W (call aq T (k'+42) true 42 [.d fd,.d fd]) [] λv s=>v=.d (.bl true):=by
   rcases hv with ⟨rfl,rK⟩|⟨hs,rfl,hh,hg⟩
   ·refine⟨_,rfl,(zfH h hr.1 hr.2.1 hr.2.2 q hz).imp λv s hv=>?_,zhE⟩;rcases hv with ⟨rfl,_⟩|⟨hs,rfl,hh,hg⟩
    ·rfl
    ·exact absurd hh (rK hs)
   ·refine⟨_,rfl,(zfH h hr.1 hr.2.1 hr.2.2 q hz).imp λv s hv=>?_,zhK (by have:=hh.hu.len;lia)⟩;rcases hv with ⟨rfl,rK⟩|⟨v7,rfl,hh2,hg2⟩
    ·exact absurd hh (rK hs)
    ·rw[zjC (by have:=hh.hu.len;have:=hh2.hu.len;lia) (hg _ hh2) (hg2 _ hh)]
  clear hv;refine⟨_,rfl,?_⟩;refine Y ?_;refine⟨rfl,?_⟩;refine yq (λ_ J s=>∃a:Option Xv,J=[some (.d (bI n ps)),some (.d (aM k d)),some (.d (.tup (ks.map cD))),some (.d fd),a]) ⟨_,rfl⟩ (λi x J s hx qC=>?_) (λJ s qC=>?_)
  ·obtain⟨a,rfl⟩:=qC;refine Y ?_;refine W.c0 (zlz hf) ?_;refine Y ?_;refine W.c0 ht ?_;refine Y ?_;exact⟨_,rfl,_,rfl⟩
  ·obtain⟨a,rfl⟩:=qC;exact Y trivial
end
theorem zi4{k':Nat}{o:SO}(ho:nD o):W (call aq T (k'+2) true 35 [.l 0]) [o] λv s=>∃(k d:Int) (o':SO),v=.d (aM k d)/\s=[o']/\(1<=d/\d<=k/\k<=7)/\nD o':=by
 refine W.call zo3 rfl ?_;unfold Vk;refine Y ?_;refine vI ho (by decide) (by decide) λr o' hr hp=>?_;refine Y ?_;obtain⟨x,ex,hx⟩:=Wy (xs:=[aM 2 1,aM 3 1,aM 5 2,aM 4 1,aM 4 2,aM 6 2,aM 5 1,aM 7 3,aM 3 2,aM 6 3]) (r:=r) (by show r<10;lia);refine cV ex ?_;refine Y ?_;simp only[gY,Gh,or_false] at hx;rcases hx with rfl|rfl|rfl|rfl|rfl|rfl|rfl|rfl|rfl|rfl
 all_goals exact⟨_,_,_,rfl,rfl,by decide,hp⟩
theorem zhw{k':Nat}{o:SO}{n k d:Int}{ps:List (Int×Int)}(ho:nD o)(h1:1<=n)(h8:n<=8)(hk:1<=k/\k<=24):W (call aq T (k'+2) true 38 [.l 0,.d (bI n ps),.d (aM k d)]) [o] λv s=>∃(ks:List (Option Int)) (o':SO),v=.d (.tup (ks.map cD))/\s=[o']/\Kn n k ks/\nD o':=by
 refine W.call zo8 rfl ?_;unfold Vm bI aM;have qz:(100:Nat)<=sizeLine:=by decide
 refine Y ?_;refine vI ho (by decide) (by decide) λr o' hr hp=>?_;refine Y ?_;obtain⟨z,ez,_⟩:=ziN (xs:=[1,2,4]) (r:=r) (q:=λz=>True) (by decide) (by show r<3;lia);refine cV ez ?_;refine Y ?_;refine Ua (c:=(List.range (n-0).toNat).map λ(j:Nat)=>.int (0+j)) (λi acc s'=>∃(o:SO) (ks:List (Option Int)),s'=[o]/\nD o/\acc=ks.map cD/\ks.length=i/\∀x,some x∈ks->0<=x/\x<k) ?_ (λi x acc s' e hI=>?_) (λacc s' hI=>?_)
 ·refine Y ?_;refine⟨by rw[lV (by lia) (by lia),lV (by lia) (by lia)];rfl,?_⟩;exact⟨rfl,o',[],rfl,hp,rfl,rfl,λx hx=>by cases hx⟩
 ·obtain⟨o,ks,rfl,hp,rfl,hl,yU⟩:=hI;have hi:=(dN.mp e).1;rw[cg,pI] at hi;refine Y ?_;refine⟨λ_=>?_,λhb=>by cases hb⟩;refine Y ?_;refine vI hp (by decide) (by decide) λr2 o2 hr2 hp=>?_;refine Y ?_;refine W.ite (λc=>?_) (λc=>?_)
  ·refine Y ?_;refine vI hp (by lia) (by lia) λr3 o3 hr3 hp=>?_;refine⟨_,rfl,by rw[cg];lia,o3,ks++[some (r3:Int)],rfl,hp,by rw[qH];rfl,by simp[hl],λx hx=>?_⟩;rcases iR.mp hx with hx|hx
   ·exact yU x hx
   ·have:x=r3:=by simpa using hx
    lia
  ·refine Y ?_;refine⟨_,rfl,by rw[cg];lia,o2,ks++[none],rfl,hp,by rw[qH];rfl,by simp[hl],λx hx=>?_⟩;rcases iR.mp hx with hx|hx
   ·exact yU x hx
   ·simp at hx
 ·obtain⟨o,ks,rfl,hp,rfl,hl,yU⟩:=hI;rw[cg,pI] at hl;refine Y ?_;exact⟨ks,o,rfl,rfl,⟨by lia,yU⟩,hp⟩
noncomputable def eU(r:List Int):D:=.tup (r.map .int)
def iM(k:Int)(i:Nat)(rows:List (List Int)):Prop:=∀r∈rows,r.length=i/\∀x∈r,0<=x/\x<k
section
variable {n k d:Int}{ps:List (Int×Int)}
theorem zlZ{k' i:Nat}{s0:S}{rows:List (List Int)}{r:List Int}{a2 a6 a7:Option Xv}{m:Nat}(h:Web n ps)(hk:1<=k/\k<=24)(hi:(i:Int)<n)(hr:r.length=i/\∀x∈r,0<=x/\x<k)(hR:iM k (i+1) rows)(hm:rows.length+24<=m)(hm2:m<=sizeLine){Q:Out->S->Prop}
  (q:∀aW a6 a7,iM k (i+1) aW->aW.length<=rows.length+k.toNat->Q (.nx [some (.d (bI n ps)),some (.d (aM k d)),a2,some (.d (.int i)),some (.l s0.length),some (.d (eU r)),a6,a7]) (s0++[.lst (aW.map eU)])) :
  WS (exs aq true (λc=>Mi.call aq T (k'+1) c) (.cons (.asg (.nm 6) (.comp true (Ei (.v 2) (.v 0)) [0,1] (.seq (Ei (.v 0) (Ci 1))) [5,3] 2 (.yes (.pr true .eq (Eb (.v 1) (.v 3)))))) (.cons (.fr (.nm 7) (.rg (Ci 0) (Ei (.v 1) (Ci 0))) (.cons (.iff (.pr true .eq (Eb (.comp true (.v 0) [0] (.seq (.v 6)) [1,7] 1 (.yes (.pr true .lt (Eb (.call 36 (Ec (Ei (.v 1) (Ci 0)) (.v 0) (.v 2))) (Ei (.v 1) (Ci 1)))))) (.lst true .nil))) (.cons (.ex (.push (.v 4) (.pr true .add (Eb (.v 5) (.tup (Ea (.v 7))))))) .nil) .nil) .nil)) .nil)) [some (.d (bI n ps)),some (.d (aM k d)),a2,some (.d (.int i)),some (.l s0.length),some (.d (eU r)),a6,a7]) (s0++[.lst (rows.map eU)]) Q:=by
 have qz:(1000:Nat)<=sizeLine:=by decide
 have hpl:=h.len;have h8:=h.h8;have ew:bI n ps=.tup [.int n,.tup (ps.map iJ)]:=rfl;have er:aM k d=.tup [.int k,.int d]:=rfl;have hrl:=hr.1;unfold eU;refine Y ?_;refine nP (l:=ps) (f:=iJ) (λp=>if p.2=(i:Int) then some (.int (at' r p.1)) else none) (by lia) ?_ (λp hp=>?_) ?_
 ·refine Y ?_;exact⟨rfl,rfl⟩
 ·have ht:=h.tie p hp;obtain⟨a,b⟩:=p;dsimp only at ht;refine Y ?_;refine⟨rfl,λhb=>?_,λhb=>?_⟩
  ·have hb:b=(i:Int):=by simpa using hb
   refine Y ?_;refine cV (zng (by lia) (by lia)) ?_;exact⟨rfl,_,rfl,by rw[if_pos hb]⟩
  ·rw[if_neg (by simpa using hb)]
 ·have ef:ps.filterMap (λp=>if p.2=(i:Int) then some (D.int (at' r p.1)) else none)=((ps.filter λp=>decide (p.2=(i:Int))).map λp=>at' r p.1).map .int:=by
   rw[zmw (f:=λ(p:Int×Int)=>D.int (at' r p.1)) (q:=λ(p:Int×Int)=>p.2=(i:Int)),Am];rfl
  rw[ef];have hfl:((ps.filter λp=>decide (p.2=(i:Int))).map λp=>at' r p.1).length<=ps.length:=by rw[cg];exact K1 _ _
  generalize ((ps.filter λp=>decide (p.2=(i:Int))).map λp=>at' r p.1)=near at hfl;refine Y ?_;refine⟨by rw[lV (by lia) (by lia),lV (by lia) (by lia)];rfl,?_⟩;refine yq (c:=(List.range (k-0).toNat).map λ(j:Nat)=>.int (0+j)) (λj J s=>∃(aW:List (List Int)) (a7:Option Xv),s=s0++[.lst (aW.map eU)]/\J=[some (.d (bI n ps)),some (.d (aM k d)),a2,some (.d (.int i)),some (.l s0.length),some (.d (.tup (r.map .int))),some (.d (.fl (near.map .int))),a7]/\iM k (i+1) aW/\aW.length<=rows.length+j) ⟨rows,_,rfl,rfl,hR,by lia⟩ (λj z J s e hI=>?_) (λJ s hI=>?_)
  ·obtain⟨aW,a7,rfl,rfl,qD,qT⟩:=hI;obtain⟨hj,e⟩:=dN.mp e;rw[List.getElem_map,K7] at e;rw[cg,pI] at hj;subst e;refine Y ?_;refine nP (l:=near) (f:=D.int) (λy=>if fH k y (0+j)<d then some (.int y) else none) (by lia) ?_ (λy hy=>?_) ?_
   ·refine Y ?_;exact⟨rfl,rfl⟩
   ·refine Y ?_;refine W.c0 zea ?_;refine Y ?_;refine⟨rfl,λhb=>?_,λhb=>?_⟩
    ·refine Y ?_;exact⟨rfl,_,rfl,by rw[if_pos (ji hb)]⟩
    ·rw[if_neg (of_decide_eq_false hb)]
   ·refine Y ?_;refine cV (NT (f:=id)) ?_;refine Y ?_;refine WS.ite (λc=>?_) (λc=>?_)
    ·refine Y ?_;refine cV (Kg (by rw[cg];show _+1<=_;lia)) ?_;refine Y ?_;refine⟨by rw[cg];lia,?_⟩;rw[zhp];refine Y ?_;refine⟨_,rfl,aW++[r++[0+(j:Int)]],_,?_,rfl,?_,by simp;lia⟩
     ·rw[qH];unfold eU;simp only[iU,qH,List.map_nil]
     ·intro y hy;rcases iR.mp hy with hy|hy
      ·exact qD y hy
      ·rw[qG.mp hy];refine⟨by simp[hrl],λx hx=>?_⟩;rcases iR.mp hx with hx|hx
       ·exact hr.2 x hx
       ·have:x=0+(j:Int):=by simpa using hx
        lia
    ·refine Y ?_;exact⟨_,rfl,aW,_,rfl,rfl,qD,by lia⟩
  ·obtain⟨aW,a7,rfl,rfl,qD,qT⟩:=hI;rw[cg,pI] at qT;refine Y ?_;exact q aW _ _ qD (by lia)
theorem zoo{k':Nat}(h:Web n ps)(hk:1<=k/\k<=7)(hn5:n<=5):W (call aq T (k'+2) true 37 [.d (bI n ps),.d (aM k d)]) [] λv s=>∃j rows,v=.l j/\s[j]?=some (.lst (rows.map eU))/\iM k n.toNat rows/\rows.length<=16807:=by
 have qz:(100000:Nat)<=sizeLine:=by decide
 have h1:=h.h1;have p7:∀i,i<=5->7^i<=16807:=by decide
 have ew:bI n ps=.tup [.int n,.tup (ps.map iJ)]:=rfl;refine W.call zo6 rfl ?_;unfold Vl;refine Y ?_;refine⟨by rw[lV (by lia) (by lia),lV (by lia) (by lia)];rfl,?_⟩;refine yq (c:=(List.range (n-0).toNat).map λ(j:Nat)=>.int (0+j)) (λi J s=>∃(rows:List (List Int)) (a2 a3 a4 a5 a6 a7:Option Xv),J=[some (.d (bI n ps)),some (.d (aM k d)),a2,a3,a4,a5,a6,a7]/\iM k i rows/\rows.length<=7^i/\((i=0/\a2=some (.d (.fl [.tup []]))/\rows=[[]])\/∃j,1<=i/\a2=some (.l j)/\s[j]?=some (.lst (rows.map eU)))) ⟨[[]],_,_,_,_,_,_,rfl,λr hr=>by rw[qG.mp hr];exact⟨rfl,λx hx=>by cases hx⟩,by simp,.inl ⟨rfl,rfl,rfl⟩⟩ (λi z J s e hI=>?_) (λJ s hI=>?_)
 ·obtain⟨rows,a2,a3,a4,a5,a6,a7,rfl,hR,hlen,yC⟩:=hI;obtain⟨hi,e⟩:=dN.mp e;rw[List.getElem_map,K7] at e;rw[cg,pI] at hi;subst e;have ez:(0:Int)+(i:Nat)=(i:Int):=by lia
  rw[ez];have hb7:=p7 (i+1) (by lia);have e7:7^(i+1)=7^i*7:=Nat.pow_succ ..;have hmul:∀t,t<=rows.length->t*k.toNat<=7^(i+1):=λt ht=>by rw[e7];exact DG (by lia) (by lia)
  refine Ny (Nz ?_);refine WS.cons ?_;refine Y ?_;have key:∀(t:Nat) (a5 a6 a7:Option Xv) (aW:List (List Int)) (r:List Int),rows[t]?=some r->iM k (i+1) aW->aW.length<=t*k.toNat->∀(a2:Option Xv) (P:Vs->S->Prop),(∀iQ a5 a6 a7,iM k (i+1) iQ->iQ.length<=(t+1)*k.toNat->P [some (.d (bI n ps)),some (.d (aM k d)),a2,some (.d (.int i)),some (.l s.length),a5,a6,a7] (s++[.lst (iQ.map eU)]))->WS (exs aq true (λc=>Mi.call aq T (k'+1) c) (.cons (.asg (.nm 6) (.comp true (Ei (.v 2) (.v 0)) [0,1] (.seq (Ei (.v 0) (Ci 1))) [5,3] 2 (.yes (.pr true .eq (Eb (.v 1) (.v 3)))))) (.cons (.fr (.nm 7) (.rg (Ci 0) (Ei (.v 1) (Ci 0))) (.cons (.iff (.pr true .eq (Eb (.comp true (.v 0) [0] (.seq (.v 6)) [1,7] 1 (.yes (.pr true .lt (Eb (.call 36 (Ec (Ei (.v 1) (Ci 0)) (.v 0) (.v 2))) (Ei (.v 1) (Ci 1)))))) (.lst true .nil))) (.cons (.ex (.push (.v 4) (.pr true .add (Eb (.v 5) (.tup (Ea (.v 7))))))) .nil) .nil) .nil)) .nil)) [some (.d (bI n ps)),some (.d (aM k d)),a2,some (.d (.int i)),some (.l s.length),some (.d (eU r)),a6,a7]) (s++[.lst (aW.map eU)]) λo s'=>∃J',o=.nx J'/\P J' s':=by
   intro t a5 a6 a7 aW r er qD qT a2 P hP;have ht:=(dN.mp er).1;have hm1:=hmul t (by lia);have hm2:=hmul (t+1) (by lia);have e8:(t+1)*k.toNat=t*k.toNat+k.toNat:=Ao ..;refine zlZ (m:=sizeLine) h (by lia) (by lia) (hR r (fZ er)) qD (by lia) (bO _) λiQ a6 a7 q1 q2=>?_;exact⟨_,rfl,hP iQ _ _ _ q1 (by lia)⟩
  rcases yC with ⟨rfl,rfl,rfl⟩|⟨j,h1i,rfl,hj⟩
  ·refine Y ?_;refine yq (c:=[.tup []]) (λt J s'=>∃(aW:List (List Int)) (a5 a6 a7:Option Xv),s'=s++[.lst (aW.map eU)]/\J=[some (.d (bI n ps)),some (.d (aM k d)),some (.d (.fl [.tup []])),some (.d (.int ((0:Nat):Int))),some (.l s.length),a5,a6,a7]/\iM k (0+1) aW/\aW.length<=t*k.toNat) ⟨[],_,_,_,rfl,rfl,λr hr=>(by cases hr),by simp⟩ (λt x J s' e hI=>?_) (λJ s' hI=>?_)
   ·obtain⟨aW,a5,a6,a7,rfl,rfl,qD,qT⟩:=hI;have ht:=(dN.mp e).1;have ht:t=0:=by simp at ht;lia
    subst ht;cases e;refine Ny (Nz ?_);exact key 0 a5 a6 a7 aW [] rfl qD qT _ _ λiQ a5 a6 a7 q1 q2=>⟨iQ,a5,a6,a7,rfl,rfl,q1,q2⟩
   ·obtain⟨aW,a5,a6,a7,rfl,rfl,qD,qT⟩:=hI;refine Y ?_;have:=hmul 1 (by simp);refine⟨_,rfl,aW,_,_,_,_,_,_,rfl,qD,?_,.inr ⟨_,by lia,rfl,NK⟩⟩;have e9:([D.tup []]:List D).length=1:=rfl;rw[e9] at qT
    lia
  ·refine W.eV rfl ?_;have hjl:j<s.length:=(dN.mp hj).1;refine Ka6 (c:=rows.map eU) (by rw[nQ hjl];exact hj) ?_;refine Kbb (n:=j) (c:=rows.map eU) (λt J s'=>∃(aW:List (List Int)) (a5 a6 a7:Option Xv),s'=s++[.lst (aW.map eU)]/\J=[some (.d (bI n ps)),some (.d (aM k d)),some (.l j),some (.d (.int i)),some (.l s.length),a5,a6,a7]/\iM k (i+1) aW/\aW.length<=t*k.toNat) ⟨[],_,_,_,rfl,rfl,λr hr=>(by cases hr),by simp⟩ (λt J s' hI=>?_) (λt x J s' e hI=>?_) (λJ s' hI=>?_)
   ·obtain⟨aW,a5,a6,a7,rfl,rfl,qD,qT⟩:=hI;rw[nQ hjl];exact hj
   ·obtain⟨aW,a5,a6,a7,rfl,rfl,qD,qT⟩:=hI;rw[iW,kE] at e;obtain⟨r,er,rfl⟩:=e;refine Ny (Nz ?_);exact key t a5 a6 a7 aW r er qD qT _ _ λiQ a5 a6 a7 q1 q2=>⟨iQ,a5,a6,a7,rfl,rfl,q1,q2⟩
   ·obtain⟨aW,a5,a6,a7,rfl,rfl,qD,qT⟩:=hI;rw[cg] at qT;refine Y ?_;have:=hmul rows.length (bO _);exact⟨_,rfl,aW,_,_,_,_,_,_,rfl,qD,by lia,.inr ⟨_,by lia,rfl,NK⟩⟩
 ·obtain⟨rows,a2,a3,a4,a5,a6,a7,rfl,hR,hlen,yC⟩:=hI;rw[cg,pI,show (n-0).toNat=n.toNat by lia] at hR hlen yC;rcases yC with ⟨e,_⟩|⟨j,h1i,rfl,hj⟩
  ·lia
  ·refine Y ?_;have:=p7 n.toNat (by lia);exact⟨j,rows,rfl,hj,hR,by lia⟩
end
theorem small{n k:Int}(h5:n<=5)(hk:k<=7):cnt k.toNat n.toNat+k.toNat*cnt k.toNat (n.toNat-1)+tot k.toNat (n.toNat-1)<sizeLine:=by
 have h1:=Uy (k:=k.toNat) (k2:=7) (m:=n.toNat) (m2:=5) (by lia) (by lia);have h2:=Uy (k:=k.toNat) (k2:=7) (m:=n.toNat-1) (m2:=4) (by lia) (by lia);have h3:=zhB (k:=k.toNat) (k2:=7) (m:=n.toNat-1) (m2:=4) (by lia) (by lia);have h4:k.toNat*cnt k.toNat (n.toNat-1)<=7*cnt 7 4:=DG (by lia) h2;have e:cnt 7 5+7*cnt 7 4+tot 7 4<sizeLine:=by decide
 lia
theorem zjU{n:Int}(h:1<=n/\n<=1000):prim .mult [.tup [.non],.int n]=some (.dat (.tup (List.replicate n.toNat .non))):=by
 show (if _ then _ else _)=_;rw[if_pos ⟨h.1,h.2,by decide,by decide⟩];have:∀k:Nat,rep [D.non] k=List.replicate k .non:=λk=>by
  unfold rep
  induction k with
  |zero=>rfl
  |succ k ih=>rw[Dr,PK,ih,Dr];rfl
 rw[this]
theorem vK(ns:List Int)(hn:ns.length<=63):∃s',call aq T 60 true 45 [.d (.fl (ns.map D.int))] []=some (.ok (.d (.bl true)),s'):=by
 suffices h:W (call aq T 60 true 45 [.d (.fl (ns.map D.int))]) [] λv _=>v=.d (.bl true) by
  obtain⟨v,s',e,rfl⟩:=h;exact⟨s',e⟩
 have hs:(20000:Nat)<=sizeLine:=by decide
 refine W.call (k:=59) zo2 rfl ?_;unfold Vr;refine Y ?_;refine W.dF rfl ((zle (k:=58)).imp λv _=>?_);rintro⟨n0,rfl⟩;refine⟨_,rfl,?_⟩;refine Y ?_;refine J8 (T5 ?_) ?_
 ·have:=zkr (ns:=ns) (lo:=some 1) (hi:=some 4);show 1+_<=_
  lia
 refine Y ?_;refine yq (λ_ J s=>∃(a b c d e f g h i:Option Xv),J=[some (.d (.fl (ns.map D.int))),a,b,c,d,e,f,g,h,i]) ⟨_,_,_,_,_,_,_,_,_,rfl⟩ (λi x J s hx qC=>?_) (λJ s qC=>?_)
 ·obtain⟨m,rfl⟩ : ∃m,x=.int m:=by
   rcases iR.mp (fZ hx) with z|z
   ·rcases gY.mp z with rfl|z
    ·exact⟨_,rfl⟩
    ·cases z
   ·exact zkE z
  obtain⟨a,b,c,d,e,f,g,h',i',rfl⟩:=qC;refine Y ?_;refine Kam rfl ((zn0 (k:=58)).imp λv s1=>?_);rintro⟨j,o,rfl,hj,hp⟩;refine⟨j,o,rfl,hj,?_⟩;refine Y ?_;refine wD rfl ((KH (k:=58) hp (m:=2) (by lia) (by lia)).imp λv s1=>?_);rintro⟨_,o1,rfl,rfl,⟨r,rfl,hr0,hr1⟩,hp⟩;refine⟨_,_,rfl,rfl,?_⟩;refine Y ?_;refine cV (zmd (fs:=[5,4]) hr0 (by simpa using hr1)) ?_;have hzz:=(show ∀x∈([5,4]:List Int),4<=x/\x<=5 by decide) _ (NP (fs:=[5,4]) hr0 (by simpa using hr1));generalize at' [5,4] r=u at hzz ⊢;refine Y ?_;refine wD rfl ((KH (k:=58) hp (m:=u) (by lia) (by lia)).imp λv s1=>?_);rintro⟨_,o2,rfl,rfl,⟨r2,rfl,hr2,hr3⟩,hp⟩;refine⟨_,_,rfl,rfl,?_⟩;refine Y ?_;have hz:1<=1+r2/\1+r2<=5:=by lia
  generalize 1+r2=z at hz ⊢;refine wD rfl ((zif (k:=57) hp (n:=z) (by lia) (by lia)).imp λv s1=>?_);rintro⟨ps,o3,rfl,rfl,hw,hp⟩;refine⟨_,_,rfl,rfl,?_⟩;refine Y ?_;refine wD rfl ((zi4 (k':=57) hp).imp λv s1=>?_);rintro⟨kk,dd,o4,rfl,rfl,hr,hp⟩;refine⟨_,_,rfl,rfl,?_⟩;have ew:bI z ps=.tup [.int z,.tup (ps.map iJ)]:=rfl;have er:aM kk dd=.tup [.int kk,.int dd]:=rfl;refine Y ?_;refine wD rfl ((zhw (k':=57) hp (by lia) (by lia) (by lia)).imp λv s1=>?_);rintro⟨ks,o5,rfl,rfl,hks,hp⟩;refine⟨_,_,rfl,rfl,?_⟩;have hkl:=hks.len;refine Y ?_;refine Kam rfl ((zoo (k':=57) (d:=dd) hw (by lia) (by lia)).imp λv s1=>?_);rintro⟨j2,rows,rfl,hj2,hR,hRl⟩;refine⟨j2,_,rfl,hj2,?_⟩;refine Y ?_;refine J8 (T5 (by rw[cg];show _+1<=_;lia)) ?_;have O5:(rows.map eU++[D.tup (ks.map cD)]).length=rows.length+1:=by rw[dG,cg];rfl
  refine Y ?_;refine Ks rfl ((KH (k:=58) hp (m:=(((rows.map eU++[D.tup (ks.map cD)]).length:Nat):Int)) (by rw[O5];lia) (by rw[O5];lia)).imp λv s1=>?_);rintro⟨_,o6,rfl,rfl,⟨r4,rfl,hr4,hr5⟩,hp⟩;refine⟨_,_,rfl,rfl,?_⟩;obtain⟨y,ey,hy⟩:=zgI (xs:=rows.map eU++[D.tup (ks.map cD)]) hr4 hr5;refine Y ?_;refine cV ey ?_;obtain⟨ys,rfl,hyl,hyo⟩ : ∃ys,y=.tup ys/\(ys.length:Int)=z/\∀t∈ys,lX t=true:=by
   rcases iR.mp hy with hy|hy
   ·obtain⟨r,hr,rfl⟩:=pJ.mp hy;refine⟨r.map .int,rfl,by rw[cg,(hR r hr).1];lia,λt ht=>?_⟩;obtain⟨i,_,rfl⟩:=pJ.mp ht;rfl
   ·refine⟨ks.map cD,qG.mp hy,by rw[cg];exact hkl,λt ht=>?_⟩;obtain⟨c,_,rfl⟩:=pJ.mp ht;cases c<;>rfl
  have hko:∀t∈ks.map cD,lX t=true:=λt ht=>by
   obtain⟨c,_,rfl⟩:=pJ.mp ht;cases c<;>rfl
  clear ey hy hr5;refine Y ?_;refine Ua (c:=ys) (λi acc s'=>∃o:SO,s'=s++[o]++[.lst (rows.map eU)]/\nD o/\acc.length=i/\∀t∈acc,lX t=true) ?_ (λi x acc s' e hI=>?_) (λacc s' hI=>?_)
  ·refine Y ?_;exact⟨rfl,o6,rfl,hp,rfl,λt ht=>(by cases ht)⟩
  ·obtain⟨o,rfl,hp,hl,yU⟩:=hI;have hi:=(dN.mp e).1;refine Y ?_;refine⟨λ_=>?_,λhb=>by cases hb⟩;refine Y ?_;refine Ks rfl ((KH (k:=58) hp (m:=3) (by lia) (by lia)).imp λv s1=>?_);rintro⟨_,o7,rfl,rfl,⟨r6,rfl,hr6,hr7⟩,hp⟩;refine⟨_,_,rfl,rfl,?_⟩;refine Y ?_;refine W.ite (λc=>?_) (λc=>?_)
   ·refine Y ?_;refine⟨_,rfl,by lia,o7,rfl,hp,by simp[hl],λt ht=>?_⟩;rcases iR.mp ht with ht|ht
    ·exact yU t ht
    ·rw[qG.mp ht];exact hyo x (fZ e)
   ·refine Y ?_;refine⟨_,rfl,by lia,o7,rfl,hp,by simp[hl],λt ht=>?_⟩;rcases iR.mp ht with ht|ht
    ·exact yU t ht
    ·rw[qG.mp ht];rfl
  obtain⟨o7,rfl,hp,hml,hmo⟩:=hI;refine Y ?_;refine cV (zjU (n:=z) (by lia)) ?_;refine Y ?_;refine Ks rfl ((zn9 (k:=57) hp).imp λv s1=>?_);rintro⟨od,o8,rfl,rfl,hod,hp⟩;refine⟨_,_,rfl,rfl,?_⟩;refine Y ?_;refine Ks rfl ((zjJ (k':=57) (row:=ks.map cD) hp (by rw[cg];lia) hko (by lia) (by lia)).imp λv s1=>?_);rintro⟨bd,o9,rfl,rfl,hbd,hp⟩;refine⟨_,_,rfl,rfl,?_⟩;refine Y ?_;have hth:∀t∈[D.tup (ks.map cD),D.tup acc,D.tup ys,D.tup (List.replicate z.toNat D.non),od,bd],vJ t:=λt ht=>by
   simp only[gY,Gh,or_false] at ht;rcases ht with rfl|rfl|rfl|rfl|rfl|rfl
   ·exact Aa hko (by rw[cg];lia)
   ·exact Aa hmo (by lia)
   ·exact Aa hyo (by lia)
   ·exact Aa (λt ht=>by rw[List.eq_of_mem_replicate ht];rfl) (by rw[FQ];lia)
   ·exact zlq hod
   ·exact hbd
  refine nP (l:=[D.tup (ks.map cD),D.tup acc,D.tup ys,D.tup (List.replicate z.toNat D.non),od,bd]) (f:=λx=>x) (λ_=>some (.bl true)) (by show 6<=_;lia) ?_ (λt ht=>?_) ?_
  ·refine Y ?_;exact⟨rfl,rfl⟩
  ·refine Y ?_;refine⟨rfl,λ_=>?_,λhb=>by cases hb⟩;refine Y ?_;refine W.c0 (zjz (k':=16) hw (by lia) (hth t ht) (small (by lia) (by lia)) (Uq (by lia) (by lia) (by lia) (by lia) (by lia))) ?_;exact⟨rfl,_,rfl,rfl⟩
  refine Y ?_;exact⟨_,rfl,_,_,_,_,_,_,_,_,_,rfl⟩
 ·obtain⟨a,b,c,d,e,f,g,h',i',rfl⟩:=qC;exact Y trivial
end eZ
open PySem PySem.W PyProof.Rows
set_option maxRecDepth 100000 in
set_option maxHeartbeats 0 in
theorem PySem.Challenge.cw_ringhues_k11_hues_with_known_spots_holds : PySem.Challenge.rw_ringhues_k11_hues_with_known_spots.Holds := by
 refine PySem.W.holds_law eZ.ws λsaid=>?_;refine holds_open (q:=eZ.qv) (loose:=eZ.loose) (Xt:=λs=>xlAt eZ.qv [] s&&recOk [] s) (XP:=XL eZ.qv []) (Yf:=(Mi.lY eZ.fs eZ.ms eZ.xs eZ.lk eZ.bd).obs) (Ya:=(Mi.lY eZ.fs eZ.ms eZ.xs eZ.lk eZ.bd).val) (YP:=(Mi.lY eZ.fs eZ.ms eZ.xs eZ.lk eZ.bd).says) (N:=20000) eZ.left (Mi.lY eZ.fs eZ.ms eZ.xs eZ.lk eZ.bd).of (Mi.lY eZ.fs eZ.ms eZ.xs eZ.lk eZ.bd).keeps (λs e=>xl_of s (Bool.and_eq_true_iff.mp e).1) XL.keeps (by rfl) (by rfl) (by rfl) (λs e=>recFacts_of (Bool.and_eq_true_iff.mp e).2) (by rfl) (by first|assumption|decide +kernel) (by decide +kernel) ⟨rfl,rfl,rfl,rfl,rfl,by decide +kernel⟩ ?hw ?hc
 case hw=>w_witness2
 case hc=>exact Mi.Kr (l:=PySem.Challenge.rw_ringhues_k11_hues_with_known_spots) (x:="_law_script") (k:=60) rfl rfl ⟨by decide,by decide,rfl⟩ (λw K mg fa h S X G Ws=>eZ.all_mk eZ.vK S X G Ws)
