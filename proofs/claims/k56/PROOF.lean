import PyProof.Rows.All
import Wide.All
import KE.KIsAll
import KE.KSortTup
import KE.KTryDeep
import KE.KDictOf
import KE.KFromBytes
import Wide.FinOn
import PySem.Challenge.RW_ringhues_k56_whole_counts_of_webs_made_o
set_option compiler.extract_closed false
abbrev aB:=@PySem.wpAny_bind
abbrev cX:=@List.getElem?_eq_getElem
abbrev cU:=@PySem.Heap.get?_push_of_some
abbrev dO:=@List.getElem?_eq_some_iff
abbrev bO:=@List.length_map
abbrev aM:=@PySem.wpAny_pure
abbrev eZ:=@List.mem_of_getElem?
abbrev cR:=@Option.some.inj
abbrev bY:=@PySem.Heap.lt_size
abbrev bU:=@Nat.le_refl
abbrev fO:=@PySem.Heap.get?_push_size
abbrev jQ:=@List.getD_eq_getElem?_getD
abbrev fP:=@List.size_toArray
abbrev fQ:=@List.getElem?_map
abbrev iz:=@List.mem_cons_of_mem
abbrev fj:=@List.all_eq_true
abbrev gG:=@of_decide_eq_true
abbrev fX:=@List.length_cons
abbrev fu:=@decide_eq_true
abbrev iY:=@Nat.lt_of_lt_of_le
abbrev iZ:=@List.length_append
abbrev mF:=@List.getElem?_append_left
abbrev dN:=@Nat.ne_of_lt
abbrev g8:=@Bool.and_eq_true
abbrev nP:=@List.getElem?_append_right
abbrev lH:=@Option.map_eq_some_iff
abbrev pA:=@List.getElem?_eq_none_iff
abbrev mH:=@List.mem_append_right
abbrev gQ:=@List.mem_cons
abbrev g_:=@List.map_cons
abbrev jD:=@List.mem_filter
abbrev lJ:=@List.mem_cons_self
abbrev jR:=@List.mem_append
abbrev lK:=@List.length_range
abbrev nJ:=@List.mem_singleton
abbrev wA:=@PyProof.Rows.slot_tuple_getitem
abbrev qy:=@List.getElem?_set_ne
abbrev jo:=@Nat.le_trans
abbrev mJ:=@List.map_append
abbrev jE:=@List.mem_map
abbrev gR:=@PySem.wpAny_mono
abbrev pB:=@PySem.wpAny_newObj_type
abbrev pC:=@Int.toNat_natCast
abbrev nQ:=@decide_eq_false
abbrev pI:=@List.length_take
abbrev pJ:=@List.lookup_cons
abbrev pK:=@List.length_set
abbrev kW:=@PySem.wpAny_field
abbrev wB:=@PySem.Heap.get?_update_other
abbrev rE:=@decide_eq_decide
abbrev Ac:=@PyProof.Rows.callWith_type1
abbrev sV:=@Nat.lt_succ_of_lt
abbrev pD:=@Nat.lt_irrefl
abbrev yF:=@PySem.wpAny_callSpecial?_slot
abbrev yG:=@Int.eq_ofNat_of_zero_le
abbrev sW:=@List.filter_cons
abbrev yH:=@List.getElem?_set_self
abbrev vC:=@Bool.false_eq_true
abbrev wC:=@List.filterMap_cons
abbrev rF:=@PySem.wpAny_seqItems
abbrev tQ:=@List.take_length
abbrev vD:=@PySem.wpAny_truthy_bool
abbrev qz:=@PySem.wpAny_holding
abbrev Ad:=@List.getElem?_replicate
abbrev Ae:=@Option.bind_eq_some_iff
abbrev Af:=@List.getElem?_cons_succ
abbrev sX:=@PySem.Heap.size_push
abbrev yI:=@Array.length_toList
abbrev yJ:=@List.getElem_of_mem
abbrev Ag:=@PySem.Heap.get?_update_self
abbrev Dl:=@List.length_filterMap_le
abbrev Ah:=@List.length_filter_le
abbrev wD:=@List.flatMap_cons
abbrev tR:=@List.mem_range
abbrev vG:=@List.append_nil
abbrev vH:=@List.nodup_cons
abbrev yK:=@PySem.Obj.data_mapFields
abbrev Ai:=@Nat.mul_le_mul_right
abbrev wF:=@PySem.wpAny_call_entry
abbrev rG:=@List.map_map
abbrev pF:=@beq_iff_eq
abbrev yL:=@List.append_assoc
abbrev yM:=@List.nodup_append
abbrev Gh:=@List.pairwise_iff_getElem
abbrev Dm:=@List.filterMap_append
abbrev Dn:=@List.mem_of_mem_take
abbrev lM:=@congrArg
abbrev vI:=@PySem.wpAny_standAt
abbrev Dp:=@beq_eq_false_iff_ne
abbrev Dq:=@PySem.mem_of_lookup
abbrev Dr:=@List.getElem?_range
abbrev K_:=@PySem.F.slot_tuple_iterator_next
abbrev Aj:=@List.getElem_inj
abbrev Ak:=@beq_self_eq_true
abbrev Al:=@PySem.F.plain_min_loop
abbrev vJ:=@Nat.ne_of_gt
abbrev Ds:=@PySem.wpAny_Call_Name_kw
abbrev Gi:=@List.length_replicate
abbrev Dt:=@PySem.wpAny_setField_rec
abbrev wG:=@List.all_cons
abbrev Du:=@List.pairwise_cons
abbrev Dv:=@decide_eq_true_iff
abbrev Dw:=@Int.emod_lt_of_pos
abbrev yN:=@List.take_succ
abbrev Px:=@List.take_succ_eq_append_getElem
abbrev Gj:=@PySem.Heap.get?_none_of_le
abbrev Gk:=@List.mem_of_mem_drop
abbrev Gm:=@PySem.Around.under_plainId
abbrev Am:=@List.length_nil
abbrev La:=@PySem.AutoSeq1.wpAny_loadPart'
abbrev Ao:=@Int.emod_nonneg
abbrev Dy:=@List.pairwise_map
abbrev wH:=@Nat.le_of_lt
abbrev vK:=@PySem.sizeLine_eq
abbrev Dz:=@Nat.lt_succ_self
abbrev DG:=@List.length_drop
abbrev DK:=@List.getElem_map
abbrev DN:=@List.countP_cons
abbrev Gn:=@List.mem_filterMap
abbrev Gp:=@List.zip_cons_cons
abbrev Gq:=@List.getElem_range
abbrev wI:=@Nat.zero_le
abbrev Lb:=@PySem.Obj.isFreed_of_fields
abbrev DP:=@List.forIn_cons
abbrev yO:=@List.all_map
abbrev DQ:=@Bool.eq_iff_iff
abbrev Ld:=@List.filterMap_eq_map
abbrev qC:=@if_false
abbrev Gs:=@PySem.wpAny_pyIter_list
abbrev Gu:=@decide_eq_true_eq
abbrev Le:=@List.mem_append_left
abbrev DR:=@List.nodup_nil
abbrev Lf:=@List.filter_eq_self
abbrev Lg:=@List.flatMap_append
abbrev Aq:=@PySem.codeAny_mono
abbrev Py:=@Option.isSome_iff_exists
abbrev Pz:=@PySem.F.args_tuple_add_2
abbrev PB:=@PySem.wpAny_comprehension_free
abbrev Ar:=@Nat.succ_mul
abbrev Gv:=@PySem.wpAny_passesOwn
abbrev PJ:=@PySem.F.entry_tuple_add
abbrev PK:=@decide_eq_false_iff_not
abbrev Gw:=@Bool.or_eq_true
abbrev Gx:=@PySem.codeAny_builtin
abbrev PL:=@PySem.W.cellsFrom_some
abbrev PN:=@PySem.F.slot_tuple_add
abbrev PX:=@List.range_succ_eq_map
abbrev P0:=@List.length_pos_of_mem
abbrev P_:=@List.sublist_cons_self
abbrev Lh:=@PySem.Heap.get?_push_ne
abbrev Av:=@PySem.wpAny_letGo
abbrev Li:=@List.reverse_cons
abbrev Gy:=@PySem.wpAny_setField
abbrev DW:=@List.map_nil
abbrev Qa:=@Int.emod_add_mul_ediv
abbrev Qc:=@List.take_append_drop
abbrev Lj:=@Nat.le_of_not_lt
abbrev Ln:=@Option.bind_some
abbrev Lp:=@PySem.wpAny_isInstance
abbrev Lq:=@List.getElem_mem
abbrev Qd:=@PySem.wpAny_updateSeq_pair
abbrev Gz:=@PySem.wpAny_attempt
abbrev GC:=@PySem.plainId_quiet
abbrev Aw:=@PySem.wpAny_rule
abbrev Qe:=@PySem.W.plainGet_of
abbrev DX:=@PySem.wpAny_of_eq
abbrev Lr:=@PySem.F.slot_zip_next
abbrev Ls:=@List.foldl_cons
abbrev Qf:=@List.map_congr_left
abbrev Qg:=@Nat.pow_le_pow_left
abbrev Lw:=@Int.natCast_mul
abbrev Qh:=@Bool.false_ne_true
abbrev Qi:=@PySem.W.callWith_K
abbrev GD:=@PySem.wpAny_typeOf
abbrev Qj:=@Array.forIn_toList
abbrev Qk:=@Nat.lt_of_le_of_lt
abbrev Lx:=@List.forIn_nil
abbrev DY:=@Nat.not_lt
abbrev Ql:=@List.getElem?_inj
abbrev Qm:=@List.map_inj_left
abbrev Ly:=@List.map_take
set_option Elab.async false
set_option linter.all false
set_option maxRecDepth 100000
set_option maxHeartbeats 4000000
namespace L2
open PySem PySem.Spec PyProof.Rows PySem.W
noncomputable def subIn(K:W.Frag)(C D:Addr):Bool:=PySem.W.ktsIn K C "BaseException"&&PySem.W.ktsIn K D "BaseException"&&match K.lookup C with
 |some ⟨_,_,.cls cd,_⟩=>cd.mro.contains (.ref D)
 |_=>false
noncomputable def GF:List Value:=[.type "ValueError",.type "Exception",.type "BaseException",.type "object"]
noncomputable def tU:List Value->Bool
 |.ref _::r=>tU r
 |l=>l==GF
noncomputable def tV(K:Frag)(C fI:Addr):Bool:=match K.lookup C with
 |some ⟨.type "type",_,.cls cd,sl⟩=>(match cd.mro,sl.toList with
  |.ref C'::bm,[_,_,_,_,some (.builtin n),_]=>C'==C&&n=="ValueError.__new__" && !cd.hasDel&&tailIn K GF bm&&nsOkIn K cd.ns&&nsIn K cd.ns "__init__"==some (some (.ref fI))
  |_,_=>false)
 |_=>false
noncomputable def aX(s:Stmt):Arguments:=match s with
 |.FunctionDef _ a _ _ _ _ _ _ _ _=>a
 |_=>{posonlyargs:=[],args:=[],vararg:=none,kwonlyargs:=[],kw_defaults:=[],kwarg:=none,defaults:=[]}
noncomputable def aK(s:Stmt):List Stmt:=match s with
 |.FunctionDef _ _ b _ _ _ _ _ _ _=>b
 |_=>[]
noncomputable def au(s:Stmt):Scope:=match s with
 |.FunctionDef _ _ _ _ _ _ sc _ _ _=>sc
 |_=>{kind:=.function,names:=[],isGenerator:=false,isCoroutine:=false}
end L2
namespace Mi
open PySem PySem.Spec PyProof.Rows L2 PySem.W
noncomputable def Lz(n c:Nat):Nat:=if c<n then c else 0
noncomputable def GJ(n c e:Nat):Bool:=Lz n e==0||Lz n c==Lz n e
noncomputable def jf(L:List Addr)(c:Nat):Addr:=L.getD (Lz L.length c) 0
noncomputable def xcB(K:W.Frag)(C:Addr):Bool:=
 PySem.W.findIn K (.ref C) "__getattribute__"==some (some (.builtin "BaseException.__getattribute__"))&&PySem.W.findIn K (.ref C) "__getattr__"==some none&&PySem.W.findIn K (.ref C) "__class__"==some (some (.builtin "object.__class__")) &&
 PySem.W.mroIn K C (.type "BaseException")==some true&&PySem.W.mroIn K C (.type "object")==some true&&(PySem.W.clsIn K C).isSome &&
 PySem.W.specialIn K (.builtin "object.__class__") "__get__"==some (some (.builtin "getset_descriptor.__get__"))&&PySem.W.takesIn K (.builtin "object.__class__")==some true
noncomputable def yP(K:W.Frag)(L:List Addr):Bool:=(List.range L.length).all λc=>xcB K (L.getD c 0)&&PySem.W.kitOne K (.ref (L.getD c 0)) (.type "ValueError")==some true &&
 (List.range L.length).all λe=>PySem.W.kitOne K (.ref (L.getD c 0)) (.ref (L.getD e 0))==some (GJ L.length c e)
noncomputable def subB(K:W.Frag)(L:List Addr)(d:Nat):Bool:=(List.range L.length).all λc=>!(GJ L.length c d)||L2.subIn K (L.getD c 0) (jf L d)
noncomputable def nR(fd:FuncData):FuncData:={fd with kwdefaults:=.none,doc:=.none,pyModule:=.none,annotations:=none,code:=.none,closureTuple:=.none}
noncomputable def vL(x:Str)(st:Stmt):FuncData:=fnOf x x (aX st) (aK st) (au st) .none .none .none .none none .none .none
noncomputable def Ax(K:Frag)(x:Str):Option (Addr×FuncData):=match nsIn K mainGlobals x with
 |some (some (.ref f))=>(match K.lookup f with
  |some ⟨_,_,.func fd,_⟩=>(match codeIn K fd.code x&&keepIn K (.ref f) with
   |true=>some (f,fd)
   |false=>none)
  |_=>none)
 |_=>none
noncomputable def eN(K:Frag)(x:Str):Addr:=match nsIn K mainGlobals x with
 |some (some (.ref C))=>C
 |_=>0
noncomputable def tW(K:Frag)(x:Str):Bool:=match nsIn K mainGlobals x with
 |some (some (.ref _))=>true
 |_=>false
noncomputable def mK(K:Frag)(p:Str×Int):Bool:=match nsIn K mainGlobals p.1 with
 |some (some (.int i _))=>decide (i=p.2)
 |_=>false
noncomputable def qD(K:Frag)(x:Str):Bool:=match nsIn K mainGlobals x with
 |some none=>true
 |_=>false
noncomputable def GK(K:Frag)(C:Addr):Bool:=excIn K C [.type "ValueError",.type "Exception",.type "BaseException",.type "object"] "ValueError.__new__"
structure Lk where
 GP:List Str
 yQ:List (Str×Int)
 Xu:List Str
 Xw:List Nat
 Xx:List Nat
noncomputable def Lk.L(l:Lk)(K:Frag):List Addr:=l.GP.map (eN K)
noncomputable def Lk.good(l:Lk)(K:Frag):Bool:=
 l.GP.all (tW K)&&(l.GP.isEmpty||yP K (l.L K))&&l.Xw.all (λk=>GK K (jf (l.L K) k))&&l.Xx.all (λk=>subB K (l.L K) k)&&l.yQ.all (mK K)&&l.Xu.all (qD K)
noncomputable def qF(h:Heap):List Addr->Frag
 |[]=>[]
 |a::r=>match h.get? a with
  |some o=>(a,o)::qF h r
  |none=>qF h r
noncomputable def fB(s:Stmt):List Stmt:=match s with
 |.ClassDef _ _ _ b _ _ _ _ _ _ _=>b
 |_=>[]
noncomputable def Ay(q:Str)(st:Stmt):FuncData:=fnOf "__init__" q (aX st) (aK st) (au st) .none .none .none .none none .none .none
noncomputable def GQ(K:Frag)(C:Addr):Option FuncData:=match clsIn K C with
 |some cd=>(match nsIn K cd.ns "__init__" with
  |some (some (.ref f))=>(match K.lookup f with
   |some ⟨.type "function",_,.func fd,_⟩=>(match codeIn K fd.code fd.qualname&&tV K C f&&tU cd.mro&&cd.hasDict with
    |true=>some fd
    |false=>none)
   |_=>none)
  |_=>none)
 |none=>none
noncomputable def setB(K:Frag)(C:Addr)(fs:List Str):Bool:=findIn K (.ref C) "__setattr__"==some (some (.builtin "object.__setattr__"))&&fs.all (λf=>findIn K (.ref C) f==some none)
noncomputable def LC(K:Frag)(C:Addr)(f:Str):Bool:=findIn K (.ref C) "__getattribute__"==some (some (.builtin "BaseException.__getattribute__"))&&findIn K (.ref C) "__getattr__"==some none&&mroIn K C (.type "BaseException")==some true&&findIn K (.ref C) f==some none&&hasDictIn K C
structure tX where
 c:Nat
 q:Str
 st:Stmt
 fs:List Str
noncomputable def GR:Nat->List Obj->Frag
 |_,[]=>[]
 |i,o::r=>match o.isFreed with
  |true=>GR (i+1) r
  |false=>(i,o)::GR (i+1) r
noncomputable def bZ(h:Heap):Frag:=qF h [mainGlobals]++(GR 0 h.objs.toList).reverse
noncomputable def mL(fs:List (Str×Stmt))(ms:List tX)(xs:List (Nat×Str))(l:Lk)(s:Shared):List (Option FuncData)×List (Option FuncData)×Bool:=
 (fs.map (λp=>(Ax (bZ s.heap) p.1).map (λq=>nR q.2)),ms.map (λm=>(GQ (bZ s.heap) (jf (l.L (bZ s.heap)) m.c)).map nR),
  l.good (bZ s.heap)&&ms.all (λm=>setB (bZ s.heap) (jf (l.L (bZ s.heap)) m.c) m.fs)&&xs.all (λx=>LC (bZ s.heap) (jf (l.L (bZ s.heap)) x.1) x.2))
noncomputable def nU(fs:List (Str×Stmt))(ms:List tX)(w:World):List (Option FuncData)×List (Option FuncData)×Bool:=(fs.map (λp=>some (vL p.1 p.2)),ms.map (λm=>some (Ay m.q m.st)),true)
noncomputable def LQ(fs:List (Str×Stmt))(s:Shared):List (Option FuncData):=fs.map (λp=>(Ax (bZ s.heap) p.1).map (λq=>nR q.2))
noncomputable def Xy(ms:List tX)(xs:List (Nat×Str))(l:Lk)(s:Shared):List (Option FuncData)×Bool:=(ms.map (λm=>(GQ (bZ s.heap) (jf (l.L (bZ s.heap)) m.c)).map nR),
  l.good (bZ s.heap)&&ms.all (λm=>setB (bZ s.heap) (jf (l.L (bZ s.heap)) m.c) m.fs)&&xs.all (λx=>LC (bZ s.heap) (jf (l.L (bZ s.heap)) x.1) x.2))
theorem zfx{p q:Program}{loose:List Str}{Xt:Shared->Bool}{N:Nat}{fs1 rH:List (Str×Stmt)}{ms:List tX}{xs:List (Nat×Str)}{l:Lk}
  (a:∀w,(openEnds treeTable p w N).map (λs=>openSeen q loose (importedModules p.main.body) Xt true s)=some (openGood q loose))
  (b1:∀w,(openEnds treeTable p w N).map (LQ fs1)=some (fs1.map λp=>some (vL p.1 p.2)))
  (b2:∀w,(openEnds treeTable p w N).map (LQ rH)=some (rH.map λp=>some (vL p.1 p.2)))
  (c:∀w,(openEnds treeTable p w N).map (Xy ms xs l)=some (ms.map (λm=>some (Ay m.q m.st)),true)):LeftO p q loose Xt (mL (fs1++rH) ms xs l) (nU (fs1++rH) ms) N:=by
 intro w;have a:=a w;have b1:=b1 w;have b2:=b2 w;have c:=c w;cases e:openEnds treeTable p w N with
 |none=>rw[e] at a;cases a
 |some s=>
  rw[e] at a b1 b2 c;have a:openSeen q loose (importedModules p.main.body) Xt true s=openGood q loose:=cR a;have b1:=cR b1;have b2:=cR b2;have c:=cR c;have c1:=lM Prod.fst c;have c2:=lM Prod.snd c;show some (_,mL (fs1++rH) ms xs l s)=_;rw[a];have:mL (fs1++rH) ms xs l s=nU (fs1++rH) ms w:=by
   unfold mL nU;rw[mJ,mJ];have b1:List.map _ fs1=List.map _ fs1:=b1;have b2:List.map _ rH=List.map _ rH:=b2;rw[b1,b2];exact Prod.ext rfl (Prod.ext c1 c2)
  rw[this]
structure Bd where
 n:Str
 fs:List Str
 ms:List (Str×Str×Stmt)
noncomputable def lN(K:Frag)(C:Addr)(m:Str):Option (Addr×FuncData):=match findIn K (.ref C) m with
 |some (some (.ref f))=>(match K.lookup f with
  |some ⟨_,_,.func fd,_⟩=>(match codeIn K fd.code fd.qualname&&keepIn K (.ref f)&&isFn K (.ref f) with
   |true=>some (f,fd)
   |false=>none)
  |_=>none)
 |_=>none
noncomputable def D_(m q:Str)(st:Stmt):FuncData:=fnOf m q (aX st) (aK st) (au st) .none .none .none .none none .none .none
noncomputable def yR(K:Frag)(b:Bd):Bool:=tW K b.n&&plainGet K (eN K b.n) Str.empty&&hasDictIn K (eN K b.n)&&plainOver K (eN K b.n)&&findIn K (.ref (eN K b.n)) "__setattr__"==some (some (.builtin "object.__setattr__"))&&makesIn K (eN K b.n)&&keepIn K (.ref (eN K b.n))&&b.fs.all (λf=>findIn K (.ref (eN K b.n)) f==some none)
noncomputable def Az(b:Bd)(s:Shared):List (Option FuncData)×Bool:=(b.ms.map λp=>(lN (bZ s.heap) (eN (bZ s.heap) b.n) p.1).map λq=>nR q.2,yR (bZ s.heap) b)
noncomputable def A_(b:Bd):List (Option FuncData)×Bool:=(b.ms.map λp=>some (D_ p.1 p.2.1 p.2.2),true)
theorem zkz{p q:Program}{loose:List Str}{Xt:Shared->Bool}{N:Nat}{fs:List (Str×Stmt)}{ms:List tX}{xs:List (Nat×Str)}{l:Lk}{b:Bd}(h:LeftO p q loose Xt (mL fs ms xs l) (nU fs ms) N)(e:∀w,(openEnds treeTable p w N).map (Az b)=some (A_ b)) :
  LeftO p q loose Xt (λs=>(mL fs ms xs l s,Az b s)) (λw=>(nU fs ms w,A_ b)) N:=by
 intro w;have h:=h w;have e:=e w;cases z:openEnds treeTable p w N with
 |none=>rw[z] at e;cases e
 |some s=>
  rw[z] at h e;have e:Az b s=A_ b:=cR e;have h:=cR h;have h1:=lM Prod.fst h;have h2:=lM Prod.snd h;show some (_,_,_)=some (_,_,_);rw[e];exact lM some (Prod.ext h1 (Prod.ext h2 rfl))
end Mi
namespace eY
open PySem PySem.Spec PyProof.Rows PySem.W L2 Mi
noncomputable def top(i:Nat):Stmt:=PySem.Challenge.pw_ringhues_k56_whole_counts_of_webs_made_o.main.body.getD i (.Pass ⟨0,0,0,0⟩)
noncomputable def Ed:Stmt:=(fB (top 25)).getD 0 (.Pass ⟨0,0,0,0⟩)
noncomputable def GX:Stmt:=(fB (top 25)).getD 1 (.Pass ⟨0,0,0,0⟩)
noncomputable def Ef:Stmt:=(fB (top 25)).getD 2 (.Pass ⟨0,0,0,0⟩)
noncomputable def Eh:Stmt:=(fB (top 25)).getD 3 (.Pass ⟨0,0,0,0⟩)
noncomputable def Ej:Stmt:=(fB (top 25)).getD 4 (.Pass ⟨0,0,0,0⟩)
noncomputable def GZ:Stmt:=(fB (top 25)).getD 5 (.Pass ⟨0,0,0,0⟩)
noncomputable def Ek:Stmt:=(fB (top 25)).getD 6 (.Pass ⟨0,0,0,0⟩)
noncomputable def bd:Bd:=⟨"Board",["ends","spots","apart","alike"],[("__init__","Board.__init__",Ed),("far_apart","Board.far_apart",GX),("settled","Board.settled",Ef),("ties_left","Board.ties_left",Eh),("bound","Board.bound",Ej),("narrowest","Board.narrowest",GZ),("all_free","Board.all_free",Ek)]⟩
noncomputable def fs1:List (Str×Stmt):=(("is_whole" : Str),top 8)::(("is_within" : Str),top 9)::(("is_row" : Str),top 10)::(("check_most" : Str),top 11)::(("is_web" : Str),top 14)::(("web_of" : Str),top 15)::(("is_many" : Str),top 16)::(("is_place" : Str),top 17)::(("is_tie" : Str),top 18)::(("tie_by" : Str),top 19)::(("check_web" : Str),top 20)::(("check_place" : Str),top 21)::(("tied_to" : Str),top 22)::(("all_ends" : Str),top 23)::(("ring_board" : Str),top 26)::(("is_ring" : Str),top 29)::(("check_ring" : Str),top 30)::(("hues_many" : Str),top 34)::(("fixed_many" : Str),top 35)::(("check_few" : Str),top 36)::(("fixed_rows" : Str),top 37)::[]
noncomputable def rH:List (Str×Stmt):=(("is_free" : Str),top 38)::(("untied" : Str),top 40)::(("put_beside" : Str),top 41)::(("put_together" : Str),top 42)::(("joined" : Str),top 43)::(("names_behind" : Str),top 44)::(("names_but" : Str),top 45)::(("renamed" : Str),top 46)::(("first_hues" : Str),top 48)::(("first_among" : Str),top 49)::(("first_spot" : Str),top 50)::(("can_settle" : Str),top 51)::(("search" : Str),top 52)::(("_law_cell" : Str),top 54)::(("_law_pen" : Str),top 55)::(("_law_draw" : Str),top 56)::(("_law_web" : Str),top 57)::(("_law_apart" : Str),top 58)::(("_law_all_hues" : Str),top 59)::(("_law_small_ring" : Str),top 60)::(("_law_tie_right" : Str),top 61)::(("law" : Str),top 62)::[]
noncomputable abbrev fs:List (Str×Stmt):=fs1++rH
noncomputable def lk:Lk:=⟨[],[("MOST_PLACES",8),("MOST_SPOTS",24),("FEW_PLACES",6),("FEW_SPOTS",8)],["abs","all","bool","divmod","enumerate","int","isinstance","len","list","max","min","range","sorted","tuple","zip"],[],[]⟩
noncomputable def ms:List tX:=[]
noncomputable def xs:List (Nat×Str):=[]
noncomputable abbrev pv:Program:=PySem.Challenge.pw_ringhues_k56_whole_counts_of_webs_made_o
noncomputable def qv:Program:={pv with main:={pv.main with body:=[pv.main.body.getD 62 (.Pass ⟨0,0,0,0⟩)]}}
noncomputable def loose:List Str:=(["HueError","NoRing","NoPlace","Apart","NoWeb","TooGreat","is_whole","is_within","is_row","check_most","MOST_PLACES","is_web","web_of","is_many","is_place","is_tie","tie_by","check_web","check_place","tied_to","all_ends","Board","ring_board","MOST_SPOTS","is_ring","check_ring","FEW_PLACES","FEW_SPOTS","hues_many","fixed_many","check_few","fixed_rows","is_free","untied","put_beside","put_together","joined","names_behind","names_but","renamed","first_hues","first_among","first_spot","can_settle","search","_law_cell","_law_pen","_law_draw","_law_web","_law_apart","_law_all_hues","_law_small_ring","_law_tie_right"]:List String).map Str.ofString
theorem zm6(w:World):(openEnds treeTable pv w 20000).map (λs=>openSeen qv loose (importedModules pv.main.body) (λs=>xlAt qv [] s&&recOk [] s) true s)=some (openGood qv loose):=by
 kernel_rfl
theorem zmQ(w:World):(openEnds treeTable pv w 20000).map (LQ fs1)=some (fs1.map λp=>some (vL p.1 p.2)):=by
 kernel_rfl
theorem znN(w:World):(openEnds treeTable pv w 20000).map (LQ rH)=some (rH.map λp=>some (vL p.1 p.2)):=by
 kernel_rfl
theorem zny(w:World):(openEnds treeTable pv w 20000).map (Xy ms xs lk)=some (ms.map (λm=>some (Ay m.q m.st)),true):=by
 kernel_rfl
theorem ws:PySem.Challenge.rw_ringhues_k56_whole_counts_of_webs_made_o.wellSaid=true:=by
 kernel_rfl
theorem zmX(w:World):(openEnds treeTable pv w 20000).map (Az bd)=some (A_ bd):=by
 kernel_rfl
theorem left:LeftO pv qv loose (λs=>xlAt qv [] s&&recOk [] s) (λs=>(mL fs ms xs lk s,Az bd s)) (λw=>(nU fs ms w,A_ bd)) 20000:=zkz (zfx zm6 zmQ znN zny) zmX
end eY
namespace L2
open PySem PySem.Spec PyProof.Rows
theorem fG{α:Sort u}{β:Sort v}{A B C:α->β->Prop}{P:Prop}(h:∃x y,A x y/\B x y/\C x y)(k:∀x y,A x y->B x y->C x y->P):P:=by
 obtain⟨x,y,a,b,c⟩:=h;exact k x y a b c
theorem Qn{α:Sort u}{β:Sort v}{γ:Sort w}{A B:α->β->Prop}{C D:α->β->γ->Prop}{P:Prop}(h:∃x y,A x y/\B x y/\∃z,C x y z/\D x y z)(k:∀x y,A x y->B x y->∀z,C x y z->D x y z->P):P:=by
 obtain⟨x,y,a,b,z,c,d⟩:=h;exact k x y a b z c d
theorem wJ{α:Sort u}{A B:α->Prop}{P:Prop}(h:∃x,A x/\B x)(k:∀x,A x->B x->P):P:=by
 obtain⟨x,a,b⟩:=h;exact k x a b
noncomputable abbrev Key:=Sum Int Str
noncomputable def yS:Key->Value->Bool
 |.inl k,v=>Value.isInt k v
 |.inr x,v=>Value.isStrOf x v
noncomputable def Qo(w:World):Key->Int
 |.inl k=>hashInt k
 |.inr x=>hashStr w x
theorem wK:∀{k:Key} {v:Value},yS k v=true->(∃i t,k=Sum.inl i/\v=Value.int i t)\/(∃x t,k=Sum.inr x/\v=Value.str x t)
 |.inl i,v,h=>by
  obtain⟨t,e⟩:=Value.isInt_shape (k:=i) (v:=v) h;exact .inl ⟨i,t,rfl,e⟩
 |.inr x,v,h=>by
  obtain⟨t,e⟩:=Value.isStrOf_shape (x:=x) (v:=v) h;exact .inr ⟨x,t,rfl,e⟩
theorem zly(a b:Int):decide ((Sum.inl a:Key)=Sum.inl b)=(a==b):=by
 by_cases e:a=b
 ·subst e;simp
 ·have h:¬(Sum.inl a:Key)=Sum.inl b:=λq=>e (Sum.inl.inj q);rw[nQ h];exact(Dp.mpr e).symm
theorem zlz(a b:Str):decide ((Sum.inr a:Key)=Sum.inr b)=decide (a=b):=by
 by_cases e:a=b
 ·subst e;simp
 ·have h:¬(Sum.inr a:Key)=Sum.inr b:=λq=>e (Sum.inr.inj q);rw[nQ h,nQ e]
theorem zmS(a:Int)(b:Str):decide ((Sum.inl a:Key)=Sum.inr b)=false:=nQ (λq=>nomatch q)
theorem zmK(a:Str)(b:Int):decide ((Sum.inr a:Key)=Sum.inl b)=false:=nQ (λq=>nomatch q)
noncomputable def mO(prog:Program)(w:World):PySem.KeyKind prog w Key where
 is:=yS
 hash:=Qo w
 inj:=λv a b ha hb=>by
  rcases wK ha with ⟨i,t,rfl,rfl⟩|⟨x,t,rfl,rfl⟩
  ·rcases wK hb with ⟨j,u,rfl,e⟩|⟨y,u,rfl,e⟩
   ·injection e with e1 _;rw[e1]
   ·exact nomatch e
  ·rcases wK hb with ⟨j,u,rfl,e⟩|⟨y,u,rfl,e⟩
   ·exact nomatch e
   ·injection e with e1 _;rw[e1]
 byValue:=λk v h=>by
  rcases wK h with ⟨i,t,rfl,rfl⟩|⟨x,t,rfl,rfl⟩<;>rfl
 pyHash:=λhv h=>by
  rcases wK hv with ⟨i,t,rfl,rfl⟩|⟨x,t,rfl,rfl⟩
  ·exact wpAny_pyHash_int h
  ·exact wpAny_pyHash_str h
 eqBool:=λhu hv h=>by
  rcases wK hu with ⟨i,t,rfl,rfl⟩|⟨x,t,rfl,rfl⟩
  ·rcases wK hv with ⟨j,u,rfl,rfl⟩|⟨y,u,rfl,rfl⟩
   ·rw[zly] at h;exact wpAny_eqBool_int h
   ·rw[zmS] at h;exact SeqAt.EqAt.int_str i t y u _ _ _ _ h
  ·rcases wK hv with ⟨j,u,rfl,rfl⟩|⟨y,u,rfl,rfl⟩
   ·rw[zmK] at h;exact SeqAt.EqAt.str_int x t j u _ _ _ _ h
   ·rw[zlz] at h;exact wpAny_eqBool_str h
 «strs»:=λk x t v h=>by
  rcases wK h with ⟨i,u,rfl,e⟩|⟨y,u,rfl,e⟩
  ·exact nomatch e
  ·injection e with e1 _;subst e1;cases v<;>rfl
inductive V where
 |non|bl (b:Bool)|int (i:Int)|str (x:Str)|Ba (b:Array UInt8)|flt (b:UInt64)|ref (a:Addr)|ty (n:String)
 deriving DecidableEq
noncomputable def RelV:V->Value->Prop
 |.non,u=>u=Value.none
 |.bl b,u=>u=Value.bool b
 |.int i,u=>∃t,u=Value.int i t
 |.str x,u=>∃t,u=Value.str x t
 |.Ba b,u=>∃t,u=Value.bytes b t
 |.flt b,u=>∃t,u=Value.float b t
 |.ref a,u=>u=Value.ref a
 |.ty n,u=>u=Value.type n
noncomputable abbrev Vals:List V->List Value->Prop:=Paired RelV
theorem Vals.length{xs:List V}{us:List Value}(r:Vals xs us):xs.length=us.length:=Paired.length r
theorem Vals.get:∀{xs:List V} {us:List Value} {i:Nat} {x:V},Vals xs us->xs[i]?=some x->∃u,us[i]?=some u/\RelV x u
 |_,_,_,_,.nil,e=>by simp at e
 |_,_,0,_,.cons r _,e=>by simp at e;subst e;exact⟨_,rfl,r⟩
 |_,_,i+1,x,.cons _ t,e=>by
  obtain⟨u,h1,h2⟩:=Vals.get (i:=i) (x:=x) t (by simpa using e);exact⟨u,by simpa using h1,h2⟩
theorem Vals.set{x:V}{u:Value}(r:RelV x u):∀{xs:List V} {us:List Value} (i:Nat),Vals xs us->Vals (xs.set i x) (us.set i u)
 |_,_,_,.nil=>.nil
 |_,_,0,.cons _ t=>.cons r t
 |_,_,i+1,.cons q t=>.cons q (Vals.set r i t)
theorem Vals.append{xs ys:List V}{us ws:List Value}(h:Vals xs us)(s:Vals ys ws):Vals (xs++ys) (us++ws):=by
 induction h with
 |nil=>exact s
 |cons r _ ih=>exact .cons r ih
theorem Vals.take:∀{xs:List V} {us:List Value} (n:Nat),Vals xs us->Vals (xs.take n) (us.take n)
 |_,_,0,_=>.nil
 |_,_,_+1,.nil=>.nil
 |_,_,n+1,.cons r t=>.cons r (Vals.take n t)
theorem Vals.drop:∀{xs:List V} {us:List Value} (n:Nat),Vals xs us->Vals (xs.drop n) (us.drop n)
 |_,_,0,r=>r
 |_,_,_+1,.nil=>.nil
 |_,_,n+1,.cons _ t=>Vals.drop n t
noncomputable def rJ:Option V->Option Value->Prop
 |some v,some u=>RelV v u
 |none,none=>True
 |_,_=>False
noncomputable def KV{κ:Type}:List (κ×V)->List (κ×Value)->Prop:=Paired λ(p:κ×V) (q:κ×Value)=>p.1=q.1/\RelV p.2 q.2
noncomputable def kV:Key->V
 |.inl i=>.int i
 |.inr x=>.str x
inductive HO where
 |lst (xs:List V)
 |tup (xs:List V)
 |dK (kvs:List (Key×V))|dT (kvs:List (List Key×V))
 |set (S:Int->Bool) (n:Nat)
 |ins (C dx:Addr) (fs:List (Str×V))
 |own (x:Addr)
 |xd (fs:List (Str×V))
 |met (f x:Addr)
 |rng (lo hi:Int)
 |vM (o:Obj) (u:HO)
 |Bb (ps:Array Value)
 |ext (U:Heap->Prop)
noncomputable abbrev Hp:=Addr->Option HO
noncomputable def upd(H:Hp)(a:Addr)(o:HO):Hp:=λb=>if b=a then some o else H b
theorem jT{H:Hp}{a:Addr}{o:HO}:upd H a o a=some o:=by unfold upd;rw[if_pos rfl]
theorem dD{H:Hp}{a b:Addr}{o:HO}(h:b≠a):upd H a o b=H b:=by unfold upd;rw[if_neg h]
theorem Xz{H:Hp}{a:Addr}{o u:HO}:upd (upd H a o) a u=upd H a u:=by
 funext b;unfold upd;split<;>rfl
theorem El{H:Hp}{a b:Addr}{o:HO}(h:H a=some o)(h':H b=none):a≠b:=by
 intro e;subst e;rw[h] at h';cases h'
section
variable (P:Program)(w:World)
noncomputable def bR(H:Hp)(h:Heap)(a:Addr):HO->Prop
 |.lst xs=>xs.length<=sizeLine/\∃(its:List Value) (n:Nat),Vals xs its/\h.get? a=some {cls:=.type "list",data:=.seq its.toArray n}
 |.tup xs=>xs.length<=sizeLine/\∃its:List Value,Vals xs its/\IsTup h a its.toArray
 |.dK kvs=>kvs.length<=sizeLine/\(a==sysModules)=false/\∃vs,KV kvs vs/\h.DictOf (mO P w) a vs
 |.dT kvs=>kvs.length<=sizeLine/\(a==sysModules)=false/\∃xs:List (List Key×Addr×Value),
   Paired (λ(p:List Key×V) (q:List Key×Addr×Value)=>p.1=q.1/\H q.2.1=some (.tup (p.1.map kV))/\RelV p.2 q.2.2) kvs xs /\
   ∃o es ep,h.get? a=some o/\o.ExactDict/\o.data=.dict es ep/\es.toList=xs.map (entryOfKey (tupleKind (mO P w)))/\(xs.map (·.1)).Nodup
 |.set S n=>h.SetOf (intKind P w) a S n
 |.ins C dx fs=>H dx=some (.own a)/\fs.length<=1000/\dx≠a/\h.get? a=some (PySem.W.instObj C dx) /\
   ∃mA,h.Ns1 dx mA/\(∀f,rJ (fs.lookup f) (mA f))/\PySem.Within mA (fs.map (·.1))
 |.own _=>∃o,h.get? a=some o
 |.xd fs=>∃mA,h.Ns1 a mA/\∀f,rJ (fs.lookup f) (mA f)
 |.rng lo hi=>∃t u v,h.get? a=some {cls:=.type "range",data:=.fields #[.int lo t,.int hi u,.int 1 v]}
 |.vM o u=>h.get? a=some o/\bR H h a u
 |.Bb ps=>h.get? a=some {cls:=.none,data:=.fields ps}
 |.met f x=>h.get? a=some (PySem.W.methodObj (.ref f) (.ref x))
 |.ext U=>U h/\(∃o,h.get? a=some o)/\∀h1 h2:Heap,U h1->(∀o,h1.get? a=some o->h2.get? a=some o)->U h2
def i_(H:Hp)(h:Heap):Prop:=∀a o,H a=some o->bR P w H h a o
end
section
variable {P:Program}{w:World}{H H':Hp}{h h':Heap}{a:Addr}{o:HO}
theorem bR.lt(x:bR P w H h a o):a<h.objs.size:=by
 cases o with
 |lst xs=>obtain⟨_,_,_,_,e⟩:=x;exact bY e
 |tup xs=>obtain⟨_,_,_,p⟩:=x;exact p.lt
 |dK kvs=>obtain⟨_,_,_,_,o,_,_,e,_⟩:=x;exact bY e
 |dT kvs=>obtain⟨_,_,_,_,o,_,_,e,_⟩:=x;exact bY e
 |set S n=>obtain⟨o,_,_,_,e,_⟩:=x;exact bY e
 |ins C dx fs=>obtain⟨_,_,_,e,_⟩:=x;exact bY e
 |own y=>obtain⟨_,e⟩:=x;exact bY e
 |xd fs=>obtain⟨_,⟨_,_,_,e,_⟩,_⟩:=x;exact bY e
 |rng lo hi=>obtain⟨_,_,_,e⟩:=x;exact bY e
 |vM ob u=>obtain⟨e,_⟩:=x;exact bY e
 |Bb ps=>exact bY (show h.get? a=some _ from x)
 |met f y=>exact bY (show h.get? a=some _ from x)
 |ext U=>obtain⟨_,⟨_,e⟩,_⟩:=x;exact bY e
theorem XD{α β:Type}{F G:α->β->Prop}:∀{l₁:List α} {l₂:List β},Paired F l₁ l₂->(∀a b,F a b->G a b)->Paired G l₁ l₂
 |_,_,.nil,_=>.nil
 |_,_,.cons r t,f=>.cons (f _ _ r) (XD t f)
theorem bR.stay(x:bR P w H h a o)(k:∀b u,(b=a\/H b=some (.own a))->h.get? b=some u->h'.get? b=some u)
  (ho:∀b,H b=some (.own a)->H' b=some (.own a)) (ht:∀b xs,H b=some (.tup xs)->H' b=some (.tup xs)):bR P w H' h' a o:=by
 induction o with
 |lst xs=>obtain⟨z,its,n,r,e⟩:=x;exact⟨z,its,n,r,k _ _ (.inl rfl) e⟩
 |tup xs=>obtain⟨z,its,r,ob,e,c⟩:=x;exact⟨z,its,r,ob,k _ _ (.inl rfl) e,c⟩
 |dK kvs=>obtain⟨z,y,vs,r,ob,es,ep,e,c⟩:=x;exact⟨z,y,vs,r,ob,es,ep,k _ _ (.inl rfl) e,c⟩
 |dT kvs=>
  obtain⟨z,y,xs,r,ob,es,ep,e,c⟩:=x;exact⟨z,y,xs,XD r λp q z=>⟨z.1,ht _ _ z.2.1,z.2.2⟩,ob,es,ep,k _ _ (.inl rfl) e,c⟩
 |set S n=>obtain⟨ob,es,ep,t,e,c⟩:=x;exact⟨ob,es,ep,t,k _ _ (.inl rfl) e,c⟩
 |ins C dx fs=>
  obtain⟨d,z,ne,e,mA,⟨od,es,ep,e2,c⟩,r⟩:=x;exact⟨ho _ d,z,ne,k _ _ (.inl rfl) e,mA,⟨od,es,ep,k _ _ (.inr d) e2,c⟩,r⟩
 |own y=>obtain⟨ob,e⟩:=x;exact⟨ob,k _ _ (.inl rfl) e⟩
 |xd fs=>obtain⟨mA,⟨od,es,ep,e,c⟩,r⟩:=x;exact⟨mA,⟨od,es,ep,k _ _ (.inl rfl) e,c⟩,r⟩
 |rng lo hi=>obtain⟨t,u,v,e⟩:=x;exact⟨t,u,v,k _ _ (.inl rfl) e⟩
 |vM ob u ih=>obtain⟨e,q⟩:=x;exact⟨k _ _ (.inl rfl) e,ih q⟩
 |Bb ps=>
  have e:h.get? a=some {cls:=.none,data:=.fields ps}:=x;show h'.get? a=some {cls:=.none,data:=.fields ps};exact k a _ (.inl rfl) e
 |met f y=>
  have e:h.get? a=some (PySem.W.methodObj (.ref f) (.ref y)):=x;show h'.get? a=some (PySem.W.methodObj (.ref f) (.ref y));exact k a _ (.inl rfl) e
 |ext U=>obtain⟨p,⟨o,e⟩,st⟩:=x;exact⟨st _ _ p λo q=>k _ _ (.inl rfl) q,⟨o,k _ _ (.inl rfl) e⟩,st⟩
theorem i_.lt(x:i_ P w H h)(e:H a=some o):a<h.objs.size:=(x a o e).lt
theorem i_.fresh(x:i_ P w H h)(e:h.objs.size<=a):H a=none:=by
 cases q:H a with
 |none=>rfl
 |some u=>exact absurd (iY (x.lt q) e) (pD _)
theorem i_.kept(x:i_ P w H h)(k:∀b u,h.get? b=some u->h'.get? b=some u):i_ P w H h':=λa o e=>
 (x a o e).stay (λb u _ q=>k b u q) (λ_ q=>q) λ_ _ q=>q
theorem i_.laid(x:i_ P w H h)(k:∀b u,h.get? b=some u->h'.get? b=some u)(hp:h.objs.size<=a)(new:bR P w (upd H a o) h' a o):i_ P w (upd H a o) h':=λb u e=>by
 have hn:=x.fresh hp;by_cases hb:b=a
 ·subst hb;rw[jT] at e;cases e;exact new
 ·rw[dD hb] at e;exact(x b u e).stay (λc v _ q=>k c v q) (λc q=>by rw[dD (El q hn)];exact q) λc xs q=>by rw[dD (El q hn)];exact q
end
def Rd(H:Hp)(a:Addr)(u:HO):Prop:=H a=some u\/∃o,H a=some (.vM o u)
theorem Rd.ok{P:Program}{w:World}{H:Hp}{h:Heap}{a:Addr}{u:HO}(r:Rd H a u)(x:i_ P w H h):bR P w H h a u:=by
 rcases r with r|⟨o,r⟩
 ·exact x a u r
 ·obtain⟨_,q⟩:=x a _ r;exact q
noncomputable def G3:Option HO->Prop
 |some (.lst _)=>True
 |some (.dK _)=>True
 |some (.dT _)=>True
 |some (.set _ _)=>True
 |some (.ins _ _ _)=>True
 |some (.ext _)=>True
 |_=>False
section
variable {P:Program}{w:World}{H:Hp}{h h':Heap}{x e:Addr}{o':HO}
theorem i_.write(ok:i_ P w H h)(mu:G3 (H x))(he:e=x\/H e=some (.own x))(k:∀b u,b≠e->h.get? b=some u->h'.get? b=some u)(Em:∃u,h'.get? e=some u)
  (new:bR P w (upd H x o') h' x o'):i_ P w (upd H x o') h':=λb u q=>by
 have G4:∀c y,H c=some (.own y)->c≠x:=λc y r z=>by subst z;rw[r] at mu;exact mu
 have Qp:∀c xs,H c=some (.tup xs)->c≠x:=λc xs r z=>by subst z;rw[r] at mu;exact mu
 by_cases hb:b=x
 ·subst hb;rw[jT] at q;cases q;exact new
 ·rw[dD hb] at q;by_cases Bc:b=e
  ·have q':H b=some (.own x):=by
    rcases he with z|z
    ·exact absurd (Bc.trans z) hb
    ·rw[Bc];exact z
   rw[q] at q';cases q';obtain⟨v,hv⟩:=Em;exact⟨v,by rw[Bc];exact hv⟩
  ·refine(ok b u q).stay (λc v hc r=>k c v ?_ r) (λc r=>by rw[dD (G4 c b r)];exact r) λc xs r=>by rw[dD (Qp c xs r)];exact r
   rcases hc with rfl|hc
   ·exact Bc
   ·rintro rfl;rcases he with z|z
    ·exact G4 c b hc z
    ·rw[hc] at z;cases z;exact hb rfl
end
structure Un(fs ex:List Addr)(H H':Hp)(h h':Heap):Prop where
 keep:∀b o,h.get? b=some o->H b=none->b∉fs->b∉ex->h'.get? b=some o
 slot:∀b o,h.get? b=some o->H b=none->b∈fs->b∉ex->∃sl,h'.get? b=some {o with slots:=sl}
 free:∀b o,h.get? b=some o->H b=none->b∉ex->H' b=none
 there:∀b o,h.get? b=some o->b∉ex->∃o',h'.get? b=some o'
 tups:∀b xs,H b=some (.tup xs)->H' b=some (.tup xs)
 k_:∀b o u,H b=some (.vM o u)->H' b=some (.vM o u)
 mQ:∀b ps,H b=some (.Bb ps)->∃more,H' b=some (.Bb (ps++more))
section
variable {fs fs' ex ex':List Addr}{H H1 H2:Hp}{h h1 h2 h':Heap}{a x e:Addr}{o:HO}
theorem Un.any(u:Un fs ex H H1 h h1){b:Addr}{ob:Obj}(q:h.get? b=some ob)(n:H b=none)(hx:b∉ex):∃sl,h1.get? b=some {ob with slots:=sl}:=by
 by_cases hb:b∈fs
 ·exact u.slot b ob q n hb hx
 ·exact⟨ob.slots,u.keep b ob q n hb hx⟩
theorem Un.kept(k:∀b u,h.get? b=some u->h'.get? b=some u):Un fs ex H H h h':=
 ⟨λb ob q _ _ _=>k b ob q,λb ob q _ _ _=>⟨ob.slots,k b ob q⟩,λ_ _ _ n _=>n,λb ob q _=>⟨ob,k b ob q⟩,λ_ _ q=>q,λ_ _ _ q=>q,λ_ ps q=>⟨#[],by rw[q];simp⟩⟩
theorem Un.refl:Un fs ex H H h h:=Un.kept λ_ _ q=>q
theorem Un.laid(k:∀b u,h.get? b=some u->h'.get? b=some u)(hp:h.objs.size<=a)(hn:H a=none):Un fs ex H (upd H a o) h h' where
 keep:=λb u q _ _ _=>k b u q
 slot:=λb u q _ _ _=>⟨u.slots,k b u q⟩
 free:=λb u q n _=>by rw[dD (dN (iY (bY q) hp))];exact n
 there:=λb u q _=>⟨u,k b u q⟩
 tups:=λb xs q=>by rw[dD (El q hn)];exact q
 k_:=λb u xs q=>by rw[dD (El q hn)];exact q
 mQ:=λb ps q=>⟨#[],by rw[dD (El q hn),q];simp⟩
theorem Un.write(mu:G3 (H x))(he:e=x\/H e=some (.own x))(k:∀b u,b≠e->h.get? b=some u->h'.get? b=some u)(Em:∃u,h'.get? e=some u):Un fs ex H (upd H x o) h h':=by
 have hx:∀b,H b=none->b≠x:=λb n z=>by subst z;rw[n] at mu;exact mu
 have hb:∀b,H b=none->b≠e:=λb n z=>by
  subst z;rcases he with r|r
  ·exact hx b n r
  ·rw[n] at r;cases r
 have hm:∀b u,H b=some u->¬G3 (some u)->b≠x:=λb u q nm z=>by subst z;rw[q] at mu;exact nm mu
 refine⟨λb u q n _ _=>k b u (hb b n) q,λb u q n _ _=>⟨u.slots,k b u (hb b n) q⟩,λb u q n _=>by rw[dD (hx b n)];exact n,λb u q _=>?_,
  λb xs q=>by rw[dD (hm b _ q λz=>z)];exact q,λb u xs q=>by rw[dD (hm b _ q λz=>z)];exact q,λb ps q=>⟨#[],by rw[dD (hm b _ q λz=>z),q];simp⟩⟩
 by_cases Bc:b=e
 ·subst Bc;exact Em
 ·exact⟨u,k b u Bc q⟩
end
noncomputable def LR(h:Heap)(H:Hp):List Addr:=(List.range h.objs.size).filter λa=>(H a).isSome
noncomputable def mR(h:Heap)(H:Hp):Heap:=PySem.W.hideAll h (LR h H)
theorem zgi(h:Heap)(H:Hp):(mR h H).objs.size=h.objs.size:=PySem.W.hideAll_size _ _
theorem zhW{h:Heap}{H:Hp}{b:Addr}{o:Obj}(e:h.get? b=some o)(n:H b=none):(mR h H).get? b=some o:=
 PySem.W.hideAll_get _ e λhm=>by
  have q:(H b).isSome=true:=(jD.mp hm).2;rw[n] at q;simp at q
theorem zk6{h:Heap}{H:Hp}{b:Addr}{o:Obj}(e:(mR h H).get? b=some o):h.get? b=some o/\H b=none:=by
 have e':h.get? b=some o:=PySem.W.of_hideAll (LR h H) e;refine⟨e',?_⟩;cases q:H b with
 |none=>rfl
 |some x=>
  have hm:b∈LR h H:=jD.mpr ⟨tR.mpr (bY e'),by simp[q]⟩;have z:(mR h H).get? b=none:=PySem.W.hideAll_none (LR h H) hm;rw[z] at e;cases e
structure Mod(K:W.Frag)(mg:Str->Option Value)(base:Heap):Prop where
 yQ:K.In base
 glob:base.Ns mainGlobals mg
 blt:∃mb,base.Ns builtinsNs mb/\∀x:Str,x≠"__name__"->mb x=bootBuiltins x
 nolimit:base.NoLimit
structure Cx where
 prog:Program
 w:World
 K:W.Frag
 mg:Str->Option Value
 base:Heap
 A:Around
 N:List Str
 s₀:Shared
 H₀:Hp
 env:Env
 outer:List Env
 stack:List Env
 ex:List Addr
 fn:Str->Bool
 aj:Bool
 pn:List (Addr×Obj)
 xe:Value->Shared->Prop
noncomputable def frs(l:List Env):List Addr:=l.filterMap (·.frame)
noncomputable abbrev Cx.fs(X:Cx):List Addr:=frs X.outer
def Qq(sc:Scope)(x:Str):Prop:=sc.names.lookup x=some .local\/sc.names.lookup x=some .cell\/sc.names.lookup x=some .free
def Loc(sc:Scope)(x:Str):Prop:=sc.names.lookup x=some .local\/sc.names.lookup x=some .cell
def Look(env:Env)(h:Heap)(m:Str->Option Value)(x:Str)(u:Value):Prop:=
 (env.kindOf x=some .local/\m x=some u)\/((env.kindOf x=some .cell\/env.kindOf x=some .free)/\∃c,env.cells.lookup x=some c/\h.IsCell c (some u))
structure Cx.Ok(X:Cx):Prop where
 mod:Mod X.K X.mg X.base
 kind:X.env.scope.kind=.function
 glob:X.env.globals=mainGlobals
 blt:X.env.builtins=builtinsNs
 above:X.s₀.heap.objs.size<=X.env.locals
 inj:∀x y c,X.env.cells.lookup x=some c->X.env.cells.lookup y=some c->x=y
 has:∀x,(X.env.kindOf x=some .cell\/X.env.kindOf x=some .free)->∃c,X.env.cells.lookup x=some c
 cab:∀x c,X.fn x=true->X.env.cells.lookup x=some c->X.s₀.heap.objs.size<=c
 hd:X.aj=true->X.A.handled=none
 frames:X.A.frames=some X.stack
 stk:X.stack=X.outer\/(X.stack=X.env::X.outer/\X.env.frame=some X.env.locals)
 exf:∀b∈X.ex,b≠X.env.locals/\∀x c,X.env.cells.lookup x=some c->c≠b
 bs:∀b o,X.base.get? b=some o->X.s₀.heap.get? b=some o/\X.H₀ b=none
 Bf:X.base.objs.size<=X.s₀.heap.objs.size
 Bg:∀b o,X.base.get? b=some o->b∉X.ex
 G5:∀b∈X.ex,b∉X.fs
 lg:X.s₀.heap.FunFrames X.base X.outer
 G6:∀b∈X.fs,X.H₀ b=none
structure Inv(X:Cx)(ao:List (Addr×Obj))(Z:List (Option V))(H:Hp)(s:Shared):Prop where
 ok:X.Ok
 os:s.os=X.s₀.os
 bare:AllBare s.gens
 base:Un X.fs X.ex X.H₀ H X.s₀.heap s.heap
 loc:∃m,s.heap.Ns X.env.locals m/\∀(i:Nat) (x:Str) (v:V),X.N[i]?=some x->Z[i]?=some (some v)->Qq X.env.scope x->∃u,RelV v u/\Look X.env s.heap m x u
 cell:∀x c,X.env.cells.lookup x=some c->∃v,s.heap.IsCell c v
 free:H X.env.locals=none
 jq:∀x c,X.env.cells.lookup x=some c->H c=none
 pin:∀p∈X.pn++ao,s.heap.get? p.1=some p.2/\H p.1=none/\p.1≠X.env.locals/\p.1∉X.fs/\∀v,p.2.data≠.cell v
 hok:i_ X.prog X.w H s.heap
 len:Z.length=X.N.length
section
variable {X:Cx}{ao:List (Addr×Obj)}{Z:List (Option V)}{H H':Hp}{s:Shared}{h':Heap}
theorem Cx.Ok.Qs(ok:X.Ok){b:Addr}{o:Obj}(e:X.base.get? b=some o):b∉X.fs:=λhb=>by
 have:=(ok.lg.mem hb).1;rw[e] at this;cases this
theorem Inv.bs(I:Inv X ao Z H s):∀b o,X.base.get? b=some o->s.heap.get? b=some o/\H b=none:=λb o e=>
 ⟨I.base.keep b o (I.ok.bs b o e).1 (I.ok.bs b o e).2 (I.ok.Qs e) (I.ok.Bg b o e),I.base.free b o (I.ok.bs b o e).1 (I.ok.bs b o e).2 (I.ok.Bg b o e)⟩
theorem Inv.bk(I:Inv X ao Z H s):∀b o,X.base.get? b=some o->s.heap.get? b=some o:=λb o e=>(I.bs b o e).1
theorem Inv.mod(I:Inv X ao Z H s):Mod X.K X.mg X.base:=I.ok.mod
theorem Inv.nW(I:Inv X ao Z H s):X.K.In s.heap:=I.ok.mod.yQ.keeps I.bk
theorem Inv.lt(I:Inv X ao Z H s):X.env.locals<s.heap.objs.size:=let ⟨_,hn,_⟩:=I.loc;hn.lt
theorem Inv.sz(I:Inv X ao Z H s):X.s₀.heap.objs.size<=s.heap.objs.size:=jo I.ok.above (wH I.lt)
theorem Inv.Qt(I:Inv X ao Z H s){a:Addr}(h:s.heap.objs.size<=a):a∉X.fs:=λhb=>by
 obtain⟨_,o,ho,_⟩:=I.ok.lg.mem hb;exact absurd (iY (bY ho) (jo I.sz h)) (pD _)
theorem Inv.Bh(I:Inv X ao Z H s):∀x c,X.env.cells.lookup x=some c->c≠X.env.locals:=λx c e z=>by
 obtain⟨v,o,ho,hd⟩:=I.cell x c e;obtain⟨m,⟨o',es,ep,tY,G7,_⟩,_⟩:=I.loc;rw[z,tY] at ho;cases ho;rw[G7] at hd;cases hd
theorem Inv.lg(I:Inv X ao Z H s):s.heap.FunFrames X.base X.outer:=by
 have all:∀(l:List Env),(∀b∈frs l,b∈X.fs)->X.s₀.heap.FunFrames X.base l->s.heap.FunFrames X.base l:=by
  intro l
  induction l with
  |nil=>intro _ _;trivial
  |cons env r ih=>
   intro hs hl;obtain⟨hk,⟨L,o,hf,hn,ho,hd⟩,hr⟩:=hl;have hL:L∈X.fs:=hs L (by unfold frs;rw[wC,hf];exact lJ);obtain⟨sl,e⟩:=I.base.slot L o ho (I.ok.G6 L hL) hL λz=>I.ok.G5 L z hL;exact⟨hk,⟨L,_,hf,hn,e,hd⟩,ih (λb hb=>hs b (by unfold frs;rw[wC,hf];exact iz _ hb)) hr⟩
 exact all X.outer (λ_ hb=>hb) I.ok.lg
theorem Inv.stack(I:Inv X ao Z H s):s.heap.FunFrames X.base X.stack:=by
 rcases I.ok.stk with e|⟨e,hf⟩
 ·rw[e];exact I.lg
 ·rw[e];obtain⟨m,hn,_⟩:=I.loc;refine .cons (by rw[I.ok.kind];decide) hf hn ?_ I.lg;exact Gj (jo I.ok.Bf I.ok.above)
theorem Inv.jX(I:Inv X ao Z H s):∀b∈frs X.stack,b∈X.env.locals::X.fs:=λb hb=>by
 rcases I.ok.stk with e|⟨e,hf⟩
 ·rw[e] at hb;exact iz _ hb
 ·rw[e] at hb;unfold frs at hb;rw[wC,hf] at hb;exact hb
theorem Inv.mU(I:Inv X ao Z H s):∀b∈frs X.stack,H b=none:=λb hb=>by
 rcases gQ.mp (I.jX b hb) with e|hb
 ·rw[e];exact I.free
 ·obtain⟨_,o,ho,_⟩:=I.ok.lg.mem hb;exact I.base.free b o ho (I.ok.G6 b hb) λz=>I.ok.G5 b z hb
theorem Inv.step{g':Array GenState}{t':Nat}{d':Drawn}{ch:List Addr}(I:Inv X ao Z H s)
  (vN:∀b∈ch,(b∈X.ex\/X.s₀.heap.get? b=none)/\b≠X.env.locals/\(∀x c,X.env.cells.lookup x=some c->c≠b)/\∀p∈X.pn++ao,p.1≠b)
  (keep:∀b o,b≠X.env.locals->b∉X.fs->b∉ch->s.heap.get? b=some o->H b=none->h'.get? b=some o)
  (slot:∀b o,b≠X.env.locals->b∈X.fs->b∉ch->s.heap.get? b=some o->H b=none->∃sl,h'.get? b=some {o with slots:=sl}) (free:∀b o,b∉ch->s.heap.get? b=some o->H b=none->H' b=none)
  (there:∀b o,b∉ch->s.heap.get? b=some o->∃o',h'.get? b=some o')
  (tups:∀b xs,H b=some (.tup xs)->H' b=some (.tup xs)) (k_:∀b o u,H b=some (.vM o u)->H' b=some (.vM o u)) (mQ:∀b ps,H b=some (.Bb ps)->∃more,H' b=some (.Bb (ps++more)))
  (ns:∀m,s.heap.Ns X.env.locals m->h'.Ns X.env.locals m) (hok:i_ X.prog X.w H' h') (hg:AllBare g') :
  Inv X ao Z H' {s with heap:=h',gens:=g',drawn:=d',toks:=t'}:=by
 have XH:∀b o,X.s₀.heap.get? b=some o->b≠X.env.locals:=λb o e=>dN (iY (bY e) I.ok.above);have L_:∀b o,X.s₀.heap.get? b=some o->b∉X.ex->b∉ch:=λb o e hx hb=>by
  rcases(vN b hb).1 with z|z
  ·exact hx z
  ·rw[e] at z;cases z
 have cellK:∀x c,X.env.cells.lookup x=some c->∀v,s.heap.IsCell c v->h'.IsCell c v:=λx c e v hx=>wJ hx λo ho hd=>by
  have G8:c∉ch:=λz=>(vN c z).2.2.1 x c e rfl;by_cases hc:c∈X.fs
  ·obtain⟨sl,q⟩:=slot c o (I.Bh x c e) hc G8 ho (I.jq x c e);exact⟨_,q,hd⟩
  ·exact⟨o,keep c o (I.Bh x c e) hc G8 ho (I.jq x c e),hd⟩
 refine⟨I.ok,I.os,hg,⟨λb o e n hb hx=>?_,λb o e n hb hx=>?_,λb o e n hx=>?_,λb o e hx=>?_,λb xs e=>tups b xs (I.base.tups b xs e),λb o xs e=>k_ b o xs (I.base.k_ b o xs e),λb ps e=>?_⟩,?_,λx c e=>?_,?_,λx c e=>?_,λp hp=>?_,hok,I.len⟩
 ·exact keep b o (XH b o e) hb (L_ b o e hx) (I.base.keep b o e n hb hx) (I.base.free b o e n hx)
 ·obtain⟨sl,e1⟩:=I.base.slot b o e n hb hx;obtain⟨sl',e2⟩:=slot b _ (XH b o e) hb (L_ b o e hx) e1 (I.base.free b o e n hx);exact⟨sl',e2⟩
 ·obtain⟨o',e1⟩:=I.base.there b o e hx;exact free b o' (L_ b o e hx) e1 (I.base.free b o e n hx)
 ·obtain⟨o',e1⟩:=I.base.there b o e hx;exact there b o' (L_ b o e hx) e1
 ·obtain⟨m1,e1⟩:=I.base.mQ b ps e;obtain⟨m2,e2⟩:=mQ b _ e1;exact⟨m1++m2,by rw[e2,Array.append_assoc]⟩
 ·obtain⟨m,hn,hl⟩:=I.loc;refine⟨m,ns m hn,λi x v e1 e2 e3=>?_⟩;obtain⟨u,r,l⟩:=hl i x v e1 e2 e3;refine⟨u,r,?_⟩;rcases l with l|⟨k,c,e,z⟩
  ·exact .inl l
  ·exact .inr ⟨k,c,e,cellK x c e _ z⟩
 ·obtain⟨v,z⟩:=I.cell x c e;exact⟨v,cellK x c e v z⟩
 ·obtain⟨m,⟨o,_,_,ho,_⟩,_⟩:=I.loc;exact free _ o (λz=>(vN _ z).2.1 rfl) ho I.free
 ·obtain⟨v,o,ho,hd⟩:=I.cell x c e;exact free c o (λz=>(vN c z).2.2.1 x c e rfl) ho (I.jq x c e)
 ·obtain⟨e,n,ne,nf,d⟩:=I.pin p hp;have G8:p.1∉ch:=λz=>(vN p.1 z).2.2.2 p hp rfl;exact⟨keep p.1 p.2 ne nf G8 e n,free p.1 p.2 G8 e n,ne,nf,d⟩
theorem Inv.un{t':Nat}(I:Inv X ao Z H s)(u:Un X.fs [] H H' s.heap h')(hok:i_ X.prog X.w H' h'):Inv X ao Z H' {s with heap:=h',toks:=t'}:=by
 obtain⟨m,⟨o,es,ep,ho,r⟩,_⟩:=id I.loc;obtain⟨sl,hL⟩:=u.any ho I.free (by simp);exact I.step (g':=s.gens) (d':=s.drawn) (ch:=[]) (λ_ z=>nomatch z) (λb o _ hb _ e n=>u.keep b o e n hb (by simp)) (λb o _ hb _ e n=>u.slot b o e n hb (by simp)) (λb o _ e n=>u.free b o e n (by simp)) (λb o _ e=>u.there b o e (by simp)) u.tups u.k_ u.mQ (λm' hm=>by
  obtain⟨o',es',ep',tY,r'⟩:=hm;rw[ho] at tY;cases tY;exact⟨_,es',ep',hL,r'⟩) hok I.bare
theorem Inv.call{g':Array GenState}{t':Nat}{d':Drawn}{ch:List Addr}(I:Inv X ao Z H s)(u:Un (frs X.stack) ch H H' s.heap h')(hok:i_ X.prog X.w H' h')(hg:AllBare g')
  (vN:∀b∈ch,(b∈X.ex\/X.s₀.heap.get? b=none)/\b≠X.env.locals/\(∀x c,X.env.cells.lookup x=some c->c≠b)/\∀p∈X.pn++ao,p.1≠b) :
  Inv X ao Z H' {s with heap:=h',gens:=g',drawn:=d',toks:=t'}:=by
 obtain⟨m,⟨o,es,ep,ho,r⟩,_⟩:=id I.loc;obtain⟨sl,hL⟩:=u.any ho I.free λz=>(vN _ z).2.1 rfl;exact I.step (ch:=ch) vN (λb o hL hb hc e n=>u.keep b o e n (λz=>(gQ.mp (I.jX b z)).elim hL hb) hc) (λb o _ _ hc e n=>u.any e n hc) (λb o hc e n=>u.free b o e n hc) (λb o hc e=>u.there b o e hc) u.tups u.k_ u.mQ (λm' hm=>by
  obtain⟨o',es',ep',tY,r'⟩:=hm;rw[ho] at tY;cases tY;exact⟨_,es',ep',hL,r'⟩) hok hg
theorem Inv.turned{t':Nat}{it:Addr}(I:Inv X ao Z H s)(k:∀b o,b≠it->s.heap.get? b=some o->h'.get? b=some o)(hn:H it=none)(hL:it≠X.env.locals)
  (h1:it∈X.ex\/X.s₀.heap.objs.size<=it) (h2:∀x c,X.env.cells.lookup x=some c->c≠it) (h3:∀p∈X.pn++ao,p.1≠it):Inv X ao Z H {s with heap:=h',toks:=t'}:=by
 have yU:∀b u,H b=some u->b≠it:=λb u e z=>by rw[z,hn] at e;cases e
 refine I.step (g':=s.gens) (d':=s.drawn) (ch:=[it]) (λb hb=>?_) (λb o _ _ hc e _=>k b o (λz=>hc (by simp[z])) e) (λb o _ _ hc e _=>⟨o.slots,k b o (λz=>hc (by simp[z])) e⟩) (λ_ _ _ _ n=>n)
  (λb o hc e=>⟨o,k b o (λz=>hc (by simp[z])) e⟩) (λ_ _ e=>e) (λ_ _ _ e=>e) (λb ps e=>⟨#[],by rw[e];simp⟩) (λm hm=>?_) (λb u e=>?_) I.bare
 ·have e:b=it:=by simpa using hb
  subst e;exact⟨h1.imp id λz=>Gj z,hL,h2,h3⟩
 ·obtain⟨o,es,ep,ho,r⟩:=hm;exact⟨o,es,ep,k _ o (Ne.symm hL) ho,r⟩
 ·refine(I.hok b u e).stay (λc v hc q=>k c v ?_ q) (λ_ q=>q) λ_ _ q=>q;rcases hc with z|z
  ·rw[z];exact yU b u e
  ·exact yU c _ z
theorem Inv.tok(I:Inv X ao Z H s)(t:Nat):Inv X ao Z H {s with toks:=t}:=I.un (h':=s.heap) (t':=t) Un.refl I.hok
theorem Inv.kept{t':Nat}(I:Inv X ao Z H s)(k:∀b u,s.heap.get? b=some u->h'.get? b=some u):Inv X ao Z H {s with heap:=h',toks:=t'}:=I.un (Un.kept k) (I.hok.kept k)
theorem Inv.laid{a:Addr}{o:HO}{t':Nat}(I:Inv X ao Z H s)(k:∀b u,s.heap.get? b=some u->h'.get? b=some u)(hp:s.heap.objs.size<=a)(new:bR X.prog X.w (upd H a o) h' a o) :
  Inv X ao Z (upd H a o) {s with heap:=h',toks:=t'}:=I.un (Un.laid k hp (I.hok.fresh hp)) (I.hok.laid k hp new)
theorem Inv.write{x e:Addr}{o:HO}{t':Nat}(I:Inv X ao Z H s)(mu:G3 (H x))(he:e=x\/H e=some (.own x))(k:∀b u,b≠e->s.heap.get? b=some u->h'.get? b=some u)(Em:∃u,h'.get? e=some u)
  (new:bR X.prog X.w (upd H x o) h' x o):Inv X ao Z (upd H x o) {s with heap:=h',toks:=t'}:=I.un (Un.write mu he k Em) (I.hok.write mu he k Em new)
theorem Inv.mV{jr:List (Addr×Obj)}(I:Inv X ao Z H s)(h:∀p∈jr,s.heap.get? p.1=some p.2/\H p.1=none/\p.1≠X.env.locals/\p.1∉X.fs/\∀v,p.2.data≠.cell v):Inv X jr Z H s:=
 ⟨I.ok,I.os,I.bare,I.base,I.loc,I.cell,I.free,I.jq,λp hp=>(jR.mp hp).elim (λz=>I.pin p (Le _ z)) (h p),I.hok,I.len⟩
theorem XJ{N:List Str}(hN:N.Nodup){i j:Nat}{x:Str}(a:N[i]?=some x)(b:N[j]?=some x):i=j:=by
 obtain⟨h1,e1⟩:=dO.mp a;obtain⟨h2,e2⟩:=dO.mp b;exact(Aj hN).mp (e1.trans e2.symm)
theorem Qu{M:Model}{A:Around}{E:Value->Shared->Prop}{i:Nat}{x:Str}{v:V}{u:Value}{Q:Unit->Shared->Prop}(I:Inv X ao Z H s)(hN:X.N.Nodup)(hi:X.N[i]?=some x)(hx:Loc X.env.scope x)(r:RelV v u)
  (h:∀s',Inv X ao (Z.set i (some v)) H s'->(∃a,Heap.SameBut a s.heap s'.heap/\(a=X.env.locals\/X.env.cells.lookup x=some a))->Q () s') (hf:X.fn x=true\/X.env.scope.names.lookup x=some .local:=by first|exact .inl rfl|exact .inr rfl|assumption):wpAny M A (storeName X.env x u) Q E s:=by
 obtain⟨m,hn,hl⟩:=id I.loc;have Qv:(X.env.scope.kind==.class||(X.env.scope.kind==.module&&X.env.locals != X.env.globals))=false:=by rw[I.ok.kind];rfl
 have XM:i<Z.length:=by rw[I.len];exact(dO.mp hi).1
 have Bh:=I.Bh;have tracked:∀{a:Addr} {h':Heap},(∃o,s.heap.get? a=some o/\H a=none)->Heap.SameBut a s.heap h'->i_ X.prog X.w H h':=λ{a h'} ha hs b ob e=>by
  obtain⟨_,_,qG⟩:=ha;refine(I.hok b ob e).stay (λc w' hc q=>(hs.2 c ?_).trans q) (λ_ q=>q) λ_ _ q=>q;rintro rfl;rcases hc with rfl|hc
  ·rw[qG] at e;cases e
  ·rw[qG] at hc;cases hc
 rcases hx with hk|hk
 ·refine wpAny_storeName_local hk hn (λh' hn' hs=>?_) Qv;obtain⟨oL,_,_,Ma,_⟩:=id hn;refine h _ ⟨I.ok,I.os,I.bare,⟨λb o e n hb hx=>?_,λb o e n hb hx=>?_,I.base.free,λb o e hx=>?_,I.base.tups,I.base.k_,I.base.mQ⟩,⟨_,hn',λj y v' e1 e2 e3=>?_⟩,λy c e=>?_,I.free,I.jq,λp hp=>?_,tracked ⟨oL,Ma,I.free⟩ hs,by simpa using I.len⟩ ⟨_,hs,.inl rfl⟩
  ·exact(hs.2 b (dN (iY (bY e) I.ok.above))).trans (I.base.keep b o e n hb hx)
  ·obtain⟨sl,e1⟩:=I.base.slot b o e n hb hx;exact⟨sl,(hs.2 b (dN (iY (bY e) I.ok.above))).trans e1⟩
  ·obtain⟨o',e1⟩:=I.base.there b o e hx;exact⟨o',(hs.2 b (dN (iY (bY e) I.ok.above))).trans e1⟩
  ·by_cases hj:j=i
   ·subst hj;rw[hi] at e1;cases e1;rw[yH XM] at e2;cases e2;exact⟨u,r,.inl ⟨hk,by simp⟩⟩
   ·rw[qy (Ne.symm hj)] at e2;obtain⟨u',r',q⟩:=hl j y v' e1 e2 e3;refine⟨u',r',?_⟩;rcases q with ⟨k,e⟩|⟨k,c,e,z⟩
    ·refine .inl ⟨k,?_⟩;have:y≠x:=λe=>hj (XJ hN e1 (e▸hi));simp[this,e]
    ·exact .inr ⟨k,c,e,z.sameBut hs (Bh y c e)⟩
  ·obtain⟨w',z⟩:=I.cell y c e;exact⟨w',z.sameBut hs (Bh y c e)⟩
  ·obtain⟨e,n,ne,nf,d⟩:=I.pin p hp;exact⟨(hs.2 p.1 ne).trans e,n,ne,nf,d⟩
 ·have Qw:X.fn x=true:=by
   rcases hf with z|z
   ·exact z
   ·rw[z] at hk;cases hk
  obtain⟨c,hc⟩:=I.ok.has x (.inl hk);obtain⟨w',z⟩:=I.cell x c hc;refine wpAny_storeName_cell I.ok.kind hk hc z (λh' lq hs=>?_);obtain⟨oc,XQ,Qx⟩:=id z;refine h {s with heap:=h'} ⟨I.ok,I.os,I.bare,⟨λb o e n hb hx=>?_,λb o e n hb hx=>?_,I.base.free,λb o e hx=>?_,I.base.tups,I.base.k_,I.base.mQ⟩,⟨m,hn.sameBut hs (Ne.symm (Bh x c hc)),λj y v' e1 e2 e3=>?_⟩,λy c' e=>?_,I.free,I.jq,λp hp=>?_,tracked ⟨oc,XQ,I.jq x c hc⟩ hs,by simpa using I.len⟩ ⟨c,hs,.inr hc⟩
  ·exact(hs.2 b (dN (iY (bY e) (I.ok.cab x c Qw hc)))).trans (I.base.keep b o e n hb hx)
  ·obtain⟨sl,e1⟩:=I.base.slot b o e n hb hx;exact⟨sl,(hs.2 b (dN (iY (bY e) (I.ok.cab x c Qw hc)))).trans e1⟩
  ·obtain⟨o',e1⟩:=I.base.there b o e hx;exact⟨o',(hs.2 b (dN (iY (bY e) (I.ok.cab x c Qw hc)))).trans e1⟩
  ·by_cases hj:j=i
   ·subst hj;rw[hi] at e1;cases e1;rw[yH XM] at e2;cases e2;exact⟨u,r,.inr ⟨.inl hk,c,hc,lq⟩⟩
   ·rw[qy (Ne.symm hj)] at e2;obtain⟨u',r',q⟩:=hl j y v' e1 e2 e3;refine⟨u',r',?_⟩;rcases q with q|⟨k,c',e,z'⟩
    ·exact .inl q
    ·refine .inr ⟨k,c',e,z'.sameBut hs ?_⟩;rintro rfl;exact hj (XJ hN e1 (I.ok.inj _ _ _ e hc▸hi))
  ·by_cases XR:c'=c
   ·subst XR;exact⟨_,lq⟩
   ·obtain⟨w2,z2⟩:=I.cell y c' e;exact⟨w2,z2.sameBut hs XR⟩
  ·obtain⟨e,n,ne,nf,d⟩:=I.pin p hp;refine⟨(hs.2 p.1 ?_).trans e,n,ne,nf,d⟩;intro q;rw[q,XQ] at e;have q':oc=p.2:=cR e;exact d w' (by rw[<-q'];exact Qx)
theorem Mf{M:Model}{A:Around}{E:Value->Shared->Prop}{i:Nat}{x:Str}{v:V}{u:Value}{Q:Unit->Shared->Prop}(I:Inv X ao Z H s)(hN:X.N.Nodup)(hi:X.N[i]?=some x)(hx:Loc X.env.scope x)(r:RelV v u)
  (h:∀s',Inv X ao (Z.set i (some v)) H s'->Q () s') (hf:X.fn x=true\/X.env.scope.names.lookup x=some .local:=by first|exact .inl rfl|exact .inr rfl|assumption):wpAny M A (storeName X.env x u) Q E s:=
 Qu I hN hi hx r (λs' I' _=>h s' I') hf
theorem Inv.call'{s':Shared}{ch:List Addr}(I:Inv X ao Z H s)(ho:s'.os=s.os)(u:Un (frs X.stack) ch H H' s.heap s'.heap)(hok:i_ X.prog X.w H' s'.heap)(hg:AllBare s'.gens)
  (vN:∀b∈ch,(b∈X.ex\/X.s₀.heap.get? b=none)/\b≠X.env.locals/\(∀x c,X.env.cells.lookup x=some c->c≠b)/\∀p∈X.pn++ao,p.1≠b):Inv X ao Z H' s':=by
 obtain⟨h',g',d',t',o'⟩:=s';have e:o'=s.os:=ho;subst e;exact I.call (g':=g') (t':=t') (d':=d') u hok hg vN
end
noncomputable abbrev XK:=Value->Option Addr->Hp->Prop
noncomputable abbrev St:=List (Option V)
noncomputable abbrev VK:=V->Hp->Prop
noncomputable abbrev TE:=St->Hp->VK->Prop
noncomputable abbrev TT:=St->Hp->(Bool->Hp->Prop)->Prop
noncomputable abbrev TA:=St->Hp->(List V->Hp->Prop)->Prop
structure Ends where
 nx:St->Hp->Prop
 rt:VK
 bk:St->Hp->Prop:=λ_ _=>False
 ct:St->Hp->Prop:=λ_ _=>False
noncomputable abbrev TS:=Ends->St->Hp->Prop
def EP(X:Cx)(ao:List (Addr×Obj))(Z:St)(Q:VK)(u:Value)(s':Shared):Prop:=∃v H',Inv X ao Z H' s'/\RelV v u/\Q v H'
def TP(X:Cx)(ao:List (Addr×Obj))(Z:St)(Q:Bool->Hp->Prop)(b:Bool)(s':Shared):Prop:=∃H',Inv X ao Z H' s'/\Q b H'
def AP(X:Cx)(ao:List (Addr×Obj))(Z:St)(Q:List V->Hp->Prop)(us:List Value)(s':Shared):Prop:=∃vs H',Inv X ao Z H' s'/\Vals vs us/\Q vs H'
def SP(X:Cx)(ao:List (Addr×Obj))(D:Ends)(f:Flow)(s':Shared):Prop:=
 match f with
 |.next=>∃Z' H',Inv X ao Z' H' s'/\D.nx Z' H'
 |.brk=>∃Z' H',Inv X ao Z' H' s'/\D.bk Z' H'
 |.cont=>∃Z' H',Inv X ao Z' H' s'/\D.ct Z' H'
 |.ret u=>∃v Z' H',Inv X ao Z' H' s'/\RelV v u/\D.rt v H'
def PE(X:Cx)(e:Expr)(t:TE):Prop:=
 ∀(ao:List (Addr×Obj)) (s:Shared) (Z:St) (H:Hp) (Q:VK),Inv X ao Z H s->t Z H Q->wpAny (model X.prog X.w) X.A (eval e X.env) (EP X ao Z Q) X.xe s
def PT(X:Cx)(e:Expr)(t:TT):Prop:=
 ∀(ao:List (Addr×Obj)) (s:Shared) (Z:St) (H:Hp) (Q:Bool->Hp->Prop),Inv X ao Z H s->t Z H Q->wpAny (model X.prog X.w) X.A (isTrue e X.env (eval e X.env)) (TP X ao Z Q) X.xe s
def PW(X:Cx)(e:Expr)(t:TT):Prop:=
 ∀(whole:Sem Value) (ao:List (Addr×Obj)) (s:Shared) (Z:St) (H:Hp) (Q:Bool->Hp->Prop),Inv X ao Z H s->t Z H Q->wpAny (model X.prog X.w) X.A (isTrue e X.env whole) (TP X ao Z Q) X.xe s
theorem Kac{X:Cx}{e:Expr}{t:TT}(h:PW X e t):PT X e t:=h _
def PA(X:Cx)(es:List Expr)(t:TA):Prop:=
 ∀(pos:Pos) (ao:List (Addr×Obj)) (s:Shared) (Z:St) (H:Hp) (Q:List V->Hp->Prop),Inv X ao Z H s->t Z H Q->wpAny (model X.prog X.w) X.A (spliced (backTo pos (starEach es X.env))) (AP X ao Z Q) X.xe s
def PS(X:Cx)(st:Stmt)(t:TS):Prop:=
 ∀(ao:List (Addr×Obj)) (s:Shared) (Z:St) (H:Hp) (D:Ends),Inv X ao Z H s->t D Z H->wpAny (model X.prog X.w) X.A (exec st X.env) (SP X ao D) X.xe s
def qH(X:Cx)(st:List Stmt)(t:TS):Prop:=
 ∀(ao:List (Addr×Obj)) (s:Shared) (Z:St) (H:Hp) (D:Ends),Inv X ao Z H s->t D Z H->wpAny (model X.prog X.w) X.A (execs st X.env) (SP X ao D) X.xe s
theorem aW{α:Type}{t:Sem α}{Q Q':α->Shared->Prop}{M:Model}{A:Around}{E:Value->Shared->Prop}{s:Shared}(h:wpAny M A t Q E s)(hQ:∀a s,Q a s->Q' a s):wpAny M A t Q' E s:=gR h hQ λ_ _ x=>x
section
variable {X:Cx}
noncomputable def Qy(i:Nat):TE:=λZ H Q=>∃v,Z[i]?=some (some v)/\Q v H
noncomputable def tC(v:V):TE:=λ_ H Q=>Q v H
theorem X3{i:Nat}{x:Str}{pos:Pos}(hN:X.N[i]?=some x)(hv:Qq X.env.scope x)(hd:(x==("__debug__" : Str))=false:=by decide)(kY:(x==("__classdict__" : Str))=false:=by decide):PE X (.Name x pos) (Qy i):=by
 intro ao s Z H Q I h;obtain⟨v,e,h⟩:=h;obtain⟨m,hn,hl⟩:=I.loc;obtain⟨u,r,l⟩:=hl i x v hN e hv;have fin:EP X ao Z Q u s:=⟨v,H,I,r,h⟩;rcases l with ⟨hk,hm⟩|⟨hk,c,hc,yV⟩
 ·exact wpAny_Name (wpAny_loadName_local I.ok.kind hk hn hm fin) hd
 ·rcases hk with hk|hk
  ·exact wpAny_Name (wpAny_loadName_cell I.ok.kind hk hc yV fin) hd
  ·exact wpAny_Name (wpAny_loadName_free I.ok.kind hk hc yV fin kY) hd
theorem X4{i j pos}:PE X (.Constant (.int i) j pos) (tC (.int i)):=λ_ _ _ H _ I h=>wpAny_Constant_int ⟨.int i,H,I.tok _,⟨_,rfl⟩,h⟩
theorem zoF{b j pos}:PE X (.Constant (.bool b) j pos) (tC (.bl b)):=λ_ _ _ H _ I h=>Constant_bool ⟨.bl b,H,I,rfl,h⟩
theorem zlV{j pos}:PE X (.Constant .none j pos) (tC .non):=λ_ _ _ H _ I h=>Constant_none ⟨.non,H,I,rfl,h⟩
def Gl(X:Cx)(x:Str):Prop:=X.env.kindOf x=some .globalImplicit
theorem Qz{E:Value->Shared->Prop}{ao:List (Addr×Obj)}{s:Shared}{Z:St}{H:Hp}{x:Str}{u:Value}{pos:Pos}{Q:Value->Shared->Prop}(I:Inv X ao Z H s)(hg:Gl X x)(hm:X.mg x=some u)(h:Q u s)
  (hd:(x==("__debug__" : Str))=false:=by decide):wpAny (model X.prog X.w) X.A (eval (.Name x pos) X.env) Q E s:=
 Calls.Name_function_global I.ok.kind hg (Calls.loadGlobal_global (by rw[I.ok.glob];exact I.mod.glob.keeps I.bk) hm h) hd
theorem wL{E:Value->Shared->Prop}{ao:List (Addr×Obj)}{s:Shared}{Z:St}{H:Hp}{x:Str}{u:Value}{pos:Pos}{Q:Value->Shared->Prop}(I:Inv X ao Z H s)(hg:Gl X x)(hm:X.mg x=none)(hv:bootBuiltins x=some u)(h:Q u s)
  (hn:x≠"__name__":=by decide) (hd:(x==("__debug__" : Str))=false:=by decide):wpAny (model X.prog X.w) X.A (eval (.Name x pos) X.env) Q E s:=by
 obtain⟨mb,h1,h2⟩:=I.mod.blt;exact Calls.Name_function_global I.ok.kind hg (Calls.loadGlobal_builtin (by rw[I.ok.glob];exact I.mod.glob.keeps I.bk) hm (by rw[I.ok.blt];exact h1.keeps I.bk) ((h2 x hn).trans hv) h) hd
theorem zkX{x:Str}{v:V}{u:Value}{pos:Pos}(hg:Gl X x)(hm:X.mg x=some u)(r:RelV v u)(hd:(x==("__debug__" : Str))=false:=by decide):PE X (.Name x pos) (tC v):=
 λ_ _ _ H _ I h=>Qz I hg hm ⟨v,H,I,r,h⟩ hd
variable {a b:Expr}{ta tb:TE}{pos:Pos}
def PC(X:Cx)(op:CmpOp)(a b:Expr)(t:TE):Prop:=
 ∀(ao:List (Addr×Obj)) (s:Shared) (Z:St) (H:Hp) (Q:VK),Inv X ao Z H s->t Z H Q->
  wpAny (model X.prog X.w) X.A (eval a X.env) (λv s₁=>wpAny (model X.prog X.w) X.A (eval b X.env) (λu s₂=>wpAny (model X.prog X.w) X.A (compareOp op v u) (EP X ao Z Q) X.xe s₂) X.xe s₁) X.xe s
theorem nY(b:Expr){op:CmpOp}(h:op≠.In)(h2:op≠.NotIn):behindInMarks op b=false:=by
 have e1:(op==CmpOp.In)=false:=by cases op<;>first|rfl|exact absurd rfl h
 have e2:(op==CmpOp.NotIn)=false:=by cases op<;>first|rfl|exact absurd rfl h2
 cases b<;>simp[behindInMarks,e1,e2]
noncomputable def QB(ta:TE):TE:=λZ H Q=>ta Z H λx H1=>Q (.bl (decide (x=.non))) H1
noncomputable def G9(ta:TE):TE:=λZ H Q=>ta Z H λx H1=>Q (.bl (!decide (x=.non))) H1
theorem RelV.nZ{x:V}{v:Value}(r:RelV x v):(v==Value.none)=decide (x=.non):=by
 cases x with
 |non=>cases r;rfl
 |bl _=>cases r;rfl
 |int _=>obtain⟨t,rfl⟩:=r;rfl
 |str _=>obtain⟨t,rfl⟩:=r;rfl
 |Ba _=>obtain⟨t,rfl⟩:=r;rfl
 |flt _=>obtain⟨t,rfl⟩:=r;rfl
 |ref _=>cases r;rfl
 |ty _=>cases r;rfl
theorem X5{j pos'}(ha:PE X a ta):PC X .Is a (.Constant .none j pos') (QB ta):=by
 intro ao s Z H Q I h;refine aW (ha ao s Z H _ I h) λv s1 hx=>fG hx λx H1 I1 r1 q1=>?_;exact Constant_none (is_none_gen ⟨.bl _,H1,I1,by rw[r1.nZ];rfl,q1⟩)
theorem X6{j pos'}(ha:PE X a ta):PC X .IsNot a (.Constant .none j pos') (G9 ta):=by
 intro ao s Z H Q I h;refine aW (ha ao s Z H _ I h) λv s1 hx=>fG hx λx H1 I1 r1 q1=>?_;exact Constant_none (isnot_none_gen ⟨.bl _,H1,I1,by rw[r1.nZ];rfl,q1⟩)
noncomputable def tB(t:TE):TT:=λZ H Q=>t Z H λx H1=>∃c,x=.bl c/\Q c H1
theorem X7{op:CmpOp}{t:TE}(h:PC X op a b t)(h1:behindInMarks op b=false:=by first|exact nY _ (by decide) (by decide)|rfl):PE X (.Compare a [op] [b] pos) t:=λao s Z H Q I hw=>wpAny_Compare1 (h ao s Z H Q I hw) h1
theorem QC{op:CmpOp}{t:TE}(h:PC X op a b t)(h1:behindInMarks op b=false:=by first|exact nY _ (by decide) (by decide)|rfl):PT X (.Compare a [op] [b] pos) (tB t):=by
 intro ao s Z H Q I hw;refine wpAny_isTrue_Compare1 (aW (h ao s Z H _ I hw) λv s1 h1=>aW h1 λu s2 h2=>aW h2 λc s3 hx=>fG hx λx H1 I1 r1 q1=>?_) h1;obtain⟨d,rfl,q⟩:=q1;cases r1;exact vD ⟨H1,I1,q⟩
theorem zm0{e:Expr}{t:TE}(h:PE X e t)(he:∀whole,isTrue e X.env whole=(do let v <-whole;standAt e.pos;holding [v] (truthy v)):=by intro _;rfl):PT X e (tB t):=by
 intro ao s Z H Q I hw;refine isTrue_plain (aW (h ao s Z H _ I hw) λv s1 hx=>fG hx λx H1 I1 r1 q1=>?_) (he _);obtain⟨d,rfl,q⟩:=q1;cases r1;exact vD ⟨H1,I1,q⟩
variable {tA Mg:TT}{rest:List Expr}
noncomputable def QD(t u:TT):TT:=λZ H Q=>t Z H λc H1=>if c=true then u Z H1 Q else Q false H1
noncomputable def tOr(t u:TT):TT:=λZ H Q=>t Z H λc H1=>if c=true then Q true H1 else u Z H1 Q
noncomputable def QF(t:TT):TT:=λZ H Q=>t Z H λc H1=>Q (!c) H1
theorem zk5(ha:PT X a tA):PW X (.BoolOp .And [a] pos) tA:=by
 intro wh ao s Z H Q I h;refine isTrue_and (aW (ha ao s Z H Q I h) λc s1 e=>?_);cases c with
 |true=>exact isTrue_and_nil e
 |false=>exact e
theorem zmy(ha:PT X a tA):PW X (.BoolOp .Or [a] pos) tA:=by
 intro wh ao s Z H Q I h;refine isTrue_or (aW (ha ao s Z H Q I h) λc s1 e=>?_);cases c with
 |false=>exact isTrue_or_nil e
 |true=>exact e
theorem zmz(ha:PT X a tA)(hb:PW X (.BoolOp .And (b::rest) pos) Mg):PW X (.BoolOp .And (a::b::rest) pos) (QD tA Mg):=by
 intro wh ao s Z H Q I h;refine isTrue_and (aW (ha ao s Z H _ I h) λc s1 hx=>wJ hx λH1 I1 q1=>?_);cases c with
 |true=>exact hb wh ao s1 Z H1 Q I1 q1
 |false=>exact⟨H1,I1,q1⟩
theorem zo0(ha:PT X a tA)(hb:PW X (.BoolOp .Or (b::rest) pos) Mg):PW X (.BoolOp .Or (a::b::rest) pos) (tOr tA Mg):=by
 intro wh ao s Z H Q I h;refine isTrue_or (aW (ha ao s Z H _ I h) λc s1 hx=>wJ hx λH1 I1 q1=>?_);cases c with
 |true=>exact⟨H1,I1,q1⟩
 |false=>exact hb wh ao s1 Z H1 Q I1 q1
theorem zlx(ha:PT X a tA):PT X (.UnaryOp .Not a pos) (QF tA):=by
 intro ao s Z H Q I h;exact isTrue_not (ha ao s Z H (λc H1=>Q (!c) H1) I h)
noncomputable def G_(ta tb:TE):TE:=λZ H Q=>ta Z H λx H1=>∃c,x=.bl c/\if c=true then tb Z H1 Q else Q (.bl false) H1
noncomputable def QG(ta tb:TE):TE:=λZ H Q=>ta Z H λx H1=>∃c,x=.bl c/\if c=true then Q (.bl true) H1 else tb Z H1 Q
noncomputable def Hg(ta:TE):TE:=λZ H Q=>ta Z H λx H1=>∃c,x=.bl c/\Q (.bl (!c)) H1
theorem zl3{op}{t:TE}(h:PE X a t):PE X (.BoolOp op [a] pos) t:=λao s Z H Q I hw=>BoolOp_one (h ao s Z H Q I hw)
theorem znB(ha:PE X a ta)(hb:PE X (.BoolOp .And (b::rest) pos) tb):PE X (.BoolOp .And (a::b::rest) pos) (G_ ta tb):=by
 intro ao s Z H Q I h;refine BoolOp_and (aW (ha ao s Z H _ I h) λv s1 hx=>fG hx λx H1 I1 r1 q1=>?_);obtain⟨c,rfl,q1⟩:=q1;cases r1;refine vD ?_;cases c with
 |true=>exact hb ao s1 Z H1 Q I1 q1
 |false=>exact⟨.bl false,H1,I1,rfl,q1⟩
theorem zoO(ha:PE X a ta)(hb:PE X (.BoolOp .Or (b::rest) pos) tb):PE X (.BoolOp .Or (a::b::rest) pos) (QG ta tb):=by
 intro ao s Z H Q I h;refine BoolOp_or (aW (ha ao s Z H _ I h) λv s1 hx=>fG hx λx H1 I1 r1 q1=>?_);obtain⟨c,rfl,q1⟩:=q1;cases r1;refine vD ?_;cases c with
 |false=>exact hb ao s1 Z H1 Q I1 q1
 |true=>exact⟨.bl true,H1,I1,rfl,q1⟩
theorem zm2(ha:PE X a ta):PE X (.UnaryOp .Not a pos) (Hg ta):=by
 intro ao s Z H Q I h;refine UnaryOp_ (aW (ha ao s Z H _ I h) λv s1 hx=>fG hx λx H1 I1 r1 q1=>?_);obtain⟨c,rfl,q1⟩:=q1;cases r1;exact not_of (vD ⟨.bl (!c),H1,I1,rfl,q1⟩)
noncomputable def tIf(t:TT)(ta tb:TE):TE:=λZ H Q=>t Z H λc H1=>if c=true then ta Z H1 Q else tb Z H1 Q
theorem zh7{c:Expr}(hc:PT X c tA)(ha:PE X a ta)(hb:PE X b tb):PE X (.IfExp c a b pos) (tIf tA ta tb):=by
 intro ao s Z H Q I h;refine wpAny_IfExp (aW (hc ao s Z H _ I h) λd s1 hx=>wJ hx λH1 I1 q1=>?_);cases d with
 |true=>exact ha ao s1 Z H1 Q I1 q1
 |false=>exact hb ao s1 Z H1 Q I1 q1
end
def cY(K:W.Frag)(H:Hp)(a:Addr)(xs:List V):Prop:=
 Rd H a (.lst xs) \/
  ∃(o:Obj) (its:Array Value) (n:Nat),K.lookup a=some o/\o.cls=.type "list"/\o.dict=none/\o.data=.seq its n/\its.size<=sizeLine/\Vals xs its.toList
def fZ(K:W.Frag)(H:Hp)(a:Addr)(xs:List V):Prop:=
 Rd H a (.tup xs) \/
  ∃(o:Obj) (its:Array Value) (n:Nat),K.lookup a=some o/\o.cls=.type "tuple"/\o.data=.seq its n/\its.size<=sizeLine/\Vals xs its.toList
noncomputable def QJ:Value->Option V
 |.none=>some .non
 |.bool b=>some (.bl b)
 |.int i _=>some (.int i)
 |.str x _=>some (.str x)
 |.bytes b _=>some (.Ba b)
 |.float b _=>some (.flt b)
 |.ref a=>some (.ref a)
 |.type n=>some (.ty n)
 |_=>none
theorem RelV.abs{x:V}{u:Value}(r:RelV x u):QJ u=some x:=by
 cases x with
 |non=>cases r;rfl
 |bl _=>cases r;rfl
 |int _=>obtain⟨t,rfl⟩:=r;rfl
 |str _=>obtain⟨t,rfl⟩:=r;rfl
 |Ba _=>obtain⟨t,rfl⟩:=r;rfl
 |flt _=>obtain⟨t,rfl⟩:=r;rfl
 |ref _=>cases r;rfl
 |ty _=>cases r;rfl
theorem RelV.inj{x y:V}{u:Value}(r:RelV x u)(q:RelV y u):x=y:=cR (r.abs.symm.trans q.abs)
theorem Vals.inj{xs ys:List V}{us:List Value}(h:Vals xs us)(h':Vals ys us):xs=ys:=by
 induction h generalizing ys with
 |nil=>cases h';rfl
 |cons r _ ih=>
  cases h' with
  |cons r' t'=>rw[r.inj r',ih t']
section
variable {X:Cx}{ao:List (Addr×Obj)}{Z:St}{H:Hp}{s:Shared}{a:Addr}{xs ys:List V}
theorem cY.of{K:W.Frag}(h:H a=some (.lst xs)):cY K H a xs:=.inl (.inl h)
theorem Inv.list(I:Inv X ao Z H s)(h:cY X.K H a xs):∃its:List Value,Vals xs its/\PlainL s.heap a its.toArray/\xs.length<=sizeLine:=by
 rcases h with h|⟨o,its,n,hk,hc,hd,hs,hz,r⟩
 ·obtain⟨z,its,n,r,e⟩:=h.ok I.hok;exact⟨its,r,⟨_,n,e,rfl,rfl,rfl⟩,z⟩
 ·refine⟨its.toList,r,⟨o,n,I.nW a o hk,hc,hd,by simpa using hs⟩,?_⟩;have e:=r.length;simp only[yI] at e
  lia
theorem Inv.tuple(I:Inv X ao Z H s)(h:fZ X.K H a xs):∃its:List Value,Vals xs its/\IsTup s.heap a its.toArray/\xs.length<=sizeLine:=by
 rcases h with h|⟨o,its,n,hk,hc,hs,hz,r⟩
 ·obtain⟨z,its,r,p⟩:=h.ok I.hok;exact⟨its,r,p,z⟩
 ·refine⟨its.toList,r,⟨o,I.nW a o hk,hc,n,by simpa using hs⟩,?_⟩;have e:=r.length;simp only[yI] at e
  lia
theorem Inv.n6(I:Inv X ao Z H s)(h:cY X.K H a xs)(h':cY X.K H a ys):xs=ys:=by
 obtain⟨its,r,⟨o,n,e,_,_,d⟩,_⟩:=I.list h;obtain⟨its',r',⟨o',n',e',_,_,d'⟩,_⟩:=I.list h';rw[e] at e';cases e';rw[d] at d';injection d' with d1 _;have:its=its':=by simpa using lM Array.toList d1
 subst this;exact r.inj r'
theorem Inv.lO(I:Inv X ao Z H s)(h:fZ X.K H a xs)(h':fZ X.K H a ys):xs=ys:=by
 obtain⟨its,r,⟨o,e,_,n,d⟩,_⟩:=I.tuple h;obtain⟨its',r',⟨o',e',_,n',d'⟩,_⟩:=I.tuple h';rw[e] at e';cases e';rw[d] at d';injection d' with d1 _;have:its=its':=by simpa using lM Array.toList d1
 subst this;exact r.inj r'
end
section
variable {X:Cx}{ao:List (Addr×Obj)}{Z:St}{H:Hp}{s:Shared}{E:Value->Shared->Prop}
end
section
variable {X:Cx}{st:Stmt}{rest:List Stmt}{t u:TS}{e:Expr}{te:TE}{pos:Pos}
noncomputable def Hj:TS:=λD Z H=>D.nx Z H
noncomputable def QK(t u:TS):TS:=λD Z H=>t {D with nx:=u D} Z H
theorem X8:qH X [] Hj:=λ_ _ Z H _ I h=>wpAny_execs_nil ⟨Z,H,I,h⟩
theorem X_(h1:PS X st t)(h2:qH X rest u):qH X (st::rest) (QK t u):=by
 intro ao s Z H D I h;refine wpAny_execs_cons (aW (h1 ao s Z H {D with nx:=u D} I h) λf s1 q=>?_);cases f with
 |next=>
  obtain⟨Z',H',I',q⟩:=q;exact h2 ao s1 Z' H' D I' q
 |ret v=>exact q
 |brk=>exact q
 |cont=>exact q
theorem Inv.quiet{ao:List (Addr×Obj)}{Z:St}{H:Hp}{s:Shared}(I:Inv X ao Z H s):interactive X.env=false:=by simp[interactive,I.ok.kind]
noncomputable def Hl(te:TE):TS:=λD Z H=>te Z H λ_ H1=>D.nx Z H1
theorem zlh(he:PE X e te)(hs:swapsWith e none pos.line X.env=pure false:=by rfl):PS X (.Expr e pos) (Hl te):=by
 intro ao s Z H D I h;exact wpAny_Expr_any (aW (he ao s Z H _ I h) λv s1 hx=>fG hx λx H1 I1 r1 q1=>⟨Z,H1,I1,q1⟩) I.quiet hs
noncomputable def QL(te:TE):TS:=λD Z H=>te Z H D.rt
theorem zmE(he:PE X e te):PS X (.Return (some e) pos) (QL te):=by
 intro ao s Z H D I h;exact wpAny_Return_some (aW (he ao s Z H _ I h) λv s1 hx=>fG hx λx H1 I1 r1 q1=>⟨x,Z,H1,I1,r1,q1⟩)
noncomputable def QM(c:TT)(t u:TS):TS:=λD Z H=>c Z H λb H1=>if b=true then t D Z H1 else u D Z H1
theorem zoD{c:Expr}{a b:List Stmt}{tc:TT}(hc:PT X c tc)(ha:qH X a t)(hb:qH X b u):PS X (.If c a b pos) (QM tc t u):=by
 intro ao s Z H D I h;refine wpAny_If (aW (hc ao s Z H _ I h) λd s1 hx=>wJ hx λH1 I1 q1=>?_);cases d with
 |true=>exact ha ao s1 Z H1 D I1 q1
 |false=>exact hb ao s1 Z H1 D I1 q1
end
noncomputable abbrev TG:=V->St->Hp->(St->Hp->Prop)->Prop
noncomputable abbrev Bj:=List V->St->Hp->(St->Hp->Prop)->Prop
def PG(X:Cx)(target:Expr)(t:TG):Prop:=
 ∀(ao:List (Addr×Obj)) (s:Shared) (Z:St) (H:Hp) (v:V) (u:Value) (Q:St->Hp->Prop),Inv X ao Z H s->RelV v u->t v Z H Q->
  wpAny (model X.prog X.w) X.A (assign target X.env u) (λ_ s'=>∃Z' H',Inv X ao Z' H' s'/\Q Z' H') X.xe s
def Mh(X:Cx)(ts:List Expr)(t:Bj):Prop:=
 ∀(ao:List (Addr×Obj)) (s:Shared) (Z:St) (H:Hp) (vs:List V) (us:List Value) (Q:St->Hp->Prop),Inv X ao Z H s->Vals vs us->t vs Z H Q->
  wpAny (model X.prog X.w) X.A (assignInOrder ((assignEach ts X.env).map (·.2)) us) (λ_ s'=>∃Z' H',Inv X ao Z' H' s'/\Q Z' H') X.xe s
noncomputable abbrev Bk:=V->V->V->Hp->(Hp->Prop)->Prop
def Ho(X:Cx)(t:Bk):Prop:=
 ∀(ao:List (Addr×Obj)) (s:Shared) (Z:St) (H:Hp) (o i v:V) (ov iv u:Value) (Q:Hp->Prop),Inv X ao Z H s->RelV o ov->RelV i iv->RelV v u->t o i v H Q->
  wpAny (model X.prog X.w) X.A (setItem ov iv u) (λ_ s'=>∃H',Inv X ao Z H' s'/\Q H') X.xe s
section
variable {X:Cx}{pos:Pos}
noncomputable def dW(i:Nat):TG:=λv Z H Q=>Q (Z.set i (some v)) H
theorem Mj{i:Nat}{x:Str}(hN:X.N.Nodup)(hi:X.N[i]?=some x)(hx:Loc X.env.scope x)(hf:X.fn x=true\/X.env.scope.names.lookup x=some .local:=by first|exact .inl rfl|exact .inr rfl|assumption):PG X (.Name x pos) (dW i):=by
 intro ao s Z H v u Q I r h;exact wpAny_assign_Name (Mf I hN hi hx r (λs' I'=>⟨_,H,I',h⟩) hf)
noncomputable def tZ:Bj:=λvs Z H Q=>vs=[]/\Q Z H
noncomputable def iH(t:TG)(u:Bj):Bj:=λvs Z H Q=>∃v r,vs=v::r/\t v Z H λZ' H'=>u r Z' H' Q
theorem zko:Mh X [] tZ:=by
 intro ao s Z H vs us Q I r h;obtain⟨e,h⟩:=h;subst e;cases r;exact assignInOrder_nil ⟨Z,H,I,h⟩
theorem Yb{e:Expr}{es:List Expr}{t:TG}{u:Bj}(h1:PG X e t)(h2:Mh X es u)
  (hs:(assignEach (e::es) X.env).map (·.2)=assign e X.env::(assignEach es X.env).map (·.2):=by rfl):Mh X (e::es) (iH t u):=by
 intro ao s Z H vs us Q I r h;obtain⟨v,vr,e1,h⟩:=h;subst e1;cases r with
 |cons r rr=>
  rw[hs];refine assignInOrder_cons (aW (h1 ao s Z H _ _ _ I r h) λ_ s1 ⟨Z1,H1,I1,q1⟩=>?_);exact h2 ao s1 Z1 H1 _ _ Q I1 rr q1
noncomputable def t_(K:W.Frag)(n:Nat)(t:Bj):TG:=λv Z H Q=>∃a xs,v=.ref a/\fZ K H a xs/\xs.length=n/\t xs Z H Q
theorem znO{es:List Expr}{k:Nat}{t:Bj}{n:Nat}(hc:X.aj=true)(h:Mh X es t)
  (hn:(assignEach es X.env).length=n:=by rfl) (Bl:(assignEach es X.env).findIdx? (·.1)=none:=by rfl):PG X (.Tuple es k pos) (t_ X.K n t):=by
 intro ao s Z H v u Q I r hw;obtain⟨a,xs,e1,hq,hl,hw⟩:=hw;subst e1;cases r;obtain⟨its,rv,ht,hz⟩:=I.tuple hq;refine assign_Tuple_tuple (I.ok.hd hc) ht (by simp[hn,<-hl,rv.length]) Bl λh' hx=>?_;have I1:Inv X ao Z H {s with heap:=h'}:=I.kept (t':=s.toks) λb o e=>hx b o (dN (bY e)) e;exact h ao _ Z H xs _ Q I1 (by simpa using rv) hw
noncomputable def QS(to ti:TE)(t:Bk):TG:=λv Z H Q=>to Z H λo H1=>ti Z H1 λi H2=>t o i v H2 λH3=>Q Z H3
theorem zlA{o i:Expr}{to ti:TE}{t:Bk}(ho:PE X o to)(hi:PE X i ti)(hs:Ho X t)
  (ha:∀v,assign (.Subscript o i pos) X.env v=(do
   let ov <-holding [v] (eval o X.env)
   let iv <-holding [v,ov] (eval i X.env)
   standAt pos
   holding [v,ov,iv] (setItem ov iv v)
   release [v,ov,iv] []):=by intro _;rfl):PG X (.Subscript o i pos) (QS to ti t):=by
 intro ao s Z H v u Q I r h;rw[ha];refine aB (qz (aW (ho ao s Z H _ I h) λov s1 hx=>fG hx λx H1 I1 r1 q1=>?_));refine aB (qz (aW (hi ao s1 Z H1 _ I1 q1) λiv s2 hx=>fG hx λy H2 I2 r2 q2=>?_));refine aB (vI (aB (qz (aW (hs ao s2 Z H2 x y v ov iv u _ I2 r1 r2 r q2) λ_ s3 hx=>wJ hx λH3 I3 q3=>?_))));exact wpAny_release ⟨Z,H3,I3,q3⟩
noncomputable def wM(te:TE)(g:TG):TS:=λD Z H=>te Z H λx H1=>g x Z H1 D.nx
theorem Yc{tg e:Expr}{te:TE}{g:TG}(he:PE X e te)(hg:PG X tg g)(hs:swapsWithSole [tg] e pos.line X.env=pure false:=by rfl)(hw:swappedStores [tg] e X.env=pure none:=by rfl)
  (h1:(assignEach [tg] X.env).map (·.2)=[assign tg X.env]:=by rfl):PS X (.Assign [tg] e pos) (wM te g):=by
 intro ao s Z H D I h;refine wpAny_Assign_stores (aW (he ao s Z H _ I h) λv s1 hx=>fG hx λx H1 I1 r1 q1=>?_) hs hw;rw[h1];exact aW (hg ao s1 Z H1 x v _ I1 r1 q1) λ_ s2 q=>q
theorem znz{i:Nat}{x:Str}{e:Expr}{te:TE}{pos':Pos}(hN:X.N.Nodup)(hi:X.N[i]?=some x)(hx:Loc X.env.scope x)(he:PE X e te)(hs:swapsWith e (some (.Name x pos')) pos.line X.env=pure false:=by rfl)(hf:X.fn x=true\/X.env.scope.names.lookup x=some .local:=by first|exact .inl rfl|exact .inr rfl|assumption) :
  PS X (.Assign [.Name x pos'] e pos) (wM te (dW i)):=by
 intro ao s Z H D I h;refine wpAny_Assign_Name (aW (he ao s Z H _ I h) λv s1 ⟨y,H1,I1,r1,q1⟩=>?_) hs;exact Mf I1 hN hi hx r1 (λs2 I2=>⟨_,H1,I2,q1⟩) hf
noncomputable def QT(i j:Nat)(ta:TA):TS:=λD Z H=>ta Z H λvs H1=>∃v w,vs=[v,w]/\D.nx ((Z.set i (some v)).set j (some w)) H1
theorem znw{i j:Nat}{x y:Str}{a b:Expr}{ta:TA}{px py pt:Pos}{kt k2 uc}(hc:X.aj=true)(hN:X.N.Nodup)(hi:X.N[i]?=some x)(hj:X.N[j]?=some y)(pL:i≠j)
  (hx:X.env.scope.names.lookup x=some .local) (hy:X.env.scope.names.lookup y=some .local) (ha:PA X [a,b] ta)
  (hw:swappedStores [.Tuple [.Name x px,.Name y py] kt pt] (.Tuple [a,b] k2 uc) X.env=pure (some [x,y]))
  (hs:swapsWithSole [.Tuple [.Name x px,.Name y py] kt pt] (.Tuple [a,b] k2 uc) pos.line X.env=pure false:=by rfl) :
  PS X (.Assign [.Tuple [.Name x px,.Name y py] kt pt] (.Tuple [a,b] k2 uc) pos) (QT i j ta):=by
 intro ao s Z H D I h;rw[exec_Assign_arm];refine aB (vI ?_);rw[hs];refine aB (aM ?_);rw[if_neg (by decide)];refine aB (Tuple_ (aW (ha _ ao s Z H _ I h) λus s1 ⟨vs,H1,I1,r1,q1⟩=>?_));obtain⟨v,w,e1,q1⟩:=q1;subst e1;obtain⟨u1,u2,rfl,rv,lu⟩ : ∃u1 u2,us=[u1,u2]/\RelV v u1/\RelV w u2:=by
  cases r1 with
  |cons p q=>
   cases q with
   |cons p' q'=>
    cases q';exact⟨_,_,rfl,p,p'⟩
 refine pB ?_ (by show 2<=sizeLine;decide);have I2:Inv X ao Z H1 {s1 with heap:=s1.heap.push {cls:=.type "tuple",data:=.seq [u1,u2].toArray}}:=I1.kept (t':=s1.toks) λb o e=>cU _ e;rw[hw];refine aB (aM ?_);show wpAny (model X.prog X.w) X.A (do rule "assign.swapped-stores";let items <-unpackItems (.ref s1.heap.objs.size) 2 none;assignInOrder [λv=>bindName X.env y v,λv=>bindName X.env x v] items.reverse;pure Flow.next) _ _ _;refine aB (Aw (aB (unpackItems_tuple (items:=#[u1,u2]) (I.ok.hd hc) (IsTup.new s1.heap _) λh' hx'=>?_)));have I3:=I2.kept (h':=h') (t':=s1.toks) λb o e=>hx' b o (dN (bY e)) e;show wpAny _ _ (assignInOrder [λv=>bindName X.env y v,λv=>bindName X.env x v] [u2,u1] >>= λ_=>pure Flow.next) _ _ _;refine aB (assignInOrder_cons (wpAny_bindName (Mf I3 hN hj (.inl hy) lu (λs2 I4=>?_) (.inr hy))));refine assignInOrder_cons (wpAny_bindName (Mf I4 hN hi (.inl hx) rv (λs3 I5=>assignInOrder_nil (aM ?_)) (.inr hx)));rw[List.set_comm _ _ (Ne.symm pL)] at I5;exact⟨_,H1,I5,q1⟩
end
section
variable {X:Cx}{pos:Pos}
end
structure It where
 go:Nat->Hp->Prop
 ud:Nat->Hp->V->Hp->Prop
 stop:Nat->Hp->Prop
def fU(X:Cx)(ao:List (Addr×Obj))(H:Hp)(b:Addr):Prop:=
 H b=none/\b≠X.env.locals/\b∉X.fs/\(b∈X.ex\/X.s₀.heap.objs.size<=b)/\(∀x c,X.env.cells.lookup x=some c->c≠b)/\∀p∈X.pn++ao,p.1≠b
theorem Inv.uf{X:Cx}{ao:List (Addr×Obj)}{Z:St}{H H':Hp}{s:Shared}{b:Addr}(I:Inv X ao Z H s)(hb:s.heap.objs.size<=b)(hn:H' b=none):fU X ao H' b:=by
 refine⟨hn,vJ (iY I.lt hb),I.Qt hb,.inr (jo I.sz hb),λx c e z=>?_,λp hp z=>?_⟩
 ·obtain⟨v,q⟩:=I.cell x c e;exact absurd (iY q.lt (by rw[z];exact hb)) (pD _)
 ·exact absurd (iY (bY (I.pin p hp).1) (by rw[z];exact hb)) (pD _)
structure Turn(P:Program)(w:World)(K:W.Frag)(tg:Expr)(bM:It)(fp:List Addr)(it:Addr)(tn:Nat->Heap->Prop):Prop where
 mem:it∈fp
 obj:∀i h,tn i h->∀b∈fp,∃o,h.get? b=some o/\∀v,o.data≠.cell v
 keep:∀i h h',tn i h->(∀b∈fp,∀o,h.get? b=some o->h'.get? b=some o)->tn i h'
 item:∀(X:Cx),X.prog=P->X.w=w->X.K=K->X.aj=true->∀(i:Nat) (ao:List (Addr×Obj)) (s:Shared) (Z:St) (H:Hp) (E:Value->Shared->Prop),Inv X ao Z H s->(∀b∈fp,fU X ao H b)->tn i s.heap->bM.go i H->
  wpAny (model P w) X.A (pyNext (.ref it)) (λr s1=>∃u,r=some u /\
   wpAny (model P w) X.A (letOwnedTupleGo tg (.ref it) u) (λ_ s2=>∃x H',Inv X ao Z H' s2/\RelV x u/\bM.ud i H x H'/\tn (i+1) s2.heap/\∀b∈fp,H' b=none) E s1) E s
 done:∀(X:Cx),X.prog=P->X.w=w->X.K=K->X.aj=true->∀(i:Nat) (ao:List (Addr×Obj)) (s:Shared) (Z:St) (H:Hp) (E:Value->Shared->Prop),Inv X ao Z H s->(∀b∈fp,fU X ao H b)->tn i s.heap->bM.stop i H->
  wpAny (model P w) X.A (pyNext (.ref it)) (λr s1=>r=none/\Inv X ao Z H s1) E s
 self:∀(A:Around) (i:Nat) (s:Shared) (Q:Value->Shared->Prop) (E:Value->Shared->Prop),tn i s.heap->Q (.ref it) s->wpAny (model P w) A (pyIter (.ref it)) Q E s
noncomputable abbrev TI:=St->Hp->(It->Hp->Prop)->Prop
def PIE(X:Cx)(ao:List (Addr×Obj))(Z:St)(tg:Expr)(R:It->Hp->Prop)(itv:Value)(s2:Shared):Prop:=
 ∃(it:Addr) (fp:List Addr) (tn:Nat->Heap->Prop) (bM:It) (H':Hp),itv=.ref it/\Inv X ao Z H' s2/\Turn X.prog X.w X.K tg bM fp it tn/\tn 0 s2.heap/\(∀b∈fp,fU X ao H' b)/\R bM H'
def PI(X:Cx)(tg iter:Expr)(wi:TI):Prop:=
 ∀(ao:List (Addr×Obj)) (s:Shared) (Z:St) (H:Hp) (R:It->Hp->Prop),Inv X ao Z H s->wi Z H R->
  wpAny (model X.prog X.w) X.A (eval iter X.env) (λv s1=>wpAny (model X.prog X.w) X.A (pyIter v) (PIE X ao Z tg R) X.xe s1) X.xe s
theorem QV{M:Model}{A:Around}{E:Value->Shared->Prop}{s:Shared}{tg:Expr}{it:Addr}{u:Value}{o:Obj}{n:String}{vs:Array Value}{Q:Unit->Shared->Prop}(ho:s.heap.get? it=some o)(hc:o.cls=.type n)(hd:o.data=.fields vs)
  (hn:["enumerate","zip","dict_itemiterator","dict_reverseitemiterator","odict_iterator","itertools.zip_longest","itertools.pairwise"].contains n=false) (hQ:Q () s):wpAny M A (letOwnedTupleGo tg (.ref it) u) Q E s:=by
 unfold letOwnedTupleGo;cases tg<;>first
  |exact aM hQ
  | (cases u<;>first
    |exact aM hQ
    | (refine aB (wpAny_load ho ?_)
       rw[hc,hd];show wpAny M A (if (["enumerate","zip","dict_itemiterator","dict_reverseitemiterator","odict_iterator","itertools.zip_longest","itertools.pairwise"].contains n&&vs[0]?==some (rawInt _))=true then _ else _) Q E s;rw[if_neg (by intro h;rw[hn,Bool.false_and] at h;cases h)];exact aM hQ))
noncomputable def Ml(K:W.Frag)(a:Addr):It:=
 ⟨λi H=>∃xs x,cY K H a xs/\xs[i]?=some x,λi H x H'=>H'=H/\∀xs,cY K H a xs->xs[i]?=some x,λi H=>∃xs,cY K H a xs/\xs.length<=i⟩
noncomputable def QW(K:W.Frag)(a:Addr):It:=
 ⟨λi H=>∃xs x,fZ K H a xs/\xs[i]?=some x,λi H x H'=>H'=H/\∀xs,fZ K H a xs->xs[i]?=some x,λi H=>∃xs,fZ K H a xs/\xs.length<=i⟩
noncomputable def Hq(lo:Int)(n:Nat):It:=⟨λi _=>i<n,λi H x H'=>H'=H/\x=.int (lo+i),λi _=>n<=i⟩
theorem zhc{P:Program}{w:World}{K:W.Frag}{tg:Expr}(a it:Addr):Turn P w K tg (Ml K a) [it] it (λi h=>h.IsListIter it a i) where
 mem:=by simp
 obj:=λi h st b hb=>by
  have e:b=it:=by simpa using hb
  subst e;obtain⟨o,e,c,d⟩:=st;exact⟨o,e,λv z=>by rw[d] at z;cases z⟩
 keep:=λi h h' st k=>st.at λo e=>k it (by simp) o e
 item:=by
  intro X hP hw hK hc i ao s Z H E I hf st hg;subst hP hw hK;obtain⟨xs,x,hq,hx⟩:=hg;obtain⟨its,rv,p,hz⟩:=I.list hq;obtain⟨u,hu,ru⟩:=rv.get hx;obtain⟨f0,f1,f2,f3,f4,f5⟩:=hf it (by simp);refine wpAny_pyNext_list_item st p.isList (x:=u) (by simpa using hu) λh' st' sb=>?_;have I1:Inv X ao Z H {s with heap:=h'}:=I.turned (t':=s.toks) (λb o hb e=>(sb.2 b hb).trans e) f0 f1 f3 f4 f5;obtain⟨o,e,c,d⟩:=id st';exact⟨u,rfl,QV (s:={s with heap:=h'}) e c d (by decide) ⟨x,H,I1,ru,⟨rfl,λys hy=>by rw[I.n6 hy hq];exact hx⟩,st',λb hb=>(hf b hb).1⟩⟩
 done:=by
  intro X hP hw hK hc i ao s Z H E I hf st hg;subst hP hw hK;obtain⟨xs,hq,hx⟩:=hg;obtain⟨its,rv,p,hz⟩:=I.list hq;obtain⟨f0,f1,f2,f3,f4,f5⟩:=hf it (by simp);have hl:=rv.length;exact wpAny_pyNext_list_end (I.ok.hd hc) st p.isList (by simp;lia) λh' eb=>⟨rfl,I.turned (t':=s.toks) (λb o hb e=>eb b o hb e) f0 f1 f3 f4 f5⟩
 self:=λ_ _ _ _ _ st h=>wpAny_pyIter_listiter st h
theorem zfq{P:Program}{w:World}{K:W.Frag}{tg:Expr}(a it:Addr):Turn P w K tg (QW K a) [it] it (λi h=>h.IsTupleIter it a i) where
 mem:=by simp
 obj:=λi h st b hb=>by
  have e:b=it:=by simpa using hb
  subst e;obtain⟨o,e,c,d⟩:=st;exact⟨o,e,λv z=>by rw[d] at z;cases z⟩
 keep:=λi h h' st k=>st.at λo e=>k it (by simp) o e
 item:=by
  intro X hP hw hK hc i ao s Z H E I hf st hg;subst hP hw hK;obtain⟨xs,x,hq,hx⟩:=hg;obtain⟨its,rv,p,hz⟩:=I.tuple hq;obtain⟨u,hu,ru⟩:=rv.get hx;obtain⟨f0,f1,f2,f3,f4,f5⟩:=hf it (by simp);refine wpAny_pyNext_tuple_item st (show s.heap.IsTuple a its.toArray from p) (x:=u) (by simpa using hu) λh' st' sb=>?_;have I1:Inv X ao Z H {s with heap:=h'}:=I.turned (t':=s.toks) (λb o hb e=>(sb.2 b hb).trans e) f0 f1 f3 f4 f5;obtain⟨o,e,c,d⟩:=id st';exact⟨u,rfl,QV (s:={s with heap:=h'}) e c d (by decide) ⟨x,H,I1,ru,⟨rfl,λys hy=>by rw[I.lO hy hq];exact hx⟩,st',λb hb=>(hf b hb).1⟩⟩
 done:=by
  intro X hP hw hK hc i ao s Z H E I hf st hg;subst hP hw hK;obtain⟨xs,hq,hx⟩:=hg;obtain⟨its,rv,p,hz⟩:=I.tuple hq;obtain⟨f0,f1,f2,f3,f4,f5⟩:=hf it (by simp);have hl:=rv.length;exact wpAny_pyNext_tuple_end (I.ok.hd hc) st (show s.heap.IsTuple a its.toArray from p) (by simp;lia) λh' eb=>⟨rfl,I.turned (t':=s.toks) (λb o hb e=>eb b o hb e) f0 f1 f3 f4 f5⟩
 self:=λ_ _ _ _ _ st h=>wpAny_pyIter_tupleiter st h
theorem zfW{P:Program}{w:World}{K:W.Frag}{tg:Expr}(it:Addr)(lo:Int)(n:Nat):Turn P w K tg (Hq lo n) [it] it (λi h=>IsRangeIter h it (lo+(i:Nat)*1) ((n:Int)-(i:Nat)) 1) where
 mem:=by simp
 obj:=λi h st b hb=>by
  have e:b=it:=by simpa using hb
  subst e;exact⟨_,st,λv z=>by
   have z':Data.fields _=Data.cell v:=z;cases z'⟩
 keep:=λi h h' st k=>k it (by simp) _ st
 item:=by
  intro X hP hw hK hc i ao s Z H E I hf st hg;subst hP hw hK;obtain⟨f0,f1,f2,f3,f4,f5⟩:=hf it (by simp);have W:=Walks.range (prog:=X.prog) (w:=X.w) (I.ok.hd hc) it lo 1 n;refine W.item i s _ _ hg st λv h' tk hv st' kk=>?_;obtain⟨t,rfl⟩:=hv;have I1:Inv X ao Z H {s with heap:=h',toks:=tk}:=I.turned (λb o hb e=>kk b o (by simpa using hb) e) f0 f1 f3 f4 f5;refine⟨_,rfl,QV (s:={s with heap:=h',toks:=tk}) (n:="range_iterator") st' rfl rfl (by decide) ⟨.int (lo+i),H,I1,⟨t,?_⟩,⟨rfl,rfl⟩,st',λb hb=>(hf b hb).1⟩⟩;rw[Int.mul_one]
 done:=by
  intro X hP hw hK hc i ao s Z H E I hf st hg;subst hP hw hK;obtain⟨f0,f1,f2,f3,f4,f5⟩:=hf it (by simp);exact wpAny_pyNext_range_end (I.ok.hd hc) st (by have:n<=i:=hg;lia) λh' eb=>⟨rfl,I.turned (t':=s.toks) (λb o hb e=>eb b o hb e) f0 f1 f3 f4 f5⟩
 self:=λ_ _ _ _ _ st h=>wpAny_pyIter_rangeiter st h
section
variable {X:Cx}{tg:Expr}
theorem Yd{ao:List (Addr×Obj)}{Z:St}{H:Hp}{s:Shared}{R:It->Hp->Prop}{E:Value->Shared->Prop}{lo hi:Int}{t u v:Tok}{tk:Nat}(I:Inv X ao Z H s)(h1 : -(2^62)<=lo)(h2:lo<2^62)(h3 : -(2^62)<=hi)(h4:hi<2^62)
  (q:R (Hq lo (hi-lo).toNat) H):wpAny (model X.prog X.w) X.A (pyIter (.ref s.heap.objs.size)) (PIE X ao Z tg R) E {s with heap:=s.heap.push {cls:=.type "range",data:=.fields #[.int lo t,.int hi u,.int 1 v]},toks:=tk}:=by
 refine wpAny_pyIter_range (IsRange.new ..) (small_one h1 h2 h3 h4) ?_;have I1:Inv X ao Z H {s with heap:=s.heap.push {cls:=.type "range",data:=.fields #[.int lo t,.int hi u,.int 1 v]},toks:=tk}:=I.kept λb o e=>cU _ e;refine⟨(s.heap.push {cls:=.type "range",data:=.fields #[.int lo t,.int hi u,.int 1 v]}).objs.size,[(s.heap.push {cls:=.type "range",data:=.fields #[.int lo t,.int hi u,.int 1 v]}).objs.size],_,_,H,rfl,
  I1.kept (t':=tk) λb o e=>cU _ e,zfW _ lo (hi-lo).toNat,?_,λb hb=>?_,q⟩
 ·have e1:lo+((0:Nat):Int)*1=lo:=by simp
  have e2:(((hi-lo).toNat:Nat):Int)-((0:Nat):Int)=Builtin.Range.rangeSize lo hi 1:=by rw[rangeSize_one];split<;>lia
  show IsRangeIter _ _ (lo+((0:Nat):Int)*1) ((((hi-lo).toNat:Nat):Int)-((0:Nat):Int)) 1;rw[e1,e2];exact fO _ rfl
 ·have e:b=(s.heap.push {cls:=.type "range",data:=.fields #[.int lo t,.int hi u,.int 1 v]}).objs.size:=by simpa using hb
  subst e;exact I1.uf (bU _) (I1.hok.fresh (bU _))
noncomputable def Hr(ta:TA):TI:=λZ H R=>ta Z H λvs H1=>∃j:Int,vs=[.int j]/\-(2^62)<=j/\j<2^62/\R (Hq 0 j.toNat) H1
noncomputable def Hs(ta:TA):TI:=λZ H R=>ta Z H λvs H1=>∃i j:Int,vs=[.int i,.int j]/\(-(2^62)<=i/\i<2^62/\-(2^62)<=j/\j<2^62)/\R (Hq i (j-i).toNat) H1
theorem zgV{a:Expr}{ta:TA}{p pos:Pos}(hg:Gl X "range")(hm:X.mg "range"=none)(ha:PA X [a] ta)(hs:starEach [a] X.env=[(false,eval a X.env)]:=by rfl):PI X tg (.Call (.Name "range" p) [a] [] pos) (Hr ta):=by
 intro ao s Z H R I h;refine Call_ (wL I hg hm boot_range (Ac (aW (ha pos ao s Z H _ I h) λus s1 hx=>fG hx λvs H1 I1 r1 q1=>?_) hs rfl));obtain⟨j,e,q1,q2,q⟩:=q1;subst e;cases r1 with
 |cons r rr=>
  cases rr;obtain⟨t,rfl⟩:=r;exact call_range_1 (Yd I1 (by lia) (by lia) q1 q2 (by simpa using q))
theorem zg2{a b:Expr}{ta:TA}{p pos:Pos}(hg:Gl X "range")(hm:X.mg "range"=none)(ha:PA X [a,b] ta)(hs:starEach [a,b] X.env=[(false,eval a X.env),(false,eval b X.env)]:=by rfl)(vO:starEach [b] X.env=[(false,eval b X.env)]:=by rfl) :
  PI X tg (.Call (.Name "range" p) [a,b] [] pos) (Hs ta):=by
 intro ao s Z H R I h;refine Call_ (wL I hg hm boot_range (Ac (aW (ha pos ao s Z H _ I h) λus s1 hx=>fG hx λvs H1 I1 r1 q1=>?_) (by rw[hs,vO]) (by rw[vO];rfl)));obtain⟨i,j,e,⟨q1,q2,q3,q4⟩,q⟩:=q1;subst e;cases r1 with
 |cons r rr=>
  cases rr with
  |cons r' rr=>
   cases rr;obtain⟨t,rfl⟩:=r;obtain⟨t',rfl⟩:=r';exact call_range_2 (Yd I1 q1 q2 q3 q4 q)
noncomputable def QX(wi:TI)(g:TG)(tb:TS):TS:=λD Z H=>wi Z H λbM H1=>∃W:Nat->Nat->St->Hp->Prop,(∃m,W 0 m Z H1)/\∀i m Z H,W i m Z H->
 (bM.stop i H/\D.nx Z H)\/(bM.go i H/\∃N:St->Hp->Prop,(∀Z' H',N Z' H'->∃m',m'<m/\W (i+1) m' Z' H')/\∀x H',bM.ud i H x H'->g x Z H' λZ2 H2=>tb {D with nx:=N,ct:=N,bk:=D.nx} Z2 H2)
noncomputable def jg(fp:List Addr)(h:Heap):List (Addr×Obj):=fp.filterMap λb=>(h.get? b).map λo=>(b,o)
theorem yW{fp:List Addr}{h:Heap}{b:Addr}{o:Obj}(hb:b∈fp)(e:h.get? b=some o):(b,o)∈jg fp h:=Gn.mpr ⟨b,hb,by rw[e];rfl⟩
theorem zhv{fp:List Addr}{h:Heap}{p:Addr×Obj}(hp:p∈jg fp h):p.1∈fp/\h.get? p.1=some p.2:=by
 obtain⟨b,hb,e⟩:=Gn.mp hp;cases q:h.get? b with
 |none=>rw[q] at e;cases e
 |some o=>
  rw[q] at e;have e':(b,o)=p:=cR e;subst e';exact⟨hb,q⟩
theorem Inv.pinned{ao:List (Addr×Obj)}{Z:St}{H:Hp}{s:Shared}{fp:List Addr}(I:Inv X ao Z H s)(hf:∀b∈fp,fU X ao H b)(ho:∀b∈fp,∃o,s.heap.get? b=some o/\∀v,o.data≠.cell v):Inv X (ao++jg fp s.heap) Z H s:=
 I.mV λp hp=>(jR.mp hp).elim (λz=>I.pin p (mH _ z)) λz=>by
  obtain⟨hb,e⟩:=zhv z;obtain⟨f0,f1,f2,_⟩:=hf p.1 hb;obtain⟨o,e',d⟩:=ho p.1 hb;rw[e] at e';cases e';exact⟨e,f0,f1,f2,d⟩
theorem Inv.eO{ao pl:List (Addr×Obj)}{Z:St}{H:Hp}{s:Shared}(I:Inv X (ao++pl) Z H s):Inv X ao Z H s:=I.mV λp hp=>I.pin p (mH _ (Le _ hp))
theorem zlY{iter:Expr}{body:List Stmt}{wi:TI}{g:TG}{tb:TS}{pos:Pos}(hp:PassesOwn (model X.prog X.w) X.A X.env X.xe)(hc:X.aj=true)(hi:PI X tg iter wi)(hg:PG X tg g)(hb:qH X body tb)
  (hs:∀x,foldedSetIterable iter X.env x=pure x:=by intro _;rfl):PS X (.For tg iter body [] pos) (QX wi g tb):=by
 intro ao s Z H D I h;refine wpAny_For (aW (hi ao s Z H _ I h) λv s1 h1=>aW h1 λitv s2 h2=>?_) hs;obtain⟨it,fp,tn,bM,H2,e,I2,T,st2,f2,W,⟨m0,w0⟩,turn⟩:=h2;subst e;have stat:∀{H':Hp},(∀b∈fp,H' b=none)->∀b∈fp,fU X ao H' b:=λhn b hb=>⟨hn b hb,(f2 b hb).2⟩;refine codeAny_forLoop_any (λn s'=>∃i Z' H',Inv X ao Z' H' s'/\tn i s'.heap/\(∀b∈fp,H' b=none)/\W i n Z' H') ?_ m0 ⟨0,Z,H2,I2,st2,λb hb=>(f2 b hb).1,w0⟩;rintro n s3 ⟨i,Z3,H3,I3,st3,Ye,w3⟩;rcases turn i n Z3 H3 w3 with ⟨stop,qn⟩|⟨go,N,hN,step⟩
 ·refine Gv hp (aW (T.done X rfl rfl rfl hc i ao s3 Z3 H3 X.xe I3 (stat Ye) st3 stop) λr s4 ⟨hr,I4⟩=>?_);subst hr;exact wpAny_execs_nil ⟨Z3,H3,I4,qn⟩
 ·refine Gv hp (aW (T.item X rfl rfl rfl hc i ao s3 Z3 H3 X.xe I3 (stat Ye) st3 go) λr s4 hx=>wJ hx λu hr h4=>?_);subst hr;refine Gv hp (aW h4 λ_ s5 ⟨x,H5,I5,r5,y5,sY,vP⟩=>?_);have I5':=I5.pinned (stat vP) (T.obj _ _ sY);refine Gv hp (aW (hg _ s5 Z3 H5 x u _ I5' r5 (step x H5 y5)) λ_ s6 ⟨Z6,H6,I6,q6⟩=>?_);refine Gv hp (aW (hb _ s6 Z6 H6 _ I6 q6) λf s7 q7=>?_);have again:∀{Z7:St} {H7:Hp},Inv X (ao++jg fp s5.heap) Z7 H7 s7->N Z7 H7->∃m,m<n/\∃i Z' H',Inv X ao Z' H' s7/\tn i s7.heap/\(∀b∈fp,H' b=none)/\W i m Z' H':=λ{Z7 H7} I7 n7=>by
   obtain⟨m',hm,w7⟩:=hN Z7 H7 n7;refine⟨m',hm,i+1,Z7,H7,I7.eO,T.keep _ _ _ sY λb hb o e=>(I7.pin (b,o) (mH _ (mH _ (yW hb e)))).1,λb hb=>?_,w7⟩;obtain⟨o,e,d⟩:=T.obj _ _ sY b hb;exact(I7.pin (b,o) (mH _ (mH _ (yW hb e)))).2.1
  cases f with
  |next=>obtain⟨Z7,H7,I7,n7⟩:=q7;exact again I7 n7
  |cont=>obtain⟨Z7,H7,I7,n7⟩:=q7;exact again I7 n7
  |brk=>obtain⟨Z7,H7,I7,q7⟩:=q7;exact⟨Z7,H7,I7.eO,q7⟩
  |ret v=>obtain⟨x7,Z7,H7,I7,r7,q7⟩:=q7;exact⟨x7,Z7,H7,I7.eO,r7,q7⟩
end
noncomputable abbrev R2:=V->V->Hp->VK->Prop
def fH(X:Cx)(f:Value->Value->Sem Value)(r:R2):Prop:=
 ∀(ao:List (Addr×Obj)) (s:Shared) (Z:St) (H:Hp) (x y:V) (v u:Value) (Q:VK),Inv X ao Z H s->RelV x v->RelV y u->r x y H Q->
  wpAny (model X.prog X.w) X.A (f v u) (EP X ao Z Q) X.xe s
def Mp(X:Cx)(f:Value->Sem Value)(r:V->Hp->VK->Prop):Prop:=
 ∀(ao:List (Addr×Obj)) (s:Shared) (Z:St) (H:Hp) (x:V) (v:Value) (Q:VK),Inv X ao Z H s->RelV x v->r x H Q->
  wpAny (model X.prog X.w) X.A (f v) (EP X ao Z Q) X.xe s
def cW(X:Cx)(f:Value)(r:List V->Hp->VK->Prop):Prop:=
 ∀(ao:List (Addr×Obj)) (s:Shared) (Z:St) (H:Hp) (xs:List V) (us:List Value) (Q:VK),Inv X ao Z H s->Vals xs us->r xs H Q->
  wpAny (model X.prog X.w) X.A (call f us) (EP X ao Z Q) X.xe s
def QZ(X:Cx)(r:V->Hp->(Bool->Hp->Prop)->Prop):Prop:=
 ∀(ao:List (Addr×Obj)) (s:Shared) (Z:St) (H:Hp) (x:V) (v:Value) (Q:Bool->Hp->Prop),Inv X ao Z H s->RelV x v->r x H Q->
  wpAny (model X.prog X.w) X.A (truthy v) (TP X ao Z Q) X.xe s
noncomputable def Mq(r:R2)(ta tb:TE):TE:=λZ H Q=>ta Z H λx H1=>tb Z H1 λy H2=>r x y H2 Q
noncomputable def tUn(r:V->Hp->VK->Prop)(ta:TE):TE:=λZ H Q=>ta Z H λx H1=>r x H1 Q
noncomputable def rI(C:Int->Int->Prop)(g:Int->Int->V):R2:=λx y H Q=>∃i j,x=.int i/\y=.int j/\C i j/\Q (g i j) H
noncomputable def pN(g:Int->Int->V):R2:=λx y H Q=>∃i j,x=.int i/\y=.int j/\Q (g i j) H
noncomputable def rU(g:Int->V):V->Hp->VK->Prop:=λx H Q=>∃i,x=.int i/\Q (g i) H
section
variable {X:Cx}{a b c:Expr}{ta tb tc:TE}{pos:Pos}
theorem Bm(ha:PE X a ta)(hb:PE X b tb){ao:List (Addr×Obj)}{s:Shared}{Z:St}{H:Hp}{R:V->V->Hp->Prop}(I:Inv X ao Z H s)
  (h:ta Z H λx H1=>tb Z H1 λy H2=>R x y H2) {Q:Value->Shared->Prop} {f:Value->Value->Sem Value}
  (hf:∀v u s2 x y H2,Inv X ao Z H2 s2->RelV x v->RelV y u->R x y H2->wpAny (model X.prog X.w) X.A (f v u) Q X.xe s2) :
  wpAny (model X.prog X.w) X.A (eval a X.env) (λv s₁=>wpAny (model X.prog X.w) X.A (eval b X.env) (λu s₂=>wpAny (model X.prog X.w) X.A (f v u) Q X.xe s₂) X.xe s₁) X.xe s:=by
 refine aW (ha ao s Z H _ I h) λv s1 hx=>fG hx λx H1 I1 r1 q1=>?_;refine aW (hb ao s1 Z H1 _ I1 q1) λu s2 hx=>fG hx λy H2 I2 r2 q2=>?_;exact hf v u s2 x y H2 I2 r1 r2 q2
theorem zoI{op:Operator}{r:R2}(ho:fH X (binaryOp op) r)(ha:PE X a ta)(hb:PE X b tb):PE X (.BinOp a op b pos) (Mq r ta tb):=by
 intro ao s Z H Q I h;exact wpAny_BinOp (Bm ha hb I h λv u s2 x y H2 I2 rx ry q=>ho ao s2 Z H2 x y v u Q I2 rx ry q)
theorem Yg{op:UnaryOp}{r:V->Hp->VK->Prop}(ho:Mp X (unaryOp op) r)(ha:PE X a ta):PE X (.UnaryOp op a pos) (tUn r ta):=by
 intro ao s Z H Q I h;exact UnaryOp_ (aW (ha ao s Z H _ I h) λv s1 hx=>fG hx λx H1 I1 r1 q1=>ho ao s1 Z H1 x v Q I1 r1 q1)
theorem Mr{f:Value->Value->Sem Value}{C:Int->Int->Prop}{g:Int->Int->Int}
  (rule:∀(i j:Int) (t u:Tok) (s:Shared) (Q:Value->Shared->Prop) (E:Value->Shared->Prop),C i j->Q (.int (g i j) s.toks) {s with toks:=s.toks+1}->wpAny (model X.prog X.w) X.A (f (.int i t) (.int j u)) Q E s) :
  fH X f (rI C λi j=>.int (g i j)):=by
 intro ao s Z H x y v u Q I rx ry h;obtain⟨i,j,rfl,rfl,hc,q⟩:=h;obtain⟨t,rfl⟩:=rx;obtain⟨t',rfl⟩:=ry;exact rule i j t t' s _ _ hc ⟨.int (g i j),H,I.tok _,⟨_,rfl⟩,q⟩
theorem Ht{f:Value->Value->Sem Value}{g:Int->Int->Int}
  (rule:∀(i j:Int) (t u:Tok) (s:Shared) (Q:Value->Shared->Prop) (E:Value->Shared->Prop),Q (.int (g i j) s.toks) {s with toks:=s.toks+1}->wpAny (model X.prog X.w) X.A (f (.int i t) (.int j u)) Q E s) :
  fH X f (pN λi j=>.int (g i j)):=by
 intro ao s Z H x y v u Q I rx ry h;obtain⟨i,j,rfl,rfl,q⟩:=h;obtain⟨t,rfl⟩:=rx;obtain⟨t',rfl⟩:=ry;exact rule i j t t' s _ _ ⟨.int (g i j),H,I.tok _,⟨_,rfl⟩,q⟩
theorem wN{f:Value->Value->Sem Value}{g:Int->Int->Bool}
  (rule:∀(i j:Int) (t u:Tok) (s:Shared) (Q:Value->Shared->Prop) (E:Value->Shared->Prop),Q (.bool (g i j)) s->wpAny (model X.prog X.w) X.A (f (.int i t) (.int j u)) Q E s) :
  fH X f (pN λi j=>.bl (g i j)):=by
 intro ao s Z H x y v u Q I rx ry h;obtain⟨i,j,rfl,rfl,q⟩:=h;obtain⟨t,rfl⟩:=rx;obtain⟨t',rfl⟩:=ry;exact rule i j t t' s _ _ ⟨.bl (g i j),H,I,rfl,q⟩
def wO(i j:Int):Prop:=0<j/\j<1073741824
def Hu(i j:Int):Prop:=0<=j/\j<=1000000/\i.natAbs<2^64
def wQ(i j:Int):Prop:=(-(2^64)<i/\i<2^64)\/(-(2^64)<j/\j<2^64)
theorem wQ.ok{i j:Int}(h:wQ i j):IntMulOk i j:=by
 rcases h with ⟨h1,h2⟩|⟨h1,h2⟩
 ·exact .of_left (intBits_le_64 h1 h2)
 ·exact .of_right (intBits_le_64 h1 h2)
theorem Bp:fH X (binaryOp .Add) (pN λi j=>.int (i+j)):=Ht λ_ _ _ _ _ _ _ q=>add_int q
theorem zm9:fH X (binaryOp .Sub) (pN λi j=>.int (i-j)):=Ht λ_ _ _ _ _ _ _ q=>sub_int q
theorem zlJ:fH X (binaryOp .Mult) (rI wQ λi j=>.int (i*j)):=Mr λ_ _ _ _ _ _ _ hc q=>mul_int q hc.ok
theorem zjK:fH X (binaryOp .FloorDiv) (rI wO λi j=>.int (i/j)):=Mr λi j _ _ _ _ _ hc q=>by
 have h1:(0:Int)<j:=hc.1;have h2:j<1073741824:=hc.2;exact floordiv_int (by lia) (by rw[Int.fdiv_eq_ediv_of_nonneg i (by lia)];exact q) (.inl (PyProof.noPylong_small (by lia)))
theorem zm5:fH X (binaryOp .Mod) (rI (λ_ j=>0<j) λi j=>.int (i%j)):=Mr λi j _ _ _ _ _ hc q=>by
 have h1:(0:Int)<j:=hc;exact mod_int' (by lia) (by rw[Int.fmod_eq_emod_of_nonneg i (by lia)];exact q)
theorem zmj:fH X (binaryOp .Pow) (rI Hu λi j=>.int (i^j.toNat)):=Mr λ_ _ _ _ _ _ _ hc q=>pow_int_small hc.1 hc.2.1 hc.2.2 q
theorem unI{f:Value->Sem Value}{g:Int->Int}
  (rule:∀(i:Int) (t:Tok) (s:Shared) (Q:Value->Shared->Prop) (E:Value->Shared->Prop),Q (.int (g i) s.toks) {s with toks:=s.toks+1}->wpAny (model X.prog X.w) X.A (f (.int i t)) Q E s) :
  Mp X f (rU λi=>.int (g i)):=by
 intro ao s Z H x v Q I rx h;obtain⟨i,rfl,q⟩:=h;obtain⟨t,rfl⟩:=rx;exact rule i t s _ _ ⟨.int (g i),H,I.tok _,⟨_,rfl⟩,q⟩
theorem Yh:Mp X (unaryOp .USub) (rU λi=>.int (-i)):=unI λ_ _ _ _ _ q=>neg_int q
end
section
variable {X:Cx}{a b c:Expr}{ta tb tc:TE}{pos:Pos}
theorem Hv:fH X (compareOp .Lt) (pN λi j=>.bl (decide (i<j))):=wN λ_ _ _ _ _ _ _ q=>lt_int q
theorem zoM:fH X (compareOp .LtE) (pN λi j=>.bl (decide (i<=j))):=wN λ_ _ _ _ _ _ _ q=>le_int q
theorem zoE:fH X (compareOp .Gt) (pN λi j=>.bl (decide (j<i))):=wN λ_ _ _ _ _ _ _ q=>gt_int q
theorem zoo:fH X (compareOp .GtE) (pN λi j=>.bl (decide (j<=i))):=wN λ_ _ _ _ _ _ _ q=>ge_int q
theorem fH.or{f:Value->Value->Sem Value}{r r':R2}(h:fH X f r)(h':fH X f r'):fH X f (λx y H Q=>r x y H Q\/r' x y H Q):=by
 intro ao s Z H x y v u Q I rx ry q;rcases q with q|q
 ·exact h ao s Z H x y v u Q I rx ry q
 ·exact h' ao s Z H x y v u Q I rx ry q
theorem zkd{op:CmpOp}{r:R2}(ho:fH X (compareOp op) r)(ha:PE X a ta)(hb:PE X b tb)(hm:behindInMarks op b=false):PE X (.Compare a [op] [b] pos) (Mq r ta tb):=by
 intro ao s Z H Q I h;exact wpAny_Compare1 (Bm ha hb I h λv u s2 x y H2 I2 rx ry q=>ho ao s2 Z H2 x y v u Q I2 rx ry q) hm
noncomputable def Hw(t:TE):TT:=λZ H Q=>t Z H λx H'=>∃k,x=.bl k/\Q k H'
theorem zke{op:CmpOp}{r:R2}(ho:fH X (compareOp op) r)(ha:PE X a ta)(hb:PE X b tb)(hm:behindInMarks op b=false):PT X (.Compare a [op] [b] pos) (Hw (Mq r ta tb)):=by
 intro ao s Z H Q I h;refine wpAny_isTrue_Compare1 (aW (ha ao s Z H _ I h) λv s1 hx=>fG hx λx H1 I1 r1 q1=>aW (hb ao s1 Z H1 _ I1 q1) λu s2 hx=>fG hx λy H2 I2 r2 q2=>
  aW (ho ao s2 Z H2 x y v u _ I2 r1 r2 q2) λc s3 hx=>Qn hx λz H3 I3 r3 k e q3=>?_) hm
 subst e;cases r3;exact vD ⟨H3,I3,q3⟩
noncomputable def Bq(r r':R2)(ta tb tc:TE):TE:=λZ H Q=>ta Z H λx H1=>tb Z H1 λy H2=>r x y H2 λz H3=>∃k,z=.bl k /\
 (if k=true then tc Z H3 λw' H4=>r' y w' H4 Q else Q (.bl false) H3)
theorem zhP{op op':CmpOp}{r r':R2}(ho:fH X (compareOp op) r)(tY:fH X (compareOp op') r')(ha:PE X a ta)(hb:PE X b tb)(hc:PE X c tc)
  (hm:lastMarks [op,op'] [b,c]=false:=by with_unfolding_all rfl):PE X (.Compare a [op,op'] [b,c] pos) (Bq r r' ta tb tc):=by
 intro ao s Z H Q I h;refine Compare_chain (aW (ha ao s Z H _ I h) λv s1 hx=>fG hx λx H1 I1 r1 q1=>chain_link (aW (hb ao s1 Z H1 _ I1 q1) λu s2 hx=>fG hx λy H2 I2 r2 q2=>
  aW (ho ao s2 Z H2 x y v u _ I2 r1 r2 q2) λd s3 hx=>Qn hx λz H3 I3 r3 k e q3=>?_)) hm
 subst e;cases r3;refine vD ?_;cases k with
 |false=>exact ite_ff ⟨.bl false,H3,I3,rfl,q3⟩
 |true=>exact ite_tt (chain_last (aW (hc ao s3 Z H3 _ I3 q3) λw' s4 hx=>fG hx λz' H4 I4 r4 q4=>tY ao s4 Z H4 y z' u w' Q I4 r2 r4 q4))
def Br(K:W.Frag)(x:V)(H:Hp)(k:Bool):Prop:=
 match x with
 |.non=>k=false
 |.bl b=>k=b
 |.int i=>k=(i != 0)
 |.str y=>y.length<=sizeLine/\k=((y.length:Int) != 0)
 |.Ba y=>y.size<=sizeLine/\k=((y.size:Int) != 0)
 |.ref p=>(∃xs,cY K H p xs/\k = !xs.isEmpty)\/(∃xs,fZ K H p xs/\k = !xs.isEmpty)\/∃kvs,H p=some (.dK kvs)/\k = !kvs.isEmpty
 |_=>False
theorem zfz{κ:Type}{kvs:List (κ×V)}{vs:List (κ×Value)}(r:KV kvs vs):(!vs.isEmpty) = !kvs.isEmpty:=by
 cases r<;>rfl
theorem Yi{xs:List V}{its:List Value}(r:Vals xs its):(!its.toArray.isEmpty) = !xs.isEmpty:=by
 cases r<;>simp
theorem jh:(sizeLine:Nat)<2^63:=by rw[vK];decide
theorem znm:QZ X (λx H Q=>∃k,Br X.K x H k/\Q k H):=by
 intro ao s Z H x v Q I rx h;obtain⟨k,e,q⟩:=h;have hl:=jh;have hs:sizeLine=16777216:=vK;cases x with
 |non=>
  cases rx;have e':k=false:=e;subst e';exact truthy_none ⟨H,I,q⟩
 |bl b=>
  cases rx;have e':k=b:=e;subst e';exact vD ⟨H,I,q⟩
 |int i=>
  obtain⟨t,rfl⟩:=rx;have e':k=(i != 0):=e;subst e';exact PySem.P.truthy_int ⟨H,I,q⟩
 |str y=>
  obtain⟨t,rfl⟩:=rx;obtain⟨hy,e'⟩ : y.length<=sizeLine/\k=((y.length:Int) != 0):=e;subst e';exact PySem.P.truthy_str (by lia) ⟨H,I.tok _,q⟩
 |Ba y=>
  obtain⟨t,rfl⟩:=rx;obtain⟨hy,e'⟩ : y.size<=sizeLine/\k=((y.size:Int) != 0):=e;subst e';exact PySem.W.truthy_bytes (by lia) ⟨H,I.tok _,q⟩
 |ref p=>
  cases rx;have e':(∃xs,cY X.K H p xs/\k = !xs.isEmpty)\/(∃xs,fZ X.K H p xs/\k = !xs.isEmpty)\/∃kvs,H p=some (.dK kvs)/\k = !kvs.isEmpty:=e;rcases e' with ⟨xs,hx,e'⟩|⟨xs,hx,e'⟩|⟨kvs,hx,e'⟩
  ·subst e';obtain⟨its,r,pl,hz⟩:=I.list hx;have hlen:=r.length;exact wpAny_truthy_list pl.isList (by simp only[fP];lia) ⟨H,I.tok _,by rw[Yi r];exact q⟩
  ·subst e';obtain⟨its,r,pl,hz⟩:=I.tuple hx;have hlen:=r.length;exact truthy_tuple pl (by simp only[fP];lia) ⟨H,I.tok _,by rw[Yi r];exact q⟩
  ·subst e';obtain⟨hz,hS,vs,r,m⟩ : kvs.length<=sizeLine/\(p==sysModules)=false/\∃vs,KV kvs vs/\s.heap.DictOf (mO X.prog X.w) p vs:=I.hok p _ hx;have hlen:kvs.length=vs.length:=Paired.length r;exact wpAny_truthy_dict hS m (by lia) ⟨H,I.tok _,by rw[zfz r];exact q⟩
 |_=>exact(show False from e).elim
theorem zfM:fH X (binaryOp .Add) (λx y H Q=>∃i j,x=.str i/\y=.str j/\i.length+j.length<=sizeLine/\Q (.str (i++j)) H):=by
 intro ao s Z H x y v u Q I rx ry h;obtain⟨i,j,rfl,rfl,hz,q⟩:=h;obtain⟨t,rfl⟩:=rx;obtain⟨t',rfl⟩:=ry;exact add_str (λt' tk=>⟨.str (i++j),H,I.tok _,⟨_,rfl⟩,q⟩) hz
theorem vals1{x:V}{us:List Value}(r:Vals [x] us):∃u,us=[u]/\RelV x u:=by
 cases r with
 |cons r1 r2=>cases r2;exact⟨_,rfl,r1⟩
theorem vals2{x y:V}{us:List Value}(r:Vals [x,y] us):∃u w',us=[u,w']/\RelV x u/\RelV y w':=by
 cases r with
 |cons r1 r2=>
  cases r2 with
  |cons r3 r4=>cases r4;exact⟨_,_,rfl,r1,r3⟩
theorem zh1:cW X (.builtin "abs") (λxs H Q=>∃i,xs=[.int i]/\Q (.int (if i<0 then -i else i)) H):=by
 intro ao s Z H xs us Q I r h;obtain⟨i,rfl,q⟩:=h;obtain⟨u,rfl,t,rfl⟩:=vals1 r;exact call_abs_int λu tk=>⟨.int (if i<0 then -i else i),H,I.tok _,⟨_,rfl⟩,q⟩
theorem zgA(hc:X.aj=true):cW X (.builtin "max") (λxs H Q=>∃i j,xs=[.int i,.int j]/\Q (.int (if j>i then j else i)) H):=by
 intro ao s Z H xs us Q I r h;obtain⟨i,j,rfl,q⟩:=h;obtain⟨u,w',rfl,⟨t,rfl⟩,⟨t',rfl⟩⟩:=vals2 r;refine max_two_ints (I.ok.hd hc) λh' tk k=>⟨_,H,I.kept k,?_,q⟩;by_cases hj:j>i
 ·rw[if_pos hj,if_pos hj];exact⟨_,rfl⟩
 ·rw[if_neg hj,if_neg hj];exact⟨_,rfl⟩
theorem zf6(hc:X.aj=true):cW X (.builtin "min") (λxs H Q=>∃i j,xs=[.int i,.int j]/\Q (.int (if j<i then j else i)) H):=by
 intro ao s Z H xs us Q I r h;obtain⟨i,j,rfl,q⟩:=h;obtain⟨u,w',rfl,⟨t,rfl⟩,⟨t',rfl⟩⟩:=vals2 r;refine min_two_ints (I.ok.hd hc) λh' tk k=>⟨_,H,I.kept k,?_,q⟩;by_cases hj:j<i
 ·rw[if_pos hj,if_pos hj];exact⟨_,rfl⟩
 ·rw[if_neg hj,if_neg hj];exact⟨_,rfl⟩
theorem zg9:cW X (.type "int") (λxs H Q=>(∃i,xs=[.int i]/\Q (.int i) H)\/∃k,xs=[.bl k]/\Q (.int (if k then 1 else 0)) H):=by
 intro ao s Z H xs us Q I r h;rcases h with ⟨i,rfl,q⟩|⟨k,rfl,q⟩
 ·obtain⟨u,rfl,t,rfl⟩:=vals1 r;exact call_int_int ⟨.int i,H,I,⟨_,rfl⟩,q⟩
 ·obtain⟨u,rfl,r1⟩:=vals1 r;cases r1;exact call_int_bool ⟨.int (if k then 1 else 0),H,I.tok _,⟨_,rfl⟩,q⟩
theorem zem:cW X (.builtin "divmod") (λxs H Q=>∃i j,xs=[.int i,.int j]/\wO i j/\∀p,H p=none->Q (.ref p) (upd H p (.tup [.int (i/j),.int (i%j)]))):=by
 intro ao s Z H xs us Q I r h;obtain⟨i,j,rfl,⟨h1,h2⟩,q⟩:=h;obtain⟨u,w',rfl,⟨t,rfl⟩,⟨t',rfl⟩⟩:=vals2 r;refine divmod_int (by lia) ?_ (.inl (PyProof.noPylong_small (by lia)));rw[Int.fdiv_eq_ediv_of_nonneg i (by lia),Int.fmod_eq_emod_of_nonneg i (by lia)];have hn:H s.heap.objs.size=none:=I.hok.fresh (bU _);refine⟨.ref s.heap.objs.size,_,?_,rfl,q _ hn⟩;refine I.laid (λb o e=>cU _ e) (bU _) ⟨by simp only[fX,Am];rw[vK];decide,[.int (i/j) s.toks,.int (i%j) (s.toks+1)],.cons ⟨_,rfl⟩ (.cons ⟨_,rfl⟩ .nil),?_⟩;exact⟨_,fO s.heap rfl,rfl,0,rfl⟩
end
structure pO(h:Heap)(x dx C:Addr)(mA:Str->Option Value):Prop where
 obj:h.get? x=some (PySem.W.instObj C dx)
 ns:h.Ns1 dx mA
 ne:dx≠x
theorem zgS{h:Heap}{dx:Addr}{mA:Str->Option Value}(n:h.Ns1 dx mA):∃od,h.get? dx=some od/\∀name,PySem.W.lookIn name od=some (mA name):=by
 obtain⟨o,es,ep,ho,hd,hk,_,hm⟩:=n;refine⟨o,ho,λname=>?_⟩;have e:=hm name;unfold nsFind findBy at e;rw[<-Array.find?_toList] at e;unfold PySem.W.lookIn;rw[hd];dsimp only
 split
 ·rename_i y q;rw[q] at e;exact lM some e
 ·rename_i q;rw[q] at e;have a:es.toList.any (·.refKey)=false:=by
   rw[List.any_eq_false];intro y hy;obtain⟨z,t,Q0⟩:=hk y (Array.mem_toList_iff.mp hy);simp[DictEntry.refKey,Q0]
  have a':¬es.toList.any (·.refKey)=true:=by rw[a];exact Qh
  rw[if_neg a'];exact lM some e
theorem pO.look{h:Heap}{x dx C:Addr}{mA:Str->Option Value}(I:pO h x dx C mA):∃od,PySem.W.InstAt h x (PySem.W.instObj C dx) C (some od)/\∀name,PySem.W.lookIn name od=some (mA name):=
 let ⟨od,ho,hl⟩:=zgS I.ns
 ⟨od,⟨I.obj,rfl,rfl,ho⟩,hl⟩
section
variable {prog:Program}{w:World}{A:Around}{E:Value->Shared->Prop}{s:Shared}{K:W.Frag}{x dx C f:Addr}{mA:Str->Option Value}{name:Str}{v:Value}
theorem zjW{expr:Bool}{Q:Value->Shared->Prop}(X:K.In s.heap)(I:pO s.heap x dx C mA)(hg:PySem.W.plainGet K C name=true)(hh:PySem.W.hasDictIn K C=true)
  (ha:PySem.W.findIn K (.ref C) name=some none) (hv:mA name=some v) (Q5:PySem.W.handedIn v=true) (h:Q v {s with toks:=s.toks+1}) :
  wpAny (model prog w) A (getAttr (.ref x) name expr) Q E s:=by
 obtain⟨od,bM,hl⟩:=I.look;exact PySem.W.get_value X bM (Qe hg).1 (PySem.W.findObj_own hh ha rfl (by rw[hl,hv])) Q5 h
theorem zh8{pl:Sem Bool}{Q:Value×List Value->Shared->Prop}(X:K.In s.heap)(I:pO s.heap x dx C mA)(hg:PySem.W.plainGet K C name=true)
  (hf:PySem.W.findIn K (.ref C) name=some (some (.ref f))) (ht:PySem.W.isFn K (.ref f)=true) (hv:mA name=none) (h:Q (.ref f,[.ref x]) s) :
  wpAny (model prog w) A (getMethod (.ref x) name pl) Q E s:=by
 obtain⟨od,bM,hl⟩:=I.look;exact PySem.W.method_fn X bM (Qe hg).1 (Qe hg).2 hf (pF.mp ht) (by show (PySem.W.lookIn name od).map (·.isSome)=some false;rw[hl,hv];rfl) h
theorem zkS{ns:List Str}{Q:Unit->Shared->Prop}(X:K.In s.heap)(I:pO s.heap x dx C mA)
  (hs:PySem.W.findIn K (.ref C) "__setattr__"=some (some (.builtin "object.__setattr__"))) (hp:PySem.W.plainOver K C=true) (ht:PySem.W.takerIn K C name=some none) (hh:PySem.W.hasDictIn K C=true)
  (hw:PySem.Within mA ns) (hsz:ns.length<=sizeLine)
  (h:∀h',pO h' x dx C (λy=>if y=name then some v else mA y)->Heap.SameBut dx s.heap h'->Q () {s with heap:=h',toks:=s.toks+2}) :
  wpAny (model prog w) A (setAttr (.ref x) name v) Q E s:=by
 obtain⟨od,bM,hl⟩:=I.look;refine PySem.W.set_plain X bM hs (PySem.W.osa_open (s:={s with toks:=s.toks+1}) (r:=none) X bM hp ht λb=>?_);obtain⟨cd,hc,G7⟩:=PySem.W.any_some hh;have hx:s.heap.get? x=some ⟨.ref C,some dx,.plain,#[]⟩:=I.obj;refine aB (aM (aB (aB (wpAny_loadPart hx (aB (PySem.W.Looks.here (s:={s with toks:=s.toks+1}) (PySem.W.looks_clsIn X hc) ?_))))));rw[G7];refine aM (a:=some dx) (aB (aM (aB ?_)));refine wpAny_nsSet1 (s:={s with toks:=s.toks+1}) I.ns λh' Yj vO=>?_;obtain⟨oD,esD,epD,hoD,hdD,hcD⟩:=Yj.count (PySem.Within.cons name v hw);refine aB (wpAny_lookBehind hoD (by rw[hdD];exact pastItsLine_dict (jo hcD (by rw[fX];lia))) ?_);exact aM (h _ ⟨(vO.2 _ (Ne.symm I.ne)).trans I.obj,Yj,I.ne⟩ vO)
theorem zih{R:Result->Shared->Prop}{vs:List Value}{kw:List (Str×Value)}(X:K.In s.heap)(hm:PySem.W.makesIn K C=true)
  (hi:PySem.W.findIn K (.ref C) "__init__"=some (some (.ref f))) (hf:PySem.W.typeIn K (.ref f)=some (.type "function"))
  (h:codeAny (model prog w) (A.under (.builtin "type.__call__" ⟨.ref C::vs,kw⟩)) (.call (.ref f) ⟨.ref (s.heap.objs.size+1)::vs,kw⟩) (PySem.W.InitBack (s.heap.objs.size+1) R)
   {s with heap:=(s.heap.push PySem.W.emptyDict).push (PySem.W.instObj C s.heap.objs.size)}) :
  codeAny (model prog w) A (.call (.ref C) ⟨vs,kw⟩) R s:=by
 obtain⟨hh,g,d,t,os⟩:=s;exact PySem.W.make_core (PySem.W.makes_of X hm) (PySem.W.looks_findIn X hi) (λself=>PySem.W.bind_fn X self hf) (.inl rfl) h
end
noncomputable def fV(f:Str)(v:V):List (Str×V)->List (Str×V)
 |[]=>[(f,v)]
 |(g,x)::r=>if g=f then (g,v)::r else (g,x)::fV f v r
theorem Yk(f g:Str)(v:V):∀fs:List (Str×V),(fV f v fs).lookup g=if g=f then some v else fs.lookup g
 |[]=>by
  show List.lookup g [(f,v)]=_;by_cases h:g=f
  ·have hb:(g==f)=true:=pF.mpr h;simp only[List.lookup,hb,if_pos h]
  ·have hb:(g==f)=false:=Dp.mpr h;simp only[List.lookup,hb,if_neg h]
 |(k,x)::r=>by
  have ih:=Yk f g v r;rw[show fV f v ((k,x)::r)=(if k=f then (k,v)::r else (k,x)::fV f v r) from rfl];by_cases hk:k=f
  ·rw[if_pos hk];by_cases h:g=k
   ·have hb:(g==k)=true:=pF.mpr h;simp only[List.lookup,hb,if_pos (h.trans hk)]
   ·have hb:(g==k)=false:=Dp.mpr h;simp only[List.lookup,hb,if_neg (λe:g=f=>h (e.trans hk.symm))]
  ·rw[if_neg hk];by_cases h:g=k
   ·have hb:(g==k)=true:=pF.mpr h;simp only[List.lookup,hb,if_neg (λe:g=f=>hk (h.symm.trans e))]
   ·have hb:(g==k)=false:=Dp.mpr h;simp only[List.lookup,hb];exact ih
theorem Q6(f:Str)(v:V):∀fs:List (Str×V),f∈(fV f v fs).map (·.1)/\∀g,g∈fs.map (·.1)->g∈(fV f v fs).map (·.1)
 |[]=>⟨by simp[fV],λg h=>by simp at h⟩
 |(k,x)::r=>by
  obtain⟨i1,i2⟩:=Q6 f v r;rw[show fV f v ((k,x)::r)=(if k=f then (k,v)::r else (k,x)::fV f v r) from rfl];by_cases hk:k=f
  ·rw[if_pos hk];subst hk;exact⟨by simp,λg h=>by simpa using h⟩
  ·rw[if_neg hk];refine⟨?_,λg h=>?_⟩
   ·rw[g_];exact iz _ i1
   ·rw[g_] at h ⊢;rcases gQ.mp h with e|e
    ·exact gQ.mpr (.inl e)
    ·exact iz _ (i2 g e)
theorem Yl(f:Str)(v:V):∀fs:List (Str×V),(fV f v fs).length<=fs.length+1
 |[]=>by simp[fV]
 |(k,x)::r=>by
  have ih:=Yl f v r;rw[show fV f v ((k,x)::r)=(if k=f then (k,v)::r else (k,x)::fV f v r) from rfl];by_cases hk:k=f
  ·rw[if_pos hk,fX,fX];lia
  ·rw[if_neg hk,fX,fX];lia
theorem Kaf{v:V}{o:Option Value}(r:rJ (some v) o):∃u,o=some u/\RelV v u:=by
 cases o with
 |none=>exact(show False from r).elim
 |some u=>exact⟨u,rfl,r⟩
theorem Kae{o:Option Value}(r:rJ none o):o=none:=by
 cases o with
 |none=>rfl
 |some u=>exact(show False from r).elim
theorem zgE{v:V}{u:Value}(r:RelV v u):PySem.W.handedIn u=true:=by
 cases v with
 |non=>cases (show u=Value.none from r);rfl
 |bl b=>cases (show u=Value.bool b from r);rfl
 |int i=>obtain⟨t,e⟩:=(show ∃t,u=Value.int i t from r);cases e;rfl
 |str x=>obtain⟨t,e⟩:=(show ∃t,u=Value.str x t from r);cases e;rfl
 |Ba b=>obtain⟨t,e⟩:=(show ∃t,u=Value.bytes b t from r);cases e;rfl
 |flt b=>obtain⟨t,e⟩:=(show ∃t,u=Value.float b t from r);cases e;rfl
 |ref a=>cases (show u=Value.ref a from r);rfl
 |ty n=>cases (show u=Value.type n from r);rfl
section
variable {P:Program}{w:World}{H H':Hp}{h h':Heap}{a C dx:Addr}{fs fs':List (Str×V)}
theorem Q7(hok:i_ P w H h)(e:H a=some (.ins C dx fs)):∃mA,pO h a dx C mA/\(∀f,rJ (fs.lookup f) (mA f))/\PySem.Within mA (fs.map (·.1))/\fs.length<=1000/\H dx=some (.own a):=by
 obtain⟨d,z,ne,ob,mA,n,r,q⟩:=(show bR P w H h a (.ins C dx fs) from hok a _ e);exact⟨mA,⟨ob,n,ne⟩,r,q,z,d⟩
end
structure Cls(K:W.Frag)(C:Addr):Prop where
 pg:PySem.W.plainGet K C Str.empty=true
 hd:PySem.W.hasDictIn K C=true
 po:PySem.W.plainOver K C=true
 sa:PySem.W.findIn K (.ref C) "__setattr__"=some (some (.builtin "object.__setattr__"))
theorem Cls.get{K:W.Frag}{C:Addr}(c:Cls K C)(f:Str):PySem.W.plainGet K C f=true:=c.pg
def h_(K:W.Frag)(C:Addr)(f:Str):Prop:=PySem.W.findIn K (.ref C) f=some none
theorem h_.taker{K:W.Frag}{C:Addr}{f:Str}(n:h_ K C f):PySem.W.takerIn K C f=some none:=by
 unfold PySem.W.takerIn;rw[show PySem.W.findIn K (.ref C) f=some none from n];rfl
structure Meth(K:W.Frag)(C:Addr)(m:Str)(f:Addr):Prop where
 at_:PySem.W.findIn K (.ref C) m=some (some (.ref f))
 fn:PySem.W.isFn K (.ref f)=true
 kp:PySem.W.keepIn K (.ref f)=true
section
variable {X:Cx}{ao:List (Addr×Obj)}{Z:St}{H:Hp}{s:Shared}{a C dx:Addr}{fs:List (Str×V)}{f:Str}{v:V}{A:Around}{E:Value->Shared->Prop}
theorem zfZ{b:Bool}{Q:Value->Shared->Prop}(I:Inv X ao Z H s)(e:H a=some (.ins C dx fs))(c:Cls X.K C)(n:h_ X.K C f)(l:fs.lookup f=some v)
  (h:∀u s',Inv X ao Z H s'->RelV v u->Q u s'):wpAny (model X.prog X.w) A (getAttr (.ref a) f b) Q E s:=by
 obtain⟨mA,O,r,_,_,_⟩:=Q7 I.hok e;obtain⟨u,hu,ru⟩:=Kaf (v:=v) (o:=mA f) (by rw[<-l];exact r f);exact zjW I.nW O (c.get f) c.hd n hu (zgE ru) (h u _ (I.tok _) ru)
theorem zfT{m:Str}{g:Addr}{pl:Sem Bool}{Q:Value×List Value->Shared->Prop}(I:Inv X ao Z H s)(e:H a=some (.ins C dx fs))(c:Cls X.K C)(k:Meth X.K C m g)(l:fs.lookup m=none)
  (h:Q (.ref g,[.ref a]) s):wpAny (model X.prog X.w) A (getMethod (.ref a) m pl) Q E s:=by
 obtain⟨mA,O,r,_,_,_⟩:=Q7 I.hok e;have hn:mA m=none:=Kae (by rw[<-l];exact r m);exact zh8 I.nW O (c.get m) k.at_ k.fn hn h
theorem zf0{y:V}{u:Value}{Q:Unit->Shared->Prop}(I:Inv X ao Z H s)(e:H a=some (.ins C dx fs))(c:Cls X.K C)(n:h_ X.K C f)(hl:fs.length<1000)(ry:RelV y u)
  (h:∀s',Inv X ao Z (upd H a (.ins C dx (fV f y fs))) s'->Q () s'):wpAny (model X.prog X.w) A (setAttr (.ref a) f u) Q E s:=by
 obtain⟨mA,O,r,wi,_,ho⟩:=Q7 I.hok e;have hz:(fs.map (·.1)).length<=sizeLine:=by rw[bO,vK];lia
 refine zkS I.nW O c.sa c.po n.taker c.hd wi hz λh' O' sb=>h _ ?_;have hd:∃o,h'.get? dx=some o:=let ⟨o,_,_,e',_⟩:=O'.ns;⟨o,e'⟩;refine I.write (x:=a) (e:=dx) (by rw[e];exact True.intro) (.inr ho) (λb q hb z=>(sb.2 b hb).trans z) hd ?_;refine⟨by rw[dD O.ne];exact ho,?_,O.ne,O'.obj,_,O'.ns,λg=>?_,λg hg=>?_⟩
 ·have:=Yl f y fs;lia
 ·show rJ ((fV f y fs).lookup g) (if g=f then some u else mA g);rw[Yk];by_cases q:g=f
  ·rw[if_pos q,if_pos q];exact ry
  ·rw[if_neg q,if_neg q];exact r g
 ·by_cases q:g=f
  ·rw[q];exact(Q6 f y fs).1
  ·refine(Q6 f y fs).2 g (wi g λz=>hg ?_);show (if g=f then some u else mA g)=none;rw[if_neg q];exact z
theorem Inv.made(I:Inv X ao Z H s):Inv X ao Z (upd (upd H s.heap.objs.size (.own (s.heap.objs.size+1))) (s.heap.objs.size+1) (.ins C s.heap.objs.size []))
  {s with heap:=(s.heap.push PySem.W.emptyDict).push (PySem.W.instObj C s.heap.objs.size)}:=by
 have e1:(s.heap.push PySem.W.emptyDict).get? s.heap.objs.size=some PySem.W.emptyDict:=fO s.heap rfl;have e2:((s.heap.push PySem.W.emptyDict).push (PySem.W.instObj C s.heap.objs.size)).get? (s.heap.objs.size+1)=some (PySem.W.instObj C s.heap.objs.size):=by
  have:=fO (s.heap.push PySem.W.emptyDict) (o:=PySem.W.instObj C s.heap.objs.size) rfl
  rwa [sX] at this
 have e3:(s.heap.push PySem.W.emptyDict).Ns s.heap.objs.size (λ_=>none):=⟨PySem.W.emptyDict,#[],_,e1,rfl,(λe he=>absurd he (by simp)),λ_=>rfl⟩;have I1:=I.laid (a:=s.heap.objs.size) (o:=.own (s.heap.objs.size+1)) (h':=s.heap.push PySem.W.emptyDict) (t':=s.toks) (λb u q=>cU _ q) (bU _) ⟨_,e1⟩;refine I1.laid (a:=s.heap.objs.size+1) (o:=.ins C s.heap.objs.size []) (t':=s.toks) (λb u q=>cU _ q) (Nat.le_of_eq (sX _ _)) ?_;have ne:s.heap.objs.size≠s.heap.objs.size+1:=dN (Dz _);refine⟨by rw[dD ne,jT],wI _,ne,e2,λ_=>none,(Heap.Ns1.of_empty e3).at λo q=>cU _ q,λ_=>True.intro,λy hy=>absurd rfl hy⟩
theorem zjO{prog:Program}{w:World}{env:Env}{e:Expr}{f:Str}{pos:Pos}{s:Shared}{Q:Value->Shared->Prop}(hb:attributeBase e f env (eval e env)=eval e env)
  (h:wpAny (model prog w) A (eval e env) (λo s₁=>wpAny (model prog w) A (getAttr o f true) Q E s₁) E s):wpAny (model prog w) A (eval (.Attribute e f pos) env) Q E s:=
 Attribute_any_ h (by rw[arm_eval_Attribute,hb])
end
noncomputable def Q8(K:W.Frag)(ta:TE)(f:Str):TE:=λZ H Q=>ta Z H λx H1=>∃a C dx fs v,x=.ref a/\H1 a=some (.ins C dx fs)/\Cls K C/\h_ K C f/\fs.lookup f=some v/\Q v H1
noncomputable def Q9(K:W.Frag)(ta tv:TE)(f:Str):TS:=λD Z H=>tv Z H λy H1=>ta Z H1 λx H2=>∃a C dx fs,x=.ref a/\H2 a=some (.ins C dx fs)/\Cls K C/\h_ K C f/\fs.length<1000 /\
 D.nx Z (upd H2 a (.ins C dx (fV f y fs)))
section
variable {X:Cx}{o e value:Expr}{f:Str}{pos pos' tpos:Pos}{ta tv:TE}
theorem znc(he:PE X e ta)(hb:attributeBase e f X.env (eval e X.env)=eval e X.env):PE X (.Attribute e f pos) (Q8 X.K ta f):=by
 intro ao s Z H Q I h;refine zjO hb (aW (he ao s Z H _ I h) λu s1 ⟨x,H1,I1,rx,a,C,dx,fs,v,ex,ea,c,n,l,q⟩=>?_);subst ex;obtain rfl:u=Value.ref a:=rx;exact zfZ I1 ea c n l λu' s2 I2 ru=>⟨v,H1,I2,ru,q⟩
theorem znJ(ha:PE X o ta)(hv:PE X value tv)(hs:swapsWith value (some (.Attribute o f pos')) pos.line X.env=pure false):PS X (.Assign [.Attribute o f pos'] value pos) (Q9 X.K ta tv f):=by
 intro ao s Z H D I h;refine plainObj_wpAny_Assign_Attribute (aW (hv ao s Z H _ I h) λu s1 hx=>fG hx λy H1 I1 ry q=>aW (ha ao s1 Z H1 _ I1 q) λov s2 ⟨x,H2,I2,rx,a,C,dx,fs,ex,ea,c,n,l,q2⟩=>?_) hs;subst ex;obtain rfl:ov=Value.ref a:=rx;exact zf0 I2 ea c n l ry λs3 I3=>⟨Z,_,I3,q2⟩
end
section
variable {X:Cx}{ao:List (Addr×Obj)}{Z:St}{H:Hp}{s:Shared}{A:Around}{E:Value->Shared->Prop}{Q:Value->Shared->Prop}{c:Value}{b:Bool}
end
structure bG(k:Nat)(A:Around):Prop where
 dp:A.depth+3*k+5<recursionLimit
 un:A.units+16*k+200<cLine
 gd:A.guards=some []
theorem bG.deeper{k:Nat}{A:Around}(r:bG (k+1) A)(env:Env):bG k (A.deeper env):=
 ⟨by have:=r.dp;show A.depth+1+3*k+5<_;lia,by have:=r.un;show A.units+3+16*k+200<_;lia,r.gd⟩
theorem zf1{A:Around}{C:Addr}{us:List Value}{kw:List (Str×Value)}:(A.under (.builtin "type.__call__" ⟨.ref C::us,kw⟩)).depth=A.depth+1:=by
 first|rfl|simp[Around.under,Code.weight,Code.isCreation,Code.isGuard,Code.isCaller,Code.frames,Code.isFrame,guardIds]
theorem zfK{A:Around}{C:Addr}{us:List Value}{kw:List (Str×Value)}:(A.under (.builtin "type.__call__" ⟨.ref C::us,kw⟩)).units=A.units+1:=by
 first|rfl|simp[Around.under,Code.cUnits,Code.frames,Code.isFrame]
theorem bG.depth{k:Nat}{A:Around}(r:bG k A):A.depth<recursionLimit:=by have:=r.dp;lia
noncomputable def Q_:TA:=λ_ H Q=>Q [] H
noncomputable def Hx(ta:TE)(tr:TA):TA:=λZ H Q=>ta Z H λx H1=>tr Z H1 λxs H2=>Q (x::xs) H2
section
variable {X:Cx}{e:Expr}{es:List Expr}{te:TE}{t:TA}{pos:Pos}
theorem yX:PA X [] Q_:=λ_ _ _ _ H Q I h=>Calls.spliced_nil ⟨[],H,I,.nil,h⟩
theorem sZ(ha:PE X e te)(hr:PA X es t)(hs:starEach (e::es) X.env=(false,eval e X.env)::starEach es X.env:=by rfl):PA X (e::es) (Hx te t):=by
 intro pos ao s Z H Q I h;rw[hs];show wpAny _ _ (spliced ((false,eval e X.env)::backTo pos (starEach es X.env))) _ _ s;refine Calls.spliced_cons (aW (ha ao s Z H _ I h) λu s1 hx=>fG hx λx H1 I1 r1 q1=>?_);exact aW (hr pos ao s1 Z H1 _ I1 q1) λus s2 hx=>fG hx λxs H2 I2 r2 q2=>⟨x::xs,H2,I2,.cons r1 r2,q2⟩
noncomputable def Ra(t:TA):TE:=λZ H Q=>t Z H λxs H1=>xs.length<=sizeLine/\∀p,H1 p=none->Q (.ref p) (upd H1 p (.tup xs))
noncomputable def Rb(t:TA):TE:=λZ H Q=>t Z H λxs H1=>xs.length<=sizeLine/\∀p,H1 p=none->Q (.ref p) (upd H1 p (.lst xs))
theorem znP{x1}(h:PA X es t):PE X (.Tuple es x1 pos) (Ra t):=by
 intro ao s Z H Q I hq;refine wpAny_Tuple_spliced (aW (h pos ao s Z H _ I hq) λus s1 ⟨xs,H1,I1,r,z,q⟩=>⟨by rw[<-r.length];exact z,?_⟩);have hf:H1 s1.heap.objs.size=none:=I1.hok.fresh (bU _);refine⟨.ref s1.heap.objs.size,upd H1 s1.heap.objs.size (.tup xs),I1.laid (t':=s1.toks) (λb u e=>cU _ e) (bU _) ?_,rfl,q _ hf⟩;exact⟨z,us,r,⟨_,fO _ rfl,rfl,_,rfl⟩⟩
theorem zmB(h:PA X es t):PE X (.List es pos) (Rb t):=by
 intro ao s Z H Q I hq;refine wpAny_List_spliced (aW (h pos ao s Z H _ I hq) λus s1 ⟨xs,H1,I1,r,z,q⟩=>⟨by rw[<-r.length];exact z,?_⟩);have hf:H1 s1.heap.objs.size=none:=I1.hok.fresh (bU _);refine⟨.ref s1.heap.objs.size,upd H1 s1.heap.objs.size (.lst xs),I1.laid (t':=s1.toks) (λb u e=>cU _ e) (bU _) ?_,rfl,q _ hf⟩;exact⟨z,us,0,r,fO _ rfl⟩
end
noncomputable abbrev Sp:=List V->Hp->VK->XK->Prop
noncomputable abbrev tu:=List Env->Hp->Shared->XK->Value->Shared->Prop
structure pP(P:Program)(w:World)(K:W.Frag)(mg:Str->Option Value)(base:Heap)(A:Around)(outer:List Env)(s:Shared)(H:Hp):Prop where
 frames:A.frames=some outer
 mod:Mod K mg base
 bs:∀b o,base.get? b=some o->s.heap.get? b=some o/\H b=none
 Bf:base.objs.size<=s.heap.objs.size
 lg:s.heap.FunFrames base outer
 G6:∀b∈frs outer,H b=none
 hok:i_ P w H s.heap
 bare:AllBare s.gens
def CE(outer:List Env)(P:Program)(w:World)(H:Hp)(s:Shared)(Q:VK)(u:Value)(s':Shared):Prop:=
 ∃v H',s'.os=s.os/\AllBare s'.gens/\Un (frs outer) [] H H' s.heap s'.heap/\i_ P w H' s'.heap/\RelV v u/\Q v H'
def CR(CX:tu)(outer:List Env)(P:Program)(w:World)(H:Hp)(s:Shared)(Q:VK)(E:XK)(r:Result)(s':Shared):Prop:=
 match r with
 |.ok (.ret u)=>CE outer P w H s Q u s'
 |.ok _=>False
 |.error e=>CX outer H s E e s'
structure cH(P:Program)(w:World)(K:W.Frag)(mg:Str->Option Value)(base:Heap)(CX:tu)(cm:Bool)(k:Nat)(f:Addr)(fd:FuncData)(ps:List Str)(sp:Sp):Prop where
 len:∀vs H Q E,sp vs H Q E->vs.length=ps.length
 run:∀(A:Around) (outer:List Env) (s:Shared) (H:Hp) (args:Args) (us:List Value) (vs:List V) (Q:VK) (E:XK),(cm=true->A.handled=none)->bG k A->pP P w K mg base A outer s H->BindsTo s fd args (ps.zip us)->Vals vs us->sp vs H Q E->
  codeAny (model P w) A (.call (.ref f) args) (CR CX outer P w H s Q E) s
theorem cH.imp{P:Program}{w:World}{K:W.Frag}{mg:Str->Option Value}{base:Heap}{CX:tu}{cm:Bool}{k:Nat}{f:Addr}{fd:FuncData}{ps:List Str}{sp Ym:Sp}(F:cH P w K mg base CX cm k f fd ps sp)
  (h:∀vs H Q E,Ym vs H Q E->sp vs H Q E):cH P w K mg base CX cm k f fd ps Ym:=
 ⟨λvs H Q E q=>F.len vs H Q E (h _ _ _ _ q),λA outer s H args us vs Q E jF hr he hb hv hs=>F.run A outer s H args us vs Q E jF hr he hb hv (h _ _ _ _ hs)⟩
theorem pP.make{P:Program}{w:World}{K:W.Frag}{mg:Str->Option Value}{base:Heap}{A:Around}{outer:List Env}{s:Shared}{H:Hp}(e:pP P w K mg base A outer s H)(C:Addr)(us:List Value)(kw:List (Str×Value)) :
  pP P w K mg base (A.under (.builtin "type.__call__" ⟨.ref C::us,kw⟩)) outer s H:=⟨by first|exact e.frames|(simpa [Around.under,Code.envs,Code.isFrame,pushEnvs] using e.frames),e.mod,e.bs,e.Bf,e.lg,e.G6,e.hok,e.bare⟩
section
variable {X:Cx}{ao:List (Addr×Obj)}{Z:St}{H:Hp}{s s':Shared}
theorem Inv.env0(I:Inv X ao Z H s):pP X.prog X.w X.K X.mg X.base X.A X.stack s H:=
 ⟨I.ok.frames,I.ok.mod,I.bs,jo I.ok.Bf I.sz,I.stack,I.mU,I.hok,I.bare⟩
theorem Inv.after{Q:VK}{u:Value}(I:Inv X ao Z H s)(h:CE X.stack X.prog X.w H s Q u s'):EP X ao Z Q u s':=by
 obtain⟨v,H',os,bare,un,hok,r,q⟩:=h;obtain⟨hh,g,d,t,os'⟩:=s';obtain rfl:os'=s.os:=os;exact⟨v,H',I.call (h':=hh) (g':=g) (d':=d) (t':=t) (ch:=[]) un hok bare (λb z=>absurd z (by simp)),r,q⟩
end
noncomputable def Hy(C:Addr)(m:Str)(sp:Sp)(n8:List V)(E:XK)(ta:TE)(t:TA):TE:=λZ H Q=>ta Z H λx H1=>∃a dx fs,x=.ref a/\H1 a=some (.ins C dx fs)/\fs.lookup m=none /\
 t Z H1 λvs H2=>sp (x::(vs++n8)) H2 Q E
noncomputable def Hz(C:Addr)(sp:Sp)(n8:List V)(E:XK)(t:TA):TE:=λZ H Q=>t Z H λvs H1=>∀x dx,H1 x=none->H1 dx=none->dx≠x->
 sp (.ref x::(vs++n8)) (upd (upd H1 dx (.own x)) x (.ins C dx [])) (λv H2=>v=.non/\Q (.ref x) H2) E
def Binds(K:W.Frag)(fd:FuncData)(ps:List Str)(ds:List Value):Prop:=
 ∀(s:Shared) (us:List Value),K.In s.heap->(us++ds).length=ps.length->BindsTo s fd ⟨us,[]⟩ (ps.zip (us++ds))
theorem Binds.all{K:W.Frag}{fd:FuncData}{ps:List Str}(h:∀us:List Value,us.length=ps.length->bindArgs fd ⟨us,[]⟩=pure (ps.zip us)):Binds K fd ps []:=λs us _ hl=>by
 rw[vG] at hl ⊢;exact .of_eq (h us hl)
def Passes(CX:tu)(X:Cx)(E:XK):Prop:=∀(ao:List (Addr×Obj)) (Z:St) (H:Hp) (s:Shared) (e:Value) (s':Shared),Inv X ao Z H s->CX X.stack H s E e s'->X.xe e s'
section
variable {X:Cx}{CX:tu}{cm:Bool}{k:Nat}{f C:Addr}{fd:FuncData}{ps:List Str}{sp:Sp}{n8:List V}{ds:List Value}{E:XK}{x m:Str}{p pos apos:Pos}{e o:Expr}{es:List Expr}{ta:TE}{t:TA}
theorem znD{ao:List (Addr×Obj)}{Z:St}{H:Hp}{s:Shared}{Q:VK}{us:List Value}{vs:List V}(F:cH X.prog X.w X.K X.mg X.base CX cm k f fd ps sp)(jF:cm=true->X.aj=true)(hr:bG k X.A)(hb:Binds X.K fd ps ds)(hd:Vals n8 ds)(hx:Passes CX X E)
  (I:Inv X ao Z H s) (r:Vals vs us) (h:sp (vs++n8) H Q E):wpAny (model X.prog X.w) X.A (call (.ref f) us) (EP X ao Z Q) X.xe s:=by
 have r2:Vals (vs++n8) (us++ds):=r.append hd;have hl:(us++ds).length=ps.length:=by rw[<-r2.length];exact F.len _ _ _ _ h
 refine wpAny_call (Aq (F.run X.A X.stack s H ⟨us,[]⟩ (us++ds) (vs++n8) Q E (λz=>I.ok.hd (jF z)) hr I.env0 (hb s us I.nW hl) r2 h) λr s' hq=>?_);cases r with
 |error e=>exact hx ao Z H s e s' I hq
 |ok fl=>
  cases fl with
  |ret u=>exact I.after hq
  |next=>exact False.elim hq
  |brk=>exact False.elim hq
  |cont=>exact False.elim hq
theorem zj3{pl:Sem Bool}(he:PE X o ta)(c:Cls X.K C)(hm:Meth X.K C m f)(F:cH X.prog X.w X.K X.mg X.base CX cm k f fd ps sp)(jF:cm=true->X.aj=true)(hr:bG k X.A)(hb:Binds X.K fd ps ds)(hd:Vals n8 ds)(hx:Passes CX X E)(ha:PA X (e::es) t)
  (Bl:starEach (e::es) X.env=(false,eval e X.env)::starEach es X.env:=by rfl) (hpl:(backTo pos (starEach es X.env)).any (·.1)=false:=by rfl)
  (ht:eval (.Call (.Attribute o m apos) (e::es) [] pos) X.env=(do
   let ov <-eval o X.env
   standAt apos.atName
   let (f,first) <-holding [ov] (getMethod ov m pl)
   callWith pos f first (backTo pos (starEach (e::es) X.env)) (backToKw pos (keywordEach [] X.env))):=by rfl) :
  PE X (.Call (.Attribute o m apos) (e::es) [] pos) (Hy C m sp n8 E ta t):=by
 intro ao s Z H Q I h;refine PySem.W.methodCall_KW (pl:=pl) (aW (he ao s Z H _ I h) λu s1 ⟨x,H1,I1,rx,a,dx,fs,ex,ea,l,q⟩=>?_) ht;subst ex;obtain rfl:u=Value.ref a:=rx;refine zfT I1 ea c hm l ?_;refine Qi (first:=[.ref a]) (h₀:=X.base) I.ok.mod.yQ hm.kp (aW (ha pos ao s1 Z H1 _ I1 q) λus s2 ⟨vs,H2,I2,r,q2⟩=>⟨I2.nW,?_⟩) Bl hpl;exact znD (us:=.ref a::us) (vs:=.ref a::vs) F jF hr hb hd hx I2 (.cons rfl r) q2
structure Mk(K:W.Frag)(C f:Addr):Prop where
 makes:PySem.W.makesIn K C=true
 init:PySem.W.findIn K (.ref C) "__init__"=some (some (.ref f))
 fn:PySem.W.isFn K (.ref f)=true
 kp:PySem.W.keepIn K (.ref C)=true
theorem zhK{ao:List (Addr×Obj)}{Z:St}{H:Hp}{s:Shared}{Q:VK}{us:List Value}{vs:List V}(M:Mk X.K C f)(F:cH X.prog X.w X.K X.mg X.base CX cm k f fd ps sp)(jF:cm=true->X.aj=true)(hr:∀us,bG k (X.A.under (.builtin "type.__call__" ⟨.ref C::us,[]⟩)))(hb:Binds X.K fd ps ds)(hd:Vals n8 ds)
  (hx:Passes CX X E) (I:Inv X ao Z H s) (r:Vals vs us)
  (h:∀x dx,H x=none->H dx=none->dx≠x->sp (.ref x::(vs++n8)) (upd (upd H dx (.own x)) x (.ins C dx [])) (λv H2=>v=.non/\Q (.ref x) H2) E) :
  wpAny (model X.prog X.w) X.A (call (.ref C) us) (EP X ao Z Q) X.xe s:=by
 have hq:=h (s.heap.objs.size+1) s.heap.objs.size (I.hok.fresh (Nat.le_succ _)) (I.hok.fresh (bU _)) (dN (Dz _));have I2:=Inv.made (C:=C) I;have r2:Vals (V.ref (s.heap.objs.size+1)::(vs++n8)) (Value.ref (s.heap.objs.size+1)::(us++ds)):=.cons rfl (r.append hd);have hl:(Value.ref (s.heap.objs.size+1)::us++ds).length=ps.length:=by
  have e:=r2.length;rw[F.len _ _ _ _ hq] at e;exact e.symm
 refine wpAny_call (zih (f:=f) I.nW M.makes M.init (pF.mp M.fn) (Aq (F.run _ X.stack _ _ ⟨Value.ref (s.heap.objs.size+1)::us,[]⟩ (Value.ref (s.heap.objs.size+1)::(us++ds)) _ _ E (λz=>I.ok.hd (jF z)) (hr us)
  (I2.env0.make C us []) (hb _ (Value.ref (s.heap.objs.size+1)::us) I2.nW hl) r2 hq) λr s' HB=>?_))
 cases r with
 |error e=>exact hx ao Z _ _ e s' I2 HB
 |ok fl=>
  cases fl with
  |ret u=>
   obtain⟨v,H',I3,rv,ev,q3⟩:=I2.after HB;subst ev;exact⟨rv,⟨V.ref (s.heap.objs.size+1),H',I3,rfl,q3⟩⟩
  |next=>exact False.elim HB
  |brk=>exact False.elim HB
  |cont=>exact False.elim HB
theorem zln(M:Mk X.K C f)(F:cH X.prog X.w X.K X.mg X.base CX cm k f fd ps sp)(jF:cm=true->X.aj=true)(hr:∀us,bG k (X.A.under (.builtin "type.__call__" ⟨.ref C::us,[]⟩)))(hg:Gl X x)(hm:X.mg x=some (.ref C))(hb:Binds X.K fd ps ds)(hd:Vals n8 ds)(hx:Passes CX X E)
  (ha:PA X (e::es) t) (rK:(x==("__debug__" : Str))=false:=by decide) (he:starEach (e::es) X.env=(false,eval e X.env)::starEach es X.env:=by rfl) (hpl:(backTo pos (starEach es X.env)).any (·.1)=false:=by rfl) :
  PE X (.Call (.Name x p) (e::es) [] pos) (Hz C sp n8 E t):=by
 intro ao s Z H Q I h;refine Ds (Qz I hg hm ?_ rK);refine Qi (h₀:=X.base) I.ok.mod.yQ M.kp (aW (ha pos ao s Z H _ I h) λus s1 ⟨vs,H1,I1,r,q⟩=>⟨I1.nW,?_⟩) he hpl;exact zhK M F jF hr hb hd hx I1 r q
end
section
variable {X:Cx}{CX:tu}{cm:Bool}{k:Nat}{f C:Addr}{fd:FuncData}{ps ks:List Str}{sp:Sp}{E:XK}{x m:Str}{p pos apos kpos:Pos}{e o:Expr}{es:List Expr}{kws:List Keyword}{te ta:TE}{t tk:TA}{nm:Option Str}
variable {g:List Value->List Value->List Value}{gV:List V->List V->List V}
end
structure dz(N P:List Str)(sc:Scope):Prop where
 kind:sc.kind=.function
 co:sc.isCoroutine=false
 gen:sc.isGenerator=false
 nd:N.Nodup
 pre:N.take P.length=P
 par:∀x∈P,sc.names.lookup x=some .local\/sc.names.lookup x=some .cell
 Bs:∀y∈sc.names,y.2≠.free
theorem Yn{kindOf:Str->Option NameKind}{x:Str}:∀{binds:List (Str×Value)} {m:Str->Option Value},(∀v,(x,v)∉binds)->bindL kindOf binds m x=m x
 |[],_,_=>rfl
 |(n,v)::r,m,h=>by
  unfold bindL;rw[Yn λw hw=>h w (iz _ hw)]
  split
  ·have:x≠n:=by rintro rfl;exact h v lJ
   simp[this]
  ·rfl
theorem Yo{kindOf:Str->Option NameKind}{x:Str}:∀{binds:List (Str×Value)} {m:Str->Option Value},(∀v,(x,v)∉binds)->bindC kindOf binds m x=m x
 |[],_,_=>rfl
 |(n,v)::r,m,h=>by
  unfold bindC;rw[Yo λw hw=>h w (iz _ hw)]
  split
  ·rfl
  ·have:x≠n:=by rintro rfl;exact h v lJ
   simp[this]
theorem Yp{kindOf:Str->Option NameKind}{x:Str}{v:Value}:∀{P:List Str} {vs:List Value} {i:Nat} {m:Str->Option Value},P.Nodup->P[i]?=some x->vs[i]?=some v->kindOf x=some .local->
  bindL kindOf (P.zip vs) m x=some v
 |[],_,_,_,_,h,_,_=>by simp at h
 |_::_,[],_,_,_,_,h,_=>by simp at h
 |p::P,w::vs,0,m,nd,h1,h2,hk=>by
  simp at h1 h2;subst h1;subst h2;show bindL kindOf ((p,w)::P.zip vs) m p=_;unfold bindL;rw[Yn λv hv=>(vH.mp nd).1 (List.of_mem_zip hv).1,if_pos hk];simp
 |p::P,w::vs,i+1,m,nd,h1,h2,hk=>by
  show bindL kindOf ((p,w)::P.zip vs) m x=_;unfold bindL;exact Yp (i:=i) (vH.mp nd).2 (by simpa using h1) (by simpa using h2) hk
theorem Yq{kindOf:Str->Option NameKind}{x:Str}{v:Value}:∀{P:List Str} {vs:List Value} {i:Nat} {m:Str->Option Value},P.Nodup->P[i]?=some x->vs[i]?=some v->kindOf x≠some .local->
  bindC kindOf (P.zip vs) m x=some v
 |[],_,_,_,_,h,_,_=>by simp at h
 |_::_,[],_,_,_,_,h,_=>by simp at h
 |p::P,w::vs,0,m,nd,h1,h2,hk=>by
  simp at h1 h2;subst h1;subst h2;show bindC kindOf ((p,w)::P.zip vs) m p=_;unfold bindC;rw[Yo λv hv=>(vH.mp nd).1 (List.of_mem_zip hv).1,if_neg hk];simp
 |p::P,w::vs,i+1,m,nd,h1,h2,hk=>by
  show bindC kindOf ((p,w)::P.zip vs) m x=_;unfold bindC;exact Yq (i:=i) (vH.mp nd).2 (by simpa using h1) (by simpa using h2) hk
noncomputable def start(N:List Str)(vs:List V):St:=vs.map some++List.replicate (N.length-vs.length) none
noncomputable def gK(CX:tu)(P:Program)(w:World)(K:W.Frag)(mg:Str->Option Value)(base:Heap)(N:List Str)(qual:Str)(scope:Scope)(f:Addr)(cd:Value)(A:Around)(outer:List Env)(s:Shared)(H:Hp)(E:XK)(cm:Bool):Cx where
 prog:=P
 w:=w
 K:=K
 mg:=mg
 base:=base
 A:=A.deeper (envOfC qual scope s.heap.objs.size f cd)
 N:=N
 s₀:=s
 H₀:=H
 env:=envOfC qual scope s.heap.objs.size f cd
 outer:=outer
 stack:=envOfC qual scope s.heap.objs.size f cd::outer
 ex:=[]
 aj:=cm
 fn:=λ_=>true
 pn:=[]
 xe:=λe s'=>wpAny (model P w) (A.deeper (envOfC qual scope s.heap.objs.size f cd)) (leaving (envOfC qual scope s.heap.objs.size f cd) e) (λ_ s''=>CX outer H s E e s'') (λe' s''=>CX outer H s E e' s'') s'
theorem Yr{sc:Scope}{n:Nat}{x:Str}(h:sc.names.lookup x=some .cell):∃c,(cellsFrom n sc.names []).lookup x=some c:=by
 have q:=PL sc.names n [] (.inl h);exact Py.mp q
theorem zgD{CX:tu}{P:Program}{w:World}{K:W.Frag}{mg:Str->Option Value}{base:Heap}{N ps:List Str}{qual:Str}{scope:Scope}{f:Addr}{cd:Value}{A:Around}{outer:List Env}{s s1:Shared}{H:Hp}{E:XK}{us:List Value}{vs:List V}
  {cm:Bool} (S:dz N ps scope) (hd:cm=true->A.handled=none) (e0:pP P w K mg base A outer s H) (hl:vs.length=ps.length) (r:Vals vs us)
  (x:InCallC s s.heap.objs.size (bindL (envOfC qual scope s.heap.objs.size f cd).kindOf (ps.zip us) λ_=>none) (cellsFrom (s.heap.objs.size+1) scope.names []) (bindC (envOfC qual scope s.heap.objs.size f cd).kindOf (ps.zip us) λ_=>none) s1) :
  Inv (gK CX P w K mg base N qual scope f cd A outer s H E cm) [] (start N vs) H s1:=by
 have hpl:ps.length<=N.length:=by have:=lM List.length S.pre;rw[pI] at this;lia
 obtain⟨h1,tk,rfl,hk⟩:=x.done;have HD:∀b:Addr,b∉(gK CX P w K mg base N qual scope f cd A outer s H E cm).ex:=λb z=>absurd (show b∈([]:List Addr) from z) (by simp);refine⟨⟨e0.mod,S.kind,rfl,rfl,bU _,λy z c h1 h2=>?_,λy hy=>?_,λy c _ h=>?_,hd,Around.frames_deeper e0.frames,.inr ⟨rfl,rfl⟩,λb z=>absurd z (HD b),e0.bs,e0.Bf,λb _ _=>HD b,λb z=>absurd z (HD b),e0.lg,e0.G6⟩,
  rfl,e0.bare,Un.kept hk,⟨_,x.toInCall.ns,λi y v h1 h2 h3=>?_⟩,λy c h=>⟨_,x.cell y c h⟩,e0.hok.fresh (bU _),λy c h=>?_,λp hp=>absurd (show p∈([]:List (Addr×Obj)) from hp) (by simp),e0.hok.kept hk,?_⟩
 ·exact name_of_addr x.apart (Dq h1) (Dq h2)
 ·have hy:scope.names.lookup y=some .cell\/scope.names.lookup y=some .free:=hy;rcases hy with hy|hy
  ·exact Yr hy
  ·exact absurd rfl (S.Bs _ (Dq hy))
 ·exact wH (x.above y c (Dq h))
 ·have hi:i<vs.length:=by
   unfold start at h2;by_cases hi:i<vs.length
   ·exact hi
   ·rw[nP (by simpa using hi)] at h2;rw[Ad] at h2;split at h2<;>cases h2
  have ha:vs[i]?=some v:=by
   unfold start at h2;rw[mF (by simpa using hi),fQ] at h2;cases e:vs[i]? with
   |none=>rw[e] at h2;cases h2
   |some a=>rw[e] at h2;cases h2;rfl
  obtain⟨u,hu,rv⟩:=r.get ha;have hp:ps[i]?=some y:=by
   rw[<-S.pre,List.getElem?_take_of_lt (by lia)];exact h1
  have Ys:ps.Nodup:=by rw[<-S.pre];exact S.nd.sublist (List.take_sublist _ _)
  refine⟨u,rv,?_⟩;rcases S.par y (eZ hp) with k|k
  ·exact .inl ⟨k,Yp Ys hp hu k⟩
  ·obtain⟨c,e⟩:=Yr (n:=s.heap.objs.size+1) k;refine .inr ⟨.inl k,c,e,?_⟩;have q:=x.cell y c e;rw[Yq Ys hp hu (by show scope.names.lookup y≠_;rw[k];decide)] at q;exact q
 ·exact e0.hok.fresh (wH (x.above y c (Dq h)))
 ·unfold start;show _=N.length;rw[iZ,bO,Gi]
  lia
theorem Yt{CX:tu}{cm:Bool}{P:Program}{w:World}{K:W.Frag}{mg:Str->Option Value}{base:Heap}{k:Nat}{f:Addr}{name qual:Str}{params:Arguments}{body:List Stmt}{scope:Scope}{dV kV doc pm cdv ct oc:Value}{an od:Option Addr}
  {osl:Array (Option Value)} {N ps:List Str} {sp:Sp} (lk:K.lookup f=some ⟨oc,od,.func (PySem.W.fnOf name qual params body scope dV kV doc pm an cdv ct),osl⟩) (kY:PySem.W.codeIn K cdv qual=true) (S:dz N ps scope)
  (len:∀vs H Q E,sp vs H Q E->vs.length=ps.length)
  (HF:∀(A:Around) (outer:List Env) (s:Shared) (H:Hp) (vs:List V) (Q:VK) (E:XK),bG (k+1) A->sp vs H Q E->
   ∃t,qH (gK CX P w K mg base N qual scope f cdv A outer s H E cm) body t/\t {nx:=λ_ H'=>Q .non H',rt:=Q} (start N vs) H) :
  cH P w K mg base CX cm (k+1) f (PySem.W.fnOf name qual params body scope dV kV doc pm an cdv ct) ps sp:=by
 refine⟨len,λA outer s H args us vs Q E jF hr e0 hb r Ms=>?_⟩;have hl:=len _ _ _ _ Ms;have KX:K.In s.heap:=e0.mod.yQ.keeps λb o e=>(e0.bs b o e).1;have lim:s.heap.NoLimit:=e0.mod.nolimit.keeps λb o e=>(e0.bs b o e).1;have HJ:∀y∈ps.zip us,scope.names.lookup y.1=some .local\/(scope.names.lookup y.1=some .cell/\((cellsFrom (s.heap.objs.size+1) scope.names []).lookup y.1).isSome=true):=λ⟨n,v⟩ hy=>by
  rcases S.par n (List.of_mem_zip hy).1 with q|q
  ·exact .inl q
  ·exact .inr ⟨q,PL _ _ _ (.inl q)⟩
 refine codeAny_call_function hr.depth (KX _ _ lk) rfl S.co S.gen rfl (PySem.W.codeRec_of KX kY) (hb _ _ _ _ ?_);refine wpAny_newFunctionEnv_cells S.kind HJ λenv he s1 x=>?_;subst he;refine⟨lim.keeps x.toInCall.keep,codeAny_func ?_⟩;obtain⟨t,ht,hq⟩:=HF A outer s H vs Q E hr Ms;have I:Inv (gK CX P w K mg base N qual scope f cdv A outer s H E cm) [] (start N vs) H s1:=zgD S jF e0 hl r x;refine gR (ht [] s1 (start N vs) H _ I hq) (λfl s' hs=>?_) λe s' hs=>hs;have fin:∀{Z':St} {H':Hp} {v:V} {u:Value},Inv (gK CX P w K mg base N qual scope f cdv A outer s H E cm) [] Z' H' s'->RelV v u->Q v H'->CE outer P w H s Q u s':=
  λ{Z' H' v u} bM rv q=>⟨v,H',bM.os,bM.bare,bM.base,bM.hok,rv,q⟩
 cases fl with
 |ret u=>
  obtain⟨v,Z',H',bM,rv,q⟩:=hs;exact fin bM rv q
 |next=>
  obtain⟨Z',H',bM,q⟩:=hs;exact fin (v:=V.non) (u:=Value.none) bM rfl q
 |brk=>
  obtain⟨_,_,_,q⟩:=hs;exact False.elim q
 |cont=>
  obtain⟨_,_,_,q⟩:=hs;exact False.elim q
section
variable {X:Cx}{x:Str}{p pos:Pos}{e:Expr}{es:List Expr}{t:TA}{id T:String}{r:List V->Hp->VK->Prop}
noncomputable def Rf(r:List V->Hp->VK->Prop)(t:TA):TE:=λZ H Q=>t Z H λvs H1=>r vs H1 Q
theorem Yu(hc:cW X (.builtin id) r)(hg:Gl X x)(hm:X.mg x=none)(hv:bootBuiltins x=some (.builtin id))(ha:PA X (e::es) t)(hn:x≠"__name__":=by decide)(rK:(x==("__debug__" : Str))=false:=by decide)
  (he:starEach (e::es) X.env=(false,eval e X.env)::starEach es X.env:=by rfl) (hpl:(backTo pos (starEach es X.env)).any (·.1)=false:=by rfl):PE X (.Call (.Name x p) (e::es) [] pos) (Rf r t):=by
 intro ao s Z H Q I h;refine Ds (wL I hg hm hv ?_ hn rK);exact PyProof.Rows.callWith_builtin1 (aW (ha pos ao s Z H _ I h) λus s1 hx=>fG hx λvs H1 I1 r1 q1=>hc ao s1 Z H1 vs us Q I1 r1 q1) he hpl
theorem zgj(hc:cW X (.type T) r)(hg:Gl X x)(hm:X.mg x=none)(hv:bootBuiltins x=some (.type T))(ha:PA X (e::es) t)(hn:x≠"__name__":=by decide)(rK:(x==("__debug__" : Str))=false:=by decide)
  (he:starEach (e::es) X.env=(false,eval e X.env)::starEach es X.env:=by rfl) (hpl:(backTo pos (starEach es X.env)).any (·.1)=false:=by rfl):PE X (.Call (.Name x p) (e::es) [] pos) (Rf r t):=by
 intro ao s Z H Q I h;refine Ds (wL I hg hm hv ?_ hn rK);exact Ac (aW (ha pos ao s Z H _ I h) λus s1 hx=>fG hx λvs H1 I1 r1 q1=>hc ao s1 Z H1 vs us Q I1 r1 q1) he hpl
end
end L2
namespace HT
open PySem PyProof.Rows
noncomputable def lexLt:List Int->List Int->Bool
 |[],[]=>false
 |[],_::_=>true
 |_::_,[]=>false
 |x::xs,y::ys=>if x=y then lexLt xs ys else decide (x<y)
theorem jY(x y:Int)(xs ys:List Int):lexLt (x::xs) (y::ys)=if x=y then lexLt xs ys else decide (x<y):=rfl
theorem zc2:lexLt [] []=false:=rfl
theorem zct(y:Int)(ys:List Int):lexLt [] (y::ys)=true:=rfl
theorem zcu(x:Int)(xs:List Int):lexLt (x::xs) []=false:=rfl
theorem zhL(A:Around)(s:Shared)(a:Int)(t:Tok)(c:Int)(u:Tok):∃e,SeqAt.EqAt A s (.int a t) (.int c u) e/\(e=true↔a=c):=
 ⟨(a==c),SeqAt.EqAt.int_int a t c u,by simp⟩
theorem zh5(A:Around)(s:Shared)(a:Int)(t:Tok)(c:Int)(u:Tok)(prog:Program)(w:World)(E:Value->Shared->Prop)(Q:Value->Shared->Prop)(h:Q (.bool (decide (a<c))) s) :
  wpAny (model prog w) A (richCompare .Lt (.int a t) (.int c u)) Q E s:=
 (PyProof.Rows.lt_int h:wpAny (model prog w) A (compareOp .Lt (.int a t) (.int c u)) Q E s)
section
open PySem.SeqAt
open PySem.AutoSeq1 (wpAny_loadPart')
open PySem.MeetsSeq PySem.MeetsSeq2 PySem.MeetsSeq3
theorem zdb(l b:Addr)(items items2:Array Value)(n n2:Nat)(dd dd2:Option Addr)(sl sl2:Array (Option Value))(ns ms:List Int)(hi:IntsAre items.toList ns)(hj:IntsAre items2.toList ms) :
  Meets (Builtin.«tuple.__lt__» ⟨[.ref l,.ref b],[]⟩)
   (λ_ R s=>s.heap.get? l=some {cls:=.type "tuple",dict:=dd,data:=.seq items n,slots:=sl}/\s.heap.get? b=some {cls:=.type "tuple",dict:=dd2,data:=.seq items2 n2,slots:=sl2} /\
    R (.ok (.ret (.bool (lexLt ns ms)))) s):=
 .of_wp λprog w A R s h=>by
  obtain⟨hp,g,d,tk,os⟩:=s;obtain⟨hl,hb,h⟩:=h;have f2:=AutoSeq1.sub_tuple_tuple;have z1:items.size=ns.length:=by rw[<-hi.length];simp
  have z2:items2.size=ms.length:=by rw[<-hj.length];simp
  wp_walk using wpAny_loadPart' hl,wpAny_loadPart' hb,wpAny_forIn_list _ (λrest b s'=>b.1=none/\s'=⟨hp,g,d,tk,os⟩/\∃(vs ws:List Value) (ns' En:List Int),rest=vs.zip ws /\
   IntsAre vs ns'/\IntsAre ws En/\ns'.length+items2.size=En.length+items.size/\R (.ok (.ret (.bool (lexLt ns' En)))) ⟨hp,g,d,tk,os⟩) _
  case turn=>
   rintro⟨y,x⟩ rest b s' ⟨hb',rfl,vs,ws,ns',En,hz,Rg,Mu,hlen,hR⟩;cases Rg with
   |nil=>rw[List.zip_nil_left] at hz;cases hz
   |cons a t Rh=>
    cases Mu with
    |nil=>rw[List.zip_nil_right] at hz;cases hz
    |cons c u Ri=>
     rw[Gp] at hz;injection hz with hyx HN;injection hyx with hy hx;subst hy hx;rw[jY] at hR;simp only[fX] at hlen;obtain⟨e,he,HS⟩:=zhL A.in1 ⟨hp,g,d,tk,os⟩ a t c u;refine aB (he prog w _ _ ?_);cases e with
     |true=>
      rw[if_pos (HS.mp rfl)] at hR
      wp_walk
      exact⟨rfl,rfl,_,_,_,_,HN,Rh,Ri,by lia,hR⟩
     |false=>
      rw[if_neg (λq=>absurd (HS.mpr q) Qh)] at hR;have hri:=zh5 A.in1 ⟨hp,g,d,tk,os⟩ a t c u prog w
      wp_walk using hri
      exact⟨_,rfl,by simpa using hR⟩
  case fin=>
   rintro⟨b1,b2⟩ s' ⟨hb',rfl,vs,ws,ns',En,hz,Rg,Mu,hlen,hR⟩;simp only at hb';subst hb';have hv:lexLt ns' En=decide (items.size<items2.size):=by
    cases Rg with
    |nil=>
     cases Mu with
     |nil=>
      simp only[Am] at hlen;rw[zc2];exact(nQ (by lia)).symm
     |cons c u hw=>
      simp only[Am,fX] at hlen;rw[zct];exact(fu (by lia)).symm
    |cons a t hv=>
     cases Mu with
     |nil=>
      simp only[Am,fX] at hlen;rw[zcu];exact(nQ (by lia)).symm
     |cons c u hw=>
      rw[Gp] at hz;cases hz
   rw[hv] at hR
   wp_walk
   exact⟨_,rfl,by simpa [Builtin.Tuple.tupleCompareSizes] using hR⟩
  case h=>
   exact⟨rfl,rfl,items.toList,items2.toList,ns,ms,rfl,hi,hj,by lia,h⟩
end
section
variable {prog:Program}{w:World}{A:Around}{E:Value->Shared->Prop}{s:Shared}
theorem jZ{l b:Addr}{items items2:Array Value}{ns ms:List Int}{Q:Value->Shared->Prop}(hl:IsTup s.heap l items)(hb:IsTup s.heap b items2)(hi:IntsAre items.toList ns)(hj:IntsAre items2.toList ms)
  (hu:A.units<cLine) (h:Q (.bool (lexLt ns ms)) s):wpAny (model prog w) A (compareOp .Lt (.ref l) (.ref b)) Q E s:=by
 obtain⟨⟨cls,dd,data,sl⟩,ho,hc,n,hd⟩:=id hl;obtain⟨⟨cls2,dd2,data2,sl2⟩,pQ,qI,n2,hd2⟩:=id hb;simp only at hc hd qI hd2;subst hc hd qI hd2;exact richCompare_meets_room (op:=.Lt) ⟨_,ho,rfl⟩ ⟨_,pQ,rfl⟩ PySem.F.slot_tuple_lt PySem.F.entry_tuple_lt (PySem.F.args_tuple_lt_2 _ _) (zdb l b items items2 n n2 dd dd2 sl sl2 ns ms hi hj)
  ⟨ho,pQ,show Value.bool (lexLt ns ms)≠Value.notImplemented/\Q (.bool (lexLt ns ms)) s from ⟨(λx=>nomatch x),h⟩⟩ hu
theorem wR{t b:Addr}{vs ws:List Value}{Q:Value->Shared->Prop}(ht:IsTup s.heap t vs.toArray)(hb:IsTup s.heap b ws.toArray)(hv:vs≠[])
  (h1:ws=[]->Q (.ref t) s) (h2:ws≠[]->Q (.ref s.heap.objs.size) {s with heap:=s.heap.push {cls:=.type "tuple",data:=.seq (vs++ws).toArray}})
  (hsz:vs.length+ws.length<=sizeLine):wpAny (model prog w) A (binaryOp .Add (.ref t) (.ref b)) Q E s:=by
 obtain⟨⟨cls,dd,data,sl⟩,ho,hc,n,hd⟩:=id ht;obtain⟨⟨cls2,dd2,data2,sl2⟩,pQ,qI,n2,hd2⟩:=id hb;simp only at hc hd qI hd2;subst hc hd qI hd2;have e:vs.toArray++ws.toArray=(vs++ws).toArray:=by simp
 by_cases hw:ws=[]
 ·exact concat_meets ⟨_,ho,rfl⟩ ⟨_,pQ,rfl⟩ noFill_tuple_add seq_tuple_add PN PJ (Pz _ _)
   (tuple_addW1 t b vs.toArray ws.toArray n n2 dd dd2 sl sl2 (by simpa using hv) (by simp[hw])) ⟨ho,pQ,h1 hw⟩
 ·refine concat_meets ⟨_,ho,rfl⟩ ⟨_,pQ,rfl⟩ noFill_tuple_add seq_tuple_add PN PJ (Pz _ _)
   (tuple_addW2 t b vs.toArray ws.toArray n n2 dd dd2 sl sl2 (by simpa using hv) (by simpa using hw) (by rw[fP,fP];exact hsz)) ⟨ho,pQ,?_⟩
  rw[e];exact h2 hw
noncomputable def b_(n d:Nat):Option Int->Nat
 |none=>d
 |some v=>if v<0 then (v+(n:Int)).toNat else min v.toNat n
theorem j8(n d:Nat):b_ n d none=d:=rfl
theorem mW(n d k:Nat):b_ n d (some (k:Int))=min k n:=by
 show (if (k:Int)<0 then ((k:Int)+(n:Int)).toNat else min (k:Int).toNat n)=min k n;rw[if_neg (by lia),pC]
theorem znk(n d:Nat)(hd:d<=n)(o:Option Int):b_ n d o<=n:=by
 cases o with
 |none=>exact hd
 |some v=>
  show (if v<0 then (v+(n:Int)).toNat else min v.toNat n)<=n;by_cases hv:v<0
  ·rw[if_pos hv];lia
  ·rw[if_neg hv];exact Nat.min_le_right _ _
theorem Yv(v:Int)(n d:Nat):(if v<0 then max (v+(n:Int)) 0 else min v (n:Int))=((b_ n d (some v):Nat):Int):=by
 show (if v<0 then max (v+(n:Int)) 0 else min v (n:Int))=(((if v<0 then (v+(n:Int)).toNat else min v.toNat n):Nat):Int);by_cases hv:v<0
 ·simp only[if_pos hv];lia
 ·simp only[if_neg hv];lia
theorem zfG(lo hi:Option Int)(n:Nat):Builtin.Slice.sliceAdjust lo hi 1 (n:Int)=(((b_ n 0 lo:Nat):Int),((b_ n n hi:Nat):Int)):=by
 have h1:¬((1:Int)<0):=by lia
 unfold Builtin.Slice.sliceAdjust;simp only[h1,qC];refine Prod.ext ?_ ?_
 ·cases lo with
  |none=>rfl
  |some v=>exact Yv v n 0
 ·cases hi with
  |none=>rfl
  |some v=>exact Yv v n n
theorem zfL(i j:Nat):Builtin.Slice.slicePlaces (i:Int) (j:Int) 1=j-i:=by
 unfold Builtin.Slice.slicePlaces;have h1:(1:Int)>0:=by lia
 simp only[h1,if_true,Int.ediv_one]
 split<;>lia
theorem Rj{v:Value}{o:Option Int}{Q:Option Int->Shared->Prop}(p:IsPart v o)(h:Q o s):wpAny (model prog w) A (Builtin.Slice.slicePartIndex v) Q E s:=by
 cases p with
 |none=>exact slicePart_none h
 |int i t=>exact slicePart_int h
theorem Yw{sl:Addr}{vl vu:Value}{lo hi:Option Int}{n:Nat}{Q:Int×Int×Nat->Shared->Prop}(hs:s.heap.IsSliceOf sl vl vu .none)(pl:IsPart vl lo)(pu:IsPart vu hi)
  (h:Q (((b_ n 0 lo:Nat):Int),1,b_ n n hi-b_ n 0 lo) s):wpAny (model prog w) A (Builtin.Slice.sliceApplied (.ref sl) (pure (n:Int))) Q E s:=by
 obtain⟨os,rM,Bt,vQ⟩:=id hs;unfold Builtin.Slice.sliceApplied Builtin.Slice.sliceFields;refine aB (aB (kW rM vQ (x:=vl) rfl (aB (kW rM vQ (x:=vu) rfl (aB (kW rM vQ (x:=.none) rfl (aM ?_)))))));refine aB (slicePart_none ?_);show wpAny _ _ (if ((1:Int)==0)=true then _ else _) _ _ s;rw[if_neg (by decide)];refine aB (Rj pl (aB (Rj pu (aB (aM ?_)))));show wpAny _ _ (match Builtin.Slice.sliceAdjust lo hi 1 (n:Int) with|(lo,hi)=>pure (lo,(1:Int),Builtin.Slice.slicePlaces lo hi 1)) _ _ s;rw[zfG lo hi n];show wpAny _ _ (pure (((b_ n 0 lo:Nat):Int),(1:Int),Builtin.Slice.slicePlaces ((b_ n 0 lo:Nat):Int) ((b_ n n hi:Nat):Int) 1)) _ _ s;rw[zfL];exact aM h
theorem ziE(xs:Array Value)(i k:Nat):((List.range k).filterMap λ(m:Nat)=>xs[((i:Int)+(m:Int)*1).toNat]?).toArray=((xs.toList.drop i).take k).toArray:=by
 have e:(λ(m:Nat)=>xs[((i:Int)+(m:Int)*1).toNat]?)=λm=>xs[i+m]?:=by
  funext m
  have:((i:Int)+(m:Int)*1).toNat=i+m:=by lia
  rw[this]
 rw[e];have:=pick_run xs i k;rw[List.filterMap_map] at this;have e2:((λx=>xs[x]?)∘λx=>i+x)=λm=>xs[i+m]?:=rfl;rw[e2] at this;rw[this]
theorem iI{t sl:Addr}{items:Array Value}{vl vu:Value}{lo hi:Option Int}{Q:Value->Shared->Prop}(ht:IsTup s.heap t items)(hs:s.heap.IsSliceOf sl vl vu .none)(pl:IsPart vl lo)(pu:IsPart vu hi)
  (hw:¬(b_ items.size 0 lo=0/\b_ items.size items.size hi=items.size))
  (h:Q (.ref s.heap.objs.size) {s with heap:=s.heap.push {cls:=.type "tuple",data:=.seq ((items.toList.drop (b_ items.size 0 lo)).take (b_ items.size items.size hi-b_ items.size 0 lo)).toArray}})
  (hsz:items.size<=sizeLine):wpAny (model prog w) A (getItem (.ref t) (.ref sl)) Q E s:=by
 have iJ:sizeOk (.seq ((items.toList.drop (b_ items.size 0 lo)).take (b_ items.size items.size hi-b_ items.size 0 lo)).toArray):=by
  show ((items.toList.drop (b_ items.size 0 lo)).take (b_ items.size items.size hi-b_ items.size 0 lo)).toArray.size<=sizeLine;rw[fP,pI,DG,yI]
  lia
 have hj:b_ items.size items.size hi<=items.size:=znk _ _ (bU _) hi;obtain⟨os,rM,Bt,vQ⟩:=id hs;have HW:s.TypeIs (.ref sl) "slice":=⟨os,rM,Bt⟩;unfold getItem
 try with_reducible refine qz ?_
 first|refine aB (aM ?_)|skip
 refine aB (wpAny_sequenceKey ht.typeIs (by decide) ?_);refine aB (yF (name:=Str.ofString "__getitem__") ht.typeIs wA
  (wF wA ht.typeIs entry_tuple_getitem ?_ (args_tuple_getitem _ _)))
 show wpAny _ _ (Builtin.Tuple.tupleItemsOf (.ref t) >>= _) _ _ s;refine aB (tupleItemsOf_ ht ?_);refine aB (GD HW ?_);rw[if_pos (by decide)];refine aB (Yw hs pl pu ?_);have rN:¬((((b_ items.size 0 lo:Nat):Int)==0&&(1:Int)==1&&(b_ items.size items.size hi-b_ items.size 0 lo)==items.size)=true):=by
  intro q;rw[g8,g8] at q;have q1:((b_ items.size 0 lo:Nat):Int)=0:=eq_of_beq q.1.1;have q2:b_ items.size items.size hi-b_ items.size 0 lo=items.size:=eq_of_beq q.2;exact hw ⟨by lia,by lia⟩
 show wpAny _ _ (if (((b_ items.size 0 lo:Nat):Int)==0&&(1:Int)==1&&(b_ items.size items.size hi-b_ items.size 0 lo)==items.size)=true then _ else _) _ _ s;rw[if_neg rN,ziE]
 first
  |exact aB (m:=Builtin.Tuple.tupleExact _) (pB (aM ⟨_,rfl,aM h⟩) iJ)
  |exact aB (m:=Builtin.Tuple.tupleExact _) (pB (aB (aM (aM ⟨_,rfl,aM h⟩))) iJ)
  |exact aB (aB (m:=Builtin.Tuple.tupleExact _) (pB (aM (aM ⟨_,rfl,aM h⟩)) iJ))
  |exact aB (aB (m:=Builtin.Tuple.tupleExact _) (pB (aM ⟨_,rfl,aM h⟩) iJ))
end
end HT
namespace L2
open PySem PySem.Spec PyProof.Rows
noncomputable abbrev TO:=St->Hp->(Option Int->Hp->Prop)->Prop
def PO(X:Cx)(e:Option Expr)(t:TO):Prop:=
 ∀(ao:List (Addr×Obj)) (s:Shared) (Z:St) (H:Hp) (Q:Option Int->Hp->Prop),Inv X ao Z H s->t Z H Q->
  wpAny (model X.prog X.w) X.A (evalPart e X.env) (λu s'=>∃o H',Inv X ao Z H' s'/\IsPart u o/\Q o H') X.xe s
noncomputable def wU:TO:=λ_ H Q=>Q none H
noncomputable def HX(t:TE):TO:=λZ H Q=>t Z H λx H1=>∃i,x=.int i/\Q (some i) H1
theorem Yx{ns:List Int}:∀{us:List Value},Vals (ns.map V.int) us->IntsAre us ns:=by
 induction ns with
 |nil=>intro us r;rw[DW] at r;cases r;exact .nil
 |cons n ns ih=>
  intro us r;rw[g_] at r;cases r with
  |cons r1 r2=>
   obtain⟨t,e⟩:=r1;subst e;exact .cons n t (ih r2)
section
variable {X:Cx}{e:Expr}{te:TE}{lo hi:Option Expr}{tl th:TO}{pos p2:Pos}
theorem zld:PO X none wU:=by
 intro ao s Z H Q I h;rw[evalPart_none];exact aM ⟨none,H,I,.none,h⟩
theorem zkQ(h:PE X e te):PO X (some e) (HX te):=by
 intro ao s Z H Q I hw;rw[evalPart_some];refine aW (h ao s Z H _ I hw) λu s1 hx=>fG hx λx H1 I1 r1 q1=>?_;obtain⟨i,rfl,q⟩:=q1;obtain⟨t,rfl⟩:=r1;exact⟨some i,H1,I1,.int i t,q⟩
def wV(X:Cx)(r:V->Option Int->Option Int->Hp->VK->Prop):Prop:=
 ∀(ao:List (Addr×Obj)) (s:Shared) (Z:St) (H:Hp) (x:V) (v vl vu:Value) (lo hi:Option Int) (sl:Addr) (Q:VK),Inv X ao Z H s->RelV x v->s.heap.IsSliceOf sl vl vu .none->IsPart vl lo->IsPart vu hi->r x lo hi H Q->
  ∃T id,typeLookup (.type T) "__getitem__"=pure (some (.builtin id))/\s.TypeIs v T/\wpAny (model X.prog X.w) X.A (getItem v (.ref sl)) (EP X ao Z Q) X.xe s
theorem wV.or{r r':V->Option Int->Option Int->Hp->VK->Prop}(h:wV X r)(h':wV X r'):wV X (λx lo hi H Q=>r x lo hi H Q\/r' x lo hi H Q):=by
 intro ao s Z H x v vl vu lo hi sl Q I rx hs pl pu q;rcases q with q|q
 ·exact h ao s Z H x v vl vu lo hi sl Q I rx hs pl pu q
 ·exact h' ao s Z H x v vl vu lo hi sl Q I rx hs pl pu q
noncomputable def tSl(r:V->Option Int->Option Int->Hp->VK->Prop)(te:TE)(tl th:TO):TE:=λZ H Q=>te Z H λx H1=>tl Z H1 λl H2=>th Z H2 λu H3=>r x l u H3 Q
theorem zhO{r:V->Option Int->Option Int->Hp->VK->Prop}(hr:wV X r)(he:PE X e te)(hl:PO X lo tl)(hu:PO X hi th):PE X (.Subscript e (.Slice lo hi none p2) pos) (tSl r te tl th):=by
 intro ao s Z H Q I h;refine Subscript_ (aW (he ao s Z H _ I h) λv s1 hx=>fG hx λx H1 I1 r1 q1=>?_);refine wpAny_Slice (aW (hl ao s1 Z H1 _ I1 q1) λvl s2 hx=>fG hx λl H2 I2 pl q2=>aW (hu ao s2 Z H2 _ I2 q2) λvu s3 hx=>fG hx λu H3 I3 pu q3=>?_);rw[evalPart_none];refine aM ?_;have I4:Inv X ao Z H3 {s3 with heap:=s3.heap.push {cls:=.type "slice",data:=.fields #[vl,vu,.none]}}:=I3.kept (t':=s3.toks) λb ob q=>cU _ q;obtain⟨T,id,hT,ht,hg⟩:=hr ao {s3 with heap:=s3.heap.push {cls:=.type "slice",data:=.fields #[vl,vu,.none]}} Z H3 x v vl vu l u s3.heap.objs.size Q I4 r1 (Heap.IsSliceOf.new ..) pl pu q3;show wpAny (model X.prog X.w) X.A (subscriptTail e (.Slice lo hi none p2) v (.ref s3.heap.objs.size)) (EP X ao Z Q) X.xe {s3 with heap:=s3.heap.push {cls:=.type "slice",data:=.fields #[vl,vu,.none]}};exact tail_any (ops:=[.ref s3.heap.objs.size,v]) ht hT hg (by with_unfolding_all rfl)
noncomputable def mX(xs:List V)(lo hi:Option Int):List V:=(xs.drop (HT.b_ xs.length 0 lo)).take (HT.b_ xs.length xs.length hi-HT.b_ xs.length 0 lo)
theorem Yy(xs:List V)(lo hi:Option Int):(mX xs lo hi).length<=xs.length:=by
 unfold mX;rw[pI,DG]
 lia
noncomputable def Rm(K:W.Frag):V->Option Int->Option Int->Hp->VK->Prop:=λx lo hi H Q=>∃a xs,x=.ref a/\fZ K H a xs /\
 ¬(HT.b_ xs.length 0 lo=0/\HT.b_ xs.length xs.length hi=xs.length)/\∀p,H p=none->Q (.ref p) (upd H p (.tup (mX xs lo hi)))
theorem zlN:wV X (Rm X.K):=by
 intro ao s Z H x v vl vu lo hi sl Q I rx hs pl pu h;obtain⟨a,xs,rfl,hx,hw,q⟩:=h;cases rx;obtain⟨its,r,ht,hz⟩:=I.tuple hx;have hlen:its.toArray.size=xs.length:=by rw[fP];exact r.length.symm
 refine⟨"tuple",_,wA.lookup,ht.typeIs,?_⟩;refine HT.iI ht hs pl pu (by rw[hlen];exact hw) ?_ (by rw[hlen];exact hz);rw[hlen];refine⟨.ref s.heap.objs.size,_,I.laid (t':=s.toks) (o:=.tup (mX xs lo hi)) (λb ob q=>cU _ q) (bU _) ?_,rfl,q _ (I.hok.fresh (bU _))⟩;exact⟨jo (Yy xs lo hi) hz,_,(r.drop (HT.b_ xs.length 0 lo)).take (HT.b_ xs.length xs.length hi-HT.b_ xs.length 0 lo),IsTup.new _ _⟩
noncomputable def HY(K:W.Frag):R2:=λx y H Q=>∃a b ns ms,x=.ref a/\y=.ref b/\fZ K H a (ns.map V.int)/\fZ K H b (ms.map V.int)/\Q (.bl (HT.lexLt ns ms)) H
theorem znh(hu:X.A.units<cLine):fH X (compareOp .Lt) (HY X.K):=by
 intro ao s Z H x y v u Q I rx ry h;obtain⟨a,b,ns,ms,rfl,rfl,ha,hb,q⟩:=h;cases rx;cases ry;obtain⟨its,r1,p1,_⟩:=I.tuple ha;obtain⟨its2,r2,p2,_⟩:=I.tuple hb;have i1:IntsAre its.toArray.toList ns:=Yx r1;have i2:IntsAre its2.toArray.toList ms:=Yx r2;exact HT.jZ p1 p2 i1 i2 hu ⟨.bl (HT.lexLt ns ms),H,I,rfl,q⟩
theorem Vals.mY{xs:List V}{us:List Value}(r:Vals xs us):us=[]↔xs=[]:=by
 cases r with
 |nil=>simp
 |cons _ _=>simp
end
noncomputable def rO(n:Nat)(i:Int):Option Nat:=if 0<=i then (if i<n then some i.toNat else none) else if -(n:Int)<=i then some (i+n).toNat else none
noncomputable def qJ{α:Type}(xs:List α)(i:Int):Option α:=(rO xs.length i).bind λj=>xs[j]?
theorem Yz{n:Nat}{i:Int}{j:Nat}(h:rO n i=some j):seqIndex? i n=some j/\j<n/\-(n:Int)<=i/\i<n:=by
 unfold rO at h;by_cases h0:0<=i
 ·rw[if_pos h0] at h;by_cases h1:i<n
  ·rw[if_pos h1] at h;have e:i.toNat=j:=cR h;exact⟨by rw[seqIndex_of h0 h1,e],by lia,by lia,h1⟩
  ·rw[if_neg h1] at h;cases h
 ·rw[if_neg h0] at h;by_cases h1 : -(n:Int)<=i
  ·rw[if_pos h1] at h;have e:(i+n).toNat=j:=cR h;exact⟨by rw[seqIndex_neg (by lia) h1,e],by lia,h1,by lia⟩
  ·rw[if_neg h1] at h;cases h
theorem Rn{α:Type}{xs:List α}{i:Int}{v:α}(h:qJ xs i=some v):∃j,seqIndex? i xs.length=some j/\xs[j]?=some v/\j<xs.length/\-(xs.length:Int)<=i/\i<xs.length:=by
 unfold qJ at h;cases e:rO xs.length i with
 |none=>rw[e] at h;cases h
 |some j=>
  rw[e] at h;obtain⟨h1,h2,h3,h4⟩:=Yz e;exact⟨j,h1,h,h2,h3,h4⟩
def qK(b:Expr):Prop:=∀o i,subscripted b false o i=operate [o,i] (getItem o i)
def wW(X:Cx)(r:R2):Prop:=
 ∀(value slice:Expr) (ao:List (Addr×Obj)) (s:Shared) (Z:St) (H:Hp) (x y:V) (v u:Value) (Q:VK),Inv X ao Z H s->RelV x v->RelV y u->r x y H Q->
  subscripted slice false v u=operate [v,u] (getItem v u)->wpAny (model X.prog X.w) X.A (subscriptTail value slice v u) (EP X ao Z Q) X.xe s
def MtR(X:Cx)(id:String)(r:V->List V->Hp->VK->Prop):Prop:=
 ∀(ao:List (Addr×Obj)) (s:Shared) (Z:St) (H:Hp) (x:V) (xs:List V) (v:Value) (us:List Value) (Q:VK),Inv X ao Z H s->RelV x v->Vals xs us->r x xs H Q->
  wpAny (model X.prog X.w) X.A (call (.builtin id) (v::us)) (EP X ao Z Q) X.xe s
section
variable {X:Cx}{a b:Expr}{ta tb:TE}{pos:Pos}
theorem wW.or{r r':R2}(h:wW X r)(h':wW X r'):wW X (λx y H Q=>r x y H Q\/r' x y H Q):=by
 intro value slice ao s Z H x y v u Q I rx ry q hs;rcases q with q|q
 ·exact h value slice ao s Z H x y v u Q I rx ry q hs
 ·exact h' value slice ao s Z H x y v u Q I rx ry q hs
theorem zov{r:R2}(hr:wW X r)(ha:PE X a ta)(hb:PE X b tb)(hs:qK b):PE X (.Subscript a b pos) (Mq r ta tb):=by
 intro ao s Z H Q I h;exact Subscript_ (Bm ha hb I h λv u s2 x y H2 I2 rx ry q=>hr a b ao s2 Z H2 x y v u Q I2 rx ry q (hs _ _))
noncomputable def H_(K:W.Frag):R2:=λx y H Q=>∃p xs i v,x=.ref p/\y=.int i/\cY K H p xs/\qJ xs i=some v/\Q v H
noncomputable def Ia(K:W.Frag):R2:=λx y H Q=>∃p xs i v,x=.ref p/\y=.int i/\fZ K H p xs/\qJ xs i=some v/\Q v H
noncomputable def Ib:R2:=λx y H Q=>∃z i c,x=.str z/\y=.int i/\z.length<=sizeLine/\qJ z.cps.toList i=some c/\Q (.str ⟨#[c]⟩) H
theorem wX:wW X (H_ X.K):=by
 intro value slice ao s Z H x y v u Q I rx ry h hs;obtain⟨p,xs,i,z,rfl,rfl,hq,he,q⟩:=h;cases rx;obtain⟨t,rfl⟩:=ry;obtain⟨its,r,pl,hz⟩:=I.list hq;obtain⟨j,h1,h2,h3,h4,h5⟩:=Rn he;obtain⟨w,ew,lu⟩:=r.get h2;have hl:=r.length;have hn:=jh;have fin:EP X ao Z Q w s:=⟨z,H,I,lu,q⟩;by_cases h0:0<=i
 ·have hj:i.toNat=j:=by
   rw[seqIndex_of h0 h5] at h1;exact cR h1
  exact item_listR pl.isList h0 (by lia) (by rw[hj];simpa using ew) fin hs
 ·have hj:(i+(its.toArray.size:Int)).toNat=j:=by
   rw[seqIndex_neg (by lia) h4] at h1;rw[fP,<-hl];exact cR h1
  exact subscriptTail_builtinR (x:=w) pl.isList.typeIs slot_list_getitem.lookup
   (wpAny_getItem_list_neg (Q:=λr s'=>r=w/\EP X ao Z Q r s') pl.isList (by lia) (by rw[fP]<;>lia) (by lia) (by rw[hj];simpa using ew) ⟨rfl,fin⟩) hs
theorem Bu:wW X (Ia X.K):=by
 intro value slice ao s Z H x y v u Q I rx ry h hs;obtain⟨p,xs,i,z,rfl,rfl,hq,he,q⟩:=h;cases rx;obtain⟨t,rfl⟩:=ry;obtain⟨its,r,pl,hz⟩:=I.tuple hq;obtain⟨j,h1,h2,h3,h4,h5⟩:=Rn he;obtain⟨w,ew,lu⟩:=r.get h2;have hl:=r.length;have hn:=jh;have fin:EP X ao Z Q w s:=⟨z,H,I,lu,q⟩;exact subscriptTail_builtinR (x:=w) pl.typeIs slot_tuple_getitem.lookup
  (getItem_tuple (j:=j) (Q:=λr s'=>r=w/\EP X ao Z Q r s') pl (by lia) (by lia) (by rw[fP,<-hl];exact h1) (by simpa using ew) ⟨rfl,fin⟩) hs
theorem znH:wW X Ib:=by
 intro value slice ao s Z H x y v u Q I rx ry h hs;obtain⟨z,i,c,rfl,rfl,hz,he,q⟩:=h;obtain⟨t,rfl⟩:=rx;obtain⟨t',rfl⟩:=ry;obtain⟨j,h1,h2,h3,h4,h5⟩:=Rn he;have hl:z.cps.toList.length=z.length:=by simp[Str.length]
 rw[hl] at h1 h4 h5;have hn:=jh;exact tail_any (typeIs_str s z t) slot_str_getitem.lookup (getItem_str (c:=c) (by
  have e1:decide (i < -(2^63:Int))=false:=nQ (by lia);have e2:decide (i>=2^63)=false:=nQ (by lia);rw[e1,e2,Bool.or_false]) (by rw[h1];simpa using h2) ⟨.str ⟨#[c]⟩,H,I.tok _,⟨_,rfl⟩,q⟩) hs
noncomputable def Ro(K:W.Frag):R2:=λx y H Q=>H_ K x y H Q\/Ia K x y H Q\/Ib x y H Q
theorem zmh:wW X (Ro X.K):=wX.or (Bu.or znH)
theorem zfu(its:List Value)(n j:Nat)(u:Value):Obj.mapSeq (·.setIfInBounds j u) {cls:=.type "list",data:=.seq its.toArray n}={cls:=.type "list",data:=.seq (its.set j u).toArray n}:=by
 simp[Obj.mapSeq]
theorem Inv.lst{ao:List (Addr×Obj)}{Z:St}{H:Hp}{s:Shared}{p:Addr}{xs:List V}(I:Inv X ao Z H s)(h:H p=some (.lst xs)) :
  ∃(its:List Value) (n:Nat),Vals xs its/\s.heap.get? p=some {cls:=.type "list",data:=.seq its.toArray n}/\xs.length<=sizeLine:=by
 obtain⟨z,its,n,r,e⟩:=I.hok p _ h;exact⟨its,n,r,e,z⟩
theorem Inv.Bv{ao:List (Addr×Obj)}{Z:St}{H:Hp}{s:Shared}{p:Addr}{xs ys:List V}{its its':List Value}{n n':Nat}{f:Obj->Obj}(I:Inv X ao Z H s)(h:H p=some (.lst xs))
  (ho:s.heap.get? p=some {cls:=.type "list",data:=.seq its.toArray n}) (hf:f {cls:=.type "list",data:=.seq its.toArray n}={cls:=.type "list",data:=.seq its'.toArray n'}) (r:Vals ys its') (hz:ys.length<=sizeLine) (t:Nat) :
  Inv X ao Z (upd H p (.lst ys)) {s with heap:=s.heap.update p f,toks:=t}:=by
 have e:(s.heap.update p f).get? p=some {cls:=.type "list",data:=.seq its'.toArray n'}:=by
  rw[Ag f ho (by rw[hf]<;>rfl),hf]
 refine I.write (x:=p) (e:=p) (by rw[h];trivial) (.inl rfl) (λb u hb q=>(wB _ _ (Ne.symm hb)).trans q) ⟨_,e⟩ ?_;exact⟨hz,its',n',r,e⟩
noncomputable def Ie:V->V->V->Hp->(Hp->Prop)->Prop:=λo i v H Q=>∃p xs k j,o=.ref p/\i=.int k/\H p=some (.lst xs)/\rO xs.length k=some j/\Q (upd H p (.lst (xs.set j v)))
theorem ziB:Ho X Ie:=by
 intro ao s Z H o i v ov iv u Q I ro ri rv h;obtain⟨p,xs,k,j,rfl,rfl,hp,hj,q⟩:=h;cases ro;obtain⟨t,rfl⟩:=ri;obtain⟨its,n,r,ho,hz⟩:=I.lst hp;obtain⟨h1,h2,h3,h4⟩:=Yz hj;have hl:=r.length;have hn:=jh;have I':Inv X ao Z (upd H p (.lst (xs.set j v))) {s with heap:=s.heap.update p (Obj.mapSeq (·.setIfInBounds j u))}:=
  I.Bv hp ho (zfu its n j u) (r.set rv j) (by rw[pK];exact hz) s.toks
 by_cases h0:0<=k
 ·have hk:k.toNat=j:=by
   rw[seqIndex_of h0 h4] at h1;exact cR h1
  exact PySem.W.ki_setAt ho h0 (by lia) (by rw[fP,<-hl];exact h4) (by rw[hk];exact⟨_,I',q⟩)
 ·have hk:(k+(its.toArray.size:Int)).toNat=j:=by
   rw[seqIndex_neg (by lia) h3] at h1;rw[fP,<-hl];exact cR h1
  exact PySem.W.ki_setBack ho (by lia) (by rw[fP,<-hl];exact h3) (by lia) (by rw[hk];exact⟨_,I',q⟩)
theorem zdt(lo hi:Option Int)(n:Nat):(sliceBounds lo hi none n).1=((HT.b_ n 0 lo:Nat):Int)/\(sliceBounds lo hi none n).2.1=((HT.b_ n n hi:Nat):Int)/\(sliceBounds lo hi none n).2.2=1:=by
 refine⟨?_,?_,rfl⟩
 ·cases lo with
  |none=>simp[sliceBounds,HT.b_]
  |some i=>
   simp only[sliceBounds,HT.b_,Option.getD_none,show (1:Int)>0 by decide,if_true];by_cases h:i<0
   ·simp only[h,if_true]<;>lia
   ·simp only[h,qC]<;>lia
 ·cases hi with
  |none=>simp[sliceBounds,HT.b_]
  |some i=>
   simp only[sliceBounds,HT.b_,Option.getD_none,show (1:Int)>0 by decide,if_true];by_cases h:i<0
   ·simp only[h,if_true]<;>lia
   ·simp only[h,qC]<;>lia
theorem zc4(its:List Value)(lo hi:Option Int):slicePick its.toArray lo hi none=((its.drop (HT.b_ its.length 0 lo)).take (HT.b_ its.length its.length hi-HT.b_ its.length 0 lo)).toArray:=by
 obtain⟨h1,h2,h3⟩:=zdt lo hi its.toArray.size;unfold slicePick;rw[h1,h2,h3];simp only[sliceRange_one,pick_run,fP]<;>rfl
noncomputable def Ig(K:W.Frag):V->Option Int->Option Int->Hp->VK->Prop:=λx lo hi H Q=>∃a xs,x=.ref a/\cY K H a xs/\∀p,H p=none->Q (.ref p) (upd H p (.lst (mX xs lo hi)))
theorem wY:wV X (Ig X.K):=by
 intro ao s Z H x v vl vu lo hi sl Q I rx hs pl pu h;obtain⟨a,xs,rfl,hx,q⟩:=h;cases rx;obtain⟨its,r,ht,hz⟩:=I.list hx;have hlen:=r.length;refine⟨"list",_,slot_list_getitem.lookup,ht.isList.typeIs,?_⟩;refine wpAny_getItem_list_slice ht.isList hs pl pu .none (by simp) ?_ (by rw[fP]<;>lia);rw[zc4,<-hlen];refine⟨.ref s.heap.objs.size,_,I.laid (t':=s.toks) (o:=.lst (mX xs lo hi)) (λb ob q=>cU _ q) (bU _) ?_,rfl,q _ (I.hok.fresh (bU _))⟩;exact⟨jo (Yy xs lo hi) hz,_,0,(r.drop (HT.b_ xs.length 0 lo)).take (HT.b_ xs.length xs.length hi-HT.b_ xs.length 0 lo),fO _ rfl⟩
theorem zdP:cW X (.builtin "len") (λxs H Q=>∃p ys,xs=[.ref p]/\(cY X.K H p ys\/fZ X.K H p ys)/\Q (.int ys.length) H):=by
 intro ao s Z H xs us Q I r h;obtain⟨p,ys,rfl,hq,q⟩:=h;obtain⟨u,rfl,rx⟩:=vals1 r;cases rx;have hn:=jh;rcases hq with hq|hq
 ·obtain⟨its,r',pl,hz⟩:=I.list hq;have hlen:=r'.length;exact Calls.call_len_list pl.isList (by simp only[fP]<;>lia) ⟨.int ys.length,H,I.tok _,⟨s.toks+1,by rw[fP,hlen]⟩,q⟩
 ·obtain⟨its,r',pl,hz⟩:=I.tuple hq;have hlen:=r'.length;exact len_tuple pl (by simp only[fP]<;>lia) ⟨.int ys.length,H,I.tok _,⟨s.toks+1,by rw[fP,hlen]⟩,q⟩
theorem zdh:cW X (.type "list") (λxs H Q=>∃p ys,xs=[.ref p]/\(cY X.K H p ys\/fZ X.K H p ys)/\∀l,H l=none->Q (.ref l) (upd H l (.lst ys))):=by
 intro ao s Z H xs us Q I r h;obtain⟨p,ys,rfl,hq,q⟩:=h;obtain⟨u,rfl,rx⟩:=vals1 r;cases rx;have fin:∀(its:List Value),Vals ys its->ys.length<=sizeLine->∀(h':Heap) (c':Nat),(∀b o',s.heap.get? b=some o'->h'.get? b=some o')->
   h'.get? s.heap.objs.size=some {cls:=.type "list",dict:=none,data:=.seq its.toArray c',slots:=#[]}->EP X ao Z Q (.ref s.heap.objs.size) {s with heap:=h'}:=λits r' hz h' c' kp e=>
  ⟨.ref s.heap.objs.size,_,I.laid (t':=s.toks) kp (bU _) (show bR X.prog X.w _ h' _ (.lst ys) from ⟨hz,its,c',r',e⟩),rfl,q _ (I.hok.fresh (bU _))⟩
 rcases hq with hq|hq
 ·obtain⟨its,r',pl,hz⟩:=I.list hq;have hlen:=r'.length;obtain⟨o,ho,hc,n,hd⟩:=pl.isList;exact call_list_seq p (.inl rfl) ho hc hd (λh' c' kp e=>fin its r' hz h' c' kp e) (by simp only[fP]<;>lia)
 ·obtain⟨its,r',pl,hz⟩:=I.tuple hq;have hlen:=r'.length;obtain⟨o,ho,hc,n,hd⟩:=pl;exact call_list_seq p (.inr rfl) ho hc hd (λh' c' kp e=>fin its r' hz h' c' kp e) (by simp only[fP]<;>lia)
theorem zdf:cW X (.type "tuple") (λxs H Q=>∃p ys,xs=[.ref p]/\((cY X.K H p ys/\∀l,H l=none->Q (.ref l) (upd H l (.tup ys)))\/(fZ X.K H p ys/\Q (.ref p) H))):=by
 intro ao s Z H xs us Q I r h;obtain⟨p,ys,rfl,h⟩:=h;obtain⟨u,rfl,rx⟩:=vals1 r;cases rx;rcases h with ⟨hq,q⟩|⟨hq,q⟩
 ·obtain⟨its,r',pl,hz⟩:=I.list hq;have hlen:=r'.length;refine call_tuple_list pl.isList (λh' kp=>?_) (by simp only[fP]<;>lia);have I1:Inv X ao Z H {s with heap:=h'}:=I.kept (t':=s.toks) kp;have I2:Inv X ao Z (upd H h'.objs.size (.tup ys)) {s with heap:=h'.push {cls:=.type "tuple",data:=.seq its.toArray}}:=
   I1.laid (t':=s.toks) (λb o e=>cU _ e) (bU _) (show bR X.prog X.w _ _ _ (.tup ys) from ⟨hz,its,r',IsTup.new _ _⟩)
  exact⟨.ref h'.objs.size,_,I2,rfl,q _ (I1.hok.fresh (bU _))⟩
 ·obtain⟨its,r',pl,hz⟩:=I.tuple hq;exact call_tuple_same pl ⟨.ref p,H,I,rfl,q⟩
def YB(K:W.Frag)(T:String)(x:V)(H:Hp):Prop:=match x with
 |.str _=>T="str"
 |.int _=>T="int"
 |.ref p=>(T="list"/\∃xs,cY K H p xs)\/(T="tuple"/\∃o,K.lookup p=some o/\o.cls=.type "tuple"/\o.dict=none) \/
   (T="dict"/\((∃kvs,H p=some (.dK kvs))\/∃kvs,H p=some (.dT kvs)))\/(T="set"/\∃S n,H p=some (.set S n))
 |_=>False
theorem zmd{ao:List (Addr×Obj)}{Z:St}{H:Hp}{s:Shared}{T:String}{x:V}{v:Value}(I:Inv X ao Z H s)(r:RelV x v)(ty:YB X.K T x H) :
  s.TypeIs v T/\∀a,v=.ref a->∃ob,s.heap.get? a=some ob/\ob.dict=none:=by
 cases x with
 |str z=>
  obtain⟨t,rfl⟩:=r;cases (show T="str" from ty);exact⟨typeIs_str s z t,λ_ e=>nomatch e⟩
 |int i=>
  obtain⟨t,rfl⟩:=r;cases (show T="int" from ty);exact⟨typeIs_int s i t,λ_ e=>nomatch e⟩
 |ref p=>
  cases r;rcases ty with ⟨rfl,xs,hq⟩|⟨rfl,o,hk,hc,hd⟩|⟨rfl,hk⟩|⟨rfl,S,n,hk⟩
  ·obtain⟨its,_,pl,_⟩:=I.list hq;refine⟨pl.isList.typeIs,λa e=>?_⟩;cases e;obtain⟨o,n,e,c,hd,_⟩:=pl;exact⟨o,e,hd⟩
  ·refine⟨⟨o,I.nW p o hk,hc⟩,λa e=>?_⟩;cases e;exact⟨o,I.nW _ o hk,hd⟩
  ·have z:∃o,s.heap.get? p=some o/\o.ExactDict:=by
    rcases hk with ⟨kvs,hk⟩|⟨kvs,hk⟩
    ·obtain⟨_,_,_,_,o,_,_,e,ex,_⟩:=I.hok p _ hk;exact⟨o,e,ex⟩
    ·obtain⟨_,_,_,_,o,_,_,e,ex,_⟩:=I.hok p _ hk;exact⟨o,e,ex⟩
   obtain⟨o,e,ex⟩:=z;refine⟨⟨o,e,ex.1⟩,λa e2=>?_⟩;cases e2;exact⟨o,e,ex.2.1⟩
  ·obtain⟨o,_,_,_,e,ex,_⟩:=I.hok p _ hk;refine⟨⟨o,e,ex.1⟩,λa e2=>?_⟩;cases e2;exact⟨o,e,ex.2.1⟩
 |_=>exact False.elim ty
noncomputable def tBM(K:W.Frag)(T:String)(r:V->List V->Hp->VK->Prop)(to:TE)(t:TA):TE:=λZ H Q=>to Z H λx H1=>YB K T x H1/\t Z H1 λxs H2=>r x xs H2 Q
variable {o e:Expr}{es:List Expr}{to:TE}{t:TA}{name:Str}{apos cpos:Pos}{T id:String}{r:V->List V->Hp->VK->Prop}
theorem zo6(pa:PlainAttrs T)(slot:Slot T name id)(hty:typeOf (.builtin id)=pure (.type "method_descriptor"))(hm:MtR X id r)(ho:PE X o to)(ha:PA X (e::es) t)
  (n_:attributeBase o name X.env (eval o X.env)=eval o X.env:=by rfl)
  (Bw:((backTo cpos (starEach (e::es) X.env)).all (λx=>!x.1)&&(backToKw cpos (keywordEach [] X.env)).all (λx=>x.1.isSome)
  &&decide ((e::es).length+([]:List Keyword).length+(if ([]:List Keyword).isEmpty then 0 else 1)<30))=true:=by rfl)
  (oh:(apos.endLine==cpos.line)=true:=by rfl) (hs:starEach (e::es) X.env=(false,eval e X.env)::starEach es X.env:=by rfl) (pR:(backTo cpos (starEach es X.env)).any (·.1)=false:=by rfl) :
  PE X (.Call (.Attribute o name apos) (e::es) [] cpos) (tBM X.K T r to t):=by
 intro ao s Z H Q I h;refine wpAny_Call_method_late n_ Bw oh rfl (aW (ho ao s Z H _ I h) λv s1 ⟨x,H1,I1,r1,ty,q1⟩=>?_);obtain⟨h1,h2⟩:=zmd I1 r1 ty;refine⟨T,id,pa,slot,hty,h1,h2,?_⟩;have hA:=ha cpos ao s1 Z H1 _ I1 q1;rw[hs] at hA ⊢;refine Calls.callWith_builtin (by show (false||(backTo cpos (starEach es X.env)).any (·.1))=false;rw[pR]<;>rfl) (Calls.evalArgs_plain ?_);exact aW hA λus s2 hx=>fG hx λvs H2 I2 r2 q2=>hm ao s2 Z H2 x vs v us Q I2 r1 r2 q2
end
def MtM(X:Cx)(id:String)(r:V->List V->Hp->VK->Prop):Prop:=
 ∀(ao:List (Addr×Obj)) (s:Shared) (Z:St) (H:Hp) (x:V) (xs:List V) (v:Value) (us:List Value) (Q:VK),Inv X ao Z H s->RelV x v->Vals xs us->r x xs H Q->
  wpAny (model X.prog X.w) X.A (call (.builtin id) (v::us)) (EP X ao Z Q) X.xe s
theorem Vals.one{x:V}{us:List Value}(h:Vals [x] us):∃u,us=[u]/\RelV x u:=by
 cases h with
 |cons r t=>cases t;exact⟨_,rfl,r⟩
theorem Vals.two{x y:V}{us:List Value}(h:Vals [x,y] us):∃u v,us=[u,v]/\RelV x u/\RelV y v:=by
 cases h with
 |cons r t=>
  obtain⟨v,rfl,q⟩:=Vals.one t;exact⟨_,_,rfl,r,q⟩
section
variable {X:Cx}{ao:List (Addr×Obj)}{Z:St}{H:Hp}{s:Shared}{l b:Addr}{xs ys zs:List V}
theorem Inv.Rp{its its':List Value}{n:Nat}{f:Array Value->Array Value}{t':Nat}(I:Inv X ao Z H s)(hH:H l=some (.lst xs))
  (e:s.heap.get? l=some {cls:=.type "list",data:=.seq its.toArray n}) (hf:f its.toArray=its'.toArray) (hv:Vals ys its') (hz:ys.length<=sizeLine) :
  Inv X ao Z (upd H l (.lst ys)) {s with heap:=s.heap.update l (Obj.mapSeq f),toks:=t'}:=by
 have q:=PySem.IsL.update e f;rw[hf] at q;refine I.write (x:=l) (e:=l) (by rw[hH];exact trivial) (.inl rfl) (λb' u hb hu=>(wB s.heap (Obj.mapSeq f) (Ne.symm hb)).trans hu) ⟨_,q⟩ ?_;exact⟨hz,its',_,hv,q⟩
theorem Inv.Rq{its:List Value}{t':Nat}(I:Inv X ao Z H s)(hv:Vals ys its)(hz:ys.length<=sizeLine) :
  Inv X ao Z (upd H s.heap.objs.size (.lst ys)) {s with heap:=s.heap.push {cls:=.type "list",data:=.seq its.toArray},toks:=t'}:=
 I.laid (λ_ _ q=>cU _ q) (bU _) ⟨hz,its,0,hv,fO _ rfl⟩
theorem Inv.fresh(I:Inv X ao Z H s):H s.heap.objs.size=none:=I.hok.fresh (bU _)
theorem Inv.Rr(I:Inv X ao Z H s)(hH:H l=some (.lst xs)):xs.length<=sizeLine/\∃(its:List Value) (n:Nat),Vals xs its/\xs.length=its.length/\s.heap.get? l=some {cls:=.type "list",data:=.seq its.toArray n}:=by
 obtain⟨z,its,n,r,e⟩:=I.hok l _ hH;exact⟨z,its,n,r,r.length,e⟩
end
section
variable {X:Cx}
noncomputable def wZ:V->List V->Hp->VK->Prop:=λx vs H Q=>∃l xs y,x=.ref l/\vs=[y]/\H l=some (.lst xs)/\xs.length<sizeLine/\Q .non (upd H l (.lst (xs++[y])))
theorem Rt:MtM X "list.append" wZ:=by
 intro ao s Z H x vs v us Q I rx rv h;obtain⟨l,xs,y,rfl,rfl,hH,hz,q⟩:=h;cases rx;obtain⟨u,rfl,ru⟩:=rv.one;obtain⟨z,its,n,r,hl,e⟩:=I.Rr hH;refine call_meets F.slot_list_append ⟨_,e,rfl⟩ F.entry_list_append (F.args_list_append_2 _ _) (PySem.list_append l its.toArray n u (by rw[fP];lia)) ⟨e,?_⟩;refine⟨.non,_,I.Rp (its':=its++[u]) hH e (by simp) (r.append (.cons ru .nil)) ?_,rfl,q⟩;rw[iZ,List.length_singleton]
 lia
end
section
variable {prog:Program}{w:World}{A:Around}{E:Value->Shared->Prop}{s:Shared}
set_option maxRecDepth 100000 in
end
section
variable {X:Cx}
end
end L2
namespace YC
open PySem PySem.W PySem.Calls PyProof.Rows
theorem zb2{P:Params}{h:Heap}:∀(ns:List Int) (vs:List Value),WellAll P h vs (ns.map WData.int)->IntsAre vs ns:=by
 intro ns
 induction ns with
 |nil=>
  intro vs w;rw[DW] at w;cases w;exact .nil
 |cons n ns ih=>
  intro vs w;rw[g_] at w;cases w with
  |cons a b=>
   cases a;exact .cons _ _ (ih _ b)
theorem zhA{l:OpenLaw}{n:Nat}(hn:l.most=some n){P:Params}{h:Heap}{args:List WData}{vals:List Value}
  (hpre:l.row.toRowW.claim.pre args=true) (Ru:WellAll P h vals args) :
  ∃a vs ns,vals=[Value.ref a]/\args=[WData.list (ns.map WData.int)]/\h.get? a=some {cls:=.type "list",data:=.seq vs.toArray}/\IntsAre vs ns/\ns.length<=n:=by
 have hsh:WShape.hasAll [] args [.list .int]=true:=(pre_splitW hpre).1;have hc:l.pre.holds [] {args:=args}=true:=(pre_splitW hpre).2;obtain⟨d,r,rfl,h1,h2⟩:=hasAllW_cons hsh;obtain rfl:=hasAllW_nil h2;obtain⟨xs,rfl,h3⟩:=hasW_list h1;obtain⟨ns,rfl⟩:=items_int h3;have hlen:ns.length<=n:=by
  unfold OpenLaw.pre at hc;have h4:(WTm.not (.lt (.lit (.int (n:Int))) (.len (.arg 0)))).holds [] {args:=[.list (ns.map .int)]}=true:=by
   have h4:=(holds_andW hc).1;rw[hn] at h4;exact h4
  have h5:=condW_of h4 (w_not (w_lt w_lit (w_len_list (w_arg rfl))));rw[bO] at h5;refine Lj λq=>?_;have q':(n:Int)<((ns.length:Nat):Int):=by lia
  first
   |(rw[fu q'] at h5;exact absurd h5 (by decide))
   |(simp at h5;lia)
 cases Ru with
 |cons w1 w2=>
  cases w2;cases w1 with
  |list ho pU=>exact⟨_,_,ns,rfl,rfl,ho,zb2 ns _ pU,hlen⟩
theorem zhG(l:OpenLaw)(args:List WData):l.row.toRowW.claim.post args (.bool true) args=true:=
 postW_of (r:=l.row.toRowW) (X:=(true==true))
  (show WShape.has [] (.bool true) .bool=true by first|rfl|decide|simp[WShape.has,WShape.arms,WShape.armsAll])
  (show (WTm.eq .res (.lit (.bool true))).value [] {args:=args,res:=some (.bool true),after:=args}=some (.bool (true==true)) from w_eq_bool (w_res rfl) w_lit) rfl
theorem ou{l:OpenLaw}{n:Nat}{q:Program}{loose:List Str}{XP:(Str->Option Value)->Heap->Prop}{YP:World->Heap->Prop}{d:DefRec}
  (hn:l.most=some n) (Rw:d.params.defaults=[])
  (call:∀(w:World) (s₀ s₁:Shared) (mg mb:Str->Option Value) (fa:Addr) (o:Obj) (pm cd doc:Value) (a:Addr) (vs:List Value) (ns:List Int),
   Ground q loose [] XP w s₀ mg mb s₁.heap->YP w s₁.heap->
   s₁.heap.get? fa=some o->o.data=.func (docDef d.name d.params d.body d.scope pm cd doc)->s₁.heap.CodeRec cd d.name->mg d.name=some (.ref fa)->
   s₁.heap.get? a=some {cls:=.type "list",data:=.seq vs.toArray}->IntsAre vs ns->ns.length<=n->s₁.gens=#[]->
   codeAny (model l.prog w) callerA (.call (.ref fa) ⟨[.ref a],[]⟩) (λr s'=>r=.ok (.ret (.bool true))/\OldK s₁.heap s'.heap/\s'.os=s₁.os/\AllBare s'.gens) s₁) :
  WalkO q loose XP YP l.row.toRowW d [] (λf vs=>PySem.call f vs):=by
 intro w s₀ s₁ mg mb G Y fa o pm cd doc dV kV ho hd kY hD hmg hg args vals as hpre aac hrd Ru hlo;obtain rfl:dV=.none:=Dflts.none hD Rw;obtain rfl:kV=.none:=Dflts.noKw hD;obtain⟨a,vs,ns,rfl,rfl,BJ,hints,hlen⟩:=zhA hn hpre Ru;refine enter_call (Aq (call w s₀ s₁ mg mb fa o pm cd doc a vs ns G Y ho (fd_plain hd) kY hmg BJ hints hlen hg) λr s' hq=>?_);obtain⟨rfl,h2,h3,h4⟩:=hq;exact⟨.inl ⟨.bool true,.bool true,[],rfl,λ_=>rfl,.bool true,zhG l _,λ_=>⟨List.Pairwise.nil,λ_ hm=>(nomatch hm)⟩⟩,h2,h3,h4⟩
section
variable {prog:Program}{w:World}{A:Around}{E:Value->Shared->Prop}{s:Shared}{K:Frag}
end
end YC
namespace L2
open PySem PySem.Spec PyProof.Rows
theorem YD:∀{vs:List Value} {ns:List Int},IntsAre vs ns->Vals (ns.map V.int) vs
 |_,_,.nil=>.nil
 |_,_,.cons n t h=>.cons ⟨t,rfl⟩ (YD h)
def Only(H:Hp):Prop:=∀b,H b=none\/∃o xs,H b=some (.vM o (.lst xs))
theorem ziw{P:Program}{w:World}{K:W.Frag}{mg mb:Str->Option Value}{CX:tu}{k:Nat}{fa a:Addr}{fd:FuncData}{x:Str}{sp:Sp}{s₁:Shared}{vs:List Value}{ns:List Int}
  (KX:K.In s₁.heap) (YF:s₁.heap.Ns mainGlobals mg) (hb:s₁.heap.Ns builtinsNs mb) (hbb:∀x:Str,x≠"__name__"->mb x=bootBuiltins x) (Rx:s₁.heap.NoLimit) (hg:s₁.gens=#[])
  (ha:s₁.heap.get? a=some {cls:=.type "list",data:=.seq vs.toArray}) (hi:IntsAre vs ns) (hl:ns.length<=sizeLine) (hr:bG k callerA)
  (F:∀base:Heap,K.In base->base.Ns mainGlobals mg->cH P w K mg base CX true k fa fd [x] sp) (Ih:∀(s:Shared) (u:Value),BindsTo s fd ⟨[u],[]⟩ [(x,u)])
  (Ms:∀H:Hp,Only H->cY K H a (ns.map V.int)->sp [.ref a] H (λv _=>v=.bl true) λ_ _ _=>False)
  (hCX:∀H e s',CX [] H s₁ (λ_ _ _=>False) e s'->False) :
  codeAny (model P w) callerA (.call (.ref fa) ⟨[.ref a],[]⟩) (λr s'=>r=.ok (.ret (.bool true))/\OldK s₁.heap s'.heap/\s'.os=s₁.os/\AllBare s'.gens) s₁:=by
 have rv:=YD hi;have lenV:=hi.length;have core:∀H:Hp,Only H->cY K H a (ns.map V.int)->i_ P w H s₁.heap->(∀b,H b≠none->b=a)->(H a≠none->K.lookup a=none)->
   codeAny (model P w) callerA (.call (.ref fa) ⟨[.ref a],[]⟩) (λr s'=>r=.ok (.ret (.bool true))/\OldK s₁.heap s'.heap/\s'.os=s₁.os/\AllBare s'.gens) s₁:=by
  intro H hO hS hok hA hK;have qL:∀{b:Addr} {o:Obj},s₁.heap.get? b=some o->H b=none->(mR s₁.heap H).get? b=some o:=λe n=>zhW e n;have HD:∀{b:Addr} {o:Obj} {es:Array DictEntry} {ep:Nat},s₁.heap.get? b=some o->o.data=.dict es ep->H b=none:=λ{b o es ep} e d=>by
   cases q:H b with
   |none=>rfl
   |some u=>
    have e':b=a:=hA b (by rw[q];simp);subst e';rw[ha] at e;cases e;have d':Data.seq vs.toArray _=Data.dict es ep:=d;cases d'
  have Mv:∀{b:Addr} {m:Str->Option Value},s₁.heap.Ns b m->(mR s₁.heap H).Ns b m:=λ{b m} ⟨o,es,ep,e,d,r⟩=>⟨o,es,ep,qL e (HD e d),d,r⟩;have YG:K.In (mR s₁.heap H):=λb o e=>qL (KX b o e) (by
   cases q:H b with
   |none=>rfl
   |some u=>
    have e':b=a:=hA b (by rw[q];simp);subst e';rw[hK (by rw[q];simp)] at e;cases e)
  have hM:Mod K mg (mR s₁.heap H):=⟨YG,Mv YF,⟨mb,Mv hb,hbb⟩,let ⟨mc,h1,h2⟩:=Rx;⟨mc,Mv h1,h2⟩⟩;have e0:pP P w K mg (mR s₁.heap H) callerA [] s₁ H:=⟨rfl,hM,λb o e=>zk6 e,Nat.le_of_eq (zgi _ _),trivial,λb hb=>absurd (show b∈([]:List Addr) from hb) (by simp),hok,.of_eq hg⟩;refine Aq ((F _ YG (Mv YF)).run callerA [] s₁ H ⟨[.ref a],[]⟩ [.ref a] [.ref a] _ _ (λ_=>rfl) hr e0 (Ih s₁ (.ref a)) (.cons rfl .nil) (Ms H hO hS)) λr s' h=>?_;cases r with
  |error e=>exact(hCX H e s' h).elim
  |ok fl=>
   cases fl with
   |next=>exact False.elim h
   |brk=>exact False.elim h
   |cont=>exact False.elim h
   |ret u=>
    obtain⟨v,H',os,bare,un,Ry,r',q⟩:=h;have q':v=.bl true:=q;subst q';obtain rfl:u=Value.bool true:=r';refine⟨rfl,OldK.of_keep λb o e=>?_,os,bare⟩;cases q:H b with
    |none=>exact un.keep b o e q (by intro z;exact absurd (show b∈([]:List Addr) from z) (by simp)) (by simp)
    |some u=>
     rcases hO b with z|⟨ob,xs,z⟩
     ·rw[q] at z;cases z
     ·have z2:=un.k_ b ob _ z;obtain⟨e1,_⟩:=hok b _ z;obtain⟨e2,_⟩:=Ry b _ z2;rw[e] at e1;cases e1;exact e2
 cases hk:K.lookup a with
 |some o=>
  have e:=KX a o hk;rw[ha] at e;cases e;refine core (λ_=>none) (λ_=>.inl rfl) (.inr ⟨_,vs.toArray,_,hk,rfl,rfl,rfl,by rw[fP,lenV];exact hl,by simpa using rv⟩) (λb u z=>by have z':(none:Option HO)=some u:=z;cases z') (λb z=>absurd rfl z) λz=>absurd rfl z
 |none=>
  refine core (λb=>if b=a then some (.vM {cls:=.type "list",data:=.seq vs.toArray} (.lst (ns.map V.int))) else none) (λb=>?_) (.inl (.inr ⟨{cls:=.type "list",data:=.seq vs.toArray},if_pos rfl⟩)) (λb u z=>?_) (λb z=>?_) λ_=>hk
  ·by_cases hb:b=a
   ·exact .inr ⟨_,_,if_pos hb⟩
   ·exact .inl (if_neg hb)
  ·by_cases hb:b=a
   ·have z':=(if_pos hb).symm.trans z;cases z';subst hb;exact⟨ha,by rw[bO];exact hl,vs,_,rv,ha⟩
   ·have z':=(if_neg hb).symm.trans z;cases z'
  ·by_cases hb:b=a
   ·exact hb
   ·exact absurd (if_neg hb) z
def RB(h0:Heap)(H:Hp)(h:Heap)(e:Addr)(hd:Value):Prop:=
 hd=.none\/∃T oT ts,hd=.ref T/\h0.get? T=none/\H T=none/\T≠e/\h.get? T=some oT/\oT.data=.fields ts/\ts[3]?=some .none
structure Exc(h0:Heap)(H:Hp)(h:Heap)(e C:Addr)(dx:Option Addr):Prop where
 new:h0.get? e=none
 un:H e=none
 ob:∃oe vs hd,h.get? e=some oe/\oe.cls=.ref C/\oe.dict=dx/\oe.data=.fields vs/\vs[1]?=some hd/\RB h0 H h e hd
structure RD(h0:Heap)(H:Hp)(fr:List Addr)(h h':Heap)(ch:List Addr):Prop where
 rec_:∀b∈ch,h0.get? b=none/\H b=none/\∃o vs,h.get? b=some o/\o.data=.fields vs
 keep:∀b o,h.get? b=some o->b∉fr->b∉ch->h'.get? b=some o
 slot:∀b o,h.get? b=some o->b∈fr->∃sl,h'.get? b=some {o with slots:=sl}
 there:∀b o,h.get? b=some o->∃o',h'.get? b=some o'
noncomputable def ug(head:Value)(L:Addr)(pl:List Value):Obj:=
 {cls:=.type "traceback",dict:=none,data:=.fields ([head,.ref L,.none,rawInt L,.none]++(if pl.isEmpty then List.replicate 6 Value.none else pl)).toArray}
theorem YH(o:Obj)(f:Array Value->Array Value):(o.mapFields f).dict=o.dict:=by
 obtain⟨c,d,dt,sl⟩:=o;cases dt<;>rfl
theorem zev(o:Obj)(f:Array Value->Array Value):(o.mapFields f).cls=o.cls:=by
 obtain⟨c,d,dt,sl⟩:=o;cases dt<;>rfl
section
variable {M:Model}{A:Around}{E:Value->Shared->Prop}{s:Shared}{base h0:Heap}{env:Env}{outer:List Env}{L e C:Addr}{dx:Option Addr}{H:Hp}{Q:Unit->Shared->Prop}
theorem YJ(qM:A.frames=some (env::outer))(hl:s.heap.FunFrames base (env::outer))(hf:env.frame=some L)
  (he:s.heap.get? e=some oe) (hd:oe.data=.fields vs) (hsz:1<vs.size)
  (k:∀h' T oT ts,s.heap.objs.size<=T->(∀b o,s.heap.get? b=some o->b∉frs (env::outer)->b≠e->h'.get? b=some o)->(∀b o,s.heap.get? b=some o->b∈frs (env::outer)->∃sl,h'.get? b=some {o with slots:=sl})->
   h'.get? e=some (oe.mapFields (·.setIfInBounds 1 (.ref T)))->h'.get? T=some oT->oT.data=.fields ts->3<ts.size->ts[3]?=some (rawInt L)->Q () {s with heap:=h'}) :
  wpAny M A (do let a <-frameOf env;let pl <-entryPlaceOf L hn;let b <-EntryCells.newEntry head a .none (rawInt L) .none pl;setField (.ref e) 1 b) Q E s:=by
 have Ii:e∉frs (env::outer):=λhm=>by
  obtain⟨_,o,ho,hx⟩:=hl.mem hm;rw[he] at ho;cases ho;exact hx vs hd
 refine aB (wpAny_frameOf_fun qM hl hf λh₁ sl₁=>?_);refine aB (wpAny_entryPlaceOf λpl hpl=>?_);unfold EntryCells.newEntry newFields;refine aB (pB ?_ (hpl.sizeOk5 _ _ _ _ _));have e1:h₁.get? e=some oe:=(sl₁.2.1 e Ii).trans he;have e2:(h₁.push (ug head L pl)).get? e=some oe:=cU _ e1;refine Gy e2 hd hsz ?_;have ne:h₁.objs.size≠e:=vJ (bY e1);have d3:=yK hd (·.setIfInBounds 1 (Value.ref h₁.objs.size));have kp:∀b o,h₁.get? b=some o->b≠e->((h₁.push (ug head L pl)).update e (Obj.mapFields (·.setIfInBounds 1 (Value.ref h₁.objs.size)))).get? b=some o:=λb o q n=>by
  rw[wB _ _ n.symm];exact cU _ q
 refine k _ h₁.objs.size (ug head L pl) _ (by rw[sl₁.1];exact bU _) (λb o q n1 n2=>kp b o ((sl₁.2.1 b n1).trans q) n2) (λb o q m=>?_) (Ag _ e2 (Lb d3)) ?_ rfl ?_ ?_
 ·obtain⟨sl,z⟩:=sl₁.2.2 b o q;exact⟨sl,kp b _ z λy=>Ii (y▸m)⟩
 ·rw[wB _ _ ne.symm];exact fO _ rfl
 ·simp only[fP,iZ,fX,Am]<;>lia
 ·first
   |(simp;done)
   |(rcases hpl with rfl|⟨_,_,_,_,_,_,_,rfl⟩<;>simp)
theorem zid(qM:A.frames=some (env::outer))(hl:s.heap.FunFrames base (env::outer))(hf:env.frame=some L)(x:Exc h0 H s.heap e C dx)
  (k:∀h' T oT oe ts vs ch,RD h0 H (frs (env::outer)) s.heap h' ch->s.heap.objs.size<=T->h'.get? e=some oe->oe.cls=.ref C->oe.dict=dx->oe.data=.fields vs->vs[1]?=some (.ref T)->h'.get? T=some oT->oT.data=.fields ts->
   3<ts.size->ts[3]?=some (rawInt L)->Q () {s with heap:=h'}):wpAny M A (noteFrame (.ref e) env) Q E s:=by
 obtain⟨oe,vs,hd,he,hc,Mw,vR,h1,tb⟩:=x.ob;have hsz:1<vs.size:=(Array.getElem?_eq_some_iff.mp h1).1;have Ii:∀b o ws,s.heap.get? b=some o->o.data=.fields ws->b∉frs (env::outer):=λb o ws q d hm=>by
  obtain⟨_,o',ho,hx⟩:=hl.mem hm;rw[q] at ho;cases ho;exact hx ws d
 unfold noteFrame;simp only[hf];refine aB (kW he vR h1 ?_);rcases tb with rfl|⟨T,oT,ts,rfl,nT,uT,neT,gT,dT,h3⟩
 ·rw[if_neg (by decide)];refine YJ qM hl hf he vR hsz λh' T oT ts lt kp sl ge gT dT z3 z4=>?_;refine k h' T oT _ ts _ [e] ⟨λb hb=>?_,λb o q n1 n2=>kp b o q n1 λz=>n2 (by rw[z];exact .head _),sl,λb o q=>?_⟩ lt ge ((zev _ _).trans hc) ((YH _ _).trans Mw) (yK vR _) (by simp[hsz]) gT dT z3 z4
  ·obtain rfl:b=e:=by simpa using hb
   exact⟨x.new,x.un,oe,vs,he,vR⟩
  ·by_cases z:b=e
   ·subst z;exact⟨_,ge⟩
   ·by_cases m:b∈frs (env::outer)
    ·obtain⟨w,q'⟩:=sl b o q m;exact⟨_,q'⟩
    ·exact⟨o,kp b o q m z⟩
 ·rw[if_pos (show (Value.ref T != Value.none)=true from by simp)];refine aB (kW gT dT h3 ?_);rw[if_neg (show ¬((Value.none==rawInt L)=true) from by simp[rawInt])];have z3:3<ts.size:=(Array.getElem?_eq_some_iff.mp h3).1;refine aB (Gy gT dT z3 ?_);have oth:∀b,b≠T->(s.heap.update T (Obj.mapFields (·.setIfInBounds 3 Value.none))).get? b=s.heap.get? b:=λb n=>wB _ _ n.symm;have hl':(s.heap.update T (Obj.mapFields (·.setIfInBounds 3 Value.none))).FunFrames base (env::outer):=hl.of_keeps λb o q nd=>⟨o,(oth b λz=>by subst z;rw[gT] at q;cases q;exact nd ts dT).trans q,rfl⟩;have sT:(s.heap.update T (Obj.mapFields (·.setIfInBounds 3 Value.none))).get? T=some (oT.mapFields (·.setIfInBounds 3 Value.none)):=Ag _ gT (Lb (yK dT _));refine YJ qM hl' hf ((oth e neT.symm).trans he) vR hsz λh' T' oT' ts' lt kp sl ge gT' dT' z3' z4'=>?_;have lt':s.heap.objs.size<=T':=by
   have:=lt;simp only[Heap.size_after_update] at this;exact this
  refine k h' T' oT' _ ts' _ [e,T] ⟨λb hb=>?_,λb o q n1 n2=>kp b o ((oth b λz=>n2 (by simp[z])).trans q) n1 λz=>n2 (by simp[z]),λb o q m=>?_,λb o q=>?_⟩ lt' ge ((zev _ _).trans hc) ((YH _ _).trans Mw) (yK vR _) (by simp[hsz]) gT' dT' z3' z4'
  ·have hb':b=e\/b=T:=by simpa using hb
   rcases hb' with rfl|rfl
   ·exact⟨x.new,x.un,oe,vs,he,vR⟩
   ·exact⟨nT,uT,oT,ts,gT,dT⟩
  ·exact sl b o ((oth b λz=>by subst z;exact Ii b o ts q (by rw[gT] at q;cases q;exact dT) m).trans q) m
  ·by_cases z:b=e
   ·subst z;exact⟨_,ge⟩
   ·by_cases y:b=T
    ·subst y;exact⟨_,kp b _ sT (Ii b oT ts gT dT) z⟩
    ·by_cases m:b∈frs (env::outer)
     ·obtain⟨w,q'⟩:=sl b o ((oth b y).trans q) m;exact⟨_,q'⟩
     ·exact⟨o,kp b o ((oth b y).trans q) m z⟩
theorem ziK(he:s.heap.get? e=some oe)(hd:oe.data=.fields vs)(h1:vs[1]?=some (.ref T))(gT:s.heap.get? T=some oT)(dT:oT.data=.fields ts)(z3:3<ts.size)
  (k:∀h',(∀b o,b≠T->s.heap.get? b=some o->h'.get? b=some o)->h'.get? T=some (oT.mapFields (·.setIfInBounds 3 Value.none))->Q () {s with heap:=h'}):wpAny M A (setFlight (.ref e) none) Q E s:=by
 unfold setFlight;refine aB (kW he hd h1 ?_);rw[if_pos (show (Value.ref T != Value.none)=true from by simp)];exact Gy gT dT z3 (k _ (λb o n q=>(wB _ _ n.symm).trans q) (Ag _ gT (Lb (yK dT _))))
theorem zgx(qM:A.frames=some (env::outer))(hl:s.heap.FunFrames base (env::outer))(hf:env.frame=some L)(x:Exc h0 H s.heap e C dx)
  (qG:∀b,s.heap.objs.size<=b->H b=none) (h0s:∀b o,h0.get? b=some o->∃o',s.heap.get? b=some o')
  (k:∀h' ch,RD h0 H (frs (env::outer)) s.heap h' ch->Exc h0 H h' e C dx->Q () {s with heap:=h'}) :
  wpAny M A (noteFrame (.ref e) env) (λ_ s₁=>wpAny M A (setFlight (.ref e) none) Q E s₁) E s:=by
 have ele:∃o,s.heap.get? e=some o:=let ⟨oe,_,_,he,_⟩:=x.ob;⟨oe,he⟩;refine zid qM hl hf x λh' T oT oe ts vs ch t lt ge hc Mw vR h1 gT dT z3 z4=>?_;have neT:T≠e:=λz=>by
  obtain⟨o,q⟩:=ele;exact absurd (iY (bY q) (z▸lt)) (pD _)
 refine ziK (s:={s with heap:=h'}) ge vR h1 gT dT z3 λh2 kp gT2=>?_;have nT:∀b o,s.heap.get? b=some o->b≠T:=λb o q z=>absurd (iY (bY q) (z▸lt)) (pD _);refine k h2 ch ⟨t.rec_,λb o q n1 n2=>kp b o (nT b o q) (t.keep b o q n1 n2),λb o q m=>?_,λb o q=>?_⟩ ⟨x.new,x.un,oe,vs,.ref T,kp e oe neT.symm ge,hc,Mw,vR,h1,.inr ⟨T,_,_,rfl,?_,qG T lt,neT,gT2,yK dT _,by simp[z3]⟩⟩
 ·obtain⟨sl,q'⟩:=t.slot b o q m;exact⟨sl,kp b _ (nT b o q) q'⟩
 ·obtain⟨o',q'⟩:=t.there b o q;exact⟨o',kp b o' (nT b o q) q'⟩
 ·cases z:h0.get? T with
  |none=>rfl
  |some o=>
   obtain⟨o',q⟩:=h0s T o z;exact absurd rfl (nT T o' q)
end
noncomputable abbrev XS:=St->Value->Option Addr->Hp->Prop
def Sub(h0 h:Heap):Prop:=∀b o,h0.get? b=some o->∃o',h.get? b=some o'
theorem Sub.none{h0 h:Heap}(x:Sub h0 h){b:Addr}(e:h.get? b=none):h0.get? b=none:=by
 cases q:h0.get? b with
 |none=>rfl
 |some o=>
  obtain⟨o',z⟩:=x b o q;rw[e] at z;cases z
theorem Exc.older{h0 h1:Heap}{H:Hp}{h:Heap}{e C:Addr}{dx:Option Addr}(x:Exc h1 H h e C dx)(y:Sub h0 h1):Exc h0 H h e C dx:=by
 obtain⟨oe,vs,hd,a,b,c,d,f,tb⟩:=x.ob;refine⟨y.none x.new,x.un,oe,vs,hd,a,b,c,d,f,?_⟩;rcases tb with z|⟨T,oT,ts,z1,z2,z3⟩
 ·exact .inl z
 ·exact .inr ⟨T,oT,ts,z1,y.none z2,z3⟩
section
variable {X:Cx}{ao:List (Addr×Obj)}{Z:St}{H:Hp}{s:Shared}{h0 h':Heap}{ch fr:List Addr}
theorem i_.tbd{P:Program}{w:World}{h:Heap}(x:i_ P w H h)(t:RD h0 H fr h h' ch)(hf:∀b∈fr,H b=none):i_ P w H h':=λa o e=>by
 have st:∀b u,(b=a\/H b=some (.own a))->h.get? b=some u->h'.get? b=some u:=λb u z q=>by
  have nb:H b≠none:=by
   rcases z with z|z
   ·rw[z,e];simp
   ·rw[z];simp
  exact t.keep b u q (λm=>nb (hf b m)) λm=>nb (t.rec_ b m).2.1
 exact(x a o e).stay st (λ_ z=>z) λ_ _ z=>z
end
def Raises(X:Cx)(EX:XS):Prop:=
 ∀(ao:List (Addr×Obj)) (Z:St) (H:Hp) (s:Shared) (h0:Heap) (e C:Addr) (dx:Option Addr),Inv X ao Z H s->(∀b o,X.s₀.heap.get? b=some o->b∉X.ex->∃o',h0.get? b=some o')->
  (∀p∈X.pn++ao,∃o,h0.get? p.1=some o)->Sub h0 s.heap->Exc h0 H s.heap e C dx->EX Z (.ref C) dx H->X.xe (.ref e) s
noncomputable def gU(P:Program)(w:World):tu:=λouter H s E e s'=>
 ∃(a C:Addr) (dx:Option Addr) (H':Hp),e=.ref a/\s'.os=s.os/\AllBare s'.gens/\Un (frs outer) [] H H' s.heap s'.heap/\i_ P w H' s'.heap/\Exc s.heap H' s'.heap a C dx/\E (.ref C) dx H'
theorem zf2{P:Program}{w:World}{K:W.Frag}{mg:Str->Option Value}{base:Heap}{N:List Str}{qual:Str}{scope:Scope}{f:Addr}{cd:Value}{A:Around}{outer:List Env}{s:Shared}{H:Hp}{E:XK}{cm:Bool} :
  Raises (gK (gU P w) P w K mg base N qual scope f cd A outer s H E cm) (λ_ C dx H'=>E C dx H'):=by
 intro ao Z H1 s1 h0 e C dx I hs hp h01 x ex;have I0:Inv (gK (gU P w) P w K mg base N qual scope f cd A outer s H E cm) [] Z H1 s1:=I.mV λp z=>absurd z (by simp);show wpAny (model P w) (A.deeper (envOfC qual scope s.heap.objs.size f cd)) (leaving (envOfC qual scope s.heap.objs.size f cd) (.ref e)) _ _ s1;unfold leaving;have hsub:Sub s.heap h0:=λb o q=>hs b o q (by show b∉([]:List Addr);simp);refine aB (zgx (base:=base) (outer:=outer) (L:=s.heap.objs.size) I0.ok.frames I0.stack rfl x (λb z=>I0.hok.fresh z) h01 λh' ch t x'=>?_);have fin:∀b o,s.heap.get? b=some o->b∉ch:=λb o q m=>by
  have z:=hsub.none (t.rec_ b m).1;rw[q] at z;cases z
 have nL:∀b o,s.heap.get? b=some o->b∉frs outer->b∉frs (envOfC qual scope s.heap.objs.size f cd::outer):=λb o q n m=>by
  have m':b∈s.heap.objs.size::frs outer:=m;rcases gQ.mp m' with z|z
  ·exact absurd (bY q) (by rw[z];exact pD _)
  ·exact n z
 refine⟨e,C,dx,H1,rfl,I0.os,I0.bare,⟨λb o q n hb _=>?_,λb o q n hb _=>?_,λb o q n _=>I0.base.free b o q n (by show b∉([]:List Addr);simp),λb o q _=>?_,I0.base.tups,I0.base.k_,I0.base.mQ⟩,I0.hok.tbd t I0.mU,x'.older hsub,ex⟩
 ·exact t.keep b o (I0.base.keep b o q n hb (by show b∉([]:List Addr);simp)) (nL b o q hb) (fin b o q)
 ·obtain⟨sl,q1⟩:=I0.base.slot b o q n hb (by show b∉([]:List Addr);simp);obtain⟨sl',q2⟩:=t.slot b _ q1 (show b∈s.heap.objs.size::frs outer from iz _ hb);exact⟨sl',q2⟩
 ·obtain⟨o',q1⟩:=I0.base.there b o q (by show b∉([]:List Addr);simp);exact t.there b o' q1
section
variable {X:Cx}{cm:Bool}{k:Nat}{f C:Addr}{fd:FuncData}{ps:List Str}{sp:Sp}{EX:XS}{x m:Str}{p pos apos:Pos}{e o:Expr}{es:List Expr}{ta:TE}{t:TA}
theorem Raises.pass(R:Raises X EX)(I:Inv X ao Z H s)(h:gU X.prog X.w X.stack H s (EX Z) v s'):X.xe v s':=by
 obtain⟨a,C,dx,H',rfl,os,bare,un,hok,x,q⟩:=h;have aq:Sub s.heap s'.heap:=λb o z=>un.there b o z (by simp);refine R ao Z H' s' s.heap a C dx (I.call' os un hok bare λb z=>absurd z (by simp)) (λb o z n=>I.base.there b o z n) (λp hp=>?_) aq x q;exact⟨p.2,(I.pin p hp).1⟩
noncomputable def BK(sp:Sp)(EX:XS)(t:TA):TE:=λZ H Q=>t Z H λvs H1=>sp vs H1 Q (EX Z)
theorem zjS(F:cH X.prog X.w X.K X.mg X.base (gU X.prog X.w) cm k f fd ps sp)(jF:cm=true->X.aj=true)(hr:bG k X.A)(hb:Binds X.K fd ps [])(R:Raises X EX)
  (I:Inv X ao Z H s) (r:Vals vs us) (h:sp vs H Q (EX Z)):wpAny (model X.prog X.w) X.A (call (.ref f) us) (EP X ao Z Q) X.xe s:=by
 have hl:us.length=ps.length:=by rw[<-r.length];exact F.len _ _ _ _ h
 have hb':=hb s us I.nW (by rw[vG];exact hl);rw[vG] at hb';refine wpAny_call (Aq (F.run X.A X.stack s H ⟨us,[]⟩ us vs Q (EX Z) (λz=>I.ok.hd (jF z)) hr I.env0 hb' r h) λr s' hq=>?_);cases r with
 |error v=>exact R.pass I hq
 |ok fl=>
  cases fl with
  |ret u=>exact I.after hq
  |next=>exact False.elim hq
  |brk=>exact False.elim hq
  |cont=>exact False.elim hq
theorem zhM(F:cH X.prog X.w X.K X.mg X.base (gU X.prog X.w) cm k f fd ps sp)(jF:cm=true->X.aj=true)(hr:bG k X.A)(hg:Gl X x)(hm:X.mg x=some (.ref f))(hk:PySem.W.keepIn X.K (.ref f)=true)(hb:Binds X.K fd ps [])(R:Raises X EX)
  (ha:PA X (e::es) t) (rK:(x==("__debug__" : Str))=false:=by decide) (he:starEach (e::es) X.env=(false,eval e X.env)::starEach es X.env:=by rfl) (hpl:(backTo pos (starEach es X.env)).any (·.1)=false:=by rfl) :
  PE X (.Call (.Name x p) (e::es) [] pos) (BK sp EX t):=by
 intro ao s Z H Q I h;refine Ds (Qz I hg hm ?_ rK);exact Qi (h₀:=X.base) I.ok.mod.yQ hk (aW (ha pos ao s Z H _ I h) λus s1 ⟨vs,H1,I1,r,q⟩=>⟨I1.nW,zjS F jF hr hb R I1 r q⟩) he hpl
end
noncomputable def xq(a C:Addr)(dx:Option Addr):HO:=.ext λh=>∃oe vs,h.get? a=some oe/\oe.cls=.ref C/\oe.dict=dx/\oe.data=.fields vs
section
variable {X:Cx}{ao:List (Addr×Obj)}{Z:St}{H:Hp}{s:Shared}{e:Addr}{o:HO}
end
section
variable {X:Cx}{x n:Str}{np hpos pos:Pos}{b₀:Stmt}{body suite:List Stmt}{Dc:Addr}{i:Nat}{tb:XS->TS}{th:TS}
end
end L2
namespace L2
open PySem PySem.Spec PyProof.Rows PySem.W Builtin.ObjectAttr
section
variable {prog:Program}{w:World}{A:Around}{E:Value->Shared->Prop}{s:Shared}{K:Frag}{x C:Addr}{ox:Obj}{od:Option Obj}{name:Str}{tk:Tok}
theorem zlo(XI:K.In s.heap)(I:InstAt s.heap x ox C od)(hf:findObj K C od name=some r)
  (h:match r with|.value v=>Q (.done (.ret v)) s|.bind g a=>wpAny (model prog w) A (call g [a,.ref x,.ref C]) (λv s'=>Q (.done (.ret v)) s') E s|.missing=>False) :
  wpAny (model prog w) A (Builtin.«object.__getattribute__» ⟨[.ref x,.str name tk],[]⟩) Q E s:=by
 obtain⟨hh,g,d,t,os⟩:=s;have L0:=I.type (M:=model prog w);have L1:=looks_find (M:=model prog w) XI I hf;unfold Builtin.«object.__getattribute__»;refine aB (DX (a:=(Value.ref x,[Value.str name tk])) (by rfl) ?_);refine aB (DX (a:=name) (by rfl) ?_);refine aB (L0.at (aB (L1.at ?_)));cases r with
 |value v=>exact aM h
 |bind g a=>
  show wpAny _ _ (holding [a] (call g [a,.ref x,.ref C]) >>= ret) _ _ _;exact aB (qz (gR h (λv s' z=>aM z) λ_ _ z=>z))
 |missing=>exact h.elim
theorem zhr(XI:K.In s.heap)(I:InstAt s.heap x ox C od)(hb:mroIn K C (.type "BaseException")=some true)(hf:findObj K C od name=some r)
  (h:match r with|.value v=>R (.ok (.ret v)) s|.bind g a=>wpAny (model prog w) A.in1 (call g [a,.ref x,.ref C]) (λv s'=>R (.ok (.ret v)) s') (λe s'=>R (.error e) s') s|.missing=>False) :
  codeAny (model prog w) A (.call (.builtin "BaseException.__getattribute__") ⟨[.ref x,.str name tk],[]⟩) R s:=by
 have hk:builtinKind "BaseException.__getattribute__"=some .slot:=by decide +kernel
 have BL:splitId "BaseException.__getattribute__"=some ("BaseException","__getattribute__"):=by decide +kernel
 have ha:=F.args_bexc_ga (.ref x) (.str name tk);refine codeAny_call_builtin F.attr_ValueError.ga.plain F.entry_bexc_ga ?_;have fin:wpAny (model prog w) A.in1 (Builtin.«object.__getattribute__» ⟨[.ref x,.str name tk],[]⟩) (λfin s'=>match fin with|.done f=>R (.ok f) s'|.again c'=>c'.quiet=true/\codeAny (model prog w) A c' R s') (λe s'=>R (.error e) s') s:=by
  refine zlo XI I hf ?_;cases r with
  |value v=>exact h
  |bind g a=>exact h
  |missing=>exact h.elim
 have chk:∀Q:Unit->Shared->Prop,Q () s->wpAny (model prog w) A.in1 (checkBuiltinCall "BaseException.__getattribute__" ⟨[.ref x,.str name tk],[]⟩) Q (λe s'=>R (.error e) s') s:=λQ hq=>by
  obtain⟨hh,g,d,t,os⟩:=s;have L0:=I.type (M:=model prog w);have L1:=looks_mroIn (M:=model prog w) XI hb;have LI:Looks (model prog w) hh (isInstance (.ref x) (.type "BaseException")) true:=L0.andThen L1;simp only[checkBuiltinCall,hk,BL];refine aB ?_
  repeat (first|with_reducible exact hq|with_reducible refine LI.at ?_|wp_step)
 exact chk _ fin
theorem bexc_get?(XI:K.In s.heap)(I:InstAt s.heap x ox C od)(hb:mroIn K C (.type "BaseException")=some true)(hga:findIn K (.ref C) "__getattribute__"=some (some (.builtin "BaseException.__getattribute__")))
  (hgn:findIn K (.ref C) "__getattr__"=some none) (hf:findObj K C od name=some r)
  (h:match r with|.value v=>wpAny (model prog w) A (handedOut v) (λu s'=>Q (some u) s') (λ_ _=>False) {s with toks:=s.toks+1}|.bind g a=>wpAny (model prog w) A.in1 (call g [a,.ref x,.ref C]) (λv s'=>wpAny (model prog w) A (handedOut v) (λu s''=>Q (some u) s'') (λ_ _=>False) s') (λ_ _=>False) {s with toks:=s.toks+1}|.missing=>False) :
  wpAny (model prog w) A (getAttr? (.ref x) name) Q E s:=by
 obtain⟨hh,g,d,t,os⟩:=s;have L0:=I.type (M:=model prog w);have L1:=looks_findIn (M:=model prog w) XI hga;have L2:=looks_findIn (M:=model prog w) XI hgn;have Mx:(Value.builtin "BaseException.__getattribute__"==Value.builtin "object.__getattribute__")=false:=by decide +kernel
 unfold getAttr? getAttrBy? getAttrBy;refine aB (wpAny_mkText (aB (Gz (qz (aB (L0.at (aB (L1.at ?_))))))));show wpAny _ _ (if (onTheHeap (.ref C)&&(Value.builtin "BaseException.__getattribute__"==Value.builtin "object.__getattribute__"))=true then _ else getAttrByItsOwn _ _ _ _ _ _) _ _ _;rw[Mx,Bool.and_false,if_neg (by decide)];unfold getAttrByItsOwn hookBefore callGetattribute boundAndCalled;refine aB (L2.at ?_);refine aB (Gz (qz (aB (DX (F.attr_ValueError.ga.bind (.ref x)) ?_))));refine wpAny_call (zhr XI I hb hf ?_);cases r with
 |value v=>exact gR h (λv s'' hv=>aM hv) (λ_ _ z=>z.elim)
 |bind g a=>exact gR h (λv s' hv=>gR hv (λu s'' z=>aM z) λ_ _ z=>z.elim) (λ_ _ z=>z.elim)
 |missing=>exact h.elim
end
structure XC(K:Frag)(C:Addr):Prop where
 ga:findIn K (.ref C) "__getattribute__"=some (some (.builtin "BaseException.__getattribute__"))
 gn:findIn K (.ref C) "__getattr__"=some none
 cl:findIn K (.ref C) "__class__"=some (some (.builtin "object.__class__"))
 mb:mroIn K C (.type "BaseException")=some true
 mo:mroIn K C (.type "object")=some true
 cd:(clsIn K C).isSome=true
 dg:specialIn K (.builtin "object.__class__") "__get__"=some (some (.builtin "getset_descriptor.__get__"))
 dt:takesIn K (.builtin "object.__class__")=some true
theorem zgL{K:Frag}{C:Addr}{od:Option Obj}{name:Str}{a g:Value}(hc:(clsIn K C).isSome=true)(ha:findIn K (.ref C) name=some (some a))(hg:specialIn K a "__get__"=some (some g))(ht:takesIn K a=some true):findObj K C od name=some (.bind g a):=by
 obtain⟨cd,z⟩:=Py.mp hc;simp only[findObj,z,ha,hg,ht,Ln]
theorem YK{K:Frag}{e C:Addr}(c:XC K C):KitX K (.ref e) (.ref C) (λh=>∃ox od,InstAt h e ox C od) where
 ty:=λ_ _ _ ⟨_,_,I⟩=>I.type
 it:=λ_ _ XI _=>by
  have q:=c.cd;unfold clsIn at q;split at q
  ·rename_i c' d' cd' sl' lk;intro A' Q' E' s' k z;unfold isType loadHead;exact aB (wpAny_loadPart (k _ _ (XI _ _ lk)) (aM z))
  ·cases q
 ne:=λh tp dd its n sl XI htp=>by
  refine Bool.eq_false_iff.mpr λz=>?_;have ee:C=tp:=Value.ref.inj (pF.mp z);subst ee;have q:=c.cd;unfold clsIn at q;split at q
  ·rename_i c' d' cd' sl' lk;have y:=(XI _ _ lk).symm.trans htp;cases y
  ·cases q
 ca:=λ{prog w A E Q s} XI ⟨ox,od,I⟩ k=>by
  have hf:findObj K C od "__class__"=some (.bind (.builtin "getset_descriptor.__get__") (.builtin "object.__class__")):=zgL c.cd c.cl c.dg c.dt;refine bexc_get? XI I c.mb c.ga c.gn hf ?_;exact wpAny_call (class_get (s:={s with toks:=s.toks+1}) (ox:=ox) (od:=od) XI I c.mo (handed_on rfl k))
end L2
namespace L2
open PySem PySem.Spec PyProof.Rows
theorem zfX:∀(names:List (Str×NameKind)) (cs:List (Str×Addr)),(∀x∈names,x.2=.free->∃c,env.cells.lookup x.1=some c)->(∀x c,cs.lookup x=some c->env.cells.lookup x=some c)->
  ∃cl,(forIn names cs λx r=>(do
    if x.2==.free then
     let a <-cellOf env x.1
     pure (ForInStep.yield ((x.1,a)::r))
    else pure (ForInStep.yield r)):Sem (List (Str×Addr)))=pure cl/\(∀x c,cl.lookup x=some c->env.cells.lookup x=some c)/\(∀x c,cs.lookup x=some c->cl.lookup x=some c)/\∀x∈names,x.2=.free->∃c,cl.lookup x.1=some c:=by
 intro names
 induction names with
 |nil=>intro cs _ h;exact⟨cs,rfl,h,λ_ _ q=>q,λx z=>nomatch z⟩
 |cons y r ih=>
  intro cs h1 h2;obtain⟨n,k⟩:=y;by_cases hk:k=.free
  ·subst hk;obtain⟨c,hc⟩:=h1 (n,.free) lJ rfl;have hc:env.cells.lookup n=some c:=hc;have h3:∀x d,((n,c)::cs).lookup x=some d->env.cells.lookup x=some d:=λx d q=>by
    rw[pJ] at q;by_cases z:x=n
    ·subst z;simp at q;subst q;exact hc
    ·have z':(x==n)=false:=by simpa using z
     rw[z'] at q;exact h2 x d q
   obtain⟨cl,e,a,b,d⟩:=ih ((n,c)::cs) (λx z=>h1 x (iz _ z)) h3;have hco:cellOf env n=pure c:=by
    unfold cellOf;rw[hc]
   refine⟨cl,?_,a,λx q z=>?_,λx z q=>?_⟩
   ·rw[DP];simp only[Ak,if_true,hco];exact e
   ·by_cases y:x=n
    ·subst y;have z1:=h2 x q z;rw[hc] at z1;cases z1;exact b x c (by simp)
    ·have y':(x==n)=false:=by simpa using y
     exact b x q (by rw[pJ,y'];exact z)
   ·rcases gQ.mp z with z|z
    ·subst z;exact⟨c,b n c (by simp)⟩
    ·exact d x z q
  ·have hb:(k==NameKind.free)=false:=by simpa using hk
   obtain⟨cl,e,a,b,d⟩:=ih cs (λx z=>h1 x (iz _ z)) h2;refine⟨cl,?_,a,b,λx z q=>?_⟩
   ·rw[DP];simp only[hb,vC,qC];exact e
   ·rcases gQ.mp z with z|z
    ·subst z;exact absurd q hk
    ·exact d x z q
theorem zfI(h:∀x∈scope.names,x.2=.free->∃c,env.cells.lookup x.1=some c):∃cl,closureFor scope env=pure cl/\(∀x c,cl.lookup x=some c->env.cells.lookup x=some c)/\∀x∈scope.names,x.2=.free->∃c,cl.lookup x.1=some c:=by
 obtain⟨cl,e,a,_,d⟩:=zfX scope.names [] h (λx c q=>by cases q);refine⟨cl,?_,a,d⟩;unfold closureFor;have e':=e;simp only[pure_bind,bind_pure] at e' ⊢;exact e'
theorem RG{env:Env}{k:NameKind}:∀{names:List (Str×NameKind)} {x:Str},(names.map λ(n,k)=>if (k==NameKind.free&&env.scope.kind==.function&&env.kindOf n==some .cell) then (n,NameKind.cell) else (n,k)).lookup x=some k->
  names.lookup x=some k\/(k=.cell/\names.lookup x=some .free)
 |[],x,h=>by simp at h
 |(n,q)::r,x,h=>by
  rw[g_,pJ] at h;rw[pJ];have hd:∀c:Bool,(if c=true then (n,NameKind.cell) else (n,q)).1=n:=λc=>by cases c<;>rfl
  rw[hd] at h;by_cases z:x=n
  ·subst z;simp only[Ak] at h ⊢;split at h
   ·rename_i y;simp only[g8,pF] at y;cases h;exact .inr ⟨rfl,by rw[y.1.1]⟩
   ·cases h;exact .inl rfl
  ·have z':(x==n)=false:=by simpa using z
   simp only[z'] at h ⊢;exact RG h
theorem Mz{env:Env}:∀{names:List (Str×NameKind)} {x:Str},names.lookup x=some .free->
  (names.map λ(n,k)=>if (k==NameKind.free&&env.scope.kind==.function&&env.kindOf n==some .cell) then (n,NameKind.cell) else (n,k)).lookup x=some .cell \/
  (names.map λ(n,k)=>if (k==NameKind.free&&env.scope.kind==.function&&env.kindOf n==some .cell) then (n,NameKind.cell) else (n,k)).lookup x=some .free
 |[],x,h=>by simp at h
 |(n,q)::r,x,h=>by
  rw[pJ] at h;rw[g_,pJ];have hd:∀c:Bool,(if c=true then (n,NameKind.cell) else (n,q)).1=n:=λc=>by cases c<;>rfl
  rw[hd];by_cases z:x=n
  ·subst z;simp only[Ak] at h ⊢;cases h
   split
   ·exact .inl rfl
   ·exact .inr rfl
  ·have z':(x==n)=false:=by simpa using z
   simp only[z'] at h ⊢;exact Mz h
structure oA(n:Nat)(h1:Heap)(names:List (Str×NameKind))(cl fK:List (Str×Addr)):Prop where
 d1:∀x c,fK.lookup x=some c->(cl.lookup x=some c/\(x,NameKind.cell)∉names)\/((x,NameKind.cell)∈names/\n<c/\h1.IsCell c none)
 d2:∀x y c,n<c->fK.lookup x=some c->fK.lookup y=some c->x=y
 d3:∀x,names.lookup x=some .cell->∃c,fK.lookup x=some c
 d4:∀x c,(x,NameKind.cell)∉names->cl.lookup x=some c->fK.lookup x=some c
theorem cc:(NameKind.cell==NameKind.cell)=true:=by decide
theorem Ij:∀(names:List (Str×NameKind)) (h:Heap) (b:Addr) (o:Obj),h.get? b=some o->(pushCells h names).get? b=some o
 |[],h,b,o,e=>e
 |(x,k)::r,h,b,o,e=>by
  rw[pushCells]
  split
  ·exact Ij r _ b o (cU _ e)
  ·exact Ij r h b o e
theorem RJ:∀(names:List (Str×NameKind)) (h:Heap) (acc:List (Str×Addr)) (x:Str) (c:Addr),(cellsFrom h.objs.size names acc).lookup x=some c->
  (acc.lookup x=some c/\(x,NameKind.cell)∉names)\/((x,NameKind.cell)∈names/\h.objs.size<=c/\(pushCells h names).IsCell c none)
 |[],h,acc,x,c,e=>.inl ⟨e,by simp⟩
 |(y,k)::r,h,acc,x,c,e=>by
  rw[cellsFrom] at e;rw[pushCells];by_cases hk:k=.cell
  ·subst hk;rw[if_pos cc] at e ⊢;have sz:(h.push {cls:=Value.type "cell",data:=Data.cell none}).objs.size=h.objs.size+1:=by unfold Heap.push;simp
   rw[<-sz] at e;rcases RJ r _ _ x c e with ⟨a,b⟩|⟨a,b,d⟩
   ·rw[pJ] at a;by_cases z:x=y
    ·subst z;simp at a;subst a;exact .inr ⟨lJ,bU _,_,Ij r _ _ _ (fO _ rfl),rfl⟩
    ·have z':(x==y)=false:=by simpa using z
     rw[z'] at a;exact .inl ⟨a,by simp[z,b]⟩
   ·exact .inr ⟨iz _ a,by lia,d⟩
  ·have hb:(k==NameKind.cell)=false:=by simpa using hk
   rw[if_neg (by rw[hb];decide)] at e ⊢;rcases RJ r _ _ x c e with ⟨a,b⟩|⟨a,b,d⟩
   ·exact .inl ⟨a,by simp[b];intro _ q;exact hk q.symm⟩
   ·exact .inr ⟨iz _ a,b,d⟩
theorem RK:∀(names:List (Str×NameKind)) (n:Nat) (acc:List (Str×Addr)) (x y:Str) (c:Addr),(∀u v,acc.lookup u=some c->acc.lookup v=some c->u=v)->(∀u a,acc.lookup u=some a->a<n\/a≠c)->(cellsFrom n names acc).lookup x=some c->(cellsFrom n names acc).lookup y=some c->x=y
 |[],n,acc,x,y,c,h,_,e1,e2=>h x y e1 e2
 |(z,k)::r,n,acc,x,y,c,h,hl,e1,e2=>by
  rw[cellsFrom] at e1 e2;by_cases hk:k=.cell
  ·subst hk;rw[if_pos cc] at e1 e2;refine RK r (n+1) _ x y c (λu v a b=>?_) (λu a q=>?_) e1 e2
   ·rw[pJ] at a b;by_cases u1:u=z
    ·by_cases v1:v=z
     ·rw[u1,v1]
     ·have v':(v==z)=false:=by simpa using v1
      subst u1;simp at a;rw[v'] at b;subst a;have b:acc.lookup v=some n:=b;rcases hl v n b with q|q
      ·exact absurd q (pD _)
      ·exact absurd rfl q
    ·have u':(u==z)=false:=by simpa using u1
     rw[u'] at a;have a:acc.lookup u=some c:=a;by_cases v1:v=z
     ·subst v1;simp at b;subst b;rcases hl u n a with q|q
      ·exact absurd q (pD _)
      ·exact absurd rfl q
     ·have v':(v==z)=false:=by simpa using v1
      rw[v'] at b;exact h u v a b
   ·rw[pJ] at q;by_cases u1:u=z
    ·subst u1;simp at q;subst q;exact .inl (Dz _)
    ·have u':(u==z)=false:=by simpa using u1
     rw[u'] at q;exact(hl u a q).imp (λq=>sV q) id
  ·have hb:(k==NameKind.cell)=false:=by simpa using hk
   rw[if_neg (by rw[hb];decide)] at e1 e2;exact RK r n acc x y c h hl e1 e2
theorem RL:∀(names:List (Str×NameKind)) (n:Nat) (acc:List (Str×Addr)) (x:Str) (c:Addr),(x,NameKind.cell)∉names->acc.lookup x=some c->(cellsFrom n names acc).lookup x=some c
 |[],n,acc,x,c,_,e=>e
 |(z,k)::r,n,acc,x,c,h,e=>by
  rw[cellsFrom];have hr:(x,NameKind.cell)∉r:=λq=>h (iz _ q);by_cases hk:k=.cell
  ·subst hk;rw[if_pos cc];refine RL r (n+1) _ x c hr ?_;have:x≠z:=λq=>h (by rw[q];exact lJ);have z':(x==z)=false:=by simpa using this
   rw[pJ,z'];exact e
  ·have hb:(k==NameKind.cell)=false:=by simpa using hk
   rw[if_neg (by rw[hb];decide)];exact RL r n acc x c hr e
theorem RM:∀(names:List (Str×NameKind)) (acc:List (Str×Addr)) (s:Shared) (Q:List (Str×Addr)->Shared->Prop),
  Q (cellsFrom s.heap.objs.size names acc) {s with heap:=pushCells s.heap names}->
  wpAny M A (forIn names acc λx (cells:List (Str×Addr))=>match x with
   |(name,kind)=>if (kind==NameKind.cell)=true then do
     let a <-alloc {cls:=Value.type "cell",data:=Data.cell none}
     pure (ForInStep.yield ((name,a)::cells))
    else pure (ForInStep.yield cells)) Q E s
 |[],acc,s,Q,h=>by
  rw[Lx];exact aM h
 |(z,k)::r,acc,s,Q,h=>by
  rw[DP];rw[cellsFrom,pushCells] at h;by_cases hk:k=.cell
  ·subst hk;rw[if_pos cc,if_pos cc] at h;refine aB ?_;dsimp only;rw[if_pos cc];refine aB (wpAny_alloc (aM ?_));refine RM r _ _ Q ?_;have sz:(s.heap.push {cls:=Value.type "cell",data:=Data.cell none}).objs.size=s.heap.objs.size+1:=by unfold Heap.push;simp
   rw[sz];exact h
  ·have hb:(k==NameKind.cell)=false:=by simpa using hk
   rw[if_neg (by rw[hb];decide),if_neg (by rw[hb];decide)] at h;refine aB ?_;dsimp only;rw[if_neg (by rw[hb];decide)];exact aM (RM r _ _ Q h)
theorem YL(old:∀x c,cl.lookup x=some c->c<s.heap.objs.size)(inj:∀x y c,cl.lookup x=some c->cl.lookup y=some c->x=y)
  (h:∀h1 fK,h1.Ns s.heap.objs.size (λ_=>none)->(∀b o,s.heap.get? b=some o->h1.get? b=some o)->oA s.heap.objs.size h1 scope.names cl fK->Q {scope:=scope,locals:=s.heap.objs.size,globals:=globals,cells:=fK,qual:=qual,func:=none,code:=env.code,frame:=env.frame,builtins:=env.builtins} {s with heap:=h1}) :
  wpAny M A (newFunctionEnv scope globals cl [] qual none .none (some env)) Q E s:=by
 unfold newFunctionEnv;refine aB (wpAny_alloc ?_);refine aB ?_;refine RM scope.names cl _ _ ?_;dsimp only;rw[Lx];refine aB (aM (aM ?_));have sz:(s.heap.push {cls:=Value.type (if (some env).isSome=true then "dict" else "frame"),data:=Data.dict #[]}).objs.size=s.heap.objs.size+1:=by unfold Heap.push;simp
 refine h _ _ ?_ (λb o e=>Ij _ _ _ _ (cU _ e)) ⟨λx c e=>?_,λx y c hc e1 e2=>?_,λx e=>?_,λx c hx e=>RL _ _ _ x c hx e⟩
 ·refine⟨_,#[],_,Ij _ _ _ _ (fO _ rfl),rfl,?_,λ_=>rfl⟩;intro e he;simp at he
 ·rcases RJ _ _ _ x c e with ⟨a,b⟩|⟨a,b,d⟩
  ·exact .inl ⟨a,b⟩
  ·rw[sz] at b;exact .inr ⟨a,by lia,d⟩
 ·exact RK _ _ _ x y c (λu v a b=>inj u v c a b) (λu a q=>.inl (by rw[sz];exact sV (old u a q))) e1 e2
 ·have:=PL scope.names (s.heap.push {cls:=Value.type (if (some env).isSome=true then "dict" else "frame"),data:=Data.dict #[]}).objs.size cl (.inl e);exact Py.mp this
noncomputable def Cx.blk(X:Cx)(scope:Scope)(cl:List (Str×Addr))(N:List Str)(C:Addr)(s3:Shared)(H3:Hp)(fp:List Addr)(ao:List (Addr×Obj)):Cx where
 prog:=X.prog
 w:=X.w
 K:=X.K
 mg:=X.mg
 base:=X.base
 A:=X.A
 N:=N
 s₀:=s3
 H₀:=H3
 env:=compEnvC scope cl C X.env
 outer:=X.stack
 stack:=X.stack
 ex:=fp
 fn:=λx=>scope.names.lookup x==some .cell
 aj:=X.aj
 pn:=X.pn++ao
 xe:=λ_ _=>False
structure cO(sc scope:Scope):Prop where
 kind:scope.kind=.function
 YM:∀y∈scope.names,y.2=.cell->scope.names.lookup y.1=some .cell
 free:∀y∈scope.names,y.2=.free->sc.names.lookup y.1=some .cell\/sc.names.lookup y.1=some .free
 loc:∀y∈scope.names,y.2=.local->scope.names.lookup y.1=some .local
section
variable {X:Cx}{ao:List (Addr×Obj)}{Z:St}{H:Hp}{s:Shared}{scope:Scope}{cl:List (Str×Addr)}{N:List Str}{fp:List Addr}{ZY:St}
theorem YQ{h1:Heap}{t:Nat}{fK:List (Str×Addr)}(I:Inv X ao Z H s)(B:cO X.env.scope scope)(c1:∀x c,cl.lookup x=some c->X.env.cells.lookup x=some c)(c2:∀x∈scope.names,x.2=.free->∃c,cl.lookup x.1=some c)
  (f:∀b∈fp,fU X ao H b) (fo:∀b∈fp,∃o,s.heap.get? b=some o) (hn:h1.Ns s.heap.objs.size (λ_=>none)) (kp:∀b o,s.heap.get? b=some o->h1.get? b=some o) (CN:oA s.heap.objs.size h1 scope.names cl fK)
  (hl:ZY.length=N.length) (hZ:∀(i:Nat) (x:Str) (v:V),N[i]?=some x->ZY[i]?=some (some v)->scope.names.lookup x=some .free/\∃j:Nat,X.N[j]?=some x/\Z[j]?=some (some v)) :
  Inv (X.blk scope fK N s.heap.objs.size s H fp ao) [] ZY H {s with heap:=h1,toks:=t}:=by
 have lt:∀b o,s.heap.get? b=some o->b≠s.heap.objs.size:=λb o q=>dN (bY q);have YS:∀b,b≠X.env.locals->b∉X.fs->b∉frs X.stack:=λb a c z=>(gQ.mp (I.jX b z)).elim a c;have mem_of:∀x k,scope.names.lookup x=some k->(x,k)∈scope.names:=λx k q=>Dq q;have old:∀x c,cl.lookup x=some c->c<s.heap.objs.size:=λx c q=>by
  obtain⟨v,o,q1,q2⟩:=I.cell x c (c1 x c q);exact bY q1
 have YT:∀x,scope.names.lookup x=some .free->(x,NameKind.cell)∉scope.names:=λx q z=>by
  have:=B.YM _ z rfl;have this:scope.names.lookup x=some .cell:=this;rw[q] at this;cases this
 refine⟨⟨I.ok.mod,B.kind,I.ok.glob,I.ok.blt,bU _,λx y c a b=>?_,λx hx=>?_,λx c z q=>?_,I.ok.hd,I.ok.frames,.inl rfl,λb hb=>?_,I.bs,jo I.ok.Bf I.sz,λb o q hb=>?_,λb hb=>YS b (f b hb).2.1 (f b hb).2.2.1,I.stack,I.mU⟩,
  rfl,I.bare,Un.kept kp,⟨_,hn,λi x v e1 e2 e3=>?_⟩,λx c q=>?_,I.hok.fresh (bU _),λx c q=>?_,λp hp=>?_,I.hok.kept kp,hl⟩
 ·by_cases hc:s.heap.objs.size<c
  ·exact CN.d2 x y c hc a b
  ·rcases CN.d1 x c a with ⟨a1,_⟩|⟨_,a1,_⟩
   ·rcases CN.d1 y c b with ⟨b1,_⟩|⟨_,b1,_⟩
    ·exact I.ok.inj x y c (c1 x c a1) (c1 y c b1)
    ·exact absurd b1 hc
   ·exact absurd a1 hc
 ·have hx:(relabel scope X.env).names.lookup x=some .cell\/(relabel scope X.env).names.lookup x=some .free:=hx;have fr:scope.names.lookup x=some .cell\/scope.names.lookup x=some .free:=by
   rcases hx with hx|hx
   ·rcases RG hx with z|⟨_,z⟩
    ·exact .inl z
    ·exact .inr z
   ·rcases RG hx with z|⟨z,_⟩
    ·exact .inr z
    ·cases z
  rcases fr with fr|fr
  ·exact CN.d3 x fr
  ·obtain⟨c,hc⟩:=c2 (x,.free) (mem_of x _ fr) rfl;exact⟨c,CN.d4 x c (YT x fr) hc⟩
 ·rcases CN.d1 x c q with ⟨_,q1⟩|⟨_,q1,_⟩
  ·have z:(scope.names.lookup x==some NameKind.cell)=true:=z;exact absurd (mem_of x _ (by simpa using z)) q1
  ·exact wH q1
 ·obtain⟨o,q⟩:=fo b hb;refine⟨lt b o q,λx c z=>?_⟩;rcases CN.d1 x c z with ⟨q1,_⟩|⟨_,q1,_⟩
  ·exact(f b hb).2.2.2.2.1 x c (c1 x c q1)
  ·exact λe=>absurd (bY q) (by rw[<-e];exact DY.mpr (wH q1))
 ·obtain⟨_,_,_,z,_⟩:=f b hb;rcases z with z|z
  ·exact I.ok.Bg b o q z
  ·exact absurd (iY (bY q) (jo I.ok.Bf z)) (pD _)
 ·obtain⟨fr,j,hj,hv⟩:=hZ i x v e1 e2;have hk:=B.free (x,.free) (mem_of x _ fr) rfl;obtain⟨m,hm,hlk⟩:=I.loc;obtain⟨u,r,l⟩:=hlk j x v hj hv (hk.elim (λz=>.inr (.inl z)) λz=>.inr (.inr z));obtain⟨c',lq⟩:=c2 (x,.free) (mem_of x _ fr) rfl;have lq:cl.lookup x=some c':=lq;refine⟨u,r,.inr ⟨Mz fr,c',CN.d4 x c' (YT x fr) lq,?_⟩⟩;rcases l with ⟨k1,_⟩|⟨_,c,k2,oc,k3,k4⟩
  ·have k1:X.env.scope.names.lookup x=some .local:=k1;rcases hk with hk|hk
   ·have hk:X.env.scope.names.lookup x=some .cell:=hk;rw[k1] at hk;cases hk
   ·have hk:X.env.scope.names.lookup x=some .free:=hk;rw[k1] at hk;cases hk
  ·have e:=c1 x c' lq;rw[k2] at e;cases e;exact⟨oc,kp _ oc k3,k4⟩
 ·rcases CN.d1 x c q with ⟨q1,_⟩|⟨_,_,q1⟩
  ·obtain⟨v,o,q1,q2⟩:=I.cell x c (c1 x c q1);exact⟨v,o,kp c o q1,q2⟩
  ·exact⟨none,q1⟩
 ·rcases CN.d1 x c q with ⟨q1,_⟩|⟨_,q1,_⟩
  ·exact I.jq x c (c1 x c q1)
  ·exact I.hok.fresh (wH q1)
 ·have hp:p∈X.pn++ao:=by
   have z:p∈(X.pn++ao)++[]:=hp;simpa using z
  obtain⟨a1,a2,a3,a4,a5⟩:=I.pin p hp;exact⟨kp _ _ a1,a2,lt _ _ a1,YS _ a3 a4,a5⟩
theorem YW(I:Inv X ao Z H s)(f:∀b∈fp,fU X ao H b)(bM:Inv (X.blk scope cl N s.heap.objs.size s H fp ao) [] Z' H' s'):Inv X ao Z H' s':=
 I.call' (ch:=fp) bM.os bM.base bM.hok bM.bare λb hb=>by
  obtain⟨_,a2,_,a4,a5,a6⟩:=f b hb;exact⟨a4.imp id λz=>Gj z,a2,a5,a6⟩
theorem RN{Z':St}{H':Hp}{s':Shared}{h2:Heap}{C:Addr}(bM:Inv X ao Z H' s')(hC:X.s₀.heap.objs.size<=C)(n1:H' C=none)(n2:C≠X.env.locals)(n3:∀x c,X.env.cells.lookup x=some c->c≠C)(n4:∀p∈X.pn++ao,p.1≠C)
  (sb:Heap.SameBut C s'.heap h2):Inv X ao Z H' {s' with heap:=h2}:=
 bM.turned (t':=s'.toks) (λb o z q=>(sb.2 b z).trans q) n1 n2 (.inr hC) n3 n4
end
noncomputable abbrev jU(ifs:List Expr)(env:Env):Sem Bool:=forIn ifs true λc r=>if r=true then do let ok <-isTrue c env (eval c env);pure (ForInStep.yield ok) else pure (ForInStep.yield r)
theorem zhw{prog:Program}{w:World}{A:Around}{R:Result->Shared->Prop}{s:Shared}{elt target iter:Expr}{ifs:List Expr}{scope:Scope}{pos:Pos}{it acc:Value}{env:Env}(V:Nat->Shared->Prop)
  (turn:∀n s,V n s->wpAny (model prog w) A (pyNext it) (λr s₁=>match r with
   |none=>R (.ok .next) s₁
   |some v=>wpAny (model prog w) A (letOwnedTupleGo target it v) (λ_ s₂=>wpAny (model prog w) A (assign target env v) (λ_ s₃=>
     wpAny (model prog w) A (jU ifs env) (λok s₄=>
      if ok=true then wpAny (model prog w) A (eval elt env) (λx s₅=>wpAny (model prog w) A (call (.builtin "list.append") [acc,x]) (λ_ s₆=>∃m,m<n/\V m s₆) (λ_ _=>False) s₅) (λ_ _=>False) s₄
      else ∃m,m<n/\V m s₄) (λ_ _=>False) s₃) (λ_ _=>False) s₂) (λ_ _=>False) s₁) (λ_ _=>False) s)
  (n:Nat) (h:V n s):codeAny (model prog w) A (.compLoop (.ListComp elt [⟨target,iter,ifs,0⟩] scope pos) 0 it acc env) R s:=by
 refine codeAny_loop rfl V (λn s hV=>?_) n h;show wpAny _ A ((compTurn (.ListComp elt [⟨target,iter,ifs,0⟩] scope pos) 0 it acc env).onRaise (λx=>do noteFrame x env;theTreesLotGoes x)) _ _ s;refine wpAny_noted ?_;rw[compTurn_list];refine aB (vI (aB (gR (turn n s hV) (λr s₁ h₁=>?_) λ_ _ z=>z.elim)));cases r with
 |none=>exact aM h₁
 |some v=>
  refine aB (gR h₁ (λ_ s₂ h₂=>?_) λ_ _ z=>z.elim);refine aB (gR h₂ (λ_ s₃ h₃=>aB (gR h₃ (λok s₄ h₄=>?_) λ_ _ z=>z.elim)) λ_ _ z=>z.elim);cases ok with
  |true=>
   simp only[if_true] at h₄ ⊢;exact aB (aB (gR h₄ (λx s₅ h₅=>aB (gR h₅ (λ_ s₆ h₆=>aM (aM ⟨rfl,h₆⟩)) λ_ _ z=>z.elim)) λ_ _ z=>z.elim))
  |false=>
   simp only[vC,qC] at h₄ ⊢;exact aM ⟨rfl,h₄⟩
def Ep(X:Cx)(ifs:List Expr)(t:TT):Prop:=
 ∀(ao:List (Addr×Obj)) (s:Shared) (Z:St) (H:Hp) (Q:Bool->Hp->Prop),Inv X ao Z H s->t Z H Q->wpAny (model X.prog X.w) X.A (jU ifs X.env) (TP X ao Z Q) X.xe s
noncomputable def RP:TT:=λ_ H Q=>Q true H
theorem zkf:Ep X [] RP:=λ_ _ _ H _ I h=>wpAny_tests_nil ⟨H,I,h⟩
theorem zk8(h:PT X c t):Ep X [c] t:=λao s Z H Q I hq=>wpAny_tests_one (h ao s Z H Q I hq)
def Ik(ZY:St->St)(g:TG)(tt:TT)(te:TE)(bM:It)(Z:St)(H:Hp)(Q:VK):Prop:=∀D,H D=none->∃W:Nat->Nat->St->Hp->Prop,(∃m,W 0 m (ZY Z) (upd H D (.lst [])))/\∀i m Z' H',W i m Z' H'->
 (bM.stop i H'/\Q (.ref D) H')\/(bM.go i H'/\∃N:St->Hp->Prop,(∀Z2 H2,N Z2 H2->∃m',m'<m/\W (i+1) m' Z2 H2)/\∀x H2,bM.ud i H' x H2->g x Z' H2 λZ3 H3=>tt Z3 H3 λok H4=>
  if ok=true then te Z3 H4 λy H5=>∃ys,H5 D=some (.lst ys)/\ys.length<sizeLine/\N Z3 (upd H5 D (.lst (ys++[y]))) else N Z3 H4)
section
variable {X:Cx}{elt tg iter:Expr}{ifs:List Expr}{scope:Scope}{pos:Pos}{N:List Str}{ZY:St->St}{wi:TI}{g:TG}{tt:TT}{te:TE}
structure Parts(X:Cx)(elt tg:Expr)(ifs:List Expr)(scope:Scope)(N:List Str)(g:TG)(tt:TT)(te:TE):Prop where
 tgt:∀cl C s3 H3 fp ao,PG (X.blk scope cl N C s3 H3 fp ao) tg g
 Il:∀cl C s3 H3 fp ao,Ep (X.blk scope cl N C s3 H3 fp ao) ifs tt
 el:∀cl C s3 H3 fp ao,PE (X.blk scope cl N C s3 H3 fp ao) elt te
theorem YX(hc:X.aj=true)(B:cO X.env.scope scope)(P:Parts X elt tg ifs scope N g tt te)(hl:∀Z,(ZY Z).length=N.length)
  (hZ:∀(Z:St) (i:Nat) (x:Str) (v:V),N[i]?=some x->(ZY Z)[i]?=some (some v)->scope.names.lookup x=some .free/\∃j:Nat,X.N[j]?=some x/\Z[j]?=some (some v))
  {ao:List (Addr×Obj)} {s:Shared} {Z:St} {H:Hp} {Q:VK} {it:Addr} {fp:List Addr} {tn:Nat->Heap->Prop} {bM:It} (I:Inv X ao Z H s) (T:Turn X.prog X.w X.K tg bM fp it tn) (st:tn 0 s.heap) (f:∀b∈fp,fU X ao H b) (h:Ik ZY g tt te bM Z H Q)
  {cl:List (Str×Addr)} (c1:∀x c,cl.lookup x=some c->X.env.cells.lookup x=some c) (c2:∀x∈scope.names,x.2=.free->∃c,cl.lookup x.1=some c) {R:Value->Addr->Result->Shared->Prop} {E:Value->Shared->Prop}
  (k:∀D C s' H',Inv X ao Z H' s'->X.s₀.heap.objs.size<=C->H' C=none->C≠X.env.locals->(∀x c,X.env.cells.lookup x=some c->c≠C)->(∀p∈X.pn++ao,p.1≠C)->(∃m,s'.heap.Ns C m)->Q (.ref D) H'->R (.ref D) C (.ok .next) s') :
  wpAny (model X.prog X.w) X.A (newList []) (λacc s₃=>wpAny (model X.prog X.w) X.A (newFunctionEnv scope X.env.globals cl [] X.env.qual none .none (some X.env)) (λcenv s₄=>
   codeAny (model X.prog X.w) X.A (.compStart (.ListComp elt [⟨tg,iter,ifs,0⟩] scope pos) 0 (.ref it) acc {cenv with scope:=relabel scope X.env}) (R acc cenv.locals) s₄) E s₃) E s:=by
 refine pB ?_;have hD:H s.heap.objs.size=none:=I.hok.fresh (bU _);have I3:Inv X ao Z (upd H s.heap.objs.size (.lst [])) {s with heap:=s.heap.push {cls:=.type "list",dict:=none,data:=.seq ([]:List Value).toArray}}:=
  I.laid (t':=s.toks) (λb u q=>cU _ q) (bU _) ⟨wI _,[],0,.nil,fO _ rfl⟩
 have f3:∀b∈fp,fU X ao (upd H s.heap.objs.size (.lst [])) b:=λb hb=>by
  obtain⟨a1,a2⟩:=f b hb;obtain⟨o,q,_⟩:=T.obj 0 _ st b hb;exact⟨by rw[dD (dN (bY q))];exact a1,a2⟩
 have st3:tn 0 (s.heap.push {cls:=.type "list",dict:=none,data:=.seq ([]:List Value).toArray}):=T.keep _ _ _ st λb hb o q=>cU _ q;obtain⟨W,⟨m0,w0⟩,turn⟩:=h s.heap.objs.size hD;generalize RQ:({s with heap:=s.heap.push {cls:=.type "list",dict:=none,data:=.seq ([]:List Value).toArray}}:Shared)=s3 at *;have pW:tn 0 s3.heap:=by rw[<-RQ];exact st3
 generalize hH3:upd H s.heap.objs.size (.lst [])=H3 at *;refine YL (λx c q=>by obtain⟨v,o,q1,_⟩:=I3.cell x c (c1 x c q);exact bY q1) (λx y c a b=>I3.ok.inj x y c (c1 x c a) (c1 y c b)) λh1 fK hn kp CN=>?_;have BP:Inv (X.blk scope fK N s3.heap.objs.size s3 H3 fp ao) [] (ZY Z) H3 {s3 with heap:=h1}:=
  YQ (t:=s3.toks) I3 B c1 c2 f3 (λb hb=>let ⟨o,q,_⟩:=T.obj 0 _ pW b hb;⟨o,q⟩) hn kp CN (hl Z) (hZ Z)
 have Im:tn 0 h1:=T.keep _ _ _ pW λb hb o q=>kp b o q;have fY:∀{H':Hp},(∀b∈fp,H' b=none)->∀b∈fp,fU (X.blk scope fK N s3.heap.objs.size s3 H3 fp ao) [] H' b:=λ{H'} z b hb=>by
  obtain⟨a1,a2,a3,a4,a5,a6⟩:=f3 b hb;obtain⟨o,q,_⟩:=T.obj 0 _ pW b hb;refine⟨z b hb,dN (bY q),λy=>(gQ.mp (I3.jX b y)).elim a2 a3,.inl hb,λx c y=>?_,λp hp=>a6 p ?_⟩
  ·rcases CN.d1 x c y with ⟨q1,_⟩|⟨_,q1,_⟩
   ·exact a5 x c (c1 x c q1)
   ·exact λe=>absurd (bY q) (by rw[<-e];exact DY.mpr (wH q1))
  have y:p∈(X.pn++ao)++[]:=hp;simpa using y
 have loop:codeAny (model X.prog X.w) X.A (.compLoop (.ListComp elt [⟨tg,iter,ifs,0⟩] scope pos) 0 (.ref it) (.ref s.heap.objs.size) (compEnvC scope fK s3.heap.objs.size X.env)) (R (.ref s.heap.objs.size) s3.heap.objs.size) {s3 with heap:=h1}:=by
  refine zhw (λn s'=>∃i Z' H',Inv (X.blk scope fK N s3.heap.objs.size s3 H3 fp ao) [] Z' H' s'/\tn i s'.heap/\(∀b∈fp,H' b=none)/\W i n Z' H') ?_ m0 ⟨0,ZY Z,H3,BP,Im,λb hb=>(f3 b hb).1,w0⟩;rintro n s5 ⟨i,Z5,H5,jG,sY,vP,w5⟩;rcases turn i n Z5 H5 w5 with ⟨stop,q⟩|⟨go,Nx,hN,step⟩
  ·refine aW (T.done (X.blk scope fK N s3.heap.objs.size s3 H3 fp ao) rfl rfl rfl hc i [] s5 Z5 H5 _ jG (fY vP) sY stop) λr s6 ⟨hr,mZ⟩=>?_;subst hr;have JX:=YW I3 f3 mZ;refine k s.heap.objs.size s3.heap.objs.size s6 H5 JX I3.sz mZ.free (vJ I3.lt) (λx c y z=>?_) (λp hp z=>?_) ?_ q
   ·obtain⟨v,qc⟩:=I3.cell x c y;exact absurd qc.lt (by rw[z];exact pD _)
   ·exact absurd (bY (I3.pin p hp).1) (by rw[z];exact pD _)
   ·obtain⟨m,hm,_⟩:=mZ.loc;exact⟨m,hm⟩
  ·refine aW (T.item (X.blk scope fK N s3.heap.objs.size s3 H3 fp ao) rfl rfl rfl hc i [] s5 Z5 H5 _ jG (fY vP) sY go) λr s6 hx=>wJ hx λu hr h6=>?_;subst hr;refine aW h6 λ_ s7 ⟨x,H7,uh,r7,y7,uo,Io⟩=>?_;have oE:=uh.pinned (fY Io) (T.obj _ _ uo);refine aW (P.tgt fK s3.heap.objs.size s3 H3 fp ao _ s7 Z5 H7 x u _ oE r7 (step x H7 y7)) λ_ s8 ⟨Z8,H8,uq,q8⟩=>?_;refine aW (P.Il fK s3.heap.objs.size s3 H3 fp ao _ s8 Z8 H8 _ uq q8) λok s9 hx=>wJ hx λH9 ur q9=>?_;have again:∀{H':Hp} {s':Shared},Inv (X.blk scope fK N s3.heap.objs.size s3 H3 fp ao) ([]++jg fp s7.heap) Z8 H' s'->Nx Z8 H'->∃m,m<n/\∃i Z' H',Inv (X.blk scope fK N s3.heap.objs.size s3 H3 fp ao) [] Z' H' s'/\tn i s'.heap/\(∀b∈fp,H' b=none)/\W i m Z' H':=λ{H' s'} f9 n'=>by
    obtain⟨m',hm,w'⟩:=hN Z8 H' n';refine⟨m',hm,i+1,Z8,H',f9.eO,T.keep _ _ _ uo λb hb o e=>(f9.pin (b,o) (mH _ (mH _ (yW hb e)))).1,λb hb=>?_,w'⟩;obtain⟨o,e,d⟩:=T.obj _ _ uo b hb;exact(f9.pin (b,o) (mH _ (mH _ (yW hb e)))).2.1
   cases ok with
   |false=>
    rw[if_neg (by decide)] at q9 ⊢;exact again ur q9
   |true=>
    rw[if_pos rfl] at q9 ⊢;refine aW (P.el fK s3.heap.objs.size s3 H3 fp ao _ s9 Z8 H9 _ ur q9) λv MF ⟨y,RT,uw,r10,ys,BR,hz,RV⟩=>?_;refine aW (Rt (X:=(X.blk scope fK N s3.heap.objs.size s3 H3 fp ao)) _ MF Z8 RT (.ref s.heap.objs.size) [y] (.ref s.heap.objs.size) [v] (λ_ H'=>Nx Z8 H') uw rfl (.cons r10 .nil) ⟨s.heap.objs.size,ys,y,rfl,rfl,BR,hz,RV⟩) λ_ YZ hx=>fG hx λ_ Y0 oF _ RW=>again oF RW
 exact codeAny_compStart_list loop (T.self _ 0 _ _ _ Im loop)
end
noncomputable def ux(wi:TI)(ZY:St->St)(g:TG)(tt:TT)(te:TE):TE:=λZ H Q=>wi Z H λbM H1=>Ik ZY g tt te bM Z H1 Q
section
variable {X:Cx}{elt tg iter:Expr}{ifs:List Expr}{scope:Scope}{pos spos py:Pos}{N:List Str}{ZY:St->St}{wi:TI}{g:TG}{tt:TT}{te:TE}{i:Nat}{y:Str}
theorem RX(I:Inv X ao Z H s)(B:cO X.env.scope scope):∃cl,closureFor scope X.env=pure cl/\(∀x c,cl.lookup x=some c->X.env.cells.lookup x=some c)/\∀x∈scope.names,x.2=.free->∃c,cl.lookup x.1=some c:=
 zfI λx hx hf=>I.ok.has x.1 (B.free x hx hf)
theorem zkk(hc:X.aj=true)(B:cO X.env.scope scope)(hi:PI X tg iter wi)(P:Parts X elt tg ifs scope N g tt te)(hl:∀Z,(ZY Z).length=N.length)
  (hZ:∀(Z:St) (i:Nat) (x:Str) (v:V),N[i]?=some x->(ZY Z)[i]?=some (some v)->scope.names.lookup x=some .free/\∃j:Nat,X.N[j]?=some x/\Z[j]?=some (some v))
  (hs:∀x,foldedSetIterable iter X.env x=pure x:=by intro _;rfl):PE X (.ListComp elt [⟨tg,iter,ifs,0⟩] scope pos) (ux wi ZY g tt te):=by
 intro ao s Z H Q I h;obtain⟨cl,yZ,c1,c2⟩:=RX I B;rw[eval_ListComp];refine PB (use:=none) rfl hs yZ B.kind B.loc (aW (hi ao s Z H _ I h) λxv s1 h1=>aW h1 λitv s2 h2=>?_);obtain⟨it,fp,tn,bM,H2,e,I2,T,st2,f2,hq⟩:=h2;subst e;exact YX hc B P hl hZ I2 T st2 f2 hq c1 c2 (R:=λacc C=>compPost (model X.prog X.w) X.A X.xe none (EP X ao Z Q) acc C) λD C s' H' f9 a b c d e ⟨m,hm⟩ q=>⟨m,hm,λh' sb=>⟨.ref D,H',RN (Z':=Z) f9 a b c d e sb,rfl,q⟩⟩
theorem zfV(hc:X.aj=true)(hN:X.N.Nodup)(qN:X.N[i]?=some y)(hx:Loc X.env.scope y)(hf:X.fn y=true\/X.env.scope.names.lookup y=some .local)(B:cO X.env.scope scope)(hi:PI X tg iter wi)(P:Parts X elt tg ifs scope N g tt te)(hl:∀Z,(ZY Z).length=N.length)
  (hZ:∀(Z:St) (i:Nat) (x:Str) (v:V),N[i]?=some x->(ZY Z)[i]?=some (some v)->scope.names.lookup x=some .free/\∃j:Nat,X.N[j]?=some x/\Z[j]?=some (some v))
  (uy:swapsWith (.ListComp elt [⟨tg,iter,ifs,0⟩] scope pos) (some (.Name y py)) spos.line X.env=pure true) (hs:∀x,foldedSetIterable iter X.env x=pure x:=by intro _;rfl) :
  PS X (.Assign [.Name y py] (.ListComp elt [⟨tg,iter,ifs,0⟩] scope pos) spos) (wM (ux wi ZY g tt te) (dW i)):=by
 intro ao s Z H D I h;obtain⟨cl,yZ,c1,c2⟩:=RX I B;rw[exec_Assign_Name_used _ _ _ _ uy];refine aB (vI (aB ?_));show wpAny _ X.A (do let _ <-comprehension (.ListComp elt [⟨tg,iter,ifs,0⟩] scope pos) scope X.env _ (newList []) false (eval iter X.env) (some (assign (.Name y py) X.env))) _ _ s;refine aB (PB (use:=some (assign (.Name y py) X.env)) rfl hs yZ B.kind B.loc (aW (hi ao s Z H _ I h) λxv s1 h1=>aW h1 λitv s2 h2=>?_));obtain⟨it,fp,tn,bM,H2,e,I2,T,st2,f2,hq⟩:=h2;subst e;refine YX hc B P hl hZ I2 T st2 f2 hq c1 c2 (R:=λacc C=>compPost (model X.prog X.w) X.A X.xe (some (assign (.Name y py) X.env)) _ acc C) λD' C s' H' f9 a b c d e ⟨m,hm⟩ q=>?_;show wpAny _ _ (assign (.Name y py) X.env (.ref D')) _ _ s';refine wpAny_assign_Name (Qu (v:=.ref D') f9 hN qN hx rfl (λs5 jG ⟨ad,sb,RZ⟩=>?_) hf);have nC:C≠ad:=by
  rcases RZ with z|z
  ·rw[z];exact c
  ·exact(d y ad z).symm
 obtain⟨ol,es,ep,e1,r1⟩:=hm;refine⟨m,⟨ol,es,ep,(sb.2 C nC).trans e1,r1⟩,λh' R0=>aM (aM ⟨_,H',RN (Z':=Z) jG a b c d e R0,q⟩)⟩
end
theorem zep(elt target iter:Expr)(ifs:List Expr)(g₁:Comprehension)(scope:Scope)(pos:Pos)(it acc:Value)(env:Env) :
  compTurn (.ListComp elt [g₁,⟨target,iter,ifs,0⟩] scope pos) 1 it acc env=(do
   standAt iter.pos
   match <-pyNext it with
   |none=>pure (.done .next)
   |some v=>
    letOwnedTupleGo target it v
    assign target env v
    let mut ok:=true
    for c in ifs do
     if ok then ok <-isTrue c env (eval c env)
    if ok then
     (do let _ <-call (.builtin "list.append") [acc,<-eval elt env])
    again (.compLoop (.ListComp elt [g₁,⟨target,iter,ifs,0⟩] scope pos) 1 it acc env)):=by rfl
theorem zdL(elt target iter target₂ iter₂:Expr)(ifs ifs₂:List Expr)(scope:Scope)(pos:Pos)(it acc:Value)(env:Env) :
  compTurn (.ListComp elt [⟨target,iter,ifs,0⟩,⟨target₂,iter₂,ifs₂,0⟩] scope pos) 0 it acc env=(do
   standAt iter.pos
   match <-pyNext it with
   |none=>pure (.done .next)
   |some v=>
    letOwnedTupleGo target it v
    assign target env v
    let mut ok:=true
    for c in ifs do
     if ok then ok <-isTrue c env (eval c env)
    if ok then
     let x <-eval iter₂ env
     standAt iter₂.pos
     let x <-foldedSetIterable iter₂ env x
     let _ <-runOwn (.compStart (.ListComp elt [⟨target,iter,ifs,0⟩,⟨target₂,iter₂,ifs₂,0⟩] scope pos) 1 (<-holding [x] (pyIter x)) acc env) env
     again (.compLoop (.ListComp elt [⟨target,iter,ifs,0⟩,⟨target₂,iter₂,ifs₂,0⟩] scope pos) 0 it acc env)
    else
     again (.compLoop (.ListComp elt [⟨target,iter,ifs,0⟩,⟨target₂,iter₂,ifs₂,0⟩] scope pos) 0 it acc env)):=by rfl
theorem zj0(V:Nat->Shared->Prop)
  (turn:∀n s,V n s->wpAny (model prog w) A (pyNext it) (λr s₁=>match r with
   |none=>R (.ok .next) s₁
   |some v=>wpAny (model prog w) A (letOwnedTupleGo target it v) (λ_ s₂=>wpAny (model prog w) A (assign target env v) (λ_ s₃=>
     wpAny (model prog w) A (jU ifs env) (λok s₄=>
      if ok=true then wpAny (model prog w) A (eval elt env) (λx s₅=>wpAny (model prog w) A (call (.builtin "list.append") [acc,x]) (λ_ s₆=>∃m,m<n/\V m s₆) (λ_ _=>False) s₅) (λ_ _=>False) s₄
      else ∃m,m<n/\V m s₄) (λ_ _=>False) s₃) (λ_ _=>False) s₂) (λ_ _=>False) s₁) (λ_ _=>False) s)
  (n:Nat) (h:V n s):codeAny (model prog w) A (.compLoop (.ListComp elt [g₁,⟨target,iter,ifs,0⟩] scope pos) 1 it acc env) R s:=by
 refine codeAny_loop rfl V (λn s hV=>?_) n h;show wpAny _ A ((compTurn (.ListComp elt [g₁,⟨target,iter,ifs,0⟩] scope pos) 1 it acc env).onRaise (λx=>do noteFrame x env;theTreesLotGoes x)) _ _ s;refine wpAny_noted ?_;rw[zep];refine aB (vI (aB (gR (turn n s hV) (λr s₁ h₁=>?_) λ_ _ z=>z.elim)));cases r with
 |none=>exact aM h₁
 |some v=>
  refine aB (gR h₁ (λ_ s₂ h₂=>?_) λ_ _ z=>z.elim);refine aB (gR h₂ (λ_ s₃ h₃=>aB (gR h₃ (λok s₄ h₄=>?_) λ_ _ z=>z.elim)) λ_ _ z=>z.elim);cases ok with
  |true=>
   simp only[if_true] at h₄ ⊢;exact aB (aB (gR h₄ (λx s₅ h₅=>aB (gR h₅ (λ_ s₆ h₆=>aM (aM ⟨rfl,h₆⟩)) λ_ _ z=>z.elim)) λ_ _ z=>z.elim))
  |false=>
   simp only[vC,qC] at h₄ ⊢;exact aM ⟨rfl,h₄⟩
theorem ziQ{prog:Program}{w:World}{A:Around}{R:Result->Shared->Prop}{s:Shared}{elt target iter target₂ iter₂:Expr}{ifs ifs₂:List Expr}{scope:Scope}{pos:Pos}{it acc:Value}{env:Env}(V:Nat->Shared->Prop)(hs:∀x,foldedSetIterable iter₂ env x=pure x)
  (turn:∀n s,V n s->wpAny (model prog w) A (pyNext it) (λr s₁=>match r with
   |none=>R (.ok .next) s₁
   |some v=>wpAny (model prog w) A (letOwnedTupleGo target it v) (λ_ s₂=>wpAny (model prog w) A (assign target env v) (λ_ s₃=>
     wpAny (model prog w) A (jU ifs env) (λok s₄=>
      if ok=true then wpAny (model prog w) A (eval iter₂ env) (λx s₅=>wpAny (model prog w) A (pyIter x) (λit₂ s₆=>codeAny (model prog w) A (.compStart (.ListComp elt [⟨target,iter,ifs,0⟩,⟨target₂,iter₂,ifs₂,0⟩] scope pos) 1 it₂ acc env) (λr s₇=>r=.ok .next/\∃m,m<n/\V m s₇) s₆) (λ_ _=>False) s₅) (λ_ _=>False) s₄
      else ∃m,m<n/\V m s₄) (λ_ _=>False) s₃) (λ_ _=>False) s₂) (λ_ _=>False) s₁) (λ_ _=>False) s)
  (n:Nat) (h:V n s):codeAny (model prog w) A (.compLoop (.ListComp elt [⟨target,iter,ifs,0⟩,⟨target₂,iter₂,ifs₂,0⟩] scope pos) 0 it acc env) R s:=by
 refine codeAny_loop rfl V (λn s hV=>?_) n h;show wpAny _ A ((compTurn (.ListComp elt [⟨target,iter,ifs,0⟩,⟨target₂,iter₂,ifs₂,0⟩] scope pos) 0 it acc env).onRaise (λx=>do noteFrame x env;theTreesLotGoes x)) _ _ s;refine wpAny_noted ?_;rw[zdL];refine aB (vI (aB (gR (turn n s hV) (λr s₁ h₁=>?_) λ_ _ z=>z.elim)));cases r with
 |none=>exact aM h₁
 |some v=>
  refine aB (gR h₁ (λ_ s₂ h₂=>?_) λ_ _ z=>z.elim);refine aB (gR h₂ (λ_ s₃ h₃=>aB (gR h₃ (λok s₄ h₄=>?_) λ_ _ z=>z.elim)) λ_ _ z=>z.elim);cases ok with
  |true=>
   simp only[if_true] at h₄ ⊢;refine aB (gR h₄ (λx s₅ h₅=>aB (vI (aB (DX (hs x) (aB (qz (gR h₅ (λit₂ s₆ h₆=>aB (wpAny_runOwn (Aq h₆ λr s₇ h₇=>?_))) λ_ _ z=>z.elim))))))) λ_ _ z=>z.elim);obtain⟨rfl,h₇⟩:=h₇;exact aM ⟨rfl,h₇⟩
  |false=>
   simp only[vC,qC] at h₄ ⊢;exact aM ⟨rfl,h₄⟩
theorem za6
  (h0:codeAny (model prog w) A (.compLoop (.ListComp elt [g₁,⟨target,iter,ifs,0⟩] scope pos) 1 it acc env) R s)
  (h:wpAny (model prog w) A (pyIter it) (λit' s'=>codeAny (model prog w) A (.compLoop (.ListComp elt [g₁,⟨target,iter,ifs,0⟩] scope pos) 1 it' acc env) R s') (λ_ _=>False) s) :
  codeAny (model prog w) A (.compStart (.ListComp elt [g₁,⟨target,iter,ifs,0⟩] scope pos) 1 it acc env) R s:=by
 refine codeAny_of_tree ?_;show wpAny _ _ ((compStart (.ListComp elt [g₁,⟨target,iter,ifs,0⟩] scope pos) 1 it acc env).onRaise (λx=>do noteFrame x env;standAt theWindowsPlace)) _ _ s;refine wpAny_notedAt ?_;unfold compStart;show wpAny _ _ (ask >>= _) _ _ s;refine aB (wpAny_askSetting (wpAny_ite ?_))
 split
 ·first
   |exact aB (aM (aM (And.intro rfl h0)))
   |exact aM (And.intro rfl h0)
 ·first
   |exact aB (Aw (aB (vI (aB (gR h (λit' s' h'=>aM (And.intro rfl h')) λ_ _ x=>x.elim)))))
   |(refine aB (Aw ?_);show wpAny _ _ (standAt iter.pos >>= _) _ _ s;exact aB (vI (aB (gR h (λit' s' h'=>aM (And.intro rfl h')) λ_ _ x=>x.elim))))
def R3(g:TG)(tt:TT)(te:TE)(D:Addr)(bM:It)(Z:St)(H:Hp)(Nx:St->Hp->Prop):Prop:=∃W:Nat->Nat->St->Hp->Prop,(∃m,W 0 m Z H)/\∀i m Z' H',W i m Z' H'->
 (bM.stop i H'/\Nx Z' H')\/(bM.go i H'/\∃N:St->Hp->Prop,(∀Z2 H2,N Z2 H2->∃m',m'<m/\W (i+1) m' Z2 H2)/\∀x H2,bM.ud i H' x H2->g x Z' H2 λZ3 H3=>tt Z3 H3 λok H4=>
  if ok=true then te Z3 H4 λy H5=>∃ys,H5 D=some (.lst ys)/\ys.length<sizeLine/\N Z3 (upd H5 D (.lst (ys++[y]))) else N Z3 H4)
theorem zkY{Y:Cx}{elt tg iter:Expr}{ifs:List Expr}{g₁:Comprehension}{scope:Scope}{pos:Pos}{g:TG}{tt:TT}{te:TE}(hc:Y.aj=true)(MJ:Y.xe=λ_ _=>False)(tgt:PG Y tg g)(Il:Ep Y ifs tt)(el:PE Y elt te)
  {ao:List (Addr×Obj)} {s:Shared} {Z:St} {H:Hp} {D it:Addr} {fp:List Addr} {tn:Nat->Heap->Prop} {bM:It} {Nx:St->Hp->Prop} (I:Inv Y ao Z H s) (T:Turn Y.prog Y.w Y.K tg bM fp it tn) (st:tn 0 s.heap) (f:∀b∈fp,fU Y ao H b) (h:R3 g tt te D bM Z H Nx)
  {R:Result->Shared->Prop} (k:∀s' Z' H',Inv Y ao Z' H' s'->Nx Z' H'->R (.ok .next) s') :
  codeAny (model Y.prog Y.w) Y.A (.compStart (.ListComp elt [g₁,⟨tg,iter,ifs,0⟩] scope pos) 1 (.ref it) (.ref D) Y.env) R s:=by
 obtain⟨W,⟨m0,w0⟩,turn⟩:=h;have fY:∀{H':Hp},(∀b∈fp,H' b=none)->∀b∈fp,fU Y ao H' b:=λ{H'} z b hb=>⟨z b hb,(f b hb).2⟩;have loop:codeAny (model Y.prog Y.w) Y.A (.compLoop (.ListComp elt [g₁,⟨tg,iter,ifs,0⟩] scope pos) 1 (.ref it) (.ref D) Y.env) R s:=by
  refine zj0 (λn s'=>∃i Z' H',Inv Y ao Z' H' s'/\tn i s'.heap/\(∀b∈fp,H' b=none)/\W i n Z' H') ?_ m0 ⟨0,Z,H,I,st,λb hb=>(f b hb).1,w0⟩;rintro n s5 ⟨i,Z5,H5,jG,sY,vP,w5⟩;rcases turn i n Z5 H5 w5 with ⟨stop,q⟩|⟨go,Nn,hN,step⟩
  ·refine aW (T.done Y rfl rfl rfl hc i ao s5 Z5 H5 _ jG (fY vP) sY stop) λr s6 ⟨hr,mZ⟩=>?_;subst hr;exact k s6 Z5 H5 mZ q
  ·refine aW (T.item Y rfl rfl rfl hc i ao s5 Z5 H5 _ jG (fY vP) sY go) λr s6 ⟨u,hr,h6⟩=>?_;subst hr;refine aW h6 λ_ s7 ⟨x,H7,uh,r7,y7,uo,Io⟩=>?_;have oE:=uh.pinned (fY Io) (T.obj _ _ uo);have a1:=tgt _ s7 Z5 H7 x u _ oE r7 (step x H7 y7);rw[MJ] at a1;refine aW a1 λ_ s8 ⟨Z8,H8,uq,q8⟩=>?_;have a2:=Il _ s8 Z8 H8 _ uq q8;rw[MJ] at a2;refine aW a2 λok s9 ⟨H9,ur,q9⟩=>?_;have again:∀{H':Hp} {s':Shared},Inv Y (ao++jg fp s7.heap) Z8 H' s'->Nn Z8 H'->∃m,m<n/\∃i Z' H',Inv Y ao Z' H' s'/\tn i s'.heap/\(∀b∈fp,H' b=none)/\W i m Z' H':=λ{H' s'} f9 n'=>by
    obtain⟨m',hm,w'⟩:=hN Z8 H' n';refine⟨m',hm,i+1,Z8,H',f9.eO,T.keep _ _ _ uo λb hb o e=>(f9.pin (b,o) (mH _ (mH _ (yW hb e)))).1,λb hb=>?_,w'⟩;obtain⟨o,e,d⟩:=T.obj _ _ uo b hb;exact(f9.pin (b,o) (mH _ (mH _ (yW hb e)))).2.1
   cases ok with
   |false=>
    rw[if_neg (by decide)] at q9 ⊢;exact again ur q9
   |true=>
    rw[if_pos rfl] at q9 ⊢;have a3:=el _ s9 Z8 H9 _ ur q9;rw[MJ] at a3;refine aW a3 λv MF ⟨y,RT,uw,r10,ys,BR,hz,RV⟩=>?_;have a4:=Rt (X:=Y) _ MF Z8 RT (.ref D) [y] (.ref D) [v] (λ_ H'=>Nn Z8 H') uw rfl (.cons r10 .nil) ⟨D,ys,y,rfl,rfl,BR,hz,RV⟩;rw[MJ] at a4;exact aW a4 λ_ YZ ⟨_,Y0,oF,_,RW⟩=>again oF RW
 exact za6 loop (T.self _ 0 _ _ _ st loop)
def zc(ZY:St->St)(g₁:TG)(wi₂:TI)(g:TG)(tt:TT)(te:TE)(bM:It)(Z:St)(H:Hp)(Q:VK):Prop:=∀D,H D=none->∃W:Nat->Nat->St->Hp->Prop,(∃m,W 0 m (ZY Z) (upd H D (.lst [])))/\∀i m Z' H',W i m Z' H'->
 (bM.stop i H'/\Q (.ref D) H')\/(bM.go i H'/\∃N:St->Hp->Prop,(∀Z2 H2,N Z2 H2->∃m',m'<m/\W (i+1) m' Z2 H2)/\∀x H2,bM.ud i H' x H2->g₁ x Z' H2 λZ3 H3=>wi₂ Z3 H3 λbM₂ H5=>R3 g tt te D bM₂ Z3 H5 N)
section
variable {X:Cx}{elt tg iter tg₂ iter₂:Expr}{ifs₂:List Expr}{scope:Scope}{pos spos py:Pos}{N:List Str}{ZY:St->St}{wi wi₂:TI}{g g₁:TG}{tt:TT}{te:TE}{i:Nat}{y:Str}
structure pX(X:Cx)(elt tg tg₂ iter₂:Expr)(ifs₂:List Expr)(scope:Scope)(N:List Str)(g₁:TG)(wi₂:TI)(g:TG)(tt:TT)(te:TE):Prop where
 tgt₁:∀cl C s3 H3 fp ao,PG (X.blk scope cl N C s3 H3 fp ao) tg g₁
 it:∀cl C s3 H3 fp ao,PI (X.blk scope cl N C s3 H3 fp ao) tg₂ iter₂ wi₂
 tgt:∀cl C s3 H3 fp ao,PG (X.blk scope cl N C s3 H3 fp ao) tg₂ g
 Il:∀cl C s3 H3 fp ao,Ep (X.blk scope cl N C s3 H3 fp ao) ifs₂ tt
 el:∀cl C s3 H3 fp ao,PE (X.blk scope cl N C s3 H3 fp ao) elt te
theorem zfH(hc:X.aj=true)(B:cO X.env.scope scope)(P:pX X elt tg tg₂ iter₂ ifs₂ scope N g₁ wi₂ g tt te)(hs₂:∀env x,foldedSetIterable iter₂ env x=pure x)(hl:∀Z,(ZY Z).length=N.length)
  (hZ:∀(Z:St) (i:Nat) (x:Str) (v:V),N[i]?=some x->(ZY Z)[i]?=some (some v)->scope.names.lookup x=some .free/\∃j:Nat,X.N[j]?=some x/\Z[j]?=some (some v))
  {ao:List (Addr×Obj)} {s:Shared} {Z:St} {H:Hp} {Q:VK} {it:Addr} {fp:List Addr} {tn:Nat->Heap->Prop} {bM:It} (I:Inv X ao Z H s) (T:Turn X.prog X.w X.K tg bM fp it tn) (st:tn 0 s.heap) (f:∀b∈fp,fU X ao H b) (h:zc ZY g₁ wi₂ g tt te bM Z H Q)
  {cl:List (Str×Addr)} (c1:∀x c,cl.lookup x=some c->X.env.cells.lookup x=some c) (c2:∀x∈scope.names,x.2=.free->∃c,cl.lookup x.1=some c) {R:Value->Addr->Result->Shared->Prop} {E:Value->Shared->Prop}
  (k:∀D C s' H',Inv X ao Z H' s'->X.s₀.heap.objs.size<=C->H' C=none->C≠X.env.locals->(∀x c,X.env.cells.lookup x=some c->c≠C)->(∀p∈X.pn++ao,p.1≠C)->(∃m,s'.heap.Ns C m)->Q (.ref D) H'->R (.ref D) C (.ok .next) s') :
  wpAny (model X.prog X.w) X.A (newList []) (λacc s₃=>wpAny (model X.prog X.w) X.A (newFunctionEnv scope X.env.globals cl [] X.env.qual none .none (some X.env)) (λcenv s₄=>
   codeAny (model X.prog X.w) X.A (.compStart (.ListComp elt [⟨tg,iter,[],0⟩,⟨tg₂,iter₂,ifs₂,0⟩] scope pos) 0 (.ref it) acc {cenv with scope:=relabel scope X.env}) (R acc cenv.locals) s₄) E s₃) E s:=by
 refine pB ?_;have hD:H s.heap.objs.size=none:=I.hok.fresh (bU _);have I3:Inv X ao Z (upd H s.heap.objs.size (.lst [])) {s with heap:=s.heap.push {cls:=.type "list",dict:=none,data:=.seq ([]:List Value).toArray}}:=
  I.laid (t':=s.toks) (λb u q=>cU _ q) (bU _) ⟨wI _,[],0,.nil,fO _ rfl⟩
 have f3:∀b∈fp,fU X ao (upd H s.heap.objs.size (.lst [])) b:=λb hb=>by
  obtain⟨a1,a2⟩:=f b hb;obtain⟨o,q,_⟩:=T.obj 0 _ st b hb;exact⟨by rw[dD (dN (bY q))];exact a1,a2⟩
 have st3:tn 0 (s.heap.push {cls:=.type "list",dict:=none,data:=.seq ([]:List Value).toArray}):=T.keep _ _ _ st λb hb o q=>cU _ q;obtain⟨W,⟨m0,w0⟩,turn⟩:=h s.heap.objs.size hD;generalize RQ:({s with heap:=s.heap.push {cls:=.type "list",dict:=none,data:=.seq ([]:List Value).toArray}}:Shared)=s3 at *;have pW:tn 0 s3.heap:=by rw[<-RQ];exact st3
 generalize hH3:upd H s.heap.objs.size (.lst [])=H3 at *;refine YL (λx c q=>by obtain⟨v,o,q1,_⟩:=I3.cell x c (c1 x c q);exact bY q1) (λx y c a b=>I3.ok.inj x y c (c1 x c a) (c1 y c b)) λh1 fK hn kp CN=>?_;have BP:Inv (X.blk scope fK N s3.heap.objs.size s3 H3 fp ao) [] (ZY Z) H3 {s3 with heap:=h1}:=
  YQ (t:=s3.toks) I3 B c1 c2 f3 (λb hb=>let ⟨o,q,_⟩:=T.obj 0 _ pW b hb;⟨o,q⟩) hn kp CN (hl Z) (hZ Z)
 have Im:tn 0 h1:=T.keep _ _ _ pW λb hb o q=>kp b o q;have fY:∀{H':Hp},(∀b∈fp,H' b=none)->∀b∈fp,fU (X.blk scope fK N s3.heap.objs.size s3 H3 fp ao) [] H' b:=λ{H'} z b hb=>by
  obtain⟨a1,a2,a3,a4,a5,a6⟩:=f3 b hb;obtain⟨o,q,_⟩:=T.obj 0 _ pW b hb;refine⟨z b hb,dN (bY q),λy=>(gQ.mp (I3.jX b y)).elim a2 a3,.inl hb,λx c y=>?_,λp hp=>a6 p ?_⟩
  ·rcases CN.d1 x c y with ⟨q1,_⟩|⟨_,q1,_⟩
   ·exact a5 x c (c1 x c q1)
   ·exact λe=>absurd (bY q) (by rw[<-e];exact DY.mpr (wH q1))
  have y:p∈(X.pn++ao)++[]:=hp;simpa using y
 have loop:codeAny (model X.prog X.w) X.A (.compLoop (.ListComp elt [⟨tg,iter,[],0⟩,⟨tg₂,iter₂,ifs₂,0⟩] scope pos) 0 (.ref it) (.ref s.heap.objs.size) (compEnvC scope fK s3.heap.objs.size X.env)) (R (.ref s.heap.objs.size) s3.heap.objs.size) {s3 with heap:=h1}:=by
  refine ziQ (λn s'=>∃i Z' H',Inv (X.blk scope fK N s3.heap.objs.size s3 H3 fp ao) [] Z' H' s'/\tn i s'.heap/\(∀b∈fp,H' b=none)/\W i n Z' H') (hs₂ _) ?_ m0 ⟨0,ZY Z,H3,BP,Im,λb hb=>(f3 b hb).1,w0⟩;rintro n s5 ⟨i,Z5,H5,jG,sY,vP,w5⟩;rcases turn i n Z5 H5 w5 with ⟨stop,q⟩|⟨go,Nx,hN,step⟩
  ·refine aW (T.done (X.blk scope fK N s3.heap.objs.size s3 H3 fp ao) rfl rfl rfl hc i [] s5 Z5 H5 _ jG (fY vP) sY stop) λr s6 ⟨hr,mZ⟩=>?_;subst hr;have JX:=YW I3 f3 mZ;refine k s.heap.objs.size s3.heap.objs.size s6 H5 JX I3.sz mZ.free (vJ I3.lt) (λx c y z=>?_) (λp hp z=>?_) ?_ q
   ·obtain⟨v,qc⟩:=I3.cell x c y;exact absurd qc.lt (by rw[z];exact pD _)
   ·exact absurd (bY (I3.pin p hp).1) (by rw[z];exact pD _)
   ·obtain⟨m,hm,_⟩:=mZ.loc;exact⟨m,hm⟩
  ·refine aW (T.item (X.blk scope fK N s3.heap.objs.size s3 H3 fp ao) rfl rfl rfl hc i [] s5 Z5 H5 _ jG (fY vP) sY go) λr s6 ⟨u,hr,h6⟩=>?_;subst hr;refine aW h6 λ_ s7 ⟨x,H7,uh,r7,y7,uo,Io⟩=>?_;have oE:=uh.pinned (fY Io) (T.obj _ _ uo);refine aW (P.tgt₁ fK s3.heap.objs.size s3 H3 fp ao _ s7 Z5 H7 x u _ oE r7 (step x H7 y7)) λ_ s8 ⟨Z8,H8,uq,q8⟩=>?_;refine aW (wpAny_tests_nil (env:=compEnvC scope fK s3.heap.objs.size X.env) (Q:=λok s'=>ok=true/\s'=s8) ⟨rfl,rfl⟩) λok s9 ⟨e9,e9'⟩=>?_;subst e9 e9';rw[if_pos rfl];refine aW (P.it fK s3.heap.objs.size s3 H3 fp ao _ s9 Z8 H8 _ uq q8) λxv MF h10=>aW h10 λitv YZ h11=>?_;obtain⟨it₂,fp₂,tn₂,bM₂,Y0,e11,oF,T₂,st₂,f₂,hq⟩:=h11;subst e11;refine zkY (Y:=X.blk scope fK N s3.heap.objs.size s3 H3 fp ao) hc rfl (P.tgt fK s3.heap.objs.size s3 H3 fp ao) (P.Il fK s3.heap.objs.size s3 H3 fp ao) (P.el fK s3.heap.objs.size s3 H3 fp ao) oF T₂ st₂ f₂ hq λs' Z' H' f9 n'=>⟨rfl,?_⟩;obtain⟨m',hm,w'⟩:=hN Z' H' n';refine⟨m',hm,i+1,Z',H',f9.eO,T.keep _ _ _ uo λb hb o e=>(f9.pin (b,o) (mH _ (mH _ (yW hb e)))).1,λb hb=>?_,w'⟩;obtain⟨o,e,d⟩:=T.obj _ _ uo b hb;exact(f9.pin (b,o) (mH _ (mH _ (yW hb e)))).2.1
 exact codeAny_compStart_list loop (T.self _ 0 _ _ _ Im loop)
noncomputable def uz(wi:TI)(ZY:St->St)(g₁:TG)(wi₂:TI)(g:TG)(tt:TT)(te:TE):TE:=λZ H Q=>wi Z H λbM H1=>zc ZY g₁ wi₂ g tt te bM Z H1 Q
theorem zes(hc:X.aj=true)(hN:X.N.Nodup)(qN:X.N[i]?=some y)(hx:Loc X.env.scope y)(hf:X.fn y=true\/X.env.scope.names.lookup y=some .local)(B:cO X.env.scope scope)(hi:PI X tg iter wi)(P:pX X elt tg tg₂ iter₂ ifs₂ scope N g₁ wi₂ g tt te)(hs₂:∀env x,foldedSetIterable iter₂ env x=pure x)(hl:∀Z,(ZY Z).length=N.length)
  (hZ:∀(Z:St) (i:Nat) (x:Str) (v:V),N[i]?=some x->(ZY Z)[i]?=some (some v)->scope.names.lookup x=some .free/\∃j:Nat,X.N[j]?=some x/\Z[j]?=some (some v))
  (uy:swapsWith (.ListComp elt [⟨tg,iter,[],0⟩,⟨tg₂,iter₂,ifs₂,0⟩] scope pos) (some (.Name y py)) spos.line X.env=pure true) (hs:∀x,foldedSetIterable iter X.env x=pure x:=by intro _;rfl) :
  PS X (.Assign [.Name y py] (.ListComp elt [⟨tg,iter,[],0⟩,⟨tg₂,iter₂,ifs₂,0⟩] scope pos) spos) (wM (uz wi ZY g₁ wi₂ g tt te) (dW i)):=by
 intro ao s Z H D I h;obtain⟨cl,yZ,c1,c2⟩:=RX I B;rw[exec_Assign_Name_used _ _ _ _ uy];refine aB (vI (aB ?_));show wpAny _ X.A (do let _ <-comprehension (.ListComp elt [⟨tg,iter,[],0⟩,⟨tg₂,iter₂,ifs₂,0⟩] scope pos) scope X.env _ (newList []) false (eval iter X.env) (some (assign (.Name y py) X.env))) _ _ s;refine aB (PB (use:=some (assign (.Name y py) X.env)) rfl hs yZ B.kind B.loc (aW (hi ao s Z H _ I h) λxv s1 h1=>aW h1 λitv s2 h2=>?_));obtain⟨it,fp,tn,bM,H2,e,I2,T,st2,f2,hq⟩:=h2;subst e;refine zfH hc B P hs₂ hl hZ I2 T st2 f2 hq c1 c2 (R:=λacc C=>compPost (model X.prog X.w) X.A X.xe (some (assign (.Name y py) X.env)) _ acc C) λD' C s' H' f9 a b c d e ⟨m,hm⟩ q=>?_;show wpAny _ _ (assign (.Name y py) X.env (.ref D')) _ _ s';refine wpAny_assign_Name (Qu (v:=.ref D') f9 hN qN hx rfl (λs5 jG ⟨ad,sb,RZ⟩=>?_) hf);have nC:C≠ad:=by
  rcases RZ with z|z
  ·rw[z];exact c
  ·exact(d y ad z).symm
 obtain⟨ol,es,ep,e1,r1⟩:=hm;refine⟨m,⟨ol,es,ep,(sb.2 C nC).trans e1,r1⟩,λh' R0=>aM (aM ⟨_,H',RN (Z':=Z) jG a b c d e R0,q⟩)⟩
end
end L2
namespace L2
open PySem PySem.Spec PyProof.Rows PySem.W
noncomputable def bQ{α:Type}(lt:Nat->Nat->Option Bool):KasT α->Option α
 |.ret a=>some a
 |.ask i j k=>match lt i j with
  |some b=>bQ lt (k b)
  |none=>none
theorem Y4{α:Type}{lt:Nat->Nat->Option Bool}{cmp:Nat->Nat->(Bool->Shared->Prop)->Shared->Prop}{Q:α->Shared->Prop}{s:Shared}(hc:∀i j b C,lt i j=some b->C b s->cmp i j C s){a:α}(q:Q a s):∀{t:KasT α},bQ lt t=some a->t.kasWp cmp Q s
 |.ret a',h=>by
  unfold bQ at h;cases h;exact q
 |.ask i j k,h=>by
  unfold bQ at h;cases e:lt i j with
  |none=>rw[e] at h;cases h
  |some b=>
   rw[e] at h;exact hc i j b _ e (Y4 hc q h)
noncomputable def jH(vs:List Value)(p:Array Nat):Array Value:=if vs.length<2 then vs.toArray else List.toArray (p.toList.map λi=>vs.getD i Value.none)
section
variable {prog:Program}{w:World}{A:Around}{E:Value->Shared->Prop}{s:Shared}{κ:SortKind}{lt:Nat->Nat->Option Bool}{p:Array Nat}
theorem zc3{a:Addr}{vs:List Value}{n:Nat}{P:PySem.Fin->Shared->Prop}(ho:s.heap.get? a=some (seqObj "list" vs.toArray n))(uD:vs.length<64)
  (hk:2<=vs.length->∀(s':Shared) (Q:SortKind->Shared->Prop),(∀b o,b≠a->s.heap.get? b=some o->s'.heap.get? b=some o)->Q κ s'->wpAny (model prog w) A (keyKind' vs.toArray) Q E s')
  (cV:2<=vs.length->∀(s':Shared) i j b C,(∀b o,b≠a->s.heap.get? b=some o->s'.heap.get? b=some o)->lt i j=some b->C b s'->kas_ask prog w A κ vs i j C s') (hr:2<=vs.length->bQ lt (kas_sort vs.length)=some p) (R4:2<=vs.length->p.size=vs.length)
  (h:P (.done (.ret .none)) {s with heap:=sortedHeap s.heap a vs (jH vs p)}) :
  wpAny (model prog w) A (Builtin.«list.sort» ⟨[.ref a],[]⟩) P E s:=by
 rw[list_sort_plain];have ha:a<s.heap.objs.size:=bY ho;refine aB (listItems_at ho rfl ?_);refine aB (listUpdate_at ho rfl ?_ (by rw[fP,vK];lia) (wI _));obtain⟨e1,MK⟩ : ∃e1,(s.heap.update a (Obj.mapSeq λ_=>#[])).get? a=some (seqObj "list" #[] e1):=⟨_,get?_update_seq ho (λ_=>#[])⟩;refine aB (seqEpoch_at MK rfl ?_);refine aB (wpAny_newTuple ?_ (by show vs.length<=_;rw[vK];lia));refine aB (wpAny_newList ?_ (wI _));refine qz ?_;have keep:∀b o,b≠a->s.heap.get? b=some o->(((s.heap.update a (Obj.mapSeq λ_=>(#[]:Array Value))).push (seqObj "tuple" vs.toArray 0)).push (seqObj "list" #[] 0)).get? b=some o:=λb o nb e=>
  cU _ (cU _ ((Heap.get?_update_ne _ _ _ _ nb).trans e))
 have MN:(((s.heap.update a (Obj.mapSeq λ_=>(#[]:Array Value))).push (seqObj "tuple" vs.toArray 0)).push (seqObj "list" #[] 0)).get? a=some (seqObj "list" #[] e1):=by
  rw[Lh _ _ _ (by rw[size_push',Heap.size_update];exact dN (sV ha)),Lh _ _ _ (by rw[Heap.size_update];exact dN ha)];exact MK
 show wpAny (model prog w) A _ P E {s with heap:=((s.heap.update a (Obj.mapSeq λ_=>#[])).push (seqObj "tuple" vs.toArray 0)).push (seqObj "list" #[] 0)};dsimp only;have hsz:vs.toArray.size=vs.length:=by simp
 by_cases h2:vs.toArray.size<2
 ·rw[if_pos h2,if_pos h2];refine aB (aM ?_);rw[StateT.run_pure];refine aB (aM ?_);dsimp only;refine aB (seqEpoch_at MN rfl ?_);refine aB (listUpdate_at MN rfl ?_ (wI _) (by rw[Array.size_map];show (pairsOf vs).size<=_;rw[pairsOf_size,vK];lia));simp only[bne_self_eq_false,vC,qC];have e:((vs.toArray.zip vs.toArray).map (·.2))=jH vs p:=by
   unfold jH;rw[if_pos (by rw[hsz] at h2;exact h2)];apply Array.toList_inj.mp;simp[List.map_snd_zip]
  refine aM ?_;have h':=h;rw[<-e] at h';exact h'
 ·rw[if_neg h2,if_neg h2];have oG:2<=vs.length:=by lia
  refine aB (hk oG _ _ keep ?_);refine aB (gR (kat_run (κ:=κ) (ks:=vs) (vs:=vs) (G:=λp' s'=>p'=p/\s'={s with heap:=((s.heap.update a (Obj.mapSeq λ_=>#[])).push (seqObj "tuple" vs.toArray 0)).push (seqObj "list" #[] 0)})
   (Q:=λst' s'=>arrOf st'=p.map (kas_item (vs.toArray.zip vs.toArray))/\failedOf st'=none/\s'={s with heap:=((s.heap.update a (Obj.mapSeq λ_=>#[])).push (seqObj "tuple" vs.toArray 0)).push (seqObj "list" #[] 0)})
   rfl oG uD (λp' st' s' a1 a2 a3 a4=>⟨by rw[a2,a4.1],a3,a4.2⟩) (Y4 (λi j b C hl hC=>cV oG _ i j b C keep hl hC) ⟨rfl,rfl⟩ (hr oG))) ?_ λ_ _ e=>e)
  rintro⟨⟨⟩,st'⟩ s' ⟨MP,hf,rfl⟩;dsimp only;have hout:=kat_snds (ks:=vs) (vs:=vs) rfl MP;have e:List.toArray (p.toList.map λi=>vs.getD i Value.none)=jH vs p:=by
   unfold jH;rw[if_neg (by lia)]
  rw[hout,e];have hso:(jH vs p).size=vs.length:=by rw[<-e,fP,bO,yI,R4 oG]
  refine aB (seqEpoch_at MN rfl ?_);refine aB (listUpdate_at MN rfl ?_ (wI _) (by rw[hso,vK];lia));rw[hf];simp only[bne_self_eq_false,vC,qC];exact aM h
theorem R5(hl:s.heap.IsList l vs.toArray)(uD:vs.length<64)
  (hk:2<=vs.length->∀(s':Shared) (Q:SortKind->Shared->Prop) E,(∀b o,s.heap.get? b=some o->s'.heap.get? b=some o)->Q κ s'->wpAny (model prog w) A.in1.in1 (keyKind' vs.toArray) Q E s')
  (cV:2<=vs.length->∀(s':Shared) i j b C,(∀b o,s.heap.get? b=some o->s'.heap.get? b=some o)->lt i j=some b->C b s'->kas_ask prog w A.in1.in1 κ vs i j C s') (hr:2<=vs.length->bQ lt (kas_sort vs.length)=some p) (R4:2<=vs.length->p.size=vs.length)
  (h:Q (.ref (s.heap.objs.size+1)) {s with heap:=sortedAll s.heap vs (jH vs p)}) :
  wpAny (model prog w) A (call (.builtin "sorted") [.ref l]) Q E s:=by
 refine Calls.call_function_entry kind_sorted plain_sorted entry_sorted (args_sorted1 _) ?_;unfold Builtin.«sorted»;refine aB (m:=checkCount "sorted" 1 1 _) (aM ?_);refine aB (collect_list hl ?_ (by rw[vK];lia));refine aB (wpAny_newList ?_ (by rw[vK];lia));have hsz:((s.heap.push (seqObj "list" #[] 0)).update s.heap.objs.size (Obj.mapSeq (·++vs.toArray))).objs.size=s.heap.objs.size+1:=by
  rw[Heap.size_update,size_push']
 have Ma:(((s.heap.push (seqObj "list" #[] 0)).update s.heap.objs.size (Obj.mapSeq (·++vs.toArray))).push (seqObj "list" vs.toArray 0)).get? (s.heap.objs.size+1)=some (seqObj "list" vs.toArray 0):=by
  rw[<-hsz];exact fO _ rfl
 have keep:∀b o,s.heap.get? b=some o->(((s.heap.push (seqObj "list" #[] 0)).update s.heap.objs.size (Obj.mapSeq (·++vs.toArray))).push (seqObj "list" vs.toArray 0)).get? b=some o:=λb o q=>by
  have cV:b<s.heap.objs.size:=bY q;rw[Lh _ _ _ (by rw[hsz];exact dN (sV cV)),Heap.get?_update_ne _ _ _ _ (dN cV),Lh _ _ _ (dN cV)];exact q
 show wpAny _ _ _ _ _ {s with heap:=((s.heap.push (seqObj "list" #[] 0)).update s.heap.objs.size (Obj.mapSeq (·++vs.toArray))).push (seqObj "list" vs.toArray 0)};rw[hsz];have nn:∀b o,s.heap.get? b=some o->b≠s.heap.objs.size+1:=λb o e=>dN (sV (bY e));refine aB (qz (wF slot_list_sort ⟨_,Ma,rfl⟩ entry_list_sort (zc3 (κ:=κ) (lt:=lt) (p:=p) Ma uD (λh2 s' Q' k q=>hk h2 s' Q' _ (λb o e=>k b o (nn b o e) (keep b o e)) q) (λh2 s' i j b C k e q=>cV h2 s' i j b C (λb o e=>k b o (nn b o e) (keep b o e)) e q) hr R4 ⟨_,rfl,?_⟩) (args_list_sort _)));exact aM ⟨_,rfl,h⟩
end
noncomputable def lA:List V->List V->Option Bool
 |[],ys=>some (decide (0<ys.length))
 |_::_,[]=>some false
 |.int x::xs,.int y::ys=>if x=y then lA xs ys else some (decide (x<y))
 |_::_,_::_=>none
theorem zmm{prog:Program}{w:World}{A:Around}{s:Shared}{fin:Bool}{C:Bool->Shared->Prop}{b:Bool}:∀{us ws:List V} {its jts:List Value} {i:Nat},Vals us its->Vals ws jts->lA us ws=some b->fin=decide (us.length<ws.length)->C b s->KatLex prog w A true fin C (its.zip jts) i s:=by
 intro us ws its jts i r1
 induction r1 generalizing ws jts i with
 |nil=>
  intro _ h hf hc;rw[List.zip_nil_left];unfold lA at h;cases h;rw[hf];exact kat_nil hc
 |@cons x u us its rx ri ih=>
  intro r2 h hf hc;cases r2 with
  |nil=>
   rw[List.zip_nil_right];unfold lA at h;cases h;rw[hf];exact kat_nil (by simpa using hc)
  |@cons y v ws jts ry rj=>
   rw[Gp];cases x with
   |int a=>
    cases y with
    |int c=>
     obtain⟨t,rfl⟩:=rx;obtain⟨t',rfl⟩:=ry;unfold lA at h;refine kat_cons (wpAny_eqBool_int ?_);by_cases e:a=c
     ·rw[if_pos e] at h;subst e;rw[Ak];exact kat_yes (ih rj h (by rw[hf];simp) hc)
     ·rw[if_neg e] at h;cases h;rw[show (a==c)=false by simpa using e];refine kat_no ?_;by_cases hi:i=0
      ·subst hi;exact oneLt_int hc
      ·rw[show (true&&i==0)=false by simpa using hi];exact kat_one _ _ (wpAny_lt_int hc)
    |_=>cases h
   |_=>cases y<;>cases h
def uE(K:W.Frag)(H:Hp)(ys:List V)(lt:Nat->Nat->Option Bool):Prop:=
 ((∀v∈ys,∃i,v=V.int i)/\∀i j b,lt i j=some b->∃x y,ys[i]?=some (.int x)/\ys[j]?=some (.int y)/\b=decide (x<y)) \/
 ((∀v∈ys,∃a i r,v=.ref a/\fZ K H a (.int i::r))/\∀i j b,lt i j=some b->∃a c us ws,ys[i]?=some (.ref a)/\ys[j]?=some (.ref c)/\fZ K H a us/\fZ K H c ws/\lA us ws=some b)
noncomputable def lB(ys:List V)(p:Array Nat):List V:=if ys.length<2 then ys else p.toList.map λi=>ys.getD i .non
theorem Y5(r:Vals ys its):∀l:List Nat,Vals (l.map λi=>ys.getD i .non) (l.map λi=>its.getD i Value.none)
 |[]=>.nil
 |i::l=>by
  refine .cons ?_ (Y5 r l);cases e:ys[i]? with
  |some y=>
   obtain⟨u,e1,e2⟩:=r.get e;show RelV (ys.getD i .non) (its.getD i Value.none);rw[jQ,jQ,e,e1];exact e2
  |none=>
   have e1:its[i]?=none:=by rw[pA] at e ⊢;rw[<-r.length];exact e
   show RelV (ys.getD i .non) (its.getD i Value.none);rw[jQ,jQ,e,e1];rfl
theorem ziN{ys:List V}{its:List Value}(r:Vals ys its)(p:Array Nat):Vals (lB ys p) (jH its p).toList:=by
 unfold lB jH;rw[r.length];by_cases h:its.length<2
 ·rw[if_pos h,if_pos h];exact r
 ·rw[if_neg h,if_neg h];exact Y5 r p.toList
theorem zir{ys:List V}{its:List Value}(r:Vals ys its):∀u∈its,∃v∈ys,RelV v u:=by
 induction r with
 |nil=>intro u hu;cases hu
 |cons h t ih=>
  intro u hu;rcases gQ.mp hu with rfl|hu
  ·exact⟨_,lJ,h⟩
  ·obtain⟨v,a,b⟩:=ih u hu;exact⟨v,iz _ a,b⟩
section
variable {X:Cx}
theorem zgp{prog:Program}{w:World}{A:Around}{E:Value->Shared->Prop}{s:Shared}{its:List Value}{Q:SortKind->Shared->Prop}(h2:2<=its.length)(hi:∀u∈its,∃i t,u=Value.int i t)(q:Q oneType' s):wpAny (model prog w) A (keyKind' its.toArray) Q E s:=
 kas_kind (T:=.type "int") h2 (λv hv=>by obtain⟨i,t,rfl⟩:=hi v hv;exact .of_pure rfl) (by decide) (by decide) q
theorem zky{K:W.Frag}{ao:List (Addr×Obj)}{s:Shared}{Z:St}{H:Hp}(I:Inv X ao Z H s){h':Heap}(k:∀b o,s.heap.get? b=some o->h'.get? b=some o):∀{ys:List V} {its:List Value},Vals ys its->(∀v∈ys,∃a i r,v=.ref a/\fZ X.K H a (.int i::r))->∃fs:List Value,fs.length=its.length/\(∀f∈fs,∃i t,f=Value.int i t)/\KatTups h' its fs:=by
 intro ys its r0
 induction r0 with
 |nil=>exact λ_=>⟨[],rfl,(λf hf=>by cases hf),trivial⟩
 |@cons v u ys its r rs ih=>
  intro h;obtain⟨a,i,r',rfl,hq⟩:=h _ lJ;obtain⟨fs,l,hf,kt⟩:=ih λv hv=>h v (iz _ hv);obtain⟨its',rv,⟨o,ho,hc,n,hd⟩,_⟩:=I.tuple hq;cases (show u=Value.ref a from r);cases rv with
  |cons ri rr=>
   obtain⟨t,rfl⟩:=ri;refine⟨Value.int i t::fs,by simp[l],λf hf'=>?_,KatTups.cons (k _ _ ho) hc hd (by simp) kt⟩;rcases gQ.mp hf' with rfl|z
   ·exact⟨i,t,rfl⟩
   ·exact hf f z
theorem zgl{prog:Program}{w:World}{A:Around}{E:Value->Shared->Prop}{s:Shared}{its fs:List Value}{Q:SortKind->Shared->Prop}(h2:2<=its.length)(hl:fs.length=its.length)(hi:∀u∈fs,∃i t,u=Value.int i t)(kt:KatTups s.heap its fs)(q:Q (tuples' true) s):wpAny (model prog w) A (keyKind' its.toArray) Q E s:=
 kat_kind (T:=.type "int") kt (by lia) (λv hv=>by obtain⟨i,t,rfl⟩:=hi v hv;exact .of_pure rfl) (by decide) q
theorem M4{its:List Value}{i:Nat}{u:Value}(h:its[i]?=some u):its.getD i Value.none=u:=by rw[jQ,h];rfl
theorem zd6:cW X (.builtin "sorted") (λxs H Q=>∃l ys lt p,xs=[.ref l]/\cY X.K H l ys/\ys.length<64/\(2<=ys.length->uE X.K H ys lt/\bQ lt (kas_sort ys.length)=some p/\p.size=ys.length)/\∀r,H r=none->Q (.ref r) (upd H r (.lst (lB ys p)))):=by
 intro ao s Z H xs us Q I r h;obtain⟨l,ys,lt,p,rfl,hq,uD,hs,q⟩:=h;obtain⟨u,rfl,rx⟩:=vals1 r;cases rx;obtain⟨its,rv,pl,hz⟩:=I.list hq;have hlen:=rv.length;have fin:EP X ao Z Q (.ref (s.heap.objs.size+1)) {s with heap:=sortedAll s.heap its (jH its p)}:=by
  obtain⟨e,he⟩:=sortedAll_at s.heap its (jH its p);have hn:H (s.heap.objs.size+1)=none:=I.hok.fresh (Nat.le_succ _);refine⟨.ref (s.heap.objs.size+1),_,I.laid (t':=s.toks) (λb u q=>sortedAll_old q) (Nat.le_succ _) (show bR X.prog X.w _ _ _ (.lst (lB ys p)) from ⟨?_,(jH its p).toList,e,ziN rv p,by rw[Array.toArray_toList];exact he⟩),rfl,q _ hn⟩;unfold lB;by_cases h2:ys.length<2
  ·rw[if_pos h2];exact hz
  ·rw[if_neg h2,bO,yI,(hs (by lia)).2.2];exact hz
 by_cases h2:2<=ys.length
 ·obtain⟨hS,hr,hp⟩:=hs h2;rcases hS with ⟨hI,cV⟩|⟨hT,cV⟩
  ·refine R5 (κ:=oneType') (lt:=lt) (p:=p) pl.isList (by lia) (λoG s' Q' E' k q'=>zgp oG (λu hu=>?_) q') (λ_ s' i j b C k e hC=>?_) (λ_=>by rw[<-hlen];exact hr) (λ_=>by lia) fin
   ·obtain⟨v,hv,rr⟩:=zir rv u hu;obtain⟨i,rfl⟩:=hI v hv;obtain⟨t,rfl⟩:=rr;exact⟨i,t,rfl⟩
   ·obtain⟨x,y,e1,e2,rfl⟩:=cV i j b e;obtain⟨u1,f1,g1⟩:=rv.get e1;obtain⟨u2,f2,g2⟩:=rv.get e2;obtain⟨t1,rfl⟩:=g1;obtain⟨t2,rfl⟩:=g2;show wpAny _ _ (keyLt' oneType' (its.getD i Value.none) (its.getD j Value.none)) C _ s';rw[M4 f1,M4 f2];exact kat_lt_int hC
  ·refine R5 (κ:=tuples' true) (lt:=lt) (p:=p) pl.isList (by lia) (λoG s' Q' E' k q'=>?_) (λ_ s' i j b C k e hC=>?_) (λ_=>by rw[<-hlen];exact hr) (λ_=>by lia) fin
   ·obtain⟨fs,l1,hf,kt⟩:=zky (K:=X.K) I k rv hT;exact zgl oG l1 hf kt q'
   ·obtain⟨a,c,us,ws,e1,e2,q1,q2,e3⟩:=cV i j b e;obtain⟨u1,f1,g1⟩:=rv.get e1;obtain⟨u2,f2,g2⟩:=rv.get e2;cases (show u1=Value.ref a from g1);cases (show u2=Value.ref c from g2);obtain⟨i1,r1,⟨o1,MK,hc1,n1,hd1⟩,_⟩:=I.tuple q1;obtain⟨i2,r2,⟨o2,pQ,qI,n2,hd2⟩,_⟩:=I.tuple q2;show wpAny _ _ (keyLt' (tuples' true) (its.getD i Value.none) (its.getD j Value.none)) C _ s';rw[M4 f1,M4 f2];refine kat_lt (k _ _ MK) hd1 (k _ _ pQ) hd2 (zmm r1 r2 e3 ?_ hC);rw[r1.length,r2.length];simp
 ·exact R5 (κ:=oneType') (lt:=lt) (p:=p) pl.isList (by lia) (λoG=>absurd oG (by lia)) (λoG=>absurd oG (by lia)) (λoG=>absurd oG (by lia)) (λoG=>absurd oG (by lia)) fin
end
end L2
namespace L2
open PySem PySem.Spec PyProof.Rows PySem.W PySem.Calls PySem.Builtin PySem.Builtin.ObjectAttr
section
variable {prog:Program}{w:World}{A:Around}{R:Result->Shared->Prop}{E:Value->Shared->Prop}{s:Shared}{K:W.Frag}{x C:Addr}{ox:Obj}{cd:ClassData}{name:Str}{v:Value}{mA:Str->Option Value}{ns:List Str}
end
end L2
namespace L2
open PySem PySem.Spec PyProof.Rows PySem.W PySem.Calls
section
variable {prog:Program}{w:World}{K:W.Frag}{C e:Addr}{cd:ClassData}{env:Env}{m:Str->Option Value}{A:Around}{E:Value->Shared->Prop}{sf:Str}
end
end L2
namespace PySem
open Sem (wp)
section
variable {prog:Program}{w:World}{A:Around}{E:Value->Shared->Prop}{h:Heap}{g:Array GenState}{d:Drawn}{t:Nat}{os:OsState}
variable {nm q:Str}{C N:Addr}{bs bm bmB:List Value}{R6:Bool}{sn:List Str}{aq:List Value}{ab:Bool}{col:Option Bool}{dd:Option Addr}{k0 k1 k2 k3 k5:Option Value}{B Bn newId nid initId inN:String}{bmN:List Value}
end
section
variable {prog:Program}{w:World}{A:Around}{E:Value->Shared->Prop}{s:Shared}{env:Env}
variable {nm q:Str}{C N:Addr}{bs bm bmB:List Value}{R6:Bool}{sn:List Str}{aq:List Value}{ab:Bool}{col:Option Bool}{dd:Option Addr}{k0 k1 k2 k3 k5:Option Value}{B Bn newId nid initId inN:String}{bmN:List Value}
end
end PySem
namespace L2
open PySem PySem.Spec PyProof.Rows PySem.W PySem.Calls
theorem Y6{α:Type}:∀{l:List (Str×α)} {f:Str} {u:α},(l.map (·.1)).Nodup->(f,u)∈l->l.lookup f=some u
 |(g,v)::r,f,u,hn,hm=>by
  rw[g_,vH] at hn;rw[pJ];rcases gQ.mp hm with e|hm
  ·cases e;simp
  ·have:f≠g:=λz=>hn.1 (by rw[<-z];exact jE.mpr ⟨(f,u),hm,rfl⟩);rw[show (f==g)=false by simpa using this];exact Y6 hn.2 hm
theorem zj6{α:Type}{fs:List Str}{us:List α}{i:Nat}{f:Str}{u:α}(h1:fs[i]?=some f)(h2:us[i]?=some u):(f,u)∈fs.zip us:=by
 refine eZ (i:=i) ?_;exact(List.getElem?_zip_eq_some (z:=(f,u))).mpr ⟨h1,h2⟩
section
variable {X:Cx}{EX:XS}{C:Addr}{ar:Arguments}{bd:List Stmt}{sc:Scope}{fs:List Str}{t:TA}{x:Str}{p apos pos:Pos}{e:Expr}{es:List Expr}
end
section
variable {prog:Program}{w:World}{A:Around}{E:Value->Shared->Prop}{s:Shared}{K:Frag}{x C:Addr}{ox:Obj}{od:Option Obj}{name:Str}
end
structure XF(K:Frag)(C:Addr)(f:Str):Prop where
 ga:findIn K (.ref C) "__getattribute__"=some (some (.builtin "BaseException.__getattribute__"))
 gn:findIn K (.ref C) "__getattr__"=some none
 mb:mroIn K C (.type "BaseException")=some true
 no:findIn K (.ref C) f=some none
 hd:hasDictIn K C=true
section
variable {X:Cx}{e:Expr}{f:Str}{pos:Pos}{ta:TE}
end
end L2
namespace L2
open PySem PySem.Spec PyProof.Rows
section
variable {X:Cx}{ao:List (Addr×Obj)}{Z:St}{H:Hp}{s:Shared}{h':Heap}
theorem Inv.lQ{t':Nat}{ch:List Addr}{a:Addr}{o:HO}(I:Inv X ao Z H s)(k:∀b u,b∉ch->s.heap.get? b=some u->h'.get? b=some u)(hf:∀b∈ch,fU X ao H b)(ha:s.heap.objs.size<=a)(new:bR X.prog X.w (upd H a o) h' a o) :
  Inv X ao Z (upd H a o) {s with heap:=h',toks:=t'}:=by
 have yU:∀b u,H b=some u->b∉ch:=λb u e z=>by rw[(hf b z).1] at e;cases e
 have hn:H a=none:=I.hok.fresh ha;have na:∀b u,H b=some u->b≠a:=λb u e z=>by rw[z,hn] at e;cases e
 have la:∀b u,s.heap.get? b=some u->b≠a:=λb u e=>dN (iY (bY e) ha);refine I.step (g':=s.gens) (d':=s.drawn) (ch:=ch) (λb hb=>?_) (λb o _ _ hc e _=>k b o hc e) (λb o _ _ hc e _=>⟨o.slots,k b o hc e⟩) (λb o' _ e n=>by rw[dD (la b o' e)];exact n)
  (λb o hc e=>⟨o,k b o hc e⟩) (λb xs e=>by rw[dD (na b _ e)];exact e) (λb o u e=>by rw[dD (na b _ e)];exact e) (λb ps e=>⟨#[],by rw[dD (na b _ e),e];simp⟩) (λm hm=>?_) (λb u e=>?_) I.bare
 ·obtain⟨f0,f1,f2,f3,f4,f5⟩:=hf b hb;exact⟨f3.imp id λz=>Gj z,f1,f4,f5⟩
 ·obtain⟨o,es,ep,ho,r⟩:=hm;exact⟨o,es,ep,k _ o (λz=>(hf _ z).2.1 rfl) ho,r⟩
 ·by_cases z:b=a
  ·subst z;rw[jT] at e;cases e;exact new
  ·rw[dD z] at e;refine(I.hok b u e).stay (λc v hc q=>k c v ?_ q) (λc q=>by rw[dD (na c _ q)];exact q) λc _ q=>by rw[dD (na c _ q)];exact q
   rcases hc with y|y
   ·rw[y];exact yU b u e
   ·exact yU c _ y
theorem Inv.qO{t':Nat}{ch:List Addr}(I:Inv X ao Z H s)(k:∀b u,b∉ch->s.heap.get? b=some u->h'.get? b=some u)(hf:∀b∈ch,fU X ao H b):Inv X ao Z H {s with heap:=h',toks:=t'}:=by
 have yU:∀b u,H b=some u->b∉ch:=λb u e z=>by rw[(hf b z).1] at e;cases e
 refine I.step (g':=s.gens) (d':=s.drawn) (ch:=ch) (λb hb=>?_) (λb o _ _ hc e _=>k b o hc e) (λb o _ _ hc e _=>⟨o.slots,k b o hc e⟩) (λ_ _ _ _ n=>n)
  (λb o hc e=>⟨o,k b o hc e⟩) (λ_ _ e=>e) (λ_ _ _ e=>e) (λb ps e=>⟨#[],by rw[e];simp⟩) (λm hm=>?_) (λb u e=>?_) I.bare
 ·obtain⟨f0,f1,f2,f3,f4,f5⟩:=hf b hb;exact⟨f3.imp id λz=>Gj z,f1,f4,f5⟩
 ·obtain⟨o,es,ep,ho,r⟩:=hm;exact⟨o,es,ep,k _ o (λz=>(hf _ z).2.1 rfl) ho,r⟩
 ·refine(I.hok b u e).stay (λc v hc q=>k c v ?_ q) (λ_ q=>q) λ_ _ q=>q;rcases hc with y|y
  ·rw[y];exact yU b u e
  ·exact yU c _ y
end
structure lR(prog:Program)(w:World)(it src:Addr)(st:Nat->Heap->Prop)(its:Array Value):Prop where
 item:∀(A:Around) (E:Value->Shared->Prop) (s:Shared) (i:Nat) (x:Value) (Q:Value->Shared->Prop),st i s.heap->its[i]?=some x->(∀h',st (i+1) h'->Heap.SameBut it s.heap h'->Q x {s with heap:=h'})->wpAny (model prog w) A (Builtin.SmallTypes.nextOf (.ref it)) Q E s
 fin:∀(A:Around) (E:Value->Shared->Prop) (s:Shared) (i:Nat) (Q:Value->Shared->Prop),A.handled=none->st i s.heap->its[i]?=none->(∀h' e,Heap.ExtBut it s.heap h'->(∃o,h'.get? e=some o/\o.cls=.type "StopIteration")->E (.ref e) {s with heap:=h'})->wpAny (model prog w) A (Builtin.SmallTypes.nextOf (.ref it)) Q E s
 keep:∀i h h',st i h->(∀b o,b=it\/b=src->h.get? b=some o->h'.get? b=some o)->st i h'
theorem lR.list(hne:l≠it):lR prog w it l (λi h=>h.IsListIter it l i/\h.IsList l its) its where
 item:=λA E s i x Q ⟨h1,h2⟩ hx q=>wpAny_nextOf_list_item h1 h2 hx λh' a sb=>q h' ⟨a,h2.at λo e=>(sb.2 l hne).trans e⟩ sb
 fin:=λA E s i Q hh ⟨h1,h2⟩ hx q=>wpAny_nextOf_list_end hh h1 h2 hx q
 keep:=λi h h' ⟨h1,h2⟩ k=>⟨h1.at λo e=>k it o (.inl rfl) e,h2.at λo e=>k l o (.inr rfl) e⟩
theorem Y7(l:Addr):¬((Value.ref l==Value.none)=true):=λz=>by cases (show false=true from z)
theorem IsTupleIter.at'{h h':Heap}{it l:Addr}{i:Nat}(x:h.IsTupleIter it l i)(k:∀o,h.get? it=some o->h'.get? it=some o):h'.IsTupleIter it l i:=by
 obtain⟨o,e,r⟩:=x;exact⟨o,k o e,r⟩
theorem IsTuple.at'{h h':Heap}{l:Addr}{xs:Array Value}(x:h.IsTuple l xs)(k:∀o,h.get? l=some o->h'.get? l=some o):h'.IsTuple l xs:=by
 obtain⟨o,e,r⟩:=x;exact⟨o,k o e,r⟩
section
variable {prog:Program}{w:World}{A:Around}{E:Value->Shared->Prop}{s:Shared}{it l:Addr}{i:Nat}{its:Array Value}
theorem zfB{x:Value}{Q:Value->Shared->Prop}(hi:s.heap.IsTupleIter it l i)(hl:s.heap.IsTuple l its)(hx:its[i]?=some x)(q:∀h',h'.IsTupleIter it l (i+1)->Heap.SameBut it s.heap h'->Q x {s with heap:=h'}) :
  wpAny (model prog w) A (Builtin.SmallTypes.nextOf (.ref it)) Q E s:=by
 obtain⟨oi,ei,ci,di⟩:=id hi;obtain⟨ol,el,_,nl,dl⟩:=hl;unfold Builtin.SmallTypes.nextOf;refine aB (yF (name:=Str.ofString "__next__") hi.typeIs K_ (wF K_ hi.typeIs F.entry_tuple_iterator_next ?_ (F.args_tuple_iterator_next_1 _)));show wpAny _ A.in1 (field (.ref it) 0 >>= _) _ E s;refine aB (kW ei di (x:=.ref l) rfl ?_);show wpAny _ A.in1 (if (Value.ref l==Value.none)=true then _ else _) _ E s;rw[if_neg (Y7 l)];show wpAny _ A.in1 (field (.ref it) 1 >>= _) _ E s;refine aB (kW ei di (x:=.int i 0) rfl ?_);show wpAny _ A.in1 (seqItems? (.ref l) >>= _) _ E s;refine aB (rF el dl ?_);simp only[pC,hx];refine aB (Gy ei di (by simp) (aM ⟨x,rfl,aM (q _ ⟨_,Ag _ ei (Lb (yK di _)),(Obj.cls_mapFields ..).trans ci,?_⟩ (Heap.SameBut.update ..))⟩));rw[yK di];simp[rawInt]
theorem zf9{Q:Value->Shared->Prop}(hh:A.handled=none)(hi:s.heap.IsTupleIter it l i)(hl:s.heap.IsTuple l its)(hx:its[i]?=none)(q:∀h' e,Heap.ExtBut it s.heap h'->(∃o,h'.get? e=some o/\o.cls=.type "StopIteration")->E (.ref e) {s with heap:=h'}) :
  wpAny (model prog w) A (Builtin.SmallTypes.nextOf (.ref it)) Q E s:=by
 obtain⟨oi,ei,ci,di⟩:=id hi;obtain⟨ol,el,_,nl,dl⟩:=hl;unfold Builtin.SmallTypes.nextOf;refine aB (yF (name:=Str.ofString "__next__") hi.typeIs K_ (wF K_ hi.typeIs F.entry_tuple_iterator_next ?_ (F.args_tuple_iterator_next_1 _)));show wpAny _ A.in1 (field (.ref it) 0 >>= _) _ E s;refine aB (kW ei di (x:=.ref l) rfl ?_);show wpAny _ A.in1 (if (Value.ref l==Value.none)=true then _ else _) _ E s;rw[if_neg (Y7 l)];show wpAny _ A.in1 (field (.ref it) 1 >>= _) _ E s;refine aB (kW ei di (x:=.int i 0) rfl ?_);show wpAny _ A.in1 (seqItems? (.ref l) >>= _) _ E s;refine aB (rF el dl ?_);simp only[pC,hx];refine aB (Aw (aB (Gy ei di (by simp) ?_)));show wpAny _ A.in1 (newExc (.type "StopIteration") [] >>= _) _ E _;refine aB ?_;simp only[newExc,newTuple];refine aB (pB (aB (m:=firstArgMember _ _) (DX (a:=Value.none) (by first|rfl|(simp only[firstArgMember];rfl)) (pB ?_ (by size_fits)))) (by size_fits));simp only[raiseNew];refine aB (wpAny_handled ?_);rw[show A.in1.handled=none from hh];exact aB (aM (wpAny_throw (q _ _ (((Heap.SameBut.update ..).extBut.push _).push _) ⟨_,fO _ rfl,rfl⟩)))
end
theorem lR.tuple{prog:Program}{w:World}{it l:Addr}{its:Array Value}(hne:l≠it):lR prog w it l (λi h=>h.IsTupleIter it l i/\h.IsTuple l its) its where
 item:=λA E s i x Q ⟨h1,h2⟩ hx q=>zfB h1 h2 hx λh' a sb=>q h' ⟨a,IsTuple.at' h2 λo e=>(sb.2 l hne).trans e⟩ sb
 fin:=λA E s i Q hh ⟨h1,h2⟩ hx q=>zf9 hh h1 h2 hx q
 keep:=λi h h' ⟨h1,h2⟩ k=>⟨IsTupleIter.at' h1 λo e=>k it o (.inl rfl) e,IsTuple.at' h2 λo e=>k l o (.inr rfl) e⟩
structure m5(z TI TO i1 i2 l1 l2:Addr):Prop where
 zs:z≠TI/\z≠TO/\z≠i1/\z≠i2/\z≠l1/\z≠l2
 os:TO≠TI/\TO≠i1/\TO≠i2/\TO≠l1/\TO≠l2
 is:TI≠i1/\TI≠i2/\i1≠i2/\i1≠l1/\i1≠l2/\i2≠l1/\i2≠l2
section
variable {prog:Program}{w:World}{A:Around}{E:Value->Shared->Prop}{s:Shared}{z TI TO i1 i2 l1 l2:Addr}{st1 st2:Nat->Heap->Prop}{xs ys:Array Value}{k:Nat}{a b:Value}
theorem ziS(N1:lR prog w i1 l1 st1 xs)(N2:lR prog w i2 l2 st2 ys)(D:m5 z TI TO i1 i2 l1 l2)(hz:IsZip s.heap z TI TO .none)(R7:IsPair s.heap TI (.ref i1) (.ref i2))(R8:IsPair s.heap TO a b)
  (h1:st1 k s.heap) (h2:st2 k s.heap) (hx:xs[k]?=some x) (hy:ys[k]?=some y)
  (q:∀h',IsZip h' z TI TO (rawInt s.heap.objs.size)->IsPair h' TO x y->st1 (k+1) h'->st2 (k+1) h'->IsPair h' s.heap.objs.size x y->h'.objs.size=s.heap.objs.size+1->(∀c o,c≠z->c≠TO->c≠i1->c≠i2->s.heap.get? c=some o->h'.get? c=some o)->Q (some (.ref s.heap.objs.size)) {s with heap:=h'}) :
  wpAny (model prog w) A (pyNext (.ref z)) Q E s:=by
 obtain⟨⟨z1,z2,z3,z4,z5,z6⟩,⟨t1,t2,t3,t4,t5⟩,⟨j1,j2,j3,j4,j5,j6,j7⟩⟩:=D;have hT:s.TypeIs (.ref z) "zip":=⟨_,hz,rfl⟩;unfold pyNext;refine aB (Gz (yF (name:=Str.ofString "__next__") hT Lr (wF Lr hT F.entry_zip_next ?_ (F.args_zip_next_1 _))));show wpAny _ A.in1 (field (.ref z) 2 >>= _) _ _ s;refine aB (kW hz rfl (x:=.bool false) rfl ?_);show wpAny _ A.in1 (field (.ref z) 3 >>= _) _ _ s;refine aB (kW hz rfl (x:=.ref TI) rfl (aB (rF R7 rfl ?_)));show wpAny _ A.in1 (Builtin.SmallTypes.ownedTupleIsFree (.ref z) >>= _) _ _ s;refine aB ?_;unfold Builtin.SmallTypes.ownedTupleIsFree;refine aB (kW hz rfl (x:=.none) rfl (aM ?_));simp only[if_true];refine aB (Aw (aB (kW hz rfl (x:=.ref TO) rfl (aB (Dt hz (by simp) λha za sa=>aB ?_)))))
 replace za:IsZip ha z TI TO .ellipsis:=za
 simp only[List.zipIdx_cons,List.zipIdx_nil,DP,Lx];refine aB (aB (wpAny_onRaise ?_));show wpAny _ A.in1 (Builtin.SmallTypes.nextOf (.ref i1) >>= _) _ _ _;refine aB (N1.item _ _ {s with heap:=ha} k x _ (N1.keep _ _ _ h1 λc o hc e=>sa.extBut c o (by rcases hc with rfl|rfl;exact z3.symm;exact z5.symm) e) hx λhb Y8 sb=>aM ?_);have tb:IsPair hb TO a b:=sb.extBut _ _ t2 (sa.extBut _ _ z2.symm R8);refine aB (rF tb rfl (aB (Qd tb λhc tc sc=>aB (Av (aM ?_)))))
 replace tc:IsPair hc TO x b:=tc
 refine aB (aB (wpAny_onRaise ?_));show wpAny _ A.in1 (Builtin.SmallTypes.nextOf (.ref i2) >>= _) _ _ _;have k2:st2 k hc:=N2.keep _ _ _ h2 λc o lq e=>by
  rcases lq with rfl|rfl
  ·exact sc.extBut _ _ t3.symm (sb.extBut _ _ j3.symm (sa.extBut _ _ z4.symm e))
  ·exact sc.extBut _ _ t5.symm (sb.extBut _ _ j5.symm (sa.extBut _ _ z6.symm e))
 have k1:st1 (k+1) hc:=N1.keep _ _ _ Y8 λc o lq e=>by
  rcases lq with rfl|rfl
  ·exact sc.extBut _ _ t2.symm e
  ·exact sc.extBut _ _ t4.symm e
 refine aB (N2.item _ _ {s with heap:=hc} k y _ k2 hy λhd sd2 sd=>aM ?_);have td:IsPair hd TO x b:=sd.extBut _ _ t3 tc;refine aB (rF td rfl (aB (Qd td λhe te se=>aB (Av (aM (aM ?_))))))
 replace te:IsPair he TO x y:=te
 refine aB (rF te rfl (aB (wpAny_newTuple ?_)));have size:he.objs.size=s.heap.objs.size:=by rw[se.1,sd.1,sc.1,sb.1,sa.1]
 have ze:IsZip he z TI TO .ellipsis:=se.extBut _ _ z2 (sd.extBut _ _ z4 (sc.extBut _ _ z2 (sb.extBut _ _ z3 za)));have kept:∀c o,c≠z->c≠TO->c≠i1->c≠i2->s.heap.get? c=some o->he.get? c=some o:=λc o c1 c2 c3 c4 e=>se.extBut _ _ c2 (sd.extBut _ _ c4 (sc.extBut _ _ c2 (sb.extBut _ _ c3 (sa.extBut _ _ c1 e))));have e1:st1 (k+1) he:=N1.keep _ _ _ k1 λc o lq e=>by
  rcases lq with rfl|rfl
  ·exact se.extBut _ _ t2.symm (sd.extBut _ _ j3 e)
  ·exact se.extBut _ _ t4.symm (sd.extBut _ _ j6.symm e)
 have e2:st2 (k+1) he:=N2.keep _ _ _ sd2 λc o lq e=>by
  rcases lq with rfl|rfl
  ·exact se.extBut _ _ t3.symm e
  ·exact se.extBut _ _ t5.symm e
 show wpAny _ A.in1 (Builtin.SmallTypes.ownedTupleHandOut (.ref z) (.ref he.objs.size) >>= _) _ _ _;refine aB ?_;unfold Builtin.SmallTypes.ownedTupleHandOut;have zf:IsZip (he.push {cls:=.type "tuple",data:=.seq #[x,y]}) z TI TO .ellipsis:=cU _ ze;refine aB (Dt zf (by simp) λhg zg sg=>Dt zg (by simp) λhh zh sh=>aM ⟨_,rfl,aM ?_⟩)
 replace zh:IsZip hh z TI TO (rawInt he.objs.size):=zh
 have up:∀c o,c≠z->he.get? c=some o->hh.get? c=some o:=λc o c1 e=>sh.extBut _ _ c1 (sg.extBut _ _ c1 (cU _ e));have lz:z<he.objs.size:=bY ze;have tn:IsPair hh he.objs.size x y:=sh.extBut _ _ (vJ lz) (sg.extBut _ _ (vJ lz) (fO _ rfl));have sz:hh.objs.size=he.objs.size+1:=by rw[sh.1,sg.1,sX]
 rw[size] at zh tn sz;show Q (some (.ref he.objs.size)) _;rw[size];exact q hh zh (up _ _ z2.symm te) (N1.keep _ _ _ e1 λc o lq e=>up c o (by rcases lq with rfl|rfl;exact z3.symm;exact z5.symm) e) (N2.keep _ _ _ e2 λc o lq e=>up c o (by rcases lq with rfl|rfl;exact z4.symm;exact z6.symm) e) tn sz λc o c1 c2 c3 c4 e=>up c o c1 (kept c o c1 c2 c3 c4 e)
theorem zj5(hn:A.handled=none)(N1:lR prog w i1 l1 st1 xs)(N2:lR prog w i2 l2 st2 ys)(D:m5 z TI TO i1 i2 l1 l2)(hz:IsZip s.heap z TI TO .none)(R7:IsPair s.heap TI (.ref i1) (.ref i2))(R8:IsPair s.heap TO a b)
  (h1:st1 k s.heap) (h2:st2 k s.heap) (hx:xs[k]?=none\/ys[k]?=none) (q:∀h',(∀c o,c≠z->c≠TO->c≠i1->c≠i2->s.heap.get? c=some o->h'.get? c=some o)->Q none {s with heap:=h'}):wpAny (model prog w) A (pyNext (.ref z)) Q E s:=by
 obtain⟨⟨z1,z2,z3,z4,z5,z6⟩,⟨t1,t2,t3,t4,t5⟩,⟨j1,j2,j3,j4,j5,j6,j7⟩⟩:=D;have hT:s.TypeIs (.ref z) "zip":=⟨_,hz,rfl⟩;have stop:∀(h':Heap) (e:Addr),(∀c o,c≠z->c≠TO->c≠i1->c≠i2->s.heap.get? c=some o->h'.get? c=some o)->(∃o,h'.get? e=some o/\o.cls=.type "StopIteration")->
   wpAny (model prog w) A (do if <-isInstance (.ref e) (.type "StopIteration") then pure none else throw (.ref e):Sem (Option Value)) Q E {s with heap:=h'}:=λh' e kp ⟨o,ho,hc⟩=>
  aB (Lp (T:="StopIteration") (b:=true) ⟨o,ho,hc⟩ isSubtype_stop (aM (q h' kp)))
 unfold pyNext;refine aB (Gz (yF (name:=Str.ofString "__next__") hT Lr (wF Lr hT F.entry_zip_next ?_ (F.args_zip_next_1 _))));show wpAny _ A.in1 (field (.ref z) 2 >>= _) _ _ s;refine aB (kW hz rfl (x:=.bool false) rfl ?_);show wpAny _ A.in1 (field (.ref z) 3 >>= _) _ _ s;refine aB (kW hz rfl (x:=.ref TI) rfl (aB (rF R7 rfl ?_)));show wpAny _ A.in1 (Builtin.SmallTypes.ownedTupleIsFree (.ref z) >>= _) _ _ s;refine aB ?_;unfold Builtin.SmallTypes.ownedTupleIsFree;refine aB (kW hz rfl (x:=.none) rfl (aM ?_));simp only[if_true];refine aB (Aw (aB (kW hz rfl (x:=.ref TO) rfl (aB (Dt hz (by simp) λha za sa=>aB ?_)))))
 replace za:IsZip ha z TI TO .ellipsis:=za
 simp only[List.zipIdx_cons,List.zipIdx_nil,DP,Lx];refine aB (aB (wpAny_onRaise ?_));show wpAny _ A.in1 (Builtin.SmallTypes.nextOf (.ref i1) >>= _) _ _ _;have ka:st1 k ha:=N1.keep _ _ _ h1 λc o hc e=>sa.extBut c o (by rcases hc with rfl|rfl;exact z3.symm;exact z5.symm) e;cases ex:xs[k]? with
 |none=>
  refine aB (N1.fin _ _ {s with heap:=ha} k _ hn ka ex λhb e sb se=>?_);obtain⟨oe,ho,hc⟩:=se;have zb:IsZip hb z TI TO .ellipsis:=sb _ _ z3 za;have ne:e≠z:=λy=>by subst y;rw[zb] at ho;cases ho;simp at hc
  exact Dt zb (by simp) λhd _ sd=>stop hd e (λc o c1 _ c3 _ y=>sd.extBut _ _ c1 (sb _ _ c3 (sa.extBut _ _ c1 y))) ⟨oe,sd.extBut _ _ ne ho,hc⟩
 |some x=>
  have ey:ys[k]?=none:=by
   rcases hx with y|y
   ·rw[ex] at y;cases y
   ·exact y
  refine aB (N1.item _ _ {s with heap:=ha} k x _ ka ex λhb Y8 sb=>aM ?_);have tb:IsPair hb TO a b:=sb.extBut _ _ t2 (sa.extBut _ _ z2.symm R8);refine aB (rF tb rfl (aB (Qd tb λhc tc sc=>aB (Av (aM ?_)))));refine aB (aB (wpAny_onRaise ?_));show wpAny _ A.in1 (Builtin.SmallTypes.nextOf (.ref i2) >>= _) _ _ _;have k2:st2 k hc:=N2.keep _ _ _ h2 λc o lq e=>by
   rcases lq with rfl|rfl
   ·exact sc.extBut _ _ t3.symm (sb.extBut _ _ j3.symm (sa.extBut _ _ z4.symm e))
   ·exact sc.extBut _ _ t5.symm (sb.extBut _ _ j5.symm (sa.extBut _ _ z6.symm e))
  refine aB (N2.fin _ _ {s with heap:=hc} k _ hn k2 ey λhd e sd se=>?_);obtain⟨oe,ho,yZ⟩:=se;have zd:IsZip hd z TI TO .ellipsis:=sd _ _ z4 (sc.extBut _ _ z2 (sb.extBut _ _ z3 za));have ne:e≠z:=λy=>by subst y;rw[zd] at ho;cases ho;simp at yZ
  exact Dt zd (by simp) λhf _ sf=>stop hf e (λc o c1 c2 c3 c4 y=>sf.extBut _ _ c1 (sd _ _ c4 (sc.extBut _ _ c2 (sb.extBut _ _ c3 (sa.extBut _ _ c1 y))))) ⟨oe,sf.extBut _ _ ne ho,yZ⟩
end
noncomputable def Ck:Bool->Heap->Addr->Array Value->Prop
 |true,h,l,xs=>h.IsList l xs
 |false,h,l,xs=>h.IsTuple l xs
noncomputable def Rk:Bool->Addr->Addr->Nat->Heap->Prop
 |true,it,l,i,h=>h.IsListIter it l i
 |false,it,l,i,h=>h.IsTupleIter it l i
noncomputable def Sk:Bool->W.Frag->Hp->Addr->List V->Prop
 |true,K,H,l,xs=>cY K H l xs
 |false,K,H,l,xs=>fZ K H l xs
noncomputable def gH:Bool->Addr->Obj
 |true,l=>{cls:=.type "list_iterator",data:=.fields #[.ref l,.int 0 0]}
 |false,l=>{cls:=.type "tuple_iterator",data:=.fields #[.ref l,.int 0 0]}
theorem lR.of(kd:Bool)(hne:l≠it):lR prog w it l (λi h=>Rk kd it l i h/\Ck kd h l its) its:=by
 cases kd
 ·exact lR.tuple hne
 ·exact lR.list hne
theorem Ck.keep(x:Ck kd h l xs)(k:∀o,h.get? l=some o->h'.get? l=some o):Ck kd h' l xs:=by
 cases kd
 ·exact IsTuple.at' x k
 ·exact Heap.IsList.at x k
theorem Rk.keep(x:Rk kd it l i h)(k:∀o,h.get? it=some o->h'.get? it=some o):Rk kd it l i h':=by
 cases kd
 ·exact IsTupleIter.at' x k
 ·exact Heap.IsListIter.at x k
theorem Rk.obj(x:Rk kd it l i h):∃o,h.get? it=some o/\∀v,o.data≠.cell v:=by
 cases kd
 ·obtain⟨o,e,c,d⟩:=x;exact⟨o,e,λv z=>by rw[d] at z;cases z⟩
 ·obtain⟨o,e,c,d⟩:=x;exact⟨o,e,λv z=>by rw[d] at z;cases z⟩
theorem Ck.lt(x:Ck kd h l xs):l<h.objs.size:=by
 cases kd
 ·obtain⟨o,e,_⟩:=x;exact bY e
 ·obtain⟨o,e,_⟩:=x;exact bY e
section
variable {prog:Program}{w:World}{A:Around}{E:Value->Shared->Prop}{s:Shared}
theorem M5(c:Ck kd s.heap l xs)(q:Q (.ref s.heap.objs.size) {s with heap:=s.heap.push (gH kd l)}):wpAny (model prog w) A (pyIter (.ref l)) Q E s:=by
 cases kd
 ·exact wpAny_pyIter_tuple c q
 ·exact Gs c q
end
noncomputable def zH(h:Heap)(k1 k2:Bool)(l1 l2:Addr):Heap:=((((h.push (gH k1 l1)).push (gH k2 l2)).push {cls:=.type "tuple",data:=.seq #[.ref h.objs.size,.ref (h.push (gH k1 l1)).objs.size]}).push {cls:=.type "tuple",data:=.seq #[.none,.none]}).push
 {cls:=.type "zip",data:=.fields #[.none,.bool false,.bool false,.ref ((h.push (gH k1 l1)).push (gH k2 l2)).objs.size,.ref (((h.push (gH k1 l1)).push (gH k2 l2)).push {cls:=.type "tuple",data:=.seq #[.ref h.objs.size,.ref (h.push (gH k1 l1)).objs.size]}).objs.size]}
theorem zh6(k1 k2:Bool)(l1 l2:Addr)(xs ys:Array Value):Meets (Builtin.«zip.__new__» ⟨[.type "zip",.ref l1,.ref l2],[]⟩) (λ_ R s=>Ck k1 s.heap l1 xs/\Ck k2 s.heap l2 ys /\
   R (.ok (.ret (.ref ((((s.heap.push (gH k1 l1)).push (gH k2 l2)).push {cls:=.type "tuple",data:=.seq #[.ref s.heap.objs.size,.ref (s.heap.push (gH k1 l1)).objs.size]}).push {cls:=.type "tuple",data:=.seq #[.none,.none]}).objs.size))) {s with heap:=zH s.heap k1 k2 l1 l2}):=
 .of_wp λprog w A R s h=>by
  obtain⟨hp,g,d,tk,os⟩:=s;obtain⟨c1,c2,h⟩:=h;have hsub:=sub_zip;have C1:Ck k1 (Shared.heap ⟨hp,g,d,tk,os⟩) l1 xs:=c1;have C2:Ck k2 (Shared.heap ⟨hp.push (gH k1 l1),g,d,tk,os⟩) l2 ys:=c2.keep λo e=>cU _ e
  wp_walk using M5 C1,M5 C2
  exact⟨_,rfl,h⟩
section
variable {prog:Program}{w:World}{A:Around}{E:Value->Shared->Prop}{s:Shared}
theorem zj1(c1:Ck k1 s.heap l1 xs)(c2:Ck k2 s.heap l2 ys)
  (h:∀h',IsZip h' (s.heap.objs.size+4) (s.heap.objs.size+2) (s.heap.objs.size+3) .none->IsPair h' (s.heap.objs.size+2) (.ref s.heap.objs.size) (.ref (s.heap.objs.size+1))->IsPair h' (s.heap.objs.size+3) .none .none->
   Rk k1 s.heap.objs.size l1 0 h'->Rk k2 (s.heap.objs.size+1) l2 0 h'->(∀c o,s.heap.get? c=some o->h'.get? c=some o)->Q (.ref (s.heap.objs.size+4)) {s with heap:=h'}) :
  wpAny (model prog w) A (call (.type "zip") [.ref l1,.ref l2]) Q E s:=by
 refine callType_new F.called_zip (by decide) (F.typeCall_zip_2 _ _) (F.newCall_zip_2 _ _) (λobj=>F.args_object_init_3 obj _ _) F.entry_zip_new (zh6 k1 k2 l1 l2 xs ys) ⟨c1,c2,?_⟩;have n1:(s.heap.push (gH k1 l1)).objs.size=s.heap.objs.size+1:=sX ..;have n2:((s.heap.push (gH k1 l1)).push (gH k2 l2)).objs.size=s.heap.objs.size+2:=by rw[sX,n1]
 have fr:∀kd l,(gH kd l).isFreed=false:=λkd l=>by cases kd<;>rfl
 have rk:∀{h:Heap} {a:Addr} {kd:Bool} {l:Addr},h.get? a=some (gH kd l)->Rk kd a l 0 h:=λ{h a kd l} e=>by
  cases kd
  ·exact⟨_,e,rfl,rfl⟩
  ·exact⟨_,e,rfl,rfl⟩
 have o1:(s.heap.push (gH k1 l1)).get? s.heap.objs.size=some (gH k1 l1):=fO _ (fr _ _);have o2:((s.heap.push (gH k1 l1)).push (gH k2 l2)).get? (s.heap.objs.size+1)=some (gH k2 l2):=by
  have:=fO (s.heap.push (gH k1 l1)) (o:=gH k2 l2) (fr _ _);rw[n1] at this;exact this
 generalize hA:(s.heap.push (gH k1 l1)).push (gH k2 l2)=M6 at *;have eH:zH s.heap k1 k2 l1 l2=((M6.push {cls:=.type "tuple",data:=.seq #[.ref s.heap.objs.size,.ref (s.heap.objs.size+1)]}).push {cls:=.type "tuple",data:=.seq #[.none,.none]}).push {cls:=.type "zip",data:=.fields #[.none,.bool false,.bool false,.ref (s.heap.objs.size+2),.ref (s.heap.objs.size+3)]}:=by
  unfold zH;rw[hA,n1,n2,sX,n2]
 have n3:(M6.push {cls:=.type "tuple",data:=.seq #[.ref s.heap.objs.size,.ref (s.heap.objs.size+1)]}).objs.size=s.heap.objs.size+3:=by rw[sX,n2]
 have n4:((M6.push {cls:=.type "tuple",data:=.seq #[.ref s.heap.objs.size,.ref (s.heap.objs.size+1)]}).push {cls:=.type "tuple",data:=.seq #[.none,.none]}).objs.size=s.heap.objs.size+4:=by rw[sX,n3]
 rw[n1,n4];have g5:(zH s.heap k1 k2 l1 l2).get? (s.heap.objs.size+4)=some {cls:=.type "zip",data:=.fields #[.none,.bool false,.bool false,.ref (s.heap.objs.size+2),.ref (s.heap.objs.size+3)]}:=by
  rw[eH,<-n4];exact fO _ rfl
 have g4:(zH s.heap k1 k2 l1 l2).get? (s.heap.objs.size+3)=some {cls:=.type "tuple",data:=.seq #[.none,.none]}:=by
  rw[eH,<-n3];exact cU _ (fO _ rfl)
 have g3:(zH s.heap k1 k2 l1 l2).get? (s.heap.objs.size+2)=some {cls:=.type "tuple",data:=.seq #[.ref s.heap.objs.size,.ref (s.heap.objs.size+1)]}:=by
  rw[eH,<-n2];exact cU _ (cU _ (fO _ rfl))
 have up:∀c o,M6.get? c=some o->(zH s.heap k1 k2 l1 l2).get? c=some o:=λc o e=>by rw[eH];exact cU _ (cU _ (cU _ e))
 refine⟨⟨_,g5,rfl⟩,h _ g5 g3 g4 (rk (up _ _ ?_)) (rk (up _ _ o2)) λc o e=>up _ _ ?_⟩
 ·rw[<-hA];exact cU _ o1
 ·rw[<-hA];exact cU _ (cU _ e)
end
noncomputable def R9(K:W.Frag)(k1 k2:Bool)(l1 l2:Addr):It:=
 ⟨λi H=>∃xs ys x y,Sk k1 K H l1 xs/\Sk k2 K H l2 ys/\xs[i]?=some x/\ys[i]?=some y,
  λi H v H'=>∃a x y,H a=none/\v=.ref a/\H'=upd H a (.tup [x,y])/\(∀xs,Sk k1 K H l1 xs->xs[i]?=some x)/\∀ys,Sk k2 K H l2 ys->ys[i]?=some y,
  λi H=>∃xs ys,Sk k1 K H l1 xs/\Sk k2 K H l2 ys/\(xs.length<=i\/ys.length<=i)⟩
section
variable {X:Cx}{ao:List (Addr×Obj)}{Z:St}{H:Hp}{s:Shared}{kd:Bool}{l:Addr}{xs ys:List V}
theorem Inv.row(I:Inv X ao Z H s)(h:Sk kd X.K H l xs):∃its:List Value,Vals xs its/\Ck kd s.heap l its.toArray:=by
 cases kd
 ·obtain⟨its,rv,p,hz⟩:=I.tuple h;exact⟨its,rv,p⟩
 ·obtain⟨its,rv,p,hz⟩:=I.list h;exact⟨its,rv,p.isList⟩
theorem Inv.m6(I:Inv X ao Z H s)(h:Sk kd X.K H l xs)(h':Sk kd X.K H l ys):xs=ys:=by
 cases kd
 ·exact I.lO h h'
 ·exact I.n6 h h'
end
theorem ziJ{P:Program}{w:World}{K:W.Frag}{elts:List Expr}{kk:Nat}{pos:Pos}{k1 k2:Bool}{l1 l2 z TI TO i1 i2:Addr}(D:m5 z TI TO i1 i2 l1 l2) :
  Turn P w K (.Tuple elts kk pos) (R9 K k1 k2 l1 l2) [z,TI,TO,i1,i2] z (λi h=>IsZip h z TI TO .none/\IsPair h TI (.ref i1) (.ref i2)/\(∃a b,IsPair h TO a b)/\Rk k1 i1 l1 i h/\Rk k2 i2 l2 i h) where
 mem:=by simp
 obj:=λi h ⟨a1,a2,⟨p,q,a3⟩,a4,a5⟩ b hb=>by
  have:b=z\/b=TI\/b=TO\/b=i1\/b=i2:=by simpa using hb
  rcases this with rfl|rfl|rfl|rfl|rfl
  ·exact⟨_,a1,λv y=>by cases y⟩
  ·exact⟨_,a2,λv y=>by cases y⟩
  ·exact⟨_,a3,λv y=>by cases y⟩
  ·exact a4.obj
  ·exact a5.obj
 keep:=λi h h' ⟨a1,a2,⟨p,q,a3⟩,a4,a5⟩ k=>⟨k z (by simp) _ a1,k TI (by simp) _ a2,⟨p,q,k TO (by simp) _ a3⟩,a4.keep λo e=>k i1 (by simp) o e,a5.keep λo e=>k i2 (by simp) o e⟩
 item:=by
  intro X hP hw hK hc i ao s Z H E I hf ⟨a1,a2,⟨p,q,a3⟩,a4,a5⟩ hg;subst hP hw hK;obtain⟨xs,ys,x,y,Er,Et,hx,hy⟩:=hg;obtain⟨Y9,M7,c1⟩:=I.row Er;obtain⟨zj,M8,c2⟩:=I.row Et;obtain⟨u,hu,ru⟩:=M7.get hx;obtain⟨v,hv,rv⟩:=M8.get hy;have D':=D;obtain⟨⟨z1,z2,z3,z4,z5,z6⟩,⟨t1,t2,t3,t4,t5⟩,⟨j1,j2,j3,j4,j5,j6,j7⟩⟩:=D';refine ziS (lR.of k1 j4.symm) (lR.of k2 j7.symm) D a1 a2 a3 ⟨a4,c1⟩ ⟨a5,c2⟩ (x:=u) (y:=v) (by simpa using hu) (by simpa using hv) λh1 b1 b2 b3 b4 b5 b6 kp=>?_;refine⟨_,rfl,wpAny_letOwnedTupleGo_zip (s:={s with heap:=h1}) b1 λh2 e2 sb=>?_⟩;have R_:IsPair h2 s.heap.objs.size u v:=(sb.2 _ (vJ (bY a1))).trans b5;have kk:∀b o,b∉[z,TI,TO,i1,i2]->s.heap.get? b=some o->h2.get? b=some o:=λb o hb e=>(sb.2 b λy=>hb (by simp[y])).trans (kp b o (λy=>hb (by simp[y])) (λy=>hb (by simp[y])) (λy=>hb (by simp[y])) (λy=>hb (by simp[y])) e);have I2:=I.lQ (t':=s.toks) (a:=s.heap.objs.size) (o:=.tup [x,y]) kk (λb hb=>hf b hb) (bU _) (show bR X.prog X.w _ h2 _ (.tup [x,y]) from ⟨by show 2<=sizeLine;decide,[u,v],.cons ru (.cons rv .nil),⟨_,R_,rfl,_,rfl⟩⟩);have hn:H s.heap.objs.size=none:=I.hok.fresh (bU _);refine⟨.ref s.heap.objs.size,_,I2,rfl,⟨_,x,y,hn,rfl,rfl,λzs hz=>by rw[I.m6 hz Er];exact hx,λzs hz=>by rw[I.m6 hz Et];exact hy⟩,⟨e2,(sb.2 _ z1.symm).trans (kp _ _ z1.symm t1.symm j1 j2 a2),⟨_,_,(sb.2 _ z2.symm).trans b2⟩,b3.1.keep λo e=>(sb.2 _ z3.symm).trans e,b4.1.keep λo e=>(sb.2 _ z4.symm).trans e⟩,λb hb=>?_⟩;have nb:b≠s.heap.objs.size:=by
   have:b=z\/b=TI\/b=TO\/b=i1\/b=i2:=by simpa using hb
   rcases this with rfl|rfl|rfl|rfl|rfl
   ·exact dN (bY a1)
   ·exact dN (bY a2)
   ·exact dN (bY a3)
   ·obtain⟨o,e,_⟩:=a4.obj;exact dN (bY e)
   ·obtain⟨o,e,_⟩:=a5.obj;exact dN (bY e)
  rw[dD nb];exact(hf b hb).1
 done:=by
  intro X hP hw hK hc i ao s Z H E I hf ⟨a1,a2,⟨p,q,a3⟩,a4,a5⟩ hg;subst hP hw hK;obtain⟨xs,ys,Er,Et,hx⟩:=hg;obtain⟨Y9,M7,c1⟩:=I.row Er;obtain⟨zj,M8,c2⟩:=I.row Et;have n1:=M7.length;have n2:=M8.length;refine zj5 (I.ok.hd hc) (lR.of k1 D.is.2.2.2.1.symm) (lR.of k2 D.is.2.2.2.2.2.2.symm) D a1 a2 a3 ⟨a4,c1⟩ ⟨a5,c2⟩ ?_ λh' kp=>⟨rfl,I.qO (t':=s.toks) (ch:=[z,TI,TO,i1,i2]) (λb o hb e=>kp b o (λy=>hb (by simp[y])) (λy=>hb (by simp[y])) (λy=>hb (by simp[y])) (λy=>hb (by simp[y])) e) λb hb=>hf b hb⟩;rcases hx with y|y
  ·exact .inl (by simp;lia)
  ·exact .inr (by simp;lia)
 self:=λ_ _ _ _ _ ⟨a1,_⟩ h=>wpAny_pyIter_zip a1 h
section
variable {X:Cx}
noncomputable def Sd(K:W.Frag)(ta:TA):TI:=λZ H R=>ta Z H λvs H1=>∃k1 k2 l1 l2 xs ys,vs=[.ref l1,.ref l2]/\Sk k1 K H1 l1 xs/\Sk k2 K H1 l2 ys/\R (R9 K k1 k2 l1 l2) H1
theorem ziv:bootBuiltins "zip"=some (.type "zip"):=by decide +kernel
theorem zmP{a b:Expr}{ta:TA}{p pos tpos:Pos}{elts:List Expr}{kk:Nat}(hg:Gl X "zip")(hm:X.mg "zip"=none)(ha:PA X [a,b] ta)(hs:starEach [a,b] X.env=[(false,eval a X.env),(false,eval b X.env)]:=by rfl)(vO:starEach [b] X.env=[(false,eval b X.env)]:=by rfl) :
  PI X (.Tuple elts kk tpos) (.Call (.Name "zip" p) [a,b] [] pos) (Sd X.K ta):=by
 intro ao s Z H R I h;refine Call_ (wL I hg hm ziv (Ac (aW (ha pos ao s Z H _ I h) λus s1 ⟨vs,H1,I1,r1,q1⟩=>?_) (by rw[hs,vO]) (by rw[vO];rfl)));obtain⟨k1,k2,l1,l2,xs,ys,e,Er,Et,q⟩:=q1;subst e;cases r1 with
 |cons r rr=>
  cases rr with
  |cons r' rr=>
   cases rr;cases r;cases r';obtain⟨Y9,M7,c1⟩:=I1.row Er;obtain⟨zj,M8,c2⟩:=I1.row Et;have m1:=c1.lt;have m2:=c2.lt;refine zj1 c1 c2 λh' b1 b2 b3 b4 b5 kp=>?_;refine wpAny_pyIter_zip b1 ?_;have ne:∀{u v:Nat},u<v->u≠v:=λh=>dN h;have D:m5 (s1.heap.objs.size+4) (s1.heap.objs.size+2) (s1.heap.objs.size+3) s1.heap.objs.size (s1.heap.objs.size+1) l1 l2:=
    ⟨⟨(ne (by lia)).symm,(ne (by lia)).symm,(ne (by lia)).symm,(ne (by lia)).symm,(ne (iY m1 (by lia))).symm,(ne (iY m2 (by lia))).symm⟩,
     ⟨(ne (by lia)).symm,(ne (by lia)).symm,(ne (by lia)).symm,(ne (iY m1 (by lia))).symm,(ne (iY m2 (by lia))).symm⟩,
     ⟨(ne (by lia)).symm,(ne (by lia)).symm,ne (by lia),(ne m1).symm,(ne m2).symm,(ne (iY m1 (by lia))).symm,(ne (iY m2 (by lia))).symm⟩⟩
   refine⟨s1.heap.objs.size+4,[s1.heap.objs.size+4,s1.heap.objs.size+2,s1.heap.objs.size+3,s1.heap.objs.size,s1.heap.objs.size+1],_,_,H1,rfl,I1.kept (t':=s1.toks) kp,ziJ D,⟨b1,b2,⟨_,_,b3⟩,b4,b5⟩,λb hb=>?_,q⟩;have:s1.heap.objs.size<=b:=by
    have:b=s1.heap.objs.size+4\/b=s1.heap.objs.size+2\/b=s1.heap.objs.size+3\/b=s1.heap.objs.size\/b=s1.heap.objs.size+1:=by simpa using hb
    rcases this with rfl|rfl|rfl|rfl|rfl<;>lia
   exact I1.uf this (I1.hok.fresh this)
end
noncomputable def Ite(K:W.Frag)(kd:Bool)(l:Addr):It:=
 ⟨λi H=>∃xs x,Sk kd K H l xs/\xs[i]?=some x,λi H v H'=>∃a x,H a=none/\v=.ref a/\H'=upd H a (.tup [.int i,x])/\∀xs,Sk kd K H l xs->xs[i]?=some x,λi H=>∃xs,Sk kd K H l xs/\xs.length<=i⟩
theorem BW{prog:Program}{w:World}{A:Around}(hh:A.handled=none)(kd:Bool){it l:Addr}(hne:l≠it)(its:Array Value):Draws prog w A it [it,l] its.size (λi v=>its[i]?=some v) (λi h=>Rk kd it l i h/\Ck kd h l its) where
 live:=λ_ _ st=>let ⟨o,e,_⟩:=st.1.obj;⟨o,e⟩
 frame:=λ_ _ _ st k=>⟨st.1.keep λo e=>k it (by simp) o e,st.2.keep λo e=>k l (by simp) o e⟩
 item:=λi s Q E hi st q=>(lR.of kd hne).item A E s i its[i] Q st (by simp[hi]) λh' a b=>q _ h' s.toks (by simp[hi]) a b
 done:=λs Q E st q=>(lR.of kd hne).fin A E s its.size Q hh st (by simp) q
theorem ziz(kd:Bool)(l:Addr)(xs:Array Value):Meets (Builtin.«enumerate.__new__» ⟨[.type "enumerate",.ref l],[]⟩) (λ_ R s=>Ck kd s.heap l xs /\
   R (.ok (.ret (.ref (s.heap.push (gH kd l)).objs.size))) {s with heap:=(s.heap.push (gH kd l)).push {cls:=.type "enumerate",data:=.fields #[.none,.bool false,.ref s.heap.objs.size,rawInt 0,.none,.none]}}):=
 .of_wp λprog w A R s h=>by
  obtain⟨hp,g,d,tk,os⟩:=s;obtain⟨c1,h⟩:=h;have hsub:=sub_enumerate;have C1:Ck kd (Shared.heap ⟨hp,g,d,tk,os⟩) l xs:=c1;obtain⟨ol,el⟩ : ∃o,hp.get? l=some o:=by
   cases kd
   ·obtain⟨o,e,_⟩:=c1;exact⟨o,e⟩
   ·obtain⟨o,e,_⟩:=c1;exact⟨o,e⟩
  wp_walk using La el
  refine wpAny_stack_any λst=>aM ?_
  split
  ·rename_i c _ _ _ _ _;cases (c==Value.type "enumerate")<;>(wp_walk using La el,M5 C1;exact⟨_,rfl,h⟩)
  ·wp_walk using La el,M5 C1
   exact⟨_,rfl,h⟩
theorem zig{prog:Program}{w:World}{A:Around}{E:Value->Shared->Prop}{s:Shared}{e it l:Addr}{its:Array Value}{st:Nat->Heap->Prop}{i:Nat}{old:Value}{Q:Option Value->Shared->Prop}(hh:A.handled=none)(N:lR prog w it l st its)(he:IsEnum s.heap e it i old)(Bl:st i s.heap)(hx:its[i]?=none)
  (q:∀h',Heap.ExtBut it s.heap h'->Q none {s with heap:=h'}):wpAny (model prog w) A (pyNext (.ref e)) Q E s:=by
 have ty:s.TypeIs (.ref e) "enumerate":=⟨_,he,rfl⟩;have body:∀{E':Value->Shared->Prop},(∀h' x,Heap.ExtBut it s.heap h'->(∃o,h'.get? x=some o/\o.cls=.type "StopIteration")->E' (.ref x) {s with heap:=h'})->wpAny (model prog w) A.in1 (Builtin.«enumerate.__next__» ⟨[.ref e],[]⟩) (λ_ _=>False) E' s:=λk=>by
  show wpAny _ A.in1 (field (.ref e) 2 >>= _) _ _ _;exact aB (kW he rfl (x:=.ref it) rfl (aB (N.fin A.in1 _ s i _ hh Bl hx k)))
 unfold pyNext;refine aB (Gz (yF (name:=Str.ofString "__next__") ty F.slot_enumerate_next (wF F.slot_enumerate_next ty F.entry_enumerate_next (gR (body λh' x a b=>?_) (λ_ _ z=>z.elim) λ_ _ z=>z) (F.args_enumerate_next_1 _))));obtain⟨o,a1,a2⟩:=b;exact aB (Lp (T:="StopIteration") (b:=true) ⟨o,a1,a2⟩ isSubtype_stop (aM (q h' a)))
theorem zgk{P:Program}{w:World}{K:W.Frag}{elts:List Expr}{kk:Nat}{pos:Pos}{kd:Bool}{l e it:Addr}(Sg:e≠it)(Y_:l≠it)(hle:l≠e) :
  Turn P w K (.Tuple elts kk pos) (Ite K kd l) [e,it] e (λi h=>(∃old,IsEnum h e it i old)/\Rk kd it l i h) where
 mem:=by simp
 obj:=λi h ⟨⟨old,he⟩,st⟩ b hb=>by
  have:b=e\/b=it:=by simpa using hb
  rcases this with rfl|rfl
  ·exact⟨_,he,λv z=>by cases z⟩
  ·exact st.obj
 keep:=λi h h' ⟨⟨old,he⟩,st⟩ k=>⟨⟨old,k e (by simp) _ he⟩,st.keep λo e=>k it (by simp) o e⟩
 item:=by
  intro X hP hw hK hc i ao s Z H E I hf ⟨⟨old,he⟩,st⟩ hg;subst hP hw hK;obtain⟨xs,x,hq,hx⟩:=hg;obtain⟨its,rv,p⟩:=I.row hq;obtain⟨u,hu,ru⟩:=rv.get hx;have cV:i<its.toArray.size:=by simpa using (dO.mp hu).1
  refine wpAny_pyNext_enum_itemD (BW (A:=X.A.in1) (I.ok.hd hc) kd Y_ its.toArray) he ⟨st,p⟩ cV Sg (by simp[Sg,hle.symm]) λu' h1 tk hP ho Sh hT hsz hk=>?_;have eu:u'=u:=by
   have:its[i]?=some u':=by simpa using hP
   rw[hu] at this;cases this;rfl
  subst eu;refine⟨_,rfl,wpAny_letOwnedTupleGo_enum (s:={s with heap:=h1,toks:=tk+1}) ho λh2 he2 sb=>?_⟩;have R_:h2.get? s.heap.objs.size=some {cls:=.type "tuple",data:=.seq #[.int i tk,u']}:=(sb.2 _ (vJ (bY he))).trans hT;have kk:∀b o,b∉[e,it]->s.heap.get? b=some o->h2.get? b=some o:=λb o hb q=>(sb.2 b λz=>hb (by simp[z])).trans (hk b o (λz=>hb (by simp[z])) (λz=>hb (by simp[z])) q);have I2:=I.lQ (t':=tk+1) (a:=s.heap.objs.size) (o:=.tup [.int i,x]) kk (λb hb=>hf b hb) (bU _) (show bR X.prog X.w _ h2 _ (.tup [.int i,x]) from ⟨by show 2<=sizeLine;decide,[.int i tk,u'],.cons ⟨_,rfl⟩ (.cons ru .nil),⟨_,R_,rfl,_,rfl⟩⟩);have hn:H s.heap.objs.size=none:=I.hok.fresh (bU _);refine⟨.ref s.heap.objs.size,_,I2,rfl,⟨_,x,hn,rfl,rfl,λys hy=>by rw[I.m6 hy hq];exact hx⟩,⟨⟨_,by simpa using he2⟩,Sh.1.keep λo q=>(sb.2 it Sg.symm).trans q⟩,λb hb=>?_⟩;have nb:b≠s.heap.objs.size:=by
   have:b=e\/b=it:=by simpa using hb
   rcases this with rfl|rfl
   ·exact dN (bY he)
   ·obtain⟨o,q,_⟩:=st.obj;exact dN (bY q)
  rw[dD nb];exact(hf b hb).1
 done:=by
  intro X hP hw hK hc i ao s Z H E I hf ⟨⟨old,he⟩,st⟩ hg;subst hP hw hK;obtain⟨xs,hq,hx⟩:=hg;obtain⟨its,rv,p⟩:=I.row hq;have hl:=rv.length;exact zig (I.ok.hd hc) (lR.of kd Y_) he ⟨st,p⟩ (by simp;lia) λh' eb=>⟨rfl,I.qO (t':=s.toks) (ch:=[e,it]) (λb o hb q=>eb b o (λz=>hb (by simp[z])) q) λb hb=>hf b hb⟩
 self:=λ_ _ _ _ _ ⟨⟨old,he⟩,_⟩ h=>wpAny_pyIter_enum he h
section
variable {X:Cx}
noncomputable def Ip(K:W.Frag)(ta:TA):TI:=λZ H R=>ta Z H λvs H1=>∃kd l xs,vs=[.ref l]/\Sk kd K H1 l xs/\R (Ite K kd l) H1
theorem zg4:bootBuiltins "enumerate"=some (.type "enumerate"):=by decide +kernel
theorem zkK{a:Expr}{ta:TA}{p pos tpos:Pos}{elts:List Expr}{kk:Nat}(hg:Gl X "enumerate")(hm:X.mg "enumerate"=none)(ha:PA X [a] ta)(hs:starEach [a] X.env=[(false,eval a X.env)]:=by rfl):PI X (.Tuple elts kk tpos) (.Call (.Name "enumerate" p) [a] [] pos) (Ip X.K ta):=by
 intro ao s Z H R I h;refine Call_ (wL I hg hm zg4 (Ac (aW (ha pos ao s Z H _ I h) λus s1 ⟨vs,H1,I1,r1,q1⟩=>?_) hs rfl));obtain⟨kd,l,xs,e,hq,q⟩:=q1;subst e;cases r1 with
 |cons r rr=>
  cases rr;cases r;obtain⟨its,rv,p⟩:=I1.row hq;have hl:l<s1.heap.objs.size:=p.lt;refine callType_new F.called_enumerate (by decide) (F.typeCall_enumerate_1 _) (F.newCall_enumerate_1 _) (λobj=>F.args_object_init_2 obj _) F.entry_enumerate_new (ziz kd l its.toArray) ⟨p,?_⟩;have n1:(s1.heap.push (gH kd l)).objs.size=s1.heap.objs.size+1:=sX ..;have he:IsEnum ((s1.heap.push (gH kd l)).push {cls:=.type "enumerate",data:=.fields #[.none,.bool false,.ref s1.heap.objs.size,rawInt 0,.none,.none]}) (s1.heap.objs.size+1) s1.heap.objs.size 0 .none:=by
   have:=fO (s1.heap.push (gH kd l)) (o:={cls:=.type "enumerate",data:=.fields #[.none,.bool false,.ref s1.heap.objs.size,rawInt 0,.none,.none]}) rfl;rw[n1] at this;exact this
  show _/\_;rw[n1];refine⟨⟨_,he,rfl⟩,wpAny_pyIter_enum (s:={s1 with heap:=(s1.heap.push (gH kd l)).push {cls:=.type "enumerate",data:=.fields #[.none,.bool false,.ref s1.heap.objs.size,rawInt 0,.none,.none]}}) he ?_⟩;have rk:Rk kd s1.heap.objs.size l 0 ((s1.heap.push (gH kd l)).push {cls:=.type "enumerate",data:=.fields #[.none,.bool false,.ref s1.heap.objs.size,rawInt 0,.none,.none]}):=by
   cases kd
   ·exact⟨_,cU _ (fO _ rfl),rfl,rfl⟩
   ·exact⟨_,cU _ (fO _ rfl),rfl,rfl⟩
  refine⟨s1.heap.objs.size+1,[s1.heap.objs.size+1,s1.heap.objs.size],_,_,H1,rfl,I1.kept (t':=s1.toks) λb o x=>cU _ (cU _ x),zgk (kd:=kd) (l:=l) (Nat.succ_ne_self _) (dN hl) (dN (sV hl)),⟨⟨_,he⟩,rk⟩,λb hb=>?_,q⟩;have:s1.heap.objs.size<=b:=by
   have:b=s1.heap.objs.size+1\/b=s1.heap.objs.size:=by simpa using hb
   rcases this with rfl|rfl
   ·exact Nat.le_succ _
   ·exact bU _
  exact I1.uf this (I1.hok.fresh this)
end
end L2
set_option genSizeOf false
set_option genInjectivity false
namespace Mi
open PySem
inductive D where
 |non|bl (b:Bool)|int (i:Int)|str (s:Str)|tup (xs:List D)|fl (xs:List D)|fd (ks vs:List D)|exc (c:Nat) (fs:List D)|ob (c:Nat) (fs:List D)|any
inductive Xv where
 |d (x:D)|l (n:Nat)
inductive Kx where
 |non|int (i:Int)|row (is:List Int)
deriving DecidableEq
inductive SO where
 |lst (xs:List D)
 |dct (kvs:List (List Kx×D))
noncomputable abbrev S:=List SO
inductive Rs (α:Type) where
 |ok (a:α)|er (c:Nat) (fs:List D)
noncomputable abbrev M(α:Type):=S->Option (Rs α×S)
noncomputable def M.ret{α:Type}(a:α):M α:=λs=>some (.ok a,s)
noncomputable def M.bd{α β:Type}(m:M α)(k:α->M β):M β:=λs=>match m s with
 |some (.ok a,s')=>k a s'
 |some (.er c f,s')=>some (.er c f,s')
 |none=>none
noncomputable def M.qt{α:Type}(m:M α):M α:=λs=>match m s with
 |some (.ok a,s')=>some (.ok a,s')
 |_=>none
noncomputable def M.no{α:Type}:M α:=λ_=>none
noncomputable def M.opt{α:Type}:Option α->M α
 |some a=>M.ret a
 |none=>M.no
inductive Rz where
 |dat (d:D)|nw (xs:List D)
inductive Pr where
 |add|aq|mul|fdiv|mod|pow|neg
 |eq|ne|lt|le|gt|ge|inn|nin
 |vU|tD
 |len|abs|max2|min2|rP|Ir|rQ|Eu|xr|divmod|all|sum|list|tuple|sorted|qP|BX|str1
 |ix|rev|Za|Iu|mult|zm
 |count|index|repr
inductive Kd where
 |int|bool|str|tuple|list|dict|cls (c:Nat)|rR
mutual
inductive E where
 |c (d:D)
 |v (i:Nat)
 |pr (fz:Bool) (p:Pr) (xs:Es)
 |zp (p q:Pr) (a b c:E)
 |ch3 (p q r:Pr) (a b c d:E)
 |and (a b:E)
 |or (a b:E)
 |not (a:E)
 |ite (c a b:E)
 |tup (xs:Es)
 |lst (fz:Bool) (xs:Es)
 |Iv (k:Str) (i:Int)
 |call (f:Nat) (xs:Es)
 |qQ (a:E) (k:Kd)
 |sl (fz:Bool) (a:E) (lo hi:Eo)
 |meth (fz:Bool) (p:Pr) (k:Kd) (o:E) (xs:Es)
 |push (o a:E)
 |pop (o:E)
 |comp (fz:Bool) (elt:E) (tg:List Nat) (it:Wk) (fr:List Nat) (many:Nat) (cond:Eo)
 |lU (fz:Bool) (elt:E) (tg:List Nat) (it:Wk) (Iw:List Nat) (zj:Wk) (fr:List Nat) (many:Nat) (cond:Eo)
 |fld (o:E) (cs:List Nat) (i:Nat)
 |of (o:E) (c i:Nat)
 |mk (c f:Nat) (xs:Es)
 |cm (c f:Nat) (o:E) (xs:Es)
 |rT
 |BZ (b:Bool) (k d:E)
 |pY (d k:E)
 |Ew (a:E)
 |Iz (fz:Bool) (a:E) (b:E)
 |orv (a b:E)
 |ins (o i a:E)
 |no
inductive Wk where
 |seq (e:E)
 |rg (a b:E)
 |zip (a b:E)
 |enum (a:E)
 |rrg (a:E)
inductive Es where
 |nil
 |cons (a:E) (r:Es)
inductive Eo where
 |no
 |yes (a:E)
end
noncomputable abbrev Ea(a:E):Es:=.cons a .nil
noncomputable abbrev Eb(a b:E):Es:=.cons a (.cons b .nil)
noncomputable abbrev Ec(a b c:E):Es:=.cons a (.cons b (.cons c .nil))
noncomputable abbrev Ei(a b:E):E:=.pr true .ix (.cons a (.cons b .nil))
noncomputable abbrev Ci(i:Int):E:=.c (.int i)
noncomputable def Es.len:Es->Nat
 |.nil=>0
 |.cons _ r=>r.len+1
inductive Tg where
 |nm (i:Nat)
 |tp (is:List Nat)
 |aq (o i:E)
mutual
inductive St where
 |pass
 |ex (e:E)
 |asg (t:Tg) (e:E)
 |par (i j:Nat) (a b:E)
 |aug (i:Nat) (e:E)
 |ret (e:E)
 |rise (c:Nat) (kp:Bool) (xs:Es)
 |iff (c:E) (t e:cg)
 |wh (c:E) (b:cg)
 |fr (t:Tg) (w:Wk) (b:cg)
 |Sq (b:cg) (d:Nat) (i:Nat) (h:cg)
 |dput (d k v:E)
 |no
inductive cg where
 |nil
 |cons (a:St) (r:cg)
end
noncomputable def dF(eq:D->D->Option Bool):List D->List D->Option Bool
 |[],[]=>some true
 |[],_::_=>some false
 |_::_,[]=>some false
 |x::xs,y::ys=>match eq x y,dF eq xs ys with
  |some a,some b=>some (a&&b)
  |_,_=>none
noncomputable def kq:D->Option Nat
 |.non=>some 0
 |.bl _=>some 1
 |.int _=>some 1
 |.str _=>some 2
 |.tup _=>some 3
 |.fl _=>some 4
 |_=>none
noncomputable def cZ:Nat->D->D->Option Bool
 |n+1,.tup xs,.tup ys=>dF (cZ n) xs ys
 |n+1,.fl xs,.fl ys=>dF (cZ n) xs ys
 |_,.non,.non=>some true
 |_,.bl a,.bl b=>some (a==b)
 |_,.int a,.int b=>some (a==b)
 |_,.str a,.str b=>some (a==b)
 |_,.bl a,.int b=>some ((if a then 1 else 0)==b)
 |_,.int a,.bl b=>some (a==(if b then 1 else 0))
 |_,a,b=>match kq a,kq b with
  |some i,some j=>if i=j then none else some false
  |_,_=>none
noncomputable def cI:List D->Option (List Int)
 |[]=>some []
 |.int i::r=>(cI r).map (i::·)
 |_=>none
noncomputable def ltI:List Int->List Int->Bool
 |_,[]=>false
 |[],_::_=>true
 |x::xs,y::ys=>if x=y then ltI xs ys else decide (x<y)
noncomputable def eU:List D->Option (List Bool)
 |[]=>some []
 |.bl b::r=>(eU r).map (b::·)
 |_=>none
noncomputable def cut{α:Type}(xs:List α)(lo hi:Option Int):List α:=(xs.drop (HT.b_ xs.length 0 lo)).take (HT.b_ xs.length xs.length hi-HT.b_ xs.length 0 lo)
noncomputable def lC:D->Option (List D)
 |.tup xs=>some xs
 |.fl xs=>some xs
 |_=>none
noncomputable def cutD(x:D)(lo hi:Option Int):Option Rz:=match x with
 |.tup xs=>some (.dat (.tup (cut xs lo hi)))
 |.fl xs=>some (.nw (cut xs lo hi))
 |_=>none
noncomputable def memD(d:D):List D->Option Bool
 |[]=>some false
 |x::r=>match cZ 50 x d,memD d r with
  |some a,some b=>some (a||b)
  |_,_=>none
noncomputable def B_:Kd->D->Bool
 |.list,.fl _=>true
 |.str,.str _=>true
 |.dict,.fd _ _=>true
 |_,_=>false
noncomputable def dG(f:Int->Int->Option D):List D->Option Rz
 |[.int i,.int j]=>(f i j).map .dat
 |_=>none
noncomputable def qR(f:Int->D):List D->Option Rz
 |[.int i]=>some (.dat (f i))
 |_=>none
noncomputable def rW(f:List D->Option Rz):List D->Option Rz
 |[a]=>(lC a).bind f
 |_=>none
noncomputable def Ca:List D->Option Rz
 |[.int i,.int j]=>some (.dat (.int (i+j)))
 |[.tup xs,.tup ys]=>if xs.length+ys.length<=sizeLine then some (.dat (.tup (xs++ys))) else none
 |[.fl xs,.fl ys]=>if xs.length+ys.length<=sizeLine then some (.nw (xs++ys)) else none
 |[.str x,.str y]=>if x.length+y.length<=sizeLine then some (.dat (.str (x++y))) else none
 |_=>none
noncomputable def IK:List D->Option Rz
 |[.int i,.int j]=>some (.dat (.bl (decide (i<j))))
 |[.tup xs,.tup ys]=>match cI xs,cI ys with
  |some a,some b=>some (.dat (.bl (ltI a b)))
  |_,_=>none
 |_=>none
noncomputable def zu(f:Bool->Bool):List D->Option Rz
 |[a,b]=>(cZ 50 a b).map λk=>.dat (.bl (f k))
 |_=>none
noncomputable def zx(f:Bool->Bool):List D->Option Rz
 |[a,b]=>((lC b).bind (memD a)).map λk=>.dat (.bl (f k))
 |_=>none
noncomputable def D.uF:D->Bool
 |.non=>true
 |_=>false
noncomputable def Cd(f:Bool->Bool):List D->Option Rz
 |[a]=>some (.dat (.bl (f a.uF)))
 |_=>none
noncomputable def IV:List D->Option Rz
 |[.int i]=>some (.dat (.int i))
 |[.bl k]=>some (.dat (.int (if k then 1 else 0)))
 |_=>none
noncomputable def Ce:List D->Option Rz
 |[.fl xs]=>(eU xs).map λbs=>.dat (.bl (bs.all id))
 |_=>none
noncomputable def dH:List D->Option (List Int)
 |[]=>some []
 |.int i::r=>(dH r).map (i::·)
 |_=>none
noncomputable def best(bt:Int->Int->Bool)(i:Int)(is:List Int):Int:=is.foldl (λm j=>if bt j m then j else m) i
noncomputable def oH(bt:Int->Int->Bool):Option (List Int)->Option Rz
 |some (i::is)=>some (.dat (.int (best bt i is)))
 |_=>none
noncomputable def qT(bt:Int->Int->Bool):List D->Option Rz
 |[a]=>(lC a).bind λxs=>oH bt (dH xs)
 |_=>none
noncomputable def okR(i j:Int):Bool:=decide (-(2^62)<=i/\i<2^62/\-(2^62)<=j/\j<2^62/\(j-i).toNat<=65536)
noncomputable def IW(i:Int)(n:Nat):List D:=(List.range n).map λk=>.int (i+(k:Nat))
noncomputable def Ss:List D->Option Rz
 |[.int j]=>if okR 0 j then some (.nw (IW 0 (j-0).toNat)) else none
 |[.int i,.int j]=>if okR i j then some (.nw (IW i (j-i).toNat)) else none
 |_=>none
noncomputable def Cg:List D->Option Rz
 |[.int j]=>if okR 0 j then some (.dat (.tup (IW 0 (j-0).toNat))) else none
 |_=>none
noncomputable def pZ:List D->Option Rz
 |[a]=>(lC a).map λxs=>.dat (.tup xs)
 |_=>none
noncomputable def Sv:List D->Option Rz
 |[a,.int i]=>((lC a).bind λxs=>L2.qJ xs i).map .dat
 |_=>none
noncomputable def lD:List D->List D->Option Bool
 |[],ys=>some (decide (0<ys.length))
 |_::_,[]=>some false
 |.int x::xs,.int y::ys=>if x=y then lD xs ys else some (decide (x<y))
 |_::_,_::_=>none
noncomputable def tG(xs:List D)(i j:Nat):Option Bool:=match xs[i]?,xs[j]? with
 |some (.int x),some (.int y)=>some (decide (x<y))
 |some (.tup us),some (.tup ws)=>lD us ws
 |_,_=>none
noncomputable def gb(b:List Int):List (List Int)->List Int
 |[]=>b
 |x::r=>gb (if ltI x b=true then x else b) r
noncomputable def j9:List D->Option (List (List Int))
 |[]=>some []
 |.tup xs::r=>match cI xs,j9 r with
  |some a,some b=>some (a::b)
  |_,_=>none
 |_=>none
noncomputable def oJ:List D->Option Rz
 |[.fl xs]=>match j9 xs with
  |some (x::r)=>some (.dat (.tup ((gb x r).map .int)))
  |_=>none
 |_=>none
noncomputable def iu:D->Bool
 |.int _=>true
 |_=>false
noncomputable def gj:D->Bool
 |.tup (.int _::_)=>true
 |_=>false
noncomputable def oK(lt:Nat->Nat->Option Bool)(xs:List D):Option (List D):=if xs.length<2 then some xs else if xs.length<64 then (match L2.bQ lt (PySem.W.kas_sort xs.length) with
  |some p=>if p.size=xs.length then some (p.toList.map λi=>xs.getD i .non) else none
  |none=>none) else none
noncomputable def pG(xs:List D):Option (List D):=if xs.all iu||xs.all gj then oK (tG xs) xs else none
noncomputable def m7:List D->Option Rz
 |[.fl xs]=>(pG xs).map .nw
 |_=>none
noncomputable def ltK(ks:List Int)(i j:Nat):Option Bool:=match ks[i]?,ks[j]? with
 |some x,some y=>some (decide (x<y))
 |_,_=>none
noncomputable def Cj:List D->Option Rz
 |[.tup xs]=>some (.dat (.tup xs.reverse))
 |_=>none
noncomputable def Cm:List D->Option Rz
 |[.fl xs,.bl b]=>(eU xs).map λbs=>.dat (.int (bs.count b))
 |_=>none
noncomputable def Cp:List D->Option Rz
 |[.fl xs,.bl b]=>((eU xs).bind λbs=>bs.idxOf? b).map λ(i:Nat)=>.dat (.int i)
 |_=>none
noncomputable def Sw:List D->Option Rz
 |[.int i]=>if i.natAbs<2^62 then some (.dat (.str (Str.ofString (toString i)))) else none
 |_=>none
noncomputable def Sx(f:D->Option PyData):List D->Option (List PyData)
 |[]=>some []
 |x::r=>match f x,Sx f r with
  |some a,some b=>some (a::b)
  |_,_=>none
noncomputable def pd:Nat->D->Option PyData
 |n+1,.tup xs=>(Sx (pd n) xs).map .tuple
 |n+1,.fl xs=>(Sx (pd n) xs).map .list
 |_,.non=>some .none
 |_,.bl b=>some (.bool b)
 |_,.int i=>some (.int i)
 |_,.str x=>some (.str x)
 |_,_=>none
noncomputable def pdT:D->Option PyData
 |.fd [.str k] [.int i]=>some (.dict [(.str k,.int i)])
 |x=>pd 40 x
noncomputable def shw(d:PyData):Option Rz:=if d.showable=true/\d.shown.length<=sizeLine then some (.dat (.str d.shown)) else none
noncomputable def I8:List D->Option Rz
 |[x]=>(pdT x).bind shw
 |_=>none
noncomputable def zy:List (Int×Int):=[(0,1),(0,2),(0,3),(0,4),(0,5),(0,6),(0,7),(1,2),(1,3),(1,4),(1,5),(1,6),(1,7),(2,3),(2,4),(2,5),(2,6),(2,7),(3,4),(3,5),(3,6),(3,7),(4,5),(4,6),(4,7),(5,6),(5,7),(6,7)]
noncomputable def ss(ts:List (Int×Int)):List (Int×Int):=zy.filter λt=>ts.contains t
noncomputable def Sy:D->Option (Int×Int)
 |.tup [.int a,.int b]=>if 0<=a/\a<b/\b<8 then some (a,b) else none
 |_=>none
noncomputable def zA:List D->Option (List (Int×Int))
 |[]=>some []
 |x::r=>match Sy x,zA r with
  |some a,some b=>some (a::b)
  |_,_=>none
noncomputable def pSs:List D->Option Rz
 |[.tup xs]=>(zA xs).map λts=>.nw ((ss ts).map λp=>.tup [.int p.1,.int p.2])
 |_=>none
noncomputable def I9(is:List Int):Bool:=decide (is.length<=1000)&&is.all λi=>decide (-1000000<=i/\i<=1000000)
noncomputable def SJ(is:List Int):Option Rz:=match I9 is with
 |true=>some (.dat (.int is.sum))
 |false=>none
noncomputable def SM:List D->Option Rz
 |[a]=>(lC a).bind λxs=>(dH xs).bind SJ
 |_=>none
noncomputable def m8:List Int->List Int
 |[]=>[]
 |x::r=>if r.contains x then m8 r else x::m8 r
noncomputable def I_:List D->Option Rz
 |[.tup xs]=>(dH xs).map λis=>.dat (.int (m8 is).length)
 |_=>none
noncomputable def rep{α:Type}(xs:List α)(n:Nat):List α:=(List.replicate n xs).flatten
noncomputable def Ja:List D->Option Rz
 |[.fl xs,.int n]=>if 0<=n/\n<=1000/\xs.length<=1000 then some (.nw (rep xs n.toNat)) else none
 |_=>none
noncomputable def Cq:List D->Option Rz
 |[.tup xs]=>if xs.all iu=true then (pG xs).map .nw else none
 |_=>none
noncomputable def Jc:List D->Option Rz
 |[.tup xs,.int n]=>if 1<=n/\n<=1000/\1<=xs.length/\xs.length<=1000 then some (.dat (.tup (rep xs n.toNat))) else none
 |_=>none
noncomputable def xu:D->Option Bool
 |.non=>some false
 |.bl b=>some b
 |.int i=>some (i != 0)
 |.tup xs=>some (!xs.isEmpty)
 |.fl xs=>some (!xs.isEmpty)
 |_=>none
noncomputable def prim:Pr->List D->Option Rz
 |.add=>Ca
 |.aq=>dG λi j=>some (.int (i-j))
 |.mul=>dG λi j=>if (-(2^64)<i/\i<2^64)\/(-(2^64)<j/\j<2^64) then some (.int (i*j)) else none
 |.fdiv=>dG λi j=>if 0<j/\j<1073741824 then some (.int (i/j)) else none
 |.mod=>dG λi j=>if 0<j then some (.int (i%j)) else none
 |.pow=>dG λi j=>if 0<=j/\j<=1000000/\i.natAbs<2^64 then some (.int (i^j.toNat)) else none
 |.neg=>qR λi=>.int (-i)
 |.eq=>zu id
 |.ne=>zu not
 |.lt=>IK
 |.le=>dG λi j=>some (.bl (decide (i<=j)))
 |.gt=>dG λi j=>some (.bl (decide (j<i)))
 |.ge=>dG λi j=>some (.bl (decide (j<=i)))
 |.inn=>zx id
 |.nin=>zx not
 |.vU=>Cd id
 |.tD=>Cd not
 |.len=>rW λxs=>some (.dat (.int xs.length))
 |.abs=>qR λi=>.int (if i<0 then -i else i)
 |.max2=>dG λi j=>some (.int (if j>i then j else i))
 |.min2=>dG λi j=>some (.int (if j<i then j else i))
 |.xr=>IV
 |.divmod=>dG λi j=>if 0<j/\j<1073741824 then some (.tup [.int (i/j),.int (i%j)]) else none
 |.all=>Ce
 |.Za=>Ss
 |.rP=>qT λa b=>decide (a>b)
 |.Ir=>qT λa b=>decide (a<b)
 |.rQ=>oJ
 |.Eu=>Cg
 |.list=>rW λxs=>some (.nw xs)
 |.tuple=>pZ
 |.ix=>Sv
 |.rev=>Cj
 |.sorted=>m7
 |.qP=>pSs
 |.Iu=>Ja
 |.mult=>Jc
 |.zm=>Cq
 |.sum=>SM
 |.BX=>I_
 |.count=>Cm
 |.index=>Cp
 |.repr=>I8
 |.str1=>Sw
noncomputable def lV(aq:Nat->Nat->Bool):D->Kd->Option Bool
 |.exc c _,.cls e=>some (aq c e)
 |.exc _ _,.rR=>some true
 |.exc _ _,_=>none
 |.ob _ _,_=>none
 |.any,_=>none
 |_,.cls _=>none
 |_,.rR=>none
 |.bl _,.bool=>some true
 |.bl _,.int=>some true
 |.bl _,_=>some false
 |.int _,.int=>some true
 |.int _,_=>some false
 |.non,_=>some false
 |.str _,.str=>some true
 |.str _,_=>some false
 |.tup _,.tuple=>some true
 |.tup _,_=>some false
 |.fl _,.list=>some true
 |.fl _,_=>some false
 |.fd _ _,.dict=>some true
 |.fd _ _,_=>some false
noncomputable def rd(x:Xv):M D:=λs=>match x with
 |.d v=>some (.ok v,s)
 |.l n=>match s[n]? with
  |some (.lst xs)=>some (.ok (.fl xs),s)
  |_=>none
noncomputable def gW:List Xv->M (List D)
 |[]=>M.ret []
 |x::r=>M.bd (rd x) λd=>M.bd (gW r) λds=>M.ret (d::ds)
noncomputable def dat(x:Xv):M D:=match x with
 |.d v=>M.ret v
 |.l _=>M.no
noncomputable def cL:List Xv->M (List D)
 |[]=>M.ret []
 |x::r=>M.bd (dat x) λd=>M.bd (cL r) λds=>M.ret (d::ds)
noncomputable def bool(x:Xv):M Bool:=match x with
 |.d (.bl b)=>M.ret b
 |_=>M.no
noncomputable def int(x:Xv):M Int:=match x with
 |.d (.int b)=>M.ret b
 |_=>M.no
noncomputable def newL(fz:Bool)(xs:List D):M Xv:=match fz with
 |true=>M.ret (.d (.fl xs))
 |false=>λs=>some (.ok (.l s.length),s++[.lst xs])
noncomputable def cF(fz:Bool)(o:Option Rz):M Xv:=match o with
 |some (.dat d)=>M.ret (.d d)
 |some (.nw xs)=>newL fz xs
 |none=>M.no
noncomputable def dh(x:Xv):M (Nat×List D):=λs=>match x with
 |.l n=>match s[n]? with
  |some (.lst xs)=>some (.ok (n,xs),s)
  |_=>none
 |_=>none
noncomputable def putL(n:Nat)(xs:List D):M Unit:=λs=>some (.ok (),s.set n (.lst xs))
noncomputable def uG:D->Option Kx
 |.non=>some .non
 |.int i=>some (.int i)
 |.tup xs=>(cI xs).map .row
 |_=>none
noncomputable def Cr:List D->Option (List Kx)
 |[]=>some []
 |x::r=>match uG x,Cr r with
  |some a,some b=>some (a::b)
  |_,_=>none
noncomputable def kOf:D->Option (List Kx)
 |.tup xs=>Cr xs
 |_=>none
noncomputable abbrev jd:=List (List Kx×D)
noncomputable def cB(k:List Kx):jd->Option D
 |[]=>none
 |p::r=>if p.1=k then some p.2 else cB k r
noncomputable def jJ(k:List Kx)(d:D)(r:jd):jd:=if (cB k r).isSome=true then r.map λp=>if p.1=k then (p.1,d) else p else r++[(k,d)]
noncomputable def gq(x:Xv):M (Nat×jd):=λs=>match x with
 |.l n=>match s[n]? with
  |some (.dct kvs)=>some (.ok (n,kvs),s)
  |_=>none
 |_=>none
noncomputable def putD(n:Nat)(kvs:jd):M Unit:=λs=>some (.ok (),s.set n (.dct kvs))
noncomputable def key(x:Xv):M (List Kx):=match x with
 |.d v=>M.opt (kOf v)
 |.l _=>M.no
noncomputable def enumFrom:Nat->List D->List D
 |_,[]=>[]
 |i,x::r=>.tup [.int i,x]::enumFrom (i+1) r
inductive Src where
 |fix (xs:List D)|live (n:Nat)|lW (n:Nat)
noncomputable def Src.at(c:Src)(i:Nat)(s:S):Option (Option D):=match c with
 |.fix xs=>some xs[i]?
 |.live n=>match s[n]? with
  |some (.lst xs)=>some xs[i]?
  |_=>none
 |.lW n=>match s[n]? with
  |some (.lst xs)=>some (xs[i]?.map λx=>.tup [.int i,x])
  |_=>none
noncomputable def oM(x:Xv):M (Src×Nat):=λs=>match x with
 |.d (.tup xs)=>some (.ok (.fix (enumFrom 0 xs),(enumFrom 0 xs).length),s)
 |.d (.fl xs)=>some (.ok (.fix (enumFrom 0 xs),(enumFrom 0 xs).length),s)
 |.l n=>match s[n]? with
  |some (.lst xs)=>some (.ok (.lW n,xs.length),s)
  |_=>none
 |_=>none
noncomputable def src(x:Xv):M (Src×Nat):=λs=>match x with
 |.d (.tup xs)=>some (.ok (.fix xs,xs.length),s)
 |.d (.fl xs)=>some (.ok (.fix xs,xs.length),s)
 |.l n=>match s[n]? with
  |some (.lst xs)=>some (.ok (.live n,xs.length),s)
  |_=>none
 |_=>none
noncomputable def p7(x:Xv):M (List D):=match x with
 |.d (.tup xs)=>M.ret xs
 |.d (.fl xs)=>M.ret xs
 |_=>M.no
noncomputable def jK(a b:Int):List D:=(List.range (b-a).toNat).map λ(i:Nat)=>.int (a+i)
noncomputable def gw(a:Int):Bool:=decide (-(2^62)<a)&&decide (a<2^62)
noncomputable def walk(c:Src)(f:D->List D->M (List D)):Nat->Nat->List D->M (List D)
 |0,_,_=>M.no
 |k+1,i,acc=>λs=>match c.at i s with
  |none=>none
  |some none=>some (.ok acc,s)
  |some (some x)=>M.bd (f x acc) (λacc'=>walk c f k (i+1) acc') s
noncomputable def zB(f:D->M Xv):List D->M (List Int)
 |[]=>M.ret []
 |x::r=>M.bd (M.qt (f x)) λy=>M.bd (int y) λk=>M.bd (zB f r) λks=>M.ret (k::ks)
noncomputable abbrev Vs:=List (Option Xv)
noncomputable abbrev Fn:=Nat->List Xv->M Xv
noncomputable def locs:List Xv->List Nat
 |[]=>[]
 |.d _::r=>locs r
 |.l n::r=>n::locs r
noncomputable def dX:Nat->List Xv->List Xv
 |_,[]=>[]
 |k,.d v::r=>.d v::dX k r
 |k,.l _::r=>.l k::dX (k+1) r
noncomputable def jL(s:S):List Nat->Option S
 |[]=>some []
 |n::r=>match s[n]?,jL s r with
  |some o,some q=>some (o::q)
  |_,_=>none
noncomputable def dI(s:S):List Nat->S->S
 |n::r,o::q=>dI (s.set n o) r q
 |_,_=>s
noncomputable def cP(F:List Xv->M Xv)(xs:List Xv):M Xv:=λs=>
 if (locs xs).Nodup then match jL s (locs xs) with
  |none=>none
  |some s0=>match F (dX 0 xs) s0 with
   |none=>none
   |some (.er c fs,s1)=>some (.er c fs,dI s (locs xs) s1)
   |some (.ok (.d v),s1)=>some (.ok (.d v),dI s (locs xs) s1)
   |some (.ok (.l n),s1)=>match (locs xs)[n]? with
    |some m=>some (.ok (.l m),dI s (locs xs) s1)
    |none=>match s1[n]? with
     |some o=>some (.ok (.l s.length),dI s (locs xs) s1++[o])
     |none=>none
 else none
noncomputable def SN(F:List Xv->M Xv)(c:Nat)(vs:List Xv):M Xv:=λs=>
 if locs vs=[] then match F (.d .any::vs) [] with
  |some (.ok (.d (.tup ds)),_)=>some (.ok (.d (.ob c ds)),s)
  |_=>none
 else none
noncomputable def qb(c:Nat)(x:Xv):M (List D):=match x with
 |.d (.ob e fs)=>if e=c then M.ret fs else M.no
 |_=>M.no
noncomputable def gA{α:Type}:List Nat->List α->List (Option α)->Option (List (Option α))
 |[],[],J=>some J
 |i::is,d::ds,J=>gA is ds (J.set i (some d))
 |_,_,_=>none
noncomputable def j_:D->Option (List D)
 |.tup xs=>some xs
 |_=>none
noncomputable def dj(tg:List Nat)(x:D)(J:Vs):Option Vs:=match tg with
 |[i]=>some (J.set i (some (.d x)))
 |is=>(j_ x).bind λds=>gA is (ds.map .d) J
noncomputable def blk(many:Nat)(fr:List Nat)(J:Vs):Vs:=List.replicate many none++fr.map λj=>J[j]?.join
section
variable (aq:Nat->Nat->Bool)(aj:Bool)(F:Fn)
mutual
noncomputable def ev:E->Vs->M Xv
 |.c d,_=>M.ret (.d d)
 |.v i,J=>M.opt (J[i]?.join)
 |.pr fz p xs,J=>M.bd (evs xs J) λvs=>M.bd (gW vs) λds=>cF fz (prim p ds)
 |.zp p q a b c,J=>M.bd (ev a J) λx=>M.bd (ev b J) λy=>M.bd (gW [x,y]) λds=>M.bd (cF true (prim p ds)) λt=>M.bd (bool t) λk=>
   if k=true then M.bd (ev c J) λz=>M.bd (gW [y,z]) λds=>cF true (prim q ds) else M.ret (.d (.bl false))
 |.ch3 p q r a b c d,J=>M.bd (ev a J) λx=>M.bd (ev b J) λy=>M.bd (gW [x,y]) λds=>M.bd (cF true (prim p ds)) λt=>M.bd (bool t) λk=>
   if k=true then M.bd (ev c J) λz=>M.bd (gW [y,z]) λds=>M.bd (cF true (prim q ds)) λt=>M.bd (bool t) λk2=>
    if k2=true then M.bd (ev d J) λw=>M.bd (gW [z,w]) λds=>cF true (prim r ds) else M.ret (.d (.bl false))
   else M.ret (.d (.bl false))
 |.and a b,J=>M.bd (ev a J) λx=>M.bd (bool x) λk=>if k=true then ev b J else M.ret (.d (.bl false))
 |.or a b,J=>M.bd (ev a J) λx=>M.bd (bool x) λk=>if k=true then M.ret (.d (.bl true)) else ev b J
 |.not a,J=>M.bd (ev a J) λx=>M.bd (bool x) λk=>M.ret (.d (.bl (!k)))
 |.ite c a b,J=>M.bd (ev c J) λx=>M.bd (bool x) λk=>if k=true then ev a J else ev b J
 |.tup xs,J=>M.bd (evs xs J) λvs=>M.bd (cL vs) λds=>M.ret (.d (.tup ds))
 |.lst fz xs,J=>M.bd (evs xs J) λvs=>M.bd (cL vs) λds=>newL fz ds
 |.Iv k i,_=>M.ret (.d (.fd [.str k] [.int i]))
 |.call f xs,J=>M.bd (evs xs J) λvs=>cP (F f) vs
 |.qQ a k,J=>M.bd (ev a J) λx=>M.bd (rd x) λd=>M.bd (M.opt (lV aq d k)) λb=>M.ret (.d (.bl b))
 |.sl fz a lo hi,J=>M.bd (ev a J) λx=>M.bd (xG lo J) λl=>M.bd (xG hi J) λh=>M.bd (rd x) λd=>cF fz (cutD d l h)
 |.meth fz p k o xs,J=>M.bd (ev o J) λx=>M.bd (rd x) λd=>if B_ k d=true then M.bd (evs xs J) λys=>M.bd (gW (x::ys)) λds=>cF fz (prim p ds) else M.no
 |.push o a,J=>M.bd (ev o J) λx=>M.bd (dh x) λ_=>M.bd (ev a J) λy=>M.bd (dat y) λd=>M.bd (dh x) λnx=>if nx.2.length<sizeLine then M.bd (putL nx.1 (nx.2++[d])) λ_=>M.ret (.d .non) else M.no
 |.pop o,J=>M.bd (ev o J) λx=>M.bd (dh x) λnx=>match nx.2.getLast? with
   |some d=>M.bd (putL nx.1 nx.2.dropLast) λ_=>M.ret (.d d)
   |none=>M.no
 |.comp fz elt tg it fr many cond,J=>if aj=true then M.bd (iB it J) λcn=>
   M.bd (walk cn.1 (λd acc=>M.bd (M.opt (dj tg d (blk many fr J))) λJ'=>M.bd (M.qt (m9 cond J')) λok=>
    if ok=true then M.bd (M.qt (ev elt J')) λy=>M.bd (dat y) λe=>if acc.length<sizeLine then M.ret (acc++[e]) else M.no else M.ret acc) (cn.2+1) 0 []) λxs=>newL fz xs
  else M.no
 |.lU fz elt tg it Iw zj fr many cond,J=>if aj=true then M.bd (iB it J) λcn=>
   M.bd (walk cn.1 (λd acc=>M.bd (M.opt (dj tg d (blk many fr J))) λJ'=>M.bd (M.qt (iB zj J')) λqd=>
    walk qd.1 (λd2 acc=>M.bd (M.opt (dj Iw d2 J')) λZb=>M.bd (M.qt (m9 cond Zb)) λok=>
     if ok=true then M.bd (M.qt (ev elt Zb)) λy=>M.bd (dat y) λe=>if acc.length<sizeLine then M.ret (acc++[e]) else M.no else M.ret acc) (qd.2+1) 0 acc) (cn.2+1) 0 []) λxs=>newL fz xs
  else M.no
 |.fld o cs i,J=>M.bd (ev o J) λx=>match x with
   |.d (.exc c fs)=>if cs.contains c=true then M.opt (fs[i]?.map .d) else M.no
   |_=>M.no
 |.of o c i,J=>M.bd (ev o J) λx=>M.bd (qb c x) λfs=>M.opt (fs[i]?.map .d)
 |.mk c f xs,J=>M.bd (evs xs J) λvs=>SN (F f) c vs
 |.cm c f o xs,J=>M.bd (ev o J) λx=>M.bd (qb c x) λ_=>M.bd (evs xs J) λvs=>M.qt (cP (F f) (x::vs))
 |.rT,_=>λs=>some (.ok (.l s.length),s++[.dct []])
 |.BZ b k d,J=>M.bd (ev k J) λx=>M.bd (ev d J) λy=>M.bd (key x) λkx=>M.bd (gq y) λnk=>M.ret (.d (.bl ((cB kx nk.2).isSome==b)))
 |.pY d k,J=>M.bd (ev d J) λy=>M.bd (ev k J) λx=>M.bd (key x) λkx=>M.bd (gq y) λnk=>M.opt ((cB kx nk.2).map .d)
 |.Ew a,J=>M.bd (ev a J) λx=>M.bd (rd x) λd=>M.bd (M.opt (xu d)) λk=>M.ret (.d (.bl k))
 |.Iz fz a b,J=>if aj=true then M.bd (ev a J) λx=>match x with
   |.d (.fl xs)=>M.bd (zB (λd=>ev b [some (.d d)]) xs) λks=>M.bd (M.opt (oK (ltK ks) xs)) λys=>newL fz ys
   |_=>M.no else M.no
 |.orv a b,J=>M.bd (ev a J) λx=>M.bd (rd x) λd=>M.bd (M.opt (xu d)) λk=>if k=true then M.ret x else ev b J
 |.ins o i a,J=>M.bd (ev o J) λx=>M.bd (dh x) λ_=>M.bd (ev i J) λz=>M.bd (int z) λj=>M.bd (ev a J) λy=>M.bd (dat y) λd=>M.bd (dh x) λnx=>if 0<=j/\j<=nx.2.length/\nx.2.length<sizeLine then M.bd (putL nx.1 (nx.2.take j.toNat++d::nx.2.drop j.toNat)) λ_=>M.ret (.d .non) else M.no
 |.no,_=>M.no
noncomputable def iB:Wk->Vs->M (Src×Nat)
 |.seq e,J=>M.bd (ev e J) src
 |.rg a b,J=>M.bd (ev a J) λx=>M.bd (ev b J) λy=>M.bd (int x) λi=>M.bd (int y) λj=>if gw i&&gw j then M.ret (.fix (jK i j),(jK i j).length) else M.no
 |.zip a b,J=>M.bd (ev a J) λx=>M.bd (ev b J) λy=>M.bd (p7 x) λxs=>M.bd (p7 y) λys=>M.ret (.fix (List.zipWith (λp q=>.tup [p,q]) xs ys),(List.zipWith (λ(p q:D)=>D.tup [p,q]) xs ys).length)
 |.enum a,J=>M.bd (ev a J) oM
 |.rrg a,J=>M.bd (ev a J) λx=>M.bd (int x) λi=>if gw i then M.ret (.fix (jK 0 i).reverse,(jK 0 i).length) else M.no
noncomputable def xG:Eo->Vs->M (Option Int)
 |.no,_=>M.ret none
 |.yes a,J=>M.bd (ev a J) λx=>M.bd (int x) λi=>M.ret (some i)
noncomputable def m9:Eo->Vs->M Bool
 |.no,_=>M.ret true
 |.yes a,J=>M.bd (ev a J) bool
noncomputable def evs:Es->Vs->M (List Xv)
 |.nil,_=>M.ret []
 |.cons a r,J=>M.bd (ev a J) λx=>M.bd (evs r J) λxs=>M.ret (x::xs)
end
end
inductive Out where
 |nx (J:Vs)|rt (x:Xv)|bk (J:Vs)|ct (J:Vs)|er (c:Nat) (fs:List D) (J:Vs)
noncomputable abbrev MS:=S->Option (Out×S)
noncomputable def ofM{α:Type}(m:M α)(J:Vs)(k:α->MS):MS:=λs=>match m s with
 |some (.ok a,s')=>k a s'
 |some (.er c fs,s')=>some (.er c fs J,s')
 |none=>none
noncomputable def cQ(m:MS)(k:Vs->MS):MS:=λs=>match m s with
 |some (.nx J,s')=>k J s'
 |r=>r
section
variable (aq:Nat->Nat->Bool)
noncomputable def store(aj:Bool)(F:Fn)(t:Tg)(x:Xv)(J:Vs):MS:=match t with
 |.nm i=>λs=>some (.nx (J.set i (some x)),s)
 |.tp is=>if aj=true then ofM (M.bd (dat x) λd=>M.opt ((j_ d).bind λds=>gA is (ds.map .d) J)) J (λJ' s=>some (.nx J',s)) else λ_=>none
 |.aq o i=>ofM (M.bd (dat x) λd=>M.bd (ev aq aj F o J) λy=>M.bd (ev aq aj F i J) λz=>M.bd (int z) λj=>M.bd (dh y) λnx=>
   match L2.rO nx.2.length j with
   |some q=>putL nx.1 (nx.2.set q d)
   |none=>M.no) J (λ_ s=>some (.nx J,s))
noncomputable def qe(c:Vs->M Bool)(b:Vs->MS):Nat->Vs->MS
 |0,_=>λ_=>none
 |k+1,J=>ofM (c J) J λok=>if ok=true then λs=>match b J s with
   |some (.nx J',s')=>qe c b k J' s'
   |some (.ct J',s')=>qe c b k J' s'
   |some (.bk J',s')=>some (.nx J',s')
   |r=>r
  else λs=>some (.nx J,s)
noncomputable def c7(c:Src)(b:D->Vs->MS):Nat->Nat->Vs->MS
 |0,_,_=>λ_=>none
 |k+1,i,J=>λs=>match c.at i s with
  |none=>none
  |some none=>some (.nx J,s)
  |some (some d)=>match b d J s with
   |some (.nx J',s')=>c7 c b k (i+1) J' s'
   |some (.ct J',s')=>c7 c b k (i+1) J' s'
   |some (.bk J',s')=>some (.nx J',s')
   |r=>r
noncomputable def goes(i:Nat):Out->Out
 |.nx J=>.nx (J.set i none)
 |.bk J=>.bk (J.set i none)
 |.ct J=>.ct (J.set i none)
 |r=>r
noncomputable def Jd:Nat:=1000000000000
mutual
noncomputable def ex(aj:Bool)(F:Bool->Fn):St->Vs->MS
 |.pass,J=>λs=>some (.nx J,s)
 |.ex e,J=>ofM (ev aq aj (F aj) e J) J λ_ s=>some (.nx J,s)
 |.asg t e,J=>ofM (ev aq aj (F aj) e J) J λx=>store aq aj (F aj) t x J
 |.par i j a b,J=>if aj=true then ofM (M.bd (ev aq aj (F aj) a J) λx=>M.bd (ev aq aj (F aj) b J) λy=>M.ret (x,y)) J λxy s=>some (.nx ((J.set i (some xy.1)).set j (some xy.2)),s) else λ_=>none
 |.aug i e,J=>ofM (M.bd (M.opt (J[i]?.join)) λx=>M.bd (ev aq aj (F aj) e J) λy=>M.bd (int x) λp=>M.bd (int y) λq=>M.ret (p+q)) J λr s=>some (.nx (J.set i (some (.d (.int r)))),s)
 |.ret e,J=>ofM (ev aq aj (F aj) e J) J λx s=>some (.rt x,s)
 |.rise c kp xs,J=>if aj=true then ofM (M.bd (evs aq aj (F aj) xs J) cL) J λds s=>some (.er c (if kp=true then ds else []) J,s) else λ_=>none
 |.iff c t e,J=>ofM (M.bd (ev aq aj (F aj) c J) bool) J λb=>if b=true then exs aj F t J else exs aj F e J
 |.wh c b,J=>qe (λJ=>M.bd (ev aq aj (F aj) c J) bool) (λJ=>exs aj F b J) Jd J
 |.fr t w b,J=>if aj=true then ofM (iB aq aj (F aj) w J) J λcn=>c7 cn.1 (λd J=>cQ (store aq aj (F aj) t (.d d) J) λJ'=>exs aj F b J') (cn.2+1) 0 J else λ_=>none
 |.Sq b d i h,J=>if aj=true then λs=>match exs aj F b J s with
   |some (.er c fs J',s')=>if aq c d=true then (match exs false F h (J'.set i (some (.d (.exc c fs)))) s' with
    |some (r,s'')=>(match r with
     |.er _ _ _=>none
     |r=>some (goes i r,s''))
    |none=>none) else none
   |r=>r
  else λ_=>none
 |.dput d k v,J=>ofM (M.bd (ev aq aj (F aj) v J) λz=>M.bd (dat z) λw=>M.bd (ev aq aj (F aj) d J) λy=>M.bd (ev aq aj (F aj) k J) λx=>M.bd (key x) λkx=>M.bd (gq y) λnk=>if nk.2.length<sizeLine then putD nk.1 (jJ kx w nk.2) else M.no) J (λ_ s=>some (.nx J,s))
 |.no,_=>λ_=>none
noncomputable def exs(aj:Bool)(F:Bool->Fn):cg->Vs->MS
 |.nil,J=>λs=>some (.nx J,s)
 |.cons a r,J=>cQ (ex aj F a J) λJ'=>exs aj F r J'
end
structure Df where
 many:Nat
 iK:Nat
 body:cg
noncomputable def call(T:Nat->Option Df):Nat->Bool->Fn
 |0,_,_,_=>M.no
 |k+1,aj,f,xs=>match T f with
  |none=>M.no
  |some d=>if xs.length=d.iK then λs=>match exs aq aj (λc=>call T k c) d.body (xs.map some++List.replicate (d.many-d.iK) none) s with
    |some (.nx _,s')=>some (.ok (.d .non),s')
    |some (.rt v,s')=>some (.ok v,s')
    |some (.er c fs _,s')=>some (.er c fs,s')
    |_=>none
   else M.no
end
end Mi
namespace Mi
open PySem L2
structure Ph where
 z:Addr->Prop
 l:List Addr
structure Cl where
 a:Nat->Addr
 f:Nat->List Str
 b:Nat->Addr
 g:Nat->List Str
section
variable (K:W.Frag)(cA:Cl)
def KT(a:Addr)(vs:List V):Prop:=fZ K (λ_=>none) a vs
def KL(a:Addr)(vs:List V):Prop:=cY K (λ_=>none) a vs
def TupAt(U:Ph)(H:Hp)(a:Addr)(vs:List V):Prop:=(Rd H a (.tup vs)/\¬U.z a)\/KT K a vs
def LstAt(U:Ph)(H:Hp)(a:Addr)(vs:List V):Prop:=(Rd H a (.lst vs)/\¬U.z a)\/KL K a vs
def ExcAt(U:Ph)(H:Hp)(a:Addr)(c:Nat)(vs:List V):Prop:=¬U.z a/\((cA.f c=[]/\vs=[]/\H a=some (xq a (cA.a c) none))\/∃dx,H a=some (xq a (cA.a c) (some dx))/\¬U.z dx/\H dx=some (.xd ((cA.f c).zip vs))/\(cA.f c).length=vs.length)
def qg(U:Ph)(H:Hp)(a:Addr)(c:Nat)(vs:List V):Prop:=¬U.z a/\∃dx,H a=some (.ins (cA.b c) dx ((cA.g c).zip vs))/\(cA.g c).length=vs.length
mutual
inductive Rep (U:Ph) (H:Hp):D->V->Prop where
 |non:Rep U H .non .non
 |bl (b:Bool):Rep U H (.bl b) (.bl b)
 |int (i:Int):Rep U H (.int i) (.int i)
 |str (x:Str):Rep U H (.str x) (.str x)
 |tup {a:Addr} {xs:List D} {vs:List V} (h:TupAt K U H a vs) (r:aC U H xs vs):Rep U H (.tup xs) (.ref a)
 |fl {a:Addr} {xs:List D} {vs:List V} (h:LstAt K U H a vs) (r:aC U H xs vs):Rep U H (.fl xs) (.ref a)
 |fd {a:Addr} {k:Str} {i:Int} (h:H a=some (.dK [(.inr k,.int i)])) (n:¬U.z a):Rep U H (.fd [.str k] [.int i]) (.ref a)
 |exc {a:Addr} {c:Nat} {xs:List D} {vs:List V} (h:ExcAt cA U H a c vs) (r:aC U H xs vs):Rep U H (.exc c xs) (.ref a)
 |ob {a:Addr} {c:Nat} {xs:List D} {vs:List V} (h:qg cA U H a c vs) (r:aC U H xs vs):Rep U H (.ob c xs) (.ref a)
 |any (a:Addr):Rep U H .any (.ref a)
inductive aC (U:Ph) (H:Hp):List D->List V->Prop where
 |nil:aC U H [] []
 |cons {d:D} {v:V} {ds:List D} {vs:List V} (h:Rep U H d v) (r:aC U H ds vs):aC U H (d::ds) (v::vs)
end
inductive aV (U:Ph) (H:Hp):Xv->V->Prop where
 |d {x:D} {v:V} (h:Rep K cA U H x v):aV U H (.d x) v
 |l {n:Nat} {a:Addr} (h:U.l[n]?=some a):aV U H (.l n) (.ref a)
inductive aP (U:Ph) (H:Hp):List Xv->List V->Prop where
 |nil:aP U H [] []
 |cons {d:Xv} {v:V} {ds:List Xv} {vs:List V} (h:aV K cA U H d v) (r:aP U H ds vs):aP U H (d::ds) (v::vs)
noncomputable def SQ:Kx->Int
 |.non=>reduceHash 0xFCA86420
 |.int i=>hashInt i
 |.row is=>reduceHash (Builtin.Tuple.tupleHashOf (is.map hashInt))
noncomputable def qU(k:List Kx):Int:=reduceHash (Builtin.Tuple.tupleHashOf (k.map SQ))
noncomputable def rY:Kx->D
 |.non=>.non
 |.int i=>.int i
 |.row is=>.tup (is.map .int)
noncomputable def ji(k:List Kx):D:=.tup (k.map rY)
noncomputable abbrev m_:=List (List Kx×Addr×Value)
noncomputable def uH(a:Addr)(xs:m_):HO:=.ext λh=>(a==sysModules)=false/\xs.length<=sizeLine/\∃o es ep,h.get? a=some o/\o.ExactDict/\o.data=.dict es ep/\es.toList=xs.map (λx=>⟨qU x.1,.ref x.2.1,x.2.2⟩)/\(xs.map (·.1)).Nodup
inductive jt (U:Ph) (H:Hp):jd->m_->Prop where
 |nil:jt U H [] []
 |cons {k:List Kx} {d:D} {ka:Addr} {u:Value} {v:V} {r:jd} {xs:m_} (hk:Rep K cA U H (ji k) (.ref ka)) (hu:RelV v u) (hv:Rep K cA U H d v) (q:jt U H r xs):jt U H ((k,d)::r) ((k,ka,u)::xs)
noncomputable def kZ(U:Ph)(H:Hp)(a:Addr):SO->Prop
 |.lst xs=>∃vs,H a=some (.lst vs)/\aC K cA U H xs vs
 |.dct kvs=>∃xs,H a=some (uH a xs)/\jt K cA U H kvs xs
structure aF(U:Ph)(H:Hp)(s:S):Prop where
 len:U.l.length=s.length
 obj:∀(n:Nat) o a,s[n]?=some o->U.l[n]?=some a->kZ K cA U H a o
 uniq:U.l.Nodup
 lz:∀a∈U.l,U.z a
 zt:∀a,U.z a->∃o,H a=some o
structure Ext(U:Ph)(H:Hp)(U':Ph)(H':Hp):Prop where
 more:∃r,U'.l=U.l++r/\∀b∈r,H b=none
 rZ:∀a,U.z a->U'.z a
 lE:∀a,U'.z a->U.z a\/H a=none
 frame:∀a o,H a=some o->a∉U.l->H' a=some o
 stay:∀a o,H a=some o->∃o',H' a=some o'
def aY(U:Ph)(H:Hp)(Z:L2.St)(J:Vs):Prop:=Z.length=J.length/\∀(i:Nat) (x:Xv),J[i]?=some (some x)->∃v,Z[i]?=some (some v)/\aV K cA U H x v
end
section
variable {K:W.Frag}{cA:Cl}{U U' kh:Ph}{H H' nj:Hp}{s:S}{Z:L2.St}{J:Vs}
theorem Ext.refl:Ext U H U H:=⟨⟨[],by simp,by simp⟩,λ_ h=>h,λ_ h=>.inl h,λ_ _ h _=>h,λ_ o h=>⟨o,h⟩⟩
theorem Ext.lX(x:Ext U H U' H'){a:Addr}(h:H' a=none):H a=none:=by
 cases e:H a with
 |none=>rfl
 |some o=>obtain⟨o',q⟩:=x.stay a o e;rw[h] at q;cases q
theorem Ext.trans(x:Ext U H U' H')(y:Ext U' H' kh nj):Ext U H kh nj:=by
 obtain⟨r,e,hr⟩:=x.more;obtain⟨r',e',xH⟩:=y.more;refine⟨⟨r++r',by rw[e',e,yL],λb hb=>?_⟩,λa h=>y.rZ a (x.rZ a h),λa h=>?_,λa o h n=>y.frame a o (x.frame a o h n) ?_,λa o h=>?_⟩
 ·rcases jR.mp hb with z|z
  ·exact hr b z
  ·exact x.lX (xH b z)
 ·rcases y.lE a h with z|z
  ·exact x.lE a z
  ·exact .inr (x.lX z)
 ·rw[e];intro z;rcases jR.mp z with z|z
  ·exact n z
  ·rw[hr a z] at h;cases h
 ·obtain⟨o',q⟩:=x.stay a o h;exact y.stay a o' q
theorem Ext.get(x:Ext U H U' H'){n:Nat}{a:Addr}(h:U.l[n]?=some a):U'.l[n]?=some a:=by
 obtain⟨r,e,_⟩:=x.more;rw[e,mF (dO.mp h).1];exact h
theorem Ext.out(x:Ext U H U' H')(hz:∀a∈U.l,U.z a){a:Addr}{o:HO}(h:H a=some o)(n:¬U.z a):H' a=some o/\¬U'.z a:=
 ⟨x.frame a o h λz=>n (hz a z),λz=>by
  rcases x.lE a z with y|y
  ·exact n y
  ·rw[h] at y;cases y⟩
theorem TupAt.mono(x:Ext U H U' H')(hz:∀a∈U.l,U.z a){a:Addr}{vs:List V}(h:TupAt K U H a vs):TupAt K U' H' a vs:=by
 rcases h with ⟨h|⟨o,h⟩,n⟩|h
 ·obtain⟨p,q⟩:=x.out hz h n;exact .inl ⟨.inl p,q⟩
 ·obtain⟨p,q⟩:=x.out hz h n;exact .inl ⟨.inr ⟨o,p⟩,q⟩
 ·exact .inr h
theorem LstAt.mono(x:Ext U H U' H')(hz:∀a∈U.l,U.z a){a:Addr}{vs:List V}(h:LstAt K U H a vs):LstAt K U' H' a vs:=by
 rcases h with ⟨h|⟨o,h⟩,n⟩|h
 ·obtain⟨p,q⟩:=x.out hz h n;exact .inl ⟨.inl p,q⟩
 ·obtain⟨p,q⟩:=x.out hz h n;exact .inl ⟨.inr ⟨o,p⟩,q⟩
 ·exact .inr h
theorem ExcAt.mono(x:Ext U H U' H')(hz:∀a∈U.l,U.z a){a:Addr}{c:Nat}{vs:List V}(h:ExcAt cA U H a c vs):ExcAt cA U' H' a c vs:=by
 obtain⟨n,⟨e1,e2,h⟩|⟨dx,h,n2,h2,h3⟩⟩:=h
 ·obtain⟨p,q⟩:=x.out hz h n;exact⟨q,.inl ⟨e1,e2,p⟩⟩
 ·obtain⟨p,q⟩:=x.out hz h n;obtain⟨p2,q2⟩:=x.out hz h2 n2;exact⟨q,.inr ⟨dx,p,q2,p2,h3⟩⟩
theorem qg.mono(x:Ext U H U' H')(hz:∀a∈U.l,U.z a){a:Addr}{c:Nat}{vs:List V}(h:qg cA U H a c vs):qg cA U' H' a c vs:=by
 obtain⟨n,dx,h,h3⟩:=h;obtain⟨p,q⟩:=x.out hz h n;exact⟨q,dx,p,h3⟩
theorem Rep.mono(x:Ext U H U' H')(hz:∀a∈U.l,U.z a){d:D}{v:V}(h:Rep K cA U H d v):Rep K cA U' H' d v:=
 Rep.rec (motive_1:=λd v _=>Rep K cA U' H' d v) (motive_2:=λd v _=>aC K cA U' H' d v) .non .bl .int .str (λh _ i=>.tup (h.mono x hz) i) (λh _ i=>.fl (h.mono x hz) i) (λh n=>.fd (x.out hz h n).1 (x.out hz h n).2) (λh _ i=>.exc (h.mono x hz) i) (λh _ i=>.ob (h.mono x hz) i) .any .nil (λ_ _ i j=>.cons i j) h
theorem aC.mono(x:Ext U H U' H')(hz:∀a∈U.l,U.z a){d:List D}{v:List V}(h:aC K cA U H d v):aC K cA U' H' d v:=
 aC.rec (motive_1:=λd v _=>Rep K cA U' H' d v) (motive_2:=λd v _=>aC K cA U' H' d v) .non .bl .int .str (λh _ i=>.tup (h.mono x hz) i) (λh _ i=>.fl (h.mono x hz) i) (λh n=>.fd (x.out hz h n).1 (x.out hz h n).2) (λh _ i=>.exc (h.mono x hz) i) (λh _ i=>.ob (h.mono x hz) i) .any .nil (λ_ _ i j=>.cons i j) h
theorem aC.map(m:∀d v,Rep K cA U H d v->Rep K cA U' H' d v):∀{d:List D} {v:List V},aC K cA U H d v->aC K cA U' H' d v
 |_,_,.nil=>.nil
 |_,_,.cons h r=>.cons (m _ _ h) (aC.map m r)
theorem jt.map(m:∀d v,Rep K cA U H d v->Rep K cA U' H' d v){d:jd}{v:m_}(h:jt K cA U H d v):jt K cA U' H' d v:=by
 induction h with
 |nil=>exact .nil
 |cons a b c _ ih=>exact .cons (m _ _ a) b (m _ _ c) ih
theorem kZ.map{a:Addr}{o:SO}(h:kZ K cA U H a o)(e:∀u,H a=some u->H' a=some u)(m:∀d v,Rep K cA U H d v->Rep K cA U' H' d v):kZ K cA U' H' a o:=by
 cases o with
 |lst xs=>obtain⟨vs,q,r⟩:=h;exact⟨vs,e _ q,r.map m⟩
 |dct xs=>obtain⟨vs,q,r⟩:=h;exact⟨vs,e _ q,r.map m⟩
theorem aV.mono(x:Ext U H U' H')(hz:∀a∈U.l,U.z a){d:Xv}{v:V}(h:aV K cA U H d v):aV K cA U' H' d v:=by
 cases h with
 |d h=>exact .d (h.mono x hz)
 |l h=>exact .l (x.get h)
theorem aP.mono(x:Ext U H U' H')(hz:∀a∈U.l,U.z a):∀{ds:List Xv} {vs:List V},aP K cA U H ds vs->aP K cA U' H' ds vs
 |_,_,.nil=>.nil
 |_,_,.cons h r=>.cons (h.mono x hz) (aP.mono x hz r)
theorem aY.mono(x:Ext U H U' H')(hz:∀a∈U.l,U.z a)(h:aY K cA U H Z J):aY K cA U' H' Z J:=⟨h.1,λi d e=>let ⟨v,a,b⟩:=h.2 i d e;⟨v,a,b.mono x hz⟩⟩
theorem aC.len:∀{ds:List D} {vs:List V},aC K cA U H ds vs->ds.length=vs.length
 |_,_,.nil=>rfl
 |_,_,.cons _ r=>by rw[fX,fX,aC.len r]
theorem aP.len:∀{ds:List Xv} {vs:List V},aP K cA U H ds vs->ds.length=vs.length
 |_,_,.nil=>rfl
 |_,_,.cons _ r=>by rw[fX,fX,aP.len r]
theorem aC.get:∀{ds:List D} {vs:List V} {i:Nat} {d:D},aC K cA U H ds vs->ds[i]?=some d->∃v,vs[i]?=some v/\Rep K cA U H d v
 |_,_,_,_,.nil,e=>by simp at e
 |_,_,0,_,.cons h _,e=>by simp at e;subst e;exact⟨_,rfl,h⟩
 |_,_,i+1,d,.cons _ r,e=>by
  obtain⟨v,a,b⟩:=aC.get (i:=i) (d:=d) r (by simpa using e);exact⟨v,by simpa using a,b⟩
theorem aP.get:∀{ds:List Xv} {vs:List V} {i:Nat} {d:Xv},aP K cA U H ds vs->ds[i]?=some d->∃v,vs[i]?=some v/\aV K cA U H d v
 |_,_,_,_,.nil,e=>by simp at e
 |_,_,0,_,.cons h _,e=>by simp at e;subst e;exact⟨_,rfl,h⟩
 |_,_,i+1,d,.cons _ r,e=>by
  obtain⟨v,a,b⟩:=aP.get (i:=i) (d:=d) r (by simpa using e);exact⟨v,by simpa using a,b⟩
theorem aC.none:∀{ds:List D} {vs:List V} {i:Nat},aC K cA U H ds vs->ds[i]?=none->vs[i]?=none:=λ{ds vs i} r e=>by
 have:=r.len;have h2:ds.length<=i:=pA.mp e;exact pA.mpr (by lia)
theorem aC.app:∀{ds es:List D} {vs us:List V},aC K cA U H ds vs->aC K cA U H es us->aC K cA U H (ds++es) (vs++us)
 |_,_,_,_,.nil,s=>s
 |_,_,_,_,.cons h r,s=>.cons h (aC.app r s)
theorem aC.take:∀{ds:List D} {vs:List V} (n:Nat),aC K cA U H ds vs->aC K cA U H (ds.take n) (vs.take n)
 |_,_,0,_=>by simp;exact .nil
 |_,_,n+1,.nil=>by simp;exact .nil
 |_,_,n+1,.cons h r=>by simp only[List.take_succ_cons];exact .cons h (aC.take n r)
theorem aC.drop:∀{ds:List D} {vs:List V} (n:Nat),aC K cA U H ds vs->aC K cA U H (ds.drop n) (vs.drop n)
 |_,_,0,r=>r
 |_,_,n+1,.nil=>by simp;exact .nil
 |_,_,n+1,.cons _ r=>by simp only[List.drop_succ_cons];exact aC.drop n r
theorem aC.set{d:D}{v:V}(h:Rep K cA U H d v):∀{ds:List D} {vs:List V} (i:Nat),aC K cA U H ds vs->aC K cA U H (ds.set i d) (vs.set i v)
 |_,_,_,.nil=>.nil
 |_,_,0,.cons _ r=>.cons h r
 |_,_,i+1,.cons q r=>.cons q (aC.set h i r)
theorem aC.rev:∀{ds:List D} {vs:List V},aC K cA U H ds vs->aC K cA U H ds.reverse vs.reverse
 |_,_,.nil=>.nil
 |_,_,.cons h r=>by rw[Li,Li];exact(aC.rev r).app (.cons h .nil)
theorem aC.cut{ds:List D}{vs:List V}{l h:Option Int}(r:aC K cA U H ds vs):aC K cA U H (Mi.cut ds l h) (mX vs l h):=by
 unfold Mi.cut mX;rw[<-r.len];exact(r.drop _).take _
def bD(H H':Hp):Prop:=∀a o,H a=some o->H' a=some o
theorem bD.refl:bD H H:=λ_ _ h=>h
theorem bD.trans(x:bD H H')(y:bD H' nj):bD H nj:=λa o h=>y a o (x a o h)
theorem bD.new{p:Addr}{o:HO}(hp:H p=none):bD H (upd H p o):=λa u h=>by rw[dD (El h hp)];exact h
theorem bD.ext(g:bD H H'):Ext U H U H':=⟨⟨[],by simp,by simp⟩,λ_ h=>h,λ_ h=>.inl h,λa o h _=>g a o h,λa o h=>⟨o,g a o h⟩⟩
theorem kZ.grow{a:Addr}{o:SO}(g:bD H H')(hz:∀a∈U.l,U.z a)(h:kZ K cA U H a o):kZ K cA U H' a o:=h.map (g _) λ_ _ r=>r.mono g.ext hz
theorem aF.grow(g:bD H H')(h:aF K cA U H s):aF K cA U H' s:=
 ⟨h.len,λn o a e1 e2=>(h.obj n o a e1 e2).grow g h.lz,h.uniq,h.lz,λa z=>let ⟨o,e⟩:=h.zt a z;⟨o,g _ _ e⟩⟩
theorem aF.nz(h:aF K cA U H s){p:Addr}(hp:H p=none):¬U.z p:=λz=>by obtain⟨o,e⟩:=h.zt p z;rw[hp] at e;cases e
noncomputable def Ph.add(U:Ph)(p:Addr):Ph:=⟨λa=>U.z a\/a=p,U.l++[p]⟩
theorem Ext.add{p:Addr}{o:HO}(hp:H p=none):Ext U H (U.add p) (upd H p o):=
 ⟨⟨[p],rfl,by simpa using hp⟩,λ_ h=>.inl h,λa h=>h.imp id λe=>by rw[e];exact hp,λa u h _=>bD.new hp a u h,λa u h=>⟨u,bD.new hp a u h⟩⟩
theorem aF.Je{p:Addr}{so:SO}{ho:HO}(h:aF K cA U H s)(hp:H p=none)(hr:kZ K cA (U.add p) (upd H p ho) p so):aF K cA (U.add p) (upd H p ho) (s++[so]):=by
 have pn:p∉U.l:=λz=>h.nz hp (h.lz p z);refine⟨by show (U.l++[p]).length=_;rw[iZ,iZ,h.len];rfl,λn o a e1 e2=>?_,?_,λa ha=>?_,λa ha=>?_⟩
 ·have e2:(U.l++[p])[n]?=some a:=e2;by_cases hn:n<s.length
  ·rw[mF hn] at e1;rw[mF (by rw[h.len];exact hn)] at e2;exact(h.obj n o a e1 e2).map (bD.new hp _) λ_ _ r=>r.mono (Ext.add hp) h.lz
  ·have hl:n=s.length:=by
    have z:=(dO.mp e1).1;rw[iZ] at z;simp at z
    lia
   subst hl;rw[nP (bU _)] at e1;rw[nP (by rw[h.len];exact bU _)] at e2;simp at e1;simp[h.len] at e2;subst e1 e2;exact hr
 ·show (U.l++[p]).Nodup;rw[yM];refine⟨h.uniq,by simp,λa ha b hb e=>?_⟩;simp at hb;subst hb e;exact pn ha
 ·have ha:a∈U.l++[p]:=ha;rcases jR.mp ha with z|z
  ·exact .inl (h.lz a z)
  ·simp at z;exact .inr z
 ·rcases ha with z|z
  ·obtain⟨o,e⟩:=h.zt a z;exact⟨o,bD.new hp _ _ e⟩
  ·subst z;exact⟨_,jT⟩
theorem aF.add{p:Addr}{xs:List D}{vs:List V}(h:aF K cA U H s)(hp:H p=none)(r:aC K cA U H xs vs):aF K cA (U.add p) (upd H p (.lst vs)) (s++[.lst xs]):=h.Je hp ⟨vs,jT,r.mono (Ext.add hp) h.lz⟩
theorem Ext.write{n:Nat}{p:Addr}{o:HO}(hp:U.l[n]?=some p)(hv:∃u,H p=some u):Ext U H U (upd H p o):=by
 have hm:p∈U.l:=eZ hp;refine⟨⟨[],by simp,by simp⟩,λ_ h=>h,λ_ h=>.inl h,λa u h n=>by
  have ne:a≠p:=λe=>n (by rw[e];exact hm);rw[dD ne];exact h,λa u h=>?_⟩
 by_cases e:a=p
 ·subst e;exact⟨o,jT⟩
 ·exact⟨u,by rw[dD e];exact h⟩
theorem aF.uI{n:Nat}{p:Addr}{so:SO}{ho:HO}(h:aF K cA U H s)(hl:n<s.length)(hp:U.l[n]?=some p)(hr:kZ K cA U (upd H p ho) p so):aF K cA U (upd H p ho) (s.set n so):=by
 have hv:=h.zt p (h.lz p (eZ hp));have x:Ext U H U (upd H p ho):=Ext.write hp hv;refine⟨by rw[pK];exact h.len,λm o a e1 e2=>?_,h.uniq,h.lz,λa ha=>?_⟩
 ·by_cases hm:n=m
  ·subst hm;rw[yH hl] at e1;cases e1;rw[hp] at e2;cases e2;exact hr
  ·rw[qy hm] at e1;have ne:a≠p:=λy=>by
    subst y;exact hm ((Ql (dO.mp hp).1 h.uniq).mp (hp.trans e2.symm))
   exact(h.obj m o a e1 e2).map (λ_ q=>by rw[dD ne];exact q) λ_ _ r=>r.mono x h.lz
 ·obtain⟨o,e⟩:=h.zt a ha;obtain⟨o',e'⟩:=x.stay a o e;exact⟨o',e'⟩
theorem aF.write{n:Nat}{p:Addr}{xs ys:List D}{us:List V}(h:aF K cA U H s)(hn:s[n]?=some (.lst xs))(hp:U.l[n]?=some p)(r:aC K cA U H ys us):aF K cA U (upd H p (.lst us)) (s.set n (.lst ys)):=
 h.uI (dO.mp hn).1 hp ⟨us,jT,r.mono (Ext.write hp (h.zt p (h.lz p (eZ hp)))) h.lz⟩
theorem aY.set{i:Nat}{d:Xv}{v:V}(hL:aY K cA U H Z J)(r:aV K cA U H d v):aY K cA U H (Z.set i (some v)) (J.set i (some d)):=by
 refine⟨by rw[pK,pK];exact hL.1,λj e h=>?_⟩;by_cases pL:i=j
 ·subst pL;by_cases hl:i<J.length
  ·rw[yH hl] at h;cases h;exact⟨v,by rw[yH (by rw[hL.1];exact hl)],r⟩
  ·rw[List.getElem?_eq_none (by rw[pK];lia)] at h;cases h
 ·rw[qy pL] at h;obtain⟨u,a,b⟩:=hL.2 j e h;exact⟨u,by rw[qy pL];exact a,b⟩
theorem TupAt.ju{a:Addr}{vs:List V}(h:TupAt K U H a vs):fZ K H a vs:=by
 rcases h with ⟨h,_⟩|(h|h)
 ·exact .inl h
 ·rcases h with h|⟨o,h⟩<;>cases h
 ·exact .inr h
theorem LstAt.tH{a:Addr}{vs:List V}(h:LstAt K U H a vs):cY K H a vs:=by
 rcases h with ⟨h,_⟩|(h|h)
 ·exact .inl h
 ·rcases h with h|⟨o,h⟩<;>cases h
 ·exact .inr h
theorem TupAt.new{p:Addr}{vs:List V}(hz:¬U.z p):TupAt K U (upd H p (.tup vs)) p vs:=.inl ⟨.inl jT,hz⟩
theorem LstAt.new{p:Addr}{vs:List V}(hz:¬U.z p):LstAt K U (upd H p (.lst vs)) p vs:=.inl ⟨.inl jT,hz⟩
end
end Mi
namespace Mi
open PySem PySem.Spec PyProof.Rows L2
theorem un{α β γ:Type}{A B C:α->β->γ->Prop}{R:Prop}(h:∃a b c,A a b c/\B a b c/\C a b c)(f:∀a b c,A a b c->B a b c->C a b c->R):R:=by
 obtain⟨a,b,c,x,y,z⟩:=h;exact f a b c x y z
section
variable (K:W.Frag)(cA:Cl)
def Run{α:Type}(m:M α)(U:Ph)(H:Hp)(s:S)(P:α->S->Ph->Hp->Prop)(Ee:Nat->List D->S->Ph->Hp->Prop):Prop:=
 match m s with
 |some (.ok a,s')=>∀U' H',Ext U H U' H'->aF K cA U' H' s'->P a s' U' H'
 |some (.er c f,s')=>∀U' H',Ext U H U' H'->aF K cA U' H' s'->Ee c f s' U' H'
 |none=>False
def kj(U:Ph)(H:Hp)(c:Nat)(fs:List D)(dx:Option Addr):Prop:=
 (cA.f c=[]/\fs=[]/\dx=none)\/∃d vs,dx=some d/\¬U.z d/\H d=some (.xd ((cA.f c).zip vs))/\(cA.f c).length=vs.length/\aC K cA U H fs vs
noncomputable def eX(EX:XS)(Z:L2.St):Nat->List D->S->Ph->Hp->Prop:=λc fs _ U' H'=>∀dx,kj K cA U' H' c fs dx->EX Z (.ref (cA.a c)) dx H'
noncomputable def tE(EX:XS)(m:Vs->M Xv):TE:=λZ H Q=>∃U J s,aY K cA U H Z J/\aF K cA U H s/\Run K cA (m J) U H s (λd _ U' H'=>∀v,aV K cA U' H' d v->Q v H') (eX K cA EX Z)
noncomputable def SX(EX:XS)(m:Vs->M (List Xv)):TA:=λZ H Q=>∃U J s,aY K cA U H Z J/\aF K cA U H s/\Run K cA (m J) U H s (λd _ U' H'=>∀v,aP K cA U' H' d v->Q v H') (eX K cA EX Z)
noncomputable def qW(EX:XS)(m:Vs->M Bool):TT:=λZ H Q=>∃U J s,aY K cA U H Z J/\aF K cA U H s/\Run K cA (m J) U H s (λd _ U' H'=>Q d H') (eX K cA EX Z)
def Rv(U:Ph)(H:Hp)(d:D)(v:V):Prop:=match d with
 |.fl xs=>∃a vs,v=.ref a/\cY K H a vs/\aC K cA U H xs vs
 |d=>Rep K cA U H d v
inductive xJ (U:Ph) (H:Hp):List D->List V->Prop where
 |nil:xJ U H [] []
 |cons {d:D} {v:V} {ds:List D} {vs:List V} (h:Rv K cA U H d v) (r:xJ U H ds vs):xJ U H (d::ds) (v::vs)
def bH(U:Ph)(H:Hp)(o:Option Rz)(Q:VK):Prop:=match o with
 |none=>False
 |some (.dat d)=>∀H' v,bD H H'->Rep K cA U H' d v->Q v H'
 |some (.nw xs)=>∀p vs,H p=none->aC K cA U H xs vs->Q (.ref p) (upd H p (.lst vs))
structure Zt(U:Ph)(H:Hp):Prop where
 lz:∀a∈U.l,U.z a
 zt:∀a,U.z a->∃o,H a=some o
def bF(p:Pr)(r:List V->Hp->VK->Prop):Prop:=∀(U:Ph) (H:Hp) (ds:List D) (vs:List V) (Q:VK),Zt U H->xJ K cA U H ds vs->bH K cA U H (prim p ds) Q->r vs H Q
end
section
variable {K:W.Frag}{cA:Cl}{U U':Ph}{H H':Hp}{s:S}{Z:L2.St}{J:Vs}{EX:XS}
theorem aF.zs(h:aF K cA U H s):Zt U H:=⟨h.lz,h.zt⟩
theorem Zt.nz(h:Zt U H)(hp:H p=none):¬U.z p:=λz=>by obtain⟨o,e⟩:=h.zt p z;rw[hp] at e;cases e
theorem Rep.rv{d:D}{v:V}(h:Rep K cA U H d v):Rv K cA U H d v:=by
 cases h with
 |fl h r=>exact⟨_,_,rfl,h.tH,r⟩
 |non=>exact .non
 |bl b=>exact .bl b
 |int b=>exact .int b
 |str b=>exact .str b
 |tup h r=>exact .tup h r
 |fd h n=>exact .fd h n
 |exc h r=>exact .exc h r
 |ob h r=>exact .ob h r
 |any v=>exact .any v
theorem Run.bd{α β:Type}{m:M α}{k:α->M β}{P:β->S->Ph->Hp->Prop}{Ee:Nat->List D->S->Ph->Hp->Prop}(h:Run K cA (M.bd m k) U H s P Ee):Run K cA m U H s (λa s1 U1 H1=>Ext U H U1 H1/\aF K cA U1 H1 s1/\Run K cA (k a) U1 H1 s1 P Ee) Ee:=by
 unfold Run M.bd at *;cases e:m s with
 |none=>rw[e] at h;exact h
 |some r=>
  obtain⟨r,s1⟩:=r;rw[e] at h;cases r with
  |er c f=>exact h
  |ok a=>
   intro U1 H1 x1 r1;refine⟨x1,r1,?_⟩;dsimp only at h ⊢;cases e2:k a s1 with
   |none=>rw[e2] at h;exact h
   |some q=>
    obtain⟨q,s2⟩:=q;rw[e2] at h;cases q with
    |ok b=>exact λU2 H2 x2 r2=>h U2 H2 (x1.trans x2) r2
    |er c f=>exact λU2 H2 x2 r2=>h U2 H2 (x1.trans x2) r2
theorem Run.imp{α:Type}{m:M α}{P P':α->S->Ph->Hp->Prop}{Ee:Nat->List D->S->Ph->Hp->Prop}(h:Run K cA m U H s P Ee)(f:∀a s' U' H',P a s' U' H'->P' a s' U' H'):Run K cA m U H s P' Ee:=by
 unfold Run at *;split at h
 ·exact λU' H' x r=>f _ _ _ _ (h U' H' x r)
 ·exact h
 ·exact h
theorem Run.ext(x:Ext U H U' H')(h:Run K cA m U H s P Ee):Run K cA m U' H' s P Ee:=by
 unfold Run at *;split at h
 ·exact λU2 H2 y r=>h U2 H2 (x.trans y) r
 ·exact λU2 H2 y r=>h U2 H2 (x.trans y) r
 ·exact h.elim
theorem Run.bN{α:Type}{a:α}{P:α->S->Ph->Hp->Prop}{Ee:Nat->List D->S->Ph->Hp->Prop}(r:aF K cA U H s)(h:Run K cA (M.ret a) U H s P Ee):P a s U H:=h U H Ext.refl r
theorem Run.opt{α:Type}{o:Option α}{P:α->S->Ph->Hp->Prop}{Ee:Nat->List D->S->Ph->Hp->Prop}(r:aF K cA U H s)(h:Run K cA (M.opt o) U H s P Ee):∃a,o=some a/\P a s U H:=by
 cases o with
 |none=>exact h.elim
 |some a=>exact⟨a,rfl,h U H Ext.refl r⟩
theorem Ey(h:Run K cA (M.bd (M.opt o) k) U H s P Ee):∃a,o=some a/\Run K cA (k a) U H s P Ee:=by
 cases o with
 |none=>exact h.elim
 |some a=>exact⟨a,rfl,h⟩
theorem Jf{β:Type}{x:Xv}{v:V}{k:Bool->M β}{P:β->S->Ph->Hp->Prop}{Ee:Nat->List D->S->Ph->Hp->Prop}(r:aV K cA U H x v)(h:Run K cA (M.bd (bool x) k) U H s P Ee):∃b,x=.d (.bl b)/\v=.bl b/\Run K cA (k b) U H s P Ee:=by
 cases r with
 |l _=>exact h.elim
 |d r=>cases r with
  |bl b=>exact⟨b,rfl,rfl,h⟩
  |_=>exact h.elim
theorem Jg(r:aV K cA U H x v)(h:Run K cA (M.bd (int x) k) U H s P Ee):∃b,x=.d (.int b)/\v=.int b/\Run K cA (k b) U H s P Ee:=by
 cases r with
 |l _=>exact h.elim
 |d r=>cases r with
  |int b=>exact⟨b,rfl,rfl,h⟩
  |_=>exact h.elim
theorem M9(r:aV K cA U H x v)(h:Run K cA (M.bd (dat x) k) U H s P Ee):∃d,x=.d d/\Rep K cA U H d v/\Run K cA (k d) U H s P Ee:=by
 cases r with
 |l _=>exact h.elim
 |d r=>exact⟨_,rfl,r,h⟩
theorem S5:∀{xs:List Xv} {vs:List V} {k:List D->M β} {P:β->S->Ph->Hp->Prop} {Ee:Nat->List D->S->Ph->Hp->Prop},aP K cA U H xs vs->Run K cA (M.bd (cL xs) k) U H s P Ee->∃ds,xs=ds.map .d/\aC K cA U H ds vs/\Run K cA (k ds) U H s P Ee:=by
 intro xs
 induction xs with
 |nil=>intro vs k P Ee r h;cases r;exact⟨[],rfl,.nil,h⟩
 |cons x xs ih=>
  intro vs k P Ee r h;cases r with
  |cons a r=>
   cases a with
   |l _=>exact h.elim
   |@d y v a=>
    have h2:Run K cA (M.bd (cL xs) λds=>k (y::ds)) U H s P Ee:=by
     unfold Run M.bd cL dat at h;unfold Run M.bd;simp only[M.bd,M.ret] at h;cases e:cL xs s with
     |none=>simp only[e] at h
     |some q=>
      obtain⟨q,s1⟩:=q;simp only[e] at h;cases q with
      |ok ds=>exact h
      |er c f=>exact h
    obtain⟨ds,e,rs,h3⟩:=ih r h2;exact⟨y::ds,by rw[e];rfl,.cons a rs,h3⟩
theorem M_(hS:aF K cA U H s)(r:aV K cA U H x v)(h:Run K cA (M.bd (rd x) k) U H s P Ee):∃d,Rv K cA U H d v/\Run K cA (k d) U H s P Ee:=by
 cases r with
 |d r=>exact⟨_,r.rv,h⟩
 |@l n a hl=>
  unfold Run M.bd rd at h;dsimp only at h;cases e:s[n]? with
  |none=>rw[e] at h;exact h.elim
  |some o=>
   rw[e] at h;cases o with
   |lst xs=>
    obtain⟨vs,q1,q2⟩:=hS.obj n _ _ e hl;exact⟨.fl xs,⟨a,vs,rfl,cY.of q1,q2⟩,h⟩
   |_=>exact h.elim
theorem gM{α β γ:Type}(m:M α)(f:α->M β)(g:β->M γ):M.bd (M.bd m f) g=M.bd m λx=>M.bd (f x) g:=by
 funext s
 unfold M.bd;cases m s with
 |none=>rfl
 |some r=>
  obtain⟨r,s1⟩:=r;cases r<;>rfl
theorem uJ{β:Type}:∀{xs:List Xv} {vs:List V} {k:List D->M β} {P:β->S->Ph->Hp->Prop} {Ee:Nat->List D->S->Ph->Hp->Prop},aF K cA U H s->aP K cA U H xs vs->Run K cA (M.bd (gW xs) k) U H s P Ee->∃ds,xJ K cA U H ds vs/\Run K cA (k ds) U H s P Ee:=by
 intro xs
 induction xs with
 |nil=>intro vs k P Ee hS r h;cases r;exact⟨[],.nil,h⟩
 |cons x xs ih=>
  intro vs k P Ee hS r h;cases r with
  |cons a r=>
   have h2:Run K cA (M.bd (rd x) λd=>M.bd (gW xs) λds=>k (d::ds)) U H s P Ee:=by
    have e:M.bd (gW (x::xs)) k=M.bd (rd x) λd=>M.bd (gW xs) λds=>k (d::ds):=by
     show M.bd (M.bd (rd x) λd=>M.bd (gW xs) λds=>M.ret (d::ds)) k=_;rw[gM]
     congr 1
     funext d
     rw[gM];rfl
    rw[e] at h;exact h
   obtain⟨d,rd,h3⟩:=M_ hS a h2;obtain⟨ds,rs,h4⟩:=ih hS r h3;exact⟨d::ds,.cons rd rs,h4⟩
theorem tK{fz:Bool}{o:Option Rz}{Q:VK}{Ee:Nat->List D->S->Ph->Hp->Prop}(hS:aF K cA U H s)(h:Run K cA (cF fz o) U H s (λx _ U' H'=>∀v,aV K cA U' H' x v->Q v H') Ee):bH K cA U H o Q:=by
 cases o with
 |none=>exact h.elim
 |some z=>
  cases z with
  |dat d=>exact λH' v g r=>h U H' g.ext (hS.grow g) v (.d r)
  |nw xs=>
   intro p vs hp r;cases fz with
   |true=>exact h U _ (bD.new hp).ext (hS.grow (bD.new hp)) _ (.d (.fl (LstAt.new (hS.nz hp)) (r.mono (bD.new hp).ext hS.lz)))
   |false=>exact h (U.add p) _ (Ext.add hp) (hS.add hp r) _ (.l (by show (U.l++[p])[s.length]?=_;rw[<-hS.len];simp))
theorem zif{fz:Bool}{xs:List D}{Q:VK}{Ee:Nat->List D->S->Ph->Hp->Prop}(hS:aF K cA U H s)(h:Run K cA (newL fz xs) U H s (λx _ U' H'=>∀v,aV K cA U' H' x v->Q v H') Ee):∀p vs,H p=none->aC K cA U H xs vs->Q (.ref p) (upd H p (.lst vs)):=
 tK (o:=some (.nw xs)) hS h
theorem bw{β:Type}{ma:Vs->M Xv}{k:Xv->M β}{P:β->S->Ph->Hp->Prop}(hL:aY K cA U H Z J)(hS:aF K cA U H s)(h:Run K cA (M.bd (ma J) k) U H s P (eX K cA EX Z)){Q:VK}
  (f:∀x H1 U1 d s1,Ext U H U1 H1->aY K cA U1 H1 Z J->aF K cA U1 H1 s1->aV K cA U1 H1 d x->Run K cA (k d) U1 H1 s1 P (eX K cA EX Z)->Q x H1):tE K cA EX ma Z H Q:=
 ⟨U,J,s,hL,hS,h.bd.imp λd s1 U1 H1 ⟨x1,r1,h1⟩ v rv=>f v H1 U1 d s1 x1 (hL.mono x1 hS.lz) r1 rv h1⟩
theorem qj{β:Type}{ma:Vs->M (List Xv)}{k:List Xv->M β}{P:β->S->Ph->Hp->Prop}(hL:aY K cA U H Z J)(hS:aF K cA U H s)(h:Run K cA (M.bd (ma J) k) U H s P (eX K cA EX Z)){Q:List V->Hp->Prop}
  (f:∀x H1 U1 d s1,Ext U H U1 H1->aY K cA U1 H1 Z J->aF K cA U1 H1 s1->aP K cA U1 H1 d x->Run K cA (k d) U1 H1 s1 P (eX K cA EX Z)->Q x H1):SX K cA EX ma Z H Q:=
 ⟨U,J,s,hL,hS,h.bd.imp λd s1 U1 H1 ⟨x1,r1,h1⟩ v rv=>f v H1 U1 d s1 x1 (hL.mono x1 hS.lz) r1 rv h1⟩
theorem xK(hL:aY K cA U H Z J)(hS:aF K cA U H s)(h:Run K cA (M.bd (ma J) k) U H s P (eX K cA EX Z))
  (f:∀b H1 U1 s1,Ext U H U1 H1->aY K cA U1 H1 Z J->aF K cA U1 H1 s1->Run K cA (k b) U1 H1 s1 P (eX K cA EX Z)->Q b H1):qW K cA EX ma Z H Q:=
 ⟨U,J,s,hL,hS,h.bd.imp λd s1 U1 H1 ⟨x1,r1,h1⟩=>f d H1 U1 s1 x1 (hL.mono x1 hS.lz) r1 h1⟩
end
section
variable (X:Cx)(cA:Cl)(aq:Nat->Nat->Bool)(aj:Bool)(F:Fn)(EX:XS)
def SE(e:Expr)(m:E):Prop:=PE X e (tE X.K cA EX (ev aq aj F m))
def SA(es:List Expr)(m:Es):Prop:=PA X es (SX X.K cA EX (evs aq aj F m))
def ST(e:Expr)(m:E):Prop:=PT X e (qW X.K cA EX (λJ=>M.bd (ev aq aj F m J) bool))
def SW(e:Expr)(m:E):Prop:=PW X e (qW X.K cA EX (λJ=>M.bd (ev aq aj F m J) bool))
end
section
variable {X:Cx}{cA:Cl}{aq:Nat->Nat->Bool}{aj:Bool}{F:Fn}{EX:XS}{a b c d e:Expr}{A B C Dd E':E}{pos:Pos}{es:List Expr}{Xs:Es}{fz:Bool}{p:Pr}
theorem PE.weak{t t':TE}(h:PE X e t)(f:∀Z H Q,t' Z H Q->t Z H Q):PE X e t':=λao s Z H Q I q=>h ao s Z H Q I (f Z H Q q)
theorem PT.weak{t t':TT}(h:PT X e t)(f:∀Z H Q,t' Z H Q->t Z H Q):PT X e t':=λao s Z H Q I q=>h ao s Z H Q I (f Z H Q q)
theorem PW.weak{t t':TT}(h:PW X e t)(f:∀Z H Q,t' Z H Q->t Z H Q):PW X e t':=λwh ao s Z H Q I q=>h wh ao s Z H Q I (f Z H Q q)
theorem PA.weak{t t':TA}(h:PA X es t)(f:∀Z H Q,t' Z H Q->t Z H Q):PA X es t':=λp ao s Z H Q I q=>h p ao s Z H Q I (f Z H Q q)
theorem znF{i j p}:SE X cA aq aj F EX (.Constant (.int i) j p) (.c (.int i)):=PE.weak X4 λZ H Q hh=>un hh λU J s hL hS h=>h.bN hS _ (.d (.int i))
theorem zob{i j p}:SE X cA aq aj F EX (.Constant (.bool i) j p) (.c (.bl i)):=PE.weak zoF λZ H Q hh=>un hh λU J s hL hS h=>h.bN hS _ (.d (.bl i))
theorem znM{j p}:SE X cA aq aj F EX (.Constant .none j p) (.c .non):=PE.weak zlV λZ H Q hh=>un hh λU J s hL hS h=>h.bN hS _ (.d .non)
theorem S6{α:Type}{o:Option (Option α)}{x:α}(h:o.join=some x):o=some (some x):=by
 cases o with
 |none=>cases h
 |some y=>cases y with
  |none=>cases h
  |some z=>cases h;rfl
theorem Zc(i:Nat){x:Str}(hN:X.N[i]?=some x:=by rfl)(hv:Qq X.env.scope x:=by first|exact Or.inl rfl|exact Or.inr (Or.inl rfl)|exact Or.inr (Or.inr rfl))(hd:(x==("__debug__" : Str))=false:=by decide)
  (kY:(x==("__classdict__" : Str))=false:=by decide):SE X cA aq aj F EX (.Name x pos) (.v i):=PE.weak (X3 hN hv hd kY) λZ H Q hh=>un hh λU J s hL hS h=>by
 obtain⟨dd,e1,q⟩:=Run.opt hS h;obtain⟨v,q1,q2⟩:=hL.2 i dd (S6 e1);exact⟨v,q1,q v q2⟩
theorem zkH{x:Str}{i:Int}{t:Tok}(hg:Gl X x)(hm:X.mg x=some (.int i t))(hd:(x==("__debug__" : Str))=false:=by decide):SE X cA aq aj F EX (.Name x pos) (.c (.int i)):=PE.weak (zkX (v:=.int i) hg hm ⟨t,rfl⟩ hd) λZ H Q hh=>un hh λU J s hL hS h=>h.bN hS _ (.d (.int i))
theorem zmt:SA X cA aq aj F EX [] .nil:=PA.weak yX λZ H Q hh=>un hh λU J s hL hS h=>h.bN hS _ .nil
theorem zla(ha:SE X cA aq aj F EX a A)(hr:SA X cA aq aj F EX es Xs)(hs:starEach (a::es) X.env=(false,eval a X.env)::starEach es X.env:=by rfl):SA X cA aq aj F EX (a::es) (.cons A Xs):=PA.weak (sZ ha hr hs) λZ H Q hh=>un hh λU J s hL hS h=>by
 refine bw hL hS h λx H1 U1 d1 s1 x1 hL1 aJ r1 h1=>qj hL1 aJ h1 λys H2 U2 d2 s2 x2 hL2 aQ r2 h2=>h2.bN aQ _ (.cons (r1.mono x2 aJ.lz) r2)
theorem Nb{U U1 U2:Ph}{H1 H2:Hp}{s1 s2:S}{d1 d2:Xv}{x y:V}{Q:VK}{Ee:Nat->List D->S->Ph->Hp->Prop}(x2:Ext U1 H1 U2 H2)(aJ:aF X.K cA U1 H1 s1)(aQ:aF X.K cA U2 H2 s2)(r1:aV X.K cA U1 H1 d1 x)(r2:aV X.K cA U2 H2 d2 y)
  (h:Run X.K cA (M.bd (gW [d1,d2]) λds=>cF fz (prim p ds)) U2 H2 s2 (λx _ U' H'=>∀v,aV X.K cA U' H' x v->Q v H') Ee) {r:List V->Hp->VK->Prop} (hp:bF X.K cA p r):r [x,y] H2 Q:=by
 obtain⟨ds,rs,h2⟩:=uJ aQ (.cons (r1.mono x2 aJ.lz) (.cons r2 .nil)) h;exact hp U2 H2 ds _ Q aQ.zs rs (tK aQ h2)
noncomputable def r2(r:R2):List V->Hp->VK->Prop:=λvs H Q=>∃x y,vs=[x,y]/\r x y H Q
theorem Ez{r:R2}{x y:V}{H:Hp}{Q:VK}(h:r2 r [x,y] H Q):r x y H Q:=by
 obtain⟨_,_,e,q⟩:=h;cases e;exact q
theorem zmV{op:Operator}{r:R2}(ho:fH X (binaryOp op) r)(hp:bF X.K cA p (r2 r))(ha:SE X cA aq aj F EX a A)(hb:SE X cA aq aj F EX b B):SE X cA aq aj F EX (.BinOp a op b pos) (.pr fz p (.cons A (.cons B .nil))):=PE.weak (zoI ho ha hb) λZ H Q hh=>un hh λU J s hL hS h=>by
 have h:Run X.K cA (M.bd (M.bd (ev aq aj F A J) λx=>M.bd (M.bd (ev aq aj F B J) λy=>M.bd (M.ret []) λz=>M.ret (y::z)) λys=>M.ret (x::ys)) λvs=>M.bd (gW vs) λds=>cF fz (prim p ds)) U H s _ _:=h;simp only[gM] at h;refine bw hL hS h λx H1 U1 d1 s1 x1 hL1 aJ r1 h1=>bw hL1 aJ h1 λy H2 U2 d2 s2 x2 hL2 aQ r2' h2=>?_;exact Ez (Nb (fz:=fz) (U:=U) x2 aJ aQ r1 r2' h2 hp)
theorem zlB{op:CmpOp}{r:R2}(ho:fH X (compareOp op) r)(hp:bF X.K cA p (r2 r))(ha:SE X cA aq aj F EX a A)(hb:SE X cA aq aj F EX b B)(hm:behindInMarks op b=false):SE X cA aq aj F EX (.Compare a [op] [b] pos) (.pr true p (.cons A (.cons B .nil))):=PE.weak (zkd ho ha hb hm) λZ H Q hh=>un hh λU J s hL hS h=>by
 have h:Run X.K cA (M.bd (M.bd (ev aq aj F A J) λx=>M.bd (M.bd (ev aq aj F B J) λy=>M.bd (M.ret []) λz=>M.ret (y::z)) λys=>M.ret (x::ys)) λvs=>M.bd (gW vs) λds=>cF true (prim p ds)) U H s _ _:=h;simp only[gM] at h;refine bw hL hS h λx H1 U1 d1 s1 x1 hL1 aJ r1 h1=>bw hL1 aJ h1 λy H2 U2 d2 s2 x2 hL2 aQ r2' h2=>?_;exact Ez (Nb (fz:=true) (U:=U) x2 aJ aQ r1 r2' h2 hp)
theorem iT{A B:Prop}(h:A):if true=true then A else B:=by rw[if_pos rfl];exact h
theorem iF{A B:Prop}(h:B):if false=true then A else B:=by rw[if_neg Qh];exact h
theorem zlO{op:CmpOp}{r:R2}(ho:fH X (compareOp op) r)(hp:bF X.K cA p (r2 r))(ha:SE X cA aq aj F EX a A)(hb:SE X cA aq aj F EX b B)(hm:behindInMarks op b=false):ST X cA aq aj F EX (.Compare a [op] [b] pos) (.pr true p (.cons A (.cons B .nil))):=PT.weak (zke ho ha hb hm) λZ H Q hh=>un hh λU J s hL hS h=>by
 have h:Run X.K cA (M.bd (M.bd (M.bd (ev aq aj F A J) λx=>M.bd (M.bd (ev aq aj F B J) λy=>M.bd (M.ret []) λz=>M.ret (y::z)) λys=>M.ret (x::ys)) λvs=>M.bd (gW vs) λds=>cF true (prim p ds)) bool) U H s _ _:=h;simp only[gM] at h;refine bw hL hS h λx H1 U1 d1 s1 x1 hL1 aJ r1 h1=>bw hL1 aJ h1 λy H2 U2 d2 s2 x2 hL2 aQ r2' h2=>?_;obtain⟨ds,rs,h3⟩:=uJ aQ (.cons (r1.mono x2 aJ.lz) (.cons r2' .nil)) h2;refine Ez (hp U2 H2 ds _ _ aQ.zs rs (tK (Ee:=eX X.K cA EX Z) aQ (h3.bd.imp λt s3 U3 H3 ⟨x3,gO,h4⟩ v rv=>?_)));cases rv with
 |l _=>exact h4.elim
 |d rv=>cases rv with
  |bl k=>exact⟨k,rfl,h4 U3 H3 Ext.refl gO⟩
  |_=>exact h4.elim
theorem znC{op op':CmpOp}{r r':R2}{q:Pr}(ho:fH X (compareOp op) r)(hp:bF X.K cA p (r2 r))(tY:fH X (compareOp op') r')(hp':bF X.K cA q (r2 r'))(ha:SE X cA aq aj F EX a A)(hb:SE X cA aq aj F EX b B)(hc:SE X cA aq aj F EX c C)(hm:lastMarks [op,op'] [b,c]=false:=by with_unfolding_all rfl) :
  SE X cA aq aj F EX (.Compare a [op,op'] [b,c] pos) (.zp p q A B C):=PE.weak (zhP ho tY ha hb hc hm) λZ H Q hh=>un hh λU J s hL hS h=>by
 refine bw hL hS h λx H1 U1 d1 s1 x1 hL1 aJ r1 h1=>bw hL1 aJ h1 λy H2 U2 d2 s2 x2 hL2 aQ r2' h2=>?_;obtain⟨ds,rs,h3⟩:=uJ aQ (.cons (r1.mono x2 aJ.lz) (.cons r2' .nil)) h2;refine Ez (hp U2 H2 ds _ _ aQ.zs rs (tK (Ee:=eX X.K cA EX Z) aQ (h3.bd.imp λt s3 U3 H3 ⟨x3,gO,h4⟩ v rv=>?_)));obtain⟨k,_,e,h5⟩:=Jf rv h4;refine⟨k,e,?_⟩;cases k with
 |false=>exact iF (h5.bN gO _ (.d (.bl _)))
 |true=>
  have oN:=hL2.mono x3 aQ.lz;refine iT (bw oN gO h5 λz H4 U4 d4 s4 x4 hL4 qX r4 h6=>?_);exact Ez (Nb (fz:=true) (U:=U) x4 gO qX (r2'.mono x3 aQ.lz) r4 h6 hp')
theorem znt(ha:SE X cA aq aj F EX a A):SE X cA aq aj F EX (.UnaryOp .Not a pos) (.not A):=PE.weak (zm2 ha) λZ H Q hh=>un hh λU J s hL hS h=>by
 refine bw hL hS h λx H1 U1 d1 s1 x1 hL1 aJ r1 h1=>?_;obtain⟨i,_,e,h3⟩:=Jf r1 h1;exact⟨i,e,h3.bN aJ _ (.d (.bl _))⟩
theorem zm4{op}(ha:SE X cA aq aj F EX a A):SE X cA aq aj F EX (.BoolOp op [a] pos) A:=zl3 ha
theorem znq{rest:List Expr}(ha:SE X cA aq aj F EX a A)(hb:SE X cA aq aj F EX (.BoolOp .And (b::rest) pos) B):SE X cA aq aj F EX (.BoolOp .And (a::b::rest) pos) (.and A B):=PE.weak (znB ha hb) λZ H Q hh=>un hh λU J s hL hS h=>by
 refine bw hL hS h λx H1 U1 d1 s1 x1 hL1 aJ r1 h1=>?_;obtain⟨i,_,e,h3⟩:=Jf r1 h1;refine⟨i,e,?_⟩;cases i with
 |true=>exact iT ⟨U1,J,s1,hL1,aJ,h3⟩
 |false=>exact iF (h3.bN aJ _ (.d (.bl _)))
theorem zop{rest:List Expr}(ha:SE X cA aq aj F EX a A)(hb:SE X cA aq aj F EX (.BoolOp .Or (b::rest) pos) B):SE X cA aq aj F EX (.BoolOp .Or (a::b::rest) pos) (.or A B):=PE.weak (zoO ha hb) λZ H Q hh=>un hh λU J s hL hS h=>by
 refine bw hL hS h λx H1 U1 d1 s1 x1 hL1 aJ r1 h1=>?_;obtain⟨i,_,e,h3⟩:=Jf r1 h1;refine⟨i,e,?_⟩;cases i with
 |true=>exact iT (h3.bN aJ _ (.d (.bl _)))
 |false=>exact iF ⟨U1,J,s1,hL1,aJ,h3⟩
end
section
variable {X:Cx}{cA:Cl}{aq:Nat->Nat->Bool}{aj:Bool}{F:Fn}{EX:XS}{a b c d e o:Expr}{A B C Dd E' O:E}{pos pp p2 apos:Pos}{es:List Expr}{Xs:Es}{fz:Bool}{p:Pr}{x:Str}
theorem zmA(ha:SE X cA aq aj F EX a A)(he:∀whole,isTrue a X.env whole=(do let v <-whole;standAt a.pos;holding [v] (truthy v)):=by intro _;rfl):ST X cA aq aj F EX a A:=PT.weak (zm0 ha he) λZ H Q hh=>un hh λU J s hL hS h=>by
 refine bw hL hS h λx H1 U1 d1 s1 x1 hL1 aJ r1 h1=>?_;have h1:Run X.K cA (M.bd (bool d1) M.ret) U1 H1 s1 (λd _ U' H'=>Q d H') (eX X.K cA EX Z):=by
  cases d1 with
  |l n=>exact h1
  |d v=>cases v<;>exact h1
 obtain⟨k,_,e,q⟩:=Jf r1 h1;exact⟨k,e,q.bN aJ⟩
theorem zhN{m:M Xv}{g:Bool->Bool}:M.bd (M.bd m λx=>M.bd (bool x) λk=>M.ret (Xv.d (.bl (g k)))) bool=M.bd (M.bd m bool) λk=>M.ret (g k):=by
 rw[gM,gM]
 congr 1
 funext x
 rw[gM];rfl
theorem zms(ha:ST X cA aq aj F EX a A):ST X cA aq aj F EX (.UnaryOp .Not a pos) (.not A):=PT.weak (zlx ha) λZ H Q hh=>un hh λU J s hL hS h=>by
 have h:Run X.K cA (M.bd (M.bd (ev aq aj F A J) λx=>M.bd (bool x) λk=>M.ret (Xv.d (.bl (!k)))) bool) U H s _ _:=h;rw[zhN (g:=λk=>!k)] at h;exact xK hL hS h λk H1 U1 s1 x1 hL1 aJ h1=>h1.bN aJ
theorem zlp(ha:ST X cA aq aj F EX a A):SW X cA aq aj F EX (.BoolOp .And [a] pos) A:=zk5 ha
theorem zmg(ha:ST X cA aq aj F EX a A):SW X cA aq aj F EX (.BoolOp .Or [a] pos) A:=zmy ha
theorem Zd{m:M Xv}{k:Bool->M Xv}:M.bd (M.bd m λx=>M.bd (bool x) k) bool=M.bd (M.bd m bool) λb=>M.bd (k b) bool:=by
 rw[gM,gM]
 congr 1
 funext x
 rw[gM]
theorem zlE{rest:List Expr}(ha:ST X cA aq aj F EX a A)(hb:SW X cA aq aj F EX (.BoolOp .And (b::rest) pos) B):SW X cA aq aj F EX (.BoolOp .And (a::b::rest) pos) (.and A B):=PW.weak (zmz ha hb) λZ H Q hh=>un hh λU J s hL hS h=>by
 have h:Run X.K cA (M.bd (M.bd (ev aq aj F A J) λx=>M.bd (bool x) λk=>if k=true then ev aq aj F B J else M.ret (Xv.d (.bl false))) bool) U H s _ _:=h;rw[Zd] at h;refine xK hL hS h λk H1 U1 s1 x1 hL1 aJ h3=>?_;cases k with
 |true=>exact iT ⟨U1,J,s1,hL1,aJ,h3⟩
 |false=>exact iF (Run.bN aJ (a:=false) h3)
theorem zo4{rest:List Expr}(ha:ST X cA aq aj F EX a A)(hb:SW X cA aq aj F EX (.BoolOp .Or (b::rest) pos) B):SW X cA aq aj F EX (.BoolOp .Or (a::b::rest) pos) (.or A B):=PW.weak (zo0 ha hb) λZ H Q hh=>un hh λU J s hL hS h=>by
 have h:Run X.K cA (M.bd (M.bd (ev aq aj F A J) λx=>M.bd (bool x) λk=>if k=true then M.ret (Xv.d (.bl true)) else ev aq aj F B J) bool) U H s _ _:=h;rw[Zd] at h;refine xK hL hS h λk H1 U1 s1 x1 hL1 aJ h3=>?_;cases k with
 |true=>exact iT (Run.bN aJ (a:=true) h3)
 |false=>exact iF ⟨U1,J,s1,hL1,aJ,h3⟩
theorem zpQ(h:SW X cA aq aj F EX a A):ST X cA aq aj F EX a A:=Kac h
theorem zlg:(M.bd m λx=>M.bd (bool x) k)=M.bd (M.bd m bool) k:=by rw[gM]
theorem zm1(hc:ST X cA aq aj F EX c C)(ha:SE X cA aq aj F EX a A)(hb:SE X cA aq aj F EX b B):SE X cA aq aj F EX (.IfExp c a b pos) (.ite C A B):=PE.weak (zh7 hc ha hb) λZ H Q hh=>un hh λU J s hL hS h=>by
 have h:Run X.K cA (M.bd (ev aq aj F C J) λx=>M.bd (bool x) λk=>if k=true then ev aq aj F A J else ev aq aj F B J) U H s _ _:=h;rw[zlg] at h;refine xK hL hS h λk H1 U1 s1 x1 hL1 aJ h3=>?_;cases k with
 |true=>exact iT ⟨U1,J,s1,hL1,aJ,h3⟩
 |false=>exact iF ⟨U1,J,s1,hL1,aJ,h3⟩
theorem Ze:∀(Xs:Es) (J:Vs) (s:S) (ds:List Xv) (s':S),evs aq aj F Xs J s=some (.ok ds,s')->ds.length=Es.len Xs
 |.nil,J,s,ds,s',h=>by cases h;rfl
 |.cons a r,J,s,ds,s',h=>by
  have h:M.bd (ev aq aj F a J) (λx=>M.bd (evs aq aj F r J) λxs=>M.ret (x::xs)) s=some (.ok ds,s'):=h;unfold M.bd at h;cases e1:ev aq aj F a J s with
  |none=>rw[e1] at h;cases h
  |some q=>
   obtain⟨q,s1⟩:=q;rw[e1] at h;cases q with
   |er c f=>cases h
   |ok d=>
    dsimp only at h;cases e2:evs aq aj F r J s1 with
    |none=>rw[e2] at h;cases h
    |some q=>
     obtain⟨q,s2⟩:=q;rw[e2] at h;cases q with
     |er c f=>cases h
     |ok ds'=>
      cases h;rw[fX,Ze r J s1 ds' _ e2];rfl
theorem Jh{β:Type}{K:W.Frag}{U:Ph}{H:Hp}{s:S}{Z:L2.St}{J:Vs}{k:List Xv->M β}{P:β->S->Ph->Hp->Prop}(hL:aY K cA U H Z J)(hS:aF K cA U H s)(h:Run K cA (M.bd (evs aq aj F Xs J) k) U H s P (eX K cA EX Z)){Q:List V->Hp->Prop}
  (f:∀x H1 U1 d s1,d.length=Es.len Xs->Ext U H U1 H1->aY K cA U1 H1 Z J->aF K cA U1 H1 s1->aP K cA U1 H1 d x->Run K cA (k d) U1 H1 s1 P (eX K cA EX Z)->Q x H1):SX K cA EX (evs aq aj F Xs) Z H Q:=by
 refine⟨U,J,s,hL,hS,?_⟩;have h2:=h.bd;unfold Run at h2 ⊢;cases e:evs aq aj F Xs J s with
 |none=>rw[e] at h2;exact h2
 |some r=>
  obtain⟨r,s1⟩:=r;rw[e] at h2;cases r with
  |er c f=>exact h2
  |ok ds=>
   intro U1 H1 x1 r1 v rv;obtain⟨_,_,h3⟩:=h2 U1 H1 x1 r1;exact f v H1 U1 ds s1 (Ze Xs J s ds s1 e) x1 (hL.mono x1 hS.lz) r1 rv h3
theorem zlF{k}(ha:SA X cA aq aj F EX es Xs)(hz:Es.len Xs<=sizeLine):SE X cA aq aj F EX (.Tuple es k pos) (.tup Xs):=PE.weak (znP ha) λZ H Q hh=>un hh λU J s hL hS h=>by
 refine Jh hL hS h λvs H1 U1 xs s1 hl x1 hL1 aJ rv h1=>?_;obtain⟨ds,e,rs,h2⟩:=S5 rv h1;refine⟨by rw[<-rv.len,hl];exact hz,λp hp=>?_⟩;exact h2 U1 (upd H1 p (.tup vs)) (bD.new hp).ext (aJ.grow (bD.new hp)) _ (.d (.tup (TupAt.new (aJ.nz hp)) (rs.mono (bD.new hp).ext aJ.lz)))
theorem zmY(ha:SA X cA aq aj F EX es Xs)(hz:Es.len Xs<=sizeLine):SE X cA aq aj F EX (.List es pos) (.lst fz Xs):=PE.weak (zmB ha) λZ H Q hh=>un hh λU J s hL hS h=>by
 refine Jh hL hS h λvs H1 U1 xs s1 hl x1 hL1 aJ rv h1=>?_;obtain⟨ds,e,rs,h2⟩:=S5 rv h1;exact⟨by rw[<-rv.len,hl];exact hz,λp hp=>zif aJ h2 p vs hp rs⟩
theorem xM{id:String}{r:List V->Hp->VK->Prop}(hc:cW X (.builtin id) r)(hp:bF X.K cA p r)
  (hg:Gl X x) (hm:X.mg x=none) (hv:bootBuiltins x=some (.builtin id)) (ha:SA X cA aq aj F EX (e::es) Xs) (hn:x≠"__name__":=by decide) (rK:(x==("__debug__" : Str))=false:=by decide)
  (he:starEach (e::es) X.env=(false,eval e X.env)::starEach es X.env:=by rfl) (hpl:(backTo pos (starEach es X.env)).any (·.1)=false:=by rfl):SE X cA aq aj F EX (.Call (.Name x pp) (e::es) [] pos) (.pr fz p Xs):=PE.weak (Yu hc hg hm hv ha hn rK he hpl) λZ H Q hh=>un hh λU J s hL hS h=>
 qj hL hS h λvs H1 U1 ds s1 x1 hL1 aJ r1 h1=>by
  obtain⟨ds,rs,h3⟩:=uJ aJ r1 h1;exact hp U1 H1 ds _ _ aJ.zs rs (tK aJ h3)
theorem S7{id:String}{r:List V->Hp->VK->Prop}(hc:cW X (.type id) r)(hp:bF X.K cA p r)
  (hg:Gl X x) (hm:X.mg x=none) (hv:bootBuiltins x=some (.type id)) (ha:SA X cA aq aj F EX (e::es) Xs) (hn:x≠"__name__":=by decide) (rK:(x==("__debug__" : Str))=false:=by decide)
  (he:starEach (e::es) X.env=(false,eval e X.env)::starEach es X.env:=by rfl) (hpl:(backTo pos (starEach es X.env)).any (·.1)=false:=by rfl):SE X cA aq aj F EX (.Call (.Name x pp) (e::es) [] pos) (.pr fz p Xs):=PE.weak (zgj hc hg hm hv ha hn rK he hpl) λZ H Q hh=>un hh λU J s hL hS h=>
 qj hL hS h λvs H1 U1 ds s1 x1 hL1 aJ r1 h1=>by
  obtain⟨ds,rs,h3⟩:=uJ aJ r1 h1;exact hp U1 H1 ds _ _ aJ.zs rs (tK aJ h3)
theorem znZ(hp:bF X.K cA p (r2 (Ro X.K)))(ha:SE X cA aq aj F EX a A)(hb:SE X cA aq aj F EX b B)(hs:qK b:=by intro _ _;rfl):SE X cA aq aj F EX (.Subscript a b pos) (.pr true p (.cons A (.cons B .nil))):=PE.weak (zov zmh ha hb hs) λZ H Q hh=>un hh λU J s hL hS h=>by
 have h:Run X.K cA (M.bd (M.bd (ev aq aj F A J) λx=>M.bd (M.bd (ev aq aj F B J) λy=>M.bd (M.ret []) λz=>M.ret (y::z)) λys=>M.ret (x::ys)) λvs=>M.bd (gW vs) λds=>cF true (prim p ds)) U H s _ _:=h;simp only[gM] at h;refine bw hL hS h λx H1 U1 d1 s1 x1 hL1 aJ r1 h1=>bw hL1 aJ h1 λy H2 U2 d2 s2 x2 hL2 aQ r2' h2=>?_;exact Ez (Nb (fz:=true) (U:=U) x2 aJ aQ r1 r2' h2 hp)
theorem zn4(ho:Mp X (unaryOp op) r)(hp:bF X.K cA p (λvs H Q=>∃x,vs=[x]/\r x H Q))(ha:SE X cA aq aj F EX a A):SE X cA aq aj F EX (.UnaryOp op a pos) (.pr true p (.cons A .nil)):=PE.weak (Yg ho ha) λZ H Q hh=>un hh λU J s hL hS h=>by
 have h:Run X.K cA (M.bd (M.bd (ev aq aj F A J) λx=>M.bd (M.ret []) λz=>M.ret (x::z)) λvs=>M.bd (gW vs) λds=>cF true (prim p ds)) U H s _ _:=h;simp only[gM] at h;refine bw hL hS h λx H1 U1 d1 s1 x1 hL1 aJ r1 h1=>?_;obtain⟨ds,rs,h3⟩:=uJ aJ (.cons r1 .nil) h1;obtain⟨_,e,q⟩:=hp U1 H1 ds _ _ aJ.zs rs (tK aJ h3);cases e;exact q
theorem zmI{j p'}(ha:SE X cA aq aj F EX a A):SE X cA aq aj F EX (.Compare a [.Is] [.Constant .none j p'] pos) (.pr true .vU (.cons A .nil)):=PE.weak (X7 (X5 ha)) λZ H Q hh=>un hh λU J s hL hS h=>by
 have h:Run X.K cA (M.bd (M.bd (ev aq aj F A J) λx=>M.bd (M.ret []) λz=>M.ret (x::z)) λvs=>M.bd (gW vs) λds=>cF true (prim .vU ds)) U H s _ _:=h;simp only[gM] at h;refine bw hL hS h λx H1 U1 d1 s1 x1 hL1 aJ r1 h1=>?_;obtain⟨ds,rs,h3⟩:=uJ aJ (.cons r1 .nil) h1;cases rs with
 |cons r rs=>cases rs with
  |nil=>
   rename_i d;have h4:=tK aJ h3;have q:=h4 H1 _ bD.refl (.bl _);cases d<;>first
    |(obtain⟨_,_,rfl,_,_⟩:=r;exact q)
    |(cases (show Rep _ _ _ _ _ x from r)<;>exact q)
theorem zlk{j p'}(ha:SE X cA aq aj F EX a A):SE X cA aq aj F EX (.Compare a [.IsNot] [.Constant .none j p'] pos) (.pr true .tD (.cons A .nil)):=PE.weak (X7 (X6 ha)) λZ H Q hh=>un hh λU J s hL hS h=>by
 have h:Run X.K cA (M.bd (M.bd (ev aq aj F A J) λx=>M.bd (M.ret []) λz=>M.ret (x::z)) λvs=>M.bd (gW vs) λds=>cF true (prim .tD ds)) U H s _ _:=h;simp only[gM] at h;refine bw hL hS h λx H1 U1 d1 s1 x1 hL1 aJ r1 h1=>?_;obtain⟨ds,rs,h3⟩:=uJ aJ (.cons r1 .nil) h1;cases rs with
 |cons r rs=>cases rs with
  |nil=>
   rename_i d;have h4:=tK aJ h3;have q:=h4 H1 _ bD.refl (.bl _);cases d<;>first
    |(obtain⟨_,_,rfl,_,_⟩:=r;exact q)
    |(cases (show Rep _ _ _ _ _ x from r)<;>exact q)
theorem Zf(q:Pr)(hq:prim q=Cd f)(hh:qW X.K cA EX (λJ=>M.bd (ev aq aj F (.pr true q (.cons A .nil)) J) bool) Z H Q):tE X.K cA EX (ev aq aj F A) Z H λx H1=>Q (f (decide (x=.non))) H1:=un hh λU J s hL hS h=>by
 have h:Run X.K cA (M.bd (M.bd (M.bd (ev aq aj F A J) λx=>M.bd (M.ret []) λz=>M.ret (x::z)) λvs=>M.bd (gW vs) λds=>cF true (prim q ds)) bool) U H s _ _:=h;simp only[gM] at h;refine bw hL hS h λx H1 U1 d1 s1 x1 hL1 aJ r1 h1=>?_;obtain⟨ds,rs,h3⟩:=uJ aJ (.cons r1 .nil) h1;cases rs with
 |cons r rs=>cases rs with
  |nil=>
   rename_i d;rw[hq] at h3;have h4:Run X.K cA (M.bd (M.ret (Xv.d (.bl (f d.uF)))) bool) U1 H1 s1 (λd _ U' H'=>Q d H') (eX X.K cA EX Z):=h3;have q:=h4 U1 H1 Ext.refl aJ;cases d<;>first
    |(obtain⟨_,_,rfl,_,_⟩:=r;exact q)
    |(cases (show Rep _ _ _ _ _ x from r)<;>exact q)
theorem zns{j p'}(ha:SE X cA aq aj F EX a A):ST X cA aq aj F EX (.Compare a [.Is] [.Constant .none j p'] pos) (.pr true .vU (.cons A .nil)):=PT.weak (QC (X5 ha)) λZ H Q hh=>by
 have:=Zf .vU (f:=id) rfl hh;obtain⟨U,J,s,a,b,c⟩:=this;exact⟨U,J,s,a,b,c.imp λd s' U' H' k v rv=>⟨_,rfl,k v rv⟩⟩
theorem zkI{j p'}(ha:SE X cA aq aj F EX a A):ST X cA aq aj F EX (.Compare a [.IsNot] [.Constant .none j p'] pos) (.pr true .tD (.cons A .nil)):=PT.weak (QC (X6 ha)) λZ H Q hh=>by
 have:=Zf .tD (f:=not) rfl hh;obtain⟨U,J,s,a,b,c⟩:=this;exact⟨U,J,s,a,b,c.imp λd s' U' H' k v rv=>⟨_,rfl,k v rv⟩⟩
theorem zhZ{K:W.Frag}{U:Ph}{H:Hp}{s:S}{x:Xv}{v:V}{Q:Bool->Hp->Prop}{Ee:Nat->List D->S->Ph->Hp->Prop}(hS:aF K cA U H s)(r:aV K cA U H x v)(h:Run K cA (bool x) U H s (λd _ U' H'=>Q d H') Ee):∃k,v=.bl k/\Q k H:=by
 cases r with
 |l _=>exact h.elim
 |d rv=>cases rv with
  |bl k=>exact⟨k,rfl,h U H Ext.refl hS⟩
  |_=>exact h.elim
end
mutual
inductive Is (h:Heap):D->Value->Prop where
 |non:Is h .non .none
 |bl (b:Bool):Is h (.bl b) (.bool b)
 |int (i:Int) (t:Tok):Is h (.int i) (.int i t)
 |str (x:Str) (t:Tok):Is h (.str x) (.str x t)
 |tup {a:Addr} {xs:List D} {its:List Value} (p:h.IsTuple a its.toArray) (r:jM h xs its):Is h (.tup xs) (.ref a)
 |fl {a:Addr} {xs:List D} {its:List Value} (p:h.IsList a its.toArray) (r:jM h xs its):Is h (.fl xs) (.ref a)
 |oth {d:D} {u:Value} (k:kq d=none):Is h d u
inductive jM (h:Heap):List D->List Value->Prop where
 |nil:jM h [] []
 |cons {d:D} {u:Value} {ds:List D} {us:List Value} (a:Is h d u) (r:jM h ds us):jM h (d::ds) (u::us)
end
section
variable {X:Cx}{cA:Cl}{ao:List (Addr×Obj)}{Z:L2.St}{H:Hp}{s:Shared}{U:Ph}{h:Heap}
theorem S8(I:Inv X ao Z H s){ds:List D}{vs:List V}{us:List Value}(h:aC X.K cA U H ds vs)(r:Vals vs us):jM s.heap ds us:=
 aC.rec (motive_1:=λd v _=>∀{u:Value},RelV v u->Is s.heap d u) (motive_2:=λd v _=>∀{u:List Value},Vals v u->jM s.heap d u) (λr=>by cases r;exact .non) (λb _ r=>by cases r;exact .bl b) (λi _ r=>by obtain⟨t,rfl⟩:=r;exact .int i t) (λi _ r=>by obtain⟨t,rfl⟩:=r;exact .str i t)
 (λh _ ih _ r=>by
  cases r;obtain⟨its,rv,ht,_⟩:=I.tuple h.ju;exact .tup ht (ih rv))
 (λh _ ih _ r=>by
  cases r;obtain⟨its,rv,ht,_⟩:=I.list h.tH;exact .fl ht.isList (ih rv))
 (λ_ _ _ _=>.oth rfl) (λ_ _ _ _ _=>.oth rfl) (λ_ _ _ _ _=>.oth rfl) (λ_ _ _=>.oth rfl)
 (λr=>by cases r;exact .nil)
 (λ_ _ i j _ r=>by
  cases r with
  |cons a b=>exact .cons (i a) (j b)) h r
theorem su(I:Inv X ao Z H s){d:D}{v:V}{u:Value}(h:Rep X.K cA U H d v)(r:RelV v u):Is s.heap d u:=by
 cases h with
 |non=>cases r;exact .non
 |bl b=>cases r;exact .bl b
 |int i=>obtain⟨t,rfl⟩:=r;exact .int i t
 |str i=>obtain⟨t,rfl⟩:=r;exact .str i t
 |tup h q=>
  cases r;obtain⟨its,rv,ht,_⟩:=I.tuple h.ju;exact .tup ht (S8 I q rv)
 |fl h q=>
  cases r;obtain⟨its,rv,ht,_⟩:=I.list h.tH;exact .fl ht.isList (S8 I q rv)
 |fd _ _=>exact .oth rfl
 |exc _ _=>exact .oth rfl
 |ob _ _=>exact .oth rfl
 |any _=>exact .oth rfl
theorem zE(I:Inv X ao Z H s){d:D}{v:V}{u:Value}(q:Rv X.K cA U H d v)(r:RelV v u):Is s.heap d u:=by
 cases d with
 |fl xs=>
  obtain⟨a,vs,rfl,sq,rs⟩:=q;cases r;obtain⟨its,rv,ht,_⟩:=I.list sq;exact .fl ht.isList (S8 I rs rv)
 |non=>exact su I q r
 |bl b=>exact su I q r
 |int b=>exact su I q r
 |str b=>exact su I q r
 |tup b=>exact su I q r
 |fd b c=>exact su I q r
 |exc b c=>exact su I q r
 |ob b c=>exact su I q r
 |any=>exact su I q r
theorem jM.len:∀{ds:List D} {us:List Value},jM h ds us->ds.length=us.length
 |_,_,.nil=>rfl
 |_,_,.cons _ r=>by rw[fX,fX,jM.len r]
theorem jM.get:∀{ds:List D} {us:List Value} {i:Nat} {d:D},jM h ds us->ds[i]?=some d->∃u,us[i]?=some u/\Is h d u
 |_,_,_,_,.nil,e=>by simp at e
 |_,_,0,_,.cons h _,e=>by simp at e;subst e;exact⟨_,rfl,h⟩
 |_,_,i+1,d,.cons _ r,e=>by
  obtain⟨v,a,b⟩:=jM.get (i:=i) (d:=d) r (by simpa using e);exact⟨v,by simpa using a,b⟩
theorem Zg{a:Addr}{is js:Array Value}(p:h.IsTuple a is)(q:h.IsTuple a js):is=js:=by
 obtain⟨o,e,c,n,d⟩:=p;obtain⟨o',e',c',n',d'⟩:=q;rw[e] at e';cases e';rw[d] at d';cases d';rfl
theorem Zh{a:Addr}{is js:Array Value}(p:h.IsList a is)(q:h.IsList a js):is=js:=by
 obtain⟨o,e,c,n,d⟩:=p;obtain⟨o',e',c',n',d'⟩:=q;rw[e] at e';cases e';rw[d] at d';cases d';rfl
theorem vV{a:Addr}{is js:Array Value}(p:h.IsList a is)(q:h.IsTuple a js):False:=by
 obtain⟨o,e,c,n,d⟩:=p;obtain⟨o',e',c',n',d'⟩:=q;rw[e] at e';cases e';rw[c] at c';exact absurd c' (by simp)
theorem Ji{eq:D->D->Option Bool}:∀{xs ys:List D} {b:Bool},dF eq xs ys=some b->∃e:Nat->Bool,(∀(j:Nat) x y,xs[j]?=some x->ys[j]?=some y->eq x y=some (e j))/\b=((List.range (min xs.length ys.length)).all e&&xs.length==ys.length)
 |[],[],b,h=>by cases h;exact⟨λ_=>true,λj x y q=>by simp at q,by simp⟩
 |[],y::ys,b,h=>by cases h;exact⟨λ_=>true,λj x y q=>by simp at q,by simp⟩
 |x::xs,[],b,h=>by cases h;exact⟨λ_=>true,λj x y q r=>by simp at r,by simp⟩
 |x::xs,y::ys,b,h=>by
  simp only[dF] at h;cases e1:eq x y with
  |none=>rw[e1] at h;cases h
  |some a=>
   cases e2:dF eq xs ys with
   |none=>rw[e1,e2] at h;cases h
   |some c=>
    rw[e1,e2] at h;cases h;obtain⟨e,h1,h2⟩:=Ji e2;refine⟨λj=>match j with|0=>a|j+1=>e j,λj p q r1 r2=>?_,?_⟩
    ·cases j with
     |zero=>
      simp at r1 r2;subst r1 r2;exact e1
     |succ j=>exact h1 j p q (by simpa using r1) (by simpa using r2)
    ·rw[h2];simp only[fX,Nat.succ_min_succ,PX,wG,yO,Function.comp_def];rw[Bool.and_assoc]
     congr 2
     simp
theorem jw{n:Nat}{d e:D}(k:kq d=none):cZ n d e=none:=by
 cases n<;>cases d<;>first|cases k;done|(cases e<;>rfl)
theorem iC{n:Nat}{d e:D}(k:kq e=none):cZ n d e=none:=by
 cases n<;>cases e<;>first|cases k;done|(cases d<;>rfl)
theorem S9:∀(n:Nat) {d1 d2:D} {u:Value} {b:Bool},Is h d1 u->Is h d2 u->cZ n d1 d2=some b->b=true:=by
 intro n;have rows:∀(n:Nat),(∀{d1 d2:D} {u:Value} {b:Bool},Is h d1 u->Is h d2 u->cZ n d1 d2=some b->b=true)->∀{xs ys:List D} {is js:List Value} {b:Bool},jM h xs is->jM h ys js->is.toArray=js.toArray->dF (cZ n) xs ys=some b->b=true:=by
  intro n ih xs ys is js b q1 q2 e hd;have e:is=js:=by simpa using e
  subst e;obtain⟨e,a1,a2⟩:=Ji (eq:=cZ n) hd;rw[a2];have hl:_=_:=q1.len.trans q2.len.symm;rw[g8];refine⟨fj.mpr λj hj=>?_,by rw[hl];simp⟩;have hj:=tR.mp hj;obtain⟨x,hx⟩ : ∃x,_=some x:=⟨_,cX (iY hj (Nat.min_le_left _ _))⟩;obtain⟨y,hy⟩ : ∃y,_=some y:=⟨_,cX (iY hj (Nat.min_le_right _ _))⟩;obtain⟨v1,e1,p1⟩:=q1.get hx;obtain⟨v2,e2,p2⟩:=q2.get hy;rw[e1] at e2;cases e2;exact ih p1 p2 (a1 j x y hx hy)
 induction n with
 |zero=>
  intro d1 d2 u b r1 r2 hd;cases r1 with
  |oth k=>rw[jw k] at hd;cases hd
  |non=>cases r2 with
   |oth k=>rw[iC k] at hd;cases hd
   |non=>cases hd;rfl
  |bl x=>cases r2 with
   |oth k=>rw[iC k] at hd;cases hd
   |bl y=>cases hd;simp
  |int x t=>cases r2 with
   |oth k=>rw[iC k] at hd;cases hd
   |int y=>cases hd;simp
  |str x t=>cases r2 with
   |oth k=>rw[iC k] at hd;cases hd
   |str y=>cases hd;simp
  |tup p q=>cases r2 with
   |oth k=>rw[iC k] at hd;cases hd
   |tup p2 q2=>cases hd
   |fl p2 q2=>exact(vV p2 p).elim
  |fl p q=>cases r2 with
   |oth k=>rw[iC k] at hd;cases hd
   |fl p2 q2=>cases hd
   |tup p2 q2=>exact(vV p p2).elim
 |succ n ih=>
  intro d1 d2 u b r1 r2 hd;cases r1 with
  |oth k=>rw[jw k] at hd;cases hd
  |non=>cases r2 with
   |oth k=>rw[iC k] at hd;cases hd
   |non=>cases hd;rfl
  |bl x=>cases r2 with
   |oth k=>rw[iC k] at hd;cases hd
   |bl y=>cases hd;simp
  |int x t=>cases r2 with
   |oth k=>rw[iC k] at hd;cases hd
   |int y=>cases hd;simp
  |str x t=>cases r2 with
   |oth k=>rw[iC k] at hd;cases hd
   |str y=>cases hd;simp
  |tup p q=>cases r2 with
   |oth k=>rw[iC k] at hd;cases hd
   |tup p2 q2=>exact rows n ih q q2 (Zg p p2) hd
   |fl p2 q2=>exact(vV p2 p).elim
  |fl p q=>cases r2 with
   |oth k=>rw[iC k] at hd;cases hd
   |fl p2 q2=>exact rows n ih q q2 (Zh p p2) hd
   |tup p2 q2=>exact(vV p p2).elim
theorem parts{n:Nat}{A:Around}{xs ys:List D}{is js:List Value}{b:Bool}(r1:jM s.heap xs is)(r2:jM s.heap ys js)(hd:dF (cZ n) xs ys=some b)
  (ih:∀{d1 d2:D} {u1 u2:Value} {b:Bool},Is s.heap d1 u1->Is s.heap d2 u2->cZ n d1 d2=some b->SeqAt.EqAt A s u1 u2 b) :
  ∃e:Nat->Bool,(∀j (h1:j<is.toArray.size) (h2:j<js.toArray.size),SeqAt.EqAt A s is.toArray[j] js.toArray[j] (e j))/\b=((List.range (min is.toArray.size js.toArray.size)).all e&&is.toArray.size==js.toArray.size):=by
 obtain⟨e,a1,a2⟩:=Ji hd;have z1:=r1.len;have z2:=r2.len;refine⟨e,λj h1 h2=>?_,by simp only[fP,<-z1,<-z2];exact a2⟩;simp only[fP] at h1 h2;obtain⟨x,hx⟩ : ∃x,xs[j]?=some x:=⟨_,cX (by rw[z1];exact h1)⟩;obtain⟨y,hy⟩ : ∃y,ys[j]?=some y:=⟨_,cX (by rw[z2];exact h2)⟩;obtain⟨u,f1,g1⟩:=r1.get hx;obtain⟨u',f2,g2⟩:=r2.get hy;have k1:is.toArray[j]=u:=by
  have:=dO.mp f1;simpa using this.2
 have k2:js.toArray[j]=u':=by
  have:=dO.mp f2;simpa using this.2
 rw[k1,k2];exact ih g1 g2 (a1 j x y hx hy)
theorem Zi{A:Around}{l m:Addr}{is js:Array Value}{e:Nat->Bool}{b:Bool}(p1:s.heap.IsList l is)(p2:s.heap.IsList m js)(hu:A.units<cLine)(he:∀j (h1:j<is.size) (h2:j<js.size),SeqAt.EqAt A.in1 s is[j] js[j] (e j))(hb:b=((List.range (min is.size js.size)).all e&&is.size==js.size)):SeqAt.RcAt A s (.ref l) (.ref m) b:=by
 by_cases hz:is.size=js.size
 ·have:b=(List.range is.size).all e:=by rw[hb,hz];simp
  rw[this];exact SeqAt.RcAt.lists p1 p2 hz hu he
 ·have S_:(is.size != js.size)=true:=by simpa using hz
  have:b=false:=by rw[hb];simp[hz]
  rw[this];exact SeqAt.RcAt.lists_lengths p1 p2 S_ hu
theorem zhd{A:Around}{l m:Addr}{is js:Array Value}{e:Nat->Bool}{b:Bool}(p1:s.heap.IsList l is)(p2:s.heap.IsList m js)(hu:A.units<cLine)(he:∀j (h1:j<is.size) (h2:j<js.size),SeqAt.EqAt A.in1 s is[j] js[j] (e j))(hb:b=((List.range (min is.size js.size)).all e&&is.size==js.size)):SeqAt.RcNeAt A s (.ref l) (.ref m) (!b):=by
 by_cases hz:is.size=js.size
 ·have:b=(List.range is.size).all e:=by rw[hb,hz];simp
  rw[this];exact SeqAt.RcNeAt.lists p1 p2 hz hu he
 ·have S_:(is.size != js.size)=true:=by simpa using hz
  have:b=false:=by rw[hb];simp[hz]
  rw[this];exact SeqAt.RcNeAt.lists_lengths p1 p2 S_ hu
open SeqAt in
theorem Cu:∀(n:Nat) {A:Around} {d1 d2:D} {u1 u2:Value} {b:Bool},A.units+n<cLine->Is s.heap d1 u1->Is s.heap d2 u2->cZ n d1 d2=some b->SeqAt.EqAt A s u1 u2 b:=by
 intro n
 induction n with
 |zero=>
  intro A d1 d2 u1 u2 b hu r1 r2 hd;have hu:A.units<cLine:=by lia
  cases r1 with
  |oth k=>rw[jw k] at hd;cases hd
  |non=>cases r2 with
   |oth k=>rw[iC k] at hd;cases hd
   |non=>cases hd;exact EqAt.same _
   |bl y=>cases hd;exact EqAt.none_bool _
   |int y t=>cases hd;exact EqAt.none_int _ _
   |str y t=>cases hd;exact EqAt.none_str _ _
   |tup p q=>cases hd;exact EqAt.none_tuple p hu
   |fl p q=>cases hd;exact EqAt.none_list p hu
  |bl x=>cases r2 with
   |oth k=>rw[iC k] at hd;cases hd
   |non=>cases hd;exact EqAt.bool_none _
   |bl y=>cases hd;exact EqAt.bool_bool _ _
   |int y t=>cases hd;exact EqAt.bool_int _ _ _
   |str y t=>cases hd;exact EqAt.bool_str _ _ _
   |tup p q=>cases hd;exact EqAt.bool_tuple _ p hu
   |fl p q=>cases hd;exact EqAt.bool_list _ p hu
  |int x t=>cases r2 with
   |oth k=>rw[iC k] at hd;cases hd
   |non=>cases hd;exact EqAt.int_none _ _
   |bl y=>cases hd;exact EqAt.int_bool _ _ _
   |int y t=>cases hd;exact EqAt.int_int _ _ _ _
   |str y t=>cases hd;exact EqAt.int_str _ _ _ _
   |tup p q=>cases hd;exact EqAt.int_tuple _ _ p hu
   |fl p q=>cases hd;exact EqAt.int_list _ _ p hu
  |str x t=>cases r2 with
   |oth k=>rw[iC k] at hd;cases hd
   |non=>cases hd;exact EqAt.str_none _ _
   |bl y=>cases hd;exact EqAt.str_bool _ _ _
   |int y t=>cases hd;exact EqAt.str_int _ _ _ _
   |str y t=>cases hd;exact EqAt.str_str _ _ _ _
   |tup p q=>cases hd;exact EqAt.str_tuple _ _ p hu
   |fl p q=>cases hd;exact EqAt.str_list _ _ p hu
  |tup p q=>cases r2 with
   |oth k=>rw[iC k] at hd;cases hd
   |non=>cases hd;exact EqAt.tuple_none p hu
   |bl y=>cases hd;exact EqAt.tuple_bool _ p hu
   |int y t=>cases hd;exact EqAt.tuple_int _ _ p hu
   |str y t=>cases hd;exact EqAt.tuple_str _ _ p hu
   |tup p2 q2=>cases hd
   |fl p2 q2=>cases hd;exact EqAt.tuple_list p p2 hu
  |fl p q=>cases r2 with
   |oth k=>rw[iC k] at hd;cases hd
   |non=>cases hd;exact EqAt.list_none p hu
   |bl y=>cases hd;exact EqAt.list_bool _ p hu
   |int y t=>cases hd;exact EqAt.list_int _ _ p hu
   |str y t=>cases hd;exact EqAt.list_str _ _ p hu
   |tup p2 q2=>cases hd;exact EqAt.list_tuple p p2 hu
   |fl p2 q2=>cases hd
 |succ n ih=>
  intro A d1 d2 u1 u2 b Jj r1 r2 hd;have hu:A.units<cLine:=by lia
  have dY:A.in1.units+n<cLine:=by show A.units+1+n<cLine;lia
  cases r1 with
  |oth k=>rw[jw k] at hd;cases hd
  |non=>cases r2 with
   |oth k=>rw[iC k] at hd;cases hd
   |non=>cases hd;exact EqAt.same _
   |bl y=>cases hd;exact EqAt.none_bool _
   |int y t=>cases hd;exact EqAt.none_int _ _
   |str y t=>cases hd;exact EqAt.none_str _ _
   |tup p q=>cases hd;exact EqAt.none_tuple p hu
   |fl p q=>cases hd;exact EqAt.none_list p hu
  |bl x=>cases r2 with
   |oth k=>rw[iC k] at hd;cases hd
   |non=>cases hd;exact EqAt.bool_none _
   |bl y=>cases hd;exact EqAt.bool_bool _ _
   |int y t=>cases hd;exact EqAt.bool_int _ _ _
   |str y t=>cases hd;exact EqAt.bool_str _ _ _
   |tup p q=>cases hd;exact EqAt.bool_tuple _ p hu
   |fl p q=>cases hd;exact EqAt.bool_list _ p hu
  |int x t=>cases r2 with
   |oth k=>rw[iC k] at hd;cases hd
   |non=>cases hd;exact EqAt.int_none _ _
   |bl y=>cases hd;exact EqAt.int_bool _ _ _
   |int y t=>cases hd;exact EqAt.int_int _ _ _ _
   |str y t=>cases hd;exact EqAt.int_str _ _ _ _
   |tup p q=>cases hd;exact EqAt.int_tuple _ _ p hu
   |fl p q=>cases hd;exact EqAt.int_list _ _ p hu
  |str x t=>cases r2 with
   |oth k=>rw[iC k] at hd;cases hd
   |non=>cases hd;exact EqAt.str_none _ _
   |bl y=>cases hd;exact EqAt.str_bool _ _ _
   |int y t=>cases hd;exact EqAt.str_int _ _ _ _
   |str y t=>cases hd;exact EqAt.str_str _ _ _ _
   |tup p q=>cases hd;exact EqAt.str_tuple _ _ p hu
   |fl p q=>cases hd;exact EqAt.str_list _ _ p hu
  |@tup a1 xs is p q=>cases r2 with
   |oth k=>rw[iC k] at hd;cases hd
   |non=>cases hd;exact EqAt.tuple_none p hu
   |bl y=>cases hd;exact EqAt.tuple_bool _ p hu
   |int y t=>cases hd;exact EqAt.tuple_int _ _ p hu
   |str y t=>cases hd;exact EqAt.tuple_str _ _ p hu
   |@tup a2 ys js p2 q2=>
    by_cases ea:a1=a2
    ·subst ea;have:=S9 (n+1) (.tup p q) (.tup p2 q2) hd;subst this;exact EqAt.same _
    ·obtain⟨e,he,hb⟩:=parts (A:=A.in1) q q2 hd λa b c=>ih dY a b c;rw[hb];exact EqAt.of_refs ea (RcAt.tuples p p2 hu he)
   |fl p2 q2=>cases hd;exact EqAt.tuple_list p p2 hu
  |@fl a1 xs is p q=>cases r2 with
   |oth k=>rw[iC k] at hd;cases hd
   |non=>cases hd;exact EqAt.list_none p hu
   |bl y=>cases hd;exact EqAt.list_bool _ p hu
   |int y t=>cases hd;exact EqAt.list_int _ _ p hu
   |str y t=>cases hd;exact EqAt.list_str _ _ p hu
   |tup p2 q2=>cases hd;exact EqAt.list_tuple p p2 hu
   |@fl a2 ys js p2 q2=>
    by_cases ea:a1=a2
    ·subst ea;have:=S9 (n+1) (.fl p q) (.fl p2 q2) hd;subst this;exact EqAt.same _
    ·obtain⟨e,he,hb⟩:=parts (A:=A.in1) q q2 hd λa b c=>ih dY a b c;exact EqAt.of_refs ea (Zi p p2 hu he hb)
end
section
variable {X:Cx}{cA:Cl}{ao:List (Addr×Obj)}{Z:L2.St}{H:Hp}{s:Shared}{U:Ph}{h:Heap}
open SeqAt in
theorem Zj(Jj:A.units+(n+1)<cLine)(r1:Is s.heap d1 u1)(r2:Is s.heap d2 u2)(hd:cZ (n+1) d1 d2=some b):RcAt A s u1 u2 b/\RcNeAt A s u1 u2 (!b):=by
 have hu:A.units<cLine:=by lia
 have dY:A.in1.units+n<cLine:=by show A.units+1+n<cLine;lia
 cases r1 with
 |oth k=>rw[jw k] at hd;cases hd
 |non=>cases r2 with
  |oth k=>rw[iC k] at hd;cases hd
  |non=>cases hd;exact⟨RcAt.none_none,RcNeAt.none_none⟩
  |bl y=>cases hd;exact⟨RcAt.none_bool _,RcNeAt.none_bool _⟩
  |int y t=>cases hd;exact⟨RcAt.none_int _ _,RcNeAt.none_int _ _⟩
  |str y t=>cases hd;exact⟨RcAt.none_str _ _,RcNeAt.none_str _ _⟩
  |tup p q=>cases hd;exact⟨RcAt.none_tuple p hu,RcNeAt.none_tuple p hu⟩
  |fl p q=>cases hd;exact⟨RcAt.none_list p hu,RcNeAt.none_list p hu⟩
 |bl x=>cases r2 with
  |oth k=>rw[iC k] at hd;cases hd
  |non=>cases hd;exact⟨RcAt.bool_none _,RcNeAt.bool_none _⟩
  |bl y=>cases hd;exact⟨RcAt.bool_bool _ _,RcNeAt.bool_bool _ _⟩
  |int y t=>cases hd;exact⟨RcAt.bool_int _ _ _,RcNeAt.bool_int _ _ _⟩
  |str y t=>cases hd;exact⟨RcAt.bool_str _ _ _,RcNeAt.bool_str _ _ _⟩
  |tup p q=>cases hd;exact⟨RcAt.bool_tuple _ p hu,RcNeAt.bool_tuple _ p hu⟩
  |fl p q=>cases hd;exact⟨RcAt.bool_list _ p hu,RcNeAt.bool_list _ p hu⟩
 |int x t=>cases r2 with
  |oth k=>rw[iC k] at hd;cases hd
  |non=>cases hd;exact⟨RcAt.int_none _ _,RcNeAt.int_none _ _⟩
  |bl y=>cases hd;exact⟨RcAt.int_bool _ _ _,RcNeAt.int_bool _ _ _⟩
  |int y t=>cases hd;exact⟨RcAt.int_int _ _ _ _,RcNeAt.int_int _ _ _ _⟩
  |str y t=>cases hd;exact⟨RcAt.int_str _ _ _ _,RcNeAt.int_str _ _ _ _⟩
  |tup p q=>cases hd;exact⟨RcAt.int_tuple _ _ p hu,RcNeAt.int_tuple _ _ p hu⟩
  |fl p q=>cases hd;exact⟨RcAt.int_list _ _ p hu,RcNeAt.int_list _ _ p hu⟩
 |str x t=>cases r2 with
  |oth k=>rw[iC k] at hd;cases hd
  |non=>cases hd;exact⟨RcAt.str_none _ _,RcNeAt.str_none _ _⟩
  |bl y=>cases hd;exact⟨RcAt.str_bool _ _ _,RcNeAt.str_bool _ _ _⟩
  |int y t=>cases hd;exact⟨RcAt.str_int _ _ _ _,RcNeAt.str_int _ _ _ _⟩
  |str y t=>cases hd;exact⟨RcAt.str_str _ _ _ _,RcNeAt.str_str _ _ _ _⟩
  |tup p q=>cases hd;exact⟨RcAt.str_tuple _ _ p hu,RcNeAt.str_tuple _ _ p hu⟩
  |fl p q=>cases hd;exact⟨RcAt.str_list _ _ p hu,RcNeAt.str_list _ _ p hu⟩
 |@tup a1 xs is p q=>cases r2 with
  |oth k=>rw[iC k] at hd;cases hd
  |non=>cases hd;exact⟨RcAt.tuple_none p hu,RcNeAt.tuple_none p hu⟩
  |bl y=>cases hd;exact⟨RcAt.tuple_bool _ p hu,RcNeAt.tuple_bool _ p hu⟩
  |int y t=>cases hd;exact⟨RcAt.tuple_int _ _ p hu,RcNeAt.tuple_int _ _ p hu⟩
  |str y t=>cases hd;exact⟨RcAt.tuple_str _ _ p hu,RcNeAt.tuple_str _ _ p hu⟩
  |@tup a2 ys js p2 q2=>
   obtain⟨e,he,hb⟩:=parts (A:=A.in1) q q2 hd λa b c=>Cu n dY a b c;rw[hb];exact⟨RcAt.tuples p p2 hu he,RcNeAt.tuples p p2 hu he⟩
  |fl p2 q2=>cases hd;exact⟨RcAt.tuple_list p p2 hu,RcNeAt.tuple_list p p2 hu⟩
 |@fl a1 xs is p q=>cases r2 with
  |oth k=>rw[iC k] at hd;cases hd
  |non=>cases hd;exact⟨RcAt.list_none p hu,RcNeAt.list_none p hu⟩
  |bl y=>cases hd;exact⟨RcAt.list_bool _ p hu,RcNeAt.list_bool _ p hu⟩
  |int y t=>cases hd;exact⟨RcAt.list_int _ _ p hu,RcNeAt.list_int _ _ p hu⟩
  |str y t=>cases hd;exact⟨RcAt.list_str _ _ p hu,RcNeAt.list_str _ _ p hu⟩
  |tup p2 q2=>cases hd;exact⟨RcAt.list_tuple p p2 hu,RcNeAt.list_tuple p p2 hu⟩
  |@fl a2 ys js p2 q2=>
   obtain⟨e,he,hb⟩:=parts (A:=A.in1) q q2 hd λa b c=>Cu n dY a b c;exact⟨Zi p p2 hu he hb,zhd p p2 hu he hb⟩
noncomputable def xO(K:W.Frag)(cA:Cl)(f:Bool->Bool):R2:=λx y H Q=>∃U d1 d2 b,Rv K cA U H d1 x/\Rv K cA U H d2 y/\cZ 50 d1 d2=some b/\Q (.bl (f b)) H
theorem znp(hu:X.A.units+60<cLine):fH X (compareOp .Eq) (xO X.K cA id):=by
 intro ao s Z H x y v u Q I rx ry ⟨U,d1,d2,b,r1,r2,hd,q⟩;exact(Zj (n:=49) (by lia) (zE I r1 rx) (zE I r2 ry) hd).1 X.prog X.w X.xe _ ⟨.bl b,H,I,rfl,q⟩
theorem znA(hu:X.A.units+60<cLine):fH X (compareOp .NotEq) (xO X.K cA not):=by
 intro ao s Z H x y v u Q I rx ry ⟨U,d1,d2,b,r1,r2,hd,q⟩;exact(Zj (n:=49) (by lia) (zE I r1 rx) (zE I r2 ry) hd).2 X.prog X.w X.xe _ ⟨.bl (!b),H,I,rfl,q⟩
theorem zjz:∀(n:Nat) {d d' x:D} {u:Value} {b b':Bool},Is h d u->Is h d' u->cZ n d x=some b->cZ n d' x=some b'->b=b':=by
 intro n;have flat:∀{d d' x:D} {u:Value} {b b':Bool},Is h d u->Is h d' u->(∀xs xs',d=.tup xs->d'=.tup xs'->False)->(∀xs xs',d=.fl xs->d'=.fl xs'->False)->cZ n d x=some b->cZ n d' x=some b'->b=b':=by
  intro d d' x u b b' r1 r2 n1 n2 h1 h2;cases r1 with
  |oth k=>rw[jw k] at h1;cases h1
  |non=>cases r2 with
   |oth k=>rw[jw k] at h2;cases h2
   |non=>rw[h1] at h2;exact cR h2
  |bl y=>cases r2 with
   |oth k=>rw[jw k] at h2;cases h2
   |bl=>rw[h1] at h2;exact cR h2
  |int y=>cases r2 with
   |oth k=>rw[jw k] at h2;cases h2
   |int=>rw[h1] at h2;exact cR h2
  |str y=>cases r2 with
   |oth k=>rw[jw k] at h2;cases h2
   |str=>rw[h1] at h2;exact cR h2
  |tup p q=>cases r2 with
   |oth k=>rw[jw k] at h2;cases h2
   |tup=>exact(n1 _ _ rfl rfl).elim
   |fl p2 q2=>exact(vV p2 p).elim
  |fl p q=>cases r2 with
   |oth k=>rw[jw k] at h2;cases h2
   |fl=>exact(n2 _ _ rfl rfl).elim
   |tup p2 q2=>exact(vV p p2).elim
 have tn:∀{n:Nat} {xs xs':List D} {x:D},(∀ys,x=.tup ys->False)->cZ n (.tup xs) x=cZ n (.tup xs') x:=λ{n xs xs' x} hx=>by
  cases n<;>cases x<;>first|rfl|exact(hx _ rfl).elim
 have ln:∀{n:Nat} {xs xs':List D} {x:D},(∀ys,x=.fl ys->False)->cZ n (.fl xs) x=cZ n (.fl xs') x:=λ{n xs xs' x} hx=>by
  cases n<;>cases x<;>first|rfl|exact(hx _ rfl).elim
 clear flat
 induction n with
 |zero=>
  intro d d' x u b b' r1 r2 h1 h2;cases r1 with
  |oth k=>rw[jw k] at h1;cases h1
  |non=>cases r2 with
   |oth k=>rw[jw k] at h2;cases h2
   |non=>rw[h1] at h2;exact cR h2
  |bl y=>cases r2 with
   |oth k=>rw[jw k] at h2;cases h2
   |bl=>rw[h1] at h2;exact cR h2
  |int y=>cases r2 with
   |oth k=>rw[jw k] at h2;cases h2
   |int=>rw[h1] at h2;exact cR h2
  |str y=>cases r2 with
   |oth k=>rw[jw k] at h2;cases h2
   |str=>rw[h1] at h2;exact cR h2
  |tup p q=>cases r2 with
   |oth k=>rw[jw k] at h2;cases h2
   |tup p2 q2=>
    cases x with
    |tup ys=>cases h1
    |_=>rw[tn (by intro ys z;cases z),h2] at h1;exact(cR h1).symm
   |fl p2 q2=>exact(vV p2 p).elim
  |fl p q=>cases r2 with
   |oth k=>rw[jw k] at h2;cases h2
   |fl p2 q2=>
    cases x with
    |fl ys=>cases h1
    |_=>rw[ln (by intro ys z;cases z),h2] at h1;exact(cR h1).symm
   |tup p2 q2=>exact(vV p p2).elim
 |succ n ih=>
  intro d d' x u b b' r1 r2 h1 h2;have rows:∀{xs xs' ys:List D} {is js:List Value} {b b':Bool},jM h xs is->jM h xs' js->is.toArray=js.toArray->dF (cZ n) xs ys=some b->dF (cZ n) xs' ys=some b'->b=b':=by
   intro xs xs' ys is js b b' q1 q2 e h1 h2;have e:is=js:=by simpa using e
   subst e;obtain⟨e1,a1,b1⟩:=Ji h1;obtain⟨e2,a2,b2⟩:=Ji h2;have hl:xs.length=xs'.length:=q1.len.trans q2.len.symm;rw[b1,b2,hl]
   congr 1
   rw[DQ,fj,fj];have key:∀j∈List.range (min xs'.length ys.length),e1 j=e2 j:=λj hj=>by
    have hj:=tR.mp hj;obtain⟨x1,Nf⟩ : ∃x,xs[j]?=some x:=⟨_,cX (by rw[hl];exact iY hj (Nat.min_le_left _ _))⟩;obtain⟨x2,Mx⟩ : ∃x,xs'[j]?=some x:=⟨_,cX (iY hj (Nat.min_le_left _ _))⟩;obtain⟨y,hy⟩ : ∃y,ys[j]?=some y:=⟨_,cX (iY hj (Nat.min_le_right _ _))⟩;obtain⟨v1,f1,p1⟩:=q1.get Nf;obtain⟨v2,f2,p2⟩:=q2.get Mx;rw[f1] at f2;cases f2;exact ih p1 p2 (a1 j x1 y Nf hy) (a2 j x2 y Mx hy)
   exact⟨λz j hj=>by rw[<-key j hj];exact z j hj,λz j hj=>by rw[key j hj];exact z j hj⟩
  cases r1 with
  |oth k=>rw[jw k] at h1;cases h1
  |non=>cases r2 with
   |oth k=>rw[jw k] at h2;cases h2
   |non=>rw[h1] at h2;exact cR h2
  |bl y=>cases r2 with
   |oth k=>rw[jw k] at h2;cases h2
   |bl=>rw[h1] at h2;exact cR h2
  |int y=>cases r2 with
   |oth k=>rw[jw k] at h2;cases h2
   |int=>rw[h1] at h2;exact cR h2
  |str y=>cases r2 with
   |oth k=>rw[jw k] at h2;cases h2
   |str=>rw[h1] at h2;exact cR h2
  |tup p q=>cases r2 with
   |oth k=>rw[jw k] at h2;cases h2
   |tup p2 q2=>
    cases x with
    |tup ys=>exact rows q q2 (Zg p p2) h1 h2
    |_=>rw[tn (by intro ys z;cases z),h2] at h1;exact(cR h1).symm
   |fl p2 q2=>exact(vV p2 p).elim
  |fl p q=>cases r2 with
   |oth k=>rw[jw k] at h2;cases h2
   |fl p2 q2=>
    cases x with
    |fl ys=>exact rows q q2 (Zh p p2) h1 h2
    |_=>rw[ln (by intro ys z;cases z),h2] at h1;exact(cR h1).symm
   |tup p2 q2=>exact(vV p p2).elim
theorem Zk:∀{xs:List D} {b:Bool},memD x xs=some b->∀d∈xs,∃k,cZ 50 d x=some k
 |[],_,_,d,hd=>by cases hd
 |y::xs,b,h,d,hd=>by
  unfold memD at h;cases e1:cZ 50 y x with
  |none=>simp only[e1] at h;cases h
  |some a=>
   cases e2:memD x xs with
   |none=>simp only[e1,e2] at h;cases h
   |some c=>
    rcases gQ.mp hd with rfl|hd
    ·exact⟨a,e1⟩
    ·exact Zk e2 d hd
theorem Ng:∀{xs:List D} {us:List Value} {b:Bool},memD x xs=some b->jM h xs us->∃e:Value->Bool,(∀u∈us,∃d,Is h d u/\cZ 50 d x=some (e u))/\us.any e=b:=by
 intro xs us b hm r;have ex:∀u∈us,∃d k,Is h d u/\cZ 50 d x=some k:=by
  intro u hu;obtain⟨i,hi,e⟩:=yJ hu;have hl:=r.len;obtain⟨d,hd⟩ : ∃d,xs[i]?=some d:=⟨_,cX (by lia)⟩;obtain⟨u',e1,q⟩:=r.get hd;rw[cX hi,e] at e1;cases e1;obtain⟨k,hk⟩:=Zk hm d (eZ hd);exact⟨d,k,q,hk⟩
 refine⟨λu=>by classical exact if z:∃k,∃d,Is h d u/\cZ 50 d x=some k then z.choose else false,λu hu=>?_,?_⟩
 ·obtain⟨d,k,q,hk⟩:=ex u hu;have z:∃k,∃d,Is h d u/\cZ 50 d x=some k:=⟨k,d,q,hk⟩;dsimp only;rw[dif_pos z];exact z.choose_spec
 ·clear ex;have key:∀(xs:List D) (us:List Value) (b:Bool),memD x xs=some b->jM h xs us->us.any (λu=>by classical exact if z:∃k,∃d,Is h d u/\cZ 50 d x=some k then z.choose else false)=b:=by
   intro xs
   induction xs with
   |nil=>intro us b hm r;cases r;cases hm;rfl
   |cons d ds ih=>
    intro us b hm r;cases r with
    |@cons _ u _ us a r=>
     unfold memD at hm;cases e1:cZ 50 d x with
     |none=>simp only[e1] at hm;cases hm
     |some k=>
      cases e2:memD x ds with
      |none=>simp only[e1,e2] at hm;cases hm
      |some c=>
       simp only[e1,e2] at hm;cases hm;rw[List.any_cons];have z:∃k,∃d,Is h d u/\cZ 50 d x=some k:=⟨k,d,a,e1⟩;have hk:z.choose=k:=by
        obtain⟨d',q,G7⟩:=z.choose_spec;exact zjz 50 q a G7 e1
       rw[dif_pos z,hk,ih us c e2 r]
  exact key xs us b hm r
noncomputable def xP(K:W.Frag)(cA:Cl)(f:Bool->Bool):R2:=λx y H Q=>∃U d1 d2 xs b,Rv K cA U H d1 x/\Rv K cA U H d2 y/\lC d2=some xs/\memD d1 xs=some b/\Q (.bl (f b)) H
theorem zmk(hu:X.A.units+60<cLine):fH X (compareOp .In) (xP X.K cA id):=by
 intro ao s Z H x y v u Q I rx ry ⟨U,d1,d2,xs,b,r1,r2,hq,hm,q⟩;have dY:X.A.in1.units+50<cLine:=by show X.A.units+1+50<cLine;lia
 have i1:=zE I r1 rx;cases zE I r2 ry with
 |tup p r=>
  cases hq;obtain⟨e,he,hb⟩:=Ng hm r;refine SeqAt.in_tupleAt e p (λw hw=>?_) ⟨.bl b,H,I,by rw[<-hb];simp[L2.RelV],q⟩;obtain⟨d,q1,q2⟩:=he w (by simpa using hw);exact Cu 50 dY q1 i1 q2
 |fl p r=>
  cases hq;obtain⟨e,he,hb⟩:=Ng hm r;refine SeqAt.in_listAt e p (λw hw=>?_) ⟨.bl b,H,I,by rw[<-hb];simp[L2.RelV],q⟩;obtain⟨d,q1,q2⟩:=he w (by simpa using hw);exact Cu 50 dY q1 i1 q2
 |oth k=>cases d2<;>cases hq<;>cases k
 |_=>cases hq
theorem zj9(hu:X.A.units+60<cLine):fH X (compareOp .NotIn) (xP X.K cA not):=by
 intro ao s Z H x y v u Q I rx ry ⟨U,d1,d2,xs,b,r1,r2,hq,hm,q⟩;have dY:X.A.in1.units+50<cLine:=by show X.A.units+1+50<cLine;lia
 have i1:=zE I r1 rx;cases zE I r2 ry with
 |tup p r=>
  cases hq;obtain⟨e,he,hb⟩:=Ng hm r;refine SeqAt.notIn_tupleAt e p (λw hw=>?_) ⟨.bl (!b),H,I,by rw[<-hb];simp[L2.RelV],q⟩;obtain⟨d,q1,q2⟩:=he w (by simpa using hw);exact Cu 50 dY q1 i1 q2
 |fl p r=>
  cases hq;obtain⟨e,he,hb⟩:=Ng hm r;refine SeqAt.notIn_listAt e p (λw hw=>?_) ⟨.bl (!b),H,I,by rw[<-hb];simp[L2.RelV],q⟩;obtain⟨d,q1,q2⟩:=he w (by simpa using hw);exact Cu 50 dY q1 i1 q2
 |oth k=>cases d2<;>cases hq<;>cases k
 |_=>cases hq
end
end Mi
namespace HT
open PySem PyProof.Rows
section
variable {prog:Program}{w:World}{A:Around}{E:Value->Shared->Prop}{s:Shared}
theorem uK{t b:Addr}{vs ws:List Value}{Q:Value->Shared->Prop}(ht:IsTup s.heap t vs.toArray)(hb:IsTup s.heap b ws.toArray)(hv:vs=[])
  (h1:Q (.ref b) s):wpAny (model prog w) A (binaryOp .Add (.ref t) (.ref b)) Q E s:=by
 obtain⟨⟨cls,dd,data,sl⟩,ho,hc,n,hd⟩:=id ht;obtain⟨⟨cls2,dd2,data2,sl2⟩,pQ,qI,n2,hd2⟩:=id hb;simp only at hc hd qI hd2;subst hc hd qI hd2;exact concat_meets ⟨_,ho,rfl⟩ ⟨_,pQ,rfl⟩ noFill_tuple_add seq_tuple_add PN PJ (Pz _ _)
   (tuple_addW0 t b vs.toArray ws.toArray n n2 dd dd2 sl sl2 (by simp[hv])) ⟨ho,pQ,h1⟩
theorem gP{t sl:Addr}{items:Array Value}{vl vu:Value}{lo hi:Option Int}{Q:Value->Shared->Prop}(ht:IsTup s.heap t items)(hs:s.heap.IsSliceOf sl vl vu .none)(pl:IsPart vl lo)(pu:IsPart vu hi)
  (hw:b_ items.size 0 lo=0/\b_ items.size items.size hi=items.size) (h:Q (.ref t) s):wpAny (model prog w) A (getItem (.ref t) (.ref sl)) Q E s:=by
 obtain⟨os,rM,Bt,vQ⟩:=id hs;have HW:s.TypeIs (.ref sl) "slice":=⟨os,rM,Bt⟩;unfold getItem
 try with_reducible refine qz ?_
 first|refine aB (aM ?_)|skip
 refine aB (wpAny_sequenceKey ht.typeIs (by decide) ?_);refine aB (yF (name:=Str.ofString "__getitem__") ht.typeIs wA
  (wF wA ht.typeIs entry_tuple_getitem ?_ (args_tuple_getitem _ _)))
 show wpAny _ _ (Builtin.Tuple.tupleItemsOf (.ref t) >>= _) _ _ s;refine aB (tupleItemsOf_ ht ?_);refine aB (GD HW ?_);rw[if_pos (by decide)];refine aB (Yw hs pl pu ?_);have Tc:(((b_ items.size 0 lo:Nat):Int)==0&&(1:Int)==1&&(b_ items.size items.size hi-b_ items.size 0 lo)==items.size)=true:=by
  rw[hw.1,hw.2];simp
 show wpAny _ _ (if (((b_ items.size 0 lo:Nat):Int)==0&&(1:Int)==1&&(b_ items.size items.size hi-b_ items.size 0 lo)==items.size)=true then _ else _) _ _ s;rw[if_pos Tc];refine aB ?_;unfold Builtin.Tuple.tupleIsExact;refine aB (GD ht.typeIs ?_);refine aM ?_;rw[if_pos (by decide)];refine aB (Aw ?_);exact aM ⟨_,rfl,aM h⟩
theorem zcz{i:Int}{t:Tok}{Q:Option Int->Shared->Prop}(h:Q (some i) s):wpAny (model prog w) A (Builtin.Slice.slicePartIndex (.int i t)) Q E s:=Rj (.int i t) h
theorem zbD{sl:Addr}{t:Tok}{n:Nat}{Q:Int×Int×Nat->Shared->Prop}(hs:s.heap.IsSliceOf sl .none .none (.int (-1) t))
  (h:Q ((n:Int)-1,-1,n) s):wpAny (model prog w) A (Builtin.Slice.sliceApplied (.ref sl) (pure (n:Int))) Q E s:=by
 obtain⟨os,rM,Bt,vQ⟩:=id hs;unfold Builtin.Slice.sliceApplied Builtin.Slice.sliceFields;refine aB (aB (kW rM vQ (x:=.none) rfl (aB (kW rM vQ (x:=.none) rfl (aB (kW rM vQ (x:=.int (-1) t) rfl (aM ?_)))))));refine aB (zcz ?_);show wpAny _ _ (if ((-1:Int)==0)=true then _ else _) _ _ s;rw[if_neg (by decide)];refine aB (slicePart_none (aB (slicePart_none (aB (aM ?_)))));show wpAny _ _ (pure ((n:Int)-1,(-1:Int),Builtin.Slice.slicePlaces ((n:Int)-1) (-1) (-1))) _ _ s;have e:Builtin.Slice.slicePlaces ((n:Int)-1) (-1) (-1)=n:=by
  unfold Builtin.Slice.slicePlaces;rw[if_neg (by decide)];by_cases hn:n=0
  ·subst hn;rfl
  ·rw[if_pos (by lia)];have:(-(-1:Int))=1:=rfl;rw[this,Int.ediv_one]
   lia
 rw[e];exact aM h
theorem zic(xs:Array Value):((List.range xs.size).filterMap λ(m:Nat)=>xs[(((xs.size:Int)-1)+(m:Int) * -1).toNat]?).toArray=xs.toList.reverse.toArray:=by
 have e:∀n,n<=xs.size->(List.range n).filterMap (λ(m:Nat)=>xs[(((xs.size:Int)-1)+(m:Int) * -1).toNat]?)=(xs.toList.reverse).take n:=by
  intro n
  induction n with
  |zero=>intro _;simp
  |succ n ih=>
   intro hn;have cV:n<xs.toList.reverse.length:=by simp;lia
   rw[List.range_succ,Dm,ih (by lia),Px cV]
   congr 1
   have:(((xs.size:Int)-1)+(n:Int) * -1).toNat=xs.size-1-n:=by lia
   simp only[wC,List.filterMap_nil,this];rw[Array.getElem?_eq_getElem (by lia)];simp[List.getElem_reverse]
 rw[e xs.size (bU _),List.take_of_length_le (by simp)]
theorem iM(ht:IsTup s.heap t items)(hs:s.heap.IsSliceOf sl .none .none (.int (-1) tk))
  (h:Q (.ref s.heap.objs.size) {s with heap:=s.heap.push {cls:=.type "tuple",data:=.seq items.toList.reverse.toArray}})
  (hsz:items.size<=sizeLine):wpAny (model prog w) A (getItem (.ref t) (.ref sl)) Q E s:=by
 have iJ:sizeOk (.seq items.toList.reverse.toArray):=by
  show items.toList.reverse.toArray.size<=sizeLine;simpa using hsz
 obtain⟨os,rM,Bt,vQ⟩:=id hs;have HW:s.TypeIs (.ref sl) "slice":=⟨os,rM,Bt⟩;unfold getItem
 try with_reducible refine qz ?_
 first|refine aB (aM ?_)|skip
 refine aB (wpAny_sequenceKey ht.typeIs (by decide) ?_);refine aB (yF (name:=Str.ofString "__getitem__") ht.typeIs wA
  (wF wA ht.typeIs entry_tuple_getitem ?_ (args_tuple_getitem _ _)))
 show wpAny _ _ (Builtin.Tuple.tupleItemsOf (.ref t) >>= _) _ _ s;refine aB (tupleItemsOf_ ht ?_);refine aB (GD HW ?_);rw[if_pos (by decide)];refine aB (zbD hs ?_);show wpAny _ _ (if (((items.size:Int)-1)==0&&(-1:Int)==1&&items.size==items.size)=true then _ else _) _ _ s;rw[if_neg (by simp),zic]
 first
  |exact aB (m:=Builtin.Tuple.tupleExact _) (pB (aM ⟨_,rfl,aM h⟩) iJ)
  |exact aB (m:=Builtin.Tuple.tupleExact _) (pB (aB (aM (aM ⟨_,rfl,aM h⟩))) iJ)
  |exact aB (aB (m:=Builtin.Tuple.tupleExact _) (pB (aM (aM ⟨_,rfl,aM h⟩)) iJ))
  |exact aB (aB (m:=Builtin.Tuple.tupleExact _) (pB (aM ⟨_,rfl,aM h⟩) iJ))
end
end HT
namespace L2
open PySem PySem.Spec PyProof.Rows
section
variable {X:Cx}{e:Expr}{te:TE}{pos p2:Pos}
noncomputable def uL(K:W.Frag):R2:=λx y H Q=>∃a b xs ys,x=.ref a/\y=.ref b/\fZ K H a xs/\fZ K H b ys/\xs.length+ys.length<=sizeLine /\
 (xs=[]->Q (.ref b) H)/\(ys=[]->Q (.ref a) H)/\∀p,H p=none->Q (.ref p) (upd H p (.tup (xs++ys)))
theorem uM:fH X (binaryOp .Add) (uL X.K):=by
 intro ao s Z H x y v u Q I rx ry h;obtain⟨a,b,xs,ys,rfl,rfl,ha,hb,hz,q0,q1,q2⟩:=h;cases rx;cases ry;obtain⟨its,r1,p1,_⟩:=I.tuple ha;obtain⟨its2,r2,p2,_⟩:=I.tuple hb;by_cases hx:xs=[]
 ·exact HT.uK p1 p2 (r1.mY.mpr hx) ⟨.ref b,H,I,rfl,q0 hx⟩
 ·refine HT.wR p1 p2 (λz=>hx (r1.mY.mp z)) (λz=>⟨.ref a,H,I,rfl,q1 (r2.mY.mp z)⟩) (λz=>?_) (by rw[<-r1.length,<-r2.length];exact hz);refine⟨.ref s.heap.objs.size,_,I.laid (t':=s.toks) (o:=.tup (xs++ys)) (λb ob q=>cU _ q) (bU _) ?_,rfl,q2 _ (I.hok.fresh (bU _))⟩;exact⟨by rw[iZ];exact hz,_,r1.append r2,IsTup.new _ _⟩
noncomputable def zF(K:W.Frag):V->Option Int->Option Int->Hp->VK->Prop:=λx lo hi H Q=>∃a xs,x=.ref a/\fZ K H a xs /\
 ((HT.b_ xs.length 0 lo=0/\HT.b_ xs.length xs.length hi=xs.length)->Q (.ref a) H)/\∀p,H p=none->Q (.ref p) (upd H p (.tup (mX xs lo hi)))
theorem zjB:wV X (zF X.K):=by
 intro ao s Z H x v vl vu lo hi sl Q I rx hs pl pu h;obtain⟨a,xs,rfl,hx,hw,q⟩:=h;by_cases hz:HT.b_ xs.length 0 lo=0/\HT.b_ xs.length xs.length hi=xs.length
 ·cases rx;obtain⟨its,r,ht,_⟩:=I.tuple hx;have hlen:its.toArray.size=xs.length:=by rw[fP];exact r.length.symm
  refine⟨"tuple",_,wA.lookup,ht.typeIs,?_⟩;exact HT.gP ht hs pl pu (by rw[hlen];exact hz) ⟨.ref a,H,I,rfl,hw hz⟩
 ·exact zlN ao s Z H (.ref a) v vl vu lo hi sl Q I rx hs pl pu ⟨a,xs,rfl,hx,hz,q⟩
theorem zlP(he:PE X e te):PE X (.Subscript e (.Slice none none (some (.UnaryOp .USub (.Constant (.int 1) j p3) p4)) p2) pos) (λZ H Q=>te Z H λx H1=>∃a xs,x=.ref a/\fZ X.K H1 a xs/\∀p,H1 p=none->Q (.ref p) (upd H1 p (.tup xs.reverse))):=by
 intro ao s Z H Q I h;refine Subscript_ (aW (he ao s Z H _ I h) λv s1 ⟨x,H1,I1,r1,a,xs,ex,hx,q⟩=>?_);subst ex;cases r1;refine wpAny_Slice ?_;rw[evalPart_none];refine aM (aM ?_);rw[evalPart_some];refine aW (Yg (r:=rU λi=>.int (-i)) Yh X4 ao s1 Z H1 (λv H'=>v=.int (-1)/\H'=H1) I1 ⟨1,rfl,rfl,rfl⟩) λu s2 ⟨z,H2,I2,r2,ez,eH⟩=>?_;subst ez eH;obtain⟨t,rfl⟩:=r2;obtain⟨its,r,ht,hz⟩:=I2.tuple hx;have I4:Inv X ao Z H2 {s2 with heap:=s2.heap.push {cls:=.type "slice",data:=.fields #[.none,.none,.int (-1) t]}}:=I2.kept (t':=s2.toks) λb ob q=>cU _ q;obtain⟨its,r,ht,hz⟩:=I4.tuple hx;have hlen:its.toArray.size=xs.length:=by rw[fP];exact r.length.symm
 show wpAny (model X.prog X.w) X.A (subscriptTail e (.Slice none none (some (.UnaryOp .USub (.Constant (.int 1) j p3) p4)) p2) (.ref a) (.ref s2.heap.objs.size)) (EP X ao Z Q) X.xe {s2 with heap:=s2.heap.push {cls:=.type "slice",data:=.fields #[.none,.none,.int (-1) t]}};refine tail_any (ops:=[.ref a,.ref s2.heap.objs.size]) ht.typeIs wA.lookup (HT.iM ht (Heap.IsSliceOf.new ..) ?_ (by rw[hlen];exact hz)) (by with_unfolding_all rfl);refine⟨.ref _,_,I4.laid (t':=s2.toks) (o:=.tup xs.reverse) (λb ob q=>cU _ q) (bU _) ?_,rfl,q _ (I4.hok.fresh (bU _))⟩;refine⟨by rw[List.length_reverse];exact hz,_,?_,IsTup.new _ _⟩;have rv:∀{xs:List V} {us:List Value},Vals xs us->Vals xs.reverse us.reverse:=λ{xs us} r=>by
  induction r with
  |nil=>exact .nil
  |cons a b ih=>rw[Li,Li];exact ih.append (.cons a .nil)
 simpa using rv r
end
section
variable {X:Cx}
noncomputable def zG(K:W.Frag):R2:=λx y H Q=>∃l b xs zs,x=.ref l/\y=.ref b/\cY K H l xs/\cY K H b zs/\xs.length+zs.length<=sizeLine/\∀p,H p=none->Q (.ref p) (upd H p (.lst (xs++zs)))
theorem xQ:fH X (binaryOp .Add) (zG X.K):=by
 intro ao s Z H x y v u Q I rx ry h;obtain⟨l,b,xs,zs,rfl,rfl,hH,hB,hz,q⟩:=h;cases rx;cases ry;obtain⟨its,r,pl,_⟩:=I.list hH;obtain⟨its2,r2,pl2,_⟩:=I.list hB;obtain⟨⟨cls,dd,data,sl⟩,ho,hc,n,hd⟩:=pl.isList;obtain⟨⟨cls2,dd2,data2,sl2⟩,pQ,qI,n2,hd2⟩:=pl2.isList;simp only at hc hd qI hd2;subst hc hd qI hd2;refine concat_meets ⟨_,ho,rfl⟩ ⟨_,pQ,rfl⟩ noFill_list_add seq_list_add PySem.F.slot_list_add PySem.F.entry_list_add (PySem.F.args_list_add_2 _ _) (list_addW l b its.toArray its2.toArray n n2 dd dd2 sl sl2 (by rw[fP,fP,<-r.length,<-r2.length];exact hz)) ⟨ho,pQ,?_⟩;have ea:its.toArray++its2.toArray=(its++its2).toArray:=by simp
 rw[ea];exact⟨.ref _,_,I.Rq (t':=s.toks) (r.append r2) (by rw[iZ];omega),rfl,q _ I.fresh⟩
noncomputable def qY(K:W.Frag):R2:=λx y H Q=>pN (λi j=>.int (i+j)) x y H Q\/zG K x y H Q\/uL K x y H Q\/∃i j,x=.str i/\y=.str j/\i.length+j.length<=sizeLine/\Q (.str (i++j)) H
theorem zgr:fH X (binaryOp .Add) (qY X.K):=Bp.or (xQ.or (uM.or zfM))
end
end L2
namespace Mi
open PySem PySem.Spec PyProof.Rows L2
section
variable {K:W.Frag}{cA:Cl}{U:Ph}{H:Hp}{Q:VK}{p:Pr}
theorem bH.some'{o:Option Rz}(h:bH K cA U H o Q):∃z,o=some z:=by
 cases o with
 |none=>exact h.elim
 |some z=>exact⟨z,rfl⟩
theorem bH.of{o:Option Rz}{z:Rz}(h:bH K cA U H o Q)(e:o=some z):bH K cA U H (some z) Q:=e▸h
theorem bH.here{d:D}{v:V}(h:bH K cA U H (some (.dat d)) Q)(r:Rep K cA U H d v):Q v H:=h H v bD.refl r
theorem bH.tup{xs:List D}{vs:List V}{a:Addr}(h:bH K cA U H (some (.dat (.tup xs))) Q)(z:Zt U H)(r:aC K cA U H xs vs)(hp:H a=none):Q (.ref a) (upd H a (.tup vs)):=
 h _ _ (bD.new hp) (.tup (TupAt.new (z.nz hp)) (r.mono (bD.new hp).ext z.lz))
theorem xJ.two{ds:List D}{vs:List V}{d d':D}(h:xJ K cA U H [d,d'] vs):∃v v',vs=[v,v']/\Rv K cA U H d v/\Rv K cA U H d' v':=by
 cases h with
 |cons a r=>cases r with
  |cons b r=>cases r;exact⟨_,_,rfl,a,b⟩
theorem xJ.one(h:xJ K cA U H [d] vs):∃v,vs=[v]/\Rv K cA U H d v:=by
 cases h with
 |cons a r=>cases r;exact⟨_,rfl,a⟩
theorem Rv.int{i:Int}{v:V}(h:Rv K cA U H (.int i) v):v=.int i:=by cases (show Rep K cA U H (.int i) v from h);rfl
theorem Rv.bl{i:Bool}{v:V}(h:Rv K cA U H (.bl i) v):v=.bl i:=by cases (show Rep K cA U H (.bl i) v from h);rfl
theorem Rv.str{i:Str}{v:V}(h:Rv K cA U H (.str i) v):v=.str i:=by cases (show Rep K cA U H (.str i) v from h);rfl
theorem Rv.tup{xs:List D}{v:V}(h:Rv K cA U H (.tup xs) v):∃a vs,v=.ref a/\TupAt K U H a vs/\aC K cA U H xs vs:=by
 cases (show Rep K cA U H (.tup xs) v from h) with
 |tup a r=>exact⟨_,_,rfl,a,r⟩
theorem Rv.sq{d:D}{xs:List D}{v:V}(h:Rv K cA U H d v)(e:lC d=some xs):∃a vs,v=.ref a/\(cY K H a vs\/fZ K H a vs)/\aC K cA U H xs vs:=by
 cases d with
 |tup ys=>
  cases e;obtain⟨a,vs,e,t,r⟩:=Rv.tup h;exact⟨a,vs,e,.inr t.ju,r⟩
 |fl ys=>
  cases e;obtain⟨a,vs,e,l,r⟩:=h;exact⟨a,vs,e,.inl l,r⟩
 |_=>cases e
theorem Zm{f:Int->Int->Option D}{ds:List D}{z:Rz}(h:dG f ds=some z):∃i j d,ds=[.int i,.int j]/\f i j=some d/\z=.dat d:=by
 cases ds with
 |nil=>cases h
 |cons a t=>
 cases a with
 |int i=>
  cases t with
  |nil=>cases h
  |cons b t=>
  cases b with
  |int j=>
   cases t with
   |cons _ _=>cases h
   |nil=>
    obtain⟨d,e1,e2⟩:=lH.mp h;exact⟨_,_,d,rfl,e1,e2.symm⟩
  |_=>cases h
 |_=>cases h
theorem Jk{f:Int->Int->Option D}(hp:prim p=dG f){C:Int->Int->Prop}{g:Int->Int->V}(hf:∀i j d,f i j=some d->C i j/\∀U H,Rep K cA U H d (g i j)):bF K cA p (r2 (rI C g)):=by
 intro U H ds vs Q zt rs o;rw[hp] at o;obtain⟨z,e⟩:=o.some';obtain⟨i,j,d,rfl,e1,rfl⟩:=Zm e;obtain⟨c,r⟩:=hf i j d e1;obtain⟨v,v',rfl,r1,r2⟩:=rs.two (ds:=[]);rw[r1.int,r2.int];exact⟨_,_,rfl,i,j,rfl,rfl,c,(o.of e).here (r U H)⟩
theorem EY{f:Int->Int->D}(hp:prim p=dG λi j=>some (f i j)){g:Int->Int->V}(hf:∀i j U H,Rep K cA U H (f i j) (g i j)):bF K cA p (r2 (pN g)):=by
 intro U H ds vs Q zt rs o;obtain⟨x,y,e,i,j,a,b,_,q⟩:=Jk (K:=K) (cA:=cA) (C:=λ_ _=>True) hp (λi j d e=>⟨trivial,λU H=>by cases e;exact hf i j U H⟩) U H ds vs Q zt rs o;exact⟨x,y,e,i,j,a,b,q⟩
theorem Jl{α:Type}{c:Prop}[Decidable c]{x y:α}(h:(if c then some x else none)=some y):c/\y=x:=by
 split at h
 ·rename_i z;cases h;exact⟨z,rfl⟩
 ·cases h
theorem zlt:bF K cA .aq (r2 (pN λi j=>.int (i-j))):=EY (f:=λi j=>.int (i-j)) rfl λi j _ _=>.int _
theorem znx:bF K cA .mul (r2 (rI wQ λi j=>.int (i*j))):=Jk rfl λi j d e=>by obtain⟨c,rfl⟩:=Jl e;exact⟨c,λ_ _=>.int _⟩
theorem zjE:bF K cA .fdiv (r2 (rI wO λi j=>.int (i/j))):=Jk rfl λi j d e=>by obtain⟨c,rfl⟩:=Jl e;exact⟨c,λ_ _=>.int _⟩
theorem zmM:bF K cA .mod (r2 (rI (λ_ j=>0<j) λi j=>.int (i%j))):=Jk rfl λi j d e=>by obtain⟨c,rfl⟩:=Jl e;exact⟨c,λ_ _=>.int _⟩
theorem zmb:bF K cA .pow (r2 (rI Hu λi j=>.int (i^j.toNat))):=Jk rfl λi j d e=>by obtain⟨c,rfl⟩:=Jl e;exact⟨c,λ_ _=>.int _⟩
theorem zoq:bF K cA .le (r2 (pN λi j=>.bl (decide (i<=j)))):=EY (f:=λi j=>.bl (decide (i<=j))) rfl λi j _ _=>.bl _
theorem zoJ:bF K cA .gt (r2 (pN λi j=>.bl (decide (j<i)))):=EY (f:=λi j=>.bl (decide (j<i))) rfl λi j _ _=>.bl _
theorem zou:bF K cA .ge (r2 (pN λi j=>.bl (decide (j<=i)))):=EY (f:=λi j=>.bl (decide (j<=i))) rfl λi j _ _=>.bl _
theorem zmw:bF K cA .neg (λvs H Q=>∃x,vs=[x]/\rU (λi=>.int (-i)) x H Q):=by
 intro U H ds vs Q zt rs o;obtain⟨z,e⟩:=o.some';have e:qR (λi=>.int (-i)) ds=some z:=e;cases ds with
 |nil=>cases e
 |cons a t=>
 cases a with
 |int i=>
  cases t with
  |cons _ _=>cases e
  |nil=>
   cases e;obtain⟨v,rfl,r1⟩:=rs.one;exact⟨_,rfl,_,r1.int,bH.here (o.of rfl) (.int _)⟩
 |_=>cases e
theorem znX:bF K cA .eq (r2 (xO K cA id)):=by
 intro U H ds vs Q zt rs o;obtain⟨z,e⟩:=o.some';have e:zu id ds=some z:=e;unfold zu at e;split at e
 ·obtain⟨b,e1,e2⟩:=lH.mp e;obtain⟨v,v',rfl,r1,r2⟩:=rs.two (ds:=[]);subst e2;exact⟨_,_,rfl,U,_,_,b,r1,r2,e1,(o.of e).here (.bl _)⟩
 ·cases e
theorem zom:bF K cA .ne (r2 (xO K cA not)):=by
 intro U H ds vs Q zt rs o;obtain⟨z,e⟩:=o.some';have e:zu not ds=some z:=e;unfold zu at e;split at e
 ·obtain⟨b,e1,e2⟩:=lH.mp e;obtain⟨v,v',rfl,r1,r2⟩:=rs.two (ds:=[]);subst e2;exact⟨_,_,rfl,U,_,_,b,r1,r2,e1,(o.of e).here (.bl _)⟩
 ·cases e
theorem Zn{f:Bool->Bool}{ds:List D}{z:Rz}(h:zx f ds=some z):∃a b xs k,ds=[a,b]/\lC b=some xs/\memD a xs=some k/\z=.dat (.bl (f k)):=by
 unfold zx at h;split at h
 ·obtain⟨k,e1,e2⟩:=lH.mp h;obtain⟨xs,e3,e4⟩:=Ae.mp e1;exact⟨_,_,xs,k,rfl,e3,e4,e2.symm⟩
 ·cases h
theorem zoU:bF K cA .inn (r2 (xP K cA id)):=by
 intro U H ds vs Q zt rs o;obtain⟨z,e⟩:=o.some';obtain⟨a,b,xs,k,rfl,e1,e2,rfl⟩:=Zn (show zx id ds=some z from e);obtain⟨v,v',rfl,r1,r2⟩:=rs.two (ds:=[]);exact⟨_,_,rfl,U,_,_,xs,k,r1,r2,e1,e2,(o.of e).here (.bl _)⟩
theorem znQ:bF K cA .nin (r2 (xP K cA not)):=by
 intro U H ds vs Q zt rs o;obtain⟨z,e⟩:=o.some';obtain⟨a,b,xs,k,rfl,e1,e2,rfl⟩:=Zn (show zx not ds=some z from e);obtain⟨v,v',rfl,r1,r2⟩:=rs.two (ds:=[]);exact⟨_,_,rfl,U,_,_,xs,k,r1,r2,e1,e2,(o.of e).here (.bl _)⟩
theorem Nh:∀{xs:List D} {ns:List Int} {vs:List V},cI xs=some ns->aC K cA U H xs vs->vs=ns.map V.int
 |[],ns,vs,h,r=>by cases h;cases r;rfl
 |d::xs,ns,vs,h,r=>by
  cases d with
  |int i=>
   simp only[cI,lH] at h;obtain⟨ns',h1,rfl⟩:=h;cases r with
   |cons a r=>cases a;rw[Nh h1 r];rfl
  |_=>simp[cI] at h
theorem Td:∀(a b:List Int),ltI a b=HT.lexLt a b
 |_,[]=>by cases ‹List Int›<;>rfl
 |[],_::_=>rfl
 |x::xs,y::ys=>by
  unfold ltI;rw[Td xs ys,HT.jY]
theorem zoA:bF K cA .lt (r2 λx y H Q=>pN (λi j=>.bl (decide (i<j))) x y H Q\/HY K x y H Q):=by
 intro U H ds vs Q zt rs o;obtain⟨z,e⟩:=o.some';have e:IK ds=some z:=e;unfold IK at e;split at e
 ·cases e;obtain⟨v,v',rfl,r1,r2⟩:=rs.two (ds:=[]);exact⟨_,_,rfl,.inl ⟨_,_,r1.int,r2.int,bH.here (o.of rfl) (.bl _)⟩⟩
 ·split at e
  ·rename_i a b h1 h2;cases e;obtain⟨v,v',rfl,r1,r2⟩:=rs.two (ds:=[]);obtain⟨p,us,rfl,t1,q1⟩:=r1.tup;obtain⟨p',us',rfl,t2,q2⟩:=r2.tup;have o2:bH K cA U H (some (.dat (.bl (ltI a b)))) Q:=by
    have o3:bH K cA U H (IK [.tup _,.tup _]) Q:=o;unfold IK at o3;simp only[h1,h2] at o3;exact o3
   refine⟨_,_,rfl,.inr ⟨p,p',a,b,rfl,rfl,by rw[<-Nh h1 q1];exact t1.ju,by rw[<-Nh h2 q2];exact t2.ju,?_⟩⟩;rw[<-Td];exact o2.here (.bl _)
  ·cases e
 ·cases e
theorem zmZ:bF K cA .add (r2 (qY K)):=by
 intro U H ds vs Q zt rs o;have o:bH K cA U H (Ca ds) Q:=o;cases ds with
 |nil=>exact False.elim o
 |cons a t=>
 cases a with
 |int i=>
  cases t with
  |nil=>exact False.elim o
  |cons b t=>
  cases b with
  |int j=>
   cases t with
   |cons _ _=>exact False.elim o
   |nil=>
    obtain⟨v,v',rfl,r1,r2⟩:=rs.two (ds:=[]);exact⟨_,_,rfl,.inl ⟨_,_,r1.int,r2.int,bH.here o (.int _)⟩⟩
  |_=>exact False.elim o
 |tup xs=>
  cases t with
  |nil=>exact False.elim o
  |cons b t=>
  cases b with
  |tup ys=>
   cases t with
   |cons _ _=>exact False.elim o
   |nil=>
    obtain⟨v,v',rfl,r1,r2⟩:=rs.two (ds:=[]);obtain⟨p,us,rfl,t1,q1⟩:=r1.tup;obtain⟨p',us',rfl,t2,q2⟩:=r2.tup;have o:bH K cA U H (if xs.length+ys.length<=sizeLine then some (.dat (.tup (xs++ys))) else none) Q:=o;by_cases hz:xs.length+ys.length<=sizeLine
    ·rw[if_pos hz] at o;refine⟨_,_,rfl,.inr (.inr (.inl ⟨p,p',us,us',rfl,rfl,t1.ju,t2.ju,by rw[<-q1.len,<-q2.len];exact hz,λe=>?_,λe=>?_,λa ha=>o.tup zt (q1.app q2) ha⟩))⟩
     ·subst e;cases q1;exact o.here (.tup t2 q2)
     ·subst e;cases q2;rw[vG] at o;exact o.here (.tup t1 q1)
    ·rw[if_neg hz] at o;exact o.elim
  |_=>exact False.elim o
 |fl xs=>
  cases t with
  |nil=>exact False.elim o
  |cons b t=>
  cases b with
  |fl ys=>
   cases t with
   |cons _ _=>exact False.elim o
   |nil=>
    obtain⟨v,v',rfl,⟨p,us,rfl,t1,q1⟩,⟨p',us',rfl,t2,q2⟩⟩:=rs.two (ds:=[]);have o:bH K cA U H (if xs.length+ys.length<=sizeLine then some (.nw (xs++ys)) else none) Q:=o;by_cases hz:xs.length+ys.length<=sizeLine
    ·rw[if_pos hz] at o;exact⟨_,_,rfl,.inr (.inl ⟨p,p',us,us',rfl,rfl,t1,t2,by rw[<-q1.len,<-q2.len];exact hz,λa ha=>o a _ ha (q1.app q2)⟩)⟩
    ·rw[if_neg hz] at o;exact o.elim
  |_=>exact False.elim o
 |str x=>
  cases t with
  |nil=>exact False.elim o
  |cons b t=>
  cases b with
  |str y=>
   cases t with
   |cons _ _=>exact False.elim o
   |nil=>
    obtain⟨v,v',rfl,r1,r2⟩:=rs.two (ds:=[]);have o:bH K cA U H (if x.length+y.length<=sizeLine then some (.dat (.str (x++y))) else none) Q:=o;by_cases hz:x.length+y.length<=sizeLine
    ·rw[if_pos hz] at o;exact⟨_,_,rfl,.inr (.inr (.inr ⟨_,_,r1.str,r2.str,hz,o.here (.str _)⟩))⟩
    ·rw[if_neg hz] at o;exact o.elim
  |_=>exact False.elim o
 |_=>exact False.elim o
theorem zls:bF K cA .len (λxs H Q=>∃p ys,xs=[.ref p]/\(cY K H p ys\/fZ K H p ys)/\Q (.int ys.length) H):=by
 intro U H ds vs Q zt rs o;have o:bH K cA U H (rW (λxs=>some (.dat (.int xs.length))) ds) Q:=o;unfold rW at o;split at o
 ·obtain⟨v,rfl,r1⟩:=rs.one;obtain⟨z,e⟩:=o.some';obtain⟨xs,e1,e2⟩:=Ae.mp e;obtain⟨a,us,rfl,sq,q⟩:=r1.sq e1;cases e2;refine⟨a,us,rfl,sq,?_⟩;rw[<-q.len];exact(o.of e).here (.int _)
 ·exact o.elim
theorem zk9:bF K cA .list (λxs H Q=>∃p ys,xs=[.ref p]/\(cY K H p ys\/fZ K H p ys)/\∀l,H l=none->Q (.ref l) (upd H l (.lst ys))):=by
 intro U H ds vs Q zt rs o;have o:bH K cA U H (rW (λxs=>some (.nw xs)) ds) Q:=o;unfold rW at o;split at o
 ·obtain⟨v,rfl,r1⟩:=rs.one;obtain⟨z,e⟩:=o.some';obtain⟨xs,e1,e2⟩:=Ae.mp e;obtain⟨a,us,rfl,sq,q⟩:=r1.sq e1;cases e2;exact⟨a,us,rfl,sq,λl hl=>(o.of e) l us hl q⟩
 ·exact o.elim
theorem ziq:bF K cA .tuple (λxs H Q=>∃p ys,xs=[.ref p]/\((cY K H p ys/\∀l,H l=none->Q (.ref l) (upd H l (.tup ys)))\/(fZ K H p ys/\Q (.ref p) H))):=by
 intro U H ds vs Q zt rs o;have o:bH K cA U H (pZ ds) Q:=o;unfold pZ at o;split at o
 ·rename_i d _;obtain⟨v,rfl,r1⟩:=rs.one;cases d with
  |tup xs=>
   obtain⟨a,us,rfl,t,q⟩:=r1.tup;exact⟨a,us,rfl,.inr ⟨t.ju,bH.here o (.tup t q)⟩⟩
  |fl xs=>
   obtain⟨a,us,rfl,t,q⟩:=r1;exact⟨a,us,rfl,.inl ⟨t,λl hl=>bH.tup o zt q hl⟩⟩
  |_=>exact o.elim
 ·exact o.elim
theorem zmv:bF K cA .abs (λxs H Q=>∃i,xs=[.int i]/\Q (.int (if i<0 then -i else i)) H):=by
 intro U H ds vs Q zt rs o;have o:bH K cA U H (qR (λi=>.int (if i<0 then -i else i)) ds) Q:=o;cases ds with
 |nil=>exact False.elim o
 |cons a t=>
 cases a with
 |int i=>
  cases t with
  |cons _ _=>exact False.elim o
  |nil=>
   obtain⟨v,rfl,r1⟩:=rs.one;rw[r1.int];exact⟨_,rfl,bH.here o (.int _)⟩
 |_=>exact False.elim o
theorem zkT:bF K cA .xr (λxs H Q=>(∃i,xs=[.int i]/\Q (.int i) H)\/∃k,xs=[.bl k]/\Q (.int (if k then 1 else 0)) H):=by
 intro U H ds vs Q zt rs o;have o:bH K cA U H (IV ds) Q:=o;cases ds with
 |nil=>exact False.elim o
 |cons a t=>
 cases a with
 |int i=>
  cases t with
  |cons _ _=>exact False.elim o
  |nil=>
   obtain⟨v,rfl,r1⟩:=rs.one;rw[r1.int];exact .inl ⟨_,rfl,bH.here o (.int _)⟩
 |bl k=>
  cases t with
  |cons _ _=>exact False.elim o
  |nil=>
   obtain⟨v,rfl,r1⟩:=rs.one;rw[r1.bl];exact .inr ⟨_,rfl,bH.here o (.int _)⟩
 |_=>exact False.elim o
theorem zjG:bF K cA .max2 (λxs H Q=>∃i j,xs=[.int i,.int j]/\Q (.int (if j>i then j else i)) H):=by
 intro U H ds vs Q zt rs o;obtain⟨x,y,e,i,j,rfl,rfl,q⟩:=EY (K:=K) (cA:=cA) (p:=.max2) (f:=λi j=>.int (if j>i then j else i)) rfl (λi j _ _=>.int _) U H ds vs Q zt rs o;exact⟨i,j,e,q⟩
theorem zlm:bF K cA .min2 (λxs H Q=>∃i j,xs=[.int i,.int j]/\Q (.int (if j<i then j else i)) H):=by
 intro U H ds vs Q zt rs o;obtain⟨x,y,e,i,j,rfl,rfl,q⟩:=EY (K:=K) (cA:=cA) (p:=.min2) (f:=λi j=>.int (if j<i then j else i)) rfl (λi j _ _=>.int _) U H ds vs Q zt rs o;exact⟨i,j,e,q⟩
theorem zgO:bF K cA .divmod (λxs H Q=>∃i j,xs=[.int i,.int j]/\wO i j/\∀p,H p=none->Q (.ref p) (upd H p (.tup [.int (i/j),.int (i%j)]))):=by
 intro U H ds vs Q zt rs o;have o:bH K cA U H (dG (λi j=>if 0<j/\j<1073741824 then some (.tup [.int (i/j),.int (i%j)]) else none) ds) Q:=o;obtain⟨z,e⟩:=o.some';obtain⟨i,j,d,rfl,e1,rfl⟩:=Zm e;obtain⟨c,rfl⟩:=Jl e1;obtain⟨v,v',rfl,r1,r2⟩:=rs.two (ds:=[]);rw[r1.int,r2.int];exact⟨i,j,rfl,c,λp hp=>(o.of e).tup zt (.cons (.int _) (.cons (.int _) .nil)) hp⟩
theorem Zo:∀{xs:List D} {bs:List Bool} {vs:List V},eU xs=some bs->aC K cA U H xs vs->vs=bs.map V.bl
 |[],bs,vs,h,r=>by cases h;cases r;rfl
 |d::xs,bs,vs,h,r=>by
  cases d with
  |bl b=>
   simp only[eU,lH] at h;obtain⟨bs',h1,rfl⟩:=h;cases r with
   |cons q r=>cases q;rw[Zo h1 r];rfl
  |_=>simp[eU] at h
theorem zoi:bF K cA .ix (r2 (Ro K)):=by
 intro U H ds vs Q zt rs o;have o:bH K cA U H (Sv ds) Q:=o;unfold Sv at o;split at o
 ·rename_i d i _;obtain⟨v,v',rfl,r1,r2⟩:=rs.two (ds:=[]);obtain⟨z,e⟩:=o.some';obtain⟨y,e1,e2⟩:=lH.mp e;obtain⟨xs,e3,e4⟩:=Ae.mp e1;obtain⟨a,us,rfl,sq,q⟩:=r1.sq e3;have key:∃w,L2.qJ us i=some w/\Rep K cA U H y w:=by
   unfold L2.qJ at *;rw[<-q.len];obtain⟨j,h1,h2⟩:=Ae.mp e4;obtain⟨w,h3,h4⟩:=q.get h2;exact⟨w,by rw[h1];exact h3,h4⟩
  obtain⟨w,hw,lu⟩:=key;subst e2;have q':=(o.of e).here lu;rcases sq with sq|sq
  ·exact⟨_,_,rfl,.inl ⟨a,us,i,w,rfl,r2.int,sq,hw,q'⟩⟩
  ·exact⟨_,_,rfl,.inr (.inl ⟨a,us,i,w,rfl,r2.int,sq,hw,q'⟩)⟩
 ·exact o.elim
noncomputable def Zq(K:W.Frag):V->Option Int->Option Int->Hp->VK->Prop:=λx lo hi H Q=>Ig K x lo hi H Q\/zF K x lo hi H Q
theorem zlU:wV X (Zq X.K):=wY.or zjB
theorem zkh{d:D}{lo hi:Option Int}{v:V}(zt:Zt U H)(r:Rv K cA U H d v)(o:bH K cA U H (cutD d lo hi) Q):Zq K v lo hi H Q:=by
 cases d with
 |tup xs=>
  obtain⟨a,us,rfl,t,q⟩:=r.tup;refine .inr ⟨a,us,rfl,t.ju,λe=>?_,λp hp=>bH.tup o zt q.cut hp⟩;have hc:cut xs lo hi=xs:=by
   unfold cut;rw[q.len,e.1,e.2,List.drop_zero,Nat.sub_zero,<-q.len,tQ]
  have o:bH K cA U H (some (.dat (.tup (cut xs lo hi)))) Q:=o;rw[hc] at o;exact o.here (.tup t q)
 |fl xs=>
  obtain⟨a,us,rfl,t,q⟩:=r;exact .inl ⟨a,us,rfl,t,λp hp=>o p _ hp q.cut⟩
 |_=>exact o.elim
end
end Mi
namespace L2
open PySem PySem.Spec PyProof.Rows
section
variable {κ:Type}[DecidableEq κ]
end
section
variable {P:Program}{w:World}{H:Hp}{h:Heap}{a:Addr}
end
section
variable {X:Cx}{ao:List (Addr×Obj)}{Z:St}{H:Hp}{s:Shared}{a:Addr}{y v:V}{u r:Value}{o:Option V}{A:Around}{E:Value->Shared->Prop}
theorem Inv.big(I:Inv X ao Z H s):sysModules<s.heap.objs.size:=by
 have h:mainGlobals<s.heap.objs.size:=(I.mod.glob.keeps I.bk).lt;exact Nat.lt_trans (by decide) h
theorem zkE(I:Inv X ao Z H s)(mu:G3 (H a))(hs:Heap.SameBut a s.heap h')(he:∃q,h'.get? a=some q)(new:bR X.prog X.w (upd H a ob) h' a ob) :
  Inv X ao Z (upd H a ob) {s with heap:=h',toks:=t'}:=
 I.write (x:=a) (e:=a) mu (.inl rfl) (λb q hb z=>(hs.2 b hb).trans z) he new
end
section
variable {X:Cx}{ao:List (Addr×Obj)}{Z:St}{H:Hp}{s:Shared}{a:Addr}{kvs:List (Key×V)}{k:Key}{u:Value}{A:Around}{E:Value->Shared->Prop}
end
def Cv(i:Expr):Prop:=∀ov iv,subscripted i false ov iv=operate [ov,iv] (getItem ov iv)
theorem zk0{prog:Program}{w:World}{A:Around}{E:Value->Shared->Prop}{s:Shared}{env:Env}{value slice:Expr}{pos:Pos}{T id:String}{Q:Value->Shared->Prop}
  (hl:typeLookup (.type T) "__getitem__"=pure (some (.builtin id))) (hs:Cv slice)
  (h:wpAny (model prog w) A (eval value env) (λo s₁=>wpAny (model prog w) A (eval slice env) (λi s₂=>s₂.TypeIs o T/\wpAny (model prog w) A (getItem o i) Q E s₂) E s₁) E s) :
  wpAny (model prog w) A (eval (.Subscript value slice pos) env) Q E s:=by
 refine Subscript_ (gR h (λo s₁ h₁=>gR h₁ (λi s₂ h₂=>?_) λ_ _ x=>x) λ_ _ x=>x);obtain⟨hT,h₂⟩:=h₂;unfold subscriptTail;refine aB ?_;rw[getitemInPython_of_ne hT.not_modules];refine aB (wpAny_specialOf hT hl ?_);have fin:wpAny (model prog w) A (subscripted slice false o i) (λr s₃=>wpAny (model prog w) A (letTemporaryGo value o r >>= λ_=>pure r) Q E s₃) E s₂:=by
  rw[hs o i];exact wpAny_operating (gR h₂ (λr s₃ h₃=>aB (wpAny_letTemporaryGo (aM h₃))) λ_ _ x=>x)
 first
  |exact aM (aB fin)
  |exact aB (aM (aB fin))
  |exact aB fin
section
variable {X:Cx}{o i e value:Expr}{pos pos' tpos:Pos}{td ty tv:TE}
end
section
variable {X:Cx}{pos:Pos}
end
section
variable {X:Cx}{ao:List (Addr×Obj)}{Z:St}{H:Hp}{s:Shared}{a:Addr}{y d:V}{u r:Value}{o:Option V}{A:Around}{E:Value->Shared->Prop}
end
section
variable {X:Cx}{o e f:Expr}{apos cpos:Pos}{td ty tx:TE}
end
section
variable {X:Cx}{ao:List (Addr×Obj)}{Z:St}{H:Hp}{s:Shared}{a:Addr}{kvs:List (Key×V)}{A:Around}{E:Value->Shared->Prop}
end
section
variable {X:Cx}{ao:List (Addr×Obj)}{Z:St}{H:Hp}{s:Shared}{a:Addr}{y:V}{u:Value}{A:Around}{E:Value->Shared->Prop}
end
end L2
namespace Mi
open PySem PySem.Spec PyProof.Rows L2
section
variable {X:Cx}{cA:Cl}{aq:Nat->Nat->Bool}{aj:Bool}{F:Fn}{EX:XS}{a b c d e o:Expr}{A B C Dd E' O:E}{pos pp p2 apos cpos:Pos}{es:List Expr}{Xs:Es}{fz:Bool}{p:Pr}{x:Str}{U:Ph}{H:Hp}{s:S}{lo hi:Option Expr}{Lo Hi:Eo}
def Jm(X:Cx)(cA:Cl)(aq:Nat->Nat->Bool)(aj:Bool)(F:Fn)(EX:XS)(oe:Option Expr)(m:Eo):Prop:=
 PO X oe (λZ H Q=>∃U J s,aY X.K cA U H Z J/\aF X.K cA U H s/\Run X.K cA (xG aq aj F m J) U H s (λi _ U' H'=>Q i H') (eX X.K cA EX Z))
theorem PO.weak{oe:Option Expr}{t t':TO}(h:PO X oe t)(f:∀Z H Q,t' Z H Q->t Z H Q):PO X oe t':=by
 intro ao s Z H Q I q;exact h ao s Z H Q I (f Z H Q q)
theorem zo5:Jm X cA aq aj F EX none .no:=PO.weak zld λZ H Q hh=>un hh λU J s hL hS h=>h.bN hS
theorem zl9(ha:SE X cA aq aj F EX a A):Jm X cA aq aj F EX (some a) (.yes A):=PO.weak (zkQ ha) λZ H Q hh=>un hh λU J s hL hS h=>by
 refine bw hL hS h λx H1 U1 d1 s1 x1 hL1 aJ r1 h1=>?_;obtain⟨i,_,e,h3⟩:=Jg r1 h1;exact⟨i,e,h3.bN aJ⟩
theorem Jo{β:Type}{Z:L2.St}{J:Vs}{m:Eo}{k:Option Int->M β}{P:β->S->Ph->Hp->Prop}(hL:aY X.K cA U H Z J)(hS:aF X.K cA U H s)(h:Run X.K cA (M.bd (xG aq aj F m J) k) U H s P (eX X.K cA EX Z)){Q:Option Int->Hp->Prop}
  (f:∀i H1 U1 s1,Ext U H U1 H1->aY X.K cA U1 H1 Z J->aF X.K cA U1 H1 s1->Run X.K cA (k i) U1 H1 s1 P (eX X.K cA EX Z)->Q i H1) :
  ∃U J s,aY X.K cA U H Z J/\aF X.K cA U H s/\Run X.K cA (xG aq aj F m J) U H s (λi _ U' H'=>Q i H') (eX X.K cA EX Z):=
 ⟨U,J,s,hL,hS,h.bd.imp λi s1 U1 H1 ⟨x1,r1,h1⟩=>f i H1 U1 s1 x1 (hL.mono x1 hS.lz) r1 h1⟩
theorem zn0(ha:SE X cA aq aj F EX a A)(hl:Jm X cA aq aj F EX lo Lo)(hh:Jm X cA aq aj F EX hi Hi):SE X cA aq aj F EX (.Subscript a (.Slice lo hi none p2) pos) (.sl fz A Lo Hi):=PE.weak (zhO zlU ha hl hh) λZ H Q hh=>un hh λU J s hL hS h=>by
 refine bw hL hS h λx H1 U1 d1 s1 x1 hL1 aJ r1 h1=>Jo hL1 aJ h1 λl H2 U2 s2 x2 hL2 aQ h2=>Jo hL2 aQ h2 λu H3 U3 s3 x3 oN gO h3=>?_;obtain⟨dd,rv,h4⟩:=M_ gO ((r1.mono x2 aJ.lz).mono x3 aQ.lz) h3;exact zkh gO.zs rv (tK gO h4)
theorem zl8(ha:SE X cA aq aj F EX a A):SE X cA aq aj F EX (.Subscript a (.Slice none none (some (.UnaryOp .USub (.Constant (.int 1) j p3) p4)) p2) pos) (.pr true .rev (.cons A .nil)):=PE.weak (zlP ha) λZ H Q hh=>un hh λU J s hL hS h=>by
 have h:Run X.K cA (M.bd (M.bd (ev aq aj F A J) λx=>M.bd (M.ret []) λz=>M.ret (x::z)) λvs=>M.bd (gW vs) λds=>cF true (prim .rev ds)) U H s _ _:=h;simp only[gM] at h;refine bw hL hS h λx H1 U1 d1 s1 x1 hL1 aJ r1 h1=>?_;obtain⟨ds,rs,h3⟩:=uJ aJ (.cons r1 .nil) h1;have o:bH X.K cA U1 H1 (Cj ds) Q:=tK aJ h3;unfold Cj at o;split at o
 ·obtain⟨v,e,r⟩:=rs.one;cases e;obtain⟨ad,us,e2,t,q⟩:=r.tup;subst e2;exact⟨ad,us,rfl,t.ju,λp hp=>bH.tup o aJ.zs q.rev hp⟩
 ·exact o.elim
theorem Zr:∀bs:List Bool,(List.range bs.length).all (λi=>(bs[i]?).getD false)=bs.all id
 |[]=>rfl
 |b::r=>by
  rw[fX,PX,wG,yO,wG];have:=Zr r;simp only[Function.comp_def,Af,List.getElem?_cons_zero,Option.getD_some,id];rw[this]
theorem zgR(hc:X.aj=true):cW X (.builtin "all") (λxs H Q=>∃(p:Addr) (bs:List Bool),xs=[.ref p]/\cY X.K H p (bs.map V.bl)/\Q (.bl (bs.all id)) H):=by
 intro ao s Z H xs us Q I r ⟨p,bs,e,hp,q⟩;subst e;obtain⟨u,rfl,ru⟩:=Vals.one r;cases (show u=Value.ref p from ru);obtain⟨its,rv,pl,hz⟩:=I.list hp;have hl:s.heap.IsList p its.toArray:=pl.isList;have hpn:p≠s.heap.objs.size:=by
  obtain⟨o,hg,_⟩:=hl;exact dN (bY hg)
 refine call_all_walk (Gs hl ?_);refine⟨_,_,_,_,_,_,λi=>(bs[i]?).getD false,rfl,Walks.list (A:=X.A.in1) (I.ok.hd hc) _ p hpn its.toArray,⟨⟨_,fO _ rfl,rfl,rfl⟩,hl.push _⟩,?_,λh' tk hk=>?_⟩
 ·intro i v s' Q' E' hP hQ;have hi:its[i]?=some v:=by simpa using hP
  have hb:∃b,bs[i]?=some b:=by
   have cV:i<its.length:=(dO.mp hi).1;have z:=rv.length;rw[bO] at z;exact⟨_,cX (by lia)⟩
  obtain⟨b,hb⟩:=hb;obtain⟨u,e1,e2⟩:=rv.get (i:=i) (x:=V.bl b) (by rw[fQ,hb];rfl);rw[hi] at e1;cases e1;cases (show v=Value.bool b from e2);have hQ:Q' ((bs[i]?).getD false) s':=hQ;rw[hb] at hQ;exact vD hQ
 ·have ez:(List.range its.toArray.size).all (λi=>(bs[i]?).getD false)=bs.all id:=by
   have z:=rv.length;rw[bO] at z;rw[fP,<-z];exact Zr bs
  rw[ez];refine⟨.bl (bs.all id),H,I.kept (h':=h') (t':=tk) (old_kept hk),rfl,q⟩
theorem zm8{K:W.Frag}:bF K cA .all (λxs H Q=>∃(p:Addr) (bs:List Bool),xs=[.ref p]/\cY K H p (bs.map V.bl)/\Q (.bl (bs.all id)) H):=by
 intro U H ds vs Q zt rs o;have o:bH K cA U H (Ce ds) Q:=o;unfold Ce at o;split at o
 ·obtain⟨v,rfl,⟨ad,us,rfl,l,q⟩⟩:=rs.one;obtain⟨z,e⟩:=o.some';obtain⟨bs,e1,e2⟩:=lH.mp e;subst e2;exact⟨ad,bs,rfl,by rw[<-Zo e1 q];exact l,(o.of e).here (.bl _)⟩
 ·exact o.elim
noncomputable def Ni:Kd->String->Bool
 |.int,"int"=>true
 |.int,"bool"=>true
 |.bool,"bool"=>true
 |.str,"str"=>true
 |.tuple,"tuple"=>true
 |.list,"list"=>true
 |.dict,"dict"=>true
 |_,_=>false
noncomputable def uN:Kd->Option Value
 |.int=>some (.type "int")
 |.bool=>some (.type "bool")
 |.str=>some (.type "str")
 |.tuple=>some (.type "tuple")
 |.list=>some (.type "list")
 |.dict=>some (.type "dict")
 |_=>none
theorem znK{K:W.Frag}{k:Kd}{cu:Value}(h:uN k=some cu){T:String}(hT:T∈["NoneType","bool","int","str","tuple","list","dict"]):PySem.W.kitOne K (.type T) cu=some (Ni k T):=by
 simp only[gQ,List.mem_nil_iff,or_false] at hT;cases k<;>simp only[uN] at h<;>cases h<;>rcases hT with rfl|rfl|rfl|rfl|rfl|rfl|rfl<;>rfl
structure Jp(K:W.Frag)(cA:Cl)(aq:Nat->Nat->Bool):Prop where
 xc:∀c,XC K (cA.a c)
 aq:∀c e,PySem.W.kitOne K (.ref (cA.a c)) (.ref (cA.a e))=some (aq c e)
 rR:∀c,PySem.W.kitOne K (.ref (cA.a c)) (.type "ValueError")=some true
noncomputable def E_(cA:Cl):Kd->V
 |.cls e=>.ref (cA.a e)
 |.rR=>.ty "ValueError"
 |.int=>.ty "int"
 |.bool=>.ty "bool"
 |.str=>.ty "str"
 |.tuple=>.ty "tuple"
 |.list=>.ty "list"
 |.dict=>.ty "dict"
theorem zie(Cs:uN k=none->Jp X.K cA aq) :
  cW X (.builtin "isinstance") (λxs H Q=>∃U d v bb,xs=[v,E_ cA k]/\Rv X.K cA U H d v/\lV aq d k=some bb/\Q (.bl bb) H):=by
 intro ao sh Z H xs us Q I r ⟨U,d,v,bb,e,rd,hi,q⟩;subst e;obtain⟨u,w,rfl,ru,Te⟩:=Vals.two r;have uO:∀tk,EP X ao Z Q (.bool bb) {sh with toks:=tk}:=λtk=>⟨.bl bb,H,I.tok tk,rfl,q⟩;have bt:∀{T:String} {Hh:Heap->Prop},PySem.W.KitX X.K u (.type T) Hh->Hh sh.heap->T∈["NoneType","bool","int","str","tuple","list","dict"]->u≠Value.builtin "__main__.__loader__#opaque"->(∃cu,uN k=some cu/\w=cu/\Ni k T=bb)->wpAny (model X.prog X.w) X.A (PySem.call (.builtin "isinstance") [u,w]) (EP X ao Z Q) X.xe sh:=λ{T Hh} zzZ hh hT hx ⟨cu,h1,h2,h3⟩=>by
  subst h2 h3;exact PySem.W.kia_one zzZ I.nW hh (znK h1 hT) hx uO
 have wv:∀cu,uN k=some cu->w=cu:=λcu h=>by
  cases k<;>simp only[uN] at h<;>cases h<;>exact Te
 have fin:∀T,lV aq d k=(match uN k with|some _=>some (Ni k T)|none=>none)->∃cu,uN k=some cu/\w=cu/\Ni k T=bb:=λT h=>by
  rw[hi] at h;cases z:uN k with
  |none=>rw[z] at h;cases h
  |some cu=>rw[z] at h;cases h;exact⟨cu,rfl,wv cu z,rfl⟩
 cases d with
 |non=>
  cases (show Rep X.K cA U H .non v from rd);cases (show u=Value.none from ru);exact bt PySem.W.kitx_none trivial (by simp) (λz=>nomatch z) (fin "NoneType" (by cases k<;>rfl))
 |bl b=>
  cases rd.bl;cases (show u=Value.bool b from ru);exact bt PySem.W.kitx_bool trivial (by simp) (λz=>nomatch z) (fin "bool" (by cases k<;>rfl))
 |int i=>
  cases rd.int;obtain⟨t,z⟩:=(show ∃t,u=Value.int i t from ru);cases z;exact bt PySem.W.kitx_int trivial (by simp) (λz=>nomatch z) (fin "int" (by cases k<;>rfl))
 |str y=>
  cases rd.str;obtain⟨t,z⟩:=(show ∃t,u=Value.str y t from ru);cases z;exact bt PySem.W.kitx_str trivial (by simp) (λz=>nomatch z) (fin "str" (by cases k<;>rfl))
 |tup xs=>
  obtain⟨ad,vs,rfl,h1,h2⟩:=rd.tup;cases (show u=Value.ref ad from ru);obtain⟨its,_,ht,_⟩:=I.tuple h1.ju;obtain⟨o,q1,q2,_⟩:=ht;exact bt PySem.W.kitx_tuple ⟨o,q1,q2⟩ (by simp) (λz=>nomatch z) (fin "tuple" (by cases k<;>rfl))
 |fl xs=>
  obtain⟨ad,vs,rfl,h1,h2⟩:=rd;cases (show u=Value.ref ad from ru);obtain⟨its,_,ht,_⟩:=I.list h1;obtain⟨o,q1,q2,_⟩:=ht.isList;exact bt PySem.W.kitx_list ⟨o,q1,q2⟩ (by simp) (λz=>nomatch z) (fin "list" (by cases k<;>rfl))
 |fd ks vs=>
  cases (show Rep X.K cA U H (.fd ks vs) v from rd) with
  |@fd ad kk ii q1 n=>
   cases (show u=Value.ref ad from ru);obtain⟨_,_,vs,_,o,es',ep,g1,g2,_⟩:=(show bR X.prog X.w H sh.heap ad (.dK [(.inr kk,.int ii)]) from I.hok ad _ q1);exact bt PySem.W.kitx_dict ⟨o,g1,g2.1⟩ (by simp) (λz=>nomatch z) (fin "dict" (by cases k<;>rfl))
 |ob c fs=>cases k<;>cases hi
 |any=>cases k<;>cases hi
 |exc c fs=>
  cases (show Rep X.K cA U H (.exc c fs) v from rd) with
  |@exc ad _ _ vs hx rs=>
   cases (show u=Value.ref ad from ru);have hI:∃ox od,PySem.W.InstAt sh.heap ad ox (cA.a c) od:=by
    obtain⟨_,⟨_,_,hx⟩|⟨dx,hx,_,hd,_⟩⟩:=hx
    ·obtain⟨⟨oe,vs,g1,g2,g3,g4⟩,_⟩:=(show bR X.prog X.w H sh.heap ad (xq ad (cA.a c) none) from I.hok ad _ hx);exact⟨oe,none,g1,g2,by unfold PySem.W.notCls;rw[g4],by rw[g3];trivial⟩
    ·obtain⟨⟨oe,vs,g1,g2,g3,g4⟩,_⟩:=(show bR X.prog X.w H sh.heap ad (xq ad (cA.a c) (some dx)) from I.hok ad _ hx);obtain⟨mA,⟨od,es,ep,e1,c1⟩,_⟩:=(show bR X.prog X.w H sh.heap dx (.xd _) from I.hok dx _ hd);exact⟨oe,some od,g1,g2,by unfold PySem.W.notCls;rw[g4],by rw[g3];exact e1⟩
   cases k with
   |cls e=>
    cases (show w=Value.ref (cA.a e) from Te);have z:some (aq c e)=some bb:=hi;cases z;exact PySem.W.kia_one (YK ((Cs rfl).xc c)) I.nW hI ((Cs rfl).aq c e) (λz=>nomatch z) uO
   |rR=>
    cases (show w=Value.type "ValueError" from Te);have z:some true=some bb:=hi;cases z;exact PySem.W.kia_one (YK ((Cs rfl).xc c)) I.nW hI ((Cs rfl).rR c) (λz=>nomatch z) uO
   |_=>cases hi
theorem zmq(Cs:uN k=none->Jp X.K cA aq)(hg:Gl X "isinstance")(hm:X.mg "isinstance"=none)(ha:SE X cA aq aj F EX a A)(hk:PE X kx (tC (E_ cA k)))(h1:starEach [a,kx] X.env=(false,eval a X.env)::starEach [kx] X.env:=by rfl)(h2:starEach [kx] X.env=(false,eval kx X.env)::starEach [] X.env:=by rfl)
  (hpl:(backTo pos (starEach [kx] X.env)).any (·.1)=false:=by rfl):SE X cA aq aj F EX (.Call (.Name "isinstance" pp) [a,kx] [] pos) (.qQ A k):=PE.weak (Yu (zie (cA:=cA) (k:=k) Cs) hg hm PyProof.Rows.boot_isinstance (sZ ha (sZ hk yX h2) h1) (by decide) (by decide) h1 hpl) λZ H Q hh=>un hh λU J s hL hS h=>
 bw hL hS h λv H1 U1 d s1 x1 hL1 aJ r1 h1=>by
  show ∃U d' v' bb,[v,E_ cA k]=[v',E_ cA k]/\_;obtain⟨dd,rv,h2⟩:=M_ aJ r1 h1;obtain⟨bb,e,h3⟩:=Ey h2;exact⟨U1,dd,v,bb,rfl,rv,e,h3.bN aJ _ (.d (.bl bb))⟩
end
theorem Zu(n:Nat):∀is js:List Int,dF (cZ n) (is.map .int) (js.map .int)=some (decide (is=js))
 |[],[]=>rfl
 |[],_::_=>rfl
 |_::_,[]=>rfl
 |i::is,j::js=>by
  have e:cZ n (.int i) (.int j)=some (i==j):=by cases n<;>rfl
  simp only[g_,dF,Zu n is js,e]
  congr 1
  by_cases h:i=j
  ·subst h;by_cases h2:is=js<;>simp[h2]
  ·simp[h]
theorem zlD{a b:Kx}:cZ 2 (rY a) (rY b)=some (decide (a=b)):=by
 cases a with
 |non=>cases b<;>rfl
 |int i=>cases b with
  |int j=>
   show some (i==j)=_;by_cases h:i=j
   ·subst h;simp
   ·have hn:¬Kx.int i=Kx.int j:=λz=>h (by cases z;rfl);simp[h,hn]
  |_=>rfl
 |row is=>cases b with
  |row js=>
   show dF (cZ 1) (is.map .int) (js.map .int)=_;rw[Zu];by_cases h:is=js
   ·subst h;simp
   ·have hn:¬Kx.row is=Kx.row js:=λz=>h (by cases z;rfl);simp[h,hn]
  |_=>rfl
theorem Zv{x y:List Kx}:cZ 3 (ji x) (ji y)=some (decide (x=y)):=by
 show dF (cZ 2) (x.map rY) (y.map rY)=_
 induction x generalizing y with
 |nil=>cases y<;>rfl
 |cons a x ih=>cases y with
  |nil=>rfl
  |cons b y=>
   simp only[g_,dF,ih,zlD]
   congr 1
   by_cases h:a=b
   ·subst h;by_cases h2:x=y<;>simp[h2]
   ·simp[h]
theorem Zw:∀{xs:List D} {is:List Int},cI xs=some is->xs=is.map .int
 |[],is,h=>by cases h;rfl
 |x::r,is,h=>by
  cases x with
  |int i=>
   simp only[cI,lH] at h;obtain⟨js,h1,rfl⟩:=h;rw[Zw h1];rfl
  |_=>cases h
theorem zkp{d:D}{k:Kx}(h:uG d=some k):d=rY k:=by
 cases d with
 |non=>cases h;rfl
 |int i=>cases h;rfl
 |tup xs=>
  simp only[uG,lH] at h;obtain⟨js,h1,rfl⟩:=h;rw[Zw h1];rfl
 |_=>cases h
theorem Zx:∀{xs:List D} {k:List Kx},Cr xs=some k->xs=k.map rY
 |[],k,h=>by cases h;rfl
 |x::r,k,h=>by
  unfold Cr at h;cases e1:uG x with
  |none=>simp only[e1] at h;cases h
  |some a=>cases e2:Cr r with
   |none=>simp only[e1,e2] at h;cases h
   |some b=>
    simp only[e1,e2] at h;cases h;rw[zkp e1,Zx e2];rfl
theorem znL{d:D}{k:List Kx}(h:kOf d=some k):d=ji k:=by
 cases d with
 |tup xs=>show D.tup xs=.tup _;rw[Zx h]
 |_=>cases h
noncomputable def Zy:Kx->Nat
 |.row is=>is.length+1
 |_=>1
noncomputable def uP:List Kx->Nat
 |[]=>0
 |x::r=>Zy x+uP r
section
variable {prog:Program}{w:World}{A:Around}{E:Value->Shared->Prop}{s:Shared}{h h':Heap}
theorem Zz:∀{is:List Int} {us:List Value},jM h (is.map .int) us->ItemsAre (intKind prog w) is us
 |[],us,r=>by cases r;exact .nil
 |i::is,us,r=>by
  cases r with
  |cons a r=>cases a with
   |int i t=>exact .cons (by simp[intKind,Value.isInt]) (Zz r)
   |oth k=>cases k
theorem uQ{is:List Int}{a:Value}(x:Is h (.tup (is.map .int)) a):∃b,a=.ref b/\IsTupleKey (intKind prog w) h is b:=by
 cases x with
 |tup p r=>
  obtain⟨o,e,c,n,d⟩:=p;exact⟨_,rfl,o,_,n,e,c,d,by simpa using Zz r⟩
 |oth k=>cases k
theorem zkc{x:Kx}{u:Value}{Q:Int->Shared->Prop}(hu:A.units<cLine)(hx:Is s.heap (rY x) u)(q:Q (SQ x) {s with toks:=s.toks+Zy x}):wpAny (model prog w) A (pyHash u) Q E s:=by
 cases x with
 |non=>
  cases hx with
  |non=>exact PySem.W.pyHash_slot (T:="NoneType") rfl F.slot_NoneType_hash F.entry_NoneType_hash (F.args_NoneType_hash_1 _) (beq_builtin_none _) (.inr hu) (aB (aM (aB (wpAny_mkInt (aM ⟨_,_,rfl,q⟩)))))
  |oth k=>cases k
 |int i=>
  cases hx with
  |int i t=>exact wpAny_pyHash_int q
  |oth k=>cases k
 |row is=>
  obtain⟨b,rfl,k⟩:=uQ (prog:=prog) (w:=w) hx;exact wpAny_pyHash_tuple hu k q
theorem ZC{k:List Kx}:∀{r:List Kx} {us:List Value} {b:Array Int} {s:Shared} {Q:Array Int->Shared->Prop},A.units<cLine->jM s.heap (r.map rY) us->(∀b':Array Int,b'.toList=b.toList++r.map SQ->Q b' {s with toks:=s.toks+uP r})->
  wpAny (model prog w) A (forIn us b λx r=>do let h <-pyHash x;pure PUnit.unit;pure (ForInStep.yield (r.push h))) Q E s
 |[],us,b,s,Q,hu,x,q=>by cases x;exact aM (q b (by simp))
 |a::r,us,b,s,Q,hu,x,q=>by
  cases x with
  |cons x1 x2=>
   rw[DP];refine aB (aB (zkc hu x1 (aB (aM (aM ?_)))));refine ZC (k:=k) hu x2 λb' e=>?_;have:=q b' (by simp[e]);simpa [uP,Nat.add_assoc] using this
theorem zik{k:List Kx}{a:Addr}{Q:Int->Shared->Prop}(hu:A.units+1<cLine)(hk:Is s.heap (ji k) (.ref a))(q:Q (qU k) {s with toks:=s.toks+(uP k+1)}):wpAny (model prog w) A (pyHash (.ref a)) Q E s:=by
 cases hk with
 |oth k=>cases k
 |tup p r=>
  obtain⟨o,e,c,n,d⟩:=p;refine PySem.W.pyHash_slot (T:="tuple") ⟨_,e,c⟩ F.slot_tuple_hash F.entry_tuple_hash (F.args_tuple_hash_1 _) (beq_builtin_none _) (.inr (by lia)) ?_;show wpAny _ _ (Builtin.Tuple.tupleItemsOf (.ref a) >>= _) _ _ s;refine aB (wpAny_tupleItemsOf e d (aB ?_));rw[<-Qj];refine ZC (A:=A.in1) (k:=k) (show A.units+1<cLine from hu) (by simpa using r) λb hb=>?_;show wpAny _ _ (retInt (Builtin.Tuple.tupleHashOf b.toList)) _ _ _;rw[hb];exact aB (wpAny_mkInt (aM ⟨_,_,rfl,by simpa [Nat.add_assoc,qU] using q⟩))
theorem ziD(ht:∀a xs,h.IsTuple a xs->h'.IsTuple a xs)(hl:∀a xs,h.IsList a xs->h'.IsList a xs){d:D}{u:Value}(x:Is h d u):Is h' d u:=
 Is.rec (motive_1:=λd u _=>Is h' d u) (motive_2:=λd u _=>jM h' d u) .non .bl .int .str (λp _ r=>.tup (ht _ _ p) r) (λp _ r=>.fl (hl _ _ p) r) (λk=>.oth k) .nil (λ_ _ a r=>.cons a r) x
theorem ziO:∀{n:Nat} {x:Kx} {u:Value} {Q:Bool->Shared->Prop},Is s.heap (rY x) u->Q true s->wpAny (model prog w) A (eqIsQuiet (n+1) u) Q E s:=by
 intro n x u Q hx q;cases x with
 |non=>
  cases hx with
  |non=>rw[eqIsQuiet_byValue _ rfl];exact aM q
  |oth k=>cases k
 |int i=>
  cases hx with
  |int i t=>rw[eqIsQuiet_byValue _ rfl];exact aM q
  |oth k=>cases k
 |row is=>
  obtain⟨b,rfl,k⟩:=uQ (prog:=prog) (w:=w) hx;have ty:=k.typeIs;obtain⟨o,items,m,ho,_,hd,hi⟩:=k;unfold eqIsQuiet;refine aB (wpAny_specialOf ty F.slot_tuple_eq.lookup ?_);show wpAny _ A (isInstance (.ref b) (.type "tuple") >>= _) Q E s;refine aB (Lp ty isSubtype_tuple_tuple ?_);simp only[Bool.not_true,vC,qC];refine aB (rF ho hd (aB ?_));show wpAny _ A (forIn items _ _) _ E s;rw[<-Qj];refine wpAny_forIn_list _ (λl r t=>r.1=none/\t=s/\∀v∈l,carriedByValue v=true) _ (λv l r t z=>?_) (λr t z=>?_) _ _ ⟨rfl,rfl,hi.byValue⟩
  ·obtain⟨_,rfl,pU⟩:=z;rw[eqIsQuiet_byValue _ (pU v lJ)];exact aB (aM (aM ⟨rfl,rfl,λy hy=>pU y (iz _ hy)⟩))
  ·obtain⟨r1,r2⟩:=r;obtain⟨z1,rfl,_⟩:=z;cases z1;exact aM q
theorem zgQ{k:List Kx}{a:Addr}{Q:Bool->Shared->Prop}(hk:Is s.heap (ji k) (.ref a))(q:Q true s):wpAny (model prog w) A (eqIsQuiet 8 (.ref a)) Q E s:=by
 cases hk with
 |oth k=>cases k
 |@tup _ _ its p r=>
  obtain⟨o,ho,c,n,hd⟩:=p;unfold eqIsQuiet;refine aB (wpAny_specialOf ⟨_,ho,c⟩ F.slot_tuple_eq.lookup ?_);show wpAny _ A (isInstance (.ref a) (.type "tuple") >>= _) Q E s;refine aB (Lp ⟨_,ho,c⟩ isSubtype_tuple_tuple ?_);simp only[Bool.not_true,vC,qC];refine aB (rF ho hd (aB ?_));show wpAny _ A (forIn its.toArray _ _) _ E s;rw[<-Qj];refine wpAny_forIn_list _ (λl r t=>r.1=none/\t=s/\∀v∈l,∃x,Is s.heap (rY x) v) _ (λv l r t z=>?_) (λr t z=>?_) _ _ ⟨rfl,rfl,?_⟩
  ·obtain⟨_,rfl,pU⟩:=z;obtain⟨x,hx⟩:=pU v lJ;exact aB (ziO (n:=6) hx (aM ⟨rfl,rfl,λy hy=>pU y (iz _ hy)⟩))
  ·obtain⟨r1,r2⟩:=r;obtain⟨z1,rfl,_⟩:=z;cases z1;exact aM q
  ·intro v hv;have:∀{ks:List Kx} {us:List Value},jM s.heap (ks.map rY) us->∀v∈us,∃x,Is s.heap (rY x) v:=λ{ks}=>by
    induction ks with
    |nil=>intro us r v hv;cases r;cases hv
    |cons y ks ih=>
     intro us r v hv;cases r with
     |cons a r=>
      rcases gQ.mp hv with rfl|hv
      ·exact⟨y,a⟩
      ·exact ih r v hv
   exact this r v (by simpa using hv)
end
noncomputable def jV(prog:Program)(w:World):HeapKind prog w (List Kx) where
 is:=λh k a=>Is h (ji k) (.ref a)
 hash:=qU
 draws:=λk=>uP k+1
 room:=λA=>A.units+4<cLine
 inj:=λx y=>gG (S9 3 x y Zv)
 keeps:=λ{h h' k a d o es ep} x ho hd hs=>ziD (λb xs ⟨q,e,c,n,z⟩=>⟨q,(hs.2 b λy=>by subst y;rw[ho] at e;cases e;rw[hd] at z;cases z).trans e,c,n,z⟩) (λb xs ⟨q,e,c,n,z⟩=>⟨q,(hs.2 b λy=>by subst y;rw[ho] at e;cases e;rw[hd] at z;cases z).trans e,c,n,z⟩) x
 pyHash:=λhu hk q=>zik (by lia) hk q
 eqBool:=λ{A E s x y a b Q} hu hx hy q=>Cu 3 (show A.units+3<cLine by lia) hx hy Zv _ _ _ _ q
 quiet:=λhk q=>zgQ hk q
section
variable {K:W.Frag}{cA:Cl}{U U':Ph}{H H':Hp}{s:S}
theorem TupAt.kE(e:∀a,U'.z a->U.z a){a:Addr}{vs:List V}(h:TupAt K U H a vs):TupAt K U' H a vs:=h.imp (λ⟨p,n⟩=>⟨p,λz=>n (e a z)⟩) id
theorem LstAt.kE(e:∀a,U'.z a->U.z a){a:Addr}{vs:List V}(h:LstAt K U H a vs):LstAt K U' H a vs:=h.imp (λ⟨p,n⟩=>⟨p,λz=>n (e a z)⟩) id
theorem ExcAt.kE(e:∀a,U'.z a->U.z a){a:Addr}{c:Nat}{vs:List V}(h:ExcAt cA U H a c vs):ExcAt cA U' H a c vs:=
 ⟨λz=>h.1 (e a z),h.2.imp id λ⟨dx,p,n,q,l⟩=>⟨dx,p,λz=>n (e dx z),q,l⟩⟩
theorem qg.kE(e:∀a,U'.z a->U.z a){a:Addr}{c:Nat}{vs:List V}(h:qg cA U H a c vs):qg cA U' H a c vs:=⟨λz=>h.1 (e a z),h.2⟩
theorem Rep.kE(e:∀a,U'.z a->U.z a){d:D}{v:V}(h:Rep K cA U H d v):Rep K cA U' H d v:=
 Rep.rec (motive_1:=λd v _=>Rep K cA U' H d v) (motive_2:=λd v _=>aC K cA U' H d v) .non .bl .int .str (λh _ i=>.tup (h.kE e) i) (λh _ i=>.fl (h.kE e) i) (λh n=>.fd h (λz=>n (e _ z))) (λh _ i=>.exc (h.kE e) i) (λh _ i=>.ob (h.kE e) i) .any .nil (λ_ _ i j=>.cons i j) h
theorem aC.kE(e:∀a,U'.z a->U.z a){d:List D}{v:List V}(h:aC K cA U H d v):aC K cA U' H d v:=
 aC.rec (motive_1:=λd v _=>Rep K cA U' H d v) (motive_2:=λd v _=>aC K cA U' H d v) .non .bl .int .str (λh _ i=>.tup (h.kE e) i) (λh _ i=>.fl (h.kE e) i) (λh n=>.fd h (λz=>n (e _ z))) (λh _ i=>.exc (h.kE e) i) (λh _ i=>.ob (h.kE e) i) .any .nil (λ_ _ i j=>.cons i j) h
theorem kZ.kE(e:∀a,U'.z a->U.z a){a:Addr}{o:SO}(h:kZ K cA U H a o):kZ K cA U' H a o:=h.map (λ_ q=>q) λ_ _ r=>r.kE e
theorem Rep.zl{d:D}{v:V}(h:Rep K cA U H d v)(l:List Addr):Rep K cA ⟨U.z,l⟩ H d v:=Rep.kE (U:=U) (U':=⟨U.z,l⟩) (λ_ z=>z) h
theorem aC.zl{d:List D}{v:List V}(h:aC K cA U H d v)(l:List Addr):aC K cA ⟨U.z,l⟩ H d v:=aC.kE (U:=U) (U':=⟨U.z,l⟩) (λ_ z=>z) h
theorem kZ.zl{a:Addr}{o:SO}(h:kZ K cA U H a o)(l:List Addr):kZ K cA ⟨U.z,l⟩ H a o:=kZ.kE (U:=U) (U':=⟨U.z,l⟩) (λ_ z=>z) h
noncomputable def adr(l:List Addr):List Nat->List Addr
 |[]=>[]
 |n::r=>match l[n]? with
  |some a=>a::adr l r
  |none=>adr l r
theorem Fb{l:List Addr}:∀{ns:List Nat} {a:Addr},a∈adr l ns->∃n∈ns,l[n]?=some a
 |[],a,h=>by cases h
 |n::r,a,h=>by
  unfold adr at h;cases e:l[n]? with
  |none=>
   simp only[e] at h;obtain⟨m,h1,h2⟩:=Fb h;exact⟨m,iz _ h1,h2⟩
  |some b=>
   simp only[e] at h;rcases gQ.mp h with rfl|h
   ·exact⟨n,lJ,e⟩
   ·obtain⟨m,h1,h2⟩:=Fb h;exact⟨m,iz _ h1,h2⟩
theorem ZD{s:S}:∀{ns:List Nat} {s0:S} {i n:Nat},jL s ns=some s0->ns[i]?=some n->s0[i]?=s[n]?/\∃o,s[n]?=some o
 |[],s0,i,n,h,e=>by simp at e
 |m::r,s0,i,n,h,e=>by
  unfold jL at h;cases e1:s[m]? with
  |none=>simp only[e1] at h;cases h
  |some o=>
   cases e2:jL s r with
   |none=>simp only[e1,e2] at h;cases h
   |some q=>
    simp only[e1,e2] at h;cases h;cases i with
    |zero=>simp at e;subst e;exact⟨by simp[e1],o,e1⟩
    |succ i=>simpa using ZD e2 (by simpa using e)
theorem ZF{s:S}:∀{ns:List Nat} {s0:S},jL s ns=some s0->s0.length=ns.length
 |[],s0,h=>by cases h;rfl
 |m::r,s0,h=>by
  unfold jL at h;cases e1:s[m]? with
  |none=>simp only[e1] at h;cases h
  |some o=>
   cases e2:jL s r with
   |none=>simp only[e1,e2] at h;cases h
   |some q=>
    simp only[e1,e2] at h;cases h;rw[fX,fX,ZF e2]
theorem Jq{l:List Addr}:∀{ns:List Nat} {i n:Nat},(∀n∈ns,∃a,l[n]?=some a)->ns[i]?=some n->(adr l ns)[i]?=l[n]?
 |[],i,n,_,e=>by simp at e
 |m::r,i,n,h,e=>by
  obtain⟨a,ha⟩:=h m lJ;unfold adr;simp only[ha];cases i with
  |zero=>simp at e;subst e;simp[ha]
  |succ i=>simpa using Jq (λn hn=>h n (iz _ hn)) (by simpa using e)
theorem Jr{l:List Addr}:∀{ns:List Nat},(∀n∈ns,∃a,l[n]?=some a)->(adr l ns).length=ns.length
 |[],_=>rfl
 |m::r,h=>by
  obtain⟨a,ha⟩:=h m lJ;unfold adr;simp only[ha];rw[fX,fX,Jr (λn hn=>h n (iz _ hn))]
theorem ZG{l:List Addr}(hl:l.Nodup):∀{ns:List Nat},ns.Nodup->(∀n∈ns,∃a,l[n]?=some a)->(adr l ns).Nodup
 |[],_,_=>DR
 |m::r,hn,h=>by
  obtain⟨a,ha⟩:=h m lJ;unfold adr;simp only[ha];obtain⟨h1,h2⟩:=vH.mp hn;refine vH.mpr ⟨λz=>?_,ZG hl h2 (λn hn=>h n (iz _ hn))⟩;obtain⟨n,q1,q2⟩:=Fb z;have:m=n:=(Ql (dO.mp ha).1 hl).mp (ha.trans q2.symm);exact h1 (this▸q1)
theorem Fd{s:S}:∀{ns:List Nat} {s1:S},(dI s ns s1).length=s.length
 |[],s1=>by cases s1<;>rfl
 |n::r,[]=>rfl
 |n::r,o::q=>by
  show (dI (s.set n o) r q).length=_;rw[Fd,pK]
theorem Tf{s:S}:∀{ns:List Nat} {s1:S} {m:Nat},m∉ns->(dI s ns s1)[m]?=s[m]?
 |[],s1,m,_=>by cases s1<;>rfl
 |n::r,[],m,_=>rfl
 |n::r,o::q,m,h=>by
  show (dI (s.set n o) r q)[m]?=_;rw[Tf (λz=>h (iz _ z)),qy (λz=>h (by rw[z];exact lJ))]
theorem ZJ{s:S}:∀{ns:List Nat} {s1:S} {i m:Nat} {o:SO},ns.Nodup->ns[i]?=some m->s1[i]?=some o->m<s.length->(dI s ns s1)[m]?=some o
 |[],s1,i,m,o,_,e,_,_=>by simp at e
 |n::r,[],i,m,o,_,_,e,_=>by simp at e
 |n::r,q::qs,i,m,o,hn,e1,e2,hm=>by
  show (dI (s.set n q) r qs)[m]?=_;obtain⟨h1,h2⟩:=vH.mp hn;cases i with
  |zero=>
   simp at e1 e2;subst e1 e2;rw[Tf h1,yH hm]
  |succ i=>exact ZJ h2 (by simpa using e1) (by simpa using e2) (by rw[pK];exact hm)
theorem zgX:∀{xs:List Xv} {vs:List V} (l0:List Addr) (z:Addr->Prop) (k:Nat),aP K cA U H xs vs->U.z=z->(∀i n,(locs xs)[i]?=some n->l0[k+i]?=U.l[n]?)->aP K cA ⟨z,l0⟩ H (dX k xs) vs
 :=by
 intro xs vs l0 z k r0
 induction r0 generalizing k with
 |nil=>exact λ_ _=>.nil
 |@cons x v xs vs a q ih=>
  intro ez h;cases a with
  |d a=>exact .cons (.d (a.kE λb hb=>by rw[ez];exact hb)) (ih k ez h)
  |@l n a' a=>
   refine .cons (.l ?_) (ih (k+1) ez λi m e=>?_)
   ·have:=h 0 n rfl;rw[Nat.add_zero] at this;show l0[k]?=_;rw[this];exact a
   ·have:=h (i+1) m (by simpa [locs] using e);rw[<-this]
    congr 1
    lia
theorem zfY:∀{xs:List Xv} {vs:List V},aP K cA U H xs vs->∀n∈locs xs,∃a,U.l[n]?=some a
 :=by
 intro xs vs r0
 induction r0 with
 |nil=>exact λn h=>by cases h
 |cons a q ih=>
  intro n h;cases a with
  |d a=>exact ih n h
  |l a=>
   rcases gQ.mp h with rfl|h
   ·exact⟨_,a⟩
   ·exact ih n h
theorem ZK{xs:List Xv}{U1:Ph}{s0 s1:S}(hS:aF K cA U H s)(hn:(locs xs).Nodup)(ht:∀n∈locs xs,∃a,U.l[n]?=some a)(x:Ext ⟨U.z,adr U.l (locs xs)⟩ H U1 H')(r1:aF K cA U1 H' s1) :
  Ext U H ⟨U1.z,U.l⟩ H'/\aF K cA ⟨U1.z,U.l⟩ H' (dI s (locs xs) s1):=by
 have aq:∀a∈adr U.l (locs xs),a∈U.l:=λa ha=>by obtain⟨n,_,q⟩:=Fb ha;exact eZ q
 obtain⟨r,er,hr⟩:=x.more;have er:U1.l=adr U.l (locs xs)++r:=er;refine⟨⟨⟨[],by simp,by simp⟩,λa h=>x.rZ a h,λa h=>x.lE a h,λa o h n=>x.frame a o h λz=>n (aq a z),x.stay⟩,?_⟩;refine⟨by rw[Fd];exact hS.len,λn o a e1 e2=>?_,hS.uniq,λa ha=>x.rZ a (hS.lz a ha),r1.zt⟩;have e2:U.l[n]?=some a:=e2;by_cases dY:n∈locs xs
 ·obtain⟨i,hi,ei⟩:=yJ dY;have ei:(locs xs)[i]?=some n:=by rw[cX hi,ei]
  have ha:(adr U.l (locs xs))[i]?=some a:=by rw[Jq ht ei];exact e2
  have ZL:U1.l[i]?=some a:=by rw[er,mF (dO.mp ha).1];exact ha
  have cV:i<s1.length:=by rw[<-r1.len];exact(dO.mp ZL).1
  have hb:=ZJ (s:=s) (s1:=s1) hn ei (cX cV) (by rw[<-hS.len];exact(dO.mp e2).1);rw[hb] at e1;cases e1;exact kZ.zl (r1.obj i _ a (cX cV) ZL) _
 ·rw[Tf dY] at e1;have Ti:a∉adr U.l (locs xs):=λz=>by
   obtain⟨m,q1,q2⟩:=Fb z;have:n=m:=(Ql (dO.mp e2).1 hS.uniq).mp (e2.trans q2.symm);exact dY (this▸q1)
  exact(hS.obj n o a e1 e2).map (λ_ q=>x.frame a _ q Ti) λ_ _ r=>Rep.zl ((Rep.zl r _).mono x λa ha=>hS.lz a (aq a ha)) _
theorem ZM{F:List Xv->M Xv}{xs:List Xv}{vs:List V}{Q:VK}{EE:Nat->List D->Ph->Hp->Prop}(hS:aF K cA U H s)(r:aP K cA U H xs vs)
  (hE:∀c fs U1 U2 H',U1.z=U2.z->EE c fs U1 H'->EE c fs U2 H')
  (h:Run K cA (cP F xs) U H s (λx _ U' H'=>∀v,aV K cA U' H' x v->Q v H') (λc fs _ U' H'=>EE c fs U' H')) :
  ∃U0 s0,aP K cA U0 H (dX 0 xs) vs/\aF K cA U0 H s0/\Run K cA (F (dX 0 xs)) U0 H s0 (λx _ U' H'=>∀v,aV K cA U' H' x v->Q v H') (λc fs _ U' H'=>EE c fs U' H'):=by
 unfold Run cP at h;by_cases hn:(locs xs).Nodup
 ·simp only[if_pos hn] at h;have ht:=zfY r;have aq:∀a∈adr U.l (locs xs),a∈U.l:=λa ha=>by obtain⟨n,_,q⟩:=Fb ha;exact eZ q
  cases e0:jL s (locs xs) with
  |none=>simp only[e0] at h
  |some s0=>
   simp only[e0] at h;refine⟨⟨U.z,adr U.l (locs xs)⟩,s0,zgX _ _ 0 r rfl (λi n e=>by rw[Nat.zero_add];exact Jq ht e),?_,?_⟩
   ·refine⟨by rw[ZF e0];exact Jr ht,λi o a e1 e2=>?_,ZG hS.uniq hn ht,λa ha=>hS.lz a (aq a ha),hS.zt⟩;have e2:(adr U.l (locs xs))[i]?=some a:=e2;have hi:i<(locs xs).length:=by rw[<-Jr ht];exact(dO.mp e2).1
    have ei:(locs xs)[i]?=some ((locs xs)[i]):=cX hi;rw[Jq ht ei] at e2;rw[(ZD e0 ei).1] at e1;exact kZ.zl (hS.obj _ o a e1 e2) _
   ·unfold Run;cases e1:F (dX 0 xs) s0 with
    |none=>simp only[e1] at h
    |some q=>
     obtain⟨q,s1⟩:=q;simp only[e1] at h;cases q with
     |er c fs=>
      intro U1 H' x r1;obtain⟨x2,r2⟩:=ZK (s0:=s0) hS hn ht x r1;exact hE c fs ⟨U1.z,U.l⟩ U1 H' rfl (h ⟨U1.z,U.l⟩ H' x2 r2)
     |ok y=>
      intro U1 H' x r1 v rv;obtain⟨x2,r2⟩:=ZK (s0:=s0) hS hn ht x r1;cases y with
      |d w=>
       cases rv with
       |d rv=>exact h ⟨U1.z,U.l⟩ H' x2 r2 v (.d (Rep.zl rv _))
      |l n=>
       cases rv with
       |@l _ a hl=>
        obtain⟨rr,er,hr⟩:=x.more;have er:U1.l=adr U.l (locs xs)++rr:=er;cases em:(locs xs)[n]? with
        |some m=>
         simp only[em] at h;refine h _ H' x2 r2 _ (.l ?_);show U.l[m]?=some a;have ha:(adr U.l (locs xs))[n]?=U.l[m]?:=Jq ht em;have cV:n<(adr U.l (locs xs)).length:=by rw[Jr ht];exact(dO.mp em).1
         rw[er,mF cV] at hl;rw[<-ha];exact hl
        |none=>
         simp only[em] at h;have hge:(adr U.l (locs xs)).length<=n:=by rw[Jr ht];exact pA.mp em
         have MP:a∈rr:=by
          rw[er,nP hge] at hl;exact eZ hl
         have Ti:a∉U.l:=λz=>by
          obtain⟨o,eo⟩:=hS.zt a (hS.lz a z);rw[hr a MP] at eo;cases eo
         cases eo:s1[n]? with
         |none=>simp only[eo] at h
         |some o=>
          simp only[eo] at h;have ho:=r1.obj n o a eo hl;refine h ⟨U1.z,U.l++[a]⟩ H' ⟨⟨[a],rfl,by simpa using hr a MP⟩,x2.rZ,x2.lE,x2.frame,x2.stay⟩ ?_ _ (.l (by show (U.l++[a])[s.length]?=_;rw[<-hS.len];simp));refine⟨by show (U.l++[a]).length=_;rw[iZ,iZ,Fd,hS.len];rfl,λm o' a' e1 e2=>?_,?_,λb hb=>?_,r1.zt⟩
          ·have e2:(U.l++[a])[m]?=some a':=e2;by_cases hm:m<s.length
           ·rw[mF (by rw[Fd];exact hm)] at e1;rw[mF (by rw[hS.len];exact hm)] at e2;exact kZ.zl (r2.obj m o' a' e1 e2) _
           ·have hl2:m=s.length:=by
             have z:=(dO.mp e2).1;rw[iZ,hS.len] at z;simp at z
             lia
            subst hl2;rw[nP (by rw[Fd];exact bU _)] at e1;rw[nP (by rw[hS.len];exact bU _)] at e2;simp[Fd] at e1;simp[hS.len] at e2;subst e1 e2;exact kZ.zl ho _
          ·show (U.l++[a]).Nodup;rw[yM];refine⟨hS.uniq,by simp,λb hb c hc e=>?_⟩;simp at hc;subst hc e;exact Ti hb
          ·have hb:b∈U.l++[a]:=hb;rcases jR.mp hb with z|z
           ·exact x2.rZ b (hS.lz b z)
           ·simp at z;subst z;exact r1.lz _ (eZ hl)
 ·simp only[if_neg hn] at h
end
section
variable {X:Cx}{cA:Cl}{aq:Nat->Nat->Bool}{aj:Bool}{F:Fn}{EX:XS}{a b c d e o:Expr}{A B C Dd E' O:E}{pos pp p2 apos cpos:Pos}{es:List Expr}{Xs:Es}{fz:Bool}{p:Pr}{x:Str}{U:Ph}{H:Hp}{s:S}
theorem Tj{K:W.Frag}{β:Type}{x:Xv}{v:V}{k:Nat×List D->M β}{P:β->S->Ph->Hp->Prop}{Ee:Nat->List D->S->Ph->Hp->Prop}(hS:aF K cA U H s)(r:aV K cA U H x v)(h:Run K cA (M.bd (dh x) k) U H s P Ee) :
  ∃n ad xs vs,x=.l n/\v=.ref ad/\s[n]?=some (.lst xs)/\U.l[n]?=some ad/\H ad=some (.lst vs)/\aC K cA U H xs vs/\Run K cA (k (n,xs)) U H s P Ee:=by
 cases r with
 |d _=>exact h.elim
 |@l n ad hl=>
  unfold Run M.bd dh at h;dsimp only at h;cases e:s[n]? with
  |none=>rw[e] at h;exact h.elim
  |some o=>
   rw[e] at h;cases o with
   |lst xs=>
    obtain⟨vs,q1,q2⟩:=hS.obj n _ _ e hl;exact⟨n,ad,xs,vs,rfl,rfl,e,hl,q1,q2,h⟩
   |_=>exact h.elim
theorem zkm(ho:SE X cA aq aj F EX o O)(ha:SE X cA aq aj F EX a A)
  (n_:attributeBase o "append" X.env (eval o X.env)=eval o X.env:=by rfl)
  (Bw:((backTo cpos (starEach [a] X.env)).all (λx=>!x.1)&&(backToKw cpos (keywordEach [] X.env)).all (λx=>x.1.isSome)
  &&decide ([a].length+([]:List Keyword).length+(if ([]:List Keyword).isEmpty then 0 else 1)<30))=true:=by rfl)
  (oh:(apos.endLine==cpos.line)=true:=by rfl) (hs:starEach [a] X.env=(false,eval a X.env)::starEach [] X.env:=by rfl) (pR:(backTo cpos (starEach [] X.env)).any (·.1)=false:=by rfl) :
  SE X cA aq aj F EX (.Call (.Attribute o "append" apos) [a] [] cpos) (.push O A):=PE.weak (zo6 PySem.F.plainAttrs_list PySem.F.slot_list_append PySem.F.type_list_append Rt ho (sZ ha yX hs) n_ Bw oh hs pR) λZ H Q hh=>un hh λU J s hL hS h=>by
 refine bw hL hS h λx H1 U1 d1 s1 x1 hL1 aJ r1 h1=>?_;obtain⟨n,ad,xs,vs,rfl,rfl,e1,f1,g1,q1,h2⟩:=Tj aJ r1 h1;refine⟨.inl ⟨rfl,vs,cY.of g1⟩,bw hL1 aJ h2 λy H2 U2 d2 s2 x2 hL2 aQ r2 h3=>?_⟩;obtain⟨dd,_,rd,h4⟩:=M9 r2 h3;obtain⟨n',ad',ys,us,en,ea,e2,f2,g2,q2,h5⟩:=Tj aQ (r1.mono x2 aJ.lz) h4;cases en;cases ea;by_cases hz:ys.length<sizeLine
 ·have h5:Run X.K cA (M.bd (putL n (ys++[dd])) λ_=>M.ret (Xv.d .non)) U2 H2 s2 (λd _ U' H'=>∀v,aV X.K cA U' H' d v->Q v H') (eX X.K cA EX Z):=by
   have h6:Run X.K cA (if ys.length<sizeLine then M.bd (putL n (ys++[dd])) λ_=>M.ret (Xv.d .non) else M.no) U2 H2 s2 (λd _ U' H'=>∀v,aV X.K cA U' H' d v->Q v H') (eX X.K cA EX Z):=h5;rw[if_pos hz] at h6;exact h6
  refine⟨ad,us,y,rfl,rfl,g2,by rw[<-q2.len];exact hz,?_⟩;exact h5 U2 _ (Ext.write f2 ⟨_,g2⟩) (aQ.write e2 f2 (q2.app (.cons rd .nil))) _ (.d .non)
 ·have h6:Run X.K cA (if ys.length<sizeLine then M.bd (putL n (ys++[dd])) λ_=>M.ret (Xv.d .non) else M.no) U2 H2 s2 (λd _ U' H'=>∀v,aV X.K cA U' H' d v->Q v H') (eX X.K cA EX Z):=h5;rw[if_neg hz] at h6;exact h6.elim
noncomputable def lY(K:W.Frag)(cA:Cl)(m:List Xv->M Xv):Sp:=λvs H Q E=>∃U xs s,aP K cA U H xs vs/\aF K cA U H s/\Run K cA (m xs) U H s (λd _ U' H'=>∀v,aV K cA U' H' d v->Q v H') (λc fs _ U' H'=>∀dx,kj K cA U' H' c fs dx->E (.ref (cA.a c)) dx H')
theorem zjN{K:W.Frag}{U1 U2:Ph}{c:Nat}{fs:List D}{dx:Option Addr}(e:U1.z=U2.z)(h:kj K cA U2 H c fs dx):kj K cA U1 H c fs dx:=h.imp id λ⟨d,vs,a,b,c,l,r⟩=>⟨d,vs,a,by rw[e];exact b,c,l,r.kE λ_ z=>by rw[<-e];exact z⟩
theorem zkB{cm:Bool}{k f:Nat}{fa:Addr}{fd:FuncData}{ps:List Str}(Fo:cH X.prog X.w X.K X.mg X.base (gU X.prog X.w) cm k fa fd ps (lY X.K cA (F f)))(jF:cm=true->X.aj=true)(hr:bG k X.A)(hg:Gl X x)(hm:X.mg x=some (.ref fa))(hk:PySem.W.keepIn X.K (.ref fa)=true)(hb:Binds X.K fd ps [])(R:Raises X EX)
  (ha:SA X cA aq aj F EX (e::es) Xs) (rK:(x==("__debug__" : Str))=false:=by decide) (he:starEach (e::es) X.env=(false,eval e X.env)::starEach es X.env:=by rfl) (hpl:(backTo pos (starEach es X.env)).any (·.1)=false:=by rfl) :
  SE X cA aq aj F EX (.Call (.Name x pp) (e::es) [] pos) (.call f Xs):=PE.weak (zhM Fo jF hr hg hm hk hb R ha rK he hpl) λZ H Q hh=>un hh λU J s hL hS h=>
 qj hL hS h λvs H1 U1 ds s1 x1 hL1 aJ r1 h1=>by
  obtain⟨U0,s0,a1,a2,a3⟩:=ZM (EE:=λc fs U' H'=>∀dx,kj X.K cA U' H' c fs dx->EX Z (.ref (cA.a c)) dx H') aJ r1 (λc fs U1 U2 H' ez z dx q=>z dx (zjN ez q)) h1;exact⟨U0,_,s0,a1,a2,a3⟩
end
section
variable {K:W.Frag}{cA:Cl}{U U':Ph}{H H':Hp}{s:S}
def cM(U:Ph)(H H':Hp):Prop:=∀a o,H a=some o->¬U.z a->H' a=some o
mutual
theorem Rep.out(x:cM U H H'):∀{d:D} {v:V},Rep K cA U H d v->Rep K cA U H' d v
 |_,_,.non=>.non
 |_,_,.bl b=>.bl b
 |_,_,.int i=>.int i
 |_,_,.str z=>.str z
 |_,_,.tup h r=>.tup (h.imp (λ⟨p,n⟩=>⟨p.imp (λq=>x _ _ q n) λ⟨o,q⟩=>⟨o,x _ _ q n⟩,n⟩) id) (aC.out x r)
 |_,_,.fl h r=>.fl (h.imp (λ⟨p,n⟩=>⟨p.imp (λq=>x _ _ q n) λ⟨o,q⟩=>⟨o,x _ _ q n⟩,n⟩) id) (aC.out x r)
 |_,_,.fd h n=>.fd (x _ _ h n) n
 |_,_,.exc h r=>.exc ⟨h.1,h.2.imp (λ⟨a,b,q⟩=>⟨a,b,x _ _ q h.1⟩) λ⟨dx,p,n,q,l⟩=>⟨dx,x _ _ p h.1,n,x _ _ q n,l⟩⟩ (aC.out x r)
 |_,_,.any v=>.any v
 |_,_,.ob h r=>.ob ⟨h.1,let ⟨dx,p,l⟩:=h.2;⟨dx,x _ _ p h.1,l⟩⟩ (aC.out x r)
theorem aC.out(x:cM U H H'):∀{ds:List D} {vs:List V},aC K cA U H ds vs->aC K cA U H' ds vs
 |_,_,.nil=>.nil
 |_,_,.cons h r=>.cons (Rep.out x h) (aC.out x r)
end
theorem aV.out(x:cM U H H'){d:Xv}{v:V}(h:aV K cA U H d v):aV K cA U H' d v:=by
 cases h with
 |d h=>exact .d (h.out x)
 |l h=>exact .l h
theorem aY.out(x:cM U H H')(h:aY K cA U H Z J):aY K cA U H' Z J:=⟨h.1,λi d e=>let ⟨v,a,b⟩:=h.2 i d e;⟨v,a,b.out x⟩⟩
theorem cM.refl:cM U H H:=λa o e _=>e
structure jN(K:W.Frag)(cA:Cl)(c:Src)(U:Ph)(H:Hp)(bM:L2.It):Prop where
 stop:∀U' H₁ H' s' i,Ext U H U' H₁->cM U' H₁ H'->aF K cA U' H' s'->c.at i s'=some none->bM.stop i H'
 go:∀U' H₁ H' s' i x,Ext U H U' H₁->cM U' H₁ H'->aF K cA U' H' s'->c.at i s'=some (some x)->bM.go i H'
 ud:∀U' H₁ H' s' i x v H2,Ext U H U' H₁->cM U' H₁ H'->aF K cA U' H' s'->c.at i s'=some (some x)->bM.ud i H' v H2->bD H' H2/\Rep K cA U' H2 x v
theorem LstAt.later(hz:∀a∈U.l,U.z a)(h:LstAt K U H a vs)(x:Ext U H U' H₁)(o:cM U' H₁ H'):LstAt K U' H' a vs:=
 (h.mono x hz).imp (λ⟨p,n⟩=>⟨p.imp (λq=>o _ _ q n) λ⟨w,q⟩=>⟨w,o _ _ q n⟩,n⟩) id
theorem TupAt.later(hz:∀a∈U.l,U.z a)(h:TupAt K U H a vs)(x:Ext U H U' H₁)(o:cM U' H₁ H'):TupAt K U' H' a vs:=
 (h.mono x hz).imp (λ⟨p,n⟩=>⟨p.imp (λq=>o _ _ q n) λ⟨w,q⟩=>⟨w,o _ _ q n⟩,n⟩) id
theorem jN.list(hz:∀a∈U.l,U.z a)(h:LstAt K U H a vs)(r:aC K cA U H xs vs):jN K cA (.fix xs) U H (Ml K a):=by
 refine⟨λU' H₁ H' s' i x o hS e=>⟨vs,(h.later hz x o).tH,?_⟩,λU' H₁ H' s' i d x o hS e=>?_,λU' H₁ H' s' i d v H2 x o hS e y=>?_⟩
 ·have e:xs[i]?=none:=cR e;exact pA.mp ((r.mono x hz).none e)
 ·have e:xs[i]?=some d:=cR e;obtain⟨v,q,_⟩:=r.get e;exact⟨vs,v,(h.later hz x o).tH,q⟩
 ·have e:xs[i]?=some d:=cR e;obtain⟨rfl,y⟩:=y;obtain⟨w,q,lu⟩:=((r.mono x hz).out o).get e;have:=y vs (h.later hz x o).tH;rw[q] at this;cases this;exact⟨bD.refl,lu⟩
theorem jN.tuple(hz:∀a∈U.l,U.z a)(h:TupAt K U H a vs)(r:aC K cA U H xs vs):jN K cA (.fix xs) U H (QW K a):=by
 refine⟨λU' H₁ H' s' i x o hS e=>⟨vs,(h.later hz x o).ju,?_⟩,λU' H₁ H' s' i d x o hS e=>?_,λU' H₁ H' s' i d v H2 x o hS e y=>?_⟩
 ·have e:xs[i]?=none:=cR e;exact pA.mp ((r.mono x hz).none e)
 ·have e:xs[i]?=some d:=cR e;obtain⟨v,q,_⟩:=r.get e;exact⟨vs,v,(h.later hz x o).ju,q⟩
 ·have e:xs[i]?=some d:=cR e;obtain⟨rfl,y⟩:=y;obtain⟨w,q,lu⟩:=((r.mono x hz).out o).get e;have:=y vs (h.later hz x o).ju;rw[q] at this;cases this;exact⟨bD.refl,lu⟩
theorem Tn(h:(Src.live n).at i s=some o):∃xs,s[n]?=some (.lst xs)/\xs[i]?=o:=by
 unfold Src.at at h;dsimp only at h;cases e:s[n]? with
 |none=>rw[e] at h;cases h
 |some ob=>
  rw[e] at h;cases ob with
  |lst xs=>exact⟨xs,rfl,cR h⟩
  |_=>cases h
theorem jN.live(h:U.l[n]?=some a):jN K cA (.live n) U H (Ml K a):=by
 refine⟨λU' H₁ H' s' i x o hS e=>?_,λU' H₁ H' s' i d x o hS e=>?_,λU' H₁ H' s' i d v H2 x o hS e y=>?_⟩
 ·obtain⟨xs,e1,e2⟩:=Tn e;obtain⟨vs,q1,q2⟩:=hS.obj n _ a e1 (x.get h);exact⟨vs,cY.of q1,pA.mp (q2.none e2)⟩
 ·obtain⟨xs,e1,e2⟩:=Tn e;obtain⟨vs,q1,q2⟩:=hS.obj n _ a e1 (x.get h);obtain⟨v,q3,_⟩:=q2.get e2;exact⟨vs,v,cY.of q1,q3⟩
 ·obtain⟨xs,e1,e2⟩:=Tn e;obtain⟨vs,q1,q2⟩:=hS.obj n _ a e1 (x.get h);obtain⟨w,q3,lu⟩:=q2.get e2;obtain⟨rfl,y⟩:=y;have:=y vs (cY.of q1);rw[q3] at this;cases this;exact⟨bD.refl,lu⟩
theorem Tq:(jK a b)[i]?=if i<(b-a).toNat then some (.int (a+i)) else none:=by
 unfold jK;rw[fQ,List.getElem?_range']
where
 List.getElem?_range' {n i:Nat}:Option.map (λ(i:Nat)=>D.int (a+i)) (List.range n)[i]?=if i<n then some (.int (a+i)) else none:=by
  by_cases h:i<n
  ·rw[if_pos h,Dr h];rfl
  ·rw[if_neg h,List.getElem?_eq_none (by simp;lia)];rfl
theorem jN.range{a b:Int}:jN K cA (.fix (jK a b)) U H (Hq a (b-a).toNat):=by
 refine⟨λU' H₁ H' s' i x o hS e=>?_,λU' H₁ H' s' i d x o hS e=>?_,λU' H₁ H' s' i d v H2 x o hS e y=>?_⟩
 ·have e:(jK a b)[i]?=none:=cR e;rw[Tq] at e;split at e
  ·cases e
  ·exact Lj (by assumption)
 ·have e:(jK a b)[i]?=some d:=cR e;rw[Tq] at e;split at e
  ·assumption
  ·cases e
 ·have e:(jK a b)[i]?=some d:=cR e;rw[Tq] at e;split at e
  ·cases e;obtain⟨rfl,rfl⟩:=y;exact⟨bD.refl,.int _⟩
  ·cases e
end
noncomputable def Tr(K:W.Frag)(te:TE):TI:=λZ H R=>te Z H λv H1=>∃a,v=.ref a/\(((∃xs,cY K H1 a xs)/\R (Ml K a) H1)\/((∃xs,fZ K H1 a xs)/\R (QW K a) H1))
theorem znG(he:PE X l te):PI X tg l (Tr X.K te):=by
 intro ao s Z H R I h;refine aW (he ao s Z H _ I h) λv s1 hx=>Qn hx λx H1 I1 r1 a e q=>?_;subst e;cases r1;rcases q with ⟨⟨xs,hq⟩,q⟩|⟨⟨xs,hq⟩,q⟩
 ·obtain⟨its,rv,p,hz⟩:=I1.list hq;refine Gs p.isList ?_;refine⟨s1.heap.objs.size,[s1.heap.objs.size],_,_,H1,rfl,I1.kept (t':=s1.toks) λb o e=>cU _ e,zhc a _,⟨_,fO _ rfl,rfl,rfl⟩,λb hb=>?_,q⟩;have e:b=s1.heap.objs.size:=by simpa using hb
  subst e;exact I1.uf (bU _) (I1.hok.fresh (bU _))
 ·obtain⟨its,rv,p,hz⟩:=I1.tuple hq;refine wpAny_pyIter_tuple (show s1.heap.IsTuple a its.toArray from p) ?_;refine⟨s1.heap.objs.size,[s1.heap.objs.size],_,_,H1,rfl,I1.kept (t':=s1.toks) λb o e=>cU _ e,zfq a _,⟨_,fO _ rfl,rfl,rfl⟩,λb hb=>?_,q⟩;have e:b=s1.heap.objs.size:=by simpa using hb
  subst e;exact I1.uf (bU _) (I1.hok.fresh (bU _))
section
variable {X:Cx}{cA:Cl}{aq:Nat->Nat->Bool}{aj:Bool}{F:Fn}{EX:XS}{a b tg:Expr}{A B:E}{pos pp:Pos}
noncomputable def tI(K:W.Frag)(cA:Cl)(EX:XS)(m:Vs->M (Src×Nat)):TI:=λZ H R=>∃U J s,aY K cA U H Z J/\aF K cA U H s/\Run K cA (m J) U H s (λcn _ U1 H1=>∀bM,jN K cA cn.1 U1 H1 bM->R bM H1) (eX K cA EX Z)
def SI(X:Cx)(cA:Cl)(aq:Nat->Nat->Bool)(aj:Bool)(F:Fn)(EX:XS)(tg iter:Expr)(w:Wk):Prop:=PI X tg iter (tI X.K cA EX (iB aq aj F w))
theorem PI.weak{iter:Expr}{t t':TI}(h:PI X tg iter t)(f:∀Z H Q,t' Z H Q->t Z H Q):PI X tg iter t':=λao s Z H Q I q=>h ao s Z H Q I (f Z H Q q)
theorem zlC(ha:SE X cA aq aj F EX a A):SI X cA aq aj F EX tg a (.seq A):=PI.weak (znG ha) λZ H R hh=>un hh λU J s hL hS h=>by
 refine bw hL hS h λv H1 U1 d s1 x1 hL1 aJ r1 h1=>?_;cases r1 with
 |@l n ad hl=>
  unfold Run src at h1;dsimp only at h1;cases e:s1[n]? with
  |none=>rw[e] at h1;exact h1.elim
  |some o=>
   rw[e] at h1;cases o with
   |lst xs=>
    obtain⟨vs,q1,q2⟩:=aJ.obj n _ _ e hl;exact⟨ad,rfl,.inl ⟨⟨vs,cY.of q1⟩,h1 U1 H1 Ext.refl aJ _ (jN.live hl)⟩⟩
   |_=>exact h1.elim
 |d r1=>
  cases r1 with
  |tup q r=>exact⟨_,rfl,.inr ⟨⟨_,q.ju⟩,h1 U1 H1 Ext.refl aJ _ (jN.tuple aJ.lz q r)⟩⟩
  |fl q r=>exact⟨_,rfl,.inl ⟨⟨_,q.tH⟩,h1 U1 H1 Ext.refl aJ _ (jN.list aJ.lz q r)⟩⟩
  |_=>exact h1.elim
theorem ZP{i:Int}(h:gw i=true) : -(2^62)<=i/\i<2^62:=by
 unfold gw at h;rw[g8,Gu,Gu] at h;exact⟨by lia,h.2⟩
theorem ZQ{K:W.Frag}{U:Ph}{H:Hp}{s:S}{i j:Int}{P:Src×Nat->S->Ph->Hp->Prop}{Ee:Nat->List D->S->Ph->Hp->Prop}(hS:aF K cA U H s)(h:Run K cA (if (gw i&&gw j)=true then M.ret (Src.fix (jK i j),(jK i j).length) else M.no) U H s P Ee):(-(2^62)<=i/\i<2^62/\-(2^62)<=j/\j<2^62)/\P (.fix (jK i j),(jK i j).length) s U H:=by
 by_cases hk:(gw i&&gw j)=true
 ·rw[if_pos hk] at h;rw[g8] at hk;obtain⟨a,b⟩:=ZP hk.1;obtain⟨c,d⟩:=ZP hk.2;exact⟨⟨a,b,c,d⟩,h.bN hS⟩
 ·rw[if_neg hk] at h;exact h.elim
theorem zoS(oO:Gl X "range")(hmg:X.mg "range"=none)(ha:SE X cA aq aj F EX a A)(hb:SE X cA aq aj F EX b B)(h1:starEach [a,b] X.env=(false,eval a X.env)::starEach [b] X.env)(h2:starEach [b] X.env=(false,eval b X.env)::starEach [] X.env) :
  SI X cA aq aj F EX tg (.Call (.Name "range" pp) [a,b] [] pos) (.rg A B):=PI.weak (zg2 oO hmg (sZ ha (sZ hb yX h2) h1) (by rw[h1,h2];rfl) (by rw[h2];rfl)) λZ H R hh=>un hh λU J s hL hS h=>by
 refine bw hL hS h λx H1 U1 d1 s1 x1 hL1 aJ r1 h1=>bw hL1 aJ h1 λy H2 U2 d2 s2 x2 hL2 aQ r2 h2=>?_;obtain⟨i,_,e1,h3⟩:=Jg (r1.mono x2 aJ.lz) h2;obtain⟨j,_,e2,h4⟩:=Jg r2 h3;obtain⟨hz,q⟩:=ZQ aQ h4;subst e1 e2;exact⟨i,j,rfl,hz,q _ jN.range⟩
theorem zmJ(oO:Gl X "range")(hmg:X.mg "range"=none)(hb:SE X cA aq aj F EX b B)(h2:starEach [b] X.env=(false,eval b X.env)::starEach [] X.env) :
  SI X cA aq aj F EX tg (.Call (.Name "range" pp) [b] [] pos) (.rg (.c (.int 0)) B):=PI.weak (zgV oO hmg (sZ hb yX h2) (by rw[h2];rfl)) λZ H R hh=>un hh λU J s hL hS h=>by
 have h:Run X.K cA (M.bd (ev aq aj F B J) λy=>M.bd (int (.d (.int 0))) λi=>M.bd (int y) λj=>if (gw i&&gw j)=true then M.ret (Src.fix (jK i j),(jK i j).length) else M.no) U H s _ _:=h;refine bw hL hS h λy H2 U2 d2 s2 x2 hL2 aQ r2 h2=>?_;obtain⟨j,_,e2,h4⟩:=Jg r2 (show Run X.K cA (M.bd (int d2) λj=>if (gw 0&&gw j)=true then M.ret (Src.fix (jK 0 j),(jK 0 j).length) else M.no) U2 H2 s2 _ _ from h2);obtain⟨hz,q⟩:=ZQ aQ h4;subst e2;refine⟨j,rfl,hz.2.2.1,hz.2.2.2,q _ ?_⟩;have:=jN.range (K:=X.K) (cA:=cA) (U:=U2) (H:=H2) (a:=0) (b:=j);rw[Int.sub_zero] at this;exact this
end
section
variable {K:W.Frag}{cA:Cl}{U U' U0:Ph}{H H' H0:Hp}{s:S}
theorem Run.bd0(x:Ext U0 H0 U H)(h:Run K cA (M.bd m k) U0 H0 s P Ee) :
  Run K cA m U H s (λa s1 U1 H1=>Ext U H U1 H1/\aF K cA U1 H1 s1/\Run K cA (k a) U0 H0 s1 P Ee) Ee:=by
 unfold Run M.bd at *;cases e:m s with
 |none=>rw[e] at h;exact h
 |some r=>
  obtain⟨r,s1⟩:=r;rw[e] at h;cases r with
  |er c f=>exact λU1 H1 x1 r1=>h U1 H1 (x.trans x1) r1
  |ok a=>exact λU1 H1 x1 r1=>⟨x1,r1,h⟩
theorem Js{α β:Type}{m:M α}{k:α->M β}{P:β->S->Ph->Hp->Prop}{Ee Ee':Nat->List D->S->Ph->Hp->Prop}(x:Ext U0 H0 U H)(h:Run K cA (M.bd (M.qt m) k) U0 H0 s P Ee) :
  Run K cA m U H s (λa s1 U1 H1=>Ext U H U1 H1/\aF K cA U1 H1 s1/\Run K cA (k a) U0 H0 s1 P Ee) Ee':=by
 have h2:=h.bd0 x;unfold Run at h2 ⊢;unfold M.qt at h2;cases e:m s with
 |none=>rw[e] at h2;exact h2
 |some r=>
  obtain⟨r,s1⟩:=r;rw[e] at h2;cases r with
  |ok a=>exact h2
  |er c f=>exact h2.elim
theorem Tt{α β:Type}{m m':M α}{k:α->M β}{P:β->S->Ph->Hp->Prop}{Ee:Nat->List D->S->Ph->Hp->Prop}(e:m s=m' s)(h:Run K cA (M.bd m k) U H s P Ee):Run K cA (M.bd m' k) U H s P Ee:=by
 unfold Run M.bd at *;rw[<-e];exact h
end
section
variable {X:Cx}{cA:Cl}{aq:Nat->Nat->Bool}{aj:Bool}{F:Fn}{EX:XS}{elt iter tg:Expr}{A B:E}{pos p:Pos}{ifs:List Expr}{scope:Scope}{N:List Str}{cond:Eo}{fr aN:List Nat}{many:Nat}{fz:Bool}{w:Wk}
def Fe(X:Cx)(cA:Cl)(aq:Nat->Nat->Bool)(aj:Bool)(F:Fn)(EX:XS)(ifs:List Expr)(m:Eo):Prop:=Ep X ifs (qW X.K cA EX (m9 aq aj F m))
theorem zmU:Fe X cA aq aj F EX [] .no:=λao s Z H Q I ⟨U,J,st,hL,hS,h⟩=>zkf ao s Z H Q I (h.bN hS)
theorem zj4(h:ST X cA aq aj F EX c C):Fe X cA aq aj F EX [c] (.yes C):=zk8 h
structure gB(K:W.Frag)(cA:Cl)(g:TG)(aN:List Nat):Prop where
 run:∀(U:Ph) (H:Hp) (s:S) (Z:L2.St) (J J':Vs) (d:D) (v:V) (Q:L2.St->Hp->Prop),aY K cA U H Z J->aF K cA U H s->Rep K cA U H d v->dj aN d J=some J'->
  (∀Z',aY K cA U H Z' J'->Z'.length=Z.length->(∀i,i∉aN->Z'[i]?=Z[i]?)->Q Z' H)->g v Z H Q
theorem lZ{K:W.Frag}(i:Nat):gB K cA (dW i) [i] where
 run:=λU H s Z J J' d v Q hL hS r e k=>by
  cases e;exact k _ (hL.set (.d r)) (pK ..) λj hj=>qy (by simpa using λz=>hj (by simp[z]))
theorem Jt{K:W.Frag}(i j:Nat):gB K cA (t_ K 2 (iH (dW i) (iH (dW j) tZ))) [i,j] where
 run:=λU H s Z J J' d v Q hL hS r e k=>by
  have e:(j_ d).bind (λds=>gA [i,j] (ds.map Xv.d) J)=some J':=e;obtain⟨ds,e1,e2⟩:=Ae.mp e;cases r with
  |@tup ad xs vs h1 h2=>
   have e1:xs=ds:=cR e1;subst e1;cases h2 with
   |nil=>cases e2
   |cons r1 t1=>
    cases t1 with
    |nil=>cases e2
    |cons r2 t2=>
     cases t2 with
     |nil=>
      have e2:=cR e2;subst e2;refine⟨ad,_,rfl,h1.ju,rfl,_,_,rfl,_,_,rfl,rfl,k _ ((hL.set (.d r1)).set (.d r2)) (by rw[pK,pK]) λm hm=>?_⟩;rw[qy (λz=>hm (by simp[z])),qy (λz=>hm (by simp[z]))]
     |cons r3 t3=>cases e2
  |_=>cases e1
noncomputable def bI(many:Nat)(fr:List Nat)(Z:L2.St):L2.St:=List.replicate many none++fr.map λj=>(Z[j]?).join
theorem ZR{U:Ph}{H:Hp}{Z:L2.St}{J:Vs}(hL:aY X.K cA U H Z J){Z':L2.St}(hl:Z'.length=many+fr.length)(hf:∀(i:Nat) j v,fr[i]?=some j->Z[j]?=some (some v)->Z'[many+i]?=some (some v)):aY X.K cA U H Z' (blk many fr J):=by
 refine⟨by unfold blk;simp[hl],λi d e=>?_⟩;unfold blk at e;by_cases hi:i<many
 ·rw[mF (by simpa using hi),Ad,if_pos hi] at e;cases e
 ·rw[nP (by simpa using Lj hi),Gi,fQ] at e;cases z:fr[i-many]? with
  |none=>rw[z] at e;cases e
  |some j=>
   rw[z] at e;have e3:J[j]?.join=some d:=by simpa using e
   obtain⟨v,q1,q2⟩:=hL.2 j d (S6 e3);refine⟨v,?_,q2⟩;have:=hf (i-many) j v z q1;rw[show many+(i-many)=i by omega] at this;exact this
structure fL(U:Ph)(H:Hp)(Dd:Addr)(o:HO):Prop where
 at_:H Dd=some o
 nl:Dd∉U.l
 z:U.z Dd
abbrev Keep(U:Ph)(H:Hp)(Dd:Addr)(vs:List V):Prop:=fL U H Dd (.lst vs)
theorem fL.mono{U U':Ph}{H H':Hp}{Dd:Addr}{o:HO}(x:Ext U H U' H')(k:fL U H Dd o):fL U' H' Dd o:=by
 refine⟨x.frame _ _ k.at_ k.nl,λz=>?_,x.rZ _ k.z⟩;obtain⟨r,er,hr⟩:=x.more;rw[er] at z;rcases jR.mp z with z|z
 ·exact k.nl z
 ·have:=hr _ z;rw[k.at_] at this;cases this
theorem fL.ext{U:Ph}{H:Hp}{Dd:Addr}{o u:HO}(k:fL U H Dd o):(∀a o,H a=some o->¬U.z a->(upd H Dd u) a=some o)/\fL U (upd H Dd u) Dd u:=
 ⟨λa o e n=>by rw[dD (λz=>n (by rw[z];exact k.z))];exact e,jT,k.nl,k.z⟩
end
section
variable {K:W.Frag}{cA:Cl}{U U':Ph}{H H':Hp}
theorem aF.keep{s:S}{Dd:Addr}{o u:HO}(h:aF K cA U H s)(k:fL U H Dd o):aF K cA U (upd H Dd u) s:=by
 have x:cM U H (upd H Dd u):=k.ext.1;refine⟨h.len,λn o a e1 e2=>?_,h.uniq,h.lz,λa z=>?_⟩
 ·have na:a≠Dd:=λy=>k.nl (by rw[<-y];exact eZ e2);exact(h.obj n o a e1 e2).map (λ_ q=>by rw[dD na];exact q) λ_ _ r=>r.out x
 ·by_cases e:a=Dd
  ·subst e;exact⟨_,jT⟩
  ·obtain⟨o,q⟩:=h.zt a z;exact⟨o,by rw[dD e];exact q⟩
theorem Ext.keep{U1:Ph}{H1:Hp}{Dd:Addr}{vs:List V}{u:HO}(x:Ext U1 H1 U H)(hD:H1 Dd=none):Ext U1 H1 U (upd H Dd u):=by
 refine⟨x.more,x.rZ,x.lE,λa o h n=>?_,λa o h=>?_⟩
 ·rw[dD (λz=>by rw[z,hD] at h;cases h)];exact x.frame a o h n
 ·rw[dD (λz=>by rw[z,hD] at h;cases h)];exact x.stay a o h
theorem ZS{U1:Ph}{H1:Hp}{s':S}{fz:Bool}{acc:List D}{vs:List V}{Dd:Addr}{Q:VK}{Ee:Nat->List D->S->Ph->Hp->Prop}(h:Run K cA (newL fz acc) U1 H1 s' (λd _ U' H'=>∀v,aV K cA U' H' d v->Q v H') Ee)
  (x2:Ext U1 H1 U' H') (hD:H1 Dd=none) (nz:¬U1.z Dd) (aQ:aF K cA U' H' s') (k:Keep U' H' Dd vs) (pH:aC K cA U' H' acc vs):Q (.ref Dd) H':=by
 cases fz with
 |true=>
  have zq:∀a,(λa=>U'.z a/\a≠Dd) a->U'.z a:=λa z=>z.1;refine h ⟨λa=>U'.z a/\a≠Dd,U'.l⟩ H' ⟨x2.more,λa z=>⟨x2.rZ a z,λe=>nz (by rw[<-e];exact z)⟩,λa z=>x2.lE a z.1,x2.frame,x2.stay⟩ ?_ _ (.d (.fl (.inl ⟨.inl k.at_,λz=>z.2 rfl⟩) (aC.kE (U:=U') zq pH)));refine⟨aQ.len,λn o a e1 e2=>kZ.kE (U:=U') zq (aQ.obj n o a e1 e2),aQ.uniq,λa ha=>⟨aQ.lz a ha,λe=>k.nl (by rw[<-e];exact ha)⟩,λa z=>aQ.zt a z.1⟩
 |false=>
  obtain⟨r,er,hr⟩:=x2.more;refine h ⟨U'.z,U'.l++[Dd]⟩ H' ⟨⟨r++[Dd],by show U'.l++[Dd]=_;rw[er,yL],λb hb=>?_⟩,x2.rZ,x2.lE,x2.frame,x2.stay⟩ ?_ _ (.l (by show (U'.l++[Dd])[s'.length]?=_;rw[<-aQ.len];simp))
  ·rcases jR.mp hb with z|z
   ·exact hr b z
   ·simp at z;subst z;exact hD
  ·refine⟨by show (U'.l++[Dd]).length=_;rw[iZ,iZ,aQ.len];rfl,λm o' a' e1 e2=>?_,?_,λb hb=>?_,aQ.zt⟩
   ·have e2:(U'.l++[Dd])[m]?=some a':=e2;by_cases hm:m<s'.length
    ·rw[mF hm] at e1;rw[mF (by rw[aQ.len];exact hm)] at e2;exact kZ.zl (aQ.obj m o' a' e1 e2) _
    ·have hl2:m=s'.length:=by
      have z:=(dO.mp e2).1;rw[iZ,aQ.len] at z;simp at z;omega
     subst hl2;rw[nP (bU _)] at e1;rw[nP (by rw[aQ.len];exact bU _)] at e2;simp at e1;simp[aQ.len] at e2;subst e1 e2;exact⟨vs,k.at_,aC.zl pH _⟩
   ·show (U'.l++[Dd]).Nodup;rw[yM];refine⟨aQ.uniq,by simp,λb hb c hc e=>?_⟩;simp at hc;subst hc e;exact k.nl hb
   ·have hb:b∈U'.l++[Dd]:=hb;rcases jR.mp hb with z|z
    ·exact aQ.lz b z
    ·simp at z;subst z;exact k.z
noncomputable def Ph.mark(U:Ph)(p:Addr):Ph:=⟨λa=>U.z a\/a=p,U.l⟩
theorem ZV{s:S}{p:Addr}(hS:aF K cA U H s)(hp:H p=none):Ext U H (U.mark p) (upd H p (.lst []))/\aF K cA (U.mark p) (upd H p (.lst [])) s/\Keep (U.mark p) (upd H p (.lst [])) p []:=by
 have g:=bD.new (o:=.lst []) hp;have nz:=hS.nz hp;refine⟨⟨⟨[],by simp[Ph.mark],by simp⟩,λa z=>.inl z,λa z=>z.imp id λe=>by rw[e];exact hp,λa o h _=>g a o h,λa o h=>⟨o,g a o h⟩⟩,⟨hS.len,λn o a e1 e2=>?_,hS.uniq,λa ha=>.inl (hS.lz a ha),λa z=>?_⟩,jT,λz=>nz (hS.lz p z),.inr rfl⟩
 ·have x:Ext U H (U.mark p) (upd H p (.lst [])):=⟨⟨[],by simp[Ph.mark],by simp⟩,λa z=>.inl z,λa z=>z.imp id λe=>by rw[e];exact hp,λa o h _=>g a o h,λa o h=>⟨o,g a o h⟩⟩;exact(hS.obj n o a e1 e2).map (g _) λ_ _ r=>r.mono x hS.lz
 ·rcases z with z|z
  ·obtain⟨o,e⟩:=hS.zt a z;exact⟨o,g _ _ e⟩
  ·subst z;exact⟨_,jT⟩
end
section
variable {X:Cx}{cA:Cl}{aq:Nat->Nat->Bool}{aj:Bool}{F:Fn}{EX:XS}{elt iter tg:Expr}{A B:E}{pos p:Pos}{ifs:List Expr}{scope:Scope}{N:List Str}{cond:Eo}{fr aN:List Nat}{many:Nat}{fz:Bool}{w:Wk}
noncomputable abbrev bW(aq:Nat->Nat->Bool)(aj:Bool)(F:Fn)(B:E)(cond:Eo)(aN:List Nat)(Jb:Vs):D->List D->M (List D):=λd acc=>M.bd (M.opt (dj aN d Jb)) λJ'=>M.bd (M.qt (m9 aq aj F cond J')) λok=>
    if ok=true then M.bd (M.qt (ev aq aj F B J')) λy=>M.bd (dat y) λe=>if acc.length<sizeLine then M.ret (acc++[e]) else M.no else M.ret acc
theorem Fg{H:Hp}{a:Addr}{o:HO}(h:H a=some o):upd H a o=H:=funext λb=>by
 by_cases z:b=a
 ·subst z;rw[jT,h]
 ·rw[dD z]
theorem zh4{K:W.Frag}{g:TG}{U1 U':Ph}{H1 H2:Hp}{s':S}{Z':L2.St}{Jb:Vs}{Dd:Addr}{acc:List D}{vs:List V}{xi:D}{v:V}{β:Type}{kk:List D->M β}{P:β->S->Ph->Hp->Prop}{Ee:Nat->List D->S->Ph->Hp->Prop}(hT:gB K cA g aN)(dY:∀i∈aN,i<many)
  (hD:H1 Dd=none) (x2:Ext U1 H1 U' H2) (hL2:aY K cA U' H2 Z' Jb) (aQ:aF K cA U' H2 s') (kp:Keep U' H2 Dd vs) (pH:aC K cA U' H2 acc vs) (rx:Rep K cA U' H2 xi v)
  (h:Run K cA (M.bd (bW aq aj F B cond aN Jb xi acc) kk) U1 H1 s' P Ee) {Nn:L2.St->Hp->Prop}
  (hN:∀Z3 H3 U3 s3 nq xR,Z3.length=Z'.length->(∀i,many<=i->Z3[i]?=Z'[i]?)->Ext U1 H1 U3 H3->Ext U' H2 U3 (upd H3 Dd (.lst vs))->aF K cA U3 H3 s3->Keep U3 H3 Dd xR->aC K cA U3 H3 nq xR->Run K cA (kk nq) U1 H1 s3 P Ee->Nn Z3 H3) :
  g v Z' H2 λZ3 H3=>qW K cA (λ_ _ _ _=>False) (m9 aq aj F cond) Z3 H3 λok H4=>
   if ok=true then tE K cA (λ_ _ _ _=>False) (ev aq aj F B) Z3 H4 λy H5=>∃ys,H5 Dd=some (.lst ys)/\ys.length<sizeLine/\Nn Z3 (upd H5 Dd (.lst (ys++[y]))) else Nn Z3 H4:=by
 unfold bW at h;rw[gM] at h;obtain⟨J',e1,h1⟩:=Ey h;refine hT.run U' H2 s' Z' Jb J' xi v _ hL2 aQ rx e1 λZ3 oN zJ Fj=>?_;rw[gM] at h1;have kf:∀i,many<=i->Z3[i]?=Z'[i]?:=λi hi=>Fj i λz=>absurd (dY i z) (DY.mpr hi);refine⟨U',J',s',oN,aQ,(Js x2 h1).imp λok s4 U4 H4 ⟨x4,qX,h6⟩=>?_⟩;cases ok with
 |false=>
  refine iF (hN Z3 H4 U4 s4 acc vs zJ kf (x2.trans x4) (by rw[Fg (kp.mono x4).at_];exact x4) qX (kp.mono x4) (pH.mono x4 aQ.lz) ?_);rw[if_neg (by decide)] at h6;exact h6
 |true=>
  rw[if_pos rfl,gM] at h6;refine iT ⟨U4,J',s4,oN.mono x4 aQ.lz,qX,(Js (x2.trans x4) h6).imp λy s5 U5 H5 ⟨x5,Ju,h7⟩ u ru=>?_⟩;rw[gM] at h7;have k5:=(kp.mono x4).mono x5;have r5:=(pH.mono x4 aQ.lz).mono x5 qX.lz;have Tv:=(x2.trans x4).trans x5;obtain⟨dd,ey,rd,h8⟩ : ∃d,y=.d d/\Rep K cA U5 H5 d u/\Run K cA (M.bd (if acc.length<sizeLine then M.ret (acc++[d]) else M.no) kk) U1 H1 s5 P Ee:=by
   cases ru with
   |l _=>exact h7.elim
   |d r=>exact⟨_,rfl,r,h7⟩
  by_cases hz:acc.length<sizeLine
  ·rw[if_pos hz] at h8;refine⟨vs,k5.at_,by rw[<-r5.len];exact hz,?_⟩;have ox:cM U5 H5 (upd H5 Dd (.lst (vs++[u]))):=k5.ext.1;exact hN Z3 _ U5 s5 (acc++[dd]) (vs++[u]) zJ kf (Ext.keep (vs:=vs) Tv hD) (by rw[Xz,Fg k5.at_];exact x4.trans x5) (Ju.keep k5) k5.ext.2 ((r5.app (.cons rd .nil)).out ox) h8
  ·rw[if_neg hz] at h8;exact h8.elim
theorem ZW{g:TG}{iter':Expr}(hT:gB X.K cA g aN)(dY:∀i∈aN,i<many){Z:L2.St}{H:Hp}{Q:VK}(hh:tE X.K cA EX (ev aq aj F (.comp fz B aN w fr many cond)) Z H Q) :
  ux (tI X.K cA EX (iB aq aj F w)) (bI many fr) g (qW X.K cA (λ_ _ _ _=>False) (m9 aq aj F cond)) (tE X.K cA (λ_ _ _ _=>False) (ev aq aj F B)) Z H Q:=un hh λU J s hL hS h=>by
 by_cases dJ:aj=true
 ·have h:Run X.K cA (if aj=true then M.bd (iB aq aj F w J) λcn=>M.bd (walk cn.1 (bW aq aj F B cond aN (blk many fr J)) (cn.2+1) 0 []) λxs=>newL fz xs else M.no) U H s (λd _ U' H'=>∀v,aV X.K cA U' H' d v->Q v H') (eX X.K cA EX Z):=h;rw[if_pos dJ] at h;refine⟨U,J,s,hL,hS,h.bd.imp λcn s1 U1 H1 ⟨x1,aJ,h1⟩ bM hJ=>?_⟩;have hL1:=hL.mono x1 hS.lz;obtain⟨c,n⟩:=cn;dsimp only at h1 hJ;intro Dd hD;obtain⟨x0,Tw,k0⟩:=ZV aJ hD;have Cw:∀{Z':L2.St},(Z'.length=many+fr.length/\∀i,many<=i->Z'[i]?=(bI many fr Z)[i]?)->∀{U' H'},Ext U1 H1 U' H'->aY X.K cA U' H' Z' (blk many fr J):=λ{Z'} hZ {U' H'} x=>ZR (hL1.mono x aJ.lz) hZ.1 λi j v e1 e2=>by
   rw[hZ.2 _ (by omega)];unfold bI;rw[nP (by simp),Gi,fQ,show many+i-many=i by omega,e1];simp[e2]
  refine⟨λi m Z' H'=>m=n+1-i/\(Z'.length=many+fr.length/\∀i,many<=i->Z'[i]?=(bI many fr Z)[i]?)/\∃U' s' acc vs,Ext U1 H1 U' H'/\aF X.K cA U' H' s'/\Keep U' H' Dd vs/\aC X.K cA U' H' acc vs /\
   Run X.K cA (M.bd (walk c (bW aq aj F B cond aN (blk many fr J)) (n+1-i) i acc) λxs=>newL fz xs) U1 H1 s' (λd _ U' H'=>∀v,aV X.K cA U' H' d v->Q v H') (eX X.K cA EX Z),⟨n+1,rfl,⟨by simp[bI],λi _=>rfl⟩,U1.mark Dd,s1,[],[],x0,Tw,k0,.nil,h1⟩,?_⟩
  rintro i m Z' H' ⟨rfl,hZ,U',s',acc,vs,x2,aQ,kp,pH,h3⟩;have hL2:=Cw hZ x2;cases ek:n+1-i with
  |zero=>rw[ek] at h3;exact h3.elim
  |succ k=>
   rw[ek] at h3;cases ei:c.at i s' with
   |none=>
    exfalso
    unfold Run M.bd walk at h3;simp only[ei] at h3
   |some oi=>
    cases oi with
    |none=>
     refine .inl ⟨hJ.stop U' H' H' s' i x2 cM.refl aQ ei,?_⟩;have h4:Run X.K cA (newL fz acc) U1 H1 s' (λd _ U' H'=>∀v,aV X.K cA U' H' d v->Q v H') (eX X.K cA EX Z):=by
      unfold Run M.bd walk at h3;simp only[ei] at h3;exact h3
     exact ZS h4 x2 hD (aJ.nz hD) aQ kp pH
    |some xi=>
     refine .inr ⟨hJ.go U' H' H' s' i xi x2 cM.refl aQ ei,λZ2 H2=>(Z2.length=many+fr.length/\∀i,many<=i->Z2[i]?=(bI many fr Z)[i]?)/\∃U' s' acc vs,Ext U1 H1 U' H2/\aF X.K cA U' H2 s'/\Keep U' H2 Dd vs/\aC X.K cA U' H2 acc vs /\
      Run X.K cA (M.bd (walk c (bW aq aj F B cond aN (blk many fr J)) k (i+1) acc) λxs=>newL fz xs) U1 H1 s' (λd _ U' H'=>∀v,aV X.K cA U' H' d v->Q v H') (eX X.K cA EX Z),λZ2 H2 hn=>⟨k,by omega,by omega,hn.1,?_⟩,λv H2 hy=>?_⟩
     ·have:n+1-(i+1)=k:=by omega
      rw[this];exact hn.2
     ·obtain⟨gr,rx⟩:=hJ.ud U' H' H' s' i xi v H2 x2 cM.refl aQ ei hy;have h4:Run X.K cA (M.bd (bW aq aj F B cond aN (blk many fr J) xi acc) λacc'=>M.bd (walk c (bW aq aj F B cond aN (blk many fr J)) k (i+1) acc') λxs=>newL fz xs) U1 H1 s' (λd _ U' H'=>∀v,aV X.K cA U' H' d v->Q v H') (eX X.K cA EX Z):=by
       have h5:=Tt (m':=M.bd (bW aq aj F B cond aN (blk many fr J) xi acc) λacc'=>walk c (bW aq aj F B cond aN (blk many fr J)) k (i+1) acc') (by rw[walk];simp only[ei]) h3;rw[gM] at h5;exact h5
      exact zh4 hT dY hD (x2.trans gr.ext) (hL2.mono gr.ext aQ.lz) (aQ.grow gr) (kp.mono gr.ext) (pH.mono gr.ext aQ.lz) rx h4 λZ3 H3 U3 s3 nq xR l3 f3 x3 _ gO k3 r3 h6=>⟨⟨l3.trans hZ.1,λi hi=>(f3 i hi).trans (hZ.2 i hi)⟩,U3,s3,nq,xR,x3,gO,k3,r3,h6⟩
 ·have h:Run X.K cA (if aj=true then M.bd (iB aq aj F w J) λcn=>M.bd (walk cn.1 (bW aq aj F B cond aN (blk many fr J)) (cn.2+1) 0 []) λxs=>newL fz xs else M.no) U H s (λd _ U' H'=>∀v,aV X.K cA U' H' d v->Q v H') (eX X.K cA EX Z):=h;rw[if_neg dJ] at h;exact h.elim
theorem Tz{XN:List Str}(qM:∀(i:Nat) (y:Str) (j:Nat),N[many+i]?=some y->fr[i]?=some j->scope.names.lookup y=some .free/\XN[j]?=some y)(Z:L2.St)(i:Nat)(x:Str)(v:V)(e1:N[i]?=some x)(e2:(bI many fr Z)[i]?=some (some v)):scope.names.lookup x=some .free/\∃j:Nat,XN[j]?=some x/\Z[j]?=some (some v):=by
 unfold bI at e2;by_cases hi:i<many
 ·rw[mF (by simpa using hi),Ad,if_pos hi] at e2;cases e2
 ·rw[nP (by simpa using Lj hi),Gi,fQ] at e2;cases z:fr[i-many]? with
  |none=>rw[z] at e2;cases e2
  |some j=>
   rw[z] at e2;have e3:(Z[j]?).join=some v:=by simpa using e2
   obtain⟨a1,a2⟩:=qM (i-many) x j (by rw[show many+(i-many)=i by omega];exact e1) z;exact⟨a1,j,a2,S6 e3⟩
theorem ZX{g:TG}(hc:X.aj=true)(B':cO X.env.scope scope)(hi:SI X cA aq aj F EX tg iter w)(hN:N.length=many+fr.length)
  (qM:∀(i:Nat) (y:Str) (j:Nat),N[many+i]?=some y->fr[i]?=some j->scope.names.lookup y=some .free/\X.N[j]?=some y)
  (hg:∀cl C s3 H3 fp ao,PG (X.blk scope cl N C s3 H3 fp ao) tg g) (hT:gB X.K cA g aN) (dY:∀i∈aN,i<many)
  (ht:∀cl C s3 H3 fp ao,Fe (X.blk scope cl N C s3 H3 fp ao) cA aq aj F (λ_ _ _ _=>False) ifs cond) (he:∀cl C s3 H3 fp ao,SE (X.blk scope cl N C s3 H3 fp ao) cA aq aj F (λ_ _ _ _=>False) elt B)
  (hs:∀x,foldedSetIterable iter X.env x=pure x:=by intro _;rfl):SE X cA aq aj F EX (.ListComp elt [⟨tg,iter,ifs,0⟩] scope pos) (.comp fz B aN w fr many cond):=
 PE.weak (zkk hc B' hi (⟨hg,ht,he⟩ : Parts X elt tg ifs scope N g (qW X.K cA (λ_ _ _ _=>False) (m9 aq aj F cond)) (tE X.K cA (λ_ _ _ _=>False) (ev aq aj F B))) (ZY:=bI many fr) (λZ=>by simp[bI,hN]) (λZ i x v e1 e2=>Tz qM Z i x v e1 e2) hs) λZ H Q hh=>ZW (iter':=iter) hT dY hh
end
section
variable (K:W.Frag)(cA:Cl)
def aZ(m:MS)(U:Ph)(H:Hp)(s:S)(D:Ends)(EX:XS):Prop:=match m s with
 |some (.nx J,s')=>∀U' H' Z',Ext U H U' H'->aF K cA U' H' s'->aY K cA U' H' Z' J->D.nx Z' H'
 |some (.bk J,s')=>∀U' H' Z',Ext U H U' H'->aF K cA U' H' s'->aY K cA U' H' Z' J->D.bk Z' H'
 |some (.ct J,s')=>∀U' H' Z',Ext U H U' H'->aF K cA U' H' s'->aY K cA U' H' Z' J->D.ct Z' H'
 |some (.rt d,s')=>∀U' H' v,Ext U H U' H'->aF K cA U' H' s'->aV K cA U' H' d v->D.rt v H'
 |some (.er c fs J,s')=>∀U' H' Z',Ext U H U' H'->aF K cA U' H' s'->aY K cA U' H' Z' J->∀dx,kj K cA U' H' c fs dx->EX Z' (.ref (cA.a c)) dx H'
 |none=>False
noncomputable def tS(EX:XS)(m:Vs->MS):TS:=λD Z H=>∃U J s,aY K cA U H Z J/\aF K cA U H s/\aZ K cA (m J) U H s D EX
end
section
variable {K:W.Frag}{cA:Cl}{U U':Ph}{H H':Hp}{s:S}{Z:L2.St}{J:Vs}{EX:XS}{D:Ends}
theorem aZ.ext{m:MS}(x:Ext U H U' H')(h:aZ K cA m U H s D EX):aZ K cA m U' H' s D EX:=by
 unfold aZ at *;split at h<;>first
  |exact λU2 H2 a y r l=>h U2 H2 a (x.trans y) r l
  |exact h.elim
theorem aZ.ofM{α:Type}{m:M α}{k:α->MS}(hL:aY K cA U H Z J)(hz:∀a∈U.l,U.z a)(h:aZ K cA (ofM m J k) U H s D EX):Run K cA m U H s (λa s1 U1 H1=>Ext U H U1 H1/\aF K cA U1 H1 s1/\aZ K cA (k a) U1 H1 s1 D EX) (eX K cA EX Z):=by
 unfold aZ Mi.ofM at h;unfold Run;cases e:m s with
 |none=>rw[e] at h;exact h
 |some r=>
  obtain⟨r,s1⟩:=r;rw[e] at h;cases r with
  |er c fs=>exact λU1 H1 x r=>h U1 H1 Z x r (hL.mono x hz)
  |ok a=>
   intro U1 H1 x r;refine⟨x,r,?_⟩;have h2:aZ K cA (k a) U H s1 D EX:=h;exact h2.ext x
theorem aZ.then_(h:aZ K cA (cQ m k) U H s D EX):aZ K cA m U H s {D with nx:=λZ' H'=>∃U' J' s',aY K cA U' H' Z' J'/\aF K cA U' H' s'/\aZ K cA (k J') U' H' s' D EX} EX:=by
 unfold aZ cQ at h;unfold aZ;cases e:m s with
 |none=>rw[e] at h;exact h
 |some r=>
  obtain⟨r,s1⟩:=r;rw[e] at h;cases r with
  |nx J=>
   intro U1 H1 Z1 x r l;have h2:aZ K cA (k J) U H s1 D EX:=h;exact⟨U1,J,s1,l,r,h2.ext x⟩
  |bk J=>exact h
  |ct J=>exact h
  |rt d=>exact h
  |er c fs J=>exact h
end
section
variable (X:Cx)(cA:Cl)(aq:Nat->Nat->Bool)(aj:Bool)(F:Bool->Fn)(EX:XS)
def SS(st:Stmt)(m:St):Prop:=PS X st (tS X.K cA EX (ex aq aj F m))
def xT(st:List Stmt)(m:cg):Prop:=qH X st (tS X.K cA EX (exs aq aj F m))
end
section
variable {X:Cx}{cA:Cl}{aq:Nat->Nat->Bool}{aj:Bool}{F:Bool->Fn}{EX:XS}{a b c d e:Expr}{A B C:E}{pos p p2:Pos}{st:Stmt}{sts body orelse:List Stmt}{m:St}{ms mb me mh:cg}{es:List Expr}{Xs:Es}{x y n:Str}{i j:Nat}
theorem PS.weak{t t':TS}(h:PS X st t)(f:∀D Z H,t' D Z H->t D Z H):PS X st t':=λao s Z H D I q=>h ao s Z H D I (f D Z H q)
theorem qH.weak{t t':TS}(h:qH X sts t)(f:∀D Z H,t' D Z H->t D Z H):qH X sts t':=λao s Z H D I q=>h ao s Z H D I (f D Z H q)
theorem zoz:SS X cA aq aj F EX st .no:=λ_ _ _ _ _ _ ⟨_,_,_,_,_,h⟩=>h.elim
theorem zkN:xT X cA aq aj F EX [] .nil:=qH.weak X8 λD Z H hh=>un hh λU J s hL hS h=>h U H Z Ext.refl hS hL
theorem ziR(h1:SS X cA aq aj F EX st m)(h2:xT X cA aq aj F EX sts ms):xT X cA aq aj F EX (st::sts) (.cons m ms):=qH.weak (X_ h1 h2) λD Z H hh=>un hh λU J s hL hS h=>by
 have h:aZ X.K cA (cQ (ex aq aj F m J) λJ'=>exs aq aj F ms J') U H s D EX:=h;exact⟨U,J,s,hL,hS,h.then_⟩
theorem zoc(ha:SE X cA aq aj (F aj) EX a A)(hs:swapsWith a none pos.line X.env=pure false:=by rfl):SS X cA aq aj F EX (.Expr a pos) (.ex A):=PS.weak (zlh ha hs) λD Z H hh=>un hh λU J s hL hS h=>
 ⟨U,J,s,hL,hS,(aZ.ofM hL hS.lz h).imp λd s1 U1 H1 ⟨x1,aJ,h1⟩ v rv=>h1 U1 H1 Z Ext.refl aJ (hL.mono x1 hS.lz)⟩
theorem zlr(ha:SE X cA aq aj (F aj) EX a A):SS X cA aq aj F EX (.Return (some a) pos) (.ret A):=PS.weak (zmE ha) λD Z H hh=>un hh λU J s hL hS h=>
 ⟨U,J,s,hL,hS,(aZ.ofM hL hS.lz h).imp λd s1 U1 H1 ⟨x1,aJ,h1⟩ v rv=>h1 U1 H1 v Ext.refl aJ rv⟩
theorem zlS(hN:X.N.Nodup)(hi:X.N[i]?=some x)(hx:Loc X.env.scope x)(ha:SE X cA aq aj (F aj) EX a A)(hs:swapsWith a (some (.Name x p)) pos.line X.env=pure false:=by rfl)(hf:X.fn x=true\/X.env.scope.names.lookup x=some .local:=by first|exact .inl rfl|exact .inr rfl) :
  SS X cA aq aj F EX (.Assign [.Name x p] a pos) (.asg (.nm i) A):=PS.weak (znz hN hi hx ha hs hf) λD Z H hh=>un hh λU J s hL hS h=>
 ⟨U,J,s,hL,hS,(aZ.ofM hL hS.lz h).imp λd s1 U1 H1 ⟨x1,aJ,h1⟩ v rv=>h1 U1 H1 _ Ext.refl aJ ((hL.mono x1 hS.lz).set rv)⟩
theorem TF{k}(hc:X.aj=true)(hN:X.N.Nodup)(hi:X.N[i]?=some x)(hj:X.N[j]?=some y)(hx:Loc X.env.scope x)(hy:Loc X.env.scope y)(xU:X.fn x=true\/X.env.scope.names.lookup x=some .local)(xV:X.fn y=true\/X.env.scope.names.lookup y=some .local) :
  PG X (.Tuple [.Name x px,.Name y py] k pos) (t_ X.K 2 (iH (dW i) (iH (dW j) tZ))):=znO hc (Yb (Mj hN hi hx xU) (Yb (Mj hN hj hy xV) zko))
theorem Z0{K:W.Frag}{U:Ph}{H:Hp}{s:S}{J:Vs}{Z:L2.St}{D:Ends}{d:Xv}{v:V}(dJ:aj=true)(hL:aY K cA U H Z J)(hS:aF K cA U H s)(rv:aV K cA U H d v)(h:aZ K cA (store aq aj (F aj) (.tp [i,j]) d J) U H s D EX):t_ K 2 (iH (dW i) (iH (dW j) tZ)) v Z H D.nx:=by
 have h:aZ K cA (if aj=true then ofM (M.bd (dat d) λd=>M.opt ((j_ d).bind λds=>gA [i,j] (ds.map Xv.d) J)) J (λJ' s=>some (Out.nx J',s)) else λ_=>none) U H s D EX:=h;rw[if_pos dJ] at h;obtain⟨dd,e0,rd,h1⟩:=M9 rv (aZ.ofM hL hS.lz h);obtain⟨J',e,_,aJ,h2⟩:=Run.opt hS h1;refine(Jt i j).run U H s Z J J' dd v _ hL hS rd e λZ' hL' _ _=>h2 U H Z' Ext.refl hS hL'
theorem zku{k}(hc:X.aj=true)(dJ:aj=true)(hN:X.N.Nodup)(hi:X.N[i]?=some x)(hj:X.N[j]?=some y)(hx:Loc X.env.scope x)(hy:Loc X.env.scope y)(xU:X.fn x=true\/X.env.scope.names.lookup x=some .local)(xV:X.fn y=true\/X.env.scope.names.lookup y=some .local)(ha:SE X cA aq aj (F aj) EX a A)
  (hs:swapsWithSole [.Tuple [.Name x px,.Name y py] k pt] a pos.line X.env=pure false:=by rfl) (hw:swappedStores [.Tuple [.Name x px,.Name y py] k pt] a X.env=pure none:=by rfl)
  (h1:(assignEach [.Tuple [.Name x px,.Name y py] k pt] X.env).map (·.2)=[assign (.Tuple [.Name x px,.Name y py] k pt) X.env]:=by rfl) :
  SS X cA aq aj F EX (.Assign [.Tuple [.Name x px,.Name y py] k pt] a pos) (.asg (.tp [i,j]) A):=PS.weak (Yc ha (TF hc hN hi hj hx hy xU xV) hs hw h1) λD Z H hh=>un hh λU J s hL hS h=>
 ⟨U,J,s,hL,hS,(aZ.ofM hL hS.lz h).imp λd s1 U1 H1 ⟨x1,aJ,h1⟩ v rv=>Z0 dJ (hL.mono x1 hS.lz) aJ rv h1⟩
theorem zl1(hO:SE X cA aq aj (F aj) EX oo O)(hI:SE X cA aq aj (F aj) EX ii I')(ha:SE X cA aq aj (F aj) EX a A)
  (TJ:∀v,assign (.Subscript oo ii p) X.env v=(do
   let ov <-holding [v] (eval oo X.env)
   let iv <-holding [v,ov] (eval ii X.env)
   standAt p
   holding [v,ov,iv] (setItem ov iv v)
   release [v,ov,iv] []):=by intro _;rfl) (hs:swapsWithSole [.Subscript oo ii p] a pos.line X.env=pure false:=by rfl) (hw:swappedStores [.Subscript oo ii p] a X.env=pure none:=by rfl)
  (h1:(assignEach [.Subscript oo ii p] X.env).map (·.2)=[assign (.Subscript oo ii p) X.env]:=by rfl) :
  SS X cA aq aj F EX (.Assign [.Subscript oo ii p] a pos) (.asg (.aq O I') A):=PS.weak (Yc ha (zlA hO hI ziB TJ) hs hw h1) λD Z H hh=>un hh λU J s hL hS h=>by
 refine⟨U,J,s,hL,hS,(aZ.ofM hL hS.lz h).imp λd s1 U1 H1 ⟨x1,aJ,h1⟩ v rv=>?_⟩;obtain⟨dd,e0,rd,h2⟩:=M9 rv (aZ.ofM (hL.mono x1 hS.lz) aJ.lz h1);refine bw (hL.mono x1 hS.lz) aJ h2 λxo H2 U2 d2 s2 x2 hL2 aQ r2 h3=>bw hL2 aQ h3 λyi H3 U3 d3 s3 x3 oN gO r3 h4=>?_;obtain⟨k,_,ek,h5⟩:=Jg r3 h4;obtain⟨n,ad,xs,vs,_,ea,e1,f1,g1,q1,h6⟩:=Tj gO (r2.mono x3 aQ.lz) h5;subst ek ea;cases ej:L2.rO xs.length k with
 |none=>simp only[ej] at h6;exact h6.elim
 |some jj=>
  simp only[ej] at h6;refine⟨ad,vs,k,jj,rfl,rfl,g1,by rw[<-q1.len];exact ej,?_⟩;have rv3:=(rd.mono x2 aJ.lz).mono x3 aQ.lz;have qX:=gO.write e1 f1 (q1.set rv3 jj);have x4:Ext U3 H3 U3 (upd H3 ad (.lst (vs.set jj v))):=Ext.write f1 ⟨_,g1⟩;obtain⟨_,_,h8⟩:=h6 U3 _ x4 qX;exact h8 U3 _ Z Ext.refl qX (oN.mono x4 gO.lz)
theorem zl0{kt k2 uc}(hc:X.aj=true)(dJ:aj=true)(hN:X.N.Nodup)(hi:X.N[i]?=some x)(hj:X.N[j]?=some y)(pL:i≠j)(hx:X.env.scope.names.lookup x=some .local)(hy:X.env.scope.names.lookup y=some .local)
  (ha:SE X cA aq aj (F aj) EX a A) (hb:SE X cA aq aj (F aj) EX b B) (h1:starEach [a,b] X.env=(false,eval a X.env)::starEach [b] X.env) (h2:starEach [b] X.env=(false,eval b X.env)::starEach [] X.env)
  (hw:swappedStores [.Tuple [.Name x px,.Name y py] kt pt] (.Tuple [a,b] k2 uc) X.env=pure (some [x,y]))
  (hs:swapsWithSole [.Tuple [.Name x px,.Name y py] kt pt] (.Tuple [a,b] k2 uc) pos.line X.env=pure false:=by rfl) :
  SS X cA aq aj F EX (.Assign [.Tuple [.Name x px,.Name y py] kt pt] (.Tuple [a,b] k2 uc) pos) (.par i j A B):=PS.weak (znw hc hN hi hj pL hx hy (sZ ha (sZ hb yX h2) h1) hw hs) λD Z H hh=>un hh λU J s hL hS h=>by
 have h:aZ X.K cA (if aj=true then ofM (M.bd (ev aq aj (F aj) A J) λx=>M.bd (ev aq aj (F aj) B J) λy=>M.ret (x,y)) J (λxy s=>some (.nx ((J.set i (some xy.1)).set j (some xy.2)),s)) else λ_=>none) U H s D EX:=h;rw[if_pos dJ] at h;refine bw hL hS (aZ.ofM hL hS.lz h) λx H1 U1 d1 s1 x1 hL1 aJ r1 h1=>bw hL1 aJ h1 λy H2 U2 d2 s2 x2 hL2 aQ r2 h2=>?_;obtain⟨_,_,h3⟩:=h2.bN aQ;exact⟨x,y,rfl,h3 U2 H2 _ Ext.refl aQ ((hL2.set (r1.mono x2 aJ.lz)).set r2)⟩
theorem zoH(hc:ST X cA aq aj (F aj) EX c C)(ht:xT X cA aq aj F EX body mb)(he:xT X cA aq aj F EX orelse me):SS X cA aq aj F EX (.If c body orelse pos) (.iff C mb me):=PS.weak (zoD hc ht he) λD Z H hh=>un hh λU J s hL hS h=>by
 refine⟨U,J,s,hL,hS,(aZ.ofM hL hS.lz h).imp λk s1 U1 H1 ⟨x1,aJ,h1⟩=>?_⟩;cases k with
 |true=>exact iT ⟨U1,J,s1,hL.mono x1 hS.lz,aJ,h1⟩
 |false=>exact iF ⟨U1,J,s1,hL.mono x1 hS.lz,aJ,h1⟩
theorem zjY{g:TG}{elt iter tg:Expr}{ifs:List Expr}{scope:Scope}{N:List Str}{cond:Eo}{fr aN:List Nat}{many:Nat}{fz:Bool}{w:Wk}{spos py:Pos}(hc:X.aj=true)(qZ:X.N.Nodup)(qN:X.N[i]?=some y)(hx:Loc X.env.scope y)(hf:X.fn y=true\/X.env.scope.names.lookup y=some .local)(B':cO X.env.scope scope)(hi:SI X cA aq aj (F aj) EX tg iter w)(hN:N.length=many+fr.length)
  (qM:∀(i:Nat) (y:Str) (j:Nat),N[many+i]?=some y->fr[i]?=some j->scope.names.lookup y=some .free/\X.N[j]?=some y)
  (hg:∀cl C s3 H3 fp ao,PG (X.blk scope cl N C s3 H3 fp ao) tg g) (hT:gB X.K cA g aN) (dY:∀i∈aN,i<many)
  (ht:∀cl C s3 H3 fp ao,Fe (X.blk scope cl N C s3 H3 fp ao) cA aq aj (F aj) (λ_ _ _ _=>False) ifs cond) (he:∀cl C s3 H3 fp ao,SE (X.blk scope cl N C s3 H3 fp ao) cA aq aj (F aj) (λ_ _ _ _=>False) elt B)
  (uy:swapsWith (.ListComp elt [⟨tg,iter,ifs,0⟩] scope pos) (some (.Name y py)) spos.line X.env=pure true) (hs:∀x,foldedSetIterable iter X.env x=pure x:=by intro _;rfl) :
  SS X cA aq aj F EX (.Assign [.Name y py] (.ListComp elt [⟨tg,iter,ifs,0⟩] scope pos) spos) (.asg (.nm i) (.comp fz B aN w fr many cond)):=
 PS.weak (zfV hc qZ qN hx hf B' hi (⟨hg,ht,he⟩ : Parts X elt tg ifs scope N g (qW X.K cA (λ_ _ _ _=>False) (m9 aq aj (F aj) cond)) (tE X.K cA (λ_ _ _ _=>False) (ev aq aj (F aj) B))) (ZY:=bI many fr) (λZ=>by simp[bI,hN]) (λZ i x v e1 e2=>Tz qM Z i x v e1 e2) uy hs) λD Z H hh=>un hh λU J s hL hS h=>
  ZW (iter':=iter) hT dY ⟨U,J,s,hL,hS,(aZ.ofM hL hS.lz h).imp λd s1 U1 H1 ⟨x1,aJ,h1⟩ v rv=>h1 U1 H1 _ Ext.refl aJ ((hL.mono x1 hS.lz).set rv)⟩
noncomputable def q_(m:MS)(kN:Vs->MS):MS:=λs=>match m s with
 |some (.nx J',s')=>kN J' s'
 |some (.ct J',s')=>kN J' s'
 |some (.bk J',s')=>some (.nx J',s')
 |r=>r
theorem Kah{K:W.Frag}{U:Ph}{H:Hp}{s:S}{D:Ends}{m:MS}{kN:Vs->MS}{N:L2.St->Hp->Prop}(hN:∀U' J' s' Z' H',Ext U H U' H'->aY K cA U' H' Z' J'->aF K cA U' H' s'->aZ K cA (kN J') U' H' s' D EX->N Z' H')(h:aZ K cA (q_ m kN) U H s D EX) :
  aZ K cA m U H s {D with nx:=N,ct:=N,bk:=D.nx} EX:=by
 unfold aZ q_ at h;unfold aZ;cases e:m s with
 |none=>rw[e] at h;exact h
 |some r=>
  obtain⟨r,s1⟩:=r;rw[e] at h;cases r with
  |nx J'=>
   intro U1 H1 Z1 x r l;have h2:aZ K cA (kN J') U H s1 D EX:=h;exact hN U1 J' s1 Z1 H1 x l r (h2.ext x)
  |ct J'=>
   intro U1 H1 Z1 x r l;have h2:aZ K cA (kN J') U H s1 D EX:=h;exact hN U1 J' s1 Z1 H1 x l r (h2.ext x)
  |bk J'=>exact h
  |rt d=>exact h
  |er c fs J'=>exact h
def SG(X:Cx)(cA:Cl)(aq:Nat->Nat->Bool)(aj:Bool)(F:Bool->Fn)(EX:XS)(tg:Expr)(t:Tg):Prop:=∃g:TG,PG X tg g/\∀(U:Ph) (H:Hp) (s:S) (Z:L2.St) (J:Vs) (d:Xv) (v:V) (D:Ends),aY X.K cA U H Z J->aF X.K cA U H s->aV X.K cA U H d v->
 aZ X.K cA (store aq aj (F aj) t d J) U H s D EX->g v Z H D.nx
theorem zkO(hN:X.N.Nodup)(hi:X.N[i]?=some x)(hx:Loc X.env.scope x)(hf:X.fn x=true\/X.env.scope.names.lookup x=some .local:=by first|exact .inl rfl|exact .inr rfl):SG X cA aq aj F EX (.Name x pos) (.nm i):=
 ⟨_,Mj hN hi hx hf,λU H s Z J d v D hL hS r h=>h U H _ Ext.refl hS (hL.set r)⟩
theorem zjT{k}(hc:X.aj=true)(dJ:aj=true)(hN:X.N.Nodup)(hi:X.N[i]?=some x)(hj:X.N[j]?=some y)(hx:Loc X.env.scope x)(hy:Loc X.env.scope y)(xU:X.fn x=true\/X.env.scope.names.lookup x=some .local)(xV:X.fn y=true\/X.env.scope.names.lookup y=some .local) :
  SG X cA aq aj F EX (.Tuple [.Name x px,.Name y py] k pos) (.tp [i,j]):=
 ⟨_,TF hc hN hi hj hx hy xU xV,λU H s Z J d v D hL hS r h=>Z0 dJ hL hS r h⟩
theorem zm7(hp:PassesOwn (model X.prog X.w) X.A X.env X.xe)(hc:X.aj=true)(dJ:aj=true)(ha:SI X cA aq aj (F aj) EX tg a w)(hg:SG X cA aq aj F EX tg t)(hb:xT X cA aq aj F EX body mb)
  (hs:∀x,foldedSetIterable a X.env x=pure x:=by intro _;rfl):SS X cA aq aj F EX (.For tg a body [] pos) (.fr t w mb):=by
 obtain⟨g,hG,hg⟩:=hg;refine PS.weak (zlY hp hc ha hG hb hs) λD Z H hh=>un hh λU J s hL hS h=>?_;have h:aZ X.K cA (if aj=true then ofM (iB aq aj (F aj) w J) J λcn=>c7 cn.1 (λd J=>cQ (store aq aj (F aj) t (.d d) J) λJ'=>exs aq aj F mb J') (cn.2+1) 0 J else λ_=>none) U H s D EX:=h;rw[if_pos dJ] at h;refine⟨U,J,s,hL,hS,(aZ.ofM hL hS.lz h).imp λcn s1 U1 H1 ⟨x1,aJ,h1⟩ bM hJ=>?_⟩;have hL1:=hL.mono x1 hS.lz;obtain⟨c,n⟩:=cn;dsimp only at h1 hJ;refine⟨λi m Z' H'=>∃U' J' s',Ext U1 H1 U' H'/\aY X.K cA U' H' Z' J'/\aF X.K cA U' H' s'/\aZ X.K cA (c7 c (λd J=>cQ (store aq aj (F aj) t (.d d) J) λJ'=>exs aq aj F mb J') m i J') U' H' s' D EX,⟨n+1,U1,J,s1,Ext.refl,hL1,aJ,h1⟩,?_⟩;rintro i m Z' H' ⟨U',J',s',x2,hL2,aQ,h4⟩;cases m with
 |zero=>exact h4.elim
 |succ m=>
  cases ei:c.at i s' with
  |none=>
   exfalso
   unfold aZ c7 at h4;simp only[ei] at h4
  |some oi=>
   cases oi with
   |none=>
    refine .inl ⟨hJ.stop U' H' H' s' i x2 cM.refl aQ ei,?_⟩;unfold aZ c7 at h4;simp only[ei] at h4;exact h4 U' H' Z' Ext.refl aQ hL2
   |some xi=>
    refine .inr ⟨hJ.go U' H' H' s' i xi x2 cM.refl aQ ei,_,λZ3 H3 z=>⟨m,Dz m,z⟩,λv H3 hy=>?_⟩;obtain⟨gr,rx⟩:=hJ.ud U' H' H' s' i xi v H3 x2 cM.refl aQ ei hy;have h5:aZ X.K cA (q_ (cQ (store aq aj (F aj) t (.d xi) J') λJ'=>exs aq aj F mb J') (c7 c (λd J=>cQ (store aq aj (F aj) t (.d d) J) λJ'=>exs aq aj F mb J') m (i+1))) U' H' s' D EX:=by
     unfold aZ at h4 ⊢;have e:c7 c (λd J=>cQ (store aq aj (F aj) t (.d d) J) λJ'=>exs aq aj F mb J') (m+1) i J' s'=q_ (cQ (store aq aj (F aj) t (.d xi) J') λJ'=>exs aq aj F mb J') (c7 c (λd J=>cQ (store aq aj (F aj) t (.d d) J) λJ'=>exs aq aj F mb J') m (i+1)) s':=by
      rw[c7];simp only[ei];rfl
     rw[e] at h4;exact h4
    exact hg U' H3 s' Z' J' (.d xi) v _ (hL2.mono gr.ext aQ.lz) (aQ.grow gr) (.d rx) (aZ.then_ (Kah (λU4 J4 s4 Z4 H4 x4 l4 r4 q4=>⟨U4,J4,s4,(x2.trans gr.ext).trans x4,l4,r4,q4⟩) (h5.ext gr.ext)))
end
end Mi
namespace L2
open PySem PySem.Spec PyProof.Rows
structure oR(K:W.Frag)(x qual:Str)(st:Stmt)(f:Addr)(fd:FuncData):Prop where
 ex:∃(oc:Value) (od:Option Addr) (kV doc pm:Value) (an:Option Addr) (cdv ct:Value) (osl:Array (Option Value)),
  fd=PySem.W.fnOf x qual (aX st) (aK st) (au st) .none kV doc pm an cdv ct/\K.lookup f=some ⟨oc,od,.func fd,osl⟩/\PySem.W.codeIn K cdv qual=true
 kp:PySem.W.keepIn K (.ref f)=true
section
variable {P:Program}{w:World}{K:W.Frag}{mg:Str->Option Value}{base:Heap}
end
end L2
namespace Mi
open PySem PySem.Spec PyProof.Rows L2
section
variable {P:Program}{w:World}{K:W.Frag}{mg:Str->Option Value}{base:Heap}{cA:Cl}{aq:Nat->Nat->Bool}{T:Nat->Option Df}
theorem Z9{U:Ph}{H:Hp}{N:List Str}{ds:List Xv}{vs:List V}{m p:Nat}(r:aP K cA U H ds vs)(hp:p=ds.length)(hm:m=N.length):aY K cA U H (L2.start N vs) (ds.map some++List.replicate (m-p) none):=by
 subst hp hm;unfold L2.start;have hl:=r.len;refine⟨by simp[hl],λi d e=>?_⟩;by_cases hi:i<ds.length
 ·rw[mF (by simpa using hi),fQ] at e;cases z:ds[i]? with
  |none=>rw[z] at e;cases e
  |some x=>
   rw[z] at e;cases e;obtain⟨v,a,b⟩:=r.get z;exact⟨v,by rw[mF (by simp;lia),fQ,a];rfl,b⟩
 ·rw[nP (by simpa using hi),Ad] at e;split at e<;>cases e
theorem Z_{U:Ph}{H:Hp}{s:S}{ds:List Xv}{k n:Nat}{cm:Bool}{df:Df}{Q:VK}{E:XK}(hT:T n=some df)
  (h:Run K cA (call aq T (k+1) cm n ds) U H s (λd _ U' H'=>∀v,aV K cA U' H' d v->Q v H') (λc fs _ U' H'=>∀dx,kj K cA U' H' c fs dx->E (.ref (cA.a c)) dx H')) :
  ds.length=df.iK/\aZ K cA (exs aq cm (λc=>call aq T k c) df.body (ds.map some++List.replicate (df.many-df.iK) none)) U H s {nx:=λ_ H'=>Q .non H',rt:=Q} (λ_ C dx H'=>E C dx H'):=by
 unfold call at h;simp only[hT] at h;by_cases hl:ds.length=df.iK
 ·refine⟨hl,?_⟩;rw[if_pos hl] at h;unfold Run at h;unfold aZ;cases e:exs aq cm (λc=>call aq T k c) df.body (ds.map some++List.replicate (df.many-df.iK) none) s with
  |none=>simp only[e] at h
  |some r=>
   obtain⟨r,s1⟩:=r;simp only[e] at h;cases r with
   |nx J=>exact λU' H' Z' x r l=>h U' H' x r _ (.d .non)
   |rt d=>exact λU' H' v x r rv=>h U' H' x r v rv
   |er c fs J=>exact λU' H' Z' x r l=>h U' H' x r
   |bk J=>exact h.elim
   |ct J=>exact h.elim
 ·rw[if_neg hl] at h;exact h.elim
theorem dB:cH P w K mg base (gU P w) cm 0 f fd ps (lY K cA (call aq T 0 cm n)):=
 ⟨λvs H Q E ⟨_,_,_,_,_,h⟩=>h.elim,λA outer s H args us vs Q E _ _ _ _ _ ⟨_,_,_,_,_,h⟩=>h.elim⟩
theorem zi5{x qual:Str}{st:Stmt}{f:Addr}{fd:FuncData}{N ps:List Str}{k n:Nat}{cm:Bool}{df:Df}(F:oR K x qual st f fd)(S:dz N ps (au st))(hT:T n=some df)(hp:df.iK=ps.length)(hm:df.many=N.length)
  (hb:∀(cdv:Value) (A:Around) (outer:List Env) (s:Shared) (H:Hp) (E:XK),bG (k+1) A->
   xT (gK (gU P w) P w K mg base N qual (au st) f cdv A outer s H E cm) cA aq cm (λc=>call aq T k c) (λ_ C dx H'=>E C dx H') (aK st) df.body) :
  cH P w K mg base (gU P w) cm (k+1) f fd ps (lY K cA (call aq T (k+1) cm n)):=by
 obtain⟨oc,od,kV,doc,pm,an,cdv,ct,osl,rfl,lk,kY⟩:=F.ex;refine Yt lk kY S (λvs H Q E ⟨U,ds,s,r,hS,h⟩=>?_) λA outer s H vs Q E hr ⟨U,ds,st',r,hS,h⟩=>?_
 ·rw[<-r.len,(Z_ hT h).1,hp]
 ·obtain⟨hl,h2⟩:=Z_ hT h;exact⟨_,hb cdv A outer s H E hr,U,_,st',Z9 r hl.symm hm,hS,h2⟩
theorem zni{x qual:Str}{st:Stmt}{f:Addr}{fd:FuncData}{N ps:List Str}{k n:Nat}{cm:Bool}{df:Df}(F:oR K x qual st f fd)(S:dz N ps (au st))(hT:T n=some df)(hp:df.iK=ps.length)(hm:df.many=N.length)
  (hb:∀(cdv:Value) (A:Around) (outer:List Env) (s:Shared) (H:Hp) (E:XK),bG k (A.deeper (envOfC qual (au st) s.heap.objs.size f cdv))->
   xT (gK (gU P w) P w K mg base N qual (au st) f cdv A outer s H E cm) cA aq cm (λc=>call aq T k c) (λ_ C dx H'=>E C dx H') (aK st) df.body) :
  cH P w K mg base (gU P w) cm (k+1) f fd ps (lY K cA (call aq T (k+1) cm n)):=zi5 F S hT hp hm λcdv A outer s H E hr=>hb cdv A outer s H E (hr.deeper _)
end
theorem zmn{K:W.Frag}{cA:Cl}{m:List Xv->M Xv}{H:Hp}{a:Addr}{ns:List Int}(hq:cY K H a (ns.map V.int))(hm:∃s',m [.d (.fl (ns.map D.int))] []=some (.ok (.d (.bl true)),s')) :
  lY K cA m [.ref a] H (λv _=>v=.bl true) λ_ _ _=>False:=by
 have rs:∀(l:List Int) U,aC K cA U H (l.map D.int) (l.map V.int):=λl U=>by
  induction l with
  |nil=>exact .nil
  |cons i l ih=>exact .cons (.int i) ih
 have hl:LstAt K ⟨λ_=>False,[]⟩ H a (ns.map V.int):=by
  rcases hq with h|h
  ·exact .inl ⟨h,λz=>z⟩
  ·exact .inr (.inr h)
 refine⟨⟨λ_=>False,[]⟩,[.d (.fl (ns.map D.int))],[],.cons (.d (.fl hl (rs ns _))) .nil,⟨rfl,(λn o b e1 e2=>by simp at e1),DR,(λb hb=>by cases hb),(λb z=>False.elim z)⟩,?_⟩;obtain⟨s',e⟩:=hm;unfold Run;rw[e];intro U' H' _ _ v rv;cases rv with
 |d rv=>cases rv;rfl
theorem zgg:Raises X (λ_ _ _ _=>False):=λ_ _ _ _ _ _ _ _ _ _ _ _ _ z=>z.elim
theorem uR(r:bG k A):A.units+60<cLine:=by have:=r.un;lia
noncomputable def aD:Expr->Bool
 |.Starred _ _=>false
 |_=>true
theorem bx(h:aD e=true):starEach (e::es) env=(false,eval e env)::starEach es env:=by
 cases e<;>first|rfl|cases h
theorem bC:∀{es:List Expr} {env:Env} {pos:Pos},es.all aD=true->(backTo pos (starEach es env)).any (·.1)=false
 |[],_,_,_=>rfl
 |e::es,env,pos,h=>by
  rw[wG,g8] at h;rw[bx h.1];show (false||(backTo pos (starEach es env)).any (·.1))=false;rw[bC h.2];rfl
theorem rm:∀{es:List Expr} {env:Env} {pos:Pos},es.all aD=true->(backTo pos (starEach es env)).all (λx=>!x.1)=true
 |[],_,_,_=>rfl
 |e::es,env,pos,h=>by
  rw[wG,g8] at h;rw[bx h.1];show (true&&(backTo pos (starEach es env)).all (λx=>!x.1))=true;rw[rm h.2];rfl
theorem xW(h1:aD e=true)(h2:es.all aD=true)(h3:decide (es.length<28)=true):((backTo pos (starEach (e::es) env)).all (λx=>!x.1)&&(backToKw pos (keywordEach [] env)).all (λx=>x.1.isSome)&&decide ((e::es).length+([]:List Keyword).length+(if ([]:List Keyword).isEmpty then 0 else 1)<30))=true:=by
 rw[rm (es:=e::es) (by rw[wG,h1,h2];rfl)];have:=gG h3;have z:(e::es).length+([]:List Keyword).length+(if ([]:List Keyword).isEmpty then 0 else 1)<30:=by
  show es.length+1+0+0<30
  lia
 rw[fu z];rfl
noncomputable def sy(sc scope:Scope):Bool:=(match scope.kind with|.function=>true|_=>false)&&scope.names.all λy=>match y.2 with
 |.cell=>(match scope.names.lookup y.1 with|some .cell=>true|_=>false)
 |.free=>(match sc.names.lookup y.1 with|some .cell=>true|some .free=>true|_=>false)
 |.local=>(match scope.names.lookup y.1 with|some .local=>true|_=>false)
 |_=>true
theorem cO.of(h:sy sc scope=true):cO sc scope:=by
 unfold sy at h;rw[g8,fj] at h;obtain⟨h1,h2⟩:=h;refine⟨?_,λy hy z=>?_,λy hy z=>?_,λy hy z=>?_⟩
 ·split at h1
  ·assumption
  ·cases h1
 ·have:=h2 y hy;rw[z] at this;dsimp only at this;split at this
  ·assumption
  ·cases this
 ·have:=h2 y hy;rw[z] at this;dsimp only at this;split at this
  ·exact .inl (by assumption)
  ·exact .inr (by assumption)
  ·cases this
 ·have:=h2 y hy;rw[z] at this;dsimp only at this;split at this
  ·assumption
  ·cases this
noncomputable def frB(scope:Scope)(XN:List Str):List Str->List Nat->Bool
 |y::N,j::fr=>(match scope.names.lookup y with|some .free=>true|_=>false)&&decide (XN[j]?=some y)&&frB scope XN N fr
 |[],[]=>true
 |_,_=>false
theorem zjh:∀{N:List Str} {fr:List Nat},frB scope XN N fr=true->N.length=fr.length/\∀(i:Nat) (y:Str) (j:Nat),N[i]?=some y->fr[i]?=some j->scope.names.lookup y=some .free/\XN[j]?=some y
 |[],[],_=>⟨rfl,λi y j h=>by simp at h⟩
 |[],_::_,h=>by cases h
 |_::_,[],h=>by cases h
 |y::N,j::fr,h=>by
  unfold frB at h;rw[g8,g8,Gu] at h;obtain⟨⟨h1,h2⟩,h3⟩:=h;obtain⟨l,q⟩:=zjh h3;refine⟨by simp[l],λi z m e1 e2=>?_⟩;cases i with
  |zero=>
   simp at e1 e2;subst e1 e2;refine⟨?_,h2⟩;split at h1
   ·assumption
   ·cases h1
  |succ i=>exact q i z m (by simpa using e1) (by simpa using e2)
noncomputable def okN(x:Str):Bool:=!(x==("__debug__" : Str)) && !(x==("__classdict__" : Str)) && !decide (x="__name__")
theorem uU(h:okN x=true):(x==("__debug__" : Str))=false/\(x==("__classdict__" : Str))=false/\x≠"__name__":=by
 unfold okN at h;simp only[g8,Bool.not_eq_true',PK] at h;exact⟨h.1.1,h.1.2,h.2⟩
theorem Nj{env:Env}{k:NameKind}(hk:k≠.free):∀{names:List (Str×NameKind)} {x:Str},names.lookup x=some k->
  (names.map λ(n,k)=>if (k==NameKind.free&&env.scope.kind==.function&&env.kindOf n==some .cell) then (n,NameKind.cell) else (n,k)).lookup x=some k
 |[],x,h=>by simp at h
 |(n,q)::r,x,h=>by
  rw[pJ] at h;rw[g_,pJ];have hd:∀c:Bool,(if c=true then (n,NameKind.cell) else (n,q)).1=n:=λc=>by cases c<;>rfl
  rw[hd];by_cases z:x=n
  ·subst z;simp only[Ak] at h ⊢;cases h
   split
   ·rename_i y;simp only[g8,pF] at y;exact absurd y.1.1 hk
   ·rfl
  ·have z':(x==n)=false:=by simpa using z
   simp only[z'] at h ⊢;exact Nj hk h
noncomputable def uV(K:W.Frag):Sp:=λvs H Q _=>∃(a:Addr) (ns:List Int),vs=[.ref a]/\cY K H a (ns.map V.int)/\ns.length<=63/\Only H/\∀H',Q (.bl true) H'
theorem zjC{K:W.Frag}{cA:Cl}{m:List Xv->M Xv}(hm:∀ns:List Int,ns.length<=63->∃s',m [.d (.fl (ns.map D.int))] []=some (.ok (.d (.bl true)),s'))(vs:List V)(H:Hp)(Q:VK)(E:XK)(h:uV K vs H Q E):lY K cA m vs H Q E:=by
 obtain⟨a,ns,rfl,hq,hl,hO,k⟩:=h;obtain⟨U,ds,s,r1,r2,h⟩:=zmn (cA:=cA) (m:=m) hq (hm ns hl);refine⟨U,ds,s,r1,r2,?_⟩;unfold Run at h ⊢;split at h
 ·intro U' H' x r v rv;rw[h U' H' x r v rv];exact k H'
 ·exact λU' H' x r dx q=>(h U' H' x r dx q).elim
 ·exact h
theorem Cy{K:W.Frag}{fd:FuncData}{p:Str}(h:∀a,bindArgs fd ⟨[a],[]⟩=pure [(p,a)]):Binds K fd [p] []:=.all λus hl=>by
 cases us with
 |nil=>cases hl
 |cons a r=>cases r with
  |nil=>exact h a
  |cons b r=>cases hl
theorem uW{K:W.Frag}{fd:FuncData}{p q:Str}(h:∀a b,bindArgs fd ⟨[a,b],[]⟩=pure [(p,a),(q,b)]):Binds K fd [p,q] []:=.all λus hl=>by
 cases us with
 |nil=>cases hl
 |cons a r=>cases r with
  |nil=>cases hl
  |cons b r=>cases r with
   |nil=>exact h a b
   |cons c r=>cases hl
theorem uX{K:W.Frag}{fd:FuncData}{p q t:Str}(h:∀a b c,bindArgs fd ⟨[a,b,c],[]⟩=pure [(p,a),(q,b),(t,c)]):Binds K fd [p,q,t] []:=.all λus hl=>by
 cases us with
 |nil=>cases hl
 |cons a r=>cases r with
  |nil=>cases hl
  |cons b r=>cases r with
   |nil=>cases hl
   |cons c r=>cases r with
    |nil=>exact h a b c
    |cons d r=>cases hl
theorem uY{K:W.Frag}{fd:FuncData}{p q t u:Str}(h:∀a b c d,bindArgs fd ⟨[a,b,c,d],[]⟩=pure [(p,a),(q,b),(t,c),(u,d)]):Binds K fd [p,q,t,u] []:=.all λus hl=>by
 cases us with
 |nil=>cases hl
 |cons a r=>cases r with
  |nil=>cases hl
  |cons b r=>cases r with
   |nil=>cases hl
   |cons c r=>cases r with
    |nil=>cases hl
    |cons d r=>cases r with
     |nil=>exact h a b c d
     |cons e r=>cases hl
theorem zl6:bootBuiltins "int"=some (.type "int"):=by decide +kernel
theorem zkF:bootBuiltins "bool"=some (.type "bool"):=by decide +kernel
theorem Nk:bootBuiltins "tuple"=some (.type "tuple"):=by decide +kernel
theorem zks:bootBuiltins "list"=some (.type "list"):=by decide +kernel
structure JE(X:Cx)(cA:Cl)(aq:Nat->Nat->Bool)(aj:Bool)(F:Fn)(EX:XS)(e:Expr)(m:E):Prop where
 o:SE X cA aq aj F EX e m
structure JA(X:Cx)(cA:Cl)(aq:Nat->Nat->Bool)(aj:Bool)(F:Fn)(EX:XS)(e:List Expr)(m:Es):Prop where
 o:SA X cA aq aj F EX e m
structure JT(X:Cx)(cA:Cl)(aq:Nat->Nat->Bool)(aj:Bool)(F:Fn)(EX:XS)(e:Expr)(m:E):Prop where
 o:ST X cA aq aj F EX e m
structure JW(X:Cx)(cA:Cl)(aq:Nat->Nat->Bool)(aj:Bool)(F:Fn)(EX:XS)(e:Expr)(m:E):Prop where
 o:SW X cA aq aj F EX e m
structure JC(X:Cx)(cA:Cl)(aq:Nat->Nat->Bool)(aj:Bool)(F:Fn)(EX:XS)(e:List Expr)(m:Eo):Prop where
 o:Fe X cA aq aj F EX e m
structure JO(X:Cx)(cA:Cl)(aq:Nat->Nat->Bool)(aj:Bool)(F:Fn)(EX:XS)(e:Option Expr)(m:Eo):Prop where
 o:Jm X cA aq aj F EX e m
structure JI(X:Cx)(cA:Cl)(aq:Nat->Nat->Bool)(aj:Bool)(F:Fn)(EX:XS)(tg e:Expr)(m:Wk):Prop where
 o:SI X cA aq aj F EX tg e m
structure JG(X:Cx)(cA:Cl)(aq:Nat->Nat->Bool)(aj:Bool)(F:Bool->Fn)(EX:XS)(e:Expr)(m:Tg):Prop where
 o:SG X cA aq aj F EX e m
structure JS(X:Cx)(cA:Cl)(aq:Nat->Nat->Bool)(aj:Bool)(F:Bool->Fn)(EX:XS)(e:Stmt)(m:St):Prop where
 o:SS X cA aq aj F EX e m
structure JB(X:Cx)(cA:Cl)(aq:Nat->Nat->Bool)(aj:Bool)(F:Bool->Fn)(EX:XS)(e:List Stmt)(m:cg):Prop where
 o:xT X cA aq aj F EX e m
structure JK(X:Cx)(x:Str)(k:NameKind):Prop where
 o:X.env.scope.names.lookup x=some k
structure JP(X:Cx)(cA:Cl)(op:CmpOp)(p:Pr):Prop where
 o:∃r,fH X (compareOp op) r/\bF X.K cA p (r2 r)
structure JQ(X:Cx)(cA:Cl)(op:Operator)(p:Pr):Prop where
 o:∃r,fH X (binaryOp op) r/\bF X.K cA p (r2 r)
structure JN(X:Cx)(cA:Cl)(kx:Expr)(k:Kd):Prop where
 o:PE X kx (tC (E_ cA k))
structure JR(X:Cx)(EX:XS):Prop where
 o:Raises X EX
structure JH(X:Cx):Prop where
 o:PassesOwn (model X.prog X.w) X.A X.env X.xe
structure JY(X:Cx)(tg:Expr)(g:TG):Prop where
 o:PG X tg g
noncomputable def nu:NameKind->Bool
 |.local=>true
 |.cell=>true
 |_=>false
noncomputable def Cz:NameKind->Bool
 |.local=>true
 |.cell=>true
 |.free=>true
 |_=>false
section
variable {X:Cx}{cA:Cl}{aq:Nat->Nat->Bool}{aj:Bool}{F:Fn}{EX:XS}{a b c d e:Expr}{A B C Dd E':E}{pos p p2 apos:Pos}{es:List Expr}{Xs:Es}{x y:Str}{k k':NameKind}{q q1 q2 q3:Pr}{fz:Bool}
theorem zpw(h:scope.names.lookup x=some k)(hk:(match k with|.free=>false|_=>true)=true):JK (X.blk scope cl N Cc s3 H3 fp ao) x k:=
 ⟨Nj (by intro z;subst z;cases hk) h⟩
theorem g_v(i:Nat)(hN:X.N[i]?=some x)(h:JK X x k)(hv:Cz k=true)(hd:okN x=true):JE X cA aq aj F EX (.Name x pos) (.v i):=
 ⟨Zc i hN (by cases k<;>first|exact .inl h.o|exact .inr (.inl h.o)|exact .inr (.inr h.o)|cases hv) (uU hd).1 (uU hd).2.1⟩
theorem zpU(i:Nat)(hN:N[i]?=some x)(h:scope.names.lookup x=some .free)(hd:okN x=true):JE (X.blk scope cl N Cc s3 H3 fp ao) cA aq aj F EX (.Name x pos) (.v i):=
 ⟨Zc i hN (.inr (Mz h)) (uU hd).1 (uU hd).2.1⟩
theorem aR{i j p}:JE X cA aq aj F EX (.Constant (.int i) j p) (.c (.int i)):=⟨znF⟩
theorem rz{i j p}:JE X cA aq aj F EX (.Constant (.bool i) j p) (.c (.bl i)):=⟨zob⟩
theorem Fl{j p}:JE X cA aq aj F EX (.Constant .none j p) (.c .non):=⟨znM⟩
theorem Jv(h:∃t,X.mg x=some (.int i t))(hg:JK X x .globalImplicit)(hd:okN x=true):JE X cA aq aj F EX (.Name x pos) (.c (.int i)):=by
 obtain⟨t,h⟩:=h;exact⟨zkH hg.o h (uU hd).1⟩
theorem nA:JQ X cA .Add .add:=⟨_,zgr,zmZ⟩
theorem CG:JQ X cA .Sub .aq:=⟨_,zm9,zlt⟩
theorem Fp:JQ X cA .Mult .mul:=⟨_,zlJ,znx⟩
theorem zlu:JQ X cA .FloorDiv .fdiv:=⟨_,zjK,zjE⟩
theorem Jw:JQ X cA .Mod .mod:=⟨_,zm5,zmM⟩
theorem zor:JQ X cA .Pow .pow:=⟨_,zmj,zmb⟩
theorem fC(h:JQ X cA op q)(ha:JE X cA aq aj F EX a A)(hb:JE X cA aq aj F EX b B):JE X cA aq aj F EX (.BinOp a op b pos) (.pr fz q (.cons A (.cons B .nil))):=by
 obtain⟨r,h1,h2⟩:=h.o;exact⟨zmV h1 h2 ha.o hb.o⟩
theorem znY(ha:JE X cA aq aj F EX a A):JE X cA aq aj F EX (.UnaryOp .USub a pos) (.pr true .neg (.cons A .nil)):=⟨zn4 Yh zmw ha.o⟩
theorem zn3(ha:JE X cA aq aj F EX a A):JE X cA aq aj F EX (.UnaryOp .Not a pos) (.not A):=⟨znt ha.o⟩
theorem Fq{op}(ha:JE X cA aq aj F EX a A):JE X cA aq aj F EX (.BoolOp op [a] pos) A:=⟨zm4 ha.o⟩
theorem Ft{rest:List Expr}(ha:JE X cA aq aj F EX a A)(hb:JE X cA aq aj F EX (.BoolOp .And (b::rest) pos) B):JE X cA aq aj F EX (.BoolOp .And (a::b::rest) pos) (.and A B):=⟨znq ha.o hb.o⟩
theorem zpR{rest:List Expr}(ha:JE X cA aq aj F EX a A)(hb:JE X cA aq aj F EX (.BoolOp .Or (b::rest) pos) B):JE X cA aq aj F EX (.BoolOp .Or (a::b::rest) pos) (.or A B):=⟨zop ha.o hb.o⟩
theorem zK{k:Nat}(hr:bG k X.A):JP X cA .Eq .eq:=⟨_,znp (uR hr),znX⟩
theorem Nm{k:Nat}(hr:bG k X.A):JP X cA .NotEq .ne:=⟨_,znA (uR hr),zom⟩
theorem CJ{k:Nat}(hr:bG k X.A):JP X cA .Lt .lt:=⟨_,Hv.or (znh (by have:=uR hr;lia)),zoA⟩
theorem zpu:JP X cA .LtE .le:=⟨_,zoM,zoq⟩
theorem TQ:JP X cA .Gt .gt:=⟨_,zoE,zoJ⟩
theorem zpG:JP X cA .GtE .ge:=⟨_,zoo,zou⟩
theorem TV{k:Nat}(hr:bG k X.A):JP X cA .In .inn:=⟨_,zmk (uR hr),zoU⟩
theorem zoR{k:Nat}(hr:bG k X.A):JP X cA .NotIn .nin:=⟨_,zj9 (uR hr),znQ⟩
noncomputable def oU:Expr->Bool
 |.Set _ _ _=>false
 |_=>true
theorem xX(h:oU b=true):behindInMarks op b=false:=by cases b<;>first|rfl|cases h
theorem zL(ho:JP X cA op q)(ha:JE X cA aq aj F EX a A)(hb:JE X cA aq aj F EX b B)(h1:oU b=true:=by rfl):JE X cA aq aj F EX (.Compare a [op] [b] pos) (.pr true q (.cons A (.cons B .nil))):=by
 obtain⟨r,h2,h3⟩:=ho.o;exact⟨zlB h2 h3 ha.o hb.o (xX h1)⟩
theorem mj(ho:JP X cA op q)(ha:JE X cA aq aj F EX a A)(hb:JE X cA aq aj F EX b B)(h1:oU b=true:=by rfl):JT X cA aq aj F EX (.Compare a [op] [b] pos) (.pr true q (.cons A (.cons B .nil))):=by
 obtain⟨r,h2,h3⟩:=ho.o;exact⟨zlO h2 h3 ha.o hb.o (xX h1)⟩
theorem zoX(h1:JP X cA op q1)(h2:JP X cA op' q2)(ha:JE X cA aq aj F EX a A)(hb:JE X cA aq aj F EX b B)(hc:JE X cA aq aj F EX c C)(hm:oU c=true:=by rfl):JE X cA aq aj F EX (.Compare a [op,op'] [b,c] pos) (.zp q1 q2 A B C):=by
 obtain⟨r,h3,h4⟩:=h1.o;obtain⟨r',h5,h6⟩:=h2.o;exact⟨znC h3 h4 h5 h6 ha.o hb.o hc.o (xX hm)⟩
theorem zoy{j p}(ha:JE X cA aq aj F EX a A):JE X cA aq aj F EX (.Compare a [.Is] [.Constant .none j p] pos) (.pr true .vU (.cons A .nil)):=⟨zmI ha.o⟩
theorem zjc{j p}(ha:JE X cA aq aj F EX a A):JE X cA aq aj F EX (.Compare a [.IsNot] [.Constant .none j p] pos) (.pr true .tD (.cons A .nil)):=⟨zlk ha.o⟩
theorem znl{j p}(ha:JE X cA aq aj F EX a A):JT X cA aq aj F EX (.Compare a [.Is] [.Constant .none j p] pos) (.pr true .vU (.cons A .nil)):=⟨zns ha.o⟩
theorem TX{j p}(ha:JE X cA aq aj F EX a A):JT X cA aq aj F EX (.Compare a [.IsNot] [.Constant .none j p] pos) (.pr true .tD (.cons A .nil)):=⟨zkI ha.o⟩
noncomputable def zM:Expr->Bool
 |.Call _ _ _ _=>true
 |.Name _ _=>true
 |.Subscript _ _ _=>true
 |.Attribute _ _ _=>true
 |_=>false
theorem mz(ha:JE X cA aq aj F EX a A)(he:zM a=true:=by rfl):JT X cA aq aj F EX a A:=⟨zmA ha.o (by cases a<;>first|(intro _;rfl)|cases he)⟩
theorem tL(ha:JT X cA aq aj F EX a A):JT X cA aq aj F EX (.UnaryOp .Not a pos) (.not A):=⟨zms ha.o⟩
theorem zi6(ha:JT X cA aq aj F EX a A):JW X cA aq aj F EX (.BoolOp .And [a] pos) A:=⟨zlp ha.o⟩
theorem zmG(ha:JT X cA aq aj F EX a A):JW X cA aq aj F EX (.BoolOp .Or [a] pos) A:=⟨zmg ha.o⟩
theorem zmr{rest:List Expr}(ha:JT X cA aq aj F EX a A)(hb:JW X cA aq aj F EX (.BoolOp .And (b::rest) pos) B):JW X cA aq aj F EX (.BoolOp .And (a::b::rest) pos) (.and A B):=⟨zlE ha.o hb.o⟩
theorem zpC{rest:List Expr}(ha:JT X cA aq aj F EX a A)(hb:JW X cA aq aj F EX (.BoolOp .Or (b::rest) pos) B):JW X cA aq aj F EX (.BoolOp .Or (a::b::rest) pos) (.or A B):=⟨zo4 ha.o hb.o⟩
theorem Np(h:JW X cA aq aj F EX a A):JT X cA aq aj F EX a A:=⟨zpQ h.o⟩
theorem TY(hc:JT X cA aq aj F EX c C)(ha:JE X cA aq aj F EX a A)(hb:JE X cA aq aj F EX b B):JE X cA aq aj F EX (.IfExp c a b pos) (.ite C A B):=⟨zm1 hc.o ha.o hb.o⟩
theorem aH:JA X cA aq aj F EX [] .nil:=⟨zmt⟩
theorem aA(ha:JE X cA aq aj F EX a A)(hr:JA X cA aq aj F EX es Xs)(hs:aD a=true:=by rfl):JA X cA aq aj F EX (a::es) (.cons A Xs):=⟨zla ha.o hr.o (bx hs)⟩
theorem jO{k}(ha:JA X cA aq aj F EX es Xs)(hz:decide (Es.len Xs<=sizeLine)=true:=by rfl):JE X cA aq aj F EX (.Tuple es k pos) (.tup Xs):=⟨zlF ha.o (gG hz)⟩
theorem ql(ha:JA X cA aq aj F EX es Xs)(hz:decide (Es.len Xs<=sizeLine)=true:=by rfl):JE X cA aq aj F EX (.List es pos) (.lst fz Xs):=⟨zmY ha.o (gG hz)⟩
noncomputable def uZ:Expr->Bool
 |.Constant _ _ _=>true
 |.Name _ _=>true
 |.Call _ _ _ _=>true
 |.BinOp _ _ _ _=>true
 |.UnaryOp _ _ _=>true
 |.Subscript _ _ _=>true
 |.IfExp _ _ _ _=>true
 |.Attribute _ _ _=>true
 |.Compare _ _ _ _=>true
 |.BoolOp _ _ _=>true
 |_=>false
theorem cJ(ha:JE X cA aq aj F EX a A)(hb:JE X cA aq aj F EX b B)(hs:uZ b=true:=by rfl):JE X cA aq aj F EX (.Subscript a b pos) (.pr true .ix (.cons A (.cons B .nil))):=⟨znZ zoi ha.o hb.o (by cases b<;>first|(intro _ _;rfl)|cases hs)⟩
theorem T3:JO X cA aq aj F EX none .no:=⟨zo5⟩
theorem Jx(ha:JE X cA aq aj F EX a A):JO X cA aq aj F EX (some a) (.yes A):=⟨zl9 ha.o⟩
theorem Nq{lo hi:Option Expr}{Lo Hi:Eo}(ha:JE X cA aq aj F EX a A)(hl:JO X cA aq aj F EX lo Lo)(hh:JO X cA aq aj F EX hi Hi):JE X cA aq aj F EX (.Subscript a (.Slice lo hi none p2) pos) (.sl fz A Lo Hi):=⟨zn0 ha.o hl.o hh.o⟩
theorem zno(ha:JE X cA aq aj F EX a A):JE X cA aq aj F EX (.Subscript a (.Slice none none (some (.UnaryOp .USub (.Constant (.int 1) j p3) p4)) p2) pos) (.pr true .rev (.cons A .nil)):=⟨zl8 ha.o⟩
theorem zlX(f:Nat){cm:Bool}{k:Nat}{fa:Addr}{fd:FuncData}{ps:List Str}(Fo:cH X.prog X.w X.K X.mg X.base (gU X.prog X.w) cm k fa fd ps (lY X.K cA (F f)))(jF:cm=true->X.aj=true)(hr:bG k X.A)(hm:X.mg x=some (.ref fa))(hk:PySem.W.keepIn X.K (.ref fa)=true)(hb:Binds X.K fd ps [])(R:JR X EX)(hg:JK X x .globalImplicit)
  (ha:JA X cA aq aj F EX (e::es) Xs) (hd:okN x=true) (he:aD e=true:=by rfl) (hpl:es.all aD=true:=by rfl) :
  JE X cA aq aj F EX (.Call (.Name x p) (e::es) [] pos) (.call f Xs):=⟨zkB Fo jF hr hg.o hm hk hb R.o ha.o (uU hd).1 (bx he) (bC hpl)⟩
theorem Nr(hv:E_ cA kd=.ty T)(hm:X.mg x=none)(hb:bootBuiltins x=some (.type T))(hg:JK X x .globalImplicit)(hd:okN x=true):JN X cA (.Name x pos) kd:=⟨λao s Z H Q I h=>by
 rw[hv] at h;exact wL I hg.o hm hb ⟨.ty T,H,I,rfl,h⟩ (uU hd).2.2 (uU hd).1⟩
theorem Nt(h0:(uN kd).isSome=true)(hm:X.mg "isinstance"=none)(hg:JK X "isinstance" .globalImplicit)(ha:JE X cA aq aj F EX a A)(hk:JN X cA kx kd)(h1:aD a=true:=by rfl)(h2:aD kx=true:=by rfl):JE X cA aq aj F EX (.Call (.Name "isinstance" p) [a,kx] [] pos) (.qQ A kd):=
 ⟨zmq (λz=>by rw[z] at h0;cases h0) hg.o hm ha.o hk.o (bx h1) (bx h2) (bC (by rw[wG,h2];rfl))⟩
theorem zN(hm:X.mg "len"=none)(hg:JK X "len" .globalImplicit)(ha:JA X cA aq aj F EX (e::es) Xs)(he:aD e=true:=by rfl)(hpl:es.all aD=true:=by rfl):JE X cA aq aj F EX (.Call (.Name "len" p) (e::es) [] pos) (.pr fz .len Xs):=⟨xM zdP zls hg.o hm PySem.boot_len ha.o (by decide) (by decide) (bx he) (bC hpl)⟩
theorem zo2(hm:X.mg "abs"=none)(hg:JK X "abs" .globalImplicit)(ha:JA X cA aq aj F EX (e::es) Xs)(he:aD e=true:=by rfl)(hpl:es.all aD=true:=by rfl):JE X cA aq aj F EX (.Call (.Name "abs" p) (e::es) [] pos) (.pr fz .abs Xs):=⟨xM zh1 zmv hg.o hm PyProof.Rows.boot_abs ha.o (by decide) (by decide) (bx he) (bC hpl)⟩
theorem zjt(hc:X.aj=true)(hm:X.mg "max"=none)(hg:JK X "max" .globalImplicit)(ha:JA X cA aq aj F EX (e::es) Xs)(he:aD e=true:=by rfl)(hpl:es.all aD=true:=by rfl):JE X cA aq aj F EX (.Call (.Name "max" p) (e::es) [] pos) (.pr fz .max2 Xs):=⟨xM (zgA hc) zjG hg.o hm PyProof.Rows.boot_max ha.o (by decide) (by decide) (bx he) (bC hpl)⟩
theorem zjn(hc:X.aj=true)(hm:X.mg "min"=none)(hg:JK X "min" .globalImplicit)(ha:JA X cA aq aj F EX (e::es) Xs)(he:aD e=true:=by rfl)(hpl:es.all aD=true:=by rfl):JE X cA aq aj F EX (.Call (.Name "min" p) (e::es) [] pos) (.pr fz .min2 Xs):=⟨xM (zf6 hc) zlm hg.o hm PyProof.Rows.boot_min ha.o (by decide) (by decide) (bx he) (bC hpl)⟩
theorem zna(hm:X.mg "int"=none)(hg:JK X "int" .globalImplicit)(ha:JA X cA aq aj F EX (e::es) Xs)(he:aD e=true:=by rfl)(hpl:es.all aD=true:=by rfl):JE X cA aq aj F EX (.Call (.Name "int" p) (e::es) [] pos) (.pr fz .xr Xs):=⟨S7 zg9 zkT hg.o hm PyProof.Rows.boot_int ha.o (by decide) (by decide) (bx he) (bC hpl)⟩
theorem ziC(hm:X.mg "divmod"=none)(hg:JK X "divmod" .globalImplicit)(ha:JA X cA aq aj F EX (e::es) Xs)(he:aD e=true:=by rfl)(hpl:es.all aD=true:=by rfl):JE X cA aq aj F EX (.Call (.Name "divmod" p) (e::es) [] pos) (.pr fz .divmod Xs):=⟨xM zem zgO hg.o hm PyProof.Rows.boot_divmod ha.o (by decide) (by decide) (bx he) (bC hpl)⟩
theorem Nu(hc:X.aj=true)(hm:X.mg "all"=none)(hg:JK X "all" .globalImplicit)(ha:JA X cA aq aj F EX (e::es) Xs)(he:aD e=true:=by rfl)(hpl:es.all aD=true:=by rfl):JE X cA aq aj F EX (.Call (.Name "all" p) (e::es) [] pos) (.pr fz .all Xs):=⟨xM (zgR hc) zm8 hg.o hm PyProof.Rows.boot_all ha.o (by decide) (by decide) (bx he) (bC hpl)⟩
theorem ziW(hm:X.mg "list"=none)(hg:JK X "list" .globalImplicit)(ha:JA X cA aq aj F EX (e::es) Xs)(he:aD e=true:=by rfl)(hpl:es.all aD=true:=by rfl):JE X cA aq aj F EX (.Call (.Name "list" p) (e::es) [] pos) (.pr fz .list Xs):=⟨S7 zdh zk9 hg.o hm zks ha.o (by decide) (by decide) (bx he) (bC hpl)⟩
theorem zO(hm:X.mg "tuple"=none)(hg:JK X "tuple" .globalImplicit)(ha:JA X cA aq aj F EX (e::es) Xs)(he:aD e=true:=by rfl)(hpl:es.all aD=true:=by rfl):JE X cA aq aj F EX (.Call (.Name "tuple" p) (e::es) [] pos) (.pr fz .tuple Xs):=⟨S7 zdf ziq hg.o hm Nk ha.o (by decide) (by decide) (bx he) (bC hpl)⟩
theorem Nv(ho:JE X cA aq aj F EX a A)(hb:JE X cA aq aj F EX b B)(n_:attributeBase a "append" X.env (eval a X.env)=eval a X.env:=by rfl)(oh:(apos.endLine==pos.line)=true:=by rfl)(hs:aD b=true:=by rfl) :
  JE X cA aq aj F EX (.Call (.Attribute a "append" apos) [b] [] pos) (.push A B):=⟨zkm ho.o hb.o n_ (xW hs rfl rfl) oh (bx hs) rfl⟩
theorem sE:JC X cA aq aj F EX [] .no:=⟨zmU⟩
theorem vW(h:JT X cA aq aj F EX c C):JC X cA aq aj F EX [c] (.yes C):=⟨zj4 h.o⟩
theorem nM(ha:JE X cA aq aj F EX a A):JI X cA aq aj F EX tg a (.seq A):=⟨zlC ha.o⟩
theorem zo8(hmg:X.mg "range"=none)(oO:JK X "range" .globalImplicit)(ha:JE X cA aq aj F EX a A)(hb:JE X cA aq aj F EX b B)(h1:aD a=true:=by rfl)(h2:aD b=true:=by rfl):JI X cA aq aj F EX tg (.Call (.Name "range" p) [a,b] [] pos) (.rg A B):=⟨zoS oO.o hmg ha.o hb.o (bx h1) (bx h2)⟩
theorem u5(hmg:X.mg "range"=none)(oO:JK X "range" .globalImplicit)(hb:JE X cA aq aj F EX b B)(h2:aD b=true:=by rfl):JI X cA aq aj F EX tg (.Call (.Name "range" p) [b] [] pos) (.rg (.c (.int 0)) B):=⟨zmJ oO.o hmg hb.o (bx h2)⟩
noncomputable def Jy(scope:Scope)(x:Str):Bool:=match scope.names.lookup x with
 |some .local=>true
 |some .cell=>true
 |_=>false
theorem Fw(h:Jy scope x=true):Loc (X.blk scope cl N Cc s3 H3 fp ao).env.scope x/\((X.blk scope cl N Cc s3 H3 fp ao).fn x=true\/(X.blk scope cl N Cc s3 H3 fp ao).env.scope.names.lookup x=some .local):=by
 unfold Jy at h;split at h
 ·rename_i z;exact⟨.inl (lookup_relabel_local z),.inr (lookup_relabel_local z)⟩
 ·rename_i z;exact⟨.inr (Nj (by intro y;cases y) z),.inl (by show (scope.names.lookup x==some NameKind.cell)=true;rw[z];rfl)⟩
 ·cases h
theorem mC(i:Nat)(hnd:N.Nodup)(hi:N[i]?=some x)(hl:Jy scope x=true):JY (X.blk scope cl N Cc s3 H3 fp ao) (.Name x tp) (dW i):=
 ⟨Mj hnd hi (Fw hl).1 (Fw hl).2⟩
theorem Ny(i j:Nat)(hc:X.aj=true)(hnd:N.Nodup)(hi:N[i]?=some x)(hj:N[j]?=some y)(hl:Jy scope x=true)(hl2:Jy scope y=true):JY (X.blk scope cl N Cc s3 H3 fp ao) (.Tuple [.Name x px,.Name y py] kt tp) (t_ X.K 2 (iH (dW i) (iH (dW j) tZ))):=
 ⟨TF (X:=X.blk scope cl N Cc s3 H3 fp ao) hc hnd hi hj (Fw hl).1 (Fw hl2).1 (Fw hl).2 (Fw hl2).2⟩
theorem zP{scope:Scope}{XN:List Str}{M0 N:List Str}{fr:List Nat}(h:frB scope XN N fr=true):(M0++N).length=M0.length+fr.length/\∀(i:Nat) (y:Str) (j:Nat),(M0++N)[M0.length+i]?=some y->fr[i]?=some j->scope.names.lookup y=some .free/\XN[j]?=some y:=by
 obtain⟨l,q⟩:=zjh h;refine⟨by rw[iZ,l],λi y j e1 e2=>q i y j ?_ e2⟩;rw[nP (by lia)] at e1;rw[show M0.length+i-M0.length=i by lia] at e1;exact e1
theorem oV{elt iter tg:Expr}{ifs:List Expr}{scope:Scope}{cond:Eo}{aN:List Nat}{g:TG}{w:Wk}(sc:Scope)(XN M0 N:List Str)(fr:List Nat)(hc:X.aj=true)(Jz:X.env.scope=sc)(qZ:X.N=XN)(hB:sy sc scope=true)(hf:frB scope XN N fr=true)(hT:gB X.K cA g aN)(dY:aN.all (λi=>decide (i<M0.length))=true)
  (hi:JI X cA aq aj F EX tg iter w) (hg:∀cl C s3 H3 fp ao,JY (X.blk scope cl (M0++N) C s3 H3 fp ao) tg g)
  (ht:∀cl C s3 H3 fp ao,JC (X.blk scope cl (M0++N) C s3 H3 fp ao) cA aq aj F (λ_ _ _ _=>False) ifs cond) (he:∀cl C s3 H3 fp ao,JE (X.blk scope cl (M0++N) C s3 H3 fp ao) cA aq aj F (λ_ _ _ _=>False) elt B)
  (hs:∀x,foldedSetIterable iter X.env x=pure x:=by intro _;rfl):JE X cA aq aj F EX (.ListComp elt [⟨tg,iter,ifs,0⟩] scope pos) (.comp fz B aN w fr M0.length cond):=
 ⟨ZX hc (cO.of (Jz▸hB)) hi.o (zP (qZ▸hf)).1 (zP (qZ▸hf)).2 (λa b c d e f=>(hg a b c d e f).o) hT (λi hi=>gG (fj.mp dY i hi)) (λa b c d e f=>(ht a b c d e f).o) (λa b c d e f=>(he a b c d e f).o) hs⟩
theorem Kaa{scope fD:Scope}{env:Env}(h:cO scope fD):cO (relabel scope env) fD:=⟨h.kind,h.YM,λy hy z=>by
 rcases h.free y hy z with q|q
 ·exact .inl (Nj (by intro y;cases y) q)
 ·exact Mz q,h.loc⟩
theorem zkP{elt iter tg:Expr}{ifs:List Expr}{scope fD:Scope}{cond:Eo}{aN:List Nat}{g:TG}{w:Wk}{cl:List (Str×Addr)}{zQ:List Str}{Cc:Addr}{s3:Shared}{H3:Hp}{fp:List Addr}{ao:List (Addr×Obj)}(XN M0 N:List Str)(fr:List Nat)(hc:X.aj=true)(qZ:zQ=XN)(hB:sy scope fD=true)(hf:frB fD XN N fr=true)(hT:gB X.K cA g aN)(dY:aN.all (λi=>decide (i<M0.length))=true)
  (hi:JI (X.blk scope cl zQ Cc s3 H3 fp ao) cA aq aj F EX tg iter w) (hg:∀cl2 C s3' JD fp' jr,JY ((X.blk scope cl zQ Cc s3 H3 fp ao).blk fD cl2 (M0++N) C s3' JD fp' jr) tg g)
  (ht:∀cl2 C s3' JD fp' jr,JC ((X.blk scope cl zQ Cc s3 H3 fp ao).blk fD cl2 (M0++N) C s3' JD fp' jr) cA aq aj F (λ_ _ _ _=>False) ifs cond) (he:∀cl2 C s3' JD fp' jr,JE ((X.blk scope cl zQ Cc s3 H3 fp ao).blk fD cl2 (M0++N) C s3' JD fp' jr) cA aq aj F (λ_ _ _ _=>False) elt B)
  (hs:∀x,foldedSetIterable iter (X.blk scope cl zQ Cc s3 H3 fp ao).env x=pure x:=by intro _;rfl):JE (X.blk scope cl zQ Cc s3 H3 fp ao) cA aq aj F EX (.ListComp elt [⟨tg,iter,ifs,0⟩] fD pos) (.comp fz B aN w fr M0.length cond):=by
 subst qZ;exact⟨ZX (X:=X.blk scope cl zQ Cc s3 H3 fp ao) hc (Kaa (cO.of hB)) hi.o (zP hf).1 (zP hf).2 (λa b c d e f=>(hg a b c d e f).o) hT (λi hi=>gG (fj.mp dY i hi)) (λa b c d e f=>(ht a b c d e f).o) (λa b c d e f=>(he a b c d e f).o) hs⟩
theorem Fx:JR X (λ_ _ _ _=>False):=⟨zgg⟩
theorem bK{P:Program}{w:World}{K:W.Frag}{mg:Str->Option Value}{base:Heap}{N:List Str}{qual:Str}{scope:Scope}{f:Addr}{cd:Value}{A:Around}{outer:List Env}{s:Shared}{H:Hp}{E:XK}{cm:Bool} :
  JR (gK (gU P w) P w K mg base N qual scope f cd A outer s H E cm) (λ_ C dx H'=>E C dx H'):=⟨zf2⟩
theorem u6{CX:tu}{P:Program}{w:World}{K:W.Frag}{mg:Str->Option Value}{base:Heap}{N:List Str}{qual:Str}{scope:Scope}{f:Addr}{cd:Value}{A:Around}{outer:List Env}{s:Shared}{H:Hp}{E:XK}{cm:Bool} :
  JH (gK CX P w K mg base N qual scope f cd A outer s H E cm):=⟨PassesOwn.leaving⟩
end
section
variable {X:Cx}{cA:Cl}{aq:Nat->Nat->Bool}{aj:Bool}{F:Bool->Fn}{EX:XS}{a b c d e:Expr}{A B C:E}{pos p p2:Pos}{st:Stmt}{sts body orelse:List Stmt}{m:St}{ms mb me mh:cg}{es:List Expr}{Xs:Es}{x y n:Str}{k k':NameKind}
theorem zR(h:JK X x k)(hv:nu k=true):Loc X.env.scope x:=by cases k<;>first|exact .inl h.o|exact .inr h.o|cases hv
theorem zT(h:JK X x k)(hv:X.fn x=true\/k=.local):X.fn x=true\/X.env.scope.names.lookup x=some .local:=by
 rcases hv with hv|hv
 ·exact .inl hv
 ·subst hv;exact .inr h.o
theorem aO:JB X cA aq aj F EX [] .nil:=⟨zkN⟩
theorem aG(h1:JS X cA aq aj F EX st m)(h2:JB X cA aq aj F EX sts ms):JB X cA aq aj F EX (st::sts) (.cons m ms):=⟨ziR h1.o h2.o⟩
theorem CK:JS X cA aq aj F EX st .no:=⟨zoz⟩
theorem lF(ha:JE X cA aq aj (F aj) EX a A)(hs:swapsWith a none pos.line X.env=pure false:=by rfl):JS X cA aq aj F EX (.Expr a pos) (.ex A):=⟨zoc ha.o hs⟩
theorem cC(ha:JE X cA aq aj (F aj) EX a A):JS X cA aq aj F EX (.Return (some a) pos) (.ret A):=⟨zlr ha.o⟩
theorem gC(i:Nat)(hN:X.N.Nodup)(hi:X.N[i]?=some x)(hx:JK X x k)(hl:nu k=true)(ha:JE X cA aq aj (F aj) EX a A)(hs:swapsWith a (some (.Name x p)) pos.line X.env=pure false:=by rfl)(hf:X.fn x=true\/k=.local:=by first|exact .inl rfl|exact .inr rfl):JS X cA aq aj F EX (.Assign [.Name x p] a pos) (.asg (.nm i) A):=
 ⟨zlS hN hi (zR hx hl) ha.o hs (zT hx hf)⟩
theorem Nz{elt iter tg:Expr}{ifs:List Expr}{scope:Scope}{cond:Eo}{aN:List Nat}{g:TG}{w:Wk}{fz:Bool}{py spos:Pos}(i:Nat)(sc:Scope)(XN M0 N:List Str)(fr:List Nat)(hN:X.N.Nodup)(qN:X.N[i]?=some y)(hx:JK X y k)(hl:nu k=true)(hc:X.aj=true)(Jz:X.env.scope=sc)(qZ:X.N=XN)(hB:sy sc scope=true)(hf:frB scope XN N fr=true)(hT:gB X.K cA g aN)(dY:aN.all (λi=>decide (i<M0.length))=true)
  (hi:JI X cA aq aj (F aj) EX tg iter w) (hg:∀cl C s3 H3 fp ao,JY (X.blk scope cl (M0++N) C s3 H3 fp ao) tg g)
  (ht:∀cl C s3 H3 fp ao,JC (X.blk scope cl (M0++N) C s3 H3 fp ao) cA aq aj (F aj) (λ_ _ _ _=>False) ifs cond) (he:∀cl C s3 H3 fp ao,JE (X.blk scope cl (M0++N) C s3 H3 fp ao) cA aq aj (F aj) (λ_ _ _ _=>False) elt B)
  (uy:swapsWith (.ListComp elt [⟨tg,iter,ifs,0⟩] scope pos) (some (.Name y py)) spos.line X.env=pure true:=by rfl) (T4:X.fn y=true\/k=.local:=by first|exact .inl rfl|exact .inr rfl) (hs:∀x,foldedSetIterable iter X.env x=pure x:=by intro _;rfl) :
  JS X cA aq aj F EX (.Assign [.Name y py] (.ListComp elt [⟨tg,iter,ifs,0⟩] scope pos) spos) (.asg (.nm i) (.comp fz B aN w fr M0.length cond)):=
 ⟨zjY hc hN qN (zR hx hl) (zT hx T4) (cO.of (Jz▸hB)) hi.o (zP (qZ▸hf)).1 (zP (qZ▸hf)).2 (λa b c d e f=>(hg a b c d e f).o) hT (λi hi=>gG (fj.mp dY i hi)) (λa b c d e f=>(ht a b c d e f).o) (λa b c d e f=>(he a b c d e f).o) uy hs⟩
theorem Fy(i j:Nat){k0}(hc:X.aj=true)(dJ:aj=true)(hN:X.N.Nodup)(hi:X.N[i]?=some x)(hj:X.N[j]?=some y)(hx:JK X x k)(hy:JK X y k')(JF:nu k=true)(T5:nu k'=true)(ha:JE X cA aq aj (F aj) EX a A)
  (xU:X.fn x=true\/k=.local:=by first|exact .inl rfl|exact .inr rfl) (xV:X.fn y=true\/k'=.local:=by first|exact .inl rfl|exact .inr rfl)
  (hs:swapsWithSole [.Tuple [.Name x px,.Name y py] k0 pt] a pos.line X.env=pure false:=by rfl) (hw:swappedStores [.Tuple [.Name x px,.Name y py] k0 pt] a X.env=pure none:=by rfl) (h1:(assignEach [.Tuple [.Name x px,.Name y py] k0 pt] X.env).map (·.2)=[assign (.Tuple [.Name x px,.Name y py] k0 pt) X.env]:=by rfl) :
  JS X cA aq aj F EX (.Assign [.Tuple [.Name x px,.Name y py] k0 pt] a pos) (.asg (.tp [i,j]) A):=⟨zku hc dJ hN hi hj (zR hx JF) (zR hy T5) (zT hx xU) (zT hy xV) ha.o hs hw h1⟩
theorem NK(hO:JE X cA aq aj (F aj) EX oo O)(hI:JE X cA aq aj (F aj) EX ii I')(ha:JE X cA aq aj (F aj) EX a A)
  (TJ:∀v,assign (.Subscript oo ii p) X.env v=(do
   let obj <-holding [v] (eval oo X.env)
   let at_ <-holding [v,obj] (eval ii X.env)
   standAt p
   holding [v,obj,at_] (setItem obj at_ v)
   release [v,obj,at_] []):=by intro _;rfl) (hs:swapsWithSole [.Subscript oo ii p] a pos.line X.env=pure false:=by rfl) (hw:swappedStores [.Subscript oo ii p] a X.env=pure none:=by rfl)
  (h1:(assignEach [.Subscript oo ii p] X.env).map (·.2)=[assign (.Subscript oo ii p) X.env]:=by rfl):JS X cA aq aj F EX (.Assign [.Subscript oo ii p] a pos) (.asg (.aq O I') A):=⟨zl1 hO.o hI.o ha.o TJ hs hw h1⟩
theorem zmD(i j:Nat){kt k2 uc}(hc:X.aj=true)(dJ:aj=true)(hN:X.N.Nodup)(hi:X.N[i]?=some x)(hj:X.N[j]?=some y)(pL:i≠j)(hx:JK X x .local)(hy:JK X y .local)
  (ha:JE X cA aq aj (F aj) EX a A) (hb:JE X cA aq aj (F aj) EX b B) (hw:swappedStores [.Tuple [.Name x px,.Name y py] kt pt] (.Tuple [a,b] k2 uc) X.env=pure (some [x,y])) (h1:aD a=true:=by rfl) (h2:aD b=true:=by rfl)
  (hs:swapsWithSole [.Tuple [.Name x px,.Name y py] kt pt] (.Tuple [a,b] k2 uc) pos.line X.env=pure false:=by rfl):JS X cA aq aj F EX (.Assign [.Tuple [.Name x px,.Name y py] kt pt] (.Tuple [a,b] k2 uc) pos) (.par i j A B):=
 ⟨zl0 hc dJ hN hi hj pL hx.o hy.o ha.o hb.o (bx h1) (bx h2) hw hs⟩
theorem iD(hc:JT X cA aq aj (F aj) EX c C)(ht:JB X cA aq aj F EX body mb)(he:JB X cA aq aj F EX orelse me):JS X cA aq aj F EX (.If c body orelse pos) (.iff C mb me):=⟨zoH hc.o ht.o he.o⟩
theorem xY(i:Nat)(hN:X.N.Nodup)(hi:X.N[i]?=some x)(hx:JK X x k)(hl:nu k=true)(hf:X.fn x=true\/k=.local:=by first|exact .inl rfl|exact .inr rfl):JG X cA aq aj F EX (.Name x pos) (.nm i):=⟨zkO hN hi (zR hx hl) (zT hx hf)⟩
theorem zi9(i j:Nat){k0}(hc:X.aj=true)(dJ:aj=true)(hN:X.N.Nodup)(hi:X.N[i]?=some x)(hj:X.N[j]?=some y)(hx:JK X x k)(hy:JK X y k')(JF:nu k=true)(T5:nu k'=true)(xU:X.fn x=true\/k=.local:=by first|exact .inl rfl|exact .inr rfl)(xV:X.fn y=true\/k'=.local:=by first|exact .inl rfl|exact .inr rfl) :
  JG X cA aq aj F EX (.Tuple [.Name x px,.Name y py] k0 pos) (.tp [i,j]):=⟨zjT hc dJ hN hi hj (zR hx JF) (zR hy T5) (zT hx xU) (zT hy xV)⟩
theorem u9(hp:JH X)(hc:X.aj=true)(dJ:aj=true)(ha:JI X cA aq aj (F aj) EX tg a w)(hg:JG X cA aq aj F EX tg t)(hb:JB X cA aq aj F EX body mb)(hs:∀x,foldedSetIterable a X.env x=pure x:=by intro _;rfl):JS X cA aq aj F EX (.For tg a body [] pos) (.fr t w mb):=
 ⟨zm7 hp.o hc dJ ha.o hg.o hb.o hs⟩
end
theorem ziY{P:Program}{w:World}{K:W.Frag}{mg:Str->Option Value}{base:Heap}{cA:Cl}{aq:Nat->Nat->Bool}{T:Nat->Option Df}{x qual:Str}{st:Stmt}{f:Addr}{fd:FuncData}{N ps:List Str}{k n:Nat}{cm:Bool}{df:Df}(F:oR K x qual st f fd)(S:dz N ps (au st))(hT:T n=some df)(hp:df.iK=ps.length)(hm:df.many=N.length)
  (hb:∀(cdv:Value) (A:Around) (outer:List Env) (s:Shared) (H:Hp) (E:XK),bG k (A.deeper (envOfC qual (au st) s.heap.objs.size f cdv))->
   JB (gK (gU P w) P w K mg base N qual (au st) f cdv A outer s H E cm) cA aq cm (λc=>call aq T k c) (λ_ C dx H'=>E C dx H') (aK st) df.body) :
  cH P w K mg base (gU P w) cm (k+1) f fd ps (lY K cA (call aq T (k+1) cm n)):=zni F S hT hp hm λcdv A outer s H E hr=>(hb cdv A outer s H E hr).o
section
variable {K:W.Frag}{cA:Cl}{U:Ph}{H:Hp}{kvs:jd}{xs:m_}{k:List Kx}
theorem jt.len(r:jt K cA U H kvs xs):kvs.length=xs.length:=by
 induction r with
 |nil=>rfl
 |cons _ _ _ _ ih=>rw[fX,fX,ih]
theorem zj2{j:List Kx}{a:Addr}{u:Value}{r:m_}:atKey ((j,a,u)::r) k=if j=k then some (a,u) else atKey r k:=by
 unfold atKey;rw[List.find?_cons];by_cases e:j=k
 ·simp[e]
 ·simp[e]
theorem jt.at(r:jt K cA U H kvs xs):(cB k kvs=none/\atKey xs k=none)\/∃d p v,cB k kvs=some d/\atKey xs k=some p/\RelV v p.2/\Rep K cA U H d v:=by
 induction r with
 |nil=>exact .inl ⟨rfl,rfl⟩
 |@cons j d ka u v r xs hk hu hv q ih=>
  rw[zj2];unfold cB;by_cases e:j=k
  ·rw[if_pos e,if_pos e];exact .inr ⟨d,(ka,u),v,rfl,rfl,hu,hv⟩
  ·rw[if_neg e,if_neg e];exact ih
theorem jt.isSome(r:jt K cA U H kvs xs):(atKey xs k).isSome=(cB k kvs).isSome:=by
 rcases r.at (k:=k) with ⟨a,b⟩|⟨d,p,v,a,b,_⟩<;>rw[a,b]<;>rfl
theorem jt.app{kvs':jd}{xs':m_}(r:jt K cA U H kvs xs)(r':jt K cA U H kvs' xs'):jt K cA U H (kvs++kvs') (xs++xs'):=by
 induction r with
 |nil=>exact r'
 |cons a b c _ ih=>exact .cons a b c ih
theorem jt.put{ka:Addr}{u:Value}{v:V}{d:D}(r:jt K cA U H kvs xs)(hk:Rep K cA U H (ji k) (.ref ka))(hu:RelV v u)(hv:Rep K cA U H d v):jt K cA U H (jJ k d kvs) (storedH xs k ka u):=by
 unfold jJ storedH;rw[r.isSome];by_cases e:(cB k kvs).isSome=true
 ·rw[if_pos e,if_pos e];clear e
  induction r with
  |nil=>exact .nil
  |@cons j d' ka' u' v' r xs hk' hu' Q5 q ih=>
   rw[g_,g_];show jt K cA U H ((if j=k then (j,d) else (j,d'))::_) ((if j=k then (j,ka',u) else (j,ka',u'))::_);by_cases e:j=k
   ·rw[if_pos e,if_pos e];exact .cons hk' hu hv ih
   ·rw[if_neg e,if_neg e];exact .cons hk' hu' Q5 ih
 ·rw[if_neg e,if_neg e];exact r.app (.cons hk hu hv .nil)
end
section
variable {X:Cx}{cA:Cl}{ao:List (Addr×Obj)}{Z:L2.St}{H:Hp}{s:Shared}{U:Ph}{a:Addr}{kvs:jd}{xs:m_}{k:List Kx}{y v:V}{u:Value}{A:Around}{E:Value->Shared->Prop}
theorem T6(I:Inv X ao Z H s)(e:H a=some (uH a xs))(r:jt X.K cA U H kvs xs):(a==sysModules)=false/\xs.length<=sizeLine/\s.heap.DictOfH (jV X.prog X.w) a xs:=by
 have z:=(I.hok a _ e).1;obtain⟨h1,h2,o,es,ep,h3,h4,h5,h6,h7⟩:=z;refine⟨h1,h2,o,es,ep,h3,h4,h5,h6,?_,h7⟩;clear h2 h6 h7 e
 induction r with
 |nil=>exact λx hx=>nomatch hx
 |cons hk hu hv q ih=>exact List.forall_mem_cons.mpr ⟨su I hk rfl,ih⟩
theorem T7{d:D}(hk:Rep X.K cA U H (ji k) y):∃b,y=.ref b:=by cases hk;exact⟨_,rfl⟩
noncomputable def tGx(K:W.Frag)(cA:Cl)(td ty:TE):TE:=λZ H Q=>td Z H λx H1=>ty Z H1 λy H2=>∃a U kvs xs k d,x=.ref a/\H2 a=some (uH a xs)/\jt K cA U H2 kvs xs/\Rep K cA U H2 (ji k) y/\cB k kvs=some d/\∀v,Rep K cA U H2 d v->Q v H2
noncomputable def tIx(K:W.Frag)(cA:Cl)(f:Bool->Bool)(ty td:TE):TE:=λZ H Q=>ty Z H λy H1=>td Z H1 λx H2=>∃a U kvs xs k,x=.ref a/\H2 a=some (uH a xs)/\jt K cA U H2 kvs xs/\Rep K cA U H2 (ji k) y/\Q (.bl (f (cB k kvs).isSome)) H2
noncomputable def sPx(K:W.Frag)(cA:Cl)(td ty tv:TE):TS:=λD Z H=>tv Z H λv H1=>td Z H1 λx H2=>ty Z H2 λy H3=>∃a b U kvs xs k d,x=.ref a/\H3 a=some (uH a xs)/\jt K cA U H3 kvs xs/\y=.ref b/\Rep K cA U H3 (ji k) y/\Rep K cA U H3 d v/\kvs.length<sizeLine /\
 ∀u,RelV v u->D.nx Z (upd H3 a (uH a (storedH xs k b u)))
variable {o i value:Expr}{pos pos':Pos}{td ty tv:TE}
theorem zod(hu:X.A.units+5<cLine)(ho:PE X o td)(hi:PE X i ty)(hs:Cv i):PE X (.Subscript o i pos) (tGx X.K cA td ty):=by
 intro ao s Z H Q I h;refine zk0 PySem.F.slot_dict_getitem.lookup hs (aW (ho ao s Z H _ I h) λu s1 hx=>fG hx λx H1 I1 rx q1=>aW (hi ao s1 Z H1 _ I1 q1) λiv s2 ⟨y,H2,I2,ry,a,U,kvs,xs,k,d,ex,ea,rr,rk,g,q2⟩=>?_);subst ex;obtain rfl:u=Value.ref a:=rx;obtain⟨b,rfl⟩:=T7 (d:=d) rk;obtain rfl:iv=Value.ref b:=ry;obtain⟨z1,z2,dd⟩:=T6 I2 ea rr;rcases rr.at (k:=k) with ⟨z,_⟩|⟨d',p,v,z,hp,rv,rd⟩
 ·rw[g] at z;cases z
 ·rw[g] at z;cases z;exact⟨dd.typeIs,wpAny_getItem_heap (knd:=jV X.prog X.w) (show X.A.units+1+4<cLine by lia) (su I2 rk rfl) dd hp ⟨v,H2,I2.tok _,rv,q2 v rd⟩⟩
theorem zmF(hu:X.A.units+5<cLine)(hi:PE X i ty)(ho:PE X o td):PC X .NotIn i o (tIx X.K cA not ty td):=by
 intro ao s Z H Q I h;refine aW (hi ao s Z H _ I h) λiv s1 hx=>fG hx λy H1 I1 ry q1=>aW (ho ao s1 Z H1 _ I1 q1) λu s2 ⟨x,H2,I2,rx,a,U,kvs,xs,k,ex,ea,rr,rk,q2⟩=>?_;subst ex;obtain rfl:u=Value.ref a:=rx;obtain⟨b,rfl⟩:=T7 (d:=.non) rk;obtain rfl:iv=Value.ref b:=ry;obtain⟨z1,z2,dd⟩:=T6 I2 ea rr;exact wpAny_notIn_heap (knd:=jV X.prog X.w) (show X.A.units+1+4<cLine by lia) (su I2 rk rfl) z1 dd ⟨_,H2,I2.tok _,by rw[rr.isSome];rfl,q2⟩
theorem zfv{xs:m_}{b:Addr}{u:Value}:(storedH xs k b u).length<=xs.length+1:=by
 unfold storedH
 split
 ·rw[bO];lia
 ·simp
theorem zoB(hu:X.A.units+5<cLine)(ho:PE X o td)(hi:PE X i ty)(hv:PE X value tv)(hs:swapsWith value (some (.Subscript o i pos')) pos.line X.env=pure false):PS X (.Assign [.Subscript o i pos'] value pos) (sPx X.K cA td ty tv):=by
 intro ao s Z H D I h;refine wpAny_Assign_Subscript (aW (hv ao s Z H _ I h) λr s1 hx=>fG hx λv H1 I1 rv q1=>aW (ho ao s1 Z H1 _ I1 q1) λu s2 hx=>fG hx λx H2 I2 rx q2=>aW (hi ao s2 Z H2 _ I2 q2) λiv s3 ⟨y,H3,I3,ry,a,b,U,kvs,xs,k,d,ex,ea,rr,ey,rk,rd,hl,q3⟩=>?_) hs;subst ex ey;obtain rfl:u=Value.ref a:=rx;obtain rfl:iv=Value.ref b:=ry;obtain⟨z1,z2,dd⟩:=T6 I3 ea rr;have hl2:xs.length+1<=sizeLine:=by rw[<-rr.len];exact hl
 refine wpAny_setItem_heap (knd:=jV X.prog X.w) (hsz:=z2) (show X.A.units+1+4<cLine by lia) (su I3 rk rfl) dd λh' dd' hs'=>⟨Z,_,?_,q3 r rv⟩;obtain⟨q,es,ep,hq,h2,h3,h4,_,h5⟩:=dd';exact zkE I3 (by rw[ea];exact True.intro) hs' ⟨q,hq⟩ ⟨⟨z1,jo zfv hl2,q,es,ep,hq,h2,h3,h4,h5⟩,⟨q,hq⟩,λh1 h2 ⟨a1,a2,o,es,ep,a3,a4⟩ kp=>⟨a1,a2,o,es,ep,kp o a3,a4⟩⟩
theorem zn8:PE X (.Dict [] [] pos) (λ_ H Q=>∀p,H p=none->Q (.ref p) (upd H p (uH p []))):=λao s Z H Q I h=>
 wpAny_Dict_empty ⟨.ref s.heap.objs.size,_,I.laid (a:=s.heap.objs.size) (o:=uH s.heap.objs.size []) (t':=s.toks) (λ_ _ q=>cU _ q) (bU _)
  ⟨⟨Dp.mpr (Ne.symm (dN I.big)),wI _,_,#[],0,fO _ rfl,⟨rfl,rfl,rfl⟩,rfl,rfl,DR⟩,⟨_,fO _ rfl⟩,λh1 h2 ⟨a1,a2,o,es,ep,a3,a4⟩ kp=>⟨a1,a2,o,es,ep,kp o a3,a4⟩⟩,rfl,h _ (I.hok.fresh (bU _))⟩
end
section
variable {X:Cx}{cA:Cl}{aq:Nat->Nat->Bool}{aj:Bool}{F:Fn}{EX:XS}{a b:Expr}{A B:E}{pos p:Pos}{K:W.Frag}{U:Ph}{H:Hp}{s:S}
theorem T8{β:Type}{x:Xv}{v:V}{k:List Kx->M β}{P:β->S->Ph->Hp->Prop}{Ee:Nat->List D->S->Ph->Hp->Prop}(r:aV K cA U H x v)(h:Run K cA (M.bd (key x) k) U H s P Ee):∃kx,Rep K cA U H (ji kx) v/\Run K cA (k kx) U H s P Ee:=by
 cases r with
 |l _=>exact h.elim
 |@d y _ r=>
  obtain⟨kx,e,h2⟩:=Ey (o:=kOf y) h;rw[znL e] at r;exact⟨kx,r,h2⟩
theorem T9{β:Type}{x:Xv}{v:V}{k:Nat×jd->M β}{P:β->S->Ph->Hp->Prop}{Ee:Nat->List D->S->Ph->Hp->Prop}(hS:aF K cA U H s)(r:aV K cA U H x v)(h:Run K cA (M.bd (gq x) k) U H s P Ee) :
  ∃n ad kvs xs,x=.l n/\v=.ref ad/\s[n]?=some (.dct kvs)/\U.l[n]?=some ad/\H ad=some (uH ad xs)/\jt K cA U H kvs xs/\Run K cA (k (n,kvs)) U H s P Ee:=by
 cases r with
 |d _=>exact h.elim
 |@l n ad hl=>
  unfold Run M.bd gq at h;dsimp only at h;cases e:s[n]? with
  |none=>rw[e] at h;exact h.elim
  |some o=>
   rw[e] at h;cases o with
   |dct kvs=>
    obtain⟨xs,q1,q2⟩:=hS.obj n _ _ e hl;exact⟨n,ad,kvs,xs,rfl,rfl,e,hl,q1,q2,h⟩
   |_=>exact h.elim
theorem zmO{k:Nat}(hr:bG k X.A)(ha:JE X cA aq aj F EX a A)(hb:JE X cA aq aj F EX b B)(hs:Cv b:=by exact λ_ _=>rfl):JE X cA aq aj F EX (.Subscript a b pos) (.pY A B):=⟨PE.weak (zod (cA:=cA) (by have:=hr.un;lia) ha.o hb.o hs) λZ H Q hh=>un hh λU J s hL hS h=>by
 refine bw hL hS h λx H1 U1 d1 s1 x1 hL1 aJ r1 h1=>bw hL1 aJ h1 λy H2 U2 d2 s2 x2 hL2 aQ r2 h2=>?_;obtain⟨kx,rk,h3⟩:=T8 r2 h2;obtain⟨n,ad,kvs,xs,_,rfl,e1,e2,e3,rr,h4⟩:=T9 aQ (r1.mono x2 aJ.lz) h3;have h4:Run X.K cA (M.opt ((cB kx kvs).map Xv.d)) U2 H2 s2 (λd _ U' H'=>∀v,aV X.K cA U' H' d v->Q v H') (eX X.K cA EX Z):=h4;cases e:cB kx kvs with
 |none=>rw[e] at h4;exact h4.elim
 |some d=>
  rw[e] at h4;exact⟨ad,U2,kvs,xs,kx,d,rfl,e3,rr,rk,e,λv rv=>h4.bN aQ v (.d rv)⟩⟩
theorem zjI{b':Bool}{Z:L2.St}{Q:VK}(f:Bool->Bool)(hf:∀c,f c=(c==b'))(hh:tE X.K cA EX (ev aq aj F (.BZ b' A B)) Z H Q):tIx X.K cA f (tE X.K cA EX (ev aq aj F A)) (tE X.K cA EX (ev aq aj F B)) Z H Q:=un hh λU J s hL hS h=>by
 refine bw hL hS h λx H1 U1 d1 s1 x1 hL1 aJ r1 h1=>bw hL1 aJ h1 λy H2 U2 d2 s2 x2 hL2 aQ r2 h2=>?_;obtain⟨kx,rk,h3⟩:=T8 (r1.mono x2 aJ.lz) h2;obtain⟨n,ad,kvs,xs,_,rfl,e1,e2,e3,rr,h4⟩:=T9 aQ r2 h3;refine⟨ad,U2,kvs,xs,kx,rfl,e3,rr,rk,?_⟩;rw[hf];exact h4.bN aQ _ (.d (.bl _))
theorem zhl{m:Vs->M Xv}{Z:L2.St}{Q:Bool->Hp->Prop}(hh:qW K cA EX (λJ=>M.bd (m J) bool) Z H Q):tE K cA EX m Z H λx H1=>∃c,x=.bl c/\Q c H1:=un hh λU J s hL hS h=>
 ⟨U,J,s,hL,hS,h.bd.imp λd s1 U1 H1 ⟨_,r1,h1⟩ v rv=>zhZ r1 rv h1⟩
theorem znv{k:Nat}(hr:bG k X.A)(ha:JE X cA aq aj F EX a A)(hb:JE X cA aq aj F EX b B)(h1:oU b=true:=by rfl):JT X cA aq aj F EX (.Compare a [.NotIn] [b] pos) (.BZ false A B):=⟨PT.weak (QC (zmF (cA:=cA) (by have:=hr.un;lia) ha.o hb.o) (xX h1)) λZ H Q hh=>zjI not (λc=>by cases c<;>rfl) (zhl hh)⟩
theorem zmu:JE X cA aq aj F EX (.Dict [] [] pos) .rT:=⟨PE.weak zn8 λZ H Q hh=>un hh λU J s hL hS h p hp=>
 h (U.add p) _ (Ext.add hp) (hS.Je hp ⟨[],jT,.nil⟩) _ (.l (by show (U.l++[p])[s.length]?=_;rw[<-hS.len];simp))⟩
end
section
variable {X:Cx}{cA:Cl}{aq:Nat->Nat->Bool}{aj:Bool}{F:Bool->Fn}{EX:XS}{a oo ii:Expr}{A O I':E}{pos p:Pos}
theorem zng{k:Nat}(hr:bG k X.A)(hO:JE X cA aq aj (F aj) EX oo O)(hI:JE X cA aq aj (F aj) EX ii I')(ha:JE X cA aq aj (F aj) EX a A)(hs:swapsWith a (some (.Subscript oo ii p)) pos.line X.env=pure false:=by rfl) :
  JS X cA aq aj F EX (.Assign [.Subscript oo ii p] a pos) (.dput O I' A):=⟨PS.weak (zoB (cA:=cA) (by have:=hr.un;lia) hO.o hI.o ha.o hs) λD Z H hh=>un hh λU J s hL hS h=>by
 refine bw hL hS (aZ.ofM hL hS.lz h) λz H1 U1 d1 s1 x1 hL1 aJ r1 h1=>?_;obtain⟨w,_,lu,h2⟩:=M9 r1 h1;refine bw hL1 aJ h2 λx H2 U2 d2 s2 x2 hL2 aQ r2 h3=>bw hL2 aQ h3 λy H3 U3 d3 s3 x3 oN gO r3 h4=>?_;obtain⟨kx,rk,h5⟩:=T8 r3 h4;obtain⟨n,ad,kvs,xs,_,rfl,e1,e2,e3,rr,h6⟩:=T9 gO (r2.mono x3 aQ.lz) h5;obtain⟨b,rfl⟩:=T7 (X:=X) (d:=.non) rk;have rw3:=(lu.mono x2 aJ.lz).mono x3 aQ.lz;by_cases hz:kvs.length<sizeLine
 ·refine⟨ad,b,U3,kvs,xs,kx,w,rfl,e3,rr,rfl,rk,rw3,hz,λu ru=>?_⟩;have h6:Run X.K cA (if kvs.length<sizeLine then putD n (jJ kx w kvs) else M.no) U3 H3 s3 _ _:=h6;rw[if_pos hz] at h6;have x4:Ext U3 H3 U3 (upd H3 ad (uH ad (storedH xs kx b u))):=Ext.write e2 ⟨_,e3⟩;have rS:=gO.uI (so:=.dct (jJ kx w kvs)) (ho:=uH ad (storedH xs kx b u)) (dO.mp e1).1 e2 ⟨_,jT,(rr.put rk ru rw3).map λ_ _ r=>r.mono x4 gO.lz⟩;obtain⟨x5,r5,h7⟩:=h6 U3 _ x4 rS;exact h7 U3 _ Z Ext.refl rS (oN.mono x4 gO.lz)
 ·have h6:Run X.K cA (if kvs.length<sizeLine then putD n (jJ kx w kvs) else M.no) U3 H3 s3 _ _:=h6;rw[if_neg hz] at h6;exact h6.elim⟩
end
end Mi
namespace Mi
open PySem PySem.Spec PyProof.Rows L2 PySem.W
theorem zm3{fd:FuncData}{x:Str}{st:Stmt}(h:nR fd=vL x st):fd=fnOf x x (aX st) (aK st) (au st) .none fd.kwdefaults fd.doc fd.pyModule fd.annotations fd.code fd.closureTuple:=by
 cases fd;unfold nR vL at h;cases h;rfl
noncomputable def iQ(K:Frag)(x:Str):Addr:=match Ax K x with
 |some p=>p.1
 |none=>0
noncomputable def fdOf(K:Frag)(x:Str)(st:Stmt):FuncData:=match Ax K x with
 |some p=>p.2
 |none=>vL x st
structure FnAt(K:Frag)(x:Str)(st:Stmt):Prop where
 ns:nsIn K mainGlobals x=some (some (.ref (iQ K x)))
 fn:oR K x x st (iQ K x) (fdOf K x st)
theorem zn7{K:Frag}{x:Str}{st:Stmt}(h:(Ax K x).map (λp=>nR p.2)=some (vL x st)):FnAt K x st:=by
 cases e:Ax K x with
 |none=>rw[e] at h;cases h
 |some p=>
  rw[e] at h;have hp:nR p.2=vL x st:=cR h;have h1:iQ K x=p.1:=by unfold iQ;rw[e]
  have h2:fdOf K x st=p.2:=by unfold fdOf;rw[e]
  unfold Ax at e;split at e
  ·rename_i f hf;split at e
   ·rename_i oc od fd sl hl;split at e
    ·rename_i hc;cases e;rw[g8] at hc;refine⟨by rw[h1];exact hf,?_⟩;rw[h1,h2];exact⟨⟨oc,od,_,_,_,_,_,_,sl,zm3 hp,hl,hc.1⟩,hc.2⟩
    ·cases e
   ·cases e
  ·cases e
theorem FnAt.m{K:Frag}{x:Str}{st:Stmt}(F:FnAt K x st){h:Heap}{mg:Str->Option Value}(X:K.In h)(G:h.Ns mainGlobals mg):mg x=some (.ref (iQ K x)):=mg_of X G F.ns
theorem zoV{K:Frag}{x:Str}(h:tW K x=true){hp:Heap}{mg:Str->Option Value}(X:K.In hp)(G:hp.Ns mainGlobals mg):mg x=some (.ref (eN K x)):=by
 refine mg_of X G ?_;unfold tW at h;unfold eN;split at h
 ·rename_i C e;rw[e]
 ·cases h
theorem NP{K:Frag}{x:Str}{i:Int}(h:mK K (x,i)=true){hp:Heap}{mg:Str->Option Value}(X:K.In hp)(G:hp.Ns mainGlobals mg):∃t,mg x=some (.int i t):=by
 unfold mK at h;split at h
 ·rename_i j t e;rw[Gu] at h;subst h;exact⟨t,mg_of X G e⟩
 ·cases h
theorem qm{K:Frag}{x:Str}(h:qD K x=true){hp:Heap}{mg:Str->Option Value}(X:K.In hp)(G:hp.Ns mainGlobals mg):mg x=none:=by
 refine mg_none_of X G ?_;unfold qD at h;split at h
 ·rename_i e;exact e
 ·cases h
structure zU(l:Lk)(K:Frag):Prop where
 cl:∀x∈l.GP,tW K x=true
 cs:l.GP.isEmpty=true\/yP K (l.L K)=true
 ra:∀k∈l.Xw,GK K (jf (l.L K) k)=true
 ca:∀k∈l.Xx,subB K (l.L K) k=true
 it:∀p∈l.yQ,mK K p=true
 no:∀x∈l.Xu,qD K x=true
theorem Kab{l:Lk}{K:Frag}(h:l.good K=true):zU l K:=by
 unfold Lk.good at h;simp only[g8,Gw,fj] at h;obtain⟨⟨⟨⟨⟨h1,h2⟩,h3⟩,h4⟩,h5⟩,h6⟩:=h;exact⟨h1,h2,h3,h4,h5,h6⟩
theorem xZ{K:Frag}{x:Str}{st:Stmt}{f:Addr}{fd:FuncData}{p:Str}(F:oR K x x st f fd)(h:∀(kV doc pm:Value) (an:Option Addr) (cdv ct a:Value),bindArgs (fnOf x x (aX st) (aK st) (au st) .none kV doc pm an cdv ct) ⟨[a],[]⟩=pure [(p,a)]):Binds K fd [p] []:=by
 obtain⟨oc,od,kV,doc,pm,an,cdv,ct,osl,rfl,lk,kY⟩:=F.ex;exact Cy (h kV doc pm an cdv ct)
theorem yc{K:Frag}{x:Str}{st:Stmt}{f:Addr}{fd:FuncData}{p q:Str}(F:oR K x x st f fd)(h:∀(kV doc pm:Value) (an:Option Addr) (cdv ct a b:Value),bindArgs (fnOf x x (aX st) (aK st) (au st) .none kV doc pm an cdv ct) ⟨[a,b],[]⟩=pure [(p,a),(q,b)]):Binds K fd [p,q] []:=by
 obtain⟨oc,od,kV,doc,pm,an,cdv,ct,osl,rfl,lk,kY⟩:=F.ex;exact uW (h kV doc pm an cdv ct)
theorem yd{K:Frag}{x:Str}{st:Stmt}{f:Addr}{fd:FuncData}{p q t:Str}(F:oR K x x st f fd)(h:∀(kV doc pm:Value) (an:Option Addr) (cdv ct a b c:Value),bindArgs (fnOf x x (aX st) (aK st) (au st) .none kV doc pm an cdv ct) ⟨[a,b,c],[]⟩=pure [(p,a),(q,b),(t,c)]):Binds K fd [p,q,t] []:=by
 obtain⟨oc,od,kV,doc,pm,an,cdv,ct,osl,rfl,lk,kY⟩:=F.ex;exact uX (h kV doc pm an cdv ct)
theorem yg{K:Frag}{x:Str}{st:Stmt}{f:Addr}{fd:FuncData}{p q t u:Str}(F:oR K x x st f fd)(h:∀(kV doc pm:Value) (an:Option Addr) (cdv ct a b c d:Value),bindArgs (fnOf x x (aX st) (aK st) (au st) .none kV doc pm an cdv ct) ⟨[a,b,c,d],[]⟩=pure [(p,a),(q,b),(t,c),(u,d)]):Binds K fd [p,q,t,u] []:=by
 obtain⟨oc,od,kV,doc,pm,an,cdv,ct,osl,rfl,lk,kY⟩:=F.ex;exact uY (h kV doc pm an cdv ct)
theorem CP{K:Frag}{x:Str}{st:Stmt}{f:Addr}{fd:FuncData}{p:Str}(F:oR K x x st f fd)(h:∀(kV doc pm:Value) (an:Option Addr) (cdv ct a:Value),bindArgs (fnOf x x (aX st) (aK st) (au st) .none kV doc pm an cdv ct) ⟨[a],[]⟩=pure [(p,a)]):∀(s:Shared) (u:Value),BindsTo s fd ⟨[u],[]⟩ [(p,u)]:=by
 obtain⟨oc,od,kV,doc,pm,an,cdv,ct,osl,rfl,lk,kY⟩:=F.ex;exact λs u=>.of_eq (h kV doc pm an cdv ct u)
end Mi
namespace Mi
open PySem PySem.Spec PyProof.Rows L2
theorem zdB:∀{is:List Nat} {ds:List α} {J J':List (Option α)},gA is ds J=some J'->∀j,j∉is->J'[j]?=J[j]?
 |[],[],J,J',e,j,_=>by cases e;rfl
 |[],_::_,J,J',e,j,_=>by cases e
 |_::_,[],J,J',e,j,_=>by cases e
 |i::is,d::ds,J,J',e,j,h=>by
  have h1:=zdB (is:=is) (ds:=ds) e j (λz=>h (iz _ z));rw[h1,qy (λz=>h (by rw[z];exact lJ))]
theorem zia{tg:List Nat}{x:D}{J J':Vs}(e:dj tg x J=some J')(j:Nat)(h:j∉tg):J'[j]?=J[j]?:=by
 unfold dj at e;split at e
 ·cases e;rw[qy (λz=>h (by simp[z]))]
 ·cases ht:j_ x with
  |none=>rw[ht] at e;cases e
  |some ds=>rw[ht] at e;exact zdB e j h
theorem ziH{many:Nat}{fr:List Nat}{J:Vs}{i:Nat}(h:i<many):(blk many fr J)[i]?=some none:=by
 unfold blk;rw[mF (by simpa using h),Ad,if_pos h]
section
variable {K:W.Frag}{cA:Cl}{U U' kh:Ph}{H H' nj:Hp}{s:S}
theorem Ext.put{Dd:Addr}{us vs:List V}(x:Ext U H U' (upd H' Dd (.lst us)))(k:Keep U H Dd us):Ext U (upd H Dd (.lst vs)) U' (upd H' Dd (.lst vs)):=by
 obtain⟨r,er,hr⟩:=x.more;have nD:∀b,H b=none->b≠Dd:=λb e z=>by rw[z,k.at_] at e;cases e
 refine⟨⟨r,er,λb hb=>by rw[dD (nD b (hr b hb))];exact hr b hb⟩,x.rZ,λa z=>?_,λa o e n=>?_,λa o e=>?_⟩
 ·rcases x.lE a z with z|z
  ·exact .inl z
  ·exact .inr (by rw[dD (nD a z)];exact z)
 ·by_cases z:a=Dd
  ·subst z;rw[jT] at e ⊢;exact e
  ·rw[dD z] at e ⊢;have:=x.frame a o e n;rw[dD z] at this;exact this
 ·by_cases z:a=Dd
  ·subst z;exact⟨_,jT⟩
  ·rw[dD z] at e ⊢;have:=x.stay a o e;rw[dD z] at this;exact this
theorem aY.slots{Z Z':L2.St}{J:Vs}{is:List Nat}(h:aY K cA U H Z J)(hl:Z'.length=Z.length)(he:∀j,j∉is->Z'[j]?=Z[j]?)(hn:∀i∈is,∀x,J[i]?≠some (some x)):aY K cA U H Z' J:=by
 refine⟨hl.trans h.1,λi x e=>?_⟩;obtain⟨v,a,b⟩:=h.2 i x e;exact⟨v,by rw[he i λz=>hn i z x e];exact a,b⟩
end
section
variable {X:Cx}{cA:Cl}{aq:Nat->Nat->Bool}{aj:Bool}{F:Fn}{EX:XS}{elt iter tg iter₂ tg₂:Expr}{A B:E}{pos p:Pos}{ifs:List Expr}{scope:Scope}{N:List Str}{cond:Eo}{fr aN aN₂:List Nat}{many:Nat}{fz:Bool}{w w₂:Wk}
theorem zli{K:W.Frag}{g:TG}{U1 U':Ph}{H1 H':Hp}{s':S}{Z3:L2.St}{J':Vs}{Dd:Addr}{acc:List D}{vs:List V}{β:Type}{kk:List D->M β}{P:β->S->Ph->Hp->Prop}{Ee:Nat->List D->S->Ph->Hp->Prop}{c:Src}{n:Nat}{bM:It}
  (hT:gB K cA g aN) (dY:∀i∈aN,i<many) (rN:∀i∈aN,∀x,J'[i]?≠some (some x)) (hD:H1 Dd=none) (x2:Ext U1 H1 U' H') (hL:aY K cA U' H' Z3 J') (aQ:aF K cA U' H' s') (kp:Keep U' H' Dd vs) (pH:aC K cA U' H' acc vs) (hJ:jN K cA c U' H' bM)
  (h:Run K cA (M.bd (walk c (bW aq aj F B cond aN J') (n+1) 0 acc) kk) U1 H1 s' P Ee) {Nn:L2.St->Hp->Prop}
  (hN:∀Z4 H4 U4 s4 JL vs4,Z4.length=Z3.length->(∀i,i∉aN->Z4[i]?=Z3[i]?)->Ext U1 H1 U4 H4->Ext U' H' U4 (upd H4 Dd (.lst vs))->aF K cA U4 H4 s4->Keep U4 H4 Dd vs4->aC K cA U4 H4 JL vs4->Run K cA (kk JL) U1 H1 s4 P Ee->Nn Z4 H4) :
  R3 g (qW K cA (λ_ _ _ _=>False) (m9 aq aj F cond)) (tE K cA (λ_ _ _ _=>False) (ev aq aj F B)) Dd bM Z3 H' Nn:=by
 refine⟨λi m JM nj=>m=n+1-i/\(JM.length=Z3.length/\∀j,j∉aN->JM[j]?=Z3[j]?)/\∃kh s'' gY vs'',Ext U1 H1 kh nj/\Ext U' H' kh (upd nj Dd (.lst vs))/\aF K cA kh nj s''/\Keep kh nj Dd vs''/\aC K cA kh nj gY vs'' /\
  Run K cA (M.bd (walk c (bW aq aj F B cond aN J') (n+1-i) i gY) kk) U1 H1 s'' P Ee,⟨n+1,rfl,⟨rfl,λ_ _=>rfl⟩,U',s',acc,vs,x2,by rw[Fg kp.at_];exact Ext.refl,aQ,kp,pH,h⟩,?_⟩
 rintro i m JM nj ⟨rfl,hZ,kh,s'',gY,vs'',x3,xb,gO,k3,r3,h3⟩;have ox:cM kh (upd nj Dd (.lst vs)) nj:=λa o e nz=>by
  rw[dD (λz=>nz (by rw[z];exact k3.z))] at e;exact e
 have oN:aY K cA kh nj JM J':=((hL.mono xb aQ.lz).out ox).slots hZ.1 hZ.2 rN;cases ek:n+1-i with
 |zero=>rw[ek] at h3;exact h3.elim
 |succ k=>
  rw[ek] at h3;cases ei:c.at i s'' with
  |none=>
   exfalso
   unfold Run M.bd walk at h3;simp only[ei] at h3
  |some oi=>
   cases oi with
   |none=>
    refine .inl ⟨hJ.stop kh _ nj s'' i xb ox gO ei,?_⟩;have h4:Run K cA (kk gY) U1 H1 s'' P Ee:=by
     unfold Run M.bd walk at h3;simp only[ei] at h3;exact h3
    exact hN JM nj kh s'' gY vs'' hZ.1 hZ.2 x3 xb gO k3 r3 h4
   |some xi=>
    refine .inr ⟨hJ.go kh _ nj s'' i xi xb ox gO ei,λZ2 H2=>(Z2.length=Z3.length/\∀j,j∉aN->Z2[j]?=Z3[j]?)/\∃kh s'' gY vs'',Ext U1 H1 kh H2/\Ext U' H' kh (upd H2 Dd (.lst vs))/\aF K cA kh H2 s''/\Keep kh H2 Dd vs''/\aC K cA kh H2 gY vs'' /\
     Run K cA (M.bd (walk c (bW aq aj F B cond aN J') k (i+1) gY) kk) U1 H1 s'' P Ee,λZ2 H2 hn=>⟨k,by omega,by omega,hn.1,?_⟩,λv H2 hy=>?_⟩
    ·have:n+1-(i+1)=k:=by omega
     rw[this];exact hn.2
    ·obtain⟨gr,rx⟩:=hJ.ud kh _ nj s'' i xi v H2 xb ox gO ei hy;have h4:Run K cA (M.bd (bW aq aj F B cond aN J' xi gY) λacc'=>M.bd (walk c (bW aq aj F B cond aN J') k (i+1) acc') kk) U1 H1 s'' P Ee:=by
      have h5:=Tt (m':=M.bd (bW aq aj F B cond aN J' xi gY) λacc'=>walk c (bW aq aj F B cond aN J') k (i+1) acc') (by rw[walk];simp only[ei]) h3;rw[gM] at h5;exact h5
     have kg:=k3.mono gr.ext;have xg:Ext U' H' kh (upd H2 Dd (.lst vs)):=xb.trans (Ext.put (us:=vs'') (vs:=vs) (by rw[Fg kg.at_];exact gr.ext) k3);refine sG hT (x3.trans gr.ext) hD (oN.mono gr.ext gO.lz) (gO.grow gr) kg (r3.mono gr.ext gO.lz) rx h4 λZ3' H3 U3 s3 nq xR l3 f3 x3' xe T_ k3' r3' h6=>⟨⟨l3.trans hZ.1,λj hj=>(f3 j hj).trans (hZ.2 j hj)⟩,U3,s3,nq,xR,x3',xg.trans (Ext.put (us:=vs'') (vs:=vs) xe kg),T_,k3',r3',h6⟩
where
 sG {K:W.Frag} {g:TG} {U1 U':Ph} {H1 H2:Hp} {s':S} {Z':L2.St} {Jb:Vs} {Dd:Addr} {acc:List D} {vs:List V} {xi:D} {v:V} {β:Type} {kk:List D->M β} {P:β->S->Ph->Hp->Prop} {Ee:Nat->List D->S->Ph->Hp->Prop} (hT:gB K cA g aN)
  (x2:Ext U1 H1 U' H2) (hD:H1 Dd=none) (hL2:aY K cA U' H2 Z' Jb) (aQ:aF K cA U' H2 s') (kp:Keep U' H2 Dd vs) (pH:aC K cA U' H2 acc vs) (rx:Rep K cA U' H2 xi v)
  (h:Run K cA (M.bd (bW aq aj F B cond aN Jb xi acc) kk) U1 H1 s' P Ee) {Nn:L2.St->Hp->Prop}
  (hN:∀Z3 H3 U3 s3 nq xR,Z3.length=Z'.length->(∀i,i∉aN->Z3[i]?=Z'[i]?)->Ext U1 H1 U3 H3->Ext U' H2 U3 (upd H3 Dd (.lst vs))->aF K cA U3 H3 s3->Keep U3 H3 Dd xR->aC K cA U3 H3 nq xR->Run K cA (kk nq) U1 H1 s3 P Ee->Nn Z3 H3) :
  g v Z' H2 λZ3 H3=>qW K cA (λ_ _ _ _=>False) (m9 aq aj F cond) Z3 H3 λok H4=>
   if ok=true then tE K cA (λ_ _ _ _=>False) (ev aq aj F B) Z3 H4 λy H5=>∃ys,H5 Dd=some (.lst ys)/\ys.length<sizeLine/\Nn Z3 (upd H5 Dd (.lst (ys++[y]))) else Nn Z3 H4:=by
  unfold bW at h;rw[gM] at h;obtain⟨J',e1,h1⟩:=Ey h;refine hT.run U' H2 s' Z' Jb J' xi v _ hL2 aQ rx e1 λZ3 oN zJ Fj=>?_;rw[gM] at h1;refine⟨U',J',s',oN,aQ,(Js x2 h1).imp λok s4 U4 H4 ⟨x4,qX,h6⟩=>?_⟩;cases ok with
  |false=>
   refine iF (hN Z3 H4 U4 s4 acc vs zJ Fj (x2.trans x4) (by rw[Fg (kp.mono x4).at_];exact x4) qX (kp.mono x4) (pH.mono x4 aQ.lz) ?_);rw[if_neg (by decide)] at h6;exact h6
  |true=>
   rw[if_pos rfl,gM] at h6;refine iT ⟨U4,J',s4,oN.mono x4 aQ.lz,qX,(Js (x2.trans x4) h6).imp λy s5 U5 H5 ⟨x5,Ju,h7⟩ u ru=>?_⟩;rw[gM] at h7;have k5:=(kp.mono x4).mono x5;have r5:=(pH.mono x4 aQ.lz).mono x5 qX.lz;have Tv:=(x2.trans x4).trans x5;obtain⟨dd,ey,rd,h8⟩ : ∃d,y=.d d/\Rep K cA U5 H5 d u/\Run K cA (M.bd (if acc.length<sizeLine then M.ret (acc++[d]) else M.no) kk) U1 H1 s5 P Ee:=by
    cases ru with
    |l _=>exact h7.elim
    |d r=>exact⟨_,rfl,r,h7⟩
   by_cases hz:acc.length<sizeLine
   ·rw[if_pos hz] at h8;refine⟨vs,k5.at_,by rw[<-r5.len];exact hz,?_⟩;have ox:cM U5 H5 (upd H5 Dd (.lst (vs++[u]))):=k5.ext.1;exact hN Z3 _ U5 s5 (acc++[dd]) (vs++[u]) zJ Fj (Ext.keep (vs:=vs) Tv hD) (by rw[Xz,Fg k5.at_];exact x4.trans x5) (Ju.keep k5) k5.ext.2 ((r5.app (.cons rd .nil)).out ox) h8
   ·rw[if_neg hz] at h8;exact h8.elim
noncomputable abbrev gZ(aq:Nat->Nat->Bool)(aj:Bool)(F:Fn)(B:E)(cond:Eo)(aN aN₂:List Nat)(w₂:Wk)(Jb:Vs):D->List D->M (List D):=λd acc=>M.bd (M.opt (dj aN d Jb)) λJ'=>M.bd (M.qt (iB aq aj F w₂ J')) λqd=>
    walk qd.1 (bW aq aj F B cond aN₂ J') (qd.2+1) 0 acc
theorem zfy{g₁ g:TG}(hT:gB X.K cA g₁ aN)(dY:∀i∈aN,i<many)(hT₂:gB X.K cA g aN₂)(dY₂:∀i∈aN₂,i<many)(CQ:∀i∈aN₂,i∉aN){Z:L2.St}{H:Hp}{Q:VK}(hh:tE X.K cA EX (ev aq aj F (.lU fz B aN w aN₂ w₂ fr many cond)) Z H Q) :
  uz (tI X.K cA EX (iB aq aj F w)) (bI many fr) g₁ (tI X.K cA (λ_ _ _ _=>False) (iB aq aj F w₂)) g (qW X.K cA (λ_ _ _ _=>False) (m9 aq aj F cond)) (tE X.K cA (λ_ _ _ _=>False) (ev aq aj F B)) Z H Q:=un hh λU J s hL hS h=>by
 by_cases dJ:aj=true
 ·have h:Run X.K cA (if aj=true then M.bd (iB aq aj F w J) λcn=>M.bd (walk cn.1 (gZ aq aj F B cond aN aN₂ w₂ (blk many fr J)) (cn.2+1) 0 []) λxs=>newL fz xs else M.no) U H s (λd _ U' H'=>∀v,aV X.K cA U' H' d v->Q v H') (eX X.K cA EX Z):=h;rw[if_pos dJ] at h;refine⟨U,J,s,hL,hS,h.bd.imp λcn s1 U1 H1 ⟨x1,aJ,h1⟩ bM hJ=>?_⟩;have hL1:=hL.mono x1 hS.lz;obtain⟨c,n⟩:=cn;dsimp only at h1 hJ;intro Dd hD;obtain⟨x0,Tw,k0⟩:=ZV aJ hD;have Cw:∀{Z':L2.St},(Z'.length=many+fr.length/\∀i,many<=i->Z'[i]?=(bI many fr Z)[i]?)->∀{U' H'},Ext U1 H1 U' H'->aY X.K cA U' H' Z' (blk many fr J):=λ{Z'} hZ {U' H'} x=>ZR (hL1.mono x aJ.lz) hZ.1 λi j v e1 e2=>by
   rw[hZ.2 _ (by omega)];unfold bI;rw[nP (by simp),Gi,fQ,show many+i-many=i by omega,e1];simp[e2]
  refine⟨λi m Z' H'=>m=n+1-i/\(Z'.length=many+fr.length/\∀i,many<=i->Z'[i]?=(bI many fr Z)[i]?)/\∃U' s' acc vs,Ext U1 H1 U' H'/\aF X.K cA U' H' s'/\Keep U' H' Dd vs/\aC X.K cA U' H' acc vs /\
   Run X.K cA (M.bd (walk c (gZ aq aj F B cond aN aN₂ w₂ (blk many fr J)) (n+1-i) i acc) λxs=>newL fz xs) U1 H1 s' (λd _ U' H'=>∀v,aV X.K cA U' H' d v->Q v H') (eX X.K cA EX Z),⟨n+1,rfl,⟨by simp[bI],λi _=>rfl⟩,U1.mark Dd,s1,[],[],x0,Tw,k0,.nil,h1⟩,?_⟩
  rintro i m Z' H' ⟨rfl,hZ,U',s',acc,vs,x2,aQ,kp,pH,h3⟩;have hL2:=Cw hZ x2;cases ek:n+1-i with
  |zero=>rw[ek] at h3;exact h3.elim
  |succ k=>
   rw[ek] at h3;cases ei:c.at i s' with
   |none=>
    exfalso
    unfold Run M.bd walk at h3;simp only[ei] at h3
   |some oi=>
    cases oi with
    |none=>
     refine .inl ⟨hJ.stop U' H' H' s' i x2 cM.refl aQ ei,?_⟩;have h4:Run X.K cA (newL fz acc) U1 H1 s' (λd _ U' H'=>∀v,aV X.K cA U' H' d v->Q v H') (eX X.K cA EX Z):=by
      unfold Run M.bd walk at h3;simp only[ei] at h3;exact h3
     exact ZS h4 x2 hD (aJ.nz hD) aQ kp pH
    |some xi=>
     refine .inr ⟨hJ.go U' H' H' s' i xi x2 cM.refl aQ ei,λZ2 H2=>(Z2.length=many+fr.length/\∀i,many<=i->Z2[i]?=(bI many fr Z)[i]?)/\∃U' s' acc vs,Ext U1 H1 U' H2/\aF X.K cA U' H2 s'/\Keep U' H2 Dd vs/\aC X.K cA U' H2 acc vs /\
      Run X.K cA (M.bd (walk c (gZ aq aj F B cond aN aN₂ w₂ (blk many fr J)) k (i+1) acc) λxs=>newL fz xs) U1 H1 s' (λd _ U' H'=>∀v,aV X.K cA U' H' d v->Q v H') (eX X.K cA EX Z),λZ2 H2 hn=>⟨k,by omega,by omega,hn.1,?_⟩,λv H2 hy=>?_⟩
     ·have:n+1-(i+1)=k:=by omega
      rw[this];exact hn.2
     ·obtain⟨gr,rx⟩:=hJ.ud U' H' H' s' i xi v H2 x2 cM.refl aQ ei hy;have h4:Run X.K cA (M.bd (M.opt (dj aN xi (blk many fr J))) λJ'=>M.bd (M.qt (iB aq aj F w₂ J')) λqd=>M.bd (walk qd.1 (bW aq aj F B cond aN₂ J') (qd.2+1) 0 acc) λacc'=>M.bd (walk c (gZ aq aj F B cond aN aN₂ w₂ (blk many fr J)) k (i+1) acc') λxs=>newL fz xs) U1 H1 s' (λd _ U' H'=>∀v,aV X.K cA U' H' d v->Q v H') (eX X.K cA EX Z):=by
       have h5:=Tt (m':=M.bd (gZ aq aj F B cond aN aN₂ w₂ (blk many fr J) xi acc) λacc'=>walk c (gZ aq aj F B cond aN aN₂ w₂ (blk many fr J)) k (i+1) acc') (by rw[walk];simp only[ei]) h3;rw[gM] at h5;unfold gZ at h5;rw[gM] at h5;have e:(λJ'=>M.bd (M.bd (M.qt (iB aq aj F w₂ J')) λqd=>walk qd.1 (bW aq aj F B cond aN₂ J') (qd.2+1) 0 acc) λacc'=>M.bd (walk c (gZ aq aj F B cond aN aN₂ w₂ (blk many fr J)) k (i+1) acc') λxs=>newL fz xs)=λJ'=>M.bd (M.qt (iB aq aj F w₂ J')) λqd=>M.bd (walk qd.1 (bW aq aj F B cond aN₂ J') (qd.2+1) 0 acc) λacc'=>M.bd (walk c (gZ aq aj F B cond aN aN₂ w₂ (blk many fr J)) k (i+1) acc') λxs=>newL fz xs:=funext λJ'=>gM _ _ _;rw[<-e];exact h5
      obtain⟨J',e1,h6⟩:=Ey h4;have gO:=aQ.grow gr;refine hT.run U' H2 s' Z' _ J' xi v _ (hL2.mono gr.ext aQ.lz) gO rx e1 λZ3 oN zJ Fj=>?_;have kg:=kp.mono gr.ext;have rg:=pH.mono gr.ext aQ.lz;have xg:=x2.trans gr.ext;refine⟨U',J',s',oN,gO,(Js xg h6).imp λqd s4 U4 H4 ⟨x4,qX,h7⟩ bM₂ hJ₂=>?_⟩;refine zli (many:=many) hT₂ dY₂ (λi hi x z=>?_) hD (xg.trans x4) (oN.mono x4 gO.lz) qX (kg.mono x4) (rg.mono x4 gO.lz) hJ₂ h7 λZ4 H5 U5 s5 Ua vs5 l5 f5 x5 _ Ju k5 r5 h8=>⟨⟨l5.trans (zJ.trans hZ.1),λi hi=>?_⟩,U5,s5,Ua,vs5,x5,Ju,k5,r5,h8⟩
      ·rw[zia e1 i (CQ i hi),ziH (dY₂ i hi)] at z;cases z
      ·rw[f5 i λz=>absurd (dY₂ i z) (DY.mpr hi),Fj i λz=>absurd (dY i z) (DY.mpr hi)];exact hZ.2 i hi
 ·have h:Run X.K cA (if aj=true then M.bd (iB aq aj F w J) λcn=>M.bd (walk cn.1 (gZ aq aj F B cond aN aN₂ w₂ (blk many fr J)) (cn.2+1) 0 []) λxs=>newL fz xs else M.no) U H s (λd _ U' H'=>∀v,aV X.K cA U' H' d v->Q v H') (eX X.K cA EX Z):=h;rw[if_neg dJ] at h;exact h.elim
end
section
variable {X:Cx}{cA:Cl}{aq:Nat->Nat->Bool}{aj:Bool}{F:Bool->Fn}{EX:XS}{elt iter tg iter₂ tg₂:Expr}{A B:E}{pos p:Pos}{ifs:List Expr}{scope:Scope}{N:List Str}{cond:Eo}{fr aN aN₂:List Nat}{many:Nat}{fz:Bool}{w w₂:Wk}{i:Nat}{y:Str}
theorem zhV(hc:X.aj=true)(qZ:X.N.Nodup)(qN:X.N[i]?=some y)(hx:Loc X.env.scope y)(hf:X.fn y=true\/X.env.scope.names.lookup y=some .local)(B':cO X.env.scope scope)(hi:SI X cA aq aj (F aj) EX tg iter w)(hN:N.length=many+fr.length)
  (qM:∀(i:Nat) (y:Str) (j:Nat),N[many+i]?=some y->fr[i]?=some j->scope.names.lookup y=some .free/\X.N[j]?=some y)
  (hg₁:∀cl C s3 H3 fp ao,PG (X.blk scope cl N C s3 H3 fp ao) tg g₁) (hT:gB X.K cA g₁ aN) (dY:∀i∈aN,i<many) (hi₂:∀cl C s3 H3 fp ao,SI (X.blk scope cl N C s3 H3 fp ao) cA aq aj (F aj) (λ_ _ _ _=>False) tg₂ iter₂ w₂)
  (hg:∀cl C s3 H3 fp ao,PG (X.blk scope cl N C s3 H3 fp ao) tg₂ g) (hT₂:gB X.K cA g aN₂) (dY₂:∀i∈aN₂,i<many) (CQ:∀i∈aN₂,i∉aN)
  (ht:∀cl C s3 H3 fp ao,Fe (X.blk scope cl N C s3 H3 fp ao) cA aq aj (F aj) (λ_ _ _ _=>False) ifs cond) (he:∀cl C s3 H3 fp ao,SE (X.blk scope cl N C s3 H3 fp ao) cA aq aj (F aj) (λ_ _ _ _=>False) elt B)
  (uy:swapsWith (.ListComp elt [⟨tg,iter,[],0⟩,⟨tg₂,iter₂,ifs,0⟩] scope pos) (some (.Name y py)) spos.line X.env=pure true)
  (hs₂:∀env x,foldedSetIterable iter₂ env x=pure x) (hs:∀x,foldedSetIterable iter X.env x=pure x:=by intro _;rfl) :
  SS X cA aq aj F EX (.Assign [.Name y py] (.ListComp elt [⟨tg,iter,[],0⟩,⟨tg₂,iter₂,ifs,0⟩] scope pos) spos) (.asg (.nm i) (.lU fz B aN w aN₂ w₂ fr many cond)):=
 PS.weak (zes hc qZ qN hx hf B' hi (⟨hg₁,hi₂,hg,ht,he⟩ : pX X elt tg tg₂ iter₂ ifs scope N g₁ (tI X.K cA (λ_ _ _ _=>False) (iB aq aj (F aj) w₂)) g (qW X.K cA (λ_ _ _ _=>False) (m9 aq aj (F aj) cond)) (tE X.K cA (λ_ _ _ _=>False) (ev aq aj (F aj) B))) hs₂ (ZY:=bI many fr) (λZ=>by simp[bI,hN]) (λZ i x v e1 e2=>Tz qM Z i x v e1 e2) uy hs) λD Z H hh=>un hh λU J s hL hS h=>
  zfy hT dY hT₂ dY₂ CQ ⟨U,J,s,hL,hS,(aZ.ofM hL hS.lz h).imp λd s1 U1 H1 ⟨x1,aJ,h1⟩ v rv=>h1 U1 H1 _ Ext.refl aJ ((hL.mono x1 hS.lz).set rv)⟩
noncomputable def CT(aN aN₂:List Nat)(m:Nat):Bool:=aN.all (λi=>decide (i<m))&&aN₂.all (λi=>decide (i<m) && !aN.contains i)
theorem Ub(h:CT aN aN₂ m=true):(∀i∈aN,i<m)/\(∀i∈aN₂,i<m)/\∀i∈aN₂,i∉aN:=by
 unfold CT at h;simp only[g8,fj,Gu,Bool.not_eq_true'] at h;exact⟨h.1,λi hi=>(h.2 i hi).1,λi hi z=>by have:=(h.2 i hi).2;rw[List.contains_iff_mem.mpr z] at this;cases this⟩
noncomputable def u_:Expr->Bool
 |.Call _ _ _ _=>true
 |.Name _ _=>true
 |.BinOp _ _ _ _=>true
 |.Subscript _ _ _=>true
 |.Attribute _ _ _=>true
 |_=>false
theorem zk4(h:u_ e=true):∀env x,foldedSetIterable e env x=pure x:=by cases e<;>first|(intro _ _;rfl)|cases h
theorem zjL(i:Nat)(sc:Scope)(XN M0 N:List Str)(fr:List Nat)(hN:X.N.Nodup)(qN:X.N[i]?=some y)(hx:JK X y k)(hl:nu k=true)(hc:X.aj=true)(Jz:X.env.scope=sc)(qZ:X.N=XN)(hB:sy sc scope=true)(hf:frB scope XN N fr=true)(hT:gB X.K cA g₁ aN)(hT₂:gB X.K cA g aN₂)(dY:CT aN aN₂ M0.length=true)
  (hi:JI X cA aq aj (F aj) EX tg iter w) (hg₁:∀cl C s3 H3 fp ao,JY (X.blk scope cl (M0++N) C s3 H3 fp ao) tg g₁) (hi₂:∀cl C s3 H3 fp ao,JI (X.blk scope cl (M0++N) C s3 H3 fp ao) cA aq aj (F aj) (λ_ _ _ _=>False) tg₂ iter₂ w₂) (hg:∀cl C s3 H3 fp ao,JY (X.blk scope cl (M0++N) C s3 H3 fp ao) tg₂ g)
  (ht:∀cl C s3 H3 fp ao,JC (X.blk scope cl (M0++N) C s3 H3 fp ao) cA aq aj (F aj) (λ_ _ _ _=>False) ifs cond) (he:∀cl C s3 H3 fp ao,JE (X.blk scope cl (M0++N) C s3 H3 fp ao) cA aq aj (F aj) (λ_ _ _ _=>False) elt B)
  (vd:u_ iter₂=true:=by rfl) (uy:swapsWith (.ListComp elt [⟨tg,iter,[],0⟩,⟨tg₂,iter₂,ifs,0⟩] scope pos) (some (.Name y py)) spos.line X.env=pure true:=by rfl) (T4:X.fn y=true\/k=.local:=by first|exact .inl rfl|exact .inr rfl) (hs:∀x,foldedSetIterable iter X.env x=pure x:=by intro _;rfl) :
  JS X cA aq aj F EX (.Assign [.Name y py] (.ListComp elt [⟨tg,iter,[],0⟩,⟨tg₂,iter₂,ifs,0⟩] scope pos) spos) (.asg (.nm i) (.lU fz B aN w aN₂ w₂ fr M0.length cond)):=
 ⟨zhV hc hN qN (zR hx hl) (zT hx T4) (cO.of (Jz▸hB)) hi.o (zP (qZ▸hf)).1 (zP (qZ▸hf)).2 (λa b c d e f=>(hg₁ a b c d e f).o) hT (Ub dY).1 (λa b c d e f=>(hi₂ a b c d e f).o) (λa b c d e f=>(hg a b c d e f).o) hT₂ (Ub dY).2.1 (Ub dY).2.2 (λa b c d e f=>(ht a b c d e f).o) (λa b c d e f=>(he a b c d e f).o) uy (zk4 vd) hs⟩
end
section
variable {X:Cx}{cA:Cl}{aq:Nat->Nat->Bool}{aj:Bool}{F:Fn}{EX:XS}{elt iter tg iter₂ tg₂:Expr}{A B:E}{pos p:Pos}{ifs:List Expr}{scope:Scope}{N:List Str}{cond:Eo}{fr aN aN₂:List Nat}{many:Nat}{fz:Bool}{w w₂:Wk}{i:Nat}{y:Str}
end
section
variable {K:W.Frag}{cA:Cl}{U:Ph}{H:Hp}
theorem aC.JV(r:aC K cA U H xs ys):∀l:List Nat,aC K cA U H (l.map λi=>xs.getD i .non) (l.map λi=>ys.getD i .non)
 |[]=>.nil
 |i::l=>by
  refine .cons ?_ (aC.JV r l);show Rep K cA U H (xs.getD i .non) (ys.getD i .non);cases e:xs[i]? with
  |some x=>
   obtain⟨u,e1,e2⟩:=r.get e;rw[jQ,jQ,e,e1];exact e2
  |none=>
   have e1:ys[i]?=Option.none:=r.none e;rw[jQ,jQ,e,e1];exact .non
theorem aC.mem(r:aC K cA U H xs ys):∀v∈ys,∃d∈xs,Rep K cA U H d v:=by
 intro v hv;obtain⟨i,hi,e⟩:=yJ hv;have e':ys[i]?=some v:=by rw[cX hi,e]
 cases ex:xs[i]? with
 |none=>rw[r.none ex] at e';cases e'
 |some d=>
  obtain⟨u,e1,e2⟩:=r.get ex;rw[e1] at e';cases e';exact⟨d,eZ ex,e2⟩
theorem zgs:∀{us ws:List D} {xs ys:List V},aC K cA U H us xs->aC K cA U H ws ys->∀{b:Bool},lD us ws=some b->lA xs ys=some b
 |[],ws,_,ys,r1,r2,b,h=>by
  cases r1;unfold lD at h;unfold lA;rw[<-r2.len];exact h
 |_::_,[],_,_,r1,r2,b,h=>by
  cases r2;cases r1;unfold lD at h;unfold lA;exact h
 |x::us,y::ws,_,_,r1,r2,b,h=>by
  cases r1 with
  |cons a1 b1=>
   cases r2 with
   |cons a2 b2=>
    unfold lD at h;split at h
    ·rename_i z;cases z
    ·rename_i z;cases z
    ·rename_i p ps q qs e1 e2;cases e1;cases e2;cases a1;cases a2;unfold lA;by_cases e:p=q
     ·rw[if_pos e] at h ⊢;exact zgs b1 b2 h
     ·rw[if_neg e] at h ⊢;exact h
    ·cases h
theorem zix(r:aC K cA U H xs ys)(h:(xs.all iu||xs.all gj)=true):uE K H ys (tG xs):=by
 rw[Gw] at h;rcases h with h|h
 ·left
  rw[fj] at h;refine⟨λv hv=>?_,λi j b e=>?_⟩
  ·obtain⟨d,hd,q⟩:=r.mem v hv;have:=h d hd;cases q<;>first|exact⟨_,rfl⟩|cases this
  ·unfold tG at e;cases e1:xs[i]? with
   |none=>rw[e1] at e;cases e
   |some d1=>
    cases e2:xs[j]? with
    |none=>rw[e1,e2] at e;cases d1<;>cases e
    |some d2=>
     have h1:=h d1 (eZ e1);have h2:=h d2 (eZ e2);rw[e1,e2] at e;obtain⟨v1,a1,b1⟩:=r.get e1;obtain⟨v2,a2,b2⟩:=r.get e2;cases d1<;>first|cases h1|skip
     cases d2<;>first|cases h2|skip
     cases b1;cases b2;cases e;exact⟨_,_,a1,a2,rfl⟩
 ·right
  rw[fj] at h;refine⟨λv hv=>?_,λi j b e=>?_⟩
  ·obtain⟨d,hd,q⟩:=r.mem v hv;have:=h d hd;unfold gj at this;split at this
   ·cases q with
    |tup t r'=>
     cases r' with
     |cons a1 b1=>
      cases a1;exact⟨_,_,_,rfl,t.ju⟩
   ·cases this
  ·unfold tG at e;cases e1:xs[i]? with
   |none=>rw[e1] at e;cases e
   |some d1=>
    cases e2:xs[j]? with
    |none=>rw[e1,e2] at e;cases d1<;>cases e
    |some d2=>
     have h1:=h d1 (eZ e1);have h2:=h d2 (eZ e2);rw[e1,e2] at e;obtain⟨v1,a1,b1⟩:=r.get e1;obtain⟨v2,a2,b2⟩:=r.get e2;unfold gj at h1 h2;split at h1
     ·split at h2
      ·cases b1 with
       |tup t1 r1=>
        cases b2 with
        |tup t2 r2=>exact⟨_,_,_,_,a1,a2,t1.ju,t2.ju,zgs r1 r2 e⟩
      ·cases h2
     ·cases h1
theorem zgw:bF K cA .sorted (λxs H Q=>∃l ys lt p,xs=[.ref l]/\cY K H l ys/\ys.length<64/\(2<=ys.length->uE K H ys lt/\bQ lt (PySem.W.kas_sort ys.length)=some p/\p.size=ys.length)/\∀r,H r=none->Q (.ref r) (upd H r (.lst (lB ys p)))):=by
 intro U H ds vs Q zt rs o;have o:bH K cA U H (m7 ds) Q:=o;unfold m7 at o;split at o
 ·rename_i xs _;obtain⟨v,rfl,r1⟩:=rs.one;obtain⟨z,e⟩:=o.some';obtain⟨zs,e1,e2⟩:=lH.mp e;subst e2;obtain⟨a,us,rfl,sq,q⟩ : ∃a us,v=.ref a/\cY K H a us/\aC K cA U H xs us:=r1;have hl:=q.len;unfold pG at e1;by_cases hk:(xs.all iu||xs.all gj)=true
  ·rw[if_pos hk] at e1;unfold oK at e1;by_cases h2:xs.length<2
   ·rw[if_pos h2] at e1;cases e1;refine⟨a,us,λ_ _=>none,#[],rfl,sq,by lia,λz=>absurd z (by lia),λr hr=>?_⟩;have:lB us #[]=us:=by unfold lB;rw[if_pos (by lia)]
    rw[this];exact(o.of e) r us hr q
   ·rw[if_neg h2] at e1;by_cases uD:xs.length<64
    ·rw[if_pos uD] at e1;cases ek:bQ (tG xs) (PySem.W.kas_sort xs.length) with
     |none=>rw[ek] at e1;cases e1
     |some p=>
      rw[ek] at e1;dsimp only at e1;by_cases hp:p.size=xs.length
      ·rw[if_pos hp] at e1;cases e1;refine⟨a,us,tG xs,p,rfl,sq,by lia,λ_=>⟨zix q hk,by rw[<-hl];exact ek,by lia⟩,λr hr=>?_⟩;have:lB us p=p.toList.map λi=>us.getD i .non:=by unfold lB;rw[if_neg (by lia)]
       rw[this];exact(o.of e) r _ hr (q.JV p.toList)
      ·rw[if_neg hp] at e1;cases e1
    ·rw[if_neg uD] at e1;cases e1
  ·rw[if_neg hk] at e1;cases e1
 ·exact o.elim
end
section
variable {X:Cx}{cA:Cl}{aq:Nat->Nat->Bool}{aj:Bool}{F:Fn}{EX:XS}{e:Expr}{pos p:Pos}{es:List Expr}{Xs:Es}{fz:Bool}
theorem zec:bootBuiltins "sorted"=some (.builtin "sorted"):=by decide +kernel
theorem zfg(hm:X.mg "sorted"=none)(hg:JK X "sorted" .globalImplicit)(ha:JA X cA aq aj F EX (e::es) Xs)(he:aD e=true:=by rfl)(hpl:es.all aD=true:=by rfl):JE X cA aq aj F EX (.Call (.Name "sorted" p) (e::es) [] pos) (.pr fz .sorted Xs):=⟨xM zd6 zgw hg.o hm zec ha.o (by decide) (by decide) (bx he) (bC hpl)⟩
end
section
variable {K:W.Frag}{cA:Cl}{U:Ph}{H:Hp}
theorem NQ:∀{xs:List D} {k i:Nat},(enumFrom k xs)[i]?=(xs[i]?).map λd=>.tup [.int ((k+i:Nat):Int),d]
 |[],k,i=>by simp[enumFrom]
 |x::r,k,0=>by simp[enumFrom]
 |x::r,k,i+1=>by
  unfold enumFrom;rw[Af,Af,NQ]
  congr 1
  funext d
  rw[show k+1+i=k+(i+1) by lia]
noncomputable def sH(K:W.Frag)(U:Ph)(H:Hp):Bool->Addr->List V->Prop
 |true,a,vs=>LstAt K U H a vs
 |false,a,vs=>TupAt K U H a vs
theorem sH.sk{kd:Bool}{a:Addr}{vs:List V}(h:sH K U H kd a vs):Sk kd K H a vs:=by
 cases kd
 ·exact TupAt.ju h
 ·exact LstAt.tH h
theorem sH.later{U':Ph}{H₁ H':Hp}{kd:Bool}{a:Addr}{vs:List V}(hz:∀a∈U.l,U.z a)(h:sH K U H kd a vs)(x:Ext U H U' H₁)(o:cM U' H₁ H'):sH K U' H' kd a vs:=by
 cases kd
 ·exact TupAt.later hz h x o
 ·exact LstAt.later hz h x o
theorem jN.enum{kd:Bool}{l:Addr}{xs:List D}{vs:List V}(hz:∀a∈U.l,U.z a)(h:sH K U H kd l vs)(r:aC K cA U H xs vs):jN K cA (.fix (enumFrom 0 xs)) U H (Ite K kd l):=by
 refine⟨λU' H₁ H' s' i x o hS e=>⟨vs,(h.later hz x o).sk,?_⟩,λU' H₁ H' s' i d x o hS e=>?_,λU' H₁ H' s' i d v H2 x o hS e y=>?_⟩
 ·have e:(enumFrom 0 xs)[i]?=none:=cR e;rw[NQ,Option.map_eq_none_iff] at e;exact pA.mp ((r.mono x hz).none e)
 ·have e:(enumFrom 0 xs)[i]?=some d:=cR e;rw[NQ] at e;obtain⟨d',e',_⟩:=lH.mp e;obtain⟨v,q,_⟩:=r.get e';exact⟨vs,v,(h.later hz x o).sk,q⟩
 ·have e:(enumFrom 0 xs)[i]?=some d:=cR e;rw[NQ] at e;obtain⟨d',e',rfl⟩:=lH.mp e;obtain⟨a,u,hn,rfl,rfl,hu⟩:=y;obtain⟨w,q,lu⟩:=((r.mono x hz).out o).get e';have:=hu vs (h.later hz x o).sk;rw[q] at this;cases this;have g:bD H' (upd H' a (.tup [.int i,u])):=bD.new hn;refine⟨g,?_⟩;rw[show ((0+i:Nat):Int)=(i:Int) by simp];exact .tup (.inl ⟨.inl jT,hS.nz hn⟩) (.cons (.int _) (.cons (lu.mono g.ext hS.lz) .nil))
theorem Uc(h:(Src.lW n).at i s=some o):∃xs,s[n]?=some (.lst xs)/\(xs[i]?.map λx=>D.tup [.int i,x])=o:=by
 unfold Src.at at h;dsimp only at h;cases e:s[n]? with
 |none=>rw[e] at h;cases h
 |some ob=>
  rw[e] at h;cases ob with
  |lst xs=>exact⟨xs,rfl,cR h⟩
  |_=>cases h
theorem jN.lW{a:Addr}{n:Nat}(h:U.l[n]?=some a):jN K cA (.lW n) U H (Ite K true a):=by
 refine⟨λU' H₁ H' s' i x o hS e=>?_,λU' H₁ H' s' i d x o hS e=>?_,λU' H₁ H' s' i d v H2 x o hS e y=>?_⟩
 ·obtain⟨xs,e1,e2⟩:=Uc e;rw[Option.map_eq_none_iff] at e2;obtain⟨vs,q1,q2⟩:=hS.obj n _ a e1 (x.get h);exact⟨vs,cY.of q1,pA.mp (q2.none e2)⟩
 ·obtain⟨xs,e1,e2⟩:=Uc e;obtain⟨d',e',_⟩:=lH.mp e2;obtain⟨vs,q1,q2⟩:=hS.obj n _ a e1 (x.get h);obtain⟨v,q3,_⟩:=q2.get e';exact⟨vs,v,cY.of q1,q3⟩
 ·obtain⟨xs,e1,e2⟩:=Uc e;obtain⟨d',e',rfl⟩:=lH.mp e2;obtain⟨vs,q1,q2⟩:=hS.obj n _ a e1 (x.get h);obtain⟨w,q3,lu⟩:=q2.get e';obtain⟨b,u,hn,rfl,rfl,hu⟩:=y;have:=hu vs (cY.of q1);rw[q3] at this;cases this;have g:bD H' (upd H' b (.tup [.int i,w])):=bD.new hn;exact⟨g,.tup (.inl ⟨.inl jT,hS.nz hn⟩) (.cons (.int _) (.cons (lu.mono g.ext hS.lz) .nil))⟩
end
section
variable {X:Cx}{cA:Cl}{aq:Nat->Nat->Bool}{aj:Bool}{F:Fn}{EX:XS}{a b:Expr}{A B:E}{pos pp tpos:Pos}{elts:List Expr}{kk:Nat}
theorem zkR(oO:Gl X "enumerate")(hmg:X.mg "enumerate"=none)(hb:SE X cA aq aj F EX b B)(h2:starEach [b] X.env=(false,eval b X.env)::starEach [] X.env) :
  SI X cA aq aj F EX (.Tuple elts kk tpos) (.Call (.Name "enumerate" pp) [b] [] pos) (.enum B):=PI.weak (zkK oO hmg (sZ hb yX h2) (by rw[h2];rfl)) λZ H R hh=>un hh λU J s hL hS h=>by
 refine bw hL hS h λy H2 U2 d2 s2 x2 hL2 aQ r2 h2=>?_;cases r2 with
 |@l n ad hl=>
  unfold Run oM at h2;dsimp only at h2;cases e:s2[n]? with
  |none=>rw[e] at h2;exact h2.elim
  |some o=>
   rw[e] at h2;cases o with
   |lst xs=>
    obtain⟨vs,q1,q2⟩:=aQ.obj n _ _ e hl;exact⟨true,_,_,rfl,cY.of q1,h2 U2 H2 Ext.refl aQ _ (jN.lW hl)⟩
   |_=>exact h2.elim
 |d r2=>
  cases r2 with
  |fl q r=>exact⟨true,_,_,rfl,q.tH,h2 U2 H2 Ext.refl aQ _ (jN.enum (kd:=true) aQ.lz q r)⟩
  |tup q r=>exact⟨false,_,_,rfl,q.ju,h2 U2 H2 Ext.refl aQ _ (jN.enum (kd:=false) aQ.lz q r)⟩
  |_=>exact h2.elim
theorem zhx:∀(ns:List Str) (vs:List V),((ns.zip vs).map (·.1)).Sublist ns
 |[],vs=>by simp
 |n::ns,[]=>by simp
 |n::ns,v::vs=>by
  rw[Gp,g_];exact(zhx ns vs).cons₂ n
theorem zfQ:∀{ns:List Str} {vs:List V} {i:Nat} {x:Str} {v:V},ns.Nodup->ns[i]?=some x->vs[i]?=some v->(ns.zip vs).lookup x=some v
 |ns,vs,i,x,v,hn,h1,h2=>by
  refine Y6 ?_ (zj6 h1 h2);exact List.Sublist.nodup (zhx ns vs) hn
end
section
variable {X:Cx}{cA:Cl}{aq:Nat->Nat->Bool}{aj:Bool}{F:Bool->Fn}{EX:XS}{e:Expr}{es:List Expr}{Xs:Es}{pos p:Pos}{x:Str}
end
section
variable {X:Cx}{cA:Cl}{aq:Nat->Nat->Bool}{aj:Bool}{F:Fn}{EX:XS}{a b:Expr}{A B:E}{pos p tpos:Pos}{elts:List Expr}{kk:Nat}
theorem Ud(hmg:X.mg "enumerate"=none)(oO:JK X "enumerate" .globalImplicit)(hb:JE X cA aq aj F EX b B)(h2:aD b=true:=by rfl):JI X cA aq aj F EX (.Tuple elts kk tpos) (.Call (.Name "enumerate" p) [b] [] pos) (.enum B):=⟨zkR oO.o hmg hb.o (bx h2)⟩
end
end Mi
namespace Mi
open PySem PySem.Spec PyProof.Rows L2 PySem.W
theorem zjJ{fd:FuncData}{q:Str}{st:Stmt}(h:nR fd=Ay q st):fd=fnOf "__init__" q (aX st) (aK st) (au st) .none fd.kwdefaults fd.doc fd.pyModule fd.annotations fd.code fd.closureTuple:=by
 cases fd;unfold nR Ay at h;cases h;rfl
structure JZ(K:Frag)(C:Addr)(q:Str)(st:Stmt):Prop where
 ex:∃(fI:Addr) (od:Option Addr) (kV doc pm:Value) (an:Option Addr) (cdv ct:Value) (osl:Array (Option Value)) (cd:ClassData),
  K.lookup fI=some ⟨.type "function",od,.func (fnOf "__init__" q (aX st) (aK st) (au st) .none kV doc pm an cdv ct),osl⟩/\codeIn K cdv q=true/\tV K C fI=true/\clsIn K C=some cd/\tU cd.mro=true/\cd.hasDict=true
theorem zo1{K:Frag}{C:Addr}{q:Str}{st:Stmt}(h:(GQ K C).map nR=some (Ay q st)):JZ K C q st:=by
 cases e:GQ K C with
 |none=>rw[e] at h;cases h
 |some fd=>
  rw[e] at h;have hp:nR fd=Ay q st:=cR h;unfold GQ at e;split at e
  ·rename_i cd kY;split at e
   ·rename_i f hf;split at e
    ·rename_i od fd' sl hl;split at e
     ·rename_i hc;cases e;simp only[g8] at hc;obtain⟨⟨⟨c1,c2⟩,c3⟩,c4⟩:=hc;have eq:=zjJ hp;have qn:fd.qualname=q:=by rw[eq]
      refine⟨⟨f,od,fd.kwdefaults,fd.doc,fd.pyModule,fd.annotations,fd.code,fd.closureTuple,sl,cd,?_,by rw[<-qn];exact c1,c2,kY,c3,c4⟩⟩;rw[<-eq];exact hl
     ·cases e
    ·cases e
   ·cases e
  ·cases e
theorem zoT{K:Frag}{C:Addr}{f:Str}(h:LC K C f=true):XF K C f:=by
 unfold LC at h;simp only[g8,pF] at h;obtain⟨⟨⟨⟨h1,h2⟩,h3⟩,h4⟩,h5⟩:=h;exact⟨h1,h2,h3,h4,h5⟩
structure oW(fs:List (Str×Stmt))(ms:List tX)(xs:List (Nat×Str))(l:Lk)(K:Frag):Prop where
 fn:∀p∈fs,FnAt K p.1 p.2
 gd:zU l K
 mi:∀m∈ms,JZ K (jf (l.L K) m.c) m.q m.st
 se:∀m∈ms,setB K (jf (l.L K) m.c) m.fs=true
 xf:∀x∈xs,XF K (jf (l.L K) x.1) x.2
theorem Ue{a:Nat}{o:Obj}:∀{l:List Obj} {i:Nat},((a:Addr),o)∈GR i l->i<=a/\l[a-i]?=some o/\o.isFreed=false
 |[],i,h=>by cases h
 |p::r,i,h=>by
  unfold GR at h;split at h
  ·obtain⟨h1,h2,h3⟩:=Ue h;refine⟨by lia,?_,h3⟩;rw[show a-i=(a-(i+1))+1 by lia];exact h2
  ·rename_i hf;rcases gQ.mp h with e|h
   ·cases e;exact⟨bU _,by simp,hf⟩
   ·obtain⟨h1,h2,h3⟩:=Ue h;refine⟨by lia,?_,h3⟩;rw[show a-i=(a-(i+1))+1 by lia];exact h2
theorem zcI:∀{K:Frag},K.lookup a=some o->(a,o)∈K
 |[],h=>by cases h
 |(b,p)::r,h=>by
  rw[pJ] at h;by_cases e:a=b
  ·subst e;simp only[Ak] at h;cases h;exact lJ
  ·rw[show (a==b)=false by simpa using e] at h;exact iz _ (zcI h)
theorem ziy:(bZ h).In h:=λa o e=>by
 have hm:=zcI e;unfold bZ at hm;rcases jR.mp hm with z|z
 ·unfold qF at z;split at z
  ·rename_i p hp;rcases gQ.mp z with e|z
   ·cases e;exact hp
   ·cases z
  ·cases z
 ·obtain⟨_,h2,h3⟩:=Ue (List.mem_reverse.mp z);rw[Heap.get?_some_iff];refine⟨?_,h3⟩;have:h.objs.toList[a]?=some o:=by simpa using h2
  simpa using this
end Mi
namespace Mi
open PySem PySem.Spec PyProof.Rows L2
section
variable {K:W.Frag}{cA:Cl}{U:Ph}{H:Hp}
noncomputable def jx(K:W.Frag)(U:Ph)(H:Hp):Bool->Addr->List V->Prop
 |true,a,vs=>LstAt K U H a vs
 |false,a,vs=>TupAt K U H a vs
theorem jx.sk{kd:Bool}{a:Addr}{vs:List V}(h:jx K U H kd a vs):Sk kd K H a vs:=by
 cases kd
 ·exact TupAt.ju h
 ·exact LstAt.tH h
theorem jx.later{kd:Bool}{a:Addr}{vs:List V}{U':Ph}{H₁ H':Hp}(hz:∀a∈U.l,U.z a)(h:jx K U H kd a vs)(x:Ext U H U' H₁)(o:cM U' H₁ H'):jx K U' H' kd a vs:=by
 cases kd
 ·exact TupAt.later hz h x o
 ·exact LstAt.later hz h x o
theorem Ug{xs ys:List D}{i:Nat}:(List.zipWith (λp q=>D.tup [p,q]) xs ys)[i]?=match xs[i]?,ys[i]? with
  |some p,some q=>some (.tup [p,q])
  |_,_=>none:=by
 rw[List.getElem?_zipWith];cases xs[i]?<;>cases ys[i]?<;>rfl
theorem jN.zip{k1 k2:Bool}{l1 l2:Addr}{xs ys:List D}{us vs:List V}(hz:∀a∈U.l,U.z a)(h1:jx K U H k1 l1 us)(h2:jx K U H k2 l2 vs)(r1:aC K cA U H xs us)(r2:aC K cA U H ys vs):jN K cA (.fix (List.zipWith (λp q=>D.tup [p,q]) xs ys)) U H (R9 K k1 k2 l1 l2):=by
 refine⟨λU' H₁ H' s' i x o hS e=>?_,λU' H₁ H' s' i d x o hS e=>?_,λU' H₁ H' s' i d v H2 x o hS e y=>?_⟩
 ·have e:(List.zipWith (λp q=>D.tup [p,q]) xs ys)[i]?=none:=cR e;rw[Ug] at e;refine⟨us,vs,(h1.later hz x o).sk,(h2.later hz x o).sk,?_⟩;cases ex:xs[i]? with
  |none=>exact .inl (pA.mp (r1.none ex))
  |some p=>
   cases ey:ys[i]? with
   |none=>exact .inr (pA.mp (r2.none ey))
   |some q=>rw[ex,ey] at e;cases e
 ·have e:(List.zipWith (λp q=>D.tup [p,q]) xs ys)[i]?=some d:=cR e;rw[Ug] at e;cases ex:xs[i]? with
  |none=>rw[ex] at e;cases e
  |some p=>
   cases ey:ys[i]? with
   |none=>rw[ex,ey] at e;cases e
   |some q=>
    obtain⟨u,q1,_⟩:=r1.get ex;obtain⟨v,q2,_⟩:=r2.get ey;exact⟨us,vs,u,v,(h1.later hz x o).sk,(h2.later hz x o).sk,q1,q2⟩
 ·have e:(List.zipWith (λp q=>D.tup [p,q]) xs ys)[i]?=some d:=cR e;rw[Ug] at e;cases ex:xs[i]? with
  |none=>rw[ex] at e;cases e
  |some p=>
   cases ey:ys[i]? with
   |none=>rw[ex,ey] at e;cases e
   |some q=>
    rw[ex,ey] at e;cases e;obtain⟨a,u,w,hn,rfl,rfl,hu,hw⟩:=y;obtain⟨u',q1,ru⟩:=((r1.mono x hz).out o).get ex;obtain⟨w',q2,lu⟩:=((r2.mono x hz).out o).get ey;have e1:=hu us (h1.later hz x o).sk;have e2:=hw vs (h2.later hz x o).sk;rw[q1] at e1;rw[q2] at e2;cases e1;cases e2;have g:bD H' (upd H' a (.tup [u,w])):=bD.new hn;exact⟨g,.tup (.inl ⟨.inl jT,hS.nz hn⟩) (.cons (ru.mono g.ext hS.lz) (.cons (lu.mono g.ext hS.lz) .nil))⟩
theorem zeN(r:aV K cA U H x v)(h:Run K cA (M.bd (p7 x) k) U H s P Ee) :
  ∃xs kd a vs,v=.ref a/\jx K U H kd a vs/\aC K cA U H xs vs/\Run K cA (k xs) U H s P Ee:=by
 cases r with
 |l _=>exact h.elim
 |d r=>
  cases r with
  |tup q r=>exact⟨_,false,_,_,rfl,q,r,h⟩
  |fl q r=>exact⟨_,true,_,_,rfl,q,r,h⟩
  |_=>exact h.elim
end
section
variable {X:Cx}{cA:Cl}{aq:Nat->Nat->Bool}{aj:Bool}{F:Fn}{EX:XS}{a b:Expr}{A B:E}{pos pp tpos:Pos}{elts:List Expr}{kk:Nat}
theorem zmo(oO:Gl X "zip")(hmg:X.mg "zip"=none)(ha:SE X cA aq aj F EX a A)(hb:SE X cA aq aj F EX b B)(h1:starEach [a,b] X.env=(false,eval a X.env)::starEach [b] X.env)(h2:starEach [b] X.env=(false,eval b X.env)::starEach [] X.env) :
  SI X cA aq aj F EX (.Tuple elts kk tpos) (.Call (.Name "zip" pp) [a,b] [] pos) (.zip A B):=PI.weak (zmP oO hmg (sZ ha (sZ hb yX h2) h1) (by rw[h1,h2];rfl) (by rw[h2];rfl)) λZ H R hh=>un hh λU J s hL hS h=>by
 refine bw hL hS h λx H1 U1 d1 s1 x1 hL1 aJ r1 h1=>bw hL1 aJ h1 λy H2 U2 d2 s2 x2 hL2 aQ r2 h2=>?_;obtain⟨xs,k1,l1,us,e1,q1,p1,h3⟩:=zeN (r1.mono x2 aJ.lz) h2;obtain⟨ys,k2,l2,vs,e2,q2,p2,h4⟩:=zeN r2 h3;subst e1 e2;exact⟨k1,k2,l1,l2,us,vs,rfl,q1.sk,q2.sk,(h4.bN aQ) _ (jN.zip aQ.lz q1 q2 p1 p2)⟩
theorem zok(hmg:X.mg "zip"=none)(oO:JK X "zip" .globalImplicit)(ha:JE X cA aq aj F EX a A)(hb:JE X cA aq aj F EX b B)(h1:aD a=true:=by rfl)(h2:aD b=true:=by rfl):JI X cA aq aj F EX (.Tuple elts kk tpos) (.Call (.Name "zip" p) [a,b] [] pos) (.zip A B):=⟨zmo oO.o hmg ha.o hb.o (bx h1) (bx h2)⟩
end
theorem zgG:∀k,k<=is.length->(i::is).getD (argBest (λa b=>bt ((i::is).getD a 0) ((i::is).getD b 0)) k) 0=best bt i (is.take k)
 |0,_=>rfl
 |k+1,hk=>by
  have ih:=zgG (bt:=bt) (i:=i) (is:=is) k (by lia);have hg:is[k]?=some (is[k]'(by lia)):=cX (by lia);have ht:is.take (k+1)=is.take k++[is[k]'(by lia)]:=Px (by lia);have hv:(i::is).getD (k+1) 0=is[k]'(by lia):=by
   rw[jQ,Af,hg];rfl
  unfold best at ih ⊢;rw[ht,List.foldl_append,Ls,List.foldl_nil,<-ih];rw[argBest.eq_2];generalize argBest (λa b=>bt ((i::is).getD a 0) ((i::is).getD b 0)) k=m;rw[hv];by_cases hb:bt (is[k]'(by lia)) ((i::is).getD m 0)=true
  ·rw[if_pos hb,if_pos hb,hv]
  ·rw[if_neg hb,if_neg hb]
theorem zjP{bt:Int->Int->Bool}{i:Int}{is:List Int}:(i::is).getD (argBest (λa b=>bt ((i::is).getD a 0) ((i::is).getD b 0)) is.length) 0=best bt i is:=by
 rw[zgG is.length (bU _),tQ]
section
variable {K:W.Frag}{cA:Cl}{U:Ph}{H:Hp}
theorem zcb:∀{xs:List D} {is:List Int} {vs:List V},dH xs=some is->aC K cA U H xs vs->vs=is.map V.int
 |[],is,vs,h,r=>by cases h;cases r;rfl
 |d::xs,is,vs,h,r=>by
  cases d with
  |int b=>
   simp only[dH,lH] at h;obtain⟨bs',h1,rfl⟩:=h;cases r with
   |cons q r=>cases q;rw[zcb h1 r];rfl
  |_=>simp[dH] at h
theorem zle(hp:prim p=qT bt):bF K cA p (λxs H Q=>∃(a:Addr) (i:Int) (is:List Int),xs=[.ref a]/\(cY K H a ((i::is).map V.int)\/fZ K H a ((i::is).map V.int))/\Q (.int (best bt i is)) H):=by
 intro U H ds vs Q zt rs o;rw[hp] at o;unfold qT at o;split at o
 ·rename_i a;obtain⟨v,rfl,rv⟩:=rs.one;cases e0:lC a with
  |none=>rw[e0] at o;exact o.elim
  |some xs=>
   rw[e0] at o;obtain⟨ad,us,rfl,l,q⟩:=Rv.sq rv e0;cases e1:dH xs with
   |none=>
    simp only[Ln,e1,oH] at o;exact o.elim
   |some js=>
    cases js with
    |nil=>
     simp only[Ln,e1,oH] at o;exact o.elim
    |cons i is=>
     simp only[Ln,e1,oH] at o;exact⟨ad,i,is,rfl,by rw[<-zcb e1 q];exact l,(o.of rfl).here (.int _)⟩
 ·exact o.elim
end
section
variable {X:Cx}
theorem Uh{js:List Int}{its:List Value}(rv:Vals (js.map V.int) its){i:Nat}{v:Value}(hP:its.toArray[i]?=some v):∃t,v=.int (js.getD i 0) t:=by
 have hi:its[i]?=some v:=by simpa using hP
 have cV:i<its.length:=(dO.mp hi).1;have z:=rv.length;rw[bO] at z;have hb:js[i]?=some (js[i]'(by lia)):=cX (by lia);obtain⟨u,e1,e2⟩:=rv.get (i:=i) (x:=V.int (js[i]'(by lia))) (by rw[fQ,hb];rfl);rw[hi] at e1;cases e1;obtain⟨t,e⟩:=e2;exact⟨t,by rw[e,jQ,hb];rfl⟩
theorem zgy(hc:X.aj=true):cW X (.builtin "max") (λxs H Q=>∃(a:Addr) (i:Int) (is:List Int),xs=[.ref a]/\(cY X.K H a ((i::is).map V.int)\/fZ X.K H a ((i::is).map V.int))/\Q (.int (best (λa b=>decide (a>b)) i is)) H):=by
 intro ao s Z H xs us Q I r ⟨p,i,is,e,hp,q⟩;subst e;obtain⟨u,rfl,ru⟩:=Vals.one r;cases (show u=Value.ref p from ru);have fin:∀{its:List Value},Vals ((i::is).map V.int) its->∀{v:Value} {h':Heap} {tk:Nat},its.toArray[argBest (λa b=>decide ((i::is).getD a 0>(i::is).getD b 0)) (its.toArray.size-1)]?=some v->(∀b o,s.heap.get? b=some o->h'.get? b=some o)->EP X ao Z Q v {s with heap:=h',toks:=tk}:=by
  intro its rv v h' tk hP hk;have z:is.length+1=its.length:=by have:=rv.length;rw[bO] at this;exact this
  have en:its.toArray.size-1=is.length:=by rw[fP];lia
  rw[en] at hP;obtain⟨t,ev⟩:=Uh rv hP;rw[zjP (bt:=λa b=>decide (a>b))] at ev;exact⟨.int (best (λa b=>decide (a>b)) i is),H,I.kept (h':=h') (t':=tk) hk,⟨t,ev⟩,q⟩
 rcases hp with hp|hp
 ·obtain⟨its,rv,pl,hz⟩:=I.list hp;have hl:s.heap.IsList p its.toArray:=pl.isList;have cV:p<s.heap.objs.size:=by
   obtain⟨o,hg,_⟩:=hl;exact bY hg
  have z:is.length+1=its.length:=by have:=rv.length;rw[bO] at this;exact this
  refine call_max_walk (Gs hl ?_);refine⟨_,_,_,_,_,_,_,rfl,Walks.list (A:=X.A.in1) (I.ok.hd hc) _ p (dN cV) its.toArray,⟨⟨_,fO _ rfl,rfl,rfl⟩,hl.push _⟩,?_,by rw[fP];lia,CmpOf.ints_gt (λj=>(i::is).getD j 0) (λ_ _=>Uh rv),λv h' tk hP hk=>fin rv hP (old_kept hk)⟩;intro b hb;show b<(s.heap.push _).objs.size;rw[sX];simp only[gQ,List.not_mem_nil,or_false] at hb;rcases hb with e|e
  ·exact e▸Dz _
  ·exact e▸sV cV
 ·obtain⟨its,rv,pl,hz⟩:=I.tuple hp;have hl:s.heap.IsTuple p its.toArray:=pl;have cV:p<s.heap.objs.size:=by
   obtain⟨o,hg,_⟩:=hl;exact bY hg
  have z:is.length+1=its.length:=by have:=rv.length;rw[bO] at this;exact this
  refine call_max_walk (wpAny_pyIter_tuple hl ?_);refine⟨_,_,_,_,_,_,_,rfl,Walks.tuple (A:=X.A.in1) (I.ok.hd hc) _ p (dN cV) its.toArray,⟨⟨_,fO _ rfl,rfl,rfl⟩,hl.push _⟩,?_,by rw[fP];lia,CmpOf.ints_gt (λj=>(i::is).getD j 0) (λ_ _=>Uh rv),λv h' tk hP hk=>fin rv hP (λb o e=>hk b o (by simpa using dN (bY e)) (cU _ e))⟩;intro b hb;show b<(s.heap.push _).objs.size;rw[sX];simp only[gQ,List.not_mem_nil,or_false] at hb;rcases hb with e|e
  ·exact e▸Dz _
  ·exact e▸sV cV
end
section
variable {X:Cx}{cA:Cl}{aq:Nat->Nat->Bool}{aj:Bool}{F:Fn}{EX:XS}{e:Expr}{pos p:Pos}{es:List Expr}{Xs:Es}{fz:Bool}
theorem zlw(hc:X.aj=true)(hm:X.mg "max"=none)(hg:JK X "max" .globalImplicit)(ha:JA X cA aq aj F EX (e::es) Xs)(he:aD e=true:=by rfl)(hpl:es.all aD=true:=by rfl):JE X cA aq aj F EX (.Call (.Name "max" p) (e::es) [] pos) (.pr fz .rP Xs):=⟨xM (zgy hc) (zle rfl) hg.o hm PyProof.Rows.boot_max ha.o (by decide) (by decide) (bx he) (bC hpl)⟩
end
noncomputable def Fz(i:Int)(n:Nat):List V:=(List.range n).map λk=>.int (i+(k:Nat))
theorem zjU{i:Int}{acc:Array Value}:∀{n m:Nat},(∀k v,acc.toList[k]?=some (v:Value)->∃t,v=Value.int (i+((m+k:Nat):Int)) t)->acc.toList.length=n->Vals ((List.range n).map λk=>V.int (i+((m+k:Nat):Int))) acc.toList:=by
 generalize acc.toList=l
 induction l with
 |nil=>intro n m _ e;subst e;exact .nil
 |cons v l ih=>
  intro n m h e;subst e;rw[fX,PX,g_,rG];refine .cons (h 0 v rfl) ?_;have:=ih (n:=l.length) (m:=m+1) (λk v e=>by
   have:=h (k+1) v e;rw[show m+1+k=m+(k+1) by lia];exact this) rfl
  have e:((λk=>V.int (i+((m+k:Nat):Int)))∘Nat.succ)=λk=>V.int (i+((m+1+k:Nat):Int)):=by
   funext k
   show V.int (i+((m+(k+1):Nat):Int))=_;rw[show m+(k+1)=m+1+k by lia]
  rw[e];exact this
section
variable {X:Cx}
end
section
variable {K:W.Frag}{cA:Cl}{U:Ph}{H:Hp}
theorem zf7:∀l:List Nat,aC K cA U H (l.map λk=>D.int (i+(k:Nat))) (l.map λk=>V.int (i+(k:Nat)))
 |[]=>.nil
 |_::l=>.cons (.int _) (zf7 l)
end
section
variable {X:Cx}{cA:Cl}{aq:Nat->Nat->Bool}{aj:Bool}{F:Fn}{EX:XS}{e:Expr}{pos pos' p p':Pos}{es:List Expr}{Xs:Es}{fz:Bool}
end
end Mi
namespace Mi
open PySem PySem.Spec PyProof.Rows L2 PySem.W
structure D3(K:Frag)(mg:Str->Option Value)(x:Str)(st:Stmt)(ps:List Str):Prop where
 f:oR K x x st (iQ K x) (fdOf K x st)
 m:mg x=some (.ref (iQ K x))
 b:Binds K (fdOf K x st) ps []
theorem dk{p:Prop}(h:p:=by decide +kernel):p:=h
section
variable {fs:List (Str×Stmt)}{ms:List tX}{xs:List (Nat×Str)}{lk:Lk}{K:Frag}{h:Heap}{mg:Str->Option Value}{x:Str}{st:Stmt}
theorem vX(S:oW fs ms xs lk K)(X:K.In h)(G:h.Ns mainGlobals mg)(j:Nat)(hj:fs[j]?=some (x,st):=by rfl)(hb:∀(kV doc pm:Value) (an:Option Addr) (cdv ct a:Value),bindArgs (fnOf x x (aX st) (aK st) (au st) .none kV doc pm an cdv ct) ⟨[a],[]⟩=pure [(p,a)]:=by intros;rfl):D3 K mg x st [p]:=have F:=S.fn (x,st) (eZ hj);⟨F.fn,F.m X G,xZ F.fn hb⟩
theorem kI(S:oW fs ms xs lk K)(X:K.In h)(G:h.Ns mainGlobals mg)(j:Nat)(hj:fs[j]?=some (x,st):=by rfl)(hb:∀(kV doc pm:Value) (an:Option Addr) (cdv ct a b:Value),bindArgs (fnOf x x (aX st) (aK st) (au st) .none kV doc pm an cdv ct) ⟨[a,b],[]⟩=pure [(p,a),(q,b)]:=by intros;rfl):D3 K mg x st [p,q]:=have F:=S.fn (x,st) (eZ hj);⟨F.fn,F.m X G,yc F.fn hb⟩
theorem J0(S:oW fs ms xs lk K)(X:K.In h)(G:h.Ns mainGlobals mg)(j:Nat)(hj:fs[j]?=some (x,st):=by rfl)(hb:∀(kV doc pm:Value) (an:Option Addr) (cdv ct a b c:Value),bindArgs (fnOf x x (aX st) (aK st) (au st) .none kV doc pm an cdv ct) ⟨[a,b,c],[]⟩=pure [(p,a),(q,b),(t,c)]:=by intros;rfl):D3 K mg x st [p,q,t]:=have F:=S.fn (x,st) (eZ hj);⟨F.fn,F.m X G,yd F.fn hb⟩
theorem J1(S:oW fs ms xs lk K)(X:K.In h)(G:h.Ns mainGlobals mg)(j:Nat)(hj:fs[j]?=some (x,st):=by rfl)(hb:∀(kV doc pm:Value) (an:Option Addr) (cdv ct a b c d:Value),bindArgs (fnOf x x (aX st) (aK st) (au st) .none kV doc pm an cdv ct) ⟨[a,b,c,d],[]⟩=pure [(p,a),(q,b),(t,c),(u,d)]:=by intros;rfl):D3 K mg x st [p,q,t,u]:=have F:=S.fn (x,st) (eZ hj);⟨F.fn,F.m X G,yg F.fn hb⟩
theorem mG{α:Type}{l:List α}{a:α}(j:Nat)(h:l[j]?=some a:=by rfl):a∈l:=eZ h
end
end Mi
namespace Mi
open PySem PySem.Spec PyProof.Rows L2
section
variable {X:Cx}{cA:Cl}
end
section
variable {X:Cx}{cA:Cl}{aq:Nat->Nat->Bool}{aj:Bool}{F:Fn}{EX:XS}{e:Expr}{pos p:Pos}{es:List Expr}{Xs:Es}{fz:Bool}
end
end Mi
namespace Mi
open PySem
def W{α:Type}(m:M α)(s:S)(P:α->S->Prop):Prop:=∃a s',m s=some (.ok a,s')/\P a s'
def WS(m:MS)(s:S)(Q:Out->S->Prop):Prop:=∃o s',m s=some (o,s')/\Q o s'
section
variable {α β:Type}{m:M α}{k:α->M β}{s:S}{P:α->S->Prop}{R:β->S->Prop}
theorem W.bd(h:W m s λa s'=>W (k a) s' R):W (M.bd m k) s R:=by
 obtain⟨a,s',e,b,s2,e2,r⟩:=h;exact⟨b,s2,by unfold M.bd;rw[e];exact e2,r⟩
theorem W.ret{a:α}(h:P a s):W (M.ret a) s P:=⟨a,s,rfl,h⟩
theorem W.qt(h:W m s P):W (M.qt m) s P:=by
 obtain⟨a,s',e,p⟩:=h;exact⟨a,s',by unfold M.qt;rw[e],p⟩
theorem W.opt(e:o=some a)(h:P a s):W (M.opt o) s P:=by subst e;exact⟨a,s,rfl,h⟩
theorem W.imp{P':α->S->Prop}(h:W m s P)(f:∀a s',P a s'->P' a s'):W m s P':=let ⟨a,s',e,p⟩:=h;⟨a,s',e,f a s' p⟩
theorem W.eq(e:m s=some (.ok a,s'))(p:P a s'):W m s P:=⟨a,s',e,p⟩
theorem Ka3{d:D}{P:D->S->Prop}(h:P d s):W (rd (.d d)) s P:=⟨d,s,rfl,h⟩
theorem Ka4{n:Nat}{xs:List D}{P:D->S->Prop}(e:s[n]?=some (.lst xs))(h:P (.fl xs) s):W (rd (.l n)) s P:=⟨.fl xs,s,by unfold rd;simp only[e],h⟩
theorem Ka6{P:List D->S->Prop}(h:P [] s):W (gW []) s P:=⟨[],s,rfl,h⟩
theorem Ka5{x:Xv}{r:List Xv}{P:List D->S->Prop}(h:W (rd x) s λd s1=>W (gW r) s1 λds s2=>P (d::ds) s2):W (gW (x::r)) s P:=W.bd (h.imp λd s1 h1=>W.bd (h1.imp λds s2 h2=>W.ret h2))
theorem Kay{P:List D->S->Prop}(h:P [] s):W (cL []) s P:=⟨[],s,rfl,h⟩
theorem Kax{d:D}{r:List Xv}{P:List D->S->Prop}(h:W (cL r) s λds s2=>P (d::ds) s2):W (cL (.d d::r)) s P:=W.bd (W.ret (W.bd (h.imp λds s2 h2=>W.ret h2)))
theorem W.dat{x:D}{P:D->S->Prop}(h:P x s):W (dat (.d x)) s P:=⟨x,s,rfl,h⟩
theorem W.bool{b:Bool}{P:Bool->S->Prop}(h:P b s):W (bool (.d (.bl b))) s P:=⟨b,s,rfl,h⟩
theorem W.int{b:Int}{P:Int->S->Prop}(h:P b s):W (int (.d (.int b))) s P:=⟨b,s,rfl,h⟩
theorem fW{fz:Bool}{o:Option Rz}{d:D}{P:Xv->S->Prop}(e:o=some (.dat d))(h:P (.d d) s):W (cF fz o) s P:=by subst e;exact⟨_,s,rfl,h⟩
theorem yh{o:Option Rz}{xs:List D}{P:Xv->S->Prop}(e:o=some (.nw xs))(h:P (.d (.fl xs)) s):W (cF true o) s P:=by subst e;exact⟨_,s,rfl,h⟩
theorem KaT{xs:List D}{P:Xv->S->Prop}(h:P (.d (.fl xs)) s):W (newL true xs) s P:=⟨_,s,rfl,h⟩
theorem KaS{xs:List D}{P:Xv->S->Prop}(h:P (.l s.length) (s++[.lst xs])):W (newL false xs) s P:=⟨_,_,rfl,h⟩
theorem qp{F:List Xv->M Xv}{xs:List Xv}{P:Xv->S->Prop}(hl:locs xs=[])(h:W (F (dX 0 xs)) [] λv _=>∃d,v=.d d/\P (.d d) s):W (cP F xs) s P:=by
 obtain⟨v,s1,e,d,rfl,p⟩:=h;refine⟨.d d,s,?_,p⟩;unfold cP;rw[hl,if_pos DR];simp only[jL,e,dI]
theorem Kan{F:List Xv->M Xv}{xs:List Xv}{P:Xv->S->Prop}(hl:locs xs=[])(h:W (F (dX 0 xs)) [] λv s1=>∃n o,v=.l n/\s1[n]?=some o/\P (.l s.length) (s++[o])):W (cP F xs) s P:=by
 obtain⟨v,s1,e,n,o,rfl,eo,p⟩:=h;refine⟨.l s.length,s++[o],?_,p⟩;unfold cP;rw[hl,if_pos DR];simp only[jL,e,dI,List.getElem?_nil,eo]
theorem Ui{F:List Xv->M Xv}{xs:List Xv}{n:Nat}{o:SO}{P:Xv->S->Prop}(hl:locs xs=[n])(ho:s[n]?=some o)(h:W (F (dX 0 xs)) [o] λv s1=>∃d o',v=.d d/\s1=[o']/\P (.d d) (s.set n o')):W (cP F xs) s P:=by
 obtain⟨v,s1,e,d,o',rfl,rfl,p⟩:=h;refine⟨.d d,s.set n o',?_,p⟩;unfold cP;rw[hl,if_pos (by simp)];simp only[jL,ho,e,dI]
end
section
variable {s:S}{Q:Out->S->Prop}
theorem WS.ofM(h:W m s λa s'=>WS (k a) s' Q):WS (Mi.ofM m J k) s Q:=by
 obtain⟨a,s',e,o,s2,e2,q⟩:=h;exact⟨o,s2,by unfold Mi.ofM;rw[e];exact e2,q⟩
theorem WS.nx(h:Q (.nx J) s):WS (λs=>some (.nx J,s)) s Q:=⟨_,s,rfl,h⟩
theorem WS.rt(h:Q (.rt x) s):WS (λs=>some (.rt x,s)) s Q:=⟨_,s,rfl,h⟩
end
theorem W.call(hT:T f=some d)(hl:xs.length=d.iK)
  (h:WS (exs aq aj (λc=>Mi.call aq T k c) d.body (xs.map some++List.replicate (d.many-d.iK) none)) s λo s'=>match o with|.nx _=>P (.d .non) s'|.rt v=>P v s'|_=>False):W (Mi.call aq T (k+1) aj f xs) s P:=by
 obtain⟨o,s',e,q⟩:=h;unfold Mi.call;simp only[hT,if_pos hl];unfold W;simp only[e];cases o with
 |nx J=>exact⟨_,_,rfl,q⟩
 |rt v=>exact⟨_,_,rfl,q⟩
 |bk J=>exact q.elim
 |ct J=>exact q.elim
 |er c fs J=>exact q.elim
theorem vY(I:Nat->Vs->S->Prop)(h0:I 0 J s)(hb:∀i x J s,c[i]?=some x->I i J s->WS (b x J) s λo s'=>∃J',o=.nx J'/\I (i+1) J' s')
  (he:∀J s,I c.length J s->Q (.nx J) s):WS (c7 (.fix c) b (c.length+1) 0 J) s Q:=by
 have key:∀n i J s,i+n=c.length->I i J s->WS (c7 (.fix c) b (n+1) i J) s Q:=by
  intro n
  induction n with
  |zero=>
   intro i J s hi hI;have e:c[i]?=none:=by rw[pA];lia
   have:i=c.length:=by lia
   subst this;refine⟨_,s,?_,he J s hI⟩;unfold c7;simp only[Src.at,e]
  |succ n ih=>
   intro i J s hi hI;have cV:i<c.length:=by lia
   have e:c[i]?=some c[i]:=cX cV;obtain⟨o,s',eb,J',rfl,yj⟩:=hb i c[i] J s e hI;obtain⟨o2,s2,e2,q⟩:=ih (i+1) J' s' (by lia) yj;refine⟨o2,s2,?_,q⟩;unfold c7;simp only[Src.at,e,eb];exact e2
 exact key c.length 0 J s (by lia) h0
theorem zn6{i j:Int}(h:(-(2^64)<i/\i<2^64)\/(-(2^64)<j/\j<2^64)):prim .mul [.int i,.int j]=some (.dat (.int (i*j))):=by
 show Option.map _ (if _ then _ else _)=_;rw[if_pos h];rfl
theorem zoQ{i j:Int}(h:0<j):prim .mod [.int i,.int j]=some (.dat (.int (i%j))):=by
 show Option.map _ (if _ then _ else _)=_;rw[if_pos h];rfl
theorem zme{i j:Int}(h:0<j/\j<1073741824):prim .fdiv [.int i,.int j]=some (.dat (.int (i/j))):=by
 show Option.map _ (if _ then _ else _)=_;rw[if_pos h];rfl
theorem zis{i j:Int}(h:0<j/\j<1073741824):prim .divmod [.int i,.int j]=some (.dat (.tup [.int (i/j),.int (i%j)])):=by
 show Option.map _ (if _ then _ else _)=_;rw[if_pos h];rfl
theorem zoL{i j:Int}(h:0<=j/\j<=1000000/\i.natAbs<2^64):prim .pow [.int i,.int j]=some (.dat (.int (i^j.toNat))):=by
 show Option.map _ (if _ then _ else _)=_;rw[if_pos h];rfl
theorem NT{xs:List D}{i:Nat}{x:D}(h:xs[i]?=some x):prim .ix [.fl xs,.int i]=some (.dat x):=by
 show Option.map Rz.dat (L2.qJ xs i)=_;have:L2.qJ xs (i:Int)=some x:=by
  unfold L2.qJ L2.rO;have hl:i<xs.length:=(dO.mp h).1;simp[hl];exact(dO.mp h).2
 rw[this];rfl
theorem FJ(h:xs.length+ys.length<=sizeLine):prim .add [.fl xs,.fl ys]=some (.nw (xs++ys)):=by
 show (if _ then _ else _)=_;rw[if_pos h]
theorem W.ite[Decidable c](h1:c->W m1 s P)(h2:¬c->W m2 s P):W (if c then m1 else m2) s P:=by
 by_cases h:c
 ·rw[if_pos h];exact h1 h
 ·rw[if_neg h];exact h2 h
theorem WS.ite[Decidable c](h1:c->WS m1 s P)(h2:¬c->WS m2 s P):WS (if c then m1 else m2) s P:=by
 by_cases h:c
 ·rw[if_pos h];exact h1 h
 ·rw[if_neg h];exact h2 h
theorem Uj{n:Nat}{xs:List D}{s:S}{P:Unit->S->Prop}(h:P () (s.set n (.lst xs))):W (putL n xs) s P:=⟨_,_,rfl,h⟩
theorem W.dh{n:Nat}{xs:List D}{s:S}{P:Nat×List D->S->Prop}(e:s[n]?=some (.lst xs))(h:P (n,xs) s):W (dh (.l n)) s P:=⟨_,s,by unfold Mi.dh;simp only[e],h⟩
theorem Ka8{xs:List D}{s:S}{P:Src×Nat->S->Prop}(h:P (.fix xs,xs.length) s):W (src (.d (.tup xs))) s P:=⟨_,s,rfl,h⟩
theorem Ka7{xs:List D}{s:S}{P:Src×Nat->S->Prop}(h:P (.fix xs,xs.length) s):W (src (.d (.fl xs))) s P:=⟨_,s,rfl,h⟩
theorem WS.nil{aq:Nat->Nat->Bool}{aj:Bool}{F:Bool->Fn}{J:Vs}{s:S}{Q:Out->S->Prop}(h:Q (.nx J) s):WS (exs aq aj F .nil J) s Q:=⟨_,s,rfl,h⟩
theorem WS.cons{aq:Nat->Nat->Bool}{aj:Bool}{F:Bool->Fn}{a:St}{r:cg}{J:Vs}{s:S}{Q:Out->S->Prop}(h:WS (ex aq aj F a J) s λo s'=>match o with|.nx J'=>WS (exs aq aj F r J') s' Q|.rt x=>Q (.rt x) s'|_=>False):WS (exs aq aj F (.cons a r) J) s Q:=by
 obtain⟨o,s',e,q⟩:=h;unfold WS exs Mi.cQ;rw[e];cases o with
 |nx J'=>exact q
 |rt x=>exact⟨_,_,rfl,q⟩
 |bk _=>exact q.elim
 |ct _=>exact q.elim
 |er _ _ _=>exact q.elim
def sI{α:Type}(o:Option α)(P:α->Prop):Prop:=∃a,o=some a/\P a
theorem sI.mk{α:Type}{o:Option α}{P:α->Prop}{a:α}(e:o=some a)(h:P a):sI o P:=⟨a,e,h⟩
section
variable {aq:Nat->Nat->Bool}{aj:Bool}{F:Fn}{J:Vs}{s:S}{P:Xv->S->Prop}
theorem W.eC{d:D}(h:P (.d d) s):W (ev aq aj F (.c d) J) s P:=W.ret h
theorem W.eV{i:Nat}{x:Xv}(e:J[i]?.join=some x)(h:P x s):W (ev aq aj F (.v i) J) s P:=W.opt e h
theorem KaJ{fz:Bool}{p:Pr}{xs:Es}(h:W (evs aq aj F xs J) s λvs s1=>W (gW vs) s1 λds s2=>W (cF fz (prim p ds)) s2 P):W (ev aq aj F (.pr fz p xs) J) s P:=W.bd (h.imp λ_ _ h=>W.bd h)
theorem KaA{a b:E}(h:W (ev aq aj F a J) s λx s1=>W (Mi.bool x) s1 λk s2=>W (if k=true then ev aq aj F b J else M.ret (.d (.bl false))) s2 P):W (ev aq aj F (.and a b) J) s P:=W.bd (h.imp λ_ _ h=>W.bd h)
theorem KaI{a b:E}(h:W (ev aq aj F a J) s λx s1=>W (Mi.bool x) s1 λk s2=>W (if k=true then M.ret (.d (.bl true)) else ev aq aj F b J) s2 P):W (ev aq aj F (.or a b) J) s P:=W.bd (h.imp λ_ _ h=>W.bd h)
theorem KaH{a:E}(h:W (ev aq aj F a J) s λx s1=>W (Mi.bool x) s1 λk s2=>P (.d (.bl (!k))) s2):W (ev aq aj F (.not a) J) s P:=W.bd (h.imp λ_ _ h=>W.bd (h.imp λ_ _ h=>W.ret h))
theorem KaL{xs:Es}(h:W (evs aq aj F xs J) s λvs s1=>W (cL vs) s1 λds s2=>P (.d (.tup ds)) s2):W (ev aq aj F (.tup xs) J) s P:=W.bd (h.imp λ_ _ h=>W.bd (h.imp λ_ _ h=>W.ret h))
theorem KaG{fz:Bool}{xs:Es}(h:W (evs aq aj F xs J) s λvs s1=>W (cL vs) s1 λds s2=>W (newL fz ds) s2 P):W (ev aq aj F (.lst fz xs) J) s P:=W.bd (h.imp λ_ _ h=>W.bd h)
theorem KaD{k:Str}{i:Int}(h:P (.d (.fd [.str k] [.int i])) s):W (ev aq aj F (.Iv k i) J) s P:=W.ret h
theorem KaB{f:Nat}{xs:Es}(h:W (evs aq aj F xs J) s λvs s1=>W (cP (F f) vs) s1 P):W (ev aq aj F (.call f xs) J) s P:=W.bd h
theorem KaK{fz:Bool}{a:E}{lo hi:Eo}(h:W (ev aq aj F a J) s λx s1=>W (xG aq aj F lo J) s1 λl s2=>W (xG aq aj F hi J) s2 λu s3=>W (rd x) s3 λd s4=>W (cF fz (cutD d l u)) s4 P):W (ev aq aj F (.sl fz a lo hi) J) s P:=W.bd (h.imp λ_ _ h=>W.bd (h.imp λ_ _ h=>W.bd (h.imp λ_ _ h=>W.bd h)))
theorem KaU{P:Option Int->S->Prop}(h:P none s):W (xG aq aj F .no J) s P:=W.ret h
theorem KaV{a:E}{P:Option Int->S->Prop}(h:W (ev aq aj F a J) s λx s1=>W (Mi.int x) s1 λi s2=>P (some i) s2):W (xG aq aj F (.yes a) J) s P:=W.bd (h.imp λ_ _ h=>W.bd (h.imp λ_ _ h=>W.ret h))
theorem Kaj{P:List Xv->S->Prop}(h:P [] s):W (evs aq aj F .nil J) s P:=W.ret h
theorem Kai{a:E}{r:Es}{P:List Xv->S->Prop}(h:W (ev aq aj F a J) s λx s1=>W (evs aq aj F r J) s1 λxs s2=>P (x::xs) s2):W (evs aq aj F (.cons a r) J) s P:=W.bd (h.imp λ_ _ h=>W.bd (h.imp λ_ _ h=>W.ret h))
theorem KaQ{a:E}{P:Src×Nat->S->Prop}(h:W (ev aq aj F a J) s λx s1=>W (src x) s1 P):W (iB aq aj F (.seq a) J) s P:=W.bd h
end
section
variable {aq:Nat->Nat->Bool}{aj:Bool}{F:Bool->Fn}{J:Vs}{s:S}{Q:Out->S->Prop}
theorem WS.Uk{b:Bool}{m1 m2:MS}(e:b=true)(h:WS m1 s Q):WS (if b=true then m1 else m2) s Q:=by rw[if_pos e];exact h
theorem WS.J3{b:Bool}{m1 m2:MS}(e:b=false)(h:WS m2 s Q):WS (if b=true then m1 else m2) s Q:=by rw[if_neg (by rw[e];decide)];exact h
theorem WS.zV{m1 m2:MS}(h:WS m1 s Q):WS (if true=true then m1 else m2) s Q:=by rw[if_pos rfl];exact h
theorem WS.Ul{m1 m2:MS}(h:WS m2 s Q):WS (if false=true then m1 else m2) s Q:=by rw[if_neg (by decide)];exact h
theorem Kbh{e:E}(h:W (ev aq aj (F aj) e J) s λ_ s1=>Q (.nx J) s1):WS (ex aq aj F (.ex e) J) s Q:=WS.ofM (h.imp λ_ _ h=>WS.nx h)
theorem Kbk{i:Nat}{e:E}(h:W (ev aq aj (F aj) e J) s λx s1=>Q (.nx (J.set i (some x))) s1):WS (ex aq aj F (.asg (.nm i) e) J) s Q:=WS.ofM (h.imp λ_ _ h=>WS.nx h)
theorem Kbp{is:List Nat}{e:E}(h:W (ev aq true (F true) e J) s λx s1=>W (dat x) s1 λd s2=>sI ((j_ d).bind λds=>gA is (ds.map .d) J) λJ'=>Q (.nx J') s2):WS (ex aq true F (.asg (.tp is) e) J) s Q:=by
 refine WS.ofM (h.imp λx s1 h=>?_);exact WS.zV (m2:=λ_=>none) (WS.ofM (W.bd (h.imp λd s2 ⟨J',e,q⟩=>W.opt e (WS.nx q))))
theorem Kbo{o i e:E}(h:W (ev aq aj (F aj) e J) s λx s1=>W (dat x) s1 λd s2=>W (ev aq aj (F aj) o J) s2 λy s3=>W (ev aq aj (F aj) i J) s3 λz s4=>W (Mi.int z) s4 λj s5=>W (dh y) s5 λnx s6=>sI (L2.rO nx.2.length j) λq=>Q (.nx J) (s6.set nx.1 (.lst (nx.2.set q d)))):WS (ex aq aj F (.asg (.aq o i) e) J) s Q:=by
 refine WS.ofM (h.imp λx s1 h=>WS.ofM (W.bd (h.imp λd s2 h=>W.bd (h.imp λy s3 h=>W.bd (h.imp λz s4 h=>W.bd (h.imp λj s5 h=>W.bd (h.imp λnx s6 h=>?_)))))));obtain⟨q,e,h⟩:=h;simp only[e];exact Uj (WS.nx h)
theorem Kbl{i j:Nat}{a b:E}(h:W (ev aq true (F true) a J) s λx s1=>W (ev aq true (F true) b J) s1 λy s2=>Q (.nx ((J.set i (some x)).set j (some y))) s2):WS (ex aq true F (.par i j a b) J) s Q:=by
 exact WS.zV (m2:=λ_=>none) (WS.ofM (W.bd (h.imp λx s1 h=>W.bd (h.imp λy s2 h=>W.ret (WS.nx h)))))
theorem Kbm{e:E}(h:W (ev aq aj (F aj) e J) s λx s1=>Q (.rt x) s1):WS (ex aq aj F (.ret e) J) s Q:=WS.ofM (h.imp λ_ _ h=>WS.rt h)
theorem Kbj{c:E}{t e:cg}(h:W (ev aq aj (F aj) c J) s λx s1=>W (Mi.bool x) s1 λb s2=>WS (if b=true then exs aq aj F t J else exs aq aj F e J) s2 Q):WS (ex aq aj F (.iff c t e) J) s Q:=WS.ofM (W.bd h)
theorem Kbi{t:Tg}{w:Wk}{b:cg}(h:W (iB aq true (F true) w J) s λcn s1=>WS (c7 cn.1 (λd J=>Mi.cQ (store aq true (F true) t (.d d) J) λJ'=>exs aq true F b J') (cn.2+1) 0 J) s1 Q):WS (ex aq true F (.fr t w b) J) s Q:=by
 exact WS.zV (m2:=λ_=>none) (WS.ofM h)
end
theorem W.Uk{α:Type}{b:Bool}{m1 m2:M α}{s:S}{P:α->S->Prop}(e:b=true)(h:W m1 s P):W (if b=true then m1 else m2) s P:=by rw[if_pos e];exact h
theorem W.J3{α:Type}{b:Bool}{m1 m2:M α}{s:S}{P:α->S->Prop}(e:b=false)(h:W m2 s P):W (if b=true then m1 else m2) s P:=by rw[if_neg (by rw[e];decide)];exact h
theorem W.zV{α:Type}{m1 m2:M α}{s:S}{P:α->S->Prop}(h:W m1 s P):W (if true=true then m1 else m2) s P:=by rw[if_pos rfl];exact h
theorem W.Ul{α:Type}{m1 m2:M α}{s:S}{P:α->S->Prop}(h:W m2 s P):W (if false=true then m1 else m2) s P:=by rw[if_neg (by decide)];exact h
structure Bx(R:Prop):Prop where
 o:R
end Mi
namespace Mi
open PySem PySem.W PyProof.Rows L2
abbrev cN(n:Nat)(p:Array Nat):Prop:=p.Perm (List.range n).toArray
theorem cN.lt(h:cN n p)(hn:0<n)(i:Nat):p.getD i 0<n:=by
 by_cases hi:i<p.size
 ·have e:p.getD i 0=p[i]:=by simp[Array.getD,hi]
  rw[e];have hm:p[i]∈(List.range n).toArray:=h.mem_iff.mp (Array.getElem_mem hi);simpa using hm
 ·have e:p.getD i 0=0:=by simp[Array.getD,hi]
  rw[e];exact hn
theorem cN.rev(h:cN n p)(i j:Nat):cN n (kas_rev p i j):=(mirror_perm p i j _).trans h
theorem cN.bub(h:cN n p)(i j:Nat):cN n (bubble p i j):=(bubble_perm p i j).trans h
def iG{α:Type}(lt:Nat->Nat->Option Bool)(t:KasT α)(P:α->Prop):Prop:=∃a,bQ lt t=some a/\P a
section
variable {α β:Type}{lt:Nat->Nat->Option Bool}{n:Nat}
theorem iG.ret(h:P a):iG lt (.ret a) P:=⟨a,rfl,h⟩
theorem iG.bind(hf:∀a,P a->iG lt (f a) R):∀{t:KasT α},iG lt t P->iG lt (t.bind f) R
 |.ret a,⟨a',e,h⟩=>by cases e;exact hf _ h
 |.ask i j k,⟨a',e,h⟩=>by
  unfold bQ at e;cases el:lt i j with
  |none=>rw[el] at e;cases e
  |some b=>
   rw[el] at e;obtain⟨c,e1,h1⟩:=iG.bind hf (t:=k b) ⟨a',e,h⟩;refine⟨c,?_,h1⟩;show bQ lt (.ask i j λb=>(k b).bind f)=some c;unfold bQ;rw[el];exact e1
def Tot(n:Nat)(lt:Nat->Nat->Option Bool):Prop:=∀i j,i<n->j<n->∃b,lt i j=some b
variable (ht:Tot n lt)(hn:0<n)
include ht hn
end
section
variable {lt:Nat->Nat->Option Bool}{n:Nat}
theorem zgo(h:∀k,1<=k->k<n->lt (p.getD k 0) (p.getD (k-1) 0)=some false):∀f k,1<=k->k+f=n->iG lt (kas_asc p f k) λr=>r=n
 |0,k,h1,e=>.ret (by lia)
 |f+1,k,h1,e=>by
  obtain⟨a,e1,e2⟩:=zgo h f (k+1) (by lia) (by lia);refine⟨a,?_,e2⟩;unfold kas_asc bQ;rw[h k h1 (by lia)];exact e1
theorem zeK(hk:k<n):(List.range n).toArray.getD k 0=k:=by
 simp[Array.getD,hk]
theorem zgK(hn:0<n)(h:∀k,k+1<n->lt (k+1) k=some false):bQ lt (kas_sort n)=some (List.range n).toArray:=by
 have h1:iG lt (kas_asc (List.range n).toArray (n-1) 1) λr=>r=n:=zgo (λk a b=>by
  rw[zeK b,zeK (by lia)];have:=h (k-1) (by lia)
  rwa [show k-1+1=k by lia] at this) _ _ (bU _) (by lia)
 have h2:iG lt (kas_count n (List.range n).toArray) λr=>r=(n,(List.range n).toArray):=by
  refine iG.bind (λr hr=>?_) h1;subst hr;rw[if_pos (by simp)];exact .ret rfl
 have h3:iG lt (kas_sort n) λr=>r=(List.range n).toArray:=by
  refine iG.bind (λr hr=>?_) h2;subst hr;rw[if_neg (pD _)];exact .ret rfl
 obtain⟨a,e,rfl⟩:=h3;exact e
end
theorem zew(hk:(xs.all iu||xs.all gj)=true)(uD:xs.length<64)(h:∀k,k+1<xs.length->tG xs (k+1) k=some false):pG xs=some xs:=by
 unfold pG;rw[if_pos hk];unfold oK;by_cases h2:xs.length<2
 ·rw[if_pos h2]
 ·rw[if_neg h2,if_pos uD,zgK (by lia) h];dsimp only;rw[if_pos (by simp)]
  congr 1
  apply List.ext_getElem
  ·simp
  ·intro i a b;simp[jQ,b]
noncomputable def bT(p:Int×Int):D:=.tup [.int p.1,.int p.2]
theorem znf(p q:Int×Int):lD [.int p.1,.int p.2] [.int q.1,.int q.2]=some (decide (p.1<q.1\/p.1=q.1/\p.2<q.2)):=by
 obtain⟨a,b⟩:=p;obtain⟨c,d⟩:=q;simp only[lD];by_cases e:a=c
 ·subst e;by_cases e2:b=d
  ·subst e2;simp
  ·simp[e2]
 ·simp[e]
theorem zlZ{ps:List (Int×Int)}{i j:Nat}{p q:Int×Int}(hi:ps[i]?=some p)(hj:ps[j]?=some q):tG (ps.map bT) i j=some (decide (p.1<q.1\/p.1=q.1/\p.2<q.2)):=by
 unfold tG;rw[fQ,fQ,hi,hj];exact znf p q
theorem znE(ps:List (Int×Int)):((ps.map bT).all iu||(ps.map bT).all gj)=true:=by
 rw[Gw]
 right
 rw[yO,fj];intro x _;rfl
end Mi
namespace Mi
open PySem
theorem W.walk{c:List D}{f:D->List D->M (List D)}{s:S}{acc:List D}{P:List D->S->Prop}(I:Nat->List D->S->Prop)(h0:I 0 acc s)(hb:∀i x acc s,c[i]?=some x->I i acc s->W (f x acc) s λa s'=>I (i+1) a s')
  (he:∀acc s,I c.length acc s->P acc s):W (Mi.walk (.fix c) f (c.length+1) 0 acc) s P:=by
 have key:∀n i acc s,i+n=c.length->I i acc s->W (Mi.walk (.fix c) f (n+1) i acc) s P:=by
  intro n
  induction n with
  |zero=>
   intro i acc s hi hI;have e:c[i]?=none:=by rw[pA];lia
   have:i=c.length:=by lia
   subst this;refine⟨acc,s,?_,he acc s hI⟩;unfold Mi.walk;simp only[Src.at,e]
  |succ n ih=>
   intro i acc s hi hI;have cV:i<c.length:=by lia
   have e:c[i]?=some c[i]:=cX cV;obtain⟨a,s',eb,yj⟩:=hb i c[i] acc s e hI;obtain⟨a2,s2,e2,q⟩:=ih (i+1) a s' (by lia) yj;refine⟨a2,s2,?_,q⟩;unfold Mi.walk;simp only[Src.at,e,M.bd,eb];exact e2
 exact key c.length 0 acc s (by lia) h0
section
variable {aq:Nat->Nat->Bool}{F:Fn}{J:Vs}{s:S}{P:Xv->S->Prop}
theorem Kas{fz:Bool}{elt:E}{tg:List Nat}{it:Wk}{fr:List Nat}{many:Nat}{cond:Eo}{c:List D}(g:D->Option D)(hc:c.length<=sizeLine)
  (hw:W (iB aq true F it J) s λcn s1=>cn=(.fix c,c.length)/\s1=s)
  (hb:∀x∈c,∃J',dj tg x (blk many fr J)=some J'/\W (m9 aq true F cond J') s λb s1=>s1=s/\(if b=true then W (ev aq true F elt J') s λy s2=>s2=s/\∃d,y=.d d/\g x=some d else g x=none))
  (h:W (newL fz (c.filterMap g)) s P):W (ev aq true F (.comp fz elt tg it fr many cond) J) s P:=by
 change W (_root_.ite (true=true) _ _) s P
 rw[if_pos rfl];refine W.bd (hw.imp λcn s1=>?_);rintro⟨rfl,rfl⟩;refine W.bd ?_;refine W.walk (c:=c) (λi acc s'=>s'=s1/\acc=(c.take i).filterMap g) ⟨rfl,rfl⟩ (λi x acc s' e hI=>?_) (λacc s' hI=>?_)
 ·obtain⟨rfl,rfl⟩:=hI;have hi:i<c.length:=(dO.mp e).1;have ht:c.take (i+1)=c.take i++[x]:=by rw[yN,e];rfl
  have hl:((c.take i).filterMap g).length<sizeLine:=Qk (Dl _ _) (by rw[pI];lia);obtain⟨J',e1,h1⟩:=hb x (eZ e);refine W.bd (W.opt e1 ?_);refine W.bd (W.qt (h1.imp λb s2=>?_));rintro⟨rfl,h2⟩;rw[ht,Dm];cases b
  ·rw[if_neg (by decide)] at h2 ⊢;refine W.ret ⟨rfl,?_⟩;simp[h2]
  ·rw[if_pos rfl] at h2 ⊢;refine W.bd (W.qt (h2.imp λy s3=>?_));rintro⟨rfl,d,rfl,eg⟩;refine W.bd (W.dat ?_);rw[if_pos hl];refine W.ret ⟨rfl,?_⟩;simp[eg]
 ·obtain⟨rfl,rfl⟩:=hI;rw[tQ];exact h
end
section
variable {aq:Nat->Nat->Bool}{aj:Bool}{F:Fn}{J:Vs}{s:S}{P:Xv->S->Prop}
theorem KaE(h:W (ev aq aj F a J) s λx s1=>W (rd x) s1 λd s2=>∃b,lV aq d k=some b/\P (.d (.bl b)) s2):W (ev aq aj F (.qQ a k) J) s P:=
 W.bd (h.imp λ_ _ h=>W.bd (h.imp λ_ _ ⟨_,e,h⟩=>W.bd (W.opt e (W.ret h))))
theorem KaC(h:W (ev aq aj F a J) s λx s1=>W (ev aq aj F b J) s1 λy s2=>W (gW [x,y]) s2 λds s3=>W (cF true (prim p ds)) s3 λt s4=>W (Mi.bool t) s4 λk s5=>
  W (if k=true then M.bd (ev aq aj F c J) λz=>M.bd (gW [y,z]) λds=>cF true (prim q ds) else M.ret (.d (.bl false))) s5 P):W (ev aq aj F (.zp p q a b c) J) s P:=
 W.bd (h.imp λ_ _ h=>W.bd (h.imp λ_ _ h=>W.bd (h.imp λ_ _ h=>W.bd (h.imp λ_ _ h=>W.bd h))))
end
noncomputable def J5(fz:Bool):Option Rz->Option Xv
 |some (.dat d)=>some (.d d)
 |some (.nw ys)=>match fz with
  |true=>some (.d (.fl ys))
  |false=>none
 |none=>none
noncomputable def addQ:D->D->Option Rz
 |.int i,.int j=>some (.dat (.int (i+j)))
 |_,_=>none
noncomputable def zW:List D->Option Rz
 |a::r=>match r with
  |b::r=>match r with
   |[]=>addQ a b
   |_::_=>none
  |[]=>none
 |[]=>none
noncomputable def quick:Pr->Bool
 |.rQ=>false|.Eu=>false|.mul=>false|.fdiv=>false|.mod=>false|.pow=>false|.divmod=>false|.sorted=>false|.qP=>false|.Iu=>false|.mult=>false|.zm=>false|.repr=>false|.str1=>false|.Za=>false|.rP=>false|.Ir=>false
 |_=>true
noncomputable def rA(p:Pr)(ds:List D):Option Rz:=match p with
 |.add=>zW ds
 |p=>match quick p with
  |true=>prim p ds
  |false=>none
theorem J6{ds:List D}{r:Rz}(h:zW ds=some r):Ca ds=some r:=by
 cases ds with
 |nil=>cases h
 |cons a t=>cases t with
  |nil=>cases h
  |cons b t=>cases t with
   |cons _ _=>cases h
   |nil=>cases a with
    |int i=>cases b with
     |int j=>exact h
     |_=>cases h
    |_=>cases h
theorem CV{p:Pr}{ds:List D}{r:Rz}(h:rA p ds=some r):prim p ds=some r:=by
 cases p with
 |add=>exact J6 h
 |_=>first|exact h|cases h
noncomputable def Um(fz:Bool)(ds:List D):Option Xv:=match fz with
 |true=>some (.d (.fl ds))
 |false=>none
noncomputable def J7:Xv->Option D
 |.d x=>some x
 |.l _=>none
noncomputable def obP(c:Nat):Xv->Option (List D)
 |.d (.ob e fs)=>if e=c then some fs else none
 |_=>none
noncomputable def notP:Xv->Option Xv
 |.d (.bl b)=>some (.d (.bl (!b)))
 |_=>none
noncomputable def Uo(r:Option Xv):Xv->Option Xv
 |.d (.bl true)=>r
 |.d (.bl false)=>some (.d (.bl false))
 |_=>none
noncomputable def orP(r:Option Xv):Xv->Option Xv
 |.d (.bl true)=>some (.d (.bl true))
 |.d (.bl false)=>r
 |_=>none
section
variable (aq:Nat->Nat->Bool)
mutual
noncomputable def dR:E->Vs->Option Xv
 |.c d,_=>some (.d d)
 |.v i,J=>J[i]?.join
 |.pr fz p xs,J=>(qu xs J).bind λds=>J5 fz (rA p ds)
 |.tup xs,J=>(qu xs J).bind λds=>some (.d (.tup ds))
 |.lst fz xs,J=>(qu xs J).bind λds=>Um fz ds
 |.not a,J=>(dR a J).bind notP
 |.and a b,J=>(dR a J).bind (Uo (dR b J))
 |.or a b,J=>(dR a J).bind (orP (dR b J))
 |.qQ a k,J=>(dR a J).bind λx=>(J7 x).bind λd=>(lV aq d k).bind λb=>some (.d (.bl b))
 |.of o c i,J=>(dR o J).bind λx=>(obP c x).bind λfs=>fs[i]?.map .d
 |_,_=>none
noncomputable def qu:Es->Vs->Option (List D)
 |.nil,_=>some []
 |.cons a r,J=>(dR a J).bind λx=>(J7 x).bind λd=>(qu r J).bind λds=>some (d::ds)
end
noncomputable def oX:Es->Vs->Option (List Xv)
 |.nil,_=>some []
 |.cons a r,J=>(dR aq a J).bind λx=>(oX r J).bind λxs=>some (x::xs)
end
theorem nF{α β:Type}{o:Option α}{f:α->Option β}{b:β}(h:o.bind f=some b):∃a,o=some a/\f a=some b:=Ae.mp h
theorem jy{α β:Type}{m:M α}{k:α->M β}{s s':S}{a:α}(e:m s=some (.ok a,s')):M.bd m k s=k a s':=by
 show (match m s with|some (.ok a,s')=>k a s'|some (.er c f,s')=>some (.er c f,s')|none=>none)=_;rw[e]
theorem CW(s:S):∀ds:List D,gW (ds.map .d) s=some (.ok ds,s)
 |[]=>rfl
 |d::r=>(jy (s':=s) (a:=d) rfl).trans ((jy (CW s r)).trans rfl)
theorem vf(s:S):∀ds:List D,cL (ds.map .d) s=some (.ok ds,s)
 |[]=>rfl
 |d::r=>(jy (s':=s) (a:=d) rfl).trans ((jy (vf s r)).trans rfl)
theorem Uq{fz:Bool}{p:Pr}{ds:List D}{x:Xv}{s:S}(h:J5 fz (rA p ds)=some x):cF fz (prim p ds) s=some (.ok x,s):=by
 cases o:rA p ds with
 |none=>rw[o] at h;cases h
 |some r=>
  rw[o] at h;rw[CV o];cases r with
  |dat d=>cases h;rfl
  |nw ys=>cases fz with
   |true=>cases h;rfl
   |false=>cases h
section
variable {aq:Nat->Nat->Bool}{aj:Bool}{F:Fn}{J:Vs}{s:S}
theorem gD(e:E):∀x:Xv,dR aq e J=some x->ev aq aj F e J s=some (.ok x,s):=by
 refine E.rec (motive_1:=λe=>∀x:Xv,dR aq e J=some x->ev aq aj F e J s=some (.ok x,s)) (motive_2:=λ_=>True) (motive_3:=λxs=>∀ds:List D,qu aq xs J=some ds->evs aq aj F xs J s=some (.ok (ds.map .d),s)) (motive_4:=λ_=>True)
  ?c ?v ?pr (λ_ _ _ _ _ _ _ _ _ h=>nomatch h) (λ_ _ _ _ _ _ _ _ _ _ _ _ h=>nomatch h) ?and ?or ?not (λ_ _ _ _ _ _ _ h=>nomatch h) ?tup ?lst (λ_ _ _ h=>nomatch h) (λ_ _ _ _ h=>nomatch h) ?qQ (λ_ _ _ _ _ _ _ _ h=>nomatch h) (λ_ _ _ _ _ _ _ _ h=>nomatch h) (λ_ _ _ _ _ h=>nomatch h) (λ_ _ _ h=>nomatch h)
  (λ_ _ _ _ _ _ _ _ _ _ _ h=>nomatch h) (λ_ _ _ _ _ _ _ _ _ _ _ _ _ _ h=>nomatch h) (λ_ _ _ _ _ h=>nomatch h) ?of (λ_ _ _ _ _ h=>nomatch h) (λ_ _ _ _ _ _ _ h=>nomatch h) (λ_ h=>nomatch h) (λ_ _ _ _ _ _ h=>nomatch h) (λ_ _ _ _ _ h=>nomatch h) (λ_ _ _ h=>nomatch h) (λ_ _ _ _ _ _ h=>nomatch h) (λ_ _ _ _ _ h=>nomatch h) (λ_ _ _ _ _ _ _ h=>nomatch h) (λ_ h=>nomatch h)
  (λ_ _=>trivial) (λ_ _ _ _=>trivial) (λ_ _ _ _=>trivial) (λ_ _=>trivial) (λ_ _=>trivial) ?nil ?cons trivial (λ_ _=>trivial) e
 case c=>intro d x h;cases h;rfl
 case v=>intro i x h;exact(show M.opt (J[i]?.join) s=_ from by rw[show J[i]?.join=some x from h];rfl)
 case pr=>
  intro fz p xs ih x h;obtain⟨ds,e1,e2⟩:=nF h;exact(jy (ih _ e1)).trans ((jy (CW s ds)).trans (Uq e2))
 case tup=>
  intro xs ih x h;obtain⟨ds,e1,e2⟩:=nF h;cases e2;exact(jy (ih _ e1)).trans ((jy (vf s ds)).trans rfl)
 case lst=>
  intro fz xs ih x h;obtain⟨ds,e1,e2⟩:=nF h;cases fz with
  |false=>cases e2
  |true=>cases e2;exact(jy (ih _ e1)).trans ((jy (vf s ds)).trans rfl)
 case not=>
  intro a ih x h;obtain⟨y,e1,e2⟩:=nF h;cases y with
  |l n=>cases e2
  |d y=>cases y with
   |bl b=>cases e2;exact(jy (ih _ e1)).trans rfl
   |_=>cases e2
 case and=>
  intro a b ih ih2 x h;obtain⟨y,e1,e2⟩:=nF h;cases y with
  |l n=>cases e2
  |d y=>cases y with
   |bl b=>cases b with
    |true=>exact(jy (ih _ e1)).trans (ih2 _ e2)
    |false=>cases e2;exact(jy (ih _ e1)).trans rfl
   |_=>cases e2
 case or=>
  intro a b ih ih2 x h;obtain⟨y,e1,e2⟩:=nF h;cases y with
  |l n=>cases e2
  |d y=>cases y with
   |bl b=>cases b with
    |true=>cases e2;exact(jy (ih _ e1)).trans rfl
    |false=>exact(jy (ih _ e1)).trans (ih2 _ e2)
   |_=>cases e2
 case qQ=>
  intro a k ih x h;obtain⟨y,e1,e2⟩:=nF h;cases y with
  |l n=>cases e2
  |d y=>
   obtain⟨d,e3,e4⟩:=nF e2;cases e3;obtain⟨b,e5,e6⟩:=nF e4;cases e6;refine(jy (ih _ e1)).trans ((jy (s':=s) (a:=y) rfl).trans ((jy (s':=s) (a:=b) ?_).trans rfl));rw[e5];rfl
 case of=>
  intro o c i ih x h;obtain⟨y,e1,e2⟩:=nF h;obtain⟨fs,e3,e4⟩:=nF e2;refine(jy (ih _ e1)).trans ((jy (s':=s) (a:=fs) ?_).trans ?_)
  ·cases y with
   |l n=>cases e3
   |d y=>cases y with
    |ob e gs=>
     have e3:(if e=c then some gs else none)=some fs:=e3;show (if e=c then M.ret gs else M.no) s=_;split at e3
     ·rename_i h;cases e3;rw[if_pos h];rfl
     ·cases e3
    |_=>cases e3
  ·show M.opt (fs[i]?.map Xv.d) s=_;rw[e4];rfl
 case nil=>intro ds h;cases h;rfl
 case cons=>
  intro a r ih ih2 ds h;obtain⟨y,e1,e2⟩:=nF h;cases y with
  |l n=>cases e2
  |d y=>
   obtain⟨d,e3,e4⟩:=nF e2;cases e3;obtain⟨rs,e5,e6⟩:=nF e4;cases e6;exact(jy (ih _ e1)).trans ((jy (ih2 _ e5)).trans rfl)
theorem vg:∀(xs:Es) (ds:List D),qu aq xs J=some ds->evs aq aj F xs J s=some (.ok (ds.map .d),s)
 |.nil,ds,h=>by cases h;rfl
 |.cons a r,ds,h=>by
  obtain⟨y,e1,e2⟩:=nF h;cases y with
  |l n=>cases e2
  |d y=>
   obtain⟨d,e3,e4⟩:=nF e2;cases e3;obtain⟨rs,e5,e6⟩:=nF e4;cases e6;exact(jy (gD a _ e1)).trans ((jy (vg r _ e5)).trans rfl)
theorem jW:∀(xs:Es) {vs:List Xv},oX aq xs J=some vs->evs aq aj F xs J s=some (.ok vs,s)
 |.nil,vs,h=>by cases h;rfl
 |.cons a r,vs,h=>by
  obtain⟨y,e1,e2⟩:=nF h;obtain⟨ys,e3,e4⟩:=nF e2;cases e4;exact(jy (gD a _ e1)).trans ((jy (jW r e3)).trans rfl)
variable {P:Xv->S->Prop}
theorem W.pv{e:E}{x:Xv}(h:dR aq e J=some x)(k:P x s):W (ev aq aj F e J) s P:=W.eq (gD e _ h) k
theorem Ka1{f:Nat}{xs:Es}{vs:List Xv}(h:oX aq xs J=some vs)(k:W (cP (F f) vs) s P):W (ev aq aj F (.call f xs) J) s P:=KaB (W.eq (jW xs h) k)
theorem Ka2{fz:Bool}{p:Pr}{xs:Es}{ds:List D}(h:qu aq xs J=some ds)(k:W (cF fz (prim p ds)) s P):W (ev aq aj F (.pr fz p xs) J) s P:=KaJ (W.eq (vg xs _ h) (W.eq (CW s ds) k))
theorem Ka0{xs:Es}{vs:List Xv}{P:List Xv->S->Prop}(h:oX aq xs J=some vs)(k:P vs s):W (evs aq aj F xs J) s P:=W.eq (jW xs h) k
end
section
variable {aq:Nat->Nat->Bool}{aj:Bool}{F:Bool->Fn}{J:Vs}{s:S}{Q:Out->S->Prop}{e:E}{r:cg}
theorem Kbf{i:Nat}{x:Xv}(h:dR aq e J=some x)(k:WS (exs aq aj F r (J.set i (some x))) s Q):WS (exs aq aj F (.cons (.asg (.nm i) e) r) J) s Q:=WS.cons (Kbk (W.pv h k))
theorem Kbg{x:Xv}(h:dR aq e J=some x)(k:Q (.rt x) s):WS (exs aq aj F (.cons (.ret e) r) J) s Q:=WS.cons (Kbm (W.pv h k))
theorem Kbe{b:Bool}{t u:cg}(h:dR aq e J=some (.d (.bl b)))(k:WS (if b=true then exs aq aj F t J else exs aq aj F u J) s λo s'=>match o with|.nx J'=>WS (exs aq aj F r J') s' Q|.rt x=>Q (.rt x) s'|_=>False):WS (exs aq aj F (.cons (.iff e t u) r) J) s Q:=WS.cons (Kbj (W.pv h (W.bool k)))
end
section
variable {α β:Type}{m:M α}{k:α->M β}{s:S}{c:Nat}{fs:List D}
end
section
variable {aq:Nat->Nat->Bool}{aj:Bool}{F:Bool->Fn}{J:Vs}{s:S}{Q:Out->S->Prop}{c:Nat}{fs:List D}
theorem Kbn{c:Nat}{kp:Bool}{xs:Es}(h:W (evs aq true (F true) xs J) s λvs s1=>W (cL vs) s1 λds s2=>Q (.er c (if kp=true then ds else []) J) s2):WS (ex aq true F (.rise c kp xs) J) s Q:=by
 refine WS.zV (m2:=λ_=>none) (WS.ofM (W.bd (h.imp λvs s1 h=>h.imp λds s2 h=>?_)));exact⟨_,s2,rfl,h⟩
theorem NZ{m:MS}{k:Vs->MS}(h:WS m s λo s'=>match o with|.nx J'=>WS (k J') s' Q|.rt x=>Q (.rt x) s'|_=>False):WS (Mi.cQ m k) s Q:=by
 obtain⟨o,s',e,q⟩:=h;unfold WS Mi.cQ;rw[e];cases o with
 |nx J'=>exact q
 |rt x=>exact⟨_,_,rfl,q⟩
 |bk _=>exact q.elim
 |ct _=>exact q.elim
 |er _ _ _=>exact q.elim
theorem N5{F:Fn}{i:Nat}{x:Xv}(h:Q (.nx (J.set i (some x))) s):WS (store aq aj F (.nm i) x J) s Q:=⟨_,s,rfl,h⟩
theorem Kbr{F:Fn}{is:List Nat}{d:D}(h:sI ((j_ d).bind λds=>gA is (ds.map .d) J) λJ'=>Q (.nx J') s):WS (store aq true F (.tp is) (.d d) J) s Q:=by
 obtain⟨J',e,q⟩:=h;exact WS.zV (m2:=λ_=>none) (WS.ofM (W.bd (W.dat (W.opt e (WS.nx q)))))
end
section
variable {aq:Nat->Nat->Bool}{aj:Bool}{F:Fn}{J:Vs}{s:S}{P:Xv->S->Prop}
theorem W.qQ{a:E}{k:Kd}(h:W (ev aq aj F a J) s λx s1=>W (rd x) s1 λd s2=>sI (lV aq d k) λb=>P (.d (.bl b)) s2):W (ev aq aj F (.qQ a k) J) s P:=KaE h
theorem W.zp{p q:Pr}{a b c:E}(h:W (ev aq aj F a J) s λx s1=>W (ev aq aj F b J) s1 λy s2=>W (gW [x,y]) s2 λds s3=>W (cF true (prim p ds)) s3 λt s4=>W (Mi.bool t) s4 λk s5=>
  W (if k=true then M.bd (ev aq aj F c J) λz=>M.bd (gW [y,z]) λds=>cF true (prim q ds) else M.ret (.d (.bl false))) s5 P):W (ev aq aj F (.zp p q a b c) J) s P:=KaC h
theorem KaF{c a b:E}(h:W (ev aq aj F c J) s λx s1=>W (Mi.bool x) s1 λk s2=>W (if k=true then ev aq aj F a J else ev aq aj F b J) s2 P):W (ev aq aj F (.ite c a b) J) s P:=W.bd (h.imp λ_ _ h=>W.bd h)
theorem KaO{a:E}{P:Src×Nat->S->Prop}(h:W (ev aq aj F a J) s λx s1=>W (oM x) s1 P):W (iB aq aj F (.enum a) J) s P:=W.bd h
theorem KaM{xs:List D}{P:Src×Nat->S->Prop}(h:P (.fix (enumFrom 0 xs),(enumFrom 0 xs).length) s):W (oM (.d (.fl xs))) s P:=⟨_,s,rfl,h⟩
theorem KaP{a b:E}{P:Src×Nat->S->Prop}(h:W (ev aq aj F a J) s λx s1=>W (ev aq aj F b J) s1 λy s2=>W (Mi.int x) s2 λi s3=>W (Mi.int y) s3 λj s4=>(gw i&&gw j)=true/\P (.fix (jK i j),(jK i j).length) s4):W (iB aq aj F (.rg a b) J) s P:=by
 refine W.bd (h.imp λx s1 h=>W.bd (h.imp λy s2 h=>W.bd (h.imp λi s3 h=>W.bd (h.imp λj s4 h=>?_))));rw[if_pos h.1];exact W.ret h.2
theorem KaR{a b:E}{P:Src×Nat->S->Prop}(h:W (ev aq aj F a J) s λx s1=>W (ev aq aj F b J) s1 λy s2=>W (p7 x) s2 λxs s3=>W (p7 y) s3 λys s4=>P (.fix (List.zipWith (λp q=>.tup [p,q]) xs ys),(List.zipWith (λ(p q:D)=>D.tup [p,q]) xs ys).length) s4):W (iB aq aj F (.zip a b) J) s P:=
 W.bd (h.imp λx s1 h=>W.bd (h.imp λy s2 h=>W.bd (h.imp λxs s3 h=>W.bd (h.imp λys s4 h=>W.ret h))))
theorem W.ju{xs:List D}{P:List D->S->Prop}(h:P xs s):W (p7 (.d (.tup xs))) s P:=W.ret h
theorem W.tH{xs:List D}{P:List D->S->Prop}(h:P xs s):W (p7 (.d (.fl xs))) s P:=W.ret h
theorem Kak{P:Bool->S->Prop}(h:P true s):W (m9 aq aj F .no J) s P:=W.ret h
theorem Kal{a:E}{P:Bool->S->Prop}(h:W (ev aq aj F a J) s λx s1=>W (Mi.bool x) s1 P):W (m9 aq aj F (.yes a) J) s P:=W.bd h
theorem Kau(g:D->D)(hc:c.length<=sizeLine)
  (hw:W (iB aq true F it J) s λcn s1=>cn=(.fix c,c.length)/\s1=s)
  (hb:∀x∈c,sI (dj tg x (blk many fr J)) λJ'=>W (ev aq true F elt J') s λy s2=>s2=s/\y=.d (g x))
  (h:W (newL fz (c.map g)) s P):W (ev aq true F (.comp fz elt tg it fr many .no) J) s P:=by
 refine Kas (c:=c) (λx=>some (g x)) hc hw (λx hx=>?_) ?_
 ·obtain⟨J',e,h1⟩:=hb x hx;refine⟨J',e,W.ret ⟨rfl,?_⟩⟩;rw[if_pos rfl];exact h1.imp λy s2 ⟨a,b⟩=>⟨a,_,b,rfl⟩
 ·rw[show c.filterMap (λx=>some (g x))=c.map g by rw[<-Ld];rfl];exact h
theorem nO{α:Type}{f:α->D}{l:List α}{fz:Bool}{elt:E}{tg:List Nat}{it:Wk}{fr:List Nat}{many:Nat}{cond:Eo}(g:α->Option D)(hc:l.length<=sizeLine)
  (hw:W (iB aq true F it J) s λcn s1=>cn=(.fix (l.map f),(l.map f).length)/\s1=s)
  (hb:∀x∈l,sI (dj tg (f x) (blk many fr J)) λJ'=>W (m9 aq true F cond J') s λb s1=>s1=s/\(b=true->W (ev aq true F elt J') s λy s2=>s2=s/\∃d,y=.d d/\g x=some d)/\(b=false->g x=none))
  (h:W (newL fz (l.filterMap g)) s P):W (ev aq true F (.comp fz elt tg it fr many cond) J) s P:=by
 change W (_root_.ite (true=true) _ _) s P
 rw[if_pos rfl];refine W.bd (hw.imp λcn s1=>?_);rintro⟨rfl,rfl⟩;refine W.bd ?_;refine W.walk (c:=l.map f) (λi acc s'=>s'=s1/\acc=(l.take i).filterMap g) ⟨rfl,rfl⟩ (λi x acc s' e hI=>?_) (λacc s' hI=>?_)
 ·obtain⟨rfl,rfl⟩:=hI;rw[fQ] at e;cases el:l[i]? with
  |none=>rw[el] at e;cases e
  |some y=>
   rw[el] at e;cases e;have hi:i<l.length:=(dO.mp el).1;have ht:l.take (i+1)=l.take i++[y]:=by rw[yN,el];rfl
   have hl:((l.take i).filterMap g).length<sizeLine:=Qk (Dl _ _) (by rw[pI];lia);obtain⟨J',e1,h1⟩:=hb y (eZ el);refine W.bd (W.opt e1 ?_);refine W.bd (W.qt (h1.imp λb s2=>?_));rintro⟨rfl,h2,h3⟩;rw[ht,Dm];cases b
   ·rw[if_neg (by decide)];refine W.ret ⟨rfl,?_⟩;simp[h3 rfl]
   ·rw[if_pos rfl];refine W.bd (W.qt ((h2 rfl).imp λy s3=>?_));rintro⟨rfl,d,rfl,eg⟩;refine W.bd (W.dat ?_);rw[if_pos hl];refine W.ret ⟨rfl,?_⟩;simp[eg]
 ·obtain⟨rfl,rfl⟩:=hI;rw[bO,tQ];exact h
theorem Kat{c:List D}{fz:Bool}{elt:E}{tg:List Nat}{it:Wk}{fr:List Nat}{many:Nat}{cond:Eo}(I:Nat->List D->S->Prop)
  (hw:W (iB aq true F it J) s λcn s1=>cn=(.fix c,c.length)/\I 0 [] s1)
  (hb:∀i x acc s,c[i]?=some x->I i acc s->sI (dj tg x (blk many fr J)) λJ'=>W (m9 aq true F cond J') s λb s1=>(b=true->W (ev aq true F elt J') s1 λy s2=>∃d,y=.d d/\acc.length<sizeLine/\I (i+1) (acc++[d]) s2)/\(b=false->I (i+1) acc s1))
  (h:∀acc s,I c.length acc s->W (newL fz acc) s P):W (ev aq true F (.comp fz elt tg it fr many cond) J) s P:=by
 change W (_root_.ite (true=true) _ _) s P
 rw[if_pos rfl];refine W.bd (hw.imp λcn s1=>?_);rintro⟨rfl,h0⟩;refine W.bd ?_;refine W.walk (c:=c) I h0 (λi x acc s' e hI=>?_) (λacc s' hI=>h acc s' hI);obtain⟨J',e1,h1⟩:=hb i x acc s' e hI;refine W.bd (W.opt e1 ?_);refine W.bd (W.qt (h1.imp λb s2=>?_));rintro⟨h2,h3⟩;cases b
 ·rw[if_neg (by decide)];exact W.ret (h3 rfl)
 ·rw[if_pos rfl];refine W.bd (W.qt ((h2 rfl).imp λy s3=>?_));rintro⟨d,rfl,hl,hi⟩;refine W.bd (W.dat ?_);rw[if_pos hl];exact W.ret hi
theorem W.push{o a:E}(h:W (ev aq aj F o J) s λx s1=>W (Mi.dh x) s1 λ_ s2=>W (ev aq aj F a J) s2 λy s3=>W (Mi.dat y) s3 λd s4=>W (Mi.dh x) s4 λnx s5=>nx.2.length<sizeLine/\P (.d .non) (s5.set nx.1 (.lst (nx.2++[d])))):W (ev aq aj F (.push o a) J) s P:=by
 refine W.bd (h.imp λx s1 h=>W.bd (h.imp λ_ s2 h=>W.bd (h.imp λy s3 h=>W.bd (h.imp λd s4 h=>W.bd (h.imp λnx s5 h=>?_)))));rw[if_pos h.1];exact W.bd (Uj (W.ret h.2))
end
theorem N6{s:S}{o:SO}:(s++[o])[s.length]?=some o:=by simp
theorem zij:(s++[o]).set s.length o'=s++[o']:=by simp
theorem Y{P R:Prop}(k:R)(h:Bx R->P:=by
 intro k
 repeat (first|with_reducible first
   |refine Kbf (by with_unfolding_all rfl) ?_|refine Kbg (by with_unfolding_all rfl) ?_|refine Kbe (by with_unfolding_all rfl) ?_|refine W.pv (by with_unfolding_all rfl) ?_|refine Ka2 (by with_unfolding_all rfl) ?_|refine Ka1 (by with_unfolding_all rfl) ?_|refine Ka0 (by with_unfolding_all rfl) ?_
   |refine WS.cons ?_|refine WS.nil ?_|refine NZ ?_|refine N5 ?_|refine Kbr ?_|refine Kbk ?_|refine Kbm ?_|refine Kbj ?_|refine Kbp ?_|refine Kbo ?_|refine Kbl ?_|refine Kbh ?_|refine Kbi ?_|refine Kbn ?_|refine WS.zV ?_|refine WS.Ul ?_|refine WS.Uk (by with_unfolding_all rfl) ?_|refine WS.J3 (by with_unfolding_all rfl) ?_|refine sI.mk (by with_unfolding_all rfl) ?_
   |refine Kai ?_|refine Kaj ?_|refine W.eC ?_|refine W.eV (by with_unfolding_all rfl) ?_|refine KaJ ?_|refine KaB ?_|refine KaL ?_|refine KaG ?_|refine KaH ?_|refine KaA ?_|refine KaI ?_|refine KaF ?_|refine W.qQ ?_|refine W.zp ?_|refine W.push ?_|refine KaK ?_|refine KaD ?_|refine KaU ?_|refine KaV ?_|refine KaQ ?_|refine KaP ?_|refine KaR ?_|refine KaO ?_|refine Kak ?_|refine Kal ?_|refine W.zV ?_|refine W.Ul ?_|refine W.Uk (by with_unfolding_all rfl) ?_|refine W.J3 (by with_unfolding_all rfl) ?_
   |refine Ka5 ?_|refine Ka6 ?_|refine Ka3 ?_|refine Ka4 (by with_unfolding_all rfl) ?_|refine Ka4 N6 ?_|refine Kax ?_|refine Kay ?_|refine W.dat ?_|refine W.bool ?_|refine W.int ?_|refine W.dh (by with_unfolding_all rfl) ?_|refine W.dh N6 ?_|refine Uj ?_|refine Ka8 ?_|refine KaM ?_|refine W.ju ?_|refine W.tH ?_|refine Ka7 ?_|refine KaT ?_|refine KaS ?_
   |refine fW (by first|(with_unfolding_all rfl)|exact zn6 (by first|(left;constructor<;>lia)|(right;constructor<;>lia))|exact zoQ (by lia)|exact zme (by lia)|exact zis (by lia)|exact zoL (by decide)) ?_|refine yh (by with_unfolding_all rfl) ?_
   |refine W.ret ?_|refine W.bd ?_
   | (dsimp only))
 all_goals exact k.o):P:=h ⟨k⟩
def lx(p q:Int×Int):Prop:=p.1<q.1\/p.1=q.1/\p.2<q.2
noncomputable def aL(n:Int)(ps:List (Int×Int)):D:=.tup [.int n,.tup (ps.map bT)]
structure Web(n:Int)(ps:List (Int×Int)):Prop where
 h1:1<=n
 h8:n<=8
 tie:∀p∈ps,0<=p.1/\p.1<p.2/\p.2<n
 inc:ps.Pairwise lx
 len:(ps.length:Int)<=7*n
theorem zkg(h:∀x∈xs,x=.bl true):eU xs=some (List.replicate xs.length true):=by
 induction xs with
 |nil=>rfl
 |cons x r ih=>
  rw[h x (by simp)];show Option.map _ (eU r)=_;rw[ih λy hy=>h y (by simp[hy])];rfl
theorem ziZ(h:∀x∈xs,x=.bl true):prim .all [.fl xs]=some (.dat (.bl true)):=by
 show Option.map _ (eU xs)=_;rw[zkg h];simp
theorem zma(p q:Int×Int):cZ (k+1) (bT p) (bT q)=some (decide (p=q)):=by
 show dF (cZ k) [.int p.1,.int p.2] [.int q.1,.int q.2]=_;have hi:∀a b:Int,cZ k (.int a) (.int b)=some (a==b):=by intro a b;cases k<;>rfl
 simp only[dF,hi];obtain⟨a,b⟩:=p;obtain⟨c,d⟩:=q;by_cases h1:a=c
 ·by_cases h2:b=d
  ·simp[h1,h2]
  ·simp[h1,h2]
 ·simp[h1]
theorem zju(p:Int×Int)(ps:List (Int×Int)):memD (bT p) (ps.map bT)=some (decide (p∈ps)):=by
 induction ps with
 |nil=>rfl
 |cons q r ih=>
  simp only[g_,memD,ih,zma]
  congr 1
  rw[<-Bool.decide_or];apply rE.mpr;rw[gQ]
  constructor
  ·rintro(h|h)
   ·exact .inl h.symm
   ·exact .inr h
  ·rintro(h|h)
   ·exact .inl h.symm
   ·exact .inr h
theorem zos{f:Bool->Bool}{p:Int×Int}{ps:List (Int×Int)}:zx f [bT p,.fl (ps.map bT)]=some (.dat (.bl (f (decide (p∈ps))))):=by
 show Option.map _ (memD (bT p) (ps.map bT))=_;rw[zju];rfl
theorem zoW(h:lx p q):ltI [p.1,p.2] [q.1,q.2]=true:=by
 simp only[ltI];rcases h with h|⟨h,h2⟩
 ·rw[if_neg (by lia)];simp[h]
 ·rw[if_pos h,if_neg (by lia)];simp[h2]
theorem Ur(xs:List D):cut xs (some 1) none=xs.drop 1:=by
 unfold cut;rw[HT.j8];rw[show (some 1:Option Int)=some ((1:Nat):Int) from rfl,HT.mW];cases xs with
 |nil=>rfl
 |cons x r=>simp
theorem zji:∀{ps:List (Int×Int)},ps.Pairwise lx->∀x∈List.zipWith (λ(p q:D)=>D.tup [p,q]) (ps.map bT) ((ps.map bT).drop 1),∃p q,x=.tup [bT p,bT q]/\lx p q
 |[],_,x,hx=>by simp at hx
 |[p],_,x,hx=>by simp at hx
 |p::q::r,h,x,hx=>by
  rw[show (List.map bT (p::q::r)).drop 1=List.map bT (q::r) from rfl] at hx;have e:List.zipWith (λ(p q:D)=>D.tup [p,q]) (List.map bT (p::q::r)) (List.map bT (q::r))=.tup [bT p,bT q]::List.zipWith (λ(p q:D)=>D.tup [p,q]) (List.map bT (q::r)) (List.map bT r):=rfl;rw[e,gQ] at hx;rcases hx with rfl|hx
  ·exact⟨p,q,rfl,(Du.mp h).1 q (by simp)⟩
  ·exact zji (ps:=q::r) (Du.mp h).2 x hx
theorem Us:∀(xs:List D) (j i:Nat),(enumFrom j xs)[i]?=xs[i]?.map λx=>.tup [.int ((j+i:Nat):Int),x]
 |[],j,i=>by simp[enumFrom]
 |x::r,j,0=>by simp[enumFrom]
 |x::r,j,i+1=>by
  simp only[enumFrom,Af,Us r (j+1) i];rw[show j+1+i=j+(i+1) by lia]
theorem Ut:∀(xs:List D) (j:Nat),(enumFrom j xs).length=xs.length
 |[],j=>rfl
 |x::r,j=>by simp[enumFrom,Ut r (j+1)]
theorem zl2{p:Int×Int}:¬lx p p:=by rintro(h|⟨_,h⟩)<;>lia
theorem N7{ps:List (Int×Int)}(h:ps.Pairwise lx):ps.Nodup:=h.imp λ{p q} h e=>by subst e;exact zl2 h
theorem zdG(h:pG xs=some ys):prim .sorted [.fl xs]=some (.nw ys):=by
 show Option.map Rz.nw (pG xs)=_;rw[h];rfl
theorem zh3{es:List Int}(uD:es.length<64)(h:es.Pairwise (·<·)):pG (es.map D.int)=some (es.map D.int):=by
 refine zew ?_ (by rw[bO];exact uD) λk hk=>?_
 ·rw[Gw]
  left
  rw[yO,fj];intro x _;rfl
 ·rw[bO] at hk;unfold tG;rw[fQ,fQ,cX hk,cX (show k<es.length by lia)];have:=Gh.mp h k (k+1) (by lia) hk (by lia);simp only[Option.map_some]
  congr 1
  apply nQ
  lia
noncomputable def endOf(i:Int)(p:Int×Int):Option Int:=if p.1=i then some p.2 else if p.2=i then some p.1 else none
noncomputable def bf(i:Int)(ps:List (Int×Int)):List Int:=ps.filterMap (endOf i)
theorem N8(h:Web n ps)(i:Int):(bf i ps).Pairwise (·<·):=by
 have ht:=h.tie;have hi:=h.inc;clear h;unfold bf
 induction ps with
 |nil=>simp
 |cons p r ih=>
  obtain⟨hp,hr⟩:=Du.mp hi;have ih:=ih (λq hq=>ht q (by simp[hq])) hr;rw[wC]
  split
  ·exact ih
  ·rename_i b eb;refine Du.mpr ⟨λc hc=>?_,ih⟩;obtain⟨q,hq,eq⟩:=Gn.mp hc;have l:=hp q hq;have tp:=ht p (by simp);have tq:=ht q (by simp[hq]);unfold endOf at eb eq;unfold lx at l;split at eb
   ·cases eb;split at eq
    ·cases eq;lia
    ·split at eq
     ·cases eq;lia
     ·cases eq
   ·split at eb
    ·cases eb;split at eq
     ·cases eq;lia
     ·split at eq
      ·cases eq;lia
      ·cases eq
    ·cases eb
theorem N_(h:Web n ps)(he:e∈bf i ps):0<=e/\e<n:=by
 obtain⟨q,hq,eq⟩:=Gn.mp he;have tq:=h.tie q hq;unfold endOf at eq;split at eq
 ·cases eq;lia
 ·split at eq
  ·cases eq;lia
  ·cases eq
theorem Uu:∀{es:List Int} {a n:Int},es.Pairwise (·<·)->(∀e∈es,a<=e/\e<n)->a<=n->(es.length:Int)<=n-a
 |[],a,n,_,_,h=>by simp;lia
 |e::r,a,n,h,hb,ha=>by
  obtain⟨h1,h2⟩:=Du.mp h;have he:=hb e (by simp);have:=Uu (es:=r) (a:=e+1) (n:=n) h2 (λx hx=>⟨by have:=h1 x hx;lia,(hb x (by simp[hx])).2⟩) (by lia);rw[fX]
  lia
theorem zmW{a b:Int}{i:Nat}{x:D}(h:(jK a b)[i]?=some x):x=.int (a+i)/\a+i<b:=by
 unfold jK at h;rw[fQ] at h;cases e:(List.range (b-a).toNat)[i]? with
 |none=>rw[e] at h;cases h
 |some j=>
  rw[e] at h;cases h;obtain⟨hl,rfl⟩:=dO.mp e;rw[lK] at hl;rw[Gq];exact⟨rfl,by lia⟩
theorem zi3:(jK a b).length=(b-a).toNat:=by unfold jK;simp
theorem jz(h1 : -1000<=a)(h2:a<=1000):gw a=true:=by
 unfold gw;rw[fu (by lia),fu (by lia)];rfl
theorem oY(hl:locs xs=[s.length])(h:W (F (dX 0 xs)) [o] λv s1=>∃d o',v=.d d/\s1=[o']/\P (.d d) (s++[o'])):W (cP F xs) (s++[o]) P:=by
 refine Ui (n:=s.length) (o:=o) hl (by simp) (h.imp λv s1=>?_);rintro⟨d,o',rfl,rfl,hp⟩;exact⟨d,o',rfl,rfl,by rw[show (s++[o]).set s.length o'=s++[o'] by simp];exact hp⟩
theorem zjZ{ns:List Int}{lo hi:Option Int}{x:D}(h:x∈cut (ns.map D.int) lo hi):∃n,x=.int n:=by
 have:=Gk (Dn h);obtain⟨n,_,rfl⟩:=jE.mp this;exact⟨n,rfl⟩
theorem zjA{ns:List Int}{lo hi:Option Int}:(cut (ns.map D.int) lo hi).length<=ns.length:=by
 unfold cut;rw[pI,DG,bO]
 lia
noncomputable def norm(p:Int×Int):Int×Int:=if p.1<p.2 then p else (p.2,p.1)
theorem zg5(h:p.1<p.2):norm p=p:=by unfold norm;rw[if_pos h]
theorem Uv{α:Type}[DecidableEq α]:∀{l m:List α},l.Nodup->(∀x∈l,x∈m)->l.length<=m.length
 |[],m,_,_=>wI _
 |x::r,m,h,hm=>by
  obtain⟨h1,h2⟩:=vH.mp h;have hx:x∈m:=hm x (by simp);have:=Uv (l:=r) (m:=m.erase x) h2 λy hy=>(List.mem_erase_of_ne (λe=>by subst e;exact h1 hy)).mpr (hm y (by simp[hy]));rw[List.length_erase_of_mem hx] at this;have:=P0 hx;rw[fX]
  lia
noncomputable def vh:List (Int×Int):=[(0,1),(0,2),(0,3),(0,4),(0,5),(0,6),(0,7),(1,2),(1,3),(1,4),(1,5),(1,6),(1,7),(2,3),(2,4),(2,5),(2,6),(2,7),(3,4),(3,5),(3,6),(3,7),(4,5),(4,6),(4,7),(5,6),(5,7),(6,7)]
theorem Uw{n:Int}{ps:List (Int×Int)}(h8:n<=8)(ht:∀p∈ps,0<=p.1/\p.1<p.2/\p.2<n)(nd:ps.Nodup):ps.length<=28:=by
 have:ps.length<=vh.length:=Uv nd λp hp=>by
  obtain⟨a,b⟩:=p;have h:=ht _ hp;dsimp only at h;obtain⟨x,rfl⟩:=yG h.1;obtain⟨y,rfl⟩:=yG (show 0<=b by lia);have key:((List.range 8).all λx=>(List.range 8).all λy=>!decide (x<y)||vh.contains (((x:Nat):Int),((y:Nat):Int)))=true:=by decide
  have k1:=fj.mp (fj.mp key x (tR.mpr (by lia))) y (tR.mpr (by lia));rw[fu (show x<y by lia)] at k1;exact List.contains_iff_mem.mp (by simpa using k1)
 exact this
section
variable {aq:Nat->Nat->Bool}{F:Fn}{J:Vs}{s:S}{P:Xv->S->Prop}
end
theorem Ux:∀(is:List Int) (i:Int),best (λa b=>decide (a>b)) i is∈i::is/\∀x∈i::is,x<=best (λa b=>decide (a>b)) i is
 |[],i=>by simp[best]
 |j::r,i=>by
  have e:best (λa b=>decide (a>b)) i (j::r)=best (λa b=>decide (a>b)) (if decide (j>i)=true then j else i) r:=rfl;rw[e];by_cases h:j>i
  ·rw[if_pos (fu h)];obtain⟨h1,h2⟩:=Ux r j;refine⟨iz _ h1,λx hx=>?_⟩;rcases gQ.mp hx with rfl|hx
   ·have:=h2 j (by simp);lia
   ·exact h2 x hx
  ·rw[if_neg (by simp;lia)];obtain⟨h1,h2⟩:=Ux r i;refine⟨?_,λx hx=>?_⟩
   ·rcases gQ.mp h1 with h1|h1
    ·rw[h1];simp
    ·simp[h1]
   ·rcases gQ.mp hx with rfl|hx
    ·exact h2 x (by simp)
    ·rcases gQ.mp hx with rfl|hx
     ·have:=h2 i (by simp);lia
     ·exact h2 x (by simp[hx])
theorem zfD(fs:List Int):dH (fs.map D.int)=some fs:=by
 induction fs with
 |nil=>rfl
 |cons a r ih=>
  show Option.map _ (dH (r.map D.int))=_;rw[ih];rfl
theorem znj(h:fs≠[]):∃r,prim .rP [.fl (fs.map .int)]=some (.dat (.int r))/\r∈fs/\∀x∈fs,x<=r:=by
 cases fs with
 |nil=>exact absurd rfl h
 |cons i is=>
  refine⟨_,?_,Ux is i⟩;show oH _ (dH ((i::is).map D.int))=_;rw[zfD];rfl
noncomputable def at'(fs:List Int)(j:Int):Int:=fs.getD j.toNat 0
theorem vZ{fs:List Int}{j:Int}(h0:0<=j)(h:j<fs.length):∃(i:Nat) (hi:i<fs.length),j=i/\at' fs j=fs[i]:=by
 obtain⟨i,rfl⟩:=yG h0;have hi:i<fs.length:=by lia
 refine⟨i,hi,rfl,?_⟩;unfold at';rw[pC,jQ,cX hi];rfl
theorem yp{fs:List Int}{j:Int}(h0:0<=j)(h:j<fs.length):at' fs j∈fs:=by
 obtain⟨i,hi,_,e⟩:=vZ h0 h;rw[e];exact Lq _
theorem Uy{fs:List Int}{j:Int}(h0:0<=j)(h:j<fs.length):(fs.map D.int)[j.toNat]?=some (.int (at' fs j)):=by
 obtain⟨i,hi,rfl,e⟩:=vZ h0 h;rw[e,pC,fQ,cX hi];rfl
theorem oZ{fs gs:List Int}{j:Int}(h0:0<=j)(h:j<fs.length):at' (fs++gs) j=at' fs j:=by
 obtain⟨i,hi,rfl,e⟩:=vZ h0 h;unfold at';rw[pC,jQ,jQ,mF hi]
theorem J8:at' (fs++[x]) fs.length=x:=by
 unfold at';rw[pC,jQ,nP (bU _)];simp
theorem rB(h0:0<=j)(h:xs[j.toNat]?=some x):prim .ix [.fl xs,.int j]=some (.dat x):=by
 obtain⟨k,rfl⟩:=yG h0;exact NT h
theorem zmf(h0:0<=j)(h:xs[j.toNat]?=some x):prim .ix [.tup xs,.int j]=some (.dat x):=rB h0 h
theorem Oa(h0:0<=j)(h:j<fs.length):prim .ix [.tup (fs.map .int),.int j]=some (.dat (.int (at' fs j))):=rB h0 (Uy h0 h)
noncomputable def cT(k a b:Int):Int:=if k-(if a-b<0 then -(a-b) else a-b)<(if a-b<0 then -(a-b) else a-b) then k-(if a-b<0 then -(a-b) else a-b) else (if a-b<0 then -(a-b) else a-b)
theorem FN(hd:1<=d):d<=cT k a b↔(d<=a-b/\a-b<=k-d)\/(d<=b-a/\b-a<=k-d):=by
 unfold cT
 split<;>split<;>lia
structure nG(n k d:Int)(ps:List (Int×Int))(hs:List Int):Prop where
 len:(hs.length:Int)=n
 lo:∀x∈hs,0<=x/\x<k
 fit:∀p∈ps,d<=cT k (at' hs p.1) (at' hs p.2)
section
variable {aq:Nat->Nat->Bool}{aj:Bool}{F:Bool->Fn}{J:Vs}{s:S}{Q:Out->S->Prop}
end
section
variable {aq:Nat->Nat->Bool}{aj:Bool}{F:Fn}{J:Vs}{s:S}{P:Xv->S->Prop}
end
def Ge(h r:List Int):Prop:=∀j:Nat,j<r.length->(∀i:Nat,i<j->at' h i=at' r i)->at' r j<=at' h j
theorem zkb(xs:List D):cZ 50 (.fl xs) (.fl [])=some (decide (xs=[])):=by
 cases xs with
 |nil=>rfl
 |cons x r=>rfl
theorem zoG:zu f [.fl xs,.fl []]=some (.dat (.bl (f (decide (xs=[]))))):=by
 show Option.map _ (cZ 50 (.fl xs) (.fl []))=_;rw[zkb];rfl
noncomputable def bA(k d:Int):D:=.tup [.int k,.int d]
section
variable {n k d:Int}{ps:List (Int×Int)}{ls:List Int}
end
theorem Kba{c:Src}{xs:List D}{f:D->List D->M (List D)}{s1:S}{acc:List D}{P:List D->S->Prop}(hc:∀i,c.at i s1=some xs[i]?)(I:Nat->List D->Prop)(h0:I 0 acc)(hb:∀i x acc,xs[i]?=some x->I i acc->W (f x acc) s1 λa s'=>s'=s1/\I (i+1) a)
  (he:∀acc,I xs.length acc->P acc s1):W (Mi.walk c f (xs.length+1) 0 acc) s1 P:=by
 have key:∀n i acc,i+n=xs.length->I i acc->W (Mi.walk c f (n+1) i acc) s1 P:=by
  intro n
  induction n with
  |zero=>
   intro i acc hi hI;have e:xs[i]?=none:=by rw[pA];lia
   have:i=xs.length:=by lia
   subst this;refine⟨acc,s1,?_,he acc hI⟩;unfold Mi.walk;simp only[hc,e]
  |succ n ih=>
   intro i acc hi hI;have cV:i<xs.length:=by lia
   have e:xs[i]?=some xs[i]:=cX cV;obtain⟨a,s',eb,rfl,yj⟩:=hb i xs[i] acc e hI;obtain⟨a2,s2,e2,q⟩:=ih (i+1) a (by lia) yj;refine⟨a2,s2,?_,q⟩;unfold Mi.walk;simp only[hc,e,M.bd,eb];exact e2
 exact key xs.length 0 acc (by lia) h0
section
variable {aq:Nat->Nat->Bool}{F:Fn}{J:Vs}{s:S}{P:Xv->S->Prop}
theorem Kav{α:Type}{f:α->D}{l:List α}{fz:Bool}{elt:E}{tg:List Nat}{it:Wk}{fr:List Nat}{many:Nat}{cond:Eo}(s1:S)(g:α->Option D)(hc:l.length<=sizeLine)
  (hw:W (iB aq true F it J) s λcn s'=>s'=s1/\cn.2=(l.map f).length/\∀i,cn.1.at i s1=some (l.map f)[i]?)
  (hb:∀x∈l,sI (dj tg (f x) (blk many fr J)) λJ'=>W (m9 aq true F cond J') s1 λb s'=>s'=s1/\(b=true->W (ev aq true F elt J') s1 λy s2=>s2=s1/\∃d,y=.d d/\g x=some d)/\(b=false->g x=none))
  (h:W (newL fz (l.filterMap g)) s1 P):W (ev aq true F (.comp fz elt tg it fr many cond) J) s P:=by
 change W (_root_.ite (true=true) _ _) s P
 rw[if_pos rfl];refine W.bd (hw.imp λcn s'=>?_);rintro⟨rfl,h2,h3⟩;refine W.bd ?_;rw[h2];refine Kba h3 (λi acc=>acc=(l.take i).filterMap g) rfl (λi x acc e hI=>?_) (λacc hI=>?_)
 ·subst hI;rw[fQ] at e;cases el:l[i]? with
  |none=>rw[el] at e;cases e
  |some y=>
   rw[el] at e;cases e;have hi:i<l.length:=(dO.mp el).1;have ht:l.take (i+1)=l.take i++[y]:=by rw[yN,el];rfl
   have hl:((l.take i).filterMap g).length<sizeLine:=Qk (Dl _ _) (by rw[pI];lia);obtain⟨J',e1,h1⟩:=hb y (eZ el);refine W.bd (W.opt e1 ?_);refine W.bd (W.qt (h1.imp λb s2=>?_));rintro⟨rfl,h2,h3⟩;rw[ht,Dm];cases b
   ·rw[if_neg (by decide)];refine W.ret ⟨rfl,?_⟩;simp[h3 rfl]
   ·rw[if_pos rfl];refine W.bd (W.qt ((h2 rfl).imp λy s3=>?_));rintro⟨rfl,d,rfl,eg⟩;refine W.bd (W.dat ?_);rw[if_pos hl];refine W.ret ⟨rfl,?_⟩;simp[eg]
 ·subst hI;rw[bO,tQ];exact h
end
theorem zX{α:Type}{l:List α}{f:α->D}:l.filterMap (λx=>some (f x))=l.map f:=by
 rw[<-Ld];rfl
theorem zlW{α:Type}{l:List α}{f:α->D}{q:α->Prop}[DecidablePred q]:l.filterMap (λx=>if q x then some (f x) else none)=(l.filter λx=>decide (q x)).map f:=by
 induction l with
 |nil=>rfl
 |cons x r ih=>
  rw[wC,sW];by_cases e:q x
  ·simp[e,ih]
  ·simp[e,ih]
theorem Kbd(I:Nat->Vs->S->Prop)(h0:I 0 J s)(hb:∀i x J s,c[i]?=some x->I i J s->WS (b x J) s λo s'=>(∃J',o=.nx J'/\I (i+1) J' s')\/(∃x,o=.rt x/\Q (.rt x) s'))
  (he:∀J s,I c.length J s->Q (.nx J) s):WS (c7 (.fix c) b (c.length+1) 0 J) s Q:=by
 have key:∀n i J s,i+n=c.length->I i J s->WS (c7 (.fix c) b (n+1) i J) s Q:=by
  intro n
  induction n with
  |zero=>
   intro i J s hi hI;have e:c[i]?=none:=by rw[pA];lia
   have:i=c.length:=by lia
   subst this;refine⟨_,s,?_,he J s hI⟩;unfold c7;simp only[Src.at,e]
  |succ n ih=>
   intro i J s hi hI;have cV:i<c.length:=by lia
   have e:c[i]?=some c[i]:=cX cV;obtain⟨o,s',eb,hr⟩:=hb i c[i] J s e hI;rcases hr with ⟨J',rfl,yj⟩|⟨x,rfl,hq⟩
   ·obtain⟨o2,s2,e2,q⟩:=ih (i+1) J' s' (by lia) yj;refine⟨o2,s2,?_,q⟩;unfold c7;simp only[Src.at,e,eb];exact e2
   ·refine⟨_,s',?_,hq⟩;unfold c7;simp only[Src.at,e,eb]
 exact key c.length 0 J s (by lia) h0
theorem yq{hs:List Int}{f:Int->Int}{j:Int}(h0:0<=j)(h:j<hs.length):at' (hs.map f) j=f (at' hs j):=by
 obtain⟨i,hi,rfl,e⟩:=vZ h0 h;rw[e];unfold at';rw[pC,jQ,fQ,cX hi];rfl
theorem zjg(h:xs.length+ys.length<=sizeLine):prim .add [.tup xs,.tup ys]=some (.dat (.tup (xs++ys))):=by
 show (if _ then _ else _)=_;rw[if_pos h]
theorem zgd{α:Type}(l:List α)(f:α->Bool):eU (l.map λx=>D.bl (f x))=some (l.map f):=by
 induction l with
 |nil=>rfl
 |cons x r ih=>
  show Option.map _ (eU (r.map λx=>D.bl (f x)))=_;rw[ih];rfl
theorem zjr{α:Type}{l:List α}{f:α->Bool}:prim .all [.fl (l.map λx=>D.bl (f x))]=some (.dat (.bl (l.all f))):=by
 show Option.map _ (eU (l.map λx=>D.bl (f x)))=_;rw[zgd];show some (Rz.dat (.bl ((l.map f).all id)))=_;rw[yO];rfl
section
variable {n m:Int}{ps:List (Int×Int)}
end
end Mi
namespace Mi
open PySem PySem.W PyProof.Rows L2
structure Ord(n:Nat)(lt:Nat->Nat->Option Bool)(le:Nat->Nat->Prop):Prop where
 ans:∀i j,i<n->j<n->(lt i j=some true/\le i j)\/(lt i j=some false/\le j i)
 tr:∀i j k,i<n->j<n->k<n->le i j->le j k->le i k
section
variable {lt:Nat->Nat->Option Bool}{le:Nat->Nat->Prop}{n:Nat}
theorem Ord.rfl'(o:Ord n lt le)(hi:i<n):le i i:=by
 rcases o.ans i i hi hi with ⟨_,e⟩|⟨_,e⟩<;>exact e
def tM(le:Nat->Nat->Prop)(p:Array Nat)(r:Nat):Prop:=∀a b,a<b->b<r->le (p.getD a 0) (p.getD b 0)
def v7(le:Nat->Nat->Prop)(p:Array Nat)(r:Nat):Prop:=∀a b,a<b->b<r->le (p.getD b 0) (p.getD a 0)
def J9(le:Nat->Nat->Prop)(p:Array Nat)(l r:Nat):Prop:=∀a b,l<=a->a<r->l<=b->b<r->le (p.getD a 0) (p.getD b 0)
theorem getD_get?{p q:Array Nat}{i j:Nat}(h:p[i]?=q[j]?):p.getD i 0=q.getD j 0:=by
 have e:∀(x:Array Nat) (k:Nat),x.getD k 0=(x[k]?).getD 0:=by
  intro x k;unfold Array.getD
  split
  ·rename_i h;rw[Array.getElem?_eq_getElem h];rfl
  ·rename_i h;rw[Array.getElem?_eq_none (by lia)];rfl
 rw[e,e,h]
theorem cN.size{p:Array Nat}(h:cN n p):p.size=n:=by have:=h.size_eq;simpa using this
theorem v8{p:Array Nat}{i j k:Nat}(hj:j<=p.size):(kas_rev p i j).getD k 0=if i<=k/\k<j then p.getD (i+j-1-k) 0 else p.getD k 0:=by
 have:=getElem?_mirror_all (xs:=p) (i:=i) hj k;unfold kas_rev
 split
 ·rename_i h;rw[if_pos h] at this;exact getD_get? this
 ·rename_i h;rw[if_neg h] at this;exact getD_get? this
theorem ze0{p:Array Nat}{src d k:Nat}(hs:src<p.size)(hd:d<=src):(bubble p src d).getD k 0=if k=src-d then p.getD src 0 else if src-d<k/\k<=src then p.getD (k-1) 0 else p.getD k 0:=by
 have:=getElem?_bubble hs d hd k;by_cases h:k=src-d
 ·rw[if_pos h] at this ⊢;exact getD_get? this
 ·rw[if_neg h] at this ⊢;by_cases h2:src-d<k/\k<=src
  ·rw[if_pos h2] at this ⊢;exact getD_get? this
  ·rw[if_neg h2] at this ⊢;exact getD_get? this
variable (o:Ord n lt le)(hn:0<n)
include o hn
theorem vm(hi:i<n)(hj:j<n)(h1:le i j->iG lt (k true) P)(h2:le j i->iG lt (k false) P):iG lt (.ask i j k) P:=by
 rcases o.ans i j hi hj with ⟨e,hl⟩|⟨e,hl⟩
 ·obtain⟨a,e1,q⟩:=h1 hl;exact⟨a,by unfold bQ;rw[e];exact e1,q⟩
 ·obtain⟨a,e1,q⟩:=h2 hl;exact⟨a,by unfold bQ;rw[e];exact e1,q⟩
theorem zh2(hp:cN n p)(hk:1<=k)(h:tM le p k)(hl:le (p.getD (k-1) 0) (p.getD k 0)):tM le p (k+1):=λa b yr hb=>by
 by_cases e:b=k
 ·subst e;by_cases e2:a=b-1
  ·subst e2;exact hl
  ·exact o.tr _ _ _ (hp.lt hn _) (hp.lt hn _) (hp.lt hn _) (h a (b-1) (by lia) (by lia)) hl
 ·exact h a b yr (by lia)
theorem J_(hp:cN n p)(hk:1<=k)(h:v7 le p k)(hl:le (p.getD k 0) (p.getD (k-1) 0)):v7 le p (k+1):=λa b yr hb=>by
 by_cases e:b=k
 ·subst e;by_cases e2:a=b-1
  ·subst e2;exact hl
  ·exact o.tr _ _ _ (hp.lt hn _) (hp.lt hn _) (hp.lt hn _) hl (h a (b-1) (by lia) (by lia))
 ·exact h a b yr (by lia)
theorem Uz(hp:cN n p):∀f k,1<=k->k+f<=n->tM le p k->iG lt (kas_asc p f k) λr=>k<=r/\r<=k+f/\tM le p r/\(r<k+f->le (p.getD r 0) (p.getD (r-1) 0))
 |0,k,_,_,h=>.ret ⟨bU _,by lia,h,λz=>by lia⟩
 |f+1,k,hk,hkf,h=>vm o hn (hp.lt hn _) (hp.lt hn _) (λhl=>.ret ⟨bU _,by lia,h,λ_=>hl⟩) λhl=>by
  obtain⟨r,e,h1,h2,h3,h4⟩:=Uz hp f (k+1) (by lia) (by lia) (zh2 o hn hp hk h hl);exact⟨r,e,by lia,by lia,h3,λz=>h4 (by lia)⟩
theorem zgH(hp:cN n p)(hk:k<=n)(h:v7 le p k)(ha:J9 le p l k):v7 le (kas_rev p l k) k:=λa b yr hb=>by
 have hs:=hp.size;rw[v8 (by lia),v8 (by lia)];by_cases ca:l<=a/\a<k
 ·rw[if_pos ca,if_pos (by lia)];exact ha _ _ (by lia) (by lia) (by lia) (by lia)
 ·rw[if_neg ca];by_cases cb:l<=b/\b<k
  ·rw[if_pos cb];exact h a _ (by lia) (by lia)
  ·rw[if_neg cb];exact h a b yr hb
theorem Ob:∀f {p:Array Nat} k q,cN n p->1<=k->k+f<=n->q+1<=k->v7 le p k->J9 le p (k-(q+1)) k->iG lt (kas_desc f p k q) λr=>cN n r.1/\k<=r.2.1/\r.2.1<=k+f/\r.2.2+1<=r.2.1/\v7 le r.1 r.2.1/\J9 le r.1 (r.2.1-(r.2.2+1)) r.2.1
 |0,p,k,q,hp,_,_,hq,h,ha=>.ret ⟨hp,bU _,by dsimp only;lia,hq,h,ha⟩
 |f+1,p,k,q,hp,hk,hkf,hq,h,ha=>vm o hn (hp.lt hn _) (hp.lt hn _) (λhl=>by
   show iG lt (if q>0 then _ else _) _;have hs:=hp.size;have one:∀{x:Array Nat},cN n x->J9 le x (k+1-(0+1)) (k+1):=λ{x} hx a b h1 h2 h3 h4=>by
    have:a=k:=by lia
    have:b=k:=by lia
    subst a;subst b;exact o.rfl' (hx.lt hn _)
   split
   ·have hp':=hp.rev (k-(q+1)) k;have h':v7 le (kas_rev p (k-(q+1)) k) (k+1):=J_ o hn hp' hk (zgH o hn hp (by lia) h ha) (by
     rw[v8 (by lia),v8 (by lia),if_neg (by lia),if_pos (by lia)];refine o.tr _ _ _ (hp.lt hn _) (hp.lt hn _) (hp.lt hn _) hl (ha _ _ (by lia) (by lia) (by lia) (by lia)))
    obtain⟨r,e,w⟩:=Ob f (k+1) 0 hp' (by lia) (by lia) (by lia) h' (one hp');exact⟨r,e,w.1,by lia,by lia,w.2.2.2⟩
   ·obtain⟨r,e,w⟩:=Ob f (k+1) 0 hp (by lia) (by lia) (by lia) (J_ o hn hp hk h hl) (one hp);exact⟨r,e,w.1,by lia,by lia,w.2.2.2⟩) λhl=>vm o hn (hp.lt hn _) (hp.lt hn _) (λ_=>.ret ⟨hp,bU _,by dsimp only;lia,hq,h,ha⟩) λhl2=>by
   have hA:J9 le p (k+1-(q+1+1)) (k+1):=λa b h1 h2 h3 h4=>by
    have key:∀c,k-(q+1)<=c->c<k->le (p.getD c 0) (p.getD k 0)/\le (p.getD k 0) (p.getD c 0):=λc c1 c2=>
     ⟨o.tr _ _ _ (hp.lt hn _) (hp.lt hn _) (hp.lt hn _) (ha c (k-1) c1 c2 (by lia) (by lia)) hl,o.tr _ _ _ (hp.lt hn _) (hp.lt hn _) (hp.lt hn _) hl2 (ha (k-1) c (by lia) (by lia) c1 c2)⟩
    by_cases ea:a=k
    ·by_cases eb:b=k
     ·subst a;subst b;exact o.rfl' (hp.lt hn _)
     ·subst a;exact(key b (by lia) (by lia)).2
    ·by_cases eb:b=k
     ·subst b;exact(key a (by lia) (by lia)).1
     ·exact ha a b (by lia) (by lia) (by lia) (by lia)
   obtain⟨r,e,w⟩:=Ob f (k+1) (q+1) hp (by lia) (by lia) (by lia) (J_ o hn hp hk h hl2) hA;exact⟨r,e,w.1,by lia,by lia,w.2.2.2⟩
theorem zkt(hp:cN n p)(hk:k<=n)(h:v7 le p k):tM le (kas_rev p 0 k) k:=λa b yr hb=>by
 have hs:=hp.size;rw[v8 (by lia),v8 (by lia),if_pos (by lia),if_pos (by lia)];exact h _ _ (by lia) (by lia)
theorem zhy(hp:cN n p)(hk:1<=k)(Ka:k<=n)(h:v7 le p k):iG lt (kas_tail3 k n p) λr=>cN n r.2/\1<=r.1/\r.1<=n/\tM le r.2 r.1:=by
 refine iG.bind (λc hc=>?_) (Uz o hn (hp.rev 0 k) (n-k) k hk (by lia) (zkt o hn hp Ka h));exact⟨_,rfl,hp.rev 0 k,by dsimp only;lia,by dsimp only;lia,hc.2.2.1⟩
theorem zcF(hp:cN n p)(hk:1<=k)(Ka:k<n)(h:v7 le p (k+1)):iG lt (kas_descPart k n p) λr=>cN n r.2/\1<=r.1/\r.1<=n/\tM le r.2 r.1:=by
 refine iG.bind (λr hr=>?_) (Ob o hn (n-(k+1)) (k+1) 0 hp (by lia) (by lia) (by lia) h (λa b h1 h2 h3 h4=>by
  have:a=k:=by lia
  have:b=k:=by lia
  subst a;subst b;exact o.rfl' (hp.lt hn _)))
 obtain⟨w1,w2,w3,w4,w5,w6⟩:=hr
 split
 ·exact zhy o hn (w1.rev _ _) (by lia) (by lia) (zgH o hn w1 (by lia) w5 w6)
 ·exact zhy o hn w1 (by lia) (by lia) w5
theorem zlb(hp:cN n p):iG lt (kas_count n p) λr=>cN n r.2/\1<=r.1/\r.1<=n/\tM le r.2 r.1:=by
 refine iG.bind (λk hk=>?_) (Uz o hn hp (n-1) 1 (bU _) (by lia) (λa b h1 h2=>by lia));obtain⟨k1,k2,k3,k4⟩:=hk;have hs:=hp.size;by_cases e:(k==n)=true
 ·rw[if_pos e];exact .ret ⟨hp,k1,by dsimp only;lia,k3⟩
 ·rw[if_neg e];have Ka:k<n:=by
   have:k≠n:=by simpa using e
   lia
  have hl:=k4 (by lia)
  split
  ·refine vm o hn (hp.lt hn _) (hp.lt hn _) (λ_=>.ret ⟨hp,k1,by dsimp only;lia,k3⟩) λhz=>?_;have alk:∀a b,a<k->b<k->le (p.getD a 0) (p.getD b 0):=λa b ha hb=>by
    have h1:le (p.getD a 0) (p.getD (k-1) 0):=by
     by_cases q:a=k-1
     ·subst q;exact o.rfl' (hp.lt hn _)
     ·exact k3 a (k-1) (by lia) (by lia)
    have h2:le (p.getD 0 0) (p.getD b 0):=by
     by_cases q:b=0
     ·subst q;exact o.rfl' (hp.lt hn _)
     ·exact k3 0 b (by lia) (by lia)
    exact o.tr _ _ _ (hp.lt hn _) (hp.lt hn _) (hp.lt hn _) (o.tr _ _ _ (hp.lt hn _) (hp.lt hn _) (hp.lt hn _) h1 hz) h2
   refine zcF o hn (hp.rev 0 k) k1 Ka (J_ o hn (hp.rev 0 k) k1 (λa b h1 h2=>?_) ?_)
   ·rw[v8 (by lia),v8 (by lia),if_pos (by lia),if_pos (by lia)];exact alk _ _ (by lia) (by lia)
   ·rw[v8 (by lia),v8 (by lia),if_neg (by lia),if_pos (by lia)];exact o.tr _ _ _ (hp.lt hn _) (hp.lt hn _) (hp.lt hn _) hl (alk _ _ (by lia) (by lia))
  ·have:k=1:=by lia
   subst this;refine zcF o hn hp (bU _) Ka (J_ o hn hp (bU _) (λa b h1 h2=>by lia) hl)
theorem UG(hp:cN n p)(h:tM le p k):∀f l r,l<=r->r<=k->r-l<=f->(∀a,a<l->le (p.getD a 0) (p.getD k 0))->(∀a,r<=a->a<k->le (p.getD k 0) (p.getD a 0))->iG lt (kas_place p k f l r) λi=>i<=k/\(∀a,a<i->le (p.getD a 0) (p.getD k 0))/\(∀a,i<=a->a<k->le (p.getD k 0) (p.getD a 0))
 |0,l,r,h1,h2,h3,h4,h5=>.ret ⟨by lia,h4,λa z=>h5 a (by lia)⟩
 |f+1,l,r,h1,h2,h3,h4,h5=>by
  unfold kas_place;by_cases e:l>=r
  ·rw[if_pos e];exact .ret ⟨by lia,h4,λa z=>h5 a (by lia)⟩
  ·rw[if_neg e];refine vm o hn (hp.lt hn _) (hp.lt hn _) (λhl=>?_) λhl=>?_
   ·refine UG hp h f l ((l+r)/2) (by lia) (by lia) (by lia) h4 λa z1 z2=>?_;by_cases q:a=(l+r)/2
    ·subst q;exact hl
    ·exact o.tr _ _ _ (hp.lt hn _) (hp.lt hn _) (hp.lt hn _) hl (h _ a (by lia) z2)
   ·refine UG hp h f ((l+r)/2+1) r (by lia) h2 (by lia) (λa z=>?_) h5;by_cases q:a=(l+r)/2
    ·subst q;exact hl
    ·exact o.tr _ _ _ (hp.lt hn _) (hp.lt hn _) (hp.lt hn _) (h a _ (by lia) (by lia)) hl
theorem znr:∀f {p:Array Nat} k,cN n p->k+f=n->tM le p k->iG lt (kas_bin f p k) λr=>cN n r/\tM le r n
 |0,p,k,hp,hk,h=>.ret ⟨hp,(show k=n by lia)▸h⟩
 |f+1,p,k,hp,hk,h=>iG.bind (λl hl=>by
   obtain⟨l1,l2,l3⟩:=hl;have hs:=hp.size;refine znr f (k+1) (hp.bub _ _) (by lia) λa b yr hb=>?_;rw[ze0 (by lia) (by lia),ze0 (by lia) (by lia),show k-(k-l)=l by lia];by_cases ea:a=l
   ·rw[if_pos ea,if_neg (by lia),if_pos (by lia)];exact l3 (b-1) (by lia) (by lia)
   ·rw[if_neg ea];by_cases ca:l<a/\a<=k
    ·rw[if_pos ca,if_neg (by lia),if_pos (by lia)];exact h _ _ (by lia) (by lia)
    ·rw[if_neg ca];by_cases eb:b=l
     ·rw[if_pos eb];exact l2 a (by lia)
     ·rw[if_neg eb];by_cases cb:l<b/\b<=k
      ·rw[if_pos cb];by_cases q:a=b-1
       ·lia
       ·exact h _ _ (by lia) (by lia)
      ·rw[if_neg cb];exact h _ _ yr (by lia)) (UG o hn hp h k 0 k (by lia) (bU _) (by lia) (λa z=>by lia) (λa z1 z2=>by lia))
theorem znd:iG lt (kas_sort n) λp=>cN n p/\tM le p n:=by
 refine iG.bind (λr hr=>?_) (zlb o hn (.refl _));obtain⟨w1,w2,w3,w4⟩:=hr
 split
 ·rw[Nat.max_eq_left w2];exact znr o hn _ _ w1 (by lia) w4
 ·have:r.1=n:=by lia
  exact .ret ⟨w1,this▸w4⟩
end
end Mi
namespace Ts
open PySem PySem.SetTable
end Ts
namespace Ts
open Mi PySem PySem.SetTable
end Ts
namespace Ts
open PySem PySem.SetTable
section
variable {prog:Program}{w:World}{A:Around}{E:Value->Shared->Prop}{s:Shared}{S:Addr}{items:List Value}{ts:List (Int×Int)}{L:Ent}{led:Bool}
end
end Ts
namespace Ts
open Mi (zy)
open PySem PySem.SetTable
section
variable {prog:Program}{w:World}{A:Around}{E:Value->Shared->Prop}{s:Shared}{S:Addr}{items:List Value}{ts:List (Int×Int)}{L:Ent}{led:Bool}
end
end Ts
namespace Ts
open PySem PySem.SetTable
section
variable {prog:Program}{w:World}{A:Around}{R:Result->Shared->Prop}{I:Addr}{fp wr:List Addr}{G:Array GenState->Array GenState->Prop}{n:Nat}{P:Nat->Value->Prop}{St:Nat->Shared->Prop}{S:Addr}{items:List Value}{ts:List (Int×Int)}{led:Bool}
end
section
variable {prog:Program}{w:World}{A:Around}{E:Value->Shared->Prop}{s:Shared}
end
section
variable {prog:Program}{w:World}{A:Around}{E:Value->Shared->Prop}{s:Shared}{S:Addr}{items:List Value}{ts:List (Int×Int)}{L:Ent}
end
end Ts
namespace Ts
open PySem PySem.SetTable PySem.Spec PyProof.Rows PySem.W L2
section
variable {prog:Program}{w:World}{A:Around}{E:Value->Shared->Prop}{s:Shared}{S:Addr}{items:List Value}{ts:List (Int×Int)}{L:Ent}
end
end Ts
namespace Mi
open PySem PySem.Spec PyProof.Rows L2 PySem.W Ts
noncomputable def sJ(a b:Int×Int):Bool:=decide (a.1<b.1\/a.1=b.1/\a.2<b.2)
noncomputable def Kc(us:List (Int×Int))(i j:Nat):Option Bool:=match us[i]?,us[j]? with
 |some a,some b=>some (sJ a b)
 |_,_=>none
def Oc(us:List (Int×Int))(i j:Nat):Prop:=sJ (us.getD j (0,1)) (us.getD i (0,1))=false
theorem vo{a b:Int×Int}:sJ a b=true↔(a.1<b.1\/a.1=b.1/\a.2<b.2):=Dv
theorem UJ{a b:Int×Int}:sJ a b=false↔¬(a.1<b.1\/a.1=b.1/\a.2<b.2):=PK
theorem UL(us:List (Int×Int)):Ord us.length (Kc us) (Oc us):=by
 refine⟨λi j hi hj=>?_,λi j k _ _ _ h1 h2=>?_⟩
 ·unfold Kc Oc;rw[cX hi,cX hj,jQ,jQ,cX hi,cX hj];show (some (sJ us[i] us[j])=some true/\sJ us[j] us[i]=false)\/(some (sJ us[i] us[j])=some false/\sJ us[i] us[j]=false);cases e:sJ us[i] us[j]
  ·exact .inr ⟨rfl,rfl⟩
  ·refine .inl ⟨rfl,?_⟩;rw[vo] at e;rw[UJ]
   lia
 ·unfold Oc at *;rw[UJ] at *
  lia
theorem zge{us:List (Int×Int)}(hn:2<=us.length)(hd:us.Nodup):∃p,bQ (Kc us) (kas_sort us.length)=some p/\p.size=us.length/\(∀i∈p.toList,i<us.length)/\(∀x,x∈p.toList.map (λi=>us.getD i (0,1))↔x∈us)/\(p.toList.map λi=>us.getD i (0,1)).Pairwise λa b=>sJ a b=true:=by
 obtain⟨p,e,hp,ha⟩:=znd (UL us) (by lia);have hs:p.size=us.length:=hp.size;have hm:(p.toList.map λi=>us.getD i (0,1)).Perm us:=by
  have h1:(p.toList.map λi=>us.getD i (0,1)).Perm ((List.range us.length).map λi=>us.getD i (0,1)):=(Array.Perm.toList hp).map _;have h2:((List.range us.length).map λi=>us.getD i (0,1))=us:=by
   apply List.ext_getElem
   ·simp
   ·intro i a b;simp[jQ,b]
  rw[h2] at h1;exact h1
 refine⟨p,e,hs,λi hi=>?_,λx=>hm.mem_iff,?_⟩
 ·have:=(Array.Perm.toList hp).mem_iff.mp hi;simpa using this
 ·have nd:(p.toList.map λi=>us.getD i (0,1)).Nodup:=hm.nodup_iff.mpr hd;rw[Gh];intro i j hi hj pL;have hne:=Gh.mp nd i j hi hj pL;have qN:i<p.size:=by simpa using hi
  have hj':j<p.size:=by simpa using hj
  have hl:=ha i j pL (by lia);unfold Oc at hl;have e1:p.getD i 0=p[i]:=by simp[Array.getD,qN]
  have e2:p.getD j 0=p[j]:=by simp[Array.getD,hj']
  rw[e1,e2] at hl;simp only[DK,Array.getElem_toList] at hne ⊢;generalize us.getD p[i] (0,1)=x at *;generalize us.getD p[j] (0,1)=y at *;rw[UJ] at hl;rw[vo];obtain⟨x1,x2⟩:=x;obtain⟨y1,y2⟩:=y;simp only[Prod.mk.injEq,ne_eq,not_and] at *
  lia
section
variable {prog:Program}{w:World}{A:Around}{E:Value->Shared->Prop}{s:Shared}{S:Addr}{items:List Value}{ts:List (Int×Int)}{L:Ent}
end
section
variable {X:Cx}
end
section
variable {K:W.Frag}{cA:Cl}{U:Ph}{H:Hp}
end
section
variable {X:Cx}{cA:Cl}{aq:Nat->Nat->Bool}{aj:Bool}{F:Fn}{EX:XS}{e:Expr}{pos pos' p p':Pos}{Xs:Es}{fz:Bool}
end
end Mi
namespace Mi
open PySem PySem.Spec PyProof.Rows L2 PySem.W
section
variable {X:Cx}{a b:Expr}{rest:List Expr}{pos:Pos}{ta tb:TE}
end
section
variable {K:W.Frag}{cA:Cl}{U:Ph}{H:Hp}
theorem zml{d:D}{v:V}{k:Bool}(r:Rv K cA U H d v)(e:xu d=some k):Br K v H k:=by
 cases d with
 |non=>
  cases (show Rep K cA U H .non v from r);cases e;rfl
 |bl c=>
  cases (show Rep K cA U H (.bl c) v from r);cases e;rfl
 |int i=>
  cases (show Rep K cA U H (.int i) v from r);cases e;rfl
 |tup xs=>
  cases (show Rep K cA U H (.tup xs) v from r) with
  |tup t q=>
   cases e;refine .inr (.inl ⟨_,t.ju,?_⟩);cases q<;>rfl
 |fl xs=>
  obtain⟨a,us,rfl,sq,q⟩ : ∃a us,v=.ref a/\cY K H a us/\aC K cA U H xs us:=r;cases e;refine .inl ⟨_,sq,?_⟩;cases q<;>rfl
 |_=>cases e
end
section
variable {X:Cx}{cA:Cl}{aq:Nat->Nat->Bool}{aj:Bool}{F:Fn}{EX:XS}{a b:Expr}{A B:E}{pos p:Pos}{x:Str}{e:Expr}{es:List Expr}{Xs:Es}
noncomputable def vp(sc:Scope)(x:Str):Bool:=match sc.names.lookup x with
 |some k=>Cz k
 |none=>false
noncomputable def Od(sc:Scope)(x:Str):Bool:=match sc.names.lookup x with
 |some .globalImplicit=>true
 |_=>false
theorem UW{sc:Scope}{x:Str}(h:vp sc x=true):∃k,sc.names.lookup x=some k/\Cz k=true:=by
 unfold vp at h;split at h
 ·rename_i k e;exact⟨k,e,h⟩
 ·cases h
theorem zjq{sc:Scope}{x:Str}(h:Od sc x=true):sc.names.lookup x=some .globalImplicit:=by
 unfold Od at h;split at h
 ·assumption
 ·cases h
theorem gk(h:Od X.env.scope x=true:=by kernel_rfl):JK X x .globalImplicit:=⟨zjq h⟩
theorem jl(h:(match X.env.scope.names.lookup x with|some .local=>true|_=>false)=true:=by kernel_rfl):JK X x .local:=by
 split at h
 ·exact⟨by assumption⟩
 ·cases h
theorem jc(h:(match X.env.scope.names.lookup x with|some .cell=>true|_=>false)=true:=by kernel_rfl):JK X x .cell:=by
 split at h
 ·exact⟨by assumption⟩
 ·cases h
theorem zY{scope:Scope}{cl:List (Str×Addr)}{N:List Str}{Cc:Addr}{s3:Shared}{H3:Hp}{fp:List Addr}{ao:List (Addr×Obj)}(h:Od scope x=true:=by kernel_rfl):JK (X.blk scope cl N Cc s3 H3 fp ao) x .globalImplicit:=zpw (zjq h) rfl
theorem gv(i:Nat)(h:(decide (X.N[i]?=some x)&&vp X.env.scope x&&okN x)=true:=by kernel_rfl):JE X cA aq aj F EX (.Name x pos) (.v i):=by
 rw[g8,g8] at h;obtain⟨k,e,hv⟩:=UW h.1.2;exact g_v i (gG h.1.1) ⟨e⟩ hv h.2
theorem bL(i:Nat){scope:Scope}{cl:List (Str×Addr)}{N:List Str}{Cc:Addr}{s3:Shared}{H3:Hp}{fp:List Addr}{ao:List (Addr×Obj)}(h:(decide (N[i]?=some x)&&vp scope x&&okN x)=true:=by kernel_rfl):JE (X.blk scope cl N Cc s3 H3 fp ao) cA aq aj F EX (.Name x pos) (.v i):=by
 rw[g8,g8] at h;obtain⟨k,e,hv⟩:=UW h.1.2;by_cases hk:k=.free
 ·subst hk;exact zpU i (gG h.1.1) e h.2
 ·exact g_v i (gG h.1.1) (zpw e (by cases k<;>first|rfl|exact absurd rfl hk)) hv h.2
theorem gc{f k:Nat}{cm:Bool}{st:Stmt}{ps:List Str}(Fo:cH X.prog X.w X.K X.mg X.base (gU X.prog X.w) cm k (iQ X.K x) (fdOf X.K x st) ps (lY X.K cA (F f)))(D:D3 X.K X.mg x st ps)(hr:bG k X.A)(R:JR X EX)(g:JK X x .globalImplicit)(ha:JA X cA aq aj F EX (e::es) Xs)(h:okN x=true:=by kernel_rfl)
  (jF:cm=true->X.aj=true:=by first|exact λ_=>rfl|exact λz=>nomatch z) (he:aD e=true:=by rfl) (hpl:es.all aD=true:=by rfl):JE X cA aq aj F EX (.Call (.Name x p) (e::es) [] pos) (.call f Xs):=
 zlX f Fo jF hr D.m D.f.kp D.b R g ha h he hpl
theorem nd(h:decide X.N.Nodup=true:=by kernel_rfl):X.N.Nodup:=gG h
end
theorem fJ{P:Program}{w:World}{K:W.Frag}{mg:Str->Option Value}{base:Heap}{cA:Cl}{aq:Nat->Nat->Bool}{T:Nat->Option Df}{x:Str}{st:Stmt}{ps:List Str}{k n:Nat}{cm:Bool}{df:Df}(D:D3 K mg x st ps)(N:List Str)(hT:T n=some df)
  (hb:∀(cdv:Value) (A:Around) (outer:List Env) (s:Shared) (H:Hp) (E:XK),bG k (A.deeper (envOfC x (au st) s.heap.objs.size (iQ K x) cdv))->
   JB (gK (gU P w) P w K mg base N x (au st) (iQ K x) cdv A outer s H E cm) cA aq cm (λc=>call aq T k c) (λ_ C dx H'=>E C dx H') (aK st) df.body) (S:dz N ps (au st):=by exact⟨rfl,rfl,rfl,dk,rfl,dk,dk⟩) (hp:df.iK=ps.length:=by rfl) (hm:df.many=N.length:=by rfl) :
  cH P w K mg base (gU P w) cm (k+1) (iQ K x) (fdOf K x st) ps (lY K cA (call aq T (k+1) cm n)):=ziY D.f S hT hp hm hb
end Mi
namespace Mi
open PySem PySem.Spec PyProof.Rows L2
section
variable {K:W.Frag}{cA:Cl}{U:Ph}{H:Hp}{s:S}
theorem zfi{β:Type}{c:Nat}{x:Xv}{v:V}{k:List D->M β}{P:β->S->Ph->Hp->Prop}{Ee:Nat->List D->S->Ph->Hp->Prop}(r:aV K cA U H x v)(h:Run K cA (M.bd (qb c x) k) U H s P Ee) :
  ∃fs ad dx vs,v=.ref ad/\H ad=some (.ins (cA.b c) dx ((cA.g c).zip vs))/\aC K cA U H fs vs/\Run K cA (k fs) U H s P Ee:=by
 cases r with
 |l _=>exact h.elim
 |d r=>cases r with
  |@ob ad e fs vs q r=>
   have h2:Run K cA (M.bd (if e=c then M.ret fs else M.no) k) U H s P Ee:=h;clear h;by_cases z:e=c
   ·rw[if_pos z] at h2;subst z;obtain⟨_,dx,q1,_⟩:=q;exact⟨fs,ad,dx,vs,rfl,q1,r,h2⟩
   ·rw[if_neg z] at h2;exact h2.elim
  |_=>exact h.elim
theorem Run.qt'{α:Type}{m:M α}{P:α->S->Ph->Hp->Prop}{Ee Ee':Nat->List D->S->Ph->Hp->Prop}(h:Run K cA (M.qt m) U H s P Ee):Run K cA m U H s P Ee':=by
 unfold Run M.qt at *;cases e:m s with
 |none=>rw[e] at h;exact h
 |some r=>
  obtain⟨r,s1⟩:=r;rw[e] at h;cases r with
  |ok a=>exact h
  |er c f=>exact h.elim
theorem zcH:∀{ns:List Str} {vs:List V} {m:Str},m∉ns->(ns.zip vs).lookup m=none
 |[],vs,m,_=>by simp
 |n::ns,[],m,_=>by simp
 |n::ns,v::vs,m,h=>by
  rw[Gp,pJ,show (m==n)=false from Dp.mpr λe=>h (by simp[e])];exact zcH λz=>h (iz _ z)
end
structure Ow(K:W.Frag)(cA:Cl)(c:Nat):Prop where
 cl:Cls K (cA.b c)
 nf:∀f∈cA.g c,h_ K (cA.b c) f
 nd:(cA.g c).Nodup
section
variable {X:Cx}{cA:Cl}{aq:Nat->Nat->Bool}{aj:Bool}{F:Fn}{EX:XS}{a e:Expr}{es:List Expr}{A:E}{Xs:Es}{pos apos p:Pos}{x:Str}
theorem zZ{c i:Nat}(o:Ow X.K cA c)(ha:JE X cA aq aj F EX a A)(hi:((cA.g c)[i]?==some x)=true:=by kernel_rfl)(hb:attributeBase a x X.env (eval a X.env)=eval a X.env:=by rfl):JE X cA aq aj F EX (.Attribute a x pos) (.of A c i):=⟨PE.weak (znc ha.o hb) λZ H Q hh=>un hh λU J s hL hS h=>by
 refine bw hL hS h λy H1 U1 d1 s1 x1 hL1 aJ r1 h1=>?_;obtain⟨fs,ad,dx,vs,rfl,q1,q2,h2⟩:=zfi r1 h1;have hi:(cA.g c)[i]?=some x:=pF.mp hi;cases ef:fs[i]? with
 |none=>rw[ef] at h2;exact h2.elim
 |some d=>
  rw[ef] at h2;obtain⟨v,e1,rv⟩:=q2.get ef;exact⟨ad,_,dx,_,v,rfl,q1,o.cl,o.nf x (eZ hi),zfQ o.nd hi e1,h2.bN aJ v (.d rv)⟩⟩
theorem zgB:Passes (gU X.prog X.w) X λ_ _ _=>False:=λao Z H s e s' I h=>by
 obtain⟨_,_,_,_,_,_,_,_,_,_,z⟩:=h;exact z.elim
structure Mt(K:W.Frag)(C:Addr)(m q:Str)(st:Stmt)(ps:List Str)(f:Addr)(fd:FuncData):Prop where
 fn:oR K m q st f fd
 mt:Meth K C m f
 bd:Binds K fd ps []
theorem v9{c f k:Nat}{cm:Bool}{m q:Str}{st:Stmt}{ps:List Str}{fa:Addr}{fd:FuncData}{pl:Sem Bool}(o:Ow X.K cA c)(D:Mt X.K (cA.b c) m q st ps fa fd)(Fo:cH X.prog X.w X.K X.mg X.base (gU X.prog X.w) cm k fa fd ps (lY X.K cA (F f)))(hr:bG k X.A)(ha:JE X cA aq aj F EX a A)(hb:JA X cA aq aj F EX (e::es) Xs)
  (hm:decide (m∉cA.g c)=true:=by kernel_rfl) (jF:cm=true->X.aj=true:=by first|exact λ_=>rfl|exact λz=>nomatch z) (he:aD e=true:=by rfl) (hpl:es.all aD=true:=by rfl)
  (ht:eval (.Call (.Attribute a m apos) (e::es) [] pos) X.env=(do
   let ov <-eval a X.env
   standAt apos.atName
   let (f,first) <-holding [ov] (getMethod ov m pl)
   callWith pos f first (backTo pos (starEach (e::es) X.env)) (backToKw pos (keywordEach [] X.env))):=by rfl):JE X cA aq aj F EX (.Call (.Attribute a m apos) (e::es) [] pos) (.cm c f A Xs):=⟨PE.weak (zj3 (pl:=pl) (n8:=[]) ha.o o.cl D.mt Fo jF hr D.bd .nil zgB hb.o (bx he) (bC hpl) ht) λZ H Q hh=>un hh λU J s hL hS h=>by
 refine bw hL hS h λy H1 U1 d1 s1 x1 hL1 aJ r1 h1=>?_;obtain⟨fs,ad,dx,vs,rfl,q1,q2,h2⟩:=zfi r1 h1;refine⟨ad,dx,_,rfl,q1,zcH (gG hm),qj hL1 aJ h2 λus H2 U2 ds s2 x2 hL2 aQ r2 h3=>?_⟩;rw[vG];obtain⟨U0,s0,a1,a2,a3⟩:=ZM (EE:=λ_ _ _ _=>False) aQ (.cons (r1.mono x2 aJ.lz) r2) (λ_ _ _ _ _ _ z=>z) (h3.qt');refine⟨U0,_,s0,a1,a2,?_⟩;unfold Run at a3 ⊢;split at a3
 ·exact a3
 ·exact λU' H' x r=>(a3 U' H' x r).elim
 ·exact a3⟩
end
noncomputable def Oe(K:W.Frag)(cA:Cl)(c:Nat)(m:List Xv->M Xv):Sp:=λvs H Q _=>∃x dx us U H0 xs s,vs=.ref x::us/\H0 x=none/\H0 dx=none/\dx≠x/\H=upd (upd H0 dx (.own x)) x (.ins (cA.b c) dx [])/\aP K cA U H0 xs us/\aF K cA U H0 s /\
 Run K cA (m (.d .any::xs)) U H0 s (λr _ U' H'=>∀ds ws,r=.d (.tup ds)->aC K cA U' H' ds ws->fL U' H' x (.ins (cA.b c) dx ((cA.g c).zip ws))->(cA.g c).length=ws.length->Q .non H') (λ_ _ _ _ _=>False)
section
variable {K:W.Frag}{cA:Cl}{U:Ph}{H:Hp}{s:S}
theorem zib{xs:List Xv}{vs:List V}(h:locs xs=[])(r:aP K cA U H xs vs)(l:List Addr):aP K cA ⟨U.z,l⟩ H xs vs:=by
 induction r with
 |nil=>exact .nil
 |cons a r ih=>cases a with
  |d a=>exact .cons (.d (Rep.zl a l)) (ih h)
  |l a=>cases h
theorem Ext.made{x dx:Addr}{C:Addr}(hx:H x=none)(hd:H dx=none)(hn:dx≠x):Ext U H (U.mark x) (upd (upd H dx (.own x)) x (.ins C dx [])):=by
 have g:bD H (upd (upd H dx (.own x)) x (.ins C dx [])):=(bD.new hd).trans (bD.new (by rw[dD hn.symm];exact hx));exact⟨⟨[],by simp[Ph.mark],by simp⟩,λa z=>.inl z,λa z=>z.imp id λe=>by rw[e];exact hx,λa o h _=>g a o h,λa o h=>⟨o,g a o h⟩⟩
theorem aF.made{x dx:Addr}{C:Addr}(hS:aF K cA U H s)(hx:H x=none)(hd:H dx=none)(hn:dx≠x):aF K cA (U.mark x) (upd (upd H dx (.own x)) x (.ins C dx [])) s:=by
 have xt:=Ext.made (U:=U) (C:=C) hx hd hn;refine⟨hS.len,λn o a e1 e2=>(hS.obj n o a e1 e2).map (λu q=>?_) λ_ _ r=>r.mono xt hS.lz,hS.uniq,λa ha=>.inl (hS.lz a ha),λa z=>?_⟩
 ·have n1:a≠x:=λy=>by rw[y,hx] at q;cases q
  have n2:a≠dx:=λy=>by rw[y,hd] at q;cases q
  rw[dD n1,dD n2];exact q
 ·rcases z with z|z
  ·obtain⟨o,e⟩:=hS.zt a z;exact xt.stay a o e
  ·subst z;exact⟨_,jT⟩
end
section
variable {X:Cx}{cA:Cl}{aq:Nat->Nat->Bool}{aj:Bool}{F:Fn}{EX:XS}{e:Expr}{es:List Expr}{Xs:Es}{pos p:Pos}{x:Str}
theorem zpS{c f k:Nat}{cm:Bool}{ps:List Str}{fa:Addr}{fd:FuncData}(M:Mk X.K (cA.b c) fa)(Fo:cH X.prog X.w X.K X.mg X.base (gU X.prog X.w) cm k fa fd ps (Oe X.K cA c (F f)))(hr:∀us,bG k (X.A.under (.builtin "type.__call__" ⟨.ref (cA.b c)::us,[]⟩)))(hb:Binds X.K fd ps [])(hm:X.mg x=some (.ref (cA.b c)))(hg:JK X x .globalImplicit)
  (ha:JA X cA aq aj F EX (e::es) Xs) (h:okN x=true:=by kernel_rfl) (jF:cm=true->X.aj=true:=by first|exact λ_=>rfl|exact λz=>nomatch z) (he:aD e=true:=by rfl) (hpl:es.all aD=true:=by rfl):JE X cA aq aj F EX (.Call (.Name x p) (e::es) [] pos) (.mk c f Xs):=⟨PE.weak (zln (n8:=[]) M Fo jF hr hg.o hm hb .nil zgB ha.o (uU h).1 (bx he) (bC hpl)) λZ H Q hh=>un hh λU J s hL hS h=>
 qj hL hS h λus H1 U1 ds s1 x1 hL1 aJ r1 h1 x dx hx hd hn=>by
  rw[vG];unfold Run SN at h1;by_cases hl:locs ds=[]
  ·simp only[if_pos hl] at h1;refine⟨x,dx,us,⟨U1.z,[]⟩,H1,ds,[],rfl,hx,hd,hn,rfl,zib hl r1 [],⟨rfl,(λn o a e=>by simp at e),DR,(λa ha=>by cases ha),aJ.zt⟩,?_⟩;unfold Run;cases e:F f (.d .any::ds) [] with
   |none=>simp only[e] at h1
   |some r=>
    obtain⟨r,s2⟩:=r;simp only[e] at h1;cases r with
    |er c f=>exact h1.elim
    |ok r=>
     intro U' H' xt aQ ts ws er rs kp hlen;subst er;have nx:¬U1.z x:=aJ.nz hx;have ne:∀a o,H1 a=some o->a≠x:=λa o q y=>by rw[y,hx] at q;cases q
     have xt2:Ext U1 H1 ⟨λa=>U'.z a/\a≠x,U1.l⟩ H':=by
      refine⟨⟨[],by simp,by simp⟩,λa z=>⟨xt.rZ a z,λy=>nx (y▸z)⟩,λa z=>xt.lE a z.1,λa o q _=>xt.frame a o q (by simp),xt.stay⟩
     refine⟨rfl,h1 _ H' xt2 ⟨aJ.len,λn o a e1 e2=>(aJ.obj n o a e1 e2).map (λu q=>xt.frame a u q (by simp)) λ_ _ r=>r.mono xt2 aJ.lz,aJ.uniq,λa ha=>⟨xt.rZ a (aJ.lz a ha),λy=>nx (y▸aJ.lz a ha)⟩,λa z=>aQ.zt a z.1⟩ _ (.d (.ob ⟨λz=>z.2 rfl,dx,kp.at_,hlen⟩ (rs.kE (U':=⟨λa=>U'.z a/\a≠x,U1.l⟩) λ_ z=>z.1)))⟩
  ·simp only[if_neg hl] at h1⟩
end
structure yt(X:Cx)(cA:Cl)(aq:Nat->Nat->Bool)(aj:Bool)(F:Fn)(EX:XS)(c:Nat)(body:List Stmt)(is:Es)(ns:List Str):Prop where
 o:qH X body λD Z H=>∃U0 H0 U J s x dx done vs ys,Ext U0 H0 U H/\aY X.K cA U H Z J/\aF X.K cA U H s/\H0 x=none/\Z[0]?=some (some (.ref x))/\fL U H x (.ins (cA.b c) dx (done.zip vs))/\aP X.K cA U H ys vs/\done.length=vs.length/\done++ns=cA.g c/\done.length+ns.length<=900 /\
  Run X.K cA (M.bd (evs aq aj F is J) λzs=>cL (ys++zs)) U0 H0 s (λes _ U' H'=>∀ws,aC X.K cA U' H' es ws->fL U' H' x (.ins (cA.b c) dx ((cA.g c).zip ws))->(cA.g c).length=ws.length->D.nx Z H') (eX X.K cA EX Z)
theorem zeV{f:Str}{v:V}:∀{fs:List (Str×V)},f∉fs.map (·.1)->fV f v fs=fs++[(f,v)]
 |[],_=>rfl
 |(g,x)::r,h=>by
  unfold fV;rw[if_neg λe=>h (by simp[e]),zeV λz=>h (iz _ z)];rfl
theorem aP.out{K:W.Frag}{cA:Cl}{U:Ph}{H H':Hp}(x:cM U H H'):∀{ds:List Xv} {vs:List V},aP K cA U H ds vs->aP K cA U H' ds vs
 |_,_,.nil=>.nil
 |_,_,.cons h r=>.cons (h.out x) (aP.out x r)
theorem aP.app{K:W.Frag}{cA:Cl}{U:Ph}{H:Hp}:∀{ds es:List Xv} {vs us:List V},aP K cA U H ds vs->aP K cA U H es us->aP K cA U H (ds++es) (vs++us)
 |_,_,_,_,.nil,s=>s
 |_,_,_,_,.cons h r,s=>.cons h (aP.app r s)
theorem Run.er{K:W.Frag}{cA:Cl}{U:Ph}{H:Hp}{s:S}{α:Type}{m:M α}{P:α->S->Ph->Hp->Prop}{Ee:Nat->List D->S->Ph->Hp->Prop}(h:Run K cA m U H s P λ_ _ _ _ _=>False):Run K cA m U H s P Ee:=by
 unfold Run at *;split at h
 ·exact h
 ·exact λU' H' x r=>(h U' H' x r).elim
 ·exact h
section
variable {X:Cx}{cA:Cl}{aq:Nat->Nat->Bool}{aj:Bool}{F:Fn}{EX:XS}{c:Nat}{a:Expr}{A:E}{is:Es}{ns:List Str}{body:List Stmt}{f:Str}{pos p p2:Pos}
theorem zne:yt X cA aq aj F EX c [] .nil []:=⟨λao s Z H D I hh=>X8 ao s Z H D I (by
 obtain⟨U0,H0,U,J,st,x,dx,done,vs,ys,xt,hL,hS,hx,h0,kp,rs,hl,hg,hz,h⟩:=hh;rw[vG] at hg;subst hg;have h2:Run X.K cA (M.bd (cL ys) M.ret) U H st (λes _ U' H'=>∀ws,aC X.K cA U' H' es ws->fL U' H' x (.ins (cA.b c) dx ((cA.g c).zip ws))->(cA.g c).length=ws.length->D.nx Z H') (eX X.K cA EX Z):=by
  have h3:=h.ext xt;unfold Run at h3 ⊢;have e0:M.bd (evs aq aj F .nil J) (λzs=>cL (ys++zs)) st=cL ys st:=by show cL (ys++[]) st=_;rw[vG]
  rw[e0] at h3;unfold M.bd;cases e1:cL ys st with
  |none=>rw[e1] at h3;exact h3
  |some r=>
   obtain⟨r,s2⟩:=r;rw[e1] at h3;cases r with
   |er c f=>exact h3
   |ok ds=>exact h3
 obtain⟨ds,_,rs2,h4⟩:=S5 rs h2;exact h4.bN hS vs rs2 kp hl)⟩
theorem Og{j:Nat}(ow:Ow X.K cA c)(ha:JE X cA aq aj F EX a A)(hr:yt X cA aq aj F EX c body is ns)(h0:(decide (X.N[0]?=some ("self" : Str))&&vp X.env.scope "self"&&okN "self")=true:=by kernel_rfl)
  (hs:swapsWith a (some (.Attribute (.Name "self" p) f p2)) pos.line X.env=pure false:=by rfl):yt X cA aq aj F EX c (.Assign [.Attribute (.Name "self" p) f p2] a pos::body) (.cons A is) (f::ns):=by
 rw[g8,g8] at h0;obtain⟨k,e,hv⟩:=UW h0.1.2;refine⟨λao s Z H D I hh=>X_ (znJ (X3 (i:=0) (gG h0.1.1) (by cases k<;>first|exact .inl e|exact .inr (.inl e)|exact .inr (.inr e)|cases hv) (uU h0.2).1 (uU h0.2).2.1) ha.o hs) hr.o ao s Z H D I ?_⟩;obtain⟨U0,H0,U,J,st,x,dx,done,vs,ys,xt,hL,hS,hx,Oh,kp,rs,hl,hg,hz,h⟩:=hh;have h:Run X.K cA (M.bd (M.bd (ev aq aj F A J) λy=>M.bd (evs aq aj F is J) λzs=>M.ret (y::zs)) λzs=>cL (ys++zs)) U0 H0 st _ _:=h;simp only[gM] at h;refine⟨U,J,st,hL,hS,(h.bd0 xt).imp λy s1 U1 H1 ⟨x1,aJ,h1⟩ v rv=>?_⟩;have Oi:=kp.mono x1;have nf:f∈cA.g c:=by rw[<-hg];simp
 have nd:f∉done:=λz=>by
  have:=ow.nd;rw[<-hg,yM] at this;exact this.2.2 f z f (by simp) rfl
 have hk:(done.zip vs).map (·.1)=done:=by rw[List.map_fst_zip];lia
 refine⟨.ref x,Oh,x,_,dx,_,rfl,Oi.at_,ow.cl,ow.nf f nf,?_,?_⟩
 ·have:(done.zip vs).length<=done.length:=by rw[List.length_zip];lia
  simp at hz
  lia
 rw[zeV (by rw[hk];exact nd)];have ez:done.zip vs++[(f,v)]=(done++[f]).zip (vs++[v]):=by rw[List.zip_append hl];rfl
 rw[ez];have ox:cM U1 H1 (upd H1 x (.ins (cA.b c) dx ((done++[f]).zip (vs++[v])))):=Oi.ext.1;refine⟨U0,H0,U1,J,s1,x,dx,done++[f],vs++[v],ys++[y],Ext.keep (vs:=[]) (xt.trans x1) hx,(hL.mono x1 hS.lz).out ox,aJ.keep Oi,hx,Oh,Oi.ext.2,((rs.mono x1 hS.lz).app (.cons rv .nil)).out ox,by simp[hl],by rw[<-hg,yL];rfl,by simp at hz ⊢;lia,?_⟩;have h1:Run X.K cA (M.bd (evs aq aj F is J) λzs=>M.bd (M.ret (y::zs)) λzs=>cL (ys++zs)) U0 H0 s1 _ _:=h1;have e2:(λzs=>cL (ys++[y]++zs))=λzs=>M.bd (M.ret (y::zs)) λzs=>cL (ys++zs):=by
  funext zs
  rw[yL];rfl
 rw[e2];exact h1
end
theorem ziP{K:W.Frag}{cA:Cl}{U:Ph}{H:Hp}{s:S}{α:Type}{m m':M α}{P:α->S->Ph->Hp->Prop}{Ee:Nat->List D->S->Ph->Hp->Prop}(e:m s=m' s)(h:Run K cA m U H s P Ee):Run K cA m' U H s P Ee:=by
 unfold Run at *;rw[<-e];exact h
theorem zgv{aq:Nat->Nat->Bool}{T:Nat->Option Df}{k n m p:Nat}{cm:Bool}{is:Es}{xs:List Xv}{s:S}(hT:T n=some ⟨m,p,.cons (.ret (.tup is)) .nil⟩)(hl:xs.length=p) :
  call aq T (k+1) cm n xs s=M.bd (M.bd (evs aq cm (call aq T k cm) is (xs.map some++List.replicate (m-p) none)) cL) (λds=>M.ret (.d (.tup ds))) s:=by
 unfold call;simp only[hT,if_pos hl];show (match cQ (ofM (M.bd (evs aq cm (call aq T k cm) is _) λvs=>M.bd (cL vs) λds=>M.ret (.d (.tup ds))) _ λx s=>some (.rt x,s)) _ s with|some (.nx _,s')=>_|some (.rt v,s')=>_|some (.er c fs _,s')=>_|_=>none)=_;rw[gM];unfold cQ ofM;cases e:M.bd (evs aq cm (call aq T k cm) is (xs.map some++List.replicate (m-p) none)) (λvs=>M.bd (cL vs) λds=>M.ret (Xv.d (.tup ds))) s with
 |none=>rfl
 |some r=>
  obtain⟨r,s1⟩:=r;cases r<;>rfl
theorem zkj{P:Program}{w:World}{K:W.Frag}{mg:Str->Option Value}{base:Heap}{cA:Cl}{aq:Nat->Nat->Bool}{T:Nat->Option Df}{x qual:Str}{st:Stmt}{f:Addr}{fd:FuncData}{N ps:List Str}{k n c m p:Nat}{cm:Bool}{is:Es}(F:oR K x qual st f fd)(hT:T n=some ⟨m,p,.cons (.ret (.tup is)) .nil⟩)
  (hb:∀(cdv:Value) (A:Around) (outer:List Env) (s:Shared) (H:Hp) (E:XK),bG k (A.deeper (envOfC qual (au st) s.heap.objs.size f cdv))->
   yt (gK (gU P w) P w K mg base N qual (au st) f cdv A outer s H E cm) cA aq cm (call aq T k cm) (λ_ C dx H'=>E C dx H') c (aK st) is (cA.g c)) (hg:(cA.g c).length<=900) (S:dz N ps (au st):=by exact⟨rfl,rfl,rfl,dk,rfl,dk,dk⟩) (hp:p=ps.length:=by rfl) (hm:m=N.length:=by rfl) (h0:0<p:=by decide) :
  cH P w K mg base (gU P w) cm (k+1) f fd ps (Oe K cA c (call aq T (k+1) cm n)):=by
 obtain⟨oc,od,kV,doc,pm,an,cdv,ct,osl,rfl,lk,kY⟩:=F.ex;have hlen:∀{U:Ph} {H:Hp} {s:Mi.S} {xs:List Xv} {P:Xv->Mi.S->Ph->Hp->Prop},Run K cA (call aq T (k+1) cm n (.d .any::xs)) U H s P (λ_ _ _ _ _=>False)->xs.length+1=p:=λ{U H s xs P} h=>by
  unfold call at h;simp only[hT] at h;by_cases hl:(Xv.d D.any::xs).length=p
  ·simpa using hl
  ·rw[if_neg hl] at h;exact h.elim
 refine Yt lk kY S (λvs H Q E ⟨x,dx,us,U,H0,xs,s,e,_,_,_,_,r,_,h⟩=>?_) λA outer s H vs Q E hr ⟨x,dx,us,U,H0,xs,st',e,hx,hd,hn,eH,r,hS,h⟩=>⟨_,(hb cdv A outer s H E (hr.deeper _)).o,?_⟩
 ·have:=hlen h;rw[e,fX,<-r.len,<-hp]
  lia
 ·subst e eH;have hl:=hlen h;have xt:=Ext.made (U:=U) (C:=cA.b c) hx hd hn;refine⟨U,H0,U.mark x,(Xv.d .any::xs).map some++List.replicate (m-p) none,st',x,dx,[],[],[],xt,Z9 (.cons (.d (.any x)) (r.mono xt hS.lz)) (by simp;lia) hm,hS.made hx hd hn,hx,rfl,⟨jT,λz=>hS.nz hx (hS.lz x z),.inr rfl⟩,.nil,rfl,rfl,by simpa using hg,?_⟩;have h2:=(ziP (zgv hT (by simpa using hl)) h).bd0 Ext.refl;exact Run.er (Run.imp h2 λds s1 U1 H1 ⟨x1,aJ,h4⟩ ws rs kp hl=>h4 U1 H1 x1 aJ ds ws rfl rs kp hl)
section
variable {prog:Program}{w:World}{A:Around}{E:Value->Shared->Prop}{s:Shared}
theorem zd9{r:Addr}{n:Nat}{lo hi:Int}{t u v:Tok}{Q:List Value->Shared->Prop}(hh:A.handled=none)(hr:IsRange s.heap r lo hi 1 t u v)(hs:Builtin.Range.small lo hi 1=true)(hn:Builtin.Range.rangeSize lo hi 1=n)(hl:n<=65536)
  (q:∀(h':Heap) (tk:Nat) (acc:Array Value),(∀b o,s.heap.get? b=some o->h'.get? b=some o)->ItemsOf (λi v=>∃t,v=.int (lo+i*1) t) acc n->Q acc.toList {s with heap:=h',toks:=tk}):wpAny (model prog w) A (collect (.ref r)) Q E s:=by
 unfold collect;refine aB (wpAny_runValue (Gx F.entry_proto_collect ?_));rw[Gm F.plain_proto_collect _];refine aB (m:=newList []) (wpAny_newList (aM ⟨GC F.plain_list_iadd _,Gx F.entry_list_iadd ?_⟩));rw[Gm F.plain_list_iadd _];have fin:∀{r':Result} {s':Shared},(∃h' tk acc c,r'=.ok (.ret (.ref s.heap.objs.size))/\s'={s with heap:=h',toks:=tk}/\h'.get? s.heap.objs.size=some (seqObj "list" acc c)/\(∀b o,s.heap.get? b=some o->h'.get? b=some o)/\ItemsOf (λi v=>∃t,v=.int (lo+i*1) t) acc n)->(match r' with
   |.ok (.ret v)=>wpAny (model prog w) A (match v with
    |.ref a=>do
     match (<-load a).data with
      |.seq xs _=>pure xs.toList
      |_=>unsupported "internal:collect"
    |_=>unsupported "internal:collect") Q E s'
   |.ok _=>False
   |.error e=>E e s'):=λ{r' s'} z=>by
  obtain⟨h',tk,acc,c,rfl,rfl,hS,kp,sO⟩:=z;exact aB (wpAny_load hS (aM (q h' tk acc kp sO)))
 refine gR (wpAny_extend_range (A:=A) (s:={s with heap:=s.heap.push (seqObj "list" #[] 0)}) (R:=λr' s'=>∃h' tk acc c,r'=.ok (.ret (.ref s.heap.objs.size))/\s'={s with heap:=h',toks:=tk}/\h'.get? s.heap.objs.size=some (seqObj "list" acc c)/\(∀b o,s.heap.get? b=some o->h'.get? b=some o)/\ItemsOf (λi v=>∃t,v=.int (lo+i*1) t) acc n)
  hh (cU _ hr) hs hn (by lia) s.heap.objs.size (.ref s.heap.objs.size) 0 (fO _ rfl) λh' tk acc c kp hS sO=>⟨h',tk,acc,c,rfl,rfl,hS,λb o e=>kp b o (dN (bY e)) (cU _ e),sO⟩) (λf s' z=>?_) λe s' z=>?_
 ·cases f with
  |done f=>exact fin z
  |again c'=>exact⟨z.1,Aq z.2 λr s'' hr=>fin hr⟩
 ·obtain⟨_,_,_,_,e,_⟩:=z;cases e
end
theorem zfS(r:Addr)(lo hi:Int)(t u v:Tok)(n:Nat)(hs:Builtin.Range.small lo hi 1=true)(hn:Builtin.Range.rangeSize lo hi 1=n)(hl:n<=65536):Meets (Builtin.«tuple.__new__» ⟨[.type "tuple",.ref r],[]⟩)
   (λA R s=>A.handled=none/\IsRange s.heap r lo hi 1 t u v/\∀(h':Heap) (tk:Nat) (acc:Array Value),(∀b o,s.heap.get? b=some o->h'.get? b=some o)->ItemsOf (λi v=>∃t,v=.int (lo+i*1) t) acc n->R (.ok (.ret (.ref h'.objs.size))) {s with heap:=h'.push {cls:=.type "tuple",data:=.seq acc},toks:=tk}):=
 .of_wp λprog w A R s h=>by
  obtain⟨hh,hr,h⟩:=h;have hsub:=sub_tuple_self;have hinit:=init_tuple_lookup;have hmh:=madeHere_tuple;have hT:s.TypeIs (.ref r) "range":=⟨_,hr,rfl⟩;have hh1:A.in1.handled=none:=hh
  wp_walk using GD hT,La hr,zd9 hh1 hr hs hn hl
  intro h' tk acc hk sO;show wpAny _ _ (Builtin.Tuple.tupleExact acc.toList.toArray >>= λv=>ret v) _ _ _;unfold Builtin.Tuple.tupleExact;have e:acc.toList.toArray=acc:=by simp
  rw[e];exact aB (pB (aM ⟨_,rfl,h h' tk acc hk sO⟩) (show acc.size<=sizeLine by rw[sO.1];exact jo hl (by decide)))
section
variable {X:Cx}
theorem zcv{ao:List (Addr×Obj)}{Z:L2.St}{H:Hp}{s:Shared}{Q:VK}{hi:Int}{t u v:Tok}{tk:Nat}(hc:X.aj=true)(I:Inv X ao Z H s)(hk:okR 0 hi=true)
  (q:∀l,H l=none->Q (.ref l) (upd H l (.tup (Fz 0 (hi-0).toNat)))) :
  wpAny (model X.prog X.w) X.A (PySem.call (.type "tuple") [.ref s.heap.objs.size]) (EP X ao Z Q) X.xe {s with heap:=s.heap.push {cls:=.type "range",data:=.fields #[.int 0 t,.int hi u,.int 1 v]},toks:=tk}:=by
 obtain⟨h1,h2,h3,h4,h5⟩:=gG hk;have en:Builtin.Range.rangeSize 0 hi 1=((hi-0).toNat:Nat):=by rw[rangeSize_one];split<;>lia
 refine callType_new F.called_tuple (by decide) (F.typeCall_tuple_1 _) (F.newCall_tuple_1 _) (λobj=>F.args_object_init_2 obj _) F.entry_tuple_new (zfS _ 0 hi t u v _ (small_one h1 h2 h3 h4) en h5) ⟨I.ok.hd hc,IsRange.new ..,λh' tk' acc kp ⟨z1,z2⟩=>?_⟩;have hv:Vals (Fz 0 (hi-0).toNat) acc.toList:=by
  have:=zjU (i:=0) (acc:=acc) (n:=(hi-0).toNat) (m:=0) (λk v e=>by
   obtain⟨t,e⟩:=z2 k v (by simpa using e);exact⟨t,by rw[e,Int.mul_one,Nat.zero_add]⟩) (by rw[yI];exact z1)
  simpa [Fz] using this
 have hz:s.heap.objs.size<=h'.objs.size:=wH (bY (kp _ _ (fO s.heap rfl)));have I':=I.laid (a:=h'.objs.size) (o:=.tup (Fz 0 (hi-0).toNat)) (h':=h'.push {cls:=.type "tuple",data:=.seq acc}) (t':=tk') (λb u q=>cU _ (kp b u (cU _ q))) hz (show bR X.prog X.w _ _ _ (.tup (Fz 0 (hi-0).toNat)) from ⟨by
  rw[hv.length,yI,z1];exact jo h5 (by decide),acc.toList,hv,⟨_,fO _ rfl,rfl,0,by simp⟩⟩)
 exact⟨⟨_,fO _ rfl,rfl⟩,.ref h'.objs.size,_,I',rfl,q _ (I.hok.fresh hz)⟩
def Ke(vs:List V)(H:Hp)(Q:VK):Prop:=∃j:Int,vs=[.int j]/\okR 0 j=true/\∀l,H l=none->Q (.ref l) (upd H l (.tup (Fz 0 (j-0).toNat)))
theorem zl5{e:Expr}{t:TA}{p p' pos pos':Pos}(hc:X.aj=true)(hg:Gl X "tuple")(hm:X.mg "tuple"=none)(U6:Gl X "range")(U7:X.mg "range"=none)(ha:PA X [e] t)(he:starEach [e] X.env=(false,eval e X.env)::starEach [] X.env:=by rfl) :
  PE X (.Call (.Name "tuple" p) [.Call (.Name "range" p') [e] [] pos'] [] pos) (Rf Ke t):=by
 intro ao s Z H Q I h;refine Ds (wL I hg hm Nk ?_);refine Ac ?_ rfl rfl;show wpAny _ _ (spliced ((false,eval (.Call (.Name "range" p') [e] [] pos') X.env)::backTo pos (starEach [] X.env))) _ _ s;refine Calls.spliced_cons ?_;refine Ds (wL I U6 U7 boot_range ?_);refine Ac (aW (ha pos' ao s Z H _ I h) λus s1 ⟨vs,H1,I1,r1,q1⟩=>?_) he rfl;obtain⟨j,rfl,hk,q⟩:=q1;cases r1 with
 |cons r rr=>
  cases rr;obtain⟨t,rfl⟩:=r;exact call_range_1 (Calls.spliced_nil (zcv hc I1 hk q))
theorem zmi{e:Expr}{te:TE}(h:PE X e te)(he:∀whole,isTrue e X.env whole=(do let v <-whole;standAt e.pos;holding [v] (truthy v))):PT X e (λZ H Q=>te Z H λx H1=>∃k,Br X.K x H1 k/\Q k H1):=by
 intro ao s Z H Q I hw;exact isTrue_plain (aW (h ao s Z H _ I hw) λv s1 hx=>fG hx λx H1 I1 r1 q1=>znm ao s1 Z H1 x v Q I1 r1 q1) (he _)
end
section
variable {K:W.Frag}{cA:Cl}{U:Ph}{H:Hp}
theorem zmc:bF K cA .Eu Ke:=by
 intro U H ds vs Q zt rs o;have o:bH K cA U H (Cg ds) Q:=o;unfold Cg at o;split at o
 ·rename_i j _;obtain⟨v,rfl,r1⟩:=rs.one;cases (show Rep K cA U H (.int j) v from r1);by_cases hk:okR 0 j=true
  ·rw[if_pos hk] at o;exact⟨j,rfl,hk,λl hl=>o.tup zt (zf7 _) hl⟩
  ·rw[if_neg hk] at o;exact o.elim
 ·exact o.elim
end
section
variable {X:Cx}{cA:Cl}{aq:Nat->Nat->Bool}{aj:Bool}{F:Fn}{EX:XS}{a e:Expr}{A:E}{pos pos' p p':Pos}{Xs:Es}{fz:Bool}
theorem zo3(hc:X.aj=true)(hm:X.mg "tuple"=none)(hg:JK X "tuple" .globalImplicit)(U7:X.mg "range"=none)(U6:JK X "range" .globalImplicit)(ha:JA X cA aq aj F EX [e] Xs)(he:aD e=true:=by rfl):JE X cA aq aj F EX (.Call (.Name "tuple" p) [.Call (.Name "range" p') [e] [] pos'] [] pos) (.pr fz .Eu Xs):=⟨PE.weak (zl5 hc hg.o hm U6.o U7 ha.o (bx he)) λZ H Q hh=>un hh λU J s hL hS h=>
 qj hL hS h λvs H1 U1 ds s1 x1 hL1 aJ r1 h1=>by
  obtain⟨ds,rs,h3⟩:=uJ aJ r1 h1;exact zmc U1 H1 ds _ _ aJ.zs rs (tK aJ h3)⟩
theorem zoY(ha:JE X cA aq aj F EX a A)(he:zM a=true:=by rfl):JT X cA aq aj F EX a (.Ew A):=⟨PT.weak (zmi ha.o (by cases a<;>first|(intro _;rfl)|cases he)) λZ H Q hh=>un (zhl hh) λU J s hL hS h=>by
 refine bw hL hS h λx H1 U1 d1 s1 x1 hL1 aJ r1 h1=>?_;obtain⟨dd,rv,h2⟩:=M_ aJ r1 h1;obtain⟨bb,e,h3⟩:=Ey h2;obtain⟨c,ec,q⟩:=h3.bN aJ _ (.d (.bl bb));cases ec;exact⟨bb,zml rv e,q⟩⟩
end
def iw(h:Heap)(items:Array Value)(rows:List (List Int))(no:List Addr):Prop:=∀i v,items[i]?=some v->∃a xs,v=.ref a/\IsTup h a xs/\IntsAre xs.toList (rows.getD i [])/\a∉no
theorem iw.keep{h h':Heap}{items:Array Value}{rows:List (List Int)}{no:List Addr}(g:iw h items rows no)(k:∀b o,b∉no->h.get? b=some o->h'.get? b=some o):iw h' items rows no:=λi v e=>by
 obtain⟨a,xs,e1,⟨o,e2,r⟩,e3,e4⟩:=g i v e;exact⟨a,xs,e1,⟨o,k a o e4 e2,r⟩,e3,e4⟩
noncomputable abbrev wg(rows:List (List Int))(i j:Nat):Bool:=HT.lexLt (rows.getD i []) (rows.getD j [])
section
variable {prog:Program}{w:World}{A:Around}{R:Result->Shared->Prop}{I S l:Addr}{items:Array Value}{rows:List (List Int)}
theorem zkq{s:Shared}{i j:Nat}{u v:Value}{Q:Value->Shared->Prop}{E:Value->Shared->Prop}(hu:A.units<cLine)(g:iw s.heap items rows [I,S])(h1:items[i]?=some u)(h2:items[j]?=some v)(q:Q (.bool (wg rows i j)) s):wpAny (model prog w) A (richCompare .Lt u v) Q E s:=by
 obtain⟨a,xs,rfl,p1,i1,_⟩:=g i u h1;obtain⟨b,ys,rfl,p2,i2,_⟩:=g j v h2;exact HT.jZ p1 p2 i1 i2 hu q
theorem zfF(hh:A.handled=none)(hu:A.units+1<cLine)(hlI:l≠I)(hS:S∉[I,l]):∀(k j:Nat) (s:Shared) (vb:Value) (c:Nat),items.size-(j+1)=k->j+1<=items.size->(s.heap.IsListIter I l (j+1)/\s.heap.IsList l items)->items[argBest (wg rows) j]?=some vb->iw s.heap items rows [I,S]->
  s.heap.get? S=some (seqObj "list" #[vb,vb] c)->(∀v h' tk,items[argBest (wg rows) (items.size-1)]?=some v->(∀b o,b∉[I,S]->s.heap.get? b=some o->h'.get? b=some o)->R (.ok (.ret v)) {s with heap:=h',toks:=tk})->
  codeAny (model prog w) A (.builtin "min.loop" ⟨[.ref I,.none,.ref S],[]⟩) R s:=by
 have W:=Walks.list (prog:=prog) (w:=w) (A:=A.in1) hh I l hlI items;have nm:(toString "min"++toString ".loop" : String)="min.loop":=by decide
 have SI:S∉[I]:=λz=>hS (by simp at z;simp[z]);intro k
 induction k with
 |zero=>
  intro j s vb c e1 e2 st hb g oS q;refine Gx F.entry_min_loop ?_;rw[Gm Al _];refine aB (m:=seqItems? (.ref S)) (rF oS rfl ?_);refine aB (m:=tryCatch (pyNext (.ref I)) _) (wpAny_tryCatch (W.done s _ _ ((show j+1=items.size by lia)▸st) λh' tk kp=>?_));refine aB (m:=updateSeq S λ_=>#[]) (wpAny_updateSeq (kp S _ SI oS) rfl (aB (Av (aM (q vb _ tk ?_ λb o hb e=>?_)))))
  ·rw[show items.size-1=j by lia];exact hb
  ·exact(wB _ _ (λz=>hb (by simp[z]))).trans (kp b o (λz=>hb (by simp at z;simp[z])) e)
 |succ k ih=>
  intro j s vb c e1 e2 st hb g oS q;refine Gx F.entry_min_loop ?_;rw[Gm Al _];refine aB (m:=seqItems? (.ref S)) (rF oS rfl ?_);refine aB (m:=tryCatch (pyNext (.ref I)) _) (wpAny_tryCatch (W.item (j+1) s _ _ (by lia) st λv h' tk hP st' kp=>?_));have U8:=kp S _ SI oS;have g':iw h' items rows [I,S]:=g.keep λb o hb e=>kp b o (λz=>hb (by simp at z;simp[z])) e;refine aB (m:=tryCatch (holding [v,v] (richCompare .Lt v vb >>= _)) _) (wpAny_tryCatch (qz (aB (zkq (A:=A.in1) (s:={s with heap:=h',toks:=tk}) hu g' hP hb ?_))));refine aB (qz (vD (aB (Av (aM ?_)))));cases e3:wg rows (j+1) (argBest (wg rows) j) with
  |true=>
   simp only[if_true];refine aB (wpAny_updateSeq U8 rfl (aB (Av ?_)));rw[nm];have FP:∀b o,b≠S->h'.get? b=some o->(h'.update S (Obj.mapSeq λ_=>#[v,v])).get? b=some o:=λb o hb e=>(wB _ _ (Ne.symm hb)).trans e;refine aM ⟨GC Al _,ih (j+1) _ v _ (by lia) (by lia) (W.frame _ _ _ st' λb hb o e=>FP b o (λz=>hS (by rw[<-z];exact hb)) e) (by simp only[argBest,e3,if_true];exact hP) (g'.keep λb o hb e=>FP b o (λz=>hb (by simp[z])) e) (Ag _ U8 rfl) λv' h2 tk2 Kf Kg=>q v' h2 tk2 Kf λb o hb e=>Kg b o hb (FP b o (λz=>hb (by simp[z])) (kp b o (λz=>hb (by simp at z;simp[z])) e))⟩
  |false=>
   simp only[vC,qC];refine aB (Av ?_);rw[nm];exact aM ⟨GC Al _,ih (j+1) _ vb c (by lia) (by lia) st' (by simp only[argBest,e3,vC,qC];exact hb) g' U8 λv' h2 tk2 Kf Kg=>q v' h2 tk2 Kf λb o hb e=>Kg b o hb (kp b o (λz=>hb (by simp at z;simp[z])) e)⟩
theorem zft{s:Shared}{E:Value->Shared->Prop}{Q:Value->Shared->Prop}(hh:A.handled=none)(hu:A.units+2<cLine)(hl:s.heap.IsList l items)(h0:0<items.size)(g:iw s.heap items rows [])
  (q:∀v h' tk,items[argBest (wg rows) (items.size-1)]?=some v->(∀b o,s.heap.get? b=some o->h'.get? b=some o)->Q v {s with heap:=h',toks:=tk}):wpAny (model prog w) A (PySem.call (.builtin "min") [.ref l]) Q E s:=by
 have nm:(toString "min"++toString ".loop" : String)="min.loop":=by decide
 have cV:l<s.heap.objs.size:=by obtain⟨o,e,_⟩:=hl;exact bY e
 refine call_function_tree F.kind_min F.plain_min F.entry_min (F.args_min1 _) ?_;refine aB (m:=Builtin.Builtins.bindParams "min" ["key","default"] 0 ⟨[],[]⟩) (DX (show Builtin.Builtins.bindParams "min" ["key","default"] 0 ⟨[],[]⟩=pure [none,none] from rfl) (aB (aM ?_)));refine aB (Gs hl (aB (pB ?_)));rw[nm];have n1:(s.heap.push {cls:=.type "list_iterator",data:=.fields #[.ref l,.int 0 0]}).objs.size=s.heap.objs.size+1:=sX ..;refine aM ⟨GC Al _,?_⟩;refine Gx F.entry_min_loop ?_;rw[Gm Al _];have W:=Walks.list (prog:=prog) (w:=w) (A:=A.in1) hh s.heap.objs.size l (dN cV) items;have oS:((s.heap.push {cls:=.type "list_iterator",data:=.fields #[.ref l,.int 0 0]}).push (seqObj "list" #[] 0)).get? (s.heap.objs.size+1)=some (seqObj "list" #[] 0):=by rw[<-n1];exact fO _ rfl
 have k0:∀b o,s.heap.get? b=some o->((s.heap.push {cls:=.type "list_iterator",data:=.fields #[.ref l,.int 0 0]}).push (seqObj "list" #[] 0)).get? b=some o:=λb o e=>cU _ (cU _ e);rw[n1];refine aB (m:=seqItems? (.ref (s.heap.objs.size+1))) (rF oS rfl ?_);refine aB (m:=tryCatch (pyNext (.ref s.heap.objs.size)) _) (wpAny_tryCatch (W.item 0 _ _ _ h0 ⟨⟨_,cU _ (fO _ rfl),rfl,rfl⟩,hl.at λo e=>k0 l o e⟩ λv h' tk hP st' kp=>?_));have ne1:s.heap.objs.size+1∉[s.heap.objs.size]:=by simp
 refine aB (m:=updateSeq (s.heap.objs.size+1) λ_=>#[v,v]) (wpAny_updateSeq (kp _ _ ne1 oS) rfl ?_);rw[nm];have FP:∀b o,b≠s.heap.objs.size+1->h'.get? b=some o->(h'.update (s.heap.objs.size+1) (Obj.mapSeq λ_=>#[v,v])).get? b=some o:=λb o hb e=>(wB _ _ (Ne.symm hb)).trans e;have Kh:∀b o,s.heap.get? b=some o->(h'.update (s.heap.objs.size+1) (Obj.mapSeq λ_=>#[v,v])).get? b=some o:=λb o e=>FP b o (dN (sV (bY e))) (kp b o (by simpa using dN (bY e)) (k0 b o e));have out:∀b o,s.heap.get? b=some o->b∉[s.heap.objs.size,s.heap.objs.size+1]:=λb o e z=>by
  rcases gQ.mp z with z|z
  ·exact absurd z (dN (bY e))
  ·exact absurd (nJ.mp z) (dN (sV (bY e)))
 refine aM ⟨GC Al _,zfF (A:=A) (rows:=rows) hh (by lia) (dN cV) (λz=>by
  rcases gQ.mp z with z|z
  ·exact absurd z (Nat.succ_ne_self _)
  ·exact absurd (nJ.mp z) (vJ (sV cV))) _ 0 _ v _ rfl h0 (W.frame _ _ _ st' λb hb o e=>FP b o (λz=>by
  rcases gQ.mp hb with y|y
  ·exact absurd (z.symm.trans y) (Nat.succ_ne_self _)
  ·exact absurd (z.symm.trans (nJ.mp y)) (vJ (sV cV))) e) hP ?_ (Ag _ (kp _ _ ne1 oS) rfl) λv' h2 tk2 Kf Kg=>q v' h2 tk2 Kf λb o e=>Kg b o (out b o e) (Kh b o e)⟩
 intro i u e;obtain⟨a,xs,e1,⟨o,e2,r⟩,e3,_⟩:=g i u e;exact⟨a,xs,e1,⟨o,Kh a o e2,r⟩,e3,out a o e2⟩
end
theorem zfb{x:List Int}{rs:List (List Int)}:∀k,k<=rs.length->(x::rs).getD (argBest (wg (x::rs)) k) []=gb x (rs.take k)
 |0,_=>rfl
 |k+1,hk=>by
  have ih:=zfb (x:=x) (rs:=rs) k (by lia);have app:∀(a b:List (List Int)) (y:List Int),gb y (a++b)=gb (gb y a) b:=λa=>by
   induction a with
   |nil=>intro b y;rfl
   |cons z a ih=>intro b y;exact ih b _
  have ht:rs.take (k+1)=rs.take k++[rs[k]'(by lia)]:=Px (by lia);have hv:(x::rs).getD (k+1) []=rs[k]'(by lia):=by
   rw[jQ,Af,cX (by lia)];rfl
  rw[ht,app,<-ih];show _=(if ltI (rs[k]'(by lia)) _=true then _ else _);rw[argBest.eq_2,Td];unfold wg;rw[hv]
  split
  ·exact hv
  ·rfl
theorem zcL{K:W.Frag}{cA:Cl}{U:Ph}{H:Hp}:∀{xs:List D} {rs:List (List Int)} {vs:List V},j9 xs=some rs->aC K cA U H xs vs->rs.length=vs.length/\∀(i:Nat) v,vs[i]?=some v->∃a,v=.ref a/\TupAt K U H a ((rs.getD i []).map .int)
 |[],rs,vs,h,r=>by cases h;cases r;exact⟨rfl,λi v e=>by simp at e⟩
 |d::xs,rs,vs,h,r=>by
  cases r with
  |cons q r=>cases q with
   |@tup a ys us t ts=>
    unfold j9 at h;cases e1:cI ys with
    |none=>simp only[e1] at h;cases h
    |some is=>cases e2:j9 xs with
     |none=>simp only[e1,e2] at h;cases h
     |some rr=>
      simp only[e1,e2] at h;cases h;obtain⟨l,k⟩:=zcL e2 r;refine⟨by simp[l],λi v e=>?_⟩;cases i with
      |zero=>
       simp at e;subst e;refine⟨a,rfl,?_⟩;show TupAt K U H a (is.map V.int);rw[<-show _=is.map V.int from Nh e1 ts];exact t
      |succ i=>exact k i v (by simpa using e)
   |_=>cases h
section
variable {X:Cx}{cA:Cl}{aq:Nat->Nat->Bool}{aj:Bool}{F:Fn}{EX:XS}{e:Expr}{pos p:Pos}{es:List Expr}{Xs:Es}{fz:Bool}
def vq(K:W.Frag)(vs:List V)(H:Hp)(Q:VK):Prop:=∃(l:Addr) (x:List Int) (rs:List (List Int)) (us:List V),vs=[.ref l]/\cY K H l us/\(x::rs).length=us.length/\(∀(i:Nat) v,us[i]?=some v->∃a,v=.ref a/\fZ K H a (((x::rs).getD i []).map V.int))/\∀(i:Nat) a,us[i]?=some (.ref a)->(x::rs).getD i []=gb x rs->Q (.ref a) H
theorem zhh:∀{is:List Int} {us:List Value},Vals (is.map V.int) us->IntsAre us is
 |[],_,.nil=>.nil
 |_::is,_,.cons ⟨t,e⟩ r=>by subst e;exact .cons _ t (zhh r)
theorem zhi(hc:X.aj=true)(hu:X.A.units+2<cLine):cW X (.builtin "min") (vq X.K):=by
 intro ao s Z H xs us Q I r ⟨l,x,rs,ws,e,hl,hlen,Kl,q⟩;subst e;obtain⟨u,rfl,ru⟩:=Vals.one r;cases (show u=Value.ref l from ru);obtain⟨its,rv,pl,hz⟩:=I.list hl;have hL:=rv.length;have hsz:its.toArray.size=rs.length+1:=by rw[fP,<-hL,<-hlen];rfl
 refine zft (rows:=x::rs) (I.ok.hd hc) hu pl.isList (by lia) (λi v e=>?_) λv h' tk hP hk=>?_
 ·have hi:its[i]?=some v:=by simpa using e
  have cV:i<ws.length:=by rw[hL];exact(dO.mp hi).1
  obtain⟨a,ea,ht⟩:=Kl i _ (cX cV);obtain⟨v',e1,e2⟩:=rv.get (cX cV);rw[hi] at e1;cases e1;rw[ea] at e2;cases (show v=Value.ref a from e2);obtain⟨xs,rx,p,_⟩:=I.tuple ht;exact⟨a,_,rfl,p,by simpa using zhh rx,by simp⟩
 ·rw[hsz,Nat.add_sub_cancel] at hP;have hi:its[argBest (wg (x::rs)) rs.length]?=some v:=by simpa using hP
  have cV:argBest (wg (x::rs)) rs.length<ws.length:=by rw[hL];exact(dO.mp hi).1
  obtain⟨a,ea,ht⟩:=Kl _ _ (cX cV);obtain⟨v',e1,e2⟩:=rv.get (cX cV);rw[hi] at e1;cases e1;rw[ea] at e2;cases (show v=Value.ref a from e2);exact⟨.ref a,H,I.kept (h':=h') (t':=tk) hk,rfl,q _ a ((cX cV).trans (by rw[ea])) (by rw[zfb rs.length (bU _),tQ])⟩
theorem zkU{K:W.Frag}:bF K cA .rQ (vq K):=by
 intro U H ds vs Q zt rs o;have o:bH K cA U H (oJ ds) Q:=o;unfold oJ at o;split at o
 ·rename_i xs _;obtain⟨v,rfl,rv⟩:=rs.one;obtain⟨a,us,rfl,sq,q⟩ : ∃a us,v=.ref a/\cY K H a us/\aC K cA U H xs us:=rv;split at o
  ·rename_i x r e;obtain⟨l,k⟩:=zcL e q;refine⟨a,x,r,us,rfl,sq,l,λi v ei=>?_,λi b ei hb=>?_⟩
   ·obtain⟨c,e1,e2⟩:=k i v ei;exact⟨c,e1,e2.ju⟩
   ·obtain⟨c,e1,e2⟩:=k i _ ei;cases e1;rw[hb] at e2;have rr:∀is:List Int,aC K cA U H (is.map D.int) (is.map V.int):=λis=>by
     induction is with
     |nil=>exact .nil
     |cons j is ih=>exact .cons (.int j) ih
    exact o.here (.tup e2 (rr _))
  ·exact o.elim
 ·exact o.elim
theorem zlL{k:Nat}(hr:bG k X.A)(hc:X.aj=true)(hm:X.mg "min"=none)(hg:JK X "min" .globalImplicit)(ha:JA X cA aq aj F EX (e::es) Xs)(he:aD e=true:=by rfl)(hpl:es.all aD=true:=by rfl):JE X cA aq aj F EX (.Call (.Name "min" p) (e::es) [] pos) (.pr fz .rQ Xs):=⟨xM (zhi hc (by have:=hr.un;lia)) zkU hg.o hm PyProof.Rows.boot_min ha.o (by decide) (by decide) (bx he) (bC hpl)⟩
end
end Mi
namespace Mi
open PySem PySem.Spec PyProof.Rows L2 PySem.W
section
variable {X:Cx}
end
section
variable {K:W.Frag}{cA:Cl}{U:Ph}{H:Hp}
end
end Mi
namespace PySem
open Builtin
end PySem
namespace Mi
open PySem PySem.Spec PyProof.Rows L2 PySem.W
section
variable {K:W.Frag}{cA:Cl}{U:Ph}{H:Hp}
end
section
variable {X:Cx}
end
section
variable {K:W.Frag}{cA:Cl}{U:Ph}{H:Hp}{Q:VK}
end
section
variable {X:Cx}{cA:Cl}{aq:Nat->Nat->Bool}{aj:Bool}{F:Fn}{EX:XS}{e:Expr}{pos p:Pos}{es:List Expr}{Xs:Es}{fz:Bool}
end
section
variable {X:Cx}
end
section
variable {X:Cx}{cA:Cl}{aq:Nat->Nat->Bool}{aj:Bool}{F:Fn}{EX:XS}{o i a:Expr}{O bM A:E}{apos cpos:Pos}
end
noncomputable def iy(K:Frag)(C:Addr)(m:Str):Addr:=match lN K C m with
 |some p=>p.1
 |none=>0
noncomputable def jP(K:Frag)(C:Addr)(m:Str)(st:Stmt):FuncData:=match lN K C m with
 |some p=>p.2
 |none=>D_ m m st
theorem zkx{fd:FuncData}{m q:Str}{st:Stmt}(h:nR fd=D_ m q st):fd=fnOf m q (aX st) (aK st) (au st) .none fd.kwdefaults fd.doc fd.pyModule fd.annotations fd.code fd.closureTuple:=by
 cases fd;unfold nR D_ at h;cases h;rfl
theorem zox{K:Frag}{C:Addr}{m q:Str}{st:Stmt}(h:(lN K C m).map (λp=>nR p.2)=some (D_ m q st)):oR K m q st (iy K C m) (jP K C m st)/\Meth K C m (iy K C m):=by
 cases e:lN K C m with
 |none=>rw[e] at h;cases h
 |some p=>
  rw[e] at h;have hp:nR p.2=D_ m q st:=cR h;have h1:iy K C m=p.1:=by unfold iy;rw[e]
  have h2:jP K C m st=p.2:=by unfold jP;rw[e]
  rw[h1,h2];unfold lN at e;split at e
  ·rename_i f hf;split at e
   ·rename_i oc od fd sl hl;split at e
    ·rename_i hc;cases e;simp only[g8] at hc;have eq:fd=_:=zkx hp;have qn:fd.qualname=q:=by rw[eq]
     exact⟨⟨⟨oc,od,_,_,_,_,_,_,sl,eq,hl,by rw[<-qn];exact hc.1.1⟩,hc.1.2⟩,hf,hc.2,hc.1.2⟩
    ·cases e
   ·cases e
  ·cases e
structure rC(fs:List (Str×Stmt))(ms:List tX)(xs:List (Nat×Str))(l:Lk)(b:Bd)(K:Frag):Prop where
 i:oW fs ms xs l K
 m:∀p∈b.ms,oR K p.1 p.2.1 p.2.2 (iy K (eN K b.n) p.1) (jP K (eN K b.n) p.1 p.2.2)/\Meth K (eN K b.n) p.1 (iy K (eN K b.n) p.1)
 b:yR K b=true
noncomputable def mD(fs:List (Str×Stmt))(ms:List tX)(xs:List (Nat×Str))(l:Lk)(b:Bd):Hook where
 α:=(List (Option FuncData)×List (Option FuncData)×Bool)×(List (Option FuncData)×Bool)
 obs:=λs=>(mL fs ms xs l s,Az b s)
 val:=λw=>(nU fs ms w,A_ b)
 says:=λ_ h=>∃K:Frag,K.In h/\rC fs ms xs l b K
 of:=λw s e=>by
  have e0:mL fs ms xs l s=nU fs ms w:=lM Prod.fst e;have e4:Az b s=A_ b:=lM Prod.snd e;have e3:(_&&_&&_)=true:=lM (λx=>x.2.2) e0;rw[g8,g8,fj,fj] at e3;refine⟨bZ s.heap,ziy,⟨λp hp=>?_,Kab e3.1.1,λm hm=>?_,e3.1.2,λx hx=>zoT (e3.2 x hx)⟩,λp hp=>?_,lM Prod.snd e4⟩
  ·exact zn7 (Qm.mp (lM Prod.fst e0) p hp)
  ·exact zo1 (Qm.mp (lM (λx=>x.2.1) e0) m hm)
  ·exact zox (Qm.mp (lM Prod.fst e4) p hp)
 keeps:=λw h h' ⟨K,X,Y⟩ k=>⟨K,X.keeps k,Y⟩
theorem Km{l:OpenLaw}{k:Nat}{q:Program}{loose:List Str}{XP:(Str->Option Value)->Heap->Prop}{fs:List (Str×Stmt)}{ms:List tX}{xs:List (Nat×Str)}{lk:Lk}{b:Bd}{d:DefRec}{x:Str}(hn:l.most=some 63)(Rw:d.params.defaults=[])(hr:bG k callerA)
  (F:∀(w:World) (K:Frag) (mg:Str->Option Value) (fa:Addr) (h:Heap),rC fs ms xs lk b K->K.In h->h.Ns mainGlobals mg->mg d.name=some (.ref fa)->
   ∃fd:FuncData,(∀(s:Shared) (u:Value),BindsTo s fd ⟨[u],[]⟩ [(x,u)])/\∀base:Heap,K.In base->base.Ns mainGlobals mg->cH l.prog w K mg base (gU l.prog w) true k fa fd [x] (uV K)) :
  WalkO q loose XP (mD fs ms xs lk b).says l.row.toRowW d [] (λf vs=>PySem.call f vs):=by
 refine YC.ou hn Rw λw s₀ s₁ mg mb fa o pm cd doc a vs ns G Y ho hd kY hmg BJ hints hlen hg=>?_;obtain⟨K,KX,SY⟩:=Y;obtain⟨fd,hb,hF⟩:=F w K mg fa _ SY KX G.T.g hmg;exact ziw KX G.T.g G.T.b G.T.builtins G.T.nolimit hg BJ hints (jo hlen (by decide)) hr hF hb (λH hO hS=>⟨a,ns,rfl,hS,hlen,hO,λ_=>rfl⟩) λH e s' h=>by
  obtain⟨_,_,_,_,_,_,_,_,_,_,z⟩:=h;exact z
section
variable {K:Frag}{b:Bd}
theorem zn2{cA:Cl}(h:yR K b=true)(hb:cA.b 0=eN K b.n)(hg:cA.g 0=b.fs)(nd:b.fs.Nodup):Ow K cA 0:=by
 unfold yR at h;simp only[g8,pF,fj] at h;obtain⟨⟨⟨⟨⟨⟨⟨h1,h2⟩,h3⟩,h4⟩,h5⟩,h6⟩,h7⟩,h8⟩:=h;exact⟨by rw[hb];exact⟨h2,h3,h4,h5⟩,λf hf=>by rw[hb];rw[hg] at hf;exact h8 f hf,by rw[hg];exact nd⟩
theorem zn9{f:Addr}(h:yR K b=true)(m:Meth K (eN K b.n) "__init__" f):Mk K (eN K b.n) f:=by
 unfold yR at h;simp only[g8,pF,fj] at h;exact⟨h.1.1.2,m.at_,m.fn,h.1.2⟩
theorem zoe{h:Heap}{mg:Str->Option Value}(z:yR K b=true)(X:K.In h)(G:h.Ns mainGlobals mg):mg b.n=some (.ref (eN K b.n)):=by
 unfold yR at z;simp only[g8] at z;exact zoV z.1.1.1.1.1.1.1 X G
end
theorem bG.made{k:Nat}{A:Around}(r:bG (k+1) A)(env:Env)(C:Addr)(us:List Value):bG k ((A.deeper env).under (.builtin "type.__call__" ⟨.ref C::us,[]⟩)):=
 ⟨by have:=r.dp;rw[zf1];show A.depth+1+1+3*k+5<_;lia,by have:=r.un;rw[zfK];show A.units+3+1+16*k+200<_;lia,by
  have e:(A.deeper env).guards=some []:=r.gd;rw[<-e];cases h:(A.deeper env).guards<;>simp[Around.under,pushGuards,Code.guards,Code.isGuard,guardIds,h]⟩
section
variable {P:Program}{w:World}{K:Frag}{mg:Str->Option Value}{base:Heap}{cA:Cl}{aq:Nat->Nat->Bool}{T:Nat->Option Df}{x m q:Str}{st:Stmt}{ps:List Str}{k n:Nat}{cm:Bool}{df:Df}{C fa:Addr}{fd:FuncData}
theorem fM(D:Mt K C m q st ps fa fd)(N:List Str)(hT:T n=some df)
  (hb:∀(cdv:Value) (A:Around) (outer:List Env) (s:Shared) (H:Hp) (E:XK),bG k (A.deeper (envOfC q (au st) s.heap.objs.size fa cdv))->
   JB (gK (gU P w) P w K mg base N q (au st) fa cdv A outer s H E cm) cA aq cm (λc=>call aq T k c) (λ_ C dx H'=>E C dx H') (aK st) df.body) (S:dz N ps (au st):=by exact⟨rfl,rfl,rfl,dk,rfl,dk,dk⟩) (hp:df.iK=ps.length:=by rfl) (hm:df.many=N.length:=by rfl) :
  cH P w K mg base (gU P w) cm (k+1) fa fd ps (lY K cA (call aq T (k+1) cm n)):=ziY D.fn S hT hp hm hb
theorem ziM{c:Nat}:cH P w K mg base (gU P w) cm 0 fa fd ps (Oe K cA c (call aq T 0 cm n)):=
 ⟨λvs H Q E ⟨_,_,_,_,_,_,_,_,_,_,_,_,_,_,h⟩=>h.elim,λA outer s H args us vs Q E _ _ _ _ _ ⟨_,_,_,_,_,_,_,_,_,_,_,_,_,_,h⟩=>h.elim⟩
theorem fR(D:D3 K mg x st ps)(N:List Str)(hT:T n=some df)
  (hb:∀(cdv:Value) (A:Around) (outer:List Env) (s:Shared) (H:Hp) (E:XK),bG (k+1) A->
   JB (gK (gU P w) P w K mg base N x (au st) (iQ K x) cdv A outer s H E cm) cA aq cm (λc=>call aq T k c) (λ_ C dx H'=>E C dx H') (aK st) df.body) (S:dz N ps (au st):=by exact⟨rfl,rfl,rfl,dk,rfl,dk,dk⟩) (hp:df.iK=ps.length:=by rfl) (hm:df.many=N.length:=by rfl) :
  cH P w K mg base (gU P w) cm (k+1) (iQ K x) (fdOf K x st) ps (lY K cA (call aq T (k+1) cm n)):=zi5 D.f S hT hp hm λcdv A outer s H E hr=>(hb cdv A outer s H E hr).o
theorem U9{p p2:Str}(h:oR K m q st fa fd/\Meth K C m fa)(hb:∀(kV doc pm:Value) (an:Option Addr) (cdv ct a b:Value),bindArgs (fnOf m q (aX st) (aK st) (au st) .none kV doc pm an cdv ct) ⟨[a,b],[]⟩=pure [(p,a),(p2,b)]:=by intros;rfl):Mt K C m q st [p,p2] fa fd:=⟨h.1,h.2,by
 obtain⟨oc,od,kV,doc,pm,an,cdv,ct,osl,rfl,lk,kY⟩:=h.1.ex;exact uW (hb kV doc pm an cdv ct)⟩
theorem zpe{p p2 p3:Str}(h:oR K m q st fa fd/\Meth K C m fa)(hb:∀(kV doc pm:Value) (an:Option Addr) (cdv ct a b c:Value),bindArgs (fnOf m q (aX st) (aK st) (au st) .none kV doc pm an cdv ct) ⟨[a,b,c],[]⟩=pure [(p,a),(p2,b),(p3,c)]:=by intros;rfl):Mt K C m q st [p,p2,p3] fa fd:=⟨h.1,h.2,by
 obtain⟨oc,od,kV,doc,pm,an,cdv,ct,osl,rfl,lk,kY⟩:=h.1.ex;exact uX (hb kV doc pm an cdv ct)⟩
theorem zpz{p p2 p3 p4:Str}(h:oR K m q st fa fd/\Meth K C m fa)(hb:∀(kV doc pm:Value) (an:Option Addr) (cdv ct a b c d:Value),bindArgs (fnOf m q (aX st) (aK st) (au st) .none kV doc pm an cdv ct) ⟨[a,b,c,d],[]⟩=pure [(p,a),(p2,b),(p3,c),(p4,d)]:=by intros;rfl):Mt K C m q st [p,p2,p3,p4] fa fd:=⟨h.1,h.2,by
 obtain⟨oc,od,kV,doc,pm,an,cdv,ct,osl,rfl,lk,kY⟩:=h.1.ex;exact uY (hb kV doc pm an cdv ct)⟩
end
end Mi
namespace Mi
open PySem
theorem zlv{α:Type}{l:List α}{g:α->Option D}:l.filterMap g=[]↔∀x∈l,g x=none:=by
 rw[List.filterMap_eq_nil_iff]
end Mi
namespace Mi
open PySem Ts
theorem zn1{ps:List (Int×Int)}(h:ps.Pairwise λa b=>sJ a b=true):ps.Pairwise lx:=h.imp λ{a b} e=>vo.mp e
theorem zdX{α:Type}{q:α->Bool}:∀l:List α,l.length=(l.filter q).length+(l.filter λx=>!q x).length
 |[]=>rfl
 |x::l=>by
  have:=zdX (q:=q) l;simp only[sW];cases q x<;>simp<;>lia
theorem zmR{ps:List (Int×Int)}{n:Int}(h1:1<=n)(h8:n<=8)(ht:∀p∈ps,0<=p.1/\p.1<p.2/\p.2<n)(hi:ps.Pairwise lx):(ps.length:Int)<=7*n:=by
 have key:∀m:Nat,∀qs:List (Int×Int),(∀p∈qs,0<=p.1/\p.1<(m:Int)/\p.1<p.2/\p.2<n)->qs.Nodup->(qs.length:Int)<=7*m:=by
  intro m
  induction m with
  |zero=>
   intro qs hq _;cases qs with
   |nil=>simp
   |cons p r=>have:=hq p (by simp);lia
  |succ m ih=>
   intro qs hq nd;have h1:=ih (qs.filter λp=>decide (p.1<(m:Int))) (λp hp=>by
    obtain⟨a,b⟩:=jD.mp hp;have:=hq p a;have:=gG b
    lia) (nd.filter _)
   have h2:(qs.filter λp=>!decide (p.1<(m:Int))).length<=(([1,2,3,4,5,6,7]:List Int).map λx=>((m:Int),x)).length:=Uv (nd.filter _) (λp hp=>by
    obtain⟨a,b⟩:=jD.mp hp;have:=hq p a;have b:¬p.1<(m:Int):=by simpa using b
    obtain⟨p1,p2⟩:=p;dsimp only at *;have e:p1=(m:Int):=by lia
    subst e;refine jE.mpr ⟨p2,?_,rfl⟩;have:p2=1\/p2=2\/p2=3\/p2=4\/p2=5\/p2=6\/p2=7:=by lia
    simpa using this)
   have h3:=zdX (q:=λp=>decide (p.1<(m:Int))) qs;simp only[bO,fX,Am] at h2
   lia
 have:=key n.toNat ps (λp hp=>by have:=ht p hp;lia) (N7 hi)
 lia
end Mi
namespace Mi
open PySem
end Mi
namespace Mi
open PySem PySem.W L2
theorem Ko{a b:Int×Int}:lD [.int a.1,.int a.2] [.int b.1,.int b.2]=some (sJ a b):=by
 unfold sJ;simp only[lD];by_cases h1:a.1=b.1
 ·rw[if_pos h1];by_cases h2:a.2=b.2
  ·rw[if_pos h2]
   congr 1
   simp only[Am,pD,decide_false]
   symm
   rw[PK]
   lia
  ·rw[if_neg h2]
   congr 1
   rw[rE]
   lia
 ·rw[if_neg h1]
  congr 1
  rw[rE]
  lia
theorem zll{us:List (Int×Int)}:tG (us.map bT)=Kc us:=by
 funext i j
 unfold tG Kc;rw[fQ,fQ];cases us[i]? with
 |none=>rfl
 |some a=>
  cases us[j]? with
  |none=>rfl
  |some b=>exact Ko
theorem zkJ{ps:List (Int×Int)}(hl:ps.length<64)(nd:ps.Nodup):∃qs:List (Int×Int),pG (ps.map bT)=some (qs.map bT)/\qs.Pairwise lx/\(∀x,x∈qs↔x∈ps)/\qs.length=ps.length:=by
 have hk:((ps.map bT).all iu||(ps.map bT).all gj)=true:=by
  rw[Gw]
  right
  rw[yO,fj];intro p _;rfl
 unfold pG;rw[if_pos hk];unfold oK;rw[bO,zll];by_cases h2:ps.length<2
 ·rw[if_pos h2];refine⟨ps,rfl,?_,λ_=>Iff.rfl,rfl⟩;cases ps with
  |nil=>exact .nil
  |cons x t=>
   cases t with
   |nil=>exact List.pairwise_singleton ..
   |cons y t=>exact absurd h2 (by simp)
 ·rw[if_neg h2,if_pos hl];obtain⟨p,e,e1,e2,e3,e4⟩:=zge (us:=ps) (by lia) nd;rw[e];dsimp only;rw[if_pos e1];refine⟨p.toList.map λi=>ps.getD i (0,1),?_,zn1 e4,e3,by rw[bO,yI,e1]⟩;rw[rG]
  congr 1
  refine Qf λi hi=>?_;have:=e2 i hi;simp[jQ,this]
end Mi
namespace Mi
open PySem
theorem Kbc{n:Nat}{c:List D}{b:D->Vs->MS}{J:Vs}{s:S}{Q:Out->S->Prop}(I:Nat->Vs->S->Prop)(h0:I 0 J s)(hl:∀i J s,I i J s->s[n]?=some (.lst c))(hb:∀i x J s,c[i]?=some x->I i J s->WS (b x J) s λo s'=>∃J',o=.nx J'/\I (i+1) J' s')
  (he:∀J s,I c.length J s->Q (.nx J) s):WS (c7 (.live n) b (c.length+1) 0 J) s Q:=by
 have key:∀m i J s,i+m=c.length->I i J s->WS (c7 (.live n) b (m+1) i J) s Q:=by
  intro m
  induction m with
  |zero=>
   intro i J s hi hI;have e:c[i]?=none:=by rw[pA];lia
   have e0:=hl i J s hI;have:i=c.length:=by lia
   subst this;refine⟨_,s,?_,he J s hI⟩;unfold c7;simp only[Src.at,e0,e]
  |succ m ih=>
   intro i J s hi hI;have e0:=hl i J s hI;have cV:i<c.length:=by lia
   have e:c[i]?=some c[i]:=cX cV;obtain⟨o,s',eb,J',rfl,yj⟩:=hb i c[i] J s e hI;obtain⟨o2,s2,e2,q⟩:=ih (i+1) J' s' (by lia) yj;refine⟨o2,s2,?_,q⟩;unfold c7;simp only[Src.at,e0,e,eb];exact e2
 exact key c.length 0 J s (by lia) h0
theorem Ka9{n:Nat}{c:List D}{s:S}{P:Src×Nat->S->Prop}(e:s[n]?=some (.lst c))(h:P (.live n,c.length) s):W (src (.l n)) s P:=⟨_,s,by unfold src;simp only[e],h⟩
theorem W.c0{F:List Xv->M Xv}{xs:List Xv}{s:S}{e:D}{P:Xv->S->Prop}(h:W (F (dX 0 xs)) [] λv _=>v=.d e)(k:P (.d e) s)(hl:locs xs=[]:=by rfl):W (cP F xs) s P:=qp hl (h.imp λ_ _ q=>⟨_,q,k⟩)
theorem W.c1{F:List Xv->M Xv}{xs:List Xv}{s:S}{P:Xv->S->Prop}(h:W (F (dX 0 xs)) [] λv _=>∃d,v=.d d)(k:∀d,P (.d d) s)(hl:locs xs=[]:=by rfl):W (cP F xs) s P:=qp hl (h.imp λ_ _ ⟨d,q⟩=>⟨d,q,k d⟩)
section
variable {s:S}{o o' L L':SO}
theorem g1_:(s++[o]++[L])[s.length]?=some o:=by simp
theorem zow:(s++[o]++[L]).set s.length o'=s++[o']++[L]:=by simp
theorem Kaq{F:List Xv->M Xv}{xs:List Xv}{P:Xv->S->Prop}(hl:locs xs=[s.length])(h:W (F (dX 0 xs)) [o] λv s1=>∃d o',v=.d d/\s1=[o']/\P (.d d) (s++[o']++[L])):W (cP F xs) (s++[o]++[L]) P:=by
 refine Ui (n:=s.length) (o:=o) hl g1_ (h.imp λv s1=>?_);rintro⟨d,o',rfl,rfl,hp⟩;exact⟨d,o',rfl,rfl,by rw[zow];exact hp⟩
end
section
variable {n k x y:Int}{r:List Int}
end
section
variable {n m:Int}{ps qs:List (Int×Int)}{x:D}{hs:List Int}
theorem zhY{k a b:Int}:cT k a b=cT k b a:=by
 unfold cT
 split<;>split<;>split<;>split<;>lia
end
section
variable {aq:Nat->Nat->Bool}{F:Fn}{J:Vs}{s:S}{P:Xv->S->Prop}
end
noncomputable abbrev Fr:=List (Option (List Int))
noncomputable def bJ:Option (List Int)->D
 |none=>.non
 |some l=>.tup (l.map .int)
noncomputable def cellK:Option (List Int)->Kx
 |none=>.non
 |some l=>.row l
noncomputable def jA(F:Fr):D:=.tup (F.map bJ)
theorem U_:∀l:List Int,cI (l.map .int)=some l
 |[]=>rfl
 |i::l=>by show Option.map _ (cI (l.map .int))=_;rw[U_ l];rfl
theorem Oj(F:Fr):kOf (jA F)=some (F.map cellK):=by
 show Cr (F.map bJ)=_
 induction F with
 |nil=>rfl
 |cons c F ih=>
  have e:uG (bJ c)=some (cellK c):=by
   cases c with
   |none=>rfl
   |some l=>show Option.map _ (cI (l.map .int))=_;rw[U_];rfl
  simp only[g_,Cr,e,ih]
theorem zg1:∀{F G:Fr},F.map cellK=G.map cellK->F=G
 |[],[],_=>rfl
 |[],_::_,h=>by cases h
 |_::_,[],h=>by cases h
 |c::F,e::G,h=>by
  simp only[g_,List.cons.injEq] at h;rw[zg1 h.2]
  congr 1
  have h1:=h.1;cases c with
  |none=>cases e with
   |none=>rfl
   |some _=>cases h1
  |some l=>cases e with
   |none=>cases h1
   |some m=>cases h1;rfl
structure Bo(n k:Nat)(es:Nat->List Int)(A:Int->Int->Bool):Prop where
 hn:n<=8
 hk:k<=24
 mem:∀i,i<n->∀e∈es i,0<=e/\e<n/\e≠i
 sym:∀i e:Nat,i<n->e<n->(e:Int)∈es i->(i:Int)∈es e
 len:∀i,i<n->(es i).length<=8
 asy:∀a b:Int,0<=a->a<k->0<=b->b<k->A a b=A b a
structure Fv(n k:Nat)(F:Fr):Prop where
 len:F.length=n
 lo:∀(i:Nat) L,F[i]?=some (some L)->∀x∈L,0<=x/\x<k
 ll:∀(i:Nat) L,F[i]?=some (some L)->L.length<=24
 so:∀(i:Nat) L,F[i]?=some (some L)->L.Pairwise (·<·)
structure qw(es:Nat->List Int)(A:Int->Int->Bool)(F:Fr)(g:Nat->Int):Prop where
 mem:∀(i:Nat) L,F[i]?=some (some L)->g i∈L
 fit:∀(i e:Nat) L M,F[i]?=some (some L)->F[e]?=some (some M)->(e:Int)∈es i->A (g i) (g e)=true
def Sat(es:Nat->List Int)(A:Int->Int->Bool)(F:Fr):Prop:=∃g,qw es A F g
noncomputable def gF(f:Int->Bool)(F:Fr)(e:Int):Fr:=F.set e.toNat ((F[e.toNat]?.join).map (·.filter f))
noncomputable def settle(es:Nat->List Int)(A:Int->Int->Bool)(F:Fr)(p:Nat)(x:Int):Fr:=(es p).foldl (gF (A x)) (F.set p none)
theorem zeC{f:Int->Bool}{F:Fr}{e:Int}:(gF f F e).length=F.length:=pK ..
theorem Va{f:Int->Bool}:∀{l:List Int} {F:Fr},(l.foldl (gF f) F).length=F.length
 |[],F=>rfl
 |e::l,F=>by rw[Ls,Va,zeC]
theorem zk2{f:Int->Bool}{F:Fr}{e:Int}(h0:0<=e)(i:Nat)(hi:i<F.length):(gF f F e)[i]?=if (i:Int)=e then F[i]?.map (Option.map (·.filter f)) else F[i]?:=by
 unfold gF;by_cases z:(i:Int)=e
 ·have:e.toNat=i:=by lia
  rw[if_pos z,this,yH hi,cX hi];rfl
 ·rw[if_neg z,qy (by lia)]
theorem Vb{f:Int->Bool}:∀{l:List Int} {F:Fr} (i:Nat),(∀e∈l,0<=e)->i<F.length->(l.foldl (gF f) F)[i]?=if (i:Int)∈l then F[i]?.map (Option.map (·.filter f)) else F[i]?
 |[],F,i,_,hi=>by simp
 |e::l,F,i,h,hi=>by
  rw[Ls,Vb i (λx hx=>h x (by simp[hx])) (by rw[zeC];exact hi),zk2 (h e (by simp)) i hi];have ff:∀c:Option (Option (List Int)),(c.map (Option.map (·.filter f))).map (Option.map (·.filter f))=c.map (Option.map (·.filter f)):=λc=>by
   cases c with
   |none=>rfl
   |some c=>cases c with
    |none=>rfl
    |some L=>simp
  by_cases a:(i:Int)=e
  ·by_cases b:(i:Int)∈l
   ·rw[if_pos b,if_pos a,if_pos (by simp[b]),ff]
   ·rw[if_neg b,if_pos a,if_pos (by simp[a])]
  ·by_cases b:(i:Int)∈l
   ·rw[if_pos b,if_neg a,if_pos (by simp[b])]
   ·rw[if_neg b,if_neg a,if_neg (by simp[a,b])]
section
variable {n k:Nat}{es:Nat->List Int}{A:Int->Int->Bool}{F:Fr}{p:Nat}{x:Int}{g:Nat->Int}
theorem zcS:(settle es A F p x).length=F.length:=by unfold settle;rw[Va,pK]
theorem zdr(B:Bo n k es A)(hF:F.length=n)(hp:p<n)(i:Nat)(hi:i<n):(settle es A F p x)[i]?=if i=p then some none else if (i:Int)∈es p then F[i]?.map (Option.map (·.filter (A x))) else F[i]?:=by
 unfold settle;rw[Vb i (λe he=>(B.mem p hp e he).1) (by rw[pK,hF];exact hi)];by_cases e:i=p
 ·subst e;rw[if_pos rfl,if_neg (λz=>(B.mem i hp _ z).2.2 rfl),yH (by rw[hF];exact hi)]
 ·rw[if_neg e,qy (Ne.symm e)]
theorem rD{i:Nat}{c:Option (List Int)}(hF:F.length=n)(h:F[i]?=some c):i<n:=by rw[<-hF];exact(dO.mp h).1
theorem Ol(B:Bo n k es A)(hF:F.length=n)(hp:p<n){i:Nat}{M:List Int}(h:(settle es A F p x)[i]?=some (some M)):i≠p/\∃L,F[i]?=some (some L)/\M=if (i:Int)∈es p then L.filter (A x) else L:=by
 have hi:i<n:=rD (by rw[zcS];exact hF) h;rw[zdr B hF hp i hi] at h;by_cases e:i=p
 ·rw[if_pos e] at h;cases h
 ·rw[if_neg e] at h;refine⟨e,?_⟩;by_cases m:(i:Int)∈es p
  ·rw[if_pos m] at h;obtain⟨c,e1,e2⟩:=lH.mp h;cases c with
   |none=>cases e2
   |some L=>cases e2;exact⟨L,e1,by rw[if_pos m]⟩
  ·rw[if_neg m] at h;exact⟨M,h,by rw[if_neg m]⟩
theorem Kp(B:Bo n k es A)(hF:F.length=n)(hp:p<n){i:Nat}{L:List Int}(hi:i≠p)(h:F[i]?=some (some L)):(settle es A F p x)[i]?=some (some (if (i:Int)∈es p then L.filter (A x) else L)):=by
 rw[zdr B hF hp i (rD hF h),if_neg hi,h]
 split<;>rfl
theorem Kq(B:Bo n k es A)(v:Fv n k F)(hp:p<n):Fv n k (settle es A F p x):=by
 refine⟨by rw[zcS];exact v.len,λi M h=>?_,λi M h=>?_,λi M h=>?_⟩<;>obtain⟨_,L,e,rfl⟩:=Ol B v.len hp h
 ·intro y hy;refine v.lo i L e y ?_;split at hy
  ·exact(jD.mp hy).1
  ·exact hy
 ·split
  ·exact jo (Ah _ _) (v.ll i L e)
  ·exact v.ll i L e
 ·split
  ·exact(v.so i L e).filter _
  ·exact v.so i L e
theorem Om(B:Bo n k es A)(v:Fv n k F)(hp:p<n){L:List Int}(hL:F[p]?=some (some L))(s:qw es A F g):qw es A (settle es A F p (g p)) g:=by
 refine⟨λi M h=>?_,λi e M N h1 h2 he=>?_⟩
 ·obtain⟨_,L',e,rfl⟩:=Ol B v.len hp h;have:=s.mem i L' e
  split
  ·exact jD.mpr ⟨this,s.fit p i L L' hL e (by assumption)⟩
  ·exact this
 ·obtain⟨_,L',e1,_⟩:=Ol B v.len hp h1;obtain⟨_,L2,e2,_⟩:=Ol B v.len hp h2;exact s.fit i e L' L2 e1 e2 he
theorem zeP(B:Bo n k es A)(v:Fv n k F)(hp:p<n){L:List Int}(hL:F[p]?=some (some L))(hx:x∈L)(s:qw es A (settle es A F p x) g):qw es A F λi=>if i=p then x else g i:=by
 have ap:∀(i:Nat) M,i≠p->F[i]?=some (some M)->(i:Int)∈es p->A x (g i)=true/\(0<=g i/\g i<k):=λi M ni h m=>by
  have h2:=Kp (x:=x) B v.len hp ni h;have:=s.mem i _ h2;rw[if_pos m] at this;exact⟨(jD.mp this).2,v.lo i M h _ (jD.mp this).1⟩
 have hxk:=v.lo p L hL x hx;refine⟨λi M h=>?_,λi e M N h1 h2 he=>?_⟩
 ·by_cases z:i=p
  ·subst z;rw[if_pos rfl];rw[hL] at h;cases h;exact hx
  ·rw[if_neg z];have:=s.mem i _ (Kp (x:=x) B v.len hp z h);split at this
   ·exact(jD.mp this).1
   ·exact this
 ·have li:=rD v.len h1;have le:=rD v.len h2;by_cases z:i=p
  ·subst z;have ne:e≠i:=λq=>(B.mem i li _ he).2.2 (by rw[q]);rw[if_pos rfl,if_neg ne];exact(ap e N ne h2 he).1
  ·by_cases y:e=p
   ·subst y;rw[if_neg z,if_pos rfl];have m:=B.sym i e li le he;obtain⟨q1,q2⟩:=ap i M z h1 m;rw[B.asy _ _ q2.1 q2.2 hxk.1 hxk.2];exact q1
   ·rw[if_neg z,if_neg y];exact s.fit i e _ _ (Kp (x:=x) B v.len hp z h1) (Kp (x:=x) B v.len hp y h2) he
theorem FQ(B:Bo n k es A)(v:Fv n k F)(hp:p<n){L:List Int}(hL:F[p]?=some (some L)):Sat es A F↔∃x∈L,Sat es A (settle es A F p x):=
 ⟨λ⟨g,s⟩=>⟨g p,s.mem p L hL,g,Om B v hp hL s⟩,λ⟨x,hx,g,s⟩=>⟨_,zeP B v hp hL hx s⟩⟩
noncomputable def dZ(es:Nat->List Int)(F:Fr)(p:Nat):Nat:=((es p).filter λe=>(F[e.toNat]?.join).isSome).length
noncomputable def bnd(es:Nat->List Int)(F:Fr):Fr:=F.mapIdx λi c=>if 0<dZ es F i then c else none
theorem zjm{i:Nat}:(bnd es F)[i]?=F[i]?.map λc=>if 0<dZ es F i then c else none:=by unfold bnd;rw[List.getElem?_mapIdx]
theorem CZ{i:Nat}{L:List Int}(h:(bnd es F)[i]?=some (some L)):F[i]?=some (some L)/\0<dZ es F i:=by
 rw[zjm] at h;obtain⟨c,e1,e2⟩:=lH.mp h;split at e2
 ·subst e2;exact⟨e1,by assumption⟩
 ·cases e2
theorem zjs(v:Fv n k F):Fv n k (bnd es F):=⟨by unfold bnd;rw[List.length_mapIdx];exact v.len,λi L h=>v.lo i L (CZ h).1,λi L h=>v.ll i L (CZ h).1,λi L h=>v.so i L (CZ h).1⟩
theorem zeO{i e:Nat}{L:List Int}(hm:(e:Int)∈es i)(h:F[e]?=some (some L)):0<dZ es F i:=by
 unfold dZ;refine P0 (a:=(e:Int)) (jD.mpr ⟨hm,?_⟩);rw[pC,h];rfl
theorem zkv(B:Bo n k es A)(v:Fv n k F)(ne:∀(i:Nat) L,F[i]?=some (some L)->L≠[]):Sat es A (bnd es F)↔Sat es A F:=by
 constructor
 ·rintro⟨g,s⟩;have to:∀(i:Nat) L,F[i]?=some (some L)->0<dZ es F i->(bnd es F)[i]?=some (some L):=λi L h q=>by rw[zjm,h];show some (if _ then _ else _)=_;rw[if_pos q]
  refine⟨λi=>if 0<dZ es F i then g i else ((F[i]?.join).getD []).headD 0,λi L h=>?_,λi e L M h1 h2 he=>?_⟩
  ·by_cases q:0<dZ es F i
   ·rw[if_pos q];exact s.mem i L (to i L h q)
   ·rw[if_neg q,h];show L.headD 0∈L;cases L with
    |nil=>exact absurd rfl (ne i [] h)
    |cons a L=>exact lJ
  ·have q1:=zeO he h2;have q2:=zeO (B.sym i e (rD v.len h1) (rD v.len h2) he) h1;rw[if_pos q1,if_pos q2];exact s.fit i e L M (to i L h1 q1) (to e M h2 q2) he
 ·rintro⟨g,s⟩;exact⟨g,λi L h=>s.mem i L (CZ h).1,λi e L M h1 h2 he=>s.fit i e L M (CZ h1).1 (CZ h2).1 he⟩
theorem Vc(h:∀(i:Nat) L,F[i]?≠some (some L)):Sat es A F:=⟨λ_=>0,λi L q=>absurd q (h i L),λi _ L _ q=>absurd q (h i L)⟩
theorem zkC{i:Nat}(h:F[i]?=some (some [])):¬Sat es A F:=λ⟨g,s⟩=>nomatch s.mem i [] h
noncomputable def cj(k:Nat):List Int:=(List.range k).map λ(i:Nat)=>(i:Int)
theorem bB{k:Nat}{y:Int}:y∈cj k↔0<=y/\y<k:=by
 unfold cj;rw[jE]
 constructor
 ·rintro⟨i,hi,rfl⟩;have:=tR.mp hi;lia
 ·intro h;exact⟨y.toNat,tR.mpr (by lia),by lia⟩
theorem Vd(B:Bo n k es A)(v:Fv n k F)(hp:p<n)(hk:1<=k)(dU:∀t a b:Int,0<=a->a<k->0<=b->b<k->A ((a+t)%k) ((b+t)%k)=A a b)(all:∀(i:Nat) L,F[i]?=some (some L)->L=cj k)(hL:F[p]?=some (some (cj k))):Sat es A F↔Sat es A (settle es A F p 0):=by
 constructor
 ·rintro⟨g,s⟩;have md:∀z:Int,0<=z%(k:Int)/\z%(k:Int)<k:=λz=>⟨Ao _ (by lia),Dw _ (by lia)⟩;have s2:qw es A F λi=>(g i + -(g p))%k:=by
   refine⟨λi L h=>?_,λi e L M h1 h2 he=>?_⟩
   ·rw[all i L h];exact bB.mpr (md _)
   ·have a:=bB.mp (all i L h1▸s.mem i L h1);have b:=bB.mp (all e M h2▸s.mem e M h2);show A ((g i + -(g p))%k) ((g e + -(g p))%k)=true;rw[dU _ _ _ a.1 a.2 b.1 b.2];exact s.fit i e L M h1 h2 he
  have:=Om B v hp hL s2;have e0:(g p + -(g p))%(k:Int)=0:=by rw[Int.add_right_neg];rfl
  simp only[e0] at this;exact⟨_,this⟩
 ·intro h;exact(FQ B v hp hL).mpr ⟨0,bB.mpr ⟨by lia,by lia⟩,h⟩
noncomputable def unset(F:Fr):Nat:=F.countP Option.isSome
theorem zdV:unset (bnd es F)<=unset F:=by
 unfold unset bnd;generalize dZ es F=f
 induction F generalizing f with
 |nil=>simp
 |cons c F ih=>
  rw[List.mapIdx_cons,DN,DN];have:=ih (λi=>f (i+1));have e:(if (if 0<f 0 then c else none).isSome=true then 1 else 0)<=(if c.isSome=true then 1 else 0):=by
   split<;>split<;>simp_all
  lia
theorem zgJ{F:Fr}:∀{p:Nat} {L:List Int},F[p]?=some (some L)->unset (F.set p none)+1=unset F:=by
 unfold unset
 induction F with
 |nil=>intro p L h;simp at h
 |cons c F ih=>
  intro p L h;cases p with
  |zero=>simp at h;subst h;simp
  |succ p=>
   have:=ih (p:=p) (L:=L) (by simpa using h);rw[List.set_cons_succ,DN,DN]
   lia
theorem zhF{f:Int->Bool}{F:Fr}{e:Int}:unset (gF f F e)<=unset F:=by
 unfold unset gF;generalize e.toNat=j
 induction F generalizing j with
 |nil=>simp
 |cons c F ih=>
  cases j with
  |zero=>cases c<;>simp
  |succ j=>
   rw[List.set_cons_succ,DN,DN,Af];have:=ih j
   lia
theorem zcN{f:Int->Bool}:∀{l:List Int} {F:Fr},unset (l.foldl (gF f) F)<=unset F
 |[],F=>bU _
 |e::l,F=>jo (zcN (l:=l)) zhF
theorem Kr{L:List Int}(h:F[p]?=some (some L)):unset (settle es A F p x)+1<=unset F:=by
 have:=zcN (f:=A x) (l:=es p) (F:=F.set p none);have:=zgJ h;unfold settle
 lia
theorem zfr(h:unset F=0)(i:Nat)(L:List Int):F[i]?≠some (some L):=λe=>by
 have:=List.countP_eq_zero.mp h _ (eZ e);exact this rfl
def lG(es:Nat->List Int)(A:Int->Int->Bool)(kvs:jd):Prop:=∀F d,cB (F.map cellK) kvs=some d->∃b,d=.bl b/\(b=true↔Sat es A F)
theorem zex{j q:List Kx}{d:D}:∀{kvs:jd},cB j (jJ q d kvs)=if j=q then some d else cB j kvs:=by
 intro kvs;unfold jJ;have app:∀{r:jd},cB j (r++[(q,d)])=match cB j r with|some e=>some e|none=>if j=q then some d else none:=λ{r}=>by
  induction r with
  |nil=>
   show (if q=j then some d else none)=if j=q then some d else none
   by_cases e:q=j
   ·rw[if_pos e,if_pos e.symm]
   ·rw[if_neg e,if_neg λz=>e z.symm]
  |cons p r ih=>
   rw[List.cons_append];unfold cB;by_cases e:p.1=j
   ·simp[e]
   ·simp only[e,qC];exact ih
 by_cases h:(cB q kvs).isSome=true
 ·rw[if_pos h];by_cases e:j=q
  ·subst e;rw[if_pos rfl]
   induction kvs with
   |nil=>simp[cB] at h
   |cons p r ih=>
    rw[g_];by_cases z:p.1=j
    ·rw[if_pos z];unfold cB;rw[if_pos z]
    ·rw[if_neg z];unfold cB at h ⊢;rw[if_neg z] at h ⊢;exact ih h
  ·rw[if_neg e];clear h
   induction kvs with
   |nil=>rfl
   |cons p r ih=>
    rw[g_];by_cases z:p.1=q
    ·rw[if_pos z];unfold cB;rw[if_neg (λy=>e (y.symm.trans z)),if_neg (λy=>e (y.symm.trans z))];exact ih
    ·rw[if_neg z];unfold cB;by_cases y:p.1=j
     ·rw[if_pos y,if_pos y]
     ·rw[if_neg y,if_neg y];exact ih
 ·rw[if_neg h,app];by_cases e:j=q
  ·subst e;have:cB j kvs=none:=by simpa using h
   simp[this]
  ·rw[if_neg e,if_neg e];cases cB j kvs<;>rfl
theorem zhR{q:List Kx}{d:D}{kvs:jd}:(jJ q d kvs).length<=kvs.length+1:=by
 unfold jJ
 split
 ·rw[bO];lia
 ·simp
theorem zkG{kvs:jd}{b:Bool}(h:lG es A kvs)(hb:b=true↔Sat es A F):lG es A (jJ (F.map cellK) (.bl b) kvs):=λG d e=>by
 rw[zex] at e;by_cases z:G.map cellK=F.map cellK
 ·rw[if_pos z] at e;cases e;rw[zg1 z];exact⟨b,rfl,hb⟩
 ·rw[if_neg z] at e;exact h G d e
end
noncomputable def cnt(k:Nat):Nat->Nat
 |0=>1
 |m+1=>1+k*cnt k m
section
variable {aq:Nat->Nat->Bool}{aj:Bool}{F:Fn}{J:Vs}{s:S}{P:Xv->S->Prop}
theorem W.qb{c:Nat}{fs:List D}{P:List D->S->Prop}(h:P fs s):W (Mi.qb c (.d (.ob c fs))) s P:=by
 show W (if c=c then M.ret fs else M.no) s P;rw[if_pos rfl];exact W.ret h
theorem W.cm{c f:Nat}{o:E}{xs:Es}{fs:List D}{vs:List Xv}(h1:dR aq o J=some (.d (.ob c fs)))(h2:oX aq xs J=some vs)(k:W (cP (F f) (.d (.ob c fs)::vs)) s P):W (ev aq aj F (.cm c f o xs) J) s P:=
 W.bd (W.eq (gD o _ h1) (W.bd (W.qb (W.bd (W.eq (jW xs h2) (W.qt k))))))
theorem W.rT(h:P (.l s.length) (s++[.dct []])):W (ev aq aj F .rT J) s P:=⟨_,_,rfl,h⟩
theorem W.key{x:D}{kx:List Kx}{P:List Kx->S->Prop}(e:kOf x=some kx)(h:P kx s):W (Mi.key (.d x)) s P:=W.opt e h
theorem W.gq{n:Nat}{kvs:jd}{P:Nat×jd->S->Prop}(e:s[n]?=some (.dct kvs))(h:P (n,kvs) s):W (Mi.gq (.l n)) s P:=⟨_,s,by unfold Mi.gq;simp only[e],h⟩
theorem W.BZ{b:Bool}{k d:E}{x:D}{n:Nat}{kx:List Kx}{kvs:jd}(h1:dR aq k J=some (.d x))(h2:dR aq d J=some (.l n))(e:kOf x=some kx)(hn:s[n]?=some (.dct kvs))(h:P (.d (.bl ((cB kx kvs).isSome==b))) s):W (ev aq aj F (.BZ b k d) J) s P:=
 W.bd (W.eq (gD k _ h1) (W.bd (W.eq (gD d _ h2) (W.bd (W.key e (W.bd (W.gq hn (W.ret h))))))))
theorem W.pY{d k:E}{x v:D}{n:Nat}{kx:List Kx}{kvs:jd}(h1:dR aq d J=some (.l n))(h2:dR aq k J=some (.d x))(e:kOf x=some kx)(hn:s[n]?=some (.dct kvs))(hv:cB kx kvs=some v)(h:P (.d v) s):W (ev aq aj F (.pY d k) J) s P:=
 W.bd (W.eq (gD d _ h1) (W.bd (W.eq (gD k _ h2) (W.bd (W.key e (W.bd (W.gq hn (W.opt (a:=.d v) (by show Option.map _ (cB kx kvs)=_;rw[hv];rfl) h))))))))
theorem W.Ew{a:E}(h:W (ev aq aj F a J) s λx s1=>W (rd x) s1 λd s2=>∃b,xu d=some b/\P (.d (.bl b)) s2):W (ev aq aj F (.Ew a) J) s P:=
 W.bd (h.imp λ_ _ h=>W.bd (h.imp λ_ _ ⟨_,e,h⟩=>W.bd (W.opt e (W.ret h))))
theorem KaN{xs:List D}{P:Src×Nat->S->Prop}(h:P (.fix (enumFrom 0 xs),(enumFrom 0 xs).length) s):W (oM (.d (.tup xs))) s P:=⟨_,s,rfl,h⟩
theorem W.mk{c f:Nat}{xs:Es}{vs:List Xv}{ds:List D}(h:W (evs aq aj F xs J) s λus s1=>us=vs/\P (.d (.ob c ds)) s1)(hl:locs vs=[])(k:W (F f (.d .any::vs)) [] λv _=>v=.d (.tup ds)):W (ev aq aj F (.mk c f xs) J) s P:=by
 refine W.bd (h.imp λus s1 ⟨e,hp⟩=>?_);subst e;obtain⟨v,s2,e1,rfl⟩:=k;refine⟨_,s1,?_,hp⟩;unfold SN;rw[if_pos hl];simp only[e1]
end
theorem WS.dput{aq:Nat->Nat->Bool}{aj:Bool}{F:Bool->Fn}{J:Vs}{s:S}{Q:Out->S->Prop}{d k v:E}{x:D}{n:Nat}{kx:List Kx}(h1:dR aq d J=some (.l n))(h2:dR aq k J=some (.d x))(e:kOf x=some kx)
  (h:W (ev aq aj (F aj) v J) s λz s1=>∃w kvs,z=.d w/\s1[n]?=some (.dct kvs)/\kvs.length<sizeLine/\Q (.nx J) (s1.set n (.dct (jJ kx w kvs)))):WS (ex aq aj F (.dput d k v) J) s Q:=by
 refine WS.ofM (W.bd (h.imp λz s1 ⟨w,kvs,ez,hn,hl,q⟩=>?_));subst ez;refine W.bd (W.dat (W.bd (W.eq (gD d _ h1) (W.bd (W.eq (gD k _ h2) (W.bd (W.key e (W.bd (W.gq hn ?_)))))))));rw[if_pos hl];exact⟨_,_,rfl,WS.nx q⟩
theorem zbC{α:Type}{f:α->D}:∀(l:List α) (j:Nat),enumFrom j (l.map f)=(l.zipIdx j).map λp=>.tup [.int p.2,f p.1]
 |[],j=>rfl
 |a::l,j=>by rw[g_,List.zipIdx_cons,g_,<-zbC l (j+1)];rfl
theorem KaY{o:Option Rz}{xs:List D}{s:S}{P:Xv->S->Prop}(e:o=some (.nw xs))(h:P (.l s.length) (s++[.lst xs])):W (cF false o) s P:=by subst e;exact⟨_,_,rfl,h⟩
theorem zjd{n:Nat}{j:Int}(h0:0<=j)(h:j<n):L2.rO n j=some j.toNat:=by
 unfold L2.rO;rw[if_pos h0,if_pos h]
theorem zlj{n:Nat}{j:Int}(h0:j<0)(h : -(n:Int)<=j):L2.rO n j=some (j+n).toNat:=by
 unfold L2.rO;rw[if_neg (by lia),if_pos h]
theorem zoK{xs:List D}{j:Int}{x:D}(h0:j<0)(h1 : -(xs.length:Int)<=j)(h:xs[(j+xs.length).toNat]?=some x):prim .ix [.fl xs,.int j]=some (.dat x):=by
 show Option.map Rz.dat (L2.qJ xs j)=_;have:L2.qJ xs j=some x:=by
  unfold L2.qJ;rw[zlj h0 h1];exact h
 rw[this];rfl
theorem zhU(F:Fr):memD (.tup []) (F.map bJ)=some (decide (some []∈F)):=by
 induction F with
 |nil=>rfl
 |cons c F ih=>
  simp only[g_,memD,ih];cases c with
  |none=>simp[bJ,cZ,kq]
  |some l=>
   cases l with
   |nil=>
    have:cZ 50 (bJ (some [])) (.tup [])=some true:=rfl;rw[this];simp
   |cons a l=>
    have:cZ 50 (bJ (some (a::l))) (.tup [])=some false:=rfl;rw[this];simp
theorem zot{f:Bool->Bool}{F:Fr}:zx f [.tup [],jA F]=some (.dat (.bl (f (decide (some []∈F))))):=by
 show Option.map _ (memD (.tup []) (F.map bJ))=_;rw[zhU];rfl
theorem zgU{k':Nat}:∀(a b:List Int),dF (cZ k') (a.map D.int) (b.map D.int)=some (decide (a=b))
 |[],[]=>by simp[dF]
 |[],_::_=>by simp[dF]
 |_::_,[]=>by simp[dF]
 |x::a,y::b=>by
  have hi:cZ k' (.int x) (.int y)=some (x==y):=by cases k'<;>rfl
  simp only[g_,dF,zgU a b,hi]
  congr 1
  by_cases e:x=y<;>by_cases e2:a=b<;>simp[e,e2]
theorem zoj{f:Bool->Bool}{a b:List Int}:zu f [.tup (a.map .int),.tup (b.map .int)]=some (.dat (.bl (f (decide (a=b))))):=by
 show Option.map _ (dF (cZ 49) (a.map D.int) (b.map D.int))=_;rw[zgU];rfl
theorem zdF:∀rs:List (List Int),j9 (rs.map λr=>D.tup (r.map .int))=some rs
 |[]=>rfl
 |r::rs=>by simp only[g_,j9,U_,zdF rs]
theorem Ve:∀(rs:List (List Int)) (b:List Int),gb b rs=b\/gb b rs∈rs
 |[],b=>.inl rfl
 |x::r,b=>by
  unfold gb
  split
  ·rcases Ve r x with h|h
   ·rw[h];exact .inr lJ
   ·exact .inr (iz _ h)
  ·rcases Ve r b with h|h
   ·exact .inl h
   ·exact .inr (iz _ h)
theorem zl4{rs:List (List Int)}(h:rs≠[]):∃r∈rs,prim .rQ [.fl (rs.map λr=>D.tup (r.map .int))]=some (.dat (.tup (r.map .int))):=by
 cases rs with
 |nil=>exact absurd rfl h
 |cons x r=>
  refine⟨gb x r,?_,?_⟩
  ·rcases Ve r x with h|h
   ·rw[h];exact lJ
   ·exact iz _ h
  ·show oJ [.fl ((x::r).map λr=>D.tup (r.map .int))]=_;unfold oJ;simp only[zdF]
theorem zoa{n:Nat}(h:n<=65536):prim .Eu [.int n]=some (.dat (.tup ((cj n).map .int))):=by
 show (if okR 0 (n:Int)=true then some (Rz.dat (.tup (IW 0 ((n:Int)-0).toNat))) else none)=_;rw[if_pos (show okR 0 (n:Int)=true from fu (by lia))];unfold IW cj;rw[rG,show ((n:Int)-0).toNat=n by lia]
 congr 4
 funext i
 simp
noncomputable def C_(n:Nat)(es:Nat->List Int):List D:=(List.range n).map λi=>.tup ((es i).map .int)
noncomputable def wj(k:Nat)(A:Int->Int->Bool):List D:=(List.range k).map λ(a:Nat)=>.fl ((List.range k).map λ(b:Nat)=>.bl (A a b))
noncomputable def jB(al:Bool)(n k:Nat)(es:Nat->List Int)(A:Int->Int->Bool):D:=.ob 0 [.fl (C_ n es),.tup ((cj k).map .int),.fl (wj k A),.bl al]
noncomputable abbrev Vf(n k:Nat)(es:Nat->List Int)(A:Int->Int->Bool):D:=jB true n k es A
theorem Vg{n:Nat}{es:Nat->List Int}{i:Nat}(h:i<n):(C_ n es)[i]?=some (.tup ((es i).map .int)):=by
 unfold C_;rw[fQ,Dr h];rfl
theorem zon{k:Nat}{A:Int->Int->Bool}{a:Int}(h0:0<=a)(h:a<k):(wj k A)[a.toNat]?=some (.fl ((List.range k).map λ(b:Nat)=>.bl (A a b))):=by
 unfold wj;rw[fQ,Dr (by lia)];have:((a.toNat:Nat):Int)=a:=by lia
 simp[this]
theorem Vh{k:Nat}{f:Int->Bool}{b:Int}(h0:0<=b)(h:b<k):((List.range k).map λ(b:Nat)=>D.bl (f b))[b.toNat]?=some (.bl (f b)):=by
 rw[fQ,Dr (by lia)];have:((b.toNat:Nat):Int)=b:=by lia
 simp[this]
theorem Ks{F:Fr}{i:Nat}{c:Option (List Int)}(h:F[i]?=some c):(F.map bJ)[i]?=some (bJ c):=by rw[fQ,h];rfl
theorem zjy{f:Int->Bool}{F:Fr}{e:Int}:(gF f F e).map bJ=(F.map bJ).set e.toNat (bJ ((F[e.toNat]?.join).map (·.filter f))):=by
 unfold gF;rw[List.map_set]
theorem zil{f:Int->Bool}{F:Fr}{e:Int}(h:F[e.toNat]?=some none):gF f F e=F:=by
 unfold gF;rw[h];obtain⟨hl,e2⟩:=dO.mp h;show F.set e.toNat none=F;rw[<-e2,List.set_getElem_self]
theorem Vi{α:Type}{p:Int->Bool}(l:List Int):l.filterMap (λy=>if p y=true then some (D.int y) else none)=(l.filter p).map .int:=by
 induction l with
 |nil=>rfl
 |cons a l ih=>
  rw[wC,sW];by_cases q:p a=true
  ·simp[q,ih]
  ·simp[q,ih]
noncomputable def tot(k:Nat):Nat->Nat
 |0=>0
 |m+1=>k*cnt k m+tot k m
theorem Oo{k:Nat}{L:List Int}(h:L.Pairwise (·<·))(hb:∀x∈L,0<=x/\x<k):L.length<=k:=by
 have key:∀(L:List Int) (a:Int),L.Pairwise (·<·)->(∀x∈L,a<=x/\x<k)->a<=k->(L.length:Int)<=k-a:=by
  intro L
  induction L with
  |nil=>intro a _ _ ha;simp;lia
  |cons x r ih=>
   intro a h hb ha;rw[Du] at h;have hx:=hb x (by simp);have:=ih (x+1) h.2 (λy hy=>by have:=h.1 y hy;have:=hb y (by simp[hy]);lia) (by lia);rw[fX]
   lia
 have:=key L 0 h hb (by lia)
 lia
noncomputable def cD(k d:Int)(a b:Int):Bool:=decide (d<=cT k a b)
section
variable {n k d:Int}{ps:List (Int×Int)}{ls:List Int}
theorem Oq(hd:1<=d){a b:Int}:cD k d a b=cD k d b a:=by
 unfold cD;rw[rE,FN hd,FN hd]
 lia
theorem Ku(hd:1<=d)(t a b:Int)(a0:0<=a)(ak:a<k)(b0:0<=b)(bk:b<k):cD k d ((a+t)%k) ((b+t)%k)=cD k d a b:=by
 unfold cD;rw[rE,FN hd,FN hd];have e1:=Qa (a+t) k;have e2:=Qa (b+t) k;have u0:=Ao (a+t) (b:=k) (by lia);have w0:=Ao (b+t) (b:=k) (by lia);have uk:=Dw (a+t) (b:=k) (by lia);have wk:=Dw (b+t) (b:=k) (by lia);generalize (a+t)%k=u at *;generalize (b+t)%k=w at *;generalize (a+t)/k=q1 at *;generalize (b+t)/k=q2 at *;have e3:k*(q1-q2)=(a-b)-(u-w):=by rw[Int.mul_sub];lia
 have c:q1-q2 = -1\/q1-q2=0\/q1-q2=1:=by
  have h1:q1-q2<2:=Int.not_le.mp λz=>by
   have:=Int.mul_le_mul_of_nonneg_left z (show 0<=k by lia)
   lia
  have h2 : -2<q1-q2:=Int.not_le.mp λz=>by
   have:=Int.mul_le_mul_of_nonneg_left z (show 0<=k by lia)
   lia
  lia
 rcases c with c|c|c<;>rw[c] at e3<;>lia
theorem FT(w:Web n ps){i e:Int}:e∈bf i ps↔(i,e)∈ps\/(e,i)∈ps:=by
 unfold bf;rw[Gn]
 constructor
 ·rintro⟨p,hp,h⟩;obtain⟨a,b⟩:=p;unfold endOf at h;dsimp only at h;split at h
  ·cases h;subst_vars;exact .inl hp
  ·split at h
   ·cases h;subst_vars;exact .inr hp
   ·cases h
 ·rintro(hp|hp)
  ·exact⟨_,hp,by simp[endOf]⟩
  ·have:=w.tie _ hp;dsimp only at this;exact⟨_,hp,by unfold endOf;dsimp only;rw[if_neg (by lia),if_pos rfl]⟩
theorem zmx(w:Web n ps)(hd:1<=d)(hk:k<=24):Bo n.toNat k.toNat (λi=>bf i ps) (cD k d) where
 hn:=by have:=w.h8;lia
 hk:=by lia
 mem:=λi hi e he=>by
  have:=N_ w he;refine⟨this.1,by lia,λz=>?_⟩;subst z;rcases(FT w).mp he with h|h<;>have:=w.tie _ h<;>dsimp only at this<;>lia
 sym:=λi e _ _ he=>(FT w).mpr ((FT w).mp he).symm
 len:=λi hi=>by
  have:=Oo (k:=n.toNat) (N8 w i) (λx hx=>by have:=N_ w hx;have:=w.h1;lia);have:=w.h8
  lia
 asy:=λa b _ _ _ _=>Oq hd
noncomputable def jk(n k:Int):Fr:=List.replicate n.toNat (some (cj k.toNat))
theorem Kv{i:Nat}{L:List Int}(h:(jk n k)[i]?=some (some L)):i<n.toNat/\L=cj k.toNat:=by
 unfold jk at h;rw[Ad] at h;split at h
 ·cases h;exact⟨by assumption,rfl⟩
 ·cases h
theorem Ot{i:Nat}(h:i<n.toNat):(jk n k)[i]?=some (some (cj k.toNat)):=by
 unfold jk;rw[Ad,if_pos h]
theorem Ou(hk:k<=24):Fv n.toNat k.toNat (jk n k) where
 len:=by unfold jk;simp
 lo:=λi L h x hx=>by rw[(Kv h).2] at hx;exact bB.mp hx
 ll:=λi L h=>by rw[(Kv h).2];unfold cj;simp;lia
 so:=λi L h=>by
  rw[(Kv h).2];unfold cj;rw[Dy];exact List.pairwise_lt_range.imp (by intro a b h;lia)
theorem zeE(w:Web n ps)(hd:1<=d){hs:List Int}(h:nG n k d ps hs):qw (λi=>bf i ps) (cD k d) (jk n k) λj=>at' hs j where
 mem:=λi L e=>by
  obtain⟨h1,rfl⟩:=Kv e;have:=h.len;have:=h.lo _ (yp (fs:=hs) (j:=i) (by lia) (by lia));exact bB.mpr (by lia)
 fit:=λi e L M _ _ he=>by
  rcases(FT w).mp he with q|q
  ·have:=h.fit _ q;show cD k d (at' hs i) (at' hs e)=true;unfold cD;rw[Dv];exact this
  ·have:=h.fit _ q;rw[Oq hd];show cD k d (at' hs e) (at' hs i)=true;unfold cD;rw[Dv];exact this
theorem zhS(w:Web n ps){hs:List Int}(hl:hs.length=n.toNat)(s:qw (λi=>bf i ps) (cD k d) (jk n k) λj=>at' hs j):nG n k d ps hs where
 len:=by have:=w.h1;lia
 lo:=λx hx=>by
  obtain⟨j,hj,e⟩:=yJ hx;have:=s.mem j _ (Ot (by lia));have e2:at' hs (j:Int)=x:=by
   unfold at';rw[pC,jQ,cX hj,e];rfl
  rw[e2] at this;have:=bB.mp this
  lia
 fit:=λp hp=>by
  have ht:=w.tie p hp;obtain⟨a,b⟩:=p;dsimp only at ht;obtain⟨i,rfl⟩:=yG ht.1;obtain⟨e,rfl⟩:=yG (show 0<=b by lia);have:=s.fit i e _ _ (Ot (by lia)) (Ot (by lia)) ((FT w).mpr (.inl hp));unfold cD at this;rw[Dv] at this;exact this
end
theorem zeZ{k k2 m m2:Nat}(hk:k<=k2)(hm:m<=m2):cnt k m<=cnt k2 m2:=by
 have h1:∀m,cnt k m<=cnt k2 m:=by
  intro m
  induction m with
  |zero=>exact bU _
  |succ m ih=>exact Nat.add_le_add_left (Nat.mul_le_mul hk ih) 1
 have h3:∀m,1<=cnt k2 m:=λm=>by cases m<;>unfold cnt<;>lia
 by_cases c:k2=0
 ·subst c;have:k=0:=by lia
  subst this;cases m<;>cases m2<;>simp[cnt]
 ·have h2:∀j,cnt k2 m<=cnt k2 (m+j):=by
   intro j
   induction j with
   |zero=>exact bU _
   |succ j ih=>
    have:1*cnt k2 (m+j)<=k2*cnt k2 (m+j):=Ai _ (by lia);show _<=1+k2*cnt k2 (m+j)
    lia
  have:=h2 (m2-m);rw[show m+(m2-m)=m2 by lia] at this;exact jo (h1 m) this
theorem zio{k k2 m m2:Nat}(hk:k<=k2)(hm:m<=m2):tot k m<=tot k2 m2:=by
 have h1:∀m,tot k m<=tot k2 m:=by
  intro m
  induction m with
  |zero=>exact bU _
  |succ m ih=>exact Nat.add_le_add (Nat.mul_le_mul hk (zeZ hk (bU _))) ih
 have h2:∀j,tot k2 m<=tot k2 (m+j):=by
  intro j
  induction j with
  |zero=>exact bU _
  |succ j ih=>show _<=k2*cnt k2 (m+j)+tot k2 (m+j);lia
 have:=h2 (m2-m);rw[show m+(m2-m)=m2 by lia] at this;exact jo (h1 m) this
section
variable {n m:Int}{ps:List (Int×Int)}{r h:List Int}{x y:Int}
end
theorem Vj(a b k:Int):(a%k+b)%k=(a+b)%k:=by
 have e:=Qa a k;have:a%k+b=(a+b)+k*(-(a/k)):=by rw[Int.mul_neg];lia
 rw[this,Int.add_mul_emod_self_left]
theorem Kw{a k:Int}(h0:0<=a)(h:a<k):a%k=a:=Int.emod_eq_of_lt h0 h
theorem Vk{a k:Int}(h:0<k):0<=a%k/\a%k<k:=⟨Ao _ (by lia),Dw _ h⟩
noncomputable def aU(k m:Int)(hs:List Int):List Int:=hs.map λx=>(x+m)%k
section
variable {n k d m:Int}{ps:List (Int×Int)}{hs:List Int}
theorem zgu(w:Web n ps)(hd:1<=d)(hk:1<=k)(h:nG n k d ps hs):nG n k d ps (aU k m hs) where
 len:=by unfold aU;rw[bO];exact h.len
 lo:=λx hx=>by
  obtain⟨y,_,rfl⟩:=jE.mp hx;exact Vk (by lia)
 fit:=λp hp=>by
  have ht:=w.tie p hp;have hl:=h.len;have a:=h.lo _ (yp (fs:=hs) (j:=p.1) (by lia) (by lia));have b:=h.lo _ (yp (fs:=hs) (j:=p.2) (by lia) (by lia));unfold aU;rw[yq (by lia) (by lia),yq (by lia) (by lia)];have:=Ku (k:=k) hd m _ _ a.1 a.2 b.1 b.2;unfold cD at this;rw[rE] at this;exact this.mpr (h.fit p hp)
end
section
variable {n k d q:Int}{ps qs:List (Int×Int)}{hs:List Int}
theorem Vl(w:Web n ps)(s:qs.Sublist ps):Web n qs:=⟨w.h1,w.h8,λp hp=>w.tie p (s.subset hp),w.inc.sublist s,by have:=s.length_le;have:=w.len;lia⟩
end
section
variable {n k d:Int}{ps:List (Int×Int)}{ks:List (Option Int)}{r:List Int}{x y:Int}
end
section
variable {n k d:Int}{ps:List (Int×Int)}
noncomputable def kJ(k d:Int)(ps:List (Int×Int))(r:List Int)(x:Int):Bool:=ps.all λp=>decide (p.2=(r.length:Int)->d<=cT k (at' r p.1) x)
noncomputable def nextR(k d:Int)(ps:List (Int×Int))(r:List Int):List (List Int):=((cj k.toNat).filter (kJ k d ps r)).map λx=>r++[x]
noncomputable def grow(k d:Int)(ps:List (Int×Int))(rows:List (List Int)):List (List Int):=rows.flatMap (nextR k d ps)
noncomputable def grows(k d:Int)(ps:List (Int×Int))(rows:List (List Int)):Nat->List (List Int)
 |0=>rows
 |i+1=>grow k d ps (grows k d ps rows i)
theorem kO{rows:List (List Int)}{h:List Int}:h∈grow k d ps rows↔∃r∈rows,∃x:Int,(0<=x/\x<(k.toNat:Nat))/\kJ k d ps r x=true/\h=r++[x]:=by
 unfold grow nextR;rw[List.mem_flatMap]
 constructor
 ·rintro⟨r,hr,hh⟩;obtain⟨x,hx,rfl⟩:=jE.mp hh;obtain⟨h1,h2⟩:=jD.mp hx;exact⟨r,hr,x,bB.mp h1,h2,rfl⟩
 ·rintro⟨r,hr,x,h1,h2,rfl⟩;exact⟨r,hr,jE.mpr ⟨x,jD.mpr ⟨bB.mpr h1,h2⟩,rfl⟩⟩
structure Pre(k d:Int)(ps:List (Int×Int))(i:Nat)(r:List Int):Prop where
 len:r.length=i
 lo:∀x∈r,0<=x/\x<k
 fit:∀p∈ps,p.2<i->d<=cT k (at' r p.1) (at' r p.2)
theorem zii(w:Web n ps)(hk:1<=k){i:Nat}{rows:List (List Int)}(P:List Int->Prop)(hP:∀r x,i≠0->r.length=i->(P (r++[x])↔P r))(h0:i≠0)(h:∀r,r∈rows↔Pre k d ps i r/\P r):∀r,r∈grow k d ps rows↔Pre k d ps (i+1) r/\P r:=by
 intro g;rw[kO]
 constructor
 ·rintro⟨r,hr,x,hx,ok,rfl⟩;obtain⟨hp,hq⟩:=(h r).mp hr;have hl:=hp.len;refine⟨⟨by simp[hl],λy hy=>?_,λp vd hl2=>?_⟩,(hP r x h0 hl).mpr hq⟩
  ·rcases jR.mp hy with hy|hy
   ·exact hp.lo y hy
   ·have:y=x:=nJ.mp hy
    lia
  ·have ht:=w.tie p vd;by_cases c:p.2<i
   ·rw[oZ (by lia) (by lia),oZ (by lia) (by lia)];exact hp.fit p vd c
   ·have e:p.2=(r.length:Int):=by lia
    have:=gG (fj.mp ok p vd) e;rw[e,J8,oZ (by lia) (by lia)];exact this
 ·rintro⟨hp,hq⟩;have hl:=hp.len;have hne:g≠[]:=λe=>by rw[e] at hl;simp at hl
  obtain⟨r,x,rfl⟩ : ∃r x,g=r++[x]:=⟨g.dropLast,g.getLast hne,(List.dropLast_concat_getLast hne).symm⟩;have hrl:r.length=i:=by simpa using hl
  have hx:=hp.lo x (by simp);refine⟨r,(h r).mpr ⟨⟨hrl,λy hy=>hp.lo y (by simp[hy]),λp vd hl2=>?_⟩,(hP r x h0 hrl).mp hq⟩,x,by lia,fj.mpr λp vd=>fu λe=>?_,rfl⟩
  ·have ht:=w.tie p vd;have:=hp.fit p vd (by lia)
   rwa [oZ (by lia) (by lia),oZ (by lia) (by lia)] at this
  ·have ht:=w.tie p vd;have:=hp.fit p vd (by lia)
   rwa [e,J8,oZ (by lia) (by lia)] at this
theorem zfC(w:Web n ps):grow k d ps [[]]=(cj k.toNat).map λx=>[x]:=by
 unfold grow nextR;rw[wD,List.flatMap_nil,vG];have:(cj k.toNat).filter (kJ k d ps [])=cj k.toNat:=by
  refine Lf.mpr λx _=>fj.mpr λp hp=>fu λe=>?_;have:=w.tie p hp;simp at e
  lia
 rw[this];rfl
theorem zgY(w:Web n ps)(hd:1<=d){r:List Int}(hr:∀x∈r,0<=x/\x<k)(t x:Int)(hx:0<=x/\x<k):kJ k d ps (aU k t r) ((x+t)%k)=kJ k d ps r x:=by
 unfold kJ;rw[DQ,fj,fj];have key:∀p∈ps,(p.2=((aU k t r).length:Int)->d<=cT k (at' (aU k t r) p.1) ((x+t)%k))↔(p.2=(r.length:Int)->d<=cT k (at' r p.1) x):=λp hp=>by
  have ht:=w.tie p hp;have el:(aU k t r).length=r.length:=by unfold aU;rw[bO]
  rw[el]
  constructor
  ·intro h e;have:=h e;unfold aU at this;rw[yq (by lia) (by lia)] at this;have a:=hr _ (yp (fs:=r) (j:=p.1) (by lia) (by lia));have f:=Ku (k:=k) hd t _ _ a.1 a.2 hx.1 hx.2;unfold cD at f;rw[rE] at f;exact f.mp this
  ·intro h e;have:=h e;unfold aU;rw[yq (by lia) (by lia)];have a:=hr _ (yp (fs:=r) (j:=p.1) (by lia) (by lia));have f:=Ku (k:=k) hd t _ _ a.1 a.2 hx.1 hx.2;unfold cD at f;rw[rE] at f;exact f.mpr this
 constructor
 ·intro h p hp;exact fu ((key p hp).mp (gG (h p hp)))
 ·intro h p hp;exact fu ((key p hp).mpr (gG (h p hp)))
theorem o_{k:Nat}:(cj k).Nodup:=by
 unfold cj;exact Dy.mpr (List.nodup_range.imp λh e=>h (by lia))
theorem zhH(w:Web n ps)(hd:1<=d)(hk:1<=k){r:List Int}(hr:∀x∈r,0<=x/\x<k)(t:Int):((nextR k d ps r).map (aU k t)).Perm (nextR k d ps (aU k t r)):=by
 unfold nextR;have e1:(((cj k.toNat).filter (kJ k d ps r)).map λx=>r++[x]).map (aU k t)=((((cj k.toNat).filter (kJ k d ps r)).map λx=>(x+t)%k).map λx=>aU k t r++[x]):=by
  rw[rG,rG];refine Qf λx _=>?_;show aU k t (r++[x])=aU k t r++[(x+t)%k];unfold aU;rw[mJ];rfl
 rw[e1];refine List.Perm.map _ ?_;have inj:∀a b:Int,0<=a->a<k->0<=b->b<k->(a+t)%k=(b+t)%k->a=b:=λa b a0 a1 b0 b1 e=>by
  have h1:((a+t)%k + -t)%k=a:=by rw[Vj,show a+t + -t=a by lia,Kw a0 a1]
  have h2:((b+t)%k + -t)%k=b:=by rw[Vj,show b+t + -t=b by lia,Kw b0 b1]
  rw[<-h1,<-h2,e]
 refine(List.perm_ext_iff_of_nodup ?_ (o_.filter _)).mpr λy=>?_
 ·refine Dy.mpr (List.Pairwise.imp_of_mem (λ{a b} ha hb h e=>?_) (o_.filter (kJ k d ps r)));have a1:=bB.mp (jD.mp ha).1;have b1:=bB.mp (jD.mp hb).1;exact h (inj a b (by lia) (by lia) (by lia) (by lia) e)
 ·constructor
  ·intro hy;obtain⟨x,hx,rfl⟩:=jE.mp hy;obtain⟨h1,h2⟩:=jD.mp hx;have h1:=bB.mp h1;have:=Vk (a:=x+t) (k:=k) (by lia);exact jD.mpr ⟨bB.mpr (by lia),by rw[zgY w hd hr t x (by lia)];exact h2⟩
  ·intro hy;obtain⟨h1,h2⟩:=jD.mp hy;have h1:=bB.mp h1;have hm:=Vk (a:=y + -t) (k:=k) (by lia);have ey:((y + -t)%k+t)%k=y:=by rw[Vj,show y + -t+t=y by lia,Kw (by lia) (by lia)]
   refine jE.mpr ⟨(y + -t)%k,jD.mpr ⟨bB.mpr (by lia),?_⟩,ey⟩;rw[<-zgY w hd hr t _ hm,ey];exact h2
theorem zjR(hk:1<=k){rows:List (List Int)}(h:∀r∈rows,∀x∈r,0<=x/\x<k):∀r∈grow k d ps rows,∀x∈r,0<=x/\x<k:=λr hr x hx=>by
 obtain⟨q,hq,y,hy,_,rfl⟩:=kO.mp hr;rcases jR.mp hx with hx|hx
 ·exact h q hq x hx
 ·have:x=y:=nJ.mp hx
  lia
theorem zdA(w:Web n ps)(hd:1<=d)(hk:1<=k)(t:Int):∀{rows:List (List Int)},(∀r∈rows,∀x∈r,0<=x/\x<k)->((grow k d ps rows).map (aU k t)).Perm (grow k d ps (rows.map (aU k t)))
 |[],_=>List.Perm.refl _
 |r::rows,h=>by
  have e1:grow k d ps (r::rows)=nextR k d ps r++grow k d ps rows:=by unfold grow;rw[wD]
  have e2:grow k d ps ((r::rows).map (aU k t))=nextR k d ps (aU k t r)++grow k d ps (rows.map (aU k t)):=by unfold grow;rw[g_,wD]
  rw[e1,e2,mJ];exact(zhH w hd hk (h r (by simp)) t).append (zdA w hd hk t λq hq=>h q (by simp[hq]))
theorem Ov(w:Web n ps)(hd:1<=d)(hk:1<=k)(t:Int){rows:List (List Int)}(h:∀r∈rows,∀x∈r,0<=x/\x<k):∀m,(∀r∈grows k d ps rows m,∀x∈r,0<=x/\x<k)/\((grows k d ps rows m).map (aU k t)).Perm (grows k d ps (rows.map (aU k t)) m)
 |0=>⟨h,List.Perm.refl _⟩
 |m+1=>by
  obtain⟨h1,h2⟩:=Ov w hd hk t h m;refine⟨zjR hk h1,?_⟩;show ((grow k d ps (grows k d ps rows m)).map (aU k t)).Perm (grow k d ps (grows k d ps (rows.map (aU k t)) m));refine(zdA w hd hk t h1).trans ?_;unfold grow;exact List.Perm.flatMap_right _ h2
theorem zdi{a b:List (List Int)}:∀m,grows k d ps (a++b) m=grows k d ps a m++grows k d ps b m
 |0=>rfl
 |m+1=>by
  show grow k d ps (grows k d ps (a++b) m)=grow k d ps (grows k d ps a m)++grow k d ps (grows k d ps b m);rw[zdi m];unfold grow;rw[Lg]
theorem zdQ:∀m,grows k d ps [] m=[]
 |0=>rfl
 |m+1=>by show grow k d ps (grows k d ps [] m)=[];rw[zdQ m];rfl
theorem zcD{rows:List (List Int)}:∀m,grows k d ps rows (m+1)=grows k d ps (grow k d ps rows) m
 |0=>rfl
 |m+1=>by
  show grow k d ps (grows k d ps rows (m+1))=grow k d ps (grows k d ps (grow k d ps rows) m);rw[zcD m]
theorem zbP(w:Web n ps)(hd:1<=d)(hk:1<=k)(m:Nat):(grows k d ps [[]] (m+1)).length=k.toNat*(grows k d ps [[0]] m).length:=by
 rw[zcD,zfC w];have one:∀x:Int,0<=x->x<k->(grows k d ps [[x]] m).length=(grows k d ps [[0]] m).length:=λx h0 h1=>by
  have:=(Ov w hd hk x (rows:=[[0]]) (λr hr y hy=>by
   rw[nJ.mp hr] at hy;have:y=0:=nJ.mp hy
   lia) m).2.length_eq
  rw[bO] at this;rw[this];have e:[[(0:Int)]].map (aU k x)=[[x]]:=by
   unfold aU;simp[Kw h0 h1]
  rw[e]
 have all:∀l:List Int,(∀x∈l,0<=x/\x<k)->(grows k d ps (l.map λx=>[x]) m).length=l.length*(grows k d ps [[0]] m).length:=λl=>by
  induction l with
  |nil=>intro _;rw[DW,zdQ];simp
  |cons x l ih=>
   intro h;rw[g_,show [x]::l.map (λx=>[x])=[[x]]++l.map (λx=>[x]) from rfl,zdi,iZ,one x (h x (by simp)).1 (h x (by simp)).2,ih λy hy=>h y (by simp[hy]),fX,Ar]
   lia
 rw[all _ λx hx=>by have:=bB.mp hx;lia]
 congr 1
 unfold cj;simp
end
section
variable {aq:Nat->Nat->Bool}{F:Fn}{J:Vs}{s:S}{P:Xv->S->Prop}
theorem Kar{α β:Type}{f:α->D}{l:List α}{f2:β->D}{l2:List β}{fz:Bool}{elt:E}{tg Iw:List Nat}{it zj:Wk}{fr:List Nat}{many:Nat}{cond:Eo}(g:α->β->Option D)(hc:l.length*l2.length<=sizeLine)
  (hw:W (iB aq true F it J) s λcn s1=>cn=(.fix (l.map f),(l.map f).length)/\s1=s)
  (hb:∀x∈l,sI (dj tg (f x) (blk many fr J)) λJ'=>(W (iB aq true F zj J') s λcn s1=>cn=(.fix (l2.map f2),(l2.map f2).length)/\s1=s)/\∀y∈l2,sI (dj Iw (f2 y) J') λJ2=>W (m9 aq true F cond J2) s λb s1=>s1=s/\(b=true->W (ev aq true F elt J2) s λv s2=>s2=s/\∃d,v=.d d/\g x y=some d)/\(b=false->g x y=none))
  (h:W (newL fz (l.flatMap λx=>l2.filterMap (g x))) s P):W (ev aq true F (.lU fz elt tg it Iw zj fr many cond) J) s P:=by
 change W (_root_.ite (true=true) _ _) s P
 rw[if_pos rfl];refine W.bd (hw.imp λcn s1=>?_);rintro⟨rfl,rfl⟩;refine W.bd ?_;refine W.walk (c:=l.map f) (λi acc s'=>s'=s1/\acc=(l.take i).flatMap λx=>l2.filterMap (g x)) ⟨rfl,rfl⟩ (λi x acc s' e hI=>?_) (λacc s' hI=>?_)
 ·obtain⟨rfl,rfl⟩:=hI;rw[fQ] at e;cases el:l[i]? with
  |none=>rw[el] at e;cases e
  |some y=>
   rw[el] at e;cases e;have hi:i<l.length:=(dO.mp el).1;have ht:l.take (i+1)=l.take i++[y]:=by rw[yN,el];rfl
   have hl0:∀m:List α,(m.flatMap λx=>l2.filterMap (g x)).length<=m.length*l2.length:=by
    intro m
    induction m with
    |nil=>simp
    |cons a r ih=>
     have:=Dl (g a) l2;simp only[wD,iZ,fX];rw[Ar]
     lia
   have hl1:(l.take i).length*l2.length+l2.length<=sizeLine:=by
    have:(l.take i).length+1<=l.length:=by rw[pI];lia
    have:=Ai l2.length this;rw[Ar] at this
    lia
   obtain⟨J',e1,Ky,Vm⟩:=hb y (eZ el);refine W.bd (W.opt e1 ?_);refine W.bd (W.qt (Ky.imp λcn s2=>?_));rintro⟨rfl,rfl⟩;refine W.walk (c:=l2.map f2) (λj acc s'=>s'=s2/\acc=((l.take i).flatMap λx=>l2.filterMap (g x))++(l2.take j).filterMap (g y)) ⟨rfl,by simp⟩ (λj x acc s' e hI=>?_) (λacc s' hI=>?_)
   ·obtain⟨rfl,rfl⟩:=hI;rw[fQ] at e;cases el2:l2[j]? with
    |none=>rw[el2] at e;cases e
    |some z=>
     rw[el2] at e;cases e;have hj:j<l2.length:=(dO.mp el2).1;have ht2:l2.take (j+1)=l2.take j++[z]:=by rw[yN,el2];rfl
     obtain⟨J2,e2,hv⟩:=Vm z (eZ el2);refine W.bd (W.opt e2 ?_);refine W.bd (W.qt (hv.imp λb s3=>?_));rintro⟨rfl,h1,h2⟩;cases b
     ·rw[if_neg (by decide)];refine W.ret ⟨rfl,?_⟩;rw[ht2,Dm];simp[h2 rfl]
     ·rw[if_pos rfl];refine W.bd (W.qt ((h1 rfl).imp λv s4=>?_));rintro⟨rfl,d,rfl,eg⟩;refine W.bd (W.dat ?_);have q1:=hl0 (l.take i);have q2:=Dl (g y) (l2.take j);rw[pI (i:=j)] at q2;rw[if_pos (by rw[iZ];lia)];refine W.ret ⟨rfl,?_⟩;rw[ht2,Dm,yL];simp[eg]
   ·obtain⟨rfl,rfl⟩:=hI;refine⟨rfl,?_⟩;rw[bO,tQ,ht,Lg];simp
 ·obtain⟨rfl,rfl⟩:=hI;rw[bO,tQ];exact h
end
section
variable {n k d:Int}{ps:List (Int×Int)}
noncomputable def cG(r:List Int):D:=.tup (r.map .int)
noncomputable def yu(ps:List (Int×Int))(i:Nat):List Int:=(bf i ps).filter λe=>decide (e<(i:Int))
theorem Vn(w:Web n ps){i:Nat}{e:Int}:e∈yu ps i↔(e,(i:Int))∈ps:=by
 unfold yu;rw[jD,FT w]
 constructor
 ·rintro⟨h|h,q⟩
  ·have:=w.tie _ h;have q:=gG q;dsimp only at this
   lia
  ·exact h
 ·intro h;have:=w.tie _ h;dsimp only at this;exact⟨.inr h,fu (by lia)⟩
theorem zjD(w:Web n ps)(hd:1<=d){r:List Int}{x:Int}:((yu ps r.length).all λe=>cD k d x (at' r e))=kJ k d ps r x:=by
 unfold kJ;rw[DQ,fj,fj]
 constructor
 ·intro h p hp;refine fu λe=>?_;obtain⟨a,b⟩:=p;dsimp only at e ⊢;subst e;have:=h a ((Vn w).mpr hp);rw[Oq hd] at this;unfold cD at this;rw[Dv] at this;exact this
 ·intro h e he;have hp:=(Vn w).mp he;have:=gG (h _ hp) rfl;rw[Oq hd];unfold cD;rw[Dv];exact this
theorem zha{m:Nat}:(grows k d ps [[0]] m).length<=k.toNat^m:=by
 induction m with
 |zero=>simp[grows]
 |succ m ih=>
  show (grow k d ps (grows k d ps [[0]] m)).length<=_;have:∀rows:List (List Int),(grow k d ps rows).length<=rows.length*k.toNat:=λrows=>by
   unfold grow
   induction rows with
   |nil=>simp
   |cons r rows ih2=>
    have e:(nextR k d ps r).length<=k.toNat:=by
     unfold nextR;rw[bO];refine jo (Ah _ _) ?_;unfold cj;simp
    rw[wD,iZ,fX,Ar]
    lia
  have h1:=this (grows k d ps [[0]] m);rw[Nat.pow_succ];exact jo h1 (Ai _ ih)
theorem zg7{m:Nat}:∀r∈grows k d ps [[0]] m,r.length=m+1:=by
 induction m with
 |zero=>intro r hr;rw[nJ.mp hr];rfl
 |succ m ih=>
  intro r hr;obtain⟨q,hq,x,_,_,rfl⟩:=kO.mp hr;simp[ih q hq]
end
section
variable {n k m:Int}{ps qs:List (Int×Int)}{A:Int->Int->Bool}
end
section
variable {n k d:Int}{ps:List (Int×Int)}
theorem Vo(w:Web n ps)(hk:1<=k):∀(m:Nat) r,r∈grows k d ps [[0]] m↔Pre k d ps (m+1) r/\at' r 0=0
 |0,r=>by
  show r∈[[0]]↔_;rw[nJ]
  constructor
  ·rintro rfl;refine⟨⟨rfl,λx hx=>by rw[nJ.mp hx];lia,λp hp hl=>?_⟩,rfl⟩;have:=w.tie p hp
   lia
  ·rintro⟨h,e⟩;have hl:=h.len
   match r,hl with
   |[x],_=>
    have:at' [x] 0=x:=rfl;rw[this] at e;rw[e]
 |m+1,r=>zii w hk (λr=>at' r 0=0) (λr x h0 hl=>by rw[oZ (by lia) (by lia)]) (by lia) (Vo w hk m) r
theorem zdT(w:Web n ps){h:List Int}:(nG n k d ps h/\at' h 0=0)↔Pre k d ps (n.toNat-1+1) h/\at' h 0=0:=by
 have h1:=w.h1
 constructor
 ·rintro⟨q,e⟩;exact⟨⟨by have:=q.len;lia,q.lo,λp hp _=>q.fit p hp⟩,e⟩
 ·rintro⟨q,e⟩;exact⟨⟨by have:=q.len;lia,q.lo,λp hp=>q.fit p hp (by have:=w.tie p hp;lia)⟩,e⟩
theorem zhX(w:Web n ps)(hd:1<=d)(hk:1<=k):0<(grows k d ps [[]] n.toNat).length↔∃h,nG n k d ps h:=by
 have h1:=w.h1;have e:=zbP w hd hk (n.toNat-1);rw[show n.toNat-1+1=n.toNat by lia] at e;rw[e]
 constructor
 ·intro h;have:0<(grows k d ps [[0]] (n.toNat-1)).length:=Nat.pos_of_mul_pos_left h;obtain⟨r,hr⟩:=List.exists_mem_of_length_pos this;exact⟨r,((zdT w).mpr ((Vo w hk _ r).mp hr)).1⟩
 ·rintro⟨h,hh⟩;have hl:=hh.len;have ht:=zgu (m:=-(at' h 0)) w hd hk hh;have e0:at' (aU k (-(at' h 0)) h) 0=0:=by
   unfold aU;rw[yq (by lia) (by lia),show at' h 0 + -(at' h 0)=0 by lia];exact Int.zero_emod k
  have:=(Vo w hk _ _).mpr ((zdT w).mp ⟨ht,e0⟩);exact Nat.mul_pos (by lia) (P0 this)
end
noncomputable def sm{α:Type}:List α->(α->Nat)->Nat
 |[],_=>0
 |a::l,f=>f a+sm l f
section
variable {α β:Type}
theorem zjo{f:α->Nat}{b:List α}:∀a:List α,sm (a++b) f=sm a f+sm b f
 |[]=>(Nat.zero_add _).symm
 |x::a=>by
  show f x+sm (a++b) f=f x+sm a f+sm b f;rw[zjo a];lia
theorem Dg{f:β->Nat}{g:α->β}:∀l:List α,sm (l.map g) f=sm l λa=>f (g a)
 |[]=>rfl
 |x::l=>by
  show f (g x)+sm (l.map g) f=_;rw[Dg l];rfl
theorem FW{f:β->Nat}{g:α->List β}:∀l:List α,sm (l.flatMap g) f=sm l λa=>sm (g a) f
 |[]=>rfl
 |x::l=>by
  rw[wD,zjo,FW l];rfl
theorem tO{f g:α->Nat}:∀{l:List α},(∀a∈l,f a=g a)->sm l f=sm l g
 |[],_=>rfl
 |x::l,h=>by
  show f x+sm l f=g x+sm l g;rw[h x (by simp),tO λa ha=>h a (by simp[ha])]
theorem Kz{f:α->Nat}{c:Nat}:∀l:List α,sm l (λa=>c*f a)=c*sm l f
 |[]=>(Nat.mul_zero _).symm
 |x::l=>by
  show c*f x+sm l (λa=>c*f a)=c*(f x+sm l f);rw[Kz l,Nat.mul_add]
theorem Vp{f g:α->Nat}:∀l:List α,sm l (λa=>f a+g a)=sm l f+sm l g
 |[]=>rfl
 |x::l=>by
  show f x+g x+sm l (λa=>f a+g a)=f x+sm l f+(g x+sm l g);rw[Vp l];lia
theorem zhB:∀l:List α,sm l (λ_=>0)=0
 |[]=>rfl
 |x::l=>by
  show 0+sm l (λ_=>0)=0;rw[zhB l]
theorem zgz{f:α->β->Nat}{m:List β}:∀l:List α,sm l (λa=>sm m (f a))=sm m λb=>sm l λa=>f a b
 |[]=>(zhB m).symm
 |x::l=>by
  show sm m (f x)+sm l (λa=>sm m (f a))=sm m λb=>f x b+sm l λa=>f a b;rw[zgz l,Vp]
theorem zkl{f:α->Nat}{a b:List α}(h:a.Perm b):sm a f=sm b f:=by
 induction h with
 |nil=>rfl
 |cons x _ ih=>show f x+_=f x+_;rw[ih]
 |swap x y l=>show f y+(f x+sm l f)=f x+(f y+sm l f);lia
 |trans _ _ h1 h2=>exact h1.trans h2
theorem KC{p:α->Bool}:∀l:List α,(l.filter p).length=sm l λa=>(p a).toNat
 |[]=>rfl
 |x::l=>by
  show _=(p x).toNat+sm l λa=>(p a).toNat;rw[sW,<-KC l];cases p x<;>simp<;>lia
theorem zff{f:α->Nat}{c:Nat}:∀{l:List α},(∀a∈l,f a=c)->sm l f=l.length*c
 |[],_=>(Nat.zero_mul _).symm
 |x::l,h=>by
  show f x+sm l f=(l.length+1)*c;rw[h x (by simp),zff λa ha=>h a (by simp[ha]),Ar];lia
theorem zlH{p:α->Bool}{f:α->List β}:∀l:List α,(l.filter p).flatMap f=l.flatMap λa=>if p a=true then f a else []
 |[]=>rfl
 |x::l=>by
  rw[sW,wD,<-zlH l];by_cases h:p x=true
  ·rw[if_pos h,if_pos h,wD]
  ·rw[if_neg h,if_neg h];rfl
end
theorem KD{α:Type}{f g:α->Bool}:∀{l:List α},(∀p∈l,f p=g p)->l.all f=l.all g
 |[],_=>rfl
 |a::l,h=>by rw[wG,wG,h a (by simp),KD λp hp=>h p (by simp[hp])]
noncomputable def allR(k:Nat):Nat->List (List Int)
 |0=>[[]]
 |m+1=>(allR k m).flatMap λr=>(cj k).map λx=>r++[x]
theorem wu{k:Nat}:∀{m:Nat} {r:List Int},r∈allR k m->r.length=m/\∀x∈r,0<=x/\x<k
 |0,r,h=>by
  rw[nJ.mp h];exact⟨rfl,λx hx=>nomatch hx⟩
 |m+1,r,h=>by
  obtain⟨q,hq,h2⟩:=List.mem_flatMap.mp h;obtain⟨x,hx,rfl⟩:=jE.mp h2;obtain⟨e1,e2⟩:=wu hq;refine⟨by simp[e1],λy hy=>?_⟩;rcases jR.mp hy with hy|hy
  ·exact e2 y hy
  ·rw[nJ.mp hy];exact bB.mp hx
theorem KH{k a:Nat}:∀b:Nat,allR k (a+b)=(allR k a).flatMap λr=>(allR k b).map λs=>r++s
 |0=>by
  show allR k a=(allR k a).flatMap λr=>[r++[]];simp
 |b+1=>by
  show (allR k (a+b)).flatMap _=(allR k a).flatMap λr=>((allR k b).flatMap _).map _;rw[KH b,List.flatMap_assoc]
  congr 1
  funext r
  rw[List.flatMap_map,List.map_flatMap]
  congr 1
  funext s
  rw[rG];refine Qf λx _=>?_;exact yL r s [x]
section
variable {n k d:Int}{ps:List (Int×Int)}
noncomputable def sS(k d:Int)(ps:List (Int×Int))(r:List Int):Bool:=ps.all λp=>decide (p.2<(r.length:Int)->d<=cT k (at' r p.1) (at' r p.2))
noncomputable def bV(k d:Int)(ps:List (Int×Int))(r:List Int):Bool:=ps.all λp=>decide (d<=cT k (at' r p.1) (at' r p.2))
theorem zdk(w:Web n ps)(r:List Int)(x:Int):sS k d ps (r++[x])=(sS k d ps r&&kJ k d ps r x):=by
 unfold sS kJ;rw[DQ,g8,fj,fj,fj];have el:((r++[x]).length:Int)=r.length+1:=by simp
 rw[el]
 constructor
 ·intro h;refine⟨λp hp=>fu λc=>?_,λp hp=>fu λc=>?_⟩
  ·have ht:=w.tie p hp;have:=gG (h p hp) (by lia)
   rwa [oZ (by lia) (by lia),oZ (by lia) (by lia)] at this
  ·have ht:=w.tie p hp;have:=gG (h p hp) (by lia)
   rwa [oZ (by lia) (by lia),c,J8] at this
 ·rintro⟨h1,h2⟩ p hp;refine fu λc=>?_;have ht:=w.tie p hp;by_cases e:p.2=(r.length:Int)
  ·have:=gG (h2 p hp) e
   rwa [oZ (by lia) (by lia),e,J8]
  ·have:=gG (h1 p hp) (by lia)
   rwa [oZ (by lia) (by lia),oZ (by lia) (by lia)]
theorem KJ(w:Web n ps):∀m,grows k d ps [[]] m=(allR k.toNat m).filter (sS k d ps)
 |0=>by
  refine(Lf.mpr λr hr=>?_).symm;rw[nJ.mp hr];exact fj.mpr λp hp=>fu λc=>by have:=w.tie p hp;simp at c;lia
 |m+1=>by
  show grow k d ps (grows k d ps [[]] m)=((allR k.toNat m).flatMap _).filter _;rw[KJ w m];unfold grow nextR;rw[zlH,List.filter_flatMap]
  congr 1
  funext r
  generalize cj k.toNat=l;by_cases c:sS k d ps r=true
  ·rw[if_pos c]
   induction l with
   |nil=>rfl
   |cons x l ih=>
    rw[g_,sW,sW,zdk w,c,Bool.true_and,<-ih]
    split<;>rfl
  ·rw[if_neg c];refine(List.filter_eq_nil_iff.mpr λq hq=>?_).symm;obtain⟨x,_,rfl⟩:=jE.mp hq;rw[zdk w,Bool.not_eq_true] at *;rw[c];rfl
theorem zmN(w:Web n ps){r:List Int}(h:(r.length:Int)=n):sS k d ps r=bV k d ps r:=
 KD λp hp=>rE.mpr ⟨λq=>q (by have:=w.tie p hp;lia),λq _=>q⟩
theorem Ox(w:Web n ps):grows k d ps [[]] n.toNat=(allR k.toNat n.toNat).filter (bV k d ps):=by
 rw[KJ w];refine List.filter_congr λr hr=>zmN w ?_;have:=(wu hr).1;have:=w.h1
 lia
theorem FZ(w:Web n ps):(grows k d ps [[]] n.toNat).length=sm (allR k.toNat n.toNat) λr=>(bV k d ps r).toNat:=by
 rw[Ox w,KC]
theorem zeU{qs:List (Int×Int)}{r:List Int}(h:∀p,p∈qs↔p∈ps):bV k d qs r=bV k d ps r:=by
 unfold bV;rw[DQ,fj,fj];exact⟨λq p hp=>q p ((h p).mpr hp),λq p hp=>q p ((h p).mp hp)⟩
theorem zj8{a b:Int}(w:Web n ((a,b)::ps)):(grows k d ps [[]] n.toNat).length=(grows k d ((a,b)::ps) [[]] n.toNat).length+((grows k d ps [[]] n.toNat).filter λr=>decide (cT k (at' r a) (at' r b)<d)).length:=by
 have w2:=Vl w (P_ _ _);rw[Ox w,Ox w2,List.filter_filter,KC,KC,KC,<-Vp];refine tO λr _=>?_;show (bV k d ps r).toNat=(decide (d<=cT k (at' r a) (at' r b))&&bV k d ps r).toNat+(decide (cT k (at' r a) (at' r b)<d)&&bV k d ps r).toNat;by_cases c:d<=cT k (at' r a) (at' r b)
 ·rw[fu c,nQ (by lia)];simp
 ·rw[nQ c,fu (by lia)];simp
end
section
variable {n1 n2 n k d:Int}{ps1 ps2 qs:List (Int×Int)}
theorem zjx(a b:Bool):(a&&b).toNat=a.toNat*b.toNat:=by cases a<;>cases b<;>rfl
theorem zfA(w1:Web n1 ps1)(w2:Web n2 ps2)(w:Web (n1+n2) qs)(h:∀r s:List Int,(r.length:Int)=n1->(s.length:Int)=n2->bV k d qs (r++s)=(bV k d ps1 r&&bV k d ps2 s)):(grows k d qs [[]] (n1+n2).toNat).length=(grows k d ps1 [[]] n1.toNat).length*(grows k d ps2 [[]] n2.toNat).length:=by
 have h1:=w1.h1;have h2:=w2.h1;rw[FZ w,FZ w1,FZ w2,show (n1+n2).toNat=n1.toNat+n2.toNat by lia,KH,FW,Nat.mul_comm,<-Kz];refine tO λr hr=>?_;rw[Dg,Nat.mul_comm,<-Kz];refine tO λs hs=>?_;have:=(wu hr).1;have:=(wu hs).1;rw[h r s (by lia) (by lia),zjx]
noncomputable def iR(i:Nat)(y:Int)(t:List Int):List Int:=t.take i++[y]++t.drop i
theorem zlQ{k m i:Nat}(hi:i<=m)(F:List Int->Nat):sm (allR k (m+1)) F=sm (cj k) λy=>sm (allR k m) λt=>F (iR i y t):=by
 obtain⟨j,rfl⟩ : ∃j,m=i+j:=⟨m-i,by lia⟩;rw[show i+j+1=(i+1)+j by lia,KH,FW];show sm ((allR k i).flatMap _) _=_;rw[FW];have e:∀y,sm (allR k (i+j)) (λt=>F (iR i y t))=sm (allR k i) λr=>sm (allR k j) λs=>F (r++[y]++s):=λy=>by
  rw[KH,FW];refine tO λr hr=>?_;rw[Dg];refine tO λs _=>?_;have hl:=(wu hr).1;unfold iR;rw[List.take_left' hl,List.drop_left' hl]
 rw[tO λy _=>e y,<-zgz];refine tO λr _=>?_;rw[Dg];refine tO λy _=>?_;rw[Dg]
theorem zgn:Web 1 []:=⟨by decide,by decide,λp hp=>(nomatch hp),List.Pairwise.nil,by decide⟩
theorem zgF(hk:1<=k)(t:Int)(m:Nat):((allR k.toNat m).map (aU k t)).Perm (allR k.toNat m):=by
 have e:∀m,grows k 1 [] [[]] m=allR k.toNat m:=λm=>by
  rw[KJ zgn];exact Lf.mpr λr _=>rfl
 have:=(Ov (d:=1) zgn (by lia) hk t (rows:=[[]]) (λr hr y hy=>by rw[nJ.mp hr] at hy;cases hy) m).2;rw[e] at this;exact this.trans (by rw[show [([]:List Int)].map (aU k t)=[[]] from rfl,e])
theorem zhf{n:Int}{ps:List (Int×Int)}(w:Web n ps)(hd:1<=d){r:List Int}(hl:(r.length:Int)=n)(hr:∀x∈r,0<=x/\x<k)(t:Int):bV k d ps (aU k t r)=bV k d ps r:=by
 unfold bV aU;refine KD λp hp=>?_;have ht:=w.tie p hp;have a:=hr _ (yp (fs:=r) (j:=p.1) (by lia) (by lia));have b:=hr _ (yp (fs:=r) (j:=p.2) (by lia) (by lia));rw[yq (by lia) (by lia),yq (by lia) (by lia)];exact Ku (k:=k) hd t _ _ a.1 a.2 b.1 b.2
theorem zds{x:Int}{i:Nat}(w1:Web n1 ps1)(w2:Web n2 ps2)(w:Web (n1+n2-1) qs)(hd:1<=d)(hk:1<=k)(hx:0<=x/\x<n1)(hi:(i:Int)<n2)
  (h:∀r t:List Int,(r.length:Int)=n1->(t.length:Int)=n2-1->bV k d qs (r++t)=(bV k d ps1 r&&bV k d ps2 (iR i (at' r x) t))):k.toNat*(grows k d qs [[]] (n1+n2-1).toNat).length=(grows k d ps1 [[]] n1.toNat).length*(grows k d ps2 [[]] n2.toNat).length:=by
 have h1:=w1.h1;have h2:=w2.h1;rw[FZ w,FZ w1,FZ w2,show (n1+n2-1).toNat=n1.toNat+(n2.toNat-1) by lia,KH,FW]
 let G:Int->Nat:=λy=>sm (allR k.toNat (n2.toNat-1)) λt=>(bV k d ps2 (iR i y t)).toNat
 have hG:∀y,0<=y->y<k->G y=G 0:=λy y0 yk=>by
  show sm (allR k.toNat (n2.toNat-1)) (λt=>(bV k d ps2 (iR i y t)).toNat)=sm (allR k.toNat (n2.toNat-1)) (λt=>(bV k d ps2 (iR i 0 t)).toNat);rw[<-zkl (zgF hk y (n2.toNat-1)),Dg];refine tO λt ht=>?_;obtain⟨hl,hr⟩:=wu ht;have e:iR i y (aU k y t)=aU k y (iR i 0 t):=by
   unfold iR aU;rw[mJ,mJ,Ly,List.map_drop,g_,DW,Int.zero_add,Kw y0 yk]
  rw[e,zhf w2 hd]
  ·unfold iR;simp
   lia
  ·intro z hz;unfold iR at hz;rcases jR.mp hz with hz|hz
   ·rcases jR.mp hz with hz|hz
    ·have:=hr z (Dn hz);lia
    ·rw[nJ.mp hz];lia
   ·have:=hr z (Gk hz);lia
 have e2:sm (allR k.toNat n2.toNat) (λr=>(bV k d ps2 r).toNat)=k.toNat*G 0:=by
  have:=zlQ (k:=k.toNat) (m:=n2.toNat-1) (i:=i) (by lia) λr=>(bV k d ps2 r).toNat;rw[show n2.toNat-1+1=n2.toNat by lia] at this;rw[this];have sl:(cj k.toNat).length=k.toNat:=by unfold cj;simp
  have:=zff (l:=cj k.toNat) (f:=G) (c:=G 0) λy hy=>hG y (by have:=bB.mp hy;lia) (by have:=bB.mp hy;lia);rw[sl] at this;exact this
 have e1:sm (allR k.toNat n1.toNat) (λr=>sm ((allR k.toNat (n2.toNat-1)).map λs=>r++s) λr=>(bV k d qs r).toNat)=G 0*sm (allR k.toNat n1.toNat) λr=>(bV k d ps1 r).toNat:=by
  rw[<-Kz];refine tO λr hr=>?_;obtain⟨hl,Oz⟩:=wu hr;have hy:=Oz _ (yp (fs:=r) (j:=x) (by lia) (by lia));rw[Dg,<-hG (at' r x) hy.1 (by lia),Nat.mul_comm];show _=_*sm _ _;rw[<-Kz];refine tO λt ht=>?_;have:=(wu ht).1;rw[h r t (by lia) (by lia),zjx]
 rw[e1,e2,<-Nat.mul_assoc,Nat.mul_comm]
end
end Mi
namespace eY
open PySem Mi
noncomputable def b0:cg:=(.cons (.ret (.and (.qQ (.v 0) .int) (.not (.qQ (.v 0) .bool)))) .nil)
noncomputable def b1:cg:=(.cons (.ret (.and (.call 0 (Ea (.v 0))) (.zp .le .le (.v 1) (.v 0) (.v 2)))) .nil)
noncomputable def b2:cg:=(.cons (.ret (.and (.qQ (.v 0) .tuple) (.pr true .eq (Eb (.pr true .len (Ea (.v 0))) (.v 1))))) .nil)
noncomputable def b3:cg:=(.cons (.iff (.pr true .gt (Eb (.v 0) (.v 1))) (.cons .no .nil) .nil) .nil)
noncomputable def b4:cg:=(.cons (.iff (.not (.call 2 (Eb (.v 0) (Ci 2)))) (.cons (.ret (.c (.bl false))) .nil) .nil) (.cons (.asg (.tp [1,2]) (.v 0)) (.cons (.iff (.or (.not (.call 6 (Ea (.v 1)))) (.not (.qQ (.v 2) .tuple))) (.cons (.ret (.c (.bl false))) .nil) .nil) (.cons (.iff (.not (.pr true .all (Ea (.comp true (.call 8 (Eb (.v 1) (.v 0))) [0] (.seq (.v 2)) [1] 1 .no)))) (.cons (.ret (.c (.bl false))) .nil) .nil) (.cons (.ret (.pr true .all (Ea (.comp true (.pr true .lt (Eb (.v 0) (.v 1))) [0,1] (.zip (.v 2) (.sl true (.v 2) (.yes (Ci 1)) .no)) [] 2 .no)))) .nil)))))
noncomputable def b5:cg:=(.cons (.iff (.not (.call 6 (Ea (.v 0)))) (.cons .no .nil) .nil) (.cons (.asg (.nm 2) (.lst false .nil)) (.cons (.fr (.tp [3,4]) (.enum (.v 1)) (.cons (.asg (.nm 5) (.call 9 (Eb (.v 0) (.v 4)))) (.cons (.iff (.or (.pr true .vU (Ea (.v 5))) (.pr true .inn (Eb (.v 5) (.v 2)))) (.cons .no .nil) .nil) (.cons (.ex (.push (.v 2) (.v 5))) .nil)))) (.cons (.ret (.tup (Eb (.v 0) (.pr true .tuple (Ea (.pr true .sorted (Ea (.v 2)))))))) .nil))))
noncomputable def b6:cg:=(.cons (.ret (.call 1 (Ec (.v 0) (Ci 1) (Ci 8)))) .nil)
noncomputable def b7:cg:=(.cons (.ret (.call 1 (Ec (.v 1) (Ci 0) (.pr true .aq (Eb (.v 0) (Ci 1)))))) .nil)
noncomputable def b8:cg:=(.cons (.iff (.not (.call 2 (Eb (.v 1) (Ci 2)))) (.cons (.ret (.c (.bl false))) .nil) .nil) (.cons (.asg (.tp [2,3]) (.v 1)) (.cons (.ret (.and (.call 7 (Eb (.v 0) (.v 2))) (.and (.call 7 (Eb (.v 0) (.v 3))) (.pr true .lt (Eb (.v 2) (.v 3)))))) .nil)))
noncomputable def b9:cg:=(.cons (.iff (.call 8 (Eb (.v 0) (.v 1))) (.cons (.ret (.v 1)) .nil) .nil) (.cons (.iff (.and (.call 2 (Eb (.v 1) (Ci 2))) (.call 8 (Eb (.v 0) (.pr true .rev (Ea (.v 1)))))) (.cons (.ret (.pr true .rev (Ea (.v 1)))) .nil) .nil) (.cons (.ret (.c .non)) .nil)))
noncomputable def b10:cg:=(.cons (.iff (.not (.call 4 (Ea (.v 0)))) (.cons .no .nil) .nil) .nil)
noncomputable def Vq:cg:=(.cons (.iff (.not (.call 7 (Eb (Ei (.v 0) (Ci 0)) (.v 1)))) (.cons .no .nil) .nil) .nil)
noncomputable def Vr:cg:=(.cons (.asg (.nm 2) (.comp true (.ite (.pr true .eq (Eb (.v 0) (.v 2))) (.v 1) (.v 0)) [0,1] (.seq (Ei (.v 0) (Ci 1))) [1] 2 (.yes (.pr true .inn (Eb (.v 2) (.tup (Eb (.v 0) (.v 1)))))))) (.cons (.ret (.pr true .tuple (Ea (.pr true .sorted (Ea (.v 2)))))) .nil))
noncomputable def Vt:cg:=(.cons (.ret (.comp true (.call 12 (Eb (.v 1) (.v 0))) [0] (.rg (Ci 0) (Ei (.v 0) (Ci 0))) [0] 1 .no)) .nil)
noncomputable def Vu:cg:=(.cons (.ret (.tup (.cons (.call 13 (Ea (.v 1))) (Ec (.pr true .Eu (Ea (.pr true .len (Ea (.v 2))))) (.v 2) (.v 3))))) .nil)
noncomputable def Vv:cg:=(.cons (.ret (Ei (Ei (.of (.v 0) 0 2) (.v 1)) (.v 2))) .nil)
noncomputable def Vw:cg:=(.cons (.asg (.nm 4) (.pr false .list (Ea (.v 1)))) (.cons (.asg (.aq (.v 4) (.v 2)) (.c .non)) (.cons (.fr (.nm 5) (.seq (Ei (.of (.v 0) 0 0) (.v 2))) (.cons (.iff (.pr true .tD (Ea (Ei (.v 4) (.v 5)))) (.cons (.asg (.aq (.v 4) (.v 5)) (.pr true .tuple (Ea (.comp true (.v 0) [0] (.seq (Ei (.v 4) (.v 5))) [0,3] 1 (.yes (.cm 0 15 (.v 1) (Eb (.v 2) (.v 0)))))))) .nil) .nil) .nil)) (.cons (.ret (.pr true .tuple (Ea (.v 4)))) .nil))))
noncomputable def Vx:cg:=(.cons (.ret (.pr true .len (Ea (.comp true (.v 0) [0] (.seq (Ei (.of (.v 0) 0 0) (.v 2))) [1] 1 (.yes (.pr true .tD (Ea (Ei (.v 1) (.v 0))))))))) .nil)
noncomputable def Vy:cg:=(.cons (.ret (.pr true .tuple (Ea (.comp true (.ite (.pr true .gt (Eb (.cm 0 17 (.v 2) (Eb (.v 3) (.v 0))) (Ci 0))) (.v 1) (.c .non)) [0,1] (.enum (.v 1)) [0,1] 2 .no)))) .nil)
noncomputable def Vz:cg:=(.cons (.asg (.nm 2) (.lst false .nil)) (.cons (.fr (.tp [3,4]) (.enum (.v 1)) (.cons (.iff (.pr true .tD (Ea (.v 4))) (.cons (.ex (.push (.v 2) (.tup (Ec (.pr true .len (Ea (.v 4))) (.pr true .neg (Ea (.cm 0 17 (.v 0) (Eb (.v 1) (.v 3))))) (.v 3))))) .nil) .nil) .nil)) (.cons (.ret (.ite (.Ew (.v 2)) (Ei (.pr true .rQ (Ea (.v 2))) (Ci 2)) (.c .non))) .nil)))
noncomputable def VB:cg:=(.cons (.ret (.pr true .all (Ea (.comp true (.or (.pr true .vU (Ea (.v 0))) (.pr true .eq (Eb (.v 0) (.of (.v 1) 0 1)))) [0] (.seq (.v 1)) [0] 1 .no)))) .nil)
noncomputable def VD:cg:=(.cons (.asg (.tp [2,3]) (.v 1)) (.cons (.asg (.nm 4) (.comp true (.pr true .ge (Eb (.pr true .min2 (Eb (.v 0) (.pr true .aq (Eb (.v 1) (.v 0))))) (.v 2))) [0] (.rg (Ci 0) (.v 2)) [2,3] 1 .no)) (.cons (.ret (.mk 0 14 (Ec (.v 0) (.comp true (.comp true (Ei (.v 1) (.pr true .aq (Eb (.v 2) (.v 0)))) [0] (.rg (Ci 0) (.v 1)) [2,0] 1 .no) [0] (.rg (Ci 0) (.v 2)) [2,4] 1 .no) (.c (.bl true))))) .nil)))
noncomputable def VF:cg:=(.cons (.iff (.not (.call 2 (Eb (.v 0) (Ci 2)))) (.cons (.ret (.c (.bl false))) .nil) .nil) (.cons (.asg (.tp [1,2]) (.v 0)) (.cons (.ret (.and (.call 1 (Ec (.v 1) (Ci 1) (Ci 24))) (.call 1 (Ec (.v 2) (Ci 1) (.v 1))))) .nil)))
noncomputable def VG:cg:=(.cons (.iff (.not (.call 22 (Ea (.v 0)))) (.cons .no .nil) .nil) .nil)
noncomputable def VH:cg:=(.cons (.asg (.nm 2) (.call 25 (Eb (.v 0) (.v 1)))) (.cons (.ret (.pr true .mul (Eb (Ei (.v 1) (Ci 0)) (.v 2)))) .nil))
noncomputable def VJ:cg:=(.cons (.ex (.call 26 (Eb (.v 0) (.v 1)))) (.cons (.ret (.pr true .len (Ea (.call 27 (Eb (.v 0) (.v 1)))))) .nil))
noncomputable def VL:cg:=(.cons (.ex (.call 10 (Ea (.v 0)))) (.cons (.ex (.call 23 (Ea (.v 1)))) (.cons (.ex (.call 3 (Eb (Ei (.v 0) (Ci 0)) (Ci 6)))) (.cons (.ex (.call 3 (Eb (Ei (.v 1) (Ci 0)) (Ci 8)))) .nil))))
noncomputable def VN:cg:=(.cons (.asg (.nm 2) (.call 21 (Eb (.v 0) (.v 1)))) (.cons (.asg (.nm 3) (.lst true (Ea (.tup (Ea (Ci 0)))))) (.cons (.fr (.nm 4) (.rg (Ci 1) (Ei (.v 0) (Ci 0))) (.cons (.asg (.nm 5) (.comp true (.v 0) [0] (.seq (Ei (.of (.v 2) 0 0) (.v 4))) [4] 1 (.yes (.pr true .lt (Eb (.v 0) (.v 1)))))) (.cons (.asg (.nm 3) (.lU true (.pr true .add (Eb (.v 0) (.tup (Ea (.v 1))))) [0] (.seq (.v 3)) [1] (.seq (.of (.v 2) 0 1)) [2,5] 2 (.yes (.call 28 (.cons (.v 2) (Ec (.v 0) (.v 3) (.v 1))))))) .nil))) (.cons (.ret (.v 3)) .nil))))
noncomputable def VP:cg:=(.cons (.ret (.pr true .all (Ea (.comp true (.cm 0 15 (.v 1) (Eb (.v 2) (Ei (.v 3) (.v 0)))) [0] (.seq (.v 2)) [0,3,1] 1 .no)))) .nil)
noncomputable def VR:cg:=(.cons (.ex (.call 10 (Ea (.v 0)))) (.cons (.ex (.call 11 (Eb (.v 0) (.v 1)))) (.cons (.ex (.call 11 (Eb (.v 0) (.v 2)))) (.cons (.asg (.nm 3) (.call 9 (Eb (Ei (.v 0) (Ci 0)) (.tup (Eb (.v 1) (.v 2)))))) (.cons (.iff (.pr true .nin (Eb (.v 3) (Ei (.v 0) (Ci 1)))) (.cons .no .nil) .nil) (.cons (.ret (.call 5 (Eb (Ei (.v 0) (Ci 0)) (.comp true (.v 0) [0] (.seq (Ei (.v 0) (Ci 1))) [3] 1 (.yes (.pr true .ne (Eb (.v 0) (.v 1)))))))) .nil))))))
noncomputable def V0:cg:=(.cons (.ex (.call 10 (Ea (.v 0)))) (.cons (.ex (.call 10 (Ea (.v 1)))) (.cons (.ret (.call 32 (.cons (.v 0) (Ec (.v 1) (.call 33 (Eb (.v 0) (.v 1))) (.lst true .nil))))) .nil)))
noncomputable def V1:cg:=(.cons (.ex (.call 10 (Ea (.v 0)))) (.cons (.ex (.call 10 (Ea (.v 1)))) (.cons (.ex (.call 11 (Eb (.v 0) (.v 2)))) (.cons (.ex (.call 11 (Eb (.v 1) (.v 3)))) (.cons (.ret (.call 32 (.cons (.v 0) (Ec (.v 1) (.call 34 (.cons (.v 1) (Ec (.v 3) (.v 2) (Ei (.v 0) (Ci 0))))) (.lst true .nil))))) .nil)))))
noncomputable def V2:cg:=(.cons (.asg (.nm 4) (.pr true .max2 (Eb (Ei (.v 0) (Ci 0)) (.pr true .add (Eb (.pr true .rP (Ea (.v 2))) (Ci 1)))))) (.cons (.ex (.call 3 (Eb (.v 4) (Ci 8)))) (.cons (.ret (.call 5 (Eb (.v 4) (.pr true .add (Eb (.pr true .add (Eb (.pr true .list (Ea (Ei (.v 0) (Ci 1)))) (.call 35 (Eb (Ei (.v 1) (Ci 1)) (.v 2))))) (.v 3)))))) .nil)))
noncomputable def V3:cg:=(.cons (.ret (.comp true (.pr true .add (Eb (Ei (.v 1) (Ci 0)) (.v 0))) [0] (.rg (Ci 0) (Ei (.v 1) (Ci 0))) [0] 1 .no)) .nil)
noncomputable def V4:cg:=(.cons (.asg (.nm 4) (.comp true (.pr true .add (Eb (.v 1) (.v 0))) [0] (.rg (Ci 0) (.pr true .aq (Eb (Ei (.v 0) (Ci 0)) (Ci 1)))) [3] 1 .no)) (.cons (.ret (.pr true .add (Eb (.pr true .add (Eb (.sl true (.v 4) .no (.yes (.v 1))) (.lst true (Ea (.v 2))))) (.sl true (.v 4) (.yes (.v 1)) .no)))) .nil))
noncomputable def V5:cg:=(.cons (.ret (.comp true (.tup (Eb (Ei (.v 2) (.v 0)) (Ei (.v 2) (.v 1)))) [0,1] (.seq (.v 0)) [1] 2 .no)) .nil)
noncomputable def V6:cg:=(.cons (.ex (.call 10 (Ea (.v 0)))) (.cons (.ex (.call 23 (Ea (.v 1)))) (.cons (.asg (.nm 2) (.call 21 (Eb (.v 0) (.v 1)))) (.cons (.ret (.call 37 (Eb (.v 2) (.comp true (.of (.v 1) 0 1) [0] (.rg (Ci 0) (Ei (.v 0) (Ci 0))) [2] 1 .no)))) .nil))))
noncomputable def V7:cg:=(.cons (.asg (.nm 2) (.pr true .tuple (Ea (.v 1)))) (.cons (.asg (.nm 3) .rT) (.cons (.iff (.not (.call 39 (Ec (.v 0) (.v 3) (.v 2)))) (.cons (.ret (.c .non)) .nil) .nil) (.cons (.asg (.nm 4) (.lst false .nil)) (.cons (.fr (.nm 5) (.rg (Ci 0) (.pr true .len (Ea (.v 1)))) (.cons (.asg (.nm 6) (.call 38 (.cons (.v 0) (Ec (.v 3) (.v 2) (.v 5))))) (.cons (.asg (.nm 2) (.cm 0 16 (.v 0) (Ec (.v 2) (.v 5) (.v 6)))) (.cons (.ex (.push (.v 4) (.v 6))) .nil)))) (.cons (.ret (.pr true .tuple (Ea (.v 4)))) .nil))))))
noncomputable def OD:cg:=(.cons (.fr (.nm 4) (.seq (Ei (.v 2) (.v 3))) (.cons (.iff (.call 39 (Ec (.v 0) (.v 1) (.cm 0 16 (.v 0) (Ec (.v 2) (.v 3) (.v 4))))) (.cons (.ret (.v 4)) .nil) .nil) .nil)) (.cons (.ret (.c .non)) .nil))
noncomputable def V8:cg:=(.cons (.iff (.pr true .inn (Eb (.tup .nil) (.v 2))) (.cons (.ret (.c (.bl false))) .nil) .nil) (.cons (.asg (.nm 3) (.cm 0 18 (.v 0) (Ea (.v 2)))) (.cons (.iff (.BZ false (.v 3) (.v 1)) (.cons (.dput (.v 1) (.v 3) (.call 40 (Ec (.v 0) (.v 1) (.v 3)))) .nil) .nil) (.cons (.ret (.pY (.v 1) (.v 3))) .nil))))
noncomputable def KN:cg:=(.cons (.asg (.nm 3) (.cm 0 19 (.v 0) (Ea (.v 2)))) (.cons (.iff (.pr true .vU (Ea (.v 3))) (.cons (.ret (.c (.bl true))) .nil) .nil) (.cons (.iff (.and (.of (.v 0) 0 3) (.cm 0 20 (.v 0) (Ea (.v 2)))) (.cons (.ret (.call 39 (Ec (.v 0) (.v 1) (.cm 0 16 (.v 0) (Ec (.v 2) (.v 3) (Ci 0)))))) .nil) .nil) (.cons (.ret (.pr true .tD (Ea (.call 38 (.cons (.v 0) (Ec (.v 1) (.v 2) (.v 3))))))) .nil))))
noncomputable def V9:cg:=(.cons (.iff (.pr true .lt (Eb (.v 1) (.pr true .len (Ea (.v 0))))) (.cons (.ret (Ei (.v 0) (.v 1))) .nil) .nil) (.cons (.ret (Ci 0)) .nil))
noncomputable def V_:cg:=(.cons (.asg (.nm 1) (.pr true .max2 (Eb (.v 0) (.pr true .aq (Eb (Ci 0) (.v 0)))))) (.cons (.ret (.lst false (Eb (.v 1) (.pr true .xr (Ea (.pr true .ge (Eb (.v 1) (.pr true .pow (Eb (Ci 10) (Ci 18)))))))))) .nil))
noncomputable def Wa:cg:=(.cons (.iff (.pr true .eq (Eb (Ei (.v 0) (Ci 1)) (Ci 1))) (.cons (.asg (.tp [2,3]) (.pr true .divmod (Eb (Ei (.v 0) (Ci 0)) (.v 1)))) (.cons (.asg (.aq (.v 0) (Ci 0)) (.v 2)) (.cons (.ret (.v 3)) .nil))) .nil) (.cons (.asg (.nm 4) (.pr true .mod (Eb (.pr true .mul (Eb (.pr true .add (Eb (.pr true .mod (Eb (Ei (.v 0) (Ci 0)) (Ci 2147483647))) (Ci 40503))) (Ci 69621))) (Ci 2147483629)))) (.cons (.asg (.nm 4) (.pr true .mod (Eb (.pr true .add (Eb (.pr true .mul (Eb (.v 4) (.v 4))) (Ci 7817))) (Ci 2147483587)))) (.cons (.asg (.aq (.v 0) (Ci 0)) (.pr true .mod (Eb (.pr true .add (Eb (.pr true .mul (Eb (.v 4) (Ci 48271))) (Ci 11))) (Ci 2147483629)))) (.cons (.ret (.pr true .mod (Eb (.pr true .fdiv (Eb (Ei (.v 0) (Ci 0)) (Ci 32))) (.v 1)))) .nil)))))
noncomputable def Wb:cg:=(.cons (.asg (.nm 2) (Ei (.lst true (Ec (Ci 2) (Ci 4) (Ci 6))) (.call 43 (Eb (.v 0) (Ci 3))))) (.cons (.asg (.nm 3) (.lst true .nil)) (.cons (.fr (.nm 4) (.rg (Ci 0) (.v 1)) (.cons (.asg (.nm 3) (.pr true .add (Eb (.v 3) (.comp true (.tup (Eb (.v 1) (.v 0))) [0] (.rg (.pr true .add (Eb (.v 4) (Ci 1))) (.v 1)) [4,0,2] 1 (.yes (.pr true .lt (Eb (.call 43 (Eb (.v 2) (Ci 8))) (.v 3)))))))) .nil)) (.cons (.ret (.tup (Eb (.v 1) (.pr true .tuple (Ea (.v 3)))))) .nil))))
noncomputable def b45:cg:=(.cons (.asg (.nm 3) (.pr true .abs (Ea (.pr true .aq (Eb (.v 1) (.v 2)))))) (.cons (.ret (.pr true .min2 (Eb (.v 3) (.pr true .aq (Eb (.v 0) (.v 3)))))) .nil))
noncomputable def Wc:cg:=(.cons (.asg (.nm 2) (.lst true (Ea (.tup .nil)))) (.cons (.fr (.nm 3) (.rg (Ci 0) (Ei (.v 0) (Ci 0))) (.cons (.asg (.nm 4) (.comp true (Ei (.v 0) (Ci 0)) [0] (.seq (Ei (.v 0) (Ci 1))) [3] 1 (.yes (.pr true .eq (Eb (Ei (.v 0) (Ci 1)) (.v 1)))))) (.cons (.asg (.nm 5) (.lst false .nil)) (.cons (.fr (.nm 6) (.seq (.v 2)) (.cons (.fr (.nm 7) (.rg (Ci 0) (Ei (.v 1) (Ci 0))) (.cons (.iff (.pr true .eq (Eb (.comp true (.v 0) [0] (.seq (.v 4)) [1,6,7] 1 (.yes (.pr true .lt (Eb (.call 45 (Ec (Ei (.v 1) (Ci 0)) (Ei (.v 2) (.v 0)) (.v 3))) (Ei (.v 1) (Ci 1)))))) (.lst true .nil))) (.cons (.ex (.push (.v 5) (.pr true .add (Eb (.v 6) (.tup (Ea (.v 7))))))) .nil) .nil) .nil)) .nil)) (.cons (.asg (.nm 2) (.v 5)) .nil))))) (.cons (.ret (.v 2)) .nil)))
noncomputable def Wd:cg:=(.cons (.asg (.nm 1) (.lst true (.cons (.tup (Eb (Ci 2) (Ci 1))) (.cons (.tup (Eb (Ci 3) (Ci 1))) (.cons (.tup (Eb (Ci 4) (Ci 1))) (.cons (.tup (Eb (Ci 5) (Ci 2))) (.cons (.tup (Eb (Ci 5) (Ci 1))) (.cons (.tup (Eb (Ci 4) (Ci 2))) (.cons (.tup (Eb (Ci 6) (Ci 2))) (.cons (.tup (Eb (Ci 7) (Ci 3))) (.cons (.tup (Eb (Ci 7) (Ci 2))) (Ec (.tup (Eb (Ci 8) (Ci 3))) (.tup (Eb (Ci 3) (Ci 2))) (.tup (Eb (Ci 1) (Ci 1))))))))))))))) (.cons (.ret (Ei (.v 1) (.call 43 (Eb (.v 0) (Ci 12))))) .nil))
noncomputable def Wf:cg:=(.cons (.iff (.pr true .eq (Eb (Ei (.v 0) (Ci 1)) (.tup .nil))) (.cons (.ret (.c (.bl true))) .nil) .nil) (.cons (.asg (.tp [2,3]) (Ei (Ei (.v 0) (Ci 1)) (Ci 0))) (.cons (.asg (.nm 4) (.call 29 (Ec (.v 0) (.v 2) (.v 3)))) (.cons (.asg (.nm 5) (.comp true (.v 0) [0] (.seq (.call 46 (Eb (.v 4) (.v 1)))) [1,2,3] 1 (.yes (.pr true .lt (Eb (.call 45 (Ec (Ei (.v 1) (Ci 0)) (Ei (.v 0) (.v 2)) (Ei (.v 0) (.v 3)))) (Ei (.v 1) (Ci 1))))))) (.cons (.ret (.pr true .eq (Eb (.call 24 (Eb (.v 4) (.v 1))) (.pr true .add (Eb (.call 24 (Eb (.v 0) (.v 1))) (.pr true .len (Ea (.v 5)))))))) .nil)))))
noncomputable def Wg:cg:=(.cons (.fr (.nm 1) (.seq (.pr true .add (Eb (.lst true (Ea (.call 41 (Eb (.v 0) (Ci 0))))) (.sl true (.v 0) (.yes (Ci 1)) (.yes (Ci 3)))))) (.cons (.asg (.nm 2) (.call 42 (Ea (.v 1)))) (.cons (.par 3 4 (.call 44 (Eb (.v 2) (.pr true .add (Eb (Ci 1) (.call 43 (Eb (.v 2) (Ci 3))))))) (.call 44 (Eb (.v 2) (.pr true .add (Eb (Ci 1) (.call 43 (Eb (.v 2) (Ci 3)))))))) (.cons (.asg (.nm 5) (.call 47 (Ea (.v 2)))) (.cons (.asg (.nm 6) (.pr true .mul (Eb (.call 24 (Eb (.v 3) (.v 5))) (.call 24 (Eb (.v 4) (.v 5)))))) (.cons (.iff (.pr true .ne (Eb (.call 24 (Eb (.call 30 (Eb (.v 3) (.v 4))) (.v 5))) (.v 6))) (.cons (.ret (.c (.bl false))) .nil) .nil) (.cons (.par 7 8 (.call 43 (Eb (.v 2) (Ei (.v 3) (Ci 0)))) (.call 43 (Eb (.v 2) (Ei (.v 4) (Ci 0))))) (.cons (.iff (.pr true .ne (Eb (.pr true .mul (Eb (Ei (.v 5) (Ci 0)) (.call 24 (Eb (.call 31 (.cons (.v 3) (Ec (.v 4) (.v 7) (.v 8)))) (.v 5))))) (.v 6))) (.cons (.ret (.c (.bl false))) .nil) .nil) (.cons (.asg (.nm 9) (.call 44 (Eb (.v 2) (.pr true .add (Eb (Ci 2) (.call 43 (Eb (.v 2) (Ci 3)))))))) (.cons (.iff (.not (.call 48 (Eb (.v 9) (.v 5)))) (.cons (.ret (.c (.bl false))) .nil) .nil) (.cons (.iff (.pr true .ne (Eb (.pr true .gt (Eb (.call 24 (Eb (.v 9) (.v 5))) (Ci 0))) (.pr true .tD (Ea (.call 36 (Eb (.v 9) (.v 5))))))) (.cons (.ret (.c (.bl false))) .nil) .nil) .nil))))))))))) (.cons (.ret (.c (.bl true))) .nil))
noncomputable def T(n:Nat):Option Df:=([⟨1,1,b0⟩,⟨3,3,b1⟩,⟨2,2,b2⟩,⟨2,2,b3⟩,⟨3,1,b4⟩,⟨6,2,b5⟩,⟨1,1,b6⟩,⟨2,2,b7⟩,⟨4,2,b8⟩,⟨2,2,b9⟩,⟨1,1,b10⟩,⟨2,2,Vq⟩,⟨3,2,Vr⟩,⟨1,1,Vt⟩,⟨4,4,Vu⟩,⟨3,3,Vv⟩,⟨6,4,Vw⟩,⟨3,3,Vx⟩,⟨2,2,Vy⟩,⟨5,2,Vz⟩,⟨2,2,VB⟩,⟨5,2,VD⟩,⟨3,1,VF⟩,⟨1,1,VG⟩,⟨3,2,VH⟩,⟨2,2,VJ⟩,⟨2,2,VL⟩,⟨6,2,VN⟩,⟨4,4,VP⟩,⟨4,3,VR⟩,⟨2,2,V0⟩,⟨4,4,V1⟩,⟨5,4,V2⟩,⟨2,2,V3⟩,⟨5,4,V4⟩,⟨2,2,V5⟩,⟨3,2,V6⟩,⟨7,2,V7⟩,⟨5,4,OD⟩,⟨4,3,V8⟩,⟨4,3,KN⟩,⟨2,2,V9⟩,⟨2,1,V_⟩,⟨5,2,Wa⟩,⟨5,2,Wb⟩,⟨4,3,b45⟩,⟨8,2,Wc⟩,⟨2,1,Wd⟩,⟨6,2,Wf⟩,⟨10,1,Wg⟩]:List Df)[n]?
theorem T_0:T 0=some ⟨1,1,b0⟩:=rfl
theorem T_1:T 1=some ⟨3,3,b1⟩:=rfl
theorem T_2:T 2=some ⟨2,2,b2⟩:=rfl
theorem T_3:T 3=some ⟨2,2,b3⟩:=rfl
theorem T_4:T 4=some ⟨3,1,b4⟩:=rfl
theorem T_5:T 5=some ⟨6,2,b5⟩:=rfl
theorem T_6:T 6=some ⟨1,1,b6⟩:=rfl
theorem T_7:T 7=some ⟨2,2,b7⟩:=rfl
theorem Wh:T 8=some ⟨4,2,b8⟩:=rfl
theorem T_9:T 9=some ⟨2,2,b9⟩:=rfl
theorem zpH:T 10=some ⟨1,1,b10⟩:=rfl
theorem zpA:T 11=some ⟨2,2,Vq⟩:=rfl
theorem zpP:T 12=some ⟨3,2,Vr⟩:=rfl
theorem zpr:T 13=some ⟨1,1,Vt⟩:=rfl
theorem zpx:T 14=some ⟨4,4,Vu⟩:=rfl
theorem zpy:T 15=some ⟨3,3,Vv⟩:=rfl
theorem zpa:T 16=some ⟨6,4,Vw⟩:=rfl
theorem zpO:T 17=some ⟨3,3,Vx⟩:=rfl
theorem zpE:T 18=some ⟨2,2,Vy⟩:=rfl
theorem zpi:T 19=some ⟨5,2,Vz⟩:=rfl
theorem zpl:T 20=some ⟨2,2,VB⟩:=rfl
theorem zpM:T 21=some ⟨5,2,VD⟩:=rfl
theorem zpo:T 22=some ⟨3,1,VF⟩:=rfl
theorem zpJ:T 23=some ⟨1,1,VG⟩:=rfl
theorem zo9:T 24=some ⟨3,2,VH⟩:=rfl
theorem zpF:T 25=some ⟨2,2,VJ⟩:=rfl
theorem zpK:T 26=some ⟨2,2,VL⟩:=rfl
theorem zpf:T 27=some ⟨6,2,VN⟩:=rfl
theorem zpb:T 28=some ⟨4,4,VP⟩:=rfl
theorem zpp:T 29=some ⟨4,3,VR⟩:=rfl
theorem zpm:T 30=some ⟨2,2,V0⟩:=rfl
theorem zo7:T 31=some ⟨4,4,V1⟩:=rfl
theorem zpq:T 32=some ⟨5,4,V2⟩:=rfl
theorem zpL:T 33=some ⟨2,2,V3⟩:=rfl
theorem zpg:T 34=some ⟨5,4,V4⟩:=rfl
theorem zpj:T 35=some ⟨2,2,V5⟩:=rfl
theorem zpn:T 36=some ⟨3,2,V6⟩:=rfl
theorem zps:T 37=some ⟨7,2,V7⟩:=rfl
theorem Wi:T 38=some ⟨5,4,OD⟩:=rfl
theorem zph:T 39=some ⟨4,3,V8⟩:=rfl
theorem OJ:T 40=some ⟨4,3,KN⟩:=rfl
theorem zpv:T 41=some ⟨2,2,V9⟩:=rfl
theorem zpD:T 42=some ⟨2,1,V_⟩:=rfl
theorem zpB:T 43=some ⟨5,2,Wa⟩:=rfl
theorem zpc:T 44=some ⟨5,2,Wb⟩:=rfl
theorem zpT:T 45=some ⟨4,3,b45⟩:=rfl
theorem zpN:T 46=some ⟨8,2,Wc⟩:=rfl
theorem zpt:T 47=some ⟨2,1,Wd⟩:=rfl
theorem zpI:T 48=some ⟨6,2,Wf⟩:=rfl
theorem zpd:T 49=some ⟨10,1,Wg⟩:=rfl
noncomputable def aq:Nat->Nat->Bool:=λc e=>(let n:=λc=>if c<0 then c else 0;n e==0||n c==n e)
end eY
namespace eY
open PySem PySem.Spec PyProof.Rows L2 Mi
abbrev LK(i:Nat)(x:Str)(k:NameKind):Prop:=(au (top i)).names.lookup x=some k
noncomputable abbrev gI:NameKind:=.globalImplicit
abbrev N4:List Str:=["thing","many","ties"]
abbrev N12:List Str:=["web","place","ends"]
abbrev N13:List Str:=["web"]
abbrev N16:List Str:=["self","free","place","spot","left","end"]
abbrev N17:List Str:=["self","free","place"]
abbrev N18:List Str:=["self","free"]
abbrev N20:List Str:=["self","free"]
abbrev Wj:List Str:=["web","ring","k","d","wide"]
abbrev Wm:List Str:=["web","ring","board","rows","place","ahead"]
abbrev N28:List Str:=["board","row","ahead","spot"]
abbrev N29:List Str:=["web","one","other","tie"]
abbrev N33:List Str:=["one","other"]
abbrev N34:List Str:=["web","place","name","start","behind"]
abbrev N35:List Str:=["ties","names"]
abbrev N36:List Str:=["web","ring","board"]
abbrev N44:List Str:=["_law_pen_here","_law_many","_law_often","_law_ties","_law_one"]
abbrev Wn:List Str:=["_law_web_here","_law_ring","_law_rows","_law_place","_law_back","_law_more","_law_row","_law_spot"]
abbrev N48:List Str:=["_law_web_here","_law_ring","_law_one","_law_other","_law_fewer","_law_near"]
noncomputable def cl(K:W.Frag):Cl:=⟨jf (lk.L K),λ_=>[],λ_=>eN K "Board",λ_=>["ends","spots","apart","alike"]⟩
structure Top(K:W.Frag)(mg:Str->Option Value):Prop where
 d0:D3 K mg "is_whole" (top 8) ["thing"]
 d1:D3 K mg "is_within" (top 9) ["thing","least","most"]
 d2:D3 K mg "is_row" (top 10) ["thing","many"]
 d3:D3 K mg "check_most" (top 11) ["many","most"]
 d4:D3 K mg "is_web" (top 14) ["thing"]
 d5:D3 K mg "web_of" (top 15) ["many","things"]
 d6:D3 K mg "is_many" (top 16) ["thing"]
 d7:D3 K mg "is_place" (top 17) ["many","thing"]
 d8:D3 K mg "is_tie" (top 18) ["many","thing"]
 d9:D3 K mg "tie_by" (top 19) ["many","thing"]
 yw:D3 K mg "check_web" (top 20) ["thing"]
 Ga:D3 K mg "check_place" (top 21) ["web","thing"]
 Wo:D3 K mg "tied_to" (top 22) ["web","place"]
 Wq:D3 K mg "all_ends" (top 23) ["web"]
 O1:D3 K mg "ring_board" (top 26) ["web","ring"]
 Wr:D3 K mg "is_ring" (top 29) ["thing"]
 O2:D3 K mg "check_ring" (top 30) ["thing"]
 yx:D3 K mg "hues_many" (top 34) ["web","ring"]
 Ws:D3 K mg "fixed_many" (top 35) ["web","ring"]
 Wt:D3 K mg "check_few" (top 36) ["web","ring"]
 Wu:D3 K mg "fixed_rows" (top 37) ["web","ring"]
 Wv:D3 K mg "is_free" (top 38) ["board","row","ahead","spot"]
 Ww:D3 K mg "untied" (top 40) ["web","one","other"]
 Wx:D3 K mg "put_beside" (top 41) ["one","other"]
 Wy:D3 K mg "put_together" (top 42) ["one","other","place","there"]
 O4:D3 K mg "joined" (top 43) ["one","other","names","between"]
 Wz:D3 K mg "names_behind" (top 44) ["one","other"]
 WD:D3 K mg "names_but" (top 45) ["web","place","name","start"]
 WK:D3 K mg "renamed" (top 46) ["ties","names"]
 WL:D3 K mg "first_hues" (top 48) ["web","ring"]
 WM:D3 K mg "first_among" (top 49) ["board","choices"]
 O5:D3 K mg "first_spot" (top 50) ["board","answers","free","place"]
 KQ:D3 K mg "can_settle" (top 51) ["board","answers","free"]
 WQ:D3 K mg "search" (top 52) ["board","answers","free"]
 WR:D3 K mg "_law_cell" (top 54) ["_law_script","_law_k"]
 WT:D3 K mg "_law_pen" (top 55) ["_law_cell_here"]
 wz:D3 K mg "_law_draw" (top 56) ["_law_pen_here","_law_many"]
 KR:D3 K mg "_law_web" (top 57) ["_law_pen_here","_law_many"]
 O6:D3 K mg "_law_apart" (top 58) ["_law_k","_law_one","_law_other"]
 WW:D3 K mg "_law_all_hues" (top 59) ["_law_web_here","_law_ring"]
 WX:D3 K mg "_law_small_ring" (top 60) ["_law_pen_here"]
 WY:D3 K mg "_law_tie_right" (top 61) ["_law_web_here","_law_ring"]
 O7:D3 K mg "law" (top 62) ["_law_script"]
 eF:∃t,mg "MOST_PLACES"=some (.int 8 t)
 iU:∃t,mg "MOST_SPOTS"=some (.int 24 t)
 iV:∃t,mg "FEW_PLACES"=some (.int 6 t)
 jC:∃t,mg "FEW_SPOTS"=some (.int 8 t)
 z14:mg "abs"=none
 z6:mg "all"=none
 z2:mg "bool"=none
 z13:mg "divmod"=none
 z8:mg "enumerate"=none
 z1:mg "int"=none
 z0:mg "isinstance"=none
 z4:mg "len"=none
 W0:mg "list"=none
 O8:mg "max"=none
 O9:mg "min"=none
 z9:mg "range"=none
 z7:mg "sorted"=none
 z3:mg "tuple"=none
 z5:mg "zip"=none
 ow:Ow K (cl K) 0
 mq:Mk K ((cl K).b 0) (iy K ((cl K).b 0) "__init__")
 mc:mg "Board"=some (.ref ((cl K).b 0))
 W2:Mt K ((cl K).b 0) "__init__" "Board.__init__" Ed ["self","web","apart","alike"] (iy K ((cl K).b 0) "__init__") (jP K ((cl K).b 0) "__init__" Ed)
 O_:Mt K ((cl K).b 0) "far_apart" "Board.far_apart" GX ["self","spot","other"] (iy K ((cl K).b 0) "far_apart") (jP K ((cl K).b 0) "far_apart" GX)
 KY:Mt K ((cl K).b 0) "settled" "Board.settled" Ef ["self","free","place","spot"] (iy K ((cl K).b 0) "settled") (jP K ((cl K).b 0) "settled" Ef)
 Pa:Mt K ((cl K).b 0) "ties_left" "Board.ties_left" Eh ["self","free","place"] (iy K ((cl K).b 0) "ties_left") (jP K ((cl K).b 0) "ties_left" Eh)
 W3:Mt K ((cl K).b 0) "bound" "Board.bound" Ej ["self","free"] (iy K ((cl K).b 0) "bound") (jP K ((cl K).b 0) "bound" Ej)
 W4:Mt K ((cl K).b 0) "narrowest" "Board.narrowest" GZ ["self","free"] (iy K ((cl K).b 0) "narrowest") (jP K ((cl K).b 0) "narrowest" GZ)
 W5:Mt K ((cl K).b 0) "all_free" "Board.all_free" Ek ["self","free"] (iy K ((cl K).b 0) "all_free") (jP K ((cl K).b 0) "all_free" Ek)
theorem zmH{K:W.Frag}{h:Heap}{mg:Str->Option Value}(Sb:rC fs ms xs lk bd K)(X:K.In h)(G:h.Ns mainGlobals mg):Top K mg where
 d0:=vX Sb.i X G 0
 d1:=J0 Sb.i X G 1
 d2:=kI Sb.i X G 2
 d3:=kI Sb.i X G 3
 d4:=vX Sb.i X G 4
 d5:=kI Sb.i X G 5
 d6:=vX Sb.i X G 6
 d7:=kI Sb.i X G 7
 d8:=kI Sb.i X G 8
 d9:=kI Sb.i X G 9
 yw:=vX Sb.i X G 10
 Ga:=kI Sb.i X G 11
 Wo:=kI Sb.i X G 12
 Wq:=vX Sb.i X G 13
 O1:=kI Sb.i X G 14
 Wr:=vX Sb.i X G 15
 O2:=vX Sb.i X G 16
 yx:=kI Sb.i X G 17
 Ws:=kI Sb.i X G 18
 Wt:=kI Sb.i X G 19
 Wu:=kI Sb.i X G 20
 Wv:=J1 Sb.i X G 21
 Ww:=J0 Sb.i X G 22
 Wx:=kI Sb.i X G 23
 Wy:=J1 Sb.i X G 24
 O4:=J1 Sb.i X G 25
 Wz:=kI Sb.i X G 26
 WD:=J1 Sb.i X G 27
 WK:=kI Sb.i X G 28
 WL:=kI Sb.i X G 29
 WM:=kI Sb.i X G 30
 O5:=J1 Sb.i X G 31
 KQ:=J0 Sb.i X G 32
 WQ:=J0 Sb.i X G 33
 WR:=kI Sb.i X G 34
 WT:=vX Sb.i X G 35
 wz:=kI Sb.i X G 36
 KR:=kI Sb.i X G 37
 O6:=J0 Sb.i X G 38
 WW:=kI Sb.i X G 39
 WX:=vX Sb.i X G 40
 WY:=kI Sb.i X G 41
 O7:=vX Sb.i X G 42
 eF:=NP (Sb.i.gd.it ("MOST_PLACES",8) (mG 0)) X G
 iU:=NP (Sb.i.gd.it ("MOST_SPOTS",24) (mG 1)) X G
 iV:=NP (Sb.i.gd.it ("FEW_PLACES",6) (mG 2)) X G
 jC:=NP (Sb.i.gd.it ("FEW_SPOTS",8) (mG 3)) X G
 z14:=qm (Sb.i.gd.no "abs" (mG 0)) X G
 z6:=qm (Sb.i.gd.no "all" (mG 1)) X G
 z2:=qm (Sb.i.gd.no "bool" (mG 2)) X G
 z13:=qm (Sb.i.gd.no "divmod" (mG 3)) X G
 z8:=qm (Sb.i.gd.no "enumerate" (mG 4)) X G
 z1:=qm (Sb.i.gd.no "int" (mG 5)) X G
 z0:=qm (Sb.i.gd.no "isinstance" (mG 6)) X G
 z4:=qm (Sb.i.gd.no "len" (mG 7)) X G
 W0:=qm (Sb.i.gd.no "list" (mG 8)) X G
 O8:=qm (Sb.i.gd.no "max" (mG 9)) X G
 O9:=qm (Sb.i.gd.no "min" (mG 10)) X G
 z9:=qm (Sb.i.gd.no "range" (mG 11)) X G
 z7:=qm (Sb.i.gd.no "sorted" (mG 12)) X G
 z3:=qm (Sb.i.gd.no "tuple" (mG 13)) X G
 z5:=qm (Sb.i.gd.no "zip" (mG 14)) X G
 ow:=zn2 Sb.b rfl rfl (by decide +kernel)
 mq:=zn9 Sb.b (Sb.m ("__init__","Board.__init__",Ed) (mG 0)).2
 mc:=zoe Sb.b X G
 W2:=zpz (Sb.m ("__init__","Board.__init__",Ed) (mG 0))
 O_:=zpe (Sb.m ("far_apart","Board.far_apart",GX) (mG 1))
 KY:=zpz (Sb.m ("settled","Board.settled",Ef) (mG 2))
 Pa:=zpe (Sb.m ("ties_left","Board.ties_left",Eh) (mG 3))
 W3:=U9 (Sb.m ("bound","Board.bound",Ej) (mG 4))
 W4:=U9 (Sb.m ("narrowest","Board.narrowest",GZ) (mG 5))
 W5:=U9 (Sb.m ("all_free","Board.all_free",Ek) (mG 6))
abbrev FO(P:Program)(w:World)(K:W.Frag)(mg:Str->Option Value)(base:Heap)(k:Nat)(c:Bool)(x:Str)(i:Nat)(ps:List Str)(n:Nat):Prop:=cH P w K mg base (gU P w) c k (iQ K x) (fdOf K x (top i)) ps (lY K (cl K) (call aq T k c n))
abbrev FM(P:Program)(w:World)(K:W.Frag)(mg:Str->Option Value)(base:Heap)(k:Nat)(m:Str)(st:Stmt)(ps:List Str)(sp:Sp):Prop:=cH P w K mg base (gU P w) true k (iy K ((cl K).b 0) m) (jP K ((cl K).b 0) m st) ps sp
structure Fs(P:Program)(w:World)(K:W.Frag)(mg:Str->Option Value)(base:Heap)(k:Nat):Prop where
 t0:FO P w K mg base k true "is_whole" 8 ["thing"] 0
 t1:FO P w K mg base k true "is_within" 9 ["thing","least","most"] 1
 t2:FO P w K mg base k true "is_row" 10 ["thing","many"] 2
 t3:FO P w K mg base k true "check_most" 11 ["many","most"] 3
 t4:FO P w K mg base k true "is_web" 14 ["thing"] 4
 t5:FO P w K mg base k true "web_of" 15 ["many","things"] 5
 t6:FO P w K mg base k true "is_many" 16 ["thing"] 6
 t7:FO P w K mg base k true "is_place" 17 ["many","thing"] 7
 t8:FO P w K mg base k true "is_tie" 18 ["many","thing"] 8
 t9:FO P w K mg base k true "tie_by" 19 ["many","thing"] 9
 t10:FO P w K mg base k true "check_web" 20 ["thing"] 10
 t11:FO P w K mg base k true "check_place" 21 ["web","thing"] 11
 t12:FO P w K mg base k true "tied_to" 22 ["web","place"] 12
 t13:FO P w K mg base k true "all_ends" 23 ["web"] 13
 t14:FM P w K mg base k "__init__" Ed ["self","web","apart","alike"] (Oe K (cl K) 0 (call aq T k true 14))
 W6:FM P w K mg base k "far_apart" GX ["self","spot","other"] (lY K (cl K) (call aq T k true 15))
 Pb:FM P w K mg base k "settled" Ef ["self","free","place","spot"] (lY K (cl K) (call aq T k true 16))
 W7:FM P w K mg base k "ties_left" Eh ["self","free","place"] (lY K (cl K) (call aq T k true 17))
 t18:FM P w K mg base k "bound" Ej ["self","free"] (lY K (cl K) (call aq T k true 18))
 t19:FM P w K mg base k "narrowest" GZ ["self","free"] (lY K (cl K) (call aq T k true 19))
 t20:FM P w K mg base k "all_free" Ek ["self","free"] (lY K (cl K) (call aq T k true 20))
 W8:FO P w K mg base k true "ring_board" 26 ["web","ring"] 21
 t22:FO P w K mg base k true "is_ring" 29 ["thing"] 22
 W9:FO P w K mg base k true "check_ring" 30 ["thing"] 23
 z_:FO P w K mg base k true "hues_many" 34 ["web","ring"] 24
 t25:FO P w K mg base k true "fixed_many" 35 ["web","ring"] 25
 t26:FO P w K mg base k true "check_few" 36 ["web","ring"] 26
 t27:FO P w K mg base k true "fixed_rows" 37 ["web","ring"] 27
 t28:FO P w K mg base k true "is_free" 38 ["board","row","ahead","spot"] 28
 t29:FO P w K mg base k true "untied" 40 ["web","one","other"] 29
 t30:FO P w K mg base k true "put_beside" 41 ["one","other"] 30
 t31:FO P w K mg base k true "put_together" 42 ["one","other","place","there"] 31
 W_:FO P w K mg base k true "joined" 43 ["one","other","names","between"] 32
 t33:FO P w K mg base k true "names_behind" 44 ["one","other"] 33
 t34:FO P w K mg base k true "names_but" 45 ["web","place","name","start"] 34
 t35:FO P w K mg base k true "renamed" 46 ["ties","names"] 35
 t36:FO P w K mg base k true "first_hues" 48 ["web","ring"] 36
 t37:FO P w K mg base k true "first_among" 49 ["board","choices"] 37
 Xa:FO P w K mg base k true "first_spot" 50 ["board","answers","free","place"] 38
 Pg:FO P w K mg base k true "can_settle" 51 ["board","answers","free"] 39
 t40:FO P w K mg base k true "search" 52 ["board","answers","free"] 40
 t41:FO P w K mg base k true "_law_cell" 54 ["_law_script","_law_k"] 41
 t42:FO P w K mg base k true "_law_pen" 55 ["_law_cell_here"] 42
 yC:FO P w K mg base k true "_law_draw" 56 ["_law_pen_here","_law_many"] 43
 Pj:FO P w K mg base k true "_law_web" 57 ["_law_pen_here","_law_many"] 44
 Xb:FO P w K mg base k true "_law_apart" 58 ["_law_k","_law_one","_law_other"] 45
 t46:FO P w K mg base k true "_law_all_hues" 59 ["_law_web_here","_law_ring"] 46
 t47:FO P w K mg base k true "_law_small_ring" 60 ["_law_pen_here"] 47
 t48:FO P w K mg base k true "_law_tie_right" 61 ["_law_web_here","_law_ring"] 48
 t49:FO P w K mg base k true "law" 62 ["_law_script"] 49
section
variable {P:Program}{w:World}{K:W.Frag}{mg:Str->Option Value}{base:Heap}{k:Nat}
theorem zkw(Tp:Top K mg)(Fk:Fs P w K mg base k):Fs P w K mg base (k+1) where
 t0:=fJ Tp.d0 ["thing"] T_0 λ_ _ _ _ _ _ hr=>(aG (cC (Ft (Nt rfl Tp.z0 gk (gv 0) (Nr rfl Tp.z1 zl6 gk dk)) (Fq (zn3 (Nt rfl Tp.z0 gk (gv 0) (Nr rfl Tp.z2 zkF gk dk))))))
 aO)
 t1:=fJ Tp.d1 ["thing","least","most"] T_1 λ_ _ _ _ _ _ hr=>(aG (cC (Ft (gc Fk.t0 Tp.d0 hr bK gk (aA (gv 0) aH)) (Fq (zoX zpu zpu (gv 1) (gv 0) (gv 2)))))
 aO)
 t2:=fJ Tp.d2 ["thing","many"] T_2 λ_ _ _ _ _ _ hr=>(aG (cC (Ft (Nt rfl Tp.z0 gk (gv 0) (Nr rfl Tp.z3 Nk gk dk)) (Fq (zL (zK hr) (zN Tp.z4 gk (aA (gv 0) aH)) (gv 1)))))
 aO)
 t3:=fJ Tp.d3 ["many","most"] T_3 λ_ _ _ _ _ _ hr=>(aG (iD (mj TQ (gv 0) (gv 1)) (aG CK
 aO) aO)
 aO)
 t4:=fJ Tp.d4 N4 T_4 λ_ _ _ _ _ _ hr=>(aG (iD (tL (mz (gc Fk.t2 Tp.d2 hr bK gk (aA (gv 0) (aA aR aH))))) (aG (cC rz)
 aO) aO)
 (aG (Fy 1 2 rfl rfl nd rfl rfl jc jl rfl rfl (gv 0))
 (aG (iD (Np (zpC (tL (mz (gc Fk.t6 Tp.d6 hr bK gk (aA (gv 1) aH)))) (zmG (tL (mz (Nt rfl Tp.z0 gk (gv 2) (Nr rfl Tp.z3 Nk gk dk))))))) (aG (cC rz)
 aO) aO)
 (aG (iD (tL (mz (Nu rfl Tp.z6 gk (aA (oV (au (top 14)) N4 ["tie"] ["many"] [1] rfl rfl rfl (by decide +kernel) (by decide +kernel) (lZ 0) (by decide +kernel) (nM (gv 2)) (λ_ _ _ _ _ _=>(mC 0 (by decide +kernel) rfl (by decide +kernel))) (λ_ _ _ _ _ _=>sE) (λ_ _ _ _ _ _=>(gc Fk.t8 Tp.d8 hr Fx zY (aA (bL 1) (aA (bL 0) aH))))) aH)))) (aG (cC rz)
 aO) aO)
 (aG (cC (Nu rfl Tp.z6 gk (aA (oV (au (top 14)) N4 ["tie","later"] [] [] rfl rfl rfl (by decide +kernel) (by decide +kernel) (Jt 0 1) (by decide +kernel) (zok Tp.z5 gk (gv 2) (Nq (gv 2) (Jx aR) T3)) (λ_ _ _ _ _ _=>(Ny 0 1 rfl (by decide +kernel) rfl rfl (by decide +kernel) (by decide +kernel))) (λ_ _ _ _ _ _=>sE) (λ_ _ _ _ _ _=>(zL (CJ hr) (bL 0) (bL 1)))) aH)))
 aO)))))
 t5:=fJ Tp.d5 ["many","things","ties","at","thing","tie"] T_5 λ_ _ _ _ _ _ hr=>(aG (iD (tL (mz (gc Fk.t6 Tp.d6 hr bK gk (aA (gv 0) aH)))) (aG CK
 aO) aO)
 (aG (gC 2 nd rfl jl rfl (ql aH))
 (aG (u9 u6 rfl rfl (Ud Tp.z8 gk (gv 1)) (zi9 3 4 rfl rfl nd rfl rfl jl jl rfl rfl) (aG (gC 5 nd rfl jl rfl (gc Fk.t9 Tp.d9 hr bK gk (aA (gv 0) (aA (gv 4) aH))))
 (aG (iD (Np (zpC (znl (gv 5)) (zmG (mj (TV hr) (gv 5) (gv 2))))) (aG CK
 aO) aO)
 (aG (lF (Nv (gv 2) (gv 5)))
 aO))))
 (aG (cC (jO (aA (gv 0) (aA (zO Tp.z3 gk (aA (zfg Tp.z7 gk (aA (gv 2) aH)) aH)) aH))))
 aO))))
 t6:=fJ Tp.d6 ["thing"] T_6 λ_ _ _ _ _ _ hr=>(aG (cC (gc Fk.t1 Tp.d1 hr bK gk (aA (gv 0) (aA aR (aA (Jv Tp.eF gk dk) aH)))))
 aO)
 t7:=fJ Tp.d7 ["many","thing"] T_7 λ_ _ _ _ _ _ hr=>(aG (cC (gc Fk.t1 Tp.d1 hr bK gk (aA (gv 1) (aA aR (aA (fC CG (gv 0) aR) aH)))))
 aO)
 t8:=fJ Tp.d8 ["many","thing","one","other"] Wh λ_ _ _ _ _ _ hr=>(aG (iD (tL (mz (gc Fk.t2 Tp.d2 hr bK gk (aA (gv 1) (aA aR aH))))) (aG (cC rz)
 aO) aO)
 (aG (Fy 2 3 rfl rfl nd rfl rfl jl jl rfl rfl (gv 1))
 (aG (cC (Ft (gc Fk.t7 Tp.d7 hr bK gk (aA (gv 0) (aA (gv 2) aH))) (Ft (gc Fk.t7 Tp.d7 hr bK gk (aA (gv 0) (aA (gv 3) aH))) (Fq (zL (CJ hr) (gv 2) (gv 3))))))
 aO)))
 t9:=fJ Tp.d9 ["many","thing"] T_9 λ_ _ _ _ _ _ hr=>(aG (iD (mz (gc Fk.t8 Tp.d8 hr bK gk (aA (gv 0) (aA (gv 1) aH)))) (aG (cC (gv 1))
 aO) aO)
 (aG (iD (Np (zmr (mz (gc Fk.t2 Tp.d2 hr bK gk (aA (gv 1) (aA aR aH)))) (zi6 (mz (gc Fk.t8 Tp.d8 hr bK gk (aA (gv 0) (aA (zno (gv 1)) aH))))))) (aG (cC (zno (gv 1)))
 aO) aO)
 (aG (cC Fl)
 aO)))
 t10:=fJ Tp.yw ["thing"] zpH λ_ _ _ _ _ _ hr=>(aG (iD (tL (mz (gc Fk.t4 Tp.d4 hr bK gk (aA (gv 0) aH)))) (aG CK
 aO) aO)
 aO)
 t11:=fJ Tp.Ga ["web","thing"] zpA λ_ _ _ _ _ _ hr=>(aG (iD (tL (mz (gc Fk.t7 Tp.d7 hr bK gk (aA (cJ (gv 0) aR) (aA (gv 1) aH))))) (aG CK
 aO) aO)
 aO)
 t12:=fJ Tp.Wo N12 zpP λ_ _ _ _ _ _ hr=>(aG (Nz 2 (au (top 22)) N12 ["one","other"] ["place"] [1] nd rfl jl rfl rfl rfl rfl (by decide +kernel) (by decide +kernel) (Jt 0 1) (by decide +kernel) (nM (cJ (gv 0) aR)) (λ_ _ _ _ _ _=>(Ny 0 1 rfl (by decide +kernel) rfl rfl (by decide +kernel) (by decide +kernel))) (λ_ _ _ _ _ _=>(vW (mj (TV hr) (bL 2) (jO (aA (bL 0) (aA (bL 1) aH)))))) (λ_ _ _ _ _ _=>(TY (mj (zK hr) (bL 0) (bL 2)) (bL 1) (bL 0))))
 (aG (cC (zO Tp.z3 gk (aA (zfg Tp.z7 gk (aA (gv 2) aH)) aH)))
 aO))
 t13:=fJ Tp.Wq N13 zpr λ_ _ _ _ _ _ hr=>(aG (cC (oV (au (top 23)) N13 ["place"] ["web"] [0] rfl rfl rfl (by decide +kernel) (by decide +kernel) (lZ 0) (by decide +kernel) (u5 Tp.z9 gk (cJ (gv 0) aR)) (λ_ _ _ _ _ _=>(mC 0 (by decide +kernel) rfl (by decide +kernel))) (λ_ _ _ _ _ _=>sE) (λ_ _ _ _ _ _=>(gc Fk.t12 Tp.Wo hr Fx zY (aA (bL 1) (aA (bL 0) aH))))))
 aO)
 t14:=zkj (N:=["self","web","apart","alike"]) Tp.W2.fn zpx (λ_ _ _ _ _ _ hr=>(Og (j:=0) Tp.ow (gc Fk.t13 Tp.Wq hr bK gk (aA (gv 1) aH)) (Og (j:=0) Tp.ow (zo3 rfl Tp.z3 gk Tp.z9 gk (aA (zN Tp.z4 gk (aA (gv 2) aH)) aH)) (Og (j:=0) Tp.ow (gv 2) (Og (j:=0) Tp.ow (gv 3) zne))))) (by show (4:Nat)<=900;decide)
 W6:=fM Tp.O_ ["self","spot","other"] zpy λ_ _ _ _ _ _ hr=>(aG (cC (cJ (cJ (zZ Tp.ow (gv 0)) (gv 1)) (gv 2)))
 aO)
 Pb:=fM Tp.KY N16 zpa λ_ _ _ _ _ _ hr=>(aG (gC 4 nd rfl jl rfl (ziW Tp.W0 gk (aA (gv 1) aH)))
 (aG (NK (gv 4) (gv 2) Fl)
 (aG (u9 u6 rfl rfl (nM (cJ (zZ Tp.ow (gv 0)) (gv 2))) (xY 5 nd rfl jl rfl) (aG (iD (TX (cJ (gv 4) (gv 5))) (aG (NK (gv 4) (gv 5) (zO Tp.z3 gk (aA (oV (au (Ef)) N16 ["other"] ["self","spot"] [0,3] rfl rfl rfl (by decide +kernel) (by decide +kernel) (lZ 0) (by decide +kernel) (nM (cJ (gv 4) (gv 5))) (λ_ _ _ _ _ _=>(mC 0 (by decide +kernel) rfl (by decide +kernel))) (λ_ _ _ _ _ _=>(vW (mz (v9 Tp.ow Tp.O_ Fk.W6 hr (bL 1) (aA (bL 2) (aA (bL 0) aH)))))) (λ_ _ _ _ _ _=>(bL 0))) aH)))
 aO) aO)
 aO))
 (aG (cC (zO Tp.z3 gk (aA (gv 4) aH)))
 aO))))
 W7:=fM Tp.Pa N17 zpO λ_ _ _ _ _ _ hr=>(aG (cC (zN Tp.z4 gk (aA (oV (au (Eh)) N17 ["end"] ["free"] [1] rfl rfl rfl (by decide +kernel) (by decide +kernel) (lZ 0) (by decide +kernel) (nM (cJ (zZ Tp.ow (gv 0)) (gv 2))) (λ_ _ _ _ _ _=>(mC 0 (by decide +kernel) rfl (by decide +kernel))) (λ_ _ _ _ _ _=>(vW (TX (cJ (bL 1) (bL 0))))) (λ_ _ _ _ _ _=>(bL 0))) aH)))
 aO)
 t18:=fM Tp.W3 N18 zpE λ_ _ _ _ _ _ hr=>(aG (cC (zO Tp.z3 gk (aA (oV (au (Ej)) N18 ["place","spots"] ["self","free"] [0,1] rfl rfl rfl (by decide +kernel) (by decide +kernel) (Jt 0 1) (by decide +kernel) (Ud Tp.z8 gk (gv 1)) (λ_ _ _ _ _ _=>(Ny 0 1 rfl (by decide +kernel) rfl rfl (by decide +kernel) (by decide +kernel))) (λ_ _ _ _ _ _=>sE) (λ_ _ _ _ _ _=>(TY (mj TQ (v9 Tp.ow Tp.Pa Fk.W7 hr (bL 2) (aA (bL 3) (aA (bL 0) aH))) aR) (bL 1) Fl))) aH)))
 aO)
 t19:=fM Tp.W4 ["self","free","ranks","place","spots"] zpi λ_ _ _ _ _ _ hr=>(aG (gC 2 nd rfl jl rfl (ql aH))
 (aG (u9 u6 rfl rfl (Ud Tp.z8 gk (gv 1)) (zi9 3 4 rfl rfl nd rfl rfl jl jl rfl rfl) (aG (iD (TX (gv 4)) (aG (lF (Nv (gv 2) (jO (aA (zN Tp.z4 gk (aA (gv 4) aH)) (aA (znY (v9 Tp.ow Tp.Pa Fk.W7 hr (gv 0) (aA (gv 1) (aA (gv 3) aH)))) (aA (gv 3) aH))))))
 aO) aO)
 aO))
 (aG (cC (TY (zoY (gv 2)) (cJ (zlL hr rfl Tp.O9 gk (aA (gv 2) aH)) aR) Fl))
 aO)))
 t20:=fM Tp.W5 N20 zpl λ_ _ _ _ _ _ hr=>(aG (cC (Nu rfl Tp.z6 gk (aA (oV (au (Ek)) N20 ["spots"] ["self"] [0] rfl rfl rfl (by decide +kernel) (by decide +kernel) (lZ 0) (by decide +kernel) (nM (gv 1)) (λ_ _ _ _ _ _=>(mC 0 (by decide +kernel) rfl (by decide +kernel))) (λ_ _ _ _ _ _=>sE) (λ_ _ _ _ _ _=>(zpR (zoy (bL 0)) (Fq (zL (zK hr) (bL 0) (zZ Tp.ow (bL 1))))))) aH)))
 aO)
 W8:=fR Tp.O1 Wj zpM λ_ _ _ _ _ _ hr=>(aG (Fy 2 3 rfl rfl nd rfl rfl jc jc rfl rfl (gv 1))
 (aG (gC 4 nd rfl jc rfl (oV (au (top 26)) Wj ["gap"] ["k","d"] [2,3] rfl rfl rfl (by decide +kernel) (by decide +kernel) (lZ 0) (by decide +kernel) (u5 Tp.z9 gk (gv 2)) (λ_ _ _ _ _ _=>(mC 0 (by decide +kernel) rfl (by decide +kernel))) (λ_ _ _ _ _ _=>sE) (λ_ _ _ _ _ _=>(zL zpG (zjn rfl Tp.O9 zY (aA (bL 0) (aA (fC CG (bL 1) (bL 0)) aH))) (bL 2)))))
 (aG (cC (zpS Tp.mq Fk.t14 (Mi.bG.made hr _ _) Tp.W2.bd Tp.mc gk (aA (gv 0) (aA (oV (au (top 26)) Wj ["spot"] ["k","wide"] [2,4] rfl rfl rfl (by decide +kernel) (by decide +kernel) (lZ 0) (by decide +kernel) (u5 Tp.z9 gk (gv 2)) (λ_ _ _ _ _ _=>(mC 0 (by decide +kernel) rfl (by decide +kernel))) (λ_ _ _ _ _ _=>sE) (λ_ _ _ _ _ _=>(zkP ["spot","k","wide"] ["other"] ["wide","spot"] [2,0] rfl rfl (by decide +kernel) (by decide +kernel) (lZ 0) (by decide +kernel) (u5 Tp.z9 zY (bL 1)) (λ_ _ _ _ _ _=>(mC 0 (by decide +kernel) rfl (by decide +kernel))) (λ_ _ _ _ _ _=>sE) (λ_ _ _ _ _ _=>(cJ (bL 1) (fC CG (bL 2) (bL 0))))))) (aA rz aH)))))
 aO)))
 t22:=fJ Tp.Wr ["thing","k","d"] zpo λ_ _ _ _ _ _ hr=>(aG (iD (tL (mz (gc Fk.t2 Tp.d2 hr bK gk (aA (gv 0) (aA aR aH))))) (aG (cC rz)
 aO) aO)
 (aG (Fy 1 2 rfl rfl nd rfl rfl jl jl rfl rfl (gv 0))
 (aG (cC (Ft (gc Fk.t1 Tp.d1 hr bK gk (aA (gv 1) (aA aR (aA (Jv Tp.iU gk dk) aH)))) (Fq (gc Fk.t1 Tp.d1 hr bK gk (aA (gv 2) (aA aR (aA (gv 1) aH)))))))
 aO)))
 W9:=fJ Tp.O2 ["thing"] zpJ λ_ _ _ _ _ _ hr=>(aG (iD (tL (mz (gc Fk.t22 Tp.Wr hr bK gk (aA (gv 0) aH)))) (aG CK
 aO) aO)
 aO)
 z_:=fJ Tp.yx ["web","ring","many"] zo9 λ_ _ _ _ _ _ hr=>(aG (gC 2 nd rfl jl rfl (gc Fk.t25 Tp.Ws hr bK gk (aA (gv 0) (aA (gv 1) aH))))
 (aG (cC (fC Fp (cJ (gv 1) aR) (gv 2)))
 aO))
 t25:=fJ Tp.Ws ["web","ring"] zpF λ_ _ _ _ _ _ hr=>(aG (lF (gc Fk.t26 Tp.Wt hr bK gk (aA (gv 0) (aA (gv 1) aH))))
 (aG (cC (zN Tp.z4 gk (aA (gc Fk.t27 Tp.Wu hr bK gk (aA (gv 0) (aA (gv 1) aH))) aH)))
 aO))
 t26:=fJ Tp.Wt ["web","ring"] zpK λ_ _ _ _ _ _ hr=>(aG (lF (gc Fk.t10 Tp.yw hr bK gk (aA (gv 0) aH)))
 (aG (lF (gc Fk.W9 Tp.O2 hr bK gk (aA (gv 1) aH)))
 (aG (lF (gc Fk.t3 Tp.d3 hr bK gk (aA (cJ (gv 0) aR) (aA (Jv Tp.iV gk dk) aH))))
 (aG (lF (gc Fk.t3 Tp.d3 hr bK gk (aA (cJ (gv 1) aR) (aA (Jv Tp.jC gk dk) aH))))
 aO))))
 t27:=fJ Tp.Wu Wm zpf λ_ _ _ _ _ _ hr=>(aG (gC 2 nd rfl jc rfl (gc Fk.W8 Tp.O1 hr bK gk (aA (gv 0) (aA (gv 1) aH))))
 (aG (gC 3 nd rfl jl rfl (ql (aA (jO (aA aR aH)) aH)))
 (aG (u9 u6 rfl rfl (zo8 Tp.z9 gk aR (cJ (gv 0) aR)) (xY 4 nd rfl jc rfl) (aG (gC 5 nd rfl jc rfl (oV (au (top 37)) Wm ["end"] ["place"] [4] rfl rfl rfl (by decide +kernel) (by decide +kernel) (lZ 0) (by decide +kernel) (nM (cJ (zZ Tp.ow (gv 2)) (gv 4))) (λ_ _ _ _ _ _=>(mC 0 (by decide +kernel) rfl (by decide +kernel))) (λ_ _ _ _ _ _=>(vW (mj (CJ hr) (bL 0) (bL 1)))) (λ_ _ _ _ _ _=>(bL 0))))
 (aG (zjL 3 (au (top 37)) Wm ["row","spot"] ["board","ahead"] [2,5] nd rfl jl rfl rfl rfl rfl (by decide +kernel) (by decide +kernel) (lZ 0) (lZ 1) (by decide +kernel) (nM (gv 3)) (λ_ _ _ _ _ _=>(mC 0 (by decide +kernel) rfl (by decide +kernel))) (λ_ _ _ _ _ _=>(nM (zZ Tp.ow (bL 2)))) (λ_ _ _ _ _ _=>(mC 1 (by decide +kernel) rfl (by decide +kernel))) (λ_ _ _ _ _ _=>(vW (mz (gc Fk.t28 Tp.Wv hr Fx zY (aA (bL 2) (aA (bL 0) (aA (bL 3) (aA (bL 1) aH)))))))) (λ_ _ _ _ _ _=>(fC nA (bL 0) (jO (aA (bL 1) aH)))))
 aO)))
 (aG (cC (gv 3))
 aO))))
 t28:=fJ Tp.Wv N28 zpb λ_ _ _ _ _ _ hr=>(aG (cC (Nu rfl Tp.z6 gk (aA (oV (au (top 38)) N28 ["place"] ["board","spot","row"] [0,3,1] rfl rfl rfl (by decide +kernel) (by decide +kernel) (lZ 0) (by decide +kernel) (nM (gv 2)) (λ_ _ _ _ _ _=>(mC 0 (by decide +kernel) rfl (by decide +kernel))) (λ_ _ _ _ _ _=>sE) (λ_ _ _ _ _ _=>(v9 Tp.ow Tp.O_ Fk.W6 hr (bL 1) (aA (bL 2) (aA (cJ (bL 3) (bL 0)) aH))))) aH)))
 aO)
 t29:=fJ Tp.Ww N29 zpp λ_ _ _ _ _ _ hr=>(aG (lF (gc Fk.t10 Tp.yw hr bK gk (aA (gv 0) aH)))
 (aG (lF (gc Fk.t11 Tp.Ga hr bK gk (aA (gv 0) (aA (gv 1) aH))))
 (aG (lF (gc Fk.t11 Tp.Ga hr bK gk (aA (gv 0) (aA (gv 2) aH))))
 (aG (gC 3 nd rfl jc rfl (gc Fk.t9 Tp.d9 hr bK gk (aA (cJ (gv 0) aR) (aA (jO (aA (gv 1) (aA (gv 2) aH))) aH))))
 (aG (iD (mj (zoR hr) (gv 3) (cJ (gv 0) aR)) (aG CK
 aO) aO)
 (aG (cC (gc Fk.t5 Tp.d5 hr bK gk (aA (cJ (gv 0) aR) (aA (oV (au (top 40)) N29 ["kept"] ["tie"] [3] rfl rfl rfl (by decide +kernel) (by decide +kernel) (lZ 0) (by decide +kernel) (nM (cJ (gv 0) aR)) (λ_ _ _ _ _ _=>(mC 0 (by decide +kernel) rfl (by decide +kernel))) (λ_ _ _ _ _ _=>(vW (mj (Nm hr) (bL 0) (bL 1)))) (λ_ _ _ _ _ _=>(bL 0))) aH))))
 aO))))))
 t30:=fJ Tp.Wx ["one","other"] zpm λ_ _ _ _ _ _ hr=>(aG (lF (gc Fk.t10 Tp.yw hr bK gk (aA (gv 0) aH)))
 (aG (lF (gc Fk.t10 Tp.yw hr bK gk (aA (gv 1) aH)))
 (aG (cC (gc Fk.W_ Tp.O4 hr bK gk (aA (gv 0) (aA (gv 1) (aA (gc Fk.t33 Tp.Wz hr bK gk (aA (gv 0) (aA (gv 1) aH))) (aA (ql aH) aH))))))
 aO)))
 t31:=fJ Tp.Wy ["one","other","place","there"] zo7 λ_ _ _ _ _ _ hr=>(aG (lF (gc Fk.t10 Tp.yw hr bK gk (aA (gv 0) aH)))
 (aG (lF (gc Fk.t10 Tp.yw hr bK gk (aA (gv 1) aH)))
 (aG (lF (gc Fk.t11 Tp.Ga hr bK gk (aA (gv 0) (aA (gv 2) aH))))
 (aG (lF (gc Fk.t11 Tp.Ga hr bK gk (aA (gv 1) (aA (gv 3) aH))))
 (aG (cC (gc Fk.W_ Tp.O4 hr bK gk (aA (gv 0) (aA (gv 1) (aA (gc Fk.t34 Tp.WD hr bK gk (aA (gv 1) (aA (gv 3) (aA (gv 2) (aA (cJ (gv 0) aR) aH))))) (aA (ql aH) aH))))))
 aO)))))
 W_:=fJ Tp.O4 ["one","other","names","between","many"] zpq λ_ _ _ _ _ _ hr=>(aG (gC 4 nd rfl jl rfl (zjt rfl Tp.O8 gk (aA (cJ (gv 0) aR) (aA (fC nA (zlw rfl Tp.O8 gk (aA (gv 2) aH)) aR) aH))))
 (aG (lF (gc Fk.t3 Tp.d3 hr bK gk (aA (gv 4) (aA (Jv Tp.eF gk dk) aH))))
 (aG (cC (gc Fk.t5 Tp.d5 hr bK gk (aA (gv 4) (aA (fC nA (fC nA (ziW Tp.W0 gk (aA (cJ (gv 0) aR) aH)) (gc Fk.t35 Tp.WK hr bK gk (aA (cJ (gv 1) aR) (aA (gv 2) aH)))) (gv 3)) aH))))
 aO)))
 t33:=fJ Tp.Wz N33 zpL λ_ _ _ _ _ _ hr=>(aG (cC (oV (au (top 44)) N33 ["place"] ["one"] [0] rfl rfl rfl (by decide +kernel) (by decide +kernel) (lZ 0) (by decide +kernel) (u5 Tp.z9 gk (cJ (gv 1) aR)) (λ_ _ _ _ _ _=>(mC 0 (by decide +kernel) rfl (by decide +kernel))) (λ_ _ _ _ _ _=>sE) (λ_ _ _ _ _ _=>(fC nA (cJ (bL 1) aR) (bL 0)))))
 aO)
 t34:=fJ Tp.WD N34 zpg λ_ _ _ _ _ _ hr=>(aG (Nz 4 (au (top 45)) N34 ["other"] ["start"] [3] nd rfl jl rfl rfl rfl rfl (by decide +kernel) (by decide +kernel) (lZ 0) (by decide +kernel) (u5 Tp.z9 gk (fC CG (cJ (gv 0) aR) aR)) (λ_ _ _ _ _ _=>(mC 0 (by decide +kernel) rfl (by decide +kernel))) (λ_ _ _ _ _ _=>sE) (λ_ _ _ _ _ _=>(fC nA (bL 1) (bL 0))))
 (aG (cC (fC nA (fC nA (Nq (gv 4) T3 (Jx (gv 1))) (ql (aA (gv 2) aH))) (Nq (gv 4) (Jx (gv 1)) T3)))
 aO))
 t35:=fJ Tp.WK N35 zpj λ_ _ _ _ _ _ hr=>(aG (cC (oV (au (top 46)) N35 ["one","other"] ["names"] [1] rfl rfl rfl (by decide +kernel) (by decide +kernel) (Jt 0 1) (by decide +kernel) (nM (gv 0)) (λ_ _ _ _ _ _=>(Ny 0 1 rfl (by decide +kernel) rfl rfl (by decide +kernel) (by decide +kernel))) (λ_ _ _ _ _ _=>sE) (λ_ _ _ _ _ _=>(jO (aA (cJ (bL 2) (bL 0)) (aA (cJ (bL 2) (bL 1)) aH))))))
 aO)
 t36:=fJ Tp.WL N36 zpn λ_ _ _ _ _ _ hr=>(aG (lF (gc Fk.t10 Tp.yw hr bK gk (aA (gv 0) aH)))
 (aG (lF (gc Fk.W9 Tp.O2 hr bK gk (aA (gv 1) aH)))
 (aG (gC 2 nd rfl jc rfl (gc Fk.W8 Tp.O1 hr bK gk (aA (gv 0) (aA (gv 1) aH))))
 (aG (cC (gc Fk.t37 Tp.WM hr bK gk (aA (gv 2) (aA (oV (au (top 48)) N36 ["place"] ["board"] [2] rfl rfl rfl (by decide +kernel) (by decide +kernel) (lZ 0) (by decide +kernel) (u5 Tp.z9 gk (cJ (gv 0) aR)) (λ_ _ _ _ _ _=>(mC 0 (by decide +kernel) rfl (by decide +kernel))) (λ_ _ _ _ _ _=>sE) (λ_ _ _ _ _ _=>(zZ Tp.ow (bL 1)))) aH))))
 aO))))
 t37:=fJ Tp.WM ["board","choices","free","answers","row","place","spot"] zps λ_ _ _ _ _ _ hr=>(aG (gC 2 nd rfl jl rfl (zO Tp.z3 gk (aA (gv 1) aH)))
 (aG (gC 3 nd rfl jl rfl zmu)
 (aG (iD (tL (mz (gc Fk.Pg Tp.KQ hr bK gk (aA (gv 0) (aA (gv 3) (aA (gv 2) aH)))))) (aG (cC Fl)
 aO) aO)
 (aG (gC 4 nd rfl jl rfl (ql aH))
 (aG (u9 u6 rfl rfl (u5 Tp.z9 gk (zN Tp.z4 gk (aA (gv 1) aH))) (xY 5 nd rfl jl rfl) (aG (gC 6 nd rfl jl rfl (gc Fk.Xa Tp.O5 hr bK gk (aA (gv 0) (aA (gv 3) (aA (gv 2) (aA (gv 5) aH))))))
 (aG (gC 2 nd rfl jl rfl (v9 Tp.ow Tp.KY Fk.Pb hr (gv 0) (aA (gv 2) (aA (gv 5) (aA (gv 6) aH)))))
 (aG (lF (Nv (gv 4) (gv 6)))
 aO))))
 (aG (cC (zO Tp.z3 gk (aA (gv 4) aH)))
 aO))))))
 Xa:=fJ Tp.O5 ["board","answers","free","place","spot"] Wi λ_ _ _ _ _ _ hr=>(aG (u9 u6 rfl rfl (nM (cJ (gv 2) (gv 3))) (xY 4 nd rfl jl rfl) (aG (iD (mz (gc Fk.Pg Tp.KQ hr bK gk (aA (gv 0) (aA (gv 1) (aA (v9 Tp.ow Tp.KY Fk.Pb hr (gv 0) (aA (gv 2) (aA (gv 3) (aA (gv 4) aH)))) aH))))) (aG (cC (gv 4))
 aO) aO)
 aO))
 (aG (cC Fl)
 aO))
 Pg:=fJ Tp.KQ ["board","answers","free","rest"] zph λ_ _ _ _ _ _ hr=>(aG (iD (mj (TV hr) (jO aH) (gv 2)) (aG (cC rz)
 aO) aO)
 (aG (gC 3 nd rfl jl rfl (v9 Tp.ow Tp.W3 Fk.t18 hr (gv 0) (aA (gv 2) aH)))
 (aG (iD (znv hr (gv 3) (gv 1)) (aG (zng hr (gv 1) (gv 3) (gc Fk.t40 Tp.WQ hr bK gk (aA (gv 0) (aA (gv 1) (aA (gv 3) aH)))))
 aO) aO)
 (aG (cC (zmO hr (gv 1) (gv 3)))
 aO))))
 t40:=fJ Tp.WQ ["board","answers","free","place"] OJ λ_ _ _ _ _ _ hr=>(aG (gC 3 nd rfl jl rfl (v9 Tp.ow Tp.W4 Fk.t19 hr (gv 0) (aA (gv 2) aH)))
 (aG (iD (znl (gv 3)) (aG (cC rz)
 aO) aO)
 (aG (iD (Np (zmr (mz (zZ Tp.ow (gv 0))) (zi6 (mz (v9 Tp.ow Tp.W5 Fk.t20 hr (gv 0) (aA (gv 2) aH)))))) (aG (cC (gc Fk.Pg Tp.KQ hr bK gk (aA (gv 0) (aA (gv 1) (aA (v9 Tp.ow Tp.KY Fk.Pb hr (gv 0) (aA (gv 2) (aA (gv 3) (aA aR aH)))) aH)))))
 aO) aO)
 (aG (cC (zjc (gc Fk.Xa Tp.O5 hr bK gk (aA (gv 0) (aA (gv 1) (aA (gv 2) (aA (gv 3) aH)))))))
 aO))))
 t41:=fJ Tp.WR ["_law_script","_law_k"] zpv λ_ _ _ _ _ _ hr=>(aG (iD (mj (CJ hr) (gv 1) (zN Tp.z4 gk (aA (gv 0) aH))) (aG (cC (cJ (gv 0) (gv 1)))
 aO) aO)
 (aG (cC aR)
 aO))
 t42:=fJ Tp.WT ["_law_cell_here","_law_left"] zpD λ_ _ _ _ _ _ hr=>(aG (gC 1 nd rfl jl rfl (zjt rfl Tp.O8 gk (aA (gv 0) (aA (fC CG aR (gv 0)) aH))))
 (aG (cC (ql (aA (gv 1) (aA (zna Tp.z1 gk (aA (zL zpG (gv 1) (fC zor aR aR)) aH)) aH))))
 aO))
 yC:=fJ Tp.wz ["_law_pen_here","_law_many","_law_left","_law_found","_law_stir"] zpB λ_ _ _ _ _ _ hr=>(aG (iD (mj (zK hr) (cJ (gv 0) aR) aR) (aG (Fy 2 3 rfl rfl nd rfl rfl jl jl rfl rfl (ziC Tp.z13 gk (aA (cJ (gv 0) aR) (aA (gv 1) aH))))
 (aG (NK (gv 0) aR (gv 2))
 (aG (cC (gv 3))
 aO))) aO)
 (aG (gC 4 nd rfl jl rfl (fC Jw (fC Fp (fC nA (fC Jw (cJ (gv 0) aR) aR) aR) aR) aR))
 (aG (gC 4 nd rfl jl rfl (fC Jw (fC nA (fC Fp (gv 4) (gv 4)) aR) aR))
 (aG (NK (gv 0) aR (fC Jw (fC nA (fC Fp (gv 4) aR) aR) aR))
 (aG (cC (fC Jw (fC zlu (cJ (gv 0) aR) aR) (gv 1)))
 aO)))))
 Pj:=fJ Tp.KR N44 zpc λ_ _ _ _ _ _ hr=>(aG (gC 2 nd rfl jc rfl (cJ (ql (aA aR (aA aR (aA aR aH)))) (gc Fk.yC Tp.wz hr bK gk (aA (gv 0) (aA aR aH)))))
 (aG (gC 3 nd rfl jl rfl (ql aH))
 (aG (u9 u6 rfl rfl (u5 Tp.z9 gk (gv 1)) (xY 4 nd rfl jc rfl) (aG (gC 3 nd rfl jl rfl (fC nA (gv 3) (oV (au (top 57)) N44 ["_law_other"] ["_law_one","_law_pen_here","_law_often"] [4,0,2] rfl rfl rfl (by decide +kernel) (by decide +kernel) (lZ 0) (by decide +kernel) (zo8 Tp.z9 gk (fC nA (gv 4) aR) (gv 1)) (λ_ _ _ _ _ _=>(mC 0 (by decide +kernel) rfl (by decide +kernel))) (λ_ _ _ _ _ _=>(vW (mj (CJ hr) (gc Fk.yC Tp.wz hr Fx zY (aA (bL 2) (aA aR aH))) (bL 3)))) (λ_ _ _ _ _ _=>(jO (aA (bL 1) (aA (bL 0) aH)))))))
 aO))
 (aG (cC (jO (aA (gv 1) (aA (zO Tp.z3 gk (aA (gv 3) aH)) aH))))
 aO))))
 Xb:=fJ Tp.O6 ["_law_k","_law_one","_law_other","_law_there"] zpT λ_ _ _ _ _ _ hr=>(aG (gC 3 nd rfl jl rfl (zo2 Tp.z14 gk (aA (fC CG (gv 1) (gv 2)) aH)))
 (aG (cC (zjn rfl Tp.O9 gk (aA (gv 3) (aA (fC CG (gv 0) (gv 3)) aH))))
 aO))
 t46:=fJ Tp.WW Wn zpN λ_ _ _ _ _ _ hr=>(aG (gC 2 nd rfl jl rfl (ql (aA (jO aH) aH)))
 (aG (u9 u6 rfl rfl (u5 Tp.z9 gk (cJ (gv 0) aR)) (xY 3 nd rfl jc rfl) (aG (Nz 4 (au (top 59)) Wn ["_law_tie"] ["_law_place"] [3] nd rfl jl rfl rfl rfl rfl (by decide +kernel) (by decide +kernel) (lZ 0) (by decide +kernel) (nM (cJ (gv 0) aR)) (λ_ _ _ _ _ _=>(mC 0 (by decide +kernel) rfl (by decide +kernel))) (λ_ _ _ _ _ _=>(vW (mj (zK hr) (cJ (bL 0) aR) (bL 1)))) (λ_ _ _ _ _ _=>(cJ (bL 0) aR)))
 (aG (gC 5 nd rfl jl rfl (ql aH))
 (aG (u9 u6 rfl rfl (nM (gv 2)) (xY 6 nd rfl jc rfl) (aG (u9 u6 rfl rfl (u5 Tp.z9 gk (cJ (gv 1) aR)) (xY 7 nd rfl jc rfl) (aG (iD (mj (zK hr) (oV (au (top 59)) Wn ["_law_one"] ["_law_ring","_law_row","_law_spot"] [1,6,7] rfl rfl rfl (by decide +kernel) (by decide +kernel) (lZ 0) (by decide +kernel) (nM (gv 4)) (λ_ _ _ _ _ _=>(mC 0 (by decide +kernel) rfl (by decide +kernel))) (λ_ _ _ _ _ _=>(vW (mj (CJ hr) (gc Fk.Xb Tp.O6 hr Fx zY (aA (cJ (bL 1) aR) (aA (cJ (bL 2) (bL 0)) (aA (bL 3) aH)))) (cJ (bL 1) aR)))) (λ_ _ _ _ _ _=>(bL 0))) (ql aH)) (aG (lF (Nv (gv 5) (fC nA (gv 6) (jO (aA (gv 7) aH)))))
 aO) aO)
 aO))
 aO))
 (aG (gC 2 nd rfl jl rfl (gv 5))
 aO)))))
 (aG (cC (gv 2))
 aO)))
 t47:=fJ Tp.WX ["_law_pen_here","_law_some"] zpt λ_ _ _ _ _ _ hr=>(aG (gC 1 nd rfl jl rfl (ql (aA (jO (aA aR (aA aR aH))) (aA (jO (aA aR (aA aR aH))) (aA (jO (aA aR (aA aR aH))) (aA (jO (aA aR (aA aR aH))) (aA (jO (aA aR (aA aR aH))) (aA (jO (aA aR (aA aR aH))) (aA (jO (aA aR (aA aR aH))) (aA (jO (aA aR (aA aR aH))) (aA (jO (aA aR (aA aR aH))) (aA (jO (aA aR (aA aR aH))) (aA (jO (aA aR (aA aR aH))) (aA (jO (aA aR (aA aR aH))) aH))))))))))))))
 (aG (cC (cJ (gv 1) (gc Fk.yC Tp.wz hr bK gk (aA (gv 0) (aA aR aH)))))
 aO))
 t48:=fJ Tp.WY N48 zpI λ_ _ _ _ _ _ hr=>(aG (iD (mj (zK hr) (cJ (gv 0) aR) (jO aH)) (aG (cC rz)
 aO) aO)
 (aG (Fy 2 3 rfl rfl nd rfl rfl jc jc rfl rfl (cJ (cJ (gv 0) aR) aR))
 (aG (gC 4 nd rfl jl rfl (gc Fk.t29 Tp.Ww hr bK gk (aA (gv 0) (aA (gv 2) (aA (gv 3) aH)))))
 (aG (Nz 5 (au (top 61)) N48 ["_law_row"] ["_law_ring","_law_one","_law_other"] [1,2,3] nd rfl jl rfl rfl rfl rfl (by decide +kernel) (by decide +kernel) (lZ 0) (by decide +kernel) (nM (gc Fk.t46 Tp.WW hr bK gk (aA (gv 4) (aA (gv 1) aH)))) (λ_ _ _ _ _ _=>(mC 0 (by decide +kernel) rfl (by decide +kernel))) (λ_ _ _ _ _ _=>(vW (mj (CJ hr) (gc Fk.Xb Tp.O6 hr Fx zY (aA (cJ (bL 1) aR) (aA (cJ (bL 0) (bL 2)) (aA (cJ (bL 0) (bL 3)) aH)))) (cJ (bL 1) aR)))) (λ_ _ _ _ _ _=>(bL 0)))
 (aG (cC (zL (zK hr) (gc Fk.z_ Tp.yx hr bK gk (aA (gv 4) (aA (gv 1) aH))) (fC nA (gc Fk.z_ Tp.yx hr bK gk (aA (gv 0) (aA (gv 1) aH))) (zN Tp.z4 gk (aA (gv 5) aH)))))
 aO)))))
 t49:=fJ Tp.O7 ["_law_script","_law_cell_here","_law_pen_here","_law_one","_law_other","_law_ring","_law_both","_law_place","_law_there","_law_web_here"] zpd λ_ _ _ _ _ _ hr=>(aG (u9 u6 rfl rfl (nM (fC nA (ql (aA (gc Fk.t41 Tp.WR hr bK gk (aA (gv 0) (aA aR aH))) aH)) (Nq (gv 0) (Jx aR) (Jx aR)))) (xY 1 nd rfl jl rfl) (aG (gC 2 nd rfl jl rfl (gc Fk.t42 Tp.WT hr bK gk (aA (gv 1) aH)))
 (aG (zmD 3 4 rfl rfl nd rfl rfl (by decide) jl jl (gc Fk.Pj Tp.KR hr bK gk (aA (gv 2) (aA (fC nA aR (gc Fk.yC Tp.wz hr bK gk (aA (gv 2) (aA aR aH)))) aH))) (gc Fk.Pj Tp.KR hr bK gk (aA (gv 2) (aA (fC nA aR (gc Fk.yC Tp.wz hr bK gk (aA (gv 2) (aA aR aH)))) aH))) rfl)
 (aG (gC 5 nd rfl jl rfl (gc Fk.t47 Tp.WX hr bK gk (aA (gv 2) aH)))
 (aG (gC 6 nd rfl jl rfl (fC Fp (gc Fk.z_ Tp.yx hr bK gk (aA (gv 3) (aA (gv 5) aH))) (gc Fk.z_ Tp.yx hr bK gk (aA (gv 4) (aA (gv 5) aH)))))
 (aG (iD (mj (Nm hr) (gc Fk.z_ Tp.yx hr bK gk (aA (gc Fk.t30 Tp.Wx hr bK gk (aA (gv 3) (aA (gv 4) aH))) (aA (gv 5) aH))) (gv 6)) (aG (cC rz)
 aO) aO)
 (aG (zmD 7 8 rfl rfl nd rfl rfl (by decide) jl jl (gc Fk.yC Tp.wz hr bK gk (aA (gv 2) (aA (cJ (gv 3) aR) aH))) (gc Fk.yC Tp.wz hr bK gk (aA (gv 2) (aA (cJ (gv 4) aR) aH))) rfl)
 (aG (iD (mj (Nm hr) (fC Fp (cJ (gv 5) aR) (gc Fk.z_ Tp.yx hr bK gk (aA (gc Fk.t31 Tp.Wy hr bK gk (aA (gv 3) (aA (gv 4) (aA (gv 7) (aA (gv 8) aH))))) (aA (gv 5) aH)))) (gv 6)) (aG (cC rz)
 aO) aO)
 (aG (gC 9 nd rfl jl rfl (gc Fk.Pj Tp.KR hr bK gk (aA (gv 2) (aA (fC nA aR (gc Fk.yC Tp.wz hr bK gk (aA (gv 2) (aA aR aH)))) aH))))
 (aG (iD (tL (mz (gc Fk.t48 Tp.WY hr bK gk (aA (gv 9) (aA (gv 5) aH))))) (aG (cC rz)
 aO) aO)
 (aG (iD (mj (Nm hr) (zL TQ (gc Fk.z_ Tp.yx hr bK gk (aA (gv 9) (aA (gv 5) aH))) aR) (zjc (gc Fk.t36 Tp.WL hr bK gk (aA (gv 9) (aA (gv 5) aH))))) (aG (cC rz)
 aO) aO)
 aO)))))))))))
 (aG (cC rz)
 aO))
theorem zjp(Tp:Top K mg):∀k,Fs P w K mg base k
 |0=>⟨dB,dB,dB,dB,dB,dB,dB,dB,dB,dB,dB,dB,dB,dB,ziM,dB,dB,dB,dB,dB,dB,dB,dB,dB,dB,dB,dB,dB,dB,dB,dB,dB,dB,dB,dB,dB,dB,dB,dB,dB,dB,dB,dB,dB,dB,dB,dB,dB,dB,dB⟩
 |k+1=>zkw Tp (zjp Tp k)
end
theorem all_mk{l:PySem.W.OpenLaw}{w:World}{K:W.Frag}{h:Heap}{mg:Str->Option Value}{fa:Addr}(hm:∀ns:List Int,ns.length<=63->∃s',call aq T 60 true 49 [.d (.fl (ns.map D.int))] []=some (.ok (.d (.bl true)),s'))
  (S:rC fs ms xs lk bd K) (X:K.In h) (G:h.Ns mainGlobals mg) (Xc:mg "law"=some (.ref fa)) :
  ∃fd:FuncData,(∀(s:Shared) (u:Value),BindsTo s fd ⟨[u],[]⟩ [("_law_script",u)])/\∀base:Heap,K.In base->base.Ns mainGlobals mg->cH l.prog w K mg base (gU l.prog w) true 60 fa fd ["_law_script"] (uV K):=by
 have Tp:Top K mg:=zmH S X G;have e:=Xc.symm.trans Tp.O7.m;cases e;exact⟨_,CP Tp.O7.f (λ_ _ _ _ _ _ _=>rfl),λbase _ _=>(zjp Tp 60).t49.imp (zjC hm)⟩
end eY
namespace eY
open PySem Mi
section
variable {al:Bool}{n k:Nat}{es:Nat->List Int}{A:Int->Int->Bool}{F:Fr}{p:Nat}{x y:Int}
theorem zlM{k':Nat}(hx:0<=x/\x<k)(hy:0<=y/\y<k):W (call aq T (k'+1) true 15 [.d (jB al n k es A),.d (.int x),.d (.int y)]) [] λv s=>v=.d (.bl (A x y)):=by
 refine W.call zpy rfl ?_;unfold Vv jB;refine Y ?_;refine fW (rB hx.1 (zon hx.1 hx.2)) ?_;refine Y ?_;refine fW (rB hy.1 (Vh hy.1 hy.2)) ?_;exact Y trivial
theorem KZ{k':Nat}(B:Bo n k es A)(v:Fv n k F)(hp:p<n)(hx:0<=x/\x<k):W (call aq T (k'+2) true 16 [.d (jB al n k es A),.d (jA F),.d (.int p),.d (.int x)]) [] λv s=>v=.d (jA (settle es A F p x)):=by
 refine W.call zpa rfl ?_;unfold Vw jA;have qx:(100:Nat)<=sizeLine:=by decide
 have hn:=B.hn;have hv:=v.len;have ebo:jB al n k es A=.ob 0 [.fl (C_ n es),.tup ((cj k).map .int),.fl (wj k A),.bl al]:=rfl;refine Y ?_;refine KaY rfl ?_;refine Y ?_;refine⟨_,zjd (by lia) (by rw[bO];lia),?_⟩;refine Y ?_;refine fW (rB (by lia) (Vg (by lia))) ?_;refine Y ?_;refine vY (λi J s=>s=[.lst ((((es p).take i).foldl (gF (A x)) (F.set p none)).map bJ)]/\∃a5:Option Xv,J=[some (.d (jB al n k es A)),some (.d (.tup (F.map bJ))),some (.d (.int p)),some (.d (.int x)),some (.l 0),a5]) ⟨?_,_,rfl⟩ (λi z J s e hI=>?_) (λJ s hI=>?_)
 ·show [SO.lst ((F.map bJ).set p .non)]=_;rw[List.take_zero,List.foldl_nil,List.map_set];rfl
 ·obtain⟨rfl,a5,rfl⟩:=hI;rw[fQ] at e;cases ei:(es p)[i]? with
  |none=>
   rw[pC,ei] at e;cases e
  |some q=>
   rw[pC,ei] at e;cases e;have hq:=B.mem p hp q (eZ ei);have ht:(es p).take (i+1)=(es p).take i++[q]:=by rw[yN,ei];rfl
   rw[ht,List.foldl_append,Ls,List.foldl_nil];have hG:(((es p).take i).foldl (gF (A x)) (F.set p none)).length=n:=by rw[Va,pK,hv]
   have lo:∀L,(((es p).take i).foldl (gF (A x)) (F.set p none))[q.toNat]?=some (some L)->(∀y∈L,0<=y/\y<k)/\L.length<=24:=λL hL=>by
    rw[Vb q.toNat (λe he=>(B.mem p hp e (Dn he)).1) (by rw[pK];lia),qy (by lia)] at hL;have hz:∀L',F[q.toNat]?=some (some L')->(∀y∈L',0<=y/\y<k)/\L'.length<=24:=λL' h=>⟨v.lo _ L' h,v.ll _ L' h⟩;split at hL
    ·obtain⟨c,e1,e2⟩:=lH.mp hL;cases c with
     |none=>cases e2
     |some L'=>
      cases e2;exact⟨λy hy=>(hz L' e1).1 y (jD.mp hy).1,jo (Ah _ _) (hz L' e1).2⟩
    ·exact hz L hL
   generalize ((es p).take i).foldl (gF (A x)) (F.set p none)=G at hG lo ⊢;obtain⟨c,ec⟩ : ∃c,G[q.toNat]?=some c:=⟨_,cX (by lia)⟩;refine Y ?_;refine fW (rB hq.1 (Ks ec)) ?_;refine Y ?_;cases c with
   |none=>
    refine Y ?_;exact⟨_,rfl,by rw[zil ec],_,rfl⟩
   |some L=>
    obtain⟨l1,l2⟩:=lo L ec;refine Y ?_;refine nO (l:=L) (f:=D.int) (λy=>if A x y=true then some (.int y) else none) (by lia) ?_ (λy hy=>?_) ?_
    ·refine Y ?_;refine fW (rB hq.1 (Ks ec)) ?_;show W (src (.d (.tup (L.map .int)))) _ _;refine Y ?_;exact⟨rfl,rfl⟩
    ·refine Y ?_;refine W.cm rfl rfl (W.c0 (zlM hx (l1 y hy)) ?_);refine Y ?_;refine⟨rfl,λhb=>?_,λhb=>?_⟩
     ·refine Y ?_;exact⟨rfl,_,rfl,by rw[if_pos hb]⟩
     ·rw[if_neg (by rw[hb];decide)]
    ·rw[Vi (α:=Unit)];refine Y ?_;refine⟨_,zjd hq.1 (by rw[bO];lia),?_⟩;refine Y ?_;refine⟨_,rfl,?_,_,rfl⟩;rw[zjy,ec];rfl
 ·obtain⟨rfl,a5,rfl⟩:=hI;rw[bO,pC,tQ];refine Y ?_;rfl
theorem zjv{k':Nat}(B:Bo n k es A)(v:Fv n k F)(hp:p<n):W (call aq T (k'+1) true 17 [.d (jB al n k es A),.d (jA F),.d (.int p)]) [] λv s=>v=.d (.int (dZ es F p)):=by
 refine W.call zpO rfl ?_;unfold Vx jA jB;have qx:(100:Nat)<=sizeLine:=by decide
 have hn:=B.hn;have hv:=v.len;have hl:=B.len p hp;refine Y ?_;refine nO (l:=es p) (f:=D.int) (λe=>if ((λe:Int=>(F[e.toNat]?.join).isSome) e)=true then some (.int e) else none) (by lia) ?_ (λe he=>?_) ?_
 ·refine Y ?_;refine fW (rB (by lia) (Vg (by lia))) ?_;rw[pC];refine Y ?_;exact⟨rfl,rfl⟩
 ·have hq:=B.mem p hp e he;obtain⟨c,ec⟩ : ∃c,F[e.toNat]?=some c:=⟨_,cX (by lia)⟩;refine Y ?_;refine fW (rB hq.1 (Ks ec)) ?_;refine Y ?_;have hc:(F[e.toNat]?.join).isSome=c.isSome:=by rw[ec];rfl
  have hd:(!(bJ c).uF)=c.isSome:=by cases c<;>rfl
  rw[hd];refine⟨rfl,λhb=>?_,λhb=>?_⟩
  ·refine Y ?_;exact⟨rfl,_,rfl,if_pos (hc.trans hb)⟩
  ·exact if_neg (λz=>by rw[hc.symm.trans z] at hb;cases hb)
 ·rw[Vi (α:=Unit)];refine Y ?_;show Xv.d (.int (((((es p).filter _).map D.int).length:Nat):Int))=_;rw[bO];rfl
theorem zkr{k':Nat}(B:Bo n k es A)(v:Fv n k F):W (call aq T (k'+2) true 18 [.d (jB al n k es A),.d (jA F)]) [] λv s=>v=.d (jA (bnd es F)):=by
 refine W.call zpE rfl ?_;unfold Vy;have qx:(100:Nat)<=sizeLine:=by decide
 have hn:=B.hn;have hv:=v.len;refine Y ?_;refine nO (l:=F.zipIdx 0) (f:=λq=>.tup [.int q.2,bJ q.1]) (λq=>some (bJ (if 0<dZ es F q.2 then q.1 else none))) (by rw[List.length_zipIdx];lia) ?_ (λq hq=>?_) ?_
 ·refine KaO ?_;refine Y ?_;refine KaN ?_;rw[zbC];exact⟨rfl,rfl⟩
 ·obtain⟨c,i⟩:=q;have hi:i<n:=by
   have:=List.mem_zipIdx hq
   lia
  refine Y ?_;refine⟨rfl,λ_=>?_,λhb=>by cases hb⟩;refine Y ?_;refine W.cm rfl rfl (W.c0 (zjv B v hi) ?_);refine Y ?_;refine W.ite (λh1=>?_) (λh1=>?_)
  ·refine Y ?_;have h1:0<dZ es F i:=by simpa using h1
   exact⟨rfl,_,rfl,by rw[if_pos h1]⟩
  ·refine Y ?_;have h1:¬0<dZ es F i:=by simpa using h1
   exact⟨rfl,_,rfl,by rw[if_neg h1];rfl⟩
 ·rw[zX];refine Y ?_;show Xv.d (.tup _)=_;unfold jA bnd;rw[List.mapIdx_eq_zipIdx_map,rG];rfl
end
theorem zh9{k:Nat}{n i:Int}{ps:List (Int×Int)}(h:Web n ps):W (call aq T (k+1) true 12 [.d (aL n ps),.d (.int i)]) [] λv s=>v=.d (.tup ((bf i ps).map .int)):=by
 refine W.call zpP rfl ?_;unfold Vr aL;have hl:(ps.map bT).length<=100:=by rw[bO];have:=h.len;have:=h.h8;lia
 have hs:(100:Nat)<=sizeLine:=by decide
 refine Y ?_;refine nO (l:=ps) (f:=bT) (λp=>(endOf i p).map .int) (by rw[bO] at hl;lia) ?_ (λp hp=>?_) ?_
 ·refine Y ?_;exact⟨rfl,rfl⟩
 ·obtain⟨a,b⟩:=p;refine Y ?_;refine⟨rfl,λhb=>?_,λhb=>?_⟩
  ·refine Y ?_;refine W.ite (λh1=>?_) (λh1=>?_)
   ·refine Y ?_;refine⟨rfl,_,rfl,?_⟩;have h1:a=i:=by simpa using h1
    simp[endOf,h1]
   ·refine Y ?_;refine⟨rfl,_,rfl,?_⟩;simp[pF] at h1 hb;rcases hb with hb|hb
    ·exact absurd hb h1
    ·simp[endOf,h1,hb]
  ·simp[pF] at hb;simp[endOf,hb]
 ·have he:ps.filterMap (λp=>(endOf i p).map D.int)=(bf i ps).map D.int:=by unfold bf;rw[List.map_filterMap]
  rw[he];refine Y ?_;refine yh (zdG (zh3 ?_ (N8 h i))) ?_
  ·have:=Dl (endOf i) ps;have:=h.len;have:=h.h8;unfold bf
   lia
  exact Y trivial
section
variable {al:Bool}{n k:Nat}{es:Nat->List Int}{A:Int->Int->Bool}{F:Fr}{p:Nat}{x y:Int}
theorem Xd{k':Nat}(B:Bo n k es A)(v:Fv n k F):W (call aq T (k'+2) true 19 [.d (jB al n k es A),.d (jA F)]) [] λv s=>(v=.d .non/\∀(i:Nat) L,F[i]?≠some (some L))\/∃(p:Nat) (L:List Int),v=.d (.int p)/\F[p]?=some (some L):=by
 refine W.call zpi rfl ?_;unfold Vz;have qx:(100:Nat)<=sizeLine:=by decide
 have hn:=B.hn;have hv:=v.len;refine Y ?_;refine KaN ?_;refine vY (λi J s=>∃(rs:List (List Int)) (a3 a4:Option Xv),s=[.lst (rs.map λr=>D.tup (r.map .int))]/\J=[some (.d (jB al n k es A)),some (.d (jA F)),some (.l 0),a3,a4]/\rs.length<=i/\(∀r∈rs,∃(a b:Int) (p:Nat) (L:List Int),r=[a,b,(p:Int)]/\F[p]?=some (some L))/\(rs=[]->∀j,j<i->∀L,F[j]?≠some (some L))) ⟨[],_,_,rfl,rfl,bU _,by simp,λ_ j hj=>absurd hj (by lia)⟩ (λi z J s e hI=>?_) (λJ s hI=>?_)
 ·obtain⟨rs,a3,a4,rfl,rfl,hl,h1,h2⟩:=hI;rw[Us,fQ] at e;cases ei:F[i]? with
  |none=>rw[ei] at e;cases e
  |some c=>
   rw[ei] at e;cases e;have hi:i<n:=by have:=(dO.mp ei).1;lia
   cases c with
   |none=>
    refine Y ?_;refine⟨_,rfl,rs,_,_,rfl,rfl,by lia,h1,λer j hj L=>?_⟩;by_cases z:j=i
    ·rw[z,ei];exact λq=>by cases q
    ·exact h2 er j (by lia) L
   |some L=>
    refine Y ?_;refine W.cm rfl rfl (W.c0 (zjv (p:=0+i) B v (by lia)) ?_);refine Y ?_;refine⟨by rw[bO];lia,?_⟩;refine Y ?_;refine⟨_,rfl,rs++[[(((L.map D.int).length:Nat):Int),-(dZ es F (0+i):Int),((0+i:Nat):Int)]],_,_,?_,rfl,by simp;lia,λr hr=>?_,λer=>by simp at er⟩
    ·rw[mJ];rfl
    ·rcases jR.mp hr with hr|hr
     ·exact h1 r hr
     ·rw[nJ.mp hr];exact⟨_,_,i,L,by rw[Nat.zero_add],ei⟩
 ·obtain⟨rs,a3,a4,rfl,rfl,hl,h1,h2⟩:=hI;rw[Ut,bO] at h2;refine Y ?_;refine W.Ew ?_;refine Y ?_;refine⟨_,rfl,?_⟩;by_cases er:rs=[]
  ·subst er;refine Y ?_;refine .inl ⟨rfl,λi L e=>?_⟩;exact h2 rfl i (dO.mp e).1 L e
  ·have et:(!(rs.map λr=>D.tup (r.map .int)).isEmpty)=true:=by
    cases rs with
    |nil=>exact absurd rfl er
    |cons=>rfl
   rw[et];obtain⟨r,hr,em⟩:=zl4 er;refine Y ?_;refine fW em ?_;obtain⟨a,b,p,L,rfl,ep⟩:=h1 r hr;refine Y ?_;exact .inr ⟨p,L,rfl,ep⟩
noncomputable def Gb(k:Nat):Option (List Int)->Bool
 |none=>true
 |some L=>decide (L=cj k)
theorem zdy{k':Nat}(B:Bo n k es A)(v:Fv n k F):W (call aq T (k'+1) true 20 [.d (jB al n k es A),.d (jA F)]) [] λv s=>v=.d (.bl (F.all (Gb k))):=by
 refine W.call zpl rfl ?_;unfold VB;have qx:(100:Nat)<=sizeLine:=by decide
 have hn:=B.hn;have hv:=v.len;refine Y ?_;refine nO (l:=F) (f:=bJ) (λc=>some (.bl (Gb k c))) (by lia) ?_ (λc hc=>?_) ?_
 ·refine Y ?_;show W (src (.d (.tup (F.map bJ)))) _ _;refine Y ?_;exact⟨rfl,rfl⟩
 ·cases c with
  |none=>
   refine Y ?_;refine⟨rfl,λ_=>?_,λhb=>by cases hb⟩;refine Y ?_;exact⟨rfl,_,rfl,rfl⟩
  |some L=>
   refine Y ?_;refine⟨rfl,λ_=>?_,λhb=>by cases hb⟩;refine Y ?_;refine fW (zoj (f:=id)) ?_;exact⟨rfl,_,rfl,rfl⟩
 ·rw[zX];refine Y ?_;refine fW zjr ?_;rfl
end
section
variable {n k d:Int}{ps:List (Int×Int)}
theorem zgN{k':Nat}(h:Web n ps):W (call aq T (k'+2) true 13 [.d (aL n ps)]) [] λv s=>v=.d (.fl (C_ n.toNat λi=>bf i ps)):=by
 refine W.call zpr rfl ?_;unfold Vt;have qx:(100:Nat)<=sizeLine:=by decide
 have h1:=h.h1;have h8:=h.h8;refine Y ?_;refine nO (l:=List.range (n-0).toNat) (f:=λ(j:Nat)=>.int (0+j)) (λ(i:Nat)=>some (.tup ((bf i ps).map .int))) (by rw[lK];lia) ?_ (λj hj=>?_) ?_
 ·unfold aL;refine Y ?_;refine⟨by rw[jz (by lia) (by lia),jz (by lia) (by lia)];rfl,?_⟩;exact⟨rfl,rfl⟩
 ·refine Y ?_;refine⟨rfl,λ_=>?_,λhb=>by cases hb⟩;refine Y ?_;refine W.c0 (zh9 h) ?_;exact⟨rfl,_,rfl,by rw[show (0:Int)+j=j by lia]⟩
 ·rw[show (List.range (n-0).toNat).filterMap (λ(i:Nat)=>some (D.tup ((bf i ps).map .int)))=C_ n.toNat λi=>bf i ps by rw[zX,show n-0=n by lia];rfl];exact Y trivial
theorem zlT{k':Nat}{al:Bool}{A:Int->Int->Bool}(h:Web n ps){m:Nat}(hm:m<=24):W (call aq T (k'+3) true 14 [.d .any,.d (aL n ps),.d (.fl (wj m A)),.d (.bl al)]) [] λv s=>v=.d (.tup [.fl (C_ n.toNat λi=>bf i ps),.tup ((cj m).map .int),.fl (wj m A),.bl al]):=by
 refine W.call zpx rfl ?_;unfold Vu;refine Y ?_;refine W.c0 (zgN h) ?_;have em:(wj m A).length=m:=by unfold wj;simp
 refine Kai (Ka2 (ds:=[.int ((wj m A).length:Nat)]) rfl (fW (d:=.tup ((cj m).map .int)) (by rw[em];exact zoa (by lia)) ?_));exact Y trivial
theorem zhs{k':Nat}(h:Web n ps)(hd:1<=d)(Gd:d<=k)(hk:k<=24):W (call aq T (k'+4) true 21 [.d (aL n ps),.d (bA k d)]) [] λv s=>v=.d (Vf n.toNat k.toNat (λi=>bf i ps) (cD k d)):=by
 refine W.call zpM rfl ?_;unfold VD bA;have qx:(100:Nat)<=sizeLine:=by decide
 have e0:(k-0).toNat=k.toNat:=by lia
 refine Y ?_;refine nO (l:=List.range (k-0).toNat) (f:=λ(j:Nat)=>.int (0+j)) (λ(j:Nat)=>some (.bl ((λj:Int=>decide (d<=j/\d<=k-j)) j))) (by rw[lK];lia) ?_ (λj hj=>?_) ?_
 ·refine Y ?_;refine⟨by rw[jz (by lia) (by lia),jz (by lia) (by lia)];rfl,?_⟩;exact⟨rfl,rfl⟩
 ·refine Y ?_;refine⟨rfl,λ_=>?_,λhb=>by cases hb⟩;refine Y ?_;refine⟨rfl,_,rfl,?_⟩
  congr 2
  rw[rE]
  split<;>lia
 ·rw[zX,e0];refine Y ?_;refine W.mk (vs:=[.d (aL n ps),.d (.fl (wj k.toNat (cD k d))),.d (.bl true)]) ?_ rfl (zlT h (by lia));refine Y ?_;refine nO (l:=List.range (k-0).toNat) (f:=λ(j:Nat)=>.int (0+j)) (λ(a:Nat)=>some (.fl ((List.range k.toNat).map λ(b:Nat)=>.bl (cD k d a b)))) (by rw[lK];lia) ?_ (λa ha=>?_) ?_
  ·refine Y ?_;refine⟨by rw[jz (by lia) (by lia),jz (by lia) (by lia)];rfl,?_⟩;exact⟨rfl,rfl⟩
  ·have ha:=tR.mp ha;refine Y ?_;refine⟨rfl,λ_=>?_,λhb=>by cases hb⟩;refine Y ?_;refine nO (l:=List.range (k-0).toNat) (f:=λ(j:Nat)=>.int (0+j)) (λ(b:Nat)=>some (.bl (cD k d a b))) (by rw[lK];lia) ?_ (λb hb=>?_) ?_
   ·refine Y ?_;refine⟨by rw[jz (by lia) (by lia),jz (by lia) (by lia)];rfl,?_⟩;exact⟨rfl,rfl⟩
   ·have hb:=tR.mp hb;refine Y ?_;refine⟨rfl,λ_=>?_,λhb=>by cases hb⟩;refine Y ?_;by_cases c:(0:Int)<=(0+a:Int)-(0+b)
    ·refine fW (rB c (Vh (f:=λj=>decide (d<=j/\d<=k-j)) c (by lia))) ?_;refine⟨rfl,_,rfl,?_⟩;unfold cD
     congr 2
     rw[rE,FN hd]
     lia
    ·refine fW (zoK (x:=.bl (decide (d<=a-b+k/\d<=k-(a-b+k)))) (by lia) (by rw[bO,lK];lia) ?_) ?_
     ·rw[bO,lK];refine(Vh (f:=λj=>decide (d<=j/\d<=k-j)) (by lia) (by lia)).trans ?_
      congr 3
      simp
      lia
     ·refine⟨rfl,_,rfl,?_⟩;unfold cD
      congr 2
      rw[rE,FN hd]
      lia
   ·rw[zX,e0];refine Y ?_;exact⟨rfl,_,rfl,rfl⟩
  ·rw[zX,e0];refine Y ?_;exact⟨rfl,rfl⟩
end
theorem zkV{k:Nat}{i:Int}:W (call aq T (k+1) true 0 [.d (.int i)]) [] λv s=>v=.d (.bl true):=W.eq (a:=.d (.bl true)) (s':=[]) rfl rfl
theorem K1{k:Nat}{a b:D}:W (call aq T (k+1) true 2 [.d (.tup [a,b]),.d (.int 2)]) [] λv s=>v=.d (.bl true):=W.eq (a:=.d (.bl true)) (s':=[]) rfl rfl
theorem iW{k:Nat}{i a b:Int}:W (call aq T (k+2) true 1 [.d (.int i),.d (.int a),.d (.int b)]) [] λv s=>v=.d (.bl (decide (a<=i/\i<=b))):=by
 refine W.call T_1 rfl ?_;unfold b1;refine Y ?_;refine W.c0 zkV ?_;refine Y ?_;refine W.ite (λh1=>?_) (λh1=>?_)
 ·refine Y ?_;have:=gG h1;simp[this]
 ·refine Y ?_;simp at h1;have:¬(a<=i/\i<=b):=by lia
  simp[this]
theorem zje{k:Nat}{i:Int}(h1:1<=i)(h2:i<=8):W (call aq T (k+3) true 6 [.d (.int i)]) [] λv s=>v=.d (.bl true):=by
 refine W.call T_6 rfl ?_;unfold b6;refine Y ?_;exact qp rfl (iW.imp λv s e=>⟨_,e,by rw[fu (And.intro h1 h2)]⟩)
theorem K3{k:Nat}{n i:Int}:W (call aq T (k+3) true 7 [.d (.int n),.d (.int i)]) [] λv s=>v=.d (.bl (decide (0<=i/\i<n))):=by
 refine W.call T_7 rfl ?_;unfold b7;refine Y ?_;exact qp rfl (iW.imp λv s e=>⟨_,e,by rw[rE.mpr (show 0<=i/\i<=n-1↔0<=i/\i<n by lia)]⟩)
theorem zol{k:Nat}{n:Int}{p:Int×Int}(h:0<=p.1/\p.1<p.2/\p.2<n):W (call aq T (k+4) true 8 [.d (.int n),.d (bT p)]) [] λv s=>v=.d (.bl true):=by
 obtain⟨a,b⟩:=p;obtain⟨h1,h2,h3⟩:=h;unfold bT;dsimp only at h1 h2 h3 ⊢;refine W.call Wh rfl ?_;unfold b8;refine Y ?_;refine W.c0 K1 ?_;refine Y ?_;refine W.c0 K3 ?_;rw[fu (show 0<=a/\a<n by lia)];refine Y ?_;refine W.c0 K3 ?_;rw[fu (show 0<=b/\b<n by lia)];refine Y ?_;rw[fu h2]
theorem zkD{k:Nat}{n:Int}{ps:List (Int×Int)}(h:Web n ps):W (call aq T (k+5) true 4 [.d (aL n ps)]) [] λv s=>v=.d (.bl true):=by
 refine W.call T_4 rfl ?_;unfold b4 aL;have hl:(ps.map bT).length<=100:=by rw[bO];have:=h.len;have:=h.h8;lia
 have hs:(100:Nat)<=sizeLine:=by decide
 refine Y ?_;refine W.c0 K1 ?_;refine Y ?_;refine W.c0 (zje h.h1 h.h8) ?_;refine Y ?_;refine Kau (c:=ps.map bT) (λ_=>.bl true) (by lia) ?_ (λx hx=>?_) ?_
 ·refine Y ?_;exact⟨rfl,rfl⟩
 ·obtain⟨p,hp,rfl⟩:=jE.mp hx;refine Y ?_;exact qp rfl ((zol (h.tie p hp)).imp λv s e=>⟨_,e,rfl,rfl⟩)
 ·refine Y ?_;refine fW (ziZ ?_) ?_
  ·intro x hx;obtain⟨_,_,e⟩:=jE.mp hx;exact e.symm
  refine Y ?_;refine Kau (c:=List.zipWith (λ(p q:D)=>D.tup [p,q]) (ps.map bT) ((ps.map bT).drop 1)) (λ_=>.bl true) (by rw[List.length_zipWith];lia) ?_ (λx hx=>?_) ?_
  ·refine Y ?_;rw[Ur];exact⟨rfl,rfl⟩
  ·obtain⟨p,q,rfl,hpq⟩:=zji h.inc x hx;refine Y ?_;rw[zoW hpq];exact⟨rfl,rfl⟩
  ·refine Y ?_;refine fW (ziZ ?_) ?_
   ·intro x hx;obtain⟨_,_,e⟩:=jE.mp hx;exact e.symm
   rfl
theorem Dh{k:Nat}{n:Int}{ps:List (Int×Int)}(h:Web n ps):W (call aq T (k+6) true 10 [.d (aL n ps)]) [] λv s=>∃d,v=.d d:=by
 refine W.call zpH rfl ?_;unfold b10;refine Y ?_;refine W.c0 (zkD h) ?_;refine Y ?_;exact⟨_,rfl⟩
theorem Pk{k:Nat}{n i:Int}{ps:List (Int×Int)}(h:0<=i/\i<n):W (call aq T (k+4) true 11 [.d (aL n ps),.d (.int i)]) [] λv s=>∃d,v=.d d:=by
 refine W.call zpA rfl ?_;unfold Vq aL;refine Y ?_;refine W.c0 K3 ?_;rw[fu h];refine Y ?_;exact⟨_,rfl⟩
theorem ziL{k':Nat}{k d:Int}(hd:1<=d)(Gd:d<=k)(hk:k<=24):W (call aq T (k'+3) true 22 [.d (bA k d)]) [] λv s=>v=.d (.bl true):=by
 refine W.call zpo rfl ?_;unfold VF bA;refine Y ?_;refine W.c0 K1 ?_;refine Y ?_;refine W.c0 iW ?_;rw[fu (show 1<=k/\k<=24 by lia)];refine Y ?_;refine W.c0 iW ?_;rw[fu (show 1<=d/\d<=k by lia)]
theorem zdU{k':Nat}{k d:Int}(hd:1<=d)(Gd:d<=k)(hk:k<=24):W (call aq T (k'+4) true 23 [.d (bA k d)]) [] λv s=>∃d,v=.d d:=by
 refine W.call zpJ rfl ?_;unfold VG;refine Y ?_;refine W.c0 (ziL hd Gd hk) ?_;refine Y ?_;exact⟨_,rfl⟩
section
variable {al:Bool}{n k:Nat}{es:Nat->List Int}{A:Int->Int->Bool}
def Told(al:Bool)(n k:Nat)(es:Nat->List Int)(A:Int->Int->Bool)(f l m c:Nat):Prop:=∀F kvs,Fv n k F->unset F<=m->lG es A kvs->kvs.length+c<sizeLine->
 W (call aq T l true f [.d (jB al n k es A),.l 0,.d (jA F)]) [.dct kvs] λv s=>∃b kvs',v=.d (.bl b)/\(b=true↔Sat es A F)/\s=[.dct kvs']/\lG es A kvs'/\kvs'.length<=kvs.length+c
theorem Xe{l m c:Nat}(B:Bo n k es A)(H:Told al n k es A 39 (l+2) m c){F:Fr}{p:Nat}{L:List Int}{kvs:jd}(v:Fv n k F)(hu:unset F<=m+1)(hL:F[p]?=some (some L))(ha:lG es A kvs)(hl:kvs.length+k*c<sizeLine) :
  W (call aq T (l+3) true 38 [.d (jB al n k es A),.l 0,.d (jA F),.d (.int p)]) [.dct kvs] λv s=>∃kvs',s=[.dct kvs']/\lG es A kvs'/\kvs'.length<=kvs.length+k*c /\
   ((v=.d .non/\∀x∈L,¬Sat es A (settle es A F p x))\/∃x∈L,v=.d (.int x)/\Sat es A (settle es A F p x)/\∀y∈L,y<x->¬Sat es A (settle es A F p y)):=by
 refine W.call Wi rfl ?_;unfold OD;have qx:(100:Nat)<=sizeLine:=by decide
 have hp:=rD v.len hL;have hLk:L.length<=k:=Oo (v.so p L hL) (v.lo p L hL);refine Y ?_;refine fW (zmf (by lia) (Ks hL)) ?_;show W (src (.d (.tup (L.map .int)))) _ _;refine Y ?_;refine Kbd (λi J s=>∃(kvs':jd) (a4:Option Xv),s=[.dct kvs']/\J=[some (.d (jB al n k es A)),some (.l 0),some (.d (jA F)),some (.d (.int p)),a4]/\lG es A kvs'/\kvs'.length<=kvs.length+i*c/\∀j y,j<i->L[j]?=some y->¬Sat es A (settle es A F p y)) ⟨kvs,_,rfl,rfl,ha,by lia,λj _ hj=>absurd hj (by lia)⟩ (λi z J s e hI=>?_) (λJ s hI=>?_)
 ·obtain⟨kvs',a4,rfl,rfl,h1,h2,h3⟩:=hI;rw[fQ] at e;cases ei:L[i]? with
  |none=>rw[ei] at e;cases e
  |some x=>
   rw[ei] at e;cases e;have hi:i<L.length:=(dO.mp ei).1;have hx:=eZ ei;have hc:(i+1)*c<=k*c:=Ai _ (by lia);have qI:(i+1)*c=i*c+c:=Ar ..;refine Y ?_;refine W.cm rfl rfl (W.c0 (KZ B v hp (v.lo p L hL x hx)) ?_);refine Y ?_;have hu2:=Kr (es:=es) (A:=A) (x:=x) hL;refine oY (s:=[]) rfl ((H _ kvs' (Kq B v hp) (by lia) h1 (by lia)).imp λv1 s1=>?_);rintro⟨b,dM,rfl,hb,rfl,g1,g2⟩;refine⟨_,_,rfl,rfl,?_⟩;refine Y ?_;cases b with
   |true=>
    refine Y ?_;refine .inr ⟨_,rfl,?_⟩;refine⟨dM,rfl,g1,by lia,.inr ⟨x,hx,rfl,hb.mp rfl,λy hy cV=>?_⟩⟩;obtain⟨j,hj,ej⟩:=yJ hy;refine h3 j y ?_ (by rw[cX hj,ej]);obtain⟨_,ex⟩:=dO.mp ei;exact Nat.lt_of_not_le λq=>by
     rcases Nat.lt_or_eq_of_le q with q|q
     ·have:=Gh.mp (v.so p L hL) i j hi hj q
      lia
     ·subst q;lia
   |false=>
    refine Y ?_;refine .inl ⟨_,rfl,dM,_,rfl,rfl,g1,by lia,λj y hj ej=>?_⟩;by_cases q:j=i
    ·subst q;rw[ei] at ej;cases ej;exact λz=>by cases hb.mpr z
    ·exact h3 j y (by lia) ej
 ·obtain⟨kvs',a4,rfl,rfl,h1,h2,h3⟩:=hI;rw[bO] at h2 h3;have hc:L.length*c<=k*c:=Ai _ hLk;refine Y ?_;refine⟨kvs',rfl,h1,by lia,.inl ⟨rfl,λx hx=>?_⟩⟩;obtain⟨j,hj,ej⟩:=yJ hx;exact h3 j x hj (by rw[cX hj,ej])
theorem ziI{l:Nat}(B:Bo n k es A):Told al n k es A 40 (l+3) 0 0:=by
 intro F kvs v hu ha hl;refine W.call OJ rfl ?_;unfold KN;refine Y ?_;refine W.cm rfl rfl (qp rfl ((Xd B v).imp λx s=>?_));rintro(⟨rfl,hz⟩|⟨p,L,rfl,hL⟩)
 ·refine⟨_,rfl,?_⟩;refine Y ?_;exact⟨true,kvs,rfl,⟨λ_=>Vc hz,λ_=>rfl⟩,rfl,ha,by lia⟩
 ·exact absurd hL (zfr (by lia) p L)
theorem zhQ{l m c:Nat}(B:Bo n k es A)(nH:1<=k)(dU:al=true->∀t a b:Int,0<=a->a<k->0<=b->b<k->A ((a+t)%k) ((b+t)%k)=A a b)(H:∀j,Told al n k es A 39 (l+2+j) m c):Told al n k es A 40 (l+4) (m+1) (k*c):=by
 intro F kvs v hu ha hl;refine W.call OJ rfl ?_;unfold KN;have hkc:1*c<=k*c:=Ai _ nH;refine Y ?_;refine W.cm rfl rfl (qp rfl ((Xd B v).imp λx s=>?_));rintro(⟨rfl,hz⟩|⟨p,L,rfl,hL⟩)
 ·refine⟨_,rfl,?_⟩;refine Y ?_;exact⟨true,kvs,rfl,⟨λ_=>Vc hz,λ_=>rfl⟩,rfl,ha,by lia⟩
 ·refine⟨_,rfl,?_⟩;have hp:=rD v.len hL;cases al with
  |false=>
   refine Y ?_;refine oY (s:=[]) rfl ((Xe B (H 0) v hu hL ha (by lia)).imp λv1 s1=>?_);rintro⟨dM,rfl,g1,g2,h⟩;rcases h with ⟨rfl,rN⟩|⟨x,hx,rfl,hs,_⟩
   ·refine⟨_,_,rfl,rfl,?_⟩;refine Y ?_;refine⟨false,dM,rfl,⟨λz=>(by cases z),λz=>?_⟩,rfl,g1,g2⟩;obtain⟨x,hx,q⟩:=(FQ B v hp hL).mp z;exact absurd q (rN x hx)
   ·refine⟨_,_,rfl,rfl,?_⟩;refine Y ?_;exact⟨true,dM,rfl,⟨λ_=>(FQ B v hp hL).mpr ⟨x,hx,hs⟩,λ_=>rfl⟩,rfl,g1,g2⟩
  |true=>
  have dU:=dU rfl;refine Y ?_;refine W.cm rfl rfl (W.c0 (zdy B v) ?_);refine Y ?_;cases eb:F.all (Gb k) with
  |true=>
   have all:∀(i:Nat) L,F[i]?=some (some L)->L=cj k:=λi L h=>gG (fj.mp eb _ (eZ h));refine Y ?_;refine W.cm rfl rfl (W.c0 (KZ B v hp ⟨by lia,by lia⟩) ?_);refine Y ?_;have hu2:=Kr (es:=es) (A:=A) (x:=0) hL;refine oY (s:=[]) rfl ((H 1 _ kvs (Kq B v hp) (by lia) ha (by lia)).imp λv1 s1=>?_);rintro⟨b,dM,rfl,hb,rfl,g1,g2⟩;refine⟨_,_,rfl,rfl,?_⟩;refine Y ?_;exact⟨b,dM,rfl,hb.trans (Vd B v hp nH dU all (all p L hL▸hL)).symm,rfl,g1,by lia⟩
  |false=>
   refine Y ?_;refine oY (s:=[]) rfl ((Xe B (H 0) v hu hL ha (by lia)).imp λv1 s1=>?_);rintro⟨dM,rfl,g1,g2,h⟩;rcases h with ⟨rfl,rN⟩|⟨x,hx,rfl,hs,_⟩
   ·refine⟨_,_,rfl,rfl,?_⟩;refine Y ?_;refine⟨false,dM,rfl,⟨λz=>(by cases z),λz=>?_⟩,rfl,g1,g2⟩;obtain⟨x,hx,q⟩:=(FQ B v hp hL).mp z;exact absurd q (rN x hx)
   ·refine⟨_,_,rfl,rfl,?_⟩;refine Y ?_;exact⟨true,dM,rfl,⟨λ_=>(FQ B v hp hL).mpr ⟨x,hx,hs⟩,λ_=>rfl⟩,rfl,g1,g2⟩
theorem ziF{l m c:Nat}(B:Bo n k es A)(nH:1<=k)(dU:∀t a b:Int,0<=a->a<k->0<=b->b<k->A ((a+t)%k) ((b+t)%k)=A a b)(H:Told true n k es A 39 (l+3) m c){F:Fr}{kvs:jd}(v:Fv n k F)(hu:unset F<=m+1)(eb:F.all (Gb k)=true)(ha:lG es A kvs)(hl:kvs.length+c<sizeLine) :
  W (call aq T (l+4) true 40 [.d (jB true n k es A),.l 0,.d (jA F)]) [.dct kvs] λv s=>∃b kvs',v=.d (.bl b)/\(b=true↔Sat es A F)/\s=[.dct kvs']/\lG es A kvs'/\kvs'.length<=kvs.length+c:=by
 refine W.call OJ rfl ?_;unfold KN;refine Y ?_;refine W.cm rfl rfl (qp rfl ((Xd B v).imp λx s=>?_));rintro(⟨rfl,hz⟩|⟨p,L,rfl,hL⟩)
 ·refine⟨_,rfl,?_⟩;refine Y ?_;exact⟨true,kvs,rfl,⟨λ_=>Vc hz,λ_=>rfl⟩,rfl,ha,by lia⟩
 ·refine⟨_,rfl,?_⟩;have hp:=rD v.len hL;refine Y ?_;refine W.cm rfl rfl (W.c0 (zdy B v) ?_);refine Y ?_;have all:∀(i:Nat) L,F[i]?=some (some L)->L=cj k:=λi L h=>gG (fj.mp eb _ (eZ h));rw[eb];refine Y ?_;refine W.cm rfl rfl (W.c0 (KZ B v hp ⟨by lia,by lia⟩) ?_);refine Y ?_;have hu2:=Kr (es:=es) (A:=A) (x:=0) hL;refine oY (s:=[]) rfl ((H _ kvs (Kq B v hp) (by lia) ha (by lia)).imp λv1 s1=>?_);rintro⟨b,dM,rfl,hb,rfl,g1,g2⟩;refine⟨_,_,rfl,rfl,?_⟩;refine Y ?_;exact⟨b,dM,rfl,hb.trans (Vd B v hp nH dU all (all p L hL▸hL)).symm,rfl,g1,by lia⟩
theorem zlI{l c:Nat}(B:Bo n k es A){F:Fr}{kvs:jd}(v:Fv n k F)(ha:lG es A kvs)(hl:kvs.length+(1+c)<sizeLine)(H:W (call aq T (l+3) true 40 [.d (jB al n k es A),.l 0,.d (jA (bnd es F))]) [.dct kvs] λv s=>∃b kvs',v=.d (.bl b)/\(b=true↔Sat es A (bnd es F))/\s=[.dct kvs']/\lG es A kvs'/\kvs'.length<=kvs.length+c) :
  W (call aq T (l+4) true 39 [.d (jB al n k es A),.l 0,.d (jA F)]) [.dct kvs] λv s=>∃b kvs',v=.d (.bl b)/\(b=true↔Sat es A F)/\s=[.dct kvs']/\lG es A kvs'/\kvs'.length<=kvs.length+(1+c):=by
 refine W.call zph rfl ?_;unfold V8;refine Y ?_;refine fW (zot (f:=id)) ?_;by_cases e0:some []∈F
 ·rw[fu e0];refine Y ?_;obtain⟨i,hi,ei⟩:=yJ e0;refine⟨false,kvs,rfl,⟨λz=>(by cases z),λz=>absurd z (zkC (i:=i) (by rw[cX hi,ei]))⟩,rfl,ha,by lia⟩
 ·rw[nQ e0];have ne:∀(i:Nat) L,F[i]?=some (some L)->L≠[]:=λi L h q=>by subst q;exact e0 (eZ h)
  have sb:=zkv B v ne;refine Y ?_;refine W.cm rfl rfl (W.c0 (zkr B v) ?_);refine Y ?_;refine W.BZ rfl rfl (Oj _) rfl ?_;cases eg:cB ((bnd es F).map cellK) kvs with
  |some d=>
   obtain⟨b,rfl,hb⟩:=ha _ _ eg;refine Y ?_;refine W.pY rfl rfl (Oj _) rfl eg ?_;refine Y ?_;exact⟨b,kvs,rfl,hb.trans sb,rfl,ha,by lia⟩
  |none=>
   refine Y ?_;refine WS.dput rfl rfl (Oj _) ?_;refine Y ?_;refine oY (s:=[]) rfl (H.imp λv1 s1=>?_);rintro⟨b,dM,rfl,hb,rfl,g1,g2⟩;refine⟨_,_,rfl,rfl,?_⟩;refine⟨_,dM,rfl,rfl,by lia,?_⟩;refine Y ?_;refine W.pY (v:=.bl b) rfl rfl (Oj _) rfl (by rw[zex,if_pos rfl]) ?_;refine Y ?_;have:=zhR (q:=(bnd es F).map cellK) (d:=.bl b) (kvs:=dM);exact⟨b,_,rfl,hb.trans sb,rfl,zkG g1 hb,by lia⟩
theorem zmT{l m c:Nat}(B:Bo n k es A)(H:Told al n k es A 40 (l+3) m c):Told al n k es A 39 (l+4) m (1+c):=by
 intro F kvs v hu ha hl;have hu2:=zdV (es:=es) (F:=F);exact zlI B v ha hl (H _ kvs (zjs v) (by lia) ha (by lia))
theorem Pn(B:Bo n k es A)(nH:1<=k)(dU:al=true->∀t a b:Int,0<=a->a<k->0<=b->b<k->A ((a+t)%k) ((b+t)%k)=A a b):∀m j,Told al n k es A 39 (3*m+4+j) m (cnt k m)
 |0,j=>by
  rw[show 3*0+4+j=j+4 by lia];exact zmT (c:=0) B (ziI B)
 |m+1,j=>by
  rw[show 3*(m+1)+4+j=(3*m+3+j)+4 by lia];refine zmT B ?_;rw[show 3*m+3+j+3=(3*m+2+j)+4 by lia];refine zhQ B nH dU λi=>?_;rw[show 3*m+2+j+2+i=3*m+4+(j+i) by lia];exact Pn B nH dU m (j+i)
theorem zhT{m j:Nat}(B:Bo n k es A)(nH:1<=k)(dU:∀t a b:Int,0<=a->a<k->0<=b->b<k->A ((a+t)%k) ((b+t)%k)=A a b){F:Fr}{kvs:jd}(v:Fv n k F)(hu:unset F<=m+1)(eb:F.all (Gb k)=true)(ha:lG es A kvs)(hl:kvs.length+(1+cnt k m)<sizeLine) :
  W (call aq T (3*(m+1)+4+j) true 39 [.d (jB true n k es A),.l 0,.d (jA F)]) [.dct kvs] λv s=>∃b kvs',v=.d (.bl b)/\(b=true↔Sat es A F)/\s=[.dct kvs']/\lG es A kvs'/\kvs'.length<=kvs.length+(1+cnt k m):=by
 rw[show 3*(m+1)+4+j=(3*m+3+j)+4 by lia];refine zlI B v ha hl ?_;rw[show 3*m+3+j+3=(3*m+2+j)+4 by lia];have hu2:=zdV (es:=es) (F:=F);refine ziF B nH dU ?_ (zjs v) (jo hu2 hu) ?_ ha (by lia)
 ·rw[show 3*m+2+j+3=3*m+4+(j+1) by lia];exact Pn B nH (λ_=>dU) m (j+1)
 ·refine fj.mpr λc hc=>?_;cases c with
  |none=>rfl
  |some L=>
   obtain⟨i,hi,ei⟩:=yJ hc;have:=CZ (es:=es) (F:=F) (i:=i) (L:=L) (by rw[cX hi,ei]);exact fj.mp eb _ (eZ this.1)
theorem znu{l m c:Nat}(B:Bo n k es A)(nH:1<=k)(dU:∀t a b:Int,0<=a->a<k->0<=b->b<k->A ((a+t)%k) ((b+t)%k)=A a b)(H:Told true n k es A 39 (l+2) m c){F:Fr}{p:Nat}{kvs:jd}(v:Fv n k F)(hu:unset F<=m+1)(all:∀(i:Nat) L,F[i]?=some (some L)->L=cj k)(hL:F[p]?=some (some (cj k)))(sU:Sat es A F)(ha:lG es A kvs)(hl:kvs.length+c<sizeLine) :
  W (call aq T (l+3) true 38 [.d (jB true n k es A),.l 0,.d (jA F),.d (.int p)]) [.dct kvs] λv s=>∃kvs',s=[.dct kvs']/\lG es A kvs'/\kvs'.length<=kvs.length+c /\
   ((v=.d .non/\∀x∈cj k,¬Sat es A (settle es A F p x))\/∃x∈cj k,v=.d (.int x)/\Sat es A (settle es A F p x)/\∀y∈cj k,y<x->¬Sat es A (settle es A F p y)):=by
 refine W.call Wi rfl ?_;unfold OD;have hp:=rD v.len hL;have h0:=(Vd B v hp nH dU all hL).mp sU;refine Y ?_;refine fW (zmf (by lia) (Ks hL)) ?_;show W (src (.d (.tup ((cj k).map .int)))) _ _;refine Y ?_;refine Kbd (λi J s=>i=0/\∃a4:Option Xv,s=[.dct kvs]/\J=[some (.d (jB true n k es A)),some (.l 0),some (.d (jA F)),some (.d (.int p)),a4]) ⟨rfl,_,rfl,rfl⟩ (λi z J s e hI=>?_) (λJ s hI=>?_)
 ·obtain⟨rfl,a4,rfl,rfl⟩:=hI;rw[fQ] at e;have ei:(cj k)[0]?=some 0:=by unfold cj;rw[fQ,Dr (by lia)];rfl
  rw[ei] at e;cases e;have hx:(0:Int)∈cj k:=bB.mpr ⟨by lia,by lia⟩;refine Y ?_;refine W.cm rfl rfl (W.c0 (KZ B v hp ⟨by lia,by lia⟩) ?_);refine Y ?_;have hu2:=Kr (es:=es) (A:=A) (x:=0) hL;refine oY (s:=[]) rfl ((H _ kvs (Kq B v hp) (by lia) ha (by lia)).imp λv1 s1=>?_);rintro⟨b,dM,rfl,hb,rfl,g1,g2⟩;have eb:b=true:=hb.mpr h0;subst eb;refine⟨_,_,rfl,rfl,?_⟩;refine Y ?_;refine .inr ⟨_,rfl,?_⟩;exact⟨dM,rfl,g1,g2,.inr ⟨0,hx,rfl,h0,λy hy cV=>absurd (bB.mp hy).1 (by lia)⟩⟩
 ·obtain⟨hz,_⟩:=hI;rw[bO] at hz;have:(cj k).length=k:=by unfold cj;simp
  lia
end
section
variable {al:Bool}{n k:Nat}{es:Nat->List Int}{A:Int->Int->Bool}
theorem zka{k':Nat}(B:Bo n k es A)(nH:1<=k)(dU:al=true->∀t a b:Int,0<=a->a<k->0<=b->b<k->A ((a+t)%k) ((b+t)%k)=A a b){F0:Fr}(v0:Fv n k F0)(all:∀i,i<n->∃L,F0[i]?=some (some L)){c0 c1:Nat}(hz:c0+c1+tot k (n-1)<sizeLine)
  (Hc:W (call aq T (3*n+4+k') true 39 [.d (jB al n k es A),.l 0,.d (jA F0)]) [.dct []] λv s=>∃b kvs',v=.d (.bl b)/\(b=true↔Sat es A F0)/\s=[.dct kvs']/\lG es A kvs'/\kvs'.length<=c0)
  (Hf:∀kvs L,F0[0]?=some (some L)->Sat es A F0->lG es A kvs->kvs.length<=c0->W (call aq T (3*n+1+k'+3) true 38 [.d (jB al n k es A),.l 0,.d (jA F0),.d (.int (0:Nat))]) [.dct kvs] λv s=>∃kvs',s=[.dct kvs']/\lG es A kvs'/\kvs'.length<=kvs.length+c1 /\
   ((v=.d .non/\∀x∈L,¬Sat es A (settle es A F0 0 x))\/∃x∈L,v=.d (.int x)/\Sat es A (settle es A F0 0 x)/\∀y∈L,y<x->¬Sat es A (settle es A F0 0 y))) :
  W (call aq T (3*n+5+k') true 37 [.d (jB al n k es A),.d (.fl (F0.map bJ))]) [] λv s=>(v=.d .non/\¬Sat es A F0)\/∃hs:List Int,v=.d (.tup (hs.map .int))/\hs.length=n/\qw es A F0 (λj=>at' hs j)/\∀g,qw es A F0 g->∀j,j<n->(∀t,t<j->g t=at' hs t)->at' hs j<=g j:=by
 have hn:=B.hn;have hl:=v0.len;rw[show 3*n+5+k'=(3*n+4+k')+1 by lia];refine W.call zps rfl ?_;unfold V7;have qx:(100:Nat)<=sizeLine:=by decide
 have Jj:unset F0<=n:=by unfold unset;rw[<-hl];exact List.countP_le_length
 refine Y ?_;refine W.rT ?_;refine Y ?_;refine oY (s:=[]) rfl (Hc.imp λv1 s1=>?_);rintro⟨b,kvs,rfl,hb,rfl,g1,g2⟩;refine⟨_,_,rfl,rfl,?_⟩;refine Y ?_;cases b with
 |false=>
  refine Y ?_;exact .inl ⟨rfl,λz=>by cases hb.mpr z⟩
 |true=>
  have sU:=hb.mp rfl;refine Y ?_;have K4:((F0.map bJ).length:Int)=n:=by rw[bO,hl]
  refine⟨by rw[K4,jz (by lia) (by lia),jz (by lia) (by lia)];rfl,?_⟩;rw[K4];refine vY (c:=(List.range ((n:Int)-0).toNat).map λ(j:Nat)=>.int (0+j)) (λi J s=>∃(kvs':jd) (Fi:Fr) (hs:List Int) (a5 a6:Option Xv),s=[.dct kvs',.lst (hs.map .int)]/\J=[some (.d (jB al n k es A)),some (.d (.fl (F0.map bJ))),some (.d (jA Fi)),some (.l 0),some (.l 1),a5,a6]/\lG es A kvs'/\(i=0->Fi=F0/\kvs'.length<=c0)/\(1<=i->kvs'.length+tot k (n-i)<=c0+c1+tot k (n-1))/\hs.length=i/\Fv n k Fi/\unset Fi<=n-i/\(∀j,i<=j->j<n->∃L,Fi[j]?=some (some L))/\Sat es A Fi /\
   (∀g,qw es A Fi g->qw es A F0 λj=>if j<i then at' hs j else g j)/\(∀g,qw es A F0 g->(∀t,t<i->g t=at' hs t)->qw es A Fi g)/\(∀g,qw es A F0 g->∀j,j<i->(∀t,t<j->g t=at' hs t)->at' hs j<=g j)) ?_ (λi z J s e hI=>?_) (λJ s hI=>?_)
  ·exact⟨kvs,F0,[],_,_,rfl,rfl,g1,λ_=>⟨rfl,g2⟩,λz=>absurd z (by lia),rfl,v0,by lia,λj _ hj=>all j hj,sU,λg s=>by simpa using s,λg s _=>s,λg _ j hj=>absurd hj (by lia)⟩
  ·obtain⟨kvs',Fi,hs,a5,a6,rfl,rfl,i1,i0,i2,i3,i4,i5,i6,i7,i8,i9,Pq⟩:=hI;rw[fQ] at e;cases ei:(List.range ((n:Int)-0).toNat)[i]? with
   |none=>rw[ei] at e;cases e
   |some j=>
    rw[ei] at e;cases e;obtain⟨hil,ej⟩:=dO.mp ei;rw[Gq] at ej;rw[lK] at hil;subst ej;obtain⟨L,hL⟩:=i6 i (bU _) (by lia);have ez:((0:Int)+(i:Nat))=(i:Int):=by lia
    dsimp only;rw[ez];have hp:=rD i4.len hL;obtain⟨m,hm⟩ : ∃m,n-i=m+1:=⟨n-i-1,by lia⟩;rw[hm] at i2 i5;have et:tot k (m+1)=k*cnt k m+tot k m:=rfl;refine Y ?_;have lv:3*n+4+k'=(3*n+1+k')+3:=by lia
    refine Kaq (s:=[]) rfl ?_;rw[lv];have H:Told al n k es A 39 (3*n+1+k'+2) m (cnt k m):=by
     rw[show 3*n+1+k'+2=3*m+4+(3*n-3*m+k'-1) by lia];exact Pn B nH dU m _
    obtain⟨c2,qI,hW⟩ : ∃c2,(kvs'.length+c2+tot k m<=c0+c1+tot k (n-1))/\W (call aq T (3*n+1+k'+3) true 38 [.d (jB al n k es A),.l 0,.d (jA Fi),.d (.int i)]) [.dct kvs'] λv s=>∃dM,s=[.dct dM]/\lG es A dM/\dM.length<=kvs'.length+c2 /\
      ((v=.d .non/\∀x∈L,¬Sat es A (settle es A Fi i x))\/∃x∈L,v=.d (.int x)/\Sat es A (settle es A Fi i x)/\∀y∈L,y<x->¬Sat es A (settle es A Fi i y)):=by
     by_cases c:i=0
     ·subst c;obtain⟨rfl,q⟩:=i0 rfl;have em:n-1=m:=by lia
      rw[em];exact⟨c1,by lia,Hf kvs' L hL sU i1 q⟩
     ·have i2:=i2 (by lia);refine⟨k*cnt k m,by lia,Xe B H i4 i5 hL i1 (by lia)⟩
    clear i2;refine hW.imp λv1 s1=>?_;rintro⟨dM,rfl,q1,q2,h⟩;rcases h with ⟨rfl,rN⟩|⟨x,hx,rfl,Bl,cV⟩
    ·obtain⟨x,hx,q⟩:=(FQ B i4 hp hL).mp i7;exact absurd q (rN x hx)
    ·refine⟨_,_,rfl,rfl,?_⟩;refine Y ?_;refine W.cm rfl rfl (W.c0 (KZ (k':=3*n+2+k') B i4 hp (i4.lo i L hL x hx)) ?_);refine Y ?_;refine⟨by rw[bO];lia,?_⟩;refine Y ?_;have ag:∀j:Nat,j<i->at' (hs++[x]) j=at' hs j:=λj hj=>oZ (by lia) (by lia);have ai:at' (hs++[x]) (i:Int)=x:=by rw[<-i3];exact J8
     refine⟨_,rfl,dM,settle es A Fi i x,hs++[x],_,_,?_,rfl,q1,λz=>absurd z (by lia),λ_=>by rw[show n-(i+1)=m by lia];lia,by simp[i3],Kq B i4 hp,?_,λj hj hjn=>?_,Bl,λg s=>?_,λg s hg=>?_,λg s j hj hg=>?_⟩
     ·rw[mJ];rfl
     ·have:=Kr (es:=es) (A:=A) (x:=x) hL
      lia
     ·obtain⟨M,hM⟩:=i6 j (by lia) hjn;exact⟨_,Kp B i4.len hp (by lia) hM⟩
     ·have s2:=i8 _ (zeP B i4 hp hL hx s);refine⟨λj M hM=>?_,λj e M N h1 h2 he=>?_⟩
      ·have:=s2.mem j M hM
       try dsimp only at this ⊢
       by_cases c1:j<i
       ·rw[if_pos c1] at this;rw[if_pos (by lia),ag j c1];exact this
       ·rw[if_neg c1] at this;by_cases c2:j=i
        ·rw[if_pos c2] at this;rw[if_pos (by lia),c2,ai];exact this
        ·rw[if_neg c2] at this;rw[if_neg (by lia)];exact this
      ·have ff:∀j:Nat,(if j<i then at' hs j else if j=i then x else g j)=if j<i+1 then at' (hs++[x]) j else g j:=λj=>by
        by_cases c1:j<i
        ·rw[if_pos c1,if_pos (by lia),ag j c1]
        ·rw[if_neg c1];by_cases c2:j=i
         ·rw[if_pos c2,if_pos (by lia),c2,ai]
         ·rw[if_neg c2,if_neg (by lia)]
       have:=s2.fit j e M N h1 h2 he
       try dsimp only at this ⊢
       rw[<-ff,<-ff];exact this
     ·have s2:=i9 g s λt ht=>by rw[hg t (by lia),ag t ht]
      have s3:=Om B i4 hp hL s2;rw[hg i (by lia),ai] at s3;exact s3
     ·by_cases c1:j<i
      ·rw[ag j c1];exact Pq g s j c1 λt ht=>by rw[hg t ht,ag t (by lia)]
      ·have:j=i:=by lia
       subst this;rw[ai];have s2:=i9 g s λt ht=>by rw[hg t ht,ag t ht]
       have s3:=Om B i4 hp hL s2;exact Int.not_lt.mp λq=>cV (g j) (s2.mem j L hL) q ⟨g,s3⟩
  ·obtain⟨kvs',Fi,hs,a5,a6,rfl,rfl,i1,i0,i2,i3,i4,i5,i6,i7,i8,i9,Pq⟩:=hI;rw[bO,lK,show ((n:Int)-0).toNat=n by lia] at i3 i8 Pq;refine Y ?_;refine .inr ⟨hs,rfl,i3,?_,Pq⟩;obtain⟨g,sg⟩:=i7;have s2:=i8 g sg;refine⟨λj M hM=>?_,λj e M N h1 h2 he=>?_⟩
   ·have:=s2.mem j M hM;rw[if_pos (rD hl hM)] at this;exact this
   ·have:=s2.fit j e M N h1 h2 he;rw[if_pos (rD hl h1),if_pos (rD hl h2)] at this;exact this
end
section
variable {n k d:Int}{ps:List (Int×Int)}
theorem zet{k':Nat}(h:Web n ps)(hd:1<=d)(Gd:d<=k)(hk:k<=24)(hz:1+cnt k.toNat (n.toNat-1)+cnt k.toNat (n.toNat-1)+tot k.toNat (n.toNat-1)<sizeLine):W (call aq T (k'+40) true 36 [.d (aL n ps),.d (bA k d)]) [] λv s=>(v=.d .non/\∀hs,¬nG n k d ps hs)\/∃hs,v=.d (.tup (hs.map .int))/\nG n k d ps hs/\∀g,nG n k d ps g->Ge g hs:=by
 refine W.call zpn rfl ?_;unfold V6;have qx:(100:Nat)<=sizeLine:=by decide
 have h1:=h.h1;have h8:=h.h8;refine Y ?_;refine W.c1 (Dh h) λ_=>?_;refine Y ?_;refine W.c1 (zdU hd Gd hk) λ_=>?_;refine Y ?_;refine W.c0 (zhs h hd Gd hk) ?_;refine Y ?_;refine nO (l:=List.range (n-0).toNat) (f:=λ(j:Nat)=>.int (0+j)) (λ(_:Nat)=>some (bJ (some (cj k.toNat)))) (by rw[lK];lia) ?_ (λj hj=>?_) ?_
 ·unfold aL;refine Y ?_;refine⟨by rw[jz (by lia) (by lia),jz (by lia) (by lia)];rfl,?_⟩;exact⟨rfl,rfl⟩
 ·refine Y ?_;refine⟨rfl,λ_=>?_,λhb=>by cases hb⟩;refine Y ?_;exact⟨rfl,_,rfl,rfl⟩
 ·have ef:(List.range (n-0).toNat).filterMap (λ(_:Nat)=>some (bJ (some (cj k.toNat))))=(jk n k).map bJ:=by
   rw[zX,show n-0=n by lia];unfold jk;rw[List.map_replicate];rw[List.map_const',lK]
  rw[ef];refine Y ?_;have lv:k'+39=3*n.toNat+5+(k'+34-3*n.toNat):=by lia
  refine qp rfl ?_;show W (Mi.call aq T (k'+39) true _ _) _ _;rw[lv];have B:=zmx h hd hk;have nH:1<=k.toNat:=by lia
  have dU:∀t a b:Int,0<=a->a<(k.toNat:Nat)->0<=b->b<(k.toNat:Nat)->cD k d ((a+t)%(k.toNat:Nat)) ((b+t)%(k.toNat:Nat))=cD k d a b:=λt a b a0 ak b0 bk=>by rw[show ((k.toNat:Nat):Int)=k by lia] at *;exact Ku hd t a b a0 ak b0 bk
  obtain⟨m,hm⟩ : ∃m,n.toNat=m+1:=⟨n.toNat-1,by lia⟩;have em:n.toNat-1=m:=by lia
  have Jj:unset (jk n k)<=m+1:=by
   have:=(Ou (n:=n) hk).len;rw[<-hm,<-this];exact List.countP_le_length
  have al:∀(i:Nat) L,(jk n k)[i]?=some (some L)->L=cj k.toNat:=λi L e=>(Kv e).2;have eb:(jk n k).all (Gb k.toNat)=true:=fj.mpr λc hc=>by rw[List.eq_of_mem_replicate hc];exact fu rfl
  rw[em] at hz;refine(zka (c0:=1+cnt k.toNat m) (c1:=cnt k.toNat m) B nH (λ_=>dU) (Ou hk) (λi hi=>⟨_,Ot hi⟩) (by rw[em];exact hz) ?_ (λkvs L hL sU ha hl=>?_)).imp λv s=>?_
  ·rw[hm];have:=zhT (m:=m) (j:=k'+34-3*(m+1)) (kvs:=[]) B nH dU (Ou hk) Jj eb (λF d e=>by cases e) (by simp;lia);rw[hm] at this;simpa using this
  ·have e:=al 0 L hL;subst e;refine znu B nH dU ?_ (Ou hk) Jj al hL sU ha (by lia);rw[show 3*n.toNat+1+(k'+34-3*n.toNat)+2=3*m+4+(k'+33-3*m) by lia];exact Pn B nH (λ_=>dU) m _
  rintro(⟨rfl,rN⟩|⟨hs,rfl,hl,Xf,hge⟩)
  ·refine⟨_,rfl,?_⟩;refine Y ?_;exact .inl ⟨rfl,λhs hh=>rN ⟨_,zeE h hd hh⟩⟩
  ·refine⟨_,rfl,?_⟩;refine Y ?_;refine .inr ⟨hs,rfl,zhS h hl Xf,λg hg j hj ha=>?_⟩;exact hge _ (zeE h hd hg) j (by lia) ha
end
theorem zi7{k:Nat}{n a b:Int}(ha:0<=a/\a<n)(hb:0<=b/\b<n):W (call aq T (k+4) true 8 [.d (.int n),.d (.tup [.int a,.int b])]) [] λv s=>v=.d (.bl (decide (a<b))):=by
 refine W.call Wh rfl ?_;unfold b8;refine Y ?_;refine W.c0 K1 ?_;refine Y ?_;refine W.c0 K3 ?_;rw[fu ha];refine Y ?_;refine W.c0 K3 ?_;rw[fu hb];exact Y trivial
theorem ze2{k:Nat}{n:Int}{p:Int×Int}(ha:0<=p.1/\p.1<n)(hb:0<=p.2/\p.2<n)(hne:p.1≠p.2):W (call aq T (k+5) true 9 [.d (.int n),.d (bT p)]) [] λv s=>v=.d (bT (norm p)):=by
 obtain⟨a,b⟩:=p;dsimp only at ha hb hne;refine W.call T_9 rfl ?_;unfold b9 norm;refine Y ?_;refine W.c0 (zi7 ha hb) ?_;refine W.bool ?_;by_cases h:a<b
 ·rw[fu h,if_pos h];exact Y trivial
 ·rw[nQ h,if_neg h];refine Y ?_;refine W.c0 K1 ?_;refine Y ?_;refine W.c0 (zi7 hb ha) ?_;refine W.bool ?_;rw[fu (show b<a by lia)];refine Y ?_;rfl
theorem zeF{k:Nat}{n:Int}{us qs:List (Int×Int)}(h1:1<=n)(h8:n<=8)(ht:∀p∈us,(0<=p.1/\p.1<n)/\(0<=p.2/\p.2<n)/\p.1≠p.2)(nd:(us.map norm).Nodup)(hs:pG ((us.map norm).map bT)=some (qs.map bT)):W (call aq T (k+6) true 5 [.d (.int n),.d (.fl (us.map bT))]) [] λv s=>v=.d (aL n qs):=by
 have hl:us.length<=28:=by
  have:=Uw h8 (ps:=us.map norm) (λp hp=>by
   obtain⟨q,hq,rfl⟩:=jE.mp hp;have:=ht q hq;unfold norm
   split<;>((try dsimp only);lia)) nd
  rwa [bO] at this
 refine W.call T_5 rfl ?_;unfold b5;refine Y ?_;refine W.c0 (zje h1 h8) ?_;refine Y ?_;refine vY (λi J s=>(∃a b c,J=[some (.d (.int n)),some (.d (.fl (us.map bT))),some (.l 0),a,b,c])/\s=[.lst (((us.take i).map norm).map bT)]) ⟨⟨_,_,_,rfl⟩,rfl⟩ (λi x J s e hI=>?_) (λJ s hI=>?_)
 ·obtain⟨⟨a,b,c,rfl⟩,rfl⟩:=hI;rw[Us,fQ] at e;cases ep:us[i]? with
  |none=>rw[ep] at e;cases e
  |some p=>
   rw[ep] at e;cases e;have hp:=eZ ep;have hi:i<us.length:=(dO.mp ep).1;refine Y ?_;refine W.c0 (ze2 (ht p hp).1 (ht p hp).2.1 (ht p hp).2.2) ?_;refine Y ?_;have hni:norm p∉(us.take i).map norm:=by
    intro hm;rw[Ly] at hm;obtain⟨j,hj,ej⟩:=List.mem_iff_getElem.mp hm;rw[pI] at hj;rw[List.getElem_take] at ej;have qN:i<(us.map norm).length:=by rw[bO];exact hi
    have e2:(us.map norm)[i]=norm p:=by
     rw[DK];have:=cX hi;rw[ep] at this;rw[<-cR this]
    have:=(Aj nd).mp (ej.trans e2.symm)
    lia
   refine fW (zos (f:=id)) ?_;rw[nQ hni];refine Y ?_;refine⟨?_,?_⟩
   ·rw[bO,bO,pI];have:(64:Nat)<=sizeLine:=by decide
    lia
   refine Y ?_;refine⟨_,rfl,⟨_,_,_,rfl⟩,?_⟩;rw[yN,ep];simp
 ·obtain⟨⟨a,b,c,rfl⟩,rfl⟩:=hI;rw[Ut,bO,tQ];refine Y ?_;refine yh (zdG hs) ?_;refine Y ?_;rfl
section
variable {n k d:Int}{ps:List (Int×Int)}
theorem zlK{k':Nat}{r:List Int}{x:Int}(h:Web n ps)(hd:1<=d)(hk:1<=k)(hrn:(r.length:Int)<n)(hr:∀y∈r,0<=y/\y<k)(hx:0<=x/\x<k):W (call aq T (k'+2) true 28 [.d (Vf n.toNat k.toNat (λi=>bf i ps) (cD k d)),.d (.tup (r.map .int)),.d (.fl ((yu ps r.length).map .int)),.d (.int x)]) [] λv s=>v=.d (.bl (kJ k d ps r x)):=by
 refine W.call zpb rfl ?_;unfold VP;have qx:(100:Nat)<=sizeLine:=by decide
 have h8:=h.h8;have hal:(yu ps r.length).length<=8:=by
  unfold yu;have:=Ah (λe=>decide (e<(r.length:Int))) (bf r.length ps);have:=Oo (k:=n.toNat) (N8 h r.length) (λx hx=>by have:=N_ h hx;have:=h.h1;lia)
  lia
 refine Y ?_;refine nO (l:=yu ps r.length) (f:=D.int) (λe=>some (.bl (cD k d x (at' r e)))) (by lia) ?_ (λe he=>?_) ?_
 ·refine Y ?_;exact⟨rfl,rfl⟩
 ·have ht:=h.tie _ ((Vn h).mp he);dsimp only at ht;have hy:=hr _ (yp (fs:=r) (j:=e) (by lia) (by lia));refine Y ?_;refine⟨rfl,λ_=>?_,λhb=>by cases hb⟩;have hix:prim .ix [.tup (r.map .int),.int e]=some (.dat (.int (at' r e))):=Oa (by lia) (by lia);refine W.bd (W.eq (gD (.v 1) _ rfl) (W.bd (W.qb (W.bd ?_))));refine Y ?_;refine fW hix ?_;refine Y ?_;refine W.qt ?_;refine W.c0 (zlM (by lia) (by lia)) ?_;exact⟨rfl,_,rfl,rfl⟩
 ·rw[zX];refine Y ?_;refine fW zjr ?_;rw[zjD h hd]
theorem zkZ{k':Nat}(h:Web n ps)(hr:1<=d/\d<=k/\k<=8)(h6:n<=6):W (call aq T (k'+5) true 27 [.d (aL n ps),.d (bA k d)]) [] λv s=>v=.d (.fl ((grows k d ps [[0]] (n.toNat-1)).map cG)):=by
 refine W.call zpf rfl ?_;unfold VN;have qx:(1000000:Nat)<=sizeLine:=by decide
 have h1:=h.h1;have ew:aL n ps=.tup [.int n,.tup (ps.map bT)]:=rfl;refine Y ?_;refine W.c0 (zhs h hr.1 hr.2.1 (by lia)) ?_;refine Y ?_;refine⟨by rw[jz (by lia) (by lia),jz (by lia) (by lia)];rfl,?_⟩;refine vY (c:=(List.range (n-1).toNat).map λ(j:Nat)=>.int (1+j)) (λi J s=>s=[]/\∃a4 a5:Option Xv,J=[some (.d (aL n ps)),some (.d (bA k d)),some (.d (Vf n.toNat k.toNat (λi=>bf i ps) (cD k d))),some (.d (.fl ((grows k d ps [[0]] i).map cG))),a4,a5]) ⟨rfl,_,_,rfl⟩ (λi z J s e hI=>?_) (λJ s hI=>?_)
 ·obtain⟨rfl,a4,a5,rfl⟩:=hI;obtain⟨hi,e⟩:=dO.mp e;rw[DK,Gq] at e;rw[bO,lK] at hi;subst e;have ei:(1:Int)+(i:Nat)=((i+1:Nat):Int):=by lia
  rw[ei];have hel:(bf ((i+1:Nat):Int) ps).length<=8:=by
   have:=Oo (k:=n.toNat) (N8 h ((i+1:Nat):Int)) (λx hx=>by have:=N_ h hx;lia)
   lia
  have oO:(grows k d ps [[0]] i).length*(cj k.toNat).length<=sizeLine:=by
   have g1:=zha (k:=k) (d:=d) (ps:=ps) (m:=i);have g2:k.toNat^i<=8^i:=Qg (by lia) _;have g3:(8:Nat)^i<=8^5:=Nat.pow_le_pow_right (by decide) (by lia);have g4:(cj k.toNat).length<=8:=by unfold cj;simp;lia
   have g5:(8:Nat)^5=32768:=by decide
   have:=Nat.mul_le_mul (show (grows k d ps [[0]] i).length<=32768 by lia) g4
   lia
  refine Y ?_;refine nO (l:=bf ((i+1:Nat):Int) ps) (f:=D.int) (λe=>if decide (e<((i+1:Nat):Int))=true then some (.int e) else none) (by lia) ?_ (λe he=>?_) ?_
  ·refine Y ?_;refine fW (rB (by lia) (Vg (by rw[pC];lia))) ?_;rw[pC];refine Y ?_;exact⟨rfl,rfl⟩
  ·refine Y ?_;refine⟨rfl,λhb=>?_,λhb=>?_⟩
   ·refine Y ?_;exact⟨rfl,_,rfl,by rw[if_pos hb]⟩
   ·rw[if_neg (by rw[hb];decide)]
  ·rw[Vi (α:=Unit)];refine Y ?_;refine Kar (l:=grows k d ps [[0]] i) (f:=cG) (l2:=cj k.toNat) (f2:=D.int) (λr x=>if kJ k d ps r x=true then some (cG (r++[x])) else none) oO ?_ (λr Oz=>?_) ?_
   ·refine Y ?_;exact⟨rfl,rfl⟩
   ·have hrl:=zg7 r Oz;have hrlo:=(Ov h hr.1 (by lia) 0 (rows:=[[0]]) (λr hr y hy=>by
     rw[nJ.mp hr] at hy;have:y=0:=nJ.mp hy
     lia) i).1 r Oz
    unfold cG;refine Y ?_;refine⟨?_,λx hx=>?_⟩
    ·refine Y ?_;exact⟨rfl,rfl⟩
    ·have hx:=bB.mp hx;refine Y ?_;have ea:(bf ((i+1:Nat):Int) ps).filter (λe=>decide (e<((i+1:Nat):Int)))=yu ps r.length:=by unfold yu;rw[hrl]
     rw[ea];refine W.c0 (zlK (k':=k'+2) h hr.1 (by lia) (by lia) hrlo (by lia)) ?_;refine Y ?_;refine⟨rfl,λhb=>?_,λhb=>?_⟩
     ·refine Y ?_;refine fW (zjg (by rw[bO];show _+1<=_;lia)) ?_;exact⟨rfl,_,rfl,by rw[if_pos hb,mJ];rfl⟩
     ·rw[if_neg (by rw[hb];decide)]
   ·have eg:((grows k d ps [[0]] i).flatMap λr=>(cj k.toNat).filterMap λx=>if kJ k d ps r x=true then some (cG (r++[x])) else none)=(grows k d ps [[0]] (i+1)).map cG:=by
     show _=(grow k d ps (grows k d ps [[0]] i)).map cG;unfold grow nextR;rw[List.map_flatMap]
     congr 1
     funext r
     rw[rG];generalize cj k.toNat=l
     induction l with
     |nil=>rfl
     |cons a l ih=>
      rw[wC,sW];by_cases q:kJ k d ps r a=true
      ·simp[q,ih]
      ·simp[q,ih]
    rw[eg];refine Y ?_;exact⟨_,rfl,rfl,_,_,rfl⟩
 ·obtain⟨rfl,a4,a5,rfl⟩:=hI;rw[bO,lK,show (n-1).toNat=n.toNat-1 by lia];exact Y trivial
theorem Xg{k':Nat}{a b:Int}(h:a<=b):W (call aq T (k'+1) true 3 [.d (.int a),.d (.int b)]) [] λv s=>∃d,v=.d d:=by
 refine W.call T_3 rfl ?_;unfold b3;refine Y ?_;refine WS.ite (λc=>absurd (gG c) (by lia)) (λc=>?_);refine Y ?_;exact⟨_,rfl⟩
theorem zoZ{k':Nat}(h:Web n ps)(hr:1<=d/\d<=k/\k<=8)(h6:n<=6):W (call aq T (k'+7) true 26 [.d (aL n ps),.d (bA k d)]) [] λv s=>∃d,v=.d d:=by
 have ew:aL n ps=.tup [.int n,.tup (ps.map bT)]:=rfl;have er:bA k d=.tup [.int k,.int d]:=rfl;refine W.call zpK rfl ?_;unfold VL;refine Y ?_;refine W.c1 (Dh h) λ_=>?_;refine Y ?_;refine W.c1 (zdU hr.1 hr.2.1 (by lia)) λ_=>?_;refine Y ?_;refine W.c1 (Xg h6) λ_=>?_;refine Y ?_;refine W.c1 (Xg hr.2.2) λ_=>?_;refine Y ?_;exact⟨_,rfl⟩
theorem zkL{k':Nat}(h:Web n ps)(hr:1<=d/\d<=k/\k<=8)(h6:n<=6):W (call aq T (k'+8) true 25 [.d (aL n ps),.d (bA k d)]) [] λv s=>v=.d (.int ((grows k d ps [[0]] (n.toNat-1)).length:Nat)):=by
 refine W.call zpF rfl ?_;unfold VJ;refine Y ?_;refine W.c1 (zoZ h hr h6) λ_=>?_;refine Y ?_;refine W.c0 (zkZ (k':=k'+2) h hr h6) ?_;refine Y ?_;rw[bO]
theorem zj7{k':Nat}(h:Web n ps)(hr:1<=d/\d<=k/\k<=8)(h6:n<=6):W (call aq T (k'+9) true 24 [.d (aL n ps),.d (bA k d)]) [] λv s=>v=.d (.int ((grows k d ps [[]] n.toNat).length:Nat)):=by
 have er:bA k d=.tup [.int k,.int d]:=rfl;have h1:=h.h1;refine W.call zo9 rfl ?_;unfold VH;refine Y ?_;refine W.c0 (zkL h hr h6) ?_;refine Y ?_;have e:=zbP h hr.1 (show 1<=k by lia) (n.toNat-1);rw[show n.toNat-1+1=n.toNat by lia] at e;rw[e,Lw,show ((k.toNat:Nat):Int)=k by lia]
end
structure Aa(n1 n2 M:Int)(fs:List Int):Prop where
 len:(fs.length:Int)=n2
 lo:∀x∈fs,0<=x/\x<M
 top:M=n1\/M-1∈fs
 ge:n1<=M
 nd:fs.Nodup
 one:∀(i j:Nat) (hi:i<fs.length) (hj:j<fs.length),i≠j->n1<=fs[i]\/n1<=fs[j]
noncomputable def rn(fs:List Int)(p:Int×Int):Int×Int:=(at' fs p.1,at' fs p.2)
noncomputable def things(ps1 ps2:List (Int×Int))(fs:List Int):List (Int×Int):=ps1++ps2.map (rn fs)
theorem zfd{M:Int}{l:List (Int×Int)}(hok:∀p∈l,(0<=p.1/\p.1<M)/\(0<=p.2/\p.2<M)/\p.1≠p.2):∀p∈l.map norm,0<=p.1/\p.1<p.2/\p.2<M:=λp hp=>by
 obtain⟨q,hq,rfl⟩:=jE.mp hp;have:=hok q hq;unfold norm
 split<;>((try dsimp only);lia)
theorem Xh:∀{l:List (Int×Int)},(∀p∈l,p.1<p.2)->l.map norm=l
 |[],_=>rfl
 |a::r,h=>by rw[g_,zg5 (h a (by simp)),Xh λp hp=>h p (by simp[hp])]
section
variable {n1 n2 M:Int}{ps1 ps2 bt:List (Int×Int)}{fs:List Int}
theorem zmL(h2:Web n2 ps2)(hN:Aa n1 n2 M fs){p:Int×Int}(hp:p∈ps2):(0<=(rn fs p).1/\(rn fs p).1<M)/\(0<=(rn fs p).2/\(rn fs p).2<M)/\(rn fs p).1≠(rn fs p).2/\(n1<=(rn fs p).1\/n1<=(rn fs p).2):=by
 have ht:=h2.tie p hp;have hl:=hN.len;obtain⟨i,hi,e1,a1⟩:=vZ (fs:=fs) (j:=p.1) (by lia) (by lia);obtain⟨j,hj,e2,a2⟩:=vZ (fs:=fs) (j:=p.2) (by lia) (by lia);have pL:i≠j:=by lia
 unfold rn;dsimp only;rw[a1,a2];refine⟨hN.lo _ (Lq _),hN.lo _ (Lq _),λe=>pL ((Aj hN.nd).mp e),hN.one i j hi hj pL⟩
theorem zdC(h1:Web n1 ps1)(h2:Web n2 ps2)(hN:Aa n1 n2 M fs):∀p∈things ps1 ps2 fs,(0<=p.1/\p.1<M)/\(0<=p.2/\p.2<M)/\p.1≠p.2:=by
 intro p hp;have hge:=hN.ge;rcases jR.mp hp with hp|hp
 ·have:=h1.tie p hp;lia
 ·obtain⟨q,hq,rfl⟩:=jE.mp hp;have:=zmL h2 hN hq;exact⟨this.1,this.2.1,this.2.2.1⟩
theorem ziA{p:Int×Int}{n:Int}(h:n<=p.1\/n<=p.2):n<=(norm p).2:=by
 unfold norm
 split<;>((try dsimp only);lia)
theorem zh0{p q:Int×Int}(h:norm p=norm q):(p.1=q.1/\p.2=q.2)\/(p.1=q.2/\p.2=q.1):=by
 obtain⟨a,b⟩:=p;obtain⟨c,d⟩:=q;unfold norm at h;dsimp only at h ⊢;split at h<;>split at h<;>(cases h;lia)
theorem zdz(h1:Web n1 ps1)(h2:Web n2 ps2)(hN:Aa n1 n2 M fs):((things ps1 ps2 fs).map norm).Nodup:=by
 have e1:ps1.map norm=ps1:=Xh λp hp=>(h1.tie p hp).2.1;have hl:=hN.len;unfold things;rw[mJ,e1,yM];refine⟨N7 h1.inc,?_,?_⟩
 ·rw[rG];unfold List.Nodup;rw[Dy];refine List.Pairwise.imp_of_mem (λ{p q} hp hq JF e=>?_) h2.inc;have tp:=h2.tie p hp;have tq:=h2.tie q hq;obtain⟨i,hi,i1,i2⟩:=vZ (fs:=fs) (j:=p.1) (by lia) (by lia);obtain⟨j,hj,j1,j2⟩:=vZ (fs:=fs) (j:=p.2) (by lia) (by lia);obtain⟨c,hc,c1,c2⟩:=vZ (fs:=fs) (j:=q.1) (by lia) (by lia);obtain⟨d,hd,d1,d2⟩:=vZ (fs:=fs) (j:=q.2) (by lia) (by lia);have:=zh0 e;unfold rn at this;dsimp only at this;rw[i2,j2,c2,d2] at this;unfold lx at JF;rcases this with ⟨x,y⟩|⟨x,y⟩
  ·have x:=(Aj hN.nd).mp x;have y:=(Aj hN.nd).mp y
   lia
  ·have x:=(Aj hN.nd).mp x;have y:=(Aj hN.nd).mp y
   lia
 ·intro p hp q hq e;subst e;obtain⟨r,hr,rfl⟩:=jE.mp hq;obtain⟨t,ht,rfl⟩:=jE.mp hr;have:=ziA (zmL h2 hN ht).2.2.2;have:=h1.tie _ hp
  lia
end
theorem zgt{k:Nat}{n2:Int}{ps:List (Int×Int)}{fs:List Int}(h:Web n2 ps)(hl:(fs.length:Int)=n2):W (call aq T (k+1) true 35 [.d (.tup (ps.map bT)),.d (.fl (fs.map .int))]) [] λv s=>v=.d (.fl ((ps.map (rn fs)).map bT)):=by
 refine W.call zpj rfl ?_;unfold V5;have hs:(100:Nat)<=sizeLine:=by decide
 have h8:=h.h8;have hlen:=h.len;refine Y ?_;refine nO (l:=ps) (f:=bT) (λp=>some (bT (rn fs p))) (by lia) ?_ (λp hp=>?_) ?_
 ·refine Y ?_;exact⟨rfl,rfl⟩
 ·obtain⟨a,b⟩:=p;have ht:=h.tie _ hp;dsimp only at ht;refine Y ?_;refine⟨rfl,λ_=>?_,λhb=>by cases hb⟩;refine Y ?_;refine fW (rB (by lia) (Uy (by lia) (by lia))) ?_;refine Y ?_;refine fW (rB (by lia) (Uy (by lia) (by lia))) ?_;refine Y ?_;exact⟨rfl,_,rfl,rfl⟩
 ·rw[show ps.filterMap (λp=>some (bT (rn fs p)))=(ps.map (rn fs)).map bT by rw[rG,<-Ld];rfl];exact Y trivial
section
variable {n1 n2 M:Int}{ps1 ps2 bt qs:List (Int×Int)}{fs:List Int}
theorem zjQ(hN:Aa n1 n2 M fs)(h:1<=n2):∃r,prim .rP [.fl (fs.map .int)]=some (.dat (.int r))/\(if r+1>n1 then r+1 else n1)=M:=by
 obtain⟨r,e,hr,hm⟩:=znj (fs:=fs) (by rintro rfl;have:=hN.len;simp at this;lia);refine⟨r,e,?_⟩;have h1:=hN.lo r hr;have h2:=hN.ge;rcases hN.top with h3|h3
 ·rw[if_neg (by lia)];exact h3.symm
 ·have:=hm _ h3
  split<;>lia
theorem ze7{k:Nat}(h1:Web n1 ps1)(h2:Web n2 ps2)(hN:Aa n1 n2 M fs)(h8:M<=8)(hs:pG (((things ps1 ps2 fs).map norm).map bT)=some (qs.map bT)):W (call aq T (k+7) true 32 [.d (aL n1 ps1),.d (aL n2 ps2),.d (.fl (fs.map .int)),.d (.fl [])]) [] λv s=>v=.d (aL M qs):=by
 refine W.call zpq rfl ?_;unfold V2;obtain⟨r,er,em⟩:=zjQ hN h2.h1;have qx:(100:Nat)<=sizeLine:=by decide
 have hM:1<=M:=by have:=h1.h1;have:=hN.ge;lia
 have hnd:=zdz h1 h2 hN;have hok:=zdC h1 h2 hN;have hlen:(things ps1 ps2 fs).length<=28:=by
  have:=Uw h8 (zfd hok) hnd
  rwa [bO] at this
 have zJ:ps1.length+ps2.length<=28:=by unfold things at hlen;rw[iZ,bO] at hlen;exact hlen
 unfold aL;refine Y ?_;refine fW er ?_;refine Y ?_;rw[em];refine W.c1 (Xg h8) λ_=>?_;refine Y ?_;refine W.c0 (zgt h2 hN.len) ?_;refine Y ?_;refine yh (FJ ?_) ?_
 ·rw[bO,bO,bO];lia
 refine Y ?_;refine yh (FJ ?_) ?_
 ·rw[iZ,bO,bO,bO];show _+0<=_;lia
 refine Y ?_;rw[<-mJ,vG];exact qp rfl ((zeF hM h8 hok hnd hs).imp λv s e=>⟨_,e,rfl⟩)
end
noncomputable def je(n1:Int)(m:Nat):List Int:=(List.range m).map λ(k:Nat)=>n1+k
theorem ziV{n1:Int}{m i:Nat}(h:i<(je n1 m).length):(je n1 m)[i]=n1+i:=by
 have:(je n1 m)[i]?=some (n1+i):=by
  unfold je at h ⊢;rw[bO,lK] at h;rw[fQ,Dr h];rfl
 rw[cX h] at this;exact cR this
theorem K5{n1:Int}{m:Nat}:(je n1 m).length=m:=by unfold je;simp
theorem gJ{n1 x:Int}{m:Nat}:x∈je n1 m↔n1<=x/\x<n1+m:=by
 unfold je;rw[jE]
 constructor
 ·rintro⟨k,hk,rfl⟩;have:=tR.mp hk
  lia
 ·rintro⟨h1,h2⟩;exact⟨(x-n1).toNat,tR.mpr (by lia),by lia⟩
theorem zjw{n1:Int}{m:Nat}:(je n1 m).Nodup:=by
 unfold je List.Nodup;rw[Dy];exact List.pairwise_lt_range.imp λh e=>by lia
theorem zhu{n1 n2:Int}(h1:1<=n1)(h2:1<=n2):Aa n1 n2 (n1+n2) (je n1 n2.toNat) where
 len:=by rw[K5];lia
 lo:=λx hx=>by have:=gJ.mp hx;lia
 top:=.inr (gJ.mpr (by lia))
 ge:=by lia
 nd:=zjw
 one:=λi j hi hj _=>by rw[ziV];lia
noncomputable def pq(n1 x:Int)(m i:Nat):List Int:=(je n1 m).take i++[x]++(je n1 m).drop i
theorem zgZ{n1 x:Int}{m i:Nat}(h:i<=m):(pq n1 x m i).length=m+1:=by
 unfold pq;rw[iZ,iZ,pI,DG,K5];simp
 lia
theorem zkn{n1 x y:Int}{m i:Nat}(h:y∈pq n1 x m i):y=x\/y∈je n1 m:=by
 unfold pq at h;rcases jR.mp h with h|h
 ·rcases jR.mp h with h|h
  ·exact .inr (Dn h)
  ·exact .inl (by simpa using h)
 ·exact .inr (Gk h)
theorem zht{n1 n2 x:Int}{i:Nat}(h1:1<=n1)(h2:1<=n2)(hx:0<=x/\x<n1)(hi:(i:Int)<n2):Aa n1 n2 (n1+n2-1) (pq n1 x (n2-1).toNat i) where
 len:=by rw[zgZ (by omega)];omega
 lo:=λy hy=>by
  rcases zkn hy with rfl|h
  ·omega
  ·have:=gJ.mp h;omega
 top:=by
  by_cases h:n2=1
  ·left;omega
  ·right
   have:n1+n2-1-1∈je n1 (n2-1).toNat:=gJ.mpr (by omega);unfold pq;rw[<-Qc i (je n1 (n2-1).toNat)] at this;rcases jR.mp this with z|z
   ·exact Le _ (Le _ z)
   ·exact mH _ z
 ge:=by omega
 nd:=by
  have hd:=(Qc i (je n1 (n2-1).toNat))▸(zjw (n1:=n1) (m:=(n2-1).toNat));rw[yM] at hd;have nx:∀y∈je n1 (n2-1).toNat,y≠x:=λy hy=>by have:=gJ.mp hy;omega
  unfold pq;rw[yM,yM];refine⟨⟨hd.1,by simp,λa ha b hb=>?_⟩,hd.2.1,λa ha b hb=>?_⟩
  ·have:b=x:=by simpa using hb
   subst this;exact nx a (Dn ha)
  ·rcases jR.mp ha with ha|ha
   ·exact hd.2.2 a ha b hb
   ·have:a=x:=by simpa using ha
    subst this;exact(nx b (Gk hb)).symm
 one:=λa b ha hb yr=>by
  have hl:=zgZ (n1:=n1) (x:=x) (m:=(n2-1).toNat) (i:=i) (by omega);have key:∀(c:Nat) (hc:c<(pq n1 x (n2-1).toNat i).length),c≠i->n1<=(pq n1 x (n2-1).toNat i)[c]:=by
   intro c hc hci;have ht:((je n1 (n2-1).toNat).take i).length=i:=by rw[pI,K5];omega
   have:(pq n1 x (n2-1).toNat i)[c]∈je n1 (n2-1).toNat:=by
    have e:=cX hc;generalize (pq n1 x (n2-1).toNat i)[c]=v at e;unfold pq at e;by_cases h:c<i
    ·rw[yL,mF (by omega)] at e;exact Dn (eZ e)
    ·rw[nP (by rw[iZ,ht];show i+1<=c;omega)] at e;exact Gk (eZ e)
   exact(gJ.mp this).1
  by_cases h:a=i
  ·exact .inr (key b hb (by omega))
  ·exact .inl (key a ha h)
theorem K6{xs:List D}{i:Nat}(h:i<=xs.length):cut xs none (some (i:Int))=xs.take i:=by
 unfold cut;rw[HT.j8,HT.mW,Nat.min_eq_left h];simp
theorem yD{xs:List D}{i:Nat}(h:i<=xs.length):cut xs (some (i:Int)) none=xs.drop i:=by
 unfold cut;rw[HT.j8,HT.mW,Nat.min_eq_left h];rw[List.take_of_length_le];rw[DG]
 lia
theorem zja{n1:Int}{m:Nat}:(List.range m).filterMap (λ(k:Nat)=>some (D.int (n1+k)))=(je n1 m).map .int:=by
 unfold je;rw[rG,<-Ld];rfl
theorem ziT{k:Nat}{n1 n2:Int}{ps1 ps2:List (Int×Int)}(h0:1<=n2)(h8:n2<=8):W (call aq T (k+1) true 33 [.d (aL n1 ps1),.d (aL n2 ps2)]) [] λv s=>v=.d (.fl ((je n1 n2.toNat).map .int)):=by
 refine W.call zpL rfl ?_;unfold V3 aL;have hs:(100:Nat)<=sizeLine:=by decide
 refine Y ?_;refine nO (l:=List.range (n2-0).toNat) (f:=λ(k:Nat)=>.int (0+k)) (λ(k:Nat)=>some (.int (n1+k))) (by rw[lK];lia) ?_ (λk hk=>?_) ?_
 ·refine Y ?_;refine⟨by rw[jz (by lia) (by lia),jz (by lia) (by lia)];rfl,?_⟩;exact⟨rfl,rfl⟩
 ·refine Y ?_;refine⟨rfl,λ_=>?_,λhb=>by cases hb⟩;refine Y ?_;exact⟨rfl,_,rfl,by congr 2;lia⟩
 ·rw[zja,show n2-0=n2 by lia];exact Y trivial
theorem zjH{n1 x:Int}{m i:Nat}:(pq n1 x m i).map D.int=((je n1 m).map D.int).take i++[D.int x]++((je n1 m).map D.int).drop i:=by
 unfold pq;rw[mJ,mJ,Ly,List.map_drop];rfl
theorem zkW{k i:Nat}{n n1 x:Int}{ps:List (Int×Int)}(h:Web n ps)(hi:(i:Int)<n):W (call aq T (k+1) true 34 [.d (aL n ps),.d (.int i),.d (.int x),.d (.int n1)]) [] λv s=>v=.d (.fl ((pq n1 x (n-1).toNat i).map .int)):=by
 refine W.call zpg rfl ?_;unfold V4 aL;have hs:(100:Nat)<=sizeLine:=by decide
 have h1:=h.h1;have h8:=h.h8;refine Y ?_;refine nO (l:=List.range (n-1-0).toNat) (f:=λ(k:Nat)=>.int (0+k)) (λ(k:Nat)=>some (.int (n1+k))) (by rw[lK];lia) ?_ (λk hk=>?_) ?_
 ·refine Y ?_;refine⟨by rw[jz (by lia) (by lia),jz (by lia) (by lia)];rfl,?_⟩;exact⟨rfl,rfl⟩
 ·refine Y ?_;refine⟨rfl,λ_=>?_,λhb=>by cases hb⟩;refine Y ?_;exact⟨rfl,_,rfl,by congr 2;lia⟩
 ·rw[zja,show n-1-0=n-1 by lia];have hm:((je n1 (n-1).toNat).map D.int).length=(n-1).toNat:=by rw[bO,K5]
  refine Y ?_;rw[K6 (by lia)];refine yh (FJ ?_) ?_
  ·rw[pI,hm];show _+1<=_;lia
  refine Y ?_;rw[yD (by lia)];refine yh (FJ ?_) ?_
  ·rw[iZ,pI,DG,hm];show _+1+_<=_;lia
  rw[zjH]
section
variable {n1 n2:Int}{ps1 ps2 qs:List (Int×Int)}
theorem zit{k:Nat}(h1:Web n1 ps1)(h2:Web n2 ps2)(h8:n1+n2<=8)(hs:pG (((things ps1 ps2 (je n1 n2.toNat)).map norm).map bT)=some (qs.map bT)):W (call aq T (k+8) true 30 [.d (aL n1 ps1),.d (aL n2 ps2)]) [] λv s=>v=.d (aL (n1+n2) qs):=by
 refine W.call zpm rfl ?_;unfold V0;refine Y ?_;refine W.c1 (Dh h1) λ_=>?_;refine Y ?_;refine W.c1 (Dh h2) λ_=>?_;refine Y ?_;refine W.c0 (ziT h2.h1 h2.h8) ?_;refine Y ?_;exact qp rfl ((ze7 h1 h2 (zhu h1.h1 h2.h1) h8 hs).imp λv s e=>⟨_,e,rfl⟩)
theorem zfE{k i:Nat}{x:Int}(h1:Web n1 ps1)(h2:Web n2 ps2)(hx:0<=x/\x<n1)(hi:(i:Int)<n2)(h8:n1+n2-1<=8)(hs:pG (((things ps1 ps2 (pq n1 x (n2-1).toNat i)).map norm).map bT)=some (qs.map bT)):W (call aq T (k+8) true 31 [.d (aL n1 ps1),.d (aL n2 ps2),.d (.int x),.d (.int i)]) [] λv s=>v=.d (aL (n1+n2-1) qs):=by
 refine W.call zo7 rfl ?_;unfold V1;refine Y ?_;refine W.c1 (Dh h1) λ_=>?_;refine Y ?_;refine W.c1 (Dh h2) λ_=>?_;refine Y ?_;refine W.c1 (Pk hx) λ_=>?_;refine Y ?_;refine W.c1 (Pk ⟨by lia,hi⟩) λ_=>?_;refine Y ?_;refine W.c0 (zkW h2 hi) ?_;refine Y ?_;exact qp rfl ((ze7 h1 h2 (zht h1.h1 h2.h1 hx hi) h8 hs).imp λv s e=>⟨_,e,rfl⟩)
end
theorem zjM{ps:List (Int×Int)}(hl:ps.length<64)(h:ps.Pairwise lx):pG (ps.map bT)=some (ps.map bT):=by
 refine zew (znE ps) (by rw[bO];exact hl) λk hk=>?_;rw[bO] at hk;rw[zlZ (cX hk) (cX (show k<ps.length by lia))]
 congr 1
 apply nQ;have:=Gh.mp h k (k+1) (by lia) hk (by lia);unfold lx at this
 lia
theorem zi1{n:Int}{ps:List (Int×Int)}(h:Web n ps):ps.length<64:=by have:=h.len;have:=h.h8;lia
theorem zk1{α:Type}(ps:List α)(f:α->D)(q:α->Bool):ps.filterMap (λp=>if q p=true then some (f p) else none)=(ps.filter q).map f:=by
 induction ps with
 |nil=>rfl
 |cons p r ih=>
  rw[wC,sW];cases e:q p
  ·simp[ih]
  ·simp[ih]
theorem ziu{k:Nat}{n a b:Int}{ps:List (Int×Int)}(h:Web n ((a,b)::ps)):W (call aq T (k+7) true 29 [.d (aL n ((a,b)::ps)),.d (.int a),.d (.int b)]) [] λv s=>v=.d (aL n ps):=by
 have ht:=h.tie (a,b) (by simp);dsimp only at ht;have hw:=Vl h (P_ _ _);refine W.call zpp rfl ?_;unfold VR;have hs:(100:Nat)<=sizeLine:=by decide
 have hl:=zi1 h;refine Y ?_;refine W.c1 (Dh h) λ_=>?_;refine Y ?_;refine W.c1 (Pk (by lia)) λ_=>?_;refine Y ?_;refine W.c1 (Pk (by lia)) λ_=>?_;unfold aL;refine Y ?_;refine W.c0 (ze2 (p:=(a,b)) (by lia) (by lia) (by dsimp only;lia)) ?_;rw[zg5 ht.2.1];refine Y ?_;refine fW (d:=.bl false) ?_ ?_
 ·show Option.map _ (memD (bT (a,b)) (((a,b)::ps).map bT))=_;rw[zju,fu (by simp)];rfl
 refine Y ?_;refine nO (l:=(a,b)::ps) (f:=bT) (λp=>if (decide (p≠(a,b)))=true then some (bT p) else none) (by lia) ?_ (λp hp=>?_) ?_
 ·refine Y ?_;exact⟨rfl,rfl⟩
 ·have ec:(!(p.fst==a&&(p.snd==b&&true)))=decide (p≠(a,b)):=by
   obtain⟨c,e⟩:=p;rw[DQ];simp
  refine Y ?_;rw[ec];refine⟨rfl,λhb=>?_,λhb=>?_⟩
  ·refine Y ?_;exact⟨rfl,_,rfl,by rw[hb];rfl⟩
  ·rw[hb];rfl
 ·have e:((a,b)::ps).filter (λp=>decide (p≠(a,b)))=ps:=by
   rw[sW,if_neg (by simp)];refine Lf.mpr λp hp=>fu λc=>?_;have:=(vH.mp (N7 h.inc)).1;rw[<-c] at this;exact this hp
  rw[zk1,e];have hl2:=zi1 hw;have en:ps.map norm=ps:=Xh λp hp=>(hw.tie p hp).2.1;refine Y ?_;refine qp rfl ((zeF (us:=ps) (qs:=ps) h.h1 h.h8 (λp hp=>by have:=hw.tie p hp;lia) (by rw[en];exact N7 hw.inc) (by rw[en];exact zjM hl2 hw.inc)).imp λv s e=>⟨_,e,rfl⟩)
theorem zdl{n1 n2 M:Int}{ps1 ps2:List (Int×Int)}{fs:List Int}(h1:Web n1 ps1)(h2:Web n2 ps2)(hN:Aa n1 n2 M fs)(h8:M<=8):∃qs,pG (((things ps1 ps2 fs).map norm).map bT)=some (qs.map bT)/\Web M qs/\∀x,x∈qs↔x∈(things ps1 ps2 fs).map norm:=by
 have hnd:=zdz h1 h2 hN;have hok:=zdC h1 h2 hN;have hM:1<=M:=by have:=h1.h1;have:=hN.ge;lia
 have ht:=zfd hok;have hl:=Uw h8 ht hnd;obtain⟨qs,e,e1,e2,e3⟩:=zkJ (by lia) hnd;exact⟨qs,e,⟨hM,h8,λp hp=>ht p ((e2 p).mp hp),e1,zmR hM h8 (λp hp=>ht p ((e2 p).mp hp)) e1⟩,e2⟩
theorem zgm{k d:Int}{r:List Int}{l:List (Int×Int)}:bV k d (l.map norm) r=bV k d l r:=by
 unfold bV;rw[yO]
 congr 1
 funext p
 show decide (d<=cT k (at' r (norm p).1) (at' r (norm p).2))=_;unfold norm
 split
 ·rfl
 ·dsimp only;rw[zhY]
theorem zi2{k d:Int}{r:List Int}{l m:List (Int×Int)}:bV k d (l++m) r=(bV k d l r&&bV k d m r):=by
 unfold bV;exact List.all_append
theorem znI{k d n:Int}{ps:List (Int×Int)}{fs r q:List Int}(h:Web n ps)(hl:(fs.length:Int)=n)(e:fs.map (at' r)=q):bV k d (ps.map (rn fs)) r=bV k d ps q:=by
 unfold bV;rw[yO];refine KD λp hp=>?_;have ht:=h.tie p hp;show decide (d<=cT k (at' r (at' fs p.1)) (at' r (at' fs p.2)))=_;rw[<-e,yq (by lia) (by lia),yq (by lia) (by lia)]
theorem zeM{k d n:Int}{ps:List (Int×Int)}{r s:List Int}(h:Web n ps)(hl:(r.length:Int)=n):bV k d ps (r++s)=bV k d ps r:=KD λp hp=>by
 have ht:=h.tie p hp;rw[oZ (by lia) (by lia),oZ (by lia) (by lia)]
theorem zgh{n1:Int}{r t:List Int}(hr:(r.length:Int)=n1):(je n1 t.length).map (at' (r++t))=t:=by
 refine List.ext_getElem (by rw[bO,K5]) λi h1 h2=>?_;rw[DK,ziV];unfold at';rw[jQ,nP (by lia),show (n1+(i:Int)).toNat-r.length=i by lia,cX h2];rfl
section
variable {n k d:Int}{ps:List (Int×Int)}
theorem zga{k':Nat}{k a b:Int}:W (call aq T (k'+1) true 45 [.d (.int k),.d (.int a),.d (.int b)]) [] λv s=>v=.d (.int (cT k a b)):=W.eq (a:=.d (.int (cT k a b))) (s':=[]) rfl rfl
theorem ze3(w:Web n ps)(m:Nat):(grows k d ps [[]] m).length<=k.toNat^m:=by
 rw[KJ w];refine jo (Ah _ _) ?_
 induction m with
 |zero=>exact bU 1
 |succ m ih=>
  show ((allR k.toNat m).flatMap _).length<=_;have:∀l:List (List Int),(l.flatMap λr=>(cj k.toNat).map λx=>r++[x]).length=l.length*k.toNat:=λl=>by
   induction l with
   |nil=>simp
   |cons r l ih2=>
    rw[wD,iZ,ih2,fX,bO,Ar];have:(cj k.toNat).length=k.toNat:=by unfold cj;simp
    lia
  rw[this,Nat.pow_succ];exact Ai _ ih
noncomputable def Xi:cg:=(.cons (.fr (.nm 7) (.rg (Ci 0) (Ei (.v 1) (Ci 0))) (.cons (.iff (.pr true .eq (Eb (.comp true (.v 0) [0] (.seq (.v 4)) [1,6,7] 1 (.yes (.pr true .lt (Eb (.call 45 (Ec (Ei (.v 1) (Ci 0)) (Ei (.v 2) (.v 0)) (.v 3))) (Ei (.v 1) (Ci 1)))))) (.lst true .nil))) (.cons (.ex (.push (.v 5) (.pr true .add (Eb (.v 6) (.tup (Ea (.v 7))))))) .nil) .nil) .nil)) .nil)
noncomputable def dw(ps:List (Int×Int))(i:Nat):List Int:=(ps.filter λp=>decide (p.2=(i:Int))).map λp=>p.1
theorem zk7{k' i:Nat}{s0:S}{rows:List (List Int)}{r:List Int}{a2 a7:Option Xv}(h:Web n ps)(hk:1<=k/\k<=8)(hi:(i:Int)<n)(hr:r.length=i)(hm:rows.length+8<=sizeLine){Q:Out->S->Prop}
  (q:∀a7,Q (.nx [some (.d (aL n ps)),some (.d (bA k d)),a2,some (.d (.int i)),some (.d (.fl ((dw ps i).map .int))),some (.l s0.length),some (.d (cG r)),a7]) (s0++[.lst ((rows++nextR k d ps r).map cG)])) :
  WS (exs aq true (λc=>Mi.call aq T (k'+1) c) Xi [some (.d (aL n ps)),some (.d (bA k d)),a2,some (.d (.int i)),some (.d (.fl ((dw ps i).map .int))),some (.l s0.length),some (.d (cG r)),a7]) (s0++[.lst (rows.map cG)]) Q:=by
 have qx:(1000:Nat)<=sizeLine:=by decide
 have hpl:=h.len;have h8:=h.h8;have er:bA k d=.tup [.int k,.int d]:=rfl;have hfl:(dw ps i).length<=ps.length:=by unfold dw;rw[bO];exact Ah _ _
 have hbk:∀y∈dw ps i,0<=y/\y<(i:Int):=λy hy=>by
  unfold dw at hy;obtain⟨p,hp,rfl⟩:=jE.mp hy;obtain⟨h1,h2⟩:=jD.mp hp;have:=h.tie p h1;have:=gG h2
  lia
 have hok:∀x:Int,((dw ps i).filterMap (λy=>if cT k (at' r y) x<d then some (D.int y) else none)=[])↔kJ k d ps r x=true:=λx=>by
  rw[zlv];unfold kJ dw;rw[fj]
  constructor
  ·intro z p hp;refine fu λe=>?_;have:=z p.1 (jE.mpr ⟨p,jD.mpr ⟨hp,fu (by lia)⟩,rfl⟩);by_cases c:cT k (at' r p.1) x<d
   ·rw[if_pos c] at this;cases this
   ·lia
  ·intro z y hy;obtain⟨p,hp,rfl⟩:=jE.mp hy;obtain⟨h1,h2⟩:=jD.mp hp;have:=gG (z p h1) (by have:=gG h2;lia);rw[if_neg (by lia)]
 unfold cG Xi;refine Y ?_;refine⟨by rw[jz (by lia) (by lia),jz (by lia) (by lia)];rfl,?_⟩;refine vY (c:=(List.range (k-0).toNat).map λ(j:Nat)=>.int (0+j)) (λj J s=>∃(a7:Option Xv),s=s0++[.lst ((rows++((cj j).filter (kJ k d ps r)).map λx=>r++[x]).map cG)]/\J=[some (.d (aL n ps)),some (.d (bA k d)),a2,some (.d (.int i)),some (.d (.fl ((dw ps i).map .int))),some (.l s0.length),some (.d (.tup (r.map .int))),a7]) ⟨_,by rw[show cj 0=[] from rfl,List.filter_nil,List.map_nil,List.append_nil];rfl,rfl⟩ (λj z J s e hI=>?_) (λJ s hI=>?_)
 ·obtain⟨a7,rfl,rfl⟩:=hI;obtain⟨hj,e⟩:=dO.mp e;rw[DK,Gq] at e;rw[bO,lK] at hj;subst e;have es:cj (j+1)=cj j++[0+(j:Int)]:=by unfold cj;rw[List.range_succ,mJ,Int.zero_add];rfl
  have hl2:((cj j).filter (kJ k d ps r)).length<=j:=by
   have:=Ah (kJ k d ps r) (cj j);have:(cj j).length=j:=by unfold cj;simp
   lia
  refine Y ?_;refine nO (l:=dw ps i) (f:=D.int) (λy=>if cT k (at' r y) (0+j)<d then some (.int y) else none) (by lia) ?_ (λy hy=>?_) ?_
  ·refine Y ?_;exact⟨rfl,rfl⟩
  ·have hy:=hbk y hy;refine Y ?_;refine fW (Oa (by lia) (by lia)) ?_;refine Y ?_;refine W.c0 zga ?_;refine Y ?_;refine⟨rfl,λhb=>?_,λhb=>?_⟩
   ·refine Y ?_;exact⟨rfl,_,rfl,by rw[if_pos (gG hb)]⟩
   ·rw[if_neg (of_decide_eq_false hb)]
  ·refine Y ?_;refine fW (zoG (f:=id)) ?_;refine Y ?_;refine WS.ite (λc=>?_) (λc=>?_)
   ·have c:=(hok _).mp (gG c);refine Y ?_;refine fW (zjg (by rw[bO];show _+1<=_;lia)) ?_;refine Y ?_;refine⟨by simp;lia,?_⟩;rw[zij];refine Y ?_;refine⟨_,rfl,_,?_,rfl⟩;rw[es,List.filter_append,sW,if_pos c];simp only[mJ,g_,DW,List.filter_nil,yL];unfold cG;simp
   ·have c:¬kJ k d ps r (0+j)=true:=λz=>c (fu ((hok _).mpr z));refine Y ?_;refine⟨_,rfl,_,?_,rfl⟩;rw[es,List.filter_append,sW,if_neg c];simp
 ·obtain⟨a7,rfl,rfl⟩:=hI;rw[bO,lK,show (k-0).toNat=k.toNat by lia];refine Y ?_;exact q _
theorem znn{k':Nat}(h:Web n ps)(hk:1<=k/\k<=8)(hn4:n<=4):W (call aq T (k'+2) true 46 [.d (aL n ps),.d (bA k d)]) [] λv s=>∃j,v=.l j/\s[j]?=some (.lst ((grows k d ps [[]] n.toNat).map cG)):=by
 have qx:(100000:Nat)<=sizeLine:=by decide
 have h1:=h.h1;have hpl:=h.len;have p8:∀i,i<=4->8^i<=4096:=by decide
 have ew:aL n ps=.tup [.int n,.tup (ps.map bT)]:=rfl;have Xj:∀i,(grows k d ps [[]] i).length<=8^i:=λi=>jo (ze3 h i) (Qg (by lia) _);have K7:∀t (rows:List (List Int)) (r:List Int),rows[t]?=some r->(rows.take (t+1)).flatMap (nextR k d ps)=(rows.take t).flatMap (nextR k d ps)++nextR k d ps r:=λt rows r e=>by
  rw[yN,e,Lg];simp
 have K8:∀i t,i+1<=4->(((grows k d ps [[]] i).take t).flatMap (nextR k d ps)).length<=4096:=λi t hi=>by
  have e:=Qc t (grows k d ps [[]] i);have:=Xj (i+1);have e2:(grows k d ps [[]] (i+1)).length=(((grows k d ps [[]] i).take t).flatMap (nextR k d ps)).length+(((grows k d ps [[]] i).drop t).flatMap (nextR k d ps)).length:=by
   show (grow k d ps (grows k d ps [[]] i)).length=_;unfold grow;rw[<-iZ,<-Lg,e]
  have:=p8 (i+1) hi
  lia
 refine W.call zpN rfl ?_;unfold Wc;refine Y ?_;refine⟨by rw[jz (by lia) (by lia),jz (by lia) (by lia)];rfl,?_⟩;refine vY (c:=(List.range (n-0).toNat).map λ(j:Nat)=>.int (0+j)) (λi J s=>∃(a2 a3 a4 a5 a6 a7:Option Xv),J=[some (.d (aL n ps)),some (.d (bA k d)),a2,a3,a4,a5,a6,a7]/\((i=0/\a2=some (.d (.fl [.tup []])))\/∃j,1<=i/\a2=some (.l j)/\s[j]?=some (.lst ((grows k d ps [[]] i).map cG)))) ⟨_,_,_,_,_,_,rfl,.inl ⟨rfl,rfl⟩⟩ (λi z J s e hI=>?_) (λJ s hI=>?_)
 ·obtain⟨a2,a3,a4,a5,a6,a7,rfl,yE⟩:=hI;obtain⟨hi,e⟩:=dO.mp e;rw[DK,Gq] at e;rw[bO,lK] at hi;subst e;have ez:(0:Int)+(i:Nat)=(i:Int):=by lia
  rw[ez];refine NZ (N5 ?_);refine Y ?_;refine nO (l:=ps) (f:=bT) (λp=>if p.2=(i:Int) then some (.int p.1) else none) (by lia) ?_ (λp hp=>?_) ?_
  ·refine Y ?_;exact⟨rfl,rfl⟩
  ·obtain⟨a,b⟩:=p;unfold bT;refine Y ?_;refine⟨rfl,λhb=>?_,λhb=>?_⟩
   ·refine Y ?_;exact⟨rfl,_,rfl,by rw[if_pos (by simpa using hb)]⟩
   ·rw[if_neg (by simpa using hb)]
  have ef:ps.filterMap (λp=>if p.2=(i:Int) then some (D.int p.1) else none)=(dw ps i).map .int:=by
   unfold dw;rw[zlW (f:=λ(p:Int×Int)=>D.int p.1) (q:=λ(p:Int×Int)=>p.2=(i:Int)),rG];rfl
  rw[ef];refine Y ?_;have key:∀(t:Nat) (a6 a7:Option Xv) (r:List Int),(grows k d ps [[]] i)[t]?=some r->∀(a2:Option Xv) (P:Vs->S->Prop),(∀a6 a7,P [some (.d (aL n ps)),some (.d (bA k d)),a2,some (.d (.int i)),some (.d (.fl ((dw ps i).map .int))),some (.l s.length),a6,a7] (s++[.lst ((((grows k d ps [[]] i).take (t+1)).flatMap (nextR k d ps)).map cG)]))->WS (exs aq true (λc=>Mi.call aq T (k'+1) c) Xi [some (.d (aL n ps)),some (.d (bA k d)),a2,some (.d (.int i)),some (.d (.fl ((dw ps i).map .int))),some (.l s.length),some (.d (cG r)),a7]) (s++[.lst ((((grows k d ps [[]] i).take t).flatMap (nextR k d ps)).map cG)]) λo s'=>∃J',o=.nx J'/\P J' s':=by
   intro t a6 a7 r er a2 P hP;have:=K8 i t (by lia);have hrl:r.length=i:=by
    have:=eZ er;rw[KJ h] at this;exact(wu (jD.mp this).1).1
   refine zk7 h hk (by lia) hrl (by lia) λa7=>?_;rw[<-K7 t _ r er];exact⟨_,rfl,hP _ _⟩
  rcases yE with ⟨rfl,rfl⟩|⟨j,h1i,rfl,hj⟩
  ·refine Y ?_;refine vY (c:=[.tup []]) (λt J s'=>∃(a6 a7:Option Xv),s'=s++[.lst ((((grows k d ps [[]] 0).take t).flatMap (nextR k d ps)).map cG)]/\J=[some (.d (aL n ps)),some (.d (bA k d)),some (.d (.fl [.tup []])),some (.d (.int ((0:Nat):Int))),some (.d (.fl ((dw ps 0).map .int))),some (.l s.length),a6,a7]) ⟨_,_,rfl,rfl⟩ (λt x J s' e hI=>?_) (λJ s' hI=>?_)
   ·obtain⟨a6,a7,rfl,rfl⟩:=hI;have ht:=(dO.mp e).1;have ht:t=0:=by simp at ht;lia
    subst ht;cases e;refine NZ (N5 ?_);exact key 0 a6 a7 [] rfl _ _ λa6 a7=>⟨a6,a7,rfl,rfl⟩
   ·obtain⟨a6,a7,rfl,rfl⟩:=hI;refine Y ?_;refine⟨_,rfl,_,_,_,_,_,_,rfl,.inr ⟨_,by lia,rfl,N6⟩⟩
  ·refine W.eV rfl ?_;have hjl:j<s.length:=(dO.mp hj).1;refine Ka9 (c:=(grows k d ps [[]] i).map cG) (by rw[mF hjl];exact hj) ?_;refine Kbc (n:=j) (c:=(grows k d ps [[]] i).map cG) (λt J s'=>∃(a6 a7:Option Xv),s'=s++[.lst ((((grows k d ps [[]] i).take t).flatMap (nextR k d ps)).map cG)]/\J=[some (.d (aL n ps)),some (.d (bA k d)),some (.l j),some (.d (.int i)),some (.d (.fl ((dw ps i).map .int))),some (.l s.length),a6,a7]) ⟨_,_,rfl,rfl⟩ (λt J s' hI=>?_) (λt x J s' e hI=>?_) (λJ s' hI=>?_)
   ·obtain⟨a6,a7,rfl,rfl⟩:=hI;rw[mF hjl];exact hj
   ·obtain⟨a6,a7,rfl,rfl⟩:=hI;rw[fQ,lH] at e;obtain⟨r,er,rfl⟩:=e;refine NZ (N5 ?_);exact key t a6 a7 r er _ _ λa6 a7=>⟨a6,a7,rfl,rfl⟩
   ·obtain⟨a6,a7,rfl,rfl⟩:=hI;rw[bO,tQ];refine Y ?_;exact⟨_,rfl,_,_,_,_,_,_,rfl,.inr ⟨_,by lia,rfl,N6⟩⟩
 ·obtain⟨a2,a3,a4,a5,a6,a7,rfl,yE⟩:=hI;rw[bO,lK,show (n-0).toNat=n.toNat by lia] at yE;rcases yE with ⟨e,_⟩|⟨j,h1i,rfl,hj⟩
  ·lia
  ·refine Y ?_;exact⟨j,rfl,hj⟩
end
def vA(o:SO):Prop:=∃a b:Int,o=.lst [.int a,.int b]/\0<=a/\(b=0\/b=1)
theorem Gf{k:Nat}{o:SO}{m:Int}(ho:vA o)(hm:0<m)(hm2:m<1073741824):W (call aq T (k+1) true 43 [.l 0,.d (.int m)]) [o] λv s=>∃d o',v=.d d/\s=[o']/\(∃r:Int,d=.int r/\0<=r/\r<m)/\vA o':=by
 obtain⟨a,b,rfl,ha,hb⟩:=ho;refine W.call zpB rfl ?_;unfold Wa;rcases hb with rfl|rfl
 ·refine Y ?_;exact⟨_,_,rfl,rfl,⟨_,rfl,Ao _ (by lia),Dw _ hm⟩,⟨_,_,rfl,Ao _ (by decide),.inl rfl⟩⟩
 ·refine Y ?_;exact⟨_,_,rfl,rfl,⟨_,rfl,Ao _ (by lia),Dw _ hm⟩,⟨_,_,rfl,Int.ediv_nonneg ha (by lia),.inr rfl⟩⟩
theorem zoP{k:Nat}{n:Int}:W (call aq T (k+1) true 42 [.d (.int n)]) [] λv s=>∃i o,v=.l i/\s[i]?=some o/\vA o:=by
 refine W.call zpD rfl ?_;unfold V_;refine Y ?_;refine⟨0,_,rfl,rfl,⟨_,_,rfl,?_,?_⟩⟩
 ·split<;>lia
 ·have:∀c:Bool,(if c=true then (1:Int) else 0)=0\/(if c=true then (1:Int) else 0)=1:=by intro c;cases c<;>simp
  exact this _
theorem Xk{k:Nat}{o:SO}{m:Int}{P:Xv->S->Prop}(ho:vA o)(hm:0<m)(hm2:m<1073741824)(h:∀(r:Nat) o',(r:Int)<m->vA o'->P (.d (.int r)) [o']):W (cP (call aq T (k+1) true 43) [.l 0,.d (.int m)]) [o] P:=by
 refine Ui (n:=0) (o:=o) rfl rfl ((Gf ho hm hm2).imp λv s=>?_);rintro⟨d,o',rfl,rfl,⟨r,rfl,h0,h1⟩,hp⟩;obtain⟨n,rfl⟩:=yG h0;exact⟨_,_,rfl,rfl,h n o' h1 hp⟩
theorem zmp{k:Nat}{ns:List Int}:W (call aq T (k+1) true 41 [.d (.fl (ns.map D.int)),.d (.int 0)]) [] λv _=>∃n,v=.d (.int n):=by
 refine W.call zpv rfl ?_;unfold V9;cases ns with
 |nil=>
  refine Y ?_;exact⟨_,rfl⟩
 |cons n r=>
  refine Y ?_;refine WS.ite (λ_=>?_) (λ_=>?_)
  ·refine Y ?_;refine fW (NT (i:=0) (x:=.int n) rfl) ?_;refine Y ?_;exact⟨_,rfl⟩
  ·refine Y ?_;exact⟨_,rfl⟩
theorem Xl{k:Nat}{o:SO}{n:Int}(ho:vA o)(h1:1<=n)(h8:n<=8):W (call aq T (k+2) true 44 [.l 0,.d (.int n)]) [o] λv s=>∃ps o',v=.d (aL n ps)/\s=[o']/\Web n ps/\vA o':=by
 refine W.call zpc rfl ?_;unfold Wb;have hs:(100:Nat)<=sizeLine:=by decide
 refine Y ?_;refine Xk ho (by decide) (by decide) λr o' hr hp=>?_;refine Y ?_;have xH:r<3:=by lia
 refine fW (NT (x:=.int (([2,4,6]:List Int)[r]'xH)) ?_) ?_
 ·revert xH;revert r;intro r _ xH;exact match r,xH with
  |0,_=>rfl|1,_=>rfl|2,_=>rfl
  |n+3,h=>absurd h (by lia)
 generalize ([2,4,6]:List Int)[r]=often;refine Y ?_;refine⟨by rw[jz (by lia) (by lia),jz (by lia) (by lia)];rfl,?_⟩;refine vY (λ(i:Nat) J s=>∃(ps:List (Int×Int)) (a:Option Xv) (o':SO),J=[some (.l 0),some (.d (.int n)),some (.d (.int often)),some (.d (.fl (ps.map bT))),a]/\s=[o']/\vA o'/\(∀p∈ps,0<=p.1/\p.1<(i:Int)/\p.1<p.2/\p.2<n)/\ps.Pairwise lx/\ps.length<=7*i)
  ⟨[],_,_,rfl,rfl,hp,by simp,by simp,by simp⟩ (λi x J s e hI=>?_) (λJ s hI=>?_)
 ·obtain⟨ps,a,o',rfl,rfl,hp,ht,Di,hlen⟩:=hI;obtain⟨rfl,hi⟩:=zmW e;have hi8:i<8:=by lia
  refine Y ?_;refine Kat (c:=jK (0+(i:Int)+1) n) (λ(j:Nat) acc s=>∃(es:List Int) (o':SO),acc=es.map (λe=>bT (0+(i:Int),e))/\es.Pairwise (·<·)/\(∀e∈es,(i:Int)<e/\e<(i:Int)+1+j)/\s=[o']/\vA o') ?_ (λj x acc s e hJ=>?_) (λacc s hJ=>?_)
  ·refine Y ?_;refine⟨by rw[jz (by lia) (by lia),jz (by lia) (by lia)];rfl,?_⟩;exact⟨rfl,[],_,rfl,by simp,by simp,rfl,hp⟩
  ·obtain⟨es,o',rfl,Gg,Ab,rfl,hp⟩:=hJ;obtain⟨rfl,hj⟩:=zmW e;have hel:(es.length:Int)<=(i:Int)+1+j-((i:Int)+1):=Uu Gg (λe he=>by have:=Ab e he;lia) (by lia);refine Y ?_;refine Xk hp (by decide) (by decide) λr o' hr hp=>?_;refine Y ?_;refine⟨λhb=>?_,λhb=>?_⟩
   ·refine Y ?_;refine⟨_,rfl,by rw[bO];lia,es++[0+(i:Int)+1+j],o',?_,?_,?_,rfl,hp⟩
    ·rw[mJ];rfl
    ·rw[List.pairwise_append];refine⟨Gg,by simp,λa ha b hb=>?_⟩;simp at hb;have:=Ab a ha
     lia
    ·intro e he;rcases jR.mp he with he|he
     ·have:=Ab e he;lia
     ·simp at he;lia
   ·exact⟨es,o',rfl,Gg,λe he=>by have:=Ab e he;lia,rfl,hp⟩
  ·obtain⟨es,o',rfl,Gg,Ab,rfl,hp⟩:=hJ;rw[zi3] at Ab;have hel:(es.length:Int)<=n-((i:Int)+1):=Uu Gg (λe he=>by have:=Ab e he;lia) (by lia);refine Y ?_;refine yh (FJ ?_) ?_
   ·rw[bO,bO];lia
   refine Y ?_;refine⟨_,rfl,ps++es.map (λe=>(0+(i:Int),e)),some (.d (.int (0+(i:Int)))),o',?_,rfl,hp,?_,?_,?_⟩
   ·rw[mJ,rG];rfl
   ·intro p hp;rcases jR.mp hp with hp|hp
    ·have:=ht p hp;lia
    ·obtain⟨e,he,rfl⟩:=jE.mp hp;have:=Ab e he;dsimp only
     lia
   ·rw[List.pairwise_append,Dy];refine⟨Di,Gg.imp λh=>.inr ⟨rfl,h⟩,λp hp q hq=>?_⟩;obtain⟨e,he,rfl⟩:=jE.mp hq;have:=ht p hp;exact .inl (by dsimp only;lia)
   ·rw[iZ,bO];lia
 ·obtain⟨ps,a,o',rfl,rfl,hp,ht,Di,hlen⟩:=hI;rw[zi3] at ht hlen;refine Y ?_;refine⟨ps,o',rfl,rfl,⟨h1,h8,λp hp=>?_,Di,by lia⟩,hp⟩;have:=ht p hp
  lia
theorem small{n k:Int}(hn:n<=8)(hk:k<=8):1+cnt k.toNat (n.toNat-1)+cnt k.toNat (n.toNat-1)+tot k.toNat (n.toNat-1)<sizeLine:=by
 have:=zeZ (k:=k.toNat) (k2:=8) (m:=n.toNat-1) (m2:=7) (by lia) (by lia);have:=zio (k:=k.toNat) (k2:=8) (m:=n.toNat-1) (m2:=7) (by lia) (by lia);have e:1+cnt 8 7+cnt 8 7+tot 8 7<sizeLine:=by decide
 lia
noncomputable def jm:List (Int×Int):=[(2,1),(3,1),(4,1),(5,2),(5,1),(4,2),(6,2),(7,3),(7,2),(8,3),(3,2),(1,1)]
theorem zjX:∀p∈jm,1<=p.2/\p.2<=p.1/\p.1<=8:=by decide
theorem zjF{k':Nat}{o:SO}(ho:vA o):W (call aq T (k'+2) true 47 [.l 0]) [o] λv s=>∃(k d:Int) (o':SO),v=.d (bA k d)/\s=[o']/\(k,d)∈jm/\vA o':=by
 refine W.call zpt rfl ?_;unfold Wd;refine Y ?_;refine Xk ho (by decide) (by decide) λr o' hr hp=>?_;refine Y ?_;have xH:r<jm.length:=by show r<12;lia
 refine fW (NT (x:=bA jm[r].1 jm[r].2) (by show (jm.map λp=>bA p.1 p.2)[r]?=_;rw[fQ,cX xH];rfl)) ?_;refine Y ?_;exact⟨_,_,_,rfl,rfl,Lq xH,hp⟩
theorem zgf{n k d:Int}{ps:List (Int×Int)}(w:Web n ps)(hk:k<=8)(h6:n<=6):(grows k d ps [[]] n.toNat).length<=262144:=jo (ze3 w _) (jo (Qg (by lia:k.toNat<=8) _) (Nat.pow_le_pow_right (by decide) (by lia:n.toNat<=6)))
theorem Dj{k':Nat}{n k d:Int}{ps:List (Int×Int)}(h:Web n ps)(hr:1<=d/\d<=k/\k<=8)(h6:n<=6):∃A:Int,(A=((grows k d ps [[]] n.toNat).length:Nat)/\0<=A/\A<=262144)/\W (call aq T (k'+9) true 24 [.d (aL n ps),.d (bA k d)]) [] λv s=>v=.d (.int A):=⟨_,⟨rfl,by lia,by have:=zgf (d:=d) h hr.2.2 h6;lia⟩,zj7 h hr h6⟩
theorem zfP{k':Nat}{n k d:Int}{ps:List (Int×Int)}(h:Web n ps)(h4:n<=4)(hr:1<=d/\d<=k/\k<=8):W (call aq T (k'+20) true 48 [.d (aL n ps),.d (bA k d)]) [] λv s=>v=.d (.bl true):=by
 have er:bA k d=.tup [.int k,.int d]:=rfl;have h1:=h.h1;have qx:(100000:Nat)<=sizeLine:=by decide
 refine W.call zpI rfl ?_;unfold Wf;cases ps with
 |nil=>
  have ew:aL n []=.tup [.int n,.tup []]:=rfl;exact Y trivial
 |cons p ps=>
  obtain⟨a,b⟩:=p;have ht:=h.tie (a,b) (by simp);dsimp only at ht;have hw:=Vl h (P_ _ _);have ew:aL n ((a,b)::ps)=.tup [.int n,.tup (bT (a,b)::ps.map bT)]:=rfl;have hlen:(grows k d ps [[]] n.toNat).length<=sizeLine:=by
   have:=zgf (d:=d) hw hr.2.2 (by lia);have:(262144:Nat)<=sizeLine:=by decide
   lia
  refine Y ?_;refine fW (d:=bT (a,b)) (rB (xs:=((a,b)::ps).map bT) (j:=0) (by lia) rfl) ?_;refine Y ?_;refine W.c0 (ziu h) ?_;refine Y ?_;refine Kav (l:=grows k d ps [[]] n.toNat) (f:=cG) [.lst ((grows k d ps [[]] n.toNat).map cG)] (λr=>if cT k (at' r a) (at' r b)<d then some (cG r) else none) hlen ?_ (λr hr2=>?_) ?_
  ·refine W.bd ?_;refine Y ?_;refine Kan rfl ((znn (k':=k'+17) hw (by lia) h4).imp λv s1=>?_);rintro⟨j,rfl,hj⟩;refine⟨j,_,rfl,hj,?_⟩;refine Ka9 (c:=(grows k d ps [[]] n.toNat).map cG) rfl ?_;exact⟨rfl,rfl,λi=>rfl⟩
  ·have hrl:(r.length:Int)=n:=by
    rw[Ox hw] at hr2;have:=(wu (jD.mp hr2).1).1
    lia
   unfold cG;refine Y ?_;refine fW (Oa (by lia) (by lia)) ?_;refine Y ?_;refine fW (Oa (by lia) (by lia)) ?_;refine Y ?_;refine W.c0 zga ?_;refine Y ?_;refine⟨rfl,λhb=>?_,λhb=>?_⟩
   ·refine Y ?_;exact⟨rfl,_,rfl,by rw[if_pos (gG hb)]⟩
   ·rw[if_neg (of_decide_eq_false hb)]
  ·rw[zlW (f:=cG) (q:=λ(r:List Int)=>cT k (at' r a) (at' r b)<d)];refine Y ?_;obtain⟨A,⟨eA,Alo,Ahi⟩,hA⟩:=Dj (k':=k'+10) hw hr (by lia);obtain⟨B,⟨eB,Blo,Bhi⟩,hB⟩:=Dj (k':=k'+10) h hr (by lia);have hc:=zj8 (k:=k) (d:=d) h;refine W.c0 hA ?_;refine Y ?_;refine W.c0 hB ?_;generalize (grows k d ps [[]] n.toNat).filter (λr=>decide (cT k (at' r a) (at' r b)<d))=C at hc ⊢;refine Y ?_;rw[bO];have:A=B+(C.length:Nat):=by lia
   rw[this];exact lM (λb=>Xv.d (.bl b)) (Ak _)
section
variable {n1 n2 k d:Int}{ps1 ps2:List (Int×Int)}
theorem zdE{k':Nat}(h1:Web n1 ps1)(h2:Web n2 ps2)(h3:n1<=3)(h4:n2<=3):∃qs,Web (n1+n2) qs/\(W (call aq T (k'+8) true 30 [.d (aL n1 ps1),.d (aL n2 ps2)]) [] λv s=>v=.d (aL (n1+n2) qs))/\(grows k d qs [[]] (n1+n2).toNat).length=(grows k d ps1 [[]] n1.toNat).length*(grows k d ps2 [[]] n2.toNat).length:=by
 have a1:=h1.h1;have a2:=h2.h1;have hN:=zhu a1 a2;obtain⟨qs,e,w,hm⟩:=zdl h1 h2 hN (by lia);refine⟨qs,w,zit h1 h2 (by lia) e,zfA h1 h2 w λr s hr hs=>?_⟩;rw[zeU hm,zgm];unfold things;rw[zi2,zeM h1 hr,znI (q:=s) h2 hN.len];have:n2.toNat=s.length:=by lia
 rw[this];exact zgh hr
theorem zcy{k' i:Nat}{x:Int}(h1:Web n1 ps1)(h2:Web n2 ps2)(h3:n1<=3)(h4:n2<=3)(hd:1<=d)(hk:1<=k)(hx:0<=x/\x<n1)(hi:(i:Int)<n2):∃qs,Web (n1+n2-1) qs/\(W (call aq T (k'+8) true 31 [.d (aL n1 ps1),.d (aL n2 ps2),.d (.int x),.d (.int i)]) [] λv s=>v=.d (aL (n1+n2-1) qs))/\k.toNat*(grows k d qs [[]] (n1+n2-1).toNat).length=(grows k d ps1 [[]] n1.toNat).length*(grows k d ps2 [[]] n2.toNat).length:=by
 have a1:=h1.h1;have a2:=h2.h1;have hN:=zht a1 a2 hx hi;obtain⟨qs,e,w,hm⟩:=zdl h1 h2 hN (by lia);refine⟨qs,w,zfE h1 h2 hx hi (by lia) e,zds h1 h2 w hd hk hx hi λr t hr hs=>?_⟩;rw[zeU hm,zgm];unfold things;rw[zi2,zeM h1 hr,znI (q:=iR i (at' r x) t) h2 hN.len];have:(n2-1).toNat=t.length:=by lia
 rw[this];unfold pq iR;rw[mJ,mJ,Ly,List.map_drop,zgh hr,g_,DW,oZ (by lia) (by lia)]
end
theorem vB(ns:List Int)(hn:ns.length<=63):∃s',call aq T 60 true 49 [.d (.fl (ns.map D.int))] []=some (.ok (.d (.bl true)),s'):=by
 suffices h:W (call aq T 60 true 49 [.d (.fl (ns.map D.int))]) [] λv _=>v=.d (.bl true) by
  obtain⟨v,s',e,rfl⟩:=h;exact⟨s',e⟩
 have hs:(1000:Nat)<=sizeLine:=by decide
 refine W.call (k:=59) zpd rfl ?_;unfold Wg;refine Y ?_;refine qp rfl ((zmp (k:=58)).imp λv _=>?_);rintro⟨n0,rfl⟩;refine⟨_,rfl,?_⟩;refine Y ?_;refine yh (FJ ?_) ?_
 ·have:=zjA (ns:=ns) (lo:=some 1) (hi:=some 3);show 1+_<=_
  lia
 refine Y ?_;refine vY (λ_ J s=>∃(a b c d e f g h i:Option Xv),J=[some (.d (.fl (ns.map D.int))),a,b,c,d,e,f,g,h,i]) ⟨_,_,_,_,_,_,_,_,_,rfl⟩ (λi x J s hx Dk=>?_) (λJ s Dk=>?_)
 ·obtain⟨m,rfl⟩ : ∃m,x=.int m:=by
   rcases jR.mp (eZ hx) with z|z
   ·rcases gQ.mp z with rfl|z
    ·exact⟨_,rfl⟩
    ·cases z
   ·exact zjZ z
  obtain⟨a,b,c,d,e,f,g,h,i,rfl⟩:=Dk;refine Y ?_;refine Kan rfl ((zoP (k:=58)).imp λv s1=>?_);rintro⟨j,o,rfl,hj,hp⟩;refine⟨j,o,rfl,hj,?_⟩;refine Y ?_;refine oY rfl ((Gf (k:=58) hp (m:=3) (by lia) (by lia)).imp λv s1=>?_);rintro⟨_,o1,rfl,rfl,⟨r1,rfl,aad,aae⟩,hp⟩;refine⟨_,_,rfl,rfl,?_⟩;refine Y ?_;have Xm:1<=1+r1/\1+r1<=3:=by lia
  generalize 1+r1=n1 at Xm ⊢;refine oY rfl ((Xl (k:=57) hp (n:=n1) (by lia) (by lia)).imp λv s1=>?_);rintro⟨ps1,o2,rfl,rfl,Xn,hp⟩;refine⟨_,_,rfl,rfl,?_⟩;refine Y ?_;refine oY rfl ((Gf (k:=58) hp (m:=3) (by lia) (by lia)).imp λv s1=>?_);rintro⟨_,o3,rfl,rfl,⟨r2,rfl,aaf,aag⟩,hp⟩;refine⟨_,_,rfl,rfl,?_⟩;refine Y ?_;have Xo:1<=1+r2/\1+r2<=3:=by lia
  generalize 1+r2=n2 at Xo ⊢;refine oY rfl ((Xl (k:=57) hp (n:=n2) (by lia) (by lia)).imp λv s1=>?_);rintro⟨ps2,o4,rfl,rfl,Ky,hp⟩;refine⟨_,_,rfl,rfl,?_⟩;refine Y ?_;refine oY rfl ((zjF (k':=57) hp).imp λv s1=>?_);rintro⟨kk,dd,o5,rfl,rfl,K9,hp⟩;refine⟨_,_,rfl,rfl,?_⟩;have hr:=zjX _ K9;dsimp only at hr;have er:bA kk dd=.tup [.int kk,.int dd]:=rfl;have e1:aL n1 ps1=.tup [.int n1,.tup (ps1.map bT)]:=rfl;have e2:aL n2 ps2=.tup [.int n2,.tup (ps2.map bT)]:=rfl;obtain⟨A,⟨eA,Alo,Ahi⟩,hA⟩:=Dj (k':=50) Xn hr (by lia);obtain⟨B,⟨eB,Blo,Bhi⟩,hB⟩:=Dj (k':=50) Ky hr (by lia);obtain⟨qs,wq,hb,hbm⟩:=zdE (k':=51) (k:=kk) (d:=dd) Xn Ky Xm.2 Xo.2;obtain⟨C,⟨eC,Clo,Chi⟩,hC⟩:=Dj (k':=50) wq hr (by lia);have Xp:C=A*B:=by rw[eA,eB,eC,hbm,Lw]
  refine Y ?_;refine W.c0 hA ?_;refine Y ?_;refine W.c0 hB ?_;refine Y ?_;refine W.c0 hb ?_;refine Y ?_;refine W.c0 hC ?_;refine Y ?_;refine WS.J3 (lM not (pF.mpr Xp)) ?_;refine Y ?_;refine oY rfl ((Gf (k:=58) hp (m:=n1) (by lia) (by lia)).imp λv s1=>?_);rintro⟨_,o6,rfl,rfl,⟨x,rfl,Oh,Nf⟩,hp⟩;refine⟨_,_,rfl,rfl,?_⟩;refine Y ?_;refine oY rfl ((Gf (k:=58) hp (m:=n2) (by lia) (by lia)).imp λv s1=>?_);rintro⟨_,o7,rfl,rfl,⟨y,rfl,hy0,hy1⟩,hp⟩;refine⟨_,_,rfl,rfl,?_⟩;obtain⟨yi,rfl⟩:=yG hy0;obtain⟨qs2,wq2,Vm,Xq⟩:=zcy (k':=51) (k:=kk) (d:=dd) Xn Ky Xm.2 Xo.2 hr.1 (by lia) ⟨Oh,Nf⟩ hy1;obtain⟨E,⟨eE,Elo,Ehi⟩,hE⟩:=Dj (k':=50) wq2 hr (by lia);have Xr:kk*E=A*B:=by rw[eA,eB,eE,<-Lw,<-Xq,Lw,show ((kk.toNat:Nat):Int)=kk by lia]
  refine Y ?_;refine W.c0 Vm ?_;refine Y ?_;refine W.c0 hE ?_;refine Y ?_;refine WS.J3 (lM not (pF.mpr Xr)) ?_;refine Y ?_;refine oY rfl ((Gf (k:=58) hp (m:=3) (by lia) (by lia)).imp λv s1=>?_);rintro⟨_,o8,rfl,rfl,⟨r3,rfl,aah,aai⟩,hp⟩;refine⟨_,_,rfl,rfl,?_⟩;refine Y ?_;have hz3:2<=2+r3/\2+r3<=4:=by lia
  generalize 2+r3=n3 at hz3 ⊢;refine oY rfl ((Xl (k:=57) hp (n:=n3) (by lia) (by lia)).imp λv s1=>?_);rintro⟨ps3,o9,rfl,rfl,Pu,hp⟩;refine⟨_,_,rfl,rfl,?_⟩;refine Y ?_;refine W.c0 (zfP (k':=39) Pu hz3.2 hr) ?_;obtain⟨G,⟨eG,Glo,Ghi⟩,hG⟩:=Dj (k':=50) Pu hr (by lia);have hpos:=zhX (k:=kk) (d:=dd) Pu hr.1 (by lia);refine Y ?_;refine W.c0 hG ?_;refine Y ?_;refine qp rfl ((zet (k':=19) Pu hr.1 hr.2.1 (by lia) (small (by lia) hr.2.2)).imp λv s1 hv=>?_);rcases hv with ⟨rfl,rN⟩|⟨vO,rfl,hh,hg⟩
  ·have:¬G>0:=λz=>by
    obtain⟨q,hq⟩:=hpos.mp (by lia);exact rN q hq
   refine⟨_,rfl,?_⟩;rw[nQ this];refine Y ?_;exact⟨_,rfl,_,_,_,_,_,_,_,_,_,rfl⟩
  ·have:=hpos.mpr ⟨vO,hh⟩;refine⟨_,rfl,?_⟩;rw[fu (by lia:G>0)];refine Y ?_;exact⟨_,rfl,_,_,_,_,_,_,_,_,_,rfl⟩
 ·obtain⟨a,b,c,d,e,f,g,h,i,rfl⟩:=Dk;exact Y trivial
end eY
open PySem PySem.W PyProof.Rows
set_option maxRecDepth 100000 in
set_option maxHeartbeats 0 in
theorem PySem.Challenge.cw_ringhues_k56_whole_counts_of_webs_made_o_holds : PySem.Challenge.rw_ringhues_k56_whole_counts_of_webs_made_o.Holds := by
 refine PySem.W.holds_law eY.ws λsaid=>?_;refine holds_open (q:=eY.qv) (loose:=eY.loose) (Xt:=λs=>xlAt eY.qv [] s&&recOk [] s) (XP:=XL eY.qv []) (Yf:=(Mi.mD eY.fs eY.ms eY.xs eY.lk eY.bd).obs) (Ya:=(Mi.mD eY.fs eY.ms eY.xs eY.lk eY.bd).val) (YP:=(Mi.mD eY.fs eY.ms eY.xs eY.lk eY.bd).says) (N:=20000) eY.left (Mi.mD eY.fs eY.ms eY.xs eY.lk eY.bd).of (Mi.mD eY.fs eY.ms eY.xs eY.lk eY.bd).keeps (λs e=>xl_of s (Bool.and_eq_true_iff.mp e).1) XL.keeps (by rfl) (by rfl) (by rfl) (λs e=>recFacts_of (Bool.and_eq_true_iff.mp e).2) (by rfl) (by first|assumption|decide +kernel) (by decide +kernel) ⟨rfl,rfl,rfl,rfl,rfl,by decide +kernel⟩ ?hw ?hc
 case hw=>w_witness2
 case hc=>exact Mi.Km (l:=PySem.Challenge.rw_ringhues_k56_whole_counts_of_webs_made_o) (x:="_law_script") (k:=60) rfl rfl ⟨by decide,by decide,rfl⟩ (λw K mg fa h S X G Xc=>eY.all_mk eY.vB S X G Xc)
