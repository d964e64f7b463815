import PyProof.Rows.All
import Wide.All
import KE.KIsAll
import KE.KNestM
import KE.KSortTup
import KE.KLam
import KE.KTryDeep
import KE.KFromBytes
import KE.KDictOf
import Wide.FinOn
import PySem.Challenge.RW_ringhues_k71_whole_webs_of_rings
set_option compiler.extract_closed false
def gV{p:Prop}(h:p:=by lia):p:=h
def Dc{p:Prop}(h:p:=by decide +kernel):p:=h
def Tv{p:Prop}(h:p:=by decide):p:=h
def Zaa{p:Prop}(h:p:=by simp):p:=h
abbrev aB:=@PySem.wpAny_bind
abbrev cD:=@PySem.Heap.get?_push_of_some
abbrev dH:=@List.getElem?_eq_getElem
abbrev aN:=@PySem.wpAny_pure
abbrev eG:=@List.getElem?_eq_some_iff
abbrev cJ:=@Option.some.inj
abbrev bR:=@PySem.Heap.lt_size
abbrev dX:=@PySem.Heap.get?_push_size
abbrev fG:=@List.mem_of_getElem?
abbrev cZ:=@List.length_map
abbrev jT:=@List.getD_eq_getElem?_getD
abbrev eY:=@List.size_toArray
abbrev cj:=@Nat.le_refl
abbrev f9:=@Nat.lt_of_lt_of_le
abbrev iJ:=@List.mem_cons_of_mem
abbrev cV:=@Nat.ne_of_lt
abbrev gb:=@Bool.and_eq_true
abbrev iG:=@List.getElem?_map
abbrev lB:=@Option.map_eq_some_iff
abbrev fP:=@decide_eq_true
abbrev iu:=@List.length_cons
abbrev lC:=@List.mem_append_right
abbrev iZ:=@of_decide_eq_true
abbrev iK:=@List.all_eq_true
abbrev pK:=@List.getElem?_append_left
abbrev pZ:=@List.getElem?_append_right
abbrev lN:=@List.mem_cons_self
abbrev qZ:=@List.getElem?_eq_none_iff
abbrev p7:=@Int.eq_ofNat_of_zero_le
abbrev iM:=@List.mem_cons
abbrev jU:=@List.mem_filter
abbrev jx:=@List.map_cons
abbrev p8:=@List.getElem?_set_ne
abbrev wX:=@PyProof.Rows.slot_tuple_getitem
abbrev nU:=@List.length_range
abbrev gj:=@PySem.wpAny_mono
abbrev qb:=@Array.length_toList
abbrev pL:=@List.length_append
abbrev pN:=@PySem.wpAny_newObj_type
abbrev pO:=@Int.toNat_natCast
abbrev nW:=@List.mem_append
abbrev zj:=@Int.mul_le_mul_of_nonneg_left
abbrev jZ:=@Nat.le_trans
abbrev q_:=@Nat.lt_succ_of_lt
abbrev qd:=@List.lookup_cons
abbrev sO:=@Bool.false_eq_true
abbrev pP:=@decide_eq_false
abbrev qe:=@List.length_set
abbrev lD:=@PySem.wpAny_field
abbrev wY:=@PySem.Heap.get?_update_other
abbrev Bb:=@PyProof.Rows.callWith_type1
abbrev pQ:=@PySem.wpAny_holding
abbrev zm:=@PySem.wpAny_callSpecial?_slot
abbrev v7:=@List.getElem_of_mem
abbrev zp:=@Option.bind_eq_some_iff
abbrev oh:=@List.mem_map
abbrev ou:=@Int.mul_comm
abbrev zu:=@List.getElem?_set_self
abbrev qg:=@Nat.lt_irrefl
abbrev sS:=@PySem.wpAny_seqItems
abbrev uE:=@decide_eq_decide
abbrev v8:=@PySem.wpAny_truthy_bool
abbrev Bc:=@List.getElem?_replicate
abbrev Bf:=@List.getElem?_cons_succ
abbrev qj:=@Nat.ne_of_gt
abbrev uf:=@PySem.Heap.size_push
abbrev zx:=@PySem.Heap.get?_update_ne
abbrev Bg:=@PySem.Heap.get?_update_self
abbrev zy:=@List.mem_filterMap
abbrev zA:=@PySem.Obj.data_mapFields
abbrev oA:=@beq_iff_eq
abbrev sU:=@Nat.le_of_lt
abbrev wZ:=@PySem.wpAny_call_entry
abbrev MP:=@List.take_succ_eq_append_getElem
abbrev rm:=@Int.sub_mul
abbrev lE:=@congrArg
abbrev v9:=@List.mem_range
abbrev uF:=@PySem.wpAny_standAt
abbrev w6:=@List.nodup_cons
abbrev M4:=@Int.mul_le_mul_of_nonneg_right
abbrev Bh:=@PySem.wpAny_Call_Name_kw
abbrev Hw:=@Option.isSome_iff_exists
abbrev Bj:=@List.mem_singleton
abbrev Bk:=@Int.emod_lt_of_pos
abbrev sV:=@Nat.zero_le
abbrev Fl:=@PySem.Heap.get?_none_of_le
abbrev Fp:=@beq_eq_false_iff_ne
abbrev Fq:=@List.filterMap_cons
abbrev zB:=@List.append_nil
abbrev Ft:=@PySem.mem_of_lookup
abbrev Fw:=@List.getElem?_range
abbrev zE:=@Int.emod_nonneg
abbrev M5:=@PySem.F.slot_tuple_iterator_next
abbrev Bl:=@Nat.lt_succ_self
abbrev Bm:=@List.length_take
abbrev Bp:=@List.take_length
abbrev Bq:=@PySem.F.plain_min_loop
abbrev Hx:=@List.length_replicate
abbrev Fx:=@PySem.wpAny_setField_rec
abbrev Fy:=@Nat.lt_of_le_of_lt
abbrev Fz:=@List.pairwise_cons
abbrev Hy:=@List.mem_append_left
abbrev oE:=@if_false
abbrev Hz:=@PySem.Around.under_plainId
abbrev Br:=@PySem.wpAny_passesOwn
abbrev M6:=@PySem.wpAny_comprehension_free
abbrev FJ:=@PySem.Heap.get?_push_ne
abbrev M7:=@PySem.AutoSeq1.wpAny_loadPart'
abbrev FN:=@decide_eq_true_eq
abbrev wg:=@PySem.sizeLine_eq
abbrev wj:=@Int.add_mul
abbrev FP:=@beq_self_eq_true
abbrev FQ:=@List.countP_cons
abbrev Bs:=@List.nodup_nil
abbrev Bt:=@Int.mul_nonneg
abbrev M8:=@PySem.W.cellsFrom_some
abbrev HB:=@Bool.false_ne_true
abbrev HD:=@List.zip_cons_cons
abbrev HF:=@decide_eq_true_iff
abbrev FT:=@List.map_append
abbrev FW:=@List.length_nil
abbrev zF:=@PySem.codeAny_mono
abbrev xq:=@Nat.le_succ
abbrev M9:=@PySem.Obj.isFreed_of_fields
abbrev FZ:=@List.forIn_cons
abbrev M_:=@Int.ediv_lt_of_lt_mul
abbrev Nb:=@List.length_filter_le
abbrev Bu:=@PyProof.Rows.listUpdate_at
abbrev HJ:=@PySem.wpAny_pyIter_list
abbrev Bv:=@List.all_cons
abbrev Nf:=@Nat.mul_le_mul_right
abbrev QS:=@List.pairwise_iff_getElem
abbrev HN:=@Nat.le_of_not_lt
abbrev HS:=@PySem.Heap.size_update
abbrev zG:=@PySem.wpAny_letGo
abbrev QT:=@PySem.F.args_tuple_add_2
abbrev QV:=@List.length_filterMap_le
abbrev QW:=@PySem.F.entry_tuple_add
abbrev Ga:=@PySem.wpAny_attempt
abbrev Ng:=@Array.forIn_toList
abbrev HW:=@PySem.codeAny_builtin
abbrev Gb:=@Int.mul_assoc
abbrev QX:=@PySem.F.slot_tuple_add
abbrev QZ:=@List.range_succ_eq_map
abbrev zJ:=@PySem.wpAny_rule
abbrev Bw:=@Int.mul_one
abbrev Nh:=@List.append_assoc
abbrev Ni:=@List.reverse_cons
abbrev Nj:=@List.nodup_append
abbrev Nk:=@Int.mul_left_comm
abbrev HX:=@PySem.wpAny_setField
abbrev Q0:=@List.filterMap_append
abbrev Q5:=@Int.le_ediv_of_mul_le
abbrev Q6:=@List.countP_le_length
abbrev Nm:=@Option.bind_some
abbrev Np:=@PySem.wpAny_isInstance
abbrev Q7:=@Array.toArray_toList
abbrev Q8:=@PySem.wpAny_updateSeq_pair
abbrev HY:=@PySem.wpAny_newList
abbrev H_:=@PySem.plainId_quiet
abbrev Q9:=@PySem.W.plainGet_of
abbrev Gd:=@PySem.wpAny_of_eq
abbrev Nq:=@PySem.F.slot_zip_next
abbrev Nr:=@List.foldl_cons
abbrev Gf:=@Int.one_mul
abbrev Q_:=@PySem.W.callWith_K
abbrev Ia:=@PySem.wpAny_typeOf
abbrev Ib:=@List.map_map
abbrev Ra:=@Int.mul_right_comm
abbrev Rb:=@Nat.lt_or_eq_of_le
abbrev Nt:=@List.forIn_nil
abbrev Nu:=@List.take_succ
abbrev Gg:=@PySem.wpAny_call
abbrev Gh:=@Nat.not_lt
abbrev Rf:=@bne_self_eq_false
abbrev Rg:=@List.getElem?_inj
abbrev Rh:=@List.map_inj_left
abbrev Gi:=@Int.not_lt
abbrev Ie:=@Int.mul_sub
abbrev Ig:=@Int.mul_add
set_option Elab.async false
set_option linter.all false
set_option maxRecDepth 100000
set_option maxHeartbeats 4000000
noncomputable section
namespace L2
open PySem PySem.Spec PyProof.Rows PySem.W
noncomputable def subIn(K:W.Frag)(C D:Addr):Bool:=PySem.W.ktsIn K C "BaseException"&&PySem.W.ktsIn K D "BaseException"&&match K.lookup C with
 |some ⟨_,_,.cls cd,_⟩=>cd.mro.contains (.ref D)
 |_=>false
noncomputable def Ih:List Value:=[.type "ValueError",.type "Exception",.type "BaseException",.type "object"]
def uG:List Value->Bool
 |.ref _::r=>uG r
 |l=>l==Ih
def uH(K:Frag)(C fI:Addr):Bool:=match K.lookup C with
 |some ⟨.type "type",_,.cls cd,sl⟩=>(match cd.mro,sl.toList with
  |.ref C'::bm,[_,_,_,_,some (.builtin n),_]=>C'==C&&n=="ValueError.__new__" && !cd.hasDel&&tailIn K Ih bm&&nsOkIn K cd.ns&&nsIn K cd.ns "__init__"==some (some (.ref fI))
  |_,_=>false)
 |_=>false
noncomputable def aV(s:Stmt):Arguments:=match s with
 |.FunctionDef _ a _ _ _ _ _ _ _ _=>a
 |_=>{posonlyargs:=[],args:=[],vararg:=none,kwonlyargs:=[],kw_defaults:=[],kwarg:=none,defaults:=[]}
noncomputable def aL(s:Stmt):List Stmt:=match s with
 |.FunctionDef _ _ b _ _ _ _ _ _ _=>b
 |_=>[]
noncomputable def au(s:Stmt):Scope:=match s with
 |.FunctionDef _ _ _ _ _ _ sc _ _ _=>sc
 |_=>{kind:=.function,names:=[],isGenerator:=false,isCoroutine:=false}
end L2
namespace Mi
open PySem PySem.Spec PyProof.Rows L2 PySem.W
noncomputable def Nv(n c:Nat):Nat:=if c<n then c else 0
def Ii(n c e:Nat):Bool:=Nv n e==0||Nv n c==Nv n e
def jg(L:List Addr)(c:Nat):Addr:=L.getD (Nv L.length c) 0
noncomputable def xcB(K:W.Frag)(C:Addr):Bool:=
 PySem.W.findIn K (.ref C) "__getattribute__"==some (some (.builtin "BaseException.__getattribute__"))&&PySem.W.findIn K (.ref C) "__getattr__"==some none&&PySem.W.findIn K (.ref C) "__class__"==some (some (.builtin "object.__class__")) &&
 PySem.W.mroIn K C (.type "BaseException")==some true&&PySem.W.mroIn K C (.type "object")==some true&&(PySem.W.clsIn K C).isSome &&
 PySem.W.specialIn K (.builtin "object.__class__") "__get__"==some (some (.builtin "getset_descriptor.__get__"))&&PySem.W.takesIn K (.builtin "object.__class__")==some true
def zK(K:W.Frag)(L:List Addr):Bool:=(List.range L.length).all λc=>xcB K (L.getD c 0)&&PySem.W.kitOne K (.ref (L.getD c 0)) (.type "ValueError")==some true &&
 (List.range L.length).all λe=>PySem.W.kitOne K (.ref (L.getD c 0)) (.ref (L.getD e 0))==some (Ii L.length c e)
def subB(K:W.Frag)(L:List Addr)(d:Nat):Bool:=(List.range L.length).all λc=>!(Ii L.length c d)||L2.subIn K (L.getD c 0) (jg L d)
noncomputable def oF(fd:FuncData):FuncData:={fd with kwdefaults:=.none,doc:=.none,pyModule:=.none,annotations:=none,code:=.none,closureTuple:=.none}
def wu(x:Str)(st:Stmt):FuncData:=fnOf x x (aV st) (aL st) (au st) .none .none .none .none none .none .none
noncomputable def xr(K:Frag)(x:Str):Option (Addr×FuncData):=match nsIn K mainGlobals x with
 |some (some (.ref f))=>(match K.lookup f with
  |some ⟨_,_,.func fd,_⟩=>(match codeIn K fd.code x&&keepIn K (.ref f) with
   |true=>some (f,fd)
   |false=>none)
  |_=>none)
 |_=>none
noncomputable def dY(K:Frag)(x:Str):Addr:=match nsIn K mainGlobals x with
 |some (some (.ref C))=>C
 |_=>0
noncomputable def uI(K:Frag)(x:Str):Bool:=match nsIn K mainGlobals x with
 |some (some (.ref _))=>true
 |_=>false
noncomputable def mY(K:Frag)(p:Str×Int):Bool:=match nsIn K mainGlobals p.1 with
 |some (some (.int i _))=>decide (i=p.2)
 |_=>false
noncomputable def rz(K:Frag)(x:Str):Bool:=match nsIn K mainGlobals x with
 |some none=>true
 |_=>false
noncomputable def Ij(K:Frag)(C:Addr):Bool:=excIn K C [.type "ValueError",.type "Exception",.type "BaseException",.type "object"] "ValueError.__new__"
structure Lk where
 Ik:List Str
 xu:List (Str×Int)
 Yv:List Str
 Yw:List Nat
 Yx:List Nat
def Lk.L(l:Lk)(K:Frag):List Addr:=l.Ik.map (dY K)
def Lk.good(l:Lk)(K:Frag):Bool:=
 l.Ik.all (uI K)&&(l.Ik.isEmpty||zK K (l.L K))&&l.Yw.all (λk=>Ij K (jg (l.L K) k))&&l.Yx.all (λk=>subB K (l.L K) k)&&l.xu.all (mY K)&&l.Yv.all (rz K)
noncomputable def rA(h:Heap):List Addr->Frag
 |[]=>[]
 |a::r=>match h.get? a with
  |some o=>(a,o)::rA h r
  |none=>rA h r
noncomputable def eZ(s:Stmt):List Stmt:=match s with
 |.ClassDef _ _ _ b _ _ _ _ _ _ _=>b
 |_=>[]
def BJ(q:Str)(st:Stmt):FuncData:=fnOf "__init__" q (aV st) (aL st) (au st) .none .none .none .none none .none .none
def Il(K:Frag)(C:Addr):Option FuncData:=match clsIn K C with
 |some cd=>(match nsIn K cd.ns "__init__" with
  |some (some (.ref f))=>(match K.lookup f with
   |some ⟨.type "function",_,.func fd,_⟩=>(match codeIn K fd.code fd.qualname&&uH K C f&&uG cd.mro&&cd.hasDict with
    |true=>some fd
    |false=>none)
   |_=>none)
  |_=>none)
 |none=>none
noncomputable def setB(K:Frag)(C:Addr)(fs:List Str):Bool:=findIn K (.ref C) "__setattr__"==some (some (.builtin "object.__setattr__"))&&fs.all (λf=>findIn K (.ref C) f==some none)
noncomputable def Ny(K:Frag)(C:Addr)(f:Str):Bool:=findIn K (.ref C) "__getattribute__"==some (some (.builtin "BaseException.__getattribute__"))&&findIn K (.ref C) "__getattr__"==some none&&mroIn K C (.type "BaseException")==some true&&findIn K (.ref C) f==some none&&hasDictIn K C
structure uJ where
 c:Nat
 q:Str
 st:Stmt
 fs:List Str
noncomputable def rB(o:Obj):Bool:=match o with
 |⟨.none,none,.fields vs,sl⟩=>vs.isEmpty&&sl.isEmpty
 |_=>false
def Im:Nat->List Obj->Frag
 |_,[]=>[]
 |i,o::r=>match o.isFreed||rB o with
  |true=>Im (i+1) r
  |false=>(i,o)::Im (i+1) r
def bV(h:Heap):Frag:=rA h [mainGlobals]++(Im 0 h.objs.toList).reverse
def j8(fs:List (Str×Stmt))(ms:List uJ)(xs:List (Nat×Str))(l:Lk)(s:Shared):List (Option FuncData)×List (Option FuncData)×Bool:=
 (fs.map (λp=>(xr (bV s.heap) p.1).map (λq=>oF q.2)),ms.map (λm=>(Il (bV s.heap) (jg (l.L (bV s.heap)) m.c)).map oF),
  l.good (bV s.heap)&&ms.all (λm=>setB (bV s.heap) (jg (l.L (bV s.heap)) m.c) m.fs)&&xs.all (λx=>Ny (bV s.heap) (jg (l.L (bV s.heap)) x.1) x.2))
def lO(fs:List (Str×Stmt))(ms:List uJ)(w:World):List (Option FuncData)×List (Option FuncData)×Bool:=(fs.map (λp=>some (wu p.1 p.2)),ms.map (λm=>some (BJ m.q m.st)),true)
def Nz(fs:List (Str×Stmt))(s:Shared):List (Option FuncData):=fs.map (λp=>(xr (bV s.heap) p.1).map (λq=>oF q.2))
def Yy(ms:List uJ)(xs:List (Nat×Str))(l:Lk)(s:Shared):List (Option FuncData)×Bool:=(ms.map (λm=>(Il (bV s.heap) (jg (l.L (bV s.heap)) m.c)).map oF),
  l.good (bV s.heap)&&ms.all (λm=>setB (bV s.heap) (jg (l.L (bV s.heap)) m.c) m.fs)&&xs.all (λx=>Ny (bV s.heap) (jg (l.L (bV s.heap)) x.1) x.2))
theorem zfE{p q:Program}{loose:List Str}{Xt:Shared->Bool}{N:Nat}{fs1 sW:List (Str×Stmt)}{ms:List uJ}{xs:List (Nat×Str)}{l:Lk}
  (a:∀w,(openEnds treeTable p w N).map (λs=>openSeen q loose (importedModules p.main.body) Xt true s)=some (openGood q loose))
  (b1:∀w,(openEnds treeTable p w N).map (Nz fs1)=some (fs1.map λp=>some (wu p.1 p.2)))
  (b2:∀w,(openEnds treeTable p w N).map (Nz sW)=some (sW.map λp=>some (wu p.1 p.2)))
  (c:∀w,(openEnds treeTable p w N).map (Yy ms xs l)=some (ms.map (λm=>some (BJ m.q m.st)),true)):LeftO p q loose Xt (j8 (fs1++sW) ms xs l) (lO (fs1++sW) ms) N:=by
 intro w;have a:=a w;have b1:=b1 w;have b2:=b2 w;have c:=c w;cases e:openEnds treeTable p w N with
 |none=>rw[e] at a;cases a
 |some s=>
  rw[e] at a b1 b2 c;have a:openSeen q loose (importedModules p.main.body) Xt true s=openGood q loose:=cJ a;have b1:=cJ b1;have b2:=cJ b2;have c:=cJ c;have c1:=lE Prod.fst c;have c2:=lE Prod.snd c;show some (_,j8 (fs1++sW) ms xs l s)=_;rw[a];have:j8 (fs1++sW) ms xs l s=lO (fs1++sW) ms w:=by
   unfold j8 lO;rw[FT,FT];have b1:List.map _ fs1=List.map _ fs1:=b1;have b2:List.map _ sW=List.map _ sW:=b2;rw[b1,b2];exact Prod.ext rfl (Prod.ext c1 c2)
  rw[this]
structure Bd where
 n:Str
 fs:List Str
 ms:List (Str×Str×Stmt)
noncomputable def mz(K:Frag)(C:Addr)(m:Str):Option (Addr×FuncData):=match findIn K (.ref C) m with
 |some (some (.ref f))=>(match K.lookup f with
  |some ⟨_,_,.func fd,_⟩=>(match codeIn K fd.code fd.qualname&&keepIn K (.ref f)&&isFn K (.ref f) with
   |true=>some (f,fd)
   |false=>none)
  |_=>none)
 |_=>none
def Gj(m q:Str)(st:Stmt):FuncData:=fnOf m q (aV st) (aL st) (au st) .none .none .none .none none .none .none
def zL(K:Frag)(b:Bd):Bool:=uI K b.n&&plainGet K (dY K b.n) Str.empty&&hasDictIn K (dY K b.n)&&plainOver K (dY K b.n)&&findIn K (.ref (dY K b.n)) "__setattr__"==some (some (.builtin "object.__setattr__"))&&makesIn K (dY K b.n)&&keepIn K (.ref (dY K b.n))&&b.fs.all (λf=>findIn K (.ref (dY K b.n)) f==some none)
def xG(b:Bd)(s:Shared):List (Option FuncData)×Bool:=(b.ms.map λp=>(mz (bV s.heap) (dY (bV s.heap) b.n) p.1).map λq=>oF q.2,zL (bV s.heap) b)
def xH(b:Bd):List (Option FuncData)×Bool:=(b.ms.map λp=>some (Gj p.1 p.2.1 p.2.2),true)
theorem zjN{p q:Program}{loose:List Str}{Xt:Shared->Bool}{N:Nat}{fs:List (Str×Stmt)}{ms:List uJ}{xs:List (Nat×Str)}{l:Lk}{b:Bd}(h:LeftO p q loose Xt (j8 fs ms xs l) (lO fs ms) N)(e:∀w,(openEnds treeTable p w N).map (xG b)=some (xH b)) :
  LeftO p q loose Xt (λs=>(j8 fs ms xs l s,xG b s)) (λw=>(lO fs ms w,xH b)) N:=by
 intro w;have h:=h w;have e:=e w;cases z:openEnds treeTable p w N with
 |none=>rw[z] at e;cases e
 |some s=>
  rw[z] at h e;have e:xG b s=xH b:=cJ e;have h:=cJ h;have h1:=lE Prod.fst h;have h2:=lE Prod.snd h;show some (_,_,_)=some (_,_,_);rw[e];exact lE some (Prod.ext h1 (Prod.ext h2 rfl))
noncomputable def mC(o:Obj):Option Value:=match o.data with
 |.fields vs=>(match (vs[1]? : Option Value) with
  |some (.str q _)=>(match q=="plain_rings" with
   |true=>vs[11]?
   |false=>none)
  |_=>none)
 |_=>none
noncomputable def bmB(K:Frag):Bool:=match nsIn K mainGlobals "__builtins__" with
 |some (some (.ref bm))=>(match K.lookup bm with
  |some ⟨.type "module",some d,.plain,_⟩=>d==builtinsNs&&bm != builtinsNs&&bm != mainGlobals
  |_=>false)
 |_=>false
def Io(h:Heap)(P:Addr):Bool:=match h.get? P with
 |some o=>rB o
 |none=>false
def BK(K:Frag)(h:Heap):Bool:=match xr K "plain_rings" with
 |some q=>(match q.2.code with
  |.ref c=>(match (K.lookup c).bind mC with
   |some (.ref P)=>codeHdIn K c P&&(K.lookup P).isNone&&Io h P&&bmB K&&K.all (λr=>match mC r.2 with
    |some (.ref p)=>p==P
    |_=>true)
   |_=>false)
  |_=>false)
 |none=>false
def oG(s:Shared):Bool:=BK (bV s.heap) s.heap
theorem zhD{p q:Program}{loose:List Str}{Xt:Shared->Bool}{N:Nat}{α:Type}{Yf:Shared->α}{Ya:World->α}(h:LeftO p q loose Xt Yf Ya N)(e:∀w,(openEnds treeTable p w N).map oG=some true) :
  LeftO p q loose Xt (λs=>(Yf s,oG s)) (λw=>(Ya w,true)) N:=by
 intro w;have h:=h w;have e:=e w;cases z:openEnds treeTable p w N with
 |none=>rw[z] at h;cases h
 |some s=>
  rw[z] at h e;have h:=cJ h;have e:oG s=true:=cJ e;show some (_,(Yf s,oG s))=_;have h1:openSeen q loose (importedModules p.main.body) Xt true s=openGood q loose:=lE Prod.fst h;have h2:Yf s=Ya w:=lE Prod.snd h;rw[e,h1,h2]
end Mi
namespace eN
open PySem PySem.Spec PyProof.Rows PySem.W L2 Mi
noncomputable def top(i:Nat):Stmt:=PySem.Challenge.pw_ringhues_k71_whole_webs_of_rings.main.body.getD i (.Pass ⟨0,0,0,0⟩)
def Gk:Stmt:=(eZ (top 37)).getD 0 (.Pass ⟨0,0,0,0⟩)
def Ip:Stmt:=(eZ (top 37)).getD 1 (.Pass ⟨0,0,0,0⟩)
def Gm:Stmt:=(eZ (top 37)).getD 2 (.Pass ⟨0,0,0,0⟩)
def Gn:Stmt:=(eZ (top 37)).getD 3 (.Pass ⟨0,0,0,0⟩)
def Gp:Stmt:=(eZ (top 37)).getD 4 (.Pass ⟨0,0,0,0⟩)
def Ir:Stmt:=(eZ (top 37)).getD 5 (.Pass ⟨0,0,0,0⟩)
def Gq:Stmt:=(eZ (top 37)).getD 6 (.Pass ⟨0,0,0,0⟩)
def bd:Bd:=⟨"Board",["ends","spots","apart","alike"],[("__init__","Board.__init__",Gk),("far_apart","Board.far_apart",Ip),("settled","Board.settled",Gm),("ties_left","Board.ties_left",Gn),("bound","Board.bound",Gp),("narrowest","Board.narrowest",Ir),("all_free","Board.all_free",Gq)]⟩
def fs1:List (Str×Stmt):=("is_whole",top 8)::("is_within",top 9)::("is_row",top 10)::("check_most",top 11)::("is_ring",top 14)::("is_spot",top 15)::("check_ring",top 16)::("gap_of",top 17)::("is_shorter",top 18)::("lowest_terms",top 19)::("is_web",top 22)::("web_of",top 23)::("is_many",top 24)::("is_place",top 25)::("is_tie",top 26)::("tie_by",top 27)::("check_web",top 28)::("are_tied",top 29)::("all_pairs",top 30)::("tied_to",top 31)::("all_ends",top 32)::("ring_web",top 34)::("leads",top 35)::("ring_board",top 38)::("map_board",top 39)::[]
def sW:List (Str×Stmt):=("hues_hold",top 41)::("are_spots",top 42)::("are_hues",top 43)::("check_hues",top 44)::("clash_of",top 45)::("first_hues",top 47)::("first_among",top 48)::("first_spot",top 49)::("can_settle",top 50)::("search",top 51)::("map_holds",top 53)::("first_map",top 54)::("led_hues",top 55)::("plain_rings",top 58)::("has_room",top 59)::("shortest",top 60)::("is_plain",top 61)::("_law_cell",top 63)::("_law_pen",top 64)::("_law_draw",top 65)::("_law_web",top 66)::("_law_small_ring",top 67)::("_law_ring_right",top 68)::("_law_web_right",top 69)::("law",top 70)::[]
abbrev fs:List (Str×Stmt):=fs1++sW
noncomputable def lk:Lk:=⟨[],[("MOST_SPOTS",24),("MOST_PLACES",8),("SO_OFTEN",27720)],["abs","all","bool","divmod","enumerate","int","isinstance","len","list","max","min","range","sorted","tuple","zip"],[],[]⟩
noncomputable def ms:List uJ:=[]
noncomputable def xs:List (Nat×Str):=[]
noncomputable abbrev pv:Program:=PySem.Challenge.pw_ringhues_k71_whole_webs_of_rings
def qv:Program:={pv with main:={pv.main with body:=[pv.main.body.getD 70 (.Pass ⟨0,0,0,0⟩)]}}
noncomputable def loose:List Str:=(["HueError","NoRing","NoHues","NoMap","NoWeb","TooGreat","is_whole","is_within","is_row","check_most","MOST_SPOTS","is_ring","is_spot","check_ring","gap_of","is_shorter","lowest_terms","MOST_PLACES","is_web","web_of","is_many","is_place","is_tie","tie_by","check_web","are_tied","all_pairs","tied_to","all_ends","ring_web","leads","Board","ring_board","map_board","hues_hold","are_spots","are_hues","check_hues","clash_of","first_hues","first_among","first_spot","can_settle","search","map_holds","first_map","led_hues","SO_OFTEN","plain_rings","has_room","shortest","is_plain","_law_cell","_law_pen","_law_draw","_law_web","_law_small_ring","_law_ring_right","_law_web_right"]:List String).map Str.ofString
def zlv(w:World):(openEnds treeTable pv w 20000).map (λs=>openSeen qv loose (importedModules pv.main.body) (λs=>xlAt qv [] s&&recOk [] s) true s)=some (openGood qv loose):=by
 kernel_rfl
def zmW(w:World):(openEnds treeTable pv w 20000).map (Nz fs1)=some (fs1.map λp=>some (wu p.1 p.2)):=by
 kernel_rfl
def zld(w:World):(openEnds treeTable pv w 20000).map (Nz sW)=some (sW.map λp=>some (wu p.1 p.2)):=by
 kernel_rfl
def zmv(w:World):(openEnds treeTable pv w 20000).map (Yy ms xs lk)=some (ms.map (λm=>some (BJ m.q m.st)),true):=by
 kernel_rfl
theorem ws:PySem.Challenge.rw_ringhues_k71_whole_webs_of_rings.wellSaid=true:=by
 kernel_rfl
def zla(w:World):(openEnds treeTable pv w 20000).map (xG bd)=some (xH bd):=by
 kernel_rfl
def zly:LeftO pv qv loose (λs=>xlAt qv [] s&&recOk [] s) (λs=>(j8 fs ms xs lk s,xG bd s)) (λw=>(lO fs ms w,xH bd)) 20000:=zjN (zfE zlv zmW zld zmv) zla
def zl9(w:World):(openEnds treeTable pv w 20000).map oG=some true:=by
 kernel_rfl
def left:LeftO pv qv loose (λs=>xlAt qv [] s&&recOk [] s) (λs=>((j8 fs ms xs lk s,xG bd s),oG s)) (λw=>((lO fs ms w,xH bd),true)) 20000:=zhD zly zl9
end eN
namespace L2
open PySem PySem.Spec PyProof.Rows
def fH{α:Sort u}{β:Sort v}{A B C:α->β->Prop}{P:Prop}(h:∃x y,A x y/\B x y/\C x y)(k:∀x y,A x y->B x y->C x y->P):P:=by
 obtain⟨x,y,a,b,c⟩:=h;exact k x y a b c
def Ri{α:Sort u}{β:Sort v}{γ:Sort w}{A B:α->β->Prop}{C D:α->β->γ->Prop}{P:Prop}(h:∃x y,A x y/\B x y/\∃z,C x y z/\D x y z)(k:∀x y,A x y->B x y->∀z,C x y z->D x y z->P):P:=by
 obtain⟨x,y,a,b,z,c,d⟩:=h;exact k x y a b z c d
def wz{α:Sort u}{A B:α->Prop}{P:Prop}(h:∃x,A x/\B x)(k:∀x,A x->B x->P):P:=by
 obtain⟨x,a,b⟩:=h;exact k x a b
noncomputable abbrev Key:=Sum Int Str
noncomputable def zM:Key->Value->Bool
 |.inl k,v=>Value.isInt k v
 |.inr x,v=>Value.isStrOf x v
noncomputable def Rj(w:World):Key->Int
 |.inl k=>hashInt k
 |.inr x=>hashStr w x
theorem xJ:∀{k:Key} {v:Value},zM k v=true->(∃i t,k=Sum.inl i/\v=Value.int i t)\/(∃x t,k=Sum.inr x/\v=Value.str x t)
 |.inl i,v,h=>by
  obtain⟨t,e⟩:=Value.isInt_shape (k:=i) (v:=v) h;exact .inl ⟨i,t,rfl,e⟩
 |.inr x,v,h=>by
  obtain⟨t,e⟩:=Value.isStrOf_shape (x:=x) (v:=v) h;exact .inr ⟨x,t,rfl,e⟩
def zl0(a b:Int):decide ((Sum.inl a:Key)=Sum.inl b)=(a==b):=by
 by_cases e:a=b
 ·subst e;simp
 ·have h:¬(Sum.inl a:Key)=Sum.inl b:=λq=>e (Sum.inl.inj q);rw[pP h];exact(Fp.mpr e).symm
def zlR(a b:Str):decide ((Sum.inr a:Key)=Sum.inr b)=decide (a=b):=by
 by_cases e:a=b
 ·subst e;simp
 ·have h:¬(Sum.inr a:Key)=Sum.inr b:=λq=>e (Sum.inr.inj q);rw[pP h,pP e]
def zl6(a:Int)(b:Str):decide ((Sum.inl a:Key)=Sum.inr b)=false:=pP (λq=>nomatch q)
def zm9(a:Str)(b:Int):decide ((Sum.inr a:Key)=Sum.inl b)=false:=pP (λq=>nomatch q)
def mZ(prog:Program)(w:World):PySem.KeyKind prog w Key where
 is:=zM
 hash:=Rj w
 inj:=λv a b ha hb=>by
  rcases xJ ha with ⟨i,t,rfl,rfl⟩|⟨x,t,rfl,rfl⟩
  ·rcases xJ hb with ⟨j,u,rfl,e⟩|⟨y,u,rfl,e⟩
   ·injection e with e1 _;rw[e1]
   ·exact nomatch e
  ·rcases xJ hb with ⟨j,u,rfl,e⟩|⟨y,u,rfl,e⟩
   ·exact nomatch e
   ·injection e with e1 _;rw[e1]
 byValue:=λk v h=>by
  rcases xJ h with ⟨i,t,rfl,rfl⟩|⟨x,t,rfl,rfl⟩<;>rfl
 pyHash:=λhv h=>by
  rcases xJ hv with ⟨i,t,rfl,rfl⟩|⟨x,t,rfl,rfl⟩
  ·exact wpAny_pyHash_int h
  ·exact wpAny_pyHash_str h
 eqBool:=λhu hv h=>by
  rcases xJ hu with ⟨i,t,rfl,rfl⟩|⟨x,t,rfl,rfl⟩
  ·rcases xJ hv with ⟨j,u,rfl,rfl⟩|⟨y,u,rfl,rfl⟩
   ·rw[zl0] at h;exact wpAny_eqBool_int h
   ·rw[zl6] at h;exact SeqAt.EqAt.int_str i t y u _ _ _ _ h
  ·rcases xJ hv with ⟨j,u,rfl,rfl⟩|⟨y,u,rfl,rfl⟩
   ·rw[zm9] at h;exact SeqAt.EqAt.str_int x t j u _ _ _ _ h
   ·rw[zlR] at h;exact wpAny_eqBool_str h
 «strs»:=λk x t v h=>by
  rcases xJ h with ⟨i,u,rfl,e⟩|⟨y,u,rfl,e⟩
  ·exact nomatch e
  ·injection e with e1 _;subst e1;cases v<;>rfl
inductive V where
 |non|bl (b:Bool)|int (i:Int)|str (x:Str)|BL (b:Array UInt8)|flt (b:UInt64)|ref (a:Addr)|ty (n:String)
 deriving DecidableEq
noncomputable def RelV:V->Value->Prop
 |.non,u=>u=Value.none
 |.bl b,u=>u=Value.bool b
 |.int i,u=>∃t,u=Value.int i t
 |.str x,u=>∃t,u=Value.str x t
 |.BL b,u=>∃t,u=Value.bytes b t
 |.flt b,u=>∃t,u=Value.float b t
 |.ref a,u=>u=Value.ref a
 |.ty n,u=>u=Value.type n
abbrev Vals:List V->List Value->Prop:=Paired RelV
def Vals.length{xs:List V}{us:List Value}(r:Vals xs us):xs.length=us.length:=Paired.length r
theorem Vals.get:∀{xs:List V} {us:List Value} {i:Nat} {x:V},Vals xs us->xs[i]?=some x->∃u,us[i]?=some u/\RelV x u
 |_,_,_,_,.nil,e=>by simp at e
 |_,_,0,_,.cons r _,e=>by simp at e;subst e;exact⟨_,rfl,r⟩
 |_,_,i+1,x,.cons _ t,e=>by
  obtain⟨u,h1,h2⟩:=Vals.get (i:=i) (x:=x) t (by simpa using e);exact⟨u,by simpa using h1,h2⟩
def Vals.set{x:V}{u:Value}(r:RelV x u):∀{xs:List V} {us:List Value} (i:Nat),Vals xs us->Vals (xs.set i x) (us.set i u)
 |_,_,_,.nil=>.nil
 |_,_,0,.cons _ t=>.cons r t
 |_,_,i+1,.cons q t=>.cons q (Vals.set r i t)
def Vals.append{xs ys:List V}{us ws:List Value}(h:Vals xs us)(s:Vals ys ws):Vals (xs++ys) (us++ws):=by
 induction h with
 |nil=>exact s
 |cons r _ ih=>exact .cons r ih
def Vals.take:∀{xs:List V} {us:List Value} (n:Nat),Vals xs us->Vals (xs.take n) (us.take n)
 |_,_,0,_=>.nil
 |_,_,_+1,.nil=>.nil
 |_,_,n+1,.cons r t=>.cons r (Vals.take n t)
def Vals.drop:∀{xs:List V} {us:List Value} (n:Nat),Vals xs us->Vals (xs.drop n) (us.drop n)
 |_,_,0,r=>r
 |_,_,_+1,.nil=>.nil
 |_,_,n+1,.cons _ t=>Vals.drop n t
def sX:Option V->Option Value->Prop
 |some v,some u=>RelV v u
 |none,none=>True
 |_,_=>False
def KV{κ:Type}:List (κ×V)->List (κ×Value)->Prop:=Paired λ(p:κ×V) (q:κ×Value)=>p.1=q.1/\RelV p.2 q.2
noncomputable def kV:Key->V
 |.inl i=>.int i
 |.inr x=>.str x
inductive HO where
 |lst (xs:List V)
 |tup (xs:List V)
 |dK (kvs:List (Key×V))|dT (kvs:List (List Key×V))
 |set (S:Int->Bool) (n:Nat)
 |ins (C dx:Addr) (fs:List (Str×V))
 |own (x:Addr)
 |xd (fs:List (Str×V))
 |met (f x:Addr)
 |rng (lo hi:Int)
 |oH (o:Obj) (u:HO)
 |mD (ps:Array Value)
 |ext (U:Heap->Prop)
noncomputable abbrev Hp:=Addr->Option HO
noncomputable def upd(H:Hp)(a:Addr)(o:HO):Hp:=λb=>if b=a then some o else H b
def iQ{H:Hp}{a:Addr}{o:HO}:upd H a o a=some o:=by unfold upd;rw[if_pos rfl]
def bW{H:Hp}{a b:Addr}{o:HO}(h:b≠a):upd H a o b=H b:=by unfold upd;rw[if_neg h]
def Yz{H:Hp}{a:Addr}{o u:HO}:upd (upd H a o) a u=upd H a u:=by
 funext b;unfold upd;split<;>rfl
def xK{H:Hp}{a b:Addr}{o:HO}(h:H a=some o)(h':H b=none):a≠b:=by
 intro e;subst e;rw[h] at h';cases h'
section
variable (P:Program)(w:World)
def bL(H:Hp)(h:Heap)(a:Addr):HO->Prop
 |.lst xs=>xs.length<=sizeLine/\∃(its:List Value) (n:Nat),Vals xs its/\h.get? a=some {cls:=.type "list",data:=.seq its.toArray n}
 |.tup xs=>xs.length<=sizeLine/\∃its:List Value,Vals xs its/\IsTup h a its.toArray
 |.dK kvs=>kvs.length<=sizeLine/\(a==sysModules)=false/\∃vs,KV kvs vs/\h.DictOf (mZ P w) a vs
 |.dT kvs=>kvs.length<=sizeLine/\(a==sysModules)=false/\∃xs:List (List Key×Addr×Value),
   Paired (λ(p:List Key×V) (q:List Key×Addr×Value)=>p.1=q.1/\H q.2.1=some (.tup (p.1.map kV))/\RelV p.2 q.2.2) kvs xs /\
   ∃o es ep,h.get? a=some o/\o.ExactDict/\o.data=.dict es ep/\es.toList=xs.map (entryOfKey (tupleKind (mZ P w)))/\(xs.map (·.1)).Nodup
 |.set S n=>h.SetOf (intKind P w) a S n
 |.ins C dx fs=>H dx=some (.own a)/\fs.length<=1000/\dx≠a/\h.get? a=some (PySem.W.instObj C dx) /\
   ∃mA,h.Ns1 dx mA/\(∀f,sX (fs.lookup f) (mA f))/\PySem.Within mA (fs.map (·.1))
 |.own _=>∃o,h.get? a=some o
 |.xd fs=>∃mA,h.Ns1 a mA/\∀f,sX (fs.lookup f) (mA f)
 |.rng lo hi=>∃t u v,h.get? a=some {cls:=.type "range",data:=.fields #[.int lo t,.int hi u,.int 1 v]}
 |.oH o u=>h.get? a=some o/\bL H h a u
 |.mD ps=>h.get? a=some {cls:=.none,data:=.fields ps}
 |.met f x=>h.get? a=some (PySem.W.methodObj (.ref f) (.ref x))
 |.ext U=>U h/\(∃o,h.get? a=some o)/\∀h1 h2:Heap,U h1->(∀o,h1.get? a=some o->h2.get? a=some o)->U h2
def i_(H:Hp)(h:Heap):Prop:=∀a o,H a=some o->bL P w H h a o
end
section
variable {P:Program}{w:World}{H H':Hp}{h h':Heap}{a:Addr}{o:HO}
theorem bL.lt(x:bL P w H h a o):a<h.objs.size:=by
 cases o with
 |lst xs=>obtain⟨_,_,_,_,e⟩:=x;exact bR e
 |tup xs=>obtain⟨_,_,_,p⟩:=x;exact p.lt
 |dK kvs=>obtain⟨_,_,_,_,o,_,_,e,_⟩:=x;exact bR e
 |dT kvs=>obtain⟨_,_,_,_,o,_,_,e,_⟩:=x;exact bR e
 |set S n=>obtain⟨o,_,_,_,e,_⟩:=x;exact bR e
 |ins C dx fs=>obtain⟨_,_,_,e,_⟩:=x;exact bR e
 |own y=>obtain⟨_,e⟩:=x;exact bR e
 |xd fs=>obtain⟨_,⟨_,_,_,e,_⟩,_⟩:=x;exact bR e
 |rng lo hi=>obtain⟨_,_,_,e⟩:=x;exact bR e
 |oH ob u=>obtain⟨e,_⟩:=x;exact bR e
 |mD ps=>exact bR (show h.get? a=some _ from x)
 |met f y=>exact bR (show h.get? a=some _ from x)
 |ext U=>obtain⟨_,⟨_,e⟩,_⟩:=x;exact bR e
def YB{α β:Type}{F G:α->β->Prop}:∀{l₁:List α} {l₂:List β},Paired F l₁ l₂->(∀a b,F a b->G a b)->Paired G l₁ l₂
 |_,_,.nil,_=>.nil
 |_,_,.cons r t,f=>.cons (f _ _ r) (YB t f)
theorem bL.stay(x:bL P w H h a o)(k:∀b u,(b=a\/H b=some (.own a))->h.get? b=some u->h'.get? b=some u)
  (ho:∀b,H b=some (.own a)->H' b=some (.own a)) (ht:∀b xs,H b=some (.tup xs)->H' b=some (.tup xs)):bL P w H' h' a o:=by
 induction o with
 |lst xs=>obtain⟨z,its,n,r,e⟩:=x;exact⟨z,its,n,r,k _ _ (.inl rfl) e⟩
 |tup xs=>obtain⟨z,its,r,ob,e,c⟩:=x;exact⟨z,its,r,ob,k _ _ (.inl rfl) e,c⟩
 |dK kvs=>obtain⟨z,y,vs,r,ob,es,ep,e,c⟩:=x;exact⟨z,y,vs,r,ob,es,ep,k _ _ (.inl rfl) e,c⟩
 |dT kvs=>
  obtain⟨z,y,xs,r,ob,es,ep,e,c⟩:=x;exact⟨z,y,xs,YB r λp q z=>⟨z.1,ht _ _ z.2.1,z.2.2⟩,ob,es,ep,k _ _ (.inl rfl) e,c⟩
 |set S n=>obtain⟨ob,es,ep,t,e,c⟩:=x;exact⟨ob,es,ep,t,k _ _ (.inl rfl) e,c⟩
 |ins C dx fs=>
  obtain⟨d,z,ne,e,mA,⟨od,es,ep,e2,c⟩,r⟩:=x;exact⟨ho _ d,z,ne,k _ _ (.inl rfl) e,mA,⟨od,es,ep,k _ _ (.inr d) e2,c⟩,r⟩
 |own y=>obtain⟨ob,e⟩:=x;exact⟨ob,k _ _ (.inl rfl) e⟩
 |xd fs=>obtain⟨mA,⟨od,es,ep,e,c⟩,r⟩:=x;exact⟨mA,⟨od,es,ep,k _ _ (.inl rfl) e,c⟩,r⟩
 |rng lo hi=>obtain⟨t,u,v,e⟩:=x;exact⟨t,u,v,k _ _ (.inl rfl) e⟩
 |oH ob u ih=>obtain⟨e,q⟩:=x;exact⟨k _ _ (.inl rfl) e,ih q⟩
 |mD ps=>
  have e:h.get? a=some {cls:=.none,data:=.fields ps}:=x;show h'.get? a=some {cls:=.none,data:=.fields ps};exact k a _ (.inl rfl) e
 |met f y=>
  have e:h.get? a=some (PySem.W.methodObj (.ref f) (.ref y)):=x;show h'.get? a=some (PySem.W.methodObj (.ref f) (.ref y));exact k a _ (.inl rfl) e
 |ext U=>obtain⟨p,⟨o,e⟩,st⟩:=x;exact⟨st _ _ p λo q=>k _ _ (.inl rfl) q,⟨o,k _ _ (.inl rfl) e⟩,st⟩
def i_.lt(x:i_ P w H h)(e:H a=some o):a<h.objs.size:=(x a o e).lt
def i_.fresh(x:i_ P w H h)(e:h.objs.size<=a):H a=none:=by
 cases q:H a with
 |none=>rfl
 |some u=>exact absurd (f9 (x.lt q) e) (qg _)
def i_.kept(x:i_ P w H h)(k:∀b u,h.get? b=some u->h'.get? b=some u):i_ P w H h':=λa o e=>
 (x a o e).stay (λb u _ q=>k b u q) (λ_ q=>q) λ_ _ q=>q
theorem i_.laid(x:i_ P w H h)(k:∀b u,h.get? b=some u->h'.get? b=some u)(hp:h.objs.size<=a)(new:bL P w (upd H a o) h' a o):i_ P w (upd H a o) h':=λb u e=>by
 have hn:=x.fresh hp;by_cases hb:b=a
 ·subst hb;rw[iQ] at e;cases e;exact new
 ·rw[bW hb] at e;exact(x b u e).stay (λc v _ q=>k c v q) (λc q=>by rw[bW (xK q hn)];exact q) λc xs q=>by rw[bW (xK q hn)];exact q
end
def Rd(H:Hp)(a:Addr)(u:HO):Prop:=H a=some u\/∃o,H a=some (.oH o u)
def Rd.ok{P:Program}{w:World}{H:Hp}{h:Heap}{a:Addr}{u:HO}(r:Rd H a u)(x:i_ P w H h):bL P w H h a u:=by
 rcases r with r|⟨o,r⟩
 ·exact x a u r
 ·obtain⟨_,q⟩:=x a _ r;exact q
noncomputable def Iu:Option HO->Prop
 |some (.lst _)=>True
 |some (.dK _)=>True
 |some (.dT _)=>True
 |some (.set _ _)=>True
 |some (.ins _ _ _)=>True
 |some (.ext _)=>True
 |_=>False
section
variable {P:Program}{w:World}{H:Hp}{h h':Heap}{x e:Addr}{o':HO}
theorem i_.write(ok:i_ P w H h)(mu:Iu (H x))(he:e=x\/H e=some (.own x))(k:∀b u,b≠e->h.get? b=some u->h'.get? b=some u)(Gs:∃u,h'.get? e=some u)
  (new:bL P w (upd H x o') h' x o'):i_ P w (upd H x o') h':=λb u q=>by
 have Iv:∀c y,H c=some (.own y)->c≠x:=λc y r z=>by subst z;rw[r] at mu;exact mu
 have Rm:∀c xs,H c=some (.tup xs)->c≠x:=λc xs r z=>by subst z;rw[r] at mu;exact mu
 by_cases hb:b=x
 ·subst hb;rw[iQ] at q;cases q;exact new
 ·rw[bW hb] at q;by_cases BP:b=e
  ·have q':H b=some (.own x):=by
    rcases he with z|z
    ·exact absurd (BP.trans z) hb
    ·rw[BP];exact z
   rw[q] at q';cases q';obtain⟨v,hv⟩:=Gs;exact⟨v,by rw[BP];exact hv⟩
  ·refine(ok b u q).stay (λc v hc r=>k c v ?_ r) (λc r=>by rw[bW (Iv c b r)];exact r) λc xs r=>by rw[bW (Rm c xs r)];exact r
   rcases hc with rfl|hc
   ·exact BP
   ·rintro rfl;rcases he with z|z
    ·exact Iv c b hc z
    ·rw[hc] at z;cases z;exact hb rfl
end
noncomputable def jh:Str:="plain_rings.<locals>.<lambda>"
noncomputable def rC:Bool:=true
def GoodC(H:Hp)(c:Addr):Prop:=∃oc u vs t,H c=some (.oH oc u)/\oc.data=.fields vs/\vs[1]?=some (.str jh t)
inductive fQ (H:Hp):List Value->Prop
 |nil:fQ H []
 |cons (l m:Int) (c:Addr) (r:List Value):GoodC H c->fQ H r->fQ H (rawInt l::rawInt m::.ref c::r)
def fQ.app{H:Hp}{a b:List Value}(x:fQ H a)(y:fQ H b):fQ H (a++b):=by
 induction x with
 |nil=>exact y
 |cons l m c r g _ ih=>exact .cons l m c _ g ih
theorem fQ.mono{H H':Hp}(k:∀b o u,H b=some (.oH o u)->H' b=some (.oH o u)){a:List Value}(x:fQ H a):fQ H' a:=by
 induction x with
 |nil=>exact .nil
 |cons l m c r g _ ih=>
  obtain⟨oc,u,vs,t,e,q⟩:=g;exact .cons l m c _ ⟨oc,u,vs,t,k _ _ _ e,q⟩ ih
noncomputable def j9(K:W.Frag)(c P:Addr):Bool:=match K.lookup c with
 |some o=>(match o.data with
  |.fields vs=>(match (vs[1]? : Option Value) with|some (.str q _)=>q=="plain_rings"|_=>false)&&(match (vs[11]? : Option Value) with|some (.ref p)=>p==P|_=>false)
  |_=>false)
 |none=>false
def BR(K:W.Frag)(H:Hp):Prop:=rC=true->∀c P,j9 K c P=true->∃ps,H P=some (.mD ps)/\fQ H ps.toList
structure Un(fs ex:List Addr)(H H':Hp)(h h':Heap):Prop where
 keep:∀b o,h.get? b=some o->H b=none->b∉fs->b∉ex->h'.get? b=some o
 slot:∀b o,h.get? b=some o->H b=none->b∈fs->b∉ex->∃sl,h'.get? b=some {o with slots:=sl}
 free:∀b o,h.get? b=some o->H b=none->b∉ex->H' b=none
 there:∀b o,h.get? b=some o->b∉ex->∃o',h'.get? b=some o'
 tups:∀b xs,H b=some (.tup xs)->H' b=some (.tup xs)
 ji:∀b o u,H b=some (.oH o u)->H' b=some (.oH o u)
 jH:∀b ps,H b=some (.mD ps)->∃more,H' b=some (.mD (ps++more))/\fQ H' more.toList
section
variable {fs fs' ex ex':List Addr}{H H1 H2:Hp}{h h1 h2 h':Heap}{a x e:Addr}{o:HO}
def Un.any(u:Un fs ex H H1 h h1){b:Addr}{ob:Obj}(q:h.get? b=some ob)(n:H b=none)(hx:b∉ex):∃sl,h1.get? b=some {ob with slots:=sl}:=by
 by_cases hb:b∈fs
 ·exact u.slot b ob q n hb hx
 ·exact⟨ob.slots,u.keep b ob q n hb hx⟩
theorem Un.kept(k:∀b u,h.get? b=some u->h'.get? b=some u):Un fs ex H H h h':=
 ⟨λb ob q _ _ _=>k b ob q,λb ob q _ _ _=>⟨ob.slots,k b ob q⟩,λ_ _ _ n _=>n,λb ob q _=>⟨ob,k b ob q⟩,λ_ _ q=>q,λ_ _ _ q=>q,λ_ ps q=>⟨#[],by rw[q];simp,.nil⟩⟩
def Un.refl:Un fs ex H H h h:=Un.kept λ_ _ q=>q
theorem Un.laid(k:∀b u,h.get? b=some u->h'.get? b=some u)(hp:h.objs.size<=a)(hn:H a=none):Un fs ex H (upd H a o) h h' where
 keep:=λb u q _ _ _=>k b u q
 slot:=λb u q _ _ _=>⟨u.slots,k b u q⟩
 free:=λb u q n _=>by rw[bW (cV (f9 (bR q) hp))];exact n
 there:=λb u q _=>⟨u,k b u q⟩
 tups:=λb xs q=>by rw[bW (xK q hn)];exact q
 ji:=λb u xs q=>by rw[bW (xK q hn)];exact q
 jH:=λb ps q=>⟨#[],by rw[bW (xK q hn),q];simp,.nil⟩
theorem Un.write(mu:Iu (H x))(he:e=x\/H e=some (.own x))(k:∀b u,b≠e->h.get? b=some u->h'.get? b=some u)(Gs:∃u,h'.get? e=some u):Un fs ex H (upd H x o) h h':=by
 have hx:∀b,H b=none->b≠x:=λb n z=>by subst z;rw[n] at mu;exact mu
 have hb:∀b,H b=none->b≠e:=λb n z=>by
  subst z;rcases he with r|r
  ·exact hx b n r
  ·rw[n] at r;cases r
 have hm:∀b u,H b=some u->¬Iu (some u)->b≠x:=λb u q nm z=>by subst z;rw[q] at mu;exact nm mu
 refine⟨λb u q n _ _=>k b u (hb b n) q,λb u q n _ _=>⟨u.slots,k b u (hb b n) q⟩,λb u q n _=>by rw[bW (hx b n)];exact n,λb u q _=>?_,
  λb xs q=>by rw[bW (hm b _ q λz=>z)];exact q,λb u xs q=>by rw[bW (hm b _ q λz=>z)];exact q,λb ps q=>⟨#[],by rw[bW (hm b _ q λz=>z),q];simp,.nil⟩⟩
 by_cases BP:b=e
 ·subst BP;exact Gs
 ·exact⟨u,k b u BP q⟩
end
noncomputable def NK(h:Heap)(H:Hp):List Addr:=(List.range h.objs.size).filter λa=>(H a).isSome
def m5(h:Heap)(H:Hp):Heap:=PySem.W.hideAll h (NK h H)
def zfS(h:Heap)(H:Hp):(m5 h H).objs.size=h.objs.size:=PySem.W.hideAll_size _ _
def zhU{h:Heap}{H:Hp}{b:Addr}{o:Obj}(e:h.get? b=some o)(n:H b=none):(m5 h H).get? b=some o:=
 PySem.W.hideAll_get _ e λhm=>by
  have q:(H b).isSome=true:=(jU.mp hm).2;rw[n] at q;simp at q
theorem zjS{h:Heap}{H:Hp}{b:Addr}{o:Obj}(e:(m5 h H).get? b=some o):h.get? b=some o/\H b=none:=by
 have e':h.get? b=some o:=PySem.W.of_hideAll (NK h H) e;refine⟨e',?_⟩;cases q:H b with
 |none=>rfl
 |some x=>
  have hm:b∈NK h H:=jU.mpr ⟨v9.mpr (bR e'),by simp[q]⟩;have z:(m5 h H).get? b=none:=PySem.W.hideAll_none (NK h H) hm;rw[z] at e;cases e
structure Mod(K:W.Frag)(mg:Str->Option Value)(base:Heap):Prop where
 xu:K.In base
 glob:base.Ns mainGlobals mg
 blt:∃mb,base.Ns builtinsNs mb/\∀x:Str,x≠"__name__"->mb x=bootBuiltins x
 nolimit:base.NoLimit
structure Cx where
 prog:Program
 w:World
 K:W.Frag
 mg:Str->Option Value
 base:Heap
 A:Around
 N:List Str
 s₀:Shared
 H₀:Hp
 env:Env
 outer:List Env
 stack:List Env
 ex:List Addr
 fn:Str->Bool
 aj:Bool
 pn:List (Addr×Obj)
 xe:Value->Shared->Prop
noncomputable def frs(l:List Env):List Addr:=l.filterMap (·.frame)
abbrev Cx.fs(X:Cx):List Addr:=frs X.outer
def NP(sc:Scope)(x:Str):Prop:=sc.names.lookup x=some .local\/sc.names.lookup x=some .cell\/sc.names.lookup x=some .free
def Loc(sc:Scope)(x:Str):Prop:=sc.names.lookup x=some .local\/sc.names.lookup x=some .cell
def Look(env:Env)(h:Heap)(m:Str->Option Value)(x:Str)(u:Value):Prop:=
 (env.kindOf x=some .local/\m x=some u)\/((env.kindOf x=some .cell\/env.kindOf x=some .free)/\∃c,env.cells.lookup x=some c/\h.IsCell c (some u))
structure Cx.Ok(X:Cx):Prop where
 mod:Mod X.K X.mg X.base
 kind:X.env.scope.kind=.function
 glob:X.env.globals=mainGlobals
 blt:X.env.builtins=builtinsNs
 above:X.s₀.heap.objs.size<=X.env.locals
 inj:∀x y c,X.env.cells.lookup x=some c->X.env.cells.lookup y=some c->x=y
 has:∀x,(X.env.kindOf x=some .cell\/X.env.kindOf x=some .free)->∃c,X.env.cells.lookup x=some c
 cab:∀x c,X.fn x=true->X.env.cells.lookup x=some c->X.s₀.heap.objs.size<=c
 hd:X.aj=true->X.A.handled=none
 frames:X.A.frames=some X.stack
 stk:X.stack=X.outer\/(X.stack=X.env::X.outer/\X.env.frame=some X.env.locals)
 YC:∀b∈X.ex,b≠X.env.locals/\∀x c,X.env.cells.lookup x=some c->c≠b
 bs:∀b o,X.base.get? b=some o->X.s₀.heap.get? b=some o/\X.H₀ b=none
 xM:X.base.objs.size<=X.s₀.heap.objs.size
 uK:∀b o,X.base.get? b=some o->b∉X.ex
 xO:∀b∈X.ex,b∉X.fs
 jJ:X.s₀.heap.FunFrames X.base X.outer
 zN:(∀b∈X.fs,X.H₀ b=none)/\BR X.K X.H₀
structure Inv(X:Cx)(ao:List (Addr×Obj))(Z:List (Option V))(H:Hp)(s:Shared):Prop where
 ok:X.Ok
 os:s.os=X.s₀.os
 bare:AllBare s.gens
 base:Un X.fs X.ex X.H₀ H X.s₀.heap s.heap
 loc:∃m,s.heap.Ns X.env.locals m/\∀(i:Nat) (x:Str) (v:V),X.N[i]?=some x->Z[i]?=some (some v)->NP X.env.scope x->∃u,RelV v u/\Look X.env s.heap m x u
 cell:∀x c,X.env.cells.lookup x=some c->∃v,s.heap.IsCell c v
 free:H X.env.locals=none
 gq:∀x c,X.env.cells.lookup x=some c->H c=none
 pin:∀p∈X.pn++ao,s.heap.get? p.1=some p.2/\H p.1=none/\p.1≠X.env.locals/\p.1∉X.fs/\∀v,p.2.data≠.cell v
 hok:i_ X.prog X.w H s.heap
 len:Z.length=X.N.length
section
variable {X:Cx}{ao:List (Addr×Obj)}{Z:List (Option V)}{H H':Hp}{s:Shared}{h':Heap}
def Cx.Ok.Rn(ok:X.Ok){b:Addr}{o:Obj}(e:X.base.get? b=some o):b∉X.fs:=λhb=>by
 have:=(ok.jJ.mem hb).1;rw[e] at this;cases this
theorem Inv.bs(I:Inv X ao Z H s):∀b o,X.base.get? b=some o->s.heap.get? b=some o/\H b=none:=λb o e=>
 ⟨I.base.keep b o (I.ok.bs b o e).1 (I.ok.bs b o e).2 (I.ok.Rn e) (I.ok.uK b o e),I.base.free b o (I.ok.bs b o e).1 (I.ok.bs b o e).2 (I.ok.uK b o e)⟩
def Inv.bk(I:Inv X ao Z H s):∀b o,X.base.get? b=some o->s.heap.get? b=some o:=λb o e=>(I.bs b o e).1
def Inv.mod(I:Inv X ao Z H s):Mod X.K X.mg X.base:=I.ok.mod
def Inv.mF(I:Inv X ao Z H s):X.K.In s.heap:=I.ok.mod.xu.keeps I.bk
def Inv.nolimit(I:Inv X ao Z H s):s.heap.NoLimit:=I.ok.mod.nolimit.keeps I.bk
def Inv.lt(I:Inv X ao Z H s):X.env.locals<s.heap.objs.size:=let ⟨_,hn,_⟩:=I.loc;hn.lt
def Inv.sz(I:Inv X ao Z H s):X.s₀.heap.objs.size<=s.heap.objs.size:=jZ I.ok.above (sU I.lt)
def Inv.BW(I:Inv X ao Z H s):BR X.K H:=λon c P hc=>by
 obtain⟨ps,e,g⟩:=I.ok.zN.2 on c P hc;obtain⟨more,e2,g2⟩:=I.base.jH P ps e;exact⟨ps++more,e2,by rw[Array.toList_append];exact(g.mono I.base.ji).app g2⟩
def Inv.xP(I:Inv X ao Z H s){a:Addr}(h:s.heap.objs.size<=a):a∉X.fs:=λhb=>by
 obtain⟨_,o,ho,_⟩:=I.ok.jJ.mem hb;exact absurd (f9 (bR ho) (jZ I.sz h)) (qg _)
def Inv.BX(I:Inv X ao Z H s):∀x c,X.env.cells.lookup x=some c->c≠X.env.locals:=λx c e z=>by
 obtain⟨v,o,ho,hd⟩:=I.cell x c e;obtain⟨m,⟨o',es,ep,ql,xQ,_⟩,_⟩:=I.loc;rw[z,ql] at ho;cases ho;rw[xQ] at hd;cases hd
theorem Inv.jJ(I:Inv X ao Z H s):s.heap.FunFrames X.base X.outer:=by
 have all:∀(l:List Env),(∀b∈frs l,b∈X.fs)->X.s₀.heap.FunFrames X.base l->s.heap.FunFrames X.base l:=by
  intro l
  induction l with
  |nil=>intro _ _;trivial
  |cons env r ih=>
   intro hs hl;obtain⟨hk,⟨L,o,hf,hn,ho,hd⟩,hr⟩:=hl;have hL:L∈X.fs:=hs L (by unfold frs;rw[Fq,hf];exact lN);obtain⟨sl,e⟩:=I.base.slot L o ho (I.ok.zN.1 L hL) hL λz=>I.ok.xO L z hL;exact⟨hk,⟨L,_,hf,hn,e,hd⟩,ih (λb hb=>hs b (by unfold frs;rw[Fq,hf];exact iJ _ hb)) hr⟩
 exact all X.outer (λ_ hb=>hb) I.ok.jJ
theorem Inv.stack(I:Inv X ao Z H s):s.heap.FunFrames X.base X.stack:=by
 rcases I.ok.stk with e|⟨e,hf⟩
 ·rw[e];exact I.jJ
 ·rw[e];obtain⟨m,hn,_⟩:=I.loc;refine .cons (by rw[I.ok.kind];decide) hf hn ?_ I.jJ;exact Fl (jZ I.ok.xM I.ok.above)
def Inv.j_(I:Inv X ao Z H s):∀b∈frs X.stack,b∈X.env.locals::X.fs:=λb hb=>by
 rcases I.ok.stk with e|⟨e,hf⟩
 ·rw[e] at hb;exact iJ _ hb
 ·rw[e] at hb;unfold frs at hb;rw[Fq,hf] at hb;exact hb
def Inv.m6(I:Inv X ao Z H s):∀b∈frs X.stack,H b=none:=λb hb=>by
 rcases iM.mp (I.j_ b hb) with e|hb
 ·rw[e];exact I.free
 ·obtain⟨_,o,ho,_⟩:=I.ok.jJ.mem hb;exact I.base.free b o ho (I.ok.zN.1 b hb) λz=>I.ok.xO b z hb
theorem Inv.step{g':Array GenState}{t':Nat}{d':Drawn}{ch:List Addr}(I:Inv X ao Z H s)
  (wA:∀b∈ch,(b∈X.ex\/X.s₀.heap.get? b=none)/\b≠X.env.locals/\(∀x c,X.env.cells.lookup x=some c->c≠b)/\∀p∈X.pn++ao,p.1≠b)
  (keep:∀b o,b≠X.env.locals->b∉X.fs->b∉ch->s.heap.get? b=some o->H b=none->h'.get? b=some o)
  (slot:∀b o,b≠X.env.locals->b∈X.fs->b∉ch->s.heap.get? b=some o->H b=none->∃sl,h'.get? b=some {o with slots:=sl}) (free:∀b o,b∉ch->s.heap.get? b=some o->H b=none->H' b=none)
  (there:∀b o,b∉ch->s.heap.get? b=some o->∃o',h'.get? b=some o')
  (tups:∀b xs,H b=some (.tup xs)->H' b=some (.tup xs)) (ji:∀b o u,H b=some (.oH o u)->H' b=some (.oH o u)) (jH:∀b ps,H b=some (.mD ps)->∃more,H' b=some (.mD (ps++more))/\fQ H' more.toList)
  (ns:∀m,s.heap.Ns X.env.locals m->h'.Ns X.env.locals m) (hok:i_ X.prog X.w H' h') (hg:AllBare g') :
  Inv X ao Z H' {s with heap:=h',gens:=g',drawn:=d',toks:=t'}:=by
 have YD:∀b o,X.s₀.heap.get? b=some o->b≠X.env.locals:=λb o e=>cV (f9 (bR e) I.ok.above);have NQ:∀b o,X.s₀.heap.get? b=some o->b∉X.ex->b∉ch:=λb o e hx hb=>by
  rcases(wA b hb).1 with z|z
  ·exact hx z
  ·rw[e] at z;cases z
 have cellK:∀x c,X.env.cells.lookup x=some c->∀v,s.heap.IsCell c v->h'.IsCell c v:=λx c e v hx=>wz hx λo ho hd=>by
  have Iw:c∉ch:=λz=>(wA c z).2.2.1 x c e rfl;by_cases hc:c∈X.fs
  ·obtain⟨sl,q⟩:=slot c o (I.BX x c e) hc Iw ho (I.gq x c e);exact⟨_,q,hd⟩
  ·exact⟨o,keep c o (I.BX x c e) hc Iw ho (I.gq x c e),hd⟩
 refine⟨I.ok,I.os,hg,⟨λb o e n hb hx=>?_,λb o e n hb hx=>?_,λb o e n hx=>?_,λb o e hx=>?_,λb xs e=>tups b xs (I.base.tups b xs e),λb o xs e=>ji b o xs (I.base.ji b o xs e),λb ps e=>?_⟩,?_,λx c e=>?_,?_,λx c e=>?_,λp hp=>?_,hok,I.len⟩
 ·exact keep b o (YD b o e) hb (NQ b o e hx) (I.base.keep b o e n hb hx) (I.base.free b o e n hx)
 ·obtain⟨sl,e1⟩:=I.base.slot b o e n hb hx;obtain⟨sl',e2⟩:=slot b _ (YD b o e) hb (NQ b o e hx) e1 (I.base.free b o e n hx);exact⟨sl',e2⟩
 ·obtain⟨o',e1⟩:=I.base.there b o e hx;exact free b o' (NQ b o e hx) e1 (I.base.free b o e n hx)
 ·obtain⟨o',e1⟩:=I.base.there b o e hx;exact there b o' (NQ b o e hx) e1
 ·obtain⟨m1,e1,g1⟩:=I.base.jH b ps e;obtain⟨m2,e2,g2⟩:=jH b _ e1;exact⟨m1++m2,by rw[e2,Array.append_assoc],by rw[Array.toList_append];exact(g1.mono ji).app g2⟩
 ·obtain⟨m,hn,hl⟩:=I.loc;refine⟨m,ns m hn,λi x v e1 e2 e3=>?_⟩;obtain⟨u,r,l⟩:=hl i x v e1 e2 e3;refine⟨u,r,?_⟩;rcases l with l|⟨k,c,e,z⟩
  ·exact .inl l
  ·exact .inr ⟨k,c,e,cellK x c e _ z⟩
 ·obtain⟨v,z⟩:=I.cell x c e;exact⟨v,cellK x c e v z⟩
 ·obtain⟨m,⟨o,_,_,ho,_⟩,_⟩:=I.loc;exact free _ o (λz=>(wA _ z).2.1 rfl) ho I.free
 ·obtain⟨v,o,ho,hd⟩:=I.cell x c e;exact free c o (λz=>(wA c z).2.2.1 x c e rfl) ho (I.gq x c e)
 ·obtain⟨e,n,ne,nf,d⟩:=I.pin p hp;have Iw:p.1∉ch:=λz=>(wA p.1 z).2.2.2 p hp rfl;exact⟨keep p.1 p.2 ne nf Iw e n,free p.1 p.2 Iw e n,ne,nf,d⟩
theorem Inv.un{t':Nat}(I:Inv X ao Z H s)(u:Un X.fs [] H H' s.heap h')(hok:i_ X.prog X.w H' h'):Inv X ao Z H' {s with heap:=h',toks:=t'}:=by
 obtain⟨m,⟨o,es,ep,ho,r⟩,_⟩:=id I.loc;obtain⟨sl,hL⟩:=u.any ho I.free Zaa;exact I.step (g':=s.gens) (d':=s.drawn) (ch:=[]) (λ_ z=>nomatch z) (λb o _ hb _ e n=>u.keep b o e n hb Zaa) (λb o _ hb _ e n=>u.slot b o e n hb Zaa) (λb o _ e n=>u.free b o e n Zaa) (λb o _ e=>u.there b o e Zaa) u.tups u.ji u.jH (λm' hm=>by
  obtain⟨o',es',ep',ql,r'⟩:=hm;rw[ho] at ql;cases ql;exact⟨_,es',ep',hL,r'⟩) hok I.bare
theorem Inv.call{g':Array GenState}{t':Nat}{d':Drawn}{ch:List Addr}(I:Inv X ao Z H s)(u:Un (frs X.stack) ch H H' s.heap h')(hok:i_ X.prog X.w H' h')(hg:AllBare g')
  (wA:∀b∈ch,(b∈X.ex\/X.s₀.heap.get? b=none)/\b≠X.env.locals/\(∀x c,X.env.cells.lookup x=some c->c≠b)/\∀p∈X.pn++ao,p.1≠b) :
  Inv X ao Z H' {s with heap:=h',gens:=g',drawn:=d',toks:=t'}:=by
 obtain⟨m,⟨o,es,ep,ho,r⟩,_⟩:=id I.loc;obtain⟨sl,hL⟩:=u.any ho I.free λz=>(wA _ z).2.1 rfl;exact I.step (ch:=ch) wA (λb o hL hb hc e n=>u.keep b o e n (λz=>(iM.mp (I.j_ b z)).elim hL hb) hc) (λb o _ _ hc e n=>u.any e n hc) (λb o hc e n=>u.free b o e n hc) (λb o hc e=>u.there b o e hc) u.tups u.ji u.jH (λm' hm=>by
  obtain⟨o',es',ep',ql,r'⟩:=hm;rw[ho] at ql;cases ql;exact⟨_,es',ep',hL,r'⟩) hok hg
theorem Inv.turned{t':Nat}{it:Addr}(I:Inv X ao Z H s)(k:∀b o,b≠it->s.heap.get? b=some o->h'.get? b=some o)(hn:H it=none)(hL:it≠X.env.locals)
  (h1:it∈X.ex\/X.s₀.heap.objs.size<=it) (h2:∀x c,X.env.cells.lookup x=some c->c≠it) (h3:∀p∈X.pn++ao,p.1≠it):Inv X ao Z H {s with heap:=h',toks:=t'}:=by
 have zO:∀b u,H b=some u->b≠it:=λb u e z=>by rw[z,hn] at e;cases e
 refine I.step (g':=s.gens) (d':=s.drawn) (ch:=[it]) (λb hb=>?_) (λb o _ _ hc e _=>k b o (λz=>hc (by simp[z])) e) (λb o _ _ hc e _=>⟨o.slots,k b o (λz=>hc (by simp[z])) e⟩) (λ_ _ _ _ n=>n)
  (λb o hc e=>⟨o,k b o (λz=>hc (by simp[z])) e⟩) (λ_ _ e=>e) (λ_ _ _ e=>e) (λb ps e=>⟨#[],by rw[e];simp,.nil⟩) (λm hm=>?_) (λb u e=>?_) I.bare
 ·have e:b=it:=by simpa using hb
  subst e;exact⟨h1.imp id λz=>Fl z,hL,h2,h3⟩
 ·obtain⟨o,es,ep,ho,r⟩:=hm;exact⟨o,es,ep,k _ o (Ne.symm hL) ho,r⟩
 ·refine(I.hok b u e).stay (λc v hc q=>k c v ?_ q) (λ_ q=>q) λ_ _ q=>q;rcases hc with z|z
  ·rw[z];exact zO b u e
  ·exact zO c _ z
def Inv.tok(I:Inv X ao Z H s)(t:Nat):Inv X ao Z H {s with toks:=t}:=I.un (h':=s.heap) (t':=t) Un.refl I.hok
def Inv.kept{t':Nat}(I:Inv X ao Z H s)(k:∀b u,s.heap.get? b=some u->h'.get? b=some u):Inv X ao Z H {s with heap:=h',toks:=t'}:=I.un (Un.kept k) (I.hok.kept k)
theorem Inv.laid{a:Addr}{o:HO}{t':Nat}(I:Inv X ao Z H s)(k:∀b u,s.heap.get? b=some u->h'.get? b=some u)(hp:s.heap.objs.size<=a)(new:bL X.prog X.w (upd H a o) h' a o) :
  Inv X ao Z (upd H a o) {s with heap:=h',toks:=t'}:=I.un (Un.laid k hp (I.hok.fresh hp)) (I.hok.laid k hp new)
theorem Inv.write{x e:Addr}{o:HO}{t':Nat}(I:Inv X ao Z H s)(mu:Iu (H x))(he:e=x\/H e=some (.own x))(k:∀b u,b≠e->s.heap.get? b=some u->h'.get? b=some u)(Gs:∃u,h'.get? e=some u)
  (new:bL X.prog X.w (upd H x o) h' x o):Inv X ao Z (upd H x o) {s with heap:=h',toks:=t'}:=I.un (Un.write mu he k Gs) (I.hok.write mu he k Gs new)
theorem Inv.jV{jy:List (Addr×Obj)}(I:Inv X ao Z H s)(h:∀p∈jy,s.heap.get? p.1=some p.2/\H p.1=none/\p.1≠X.env.locals/\p.1∉X.fs/\∀v,p.2.data≠.cell v):Inv X jy Z H s:=
 ⟨I.ok,I.os,I.bare,I.base,I.loc,I.cell,I.free,I.gq,λp hp=>(nW.mp hp).elim (λz=>I.pin p (Hy _ z)) (h p),I.hok,I.len⟩
def YF{N:List Str}(hN:N.Nodup){i j:Nat}{x:Str}(a:N[i]?=some x)(b:N[j]?=some x):i=j:=by
 obtain⟨h1,e1⟩:=eG.mp a;obtain⟨h2,e2⟩:=eG.mp b;exact(List.getElem_inj hN).mp (e1.trans e2.symm)
theorem Ro{M:Model}{A:Around}{E:Value->Shared->Prop}{i:Nat}{x:Str}{v:V}{u:Value}{Q:Unit->Shared->Prop}(I:Inv X ao Z H s)(hN:X.N.Nodup)(hi:X.N[i]?=some x)(hx:Loc X.env.scope x)(r:RelV v u)
  (h:∀s',Inv X ao (Z.set i (some v)) H s'->(∃a,Heap.SameBut a s.heap s'.heap/\(a=X.env.locals\/X.env.cells.lookup x=some a))->Q () s') (hf:X.fn x=true\/X.env.scope.names.lookup x=some .local:=by first|exact .inl rfl|exact .inr rfl|assumption):wpAny M A (storeName X.env x u) Q E s:=by
 obtain⟨m,hn,hl⟩:=id I.loc;have Rp:(X.env.scope.kind==.class||(X.env.scope.kind==.module&&X.env.locals != X.env.globals))=false:=by rw[I.ok.kind];rfl
 have YG:i<Z.length:=by rw[I.len];exact(eG.mp hi).1
 have BX:=I.BX;have tracked:∀{a:Addr} {h':Heap},(∃o,s.heap.get? a=some o/\H a=none)->Heap.SameBut a s.heap h'->i_ X.prog X.w H h':=λ{a h'} ha hs b ob e=>by
  obtain⟨_,_,rE⟩:=ha;refine(I.hok b ob e).stay (λc w' hc q=>(hs.2 c ?_).trans q) (λ_ q=>q) λ_ _ q=>q;rintro rfl;rcases hc with rfl|hc
  ·rw[rE] at e;cases e
  ·rw[rE] at hc;cases hc
 rcases hx with hk|hk
 ·refine wpAny_storeName_local hk hn (λh' NZ hs=>?_) Rp;obtain⟨oL,_,_,BZ,_⟩:=id hn;refine h _ ⟨I.ok,I.os,I.bare,⟨λb o e n hb hx=>?_,λb o e n hb hx=>?_,I.base.free,λb o e hx=>?_,I.base.tups,I.base.ji,I.base.jH⟩,⟨_,NZ,λj y v' e1 e2 e3=>?_⟩,λy c e=>?_,I.free,I.gq,λp hp=>?_,tracked ⟨oL,BZ,I.free⟩ hs,by simpa using I.len⟩ ⟨_,hs,.inl rfl⟩
  ·exact(hs.2 b (cV (f9 (bR e) I.ok.above))).trans (I.base.keep b o e n hb hx)
  ·obtain⟨sl,e1⟩:=I.base.slot b o e n hb hx;exact⟨sl,(hs.2 b (cV (f9 (bR e) I.ok.above))).trans e1⟩
  ·obtain⟨o',e1⟩:=I.base.there b o e hx;exact⟨o',(hs.2 b (cV (f9 (bR e) I.ok.above))).trans e1⟩
  ·by_cases hj:j=i
   ·subst hj;rw[hi] at e1;cases e1;rw[zu YG] at e2;cases e2;exact⟨u,r,.inl ⟨hk,by simp⟩⟩
   ·rw[p8 (Ne.symm hj)] at e2;obtain⟨u',r',q⟩:=hl j y v' e1 e2 e3;refine⟨u',r',?_⟩;rcases q with ⟨k,e⟩|⟨k,c,e,z⟩
    ·refine .inl ⟨k,?_⟩;have:y≠x:=λe=>hj (YF hN e1 (e▸hi));simp[this,e]
    ·exact .inr ⟨k,c,e,z.sameBut hs (BX y c e)⟩
  ·obtain⟨w',z⟩:=I.cell y c e;exact⟨w',z.sameBut hs (BX y c e)⟩
  ·obtain⟨e,n,ne,nf,d⟩:=I.pin p hp;exact⟨(hs.2 p.1 ne).trans e,n,ne,nf,d⟩
 ·have Rq:X.fn x=true:=by
   rcases hf with z|z
   ·exact z
   ·rw[z] at hk;cases hk
  obtain⟨c,hc⟩:=I.ok.has x (.inl hk);obtain⟨w',z⟩:=I.cell x c hc;refine wpAny_storeName_cell I.ok.kind hk hc z (λh' lQ hs=>?_);obtain⟨oc,Iz,Rr⟩:=id z;refine h {s with heap:=h'} ⟨I.ok,I.os,I.bare,⟨λb o e n hb hx=>?_,λb o e n hb hx=>?_,I.base.free,λb o e hx=>?_,I.base.tups,I.base.ji,I.base.jH⟩,⟨m,hn.sameBut hs (Ne.symm (BX x c hc)),λj y v' e1 e2 e3=>?_⟩,λy c' e=>?_,I.free,I.gq,λp hp=>?_,tracked ⟨oc,Iz,I.gq x c hc⟩ hs,by simpa using I.len⟩ ⟨c,hs,.inr hc⟩
  ·exact(hs.2 b (cV (f9 (bR e) (I.ok.cab x c Rq hc)))).trans (I.base.keep b o e n hb hx)
  ·obtain⟨sl,e1⟩:=I.base.slot b o e n hb hx;exact⟨sl,(hs.2 b (cV (f9 (bR e) (I.ok.cab x c Rq hc)))).trans e1⟩
  ·obtain⟨o',e1⟩:=I.base.there b o e hx;exact⟨o',(hs.2 b (cV (f9 (bR e) (I.ok.cab x c Rq hc)))).trans e1⟩
  ·by_cases hj:j=i
   ·subst hj;rw[hi] at e1;cases e1;rw[zu YG] at e2;cases e2;exact⟨u,r,.inr ⟨.inl hk,c,hc,lQ⟩⟩
   ·rw[p8 (Ne.symm hj)] at e2;obtain⟨u',r',q⟩:=hl j y v' e1 e2 e3;refine⟨u',r',?_⟩;rcases q with q|⟨k,c',e,z'⟩
    ·exact .inl q
    ·refine .inr ⟨k,c',e,z'.sameBut hs ?_⟩;rintro rfl;exact hj (YF hN e1 (I.ok.inj _ _ _ e hc▸hi))
  ·by_cases YH:c'=c
   ·subst YH;exact⟨_,lQ⟩
   ·obtain⟨w2,z2⟩:=I.cell y c' e;exact⟨w2,z2.sameBut hs YH⟩
  ·obtain⟨e,n,ne,nf,d⟩:=I.pin p hp;refine⟨(hs.2 p.1 ?_).trans e,n,ne,nf,d⟩;intro q;rw[q,Iz] at e;have q':oc=p.2:=cJ e;exact d w' (by rw[<-q'];exact Rr)
theorem IK{M:Model}{A:Around}{E:Value->Shared->Prop}{i:Nat}{x:Str}{v:V}{u:Value}{Q:Unit->Shared->Prop}(I:Inv X ao Z H s)(hN:X.N.Nodup)(hi:X.N[i]?=some x)(hx:Loc X.env.scope x)(r:RelV v u)
  (h:∀s',Inv X ao (Z.set i (some v)) H s'->Q () s') (hf:X.fn x=true\/X.env.scope.names.lookup x=some .local:=by first|exact .inl rfl|exact .inr rfl|assumption):wpAny M A (storeName X.env x u) Q E s:=
 Ro I hN hi hx r (λs' I' _=>h s' I') hf
theorem Inv.call'{s':Shared}{ch:List Addr}(I:Inv X ao Z H s)(ho:s'.os=s.os)(u:Un (frs X.stack) ch H H' s.heap s'.heap)(hok:i_ X.prog X.w H' s'.heap)(hg:AllBare s'.gens)
  (wA:∀b∈ch,(b∈X.ex\/X.s₀.heap.get? b=none)/\b≠X.env.locals/\(∀x c,X.env.cells.lookup x=some c->c≠b)/\∀p∈X.pn++ao,p.1≠b):Inv X ao Z H' s':=by
 obtain⟨h',g',d',t',o'⟩:=s';have e:o'=s.os:=ho;subst e;exact I.call (g':=g') (t':=t') (d':=d') u hok hg wA
end
abbrev XK:=Value->Option Addr->Hp->Prop
noncomputable abbrev St:=List (Option V)
abbrev VK:=V->Hp->Prop
abbrev TE:=St->Hp->VK->Prop
abbrev TT:=St->Hp->(Bool->Hp->Prop)->Prop
abbrev TA:=St->Hp->(List V->Hp->Prop)->Prop
structure Ends where
 nx:St->Hp->Prop
 rt:VK
 bk:St->Hp->Prop:=λ_ _=>False
 ct:St->Hp->Prop:=λ_ _=>False
abbrev TS:=Ends->St->Hp->Prop
def EP(X:Cx)(ao:List (Addr×Obj))(Z:St)(Q:VK)(u:Value)(s':Shared):Prop:=∃v H',Inv X ao Z H' s'/\RelV v u/\Q v H'
def TP(X:Cx)(ao:List (Addr×Obj))(Z:St)(Q:Bool->Hp->Prop)(b:Bool)(s':Shared):Prop:=∃H',Inv X ao Z H' s'/\Q b H'
def AP(X:Cx)(ao:List (Addr×Obj))(Z:St)(Q:List V->Hp->Prop)(us:List Value)(s':Shared):Prop:=∃vs H',Inv X ao Z H' s'/\Vals vs us/\Q vs H'
def SP(X:Cx)(ao:List (Addr×Obj))(D:Ends)(f:Flow)(s':Shared):Prop:=
 match f with
 |.next=>∃Z' H',Inv X ao Z' H' s'/\D.nx Z' H'
 |.brk=>∃Z' H',Inv X ao Z' H' s'/\D.bk Z' H'
 |.cont=>∃Z' H',Inv X ao Z' H' s'/\D.ct Z' H'
 |.ret u=>∃v Z' H',Inv X ao Z' H' s'/\RelV v u/\D.rt v H'
def PE(X:Cx)(e:Expr)(t:TE):Prop:=
 ∀(ao:List (Addr×Obj)) (s:Shared) (Z:St) (H:Hp) (Q:VK),Inv X ao Z H s->t Z H Q->wpAny (model X.prog X.w) X.A (eval e X.env) (EP X ao Z Q) X.xe s
def PT(X:Cx)(e:Expr)(t:TT):Prop:=
 ∀(ao:List (Addr×Obj)) (s:Shared) (Z:St) (H:Hp) (Q:Bool->Hp->Prop),Inv X ao Z H s->t Z H Q->wpAny (model X.prog X.w) X.A (isTrue e X.env (eval e X.env)) (TP X ao Z Q) X.xe s
def PW(X:Cx)(e:Expr)(t:TT):Prop:=
 ∀(whole:Sem Value) (ao:List (Addr×Obj)) (s:Shared) (Z:St) (H:Hp) (Q:Bool->Hp->Prop),Inv X ao Z H s->t Z H Q->wpAny (model X.prog X.w) X.A (isTrue e X.env whole) (TP X ao Z Q) X.xe s
def Kac{X:Cx}{e:Expr}{t:TT}(h:PW X e t):PT X e t:=h _
def PA(X:Cx)(es:List Expr)(t:TA):Prop:=
 ∀(pos:Pos) (ao:List (Addr×Obj)) (s:Shared) (Z:St) (H:Hp) (Q:List V->Hp->Prop),Inv X ao Z H s->t Z H Q->wpAny (model X.prog X.w) X.A (spliced (backTo pos (starEach es X.env))) (AP X ao Z Q) X.xe s
def PS(X:Cx)(st:Stmt)(t:TS):Prop:=
 ∀(ao:List (Addr×Obj)) (s:Shared) (Z:St) (H:Hp) (D:Ends),Inv X ao Z H s->t D Z H->wpAny (model X.prog X.w) X.A (exec st X.env) (SP X ao D) X.xe s
def qm(X:Cx)(st:List Stmt)(t:TS):Prop:=
 ∀(ao:List (Addr×Obj)) (s:Shared) (Z:St) (H:Hp) (D:Ends),Inv X ao Z H s->t D Z H->wpAny (model X.prog X.w) X.A (execs st X.env) (SP X ao D) X.xe s
def aX{α:Type}{t:Sem α}{Q Q':α->Shared->Prop}{M:Model}{A:Around}{E:Value->Shared->Prop}{s:Shared}(h:wpAny M A t Q E s)(hQ:∀a s,Q a s->Q' a s):wpAny M A t Q' E s:=gj h hQ λ_ _ x=>x
section
variable {X:Cx}
noncomputable def Rt(i:Nat):TE:=λZ H Q=>∃v,Z[i]?=some (some v)/\Q v H
noncomputable def tC(v:V):TE:=λ_ H Q=>Q v H
theorem YJ{i:Nat}{x:Str}{pos:Pos}(hN:X.N[i]?=some x)(hv:NP X.env.scope x)(hd:(x==("__debug__" : Str))=false:=by decide)(iH:(x==("__classdict__" : Str))=false:=by decide):PE X (.Name x pos) (Rt i):=by
 intro ao s Z H Q I h;obtain⟨v,e,h⟩:=h;obtain⟨m,hn,hl⟩:=I.loc;obtain⟨u,r,l⟩:=hl i x v hN e hv;have fin:EP X ao Z Q u s:=⟨v,H,I,r,h⟩;rcases l with ⟨hk,hm⟩|⟨hk,c,hc,rF⟩
 ·exact wpAny_Name (wpAny_loadName_local I.ok.kind hk hn hm fin) hd
 ·rcases hk with hk|hk
  ·exact wpAny_Name (wpAny_loadName_cell I.ok.kind hk hc rF fin) hd
  ·exact wpAny_Name (wpAny_loadName_free I.ok.kind hk hc rF fin iH) hd
def YK{i j pos}:PE X (.Constant (.int i) j pos) (tC (.int i)):=λ_ _ _ H _ I h=>wpAny_Constant_int ⟨.int i,H,I.tok _,⟨_,rfl⟩,h⟩
def zov{b j pos}:PE X (.Constant (.bool b) j pos) (tC (.bl b)):=λ_ _ _ H _ I h=>Constant_bool ⟨.bl b,H,I,rfl,h⟩
def zl5{j pos}:PE X (.Constant .none j pos) (tC .non):=λ_ _ _ H _ I h=>Constant_none ⟨.non,H,I,rfl,h⟩
def Gl(X:Cx)(x:Str):Prop:=X.env.kindOf x=some .globalImplicit
theorem Ru{E:Value->Shared->Prop}{ao:List (Addr×Obj)}{s:Shared}{Z:St}{H:Hp}{x:Str}{u:Value}{pos:Pos}{Q:Value->Shared->Prop}(I:Inv X ao Z H s)(hg:Gl X x)(hm:X.mg x=some u)(h:Q u s)
  (hd:(x==("__debug__" : Str))=false:=by decide):wpAny (model X.prog X.w) X.A (eval (.Name x pos) X.env) Q E s:=
 Calls.Name_function_global I.ok.kind hg (Calls.loadGlobal_global (by rw[I.ok.glob];exact I.mod.glob.keeps I.bk) hm h) hd
theorem wB{E:Value->Shared->Prop}{ao:List (Addr×Obj)}{s:Shared}{Z:St}{H:Hp}{x:Str}{u:Value}{pos:Pos}{Q:Value->Shared->Prop}(I:Inv X ao Z H s)(hg:Gl X x)(hm:X.mg x=none)(hv:bootBuiltins x=some u)(h:Q u s)
  (hn:x≠"__name__":=by decide) (hd:(x==("__debug__" : Str))=false:=by decide):wpAny (model X.prog X.w) X.A (eval (.Name x pos) X.env) Q E s:=by
 obtain⟨mb,h1,h2⟩:=I.mod.blt;exact Calls.Name_function_global I.ok.kind hg (Calls.loadGlobal_builtin (by rw[I.ok.glob];exact I.mod.glob.keeps I.bk) hm (by rw[I.ok.blt];exact h1.keeps I.bk) ((h2 x hn).trans hv) h) hd
def zkd{x:Str}{v:V}{u:Value}{pos:Pos}(hg:Gl X x)(hm:X.mg x=some u)(r:RelV v u)(hd:(x==("__debug__" : Str))=false:=by decide):PE X (.Name x pos) (tC v):=
 λ_ _ _ H _ I h=>Ru I hg hm ⟨v,H,I,r,h⟩ hd
variable {a b:Expr}{ta tb:TE}{pos:Pos}
def PC(X:Cx)(op:CmpOp)(a b:Expr)(t:TE):Prop:=
 ∀(ao:List (Addr×Obj)) (s:Shared) (Z:St) (H:Hp) (Q:VK),Inv X ao Z H s->t Z H Q->
  wpAny (model X.prog X.w) X.A (eval a X.env) (λv s₁=>wpAny (model X.prog X.w) X.A (eval b X.env) (λu s₂=>wpAny (model X.prog X.w) X.A (compareOp op v u) (EP X ao Z Q) X.xe s₂) X.xe s₁) X.xe s
theorem oJ(b:Expr){op:CmpOp}(h:op≠.In)(h2:op≠.NotIn):behindInMarks op b=false:=by
 have e1:(op==CmpOp.In)=false:=by cases op<;>first|rfl|exact absurd rfl h
 have e2:(op==CmpOp.NotIn)=false:=by cases op<;>first|rfl|exact absurd rfl h2
 cases b<;>simp[behindInMarks,e1,e2]
noncomputable def Rw(ta:TE):TE:=λZ H Q=>ta Z H λx H1=>Q (.bl (decide (x=.non))) H1
noncomputable def IV(ta:TE):TE:=λZ H Q=>ta Z H λx H1=>Q (.bl (!decide (x=.non))) H1
theorem RelV.oM{x:V}{v:Value}(r:RelV x v):(v==Value.none)=decide (x=.non):=by
 cases x with
 |non=>cases r;rfl
 |bl _=>cases r;rfl
 |int _=>obtain⟨t,rfl⟩:=r;rfl
 |str _=>obtain⟨t,rfl⟩:=r;rfl
 |BL _=>obtain⟨t,rfl⟩:=r;rfl
 |flt _=>obtain⟨t,rfl⟩:=r;rfl
 |ref _=>cases r;rfl
 |ty _=>cases r;rfl
theorem YL{j pos'}(ha:PE X a ta):PC X .Is a (.Constant .none j pos') (Rw ta):=by
 intro ao s Z H Q I h;refine aX (ha ao s Z H _ I h) λv s1 hx=>fH hx λx H1 I1 r1 q1=>?_;exact Constant_none (is_none_gen ⟨.bl _,H1,I1,by rw[r1.oM];rfl,q1⟩)
theorem YM{j pos'}(ha:PE X a ta):PC X .IsNot a (.Constant .none j pos') (IV ta):=by
 intro ao s Z H Q I h;refine aX (ha ao s Z H _ I h) λv s1 hx=>fH hx λx H1 I1 r1 q1=>?_;exact Constant_none (isnot_none_gen ⟨.bl _,H1,I1,by rw[r1.oM];rfl,q1⟩)
noncomputable def tB(t:TE):TT:=λZ H Q=>t Z H λx H1=>∃c,x=.bl c/\Q c H1
def YQ{op:CmpOp}{t:TE}(h:PC X op a b t)(h1:behindInMarks op b=false:=by first|exact oJ _ Tv Tv|rfl):PE X (.Compare a [op] [b] pos) t:=λao s Z H Q I hw=>wpAny_Compare1 (h ao s Z H Q I hw) h1
theorem Rx{op:CmpOp}{t:TE}(h:PC X op a b t)(h1:behindInMarks op b=false:=by first|exact oJ _ Tv Tv|rfl):PT X (.Compare a [op] [b] pos) (tB t):=by
 intro ao s Z H Q I hw;refine wpAny_isTrue_Compare1 (aX (h ao s Z H _ I hw) λv s1 h1=>aX h1 λu s2 h2=>aX h2 λc s3 hx=>fH hx λx H1 I1 r1 q1=>?_) h1;obtain⟨d,rfl,q⟩:=q1;cases r1;exact v8 ⟨H1,I1,q⟩
theorem zk7{e:Expr}{t:TE}(h:PE X e t)(he:∀whole,isTrue e X.env whole=(do let v <-whole;standAt e.pos;holding [v] (truthy v)):=by intro _;rfl):PT X e (tB t):=by
 intro ao s Z H Q I hw;refine isTrue_plain (aX (h ao s Z H _ I hw) λv s1 hx=>fH hx λx H1 I1 r1 q1=>?_) (he _);obtain⟨d,rfl,q⟩:=q1;cases r1;exact v8 ⟨H1,I1,q⟩
variable {tA N5:TT}{rest:List Expr}
noncomputable def Ry(t u:TT):TT:=λZ H Q=>t Z H λc H1=>if c=true then u Z H1 Q else Q false H1
noncomputable def tOr(t u:TT):TT:=λZ H Q=>t Z H λc H1=>if c=true then Q true H1 else u Z H1 Q
noncomputable def RB(t:TT):TT:=λZ H Q=>t Z H λc H1=>Q (!c) H1
def zjW(ha:PT X a tA):PW X (.BoolOp .And [a] pos) tA:=by
 intro wh ao s Z H Q I h;refine isTrue_and (aX (ha ao s Z H Q I h) λc s1 e=>?_);cases c with
 |true=>exact isTrue_and_nil e
 |false=>exact e
def zm5(ha:PT X a tA):PW X (.BoolOp .Or [a] pos) tA:=by
 intro wh ao s Z H Q I h;refine isTrue_or (aX (ha ao s Z H Q I h) λc s1 e=>?_);cases c with
 |false=>exact isTrue_or_nil e
 |true=>exact e
theorem zmd(ha:PT X a tA)(hb:PW X (.BoolOp .And (b::rest) pos) N5):PW X (.BoolOp .And (a::b::rest) pos) (Ry tA N5):=by
 intro wh ao s Z H Q I h;refine isTrue_and (aX (ha ao s Z H _ I h) λc s1 hx=>wz hx λH1 I1 q1=>?_);cases c with
 |true=>exact hb wh ao s1 Z H1 Q I1 q1
 |false=>exact⟨H1,I1,q1⟩
theorem zoh(ha:PT X a tA)(hb:PW X (.BoolOp .Or (b::rest) pos) N5):PW X (.BoolOp .Or (a::b::rest) pos) (tOr tA N5):=by
 intro wh ao s Z H Q I h;refine isTrue_or (aX (ha ao s Z H _ I h) λc s1 hx=>wz hx λH1 I1 q1=>?_);cases c with
 |true=>exact⟨H1,I1,q1⟩
 |false=>exact hb wh ao s1 Z H1 Q I1 q1
def zmY(ha:PT X a tA):PT X (.UnaryOp .Not a pos) (RB tA):=by
 intro ao s Z H Q I h;exact isTrue_not (ha ao s Z H (λc H1=>Q (!c) H1) I h)
noncomputable def IW(ta tb:TE):TE:=λZ H Q=>ta Z H λx H1=>∃c,x=.bl c/\if c=true then tb Z H1 Q else Q (.bl false) H1
noncomputable def RD(ta tb:TE):TE:=λZ H Q=>ta Z H λx H1=>∃c,x=.bl c/\if c=true then Q (.bl true) H1 else tb Z H1 Q
noncomputable def I8(ta:TE):TE:=λZ H Q=>ta Z H λx H1=>∃c,x=.bl c/\Q (.bl (!c)) H1
def zlw{op}{t:TE}(h:PE X a t):PE X (.BoolOp op [a] pos) t:=λao s Z H Q I hw=>BoolOp_one (h ao s Z H Q I hw)
theorem zmZ(ha:PE X a ta)(hb:PE X (.BoolOp .And (b::rest) pos) tb):PE X (.BoolOp .And (a::b::rest) pos) (IW ta tb):=by
 intro ao s Z H Q I h;refine BoolOp_and (aX (ha ao s Z H _ I h) λv s1 hx=>fH hx λx H1 I1 r1 q1=>?_);obtain⟨c,rfl,q1⟩:=q1;cases r1;refine v8 ?_;cases c with
 |true=>exact hb ao s1 Z H1 Q I1 q1
 |false=>exact⟨.bl false,H1,I1,rfl,q1⟩
theorem znO(ha:PE X a ta)(hb:PE X (.BoolOp .Or (b::rest) pos) tb):PE X (.BoolOp .Or (a::b::rest) pos) (RD ta tb):=by
 intro ao s Z H Q I h;refine BoolOp_or (aX (ha ao s Z H _ I h) λv s1 hx=>fH hx λx H1 I1 r1 q1=>?_);obtain⟨c,rfl,q1⟩:=q1;cases r1;refine v8 ?_;cases c with
 |false=>exact hb ao s1 Z H1 Q I1 q1
 |true=>exact⟨.bl true,H1,I1,rfl,q1⟩
theorem znp(ha:PE X a ta):PE X (.UnaryOp .Not a pos) (I8 ta):=by
 intro ao s Z H Q I h;refine UnaryOp_ (aX (ha ao s Z H _ I h) λv s1 hx=>fH hx λx H1 I1 r1 q1=>?_);obtain⟨c,rfl,q1⟩:=q1;cases r1;exact not_of (v8 ⟨.bl (!c),H1,I1,rfl,q1⟩)
noncomputable def tIf(t:TT)(ta tb:TE):TE:=λZ H Q=>t Z H λc H1=>if c=true then ta Z H1 Q else tb Z H1 Q
theorem zig{c:Expr}(hc:PT X c tA)(ha:PE X a ta)(hb:PE X b tb):PE X (.IfExp c a b pos) (tIf tA ta tb):=by
 intro ao s Z H Q I h;refine wpAny_IfExp (aX (hc ao s Z H _ I h) λd s1 hx=>wz hx λH1 I1 q1=>?_);cases d with
 |true=>exact ha ao s1 Z H1 Q I1 q1
 |false=>exact hb ao s1 Z H1 Q I1 q1
end
def cY(K:W.Frag)(H:Hp)(a:Addr)(xs:List V):Prop:=
 Rd H a (.lst xs) \/
  ∃(o:Obj) (its:Array Value) (n:Nat),K.lookup a=some o/\o.cls=.type "list"/\o.dict=none/\o.data=.seq its n/\its.size<=sizeLine/\Vals xs its.toList
def gw(K:W.Frag)(H:Hp)(a:Addr)(xs:List V):Prop:=
 Rd H a (.tup xs) \/
  ∃(o:Obj) (its:Array Value) (n:Nat),K.lookup a=some o/\o.cls=.type "tuple"/\o.data=.seq its n/\its.size<=sizeLine/\Vals xs its.toList
noncomputable def RG:Value->Option V
 |.none=>some .non
 |.bool b=>some (.bl b)
 |.int i _=>some (.int i)
 |.str x _=>some (.str x)
 |.bytes b _=>some (.BL b)
 |.float b _=>some (.flt b)
 |.ref a=>some (.ref a)
 |.type n=>some (.ty n)
 |_=>none
theorem RelV.abs{x:V}{u:Value}(r:RelV x u):RG u=some x:=by
 cases x with
 |non=>cases r;rfl
 |bl _=>cases r;rfl
 |int _=>obtain⟨t,rfl⟩:=r;rfl
 |str _=>obtain⟨t,rfl⟩:=r;rfl
 |BL _=>obtain⟨t,rfl⟩:=r;rfl
 |flt _=>obtain⟨t,rfl⟩:=r;rfl
 |ref _=>cases r;rfl
 |ty _=>cases r;rfl
def RelV.inj{x y:V}{u:Value}(r:RelV x u)(q:RelV y u):x=y:=cJ (r.abs.symm.trans q.abs)
def Vals.inj{xs ys:List V}{us:List Value}(h:Vals xs us)(h':Vals ys us):xs=ys:=by
 induction h generalizing ys with
 |nil=>cases h';rfl
 |cons r _ ih=>
  cases h' with
  |cons r' t'=>rw[r.inj r',ih t']
section
variable {X:Cx}{ao:List (Addr×Obj)}{Z:St}{H:Hp}{s:Shared}{a:Addr}{xs ys:List V}
def cY.of{K:W.Frag}(h:H a=some (.lst xs)):cY K H a xs:=.inl (.inl h)
theorem Inv.list(I:Inv X ao Z H s)(h:cY X.K H a xs):∃its:List Value,Vals xs its/\PlainL s.heap a its.toArray/\xs.length<=sizeLine:=by
 rcases h with h|⟨o,its,n,hk,hc,hd,hs,hz,r⟩
 ·obtain⟨z,its,n,r,e⟩:=h.ok I.hok;exact⟨its,r,⟨_,n,e,rfl,rfl,rfl⟩,z⟩
 ·refine⟨its.toList,r,⟨o,n,I.mF a o hk,hc,hd,by simpa using hs⟩,?_⟩;have e:=r.length;simp only[qb] at e
  lia
theorem Inv.tuple(I:Inv X ao Z H s)(h:gw X.K H a xs):∃its:List Value,Vals xs its/\IsTup s.heap a its.toArray/\xs.length<=sizeLine:=by
 rcases h with h|⟨o,its,n,hk,hc,hs,hz,r⟩
 ·obtain⟨z,its,r,p⟩:=h.ok I.hok;exact⟨its,r,p,z⟩
 ·refine⟨its.toList,r,⟨o,I.mF a o hk,hc,n,by simpa using hs⟩,?_⟩;have e:=r.length;simp only[qb] at e
  lia
theorem Inv.oN(I:Inv X ao Z H s)(h:cY X.K H a xs)(h':cY X.K H a ys):xs=ys:=by
 obtain⟨its,r,⟨o,n,e,_,_,d⟩,_⟩:=I.list h;obtain⟨its',r',⟨o',n',e',_,_,d'⟩,_⟩:=I.list h';rw[e] at e';cases e';rw[d] at d';injection d' with d1 _;have:its=its':=by simpa using lE Array.toList d1
 subst this;exact r.inj r'
theorem Inv.mH(I:Inv X ao Z H s)(h:gw X.K H a xs)(h':gw X.K H a ys):xs=ys:=by
 obtain⟨its,r,⟨o,e,_,n,d⟩,_⟩:=I.tuple h;obtain⟨its',r',⟨o',e',_,n',d'⟩,_⟩:=I.tuple h';rw[e] at e';cases e';rw[d] at d';injection d' with d1 _;have:its=its':=by simpa using lE Array.toList d1
 subst this;exact r.inj r'
end
section
variable {X:Cx}{st:Stmt}{rest:List Stmt}{t u:TS}{e:Expr}{te:TE}{pos:Pos}
noncomputable def I9:TS:=λD Z H=>D.nx Z H
noncomputable def RJ(t u:TS):TS:=λD Z H=>t {D with nx:=u D} Z H
def YS:qm X [] I9:=λ_ _ Z H _ I h=>wpAny_execs_nil ⟨Z,H,I,h⟩
theorem YT(h1:PS X st t)(h2:qm X rest u):qm X (st::rest) (RJ t u):=by
 intro ao s Z H D I h;refine wpAny_execs_cons (aX (h1 ao s Z H {D with nx:=u D} I h) λf s1 q=>?_);cases f with
 |next=>
  obtain⟨Z',H',I',q⟩:=q;exact h2 ao s1 Z' H' D I' q
 |ret v=>exact q
 |brk=>exact q
 |cont=>exact q
def Inv.quiet{ao:List (Addr×Obj)}{Z:St}{H:Hp}{s:Shared}(I:Inv X ao Z H s):interactive X.env=false:=by simp[interactive,I.ok.kind]
noncomputable def I_(te:TE):TS:=λD Z H=>te Z H λ_ H1=>D.nx Z H1
theorem zkS(he:PE X e te)(hs:swapsWith e none pos.line X.env=pure false:=by rfl):PS X (.Expr e pos) (I_ te):=by
 intro ao s Z H D I h;exact wpAny_Expr_any (aX (he ao s Z H _ I h) λv s1 hx=>fH hx λx H1 I1 r1 q1=>⟨Z,H1,I1,q1⟩) I.quiet hs
noncomputable def RK(te:TE):TS:=λD Z H=>te Z H D.rt
def zmj(he:PE X e te):PS X (.Return (some e) pos) (RK te):=by
 intro ao s Z H D I h;exact wpAny_Return_some (aX (he ao s Z H _ I h) λv s1 hx=>fH hx λx H1 I1 r1 q1=>⟨x,Z,H1,I1,r1,q1⟩)
noncomputable def RL(c:TT)(t u:TS):TS:=λD Z H=>c Z H λb H1=>if b=true then t D Z H1 else u D Z H1
theorem zow{c:Expr}{a b:List Stmt}{tc:TT}(hc:PT X c tc)(ha:qm X a t)(hb:qm X b u):PS X (.If c a b pos) (RL tc t u):=by
 intro ao s Z H D I h;refine wpAny_If (aX (hc ao s Z H _ I h) λd s1 hx=>wz hx λH1 I1 q1=>?_);cases d with
 |true=>exact ha ao s1 Z H1 D I1 q1
 |false=>exact hb ao s1 Z H1 D I1 q1
end
abbrev TG:=V->St->Hp->(St->Hp->Prop)->Prop
abbrev B_:=List V->St->Hp->(St->Hp->Prop)->Prop
def PG(X:Cx)(target:Expr)(t:TG):Prop:=
 ∀(ao:List (Addr×Obj)) (s:Shared) (Z:St) (H:Hp) (v:V) (u:Value) (Q:St->Hp->Prop),Inv X ao Z H s->RelV v u->t v Z H Q->
  wpAny (model X.prog X.w) X.A (assign target X.env u) (λ_ s'=>∃Z' H',Inv X ao Z' H' s'/\Q Z' H') X.xe s
def N6(X:Cx)(ts:List Expr)(t:B_):Prop:=
 ∀(ao:List (Addr×Obj)) (s:Shared) (Z:St) (H:Hp) (vs:List V) (us:List Value) (Q:St->Hp->Prop),Inv X ao Z H s->Vals vs us->t vs Z H Q->
  wpAny (model X.prog X.w) X.A (assignInOrder ((assignEach ts X.env).map (·.2)) us) (λ_ s'=>∃Z' H',Inv X ao Z' H' s'/\Q Z' H') X.xe s
abbrev Ca:=V->V->V->Hp->(Hp->Prop)->Prop
def Ja(X:Cx)(t:Ca):Prop:=
 ∀(ao:List (Addr×Obj)) (s:Shared) (Z:St) (H:Hp) (o i v:V) (ov iv u:Value) (Q:Hp->Prop),Inv X ao Z H s->RelV o ov->RelV i iv->RelV v u->t o i v H Q->
  wpAny (model X.prog X.w) X.A (setItem ov iv u) (λ_ s'=>∃H',Inv X ao Z H' s'/\Q H') X.xe s
abbrev N7:=V->V->Hp->VK->Prop
def YW(X:Cx)(op:Operator)(t:N7):Prop:=
 ∀(ao:List (Addr×Obj)) (s:Shared) (Z:St) (H:Hp) (x y:V) (v u:Value) (Q:VK),Inv X ao Z H s->RelV x v->RelV y u->t x y H Q->
  wpAny (model X.prog X.w) X.A (inplaceOp op v u) (EP X ao Z Q) X.xe s
section
variable {X:Cx}{pos:Pos}
noncomputable def dM(i:Nat):TG:=λv Z H Q=>Q (Z.set i (some v)) H
theorem N8{i:Nat}{x:Str}(hN:X.N.Nodup)(hi:X.N[i]?=some x)(hx:Loc X.env.scope x)(hf:X.fn x=true\/X.env.scope.names.lookup x=some .local:=by first|exact .inl rfl|exact .inr rfl|assumption):PG X (.Name x pos) (dM i):=by
 intro ao s Z H v u Q I r h;exact wpAny_assign_Name (IK I hN hi hx r (λs' I'=>⟨_,H,I',h⟩) hf)
noncomputable def uL:B_:=λvs Z H Q=>vs=[]/\Q Z H
noncomputable def iR(t:TG)(u:B_):B_:=λvs Z H Q=>∃v r,vs=v::r/\t v Z H λZ' H'=>u r Z' H' Q
def zjY:N6 X [] uL:=by
 intro ao s Z H vs us Q I r h;obtain⟨e,h⟩:=h;subst e;cases r;exact assignInOrder_nil ⟨Z,H,I,h⟩
theorem YX{e:Expr}{es:List Expr}{t:TG}{u:B_}(h1:PG X e t)(h2:N6 X es u)
  (hs:(assignEach (e::es) X.env).map (·.2)=assign e X.env::(assignEach es X.env).map (·.2):=by rfl):N6 X (e::es) (iR t u):=by
 intro ao s Z H vs us Q I r h;obtain⟨v,vr,e1,h⟩:=h;subst e1;cases r with
 |cons r rr=>
  rw[hs];refine assignInOrder_cons (aX (h1 ao s Z H _ _ _ I r h) λ_ s1 ⟨Z1,H1,I1,q1⟩=>?_);exact h2 ao s1 Z1 H1 _ _ Q I1 rr q1
def uM(K:W.Frag)(n:Nat)(t:B_):TG:=λv Z H Q=>∃a xs,v=.ref a/\gw K H a xs/\xs.length=n/\t xs Z H Q
theorem zlO{es:List Expr}{k:Nat}{t:B_}{n:Nat}(hc:X.aj=true)(h:N6 X es t)
  (hn:(assignEach es X.env).length=n:=by rfl) (Cd:(assignEach es X.env).findIdx? (·.1)=none:=by rfl):PG X (.Tuple es k pos) (uM X.K n t):=by
 intro ao s Z H v u Q I r hw;obtain⟨a,xs,e1,hq,hl,hw⟩:=hw;subst e1;cases r;obtain⟨its,rv,ht,hz⟩:=I.tuple hq;refine assign_Tuple_tuple (I.ok.hd hc) ht (by simp[hn,<-hl,rv.length]) Cd λh' hx=>?_;have I1:Inv X ao Z H {s with heap:=h'}:=I.kept (t':=s.toks) λb o e=>hx b o (cV (bR e)) e;exact h ao _ Z H xs _ Q I1 (by simpa using rv) hw
noncomputable def RM(to ti:TE)(t:Ca):TG:=λv Z H Q=>to Z H λo H1=>ti Z H1 λi H2=>t o i v H2 λH3=>Q Z H3
theorem znb{o i:Expr}{to ti:TE}{t:Ca}(ho:PE X o to)(hi:PE X i ti)(hs:Ja X t)
  (ha:∀v,assign (.Subscript o i pos) X.env v=(do
   let ov <-holding [v] (eval o X.env)
   let iv <-holding [v,ov] (eval i X.env)
   standAt pos
   holding [v,ov,iv] (setItem ov iv v)
   release [v,ov,iv] []):=by intro _;rfl):PG X (.Subscript o i pos) (RM to ti t):=by
 intro ao s Z H v u Q I r h;rw[ha];refine aB (pQ (aX (ho ao s Z H _ I h) λov s1 hx=>fH hx λx H1 I1 r1 q1=>?_));refine aB (pQ (aX (hi ao s1 Z H1 _ I1 q1) λiv s2 hx=>fH hx λy H2 I2 r2 q2=>?_));refine aB (uF (aB (pQ (aX (hs ao s2 Z H2 x y v ov iv u _ I2 r1 r2 r q2) λ_ s3 hx=>wz hx λH3 I3 q3=>?_))));exact wpAny_release ⟨Z,H3,I3,q3⟩
noncomputable def xR(te:TE)(g:TG):TS:=λD Z H=>te Z H λx H1=>g x Z H1 D.nx
theorem YZ{tg e:Expr}{te:TE}{g:TG}(he:PE X e te)(hg:PG X tg g)(hs:swapsWithSole [tg] e pos.line X.env=pure false:=by rfl)(hw:swappedStores [tg] e X.env=pure none:=by rfl)
  (h1:(assignEach [tg] X.env).map (·.2)=[assign tg X.env]:=by rfl):PS X (.Assign [tg] e pos) (xR te g):=by
 intro ao s Z H D I h;refine wpAny_Assign_stores (aX (he ao s Z H _ I h) λv s1 hx=>fH hx λx H1 I1 r1 q1=>?_) hs hw;rw[h1];exact aX (hg ao s1 Z H1 x v _ I1 r1 q1) λ_ s2 q=>q
theorem zkZ{i:Nat}{x:Str}{e:Expr}{te:TE}{pos':Pos}(hN:X.N.Nodup)(hi:X.N[i]?=some x)(hx:Loc X.env.scope x)(he:PE X e te)(hs:swapsWith e (some (.Name x pos')) pos.line X.env=pure false:=by rfl)(hf:X.fn x=true\/X.env.scope.names.lookup x=some .local:=by first|exact .inl rfl|exact .inr rfl|assumption) :
  PS X (.Assign [.Name x pos'] e pos) (xR te (dM i)):=by
 intro ao s Z H D I h;refine wpAny_Assign_Name (aX (he ao s Z H _ I h) λv s1 ⟨y,H1,I1,r1,q1⟩=>?_) hs;exact IK I1 hN hi hx r1 (λs2 I2=>⟨_,H1,I2,q1⟩) hf
noncomputable def RN(i j:Nat)(ta:TA):TS:=λD Z H=>ta Z H λvs H1=>∃v w,vs=[v,w]/\D.nx ((Z.set i (some v)).set j (some w)) H1
theorem zmC{i j:Nat}{x y:Str}{a b:Expr}{ta:TA}{px py pt:Pos}{kt k2 uN}(hc:X.aj=true)(hN:X.N.Nodup)(hi:X.N[i]?=some x)(hj:X.N[j]?=some y)(xT:i≠j)
  (hx:X.env.scope.names.lookup x=some .local) (hy:X.env.scope.names.lookup y=some .local) (ha:PA X [a,b] ta)
  (hw:swappedStores [.Tuple [.Name x px,.Name y py] kt pt] (.Tuple [a,b] k2 uN) X.env=pure (some [x,y]))
  (hs:swapsWithSole [.Tuple [.Name x px,.Name y py] kt pt] (.Tuple [a,b] k2 uN) pos.line X.env=pure false:=by rfl) :
  PS X (.Assign [.Tuple [.Name x px,.Name y py] kt pt] (.Tuple [a,b] k2 uN) pos) (RN i j ta):=by
 intro ao s Z H D I h;rw[exec_Assign_arm];refine aB (uF ?_);rw[hs];refine aB (aN ?_);rw[if_neg Tv];refine aB (Tuple_ (aX (ha _ ao s Z H _ I h) λus s1 ⟨vs,H1,I1,r1,q1⟩=>?_));obtain⟨v,w,e1,q1⟩:=q1;subst e1;obtain⟨u1,u2,rfl,rv,lR⟩ : ∃u1 u2,us=[u1,u2]/\RelV v u1/\RelV w u2:=by
  cases r1 with
  |cons p q=>
   cases q with
   |cons p' q'=>
    cases q';exact⟨_,_,rfl,p,p'⟩
 refine pN ?_ (by show 2<=sizeLine;decide);have I2:Inv X ao Z H1 {s1 with heap:=s1.heap.push {cls:=.type "tuple",data:=.seq [u1,u2].toArray}}:=I1.kept (t':=s1.toks) λb o e=>cD _ e;rw[hw];refine aB (aN ?_);show wpAny (model X.prog X.w) X.A (do rule "assign.swapped-stores";let items <-unpackItems (.ref s1.heap.objs.size) 2 none;assignInOrder [λv=>bindName X.env y v,λv=>bindName X.env x v] items.reverse;pure Flow.next) _ _ _;refine aB (zJ (aB (unpackItems_tuple (items:=#[u1,u2]) (I.ok.hd hc) (IsTup.new s1.heap _) λh' hx'=>?_)));have I3:=I2.kept (h':=h') (t':=s1.toks) λb o e=>hx' b o (cV (bR e)) e;show wpAny _ _ (assignInOrder [λv=>bindName X.env y v,λv=>bindName X.env x v] [u2,u1] >>= λ_=>pure Flow.next) _ _ _;refine aB (assignInOrder_cons (wpAny_bindName (IK I3 hN hj (.inl hy) lR (λs2 I4=>?_) (.inr hy))));refine assignInOrder_cons (wpAny_bindName (IK I4 hN hi (.inl hx) rv (λs3 I5=>assignInOrder_nil (aN ?_)) (.inr hx)));rw[List.set_comm _ _ (Ne.symm xT)] at I5;exact⟨_,H1,I5,q1⟩
noncomputable def Jc(i:Nat)(te:TE)(ti:N7):TS:=λD Z H=>∃x,Z[i]?=some (some x)/\te Z H λy H1=>ti x y H1 λz H2=>D.nx (Z.set i (some z)) H2
theorem zlb{i:Nat}{x:Str}{e:Expr}{te:TE}{op:Operator}{ti:N7}{pos':Pos}(hN:X.N.Nodup)(hi:X.N[i]?=some x)(hx:Loc X.env.scope x)(he:PE X e te)(ho:YW X op ti)(hf:X.fn x=true\/X.env.scope.names.lookup x=some .local:=by first|exact .inl rfl|exact .inr rfl|assumption) :
  PS X (.AugAssign (.Name x pos') op e pos) (Jc i te ti):=by
 intro ao s Z H D I h;obtain⟨v,e1,h⟩:=h;obtain⟨m,hn,hl⟩:=I.loc;have vis:NP X.env.scope x:=by rcases hx with k|k;exact .inl k;exact .inr (.inl k)
 obtain⟨u,r,l⟩:=hl i x v hi e1 vis;refine wpAny_AugAssign_Name ?_;have go:wpAny (model X.prog X.w) X.A (eval e X.env) (λw s₂=>wpAny (model X.prog X.w) X.A (inplaceOp op u w) (λr s₃=>wpAny (model X.prog X.w) X.A (storeName X.env x r) (λ_=>SP X ao D .next) X.xe s₃) X.xe s₂) X.xe s:=by
  refine aX (he ao s Z H _ I h) λw s1 ⟨y,H1,I1,r1,q1⟩=>?_;refine aX (ho ao s1 Z H1 v y u w _ I1 r r1 q1) λz s2 ⟨zv,H2,I2,r2,q2⟩=>?_;exact IK I2 hN hi hx r2 (λs3 I3=>⟨_,H2,I3,q2⟩) hf
 rcases l with ⟨hk,hm⟩|⟨hk,c,hc,rF⟩
 ·exact wpAny_loadName_local I.ok.kind hk hn hm go
 ·rcases hk with hk|hk
  ·exact wpAny_loadName_cell I.ok.kind hk hc rF go
  ·rcases hx with k|k
   ·have:X.env.scope.names.lookup x=some .free:=hk;rw[k] at this;cases this
   ·have:X.env.scope.names.lookup x=some .free:=hk;rw[k] at this;cases this
noncomputable def Y0(f:Int->Int->Int):N7:=λx y H Q=>∃i j,x=.int i/\y=.int j/\Q (.int (f i j)) H
def znl:YW X .Add (Y0 λi j=>i+j):=by
 intro ao s Z H x y v u Q I r1 r2 h;obtain⟨i,j,e1,e2,q⟩:=h;subst e1;subst e2;obtain⟨t,rfl⟩:=r1;obtain⟨t',rfl⟩:=r2;exact iadd_int ⟨.int _,H,I.tok _,⟨_,rfl⟩,q⟩
end
section
variable {X:Cx}{pos:Pos}
def Ce(c:TT)(tb:TS):TS:=λD Z H=>∃W:Nat->St->Hp->Prop,(∃m,W m Z H)/\∀m Z H,W m Z H->
 c Z H λb H1=>if b=true then ∃N:St->Hp->Prop,(∀Z' H',N Z' H'->∃m',m'<m/\W m' Z' H')/\tb {D with nx:=N,ct:=N,bk:=D.nx} Z H1 else D.nx Z H1
theorem zik{c:Expr}{body:List Stmt}{tc:TT}{tb:TS}(hp:PassesOwn (model X.prog X.w) X.A X.env X.xe)(hc:PT X c tc)(hb:qm X body tb):PS X (.While c body [] pos) (Ce tc tb):=by
 intro ao s Z H D I h;obtain⟨W,⟨m0,w0⟩,turn⟩:=h;refine wpAny_While (codeAny_whileLoop (λn s'=>∃Z' H',Inv X ao Z' H' s'/\W n Z' H') ?_ m0 ⟨Z,H,I,w0⟩);rintro n s1 ⟨Z1,H1,I1,w1⟩;refine Br hp (aX (hc ao s1 Z1 H1 _ I1 (turn n Z1 H1 w1)) λb s2 hx=>wz hx λH2 I2 q2=>?_);cases b with
 |true=>
  obtain⟨N,hN,q2⟩:=q2;rw[if_pos rfl];refine Br hp (aX (hb ao s2 Z1 H2 _ I2 q2) λf s3 q3=>?_);cases f with
  |next=>
   obtain⟨Z3,H3,I3,n3⟩:=q3;obtain⟨m',hm,w3⟩:=hN Z3 H3 n3;exact⟨m',hm,Z3,H3,I3,w3⟩
  |cont=>
   obtain⟨Z3,H3,I3,n3⟩:=q3;obtain⟨m',hm,w3⟩:=hN Z3 H3 n3;exact⟨m',hm,Z3,H3,I3,w3⟩
  |brk=>exact q3
  |ret v=>exact q3
 |false=>
  rw[if_neg HB];exact wpAny_execs_nil ⟨Z1,H2,I2,q2⟩
end
structure It where
 go:Nat->Hp->Prop
 uO:Nat->Hp->V->Hp->Prop
 stop:Nat->Hp->Prop
def fU(X:Cx)(ao:List (Addr×Obj))(H:Hp)(b:Addr):Prop:=
 H b=none/\b≠X.env.locals/\b∉X.fs/\(b∈X.ex\/X.s₀.heap.objs.size<=b)/\(∀x c,X.env.cells.lookup x=some c->c≠b)/\∀p∈X.pn++ao,p.1≠b
theorem Inv.uP{X:Cx}{ao:List (Addr×Obj)}{Z:St}{H H':Hp}{s:Shared}{b:Addr}(I:Inv X ao Z H s)(hb:s.heap.objs.size<=b)(hn:H' b=none):fU X ao H' b:=by
 refine⟨hn,qj (f9 I.lt hb),I.xP hb,.inr (jZ I.sz hb),λx c e z=>?_,λp hp z=>?_⟩
 ·obtain⟨v,q⟩:=I.cell x c e;exact absurd (f9 q.lt (by rw[z];exact hb)) (qg _)
 ·exact absurd (f9 (bR (I.pin p hp).1) (by rw[z];exact hb)) (qg _)
structure Turn(P:Program)(w:World)(K:W.Frag)(tg:Expr)(bf:It)(fp:List Addr)(it:Addr)(tn:Nat->Heap->Prop):Prop where
 mem:it∈fp
 obj:∀i h,tn i h->∀b∈fp,∃o,h.get? b=some o/\∀v,o.data≠.cell v
 keep:∀i h h',tn i h->(∀b∈fp,∀o,h.get? b=some o->h'.get? b=some o)->tn i h'
 item:∀(X:Cx),X.prog=P->X.w=w->X.K=K->X.aj=true->∀(i:Nat) (ao:List (Addr×Obj)) (s:Shared) (Z:St) (H:Hp) (E:Value->Shared->Prop),Inv X ao Z H s->(∀b∈fp,fU X ao H b)->tn i s.heap->bf.go i H->
  wpAny (model P w) X.A (pyNext (.ref it)) (λr s1=>∃u,r=some u /\
   wpAny (model P w) X.A (letOwnedTupleGo tg (.ref it) u) (λ_ s2=>∃x H',Inv X ao Z H' s2/\RelV x u/\bf.uO i H x H'/\tn (i+1) s2.heap/\∀b∈fp,H' b=none) E s1) E s
 done:∀(X:Cx),X.prog=P->X.w=w->X.K=K->X.aj=true->∀(i:Nat) (ao:List (Addr×Obj)) (s:Shared) (Z:St) (H:Hp) (E:Value->Shared->Prop),Inv X ao Z H s->(∀b∈fp,fU X ao H b)->tn i s.heap->bf.stop i H->
  wpAny (model P w) X.A (pyNext (.ref it)) (λr s1=>r=none/\Inv X ao Z H s1) E s
 self:∀(A:Around) (i:Nat) (s:Shared) (Q:Value->Shared->Prop) (E:Value->Shared->Prop),tn i s.heap->Q (.ref it) s->wpAny (model P w) A (pyIter (.ref it)) Q E s
abbrev TI:=St->Hp->(It->Hp->Prop)->Prop
def PIE(X:Cx)(ao:List (Addr×Obj))(Z:St)(tg:Expr)(R:It->Hp->Prop)(itv:Value)(s2:Shared):Prop:=
 ∃(it:Addr) (fp:List Addr) (tn:Nat->Heap->Prop) (bf:It) (H':Hp),itv=.ref it/\Inv X ao Z H' s2/\Turn X.prog X.w X.K tg bf fp it tn/\tn 0 s2.heap/\(∀b∈fp,fU X ao H' b)/\R bf H'
def PI(X:Cx)(tg iter:Expr)(wi:TI):Prop:=
 ∀(ao:List (Addr×Obj)) (s:Shared) (Z:St) (H:Hp) (R:It->Hp->Prop),Inv X ao Z H s->wi Z H R->
  wpAny (model X.prog X.w) X.A (eval iter X.env) (λv s1=>wpAny (model X.prog X.w) X.A (pyIter v) (PIE X ao Z tg R) X.xe s1) X.xe s
theorem RP{M:Model}{A:Around}{E:Value->Shared->Prop}{s:Shared}{tg:Expr}{it:Addr}{u:Value}{o:Obj}{n:String}{vs:Array Value}{Q:Unit->Shared->Prop}(ho:s.heap.get? it=some o)(hc:o.cls=.type n)(hd:o.data=.fields vs)
  (hn:["enumerate","zip","dict_itemiterator","dict_reverseitemiterator","odict_iterator","itertools.zip_longest","itertools.pairwise"].contains n=false) (hQ:Q () s):wpAny M A (letOwnedTupleGo tg (.ref it) u) Q E s:=by
 unfold letOwnedTupleGo;cases tg<;>first
  |exact aN hQ
  | (cases u<;>first
    |exact aN hQ
    | (refine aB (wpAny_load ho ?_)
       rw[hc,hd];show wpAny M A (if (["enumerate","zip","dict_itemiterator","dict_reverseitemiterator","odict_iterator","itertools.zip_longest","itertools.pairwise"].contains n&&vs[0]?==some (rawInt _))=true then _ else _) Q E s;rw[if_neg (by intro h;rw[hn,Bool.false_and] at h;cases h)];exact aN hQ))
def N_(K:W.Frag)(a:Addr):It:=
 ⟨λi H=>∃xs x,cY K H a xs/\xs[i]?=some x,λi H x H'=>H'=H/\∀xs,cY K H a xs->xs[i]?=some x,λi H=>∃xs,cY K H a xs/\xs.length<=i⟩
def RQ(K:W.Frag)(a:Addr):It:=
 ⟨λi H=>∃xs x,gw K H a xs/\xs[i]?=some x,λi H x H'=>H'=H/\∀xs,gw K H a xs->xs[i]?=some x,λi H=>∃xs,gw K H a xs/\xs.length<=i⟩
noncomputable def Jd(lo:Int)(n:Nat):It:=⟨λi _=>i<n,λi H x H'=>H'=H/\x=.int (lo+i),λi _=>n<=i⟩
theorem zgo{P:Program}{w:World}{K:W.Frag}{tg:Expr}(a it:Addr):Turn P w K tg (N_ K a) [it] it (λi h=>h.IsListIter it a i) where
 mem:=by simp
 obj:=λi h st b hb=>by
  have e:b=it:=by simpa using hb
  subst e;obtain⟨o,e,c,d⟩:=st;exact⟨o,e,λv z=>by rw[d] at z;cases z⟩
 keep:=λi h h' st k=>st.at λo e=>k it Zaa o e
 item:=by
  intro X hP hw hK hc i ao s Z H E I hf st hg;subst hP hw hK;obtain⟨xs,x,hq,hx⟩:=hg;obtain⟨its,rv,p,hz⟩:=I.list hq;obtain⟨u,hu,ru⟩:=rv.get hx;obtain⟨f0,f1,f2,f3,f4,f5⟩:=hf it Zaa;refine wpAny_pyNext_list_item st p.isList (x:=u) (by simpa using hu) λh' st' sb=>?_;have I1:Inv X ao Z H {s with heap:=h'}:=I.turned (t':=s.toks) (λb o hb e=>(sb.2 b hb).trans e) f0 f1 f3 f4 f5;obtain⟨o,e,c,d⟩:=id st';exact⟨u,rfl,RP (s:={s with heap:=h'}) e c d Tv ⟨x,H,I1,ru,⟨rfl,λys hy=>by rw[I.oN hy hq];exact hx⟩,st',λb hb=>(hf b hb).1⟩⟩
 done:=by
  intro X hP hw hK hc i ao s Z H E I hf st hg;subst hP hw hK;obtain⟨xs,hq,hx⟩:=hg;obtain⟨its,rv,p,hz⟩:=I.list hq;obtain⟨f0,f1,f2,f3,f4,f5⟩:=hf it Zaa;have hl:=rv.length;exact wpAny_pyNext_list_end (I.ok.hd hc) st p.isList (by simp;lia) λh' eb=>⟨rfl,I.turned (t':=s.toks) (λb o hb e=>eb b o hb e) f0 f1 f3 f4 f5⟩
 self:=λ_ _ _ _ _ st h=>wpAny_pyIter_listiter st h
theorem zfn{P:Program}{w:World}{K:W.Frag}{tg:Expr}(a it:Addr):Turn P w K tg (RQ K a) [it] it (λi h=>h.IsTupleIter it a i) where
 mem:=by simp
 obj:=λi h st b hb=>by
  have e:b=it:=by simpa using hb
  subst e;obtain⟨o,e,c,d⟩:=st;exact⟨o,e,λv z=>by rw[d] at z;cases z⟩
 keep:=λi h h' st k=>st.at λo e=>k it Zaa o e
 item:=by
  intro X hP hw hK hc i ao s Z H E I hf st hg;subst hP hw hK;obtain⟨xs,x,hq,hx⟩:=hg;obtain⟨its,rv,p,hz⟩:=I.tuple hq;obtain⟨u,hu,ru⟩:=rv.get hx;obtain⟨f0,f1,f2,f3,f4,f5⟩:=hf it Zaa;refine wpAny_pyNext_tuple_item st (show s.heap.IsTuple a its.toArray from p) (x:=u) (by simpa using hu) λh' st' sb=>?_;have I1:Inv X ao Z H {s with heap:=h'}:=I.turned (t':=s.toks) (λb o hb e=>(sb.2 b hb).trans e) f0 f1 f3 f4 f5;obtain⟨o,e,c,d⟩:=id st';exact⟨u,rfl,RP (s:={s with heap:=h'}) e c d Tv ⟨x,H,I1,ru,⟨rfl,λys hy=>by rw[I.mH hy hq];exact hx⟩,st',λb hb=>(hf b hb).1⟩⟩
 done:=by
  intro X hP hw hK hc i ao s Z H E I hf st hg;subst hP hw hK;obtain⟨xs,hq,hx⟩:=hg;obtain⟨its,rv,p,hz⟩:=I.tuple hq;obtain⟨f0,f1,f2,f3,f4,f5⟩:=hf it Zaa;have hl:=rv.length;exact wpAny_pyNext_tuple_end (I.ok.hd hc) st (show s.heap.IsTuple a its.toArray from p) (by simp;lia) λh' eb=>⟨rfl,I.turned (t':=s.toks) (λb o hb e=>eb b o hb e) f0 f1 f3 f4 f5⟩
 self:=λ_ _ _ _ _ st h=>wpAny_pyIter_tupleiter st h
theorem zfk{P:Program}{w:World}{K:W.Frag}{tg:Expr}(it:Addr)(lo:Int)(n:Nat):Turn P w K tg (Jd lo n) [it] it (λi h=>IsRangeIter h it (lo+(i:Nat)*1) ((n:Int)-(i:Nat)) 1) where
 mem:=by simp
 obj:=λi h st b hb=>by
  have e:b=it:=by simpa using hb
  subst e;exact⟨_,st,λv z=>by
   have z':Data.fields _=Data.cell v:=z;cases z'⟩
 keep:=λi h h' st k=>k it Zaa _ st
 item:=by
  intro X hP hw hK hc i ao s Z H E I hf st hg;subst hP hw hK;obtain⟨f0,f1,f2,f3,f4,f5⟩:=hf it Zaa;have W:=Walks.range (prog:=X.prog) (w:=X.w) (I.ok.hd hc) it lo 1 n;refine W.item i s _ _ hg st λv h' tk hv st' kk=>?_;obtain⟨t,rfl⟩:=hv;have I1:Inv X ao Z H {s with heap:=h',toks:=tk}:=I.turned (λb o hb e=>kk b o (by simpa using hb) e) f0 f1 f3 f4 f5;refine⟨_,rfl,RP (s:={s with heap:=h',toks:=tk}) (n:="range_iterator") st' rfl rfl Tv ⟨.int (lo+i),H,I1,⟨t,?_⟩,⟨rfl,rfl⟩,st',λb hb=>(hf b hb).1⟩⟩;rw[Bw]
 done:=by
  intro X hP hw hK hc i ao s Z H E I hf st hg;subst hP hw hK;obtain⟨f0,f1,f2,f3,f4,f5⟩:=hf it Zaa;exact wpAny_pyNext_range_end (I.ok.hd hc) st (by have:n<=i:=hg;lia) λh' eb=>⟨rfl,I.turned (t':=s.toks) (λb o hb e=>eb b o hb e) f0 f1 f3 f4 f5⟩
 self:=λ_ _ _ _ _ st h=>wpAny_pyIter_rangeiter st h
section
variable {X:Cx}{tg:Expr}
theorem Y4{ao:List (Addr×Obj)}{Z:St}{H:Hp}{s:Shared}{R:It->Hp->Prop}{E:Value->Shared->Prop}{lo hi:Int}{t u v:Tok}{tk:Nat}(I:Inv X ao Z H s)(h1 : -(2^62)<=lo)(h2:lo<2^62)(h3 : -(2^62)<=hi)(h4:hi<2^62)
  (q:R (Jd lo (hi-lo).toNat) H):wpAny (model X.prog X.w) X.A (pyIter (.ref s.heap.objs.size)) (PIE X ao Z tg R) E {s with heap:=s.heap.push {cls:=.type "range",data:=.fields #[.int lo t,.int hi u,.int 1 v]},toks:=tk}:=by
 refine wpAny_pyIter_range (IsRange.new ..) (small_one h1 h2 h3 h4) ?_;have I1:Inv X ao Z H {s with heap:=s.heap.push {cls:=.type "range",data:=.fields #[.int lo t,.int hi u,.int 1 v]},toks:=tk}:=I.kept λb o e=>cD _ e;refine⟨(s.heap.push {cls:=.type "range",data:=.fields #[.int lo t,.int hi u,.int 1 v]}).objs.size,[(s.heap.push {cls:=.type "range",data:=.fields #[.int lo t,.int hi u,.int 1 v]}).objs.size],_,_,H,rfl,
  I1.kept (t':=tk) λb o e=>cD _ e,zfk _ lo (hi-lo).toNat,?_,λb hb=>?_,q⟩
 ·have e1:lo+((0:Nat):Int)*1=lo:=by simp
  have e2:(((hi-lo).toNat:Nat):Int)-((0:Nat):Int)=Builtin.Range.rangeSize lo hi 1:=by rw[rangeSize_one];split<;>lia
  show IsRangeIter _ _ (lo+((0:Nat):Int)*1) ((((hi-lo).toNat:Nat):Int)-((0:Nat):Int)) 1;rw[e1,e2];exact dX _ rfl
 ·have e:b=(s.heap.push {cls:=.type "range",data:=.fields #[.int lo t,.int hi u,.int 1 v]}).objs.size:=by simpa using hb
  subst e;exact I1.uP (cj _) (I1.hok.fresh (cj _))
def Je(ta:TA):TI:=λZ H R=>ta Z H λvs H1=>∃j:Int,vs=[.int j]/\-(2^62)<=j/\j<2^62/\R (Jd 0 j.toNat) H1
def Jf(ta:TA):TI:=λZ H R=>ta Z H λvs H1=>∃i j:Int,vs=[.int i,.int j]/\(-(2^62)<=i/\i<2^62/\-(2^62)<=j/\j<2^62)/\R (Jd i (j-i).toNat) H1
theorem zgp{a:Expr}{ta:TA}{p pos:Pos}(hg:Gl X "range")(hm:X.mg "range"=none)(ha:PA X [a] ta)(hs:starEach [a] X.env=[(false,eval a X.env)]:=by rfl):PI X tg (.Call (.Name "range" p) [a] [] pos) (Je ta):=by
 intro ao s Z H R I h;refine Call_ (wB I hg hm boot_range (Bb (aX (ha pos ao s Z H _ I h) λus s1 hx=>fH hx λvs H1 I1 r1 q1=>?_) hs rfl));obtain⟨j,e,q1,q2,q⟩:=q1;subst e;cases r1 with
 |cons r rr=>
  cases rr;obtain⟨t,rfl⟩:=r;exact call_range_1 (Y4 I1 gV gV q1 q2 (by simpa using q))
theorem zgO{a b:Expr}{ta:TA}{p pos:Pos}(hg:Gl X "range")(hm:X.mg "range"=none)(ha:PA X [a,b] ta)(hs:starEach [a,b] X.env=[(false,eval a X.env),(false,eval b X.env)]:=by rfl)(zP:starEach [b] X.env=[(false,eval b X.env)]:=by rfl) :
  PI X tg (.Call (.Name "range" p) [a,b] [] pos) (Jf ta):=by
 intro ao s Z H R I h;refine Call_ (wB I hg hm boot_range (Bb (aX (ha pos ao s Z H _ I h) λus s1 hx=>fH hx λvs H1 I1 r1 q1=>?_) (by rw[hs,zP]) (by rw[zP];rfl)));obtain⟨i,j,e,⟨q1,q2,q3,q4⟩,q⟩:=q1;subst e;cases r1 with
 |cons r rr=>
  cases rr with
  |cons r' rr=>
   cases rr;obtain⟨t,rfl⟩:=r;obtain⟨t',rfl⟩:=r';exact call_range_2 (Y4 I1 q1 q2 q3 q4 q)
def RT(wi:TI)(g:TG)(tb:TS):TS:=λD Z H=>wi Z H λbf H1=>∃W:Nat->Nat->St->Hp->Prop,(∃m,W 0 m Z H1)/\∀i m Z H,W i m Z H->
 (bf.stop i H/\D.nx Z H)\/(bf.go i H/\∃N:St->Hp->Prop,(∀Z' H',N Z' H'->∃m',m'<m/\W (i+1) m' Z' H')/\∀x H',bf.uO i H x H'->g x Z H' λZ2 H2=>tb {D with nx:=N,ct:=N,bk:=D.nx} Z2 H2)
noncomputable def jk(fp:List Addr)(h:Heap):List (Addr×Obj):=fp.filterMap λb=>(h.get? b).map λo=>(b,o)
def zQ{fp:List Addr}{h:Heap}{b:Addr}{o:Obj}(hb:b∈fp)(e:h.get? b=some o):(b,o)∈jk fp h:=zy.mpr ⟨b,hb,by rw[e];rfl⟩
theorem zf6{fp:List Addr}{h:Heap}{p:Addr×Obj}(hp:p∈jk fp h):p.1∈fp/\h.get? p.1=some p.2:=by
 obtain⟨b,hb,e⟩:=zy.mp hp;cases q:h.get? b with
 |none=>rw[q] at e;cases e
 |some o=>
  rw[q] at e;have e':(b,o)=p:=cJ e;subst e';exact⟨hb,q⟩
theorem Inv.pinned{ao:List (Addr×Obj)}{Z:St}{H:Hp}{s:Shared}{fp:List Addr}(I:Inv X ao Z H s)(hf:∀b∈fp,fU X ao H b)(ho:∀b∈fp,∃o,s.heap.get? b=some o/\∀v,o.data≠.cell v):Inv X (ao++jk fp s.heap) Z H s:=
 I.jV λp hp=>(nW.mp hp).elim (λz=>I.pin p (lC _ z)) λz=>by
  obtain⟨hb,e⟩:=zf6 z;obtain⟨f0,f1,f2,_⟩:=hf p.1 hb;obtain⟨o,e',d⟩:=ho p.1 hb;rw[e] at e';cases e';exact⟨e,f0,f1,f2,d⟩
def Inv.cB{ao pl:List (Addr×Obj)}{Z:St}{H:Hp}{s:Shared}(I:Inv X (ao++pl) Z H s):Inv X ao Z H s:=I.jV λp hp=>I.pin p (lC _ (Hy _ hp))
theorem zmB{iter:Expr}{body:List Stmt}{wi:TI}{g:TG}{tb:TS}{pos:Pos}(hp:PassesOwn (model X.prog X.w) X.A X.env X.xe)(hc:X.aj=true)(hi:PI X tg iter wi)(hg:PG X tg g)(hb:qm X body tb)
  (hs:∀x,foldedSetIterable iter X.env x=pure x:=by intro _;rfl):PS X (.For tg iter body [] pos) (RT wi g tb):=by
 intro ao s Z H D I h;refine wpAny_For (aX (hi ao s Z H _ I h) λv s1 h1=>aX h1 λitv s2 h2=>?_) hs;obtain⟨it,fp,tn,bf,H2,e,I2,T,st2,f2,W,⟨m0,w0⟩,turn⟩:=h2;subst e;have stat:∀{H':Hp},(∀b∈fp,H' b=none)->∀b∈fp,fU X ao H' b:=λhn b hb=>⟨hn b hb,(f2 b hb).2⟩;refine codeAny_forLoop_any (λn s'=>∃i Z' H',Inv X ao Z' H' s'/\tn i s'.heap/\(∀b∈fp,H' b=none)/\W i n Z' H') ?_ m0 ⟨0,Z,H2,I2,st2,λb hb=>(f2 b hb).1,w0⟩;rintro n s3 ⟨i,Z3,H3,I3,st3,Y5,w3⟩;rcases turn i n Z3 H3 w3 with ⟨stop,qn⟩|⟨go,N,hN,step⟩
 ·refine Br hp (aX (T.done X rfl rfl rfl hc i ao s3 Z3 H3 X.xe I3 (stat Y5) st3 stop) λr s4 ⟨hr,I4⟩=>?_);subst hr;exact wpAny_execs_nil ⟨Z3,H3,I4,qn⟩
 ·refine Br hp (aX (T.item X rfl rfl rfl hc i ao s3 Z3 H3 X.xe I3 (stat Y5) st3 go) λr s4 hx=>wz hx λu hr h4=>?_);subst hr;refine Br hp (aX h4 λ_ s5 ⟨x,H5,I5,r5,y5,ug,wC⟩=>?_);have I5':=I5.pinned (stat wC) (T.obj _ _ ug);refine Br hp (aX (hg _ s5 Z3 H5 x u _ I5' r5 (step x H5 y5)) λ_ s6 ⟨Z6,H6,I6,q6⟩=>?_);refine Br hp (aX (hb _ s6 Z6 H6 _ I6 q6) λf s7 q7=>?_);have again:∀{Z7:St} {H7:Hp},Inv X (ao++jk fp s5.heap) Z7 H7 s7->N Z7 H7->∃m,m<n/\∃i Z' H',Inv X ao Z' H' s7/\tn i s7.heap/\(∀b∈fp,H' b=none)/\W i m Z' H':=λ{Z7 H7} I7 n7=>by
   obtain⟨m',hm,w7⟩:=hN Z7 H7 n7;refine⟨m',hm,i+1,Z7,H7,I7.cB,T.keep _ _ _ ug λb hb o e=>(I7.pin (b,o) (lC _ (lC _ (zQ hb e)))).1,λb hb=>?_,w7⟩;obtain⟨o,e,d⟩:=T.obj _ _ ug b hb;exact(I7.pin (b,o) (lC _ (lC _ (zQ hb e)))).2.1
  cases f with
  |next=>obtain⟨Z7,H7,I7,n7⟩:=q7;exact again I7 n7
  |cont=>obtain⟨Z7,H7,I7,n7⟩:=q7;exact again I7 n7
  |brk=>obtain⟨Z7,H7,I7,q7⟩:=q7;exact⟨Z7,H7,I7.cB,q7⟩
  |ret v=>obtain⟨x7,Z7,H7,I7,r7,q7⟩:=q7;exact⟨x7,Z7,H7,I7.cB,r7,q7⟩
end
abbrev R2:=V->V->Hp->VK->Prop
def fV(X:Cx)(f:Value->Value->Sem Value)(r:R2):Prop:=
 ∀(ao:List (Addr×Obj)) (s:Shared) (Z:St) (H:Hp) (x y:V) (v u:Value) (Q:VK),Inv X ao Z H s->RelV x v->RelV y u->r x y H Q->
  wpAny (model X.prog X.w) X.A (f v u) (EP X ao Z Q) X.xe s
def Oa(X:Cx)(f:Value->Sem Value)(r:V->Hp->VK->Prop):Prop:=
 ∀(ao:List (Addr×Obj)) (s:Shared) (Z:St) (H:Hp) (x:V) (v:Value) (Q:VK),Inv X ao Z H s->RelV x v->r x H Q->
  wpAny (model X.prog X.w) X.A (f v) (EP X ao Z Q) X.xe s
def cW(X:Cx)(f:Value)(r:List V->Hp->VK->Prop):Prop:=
 ∀(ao:List (Addr×Obj)) (s:Shared) (Z:St) (H:Hp) (xs:List V) (us:List Value) (Q:VK),Inv X ao Z H s->Vals xs us->r xs H Q->
  wpAny (model X.prog X.w) X.A (call f us) (EP X ao Z Q) X.xe s
def RV(X:Cx)(r:V->Hp->(Bool->Hp->Prop)->Prop):Prop:=
 ∀(ao:List (Addr×Obj)) (s:Shared) (Z:St) (H:Hp) (x:V) (v:Value) (Q:Bool->Hp->Prop),Inv X ao Z H s->RelV x v->r x H Q->
  wpAny (model X.prog X.w) X.A (truthy v) (TP X ao Z Q) X.xe s
noncomputable def Ob(r:R2)(ta tb:TE):TE:=λZ H Q=>ta Z H λx H1=>tb Z H1 λy H2=>r x y H2 Q
noncomputable def tUn(r:V->Hp->VK->Prop)(ta:TE):TE:=λZ H Q=>ta Z H λx H1=>r x H1 Q
noncomputable def rI(C:Int->Int->Prop)(g:Int->Int->V):R2:=λx y H Q=>∃i j,x=.int i/\y=.int j/\C i j/\Q (g i j) H
noncomputable def qp(g:Int->Int->V):R2:=λx y H Q=>∃i j,x=.int i/\y=.int j/\Q (g i j) H
noncomputable def rU(g:Int->V):V->Hp->VK->Prop:=λx H Q=>∃i,x=.int i/\Q (g i) H
section
variable {X:Cx}{a b c:Expr}{ta tb tc:TE}{pos:Pos}
theorem Cg(ha:PE X a ta)(hb:PE X b tb){ao:List (Addr×Obj)}{s:Shared}{Z:St}{H:Hp}{R:V->V->Hp->Prop}(I:Inv X ao Z H s)
  (h:ta Z H λx H1=>tb Z H1 λy H2=>R x y H2) {Q:Value->Shared->Prop} {f:Value->Value->Sem Value}
  (hf:∀v u s2 x y H2,Inv X ao Z H2 s2->RelV x v->RelV y u->R x y H2->wpAny (model X.prog X.w) X.A (f v u) Q X.xe s2) :
  wpAny (model X.prog X.w) X.A (eval a X.env) (λv s₁=>wpAny (model X.prog X.w) X.A (eval b X.env) (λu s₂=>wpAny (model X.prog X.w) X.A (f v u) Q X.xe s₂) X.xe s₁) X.xe s:=by
 refine aX (ha ao s Z H _ I h) λv s1 hx=>fH hx λx H1 I1 r1 q1=>?_;refine aX (hb ao s1 Z H1 _ I1 q1) λu s2 hx=>fH hx λy H2 I2 r2 q2=>?_;exact hf v u s2 x y H2 I2 r1 r2 q2
theorem zn1{op:Operator}{r:R2}(ho:fV X (binaryOp op) r)(ha:PE X a ta)(hb:PE X b tb):PE X (.BinOp a op b pos) (Ob r ta tb):=by
 intro ao s Z H Q I h;exact wpAny_BinOp (Cg ha hb I h λv u s2 x y H2 I2 rx ry q=>ho ao s2 Z H2 x y v u Q I2 rx ry q)
theorem Y6{op:UnaryOp}{r:V->Hp->VK->Prop}(ho:Oa X (unaryOp op) r)(ha:PE X a ta):PE X (.UnaryOp op a pos) (tUn r ta):=by
 intro ao s Z H Q I h;exact UnaryOp_ (aX (ha ao s Z H _ I h) λv s1 hx=>fH hx λx H1 I1 r1 q1=>ho ao s1 Z H1 x v Q I1 r1 q1)
theorem Oc{f:Value->Value->Sem Value}{C:Int->Int->Prop}{g:Int->Int->Int}
  (rule:∀(i j:Int) (t u:Tok) (s:Shared) (Q:Value->Shared->Prop) (E:Value->Shared->Prop),C i j->Q (.int (g i j) s.toks) {s with toks:=s.toks+1}->wpAny (model X.prog X.w) X.A (f (.int i t) (.int j u)) Q E s) :
  fV X f (rI C λi j=>.int (g i j)):=by
 intro ao s Z H x y v u Q I rx ry h;obtain⟨i,j,rfl,rfl,hc,q⟩:=h;obtain⟨t,rfl⟩:=rx;obtain⟨t',rfl⟩:=ry;exact rule i j t t' s _ _ hc ⟨.int (g i j),H,I.tok _,⟨_,rfl⟩,q⟩
theorem Jg{f:Value->Value->Sem Value}{g:Int->Int->Int}
  (rule:∀(i j:Int) (t u:Tok) (s:Shared) (Q:Value->Shared->Prop) (E:Value->Shared->Prop),Q (.int (g i j) s.toks) {s with toks:=s.toks+1}->wpAny (model X.prog X.w) X.A (f (.int i t) (.int j u)) Q E s) :
  fV X f (qp λi j=>.int (g i j)):=by
 intro ao s Z H x y v u Q I rx ry h;obtain⟨i,j,rfl,rfl,q⟩:=h;obtain⟨t,rfl⟩:=rx;obtain⟨t',rfl⟩:=ry;exact rule i j t t' s _ _ ⟨.int (g i j),H,I.tok _,⟨_,rfl⟩,q⟩
theorem xU{f:Value->Value->Sem Value}{g:Int->Int->Bool}
  (rule:∀(i j:Int) (t u:Tok) (s:Shared) (Q:Value->Shared->Prop) (E:Value->Shared->Prop),Q (.bool (g i j)) s->wpAny (model X.prog X.w) X.A (f (.int i t) (.int j u)) Q E s) :
  fV X f (qp λi j=>.bl (g i j)):=by
 intro ao s Z H x y v u Q I rx ry h;obtain⟨i,j,rfl,rfl,q⟩:=h;obtain⟨t,rfl⟩:=rx;obtain⟨t',rfl⟩:=ry;exact rule i j t t' s _ _ ⟨.bl (g i j),H,I,rfl,q⟩
def xV(i j:Int):Prop:=0<j/\j<1073741824
def Jh(i j:Int):Prop:=0<=j/\j<=1000000/\i.natAbs<2^64
def xW(i j:Int):Prop:=(-(2^64)<i/\i<2^64)\/(-(2^64)<j/\j<2^64)
def xW.ok{i j:Int}(h:xW i j):IntMulOk i j:=by
 rcases h with ⟨h1,h2⟩|⟨h1,h2⟩
 ·exact .of_left (intBits_le_64 h1 h2)
 ·exact .of_right (intBits_le_64 h1 h2)
def Cj:fV X (binaryOp .Add) (qp λi j=>.int (i+j)):=Jg λ_ _ _ _ _ _ _ q=>add_int q
def zmV:fV X (binaryOp .Sub) (qp λi j=>.int (i-j)):=Jg λ_ _ _ _ _ _ _ q=>sub_int q
def zlq:fV X (binaryOp .Mult) (rI xW λi j=>.int (i*j)):=Oc λ_ _ _ _ _ _ _ hc q=>mul_int q hc.ok
theorem zj3:fV X (binaryOp .FloorDiv) (rI xV λi j=>.int (i/j)):=Oc λi j _ _ _ _ _ hc q=>by
 have h1:(0:Int)<j:=hc.1;have h2:j<1073741824:=hc.2;exact floordiv_int gV (by rw[Int.fdiv_eq_ediv_of_nonneg i gV];exact q) (.inl (PyProof.noPylong_small gV))
def zmU:fV X (binaryOp .Mod) (rI (λ_ j=>0<j) λi j=>.int (i%j)):=Oc λi j _ _ _ _ _ hc q=>by
 have h1:(0:Int)<j:=hc;exact mod_int' gV (by rw[Int.fmod_eq_emod_of_nonneg i gV];exact q)
def zk0:fV X (binaryOp .Pow) (rI Jh λi j=>.int (i^j.toNat)):=Oc λ_ _ _ _ _ _ _ hc q=>pow_int_small hc.1 hc.2.1 hc.2.2 q
theorem unI{f:Value->Sem Value}{g:Int->Int}
  (rule:∀(i:Int) (t:Tok) (s:Shared) (Q:Value->Shared->Prop) (E:Value->Shared->Prop),Q (.int (g i) s.toks) {s with toks:=s.toks+1}->wpAny (model X.prog X.w) X.A (f (.int i t)) Q E s) :
  Oa X f (rU λi=>.int (g i)):=by
 intro ao s Z H x v Q I rx h;obtain⟨i,rfl,q⟩:=h;obtain⟨t,rfl⟩:=rx;exact rule i t s _ _ ⟨.int (g i),H,I.tok _,⟨_,rfl⟩,q⟩
def Y7:Oa X (unaryOp .USub) (rU λi=>.int (-i)):=unI λ_ _ _ _ _ q=>neg_int q
end
section
variable {X:Cx}{a b c:Expr}{ta tb tc:TE}{pos:Pos}
def Ji:fV X (compareOp .Lt) (qp λi j=>.bl (decide (i<j))):=xU λ_ _ _ _ _ _ _ q=>lt_int q
def znA:fV X (compareOp .LtE) (qp λi j=>.bl (decide (i<=j))):=xU λ_ _ _ _ _ _ _ q=>le_int q
def znw:fV X (compareOp .Gt) (qp λi j=>.bl (decide (j<i))):=xU λ_ _ _ _ _ _ _ q=>gt_int q
def zoi:fV X (compareOp .GtE) (qp λi j=>.bl (decide (j<=i))):=xU λ_ _ _ _ _ _ _ q=>ge_int q
theorem fV.or{f:Value->Value->Sem Value}{r r':R2}(h:fV X f r)(h':fV X f r'):fV X f (λx y H Q=>r x y H Q\/r' x y H Q):=by
 intro ao s Z H x y v u Q I rx ry q;rcases q with q|q
 ·exact h ao s Z H x y v u Q I rx ry q
 ·exact h' ao s Z H x y v u Q I rx ry q
theorem zkz{op:CmpOp}{r:R2}(ho:fV X (compareOp op) r)(ha:PE X a ta)(hb:PE X b tb)(hm:behindInMarks op b=false):PE X (.Compare a [op] [b] pos) (Ob r ta tb):=by
 intro ao s Z H Q I h;exact wpAny_Compare1 (Cg ha hb I h λv u s2 x y H2 I2 rx ry q=>ho ao s2 Z H2 x y v u Q I2 rx ry q) hm
noncomputable def Jj(t:TE):TT:=λZ H Q=>t Z H λx H'=>∃k,x=.bl k/\Q k H'
theorem zjP{op:CmpOp}{r:R2}(ho:fV X (compareOp op) r)(ha:PE X a ta)(hb:PE X b tb)(hm:behindInMarks op b=false):PT X (.Compare a [op] [b] pos) (Jj (Ob r ta tb)):=by
 intro ao s Z H Q I h;refine wpAny_isTrue_Compare1 (aX (ha ao s Z H _ I h) λv s1 hx=>fH hx λx H1 I1 r1 q1=>aX (hb ao s1 Z H1 _ I1 q1) λu s2 hx=>fH hx λy H2 I2 r2 q2=>
  aX (ho ao s2 Z H2 x y v u _ I2 r1 r2 q2) λc s3 hx=>Ri hx λz H3 I3 r3 k e q3=>?_) hm
 subst e;cases r3;exact v8 ⟨H3,I3,q3⟩
noncomputable def Cm(r r':R2)(ta tb tc:TE):TE:=λZ H Q=>ta Z H λx H1=>tb Z H1 λy H2=>r x y H2 λz H3=>∃k,z=.bl k /\
 (if k=true then tc Z H3 λw' H4=>r' y w' H4 Q else Q (.bl false) H3)
theorem zhu{op op':CmpOp}{r r':R2}(ho:fV X (compareOp op) r)(ql:fV X (compareOp op') r')(ha:PE X a ta)(hb:PE X b tb)(hc:PE X c tc)
  (hm:lastMarks [op,op'] [b,c]=false:=by with_unfolding_all rfl):PE X (.Compare a [op,op'] [b,c] pos) (Cm r r' ta tb tc):=by
 intro ao s Z H Q I h;refine Compare_chain (aX (ha ao s Z H _ I h) λv s1 hx=>fH hx λx H1 I1 r1 q1=>chain_link (aX (hb ao s1 Z H1 _ I1 q1) λu s2 hx=>fH hx λy H2 I2 r2 q2=>
  aX (ho ao s2 Z H2 x y v u _ I2 r1 r2 q2) λd s3 hx=>Ri hx λz H3 I3 r3 k e q3=>?_)) hm
 subst e;cases r3;refine v8 ?_;cases k with
 |false=>exact ite_ff ⟨.bl false,H3,I3,rfl,q3⟩
 |true=>exact ite_tt (chain_last (aX (hc ao s3 Z H3 _ I3 q3) λw' s4 hx=>fH hx λz' H4 I4 r4 q4=>ql ao s4 Z H4 y z' u w' Q I4 r2 r4 q4))
def Cp(K:W.Frag)(x:V)(H:Hp)(k:Bool):Prop:=
 match x with
 |.non=>k=false
 |.bl b=>k=b
 |.int i=>k=(i != 0)
 |.str y=>y.length<=sizeLine/\k=((y.length:Int) != 0)
 |.BL y=>y.size<=sizeLine/\k=((y.size:Int) != 0)
 |.ref p=>(∃xs,cY K H p xs/\k = !xs.isEmpty)\/(∃xs,gw K H p xs/\k = !xs.isEmpty)\/∃kvs,H p=some (.dK kvs)/\k = !kvs.isEmpty
 |_=>False
def zfv{κ:Type}{kvs:List (κ×V)}{vs:List (κ×Value)}(r:KV kvs vs):(!vs.isEmpty) = !kvs.isEmpty:=by
 cases r<;>rfl
def Y8{xs:List V}{its:List Value}(r:Vals xs its):(!its.toArray.isEmpty) = !xs.isEmpty:=by
 cases r<;>simp
def jm:(sizeLine:Nat)<2^63:=by rw[wg];decide
theorem zmq:RV X (λx H Q=>∃k,Cp X.K x H k/\Q k H):=by
 intro ao s Z H x v Q I rx h;obtain⟨k,e,q⟩:=h;have hl:=jm;have hs:sizeLine=16777216:=wg;cases x with
 |non=>
  cases rx;have e':k=false:=e;subst e';exact truthy_none ⟨H,I,q⟩
 |bl b=>
  cases rx;have e':k=b:=e;subst e';exact v8 ⟨H,I,q⟩
 |int i=>
  obtain⟨t,rfl⟩:=rx;have e':k=(i != 0):=e;subst e';exact PySem.P.truthy_int ⟨H,I,q⟩
 |str y=>
  obtain⟨t,rfl⟩:=rx;obtain⟨hy,e'⟩ : y.length<=sizeLine/\k=((y.length:Int) != 0):=e;subst e';exact PySem.P.truthy_str gV ⟨H,I.tok _,q⟩
 |BL y=>
  obtain⟨t,rfl⟩:=rx;obtain⟨hy,e'⟩ : y.size<=sizeLine/\k=((y.size:Int) != 0):=e;subst e';exact PySem.W.truthy_bytes gV ⟨H,I.tok _,q⟩
 |ref p=>
  cases rx;have e':(∃xs,cY X.K H p xs/\k = !xs.isEmpty)\/(∃xs,gw X.K H p xs/\k = !xs.isEmpty)\/∃kvs,H p=some (.dK kvs)/\k = !kvs.isEmpty:=e;rcases e' with ⟨xs,hx,e'⟩|⟨xs,hx,e'⟩|⟨kvs,hx,e'⟩
  ·subst e';obtain⟨its,r,pl,hz⟩:=I.list hx;have hlen:=r.length;exact wpAny_truthy_list pl.isList (by simp only[eY];lia) ⟨H,I.tok _,by rw[Y8 r];exact q⟩
  ·subst e';obtain⟨its,r,pl,hz⟩:=I.tuple hx;have hlen:=r.length;exact truthy_tuple pl (by simp only[eY];lia) ⟨H,I.tok _,by rw[Y8 r];exact q⟩
  ·subst e';obtain⟨hz,hS,vs,r,m⟩ : kvs.length<=sizeLine/\(p==sysModules)=false/\∃vs,KV kvs vs/\s.heap.DictOf (mZ X.prog X.w) p vs:=I.hok p _ hx;have hlen:kvs.length=vs.length:=Paired.length r;exact wpAny_truthy_dict hS m gV ⟨H,I.tok _,by rw[zfv r];exact q⟩
 |_=>exact(show False from e).elim
theorem zfB:fV X (binaryOp .Add) (λx y H Q=>∃i j,x=.str i/\y=.str j/\i.length+j.length<=sizeLine/\Q (.str (i++j)) H):=by
 intro ao s Z H x y v u Q I rx ry h;obtain⟨i,j,rfl,rfl,hz,q⟩:=h;obtain⟨t,rfl⟩:=rx;obtain⟨t',rfl⟩:=ry;exact add_str (λt' tk=>⟨.str (i++j),H,I.tok _,⟨_,rfl⟩,q⟩) hz
def vals1{x:V}{us:List Value}(r:Vals [x] us):∃u,us=[u]/\RelV x u:=by
 cases r with
 |cons r1 r2=>cases r2;exact⟨_,rfl,r1⟩
def vals2{x y:V}{us:List Value}(r:Vals [x,y] us):∃u w',us=[u,w']/\RelV x u/\RelV y w':=by
 cases r with
 |cons r1 r2=>
  cases r2 with
  |cons r3 r4=>cases r4;exact⟨_,_,rfl,r1,r3⟩
theorem zh3:cW X (.builtin "abs") (λxs H Q=>∃i,xs=[.int i]/\Q (.int (if i<0 then -i else i)) H):=by
 intro ao s Z H xs us Q I r h;obtain⟨i,rfl,q⟩:=h;obtain⟨u,rfl,t,rfl⟩:=vals1 r;exact call_abs_int λu tk=>⟨.int (if i<0 then -i else i),H,I.tok _,⟨_,rfl⟩,q⟩
theorem zg5(hc:X.aj=true):cW X (.builtin "max") (λxs H Q=>∃i j,xs=[.int i,.int j]/\Q (.int (if j>i then j else i)) H):=by
 intro ao s Z H xs us Q I r h;obtain⟨i,j,rfl,q⟩:=h;obtain⟨u,w',rfl,⟨t,rfl⟩,⟨t',rfl⟩⟩:=vals2 r;refine max_two_ints (I.ok.hd hc) λh' tk k=>⟨_,H,I.kept k,?_,q⟩;by_cases hj:j>i
 ·rw[if_pos hj,if_pos hj];exact⟨_,rfl⟩
 ·rw[if_neg hj,if_neg hj];exact⟨_,rfl⟩
theorem zfJ(hc:X.aj=true):cW X (.builtin "min") (λxs H Q=>∃i j,xs=[.int i,.int j]/\Q (.int (if j<i then j else i)) H):=by
 intro ao s Z H xs us Q I r h;obtain⟨i,j,rfl,q⟩:=h;obtain⟨u,w',rfl,⟨t,rfl⟩,⟨t',rfl⟩⟩:=vals2 r;refine min_two_ints (I.ok.hd hc) λh' tk k=>⟨_,H,I.kept k,?_,q⟩;by_cases hj:j<i
 ·rw[if_pos hj,if_pos hj];exact⟨_,rfl⟩
 ·rw[if_neg hj,if_neg hj];exact⟨_,rfl⟩
theorem zg1:cW X (.type "int") (λxs H Q=>(∃i,xs=[.int i]/\Q (.int i) H)\/∃k,xs=[.bl k]/\Q (.int (if k then 1 else 0)) H):=by
 intro ao s Z H xs us Q I r h;rcases h with ⟨i,rfl,q⟩|⟨k,rfl,q⟩
 ·obtain⟨u,rfl,t,rfl⟩:=vals1 r;exact call_int_int ⟨.int i,H,I,⟨_,rfl⟩,q⟩
 ·obtain⟨u,rfl,r1⟩:=vals1 r;cases r1;exact call_int_bool ⟨.int (if k then 1 else 0),H,I.tok _,⟨_,rfl⟩,q⟩
theorem zeb:cW X (.builtin "divmod") (λxs H Q=>∃i j,xs=[.int i,.int j]/\xV i j/\∀p,H p=none->Q (.ref p) (upd H p (.tup [.int (i/j),.int (i%j)]))):=by
 intro ao s Z H xs us Q I r h;obtain⟨i,j,rfl,⟨h1,h2⟩,q⟩:=h;obtain⟨u,w',rfl,⟨t,rfl⟩,⟨t',rfl⟩⟩:=vals2 r;refine divmod_int gV ?_ (.inl (PyProof.noPylong_small gV));rw[Int.fdiv_eq_ediv_of_nonneg i gV,Int.fmod_eq_emod_of_nonneg i gV];have hn:H s.heap.objs.size=none:=I.hok.fresh (cj _);refine⟨.ref s.heap.objs.size,_,?_,rfl,q _ hn⟩;refine I.laid (λb o e=>cD _ e) (cj _) ⟨by simp only[iu,FW];rw[wg];decide,[.int (i/j) s.toks,.int (i%j) (s.toks+1)],.cons ⟨_,rfl⟩ (.cons ⟨_,rfl⟩ .nil),?_⟩;exact⟨_,dX s.heap rfl,rfl,0,rfl⟩
end
structure qu(h:Heap)(x dx C:Addr)(mA:Str->Option Value):Prop where
 obj:h.get? x=some (PySem.W.instObj C dx)
 ns:h.Ns1 dx mA
 ne:dx≠x
theorem zgV{h:Heap}{dx:Addr}{mA:Str->Option Value}(n:h.Ns1 dx mA):∃od,h.get? dx=some od/\∀name,PySem.W.lookIn name od=some (mA name):=by
 obtain⟨o,es,ep,ho,hd,hk,_,hm⟩:=n;refine⟨o,ho,λname=>?_⟩;have e:=hm name;unfold nsFind findBy at e;rw[<-Array.find?_toList] at e;unfold PySem.W.lookIn;rw[hd];dsimp only
 split
 ·rename_i y q;rw[q] at e;exact lE some e
 ·rename_i q;rw[q] at e;have a:es.toList.any (·.refKey)=false:=by
   rw[List.any_eq_false];intro y hy;obtain⟨z,t,RW⟩:=hk y (Array.mem_toList_iff.mp hy);simp[DictEntry.refKey,RW]
  have a':¬es.toList.any (·.refKey)=true:=by rw[a];exact HB
  rw[if_neg a'];exact lE some e
theorem qu.look{h:Heap}{x dx C:Addr}{mA:Str->Option Value}(I:qu h x dx C mA):∃od,PySem.W.InstAt h x (PySem.W.instObj C dx) C (some od)/\∀name,PySem.W.lookIn name od=some (mA name):=
 let ⟨od,ho,hl⟩:=zgV I.ns
 ⟨od,⟨I.obj,rfl,rfl,ho⟩,hl⟩
section
variable {prog:Program}{w:World}{A:Around}{E:Value->Shared->Prop}{s:Shared}{K:W.Frag}{x dx C f:Addr}{mA:Str->Option Value}{name:Str}{v:Value}
theorem zkt{expr:Bool}{Q:Value->Shared->Prop}(X:K.In s.heap)(I:qu s.heap x dx C mA)(hg:PySem.W.plainGet K C name=true)(hh:PySem.W.hasDictIn K C=true)
  (ha:PySem.W.findIn K (.ref C) name=some none) (hv:mA name=some v) (RX:PySem.W.handedIn v=true) (h:Q v {s with toks:=s.toks+1}) :
  wpAny (model prog w) A (getAttr (.ref x) name expr) Q E s:=by
 obtain⟨od,bf,hl⟩:=I.look;exact PySem.W.get_value X bf (Q9 hg).1 (PySem.W.findObj_own hh ha rfl (by rw[hl,hv])) RX h
theorem ziy{pl:Sem Bool}{Q:Value×List Value->Shared->Prop}(X:K.In s.heap)(I:qu s.heap x dx C mA)(hg:PySem.W.plainGet K C name=true)
  (hf:PySem.W.findIn K (.ref C) name=some (some (.ref f))) (ht:PySem.W.isFn K (.ref f)=true) (hv:mA name=none) (h:Q (.ref f,[.ref x]) s) :
  wpAny (model prog w) A (getMethod (.ref x) name pl) Q E s:=by
 obtain⟨od,bf,hl⟩:=I.look;exact PySem.W.method_fn X bf (Q9 hg).1 (Q9 hg).2 hf (oA.mp ht) (by show (PySem.W.lookIn name od).map (·.isSome)=some false;rw[hl,hv];rfl) h
theorem zkg{ns:List Str}{Q:Unit->Shared->Prop}(X:K.In s.heap)(I:qu s.heap x dx C mA)
  (hs:PySem.W.findIn K (.ref C) "__setattr__"=some (some (.builtin "object.__setattr__"))) (hp:PySem.W.plainOver K C=true) (ht:PySem.W.takerIn K C name=some none) (hh:PySem.W.hasDictIn K C=true)
  (hw:PySem.Within mA ns) (hsz:ns.length<=sizeLine)
  (h:∀h',qu h' x dx C (λy=>if y=name then some v else mA y)->Heap.SameBut dx s.heap h'->Q () {s with heap:=h',toks:=s.toks+2}) :
  wpAny (model prog w) A (setAttr (.ref x) name v) Q E s:=by
 obtain⟨od,bf,hl⟩:=I.look;refine PySem.W.set_plain X bf hs (PySem.W.osa_open (s:={s with toks:=s.toks+1}) (r:=none) X bf hp ht λb=>?_);obtain⟨cd,hc,xQ⟩:=PySem.W.any_some hh;have hx:s.heap.get? x=some ⟨.ref C,some dx,.plain,#[]⟩:=I.obj;refine aB (aN (aB (aB (wpAny_loadPart hx (aB (PySem.W.Looks.here (s:={s with toks:=s.toks+1}) (PySem.W.looks_clsIn X hc) ?_))))));rw[xQ];refine aN (a:=some dx) (aB (aN (aB ?_)));refine wpAny_nsSet1 (s:={s with toks:=s.toks+1}) I.ns λh' Od zP=>?_;obtain⟨oD,esD,epD,hoD,hdD,hcD⟩:=Od.count (PySem.Within.cons name v hw);refine aB (wpAny_lookBehind hoD (by rw[hdD];exact pastItsLine_dict (jZ hcD (by rw[iu];lia))) ?_);exact aN (h _ ⟨(zP.2 _ (Ne.symm I.ne)).trans I.obj,Od,I.ne⟩ zP)
theorem zis{R:Result->Shared->Prop}{vs:List Value}{kw:List (Str×Value)}(X:K.In s.heap)(hm:PySem.W.makesIn K C=true)
  (hi:PySem.W.findIn K (.ref C) "__init__"=some (some (.ref f))) (hf:PySem.W.typeIn K (.ref f)=some (.type "function"))
  (h:codeAny (model prog w) (A.under (.builtin "type.__call__" ⟨.ref C::vs,kw⟩)) (.call (.ref f) ⟨.ref (s.heap.objs.size+1)::vs,kw⟩) (PySem.W.InitBack (s.heap.objs.size+1) R)
   {s with heap:=(s.heap.push PySem.W.emptyDict).push (PySem.W.instObj C s.heap.objs.size)}) :
  codeAny (model prog w) A (.call (.ref C) ⟨vs,kw⟩) R s:=by
 obtain⟨hh,g,d,t,os⟩:=s;exact PySem.W.make_core (PySem.W.makes_of X hm) (PySem.W.looks_findIn X hi) (λself=>PySem.W.bind_fn X self hf) (.inl rfl) h
end
noncomputable def fW(f:Str)(v:V):List (Str×V)->List (Str×V)
 |[]=>[(f,v)]
 |(g,x)::r=>if g=f then (g,v)::r else (g,x)::fW f v r
theorem Y9(f g:Str)(v:V):∀fs:List (Str×V),(fW f v fs).lookup g=if g=f then some v else fs.lookup g
 |[]=>by
  show List.lookup g [(f,v)]=_;by_cases h:g=f
  ·have hb:(g==f)=true:=oA.mpr h;simp only[List.lookup,hb,if_pos h]
  ·have hb:(g==f)=false:=Fp.mpr h;simp only[List.lookup,hb,if_neg h]
 |(k,x)::r=>by
  have ih:=Y9 f g v r;rw[show fW f v ((k,x)::r)=(if k=f then (k,v)::r else (k,x)::fW f v r) from rfl];by_cases hk:k=f
  ·rw[if_pos hk];by_cases h:g=k
   ·have hb:(g==k)=true:=oA.mpr h;simp only[List.lookup,hb,if_pos (h.trans hk)]
   ·have hb:(g==k)=false:=Fp.mpr h;simp only[List.lookup,hb,if_neg (λe:g=f=>h (e.trans hk.symm))]
  ·rw[if_neg hk];by_cases h:g=k
   ·have hb:(g==k)=true:=oA.mpr h;simp only[List.lookup,hb,if_neg (λe:g=f=>hk (h.symm.trans e))]
   ·have hb:(g==k)=false:=Fp.mpr h;simp only[List.lookup,hb];exact ih
theorem RZ(f:Str)(v:V):∀fs:List (Str×V),f∈(fW f v fs).map (·.1)/\∀g,g∈fs.map (·.1)->g∈(fW f v fs).map (·.1)
 |[]=>⟨by simp[fW],λg h=>by simp at h⟩
 |(k,x)::r=>by
  obtain⟨i1,i2⟩:=RZ f v r;rw[show fW f v ((k,x)::r)=(if k=f then (k,v)::r else (k,x)::fW f v r) from rfl];by_cases hk:k=f
  ·rw[if_pos hk];subst hk;exact⟨by simp,λg h=>by simpa using h⟩
  ·rw[if_neg hk];refine⟨?_,λg h=>?_⟩
   ·rw[jx];exact iJ _ i1
   ·rw[jx] at h ⊢;rcases iM.mp h with e|e
    ·exact iM.mpr (.inl e)
    ·exact iJ _ (i2 g e)
theorem Y_(f:Str)(v:V):∀fs:List (Str×V),(fW f v fs).length<=fs.length+1
 |[]=>by simp[fW]
 |(k,x)::r=>by
  have ih:=Y_ f v r;rw[show fW f v ((k,x)::r)=(if k=f then (k,v)::r else (k,x)::fW f v r) from rfl];by_cases hk:k=f
  ·rw[if_pos hk,iu,iu];lia
  ·rw[if_neg hk,iu,iu];lia
def Kaf{v:V}{o:Option Value}(r:sX (some v) o):∃u,o=some u/\RelV v u:=by
 cases o with
 |none=>exact(show False from r).elim
 |some u=>exact⟨u,rfl,r⟩
def Kae{o:Option Value}(r:sX none o):o=none:=by
 cases o with
 |none=>rfl
 |some u=>exact(show False from r).elim
theorem zg2{v:V}{u:Value}(r:RelV v u):PySem.W.handedIn u=true:=by
 cases v with
 |non=>cases (show u=Value.none from r);rfl
 |bl b=>cases (show u=Value.bool b from r);rfl
 |int i=>obtain⟨t,e⟩:=(show ∃t,u=Value.int i t from r);cases e;rfl
 |str x=>obtain⟨t,e⟩:=(show ∃t,u=Value.str x t from r);cases e;rfl
 |BL b=>obtain⟨t,e⟩:=(show ∃t,u=Value.bytes b t from r);cases e;rfl
 |flt b=>obtain⟨t,e⟩:=(show ∃t,u=Value.float b t from r);cases e;rfl
 |ref a=>cases (show u=Value.ref a from r);rfl
 |ty n=>cases (show u=Value.type n from r);rfl
section
variable {P:Program}{w:World}{H H':Hp}{h h':Heap}{a C dx:Addr}{fs fs':List (Str×V)}
theorem R0(hok:i_ P w H h)(e:H a=some (.ins C dx fs)):∃mA,qu h a dx C mA/\(∀f,sX (fs.lookup f) (mA f))/\PySem.Within mA (fs.map (·.1))/\fs.length<=1000/\H dx=some (.own a):=by
 obtain⟨d,z,ne,ob,mA,n,r,q⟩:=(show bL P w H h a (.ins C dx fs) from hok a _ e);exact⟨mA,⟨ob,n,ne⟩,r,q,z,d⟩
end
structure Cls(K:W.Frag)(C:Addr):Prop where
 pg:PySem.W.plainGet K C Str.empty=true
 hd:PySem.W.hasDictIn K C=true
 po:PySem.W.plainOver K C=true
 sa:PySem.W.findIn K (.ref C) "__setattr__"=some (some (.builtin "object.__setattr__"))
def Cls.get{K:W.Frag}{C:Addr}(c:Cls K C)(f:Str):PySem.W.plainGet K C f=true:=c.pg
def iw(K:W.Frag)(C:Addr)(f:Str):Prop:=PySem.W.findIn K (.ref C) f=some none
def iw.taker{K:W.Frag}{C:Addr}{f:Str}(n:iw K C f):PySem.W.takerIn K C f=some none:=by
 unfold PySem.W.takerIn;rw[show PySem.W.findIn K (.ref C) f=some none from n];rfl
structure Meth(K:W.Frag)(C:Addr)(m:Str)(f:Addr):Prop where
 at_:PySem.W.findIn K (.ref C) m=some (some (.ref f))
 fn:PySem.W.isFn K (.ref f)=true
 kp:PySem.W.keepIn K (.ref f)=true
section
variable {X:Cx}{ao:List (Addr×Obj)}{Z:St}{H:Hp}{s:Shared}{a C dx:Addr}{fs:List (Str×V)}{f:Str}{v:V}{A:Around}{E:Value->Shared->Prop}
theorem zfy{b:Bool}{Q:Value->Shared->Prop}(I:Inv X ao Z H s)(e:H a=some (.ins C dx fs))(c:Cls X.K C)(n:iw X.K C f)(l:fs.lookup f=some v)
  (h:∀u s',Inv X ao Z H s'->RelV v u->Q u s'):wpAny (model X.prog X.w) A (getAttr (.ref a) f b) Q E s:=by
 obtain⟨mA,O,r,_,_,_⟩:=R0 I.hok e;obtain⟨u,hu,ru⟩:=Kaf (v:=v) (o:=mA f) (by rw[<-l];exact r f);exact zkt I.mF O (c.get f) c.hd n hu (zg2 ru) (h u _ (I.tok _) ru)
theorem zfa{m:Str}{g:Addr}{pl:Sem Bool}{Q:Value×List Value->Shared->Prop}(I:Inv X ao Z H s)(e:H a=some (.ins C dx fs))(c:Cls X.K C)(k:Meth X.K C m g)(l:fs.lookup m=none)
  (h:Q (.ref g,[.ref a]) s):wpAny (model X.prog X.w) A (getMethod (.ref a) m pl) Q E s:=by
 obtain⟨mA,O,r,_,_,_⟩:=R0 I.hok e;have hn:mA m=none:=Kae (by rw[<-l];exact r m);exact ziy I.mF O (c.get m) k.at_ k.fn hn h
theorem zfg{y:V}{u:Value}{Q:Unit->Shared->Prop}(I:Inv X ao Z H s)(e:H a=some (.ins C dx fs))(c:Cls X.K C)(n:iw X.K C f)(hl:fs.length<1000)(ry:RelV y u)
  (h:∀s',Inv X ao Z (upd H a (.ins C dx (fW f y fs))) s'->Q () s'):wpAny (model X.prog X.w) A (setAttr (.ref a) f u) Q E s:=by
 obtain⟨mA,O,r,wi,_,ho⟩:=R0 I.hok e;have hz:(fs.map (·.1)).length<=sizeLine:=by rw[cZ,wg];lia
 refine zkg I.mF O c.sa c.po n.taker c.hd wi hz λh' O' sb=>h _ ?_;have hd:∃o,h'.get? dx=some o:=let ⟨o,_,_,e',_⟩:=O'.ns;⟨o,e'⟩;refine I.write (x:=a) (e:=dx) (by rw[e];exact True.intro) (.inr ho) (λb q hb z=>(sb.2 b hb).trans z) hd ?_;refine⟨by rw[bW O.ne];exact ho,?_,O.ne,O'.obj,_,O'.ns,λg=>?_,λg hg=>?_⟩
 ·have:=Y_ f y fs;lia
 ·show sX ((fW f y fs).lookup g) (if g=f then some u else mA g);rw[Y9];by_cases q:g=f
  ·rw[if_pos q,if_pos q];exact ry
  ·rw[if_neg q,if_neg q];exact r g
 ·by_cases q:g=f
  ·rw[q];exact(RZ f y fs).1
  ·refine(RZ f y fs).2 g (wi g λz=>hg ?_);show (if g=f then some u else mA g)=none;rw[if_neg q];exact z
theorem Inv.made(I:Inv X ao Z H s):Inv X ao Z (upd (upd H s.heap.objs.size (.own (s.heap.objs.size+1))) (s.heap.objs.size+1) (.ins C s.heap.objs.size []))
  {s with heap:=(s.heap.push PySem.W.emptyDict).push (PySem.W.instObj C s.heap.objs.size)}:=by
 have e1:(s.heap.push PySem.W.emptyDict).get? s.heap.objs.size=some PySem.W.emptyDict:=dX s.heap rfl;have e2:((s.heap.push PySem.W.emptyDict).push (PySem.W.instObj C s.heap.objs.size)).get? (s.heap.objs.size+1)=some (PySem.W.instObj C s.heap.objs.size):=by
  have:=dX (s.heap.push PySem.W.emptyDict) (o:=PySem.W.instObj C s.heap.objs.size) rfl
  rwa [uf] at this
 have e3:(s.heap.push PySem.W.emptyDict).Ns s.heap.objs.size (λ_=>none):=⟨PySem.W.emptyDict,#[],_,e1,rfl,(λe he=>absurd he Zaa),λ_=>rfl⟩;have I1:=I.laid (a:=s.heap.objs.size) (o:=.own (s.heap.objs.size+1)) (h':=s.heap.push PySem.W.emptyDict) (t':=s.toks) (λb u q=>cD _ q) (cj _) ⟨_,e1⟩;refine I1.laid (a:=s.heap.objs.size+1) (o:=.ins C s.heap.objs.size []) (t':=s.toks) (λb u q=>cD _ q) (Nat.le_of_eq (uf _ _)) ?_;have ne:s.heap.objs.size≠s.heap.objs.size+1:=cV (Bl _);refine⟨by rw[bW ne,iQ],sV _,ne,e2,λ_=>none,(Heap.Ns1.of_empty e3).at λo q=>cD _ q,λ_=>True.intro,λy hy=>absurd rfl hy⟩
theorem zkW{prog:Program}{w:World}{env:Env}{e:Expr}{f:Str}{pos:Pos}{s:Shared}{Q:Value->Shared->Prop}(hb:attributeBase e f env (eval e env)=eval e env)
  (h:wpAny (model prog w) A (eval e env) (λo s₁=>wpAny (model prog w) A (getAttr o f true) Q E s₁) E s):wpAny (model prog w) A (eval (.Attribute e f pos) env) Q E s:=
 Attribute_any_ h (by rw[arm_eval_Attribute,hb])
end
def R3(K:W.Frag)(ta:TE)(f:Str):TE:=λZ H Q=>ta Z H λx H1=>∃a C dx fs v,x=.ref a/\H1 a=some (.ins C dx fs)/\Cls K C/\iw K C f/\fs.lookup f=some v/\Q v H1
def R4(K:W.Frag)(ta tv:TE)(f:Str):TS:=λD Z H=>tv Z H λy H1=>ta Z H1 λx H2=>∃a C dx fs,x=.ref a/\H2 a=some (.ins C dx fs)/\Cls K C/\iw K C f/\fs.length<1000 /\
 D.nx Z (upd H2 a (.ins C dx (fW f y fs)))
section
variable {X:Cx}{o e value:Expr}{f:Str}{pos pos' tpos:Pos}{ta tv:TE}
theorem zlm(he:PE X e ta)(hb:attributeBase e f X.env (eval e X.env)=eval e X.env):PE X (.Attribute e f pos) (R3 X.K ta f):=by
 intro ao s Z H Q I h;refine zkW hb (aX (he ao s Z H _ I h) λu s1 ⟨x,H1,I1,rx,a,C,dx,fs,v,ex,ea,c,n,l,q⟩=>?_);subst ex;obtain rfl:u=Value.ref a:=rx;exact zfy I1 ea c n l λu' s2 I2 ru=>⟨v,H1,I2,ru,q⟩
theorem zmD(ha:PE X o ta)(hv:PE X value tv)(hs:swapsWith value (some (.Attribute o f pos')) pos.line X.env=pure false):PS X (.Assign [.Attribute o f pos'] value pos) (R4 X.K ta tv f):=by
 intro ao s Z H D I h;refine plainObj_wpAny_Assign_Attribute (aX (hv ao s Z H _ I h) λu s1 hx=>fH hx λy H1 I1 ry q=>aX (ha ao s1 Z H1 _ I1 q) λov s2 ⟨x,H2,I2,rx,a,C,dx,fs,ex,ea,c,n,l,q2⟩=>?_) hs;subst ex;obtain rfl:ov=Value.ref a:=rx;exact zfg I2 ea c n l ry λs3 I3=>⟨Z,_,I3,q2⟩
end
structure bG(k:Nat)(A:Around):Prop where
 dp:A.depth+3*k+5<recursionLimit
 un:A.units+16*k+200<cLine
 gd:A.guards=some []
def bG.deeper{k:Nat}{A:Around}(r:bG (k+1) A)(env:Env):bG k (A.deeper env):=
 ⟨by have:=r.dp;show A.depth+1+3*k+5<_;lia,by have:=r.un;show A.units+3+16*k+200<_;lia,r.gd⟩
theorem zfz{A:Around}{C:Addr}{us:List Value}{kw:List (Str×Value)}:(A.under (.builtin "type.__call__" ⟨.ref C::us,kw⟩)).depth=A.depth+1:=by
 first|rfl|simp[Around.under,Code.weight,Code.isCreation,Code.isGuard,Code.isCaller,Code.frames,Code.isFrame,guardIds]
def zfr{A:Around}{C:Addr}{us:List Value}{kw:List (Str×Value)}:(A.under (.builtin "type.__call__" ⟨.ref C::us,kw⟩)).units=A.units+1:=by
 first|rfl|simp[Around.under,Code.cUnits,Code.frames,Code.isFrame]
def bG.depth{k:Nat}{A:Around}(r:bG k A):A.depth<recursionLimit:=by have:=r.dp;lia
noncomputable def Jk:TA:=λ_ H Q=>Q [] H
def zR(ta:TE)(tr:TA):TA:=λZ H Q=>ta Z H λx H1=>tr Z H1 λxs H2=>Q (x::xs) H2
section
variable {X:Cx}{e:Expr}{es:List Expr}{te:TE}{t:TA}{pos:Pos}
def xX:PA X [] Jk:=λ_ _ _ _ H Q I h=>Calls.spliced_nil ⟨[],H,I,.nil,h⟩
theorem sY(ha:PE X e te)(hr:PA X es t)(hs:starEach (e::es) X.env=(false,eval e X.env)::starEach es X.env:=by rfl):PA X (e::es) (zR te t):=by
 intro pos ao s Z H Q I h;rw[hs];show wpAny _ _ (spliced ((false,eval e X.env)::backTo pos (starEach es X.env))) _ _ s;refine Calls.spliced_cons (aX (ha ao s Z H _ I h) λu s1 hx=>fH hx λx H1 I1 r1 q1=>?_);exact aX (hr pos ao s1 Z H1 _ I1 q1) λus s2 hx=>fH hx λxs H2 I2 r2 q2=>⟨x::xs,H2,I2,.cons r1 r2,q2⟩
def R5(t:TA):TE:=λZ H Q=>t Z H λxs H1=>xs.length<=sizeLine/\∀p,H1 p=none->Q (.ref p) (upd H1 p (.tup xs))
def R6(t:TA):TE:=λZ H Q=>t Z H λxs H1=>xs.length<=sizeLine/\∀p,H1 p=none->Q (.ref p) (upd H1 p (.lst xs))
theorem zl7{x1}(h:PA X es t):PE X (.Tuple es x1 pos) (R5 t):=by
 intro ao s Z H Q I hq;refine wpAny_Tuple_spliced (aX (h pos ao s Z H _ I hq) λus s1 ⟨xs,H1,I1,r,z,q⟩=>⟨by rw[<-r.length];exact z,?_⟩);have hf:H1 s1.heap.objs.size=none:=I1.hok.fresh (cj _);refine⟨.ref s1.heap.objs.size,upd H1 s1.heap.objs.size (.tup xs),I1.laid (t':=s1.toks) (λb u e=>cD _ e) (cj _) ?_,rfl,q _ hf⟩;exact⟨z,us,r,⟨_,dX _ rfl,rfl,_,rfl⟩⟩
theorem znf(h:PA X es t):PE X (.List es pos) (R6 t):=by
 intro ao s Z H Q I hq;refine wpAny_List_spliced (aX (h pos ao s Z H _ I hq) λus s1 ⟨xs,H1,I1,r,z,q⟩=>⟨by rw[<-r.length];exact z,?_⟩);have hf:H1 s1.heap.objs.size=none:=I1.hok.fresh (cj _);refine⟨.ref s1.heap.objs.size,upd H1 s1.heap.objs.size (.lst xs),I1.laid (t':=s1.toks) (λb u e=>cD _ e) (cj _) ?_,rfl,q _ hf⟩;exact⟨z,us,0,r,dX _ rfl⟩
end
abbrev Sp:=List V->Hp->VK->XK->Prop
abbrev sZ:=List Env->Hp->Shared->XK->Value->Shared->Prop
structure qw(P:Program)(w:World)(K:W.Frag)(mg:Str->Option Value)(base:Heap)(A:Around)(outer:List Env)(s:Shared)(H:Hp):Prop where
 frames:A.frames=some outer
 mod:Mod K mg base
 bs:∀b o,base.get? b=some o->s.heap.get? b=some o/\H b=none
 xM:base.objs.size<=s.heap.objs.size
 jJ:s.heap.FunFrames base outer
 zN:(∀b∈frs outer,H b=none)/\BR K H
 hok:i_ P w H s.heap
 bare:AllBare s.gens
def CE(outer:List Env)(P:Program)(w:World)(H:Hp)(s:Shared)(Q:VK)(u:Value)(s':Shared):Prop:=
 ∃v H',s'.os=s.os/\AllBare s'.gens/\Un (frs outer) [] H H' s.heap s'.heap/\i_ P w H' s'.heap/\RelV v u/\Q v H'
def CR(CX:sZ)(outer:List Env)(P:Program)(w:World)(H:Hp)(s:Shared)(Q:VK)(E:XK)(r:Result)(s':Shared):Prop:=
 match r with
 |.ok (.ret u)=>CE outer P w H s Q u s'
 |.ok _=>False
 |.error e=>CX outer H s E e s'
structure cG(P:Program)(w:World)(K:W.Frag)(mg:Str->Option Value)(base:Heap)(CX:sZ)(cm:Bool)(k:Nat)(f:Addr)(fd:FuncData)(ps:List Str)(sp:Sp):Prop where
 len:∀vs H Q E,sp vs H Q E->vs.length=ps.length
 run:∀(A:Around) (outer:List Env) (s:Shared) (H:Hp) (args:Args) (us:List Value) (vs:List V) (Q:VK) (E:XK),(cm=true->A.handled=none)->bG k A->qw P w K mg base A outer s H->BindsTo s fd args (ps.zip us)->Vals vs us->sp vs H Q E->
  codeAny (model P w) A (.call (.ref f) args) (CR CX outer P w H s Q E) s
theorem cG.imp{P:Program}{w:World}{K:W.Frag}{mg:Str->Option Value}{base:Heap}{CX:sZ}{cm:Bool}{k:Nat}{f:Addr}{fd:FuncData}{ps:List Str}{sp Za:Sp}(F:cG P w K mg base CX cm k f fd ps sp)
  (h:∀vs H Q E,Za vs H Q E->sp vs H Q E):cG P w K mg base CX cm k f fd ps Za:=
 ⟨λvs H Q E q=>F.len vs H Q E (h _ _ _ _ q),λA outer s H args us vs Q E jo hr he hb hv hs=>F.run A outer s H args us vs Q E jo hr he hb hv (h _ _ _ _ hs)⟩
theorem qw.make{P:Program}{w:World}{K:W.Frag}{mg:Str->Option Value}{base:Heap}{A:Around}{outer:List Env}{s:Shared}{H:Hp}(e:qw P w K mg base A outer s H)(C:Addr)(us:List Value)(kw:List (Str×Value)) :
  qw P w K mg base (A.under (.builtin "type.__call__" ⟨.ref C::us,kw⟩)) outer s H:=⟨by first|exact e.frames|(simpa [Around.under,Code.envs,Code.isFrame,pushEnvs] using e.frames),e.mod,e.bs,e.xM,e.jJ,e.zN,e.hok,e.bare⟩
section
variable {X:Cx}{ao:List (Addr×Obj)}{Z:St}{H:Hp}{s s':Shared}
def Inv.env0(I:Inv X ao Z H s):qw X.prog X.w X.K X.mg X.base X.A X.stack s H:=
 ⟨I.ok.frames,I.ok.mod,I.bs,jZ I.ok.xM I.sz,I.stack,⟨I.m6,I.BW⟩,I.hok,I.bare⟩
theorem Inv.after{Q:VK}{u:Value}(I:Inv X ao Z H s)(h:CE X.stack X.prog X.w H s Q u s'):EP X ao Z Q u s':=by
 obtain⟨v,H',os,bare,un,hok,r,q⟩:=h;obtain⟨hh,g,d,t,os'⟩:=s';obtain rfl:os'=s.os:=os;exact⟨v,H',I.call (h':=hh) (g':=g) (d':=d) (t':=t) (ch:=[]) un hok bare (λb z=>absurd z Zaa),r,q⟩
end
def Jl(C:Addr)(m:Str)(sp:Sp)(oO:List V)(E:XK)(ta:TE)(t:TA):TE:=λZ H Q=>ta Z H λx H1=>∃a dx fs,x=.ref a/\H1 a=some (.ins C dx fs)/\fs.lookup m=none /\
 t Z H1 λvs H2=>sp (x::(vs++oO)) H2 Q E
def Jm(C:Addr)(sp:Sp)(oO:List V)(E:XK)(t:TA):TE:=λZ H Q=>t Z H λvs H1=>∀x dx,H1 x=none->H1 dx=none->dx≠x->
 sp (.ref x::(vs++oO)) (upd (upd H1 dx (.own x)) x (.ins C dx [])) (λv H2=>v=.non/\Q (.ref x) H2) E
def Binds(K:W.Frag)(fd:FuncData)(ps:List Str)(ds:List Value):Prop:=
 ∀(s:Shared) (us:List Value),K.In s.heap->(us++ds).length=ps.length->BindsTo s fd ⟨us,[]⟩ (ps.zip (us++ds))
def Binds.all{K:W.Frag}{fd:FuncData}{ps:List Str}(h:∀us:List Value,us.length=ps.length->bindArgs fd ⟨us,[]⟩=pure (ps.zip us)):Binds K fd ps []:=λs us _ hl=>by
 rw[zB] at hl ⊢;exact .of_eq (h us hl)
def Passes(CX:sZ)(X:Cx)(E:XK):Prop:=∀(ao:List (Addr×Obj)) (Z:St) (H:Hp) (s:Shared) (e:Value) (s':Shared),Inv X ao Z H s->CX X.stack H s E e s'->X.xe e s'
section
variable {X:Cx}{CX:sZ}{cm:Bool}{k:Nat}{f C:Addr}{fd:FuncData}{ps:List Str}{sp:Sp}{oO:List V}{ds:List Value}{E:XK}{x m:Str}{p pos apos:Pos}{e o:Expr}{es:List Expr}{ta:TE}{t:TA}
theorem zk4{ao:List (Addr×Obj)}{Z:St}{H:Hp}{s:Shared}{Q:VK}{us:List Value}{vs:List V}(F:cG X.prog X.w X.K X.mg X.base CX cm k f fd ps sp)(jo:cm=true->X.aj=true)(hr:bG k X.A)(hb:Binds X.K fd ps ds)(hd:Vals oO ds)(hx:Passes CX X E)
  (I:Inv X ao Z H s) (r:Vals vs us) (h:sp (vs++oO) H Q E):wpAny (model X.prog X.w) X.A (call (.ref f) us) (EP X ao Z Q) X.xe s:=by
 have r2:Vals (vs++oO) (us++ds):=r.append hd;have hl:(us++ds).length=ps.length:=by rw[<-r2.length];exact F.len _ _ _ _ h
 refine Gg (zF (F.run X.A X.stack s H ⟨us,[]⟩ (us++ds) (vs++oO) Q E (λz=>I.ok.hd (jo z)) hr I.env0 (hb s us I.mF hl) r2 h) λr s' hq=>?_);cases r with
 |error e=>exact hx ao Z H s e s' I hq
 |ok fl=>
  cases fl with
  |ret u=>exact I.after hq
  |next=>exact False.elim hq
  |brk=>exact False.elim hq
  |cont=>exact False.elim hq
theorem zkw{pl:Sem Bool}(he:PE X o ta)(c:Cls X.K C)(hm:Meth X.K C m f)(F:cG X.prog X.w X.K X.mg X.base CX cm k f fd ps sp)(jo:cm=true->X.aj=true)(hr:bG k X.A)(hb:Binds X.K fd ps ds)(hd:Vals oO ds)(hx:Passes CX X E)(ha:PA X (e::es) t)
  (Cd:starEach (e::es) X.env=(false,eval e X.env)::starEach es X.env:=by rfl) (hpl:(backTo pos (starEach es X.env)).any (·.1)=false:=by rfl)
  (ht:eval (.Call (.Attribute o m apos) (e::es) [] pos) X.env=(do
   let ov <-eval o X.env
   standAt apos.atName
   let (f,first) <-holding [ov] (getMethod ov m pl)
   callWith pos f first (backTo pos (starEach (e::es) X.env)) (backToKw pos (keywordEach [] X.env))):=by rfl) :
  PE X (.Call (.Attribute o m apos) (e::es) [] pos) (Jl C m sp oO E ta t):=by
 intro ao s Z H Q I h;refine PySem.W.methodCall_KW (pl:=pl) (aX (he ao s Z H _ I h) λu s1 ⟨x,H1,I1,rx,a,dx,fs,ex,ea,l,q⟩=>?_) ht;subst ex;obtain rfl:u=Value.ref a:=rx;refine zfa I1 ea c hm l ?_;refine Q_ (first:=[.ref a]) (h₀:=X.base) I.ok.mod.xu hm.kp (aX (ha pos ao s1 Z H1 _ I1 q) λus s2 ⟨vs,H2,I2,r,q2⟩=>⟨I2.mF,?_⟩) Cd hpl;exact zk4 (us:=.ref a::us) (vs:=.ref a::vs) F jo hr hb hd hx I2 (.cons rfl r) q2
structure Mk(K:W.Frag)(C f:Addr):Prop where
 makes:PySem.W.makesIn K C=true
 init:PySem.W.findIn K (.ref C) "__init__"=some (some (.ref f))
 fn:PySem.W.isFn K (.ref f)=true
 kp:PySem.W.keepIn K (.ref C)=true
theorem zia{ao:List (Addr×Obj)}{Z:St}{H:Hp}{s:Shared}{Q:VK}{us:List Value}{vs:List V}(M:Mk X.K C f)(F:cG X.prog X.w X.K X.mg X.base CX cm k f fd ps sp)(jo:cm=true->X.aj=true)(hr:∀us,bG k (X.A.under (.builtin "type.__call__" ⟨.ref C::us,[]⟩)))(hb:Binds X.K fd ps ds)(hd:Vals oO ds)
  (hx:Passes CX X E) (I:Inv X ao Z H s) (r:Vals vs us)
  (h:∀x dx,H x=none->H dx=none->dx≠x->sp (.ref x::(vs++oO)) (upd (upd H dx (.own x)) x (.ins C dx [])) (λv H2=>v=.non/\Q (.ref x) H2) E) :
  wpAny (model X.prog X.w) X.A (call (.ref C) us) (EP X ao Z Q) X.xe s:=by
 have hq:=h (s.heap.objs.size+1) s.heap.objs.size (I.hok.fresh (xq _)) (I.hok.fresh (cj _)) (cV (Bl _));have I2:=Inv.made (C:=C) I;have r2:Vals (V.ref (s.heap.objs.size+1)::(vs++oO)) (Value.ref (s.heap.objs.size+1)::(us++ds)):=.cons rfl (r.append hd);have hl:(Value.ref (s.heap.objs.size+1)::us++ds).length=ps.length:=by
  have e:=r2.length;rw[F.len _ _ _ _ hq] at e;exact e.symm
 refine Gg (zis (f:=f) I.mF M.makes M.init (oA.mp M.fn) (zF (F.run _ X.stack _ _ ⟨Value.ref (s.heap.objs.size+1)::us,[]⟩ (Value.ref (s.heap.objs.size+1)::(us++ds)) _ _ E (λz=>I.ok.hd (jo z)) (hr us)
  (I2.env0.make C us []) (hb _ (Value.ref (s.heap.objs.size+1)::us) I2.mF hl) r2 hq) λr s' Jo=>?_))
 cases r with
 |error e=>exact hx ao Z _ _ e s' I2 Jo
 |ok fl=>
  cases fl with
  |ret u=>
   obtain⟨v,H',I3,rv,ev,q3⟩:=I2.after Jo;subst ev;exact⟨rv,⟨V.ref (s.heap.objs.size+1),H',I3,rfl,q3⟩⟩
  |next=>exact False.elim Jo
  |brk=>exact False.elim Jo
  |cont=>exact False.elim Jo
theorem zkY(M:Mk X.K C f)(F:cG X.prog X.w X.K X.mg X.base CX cm k f fd ps sp)(jo:cm=true->X.aj=true)(hr:∀us,bG k (X.A.under (.builtin "type.__call__" ⟨.ref C::us,[]⟩)))(hg:Gl X x)(hm:X.mg x=some (.ref C))(hb:Binds X.K fd ps ds)(hd:Vals oO ds)(hx:Passes CX X E)
  (ha:PA X (e::es) t) (tD:(x==("__debug__" : Str))=false:=by decide) (he:starEach (e::es) X.env=(false,eval e X.env)::starEach es X.env:=by rfl) (hpl:(backTo pos (starEach es X.env)).any (·.1)=false:=by rfl) :
  PE X (.Call (.Name x p) (e::es) [] pos) (Jm C sp oO E t):=by
 intro ao s Z H Q I h;refine Bh (Ru I hg hm ?_ tD);refine Q_ (h₀:=X.base) I.ok.mod.xu M.kp (aX (ha pos ao s Z H _ I h) λus s1 ⟨vs,H1,I1,r,q⟩=>⟨I1.mF,?_⟩) he hpl;exact zia M F jo hr hb hd hx I1 r q
end
structure bZ(N P:List Str)(sc:Scope):Prop where
 kind:sc.kind=.function
 co:sc.isCoroutine=false
 gen:sc.isGenerator=false
 nd:N.Nodup
 pre:N.take P.length=P
 par:∀x∈P,sc.names.lookup x=some .local\/sc.names.lookup x=some .cell
 Cq:∀y∈sc.names,y.2≠.free
theorem Zb{kindOf:Str->Option NameKind}{x:Str}:∀{binds:List (Str×Value)} {m:Str->Option Value},(∀v,(x,v)∉binds)->bindL kindOf binds m x=m x
 |[],_,_=>rfl
 |(n,v)::r,m,h=>by
  unfold bindL;rw[Zb λw hw=>h w (iJ _ hw)]
  split
  ·have:x≠n:=by rintro rfl;exact h v lN
   simp[this]
  ·rfl
theorem Zc{kindOf:Str->Option NameKind}{x:Str}:∀{binds:List (Str×Value)} {m:Str->Option Value},(∀v,(x,v)∉binds)->bindC kindOf binds m x=m x
 |[],_,_=>rfl
 |(n,v)::r,m,h=>by
  unfold bindC;rw[Zc λw hw=>h w (iJ _ hw)]
  split
  ·rfl
  ·have:x≠n:=by rintro rfl;exact h v lN
   simp[this]
theorem Zd{kindOf:Str->Option NameKind}{x:Str}{v:Value}:∀{P:List Str} {vs:List Value} {i:Nat} {m:Str->Option Value},P.Nodup->P[i]?=some x->vs[i]?=some v->kindOf x=some .local->
  bindL kindOf (P.zip vs) m x=some v
 |[],_,_,_,_,h,_,_=>by simp at h
 |_::_,[],_,_,_,_,h,_=>by simp at h
 |p::P,w::vs,0,m,nd,h1,h2,hk=>by
  simp at h1 h2;subst h1;subst h2;show bindL kindOf ((p,w)::P.zip vs) m p=_;unfold bindL;rw[Zb λv hv=>(w6.mp nd).1 (List.of_mem_zip hv).1,if_pos hk];simp
 |p::P,w::vs,i+1,m,nd,h1,h2,hk=>by
  show bindL kindOf ((p,w)::P.zip vs) m x=_;unfold bindL;exact Zd (i:=i) (w6.mp nd).2 (by simpa using h1) (by simpa using h2) hk
theorem Ze{kindOf:Str->Option NameKind}{x:Str}{v:Value}:∀{P:List Str} {vs:List Value} {i:Nat} {m:Str->Option Value},P.Nodup->P[i]?=some x->vs[i]?=some v->kindOf x≠some .local->
  bindC kindOf (P.zip vs) m x=some v
 |[],_,_,_,_,h,_,_=>by simp at h
 |_::_,[],_,_,_,_,h,_=>by simp at h
 |p::P,w::vs,0,m,nd,h1,h2,hk=>by
  simp at h1 h2;subst h1;subst h2;show bindC kindOf ((p,w)::P.zip vs) m p=_;unfold bindC;rw[Zc λv hv=>(w6.mp nd).1 (List.of_mem_zip hv).1,if_neg hk];simp
 |p::P,w::vs,i+1,m,nd,h1,h2,hk=>by
  show bindC kindOf ((p,w)::P.zip vs) m x=_;unfold bindC;exact Ze (i:=i) (w6.mp nd).2 (by simpa using h1) (by simpa using h2) hk
noncomputable def start(N:List Str)(vs:List V):St:=vs.map some++List.replicate (N.length-vs.length) none
noncomputable def dI(CX:sZ)(P:Program)(w:World)(K:W.Frag)(mg:Str->Option Value)(base:Heap)(N:List Str)(qual:Str)(scope:Scope)(f:Addr)(cd:Value)(A:Around)(outer:List Env)(s:Shared)(H:Hp)(E:XK)(cm:Bool):Cx where
 prog:=P
 w:=w
 K:=K
 mg:=mg
 base:=base
 A:=A.deeper (envOfC qual scope s.heap.objs.size f cd)
 N:=N
 s₀:=s
 H₀:=H
 env:=envOfC qual scope s.heap.objs.size f cd
 outer:=outer
 stack:=envOfC qual scope s.heap.objs.size f cd::outer
 ex:=[]
 aj:=cm
 fn:=λ_=>true
 pn:=[]
 xe:=λe s'=>wpAny (model P w) (A.deeper (envOfC qual scope s.heap.objs.size f cd)) (leaving (envOfC qual scope s.heap.objs.size f cd) e) (λ_ s''=>CX outer H s E e s'') (λe' s''=>CX outer H s E e' s'') s'
def Zf{sc:Scope}{n:Nat}{x:Str}(h:sc.names.lookup x=some .cell):∃c,(cellsFrom n sc.names []).lookup x=some c:=by
 have q:=M8 sc.names n [] (.inl h);exact Hw.mp q
theorem Zg{CX:sZ}{P:Program}{w:World}{K:W.Frag}{mg:Str->Option Value}{base:Heap}{N ps:List Str}{qual:Str}{scope:Scope}{f:Addr}{cd:Value}{A:Around}{outer:List Env}{s s1:Shared}{H:Hp}{E:XK}{us:List Value}{vs:List V}
  {cm:Bool} (S:bZ N ps scope) (hd:cm=true->A.handled=none) (e0:qw P w K mg base A outer s H) (hl:vs.length=ps.length) (r:Vals vs us)
  (x:InCallC s s.heap.objs.size (bindL (envOfC qual scope s.heap.objs.size f cd).kindOf (ps.zip us) λ_=>none) (cellsFrom (s.heap.objs.size+1) scope.names []) (bindC (envOfC qual scope s.heap.objs.size f cd).kindOf (ps.zip us) λ_=>none) s1) :
  Inv (dI CX P w K mg base N qual scope f cd A outer s H E cm) [] (start N vs) H s1:=by
 have hpl:ps.length<=N.length:=by have:=lE List.length S.pre;rw[Bm] at this;lia
 obtain⟨h1,tk,rfl,hk⟩:=x.done;have Jp:∀b:Addr,b∉(dI CX P w K mg base N qual scope f cd A outer s H E cm).ex:=λb z=>absurd (show b∈([]:List Addr) from z) Zaa;refine⟨⟨e0.mod,S.kind,rfl,rfl,cj _,λy z c h1 h2=>?_,λy hy=>?_,λy c _ h=>?_,hd,Around.frames_deeper e0.frames,.inr ⟨rfl,rfl⟩,λb z=>absurd z (Jp b),e0.bs,e0.xM,λb _ _=>Jp b,λb z=>absurd z (Jp b),e0.jJ,e0.zN⟩,
  rfl,e0.bare,Un.kept hk,⟨_,x.toInCall.ns,λi y v h1 h2 h3=>?_⟩,λy c h=>⟨_,x.cell y c h⟩,e0.hok.fresh (cj _),λy c h=>?_,λp hp=>absurd (show p∈([]:List (Addr×Obj)) from hp) Zaa,e0.hok.kept hk,?_⟩
 ·exact name_of_addr x.apart (Ft h1) (Ft h2)
 ·have hy:scope.names.lookup y=some .cell\/scope.names.lookup y=some .free:=hy;rcases hy with hy|hy
  ·exact Zf hy
  ·exact absurd rfl (S.Cq _ (Ft hy))
 ·exact sU (x.above y c (Ft h))
 ·have hi:i<vs.length:=by
   unfold start at h2;by_cases hi:i<vs.length
   ·exact hi
   ·rw[pZ (by simpa using hi)] at h2;rw[Bc] at h2;split at h2<;>cases h2
  have ha:vs[i]?=some v:=by
   unfold start at h2;rw[pK (by simpa using hi),iG] at h2;cases e:vs[i]? with
   |none=>rw[e] at h2;cases h2
   |some a=>rw[e] at h2;cases h2;rfl
  obtain⟨u,hu,rv⟩:=r.get ha;have hp:ps[i]?=some y:=by
   rw[<-S.pre,List.getElem?_take_of_lt gV];exact h1
  have Zh:ps.Nodup:=by rw[<-S.pre];exact S.nd.sublist (List.take_sublist _ _)
  refine⟨u,rv,?_⟩;rcases S.par y (fG hp) with k|k
  ·exact .inl ⟨k,Zd Zh hp hu k⟩
  ·obtain⟨c,e⟩:=Zf (n:=s.heap.objs.size+1) k;refine .inr ⟨.inl k,c,e,?_⟩;have q:=x.cell y c e;rw[Ze Zh hp hu (by show scope.names.lookup y≠_;rw[k];decide)] at q;exact q
 ·exact e0.hok.fresh (sU (x.above y c (Ft h)))
 ·unfold start;show _=N.length;rw[pL,cZ,Hx]
  lia
theorem R7{CX:sZ}{cm:Bool}{P:Program}{w:World}{K:W.Frag}{mg:Str->Option Value}{base:Heap}{k:Nat}{f:Addr}{name qual:Str}{params:Arguments}{body:List Stmt}{scope:Scope}{dV kV doc pm cdv ct oc:Value}{an od:Option Addr}
  {osl:Array (Option Value)} {N ps:List Str} {sp:Sp} (lk:K.lookup f=some ⟨oc,od,.func (PySem.W.fnOf name qual params body scope dV kV doc pm an cdv ct),osl⟩) (iH:PySem.W.codeIn K cdv qual=true) (S:bZ N ps scope)
  (len:∀vs H Q E,sp vs H Q E->vs.length=ps.length)
  (Jq:∀(A:Around) (outer:List Env) (s:Shared) (H:Hp) (vs:List V) (Q:VK) (E:XK),bG (k+1) A->sp vs H Q E->
   ∃t,qm (dI CX P w K mg base N qual scope f cdv A outer s H E cm) body t/\t {nx:=λ_ H'=>Q .non H',rt:=Q} (start N vs) H) :
  cG P w K mg base CX cm (k+1) f (PySem.W.fnOf name qual params body scope dV kV doc pm an cdv ct) ps sp:=by
 refine⟨len,λA outer s H args us vs Q E jo hr e0 hb r Oe=>?_⟩;have hl:=len _ _ _ _ Oe;have KX:K.In s.heap:=e0.mod.xu.keeps λb o e=>(e0.bs b o e).1;have lim:s.heap.NoLimit:=e0.mod.nolimit.keeps λb o e=>(e0.bs b o e).1;have uQ:∀y∈ps.zip us,scope.names.lookup y.1=some .local\/(scope.names.lookup y.1=some .cell/\((cellsFrom (s.heap.objs.size+1) scope.names []).lookup y.1).isSome=true):=λ⟨n,v⟩ hy=>by
  rcases S.par n (List.of_mem_zip hy).1 with q|q
  ·exact .inl q
  ·exact .inr ⟨q,M8 _ _ _ (.inl q)⟩
 refine codeAny_call_function hr.depth (KX _ _ lk) rfl S.co S.gen rfl (PySem.W.codeRec_of KX iH) (hb _ _ _ _ ?_);refine wpAny_newFunctionEnv_cells S.kind uQ λenv he s1 x=>?_;subst he;refine⟨lim.keeps x.toInCall.keep,codeAny_func ?_⟩;obtain⟨t,ht,hq⟩:=Jq A outer s H vs Q E hr Oe;have I:Inv (dI CX P w K mg base N qual scope f cdv A outer s H E cm) [] (start N vs) H s1:=Zg S jo e0 hl r x;refine gj (ht [] s1 (start N vs) H _ I hq) (λfl s' hs=>?_) λe s' hs=>hs;have fin:∀{Z':St} {H':Hp} {v:V} {u:Value},Inv (dI CX P w K mg base N qual scope f cdv A outer s H E cm) [] Z' H' s'->RelV v u->Q v H'->CE outer P w H s Q u s':=
  λ{Z' H' v u} bf rv q=>⟨v,H',bf.os,bf.bare,bf.base,bf.hok,rv,q⟩
 cases fl with
 |ret u=>
  obtain⟨v,Z',H',bf,rv,q⟩:=hs;exact fin bf rv q
 |next=>
  obtain⟨Z',H',bf,q⟩:=hs;exact fin (v:=V.non) (u:=Value.none) bf rfl q
 |brk=>
  obtain⟨_,_,_,q⟩:=hs;exact False.elim q
 |cont=>
  obtain⟨_,_,_,q⟩:=hs;exact False.elim q
section
variable {X:Cx}{x:Str}{p pos:Pos}{e:Expr}{es:List Expr}{t:TA}{id T:String}{r:List V->Hp->VK->Prop}
noncomputable def R8(r:List V->Hp->VK->Prop)(t:TA):TE:=λZ H Q=>t Z H λvs H1=>r vs H1 Q
theorem Zi(hc:cW X (.builtin id) r)(hg:Gl X x)(hm:X.mg x=none)(hv:bootBuiltins x=some (.builtin id))(ha:PA X (e::es) t)(hn:x≠"__name__":=by decide)(tD:(x==("__debug__" : Str))=false:=by decide)
  (he:starEach (e::es) X.env=(false,eval e X.env)::starEach es X.env:=by rfl) (hpl:(backTo pos (starEach es X.env)).any (·.1)=false:=by rfl):PE X (.Call (.Name x p) (e::es) [] pos) (R8 r t):=by
 intro ao s Z H Q I h;refine Bh (wB I hg hm hv ?_ hn tD);exact PyProof.Rows.callWith_builtin1 (aX (ha pos ao s Z H _ I h) λus s1 hx=>fH hx λvs H1 I1 r1 q1=>hc ao s1 Z H1 vs us Q I1 r1 q1) he hpl
theorem zgv(hc:cW X (.type T) r)(hg:Gl X x)(hm:X.mg x=none)(hv:bootBuiltins x=some (.type T))(ha:PA X (e::es) t)(hn:x≠"__name__":=by decide)(tD:(x==("__debug__" : Str))=false:=by decide)
  (he:starEach (e::es) X.env=(false,eval e X.env)::starEach es X.env:=by rfl) (hpl:(backTo pos (starEach es X.env)).any (·.1)=false:=by rfl):PE X (.Call (.Name x p) (e::es) [] pos) (R8 r t):=by
 intro ao s Z H Q I h;refine Bh (wB I hg hm hv ?_ hn tD);exact Bb (aX (ha pos ao s Z H _ I h) λus s1 hx=>fH hx λvs H1 I1 r1 q1=>hc ao s1 Z H1 vs us Q I1 r1 q1) he hpl
end
end L2
namespace HT
open PySem PyProof.Rows
def lexLt:List Int->List Int->Bool
 |[],[]=>false
 |[],_::_=>true
 |_::_,[]=>false
 |x::xs,y::ys=>if x=y then lexLt xs ys else decide (x<y)
def kh(x y:Int)(xs ys:List Int):lexLt (x::xs) (y::ys)=if x=y then lexLt xs ys else decide (x<y):=rfl
def zc4:lexLt [] []=false:=rfl
def zcw(y:Int)(ys:List Int):lexLt [] (y::ys)=true:=rfl
def zct(x:Int)(xs:List Int):lexLt (x::xs) []=false:=rfl
def zhy(A:Around)(s:Shared)(a:Int)(t:Tok)(c:Int)(u:Tok):∃e,SeqAt.EqAt A s (.int a t) (.int c u) e/\(e=true↔a=c):=
 ⟨(a==c),SeqAt.EqAt.int_int a t c u,by simp⟩
theorem zhn(A:Around)(s:Shared)(a:Int)(t:Tok)(c:Int)(u:Tok)(prog:Program)(w:World)(E:Value->Shared->Prop)(Q:Value->Shared->Prop)(h:Q (.bool (decide (a<c))) s) :
  wpAny (model prog w) A (richCompare .Lt (.int a t) (.int c u)) Q E s:=
 (PyProof.Rows.lt_int h:wpAny (model prog w) A (compareOp .Lt (.int a t) (.int c u)) Q E s)
section
open PySem.SeqAt
open PySem.AutoSeq1 (wpAny_loadPart')
open PySem.MeetsSeq PySem.MeetsSeq2 PySem.MeetsSeq3
theorem zcV(l b:Addr)(items items2:Array Value)(n n2:Nat)(dd dd2:Option Addr)(sl sl2:Array (Option Value))(ns ms:List Int)(hi:IntsAre items.toList ns)(hj:IntsAre items2.toList ms) :
  Meets (Builtin.«tuple.__lt__» ⟨[.ref l,.ref b],[]⟩)
   (λ_ R s=>s.heap.get? l=some {cls:=.type "tuple",dict:=dd,data:=.seq items n,slots:=sl}/\s.heap.get? b=some {cls:=.type "tuple",dict:=dd2,data:=.seq items2 n2,slots:=sl2} /\
    R (.ok (.ret (.bool (lexLt ns ms)))) s):=
 .of_wp λprog w A R s h=>by
  obtain⟨hp,g,d,tk,os⟩:=s;obtain⟨hl,hb,h⟩:=h;have f2:=AutoSeq1.sub_tuple_tuple;have z1:items.size=ns.length:=by rw[<-hi.length];simp
  have z2:items2.size=ms.length:=by rw[<-hj.length];simp
  wp_walk using wpAny_loadPart' hl,wpAny_loadPart' hb,wpAny_forIn_list _ (λrest b s'=>b.1=none/\s'=⟨hp,g,d,tk,os⟩/\∃(vs ws:List Value) (ns' Gu:List Int),rest=vs.zip ws /\
   IntsAre vs ns'/\IntsAre ws Gu/\ns'.length+items2.size=Gu.length+items.size/\R (.ok (.ret (.bool (lexLt ns' Gu)))) ⟨hp,g,d,tk,os⟩) _
  case turn=>
   rintro⟨y,x⟩ rest b s' ⟨hb',rfl,vs,ws,ns',Gu,hz,R9,Og,hlen,hR⟩;cases R9 with
   |nil=>rw[List.zip_nil_left] at hz;cases hz
   |cons a t R_=>
    cases Og with
    |nil=>rw[List.zip_nil_right] at hz;cases hz
    |cons c u Sd=>
     rw[HD] at hz;injection hz with hyx Jr;injection hyx with hy hx;subst hy hx;rw[kh] at hR;simp only[iu] at hlen;obtain⟨e,he,Js⟩:=zhy A.in1 ⟨hp,g,d,tk,os⟩ a t c u;refine aB (he prog w _ _ ?_);cases e with
     |true=>
      rw[if_pos (Js.mp rfl)] at hR
      wp_walk
      exact⟨rfl,rfl,_,_,_,_,Jr,R_,Sd,by lia,hR⟩
     |false=>
      rw[if_neg (λq=>absurd (Js.mpr q) HB)] at hR;have hri:=zhn A.in1 ⟨hp,g,d,tk,os⟩ a t c u prog w
      wp_walk using hri
      exact⟨_,rfl,by simpa using hR⟩
  case fin=>
   rintro⟨b1,b2⟩ s' ⟨hb',rfl,vs,ws,ns',Gu,hz,R9,Og,hlen,hR⟩;simp only at hb';subst hb';have hv:lexLt ns' Gu=decide (items.size<items2.size):=by
    cases R9 with
    |nil=>
     cases Og with
     |nil=>
      simp only[FW] at hlen;rw[zc4];exact(pP gV).symm
     |cons c u hw=>
      simp only[FW,iu] at hlen;rw[zcw];exact(fP gV).symm
    |cons a t hv=>
     cases Og with
     |nil=>
      simp only[FW,iu] at hlen;rw[zct];exact(pP gV).symm
     |cons c u hw=>
      rw[HD] at hz;cases hz
   rw[hv] at hR
   wp_walk
   exact⟨_,rfl,by simpa [Builtin.Tuple.tupleCompareSizes] using hR⟩
  case h=>
   exact⟨rfl,rfl,items.toList,items2.toList,ns,ms,rfl,hi,hj,by lia,h⟩
end
section
variable {prog:Program}{w:World}{A:Around}{E:Value->Shared->Prop}{s:Shared}
theorem kj{l b:Addr}{items items2:Array Value}{ns ms:List Int}{Q:Value->Shared->Prop}(hl:IsTup s.heap l items)(hb:IsTup s.heap b items2)(hi:IntsAre items.toList ns)(hj:IntsAre items2.toList ms)
  (hu:A.units<cLine) (h:Q (.bool (lexLt ns ms)) s):wpAny (model prog w) A (compareOp .Lt (.ref l) (.ref b)) Q E s:=by
 obtain⟨⟨cls,dd,data,sl⟩,ho,hc,n,hd⟩:=id hl;obtain⟨⟨cls2,dd2,data2,sl2⟩,qx,nY,n2,hd2⟩:=id hb;simp only at hc hd nY hd2;subst hc hd nY hd2;exact richCompare_meets_room (op:=.Lt) ⟨_,ho,rfl⟩ ⟨_,qx,rfl⟩ PySem.F.slot_tuple_lt PySem.F.entry_tuple_lt (PySem.F.args_tuple_lt_2 _ _) (zcV l b items items2 n n2 dd dd2 sl sl2 ns ms hi hj)
  ⟨ho,qx,show Value.bool (lexLt ns ms)≠Value.notImplemented/\Q (.bool (lexLt ns ms)) s from ⟨(λx=>nomatch x),h⟩⟩ hu
theorem xY{t b:Addr}{vs ws:List Value}{Q:Value->Shared->Prop}(ht:IsTup s.heap t vs.toArray)(hb:IsTup s.heap b ws.toArray)(hv:vs≠[])
  (h1:ws=[]->Q (.ref t) s) (h2:ws≠[]->Q (.ref s.heap.objs.size) {s with heap:=s.heap.push {cls:=.type "tuple",data:=.seq (vs++ws).toArray}})
  (hsz:vs.length+ws.length<=sizeLine):wpAny (model prog w) A (binaryOp .Add (.ref t) (.ref b)) Q E s:=by
 obtain⟨⟨cls,dd,data,sl⟩,ho,hc,n,hd⟩:=id ht;obtain⟨⟨cls2,dd2,data2,sl2⟩,qx,nY,n2,hd2⟩:=id hb;simp only at hc hd nY hd2;subst hc hd nY hd2;have e:vs.toArray++ws.toArray=(vs++ws).toArray:=by simp
 by_cases hw:ws=[]
 ·exact concat_meets ⟨_,ho,rfl⟩ ⟨_,qx,rfl⟩ noFill_tuple_add seq_tuple_add QX QW (QT _ _)
   (tuple_addW1 t b vs.toArray ws.toArray n n2 dd dd2 sl sl2 (by simpa using hv) (by simp[hw])) ⟨ho,qx,h1 hw⟩
 ·refine concat_meets ⟨_,ho,rfl⟩ ⟨_,qx,rfl⟩ noFill_tuple_add seq_tuple_add QX QW (QT _ _)
   (tuple_addW2 t b vs.toArray ws.toArray n n2 dd dd2 sl sl2 (by simpa using hv) (by simpa using hw) (by rw[eY,eY];exact hsz)) ⟨ho,qx,?_⟩
  rw[e];exact h2 hw
noncomputable def b_(n d:Nat):Option Int->Nat
 |none=>d
 |some v=>if v<0 then (v+(n:Int)).toNat else min v.toNat n
def uR(n d:Nat):b_ n d none=d:=rfl
def xZ(n d k:Nat):b_ n d (some (k:Int))=min k n:=by
 show (if (k:Int)<0 then ((k:Int)+(n:Int)).toNat else min (k:Int).toNat n)=min k n;rw[if_neg gV,pO]
theorem zlp(n d:Nat)(hd:d<=n)(o:Option Int):b_ n d o<=n:=by
 cases o with
 |none=>exact hd
 |some v=>
  show (if v<0 then (v+(n:Int)).toNat else min v.toNat n)<=n;by_cases hv:v<0
  ·rw[if_pos hv];lia
  ·rw[if_neg hv];exact Nat.min_le_right _ _
theorem Zj(v:Int)(n d:Nat):(if v<0 then max (v+(n:Int)) 0 else min v (n:Int))=((b_ n d (some v):Nat):Int):=by
 show (if v<0 then max (v+(n:Int)) 0 else min v (n:Int))=(((if v<0 then (v+(n:Int)).toNat else min v.toNat n):Nat):Int);by_cases hv:v<0
 ·simp only[if_pos hv];lia
 ·simp only[if_neg hv];lia
theorem zfu(lo hi:Option Int)(n:Nat):Builtin.Slice.sliceAdjust lo hi 1 (n:Int)=(((b_ n 0 lo:Nat):Int),((b_ n n hi:Nat):Int)):=by
 have h1:¬((1:Int)<0):=by lia
 unfold Builtin.Slice.sliceAdjust;simp only[h1,oE];refine Prod.ext ?_ ?_
 ·cases lo with
  |none=>rfl
  |some v=>exact Zj v n 0
 ·cases hi with
  |none=>rfl
  |some v=>exact Zj v n n
def zfs(i j:Nat):Builtin.Slice.slicePlaces (i:Int) (j:Int) 1=j-i:=by
 unfold Builtin.Slice.slicePlaces;have h1:(1:Int)>0:=by lia
 simp only[h1,if_true,Int.ediv_one]
 split<;>lia
theorem Sg{v:Value}{o:Option Int}{Q:Option Int->Shared->Prop}(p:IsPart v o)(h:Q o s):wpAny (model prog w) A (Builtin.Slice.slicePartIndex v) Q E s:=by
 cases p with
 |none=>exact slicePart_none h
 |int i t=>exact slicePart_int h
theorem Zk{sl:Addr}{vl vu:Value}{lo hi:Option Int}{n:Nat}{Q:Int×Int×Nat->Shared->Prop}(hs:s.heap.IsSliceOf sl vl vu .none)(pl:IsPart vl lo)(pu:IsPart vu hi)
  (h:Q (((b_ n 0 lo:Nat):Int),1,b_ n n hi-b_ n 0 lo) s):wpAny (model prog w) A (Builtin.Slice.sliceApplied (.ref sl) (pure (n:Int))) Q E s:=by
 obtain⟨os,tG,Cr,wD⟩:=id hs;unfold Builtin.Slice.sliceApplied Builtin.Slice.sliceFields;refine aB (aB (lD tG wD (x:=vl) rfl (aB (lD tG wD (x:=vu) rfl (aB (lD tG wD (x:=.none) rfl (aN ?_)))))));refine aB (slicePart_none ?_);show wpAny _ _ (if ((1:Int)==0)=true then _ else _) _ _ s;rw[if_neg Tv];refine aB (Sg pl (aB (Sg pu (aB (aN ?_)))));show wpAny _ _ (match Builtin.Slice.sliceAdjust lo hi 1 (n:Int) with|(lo,hi)=>pure (lo,(1:Int),Builtin.Slice.slicePlaces lo hi 1)) _ _ s;rw[zfu lo hi n];show wpAny _ _ (pure (((b_ n 0 lo:Nat):Int),(1:Int),Builtin.Slice.slicePlaces ((b_ n 0 lo:Nat):Int) ((b_ n n hi:Nat):Int) 1)) _ _ s;rw[zfs];exact aN h
theorem zhi(xs:Array Value)(i k:Nat):((List.range k).filterMap λ(m:Nat)=>xs[((i:Int)+(m:Int)*1).toNat]?).toArray=((xs.toList.drop i).take k).toArray:=by
 have e:(λ(m:Nat)=>xs[((i:Int)+(m:Int)*1).toNat]?)=λm=>xs[i+m]?:=by
  funext m
  have:((i:Int)+(m:Int)*1).toNat=i+m:=by lia
  rw[this]
 rw[e];have:=pick_run xs i k;rw[List.filterMap_map] at this;have e2:((λx=>xs[x]?)∘λx=>i+x)=λm=>xs[i+m]?:=rfl;rw[e2] at this;rw[this]
theorem iU{t sl:Addr}{items:Array Value}{vl vu:Value}{lo hi:Option Int}{Q:Value->Shared->Prop}(ht:IsTup s.heap t items)(hs:s.heap.IsSliceOf sl vl vu .none)(pl:IsPart vl lo)(pu:IsPart vu hi)
  (hw:¬(b_ items.size 0 lo=0/\b_ items.size items.size hi=items.size))
  (h:Q (.ref s.heap.objs.size) {s with heap:=s.heap.push {cls:=.type "tuple",data:=.seq ((items.toList.drop (b_ items.size 0 lo)).take (b_ items.size items.size hi-b_ items.size 0 lo)).toArray}})
  (hsz:items.size<=sizeLine):wpAny (model prog w) A (getItem (.ref t) (.ref sl)) Q E s:=by
 have iV:sizeOk (.seq ((items.toList.drop (b_ items.size 0 lo)).take (b_ items.size items.size hi-b_ items.size 0 lo)).toArray):=by
  show ((items.toList.drop (b_ items.size 0 lo)).take (b_ items.size items.size hi-b_ items.size 0 lo)).toArray.size<=sizeLine;rw[eY,Bm,List.length_drop,qb]
  lia
 have hj:b_ items.size items.size hi<=items.size:=zlp _ _ (cj _) hi;obtain⟨os,tG,Cr,wD⟩:=id hs;have Jt:s.TypeIs (.ref sl) "slice":=⟨os,tG,Cr⟩;unfold getItem
 try with_reducible refine pQ ?_
 first|refine aB (aN ?_)|skip
 refine aB (wpAny_sequenceKey ht.typeIs Tv ?_);refine aB (zm (name:=Str.ofString "__getitem__") ht.typeIs wX
  (wZ wX ht.typeIs entry_tuple_getitem ?_ (args_tuple_getitem _ _)))
 show wpAny _ _ (Builtin.Tuple.tupleItemsOf (.ref t) >>= _) _ _ s;refine aB (tupleItemsOf_ ht ?_);refine aB (Ia Jt ?_);rw[if_pos Tv];refine aB (Zk hs pl pu ?_);have gZ:¬((((b_ items.size 0 lo:Nat):Int)==0&&(1:Int)==1&&(b_ items.size items.size hi-b_ items.size 0 lo)==items.size)=true):=by
  intro q;rw[gb,gb] at q;have q1:((b_ items.size 0 lo:Nat):Int)=0:=eq_of_beq q.1.1;have q2:b_ items.size items.size hi-b_ items.size 0 lo=items.size:=eq_of_beq q.2;exact hw ⟨by lia,by lia⟩
 show wpAny _ _ (if (((b_ items.size 0 lo:Nat):Int)==0&&(1:Int)==1&&(b_ items.size items.size hi-b_ items.size 0 lo)==items.size)=true then _ else _) _ _ s;rw[if_neg gZ,zhi]
 first
  |exact aB (m:=Builtin.Tuple.tupleExact _) (pN (aN ⟨_,rfl,aN h⟩) iV)
  |exact aB (m:=Builtin.Tuple.tupleExact _) (pN (aB (aN (aN ⟨_,rfl,aN h⟩))) iV)
  |exact aB (aB (m:=Builtin.Tuple.tupleExact _) (pN (aN (aN ⟨_,rfl,aN h⟩)) iV))
  |exact aB (aB (m:=Builtin.Tuple.tupleExact _) (pN (aN ⟨_,rfl,aN h⟩) iV))
end
end HT
namespace L2
open PySem PySem.Spec PyProof.Rows
abbrev TO:=St->Hp->(Option Int->Hp->Prop)->Prop
def PO(X:Cx)(e:Option Expr)(t:TO):Prop:=
 ∀(ao:List (Addr×Obj)) (s:Shared) (Z:St) (H:Hp) (Q:Option Int->Hp->Prop),Inv X ao Z H s->t Z H Q->
  wpAny (model X.prog X.w) X.A (evalPart e X.env) (λu s'=>∃o H',Inv X ao Z H' s'/\IsPart u o/\Q o H') X.xe s
noncomputable def yc:TO:=λ_ H Q=>Q none H
noncomputable def Ju(t:TE):TO:=λZ H Q=>t Z H λx H1=>∃i,x=.int i/\Q (some i) H1
theorem Zm{ns:List Int}:∀{us:List Value},Vals (ns.map V.int) us->IntsAre us ns:=by
 induction ns with
 |nil=>intro us r;rw[List.map_nil] at r;cases r;exact .nil
 |cons n ns ih=>
  intro us r;rw[jx] at r;cases r with
  |cons r1 r2=>
   obtain⟨t,e⟩:=r1;subst e;exact .cons n t (ih r2)
section
variable {X:Cx}{e:Expr}{te:TE}{lo hi:Option Expr}{tl th:TO}{pos p2:Pos}
def zjE:PO X none yc:=by
 intro ao s Z H Q I h;rw[evalPart_none];exact aN ⟨none,H,I,.none,h⟩
def zj6(h:PE X e te):PO X (some e) (Ju te):=by
 intro ao s Z H Q I hw;rw[evalPart_some];refine aX (h ao s Z H _ I hw) λu s1 hx=>fH hx λx H1 I1 r1 q1=>?_;obtain⟨i,rfl,q⟩:=q1;obtain⟨t,rfl⟩:=r1;exact⟨some i,H1,I1,.int i t,q⟩
def yd(X:Cx)(r:V->Option Int->Option Int->Hp->VK->Prop):Prop:=
 ∀(ao:List (Addr×Obj)) (s:Shared) (Z:St) (H:Hp) (x:V) (v vl vu:Value) (lo hi:Option Int) (sl:Addr) (Q:VK),Inv X ao Z H s->RelV x v->s.heap.IsSliceOf sl vl vu .none->IsPart vl lo->IsPart vu hi->r x lo hi H Q->
  ∃T id,typeLookup (.type T) "__getitem__"=pure (some (.builtin id))/\s.TypeIs v T/\wpAny (model X.prog X.w) X.A (getItem v (.ref sl)) (EP X ao Z Q) X.xe s
theorem yd.or{r r':V->Option Int->Option Int->Hp->VK->Prop}(h:yd X r)(h':yd X r'):yd X (λx lo hi H Q=>r x lo hi H Q\/r' x lo hi H Q):=by
 intro ao s Z H x v vl vu lo hi sl Q I rx hs pl pu q;rcases q with q|q
 ·exact h ao s Z H x v vl vu lo hi sl Q I rx hs pl pu q
 ·exact h' ao s Z H x v vl vu lo hi sl Q I rx hs pl pu q
noncomputable def tSl(r:V->Option Int->Option Int->Hp->VK->Prop)(te:TE)(tl th:TO):TE:=λZ H Q=>te Z H λx H1=>tl Z H1 λl H2=>th Z H2 λu H3=>r x l u H3 Q
theorem zhh{r:V->Option Int->Option Int->Hp->VK->Prop}(hr:yd X r)(he:PE X e te)(hl:PO X lo tl)(hu:PO X hi th):PE X (.Subscript e (.Slice lo hi none p2) pos) (tSl r te tl th):=by
 intro ao s Z H Q I h;refine Subscript_ (aX (he ao s Z H _ I h) λv s1 hx=>fH hx λx H1 I1 r1 q1=>?_);refine wpAny_Slice (aX (hl ao s1 Z H1 _ I1 q1) λvl s2 hx=>fH hx λl H2 I2 pl q2=>aX (hu ao s2 Z H2 _ I2 q2) λvu s3 hx=>fH hx λu H3 I3 pu q3=>?_);rw[evalPart_none];refine aN ?_;have I4:Inv X ao Z H3 {s3 with heap:=s3.heap.push {cls:=.type "slice",data:=.fields #[vl,vu,.none]}}:=I3.kept (t':=s3.toks) λb ob q=>cD _ q;obtain⟨T,id,hT,ht,hg⟩:=hr ao {s3 with heap:=s3.heap.push {cls:=.type "slice",data:=.fields #[vl,vu,.none]}} Z H3 x v vl vu l u s3.heap.objs.size Q I4 r1 (Heap.IsSliceOf.new ..) pl pu q3;show wpAny (model X.prog X.w) X.A (subscriptTail e (.Slice lo hi none p2) v (.ref s3.heap.objs.size)) (EP X ao Z Q) X.xe {s3 with heap:=s3.heap.push {cls:=.type "slice",data:=.fields #[vl,vu,.none]}};exact tail_any (ops:=[.ref s3.heap.objs.size,v]) ht hT hg (by with_unfolding_all rfl)
noncomputable def m7(xs:List V)(lo hi:Option Int):List V:=(xs.drop (HT.b_ xs.length 0 lo)).take (HT.b_ xs.length xs.length hi-HT.b_ xs.length 0 lo)
def Zn(xs:List V)(lo hi:Option Int):(m7 xs lo hi).length<=xs.length:=by
 unfold m7;rw[Bm,List.length_drop]
 lia
def Sh(K:W.Frag):V->Option Int->Option Int->Hp->VK->Prop:=λx lo hi H Q=>∃a xs,x=.ref a/\gw K H a xs /\
 ¬(HT.b_ xs.length 0 lo=0/\HT.b_ xs.length xs.length hi=xs.length)/\∀p,H p=none->Q (.ref p) (upd H p (.tup (m7 xs lo hi)))
theorem zm8:yd X (Sh X.K):=by
 intro ao s Z H x v vl vu lo hi sl Q I rx hs pl pu h;obtain⟨a,xs,rfl,hx,hw,q⟩:=h;cases rx;obtain⟨its,r,ht,hz⟩:=I.tuple hx;have hlen:its.toArray.size=xs.length:=by rw[eY];exact r.length.symm
 refine⟨"tuple",_,wX.lookup,ht.typeIs,?_⟩;refine HT.iU ht hs pl pu (by rw[hlen];exact hw) ?_ (by rw[hlen];exact hz);rw[hlen];refine⟨.ref s.heap.objs.size,_,I.laid (t':=s.toks) (o:=.tup (m7 xs lo hi)) (λb ob q=>cD _ q) (cj _) ?_,rfl,q _ (I.hok.fresh (cj _))⟩;exact⟨jZ (Zn xs lo hi) hz,_,(r.drop (HT.b_ xs.length 0 lo)).take (HT.b_ xs.length xs.length hi-HT.b_ xs.length 0 lo),IsTup.new _ _⟩
def Jv(K:W.Frag):R2:=λx y H Q=>∃a b ns ms,x=.ref a/\y=.ref b/\gw K H a (ns.map V.int)/\gw K H b (ms.map V.int)/\Q (.bl (HT.lexLt ns ms)) H
theorem zmM(hu:X.A.units<cLine):fV X (compareOp .Lt) (Jv X.K):=by
 intro ao s Z H x y v u Q I rx ry h;obtain⟨a,b,ns,ms,rfl,rfl,ha,hb,q⟩:=h;cases rx;cases ry;obtain⟨its,r1,p1,_⟩:=I.tuple ha;obtain⟨its2,r2,p2,_⟩:=I.tuple hb;have i1:IntsAre its.toArray.toList ns:=Zm r1;have i2:IntsAre its2.toArray.toList ms:=Zm r2;exact HT.kj p1 p2 i1 i2 hu ⟨.bl (HT.lexLt ns ms),H,I,rfl,q⟩
def Vals.m9{xs:List V}{us:List Value}(r:Vals xs us):us=[]↔xs=[]:=by
 cases r with
 |nil=>simp
 |cons _ _=>simp
end
noncomputable def tH(n:Nat)(i:Int):Option Nat:=if 0<=i then (if i<n then some i.toNat else none) else if -(n:Int)<=i then some (i+n).toNat else none
def rG{α:Type}(xs:List α)(i:Int):Option α:=(tH xs.length i).bind λj=>xs[j]?
theorem Zo{n:Nat}{i:Int}{j:Nat}(h:tH n i=some j):seqIndex? i n=some j/\j<n/\-(n:Int)<=i/\i<n:=by
 unfold tH at h;by_cases h0:0<=i
 ·rw[if_pos h0] at h;by_cases h1:i<n
  ·rw[if_pos h1] at h;have e:i.toNat=j:=cJ h;exact⟨by rw[seqIndex_of h0 h1,e],by lia,by lia,h1⟩
  ·rw[if_neg h1] at h;cases h
 ·rw[if_neg h0] at h;by_cases h1 : -(n:Int)<=i
  ·rw[if_pos h1] at h;have e:(i+n).toNat=j:=cJ h;exact⟨by rw[seqIndex_neg gV h1,e],by lia,h1,by lia⟩
  ·rw[if_neg h1] at h;cases h
theorem Sq{α:Type}{xs:List α}{i:Int}{v:α}(h:rG xs i=some v):∃j,seqIndex? i xs.length=some j/\xs[j]?=some v/\j<xs.length/\-(xs.length:Int)<=i/\i<xs.length:=by
 unfold rG at h;cases e:tH xs.length i with
 |none=>rw[e] at h;cases h
 |some j=>
  rw[e] at h;obtain⟨h1,h2,h3,h4⟩:=Zo e;exact⟨j,h1,h,h2,h3,h4⟩
def rH(b:Expr):Prop:=∀o i,subscripted b false o i=operate [o,i] (getItem o i)
def yg(X:Cx)(r:R2):Prop:=
 ∀(value slice:Expr) (ao:List (Addr×Obj)) (s:Shared) (Z:St) (H:Hp) (x y:V) (v u:Value) (Q:VK),Inv X ao Z H s->RelV x v->RelV y u->r x y H Q->
  subscripted slice false v u=operate [v,u] (getItem v u)->wpAny (model X.prog X.w) X.A (subscriptTail value slice v u) (EP X ao Z Q) X.xe s
def MtR(X:Cx)(id:String)(r:V->List V->Hp->VK->Prop):Prop:=
 ∀(ao:List (Addr×Obj)) (s:Shared) (Z:St) (H:Hp) (x:V) (xs:List V) (v:Value) (us:List Value) (Q:VK),Inv X ao Z H s->RelV x v->Vals xs us->r x xs H Q->
  wpAny (model X.prog X.w) X.A (call (.builtin id) (v::us)) (EP X ao Z Q) X.xe s
section
variable {X:Cx}{a b:Expr}{ta tb:TE}{pos:Pos}
theorem yg.or{r r':R2}(h:yg X r)(h':yg X r'):yg X (λx y H Q=>r x y H Q\/r' x y H Q):=by
 intro value slice ao s Z H x y v u Q I rx ry q hs;rcases q with q|q
 ·exact h value slice ao s Z H x y v u Q I rx ry q hs
 ·exact h' value slice ao s Z H x y v u Q I rx ry q hs
theorem zol{r:R2}(hr:yg X r)(ha:PE X a ta)(hb:PE X b tb)(hs:rH b):PE X (.Subscript a b pos) (Ob r ta tb):=by
 intro ao s Z H Q I h;exact Subscript_ (Cg ha hb I h λv u s2 x y H2 I2 rx ry q=>hr a b ao s2 Z H2 x y v u Q I2 rx ry q (hs _ _))
def Jw(K:W.Frag):R2:=λx y H Q=>∃p xs i v,x=.ref p/\y=.int i/\cY K H p xs/\rG xs i=some v/\Q v H
def Jx(K:W.Frag):R2:=λx y H Q=>∃p xs i v,x=.ref p/\y=.int i/\gw K H p xs/\rG xs i=some v/\Q v H
def Jy:R2:=λx y H Q=>∃z i c,x=.str z/\y=.int i/\z.length<=sizeLine/\rG z.cps.toList i=some c/\Q (.str ⟨#[c]⟩) H
theorem yh:yg X (Jw X.K):=by
 intro value slice ao s Z H x y v u Q I rx ry h hs;obtain⟨p,xs,i,z,rfl,rfl,hq,he,q⟩:=h;cases rx;obtain⟨t,rfl⟩:=ry;obtain⟨its,r,pl,hz⟩:=I.list hq;obtain⟨j,h1,h2,h3,h4,h5⟩:=Sq he;obtain⟨w,ew,lR⟩:=r.get h2;have hl:=r.length;have hn:=jm;have fin:EP X ao Z Q w s:=⟨z,H,I,lR,q⟩;by_cases h0:0<=i
 ·have hj:i.toNat=j:=by
   rw[seqIndex_of h0 h5] at h1;exact cJ h1
  exact item_listR pl.isList h0 gV (by rw[hj];simpa using ew) fin hs
 ·have hj:(i+(its.toArray.size:Int)).toNat=j:=by
   rw[seqIndex_neg gV h4] at h1;rw[eY,<-hl];exact cJ h1
  exact subscriptTail_builtinR (x:=w) pl.isList.typeIs slot_list_getitem.lookup
   (wpAny_getItem_list_neg (Q:=λr s'=>r=w/\EP X ao Z Q r s') pl.isList gV (by rw[eY]<;>lia) gV (by rw[hj];simpa using ew) ⟨rfl,fin⟩) hs
theorem Cu:yg X (Jx X.K):=by
 intro value slice ao s Z H x y v u Q I rx ry h hs;obtain⟨p,xs,i,z,rfl,rfl,hq,he,q⟩:=h;cases rx;obtain⟨t,rfl⟩:=ry;obtain⟨its,r,pl,hz⟩:=I.tuple hq;obtain⟨j,h1,h2,h3,h4,h5⟩:=Sq he;obtain⟨w,ew,lR⟩:=r.get h2;have hl:=r.length;have hn:=jm;have fin:EP X ao Z Q w s:=⟨z,H,I,lR,q⟩;exact subscriptTail_builtinR (x:=w) pl.typeIs slot_tuple_getitem.lookup
  (getItem_tuple (j:=j) (Q:=λr s'=>r=w/\EP X ao Z Q r s') pl gV gV (by rw[eY,<-hl];exact h1) (by simpa using ew) ⟨rfl,fin⟩) hs
theorem zm2:yg X Jy:=by
 intro value slice ao s Z H x y v u Q I rx ry h hs;obtain⟨z,i,c,rfl,rfl,hz,he,q⟩:=h;obtain⟨t,rfl⟩:=rx;obtain⟨t',rfl⟩:=ry;obtain⟨j,h1,h2,h3,h4,h5⟩:=Sq he;have hl:z.cps.toList.length=z.length:=by simp[Str.length]
 rw[hl] at h1 h4 h5;have hn:=jm;exact tail_any (typeIs_str s z t) slot_str_getitem.lookup (getItem_str (c:=c) (by
  have e1:decide (i < -(2^63:Int))=false:=pP gV;have e2:decide (i>=2^63)=false:=pP gV;rw[e1,e2,Bool.or_false]) (by rw[h1];simpa using h2) ⟨.str ⟨#[c]⟩,H,I.tok _,⟨_,rfl⟩,q⟩) hs
def Ss(K:W.Frag):R2:=λx y H Q=>Jw K x y H Q\/Jx K x y H Q\/Jy x y H Q
def zm0:yg X (Ss X.K):=yh.or (Cu.or zm2)
def zft(its:List Value)(n j:Nat)(u:Value):Obj.mapSeq (·.setIfInBounds j u) {cls:=.type "list",data:=.seq its.toArray n}={cls:=.type "list",data:=.seq (its.set j u).toArray n}:=by
 simp[Obj.mapSeq]
theorem Inv.lst{ao:List (Addr×Obj)}{Z:St}{H:Hp}{s:Shared}{p:Addr}{xs:List V}(I:Inv X ao Z H s)(h:H p=some (.lst xs)) :
  ∃(its:List Value) (n:Nat),Vals xs its/\s.heap.get? p=some {cls:=.type "list",data:=.seq its.toArray n}/\xs.length<=sizeLine:=by
 obtain⟨z,its,n,r,e⟩:=I.hok p _ h;exact⟨its,n,r,e,z⟩
theorem Inv.Cv{ao:List (Addr×Obj)}{Z:St}{H:Hp}{s:Shared}{p:Addr}{xs ys:List V}{its its':List Value}{n n':Nat}{f:Obj->Obj}(I:Inv X ao Z H s)(h:H p=some (.lst xs))
  (ho:s.heap.get? p=some {cls:=.type "list",data:=.seq its.toArray n}) (hf:f {cls:=.type "list",data:=.seq its.toArray n}={cls:=.type "list",data:=.seq its'.toArray n'}) (r:Vals ys its') (hz:ys.length<=sizeLine) (t:Nat) :
  Inv X ao Z (upd H p (.lst ys)) {s with heap:=s.heap.update p f,toks:=t}:=by
 have e:(s.heap.update p f).get? p=some {cls:=.type "list",data:=.seq its'.toArray n'}:=by
  rw[Bg f ho (by rw[hf]<;>rfl),hf]
 refine I.write (x:=p) (e:=p) (by rw[h];trivial) (.inl rfl) (λb u hb q=>(wY _ _ (Ne.symm hb)).trans q) ⟨_,e⟩ ?_;exact⟨hz,its',n',r,e⟩
def Jz:V->V->V->Hp->(Hp->Prop)->Prop:=λo i v H Q=>∃p xs k j,o=.ref p/\i=.int k/\H p=some (.lst xs)/\tH xs.length k=some j/\Q (upd H p (.lst (xs.set j v)))
theorem zhL:Ja X Jz:=by
 intro ao s Z H o i v ov iv u Q I ro ri rv h;obtain⟨p,xs,k,j,rfl,rfl,hp,hj,q⟩:=h;cases ro;obtain⟨t,rfl⟩:=ri;obtain⟨its,n,r,ho,hz⟩:=I.lst hp;obtain⟨h1,h2,h3,h4⟩:=Zo hj;have hl:=r.length;have hn:=jm;have I':Inv X ao Z (upd H p (.lst (xs.set j v))) {s with heap:=s.heap.update p (Obj.mapSeq (·.setIfInBounds j u))}:=
  I.Cv hp ho (zft its n j u) (r.set rv j) (by rw[qe];exact hz) s.toks
 by_cases h0:0<=k
 ·have hk:k.toNat=j:=by
   rw[seqIndex_of h0 h4] at h1;exact cJ h1
  exact PySem.W.ki_setAt ho h0 gV (by rw[eY,<-hl];exact h4) (by rw[hk];exact⟨_,I',q⟩)
 ·have hk:(k+(its.toArray.size:Int)).toNat=j:=by
   rw[seqIndex_neg gV h3] at h1;rw[eY,<-hl];exact cJ h1
  exact PySem.W.ki_setBack ho gV (by rw[eY,<-hl];exact h3) gV (by rw[hk];exact⟨_,I',q⟩)
theorem zdP(lo hi:Option Int)(n:Nat):(sliceBounds lo hi none n).1=((HT.b_ n 0 lo:Nat):Int)/\(sliceBounds lo hi none n).2.1=((HT.b_ n n hi:Nat):Int)/\(sliceBounds lo hi none n).2.2=1:=by
 refine⟨?_,?_,rfl⟩
 ·cases lo with
  |none=>simp[sliceBounds,HT.b_]
  |some i=>
   simp only[sliceBounds,HT.b_,Option.getD_none,show (1:Int)>0 by decide,if_true];by_cases h:i<0
   ·simp only[h,if_true]<;>lia
   ·simp only[h,oE]<;>lia
 ·cases hi with
  |none=>simp[sliceBounds,HT.b_]
  |some i=>
   simp only[sliceBounds,HT.b_,Option.getD_none,show (1:Int)>0 by decide,if_true];by_cases h:i<0
   ·simp only[h,if_true]<;>lia
   ·simp only[h,oE]<;>lia
theorem zcS(its:List Value)(lo hi:Option Int):slicePick its.toArray lo hi none=((its.drop (HT.b_ its.length 0 lo)).take (HT.b_ its.length its.length hi-HT.b_ its.length 0 lo)).toArray:=by
 obtain⟨h1,h2,h3⟩:=zdP lo hi its.toArray.size;unfold slicePick;rw[h1,h2,h3];simp only[sliceRange_one,pick_run,eY]<;>rfl
def JD(K:W.Frag):V->Option Int->Option Int->Hp->VK->Prop:=λx lo hi H Q=>∃a xs,x=.ref a/\cY K H a xs/\∀p,H p=none->Q (.ref p) (upd H p (.lst (m7 xs lo hi)))
theorem yj:yd X (JD X.K):=by
 intro ao s Z H x v vl vu lo hi sl Q I rx hs pl pu h;obtain⟨a,xs,rfl,hx,q⟩:=h;cases rx;obtain⟨its,r,ht,hz⟩:=I.list hx;have hlen:=r.length;refine⟨"list",_,slot_list_getitem.lookup,ht.isList.typeIs,?_⟩;refine wpAny_getItem_list_slice ht.isList hs pl pu .none Zaa ?_ (by rw[eY]<;>lia);rw[zcS,<-hlen];refine⟨.ref s.heap.objs.size,_,I.laid (t':=s.toks) (o:=.lst (m7 xs lo hi)) (λb ob q=>cD _ q) (cj _) ?_,rfl,q _ (I.hok.fresh (cj _))⟩;exact⟨jZ (Zn xs lo hi) hz,_,0,(r.drop (HT.b_ xs.length 0 lo)).take (HT.b_ xs.length xs.length hi-HT.b_ xs.length 0 lo),dX _ rfl⟩
theorem zdB:cW X (.builtin "len") (λxs H Q=>∃p ys,xs=[.ref p]/\(cY X.K H p ys\/gw X.K H p ys)/\Q (.int ys.length) H):=by
 intro ao s Z H xs us Q I r h;obtain⟨p,ys,rfl,hq,q⟩:=h;obtain⟨u,rfl,rx⟩:=vals1 r;cases rx;have hn:=jm;rcases hq with hq|hq
 ·obtain⟨its,r',pl,hz⟩:=I.list hq;have hlen:=r'.length;exact Calls.call_len_list pl.isList (by simp only[eY]<;>lia) ⟨.int ys.length,H,I.tok _,⟨s.toks+1,by rw[eY,hlen]⟩,q⟩
 ·obtain⟨its,r',pl,hz⟩:=I.tuple hq;have hlen:=r'.length;exact len_tuple pl (by simp only[eY]<;>lia) ⟨.int ys.length,H,I.tok _,⟨s.toks+1,by rw[eY,hlen]⟩,q⟩
theorem zdv:cW X (.type "list") (λxs H Q=>∃p ys,xs=[.ref p]/\(cY X.K H p ys\/gw X.K H p ys)/\∀l,H l=none->Q (.ref l) (upd H l (.lst ys))):=by
 intro ao s Z H xs us Q I r h;obtain⟨p,ys,rfl,hq,q⟩:=h;obtain⟨u,rfl,rx⟩:=vals1 r;cases rx;have fin:∀(its:List Value),Vals ys its->ys.length<=sizeLine->∀(h':Heap) (c':Nat),(∀b o',s.heap.get? b=some o'->h'.get? b=some o')->
   h'.get? s.heap.objs.size=some {cls:=.type "list",dict:=none,data:=.seq its.toArray c',slots:=#[]}->EP X ao Z Q (.ref s.heap.objs.size) {s with heap:=h'}:=λits r' hz h' c' kp e=>
  ⟨.ref s.heap.objs.size,_,I.laid (t':=s.toks) kp (cj _) (show bL X.prog X.w _ h' _ (.lst ys) from ⟨hz,its,c',r',e⟩),rfl,q _ (I.hok.fresh (cj _))⟩
 rcases hq with hq|hq
 ·obtain⟨its,r',pl,hz⟩:=I.list hq;have hlen:=r'.length;obtain⟨o,ho,hc,n,hd⟩:=pl.isList;exact call_list_seq p (.inl rfl) ho hc hd (λh' c' kp e=>fin its r' hz h' c' kp e) (by simp only[eY]<;>lia)
 ·obtain⟨its,r',pl,hz⟩:=I.tuple hq;have hlen:=r'.length;obtain⟨o,ho,hc,n,hd⟩:=pl;exact call_list_seq p (.inr rfl) ho hc hd (λh' c' kp e=>fin its r' hz h' c' kp e) (by simp only[eY]<;>lia)
theorem zcQ:cW X (.type "tuple") (λxs H Q=>∃p ys,xs=[.ref p]/\((cY X.K H p ys/\∀l,H l=none->Q (.ref l) (upd H l (.tup ys)))\/(gw X.K H p ys/\Q (.ref p) H))):=by
 intro ao s Z H xs us Q I r h;obtain⟨p,ys,rfl,h⟩:=h;obtain⟨u,rfl,rx⟩:=vals1 r;cases rx;rcases h with ⟨hq,q⟩|⟨hq,q⟩
 ·obtain⟨its,r',pl,hz⟩:=I.list hq;have hlen:=r'.length;refine call_tuple_list pl.isList (λh' kp=>?_) (by simp only[eY]<;>lia);have I1:Inv X ao Z H {s with heap:=h'}:=I.kept (t':=s.toks) kp;have I2:Inv X ao Z (upd H h'.objs.size (.tup ys)) {s with heap:=h'.push {cls:=.type "tuple",data:=.seq its.toArray}}:=
   I1.laid (t':=s.toks) (λb o e=>cD _ e) (cj _) (show bL X.prog X.w _ _ _ (.tup ys) from ⟨hz,its,r',IsTup.new _ _⟩)
  exact⟨.ref h'.objs.size,_,I2,rfl,q _ (I1.hok.fresh (cj _))⟩
 ·obtain⟨its,r',pl,hz⟩:=I.tuple hq;exact call_tuple_same pl ⟨.ref p,H,I,rfl,q⟩
def Zq(K:W.Frag)(T:String)(x:V)(H:Hp):Prop:=match x with
 |.str _=>T="str"
 |.int _=>T="int"
 |.ref p=>(T="list"/\∃xs,cY K H p xs)\/(T="tuple"/\∃o,K.lookup p=some o/\o.cls=.type "tuple"/\o.dict=none) \/
   (T="dict"/\((∃kvs,H p=some (.dK kvs))\/∃kvs,H p=some (.dT kvs)))\/(T="set"/\∃S n,H p=some (.set S n))
 |_=>False
theorem zlG{ao:List (Addr×Obj)}{Z:St}{H:Hp}{s:Shared}{T:String}{x:V}{v:Value}(I:Inv X ao Z H s)(r:RelV x v)(ty:Zq X.K T x H) :
  s.TypeIs v T/\∀a,v=.ref a->∃ob,s.heap.get? a=some ob/\ob.dict=none:=by
 cases x with
 |str z=>
  obtain⟨t,rfl⟩:=r;cases (show T="str" from ty);exact⟨typeIs_str s z t,λ_ e=>nomatch e⟩
 |int i=>
  obtain⟨t,rfl⟩:=r;cases (show T="int" from ty);exact⟨typeIs_int s i t,λ_ e=>nomatch e⟩
 |ref p=>
  cases r;rcases ty with ⟨rfl,xs,hq⟩|⟨rfl,o,hk,hc,hd⟩|⟨rfl,hk⟩|⟨rfl,S,n,hk⟩
  ·obtain⟨its,_,pl,_⟩:=I.list hq;refine⟨pl.isList.typeIs,λa e=>?_⟩;cases e;obtain⟨o,n,e,c,hd,_⟩:=pl;exact⟨o,e,hd⟩
  ·refine⟨⟨o,I.mF p o hk,hc⟩,λa e=>?_⟩;cases e;exact⟨o,I.mF _ o hk,hd⟩
  ·have z:∃o,s.heap.get? p=some o/\o.ExactDict:=by
    rcases hk with ⟨kvs,hk⟩|⟨kvs,hk⟩
    ·obtain⟨_,_,_,_,o,_,_,e,ex,_⟩:=I.hok p _ hk;exact⟨o,e,ex⟩
    ·obtain⟨_,_,_,_,o,_,_,e,ex,_⟩:=I.hok p _ hk;exact⟨o,e,ex⟩
   obtain⟨o,e,ex⟩:=z;refine⟨⟨o,e,ex.1⟩,λa e2=>?_⟩;cases e2;exact⟨o,e,ex.2.1⟩
  ·obtain⟨o,_,_,_,e,ex,_⟩:=I.hok p _ hk;refine⟨⟨o,e,ex.1⟩,λa e2=>?_⟩;cases e2;exact⟨o,e,ex.2.1⟩
 |_=>exact False.elim ty
def tBM(K:W.Frag)(T:String)(r:V->List V->Hp->VK->Prop)(to:TE)(t:TA):TE:=λZ H Q=>to Z H λx H1=>Zq K T x H1/\t Z H1 λxs H2=>r x xs H2 Q
variable {o e:Expr}{es:List Expr}{to:TE}{t:TA}{name:Str}{apos cpos:Pos}{T id:String}{r:V->List V->Hp->VK->Prop}
theorem zou(pa:PlainAttrs T)(slot:Slot T name id)(hty:typeOf (.builtin id)=pure (.type "method_descriptor"))(hm:MtR X id r)(ho:PE X o to)(ha:PA X (e::es) t)
  (oR:attributeBase o name X.env (eval o X.env)=eval o X.env:=by rfl)
  (Cw:((backTo cpos (starEach (e::es) X.env)).all (λx=>!x.1)&&(backToKw cpos (keywordEach [] X.env)).all (λx=>x.1.isSome)
  &&decide ((e::es).length+([]:List Keyword).length+(if ([]:List Keyword).isEmpty then 0 else 1)<30))=true:=by rfl)
  (oU:(apos.endLine==cpos.line)=true:=by rfl) (hs:starEach (e::es) X.env=(false,eval e X.env)::starEach es X.env:=by rfl) (qy:(backTo cpos (starEach es X.env)).any (·.1)=false:=by rfl) :
  PE X (.Call (.Attribute o name apos) (e::es) [] cpos) (tBM X.K T r to t):=by
 intro ao s Z H Q I h;refine wpAny_Call_method_late oR Cw oU rfl (aX (ho ao s Z H _ I h) λv s1 ⟨x,H1,I1,r1,ty,q1⟩=>?_);obtain⟨h1,h2⟩:=zlG I1 r1 ty;refine⟨T,id,pa,slot,hty,h1,h2,?_⟩;have hA:=ha cpos ao s1 Z H1 _ I1 q1;rw[hs] at hA ⊢;refine Calls.callWith_builtin (by show (false||(backTo cpos (starEach es X.env)).any (·.1))=false;rw[qy]<;>rfl) (Calls.evalArgs_plain ?_);exact aX hA λus s2 hx=>fH hx λvs H2 I2 r2 q2=>hm ao s2 Z H2 x vs v us Q I2 r1 r2 q2
end
def MtM(X:Cx)(id:String)(r:V->List V->Hp->VK->Prop):Prop:=
 ∀(ao:List (Addr×Obj)) (s:Shared) (Z:St) (H:Hp) (x:V) (xs:List V) (v:Value) (us:List Value) (Q:VK),Inv X ao Z H s->RelV x v->Vals xs us->r x xs H Q->
  wpAny (model X.prog X.w) X.A (call (.builtin id) (v::us)) (EP X ao Z Q) X.xe s
def Vals.one{x:V}{us:List Value}(h:Vals [x] us):∃u,us=[u]/\RelV x u:=by
 cases h with
 |cons r t=>cases t;exact⟨_,rfl,r⟩
def Vals.two{x y:V}{us:List Value}(h:Vals [x,y] us):∃u v,us=[u,v]/\RelV x u/\RelV y v:=by
 cases h with
 |cons r t=>
  obtain⟨v,rfl,q⟩:=Vals.one t;exact⟨_,_,rfl,r,q⟩
section
variable {X:Cx}{ao:List (Addr×Obj)}{Z:St}{H:Hp}{s:Shared}{l b:Addr}{xs ys zs:List V}
theorem Inv.Sv{its its':List Value}{n:Nat}{f:Array Value->Array Value}{t':Nat}(I:Inv X ao Z H s)(hH:H l=some (.lst xs))
  (e:s.heap.get? l=some {cls:=.type "list",data:=.seq its.toArray n}) (hf:f its.toArray=its'.toArray) (hv:Vals ys its') (hz:ys.length<=sizeLine) :
  Inv X ao Z (upd H l (.lst ys)) {s with heap:=s.heap.update l (Obj.mapSeq f),toks:=t'}:=by
 have q:=PySem.IsL.update e f;rw[hf] at q;refine I.write (x:=l) (e:=l) (by rw[hH];exact trivial) (.inl rfl) (λb' u hb hu=>(wY s.heap (Obj.mapSeq f) (Ne.symm hb)).trans hu) ⟨_,q⟩ ?_;exact⟨hz,its',_,hv,q⟩
theorem Inv.Sw{its:List Value}{t':Nat}(I:Inv X ao Z H s)(hv:Vals ys its)(hz:ys.length<=sizeLine) :
  Inv X ao Z (upd H s.heap.objs.size (.lst ys)) {s with heap:=s.heap.push {cls:=.type "list",data:=.seq its.toArray},toks:=t'}:=
 I.laid (λ_ _ q=>cD _ q) (cj _) ⟨hz,its,0,hv,dX _ rfl⟩
def Inv.fresh(I:Inv X ao Z H s):H s.heap.objs.size=none:=I.hok.fresh (cj _)
theorem Inv.Sx(I:Inv X ao Z H s)(hH:H l=some (.lst xs)):xs.length<=sizeLine/\∃(its:List Value) (n:Nat),Vals xs its/\xs.length=its.length/\s.heap.get? l=some {cls:=.type "list",data:=.seq its.toArray n}:=by
 obtain⟨z,its,n,r,e⟩:=I.hok l _ hH;exact⟨z,its,n,r,r.length,e⟩
end
section
variable {X:Cx}
def yp:V->List V->Hp->VK->Prop:=λx vs H Q=>∃l xs y,x=.ref l/\vs=[y]/\H l=some (.lst xs)/\xs.length<sizeLine/\Q .non (upd H l (.lst (xs++[y])))
theorem Sy:MtM X "list.append" yp:=by
 intro ao s Z H x vs v us Q I rx rv h;obtain⟨l,xs,y,rfl,rfl,hH,hz,q⟩:=h;cases rx;obtain⟨u,rfl,ru⟩:=rv.one;obtain⟨z,its,n,r,hl,e⟩:=I.Sx hH;refine call_meets F.slot_list_append ⟨_,e,rfl⟩ F.entry_list_append (F.args_list_append_2 _ _) (PySem.list_append l its.toArray n u (by rw[eY];lia)) ⟨e,?_⟩;refine⟨.non,_,I.Sv (its':=its++[u]) hH e Zaa (r.append (.cons ru .nil)) ?_,rfl,q⟩;rw[pL,List.length_singleton]
 lia
end
section
variable {prog:Program}{w:World}{A:Around}{E:Value->Shared->Prop}{s:Shared}
set_option maxRecDepth 100000 in
end
end L2
namespace Zr
open PySem PySem.W PySem.Calls PyProof.Rows
theorem zbX{P:Params}{h:Heap}:∀(ns:List Int) (vs:List Value),WellAll P h vs (ns.map WData.int)->IntsAre vs ns:=by
 intro ns
 induction ns with
 |nil=>
  intro vs w;rw[List.map_nil] at w;cases w;exact .nil
 |cons n ns ih=>
  intro vs w;rw[jx] at w;cases w with
  |cons a b=>
   cases a;exact .cons _ _ (ih _ b)
theorem zf2{l:OpenLaw}{n:Nat}(hn:l.most=some n){P:Params}{h:Heap}{args:List WData}{vals:List Value}
  (hpre:l.row.toRowW.claim.pre args=true) (SJ:WellAll P h vals args) :
  ∃a vs ns,vals=[Value.ref a]/\args=[WData.list (ns.map WData.int)]/\h.get? a=some {cls:=.type "list",data:=.seq vs.toArray}/\IntsAre vs ns/\ns.length<=n:=by
 have Gv:WShape.hasAll [] args [.list .int]=true:=(pre_splitW hpre).1;have hc:l.pre.holds [] {args:=args}=true:=(pre_splitW hpre).2;obtain⟨d,r,rfl,h1,h2⟩:=hasAllW_cons Gv;obtain rfl:=hasAllW_nil h2;obtain⟨xs,rfl,h3⟩:=hasW_list h1;obtain⟨ns,rfl⟩:=items_int h3;have hlen:ns.length<=n:=by
  unfold OpenLaw.pre at hc;have h4:(WTm.not (.lt (.lit (.int (n:Int))) (.len (.arg 0)))).holds [] {args:=[.list (ns.map .int)]}=true:=by
   have h4:=(holds_andW hc).1;rw[hn] at h4;exact h4
  have h5:=condW_of h4 (w_not (w_lt w_lit (w_len_list (w_arg rfl))));rw[cZ] at h5;refine HN λq=>?_;have q':(n:Int)<((ns.length:Nat):Int):=by lia
  first
   |(rw[fP q'] at h5;exact absurd h5 Tv)
   |(simp at h5;lia)
 cases SJ with
 |cons w1 w2=>
  cases w2;cases w1 with
  |list ho qz=>exact⟨_,_,ns,rfl,rfl,ho,zbX ns _ qz,hlen⟩
theorem zgm(l:OpenLaw)(args:List WData):l.row.toRowW.claim.post args (.bool true) args=true:=
 postW_of (r:=l.row.toRowW) (X:=(true==true))
  (show WShape.has [] (.bool true) .bool=true by first|rfl|decide|simp[WShape.has,WShape.arms,WShape.armsAll])
  (show (WTm.eq .res (.lit (.bool true))).value [] {args:=args,res:=some (.bool true),after:=args}=some (.bool (true==true)) from w_eq_bool (w_res rfl) w_lit) rfl
theorem oV{l:OpenLaw}{n:Nat}{q:Program}{loose:List Str}{XP:(Str->Option Value)->Heap->Prop}{YP:World->Heap->Prop}{d:DefRec}
  (hn:l.most=some n) (SM:d.params.defaults=[])
  (call:∀(w:World) (s₀ s₁:Shared) (mg mb:Str->Option Value) (fa:Addr) (o:Obj) (pm cd doc:Value) (a:Addr) (vs:List Value) (ns:List Int),
   Ground q loose [] XP w s₀ mg mb s₁.heap->YP w s₁.heap->
   s₁.heap.get? fa=some o->o.data=.func (docDef d.name d.params d.body d.scope pm cd doc)->s₁.heap.CodeRec cd d.name->mg d.name=some (.ref fa)->
   s₁.heap.get? a=some {cls:=.type "list",data:=.seq vs.toArray}->IntsAre vs ns->ns.length<=n->s₁.gens=#[]->
   codeAny (model l.prog w) callerA (.call (.ref fa) ⟨[.ref a],[]⟩) (λr s'=>r=.ok (.ret (.bool true))/\OldK s₁.heap s'.heap/\s'.os=s₁.os/\AllBare s'.gens) s₁) :
  WalkO q loose XP YP l.row.toRowW d [] (λf vs=>PySem.call f vs):=by
 intro w s₀ s₁ mg mb G Y fa o pm cd doc dV kV ho hd iH hD hmg hg args vals as hpre aac hrd SJ Oh;obtain rfl:dV=.none:=Dflts.none hD SM;obtain rfl:kV=.none:=Dflts.noKw hD;obtain⟨a,vs,ns,rfl,rfl,Cy,hints,hlen⟩:=zf2 hn hpre SJ;refine enter_call (zF (call w s₀ s₁ mg mb fa o pm cd doc a vs ns G Y ho (fd_plain hd) iH hmg Cy hints hlen hg) λr s' hq=>?_);obtain⟨rfl,h2,h3,h4⟩:=hq;exact⟨.inl ⟨.bool true,.bool true,[],rfl,λ_=>rfl,.bool true,zgm l _,λ_=>⟨List.Pairwise.nil,λ_ hm=>(nomatch hm)⟩⟩,h2,h3,h4⟩
end Zr
namespace L2
open PySem PySem.Spec PyProof.Rows
def Zu:∀{vs:List Value} {ns:List Int},IntsAre vs ns->Vals (ns.map V.int) vs
 |_,_,.nil=>.nil
 |_,_,.cons n t h=>.cons ⟨t,rfl⟩ (Zu h)
def SN(h0:Heap)(H:Hp)(h:Heap)(e:Addr)(hd:Value):Prop:=
 hd=.none\/∃T oT ts,hd=.ref T/\h0.get? T=none/\H T=none/\T≠e/\h.get? T=some oT/\oT.data=.fields ts/\ts[3]?=some .none
structure Exc(h0:Heap)(H:Hp)(h:Heap)(e C:Addr)(dx:Option Addr):Prop where
 new:h0.get? e=none
 un:H e=none
 ob:∃oe vs hd,h.get? e=some oe/\oe.cls=.ref C/\oe.dict=dx/\oe.data=.fields vs/\vs[1]?=some hd/\SN h0 H h e hd
structure SQ(h0:Heap)(H:Hp)(fr:List Addr)(h h':Heap)(ch:List Addr):Prop where
 rec_:∀b∈ch,h0.get? b=none/\H b=none/\∃o vs,h.get? b=some o/\o.data=.fields vs
 keep:∀b o,h.get? b=some o->b∉fr->b∉ch->h'.get? b=some o
 slot:∀b o,h.get? b=some o->b∈fr->∃sl,h'.get? b=some {o with slots:=sl}
 there:∀b o,h.get? b=some o->∃o',h'.get? b=some o'
noncomputable def uU(head:Value)(L:Addr)(pl:List Value):Obj:=
 {cls:=.type "traceback",dict:=none,data:=.fields ([head,.ref L,.none,rawInt L,.none]++(if pl.isEmpty then List.replicate 6 Value.none else pl)).toArray}
def Zv(o:Obj)(f:Array Value->Array Value):(o.mapFields f).dict=o.dict:=by
 obtain⟨c,d,dt,sl⟩:=o;cases dt<;>rfl
def Zw(o:Obj)(f:Array Value->Array Value):(o.mapFields f).cls=o.cls:=by
 obtain⟨c,d,dt,sl⟩:=o;cases dt<;>rfl
section
variable {M:Model}{A:Around}{E:Value->Shared->Prop}{s:Shared}{base h0:Heap}{env:Env}{outer:List Env}{L e C:Addr}{dx:Option Addr}{H:Hp}{Q:Unit->Shared->Prop}
theorem Zx(pR:A.frames=some (env::outer))(hl:s.heap.FunFrames base (env::outer))(hf:env.frame=some L)
  (he:s.heap.get? e=some oe) (hd:oe.data=.fields vs) (hsz:1<vs.size)
  (k:∀h' T oT ts,s.heap.objs.size<=T->(∀b o,s.heap.get? b=some o->b∉frs (env::outer)->b≠e->h'.get? b=some o)->(∀b o,s.heap.get? b=some o->b∈frs (env::outer)->∃sl,h'.get? b=some {o with slots:=sl})->
   h'.get? e=some (oe.mapFields (·.setIfInBounds 1 (.ref T)))->h'.get? T=some oT->oT.data=.fields ts->3<ts.size->ts[3]?=some (rawInt L)->Q () {s with heap:=h'}) :
  wpAny M A (do let a <-frameOf env;let pl <-entryPlaceOf L hn;let b <-EntryCells.newEntry head a .none (rawInt L) .none pl;setField (.ref e) 1 b) Q E s:=by
 have JF:e∉frs (env::outer):=λhm=>by
  obtain⟨_,o,ho,hx⟩:=hl.mem hm;rw[he] at ho;cases ho;exact hx vs hd
 refine aB (wpAny_frameOf_fun pR hl hf λh₁ sl₁=>?_);refine aB (wpAny_entryPlaceOf λpl hpl=>?_);unfold EntryCells.newEntry newFields;refine aB (pN ?_ (hpl.sizeOk5 _ _ _ _ _));have e1:h₁.get? e=some oe:=(sl₁.2.1 e JF).trans he;have e2:(h₁.push (uU head L pl)).get? e=some oe:=cD _ e1;refine HX e2 hd hsz ?_;have ne:h₁.objs.size≠e:=qj (bR e1);have d3:=zA hd (·.setIfInBounds 1 (Value.ref h₁.objs.size));have kp:∀b o,h₁.get? b=some o->b≠e->((h₁.push (uU head L pl)).update e (Obj.mapFields (·.setIfInBounds 1 (Value.ref h₁.objs.size)))).get? b=some o:=λb o q n=>by
  rw[wY _ _ n.symm];exact cD _ q
 refine k _ h₁.objs.size (uU head L pl) _ (by rw[sl₁.1];exact cj _) (λb o q n1 n2=>kp b o ((sl₁.2.1 b n1).trans q) n2) (λb o q m=>?_) (Bg _ e2 (M9 d3)) ?_ rfl ?_ ?_
 ·obtain⟨sl,z⟩:=sl₁.2.2 b o q;exact⟨sl,kp b _ z λy=>JF (y▸m)⟩
 ·rw[wY _ _ ne.symm];exact dX _ rfl
 ·simp only[eY,pL,iu,FW]<;>lia
 ·first
   |(simp;done)
   |(rcases hpl with rfl|⟨_,_,_,_,_,_,_,rfl⟩<;>simp)
theorem zh4(pR:A.frames=some (env::outer))(hl:s.heap.FunFrames base (env::outer))(hf:env.frame=some L)(x:Exc h0 H s.heap e C dx)
  (k:∀h' T oT oe ts vs ch,SQ h0 H (frs (env::outer)) s.heap h' ch->s.heap.objs.size<=T->h'.get? e=some oe->oe.cls=.ref C->oe.dict=dx->oe.data=.fields vs->vs[1]?=some (.ref T)->h'.get? T=some oT->oT.data=.fields ts->
   3<ts.size->ts[3]?=some (rawInt L)->Q () {s with heap:=h'}):wpAny M A (noteFrame (.ref e) env) Q E s:=by
 obtain⟨oe,vs,hd,he,hc,Oi,wF,h1,tb⟩:=x.ob;have hsz:1<vs.size:=(Array.getElem?_eq_some_iff.mp h1).1;have JF:∀b o ws,s.heap.get? b=some o->o.data=.fields ws->b∉frs (env::outer):=λb o ws q d hm=>by
  obtain⟨_,o',ho,hx⟩:=hl.mem hm;rw[q] at ho;cases ho;exact hx ws d
 unfold noteFrame;simp only[hf];refine aB (lD he wF h1 ?_);rcases tb with rfl|⟨T,oT,ts,rfl,nT,uT,neT,gT,dT,h3⟩
 ·rw[if_neg Tv];refine Zx pR hl hf he wF hsz λh' T oT ts lt kp sl ge gT dT z3 z4=>?_;refine k h' T oT _ ts _ [e] ⟨λb hb=>?_,λb o q n1 n2=>kp b o q n1 λz=>n2 (by rw[z];exact .head _),sl,λb o q=>?_⟩ lt ge ((Zw _ _).trans hc) ((Zv _ _).trans Oi) (zA wF _) (by simp[hsz]) gT dT z3 z4
  ·obtain rfl:b=e:=by simpa using hb
   exact⟨x.new,x.un,oe,vs,he,wF⟩
  ·by_cases z:b=e
   ·subst z;exact⟨_,ge⟩
   ·by_cases m:b∈frs (env::outer)
    ·obtain⟨w,q'⟩:=sl b o q m;exact⟨_,q'⟩
    ·exact⟨o,kp b o q m z⟩
 ·rw[if_pos (show (Value.ref T != Value.none)=true from by simp)];refine aB (lD gT dT h3 ?_);rw[if_neg (show ¬((Value.none==rawInt L)=true) from by simp[rawInt])];have z3:3<ts.size:=(Array.getElem?_eq_some_iff.mp h3).1;refine aB (HX gT dT z3 ?_);have oth:∀b,b≠T->(s.heap.update T (Obj.mapFields (·.setIfInBounds 3 Value.none))).get? b=s.heap.get? b:=λb n=>wY _ _ n.symm;have hl':(s.heap.update T (Obj.mapFields (·.setIfInBounds 3 Value.none))).FunFrames base (env::outer):=hl.of_keeps λb o q nd=>⟨o,(oth b λz=>by subst z;rw[gT] at q;cases q;exact nd ts dT).trans q,rfl⟩;have sT:(s.heap.update T (Obj.mapFields (·.setIfInBounds 3 Value.none))).get? T=some (oT.mapFields (·.setIfInBounds 3 Value.none)):=Bg _ gT (M9 (zA dT _));refine Zx pR hl' hf ((oth e neT.symm).trans he) wF hsz λh' T' oT' ts' lt kp sl ge gT' dT' z3' z4'=>?_;have lt':s.heap.objs.size<=T':=by
   have:=lt;simp only[Heap.size_after_update] at this;exact this
  refine k h' T' oT' _ ts' _ [e,T] ⟨λb hb=>?_,λb o q n1 n2=>kp b o ((oth b λz=>n2 (by simp[z])).trans q) n1 λz=>n2 (by simp[z]),λb o q m=>?_,λb o q=>?_⟩ lt' ge ((Zw _ _).trans hc) ((Zv _ _).trans Oi) (zA wF _) (by simp[hsz]) gT' dT' z3' z4'
  ·have hb':b=e\/b=T:=by simpa using hb
   rcases hb' with rfl|rfl
   ·exact⟨x.new,x.un,oe,vs,he,wF⟩
   ·exact⟨nT,uT,oT,ts,gT,dT⟩
  ·exact sl b o ((oth b λz=>by subst z;exact JF b o ts q (by rw[gT] at q;cases q;exact dT) m).trans q) m
  ·by_cases z:b=e
   ·subst z;exact⟨_,ge⟩
   ·by_cases y:b=T
    ·subst y;exact⟨_,kp b _ sT (JF b oT ts gT dT) z⟩
    ·by_cases m:b∈frs (env::outer)
     ·obtain⟨w,q'⟩:=sl b o ((oth b y).trans q) m;exact⟨_,q'⟩
     ·exact⟨o,kp b o ((oth b y).trans q) m z⟩
theorem zht(he:s.heap.get? e=some oe)(hd:oe.data=.fields vs)(h1:vs[1]?=some (.ref T))(gT:s.heap.get? T=some oT)(dT:oT.data=.fields ts)(z3:3<ts.size)
  (k:∀h',(∀b o,b≠T->s.heap.get? b=some o->h'.get? b=some o)->h'.get? T=some (oT.mapFields (·.setIfInBounds 3 Value.none))->Q () {s with heap:=h'}):wpAny M A (setFlight (.ref e) none) Q E s:=by
 unfold setFlight;refine aB (lD he hd h1 ?_);rw[if_pos (show (Value.ref T != Value.none)=true from by simp)];exact HX gT dT z3 (k _ (λb o n q=>(wY _ _ n.symm).trans q) (Bg _ gT (M9 (zA dT _))))
theorem zfU(pR:A.frames=some (env::outer))(hl:s.heap.FunFrames base (env::outer))(hf:env.frame=some L)(x:Exc h0 H s.heap e C dx)
  (rE:∀b,s.heap.objs.size<=b->H b=none) (h0s:∀b o,h0.get? b=some o->∃o',s.heap.get? b=some o')
  (k:∀h' ch,SQ h0 H (frs (env::outer)) s.heap h' ch->Exc h0 H h' e C dx->Q () {s with heap:=h'}) :
  wpAny M A (noteFrame (.ref e) env) (λ_ s₁=>wpAny M A (setFlight (.ref e) none) Q E s₁) E s:=by
 have ele:∃o,s.heap.get? e=some o:=let ⟨oe,_,_,he,_⟩:=x.ob;⟨oe,he⟩;refine zh4 pR hl hf x λh' T oT oe ts vs ch t lt ge hc Oi wF h1 gT dT z3 z4=>?_;have neT:T≠e:=λz=>by
  obtain⟨o,q⟩:=ele;exact absurd (f9 (bR q) (z▸lt)) (qg _)
 refine zht (s:={s with heap:=h'}) ge wF h1 gT dT z3 λh2 kp gT2=>?_;have nT:∀b o,s.heap.get? b=some o->b≠T:=λb o q z=>absurd (f9 (bR q) (z▸lt)) (qg _);refine k h2 ch ⟨t.rec_,λb o q n1 n2=>kp b o (nT b o q) (t.keep b o q n1 n2),λb o q m=>?_,λb o q=>?_⟩ ⟨x.new,x.un,oe,vs,.ref T,kp e oe neT.symm ge,hc,Oi,wF,h1,.inr ⟨T,_,_,rfl,?_,rE T lt,neT,gT2,zA dT _,by simp[z3]⟩⟩
 ·obtain⟨sl,q'⟩:=t.slot b o q m;exact⟨sl,kp b _ (nT b o q) q'⟩
 ·obtain⟨o',q'⟩:=t.there b o q;exact⟨o',kp b o' (nT b o q) q'⟩
 ·cases z:h0.get? T with
  |none=>rfl
  |some o=>
   obtain⟨o',q⟩:=h0s T o z;exact absurd rfl (nT T o' q)
end
abbrev XS:=St->Value->Option Addr->Hp->Prop
def Sub(h0 h:Heap):Prop:=∀b o,h0.get? b=some o->∃o',h.get? b=some o'
def Sub.none{h0 h:Heap}(x:Sub h0 h){b:Addr}(e:h.get? b=none):h0.get? b=none:=by
 cases q:h0.get? b with
 |none=>rfl
 |some o=>
  obtain⟨o',z⟩:=x b o q;rw[e] at z;cases z
theorem Exc.older{h0 h1:Heap}{H:Hp}{h:Heap}{e C:Addr}{dx:Option Addr}(x:Exc h1 H h e C dx)(y:Sub h0 h1):Exc h0 H h e C dx:=by
 obtain⟨oe,vs,hd,a,b,c,d,f,tb⟩:=x.ob;refine⟨y.none x.new,x.un,oe,vs,hd,a,b,c,d,f,?_⟩;rcases tb with z|⟨T,oT,ts,z1,z2,z3⟩
 ·exact .inl z
 ·exact .inr ⟨T,oT,ts,z1,y.none z2,z3⟩
section
variable {X:Cx}{ao:List (Addr×Obj)}{Z:St}{H:Hp}{s:Shared}{h0 h':Heap}{ch fr:List Addr}
theorem i_.tbd{P:Program}{w:World}{h:Heap}(x:i_ P w H h)(t:SQ h0 H fr h h' ch)(hf:∀b∈fr,H b=none):i_ P w H h':=λa o e=>by
 have st:∀b u,(b=a\/H b=some (.own a))->h.get? b=some u->h'.get? b=some u:=λb u z q=>by
  have nb:H b≠none:=by
   rcases z with z|z
   ·rw[z,e];simp
   ·rw[z];simp
  exact t.keep b u q (λm=>nb (hf b m)) λm=>nb (t.rec_ b m).2.1
 exact(x a o e).stay st (λ_ z=>z) λ_ _ z=>z
end
def Raises(X:Cx)(EX:XS):Prop:=
 ∀(ao:List (Addr×Obj)) (Z:St) (H:Hp) (s:Shared) (h0:Heap) (e C:Addr) (dx:Option Addr),Inv X ao Z H s->(∀b o,X.s₀.heap.get? b=some o->b∉X.ex->∃o',h0.get? b=some o')->
  (∀p∈X.pn++ao,∃o,h0.get? p.1=some o)->Sub h0 s.heap->Exc h0 H s.heap e C dx->EX Z (.ref C) dx H->X.xe (.ref e) s
def fK(P:Program)(w:World):sZ:=λouter H s E e s'=>
 ∃(a C:Addr) (dx:Option Addr) (H':Hp),e=.ref a/\s'.os=s.os/\AllBare s'.gens/\Un (frs outer) [] H H' s.heap s'.heap/\i_ P w H' s'.heap/\Exc s.heap H' s'.heap a C dx/\E (.ref C) dx H'
theorem zfi{P:Program}{w:World}{K:W.Frag}{mg:Str->Option Value}{base:Heap}{N:List Str}{qual:Str}{scope:Scope}{f:Addr}{cd:Value}{A:Around}{outer:List Env}{s:Shared}{H:Hp}{E:XK}{cm:Bool} :
  Raises (dI (fK P w) P w K mg base N qual scope f cd A outer s H E cm) (λ_ C dx H'=>E C dx H'):=by
 intro ao Z H1 s1 h0 e C dx I hs hp h01 x ex;have I0:Inv (dI (fK P w) P w K mg base N qual scope f cd A outer s H E cm) [] Z H1 s1:=I.jV λp z=>absurd z Zaa;show wpAny (model P w) (A.deeper (envOfC qual scope s.heap.objs.size f cd)) (leaving (envOfC qual scope s.heap.objs.size f cd) (.ref e)) _ _ s1;unfold leaving;have hsub:Sub s.heap h0:=λb o q=>hs b o q (by show b∉([]:List Addr);simp);refine aB (zfU (base:=base) (outer:=outer) (L:=s.heap.objs.size) I0.ok.frames I0.stack rfl x (λb z=>I0.hok.fresh z) h01 λh' ch t x'=>?_);have fin:∀b o,s.heap.get? b=some o->b∉ch:=λb o q m=>by
  have z:=hsub.none (t.rec_ b m).1;rw[q] at z;cases z
 have nL:∀b o,s.heap.get? b=some o->b∉frs outer->b∉frs (envOfC qual scope s.heap.objs.size f cd::outer):=λb o q n m=>by
  have m':b∈s.heap.objs.size::frs outer:=m;rcases iM.mp m' with z|z
  ·exact absurd (bR q) (by rw[z];exact qg _)
  ·exact n z
 refine⟨e,C,dx,H1,rfl,I0.os,I0.bare,⟨λb o q n hb _=>?_,λb o q n hb _=>?_,λb o q n _=>I0.base.free b o q n (by show b∉([]:List Addr);simp),λb o q _=>?_,I0.base.tups,I0.base.ji,I0.base.jH⟩,I0.hok.tbd t I0.m6,x'.older hsub,ex⟩
 ·exact t.keep b o (I0.base.keep b o q n hb (by show b∉([]:List Addr);simp)) (nL b o q hb) (fin b o q)
 ·obtain⟨sl,q1⟩:=I0.base.slot b o q n hb (by show b∉([]:List Addr);simp);obtain⟨sl',q2⟩:=t.slot b _ q1 (show b∈s.heap.objs.size::frs outer from iJ _ hb);exact⟨sl',q2⟩
 ·obtain⟨o',q1⟩:=I0.base.there b o q (by show b∉([]:List Addr);simp);exact t.there b o' q1
section
variable {X:Cx}{cm:Bool}{k:Nat}{f C:Addr}{fd:FuncData}{ps:List Str}{sp:Sp}{EX:XS}{x m:Str}{p pos apos:Pos}{e o:Expr}{es:List Expr}{ta:TE}{t:TA}
theorem Raises.pass(R:Raises X EX)(I:Inv X ao Z H s)(h:fK X.prog X.w X.stack H s (EX Z) v s'):X.xe v s':=by
 obtain⟨a,C,dx,H',rfl,os,bare,un,hok,x,q⟩:=h;have aq:Sub s.heap s'.heap:=λb o z=>un.there b o z Zaa;refine R ao Z H' s' s.heap a C dx (I.call' os un hok bare λb z=>absurd z Zaa) (λb o z n=>I.base.there b o z n) (λp hp=>?_) aq x q;exact⟨p.2,(I.pin p hp).1⟩
noncomputable def Cz(sp:Sp)(EX:XS)(t:TA):TE:=λZ H Q=>t Z H λvs H1=>sp vs H1 Q (EX Z)
theorem zjh(F:cG X.prog X.w X.K X.mg X.base (fK X.prog X.w) cm k f fd ps sp)(jo:cm=true->X.aj=true)(hr:bG k X.A)(hb:Binds X.K fd ps [])(R:Raises X EX)
  (I:Inv X ao Z H s) (r:Vals vs us) (h:sp vs H Q (EX Z)):wpAny (model X.prog X.w) X.A (call (.ref f) us) (EP X ao Z Q) X.xe s:=by
 have hl:us.length=ps.length:=by rw[<-r.length];exact F.len _ _ _ _ h
 have hb':=hb s us I.mF (by rw[zB];exact hl);rw[zB] at hb';refine Gg (zF (F.run X.A X.stack s H ⟨us,[]⟩ us vs Q (EX Z) (λz=>I.ok.hd (jo z)) hr I.env0 hb' r h) λr s' hq=>?_);cases r with
 |error v=>exact R.pass I hq
 |ok fl=>
  cases fl with
  |ret u=>exact I.after hq
  |next=>exact False.elim hq
  |brk=>exact False.elim hq
  |cont=>exact False.elim hq
theorem zh8(F:cG X.prog X.w X.K X.mg X.base (fK X.prog X.w) cm k f fd ps sp)(jo:cm=true->X.aj=true)(hr:bG k X.A)(hg:Gl X x)(hm:X.mg x=some (.ref f))(hk:PySem.W.keepIn X.K (.ref f)=true)(hb:Binds X.K fd ps [])(R:Raises X EX)
  (ha:PA X (e::es) t) (tD:(x==("__debug__" : Str))=false:=by decide) (he:starEach (e::es) X.env=(false,eval e X.env)::starEach es X.env:=by rfl) (hpl:(backTo pos (starEach es X.env)).any (·.1)=false:=by rfl) :
  PE X (.Call (.Name x p) (e::es) [] pos) (Cz sp EX t):=by
 intro ao s Z H Q I h;refine Bh (Ru I hg hm ?_ tD);exact Q_ (h₀:=X.base) I.ok.mod.xu hk (aX (ha pos ao s Z H _ I h) λus s1 ⟨vs,H1,I1,r,q⟩=>⟨I1.mF,zjh F jo hr hb R I1 r q⟩) he hpl
end
noncomputable def yq(a C:Addr)(dx:Option Addr):HO:=.ext λh=>∃oe vs,h.get? a=some oe/\oe.cls=.ref C/\oe.dict=dx/\oe.data=.fields vs
section
variable {X:Cx}{ao:List (Addr×Obj)}{Z:St}{H:Hp}{s:Shared}{e:Addr}{o:HO}
theorem Inv.track(I:Inv X ao Z H s)(hn:X.s₀.heap.get? e=none)(un:H e=none)(hp:∀p∈X.pn++ao,p.1≠e)(hL:e≠X.env.locals)(hc:∀x c,X.env.cells.lookup x=some c->c≠e)
  (new:bL X.prog X.w (upd H e o) s.heap e o):Inv X ao Z (upd H e o) s:=by
 have ne:∀b u,H b=some u->b≠e:=λb u q z=>by rw[z,un] at q;cases q
 have n0:∀b u,X.s₀.heap.get? b=some u->b≠e:=λb u q z=>by rw[z,hn] at q;cases q
 refine⟨I.ok,I.os,I.bare,⟨I.base.keep,I.base.slot,λb u q n hx=>?_,I.base.there,λb xs q=>?_,λb u v q=>?_,λb ps q=>?_⟩,I.loc,I.cell,?_,λx c q=>?_,λp q=>?_,λb u q=>?_,I.len⟩
 ·rw[bW (n0 b u q)];exact I.base.free b u q n hx
 ·have z:=I.base.tups b xs q;rw[bW (ne b _ z)];exact z
 ·have z:=I.base.ji b u v q;rw[bW (ne b _ z)];exact z
 ·obtain⟨m,z,g⟩:=I.base.jH b ps q;exact⟨m,by rw[bW (ne b _ z)];exact z,g.mono λb o u q=>by rw[bW (ne b _ q)];exact q⟩
 ·rw[bW hL.symm];exact I.free
 ·rw[bW (hc x c q)];exact I.gq x c q
 ·obtain⟨a1,a2,a3⟩:=I.pin p q;exact⟨a1,by rw[bW (hp p q)];exact a2,a3⟩
 ·by_cases z:b=e
  ·subst z;rw[iQ] at q;cases q;exact new
  ·rw[bW z] at q;exact(I.hok b u q).stay (λ_ _ _ r=>r) (λc r=>by rw[bW (ne c _ r)];exact r) λc xs r=>by rw[bW (ne c _ r)];exact r
noncomputable def Cx.seen(X:Cx)(A:Around)(aj:Bool)(pn:List (Addr×Obj))(E:Value->Shared->Prop):Cx:={X with A:=A,aj:=aj,pn:=pn,xe:=E}
theorem Inv.seen(I:Inv X ao Z H s)(hA:A.frames=X.A.frames)(hc:c=true->A.handled=none)(hp:∀p∈pn++ps,p∈X.pn++ao):Inv (X.seen A c pn E) ps Z H s:=
 ⟨⟨I.ok.mod,I.ok.kind,I.ok.glob,I.ok.blt,I.ok.above,I.ok.inj,I.ok.has,I.ok.cab,hc,hA.trans I.ok.frames,I.ok.stk,I.ok.YC,I.ok.bs,I.ok.xM,I.ok.uK,I.ok.xO,I.ok.jJ,I.ok.zN⟩,I.os,I.bare,I.base,I.loc,I.cell,I.free,I.gq,λp z=>I.pin p (hp p z),I.hok,I.len⟩
theorem Inv.CG(I:Inv (X.seen A c pn E) ps Z H s)(hA:X.A.frames=A.frames)(hc:X.aj=true->X.A.handled=none)(hp:∀p∈X.pn++ao,p∈pn++ps):Inv X ao Z H s:=
 ⟨⟨I.ok.mod,I.ok.kind,I.ok.glob,I.ok.blt,I.ok.above,I.ok.inj,I.ok.has,I.ok.cab,hc,hA.trans I.ok.frames,I.ok.stk,I.ok.YC,I.ok.bs,I.ok.xM,I.ok.uK,I.ok.xO,I.ok.jJ,I.ok.zN⟩,I.os,I.bare,I.base,I.loc,I.cell,I.free,I.gq,λp z=>I.pin p (hp p z),I.hok,I.len⟩
end
end L2
namespace L2
open PySem PySem.Spec PyProof.Rows PySem.W Builtin.ObjectAttr
section
variable {prog:Program}{w:World}{A:Around}{E:Value->Shared->Prop}{s:Shared}{K:Frag}{x C:Addr}{ox:Obj}{od:Option Obj}{name:Str}{tk:Tok}
theorem zkq(XI:K.In s.heap)(I:InstAt s.heap x ox C od)(hf:findObj K C od name=some r)
  (h:match r with|.value v=>Q (.done (.ret v)) s|.bind g a=>wpAny (model prog w) A (call g [a,.ref x,.ref C]) (λv s'=>Q (.done (.ret v)) s') E s|.missing=>False) :
  wpAny (model prog w) A (Builtin.«object.__getattribute__» ⟨[.ref x,.str name tk],[]⟩) Q E s:=by
 obtain⟨hh,g,d,t,os⟩:=s;have L0:=I.type (M:=model prog w);have L1:=looks_find (M:=model prog w) XI I hf;unfold Builtin.«object.__getattribute__»;refine aB (Gd (a:=(Value.ref x,[Value.str name tk])) (by rfl) ?_);refine aB (Gd (a:=name) (by rfl) ?_);refine aB (L0.at (aB (L1.at ?_)));cases r with
 |value v=>exact aN h
 |bind g a=>
  show wpAny _ _ (holding [a] (call g [a,.ref x,.ref C]) >>= ret) _ _ _;exact aB (pQ (gj h (λv s' z=>aN z) λ_ _ z=>z))
 |missing=>exact h.elim
theorem zgJ(XI:K.In s.heap)(I:InstAt s.heap x ox C od)(hb:mroIn K C (.type "BaseException")=some true)(hf:findObj K C od name=some r)
  (h:match r with|.value v=>R (.ok (.ret v)) s|.bind g a=>wpAny (model prog w) A.in1 (call g [a,.ref x,.ref C]) (λv s'=>R (.ok (.ret v)) s') (λe s'=>R (.error e) s') s|.missing=>False) :
  codeAny (model prog w) A (.call (.builtin "BaseException.__getattribute__") ⟨[.ref x,.str name tk],[]⟩) R s:=by
 have hk:builtinKind "BaseException.__getattribute__"=some .slot:=by decide +kernel
 have CJ:splitId "BaseException.__getattribute__"=some ("BaseException","__getattribute__"):=by decide +kernel
 have ha:=F.args_bexc_ga (.ref x) (.str name tk);refine codeAny_call_builtin F.attr_ValueError.ga.plain F.entry_bexc_ga ?_;have fin:wpAny (model prog w) A.in1 (Builtin.«object.__getattribute__» ⟨[.ref x,.str name tk],[]⟩) (λfin s'=>match fin with|.done f=>R (.ok f) s'|.again c'=>c'.quiet=true/\codeAny (model prog w) A c' R s') (λe s'=>R (.error e) s') s:=by
  refine zkq XI I hf ?_;cases r with
  |value v=>exact h
  |bind g a=>exact h
  |missing=>exact h.elim
 have chk:∀Q:Unit->Shared->Prop,Q () s->wpAny (model prog w) A.in1 (checkBuiltinCall "BaseException.__getattribute__" ⟨[.ref x,.str name tk],[]⟩) Q (λe s'=>R (.error e) s') s:=λQ hq=>by
  obtain⟨hh,g,d,t,os⟩:=s;have L0:=I.type (M:=model prog w);have L1:=looks_mroIn (M:=model prog w) XI hb;have LI:Looks (model prog w) hh (isInstance (.ref x) (.type "BaseException")) true:=L0.andThen L1;simp only[checkBuiltinCall,hk,CJ];refine aB ?_
  repeat (first|with_reducible exact hq|with_reducible refine LI.at ?_|wp_step)
 exact chk _ fin
theorem bexc_get?(XI:K.In s.heap)(I:InstAt s.heap x ox C od)(hb:mroIn K C (.type "BaseException")=some true)(hga:findIn K (.ref C) "__getattribute__"=some (some (.builtin "BaseException.__getattribute__")))
  (hgn:findIn K (.ref C) "__getattr__"=some none) (hf:findObj K C od name=some r)
  (h:match r with|.value v=>wpAny (model prog w) A (handedOut v) (λu s'=>Q (some u) s') (λ_ _=>False) {s with toks:=s.toks+1}|.bind g a=>wpAny (model prog w) A.in1 (call g [a,.ref x,.ref C]) (λv s'=>wpAny (model prog w) A (handedOut v) (λu s''=>Q (some u) s'') (λ_ _=>False) s') (λ_ _=>False) {s with toks:=s.toks+1}|.missing=>False) :
  wpAny (model prog w) A (getAttr? (.ref x) name) Q E s:=by
 obtain⟨hh,g,d,t,os⟩:=s;have L0:=I.type (M:=model prog w);have L1:=looks_findIn (M:=model prog w) XI hga;have L2:=looks_findIn (M:=model prog w) XI hgn;have hx2:(Value.builtin "BaseException.__getattribute__"==Value.builtin "object.__getattribute__")=false:=by decide +kernel
 unfold getAttr? getAttrBy? getAttrBy;refine aB (wpAny_mkText (aB (Ga (pQ (aB (L0.at (aB (L1.at ?_))))))));show wpAny _ _ (if (onTheHeap (.ref C)&&(Value.builtin "BaseException.__getattribute__"==Value.builtin "object.__getattribute__"))=true then _ else getAttrByItsOwn _ _ _ _ _ _) _ _ _;rw[hx2,Bool.and_false,if_neg Tv];unfold getAttrByItsOwn hookBefore callGetattribute boundAndCalled;refine aB (L2.at ?_);refine aB (Ga (pQ (aB (Gd (F.attr_ValueError.ga.bind (.ref x)) ?_))));refine Gg (zgJ XI I hb hf ?_);cases r with
 |value v=>exact gj h (λv s'' hv=>aN hv) (λ_ _ z=>z.elim)
 |bind g a=>exact gj h (λv s' hv=>gj hv (λu s'' z=>aN z) λ_ _ z=>z.elim) (λ_ _ z=>z.elim)
 |missing=>exact h.elim
end
structure XC(K:Frag)(C:Addr):Prop where
 ga:findIn K (.ref C) "__getattribute__"=some (some (.builtin "BaseException.__getattribute__"))
 gn:findIn K (.ref C) "__getattr__"=some none
 cl:findIn K (.ref C) "__class__"=some (some (.builtin "object.__class__"))
 mb:mroIn K C (.type "BaseException")=some true
 mo:mroIn K C (.type "object")=some true
 cd:(clsIn K C).isSome=true
 dg:specialIn K (.builtin "object.__class__") "__get__"=some (some (.builtin "getset_descriptor.__get__"))
 dt:takesIn K (.builtin "object.__class__")=some true
theorem zf5{K:Frag}{C:Addr}{od:Option Obj}{name:Str}{a g:Value}(hc:(clsIn K C).isSome=true)(ha:findIn K (.ref C) name=some (some a))(hg:specialIn K a "__get__"=some (some g))(ht:takesIn K a=some true):findObj K C od name=some (.bind g a):=by
 obtain⟨cd,z⟩:=Hw.mp hc;simp only[findObj,z,ha,hg,ht,Nm]
theorem Zy{K:Frag}{e C:Addr}(c:XC K C):KitX K (.ref e) (.ref C) (λh=>∃ox od,InstAt h e ox C od) where
 ty:=λ_ _ _ ⟨_,_,I⟩=>I.type
 it:=λ_ _ XI _=>by
  have q:=c.cd;unfold clsIn at q;split at q
  ·rename_i c' d' cd' sl' lk;intro A' Q' E' s' k z;unfold isType loadHead;exact aB (wpAny_loadPart (k _ _ (XI _ _ lk)) (aN z))
  ·cases q
 ne:=λh tp dd its n sl XI htp=>by
  refine Bool.eq_false_iff.mpr λz=>?_;have ee:C=tp:=Value.ref.inj (oA.mp z);subst ee;have q:=c.cd;unfold clsIn at q;split at q
  ·rename_i c' d' cd' sl' lk;have y:=(XI _ _ lk).symm.trans htp;cases y
  ·cases q
 ca:=λ{prog w A E Q s} XI ⟨ox,od,I⟩ k=>by
  have hf:findObj K C od "__class__"=some (.bind (.builtin "getset_descriptor.__get__") (.builtin "object.__class__")):=zf5 c.cd c.cl c.dg c.dt;refine bexc_get? XI I c.mb c.ga c.gn hf ?_;exact Gg (class_get (s:={s with toks:=s.toks+1}) (ox:=ox) (od:=od) XI I c.mo (handed_on rfl k))
end L2
namespace L2
open PySem PySem.Spec PyProof.Rows
theorem zfd:∀(names:List (Str×NameKind)) (cs:List (Str×Addr)),(∀x∈names,x.2=.free->∃c,env.cells.lookup x.1=some c)->(∀x c,cs.lookup x=some c->env.cells.lookup x=some c)->
  ∃cl,(forIn names cs λx r=>(do
    if x.2==.free then
     let a <-cellOf env x.1
     pure (ForInStep.yield ((x.1,a)::r))
    else pure (ForInStep.yield r)):Sem (List (Str×Addr)))=pure cl/\(∀x c,cl.lookup x=some c->env.cells.lookup x=some c)/\(∀x c,cs.lookup x=some c->cl.lookup x=some c)/\∀x∈names,x.2=.free->∃c,cl.lookup x.1=some c:=by
 intro names
 induction names with
 |nil=>intro cs _ h;exact⟨cs,rfl,h,λ_ _ q=>q,λx z=>nomatch z⟩
 |cons y r ih=>
  intro cs h1 h2;obtain⟨n,k⟩:=y;by_cases hk:k=.free
  ·subst hk;obtain⟨c,hc⟩:=h1 (n,.free) lN rfl;have hc:env.cells.lookup n=some c:=hc;have h3:∀x d,((n,c)::cs).lookup x=some d->env.cells.lookup x=some d:=λx d q=>by
    rw[qd] at q;by_cases z:x=n
    ·subst z;simp at q;subst q;exact hc
    ·have z':(x==n)=false:=by simpa using z
     rw[z'] at q;exact h2 x d q
   obtain⟨cl,e,a,b,d⟩:=ih ((n,c)::cs) (λx z=>h1 x (iJ _ z)) h3;have hco:cellOf env n=pure c:=by
    unfold cellOf;rw[hc]
   refine⟨cl,?_,a,λx q z=>?_,λx z q=>?_⟩
   ·rw[FZ];simp only[FP,if_true,hco];exact e
   ·by_cases y:x=n
    ·subst y;have z1:=h2 x q z;rw[hc] at z1;cases z1;exact b x c Zaa
    ·have y':(x==n)=false:=by simpa using y
     exact b x q (by rw[qd,y'];exact z)
   ·rcases iM.mp z with z|z
    ·subst z;exact⟨c,b n c Zaa⟩
    ·exact d x z q
  ·have hb:(k==NameKind.free)=false:=by simpa using hk
   obtain⟨cl,e,a,b,d⟩:=ih cs (λx z=>h1 x (iJ _ z)) h2;refine⟨cl,?_,a,b,λx z q=>?_⟩
   ·rw[FZ];simp only[hb,sO,oE];exact e
   ·rcases iM.mp z with z|z
    ·subst z;exact absurd q hk
    ·exact d x z q
theorem zfe(h:∀x∈scope.names,x.2=.free->∃c,env.cells.lookup x.1=some c):∃cl,closureFor scope env=pure cl/\(∀x c,cl.lookup x=some c->env.cells.lookup x=some c)/\∀x∈scope.names,x.2=.free->∃c,cl.lookup x.1=some c:=by
 obtain⟨cl,e,a,_,d⟩:=zfd scope.names [] h (λx c q=>by cases q);refine⟨cl,?_,a,d⟩;unfold closureFor;have e':=e;simp only[pure_bind,bind_pure] at e' ⊢;exact e'
theorem SX{env:Env}{k:NameKind}:∀{names:List (Str×NameKind)} {x:Str},(names.map λ(n,k)=>if (k==NameKind.free&&env.scope.kind==.function&&env.kindOf n==some .cell) then (n,NameKind.cell) else (n,k)).lookup x=some k->
  names.lookup x=some k\/(k=.cell/\names.lookup x=some .free)
 |[],x,h=>by simp at h
 |(n,q)::r,x,h=>by
  rw[jx,qd] at h;rw[qd];have hd:∀c:Bool,(if c=true then (n,NameKind.cell) else (n,q)).1=n:=λc=>by cases c<;>rfl
  rw[hd] at h;by_cases z:x=n
  ·subst z;simp only[FP] at h ⊢;split at h
   ·rename_i y;simp only[gb,oA] at y;cases h;exact .inr ⟨rfl,by rw[y.1.1]⟩
   ·cases h;exact .inl rfl
  ·have z':(x==n)=false:=by simpa using z
   simp only[z'] at h ⊢;exact SX h
theorem Oj{env:Env}:∀{names:List (Str×NameKind)} {x:Str},names.lookup x=some .free->
  (names.map λ(n,k)=>if (k==NameKind.free&&env.scope.kind==.function&&env.kindOf n==some .cell) then (n,NameKind.cell) else (n,k)).lookup x=some .cell \/
  (names.map λ(n,k)=>if (k==NameKind.free&&env.scope.kind==.function&&env.kindOf n==some .cell) then (n,NameKind.cell) else (n,k)).lookup x=some .free
 |[],x,h=>by simp at h
 |(n,q)::r,x,h=>by
  rw[qd] at h;rw[jx,qd];have hd:∀c:Bool,(if c=true then (n,NameKind.cell) else (n,q)).1=n:=λc=>by cases c<;>rfl
  rw[hd];by_cases z:x=n
  ·subst z;simp only[FP] at h ⊢;cases h
   split
   ·exact .inl rfl
   ·exact .inr rfl
  ·have z':(x==n)=false:=by simpa using z
   simp only[z'] at h ⊢;exact Oj h
structure oW(n:Nat)(h1:Heap)(names:List (Str×NameKind))(cl fL:List (Str×Addr)):Prop where
 d1:∀x c,fL.lookup x=some c->(cl.lookup x=some c/\(x,NameKind.cell)∉names)\/((x,NameKind.cell)∈names/\n<c/\h1.IsCell c none)
 d2:∀x y c,n<c->fL.lookup x=some c->fL.lookup y=some c->x=y
 d3:∀x,names.lookup x=some .cell->∃c,fL.lookup x=some c
 d4:∀x c,(x,NameKind.cell)∉names->cl.lookup x=some c->fL.lookup x=some c
def cc:(NameKind.cell==NameKind.cell)=true:=by decide
def JM:∀(names:List (Str×NameKind)) (h:Heap) (b:Addr) (o:Obj),h.get? b=some o->(pushCells h names).get? b=some o
 |[],h,b,o,e=>e
 |(x,k)::r,h,b,o,e=>by
  rw[pushCells]
  split
  ·exact JM r _ b o (cD _ e)
  ·exact JM r h b o e
theorem S5:∀(names:List (Str×NameKind)) (h:Heap) (acc:List (Str×Addr)) (x:Str) (c:Addr),(cellsFrom h.objs.size names acc).lookup x=some c->
  (acc.lookup x=some c/\(x,NameKind.cell)∉names)\/((x,NameKind.cell)∈names/\h.objs.size<=c/\(pushCells h names).IsCell c none)
 |[],h,acc,x,c,e=>.inl ⟨e,by simp⟩
 |(y,k)::r,h,acc,x,c,e=>by
  rw[cellsFrom] at e;rw[pushCells];by_cases hk:k=.cell
  ·subst hk;rw[if_pos cc] at e ⊢;have sz:(h.push {cls:=Value.type "cell",data:=Data.cell none}).objs.size=h.objs.size+1:=by unfold Heap.push;simp
   rw[<-sz] at e;rcases S5 r _ _ x c e with ⟨a,b⟩|⟨a,b,d⟩
   ·rw[qd] at a;by_cases z:x=y
    ·subst z;simp at a;subst a;exact .inr ⟨lN,cj _,_,JM r _ _ _ (dX _ rfl),rfl⟩
    ·have z':(x==y)=false:=by simpa using z
     rw[z'] at a;exact .inl ⟨a,by simp[z,b]⟩
   ·exact .inr ⟨iJ _ a,by lia,d⟩
  ·have hb:(k==NameKind.cell)=false:=by simpa using hk
   rw[if_neg (by rw[hb];decide)] at e ⊢;rcases S5 r _ _ x c e with ⟨a,b⟩|⟨a,b,d⟩
   ·exact .inl ⟨a,by simp[b];intro _ q;exact hk q.symm⟩
   ·exact .inr ⟨iJ _ a,b,d⟩
theorem S6:∀(names:List (Str×NameKind)) (n:Nat) (acc:List (Str×Addr)) (x y:Str) (c:Addr),(∀u v,acc.lookup u=some c->acc.lookup v=some c->u=v)->(∀u a,acc.lookup u=some a->a<n\/a≠c)->(cellsFrom n names acc).lookup x=some c->(cellsFrom n names acc).lookup y=some c->x=y
 |[],n,acc,x,y,c,h,_,e1,e2=>h x y e1 e2
 |(z,k)::r,n,acc,x,y,c,h,hl,e1,e2=>by
  rw[cellsFrom] at e1 e2;by_cases hk:k=.cell
  ·subst hk;rw[if_pos cc] at e1 e2;refine S6 r (n+1) _ x y c (λu v a b=>?_) (λu a q=>?_) e1 e2
   ·rw[qd] at a b;by_cases u1:u=z
    ·by_cases v1:v=z
     ·rw[u1,v1]
     ·have v':(v==z)=false:=by simpa using v1
      subst u1;simp at a;rw[v'] at b;subst a;have b:acc.lookup v=some n:=b;rcases hl v n b with q|q
      ·exact absurd q (qg _)
      ·exact absurd rfl q
    ·have u':(u==z)=false:=by simpa using u1
     rw[u'] at a;have a:acc.lookup u=some c:=a;by_cases v1:v=z
     ·subst v1;simp at b;subst b;rcases hl u n a with q|q
      ·exact absurd q (qg _)
      ·exact absurd rfl q
     ·have v':(v==z)=false:=by simpa using v1
      rw[v'] at b;exact h u v a b
   ·rw[qd] at q;by_cases u1:u=z
    ·subst u1;simp at q;subst q;exact .inl (Bl _)
    ·have u':(u==z)=false:=by simpa using u1
     rw[u'] at q;exact(hl u a q).imp (λq=>q_ q) id
  ·have hb:(k==NameKind.cell)=false:=by simpa using hk
   rw[if_neg (by rw[hb];decide)] at e1 e2;exact S6 r n acc x y c h hl e1 e2
theorem S7:∀(names:List (Str×NameKind)) (n:Nat) (acc:List (Str×Addr)) (x:Str) (c:Addr),(x,NameKind.cell)∉names->acc.lookup x=some c->(cellsFrom n names acc).lookup x=some c
 |[],n,acc,x,c,_,e=>e
 |(z,k)::r,n,acc,x,c,h,e=>by
  rw[cellsFrom];have hr:(x,NameKind.cell)∉r:=λq=>h (iJ _ q);by_cases hk:k=.cell
  ·subst hk;rw[if_pos cc];refine S7 r (n+1) _ x c hr ?_;have:x≠z:=λq=>h (by rw[q];exact lN);have z':(x==z)=false:=by simpa using this
   rw[qd,z'];exact e
  ·have hb:(k==NameKind.cell)=false:=by simpa using hk
   rw[if_neg (by rw[hb];decide)];exact S7 r n acc x c hr e
theorem S8:∀(names:List (Str×NameKind)) (acc:List (Str×Addr)) (s:Shared) (Q:List (Str×Addr)->Shared->Prop),
  Q (cellsFrom s.heap.objs.size names acc) {s with heap:=pushCells s.heap names}->
  wpAny M A (forIn names acc λx (cells:List (Str×Addr))=>match x with
   |(name,kind)=>if (kind==NameKind.cell)=true then do
     let a <-alloc {cls:=Value.type "cell",data:=Data.cell none}
     pure (ForInStep.yield ((name,a)::cells))
    else pure (ForInStep.yield cells)) Q E s
 |[],acc,s,Q,h=>by
  rw[Nt];exact aN h
 |(z,k)::r,acc,s,Q,h=>by
  rw[FZ];rw[cellsFrom,pushCells] at h;by_cases hk:k=.cell
  ·subst hk;rw[if_pos cc,if_pos cc] at h;refine aB ?_;dsimp only;rw[if_pos cc];refine aB (wpAny_alloc (aN ?_));refine S8 r _ _ Q ?_;have sz:(s.heap.push {cls:=Value.type "cell",data:=Data.cell none}).objs.size=s.heap.objs.size+1:=by unfold Heap.push;simp
   rw[sz];exact h
  ·have hb:(k==NameKind.cell)=false:=by simpa using hk
   rw[if_neg (by rw[hb];decide),if_neg (by rw[hb];decide)] at h;refine aB ?_;dsimp only;rw[if_neg (by rw[hb];decide)];exact aN (S8 r _ _ Q h)
theorem Zz(old:∀x c,cl.lookup x=some c->c<s.heap.objs.size)(inj:∀x y c,cl.lookup x=some c->cl.lookup y=some c->x=y)
  (h:∀h1 fL,h1.Ns s.heap.objs.size (λ_=>none)->(∀b o,s.heap.get? b=some o->h1.get? b=some o)->oW s.heap.objs.size h1 scope.names cl fL->Q {scope:=scope,locals:=s.heap.objs.size,globals:=globals,cells:=fL,qual:=qual,func:=none,code:=env.code,frame:=env.frame,builtins:=env.builtins} {s with heap:=h1}) :
  wpAny M A (newFunctionEnv scope globals cl [] qual none .none (some env)) Q E s:=by
 unfold newFunctionEnv;refine aB (wpAny_alloc ?_);refine aB ?_;refine S8 scope.names cl _ _ ?_;dsimp only;rw[Nt];refine aB (aN (aN ?_));have sz:(s.heap.push {cls:=Value.type (if (some env).isSome=true then "dict" else "frame"),data:=Data.dict #[]}).objs.size=s.heap.objs.size+1:=by unfold Heap.push;simp
 refine h _ _ ?_ (λb o e=>JM _ _ _ _ (cD _ e)) ⟨λx c e=>?_,λx y c hc e1 e2=>?_,λx e=>?_,λx c hx e=>S7 _ _ _ x c hx e⟩
 ·refine⟨_,#[],_,JM _ _ _ _ (dX _ rfl),rfl,?_,λ_=>rfl⟩;intro e he;simp at he
 ·rcases S5 _ _ _ x c e with ⟨a,b⟩|⟨a,b,d⟩
  ·exact .inl ⟨a,b⟩
  ·rw[sz] at b;exact .inr ⟨a,by lia,d⟩
 ·exact S6 _ _ _ x y c (λu v a b=>inj u v c a b) (λu a q=>.inl (by rw[sz];exact q_ (old u a q))) e1 e2
 ·have:=M8 scope.names (s.heap.push {cls:=Value.type (if (some env).isSome=true then "dict" else "frame"),data:=Data.dict #[]}).objs.size cl (.inl e);exact Hw.mp this
noncomputable def Cx.blk(X:Cx)(scope:Scope)(cl:List (Str×Addr))(N:List Str)(C:Addr)(s3:Shared)(H3:Hp)(fp:List Addr)(ao:List (Addr×Obj)):Cx where
 prog:=X.prog
 w:=X.w
 K:=X.K
 mg:=X.mg
 base:=X.base
 A:=X.A
 N:=N
 s₀:=s3
 H₀:=H3
 env:=compEnvC scope cl C X.env
 outer:=X.stack
 stack:=X.stack
 ex:=fp
 fn:=λx=>scope.names.lookup x==some .cell
 aj:=X.aj
 pn:=X.pn++ao
 xe:=λ_ _=>False
structure cC(sc scope:Scope):Prop where
 kind:scope.kind=.function
 ZC:∀y∈scope.names,y.2=.cell->scope.names.lookup y.1=some .cell
 free:∀y∈scope.names,y.2=.free->sc.names.lookup y.1=some .cell\/sc.names.lookup y.1=some .free
 loc:∀y∈scope.names,y.2=.local->scope.names.lookup y.1=some .local
section
variable {X:Cx}{ao:List (Addr×Obj)}{Z:St}{H:Hp}{s:Shared}{scope:Scope}{cl:List (Str×Addr)}{N:List Str}{fp:List Addr}{ZY:St}
theorem ZD{h1:Heap}{t:Nat}{fL:List (Str×Addr)}(I:Inv X ao Z H s)(B:cC X.env.scope scope)(c1:∀x c,cl.lookup x=some c->X.env.cells.lookup x=some c)(c2:∀x∈scope.names,x.2=.free->∃c,cl.lookup x.1=some c)
  (f:∀b∈fp,fU X ao H b) (fo:∀b∈fp,∃o,s.heap.get? b=some o) (hn:h1.Ns s.heap.objs.size (λ_=>none)) (kp:∀b o,s.heap.get? b=some o->h1.get? b=some o) (CN:oW s.heap.objs.size h1 scope.names cl fL)
  (hl:ZY.length=N.length) (hZ:∀(i:Nat) (x:Str) (v:V),N[i]?=some x->ZY[i]?=some (some v)->scope.names.lookup x=some .free/\∃j:Nat,X.N[j]?=some x/\Z[j]?=some (some v)) :
  Inv (X.blk scope fL N s.heap.objs.size s H fp ao) [] ZY H {s with heap:=h1,toks:=t}:=by
 have lt:∀b o,s.heap.get? b=some o->b≠s.heap.objs.size:=λb o q=>cV (bR q);have ZF:∀b,b≠X.env.locals->b∉X.fs->b∉frs X.stack:=λb a c z=>(iM.mp (I.j_ b z)).elim a c;have mem_of:∀x k,scope.names.lookup x=some k->(x,k)∈scope.names:=λx k q=>Ft q;have old:∀x c,cl.lookup x=some c->c<s.heap.objs.size:=λx c q=>by
  obtain⟨v,o,q1,q2⟩:=I.cell x c (c1 x c q);exact bR q1
 have ZG:∀x,scope.names.lookup x=some .free->(x,NameKind.cell)∉scope.names:=λx q z=>by
  have:=B.ZC _ z rfl;have this:scope.names.lookup x=some .cell:=this;rw[q] at this;cases this
 refine⟨⟨I.ok.mod,B.kind,I.ok.glob,I.ok.blt,cj _,λx y c a b=>?_,λx hx=>?_,λx c z q=>?_,I.ok.hd,I.ok.frames,.inl rfl,λb hb=>?_,I.bs,jZ I.ok.xM I.sz,λb o q hb=>?_,λb hb=>ZF b (f b hb).2.1 (f b hb).2.2.1,I.stack,⟨I.m6,I.BW⟩⟩,
  rfl,I.bare,Un.kept kp,⟨_,hn,λi x v e1 e2 e3=>?_⟩,λx c q=>?_,I.hok.fresh (cj _),λx c q=>?_,λp hp=>?_,I.hok.kept kp,hl⟩
 ·by_cases hc:s.heap.objs.size<c
  ·exact CN.d2 x y c hc a b
  ·rcases CN.d1 x c a with ⟨a1,_⟩|⟨_,a1,_⟩
   ·rcases CN.d1 y c b with ⟨b1,_⟩|⟨_,b1,_⟩
    ·exact I.ok.inj x y c (c1 x c a1) (c1 y c b1)
    ·exact absurd b1 hc
   ·exact absurd a1 hc
 ·have hx:(relabel scope X.env).names.lookup x=some .cell\/(relabel scope X.env).names.lookup x=some .free:=hx;have fr:scope.names.lookup x=some .cell\/scope.names.lookup x=some .free:=by
   rcases hx with hx|hx
   ·rcases SX hx with z|⟨_,z⟩
    ·exact .inl z
    ·exact .inr z
   ·rcases SX hx with z|⟨z,_⟩
    ·exact .inr z
    ·cases z
  rcases fr with fr|fr
  ·exact CN.d3 x fr
  ·obtain⟨c,hc⟩:=c2 (x,.free) (mem_of x _ fr) rfl;exact⟨c,CN.d4 x c (ZG x fr) hc⟩
 ·rcases CN.d1 x c q with ⟨_,q1⟩|⟨_,q1,_⟩
  ·have z:(scope.names.lookup x==some NameKind.cell)=true:=z;exact absurd (mem_of x _ (by simpa using z)) q1
  ·exact sU q1
 ·obtain⟨o,q⟩:=fo b hb;refine⟨lt b o q,λx c z=>?_⟩;rcases CN.d1 x c z with ⟨q1,_⟩|⟨_,q1,_⟩
  ·exact(f b hb).2.2.2.2.1 x c (c1 x c q1)
  ·exact λe=>absurd (bR q) (by rw[<-e];exact Gh.mpr (sU q1))
 ·obtain⟨_,_,_,z,_⟩:=f b hb;rcases z with z|z
  ·exact I.ok.uK b o q z
  ·exact absurd (f9 (bR q) (jZ I.ok.xM z)) (qg _)
 ·obtain⟨fr,j,hj,hv⟩:=hZ i x v e1 e2;have hk:=B.free (x,.free) (mem_of x _ fr) rfl;obtain⟨m,hm,hlk⟩:=I.loc;obtain⟨u,r,l⟩:=hlk j x v hj hv (hk.elim (λz=>.inr (.inl z)) λz=>.inr (.inr z));obtain⟨c',lQ⟩:=c2 (x,.free) (mem_of x _ fr) rfl;have lQ:cl.lookup x=some c':=lQ;refine⟨u,r,.inr ⟨Oj fr,c',CN.d4 x c' (ZG x fr) lQ,?_⟩⟩;rcases l with ⟨k1,_⟩|⟨_,c,k2,oc,k3,k4⟩
  ·have k1:X.env.scope.names.lookup x=some .local:=k1;rcases hk with hk|hk
   ·have hk:X.env.scope.names.lookup x=some .cell:=hk;rw[k1] at hk;cases hk
   ·have hk:X.env.scope.names.lookup x=some .free:=hk;rw[k1] at hk;cases hk
  ·have e:=c1 x c' lQ;rw[k2] at e;cases e;exact⟨oc,kp _ oc k3,k4⟩
 ·rcases CN.d1 x c q with ⟨q1,_⟩|⟨_,_,q1⟩
  ·obtain⟨v,o,q1,q2⟩:=I.cell x c (c1 x c q1);exact⟨v,o,kp c o q1,q2⟩
  ·exact⟨none,q1⟩
 ·rcases CN.d1 x c q with ⟨q1,_⟩|⟨_,q1,_⟩
  ·exact I.gq x c (c1 x c q1)
  ·exact I.hok.fresh (sU q1)
 ·have hp:p∈X.pn++ao:=by
   have z:p∈(X.pn++ao)++[]:=hp;simpa using z
  obtain⟨a1,a2,a3,a4,a5⟩:=I.pin p hp;exact⟨kp _ _ a1,a2,lt _ _ a1,ZF _ a3 a4,a5⟩
theorem ZJ(I:Inv X ao Z H s)(f:∀b∈fp,fU X ao H b)(bf:Inv (X.blk scope cl N s.heap.objs.size s H fp ao) [] Z' H' s'):Inv X ao Z H' s':=
 I.call' (ch:=fp) bf.os bf.base bf.hok bf.bare λb hb=>by
  obtain⟨_,a2,_,a4,a5,a6⟩:=f b hb;exact⟨a4.imp id λz=>Fl z,a2,a5,a6⟩
theorem Ol{Z':St}{H':Hp}{s':Shared}{h2:Heap}{C:Addr}(bf:Inv X ao Z H' s')(hC:X.s₀.heap.objs.size<=C)(n1:H' C=none)(n2:C≠X.env.locals)(n3:∀x c,X.env.cells.lookup x=some c->c≠C)(n4:∀p∈X.pn++ao,p.1≠C)
  (sb:Heap.SameBut C s'.heap h2):Inv X ao Z H' {s' with heap:=h2}:=
 bf.turned (t':=s'.toks) (λb o z q=>(sb.2 b z).trans q) n1 n2 (.inr hC) n3 n4
end
noncomputable abbrev jW(ifs:List Expr)(env:Env):Sem Bool:=forIn ifs true λc r=>if r=true then do let ok <-isTrue c env (eval c env);pure (ForInStep.yield ok) else pure (ForInStep.yield r)
theorem zgl{prog:Program}{w:World}{A:Around}{R:Result->Shared->Prop}{s:Shared}{elt target iter:Expr}{ifs:List Expr}{scope:Scope}{pos:Pos}{it acc:Value}{env:Env}(V:Nat->Shared->Prop)
  (turn:∀n s,V n s->wpAny (model prog w) A (pyNext it) (λr s₁=>match r with
   |none=>R (.ok .next) s₁
   |some v=>wpAny (model prog w) A (letOwnedTupleGo target it v) (λ_ s₂=>wpAny (model prog w) A (assign target env v) (λ_ s₃=>
     wpAny (model prog w) A (jW ifs env) (λok s₄=>
      if ok=true then wpAny (model prog w) A (eval elt env) (λx s₅=>wpAny (model prog w) A (call (.builtin "list.append") [acc,x]) (λ_ s₆=>∃m,m<n/\V m s₆) (λ_ _=>False) s₅) (λ_ _=>False) s₄
      else ∃m,m<n/\V m s₄) (λ_ _=>False) s₃) (λ_ _=>False) s₂) (λ_ _=>False) s₁) (λ_ _=>False) s)
  (n:Nat) (h:V n s):codeAny (model prog w) A (.compLoop (.ListComp elt [⟨target,iter,ifs,0⟩] scope pos) 0 it acc env) R s:=by
 refine codeAny_loop rfl V (λn s hV=>?_) n h;show wpAny _ A ((compTurn (.ListComp elt [⟨target,iter,ifs,0⟩] scope pos) 0 it acc env).onRaise (λx=>do noteFrame x env;theTreesLotGoes x)) _ _ s;refine wpAny_noted ?_;rw[compTurn_list];refine aB (uF (aB (gj (turn n s hV) (λr s₁ h₁=>?_) λ_ _ z=>z.elim)));cases r with
 |none=>exact aN h₁
 |some v=>
  refine aB (gj h₁ (λ_ s₂ h₂=>?_) λ_ _ z=>z.elim);refine aB (gj h₂ (λ_ s₃ h₃=>aB (gj h₃ (λok s₄ h₄=>?_) λ_ _ z=>z.elim)) λ_ _ z=>z.elim);cases ok with
  |true=>
   simp only[if_true] at h₄ ⊢;exact aB (aB (gj h₄ (λx s₅ h₅=>aB (gj h₅ (λ_ s₆ h₆=>aN (aN ⟨rfl,h₆⟩)) λ_ _ z=>z.elim)) λ_ _ z=>z.elim))
  |false=>
   simp only[sO,oE] at h₄ ⊢;exact aN ⟨rfl,h₄⟩
def Gw(X:Cx)(ifs:List Expr)(t:TT):Prop:=
 ∀(ao:List (Addr×Obj)) (s:Shared) (Z:St) (H:Hp) (Q:Bool->Hp->Prop),Inv X ao Z H s->t Z H Q->wpAny (model X.prog X.w) X.A (jW ifs X.env) (TP X ao Z Q) X.xe s
noncomputable def S9:TT:=λ_ H Q=>Q true H
def zj0:Gw X [] S9:=λ_ _ _ H _ I h=>wpAny_tests_nil ⟨H,I,h⟩
def zjG(h:PT X c t):Gw X [c] t:=λao s Z H Q I hq=>wpAny_tests_one (h ao s Z H Q I hq)
def JV(ZY:St->St)(g:TG)(tt:TT)(te:TE)(bf:It)(Z:St)(H:Hp)(Q:VK):Prop:=∀D,H D=none->∃W:Nat->Nat->St->Hp->Prop,(∃m,W 0 m (ZY Z) (upd H D (.lst [])))/\∀i m Z' H',W i m Z' H'->
 (bf.stop i H'/\Q (.ref D) H')\/(bf.go i H'/\∃N:St->Hp->Prop,(∀Z2 H2,N Z2 H2->∃m',m'<m/\W (i+1) m' Z2 H2)/\∀x H2,bf.uO i H' x H2->g x Z' H2 λZ3 H3=>tt Z3 H3 λok H4=>
  if ok=true then te Z3 H4 λy H5=>∃ys,H5 D=some (.lst ys)/\ys.length<sizeLine/\N Z3 (upd H5 D (.lst (ys++[y]))) else N Z3 H4)
section
variable {X:Cx}{elt tg iter:Expr}{ifs:List Expr}{scope:Scope}{pos:Pos}{N:List Str}{ZY:St->St}{wi:TI}{g:TG}{tt:TT}{te:TE}
structure Parts(X:Cx)(elt tg:Expr)(ifs:List Expr)(scope:Scope)(N:List Str)(g:TG)(tt:TT)(te:TE):Prop where
 tgt:∀cl C s3 H3 fp ao,PG (X.blk scope cl N C s3 H3 fp ao) tg g
 JZ:∀cl C s3 H3 fp ao,Gw (X.blk scope cl N C s3 H3 fp ao) ifs tt
 el:∀cl C s3 H3 fp ao,PE (X.blk scope cl N C s3 H3 fp ao) elt te
theorem ZK(hc:X.aj=true)(B:cC X.env.scope scope)(P:Parts X elt tg ifs scope N g tt te)(hl:∀Z,(ZY Z).length=N.length)
  (hZ:∀(Z:St) (i:Nat) (x:Str) (v:V),N[i]?=some x->(ZY Z)[i]?=some (some v)->scope.names.lookup x=some .free/\∃j:Nat,X.N[j]?=some x/\Z[j]?=some (some v))
  {ao:List (Addr×Obj)} {s:Shared} {Z:St} {H:Hp} {Q:VK} {it:Addr} {fp:List Addr} {tn:Nat->Heap->Prop} {bf:It} (I:Inv X ao Z H s) (T:Turn X.prog X.w X.K tg bf fp it tn) (st:tn 0 s.heap) (f:∀b∈fp,fU X ao H b) (h:JV ZY g tt te bf Z H Q)
  {cl:List (Str×Addr)} (c1:∀x c,cl.lookup x=some c->X.env.cells.lookup x=some c) (c2:∀x∈scope.names,x.2=.free->∃c,cl.lookup x.1=some c) {R:Value->Addr->Result->Shared->Prop} {E:Value->Shared->Prop}
  (k:∀D C s' H',Inv X ao Z H' s'->X.s₀.heap.objs.size<=C->H' C=none->C≠X.env.locals->(∀x c,X.env.cells.lookup x=some c->c≠C)->(∀p∈X.pn++ao,p.1≠C)->(∃m,s'.heap.Ns C m)->Q (.ref D) H'->R (.ref D) C (.ok .next) s') :
  wpAny (model X.prog X.w) X.A (newList []) (λacc s₃=>wpAny (model X.prog X.w) X.A (newFunctionEnv scope X.env.globals cl [] X.env.qual none .none (some X.env)) (λcenv s₄=>
   codeAny (model X.prog X.w) X.A (.compStart (.ListComp elt [⟨tg,iter,ifs,0⟩] scope pos) 0 (.ref it) acc {cenv with scope:=relabel scope X.env}) (R acc cenv.locals) s₄) E s₃) E s:=by
 refine pN ?_;have hD:H s.heap.objs.size=none:=I.hok.fresh (cj _);have I3:Inv X ao Z (upd H s.heap.objs.size (.lst [])) {s with heap:=s.heap.push {cls:=.type "list",dict:=none,data:=.seq ([]:List Value).toArray}}:=
  I.laid (t':=s.toks) (λb u q=>cD _ q) (cj _) ⟨sV _,[],0,.nil,dX _ rfl⟩
 have f3:∀b∈fp,fU X ao (upd H s.heap.objs.size (.lst [])) b:=λb hb=>by
  obtain⟨a1,a2⟩:=f b hb;obtain⟨o,q,_⟩:=T.obj 0 _ st b hb;exact⟨by rw[bW (cV (bR q))];exact a1,a2⟩
 have st3:tn 0 (s.heap.push {cls:=.type "list",dict:=none,data:=.seq ([]:List Value).toArray}):=T.keep _ _ _ st λb hb o q=>cD _ q;obtain⟨W,⟨m0,w0⟩,turn⟩:=h s.heap.objs.size hD;generalize S_:({s with heap:=s.heap.push {cls:=.type "list",dict:=none,data:=.seq ([]:List Value).toArray}}:Shared)=s3 at *;have qC:tn 0 s3.heap:=by rw[<-S_];exact st3
 generalize hH3:upd H s.heap.objs.size (.lst [])=H3 at *;refine Zz (λx c q=>by obtain⟨v,o,q1,_⟩:=I3.cell x c (c1 x c q);exact bR q1) (λx y c a b=>I3.ok.inj x y c (c1 x c a) (c1 y c b)) λh1 fL hn kp CN=>?_;have CK:Inv (X.blk scope fL N s3.heap.objs.size s3 H3 fp ao) [] (ZY Z) H3 {s3 with heap:=h1}:=
  ZD (t:=s3.toks) I3 B c1 c2 f3 (λb hb=>let ⟨o,q,_⟩:=T.obj 0 _ qC b hb;⟨o,q⟩) hn kp CN (hl Z) (hZ Z)
 have J0:tn 0 h1:=T.keep _ _ _ qC λb hb o q=>kp b o q;have fY:∀{H':Hp},(∀b∈fp,H' b=none)->∀b∈fp,fU (X.blk scope fL N s3.heap.objs.size s3 H3 fp ao) [] H' b:=λ{H'} z b hb=>by
  obtain⟨a1,a2,a3,a4,a5,a6⟩:=f3 b hb;obtain⟨o,q,_⟩:=T.obj 0 _ qC b hb;refine⟨z b hb,cV (bR q),λy=>(iM.mp (I3.j_ b y)).elim a2 a3,.inl hb,λx c y=>?_,λp hp=>a6 p ?_⟩
  ·rcases CN.d1 x c y with ⟨q1,_⟩|⟨_,q1,_⟩
   ·exact a5 x c (c1 x c q1)
   ·exact λe=>absurd (bR q) (by rw[<-e];exact Gh.mpr (sU q1))
  have y:p∈(X.pn++ao)++[]:=hp;simpa using y
 have loop:codeAny (model X.prog X.w) X.A (.compLoop (.ListComp elt [⟨tg,iter,ifs,0⟩] scope pos) 0 (.ref it) (.ref s.heap.objs.size) (compEnvC scope fL s3.heap.objs.size X.env)) (R (.ref s.heap.objs.size) s3.heap.objs.size) {s3 with heap:=h1}:=by
  refine zgl (λn s'=>∃i Z' H',Inv (X.blk scope fL N s3.heap.objs.size s3 H3 fp ao) [] Z' H' s'/\tn i s'.heap/\(∀b∈fp,H' b=none)/\W i n Z' H') ?_ m0 ⟨0,ZY Z,H3,CK,J0,λb hb=>(f3 b hb).1,w0⟩;rintro n s5 ⟨i,Z5,H5,jK,ug,wC,w5⟩;rcases turn i n Z5 H5 w5 with ⟨stop,q⟩|⟨go,Nx,hN,step⟩
  ·refine aX (T.done (X.blk scope fL N s3.heap.objs.size s3 H3 fp ao) rfl rfl rfl hc i [] s5 Z5 H5 _ jK (fY wC) ug stop) λr s6 ⟨hr,m_⟩=>?_;subst hr;have JX:=ZJ I3 f3 m_;refine k s.heap.objs.size s3.heap.objs.size s6 H5 JX I3.sz m_.free (qj I3.lt) (λx c y z=>?_) (λp hp z=>?_) ?_ q
   ·obtain⟨v,qc⟩:=I3.cell x c y;exact absurd qc.lt (by rw[z];exact qg _)
   ·exact absurd (bR (I3.pin p hp).1) (by rw[z];exact qg _)
   ·obtain⟨m,hm,_⟩:=m_.loc;exact⟨m,hm⟩
  ·refine aX (T.item (X.blk scope fL N s3.heap.objs.size s3 H3 fp ao) rfl rfl rfl hc i [] s5 Z5 H5 _ jK (fY wC) ug go) λr s6 hx=>wz hx λu hr h6=>?_;subst hr;refine aX h6 λ_ s7 ⟨x,H7,uV,r7,y7,uW,J1⟩=>?_;have oX:=uV.pinned (fY J1) (T.obj _ _ uW);refine aX (P.tgt fL s3.heap.objs.size s3 H3 fp ao _ s7 Z5 H7 x u _ oX r7 (step x H7 y7)) λ_ s8 ⟨Z8,H8,uX,q8⟩=>?_;refine aX (P.JZ fL s3.heap.objs.size s3 H3 fp ao _ s8 Z8 H8 _ uX q8) λok s9 hx=>wz hx λH9 uY q9=>?_;have again:∀{H':Hp} {s':Shared},Inv (X.blk scope fL N s3.heap.objs.size s3 H3 fp ao) ([]++jk fp s7.heap) Z8 H' s'->Nx Z8 H'->∃m,m<n/\∃i Z' H',Inv (X.blk scope fL N s3.heap.objs.size s3 H3 fp ao) [] Z' H' s'/\tn i s'.heap/\(∀b∈fp,H' b=none)/\W i m Z' H':=λ{H' s'} fj n'=>by
    obtain⟨m',hm,w'⟩:=hN Z8 H' n';refine⟨m',hm,i+1,Z8,H',fj.cB,T.keep _ _ _ uW λb hb o e=>(fj.pin (b,o) (lC _ (lC _ (zQ hb e)))).1,λb hb=>?_,w'⟩;obtain⟨o,e,d⟩:=T.obj _ _ uW b hb;exact(fj.pin (b,o) (lC _ (lC _ (zQ hb e)))).2.1
   cases ok with
   |false=>
    rw[if_neg Tv] at q9 ⊢;exact again uY q9
   |true=>
    rw[if_pos rfl] at q9 ⊢;refine aX (P.el fL s3.heap.objs.size s3 H3 fp ao _ s9 Z8 H9 _ uY q9) λv Om ⟨y,Tc,uZ,r10,ys,CP,hz,Td⟩=>?_;refine aX (Sy (X:=(X.blk scope fL N s3.heap.objs.size s3 H3 fp ao)) _ Om Z8 Tc (.ref s.heap.objs.size) [y] (.ref s.heap.objs.size) [v] (λ_ H'=>Nx Z8 H') uZ rfl (.cons r10 .nil) ⟨s.heap.objs.size,ys,y,rfl,rfl,CP,hz,Td⟩) λ_ ZL hx=>fH hx λ_ ZM oY _ Te=>again oY Te
 exact codeAny_compStart_list loop (T.self _ 0 _ _ _ J0 loop)
end
noncomputable def u5(wi:TI)(ZY:St->St)(g:TG)(tt:TT)(te:TE):TE:=λZ H Q=>wi Z H λbf H1=>JV ZY g tt te bf Z H1 Q
section
variable {X:Cx}{elt tg iter:Expr}{ifs:List Expr}{scope:Scope}{pos spos py:Pos}{N:List Str}{ZY:St->St}{wi:TI}{g:TG}{tt:TT}{te:TE}{i:Nat}{y:Str}
theorem Oo(I:Inv X ao Z H s)(B:cC X.env.scope scope):∃cl,closureFor scope X.env=pure cl/\(∀x c,cl.lookup x=some c->X.env.cells.lookup x=some c)/\∀x∈scope.names,x.2=.free->∃c,cl.lookup x.1=some c:=
 zfe λx hx hf=>I.ok.has x.1 (B.free x hx hf)
theorem zjl(hc:X.aj=true)(B:cC X.env.scope scope)(hi:PI X tg iter wi)(P:Parts X elt tg ifs scope N g tt te)(hl:∀Z,(ZY Z).length=N.length)
  (hZ:∀(Z:St) (i:Nat) (x:Str) (v:V),N[i]?=some x->(ZY Z)[i]?=some (some v)->scope.names.lookup x=some .free/\∃j:Nat,X.N[j]?=some x/\Z[j]?=some (some v))
  (hs:∀x,foldedSetIterable iter X.env x=pure x:=by intro _;rfl):PE X (.ListComp elt [⟨tg,iter,ifs,0⟩] scope pos) (u5 wi ZY g tt te):=by
 intro ao s Z H Q I h;obtain⟨cl,oZ,c1,c2⟩:=Oo I B;rw[eval_ListComp];refine M6 (use:=none) rfl hs oZ B.kind B.loc (aX (hi ao s Z H _ I h) λxv s1 h1=>aX h1 λitv s2 h2=>?_);obtain⟨it,fp,tn,bf,H2,e,I2,T,st2,f2,hq⟩:=h2;subst e;exact ZK hc B P hl hZ I2 T st2 f2 hq c1 c2 (R:=λacc C=>compPost (model X.prog X.w) X.A X.xe none (EP X ao Z Q) acc C) λD C s' H' fj a b c d e ⟨m,hm⟩ q=>⟨m,hm,λh' sb=>⟨.ref D,H',Ol (Z':=Z) fj a b c d e sb,rfl,q⟩⟩
theorem zfx(hc:X.aj=true)(hN:X.N.Nodup)(tK:X.N[i]?=some y)(hx:Loc X.env.scope y)(hf:X.fn y=true\/X.env.scope.names.lookup y=some .local)(B:cC X.env.scope scope)(hi:PI X tg iter wi)(P:Parts X elt tg ifs scope N g tt te)(hl:∀Z,(ZY Z).length=N.length)
  (hZ:∀(Z:St) (i:Nat) (x:Str) (v:V),N[i]?=some x->(ZY Z)[i]?=some (some v)->scope.names.lookup x=some .free/\∃j:Nat,X.N[j]?=some x/\Z[j]?=some (some v))
  (u6:swapsWith (.ListComp elt [⟨tg,iter,ifs,0⟩] scope pos) (some (.Name y py)) spos.line X.env=pure true) (hs:∀x,foldedSetIterable iter X.env x=pure x:=by intro _;rfl) :
  PS X (.Assign [.Name y py] (.ListComp elt [⟨tg,iter,ifs,0⟩] scope pos) spos) (xR (u5 wi ZY g tt te) (dM i)):=by
 intro ao s Z H D I h;obtain⟨cl,oZ,c1,c2⟩:=Oo I B;rw[exec_Assign_Name_used _ _ _ _ u6];refine aB (uF (aB ?_));show wpAny _ X.A (do let _ <-comprehension (.ListComp elt [⟨tg,iter,ifs,0⟩] scope pos) scope X.env _ (newList []) false (eval iter X.env) (some (assign (.Name y py) X.env))) _ _ s;refine aB (M6 (use:=some (assign (.Name y py) X.env)) rfl hs oZ B.kind B.loc (aX (hi ao s Z H _ I h) λxv s1 h1=>aX h1 λitv s2 h2=>?_));obtain⟨it,fp,tn,bf,H2,e,I2,T,st2,f2,hq⟩:=h2;subst e;refine ZK hc B P hl hZ I2 T st2 f2 hq c1 c2 (R:=λacc C=>compPost (model X.prog X.w) X.A X.xe (some (assign (.Name y py) X.env)) _ acc C) λD' C s' H' fj a b c d e ⟨m,hm⟩ q=>?_;show wpAny _ _ (assign (.Name y py) X.env (.ref D')) _ _ s';refine wpAny_assign_Name (Ro (v:=.ref D') fj hN tK hx rfl (λs5 jK ⟨ad,sb,Tf⟩=>?_) hf);have nC:C≠ad:=by
  rcases Tf with z|z
  ·rw[z];exact c
  ·exact(d y ad z).symm
 obtain⟨ol,es,ep,e1,r1⟩:=hm;refine⟨m,⟨ol,es,ep,(sb.2 C nC).trans e1,r1⟩,λh' Ti=>aN (aN ⟨_,H',Ol (Z':=Z) jK a b c d e Ti,q⟩)⟩
end
theorem zef(elt target iter:Expr)(ifs:List Expr)(g₁:Comprehension)(scope:Scope)(pos:Pos)(it acc:Value)(env:Env) :
  compTurn (.ListComp elt [g₁,⟨target,iter,ifs,0⟩] scope pos) 1 it acc env=(do
   standAt iter.pos
   match <-pyNext it with
   |none=>pure (.done .next)
   |some v=>
    letOwnedTupleGo target it v
    assign target env v
    let mut ok:=true
    for c in ifs do
     if ok then ok <-isTrue c env (eval c env)
    if ok then
     (do let _ <-call (.builtin "list.append") [acc,<-eval elt env])
    again (.compLoop (.ListComp elt [g₁,⟨target,iter,ifs,0⟩] scope pos) 1 it acc env)):=by rfl
theorem zdG(elt target iter target₂ iter₂:Expr)(ifs ifs₂:List Expr)(scope:Scope)(pos:Pos)(it acc:Value)(env:Env) :
  compTurn (.ListComp elt [⟨target,iter,ifs,0⟩,⟨target₂,iter₂,ifs₂,0⟩] scope pos) 0 it acc env=(do
   standAt iter.pos
   match <-pyNext it with
   |none=>pure (.done .next)
   |some v=>
    letOwnedTupleGo target it v
    assign target env v
    let mut ok:=true
    for c in ifs do
     if ok then ok <-isTrue c env (eval c env)
    if ok then
     let x <-eval iter₂ env
     standAt iter₂.pos
     let x <-foldedSetIterable iter₂ env x
     let _ <-runOwn (.compStart (.ListComp elt [⟨target,iter,ifs,0⟩,⟨target₂,iter₂,ifs₂,0⟩] scope pos) 1 (<-holding [x] (pyIter x)) acc env) env
     again (.compLoop (.ListComp elt [⟨target,iter,ifs,0⟩,⟨target₂,iter₂,ifs₂,0⟩] scope pos) 0 it acc env)
    else
     again (.compLoop (.ListComp elt [⟨target,iter,ifs,0⟩,⟨target₂,iter₂,ifs₂,0⟩] scope pos) 0 it acc env)):=by rfl
theorem zjy(V:Nat->Shared->Prop)
  (turn:∀n s,V n s->wpAny (model prog w) A (pyNext it) (λr s₁=>match r with
   |none=>R (.ok .next) s₁
   |some v=>wpAny (model prog w) A (letOwnedTupleGo target it v) (λ_ s₂=>wpAny (model prog w) A (assign target env v) (λ_ s₃=>
     wpAny (model prog w) A (jW ifs env) (λok s₄=>
      if ok=true then wpAny (model prog w) A (eval elt env) (λx s₅=>wpAny (model prog w) A (call (.builtin "list.append") [acc,x]) (λ_ s₆=>∃m,m<n/\V m s₆) (λ_ _=>False) s₅) (λ_ _=>False) s₄
      else ∃m,m<n/\V m s₄) (λ_ _=>False) s₃) (λ_ _=>False) s₂) (λ_ _=>False) s₁) (λ_ _=>False) s)
  (n:Nat) (h:V n s):codeAny (model prog w) A (.compLoop (.ListComp elt [g₁,⟨target,iter,ifs,0⟩] scope pos) 1 it acc env) R s:=by
 refine codeAny_loop rfl V (λn s hV=>?_) n h;show wpAny _ A ((compTurn (.ListComp elt [g₁,⟨target,iter,ifs,0⟩] scope pos) 1 it acc env).onRaise (λx=>do noteFrame x env;theTreesLotGoes x)) _ _ s;refine wpAny_noted ?_;rw[zef];refine aB (uF (aB (gj (turn n s hV) (λr s₁ h₁=>?_) λ_ _ z=>z.elim)));cases r with
 |none=>exact aN h₁
 |some v=>
  refine aB (gj h₁ (λ_ s₂ h₂=>?_) λ_ _ z=>z.elim);refine aB (gj h₂ (λ_ s₃ h₃=>aB (gj h₃ (λok s₄ h₄=>?_) λ_ _ z=>z.elim)) λ_ _ z=>z.elim);cases ok with
  |true=>
   simp only[if_true] at h₄ ⊢;exact aB (aB (gj h₄ (λx s₅ h₅=>aB (gj h₅ (λ_ s₆ h₆=>aN (aN ⟨rfl,h₆⟩)) λ_ _ z=>z.elim)) λ_ _ z=>z.elim))
  |false=>
   simp only[sO,oE] at h₄ ⊢;exact aN ⟨rfl,h₄⟩
theorem ziw{prog:Program}{w:World}{A:Around}{R:Result->Shared->Prop}{s:Shared}{elt target iter target₂ iter₂:Expr}{ifs ifs₂:List Expr}{scope:Scope}{pos:Pos}{it acc:Value}{env:Env}(V:Nat->Shared->Prop)(hs:∀x,foldedSetIterable iter₂ env x=pure x)
  (turn:∀n s,V n s->wpAny (model prog w) A (pyNext it) (λr s₁=>match r with
   |none=>R (.ok .next) s₁
   |some v=>wpAny (model prog w) A (letOwnedTupleGo target it v) (λ_ s₂=>wpAny (model prog w) A (assign target env v) (λ_ s₃=>
     wpAny (model prog w) A (jW ifs env) (λok s₄=>
      if ok=true then wpAny (model prog w) A (eval iter₂ env) (λx s₅=>wpAny (model prog w) A (pyIter x) (λit₂ s₆=>codeAny (model prog w) A (.compStart (.ListComp elt [⟨target,iter,ifs,0⟩,⟨target₂,iter₂,ifs₂,0⟩] scope pos) 1 it₂ acc env) (λr s₇=>r=.ok .next/\∃m,m<n/\V m s₇) s₆) (λ_ _=>False) s₅) (λ_ _=>False) s₄
      else ∃m,m<n/\V m s₄) (λ_ _=>False) s₃) (λ_ _=>False) s₂) (λ_ _=>False) s₁) (λ_ _=>False) s)
  (n:Nat) (h:V n s):codeAny (model prog w) A (.compLoop (.ListComp elt [⟨target,iter,ifs,0⟩,⟨target₂,iter₂,ifs₂,0⟩] scope pos) 0 it acc env) R s:=by
 refine codeAny_loop rfl V (λn s hV=>?_) n h;show wpAny _ A ((compTurn (.ListComp elt [⟨target,iter,ifs,0⟩,⟨target₂,iter₂,ifs₂,0⟩] scope pos) 0 it acc env).onRaise (λx=>do noteFrame x env;theTreesLotGoes x)) _ _ s;refine wpAny_noted ?_;rw[zdG];refine aB (uF (aB (gj (turn n s hV) (λr s₁ h₁=>?_) λ_ _ z=>z.elim)));cases r with
 |none=>exact aN h₁
 |some v=>
  refine aB (gj h₁ (λ_ s₂ h₂=>?_) λ_ _ z=>z.elim);refine aB (gj h₂ (λ_ s₃ h₃=>aB (gj h₃ (λok s₄ h₄=>?_) λ_ _ z=>z.elim)) λ_ _ z=>z.elim);cases ok with
  |true=>
   simp only[if_true] at h₄ ⊢;refine aB (gj h₄ (λx s₅ h₅=>aB (uF (aB (Gd (hs x) (aB (pQ (gj h₅ (λit₂ s₆ h₆=>aB (wpAny_runOwn (zF h₆ λr s₇ h₇=>?_))) λ_ _ z=>z.elim))))))) λ_ _ z=>z.elim);obtain⟨rfl,h₇⟩:=h₇;exact aN ⟨rfl,h₇⟩
  |false=>
   simp only[sO,oE] at h₄ ⊢;exact aN ⟨rfl,h₄⟩
theorem za7
  (h0:codeAny (model prog w) A (.compLoop (.ListComp elt [g₁,⟨target,iter,ifs,0⟩] scope pos) 1 it acc env) R s)
  (h:wpAny (model prog w) A (pyIter it) (λit' s'=>codeAny (model prog w) A (.compLoop (.ListComp elt [g₁,⟨target,iter,ifs,0⟩] scope pos) 1 it' acc env) R s') (λ_ _=>False) s) :
  codeAny (model prog w) A (.compStart (.ListComp elt [g₁,⟨target,iter,ifs,0⟩] scope pos) 1 it acc env) R s:=by
 refine codeAny_of_tree ?_;show wpAny _ _ ((compStart (.ListComp elt [g₁,⟨target,iter,ifs,0⟩] scope pos) 1 it acc env).onRaise (λx=>do noteFrame x env;standAt theWindowsPlace)) _ _ s;refine wpAny_notedAt ?_;unfold compStart;show wpAny _ _ (ask >>= _) _ _ s;refine aB (wpAny_askSetting (wpAny_ite ?_))
 split
 ·first
   |exact aB (aN (aN (And.intro rfl h0)))
   |exact aN (And.intro rfl h0)
 ·first
   |exact aB (zJ (aB (uF (aB (gj h (λit' s' h'=>aN (And.intro rfl h')) λ_ _ x=>x.elim)))))
   |(refine aB (zJ ?_);show wpAny _ _ (standAt iter.pos >>= _) _ _ s;exact aB (uF (aB (gj h (λit' s' h'=>aN (And.intro rfl h')) λ_ _ x=>x.elim))))
def Tj(g:TG)(tt:TT)(te:TE)(D:Addr)(bf:It)(Z:St)(H:Hp)(Nx:St->Hp->Prop):Prop:=∃W:Nat->Nat->St->Hp->Prop,(∃m,W 0 m Z H)/\∀i m Z' H',W i m Z' H'->
 (bf.stop i H'/\Nx Z' H')\/(bf.go i H'/\∃N:St->Hp->Prop,(∀Z2 H2,N Z2 H2->∃m',m'<m/\W (i+1) m' Z2 H2)/\∀x H2,bf.uO i H' x H2->g x Z' H2 λZ3 H3=>tt Z3 H3 λok H4=>
  if ok=true then te Z3 H4 λy H5=>∃ys,H5 D=some (.lst ys)/\ys.length<sizeLine/\N Z3 (upd H5 D (.lst (ys++[y]))) else N Z3 H4)
theorem zjb{Y:Cx}{elt tg iter:Expr}{ifs:List Expr}{g₁:Comprehension}{scope:Scope}{pos:Pos}{g:TG}{tt:TT}{te:TE}(hc:Y.aj=true)(Oq:Y.xe=λ_ _=>False)(tgt:PG Y tg g)(JZ:Gw Y ifs tt)(el:PE Y elt te)
  {ao:List (Addr×Obj)} {s:Shared} {Z:St} {H:Hp} {D it:Addr} {fp:List Addr} {tn:Nat->Heap->Prop} {bf:It} {Nx:St->Hp->Prop} (I:Inv Y ao Z H s) (T:Turn Y.prog Y.w Y.K tg bf fp it tn) (st:tn 0 s.heap) (f:∀b∈fp,fU Y ao H b) (h:Tj g tt te D bf Z H Nx)
  {R:Result->Shared->Prop} (k:∀s' Z' H',Inv Y ao Z' H' s'->Nx Z' H'->R (.ok .next) s') :
  codeAny (model Y.prog Y.w) Y.A (.compStart (.ListComp elt [g₁,⟨tg,iter,ifs,0⟩] scope pos) 1 (.ref it) (.ref D) Y.env) R s:=by
 obtain⟨W,⟨m0,w0⟩,turn⟩:=h;have fY:∀{H':Hp},(∀b∈fp,H' b=none)->∀b∈fp,fU Y ao H' b:=λ{H'} z b hb=>⟨z b hb,(f b hb).2⟩;have loop:codeAny (model Y.prog Y.w) Y.A (.compLoop (.ListComp elt [g₁,⟨tg,iter,ifs,0⟩] scope pos) 1 (.ref it) (.ref D) Y.env) R s:=by
  refine zjy (λn s'=>∃i Z' H',Inv Y ao Z' H' s'/\tn i s'.heap/\(∀b∈fp,H' b=none)/\W i n Z' H') ?_ m0 ⟨0,Z,H,I,st,λb hb=>(f b hb).1,w0⟩;rintro n s5 ⟨i,Z5,H5,jK,ug,wC,w5⟩;rcases turn i n Z5 H5 w5 with ⟨stop,q⟩|⟨go,Nn,hN,step⟩
  ·refine aX (T.done Y rfl rfl rfl hc i ao s5 Z5 H5 _ jK (fY wC) ug stop) λr s6 ⟨hr,m_⟩=>?_;subst hr;exact k s6 Z5 H5 m_ q
  ·refine aX (T.item Y rfl rfl rfl hc i ao s5 Z5 H5 _ jK (fY wC) ug go) λr s6 ⟨u,hr,h6⟩=>?_;subst hr;refine aX h6 λ_ s7 ⟨x,H7,uV,r7,y7,uW,J1⟩=>?_;have oX:=uV.pinned (fY J1) (T.obj _ _ uW);have a1:=tgt _ s7 Z5 H7 x u _ oX r7 (step x H7 y7);rw[Oq] at a1;refine aX a1 λ_ s8 ⟨Z8,H8,uX,q8⟩=>?_;have a2:=JZ _ s8 Z8 H8 _ uX q8;rw[Oq] at a2;refine aX a2 λok s9 ⟨H9,uY,q9⟩=>?_;have again:∀{H':Hp} {s':Shared},Inv Y (ao++jk fp s7.heap) Z8 H' s'->Nn Z8 H'->∃m,m<n/\∃i Z' H',Inv Y ao Z' H' s'/\tn i s'.heap/\(∀b∈fp,H' b=none)/\W i m Z' H':=λ{H' s'} fj n'=>by
    obtain⟨m',hm,w'⟩:=hN Z8 H' n';refine⟨m',hm,i+1,Z8,H',fj.cB,T.keep _ _ _ uW λb hb o e=>(fj.pin (b,o) (lC _ (lC _ (zQ hb e)))).1,λb hb=>?_,w'⟩;obtain⟨o,e,d⟩:=T.obj _ _ uW b hb;exact(fj.pin (b,o) (lC _ (lC _ (zQ hb e)))).2.1
   cases ok with
   |false=>
    rw[if_neg Tv] at q9 ⊢;exact again uY q9
   |true=>
    rw[if_pos rfl] at q9 ⊢;have a3:=el _ s9 Z8 H9 _ uY q9;rw[Oq] at a3;refine aX a3 λv Om ⟨y,Tc,uZ,r10,ys,CP,hz,Td⟩=>?_;have a4:=Sy (X:=Y) _ Om Z8 Tc (.ref D) [y] (.ref D) [v] (λ_ H'=>Nn Z8 H') uZ rfl (.cons r10 .nil) ⟨D,ys,y,rfl,rfl,CP,hz,Td⟩;rw[Oq] at a4;exact aX a4 λ_ ZL ⟨_,ZM,oY,_,Te⟩=>again oY Te
 exact za7 loop (T.self _ 0 _ _ _ st loop)
def zT(ZY:St->St)(g₁:TG)(wi₂:TI)(g:TG)(tt:TT)(te:TE)(bf:It)(Z:St)(H:Hp)(Q:VK):Prop:=∀D,H D=none->∃W:Nat->Nat->St->Hp->Prop,(∃m,W 0 m (ZY Z) (upd H D (.lst [])))/\∀i m Z' H',W i m Z' H'->
 (bf.stop i H'/\Q (.ref D) H')\/(bf.go i H'/\∃N:St->Hp->Prop,(∀Z2 H2,N Z2 H2->∃m',m'<m/\W (i+1) m' Z2 H2)/\∀x H2,bf.uO i H' x H2->g₁ x Z' H2 λZ3 H3=>wi₂ Z3 H3 λbf₂ H5=>Tj g tt te D bf₂ Z3 H5 N)
section
variable {X:Cx}{elt tg iter tg₂ iter₂:Expr}{ifs₂:List Expr}{scope:Scope}{pos spos py:Pos}{N:List Str}{ZY:St->St}{wi wi₂:TI}{g g₁:TG}{tt:TT}{te:TE}{i:Nat}{y:Str}
structure kE(X:Cx)(elt tg tg₂ iter₂:Expr)(ifs₂:List Expr)(scope:Scope)(N:List Str)(g₁:TG)(wi₂:TI)(g:TG)(tt:TT)(te:TE):Prop where
 tgt₁:∀cl C s3 H3 fp ao,PG (X.blk scope cl N C s3 H3 fp ao) tg g₁
 it:∀cl C s3 H3 fp ao,PI (X.blk scope cl N C s3 H3 fp ao) tg₂ iter₂ wi₂
 tgt:∀cl C s3 H3 fp ao,PG (X.blk scope cl N C s3 H3 fp ao) tg₂ g
 JZ:∀cl C s3 H3 fp ao,Gw (X.blk scope cl N C s3 H3 fp ao) ifs₂ tt
 el:∀cl C s3 H3 fp ao,PE (X.blk scope cl N C s3 H3 fp ao) elt te
theorem ZP(hc:X.aj=true)(B:cC X.env.scope scope)(P:kE X elt tg tg₂ iter₂ ifs₂ scope N g₁ wi₂ g tt te)(hs₂:∀env x,foldedSetIterable iter₂ env x=pure x)(hl:∀Z,(ZY Z).length=N.length)
  (hZ:∀(Z:St) (i:Nat) (x:Str) (v:V),N[i]?=some x->(ZY Z)[i]?=some (some v)->scope.names.lookup x=some .free/\∃j:Nat,X.N[j]?=some x/\Z[j]?=some (some v))
  {ao:List (Addr×Obj)} {s:Shared} {Z:St} {H:Hp} {Q:VK} {it:Addr} {fp:List Addr} {tn:Nat->Heap->Prop} {bf:It} (I:Inv X ao Z H s) (T:Turn X.prog X.w X.K tg bf fp it tn) (st:tn 0 s.heap) (f:∀b∈fp,fU X ao H b) (h:zT ZY g₁ wi₂ g tt te bf Z H Q)
  {cl:List (Str×Addr)} (c1:∀x c,cl.lookup x=some c->X.env.cells.lookup x=some c) (c2:∀x∈scope.names,x.2=.free->∃c,cl.lookup x.1=some c) {R:Value->Addr->Result->Shared->Prop} {E:Value->Shared->Prop}
  (k:∀D C s' H',Inv X ao Z H' s'->X.s₀.heap.objs.size<=C->H' C=none->C≠X.env.locals->(∀x c,X.env.cells.lookup x=some c->c≠C)->(∀p∈X.pn++ao,p.1≠C)->(∃m,s'.heap.Ns C m)->Q (.ref D) H'->R (.ref D) C (.ok .next) s') :
  wpAny (model X.prog X.w) X.A (newList []) (λacc s₃=>wpAny (model X.prog X.w) X.A (newFunctionEnv scope X.env.globals cl [] X.env.qual none .none (some X.env)) (λcenv s₄=>
   codeAny (model X.prog X.w) X.A (.compStart (.ListComp elt [⟨tg,iter,[],0⟩,⟨tg₂,iter₂,ifs₂,0⟩] scope pos) 0 (.ref it) acc {cenv with scope:=relabel scope X.env}) (R acc cenv.locals) s₄) E s₃) E s:=by
 refine pN ?_;have hD:H s.heap.objs.size=none:=I.hok.fresh (cj _);have I3:Inv X ao Z (upd H s.heap.objs.size (.lst [])) {s with heap:=s.heap.push {cls:=.type "list",dict:=none,data:=.seq ([]:List Value).toArray}}:=
  I.laid (t':=s.toks) (λb u q=>cD _ q) (cj _) ⟨sV _,[],0,.nil,dX _ rfl⟩
 have f3:∀b∈fp,fU X ao (upd H s.heap.objs.size (.lst [])) b:=λb hb=>by
  obtain⟨a1,a2⟩:=f b hb;obtain⟨o,q,_⟩:=T.obj 0 _ st b hb;exact⟨by rw[bW (cV (bR q))];exact a1,a2⟩
 have st3:tn 0 (s.heap.push {cls:=.type "list",dict:=none,data:=.seq ([]:List Value).toArray}):=T.keep _ _ _ st λb hb o q=>cD _ q;obtain⟨W,⟨m0,w0⟩,turn⟩:=h s.heap.objs.size hD;generalize S_:({s with heap:=s.heap.push {cls:=.type "list",dict:=none,data:=.seq ([]:List Value).toArray}}:Shared)=s3 at *;have qC:tn 0 s3.heap:=by rw[<-S_];exact st3
 generalize hH3:upd H s.heap.objs.size (.lst [])=H3 at *;refine Zz (λx c q=>by obtain⟨v,o,q1,_⟩:=I3.cell x c (c1 x c q);exact bR q1) (λx y c a b=>I3.ok.inj x y c (c1 x c a) (c1 y c b)) λh1 fL hn kp CN=>?_;have CK:Inv (X.blk scope fL N s3.heap.objs.size s3 H3 fp ao) [] (ZY Z) H3 {s3 with heap:=h1}:=
  ZD (t:=s3.toks) I3 B c1 c2 f3 (λb hb=>let ⟨o,q,_⟩:=T.obj 0 _ qC b hb;⟨o,q⟩) hn kp CN (hl Z) (hZ Z)
 have J0:tn 0 h1:=T.keep _ _ _ qC λb hb o q=>kp b o q;have fY:∀{H':Hp},(∀b∈fp,H' b=none)->∀b∈fp,fU (X.blk scope fL N s3.heap.objs.size s3 H3 fp ao) [] H' b:=λ{H'} z b hb=>by
  obtain⟨a1,a2,a3,a4,a5,a6⟩:=f3 b hb;obtain⟨o,q,_⟩:=T.obj 0 _ qC b hb;refine⟨z b hb,cV (bR q),λy=>(iM.mp (I3.j_ b y)).elim a2 a3,.inl hb,λx c y=>?_,λp hp=>a6 p ?_⟩
  ·rcases CN.d1 x c y with ⟨q1,_⟩|⟨_,q1,_⟩
   ·exact a5 x c (c1 x c q1)
   ·exact λe=>absurd (bR q) (by rw[<-e];exact Gh.mpr (sU q1))
  have y:p∈(X.pn++ao)++[]:=hp;simpa using y
 have loop:codeAny (model X.prog X.w) X.A (.compLoop (.ListComp elt [⟨tg,iter,[],0⟩,⟨tg₂,iter₂,ifs₂,0⟩] scope pos) 0 (.ref it) (.ref s.heap.objs.size) (compEnvC scope fL s3.heap.objs.size X.env)) (R (.ref s.heap.objs.size) s3.heap.objs.size) {s3 with heap:=h1}:=by
  refine ziw (λn s'=>∃i Z' H',Inv (X.blk scope fL N s3.heap.objs.size s3 H3 fp ao) [] Z' H' s'/\tn i s'.heap/\(∀b∈fp,H' b=none)/\W i n Z' H') (hs₂ _) ?_ m0 ⟨0,ZY Z,H3,CK,J0,λb hb=>(f3 b hb).1,w0⟩;rintro n s5 ⟨i,Z5,H5,jK,ug,wC,w5⟩;rcases turn i n Z5 H5 w5 with ⟨stop,q⟩|⟨go,Nx,hN,step⟩
  ·refine aX (T.done (X.blk scope fL N s3.heap.objs.size s3 H3 fp ao) rfl rfl rfl hc i [] s5 Z5 H5 _ jK (fY wC) ug stop) λr s6 ⟨hr,m_⟩=>?_;subst hr;have JX:=ZJ I3 f3 m_;refine k s.heap.objs.size s3.heap.objs.size s6 H5 JX I3.sz m_.free (qj I3.lt) (λx c y z=>?_) (λp hp z=>?_) ?_ q
   ·obtain⟨v,qc⟩:=I3.cell x c y;exact absurd qc.lt (by rw[z];exact qg _)
   ·exact absurd (bR (I3.pin p hp).1) (by rw[z];exact qg _)
   ·obtain⟨m,hm,_⟩:=m_.loc;exact⟨m,hm⟩
  ·refine aX (T.item (X.blk scope fL N s3.heap.objs.size s3 H3 fp ao) rfl rfl rfl hc i [] s5 Z5 H5 _ jK (fY wC) ug go) λr s6 ⟨u,hr,h6⟩=>?_;subst hr;refine aX h6 λ_ s7 ⟨x,H7,uV,r7,y7,uW,J1⟩=>?_;have oX:=uV.pinned (fY J1) (T.obj _ _ uW);refine aX (P.tgt₁ fL s3.heap.objs.size s3 H3 fp ao _ s7 Z5 H7 x u _ oX r7 (step x H7 y7)) λ_ s8 ⟨Z8,H8,uX,q8⟩=>?_;refine aX (wpAny_tests_nil (env:=compEnvC scope fL s3.heap.objs.size X.env) (Q:=λok s'=>ok=true/\s'=s8) ⟨rfl,rfl⟩) λok s9 ⟨e9,e9'⟩=>?_;subst e9 e9';rw[if_pos rfl];refine aX (P.it fL s3.heap.objs.size s3 H3 fp ao _ s9 Z8 H8 _ uX q8) λxv Om h10=>aX h10 λitv ZL h11=>?_;obtain⟨it₂,fp₂,tn₂,bf₂,ZM,Tn,oY,T₂,st₂,f₂,hq⟩:=h11;subst Tn;refine zjb (Y:=X.blk scope fL N s3.heap.objs.size s3 H3 fp ao) hc rfl (P.tgt fL s3.heap.objs.size s3 H3 fp ao) (P.JZ fL s3.heap.objs.size s3 H3 fp ao) (P.el fL s3.heap.objs.size s3 H3 fp ao) oY T₂ st₂ f₂ hq λs' Z' H' fj n'=>⟨rfl,?_⟩;obtain⟨m',hm,w'⟩:=hN Z' H' n';refine⟨m',hm,i+1,Z',H',fj.cB,T.keep _ _ _ uW λb hb o e=>(fj.pin (b,o) (lC _ (lC _ (zQ hb e)))).1,λb hb=>?_,w'⟩;obtain⟨o,e,d⟩:=T.obj _ _ uW b hb;exact(fj.pin (b,o) (lC _ (lC _ (zQ hb e)))).2.1
 exact codeAny_compStart_list loop (T.self _ 0 _ _ _ J0 loop)
noncomputable def qD(wi:TI)(ZY:St->St)(g₁:TG)(wi₂:TI)(g:TG)(tt:TT)(te:TE):TE:=λZ H Q=>wi Z H λbf H1=>zT ZY g₁ wi₂ g tt te bf Z H1 Q
theorem zhR(hc:X.aj=true)(B:cC X.env.scope scope)(hi:PI X tg iter wi)(P:kE X elt tg tg₂ iter₂ ifs₂ scope N g₁ wi₂ g tt te)(hs₂:∀env x,foldedSetIterable iter₂ env x=pure x)(hl:∀Z,(ZY Z).length=N.length)
  (hZ:∀(Z:St) (i:Nat) (x:Str) (v:V),N[i]?=some x->(ZY Z)[i]?=some (some v)->scope.names.lookup x=some .free/\∃j:Nat,X.N[j]?=some x/\Z[j]?=some (some v))
  (hs:∀x,foldedSetIterable iter X.env x=pure x:=by intro _;rfl):PE X (.ListComp elt [⟨tg,iter,[],0⟩,⟨tg₂,iter₂,ifs₂,0⟩] scope pos) (qD wi ZY g₁ wi₂ g tt te):=by
 intro ao s Z H Q I h;obtain⟨cl,oZ,c1,c2⟩:=Oo I B;rw[eval_ListComp];refine M6 (use:=none) rfl hs oZ B.kind B.loc (aX (hi ao s Z H _ I h) λxv s1 h1=>aX h1 λitv s2 h2=>?_);obtain⟨it,fp,tn,bf,H2,e,I2,T,st2,f2,hq⟩:=h2;subst e;exact ZP hc B P hs₂ hl hZ I2 T st2 f2 hq c1 c2 (R:=λacc C=>compPost (model X.prog X.w) X.A X.xe none (EP X ao Z Q) acc C) λD C s' H' fj a b c d e ⟨m,hm⟩ q=>⟨m,hm,λh' sb=>⟨.ref D,H',Ol (Z':=Z) fj a b c d e sb,rfl,q⟩⟩
theorem zd8(hc:X.aj=true)(hN:X.N.Nodup)(tK:X.N[i]?=some y)(hx:Loc X.env.scope y)(hf:X.fn y=true\/X.env.scope.names.lookup y=some .local)(B:cC X.env.scope scope)(hi:PI X tg iter wi)(P:kE X elt tg tg₂ iter₂ ifs₂ scope N g₁ wi₂ g tt te)(hs₂:∀env x,foldedSetIterable iter₂ env x=pure x)(hl:∀Z,(ZY Z).length=N.length)
  (hZ:∀(Z:St) (i:Nat) (x:Str) (v:V),N[i]?=some x->(ZY Z)[i]?=some (some v)->scope.names.lookup x=some .free/\∃j:Nat,X.N[j]?=some x/\Z[j]?=some (some v))
  (u6:swapsWith (.ListComp elt [⟨tg,iter,[],0⟩,⟨tg₂,iter₂,ifs₂,0⟩] scope pos) (some (.Name y py)) spos.line X.env=pure true) (hs:∀x,foldedSetIterable iter X.env x=pure x:=by intro _;rfl) :
  PS X (.Assign [.Name y py] (.ListComp elt [⟨tg,iter,[],0⟩,⟨tg₂,iter₂,ifs₂,0⟩] scope pos) spos) (xR (qD wi ZY g₁ wi₂ g tt te) (dM i)):=by
 intro ao s Z H D I h;obtain⟨cl,oZ,c1,c2⟩:=Oo I B;rw[exec_Assign_Name_used _ _ _ _ u6];refine aB (uF (aB ?_));show wpAny _ X.A (do let _ <-comprehension (.ListComp elt [⟨tg,iter,[],0⟩,⟨tg₂,iter₂,ifs₂,0⟩] scope pos) scope X.env _ (newList []) false (eval iter X.env) (some (assign (.Name y py) X.env))) _ _ s;refine aB (M6 (use:=some (assign (.Name y py) X.env)) rfl hs oZ B.kind B.loc (aX (hi ao s Z H _ I h) λxv s1 h1=>aX h1 λitv s2 h2=>?_));obtain⟨it,fp,tn,bf,H2,e,I2,T,st2,f2,hq⟩:=h2;subst e;refine ZP hc B P hs₂ hl hZ I2 T st2 f2 hq c1 c2 (R:=λacc C=>compPost (model X.prog X.w) X.A X.xe (some (assign (.Name y py) X.env)) _ acc C) λD' C s' H' fj a b c d e ⟨m,hm⟩ q=>?_;show wpAny _ _ (assign (.Name y py) X.env (.ref D')) _ _ s';refine wpAny_assign_Name (Ro (v:=.ref D') fj hN tK hx rfl (λs5 jK ⟨ad,sb,Tf⟩=>?_) hf);have nC:C≠ad:=by
  rcases Tf with z|z
  ·rw[z];exact c
  ·exact(d y ad z).symm
 obtain⟨ol,es,ep,e1,r1⟩:=hm;refine⟨m,⟨ol,es,ep,(sb.2 C nC).trans e1,r1⟩,λh' Ti=>aN (aN ⟨_,H',Ol (Z':=Z) jK a b c d e Ti,q⟩)⟩
end
end L2
namespace L2
open PySem PySem.Spec PyProof.Rows PySem.W
noncomputable def bI{α:Type}(lt:Nat->Nat->Option Bool):KasT α->Option α
 |.ret a=>some a
 |.ask i j k=>match lt i j with
  |some b=>bI lt (k b)
  |none=>none
theorem Tq{α:Type}{lt:Nat->Nat->Option Bool}{cmp:Nat->Nat->(Bool->Shared->Prop)->Shared->Prop}{Q:α->Shared->Prop}{s:Shared}(hc:∀i j b C,lt i j=some b->C b s->cmp i j C s){a:α}(q:Q a s):∀{t:KasT α},bI lt t=some a->t.kasWp cmp Q s
 |.ret a',h=>by
  unfold bI at h;cases h;exact q
 |.ask i j k,h=>by
  unfold bI at h;cases e:lt i j with
  |none=>rw[e] at h;cases h
  |some b=>
   rw[e] at h;exact hc i j b _ e (Tq hc q h)
noncomputable def dJ(vs:List Value)(p:Array Nat):Array Value:=if vs.length<2 then vs.toArray else List.toArray (p.toList.map λi=>vs.getD i Value.none)
section
variable {prog:Program}{w:World}{A:Around}{E:Value->Shared->Prop}{s:Shared}{κ:SortKind}{lt:Nat->Nat->Option Bool}{p:Array Nat}
theorem zc7{a:Addr}{vs:List Value}{n:Nat}{P:PySem.Fin->Shared->Prop}(ho:s.heap.get? a=some (seqObj "list" vs.toArray n))(nZ:vs.length<64)
  (hk:2<=vs.length->∀(s':Shared) (Q:SortKind->Shared->Prop),(∀b o,b≠a->s.heap.get? b=some o->s'.heap.get? b=some o)->Q κ s'->wpAny (model prog w) A (keyKind' vs.toArray) Q E s')
  (cg:2<=vs.length->∀(s':Shared) i j b C,(∀b o,b≠a->s.heap.get? b=some o->s'.heap.get? b=some o)->lt i j=some b->C b s'->kas_ask prog w A κ vs i j C s') (hr:2<=vs.length->bI lt (kas_sort vs.length)=some p) (J2:2<=vs.length->p.size=vs.length)
  (h:P (.done (.ret .none)) {s with heap:=sortedHeap s.heap a vs (dJ vs p)}) :
  wpAny (model prog w) A (Builtin.«list.sort» ⟨[.ref a],[]⟩) P E s:=by
 rw[list_sort_plain];have ha:a<s.heap.objs.size:=bR ho;refine aB (listItems_at ho rfl ?_);refine aB (Bu ho rfl ?_ (by rw[eY,wg];lia) (sV _));obtain⟨e1,CQ⟩ : ∃e1,(s.heap.update a (Obj.mapSeq λ_=>#[])).get? a=some (seqObj "list" #[] e1):=⟨_,get?_update_seq ho (λ_=>#[])⟩;refine aB (seqEpoch_at CQ rfl ?_);refine aB (wpAny_newTuple ?_ (by show vs.length<=_;rw[wg];lia));refine aB (HY ?_ (sV _));refine pQ ?_;have keep:∀b o,b≠a->s.heap.get? b=some o->(((s.heap.update a (Obj.mapSeq λ_=>(#[]:Array Value))).push (seqObj "tuple" vs.toArray 0)).push (seqObj "list" #[] 0)).get? b=some o:=λb o nb e=>
  cD _ (cD _ ((zx _ _ _ _ nb).trans e))
 have Ot:(((s.heap.update a (Obj.mapSeq λ_=>(#[]:Array Value))).push (seqObj "tuple" vs.toArray 0)).push (seqObj "list" #[] 0)).get? a=some (seqObj "list" #[] e1):=by
  rw[FJ _ _ _ (by rw[size_push',HS];exact cV (q_ ha)),FJ _ _ _ (by rw[HS];exact cV ha)];exact CQ
 show wpAny (model prog w) A _ P E {s with heap:=((s.heap.update a (Obj.mapSeq λ_=>#[])).push (seqObj "tuple" vs.toArray 0)).push (seqObj "list" #[] 0)};dsimp only;have hsz:vs.toArray.size=vs.length:=by simp
 by_cases h2:vs.toArray.size<2
 ·rw[if_pos h2,if_pos h2];refine aB (aN ?_);rw[StateT.run_pure];refine aB (aN ?_);dsimp only;refine aB (seqEpoch_at Ot rfl ?_);refine aB (Bu Ot rfl ?_ (sV _) (by rw[Array.size_map];show (pairsOf vs).size<=_;rw[pairsOf_size,wg];lia));simp only[Rf,sO,oE];have e:((vs.toArray.zip vs.toArray).map (·.2))=dJ vs p:=by
   unfold dJ;rw[if_pos (by rw[hsz] at h2;exact h2)];apply Array.toList_inj.mp;simp[List.map_snd_zip]
  refine aN ?_;have h':=h;rw[<-e] at h';exact h'
 ·rw[if_neg h2,if_neg h2];have mJ:2<=vs.length:=by lia
  refine aB (hk mJ _ _ keep ?_);refine aB (gj (kat_run (κ:=κ) (ks:=vs) (vs:=vs) (G:=λp' s'=>p'=p/\s'={s with heap:=((s.heap.update a (Obj.mapSeq λ_=>#[])).push (seqObj "tuple" vs.toArray 0)).push (seqObj "list" #[] 0)})
   (Q:=λst' s'=>arrOf st'=p.map (kas_item (vs.toArray.zip vs.toArray))/\failedOf st'=none/\s'={s with heap:=((s.heap.update a (Obj.mapSeq λ_=>#[])).push (seqObj "tuple" vs.toArray 0)).push (seqObj "list" #[] 0)})
   rfl mJ nZ (λp' st' s' a1 a2 a3 a4=>⟨by rw[a2,a4.1],a3,a4.2⟩) (Tq (λi j b C hl hC=>cg mJ _ i j b C keep hl hC) ⟨rfl,rfl⟩ (hr mJ))) ?_ λ_ _ e=>e)
  rintro⟨⟨⟩,st'⟩ s' ⟨Gx,hf,rfl⟩;dsimp only;have hout:=kat_snds (ks:=vs) (vs:=vs) rfl Gx;have e:List.toArray (p.toList.map λi=>vs.getD i Value.none)=dJ vs p:=by
   unfold dJ;rw[if_neg gV]
  rw[hout,e];have ZQ:(dJ vs p).size=vs.length:=by rw[<-e,eY,cZ,qb,J2 mJ]
  refine aB (seqEpoch_at Ot rfl ?_);refine aB (Bu Ot rfl ?_ (sV _) (by rw[ZQ,wg];lia));rw[hf];simp only[Rf,sO,oE];exact aN h
theorem Tr(hl:s.heap.IsList l vs.toArray)(nZ:vs.length<64)
  (hk:2<=vs.length->∀(s':Shared) (Q:SortKind->Shared->Prop) E,(∀b o,s.heap.get? b=some o->s'.heap.get? b=some o)->Q κ s'->wpAny (model prog w) A.in1.in1 (keyKind' vs.toArray) Q E s')
  (cg:2<=vs.length->∀(s':Shared) i j b C,(∀b o,s.heap.get? b=some o->s'.heap.get? b=some o)->lt i j=some b->C b s'->kas_ask prog w A.in1.in1 κ vs i j C s') (hr:2<=vs.length->bI lt (kas_sort vs.length)=some p) (J2:2<=vs.length->p.size=vs.length)
  (h:Q (.ref (s.heap.objs.size+1)) {s with heap:=sortedAll s.heap vs (dJ vs p)}) :
  wpAny (model prog w) A (call (.builtin "sorted") [.ref l]) Q E s:=by
 refine Calls.call_function_entry kind_sorted plain_sorted entry_sorted (args_sorted1 _) ?_;unfold Builtin.«sorted»;refine aB (m:=checkCount "sorted" 1 1 _) (aN ?_);refine aB (collect_list hl ?_ (by rw[wg];lia));refine aB (HY ?_ (by rw[wg];lia));have hsz:((s.heap.push (seqObj "list" #[] 0)).update s.heap.objs.size (Obj.mapSeq (·++vs.toArray))).objs.size=s.heap.objs.size+1:=by
  rw[HS,size_push']
 have BZ:(((s.heap.push (seqObj "list" #[] 0)).update s.heap.objs.size (Obj.mapSeq (·++vs.toArray))).push (seqObj "list" vs.toArray 0)).get? (s.heap.objs.size+1)=some (seqObj "list" vs.toArray 0):=by
  rw[<-hsz];exact dX _ rfl
 have keep:∀b o,s.heap.get? b=some o->(((s.heap.push (seqObj "list" #[] 0)).update s.heap.objs.size (Obj.mapSeq (·++vs.toArray))).push (seqObj "list" vs.toArray 0)).get? b=some o:=λb o q=>by
  have cg:b<s.heap.objs.size:=bR q;rw[FJ _ _ _ (by rw[hsz];exact cV (q_ cg)),zx _ _ _ _ (cV cg),FJ _ _ _ (cV cg)];exact q
 show wpAny _ _ _ _ _ {s with heap:=((s.heap.push (seqObj "list" #[] 0)).update s.heap.objs.size (Obj.mapSeq (·++vs.toArray))).push (seqObj "list" vs.toArray 0)};rw[hsz];have nn:∀b o,s.heap.get? b=some o->b≠s.heap.objs.size+1:=λb o e=>cV (q_ (bR e));refine aB (pQ (wZ slot_list_sort ⟨_,BZ,rfl⟩ entry_list_sort (zc7 (κ:=κ) (lt:=lt) (p:=p) BZ nZ (λh2 s' Q' k q=>hk h2 s' Q' _ (λb o e=>k b o (nn b o e) (keep b o e)) q) (λh2 s' i j b C k e q=>cg h2 s' i j b C (λb o e=>k b o (nn b o e) (keep b o e)) e q) hr J2 ⟨_,rfl,?_⟩) (args_list_sort _)));exact aN ⟨_,rfl,h⟩
end
def lU:List V->List V->Option Bool
 |[],ys=>some (decide (0<ys.length))
 |_::_,[]=>some false
 |.int x::xs,.int y::ys=>if x=y then lU xs ys else some (decide (x<y))
 |_::_,_::_=>none
theorem zmu{prog:Program}{w:World}{A:Around}{s:Shared}{fin:Bool}{C:Bool->Shared->Prop}{b:Bool}:∀{us ws:List V} {its jts:List Value} {i:Nat},Vals us its->Vals ws jts->lU us ws=some b->fin=decide (us.length<ws.length)->C b s->KatLex prog w A true fin C (its.zip jts) i s:=by
 intro us ws its jts i r1
 induction r1 generalizing ws jts i with
 |nil=>
  intro _ h hf hc;rw[List.zip_nil_left];unfold lU at h;cases h;rw[hf];exact kat_nil hc
 |@cons x u us its rx ri ih=>
  intro r2 h hf hc;cases r2 with
  |nil=>
   rw[List.zip_nil_right];unfold lU at h;cases h;rw[hf];exact kat_nil (by simpa using hc)
  |@cons y v ws jts ry rj=>
   rw[HD];cases x with
   |int a=>
    cases y with
    |int c=>
     obtain⟨t,rfl⟩:=rx;obtain⟨t',rfl⟩:=ry;unfold lU at h;refine kat_cons (wpAny_eqBool_int ?_);by_cases e:a=c
     ·rw[if_pos e] at h;subst e;rw[FP];exact kat_yes (ih rj h (by rw[hf];simp) hc)
     ·rw[if_neg e] at h;cases h;rw[show (a==c)=false by simpa using e];refine kat_no ?_;by_cases hi:i=0
      ·subst hi;exact oneLt_int hc
      ·rw[show (true&&i==0)=false by simpa using hi];exact kat_one _ _ (wpAny_lt_int hc)
    |_=>cases h
   |_=>cases y<;>cases h
def u9(K:W.Frag)(H:Hp)(ys:List V)(lt:Nat->Nat->Option Bool):Prop:=
 ((∀v∈ys,∃i,v=V.int i)/\∀i j b,lt i j=some b->∃x y,ys[i]?=some (.int x)/\ys[j]?=some (.int y)/\b=decide (x<y)) \/
 ((∀v∈ys,∃a i r,v=.ref a/\gw K H a (.int i::r))/\∀i j b,lt i j=some b->∃a c us ws,ys[i]?=some (.ref a)/\ys[j]?=some (.ref c)/\gw K H a us/\gw K H c ws/\lU us ws=some b)
noncomputable def fX(ys:List V)(p:Array Nat):List V:=if ys.length<2 then ys else p.toList.map λi=>ys.getD i .non
theorem ZR(r:Vals ys its):∀l:List Nat,Vals (l.map λi=>ys.getD i .non) (l.map λi=>its.getD i Value.none)
 |[]=>.nil
 |i::l=>by
  refine .cons ?_ (ZR r l);cases e:ys[i]? with
  |some y=>
   obtain⟨u,e1,e2⟩:=r.get e;show RelV (ys.getD i .non) (its.getD i Value.none);rw[jT,jT,e,e1];exact e2
  |none=>
   have e1:its[i]?=none:=by rw[qZ] at e ⊢;rw[<-r.length];exact e
   show RelV (ys.getD i .non) (its.getD i Value.none);rw[jT,jT,e,e1];rfl
theorem ZS{ys:List V}{its:List Value}(r:Vals ys its)(p:Array Nat):Vals (fX ys p) (dJ its p).toList:=by
 unfold fX dJ;rw[r.length];by_cases h:its.length<2
 ·rw[if_pos h,if_pos h];exact r
 ·rw[if_neg h,if_neg h];exact ZR r p.toList
theorem zhX{ys:List V}{its:List Value}(r:Vals ys its):∀u∈its,∃v∈ys,RelV v u:=by
 induction r with
 |nil=>intro u hu;cases hu
 |cons h t ih=>
  intro u hu;rcases iM.mp hu with rfl|hu
  ·exact⟨_,lN,h⟩
  ·obtain⟨v,a,b⟩:=ih u hu;exact⟨v,iJ _ a,b⟩
section
variable {X:Cx}
theorem ZV{prog:Program}{w:World}{A:Around}{E:Value->Shared->Prop}{s:Shared}{its:List Value}{Q:SortKind->Shared->Prop}(h2:2<=its.length)(hi:∀u∈its,∃i t,u=Value.int i t)(q:Q oneType' s):wpAny (model prog w) A (keyKind' its.toArray) Q E s:=
 kas_kind (T:=.type "int") h2 (λv hv=>by obtain⟨i,t,rfl⟩:=hi v hv;exact .of_pure rfl) Tv Tv q
theorem zkj{K:W.Frag}{ao:List (Addr×Obj)}{s:Shared}{Z:St}{H:Hp}(I:Inv X ao Z H s){h':Heap}(k:∀b o,s.heap.get? b=some o->h'.get? b=some o):∀{ys:List V} {its:List Value},Vals ys its->(∀v∈ys,∃a i r,v=.ref a/\gw X.K H a (.int i::r))->∃fs:List Value,fs.length=its.length/\(∀f∈fs,∃i t,f=Value.int i t)/\KatTups h' its fs:=by
 intro ys its r0
 induction r0 with
 |nil=>exact λ_=>⟨[],rfl,(λf hf=>by cases hf),trivial⟩
 |@cons v u ys its r rs ih=>
  intro h;obtain⟨a,i,r',rfl,hq⟩:=h _ lN;obtain⟨fs,l,hf,kt⟩:=ih λv hv=>h v (iJ _ hv);obtain⟨its',rv,⟨o,ho,hc,n,hd⟩,_⟩:=I.tuple hq;cases (show u=Value.ref a from r);cases rv with
  |cons ri rr=>
   obtain⟨t,rfl⟩:=ri;refine⟨Value.int i t::fs,by simp[l],λf hf'=>?_,KatTups.cons (k _ _ ho) hc hd Zaa kt⟩;rcases iM.mp hf' with rfl|z
   ·exact⟨i,t,rfl⟩
   ·exact hf f z
theorem zgq{prog:Program}{w:World}{A:Around}{E:Value->Shared->Prop}{s:Shared}{its fs:List Value}{Q:SortKind->Shared->Prop}(h2:2<=its.length)(hl:fs.length=its.length)(hi:∀u∈fs,∃i t,u=Value.int i t)(kt:KatTups s.heap its fs)(q:Q (tuples' true) s):wpAny (model prog w) A (keyKind' its.toArray) Q E s:=
 kat_kind (T:=.type "int") kt gV (λv hv=>by obtain⟨i,t,rfl⟩:=hi v hv;exact .of_pure rfl) Tv q
def Gy{its:List Value}{i:Nat}{u:Value}(h:its[i]?=some u):its.getD i Value.none=u:=by rw[jT,h];rfl
theorem zed:cW X (.builtin "sorted") (λxs H Q=>∃l ys lt p,xs=[.ref l]/\cY X.K H l ys/\ys.length<64/\(2<=ys.length->u9 X.K H ys lt/\bI lt (kas_sort ys.length)=some p/\p.size=ys.length)/\∀r,H r=none->Q (.ref r) (upd H r (.lst (fX ys p)))):=by
 intro ao s Z H xs us Q I r h;obtain⟨l,ys,lt,p,rfl,hq,nZ,hs,q⟩:=h;obtain⟨u,rfl,rx⟩:=vals1 r;cases rx;obtain⟨its,rv,pl,hz⟩:=I.list hq;have hlen:=rv.length;have fin:EP X ao Z Q (.ref (s.heap.objs.size+1)) {s with heap:=sortedAll s.heap its (dJ its p)}:=by
  obtain⟨e,he⟩:=sortedAll_at s.heap its (dJ its p);have hn:H (s.heap.objs.size+1)=none:=I.hok.fresh (xq _);refine⟨.ref (s.heap.objs.size+1),_,I.laid (t':=s.toks) (λb u q=>sortedAll_old q) (xq _) (show bL X.prog X.w _ _ _ (.lst (fX ys p)) from ⟨?_,(dJ its p).toList,e,ZS rv p,by rw[Q7];exact he⟩),rfl,q _ hn⟩;unfold fX;by_cases h2:ys.length<2
  ·rw[if_pos h2];exact hz
  ·rw[if_neg h2,cZ,qb,(hs gV).2.2];exact hz
 by_cases h2:2<=ys.length
 ·obtain⟨hS,hr,hp⟩:=hs h2;rcases hS with ⟨hI,cg⟩|⟨hT,cg⟩
  ·refine Tr (κ:=oneType') (lt:=lt) (p:=p) pl.isList gV (λmJ s' Q' E' k q'=>ZV mJ (λu hu=>?_) q') (λ_ s' i j b C k e hC=>?_) (λ_=>by rw[<-hlen];exact hr) (λ_=>by lia) fin
   ·obtain⟨v,hv,rr⟩:=zhX rv u hu;obtain⟨i,rfl⟩:=hI v hv;obtain⟨t,rfl⟩:=rr;exact⟨i,t,rfl⟩
   ·obtain⟨x,y,e1,e2,rfl⟩:=cg i j b e;obtain⟨u1,f1,g1⟩:=rv.get e1;obtain⟨u2,f2,g2⟩:=rv.get e2;obtain⟨t1,rfl⟩:=g1;obtain⟨t2,rfl⟩:=g2;show wpAny _ _ (keyLt' oneType' (its.getD i Value.none) (its.getD j Value.none)) C _ s';rw[Gy f1,Gy f2];exact kat_lt_int hC
  ·refine Tr (κ:=tuples' true) (lt:=lt) (p:=p) pl.isList gV (λmJ s' Q' E' k q'=>?_) (λ_ s' i j b C k e hC=>?_) (λ_=>by rw[<-hlen];exact hr) (λ_=>by lia) fin
   ·obtain⟨fs,l1,hf,kt⟩:=zkj (K:=X.K) I k rv hT;exact zgq mJ l1 hf kt q'
   ·obtain⟨a,c,us,ws,e1,e2,q1,q2,e3⟩:=cg i j b e;obtain⟨u1,f1,g1⟩:=rv.get e1;obtain⟨u2,f2,g2⟩:=rv.get e2;cases (show u1=Value.ref a from g1);cases (show u2=Value.ref c from g2);obtain⟨i1,r1,⟨o1,CQ,hc1,n1,Tt⟩,_⟩:=I.tuple q1;obtain⟨i2,r2,⟨o2,qx,nY,n2,hd2⟩,_⟩:=I.tuple q2;show wpAny _ _ (keyLt' (tuples' true) (its.getD i Value.none) (its.getD j Value.none)) C _ s';rw[Gy f1,Gy f2];refine kat_lt (k _ _ CQ) Tt (k _ _ qx) hd2 (zmu r1 r2 e3 ?_ hC);rw[r1.length,r2.length];simp
 ·exact Tr (κ:=oneType') (lt:=lt) (p:=p) pl.isList gV (λmJ=>absurd mJ gV) (λmJ=>absurd mJ gV) (λmJ=>absurd mJ gV) (λmJ=>absurd mJ gV) fin
end
end L2
namespace L2
open PySem PySem.Spec PyProof.Rows PySem.W PySem.Calls
theorem ZW{α:Type}:∀{l:List (Str×α)} {f:Str} {u:α},(l.map (·.1)).Nodup->(f,u)∈l->l.lookup f=some u
 |(g,v)::r,f,u,hn,hm=>by
  rw[jx,w6] at hn;rw[qd];rcases iM.mp hm with e|hm
  ·cases e;simp
  ·have:f≠g:=λz=>hn.1 (by rw[<-z];exact oh.mpr ⟨(f,u),hm,rfl⟩);rw[show (f==g)=false by simpa using this];exact ZW hn.2 hm
def zkP{α:Type}{fs:List Str}{us:List α}{i:Nat}{f:Str}{u:α}(h1:fs[i]?=some f)(h2:us[i]?=some u):(f,u)∈fs.zip us:=by
 refine fG (i:=i) ?_;exact(List.getElem?_zip_eq_some (z:=(f,u))).mpr ⟨h1,h2⟩
structure XF(K:Frag)(C:Addr)(f:Str):Prop where
 ga:findIn K (.ref C) "__getattribute__"=some (some (.builtin "BaseException.__getattribute__"))
 gn:findIn K (.ref C) "__getattr__"=some none
 mb:mroIn K C (.type "BaseException")=some true
 no:findIn K (.ref C) f=some none
 hd:hasDictIn K C=true
end L2
namespace L2
open PySem PySem.Spec PyProof.Rows
section
variable {X:Cx}{ao:List (Addr×Obj)}{Z:St}{H:Hp}{s:Shared}{h':Heap}
theorem Inv.mK{t':Nat}{ch:List Addr}{a:Addr}{o:HO}(I:Inv X ao Z H s)(k:∀b u,b∉ch->s.heap.get? b=some u->h'.get? b=some u)(hf:∀b∈ch,fU X ao H b)(ha:s.heap.objs.size<=a)(new:bL X.prog X.w (upd H a o) h' a o) :
  Inv X ao Z (upd H a o) {s with heap:=h',toks:=t'}:=by
 have zO:∀b u,H b=some u->b∉ch:=λb u e z=>by rw[(hf b z).1] at e;cases e
 have hn:H a=none:=I.hok.fresh ha;have na:∀b u,H b=some u->b≠a:=λb u e z=>by rw[z,hn] at e;cases e
 have la:∀b u,s.heap.get? b=some u->b≠a:=λb u e=>cV (f9 (bR e) ha);refine I.step (g':=s.gens) (d':=s.drawn) (ch:=ch) (λb hb=>?_) (λb o _ _ hc e _=>k b o hc e) (λb o _ _ hc e _=>⟨o.slots,k b o hc e⟩) (λb o' _ e n=>by rw[bW (la b o' e)];exact n)
  (λb o hc e=>⟨o,k b o hc e⟩) (λb xs e=>by rw[bW (na b _ e)];exact e) (λb o u e=>by rw[bW (na b _ e)];exact e) (λb ps e=>⟨#[],by rw[bW (na b _ e),e];simp,.nil⟩) (λm hm=>?_) (λb u e=>?_) I.bare
 ·obtain⟨f0,f1,f2,f3,f4,f5⟩:=hf b hb;exact⟨f3.imp id λz=>Fl z,f1,f4,f5⟩
 ·obtain⟨o,es,ep,ho,r⟩:=hm;exact⟨o,es,ep,k _ o (λz=>(hf _ z).2.1 rfl) ho,r⟩
 ·by_cases z:b=a
  ·subst z;rw[iQ] at e;cases e;exact new
  ·rw[bW z] at e;refine(I.hok b u e).stay (λc v hc q=>k c v ?_ q) (λc q=>by rw[bW (na c _ q)];exact q) λc _ q=>by rw[bW (na c _ q)];exact q
   rcases hc with y|y
   ·rw[y];exact zO b u e
   ·exact zO c _ y
theorem Inv.rJ{t':Nat}{ch:List Addr}(I:Inv X ao Z H s)(k:∀b u,b∉ch->s.heap.get? b=some u->h'.get? b=some u)(hf:∀b∈ch,fU X ao H b):Inv X ao Z H {s with heap:=h',toks:=t'}:=by
 have zO:∀b u,H b=some u->b∉ch:=λb u e z=>by rw[(hf b z).1] at e;cases e
 refine I.step (g':=s.gens) (d':=s.drawn) (ch:=ch) (λb hb=>?_) (λb o _ _ hc e _=>k b o hc e) (λb o _ _ hc e _=>⟨o.slots,k b o hc e⟩) (λ_ _ _ _ n=>n)
  (λb o hc e=>⟨o,k b o hc e⟩) (λ_ _ e=>e) (λ_ _ _ e=>e) (λb ps e=>⟨#[],by rw[e];simp,.nil⟩) (λm hm=>?_) (λb u e=>?_) I.bare
 ·obtain⟨f0,f1,f2,f3,f4,f5⟩:=hf b hb;exact⟨f3.imp id λz=>Fl z,f1,f4,f5⟩
 ·obtain⟨o,es,ep,ho,r⟩:=hm;exact⟨o,es,ep,k _ o (λz=>(hf _ z).2.1 rfl) ho,r⟩
 ·refine(I.hok b u e).stay (λc v hc q=>k c v ?_ q) (λ_ q=>q) λ_ _ q=>q;rcases hc with y|y
  ·rw[y];exact zO b u e
  ·exact zO c _ y
end
structure mL(prog:Program)(w:World)(it src:Addr)(st:Nat->Heap->Prop)(its:Array Value):Prop where
 item:∀(A:Around) (E:Value->Shared->Prop) (s:Shared) (i:Nat) (x:Value) (Q:Value->Shared->Prop),st i s.heap->its[i]?=some x->(∀h',st (i+1) h'->Heap.SameBut it s.heap h'->Q x {s with heap:=h'})->wpAny (model prog w) A (Builtin.SmallTypes.nextOf (.ref it)) Q E s
 fin:∀(A:Around) (E:Value->Shared->Prop) (s:Shared) (i:Nat) (Q:Value->Shared->Prop),A.handled=none->st i s.heap->its[i]?=none->(∀h' e,Heap.ExtBut it s.heap h'->(∃o,h'.get? e=some o/\o.cls=.type "StopIteration")->E (.ref e) {s with heap:=h'})->wpAny (model prog w) A (Builtin.SmallTypes.nextOf (.ref it)) Q E s
 keep:∀i h h',st i h->(∀b o,b=it\/b=src->h.get? b=some o->h'.get? b=some o)->st i h'
theorem mL.list(qF:l≠it):mL prog w it l (λi h=>h.IsListIter it l i/\h.IsList l its) its where
 item:=λA E s i x Q ⟨h1,h2⟩ hx q=>wpAny_nextOf_list_item h1 h2 hx λh' a sb=>q h' ⟨a,h2.at λo e=>(sb.2 l qF).trans e⟩ sb
 fin:=λA E s i Q hh ⟨h1,h2⟩ hx q=>wpAny_nextOf_list_end hh h1 h2 hx q
 keep:=λi h h' ⟨h1,h2⟩ k=>⟨h1.at λo e=>k it o (.inl rfl) e,h2.at λo e=>k l o (.inr rfl) e⟩
def ZX(l:Addr):¬((Value.ref l==Value.none)=true):=λz=>by cases (show false=true from z)
def IsTupleIter.at'{h h':Heap}{it l:Addr}{i:Nat}(x:h.IsTupleIter it l i)(k:∀o,h.get? it=some o->h'.get? it=some o):h'.IsTupleIter it l i:=by
 obtain⟨o,e,r⟩:=x;exact⟨o,k o e,r⟩
def IsTuple.at'{h h':Heap}{l:Addr}{xs:Array Value}(x:h.IsTuple l xs)(k:∀o,h.get? l=some o->h'.get? l=some o):h'.IsTuple l xs:=by
 obtain⟨o,e,r⟩:=x;exact⟨o,k o e,r⟩
section
variable {prog:Program}{w:World}{A:Around}{E:Value->Shared->Prop}{s:Shared}{it l:Addr}{i:Nat}{its:Array Value}
theorem zfh{x:Value}{Q:Value->Shared->Prop}(hi:s.heap.IsTupleIter it l i)(hl:s.heap.IsTuple l its)(hx:its[i]?=some x)(q:∀h',h'.IsTupleIter it l (i+1)->Heap.SameBut it s.heap h'->Q x {s with heap:=h'}) :
  wpAny (model prog w) A (Builtin.SmallTypes.nextOf (.ref it)) Q E s:=by
 obtain⟨oi,ei,ci,di⟩:=id hi;obtain⟨ol,el,_,nl,dl⟩:=hl;unfold Builtin.SmallTypes.nextOf;refine aB (zm (name:=Str.ofString "__next__") hi.typeIs M5 (wZ M5 hi.typeIs F.entry_tuple_iterator_next ?_ (F.args_tuple_iterator_next_1 _)));show wpAny _ A.in1 (field (.ref it) 0 >>= _) _ E s;refine aB (lD ei di (x:=.ref l) rfl ?_);show wpAny _ A.in1 (if (Value.ref l==Value.none)=true then _ else _) _ E s;rw[if_neg (ZX l)];show wpAny _ A.in1 (field (.ref it) 1 >>= _) _ E s;refine aB (lD ei di (x:=.int i 0) rfl ?_);show wpAny _ A.in1 (seqItems? (.ref l) >>= _) _ E s;refine aB (sS el dl ?_);simp only[pO,hx];refine aB (HX ei di Zaa (aN ⟨x,rfl,aN (q _ ⟨_,Bg _ ei (M9 (zA di _)),(Obj.cls_mapFields ..).trans ci,?_⟩ (Heap.SameBut.update ..))⟩));rw[zA di];simp[rawInt]
theorem zgw{Q:Value->Shared->Prop}(hh:A.handled=none)(hi:s.heap.IsTupleIter it l i)(hl:s.heap.IsTuple l its)(hx:its[i]?=none)(q:∀h' e,Heap.ExtBut it s.heap h'->(∃o,h'.get? e=some o/\o.cls=.type "StopIteration")->E (.ref e) {s with heap:=h'}) :
  wpAny (model prog w) A (Builtin.SmallTypes.nextOf (.ref it)) Q E s:=by
 obtain⟨oi,ei,ci,di⟩:=id hi;obtain⟨ol,el,_,nl,dl⟩:=hl;unfold Builtin.SmallTypes.nextOf;refine aB (zm (name:=Str.ofString "__next__") hi.typeIs M5 (wZ M5 hi.typeIs F.entry_tuple_iterator_next ?_ (F.args_tuple_iterator_next_1 _)));show wpAny _ A.in1 (field (.ref it) 0 >>= _) _ E s;refine aB (lD ei di (x:=.ref l) rfl ?_);show wpAny _ A.in1 (if (Value.ref l==Value.none)=true then _ else _) _ E s;rw[if_neg (ZX l)];show wpAny _ A.in1 (field (.ref it) 1 >>= _) _ E s;refine aB (lD ei di (x:=.int i 0) rfl ?_);show wpAny _ A.in1 (seqItems? (.ref l) >>= _) _ E s;refine aB (sS el dl ?_);simp only[pO,hx];refine aB (zJ (aB (HX ei di Zaa ?_)));show wpAny _ A.in1 (newExc (.type "StopIteration") [] >>= _) _ E _;refine aB ?_;simp only[newExc,newTuple];refine aB (pN (aB (m:=firstArgMember _ _) (Gd (a:=Value.none) (by first|rfl|(simp only[firstArgMember];rfl)) (pN ?_ (by size_fits)))) (by size_fits));simp only[raiseNew];refine aB (wpAny_handled ?_);rw[show A.in1.handled=none from hh];exact aB (aN (wpAny_throw (q _ _ (((Heap.SameBut.update ..).extBut.push _).push _) ⟨_,dX _ rfl,rfl⟩)))
end
theorem mL.tuple{prog:Program}{w:World}{it l:Addr}{its:Array Value}(qF:l≠it):mL prog w it l (λi h=>h.IsTupleIter it l i/\h.IsTuple l its) its where
 item:=λA E s i x Q ⟨h1,h2⟩ hx q=>zfh h1 h2 hx λh' a sb=>q h' ⟨a,IsTuple.at' h2 λo e=>(sb.2 l qF).trans e⟩ sb
 fin:=λA E s i Q hh ⟨h1,h2⟩ hx q=>zgw hh h1 h2 hx q
 keep:=λi h h' ⟨h1,h2⟩ k=>⟨IsTupleIter.at' h1 λo e=>k it o (.inl rfl) e,IsTuple.at' h2 λo e=>k l o (.inr rfl) e⟩
structure nj(z TI TO i1 i2 l1 l2:Addr):Prop where
 zs:z≠TI/\z≠TO/\z≠i1/\z≠i2/\z≠l1/\z≠l2
 os:TO≠TI/\TO≠i1/\TO≠i2/\TO≠l1/\TO≠l2
 is:TI≠i1/\TI≠i2/\i1≠i2/\i1≠l1/\i1≠l2/\i2≠l1/\i2≠l2
section
variable {prog:Program}{w:World}{A:Around}{E:Value->Shared->Prop}{s:Shared}{z TI TO i1 i2 l1 l2:Addr}{st1 st2:Nat->Heap->Prop}{xs ys:Array Value}{k:Nat}{a b:Value}
theorem zij(N1:mL prog w i1 l1 st1 xs)(N2:mL prog w i2 l2 st2 ys)(D:nj z TI TO i1 i2 l1 l2)(hz:IsZip s.heap z TI TO .none)(Tw:IsPair s.heap TI (.ref i1) (.ref i2))(Tz:IsPair s.heap TO a b)
  (h1:st1 k s.heap) (h2:st2 k s.heap) (hx:xs[k]?=some x) (hy:ys[k]?=some y)
  (q:∀h',IsZip h' z TI TO (rawInt s.heap.objs.size)->IsPair h' TO x y->st1 (k+1) h'->st2 (k+1) h'->IsPair h' s.heap.objs.size x y->h'.objs.size=s.heap.objs.size+1->(∀c o,c≠z->c≠TO->c≠i1->c≠i2->s.heap.get? c=some o->h'.get? c=some o)->Q (some (.ref s.heap.objs.size)) {s with heap:=h'}) :
  wpAny (model prog w) A (pyNext (.ref z)) Q E s:=by
 obtain⟨⟨z1,z2,z3,z4,z5,z6⟩,⟨t1,t2,t3,t4,t5⟩,⟨j1,j2,j3,j4,j5,j6,j7⟩⟩:=D;have hT:s.TypeIs (.ref z) "zip":=⟨_,hz,rfl⟩;unfold pyNext;refine aB (Ga (zm (name:=Str.ofString "__next__") hT Nq (wZ Nq hT F.entry_zip_next ?_ (F.args_zip_next_1 _))));show wpAny _ A.in1 (field (.ref z) 2 >>= _) _ _ s;refine aB (lD hz rfl (x:=.bool false) rfl ?_);show wpAny _ A.in1 (field (.ref z) 3 >>= _) _ _ s;refine aB (lD hz rfl (x:=.ref TI) rfl (aB (sS Tw rfl ?_)));show wpAny _ A.in1 (Builtin.SmallTypes.ownedTupleIsFree (.ref z) >>= _) _ _ s;refine aB ?_;unfold Builtin.SmallTypes.ownedTupleIsFree;refine aB (lD hz rfl (x:=.none) rfl (aN ?_));simp only[if_true];refine aB (zJ (aB (lD hz rfl (x:=.ref TO) rfl (aB (Fx hz Zaa λha za sa=>aB ?_)))))
 replace za:IsZip ha z TI TO .ellipsis:=za
 simp only[List.zipIdx_cons,List.zipIdx_nil,FZ,Nt];refine aB (aB (wpAny_onRaise ?_));show wpAny _ A.in1 (Builtin.SmallTypes.nextOf (.ref i1) >>= _) _ _ _;refine aB (N1.item _ _ {s with heap:=ha} k x _ (N1.keep _ _ _ h1 λc o hc e=>sa.extBut c o (by rcases hc with rfl|rfl;exact z3.symm;exact z5.symm) e) hx λhb Z0 sb=>aN ?_);have tb:IsPair hb TO a b:=sb.extBut _ _ t2 (sa.extBut _ _ z2.symm Tz);refine aB (sS tb rfl (aB (Q8 tb λhc tc sc=>aB (zG (aN ?_)))))
 replace tc:IsPair hc TO x b:=tc
 refine aB (aB (wpAny_onRaise ?_));show wpAny _ A.in1 (Builtin.SmallTypes.nextOf (.ref i2) >>= _) _ _ _;have k2:st2 k hc:=N2.keep _ _ _ h2 λc o lQ e=>by
  rcases lQ with rfl|rfl
  ·exact sc.extBut _ _ t3.symm (sb.extBut _ _ j3.symm (sa.extBut _ _ z4.symm e))
  ·exact sc.extBut _ _ t5.symm (sb.extBut _ _ j5.symm (sa.extBut _ _ z6.symm e))
 have k1:st1 (k+1) hc:=N1.keep _ _ _ Z0 λc o lQ e=>by
  rcases lQ with rfl|rfl
  ·exact sc.extBut _ _ t2.symm e
  ·exact sc.extBut _ _ t4.symm e
 refine aB (N2.item _ _ {s with heap:=hc} k y _ k2 hy λhd sd2 sd=>aN ?_);have td:IsPair hd TO x b:=sd.extBut _ _ t3 tc;refine aB (sS td rfl (aB (Q8 td λhe te se=>aB (zG (aN (aN ?_))))))
 replace te:IsPair he TO x y:=te
 refine aB (sS te rfl (aB (wpAny_newTuple ?_)));have size:he.objs.size=s.heap.objs.size:=by rw[se.1,sd.1,sc.1,sb.1,sa.1]
 have ze:IsZip he z TI TO .ellipsis:=se.extBut _ _ z2 (sd.extBut _ _ z4 (sc.extBut _ _ z2 (sb.extBut _ _ z3 za)));have kept:∀c o,c≠z->c≠TO->c≠i1->c≠i2->s.heap.get? c=some o->he.get? c=some o:=λc o c1 c2 c3 c4 e=>se.extBut _ _ c2 (sd.extBut _ _ c4 (sc.extBut _ _ c2 (sb.extBut _ _ c3 (sa.extBut _ _ c1 e))));have e1:st1 (k+1) he:=N1.keep _ _ _ k1 λc o lQ e=>by
  rcases lQ with rfl|rfl
  ·exact se.extBut _ _ t2.symm (sd.extBut _ _ j3 e)
  ·exact se.extBut _ _ t4.symm (sd.extBut _ _ j6.symm e)
 have e2:st2 (k+1) he:=N2.keep _ _ _ sd2 λc o lQ e=>by
  rcases lQ with rfl|rfl
  ·exact se.extBut _ _ t3.symm e
  ·exact se.extBut _ _ t5.symm e
 show wpAny _ A.in1 (Builtin.SmallTypes.ownedTupleHandOut (.ref z) (.ref he.objs.size) >>= _) _ _ _;refine aB ?_;unfold Builtin.SmallTypes.ownedTupleHandOut;have zf:IsZip (he.push {cls:=.type "tuple",data:=.seq #[x,y]}) z TI TO .ellipsis:=cD _ ze;refine aB (Fx zf Zaa λhg zg sg=>Fx zg Zaa λhh zh sh=>aN ⟨_,rfl,aN ?_⟩)
 replace zh:IsZip hh z TI TO (rawInt he.objs.size):=zh
 have up:∀c o,c≠z->he.get? c=some o->hh.get? c=some o:=λc o c1 e=>sh.extBut _ _ c1 (sg.extBut _ _ c1 (cD _ e));have lz:z<he.objs.size:=bR ze;have tn:IsPair hh he.objs.size x y:=sh.extBut _ _ (qj lz) (sg.extBut _ _ (qj lz) (dX _ rfl));have sz:hh.objs.size=he.objs.size+1:=by rw[sh.1,sg.1,uf]
 rw[size] at zh tn sz;show Q (some (.ref he.objs.size)) _;rw[size];exact q hh zh (up _ _ z2.symm te) (N1.keep _ _ _ e1 λc o lQ e=>up c o (by rcases lQ with rfl|rfl;exact z3.symm;exact z5.symm) e) (N2.keep _ _ _ e2 λc o lQ e=>up c o (by rcases lQ with rfl|rfl;exact z4.symm;exact z6.symm) e) tn sz λc o c1 c2 c3 c4 e=>up c o c1 (kept c o c1 c2 c3 c4 e)
theorem zkH(hn:A.handled=none)(N1:mL prog w i1 l1 st1 xs)(N2:mL prog w i2 l2 st2 ys)(D:nj z TI TO i1 i2 l1 l2)(hz:IsZip s.heap z TI TO .none)(Tw:IsPair s.heap TI (.ref i1) (.ref i2))(Tz:IsPair s.heap TO a b)
  (h1:st1 k s.heap) (h2:st2 k s.heap) (hx:xs[k]?=none\/ys[k]?=none) (q:∀h',(∀c o,c≠z->c≠TO->c≠i1->c≠i2->s.heap.get? c=some o->h'.get? c=some o)->Q none {s with heap:=h'}):wpAny (model prog w) A (pyNext (.ref z)) Q E s:=by
 obtain⟨⟨z1,z2,z3,z4,z5,z6⟩,⟨t1,t2,t3,t4,t5⟩,⟨j1,j2,j3,j4,j5,j6,j7⟩⟩:=D;have hT:s.TypeIs (.ref z) "zip":=⟨_,hz,rfl⟩;have stop:∀(h':Heap) (e:Addr),(∀c o,c≠z->c≠TO->c≠i1->c≠i2->s.heap.get? c=some o->h'.get? c=some o)->(∃o,h'.get? e=some o/\o.cls=.type "StopIteration")->
   wpAny (model prog w) A (do if <-isInstance (.ref e) (.type "StopIteration") then pure none else throw (.ref e):Sem (Option Value)) Q E {s with heap:=h'}:=λh' e kp ⟨o,ho,hc⟩=>
  aB (Np (T:="StopIteration") (b:=true) ⟨o,ho,hc⟩ isSubtype_stop (aN (q h' kp)))
 unfold pyNext;refine aB (Ga (zm (name:=Str.ofString "__next__") hT Nq (wZ Nq hT F.entry_zip_next ?_ (F.args_zip_next_1 _))));show wpAny _ A.in1 (field (.ref z) 2 >>= _) _ _ s;refine aB (lD hz rfl (x:=.bool false) rfl ?_);show wpAny _ A.in1 (field (.ref z) 3 >>= _) _ _ s;refine aB (lD hz rfl (x:=.ref TI) rfl (aB (sS Tw rfl ?_)));show wpAny _ A.in1 (Builtin.SmallTypes.ownedTupleIsFree (.ref z) >>= _) _ _ s;refine aB ?_;unfold Builtin.SmallTypes.ownedTupleIsFree;refine aB (lD hz rfl (x:=.none) rfl (aN ?_));simp only[if_true];refine aB (zJ (aB (lD hz rfl (x:=.ref TO) rfl (aB (Fx hz Zaa λha za sa=>aB ?_)))))
 replace za:IsZip ha z TI TO .ellipsis:=za
 simp only[List.zipIdx_cons,List.zipIdx_nil,FZ,Nt];refine aB (aB (wpAny_onRaise ?_));show wpAny _ A.in1 (Builtin.SmallTypes.nextOf (.ref i1) >>= _) _ _ _;have ka:st1 k ha:=N1.keep _ _ _ h1 λc o hc e=>sa.extBut c o (by rcases hc with rfl|rfl;exact z3.symm;exact z5.symm) e;cases ex:xs[k]? with
 |none=>
  refine aB (N1.fin _ _ {s with heap:=ha} k _ hn ka ex λhb e sb se=>?_);obtain⟨oe,ho,hc⟩:=se;have zb:IsZip hb z TI TO .ellipsis:=sb _ _ z3 za;have ne:e≠z:=λy=>by subst y;rw[zb] at ho;cases ho;simp at hc
  exact Fx zb Zaa λhd _ sd=>stop hd e (λc o c1 _ c3 _ y=>sd.extBut _ _ c1 (sb _ _ c3 (sa.extBut _ _ c1 y))) ⟨oe,sd.extBut _ _ ne ho,hc⟩
 |some x=>
  have ey:ys[k]?=none:=by
   rcases hx with y|y
   ·rw[ex] at y;cases y
   ·exact y
  refine aB (N1.item _ _ {s with heap:=ha} k x _ ka ex λhb Z0 sb=>aN ?_);have tb:IsPair hb TO a b:=sb.extBut _ _ t2 (sa.extBut _ _ z2.symm Tz);refine aB (sS tb rfl (aB (Q8 tb λhc tc sc=>aB (zG (aN ?_)))));refine aB (aB (wpAny_onRaise ?_));show wpAny _ A.in1 (Builtin.SmallTypes.nextOf (.ref i2) >>= _) _ _ _;have k2:st2 k hc:=N2.keep _ _ _ h2 λc o lQ e=>by
   rcases lQ with rfl|rfl
   ·exact sc.extBut _ _ t3.symm (sb.extBut _ _ j3.symm (sa.extBut _ _ z4.symm e))
   ·exact sc.extBut _ _ t5.symm (sb.extBut _ _ j5.symm (sa.extBut _ _ z6.symm e))
  refine aB (N2.fin _ _ {s with heap:=hc} k _ hn k2 ey λhd e sd se=>?_);obtain⟨oe,ho,oZ⟩:=se;have zd:IsZip hd z TI TO .ellipsis:=sd _ _ z4 (sc.extBut _ _ z2 (sb.extBut _ _ z3 za));have ne:e≠z:=λy=>by subst y;rw[zd] at ho;cases ho;simp at oZ
  exact Fx zd Zaa λhf _ sf=>stop hf e (λc o c1 c2 c3 c4 y=>sf.extBut _ _ c1 (sd _ _ c4 (sc.extBut _ _ c2 (sb.extBut _ _ c3 (sa.extBut _ _ c1 y))))) ⟨oe,sf.extBut _ _ ne ho,oZ⟩
end
def Ck:Bool->Heap->Addr->Array Value->Prop
 |true,h,l,xs=>h.IsList l xs
 |false,h,l,xs=>h.IsTuple l xs
noncomputable def Rk:Bool->Addr->Addr->Nat->Heap->Prop
 |true,it,l,i,h=>h.IsListIter it l i
 |false,it,l,i,h=>h.IsTupleIter it l i
def Sk:Bool->W.Frag->Hp->Addr->List V->Prop
 |true,K,H,l,xs=>cY K H l xs
 |false,K,H,l,xs=>gw K H l xs
noncomputable def gO:Bool->Addr->Obj
 |true,l=>{cls:=.type "list_iterator",data:=.fields #[.ref l,.int 0 0]}
 |false,l=>{cls:=.type "tuple_iterator",data:=.fields #[.ref l,.int 0 0]}
def mL.of(kd:Bool)(qF:l≠it):mL prog w it l (λi h=>Rk kd it l i h/\Ck kd h l its) its:=by
 cases kd
 ·exact mL.tuple qF
 ·exact mL.list qF
def Ck.keep(x:Ck kd h l xs)(k:∀o,h.get? l=some o->h'.get? l=some o):Ck kd h' l xs:=by
 cases kd
 ·exact IsTuple.at' x k
 ·exact Heap.IsList.at x k
def Rk.keep(x:Rk kd it l i h)(k:∀o,h.get? it=some o->h'.get? it=some o):Rk kd it l i h':=by
 cases kd
 ·exact IsTupleIter.at' x k
 ·exact Heap.IsListIter.at x k
def Rk.obj(x:Rk kd it l i h):∃o,h.get? it=some o/\∀v,o.data≠.cell v:=by
 cases kd
 ·obtain⟨o,e,c,d⟩:=x;exact⟨o,e,λv z=>by rw[d] at z;cases z⟩
 ·obtain⟨o,e,c,d⟩:=x;exact⟨o,e,λv z=>by rw[d] at z;cases z⟩
def Ck.lt(x:Ck kd h l xs):l<h.objs.size:=by
 cases kd
 ·obtain⟨o,e,_⟩:=x;exact bR e
 ·obtain⟨o,e,_⟩:=x;exact bR e
section
variable {prog:Program}{w:World}{A:Around}{E:Value->Shared->Prop}{s:Shared}
def Ou(c:Ck kd s.heap l xs)(q:Q (.ref s.heap.objs.size) {s with heap:=s.heap.push (gO kd l)}):wpAny (model prog w) A (pyIter (.ref l)) Q E s:=by
 cases kd
 ·exact wpAny_pyIter_tuple c q
 ·exact HJ c q
end
def zH(h:Heap)(k1 k2:Bool)(l1 l2:Addr):Heap:=((((h.push (gO k1 l1)).push (gO k2 l2)).push {cls:=.type "tuple",data:=.seq #[.ref h.objs.size,.ref (h.push (gO k1 l1)).objs.size]}).push {cls:=.type "tuple",data:=.seq #[.none,.none]}).push
 {cls:=.type "zip",data:=.fields #[.none,.bool false,.bool false,.ref ((h.push (gO k1 l1)).push (gO k2 l2)).objs.size,.ref (((h.push (gO k1 l1)).push (gO k2 l2)).push {cls:=.type "tuple",data:=.seq #[.ref h.objs.size,.ref (h.push (gO k1 l1)).objs.size]}).objs.size]}
theorem zhp(k1 k2:Bool)(l1 l2:Addr)(xs ys:Array Value):Meets (Builtin.«zip.__new__» ⟨[.type "zip",.ref l1,.ref l2],[]⟩) (λ_ R s=>Ck k1 s.heap l1 xs/\Ck k2 s.heap l2 ys /\
   R (.ok (.ret (.ref ((((s.heap.push (gO k1 l1)).push (gO k2 l2)).push {cls:=.type "tuple",data:=.seq #[.ref s.heap.objs.size,.ref (s.heap.push (gO k1 l1)).objs.size]}).push {cls:=.type "tuple",data:=.seq #[.none,.none]}).objs.size))) {s with heap:=zH s.heap k1 k2 l1 l2}):=
 .of_wp λprog w A R s h=>by
  obtain⟨hp,g,d,tk,os⟩:=s;obtain⟨c1,c2,h⟩:=h;have hsub:=sub_zip;have C1:Ck k1 (Shared.heap ⟨hp,g,d,tk,os⟩) l1 xs:=c1;have C2:Ck k2 (Shared.heap ⟨hp.push (gO k1 l1),g,d,tk,os⟩) l2 ys:=c2.keep λo e=>cD _ e
  wp_walk using Ou C1,Ou C2
  exact⟨_,rfl,h⟩
section
variable {prog:Program}{w:World}{A:Around}{E:Value->Shared->Prop}{s:Shared}
theorem zjc(c1:Ck k1 s.heap l1 xs)(c2:Ck k2 s.heap l2 ys)
  (h:∀h',IsZip h' (s.heap.objs.size+4) (s.heap.objs.size+2) (s.heap.objs.size+3) .none->IsPair h' (s.heap.objs.size+2) (.ref s.heap.objs.size) (.ref (s.heap.objs.size+1))->IsPair h' (s.heap.objs.size+3) .none .none->
   Rk k1 s.heap.objs.size l1 0 h'->Rk k2 (s.heap.objs.size+1) l2 0 h'->(∀c o,s.heap.get? c=some o->h'.get? c=some o)->Q (.ref (s.heap.objs.size+4)) {s with heap:=h'}) :
  wpAny (model prog w) A (call (.type "zip") [.ref l1,.ref l2]) Q E s:=by
 refine callType_new F.called_zip Tv (F.typeCall_zip_2 _ _) (F.newCall_zip_2 _ _) (λobj=>F.args_object_init_3 obj _ _) F.entry_zip_new (zhp k1 k2 l1 l2 xs ys) ⟨c1,c2,?_⟩;have n1:(s.heap.push (gO k1 l1)).objs.size=s.heap.objs.size+1:=uf ..;have n2:((s.heap.push (gO k1 l1)).push (gO k2 l2)).objs.size=s.heap.objs.size+2:=by rw[uf,n1]
 have fr:∀kd l,(gO kd l).isFreed=false:=λkd l=>by cases kd<;>rfl
 have rk:∀{h:Heap} {a:Addr} {kd:Bool} {l:Addr},h.get? a=some (gO kd l)->Rk kd a l 0 h:=λ{h a kd l} e=>by
  cases kd
  ·exact⟨_,e,rfl,rfl⟩
  ·exact⟨_,e,rfl,rfl⟩
 have o1:(s.heap.push (gO k1 l1)).get? s.heap.objs.size=some (gO k1 l1):=dX _ (fr _ _);have o2:((s.heap.push (gO k1 l1)).push (gO k2 l2)).get? (s.heap.objs.size+1)=some (gO k2 l2):=by
  have:=dX (s.heap.push (gO k1 l1)) (o:=gO k2 l2) (fr _ _);rw[n1] at this;exact this
 generalize hA:(s.heap.push (gO k1 l1)).push (gO k2 l2)=Ov at *;have eH:zH s.heap k1 k2 l1 l2=((Ov.push {cls:=.type "tuple",data:=.seq #[.ref s.heap.objs.size,.ref (s.heap.objs.size+1)]}).push {cls:=.type "tuple",data:=.seq #[.none,.none]}).push {cls:=.type "zip",data:=.fields #[.none,.bool false,.bool false,.ref (s.heap.objs.size+2),.ref (s.heap.objs.size+3)]}:=by
  unfold zH;rw[hA,n1,n2,uf,n2]
 have n3:(Ov.push {cls:=.type "tuple",data:=.seq #[.ref s.heap.objs.size,.ref (s.heap.objs.size+1)]}).objs.size=s.heap.objs.size+3:=by rw[uf,n2]
 have n4:((Ov.push {cls:=.type "tuple",data:=.seq #[.ref s.heap.objs.size,.ref (s.heap.objs.size+1)]}).push {cls:=.type "tuple",data:=.seq #[.none,.none]}).objs.size=s.heap.objs.size+4:=by rw[uf,n3]
 rw[n1,n4];have g5:(zH s.heap k1 k2 l1 l2).get? (s.heap.objs.size+4)=some {cls:=.type "zip",data:=.fields #[.none,.bool false,.bool false,.ref (s.heap.objs.size+2),.ref (s.heap.objs.size+3)]}:=by
  rw[eH,<-n4];exact dX _ rfl
 have g4:(zH s.heap k1 k2 l1 l2).get? (s.heap.objs.size+3)=some {cls:=.type "tuple",data:=.seq #[.none,.none]}:=by
  rw[eH,<-n3];exact cD _ (dX _ rfl)
 have g3:(zH s.heap k1 k2 l1 l2).get? (s.heap.objs.size+2)=some {cls:=.type "tuple",data:=.seq #[.ref s.heap.objs.size,.ref (s.heap.objs.size+1)]}:=by
  rw[eH,<-n2];exact cD _ (cD _ (dX _ rfl))
 have up:∀c o,Ov.get? c=some o->(zH s.heap k1 k2 l1 l2).get? c=some o:=λc o e=>by rw[eH];exact cD _ (cD _ (cD _ e))
 refine⟨⟨_,g5,rfl⟩,h _ g5 g3 g4 (rk (up _ _ ?_)) (rk (up _ _ o2)) λc o e=>up _ _ ?_⟩
 ·rw[<-hA];exact cD _ o1
 ·rw[<-hA];exact cD _ (cD _ e)
end
def TF(K:W.Frag)(k1 k2:Bool)(l1 l2:Addr):It:=
 ⟨λi H=>∃xs ys x y,Sk k1 K H l1 xs/\Sk k2 K H l2 ys/\xs[i]?=some x/\ys[i]?=some y,
  λi H v H'=>∃a x y,H a=none/\v=.ref a/\H'=upd H a (.tup [x,y])/\(∀xs,Sk k1 K H l1 xs->xs[i]?=some x)/\∀ys,Sk k2 K H l2 ys->ys[i]?=some y,
  λi H=>∃xs ys,Sk k1 K H l1 xs/\Sk k2 K H l2 ys/\(xs.length<=i\/ys.length<=i)⟩
section
variable {X:Cx}{ao:List (Addr×Obj)}{Z:St}{H:Hp}{s:Shared}{kd:Bool}{l:Addr}{xs ys:List V}
def Inv.row(I:Inv X ao Z H s)(h:Sk kd X.K H l xs):∃its:List Value,Vals xs its/\Ck kd s.heap l its.toArray:=by
 cases kd
 ·obtain⟨its,rv,p,hz⟩:=I.tuple h;exact⟨its,rv,p⟩
 ·obtain⟨its,rv,p,hz⟩:=I.list h;exact⟨its,rv,p.isList⟩
def Inv.nq(I:Inv X ao Z H s)(h:Sk kd X.K H l xs)(h':Sk kd X.K H l ys):xs=ys:=by
 cases kd
 ·exact I.mH h h'
 ·exact I.oN h h'
end
theorem zhA{P:Program}{w:World}{K:W.Frag}{elts:List Expr}{kk:Nat}{pos:Pos}{k1 k2:Bool}{l1 l2 z TI TO i1 i2:Addr}(D:nj z TI TO i1 i2 l1 l2) :
  Turn P w K (.Tuple elts kk pos) (TF K k1 k2 l1 l2) [z,TI,TO,i1,i2] z (λi h=>IsZip h z TI TO .none/\IsPair h TI (.ref i1) (.ref i2)/\(∃a b,IsPair h TO a b)/\Rk k1 i1 l1 i h/\Rk k2 i2 l2 i h) where
 mem:=by simp
 obj:=λi h ⟨a1,a2,⟨p,q,a3⟩,a4,a5⟩ b hb=>by
  have:b=z\/b=TI\/b=TO\/b=i1\/b=i2:=by simpa using hb
  rcases this with rfl|rfl|rfl|rfl|rfl
  ·exact⟨_,a1,λv y=>by cases y⟩
  ·exact⟨_,a2,λv y=>by cases y⟩
  ·exact⟨_,a3,λv y=>by cases y⟩
  ·exact a4.obj
  ·exact a5.obj
 keep:=λi h h' ⟨a1,a2,⟨p,q,a3⟩,a4,a5⟩ k=>⟨k z Zaa _ a1,k TI Zaa _ a2,⟨p,q,k TO Zaa _ a3⟩,a4.keep λo e=>k i1 Zaa o e,a5.keep λo e=>k i2 Zaa o e⟩
 item:=by
  intro X hP hw hK hc i ao s Z H E I hf ⟨a1,a2,⟨p,q,a3⟩,a4,a5⟩ hg;subst hP hw hK;obtain⟨xs,ys,x,y,yr,hq2,hx,hy⟩:=hg;obtain⟨Z9,Ox,c1⟩:=I.row yr;obtain⟨J3,Oz,c2⟩:=I.row hq2;obtain⟨u,hu,ru⟩:=Ox.get hx;obtain⟨v,hv,rv⟩:=Oz.get hy;have D':=D;obtain⟨⟨z1,z2,z3,z4,z5,z6⟩,⟨t1,t2,t3,t4,t5⟩,⟨j1,j2,j3,j4,j5,j6,j7⟩⟩:=D';refine zij (mL.of k1 j4.symm) (mL.of k2 j7.symm) D a1 a2 a3 ⟨a4,c1⟩ ⟨a5,c2⟩ (x:=u) (y:=v) (by simpa using hu) (by simpa using hv) λh1 b1 b2 b3 b4 b5 b6 kp=>?_;refine⟨_,rfl,wpAny_letOwnedTupleGo_zip (s:={s with heap:=h1}) b1 λh2 e2 sb=>?_⟩;have TJ:IsPair h2 s.heap.objs.size u v:=(sb.2 _ (qj (bR a1))).trans b5;have kk:∀b o,b∉[z,TI,TO,i1,i2]->s.heap.get? b=some o->h2.get? b=some o:=λb o hb e=>(sb.2 b λy=>hb (by simp[y])).trans (kp b o (λy=>hb (by simp[y])) (λy=>hb (by simp[y])) (λy=>hb (by simp[y])) (λy=>hb (by simp[y])) e);have I2:=I.mK (t':=s.toks) (a:=s.heap.objs.size) (o:=.tup [x,y]) kk (λb hb=>hf b hb) (cj _) (show bL X.prog X.w _ h2 _ (.tup [x,y]) from ⟨by show 2<=sizeLine;decide,[u,v],.cons ru (.cons rv .nil),⟨_,TJ,rfl,_,rfl⟩⟩);have hn:H s.heap.objs.size=none:=I.hok.fresh (cj _);refine⟨.ref s.heap.objs.size,_,I2,rfl,⟨_,x,y,hn,rfl,rfl,λzs hz=>by rw[I.nq hz yr];exact hx,λzs hz=>by rw[I.nq hz hq2];exact hy⟩,⟨e2,(sb.2 _ z1.symm).trans (kp _ _ z1.symm t1.symm j1 j2 a2),⟨_,_,(sb.2 _ z2.symm).trans b2⟩,b3.1.keep λo e=>(sb.2 _ z3.symm).trans e,b4.1.keep λo e=>(sb.2 _ z4.symm).trans e⟩,λb hb=>?_⟩;have nb:b≠s.heap.objs.size:=by
   have:b=z\/b=TI\/b=TO\/b=i1\/b=i2:=by simpa using hb
   rcases this with rfl|rfl|rfl|rfl|rfl
   ·exact cV (bR a1)
   ·exact cV (bR a2)
   ·exact cV (bR a3)
   ·obtain⟨o,e,_⟩:=a4.obj;exact cV (bR e)
   ·obtain⟨o,e,_⟩:=a5.obj;exact cV (bR e)
  rw[bW nb];exact(hf b hb).1
 done:=by
  intro X hP hw hK hc i ao s Z H E I hf ⟨a1,a2,⟨p,q,a3⟩,a4,a5⟩ hg;subst hP hw hK;obtain⟨xs,ys,yr,hq2,hx⟩:=hg;obtain⟨Z9,Ox,c1⟩:=I.row yr;obtain⟨J3,Oz,c2⟩:=I.row hq2;have n1:=Ox.length;have n2:=Oz.length;refine zkH (I.ok.hd hc) (mL.of k1 D.is.2.2.2.1.symm) (mL.of k2 D.is.2.2.2.2.2.2.symm) D a1 a2 a3 ⟨a4,c1⟩ ⟨a5,c2⟩ ?_ λh' kp=>⟨rfl,I.rJ (t':=s.toks) (ch:=[z,TI,TO,i1,i2]) (λb o hb e=>kp b o (λy=>hb (by simp[y])) (λy=>hb (by simp[y])) (λy=>hb (by simp[y])) (λy=>hb (by simp[y])) e) λb hb=>hf b hb⟩;rcases hx with y|y
  ·exact .inl (by simp;lia)
  ·exact .inr (by simp;lia)
 self:=λ_ _ _ _ _ ⟨a1,_⟩ h=>wpAny_pyIter_zip a1 h
section
variable {X:Cx}
def TQ(K:W.Frag)(ta:TA):TI:=λZ H R=>ta Z H λvs H1=>∃k1 k2 l1 l2 xs ys,vs=[.ref l1,.ref l2]/\Sk k1 K H1 l1 xs/\Sk k2 K H1 l2 ys/\R (TF K k1 k2 l1 l2) H1
def zhv:bootBuiltins "zip"=some (.type "zip"):=by decide +kernel
theorem zmz{a b:Expr}{ta:TA}{p pos tpos:Pos}{elts:List Expr}{kk:Nat}(hg:Gl X "zip")(hm:X.mg "zip"=none)(ha:PA X [a,b] ta)(hs:starEach [a,b] X.env=[(false,eval a X.env),(false,eval b X.env)]:=by rfl)(zP:starEach [b] X.env=[(false,eval b X.env)]:=by rfl) :
  PI X (.Tuple elts kk tpos) (.Call (.Name "zip" p) [a,b] [] pos) (TQ X.K ta):=by
 intro ao s Z H R I h;refine Call_ (wB I hg hm zhv (Bb (aX (ha pos ao s Z H _ I h) λus s1 ⟨vs,H1,I1,r1,q1⟩=>?_) (by rw[hs,zP]) (by rw[zP];rfl)));obtain⟨k1,k2,l1,l2,xs,ys,e,yr,hq2,q⟩:=q1;subst e;cases r1 with
 |cons r rr=>
  cases rr with
  |cons r' rr=>
   cases rr;cases r;cases r';obtain⟨Z9,Ox,c1⟩:=I1.row yr;obtain⟨J3,Oz,c2⟩:=I1.row hq2;have m1:=c1.lt;have m2:=c2.lt;refine zjc c1 c2 λh' b1 b2 b3 b4 b5 kp=>?_;refine wpAny_pyIter_zip b1 ?_;have ne:∀{u v:Nat},u<v->u≠v:=λh=>cV h;have D:nj (s1.heap.objs.size+4) (s1.heap.objs.size+2) (s1.heap.objs.size+3) s1.heap.objs.size (s1.heap.objs.size+1) l1 l2:=
    ⟨⟨(ne gV).symm,(ne gV).symm,(ne gV).symm,(ne gV).symm,(ne (f9 m1 gV)).symm,(ne (f9 m2 gV)).symm⟩,
     ⟨(ne gV).symm,(ne gV).symm,(ne gV).symm,(ne (f9 m1 gV)).symm,(ne (f9 m2 gV)).symm⟩,
     ⟨(ne gV).symm,(ne gV).symm,ne gV,(ne m1).symm,(ne m2).symm,(ne (f9 m1 gV)).symm,(ne (f9 m2 gV)).symm⟩⟩
   refine⟨s1.heap.objs.size+4,[s1.heap.objs.size+4,s1.heap.objs.size+2,s1.heap.objs.size+3,s1.heap.objs.size,s1.heap.objs.size+1],_,_,H1,rfl,I1.kept (t':=s1.toks) kp,zhA D,⟨b1,b2,⟨_,_,b3⟩,b4,b5⟩,λb hb=>?_,q⟩;have:s1.heap.objs.size<=b:=by
    have:b=s1.heap.objs.size+4\/b=s1.heap.objs.size+2\/b=s1.heap.objs.size+3\/b=s1.heap.objs.size\/b=s1.heap.objs.size+1:=by simpa using hb
    rcases this with rfl|rfl|rfl|rfl|rfl<;>lia
   exact I1.uP this (I1.hok.fresh this)
end
def Ite(K:W.Frag)(kd:Bool)(l:Addr):It:=
 ⟨λi H=>∃xs x,Sk kd K H l xs/\xs[i]?=some x,λi H v H'=>∃a x,H a=none/\v=.ref a/\H'=upd H a (.tup [.int i,x])/\∀xs,Sk kd K H l xs->xs[i]?=some x,λi H=>∃xs,Sk kd K H l xs/\xs.length<=i⟩
theorem CT{prog:Program}{w:World}{A:Around}(hh:A.handled=none)(kd:Bool){it l:Addr}(qF:l≠it)(its:Array Value):Draws prog w A it [it,l] its.size (λi v=>its[i]?=some v) (λi h=>Rk kd it l i h/\Ck kd h l its) where
 live:=λ_ _ st=>let ⟨o,e,_⟩:=st.1.obj;⟨o,e⟩
 frame:=λ_ _ _ st k=>⟨st.1.keep λo e=>k it Zaa o e,st.2.keep λo e=>k l Zaa o e⟩
 item:=λi s Q E hi st q=>(mL.of kd qF).item A E s i its[i] Q st (by simp[hi]) λh' a b=>q _ h' s.toks (by simp[hi]) a b
 done:=λs Q E st q=>(mL.of kd qF).fin A E s its.size Q hh st Zaa q
theorem zhw(kd:Bool)(l:Addr)(xs:Array Value):Meets (Builtin.«enumerate.__new__» ⟨[.type "enumerate",.ref l],[]⟩) (λ_ R s=>Ck kd s.heap l xs /\
   R (.ok (.ret (.ref (s.heap.push (gO kd l)).objs.size))) {s with heap:=(s.heap.push (gO kd l)).push {cls:=.type "enumerate",data:=.fields #[.none,.bool false,.ref s.heap.objs.size,rawInt 0,.none,.none]}}):=
 .of_wp λprog w A R s h=>by
  obtain⟨hp,g,d,tk,os⟩:=s;obtain⟨c1,h⟩:=h;have hsub:=sub_enumerate;have C1:Ck kd (Shared.heap ⟨hp,g,d,tk,os⟩) l xs:=c1;obtain⟨ol,el⟩ : ∃o,hp.get? l=some o:=by
   cases kd
   ·obtain⟨o,e,_⟩:=c1;exact⟨o,e⟩
   ·obtain⟨o,e,_⟩:=c1;exact⟨o,e⟩
  wp_walk using M7 el
  refine wpAny_stack_any λst=>aN ?_
  split
  ·rename_i c _ _ _ _ _;cases (c==Value.type "enumerate")<;>(wp_walk using M7 el,Ou C1;exact⟨_,rfl,h⟩)
  ·wp_walk using M7 el,Ou C1
   exact⟨_,rfl,h⟩
theorem ziq{prog:Program}{w:World}{A:Around}{E:Value->Shared->Prop}{s:Shared}{e it l:Addr}{its:Array Value}{st:Nat->Heap->Prop}{i:Nat}{old:Value}{Q:Option Value->Shared->Prop}(hh:A.handled=none)(N:mL prog w it l st its)(he:IsEnum s.heap e it i old)(Cd:st i s.heap)(hx:its[i]?=none)
  (q:∀h',Heap.ExtBut it s.heap h'->Q none {s with heap:=h'}):wpAny (model prog w) A (pyNext (.ref e)) Q E s:=by
 have ty:s.TypeIs (.ref e) "enumerate":=⟨_,he,rfl⟩;have body:∀{E':Value->Shared->Prop},(∀h' x,Heap.ExtBut it s.heap h'->(∃o,h'.get? x=some o/\o.cls=.type "StopIteration")->E' (.ref x) {s with heap:=h'})->wpAny (model prog w) A.in1 (Builtin.«enumerate.__next__» ⟨[.ref e],[]⟩) (λ_ _=>False) E' s:=λk=>by
  show wpAny _ A.in1 (field (.ref e) 2 >>= _) _ _ _;exact aB (lD he rfl (x:=.ref it) rfl (aB (N.fin A.in1 _ s i _ hh Cd hx k)))
 unfold pyNext;refine aB (Ga (zm (name:=Str.ofString "__next__") ty F.slot_enumerate_next (wZ F.slot_enumerate_next ty F.entry_enumerate_next (gj (body λh' x a b=>?_) (λ_ _ z=>z.elim) λ_ _ z=>z) (F.args_enumerate_next_1 _))));obtain⟨o,a1,a2⟩:=b;exact aB (Np (T:="StopIteration") (b:=true) ⟨o,a1,a2⟩ isSubtype_stop (aN (q h' a)))
theorem zga{P:Program}{w:World}{K:W.Frag}{elts:List Expr}{kk:Nat}{pos:Pos}{kd:Bool}{l e it:Addr}(TV:e≠it)(Z_:l≠it)(hle:l≠e) :
  Turn P w K (.Tuple elts kk pos) (Ite K kd l) [e,it] e (λi h=>(∃old,IsEnum h e it i old)/\Rk kd it l i h) where
 mem:=by simp
 obj:=λi h ⟨⟨old,he⟩,st⟩ b hb=>by
  have:b=e\/b=it:=by simpa using hb
  rcases this with rfl|rfl
  ·exact⟨_,he,λv z=>by cases z⟩
  ·exact st.obj
 keep:=λi h h' ⟨⟨old,he⟩,st⟩ k=>⟨⟨old,k e Zaa _ he⟩,st.keep λo e=>k it Zaa o e⟩
 item:=by
  intro X hP hw hK hc i ao s Z H E I hf ⟨⟨old,he⟩,st⟩ hg;subst hP hw hK;obtain⟨xs,x,hq,hx⟩:=hg;obtain⟨its,rv,p⟩:=I.row hq;obtain⟨u,hu,ru⟩:=rv.get hx;have cg:i<its.toArray.size:=by simpa using (eG.mp hu).1
  refine wpAny_pyNext_enum_itemD (CT (A:=X.A.in1) (I.ok.hd hc) kd Z_ its.toArray) he ⟨st,p⟩ cg TV (by simp[TV,hle.symm]) λu' h1 tk hP ho TX hT hsz hk=>?_;have eu:u'=u:=by
   have:its[i]?=some u':=by simpa using hP
   rw[hu] at this;cases this;rfl
  subst eu;refine⟨_,rfl,wpAny_letOwnedTupleGo_enum (s:={s with heap:=h1,toks:=tk+1}) ho λh2 he2 sb=>?_⟩;have TJ:h2.get? s.heap.objs.size=some {cls:=.type "tuple",data:=.seq #[.int i tk,u']}:=(sb.2 _ (qj (bR he))).trans hT;have kk:∀b o,b∉[e,it]->s.heap.get? b=some o->h2.get? b=some o:=λb o hb q=>(sb.2 b λz=>hb (by simp[z])).trans (hk b o (λz=>hb (by simp[z])) (λz=>hb (by simp[z])) q);have I2:=I.mK (t':=tk+1) (a:=s.heap.objs.size) (o:=.tup [.int i,x]) kk (λb hb=>hf b hb) (cj _) (show bL X.prog X.w _ h2 _ (.tup [.int i,x]) from ⟨by show 2<=sizeLine;decide,[.int i tk,u'],.cons ⟨_,rfl⟩ (.cons ru .nil),⟨_,TJ,rfl,_,rfl⟩⟩);have hn:H s.heap.objs.size=none:=I.hok.fresh (cj _);refine⟨.ref s.heap.objs.size,_,I2,rfl,⟨_,x,hn,rfl,rfl,λys hy=>by rw[I.nq hy hq];exact hx⟩,⟨⟨_,by simpa using he2⟩,TX.1.keep λo q=>(sb.2 it TV.symm).trans q⟩,λb hb=>?_⟩;have nb:b≠s.heap.objs.size:=by
   have:b=e\/b=it:=by simpa using hb
   rcases this with rfl|rfl
   ·exact cV (bR he)
   ·obtain⟨o,q,_⟩:=st.obj;exact cV (bR q)
  rw[bW nb];exact(hf b hb).1
 done:=by
  intro X hP hw hK hc i ao s Z H E I hf ⟨⟨old,he⟩,st⟩ hg;subst hP hw hK;obtain⟨xs,hq,hx⟩:=hg;obtain⟨its,rv,p⟩:=I.row hq;have hl:=rv.length;exact ziq (I.ok.hd hc) (mL.of kd Z_) he ⟨st,p⟩ (by simp;lia) λh' eb=>⟨rfl,I.rJ (t':=s.toks) (ch:=[e,it]) (λb o hb q=>eb b o (λz=>hb (by simp[z])) q) λb hb=>hf b hb⟩
 self:=λ_ _ _ _ _ ⟨⟨old,he⟩,_⟩ h=>wpAny_pyIter_enum he h
section
variable {X:Cx}
def J5(K:W.Frag)(ta:TA):TI:=λZ H R=>ta Z H λvs H1=>∃kd l xs,vs=[.ref l]/\Sk kd K H1 l xs/\R (Ite K kd l) H1
def zgD:bootBuiltins "enumerate"=some (.type "enumerate"):=by decide +kernel
theorem zjv{a:Expr}{ta:TA}{p pos tpos:Pos}{elts:List Expr}{kk:Nat}(hg:Gl X "enumerate")(hm:X.mg "enumerate"=none)(ha:PA X [a] ta)(hs:starEach [a] X.env=[(false,eval a X.env)]:=by rfl):PI X (.Tuple elts kk tpos) (.Call (.Name "enumerate" p) [a] [] pos) (J5 X.K ta):=by
 intro ao s Z H R I h;refine Call_ (wB I hg hm zgD (Bb (aX (ha pos ao s Z H _ I h) λus s1 ⟨vs,H1,I1,r1,q1⟩=>?_) hs rfl));obtain⟨kd,l,xs,e,hq,q⟩:=q1;subst e;cases r1 with
 |cons r rr=>
  cases rr;cases r;obtain⟨its,rv,p⟩:=I1.row hq;have hl:l<s1.heap.objs.size:=p.lt;refine callType_new F.called_enumerate Tv (F.typeCall_enumerate_1 _) (F.newCall_enumerate_1 _) (λobj=>F.args_object_init_2 obj _) F.entry_enumerate_new (zhw kd l its.toArray) ⟨p,?_⟩;have n1:(s1.heap.push (gO kd l)).objs.size=s1.heap.objs.size+1:=uf ..;have he:IsEnum ((s1.heap.push (gO kd l)).push {cls:=.type "enumerate",data:=.fields #[.none,.bool false,.ref s1.heap.objs.size,rawInt 0,.none,.none]}) (s1.heap.objs.size+1) s1.heap.objs.size 0 .none:=by
   have:=dX (s1.heap.push (gO kd l)) (o:={cls:=.type "enumerate",data:=.fields #[.none,.bool false,.ref s1.heap.objs.size,rawInt 0,.none,.none]}) rfl;rw[n1] at this;exact this
  show _/\_;rw[n1];refine⟨⟨_,he,rfl⟩,wpAny_pyIter_enum (s:={s1 with heap:=(s1.heap.push (gO kd l)).push {cls:=.type "enumerate",data:=.fields #[.none,.bool false,.ref s1.heap.objs.size,rawInt 0,.none,.none]}}) he ?_⟩;have rk:Rk kd s1.heap.objs.size l 0 ((s1.heap.push (gO kd l)).push {cls:=.type "enumerate",data:=.fields #[.none,.bool false,.ref s1.heap.objs.size,rawInt 0,.none,.none]}):=by
   cases kd
   ·exact⟨_,cD _ (dX _ rfl),rfl,rfl⟩
   ·exact⟨_,cD _ (dX _ rfl),rfl,rfl⟩
  refine⟨s1.heap.objs.size+1,[s1.heap.objs.size+1,s1.heap.objs.size],_,_,H1,rfl,I1.kept (t':=s1.toks) λb o x=>cD _ (cD _ x),zga (kd:=kd) (l:=l) (Nat.succ_ne_self _) (cV hl) (cV (q_ hl)),⟨⟨_,he⟩,rk⟩,λb hb=>?_,q⟩;have:s1.heap.objs.size<=b:=by
   have:b=s1.heap.objs.size+1\/b=s1.heap.objs.size:=by simpa using hb
   rcases this with rfl|rfl
   ·exact xq _
   ·exact cj _
  exact I1.uP this (I1.hok.fresh this)
end
end L2
set_option genSizeOf false
set_option genInjectivity false
namespace Mi
open PySem
inductive D where
 |non|bl (b:Bool)|int (i:Int)|str (s:Str)|tup (xs:List D)|fl (xs:List D)|fd (ks vs:List D)|exc (c:Nat) (fs:List D)|ob (c:Nat) (fs:List D)|any
inductive Xv where
 |d (x:D)|l (n:Nat)
inductive Kx where
 |non|int (i:Int)|row (is:List Int)
deriving DecidableEq
inductive SO where
 |lst (xs:List D)
 |dct (kvs:List (List Kx×D))
noncomputable abbrev S:=List SO
inductive Rs (α:Type) where
 |ok (a:α)|er (c:Nat) (fs:List D)
abbrev M(α:Type):=S->Option (Rs α×S)
noncomputable def M.ret{α:Type}(a:α):M α:=λs=>some (.ok a,s)
noncomputable def M.bd{α β:Type}(m:M α)(k:α->M β):M β:=λs=>match m s with
 |some (.ok a,s')=>k a s'
 |some (.er c f,s')=>some (.er c f,s')
 |none=>none
noncomputable def M.qt{α:Type}(m:M α):M α:=λs=>match m s with
 |some (.ok a,s')=>some (.ok a,s')
 |_=>none
noncomputable def M.no{α:Type}:M α:=λ_=>none
def M.opt{α:Type}:Option α->M α
 |some a=>M.ret a
 |none=>M.no
inductive Rz where
 |dat (d:D)|nw (xs:List D)
inductive Pr where
 |add|aq|mul|fdiv|mod|pow|neg
 |eq|ne|lt|le|gt|ge|inn|nin
 |rK|pU
 |len|abs|max2|min2|u_|J6|tL|yt|yu|divmod|all|sum|list|tuple|sorted|rM|CV|str1
 |ix|rev|rgl|J7|mult|zU
 |count|index|repr
inductive Kd where
 |int|bool|str|tuple|list|dict|cls (c:Nat)|tM
mutual
inductive E where
 |c (d:D)
 |v (i:Nat)
 |pr (fz:Bool) (p:Pr) (xs:Es)
 |zV (p q:Pr) (a b c:E)
 |ch3 (p q r:Pr) (a b c d:E)
 |and (a b:E)
 |or (a b:E)
 |not (a:E)
 |ite (c a b:E)
 |tup (xs:Es)
 |lst (fz:Bool) (xs:Es)
 |J8 (k:Str) (i:Int)
 |call (f:Nat) (xs:Es)
 |rN (a:E) (k:Kd)
 |sl (fz:Bool) (a:E) (lo hi:Eo)
 |meth (fz:Bool) (p:Pr) (k:Kd) (o:E) (xs:Es)
 |push (o a:E)
 |pop (o:E)
 |comp (fz:Bool) (elt:E) (tg:List Nat) (it:Wk) (fr:List Nat) (many:Nat) (cond:Eo)
 |jz (fz:Bool) (elt:E) (tg:List Nat) (it:Wk) (tg2:List Nat) (J3:Wk) (fr:List Nat) (many:Nat) (cond:Eo)
 |fld (o:E) (cs:List Nat) (i:Nat)
 |of (o:E) (c i:Nat)
 |mk (c f:Nat) (xs:Es)
 |cm (c f:Nat) (o:E) (xs:Es)
 |tO
 |CW (b:Bool) (k d:E)
 |qG (d k:E)
 |Gz (a:E)
 |rO (fz:Bool) (a:E) (b:E)
 |orv (a b:E)
 |ins (o i a:E)
 |no
inductive Wk where
 |seq (e:E)
 |rg (a b:E)
 |zip (a b:E)
 |enum (a:E)
 |rrg (a:E)
inductive Es where
 |nil
 |cons (a:E) (r:Es)
inductive Eo where
 |no
 |yes (a:E)
end
noncomputable abbrev Ea(a:E):Es:=.cons a .nil
noncomputable abbrev Eb(a b:E):Es:=.cons a (.cons b .nil)
noncomputable abbrev Ec(a b c:E):Es:=.cons a (.cons b (.cons c .nil))
noncomputable abbrev Ei(a b:E):E:=.pr true .ix (.cons a (.cons b .nil))
noncomputable abbrev Ci(i:Int):E:=.c (.int i)
noncomputable def Es.len:Es->Nat
 |.nil=>0
 |.cons _ r=>r.len+1
inductive Tg where
 |nm (i:Nat)
 |tp (is:List Nat)
 |aq (o i:E)
mutual
inductive St where
 |pass
 |ex (e:E)
 |asg (t:Tg) (e:E)
 |par (i j:Nat) (a b:E)
 |aug (i:Nat) (e:E)
 |ret (e:E)
 |rise (c:Nat) (kp:Bool) (xs:Es)
 |iff (c:E) (t e:bT)
 |wh (c:E) (b:bT)
 |fr (t:Tg) (w:Wk) (b:bT)
 |TY (b:bT) (d:Nat) (i:Nat) (h:bT)
 |dput (d k v:E)
 |no
inductive bT where
 |nil
 |cons (a:St) (r:bT)
end
def dj(eq:D->D->Option Bool):List D->List D->Option Bool
 |[],[]=>some true
 |[],_::_=>some false
 |_::_,[]=>some false
 |x::xs,y::ys=>match eq x y,dj eq xs ys with
  |some a,some b=>some (a&&b)
  |_,_=>none
noncomputable def kq:D->Option Nat
 |.non=>some 0
 |.bl _=>some 1
 |.int _=>some 1
 |.str _=>some 2
 |.tup _=>some 3
 |.fl _=>some 4
 |_=>none
def c7:Nat->D->D->Option Bool
 |n+1,.tup xs,.tup ys=>dj (c7 n) xs ys
 |n+1,.fl xs,.fl ys=>dj (c7 n) xs ys
 |_,.non,.non=>some true
 |_,.bl a,.bl b=>some (a==b)
 |_,.int a,.int b=>some (a==b)
 |_,.str a,.str b=>some (a==b)
 |_,.bl a,.int b=>some ((if a then 1 else 0)==b)
 |_,.int a,.bl b=>some (a==(if b then 1 else 0))
 |_,a,b=>match kq a,kq b with
  |some i,some j=>if i=j then none else some false
  |_,_=>none
noncomputable def cI:List D->Option (List Int)
 |[]=>some []
 |.int i::r=>(cI r).map (i::·)
 |_=>none
def ltI:List Int->List Int->Bool
 |_,[]=>false
 |[],_::_=>true
 |x::xs,y::ys=>if x=y then ltI xs ys else decide (x<y)
noncomputable def dZ:List D->Option (List Bool)
 |[]=>some []
 |.bl b::r=>(dZ r).map (b::·)
 |_=>none
noncomputable def cut{α:Type}(xs:List α)(lo hi:Option Int):List α:=(xs.drop (HT.b_ xs.length 0 lo)).take (HT.b_ xs.length xs.length hi-HT.b_ xs.length 0 lo)
def lV:D->Option (List D)
 |.tup xs=>some xs
 |.fl xs=>some xs
 |_=>none
def cutD(x:D)(lo hi:Option Int):Option Rz:=match x with
 |.tup xs=>some (.dat (.tup (cut xs lo hi)))
 |.fl xs=>some (.nw (cut xs lo hi))
 |_=>none
def memD(d:D):List D->Option Bool
 |[]=>some false
 |x::r=>match c7 50 x d,memD d r with
  |some a,some b=>some (a||b)
  |_,_=>none
noncomputable def CZ:Kd->D->Bool
 |.list,.fl _=>true
 |.str,.str _=>true
 |.dict,.fd _ _=>true
 |_,_=>false
noncomputable def dw(f:Int->Int->Option D):List D->Option Rz
 |[.int i,.int j]=>(f i j).map .dat
 |_=>none
noncomputable def rP(f:Int->D):List D->Option Rz
 |[.int i]=>some (.dat (f i))
 |_=>none
def tQ(f:List D->Option Rz):List D->Option Rz
 |[a]=>(lV a).bind f
 |_=>none
def C_:List D->Option Rz
 |[.int i,.int j]=>some (.dat (.int (i+j)))
 |[.tup xs,.tup ys]=>if xs.length+ys.length<=sizeLine then some (.dat (.tup (xs++ys))) else none
 |[.fl xs,.fl ys]=>if xs.length+ys.length<=sizeLine then some (.nw (xs++ys)) else none
 |[.str x,.str y]=>if x.length+y.length<=sizeLine then some (.dat (.str (x++y))) else none
 |_=>none
def J9:List D->Option Rz
 |[.int i,.int j]=>some (.dat (.bl (decide (i<j))))
 |[.tup xs,.tup ys]=>match cI xs,cI ys with
  |some a,some b=>some (.dat (.bl (ltI a b)))
  |_,_=>none
 |_=>none
def Dg(f:Bool->Bool):List D->Option Rz
 |[a,b]=>(c7 50 a b).map λk=>.dat (.bl (f k))
 |_=>none
def zW(f:Bool->Bool):List D->Option Rz
 |[a,b]=>((lV b).bind (memD a)).map λk=>.dat (.bl (f k))
 |_=>none
noncomputable def D.o7:D->Bool
 |.non=>true
 |_=>false
noncomputable def Dh(f:Bool->Bool):List D->Option Rz
 |[a]=>some (.dat (.bl (f a.o7)))
 |_=>none
noncomputable def J_:List D->Option Rz
 |[.int i]=>some (.dat (.int i))
 |[.bl k]=>some (.dat (.int (if k then 1 else 0)))
 |_=>none
def Di:List D->Option Rz
 |[.fl xs]=>(dZ xs).map λbs=>.dat (.bl (bs.all id))
 |_=>none
noncomputable def gA:List D->Option (List Int)
 |[]=>some []
 |.int i::r=>(gA r).map (i::·)
 |_=>none
noncomputable def best(bt:Int->Int->Bool)(i:Int)(is:List Int):Int:=is.foldl (λm j=>if bt j m then j else m) i
def rQ(bt:Int->Int->Bool):Option (List Int)->Option Rz
 |some (i::is)=>some (.dat (.int (best bt i is)))
 |_=>none
def rR(bt:Int->Int->Bool):List D->Option Rz
 |[a]=>(lV a).bind λxs=>rQ bt (gA xs)
 |_=>none
noncomputable def okR(i j:Int):Bool:=decide (-(2^62)<=i/\i<2^62/\-(2^62)<=j/\j<2^62/\(j-i).toNat<=65536)
noncomputable def Ka(i:Int)(n:Nat):List D:=(List.range n).map λk=>.int (i+(k:Nat))
def T3:List D->Option Rz
 |[.int j]=>if okR 0 j then some (.nw (Ka 0 (j-0).toNat)) else none
 |[.int i,.int j]=>if okR i j then some (.nw (Ka i (j-i).toNat)) else none
 |_=>none
def Dj:List D->Option Rz
 |[.int j]=>if okR 0 j then some (.dat (.tup (Ka 0 (j-0).toNat))) else none
 |_=>none
def qH:List D->Option Rz
 |[a]=>(lV a).map λxs=>.dat (.tup xs)
 |_=>none
def T4:List D->Option Rz
 |[a,.int i]=>((lV a).bind λxs=>L2.rG xs i).map .dat
 |_=>none
def tR:List D->List D->Option Bool
 |[],ys=>some (decide (0<ys.length))
 |_::_,[]=>some false
 |.int x::xs,.int y::ys=>if x=y then tR xs ys else some (decide (x<y))
 |_::_,_::_=>none
def zX(xs:List D)(i j:Nat):Option Bool:=match xs[i]?,xs[j]? with
 |some (.int x),some (.int y)=>some (decide (x<y))
 |some (.tup us),some (.tup ws)=>tR us ws
 |_,_=>none
def gB(b:List Int):List (List Int)->List Int
 |[]=>b
 |x::r=>gB (if ltI x b=true then x else b) r
def kI:List D->Option (List (List Int))
 |[]=>some []
 |.tup xs::r=>match cI xs,kI r with
  |some a,some b=>some (a::b)
  |_,_=>none
 |_=>none
def o8:List D->Option Rz
 |[.fl xs]=>match kI xs with
  |some (x::r)=>some (.dat (.tup ((gB x r).map .int)))
  |_=>none
 |_=>none
noncomputable def kJ:D->Bool
 |.int _=>true
 |_=>false
noncomputable def jq:D->Bool
 |.tup (.int _::_)=>true
 |_=>false
def jA(lt:Nat->Nat->Option Bool)(xs:List D):Option (List D):=if xs.length<2 then some xs else if xs.length<64 then (match L2.bI lt (PySem.W.kas_sort xs.length) with
  |some p=>if p.size=xs.length then some (p.toList.map λi=>xs.getD i .non) else none
  |none=>none) else none
def zY(xs:List D):Option (List D):=if xs.all kJ||xs.all jq then jA (zX xs) xs else none
def nu:List D->Option Rz
 |[.fl xs]=>(zY xs).map .nw
 |_=>none
noncomputable def zZ(ks:List Int)(i j:Nat):Option Bool:=match ks[i]?,ks[j]? with
 |some x,some y=>some (decide (x<y))
 |_,_=>none
def Dk:List D->Option Rz
 |[.tup xs]=>some (.dat (.tup xs.reverse))
 |_=>none
def Dl:List D->Option Rz
 |[.fl xs,.bl b]=>(dZ xs).map λbs=>.dat (.int (bs.count b))
 |_=>none
def Dm:List D->Option Rz
 |[.fl xs,.bl b]=>((dZ xs).bind λbs=>bs.idxOf? b).map λ(i:Nat)=>.dat (.int i)
 |_=>none
noncomputable def T5:List D->Option Rz
 |[.int i]=>if i.natAbs<2^62 then some (.dat (.str (Str.ofString (toString i)))) else none
 |_=>none
noncomputable def T6(f:D->Option PyData):List D->Option (List PyData)
 |[]=>some []
 |x::r=>match f x,T6 f r with
  |some a,some b=>some (a::b)
  |_,_=>none
def pd:Nat->D->Option PyData
 |n+1,.tup xs=>(T6 (pd n) xs).map .tuple
 |n+1,.fl xs=>(T6 (pd n) xs).map .list
 |_,.non=>some .none
 |_,.bl b=>some (.bool b)
 |_,.int i=>some (.int i)
 |_,.str x=>some (.str x)
 |_,_=>none
def pdT:D->Option PyData
 |.fd [.str k] [.int i]=>some (.dict [(.str k,.int i)])
 |x=>pd 40 x
noncomputable def shw(d:PyData):Option Rz:=if d.showable=true/\d.shown.length<=sizeLine then some (.dat (.str d.shown)) else none
def Kc:List D->Option Rz
 |[x]=>(pdT x).bind shw
 |_=>none
noncomputable def z_:List (Int×Int):=[(0,1),(0,2),(0,3),(0,4),(0,5),(0,6),(0,7),(1,2),(1,3),(1,4),(1,5),(1,6),(1,7),(2,3),(2,4),(2,5),(2,6),(2,7),(3,4),(3,5),(3,6),(3,7),(4,5),(4,6),(4,7),(5,6),(5,7),(6,7)]
noncomputable def ss(ts:List (Int×Int)):List (Int×Int):=z_.filter λt=>ts.contains t
noncomputable def T7:D->Option (Int×Int)
 |.tup [.int a,.int b]=>if 0<=a/\a<b/\b<8 then some (a,b) else none
 |_=>none
def Aa:List D->Option (List (Int×Int))
 |[]=>some []
 |x::r=>match T7 x,Aa r with
  |some a,some b=>some (a::b)
  |_,_=>none
def pSs:List D->Option Rz
 |[.tup xs]=>(Aa xs).map λts=>.nw ((ss ts).map λp=>.tup [.int p.1,.int p.2])
 |_=>none
noncomputable def Ke(is:List Int):Bool:=decide (is.length<=1000)&&is.all λi=>decide (-1000000<=i/\i<=1000000)
def T8(is:List Int):Option Rz:=match Ke is with
 |true=>some (.dat (.int is.sum))
 |false=>none
def T9:List D->Option Rz
 |[a]=>(lV a).bind λxs=>(gA xs).bind T8
 |_=>none
noncomputable def nA:List Int->List Int
 |[]=>[]
 |x::r=>if r.contains x then nA r else x::nA r
def Kf:List D->Option Rz
 |[.tup xs]=>(gA xs).map λis=>.dat (.int (nA is).length)
 |_=>none
def rep{α:Type}(xs:List α)(n:Nat):List α:=(List.replicate n xs).flatten
def Kg:List D->Option Rz
 |[.fl xs,.int n]=>if 0<=n/\n<=1000/\xs.length<=1000 then some (.nw (rep xs n.toNat)) else none
 |_=>none
def Dn:List D->Option Rz
 |[.tup xs]=>if xs.all kJ=true then (zY xs).map .nw else none
 |_=>none
def Kh:List D->Option Rz
 |[.tup xs,.int n]=>if 1<=n/\n<=1000/\1<=xs.length/\xs.length<=1000 then some (.dat (.tup (rep xs n.toNat))) else none
 |_=>none
def yw:D->Option Bool
 |.non=>some false
 |.bl b=>some b
 |.int i=>some (i != 0)
 |.tup xs=>some (!xs.isEmpty)
 |.fl xs=>some (!xs.isEmpty)
 |_=>none
def prim:Pr->List D->Option Rz
 |.add=>C_
 |.aq=>dw λi j=>some (.int (i-j))
 |.mul=>dw λi j=>if (-(2^64)<i/\i<2^64)\/(-(2^64)<j/\j<2^64) then some (.int (i*j)) else none
 |.fdiv=>dw λi j=>if 0<j/\j<1073741824 then some (.int (i/j)) else none
 |.mod=>dw λi j=>if 0<j then some (.int (i%j)) else none
 |.pow=>dw λi j=>if 0<=j/\j<=1000000/\i.natAbs<2^64 then some (.int (i^j.toNat)) else none
 |.neg=>rP λi=>.int (-i)
 |.eq=>Dg id
 |.ne=>Dg not
 |.lt=>J9
 |.le=>dw λi j=>some (.bl (decide (i<=j)))
 |.gt=>dw λi j=>some (.bl (decide (j<i)))
 |.ge=>dw λi j=>some (.bl (decide (j<=i)))
 |.inn=>zW id
 |.nin=>zW not
 |.rK=>Dh id
 |.pU=>Dh not
 |.len=>tQ λxs=>some (.dat (.int xs.length))
 |.abs=>rP λi=>.int (if i<0 then -i else i)
 |.max2=>dw λi j=>some (.int (if j>i then j else i))
 |.min2=>dw λi j=>some (.int (if j<i then j else i))
 |.yu=>J_
 |.divmod=>dw λi j=>if 0<j/\j<1073741824 then some (.tup [.int (i/j),.int (i%j)]) else none
 |.all=>Di
 |.rgl=>T3
 |.u_=>rR λa b=>decide (a>b)
 |.J6=>rR λa b=>decide (a<b)
 |.tL=>o8
 |.yt=>Dj
 |.list=>tQ λxs=>some (.nw xs)
 |.tuple=>qH
 |.ix=>T4
 |.rev=>Dk
 |.sorted=>nu
 |.rM=>pSs
 |.J7=>Kg
 |.mult=>Kh
 |.zU=>Dn
 |.sum=>T9
 |.CV=>Kf
 |.count=>Dl
 |.index=>Dm
 |.repr=>Kc
 |.str1=>T5
noncomputable def mO(aq:Nat->Nat->Bool):D->Kd->Option Bool
 |.exc c _,.cls e=>some (aq c e)
 |.exc _ _,.tM=>some true
 |.exc _ _,_=>none
 |.ob _ _,_=>none
 |.any,_=>none
 |_,.cls _=>none
 |_,.tM=>none
 |.bl _,.bool=>some true
 |.bl _,.int=>some true
 |.bl _,_=>some false
 |.int _,.int=>some true
 |.int _,_=>some false
 |.non,_=>some false
 |.str _,.str=>some true
 |.str _,_=>some false
 |.tup _,.tuple=>some true
 |.tup _,_=>some false
 |.fl _,.list=>some true
 |.fl _,_=>some false
 |.fd _ _,.dict=>some true
 |.fd _ _,_=>some false
def rd(x:Xv):M D:=λs=>match x with
 |.d v=>some (.ok v,s)
 |.l n=>match s[n]? with
  |some (.lst xs)=>some (.ok (.fl xs),s)
  |_=>none
def g8:List Xv->M (List D)
 |[]=>M.ret []
 |x::r=>M.bd (rd x) λd=>M.bd (g8 r) λds=>M.ret (d::ds)
def dat(x:Xv):M D:=match x with
 |.d v=>M.ret v
 |.l _=>M.no
def cL:List Xv->M (List D)
 |[]=>M.ret []
 |x::r=>M.bd (dat x) λd=>M.bd (cL r) λds=>M.ret (d::ds)
def bool(x:Xv):M Bool:=match x with
 |.d (.bl b)=>M.ret b
 |_=>M.no
def int(x:Xv):M Int:=match x with
 |.d (.int b)=>M.ret b
 |_=>M.no
def newL(fz:Bool)(xs:List D):M Xv:=match fz with
 |true=>M.ret (.d (.fl xs))
 |false=>λs=>some (.ok (.l s.length),s++[.lst xs])
def cH(fz:Bool)(o:Option Rz):M Xv:=match o with
 |some (.dat d)=>M.ret (.d d)
 |some (.nw xs)=>newL fz xs
 |none=>M.no
def dh(x:Xv):M (Nat×List D):=λs=>match x with
 |.l n=>match s[n]? with
  |some (.lst xs)=>some (.ok (n,xs),s)
  |_=>none
 |_=>none
def putL(n:Nat)(xs:List D):M Unit:=λs=>some (.ok (),s.set n (.lst xs))
def vd:D->Option Kx
 |.non=>some .non
 |.int i=>some (.int i)
 |.tup xs=>(cI xs).map .row
 |_=>none
def Dp:List D->Option (List Kx)
 |[]=>some []
 |x::r=>match vd x,Dp r with
  |some a,some b=>some (a::b)
  |_,_=>none
def kOf:D->Option (List Kx)
 |.tup xs=>Dp xs
 |_=>none
noncomputable abbrev jd:=List (List Kx×D)
noncomputable def cF(k:List Kx):jd->Option D
 |[]=>none
 |p::r=>if p.1=k then some p.2 else cF k r
def jL(k:List Kx)(d:D)(r:jd):jd:=if (cF k r).isSome=true then r.map λp=>if p.1=k then (p.1,d) else p else r++[(k,d)]
noncomputable def gC(x:Xv):M (Nat×jd):=λs=>match x with
 |.l n=>match s[n]? with
  |some (.dct kvs)=>some (.ok (n,kvs),s)
  |_=>none
 |_=>none
noncomputable def putD(n:Nat)(kvs:jd):M Unit:=λs=>some (.ok (),s.set n (.dct kvs))
def key(x:Xv):M (List Kx):=match x with
 |.d v=>M.opt (kOf v)
 |.l _=>M.no
noncomputable def enumFrom:Nat->List D->List D
 |_,[]=>[]
 |i,x::r=>.tup [.int i,x]::enumFrom (i+1) r
inductive Src where
 |fix (xs:List D)|live (n:Nat)|mQ (n:Nat)
def Src.at(c:Src)(i:Nat)(s:S):Option (Option D):=match c with
 |.fix xs=>some xs[i]?
 |.live n=>match s[n]? with
  |some (.lst xs)=>some xs[i]?
  |_=>none
 |.mQ n=>match s[n]? with
  |some (.lst xs)=>some (xs[i]?.map λx=>.tup [.int i,x])
  |_=>none
def o9(x:Xv):M (Src×Nat):=λs=>match x with
 |.d (.tup xs)=>some (.ok (.fix (enumFrom 0 xs),(enumFrom 0 xs).length),s)
 |.d (.fl xs)=>some (.ok (.fix (enumFrom 0 xs),(enumFrom 0 xs).length),s)
 |.l n=>match s[n]? with
  |some (.lst xs)=>some (.ok (.mQ n,xs.length),s)
  |_=>none
 |_=>none
def src(x:Xv):M (Src×Nat):=λs=>match x with
 |.d (.tup xs)=>some (.ok (.fix xs,xs.length),s)
 |.d (.fl xs)=>some (.ok (.fix xs,xs.length),s)
 |.l n=>match s[n]? with
  |some (.lst xs)=>some (.ok (.live n,xs.length),s)
  |_=>none
 |_=>none
def qI(x:Xv):M (List D):=match x with
 |.d (.tup xs)=>M.ret xs
 |.d (.fl xs)=>M.ret xs
 |_=>M.no
noncomputable def jM(a b:Int):List D:=(List.range (b-a).toNat).map λ(i:Nat)=>.int (a+i)
noncomputable def gF(a:Int):Bool:=decide (-(2^62)<a)&&decide (a<2^62)
def walk(c:Src)(f:D->List D->M (List D)):Nat->Nat->List D->M (List D)
 |0,_,_=>M.no
 |k+1,i,acc=>λs=>match c.at i s with
  |none=>none
  |some none=>some (.ok acc,s)
  |some (some x)=>M.bd (f x acc) (λacc'=>walk c f k (i+1) acc') s
noncomputable def kO(f:D->M Xv):List D->Option (List Int)
 |[]=>some []
 |x::r=>match f x [] with
  |some (.ok (.d (.int k)),[])=>(kO f r).map (k::·)
  |_=>none
noncomputable abbrev Vs:=List (Option Xv)
abbrev Fn:=Nat->List Xv->M Xv
noncomputable def locs:List Xv->List Nat
 |[]=>[]
 |.d _::r=>locs r
 |.l n::r=>n::locs r
noncomputable def dN:Nat->List Xv->List Xv
 |_,[]=>[]
 |k,.d v::r=>.d v::dN k r
 |k,.l _::r=>.l k::dN (k+1) r
noncomputable def jN(s:S):List Nat->Option S
 |[]=>some []
 |n::r=>match s[n]?,jN s r with
  |some o,some q=>some (o::q)
  |_,_=>none
noncomputable def dz(s:S):List Nat->S->S
 |n::r,o::q=>dz (s.set n o) r q
 |_,_=>s
def cO(F:List Xv->M Xv)(xs:List Xv):M Xv:=λs=>
 if (locs xs).Nodup then match jN s (locs xs) with
  |none=>none
  |some s0=>match F (dN 0 xs) s0 with
   |none=>none
   |some (.er c fs,s1)=>some (.er c fs,dz s (locs xs) s1)
   |some (.ok (.d v),s1)=>some (.ok (.d v),dz s (locs xs) s1)
   |some (.ok (.l n),s1)=>match (locs xs)[n]? with
    |some m=>some (.ok (.l m),dz s (locs xs) s1)
    |none=>match s1[n]? with
     |some o=>some (.ok (.l s.length),dz s (locs xs) s1++[o])
     |none=>none
 else none
def T_(F:List Xv->M Xv)(c:Nat)(vs:List Xv):M Xv:=λs=>
 if locs vs=[] then match F (.d .any::vs) [] with
  |some (.ok (.d (.tup ds)),_)=>some (.ok (.d (.ob c ds)),s)
  |_=>none
 else none
def tU(c:Nat)(x:Xv):M (List D):=match x with
 |.d (.ob e fs)=>if e=c then M.ret fs else M.no
 |_=>M.no
noncomputable def gG{α:Type}:List Nat->List α->List (Option α)->Option (List (Option α))
 |[],[],J=>some J
 |i::is,d::ds,J=>gG is ds (J.set i (some d))
 |_,_,_=>none
def kW:D->Option (List D)
 |.tup xs=>some xs
 |_=>none
def eE(tg:List Nat)(x:D)(J:Vs):Option Vs:=match tg with
 |[i]=>some (J.set i (some (.d x)))
 |is=>(kW x).bind λds=>gG is (ds.map .d) J
noncomputable def blk(many:Nat)(fr:List Nat)(J:Vs):Vs:=List.replicate many none++fr.map λj=>J[j]?.join
section
variable (aq:Nat->Nat->Bool)(aj:Bool)(F:Fn)
mutual
def ev:E->Vs->M Xv
 |.c d,_=>M.ret (.d d)
 |.v i,J=>M.opt (J[i]?.join)
 |.pr fz p xs,J=>M.bd (evs xs J) λvs=>M.bd (g8 vs) λds=>cH fz (prim p ds)
 |.zV p q a b c,J=>M.bd (ev a J) λx=>M.bd (ev b J) λy=>M.bd (g8 [x,y]) λds=>M.bd (cH true (prim p ds)) λt=>M.bd (bool t) λk=>
   if k=true then M.bd (ev c J) λz=>M.bd (g8 [y,z]) λds=>cH true (prim q ds) else M.ret (.d (.bl false))
 |.ch3 p q r a b c d,J=>M.bd (ev a J) λx=>M.bd (ev b J) λy=>M.bd (g8 [x,y]) λds=>M.bd (cH true (prim p ds)) λt=>M.bd (bool t) λk=>
   if k=true then M.bd (ev c J) λz=>M.bd (g8 [y,z]) λds=>M.bd (cH true (prim q ds)) λt=>M.bd (bool t) λk2=>
    if k2=true then M.bd (ev d J) λw=>M.bd (g8 [z,w]) λds=>cH true (prim r ds) else M.ret (.d (.bl false))
   else M.ret (.d (.bl false))
 |.and a b,J=>M.bd (ev a J) λx=>M.bd (bool x) λk=>if k=true then ev b J else M.ret (.d (.bl false))
 |.or a b,J=>M.bd (ev a J) λx=>M.bd (bool x) λk=>if k=true then M.ret (.d (.bl true)) else ev b J
 |.not a,J=>M.bd (ev a J) λx=>M.bd (bool x) λk=>M.ret (.d (.bl (!k)))
 |.ite c a b,J=>M.bd (ev c J) λx=>M.bd (bool x) λk=>if k=true then ev a J else ev b J
 |.tup xs,J=>M.bd (evs xs J) λvs=>M.bd (cL vs) λds=>M.ret (.d (.tup ds))
 |.lst fz xs,J=>M.bd (evs xs J) λvs=>M.bd (cL vs) λds=>newL fz ds
 |.J8 k i,_=>M.ret (.d (.fd [.str k] [.int i]))
 |.call f xs,J=>M.bd (evs xs J) λvs=>cO (F f) vs
 |.rN a k,J=>M.bd (ev a J) λx=>M.bd (rd x) λd=>M.bd (M.opt (mO aq d k)) λb=>M.ret (.d (.bl b))
 |.sl fz a lo hi,J=>M.bd (ev a J) λx=>M.bd (yx lo J) λl=>M.bd (yx hi J) λh=>M.bd (rd x) λd=>cH fz (cutD d l h)
 |.meth fz p k o xs,J=>M.bd (ev o J) λx=>M.bd (rd x) λd=>if CZ k d=true then M.bd (evs xs J) λys=>M.bd (g8 (x::ys)) λds=>cH fz (prim p ds) else M.no
 |.push o a,J=>M.bd (ev o J) λx=>M.bd (dh x) λ_=>M.bd (ev a J) λy=>M.bd (dat y) λd=>M.bd (dh x) λnx=>if nx.2.length<sizeLine then M.bd (putL nx.1 (nx.2++[d])) λ_=>M.ret (.d .non) else M.no
 |.pop o,J=>M.bd (ev o J) λx=>M.bd (dh x) λnx=>match nx.2.getLast? with
   |some d=>M.bd (putL nx.1 nx.2.dropLast) λ_=>M.ret (.d d)
   |none=>M.no
 |.comp fz elt tg it fr many cond,J=>if aj=true then M.bd (je it J) λcn=>
   M.bd (walk cn.1 (λd acc=>M.bd (M.opt (eE tg d (blk many fr J))) λJ'=>M.bd (M.qt (n6 cond J')) λok=>
    if ok=true then M.bd (M.qt (ev elt J')) λy=>M.bd (dat y) λe=>if acc.length<sizeLine then M.ret (acc++[e]) else M.no else M.ret acc) (cn.2+1) 0 []) λxs=>newL fz xs
  else M.no
 |.jz fz elt tg it tg2 J3 fr many cond,J=>if aj=true then M.bd (je it J) λcn=>
   M.bd (walk cn.1 (λd acc=>M.bd (M.opt (eE tg d (blk many fr J))) λJ'=>M.bd (M.qt (je J3 J')) λqJ=>
    walk qJ.1 (λd2 acc=>M.bd (M.opt (eE tg2 d2 J')) λJ''=>M.bd (M.qt (n6 cond J'')) λok=>
     if ok=true then M.bd (M.qt (ev elt J'')) λy=>M.bd (dat y) λe=>if acc.length<sizeLine then M.ret (acc++[e]) else M.no else M.ret acc) (qJ.2+1) 0 acc) (cn.2+1) 0 []) λxs=>newL fz xs
  else M.no
 |.fld o cs i,J=>M.bd (ev o J) λx=>match x with
   |.d (.exc c fs)=>if cs.contains c=true then M.opt (fs[i]?.map .d) else M.no
   |_=>M.no
 |.of o c i,J=>M.bd (ev o J) λx=>M.bd (tU c x) λfs=>M.opt (fs[i]?.map .d)
 |.mk c f xs,J=>M.bd (evs xs J) λvs=>T_ (F f) c vs
 |.cm c f o xs,J=>M.bd (ev o J) λx=>M.bd (tU c x) λ_=>M.bd (evs xs J) λvs=>M.qt (cO (F f) (x::vs))
 |.tO,_=>λs=>some (.ok (.l s.length),s++[.dct []])
 |.CW b k d,J=>M.bd (ev k J) λx=>M.bd (ev d J) λy=>M.bd (key x) λkx=>M.bd (gC y) λnk=>M.ret (.d (.bl ((cF kx nk.2).isSome==b)))
 |.qG d k,J=>M.bd (ev d J) λy=>M.bd (ev k J) λx=>M.bd (key x) λkx=>M.bd (gC y) λnk=>M.opt ((cF kx nk.2).map .d)
 |.Gz a,J=>M.bd (ev a J) λx=>M.bd (rd x) λd=>M.bd (M.opt (yw d)) λk=>M.ret (.d (.bl k))
 |.rO fz a b,J=>if aj=true then M.bd (ev a J) λx=>match x with
   |.d (.fl xs)=>M.bd (M.opt (kO (λd=>ev b [some (.d d)]) xs)) λks=>M.bd (M.opt (jA (zZ ks) xs)) λys=>newL fz ys
   |_=>M.no else M.no
 |.orv a b,J=>M.bd (ev a J) λx=>M.bd (rd x) λd=>M.bd (M.opt (yw d)) λk=>if k=true then M.ret x else ev b J
 |.ins o i a,J=>M.bd (ev o J) λx=>M.bd (dh x) λ_=>M.bd (ev i J) λz=>M.bd (int z) λj=>M.bd (ev a J) λy=>M.bd (dat y) λd=>M.bd (dh x) λnx=>if 0<=j/\j<=nx.2.length/\nx.2.length<sizeLine then M.bd (putL nx.1 (nx.2.take j.toNat++d::nx.2.drop j.toNat)) λ_=>M.ret (.d .non) else M.no
 |.no,_=>M.no
def je:Wk->Vs->M (Src×Nat)
 |.seq e,J=>M.bd (ev e J) src
 |.rg a b,J=>M.bd (ev a J) λx=>M.bd (ev b J) λy=>M.bd (int x) λi=>M.bd (int y) λj=>if gF i&&gF j then M.ret (.fix (jM i j),(jM i j).length) else M.no
 |.zip a b,J=>M.bd (ev a J) λx=>M.bd (ev b J) λy=>M.bd (qI x) λxs=>M.bd (qI y) λys=>M.ret (.fix (List.zipWith (λp q=>.tup [p,q]) xs ys),(List.zipWith (λ(p q:D)=>D.tup [p,q]) xs ys).length)
 |.enum a,J=>M.bd (ev a J) o9
 |.rrg a,J=>M.bd (ev a J) λx=>M.bd (int x) λi=>if gF i then M.ret (.fix (jM 0 i).reverse,(jM 0 i).length) else M.no
def yx:Eo->Vs->M (Option Int)
 |.no,_=>M.ret none
 |.yes a,J=>M.bd (ev a J) λx=>M.bd (int x) λi=>M.ret (some i)
def n6:Eo->Vs->M Bool
 |.no,_=>M.ret true
 |.yes a,J=>M.bd (ev a J) bool
def evs:Es->Vs->M (List Xv)
 |.nil,_=>M.ret []
 |.cons a r,J=>M.bd (ev a J) λx=>M.bd (evs r J) λxs=>M.ret (x::xs)
end
end
inductive Out where
 |nx (J:Vs)|rt (x:Xv)|bk (J:Vs)|ct (J:Vs)|er (c:Nat) (fs:List D) (J:Vs)
abbrev MS:=S->Option (Out×S)
def ofM{α:Type}(m:M α)(J:Vs)(k:α->MS):MS:=λs=>match m s with
 |some (.ok a,s')=>k a s'
 |some (.er c fs,s')=>some (.er c fs J,s')
 |none=>none
noncomputable def cP(m:MS)(k:Vs->MS):MS:=λs=>match m s with
 |some (.nx J,s')=>k J s'
 |r=>r
section
variable (aq:Nat->Nat->Bool)
def store(aj:Bool)(F:Fn)(t:Tg)(x:Xv)(J:Vs):MS:=match t with
 |.nm i=>λs=>some (.nx (J.set i (some x)),s)
 |.tp is=>if aj=true then ofM (M.bd (dat x) λd=>M.opt ((kW d).bind λds=>gG is (ds.map .d) J)) J (λJ' s=>some (.nx J',s)) else λ_=>none
 |.aq o i=>ofM (M.bd (dat x) λd=>M.bd (ev aq aj F o J) λy=>M.bd (ev aq aj F i J) λz=>M.bd (int z) λj=>M.bd (dh y) λnx=>
   match L2.tH nx.2.length j with
   |some q=>putL nx.1 (nx.2.set q d)
   |none=>M.no) J (λ_ s=>some (.nx J,s))
def iy(c:Vs->M Bool)(b:Vs->MS):Nat->Vs->MS
 |0,_=>λ_=>none
 |k+1,J=>ofM (c J) J λok=>if ok=true then λs=>match b J s with
   |some (.nx J',s')=>iy c b k J' s'
   |some (.ct J',s')=>iy c b k J' s'
   |some (.bk J',s')=>some (.nx J',s')
   |r=>r
  else λs=>some (.nx J,s)
noncomputable def dO(c:Src)(b:D->Vs->MS):Nat->Nat->Vs->MS
 |0,_,_=>λ_=>none
 |k+1,i,J=>λs=>match c.at i s with
  |none=>none
  |some none=>some (.nx J,s)
  |some (some d)=>match b d J s with
   |some (.nx J',s')=>dO c b k (i+1) J' s'
   |some (.ct J',s')=>dO c b k (i+1) J' s'
   |some (.bk J',s')=>some (.nx J',s')
   |r=>r
noncomputable def goes(i:Nat):Out->Out
 |.nx J=>.nx (J.set i none)
 |.bk J=>.bk (J.set i none)
 |.ct J=>.ct (J.set i none)
 |r=>r
noncomputable def o_:Nat:=1000000000000
mutual
def ex(aj:Bool)(F:Bool->Fn):St->Vs->MS
 |.pass,J=>λs=>some (.nx J,s)
 |.ex e,J=>ofM (ev aq aj (F aj) e J) J λ_ s=>some (.nx J,s)
 |.asg t e,J=>ofM (ev aq aj (F aj) e J) J λx=>store aq aj (F aj) t x J
 |.par i j a b,J=>if aj=true then ofM (M.bd (ev aq aj (F aj) a J) λx=>M.bd (ev aq aj (F aj) b J) λy=>M.ret (x,y)) J λxy s=>some (.nx ((J.set i (some xy.1)).set j (some xy.2)),s) else λ_=>none
 |.aug i e,J=>ofM (M.bd (M.opt (J[i]?.join)) λx=>M.bd (ev aq aj (F aj) e J) λy=>M.bd (int x) λp=>M.bd (int y) λq=>M.ret (p+q)) J λr s=>some (.nx (J.set i (some (.d (.int r)))),s)
 |.ret e,J=>ofM (ev aq aj (F aj) e J) J λx s=>some (.rt x,s)
 |.rise c kp xs,J=>if aj=true then ofM (M.bd (evs aq aj (F aj) xs J) cL) J λds s=>some (.er c (if kp=true then ds else []) J,s) else λ_=>none
 |.iff c t e,J=>ofM (M.bd (ev aq aj (F aj) c J) bool) J λb=>if b=true then exs aj F t J else exs aj F e J
 |.wh c b,J=>iy (λJ=>M.bd (ev aq aj (F aj) c J) bool) (λJ=>exs aj F b J) o_ J
 |.fr t w b,J=>if aj=true then ofM (je aq aj (F aj) w J) J λcn=>dO cn.1 (λd J=>cP (store aq aj (F aj) t (.d d) J) λJ'=>exs aj F b J') (cn.2+1) 0 J else λ_=>none
 |.TY b d i h,J=>if aj=true then λs=>match exs aj F b J s with
   |some (.er c fs J',s')=>if aq c d=true then (match exs false F h (J'.set i (some (.d (.exc c fs)))) s' with
    |some (r,s'')=>(match r with
     |.er _ _ _=>none
     |r=>some (goes i r,s''))
    |none=>none) else none
   |r=>r
  else λ_=>none
 |.dput d k v,J=>ofM (M.bd (ev aq aj (F aj) v J) λz=>M.bd (dat z) λw=>M.bd (ev aq aj (F aj) d J) λy=>M.bd (ev aq aj (F aj) k J) λx=>M.bd (key x) λkx=>M.bd (gC y) λnk=>if nk.2.length<sizeLine then putD nk.1 (jL kx w nk.2) else M.no) J (λ_ s=>some (.nx J,s))
 |.no,_=>λ_=>none
def exs(aj:Bool)(F:Bool->Fn):bT->Vs->MS
 |.nil,J=>λs=>some (.nx J,s)
 |.cons a r,J=>cP (ex aj F a J) λJ'=>exs aj F r J'
end
structure Df where
 many:Nat
 iz:Nat
 body:bT
def call(T:Nat->Option Df):Nat->Bool->Fn
 |0,_,_,_=>M.no
 |k+1,aj,f,xs=>match T f with
  |none=>M.no
  |some d=>if xs.length=d.iz then λs=>match exs aq aj (λc=>call T k c) d.body (xs.map some++List.replicate (d.many-d.iz) none) s with
    |some (.nx _,s')=>some (.ok (.d .non),s')
    |some (.rt v,s')=>some (.ok v,s')
    |some (.er c fs _,s')=>some (.er c fs,s')
    |_=>none
   else M.no
end
end Mi
namespace Mi
open PySem L2
structure Ph where
 z:Addr->Prop
 l:List Addr
structure Cl where
 a:Nat->Addr
 f:Nat->List Str
 b:Nat->Addr
 g:Nat->List Str
section
variable (K:W.Frag)(cA:Cl)
def KT(a:Addr)(vs:List V):Prop:=gw K (λ_=>none) a vs
def KL(a:Addr)(vs:List V):Prop:=cY K (λ_=>none) a vs
def TupAt(U:Ph)(H:Hp)(a:Addr)(vs:List V):Prop:=(Rd H a (.tup vs)/\¬U.z a)\/KT K a vs
def LstAt(U:Ph)(H:Hp)(a:Addr)(vs:List V):Prop:=(Rd H a (.lst vs)/\¬U.z a)\/KL K a vs
def ExcAt(U:Ph)(H:Hp)(a:Addr)(c:Nat)(vs:List V):Prop:=¬U.z a/\((cA.f c=[]/\vs=[]/\H a=some (yq a (cA.a c) none))\/∃dx,H a=some (yq a (cA.a c) (some dx))/\¬U.z dx/\H dx=some (.xd ((cA.f c).zip vs))/\(cA.f c).length=vs.length)
def qK(U:Ph)(H:Hp)(a:Addr)(c:Nat)(vs:List V):Prop:=¬U.z a/\∃dx,H a=some (.ins (cA.b c) dx ((cA.g c).zip vs))/\(cA.g c).length=vs.length
mutual
inductive Rep (U:Ph) (H:Hp):D->V->Prop where
 |non:Rep U H .non .non
 |bl (b:Bool):Rep U H (.bl b) (.bl b)
 |int (i:Int):Rep U H (.int i) (.int i)
 |str (x:Str):Rep U H (.str x) (.str x)
 |tup {a:Addr} {xs:List D} {vs:List V} (h:TupAt K U H a vs) (r:aC U H xs vs):Rep U H (.tup xs) (.ref a)
 |fl {a:Addr} {xs:List D} {vs:List V} (h:LstAt K U H a vs) (r:aC U H xs vs):Rep U H (.fl xs) (.ref a)
 |fd {a:Addr} {k:Str} {i:Int} (h:H a=some (.dK [(.inr k,.int i)])) (n:¬U.z a):Rep U H (.fd [.str k] [.int i]) (.ref a)
 |exc {a:Addr} {c:Nat} {xs:List D} {vs:List V} (h:ExcAt cA U H a c vs) (r:aC U H xs vs):Rep U H (.exc c xs) (.ref a)
 |ob {a:Addr} {c:Nat} {xs:List D} {vs:List V} (h:qK cA U H a c vs) (r:aC U H xs vs):Rep U H (.ob c xs) (.ref a)
 |any (a:Addr):Rep U H .any (.ref a)
inductive aC (U:Ph) (H:Hp):List D->List V->Prop where
 |nil:aC U H [] []
 |cons {d:D} {v:V} {ds:List D} {vs:List V} (h:Rep U H d v) (r:aC U H ds vs):aC U H (d::ds) (v::vs)
end
inductive aW (U:Ph) (H:Hp):Xv->V->Prop where
 |d {x:D} {v:V} (h:Rep K cA U H x v):aW U H (.d x) v
 |l {n:Nat} {a:Addr} (h:U.l[n]?=some a):aW U H (.l n) (.ref a)
inductive aR (U:Ph) (H:Hp):List Xv->List V->Prop where
 |nil:aR U H [] []
 |cons {d:Xv} {v:V} {ds:List Xv} {vs:List V} (h:aW K cA U H d v) (r:aR U H ds vs):aR U H (d::ds) (v::vs)
noncomputable def Ua:Kx->Int
 |.non=>reduceHash 0xFCA86420
 |.int i=>hashInt i
 |.row is=>reduceHash (Builtin.Tuple.tupleHashOf (is.map hashInt))
def rT(k:List Kx):Int:=reduceHash (Builtin.Tuple.tupleHashOf (k.map Ua))
noncomputable def tV:Kx->D
 |.non=>.non
 |.int i=>.int i
 |.row is=>.tup (is.map .int)
def jr(k:List Kx):D:=.tup (k.map tV)
noncomputable abbrev nF:=List (List Kx×Addr×Value)
def vf(a:Addr)(xs:nF):HO:=.ext λh=>(a==sysModules)=false/\xs.length<=sizeLine/\∃o es ep,h.get? a=some o/\o.ExactDict/\o.data=.dict es ep/\es.toList=xs.map (λx=>⟨rT x.1,.ref x.2.1,x.2.2⟩)/\(xs.map (·.1)).Nodup
inductive jB (U:Ph) (H:Hp):jd->nF->Prop where
 |nil:jB U H [] []
 |cons {k:List Kx} {d:D} {ka:Addr} {u:Value} {v:V} {r:jd} {xs:nF} (hk:Rep K cA U H (jr k) (.ref ka)) (hu:RelV v u) (hv:Rep K cA U H d v) (q:jB U H r xs):jB U H ((k,d)::r) ((k,ka,u)::xs)
def lF(U:Ph)(H:Hp)(a:Addr):SO->Prop
 |.lst xs=>∃vs,H a=some (.lst vs)/\aC K cA U H xs vs
 |.dct kvs=>∃xs,H a=some (vf a xs)/\jB K cA U H kvs xs
structure aD(U:Ph)(H:Hp)(s:S):Prop where
 len:U.l.length=s.length
 obj:∀(n:Nat) o a,s[n]?=some o->U.l[n]?=some a->lF K cA U H a o
 uniq:U.l.Nodup
 lz:∀a∈U.l,U.z a
 zt:∀a,U.z a->∃o,H a=some o
noncomputable def NT:HO->Prop
 |.mD _=>False
 |_=>True
structure Ext(U:Ph)(H:Hp)(U':Ph)(H':Hp):Prop where
 more:∃r,U'.l=U.l++r/\∀b∈r,H b=none
 qL:∀a,U.z a->U'.z a
 kY:∀a,U'.z a->U.z a\/H a=none
 frame:∀a o,H a=some o->NT o->a∉U.l->H' a=some o
 stay:∀a o,H a=some o->∃o',H' a=some o'
def aZ(U:Ph)(H:Hp)(Z:L2.St)(J:Vs):Prop:=Z.length=J.length/\∀(i:Nat) (x:Xv),J[i]?=some (some x)->∃v,Z[i]?=some (some v)/\aW K cA U H x v
end
section
variable {K:W.Frag}{cA:Cl}{U U' kZ:Ph}{H H' nG:Hp}{s:S}{Z:L2.St}{J:Vs}
def Ext.refl:Ext U H U H:=⟨⟨[],by simp,by simp⟩,λ_ h=>h,λ_ h=>.inl h,λ_ _ h _ _=>h,λ_ o h=>⟨o,h⟩⟩
def Ext.mR(x:Ext U H U' H'){a:Addr}(h:H' a=none):H a=none:=by
 cases e:H a with
 |none=>rfl
 |some o=>obtain⟨o',q⟩:=x.stay a o e;rw[h] at q;cases q
theorem Ext.trans(x:Ext U H U' H')(y:Ext U' H' kZ nG):Ext U H kZ nG:=by
 obtain⟨r,e,hr⟩:=x.more;obtain⟨r',e',yC⟩:=y.more;refine⟨⟨r++r',by rw[e',e,Nh],λb hb=>?_⟩,λa h=>y.qL a (x.qL a h),λa h=>?_,λa o h t n=>y.frame a o (x.frame a o h t n) t ?_,λa o h=>?_⟩
 ·rcases nW.mp hb with z|z
  ·exact hr b z
  ·exact x.mR (yC b z)
 ·rcases y.kY a h with z|z
  ·exact x.kY a z
  ·exact .inr (x.mR z)
 ·rw[e];intro z;rcases nW.mp z with z|z
  ·exact n z
  ·rw[hr a z] at h;cases h
 ·obtain⟨o',q⟩:=x.stay a o h;exact y.stay a o' q
def Ext.get(x:Ext U H U' H'){n:Nat}{a:Addr}(h:U.l[n]?=some a):U'.l[n]?=some a:=by
 obtain⟨r,e,_⟩:=x.more;rw[e,pK (eG.mp h).1];exact h
theorem Ext.out(x:Ext U H U' H')(hz:∀a∈U.l,U.z a){a:Addr}{o:HO}(h:H a=some o)(n:¬U.z a)(t:NT o:=by exact trivial):H' a=some o/\¬U'.z a:=
 ⟨x.frame a o h t λz=>n (hz a z),λz=>by
  rcases x.kY a z with y|y
  ·exact n y
  ·rw[h] at y;cases y⟩
theorem TupAt.mono(x:Ext U H U' H')(hz:∀a∈U.l,U.z a){a:Addr}{vs:List V}(h:TupAt K U H a vs):TupAt K U' H' a vs:=by
 rcases h with ⟨h|⟨o,h⟩,n⟩|h
 ·obtain⟨p,q⟩:=x.out hz h n;exact .inl ⟨.inl p,q⟩
 ·obtain⟨p,q⟩:=x.out hz h n;exact .inl ⟨.inr ⟨o,p⟩,q⟩
 ·exact .inr h
theorem LstAt.mono(x:Ext U H U' H')(hz:∀a∈U.l,U.z a){a:Addr}{vs:List V}(h:LstAt K U H a vs):LstAt K U' H' a vs:=by
 rcases h with ⟨h|⟨o,h⟩,n⟩|h
 ·obtain⟨p,q⟩:=x.out hz h n;exact .inl ⟨.inl p,q⟩
 ·obtain⟨p,q⟩:=x.out hz h n;exact .inl ⟨.inr ⟨o,p⟩,q⟩
 ·exact .inr h
theorem ExcAt.mono(x:Ext U H U' H')(hz:∀a∈U.l,U.z a){a:Addr}{c:Nat}{vs:List V}(h:ExcAt cA U H a c vs):ExcAt cA U' H' a c vs:=by
 obtain⟨n,⟨e1,e2,h⟩|⟨dx,h,n2,h2,h3⟩⟩:=h
 ·obtain⟨p,q⟩:=x.out hz h n;exact⟨q,.inl ⟨e1,e2,p⟩⟩
 ·obtain⟨p,q⟩:=x.out hz h n;obtain⟨p2,q2⟩:=x.out hz h2 n2;exact⟨q,.inr ⟨dx,p,q2,p2,h3⟩⟩
def qK.mono(x:Ext U H U' H')(hz:∀a∈U.l,U.z a){a:Addr}{c:Nat}{vs:List V}(h:qK cA U H a c vs):qK cA U' H' a c vs:=by
 obtain⟨n,dx,h,h3⟩:=h;obtain⟨p,q⟩:=x.out hz h n;exact⟨q,dx,p,h3⟩
theorem Rep.mono(x:Ext U H U' H')(hz:∀a∈U.l,U.z a){d:D}{v:V}(h:Rep K cA U H d v):Rep K cA U' H' d v:=
 Rep.rec (motive_1:=λd v _=>Rep K cA U' H' d v) (motive_2:=λd v _=>aC K cA U' H' d v) .non .bl .int .str (λh _ i=>.tup (h.mono x hz) i) (λh _ i=>.fl (h.mono x hz) i) (λh n=>.fd (x.out hz h n).1 (x.out hz h n).2) (λh _ i=>.exc (h.mono x hz) i) (λh _ i=>.ob (h.mono x hz) i) .any .nil (λ_ _ i j=>.cons i j) h
theorem aC.mono(x:Ext U H U' H')(hz:∀a∈U.l,U.z a){d:List D}{v:List V}(h:aC K cA U H d v):aC K cA U' H' d v:=
 aC.rec (motive_1:=λd v _=>Rep K cA U' H' d v) (motive_2:=λd v _=>aC K cA U' H' d v) .non .bl .int .str (λh _ i=>.tup (h.mono x hz) i) (λh _ i=>.fl (h.mono x hz) i) (λh n=>.fd (x.out hz h n).1 (x.out hz h n).2) (λh _ i=>.exc (h.mono x hz) i) (λh _ i=>.ob (h.mono x hz) i) .any .nil (λ_ _ i j=>.cons i j) h
def aC.map(m:∀d v,Rep K cA U H d v->Rep K cA U' H' d v):∀{d:List D} {v:List V},aC K cA U H d v->aC K cA U' H' d v
 |_,_,.nil=>.nil
 |_,_,.cons h r=>.cons (m _ _ h) (aC.map m r)
def jB.map(m:∀d v,Rep K cA U H d v->Rep K cA U' H' d v){d:jd}{v:nF}(h:jB K cA U H d v):jB K cA U' H' d v:=by
 induction h with
 |nil=>exact .nil
 |cons a b c _ ih=>exact .cons (m _ _ a) b (m _ _ c) ih
theorem lF.map{a:Addr}{o:SO}(h:lF K cA U H a o)(e:∀u,NT u->H a=some u->H' a=some u)(m:∀d v,Rep K cA U H d v->Rep K cA U' H' d v):lF K cA U' H' a o:=by
 cases o with
 |lst xs=>obtain⟨vs,q,r⟩:=h;exact⟨vs,e _ trivial q,r.map m⟩
 |dct xs=>obtain⟨vs,q,r⟩:=h;exact⟨vs,e _ trivial q,r.map m⟩
def aW.mono(x:Ext U H U' H')(hz:∀a∈U.l,U.z a){d:Xv}{v:V}(h:aW K cA U H d v):aW K cA U' H' d v:=by
 cases h with
 |d h=>exact .d (h.mono x hz)
 |l h=>exact .l (x.get h)
def aR.mono(x:Ext U H U' H')(hz:∀a∈U.l,U.z a):∀{ds:List Xv} {vs:List V},aR K cA U H ds vs->aR K cA U' H' ds vs
 |_,_,.nil=>.nil
 |_,_,.cons h r=>.cons (h.mono x hz) (aR.mono x hz r)
def aZ.mono(x:Ext U H U' H')(hz:∀a∈U.l,U.z a)(h:aZ K cA U H Z J):aZ K cA U' H' Z J:=⟨h.1,λi d e=>let ⟨v,a,b⟩:=h.2 i d e;⟨v,a,b.mono x hz⟩⟩
def aC.len:∀{ds:List D} {vs:List V},aC K cA U H ds vs->ds.length=vs.length
 |_,_,.nil=>rfl
 |_,_,.cons _ r=>by rw[iu,iu,aC.len r]
def aR.len:∀{ds:List Xv} {vs:List V},aR K cA U H ds vs->ds.length=vs.length
 |_,_,.nil=>rfl
 |_,_,.cons _ r=>by rw[iu,iu,aR.len r]
theorem aC.get:∀{ds:List D} {vs:List V} {i:Nat} {d:D},aC K cA U H ds vs->ds[i]?=some d->∃v,vs[i]?=some v/\Rep K cA U H d v
 |_,_,_,_,.nil,e=>by simp at e
 |_,_,0,_,.cons h _,e=>by simp at e;subst e;exact⟨_,rfl,h⟩
 |_,_,i+1,d,.cons _ r,e=>by
  obtain⟨v,a,b⟩:=aC.get (i:=i) (d:=d) r (by simpa using e);exact⟨v,by simpa using a,b⟩
theorem aR.get:∀{ds:List Xv} {vs:List V} {i:Nat} {d:Xv},aR K cA U H ds vs->ds[i]?=some d->∃v,vs[i]?=some v/\aW K cA U H d v
 |_,_,_,_,.nil,e=>by simp at e
 |_,_,0,_,.cons h _,e=>by simp at e;subst e;exact⟨_,rfl,h⟩
 |_,_,i+1,d,.cons _ r,e=>by
  obtain⟨v,a,b⟩:=aR.get (i:=i) (d:=d) r (by simpa using e);exact⟨v,by simpa using a,b⟩
def aC.none:∀{ds:List D} {vs:List V} {i:Nat},aC K cA U H ds vs->ds[i]?=none->vs[i]?=none:=λ{ds vs i} r e=>by
 have:=r.len;have h2:ds.length<=i:=qZ.mp e;exact qZ.mpr gV
def aC.app:∀{ds es:List D} {vs us:List V},aC K cA U H ds vs->aC K cA U H es us->aC K cA U H (ds++es) (vs++us)
 |_,_,_,_,.nil,s=>s
 |_,_,_,_,.cons h r,s=>.cons h (aC.app r s)
theorem aC.take:∀{ds:List D} {vs:List V} (n:Nat),aC K cA U H ds vs->aC K cA U H (ds.take n) (vs.take n)
 |_,_,0,_=>by simp;exact .nil
 |_,_,n+1,.nil=>by simp;exact .nil
 |_,_,n+1,.cons h r=>by simp only[List.take_succ_cons];exact .cons h (aC.take n r)
def aC.drop:∀{ds:List D} {vs:List V} (n:Nat),aC K cA U H ds vs->aC K cA U H (ds.drop n) (vs.drop n)
 |_,_,0,r=>r
 |_,_,n+1,.nil=>by simp;exact .nil
 |_,_,n+1,.cons _ r=>by simp only[List.drop_succ_cons];exact aC.drop n r
def aC.set{d:D}{v:V}(h:Rep K cA U H d v):∀{ds:List D} {vs:List V} (i:Nat),aC K cA U H ds vs->aC K cA U H (ds.set i d) (vs.set i v)
 |_,_,_,.nil=>.nil
 |_,_,0,.cons _ r=>.cons h r
 |_,_,i+1,.cons q r=>.cons q (aC.set h i r)
def aC.rev:∀{ds:List D} {vs:List V},aC K cA U H ds vs->aC K cA U H ds.reverse vs.reverse
 |_,_,.nil=>.nil
 |_,_,.cons h r=>by rw[Ni,Ni];exact(aC.rev r).app (.cons h .nil)
def aC.cut{ds:List D}{vs:List V}{l h:Option Int}(r:aC K cA U H ds vs):aC K cA U H (Mi.cut ds l h) (m7 vs l h):=by
 unfold Mi.cut m7;rw[<-r.len];exact(r.drop _).take _
def bJ(H H':Hp):Prop:=∀a o,H a=some o->H' a=some o
def bJ.refl:bJ H H:=λ_ _ h=>h
def bJ.trans(x:bJ H H')(y:bJ H' nG):bJ H nG:=λa o h=>y a o (x a o h)
def bJ.new{p:Addr}{o:HO}(hp:H p=none):bJ H (upd H p o):=λa u h=>by rw[bW (xK h hp)];exact h
def bJ.ext(g:bJ H H'):Ext U H U H':=⟨⟨[],by simp,by simp⟩,λ_ h=>h,λ_ h=>.inl h,λa o h _ _=>g a o h,λa o h=>⟨o,g a o h⟩⟩
def lF.grow{a:Addr}{o:SO}(g:bJ H H')(hz:∀a∈U.l,U.z a)(h:lF K cA U H a o):lF K cA U H' a o:=h.map (λu _=>g _ u) λ_ _ r=>r.mono g.ext hz
def aD.grow(g:bJ H H')(h:aD K cA U H s):aD K cA U H' s:=
 ⟨h.len,λn o a e1 e2=>(h.obj n o a e1 e2).grow g h.lz,h.uniq,h.lz,λa z=>let ⟨o,e⟩:=h.zt a z;⟨o,g _ _ e⟩⟩
def aD.nz(h:aD K cA U H s){p:Addr}(hp:H p=none):¬U.z p:=λz=>by obtain⟨o,e⟩:=h.zt p z;rw[hp] at e;cases e
noncomputable def Ph.add(U:Ph)(p:Addr):Ph:=⟨λa=>U.z a\/a=p,U.l++[p]⟩
def Ext.add{p:Addr}{o:HO}(hp:H p=none):Ext U H (U.add p) (upd H p o):=
 ⟨⟨[p],rfl,by simpa using hp⟩,λ_ h=>.inl h,λa h=>h.imp id λe=>by rw[e];exact hp,λa u h _ _=>bJ.new hp a u h,λa u h=>⟨u,bJ.new hp a u h⟩⟩
theorem aD.Kl{p:Addr}{so:SO}{ho:HO}(h:aD K cA U H s)(hp:H p=none)(hr:lF K cA (U.add p) (upd H p ho) p so):aD K cA (U.add p) (upd H p ho) (s++[so]):=by
 have pn:p∉U.l:=λz=>h.nz hp (h.lz p z);refine⟨by show (U.l++[p]).length=_;rw[pL,pL,h.len];rfl,λn o a e1 e2=>?_,?_,λa ha=>?_,λa ha=>?_⟩
 ·have e2:(U.l++[p])[n]?=some a:=e2;by_cases hn:n<s.length
  ·rw[pK hn] at e1;rw[pK (by rw[h.len];exact hn)] at e2;exact(h.obj n o a e1 e2).map (λu _=>bJ.new hp _ u) λ_ _ r=>r.mono (Ext.add hp) h.lz
  ·have hl:n=s.length:=by
    have z:=(eG.mp e1).1;rw[pL] at z;simp at z
    lia
   subst hl;rw[pZ (cj _)] at e1;rw[pZ (by rw[h.len];exact cj _)] at e2;simp at e1;simp[h.len] at e2;subst e1 e2;exact hr
 ·show (U.l++[p]).Nodup;rw[Nj];refine⟨h.uniq,by simp,λa ha b hb e=>?_⟩;simp at hb;subst hb e;exact pn ha
 ·have ha:a∈U.l++[p]:=ha;rcases nW.mp ha with z|z
  ·exact .inl (h.lz a z)
  ·simp at z;exact .inr z
 ·rcases ha with z|z
  ·obtain⟨o,e⟩:=h.zt a z;exact⟨o,bJ.new hp _ _ e⟩
  ·subst z;exact⟨_,iQ⟩
def aD.add{p:Addr}{xs:List D}{vs:List V}(h:aD K cA U H s)(hp:H p=none)(r:aC K cA U H xs vs):aD K cA (U.add p) (upd H p (.lst vs)) (s++[.lst xs]):=h.Kl hp ⟨vs,iQ,r.mono (Ext.add hp) h.lz⟩
theorem Ext.write{n:Nat}{p:Addr}{o:HO}(hp:U.l[n]?=some p)(hv:∃u,H p=some u):Ext U H U (upd H p o):=by
 have hm:p∈U.l:=fG hp;refine⟨⟨[],by simp,by simp⟩,λ_ h=>h,λ_ h=>.inl h,λa u h _ n=>by
  have ne:a≠p:=λe=>n (by rw[e];exact hm);rw[bW ne];exact h,λa u h=>?_⟩
 by_cases e:a=p
 ·subst e;exact⟨o,iQ⟩
 ·exact⟨u,by rw[bW e];exact h⟩
theorem aD.vg{n:Nat}{p:Addr}{so:SO}{ho:HO}(h:aD K cA U H s)(hl:n<s.length)(hp:U.l[n]?=some p)(hr:lF K cA U (upd H p ho) p so):aD K cA U (upd H p ho) (s.set n so):=by
 have hv:=h.zt p (h.lz p (fG hp));have x:Ext U H U (upd H p ho):=Ext.write hp hv;refine⟨by rw[qe];exact h.len,λm o a e1 e2=>?_,h.uniq,h.lz,λa ha=>?_⟩
 ·by_cases hm:n=m
  ·subst hm;rw[zu hl] at e1;cases e1;rw[hp] at e2;cases e2;exact hr
  ·rw[p8 hm] at e1;have ne:a≠p:=λy=>by
    subst y;exact hm ((Rg (eG.mp hp).1 h.uniq).mp (hp.trans e2.symm))
   exact(h.obj m o a e1 e2).map (λ_ _ q=>by rw[bW ne];exact q) λ_ _ r=>r.mono x h.lz
 ·obtain⟨o,e⟩:=h.zt a ha;obtain⟨o',e'⟩:=x.stay a o e;exact⟨o',e'⟩
theorem aD.write{n:Nat}{p:Addr}{xs ys:List D}{us:List V}(h:aD K cA U H s)(hn:s[n]?=some (.lst xs))(hp:U.l[n]?=some p)(r:aC K cA U H ys us):aD K cA U (upd H p (.lst us)) (s.set n (.lst ys)):=
 h.vg (eG.mp hn).1 hp ⟨us,iQ,r.mono (Ext.write hp (h.zt p (h.lz p (fG hp)))) h.lz⟩
theorem aZ.set{i:Nat}{d:Xv}{v:V}(hL:aZ K cA U H Z J)(r:aW K cA U H d v):aZ K cA U H (Z.set i (some v)) (J.set i (some d)):=by
 refine⟨by rw[qe,qe];exact hL.1,λj e h=>?_⟩;by_cases xT:i=j
 ·subst xT;by_cases hl:i<J.length
  ·rw[zu hl] at h;cases h;exact⟨v,by rw[zu (by rw[hL.1];exact hl)],r⟩
  ·rw[List.getElem?_eq_none (by rw[qe];lia)] at h;cases h
 ·rw[p8 xT] at h;obtain⟨u,a,b⟩:=hL.2 j e h;exact⟨u,by rw[p8 xT];exact a,b⟩
def TupAt.jC{a:Addr}{vs:List V}(h:TupAt K U H a vs):gw K H a vs:=by
 rcases h with ⟨h,_⟩|(h|h)
 ·exact .inl h
 ·rcases h with h|⟨o,h⟩<;>cases h
 ·exact .inr h
def LstAt.tW{a:Addr}{vs:List V}(h:LstAt K U H a vs):cY K H a vs:=by
 rcases h with ⟨h,_⟩|(h|h)
 ·exact .inl h
 ·rcases h with h|⟨o,h⟩<;>cases h
 ·exact .inr h
def TupAt.new{p:Addr}{vs:List V}(hz:¬U.z p):TupAt K U (upd H p (.tup vs)) p vs:=.inl ⟨.inl iQ,hz⟩
def LstAt.new{p:Addr}{vs:List V}(hz:¬U.z p):LstAt K U (upd H p (.lst vs)) p vs:=.inl ⟨.inl iQ,hz⟩
end
end Mi
namespace Mi
open PySem PySem.Spec PyProof.Rows L2
def un{α β γ:Type}{A B C:α->β->γ->Prop}{R:Prop}(h:∃a b c,A a b c/\B a b c/\C a b c)(f:∀a b c,A a b c->B a b c->C a b c->R):R:=by
 obtain⟨a,b,c,x,y,z⟩:=h;exact f a b c x y z
section
variable (K:W.Frag)(cA:Cl)
def Run{α:Type}(m:M α)(U:Ph)(H:Hp)(s:S)(P:α->S->Ph->Hp->Prop)(Ee:Nat->List D->S->Ph->Hp->Prop):Prop:=
 match m s with
 |some (.ok a,s')=>∀U' H',Ext U H U' H'->aD K cA U' H' s'->P a s' U' H'
 |some (.er c f,s')=>∀U' H',Ext U H U' H'->aD K cA U' H' s'->Ee c f s' U' H'
 |none=>False
def k_(U:Ph)(H:Hp)(c:Nat)(fs:List D)(dx:Option Addr):Prop:=
 (cA.f c=[]/\fs=[]/\dx=none)\/∃d vs,dx=some d/\¬U.z d/\H d=some (.xd ((cA.f c).zip vs))/\(cA.f c).length=vs.length/\aC K cA U H fs vs
def eX(EX:XS)(Z:L2.St):Nat->List D->S->Ph->Hp->Prop:=λc fs _ U' H'=>∀dx,k_ K cA U' H' c fs dx->EX Z (.ref (cA.a c)) dx H'
def tE(EX:XS)(m:Vs->M Xv):TE:=λZ H Q=>∃U J s,aZ K cA U H Z J/\aD K cA U H s/\Run K cA (m J) U H s (λd _ U' H'=>∀v,aW K cA U' H' d v->Q v H') (eX K cA EX Z)
def Ub(EX:XS)(m:Vs->M (List Xv)):TA:=λZ H Q=>∃U J s,aZ K cA U H Z J/\aD K cA U H s/\Run K cA (m J) U H s (λd _ U' H'=>∀v,aR K cA U' H' d v->Q v H') (eX K cA EX Z)
def qM(EX:XS)(m:Vs->M Bool):TT:=λZ H Q=>∃U J s,aZ K cA U H Z J/\aD K cA U H s/\Run K cA (m J) U H s (λd _ U' H'=>Q d H') (eX K cA EX Z)
def Rv(U:Ph)(H:Hp)(d:D)(v:V):Prop:=match d with
 |.fl xs=>∃a vs,v=.ref a/\cY K H a vs/\aC K cA U H xs vs
 |d=>Rep K cA U H d v
inductive yD (U:Ph) (H:Hp):List D->List V->Prop where
 |nil:yD U H [] []
 |cons {d:D} {v:V} {ds:List D} {vs:List V} (h:Rv K cA U H d v) (r:yD U H ds vs):yD U H (d::ds) (v::vs)
def bM(U:Ph)(H:Hp)(o:Option Rz)(Q:VK):Prop:=match o with
 |none=>False
 |some (.dat d)=>∀H' v,bJ H H'->Rep K cA U H' d v->Q v H'
 |some (.nw xs)=>∀p vs,H p=none->aC K cA U H xs vs->Q (.ref p) (upd H p (.lst vs))
structure Zt(U:Ph)(H:Hp):Prop where
 lz:∀a∈U.l,U.z a
 zt:∀a,U.z a->∃o,H a=some o
def bK(p:Pr)(r:List V->Hp->VK->Prop):Prop:=∀(U:Ph) (H:Hp) (ds:List D) (vs:List V) (Q:VK),Zt U H->yD K cA U H ds vs->bM K cA U H (prim p ds) Q->r vs H Q
end
section
variable {K:W.Frag}{cA:Cl}{U U':Ph}{H H':Hp}{s:S}{Z:L2.St}{J:Vs}{EX:XS}
def aD.zs(h:aD K cA U H s):Zt U H:=⟨h.lz,h.zt⟩
def Zt.nz(h:Zt U H)(hp:H p=none):¬U.z p:=λz=>by obtain⟨o,e⟩:=h.zt p z;rw[hp] at e;cases e
theorem Rep.rv{d:D}{v:V}(h:Rep K cA U H d v):Rv K cA U H d v:=by
 cases h with
 |fl h r=>exact⟨_,_,rfl,h.tW,r⟩
 |non=>exact .non
 |bl b=>exact .bl b
 |int b=>exact .int b
 |str b=>exact .str b
 |tup h r=>exact .tup h r
 |fd h n=>exact .fd h n
 |exc h r=>exact .exc h r
 |ob h r=>exact .ob h r
 |any v=>exact .any v
theorem Run.bd{α β:Type}{m:M α}{k:α->M β}{P:β->S->Ph->Hp->Prop}{Ee:Nat->List D->S->Ph->Hp->Prop}(h:Run K cA (M.bd m k) U H s P Ee):Run K cA m U H s (λa s1 U1 H1=>Ext U H U1 H1/\aD K cA U1 H1 s1/\Run K cA (k a) U1 H1 s1 P Ee) Ee:=by
 unfold Run M.bd at *;cases e:m s with
 |none=>rw[e] at h;exact h
 |some r=>
  obtain⟨r,s1⟩:=r;rw[e] at h;cases r with
  |er c f=>exact h
  |ok a=>
   intro U1 H1 x1 r1;refine⟨x1,r1,?_⟩;dsimp only at h ⊢;cases e2:k a s1 with
   |none=>rw[e2] at h;exact h
   |some q=>
    obtain⟨q,s2⟩:=q;rw[e2] at h;cases q with
    |ok b=>exact λU2 H2 x2 r2=>h U2 H2 (x1.trans x2) r2
    |er c f=>exact λU2 H2 x2 r2=>h U2 H2 (x1.trans x2) r2
theorem Run.imp{α:Type}{m:M α}{P P':α->S->Ph->Hp->Prop}{Ee:Nat->List D->S->Ph->Hp->Prop}(h:Run K cA m U H s P Ee)(f:∀a s' U' H',P a s' U' H'->P' a s' U' H'):Run K cA m U H s P' Ee:=by
 unfold Run at *;split at h
 ·exact λU' H' x r=>f _ _ _ _ (h U' H' x r)
 ·exact h
 ·exact h
def Run.ext(x:Ext U H U' H')(h:Run K cA m U H s P Ee):Run K cA m U' H' s P Ee:=by
 unfold Run at *;split at h
 ·exact λU2 H2 y r=>h U2 H2 (x.trans y) r
 ·exact λU2 H2 y r=>h U2 H2 (x.trans y) r
 ·exact h.elim
def Run.bN{α:Type}{a:α}{P:α->S->Ph->Hp->Prop}{Ee:Nat->List D->S->Ph->Hp->Prop}(r:aD K cA U H s)(h:Run K cA (M.ret a) U H s P Ee):P a s U H:=h U H Ext.refl r
theorem Run.opt{α:Type}{o:Option α}{P:α->S->Ph->Hp->Prop}{Ee:Nat->List D->S->Ph->Hp->Prop}(r:aD K cA U H s)(h:Run K cA (M.opt o) U H s P Ee):∃a,o=some a/\P a s U H:=by
 cases o with
 |none=>exact h.elim
 |some a=>exact⟨a,rfl,h U H Ext.refl r⟩
def Run.nH(h:Run K cA (M.bd (M.opt o) k) U H s P Ee):∃a,o=some a/\Run K cA (k a) U H s P Ee:=by
 cases o with
 |none=>exact h.elim
 |some a=>exact⟨a,rfl,h⟩
theorem Km{β:Type}{x:Xv}{v:V}{k:Bool->M β}{P:β->S->Ph->Hp->Prop}{Ee:Nat->List D->S->Ph->Hp->Prop}(r:aW K cA U H x v)(h:Run K cA (M.bd (bool x) k) U H s P Ee):∃b,x=.d (.bl b)/\v=.bl b/\Run K cA (k b) U H s P Ee:=by
 cases r with
 |l _=>exact h.elim
 |d r=>cases r with
  |bl b=>exact⟨b,rfl,rfl,h⟩
  |_=>exact h.elim
theorem Dq(r:aW K cA U H x v)(h:Run K cA (M.bd (int x) k) U H s P Ee):∃b,x=.d (.int b)/\v=.int b/\Run K cA (k b) U H s P Ee:=by
 cases r with
 |l _=>exact h.elim
 |d r=>cases r with
  |int b=>exact⟨b,rfl,rfl,h⟩
  |_=>exact h.elim
def OD(r:aW K cA U H x v)(h:Run K cA (M.bd (dat x) k) U H s P Ee):∃d,x=.d d/\Rep K cA U H d v/\Run K cA (k d) U H s P Ee:=by
 cases r with
 |l _=>exact h.elim
 |d r=>exact⟨_,rfl,r,h⟩
theorem Uc:∀{xs:List Xv} {vs:List V} {k:List D->M β} {P:β->S->Ph->Hp->Prop} {Ee:Nat->List D->S->Ph->Hp->Prop},aR K cA U H xs vs->Run K cA (M.bd (cL xs) k) U H s P Ee->∃ds,xs=ds.map .d/\aC K cA U H ds vs/\Run K cA (k ds) U H s P Ee:=by
 intro xs
 induction xs with
 |nil=>intro vs k P Ee r h;cases r;exact⟨[],rfl,.nil,h⟩
 |cons x xs ih=>
  intro vs k P Ee r h;cases r with
  |cons a r=>
   cases a with
   |l _=>exact h.elim
   |@d y v a=>
    have h2:Run K cA (M.bd (cL xs) λds=>k (y::ds)) U H s P Ee:=by
     unfold Run M.bd cL dat at h;unfold Run M.bd;simp only[M.bd,M.ret] at h;cases e:cL xs s with
     |none=>simp only[e] at h
     |some q=>
      obtain⟨q,s1⟩:=q;simp only[e] at h;cases q with
      |ok ds=>exact h
      |er c f=>exact h
    obtain⟨ds,e,rs,h3⟩:=ih r h2;exact⟨y::ds,by rw[e];rfl,.cons a rs,h3⟩
theorem OJ(hS:aD K cA U H s)(r:aW K cA U H x v)(h:Run K cA (M.bd (rd x) k) U H s P Ee):∃d,Rv K cA U H d v/\Run K cA (k d) U H s P Ee:=by
 cases r with
 |d r=>exact⟨_,r.rv,h⟩
 |@l n a hl=>
  unfold Run M.bd rd at h;dsimp only at h;cases e:s[n]? with
  |none=>rw[e] at h;exact h.elim
  |some o=>
   rw[e] at h;cases o with
   |lst xs=>
    obtain⟨vs,q1,q2⟩:=hS.obj n _ _ e hl;exact⟨.fl xs,⟨a,vs,rfl,cY.of q1,q2⟩,h⟩
   |_=>exact h.elim
def gP{α β γ:Type}(m:M α)(f:α->M β)(g:β->M γ):M.bd (M.bd m f) g=M.bd m λx=>M.bd (f x) g:=by
 funext s
 unfold M.bd;cases m s with
 |none=>rfl
 |some r=>
  obtain⟨r,s1⟩:=r;cases r<;>rfl
theorem vh{β:Type}:∀{xs:List Xv} {vs:List V} {k:List D->M β} {P:β->S->Ph->Hp->Prop} {Ee:Nat->List D->S->Ph->Hp->Prop},aD K cA U H s->aR K cA U H xs vs->Run K cA (M.bd (g8 xs) k) U H s P Ee->∃ds,yD K cA U H ds vs/\Run K cA (k ds) U H s P Ee:=by
 intro xs
 induction xs with
 |nil=>intro vs k P Ee hS r h;cases r;exact⟨[],.nil,h⟩
 |cons x xs ih=>
  intro vs k P Ee hS r h;cases r with
  |cons a r=>
   have h2:Run K cA (M.bd (rd x) λd=>M.bd (g8 xs) λds=>k (d::ds)) U H s P Ee:=by
    have e:M.bd (g8 (x::xs)) k=M.bd (rd x) λd=>M.bd (g8 xs) λds=>k (d::ds):=by
     show M.bd (M.bd (rd x) λd=>M.bd (g8 xs) λds=>M.ret (d::ds)) k=_;rw[gP]
     congr 1
     funext d
     rw[gP];rfl
    rw[e] at h;exact h
   obtain⟨d,rd,h3⟩:=OJ hS a h2;obtain⟨ds,rs,h4⟩:=ih hS r h3;exact⟨d::ds,.cons rd rs,h4⟩
theorem uh{fz:Bool}{o:Option Rz}{Q:VK}{Ee:Nat->List D->S->Ph->Hp->Prop}(hS:aD K cA U H s)(h:Run K cA (cH fz o) U H s (λx _ U' H'=>∀v,aW K cA U' H' x v->Q v H') Ee):bM K cA U H o Q:=by
 cases o with
 |none=>exact h.elim
 |some z=>
  cases z with
  |dat d=>exact λH' v g r=>h U H' g.ext (hS.grow g) v (.d r)
  |nw xs=>
   intro p vs hp r;cases fz with
   |true=>exact h U _ (bJ.new hp).ext (hS.grow (bJ.new hp)) _ (.d (.fl (LstAt.new (hS.nz hp)) (r.mono (bJ.new hp).ext hS.lz)))
   |false=>exact h (U.add p) _ (Ext.add hp) (hS.add hp r) _ (.l (by show (U.l++[p])[s.length]?=_;rw[<-hS.len];simp))
theorem zev{fz:Bool}{xs:List D}{Q:VK}{Ee:Nat->List D->S->Ph->Hp->Prop}(hS:aD K cA U H s)(h:Run K cA (newL fz xs) U H s (λx _ U' H'=>∀v,aW K cA U' H' x v->Q v H') Ee):∀p vs,H p=none->aC K cA U H xs vs->Q (.ref p) (upd H p (.lst vs)):=
 uh (o:=some (.nw xs)) hS h
theorem bw{β:Type}{ma:Vs->M Xv}{k:Xv->M β}{P:β->S->Ph->Hp->Prop}(hL:aZ K cA U H Z J)(hS:aD K cA U H s)(h:Run K cA (M.bd (ma J) k) U H s P (eX K cA EX Z)){Q:VK}
  (f:∀x H1 U1 d s1,Ext U H U1 H1->aZ K cA U1 H1 Z J->aD K cA U1 H1 s1->aW K cA U1 H1 d x->Run K cA (k d) U1 H1 s1 P (eX K cA EX Z)->Q x H1):tE K cA EX ma Z H Q:=
 ⟨U,J,s,hL,hS,h.bd.imp λd s1 U1 H1 ⟨x1,r1,h1⟩ v rv=>f v H1 U1 d s1 x1 (hL.mono x1 hS.lz) r1 rv h1⟩
theorem qN{β:Type}{ma:Vs->M (List Xv)}{k:List Xv->M β}{P:β->S->Ph->Hp->Prop}(hL:aZ K cA U H Z J)(hS:aD K cA U H s)(h:Run K cA (M.bd (ma J) k) U H s P (eX K cA EX Z)){Q:List V->Hp->Prop}
  (f:∀x H1 U1 d s1,Ext U H U1 H1->aZ K cA U1 H1 Z J->aD K cA U1 H1 s1->aR K cA U1 H1 d x->Run K cA (k d) U1 H1 s1 P (eX K cA EX Z)->Q x H1):Ub K cA EX ma Z H Q:=
 ⟨U,J,s,hL,hS,h.bd.imp λd s1 U1 H1 ⟨x1,r1,h1⟩ v rv=>f v H1 U1 d s1 x1 (hL.mono x1 hS.lz) r1 rv h1⟩
theorem yE(hL:aZ K cA U H Z J)(hS:aD K cA U H s)(h:Run K cA (M.bd (ma J) k) U H s P (eX K cA EX Z))
  (f:∀b H1 U1 s1,Ext U H U1 H1->aZ K cA U1 H1 Z J->aD K cA U1 H1 s1->Run K cA (k b) U1 H1 s1 P (eX K cA EX Z)->Q b H1):qM K cA EX ma Z H Q:=
 ⟨U,J,s,hL,hS,h.bd.imp λd s1 U1 H1 ⟨x1,r1,h1⟩=>f d H1 U1 s1 x1 (hL.mono x1 hS.lz) r1 h1⟩
end
section
variable (X:Cx)(cA:Cl)(aq:Nat->Nat->Bool)(aj:Bool)(F:Fn)(EX:XS)
def SE(e:Expr)(m:E):Prop:=PE X e (tE X.K cA EX (ev aq aj F m))
def SA(es:List Expr)(m:Es):Prop:=PA X es (Ub X.K cA EX (evs aq aj F m))
def ST(e:Expr)(m:E):Prop:=PT X e (qM X.K cA EX (λJ=>M.bd (ev aq aj F m J) bool))
def SW(e:Expr)(m:E):Prop:=PW X e (qM X.K cA EX (λJ=>M.bd (ev aq aj F m J) bool))
end
section
variable {X:Cx}{cA:Cl}{aq:Nat->Nat->Bool}{aj:Bool}{F:Fn}{EX:XS}{a b c d e:Expr}{A B C Dd E':E}{pos:Pos}{es:List Expr}{Xs:Es}{fz:Bool}{p:Pr}
def PE.weak{t t':TE}(h:PE X e t)(f:∀Z H Q,t' Z H Q->t Z H Q):PE X e t':=λao s Z H Q I q=>h ao s Z H Q I (f Z H Q q)
def PT.weak{t t':TT}(h:PT X e t)(f:∀Z H Q,t' Z H Q->t Z H Q):PT X e t':=λao s Z H Q I q=>h ao s Z H Q I (f Z H Q q)
def PW.weak{t t':TT}(h:PW X e t)(f:∀Z H Q,t' Z H Q->t Z H Q):PW X e t':=λwh ao s Z H Q I q=>h wh ao s Z H Q I (f Z H Q q)
def PA.weak{t t':TA}(h:PA X es t)(f:∀Z H Q,t' Z H Q->t Z H Q):PA X es t':=λp ao s Z H Q I q=>h p ao s Z H Q I (f Z H Q q)
def zlI{i j p}:SE X cA aq aj F EX (.Constant (.int i) j p) (.c (.int i)):=PE.weak YK λZ H Q hh=>un hh λU J s hL hS h=>h.bN hS _ (.d (.int i))
def zot{i j p}:SE X cA aq aj F EX (.Constant (.bool i) j p) (.c (.bl i)):=PE.weak zov λZ H Q hh=>un hh λU J s hL hS h=>h.bN hS _ (.d (.bl i))
def zlo{j p}:SE X cA aq aj F EX (.Constant .none j p) (.c .non):=PE.weak zl5 λZ H Q hh=>un hh λU J s hL hS h=>h.bN hS _ (.d .non)
def O1{α:Type}{o:Option (Option α)}{x:α}(h:o.join=some x):o=some (some x):=by
 cases o with
 |none=>cases h
 |some y=>cases y with
  |none=>cases h
  |some z=>cases h;rfl
theorem zo8(i:Nat){x:Str}(hN:X.N[i]?=some x:=by rfl)(hv:NP X.env.scope x:=by first|exact Or.inl rfl|exact Or.inr (Or.inl rfl)|exact Or.inr (Or.inr rfl))(hd:(x==("__debug__" : Str))=false:=by decide)
  (iH:(x==("__classdict__" : Str))=false:=by decide):SE X cA aq aj F EX (.Name x pos) (.v i):=PE.weak (YJ hN hv hd iH) λZ H Q hh=>un hh λU J s hL hS h=>by
 obtain⟨dd,e1,q⟩:=Run.opt hS h;obtain⟨v,q1,q2⟩:=hL.2 i dd (O1 e1);exact⟨v,q1,q v q2⟩
theorem zkB{x:Str}{i:Int}{t:Tok}(hg:Gl X x)(hm:X.mg x=some (.int i t))(hd:(x==("__debug__" : Str))=false:=by decide):SE X cA aq aj F EX (.Name x pos) (.c (.int i)):=PE.weak (zkd (v:=.int i) hg hm ⟨t,rfl⟩ hd) λZ H Q hh=>un hh λU J s hL hS h=>h.bN hS _ (.d (.int i))
def znd:SA X cA aq aj F EX [] .nil:=PA.weak xX λZ H Q hh=>un hh λU J s hL hS h=>h.bN hS _ .nil
theorem zkf(ha:SE X cA aq aj F EX a A)(hr:SA X cA aq aj F EX es Xs)(hs:starEach (a::es) X.env=(false,eval a X.env)::starEach es X.env:=by rfl):SA X cA aq aj F EX (a::es) (.cons A Xs):=PA.weak (sY ha hr hs) λZ H Q hh=>un hh λU J s hL hS h=>by
 refine bw hL hS h λx H1 U1 d1 s1 x1 hL1 aJ r1 h1=>qN hL1 aJ h1 λys H2 U2 d2 s2 x2 hL2 aU r2 h2=>h2.bN aU _ (.cons (r1.mono x2 aJ.lz) r2)
theorem O2{U U1 U2:Ph}{H1 H2:Hp}{s1 s2:S}{d1 d2:Xv}{x y:V}{Q:VK}{Ee:Nat->List D->S->Ph->Hp->Prop}(x2:Ext U1 H1 U2 H2)(aJ:aD X.K cA U1 H1 s1)(aU:aD X.K cA U2 H2 s2)(r1:aW X.K cA U1 H1 d1 x)(r2:aW X.K cA U2 H2 d2 y)
  (h:Run X.K cA (M.bd (g8 [d1,d2]) λds=>cH fz (prim p ds)) U2 H2 s2 (λx _ U' H'=>∀v,aW X.K cA U' H' x v->Q v H') Ee) {r:List V->Hp->VK->Prop} (hp:bK X.K cA p r):r [x,y] H2 Q:=by
 obtain⟨ds,rs,h2⟩:=vh aU (.cons (r1.mono x2 aJ.lz) (.cons r2 .nil)) h;exact hp U2 H2 ds _ Q aU.zs rs (uh aU h2)
noncomputable def r2(r:R2):List V->Hp->VK->Prop:=λvs H Q=>∃x y,vs=[x,y]/\r x y H Q
def GC{r:R2}{x y:V}{H:Hp}{Q:VK}(h:r2 r [x,y] H Q):r x y H Q:=by
 obtain⟨_,_,e,q⟩:=h;cases e;exact q
theorem zlH{op:Operator}{r:R2}(ho:fV X (binaryOp op) r)(hp:bK X.K cA p (r2 r))(ha:SE X cA aq aj F EX a A)(hb:SE X cA aq aj F EX b B):SE X cA aq aj F EX (.BinOp a op b pos) (.pr fz p (.cons A (.cons B .nil))):=PE.weak (zn1 ho ha hb) λZ H Q hh=>un hh λU J s hL hS h=>by
 have h:Run X.K cA (M.bd (M.bd (ev aq aj F A J) λx=>M.bd (M.bd (ev aq aj F B J) λy=>M.bd (M.ret []) λz=>M.ret (y::z)) λys=>M.ret (x::ys)) λvs=>M.bd (g8 vs) λds=>cH fz (prim p ds)) U H s _ _:=h;simp only[gP] at h;refine bw hL hS h λx H1 U1 d1 s1 x1 hL1 aJ r1 h1=>bw hL1 aJ h1 λy H2 U2 d2 s2 x2 hL2 aU r2' h2=>?_;exact GC (O2 (fz:=fz) (U:=U) x2 aJ aU r1 r2' h2 hp)
theorem zlu{op:CmpOp}{r:R2}(ho:fV X (compareOp op) r)(hp:bK X.K cA p (r2 r))(ha:SE X cA aq aj F EX a A)(hb:SE X cA aq aj F EX b B)(hm:behindInMarks op b=false):SE X cA aq aj F EX (.Compare a [op] [b] pos) (.pr true p (.cons A (.cons B .nil))):=PE.weak (zkz ho ha hb hm) λZ H Q hh=>un hh λU J s hL hS h=>by
 have h:Run X.K cA (M.bd (M.bd (ev aq aj F A J) λx=>M.bd (M.bd (ev aq aj F B J) λy=>M.bd (M.ret []) λz=>M.ret (y::z)) λys=>M.ret (x::ys)) λvs=>M.bd (g8 vs) λds=>cH true (prim p ds)) U H s _ _:=h;simp only[gP] at h;refine bw hL hS h λx H1 U1 d1 s1 x1 hL1 aJ r1 h1=>bw hL1 aJ h1 λy H2 U2 d2 s2 x2 hL2 aU r2' h2=>?_;exact GC (O2 (fz:=true) (U:=U) x2 aJ aU r1 r2' h2 hp)
def iT{A B:Prop}(h:A):if true=true then A else B:=by rw[if_pos rfl];exact h
def iF{A B:Prop}(h:B):if false=true then A else B:=by rw[if_neg HB];exact h
theorem zmA{op:CmpOp}{r:R2}(ho:fV X (compareOp op) r)(hp:bK X.K cA p (r2 r))(ha:SE X cA aq aj F EX a A)(hb:SE X cA aq aj F EX b B)(hm:behindInMarks op b=false):ST X cA aq aj F EX (.Compare a [op] [b] pos) (.pr true p (.cons A (.cons B .nil))):=PT.weak (zjP ho ha hb hm) λZ H Q hh=>un hh λU J s hL hS h=>by
 have h:Run X.K cA (M.bd (M.bd (M.bd (ev aq aj F A J) λx=>M.bd (M.bd (ev aq aj F B J) λy=>M.bd (M.ret []) λz=>M.ret (y::z)) λys=>M.ret (x::ys)) λvs=>M.bd (g8 vs) λds=>cH true (prim p ds)) bool) U H s _ _:=h;simp only[gP] at h;refine bw hL hS h λx H1 U1 d1 s1 x1 hL1 aJ r1 h1=>bw hL1 aJ h1 λy H2 U2 d2 s2 x2 hL2 aU r2' h2=>?_;obtain⟨ds,rs,h3⟩:=vh aU (.cons (r1.mono x2 aJ.lz) (.cons r2' .nil)) h2;refine GC (hp U2 H2 ds _ _ aU.zs rs (uh (Ee:=eX X.K cA EX Z) aU (h3.bd.imp λt s3 U3 H3 ⟨x3,gQ,h4⟩ v rv=>?_)));cases rv with
 |l _=>exact h4.elim
 |d rv=>cases rv with
  |bl k=>exact⟨k,rfl,h4 U3 H3 Ext.refl gQ⟩
  |_=>exact h4.elim
theorem zng{op op':CmpOp}{r r':R2}{q:Pr}(ho:fV X (compareOp op) r)(hp:bK X.K cA p (r2 r))(ql:fV X (compareOp op') r')(hp':bK X.K cA q (r2 r'))(ha:SE X cA aq aj F EX a A)(hb:SE X cA aq aj F EX b B)(hc:SE X cA aq aj F EX c C)(hm:lastMarks [op,op'] [b,c]=false:=by with_unfolding_all rfl) :
  SE X cA aq aj F EX (.Compare a [op,op'] [b,c] pos) (.zV p q A B C):=PE.weak (zhu ho ql ha hb hc hm) λZ H Q hh=>un hh λU J s hL hS h=>by
 refine bw hL hS h λx H1 U1 d1 s1 x1 hL1 aJ r1 h1=>bw hL1 aJ h1 λy H2 U2 d2 s2 x2 hL2 aU r2' h2=>?_;obtain⟨ds,rs,h3⟩:=vh aU (.cons (r1.mono x2 aJ.lz) (.cons r2' .nil)) h2;refine GC (hp U2 H2 ds _ _ aU.zs rs (uh (Ee:=eX X.K cA EX Z) aU (h3.bd.imp λt s3 U3 H3 ⟨x3,gQ,h4⟩ v rv=>?_)));obtain⟨k,_,e,h5⟩:=Km rv h4;refine⟨k,e,?_⟩;cases k with
 |false=>exact iF (h5.bN gQ _ (.d (.bl _)))
 |true=>
  have pq:=hL2.mono x3 aU.lz;refine iT (bw pq gQ h5 λz H4 U4 d4 s4 x4 hL4 rW r4 h6=>?_);exact GC (O2 (fz:=true) (U:=U) x4 gQ rW (r2'.mono x3 aU.lz) r4 h6 hp')
theorem zlS(ha:SE X cA aq aj F EX a A):SE X cA aq aj F EX (.UnaryOp .Not a pos) (.not A):=PE.weak (znp ha) λZ H Q hh=>un hh λU J s hL hS h=>by
 refine bw hL hS h λx H1 U1 d1 s1 x1 hL1 aJ r1 h1=>?_;obtain⟨i,_,e,h3⟩:=Km r1 h1;exact⟨i,e,h3.bN aJ _ (.d (.bl _))⟩
def zk8{op}(ha:SE X cA aq aj F EX a A):SE X cA aq aj F EX (.BoolOp op [a] pos) A:=zlw ha
theorem zmg{rest:List Expr}(ha:SE X cA aq aj F EX a A)(hb:SE X cA aq aj F EX (.BoolOp .And (b::rest) pos) B):SE X cA aq aj F EX (.BoolOp .And (a::b::rest) pos) (.and A B):=PE.weak (zmZ ha hb) λZ H Q hh=>un hh λU J s hL hS h=>by
 refine bw hL hS h λx H1 U1 d1 s1 x1 hL1 aJ r1 h1=>?_;obtain⟨i,_,e,h3⟩:=Km r1 h1;refine⟨i,e,?_⟩;cases i with
 |true=>exact iT ⟨U1,J,s1,hL1,aJ,h3⟩
 |false=>exact iF (h3.bN aJ _ (.d (.bl _)))
theorem zn2{rest:List Expr}(ha:SE X cA aq aj F EX a A)(hb:SE X cA aq aj F EX (.BoolOp .Or (b::rest) pos) B):SE X cA aq aj F EX (.BoolOp .Or (a::b::rest) pos) (.or A B):=PE.weak (znO ha hb) λZ H Q hh=>un hh λU J s hL hS h=>by
 refine bw hL hS h λx H1 U1 d1 s1 x1 hL1 aJ r1 h1=>?_;obtain⟨i,_,e,h3⟩:=Km r1 h1;refine⟨i,e,?_⟩;cases i with
 |true=>exact iT (h3.bN aJ _ (.d (.bl _)))
 |false=>exact iF ⟨U1,J,s1,hL1,aJ,h3⟩
end
section
variable {X:Cx}{cA:Cl}{aq:Nat->Nat->Bool}{aj:Bool}{F:Fn}{EX:XS}{a b c d e o:Expr}{A B C Dd E' O:E}{pos pp p2 apos:Pos}{es:List Expr}{Xs:Es}{fz:Bool}{p:Pr}{x:Str}
theorem zno(ha:SE X cA aq aj F EX a A)(he:∀whole,isTrue a X.env whole=(do let v <-whole;standAt a.pos;holding [v] (truthy v)):=by intro _;rfl):ST X cA aq aj F EX a A:=PT.weak (zk7 ha he) λZ H Q hh=>un hh λU J s hL hS h=>by
 refine bw hL hS h λx H1 U1 d1 s1 x1 hL1 aJ r1 h1=>?_;have h1:Run X.K cA (M.bd (bool d1) M.ret) U1 H1 s1 (λd _ U' H'=>Q d H') (eX X.K cA EX Z):=by
  cases d1 with
  |l n=>exact h1
  |d v=>cases v<;>exact h1
 obtain⟨k,_,e,q⟩:=Km r1 h1;exact⟨k,e,q.bN aJ⟩
def zh5{m:M Xv}{g:Bool->Bool}:M.bd (M.bd m λx=>M.bd (bool x) λk=>M.ret (Xv.d (.bl (g k)))) bool=M.bd (M.bd m bool) λk=>M.ret (g k):=by
 rw[gP,gP]
 congr 1
 funext x
 rw[gP];rfl
theorem znh(ha:ST X cA aq aj F EX a A):ST X cA aq aj F EX (.UnaryOp .Not a pos) (.not A):=PT.weak (zmY ha) λZ H Q hh=>un hh λU J s hL hS h=>by
 have h:Run X.K cA (M.bd (M.bd (ev aq aj F A J) λx=>M.bd (bool x) λk=>M.ret (Xv.d (.bl (!k)))) bool) U H s _ _:=h;rw[zh5 (g:=λk=>!k)] at h;exact yE hL hS h λk H1 U1 s1 x1 hL1 aJ h1=>h1.bN aJ
def zko(ha:ST X cA aq aj F EX a A):SW X cA aq aj F EX (.BoolOp .And [a] pos) A:=zjW ha
def zmG(ha:ST X cA aq aj F EX a A):SW X cA aq aj F EX (.BoolOp .Or [a] pos) A:=zm5 ha
def zgC{m:M Xv}{k:Bool->M Xv}:M.bd (M.bd m λx=>M.bd (bool x) k) bool=M.bd (M.bd m bool) λb=>M.bd (k b) bool:=by
 rw[gP,gP]
 congr 1
 funext x
 rw[gP]
theorem zlA{rest:List Expr}(ha:ST X cA aq aj F EX a A)(hb:SW X cA aq aj F EX (.BoolOp .And (b::rest) pos) B):SW X cA aq aj F EX (.BoolOp .And (a::b::rest) pos) (.and A B):=PW.weak (zmd ha hb) λZ H Q hh=>un hh λU J s hL hS h=>by
 have h:Run X.K cA (M.bd (M.bd (ev aq aj F A J) λx=>M.bd (bool x) λk=>if k=true then ev aq aj F B J else M.ret (Xv.d (.bl false))) bool) U H s _ _:=h;rw[zgC] at h;refine yE hL hS h λk H1 U1 s1 x1 hL1 aJ h3=>?_;cases k with
 |true=>exact iT ⟨U1,J,s1,hL1,aJ,h3⟩
 |false=>exact iF (Run.bN aJ (a:=false) h3)
theorem znE{rest:List Expr}(ha:ST X cA aq aj F EX a A)(hb:SW X cA aq aj F EX (.BoolOp .Or (b::rest) pos) B):SW X cA aq aj F EX (.BoolOp .Or (a::b::rest) pos) (.or A B):=PW.weak (zoh ha hb) λZ H Q hh=>un hh λU J s hL hS h=>by
 have h:Run X.K cA (M.bd (M.bd (ev aq aj F A J) λx=>M.bd (bool x) λk=>if k=true then M.ret (Xv.d (.bl true)) else ev aq aj F B J) bool) U H s _ _:=h;rw[zgC] at h;refine yE hL hS h λk H1 U1 s1 x1 hL1 aJ h3=>?_;cases k with
 |true=>exact iT (Run.bN aJ (a:=true) h3)
 |false=>exact iF ⟨U1,J,s1,hL1,aJ,h3⟩
def zpq(h:SW X cA aq aj F EX a A):ST X cA aq aj F EX a A:=Kac h
def zjj:(M.bd m λx=>M.bd (bool x) k)=M.bd (M.bd m bool) k:=by rw[gP]
theorem zmH(hc:ST X cA aq aj F EX c C)(ha:SE X cA aq aj F EX a A)(hb:SE X cA aq aj F EX b B):SE X cA aq aj F EX (.IfExp c a b pos) (.ite C A B):=PE.weak (zig hc ha hb) λZ H Q hh=>un hh λU J s hL hS h=>by
 have h:Run X.K cA (M.bd (ev aq aj F C J) λx=>M.bd (bool x) λk=>if k=true then ev aq aj F A J else ev aq aj F B J) U H s _ _:=h;rw[zjj] at h;refine yE hL hS h λk H1 U1 s1 x1 hL1 aJ h3=>?_;cases k with
 |true=>exact iT ⟨U1,J,s1,hL1,aJ,h3⟩
 |false=>exact iF ⟨U1,J,s1,hL1,aJ,h3⟩
theorem zgA:∀(Xs:Es) (J:Vs) (s:S) (ds:List Xv) (s':S),evs aq aj F Xs J s=some (.ok ds,s')->ds.length=Es.len Xs
 |.nil,J,s,ds,s',h=>by cases h;rfl
 |.cons a r,J,s,ds,s',h=>by
  have h:M.bd (ev aq aj F a J) (λx=>M.bd (evs aq aj F r J) λxs=>M.ret (x::xs)) s=some (.ok ds,s'):=h;unfold M.bd at h;cases e1:ev aq aj F a J s with
  |none=>rw[e1] at h;cases h
  |some q=>
   obtain⟨q,s1⟩:=q;rw[e1] at h;cases q with
   |er c f=>cases h
   |ok d=>
    dsimp only at h;cases e2:evs aq aj F r J s1 with
    |none=>rw[e2] at h;cases h
    |some q=>
     obtain⟨q,s2⟩:=q;rw[e2] at h;cases q with
     |er c f=>cases h
     |ok ds'=>
      cases h;rw[iu,zgA r J s1 ds' _ e2];rfl
theorem Ko{β:Type}{K:W.Frag}{U:Ph}{H:Hp}{s:S}{Z:L2.St}{J:Vs}{k:List Xv->M β}{P:β->S->Ph->Hp->Prop}(hL:aZ K cA U H Z J)(hS:aD K cA U H s)(h:Run K cA (M.bd (evs aq aj F Xs J) k) U H s P (eX K cA EX Z)){Q:List V->Hp->Prop}
  (f:∀x H1 U1 d s1,d.length=Es.len Xs->Ext U H U1 H1->aZ K cA U1 H1 Z J->aD K cA U1 H1 s1->aR K cA U1 H1 d x->Run K cA (k d) U1 H1 s1 P (eX K cA EX Z)->Q x H1):Ub K cA EX (evs aq aj F Xs) Z H Q:=by
 refine⟨U,J,s,hL,hS,?_⟩;have h2:=h.bd;unfold Run at h2 ⊢;cases e:evs aq aj F Xs J s with
 |none=>rw[e] at h2;exact h2
 |some r=>
  obtain⟨r,s1⟩:=r;rw[e] at h2;cases r with
  |er c f=>exact h2
  |ok ds=>
   intro U1 H1 x1 r1 v rv;obtain⟨_,_,h3⟩:=h2 U1 H1 x1 r1;exact f v H1 U1 ds s1 (zgA Xs J s ds s1 e) x1 (hL.mono x1 hS.lz) r1 rv h3
theorem zmS{k}(ha:SA X cA aq aj F EX es Xs)(hz:Es.len Xs<=sizeLine):SE X cA aq aj F EX (.Tuple es k pos) (.tup Xs):=PE.weak (zl7 ha) λZ H Q hh=>un hh λU J s hL hS h=>by
 refine Ko hL hS h λvs H1 U1 xs s1 hl x1 hL1 aJ rv h1=>?_;obtain⟨ds,e,rs,h2⟩:=Uc rv h1;refine⟨by rw[<-rv.len,hl];exact hz,λp hp=>?_⟩;exact h2 U1 (upd H1 p (.tup vs)) (bJ.new hp).ext (aJ.grow (bJ.new hp)) _ (.d (.tup (TupAt.new (aJ.nz hp)) (rs.mono (bJ.new hp).ext aJ.lz)))
theorem zma(ha:SA X cA aq aj F EX es Xs)(hz:Es.len Xs<=sizeLine):SE X cA aq aj F EX (.List es pos) (.lst fz Xs):=PE.weak (znf ha) λZ H Q hh=>un hh λU J s hL hS h=>by
 refine Ko hL hS h λvs H1 U1 xs s1 hl x1 hL1 aJ rv h1=>?_;obtain⟨ds,e,rs,h2⟩:=Uc rv h1;exact⟨by rw[<-rv.len,hl];exact hz,λp hp=>zev aJ h2 p vs hp rs⟩
theorem yF{id:String}{r:List V->Hp->VK->Prop}(hc:cW X (.builtin id) r)(hp:bK X.K cA p r)
  (hg:Gl X x) (hm:X.mg x=none) (hv:bootBuiltins x=some (.builtin id)) (ha:SA X cA aq aj F EX (e::es) Xs) (hn:x≠"__name__":=by decide) (tD:(x==("__debug__" : Str))=false:=by decide)
  (he:starEach (e::es) X.env=(false,eval e X.env)::starEach es X.env:=by rfl) (hpl:(backTo pos (starEach es X.env)).any (·.1)=false:=by rfl):SE X cA aq aj F EX (.Call (.Name x pp) (e::es) [] pos) (.pr fz p Xs):=PE.weak (Zi hc hg hm hv ha hn tD he hpl) λZ H Q hh=>un hh λU J s hL hS h=>
 qN hL hS h λvs H1 U1 ds s1 x1 hL1 aJ r1 h1=>by
  obtain⟨ds,rs,h3⟩:=vh aJ r1 h1;exact hp U1 H1 ds _ _ aJ.zs rs (uh aJ h3)
theorem Ud{id:String}{r:List V->Hp->VK->Prop}(hc:cW X (.type id) r)(hp:bK X.K cA p r)
  (hg:Gl X x) (hm:X.mg x=none) (hv:bootBuiltins x=some (.type id)) (ha:SA X cA aq aj F EX (e::es) Xs) (hn:x≠"__name__":=by decide) (tD:(x==("__debug__" : Str))=false:=by decide)
  (he:starEach (e::es) X.env=(false,eval e X.env)::starEach es X.env:=by rfl) (hpl:(backTo pos (starEach es X.env)).any (·.1)=false:=by rfl):SE X cA aq aj F EX (.Call (.Name x pp) (e::es) [] pos) (.pr fz p Xs):=PE.weak (zgv hc hg hm hv ha hn tD he hpl) λZ H Q hh=>un hh λU J s hL hS h=>
 qN hL hS h λvs H1 U1 ds s1 x1 hL1 aJ r1 h1=>by
  obtain⟨ds,rs,h3⟩:=vh aJ r1 h1;exact hp U1 H1 ds _ _ aJ.zs rs (uh aJ h3)
theorem znV(hp:bK X.K cA p (r2 (Ss X.K)))(ha:SE X cA aq aj F EX a A)(hb:SE X cA aq aj F EX b B)(hs:rH b:=by intro _ _;rfl):SE X cA aq aj F EX (.Subscript a b pos) (.pr true p (.cons A (.cons B .nil))):=PE.weak (zol zm0 ha hb hs) λZ H Q hh=>un hh λU J s hL hS h=>by
 have h:Run X.K cA (M.bd (M.bd (ev aq aj F A J) λx=>M.bd (M.bd (ev aq aj F B J) λy=>M.bd (M.ret []) λz=>M.ret (y::z)) λys=>M.ret (x::ys)) λvs=>M.bd (g8 vs) λds=>cH true (prim p ds)) U H s _ _:=h;simp only[gP] at h;refine bw hL hS h λx H1 U1 d1 s1 x1 hL1 aJ r1 h1=>bw hL1 aJ h1 λy H2 U2 d2 s2 x2 hL2 aU r2' h2=>?_;exact GC (O2 (fz:=true) (U:=U) x2 aJ aU r1 r2' h2 hp)
theorem znZ(ho:Oa X (unaryOp op) r)(hp:bK X.K cA p (λvs H Q=>∃x,vs=[x]/\r x H Q))(ha:SE X cA aq aj F EX a A):SE X cA aq aj F EX (.UnaryOp op a pos) (.pr true p (.cons A .nil)):=PE.weak (Y6 ho ha) λZ H Q hh=>un hh λU J s hL hS h=>by
 have h:Run X.K cA (M.bd (M.bd (ev aq aj F A J) λx=>M.bd (M.ret []) λz=>M.ret (x::z)) λvs=>M.bd (g8 vs) λds=>cH true (prim p ds)) U H s _ _:=h;simp only[gP] at h;refine bw hL hS h λx H1 U1 d1 s1 x1 hL1 aJ r1 h1=>?_;obtain⟨ds,rs,h3⟩:=vh aJ (.cons r1 .nil) h1;obtain⟨_,e,q⟩:=hp U1 H1 ds _ _ aJ.zs rs (uh aJ h3);cases e;exact q
theorem zmN{j p'}(ha:SE X cA aq aj F EX a A):SE X cA aq aj F EX (.Compare a [.Is] [.Constant .none j p'] pos) (.pr true .rK (.cons A .nil)):=PE.weak (YQ (YL ha)) λZ H Q hh=>un hh λU J s hL hS h=>by
 have h:Run X.K cA (M.bd (M.bd (ev aq aj F A J) λx=>M.bd (M.ret []) λz=>M.ret (x::z)) λvs=>M.bd (g8 vs) λds=>cH true (prim .rK ds)) U H s _ _:=h;simp only[gP] at h;refine bw hL hS h λx H1 U1 d1 s1 x1 hL1 aJ r1 h1=>?_;obtain⟨ds,rs,h3⟩:=vh aJ (.cons r1 .nil) h1;cases rs with
 |cons r rs=>cases rs with
  |nil=>
   rename_i d;have h4:=uh aJ h3;have q:=h4 H1 _ bJ.refl (.bl _);cases d<;>first
    |(obtain⟨_,_,rfl,_,_⟩:=r;exact q)
    |(cases (show Rep _ _ _ _ _ x from r)<;>exact q)
theorem zks{j p'}(ha:SE X cA aq aj F EX a A):SE X cA aq aj F EX (.Compare a [.IsNot] [.Constant .none j p'] pos) (.pr true .pU (.cons A .nil)):=PE.weak (YQ (YM ha)) λZ H Q hh=>un hh λU J s hL hS h=>by
 have h:Run X.K cA (M.bd (M.bd (ev aq aj F A J) λx=>M.bd (M.ret []) λz=>M.ret (x::z)) λvs=>M.bd (g8 vs) λds=>cH true (prim .pU ds)) U H s _ _:=h;simp only[gP] at h;refine bw hL hS h λx H1 U1 d1 s1 x1 hL1 aJ r1 h1=>?_;obtain⟨ds,rs,h3⟩:=vh aJ (.cons r1 .nil) h1;cases rs with
 |cons r rs=>cases rs with
  |nil=>
   rename_i d;have h4:=uh aJ h3;have q:=h4 H1 _ bJ.refl (.bl _);cases d<;>first
    |(obtain⟨_,_,rfl,_,_⟩:=r;exact q)
    |(cases (show Rep _ _ _ _ _ x from r)<;>exact q)
theorem ze3(q:Pr)(hq:prim q=Dh f)(hh:qM X.K cA EX (λJ=>M.bd (ev aq aj F (.pr true q (.cons A .nil)) J) bool) Z H Q):tE X.K cA EX (ev aq aj F A) Z H λx H1=>Q (f (decide (x=.non))) H1:=un hh λU J s hL hS h=>by
 have h:Run X.K cA (M.bd (M.bd (M.bd (ev aq aj F A J) λx=>M.bd (M.ret []) λz=>M.ret (x::z)) λvs=>M.bd (g8 vs) λds=>cH true (prim q ds)) bool) U H s _ _:=h;simp only[gP] at h;refine bw hL hS h λx H1 U1 d1 s1 x1 hL1 aJ r1 h1=>?_;obtain⟨ds,rs,h3⟩:=vh aJ (.cons r1 .nil) h1;cases rs with
 |cons r rs=>cases rs with
  |nil=>
   rename_i d;rw[hq] at h3;have h4:Run X.K cA (M.bd (M.ret (Xv.d (.bl (f d.o7)))) bool) U1 H1 s1 (λd _ U' H'=>Q d H') (eX X.K cA EX Z):=h3;have q:=h4 U1 H1 Ext.refl aJ;cases d<;>first
    |(obtain⟨_,_,rfl,_,_⟩:=r;exact q)
    |(cases (show Rep _ _ _ _ _ x from r)<;>exact q)
theorem zlW{j p'}(ha:SE X cA aq aj F EX a A):ST X cA aq aj F EX (.Compare a [.Is] [.Constant .none j p'] pos) (.pr true .rK (.cons A .nil)):=PT.weak (Rx (YL ha)) λZ H Q hh=>by
 have:=ze3 .rK (f:=id) rfl hh;obtain⟨U,J,s,a,b,c⟩:=this;exact⟨U,J,s,a,b,c.imp λd s' U' H' k v rv=>⟨_,rfl,k v rv⟩⟩
theorem zjQ{j p'}(ha:SE X cA aq aj F EX a A):ST X cA aq aj F EX (.Compare a [.IsNot] [.Constant .none j p'] pos) (.pr true .pU (.cons A .nil)):=PT.weak (Rx (YM ha)) λZ H Q hh=>by
 have:=ze3 .pU (f:=not) rfl hh;obtain⟨U,J,s,a,b,c⟩:=this;exact⟨U,J,s,a,b,c.imp λd s' U' H' k v rv=>⟨_,rfl,k v rv⟩⟩
theorem zhQ{K:W.Frag}{U:Ph}{H:Hp}{s:S}{x:Xv}{v:V}{Q:Bool->Hp->Prop}{Ee:Nat->List D->S->Ph->Hp->Prop}(hS:aD K cA U H s)(r:aW K cA U H x v)(h:Run K cA (bool x) U H s (λd _ U' H'=>Q d H') Ee):∃k,v=.bl k/\Q k H:=by
 cases r with
 |l _=>exact h.elim
 |d rv=>cases rv with
  |bl k=>exact⟨k,rfl,h U H Ext.refl hS⟩
  |_=>exact h.elim
end
mutual
inductive Is (h:Heap):D->Value->Prop where
 |non:Is h .non .none
 |bl (b:Bool):Is h (.bl b) (.bool b)
 |int (i:Int) (t:Tok):Is h (.int i) (.int i t)
 |str (x:Str) (t:Tok):Is h (.str x) (.str x t)
 |tup {a:Addr} {xs:List D} {its:List Value} (p:h.IsTuple a its.toArray) (r:jO h xs its):Is h (.tup xs) (.ref a)
 |fl {a:Addr} {xs:List D} {its:List Value} (p:h.IsList a its.toArray) (r:jO h xs its):Is h (.fl xs) (.ref a)
 |oth {d:D} {u:Value} (k:kq d=none):Is h d u
inductive jO (h:Heap):List D->List Value->Prop where
 |nil:jO h [] []
 |cons {d:D} {u:Value} {ds:List D} {us:List Value} (a:Is h d u) (r:jO h ds us):jO h (d::ds) (u::us)
end
section
variable {X:Cx}{cA:Cl}{ao:List (Addr×Obj)}{Z:L2.St}{H:Hp}{s:Shared}{U:Ph}{h:Heap}
theorem Ue(I:Inv X ao Z H s){ds:List D}{vs:List V}{us:List Value}(h:aC X.K cA U H ds vs)(r:Vals vs us):jO s.heap ds us:=
 aC.rec (motive_1:=λd v _=>∀{u:Value},RelV v u->Is s.heap d u) (motive_2:=λd v _=>∀{u:List Value},Vals v u->jO s.heap d u) (λr=>by cases r;exact .non) (λb _ r=>by cases r;exact .bl b) (λi _ r=>by obtain⟨t,rfl⟩:=r;exact .int i t) (λi _ r=>by obtain⟨t,rfl⟩:=r;exact .str i t)
 (λh _ ih _ r=>by
  cases r;obtain⟨its,rv,ht,_⟩:=I.tuple h.jC;exact .tup ht (ih rv))
 (λh _ ih _ r=>by
  cases r;obtain⟨its,rv,ht,_⟩:=I.list h.tW;exact .fl ht.isList (ih rv))
 (λ_ _ _ _=>.oth rfl) (λ_ _ _ _ _=>.oth rfl) (λ_ _ _ _ _=>.oth rfl) (λ_ _ _=>.oth rfl)
 (λr=>by cases r;exact .nil)
 (λ_ _ i j _ r=>by
  cases r with
  |cons a b=>exact .cons (i a) (j b)) h r
theorem tX(I:Inv X ao Z H s){d:D}{v:V}{u:Value}(h:Rep X.K cA U H d v)(r:RelV v u):Is s.heap d u:=by
 cases h with
 |non=>cases r;exact .non
 |bl b=>cases r;exact .bl b
 |int i=>obtain⟨t,rfl⟩:=r;exact .int i t
 |str i=>obtain⟨t,rfl⟩:=r;exact .str i t
 |tup h q=>
  cases r;obtain⟨its,rv,ht,_⟩:=I.tuple h.jC;exact .tup ht (Ue I q rv)
 |fl h q=>
  cases r;obtain⟨its,rv,ht,_⟩:=I.list h.tW;exact .fl ht.isList (Ue I q rv)
 |fd _ _=>exact .oth rfl
 |exc _ _=>exact .oth rfl
 |ob _ _=>exact .oth rfl
 |any _=>exact .oth rfl
theorem GD(I:Inv X ao Z H s){d:D}{v:V}{u:Value}(q:Rv X.K cA U H d v)(r:RelV v u):Is s.heap d u:=by
 cases d with
 |fl xs=>
  obtain⟨a,vs,rfl,sq,rs⟩:=q;cases r;obtain⟨its,rv,ht,_⟩:=I.list sq;exact .fl ht.isList (Ue I rs rv)
 |non=>exact tX I q r
 |bl b=>exact tX I q r
 |int b=>exact tX I q r
 |str b=>exact tX I q r
 |tup b=>exact tX I q r
 |fd b c=>exact tX I q r
 |exc b c=>exact tX I q r
 |ob b c=>exact tX I q r
 |any=>exact tX I q r
def jO.len:∀{ds:List D} {us:List Value},jO h ds us->ds.length=us.length
 |_,_,.nil=>rfl
 |_,_,.cons _ r=>by rw[iu,iu,jO.len r]
theorem jO.get:∀{ds:List D} {us:List Value} {i:Nat} {d:D},jO h ds us->ds[i]?=some d->∃u,us[i]?=some u/\Is h d u
 |_,_,_,_,.nil,e=>by simp at e
 |_,_,0,_,.cons h _,e=>by simp at e;subst e;exact⟨_,rfl,h⟩
 |_,_,i+1,d,.cons _ r,e=>by
  obtain⟨v,a,b⟩:=jO.get (i:=i) (d:=d) r (by simpa using e);exact⟨v,by simpa using a,b⟩
def zeG{a:Addr}{is js:Array Value}(p:h.IsTuple a is)(q:h.IsTuple a js):is=js:=by
 obtain⟨o,e,c,n,d⟩:=p;obtain⟨o',e',c',n',d'⟩:=q;rw[e] at e';cases e';rw[d] at d';cases d';rfl
def zeZ{a:Addr}{is js:Array Value}(p:h.IsList a is)(q:h.IsList a js):is=js:=by
 obtain⟨o,e,c,n,d⟩:=p;obtain⟨o',e',c',n',d'⟩:=q;rw[e] at e';cases e';rw[d] at d';cases d';rfl
def wG{a:Addr}{is js:Array Value}(p:h.IsList a is)(q:h.IsTuple a js):False:=by
 obtain⟨o,e,c,n,d⟩:=p;obtain⟨o',e',c',n',d'⟩:=q;rw[e] at e';cases e';rw[c] at c';exact absurd c' Zaa
theorem Kp{eq:D->D->Option Bool}:∀{xs ys:List D} {b:Bool},dj eq xs ys=some b->∃e:Nat->Bool,(∀(j:Nat) x y,xs[j]?=some x->ys[j]?=some y->eq x y=some (e j))/\b=((List.range (min xs.length ys.length)).all e&&xs.length==ys.length)
 |[],[],b,h=>by cases h;exact⟨λ_=>true,λj x y q=>by simp at q,by simp⟩
 |[],y::ys,b,h=>by cases h;exact⟨λ_=>true,λj x y q=>by simp at q,by simp⟩
 |x::xs,[],b,h=>by cases h;exact⟨λ_=>true,λj x y q r=>by simp at r,by simp⟩
 |x::xs,y::ys,b,h=>by
  simp only[dj] at h;cases e1:eq x y with
  |none=>rw[e1] at h;cases h
  |some a=>
   cases e2:dj eq xs ys with
   |none=>rw[e1,e2] at h;cases h
   |some c=>
    rw[e1,e2] at h;cases h;obtain⟨e,h1,h2⟩:=Kp e2;refine⟨λj=>match j with|0=>a|j+1=>e j,λj p q r1 r2=>?_,?_⟩
    ·cases j with
     |zero=>
      simp at r1 r2;subst r1 r2;exact e1
     |succ j=>exact h1 j p q (by simpa using r1) (by simpa using r2)
    ·rw[h2];simp only[iu,Nat.succ_min_succ,QZ,Bv,List.all_map,Function.comp_def];rw[Bool.and_assoc]
     congr 2
     simp
def jD{n:Nat}{d e:D}(k:kq d=none):c7 n d e=none:=by
 cases n<;>cases d<;>first|cases k;done|(cases e<;>rfl)
def iI{n:Nat}{d e:D}(k:kq e=none):c7 n d e=none:=by
 cases n<;>cases e<;>first|cases k;done|(cases d<;>rfl)
theorem Ug:∀(n:Nat) {d1 d2:D} {u:Value} {b:Bool},Is h d1 u->Is h d2 u->c7 n d1 d2=some b->b=true:=by
 intro n;have rows:∀(n:Nat),(∀{d1 d2:D} {u:Value} {b:Bool},Is h d1 u->Is h d2 u->c7 n d1 d2=some b->b=true)->∀{xs ys:List D} {is js:List Value} {b:Bool},jO h xs is->jO h ys js->is.toArray=js.toArray->dj (c7 n) xs ys=some b->b=true:=by
  intro n ih xs ys is js b q1 q2 e hd;have e:is=js:=by simpa using e
  subst e;obtain⟨e,a1,a2⟩:=Kp (eq:=c7 n) hd;rw[a2];have hl:_=_:=q1.len.trans q2.len.symm;rw[gb];refine⟨iK.mpr λj hj=>?_,by rw[hl];simp⟩;have hj:=v9.mp hj;obtain⟨x,hx⟩ : ∃x,_=some x:=⟨_,dH (f9 hj (Nat.min_le_left _ _))⟩;obtain⟨y,hy⟩ : ∃y,_=some y:=⟨_,dH (f9 hj (Nat.min_le_right _ _))⟩;obtain⟨v1,e1,p1⟩:=q1.get hx;obtain⟨v2,e2,p2⟩:=q2.get hy;rw[e1] at e2;cases e2;exact ih p1 p2 (a1 j x y hx hy)
 induction n with
 |zero=>
  intro d1 d2 u b r1 r2 hd;cases r1 with
  |oth k=>rw[jD k] at hd;cases hd
  |non=>cases r2 with
   |oth k=>rw[iI k] at hd;cases hd
   |non=>cases hd;rfl
  |bl x=>cases r2 with
   |oth k=>rw[iI k] at hd;cases hd
   |bl y=>cases hd;simp
  |int x t=>cases r2 with
   |oth k=>rw[iI k] at hd;cases hd
   |int y=>cases hd;simp
  |str x t=>cases r2 with
   |oth k=>rw[iI k] at hd;cases hd
   |str y=>cases hd;simp
  |tup p q=>cases r2 with
   |oth k=>rw[iI k] at hd;cases hd
   |tup p2 q2=>cases hd
   |fl p2 q2=>exact(wG p2 p).elim
  |fl p q=>cases r2 with
   |oth k=>rw[iI k] at hd;cases hd
   |fl p2 q2=>cases hd
   |tup p2 q2=>exact(wG p p2).elim
 |succ n ih=>
  intro d1 d2 u b r1 r2 hd;cases r1 with
  |oth k=>rw[jD k] at hd;cases hd
  |non=>cases r2 with
   |oth k=>rw[iI k] at hd;cases hd
   |non=>cases hd;rfl
  |bl x=>cases r2 with
   |oth k=>rw[iI k] at hd;cases hd
   |bl y=>cases hd;simp
  |int x t=>cases r2 with
   |oth k=>rw[iI k] at hd;cases hd
   |int y=>cases hd;simp
  |str x t=>cases r2 with
   |oth k=>rw[iI k] at hd;cases hd
   |str y=>cases hd;simp
  |tup p q=>cases r2 with
   |oth k=>rw[iI k] at hd;cases hd
   |tup p2 q2=>exact rows n ih q q2 (zeG p p2) hd
   |fl p2 q2=>exact(wG p2 p).elim
  |fl p q=>cases r2 with
   |oth k=>rw[iI k] at hd;cases hd
   |fl p2 q2=>exact rows n ih q q2 (zeZ p p2) hd
   |tup p2 q2=>exact(wG p p2).elim
theorem parts{n:Nat}{A:Around}{xs ys:List D}{is js:List Value}{b:Bool}(r1:jO s.heap xs is)(r2:jO s.heap ys js)(hd:dj (c7 n) xs ys=some b)
  (ih:∀{d1 d2:D} {u1 u2:Value} {b:Bool},Is s.heap d1 u1->Is s.heap d2 u2->c7 n d1 d2=some b->SeqAt.EqAt A s u1 u2 b) :
  ∃e:Nat->Bool,(∀j (h1:j<is.toArray.size) (h2:j<js.toArray.size),SeqAt.EqAt A s is.toArray[j] js.toArray[j] (e j))/\b=((List.range (min is.toArray.size js.toArray.size)).all e&&is.toArray.size==js.toArray.size):=by
 obtain⟨e,a1,a2⟩:=Kp hd;have z1:=r1.len;have z2:=r2.len;refine⟨e,λj h1 h2=>?_,by simp only[eY,<-z1,<-z2];exact a2⟩;simp only[eY] at h1 h2;obtain⟨x,hx⟩ : ∃x,xs[j]?=some x:=⟨_,dH (by rw[z1];exact h1)⟩;obtain⟨y,hy⟩ : ∃y,ys[j]?=some y:=⟨_,dH (by rw[z2];exact h2)⟩;obtain⟨u,f1,g1⟩:=r1.get hx;obtain⟨u',f2,g2⟩:=r2.get hy;have k1:is.toArray[j]=u:=by
  have:=eG.mp f1;simpa using this.2
 have k2:js.toArray[j]=u':=by
  have:=eG.mp f2;simpa using this.2
 rw[k1,k2];exact ih g1 g2 (a1 j x y hx hy)
theorem zeQ{A:Around}{l m:Addr}{is js:Array Value}{e:Nat->Bool}{b:Bool}(p1:s.heap.IsList l is)(p2:s.heap.IsList m js)(hu:A.units<cLine)(he:∀j (h1:j<is.size) (h2:j<js.size),SeqAt.EqAt A.in1 s is[j] js[j] (e j))(hb:b=((List.range (min is.size js.size)).all e&&is.size==js.size)):SeqAt.RcAt A s (.ref l) (.ref m) b:=by
 by_cases hz:is.size=js.size
 ·have:b=(List.range is.size).all e:=by rw[hb,hz];simp
  rw[this];exact SeqAt.RcAt.lists p1 p2 hz hu he
 ·have Uh:(is.size != js.size)=true:=by simpa using hz
  have:b=false:=by rw[hb];simp[hz]
  rw[this];exact SeqAt.RcAt.lists_lengths p1 p2 Uh hu
theorem zfZ{A:Around}{l m:Addr}{is js:Array Value}{e:Nat->Bool}{b:Bool}(p1:s.heap.IsList l is)(p2:s.heap.IsList m js)(hu:A.units<cLine)(he:∀j (h1:j<is.size) (h2:j<js.size),SeqAt.EqAt A.in1 s is[j] js[j] (e j))(hb:b=((List.range (min is.size js.size)).all e&&is.size==js.size)):SeqAt.RcNeAt A s (.ref l) (.ref m) (!b):=by
 by_cases hz:is.size=js.size
 ·have:b=(List.range is.size).all e:=by rw[hb,hz];simp
  rw[this];exact SeqAt.RcNeAt.lists p1 p2 hz hu he
 ·have Uh:(is.size != js.size)=true:=by simpa using hz
  have:b=false:=by rw[hb];simp[hz]
  rw[this];exact SeqAt.RcNeAt.lists_lengths p1 p2 Uh hu
open SeqAt in
theorem Kq:∀(n:Nat) {A:Around} {d1 d2:D} {u1 u2:Value} {b:Bool},A.units+n<cLine->Is s.heap d1 u1->Is s.heap d2 u2->c7 n d1 d2=some b->SeqAt.EqAt A s u1 u2 b:=by
 intro n
 induction n with
 |zero=>
  intro A d1 d2 u1 u2 b hu r1 r2 hd;have hu:A.units<cLine:=by lia
  cases r1 with
  |oth k=>rw[jD k] at hd;cases hd
  |non=>cases r2 with
   |oth k=>rw[iI k] at hd;cases hd
   |non=>cases hd;exact EqAt.same _
   |bl y=>cases hd;exact EqAt.none_bool _
   |int y t=>cases hd;exact EqAt.none_int _ _
   |str y t=>cases hd;exact EqAt.none_str _ _
   |tup p q=>cases hd;exact EqAt.none_tuple p hu
   |fl p q=>cases hd;exact EqAt.none_list p hu
  |bl x=>cases r2 with
   |oth k=>rw[iI k] at hd;cases hd
   |non=>cases hd;exact EqAt.bool_none _
   |bl y=>cases hd;exact EqAt.bool_bool _ _
   |int y t=>cases hd;exact EqAt.bool_int _ _ _
   |str y t=>cases hd;exact EqAt.bool_str _ _ _
   |tup p q=>cases hd;exact EqAt.bool_tuple _ p hu
   |fl p q=>cases hd;exact EqAt.bool_list _ p hu
  |int x t=>cases r2 with
   |oth k=>rw[iI k] at hd;cases hd
   |non=>cases hd;exact EqAt.int_none _ _
   |bl y=>cases hd;exact EqAt.int_bool _ _ _
   |int y t=>cases hd;exact EqAt.int_int _ _ _ _
   |str y t=>cases hd;exact EqAt.int_str _ _ _ _
   |tup p q=>cases hd;exact EqAt.int_tuple _ _ p hu
   |fl p q=>cases hd;exact EqAt.int_list _ _ p hu
  |str x t=>cases r2 with
   |oth k=>rw[iI k] at hd;cases hd
   |non=>cases hd;exact EqAt.str_none _ _
   |bl y=>cases hd;exact EqAt.str_bool _ _ _
   |int y t=>cases hd;exact EqAt.str_int _ _ _ _
   |str y t=>cases hd;exact EqAt.str_str _ _ _ _
   |tup p q=>cases hd;exact EqAt.str_tuple _ _ p hu
   |fl p q=>cases hd;exact EqAt.str_list _ _ p hu
  |tup p q=>cases r2 with
   |oth k=>rw[iI k] at hd;cases hd
   |non=>cases hd;exact EqAt.tuple_none p hu
   |bl y=>cases hd;exact EqAt.tuple_bool _ p hu
   |int y t=>cases hd;exact EqAt.tuple_int _ _ p hu
   |str y t=>cases hd;exact EqAt.tuple_str _ _ p hu
   |tup p2 q2=>cases hd
   |fl p2 q2=>cases hd;exact EqAt.tuple_list p p2 hu
  |fl p q=>cases r2 with
   |oth k=>rw[iI k] at hd;cases hd
   |non=>cases hd;exact EqAt.list_none p hu
   |bl y=>cases hd;exact EqAt.list_bool _ p hu
   |int y t=>cases hd;exact EqAt.list_int _ _ p hu
   |str y t=>cases hd;exact EqAt.list_str _ _ p hu
   |tup p2 q2=>cases hd;exact EqAt.list_tuple p p2 hu
   |fl p2 q2=>cases hd
 |succ n ih=>
  intro A d1 d2 u1 u2 b Dr r1 r2 hd;have hu:A.units<cLine:=by lia
  have hin:A.in1.units+n<cLine:=by show A.units+1+n<cLine;lia
  cases r1 with
  |oth k=>rw[jD k] at hd;cases hd
  |non=>cases r2 with
   |oth k=>rw[iI k] at hd;cases hd
   |non=>cases hd;exact EqAt.same _
   |bl y=>cases hd;exact EqAt.none_bool _
   |int y t=>cases hd;exact EqAt.none_int _ _
   |str y t=>cases hd;exact EqAt.none_str _ _
   |tup p q=>cases hd;exact EqAt.none_tuple p hu
   |fl p q=>cases hd;exact EqAt.none_list p hu
  |bl x=>cases r2 with
   |oth k=>rw[iI k] at hd;cases hd
   |non=>cases hd;exact EqAt.bool_none _
   |bl y=>cases hd;exact EqAt.bool_bool _ _
   |int y t=>cases hd;exact EqAt.bool_int _ _ _
   |str y t=>cases hd;exact EqAt.bool_str _ _ _
   |tup p q=>cases hd;exact EqAt.bool_tuple _ p hu
   |fl p q=>cases hd;exact EqAt.bool_list _ p hu
  |int x t=>cases r2 with
   |oth k=>rw[iI k] at hd;cases hd
   |non=>cases hd;exact EqAt.int_none _ _
   |bl y=>cases hd;exact EqAt.int_bool _ _ _
   |int y t=>cases hd;exact EqAt.int_int _ _ _ _
   |str y t=>cases hd;exact EqAt.int_str _ _ _ _
   |tup p q=>cases hd;exact EqAt.int_tuple _ _ p hu
   |fl p q=>cases hd;exact EqAt.int_list _ _ p hu
  |str x t=>cases r2 with
   |oth k=>rw[iI k] at hd;cases hd
   |non=>cases hd;exact EqAt.str_none _ _
   |bl y=>cases hd;exact EqAt.str_bool _ _ _
   |int y t=>cases hd;exact EqAt.str_int _ _ _ _
   |str y t=>cases hd;exact EqAt.str_str _ _ _ _
   |tup p q=>cases hd;exact EqAt.str_tuple _ _ p hu
   |fl p q=>cases hd;exact EqAt.str_list _ _ p hu
  |@tup a1 xs is p q=>cases r2 with
   |oth k=>rw[iI k] at hd;cases hd
   |non=>cases hd;exact EqAt.tuple_none p hu
   |bl y=>cases hd;exact EqAt.tuple_bool _ p hu
   |int y t=>cases hd;exact EqAt.tuple_int _ _ p hu
   |str y t=>cases hd;exact EqAt.tuple_str _ _ p hu
   |@tup a2 ys js p2 q2=>
    by_cases ea:a1=a2
    ·subst ea;have:=Ug (n+1) (.tup p q) (.tup p2 q2) hd;subst this;exact EqAt.same _
    ·obtain⟨e,he,hb⟩:=parts (A:=A.in1) q q2 hd λa b c=>ih hin a b c;rw[hb];exact EqAt.of_refs ea (RcAt.tuples p p2 hu he)
   |fl p2 q2=>cases hd;exact EqAt.tuple_list p p2 hu
  |@fl a1 xs is p q=>cases r2 with
   |oth k=>rw[iI k] at hd;cases hd
   |non=>cases hd;exact EqAt.list_none p hu
   |bl y=>cases hd;exact EqAt.list_bool _ p hu
   |int y t=>cases hd;exact EqAt.list_int _ _ p hu
   |str y t=>cases hd;exact EqAt.list_str _ _ p hu
   |tup p2 q2=>cases hd;exact EqAt.list_tuple p p2 hu
   |@fl a2 ys js p2 q2=>
    by_cases ea:a1=a2
    ·subst ea;have:=Ug (n+1) (.fl p q) (.fl p2 q2) hd;subst this;exact EqAt.same _
    ·obtain⟨e,he,hb⟩:=parts (A:=A.in1) q q2 hd λa b c=>ih hin a b c;exact EqAt.of_refs ea (zeQ p p2 hu he hb)
end
section
variable {X:Cx}{cA:Cl}{ao:List (Addr×Obj)}{Z:L2.St}{H:Hp}{s:Shared}{U:Ph}{h:Heap}
open SeqAt in
theorem zgR(Dr:A.units+(n+1)<cLine)(r1:Is s.heap d1 u1)(r2:Is s.heap d2 u2)(hd:c7 (n+1) d1 d2=some b):RcAt A s u1 u2 b/\RcNeAt A s u1 u2 (!b):=by
 have hu:A.units<cLine:=by lia
 have hin:A.in1.units+n<cLine:=by show A.units+1+n<cLine;lia
 cases r1 with
 |oth k=>rw[jD k] at hd;cases hd
 |non=>cases r2 with
  |oth k=>rw[iI k] at hd;cases hd
  |non=>cases hd;exact⟨RcAt.none_none,RcNeAt.none_none⟩
  |bl y=>cases hd;exact⟨RcAt.none_bool _,RcNeAt.none_bool _⟩
  |int y t=>cases hd;exact⟨RcAt.none_int _ _,RcNeAt.none_int _ _⟩
  |str y t=>cases hd;exact⟨RcAt.none_str _ _,RcNeAt.none_str _ _⟩
  |tup p q=>cases hd;exact⟨RcAt.none_tuple p hu,RcNeAt.none_tuple p hu⟩
  |fl p q=>cases hd;exact⟨RcAt.none_list p hu,RcNeAt.none_list p hu⟩
 |bl x=>cases r2 with
  |oth k=>rw[iI k] at hd;cases hd
  |non=>cases hd;exact⟨RcAt.bool_none _,RcNeAt.bool_none _⟩
  |bl y=>cases hd;exact⟨RcAt.bool_bool _ _,RcNeAt.bool_bool _ _⟩
  |int y t=>cases hd;exact⟨RcAt.bool_int _ _ _,RcNeAt.bool_int _ _ _⟩
  |str y t=>cases hd;exact⟨RcAt.bool_str _ _ _,RcNeAt.bool_str _ _ _⟩
  |tup p q=>cases hd;exact⟨RcAt.bool_tuple _ p hu,RcNeAt.bool_tuple _ p hu⟩
  |fl p q=>cases hd;exact⟨RcAt.bool_list _ p hu,RcNeAt.bool_list _ p hu⟩
 |int x t=>cases r2 with
  |oth k=>rw[iI k] at hd;cases hd
  |non=>cases hd;exact⟨RcAt.int_none _ _,RcNeAt.int_none _ _⟩
  |bl y=>cases hd;exact⟨RcAt.int_bool _ _ _,RcNeAt.int_bool _ _ _⟩
  |int y t=>cases hd;exact⟨RcAt.int_int _ _ _ _,RcNeAt.int_int _ _ _ _⟩
  |str y t=>cases hd;exact⟨RcAt.int_str _ _ _ _,RcNeAt.int_str _ _ _ _⟩
  |tup p q=>cases hd;exact⟨RcAt.int_tuple _ _ p hu,RcNeAt.int_tuple _ _ p hu⟩
  |fl p q=>cases hd;exact⟨RcAt.int_list _ _ p hu,RcNeAt.int_list _ _ p hu⟩
 |str x t=>cases r2 with
  |oth k=>rw[iI k] at hd;cases hd
  |non=>cases hd;exact⟨RcAt.str_none _ _,RcNeAt.str_none _ _⟩
  |bl y=>cases hd;exact⟨RcAt.str_bool _ _ _,RcNeAt.str_bool _ _ _⟩
  |int y t=>cases hd;exact⟨RcAt.str_int _ _ _ _,RcNeAt.str_int _ _ _ _⟩
  |str y t=>cases hd;exact⟨RcAt.str_str _ _ _ _,RcNeAt.str_str _ _ _ _⟩
  |tup p q=>cases hd;exact⟨RcAt.str_tuple _ _ p hu,RcNeAt.str_tuple _ _ p hu⟩
  |fl p q=>cases hd;exact⟨RcAt.str_list _ _ p hu,RcNeAt.str_list _ _ p hu⟩
 |@tup a1 xs is p q=>cases r2 with
  |oth k=>rw[iI k] at hd;cases hd
  |non=>cases hd;exact⟨RcAt.tuple_none p hu,RcNeAt.tuple_none p hu⟩
  |bl y=>cases hd;exact⟨RcAt.tuple_bool _ p hu,RcNeAt.tuple_bool _ p hu⟩
  |int y t=>cases hd;exact⟨RcAt.tuple_int _ _ p hu,RcNeAt.tuple_int _ _ p hu⟩
  |str y t=>cases hd;exact⟨RcAt.tuple_str _ _ p hu,RcNeAt.tuple_str _ _ p hu⟩
  |@tup a2 ys js p2 q2=>
   obtain⟨e,he,hb⟩:=parts (A:=A.in1) q q2 hd λa b c=>Kq n hin a b c;rw[hb];exact⟨RcAt.tuples p p2 hu he,RcNeAt.tuples p p2 hu he⟩
  |fl p2 q2=>cases hd;exact⟨RcAt.tuple_list p p2 hu,RcNeAt.tuple_list p p2 hu⟩
 |@fl a1 xs is p q=>cases r2 with
  |oth k=>rw[iI k] at hd;cases hd
  |non=>cases hd;exact⟨RcAt.list_none p hu,RcNeAt.list_none p hu⟩
  |bl y=>cases hd;exact⟨RcAt.list_bool _ p hu,RcNeAt.list_bool _ p hu⟩
  |int y t=>cases hd;exact⟨RcAt.list_int _ _ p hu,RcNeAt.list_int _ _ p hu⟩
  |str y t=>cases hd;exact⟨RcAt.list_str _ _ p hu,RcNeAt.list_str _ _ p hu⟩
  |tup p2 q2=>cases hd;exact⟨RcAt.list_tuple p p2 hu,RcNeAt.list_tuple p p2 hu⟩
  |@fl a2 ys js p2 q2=>
   obtain⟨e,he,hb⟩:=parts (A:=A.in1) q q2 hd λa b c=>Kq n hin a b c;exact⟨zeQ p p2 hu he hb,zfZ p p2 hu he hb⟩
def yG(K:W.Frag)(cA:Cl)(f:Bool->Bool):R2:=λx y H Q=>∃U d1 d2 b,Rv K cA U H d1 x/\Rv K cA U H d2 y/\c7 50 d1 d2=some b/\Q (.bl (f b)) H
def zlk(hu:X.A.units+60<cLine):fV X (compareOp .Eq) (yG X.K cA id):=by
 intro ao s Z H x y v u Q I rx ry ⟨U,d1,d2,b,r1,r2,hd,q⟩;exact(zgR (n:=49) gV (GD I r1 rx) (GD I r2 ry) hd).1 X.prog X.w X.xe _ ⟨.bl b,H,I,rfl,q⟩
theorem zl8(hu:X.A.units+60<cLine):fV X (compareOp .NotEq) (yG X.K cA not):=by
 intro ao s Z H x y v u Q I rx ry ⟨U,d1,d2,b,r1,r2,hd,q⟩;exact(zgR (n:=49) gV (GD I r1 rx) (GD I r2 ry) hd).2 X.prog X.w X.xe _ ⟨.bl (!b),H,I,rfl,q⟩
theorem zke:∀(n:Nat) {d d' x:D} {u:Value} {b b':Bool},Is h d u->Is h d' u->c7 n d x=some b->c7 n d' x=some b'->b=b':=by
 intro n;have flat:∀{d d' x:D} {u:Value} {b b':Bool},Is h d u->Is h d' u->(∀xs xs',d=.tup xs->d'=.tup xs'->False)->(∀xs xs',d=.fl xs->d'=.fl xs'->False)->c7 n d x=some b->c7 n d' x=some b'->b=b':=by
  intro d d' x u b b' r1 r2 n1 n2 h1 h2;cases r1 with
  |oth k=>rw[jD k] at h1;cases h1
  |non=>cases r2 with
   |oth k=>rw[jD k] at h2;cases h2
   |non=>rw[h1] at h2;exact cJ h2
  |bl y=>cases r2 with
   |oth k=>rw[jD k] at h2;cases h2
   |bl=>rw[h1] at h2;exact cJ h2
  |int y=>cases r2 with
   |oth k=>rw[jD k] at h2;cases h2
   |int=>rw[h1] at h2;exact cJ h2
  |str y=>cases r2 with
   |oth k=>rw[jD k] at h2;cases h2
   |str=>rw[h1] at h2;exact cJ h2
  |tup p q=>cases r2 with
   |oth k=>rw[jD k] at h2;cases h2
   |tup=>exact(n1 _ _ rfl rfl).elim
   |fl p2 q2=>exact(wG p2 p).elim
  |fl p q=>cases r2 with
   |oth k=>rw[jD k] at h2;cases h2
   |fl=>exact(n2 _ _ rfl rfl).elim
   |tup p2 q2=>exact(wG p p2).elim
 have tn:∀{n:Nat} {xs xs':List D} {x:D},(∀ys,x=.tup ys->False)->c7 n (.tup xs) x=c7 n (.tup xs') x:=λ{n xs xs' x} hx=>by
  cases n<;>cases x<;>first|rfl|exact(hx _ rfl).elim
 have ln:∀{n:Nat} {xs xs':List D} {x:D},(∀ys,x=.fl ys->False)->c7 n (.fl xs) x=c7 n (.fl xs') x:=λ{n xs xs' x} hx=>by
  cases n<;>cases x<;>first|rfl|exact(hx _ rfl).elim
 clear flat
 induction n with
 |zero=>
  intro d d' x u b b' r1 r2 h1 h2;cases r1 with
  |oth k=>rw[jD k] at h1;cases h1
  |non=>cases r2 with
   |oth k=>rw[jD k] at h2;cases h2
   |non=>rw[h1] at h2;exact cJ h2
  |bl y=>cases r2 with
   |oth k=>rw[jD k] at h2;cases h2
   |bl=>rw[h1] at h2;exact cJ h2
  |int y=>cases r2 with
   |oth k=>rw[jD k] at h2;cases h2
   |int=>rw[h1] at h2;exact cJ h2
  |str y=>cases r2 with
   |oth k=>rw[jD k] at h2;cases h2
   |str=>rw[h1] at h2;exact cJ h2
  |tup p q=>cases r2 with
   |oth k=>rw[jD k] at h2;cases h2
   |tup p2 q2=>
    cases x with
    |tup ys=>cases h1
    |_=>rw[tn (by intro ys z;cases z),h2] at h1;exact(cJ h1).symm
   |fl p2 q2=>exact(wG p2 p).elim
  |fl p q=>cases r2 with
   |oth k=>rw[jD k] at h2;cases h2
   |fl p2 q2=>
    cases x with
    |fl ys=>cases h1
    |_=>rw[ln (by intro ys z;cases z),h2] at h1;exact(cJ h1).symm
   |tup p2 q2=>exact(wG p p2).elim
 |succ n ih=>
  intro d d' x u b b' r1 r2 h1 h2;have rows:∀{xs xs' ys:List D} {is js:List Value} {b b':Bool},jO h xs is->jO h xs' js->is.toArray=js.toArray->dj (c7 n) xs ys=some b->dj (c7 n) xs' ys=some b'->b=b':=by
   intro xs xs' ys is js b b' q1 q2 e h1 h2;have e:is=js:=by simpa using e
   subst e;obtain⟨e1,a1,b1⟩:=Kp h1;obtain⟨e2,a2,b2⟩:=Kp h2;have hl:xs.length=xs'.length:=q1.len.trans q2.len.symm;rw[b1,b2,hl]
   congr 1
   rw[Bool.eq_iff_iff,iK,iK];have key:∀j∈List.range (min xs'.length ys.length),e1 j=e2 j:=λj hj=>by
    have hj:=v9.mp hj;obtain⟨x1,hx1⟩ : ∃x,xs[j]?=some x:=⟨_,dH (by rw[hl];exact f9 hj (Nat.min_le_left _ _))⟩;obtain⟨x2,hx2⟩ : ∃x,xs'[j]?=some x:=⟨_,dH (f9 hj (Nat.min_le_left _ _))⟩;obtain⟨y,hy⟩ : ∃y,ys[j]?=some y:=⟨_,dH (f9 hj (Nat.min_le_right _ _))⟩;obtain⟨v1,f1,p1⟩:=q1.get hx1;obtain⟨v2,f2,p2⟩:=q2.get hx2;rw[f1] at f2;cases f2;exact ih p1 p2 (a1 j x1 y hx1 hy) (a2 j x2 y hx2 hy)
   exact⟨λz j hj=>by rw[<-key j hj];exact z j hj,λz j hj=>by rw[key j hj];exact z j hj⟩
  cases r1 with
  |oth k=>rw[jD k] at h1;cases h1
  |non=>cases r2 with
   |oth k=>rw[jD k] at h2;cases h2
   |non=>rw[h1] at h2;exact cJ h2
  |bl y=>cases r2 with
   |oth k=>rw[jD k] at h2;cases h2
   |bl=>rw[h1] at h2;exact cJ h2
  |int y=>cases r2 with
   |oth k=>rw[jD k] at h2;cases h2
   |int=>rw[h1] at h2;exact cJ h2
  |str y=>cases r2 with
   |oth k=>rw[jD k] at h2;cases h2
   |str=>rw[h1] at h2;exact cJ h2
  |tup p q=>cases r2 with
   |oth k=>rw[jD k] at h2;cases h2
   |tup p2 q2=>
    cases x with
    |tup ys=>exact rows q q2 (zeG p p2) h1 h2
    |_=>rw[tn (by intro ys z;cases z),h2] at h1;exact(cJ h1).symm
   |fl p2 q2=>exact(wG p2 p).elim
  |fl p q=>cases r2 with
   |oth k=>rw[jD k] at h2;cases h2
   |fl p2 q2=>
    cases x with
    |fl ys=>exact rows q q2 (zeZ p p2) h1 h2
    |_=>rw[ln (by intro ys z;cases z),h2] at h1;exact(cJ h1).symm
   |tup p2 q2=>exact(wG p p2).elim
theorem zew:∀{xs:List D} {b:Bool},memD x xs=some b->∀d∈xs,∃k,c7 50 d x=some k
 |[],_,_,d,hd=>by cases hd
 |y::xs,b,h,d,hd=>by
  unfold memD at h;cases e1:c7 50 y x with
  |none=>simp only[e1] at h;cases h
  |some a=>
   cases e2:memD x xs with
   |none=>simp only[e1,e2] at h;cases h
   |some c=>
    rcases iM.mp hd with rfl|hd
    ·exact⟨a,e1⟩
    ·exact zew e2 d hd
theorem zen:∀{xs:List D} {us:List Value} {b:Bool},memD x xs=some b->jO h xs us->∃e:Value->Bool,(∀u∈us,∃d,Is h d u/\c7 50 d x=some (e u))/\us.any e=b:=by
 intro xs us b hm r;have ex:∀u∈us,∃d k,Is h d u/\c7 50 d x=some k:=by
  intro u hu;obtain⟨i,hi,e⟩:=v7 hu;have hl:=r.len;obtain⟨d,hd⟩ : ∃d,xs[i]?=some d:=⟨_,dH gV⟩;obtain⟨u',e1,q⟩:=r.get hd;rw[dH hi,e] at e1;cases e1;obtain⟨k,hk⟩:=zew hm d (fG hd);exact⟨d,k,q,hk⟩
 refine⟨λu=>by classical exact if z:∃k,∃d,Is h d u/\c7 50 d x=some k then z.choose else false,λu hu=>?_,?_⟩
 ·obtain⟨d,k,q,hk⟩:=ex u hu;have z:∃k,∃d,Is h d u/\c7 50 d x=some k:=⟨k,d,q,hk⟩;dsimp only;rw[dif_pos z];exact z.choose_spec
 ·clear ex;have key:∀(xs:List D) (us:List Value) (b:Bool),memD x xs=some b->jO h xs us->us.any (λu=>by classical exact if z:∃k,∃d,Is h d u/\c7 50 d x=some k then z.choose else false)=b:=by
   intro xs
   induction xs with
   |nil=>intro us b hm r;cases r;cases hm;rfl
   |cons d ds ih=>
    intro us b hm r;cases r with
    |@cons _ u _ us a r=>
     unfold memD at hm;cases e1:c7 50 d x with
     |none=>simp only[e1] at hm;cases hm
     |some k=>
      cases e2:memD x ds with
      |none=>simp only[e1,e2] at hm;cases hm
      |some c=>
       simp only[e1,e2] at hm;cases hm;rw[List.any_cons];have z:∃k,∃d,Is h d u/\c7 50 d x=some k:=⟨k,d,a,e1⟩;have hk:z.choose=k:=by
        obtain⟨d',q,xQ⟩:=z.choose_spec;exact zke 50 q a xQ e1
       rw[dif_pos z,hk,ih us c e2 r]
  exact key xs us b hm r
def Kr(K:W.Frag)(cA:Cl)(f:Bool->Bool):R2:=λx y H Q=>∃U d1 d2 xs b,Rv K cA U H d1 x/\Rv K cA U H d2 y/\lV d2=some xs/\memD d1 xs=some b/\Q (.bl (f b)) H
theorem zml(hu:X.A.units+60<cLine):fV X (compareOp .In) (Kr X.K cA id):=by
 intro ao s Z H x y v u Q I rx ry ⟨U,d1,d2,xs,b,r1,r2,hq,hm,q⟩;have hin:X.A.in1.units+50<cLine:=by show X.A.units+1+50<cLine;lia
 have i1:=GD I r1 rx;cases GD I r2 ry with
 |tup p r=>
  cases hq;obtain⟨e,he,hb⟩:=zen hm r;refine SeqAt.in_tupleAt e p (λw hw=>?_) ⟨.bl b,H,I,by rw[<-hb];simp[L2.RelV],q⟩;obtain⟨d,q1,q2⟩:=he w (by simpa using hw);exact Kq 50 hin q1 i1 q2
 |fl p r=>
  cases hq;obtain⟨e,he,hb⟩:=zen hm r;refine SeqAt.in_listAt e p (λw hw=>?_) ⟨.bl b,H,I,by rw[<-hb];simp[L2.RelV],q⟩;obtain⟨d,q1,q2⟩:=he w (by simpa using hw);exact Kq 50 hin q1 i1 q2
 |oth k=>cases d2<;>cases hq<;>cases k
 |_=>cases hq
end
end Mi
namespace HT
open PySem PyProof.Rows
section
variable {prog:Program}{w:World}{A:Around}{E:Value->Shared->Prop}{s:Shared}
theorem vm{t b:Addr}{vs ws:List Value}{Q:Value->Shared->Prop}(ht:IsTup s.heap t vs.toArray)(hb:IsTup s.heap b ws.toArray)(hv:vs=[])
  (h1:Q (.ref b) s):wpAny (model prog w) A (binaryOp .Add (.ref t) (.ref b)) Q E s:=by
 obtain⟨⟨cls,dd,data,sl⟩,ho,hc,n,hd⟩:=id ht;obtain⟨⟨cls2,dd2,data2,sl2⟩,qx,nY,n2,hd2⟩:=id hb;simp only at hc hd nY hd2;subst hc hd nY hd2;exact concat_meets ⟨_,ho,rfl⟩ ⟨_,qx,rfl⟩ noFill_tuple_add seq_tuple_add QX QW (QT _ _)
   (tuple_addW0 t b vs.toArray ws.toArray n n2 dd dd2 sl sl2 (by simp[hv])) ⟨ho,qx,h1⟩
theorem gR{t sl:Addr}{items:Array Value}{vl vu:Value}{lo hi:Option Int}{Q:Value->Shared->Prop}(ht:IsTup s.heap t items)(hs:s.heap.IsSliceOf sl vl vu .none)(pl:IsPart vl lo)(pu:IsPart vu hi)
  (hw:b_ items.size 0 lo=0/\b_ items.size items.size hi=items.size) (h:Q (.ref t) s):wpAny (model prog w) A (getItem (.ref t) (.ref sl)) Q E s:=by
 obtain⟨os,tG,Cr,wD⟩:=id hs;have Jt:s.TypeIs (.ref sl) "slice":=⟨os,tG,Cr⟩;unfold getItem
 try with_reducible refine pQ ?_
 first|refine aB (aN ?_)|skip
 refine aB (wpAny_sequenceKey ht.typeIs Tv ?_);refine aB (zm (name:=Str.ofString "__getitem__") ht.typeIs wX
  (wZ wX ht.typeIs entry_tuple_getitem ?_ (args_tuple_getitem _ _)))
 show wpAny _ _ (Builtin.Tuple.tupleItemsOf (.ref t) >>= _) _ _ s;refine aB (tupleItemsOf_ ht ?_);refine aB (Ia Jt ?_);rw[if_pos Tv];refine aB (Zk hs pl pu ?_);have Ui:(((b_ items.size 0 lo:Nat):Int)==0&&(1:Int)==1&&(b_ items.size items.size hi-b_ items.size 0 lo)==items.size)=true:=by
  rw[hw.1,hw.2];simp
 show wpAny _ _ (if (((b_ items.size 0 lo:Nat):Int)==0&&(1:Int)==1&&(b_ items.size items.size hi-b_ items.size 0 lo)==items.size)=true then _ else _) _ _ s;rw[if_pos Ui];refine aB ?_;unfold Builtin.Tuple.tupleIsExact;refine aB (Ia ht.typeIs ?_);refine aN ?_;rw[if_pos Tv];refine aB (zJ ?_);exact aN ⟨_,rfl,aN h⟩
def zcr{i:Int}{t:Tok}{Q:Option Int->Shared->Prop}(h:Q (some i) s):wpAny (model prog w) A (Builtin.Slice.slicePartIndex (.int i t)) Q E s:=Sg (.int i t) h
theorem zbP{sl:Addr}{t:Tok}{n:Nat}{Q:Int×Int×Nat->Shared->Prop}(hs:s.heap.IsSliceOf sl .none .none (.int (-1) t))
  (h:Q ((n:Int)-1,-1,n) s):wpAny (model prog w) A (Builtin.Slice.sliceApplied (.ref sl) (pure (n:Int))) Q E s:=by
 obtain⟨os,tG,Cr,wD⟩:=id hs;unfold Builtin.Slice.sliceApplied Builtin.Slice.sliceFields;refine aB (aB (lD tG wD (x:=.none) rfl (aB (lD tG wD (x:=.none) rfl (aB (lD tG wD (x:=.int (-1) t) rfl (aN ?_)))))));refine aB (zcr ?_);show wpAny _ _ (if ((-1:Int)==0)=true then _ else _) _ _ s;rw[if_neg Tv];refine aB (slicePart_none (aB (slicePart_none (aB (aN ?_)))));show wpAny _ _ (pure ((n:Int)-1,(-1:Int),Builtin.Slice.slicePlaces ((n:Int)-1) (-1) (-1))) _ _ s;have e:Builtin.Slice.slicePlaces ((n:Int)-1) (-1) (-1)=n:=by
  unfold Builtin.Slice.slicePlaces;rw[if_neg Tv];by_cases hn:n=0
  ·subst hn;rfl
  ·rw[if_pos gV];have:(-(-1:Int))=1:=rfl;rw[this,Int.ediv_one]
   lia
 rw[e];exact aN h
theorem zhx(xs:Array Value):((List.range xs.size).filterMap λ(m:Nat)=>xs[(((xs.size:Int)-1)+(m:Int) * -1).toNat]?).toArray=xs.toList.reverse.toArray:=by
 have e:∀n,n<=xs.size->(List.range n).filterMap (λ(m:Nat)=>xs[(((xs.size:Int)-1)+(m:Int) * -1).toNat]?)=(xs.toList.reverse).take n:=by
  intro n
  induction n with
  |zero=>intro _;simp
  |succ n ih=>
   intro hn;have cg:n<xs.toList.reverse.length:=by simp;lia
   rw[List.range_succ,Q0,ih gV,MP cg]
   congr 1
   have:(((xs.size:Int)-1)+(n:Int) * -1).toNat=xs.size-1-n:=by lia
   simp only[Fq,List.filterMap_nil,this];rw[Array.getElem?_eq_getElem gV];simp[List.getElem_reverse]
 rw[e xs.size (cj _),List.take_of_length_le Zaa]
theorem iW(ht:IsTup s.heap t items)(hs:s.heap.IsSliceOf sl .none .none (.int (-1) tk))
  (h:Q (.ref s.heap.objs.size) {s with heap:=s.heap.push {cls:=.type "tuple",data:=.seq items.toList.reverse.toArray}})
  (hsz:items.size<=sizeLine):wpAny (model prog w) A (getItem (.ref t) (.ref sl)) Q E s:=by
 have iV:sizeOk (.seq items.toList.reverse.toArray):=by
  show items.toList.reverse.toArray.size<=sizeLine;simpa using hsz
 obtain⟨os,tG,Cr,wD⟩:=id hs;have Jt:s.TypeIs (.ref sl) "slice":=⟨os,tG,Cr⟩;unfold getItem
 try with_reducible refine pQ ?_
 first|refine aB (aN ?_)|skip
 refine aB (wpAny_sequenceKey ht.typeIs Tv ?_);refine aB (zm (name:=Str.ofString "__getitem__") ht.typeIs wX
  (wZ wX ht.typeIs entry_tuple_getitem ?_ (args_tuple_getitem _ _)))
 show wpAny _ _ (Builtin.Tuple.tupleItemsOf (.ref t) >>= _) _ _ s;refine aB (tupleItemsOf_ ht ?_);refine aB (Ia Jt ?_);rw[if_pos Tv];refine aB (zbP hs ?_);show wpAny _ _ (if (((items.size:Int)-1)==0&&(-1:Int)==1&&items.size==items.size)=true then _ else _) _ _ s;rw[if_neg Zaa,zhx]
 first
  |exact aB (m:=Builtin.Tuple.tupleExact _) (pN (aN ⟨_,rfl,aN h⟩) iV)
  |exact aB (m:=Builtin.Tuple.tupleExact _) (pN (aB (aN (aN ⟨_,rfl,aN h⟩))) iV)
  |exact aB (aB (m:=Builtin.Tuple.tupleExact _) (pN (aN (aN ⟨_,rfl,aN h⟩)) iV))
  |exact aB (aB (m:=Builtin.Tuple.tupleExact _) (pN (aN ⟨_,rfl,aN h⟩) iV))
end
end HT
namespace L2
open PySem PySem.Spec PyProof.Rows
section
variable {X:Cx}{e:Expr}{te:TE}{pos p2:Pos}
def vo(K:W.Frag):R2:=λx y H Q=>∃a b xs ys,x=.ref a/\y=.ref b/\gw K H a xs/\gw K H b ys/\xs.length+ys.length<=sizeLine /\
 (xs=[]->Q (.ref b) H)/\(ys=[]->Q (.ref a) H)/\∀p,H p=none->Q (.ref p) (upd H p (.tup (xs++ys)))
theorem vp:fV X (binaryOp .Add) (vo X.K):=by
 intro ao s Z H x y v u Q I rx ry h;obtain⟨a,b,xs,ys,rfl,rfl,ha,hb,hz,q0,q1,q2⟩:=h;cases rx;cases ry;obtain⟨its,r1,p1,_⟩:=I.tuple ha;obtain⟨its2,r2,p2,_⟩:=I.tuple hb;by_cases hx:xs=[]
 ·exact HT.vm p1 p2 (r1.m9.mpr hx) ⟨.ref b,H,I,rfl,q0 hx⟩
 ·refine HT.xY p1 p2 (λz=>hx (r1.m9.mp z)) (λz=>⟨.ref a,H,I,rfl,q1 (r2.m9.mp z)⟩) (λz=>?_) (by rw[<-r1.length,<-r2.length];exact hz);refine⟨.ref s.heap.objs.size,_,I.laid (t':=s.toks) (o:=.tup (xs++ys)) (λb ob q=>cD _ q) (cj _) ?_,rfl,q2 _ (I.hok.fresh (cj _))⟩;exact⟨by rw[pL];exact hz,_,r1.append r2,IsTup.new _ _⟩
def Ab(K:W.Frag):V->Option Int->Option Int->Hp->VK->Prop:=λx lo hi H Q=>∃a xs,x=.ref a/\gw K H a xs /\
 ((HT.b_ xs.length 0 lo=0/\HT.b_ xs.length xs.length hi=xs.length)->Q (.ref a) H)/\∀p,H p=none->Q (.ref p) (upd H p (.tup (m7 xs lo hi)))
theorem zjK:yd X (Ab X.K):=by
 intro ao s Z H x v vl vu lo hi sl Q I rx hs pl pu h;obtain⟨a,xs,rfl,hx,hw,q⟩:=h;by_cases hz:HT.b_ xs.length 0 lo=0/\HT.b_ xs.length xs.length hi=xs.length
 ·cases rx;obtain⟨its,r,ht,_⟩:=I.tuple hx;have hlen:its.toArray.size=xs.length:=by rw[eY];exact r.length.symm
  refine⟨"tuple",_,wX.lookup,ht.typeIs,?_⟩;exact HT.gR ht hs pl pu (by rw[hlen];exact hz) ⟨.ref a,H,I,rfl,hw hz⟩
 ·exact zm8 ao s Z H (.ref a) v vl vu lo hi sl Q I rx hs pl pu ⟨a,xs,rfl,hx,hz,q⟩
theorem zmb(he:PE X e te):PE X (.Subscript e (.Slice none none (some (.UnaryOp .USub (.Constant (.int 1) j p3) p4)) p2) pos) (λZ H Q=>te Z H λx H1=>∃a xs,x=.ref a/\gw X.K H1 a xs/\∀p,H1 p=none->Q (.ref p) (upd H1 p (.tup xs.reverse))):=by
 intro ao s Z H Q I h;refine Subscript_ (aX (he ao s Z H _ I h) λv s1 ⟨x,H1,I1,r1,a,xs,ex,hx,q⟩=>?_);subst ex;cases r1;refine wpAny_Slice ?_;rw[evalPart_none];refine aN (aN ?_);rw[evalPart_some];refine aX (Y6 (r:=rU λi=>.int (-i)) Y7 YK ao s1 Z H1 (λv H'=>v=.int (-1)/\H'=H1) I1 ⟨1,rfl,rfl,rfl⟩) λu s2 ⟨z,H2,I2,r2,ez,eH⟩=>?_;subst ez eH;obtain⟨t,rfl⟩:=r2;obtain⟨its,r,ht,hz⟩:=I2.tuple hx;have I4:Inv X ao Z H2 {s2 with heap:=s2.heap.push {cls:=.type "slice",data:=.fields #[.none,.none,.int (-1) t]}}:=I2.kept (t':=s2.toks) λb ob q=>cD _ q;obtain⟨its,r,ht,hz⟩:=I4.tuple hx;have hlen:its.toArray.size=xs.length:=by rw[eY];exact r.length.symm
 show wpAny (model X.prog X.w) X.A (subscriptTail e (.Slice none none (some (.UnaryOp .USub (.Constant (.int 1) j p3) p4)) p2) (.ref a) (.ref s2.heap.objs.size)) (EP X ao Z Q) X.xe {s2 with heap:=s2.heap.push {cls:=.type "slice",data:=.fields #[.none,.none,.int (-1) t]}};refine tail_any (ops:=[.ref a,.ref s2.heap.objs.size]) ht.typeIs wX.lookup (HT.iW ht (Heap.IsSliceOf.new ..) ?_ (by rw[hlen];exact hz)) (by with_unfolding_all rfl);refine⟨.ref _,_,I4.laid (t':=s2.toks) (o:=.tup xs.reverse) (λb ob q=>cD _ q) (cj _) ?_,rfl,q _ (I4.hok.fresh (cj _))⟩;refine⟨by rw[List.length_reverse];exact hz,_,?_,IsTup.new _ _⟩;have rv:∀{xs:List V} {us:List Value},Vals xs us->Vals xs.reverse us.reverse:=λ{xs us} r=>by
  induction r with
  |nil=>exact .nil
  |cons a b ih=>rw[Ni,Ni];exact ih.append (.cons a .nil)
 simpa using rv r
end
section
variable {X:Cx}
def Ac(K:W.Frag):R2:=λx y H Q=>∃l b xs zs,x=.ref l/\y=.ref b/\cY K H l xs/\cY K H b zs/\xs.length+zs.length<=sizeLine/\∀p,H p=none->Q (.ref p) (upd H p (.lst (xs++zs)))
theorem yH:fV X (binaryOp .Add) (Ac X.K):=by
 intro ao s Z H x y v u Q I rx ry h;obtain⟨l,b,xs,zs,rfl,rfl,hH,hB,hz,q⟩:=h;cases rx;cases ry;obtain⟨its,r,pl,_⟩:=I.list hH;obtain⟨its2,r2,pl2,_⟩:=I.list hB;obtain⟨⟨cls,dd,data,sl⟩,ho,hc,n,hd⟩:=pl.isList;obtain⟨⟨cls2,dd2,data2,sl2⟩,qx,nY,n2,hd2⟩:=pl2.isList;simp only at hc hd nY hd2;subst hc hd nY hd2;refine concat_meets ⟨_,ho,rfl⟩ ⟨_,qx,rfl⟩ noFill_list_add seq_list_add PySem.F.slot_list_add PySem.F.entry_list_add (PySem.F.args_list_add_2 _ _) (list_addW l b its.toArray its2.toArray n n2 dd dd2 sl sl2 (by rw[eY,eY,<-r.length,<-r2.length];exact hz)) ⟨ho,qx,?_⟩;have ea:its.toArray++its2.toArray=(its++its2).toArray:=by simp
 rw[ea];exact⟨.ref _,_,I.Sw (t':=s.toks) (r.append r2) (by rw[pL];omega),rfl,q _ I.fresh⟩
def rY(K:W.Frag):R2:=λx y H Q=>qp (λi j=>.int (i+j)) x y H Q\/Ac K x y H Q\/vo K x y H Q\/∃i j,x=.str i/\y=.str j/\i.length+j.length<=sizeLine/\Q (.str (i++j)) H
def zgL:fV X (binaryOp .Add) (rY X.K):=Cj.or (yH.or (vp.or zfB))
end
end L2
namespace Mi
open PySem PySem.Spec PyProof.Rows L2
section
variable {K:W.Frag}{cA:Cl}{U:Ph}{H:Hp}{Q:VK}{p:Pr}
def bM.some'{o:Option Rz}(h:bM K cA U H o Q):∃z,o=some z:=by
 cases o with
 |none=>exact h.elim
 |some z=>exact⟨z,rfl⟩
def bM.of{o:Option Rz}{z:Rz}(h:bM K cA U H o Q)(e:o=some z):bM K cA U H (some z) Q:=e▸h
def bM.here{d:D}{v:V}(h:bM K cA U H (some (.dat d)) Q)(r:Rep K cA U H d v):Q v H:=h H v bJ.refl r
theorem bM.tup{xs:List D}{vs:List V}{a:Addr}(h:bM K cA U H (some (.dat (.tup xs))) Q)(z:Zt U H)(r:aC K cA U H xs vs)(hp:H a=none):Q (.ref a) (upd H a (.tup vs)):=
 h _ _ (bJ.new hp) (.tup (TupAt.new (z.nz hp)) (r.mono (bJ.new hp).ext z.lz))
def yD.two{ds:List D}{vs:List V}{d d':D}(h:yD K cA U H [d,d'] vs):∃v v',vs=[v,v']/\Rv K cA U H d v/\Rv K cA U H d' v':=by
 cases h with
 |cons a r=>cases r with
  |cons b r=>cases r;exact⟨_,_,rfl,a,b⟩
def yD.one(h:yD K cA U H [d] vs):∃v,vs=[v]/\Rv K cA U H d v:=by
 cases h with
 |cons a r=>cases r;exact⟨_,rfl,a⟩
def Rv.int{i:Int}{v:V}(h:Rv K cA U H (.int i) v):v=.int i:=by cases (show Rep K cA U H (.int i) v from h);rfl
def Rv.bl{i:Bool}{v:V}(h:Rv K cA U H (.bl i) v):v=.bl i:=by cases (show Rep K cA U H (.bl i) v from h);rfl
def Rv.str{i:Str}{v:V}(h:Rv K cA U H (.str i) v):v=.str i:=by cases (show Rep K cA U H (.str i) v from h);rfl
def Rv.tup{xs:List D}{v:V}(h:Rv K cA U H (.tup xs) v):∃a vs,v=.ref a/\TupAt K U H a vs/\aC K cA U H xs vs:=by
 cases (show Rep K cA U H (.tup xs) v from h) with
 |tup a r=>exact⟨_,_,rfl,a,r⟩
theorem Rv.sq{d:D}{xs:List D}{v:V}(h:Rv K cA U H d v)(e:lV d=some xs):∃a vs,v=.ref a/\(cY K H a vs\/gw K H a vs)/\aC K cA U H xs vs:=by
 cases d with
 |tup ys=>
  cases e;obtain⟨a,vs,e,t,r⟩:=Rv.tup h;exact⟨a,vs,e,.inr t.jC,r⟩
 |fl ys=>
  cases e;obtain⟨a,vs,e,l,r⟩:=h;exact⟨a,vs,e,.inl l,r⟩
 |_=>cases e
theorem zdn{f:Int->Int->Option D}{ds:List D}{z:Rz}(h:dw f ds=some z):∃i j d,ds=[.int i,.int j]/\f i j=some d/\z=.dat d:=by
 cases ds with
 |nil=>cases h
 |cons a t=>
 cases a with
 |int i=>
  cases t with
  |nil=>cases h
  |cons b t=>
  cases b with
  |int j=>
   cases t with
   |cons _ _=>cases h
   |nil=>
    obtain⟨d,e1,e2⟩:=lB.mp h;exact⟨_,_,d,rfl,e1,e2.symm⟩
  |_=>cases h
 |_=>cases h
theorem Ks{f:Int->Int->Option D}(hp:prim p=dw f){C:Int->Int->Prop}{g:Int->Int->V}(hf:∀i j d,f i j=some d->C i j/\∀U H,Rep K cA U H d (g i j)):bK K cA p (r2 (rI C g)):=by
 intro U H ds vs Q zt rs o;rw[hp] at o;obtain⟨z,e⟩:=o.some';obtain⟨i,j,d,rfl,e1,rfl⟩:=zdn e;obtain⟨c,r⟩:=hf i j d e1;obtain⟨v,v',rfl,r1,r2⟩:=rs.two (ds:=[]);rw[r1.int,r2.int];exact⟨_,_,rfl,i,j,rfl,rfl,c,(o.of e).here (r U H)⟩
theorem GF{f:Int->Int->D}(hp:prim p=dw λi j=>some (f i j)){g:Int->Int->V}(hf:∀i j U H,Rep K cA U H (f i j) (g i j)):bK K cA p (r2 (qp g)):=by
 intro U H ds vs Q zt rs o;obtain⟨x,y,e,i,j,a,b,_,q⟩:=Ks (K:=K) (cA:=cA) (C:=λ_ _=>True) hp (λi j d e=>⟨trivial,λU H=>by cases e;exact hf i j U H⟩) U H ds vs Q zt rs o;exact⟨x,y,e,i,j,a,b,q⟩
def Ku{α:Type}{c:Prop}[Decidable c]{x y:α}(h:(if c then some x else none)=some y):c/\y=x:=by
 split at h
 ·rename_i z;cases h;exact⟨z,rfl⟩
 ·cases h
def zm1:bK K cA .aq (r2 (qp λi j=>.int (i-j))):=GF (f:=λi j=>.int (i-j)) rfl λi j _ _=>.int _
def zlY:bK K cA .mul (r2 (rI xW λi j=>.int (i*j))):=Ks rfl λi j d e=>by obtain⟨c,rfl⟩:=Ku e;exact⟨c,λ_ _=>.int _⟩
def zjm:bK K cA .fdiv (r2 (rI xV λi j=>.int (i/j))):=Ks rfl λi j d e=>by obtain⟨c,rfl⟩:=Ku e;exact⟨c,λ_ _=>.int _⟩
def zlE:bK K cA .mod (r2 (rI (λ_ j=>0<j) λi j=>.int (i%j))):=Ks rfl λi j d e=>by obtain⟨c,rfl⟩:=Ku e;exact⟨c,λ_ _=>.int _⟩
def znq:bK K cA .pow (r2 (rI Jh λi j=>.int (i^j.toNat))):=Ks rfl λi j d e=>by obtain⟨c,rfl⟩:=Ku e;exact⟨c,λ_ _=>.int _⟩
def zof:bK K cA .le (r2 (qp λi j=>.bl (decide (i<=j)))):=GF (f:=λi j=>.bl (decide (i<=j))) rfl λi j _ _=>.bl _
def znB:bK K cA .gt (r2 (qp λi j=>.bl (decide (j<i)))):=GF (f:=λi j=>.bl (decide (j<i))) rfl λi j _ _=>.bl _
def znF:bK K cA .ge (r2 (qp λi j=>.bl (decide (j<=i)))):=GF (f:=λi j=>.bl (decide (j<=i))) rfl λi j _ _=>.bl _
theorem zmf:bK K cA .neg (λvs H Q=>∃x,vs=[x]/\rU (λi=>.int (-i)) x H Q):=by
 intro U H ds vs Q zt rs o;obtain⟨z,e⟩:=o.some';have e:rP (λi=>.int (-i)) ds=some z:=e;cases ds with
 |nil=>cases e
 |cons a t=>
 cases a with
 |int i=>
  cases t with
  |cons _ _=>cases e
  |nil=>
   cases e;obtain⟨v,rfl,r1⟩:=rs.one;exact⟨_,rfl,_,r1.int,bM.here (o.of rfl) (.int _)⟩
 |_=>cases e
theorem znL:bK K cA .eq (r2 (yG K cA id)):=by
 intro U H ds vs Q zt rs o;obtain⟨z,e⟩:=o.some';have e:Dg id ds=some z:=e;unfold Dg at e;split at e
 ·obtain⟨b,e1,e2⟩:=lB.mp e;obtain⟨v,v',rfl,r1,r2⟩:=rs.two (ds:=[]);subst e2;exact⟨_,_,rfl,U,_,_,b,r1,r2,e1,(o.of e).here (.bl _)⟩
 ·cases e
theorem zoa:bK K cA .ne (r2 (yG K cA not)):=by
 intro U H ds vs Q zt rs o;obtain⟨z,e⟩:=o.some';have e:Dg not ds=some z:=e;unfold Dg at e;split at e
 ·obtain⟨b,e1,e2⟩:=lB.mp e;obtain⟨v,v',rfl,r1,r2⟩:=rs.two (ds:=[]);subst e2;exact⟨_,_,rfl,U,_,_,b,r1,r2,e1,(o.of e).here (.bl _)⟩
 ·cases e
theorem zjq{f:Bool->Bool}{ds:List D}{z:Rz}(h:zW f ds=some z):∃a b xs k,ds=[a,b]/\lV b=some xs/\memD a xs=some k/\z=.dat (.bl (f k)):=by
 unfold zW at h;split at h
 ·obtain⟨k,e1,e2⟩:=lB.mp h;obtain⟨xs,e3,e4⟩:=zp.mp e1;exact⟨_,_,xs,k,rfl,e3,e4,e2.symm⟩
 ·cases h
theorem znz:bK K cA .inn (r2 (Kr K cA id)):=by
 intro U H ds vs Q zt rs o;obtain⟨z,e⟩:=o.some';obtain⟨a,b,xs,k,rfl,e1,e2,rfl⟩:=zjq (show zW id ds=some z from e);obtain⟨v,v',rfl,r1,r2⟩:=rs.two (ds:=[]);exact⟨_,_,rfl,U,_,_,xs,k,r1,r2,e1,e2,(o.of e).here (.bl _)⟩
theorem O4:∀{xs:List D} {ns:List Int} {vs:List V},cI xs=some ns->aC K cA U H xs vs->vs=ns.map V.int
 |[],ns,vs,h,r=>by cases h;cases r;rfl
 |d::xs,ns,vs,h,r=>by
  cases d with
  |int i=>
   simp only[cI,lB] at h;obtain⟨ns',h1,rfl⟩:=h;cases r with
   |cons a r=>cases a;rw[O4 h1 r];rfl
  |_=>simp[cI] at h
def Uj:∀(a b:List Int),ltI a b=HT.lexLt a b
 |_,[]=>by cases ‹List Int›<;>rfl
 |[],_::_=>rfl
 |x::xs,y::ys=>by
  unfold ltI;rw[Uj xs ys,HT.kh]
theorem znI:bK K cA .lt (r2 λx y H Q=>qp (λi j=>.bl (decide (i<j))) x y H Q\/Jv K x y H Q):=by
 intro U H ds vs Q zt rs o;obtain⟨z,e⟩:=o.some';have e:J9 ds=some z:=e;unfold J9 at e;split at e
 ·cases e;obtain⟨v,v',rfl,r1,r2⟩:=rs.two (ds:=[]);exact⟨_,_,rfl,.inl ⟨_,_,r1.int,r2.int,bM.here (o.of rfl) (.bl _)⟩⟩
 ·split at e
  ·rename_i a b h1 h2;cases e;obtain⟨v,v',rfl,r1,r2⟩:=rs.two (ds:=[]);obtain⟨p,us,rfl,t1,q1⟩:=r1.tup;obtain⟨p',us',rfl,t2,q2⟩:=r2.tup;have o2:bM K cA U H (some (.dat (.bl (ltI a b)))) Q:=by
    have o3:bM K cA U H (J9 [.tup _,.tup _]) Q:=o;unfold J9 at o3;simp only[h1,h2] at o3;exact o3
   refine⟨_,_,rfl,.inr ⟨p,p',a,b,rfl,rfl,by rw[<-O4 h1 q1];exact t1.jC,by rw[<-O4 h2 q2];exact t2.jC,?_⟩⟩;rw[<-Uj];exact o2.here (.bl _)
  ·cases e
 ·cases e
theorem zlB:bK K cA .add (r2 (rY K)):=by
 intro U H ds vs Q zt rs o;have o:bM K cA U H (C_ ds) Q:=o;cases ds with
 |nil=>exact False.elim o
 |cons a t=>
 cases a with
 |int i=>
  cases t with
  |nil=>exact False.elim o
  |cons b t=>
  cases b with
  |int j=>
   cases t with
   |cons _ _=>exact False.elim o
   |nil=>
    obtain⟨v,v',rfl,r1,r2⟩:=rs.two (ds:=[]);exact⟨_,_,rfl,.inl ⟨_,_,r1.int,r2.int,bM.here o (.int _)⟩⟩
  |_=>exact False.elim o
 |tup xs=>
  cases t with
  |nil=>exact False.elim o
  |cons b t=>
  cases b with
  |tup ys=>
   cases t with
   |cons _ _=>exact False.elim o
   |nil=>
    obtain⟨v,v',rfl,r1,r2⟩:=rs.two (ds:=[]);obtain⟨p,us,rfl,t1,q1⟩:=r1.tup;obtain⟨p',us',rfl,t2,q2⟩:=r2.tup;have o:bM K cA U H (if xs.length+ys.length<=sizeLine then some (.dat (.tup (xs++ys))) else none) Q:=o;by_cases hz:xs.length+ys.length<=sizeLine
    ·rw[if_pos hz] at o;refine⟨_,_,rfl,.inr (.inr (.inl ⟨p,p',us,us',rfl,rfl,t1.jC,t2.jC,by rw[<-q1.len,<-q2.len];exact hz,λe=>?_,λe=>?_,λa ha=>o.tup zt (q1.app q2) ha⟩))⟩
     ·subst e;cases q1;exact o.here (.tup t2 q2)
     ·subst e;cases q2;rw[zB] at o;exact o.here (.tup t1 q1)
    ·rw[if_neg hz] at o;exact o.elim
  |_=>exact False.elim o
 |fl xs=>
  cases t with
  |nil=>exact False.elim o
  |cons b t=>
  cases b with
  |fl ys=>
   cases t with
   |cons _ _=>exact False.elim o
   |nil=>
    obtain⟨v,v',rfl,⟨p,us,rfl,t1,q1⟩,⟨p',us',rfl,t2,q2⟩⟩:=rs.two (ds:=[]);have o:bM K cA U H (if xs.length+ys.length<=sizeLine then some (.nw (xs++ys)) else none) Q:=o;by_cases hz:xs.length+ys.length<=sizeLine
    ·rw[if_pos hz] at o;exact⟨_,_,rfl,.inr (.inl ⟨p,p',us,us',rfl,rfl,t1,t2,by rw[<-q1.len,<-q2.len];exact hz,λa ha=>o a _ ha (q1.app q2)⟩)⟩
    ·rw[if_neg hz] at o;exact o.elim
  |_=>exact False.elim o
 |str x=>
  cases t with
  |nil=>exact False.elim o
  |cons b t=>
  cases b with
  |str y=>
   cases t with
   |cons _ _=>exact False.elim o
   |nil=>
    obtain⟨v,v',rfl,r1,r2⟩:=rs.two (ds:=[]);have o:bM K cA U H (if x.length+y.length<=sizeLine then some (.dat (.str (x++y))) else none) Q:=o;by_cases hz:x.length+y.length<=sizeLine
    ·rw[if_pos hz] at o;exact⟨_,_,rfl,.inr (.inr (.inr ⟨_,_,r1.str,r2.str,hz,o.here (.str _)⟩))⟩
    ·rw[if_neg hz] at o;exact o.elim
  |_=>exact False.elim o
 |_=>exact False.elim o
theorem zmp:bK K cA .len (λxs H Q=>∃p ys,xs=[.ref p]/\(cY K H p ys\/gw K H p ys)/\Q (.int ys.length) H):=by
 intro U H ds vs Q zt rs o;have o:bM K cA U H (tQ (λxs=>some (.dat (.int xs.length))) ds) Q:=o;unfold tQ at o;split at o
 ·obtain⟨v,rfl,r1⟩:=rs.one;obtain⟨z,e⟩:=o.some';obtain⟨xs,e1,e2⟩:=zp.mp e;obtain⟨a,us,rfl,sq,q⟩:=r1.sq e1;cases e2;refine⟨a,us,rfl,sq,?_⟩;rw[<-q.len];exact(o.of e).here (.int _)
 ·exact o.elim
theorem zkv:bK K cA .list (λxs H Q=>∃p ys,xs=[.ref p]/\(cY K H p ys\/gw K H p ys)/\∀l,H l=none->Q (.ref l) (upd H l (.lst ys))):=by
 intro U H ds vs Q zt rs o;have o:bM K cA U H (tQ (λxs=>some (.nw xs)) ds) Q:=o;unfold tQ at o;split at o
 ·obtain⟨v,rfl,r1⟩:=rs.one;obtain⟨z,e⟩:=o.some';obtain⟨xs,e1,e2⟩:=zp.mp e;obtain⟨a,us,rfl,sq,q⟩:=r1.sq e1;cases e2;exact⟨a,us,rfl,sq,λl hl=>(o.of e) l us hl q⟩
 ·exact o.elim
theorem zho:bK K cA .tuple (λxs H Q=>∃p ys,xs=[.ref p]/\((cY K H p ys/\∀l,H l=none->Q (.ref l) (upd H l (.tup ys)))\/(gw K H p ys/\Q (.ref p) H))):=by
 intro U H ds vs Q zt rs o;have o:bM K cA U H (qH ds) Q:=o;unfold qH at o;split at o
 ·rename_i d _;obtain⟨v,rfl,r1⟩:=rs.one;cases d with
  |tup xs=>
   obtain⟨a,us,rfl,t,q⟩:=r1.tup;exact⟨a,us,rfl,.inr ⟨t.jC,bM.here o (.tup t q)⟩⟩
  |fl xs=>
   obtain⟨a,us,rfl,t,q⟩:=r1;exact⟨a,us,rfl,.inl ⟨t,λl hl=>bM.tup o zt q hl⟩⟩
  |_=>exact o.elim
 ·exact o.elim
theorem zk9:bK K cA .abs (λxs H Q=>∃i,xs=[.int i]/\Q (.int (if i<0 then -i else i)) H):=by
 intro U H ds vs Q zt rs o;have o:bM K cA U H (rP (λi=>.int (if i<0 then -i else i)) ds) Q:=o;cases ds with
 |nil=>exact False.elim o
 |cons a t=>
 cases a with
 |int i=>
  cases t with
  |cons _ _=>exact False.elim o
  |nil=>
   obtain⟨v,rfl,r1⟩:=rs.one;rw[r1.int];exact⟨_,rfl,bM.here o (.int _)⟩
 |_=>exact False.elim o
theorem zj9:bK K cA .yu (λxs H Q=>(∃i,xs=[.int i]/\Q (.int i) H)\/∃k,xs=[.bl k]/\Q (.int (if k then 1 else 0)) H):=by
 intro U H ds vs Q zt rs o;have o:bM K cA U H (J_ ds) Q:=o;cases ds with
 |nil=>exact False.elim o
 |cons a t=>
 cases a with
 |int i=>
  cases t with
  |cons _ _=>exact False.elim o
  |nil=>
   obtain⟨v,rfl,r1⟩:=rs.one;rw[r1.int];exact .inl ⟨_,rfl,bM.here o (.int _)⟩
 |bl k=>
  cases t with
  |cons _ _=>exact False.elim o
  |nil=>
   obtain⟨v,rfl,r1⟩:=rs.one;rw[r1.bl];exact .inr ⟨_,rfl,bM.here o (.int _)⟩
 |_=>exact False.elim o
theorem zjr:bK K cA .max2 (λxs H Q=>∃i j,xs=[.int i,.int j]/\Q (.int (if j>i then j else i)) H):=by
 intro U H ds vs Q zt rs o;obtain⟨x,y,e,i,j,rfl,rfl,q⟩:=GF (K:=K) (cA:=cA) (p:=.max2) (f:=λi j=>.int (if j>i then j else i)) rfl (λi j _ _=>.int _) U H ds vs Q zt rs o;exact⟨i,j,e,q⟩
theorem zkM:bK K cA .min2 (λxs H Q=>∃i j,xs=[.int i,.int j]/\Q (.int (if j<i then j else i)) H):=by
 intro U H ds vs Q zt rs o;obtain⟨x,y,e,i,j,rfl,rfl,q⟩:=GF (K:=K) (cA:=cA) (p:=.min2) (f:=λi j=>.int (if j<i then j else i)) rfl (λi j _ _=>.int _) U H ds vs Q zt rs o;exact⟨i,j,e,q⟩
theorem zgF:bK K cA .divmod (λxs H Q=>∃i j,xs=[.int i,.int j]/\xV i j/\∀p,H p=none->Q (.ref p) (upd H p (.tup [.int (i/j),.int (i%j)]))):=by
 intro U H ds vs Q zt rs o;have o:bM K cA U H (dw (λi j=>if 0<j/\j<1073741824 then some (.tup [.int (i/j),.int (i%j)]) else none) ds) Q:=o;obtain⟨z,e⟩:=o.some';obtain⟨i,j,d,rfl,e1,rfl⟩:=zdn e;obtain⟨c,rfl⟩:=Ku e1;obtain⟨v,v',rfl,r1,r2⟩:=rs.two (ds:=[]);rw[r1.int,r2.int];exact⟨i,j,rfl,c,λp hp=>(o.of e).tup zt (.cons (.int _) (.cons (.int _) .nil)) hp⟩
theorem zcN:∀{xs:List D} {bs:List Bool} {vs:List V},dZ xs=some bs->aC K cA U H xs vs->vs=bs.map V.bl
 |[],bs,vs,h,r=>by cases h;cases r;rfl
 |d::xs,bs,vs,h,r=>by
  cases d with
  |bl b=>
   simp only[dZ,lB] at h;obtain⟨bs',h1,rfl⟩:=h;cases r with
   |cons q r=>cases q;rw[zcN h1 r];rfl
  |_=>simp[dZ] at h
theorem zn6:bK K cA .ix (r2 (Ss K)):=by
 intro U H ds vs Q zt rs o;have o:bM K cA U H (T4 ds) Q:=o;unfold T4 at o;split at o
 ·rename_i d i _;obtain⟨v,v',rfl,r1,r2⟩:=rs.two (ds:=[]);obtain⟨z,e⟩:=o.some';obtain⟨y,e1,e2⟩:=lB.mp e;obtain⟨xs,e3,e4⟩:=zp.mp e1;obtain⟨a,us,rfl,sq,q⟩:=r1.sq e3;have key:∃w,L2.rG us i=some w/\Rep K cA U H y w:=by
   unfold L2.rG at *;rw[<-q.len];obtain⟨j,h1,h2⟩:=zp.mp e4;obtain⟨w,h3,h4⟩:=q.get h2;exact⟨w,by rw[h1];exact h3,h4⟩
  obtain⟨w,hw,lR⟩:=key;subst e2;have q':=(o.of e).here lR;rcases sq with sq|sq
  ·exact⟨_,_,rfl,.inl ⟨a,us,i,w,rfl,r2.int,sq,hw,q'⟩⟩
  ·exact⟨_,_,rfl,.inr (.inl ⟨a,us,i,w,rfl,r2.int,sq,hw,q'⟩)⟩
 ·exact o.elim
def rSl(K:W.Frag):V->Option Int->Option Int->Hp->VK->Prop:=λx lo hi H Q=>JD K x lo hi H Q\/Ab K x lo hi H Q
def zmh:yd X (rSl X.K):=yj.or zjK
theorem zjk{d:D}{lo hi:Option Int}{v:V}(zt:Zt U H)(r:Rv K cA U H d v)(o:bM K cA U H (cutD d lo hi) Q):rSl K v lo hi H Q:=by
 cases d with
 |tup xs=>
  obtain⟨a,us,rfl,t,q⟩:=r.tup;refine .inr ⟨a,us,rfl,t.jC,λe=>?_,λp hp=>bM.tup o zt q.cut hp⟩;have hc:cut xs lo hi=xs:=by
   unfold cut;rw[q.len,e.1,e.2,List.drop_zero,Nat.sub_zero,<-q.len,Bp]
  have o:bM K cA U H (some (.dat (.tup (cut xs lo hi)))) Q:=o;rw[hc] at o;exact o.here (.tup t q)
 |fl xs=>
  obtain⟨a,us,rfl,t,q⟩:=r;exact .inl ⟨a,us,rfl,t,λp hp=>o p _ hp q.cut⟩
 |_=>exact o.elim
end
end Mi
namespace L2
open PySem PySem.Spec PyProof.Rows
section
variable {X:Cx}{ao:List (Addr×Obj)}{Z:St}{H:Hp}{s:Shared}{a:Addr}{y v:V}{u r:Value}{o:Option V}{A:Around}{E:Value->Shared->Prop}
def Inv.big(I:Inv X ao Z H s):sysModules<s.heap.objs.size:=by
 have h:mainGlobals<s.heap.objs.size:=(I.mod.glob.keeps I.bk).lt;exact Nat.lt_trans Tv h
theorem zki(I:Inv X ao Z H s)(mu:Iu (H a))(hs:Heap.SameBut a s.heap h')(he:∃q,h'.get? a=some q)(new:bL X.prog X.w (upd H a ob) h' a ob) :
  Inv X ao Z (upd H a ob) {s with heap:=h',toks:=t'}:=
 I.write (x:=a) (e:=a) mu (.inl rfl) (λb q hb z=>(hs.2 b hb).trans z) he new
end
def Ds(i:Expr):Prop:=∀ov iv,subscripted i false ov iv=operate [ov,iv] (getItem ov iv)
theorem zkN{prog:Program}{w:World}{A:Around}{E:Value->Shared->Prop}{s:Shared}{env:Env}{value slice:Expr}{pos:Pos}{T id:String}{Q:Value->Shared->Prop}
  (hl:typeLookup (.type T) "__getitem__"=pure (some (.builtin id))) (hs:Ds slice)
  (h:wpAny (model prog w) A (eval value env) (λo s₁=>wpAny (model prog w) A (eval slice env) (λi s₂=>s₂.TypeIs o T/\wpAny (model prog w) A (getItem o i) Q E s₂) E s₁) E s) :
  wpAny (model prog w) A (eval (.Subscript value slice pos) env) Q E s:=by
 refine Subscript_ (gj h (λo s₁ h₁=>gj h₁ (λi s₂ h₂=>?_) λ_ _ x=>x) λ_ _ x=>x);obtain⟨hT,h₂⟩:=h₂;unfold subscriptTail;refine aB ?_;rw[getitemInPython_of_ne hT.not_modules];refine aB (wpAny_specialOf hT hl ?_);have fin:wpAny (model prog w) A (subscripted slice false o i) (λr s₃=>wpAny (model prog w) A (letTemporaryGo value o r >>= λ_=>pure r) Q E s₃) E s₂:=by
  rw[hs o i];exact wpAny_operating (gj h₂ (λr s₃ h₃=>aB (wpAny_letTemporaryGo (aN h₃))) λ_ _ x=>x)
 first
  |exact aN (aB fin)
  |exact aB (aN (aB fin))
  |exact aB fin
end L2
namespace Mi
open PySem PySem.Spec PyProof.Rows L2
section
variable {X:Cx}{cA:Cl}{aq:Nat->Nat->Bool}{aj:Bool}{F:Fn}{EX:XS}{a b c d e o:Expr}{A B C Dd E' O:E}{pos pp p2 apos cpos:Pos}{es:List Expr}{Xs:Es}{fz:Bool}{p:Pr}{x:Str}{U:Ph}{H:Hp}{s:S}{lo hi:Option Expr}{Lo Hi:Eo}
def Kv(X:Cx)(cA:Cl)(aq:Nat->Nat->Bool)(aj:Bool)(F:Fn)(EX:XS)(oe:Option Expr)(m:Eo):Prop:=
 PO X oe (λZ H Q=>∃U J s,aZ X.K cA U H Z J/\aD X.K cA U H s/\Run X.K cA (yx aq aj F m J) U H s (λi _ U' H'=>Q i H') (eX X.K cA EX Z))
def PO.weak{oe:Option Expr}{t t':TO}(h:PO X oe t)(f:∀Z H Q,t' Z H Q->t Z H Q):PO X oe t':=by
 intro ao s Z H Q I q;exact h ao s Z H Q I (f Z H Q q)
def zoo:Kv X cA aq aj F EX none .no:=PO.weak zjE λZ H Q hh=>un hh λU J s hL hS h=>h.bN hS
theorem zls(ha:SE X cA aq aj F EX a A):Kv X cA aq aj F EX (some a) (.yes A):=PO.weak (zj6 ha) λZ H Q hh=>un hh λU J s hL hS h=>by
 refine bw hL hS h λx H1 U1 d1 s1 x1 hL1 aJ r1 h1=>?_;obtain⟨i,_,e,h3⟩:=Dq r1 h1;exact⟨i,e,h3.bN aJ⟩
theorem Kw{β:Type}{Z:L2.St}{J:Vs}{m:Eo}{k:Option Int->M β}{P:β->S->Ph->Hp->Prop}(hL:aZ X.K cA U H Z J)(hS:aD X.K cA U H s)(h:Run X.K cA (M.bd (yx aq aj F m J) k) U H s P (eX X.K cA EX Z)){Q:Option Int->Hp->Prop}
  (f:∀i H1 U1 s1,Ext U H U1 H1->aZ X.K cA U1 H1 Z J->aD X.K cA U1 H1 s1->Run X.K cA (k i) U1 H1 s1 P (eX X.K cA EX Z)->Q i H1) :
  ∃U J s,aZ X.K cA U H Z J/\aD X.K cA U H s/\Run X.K cA (yx aq aj F m J) U H s (λi _ U' H'=>Q i H') (eX X.K cA EX Z):=
 ⟨U,J,s,hL,hS,h.bd.imp λi s1 U1 H1 ⟨x1,r1,h1⟩=>f i H1 U1 s1 x1 (hL.mono x1 hS.lz) r1 h1⟩
theorem zn3(ha:SE X cA aq aj F EX a A)(hl:Kv X cA aq aj F EX lo Lo)(hh:Kv X cA aq aj F EX hi Hi):SE X cA aq aj F EX (.Subscript a (.Slice lo hi none p2) pos) (.sl fz A Lo Hi):=PE.weak (zhh zmh ha hl hh) λZ H Q hh=>un hh λU J s hL hS h=>by
 refine bw hL hS h λx H1 U1 d1 s1 x1 hL1 aJ r1 h1=>Kw hL1 aJ h1 λl H2 U2 s2 x2 hL2 aU h2=>Kw hL2 aU h2 λu H3 U3 s3 x3 pq gQ h3=>?_;obtain⟨dd,rv,h4⟩:=OJ gQ ((r1.mono x2 aJ.lz).mono x3 aU.lz) h3;exact zjk gQ.zs rv (uh gQ h4)
theorem zmr(ha:SE X cA aq aj F EX a A):SE X cA aq aj F EX (.Subscript a (.Slice none none (some (.UnaryOp .USub (.Constant (.int 1) j p3) p4)) p2) pos) (.pr true .rev (.cons A .nil)):=PE.weak (zmb ha) λZ H Q hh=>un hh λU J s hL hS h=>by
 have h:Run X.K cA (M.bd (M.bd (ev aq aj F A J) λx=>M.bd (M.ret []) λz=>M.ret (x::z)) λvs=>M.bd (g8 vs) λds=>cH true (prim .rev ds)) U H s _ _:=h;simp only[gP] at h;refine bw hL hS h λx H1 U1 d1 s1 x1 hL1 aJ r1 h1=>?_;obtain⟨ds,rs,h3⟩:=vh aJ (.cons r1 .nil) h1;have o:bM X.K cA U1 H1 (Dk ds) Q:=uh aJ h3;unfold Dk at o;split at o
 ·obtain⟨v,e,r⟩:=rs.one;cases e;obtain⟨ad,us,e2,t,q⟩:=r.tup;subst e2;exact⟨ad,us,rfl,t.jC,λp hp=>bM.tup o aJ.zs q.rev hp⟩
 ·exact o.elim
theorem zdh:∀bs:List Bool,(List.range bs.length).all (λi=>(bs[i]?).getD false)=bs.all id
 |[]=>rfl
 |b::r=>by
  rw[iu,QZ,Bv,List.all_map,Bv];have:=zdh r;simp only[Function.comp_def,Bf,List.getElem?_cons_zero,Option.getD_some,id];rw[this]
theorem zgW(hc:X.aj=true):cW X (.builtin "all") (λxs H Q=>∃(p:Addr) (bs:List Bool),xs=[.ref p]/\cY X.K H p (bs.map V.bl)/\Q (.bl (bs.all id)) H):=by
 intro ao s Z H xs us Q I r ⟨p,bs,e,hp,q⟩;subst e;obtain⟨u,rfl,ru⟩:=Vals.one r;cases (show u=Value.ref p from ru);obtain⟨its,rv,pl,hz⟩:=I.list hp;have hl:s.heap.IsList p its.toArray:=pl.isList;have hpn:p≠s.heap.objs.size:=by
  obtain⟨o,hg,_⟩:=hl;exact cV (bR hg)
 refine call_all_walk (HJ hl ?_);refine⟨_,_,_,_,_,_,λi=>(bs[i]?).getD false,rfl,Walks.list (A:=X.A.in1) (I.ok.hd hc) _ p hpn its.toArray,⟨⟨_,dX _ rfl,rfl,rfl⟩,hl.push _⟩,?_,λh' tk hk=>?_⟩
 ·intro i v s' Q' E' hP hQ;have hi:its[i]?=some v:=by simpa using hP
  have hb:∃b,bs[i]?=some b:=by
   have cg:i<its.length:=(eG.mp hi).1;have z:=rv.length;rw[cZ] at z;exact⟨_,dH gV⟩
  obtain⟨b,hb⟩:=hb;obtain⟨u,e1,e2⟩:=rv.get (i:=i) (x:=V.bl b) (by rw[iG,hb];rfl);rw[hi] at e1;cases e1;cases (show v=Value.bool b from e2);have hQ:Q' ((bs[i]?).getD false) s':=hQ;rw[hb] at hQ;exact v8 hQ
 ·have ez:(List.range its.toArray.size).all (λi=>(bs[i]?).getD false)=bs.all id:=by
   have z:=rv.length;rw[cZ] at z;rw[eY,<-z];exact zdh bs
  rw[ez];refine⟨.bl (bs.all id),H,I.kept (h':=h') (t':=tk) (old_kept hk),rfl,q⟩
theorem zlQ{K:W.Frag}:bK K cA .all (λxs H Q=>∃(p:Addr) (bs:List Bool),xs=[.ref p]/\cY K H p (bs.map V.bl)/\Q (.bl (bs.all id)) H):=by
 intro U H ds vs Q zt rs o;have o:bM K cA U H (Di ds) Q:=o;unfold Di at o;split at o
 ·obtain⟨v,rfl,⟨ad,us,rfl,l,q⟩⟩:=rs.one;obtain⟨z,e⟩:=o.some';obtain⟨bs,e1,e2⟩:=lB.mp e;subst e2;exact⟨ad,bs,rfl,by rw[<-zcN e1 q];exact l,(o.of e).here (.bl _)⟩
 ·exact o.elim
def O5:Kd->String->Bool
 |.int,"int"=>true
 |.int,"bool"=>true
 |.bool,"bool"=>true
 |.str,"str"=>true
 |.tuple,"tuple"=>true
 |.list,"list"=>true
 |.dict,"dict"=>true
 |_,_=>false
def vq:Kd->Option Value
 |.int=>some (.type "int")
 |.bool=>some (.type "bool")
 |.str=>some (.type "str")
 |.tuple=>some (.type "tuple")
 |.list=>some (.type "list")
 |.dict=>some (.type "dict")
 |_=>none
theorem zmT{K:W.Frag}{k:Kd}{cu:Value}(h:vq k=some cu){T:String}(hT:T∈["NoneType","bool","int","str","tuple","list","dict"]):PySem.W.kitOne K (.type T) cu=some (O5 k T):=by
 simp only[iM,List.mem_nil_iff,or_false] at hT;cases k<;>simp only[vq] at h<;>cases h<;>rcases hT with rfl|rfl|rfl|rfl|rfl|rfl|rfl<;>rfl
structure Ky(K:W.Frag)(cA:Cl)(aq:Nat->Nat->Bool):Prop where
 xc:∀c,XC K (cA.a c)
 aq:∀c e,PySem.W.kitOne K (.ref (cA.a c)) (.ref (cA.a e))=some (aq c e)
 tM:∀c,PySem.W.kitOne K (.ref (cA.a c)) (.type "ValueError")=some true
def GJ(cA:Cl):Kd->V
 |.cls e=>.ref (cA.a e)
 |.tM=>.ty "ValueError"
 |.int=>.ty "int"
 |.bool=>.ty "bool"
 |.str=>.ty "str"
 |.tuple=>.ty "tuple"
 |.list=>.ty "list"
 |.dict=>.ty "dict"
theorem ziA(Cs:vq k=none->Ky X.K cA aq) :
  cW X (.builtin "isinstance") (λxs H Q=>∃U d v bb,xs=[v,GJ cA k]/\Rv X.K cA U H d v/\mO aq d k=some bb/\Q (.bl bb) H):=by
 intro ao sh Z H xs us Q I r ⟨U,d,v,bb,e,rd,hi,q⟩;subst e;obtain⟨u,w,rfl,ru,Uk⟩:=Vals.two r;have vA:∀tk,EP X ao Z Q (.bool bb) {sh with toks:=tk}:=λtk=>⟨.bl bb,H,I.tok tk,rfl,q⟩;have bt:∀{T:String} {Hh:Heap->Prop},PySem.W.KitX X.K u (.type T) Hh->Hh sh.heap->T∈["NoneType","bool","int","str","tuple","list","dict"]->u≠Value.builtin "__main__.__loader__#opaque"->(∃cu,vq k=some cu/\w=cu/\O5 k T=bb)->wpAny (model X.prog X.w) X.A (PySem.call (.builtin "isinstance") [u,w]) (EP X ao Z Q) X.xe sh:=λ{T Hh} Ul hh hT hx ⟨cu,h1,h2,h3⟩=>by
  subst h2 h3;exact PySem.W.kia_one Ul I.mF hh (zmT h1 hT) hx vA
 have wv:∀cu,vq k=some cu->w=cu:=λcu h=>by
  cases k<;>simp only[vq] at h<;>cases h<;>exact Uk
 have fin:∀T,mO aq d k=(match vq k with|some _=>some (O5 k T)|none=>none)->∃cu,vq k=some cu/\w=cu/\O5 k T=bb:=λT h=>by
  rw[hi] at h;cases z:vq k with
  |none=>rw[z] at h;cases h
  |some cu=>rw[z] at h;cases h;exact⟨cu,rfl,wv cu z,rfl⟩
 cases d with
 |non=>
  cases (show Rep X.K cA U H .non v from rd);cases (show u=Value.none from ru);exact bt PySem.W.kitx_none trivial Zaa (λz=>nomatch z) (fin "NoneType" (by cases k<;>rfl))
 |bl b=>
  cases rd.bl;cases (show u=Value.bool b from ru);exact bt PySem.W.kitx_bool trivial Zaa (λz=>nomatch z) (fin "bool" (by cases k<;>rfl))
 |int i=>
  cases rd.int;obtain⟨t,z⟩:=(show ∃t,u=Value.int i t from ru);cases z;exact bt PySem.W.kitx_int trivial Zaa (λz=>nomatch z) (fin "int" (by cases k<;>rfl))
 |str y=>
  cases rd.str;obtain⟨t,z⟩:=(show ∃t,u=Value.str y t from ru);cases z;exact bt PySem.W.kitx_str trivial Zaa (λz=>nomatch z) (fin "str" (by cases k<;>rfl))
 |tup xs=>
  obtain⟨ad,vs,rfl,h1,h2⟩:=rd.tup;cases (show u=Value.ref ad from ru);obtain⟨its,_,ht,_⟩:=I.tuple h1.jC;obtain⟨o,q1,q2,_⟩:=ht;exact bt PySem.W.kitx_tuple ⟨o,q1,q2⟩ Zaa (λz=>nomatch z) (fin "tuple" (by cases k<;>rfl))
 |fl xs=>
  obtain⟨ad,vs,rfl,h1,h2⟩:=rd;cases (show u=Value.ref ad from ru);obtain⟨its,_,ht,_⟩:=I.list h1;obtain⟨o,q1,q2,_⟩:=ht.isList;exact bt PySem.W.kitx_list ⟨o,q1,q2⟩ Zaa (λz=>nomatch z) (fin "list" (by cases k<;>rfl))
 |fd ks vs=>
  cases (show Rep X.K cA U H (.fd ks vs) v from rd) with
  |@fd ad kk ii q1 n=>
   cases (show u=Value.ref ad from ru);obtain⟨_,_,vs,_,o,es',ep,g1,g2,_⟩:=(show bL X.prog X.w H sh.heap ad (.dK [(.inr kk,.int ii)]) from I.hok ad _ q1);exact bt PySem.W.kitx_dict ⟨o,g1,g2.1⟩ Zaa (λz=>nomatch z) (fin "dict" (by cases k<;>rfl))
 |ob c fs=>cases k<;>cases hi
 |any=>cases k<;>cases hi
 |exc c fs=>
  cases (show Rep X.K cA U H (.exc c fs) v from rd) with
  |@exc ad _ _ vs hx rs=>
   cases (show u=Value.ref ad from ru);have hI:∃ox od,PySem.W.InstAt sh.heap ad ox (cA.a c) od:=by
    obtain⟨_,⟨_,_,hx⟩|⟨dx,hx,_,hd,_⟩⟩:=hx
    ·obtain⟨⟨oe,vs,g1,g2,g3,g4⟩,_⟩:=(show bL X.prog X.w H sh.heap ad (yq ad (cA.a c) none) from I.hok ad _ hx);exact⟨oe,none,g1,g2,by unfold PySem.W.notCls;rw[g4],by rw[g3];trivial⟩
    ·obtain⟨⟨oe,vs,g1,g2,g3,g4⟩,_⟩:=(show bL X.prog X.w H sh.heap ad (yq ad (cA.a c) (some dx)) from I.hok ad _ hx);obtain⟨mA,⟨od,es,ep,e1,c1⟩,_⟩:=(show bL X.prog X.w H sh.heap dx (.xd _) from I.hok dx _ hd);exact⟨oe,some od,g1,g2,by unfold PySem.W.notCls;rw[g4],by rw[g3];exact e1⟩
   cases k with
   |cls e=>
    cases (show w=Value.ref (cA.a e) from Uk);have z:some (aq c e)=some bb:=hi;cases z;exact PySem.W.kia_one (Zy ((Cs rfl).xc c)) I.mF hI ((Cs rfl).aq c e) (λz=>nomatch z) vA
   |tM=>
    cases (show w=Value.type "ValueError" from Uk);have z:some true=some bb:=hi;cases z;exact PySem.W.kia_one (Zy ((Cs rfl).xc c)) I.mF hI ((Cs rfl).tM c) (λz=>nomatch z) vA
   |_=>cases hi
theorem zlX(Cs:vq k=none->Ky X.K cA aq)(hg:Gl X "isinstance")(hm:X.mg "isinstance"=none)(ha:SE X cA aq aj F EX a A)(hk:PE X kx (tC (GJ cA k)))(h1:starEach [a,kx] X.env=(false,eval a X.env)::starEach [kx] X.env:=by rfl)(h2:starEach [kx] X.env=(false,eval kx X.env)::starEach [] X.env:=by rfl)
  (hpl:(backTo pos (starEach [kx] X.env)).any (·.1)=false:=by rfl):SE X cA aq aj F EX (.Call (.Name "isinstance" pp) [a,kx] [] pos) (.rN A k):=PE.weak (Zi (ziA (cA:=cA) (k:=k) Cs) hg hm PyProof.Rows.boot_isinstance (sY ha (sY hk xX h2) h1) Tv Tv h1 hpl) λZ H Q hh=>un hh λU J s hL hS h=>
 bw hL hS h λv H1 U1 d s1 x1 hL1 aJ r1 h1=>by
  show ∃U d' v' bb,[v,GJ cA k]=[v',GJ cA k]/\_;obtain⟨dd,rv,h2⟩:=OJ aJ r1 h1;obtain⟨bb,e,h3⟩:=Run.nH h2;exact⟨U1,dd,v,bb,rfl,rv,e,h3.bN aJ _ (.d (.bl bb))⟩
end
theorem zej(n:Nat):∀is js:List Int,dj (c7 n) (is.map .int) (js.map .int)=some (decide (is=js))
 |[],[]=>rfl
 |[],_::_=>rfl
 |_::_,[]=>rfl
 |i::is,j::js=>by
  have e:c7 n (.int i) (.int j)=some (i==j):=by cases n<;>rfl
  simp only[jx,dj,zej n is js,e]
  congr 1
  by_cases h:i=j
  ·subst h;by_cases h2:is=js<;>simp[h2]
  ·simp[h]
theorem zlF{a b:Kx}:c7 2 (tV a) (tV b)=some (decide (a=b)):=by
 cases a with
 |non=>cases b<;>rfl
 |int i=>cases b with
  |int j=>
   show some (i==j)=_;by_cases h:i=j
   ·subst h;simp
   ·have hn:¬Kx.int i=Kx.int j:=λz=>h (by cases z;rfl);simp[h,hn]
  |_=>rfl
 |row is=>cases b with
  |row js=>
   show dj (c7 1) (is.map .int) (js.map .int)=_;rw[zej];by_cases h:is=js
   ·subst h;simp
   ·have hn:¬Kx.row is=Kx.row js:=λz=>h (by cases z;rfl);simp[h,hn]
  |_=>rfl
theorem zhc{x y:List Kx}:c7 3 (jr x) (jr y)=some (decide (x=y)):=by
 show dj (c7 2) (x.map tV) (y.map tV)=_
 induction x generalizing y with
 |nil=>cases y<;>rfl
 |cons a x ih=>cases y with
  |nil=>rfl
  |cons b y=>
   simp only[jx,dj,ih,zlF]
   congr 1
   by_cases h:a=b
   ·subst h;by_cases h2:x=y<;>simp[h2]
   ·simp[h]
def zdz:∀{xs:List D} {is:List Int},cI xs=some is->xs=is.map .int
 |[],is,h=>by cases h;rfl
 |x::r,is,h=>by
  cases x with
  |int i=>
   simp only[cI,lB] at h;obtain⟨js,h1,rfl⟩:=h;rw[zdz h1];rfl
  |_=>cases h
def zjV{d:D}{k:Kx}(h:vd d=some k):d=tV k:=by
 cases d with
 |non=>cases h;rfl
 |int i=>cases h;rfl
 |tup xs=>
  simp only[vd,lB] at h;obtain⟨js,h1,rfl⟩:=h;rw[zdz h1];rfl
 |_=>cases h
theorem ziK:∀{xs:List D} {k:List Kx},Dp xs=some k->xs=k.map tV
 |[],k,h=>by cases h;rfl
 |x::r,k,h=>by
  unfold Dp at h;cases e1:vd x with
  |none=>simp only[e1] at h;cases h
  |some a=>cases e2:Dp r with
   |none=>simp only[e1,e2] at h;cases h
   |some b=>
    simp only[e1,e2] at h;cases h;rw[zjV e1,ziK e2];rfl
def zlD{d:D}{k:List Kx}(h:kOf d=some k):d=jr k:=by
 cases d with
 |tup xs=>show D.tup xs=.tup _;rw[ziK h]
 |_=>cases h
noncomputable def kxT:Kx->Nat
 |.row is=>is.length+1
 |_=>1
def vB:List Kx->Nat
 |[]=>0
 |x::r=>kxT x+vB r
section
variable {prog:Program}{w:World}{A:Around}{E:Value->Shared->Prop}{s:Shared}{h h':Heap}
theorem zeu:∀{is:List Int} {us:List Value},jO h (is.map .int) us->ItemsAre (intKind prog w) is us
 |[],us,r=>by cases r;exact .nil
 |i::is,us,r=>by
  cases r with
  |cons a r=>cases a with
   |int i t=>exact .cons (by simp[intKind,Value.isInt]) (zeu r)
   |oth k=>cases k
def vC{is:List Int}{a:Value}(x:Is h (.tup (is.map .int)) a):∃b,a=.ref b/\IsTupleKey (intKind prog w) h is b:=by
 cases x with
 |tup p r=>
  obtain⟨o,e,c,n,d⟩:=p;exact⟨_,rfl,o,_,n,e,c,d,by simpa using zeu r⟩
 |oth k=>cases k
theorem zkQ{x:Kx}{u:Value}{Q:Int->Shared->Prop}(hu:A.units<cLine)(hx:Is s.heap (tV x) u)(q:Q (Ua x) {s with toks:=s.toks+kxT x}):wpAny (model prog w) A (pyHash u) Q E s:=by
 cases x with
 |non=>
  cases hx with
  |non=>exact PySem.W.pyHash_slot (T:="NoneType") rfl F.slot_NoneType_hash F.entry_NoneType_hash (F.args_NoneType_hash_1 _) (beq_builtin_none _) (.inr hu) (aB (aN (aB (wpAny_mkInt (aN ⟨_,_,rfl,q⟩)))))
  |oth k=>cases k
 |int i=>
  cases hx with
  |int i t=>exact wpAny_pyHash_int q
  |oth k=>cases k
 |row is=>
  obtain⟨b,rfl,k⟩:=vC (prog:=prog) (w:=w) hx;exact wpAny_pyHash_tuple hu k q
theorem zdC{k:List Kx}:∀{r:List Kx} {us:List Value} {b:Array Int} {s:Shared} {Q:Array Int->Shared->Prop},A.units<cLine->jO s.heap (r.map tV) us->(∀b':Array Int,b'.toList=b.toList++r.map Ua->Q b' {s with toks:=s.toks+vB r})->
  wpAny (model prog w) A (forIn us b λx r=>do let h <-pyHash x;pure PUnit.unit;pure (ForInStep.yield (r.push h))) Q E s
 |[],us,b,s,Q,hu,x,q=>by cases x;exact aN (q b Zaa)
 |a::r,us,b,s,Q,hu,x,q=>by
  cases x with
  |cons x1 x2=>
   rw[FZ];refine aB (aB (zkQ hu x1 (aB (aN (aN ?_)))));refine zdC (k:=k) hu x2 λb' e=>?_;have:=q b' (by simp[e]);simpa [vB,Nat.add_assoc] using this
theorem zhz{k:List Kx}{a:Addr}{Q:Int->Shared->Prop}(hu:A.units+1<cLine)(hk:Is s.heap (jr k) (.ref a))(q:Q (rT k) {s with toks:=s.toks+(vB k+1)}):wpAny (model prog w) A (pyHash (.ref a)) Q E s:=by
 cases hk with
 |oth k=>cases k
 |tup p r=>
  obtain⟨o,e,c,n,d⟩:=p;refine PySem.W.pyHash_slot (T:="tuple") ⟨_,e,c⟩ F.slot_tuple_hash F.entry_tuple_hash (F.args_tuple_hash_1 _) (beq_builtin_none _) (.inr gV) ?_;show wpAny _ _ (Builtin.Tuple.tupleItemsOf (.ref a) >>= _) _ _ s;refine aB (wpAny_tupleItemsOf e d (aB ?_));rw[<-Ng];refine zdC (A:=A.in1) (k:=k) (show A.units+1<cLine from hu) (by simpa using r) λb hb=>?_;show wpAny _ _ (retInt (Builtin.Tuple.tupleHashOf b.toList)) _ _ _;rw[hb];exact aB (wpAny_mkInt (aN ⟨_,_,rfl,by simpa [Nat.add_assoc,rT] using q⟩))
theorem zhq(ht:∀a xs,h.IsTuple a xs->h'.IsTuple a xs)(hl:∀a xs,h.IsList a xs->h'.IsList a xs){d:D}{u:Value}(x:Is h d u):Is h' d u:=
 Is.rec (motive_1:=λd u _=>Is h' d u) (motive_2:=λd u _=>jO h' d u) .non .bl .int .str (λp _ r=>.tup (ht _ _ p) r) (λp _ r=>.fl (hl _ _ p) r) (λk=>.oth k) .nil (λ_ _ a r=>.cons a r) x
theorem zhk:∀{n:Nat} {x:Kx} {u:Value} {Q:Bool->Shared->Prop},Is s.heap (tV x) u->Q true s->wpAny (model prog w) A (eqIsQuiet (n+1) u) Q E s:=by
 intro n x u Q hx q;cases x with
 |non=>
  cases hx with
  |non=>rw[eqIsQuiet_byValue _ rfl];exact aN q
  |oth k=>cases k
 |int i=>
  cases hx with
  |int i t=>rw[eqIsQuiet_byValue _ rfl];exact aN q
  |oth k=>cases k
 |row is=>
  obtain⟨b,rfl,k⟩:=vC (prog:=prog) (w:=w) hx;have ty:=k.typeIs;obtain⟨o,items,m,ho,_,hd,hi⟩:=k;unfold eqIsQuiet;refine aB (wpAny_specialOf ty F.slot_tuple_eq.lookup ?_);show wpAny _ A (isInstance (.ref b) (.type "tuple") >>= _) Q E s;refine aB (Np ty isSubtype_tuple_tuple ?_);simp only[Bool.not_true,sO,oE];refine aB (sS ho hd (aB ?_));show wpAny _ A (forIn items _ _) _ E s;rw[<-Ng];refine wpAny_forIn_list _ (λl r t=>r.1=none/\t=s/\∀v∈l,carriedByValue v=true) _ (λv l r t z=>?_) (λr t z=>?_) _ _ ⟨rfl,rfl,hi.byValue⟩
  ·obtain⟨_,rfl,qz⟩:=z;rw[eqIsQuiet_byValue _ (qz v lN)];exact aB (aN (aN ⟨rfl,rfl,λy hy=>qz y (iJ _ hy)⟩))
  ·obtain⟨r1,r2⟩:=r;obtain⟨z1,rfl,_⟩:=z;cases z1;exact aN q
theorem zgU{k:List Kx}{a:Addr}{Q:Bool->Shared->Prop}(hk:Is s.heap (jr k) (.ref a))(q:Q true s):wpAny (model prog w) A (eqIsQuiet 8 (.ref a)) Q E s:=by
 cases hk with
 |oth k=>cases k
 |@tup _ _ its p r=>
  obtain⟨o,ho,c,n,hd⟩:=p;unfold eqIsQuiet;refine aB (wpAny_specialOf ⟨_,ho,c⟩ F.slot_tuple_eq.lookup ?_);show wpAny _ A (isInstance (.ref a) (.type "tuple") >>= _) Q E s;refine aB (Np ⟨_,ho,c⟩ isSubtype_tuple_tuple ?_);simp only[Bool.not_true,sO,oE];refine aB (sS ho hd (aB ?_));show wpAny _ A (forIn its.toArray _ _) _ E s;rw[<-Ng];refine wpAny_forIn_list _ (λl r t=>r.1=none/\t=s/\∀v∈l,∃x,Is s.heap (tV x) v) _ (λv l r t z=>?_) (λr t z=>?_) _ _ ⟨rfl,rfl,?_⟩
  ·obtain⟨_,rfl,qz⟩:=z;obtain⟨x,hx⟩:=qz v lN;exact aB (zhk (n:=6) hx (aN ⟨rfl,rfl,λy hy=>qz y (iJ _ hy)⟩))
  ·obtain⟨r1,r2⟩:=r;obtain⟨z1,rfl,_⟩:=z;cases z1;exact aN q
  ·intro v hv;have:∀{ks:List Kx} {us:List Value},jO s.heap (ks.map tV) us->∀v∈us,∃x,Is s.heap (tV x) v:=λ{ks}=>by
    induction ks with
    |nil=>intro us r v hv;cases r;cases hv
    |cons y ks ih=>
     intro us r v hv;cases r with
     |cons a r=>
      rcases iM.mp hv with rfl|hv
      ·exact⟨y,a⟩
      ·exact ih r v hv
   exact this r v (by simpa using hv)
end
def jX(prog:Program)(w:World):HeapKind prog w (List Kx) where
 is:=λh k a=>Is h (jr k) (.ref a)
 hash:=rT
 draws:=λk=>vB k+1
 room:=λA=>A.units+4<cLine
 inj:=λx y=>iZ (Ug 3 x y zhc)
 keeps:=λ{h h' k a d o es ep} x ho hd hs=>zhq (λb xs ⟨q,e,c,n,z⟩=>⟨q,(hs.2 b λy=>by subst y;rw[ho] at e;cases e;rw[hd] at z;cases z).trans e,c,n,z⟩) (λb xs ⟨q,e,c,n,z⟩=>⟨q,(hs.2 b λy=>by subst y;rw[ho] at e;cases e;rw[hd] at z;cases z).trans e,c,n,z⟩) x
 pyHash:=λhu hk q=>zhz gV hk q
 eqBool:=λ{A E s x y a b Q} hu hx hy q=>Kq 3 (show A.units+3<cLine by lia) hx hy zhc _ _ _ _ q
 quiet:=λhk q=>zgU hk q
section
variable {K:W.Frag}{cA:Cl}{U U':Ph}{H H':Hp}{s:S}
def TupAt.lg(e:∀a,U'.z a->U.z a){a:Addr}{vs:List V}(h:TupAt K U H a vs):TupAt K U' H a vs:=h.imp (λ⟨p,n⟩=>⟨p,λz=>n (e a z)⟩) id
def LstAt.lg(e:∀a,U'.z a->U.z a){a:Addr}{vs:List V}(h:LstAt K U H a vs):LstAt K U' H a vs:=h.imp (λ⟨p,n⟩=>⟨p,λz=>n (e a z)⟩) id
def ExcAt.lg(e:∀a,U'.z a->U.z a){a:Addr}{c:Nat}{vs:List V}(h:ExcAt cA U H a c vs):ExcAt cA U' H a c vs:=
 ⟨λz=>h.1 (e a z),h.2.imp id λ⟨dx,p,n,q,l⟩=>⟨dx,p,λz=>n (e dx z),q,l⟩⟩
def qK.lg(e:∀a,U'.z a->U.z a){a:Addr}{c:Nat}{vs:List V}(h:qK cA U H a c vs):qK cA U' H a c vs:=⟨λz=>h.1 (e a z),h.2⟩
theorem Rep.lg(e:∀a,U'.z a->U.z a){d:D}{v:V}(h:Rep K cA U H d v):Rep K cA U' H d v:=
 Rep.rec (motive_1:=λd v _=>Rep K cA U' H d v) (motive_2:=λd v _=>aC K cA U' H d v) .non .bl .int .str (λh _ i=>.tup (h.lg e) i) (λh _ i=>.fl (h.lg e) i) (λh n=>.fd h (λz=>n (e _ z))) (λh _ i=>.exc (h.lg e) i) (λh _ i=>.ob (h.lg e) i) .any .nil (λ_ _ i j=>.cons i j) h
theorem aC.lg(e:∀a,U'.z a->U.z a){d:List D}{v:List V}(h:aC K cA U H d v):aC K cA U' H d v:=
 aC.rec (motive_1:=λd v _=>Rep K cA U' H d v) (motive_2:=λd v _=>aC K cA U' H d v) .non .bl .int .str (λh _ i=>.tup (h.lg e) i) (λh _ i=>.fl (h.lg e) i) (λh n=>.fd h (λz=>n (e _ z))) (λh _ i=>.exc (h.lg e) i) (λh _ i=>.ob (h.lg e) i) .any .nil (λ_ _ i j=>.cons i j) h
def lF.lg(e:∀a,U'.z a->U.z a){a:Addr}{o:SO}(h:lF K cA U H a o):lF K cA U' H a o:=h.map (λ_ _ q=>q) λ_ _ r=>r.lg e
def Rep.zl{d:D}{v:V}(h:Rep K cA U H d v)(l:List Addr):Rep K cA ⟨U.z,l⟩ H d v:=Rep.lg (U:=U) (U':=⟨U.z,l⟩) (λ_ z=>z) h
def aC.zl{d:List D}{v:List V}(h:aC K cA U H d v)(l:List Addr):aC K cA ⟨U.z,l⟩ H d v:=aC.lg (U:=U) (U':=⟨U.z,l⟩) (λ_ z=>z) h
def lF.zl{a:Addr}{o:SO}(h:lF K cA U H a o)(l:List Addr):lF K cA ⟨U.z,l⟩ H a o:=lF.lg (U:=U) (U':=⟨U.z,l⟩) (λ_ z=>z) h
noncomputable def adr(l:List Addr):List Nat->List Addr
 |[]=>[]
 |n::r=>match l[n]? with
  |some a=>a::adr l r
  |none=>adr l r
theorem GK{l:List Addr}:∀{ns:List Nat} {a:Addr},a∈adr l ns->∃n∈ns,l[n]?=some a
 |[],a,h=>by cases h
 |n::r,a,h=>by
  unfold adr at h;cases e:l[n]? with
  |none=>
   simp only[e] at h;obtain⟨m,h1,h2⟩:=GK h;exact⟨m,iJ _ h1,h2⟩
  |some b=>
   simp only[e] at h;rcases iM.mp h with rfl|h
   ·exact⟨n,lN,e⟩
   ·obtain⟨m,h1,h2⟩:=GK h;exact⟨m,iJ _ h1,h2⟩
theorem ze0{s:S}:∀{ns:List Nat} {s0:S} {i n:Nat},jN s ns=some s0->ns[i]?=some n->s0[i]?=s[n]?/\∃o,s[n]?=some o
 |[],s0,i,n,h,e=>by simp at e
 |m::r,s0,i,n,h,e=>by
  unfold jN at h;cases e1:s[m]? with
  |none=>simp only[e1] at h;cases h
  |some o=>
   cases e2:jN s r with
   |none=>simp only[e1,e2] at h;cases h
   |some q=>
    simp only[e1,e2] at h;cases h;cases i with
    |zero=>simp at e;subst e;exact⟨by simp[e1],o,e1⟩
    |succ i=>simpa using ze0 e2 (by simpa using e)
theorem zeO{s:S}:∀{ns:List Nat} {s0:S},jN s ns=some s0->s0.length=ns.length
 |[],s0,h=>by cases h;rfl
 |m::r,s0,h=>by
  unfold jN at h;cases e1:s[m]? with
  |none=>simp only[e1] at h;cases h
  |some o=>
   cases e2:jN s r with
   |none=>simp only[e1,e2] at h;cases h
   |some q=>
    simp only[e1,e2] at h;cases h;rw[iu,iu,zeO e2]
theorem Kz{l:List Addr}:∀{ns:List Nat} {i n:Nat},(∀n∈ns,∃a,l[n]?=some a)->ns[i]?=some n->(adr l ns)[i]?=l[n]?
 |[],i,n,_,e=>by simp at e
 |m::r,i,n,h,e=>by
  obtain⟨a,ha⟩:=h m lN;unfold adr;simp only[ha];cases i with
  |zero=>simp at e;subst e;simp[ha]
  |succ i=>simpa using Kz (λn hn=>h n (iJ _ hn)) (by simpa using e)
def KC{l:List Addr}:∀{ns:List Nat},(∀n∈ns,∃a,l[n]?=some a)->(adr l ns).length=ns.length
 |[],_=>rfl
 |m::r,h=>by
  obtain⟨a,ha⟩:=h m lN;unfold adr;simp only[ha];rw[iu,iu,KC (λn hn=>h n (iJ _ hn))]
theorem zdr{l:List Addr}(hl:l.Nodup):∀{ns:List Nat},ns.Nodup->(∀n∈ns,∃a,l[n]?=some a)->(adr l ns).Nodup
 |[],_,_=>Bs
 |m::r,hn,h=>by
  obtain⟨a,ha⟩:=h m lN;unfold adr;simp only[ha];obtain⟨h1,h2⟩:=w6.mp hn;refine w6.mpr ⟨λz=>?_,zdr hl h2 (λn hn=>h n (iJ _ hn))⟩;obtain⟨n,q1,q2⟩:=GK z;have:m=n:=(Rg (eG.mp ha).1 hl).mp (ha.trans q2.symm);exact h1 (this▸q1)
def GP{s:S}:∀{ns:List Nat} {s1:S},(dz s ns s1).length=s.length
 |[],s1=>by cases s1<;>rfl
 |n::r,[]=>rfl
 |n::r,o::q=>by
  show (dz (s.set n o) r q).length=_;rw[GP,qe]
theorem Um{s:S}:∀{ns:List Nat} {s1:S} {m:Nat},m∉ns->(dz s ns s1)[m]?=s[m]?
 |[],s1,m,_=>by cases s1<;>rfl
 |n::r,[],m,_=>rfl
 |n::r,o::q,m,h=>by
  show (dz (s.set n o) r q)[m]?=_;rw[Um (λz=>h (iJ _ z)),p8 (λz=>h (by rw[z];exact lN))]
theorem zeP{s:S}:∀{ns:List Nat} {s1:S} {i m:Nat} {o:SO},ns.Nodup->ns[i]?=some m->s1[i]?=some o->m<s.length->(dz s ns s1)[m]?=some o
 |[],s1,i,m,o,_,e,_,_=>by simp at e
 |n::r,[],i,m,o,_,_,e,_=>by simp at e
 |n::r,q::qs,i,m,o,hn,e1,e2,hm=>by
  show (dz (s.set n q) r qs)[m]?=_;obtain⟨h1,h2⟩:=w6.mp hn;cases i with
  |zero=>
   simp at e1 e2;subst e1 e2;rw[Um h1,zu hm]
  |succ i=>exact zeP h2 (by simpa using e1) (by simpa using e2) (by rw[qe];exact hm)
theorem zgs:∀{xs:List Xv} {vs:List V} (l0:List Addr) (z:Addr->Prop) (k:Nat),aR K cA U H xs vs->U.z=z->(∀i n,(locs xs)[i]?=some n->l0[k+i]?=U.l[n]?)->aR K cA ⟨z,l0⟩ H (dN k xs) vs
 :=by
 intro xs vs l0 z k r0
 induction r0 generalizing k with
 |nil=>exact λ_ _=>.nil
 |@cons x v xs vs a q ih=>
  intro ez h;cases a with
  |d a=>exact .cons (.d (a.lg λb hb=>by rw[ez];exact hb)) (ih k ez h)
  |@l n a' a=>
   refine .cons (.l ?_) (ih (k+1) ez λi m e=>?_)
   ·have:=h 0 n rfl;rw[Nat.add_zero] at this;show l0[k]?=_;rw[this];exact a
   ·have:=h (i+1) m (by simpa [locs] using e);rw[<-this]
    congr 1
    lia
theorem zfq:∀{xs:List Xv} {vs:List V},aR K cA U H xs vs->∀n∈locs xs,∃a,U.l[n]?=some a
 :=by
 intro xs vs r0
 induction r0 with
 |nil=>exact λn h=>by cases h
 |cons a q ih=>
  intro n h;cases a with
  |d a=>exact ih n h
  |l a=>
   rcases iM.mp h with rfl|h
   ·exact⟨_,a⟩
   ·exact ih n h
theorem zda{xs:List Xv}{U1:Ph}{s0 s1:S}(hS:aD K cA U H s)(hn:(locs xs).Nodup)(ht:∀n∈locs xs,∃a,U.l[n]?=some a)(x:Ext ⟨U.z,adr U.l (locs xs)⟩ H U1 H')(r1:aD K cA U1 H' s1) :
  Ext U H ⟨U1.z,U.l⟩ H'/\aD K cA ⟨U1.z,U.l⟩ H' (dz s (locs xs) s1):=by
 have aq:∀a∈adr U.l (locs xs),a∈U.l:=λa ha=>by obtain⟨n,_,q⟩:=GK ha;exact fG q
 obtain⟨r,er,hr⟩:=x.more;have er:U1.l=adr U.l (locs xs)++r:=er;refine⟨⟨⟨[],by simp,by simp⟩,λa h=>x.qL a h,λa h=>x.kY a h,λa o h t n=>x.frame a o h t λz=>n (aq a z),x.stay⟩,?_⟩;refine⟨by rw[GP];exact hS.len,λn o a e1 e2=>?_,hS.uniq,λa ha=>x.qL a (hS.lz a ha),r1.zt⟩;have e2:U.l[n]?=some a:=e2;by_cases hin:n∈locs xs
 ·obtain⟨i,hi,ei⟩:=v7 hin;have ei:(locs xs)[i]?=some n:=by rw[dH hi,ei]
  have ha:(adr U.l (locs xs))[i]?=some a:=by rw[Kz ht ei];exact e2
  have ha1:U1.l[i]?=some a:=by rw[er,pK (eG.mp ha).1];exact ha
  have cg:i<s1.length:=by rw[<-r1.len];exact(eG.mp ha1).1
  have hb:=zeP (s:=s) (s1:=s1) hn ei (dH cg) (by rw[<-hS.len];exact(eG.mp e2).1);rw[hb] at e1;cases e1;exact lF.zl (r1.obj i _ a (dH cg) ha1) _
 ·rw[Um hin] at e1;have Uo:a∉adr U.l (locs xs):=λz=>by
   obtain⟨m,q1,q2⟩:=GK z;have:n=m:=(Rg (eG.mp e2).1 hS.uniq).mp (e2.trans q2.symm);exact hin (this▸q1)
  exact(hS.obj n o a e1 e2).map (λ_ t q=>x.frame a _ q t Uo) λ_ _ r=>Rep.zl ((Rep.zl r _).mono x λa ha=>hS.lz a (aq a ha)) _
theorem zeB{F:List Xv->M Xv}{xs:List Xv}{vs:List V}{Q:VK}{EE:Nat->List D->Ph->Hp->Prop}(hS:aD K cA U H s)(r:aR K cA U H xs vs)
  (hE:∀c fs U1 U2 H',U1.z=U2.z->EE c fs U1 H'->EE c fs U2 H')
  (h:Run K cA (cO F xs) U H s (λx _ U' H'=>∀v,aW K cA U' H' x v->Q v H') (λc fs _ U' H'=>EE c fs U' H')) :
  ∃U0 s0,aR K cA U0 H (dN 0 xs) vs/\aD K cA U0 H s0/\Run K cA (F (dN 0 xs)) U0 H s0 (λx _ U' H'=>∀v,aW K cA U' H' x v->Q v H') (λc fs _ U' H'=>EE c fs U' H'):=by
 unfold Run cO at h;by_cases hn:(locs xs).Nodup
 ·simp only[if_pos hn] at h;have ht:=zfq r;have aq:∀a∈adr U.l (locs xs),a∈U.l:=λa ha=>by obtain⟨n,_,q⟩:=GK ha;exact fG q
  cases e0:jN s (locs xs) with
  |none=>simp only[e0] at h
  |some s0=>
   simp only[e0] at h;refine⟨⟨U.z,adr U.l (locs xs)⟩,s0,zgs _ _ 0 r rfl (λi n e=>by rw[Nat.zero_add];exact Kz ht e),?_,?_⟩
   ·refine⟨by rw[zeO e0];exact KC ht,λi o a e1 e2=>?_,zdr hS.uniq hn ht,λa ha=>hS.lz a (aq a ha),hS.zt⟩;have e2:(adr U.l (locs xs))[i]?=some a:=e2;have hi:i<(locs xs).length:=by rw[<-KC ht];exact(eG.mp e2).1
    have ei:(locs xs)[i]?=some ((locs xs)[i]):=dH hi;rw[Kz ht ei] at e2;rw[(ze0 e0 ei).1] at e1;exact lF.zl (hS.obj _ o a e1 e2) _
   ·unfold Run;cases e1:F (dN 0 xs) s0 with
    |none=>simp only[e1] at h
    |some q=>
     obtain⟨q,s1⟩:=q;simp only[e1] at h;cases q with
     |er c fs=>
      intro U1 H' x r1;obtain⟨x2,r2⟩:=zda (s0:=s0) hS hn ht x r1;exact hE c fs ⟨U1.z,U.l⟩ U1 H' rfl (h ⟨U1.z,U.l⟩ H' x2 r2)
     |ok y=>
      intro U1 H' x r1 v rv;obtain⟨x2,r2⟩:=zda (s0:=s0) hS hn ht x r1;cases y with
      |d w=>
       cases rv with
       |d rv=>exact h ⟨U1.z,U.l⟩ H' x2 r2 v (.d (Rep.zl rv _))
      |l n=>
       cases rv with
       |@l _ a hl=>
        obtain⟨rr,er,hr⟩:=x.more;have er:U1.l=adr U.l (locs xs)++rr:=er;cases em:(locs xs)[n]? with
        |some m=>
         simp only[em] at h;refine h _ H' x2 r2 _ (.l ?_);show U.l[m]?=some a;have ha:(adr U.l (locs xs))[n]?=U.l[m]?:=Kz ht em;have cg:n<(adr U.l (locs xs)).length:=by rw[KC ht];exact(eG.mp em).1
         rw[er,pK cg] at hl;rw[<-ha];exact hl
        |none=>
         simp only[em] at h;have uo:(adr U.l (locs xs)).length<=n:=by rw[KC ht];exact qZ.mp em
         have Gx:a∈rr:=by
          rw[er,pZ uo] at hl;exact fG hl
         have Uo:a∉U.l:=λz=>by
          obtain⟨o,eo⟩:=hS.zt a (hS.lz a z);rw[hr a Gx] at eo;cases eo
         cases eo:s1[n]? with
         |none=>simp only[eo] at h
         |some o=>
          simp only[eo] at h;have ho:=r1.obj n o a eo hl;refine h ⟨U1.z,U.l++[a]⟩ H' ⟨⟨[a],rfl,by simpa using hr a Gx⟩,x2.qL,x2.kY,x2.frame,x2.stay⟩ ?_ _ (.l (by show (U.l++[a])[s.length]?=_;rw[<-hS.len];simp));refine⟨by show (U.l++[a]).length=_;rw[pL,pL,GP,hS.len];rfl,λm o' a' e1 e2=>?_,?_,λb hb=>?_,r1.zt⟩
          ·have e2:(U.l++[a])[m]?=some a':=e2;by_cases hm:m<s.length
           ·rw[pK (by rw[GP];exact hm)] at e1;rw[pK (by rw[hS.len];exact hm)] at e2;exact lF.zl (r2.obj m o' a' e1 e2) _
           ·have Ad:m=s.length:=by
             have z:=(eG.mp e2).1;rw[pL,hS.len] at z;simp at z
             lia
            subst Ad;rw[pZ (by rw[GP];exact cj _)] at e1;rw[pZ (by rw[hS.len];exact cj _)] at e2;simp[GP] at e1;simp[hS.len] at e2;subst e1 e2;exact lF.zl ho _
          ·show (U.l++[a]).Nodup;rw[Nj];refine⟨hS.uniq,by simp,λb hb c hc e=>?_⟩;simp at hc;subst hc e;exact Uo hb
          ·have hb:b∈U.l++[a]:=hb;rcases nW.mp hb with z|z
           ·exact x2.qL b (hS.lz b z)
           ·simp at z;subst z;exact r1.lz _ (fG hl)
 ·simp only[if_neg hn] at h
end
section
variable {X:Cx}{cA:Cl}{aq:Nat->Nat->Bool}{aj:Bool}{F:Fn}{EX:XS}{a b c d e o:Expr}{A B C Dd E' O:E}{pos pp p2 apos cpos:Pos}{es:List Expr}{Xs:Es}{fz:Bool}{p:Pr}{x:Str}{U:Ph}{H:Hp}{s:S}
theorem Uq{K:W.Frag}{β:Type}{x:Xv}{v:V}{k:Nat×List D->M β}{P:β->S->Ph->Hp->Prop}{Ee:Nat->List D->S->Ph->Hp->Prop}(hS:aD K cA U H s)(r:aW K cA U H x v)(h:Run K cA (M.bd (dh x) k) U H s P Ee) :
  ∃n ad xs vs,x=.l n/\v=.ref ad/\s[n]?=some (.lst xs)/\U.l[n]?=some ad/\H ad=some (.lst vs)/\aC K cA U H xs vs/\Run K cA (k (n,xs)) U H s P Ee:=by
 cases r with
 |d _=>exact h.elim
 |@l n ad hl=>
  unfold Run M.bd dh at h;dsimp only at h;cases e:s[n]? with
  |none=>rw[e] at h;exact h.elim
  |some o=>
   rw[e] at h;cases o with
   |lst xs=>
    obtain⟨vs,q1,q2⟩:=hS.obj n _ _ e hl;exact⟨n,ad,xs,vs,rfl,rfl,e,hl,q1,q2,h⟩
   |_=>exact h.elim
theorem zji(ho:SE X cA aq aj F EX o O)(ha:SE X cA aq aj F EX a A)
  (oR:attributeBase o "append" X.env (eval o X.env)=eval o X.env:=by rfl)
  (Cw:((backTo cpos (starEach [a] X.env)).all (λx=>!x.1)&&(backToKw cpos (keywordEach [] X.env)).all (λx=>x.1.isSome)
  &&decide ([a].length+([]:List Keyword).length+(if ([]:List Keyword).isEmpty then 0 else 1)<30))=true:=by rfl)
  (oU:(apos.endLine==cpos.line)=true:=by rfl) (hs:starEach [a] X.env=(false,eval a X.env)::starEach [] X.env:=by rfl) (qy:(backTo cpos (starEach [] X.env)).any (·.1)=false:=by rfl) :
  SE X cA aq aj F EX (.Call (.Attribute o "append" apos) [a] [] cpos) (.push O A):=PE.weak (zou PySem.F.plainAttrs_list PySem.F.slot_list_append PySem.F.type_list_append Sy ho (sY ha xX hs) oR Cw oU hs qy) λZ H Q hh=>un hh λU J s hL hS h=>by
 refine bw hL hS h λx H1 U1 d1 s1 x1 hL1 aJ r1 h1=>?_;obtain⟨n,ad,xs,vs,rfl,rfl,e1,f1,g1,q1,h2⟩:=Uq aJ r1 h1;refine⟨.inl ⟨rfl,vs,cY.of g1⟩,bw hL1 aJ h2 λy H2 U2 d2 s2 x2 hL2 aU r2 h3=>?_⟩;obtain⟨dd,_,rd,h4⟩:=OD r2 h3;obtain⟨n',ad',ys,us,en,ea,e2,f2,g2,q2,h5⟩:=Uq aU (r1.mono x2 aJ.lz) h4;cases en;cases ea;by_cases hz:ys.length<sizeLine
 ·have h5:Run X.K cA (M.bd (putL n (ys++[dd])) λ_=>M.ret (Xv.d .non)) U2 H2 s2 (λd _ U' H'=>∀v,aW X.K cA U' H' d v->Q v H') (eX X.K cA EX Z):=by
   have h6:Run X.K cA (if ys.length<sizeLine then M.bd (putL n (ys++[dd])) λ_=>M.ret (Xv.d .non) else M.no) U2 H2 s2 (λd _ U' H'=>∀v,aW X.K cA U' H' d v->Q v H') (eX X.K cA EX Z):=h5;rw[if_pos hz] at h6;exact h6
  refine⟨ad,us,y,rfl,rfl,g2,by rw[<-q2.len];exact hz,?_⟩;exact h5 U2 _ (Ext.write f2 ⟨_,g2⟩) (aU.write e2 f2 (q2.app (.cons rd .nil))) _ (.d .non)
 ·have h6:Run X.K cA (if ys.length<sizeLine then M.bd (putL n (ys++[dd])) λ_=>M.ret (Xv.d .non) else M.no) U2 H2 s2 (λd _ U' H'=>∀v,aW X.K cA U' H' d v->Q v H') (eX X.K cA EX Z):=h5;rw[if_neg hz] at h6;exact h6.elim
def lW(K:W.Frag)(cA:Cl)(m:List Xv->M Xv):Sp:=λvs H Q E=>∃U xs s,aR K cA U H xs vs/\aD K cA U H s/\Run K cA (m xs) U H s (λd _ U' H'=>∀v,aW K cA U' H' d v->Q v H') (λc fs _ U' H'=>∀dx,k_ K cA U' H' c fs dx->E (.ref (cA.a c)) dx H')
def zjT{K:W.Frag}{U1 U2:Ph}{c:Nat}{fs:List D}{dx:Option Addr}(e:U1.z=U2.z)(h:k_ K cA U2 H c fs dx):k_ K cA U1 H c fs dx:=h.imp id λ⟨d,vs,a,b,c,l,r⟩=>⟨d,vs,a,by rw[e];exact b,c,l,r.lg λ_ z=>by rw[<-e];exact z⟩
theorem zj2{cm:Bool}{k f:Nat}{fa:Addr}{fd:FuncData}{ps:List Str}(Fo:cG X.prog X.w X.K X.mg X.base (fK X.prog X.w) cm k fa fd ps (lW X.K cA (F f)))(jo:cm=true->X.aj=true)(hr:bG k X.A)(hg:Gl X x)(hm:X.mg x=some (.ref fa))(hk:PySem.W.keepIn X.K (.ref fa)=true)(hb:Binds X.K fd ps [])(R:Raises X EX)
  (ha:SA X cA aq aj F EX (e::es) Xs) (tD:(x==("__debug__" : Str))=false:=by decide) (he:starEach (e::es) X.env=(false,eval e X.env)::starEach es X.env:=by rfl) (hpl:(backTo pos (starEach es X.env)).any (·.1)=false:=by rfl) :
  SE X cA aq aj F EX (.Call (.Name x pp) (e::es) [] pos) (.call f Xs):=PE.weak (zh8 Fo jo hr hg hm hk hb R ha tD he hpl) λZ H Q hh=>un hh λU J s hL hS h=>
 qN hL hS h λvs H1 U1 ds s1 x1 hL1 aJ r1 h1=>by
  obtain⟨U0,s0,a1,a2,a3⟩:=zeB (EE:=λc fs U' H'=>∀dx,k_ X.K cA U' H' c fs dx->EX Z (.ref (cA.a c)) dx H') aJ r1 (λc fs U1 U2 H' ez z dx q=>z dx (zjT ez q)) h1;exact⟨U0,_,s0,a1,a2,a3⟩
end
section
variable {K:W.Frag}{cA:Cl}{U U':Ph}{H H':Hp}{s:S}
def cM(U:Ph)(H H':Hp):Prop:=∀a o,H a=some o->¬U.z a->H' a=some o
mutual
theorem Rep.out(x:cM U H H'):∀{d:D} {v:V},Rep K cA U H d v->Rep K cA U H' d v
 |_,_,.non=>.non
 |_,_,.bl b=>.bl b
 |_,_,.int i=>.int i
 |_,_,.str z=>.str z
 |_,_,.tup h r=>.tup (h.imp (λ⟨p,n⟩=>⟨p.imp (λq=>x _ _ q n) λ⟨o,q⟩=>⟨o,x _ _ q n⟩,n⟩) id) (aC.out x r)
 |_,_,.fl h r=>.fl (h.imp (λ⟨p,n⟩=>⟨p.imp (λq=>x _ _ q n) λ⟨o,q⟩=>⟨o,x _ _ q n⟩,n⟩) id) (aC.out x r)
 |_,_,.fd h n=>.fd (x _ _ h n) n
 |_,_,.exc h r=>.exc ⟨h.1,h.2.imp (λ⟨a,b,q⟩=>⟨a,b,x _ _ q h.1⟩) λ⟨dx,p,n,q,l⟩=>⟨dx,x _ _ p h.1,n,x _ _ q n,l⟩⟩ (aC.out x r)
 |_,_,.any v=>.any v
 |_,_,.ob h r=>.ob ⟨h.1,let ⟨dx,p,l⟩:=h.2;⟨dx,x _ _ p h.1,l⟩⟩ (aC.out x r)
theorem aC.out(x:cM U H H'):∀{ds:List D} {vs:List V},aC K cA U H ds vs->aC K cA U H' ds vs
 |_,_,.nil=>.nil
 |_,_,.cons h r=>.cons (Rep.out x h) (aC.out x r)
end
def aW.out(x:cM U H H'){d:Xv}{v:V}(h:aW K cA U H d v):aW K cA U H' d v:=by
 cases h with
 |d h=>exact .d (h.out x)
 |l h=>exact .l h
def aZ.out(x:cM U H H')(h:aZ K cA U H Z J):aZ K cA U H' Z J:=⟨h.1,λi d e=>let ⟨v,a,b⟩:=h.2 i d e;⟨v,a,b.out x⟩⟩
def cM.refl:cM U H H:=λa o e _=>e
structure jP(K:W.Frag)(cA:Cl)(c:Src)(U:Ph)(H:Hp)(bf:L2.It):Prop where
 stop:∀U' H₁ H' s' i,Ext U H U' H₁->cM U' H₁ H'->aD K cA U' H' s'->c.at i s'=some none->bf.stop i H'
 go:∀U' H₁ H' s' i x,Ext U H U' H₁->cM U' H₁ H'->aD K cA U' H' s'->c.at i s'=some (some x)->bf.go i H'
 uO:∀U' H₁ H' s' i x v H2,Ext U H U' H₁->cM U' H₁ H'->aD K cA U' H' s'->c.at i s'=some (some x)->bf.uO i H' v H2->bJ H' H2/\Rep K cA U' H2 x v
def LstAt.later(hz:∀a∈U.l,U.z a)(h:LstAt K U H a vs)(x:Ext U H U' H₁)(o:cM U' H₁ H'):LstAt K U' H' a vs:=
 (h.mono x hz).imp (λ⟨p,n⟩=>⟨p.imp (λq=>o _ _ q n) λ⟨w,q⟩=>⟨w,o _ _ q n⟩,n⟩) id
def TupAt.later(hz:∀a∈U.l,U.z a)(h:TupAt K U H a vs)(x:Ext U H U' H₁)(o:cM U' H₁ H'):TupAt K U' H' a vs:=
 (h.mono x hz).imp (λ⟨p,n⟩=>⟨p.imp (λq=>o _ _ q n) λ⟨w,q⟩=>⟨w,o _ _ q n⟩,n⟩) id
theorem jP.list(hz:∀a∈U.l,U.z a)(h:LstAt K U H a vs)(r:aC K cA U H xs vs):jP K cA (.fix xs) U H (N_ K a):=by
 refine⟨λU' H₁ H' s' i x o hS e=>⟨vs,(h.later hz x o).tW,?_⟩,λU' H₁ H' s' i d x o hS e=>?_,λU' H₁ H' s' i d v H2 x o hS e y=>?_⟩
 ·have e:xs[i]?=none:=cJ e;exact qZ.mp ((r.mono x hz).none e)
 ·have e:xs[i]?=some d:=cJ e;obtain⟨v,q,_⟩:=r.get e;exact⟨vs,v,(h.later hz x o).tW,q⟩
 ·have e:xs[i]?=some d:=cJ e;obtain⟨rfl,y⟩:=y;obtain⟨w,q,lR⟩:=((r.mono x hz).out o).get e;have:=y vs (h.later hz x o).tW;rw[q] at this;cases this;exact⟨bJ.refl,lR⟩
theorem jP.tuple(hz:∀a∈U.l,U.z a)(h:TupAt K U H a vs)(r:aC K cA U H xs vs):jP K cA (.fix xs) U H (RQ K a):=by
 refine⟨λU' H₁ H' s' i x o hS e=>⟨vs,(h.later hz x o).jC,?_⟩,λU' H₁ H' s' i d x o hS e=>?_,λU' H₁ H' s' i d v H2 x o hS e y=>?_⟩
 ·have e:xs[i]?=none:=cJ e;exact qZ.mp ((r.mono x hz).none e)
 ·have e:xs[i]?=some d:=cJ e;obtain⟨v,q,_⟩:=r.get e;exact⟨vs,v,(h.later hz x o).jC,q⟩
 ·have e:xs[i]?=some d:=cJ e;obtain⟨rfl,y⟩:=y;obtain⟨w,q,lR⟩:=((r.mono x hz).out o).get e;have:=y vs (h.later hz x o).jC;rw[q] at this;cases this;exact⟨bJ.refl,lR⟩
theorem Ur(h:(Src.live n).at i s=some o):∃xs,s[n]?=some (.lst xs)/\xs[i]?=o:=by
 unfold Src.at at h;dsimp only at h;cases e:s[n]? with
 |none=>rw[e] at h;cases h
 |some ob=>
  rw[e] at h;cases ob with
  |lst xs=>exact⟨xs,rfl,cJ h⟩
  |_=>cases h
theorem jP.live(h:U.l[n]?=some a):jP K cA (.live n) U H (N_ K a):=by
 refine⟨λU' H₁ H' s' i x o hS e=>?_,λU' H₁ H' s' i d x o hS e=>?_,λU' H₁ H' s' i d v H2 x o hS e y=>?_⟩
 ·obtain⟨xs,e1,e2⟩:=Ur e;obtain⟨vs,q1,q2⟩:=hS.obj n _ a e1 (x.get h);exact⟨vs,cY.of q1,qZ.mp (q2.none e2)⟩
 ·obtain⟨xs,e1,e2⟩:=Ur e;obtain⟨vs,q1,q2⟩:=hS.obj n _ a e1 (x.get h);obtain⟨v,q3,_⟩:=q2.get e2;exact⟨vs,v,cY.of q1,q3⟩
 ·obtain⟨xs,e1,e2⟩:=Ur e;obtain⟨vs,q1,q2⟩:=hS.obj n _ a e1 (x.get h);obtain⟨w,q3,lR⟩:=q2.get e2;obtain⟨rfl,y⟩:=y;have:=y vs (cY.of q1);rw[q3] at this;cases this;exact⟨bJ.refl,lR⟩
theorem Us:(jM a b)[i]?=if i<(b-a).toNat then some (.int (a+i)) else none:=by
 unfold jM;rw[iG,List.getElem?_range']
where
 List.getElem?_range' {n i:Nat}:Option.map (λ(i:Nat)=>D.int (a+i)) (List.range n)[i]?=if i<n then some (.int (a+i)) else none:=by
  by_cases h:i<n
  ·rw[if_pos h,Fw h];rfl
  ·rw[if_neg h,List.getElem?_eq_none (by simp;lia)];rfl
theorem jP.range{a b:Int}:jP K cA (.fix (jM a b)) U H (Jd a (b-a).toNat):=by
 refine⟨λU' H₁ H' s' i x o hS e=>?_,λU' H₁ H' s' i d x o hS e=>?_,λU' H₁ H' s' i d v H2 x o hS e y=>?_⟩
 ·have e:(jM a b)[i]?=none:=cJ e;rw[Us] at e;split at e
  ·cases e
  ·exact HN (by assumption)
 ·have e:(jM a b)[i]?=some d:=cJ e;rw[Us] at e;split at e
  ·assumption
  ·cases e
 ·have e:(jM a b)[i]?=some d:=cJ e;rw[Us] at e;split at e
  ·cases e;obtain⟨rfl,rfl⟩:=y;exact⟨bJ.refl,.int _⟩
  ·cases e
end
def Ut(K:W.Frag)(te:TE):TI:=λZ H R=>te Z H λv H1=>∃a,v=.ref a/\(((∃xs,cY K H1 a xs)/\R (N_ K a) H1)\/((∃xs,gw K H1 a xs)/\R (RQ K a) H1))
theorem zmI(he:PE X l te):PI X tg l (Ut X.K te):=by
 intro ao s Z H R I h;refine aX (he ao s Z H _ I h) λv s1 hx=>Ri hx λx H1 I1 r1 a e q=>?_;subst e;cases r1;rcases q with ⟨⟨xs,hq⟩,q⟩|⟨⟨xs,hq⟩,q⟩
 ·obtain⟨its,rv,p,hz⟩:=I1.list hq;refine HJ p.isList ?_;refine⟨s1.heap.objs.size,[s1.heap.objs.size],_,_,H1,rfl,I1.kept (t':=s1.toks) λb o e=>cD _ e,zgo a _,⟨_,dX _ rfl,rfl,rfl⟩,λb hb=>?_,q⟩;have e:b=s1.heap.objs.size:=by simpa using hb
  subst e;exact I1.uP (cj _) (I1.hok.fresh (cj _))
 ·obtain⟨its,rv,p,hz⟩:=I1.tuple hq;refine wpAny_pyIter_tuple (show s1.heap.IsTuple a its.toArray from p) ?_;refine⟨s1.heap.objs.size,[s1.heap.objs.size],_,_,H1,rfl,I1.kept (t':=s1.toks) λb o e=>cD _ e,zfn a _,⟨_,dX _ rfl,rfl,rfl⟩,λb hb=>?_,q⟩;have e:b=s1.heap.objs.size:=by simpa using hb
  subst e;exact I1.uP (cj _) (I1.hok.fresh (cj _))
section
variable {X:Cx}{cA:Cl}{aq:Nat->Nat->Bool}{aj:Bool}{F:Fn}{EX:XS}{a b tg:Expr}{A B:E}{pos pp:Pos}
def tI(K:W.Frag)(cA:Cl)(EX:XS)(m:Vs->M (Src×Nat)):TI:=λZ H R=>∃U J s,aZ K cA U H Z J/\aD K cA U H s/\Run K cA (m J) U H s (λcn _ U1 H1=>∀bf,jP K cA cn.1 U1 H1 bf->R bf H1) (eX K cA EX Z)
def SI(X:Cx)(cA:Cl)(aq:Nat->Nat->Bool)(aj:Bool)(F:Fn)(EX:XS)(tg iter:Expr)(w:Wk):Prop:=PI X tg iter (tI X.K cA EX (je aq aj F w))
def PI.weak{iter:Expr}{t t':TI}(h:PI X tg iter t)(f:∀Z H Q,t' Z H Q->t Z H Q):PI X tg iter t':=λao s Z H Q I q=>h ao s Z H Q I (f Z H Q q)
theorem zmo(ha:SE X cA aq aj F EX a A):SI X cA aq aj F EX tg a (.seq A):=PI.weak (zmI ha) λZ H R hh=>un hh λU J s hL hS h=>by
 refine bw hL hS h λv H1 U1 d s1 x1 hL1 aJ r1 h1=>?_;cases r1 with
 |@l n ad hl=>
  unfold Run src at h1;dsimp only at h1;cases e:s1[n]? with
  |none=>rw[e] at h1;exact h1.elim
  |some o=>
   rw[e] at h1;cases o with
   |lst xs=>
    obtain⟨vs,q1,q2⟩:=aJ.obj n _ _ e hl;exact⟨ad,rfl,.inl ⟨⟨vs,cY.of q1⟩,h1 U1 H1 Ext.refl aJ _ (jP.live hl)⟩⟩
   |_=>exact h1.elim
 |d r1=>
  cases r1 with
  |tup q r=>exact⟨_,rfl,.inr ⟨⟨_,q.jC⟩,h1 U1 H1 Ext.refl aJ _ (jP.tuple aJ.lz q r)⟩⟩
  |fl q r=>exact⟨_,rfl,.inl ⟨⟨_,q.tW⟩,h1 U1 H1 Ext.refl aJ _ (jP.list aJ.lz q r)⟩⟩
  |_=>exact h1.elim
def zep{i:Int}(h:gF i=true) : -(2^62)<=i/\i<2^62:=by
 unfold gF at h;rw[gb,FN,FN] at h;exact⟨by lia,h.2⟩
theorem ziI{K:W.Frag}{U:Ph}{H:Hp}{s:S}{i j:Int}{P:Src×Nat->S->Ph->Hp->Prop}{Ee:Nat->List D->S->Ph->Hp->Prop}(hS:aD K cA U H s)(h:Run K cA (if (gF i&&gF j)=true then M.ret (Src.fix (jM i j),(jM i j).length) else M.no) U H s P Ee):(-(2^62)<=i/\i<2^62/\-(2^62)<=j/\j<2^62)/\P (.fix (jM i j),(jM i j).length) s U H:=by
 by_cases hk:(gF i&&gF j)=true
 ·rw[if_pos hk] at h;rw[gb] at hk;obtain⟨a,b⟩:=zep hk.1;obtain⟨c,d⟩:=zep hk.2;exact⟨⟨a,b,c,d⟩,h.bN hS⟩
 ·rw[if_neg hk] at h;exact h.elim
theorem zoA(qO:Gl X "range")(hmg:X.mg "range"=none)(ha:SE X cA aq aj F EX a A)(hb:SE X cA aq aj F EX b B)(h1:starEach [a,b] X.env=(false,eval a X.env)::starEach [b] X.env)(h2:starEach [b] X.env=(false,eval b X.env)::starEach [] X.env) :
  SI X cA aq aj F EX tg (.Call (.Name "range" pp) [a,b] [] pos) (.rg A B):=PI.weak (zgO qO hmg (sY ha (sY hb xX h2) h1) (by rw[h1,h2];rfl) (by rw[h2];rfl)) λZ H R hh=>un hh λU J s hL hS h=>by
 refine bw hL hS h λx H1 U1 d1 s1 x1 hL1 aJ r1 h1=>bw hL1 aJ h1 λy H2 U2 d2 s2 x2 hL2 aU r2 h2=>?_;obtain⟨i,_,e1,h3⟩:=Dq (r1.mono x2 aJ.lz) h2;obtain⟨j,_,e2,h4⟩:=Dq r2 h3;obtain⟨hz,q⟩:=ziI aU h4;subst e1 e2;exact⟨i,j,rfl,hz,q _ jP.range⟩
theorem zmJ(qO:Gl X "range")(hmg:X.mg "range"=none)(hb:SE X cA aq aj F EX b B)(h2:starEach [b] X.env=(false,eval b X.env)::starEach [] X.env) :
  SI X cA aq aj F EX tg (.Call (.Name "range" pp) [b] [] pos) (.rg (.c (.int 0)) B):=PI.weak (zgp qO hmg (sY hb xX h2) (by rw[h2];rfl)) λZ H R hh=>un hh λU J s hL hS h=>by
 have h:Run X.K cA (M.bd (ev aq aj F B J) λy=>M.bd (int (.d (.int 0))) λi=>M.bd (int y) λj=>if (gF i&&gF j)=true then M.ret (Src.fix (jM i j),(jM i j).length) else M.no) U H s _ _:=h;refine bw hL hS h λy H2 U2 d2 s2 x2 hL2 aU r2 h2=>?_;obtain⟨j,_,e2,h4⟩:=Dq r2 (show Run X.K cA (M.bd (int d2) λj=>if (gF 0&&gF j)=true then M.ret (Src.fix (jM 0 j),(jM 0 j).length) else M.no) U2 H2 s2 _ _ from h2);obtain⟨hz,q⟩:=ziI aU h4;subst e2;refine⟨j,rfl,hz.2.2.1,hz.2.2.2,q _ ?_⟩;have:=jP.range (K:=X.K) (cA:=cA) (U:=U2) (H:=H2) (a:=0) (b:=j);rw[Int.sub_zero] at this;exact this
end
section
variable {K:W.Frag}{cA:Cl}{U U' U0:Ph}{H H' H0:Hp}{s:S}
theorem Run.bd0(x:Ext U0 H0 U H)(h:Run K cA (M.bd m k) U0 H0 s P Ee) :
  Run K cA m U H s (λa s1 U1 H1=>Ext U H U1 H1/\aD K cA U1 H1 s1/\Run K cA (k a) U0 H0 s1 P Ee) Ee:=by
 unfold Run M.bd at *;cases e:m s with
 |none=>rw[e] at h;exact h
 |some r=>
  obtain⟨r,s1⟩:=r;rw[e] at h;cases r with
  |er c f=>exact λU1 H1 x1 r1=>h U1 H1 (x.trans x1) r1
  |ok a=>exact λU1 H1 x1 r1=>⟨x1,r1,h⟩
theorem KD{α β:Type}{m:M α}{k:α->M β}{P:β->S->Ph->Hp->Prop}{Ee Ee':Nat->List D->S->Ph->Hp->Prop}(x:Ext U0 H0 U H)(h:Run K cA (M.bd (M.qt m) k) U0 H0 s P Ee) :
  Run K cA m U H s (λa s1 U1 H1=>Ext U H U1 H1/\aD K cA U1 H1 s1/\Run K cA (k a) U0 H0 s1 P Ee) Ee':=by
 have h2:=h.bd0 x;unfold Run at h2 ⊢;unfold M.qt at h2;cases e:m s with
 |none=>rw[e] at h2;exact h2
 |some r=>
  obtain⟨r,s1⟩:=r;rw[e] at h2;cases r with
  |ok a=>exact h2
  |er c f=>exact h2.elim
def Uu{α β:Type}{m m':M α}{k:α->M β}{P:β->S->Ph->Hp->Prop}{Ee:Nat->List D->S->Ph->Hp->Prop}(e:m s=m' s)(h:Run K cA (M.bd m k) U H s P Ee):Run K cA (M.bd m' k) U H s P Ee:=by
 unfold Run M.bd at *;rw[<-e];exact h
end
section
variable {X:Cx}{cA:Cl}{aq:Nat->Nat->Bool}{aj:Bool}{F:Fn}{EX:XS}{elt iter tg:Expr}{A B:E}{pos p:Pos}{ifs:List Expr}{scope:Scope}{N:List Str}{cond:Eo}{fr aM:List Nat}{many:Nat}{fz:Bool}{w:Wk}
def Dt(X:Cx)(cA:Cl)(aq:Nat->Nat->Bool)(aj:Bool)(F:Fn)(EX:XS)(ifs:List Expr)(m:Eo):Prop:=Gw X ifs (qM X.K cA EX (n6 aq aj F m))
def zk5:Dt X cA aq aj F EX [] .no:=λao s Z H Q I ⟨U,J,st,hL,hS,h⟩=>zj0 ao s Z H Q I (h.bN hS)
def zkn(h:ST X cA aq aj F EX c C):Dt X cA aq aj F EX [c] (.yes C):=zjG h
structure dR(K:W.Frag)(cA:Cl)(g:TG)(aM:List Nat):Prop where
 run:∀(U:Ph) (H:Hp) (s:S) (Z:L2.St) (J J':Vs) (d:D) (v:V) (Q:L2.St->Hp->Prop),aZ K cA U H Z J->aD K cA U H s->Rep K cA U H d v->eE aM d J=some J'->
  (∀Z',aZ K cA U H Z' J'->Z'.length=Z.length->(∀i,i∉aM->Z'[i]?=Z[i]?)->Q Z' H)->g v Z H Q
def lG{K:W.Frag}(i:Nat):dR K cA (dM i) [i] where
 run:=λU H s Z J J' d v Q hL hS r e k=>by
  cases e;exact k _ (hL.set (.d r)) (qe ..) λj hj=>p8 (by simpa using λz=>hj (by simp[z]))
theorem GQ{K:W.Frag}(i j:Nat):dR K cA (uM K 2 (iR (dM i) (iR (dM j) uL))) [i,j] where
 run:=λU H s Z J J' d v Q hL hS r e k=>by
  have e:(kW d).bind (λds=>gG [i,j] (ds.map Xv.d) J)=some J':=e;obtain⟨ds,e1,e2⟩:=zp.mp e;cases r with
  |@tup ad xs vs h1 h2=>
   have e1:xs=ds:=cJ e1;subst e1;cases h2 with
   |nil=>cases e2
   |cons r1 t1=>
    cases t1 with
    |nil=>cases e2
    |cons r2 t2=>
     cases t2 with
     |nil=>
      have e2:=cJ e2;subst e2;refine⟨ad,_,rfl,h1.jC,rfl,_,_,rfl,_,_,rfl,rfl,k _ ((hL.set (.d r1)).set (.d r2)) (by rw[qe,qe]) λm hm=>?_⟩;rw[p8 (λz=>hm (by simp[z])),p8 (λz=>hm (by simp[z]))]
     |cons r3 t3=>cases e2
  |_=>cases e1
noncomputable def bF(many:Nat)(fr:List Nat)(Z:L2.St):L2.St:=List.replicate many none++fr.map λj=>(Z[j]?).join
theorem zgk{U:Ph}{H:Hp}{Z:L2.St}{J:Vs}(hL:aZ X.K cA U H Z J){Z':L2.St}(hl:Z'.length=many+fr.length)(hf:∀(i:Nat) j v,fr[i]?=some j->Z[j]?=some (some v)->Z'[many+i]?=some (some v)):aZ X.K cA U H Z' (blk many fr J):=by
 refine⟨by unfold blk;simp[hl],λi d e=>?_⟩;unfold blk at e;by_cases hi:i<many
 ·rw[pK (by simpa using hi),Bc,if_pos hi] at e;cases e
 ·rw[pZ (by simpa using HN hi),Hx,iG] at e;cases z:fr[i-many]? with
  |none=>rw[z] at e;cases e
  |some j=>
   rw[z] at e;have e3:J[j]?.join=some d:=by simpa using e
   obtain⟨v,q1,q2⟩:=hL.2 j d (O1 e3);refine⟨v,?_,q2⟩;have:=hf (i-many) j v z q1;rw[show many+(i-many)=i by omega] at this;exact this
structure fO(U:Ph)(H:Hp)(Dd:Addr)(o:HO):Prop where
 at_:H Dd=some o
 nl:Dd∉U.l
 z:U.z Dd
 t:NT o:=by exact trivial
abbrev Keep(U:Ph)(H:Hp)(Dd:Addr)(vs:List V):Prop:=fO U H Dd (.lst vs)
theorem fO.mono{U U':Ph}{H H':Hp}{Dd:Addr}{o:HO}(x:Ext U H U' H')(k:fO U H Dd o):fO U' H' Dd o:=by
 refine⟨x.frame _ _ k.at_ k.t k.nl,λz=>?_,x.qL _ k.z,k.t⟩;obtain⟨r,er,hr⟩:=x.more;rw[er] at z;rcases nW.mp z with z|z
 ·exact k.nl z
 ·have:=hr _ z;rw[k.at_] at this;cases this
theorem fO.ext{U:Ph}{H:Hp}{Dd:Addr}{o u:HO}(k:fO U H Dd o)(tu:NT u:=by exact trivial):(∀a o,H a=some o->¬U.z a->(upd H Dd u) a=some o)/\fO U (upd H Dd u) Dd u:=
 ⟨λa o e n=>by rw[bW (λz=>n (by rw[z];exact k.z))];exact e,iQ,k.nl,k.z,tu⟩
end
section
variable {K:W.Frag}{cA:Cl}{U U':Ph}{H H':Hp}
theorem aD.keep{s:S}{Dd:Addr}{o u:HO}(h:aD K cA U H s)(k:fO U H Dd o)(tu:NT u:=by exact trivial):aD K cA U (upd H Dd u) s:=by
 have x:cM U H (upd H Dd u):=(k.ext tu).1;refine⟨h.len,λn o a e1 e2=>?_,h.uniq,h.lz,λa z=>?_⟩
 ·have na:a≠Dd:=λy=>k.nl (by rw[<-y];exact fG e2);exact(h.obj n o a e1 e2).map (λ_ _ q=>by rw[bW na];exact q) λ_ _ r=>r.out x
 ·by_cases e:a=Dd
  ·subst e;exact⟨_,iQ⟩
  ·obtain⟨o,q⟩:=h.zt a z;exact⟨o,by rw[bW e];exact q⟩
theorem Ext.keep{U1:Ph}{H1:Hp}{Dd:Addr}{vs:List V}{u:HO}(x:Ext U1 H1 U H)(hD:H1 Dd=none):Ext U1 H1 U (upd H Dd u):=by
 refine⟨x.more,x.qL,x.kY,λa o h t n=>?_,λa o h=>?_⟩
 ·rw[bW (λz=>by rw[z,hD] at h;cases h)];exact x.frame a o h t n
 ·rw[bW (λz=>by rw[z,hD] at h;cases h)];exact x.stay a o h
theorem zdO{U1:Ph}{H1:Hp}{s':S}{fz:Bool}{acc:List D}{vs:List V}{Dd:Addr}{Q:VK}{Ee:Nat->List D->S->Ph->Hp->Prop}(h:Run K cA (newL fz acc) U1 H1 s' (λd _ U' H'=>∀v,aW K cA U' H' d v->Q v H') Ee)
  (x2:Ext U1 H1 U' H') (hD:H1 Dd=none) (nz:¬U1.z Dd) (aU:aD K cA U' H' s') (k:Keep U' H' Dd vs) (pW:aC K cA U' H' acc vs):Q (.ref Dd) H':=by
 cases fz with
 |true=>
  have zq:∀a,(λa=>U'.z a/\a≠Dd) a->U'.z a:=λa z=>z.1;refine h ⟨λa=>U'.z a/\a≠Dd,U'.l⟩ H' ⟨x2.more,λa z=>⟨x2.qL a z,λe=>nz (by rw[<-e];exact z)⟩,λa z=>x2.kY a z.1,x2.frame,x2.stay⟩ ?_ _ (.d (.fl (.inl ⟨.inl k.at_,λz=>z.2 rfl⟩) (aC.lg (U:=U') zq pW)));refine⟨aU.len,λn o a e1 e2=>lF.lg (U:=U') zq (aU.obj n o a e1 e2),aU.uniq,λa ha=>⟨aU.lz a ha,λe=>k.nl (by rw[<-e];exact ha)⟩,λa z=>aU.zt a z.1⟩
 |false=>
  obtain⟨r,er,hr⟩:=x2.more;refine h ⟨U'.z,U'.l++[Dd]⟩ H' ⟨⟨r++[Dd],by show U'.l++[Dd]=_;rw[er,Nh],λb hb=>?_⟩,x2.qL,x2.kY,x2.frame,x2.stay⟩ ?_ _ (.l (by show (U'.l++[Dd])[s'.length]?=_;rw[<-aU.len];simp))
  ·rcases nW.mp hb with z|z
   ·exact hr b z
   ·simp at z;subst z;exact hD
  ·refine⟨by show (U'.l++[Dd]).length=_;rw[pL,pL,aU.len];rfl,λm o' a' e1 e2=>?_,?_,λb hb=>?_,aU.zt⟩
   ·have e2:(U'.l++[Dd])[m]?=some a':=e2;by_cases hm:m<s'.length
    ·rw[pK hm] at e1;rw[pK (by rw[aU.len];exact hm)] at e2;exact lF.zl (aU.obj m o' a' e1 e2) _
    ·have Ad:m=s'.length:=by
      have z:=(eG.mp e2).1;rw[pL,aU.len] at z;simp at z;omega
     subst Ad;rw[pZ (cj _)] at e1;rw[pZ (by rw[aU.len];exact cj _)] at e2;simp at e1;simp[aU.len] at e2;subst e1 e2;exact⟨vs,k.at_,aC.zl pW _⟩
   ·show (U'.l++[Dd]).Nodup;rw[Nj];refine⟨aU.uniq,by simp,λb hb c hc e=>?_⟩;simp at hc;subst hc e;exact k.nl hb
   ·have hb:b∈U'.l++[Dd]:=hb;rcases nW.mp hb with z|z
    ·exact aU.lz b z
    ·simp at z;subst z;exact k.z
noncomputable def Ph.mark(U:Ph)(p:Addr):Ph:=⟨λa=>U.z a\/a=p,U.l⟩
theorem zcC{s:S}{p:Addr}(hS:aD K cA U H s)(hp:H p=none):Ext U H (U.mark p) (upd H p (.lst []))/\aD K cA (U.mark p) (upd H p (.lst [])) s/\Keep (U.mark p) (upd H p (.lst [])) p []:=by
 have g:=bJ.new (o:=.lst []) hp;have nz:=hS.nz hp;refine⟨⟨⟨[],by simp[Ph.mark],by simp⟩,λa z=>.inl z,λa z=>z.imp id λe=>by rw[e];exact hp,λa o h _ _=>g a o h,λa o h=>⟨o,g a o h⟩⟩,⟨hS.len,λn o a e1 e2=>?_,hS.uniq,λa ha=>.inl (hS.lz a ha),λa z=>?_⟩,iQ,λz=>nz (hS.lz p z),.inr rfl,trivial⟩
 ·have x:Ext U H (U.mark p) (upd H p (.lst [])):=⟨⟨[],by simp[Ph.mark],by simp⟩,λa z=>.inl z,λa z=>z.imp id λe=>by rw[e];exact hp,λa o h _ _=>g a o h,λa o h=>⟨o,g a o h⟩⟩;exact(hS.obj n o a e1 e2).map (λu _=>g _ u) λ_ _ r=>r.mono x hS.lz
 ·rcases z with z|z
  ·obtain⟨o,e⟩:=hS.zt a z;exact⟨o,g _ _ e⟩
  ·subst z;exact⟨_,iQ⟩
end
section
variable {X:Cx}{cA:Cl}{aq:Nat->Nat->Bool}{aj:Bool}{F:Fn}{EX:XS}{elt iter tg:Expr}{A B:E}{pos p:Pos}{ifs:List Expr}{scope:Scope}{N:List Str}{cond:Eo}{fr aM:List Nat}{many:Nat}{fz:Bool}{w:Wk}
abbrev bY(aq:Nat->Nat->Bool)(aj:Bool)(F:Fn)(B:E)(cond:Eo)(aM:List Nat)(Jb:Vs):D->List D->M (List D):=λd acc=>M.bd (M.opt (eE aM d Jb)) λJ'=>M.bd (M.qt (n6 aq aj F cond J')) λok=>
    if ok=true then M.bd (M.qt (ev aq aj F B J')) λy=>M.bd (dat y) λe=>if acc.length<sizeLine then M.ret (acc++[e]) else M.no else M.ret acc
def GR{H:Hp}{a:Addr}{o:HO}(h:H a=some o):upd H a o=H:=funext λb=>by
 by_cases z:b=a
 ·subst z;rw[iQ,h]
 ·rw[bW z]
theorem zhr{K:W.Frag}{g:TG}{U1 U':Ph}{H1 H2:Hp}{s':S}{Z':L2.St}{Jb:Vs}{Dd:Addr}{acc:List D}{vs:List V}{xi:D}{v:V}{β:Type}{kk:List D->M β}{P:β->S->Ph->Hp->Prop}{Ee:Nat->List D->S->Ph->Hp->Prop}(hT:dR K cA g aM)(hin:∀i∈aM,i<many)
  (hD:H1 Dd=none) (x2:Ext U1 H1 U' H2) (hL2:aZ K cA U' H2 Z' Jb) (aU:aD K cA U' H2 s') (kp:Keep U' H2 Dd vs) (pW:aC K cA U' H2 acc vs) (rx:Rep K cA U' H2 xi v)
  (h:Run K cA (M.bd (bY aq aj F B cond aM Jb xi acc) kk) U1 H1 s' P Ee) {Nn:L2.St->Hp->Prop}
  (hN:∀Z3 H3 U3 s3 nJ yI,Z3.length=Z'.length->(∀i,many<=i->Z3[i]?=Z'[i]?)->Ext U1 H1 U3 H3->Ext U' H2 U3 (upd H3 Dd (.lst vs))->aD K cA U3 H3 s3->Keep U3 H3 Dd yI->aC K cA U3 H3 nJ yI->Run K cA (kk nJ) U1 H1 s3 P Ee->Nn Z3 H3) :
  g v Z' H2 λZ3 H3=>qM K cA (λ_ _ _ _=>False) (n6 aq aj F cond) Z3 H3 λok H4=>
   if ok=true then tE K cA (λ_ _ _ _=>False) (ev aq aj F B) Z3 H4 λy H5=>∃ys,H5 Dd=some (.lst ys)/\ys.length<sizeLine/\Nn Z3 (upd H5 Dd (.lst (ys++[y]))) else Nn Z3 H4:=by
 unfold bY at h;rw[gP] at h;obtain⟨J',e1,h1⟩:=Run.nH h;refine hT.run U' H2 s' Z' Jb J' xi v _ hL2 aU rx e1 λZ3 pq Du GX=>?_;rw[gP] at h1;have kf:∀i,many<=i->Z3[i]?=Z'[i]?:=λi hi=>GX i λz=>absurd (hin i z) (Gh.mpr hi);refine⟨U',J',s',pq,aU,(KD x2 h1).imp λok s4 U4 H4 ⟨x4,rW,h6⟩=>?_⟩;cases ok with
 |false=>
  refine iF (hN Z3 H4 U4 s4 acc vs Du kf (x2.trans x4) (by rw[GR (kp.mono x4).at_];exact x4) rW (kp.mono x4) (pW.mono x4 aU.lz) ?_);rw[if_neg Tv] at h6;exact h6
 |true=>
  rw[if_pos rfl,gP] at h6;refine iT ⟨U4,J',s4,pq.mono x4 aU.lz,rW,(KD (x2.trans x4) h6).imp λy s5 U5 H5 ⟨x5,KH,h7⟩ u ru=>?_⟩;rw[gP] at h7;have k5:=(kp.mono x4).mono x5;have r5:=(pW.mono x4 aU.lz).mono x5 rW.lz;have Uv:=(x2.trans x4).trans x5;obtain⟨dd,ey,rd,h8⟩ : ∃d,y=.d d/\Rep K cA U5 H5 d u/\Run K cA (M.bd (if acc.length<sizeLine then M.ret (acc++[d]) else M.no) kk) U1 H1 s5 P Ee:=by
   cases ru with
   |l _=>exact h7.elim
   |d r=>exact⟨_,rfl,r,h7⟩
  by_cases hz:acc.length<sizeLine
  ·rw[if_pos hz] at h8;refine⟨vs,k5.at_,by rw[<-r5.len];exact hz,?_⟩;have ox:cM U5 H5 (upd H5 Dd (.lst (vs++[u]))):=k5.ext.1;exact hN Z3 _ U5 s5 (acc++[dd]) (vs++[u]) Du kf (Ext.keep (vs:=vs) Uv hD) (by rw[Yz,GR k5.at_];exact x4.trans x5) (KH.keep k5) k5.ext.2 ((r5.app (.cons rd .nil)).out ox) h8
  ·rw[if_neg hz] at h8;exact h8.elim
theorem zdg{g:TG}{iter':Expr}(hT:dR X.K cA g aM)(hin:∀i∈aM,i<many){Z:L2.St}{H:Hp}{Q:VK}(hh:tE X.K cA EX (ev aq aj F (.comp fz B aM w fr many cond)) Z H Q) :
  u5 (tI X.K cA EX (je aq aj F w)) (bF many fr) g (qM X.K cA (λ_ _ _ _=>False) (n6 aq aj F cond)) (tE X.K cA (λ_ _ _ _=>False) (ev aq aj F B)) Z H Q:=un hh λU J s hL hS h=>by
 by_cases dB:aj=true
 ·have h:Run X.K cA (if aj=true then M.bd (je aq aj F w J) λcn=>M.bd (walk cn.1 (bY aq aj F B cond aM (blk many fr J)) (cn.2+1) 0 []) λxs=>newL fz xs else M.no) U H s (λd _ U' H'=>∀v,aW X.K cA U' H' d v->Q v H') (eX X.K cA EX Z):=h;rw[if_pos dB] at h;refine⟨U,J,s,hL,hS,h.bd.imp λcn s1 U1 H1 ⟨x1,aJ,h1⟩ bf hJ=>?_⟩;have hL1:=hL.mono x1 hS.lz;obtain⟨c,n⟩:=cn;dsimp only at h1 hJ;intro Dd hD;obtain⟨x0,Uw,k0⟩:=zcC aJ hD;have Dv:∀{Z':L2.St},(Z'.length=many+fr.length/\∀i,many<=i->Z'[i]?=(bF many fr Z)[i]?)->∀{U' H'},Ext U1 H1 U' H'->aZ X.K cA U' H' Z' (blk many fr J):=λ{Z'} hZ {U' H'} x=>zgk (hL1.mono x aJ.lz) hZ.1 λi j v e1 e2=>by
   rw[hZ.2 _ (by omega)];unfold bF;rw[pZ Zaa,Hx,iG,show many+i-many=i by omega,e1];simp[e2]
  refine⟨λi m Z' H'=>m=n+1-i/\(Z'.length=many+fr.length/\∀i,many<=i->Z'[i]?=(bF many fr Z)[i]?)/\∃U' s' acc vs,Ext U1 H1 U' H'/\aD X.K cA U' H' s'/\Keep U' H' Dd vs/\aC X.K cA U' H' acc vs /\
   Run X.K cA (M.bd (walk c (bY aq aj F B cond aM (blk many fr J)) (n+1-i) i acc) λxs=>newL fz xs) U1 H1 s' (λd _ U' H'=>∀v,aW X.K cA U' H' d v->Q v H') (eX X.K cA EX Z),⟨n+1,rfl,⟨by simp[bF],λi _=>rfl⟩,U1.mark Dd,s1,[],[],x0,Uw,k0,.nil,h1⟩,?_⟩
  rintro i m Z' H' ⟨rfl,hZ,U',s',acc,vs,x2,aU,kp,pW,h3⟩;have hL2:=Dv hZ x2;cases ek:n+1-i with
  |zero=>rw[ek] at h3;exact h3.elim
  |succ k=>
   rw[ek] at h3;cases ei:c.at i s' with
   |none=>
    exfalso
    unfold Run M.bd walk at h3;simp only[ei] at h3
   |some oi=>
    cases oi with
    |none=>
     refine .inl ⟨hJ.stop U' H' H' s' i x2 cM.refl aU ei,?_⟩;have h4:Run X.K cA (newL fz acc) U1 H1 s' (λd _ U' H'=>∀v,aW X.K cA U' H' d v->Q v H') (eX X.K cA EX Z):=by
      unfold Run M.bd walk at h3;simp only[ei] at h3;exact h3
     exact zdO h4 x2 hD (aJ.nz hD) aU kp pW
    |some xi=>
     refine .inr ⟨hJ.go U' H' H' s' i xi x2 cM.refl aU ei,λZ2 H2=>(Z2.length=many+fr.length/\∀i,many<=i->Z2[i]?=(bF many fr Z)[i]?)/\∃U' s' acc vs,Ext U1 H1 U' H2/\aD X.K cA U' H2 s'/\Keep U' H2 Dd vs/\aC X.K cA U' H2 acc vs /\
      Run X.K cA (M.bd (walk c (bY aq aj F B cond aM (blk many fr J)) k (i+1) acc) λxs=>newL fz xs) U1 H1 s' (λd _ U' H'=>∀v,aW X.K cA U' H' d v->Q v H') (eX X.K cA EX Z),λZ2 H2 hn=>⟨k,by omega,by omega,hn.1,?_⟩,λv H2 hy=>?_⟩
     ·have:n+1-(i+1)=k:=by omega
      rw[this];exact hn.2
     ·obtain⟨gr,rx⟩:=hJ.uO U' H' H' s' i xi v H2 x2 cM.refl aU ei hy;have h4:Run X.K cA (M.bd (bY aq aj F B cond aM (blk many fr J) xi acc) λacc'=>M.bd (walk c (bY aq aj F B cond aM (blk many fr J)) k (i+1) acc') λxs=>newL fz xs) U1 H1 s' (λd _ U' H'=>∀v,aW X.K cA U' H' d v->Q v H') (eX X.K cA EX Z):=by
       have h5:=Uu (m':=M.bd (bY aq aj F B cond aM (blk many fr J) xi acc) λacc'=>walk c (bY aq aj F B cond aM (blk many fr J)) k (i+1) acc') (by rw[walk];simp only[ei]) h3;rw[gP] at h5;exact h5
      exact zhr hT hin hD (x2.trans gr.ext) (hL2.mono gr.ext aU.lz) (aU.grow gr) (kp.mono gr.ext) (pW.mono gr.ext aU.lz) rx h4 λZ3 H3 U3 s3 nJ yI l3 f3 x3 _ gQ k3 r3 h6=>⟨⟨l3.trans hZ.1,λi hi=>(f3 i hi).trans (hZ.2 i hi)⟩,U3,s3,nJ,yI,x3,gQ,k3,r3,h6⟩
 ·have h:Run X.K cA (if aj=true then M.bd (je aq aj F w J) λcn=>M.bd (walk cn.1 (bY aq aj F B cond aM (blk many fr J)) (cn.2+1) 0 []) λxs=>newL fz xs else M.no) U H s (λd _ U' H'=>∀v,aW X.K cA U' H' d v->Q v H') (eX X.K cA EX Z):=h;rw[if_neg dB] at h;exact h.elim
theorem O6{XN:List Str}(pR:∀(i:Nat) (y:Str) (j:Nat),N[many+i]?=some y->fr[i]?=some j->scope.names.lookup y=some .free/\XN[j]?=some y)(Z:L2.St)(i:Nat)(x:Str)(v:V)(e1:N[i]?=some x)(e2:(bF many fr Z)[i]?=some (some v)):scope.names.lookup x=some .free/\∃j:Nat,XN[j]?=some x/\Z[j]?=some (some v):=by
 unfold bF at e2;by_cases hi:i<many
 ·rw[pK (by simpa using hi),Bc,if_pos hi] at e2;cases e2
 ·rw[pZ (by simpa using HN hi),Hx,iG] at e2;cases z:fr[i-many]? with
  |none=>rw[z] at e2;cases e2
  |some j=>
   rw[z] at e2;have e3:(Z[j]?).join=some v:=by simpa using e2
   obtain⟨a1,a2⟩:=pR (i-many) x j (by rw[show many+(i-many)=i by omega];exact e1) z;exact⟨a1,j,a2,O1 e3⟩
theorem zgP{g:TG}(hc:X.aj=true)(B':cC X.env.scope scope)(hi:SI X cA aq aj F EX tg iter w)(hN:N.length=many+fr.length)
  (pR:∀(i:Nat) (y:Str) (j:Nat),N[many+i]?=some y->fr[i]?=some j->scope.names.lookup y=some .free/\X.N[j]?=some y)
  (hg:∀cl C s3 H3 fp ao,PG (X.blk scope cl N C s3 H3 fp ao) tg g) (hT:dR X.K cA g aM) (hin:∀i∈aM,i<many)
  (ht:∀cl C s3 H3 fp ao,Dt (X.blk scope cl N C s3 H3 fp ao) cA aq aj F (λ_ _ _ _=>False) ifs cond) (he:∀cl C s3 H3 fp ao,SE (X.blk scope cl N C s3 H3 fp ao) cA aq aj F (λ_ _ _ _=>False) elt B)
  (hs:∀x,foldedSetIterable iter X.env x=pure x:=by intro _;rfl):SE X cA aq aj F EX (.ListComp elt [⟨tg,iter,ifs,0⟩] scope pos) (.comp fz B aM w fr many cond):=
 PE.weak (zjl hc B' hi (⟨hg,ht,he⟩ : Parts X elt tg ifs scope N g (qM X.K cA (λ_ _ _ _=>False) (n6 aq aj F cond)) (tE X.K cA (λ_ _ _ _=>False) (ev aq aj F B))) (ZY:=bF many fr) (λZ=>by simp[bF,hN]) (λZ i x v e1 e2=>O6 pR Z i x v e1 e2) hs) λZ H Q hh=>zdg (iter':=iter) hT hin hh
end
section
variable (K:W.Frag)(cA:Cl)
def aY(m:MS)(U:Ph)(H:Hp)(s:S)(D:Ends)(EX:XS):Prop:=match m s with
 |some (.nx J,s')=>∀U' H' Z',Ext U H U' H'->aD K cA U' H' s'->aZ K cA U' H' Z' J->D.nx Z' H'
 |some (.bk J,s')=>∀U' H' Z',Ext U H U' H'->aD K cA U' H' s'->aZ K cA U' H' Z' J->D.bk Z' H'
 |some (.ct J,s')=>∀U' H' Z',Ext U H U' H'->aD K cA U' H' s'->aZ K cA U' H' Z' J->D.ct Z' H'
 |some (.rt d,s')=>∀U' H' v,Ext U H U' H'->aD K cA U' H' s'->aW K cA U' H' d v->D.rt v H'
 |some (.er c fs J,s')=>∀U' H' Z',Ext U H U' H'->aD K cA U' H' s'->aZ K cA U' H' Z' J->∀dx,k_ K cA U' H' c fs dx->EX Z' (.ref (cA.a c)) dx H'
 |none=>False
noncomputable def tS(EX:XS)(m:Vs->MS):TS:=λD Z H=>∃U J s,aZ K cA U H Z J/\aD K cA U H s/\aY K cA (m J) U H s D EX
end
section
variable {K:W.Frag}{cA:Cl}{U U':Ph}{H H':Hp}{s:S}{Z:L2.St}{J:Vs}{EX:XS}{D:Ends}
def aY.ext{m:MS}(x:Ext U H U' H')(h:aY K cA m U H s D EX):aY K cA m U' H' s D EX:=by
 unfold aY at *;split at h<;>first
  |exact λU2 H2 a y r l=>h U2 H2 a (x.trans y) r l
  |exact h.elim
theorem aY.ofM{α:Type}{m:M α}{k:α->MS}(hL:aZ K cA U H Z J)(hz:∀a∈U.l,U.z a)(h:aY K cA (ofM m J k) U H s D EX):Run K cA m U H s (λa s1 U1 H1=>Ext U H U1 H1/\aD K cA U1 H1 s1/\aY K cA (k a) U1 H1 s1 D EX) (eX K cA EX Z):=by
 unfold aY Mi.ofM at h;unfold Run;cases e:m s with
 |none=>rw[e] at h;exact h
 |some r=>
  obtain⟨r,s1⟩:=r;rw[e] at h;cases r with
  |er c fs=>exact λU1 H1 x r=>h U1 H1 Z x r (hL.mono x hz)
  |ok a=>
   intro U1 H1 x r;refine⟨x,r,?_⟩;have h2:aY K cA (k a) U H s1 D EX:=h;exact h2.ext x
theorem aY.then_(h:aY K cA (cP m k) U H s D EX):aY K cA m U H s {D with nx:=λZ' H'=>∃U' J' s',aZ K cA U' H' Z' J'/\aD K cA U' H' s'/\aY K cA (k J') U' H' s' D EX} EX:=by
 unfold aY cP at h;unfold aY;cases e:m s with
 |none=>rw[e] at h;exact h
 |some r=>
  obtain⟨r,s1⟩:=r;rw[e] at h;cases r with
  |nx J=>
   intro U1 H1 Z1 x r l;have h2:aY K cA (k J) U H s1 D EX:=h;exact⟨U1,J,s1,l,r,h2.ext x⟩
  |bk J=>exact h
  |ct J=>exact h
  |rt d=>exact h
  |er c fs J=>exact h
end
section
variable (X:Cx)(cA:Cl)(aq:Nat->Nat->Bool)(aj:Bool)(F:Bool->Fn)(EX:XS)
def SS(st:Stmt)(m:St):Prop:=PS X st (tS X.K cA EX (ex aq aj F m))
def wH(st:List Stmt)(m:bT):Prop:=qm X st (tS X.K cA EX (exs aq aj F m))
end
section
variable {X:Cx}{cA:Cl}{aq:Nat->Nat->Bool}{aj:Bool}{F:Bool->Fn}{EX:XS}{a b c d e:Expr}{A B C:E}{pos p p2:Pos}{st:Stmt}{sts body orelse:List Stmt}{m:St}{ms mb me mh:bT}{es:List Expr}{Xs:Es}{x y n:Str}{i j:Nat}
def PS.weak{t t':TS}(h:PS X st t)(f:∀D Z H,t' D Z H->t D Z H):PS X st t':=λao s Z H D I q=>h ao s Z H D I (f D Z H q)
def qm.weak{t t':TS}(h:qm X sts t)(f:∀D Z H,t' D Z H->t D Z H):qm X sts t':=λao s Z H D I q=>h ao s Z H D I (f D Z H q)
def znP:SS X cA aq aj F EX st .no:=λ_ _ _ _ _ _ ⟨_,_,_,_,_,h⟩=>h.elim
def zkh:wH X cA aq aj F EX [] .nil:=qm.weak YS λD Z H hh=>un hh λU J s hL hS h=>h U H Z Ext.refl hS hL
theorem zh9(h1:SS X cA aq aj F EX st m)(h2:wH X cA aq aj F EX sts ms):wH X cA aq aj F EX (st::sts) (.cons m ms):=qm.weak (YT h1 h2) λD Z H hh=>un hh λU J s hL hS h=>by
 have h:aY X.K cA (cP (ex aq aj F m J) λJ'=>exs aq aj F ms J') U H s D EX:=h;exact⟨U,J,s,hL,hS,h.then_⟩
theorem znv(ha:SE X cA aq aj (F aj) EX a A)(hs:swapsWith a none pos.line X.env=pure false:=by rfl):SS X cA aq aj F EX (.Expr a pos) (.ex A):=PS.weak (zkS ha hs) λD Z H hh=>un hh λU J s hL hS h=>
 ⟨U,J,s,hL,hS,(aY.ofM hL hS.lz h).imp λd s1 U1 H1 ⟨x1,aJ,h1⟩ v rv=>h1 U1 H1 Z Ext.refl aJ (hL.mono x1 hS.lz)⟩
theorem zlP(ha:SE X cA aq aj (F aj) EX a A):SS X cA aq aj F EX (.Return (some a) pos) (.ret A):=PS.weak (zmj ha) λD Z H hh=>un hh λU J s hL hS h=>
 ⟨U,J,s,hL,hS,(aY.ofM hL hS.lz h).imp λd s1 U1 H1 ⟨x1,aJ,h1⟩ v rv=>h1 U1 H1 v Ext.refl aJ rv⟩
theorem zlc(hN:X.N.Nodup)(hi:X.N[i]?=some x)(hx:Loc X.env.scope x)(ha:SE X cA aq aj (F aj) EX a A)(hs:swapsWith a (some (.Name x p)) pos.line X.env=pure false:=by rfl)(hf:X.fn x=true\/X.env.scope.names.lookup x=some .local:=by first|exact .inl rfl|exact .inr rfl) :
  SS X cA aq aj F EX (.Assign [.Name x p] a pos) (.asg (.nm i) A):=PS.weak (zkZ hN hi hx ha hs hf) λD Z H hh=>un hh λU J s hL hS h=>
 ⟨U,J,s,hL,hS,(aY.ofM hL hS.lz h).imp λd s1 U1 H1 ⟨x1,aJ,h1⟩ v rv=>h1 U1 H1 _ Ext.refl aJ ((hL.mono x1 hS.lz).set rv)⟩
theorem Ux{k}(hc:X.aj=true)(hN:X.N.Nodup)(hi:X.N[i]?=some x)(hj:X.N[j]?=some y)(hx:Loc X.env.scope x)(hy:Loc X.env.scope y)(yJ:X.fn x=true\/X.env.scope.names.lookup x=some .local)(yK:X.fn y=true\/X.env.scope.names.lookup y=some .local) :
  PG X (.Tuple [.Name x px,.Name y py] k pos) (uM X.K 2 (iR (dM i) (iR (dM j) uL))):=zlO hc (YX (N8 hN hi hx yJ) (YX (N8 hN hj hy yK) zjY))
theorem zdL{K:W.Frag}{U:Ph}{H:Hp}{s:S}{J:Vs}{Z:L2.St}{D:Ends}{d:Xv}{v:V}(dB:aj=true)(hL:aZ K cA U H Z J)(hS:aD K cA U H s)(rv:aW K cA U H d v)(h:aY K cA (store aq aj (F aj) (.tp [i,j]) d J) U H s D EX):uM K 2 (iR (dM i) (iR (dM j) uL)) v Z H D.nx:=by
 have h:aY K cA (if aj=true then ofM (M.bd (dat d) λd=>M.opt ((kW d).bind λds=>gG [i,j] (ds.map Xv.d) J)) J (λJ' s=>some (Out.nx J',s)) else λ_=>none) U H s D EX:=h;rw[if_pos dB] at h;obtain⟨dd,e0,rd,h1⟩:=OD rv (aY.ofM hL hS.lz h);obtain⟨J',e,_,aJ,h2⟩:=Run.opt hS h1;refine(GQ i j).run U H s Z J J' dd v _ hL hS rd e λZ' hL' _ _=>h2 U H Z' Ext.refl hS hL'
theorem zjL{k}(hc:X.aj=true)(dB:aj=true)(hN:X.N.Nodup)(hi:X.N[i]?=some x)(hj:X.N[j]?=some y)(hx:Loc X.env.scope x)(hy:Loc X.env.scope y)(yJ:X.fn x=true\/X.env.scope.names.lookup x=some .local)(yK:X.fn y=true\/X.env.scope.names.lookup y=some .local)(ha:SE X cA aq aj (F aj) EX a A)
  (hs:swapsWithSole [.Tuple [.Name x px,.Name y py] k pt] a pos.line X.env=pure false:=by rfl) (hw:swappedStores [.Tuple [.Name x px,.Name y py] k pt] a X.env=pure none:=by rfl)
  (h1:(assignEach [.Tuple [.Name x px,.Name y py] k pt] X.env).map (·.2)=[assign (.Tuple [.Name x px,.Name y py] k pt) X.env]:=by rfl) :
  SS X cA aq aj F EX (.Assign [.Tuple [.Name x px,.Name y py] k pt] a pos) (.asg (.tp [i,j]) A):=PS.weak (YZ ha (Ux hc hN hi hj hx hy yJ yK) hs hw h1) λD Z H hh=>un hh λU J s hL hS h=>
 ⟨U,J,s,hL,hS,(aY.ofM hL hS.lz h).imp λd s1 U1 H1 ⟨x1,aJ,h1⟩ v rv=>zdL dB (hL.mono x1 hS.lz) aJ rv h1⟩
theorem zlr(hO:SE X cA aq aj (F aj) EX oo O)(hI:SE X cA aq aj (F aj) EX ii I')(ha:SE X cA aq aj (F aj) EX a A)
  (Uy:∀v,assign (.Subscript oo ii p) X.env v=(do
   let ov <-holding [v] (eval oo X.env)
   let iv <-holding [v,ov] (eval ii X.env)
   standAt p
   holding [v,ov,iv] (setItem ov iv v)
   release [v,ov,iv] []):=by intro _;rfl) (hs:swapsWithSole [.Subscript oo ii p] a pos.line X.env=pure false:=by rfl) (hw:swappedStores [.Subscript oo ii p] a X.env=pure none:=by rfl)
  (h1:(assignEach [.Subscript oo ii p] X.env).map (·.2)=[assign (.Subscript oo ii p) X.env]:=by rfl) :
  SS X cA aq aj F EX (.Assign [.Subscript oo ii p] a pos) (.asg (.aq O I') A):=PS.weak (YZ ha (znb hO hI zhL Uy) hs hw h1) λD Z H hh=>un hh λU J s hL hS h=>by
 refine⟨U,J,s,hL,hS,(aY.ofM hL hS.lz h).imp λd s1 U1 H1 ⟨x1,aJ,h1⟩ v rv=>?_⟩;obtain⟨dd,e0,rd,h2⟩:=OD rv (aY.ofM (hL.mono x1 hS.lz) aJ.lz h1);refine bw (hL.mono x1 hS.lz) aJ h2 λxo H2 U2 d2 s2 x2 hL2 aU r2 h3=>bw hL2 aU h3 λyi H3 U3 d3 s3 x3 pq gQ r3 h4=>?_;obtain⟨k,_,ek,h5⟩:=Dq r3 h4;obtain⟨n,ad,xs,vs,_,ea,e1,f1,g1,q1,h6⟩:=Uq gQ (r2.mono x3 aU.lz) h5;subst ek ea;cases ej:L2.tH xs.length k with
 |none=>simp only[ej] at h6;exact h6.elim
 |some jj=>
  simp only[ej] at h6;refine⟨ad,vs,k,jj,rfl,rfl,g1,by rw[<-q1.len];exact ej,?_⟩;have rv3:=(rd.mono x2 aJ.lz).mono x3 aU.lz;have rW:=gQ.write e1 f1 (q1.set rv3 jj);have x4:Ext U3 H3 U3 (upd H3 ad (.lst (vs.set jj v))):=Ext.write f1 ⟨_,g1⟩;obtain⟨_,_,h8⟩:=h6 U3 _ x4 rW;exact h8 U3 _ Z Ext.refl rW (pq.mono x4 gQ.lz)
theorem zmk{kt k2 uN}(hc:X.aj=true)(dB:aj=true)(hN:X.N.Nodup)(hi:X.N[i]?=some x)(hj:X.N[j]?=some y)(xT:i≠j)(hx:X.env.scope.names.lookup x=some .local)(hy:X.env.scope.names.lookup y=some .local)
  (ha:SE X cA aq aj (F aj) EX a A) (hb:SE X cA aq aj (F aj) EX b B) (h1:starEach [a,b] X.env=(false,eval a X.env)::starEach [b] X.env) (h2:starEach [b] X.env=(false,eval b X.env)::starEach [] X.env)
  (hw:swappedStores [.Tuple [.Name x px,.Name y py] kt pt] (.Tuple [a,b] k2 uN) X.env=pure (some [x,y]))
  (hs:swapsWithSole [.Tuple [.Name x px,.Name y py] kt pt] (.Tuple [a,b] k2 uN) pos.line X.env=pure false:=by rfl) :
  SS X cA aq aj F EX (.Assign [.Tuple [.Name x px,.Name y py] kt pt] (.Tuple [a,b] k2 uN) pos) (.par i j A B):=PS.weak (zmC hc hN hi hj xT hx hy (sY ha (sY hb xX h2) h1) hw hs) λD Z H hh=>un hh λU J s hL hS h=>by
 have h:aY X.K cA (if aj=true then ofM (M.bd (ev aq aj (F aj) A J) λx=>M.bd (ev aq aj (F aj) B J) λy=>M.ret (x,y)) J (λxy s=>some (.nx ((J.set i (some xy.1)).set j (some xy.2)),s)) else λ_=>none) U H s D EX:=h;rw[if_pos dB] at h;refine bw hL hS (aY.ofM hL hS.lz h) λx H1 U1 d1 s1 x1 hL1 aJ r1 h1=>bw hL1 aJ h1 λy H2 U2 d2 s2 x2 hL2 aU r2 h2=>?_;obtain⟨_,_,h3⟩:=h2.bN aU;exact⟨x,y,rfl,h3 U2 H2 _ Ext.refl aU ((hL2.set (r1.mono x2 aJ.lz)).set r2)⟩
theorem zlx{pos':Pos}(hN:X.N.Nodup)(hi:X.N[i]?=some x)(hx:Loc X.env.scope x)(ha:SE X cA aq aj (F aj) EX a A)(hf:X.fn x=true\/X.env.scope.names.lookup x=some .local)(hr:PS X (.AugAssign (.Name x p) .Add a pos) (Jc i (tE X.K cA EX (ev aq aj (F aj) A)) (Y0 λi j=>i+j))) :
  SS X cA aq aj F EX (.AugAssign (.Name x p) .Add a pos) (.aug i A):=PS.weak hr λD Z H hh=>un hh λU J s hL hS h=>by
 have h:=aY.ofM hL hS.lz h;obtain⟨xv,e,h1⟩:=Run.nH h;obtain⟨v,q1,q2⟩:=hL.2 i xv (O1 e);refine⟨v,q1,bw hL hS h1 λy H1 U1 d1 s1 x1 hL1 aJ r1 h2=>?_⟩;obtain⟨p1,_,e1,h3⟩:=Dq (q2.mono x1 hS.lz) h2;obtain⟨p2,_,e2,h4⟩:=Dq r1 h3;obtain⟨_,_,h5⟩:=h4.bN aJ;exact⟨p1,p2,e1,e2,h5 U1 H1 _ Ext.refl aJ (hL1.set (.d (.int _)))⟩
theorem znW(hc:ST X cA aq aj (F aj) EX c C)(ht:wH X cA aq aj F EX body mb)(he:wH X cA aq aj F EX orelse me):SS X cA aq aj F EX (.If c body orelse pos) (.iff C mb me):=PS.weak (zow hc ht he) λD Z H hh=>un hh λU J s hL hS h=>by
 refine⟨U,J,s,hL,hS,(aY.ofM hL hS.lz h).imp λk s1 U1 H1 ⟨x1,aJ,h1⟩=>?_⟩;cases k with
 |true=>exact iT ⟨U1,J,s1,hL.mono x1 hS.lz,aJ,h1⟩
 |false=>exact iF ⟨U1,J,s1,hL.mono x1 hS.lz,aJ,h1⟩
theorem zjR{g:TG}{elt iter tg:Expr}{ifs:List Expr}{scope:Scope}{N:List Str}{cond:Eo}{fr aM:List Nat}{many:Nat}{fz:Bool}{w:Wk}{spos py:Pos}(hc:X.aj=true)(pA:X.N.Nodup)(tK:X.N[i]?=some y)(hx:Loc X.env.scope y)(hf:X.fn y=true\/X.env.scope.names.lookup y=some .local)(B':cC X.env.scope scope)(hi:SI X cA aq aj (F aj) EX tg iter w)(hN:N.length=many+fr.length)
  (pR:∀(i:Nat) (y:Str) (j:Nat),N[many+i]?=some y->fr[i]?=some j->scope.names.lookup y=some .free/\X.N[j]?=some y)
  (hg:∀cl C s3 H3 fp ao,PG (X.blk scope cl N C s3 H3 fp ao) tg g) (hT:dR X.K cA g aM) (hin:∀i∈aM,i<many)
  (ht:∀cl C s3 H3 fp ao,Dt (X.blk scope cl N C s3 H3 fp ao) cA aq aj (F aj) (λ_ _ _ _=>False) ifs cond) (he:∀cl C s3 H3 fp ao,SE (X.blk scope cl N C s3 H3 fp ao) cA aq aj (F aj) (λ_ _ _ _=>False) elt B)
  (u6:swapsWith (.ListComp elt [⟨tg,iter,ifs,0⟩] scope pos) (some (.Name y py)) spos.line X.env=pure true) (hs:∀x,foldedSetIterable iter X.env x=pure x:=by intro _;rfl) :
  SS X cA aq aj F EX (.Assign [.Name y py] (.ListComp elt [⟨tg,iter,ifs,0⟩] scope pos) spos) (.asg (.nm i) (.comp fz B aM w fr many cond)):=
 PS.weak (zfx hc pA tK hx hf B' hi (⟨hg,ht,he⟩ : Parts X elt tg ifs scope N g (qM X.K cA (λ_ _ _ _=>False) (n6 aq aj (F aj) cond)) (tE X.K cA (λ_ _ _ _=>False) (ev aq aj (F aj) B))) (ZY:=bF many fr) (λZ=>by simp[bF,hN]) (λZ i x v e1 e2=>O6 pR Z i x v e1 e2) u6 hs) λD Z H hh=>un hh λU J s hL hS h=>
  zdg (iter':=iter) hT hin ⟨U,J,s,hL,hS,(aY.ofM hL hS.lz h).imp λd s1 U1 H1 ⟨x1,aJ,h1⟩ v rv=>h1 U1 H1 _ Ext.refl aJ ((hL.mono x1 hS.lz).set rv)⟩
noncomputable def pB(m:MS)(kN:Vs->MS):MS:=λs=>match m s with
 |some (.nx J',s')=>kN J' s'
 |some (.ct J',s')=>kN J' s'
 |some (.bk J',s')=>some (.nx J',s')
 |r=>r
theorem Kag{K:W.Frag}{U:Ph}{H:Hp}{s:S}{D:Ends}{m:MS}{kN:Vs->MS}{N:L2.St->Hp->Prop}(hN:∀U' J' s' Z' H',Ext U H U' H'->aZ K cA U' H' Z' J'->aD K cA U' H' s'->aY K cA (kN J') U' H' s' D EX->N Z' H')(h:aY K cA (pB m kN) U H s D EX) :
  aY K cA m U H s {D with nx:=N,ct:=N,bk:=D.nx} EX:=by
 unfold aY pB at h;unfold aY;cases e:m s with
 |none=>rw[e] at h;exact h
 |some r=>
  obtain⟨r,s1⟩:=r;rw[e] at h;cases r with
  |nx J'=>
   intro U1 H1 Z1 x r l;have h2:aY K cA (kN J') U H s1 D EX:=h;exact hN U1 J' s1 Z1 H1 x l r (h2.ext x)
  |ct J'=>
   intro U1 H1 Z1 x r l;have h2:aY K cA (kN J') U H s1 D EX:=h;exact hN U1 J' s1 Z1 H1 x l r (h2.ext x)
  |bk J'=>exact h
  |rt d=>exact h
  |er c fs J'=>exact h
theorem zhG(hp:PassesOwn (model X.prog X.w) X.A X.env X.xe)(hc:ST X cA aq aj (F aj) EX c C)(hb:wH X cA aq aj F EX body mb):SS X cA aq aj F EX (.While c body [] pos) (.wh C mb):=PS.weak (zik hp hc hb) λD Z H hh=>un hh λU J s hL hS h=>by
 refine⟨λm Z H=>∃U J s,aZ X.K cA U H Z J/\aD X.K cA U H s/\aY X.K cA (iy (λJ=>M.bd (ev aq aj (F aj) C J) bool) (λJ=>exs aq aj F mb J) m J) U H s D EX,⟨o_,U,J,s,hL,hS,h⟩,?_⟩;rintro m Z H ⟨U,J,s,hL,hS,h⟩;cases m with
 |zero=>exact h.elim
 |succ m=>
  refine⟨U,J,s,hL,hS,(aY.ofM (k:=λok=>if ok=true then pB (exs aq aj F mb J) (iy (λJ=>M.bd (ev aq aj (F aj) C J) bool) (λJ=>exs aq aj F mb J) m) else λs=>some (.nx J,s)) hL hS.lz h).imp λk s1 U1 H1 ⟨x1,aJ,h1⟩=>?_⟩;cases k with
  |true=>
   rw[if_pos rfl] at h1 ⊢;refine⟨_,λZ' H' z=>⟨m,Bl m,z⟩,U1,J,s1,hL.mono x1 hS.lz,aJ,Kag (λU' J' s' Z' H' _ l r q=>?_) h1⟩;exact⟨U',J',s',l,r,q⟩
  |false=>
   rw[if_neg HB] at h1 ⊢;exact h1 U1 H1 Z Ext.refl aJ (hL.mono x1 hS.lz)
def SG(X:Cx)(cA:Cl)(aq:Nat->Nat->Bool)(aj:Bool)(F:Bool->Fn)(EX:XS)(tg:Expr)(t:Tg):Prop:=∃g:TG,PG X tg g/\∀(U:Ph) (H:Hp) (s:S) (Z:L2.St) (J:Vs) (d:Xv) (v:V) (D:Ends),aZ X.K cA U H Z J->aD X.K cA U H s->aW X.K cA U H d v->
 aY X.K cA (store aq aj (F aj) t d J) U H s D EX->g v Z H D.nx
theorem zj4(hN:X.N.Nodup)(hi:X.N[i]?=some x)(hx:Loc X.env.scope x)(hf:X.fn x=true\/X.env.scope.names.lookup x=some .local:=by first|exact .inl rfl|exact .inr rfl):SG X cA aq aj F EX (.Name x pos) (.nm i):=
 ⟨_,N8 hN hi hx hf,λU H s Z J d v D hL hS r h=>h U H _ Ext.refl hS (hL.set r)⟩
theorem zjF{k}(hc:X.aj=true)(dB:aj=true)(hN:X.N.Nodup)(hi:X.N[i]?=some x)(hj:X.N[j]?=some y)(hx:Loc X.env.scope x)(hy:Loc X.env.scope y)(yJ:X.fn x=true\/X.env.scope.names.lookup x=some .local)(yK:X.fn y=true\/X.env.scope.names.lookup y=some .local) :
  SG X cA aq aj F EX (.Tuple [.Name x px,.Name y py] k pos) (.tp [i,j]):=
 ⟨_,Ux hc hN hi hj hx hy yJ yK,λU H s Z J d v D hL hS r h=>zdL dB hL hS r h⟩
theorem znj(hp:PassesOwn (model X.prog X.w) X.A X.env X.xe)(hc:X.aj=true)(dB:aj=true)(ha:SI X cA aq aj (F aj) EX tg a w)(hg:SG X cA aq aj F EX tg t)(hb:wH X cA aq aj F EX body mb)
  (hs:∀x,foldedSetIterable a X.env x=pure x:=by intro _;rfl):SS X cA aq aj F EX (.For tg a body [] pos) (.fr t w mb):=by
 obtain⟨g,hG,hg⟩:=hg;refine PS.weak (zmB hp hc ha hG hb hs) λD Z H hh=>un hh λU J s hL hS h=>?_;have h:aY X.K cA (if aj=true then ofM (je aq aj (F aj) w J) J λcn=>dO cn.1 (λd J=>cP (store aq aj (F aj) t (.d d) J) λJ'=>exs aq aj F mb J') (cn.2+1) 0 J else λ_=>none) U H s D EX:=h;rw[if_pos dB] at h;refine⟨U,J,s,hL,hS,(aY.ofM hL hS.lz h).imp λcn s1 U1 H1 ⟨x1,aJ,h1⟩ bf hJ=>?_⟩;have hL1:=hL.mono x1 hS.lz;obtain⟨c,n⟩:=cn;dsimp only at h1 hJ;refine⟨λi m Z' H'=>∃U' J' s',Ext U1 H1 U' H'/\aZ X.K cA U' H' Z' J'/\aD X.K cA U' H' s'/\aY X.K cA (dO c (λd J=>cP (store aq aj (F aj) t (.d d) J) λJ'=>exs aq aj F mb J') m i J') U' H' s' D EX,⟨n+1,U1,J,s1,Ext.refl,hL1,aJ,h1⟩,?_⟩;rintro i m Z' H' ⟨U',J',s',x2,hL2,aU,h4⟩;cases m with
 |zero=>exact h4.elim
 |succ m=>
  cases ei:c.at i s' with
  |none=>
   exfalso
   unfold aY dO at h4;simp only[ei] at h4
  |some oi=>
   cases oi with
   |none=>
    refine .inl ⟨hJ.stop U' H' H' s' i x2 cM.refl aU ei,?_⟩;unfold aY dO at h4;simp only[ei] at h4;exact h4 U' H' Z' Ext.refl aU hL2
   |some xi=>
    refine .inr ⟨hJ.go U' H' H' s' i xi x2 cM.refl aU ei,_,λZ3 H3 z=>⟨m,Bl m,z⟩,λv H3 hy=>?_⟩;obtain⟨gr,rx⟩:=hJ.uO U' H' H' s' i xi v H3 x2 cM.refl aU ei hy;have h5:aY X.K cA (pB (cP (store aq aj (F aj) t (.d xi) J') λJ'=>exs aq aj F mb J') (dO c (λd J=>cP (store aq aj (F aj) t (.d d) J) λJ'=>exs aq aj F mb J') m (i+1))) U' H' s' D EX:=by
     unfold aY at h4 ⊢;have e:dO c (λd J=>cP (store aq aj (F aj) t (.d d) J) λJ'=>exs aq aj F mb J') (m+1) i J' s'=pB (cP (store aq aj (F aj) t (.d xi) J') λJ'=>exs aq aj F mb J') (dO c (λd J=>cP (store aq aj (F aj) t (.d d) J) λJ'=>exs aq aj F mb J') m (i+1)) s':=by
      rw[dO];simp only[ei];rfl
     rw[e] at h4;exact h4
    exact hg U' H3 s' Z' J' (.d xi) v _ (hL2.mono gr.ext aU.lz) (aU.grow gr) (.d rx) (aY.then_ (Kag (λU4 J4 s4 Z4 H4 x4 l4 r4 q4=>⟨U4,J4,s4,(x2.trans gr.ext).trans x4,l4,r4,q4⟩) (h5.ext gr.ext)))
end
end Mi
namespace L2
open PySem PySem.Spec PyProof.Rows
structure n8(K:W.Frag)(x qual:Str)(st:Stmt)(f:Addr)(fd:FuncData):Prop where
 ex:∃(oc:Value) (od:Option Addr) (kV doc pm:Value) (an:Option Addr) (cdv ct:Value) (osl:Array (Option Value)),
  fd=PySem.W.fnOf x qual (aV st) (aL st) (au st) .none kV doc pm an cdv ct/\K.lookup f=some ⟨oc,od,.func fd,osl⟩/\PySem.W.codeIn K cdv qual=true
 kp:PySem.W.keepIn K (.ref f)=true
end L2
namespace Mi
open PySem PySem.Spec PyProof.Rows L2
section
variable {P:Program}{w:World}{K:W.Frag}{mg:Str->Option Value}{base:Heap}{cA:Cl}{aq:Nat->Nat->Bool}{T:Nat->Option Df}
theorem Uz{U:Ph}{H:Hp}{N:List Str}{ds:List Xv}{vs:List V}{m p:Nat}(r:aR K cA U H ds vs)(hp:p=ds.length)(hm:m=N.length):aZ K cA U H (L2.start N vs) (ds.map some++List.replicate (m-p) none):=by
 subst hp hm;unfold L2.start;have hl:=r.len;refine⟨by simp[hl],λi d e=>?_⟩;by_cases hi:i<ds.length
 ·rw[pK (by simpa using hi),iG] at e;cases z:ds[i]? with
  |none=>rw[z] at e;cases e
  |some x=>
   rw[z] at e;cases e;obtain⟨v,a,b⟩:=r.get z;exact⟨v,by rw[pK (by simp;lia),iG,a];rfl,b⟩
 ·rw[pZ (by simpa using hi),Bc] at e;split at e<;>cases e
theorem O7{U:Ph}{H:Hp}{s:S}{ds:List Xv}{k n:Nat}{cm:Bool}{df:Df}{Q:VK}{E:XK}(hT:T n=some df)
  (h:Run K cA (call aq T (k+1) cm n ds) U H s (λd _ U' H'=>∀v,aW K cA U' H' d v->Q v H') (λc fs _ U' H'=>∀dx,k_ K cA U' H' c fs dx->E (.ref (cA.a c)) dx H')) :
  ds.length=df.iz/\aY K cA (exs aq cm (λc=>call aq T k c) df.body (ds.map some++List.replicate (df.many-df.iz) none)) U H s {nx:=λ_ H'=>Q .non H',rt:=Q} (λ_ C dx H'=>E C dx H'):=by
 unfold call at h;simp only[hT] at h;by_cases hl:ds.length=df.iz
 ·refine⟨hl,?_⟩;rw[if_pos hl] at h;unfold Run at h;unfold aY;cases e:exs aq cm (λc=>call aq T k c) df.body (ds.map some++List.replicate (df.many-df.iz) none) s with
  |none=>simp only[e] at h
  |some r=>
   obtain⟨r,s1⟩:=r;simp only[e] at h;cases r with
   |nx J=>exact λU' H' Z' x r l=>h U' H' x r _ (.d .non)
   |rt d=>exact λU' H' v x r rv=>h U' H' x r v rv
   |er c fs J=>exact λU' H' Z' x r l=>h U' H' x r
   |bk J=>exact h.elim
   |ct J=>exact h.elim
 ·rw[if_neg hl] at h;exact h.elim
def cQ:cG P w K mg base (fK P w) cm 0 f fd ps (lW K cA (call aq T 0 cm n)):=
 ⟨λvs H Q E ⟨_,_,_,_,_,h⟩=>h.elim,λA outer s H args us vs Q E _ _ _ _ _ ⟨_,_,_,_,_,h⟩=>h.elim⟩
theorem ziP{x qual:Str}{st:Stmt}{f:Addr}{fd:FuncData}{N ps:List Str}{k n:Nat}{cm:Bool}{df:Df}(F:n8 K x qual st f fd)(S:bZ N ps (au st))(hT:T n=some df)(hp:df.iz=ps.length)(hm:df.many=N.length)
  (hb:∀(cdv:Value) (A:Around) (outer:List Env) (s:Shared) (H:Hp) (E:XK),bG (k+1) A->
   wH (dI (fK P w) P w K mg base N qual (au st) f cdv A outer s H E cm) cA aq cm (λc=>call aq T k c) (λ_ C dx H'=>E C dx H') (aL st) df.body) :
  cG P w K mg base (fK P w) cm (k+1) f fd ps (lW K cA (call aq T (k+1) cm n)):=by
 obtain⟨oc,od,kV,doc,pm,an,cdv,ct,osl,rfl,lk,iH⟩:=F.ex;refine R7 lk iH S (λvs H Q E ⟨U,ds,s,r,hS,h⟩=>?_) λA outer s H vs Q E hr ⟨U,ds,st',r,hS,h⟩=>?_
 ·rw[<-r.len,(O7 hT h).1,hp]
 ·obtain⟨hl,h2⟩:=O7 hT h;exact⟨_,hb cdv A outer s H E hr,U,_,st',Uz r hl.symm hm,hS,h2⟩
theorem zle{x qual:Str}{st:Stmt}{f:Addr}{fd:FuncData}{N ps:List Str}{k n:Nat}{cm:Bool}{df:Df}(F:n8 K x qual st f fd)(S:bZ N ps (au st))(hT:T n=some df)(hp:df.iz=ps.length)(hm:df.many=N.length)
  (hb:∀(cdv:Value) (A:Around) (outer:List Env) (s:Shared) (H:Hp) (E:XK),bG k (A.deeper (envOfC qual (au st) s.heap.objs.size f cdv))->
   wH (dI (fK P w) P w K mg base N qual (au st) f cdv A outer s H E cm) cA aq cm (λc=>call aq T k c) (λ_ C dx H'=>E C dx H') (aL st) df.body) :
  cG P w K mg base (fK P w) cm (k+1) f fd ps (lW K cA (call aq T (k+1) cm n)):=ziP F S hT hp hm λcdv A outer s H E hr=>hb cdv A outer s H E (hr.deeper _)
end
theorem zll{K:W.Frag}{cA:Cl}{m:List Xv->M Xv}{H:Hp}{a:Addr}{ns:List Int}(hq:cY K H a (ns.map V.int))(hm:∃s',m [.d (.fl (ns.map D.int))] []=some (.ok (.d (.bl true)),s')) :
  lW K cA m [.ref a] H (λv _=>v=.bl true) λ_ _ _=>False:=by
 have rs:∀(l:List Int) U,aC K cA U H (l.map D.int) (l.map V.int):=λl U=>by
  induction l with
  |nil=>exact .nil
  |cons i l ih=>exact .cons (.int i) ih
 have hl:LstAt K ⟨λ_=>False,[]⟩ H a (ns.map V.int):=by
  rcases hq with h|h
  ·exact .inl ⟨h,λz=>z⟩
  ·exact .inr (.inr h)
 refine⟨⟨λ_=>False,[]⟩,[.d (.fl (ns.map D.int))],[],.cons (.d (.fl hl (rs ns _))) .nil,⟨rfl,(λn o b e1 e2=>by simp at e1),Bs,(λb hb=>by cases hb),(λb z=>False.elim z)⟩,?_⟩;obtain⟨s',e⟩:=hm;unfold Run;rw[e];intro U' H' _ _ v rv;cases rv with
 |d rv=>cases rv;rfl
def zgM:Raises X (λ_ _ _ _=>False):=λ_ _ _ _ _ _ _ _ _ _ _ _ _ z=>z.elim
def yL(r:bG k A):A.units+60<cLine:=by have:=r.un;lia
noncomputable def aF:Expr->Bool
 |.Starred _ _=>false
 |_=>true
def bC(h:aF e=true):starEach (e::es) env=(false,eval e env)::starEach es env:=by
 cases e<;>first|rfl|cases h
theorem bH:∀{es:List Expr} {env:Env} {pos:Pos},es.all aF=true->(backTo pos (starEach es env)).any (·.1)=false
 |[],_,_,_=>rfl
 |e::es,env,pos,h=>by
  rw[Bv,gb] at h;rw[bC h.1];show (false||(backTo pos (starEach es env)).any (·.1))=false;rw[bH h.2];rfl
theorem rZ:∀{es:List Expr} {env:Env} {pos:Pos},es.all aF=true->(backTo pos (starEach es env)).all (λx=>!x.1)=true
 |[],_,_,_=>rfl
 |e::es,env,pos,h=>by
  rw[Bv,gb] at h;rw[bC h.1];show (true&&(backTo pos (starEach es env)).all (λx=>!x.1))=true;rw[rZ h.2];rfl
theorem yM(h1:aF e=true)(h2:es.all aF=true)(h3:decide (es.length<28)=true):((backTo pos (starEach (e::es) env)).all (λx=>!x.1)&&(backToKw pos (keywordEach [] env)).all (λx=>x.1.isSome)&&decide ((e::es).length+([]:List Keyword).length+(if ([]:List Keyword).isEmpty then 0 else 1)<30))=true:=by
 rw[rZ (es:=e::es) (by rw[Bv,h1,h2];rfl)];have:=iZ h3;have z:(e::es).length+([]:List Keyword).length+(if ([]:List Keyword).isEmpty then 0 else 1)<30:=by
  show es.length+1+0+0<30
  lia
 rw[fP z];rfl
noncomputable def qP(sc scope:Scope):Bool:=(match scope.kind with|.function=>true|_=>false)&&scope.names.all λy=>match y.2 with
 |.cell=>(match scope.names.lookup y.1 with|some .cell=>true|_=>false)
 |.free=>(match sc.names.lookup y.1 with|some .cell=>true|some .free=>true|_=>false)
 |.local=>(match scope.names.lookup y.1 with|some .local=>true|_=>false)
 |_=>true
theorem cC.of(h:qP sc scope=true):cC sc scope:=by
 unfold qP at h;rw[gb,iK] at h;obtain⟨h1,h2⟩:=h;refine⟨?_,λy hy z=>?_,λy hy z=>?_,λy hy z=>?_⟩
 ·split at h1
  ·assumption
  ·cases h1
 ·have:=h2 y hy;rw[z] at this;dsimp only at this;split at this
  ·assumption
  ·cases this
 ·have:=h2 y hy;rw[z] at this;dsimp only at this;split at this
  ·exact .inl (by assumption)
  ·exact .inr (by assumption)
  ·cases this
 ·have:=h2 y hy;rw[z] at this;dsimp only at this;split at this
  ·assumption
  ·cases this
noncomputable def frB(scope:Scope)(XN:List Str):List Str->List Nat->Bool
 |y::N,j::fr=>(match scope.names.lookup y with|some .free=>true|_=>false)&&decide (XN[j]?=some y)&&frB scope XN N fr
 |[],[]=>true
 |_,_=>false
theorem ziF:∀{N:List Str} {fr:List Nat},frB scope XN N fr=true->N.length=fr.length/\∀(i:Nat) (y:Str) (j:Nat),N[i]?=some y->fr[i]?=some j->scope.names.lookup y=some .free/\XN[j]?=some y
 |[],[],_=>⟨rfl,λi y j h=>by simp at h⟩
 |[],_::_,h=>by cases h
 |_::_,[],h=>by cases h
 |y::N,j::fr,h=>by
  unfold frB at h;rw[gb,gb,FN] at h;obtain⟨⟨h1,h2⟩,h3⟩:=h;obtain⟨l,q⟩:=ziF h3;refine⟨by simp[l],λi z m e1 e2=>?_⟩;cases i with
  |zero=>
   simp at e1 e2;subst e1 e2;refine⟨?_,h2⟩;split at h1
   ·assumption
   ·cases h1
  |succ i=>exact q i z m (by simpa using e1) (by simpa using e2)
noncomputable def okN(x:Str):Bool:=!(x==("__debug__" : Str)) && !(x==("__classdict__" : Str)) && !decide (x="__name__")
def vD(h:okN x=true):(x==("__debug__" : Str))=false/\(x==("__classdict__" : Str))=false/\x≠"__name__":=by
 unfold okN at h;simp only[gb,Bool.not_eq_true',decide_eq_false_iff_not] at h;exact⟨h.1.1,h.1.2,h.2⟩
theorem O8{env:Env}{k:NameKind}(hk:k≠.free):∀{names:List (Str×NameKind)} {x:Str},names.lookup x=some k->
  (names.map λ(n,k)=>if (k==NameKind.free&&env.scope.kind==.function&&env.kindOf n==some .cell) then (n,NameKind.cell) else (n,k)).lookup x=some k
 |[],x,h=>by simp at h
 |(n,q)::r,x,h=>by
  rw[qd] at h;rw[jx,qd];have hd:∀c:Bool,(if c=true then (n,NameKind.cell) else (n,q)).1=n:=λc=>by cases c<;>rfl
  rw[hd];by_cases z:x=n
  ·subst z;simp only[FP] at h ⊢;cases h
   split
   ·rename_i y;simp only[gb,oA] at y;exact absurd y.1.1 hk
   ·rfl
  ·have z':(x==n)=false:=by simpa using z
   simp only[z'] at h ⊢;exact O8 hk h
noncomputable def vG(K:W.Frag):Sp:=λvs H Q _=>∃(a:Addr) (ns:List Int),vs=[.ref a]/\cY K H a (ns.map V.int)/\ns.length<=63/\True/\∀H',Q (.bl true) H'
theorem zkD{K:W.Frag}{cA:Cl}{m:List Xv->M Xv}(hm:∀ns:List Int,ns.length<=63->∃s',m [.d (.fl (ns.map D.int))] []=some (.ok (.d (.bl true)),s'))(vs:List V)(H:Hp)(Q:VK)(E:XK)(h:vG K vs H Q E):lW K cA m vs H Q E:=by
 obtain⟨a,ns,rfl,hq,hl,hO,k⟩:=h;obtain⟨U,ds,s,r1,r2,h⟩:=zll (cA:=cA) (m:=m) hq (hm ns hl);refine⟨U,ds,s,r1,r2,?_⟩;unfold Run at h ⊢;split at h
 ·intro U' H' x r v rv;rw[h U' H' x r v rv];exact k H'
 ·exact λU' H' x r dx q=>(h U' H' x r dx q).elim
 ·exact h
def Dw{K:W.Frag}{fd:FuncData}{p:Str}(h:∀a,bindArgs fd ⟨[a],[]⟩=pure [(p,a)]):Binds K fd [p] []:=.all λus hl=>by
 cases us with
 |nil=>cases hl
 |cons a r=>cases r with
  |nil=>exact h a
  |cons b r=>cases hl
theorem vH{K:W.Frag}{fd:FuncData}{p q:Str}(h:∀a b,bindArgs fd ⟨[a,b],[]⟩=pure [(p,a),(q,b)]):Binds K fd [p,q] []:=.all λus hl=>by
 cases us with
 |nil=>cases hl
 |cons a r=>cases r with
  |nil=>cases hl
  |cons b r=>cases r with
   |nil=>exact h a b
   |cons c r=>cases hl
theorem vI{K:W.Frag}{fd:FuncData}{p q t:Str}(h:∀a b c,bindArgs fd ⟨[a,b,c],[]⟩=pure [(p,a),(q,b),(t,c)]):Binds K fd [p,q,t] []:=.all λus hl=>by
 cases us with
 |nil=>cases hl
 |cons a r=>cases r with
  |nil=>cases hl
  |cons b r=>cases r with
   |nil=>cases hl
   |cons c r=>cases r with
    |nil=>exact h a b c
    |cons d r=>cases hl
theorem vJ{K:W.Frag}{fd:FuncData}{p q t u:Str}(h:∀a b c d,bindArgs fd ⟨[a,b,c,d],[]⟩=pure [(p,a),(q,b),(t,c),(u,d)]):Binds K fd [p,q,t,u] []:=.all λus hl=>by
 cases us with
 |nil=>cases hl
 |cons a r=>cases r with
  |nil=>cases hl
  |cons b r=>cases r with
   |nil=>cases hl
   |cons c r=>cases r with
    |nil=>cases hl
    |cons d r=>cases r with
     |nil=>exact h a b c d
     |cons e r=>cases hl
def zl1:bootBuiltins "int"=some (.type "int"):=by decide +kernel
def zjX:bootBuiltins "bool"=some (.type "bool"):=by decide +kernel
def O9:bootBuiltins "tuple"=some (.type "tuple"):=by decide +kernel
def zka:bootBuiltins "list"=some (.type "list"):=by decide +kernel
structure JE(X:Cx)(cA:Cl)(aq:Nat->Nat->Bool)(aj:Bool)(F:Fn)(EX:XS)(e:Expr)(m:E):Prop where
 o:SE X cA aq aj F EX e m
structure JA(X:Cx)(cA:Cl)(aq:Nat->Nat->Bool)(aj:Bool)(F:Fn)(EX:XS)(e:List Expr)(m:Es):Prop where
 o:SA X cA aq aj F EX e m
structure JT(X:Cx)(cA:Cl)(aq:Nat->Nat->Bool)(aj:Bool)(F:Fn)(EX:XS)(e:Expr)(m:E):Prop where
 o:ST X cA aq aj F EX e m
structure JW(X:Cx)(cA:Cl)(aq:Nat->Nat->Bool)(aj:Bool)(F:Fn)(EX:XS)(e:Expr)(m:E):Prop where
 o:SW X cA aq aj F EX e m
structure JC(X:Cx)(cA:Cl)(aq:Nat->Nat->Bool)(aj:Bool)(F:Fn)(EX:XS)(e:List Expr)(m:Eo):Prop where
 o:Dt X cA aq aj F EX e m
structure JO(X:Cx)(cA:Cl)(aq:Nat->Nat->Bool)(aj:Bool)(F:Fn)(EX:XS)(e:Option Expr)(m:Eo):Prop where
 o:Kv X cA aq aj F EX e m
structure JI(X:Cx)(cA:Cl)(aq:Nat->Nat->Bool)(aj:Bool)(F:Fn)(EX:XS)(tg e:Expr)(m:Wk):Prop where
 o:SI X cA aq aj F EX tg e m
structure JG(X:Cx)(cA:Cl)(aq:Nat->Nat->Bool)(aj:Bool)(F:Bool->Fn)(EX:XS)(e:Expr)(m:Tg):Prop where
 o:SG X cA aq aj F EX e m
structure JS(X:Cx)(cA:Cl)(aq:Nat->Nat->Bool)(aj:Bool)(F:Bool->Fn)(EX:XS)(e:Stmt)(m:St):Prop where
 o:SS X cA aq aj F EX e m
structure JB(X:Cx)(cA:Cl)(aq:Nat->Nat->Bool)(aj:Bool)(F:Bool->Fn)(EX:XS)(e:List Stmt)(m:bT):Prop where
 o:wH X cA aq aj F EX e m
structure JK(X:Cx)(x:Str)(k:NameKind):Prop where
 o:X.env.scope.names.lookup x=some k
structure JP(X:Cx)(cA:Cl)(op:CmpOp)(p:Pr):Prop where
 o:∃r,fV X (compareOp op) r/\bK X.K cA p (r2 r)
structure JQ(X:Cx)(cA:Cl)(op:Operator)(p:Pr):Prop where
 o:∃r,fV X (binaryOp op) r/\bK X.K cA p (r2 r)
structure JN(X:Cx)(cA:Cl)(kx:Expr)(k:Kd):Prop where
 o:PE X kx (tC (GJ cA k))
structure JR(X:Cx)(EX:XS):Prop where
 o:Raises X EX
structure JH(X:Cx):Prop where
 o:PassesOwn (model X.prog X.w) X.A X.env X.xe
structure JY(X:Cx)(tg:Expr)(g:TG):Prop where
 o:PG X tg g
noncomputable def lX:NameKind->Bool
 |.local=>true
 |.cell=>true
 |_=>false
noncomputable def Dy:NameKind->Bool
 |.local=>true
 |.cell=>true
 |.free=>true
 |_=>false
section
variable {X:Cx}{cA:Cl}{aq:Nat->Nat->Bool}{aj:Bool}{F:Fn}{EX:XS}{a b c d e:Expr}{A B C Dd E':E}{pos p p2 apos:Pos}{es:List Expr}{Xs:Es}{x y:Str}{k k':NameKind}{q q1 q2 q3:Pr}{fz:Bool}
def zpa(h:scope.names.lookup x=some k)(hk:(match k with|.free=>false|_=>true)=true):JK (X.blk scope cl N Cc s3 H3 fp ao) x k:=
 ⟨O8 (by intro z;subst z;cases hk) h⟩
theorem g_v(i:Nat)(hN:X.N[i]?=some x)(h:JK X x k)(hv:Dy k=true)(hd:okN x=true):JE X cA aq aj F EX (.Name x pos) (.v i):=
 ⟨zo8 i hN (by cases k<;>first|exact .inl h.o|exact .inr (.inl h.o)|exact .inr (.inr h.o)|cases hv) (vD hd).1 (vD hd).2.1⟩
def zpo(i:Nat)(hN:N[i]?=some x)(h:scope.names.lookup x=some .free)(hd:okN x=true):JE (X.blk scope cl N Cc s3 H3 fp ao) cA aq aj F EX (.Name x pos) (.v i):=
 ⟨zo8 i hN (.inr (Oj h)) (vD hd).1 (vD hd).2.1⟩
def aP{i j p}:JE X cA aq aj F EX (.Constant (.int i) j p) (.c (.int i)):=⟨zlI⟩
def pC{i j p}:JE X cA aq aj F EX (.Constant (.bool i) j p) (.c (.bl i)):=⟨zot⟩
def Dz{j p}:JE X cA aq aj F EX (.Constant .none j p) (.c .non):=⟨zlo⟩
def KJ(h:∃t,X.mg x=some (.int i t))(hg:JK X x .globalImplicit)(hd:okN x=true):JE X cA aq aj F EX (.Name x pos) (.c (.int i)):=by
 obtain⟨t,h⟩:=h;exact⟨zkB hg.o h (vD hd).1⟩
def wI:JQ X cA .Add .add:=⟨_,zgL,zlB⟩
def DG:JQ X cA .Sub .aq:=⟨_,zmV,zm1⟩
def Ae:JQ X cA .Mult .mul:=⟨_,zlq,zlY⟩
def GZ:JQ X cA .FloorDiv .fdiv:=⟨_,zj3,zjm⟩
def Af:JQ X cA .Mod .mod:=⟨_,zmU,zlE⟩
def zny:JQ X cA .Pow .pow:=⟨_,zk0,znq⟩
def eO(h:JQ X cA op q)(ha:JE X cA aq aj F EX a A)(hb:JE X cA aq aj F EX b B):JE X cA aq aj F EX (.BinOp a op b pos) (.pr fz q (.cons A (.cons B .nil))):=by
 obtain⟨r,h1,h2⟩:=h.o;exact⟨zlH h1 h2 ha.o hb.o⟩
def zop(ha:JE X cA aq aj F EX a A):JE X cA aq aj F EX (.UnaryOp .USub a pos) (.pr true .neg (.cons A .nil)):=⟨znZ Y7 zmf ha.o⟩
def zmw(ha:JE X cA aq aj F EX a A):JE X cA aq aj F EX (.UnaryOp .Not a pos) (.not A):=⟨zlS ha.o⟩
def su{op}(ha:JE X cA aq aj F EX a A):JE X cA aq aj F EX (.BoolOp op [a] pos) A:=⟨zk8 ha.o⟩
def wJ{rest:List Expr}(ha:JE X cA aq aj F EX a A)(hb:JE X cA aq aj F EX (.BoolOp .And (b::rest) pos) B):JE X cA aq aj F EX (.BoolOp .And (a::b::rest) pos) (.and A B):=⟨zmg ha.o hb.o⟩
def KN{rest:List Expr}(ha:JE X cA aq aj F EX a A)(hb:JE X cA aq aj F EX (.BoolOp .Or (b::rest) pos) B):JE X cA aq aj F EX (.BoolOp .Or (a::b::rest) pos) (.or A B):=⟨zn2 ha.o hb.o⟩
def Ag{k:Nat}(hr:bG k X.A):JP X cA .Eq .eq:=⟨_,zlk (yL hr),znL⟩
def KQ{k:Nat}(hr:bG k X.A):JP X cA .NotEq .ne:=⟨_,zl8 (yL hr),zoa⟩
def DK{k:Nat}(hr:bG k X.A):JP X cA .Lt .lt:=⟨_,Ji.or (zmM (by have:=yL hr;lia)),znI⟩
def zoR:JP X cA .LtE .le:=⟨_,znA,zof⟩
def UG:JP X cA .Gt .gt:=⟨_,znw,znB⟩
def O_:JP X cA .GtE .ge:=⟨_,zoi,znF⟩
def KR{k:Nat}(hr:bG k X.A):JP X cA .In .inn:=⟨_,zml (yL hr),znz⟩
noncomputable def pD:Expr->Bool
 |.Set _ _ _=>false
 |_=>true
def yN(h:pD b=true):behindInMarks op b=false:=by cases b<;>first|rfl|cases h
theorem uq(ho:JP X cA op q)(ha:JE X cA aq aj F EX a A)(hb:JE X cA aq aj F EX b B)(h1:pD b=true:=by rfl):JE X cA aq aj F EX (.Compare a [op] [b] pos) (.pr true q (.cons A (.cons B .nil))):=by
 obtain⟨r,h2,h3⟩:=ho.o;exact⟨zlu h2 h3 ha.o hb.o (yN h1)⟩
theorem mU(ho:JP X cA op q)(ha:JE X cA aq aj F EX a A)(hb:JE X cA aq aj F EX b B)(h1:pD b=true:=by rfl):JT X cA aq aj F EX (.Compare a [op] [b] pos) (.pr true q (.cons A (.cons B .nil))):=by
 obtain⟨r,h2,h3⟩:=ho.o;exact⟨zmA h2 h3 ha.o hb.o (yN h1)⟩
theorem zom(h1:JP X cA op q1)(h2:JP X cA op' q2)(ha:JE X cA aq aj F EX a A)(hb:JE X cA aq aj F EX b B)(hc:JE X cA aq aj F EX c C)(hm:pD c=true:=by rfl):JE X cA aq aj F EX (.Compare a [op,op'] [b,c] pos) (.zV q1 q2 A B C):=by
 obtain⟨r,h3,h4⟩:=h1.o;obtain⟨r',h5,h6⟩:=h2.o;exact⟨zng h3 h4 h5 h6 ha.o hb.o hc.o (yN hm)⟩
def Pa{j p}(ha:JE X cA aq aj F EX a A):JE X cA aq aj F EX (.Compare a [.Is] [.Constant .none j p] pos) (.pr true .rK (.cons A .nil)):=⟨zmN ha.o⟩
def G3{j p}(ha:JE X cA aq aj F EX a A):JE X cA aq aj F EX (.Compare a [.IsNot] [.Constant .none j p] pos) (.pr true .pU (.cons A .nil)):=⟨zks ha.o⟩
def UJ{j p}(ha:JE X cA aq aj F EX a A):JT X cA aq aj F EX (.Compare a [.Is] [.Constant .none j p] pos) (.pr true .rK (.cons A .nil)):=⟨zlW ha.o⟩
def UL{j p}(ha:JE X cA aq aj F EX a A):JT X cA aq aj F EX (.Compare a [.IsNot] [.Constant .none j p] pos) (.pr true .pU (.cons A .nil)):=⟨zjQ ha.o⟩
noncomputable def Ah:Expr->Bool
 |.Call _ _ _ _=>true
 |.Name _ _=>true
 |.Subscript _ _ _=>true
 |.Attribute _ _ _=>true
 |_=>false
def jt(ha:JE X cA aq aj F EX a A)(he:Ah a=true:=by rfl):JT X cA aq aj F EX a A:=⟨zno ha.o (by cases a<;>first|(intro _;rfl)|cases he)⟩
def nM(ha:JT X cA aq aj F EX a A):JT X cA aq aj F EX (.UnaryOp .Not a pos) (.not A):=⟨znh ha.o⟩
def UW(ha:JT X cA aq aj F EX a A):JW X cA aq aj F EX (.BoolOp .And [a] pos) A:=⟨zko ha.o⟩
def DN(ha:JT X cA aq aj F EX a A):JW X cA aq aj F EX (.BoolOp .Or [a] pos) A:=⟨zmG ha.o⟩
def U6{rest:List Expr}(ha:JT X cA aq aj F EX a A)(hb:JW X cA aq aj F EX (.BoolOp .And (b::rest) pos) B):JW X cA aq aj F EX (.BoolOp .And (a::b::rest) pos) (.and A B):=⟨zlA ha.o hb.o⟩
def DP{rest:List Expr}(ha:JT X cA aq aj F EX a A)(hb:JW X cA aq aj F EX (.BoolOp .Or (b::rest) pos) B):JW X cA aq aj F EX (.BoolOp .Or (a::b::rest) pos) (.or A B):=⟨znE ha.o hb.o⟩
def wK(h:JW X cA aq aj F EX a A):JT X cA aq aj F EX a A:=⟨zpq h.o⟩
def U7(hc:JT X cA aq aj F EX c C)(ha:JE X cA aq aj F EX a A)(hb:JE X cA aq aj F EX b B):JE X cA aq aj F EX (.IfExp c a b pos) (.ite C A B):=⟨zmH hc.o ha.o hb.o⟩
def aH:JA X cA aq aj F EX [] .nil:=⟨znd⟩
def aA(ha:JE X cA aq aj F EX a A)(hr:JA X cA aq aj F EX es Xs)(hs:aF a=true:=by rfl):JA X cA aq aj F EX (a::es) (.cons A Xs):=⟨zkf ha.o hr.o (bC hs)⟩
def jf{k}(ha:JA X cA aq aj F EX es Xs)(hz:decide (Es.len Xs<=sizeLine)=true:=by rfl):JE X cA aq aj F EX (.Tuple es k pos) (.tup Xs):=⟨zmS ha.o (iZ hz)⟩
def Ai(ha:JA X cA aq aj F EX es Xs)(hz:decide (Es.len Xs<=sizeLine)=true:=by rfl):JE X cA aq aj F EX (.List es pos) (.lst fz Xs):=⟨zma ha.o (iZ hz)⟩
noncomputable def vK:Expr->Bool
 |.Constant _ _ _=>true
 |.Name _ _=>true
 |.Call _ _ _ _=>true
 |.BinOp _ _ _ _=>true
 |.UnaryOp _ _ _=>true
 |.Subscript _ _ _=>true
 |.IfExp _ _ _ _=>true
 |.Attribute _ _ _=>true
 |.Compare _ _ _ _=>true
 |.BoolOp _ _ _=>true
 |_=>false
theorem cR(ha:JE X cA aq aj F EX a A)(hb:JE X cA aq aj F EX b B)(hs:vK b=true:=by rfl):JE X cA aq aj F EX (.Subscript a b pos) (.pr true .ix (.cons A (.cons B .nil))):=⟨znV zn6 ha.o hb.o (by cases b<;>first|(intro _ _;rfl)|cases hs)⟩
def zpu:JO X cA aq aj F EX none .no:=⟨zoo⟩
def U8(ha:JE X cA aq aj F EX a A):JO X cA aq aj F EX (some a) (.yes A):=⟨zls ha.o⟩
theorem zoS{lo hi:Option Expr}{Lo Hi:Eo}(ha:JE X cA aq aj F EX a A)(hl:JO X cA aq aj F EX lo Lo)(hh:JO X cA aq aj F EX hi Hi):JE X cA aq aj F EX (.Subscript a (.Slice lo hi none p2) pos) (.sl fz A Lo Hi):=⟨zn3 ha.o hl.o hh.o⟩
def zne(ha:JE X cA aq aj F EX a A):JE X cA aq aj F EX (.Subscript a (.Slice none none (some (.UnaryOp .USub (.Constant (.int 1) j p3) p4)) p2) pos) (.pr true .rev (.cons A .nil)):=⟨zmr ha.o⟩
theorem zl3(f:Nat){cm:Bool}{k:Nat}{fa:Addr}{fd:FuncData}{ps:List Str}(Fo:cG X.prog X.w X.K X.mg X.base (fK X.prog X.w) cm k fa fd ps (lW X.K cA (F f)))(jo:cm=true->X.aj=true)(hr:bG k X.A)(hm:X.mg x=some (.ref fa))(hk:PySem.W.keepIn X.K (.ref fa)=true)(hb:Binds X.K fd ps [])(R:JR X EX)(hg:JK X x .globalImplicit)
  (ha:JA X cA aq aj F EX (e::es) Xs) (hd:okN x=true) (he:aF e=true:=by rfl) (hpl:es.all aF=true:=by rfl) :
  JE X cA aq aj F EX (.Call (.Name x p) (e::es) [] pos) (.call f Xs):=⟨zj2 Fo jo hr hg.o hm hk hb R.o ha.o (vD hd).1 (bC he) (bH hpl)⟩
theorem Pb(hv:GJ cA kd=.ty T)(hm:X.mg x=none)(hb:bootBuiltins x=some (.type T))(hg:JK X x .globalImplicit)(hd:okN x=true):JN X cA (.Name x pos) kd:=⟨λao s Z H Q I h=>by
 rw[hv] at h;exact wB I hg.o hm hb ⟨.ty T,H,I,rfl,h⟩ (vD hd).2.2 (vD hd).1⟩
theorem Pg(h0:(vq kd).isSome=true)(hm:X.mg "isinstance"=none)(hg:JK X "isinstance" .globalImplicit)(ha:JE X cA aq aj F EX a A)(hk:JN X cA kx kd)(h1:aF a=true:=by rfl)(h2:aF kx=true:=by rfl):JE X cA aq aj F EX (.Call (.Name "isinstance" p) [a,kx] [] pos) (.rN A kd):=
 ⟨zlX (λz=>by rw[z] at h0;cases h0) hg.o hm ha.o hk.o (bC h1) (bC h2) (bH (by rw[Bv,h2];rfl))⟩
theorem G4(hm:X.mg "len"=none)(hg:JK X "len" .globalImplicit)(ha:JA X cA aq aj F EX (e::es) Xs)(he:aF e=true:=by rfl)(hpl:es.all aF=true:=by rfl):JE X cA aq aj F EX (.Call (.Name "len" p) (e::es) [] pos) (.pr fz .len Xs):=⟨yF zdB zmp hg.o hm PySem.boot_len ha.o Tv Tv (bC he) (bH hpl)⟩
theorem znG(hm:X.mg "abs"=none)(hg:JK X "abs" .globalImplicit)(ha:JA X cA aq aj F EX (e::es) Xs)(he:aF e=true:=by rfl)(hpl:es.all aF=true:=by rfl):JE X cA aq aj F EX (.Call (.Name "abs" p) (e::es) [] pos) (.pr fz .abs Xs):=⟨yF zh3 zk9 hg.o hm PyProof.Rows.boot_abs ha.o Tv Tv (bC he) (bH hpl)⟩
theorem zlK(hc:X.aj=true)(hm:X.mg "max"=none)(hg:JK X "max" .globalImplicit)(ha:JA X cA aq aj F EX (e::es) Xs)(he:aF e=true:=by rfl)(hpl:es.all aF=true:=by rfl):JE X cA aq aj F EX (.Call (.Name "max" p) (e::es) [] pos) (.pr fz .max2 Xs):=⟨yF (zg5 hc) zjr hg.o hm PyProof.Rows.boot_max ha.o Tv Tv (bC he) (bH hpl)⟩
theorem U9(hc:X.aj=true)(hm:X.mg "min"=none)(hg:JK X "min" .globalImplicit)(ha:JA X cA aq aj F EX (e::es) Xs)(he:aF e=true:=by rfl)(hpl:es.all aF=true:=by rfl):JE X cA aq aj F EX (.Call (.Name "min" p) (e::es) [] pos) (.pr fz .min2 Xs):=⟨yF (zfJ hc) zkM hg.o hm PyProof.Rows.boot_min ha.o Tv Tv (bC he) (bH hpl)⟩
theorem zmm(hm:X.mg "int"=none)(hg:JK X "int" .globalImplicit)(ha:JA X cA aq aj F EX (e::es) Xs)(he:aF e=true:=by rfl)(hpl:es.all aF=true:=by rfl):JE X cA aq aj F EX (.Call (.Name "int" p) (e::es) [] pos) (.pr fz .yu Xs):=⟨Ud zg1 zj9 hg.o hm PyProof.Rows.boot_int ha.o Tv Tv (bC he) (bH hpl)⟩
theorem zhK(hm:X.mg "divmod"=none)(hg:JK X "divmod" .globalImplicit)(ha:JA X cA aq aj F EX (e::es) Xs)(he:aF e=true:=by rfl)(hpl:es.all aF=true:=by rfl):JE X cA aq aj F EX (.Call (.Name "divmod" p) (e::es) [] pos) (.pr fz .divmod Xs):=⟨yF zeb zgF hg.o hm PyProof.Rows.boot_divmod ha.o Tv Tv (bC he) (bH hpl)⟩
theorem G5(hc:X.aj=true)(hm:X.mg "all"=none)(hg:JK X "all" .globalImplicit)(ha:JA X cA aq aj F EX (e::es) Xs)(he:aF e=true:=by rfl)(hpl:es.all aF=true:=by rfl):JE X cA aq aj F EX (.Call (.Name "all" p) (e::es) [] pos) (.pr fz .all Xs):=⟨yF (zgW hc) zlQ hg.o hm PyProof.Rows.boot_all ha.o Tv Tv (bC he) (bH hpl)⟩
theorem zlV(hm:X.mg "list"=none)(hg:JK X "list" .globalImplicit)(ha:JA X cA aq aj F EX (e::es) Xs)(he:aF e=true:=by rfl)(hpl:es.all aF=true:=by rfl):JE X cA aq aj F EX (.Call (.Name "list" p) (e::es) [] pos) (.pr fz .list Xs):=⟨Ud zdv zkv hg.o hm zka ha.o Tv Tv (bC he) (bH hpl)⟩
theorem wL(hm:X.mg "tuple"=none)(hg:JK X "tuple" .globalImplicit)(ha:JA X cA aq aj F EX (e::es) Xs)(he:aF e=true:=by rfl)(hpl:es.all aF=true:=by rfl):JE X cA aq aj F EX (.Call (.Name "tuple" p) (e::es) [] pos) (.pr fz .tuple Xs):=⟨Ud zcQ zho hg.o hm O9 ha.o Tv Tv (bC he) (bH hpl)⟩
theorem U_(ho:JE X cA aq aj F EX a A)(hb:JE X cA aq aj F EX b B)(oR:attributeBase a "append" X.env (eval a X.env)=eval a X.env:=by rfl)(oU:(apos.endLine==pos.line)=true:=by rfl)(hs:aF b=true:=by rfl) :
  JE X cA aq aj F EX (.Call (.Attribute a "append" apos) [b] [] pos) (.push A B):=⟨zji ho.o hb.o oR (yM hs rfl rfl) oU (bC hs) rfl⟩
def n_:JC X cA aq aj F EX [] .no:=⟨zk5⟩
def DQ(h:JT X cA aq aj F EX c C):JC X cA aq aj F EX [c] (.yes C):=⟨zkn h.o⟩
def pX(ha:JE X cA aq aj F EX a A):JI X cA aq aj F EX tg a (.seq A):=⟨zmo ha.o⟩
theorem KY(hmg:X.mg "range"=none)(qO:JK X "range" .globalImplicit)(ha:JE X cA aq aj F EX a A)(hb:JE X cA aq aj F EX b B)(h1:aF a=true:=by rfl)(h2:aF b=true:=by rfl):JI X cA aq aj F EX tg (.Call (.Name "range" p) [a,b] [] pos) (.rg A B):=⟨zoA qO.o hmg ha.o hb.o (bC h1) (bC h2)⟩
theorem wM(hmg:X.mg "range"=none)(qO:JK X "range" .globalImplicit)(hb:JE X cA aq aj F EX b B)(h2:aF b=true:=by rfl):JI X cA aq aj F EX tg (.Call (.Name "range" p) [b] [] pos) (.rg (.c (.int 0)) B):=⟨zmJ qO.o hmg hb.o (bC h2)⟩
noncomputable def KZ(scope:Scope)(x:Str):Bool:=match scope.names.lookup x with
 |some .local=>true
 |some .cell=>true
 |_=>false
theorem G6(h:KZ scope x=true):Loc (X.blk scope cl N Cc s3 H3 fp ao).env.scope x/\((X.blk scope cl N Cc s3 H3 fp ao).fn x=true\/(X.blk scope cl N Cc s3 H3 fp ao).env.scope.names.lookup x=some .local):=by
 unfold KZ at h;split at h
 ·rename_i z;exact⟨.inl (lookup_relabel_local z),.inr (lookup_relabel_local z)⟩
 ·rename_i z;exact⟨.inr (O8 (by intro y;cases y) z),.inl (by show (scope.names.lookup x==some NameKind.cell)=true;rw[z];rfl)⟩
 ·cases h
def lH(i:Nat)(Va:N.Nodup)(hi:N[i]?=some x)(hl:KZ scope x=true):JY (X.blk scope cl N Cc s3 H3 fp ao) (.Name x tp) (dM i):=
 ⟨N8 Va hi (G6 hl).1 (G6 hl).2⟩
theorem K1(i j:Nat)(hc:X.aj=true)(Va:N.Nodup)(hi:N[i]?=some x)(hj:N[j]?=some y)(hl:KZ scope x=true)(Ad:KZ scope y=true):JY (X.blk scope cl N Cc s3 H3 fp ao) (.Tuple [.Name x px,.Name y py] kt tp) (uM X.K 2 (iR (dM i) (iR (dM j) uL))):=
 ⟨Ux (X:=X.blk scope cl N Cc s3 H3 fp ao) hc Va hi hj (G6 hl).1 (G6 Ad).1 (G6 hl).2 (G6 Ad).2⟩
theorem wN{scope:Scope}{XN:List Str}{M0 N:List Str}{fr:List Nat}(h:frB scope XN N fr=true):(M0++N).length=M0.length+fr.length/\∀(i:Nat) (y:Str) (j:Nat),(M0++N)[M0.length+i]?=some y->fr[i]?=some j->scope.names.lookup y=some .free/\XN[j]?=some y:=by
 obtain⟨l,q⟩:=ziF h;refine⟨by rw[pL,l],λi y j e1 e2=>q i y j ?_ e2⟩;rw[pZ gV] at e1;rw[show M0.length+i-M0.length=i by lia] at e1;exact e1
theorem mV{elt iter tg:Expr}{ifs:List Expr}{scope:Scope}{cond:Eo}{aM:List Nat}{g:TG}{w:Wk}(sc:Scope)(XN M0 N:List Str)(fr:List Nat)(hc:X.aj=true)(DR:X.env.scope=sc)(pA:X.N=XN)(hB:qP sc scope=true)(hf:frB scope XN N fr=true)(hT:dR X.K cA g aM)(hin:aM.all (λi=>decide (i<M0.length))=true)
  (hi:JI X cA aq aj F EX tg iter w) (hg:∀cl C s3 H3 fp ao,JY (X.blk scope cl (M0++N) C s3 H3 fp ao) tg g)
  (ht:∀cl C s3 H3 fp ao,JC (X.blk scope cl (M0++N) C s3 H3 fp ao) cA aq aj F (λ_ _ _ _=>False) ifs cond) (he:∀cl C s3 H3 fp ao,JE (X.blk scope cl (M0++N) C s3 H3 fp ao) cA aq aj F (λ_ _ _ _=>False) elt B)
  (hs:∀x,foldedSetIterable iter X.env x=pure x:=by intro _;rfl):JE X cA aq aj F EX (.ListComp elt [⟨tg,iter,ifs,0⟩] scope pos) (.comp fz B aM w fr M0.length cond):=
 ⟨zgP hc (cC.of (DR▸hB)) hi.o (wN (pA▸hf)).1 (wN (pA▸hf)).2 (λa b c d e f=>(hg a b c d e f).o) hT (λi hi=>iZ (iK.mp hin i hi)) (λa b c d e f=>(ht a b c d e f).o) (λa b c d e f=>(he a b c d e f).o) hs⟩
def Kaa{scope fu:Scope}{env:Env}(h:cC scope fu):cC (relabel scope env) fu:=⟨h.kind,h.ZC,λy hy z=>by
 rcases h.free y hy z with q|q
 ·exact .inl (O8 (by intro y;cases y) q)
 ·exact Oj q,h.loc⟩
theorem zgt{elt iter tg:Expr}{ifs:List Expr}{scope fu:Scope}{cond:Eo}{aM:List Nat}{g:TG}{w:Wk}{cl:List (Str×Addr)}{Aj:List Str}{Cc:Addr}{s3:Shared}{H3:Hp}{fp:List Addr}{ao:List (Addr×Obj)}(XN M0 N:List Str)(fr:List Nat)(hc:X.aj=true)(pA:Aj=XN)(hB:qP scope fu=true)(hf:frB fu XN N fr=true)(hT:dR X.K cA g aM)(hin:aM.all (λi=>decide (i<M0.length))=true)
  (hi:JI (X.blk scope cl Aj Cc s3 H3 fp ao) cA aq aj F EX tg iter w) (hg:∀cl2 C s3' K3 fp' jy,JY ((X.blk scope cl Aj Cc s3 H3 fp ao).blk fu cl2 (M0++N) C s3' K3 fp' jy) tg g)
  (ht:∀cl2 C s3' K3 fp' jy,JC ((X.blk scope cl Aj Cc s3 H3 fp ao).blk fu cl2 (M0++N) C s3' K3 fp' jy) cA aq aj F (λ_ _ _ _=>False) ifs cond) (he:∀cl2 C s3' K3 fp' jy,JE ((X.blk scope cl Aj Cc s3 H3 fp ao).blk fu cl2 (M0++N) C s3' K3 fp' jy) cA aq aj F (λ_ _ _ _=>False) elt B)
  (hs:∀x,foldedSetIterable iter (X.blk scope cl Aj Cc s3 H3 fp ao).env x=pure x:=by intro _;rfl):JE (X.blk scope cl Aj Cc s3 H3 fp ao) cA aq aj F EX (.ListComp elt [⟨tg,iter,ifs,0⟩] fu pos) (.comp fz B aM w fr M0.length cond):=by
 subst pA;exact⟨zgP (X:=X.blk scope cl Aj Cc s3 H3 fp ao) hc (Kaa (cC.of hB)) hi.o (wN hf).1 (wN hf).2 (λa b c d e f=>(hg a b c d e f).o) hT (λi hi=>iZ (iK.mp hin i hi)) (λa b c d e f=>(ht a b c d e f).o) (λa b c d e f=>(he a b c d e f).o) hs⟩
def Ak:JR X (λ_ _ _ _=>False):=⟨zgM⟩
theorem bA{P:Program}{w:World}{K:W.Frag}{mg:Str->Option Value}{base:Heap}{N:List Str}{qual:Str}{scope:Scope}{f:Addr}{cd:Value}{A:Around}{outer:List Env}{s:Shared}{H:Hp}{E:XK}{cm:Bool} :
  JR (dI (fK P w) P w K mg base N qual scope f cd A outer s H E cm) (λ_ C dx H'=>E C dx H'):=⟨zfi⟩
theorem wO{CX:sZ}{P:Program}{w:World}{K:W.Frag}{mg:Str->Option Value}{base:Heap}{N:List Str}{qual:Str}{scope:Scope}{f:Addr}{cd:Value}{A:Around}{outer:List Env}{s:Shared}{H:Hp}{E:XK}{cm:Bool} :
  JH (dI CX P w K mg base N qual scope f cd A outer s H E cm):=⟨PassesOwn.leaving⟩
end
section
variable {X:Cx}{cA:Cl}{aq:Nat->Nat->Bool}{aj:Bool}{F:Bool->Fn}{EX:XS}{a b c d e:Expr}{A B C:E}{pos p p2:Pos}{st:Stmt}{sts body orelse:List Stmt}{m:St}{ms mb me mh:bT}{es:List Expr}{Xs:Es}{x y n:Str}{k k':NameKind}
def wQ(h:JK X x k)(hv:lX k=true):Loc X.env.scope x:=by cases k<;>first|exact .inl h.o|exact .inr h.o|cases hv
def wR(h:JK X x k)(hv:X.fn x=true\/k=.local):X.fn x=true\/X.env.scope.names.lookup x=some .local:=by
 rcases hv with hv|hv
 ·exact .inl hv
 ·subst hv;exact .inr h.o
def aO:JB X cA aq aj F EX [] .nil:=⟨zkh⟩
def aG(h1:JS X cA aq aj F EX st m)(h2:JB X cA aq aj F EX sts ms):JB X cA aq aj F EX (st::sts) (.cons m ms):=⟨zh9 h1.o h2.o⟩
def DW:JS X cA aq aj F EX st .no:=⟨znP⟩
def lJ(ha:JE X cA aq aj (F aj) EX a A)(hs:swapsWith a none pos.line X.env=pure false:=by rfl):JS X cA aq aj F EX (.Expr a pos) (.ex A):=⟨znv ha.o hs⟩
def bU(ha:JE X cA aq aj (F aj) EX a A):JS X cA aq aj F EX (.Return (some a) pos) (.ret A):=⟨zlP ha.o⟩
theorem gH(i:Nat)(hN:X.N.Nodup)(hi:X.N[i]?=some x)(hx:JK X x k)(hl:lX k=true)(ha:JE X cA aq aj (F aj) EX a A)(hs:swapsWith a (some (.Name x p)) pos.line X.env=pure false:=by rfl)(hf:X.fn x=true\/k=.local:=by first|exact .inl rfl|exact .inr rfl):JS X cA aq aj F EX (.Assign [.Name x p] a pos) (.asg (.nm i) A):=
 ⟨zlc hN hi (wQ hx hl) ha.o hs (wR hx hf)⟩
theorem zlz{elt iter tg:Expr}{ifs:List Expr}{scope:Scope}{cond:Eo}{aM:List Nat}{g:TG}{w:Wk}{fz:Bool}{py spos:Pos}(i:Nat)(sc:Scope)(XN M0 N:List Str)(fr:List Nat)(hN:X.N.Nodup)(tK:X.N[i]?=some y)(hx:JK X y k)(hl:lX k=true)(hc:X.aj=true)(DR:X.env.scope=sc)(pA:X.N=XN)(hB:qP sc scope=true)(hf:frB scope XN N fr=true)(hT:dR X.K cA g aM)(hin:aM.all (λi=>decide (i<M0.length))=true)
  (hi:JI X cA aq aj (F aj) EX tg iter w) (hg:∀cl C s3 H3 fp ao,JY (X.blk scope cl (M0++N) C s3 H3 fp ao) tg g)
  (ht:∀cl C s3 H3 fp ao,JC (X.blk scope cl (M0++N) C s3 H3 fp ao) cA aq aj (F aj) (λ_ _ _ _=>False) ifs cond) (he:∀cl C s3 H3 fp ao,JE (X.blk scope cl (M0++N) C s3 H3 fp ao) cA aq aj (F aj) (λ_ _ _ _=>False) elt B)
  (u6:swapsWith (.ListComp elt [⟨tg,iter,ifs,0⟩] scope pos) (some (.Name y py)) spos.line X.env=pure true:=by rfl) (Vb:X.fn y=true\/k=.local:=by first|exact .inl rfl|exact .inr rfl) (hs:∀x,foldedSetIterable iter X.env x=pure x:=by intro _;rfl) :
  JS X cA aq aj F EX (.Assign [.Name y py] (.ListComp elt [⟨tg,iter,ifs,0⟩] scope pos) spos) (.asg (.nm i) (.comp fz B aM w fr M0.length cond)):=
 ⟨zjR hc hN tK (wQ hx hl) (wR hx Vb) (cC.of (DR▸hB)) hi.o (wN (pA▸hf)).1 (wN (pA▸hf)).2 (λa b c d e f=>(hg a b c d e f).o) hT (λi hi=>iZ (iK.mp hin i hi)) (λa b c d e f=>(ht a b c d e f).o) (λa b c d e f=>(he a b c d e f).o) u6 hs⟩
theorem G7(i j:Nat){k0}(hc:X.aj=true)(dB:aj=true)(hN:X.N.Nodup)(hi:X.N[i]?=some x)(hj:X.N[j]?=some y)(hx:JK X x k)(hy:JK X y k')(Vc:lX k=true)(Vd:lX k'=true)(ha:JE X cA aq aj (F aj) EX a A)
  (yJ:X.fn x=true\/k=.local:=by first|exact .inl rfl|exact .inr rfl) (yK:X.fn y=true\/k'=.local:=by first|exact .inl rfl|exact .inr rfl)
  (hs:swapsWithSole [.Tuple [.Name x px,.Name y py] k0 pt] a pos.line X.env=pure false:=by rfl) (hw:swappedStores [.Tuple [.Name x px,.Name y py] k0 pt] a X.env=pure none:=by rfl) (h1:(assignEach [.Tuple [.Name x px,.Name y py] k0 pt] X.env).map (·.2)=[assign (.Tuple [.Name x px,.Name y py] k0 pt) X.env]:=by rfl) :
  JS X cA aq aj F EX (.Assign [.Tuple [.Name x px,.Name y py] k0 pt] a pos) (.asg (.tp [i,j]) A):=⟨zjL hc dB hN hi hj (wQ hx Vc) (wQ hy Vd) (wR hx yJ) (wR hy yK) ha.o hs hw h1⟩
theorem Pj(hO:JE X cA aq aj (F aj) EX oo O)(hI:JE X cA aq aj (F aj) EX ii I')(ha:JE X cA aq aj (F aj) EX a A)
  (Uy:∀v,assign (.Subscript oo ii p) X.env v=(do
   let obj <-holding [v] (eval oo X.env)
   let at_ <-holding [v,obj] (eval ii X.env)
   standAt p
   holding [v,obj,at_] (setItem obj at_ v)
   release [v,obj,at_] []):=by intro _;rfl) (hs:swapsWithSole [.Subscript oo ii p] a pos.line X.env=pure false:=by rfl) (hw:swappedStores [.Subscript oo ii p] a X.env=pure none:=by rfl)
  (h1:(assignEach [.Subscript oo ii p] X.env).map (·.2)=[assign (.Subscript oo ii p) X.env]:=by rfl):JS X cA aq aj F EX (.Assign [.Subscript oo ii p] a pos) (.asg (.aq O I') A):=⟨zlr hO.o hI.o ha.o Uy hs hw h1⟩
theorem Pk(i j:Nat){kt k2 uN}(hc:X.aj=true)(dB:aj=true)(hN:X.N.Nodup)(hi:X.N[i]?=some x)(hj:X.N[j]?=some y)(xT:i≠j)(hx:JK X x .local)(hy:JK X y .local)
  (ha:JE X cA aq aj (F aj) EX a A) (hb:JE X cA aq aj (F aj) EX b B) (hw:swappedStores [.Tuple [.Name x px,.Name y py] kt pt] (.Tuple [a,b] k2 uN) X.env=pure (some [x,y])) (h1:aF a=true:=by rfl) (h2:aF b=true:=by rfl)
  (hs:swapsWithSole [.Tuple [.Name x px,.Name y py] kt pt] (.Tuple [a,b] k2 uN) pos.line X.env=pure false:=by rfl):JS X cA aq aj F EX (.Assign [.Tuple [.Name x px,.Name y py] kt pt] (.Tuple [a,b] k2 uN) pos) (.par i j A B):=
 ⟨zmk hc dB hN hi hj xT hx.o hy.o ha.o hb.o (bC h1) (bC h2) hw hs⟩
theorem zok(i:Nat)(hN:X.N.Nodup)(hi:X.N[i]?=some x)(hx:JK X x k)(hl:lX k=true)(ha:JE X cA aq aj (F aj) EX a A)(hf:X.fn x=true\/k=.local:=by first|exact .inl rfl|exact .inr rfl)(hd:okN x=true:=by decide +kernel):JS X cA aq aj F EX (.AugAssign (.Name x p) .Add a pos) (.aug i A):=
 ⟨zlx (pos':=pos) hN hi (wQ hx hl) ha.o (wR hx hf) (zlb hN hi (wQ hx hl) ha.o znl (wR hx hf))⟩
def gU(hc:JT X cA aq aj (F aj) EX c C)(ht:JB X cA aq aj F EX body mb)(he:JB X cA aq aj F EX orelse me):JS X cA aq aj F EX (.If c body orelse pos) (.iff C mb me):=⟨znW hc.o ht.o he.o⟩
def zge(hp:JH X)(hc:JT X cA aq aj (F aj) EX c C)(hb:JB X cA aq aj F EX body mb):JS X cA aq aj F EX (.While c body [] pos) (.wh C mb):=⟨zhG hp.o hc.o hb.o⟩
def K4(i:Nat)(hN:X.N.Nodup)(hi:X.N[i]?=some x)(hx:JK X x k)(hl:lX k=true)(hf:X.fn x=true\/k=.local:=by first|exact .inl rfl|exact .inr rfl):JG X cA aq aj F EX (.Name x pos) (.nm i):=⟨zj4 hN hi (wQ hx hl) (wR hx hf)⟩
theorem Ve(i j:Nat){k0}(hc:X.aj=true)(dB:aj=true)(hN:X.N.Nodup)(hi:X.N[i]?=some x)(hj:X.N[j]?=some y)(hx:JK X x k)(hy:JK X y k')(Vc:lX k=true)(Vd:lX k'=true)(yJ:X.fn x=true\/k=.local:=by first|exact .inl rfl|exact .inr rfl)(yK:X.fn y=true\/k'=.local:=by first|exact .inl rfl|exact .inr rfl) :
  JG X cA aq aj F EX (.Tuple [.Name x px,.Name y py] k0 pos) (.tp [i,j]):=⟨zjF hc dB hN hi hj (wQ hx Vc) (wQ hy Vd) (wR hx yJ) (wR hy yK)⟩
theorem Al(hp:JH X)(hc:X.aj=true)(dB:aj=true)(ha:JI X cA aq aj (F aj) EX tg a w)(hg:JG X cA aq aj F EX tg t)(hb:JB X cA aq aj F EX body mb)(hs:∀x,foldedSetIterable a X.env x=pure x:=by intro _;rfl):JS X cA aq aj F EX (.For tg a body [] pos) (.fr t w mb):=
 ⟨znj hp.o hc dB ha.o hg.o hb.o hs⟩
end
theorem ziS{P:Program}{w:World}{K:W.Frag}{mg:Str->Option Value}{base:Heap}{cA:Cl}{aq:Nat->Nat->Bool}{T:Nat->Option Df}{x qual:Str}{st:Stmt}{f:Addr}{fd:FuncData}{N ps:List Str}{k n:Nat}{cm:Bool}{df:Df}(F:n8 K x qual st f fd)(S:bZ N ps (au st))(hT:T n=some df)(hp:df.iz=ps.length)(hm:df.many=N.length)
  (hb:∀(cdv:Value) (A:Around) (outer:List Env) (s:Shared) (H:Hp) (E:XK),bG k (A.deeper (envOfC qual (au st) s.heap.objs.size f cdv))->
   JB (dI (fK P w) P w K mg base N qual (au st) f cdv A outer s H E cm) cA aq cm (λc=>call aq T k c) (λ_ C dx H'=>E C dx H') (aL st) df.body) :
  cG P w K mg base (fK P w) cm (k+1) f fd ps (lW K cA (call aq T (k+1) cm n)):=zle F S hT hp hm λcdv A outer s H E hr=>(hb cdv A outer s H E hr).o
section
variable {K:W.Frag}{cA:Cl}{U:Ph}{H:Hp}{kvs:jd}{xs:nF}{k:List Kx}
def jB.len(r:jB K cA U H kvs xs):kvs.length=xs.length:=by
 induction r with
 |nil=>rfl
 |cons _ _ _ _ ih=>rw[iu,iu,ih]
def zjO{j:List Kx}{a:Addr}{u:Value}{r:nF}:atKey ((j,a,u)::r) k=if j=k then some (a,u) else atKey r k:=by
 unfold atKey;rw[List.find?_cons];by_cases e:j=k
 ·simp[e]
 ·simp[e]
theorem jB.at(r:jB K cA U H kvs xs):(cF k kvs=none/\atKey xs k=none)\/∃d p v,cF k kvs=some d/\atKey xs k=some p/\RelV v p.2/\Rep K cA U H d v:=by
 induction r with
 |nil=>exact .inl ⟨rfl,rfl⟩
 |@cons j d ka u v r xs hk hu hv q ih=>
  rw[zjO];unfold cF;by_cases e:j=k
  ·rw[if_pos e,if_pos e];exact .inr ⟨d,(ka,u),v,rfl,rfl,hu,hv⟩
  ·rw[if_neg e,if_neg e];exact ih
def jB.isSome(r:jB K cA U H kvs xs):(atKey xs k).isSome=(cF k kvs).isSome:=by
 rcases r.at (k:=k) with ⟨a,b⟩|⟨d,p,v,a,b,_⟩<;>rw[a,b]<;>rfl
def jB.app{kvs':jd}{xs':nF}(r:jB K cA U H kvs xs)(r':jB K cA U H kvs' xs'):jB K cA U H (kvs++kvs') (xs++xs'):=by
 induction r with
 |nil=>exact r'
 |cons a b c _ ih=>exact .cons a b c ih
theorem jB.put{ka:Addr}{u:Value}{v:V}{d:D}(r:jB K cA U H kvs xs)(hk:Rep K cA U H (jr k) (.ref ka))(hu:RelV v u)(hv:Rep K cA U H d v):jB K cA U H (jL k d kvs) (storedH xs k ka u):=by
 unfold jL storedH;rw[r.isSome];by_cases e:(cF k kvs).isSome=true
 ·rw[if_pos e,if_pos e];clear e
  induction r with
  |nil=>exact .nil
  |@cons j d' ka' u' v' r xs G8 hu' RX q ih=>
   rw[jx,jx];show jB K cA U H ((if j=k then (j,d) else (j,d'))::_) ((if j=k then (j,ka',u) else (j,ka',u'))::_);by_cases e:j=k
   ·rw[if_pos e,if_pos e];exact .cons G8 hu hv ih
   ·rw[if_neg e,if_neg e];exact .cons G8 hu' RX ih
 ·rw[if_neg e,if_neg e];exact r.app (.cons hk hu hv .nil)
end
section
variable {X:Cx}{cA:Cl}{ao:List (Addr×Obj)}{Z:L2.St}{H:Hp}{s:Shared}{U:Ph}{a:Addr}{kvs:jd}{xs:nF}{k:List Kx}{y v:V}{u:Value}{A:Around}{E:Value->Shared->Prop}
theorem Vf(I:Inv X ao Z H s)(e:H a=some (vf a xs))(r:jB X.K cA U H kvs xs):(a==sysModules)=false/\xs.length<=sizeLine/\s.heap.DictOfH (jX X.prog X.w) a xs:=by
 have z:=(I.hok a _ e).1;obtain⟨h1,h2,o,es,ep,h3,h4,h5,h6,h7⟩:=z;refine⟨h1,h2,o,es,ep,h3,h4,h5,h6,?_,h7⟩;clear h2 h6 h7 e
 induction r with
 |nil=>exact λx hx=>nomatch hx
 |cons hk hu hv q ih=>exact List.forall_mem_cons.mpr ⟨tX I hk rfl,ih⟩
def Vg{d:D}(hk:Rep X.K cA U H (jr k) y):∃b,y=.ref b:=by cases hk;exact⟨_,rfl⟩
def tGx(K:W.Frag)(cA:Cl)(td ty:TE):TE:=λZ H Q=>td Z H λx H1=>ty Z H1 λy H2=>∃a U kvs xs k d,x=.ref a/\H2 a=some (vf a xs)/\jB K cA U H2 kvs xs/\Rep K cA U H2 (jr k) y/\cF k kvs=some d/\∀v,Rep K cA U H2 d v->Q v H2
def tIx(K:W.Frag)(cA:Cl)(f:Bool->Bool)(ty td:TE):TE:=λZ H Q=>ty Z H λy H1=>td Z H1 λx H2=>∃a U kvs xs k,x=.ref a/\H2 a=some (vf a xs)/\jB K cA U H2 kvs xs/\Rep K cA U H2 (jr k) y/\Q (.bl (f (cF k kvs).isSome)) H2
def sPx(K:W.Frag)(cA:Cl)(td ty tv:TE):TS:=λD Z H=>tv Z H λv H1=>td Z H1 λx H2=>ty Z H2 λy H3=>∃a b U kvs xs k d,x=.ref a/\H3 a=some (vf a xs)/\jB K cA U H3 kvs xs/\y=.ref b/\Rep K cA U H3 (jr k) y/\Rep K cA U H3 d v/\kvs.length<sizeLine /\
 ∀u,RelV v u->D.nx Z (upd H3 a (vf a (storedH xs k b u)))
variable {o i value:Expr}{pos pos':Pos}{td ty tv:TE}
theorem zoe(hu:X.A.units+5<cLine)(ho:PE X o td)(hi:PE X i ty)(hs:Ds i):PE X (.Subscript o i pos) (tGx X.K cA td ty):=by
 intro ao s Z H Q I h;refine zkN PySem.F.slot_dict_getitem.lookup hs (aX (ho ao s Z H _ I h) λu s1 hx=>fH hx λx H1 I1 rx q1=>aX (hi ao s1 Z H1 _ I1 q1) λiv s2 ⟨y,H2,I2,ry,a,U,kvs,xs,k,d,ex,ea,rr,rk,g,q2⟩=>?_);subst ex;obtain rfl:u=Value.ref a:=rx;obtain⟨b,rfl⟩:=Vg (d:=d) rk;obtain rfl:iv=Value.ref b:=ry;obtain⟨z1,z2,dd⟩:=Vf I2 ea rr;rcases rr.at (k:=k) with ⟨z,_⟩|⟨d',p,v,z,hp,rv,rd⟩
 ·rw[g] at z;cases z
 ·rw[g] at z;cases z;exact⟨dd.typeIs,wpAny_getItem_heap (knd:=jX X.prog X.w) (show X.A.units+1+4<cLine by lia) (tX I2 rk rfl) dd hp ⟨v,H2,I2.tok _,rv,q2 v rd⟩⟩
theorem zk2(hu:X.A.units+5<cLine)(hi:PE X i ty)(ho:PE X o td):PC X .NotIn i o (tIx X.K cA not ty td):=by
 intro ao s Z H Q I h;refine aX (hi ao s Z H _ I h) λiv s1 hx=>fH hx λy H1 I1 ry q1=>aX (ho ao s1 Z H1 _ I1 q1) λu s2 ⟨x,H2,I2,rx,a,U,kvs,xs,k,ex,ea,rr,rk,q2⟩=>?_;subst ex;obtain rfl:u=Value.ref a:=rx;obtain⟨b,rfl⟩:=Vg (d:=.non) rk;obtain rfl:iv=Value.ref b:=ry;obtain⟨z1,z2,dd⟩:=Vf I2 ea rr;exact wpAny_notIn_heap (knd:=jX X.prog X.w) (show X.A.units+1+4<cLine by lia) (tX I2 rk rfl) z1 dd ⟨_,H2,I2.tok _,by rw[rr.isSome];rfl,q2⟩
def zfj{xs:nF}{b:Addr}{u:Value}:(storedH xs k b u).length<=xs.length+1:=by
 unfold storedH
 split
 ·rw[cZ];lia
 ·simp
theorem zn4(hu:X.A.units+5<cLine)(ho:PE X o td)(hi:PE X i ty)(hv:PE X value tv)(hs:swapsWith value (some (.Subscript o i pos')) pos.line X.env=pure false):PS X (.Assign [.Subscript o i pos'] value pos) (sPx X.K cA td ty tv):=by
 intro ao s Z H D I h;refine wpAny_Assign_Subscript (aX (hv ao s Z H _ I h) λr s1 hx=>fH hx λv H1 I1 rv q1=>aX (ho ao s1 Z H1 _ I1 q1) λu s2 hx=>fH hx λx H2 I2 rx q2=>aX (hi ao s2 Z H2 _ I2 q2) λiv s3 ⟨y,H3,I3,ry,a,b,U,kvs,xs,k,d,ex,ea,rr,ey,rk,rd,hl,q3⟩=>?_) hs;subst ex ey;obtain rfl:u=Value.ref a:=rx;obtain rfl:iv=Value.ref b:=ry;obtain⟨z1,z2,dd⟩:=Vf I3 ea rr;have Ad:xs.length+1<=sizeLine:=by rw[<-rr.len];exact hl
 refine wpAny_setItem_heap (knd:=jX X.prog X.w) (hsz:=z2) (show X.A.units+1+4<cLine by lia) (tX I3 rk rfl) dd λh' dd' hs'=>⟨Z,_,?_,q3 r rv⟩;obtain⟨q,es,ep,hq,h2,h3,h4,_,h5⟩:=dd';exact zki I3 (by rw[ea];exact True.intro) hs' ⟨q,hq⟩ ⟨⟨z1,jZ zfj Ad,q,es,ep,hq,h2,h3,h4,h5⟩,⟨q,hq⟩,λh1 h2 ⟨a1,a2,o,es,ep,a3,a4⟩ kp=>⟨a1,a2,o,es,ep,kp o a3,a4⟩⟩
theorem znH:PE X (.Dict [] [] pos) (λ_ H Q=>∀p,H p=none->Q (.ref p) (upd H p (vf p []))):=λao s Z H Q I h=>
 wpAny_Dict_empty ⟨.ref s.heap.objs.size,_,I.laid (a:=s.heap.objs.size) (o:=vf s.heap.objs.size []) (t':=s.toks) (λ_ _ q=>cD _ q) (cj _)
  ⟨⟨Fp.mpr (Ne.symm (cV I.big)),sV _,_,#[],0,dX _ rfl,⟨rfl,rfl,rfl⟩,rfl,rfl,Bs⟩,⟨_,dX _ rfl⟩,λh1 h2 ⟨a1,a2,o,es,ep,a3,a4⟩ kp=>⟨a1,a2,o,es,ep,kp o a3,a4⟩⟩,rfl,h _ (I.hok.fresh (cj _))⟩
end
section
variable {X:Cx}{cA:Cl}{aq:Nat->Nat->Bool}{aj:Bool}{F:Fn}{EX:XS}{a b:Expr}{A B:E}{pos p:Pos}{K:W.Frag}{U:Ph}{H:Hp}{s:S}
theorem Vh{β:Type}{x:Xv}{v:V}{k:List Kx->M β}{P:β->S->Ph->Hp->Prop}{Ee:Nat->List D->S->Ph->Hp->Prop}(r:aW K cA U H x v)(h:Run K cA (M.bd (key x) k) U H s P Ee):∃kx,Rep K cA U H (jr kx) v/\Run K cA (k kx) U H s P Ee:=by
 cases r with
 |l _=>exact h.elim
 |@d y _ r=>
  obtain⟨kx,e,h2⟩:=Run.nH (o:=kOf y) h;rw[zlD e] at r;exact⟨kx,r,h2⟩
theorem Vi{β:Type}{x:Xv}{v:V}{k:Nat×jd->M β}{P:β->S->Ph->Hp->Prop}{Ee:Nat->List D->S->Ph->Hp->Prop}(hS:aD K cA U H s)(r:aW K cA U H x v)(h:Run K cA (M.bd (gC x) k) U H s P Ee) :
  ∃n ad kvs xs,x=.l n/\v=.ref ad/\s[n]?=some (.dct kvs)/\U.l[n]?=some ad/\H ad=some (vf ad xs)/\jB K cA U H kvs xs/\Run K cA (k (n,kvs)) U H s P Ee:=by
 cases r with
 |d _=>exact h.elim
 |@l n ad hl=>
  unfold Run M.bd gC at h;dsimp only at h;cases e:s[n]? with
  |none=>rw[e] at h;exact h.elim
  |some o=>
   rw[e] at h;cases o with
   |dct kvs=>
    obtain⟨xs,q1,q2⟩:=hS.obj n _ _ e hl;exact⟨n,ad,kvs,xs,rfl,rfl,e,hl,q1,q2,h⟩
   |_=>exact h.elim
theorem zk3{k:Nat}(hr:bG k X.A)(ha:JE X cA aq aj F EX a A)(hb:JE X cA aq aj F EX b B)(hs:Ds b:=by exact λ_ _=>rfl):JE X cA aq aj F EX (.Subscript a b pos) (.qG A B):=⟨PE.weak (zoe (cA:=cA) (by have:=hr.un;lia) ha.o hb.o hs) λZ H Q hh=>un hh λU J s hL hS h=>by
 refine bw hL hS h λx H1 U1 d1 s1 x1 hL1 aJ r1 h1=>bw hL1 aJ h1 λy H2 U2 d2 s2 x2 hL2 aU r2 h2=>?_;obtain⟨kx,rk,h3⟩:=Vh r2 h2;obtain⟨n,ad,kvs,xs,_,rfl,e1,e2,e3,rr,h4⟩:=Vi aU (r1.mono x2 aJ.lz) h3;have h4:Run X.K cA (M.opt ((cF kx kvs).map Xv.d)) U2 H2 s2 (λd _ U' H'=>∀v,aW X.K cA U' H' d v->Q v H') (eX X.K cA EX Z):=h4;cases e:cF kx kvs with
 |none=>rw[e] at h4;exact h4.elim
 |some d=>
  rw[e] at h4;exact⟨ad,U2,kvs,xs,kx,d,rfl,e3,rr,rk,e,λv rv=>h4.bN aU v (.d rv)⟩⟩
theorem zjD{b':Bool}{Z:L2.St}{Q:VK}(f:Bool->Bool)(hf:∀c,f c=(c==b'))(hh:tE X.K cA EX (ev aq aj F (.CW b' A B)) Z H Q):tIx X.K cA f (tE X.K cA EX (ev aq aj F A)) (tE X.K cA EX (ev aq aj F B)) Z H Q:=un hh λU J s hL hS h=>by
 refine bw hL hS h λx H1 U1 d1 s1 x1 hL1 aJ r1 h1=>bw hL1 aJ h1 λy H2 U2 d2 s2 x2 hL2 aU r2 h2=>?_;obtain⟨kx,rk,h3⟩:=Vh (r1.mono x2 aJ.lz) h2;obtain⟨n,ad,kvs,xs,_,rfl,e1,e2,e3,rr,h4⟩:=Vi aU r2 h3;refine⟨ad,U2,kvs,xs,kx,rfl,e3,rr,rk,?_⟩;rw[hf];exact h4.bN aU _ (.d (.bl _))
theorem zg8{m:Vs->M Xv}{Z:L2.St}{Q:Bool->Hp->Prop}(hh:qM K cA EX (λJ=>M.bd (m J) bool) Z H Q):tE K cA EX m Z H λx H1=>∃c,x=.bl c/\Q c H1:=un hh λU J s hL hS h=>
 ⟨U,J,s,hL,hS,h.bd.imp λd s1 U1 H1 ⟨_,r1,h1⟩ v rv=>zhQ r1 rv h1⟩
theorem zlC{k:Nat}(hr:bG k X.A)(ha:JE X cA aq aj F EX a A)(hb:JE X cA aq aj F EX b B)(h1:pD b=true:=by rfl):JT X cA aq aj F EX (.Compare a [.NotIn] [b] pos) (.CW false A B):=⟨PT.weak (Rx (zk2 (cA:=cA) (by have:=hr.un;lia) ha.o hb.o) (yN h1)) λZ H Q hh=>zjD not (λc=>by cases c<;>rfl) (zg8 hh)⟩
def zlg:JE X cA aq aj F EX (.Dict [] [] pos) .tO:=⟨PE.weak znH λZ H Q hh=>un hh λU J s hL hS h p hp=>
 h (U.add p) _ (Ext.add hp) (hS.Kl hp ⟨[],iQ,.nil⟩) _ (.l (by show (U.l++[p])[s.length]?=_;rw[<-hS.len];simp))⟩
end
section
variable {X:Cx}{cA:Cl}{aq:Nat->Nat->Bool}{aj:Bool}{F:Bool->Fn}{EX:XS}{a oo ii:Expr}{A O I':E}{pos p:Pos}
theorem zk1{k:Nat}(hr:bG k X.A)(hO:JE X cA aq aj (F aj) EX oo O)(hI:JE X cA aq aj (F aj) EX ii I')(ha:JE X cA aq aj (F aj) EX a A)(hs:swapsWith a (some (.Subscript oo ii p)) pos.line X.env=pure false:=by rfl) :
  JS X cA aq aj F EX (.Assign [.Subscript oo ii p] a pos) (.dput O I' A):=⟨PS.weak (zn4 (cA:=cA) (by have:=hr.un;lia) hO.o hI.o ha.o hs) λD Z H hh=>un hh λU J s hL hS h=>by
 refine bw hL hS (aY.ofM hL hS.lz h) λz H1 U1 d1 s1 x1 hL1 aJ r1 h1=>?_;obtain⟨w,_,lR,h2⟩:=OD r1 h1;refine bw hL1 aJ h2 λx H2 U2 d2 s2 x2 hL2 aU r2 h3=>bw hL2 aU h3 λy H3 U3 d3 s3 x3 pq gQ r3 h4=>?_;obtain⟨kx,rk,h5⟩:=Vh r3 h4;obtain⟨n,ad,kvs,xs,_,rfl,e1,e2,e3,rr,h6⟩:=Vi gQ (r2.mono x3 aU.lz) h5;obtain⟨b,rfl⟩:=Vg (X:=X) (d:=.non) rk;have rw3:=(lR.mono x2 aJ.lz).mono x3 aU.lz;by_cases hz:kvs.length<sizeLine
 ·refine⟨ad,b,U3,kvs,xs,kx,w,rfl,e3,rr,rfl,rk,rw3,hz,λu ru=>?_⟩;have h6:Run X.K cA (if kvs.length<sizeLine then putD n (jL kx w kvs) else M.no) U3 H3 s3 _ _:=h6;rw[if_pos hz] at h6;have x4:Ext U3 H3 U3 (upd H3 ad (vf ad (storedH xs kx b u))):=Ext.write e2 ⟨_,e3⟩;have rS:=gQ.vg (so:=.dct (jL kx w kvs)) (ho:=vf ad (storedH xs kx b u)) (eG.mp e1).1 e2 ⟨_,iQ,(rr.put rk ru rw3).map λ_ _ r=>r.mono x4 gQ.lz⟩;obtain⟨x5,r5,h7⟩:=h6 U3 _ x4 rS;exact h7 U3 _ Z Ext.refl rS (pq.mono x4 gQ.lz)
 ·have h6:Run X.K cA (if kvs.length<sizeLine then putD n (jL kx w kvs) else M.no) U3 H3 s3 _ _:=h6;rw[if_neg hz] at h6;exact h6.elim⟩
end
end Mi
namespace Mi
open PySem PySem.Spec PyProof.Rows L2 PySem.W
def zm7{fd:FuncData}{x:Str}{st:Stmt}(h:oF fd=wu x st):fd=fnOf x x (aV st) (aL st) (au st) .none fd.kwdefaults fd.doc fd.pyModule fd.annotations fd.code fd.closureTuple:=by
 cases fd;unfold oF wu at h;cases h;rfl
def fZ(K:Frag)(x:Str):Addr:=match xr K x with
 |some p=>p.1
 |none=>0
def fdOf(K:Frag)(x:Str)(st:Stmt):FuncData:=match xr K x with
 |some p=>p.2
 |none=>wu x st
structure FnAt(K:Frag)(x:Str)(st:Stmt):Prop where
 ns:nsIn K mainGlobals x=some (some (.ref (fZ K x)))
 fn:n8 K x x st (fZ K x) (fdOf K x st)
theorem zox{K:Frag}{x:Str}{st:Stmt}(h:(xr K x).map (λp=>oF p.2)=some (wu x st)):FnAt K x st:=by
 cases e:xr K x with
 |none=>rw[e] at h;cases h
 |some p=>
  rw[e] at h;have hp:oF p.2=wu x st:=cJ h;have h1:fZ K x=p.1:=by unfold fZ;rw[e]
  have h2:fdOf K x st=p.2:=by unfold fdOf;rw[e]
  unfold xr at e;split at e
  ·rename_i f hf;split at e
   ·rename_i oc od fd sl hl;split at e
    ·rename_i hc;cases e;rw[gb] at hc;refine⟨by rw[h1];exact hf,?_⟩;rw[h1,h2];exact⟨⟨oc,od,_,_,_,_,_,_,sl,zm7 hp,hl,hc.1⟩,hc.2⟩
    ·cases e
   ·cases e
  ·cases e
def FnAt.m{K:Frag}{x:Str}{st:Stmt}(F:FnAt K x st){h:Heap}{mg:Str->Option Value}(X:K.In h)(G:h.Ns mainGlobals mg):mg x=some (.ref (fZ K x)):=mg_of X G F.ns
def znR{K:Frag}{x:Str}(h:uI K x=true){hp:Heap}{mg:Str->Option Value}(X:K.In hp)(G:hp.Ns mainGlobals mg):mg x=some (.ref (dY K x)):=by
 refine mg_of X G ?_;unfold uI at h;unfold dY;split at h
 ·rename_i C e;rw[e]
 ·cases h
theorem Vj{K:Frag}{x:Str}{i:Int}(h:mY K (x,i)=true){hp:Heap}{mg:Str->Option Value}(X:K.In hp)(G:hp.Ns mainGlobals mg):∃t,mg x=some (.int i t):=by
 unfold mY at h;split at h
 ·rename_i j t e;rw[FN] at h;subst h;exact⟨t,mg_of X G e⟩
 ·cases h
def qQ{K:Frag}{x:Str}(h:rz K x=true){hp:Heap}{mg:Str->Option Value}(X:K.In hp)(G:hp.Ns mainGlobals mg):mg x=none:=by
 refine mg_none_of X G ?_;unfold rz at h;split at h
 ·rename_i e;exact e
 ·cases h
structure Am(l:Lk)(K:Frag):Prop where
 cl:∀x∈l.Ik,uI K x=true
 cs:l.Ik.isEmpty=true\/zK K (l.L K)=true
 ra:∀k∈l.Yw,Ij K (jg (l.L K) k)=true
 ca:∀k∈l.Yx,subB K (l.L K) k=true
 it:∀p∈l.xu,mY K p=true
 no:∀x∈l.Yv,rz K x=true
def Kab{l:Lk}{K:Frag}(h:l.good K=true):Am l K:=by
 unfold Lk.good at h;simp only[gb,Bool.or_eq_true,iK] at h;obtain⟨⟨⟨⟨⟨h1,h2⟩,h3⟩,h4⟩,h5⟩,h6⟩:=h;exact⟨h1,h2,h3,h4,h5,h6⟩
theorem yO{K:Frag}{x:Str}{st:Stmt}{f:Addr}{fd:FuncData}{p:Str}(F:n8 K x x st f fd)(h:∀(kV doc pm:Value) (an:Option Addr) (cdv ct a:Value),bindArgs (fnOf x x (aV st) (aL st) (au st) .none kV doc pm an cdv ct) ⟨[a],[]⟩=pure [(p,a)]):Binds K fd [p] []:=by
 obtain⟨oc,od,kV,doc,pm,an,cdv,ct,osl,rfl,lk,iH⟩:=F.ex;exact Dw (h kV doc pm an cdv ct)
theorem yP{K:Frag}{x:Str}{st:Stmt}{f:Addr}{fd:FuncData}{p q:Str}(F:n8 K x x st f fd)(h:∀(kV doc pm:Value) (an:Option Addr) (cdv ct a b:Value),bindArgs (fnOf x x (aV st) (aL st) (au st) .none kV doc pm an cdv ct) ⟨[a,b],[]⟩=pure [(p,a),(q,b)]):Binds K fd [p,q] []:=by
 obtain⟨oc,od,kV,doc,pm,an,cdv,ct,osl,rfl,lk,iH⟩:=F.ex;exact vH (h kV doc pm an cdv ct)
theorem yQ{K:Frag}{x:Str}{st:Stmt}{f:Addr}{fd:FuncData}{p q t:Str}(F:n8 K x x st f fd)(h:∀(kV doc pm:Value) (an:Option Addr) (cdv ct a b c:Value),bindArgs (fnOf x x (aV st) (aL st) (au st) .none kV doc pm an cdv ct) ⟨[a,b,c],[]⟩=pure [(p,a),(q,b),(t,c)]):Binds K fd [p,q,t] []:=by
 obtain⟨oc,od,kV,doc,pm,an,cdv,ct,osl,rfl,lk,iH⟩:=F.ex;exact vI (h kV doc pm an cdv ct)
theorem yR{K:Frag}{x:Str}{st:Stmt}{f:Addr}{fd:FuncData}{p q t u:Str}(F:n8 K x x st f fd)(h:∀(kV doc pm:Value) (an:Option Addr) (cdv ct a b c d:Value),bindArgs (fnOf x x (aV st) (aL st) (au st) .none kV doc pm an cdv ct) ⟨[a,b,c,d],[]⟩=pure [(p,a),(q,b),(t,c),(u,d)]):Binds K fd [p,q,t,u] []:=by
 obtain⟨oc,od,kV,doc,pm,an,cdv,ct,osl,rfl,lk,iH⟩:=F.ex;exact vJ (h kV doc pm an cdv ct)
theorem DX{K:Frag}{x:Str}{st:Stmt}{f:Addr}{fd:FuncData}{p:Str}(F:n8 K x x st f fd)(h:∀(kV doc pm:Value) (an:Option Addr) (cdv ct a:Value),bindArgs (fnOf x x (aV st) (aL st) (au st) .none kV doc pm an cdv ct) ⟨[a],[]⟩=pure [(p,a)]):∀(s:Shared) (u:Value),BindsTo s fd ⟨[u],[]⟩ [(p,u)]:=by
 obtain⟨oc,od,kV,doc,pm,an,cdv,ct,osl,rfl,lk,iH⟩:=F.ex;exact λs u=>.of_eq (h kV doc pm an cdv ct u)
end Mi
namespace Mi
open PySem PySem.Spec PyProof.Rows L2
theorem zdc:∀{is:List Nat} {ds:List α} {J J':List (Option α)},gG is ds J=some J'->∀j,j∉is->J'[j]?=J[j]?
 |[],[],J,J',e,j,_=>by cases e;rfl
 |[],_::_,J,J',e,j,_=>by cases e
 |_::_,[],J,J',e,j,_=>by cases e
 |i::is,d::ds,J,J',e,j,h=>by
  have h1:=zdc (is:=is) (ds:=ds) e j (λz=>h (iJ _ z));rw[h1,p8 (λz=>h (by rw[z];exact lN))]
theorem zhg{tg:List Nat}{x:D}{J J':Vs}(e:eE tg x J=some J')(j:Nat)(h:j∉tg):J'[j]?=J[j]?:=by
 unfold eE at e;split at e
 ·cases e;rw[p8 (λz=>h (by simp[z]))]
 ·cases ht:kW x with
  |none=>rw[ht] at e;cases e
  |some ds=>rw[ht] at e;exact zdc e j h
def zim{many:Nat}{fr:List Nat}{J:Vs}{i:Nat}(h:i<many):(blk many fr J)[i]?=some none:=by
 unfold blk;rw[pK (by simpa using h),Bc,if_pos h]
section
variable {K:W.Frag}{cA:Cl}{U U' kZ:Ph}{H H' nG:Hp}{s:S}
theorem Ext.put{Dd:Addr}{us vs:List V}(x:Ext U H U' (upd H' Dd (.lst us)))(k:Keep U H Dd us):Ext U (upd H Dd (.lst vs)) U' (upd H' Dd (.lst vs)):=by
 obtain⟨r,er,hr⟩:=x.more;have nD:∀b,H b=none->b≠Dd:=λb e z=>by rw[z,k.at_] at e;cases e
 refine⟨⟨r,er,λb hb=>by rw[bW (nD b (hr b hb))];exact hr b hb⟩,x.qL,λa z=>?_,λa o e t n=>?_,λa o e=>?_⟩
 ·rcases x.kY a z with z|z
  ·exact .inl z
  ·exact .inr (by rw[bW (nD a z)];exact z)
 ·by_cases z:a=Dd
  ·subst z;rw[iQ] at e ⊢;exact e
  ·rw[bW z] at e ⊢;have:=x.frame a o e t n;rw[bW z] at this;exact this
 ·by_cases z:a=Dd
  ·subst z;exact⟨_,iQ⟩
  ·rw[bW z] at e ⊢;have:=x.stay a o e;rw[bW z] at this;exact this
theorem aZ.slots{Z Z':L2.St}{J:Vs}{is:List Nat}(h:aZ K cA U H Z J)(hl:Z'.length=Z.length)(he:∀j,j∉is->Z'[j]?=Z[j]?)(hn:∀i∈is,∀x,J[i]?≠some (some x)):aZ K cA U H Z' J:=by
 refine⟨hl.trans h.1,λi x e=>?_⟩;obtain⟨v,a,b⟩:=h.2 i x e;exact⟨v,by rw[he i λz=>hn i z x e];exact a,b⟩
end
section
variable {X:Cx}{cA:Cl}{aq:Nat->Nat->Bool}{aj:Bool}{F:Fn}{EX:XS}{elt iter tg iter₂ tg₂:Expr}{A B:E}{pos p:Pos}{ifs:List Expr}{scope:Scope}{N:List Str}{cond:Eo}{fr aM aM₂:List Nat}{many:Nat}{fz:Bool}{w w₂:Wk}
theorem zkk{K:W.Frag}{g:TG}{U1 U':Ph}{H1 H':Hp}{s':S}{Z3:L2.St}{J':Vs}{Dd:Addr}{acc:List D}{vs:List V}{β:Type}{kk:List D->M β}{P:β->S->Ph->Hp->Prop}{Ee:Nat->List D->S->Ph->Hp->Prop}{c:Src}{n:Nat}{bf:It}
  (hT:dR K cA g aM) (hin:∀i∈aM,i<many) (gZ:∀i∈aM,∀x,J'[i]?≠some (some x)) (hD:H1 Dd=none) (x2:Ext U1 H1 U' H') (hL:aZ K cA U' H' Z3 J') (aU:aD K cA U' H' s') (kp:Keep U' H' Dd vs) (pW:aC K cA U' H' acc vs) (hJ:jP K cA c U' H' bf)
  (h:Run K cA (M.bd (walk c (bY aq aj F B cond aM J') (n+1) 0 acc) kk) U1 H1 s' P Ee) {Nn:L2.St->Hp->Prop}
  (hN:∀Z4 H4 U4 s4 K5 vs4,Z4.length=Z3.length->(∀i,i∉aM->Z4[i]?=Z3[i]?)->Ext U1 H1 U4 H4->Ext U' H' U4 (upd H4 Dd (.lst vs))->aD K cA U4 H4 s4->Keep U4 H4 Dd vs4->aC K cA U4 H4 K5 vs4->Run K cA (kk K5) U1 H1 s4 P Ee->Nn Z4 H4) :
  Tj g (qM K cA (λ_ _ _ _=>False) (n6 aq aj F cond)) (tE K cA (λ_ _ _ _=>False) (ev aq aj F B)) Dd bf Z3 H' Nn:=by
 refine⟨λi m K6 nG=>m=n+1-i/\(K6.length=Z3.length/\∀j,j∉aM->K6[j]?=Z3[j]?)/\∃kZ s'' g_ vs'',Ext U1 H1 kZ nG/\Ext U' H' kZ (upd nG Dd (.lst vs))/\aD K cA kZ nG s''/\Keep kZ nG Dd vs''/\aC K cA kZ nG g_ vs'' /\
  Run K cA (M.bd (walk c (bY aq aj F B cond aM J') (n+1-i) i g_) kk) U1 H1 s'' P Ee,⟨n+1,rfl,⟨rfl,λ_ _=>rfl⟩,U',s',acc,vs,x2,by rw[GR kp.at_];exact Ext.refl,aU,kp,pW,h⟩,?_⟩
 rintro i m K6 nG ⟨rfl,hZ,kZ,s'',g_,vs'',x3,xb,gQ,k3,r3,h3⟩;have ox:cM kZ (upd nG Dd (.lst vs)) nG:=λa o e nz=>by
  rw[bW (λz=>nz (by rw[z];exact k3.z))] at e;exact e
 have pq:aZ K cA kZ nG K6 J':=((hL.mono xb aU.lz).out ox).slots hZ.1 hZ.2 gZ;cases ek:n+1-i with
 |zero=>rw[ek] at h3;exact h3.elim
 |succ k=>
  rw[ek] at h3;cases ei:c.at i s'' with
  |none=>
   exfalso
   unfold Run M.bd walk at h3;simp only[ei] at h3
  |some oi=>
   cases oi with
   |none=>
    refine .inl ⟨hJ.stop kZ _ nG s'' i xb ox gQ ei,?_⟩;have h4:Run K cA (kk g_) U1 H1 s'' P Ee:=by
     unfold Run M.bd walk at h3;simp only[ei] at h3;exact h3
    exact hN K6 nG kZ s'' g_ vs'' hZ.1 hZ.2 x3 xb gQ k3 r3 h4
   |some xi=>
    refine .inr ⟨hJ.go kZ _ nG s'' i xi xb ox gQ ei,λZ2 H2=>(Z2.length=Z3.length/\∀j,j∉aM->Z2[j]?=Z3[j]?)/\∃kZ s'' g_ vs'',Ext U1 H1 kZ H2/\Ext U' H' kZ (upd H2 Dd (.lst vs))/\aD K cA kZ H2 s''/\Keep kZ H2 Dd vs''/\aC K cA kZ H2 g_ vs'' /\
     Run K cA (M.bd (walk c (bY aq aj F B cond aM J') k (i+1) g_) kk) U1 H1 s'' P Ee,λZ2 H2 hn=>⟨k,by omega,by omega,hn.1,?_⟩,λv H2 hy=>?_⟩
    ·have:n+1-(i+1)=k:=by omega
     rw[this];exact hn.2
    ·obtain⟨gr,rx⟩:=hJ.uO kZ _ nG s'' i xi v H2 xb ox gQ ei hy;have h4:Run K cA (M.bd (bY aq aj F B cond aM J' xi g_) λacc'=>M.bd (walk c (bY aq aj F B cond aM J') k (i+1) acc') kk) U1 H1 s'' P Ee:=by
      have h5:=Uu (m':=M.bd (bY aq aj F B cond aM J' xi g_) λacc'=>walk c (bY aq aj F B cond aM J') k (i+1) acc') (by rw[walk];simp only[ei]) h3;rw[gP] at h5;exact h5
     have kg:=k3.mono gr.ext;have xg:Ext U' H' kZ (upd H2 Dd (.lst vs)):=xb.trans (Ext.put (us:=vs'') (vs:=vs) (by rw[GR kg.at_];exact gr.ext) k3);refine tY hT (x3.trans gr.ext) hD (pq.mono gr.ext gQ.lz) (gQ.grow gr) kg (r3.mono gr.ext gQ.lz) rx h4 λZ3' H3 U3 s3 nJ yI l3 f3 x3' xe Vk k3' r3' h6=>⟨⟨l3.trans hZ.1,λj hj=>(f3 j hj).trans (hZ.2 j hj)⟩,U3,s3,nJ,yI,x3',xg.trans (Ext.put (us:=vs'') (vs:=vs) xe kg),Vk,k3',r3',h6⟩
where
 tY {K:W.Frag} {g:TG} {U1 U':Ph} {H1 H2:Hp} {s':S} {Z':L2.St} {Jb:Vs} {Dd:Addr} {acc:List D} {vs:List V} {xi:D} {v:V} {β:Type} {kk:List D->M β} {P:β->S->Ph->Hp->Prop} {Ee:Nat->List D->S->Ph->Hp->Prop} (hT:dR K cA g aM)
  (x2:Ext U1 H1 U' H2) (hD:H1 Dd=none) (hL2:aZ K cA U' H2 Z' Jb) (aU:aD K cA U' H2 s') (kp:Keep U' H2 Dd vs) (pW:aC K cA U' H2 acc vs) (rx:Rep K cA U' H2 xi v)
  (h:Run K cA (M.bd (bY aq aj F B cond aM Jb xi acc) kk) U1 H1 s' P Ee) {Nn:L2.St->Hp->Prop}
  (hN:∀Z3 H3 U3 s3 nJ yI,Z3.length=Z'.length->(∀i,i∉aM->Z3[i]?=Z'[i]?)->Ext U1 H1 U3 H3->Ext U' H2 U3 (upd H3 Dd (.lst vs))->aD K cA U3 H3 s3->Keep U3 H3 Dd yI->aC K cA U3 H3 nJ yI->Run K cA (kk nJ) U1 H1 s3 P Ee->Nn Z3 H3) :
  g v Z' H2 λZ3 H3=>qM K cA (λ_ _ _ _=>False) (n6 aq aj F cond) Z3 H3 λok H4=>
   if ok=true then tE K cA (λ_ _ _ _=>False) (ev aq aj F B) Z3 H4 λy H5=>∃ys,H5 Dd=some (.lst ys)/\ys.length<sizeLine/\Nn Z3 (upd H5 Dd (.lst (ys++[y]))) else Nn Z3 H4:=by
  unfold bY at h;rw[gP] at h;obtain⟨J',e1,h1⟩:=Run.nH h;refine hT.run U' H2 s' Z' Jb J' xi v _ hL2 aU rx e1 λZ3 pq Du GX=>?_;rw[gP] at h1;refine⟨U',J',s',pq,aU,(KD x2 h1).imp λok s4 U4 H4 ⟨x4,rW,h6⟩=>?_⟩;cases ok with
  |false=>
   refine iF (hN Z3 H4 U4 s4 acc vs Du GX (x2.trans x4) (by rw[GR (kp.mono x4).at_];exact x4) rW (kp.mono x4) (pW.mono x4 aU.lz) ?_);rw[if_neg Tv] at h6;exact h6
  |true=>
   rw[if_pos rfl,gP] at h6;refine iT ⟨U4,J',s4,pq.mono x4 aU.lz,rW,(KD (x2.trans x4) h6).imp λy s5 U5 H5 ⟨x5,KH,h7⟩ u ru=>?_⟩;rw[gP] at h7;have k5:=(kp.mono x4).mono x5;have r5:=(pW.mono x4 aU.lz).mono x5 rW.lz;have Uv:=(x2.trans x4).trans x5;obtain⟨dd,ey,rd,h8⟩ : ∃d,y=.d d/\Rep K cA U5 H5 d u/\Run K cA (M.bd (if acc.length<sizeLine then M.ret (acc++[d]) else M.no) kk) U1 H1 s5 P Ee:=by
    cases ru with
    |l _=>exact h7.elim
    |d r=>exact⟨_,rfl,r,h7⟩
   by_cases hz:acc.length<sizeLine
   ·rw[if_pos hz] at h8;refine⟨vs,k5.at_,by rw[<-r5.len];exact hz,?_⟩;have ox:cM U5 H5 (upd H5 Dd (.lst (vs++[u]))):=k5.ext.1;exact hN Z3 _ U5 s5 (acc++[dd]) (vs++[u]) Du GX (Ext.keep (vs:=vs) Uv hD) (by rw[Yz,GR k5.at_];exact x4.trans x5) (KH.keep k5) k5.ext.2 ((r5.app (.cons rd .nil)).out ox) h8
   ·rw[if_neg hz] at h8;exact h8.elim
abbrev h_(aq:Nat->Nat->Bool)(aj:Bool)(F:Fn)(B:E)(cond:Eo)(aM aM₂:List Nat)(w₂:Wk)(Jb:Vs):D->List D->M (List D):=λd acc=>M.bd (M.opt (eE aM d Jb)) λJ'=>M.bd (M.qt (je aq aj F w₂ J')) λqJ=>
    walk qJ.1 (bY aq aj F B cond aM₂ J') (qJ.2+1) 0 acc
theorem zcB{g₁ g:TG}(hT:dR X.K cA g₁ aM)(hin:∀i∈aM,i<many)(hT₂:dR X.K cA g aM₂)(hin₂:∀i∈aM₂,i<many)(vL:∀i∈aM₂,i∉aM){Z:L2.St}{H:Hp}{Q:VK}(hh:tE X.K cA EX (ev aq aj F (.jz fz B aM w aM₂ w₂ fr many cond)) Z H Q) :
  qD (tI X.K cA EX (je aq aj F w)) (bF many fr) g₁ (tI X.K cA (λ_ _ _ _=>False) (je aq aj F w₂)) g (qM X.K cA (λ_ _ _ _=>False) (n6 aq aj F cond)) (tE X.K cA (λ_ _ _ _=>False) (ev aq aj F B)) Z H Q:=un hh λU J s hL hS h=>by
 by_cases dB:aj=true
 ·have h:Run X.K cA (if aj=true then M.bd (je aq aj F w J) λcn=>M.bd (walk cn.1 (h_ aq aj F B cond aM aM₂ w₂ (blk many fr J)) (cn.2+1) 0 []) λxs=>newL fz xs else M.no) U H s (λd _ U' H'=>∀v,aW X.K cA U' H' d v->Q v H') (eX X.K cA EX Z):=h;rw[if_pos dB] at h;refine⟨U,J,s,hL,hS,h.bd.imp λcn s1 U1 H1 ⟨x1,aJ,h1⟩ bf hJ=>?_⟩;have hL1:=hL.mono x1 hS.lz;obtain⟨c,n⟩:=cn;dsimp only at h1 hJ;intro Dd hD;obtain⟨x0,Uw,k0⟩:=zcC aJ hD;have Dv:∀{Z':L2.St},(Z'.length=many+fr.length/\∀i,many<=i->Z'[i]?=(bF many fr Z)[i]?)->∀{U' H'},Ext U1 H1 U' H'->aZ X.K cA U' H' Z' (blk many fr J):=λ{Z'} hZ {U' H'} x=>zgk (hL1.mono x aJ.lz) hZ.1 λi j v e1 e2=>by
   rw[hZ.2 _ (by omega)];unfold bF;rw[pZ Zaa,Hx,iG,show many+i-many=i by omega,e1];simp[e2]
  refine⟨λi m Z' H'=>m=n+1-i/\(Z'.length=many+fr.length/\∀i,many<=i->Z'[i]?=(bF many fr Z)[i]?)/\∃U' s' acc vs,Ext U1 H1 U' H'/\aD X.K cA U' H' s'/\Keep U' H' Dd vs/\aC X.K cA U' H' acc vs /\
   Run X.K cA (M.bd (walk c (h_ aq aj F B cond aM aM₂ w₂ (blk many fr J)) (n+1-i) i acc) λxs=>newL fz xs) U1 H1 s' (λd _ U' H'=>∀v,aW X.K cA U' H' d v->Q v H') (eX X.K cA EX Z),⟨n+1,rfl,⟨by simp[bF],λi _=>rfl⟩,U1.mark Dd,s1,[],[],x0,Uw,k0,.nil,h1⟩,?_⟩
  rintro i m Z' H' ⟨rfl,hZ,U',s',acc,vs,x2,aU,kp,pW,h3⟩;have hL2:=Dv hZ x2;cases ek:n+1-i with
  |zero=>rw[ek] at h3;exact h3.elim
  |succ k=>
   rw[ek] at h3;cases ei:c.at i s' with
   |none=>
    exfalso
    unfold Run M.bd walk at h3;simp only[ei] at h3
   |some oi=>
    cases oi with
    |none=>
     refine .inl ⟨hJ.stop U' H' H' s' i x2 cM.refl aU ei,?_⟩;have h4:Run X.K cA (newL fz acc) U1 H1 s' (λd _ U' H'=>∀v,aW X.K cA U' H' d v->Q v H') (eX X.K cA EX Z):=by
      unfold Run M.bd walk at h3;simp only[ei] at h3;exact h3
     exact zdO h4 x2 hD (aJ.nz hD) aU kp pW
    |some xi=>
     refine .inr ⟨hJ.go U' H' H' s' i xi x2 cM.refl aU ei,λZ2 H2=>(Z2.length=many+fr.length/\∀i,many<=i->Z2[i]?=(bF many fr Z)[i]?)/\∃U' s' acc vs,Ext U1 H1 U' H2/\aD X.K cA U' H2 s'/\Keep U' H2 Dd vs/\aC X.K cA U' H2 acc vs /\
      Run X.K cA (M.bd (walk c (h_ aq aj F B cond aM aM₂ w₂ (blk many fr J)) k (i+1) acc) λxs=>newL fz xs) U1 H1 s' (λd _ U' H'=>∀v,aW X.K cA U' H' d v->Q v H') (eX X.K cA EX Z),λZ2 H2 hn=>⟨k,by omega,by omega,hn.1,?_⟩,λv H2 hy=>?_⟩
     ·have:n+1-(i+1)=k:=by omega
      rw[this];exact hn.2
     ·obtain⟨gr,rx⟩:=hJ.uO U' H' H' s' i xi v H2 x2 cM.refl aU ei hy;have h4:Run X.K cA (M.bd (M.opt (eE aM xi (blk many fr J))) λJ'=>M.bd (M.qt (je aq aj F w₂ J')) λqJ=>M.bd (walk qJ.1 (bY aq aj F B cond aM₂ J') (qJ.2+1) 0 acc) λacc'=>M.bd (walk c (h_ aq aj F B cond aM aM₂ w₂ (blk many fr J)) k (i+1) acc') λxs=>newL fz xs) U1 H1 s' (λd _ U' H'=>∀v,aW X.K cA U' H' d v->Q v H') (eX X.K cA EX Z):=by
       have h5:=Uu (m':=M.bd (h_ aq aj F B cond aM aM₂ w₂ (blk many fr J) xi acc) λacc'=>walk c (h_ aq aj F B cond aM aM₂ w₂ (blk many fr J)) k (i+1) acc') (by rw[walk];simp only[ei]) h3;rw[gP] at h5;unfold h_ at h5;rw[gP] at h5;have e:(λJ'=>M.bd (M.bd (M.qt (je aq aj F w₂ J')) λqJ=>walk qJ.1 (bY aq aj F B cond aM₂ J') (qJ.2+1) 0 acc) λacc'=>M.bd (walk c (h_ aq aj F B cond aM aM₂ w₂ (blk many fr J)) k (i+1) acc') λxs=>newL fz xs)=λJ'=>M.bd (M.qt (je aq aj F w₂ J')) λqJ=>M.bd (walk qJ.1 (bY aq aj F B cond aM₂ J') (qJ.2+1) 0 acc) λacc'=>M.bd (walk c (h_ aq aj F B cond aM aM₂ w₂ (blk many fr J)) k (i+1) acc') λxs=>newL fz xs:=funext λJ'=>gP _ _ _;rw[<-e];exact h5
      obtain⟨J',e1,h6⟩:=Run.nH h4;have gQ:=aU.grow gr;refine hT.run U' H2 s' Z' _ J' xi v _ (hL2.mono gr.ext aU.lz) gQ rx e1 λZ3 pq Du GX=>?_;have kg:=kp.mono gr.ext;have rg:=pW.mono gr.ext aU.lz;have xg:=x2.trans gr.ext;refine⟨U',J',s',pq,gQ,(KD xg h6).imp λqJ s4 U4 H4 ⟨x4,rW,h7⟩ bf₂ hJ₂=>?_⟩;refine zkk (many:=many) hT₂ hin₂ (λi hi x z=>?_) hD (xg.trans x4) (pq.mono x4 gQ.lz) rW (kg.mono x4) (rg.mono x4 gQ.lz) hJ₂ h7 λZ4 H5 U5 s5 Vl vs5 l5 f5 x5 _ KH k5 r5 h8=>⟨⟨l5.trans (Du.trans hZ.1),λi hi=>?_⟩,U5,s5,Vl,vs5,x5,KH,k5,r5,h8⟩
      ·rw[zhg e1 i (vL i hi),zim (hin₂ i hi)] at z;cases z
      ·rw[f5 i λz=>absurd (hin₂ i z) (Gh.mpr hi),GX i λz=>absurd (hin i z) (Gh.mpr hi)];exact hZ.2 i hi
 ·have h:Run X.K cA (if aj=true then M.bd (je aq aj F w J) λcn=>M.bd (walk cn.1 (h_ aq aj F B cond aM aM₂ w₂ (blk many fr J)) (cn.2+1) 0 []) λxs=>newL fz xs else M.no) U H s (λd _ U' H'=>∀v,aW X.K cA U' H' d v->Q v H') (eX X.K cA EX Z):=h;rw[if_neg dB] at h;exact h.elim
theorem ziu(hc:X.aj=true)(B':cC X.env.scope scope)(hi:SI X cA aq aj F EX tg iter w)(hN:N.length=many+fr.length)
  (pR:∀(i:Nat) (y:Str) (j:Nat),N[many+i]?=some y->fr[i]?=some j->scope.names.lookup y=some .free/\X.N[j]?=some y)
  (hg₁:∀cl C s3 H3 fp ao,PG (X.blk scope cl N C s3 H3 fp ao) tg g₁) (hT:dR X.K cA g₁ aM) (hin:∀i∈aM,i<many) (hi₂:∀cl C s3 H3 fp ao,SI (X.blk scope cl N C s3 H3 fp ao) cA aq aj F (λ_ _ _ _=>False) tg₂ iter₂ w₂)
  (hg:∀cl C s3 H3 fp ao,PG (X.blk scope cl N C s3 H3 fp ao) tg₂ g) (hT₂:dR X.K cA g aM₂) (hin₂:∀i∈aM₂,i<many) (vL:∀i∈aM₂,i∉aM)
  (ht:∀cl C s3 H3 fp ao,Dt (X.blk scope cl N C s3 H3 fp ao) cA aq aj F (λ_ _ _ _=>False) ifs cond) (he:∀cl C s3 H3 fp ao,SE (X.blk scope cl N C s3 H3 fp ao) cA aq aj F (λ_ _ _ _=>False) elt B)
  (hs₂:∀env x,foldedSetIterable iter₂ env x=pure x) (hs:∀x,foldedSetIterable iter X.env x=pure x:=by intro _;rfl):SE X cA aq aj F EX (.ListComp elt [⟨tg,iter,[],0⟩,⟨tg₂,iter₂,ifs,0⟩] scope pos) (.jz fz B aM w aM₂ w₂ fr many cond):=
 PE.weak (zhR hc B' hi (⟨hg₁,hi₂,hg,ht,he⟩ : kE X elt tg tg₂ iter₂ ifs scope N g₁ (tI X.K cA (λ_ _ _ _=>False) (je aq aj F w₂)) g (qM X.K cA (λ_ _ _ _=>False) (n6 aq aj F cond)) (tE X.K cA (λ_ _ _ _=>False) (ev aq aj F B))) hs₂ (ZY:=bF many fr) (λZ=>by simp[bF,hN]) (λZ i x v e1 e2=>O6 pR Z i x v e1 e2) hs) λZ H Q hh=>zcB hT hin hT₂ hin₂ vL hh
end
section
variable {X:Cx}{cA:Cl}{aq:Nat->Nat->Bool}{aj:Bool}{F:Bool->Fn}{EX:XS}{elt iter tg iter₂ tg₂:Expr}{A B:E}{pos p:Pos}{ifs:List Expr}{scope:Scope}{N:List Str}{cond:Eo}{fr aM aM₂:List Nat}{many:Nat}{fz:Bool}{w w₂:Wk}{i:Nat}{y:Str}
theorem zhM(hc:X.aj=true)(pA:X.N.Nodup)(tK:X.N[i]?=some y)(hx:Loc X.env.scope y)(hf:X.fn y=true\/X.env.scope.names.lookup y=some .local)(B':cC X.env.scope scope)(hi:SI X cA aq aj (F aj) EX tg iter w)(hN:N.length=many+fr.length)
  (pR:∀(i:Nat) (y:Str) (j:Nat),N[many+i]?=some y->fr[i]?=some j->scope.names.lookup y=some .free/\X.N[j]?=some y)
  (hg₁:∀cl C s3 H3 fp ao,PG (X.blk scope cl N C s3 H3 fp ao) tg g₁) (hT:dR X.K cA g₁ aM) (hin:∀i∈aM,i<many) (hi₂:∀cl C s3 H3 fp ao,SI (X.blk scope cl N C s3 H3 fp ao) cA aq aj (F aj) (λ_ _ _ _=>False) tg₂ iter₂ w₂)
  (hg:∀cl C s3 H3 fp ao,PG (X.blk scope cl N C s3 H3 fp ao) tg₂ g) (hT₂:dR X.K cA g aM₂) (hin₂:∀i∈aM₂,i<many) (vL:∀i∈aM₂,i∉aM)
  (ht:∀cl C s3 H3 fp ao,Dt (X.blk scope cl N C s3 H3 fp ao) cA aq aj (F aj) (λ_ _ _ _=>False) ifs cond) (he:∀cl C s3 H3 fp ao,SE (X.blk scope cl N C s3 H3 fp ao) cA aq aj (F aj) (λ_ _ _ _=>False) elt B)
  (u6:swapsWith (.ListComp elt [⟨tg,iter,[],0⟩,⟨tg₂,iter₂,ifs,0⟩] scope pos) (some (.Name y py)) spos.line X.env=pure true)
  (hs₂:∀env x,foldedSetIterable iter₂ env x=pure x) (hs:∀x,foldedSetIterable iter X.env x=pure x:=by intro _;rfl) :
  SS X cA aq aj F EX (.Assign [.Name y py] (.ListComp elt [⟨tg,iter,[],0⟩,⟨tg₂,iter₂,ifs,0⟩] scope pos) spos) (.asg (.nm i) (.jz fz B aM w aM₂ w₂ fr many cond)):=
 PS.weak (zd8 hc pA tK hx hf B' hi (⟨hg₁,hi₂,hg,ht,he⟩ : kE X elt tg tg₂ iter₂ ifs scope N g₁ (tI X.K cA (λ_ _ _ _=>False) (je aq aj (F aj) w₂)) g (qM X.K cA (λ_ _ _ _=>False) (n6 aq aj (F aj) cond)) (tE X.K cA (λ_ _ _ _=>False) (ev aq aj (F aj) B))) hs₂ (ZY:=bF many fr) (λZ=>by simp[bF,hN]) (λZ i x v e1 e2=>O6 pR Z i x v e1 e2) u6 hs) λD Z H hh=>un hh λU J s hL hS h=>
  zcB hT hin hT₂ hin₂ vL ⟨U,J,s,hL,hS,(aY.ofM hL hS.lz h).imp λd s1 U1 H1 ⟨x1,aJ,h1⟩ v rv=>h1 U1 H1 _ Ext.refl aJ ((hL.mono x1 hS.lz).set rv)⟩
noncomputable def yS(aM aM₂:List Nat)(m:Nat):Bool:=aM.all (λi=>decide (i<m))&&aM₂.all (λi=>decide (i<m) && !aM.contains i)
theorem G9(h:yS aM aM₂ m=true):(∀i∈aM,i<m)/\(∀i∈aM₂,i<m)/\∀i∈aM₂,i∉aM:=by
 unfold yS at h;simp only[gb,iK,FN,Bool.not_eq_true'] at h;exact⟨h.1,λi hi=>(h.2 i hi).1,λi hi z=>by have:=(h.2 i hi).2;rw[List.contains_iff_mem.mpr z] at this;cases this⟩
noncomputable def qR:Expr->Bool
 |.Call _ _ _ _=>true
 |.Name _ _=>true
 |.BinOp _ _ _ _=>true
 |.Subscript _ _ _=>true
 |.Attribute _ _ _=>true
 |_=>false
def zg7(h:qR e=true):∀env x,foldedSetIterable e env x=pure x:=by cases e<;>first|(intro _ _;rfl)|cases h
theorem zkU(i:Nat)(sc:Scope)(XN M0 N:List Str)(fr:List Nat)(hN:X.N.Nodup)(tK:X.N[i]?=some y)(hx:JK X y k)(hl:lX k=true)(hc:X.aj=true)(DR:X.env.scope=sc)(pA:X.N=XN)(hB:qP sc scope=true)(hf:frB scope XN N fr=true)(hT:dR X.K cA g₁ aM)(hT₂:dR X.K cA g aM₂)(hin:yS aM aM₂ M0.length=true)
  (hi:JI X cA aq aj (F aj) EX tg iter w) (hg₁:∀cl C s3 H3 fp ao,JY (X.blk scope cl (M0++N) C s3 H3 fp ao) tg g₁) (hi₂:∀cl C s3 H3 fp ao,JI (X.blk scope cl (M0++N) C s3 H3 fp ao) cA aq aj (F aj) (λ_ _ _ _=>False) tg₂ iter₂ w₂) (hg:∀cl C s3 H3 fp ao,JY (X.blk scope cl (M0++N) C s3 H3 fp ao) tg₂ g)
  (ht:∀cl C s3 H3 fp ao,JC (X.blk scope cl (M0++N) C s3 H3 fp ao) cA aq aj (F aj) (λ_ _ _ _=>False) ifs cond) (he:∀cl C s3 H3 fp ao,JE (X.blk scope cl (M0++N) C s3 H3 fp ao) cA aq aj (F aj) (λ_ _ _ _=>False) elt B)
  (K7:qR iter₂=true:=by rfl) (u6:swapsWith (.ListComp elt [⟨tg,iter,[],0⟩,⟨tg₂,iter₂,ifs,0⟩] scope pos) (some (.Name y py)) spos.line X.env=pure true:=by rfl) (Vb:X.fn y=true\/k=.local:=by first|exact .inl rfl|exact .inr rfl) (hs:∀x,foldedSetIterable iter X.env x=pure x:=by intro _;rfl) :
  JS X cA aq aj F EX (.Assign [.Name y py] (.ListComp elt [⟨tg,iter,[],0⟩,⟨tg₂,iter₂,ifs,0⟩] scope pos) spos) (.asg (.nm i) (.jz fz B aM w aM₂ w₂ fr M0.length cond)):=
 ⟨zhM hc hN tK (wQ hx hl) (wR hx Vb) (cC.of (DR▸hB)) hi.o (wN (pA▸hf)).1 (wN (pA▸hf)).2 (λa b c d e f=>(hg₁ a b c d e f).o) hT (G9 hin).1 (λa b c d e f=>(hi₂ a b c d e f).o) (λa b c d e f=>(hg a b c d e f).o) hT₂ (G9 hin).2.1 (G9 hin).2.2 (λa b c d e f=>(ht a b c d e f).o) (λa b c d e f=>(he a b c d e f).o) u6 (zg7 K7) hs⟩
end
section
variable {X:Cx}{cA:Cl}{aq:Nat->Nat->Bool}{aj:Bool}{F:Fn}{EX:XS}{elt iter tg iter₂ tg₂:Expr}{A B:E}{pos p:Pos}{ifs:List Expr}{scope:Scope}{N:List Str}{cond:Eo}{fr aM aM₂:List Nat}{many:Nat}{fz:Bool}{w w₂:Wk}{i:Nat}{y:Str}
theorem zkE(sc:Scope)(XN M0 N:List Str)(fr:List Nat)(hc:X.aj=true)(DR:X.env.scope=sc)(pA:X.N=XN)(hB:qP sc scope=true)(hf:frB scope XN N fr=true)(hT:dR X.K cA g₁ aM)(hT₂:dR X.K cA g aM₂)(hin:yS aM aM₂ M0.length=true)
  (hi:JI X cA aq aj F EX tg iter w) (hg₁:∀cl C s3 H3 fp ao,JY (X.blk scope cl (M0++N) C s3 H3 fp ao) tg g₁) (hi₂:∀cl C s3 H3 fp ao,JI (X.blk scope cl (M0++N) C s3 H3 fp ao) cA aq aj F (λ_ _ _ _=>False) tg₂ iter₂ w₂) (hg:∀cl C s3 H3 fp ao,JY (X.blk scope cl (M0++N) C s3 H3 fp ao) tg₂ g)
  (ht:∀cl C s3 H3 fp ao,JC (X.blk scope cl (M0++N) C s3 H3 fp ao) cA aq aj F (λ_ _ _ _=>False) ifs cond) (he:∀cl C s3 H3 fp ao,JE (X.blk scope cl (M0++N) C s3 H3 fp ao) cA aq aj F (λ_ _ _ _=>False) elt B)
  (K7:qR iter₂=true:=by rfl) (hs:∀x,foldedSetIterable iter X.env x=pure x:=by intro _;rfl):JE X cA aq aj F EX (.ListComp elt [⟨tg,iter,[],0⟩,⟨tg₂,iter₂,ifs,0⟩] scope pos) (.jz fz B aM w aM₂ w₂ fr M0.length cond):=
 ⟨ziu hc (cC.of (DR▸hB)) hi.o (wN (pA▸hf)).1 (wN (pA▸hf)).2 (λa b c d e f=>(hg₁ a b c d e f).o) hT (G9 hin).1 (λa b c d e f=>(hi₂ a b c d e f).o) (λa b c d e f=>(hg a b c d e f).o) hT₂ (G9 hin).2.1 (G9 hin).2.2 (λa b c d e f=>(ht a b c d e f).o) (λa b c d e f=>(he a b c d e f).o) (zg7 K7) hs⟩
end
section
variable {K:W.Frag}{cA:Cl}{U:Ph}{H:Hp}
theorem aC.DY(r:aC K cA U H xs ys):∀l:List Nat,aC K cA U H (l.map λi=>xs.getD i .non) (l.map λi=>ys.getD i .non)
 |[]=>.nil
 |i::l=>by
  refine .cons ?_ (aC.DY r l);show Rep K cA U H (xs.getD i .non) (ys.getD i .non);cases e:xs[i]? with
  |some x=>
   obtain⟨u,e1,e2⟩:=r.get e;rw[jT,jT,e,e1];exact e2
  |none=>
   have e1:ys[i]?=Option.none:=r.none e;rw[jT,jT,e,e1];exact .non
theorem aC.mem(r:aC K cA U H xs ys):∀v∈ys,∃d∈xs,Rep K cA U H d v:=by
 intro v hv;obtain⟨i,hi,e⟩:=v7 hv;have e':ys[i]?=some v:=by rw[dH hi,e]
 cases ex:xs[i]? with
 |none=>rw[r.none ex] at e';cases e'
 |some d=>
  obtain⟨u,e1,e2⟩:=r.get ex;rw[e1] at e';cases e';exact⟨d,fG ex,e2⟩
theorem zg3:∀{us ws:List D} {xs ys:List V},aC K cA U H us xs->aC K cA U H ws ys->∀{b:Bool},tR us ws=some b->lU xs ys=some b
 |[],ws,_,ys,r1,r2,b,h=>by
  cases r1;unfold tR at h;unfold lU;rw[<-r2.len];exact h
 |_::_,[],_,_,r1,r2,b,h=>by
  cases r2;cases r1;unfold tR at h;unfold lU;exact h
 |x::us,y::ws,_,_,r1,r2,b,h=>by
  cases r1 with
  |cons a1 b1=>
   cases r2 with
   |cons a2 b2=>
    unfold tR at h;split at h
    ·rename_i z;cases z
    ·rename_i z;cases z
    ·rename_i p ps q qs e1 e2;cases e1;cases e2;cases a1;cases a2;unfold lU;by_cases e:p=q
     ·rw[if_pos e] at h ⊢;exact zg3 b1 b2 h
     ·rw[if_neg e] at h ⊢;exact h
    ·cases h
theorem zhm(r:aC K cA U H xs ys)(h:(xs.all kJ||xs.all jq)=true):u9 K H ys (zX xs):=by
 rw[Bool.or_eq_true] at h;rcases h with h|h
 ·left
  rw[iK] at h;refine⟨λv hv=>?_,λi j b e=>?_⟩
  ·obtain⟨d,hd,q⟩:=r.mem v hv;have:=h d hd;cases q<;>first|exact⟨_,rfl⟩|cases this
  ·unfold zX at e;cases e1:xs[i]? with
   |none=>rw[e1] at e;cases e
   |some d1=>
    cases e2:xs[j]? with
    |none=>rw[e1,e2] at e;cases d1<;>cases e
    |some d2=>
     have h1:=h d1 (fG e1);have h2:=h d2 (fG e2);rw[e1,e2] at e;obtain⟨v1,a1,b1⟩:=r.get e1;obtain⟨v2,a2,b2⟩:=r.get e2;cases d1<;>first|cases h1|skip
     cases d2<;>first|cases h2|skip
     cases b1;cases b2;cases e;exact⟨_,_,a1,a2,rfl⟩
 ·right
  rw[iK] at h;refine⟨λv hv=>?_,λi j b e=>?_⟩
  ·obtain⟨d,hd,q⟩:=r.mem v hv;have:=h d hd;unfold jq at this;split at this
   ·cases q with
    |tup t r'=>
     cases r' with
     |cons a1 b1=>
      cases a1;exact⟨_,_,_,rfl,t.jC⟩
   ·cases this
  ·unfold zX at e;cases e1:xs[i]? with
   |none=>rw[e1] at e;cases e
   |some d1=>
    cases e2:xs[j]? with
    |none=>rw[e1,e2] at e;cases d1<;>cases e
    |some d2=>
     have h1:=h d1 (fG e1);have h2:=h d2 (fG e2);rw[e1,e2] at e;obtain⟨v1,a1,b1⟩:=r.get e1;obtain⟨v2,a2,b2⟩:=r.get e2;unfold jq at h1 h2;split at h1
     ·split at h2
      ·cases b1 with
       |tup t1 r1=>
        cases b2 with
        |tup t2 r2=>exact⟨_,_,_,_,a1,a2,t1.jC,t2.jC,zg3 r1 r2 e⟩
      ·cases h2
     ·cases h1
theorem zf4:bK K cA .sorted (λxs H Q=>∃l ys lt p,xs=[.ref l]/\cY K H l ys/\ys.length<64/\(2<=ys.length->u9 K H ys lt/\bI lt (PySem.W.kas_sort ys.length)=some p/\p.size=ys.length)/\∀r,H r=none->Q (.ref r) (upd H r (.lst (fX ys p)))):=by
 intro U H ds vs Q zt rs o;have o:bM K cA U H (nu ds) Q:=o;unfold nu at o;split at o
 ·rename_i xs _;obtain⟨v,rfl,r1⟩:=rs.one;obtain⟨z,e⟩:=o.some';obtain⟨zs,e1,e2⟩:=lB.mp e;subst e2;obtain⟨a,us,rfl,sq,q⟩ : ∃a us,v=.ref a/\cY K H a us/\aC K cA U H xs us:=r1;have hl:=q.len;unfold zY at e1;by_cases hk:(xs.all kJ||xs.all jq)=true
  ·rw[if_pos hk] at e1;unfold jA at e1;by_cases h2:xs.length<2
   ·rw[if_pos h2] at e1;cases e1;refine⟨a,us,λ_ _=>none,#[],rfl,sq,by lia,λz=>absurd z gV,λr hr=>?_⟩;have:fX us #[]=us:=by unfold fX;rw[if_pos gV]
    rw[this];exact(o.of e) r us hr q
   ·rw[if_neg h2] at e1;by_cases nZ:xs.length<64
    ·rw[if_pos nZ] at e1;cases ek:bI (zX xs) (PySem.W.kas_sort xs.length) with
     |none=>rw[ek] at e1;cases e1
     |some p=>
      rw[ek] at e1;dsimp only at e1;by_cases hp:p.size=xs.length
      ·rw[if_pos hp] at e1;cases e1;refine⟨a,us,zX xs,p,rfl,sq,by lia,λ_=>⟨zhm q hk,by rw[<-hl];exact ek,by lia⟩,λr hr=>?_⟩;have:fX us p=p.toList.map λi=>us.getD i .non:=by unfold fX;rw[if_neg gV]
       rw[this];exact(o.of e) r _ hr (q.DY p.toList)
      ·rw[if_neg hp] at e1;cases e1
    ·rw[if_neg nZ] at e1;cases e1
  ·rw[if_neg hk] at e1;cases e1
 ·exact o.elim
end
section
variable {X:Cx}{cA:Cl}{aq:Nat->Nat->Bool}{aj:Bool}{F:Fn}{EX:XS}{e:Expr}{pos p:Pos}{es:List Expr}{Xs:Es}{fz:Bool}
def zbW:bootBuiltins "sorted"=some (.builtin "sorted"):=by decide +kernel
theorem zeC(hm:X.mg "sorted"=none)(hg:JK X "sorted" .globalImplicit)(ha:JA X cA aq aj F EX (e::es) Xs)(he:aF e=true:=by rfl)(hpl:es.all aF=true:=by rfl):JE X cA aq aj F EX (.Call (.Name "sorted" p) (e::es) [] pos) (.pr fz .sorted Xs):=⟨yF zed zf4 hg.o hm zbW ha.o Tv Tv (bC he) (bH hpl)⟩
end
section
variable {K:W.Frag}{cA:Cl}{U:Ph}{H:Hp}
theorem Pn:∀{xs:List D} {k i:Nat},(enumFrom k xs)[i]?=(xs[i]?).map λd=>.tup [.int ((k+i:Nat):Int),d]
 |[],k,i=>by simp[enumFrom]
 |x::r,k,0=>by simp[enumFrom]
 |x::r,k,i+1=>by
  unfold enumFrom;rw[Bf,Bf,Pn]
  congr 1
  funext d
  rw[show k+1+i=k+(i+1) by lia]
noncomputable def tZ(K:W.Frag)(U:Ph)(H:Hp):Bool->Addr->List V->Prop
 |true,a,vs=>LstAt K U H a vs
 |false,a,vs=>TupAt K U H a vs
def tZ.sk{kd:Bool}{a:Addr}{vs:List V}(h:tZ K U H kd a vs):Sk kd K H a vs:=by
 cases kd
 ·exact TupAt.jC h
 ·exact LstAt.tW h
def tZ.later{U':Ph}{H₁ H':Hp}{kd:Bool}{a:Addr}{vs:List V}(hz:∀a∈U.l,U.z a)(h:tZ K U H kd a vs)(x:Ext U H U' H₁)(o:cM U' H₁ H'):tZ K U' H' kd a vs:=by
 cases kd
 ·exact TupAt.later hz h x o
 ·exact LstAt.later hz h x o
theorem jP.enum{kd:Bool}{l:Addr}{xs:List D}{vs:List V}(hz:∀a∈U.l,U.z a)(h:tZ K U H kd l vs)(r:aC K cA U H xs vs):jP K cA (.fix (enumFrom 0 xs)) U H (Ite K kd l):=by
 refine⟨λU' H₁ H' s' i x o hS e=>⟨vs,(h.later hz x o).sk,?_⟩,λU' H₁ H' s' i d x o hS e=>?_,λU' H₁ H' s' i d v H2 x o hS e y=>?_⟩
 ·have e:(enumFrom 0 xs)[i]?=none:=cJ e;rw[Pn,Option.map_eq_none_iff] at e;exact qZ.mp ((r.mono x hz).none e)
 ·have e:(enumFrom 0 xs)[i]?=some d:=cJ e;rw[Pn] at e;obtain⟨d',e',_⟩:=lB.mp e;obtain⟨v,q,_⟩:=r.get e';exact⟨vs,v,(h.later hz x o).sk,q⟩
 ·have e:(enumFrom 0 xs)[i]?=some d:=cJ e;rw[Pn] at e;obtain⟨d',e',rfl⟩:=lB.mp e;obtain⟨a,u,hn,rfl,rfl,hu⟩:=y;obtain⟨w,q,lR⟩:=((r.mono x hz).out o).get e';have:=hu vs (h.later hz x o).sk;rw[q] at this;cases this;have g:bJ H' (upd H' a (.tup [.int i,u])):=bJ.new hn;refine⟨g,?_⟩;rw[show ((0+i:Nat):Int)=(i:Int) by simp];exact .tup (.inl ⟨.inl iQ,hS.nz hn⟩) (.cons (.int _) (.cons (lR.mono g.ext hS.lz) .nil))
theorem Vm(h:(Src.mQ n).at i s=some o):∃xs,s[n]?=some (.lst xs)/\(xs[i]?.map λx=>D.tup [.int i,x])=o:=by
 unfold Src.at at h;dsimp only at h;cases e:s[n]? with
 |none=>rw[e] at h;cases h
 |some ob=>
  rw[e] at h;cases ob with
  |lst xs=>exact⟨xs,rfl,cJ h⟩
  |_=>cases h
theorem jP.mQ{a:Addr}{n:Nat}(h:U.l[n]?=some a):jP K cA (.mQ n) U H (Ite K true a):=by
 refine⟨λU' H₁ H' s' i x o hS e=>?_,λU' H₁ H' s' i d x o hS e=>?_,λU' H₁ H' s' i d v H2 x o hS e y=>?_⟩
 ·obtain⟨xs,e1,e2⟩:=Vm e;rw[Option.map_eq_none_iff] at e2;obtain⟨vs,q1,q2⟩:=hS.obj n _ a e1 (x.get h);exact⟨vs,cY.of q1,qZ.mp (q2.none e2)⟩
 ·obtain⟨xs,e1,e2⟩:=Vm e;obtain⟨d',e',_⟩:=lB.mp e2;obtain⟨vs,q1,q2⟩:=hS.obj n _ a e1 (x.get h);obtain⟨v,q3,_⟩:=q2.get e';exact⟨vs,v,cY.of q1,q3⟩
 ·obtain⟨xs,e1,e2⟩:=Vm e;obtain⟨d',e',rfl⟩:=lB.mp e2;obtain⟨vs,q1,q2⟩:=hS.obj n _ a e1 (x.get h);obtain⟨w,q3,lR⟩:=q2.get e';obtain⟨b,u,hn,rfl,rfl,hu⟩:=y;have:=hu vs (cY.of q1);rw[q3] at this;cases this;have g:bJ H' (upd H' b (.tup [.int i,w])):=bJ.new hn;exact⟨g,.tup (.inl ⟨.inl iQ,hS.nz hn⟩) (.cons (.int _) (.cons (lR.mono g.ext hS.lz) .nil))⟩
end
section
variable {X:Cx}{cA:Cl}{aq:Nat->Nat->Bool}{aj:Bool}{F:Fn}{EX:XS}{a b:Expr}{A B:E}{pos pp tpos:Pos}{elts:List Expr}{kk:Nat}
theorem zjZ(qO:Gl X "enumerate")(hmg:X.mg "enumerate"=none)(hb:SE X cA aq aj F EX b B)(h2:starEach [b] X.env=(false,eval b X.env)::starEach [] X.env) :
  SI X cA aq aj F EX (.Tuple elts kk tpos) (.Call (.Name "enumerate" pp) [b] [] pos) (.enum B):=PI.weak (zjv qO hmg (sY hb xX h2) (by rw[h2];rfl)) λZ H R hh=>un hh λU J s hL hS h=>by
 refine bw hL hS h λy H2 U2 d2 s2 x2 hL2 aU r2 h2=>?_;cases r2 with
 |@l n ad hl=>
  unfold Run o9 at h2;dsimp only at h2;cases e:s2[n]? with
  |none=>rw[e] at h2;exact h2.elim
  |some o=>
   rw[e] at h2;cases o with
   |lst xs=>
    obtain⟨vs,q1,q2⟩:=aU.obj n _ _ e hl;exact⟨true,_,_,rfl,cY.of q1,h2 U2 H2 Ext.refl aU _ (jP.mQ hl)⟩
   |_=>exact h2.elim
 |d r2=>
  cases r2 with
  |fl q r=>exact⟨true,_,_,rfl,q.tW,h2 U2 H2 Ext.refl aU _ (jP.enum (kd:=true) aU.lz q r)⟩
  |tup q r=>exact⟨false,_,_,rfl,q.jC,h2 U2 H2 Ext.refl aU _ (jP.enum (kd:=false) aU.lz q r)⟩
  |_=>exact h2.elim
def zf7:∀(ns:List Str) (vs:List V),((ns.zip vs).map (·.1)).Sublist ns
 |[],vs=>by simp
 |n::ns,[]=>by simp
 |n::ns,v::vs=>by
  rw[HD,jx];exact(zf7 ns vs).cons₂ n
def zfw:∀{ns:List Str} {vs:List V} {i:Nat} {x:Str} {v:V},ns.Nodup->ns[i]?=some x->vs[i]?=some v->(ns.zip vs).lookup x=some v
 |ns,vs,i,x,v,hn,h1,h2=>by
  refine ZW ?_ (zkP h1 h2);exact List.Sublist.nodup (zf7 ns vs) hn
end
section
variable {X:Cx}{cA:Cl}{aq:Nat->Nat->Bool}{aj:Bool}{F:Fn}{EX:XS}{a b:Expr}{A B:E}{pos p tpos:Pos}{elts:List Expr}{kk:Nat}
theorem Vn(hmg:X.mg "enumerate"=none)(qO:JK X "enumerate" .globalImplicit)(hb:JE X cA aq aj F EX b B)(h2:aF b=true:=by rfl):JI X cA aq aj F EX (.Tuple elts kk tpos) (.Call (.Name "enumerate" p) [b] [] pos) (.enum B):=⟨zjZ qO.o hmg hb.o (bC h2)⟩
end
end Mi
namespace Mi
open PySem PySem.Spec PyProof.Rows L2 PySem.W
def zkF{fd:FuncData}{q:Str}{st:Stmt}(h:oF fd=BJ q st):fd=fnOf "__init__" q (aV st) (aL st) (au st) .none fd.kwdefaults fd.doc fd.pyModule fd.annotations fd.code fd.closureTuple:=by
 cases fd;unfold oF BJ at h;cases h;rfl
structure K8(K:Frag)(C:Addr)(q:Str)(st:Stmt):Prop where
 ex:∃(fI:Addr) (od:Option Addr) (kV doc pm:Value) (an:Option Addr) (cdv ct:Value) (osl:Array (Option Value)) (cd:ClassData),
  K.lookup fI=some ⟨.type "function",od,.func (fnOf "__init__" q (aV st) (aL st) (au st) .none kV doc pm an cdv ct),osl⟩/\codeIn K cdv q=true/\uH K C fI=true/\clsIn K C=some cd/\uG cd.mro=true/\cd.hasDict=true
theorem znM{K:Frag}{C:Addr}{q:Str}{st:Stmt}(h:(Il K C).map oF=some (BJ q st)):K8 K C q st:=by
 cases e:Il K C with
 |none=>rw[e] at h;cases h
 |some fd=>
  rw[e] at h;have hp:oF fd=BJ q st:=cJ h;unfold Il at e;split at e
  ·rename_i cd iH;split at e
   ·rename_i f hf;split at e
    ·rename_i od fd' sl hl;split at e
     ·rename_i hc;cases e;simp only[gb] at hc;obtain⟨⟨⟨c1,c2⟩,c3⟩,c4⟩:=hc;have eq:=zkF hp;have qn:fd.qualname=q:=by rw[eq]
      refine⟨⟨f,od,fd.kwdefaults,fd.doc,fd.pyModule,fd.annotations,fd.code,fd.closureTuple,sl,cd,?_,by rw[<-qn];exact c1,c2,iH,c3,c4⟩⟩;rw[<-eq];exact hl
     ·cases e
    ·cases e
   ·cases e
  ·cases e
def zoy{K:Frag}{C:Addr}{f:Str}(h:Ny K C f=true):XF K C f:=by
 unfold Ny at h;simp only[gb,oA] at h;obtain⟨⟨⟨⟨h1,h2⟩,h3⟩,h4⟩,h5⟩:=h;exact⟨h1,h2,h3,h4,h5⟩
structure mW(fs:List (Str×Stmt))(ms:List uJ)(xs:List (Nat×Str))(l:Lk)(K:Frag):Prop where
 fn:∀p∈fs,FnAt K p.1 p.2
 gd:Am l K
 mi:∀m∈ms,K8 K (jg (l.L K) m.c) m.q m.st
 se:∀m∈ms,setB K (jg (l.L K) m.c) m.fs=true
 xf:∀x∈xs,XF K (jg (l.L K) x.1) x.2
theorem Vo{a:Nat}{o:Obj}:∀{l:List Obj} {i:Nat},((a:Addr),o)∈Im i l->i<=a/\l[a-i]?=some o/\o.isFreed=false
 |[],i,h=>by cases h
 |p::r,i,h=>by
  unfold Im at h;split at h
  ·obtain⟨h1,h2,h3⟩:=Vo h;refine⟨by lia,?_,h3⟩;rw[show a-i=(a-(i+1))+1 by lia];exact h2
  ·rename_i hf;rcases iM.mp h with e|h
   ·cases e;exact⟨cj _,by simp,(Bool.or_eq_false_iff.mp hf).1⟩
   ·obtain⟨h1,h2,h3⟩:=Vo h;refine⟨by lia,?_,h3⟩;rw[show a-i=(a-(i+1))+1 by lia];exact h2
def Vp:∀{K:Frag},K.lookup a=some o->(a,o)∈K
 |[],h=>by cases h
 |(b,p)::r,h=>by
  rw[qd] at h;by_cases e:a=b
  ·subst e;simp only[FP] at h;cases h;exact lN
  ·rw[show (a==b)=false by simpa using e] at h;exact iJ _ (Vp h)
theorem zhf:(bV h).In h:=λa o e=>by
 have hm:=Vp e;unfold bV at hm;rcases nW.mp hm with z|z
 ·unfold rA at z;split at z
  ·rename_i p hp;rcases iM.mp z with e|z
   ·cases e;exact hp
   ·cases z
  ·cases z
 ·obtain⟨_,h2,h3⟩:=Vo (List.mem_reverse.mp z);rw[Heap.get?_some_iff];refine⟨?_,h3⟩;have:h.objs.toList[a]?=some o:=by simpa using h2
  simpa using this
end Mi
namespace Mi
open PySem PySem.Spec PyProof.Rows L2
section
variable {K:W.Frag}{cA:Cl}{U:Ph}{H:Hp}
noncomputable def jE(K:W.Frag)(U:Ph)(H:Hp):Bool->Addr->List V->Prop
 |true,a,vs=>LstAt K U H a vs
 |false,a,vs=>TupAt K U H a vs
def jE.sk{kd:Bool}{a:Addr}{vs:List V}(h:jE K U H kd a vs):Sk kd K H a vs:=by
 cases kd
 ·exact TupAt.jC h
 ·exact LstAt.tW h
def jE.later{kd:Bool}{a:Addr}{vs:List V}{U':Ph}{H₁ H':Hp}(hz:∀a∈U.l,U.z a)(h:jE K U H kd a vs)(x:Ext U H U' H₁)(o:cM U' H₁ H'):jE K U' H' kd a vs:=by
 cases kd
 ·exact TupAt.later hz h x o
 ·exact LstAt.later hz h x o
def Vq{xs ys:List D}{i:Nat}:(List.zipWith (λp q=>D.tup [p,q]) xs ys)[i]?=match xs[i]?,ys[i]? with
  |some p,some q=>some (.tup [p,q])
  |_,_=>none:=by
 rw[List.getElem?_zipWith];cases xs[i]?<;>cases ys[i]?<;>rfl
theorem jP.zip{k1 k2:Bool}{l1 l2:Addr}{xs ys:List D}{us vs:List V}(hz:∀a∈U.l,U.z a)(h1:jE K U H k1 l1 us)(h2:jE K U H k2 l2 vs)(r1:aC K cA U H xs us)(r2:aC K cA U H ys vs):jP K cA (.fix (List.zipWith (λp q=>D.tup [p,q]) xs ys)) U H (TF K k1 k2 l1 l2):=by
 refine⟨λU' H₁ H' s' i x o hS e=>?_,λU' H₁ H' s' i d x o hS e=>?_,λU' H₁ H' s' i d v H2 x o hS e y=>?_⟩
 ·have e:(List.zipWith (λp q=>D.tup [p,q]) xs ys)[i]?=none:=cJ e;rw[Vq] at e;refine⟨us,vs,(h1.later hz x o).sk,(h2.later hz x o).sk,?_⟩;cases ex:xs[i]? with
  |none=>exact .inl (qZ.mp (r1.none ex))
  |some p=>
   cases ey:ys[i]? with
   |none=>exact .inr (qZ.mp (r2.none ey))
   |some q=>rw[ex,ey] at e;cases e
 ·have e:(List.zipWith (λp q=>D.tup [p,q]) xs ys)[i]?=some d:=cJ e;rw[Vq] at e;cases ex:xs[i]? with
  |none=>rw[ex] at e;cases e
  |some p=>
   cases ey:ys[i]? with
   |none=>rw[ex,ey] at e;cases e
   |some q=>
    obtain⟨u,q1,_⟩:=r1.get ex;obtain⟨v,q2,_⟩:=r2.get ey;exact⟨us,vs,u,v,(h1.later hz x o).sk,(h2.later hz x o).sk,q1,q2⟩
 ·have e:(List.zipWith (λp q=>D.tup [p,q]) xs ys)[i]?=some d:=cJ e;rw[Vq] at e;cases ex:xs[i]? with
  |none=>rw[ex] at e;cases e
  |some p=>
   cases ey:ys[i]? with
   |none=>rw[ex,ey] at e;cases e
   |some q=>
    rw[ex,ey] at e;cases e;obtain⟨a,u,w,hn,rfl,rfl,hu,hw⟩:=y;obtain⟨u',q1,ru⟩:=((r1.mono x hz).out o).get ex;obtain⟨w',q2,lR⟩:=((r2.mono x hz).out o).get ey;have e1:=hu us (h1.later hz x o).sk;have e2:=hw vs (h2.later hz x o).sk;rw[q1] at e1;rw[q2] at e2;cases e1;cases e2;have g:bJ H' (upd H' a (.tup [u,w])):=bJ.new hn;exact⟨g,.tup (.inl ⟨.inl iQ,hS.nz hn⟩) (.cons (ru.mono g.ext hS.lz) (.cons (lR.mono g.ext hS.lz) .nil))⟩
theorem zeE(r:aW K cA U H x v)(h:Run K cA (M.bd (qI x) k) U H s P Ee) :
  ∃xs kd a vs,v=.ref a/\jE K U H kd a vs/\aC K cA U H xs vs/\Run K cA (k xs) U H s P Ee:=by
 cases r with
 |l _=>exact h.elim
 |d r=>
  cases r with
  |tup q r=>exact⟨_,false,_,_,rfl,q,r,h⟩
  |fl q r=>exact⟨_,true,_,_,rfl,q,r,h⟩
  |_=>exact h.elim
end
section
variable {X:Cx}{cA:Cl}{aq:Nat->Nat->Bool}{aj:Bool}{F:Fn}{EX:XS}{a b:Expr}{A B:E}{pos pp tpos:Pos}{elts:List Expr}{kk:Nat}
theorem zmX(qO:Gl X "zip")(hmg:X.mg "zip"=none)(ha:SE X cA aq aj F EX a A)(hb:SE X cA aq aj F EX b B)(h1:starEach [a,b] X.env=(false,eval a X.env)::starEach [b] X.env)(h2:starEach [b] X.env=(false,eval b X.env)::starEach [] X.env) :
  SI X cA aq aj F EX (.Tuple elts kk tpos) (.Call (.Name "zip" pp) [a,b] [] pos) (.zip A B):=PI.weak (zmz qO hmg (sY ha (sY hb xX h2) h1) (by rw[h1,h2];rfl) (by rw[h2];rfl)) λZ H R hh=>un hh λU J s hL hS h=>by
 refine bw hL hS h λx H1 U1 d1 s1 x1 hL1 aJ r1 h1=>bw hL1 aJ h1 λy H2 U2 d2 s2 x2 hL2 aU r2 h2=>?_;obtain⟨xs,k1,l1,us,e1,q1,p1,h3⟩:=zeE (r1.mono x2 aJ.lz) h2;obtain⟨ys,k2,l2,vs,e2,q2,p2,h4⟩:=zeE r2 h3;subst e1 e2;exact⟨k1,k2,l1,l2,us,vs,rfl,q1.sk,q2.sk,(h4.bN aU) _ (jP.zip aU.lz q1 q2 p1 p2)⟩
theorem zoc(hmg:X.mg "zip"=none)(qO:JK X "zip" .globalImplicit)(ha:JE X cA aq aj F EX a A)(hb:JE X cA aq aj F EX b B)(h1:aF a=true:=by rfl)(h2:aF b=true:=by rfl):JI X cA aq aj F EX (.Tuple elts kk tpos) (.Call (.Name "zip" p) [a,b] [] pos) (.zip A B):=⟨zmX qO.o hmg ha.o hb.o (bC h1) (bC h2)⟩
end
theorem zfH:∀k,k<=is.length->(i::is).getD (argBest (λa b=>bt ((i::is).getD a 0) ((i::is).getD b 0)) k) 0=best bt i (is.take k)
 |0,_=>rfl
 |k+1,hk=>by
  have ih:=zfH (bt:=bt) (i:=i) (is:=is) k gV;have hg:is[k]?=some (is[k]' gV):=dH gV;have ht:is.take (k+1)=is.take k++[is[k]' gV]:=MP gV;have hv:(i::is).getD (k+1) 0=is[k]' gV:=by
   rw[jT,Bf,hg];rfl
  unfold best at ih ⊢;rw[ht,List.foldl_append,Nr,List.foldl_nil,<-ih];rw[argBest.eq_2];generalize argBest (λa b=>bt ((i::is).getD a 0) ((i::is).getD b 0)) k=m;rw[hv];by_cases hb:bt (is[k]' gV) ((i::is).getD m 0)=true
  ·rw[if_pos hb,if_pos hb,hv]
  ·rw[if_neg hb,if_neg hb]
def zjJ{bt:Int->Int->Bool}{i:Int}{is:List Int}:(i::is).getD (argBest (λa b=>bt ((i::is).getD a 0) ((i::is).getD b 0)) is.length) 0=best bt i is:=by
 rw[zfH is.length (cj _),Bp]
section
variable {K:W.Frag}{cA:Cl}{U:Ph}{H:Hp}
theorem zca:∀{xs:List D} {is:List Int} {vs:List V},gA xs=some is->aC K cA U H xs vs->vs=is.map V.int
 |[],is,vs,h,r=>by cases h;cases r;rfl
 |d::xs,is,vs,h,r=>by
  cases d with
  |int b=>
   simp only[gA,lB] at h;obtain⟨bs',h1,rfl⟩:=h;cases r with
   |cons q r=>cases q;rw[zca h1 r];rfl
  |_=>simp[gA] at h
theorem zj8(hp:prim p=rR bt):bK K cA p (λxs H Q=>∃(a:Addr) (i:Int) (is:List Int),xs=[.ref a]/\(cY K H a ((i::is).map V.int)\/gw K H a ((i::is).map V.int))/\Q (.int (best bt i is)) H):=by
 intro U H ds vs Q zt rs o;rw[hp] at o;unfold rR at o;split at o
 ·rename_i a;obtain⟨v,rfl,rv⟩:=rs.one;cases e0:lV a with
  |none=>rw[e0] at o;exact o.elim
  |some xs=>
   rw[e0] at o;obtain⟨ad,us,rfl,l,q⟩:=Rv.sq rv e0;cases e1:gA xs with
   |none=>
    simp only[Nm,e1,rQ] at o;exact o.elim
   |some js=>
    cases js with
    |nil=>
     simp only[Nm,e1,rQ] at o;exact o.elim
    |cons i is=>
     simp only[Nm,e1,rQ] at o;exact⟨ad,i,is,rfl,by rw[<-zca e1 q];exact l,(o.of rfl).here (.int _)⟩
 ·exact o.elim
end
section
variable {X:Cx}
theorem Vr{js:List Int}{its:List Value}(rv:Vals (js.map V.int) its){i:Nat}{v:Value}(hP:its.toArray[i]?=some v):∃t,v=.int (js.getD i 0) t:=by
 have hi:its[i]?=some v:=by simpa using hP
 have cg:i<its.length:=(eG.mp hi).1;have z:=rv.length;rw[cZ] at z;have hb:js[i]?=some (js[i]' gV):=dH gV;obtain⟨u,e1,e2⟩:=rv.get (i:=i) (x:=V.int (js[i]' gV)) (by rw[iG,hb];rfl);rw[hi] at e1;cases e1;obtain⟨t,e⟩:=e2;exact⟨t,by rw[e,jT,hb];rfl⟩
theorem zf3(hc:X.aj=true):cW X (.builtin "max") (λxs H Q=>∃(a:Addr) (i:Int) (is:List Int),xs=[.ref a]/\(cY X.K H a ((i::is).map V.int)\/gw X.K H a ((i::is).map V.int))/\Q (.int (best (λa b=>decide (a>b)) i is)) H):=by
 intro ao s Z H xs us Q I r ⟨p,i,is,e,hp,q⟩;subst e;obtain⟨u,rfl,ru⟩:=Vals.one r;cases (show u=Value.ref p from ru);have fin:∀{its:List Value},Vals ((i::is).map V.int) its->∀{v:Value} {h':Heap} {tk:Nat},its.toArray[argBest (λa b=>decide ((i::is).getD a 0>(i::is).getD b 0)) (its.toArray.size-1)]?=some v->(∀b o,s.heap.get? b=some o->h'.get? b=some o)->EP X ao Z Q v {s with heap:=h',toks:=tk}:=by
  intro its rv v h' tk hP hk;have z:is.length+1=its.length:=by have:=rv.length;rw[cZ] at this;exact this
  have en:its.toArray.size-1=is.length:=by rw[eY];lia
  rw[en] at hP;obtain⟨t,ev⟩:=Vr rv hP;rw[zjJ (bt:=λa b=>decide (a>b))] at ev;exact⟨.int (best (λa b=>decide (a>b)) i is),H,I.kept (h':=h') (t':=tk) hk,⟨t,ev⟩,q⟩
 rcases hp with hp|hp
 ·obtain⟨its,rv,pl,hz⟩:=I.list hp;have hl:s.heap.IsList p its.toArray:=pl.isList;have cg:p<s.heap.objs.size:=by
   obtain⟨o,hg,_⟩:=hl;exact bR hg
  have z:is.length+1=its.length:=by have:=rv.length;rw[cZ] at this;exact this
  refine call_max_walk (HJ hl ?_);refine⟨_,_,_,_,_,_,_,rfl,Walks.list (A:=X.A.in1) (I.ok.hd hc) _ p (cV cg) its.toArray,⟨⟨_,dX _ rfl,rfl,rfl⟩,hl.push _⟩,?_,by rw[eY];lia,CmpOf.ints_gt (λj=>(i::is).getD j 0) (λ_ _=>Vr rv),λv h' tk hP hk=>fin rv hP (old_kept hk)⟩;intro b hb;show b<(s.heap.push _).objs.size;rw[uf];simp only[iM,List.not_mem_nil,or_false] at hb;rcases hb with e|e
  ·exact e▸Bl _
  ·exact e▸q_ cg
 ·obtain⟨its,rv,pl,hz⟩:=I.tuple hp;have hl:s.heap.IsTuple p its.toArray:=pl;have cg:p<s.heap.objs.size:=by
   obtain⟨o,hg,_⟩:=hl;exact bR hg
  have z:is.length+1=its.length:=by have:=rv.length;rw[cZ] at this;exact this
  refine call_max_walk (wpAny_pyIter_tuple hl ?_);refine⟨_,_,_,_,_,_,_,rfl,Walks.tuple (A:=X.A.in1) (I.ok.hd hc) _ p (cV cg) its.toArray,⟨⟨_,dX _ rfl,rfl,rfl⟩,hl.push _⟩,?_,by rw[eY];lia,CmpOf.ints_gt (λj=>(i::is).getD j 0) (λ_ _=>Vr rv),λv h' tk hP hk=>fin rv hP (λb o e=>hk b o (by simpa using cV (bR e)) (cD _ e))⟩;intro b hb;show b<(s.heap.push _).objs.size;rw[uf];simp only[iM,List.not_mem_nil,or_false] at hb;rcases hb with e|e
  ·exact e▸Bl _
  ·exact e▸q_ cg
end
section
variable {X:Cx}{cA:Cl}{aq:Nat->Nat->Bool}{aj:Bool}{F:Fn}{EX:XS}{e:Expr}{pos p:Pos}{es:List Expr}{Xs:Es}{fz:Bool}
theorem zmc(hc:X.aj=true)(hm:X.mg "max"=none)(hg:JK X "max" .globalImplicit)(ha:JA X cA aq aj F EX (e::es) Xs)(he:aF e=true:=by rfl)(hpl:es.all aF=true:=by rfl):JE X cA aq aj F EX (.Call (.Name "max" p) (e::es) [] pos) (.pr fz .u_ Xs):=⟨yF (zf3 hc) (zj8 rfl) hg.o hm PyProof.Rows.boot_max ha.o Tv Tv (bC he) (bH hpl)⟩
end
noncomputable def G_(i:Int)(n:Nat):List V:=(List.range n).map λk=>.int (i+(k:Nat))
theorem zjn{i:Int}{acc:Array Value}:∀{n m:Nat},(∀k v,acc.toList[k]?=some (v:Value)->∃t,v=Value.int (i+((m+k:Nat):Int)) t)->acc.toList.length=n->Vals ((List.range n).map λk=>V.int (i+((m+k:Nat):Int))) acc.toList:=by
 generalize acc.toList=l
 induction l with
 |nil=>intro n m _ e;subst e;exact .nil
 |cons v l ih=>
  intro n m h e;subst e;rw[iu,QZ,jx,Ib];refine .cons (h 0 v rfl) ?_;have:=ih (n:=l.length) (m:=m+1) (λk v e=>by
   have:=h (k+1) v e;rw[show m+1+k=m+(k+1) by lia];exact this) rfl
  have e:((λk=>V.int (i+((m+k:Nat):Int)))∘Nat.succ)=λk=>V.int (i+((m+1+k:Nat):Int)):=by
   funext k
   show V.int (i+((m+(k+1):Nat):Int))=_;rw[show m+(k+1)=m+1+k by lia]
  rw[e];exact this
section
variable {K:W.Frag}{cA:Cl}{U:Ph}{H:Hp}
def zfY:∀l:List Nat,aC K cA U H (l.map λk=>D.int (i+(k:Nat))) (l.map λk=>V.int (i+(k:Nat)))
 |[]=>.nil
 |_::l=>.cons (.int _) (zfY l)
end
end Mi
namespace Mi
open PySem PySem.Spec PyProof.Rows L2 PySem.W
def D_{K:W.Frag}{fd:FuncData}{p q t u v:Str}(h:∀a b c d e,bindArgs fd ⟨[a,b,c,d,e],[]⟩=pure [(p,a),(q,b),(t,c),(u,d),(v,e)]):Binds K fd [p,q,t,u,v] []:=.all λus hl=>by
 match us,hl with
 |[a,b,c,d,e],_=>exact h a b c d e
theorem yU{K:Frag}{x:Str}{st:Stmt}{f:Addr}{fd:FuncData}{p q t u v:Str}(F:n8 K x x st f fd)(h:∀(kV doc pm:Value) (an:Option Addr) (cdv ct a b c d e:Value),bindArgs (fnOf x x (aV st) (aL st) (au st) .none kV doc pm an cdv ct) ⟨[a,b,c,d,e],[]⟩=pure [(p,a),(q,b),(t,c),(u,d),(v,e)]):Binds K fd [p,q,t,u,v] []:=by
 obtain⟨oc,od,kV,doc,pm,an,cdv,ct,osl,rfl,lk,iH⟩:=F.ex;exact D_ (h kV doc pm an cdv ct)
structure D3(K:Frag)(mg:Str->Option Value)(x:Str)(st:Stmt)(ps:List Str):Prop where
 f:n8 K x x st (fZ K x) (fdOf K x st)
 m:mg x=some (.ref (fZ K x))
 b:Binds K (fdOf K x st) ps []
def dk{p:Prop}(h:p:=by decide +kernel):p:=h
section
variable {fs:List (Str×Stmt)}{ms:List uJ}{xs:List (Nat×Str)}{lk:Lk}{K:Frag}{h:Heap}{mg:Str->Option Value}{x:Str}{st:Stmt}
theorem sy(S:mW fs ms xs lk K)(X:K.In h)(G:h.Ns mainGlobals mg)(j:Nat)(hj:fs[j]?=some (x,st):=by rfl)(hb:∀(kV doc pm:Value) (an:Option Addr) (cdv ct a:Value),bindArgs (fnOf x x (aV st) (aL st) (au st) .none kV doc pm an cdv ct) ⟨[a],[]⟩=pure [(p,a)]:=by intros;rfl):D3 K mg x st [p]:=have F:=S.fn (x,st) (fG hj);⟨F.fn,F.m X G,yO F.fn hb⟩
theorem lK(S:mW fs ms xs lk K)(X:K.In h)(G:h.Ns mainGlobals mg)(j:Nat)(hj:fs[j]?=some (x,st):=by rfl)(hb:∀(kV doc pm:Value) (an:Option Addr) (cdv ct a b:Value),bindArgs (fnOf x x (aV st) (aL st) (au st) .none kV doc pm an cdv ct) ⟨[a,b],[]⟩=pure [(p,a),(q,b)]:=by intros;rfl):D3 K mg x st [p,q]:=have F:=S.fn (x,st) (fG hj);⟨F.fn,F.m X G,yP F.fn hb⟩
theorem ur(S:mW fs ms xs lk K)(X:K.In h)(G:h.Ns mainGlobals mg)(j:Nat)(hj:fs[j]?=some (x,st):=by rfl)(hb:∀(kV doc pm:Value) (an:Option Addr) (cdv ct a b c:Value),bindArgs (fnOf x x (aV st) (aL st) (au st) .none kV doc pm an cdv ct) ⟨[a,b,c],[]⟩=pure [(p,a),(q,b),(t,c)]:=by intros;rfl):D3 K mg x st [p,q,t]:=have F:=S.fn (x,st) (fG hj);⟨F.fn,F.m X G,yQ F.fn hb⟩
theorem zpr(S:mW fs ms xs lk K)(X:K.In h)(G:h.Ns mainGlobals mg)(j:Nat)(hj:fs[j]?=some (x,st):=by rfl)(hb:∀(kV doc pm:Value) (an:Option Addr) (cdv ct a b c d:Value),bindArgs (fnOf x x (aV st) (aL st) (au st) .none kV doc pm an cdv ct) ⟨[a,b,c,d],[]⟩=pure [(p,a),(q,b),(t,c),(u,d)]:=by intros;rfl):D3 K mg x st [p,q,t,u]:=have F:=S.fn (x,st) (fG hj);⟨F.fn,F.m X G,yR F.fn hb⟩
theorem zpm{p q t u v:Str}(S:mW fs ms xs lk K)(X:K.In h)(G:h.Ns mainGlobals mg)(j:Nat)(hj:fs[j]?=some (x,st):=by rfl)(hb:∀(kV doc pm:Value) (an:Option Addr) (cdv ct a b c d e:Value),bindArgs (fnOf x x (aV st) (aL st) (au st) .none kV doc pm an cdv ct) ⟨[a,b,c,d,e],[]⟩=pure [(p,a),(q,b),(t,c),(u,d),(v,e)]:=by intros;rfl):D3 K mg x st [p,q,t,u,v]:=have F:=S.fn (x,st) (fG hj);⟨F.fn,F.m X G,yU F.fn hb⟩
def mG{α:Type}{l:List α}{a:α}(j:Nat)(h:l[j]?=some a:=by rfl):a∈l:=fG h
end
end Mi
namespace Mi
open PySem
def W{α:Type}(m:M α)(s:S)(P:α->S->Prop):Prop:=∃a s',m s=some (.ok a,s')/\P a s'
def WS(m:MS)(s:S)(Q:Out->S->Prop):Prop:=∃o s',m s=some (o,s')/\Q o s'
section
variable {α β:Type}{m:M α}{k:α->M β}{s:S}{P:α->S->Prop}{R:β->S->Prop}
def W.bd(h:W m s λa s'=>W (k a) s' R):W (M.bd m k) s R:=by
 obtain⟨a,s',e,b,s2,e2,r⟩:=h;exact⟨b,s2,by unfold M.bd;rw[e];exact e2,r⟩
def W.ret{a:α}(h:P a s):W (M.ret a) s P:=⟨a,s,rfl,h⟩
def W.qt(h:W m s P):W (M.qt m) s P:=by
 obtain⟨a,s',e,p⟩:=h;exact⟨a,s',by unfold M.qt;rw[e],p⟩
def W.opt(e:o=some a)(h:P a s):W (M.opt o) s P:=by subst e;exact⟨a,s,rfl,h⟩
def W.imp{P':α->S->Prop}(h:W m s P)(f:∀a s',P a s'->P' a s'):W m s P':=let ⟨a,s',e,p⟩:=h;⟨a,s',e,f a s' p⟩
def W.eq(e:m s=some (.ok a,s'))(p:P a s'):W m s P:=⟨a,s',e,p⟩
def Ka0{d:D}{P:D->S->Prop}(h:P d s):W (rd (.d d)) s P:=⟨d,s,rfl,h⟩
def Ka1{n:Nat}{xs:List D}{P:D->S->Prop}(e:s[n]?=some (.lst xs))(h:P (.fl xs) s):W (rd (.l n)) s P:=⟨.fl xs,s,by unfold rd;simp only[e],h⟩
def Ka3{P:List D->S->Prop}(h:P [] s):W (g8 []) s P:=⟨[],s,rfl,h⟩
def Ka2{x:Xv}{r:List Xv}{P:List D->S->Prop}(h:W (rd x) s λd s1=>W (g8 r) s1 λds s2=>P (d::ds) s2):W (g8 (x::r)) s P:=W.bd (h.imp λd s1 h1=>W.bd (h1.imp λds s2 h2=>W.ret h2))
def Kav{P:List D->S->Prop}(h:P [] s):W (cL []) s P:=⟨[],s,rfl,h⟩
def Kau{d:D}{r:List Xv}{P:List D->S->Prop}(h:W (cL r) s λds s2=>P (d::ds) s2):W (cL (.d d::r)) s P:=W.bd (W.ret (W.bd (h.imp λds s2 h2=>W.ret h2)))
def W.dat{x:D}{P:D->S->Prop}(h:P x s):W (dat (.d x)) s P:=⟨x,s,rfl,h⟩
def W.bool{b:Bool}{P:Bool->S->Prop}(h:P b s):W (bool (.d (.bl b))) s P:=⟨b,s,rfl,h⟩
def W.int{b:Int}{P:Int->S->Prop}(h:P b s):W (int (.d (.int b))) s P:=⟨b,s,rfl,h⟩
def eF{fz:Bool}{o:Option Rz}{d:D}{P:Xv->S->Prop}(e:o=some (.dat d))(h:P (.d d) s):W (cH fz o) s P:=by subst e;exact⟨_,s,rfl,h⟩
def Pq{o:Option Rz}{xs:List D}{P:Xv->S->Prop}(e:o=some (.nw xs))(h:P (.d (.fl xs)) s):W (cH true o) s P:=by subst e;exact⟨_,s,rfl,h⟩
def KaQ{xs:List D}{P:Xv->S->Prop}(h:P (.d (.fl xs)) s):W (newL true xs) s P:=⟨_,s,rfl,h⟩
def KaP{xs:List D}{P:Xv->S->Prop}(h:P (.l s.length) (s++[.lst xs])):W (newL false xs) s P:=⟨_,_,rfl,h⟩
theorem jQ{F:List Xv->M Xv}{xs:List Xv}{P:Xv->S->Prop}(hl:locs xs=[])(h:W (F (dN 0 xs)) [] λv _=>∃d,v=.d d/\P (.d d) s):W (cO F xs) s P:=by
 obtain⟨v,s1,e,d,rfl,p⟩:=h;refine⟨.d d,s,?_,p⟩;unfold cO;rw[hl,if_pos Bs];simp only[jN,e,dz]
theorem Kam{F:List Xv->M Xv}{xs:List Xv}{P:Xv->S->Prop}(hl:locs xs=[])(h:W (F (dN 0 xs)) [] λv s1=>∃n o,v=.l n/\s1[n]?=some o/\P (.l s.length) (s++[o])):W (cO F xs) s P:=by
 obtain⟨v,s1,e,n,o,rfl,eo,p⟩:=h;refine⟨.l s.length,s++[o],?_,p⟩;unfold cO;rw[hl,if_pos Bs];simp only[jN,e,dz,List.getElem?_nil,eo]
theorem Vt{F:List Xv->M Xv}{xs:List Xv}{n:Nat}{o:SO}{P:Xv->S->Prop}(hl:locs xs=[n])(ho:s[n]?=some o)(h:W (F (dN 0 xs)) [o] λv s1=>∃d o',v=.d d/\s1=[o']/\P (.d d) (s.set n o')):W (cO F xs) s P:=by
 obtain⟨v,s1,e,d,o',rfl,rfl,p⟩:=h;refine⟨.d d,s.set n o',?_,p⟩;unfold cO;rw[hl,if_pos Zaa];simp only[jN,ho,e,dz]
end
section
variable {s:S}{Q:Out->S->Prop}
def WS.ofM(h:W m s λa s'=>WS (k a) s' Q):WS (Mi.ofM m J k) s Q:=by
 obtain⟨a,s',e,o,s2,e2,q⟩:=h;exact⟨o,s2,by unfold Mi.ofM;rw[e];exact e2,q⟩
def WS.nx(h:Q (.nx J) s):WS (λs=>some (.nx J,s)) s Q:=⟨_,s,rfl,h⟩
def WS.rt(h:Q (.rt x) s):WS (λs=>some (.rt x,s)) s Q:=⟨_,s,rfl,h⟩
def WS.imp(h:WS m s Q)(f:∀o s',Q o s'->Q' o s'):WS m s Q':=let ⟨a,s',e,p⟩:=h;⟨a,s',e,f a s' p⟩
end
theorem W.call(hT:T f=some d)(hl:xs.length=d.iz)
  (h:WS (exs aq aj (λc=>Mi.call aq T k c) d.body (xs.map some++List.replicate (d.many-d.iz) none)) s λo s'=>match o with|.nx _=>P (.d .non) s'|.rt v=>P v s'|_=>False):W (Mi.call aq T (k+1) aj f xs) s P:=by
 obtain⟨o,s',e,q⟩:=h;unfold Mi.call;simp only[hT,if_pos hl];unfold W;simp only[e];cases o with
 |nx J=>exact⟨_,_,rfl,q⟩
 |rt v=>exact⟨_,_,rfl,q⟩
 |bk J=>exact q.elim
 |ct J=>exact q.elim
 |er c fs J=>exact q.elim
theorem Hg(I:Nat->Vs->S->Prop)(h0:I 0 J s)(hb:∀i x J s,c[i]?=some x->I i J s->WS (b x J) s λo s'=>∃J',o=.nx J'/\I (i+1) J' s')
  (he:∀J s,I c.length J s->Q (.nx J) s):WS (dO (.fix c) b (c.length+1) 0 J) s Q:=by
 have key:∀n i J s,i+n=c.length->I i J s->WS (dO (.fix c) b (n+1) i J) s Q:=by
  intro n
  induction n with
  |zero=>
   intro i J s hi hI;have e:c[i]?=none:=by rw[qZ];lia
   have:i=c.length:=by lia
   subst this;refine⟨_,s,?_,he J s hI⟩;unfold dO;simp only[Src.at,e]
  |succ n ih=>
   intro i J s hi hI;have cg:i<c.length:=by lia
   have e:c[i]?=some c[i]:=dH cg;obtain⟨o,s',eb,J',rfl,Ed⟩:=hb i c[i] J s e hI;obtain⟨o2,s2,e2,q⟩:=ih (i+1) J' s' gV Ed;refine⟨o2,s2,?_,q⟩;unfold dO;simp only[Src.at,e,eb];exact e2
 exact key c.length 0 J s gV h0
def zoz{i j:Int}(h:(-(2^64)<i/\i<2^64)\/(-(2^64)<j/\j<2^64)):prim .mul [.int i,.int j]=some (.dat (.int (i*j))):=by
 show Option.map _ (if _ then _ else _)=_;rw[if_pos h];rfl
def znK{i j:Int}(h:0<j):prim .mod [.int i,.int j]=some (.dat (.int (i%j))):=by
 show Option.map _ (if _ then _ else _)=_;rw[if_pos h];rfl
def zlf{i j:Int}(h:0<j/\j<1073741824):prim .fdiv [.int i,.int j]=some (.dat (.int (i/j))):=by
 show Option.map _ (if _ then _ else _)=_;rw[if_pos h];rfl
def zid{i j:Int}(h:0<j/\j<1073741824):prim .divmod [.int i,.int j]=some (.dat (.tup [.int (i/j),.int (i%j)])):=by
 show Option.map _ (if _ then _ else _)=_;rw[if_pos h];rfl
def znS{i j:Int}(h:0<=j/\j<=1000000/\i.natAbs<2^64):prim .pow [.int i,.int j]=some (.dat (.int (i^j.toNat))):=by
 show Option.map _ (if _ then _ else _)=_;rw[if_pos h];rfl
theorem Pu{xs:List D}{i:Nat}{x:D}(h:xs[i]?=some x):prim .ix [.fl xs,.int i]=some (.dat x):=by
 show Option.map Rz.dat (L2.rG xs i)=_;have:L2.rG xs (i:Int)=some x:=by
  unfold L2.rG L2.tH;have hl:i<xs.length:=(eG.mp h).1;simp[hl];exact(eG.mp h).2
 rw[this];rfl
def ziY(h:xs.length+ys.length<=sizeLine):prim .add [.fl xs,.fl ys]=some (.nw (xs++ys)):=by
 show (if _ then _ else _)=_;rw[if_pos h]
def W.ite[Decidable c](h1:c->W m1 s P)(h2:¬c->W m2 s P):W (if c then m1 else m2) s P:=by
 by_cases h:c
 ·rw[if_pos h];exact h1 h
 ·rw[if_neg h];exact h2 h
def WS.ite[Decidable c](h1:c->WS m1 s P)(h2:¬c->WS m2 s P):WS (if c then m1 else m2) s P:=by
 by_cases h:c
 ·rw[if_pos h];exact h1 h
 ·rw[if_neg h];exact h2 h
def Vu{n:Nat}{xs:List D}{s:S}{P:Unit->S->Prop}(h:P () (s.set n (.lst xs))):W (putL n xs) s P:=⟨_,_,rfl,h⟩
def W.dh{n:Nat}{xs:List D}{s:S}{P:Nat×List D->S->Prop}(e:s[n]?=some (.lst xs))(h:P (n,xs) s):W (dh (.l n)) s P:=⟨_,s,by unfold Mi.dh;simp only[e],h⟩
def Ka5{xs:List D}{s:S}{P:Src×Nat->S->Prop}(h:P (.fix xs,xs.length) s):W (src (.d (.tup xs))) s P:=⟨_,s,rfl,h⟩
def Ka4{xs:List D}{s:S}{P:Src×Nat->S->Prop}(h:P (.fix xs,xs.length) s):W (src (.d (.fl xs))) s P:=⟨_,s,rfl,h⟩
def WS.nil{aq:Nat->Nat->Bool}{aj:Bool}{F:Bool->Fn}{J:Vs}{s:S}{Q:Out->S->Prop}(h:Q (.nx J) s):WS (exs aq aj F .nil J) s Q:=⟨_,s,rfl,h⟩
theorem WS.cons{aq:Nat->Nat->Bool}{aj:Bool}{F:Bool->Fn}{a:St}{r:bT}{J:Vs}{s:S}{Q:Out->S->Prop}(h:WS (ex aq aj F a J) s λo s'=>match o with|.nx J'=>WS (exs aq aj F r J') s' Q|.rt x=>Q (.rt x) s'|_=>False):WS (exs aq aj F (.cons a r) J) s Q:=by
 obtain⟨o,s',e,q⟩:=h;unfold WS exs Mi.cP;rw[e];cases o with
 |nx J'=>exact q
 |rt x=>exact⟨_,_,rfl,q⟩
 |bk _=>exact q.elim
 |ct _=>exact q.elim
 |er _ _ _=>exact q.elim
def wU{α:Type}(o:Option α)(P:α->Prop):Prop:=∃a,o=some a/\P a
def wU.mk{α:Type}{o:Option α}{P:α->Prop}{a:α}(e:o=some a)(h:P a):wU o P:=⟨a,e,h⟩
section
variable {aq:Nat->Nat->Bool}{aj:Bool}{F:Fn}{J:Vs}{s:S}{P:Xv->S->Prop}
def W.eC{d:D}(h:P (.d d) s):W (ev aq aj F (.c d) J) s P:=W.ret h
def W.eV{i:Nat}{x:Xv}(e:J[i]?.join=some x)(h:P x s):W (ev aq aj F (.v i) J) s P:=W.opt e h
def KaG{fz:Bool}{p:Pr}{xs:Es}(h:W (evs aq aj F xs J) s λvs s1=>W (g8 vs) s1 λds s2=>W (cH fz (prim p ds)) s2 P):W (ev aq aj F (.pr fz p xs) J) s P:=W.bd (h.imp λ_ _ h=>W.bd h)
def Kax{a b:E}(h:W (ev aq aj F a J) s λx s1=>W (Mi.bool x) s1 λk s2=>W (if k=true then ev aq aj F b J else M.ret (.d (.bl false))) s2 P):W (ev aq aj F (.and a b) J) s P:=W.bd (h.imp λ_ _ h=>W.bd h)
def KaF{a b:E}(h:W (ev aq aj F a J) s λx s1=>W (Mi.bool x) s1 λk s2=>W (if k=true then M.ret (.d (.bl true)) else ev aq aj F b J) s2 P):W (ev aq aj F (.or a b) J) s P:=W.bd (h.imp λ_ _ h=>W.bd h)
def KaE{a:E}(h:W (ev aq aj F a J) s λx s1=>W (Mi.bool x) s1 λk s2=>P (.d (.bl (!k))) s2):W (ev aq aj F (.not a) J) s P:=W.bd (h.imp λ_ _ h=>W.bd (h.imp λ_ _ h=>W.ret h))
def KaI{xs:Es}(h:W (evs aq aj F xs J) s λvs s1=>W (cL vs) s1 λds s2=>P (.d (.tup ds)) s2):W (ev aq aj F (.tup xs) J) s P:=W.bd (h.imp λ_ _ h=>W.bd (h.imp λ_ _ h=>W.ret h))
def KaD{fz:Bool}{xs:Es}(h:W (evs aq aj F xs J) s λvs s1=>W (cL vs) s1 λds s2=>W (newL fz ds) s2 P):W (ev aq aj F (.lst fz xs) J) s P:=W.bd (h.imp λ_ _ h=>W.bd h)
def KaA{k:Str}{i:Int}(h:P (.d (.fd [.str k] [.int i])) s):W (ev aq aj F (.J8 k i) J) s P:=W.ret h
def Kay{f:Nat}{xs:Es}(h:W (evs aq aj F xs J) s λvs s1=>W (cO (F f) vs) s1 P):W (ev aq aj F (.call f xs) J) s P:=W.bd h
theorem KaH{fz:Bool}{a:E}{lo hi:Eo}(h:W (ev aq aj F a J) s λx s1=>W (yx aq aj F lo J) s1 λl s2=>W (yx aq aj F hi J) s2 λu s3=>W (rd x) s3 λd s4=>W (cH fz (cutD d l u)) s4 P):W (ev aq aj F (.sl fz a lo hi) J) s P:=W.bd (h.imp λ_ _ h=>W.bd (h.imp λ_ _ h=>W.bd (h.imp λ_ _ h=>W.bd h)))
def KaR{P:Option Int->S->Prop}(h:P none s):W (yx aq aj F .no J) s P:=W.ret h
def KaS{a:E}{P:Option Int->S->Prop}(h:W (ev aq aj F a J) s λx s1=>W (Mi.int x) s1 λi s2=>P (some i) s2):W (yx aq aj F (.yes a) J) s P:=W.bd (h.imp λ_ _ h=>W.bd (h.imp λ_ _ h=>W.ret h))
def Kai{P:List Xv->S->Prop}(h:P [] s):W (evs aq aj F .nil J) s P:=W.ret h
def Kah{a:E}{r:Es}{P:List Xv->S->Prop}(h:W (ev aq aj F a J) s λx s1=>W (evs aq aj F r J) s1 λxs s2=>P (x::xs) s2):W (evs aq aj F (.cons a r) J) s P:=W.bd (h.imp λ_ _ h=>W.bd (h.imp λ_ _ h=>W.ret h))
def KaN{a:E}{P:Src×Nat->S->Prop}(h:W (ev aq aj F a J) s λx s1=>W (src x) s1 P):W (je aq aj F (.seq a) J) s P:=W.bd h
end
section
variable {aq:Nat->Nat->Bool}{aj:Bool}{F:Bool->Fn}{J:Vs}{s:S}{Q:Out->S->Prop}
def WS.Vv{b:Bool}{m1 m2:MS}(e:b=true)(h:WS m1 s Q):WS (if b=true then m1 else m2) s Q:=by rw[if_pos e];exact h
def WS.Px{b:Bool}{m1 m2:MS}(e:b=false)(h:WS m2 s Q):WS (if b=true then m1 else m2) s Q:=by rw[if_neg (by rw[e];decide)];exact h
def WS.Ao{m1 m2:MS}(h:WS m1 s Q):WS (if true=true then m1 else m2) s Q:=by rw[if_pos rfl];exact h
def WS.Vw{m1 m2:MS}(h:WS m2 s Q):WS (if false=true then m1 else m2) s Q:=by rw[if_neg Tv];exact h
def Kbc{e:E}(h:W (ev aq aj (F aj) e J) s λ_ s1=>Q (.nx J) s1):WS (ex aq aj F (.ex e) J) s Q:=WS.ofM (h.imp λ_ _ h=>WS.nx h)
def Kbf{i:Nat}{e:E}(h:W (ev aq aj (F aj) e J) s λx s1=>Q (.nx (J.set i (some x))) s1):WS (ex aq aj F (.asg (.nm i) e) J) s Q:=WS.ofM (h.imp λ_ _ h=>WS.nx h)
theorem Kbk{is:List Nat}{e:E}(h:W (ev aq true (F true) e J) s λx s1=>W (dat x) s1 λd s2=>wU ((kW d).bind λds=>gG is (ds.map .d) J) λJ'=>Q (.nx J') s2):WS (ex aq true F (.asg (.tp is) e) J) s Q:=by
 refine WS.ofM (h.imp λx s1 h=>?_);exact WS.Ao (m2:=λ_=>none) (WS.ofM (W.bd (h.imp λd s2 ⟨J',e,q⟩=>W.opt e (WS.nx q))))
theorem Kbj{o i e:E}(h:W (ev aq aj (F aj) e J) s λx s1=>W (dat x) s1 λd s2=>W (ev aq aj (F aj) o J) s2 λy s3=>W (ev aq aj (F aj) i J) s3 λz s4=>W (Mi.int z) s4 λj s5=>W (dh y) s5 λnx s6=>wU (L2.tH nx.2.length j) λq=>Q (.nx J) (s6.set nx.1 (.lst (nx.2.set q d)))):WS (ex aq aj F (.asg (.aq o i) e) J) s Q:=by
 refine WS.ofM (h.imp λx s1 h=>WS.ofM (W.bd (h.imp λd s2 h=>W.bd (h.imp λy s3 h=>W.bd (h.imp λz s4 h=>W.bd (h.imp λj s5 h=>W.bd (h.imp λnx s6 h=>?_)))))));obtain⟨q,e,h⟩:=h;simp only[e];exact Vu (WS.nx h)
theorem Kbg{i j:Nat}{a b:E}(h:W (ev aq true (F true) a J) s λx s1=>W (ev aq true (F true) b J) s1 λy s2=>Q (.nx ((J.set i (some x)).set j (some y))) s2):WS (ex aq true F (.par i j a b) J) s Q:=by
 exact WS.Ao (m2:=λ_=>none) (WS.ofM (W.bd (h.imp λx s1 h=>W.bd (h.imp λy s2 h=>W.ret (WS.nx h)))))
def Kbh{e:E}(h:W (ev aq aj (F aj) e J) s λx s1=>Q (.rt x) s1):WS (ex aq aj F (.ret e) J) s Q:=WS.ofM (h.imp λ_ _ h=>WS.rt h)
def Kbe{c:E}{t e:bT}(h:W (ev aq aj (F aj) c J) s λx s1=>W (Mi.bool x) s1 λb s2=>WS (if b=true then exs aq aj F t J else exs aq aj F e J) s2 Q):WS (ex aq aj F (.iff c t e) J) s Q:=WS.ofM (W.bd h)
theorem Kbd{t:Tg}{w:Wk}{b:bT}(h:W (je aq true (F true) w J) s λcn s1=>WS (dO cn.1 (λd J=>Mi.cP (store aq true (F true) t (.d d) J) λJ'=>exs aq true F b J') (cn.2+1) 0 J) s1 Q):WS (ex aq true F (.fr t w b) J) s Q:=by
 exact WS.Ao (m2:=λ_=>none) (WS.ofM h)
end
def W.Vv{α:Type}{b:Bool}{m1 m2:M α}{s:S}{P:α->S->Prop}(e:b=true)(h:W m1 s P):W (if b=true then m1 else m2) s P:=by rw[if_pos e];exact h
def W.Px{α:Type}{b:Bool}{m1 m2:M α}{s:S}{P:α->S->Prop}(e:b=false)(h:W m2 s P):W (if b=true then m1 else m2) s P:=by rw[if_neg (by rw[e];decide)];exact h
def W.Ao{α:Type}{m1 m2:M α}{s:S}{P:α->S->Prop}(h:W m1 s P):W (if true=true then m1 else m2) s P:=by rw[if_pos rfl];exact h
def W.Vw{α:Type}{m1 m2:M α}{s:S}{P:α->S->Prop}(h:W m2 s P):W (if false=true then m1 else m2) s P:=by rw[if_neg Tv];exact h
structure Bx(R:Prop):Prop where
 o:R
end Mi
namespace Mi
open PySem PySem.W PyProof.Rows L2
def t_{α:Type}(lt:Nat->Nat->Option Bool)(t:KasT α)(P:α->Prop):Prop:=∃a,bI lt t=some a/\P a
section
variable {α β:Type}{lt:Nat->Nat->Option Bool}{n:Nat}
def t_.ret(h:P a):t_ lt (.ret a) P:=⟨a,rfl,h⟩
theorem t_.bind(hf:∀a,P a->t_ lt (f a) R):∀{t:KasT α},t_ lt t P->t_ lt (t.bind f) R
 |.ret a,⟨a',e,h⟩=>by cases e;exact hf _ h
 |.ask i j k,⟨a',e,h⟩=>by
  unfold bI at e;cases el:lt i j with
  |none=>rw[el] at e;cases e
  |some b=>
   rw[el] at e;obtain⟨c,e1,h1⟩:=t_.bind hf (t:=k b) ⟨a',e,h⟩;refine⟨c,?_,h1⟩;show bI lt (.ask i j λb=>(k b).bind f)=some c;unfold bI;rw[el];exact e1
def Tot(n:Nat)(lt:Nat->Nat->Option Bool):Prop:=∀i j,i<n->j<n->∃b,lt i j=some b
variable (ht:Tot n lt)(hn:0<n)
include ht hn
end
section
variable {lt:Nat->Nat->Option Bool}{n:Nat}
theorem zf8(h:∀k,1<=k->k<n->lt (p.getD k 0) (p.getD (k-1) 0)=some false):∀f k,1<=k->k+f=n->t_ lt (kas_asc p f k) λr=>r=n
 |0,k,h1,e=>.ret gV
 |f+1,k,h1,e=>by
  obtain⟨a,e1,e2⟩:=zf8 h f (k+1) gV gV;refine⟨a,?_,e2⟩;unfold kas_asc bI;rw[h k h1 gV];exact e1
def zex(hk:k<n):(List.range n).toArray.getD k 0=k:=by
 simp[Array.getD,hk]
theorem zgQ(hn:0<n)(h:∀k,k+1<n->lt (k+1) k=some false):bI lt (kas_sort n)=some (List.range n).toArray:=by
 have h1:t_ lt (kas_asc (List.range n).toArray (n-1) 1) λr=>r=n:=zf8 (λk a b=>by
  rw[zex b,zex gV];have:=h (k-1) gV
  rwa [show k-1+1=k by lia] at this) _ _ (cj _) gV
 have h2:t_ lt (kas_count n (List.range n).toArray) λr=>r=(n,(List.range n).toArray):=by
  refine t_.bind (λr hr=>?_) h1;subst hr;rw[if_pos Zaa];exact .ret rfl
 have h3:t_ lt (kas_sort n) λr=>r=(List.range n).toArray:=by
  refine t_.bind (λr hr=>?_) h2;subst hr;rw[if_neg (qg _)];exact .ret rfl
 obtain⟨a,e,rfl⟩:=h3;exact e
end
theorem zhl(hk:(xs.all kJ||xs.all jq)=true)(nZ:xs.length<64)(h:∀k,k+1<xs.length->zX xs (k+1) k=some false):zY xs=some xs:=by
 unfold zY;rw[if_pos hk];unfold jA;by_cases h2:xs.length<2
 ·rw[if_pos h2]
 ·rw[if_neg h2,if_pos nZ,zgQ gV h];dsimp only;rw[if_pos Zaa]
  congr 1
  apply List.ext_getElem
  ·simp
  ·intro i a b;simp[jT,b]
noncomputable def eU(p:Int×Int):D:=.tup [.int p.1,.int p.2]
end Mi
namespace Mi
open PySem
theorem W.walk{c:List D}{f:D->List D->M (List D)}{s:S}{acc:List D}{P:List D->S->Prop}(I:Nat->List D->S->Prop)(h0:I 0 acc s)(hb:∀i x acc s,c[i]?=some x->I i acc s->W (f x acc) s λa s'=>I (i+1) a s')
  (he:∀acc s,I c.length acc s->P acc s):W (Mi.walk (.fix c) f (c.length+1) 0 acc) s P:=by
 have key:∀n i acc s,i+n=c.length->I i acc s->W (Mi.walk (.fix c) f (n+1) i acc) s P:=by
  intro n
  induction n with
  |zero=>
   intro i acc s hi hI;have e:c[i]?=none:=by rw[qZ];lia
   have:i=c.length:=by lia
   subst this;refine⟨acc,s,?_,he acc s hI⟩;unfold Mi.walk;simp only[Src.at,e]
  |succ n ih=>
   intro i acc s hi hI;have cg:i<c.length:=by lia
   have e:c[i]?=some c[i]:=dH cg;obtain⟨a,s',eb,Ed⟩:=hb i c[i] acc s e hI;obtain⟨a2,s2,e2,q⟩:=ih (i+1) a s' gV Ed;refine⟨a2,s2,?_,q⟩;unfold Mi.walk;simp only[Src.at,e,M.bd,eb];exact e2
 exact key c.length 0 acc s gV h0
section
variable {aq:Nat->Nat->Bool}{F:Fn}{J:Vs}{s:S}{P:Xv->S->Prop}
theorem Kaq{fz:Bool}{elt:E}{tg:List Nat}{it:Wk}{fr:List Nat}{many:Nat}{cond:Eo}{c:List D}(g:D->Option D)(hc:c.length<=sizeLine)
  (hw:W (je aq true F it J) s λcn s1=>cn=(.fix c,c.length)/\s1=s)
  (hb:∀x∈c,∃J',eE tg x (blk many fr J)=some J'/\W (n6 aq true F cond J') s λb s1=>s1=s/\(if b=true then W (ev aq true F elt J') s λy s2=>s2=s/\∃d,y=.d d/\g x=some d else g x=none))
  (h:W (newL fz (c.filterMap g)) s P):W (ev aq true F (.comp fz elt tg it fr many cond) J) s P:=by
 change W (_root_.ite (true=true) _ _) s P
 rw[if_pos rfl];refine W.bd (hw.imp λcn s1=>?_);rintro⟨rfl,rfl⟩;refine W.bd ?_;refine W.walk (c:=c) (λi acc s'=>s'=s1/\acc=(c.take i).filterMap g) ⟨rfl,rfl⟩ (λi x acc s' e hI=>?_) (λacc s' hI=>?_)
 ·obtain⟨rfl,rfl⟩:=hI;have hi:i<c.length:=(eG.mp e).1;have ht:c.take (i+1)=c.take i++[x]:=by rw[Nu,e];rfl
  have hl:((c.take i).filterMap g).length<sizeLine:=Fy (QV _ _) (by rw[Bm];lia);obtain⟨J',e1,h1⟩:=hb x (fG e);refine W.bd (W.opt e1 ?_);refine W.bd (W.qt (h1.imp λb s2=>?_));rintro⟨rfl,h2⟩;rw[ht,Q0];cases b
  ·rw[if_neg Tv] at h2 ⊢;refine W.ret ⟨rfl,?_⟩;simp[h2]
  ·rw[if_pos rfl] at h2 ⊢;refine W.bd (W.qt (h2.imp λy s3=>?_));rintro⟨rfl,d,rfl,eg⟩;refine W.bd (W.dat ?_);rw[if_pos hl];refine W.ret ⟨rfl,?_⟩;simp[eg]
 ·obtain⟨rfl,rfl⟩:=hI;rw[Bp];exact h
end
section
variable {aq:Nat->Nat->Bool}{aj:Bool}{F:Fn}{J:Vs}{s:S}{P:Xv->S->Prop}
def KaB(h:W (ev aq aj F a J) s λx s1=>W (rd x) s1 λd s2=>∃b,mO aq d k=some b/\P (.d (.bl b)) s2):W (ev aq aj F (.rN a k) J) s P:=
 W.bd (h.imp λ_ _ h=>W.bd (h.imp λ_ _ ⟨_,e,h⟩=>W.bd (W.opt e (W.ret h))))
theorem Kaz(h:W (ev aq aj F a J) s λx s1=>W (ev aq aj F b J) s1 λy s2=>W (g8 [x,y]) s2 λds s3=>W (cH true (prim p ds)) s3 λt s4=>W (Mi.bool t) s4 λk s5=>
  W (if k=true then M.bd (ev aq aj F c J) λz=>M.bd (g8 [y,z]) λds=>cH true (prim q ds) else M.ret (.d (.bl false))) s5 P):W (ev aq aj F (.zV p q a b c) J) s P:=
 W.bd (h.imp λ_ _ h=>W.bd (h.imp λ_ _ h=>W.bd (h.imp λ_ _ h=>W.bd (h.imp λ_ _ h=>W.bd h))))
end
noncomputable def K9(fz:Bool):Option Rz->Option Xv
 |some (.dat d)=>some (.d d)
 |some (.nw ys)=>match fz with
  |true=>some (.d (.fl ys))
  |false=>none
 |none=>none
noncomputable def addQ:D->D->Option Rz
 |.int i,.int j=>some (.dat (.int (i+j)))
 |_,_=>none
def Aq:List D->Option Rz
 |a::r=>match r with
  |b::r=>match r with
   |[]=>addQ a b
   |_::_=>none
  |[]=>none
 |[]=>none
noncomputable def quick:Pr->Bool
 |.tL=>false|.yt=>false|.mul=>false|.fdiv=>false|.mod=>false|.pow=>false|.divmod=>false|.sorted=>false|.rM=>false|.J7=>false|.mult=>false|.zU=>false|.repr=>false|.str1=>false|.rgl=>false|.u_=>false|.J6=>false
 |_=>true
def sE(p:Pr)(ds:List D):Option Rz:=match p with
 |.add=>Aq ds
 |p=>match quick p with
  |true=>prim p ds
  |false=>none
theorem K_{ds:List D}{r:Rz}(h:Aq ds=some r):C_ ds=some r:=by
 cases ds with
 |nil=>cases h
 |cons a t=>cases t with
  |nil=>cases h
  |cons b t=>cases t with
   |cons _ _=>cases h
   |nil=>cases a with
    |int i=>cases b with
     |int j=>exact h
     |_=>cases h
    |_=>cases h
def Ef{p:Pr}{ds:List D}{r:Rz}(h:sE p ds=some r):prim p ds=some r:=by
 cases p with
 |add=>exact K_ h
 |_=>first|exact h|cases h
noncomputable def Vx(fz:Bool)(ds:List D):Option Xv:=match fz with
 |true=>some (.d (.fl ds))
 |false=>none
noncomputable def La:Xv->Option D
 |.d x=>some x
 |.l _=>none
def obP(c:Nat):Xv->Option (List D)
 |.d (.ob e fs)=>if e=c then some fs else none
 |_=>none
noncomputable def notP:Xv->Option Xv
 |.d (.bl b)=>some (.d (.bl (!b)))
 |_=>none
noncomputable def Vy(r:Option Xv):Xv->Option Xv
 |.d (.bl true)=>r
 |.d (.bl false)=>some (.d (.bl false))
 |_=>none
noncomputable def orP(r:Option Xv):Xv->Option Xv
 |.d (.bl true)=>some (.d (.bl true))
 |.d (.bl false)=>r
 |_=>none
section
variable (aq:Nat->Nat->Bool)
mutual
def dD:E->Vs->Option Xv
 |.c d,_=>some (.d d)
 |.v i,J=>J[i]?.join
 |.pr fz p xs,J=>(qT xs J).bind λds=>K9 fz (sE p ds)
 |.tup xs,J=>(qT xs J).bind λds=>some (.d (.tup ds))
 |.lst fz xs,J=>(qT xs J).bind λds=>Vx fz ds
 |.not a,J=>(dD a J).bind notP
 |.and a b,J=>(dD a J).bind (Vy (dD b J))
 |.or a b,J=>(dD a J).bind (orP (dD b J))
 |.rN a k,J=>(dD a J).bind λx=>(La x).bind λd=>(mO aq d k).bind λb=>some (.d (.bl b))
 |.of o c i,J=>(dD o J).bind λx=>(obP c x).bind λfs=>fs[i]?.map .d
 |_,_=>none
def qT:Es->Vs->Option (List D)
 |.nil,_=>some []
 |.cons a r,J=>(dD a J).bind λx=>(La x).bind λd=>(qT r J).bind λds=>some (d::ds)
end
def pF:Es->Vs->Option (List Xv)
 |.nil,_=>some []
 |.cons a r,J=>(dD aq a J).bind λx=>(pF r J).bind λxs=>some (x::xs)
end
def nO{α β:Type}{o:Option α}{f:α->Option β}{b:β}(h:o.bind f=some b):∃a,o=some a/\f a=some b:=zp.mp h
def jF{α β:Type}{m:M α}{k:α->M β}{s s':S}{a:α}(e:m s=some (.ok a,s')):M.bd m k s=k a s':=by
 show (match m s with|some (.ok a,s')=>k a s'|some (.er c f,s')=>some (.er c f,s')|none=>none)=_;rw[e]
def Eh(s:S):∀ds:List D,g8 (ds.map .d) s=some (.ok ds,s)
 |[]=>rfl
 |d::r=>(jF (s':=s) (a:=d) rfl).trans ((jF (Eh s r)).trans rfl)
def vM(s:S):∀ds:List D,cL (ds.map .d) s=some (.ok ds,s)
 |[]=>rfl
 |d::r=>(jF (s':=s) (a:=d) rfl).trans ((jF (vM s r)).trans rfl)
theorem Vz{fz:Bool}{p:Pr}{ds:List D}{x:Xv}{s:S}(h:K9 fz (sE p ds)=some x):cH fz (prim p ds) s=some (.ok x,s):=by
 cases o:sE p ds with
 |none=>rw[o] at h;cases h
 |some r=>
  rw[o] at h;rw[Ef o];cases r with
  |dat d=>cases h;rfl
  |nw ys=>cases fz with
   |true=>cases h;rfl
   |false=>cases h
section
variable {aq:Nat->Nat->Bool}{aj:Bool}{F:Fn}{J:Vs}{s:S}
theorem gJ(e:E):∀x:Xv,dD aq e J=some x->ev aq aj F e J s=some (.ok x,s):=by
 refine E.rec (motive_1:=λe=>∀x:Xv,dD aq e J=some x->ev aq aj F e J s=some (.ok x,s)) (motive_2:=λ_=>True) (motive_3:=λxs=>∀ds:List D,qT aq xs J=some ds->evs aq aj F xs J s=some (.ok (ds.map .d),s)) (motive_4:=λ_=>True)
  ?c ?v ?pr (λ_ _ _ _ _ _ _ _ _ h=>nomatch h) (λ_ _ _ _ _ _ _ _ _ _ _ _ h=>nomatch h) ?and ?or ?not (λ_ _ _ _ _ _ _ h=>nomatch h) ?tup ?lst (λ_ _ _ h=>nomatch h) (λ_ _ _ _ h=>nomatch h) ?rN (λ_ _ _ _ _ _ _ _ h=>nomatch h) (λ_ _ _ _ _ _ _ _ h=>nomatch h) (λ_ _ _ _ _ h=>nomatch h) (λ_ _ _ h=>nomatch h)
  (λ_ _ _ _ _ _ _ _ _ _ _ h=>nomatch h) (λ_ _ _ _ _ _ _ _ _ _ _ _ _ _ h=>nomatch h) (λ_ _ _ _ _ h=>nomatch h) ?of (λ_ _ _ _ _ h=>nomatch h) (λ_ _ _ _ _ _ _ h=>nomatch h) (λ_ h=>nomatch h) (λ_ _ _ _ _ _ h=>nomatch h) (λ_ _ _ _ _ h=>nomatch h) (λ_ _ _ h=>nomatch h) (λ_ _ _ _ _ _ h=>nomatch h) (λ_ _ _ _ _ h=>nomatch h) (λ_ _ _ _ _ _ _ h=>nomatch h) (λ_ h=>nomatch h)
  (λ_ _=>trivial) (λ_ _ _ _=>trivial) (λ_ _ _ _=>trivial) (λ_ _=>trivial) (λ_ _=>trivial) ?nil ?cons trivial (λ_ _=>trivial) e
 case c=>intro d x h;cases h;rfl
 case v=>intro i x h;exact(show M.opt (J[i]?.join) s=_ from by rw[show J[i]?.join=some x from h];rfl)
 case pr=>
  intro fz p xs ih x h;obtain⟨ds,e1,e2⟩:=nO h;exact(jF (ih _ e1)).trans ((jF (Eh s ds)).trans (Vz e2))
 case tup=>
  intro xs ih x h;obtain⟨ds,e1,e2⟩:=nO h;cases e2;exact(jF (ih _ e1)).trans ((jF (vM s ds)).trans rfl)
 case lst=>
  intro fz xs ih x h;obtain⟨ds,e1,e2⟩:=nO h;cases fz with
  |false=>cases e2
  |true=>cases e2;exact(jF (ih _ e1)).trans ((jF (vM s ds)).trans rfl)
 case not=>
  intro a ih x h;obtain⟨y,e1,e2⟩:=nO h;cases y with
  |l n=>cases e2
  |d y=>cases y with
   |bl b=>cases e2;exact(jF (ih _ e1)).trans rfl
   |_=>cases e2
 case and=>
  intro a b ih ih2 x h;obtain⟨y,e1,e2⟩:=nO h;cases y with
  |l n=>cases e2
  |d y=>cases y with
   |bl b=>cases b with
    |true=>exact(jF (ih _ e1)).trans (ih2 _ e2)
    |false=>cases e2;exact(jF (ih _ e1)).trans rfl
   |_=>cases e2
 case or=>
  intro a b ih ih2 x h;obtain⟨y,e1,e2⟩:=nO h;cases y with
  |l n=>cases e2
  |d y=>cases y with
   |bl b=>cases b with
    |true=>cases e2;exact(jF (ih _ e1)).trans rfl
    |false=>exact(jF (ih _ e1)).trans (ih2 _ e2)
   |_=>cases e2
 case rN=>
  intro a k ih x h;obtain⟨y,e1,e2⟩:=nO h;cases y with
  |l n=>cases e2
  |d y=>
   obtain⟨d,e3,e4⟩:=nO e2;cases e3;obtain⟨b,e5,e6⟩:=nO e4;cases e6;refine(jF (ih _ e1)).trans ((jF (s':=s) (a:=y) rfl).trans ((jF (s':=s) (a:=b) ?_).trans rfl));rw[e5];rfl
 case of=>
  intro o c i ih x h;obtain⟨y,e1,e2⟩:=nO h;obtain⟨fs,e3,e4⟩:=nO e2;refine(jF (ih _ e1)).trans ((jF (s':=s) (a:=fs) ?_).trans ?_)
  ·cases y with
   |l n=>cases e3
   |d y=>cases y with
    |ob e gs=>
     have e3:(if e=c then some gs else none)=some fs:=e3;show (if e=c then M.ret gs else M.no) s=_;split at e3
     ·rename_i h;cases e3;rw[if_pos h];rfl
     ·cases e3
    |_=>cases e3
  ·show M.opt (fs[i]?.map Xv.d) s=_;rw[e4];rfl
 case nil=>intro ds h;cases h;rfl
 case cons=>
  intro a r ih ih2 ds h;obtain⟨y,e1,e2⟩:=nO h;cases y with
  |l n=>cases e2
  |d y=>
   obtain⟨d,e3,e4⟩:=nO e2;cases e3;obtain⟨rs,e5,e6⟩:=nO e4;cases e6;exact(jF (ih _ e1)).trans ((jF (ih2 _ e5)).trans rfl)
theorem vN:∀(xs:Es) (ds:List D),qT aq xs J=some ds->evs aq aj F xs J s=some (.ok (ds.map .d),s)
 |.nil,ds,h=>by cases h;rfl
 |.cons a r,ds,h=>by
  obtain⟨y,e1,e2⟩:=nO h;cases y with
  |l n=>cases e2
  |d y=>
   obtain⟨d,e3,e4⟩:=nO e2;cases e3;obtain⟨rs,e5,e6⟩:=nO e4;cases e6;exact(jF (gJ a _ e1)).trans ((jF (vN r _ e5)).trans rfl)
theorem jY:∀(xs:Es) {vs:List Xv},pF aq xs J=some vs->evs aq aj F xs J s=some (.ok vs,s)
 |.nil,vs,h=>by cases h;rfl
 |.cons a r,vs,h=>by
  obtain⟨y,e1,e2⟩:=nO h;obtain⟨ys,e3,e4⟩:=nO e2;cases e4;exact(jF (gJ a _ e1)).trans ((jF (jY r e3)).trans rfl)
variable {P:Xv->S->Prop}
def W.pv{e:E}{x:Xv}(h:dD aq e J=some x)(k:P x s):W (ev aq aj F e J) s P:=W.eq (gJ e _ h) k
def KaY{f:Nat}{xs:Es}{vs:List Xv}(h:pF aq xs J=some vs)(k:W (cO (F f) vs) s P):W (ev aq aj F (.call f xs) J) s P:=Kay (W.eq (jY xs h) k)
def KaZ{fz:Bool}{p:Pr}{xs:Es}{ds:List D}(h:qT aq xs J=some ds)(k:W (cH fz (prim p ds)) s P):W (ev aq aj F (.pr fz p xs) J) s P:=KaG (W.eq (vN xs _ h) (W.eq (Eh s ds) k))
def KaX{xs:Es}{vs:List Xv}{P:List Xv->S->Prop}(h:pF aq xs J=some vs)(k:P vs s):W (evs aq aj F xs J) s P:=W.eq (jY xs h) k
end
section
variable {aq:Nat->Nat->Bool}{aj:Bool}{F:Bool->Fn}{J:Vs}{s:S}{Q:Out->S->Prop}{e:E}{r:bT}
def Kba{i:Nat}{x:Xv}(h:dD aq e J=some x)(k:WS (exs aq aj F r (J.set i (some x))) s Q):WS (exs aq aj F (.cons (.asg (.nm i) e) r) J) s Q:=WS.cons (Kbf (W.pv h k))
def Kbb{x:Xv}(h:dD aq e J=some x)(k:Q (.rt x) s):WS (exs aq aj F (.cons (.ret e) r) J) s Q:=WS.cons (Kbh (W.pv h k))
theorem Ka9{b:Bool}{t u:bT}(h:dD aq e J=some (.d (.bl b)))(k:WS (if b=true then exs aq aj F t J else exs aq aj F u J) s λo s'=>match o with|.nx J'=>WS (exs aq aj F r J') s' Q|.rt x=>Q (.rt x) s'|_=>False):WS (exs aq aj F (.cons (.iff e t u) r) J) s Q:=WS.cons (Kbe (W.pv h (W.bool k)))
end
section
variable {aq:Nat->Nat->Bool}{aj:Bool}{F:Bool->Fn}{J:Vs}{s:S}{Q:Out->S->Prop}{c:Nat}{fs:List D}
theorem Kbi{c:Nat}{kp:Bool}{xs:Es}(h:W (evs aq true (F true) xs J) s λvs s1=>W (cL vs) s1 λds s2=>Q (.er c (if kp=true then ds else []) J) s2):WS (ex aq true F (.rise c kp xs) J) s Q:=by
 refine WS.Ao (m2:=λ_=>none) (WS.ofM (W.bd (h.imp λvs s1 h=>h.imp λds s2 h=>?_)));exact⟨_,s2,rfl,h⟩
theorem Kbn{m:MS}{k:Vs->MS}(h:WS m s λo s'=>match o with|.nx J'=>WS (k J') s' Q|.rt x=>Q (.rt x) s'|_=>False):WS (Mi.cP m k) s Q:=by
 obtain⟨o,s',e,q⟩:=h;unfold WS Mi.cP;rw[e];cases o with
 |nx J'=>exact q
 |rt x=>exact⟨_,_,rfl,q⟩
 |bk _=>exact q.elim
 |ct _=>exact q.elim
 |er _ _ _=>exact q.elim
def Kbl{F:Fn}{i:Nat}{x:Xv}(h:Q (.nx (J.set i (some x))) s):WS (store aq aj F (.nm i) x J) s Q:=⟨_,s,rfl,h⟩
theorem Kbm{F:Fn}{is:List Nat}{d:D}(h:wU ((kW d).bind λds=>gG is (ds.map .d) J) λJ'=>Q (.nx J') s):WS (store aq true F (.tp is) (.d d) J) s Q:=by
 obtain⟨J',e,q⟩:=h;exact WS.Ao (m2:=λ_=>none) (WS.ofM (W.bd (W.dat (W.opt e (WS.nx q)))))
end
section
variable {aq:Nat->Nat->Bool}{aj:Bool}{F:Fn}{J:Vs}{s:S}{P:Xv->S->Prop}
def W.rN{a:E}{k:Kd}(h:W (ev aq aj F a J) s λx s1=>W (rd x) s1 λd s2=>wU (mO aq d k) λb=>P (.d (.bl b)) s2):W (ev aq aj F (.rN a k) J) s P:=KaB h
theorem W.zV{p q:Pr}{a b c:E}(h:W (ev aq aj F a J) s λx s1=>W (ev aq aj F b J) s1 λy s2=>W (g8 [x,y]) s2 λds s3=>W (cH true (prim p ds)) s3 λt s4=>W (Mi.bool t) s4 λk s5=>
  W (if k=true then M.bd (ev aq aj F c J) λz=>M.bd (g8 [y,z]) λds=>cH true (prim q ds) else M.ret (.d (.bl false))) s5 P):W (ev aq aj F (.zV p q a b c) J) s P:=Kaz h
def KaC{c a b:E}(h:W (ev aq aj F c J) s λx s1=>W (Mi.bool x) s1 λk s2=>W (if k=true then ev aq aj F a J else ev aq aj F b J) s2 P):W (ev aq aj F (.ite c a b) J) s P:=W.bd (h.imp λ_ _ h=>W.bd h)
def KaL{a:E}{P:Src×Nat->S->Prop}(h:W (ev aq aj F a J) s λx s1=>W (o9 x) s1 P):W (je aq aj F (.enum a) J) s P:=W.bd h
def KaJ{xs:List D}{P:Src×Nat->S->Prop}(h:P (.fix (enumFrom 0 xs),(enumFrom 0 xs).length) s):W (o9 (.d (.fl xs))) s P:=⟨_,s,rfl,h⟩
theorem KaM{a b:E}{P:Src×Nat->S->Prop}(h:W (ev aq aj F a J) s λx s1=>W (ev aq aj F b J) s1 λy s2=>W (Mi.int x) s2 λi s3=>W (Mi.int y) s3 λj s4=>(gF i&&gF j)=true/\P (.fix (jM i j),(jM i j).length) s4):W (je aq aj F (.rg a b) J) s P:=by
 refine W.bd (h.imp λx s1 h=>W.bd (h.imp λy s2 h=>W.bd (h.imp λi s3 h=>W.bd (h.imp λj s4 h=>?_))));rw[if_pos h.1];exact W.ret h.2
theorem KaO{a b:E}{P:Src×Nat->S->Prop}(h:W (ev aq aj F a J) s λx s1=>W (ev aq aj F b J) s1 λy s2=>W (qI x) s2 λxs s3=>W (qI y) s3 λys s4=>P (.fix (List.zipWith (λp q=>.tup [p,q]) xs ys),(List.zipWith (λ(p q:D)=>D.tup [p,q]) xs ys).length) s4):W (je aq aj F (.zip a b) J) s P:=
 W.bd (h.imp λx s1 h=>W.bd (h.imp λy s2 h=>W.bd (h.imp λxs s3 h=>W.bd (h.imp λys s4 h=>W.ret h))))
def W.jC{xs:List D}{P:List D->S->Prop}(h:P xs s):W (qI (.d (.tup xs))) s P:=W.ret h
def W.tW{xs:List D}{P:List D->S->Prop}(h:P xs s):W (qI (.d (.fl xs))) s P:=W.ret h
def Kaj{P:Bool->S->Prop}(h:P true s):W (n6 aq aj F .no J) s P:=W.ret h
def Kak{a:E}{P:Bool->S->Prop}(h:W (ev aq aj F a J) s λx s1=>W (Mi.bool x) s1 P):W (n6 aq aj F (.yes a) J) s P:=W.bd h
theorem Kas(g:D->D)(hc:c.length<=sizeLine)
  (hw:W (je aq true F it J) s λcn s1=>cn=(.fix c,c.length)/\s1=s)
  (hb:∀x∈c,wU (eE tg x (blk many fr J)) λJ'=>W (ev aq true F elt J') s λy s2=>s2=s/\y=.d (g x))
  (h:W (newL fz (c.map g)) s P):W (ev aq true F (.comp fz elt tg it fr many .no) J) s P:=by
 refine Kaq (c:=c) (λx=>some (g x)) hc hw (λx hx=>?_) ?_
 ·obtain⟨J',e,h1⟩:=hb x hx;refine⟨J',e,W.ret ⟨rfl,?_⟩⟩;rw[if_pos rfl];exact h1.imp λy s2 ⟨a,b⟩=>⟨a,_,b,rfl⟩
 ·rw[show c.filterMap (λx=>some (g x))=c.map g by rw[<-List.filterMap_eq_map];rfl];exact h
theorem nQ{α:Type}{f:α->D}{l:List α}{fz:Bool}{elt:E}{tg:List Nat}{it:Wk}{fr:List Nat}{many:Nat}{cond:Eo}(g:α->Option D)(hc:l.length<=sizeLine)
  (hw:W (je aq true F it J) s λcn s1=>cn=(.fix (l.map f),(l.map f).length)/\s1=s)
  (hb:∀x∈l,wU (eE tg (f x) (blk many fr J)) λJ'=>W (n6 aq true F cond J') s λb s1=>s1=s/\(b=true->W (ev aq true F elt J') s λy s2=>s2=s/\∃d,y=.d d/\g x=some d)/\(b=false->g x=none))
  (h:W (newL fz (l.filterMap g)) s P):W (ev aq true F (.comp fz elt tg it fr many cond) J) s P:=by
 change W (_root_.ite (true=true) _ _) s P
 rw[if_pos rfl];refine W.bd (hw.imp λcn s1=>?_);rintro⟨rfl,rfl⟩;refine W.bd ?_;refine W.walk (c:=l.map f) (λi acc s'=>s'=s1/\acc=(l.take i).filterMap g) ⟨rfl,rfl⟩ (λi x acc s' e hI=>?_) (λacc s' hI=>?_)
 ·obtain⟨rfl,rfl⟩:=hI;rw[iG] at e;cases el:l[i]? with
  |none=>rw[el] at e;cases e
  |some y=>
   rw[el] at e;cases e;have hi:i<l.length:=(eG.mp el).1;have ht:l.take (i+1)=l.take i++[y]:=by rw[Nu,el];rfl
   have hl:((l.take i).filterMap g).length<sizeLine:=Fy (QV _ _) (by rw[Bm];lia);obtain⟨J',e1,h1⟩:=hb y (fG el);refine W.bd (W.opt e1 ?_);refine W.bd (W.qt (h1.imp λb s2=>?_));rintro⟨rfl,h2,h3⟩;rw[ht,Q0];cases b
   ·rw[if_neg Tv];refine W.ret ⟨rfl,?_⟩;simp[h3 rfl]
   ·rw[if_pos rfl];refine W.bd (W.qt ((h2 rfl).imp λy s3=>?_));rintro⟨rfl,d,rfl,eg⟩;refine W.bd (W.dat ?_);rw[if_pos hl];refine W.ret ⟨rfl,?_⟩;simp[eg]
 ·obtain⟨rfl,rfl⟩:=hI;rw[cZ,Bp];exact h
theorem Kar{c:List D}{fz:Bool}{elt:E}{tg:List Nat}{it:Wk}{fr:List Nat}{many:Nat}{cond:Eo}(I:Nat->List D->S->Prop)
  (hw:W (je aq true F it J) s λcn s1=>cn=(.fix c,c.length)/\I 0 [] s1)
  (hb:∀i x acc s,c[i]?=some x->I i acc s->wU (eE tg x (blk many fr J)) λJ'=>W (n6 aq true F cond J') s λb s1=>(b=true->W (ev aq true F elt J') s1 λy s2=>∃d,y=.d d/\acc.length<sizeLine/\I (i+1) (acc++[d]) s2)/\(b=false->I (i+1) acc s1))
  (h:∀acc s,I c.length acc s->W (newL fz acc) s P):W (ev aq true F (.comp fz elt tg it fr many cond) J) s P:=by
 change W (_root_.ite (true=true) _ _) s P
 rw[if_pos rfl];refine W.bd (hw.imp λcn s1=>?_);rintro⟨rfl,h0⟩;refine W.bd ?_;refine W.walk (c:=c) I h0 (λi x acc s' e hI=>?_) (λacc s' hI=>h acc s' hI);obtain⟨J',e1,h1⟩:=hb i x acc s' e hI;refine W.bd (W.opt e1 ?_);refine W.bd (W.qt (h1.imp λb s2=>?_));rintro⟨h2,h3⟩;cases b
 ·rw[if_neg Tv];exact W.ret (h3 rfl)
 ·rw[if_pos rfl];refine W.bd (W.qt ((h2 rfl).imp λy s3=>?_));rintro⟨d,rfl,hl,hi⟩;refine W.bd (W.dat ?_);rw[if_pos hl];exact W.ret hi
theorem W.push{o a:E}(h:W (ev aq aj F o J) s λx s1=>W (Mi.dh x) s1 λ_ s2=>W (ev aq aj F a J) s2 λy s3=>W (Mi.dat y) s3 λd s4=>W (Mi.dh x) s4 λnx s5=>nx.2.length<sizeLine/\P (.d .non) (s5.set nx.1 (.lst (nx.2++[d])))):W (ev aq aj F (.push o a) J) s P:=by
 refine W.bd (h.imp λx s1 h=>W.bd (h.imp λ_ s2 h=>W.bd (h.imp λy s3 h=>W.bd (h.imp λd s4 h=>W.bd (h.imp λnx s5 h=>?_)))));rw[if_pos h.1];exact W.bd (Vu (W.ret h.2))
end
def zeX{s:S}{o:SO}:(s++[o])[s.length]?=some o:=by simp
theorem Y{P R:Prop}(k:R)(h:Bx R->P:=by
 intro k
 repeat (first|with_reducible first
   |refine Kba (by with_unfolding_all rfl) ?_|refine Kbb (by with_unfolding_all rfl) ?_|refine Ka9 (by with_unfolding_all rfl) ?_|refine W.pv (by with_unfolding_all rfl) ?_|refine KaZ (by with_unfolding_all rfl) ?_|refine KaY (by with_unfolding_all rfl) ?_|refine KaX (by with_unfolding_all rfl) ?_
   |refine WS.cons ?_|refine WS.nil ?_|refine Kbn ?_|refine Kbl ?_|refine Kbm ?_|refine Kbf ?_|refine Kbh ?_|refine Kbe ?_|refine Kbk ?_|refine Kbj ?_|refine Kbg ?_|refine Kbc ?_|refine Kbd ?_|refine Kbi ?_|refine WS.Ao ?_|refine WS.Vw ?_|refine WS.Vv (by with_unfolding_all rfl) ?_|refine WS.Px (by with_unfolding_all rfl) ?_|refine wU.mk (by with_unfolding_all rfl) ?_
   |refine Kah ?_|refine Kai ?_|refine W.eC ?_|refine W.eV (by with_unfolding_all rfl) ?_|refine KaG ?_|refine Kay ?_|refine KaI ?_|refine KaD ?_|refine KaE ?_|refine Kax ?_|refine KaF ?_|refine KaC ?_|refine W.rN ?_|refine W.zV ?_|refine W.push ?_|refine KaH ?_|refine KaA ?_|refine KaR ?_|refine KaS ?_|refine KaN ?_|refine KaM ?_|refine KaO ?_|refine KaL ?_|refine Kaj ?_|refine Kak ?_|refine W.Ao ?_|refine W.Vw ?_|refine W.Vv (by with_unfolding_all rfl) ?_|refine W.Px (by with_unfolding_all rfl) ?_
   |refine Ka2 ?_|refine Ka3 ?_|refine Ka0 ?_|refine Ka1 (by with_unfolding_all rfl) ?_|refine Ka1 zeX ?_|refine Kau ?_|refine Kav ?_|refine W.dat ?_|refine W.bool ?_|refine W.int ?_|refine W.dh (by with_unfolding_all rfl) ?_|refine W.dh zeX ?_|refine Vu ?_|refine Ka5 ?_|refine KaJ ?_|refine W.jC ?_|refine W.tW ?_|refine Ka4 ?_|refine KaQ ?_|refine KaP ?_
   |refine eF (by first|(with_unfolding_all rfl)|exact zoz (by first|(left;constructor<;>lia)|(right;constructor<;>lia))|exact znK gV|exact zlf gV|exact zid gV|exact znS Tv) ?_|refine Pq (by with_unfolding_all rfl) ?_
   |refine W.ret ?_|refine W.bd ?_
   | (dsimp only))
 all_goals exact k.o):P:=h ⟨k⟩
def lx(p q:Int×Int):Prop:=p.1<q.1\/p.1=q.1/\p.2<q.2
def aQ(n:Int)(ps:List (Int×Int)):D:=.tup [.int n,.tup (ps.map eU)]
structure Web(n:Int)(ps:List (Int×Int)):Prop where
 h1:1<=n
 h8:n<=8
 tie:∀p∈ps,0<=p.1/\p.1<p.2/\p.2<n
 inc:ps.Pairwise lx
 len:(ps.length:Int)<=7*n
def zjw(h:∀x∈xs,x=.bl true):dZ xs=some (List.replicate xs.length true):=by
 induction xs with
 |nil=>rfl
 |cons x r ih=>
  rw[h x Zaa];show Option.map _ (dZ r)=_;rw[ih λy hy=>h y (by simp[hy])];rfl
def Lb(h:∀x∈xs,x=.bl true):prim .all [.fl xs]=some (.dat (.bl true)):=by
 show Option.map _ (dZ xs)=_;rw[zjw h];simp
theorem zli(p q:Int×Int):c7 (k+1) (eU p) (eU q)=some (decide (p=q)):=by
 show dj (c7 k) [.int p.1,.int p.2] [.int q.1,.int q.2]=_;have hi:∀a b:Int,c7 k (.int a) (.int b)=some (a==b):=by intro a b;cases k<;>rfl
 simp only[dj,hi];obtain⟨a,b⟩:=p;obtain⟨c,d⟩:=q;by_cases h1:a=c
 ·by_cases h2:b=d
  ·simp[h1,h2]
  ·simp[h1,h2]
 ·simp[h1]
theorem zl2(p:Int×Int)(ps:List (Int×Int)):memD (eU p) (ps.map eU)=some (decide (p∈ps)):=by
 induction ps with
 |nil=>rfl
 |cons q r ih=>
  simp only[jx,memD,ih,zli]
  congr 1
  rw[<-Bool.decide_or];apply uE.mpr;rw[iM]
  constructor
  ·rintro(h|h)
   ·exact .inl h.symm
   ·exact .inr h
  ·rintro(h|h)
   ·exact .inl h.symm
   ·exact .inr h
def zob{f:Bool->Bool}{p:Int×Int}{ps:List (Int×Int)}:zW f [eU p,.tup (ps.map eU)]=some (.dat (.bl (f (decide (p∈ps))))):=by
 show Option.map _ (memD (eU p) (ps.map eU))=_;rw[zl2];rfl
def zn0(h:lx p q):ltI [p.1,p.2] [q.1,q.2]=true:=by
 simp only[ltI];rcases h with h|⟨h,h2⟩
 ·rw[if_neg gV];simp[h]
 ·rw[if_pos h,if_neg gV];simp[h2]
def VB(xs:List D):cut xs (some 1) none=xs.drop 1:=by
 unfold cut;rw[HT.uR];rw[show (some 1:Option Int)=some ((1:Nat):Int) from rfl,HT.xZ];cases xs with
 |nil=>rfl
 |cons x r=>simp
theorem ziB:∀{ps:List (Int×Int)},ps.Pairwise lx->∀x∈List.zipWith (λ(p q:D)=>D.tup [p,q]) (ps.map eU) ((ps.map eU).drop 1),∃p q,x=.tup [eU p,eU q]/\lx p q
 |[],_,x,hx=>by simp at hx
 |[p],_,x,hx=>by simp at hx
 |p::q::r,h,x,hx=>by
  rw[show (List.map eU (p::q::r)).drop 1=List.map eU (q::r) from rfl] at hx;have e:List.zipWith (λ(p q:D)=>D.tup [p,q]) (List.map eU (p::q::r)) (List.map eU (q::r))=.tup [eU p,eU q]::List.zipWith (λ(p q:D)=>D.tup [p,q]) (List.map eU (q::r)) (List.map eU r):=rfl;rw[e,iM] at hx;rcases hx with rfl|hx
  ·exact⟨p,q,rfl,(Fz.mp h).1 q Zaa⟩
  ·exact ziB (ps:=q::r) (Fz.mp h).2 x hx
theorem zfW:∀(xs:List D) (j i:Nat),(enumFrom j xs)[i]?=xs[i]?.map λx=>.tup [.int ((j+i:Nat):Int),x]
 |[],j,i=>by simp[enumFrom]
 |x::r,j,0=>by simp[enumFrom]
 |x::r,j,i+1=>by
  simp only[enumFrom,Bf,zfW r (j+1) i];rw[show j+1+i=j+(i+1) by lia]
def zeU:∀(xs:List D) (j:Nat),(enumFrom j xs).length=xs.length
 |[],j=>rfl
 |x::r,j=>by simp[enumFrom,zeU r (j+1)]
def zmP{p:Int×Int}:¬lx p p:=by rintro(h|⟨_,h⟩)<;>lia
def zih{ps:List (Int×Int)}(h:ps.Pairwise lx):ps.Nodup:=h.imp λ{p q} h e=>by subst e;exact zmP h
def zf1(h:zY xs=some ys):prim .sorted [.fl xs]=some (.nw ys):=by
 show Option.map Rz.nw (zY xs)=_;rw[h];rfl
theorem zil{es:List Int}(nZ:es.length<64)(h:es.Pairwise (·<·)):zY (es.map D.int)=some (es.map D.int):=by
 refine zhl ?_ (by rw[cZ];exact nZ) λk hk=>?_
 ·rw[Bool.or_eq_true]
  left
  rw[List.all_map,iK];intro x _;rfl
 ·rw[cZ] at hk;unfold zX;rw[iG,iG,dH hk,dH (show k<es.length by lia)];have:=QS.mp h k (k+1) gV hk gV;simp only[Option.map_some]
  congr 1
  apply pP
  lia
noncomputable def endOf(i:Int)(p:Int×Int):Option Int:=if p.1=i then some p.2 else if p.2=i then some p.1 else none
def bx(i:Int)(ps:List (Int×Int)):List Int:=ps.filterMap (endOf i)
theorem VD(h:Web n ps)(i:Int):(bx i ps).Pairwise (·<·):=by
 have ht:=h.tie;have hi:=h.inc;clear h;unfold bx
 induction ps with
 |nil=>simp
 |cons p r ih=>
  obtain⟨hp,hr⟩:=Fz.mp hi;have ih:=ih (λq hq=>ht q (by simp[hq])) hr;rw[Fq]
  split
  ·exact ih
  ·rename_i b eb;refine Fz.mpr ⟨λc hc=>?_,ih⟩;obtain⟨q,hq,eq⟩:=zy.mp hc;have l:=hp q hq;have tp:=ht p Zaa;have tq:=ht q (by simp[hq]);unfold endOf at eb eq;unfold lx at l;split at eb
   ·cases eb;split at eq
    ·cases eq;lia
    ·split at eq
     ·cases eq;lia
     ·cases eq
   ·split at eb
    ·cases eb;split at eq
     ·cases eq;lia
     ·split at eq
      ·cases eq;lia
      ·cases eq
    ·cases eb
def Py(h:Web n ps)(he:e∈bx i ps):0<=e/\e<n:=by
 obtain⟨q,hq,eq⟩:=zy.mp he;have tq:=h.tie q hq;unfold endOf at eq;split at eq
 ·cases eq;lia
 ·split at eq
  ·cases eq;lia
  ·cases eq
theorem VF:∀{es:List Int} {a n:Int},es.Pairwise (·<·)->(∀e∈es,a<=e/\e<n)->a<=n->(es.length:Int)<=n-a
 |[],a,n,_,_,h=>by simp;lia
 |e::r,a,n,h,hb,ha=>by
  obtain⟨h1,h2⟩:=Fz.mp h;have he:=hb e Zaa;have:=VF (es:=r) (a:=e+1) (n:=n) h2 (λx hx=>⟨by have:=h1 x hx;lia,(hb x (by simp[hx])).2⟩) gV;rw[iu]
  lia
theorem zlZ{a b:Int}{i:Nat}{x:D}(h:(jM a b)[i]?=some x):x=.int (a+i)/\a+i<b:=by
 unfold jM at h;rw[iG] at h;cases e:(List.range (b-a).toNat)[i]? with
 |none=>rw[e] at h;cases h
 |some j=>
  rw[e] at h;cases h;obtain⟨hl,rfl⟩:=eG.mp e;rw[nU] at hl;rw[List.getElem_range];exact⟨rfl,by lia⟩
def ziT:(jM a b).length=(b-a).toNat:=by unfold jM;simp
def mX(h1 : -1000<=a)(h2:a<=1000):gF a=true:=by
 unfold gF;rw[fP gV,fP gV];rfl
theorem uw(hl:locs xs=[s.length])(h:W (F (dN 0 xs)) [o] λv s1=>∃d o',v=.d d/\s1=[o']/\P (.d d) (s++[o'])):W (cO F xs) (s++[o]) P:=by
 refine Vt (n:=s.length) (o:=o) hl Zaa (h.imp λv s1=>?_);rintro⟨d,o',rfl,rfl,hp⟩;exact⟨d,o',rfl,rfl,by rw[show (s++[o]).set s.length o'=s++[o'] by simp];exact hp⟩
def zkI{ns:List Int}{lo hi:Option Int}{x:D}(h:x∈cut (ns.map D.int) lo hi):∃n,x=.int n:=by
 have:=List.mem_of_mem_drop (List.mem_of_mem_take h);obtain⟨n,_,rfl⟩:=oh.mp this;exact⟨n,rfl⟩
def zjx{ns:List Int}{lo hi:Option Int}:(cut (ns.map D.int) lo hi).length<=ns.length:=by
 unfold cut;rw[Bm,List.length_drop,cZ]
 lia
noncomputable def norm(p:Int×Int):Int×Int:=if p.1<p.2 then p else (p.2,p.1)
theorem zdm{α:Type}[DecidableEq α]:∀{l m:List α},l.Nodup->(∀x∈l,x∈m)->l.length<=m.length
 |[],m,_,_=>sV _
 |x::r,m,h,hm=>by
  obtain⟨h1,h2⟩:=w6.mp h;have hx:x∈m:=hm x Zaa;have:=zdm (l:=r) (m:=m.erase x) h2 λy hy=>(List.mem_erase_of_ne (λe=>by subst e;exact h1 hy)).mpr (hm y (by simp[hy]));rw[List.length_erase_of_mem hx] at this;have:=List.length_pos_of_mem hx;rw[iu]
  lia
noncomputable def fB:List (Int×Int):=[(0,1),(0,2),(0,3),(0,4),(0,5),(0,6),(0,7),(1,2),(1,3),(1,4),(1,5),(1,6),(1,7),(2,3),(2,4),(2,5),(2,6),(2,7),(3,4),(3,5),(3,6),(3,7),(4,5),(4,6),(4,7),(5,6),(5,7),(6,7)]
theorem Ld(R:Vs->S->Prop)(h:WS (ex aq aj F a J) s λo s'=>∃J',o=.nx J'/\R J' s')(h2:∀J' s',R J' s'->WS (exs aq aj F r J') s' Q):WS (exs aq aj F (.cons a r) J) s Q:=
 WS.cons (h.imp λo s' ⟨J',e,hr⟩=>by subst e;exact h2 J' s' hr)
noncomputable def at'(fs:List Int)(j:Int):Int:=fs.getD j.toNat 0
def Pz{fs:List Int}{j:Int}(h0:0<=j)(h:j<fs.length):∃(i:Nat) (hi:i<fs.length),j=i/\at' fs j=fs[i]:=by
 obtain⟨i,rfl⟩:=p7 h0;have hi:i<fs.length:=by lia
 refine⟨i,hi,rfl,?_⟩;unfold at';rw[pO,jT,dH hi];rfl
def vO{fs:List Int}{j:Int}(h0:0<=j)(h:j<fs.length):at' fs j∈fs:=by
 obtain⟨i,hi,_,e⟩:=Pz h0 h;rw[e];exact List.getElem_mem _
def zpn{fs:List Int}{j:Int}(h0:0<=j)(h:j<fs.length):(fs.map D.int)[j.toNat]?=some (.int (at' fs j)):=by
 obtain⟨i,hi,rfl,e⟩:=Pz h0 h;rw[e,pO,iG,dH hi];rfl
def znm{fs gs:List Int}{j:Int}(h0:0<=j)(h:j<fs.length):at' (fs++gs) j=at' fs j:=by
 obtain⟨i,hi,rfl,e⟩:=Pz h0 h;unfold at';rw[pO,jT,jT,pK hi]
def zkK:at' (fs++[x]) fs.length=x:=by
 unfold at';rw[pO,jT,pZ (cj _)];simp
def ux(h0:0<=j)(h:xs[j.toNat]?=some x):prim .ix [.fl xs,.int j]=some (.dat x):=by
 obtain⟨k,rfl⟩:=p7 h0;exact Pu h
def zmn(h0:0<=j)(h:xs[j.toNat]?=some x):prim .ix [.tup xs,.int j]=some (.dat x):=ux h0 h
def Ar(h0:0<=j)(h:j<fs.length):prim .ix [.tup (fs.map .int),.int j]=some (.dat (.int (at' fs j))):=ux h0 (zpn h0 h)
noncomputable def gW(k a b:Int):Int:=if k-(if a-b<0 then -(a-b) else a-b)<(if a-b<0 then -(a-b) else a-b) then k-(if a-b<0 then -(a-b) else a-b) else (if a-b<0 then -(a-b) else a-b)
def qU(hd:1<=d):d<=gW k a b↔(d<=a-b/\a-b<=k-d)\/(d<=b-a/\b-a<=k-d):=by
 unfold gW
 split<;>split<;>lia
theorem zkV(j:Int)(ls:List Int):memD (.int j) (ls.map .int)=some (decide (j∈ls)):=by
 induction ls with
 |nil=>rfl
 |cons q r ih=>
  have hi:c7 50 (.int q) (.int j)=some (q==j):=rfl;simp only[jx,memD,ih,hi]
  congr 1
  by_cases h:q=j
  ·subst h;simp
  ·have h2:¬j=q:=λe=>h e.symm;simp[h,h2]
structure bO(n k d:Int)(ps:List (Int×Int))(hs:List Int):Prop where
 len:(hs.length:Int)=n
 lo:∀x∈hs,0<=x/\x<k
 fit:∀p∈ps,d<=gW k (at' hs p.1) (at' hs p.2)
section
variable {aq:Nat->Nat->Bool}{aj:Bool}{F:Bool->Fn}{J:Vs}{s:S}{Q:Out->S->Prop}
theorem WS.wh(I:Nat->Vs->S->Prop)(hm:m<o_)(h0:I m J s)
  (step:∀m J s,I m J s->W (ev aq aj (F aj) c J) s λx s1=>W (Mi.bool x) s1 λk s2=>(k=true->WS (exs aq aj F b J) s2 λo s3=>(∃J' m',o=.nx J'/\m'<m/\I m' J' s3)\/(∃x,o=.rt x/\Q (.rt x) s3))/\(k=false->Q (.nx J) s2)):WS (ex aq aj F (.wh c b) J) s Q:=by
 have key:∀n m J s,m<n->I m J s->WS (iy (λJ=>M.bd (ev aq aj (F aj) c J) Mi.bool) (λJ=>exs aq aj F b J) n J) s Q:=by
  intro n
  induction n with
  |zero=>intro m J s h;exact absurd h (Nat.not_lt_zero _)
  |succ n ih=>
   intro m J s hmn hI;obtain⟨x,s1,e1,k,s2,e2,hk⟩:=step m J s hI;unfold iy;refine WS.ofM (W.bd ⟨x,s1,e1,k,s2,e2,?_⟩);cases k with
   |false=>exact⟨_,s2,by rw[if_neg Tv],hk.2 rfl⟩
   |true=>
    obtain⟨o,s3,e3,hr⟩:=hk.1 rfl;rcases hr with ⟨J',m',rfl,PB,Ed⟩|⟨x,rfl,hq⟩
    ·obtain⟨o2,s4,e4,q⟩:=ih m' J' s3 gV Ed;exact⟨o2,s4,by rw[if_pos rfl,e3];exact e4,q⟩
    ·exact⟨_,s3,by rw[if_pos rfl,e3],hq⟩
 exact key o_ m J s hm h0
end
def Ge(h r:List Int):Prop:=∀j:Nat,j<r.length->(∀i:Nat,i<j->at' h i=at' r i)->at' r j<=at' h j
def zme{m:Nat}{f:Nat->Int}{j:Int}(h0:0<=j)(h:j<m):at' ((List.range m).map f) j=f j.toNat:=by
 unfold at';rw[jT,iG,Fw gV];rfl
def zni{f:Bool->Bool}{j:Int}{ls:List Int}:zW f [.int j,.tup (ls.map .int)]=some (.dat (.bl (f (decide (j∈ls))))):=by
 show Option.map _ (memD (.int j) (ls.map .int))=_;rw[zkV];rfl
noncomputable def aK(k d:Int):D:=.tup [.int k,.int d]
def Ej(k d:Int)(ps:List (Int×Int))(hs:List Int):Bool:=ps.all λp=>decide (d<=gW k (at' hs p.1) (at' hs p.2))
def pG:Ej k d ps hs=true↔∀p∈ps,d<=gW k (at' hs p.1) (at' hs p.2):=by
 unfold Ej;rw[iK];exact⟨λh p hp=>iZ (h p hp),λh p hp=>fP (h p hp)⟩
def uy{α:Type}{l:List α}{f:α->D}:l.filterMap (λx=>some (f x))=l.map f:=by
 rw[<-List.filterMap_eq_map];rfl
theorem VG(I:Nat->Vs->S->Prop)(h0:I 0 J s)(hb:∀i x J s,c[i]?=some x->I i J s->WS (b x J) s λo s'=>(∃J',o=.nx J'/\I (i+1) J' s')\/(∃x,o=.rt x/\Q (.rt x) s'))
  (he:∀J s,I c.length J s->Q (.nx J) s):WS (dO (.fix c) b (c.length+1) 0 J) s Q:=by
 have key:∀n i J s,i+n=c.length->I i J s->WS (dO (.fix c) b (n+1) i J) s Q:=by
  intro n
  induction n with
  |zero=>
   intro i J s hi hI;have e:c[i]?=none:=by rw[qZ];lia
   have:i=c.length:=by lia
   subst this;refine⟨_,s,?_,he J s hI⟩;unfold dO;simp only[Src.at,e]
  |succ n ih=>
   intro i J s hi hI;have cg:i<c.length:=by lia
   have e:c[i]?=some c[i]:=dH cg;obtain⟨o,s',eb,hr⟩:=hb i c[i] J s e hI;rcases hr with ⟨J',rfl,Ed⟩|⟨x,rfl,hq⟩
   ·obtain⟨o2,s2,e2,q⟩:=ih (i+1) J' s' gV Ed;refine⟨o2,s2,?_,q⟩;unfold dO;simp only[Src.at,e,eb];exact e2
   ·refine⟨_,s',?_,hq⟩;unfold dO;simp only[Src.at,e,eb]
 exact key c.length 0 J s gV h0
noncomputable def pH(n:Nat):List Int:=(List.range n).map λ(k:Nat)=>(k:Int)
def PJ{n:Nat}{j:Int}(h0:0<=j)(h:j<n):at' (pH n) j=j:=by
 unfold pH;rw[zme h0 h]
 lia
theorem zku{n K:Int}{ps:List (Int×Int)}(w:Web n ps)(hK:n<=K):bO n K 1 ps (pH n.toNat) where
 len:=by have:=w.h1;unfold pH;simp;lia
 lo:=λx hx=>by
  unfold pH at hx;obtain⟨i,hi,rfl⟩:=oh.mp hx;have:=v9.mp hi
  lia
 fit:=λp hp=>by
  have ht:=w.tie p hp;rw[PJ gV gV,PJ gV gV,qU gV]
  lia
def Av{hs:List Int}{f:Int->Int}{j:Int}(h0:0<=j)(h:j<hs.length):at' (hs.map f) j=f (at' hs j):=by
 obtain⟨i,hi,rfl,e⟩:=Pz h0 h;rw[e];unfold at';rw[pO,jT,iG,dH hi];rfl
def zgx{α:Type}(l:List α)(f:α->Bool):dZ (l.map λx=>D.bl (f x))=some (l.map f):=by
 induction l with
 |nil=>rfl
 |cons x r ih=>
  show Option.map _ (dZ (r.map λx=>D.bl (f x)))=_;rw[ih];rfl
theorem zln{α:Type}{l:List α}{f:α->Bool}:prim .all [.fl (l.map λx=>D.bl (f x))]=some (.dat (.bl (l.all f))):=by
 show Option.map _ (dZ (l.map λx=>D.bl (f x)))=_;rw[zgx];show some (Rz.dat (.bl ((l.map f).all id)))=_;rw[List.all_map];rfl
end Mi
namespace Mi
open PySem PySem.Spec PyProof.Rows L2 PySem.W
section
variable {K:W.Frag}{cA:Cl}{U:Ph}{H:Hp}
theorem zmE{d:D}{v:V}{k:Bool}(r:Rv K cA U H d v)(e:yw d=some k):Cp K v H k:=by
 cases d with
 |non=>
  cases (show Rep K cA U H .non v from r);cases e;rfl
 |bl c=>
  cases (show Rep K cA U H (.bl c) v from r);cases e;rfl
 |int i=>
  cases (show Rep K cA U H (.int i) v from r);cases e;rfl
 |tup xs=>
  cases (show Rep K cA U H (.tup xs) v from r) with
  |tup t q=>
   cases e;refine .inr (.inl ⟨_,t.jC,?_⟩);cases q<;>rfl
 |fl xs=>
  obtain⟨a,us,rfl,sq,q⟩ : ∃a us,v=.ref a/\cY K H a us/\aC K cA U H xs us:=r;cases e;refine .inl ⟨_,sq,?_⟩;cases q<;>rfl
 |_=>cases e
end
section
variable {X:Cx}{cA:Cl}{aq:Nat->Nat->Bool}{aj:Bool}{F:Fn}{EX:XS}{a b:Expr}{A B:E}{pos p:Pos}{x:Str}{e:Expr}{es:List Expr}{Xs:Es}
def vP(sc:Scope)(x:Str):Bool:=match sc.names.lookup x with
 |some k=>Dy k
 |none=>false
noncomputable def PK(sc:Scope)(x:Str):Bool:=match sc.names.lookup x with
 |some .globalImplicit=>true
 |_=>false
def VH{sc:Scope}{x:Str}(h:vP sc x=true):∃k,sc.names.lookup x=some k/\Dy k=true:=by
 unfold vP at h;split at h
 ·rename_i k e;exact⟨k,e,h⟩
 ·cases h
def ziG{sc:Scope}{x:Str}(h:PK sc x=true):sc.names.lookup x=some .globalImplicit:=by
 unfold PK at h;split at h
 ·assumption
 ·cases h
def gk(h:PK X.env.scope x=true:=by kernel_rfl):JK X x .globalImplicit:=⟨ziG h⟩
def jl(h:(match X.env.scope.names.lookup x with|some .local=>true|_=>false)=true:=by kernel_rfl):JK X x .local:=by
 split at h
 ·exact⟨by assumption⟩
 ·cases h
def jc(h:(match X.env.scope.names.lookup x with|some .cell=>true|_=>false)=true:=by kernel_rfl):JK X x .cell:=by
 split at h
 ·exact⟨by assumption⟩
 ·cases h
def uc{scope:Scope}{cl:List (Str×Addr)}{N:List Str}{Cc:Addr}{s3:Shared}{H3:Hp}{fp:List Addr}{ao:List (Addr×Obj)}(h:PK scope x=true:=by kernel_rfl):JK (X.blk scope cl N Cc s3 H3 fp ao) x .globalImplicit:=zpa (ziG h) rfl
def gv(i:Nat)(h:(decide (X.N[i]?=some x)&&vP X.env.scope x&&okN x)=true:=by kernel_rfl):JE X cA aq aj F EX (.Name x pos) (.v i):=by
 rw[gb,gb] at h;obtain⟨k,e,hv⟩:=VH h.1.2;exact g_v i (iZ h.1.1) ⟨e⟩ hv h.2
theorem bQ(i:Nat){scope:Scope}{cl:List (Str×Addr)}{N:List Str}{Cc:Addr}{s3:Shared}{H3:Hp}{fp:List Addr}{ao:List (Addr×Obj)}(h:(decide (N[i]?=some x)&&vP scope x&&okN x)=true:=by kernel_rfl):JE (X.blk scope cl N Cc s3 H3 fp ao) cA aq aj F EX (.Name x pos) (.v i):=by
 rw[gb,gb] at h;obtain⟨k,e,hv⟩:=VH h.1.2;by_cases hk:k=.free
 ·subst hk;exact zpo i (iZ h.1.1) e h.2
 ·exact g_v i (iZ h.1.1) (zpa e (by cases k<;>first|rfl|exact absurd rfl hk)) hv h.2
theorem gc{f k:Nat}{cm:Bool}{st:Stmt}{ps:List Str}(Fo:cG X.prog X.w X.K X.mg X.base (fK X.prog X.w) cm k (fZ X.K x) (fdOf X.K x st) ps (lW X.K cA (F f)))(D:D3 X.K X.mg x st ps)(hr:bG k X.A)(R:JR X EX)(g:JK X x .globalImplicit)(ha:JA X cA aq aj F EX (e::es) Xs)(h:okN x=true:=by kernel_rfl)
  (jo:cm=true->X.aj=true:=by first|exact λ_=>rfl|exact λz=>nomatch z) (he:aF e=true:=by rfl) (hpl:es.all aF=true:=by rfl):JE X cA aq aj F EX (.Call (.Name x p) (e::es) [] pos) (.call f Xs):=
 zl3 f Fo jo hr D.m D.f.kp D.b R g ha h he hpl
def nd(h:decide X.N.Nodup=true:=by kernel_rfl):X.N.Nodup:=iZ h
end
theorem fJ{P:Program}{w:World}{K:W.Frag}{mg:Str->Option Value}{base:Heap}{cA:Cl}{aq:Nat->Nat->Bool}{T:Nat->Option Df}{x:Str}{st:Stmt}{ps:List Str}{k n:Nat}{cm:Bool}{df:Df}(D:D3 K mg x st ps)(N:List Str)(hT:T n=some df)
  (hb:∀(cdv:Value) (A:Around) (outer:List Env) (s:Shared) (H:Hp) (E:XK),bG k (A.deeper (envOfC x (au st) s.heap.objs.size (fZ K x) cdv))->
   JB (dI (fK P w) P w K mg base N x (au st) (fZ K x) cdv A outer s H E cm) cA aq cm (λc=>call aq T k c) (λ_ C dx H'=>E C dx H') (aL st) df.body) (S:bZ N ps (au st):=by exact⟨rfl,rfl,rfl,dk,rfl,dk,dk⟩) (hp:df.iz=ps.length:=by rfl) (hm:df.many=N.length:=by rfl) :
  cG P w K mg base (fK P w) cm (k+1) (fZ K x) (fdOf K x st) ps (lW K cA (call aq T (k+1) cm n)):=ziS D.f S hT hp hm hb
end Mi
namespace L2
open PySem PySem.Spec PySem.Calls PyProof.Rows PySem.W
def fQ.tri{H:Hp}{l:List Value}(x:fQ H l):TriplesOk l:=by
 induction x with
 |nil=>trivial
 |cons l m c r _ _ ih=>exact ih
theorem fQ.found{H:Hp}{pos:Pos}{cv:Value}{l:List Value}(x:fQ H l)(h:codeAmong pos l=some cv):∃c,cv=.ref c/\GoodC H c:=by
 induction x with
 |nil=>cases h
 |cons a b c r g _ ih=>
  unfold rawInt codeAmong at h;split at h
  ·cases h;exact⟨c,rfl,g⟩
  ·exact ih h
structure vQ(H H':Hp):Prop where
 kp:∀b o,H b=some o->(∀ps,o≠.mD ps)->H' b=some o
 st:∀b o,H b=some o->∃o',H' b=some o'
def vQ.refl{H:Hp}:vQ H H:=⟨λ_ _ e _=>e,λ_ o e=>⟨o,e⟩⟩
def Le(K:Frag)(mg:Str->Option Value):Prop:=∃bm ob,mg "__builtins__"=some (.ref bm)/\bm≠builtinsNs/\bm≠mainGlobals/\K.lookup bm=some ob/\ob.cls=.type "module"/\ob.dict=some builtinsNs/\ob.data=.plain
abbrev lamO(params:Arguments)(body:Expr)(scope:Scope)(pm:Value)(c':Addr)(ctv:Value):Obj:=kla_obj "<lambda>" jh params body scope [] pm c' ctv
section
variable {X:Cx}{ao:List (Addr×Obj)}{Z:St}{H:Hp}{s:Shared}{c P:Addr}{params:Arguments}{body:Expr}{scope:Scope}{pos:Pos}{E:Value->Shared->Prop}{Q:Value->Shared->Prop}
theorem Inv.Ek{H1:Hp}{s1:Shared}{fa:Addr}{o:Obj}(I:Inv X ao Z H1 s1)(h1:s1.heap.get? fa=some o)(h2:H1 fa=none)(h3:fa≠X.env.locals)(h4:fa∉X.fs)(h5:∀v,o.data≠.cell v):Inv X (ao++[(fa,o)]) Z H1 s1:=
 I.jV λp hp=>by
  rcases nW.mp hp with hp|hp
  ·exact I.pin p (lC _ hp)
  ·rw[Bj.mp hp];exact⟨h1,h2,h3,h4,h5⟩
theorem zic(I:Inv X ao Z H s)(on:rC=true)(iH:X.env.code=.ref c)(hC:codeHdIn X.K c P=true)(hl:j9 X.K c P=true)(VJ:Le X.K X.mg)(oZ:closureFor scope X.env=pure [])(hq:X.env.qual++"<lambda>"=jh)(vR:defaultsOf params X.env=([],[]))
  (k:∀fa c' ctv pm H1 s1,Inv X (ao++[(fa,lamO params body scope pm c' ctv)]) Z H1 s1->GoodC H1 c'->vQ H H1->Q (.ref fa) s1) :
  wpAny (model X.prog X.w) X.A (eval (.Lambda params body scope pos) X.env) Q E s:=by
 obtain⟨ps,hP,hT⟩:=I.BW on c P hl;have oP:s.heap.get? P=some (tabObj ps):=I.hok P _ hP;obtain⟨bm,ob,b1,b2,b3,b4,b5,b6,b7⟩:=VJ;have kb:s.heap.get? bm=some ob:=I.mF bm ob b4;have nb:H bm=none:=(I.bs bm ob (I.mod.xu bm ob b4)).2;have hg:=I.mod.glob.keeps I.bk;have ng:H mainGlobals=none:=by
  obtain⟨o,_,_,e,_⟩:=I.mod.glob;exact(I.bs _ _ e).2
 have hgP:mainGlobals≠P:=λz=>by rw[z,hP] at ng;cases ng
 have hB:s.heap.BuiltinsAt X.mg P:=⟨bm,ob,b1,b2,b3,(λz=>by rw[z,hP] at nb;cases nb),kb,b5,b6,b7⟩;refine kla_eval vR ?_;rw[hq];cases hf:codeAmong pos ps.toList with
 |some cv=>
  obtain⟨c',rfl,gc⟩:=hT.found hf;refine kla_makeFunctionHit (mg:=X.mg) oZ I.ok.glob hg iH (codeHd_of_K I.mF hC) oP hT.tri hf hB λctv h' tk hk hsz=>?_;have kp:∀b u,s.heap.get? b=some u->(h'.push (lamO params body scope ((X.mg "__name__").getD .none) c' ctv)).get? b=some u:=λb u e=>cD _ (hk b u e);have I1:=I.kept (t':=tk) kp;refine k _ c' ctv _ H _ (I1.Ek (dX _ rfl) (I.hok.fresh hsz) (qj (f9 I.lt hsz)) (I.xP hsz) λv z=>by cases z) gc vQ.refl
 |none=>
  refine kla_makeFunction (mg:=X.mg) oZ I.ok.glob hg iH (codeHd_of_K I.mF hC) oP hT.tri hf hgP hB λc' ctv h' tk hx uo cg El htb=>?_;obtain⟨c2,oc,vs,t,e2,Iz,hd,hv⟩:=El;cases e2;have nc:H c'=none:=I.hok.fresh uo;have ncP:c'≠P:=λz=>by rw[z,hP] at nc;cases nc
  have kp:∀b u,b≠P->s.heap.get? b=some u->(h'.push (lamO params body scope ((X.mg "__name__").getD .none) c' ctv)).get? b=some u:=λb u nb e=>cD _ (hx b u nb e);have nP:∀b,H b=none->b≠P:=λb e z=>by rw[z,hP] at e;cases e
  have old:∀b u,s.heap.get? b=some u->b≠c':=λb u e=>cV (f9 (bR e) uo);have hP1:upd (upd H P (.mD (ps++#[rawInt pos.line,rawInt pos.col,.ref c']))) c' (.oH oc (.own 0)) P=some (.mD (ps++#[rawInt pos.line,rawInt pos.col,.ref c'])):=by rw[bW ncP.symm,iQ]
  have ot:∀b u,H b=some u->(∀ps,u≠.mD ps)->upd (upd H P (.mD (ps++#[rawInt pos.line,rawInt pos.col,.ref c']))) c' (.oH oc (.own 0)) b=some u:=λb u e nt=>by
   rw[bW (xK e nc),bW λz=>by rw[z,hP] at e;cases e;exact nt _ rfl];exact e
  have gc:GoodC (upd (upd H P (.mD (ps++#[rawInt pos.line,rawInt pos.col,.ref c']))) c' (.oH oc (.own 0))) c':=⟨oc,_,vs,t,iQ,hd,hv⟩;have I1:Inv X ao Z (upd (upd H P (.mD (ps++#[rawInt pos.line,rawInt pos.col,.ref c']))) c' (.oH oc (.own 0))) {s with heap:=h'.push (lamO params body scope ((X.mg "__name__").getD .none) c' ctv),toks:=tk}:=by
   refine I.step (g':=s.gens) (d':=s.drawn) (ch:=[]) (λ_ z=>nomatch z) (λb o _ _ _ e n=>kp b o (nP b n) e) (λb o _ _ _ e n=>⟨o.slots,kp b o (nP b n) e⟩) (λb o _ e n=>by rw[bW (old b o e),bW (nP b n)];exact n) (λb o _ e=>?_) (λb xs e=>ot b _ e λ_ z=>by cases z) (λb o u e=>ot b _ e λ_ z=>by cases z) (λb qs e=>?_) (λm hm=>?_) (λb u e=>?_) I.bare
   ·by_cases z:b=P
    ·exact⟨_,by rw[z];exact cD _ htb⟩
    ·exact⟨o,kp b o z e⟩
   ·by_cases z:b=P
    ·subst z;rw[hP] at e;cases e;exact⟨_,hP1,fQ.cons _ _ c' _ gc .nil⟩
    ·exact⟨#[],by rw[bW (xK e nc),bW z,e];simp,.nil⟩
   ·obtain⟨o,es,ep,ho,r⟩:=hm;exact⟨o,es,ep,kp _ o (nP _ I.free) ho,r⟩
   ·by_cases z:b=c'
    ·subst z;rw[iQ] at e;cases e;exact⟨cD _ Iz,⟨oc,cD _ Iz⟩⟩
    ·rw[bW z] at e;by_cases y:b=P
     ·subst y;rw[iQ] at e;cases e;show (h'.push _).get? b=some _;exact cD _ htb
     ·rw[bW y] at e;refine(I.hok b u e).stay (λa v ha q=>kp a v ?_ q) (λa q=>ot a _ q λ_ z=>by cases z) λa xs q=>ot a _ q λ_ z=>by cases z
      rcases ha with rfl|ha
      ·exact y
      ·intro z;rw[z,hP] at ha;cases ha
  refine k _ c' ctv _ _ _ (I1.Ek (dX _ rfl) ?_ (qj (f9 I.lt (sU (Fy uo cg)))) (I.xP (sU (Fy uo cg))) λv z=>by cases z) gc ⟨ot,λb o e=>?_⟩
  ·rw[bW (qj cg),bW (qj (f9 (bR oP) (sU (Fy uo cg))))];exact I.hok.fresh (sU (Fy uo cg))
  ·by_cases z:b=P
   ·rw[z];exact⟨_,hP1⟩
   ·exact⟨o,by rw[bW (xK e nc),bW z];exact e⟩
end
section
variable {X:Cx}{ao:List (Addr×Obj)}{Z:St}{H:Hp}{s:Shared}{CX:sZ}{cm:Bool}{k:Nat}{fa c':Addr}{params:Arguments}{body:Expr}{scope:Scope}{pm ctv:Value}{N:List Str}{x:Str}{u:Value}{v:V}{t:TE}{Q:VK}
theorem zhP(I:Inv X ao Z H s)(hfo:s.heap.get? fa=some (lamO params body scope pm c' ctv))(gc:GoodC H c')(S:bZ N [x] scope)(jo:cm=true->X.A.handled=none)(hr:X.A.depth<recursionLimit)(lq:∀u,bindArgs (kla_fn "<lambda>" jh params body scope [] pm (.ref c') ctv) ⟨[u],[]⟩=pure [(x,u)])(rv:RelV v u)
  (hb:PE (dI CX X.prog X.w X.K X.mg X.base N jh scope fa (.ref c') X.A X.stack s H (λ_ _ _=>False) cm) body t) (hq:t (start N [v]) H Q) (gZ:∀e s',CX X.stack H s (λ_ _ _=>False) e s'->X.xe e s') :
  wpAny (model X.prog X.w) X.A (call (.ref fa) [u]) (EP X ao Z Q) X.xe s:=by
 have e0:=I.env0;have lim:s.heap.NoLimit:=I.nolimit;obtain⟨oc,w,vs,tq,g1,g2,g3⟩:=gc;have El:s.heap.CodeRec (.ref c') jh:=⟨c',oc,vs,tq,rfl,(I.hok c' _ g1).1,g2,g3⟩;have uQ:∀y∈[(x,u)],scope.names.lookup y.1=some .local\/(scope.names.lookup y.1=some .cell/\((cellsFrom (s.heap.objs.size+1) scope.names []).lookup y.1).isSome=true):=λy hy=>by
  rw[Bj.mp hy];rcases S.par x Zaa with q|q
  ·exact .inl q
  ·exact .inr ⟨q,M8 _ _ _ (.inl q)⟩
 refine Gg (zF (R:=CR CX X.stack X.prog X.w H s Q λ_ _ _=>False) (kla_callFunE hr hfo rfl S.co S.gen rfl El ?_) λr s' hq=>?_)
 ·rw[lq];refine aN ?_;refine wpAny_newFunctionEnv_cells S.kind uQ λenv he s1 y=>?_;subst he;refine⟨lim.keeps y.toInCall.keep,kla_codeExpr ?_⟩;have I1:Inv (dI CX X.prog X.w X.K X.mg X.base N jh scope fa (.ref c') X.A X.stack s H (λ_ _ _=>False) cm) [] (start N [v]) H s1:=Zg S jo e0 rfl (.cons rv .nil) y;refine gj (hb [] s1 (start N [v]) H _ I1 hq) (λu' s' hs=>?_) λe s' hs=>hs;obtain⟨v',H',bf,rv',q⟩:=hs;exact⟨v',H',bf.os,bf.bare,bf.base,bf.hok,rv',q⟩
 ·cases r with
  |error e=>exact gZ e s' hq
  |ok fl=>
   cases fl with
   |ret u=>exact I.after hq
   |next=>exact False.elim hq
   |brk=>exact False.elim hq
   |cont=>exact False.elim hq
end
section
variable {X:Cx}{ao:List (Addr×Obj)}{Z:St}{H:Hp}{s:Shared}{E:Value->Shared->Prop}{fa D:Addr}{fo:Obj}{ys:List V}{its:List Value}{kz:List Int}{lt:Nat->Nat->Option Bool}{p:Array Nat}
theorem Inv.apart{a:Addr}(I:Inv X ao Z H s)(h:s.heap.objs.size<=a):a≠X.env.locals/\a∉X.fs/\(a∈X.ex\/X.s₀.heap.objs.size<=a)/\(∀x c,X.env.cells.lookup x=some c->c≠a)/\∀p∈X.pn++ao,p.1≠a:=
 ⟨qj (f9 I.lt h),I.xP h,.inr (jZ I.sz h),λx c e=>by
  obtain⟨v,o,ho,_⟩:=I.cell x c e;exact cV (f9 (bR ho) h),λp hp=>cV (f9 (bR (I.pin p hp).1) h)⟩
structure Own(X:Cx)(ao:List (Addr×Obj))(a:Addr):Prop where
 hL:a≠X.env.locals
 hf:a∉X.fs
 h1:a∈X.ex\/X.s₀.heap.objs.size<=a
 h2:∀x c,X.env.cells.lookup x=some c->c≠a
 h3:∀p∈X.pn++ao,p.1≠a
def Inv.own{a:Addr}(I:Inv X ao Z H s)(h:s.heap.objs.size<=a):Own X ao a:=let ⟨a1,a2,a3,a4,a5⟩:=I.apart h;⟨a1,a2,a3,a4,a5⟩
def Own.set{a:Addr}{h':Heap}{t':Nat}(o:Own X ao a)(hn:H a=none)(I:Inv X ao Z H s)(k:∀b o,b≠a->s.heap.get? b=some o->h'.get? b=some o):Inv X ao Z H {s with heap:=h',toks:=t'}:=I.turned k hn o.hL o.h1 o.h2 o.h3
def Own.pin{a:Addr}{u:Obj}(o:Own X ao a)(hn:H a=none)(I:Inv X ao Z H s)(h:s.heap.get? a=some u)(d:∀v,u.data≠.cell v):Inv X (ao++[(a,u)]) Z H s:=I.Ek h hn o.hL o.hf d
noncomputable abbrev Cx.Em(X:Cx):Cx:=X.seen X.A.in1.in1 X.aj X.pn λ_ _=>False
def Inv.Em(I:Inv X ao Z H s):Inv X.Em ao Z H s:=I.seen rfl (λz=>I.ok.hd z) λ_ z=>z
def Inv.VL(I:Inv X.Em ao Z H s)(bf:X.aj=true->X.A.handled=none):Inv X ao Z H s:=I.CG rfl bf λ_ z=>z
def Lf(X:Cx)(Z:St)(G:Hp->Prop)(fa:Addr)(fo:Obj)(ys:List V)(kz:List Int):Prop:=
 ∀(i:Nat) (v:V) (k:Int),ys[i]?=some v->kz[i]?=some k->∀(H:Hp) (ps:List (Addr×Obj)) (s':Shared) (u:Value),G H->Inv X.Em ps Z H s'->(fa,fo)∈ps->RelV v u->
  wpAny (model X.prog X.w) X.A.in1.in1 (call (.ref fa) [u]) (EP X.Em ps Z λv' H'=>v'=.int k/\G H') (λ_ _=>False) s'
theorem zeT{kS:Addr}{keys:Array Value}{e e1:Nat}{st:SortSt}{A:Around}{P:PySem.Fin->Shared->Prop}{out:Array Value}(oD:Own X ao D)(oK:Own X (ao++[(D,seqObj "list" #[] e1)]) kS)
  (I:Inv X (ao++[(D,seqObj "list" #[] e1)]++[(kS,seqObj "list" keys e)]) Z H s) (hz:keys.size<=100) (ho:out.size<=100) (hs:(arrOf st).map (·.2)=out) (hf:failedOf st=none)
  (h:∀s' c,Inv X ao Z H s'->H D=none->s'.heap.get? D=some (seqObj "list" out c)->P (.done (.ret .none)) s') :
  wpAny (model X.prog X.w) A (ksk_tail D false e1 (.ref kS) st) P E s:=by
 have hl:(100:Nat)<=sizeLine:=by decide
 obtain⟨nk,VN,_⟩:=I.pin (kS,seqObj "list" keys e) Zaa;obtain⟨nd,Lg,_⟩:=I.pin (D,seqObj "list" #[] e1) Zaa;have nDK:D≠kS:=oK.h3 (D,seqObj "list" #[] e1) Zaa;have I1:Inv X (ao++[(D,seqObj "list" #[] e1)]) Z H {s with heap:=s.heap.update kS (Obj.mapSeq λ_=>(#[]:Array Value))}:=oK.set (t':=s.toks) VN I.cB λb o nb q=>(zx _ _ _ _ nb).trans q;have VP:(s.heap.update kS (Obj.mapSeq λ_=>(#[]:Array Value))).get? D=some (seqObj "list" #[] e1):=(zx _ _ _ _ nDK).trans nd;obtain⟨c2,nY⟩ : ∃c2,((s.heap.update kS (Obj.mapSeq λ_=>(#[]:Array Value))).update D (Obj.mapSeq λ_=>out)).get? D=some (seqObj "list" out c2):=⟨_,get?_update_seq VP λ_=>out⟩;unfold ksk_tail
 try dsimp only
 refine aB (Bu nk rfl ?_ gV (sV _));refine aB (zG ?_);refine aB (seqEpoch_at VP rfl ?_);rw[hs];refine aB (Bu VP rfl ?_ (sV _) (by simp only[sO,oE];lia));rw[hf];simp only[Rf,sO,oE];refine aN (h _ c2 ?_ Lg nY);exact Own.set (s:={s with heap:=s.heap.update kS (Obj.mapSeq λ_=>(#[]:Array Value))}) (h':=(s.heap.update kS (Obj.mapSeq λ_=>(#[]:Array Value))).update D (Obj.mapSeq λ_=>out)) (t':=s.toks) oD Lg I1.cB λb o nb q=>(zx _ _ _ _ nb).trans q
theorem zkb{kS:Addr}{keys:Array Value}{e e1:Nat}{A:Around}{P:PySem.Fin->Shared->Prop}(oD:Own X ao D)(oK:Own X (ao++[(D,seqObj "list" #[] e1)]) kS)
  (I:Inv X (ao++[(D,seqObj "list" #[] e1)]++[(kS,seqObj "list" keys e)]) Z H s) (hk:IntsAre keys.toList kz) (hlen:kz.length=its.length) (nZ:its.length<64)
  (cg:∀i j b,lt i j=some b->∃x y,kz[i]?=some x/\kz[j]?=some y/\b=decide (x<y)) (hr:2<=its.length->bI lt (kas_sort its.length)=some p/\p.size=its.length)
  (h:∀s' c,Inv X ao Z H s'->H D=none->s'.heap.get? D=some (seqObj "list" (dJ its p) c)->P (.done (.ret .none)) s') :
  wpAny (model X.prog X.w) A (ksk_end D false its.toArray e1 (.ref kS) keys) P E s:=by
 have hkl:=hk.length;rw[qb] at hkl;have hsz:its.toArray.size=its.length:=by simp
 unfold ksk_end
 try dsimp only
 simp only[sO,oE];by_cases h2:its.toArray.size<2
 ·rw[if_pos h2,if_pos h2];refine aB (aN ?_);rw[StateT.run_pure];refine aB (aN ?_)
  try dsimp only
  refine zeT (out:=dJ its p) oD oK I gV ?_ ?_ rfl h
  ·unfold dJ;rw[if_pos gV];simp;lia
  ·unfold dJ;rw[if_pos gV];apply Array.toList_inj.mp;show ((keys.zip its.toArray).map (·.2)).toList=_;rw[Array.toList_map,ksk_zip];have:keys.toList.length=keys.size:=qb;exact List.map_snd_zip gV
 ·rw[if_neg h2,if_neg h2];have mJ:2<=its.length:=by lia
  obtain⟨hr,J2⟩:=hr mJ;have ek:keys=keys.toList.toArray:=by rw[Q7]
  rw[ek];refine aB (ZV (by rw[qb];lia) (λu hu=>?_) ?_)
  ·obtain⟨n,t,e⟩:=hk.all u hu;exact⟨n,t,e⟩
  refine aB (gj (kat_run (κ:=oneType') (ks:=keys.toList) (vs:=its) (G:=λp' s'=>p'=p/\s'=s)
   (Q:=λst' s'=>arrOf st'=p.map (kas_item (keys.toList.toArray.zip its.toArray))/\failedOf st'=none/\s'=s)
   (by rw[qb];lia) mJ nZ (λp' st' s' a1 a2 a3 a4=>⟨by rw[a2,a4.1],a3,a4.2⟩) (Tq (λi j b C hl hC=>?_) ⟨rfl,rfl⟩ hr)) ?_ λ_ _ e=>e)
  ·obtain⟨x,y,e1,e2,rfl⟩:=cg i j b hl;obtain⟨t1,f1⟩:=hk.get i x e1;obtain⟨t2,f2⟩:=hk.get j y e2;show wpAny _ _ (keyLt' oneType' (keys.toList.getD i Value.none) (keys.toList.getD j Value.none)) C _ s;rw[Gy f1,Gy f2];exact kat_lt_int hC
  ·rintro⟨⟨⟩,st'⟩ s' ⟨Gx,hf,rfl⟩
   try dsimp only
   have hout:=kat_snds (ks:=keys.toList) (vs:=its) (by rw[qb];lia) Gx;have e:List.toArray (p.toList.map λi=>its.getD i Value.none)=dJ its p:=by
    unfold dJ;rw[if_neg gV]
   rw[e] at hout;have ZQ:(dJ its p).size=its.length:=by rw[<-e,eY,cZ,qb,J2]
   exact zeT (out:=dJ its p) oD oK I gV gV hout hf h
theorem zhE{G:Hp->Prop}{n:Nat}{P:PySem.Fin->Shared->Prop}(I:Inv X ao Z H s)(g:G H)(oD:Own X ao D)(Lg:H D=none)(ho:s.heap.get? D=some (seqObj "list" its.toArray n))(En:(fa,fo)∈ao)(rv:Vals ys its)(hlen:kz.length=ys.length)(nZ:ys.length<64)(K:Lf X Z G fa fo ys kz)
  (cg:∀i j b,lt i j=some b->∃x y,kz[i]?=some x/\kz[j]?=some y/\b=decide (x<y)) (hr:2<=ys.length->bI lt (kas_sort ys.length)=some p/\p.size=ys.length)
  (h:∀H' s' c,G H'->Inv X ao Z H' s'->H' D=none->s'.heap.get? D=some (seqObj "list" (dJ its p) c)->P (.done (.ret .none)) s') :
  wpAny (model X.prog X.w) X.A.in1.in1 (ksk_tree D (.ref fa) false) P E s:=by
 have hl:(100:Nat)<=sizeLine:=by decide
 have hil:=rv.length;have hD:D<s.heap.objs.size:=bR ho;obtain⟨e1,CQ⟩ : ∃e1,(s.heap.update D (Obj.mapSeq λ_=>(#[]:Array Value))).get? D=some (seqObj "list" #[] e1):=⟨_,get?_update_seq ho λ_=>#[]⟩;have hkS:((s.heap.update D (Obj.mapSeq λ_=>(#[]:Array Value))).push (seqObj "tuple" its.toArray 0)).objs.size=s.heap.objs.size+1:=by rw[size_push',HS]
 have Hj:Own X ao (s.heap.objs.size+1):=I.own (xq _);have VN:H (s.heap.objs.size+1)=none:=I.hok.fresh (xq _);have oK:Own X (ao++[(D,seqObj "list" #[] e1)]) (s.heap.objs.size+1):=⟨Hj.hL,Hj.hf,Hj.h1,Hj.h2,λq hq=>by
  rcases nW.mp hq with hq|hq
  ·exact Hj.h3 q (Hy _ hq)
  ·rcases nW.mp hq with hq|hq
   ·exact Hj.h3 q (lC _ hq)
   ·rw[Bj.mp hq];exact cV (q_ hD)⟩
 have kp:∀b o,b≠D->s.heap.get? b=some o->(((s.heap.update D (Obj.mapSeq λ_=>(#[]:Array Value))).push (seqObj "tuple" its.toArray 0)).push (seqObj "list" #[] 0)).get? b=some o:=λb o nb q=>
  cD _ (cD _ ((zx _ _ _ _ nb).trans q))
 unfold ksk_tree;refine aB (listItems_at ho rfl ?_);refine aB (Bu ho rfl ?_ (by rw[eY];lia) (sV _));refine aB (seqEpoch_at CQ rfl ?_);refine aB (wpAny_newTuple ?_ (by show its.length<=_;lia));refine aB (HY ?_ (sV _));refine pQ ?_;rw[hkS];have I3:Inv X (ao++[(D,seqObj "list" #[] e1)]++[(s.heap.objs.size+1,seqObj "list" #[] 0)]) Z H {s with heap:=((s.heap.update D (Obj.mapSeq λ_=>(#[]:Array Value))).push (seqObj "tuple" its.toArray 0)).push (seqObj "list" #[] 0)}:=by
  have bf:=oD.set (t':=s.toks) Lg I kp;have VR:=oD.pin Lg bf (cD _ (cD _ CQ)) λv z=>by cases z
  exact oK.pin VN VR (by rw[<-hkS];exact dX _ rfl) λv z=>by cases z
 show wpAny (model X.prog X.w) X.A.in1.in1 (ksk_rest D (.ref fa) false its.toArray e1 (.ref (s.heap.objs.size+1))) P E _;unfold ksk_rest;refine aB (zJ ?_)
 first
  |rw[List.forIn_toArray]
  |(rw[<-Ng];simp only[List.toList_toArray])
 refine aB (ksk_fold (λi s'=>∃(H':Hp) (kA:Array Value) (e:Nat),G H'/\Inv X (ao++[(D,seqObj "list" #[] e1)]++[(s.heap.objs.size+1,seqObj "list" kA e)]) Z H' s'/\IntsAre kA.toList (kz.take i)) its 0 _
  ⟨H,#[],0,g,I3,by simpa using IntsAre.nil⟩ ?step ?done)
 case step=>
  rintro j x s' hx ⟨H1,kA,e,g1,I',hk⟩;simp only[Nat.zero_add] at hk ⊢;have hj:j<its.length:=(eG.mp hx).1;obtain⟨k,hkj⟩ : ∃k,kz[j]?=some k:=⟨_,dH gV⟩;obtain⟨v,hv⟩ : ∃v,ys[j]?=some v:=⟨_,dH gV⟩;obtain⟨u,hu,rvu⟩:=rv.get hv;rw[hx] at hu;cases hu;have hz:kA.size<=64:=by
   have h1:=hk.length;rw[qb,Bm] at h1
   lia
  refine aB (Ga (gj (K j v k hv hkj H1 _ s' x g1 I'.Em (by simp[En]) rvu) (λw s2 he=>?_) λ_ _ hF=>hF.elim));obtain⟨v',H2,bf,rv',rfl,g2⟩:=he;obtain⟨t2,rfl⟩:=rv';have bf:=bf.VL I'.ok.hd
  try dsimp only
  obtain⟨nk,Lh,_⟩:=bf.pin (s.heap.objs.size+1,seqObj "list" kA e) Zaa;obtain⟨c2,nY⟩ : ∃c2,(s2.heap.update (s.heap.objs.size+1) (Obj.mapSeq (·.push (.int k t2)))).get? (s.heap.objs.size+1)=some (seqObj "list" (kA.push (.int k t2)) c2):=⟨_,get?_update_seq nk (·.push (.int k t2))⟩;have ek:kz.take (j+1)=kz.take j++[k]:=by rw[List.take_add_one,hkj];simp
  have ea:(kA.push (Value.int k t2)).toList=kA.toList++[Value.int k t2]:=by simp
  refine aB (Bu nk rfl ?_ gV (jZ (Nat.le_of_eq (Array.size_push ..)) gV));refine aN ⟨rfl,H2,kA.push (.int k t2),c2,g2,?_,by rw[ea,ek];exact ksk_snoc hk⟩;exact oK.pin Lh (oK.set (t':=s2.toks) Lh bf.cB λb o nb q=>(zx _ _ _ _ nb).trans q) nY λv z=>by cases z
 case done=>
  rintro s' ⟨H1,kA,e,g1,I',hk⟩;have G8:IntsAre kA.toList kz:=by
   have e3:kz.take (0+its.length)=kz:=List.take_of_length_le gV;rw[e3] at hk;exact hk
  have nk:=(I'.pin (s.heap.objs.size+1,seqObj "list" kA e) Zaa).1
  try dsimp only
  refine aB (listItems_at nk rfl ?_);exact zkb oD oK I' G8 gV gV cg (by rw[<-hil];exact hr) λs' c=>h H1 s' c g1
theorem zgI{G:Hp->Prop}{l:Addr}{Q:VK}(I:Inv X (ao++[(fa,fo)]) Z H s)(g:G H)(hq:cY X.K H l ys)(hlen:kz.length=ys.length)(nZ:ys.length<64)(K:Lf X Z G fa fo ys kz)
  (cg:∀i j b,lt i j=some b->∃x y,kz[i]?=some x/\kz[j]?=some y/\b=decide (x<y)) (hr:2<=ys.length->bI lt (kas_sort ys.length)=some p/\p.size=ys.length)
  (q:∀H' r,G H'->H' r=none->Q (.ref r) (upd H' r (.lst (fX ys p)))) :
  wpAny (model X.prog X.w) X.A (call (.builtin "sorted") [.ref l] [(Str.ofString "key",.ref fa)]) (EP X ao Z Q) E s:=by
 have hl:(100:Nat)<=sizeLine:=by decide
 obtain⟨its,rv,pl,hz⟩:=I.list hq;have hil:=rv.length;refine call_function_entry_kw kind_sorted plain_sorted entry_sorted (ksk_s1 _ _) ?_;unfold Builtin.«sorted»;refine aB (m:=checkCount "sorted" 1 1 _) (aN ?_);refine aB (collect_list pl.isList ?_ gV);refine aB (HY ?_ (by show its.length<=_;lia));have hsz:((s.heap.push (seqObj "list" #[] 0)).update s.heap.objs.size (Obj.mapSeq (·++its.toArray))).objs.size=s.heap.objs.size+1:=by
  rw[HS,size_push']
 have BZ:(((s.heap.push (seqObj "list" #[] 0)).update s.heap.objs.size (Obj.mapSeq (·++its.toArray))).push (seqObj "list" its.toArray 0)).get? (s.heap.objs.size+1)=some (seqObj "list" its.toArray 0):=by
  rw[<-hsz];exact dX _ rfl
 have keep:∀b o,s.heap.get? b=some o->(((s.heap.push (seqObj "list" #[] 0)).update s.heap.objs.size (Obj.mapSeq (·++its.toArray))).push (seqObj "list" its.toArray 0)).get? b=some o:=λb o q=>by
  have cg:b<s.heap.objs.size:=bR q;rw[FJ _ _ _ (by rw[hsz];exact cV (q_ cg)),zx _ _ _ _ (cV cg),FJ _ _ _ (cV cg)];exact q
 show wpAny _ _ _ _ _ {s with heap:=((s.heap.push (seqObj "list" #[] 0)).update s.heap.objs.size (Obj.mapSeq (·++its.toArray))).push (seqObj "list" its.toArray 0)};rw[hsz];have oD:Own X (ao++[(fa,fo)]) (s.heap.objs.size+1):=I.own (xq _);have I1:=I.kept (t':=s.toks) keep;refine aB (pQ (wpAny_call_entry_kw slot_list_sort ⟨_,BZ,rfl⟩ entry_list_sort ?body (ksk_l1 _ _)));show wpAny (model X.prog X.w) X.A.in1.in1 (Builtin.«list.sort» ⟨[.ref (s.heap.objs.size+1)],[(Str.ofString "key",.ref fa)]⟩) _ _ _;rw[ksk_t1];refine zhE (n:=0) I1 g oD (I.hok.fresh (xq _)) BZ Zaa rv hlen nZ K cg hr λH' s' c g' bf NZ hc=>⟨_,rfl,?_⟩;refine aN ⟨_,rfl,.ref (s.heap.objs.size+1),upd H' (s.heap.objs.size+1) (.lst (fX ys p)),?_,rfl,q H' _ g' NZ⟩;have hn:X.s₀.heap.get? (s.heap.objs.size+1)=none:=Fl (jZ I.sz (xq _));refine bf.cB.track hn NZ (λp hp=>oD.h3 p (by
  rcases nW.mp hp with z|z
  ·exact Hy _ z
  ·exact lC _ (Hy _ z))) oD.hL oD.h2 ⟨?_,(dJ its p).toList,c,ZS rv p,by rw[Q7];exact hc⟩
 unfold fX;by_cases h2:ys.length<2
 ·rw[if_pos h2];exact hz
 ·rw[if_neg h2,cZ,qb,(hr gV).2];exact hz
end
end L2
namespace Mi
open PySem PySem.Spec PyProof.Rows L2 PySem.W
section
variable {K:Frag}{cA:Cl}{U U1:Ph}{H H':Hp}{s:S}
theorem Li(hS:aD K cA U H s)(x:Ext ⟨U.z,[]⟩ H U1 H')(r1:aD K cA U1 H' []):Ext U H ⟨U1.z,U.l⟩ H'/\aD K cA ⟨U1.z,U.l⟩ H' s:=by
 refine⟨⟨⟨[],by simp,by simp⟩,λa h=>x.qL a h,λa h=>x.kY a h,λa o h t n=>x.frame a o h t Zaa,x.stay⟩,?_⟩;exact⟨hS.len,λn o a e1 e2=>(hS.obj n o a e1 e2).map (λ_ t q=>x.frame a _ q t Zaa) λ_ _ r=>Rep.zl ((Rep.zl r []).mono x λa ha=>by simp at ha) _,hS.uniq,λa ha=>x.qL a (hS.lz a ha),r1.zt⟩
def zjB(t:vQ H H'):Ext ⟨U.z,[]⟩ H ⟨U.z,[]⟩ H':=
 ⟨⟨[],by simp,by simp⟩,λ_ h=>h,λ_ h=>.inl h,λa o h nt _=>t.kp a o h λps e=>by rw[e] at nt;exact nt,t.st⟩
def Lj(z:∀a,U.z a->∃o,H a=some o):aD K cA ⟨U.z,[]⟩ H []:=⟨rfl,λn o a e=>by simp at e,Bs,λa h=>by simp at h,z⟩
theorem ze6{f:D->M Xv}:∀{xs:List D} {ks:List Int},kO f xs=some ks->ks.length=xs.length/\∀(i:Nat) d k,xs[i]?=some d->ks[i]?=some k->f d []=some (.ok (.d (.int k)),[])
 |[],ks,h=>by
  cases h;exact⟨rfl,λi d k e=>by simp at e⟩
 |x::r,ks,h=>by
  unfold kO at h;split at h
  ·rename_i k e;obtain⟨ks',e1,rfl⟩:=lB.mp h;obtain⟨l,q⟩:=ze6 e1;refine⟨by simp[l],λi d k' ed ek=>?_⟩;cases i with
   |zero=>simp at ed ek;subst ed ek;exact e
   |succ i=>exact q i d k' (by simpa using ed) (by simpa using ek)
  ·cases h
end
section
variable {X:Cx}{cA:Cl}{aq:Nat->Nat->Bool}{aj:Bool}{F:Fn}{EX:XS}{a:Expr}{A B:E}{fz:Bool}{k:Nat}{c P:Addr}{params:Arguments}{body:Expr}{scope:Scope}{x:Str}{p pos yV kpos:Pos}
theorem zhW(on:rC=true)(hc:X.aj=true)(iH:X.env.code=.ref c)(hC:codeHdIn X.K c P=true)(hl:j9 X.K c P=true)(VJ:Le X.K X.mg)(oZ:closureFor scope X.env=pure [])(hq:X.env.qual++"<lambda>"=jh)(vR:defaultsOf params X.env=([],[]))
  (Sc:bZ [x] [x] scope) (hr:bG k X.A) (lq:∀pm c' ctv u,bindArgs (kla_fn "<lambda>" jh params body scope [] pm (.ref c') ctv) ⟨[u],[]⟩=pure [(x,u)])
  (hm:X.mg "sorted"=none) (hg:Gl X "sorted") (ha:SE X cA aq aj F EX a A)
  (hb:∀fa c' s' H',SE (dI (fK X.prog X.w) X.prog X.w X.K X.mg X.base [x] jh scope fa (.ref c') X.A.in1.in1 X.stack s' H' (λ_ _ _=>False) true) cA aq aj F (λ_ _ _ _=>False) body B)
  (he:starEach [a] X.env=(false,eval a X.env)::starEach [] X.env:=by rfl) :
  SE X cA aq aj F EX (.Call (.Name "sorted" p) [a] [⟨some "key",.Lambda params body scope yV,kpos⟩] pos) (.rO fz A B):=by
 intro ao s Z H Q I hh;obtain⟨U,J,st,hL,hS,h⟩:=hh;cases aj with
 |false=>exact h.elim
 |true=>
 have h:Run X.K cA (M.bd (ev aq true F A J) λx=>match x with
   |.d (.fl xs)=>M.bd (M.opt (kO (λd=>ev aq true F B [some (.d d)]) xs)) λks=>M.bd (M.opt (jA (zZ ks) xs)) λys=>newL fz ys
   |_=>M.no) U H st _ _:=h
 refine Bh (wB I hg hm zbW ?_ Tv Tv);refine callWith_kw (e:=a) (rest:=[]) ?_ (by rw[he];rfl) (by rw[he];rfl);have PAa:PA X [a] (zR (tE X.K cA EX (ev aq true F A)) Jk):=sY ha xX he;refine aX (PAa pos ao s Z H (λvs H1=>∃v U1 d st1,vs=[v]/\aZ X.K cA U1 H1 Z J/\aD X.K cA U1 H1 st1/\aW X.K cA U1 H1 d v/\Run X.K cA ((λx:Xv=>match x with
   |.d (.fl xs)=>M.bd (M.opt (kO (λd=>ev aq true F B [some (.d d)]) xs)) λks=>M.bd (M.opt (jA (zZ ks) xs)) λys=>newL fz ys
   |_=>M.no) d) U1 H1 st1 (λd _ U' H'=>∀v,aW X.K cA U' H' d v->Q v H') (eX X.K cA EX Z)) I ?_) λus s1 hx=>?_
 ·exact bw hL hS h λv H1 U1 d st1 x1 hL1 aJ r1 h2=>⟨v,U1,d,st1,rfl,hL1,aJ,r1,h2⟩
 obtain⟨vs0,H1,I1,rvs,v,U1,d,st1,rfl,hL1,aJ,r1,h2⟩:=hx;obtain⟨u,rfl,ru⟩:=vals1 rvs;have key:∃xs,d=.d (.fl xs):=by
  cases d with
  |l n=>exact h2.elim
  |d d=>cases d<;>first|exact⟨_,rfl⟩|exact h2.elim
 obtain⟨xs,rfl⟩:=key;have h2:Run X.K cA (M.bd (M.opt (kO (λd=>ev aq true F B [some (.d d)]) xs)) λks=>M.bd (M.opt (jA (zZ ks) xs)) λys=>newL fz ys) U1 H1 st1 (λd _ U' H'=>∀v,aW X.K cA U' H' d v->Q v H') (eX X.K cA EX Z):=h2;obtain⟨ks,ek,h3⟩:=h2.nH;obtain⟨zs,ez,h4⟩:=h3.nH;obtain⟨kl,kf⟩:=ze6 ek;cases r1 with
 |d r1=>
 cases r1 with
 |@fl _ l vs hl1 rs=>
 cases ru;have hlen:=rs.len;obtain⟨pp,K7,nZ,hz⟩ : ∃pp:Array Nat,(2<=vs.length->bI (zZ ks) (kas_sort vs.length)=some pp/\pp.size=vs.length)/\vs.length<64/\∀{U':Ph} {H':Hp},aC X.K cA U' H' xs vs->aC X.K cA U' H' zs (fX vs pp):=by
  unfold jA at ez;by_cases c2:xs.length<2
  ·rw[if_pos c2] at ez;cases ez;refine⟨#[],λz=>absurd z gV,by lia,λr=>?_⟩;have:fX vs #[]=vs:=by unfold fX;rw[if_pos gV]
   rw[this];exact r
  ·rw[if_neg c2] at ez;by_cases c3:xs.length<64
   ·rw[if_pos c3] at ez;cases e:bI (zZ ks) (PySem.W.kas_sort xs.length) with
    |none=>rw[e] at ez;cases ez
    |some q=>
     rw[e] at ez;dsimp only at ez;by_cases hq:q.size=xs.length
     ·rw[if_pos hq] at ez;cases ez;refine⟨q,λ_=>⟨by rw[<-hlen];exact e,by lia⟩,by lia,λr=>?_⟩;have:fX vs q=q.toList.map λi=>vs.getD i .non:=by unfold fX;rw[if_neg gV]
      rw[this];exact r.DY q.toList
     ·rw[if_neg hq] at ez;cases ez
   ·rw[if_neg c3] at ez;cases ez
 show wpAny _ _ (evalAll [do let v <-eval (.Lambda params body scope yV) X.env;standAt pos;pure v]) _ _ s1;refine wpAny_evalAll_cons (aB (zic I1 on iH hC hl VJ oZ hq vR λfa c' ctv pm H2 s2 I2 gc tx=>aB (uF (aN (wpAny_evalAll_nil ?_)))));have x2:Ext ⟨U1.z,[]⟩ H1 ⟨U1.z,[]⟩ H2:=zjB tx;have r2:aD X.K cA ⟨U1.z,[]⟩ H2 []:=Lj λa z=>by obtain⟨o,e⟩:=aJ.zt a z;exact tx.st a o e
 refine zgI (G:=λH3=>∃U3,Ext ⟨U1.z,[]⟩ H2 U3 H3/\aD X.K cA U3 H3 []) (fo:=lamO params body scope pm c' ctv) (ys:=vs) (kz:=ks) (lt:=zZ ks) (p:=pp) I2 ⟨_,Ext.refl,r2⟩ (LstAt.tW (LstAt.mono (U:=⟨U1.z,[]⟩) x2 (λa ha=>by simp at ha) hl1)) gV nZ (λi v k' hv hk H3 ps s' u g3 bf En rv=>?_) (λi j b e=>?_) K7 λH' r g3 hn=>?_
 ·obtain⟨U3,x3,r3⟩:=g3;obtain⟨d,ed⟩ : ∃d,xs[i]?=some d:=by
   cases e:xs[i]? with
   |none=>rw[rs.none e] at hv;cases hv
   |some d=>exact⟨d,rfl⟩
  obtain⟨v2,ev2,rd⟩:=rs.get ed;rw[hv] at ev2;cases ev2;have ef:=kf i d k' ed hk;have rd3:Rep X.K cA U3 H3 d v:=((Rep.zl rd []).mono x2 λa ha=>by simp at ha).mono x3 λa ha=>by simp at ha
  obtain⟨oc,w,ws,tq,g1,g2,g4⟩:=gc;have gc3:GoodC H3 c':=⟨oc,w,ws,tq,x3.frame c' _ g1 trivial Zaa,g2,g4⟩;refine zhP (X:=X.Em) (CX:=fK X.prog X.w) (cm:=true) bf (bf.pin _ (lC _ En)).1 gc3 Sc (λ_=>bf.ok.hd hc) hr.depth (lq pm c' ctv) rv (hb fa c' s' H3) ?_ (λe s' z=>by obtain⟨_,_,_,_,_,_,_,_,_,_,z⟩:=z;exact z);refine⟨U3,[some (.d d)],[],⟨rfl,λj y e=>?_⟩,r3,?_⟩
  ·cases j with
   |zero=>simp at e;subst e;exact⟨v,rfl,.d rd3⟩
   |succ j=>simp at e
  ·unfold Run;rw[ef];intro U' H' x' r' v' rv';cases rv' with
   |d rv'=>
    cases rv';exact⟨rfl,U',x3.trans x',r'⟩
 ·unfold zZ at e;cases e1:ks[i]? with
  |none=>rw[e1] at e;cases e
  |some a=>
   cases e2:ks[j]? with
   |none=>rw[e1,e2] at e;cases e
   |some b'=>
    rw[e1,e2] at e;cases e;exact⟨a,b',rfl,rfl,rfl⟩
 ·obtain⟨U3,x3,r3⟩:=g3;obtain⟨xe,re⟩:=Li aJ (x2.trans x3) r3;have rs3:aC X.K cA ⟨U3.z,U1.l⟩ H' xs vs:=rs.mono xe aJ.lz;exact zev re (h4.ext xe) r _ hn (hz rs3)
end
structure JL(X:Cx):Prop where
 ex:∃c P,X.env.code=.ref c/\codeHdIn X.K c P=true/\j9 X.K c P=true/\Le X.K X.mg
structure Ep(K:Frag)(mg:Str->Option Value)(fd:FuncData):Prop where
 ex:∃c P,fd.code=.ref c/\codeHdIn K c P=true/\j9 K c P=true/\Le K mg
section
variable {X:Cx}{cA:Cl}{aq:Nat->Nat->Bool}{aj:Bool}{F:Fn}{EX:XS}{a:Expr}{A B:E}{fz:Bool}{k:Nat}{params:Arguments}{body:Expr}{scope:Scope}{p pos yV kpos:Pos}
theorem zkp(x:Str)(L:JL X)(hr:bG k X.A)(hc:X.aj=true)(hm:X.mg "sorted"=none)(hg:JK X "sorted" .globalImplicit)(ha:JE X cA aq aj F EX a A)
  (hb:∀fa c' s' H',JE (dI (fK X.prog X.w) X.prog X.w X.K X.mg X.base [x] jh scope fa (.ref c') X.A.in1.in1 X.stack s' H' (λ_ _ _=>False) true) cA aq aj F (λ_ _ _ _=>False) body B)
  (oZ:closureFor scope X.env=pure []:=by rfl) (hq:X.env.qual++"<lambda>"=jh:=by kernel_rfl) (vR:defaultsOf params X.env=([],[]):=by rfl)
  (lq:∀pm c' ctv u,bindArgs (kla_fn "<lambda>" jh params body scope [] pm (.ref c') ctv) ⟨[u],[]⟩=pure [(x,u)]:=by intros;rfl)
  (Sc:bZ [x] [x] scope:=by exact⟨rfl,rfl,rfl,dk,rfl,dk,dk⟩) (he:starEach [a] X.env=(false,eval a X.env)::starEach [] X.env:=by rfl) (on:rC=true:=by rfl) :
  JE X cA aq aj F EX (.Call (.Name "sorted" p) [a] [⟨some "key",.Lambda params body scope yV,kpos⟩] pos) (.rO fz A B):=by
 obtain⟨c,P,l1,l2,l3,l4⟩:=L.ex;exact⟨zhW on hc l1 l2 l3 l4 oZ hq vR Sc hr lq hm hg.o ha.o (λfa c' s' H'=>(hb fa c' s' H').o) he⟩
end
theorem fJL{P:Program}{w:World}{K:Frag}{mg:Str->Option Value}{base:Heap}{cA:Cl}{aq:Nat->Nat->Bool}{T:Nat->Option Df}{x:Str}{st:Stmt}{ps:List Str}{k n:Nat}{cm:Bool}{df:Df}(D:D3 K mg x st ps)(LK:Ep K mg (fdOf K x st))(N:List Str)(hT:T n=some df)
  (hb:∀(cdv:Value) (A:Around) (outer:List Env) (s:Shared) (H:Hp) (E:XK),bG k (A.deeper (envOfC x (au st) s.heap.objs.size (fZ K x) cdv))->JL (dI (fK P w) P w K mg base N x (au st) (fZ K x) cdv A outer s H E cm)->
   JB (dI (fK P w) P w K mg base N x (au st) (fZ K x) cdv A outer s H E cm) cA aq cm (λc=>call aq T k c) (λ_ C dx H'=>E C dx H') (aL st) df.body) (S:bZ N ps (au st):=by exact⟨rfl,rfl,rfl,dk,rfl,dk,dk⟩) (hp:df.iz=ps.length:=by rfl) (hm:df.many=N.length:=by rfl) :
  cG P w K mg base (fK P w) cm (k+1) (fZ K x) (fdOf K x st) ps (lW K cA (call aq T (k+1) cm n)):=by
 obtain⟨c,P',l1,l2,l3,l4⟩:=LK.ex;obtain⟨oc,od,kV,doc,pm,an,cdv,ct,osl,e,lk,iH⟩:=D.f.ex;rw[e] at lk l1 ⊢;have l1:cdv=.ref c:=l1;refine R7 lk iH S (λvs H Q E ⟨U,ds,s,r,hS,h⟩=>?_) λA outer s H vs Q E hr ⟨U,ds,st',r,hS,h⟩=>?_
 ·rw[<-r.len,(O7 hT h).1,hp]
 ·obtain⟨hl,h2⟩:=O7 hT h;exact⟨_,(hb cdv A outer s H E (hr.deeper _) ⟨c,P',l1,l2,l3,l4⟩).o,U,_,st',Uz r hl.symm hm,hS,h2⟩
structure lu(K:Frag)(h:Heap):Prop where
 ex:∃(q:Addr×FuncData) (c P:Addr),xr K "plain_rings"=some q/\q.2.code=.ref c/\codeHdIn K c P=true/\j9 K c P=true/\K.lookup P=none/\h.get? P=some (tabObj #[])/\(∀c' P',j9 K c' P'=true->P'=P)/\bmB K=true
theorem zjf{K:Frag}{c P:Addr}(h:j9 K c P=true):∃o,K.lookup c=some o/\mC o=some (.ref P):=by
 unfold j9 at h;split at h
 ·rename_i o e;refine⟨o,e,?_⟩;split at h
  ·rename_i vs ed;rw[gb] at h;obtain⟨h1,h2⟩:=h;split at h1
   ·rename_i q t e1;split at h2
    ·rename_i p Tn;unfold mC;rw[ed];dsimp only;rw[e1];dsimp only;rw[h1];dsimp only;rw[Tn,oA.mp h2]
    ·cases h2
   ·cases h1
  ·cases h
 ·cases h
theorem zkJ{K:Frag}{c P:Addr}{o:Obj}(e:K.lookup c=some o)(h:mC o=some (.ref P)):j9 K c P=true:=by
 unfold mC at h;split at h
 ·rename_i vs ed;split at h
  ·rename_i q t e1;split at h
   ·rename_i eq;unfold j9;rw[e];dsimp only;rw[ed];dsimp only;rw[e1,h];dsimp only;rw[eq];simp
   ·cases h
  ·cases h
 ·cases h
def zhC{o:Obj}(h:rB o=true):o=tabObj #[]:=by
 unfold rB at h;split at h
 ·rename_i vs sl;rw[gb] at h;rw[Array.isEmpty_iff.mp h.1,Array.isEmpty_iff.mp h.2]
 ·cases h
theorem zjU{K:Frag}{h:Heap}(e:BK K h=true):lu K h:=by
 unfold BK at e;split at e
 ·rename_i q hq;split at e
  ·rename_i c hc;split at e
   ·rename_i P hP;simp only[gb,iK] at e;obtain⟨⟨⟨⟨e1,e2⟩,e3⟩,e4⟩,e5⟩:=e;obtain⟨o,ho,hi⟩:=zp.mp hP;refine⟨q,c,P,hq,hc,e1,zkJ ho hi,by simpa using e2,?_,λc' P' hl=>?_,e4⟩
    ·unfold Io at e3;split at e3
     ·rename_i o' ql;rw[ql,zhC e3]
     ·cases e3
    ·obtain⟨o',ql,tK⟩:=zjf hl;have:=e5 (c',o') (Vp ql);dsimp only at this;rw[tK] at this;exact oA.mp this
   ·cases e
  ·cases e
 ·cases e
def lu.keeps{K:Frag}{h h':Heap}(L:lu K h)(k:∀b o,h.get? b=some o->h'.get? b=some o):lu K h':=by
 obtain⟨q,c,P,a1,a2,a3,a4,a5,a6,a7⟩:=L.ex;exact⟨q,c,P,a1,a2,a3,a4,a5,k _ _ a6,a7⟩
theorem zog{K:Frag}{h:Heap}{mg:Str->Option Value}(e:bmB K=true)(X:K.In h)(G:h.Ns mainGlobals mg):Le K mg:=by
 unfold bmB at e;split at e
 ·rename_i bm hb;split at e
  ·rename_i d sl hl;simp only[gb,oA,bne_iff_ne] at e;obtain⟨⟨e1,e2⟩,e3⟩:=e;exact⟨bm,_,mg_of X G hb,e2,e3,hl,rfl,by rw[e1],rfl⟩
  ·cases e
 ·cases e
theorem lu.lk{K:Frag}{h:Heap}{mg:Str->Option Value}(L:lu K h)(X:K.In h)(G:h.Ns mainGlobals mg)(st:Stmt):Ep K mg (fdOf K "plain_rings" st):=by
 obtain⟨q,c,P,a1,a2,a3,a4,a5,a6,a7,a8⟩:=L.ex;refine⟨c,P,?_,a3,a4,zog a8 X G⟩;unfold fdOf;rw[a1];exact a2
theorem zf0{P:Program}{w:World}{K:Frag}{mg mb:Str->Option Value}{CX:sZ}{k:Nat}{fa a:Addr}{fd:FuncData}{x:Str}{sp:Sp}{s₁:Shared}{vs:List Value}{ns:List Int}
  (KX:K.In s₁.heap) (hns:s₁.heap.Ns mainGlobals mg) (hb:s₁.heap.Ns builtinsNs mb) (hbb:∀x:Str,x≠"__name__"->mb x=bootBuiltins x) (V0:s₁.heap.NoLimit) (hg:s₁.gens=#[])
  (ha:s₁.heap.get? a=some {cls:=.type "list",data:=.seq vs.toArray}) (hi:IntsAre vs ns) (hl:ns.length<=sizeLine) (hr:bG k callerA)
  (F:∀base:Heap,K.In base->base.Ns mainGlobals mg->cG P w K mg base CX true k fa fd [x] sp) (lq:∀(s:Shared) (u:Value),BindsTo s fd ⟨[u],[]⟩ [(x,u)])
  (Oe:∀H:Hp,cY K H a (ns.map V.int)->sp [.ref a] H (λv _=>v=.bl true) λ_ _ _=>False)
  (hCX:∀H e s',CX [] H s₁ (λ_ _ _=>False) e s'->False) (LH:lu K s₁.heap) :
  codeAny (model P w) callerA (.call (.ref fa) ⟨[.ref a],[]⟩) (λr s'=>r=.ok (.ret (.bool true))/\OldK s₁.heap s'.heap/\s'.os=s₁.os/\AllBare s'.gens) s₁:=by
 have rv:=Zu hi;have lenV:=hi.length;obtain⟨q,c,T,a1,a2,a3,a4,a5,a6,a7,a8⟩:=LH.ex;have nTa:T≠a:=λz=>by rw[z,ha] at a6;cases a6
 have core:∀H:Hp,H T=some (.mD #[])->cY K H a (ns.map V.int)->i_ P w H s₁.heap->(∀b,H b≠none->b=T\/(b=a/\∃o xs,H b=some (.oH o (.lst xs))))->(H a≠none->K.lookup a=none)->
   codeAny (model P w) callerA (.call (.ref fa) ⟨[.ref a],[]⟩) (λr s'=>r=.ok (.ret (.bool true))/\OldK s₁.heap s'.heap/\s'.os=s₁.os/\AllBare s'.gens) s₁:=by
  intro H hT hS hok hA hK;have sG:∀{b:Addr} {o:Obj},s₁.heap.get? b=some o->H b=none->(m5 s₁.heap H).get? b=some o:=λe n=>zhU e n;have Jp:∀{b:Addr} {o:Obj} {es:Array DictEntry} {ep:Nat},s₁.heap.get? b=some o->o.data=.dict es ep->H b=none:=λ{b o es ep} e d=>by
   cases qq:H b with
   |none=>rfl
   |some u=>
    rcases hA b (by rw[qq];simp) with z|⟨z,_⟩
    ·subst z;rw[a6] at e;cases e;have d':Data.fields #[]=Data.dict es ep:=d;cases d'
    ·subst z;rw[ha] at e;cases e;have d':Data.seq vs.toArray _=Data.dict es ep:=d;cases d'
  have PL:∀{b:Addr} {m:Str->Option Value},s₁.heap.Ns b m->(m5 s₁.heap H).Ns b m:=λ{b m} ⟨o,es,ep,e,d,r⟩=>⟨o,es,ep,sG e (Jp e d),d,r⟩;have hKb:K.In (m5 s₁.heap H):=λb o e=>sG (KX b o e) (by
   cases qq:H b with
   |none=>rfl
   |some u=>
    rcases hA b (by rw[qq];simp) with z|⟨z,_⟩
    ·subst z;rw[a5] at e;cases e
    ·subst z;rw[hK (by rw[qq];simp)] at e;cases e)
  have hM:Mod K mg (m5 s₁.heap H):=⟨hKb,PL hns,⟨mb,PL hb,hbb⟩,let ⟨mc,h1,h2⟩:=V0;⟨mc,PL h1,h2⟩⟩;have e0:qw P w K mg (m5 s₁.heap H) callerA [] s₁ H:=⟨rfl,hM,λb o e=>zjS e,Nat.le_of_eq (zfS _ _),trivial,⟨λb hb=>absurd (show b∈([]:List Addr) from hb) Zaa,λ_ c' P' hc=>⟨#[],by rw[a7 c' P' hc];exact hT,.nil⟩⟩,hok,.of_eq hg⟩;refine zF ((F _ hKb (PL hns)).run callerA [] s₁ H ⟨[.ref a],[]⟩ [.ref a] [.ref a] _ _ (λ_=>rfl) hr e0 (lq s₁ (.ref a)) (.cons rfl .nil) (Oe H hS)) λr s' h=>?_;cases r with
  |error e=>exact(hCX H e s' h).elim
  |ok fl=>
   cases fl with
   |next=>exact False.elim h
   |brk=>exact False.elim h
   |cont=>exact False.elim h
   |ret u=>
    obtain⟨v,H',os,bare,un,Ln,r',q'⟩:=h;have q':v=.bl true:=q';subst q';obtain rfl:u=Value.bool true:=r';obtain⟨more,hT',_⟩:=un.jH T #[] hT;have oT:s'.heap.get? T=some (tabObj (#[]++more)):=Ln T _ hT';have ht₀:s₁.heap.TableAt c T #[]:=(codeHd_of_K KX a3).tab a6;have kept:∀b o,b≠T->s₁.heap.get? b=some o->s'.heap.get? b=some o:=λb o nb e=>by
     cases qq:H b with
     |none=>exact un.keep b o e qq (by intro z;exact absurd (show b∈([]:List Addr) from z) Zaa) Zaa
     |some u=>
      rcases hA b (by rw[qq];simp) with z|⟨_,ob,xs,z⟩
      ·exact absurd z nb
      ·have z2:=un.ji b ob _ z;obtain⟨e1,_⟩:=hok b _ z;obtain⟨e2,_⟩:=Ln b _ z2;rw[e] at e1;cases e1;exact e2
    refine⟨rfl,⟨λb o e=>?_,λb o e=>?_⟩,os,bare⟩
    ·by_cases z:b=T
     ·subst z;rw[a6] at e;cases e;exact .inr (.inl ⟨ht₀.isCodeTable,rfl,#[],more,rfl,oT⟩)
     ·exact .inl (kept b o z e)
    ·by_cases z:b=T
     ·exact⟨_,by rw[z];exact oT⟩
     ·exact⟨o,kept b o z e⟩
 have Aw:∀H,bL P w H s₁.heap T (.mD #[]):=λH=>a6;cases hk:K.lookup a with
 |some o=>
  have e:=KX a o hk;rw[ha] at e;cases e;refine core (λb=>if b=T then some (.mD #[]) else none) (if_pos rfl) (.inr ⟨_,vs.toArray,_,hk,rfl,rfl,rfl,by rw[eY,lenV];exact hl,by simpa using rv⟩) (λb u z=>?_) (λb z=>?_) λz=>absurd (if_neg (Ne.symm nTa)) z
  ·by_cases hb:b=T
   ·subst hb;have z':=(if_pos rfl).symm.trans z;cases z';exact Aw _
   ·have z':=(if_neg hb).symm.trans z;cases z'
  ·by_cases hb:b=T
   ·exact .inl hb
   ·exact absurd (if_neg hb) z
 |none=>
  refine core (λb=>if b=T then some (.mD #[]) else if b=a then some (.oH {cls:=.type "list",data:=.seq vs.toArray} (.lst (ns.map V.int))) else none) (if_pos rfl) (.inl (.inr ⟨{cls:=.type "list",data:=.seq vs.toArray},by show (if a=T then _ else _)=_;rw[if_neg (Ne.symm nTa),if_pos rfl]⟩)) (λb u z=>?_) (λb z=>?_) λ_=>hk
  ·by_cases hb:b=T
   ·subst hb;have z':=(if_pos rfl).symm.trans z;cases z';exact Aw _
   ·have z':=(if_neg hb).symm.trans z;by_cases uz:b=a
    ·have z'':=(if_pos uz).symm.trans z';cases z'';subst uz;exact⟨ha,by rw[cZ];exact hl,vs,_,rv,ha⟩
    ·have z'':=(if_neg uz).symm.trans z';cases z''
  ·by_cases hb:b=T
   ·exact .inl hb
   ·by_cases uz:b=a
    ·exact .inr ⟨uz,_,_,(if_neg hb).trans (if_pos uz)⟩
    ·exact absurd ((if_neg hb).trans (if_neg uz)) z
end Mi
namespace Mi
open PySem PySem.Spec PyProof.Rows L2
section
variable {K:W.Frag}{cA:Cl}{U:Ph}{H:Hp}{s:S}
theorem zeI{β:Type}{c:Nat}{x:Xv}{v:V}{k:List D->M β}{P:β->S->Ph->Hp->Prop}{Ee:Nat->List D->S->Ph->Hp->Prop}(r:aW K cA U H x v)(h:Run K cA (M.bd (tU c x) k) U H s P Ee) :
  ∃fs ad dx vs,v=.ref ad/\H ad=some (.ins (cA.b c) dx ((cA.g c).zip vs))/\aC K cA U H fs vs/\Run K cA (k fs) U H s P Ee:=by
 cases r with
 |l _=>exact h.elim
 |d r=>cases r with
  |@ob ad e fs vs q r=>
   have h2:Run K cA (M.bd (if e=c then M.ret fs else M.no) k) U H s P Ee:=h;clear h;by_cases z:e=c
   ·rw[if_pos z] at h2;subst z;obtain⟨_,dx,q1,_⟩:=q;exact⟨fs,ad,dx,vs,rfl,q1,r,h2⟩
   ·rw[if_neg z] at h2;exact h2.elim
  |_=>exact h.elim
theorem Run.qt'{α:Type}{m:M α}{P:α->S->Ph->Hp->Prop}{Ee Ee':Nat->List D->S->Ph->Hp->Prop}(h:Run K cA (M.qt m) U H s P Ee):Run K cA m U H s P Ee':=by
 unfold Run M.qt at *;cases e:m s with
 |none=>rw[e] at h;exact h
 |some r=>
  obtain⟨r,s1⟩:=r;rw[e] at h;cases r with
  |ok a=>exact h
  |er c f=>exact h.elim
theorem zcE:∀{ns:List Str} {vs:List V} {m:Str},m∉ns->(ns.zip vs).lookup m=none
 |[],vs,m,_=>by simp
 |n::ns,[],m,_=>by simp
 |n::ns,v::vs,m,h=>by
  rw[HD,qd,show (m==n)=false from Fp.mpr λe=>h (by simp[e])];exact zcE λz=>h (iJ _ z)
end
structure Ow(K:W.Frag)(cA:Cl)(c:Nat):Prop where
 cl:Cls K (cA.b c)
 nf:∀f∈cA.g c,iw K (cA.b c) f
 nd:(cA.g c).Nodup
section
variable {X:Cx}{cA:Cl}{aq:Nat->Nat->Bool}{aj:Bool}{F:Fn}{EX:XS}{a e:Expr}{es:List Expr}{A:E}{Xs:Es}{pos apos p:Pos}{x:Str}
theorem Er{c i:Nat}(o:Ow X.K cA c)(ha:JE X cA aq aj F EX a A)(hi:((cA.g c)[i]?==some x)=true:=by kernel_rfl)(hb:attributeBase a x X.env (eval a X.env)=eval a X.env:=by rfl):JE X cA aq aj F EX (.Attribute a x pos) (.of A c i):=⟨PE.weak (zlm ha.o hb) λZ H Q hh=>un hh λU J s hL hS h=>by
 refine bw hL hS h λy H1 U1 d1 s1 x1 hL1 aJ r1 h1=>?_;obtain⟨fs,ad,dx,vs,rfl,q1,q2,h2⟩:=zeI r1 h1;have hi:(cA.g c)[i]?=some x:=oA.mp hi;cases ef:fs[i]? with
 |none=>rw[ef] at h2;exact h2.elim
 |some d=>
  rw[ef] at h2;obtain⟨v,e1,rv⟩:=q2.get ef;exact⟨ad,_,dx,_,v,rfl,q1,o.cl,o.nf x (fG hi),zfw o.nd hi e1,h2.bN aJ v (.d rv)⟩⟩
def zgj:Passes (fK X.prog X.w) X λ_ _ _=>False:=λao Z H s e s' I h=>by
 obtain⟨_,_,_,_,_,_,_,_,_,_,z⟩:=h;exact z.elim
structure Mt(K:W.Frag)(C:Addr)(m q:Str)(st:Stmt)(ps:List Str)(f:Addr)(fd:FuncData):Prop where
 fn:n8 K m q st f fd
 mt:Meth K C m f
 bd:Binds K fd ps []
theorem yW{c f k:Nat}{cm:Bool}{m q:Str}{st:Stmt}{ps:List Str}{fa:Addr}{fd:FuncData}{pl:Sem Bool}(o:Ow X.K cA c)(D:Mt X.K (cA.b c) m q st ps fa fd)(Fo:cG X.prog X.w X.K X.mg X.base (fK X.prog X.w) cm k fa fd ps (lW X.K cA (F f)))(hr:bG k X.A)(ha:JE X cA aq aj F EX a A)(hb:JA X cA aq aj F EX (e::es) Xs)
  (hm:decide (m∉cA.g c)=true:=by kernel_rfl) (jo:cm=true->X.aj=true:=by first|exact λ_=>rfl|exact λz=>nomatch z) (he:aF e=true:=by rfl) (hpl:es.all aF=true:=by rfl)
  (ht:eval (.Call (.Attribute a m apos) (e::es) [] pos) X.env=(do
   let ov <-eval a X.env
   standAt apos.atName
   let (f,first) <-holding [ov] (getMethod ov m pl)
   callWith pos f first (backTo pos (starEach (e::es) X.env)) (backToKw pos (keywordEach [] X.env))):=by rfl):JE X cA aq aj F EX (.Call (.Attribute a m apos) (e::es) [] pos) (.cm c f A Xs):=⟨PE.weak (zkw (pl:=pl) (oO:=[]) ha.o o.cl D.mt Fo jo hr D.bd .nil zgj hb.o (bC he) (bH hpl) ht) λZ H Q hh=>un hh λU J s hL hS h=>by
 refine bw hL hS h λy H1 U1 d1 s1 x1 hL1 aJ r1 h1=>?_;obtain⟨fs,ad,dx,vs,rfl,q1,q2,h2⟩:=zeI r1 h1;refine⟨ad,dx,_,rfl,q1,zcE (iZ hm),qN hL1 aJ h2 λus H2 U2 ds s2 x2 hL2 aU r2 h3=>?_⟩;rw[zB];obtain⟨U0,s0,a1,a2,a3⟩:=zeB (EE:=λ_ _ _ _=>False) aU (.cons (r1.mono x2 aJ.lz) r2) (λ_ _ _ _ _ _ z=>z) (h3.qt');refine⟨U0,_,s0,a1,a2,?_⟩;unfold Run at a3 ⊢;split at a3
 ·exact a3
 ·exact λU' H' x r=>(a3 U' H' x r).elim
 ·exact a3⟩
end
def PN(K:W.Frag)(cA:Cl)(c:Nat)(m:List Xv->M Xv):Sp:=λvs H Q _=>∃x dx us U H0 xs s,vs=.ref x::us/\H0 x=none/\H0 dx=none/\dx≠x/\H=upd (upd H0 dx (.own x)) x (.ins (cA.b c) dx [])/\aR K cA U H0 xs us/\aD K cA U H0 s /\
 Run K cA (m (.d .any::xs)) U H0 s (λr _ U' H'=>∀ds ws,r=.d (.tup ds)->aC K cA U' H' ds ws->fO U' H' x (.ins (cA.b c) dx ((cA.g c).zip ws))->(cA.g c).length=ws.length->Q .non H') (λ_ _ _ _ _=>False)
section
variable {K:W.Frag}{cA:Cl}{U:Ph}{H:Hp}{s:S}
theorem zhJ{xs:List Xv}{vs:List V}(h:locs xs=[])(r:aR K cA U H xs vs)(l:List Addr):aR K cA ⟨U.z,l⟩ H xs vs:=by
 induction r with
 |nil=>exact .nil
 |cons a r ih=>cases a with
  |d a=>exact .cons (.d (Rep.zl a l)) (ih h)
  |l a=>cases h
theorem Ext.made{x dx:Addr}{C:Addr}(hx:H x=none)(hd:H dx=none)(hn:dx≠x):Ext U H (U.mark x) (upd (upd H dx (.own x)) x (.ins C dx [])):=by
 have g:bJ H (upd (upd H dx (.own x)) x (.ins C dx [])):=(bJ.new hd).trans (bJ.new (by rw[bW hn.symm];exact hx));exact⟨⟨[],by simp[Ph.mark],by simp⟩,λa z=>.inl z,λa z=>z.imp id λe=>by rw[e];exact hx,λa o h _ _=>g a o h,λa o h=>⟨o,g a o h⟩⟩
theorem aD.made{x dx:Addr}{C:Addr}(hS:aD K cA U H s)(hx:H x=none)(hd:H dx=none)(hn:dx≠x):aD K cA (U.mark x) (upd (upd H dx (.own x)) x (.ins C dx [])) s:=by
 have xt:=Ext.made (U:=U) (C:=C) hx hd hn;refine⟨hS.len,λn o a e1 e2=>(hS.obj n o a e1 e2).map (λu _ q=>?_) λ_ _ r=>r.mono xt hS.lz,hS.uniq,λa ha=>.inl (hS.lz a ha),λa z=>?_⟩
 ·have n1:a≠x:=λy=>by rw[y,hx] at q;cases q
  have n2:a≠dx:=λy=>by rw[y,hd] at q;cases q
  rw[bW n1,bW n2];exact q
 ·rcases z with z|z
  ·obtain⟨o,e⟩:=hS.zt a z;exact xt.stay a o e
  ·subst z;exact⟨_,iQ⟩
end
section
variable {X:Cx}{cA:Cl}{aq:Nat->Nat->Bool}{aj:Bool}{F:Fn}{EX:XS}{e:Expr}{es:List Expr}{Xs:Es}{pos p:Pos}{x:Str}
theorem zoT{c f k:Nat}{cm:Bool}{ps:List Str}{fa:Addr}{fd:FuncData}(M:Mk X.K (cA.b c) fa)(Fo:cG X.prog X.w X.K X.mg X.base (fK X.prog X.w) cm k fa fd ps (PN X.K cA c (F f)))(hr:∀us,bG k (X.A.under (.builtin "type.__call__" ⟨.ref (cA.b c)::us,[]⟩)))(hb:Binds X.K fd ps [])(hm:X.mg x=some (.ref (cA.b c)))(hg:JK X x .globalImplicit)
  (ha:JA X cA aq aj F EX (e::es) Xs) (h:okN x=true:=by kernel_rfl) (jo:cm=true->X.aj=true:=by first|exact λ_=>rfl|exact λz=>nomatch z) (he:aF e=true:=by rfl) (hpl:es.all aF=true:=by rfl):JE X cA aq aj F EX (.Call (.Name x p) (e::es) [] pos) (.mk c f Xs):=⟨PE.weak (zkY (oO:=[]) M Fo jo hr hg.o hm hb .nil zgj ha.o (vD h).1 (bC he) (bH hpl)) λZ H Q hh=>un hh λU J s hL hS h=>
 qN hL hS h λus H1 U1 ds s1 x1 hL1 aJ r1 h1 x dx hx hd hn=>by
  rw[zB];unfold Run T_ at h1;by_cases hl:locs ds=[]
  ·simp only[if_pos hl] at h1;refine⟨x,dx,us,⟨U1.z,[]⟩,H1,ds,[],rfl,hx,hd,hn,rfl,zhJ hl r1 [],⟨rfl,(λn o a e=>by simp at e),Bs,(λa ha=>by cases ha),aJ.zt⟩,?_⟩;unfold Run;cases e:F f (.d .any::ds) [] with
   |none=>simp only[e] at h1
   |some r=>
    obtain⟨r,s2⟩:=r;simp only[e] at h1;cases r with
    |er c f=>exact h1.elim
    |ok r=>
     intro U' H' xt aU ts ws er rs kp hlen;subst er;have nx:¬U1.z x:=aJ.nz hx;have ne:∀a o,H1 a=some o->a≠x:=λa o q y=>by rw[y,hx] at q;cases q
     have xt2:Ext U1 H1 ⟨λa=>U'.z a/\a≠x,U1.l⟩ H':=by
      refine⟨⟨[],by simp,by simp⟩,λa z=>⟨xt.qL a z,λy=>nx (y▸z)⟩,λa z=>xt.kY a z.1,λa o q t _=>xt.frame a o q t Zaa,xt.stay⟩
     refine⟨rfl,h1 _ H' xt2 ⟨aJ.len,λn o a e1 e2=>(aJ.obj n o a e1 e2).map (λu t q=>xt.frame a u q t Zaa) λ_ _ r=>r.mono xt2 aJ.lz,aJ.uniq,λa ha=>⟨xt.qL a (aJ.lz a ha),λy=>nx (y▸aJ.lz a ha)⟩,λa z=>aU.zt a z.1⟩ _ (.d (.ob ⟨λz=>z.2 rfl,dx,kp.at_,hlen⟩ (rs.lg (U':=⟨λa=>U'.z a/\a≠x,U1.l⟩) λ_ z=>z.1)))⟩
  ·simp only[if_neg hl] at h1⟩
end
structure yX(X:Cx)(cA:Cl)(aq:Nat->Nat->Bool)(aj:Bool)(F:Fn)(EX:XS)(c:Nat)(body:List Stmt)(is:Es)(ns:List Str):Prop where
 o:qm X body λD Z H=>∃U0 H0 U J s x dx done vs ys,Ext U0 H0 U H/\aZ X.K cA U H Z J/\aD X.K cA U H s/\H0 x=none/\Z[0]?=some (some (.ref x))/\fO U H x (.ins (cA.b c) dx (done.zip vs))/\aR X.K cA U H ys vs/\done.length=vs.length/\done++ns=cA.g c/\done.length+ns.length<=900 /\
  Run X.K cA (M.bd (evs aq aj F is J) λzs=>cL (ys++zs)) U0 H0 s (λes _ U' H'=>∀ws,aC X.K cA U' H' es ws->fO U' H' x (.ins (cA.b c) dx ((cA.g c).zip ws))->(cA.g c).length=ws.length->D.nx Z H') (eX X.K cA EX Z)
def ze5{f:Str}{v:V}:∀{fs:List (Str×V)},f∉fs.map (·.1)->fW f v fs=fs++[(f,v)]
 |[],_=>rfl
 |(g,x)::r,h=>by
  unfold fW;rw[if_neg λe=>h (by simp[e]),ze5 λz=>h (iJ _ z)];rfl
def aR.out{K:W.Frag}{cA:Cl}{U:Ph}{H H':Hp}(x:cM U H H'):∀{ds:List Xv} {vs:List V},aR K cA U H ds vs->aR K cA U H' ds vs
 |_,_,.nil=>.nil
 |_,_,.cons h r=>.cons (h.out x) (aR.out x r)
def aR.app{K:W.Frag}{cA:Cl}{U:Ph}{H:Hp}:∀{ds es:List Xv} {vs us:List V},aR K cA U H ds vs->aR K cA U H es us->aR K cA U H (ds++es) (vs++us)
 |_,_,_,_,.nil,s=>s
 |_,_,_,_,.cons h r,s=>.cons h (aR.app r s)
theorem Run.er{K:W.Frag}{cA:Cl}{U:Ph}{H:Hp}{s:S}{α:Type}{m:M α}{P:α->S->Ph->Hp->Prop}{Ee:Nat->List D->S->Ph->Hp->Prop}(h:Run K cA m U H s P λ_ _ _ _ _=>False):Run K cA m U H s P Ee:=by
 unfold Run at *;split at h
 ·exact h
 ·exact λU' H' x r=>(h U' H' x r).elim
 ·exact h
section
variable {X:Cx}{cA:Cl}{aq:Nat->Nat->Bool}{aj:Bool}{F:Fn}{EX:XS}{c:Nat}{a:Expr}{A:E}{is:Es}{ns:List Str}{body:List Stmt}{f:Str}{pos p p2:Pos}
theorem zlU:yX X cA aq aj F EX c [] .nil []:=⟨λao s Z H D I hh=>YS ao s Z H D I (by
 obtain⟨U0,H0,U,J,st,x,dx,done,vs,ys,xt,hL,hS,hx,h0,kp,rs,hl,hg,hz,h⟩:=hh;rw[zB] at hg;subst hg;have h2:Run X.K cA (M.bd (cL ys) M.ret) U H st (λes _ U' H'=>∀ws,aC X.K cA U' H' es ws->fO U' H' x (.ins (cA.b c) dx ((cA.g c).zip ws))->(cA.g c).length=ws.length->D.nx Z H') (eX X.K cA EX Z):=by
  have h3:=h.ext xt;unfold Run at h3 ⊢;have e0:M.bd (evs aq aj F .nil J) (λzs=>cL (ys++zs)) st=cL ys st:=by show cL (ys++[]) st=_;rw[zB]
  rw[e0] at h3;unfold M.bd;cases e1:cL ys st with
  |none=>rw[e1] at h3;exact h3
  |some r=>
   obtain⟨r,s2⟩:=r;rw[e1] at h3;cases r with
   |er c f=>exact h3
   |ok ds=>exact h3
 obtain⟨ds,_,rs2,h4⟩:=Uc rs h2;exact h4.bN hS vs rs2 kp hl)⟩
theorem PX{j:Nat}(ow:Ow X.K cA c)(ha:JE X cA aq aj F EX a A)(hr:yX X cA aq aj F EX c body is ns)(h0:(decide (X.N[0]?=some ("self" : Str))&&vP X.env.scope "self"&&okN "self")=true:=by kernel_rfl)
  (hs:swapsWith a (some (.Attribute (.Name "self" p) f p2)) pos.line X.env=pure false:=by rfl):yX X cA aq aj F EX c (.Assign [.Attribute (.Name "self" p) f p2] a pos::body) (.cons A is) (f::ns):=by
 rw[gb,gb] at h0;obtain⟨k,e,hv⟩:=VH h0.1.2;refine⟨λao s Z H D I hh=>YT (zmD (YJ (i:=0) (iZ h0.1.1) (by cases k<;>first|exact .inl e|exact .inr (.inl e)|exact .inr (.inr e)|cases hv) (vD h0.2).1 (vD h0.2).2.1) ha.o hs) hr.o ao s Z H D I ?_⟩;obtain⟨U0,H0,U,J,st,x,dx,done,vs,ys,xt,hL,hS,hx,hx0,kp,rs,hl,hg,hz,h⟩:=hh;have h:Run X.K cA (M.bd (M.bd (ev aq aj F A J) λy=>M.bd (evs aq aj F is J) λzs=>M.ret (y::zs)) λzs=>cL (ys++zs)) U0 H0 st _ _:=h;simp only[gP] at h;refine⟨U,J,st,hL,hS,(h.bd0 xt).imp λy s1 U1 H1 ⟨x1,aJ,h1⟩ v rv=>?_⟩;have P0:=kp.mono x1;have nf:f∈cA.g c:=by rw[<-hg];simp
 have nd:f∉done:=λz=>by
  have:=ow.nd;rw[<-hg,Nj] at this;exact this.2.2 f z f Zaa rfl
 have hk:(done.zip vs).map (·.1)=done:=by rw[List.map_fst_zip];lia
 refine⟨.ref x,hx0,x,_,dx,_,rfl,P0.at_,ow.cl,ow.nf f nf,?_,?_⟩
 ·have:(done.zip vs).length<=done.length:=by rw[List.length_zip];lia
  simp at hz
  lia
 rw[ze5 (by rw[hk];exact nd)];have ez:done.zip vs++[(f,v)]=(done++[f]).zip (vs++[v]):=by rw[List.zip_append hl];rfl
 rw[ez];have ox:cM U1 H1 (upd H1 x (.ins (cA.b c) dx ((done++[f]).zip (vs++[v])))):=P0.ext.1;refine⟨U0,H0,U1,J,s1,x,dx,done++[f],vs++[v],ys++[y],Ext.keep (vs:=[]) (xt.trans x1) hx,(hL.mono x1 hS.lz).out ox,aJ.keep P0,hx,hx0,P0.ext.2,((rs.mono x1 hS.lz).app (.cons rv .nil)).out ox,by simp[hl],by rw[<-hg,Nh];rfl,by simp at hz ⊢;lia,?_⟩;have h1:Run X.K cA (M.bd (evs aq aj F is J) λzs=>M.bd (M.ret (y::zs)) λzs=>cL (ys++zs)) U0 H0 s1 _ _:=h1;have e2:(λzs=>cL (ys++[y]++zs))=λzs=>M.bd (M.ret (y::zs)) λzs=>cL (ys++zs):=by
  funext zs
  rw[Nh];rfl
 rw[e2];exact h1
end
def zix{K:W.Frag}{cA:Cl}{U:Ph}{H:Hp}{s:S}{α:Type}{m m':M α}{P:α->S->Ph->Hp->Prop}{Ee:Nat->List D->S->Ph->Hp->Prop}(e:m s=m' s)(h:Run K cA m U H s P Ee):Run K cA m' U H s P Ee:=by
 unfold Run at *;rw[<-e];exact h
theorem zgN{aq:Nat->Nat->Bool}{T:Nat->Option Df}{k n m p:Nat}{cm:Bool}{is:Es}{xs:List Xv}{s:S}(hT:T n=some ⟨m,p,.cons (.ret (.tup is)) .nil⟩)(hl:xs.length=p) :
  call aq T (k+1) cm n xs s=M.bd (M.bd (evs aq cm (call aq T k cm) is (xs.map some++List.replicate (m-p) none)) cL) (λds=>M.ret (.d (.tup ds))) s:=by
 unfold call;simp only[hT,if_pos hl];show (match cP (ofM (M.bd (evs aq cm (call aq T k cm) is _) λvs=>M.bd (cL vs) λds=>M.ret (.d (.tup ds))) _ λx s=>some (.rt x,s)) _ s with|some (.nx _,s')=>_|some (.rt v,s')=>_|some (.er c fs _,s')=>_|_=>none)=_;rw[gP];unfold cP ofM;cases e:M.bd (evs aq cm (call aq T k cm) is (xs.map some++List.replicate (m-p) none)) (λvs=>M.bd (cL vs) λds=>M.ret (Xv.d (.tup ds))) s with
 |none=>rfl
 |some r=>
  obtain⟨r,s1⟩:=r;cases r<;>rfl
theorem zjz{P:Program}{w:World}{K:W.Frag}{mg:Str->Option Value}{base:Heap}{cA:Cl}{aq:Nat->Nat->Bool}{T:Nat->Option Df}{x qual:Str}{st:Stmt}{f:Addr}{fd:FuncData}{N ps:List Str}{k n c m p:Nat}{cm:Bool}{is:Es}(F:n8 K x qual st f fd)(hT:T n=some ⟨m,p,.cons (.ret (.tup is)) .nil⟩)
  (hb:∀(cdv:Value) (A:Around) (outer:List Env) (s:Shared) (H:Hp) (E:XK),bG k (A.deeper (envOfC qual (au st) s.heap.objs.size f cdv))->
   yX (dI (fK P w) P w K mg base N qual (au st) f cdv A outer s H E cm) cA aq cm (call aq T k cm) (λ_ C dx H'=>E C dx H') c (aL st) is (cA.g c)) (hg:(cA.g c).length<=900) (S:bZ N ps (au st):=by exact⟨rfl,rfl,rfl,dk,rfl,dk,dk⟩) (hp:p=ps.length:=by rfl) (hm:m=N.length:=by rfl) (h0:0<p:=by decide) :
  cG P w K mg base (fK P w) cm (k+1) f fd ps (PN K cA c (call aq T (k+1) cm n)):=by
 obtain⟨oc,od,kV,doc,pm,an,cdv,ct,osl,rfl,lk,iH⟩:=F.ex;have hlen:∀{U:Ph} {H:Hp} {s:Mi.S} {xs:List Xv} {P:Xv->Mi.S->Ph->Hp->Prop},Run K cA (call aq T (k+1) cm n (.d .any::xs)) U H s P (λ_ _ _ _ _=>False)->xs.length+1=p:=λ{U H s xs P} h=>by
  unfold call at h;simp only[hT] at h;by_cases hl:(Xv.d D.any::xs).length=p
  ·simpa using hl
  ·rw[if_neg hl] at h;exact h.elim
 refine R7 lk iH S (λvs H Q E ⟨x,dx,us,U,H0,xs,s,e,_,_,_,_,r,_,h⟩=>?_) λA outer s H vs Q E hr ⟨x,dx,us,U,H0,xs,st',e,hx,hd,hn,eH,r,hS,h⟩=>⟨_,(hb cdv A outer s H E (hr.deeper _)).o,?_⟩
 ·have:=hlen h;rw[e,iu,<-r.len,<-hp]
  lia
 ·subst e eH;have hl:=hlen h;have xt:=Ext.made (U:=U) (C:=cA.b c) hx hd hn;refine⟨U,H0,U.mark x,(Xv.d .any::xs).map some++List.replicate (m-p) none,st',x,dx,[],[],[],xt,Uz (.cons (.d (.any x)) (r.mono xt hS.lz)) (by simp;lia) hm,hS.made hx hd hn,hx,rfl,⟨iQ,λz=>hS.nz hx (hS.lz x z),.inr rfl,trivial⟩,.nil,rfl,rfl,by simpa using hg,?_⟩;have h2:=(zix (zgN hT (by simpa using hl)) h).bd0 Ext.refl;exact Run.er (Run.imp h2 λds s1 U1 H1 ⟨x1,aJ,h4⟩ ws rs kp hl=>h4 U1 H1 x1 aJ ds ws rfl rs kp hl)
section
variable {prog:Program}{w:World}{A:Around}{E:Value->Shared->Prop}{s:Shared}
theorem zd6{r:Addr}{n:Nat}{lo hi:Int}{t u v:Tok}{Q:List Value->Shared->Prop}(hh:A.handled=none)(hr:IsRange s.heap r lo hi 1 t u v)(hs:Builtin.Range.small lo hi 1=true)(hn:Builtin.Range.rangeSize lo hi 1=n)(hl:n<=65536)
  (q:∀(h':Heap) (tk:Nat) (acc:Array Value),(∀b o,s.heap.get? b=some o->h'.get? b=some o)->ItemsOf (λi v=>∃t,v=.int (lo+i*1) t) acc n->Q acc.toList {s with heap:=h',toks:=tk}):wpAny (model prog w) A (collect (.ref r)) Q E s:=by
 unfold collect;refine aB (wpAny_runValue (HW F.entry_proto_collect ?_));rw[Hz F.plain_proto_collect _];refine aB (m:=newList []) (HY (aN ⟨H_ F.plain_list_iadd _,HW F.entry_list_iadd ?_⟩));rw[Hz F.plain_list_iadd _];have fin:∀{r':Result} {s':Shared},(∃h' tk acc c,r'=.ok (.ret (.ref s.heap.objs.size))/\s'={s with heap:=h',toks:=tk}/\h'.get? s.heap.objs.size=some (seqObj "list" acc c)/\(∀b o,s.heap.get? b=some o->h'.get? b=some o)/\ItemsOf (λi v=>∃t,v=.int (lo+i*1) t) acc n)->(match r' with
   |.ok (.ret v)=>wpAny (model prog w) A (match v with
    |.ref a=>do
     match (<-load a).data with
      |.seq xs _=>pure xs.toList
      |_=>unsupported "internal:collect"
    |_=>unsupported "internal:collect") Q E s'
   |.ok _=>False
   |.error e=>E e s'):=λ{r' s'} z=>by
  obtain⟨h',tk,acc,c,rfl,rfl,hS,kp,ud⟩:=z;exact aB (wpAny_load hS (aN (q h' tk acc kp ud)))
 refine gj (wpAny_extend_range (A:=A) (s:={s with heap:=s.heap.push (seqObj "list" #[] 0)}) (R:=λr' s'=>∃h' tk acc c,r'=.ok (.ret (.ref s.heap.objs.size))/\s'={s with heap:=h',toks:=tk}/\h'.get? s.heap.objs.size=some (seqObj "list" acc c)/\(∀b o,s.heap.get? b=some o->h'.get? b=some o)/\ItemsOf (λi v=>∃t,v=.int (lo+i*1) t) acc n)
  hh (cD _ hr) hs hn gV s.heap.objs.size (.ref s.heap.objs.size) 0 (dX _ rfl) λh' tk acc c kp hS ud=>⟨h',tk,acc,c,rfl,rfl,hS,λb o e=>kp b o (cV (bR e)) (cD _ e),ud⟩) (λf s' z=>?_) λe s' z=>?_
 ·cases f with
  |done f=>exact fin z
  |again c'=>exact⟨z.1,zF z.2 λr s'' hr=>fin hr⟩
 ·obtain⟨_,_,_,_,e,_⟩:=z;cases e
end
theorem zfo(r:Addr)(lo hi:Int)(t u v:Tok)(n:Nat)(hs:Builtin.Range.small lo hi 1=true)(hn:Builtin.Range.rangeSize lo hi 1=n)(hl:n<=65536):Meets (Builtin.«tuple.__new__» ⟨[.type "tuple",.ref r],[]⟩)
   (λA R s=>A.handled=none/\IsRange s.heap r lo hi 1 t u v/\∀(h':Heap) (tk:Nat) (acc:Array Value),(∀b o,s.heap.get? b=some o->h'.get? b=some o)->ItemsOf (λi v=>∃t,v=.int (lo+i*1) t) acc n->R (.ok (.ret (.ref h'.objs.size))) {s with heap:=h'.push {cls:=.type "tuple",data:=.seq acc},toks:=tk}):=
 .of_wp λprog w A R s h=>by
  obtain⟨hh,hr,h⟩:=h;have hsub:=sub_tuple_self;have hinit:=init_tuple_lookup;have hmh:=madeHere_tuple;have hT:s.TypeIs (.ref r) "range":=⟨_,hr,rfl⟩;have V1:A.in1.handled=none:=hh
  wp_walk using Ia hT,M7 hr,zd6 V1 hr hs hn hl
  intro h' tk acc hk ud;show wpAny _ _ (Builtin.Tuple.tupleExact acc.toList.toArray >>= λv=>ret v) _ _ _;unfold Builtin.Tuple.tupleExact;have e:acc.toList.toArray=acc:=by simp
  rw[e];exact aB (pN (aN ⟨_,rfl,h h' tk acc hk ud⟩) (show acc.size<=sizeLine by rw[ud.1];exact jZ hl Tv))
section
variable {X:Cx}
theorem zcx{ao:List (Addr×Obj)}{Z:L2.St}{H:Hp}{s:Shared}{Q:VK}{hi:Int}{t u v:Tok}{tk:Nat}(hc:X.aj=true)(I:Inv X ao Z H s)(hk:okR 0 hi=true)
  (q:∀l,H l=none->Q (.ref l) (upd H l (.tup (G_ 0 (hi-0).toNat)))) :
  wpAny (model X.prog X.w) X.A (PySem.call (.type "tuple") [.ref s.heap.objs.size]) (EP X ao Z Q) X.xe {s with heap:=s.heap.push {cls:=.type "range",data:=.fields #[.int 0 t,.int hi u,.int 1 v]},toks:=tk}:=by
 obtain⟨h1,h2,h3,h4,h5⟩:=iZ hk;have en:Builtin.Range.rangeSize 0 hi 1=((hi-0).toNat:Nat):=by rw[rangeSize_one];split<;>lia
 refine callType_new F.called_tuple Tv (F.typeCall_tuple_1 _) (F.newCall_tuple_1 _) (λobj=>F.args_object_init_2 obj _) F.entry_tuple_new (zfo _ 0 hi t u v _ (small_one h1 h2 h3 h4) en h5) ⟨I.ok.hd hc,IsRange.new ..,λh' tk' acc kp ⟨z1,z2⟩=>?_⟩;have hv:Vals (G_ 0 (hi-0).toNat) acc.toList:=by
  have:=zjn (i:=0) (acc:=acc) (n:=(hi-0).toNat) (m:=0) (λk v e=>by
   obtain⟨t,e⟩:=z2 k v (by simpa using e);exact⟨t,by rw[e,Bw,Nat.zero_add]⟩) (by rw[qb];exact z1)
  simpa [G_] using this
 have hz:s.heap.objs.size<=h'.objs.size:=sU (bR (kp _ _ (dX s.heap rfl)));have I':=I.laid (a:=h'.objs.size) (o:=.tup (G_ 0 (hi-0).toNat)) (h':=h'.push {cls:=.type "tuple",data:=.seq acc}) (t':=tk') (λb u q=>cD _ (kp b u (cD _ q))) hz (show bL X.prog X.w _ _ _ (.tup (G_ 0 (hi-0).toNat)) from ⟨by
  rw[hv.length,qb,z1];exact jZ h5 Tv,acc.toList,hv,⟨_,dX _ rfl,rfl,0,by simp⟩⟩)
 exact⟨⟨_,dX _ rfl,rfl⟩,.ref h'.objs.size,_,I',rfl,q _ (I.hok.fresh hz)⟩
def Lp(vs:List V)(H:Hp)(Q:VK):Prop:=∃j:Int,vs=[.int j]/\okR 0 j=true/\∀l,H l=none->Q (.ref l) (upd H l (.tup (G_ 0 (j-0).toNat)))
theorem zlt{e:Expr}{t:TA}{p p' pos pos':Pos}(hc:X.aj=true)(hg:Gl X "tuple")(hm:X.mg "tuple"=none)(Lq:Gl X "range")(PB:X.mg "range"=none)(ha:PA X [e] t)(he:starEach [e] X.env=(false,eval e X.env)::starEach [] X.env:=by rfl) :
  PE X (.Call (.Name "tuple" p) [.Call (.Name "range" p') [e] [] pos'] [] pos) (R8 Lp t):=by
 intro ao s Z H Q I h;refine Bh (wB I hg hm O9 ?_);refine Bb ?_ rfl rfl;show wpAny _ _ (spliced ((false,eval (.Call (.Name "range" p') [e] [] pos') X.env)::backTo pos (starEach [] X.env))) _ _ s;refine Calls.spliced_cons ?_;refine Bh (wB I Lq PB boot_range ?_);refine Bb (aX (ha pos' ao s Z H _ I h) λus s1 ⟨vs,H1,I1,r1,q1⟩=>?_) he rfl;obtain⟨j,rfl,hk,q⟩:=q1;cases r1 with
 |cons r rr=>
  cases rr;obtain⟨t,rfl⟩:=r;exact call_range_1 (Calls.spliced_nil (zcx hc I1 hk q))
theorem znc{e:Expr}{te:TE}(h:PE X e te)(he:∀whole,isTrue e X.env whole=(do let v <-whole;standAt e.pos;holding [v] (truthy v))):PT X e (λZ H Q=>te Z H λx H1=>∃k,Cp X.K x H1 k/\Q k H1):=by
 intro ao s Z H Q I hw;exact isTrue_plain (aX (h ao s Z H _ I hw) λv s1 hx=>fH hx λx H1 I1 r1 q1=>zmq ao s1 Z H1 x v Q I1 r1 q1) (he _)
end
section
variable {K:W.Frag}{cA:Cl}{U:Ph}{H:Hp}
theorem zm4:bK K cA .yt Lp:=by
 intro U H ds vs Q zt rs o;have o:bM K cA U H (Dj ds) Q:=o;unfold Dj at o;split at o
 ·rename_i j _;obtain⟨v,rfl,r1⟩:=rs.one;cases (show Rep K cA U H (.int j) v from r1);by_cases hk:okR 0 j=true
  ·rw[if_pos hk] at o;exact⟨j,rfl,hk,λl hl=>o.tup zt (zfY _) hl⟩
  ·rw[if_neg hk] at o;exact o.elim
 ·exact o.elim
end
section
variable {X:Cx}{cA:Cl}{aq:Nat->Nat->Bool}{aj:Bool}{F:Fn}{EX:XS}{a e:Expr}{A:E}{pos pos' p p':Pos}{Xs:Es}{fz:Bool}
theorem V2(hc:X.aj=true)(hm:X.mg "tuple"=none)(hg:JK X "tuple" .globalImplicit)(PB:X.mg "range"=none)(Lq:JK X "range" .globalImplicit)(ha:JA X cA aq aj F EX [e] Xs)(he:aF e=true:=by rfl):JE X cA aq aj F EX (.Call (.Name "tuple" p) [.Call (.Name "range" p') [e] [] pos'] [] pos) (.pr fz .yt Xs):=⟨PE.weak (zlt hc hg.o hm Lq.o PB ha.o (bC he)) λZ H Q hh=>un hh λU J s hL hS h=>
 qN hL hS h λvs H1 U1 ds s1 x1 hL1 aJ r1 h1=>by
  obtain⟨ds,rs,h3⟩:=vh aJ r1 h1;exact zm4 U1 H1 ds _ _ aJ.zs rs (uh aJ h3)⟩
theorem zon(ha:JE X cA aq aj F EX a A)(he:Ah a=true:=by rfl):JT X cA aq aj F EX a (.Gz A):=⟨PT.weak (znc ha.o (by cases a<;>first|(intro _;rfl)|cases he)) λZ H Q hh=>un (zg8 hh) λU J s hL hS h=>by
 refine bw hL hS h λx H1 U1 d1 s1 x1 hL1 aJ r1 h1=>?_;obtain⟨dd,rv,h2⟩:=OJ aJ r1 h1;obtain⟨bb,e,h3⟩:=Run.nH h2;obtain⟨c,ec,q⟩:=h3.bN aJ _ (.d (.bl bb));cases ec;exact⟨bb,zmE rv e,q⟩⟩
end
def iB(h:Heap)(items:Array Value)(rows:List (List Int))(no:List Addr):Prop:=∀i v,items[i]?=some v->∃a xs,v=.ref a/\IsTup h a xs/\IntsAre xs.toList (rows.getD i [])/\a∉no
theorem iB.keep{h h':Heap}{items:Array Value}{rows:List (List Int)}{no:List Addr}(g:iB h items rows no)(k:∀b o,b∉no->h.get? b=some o->h'.get? b=some o):iB h' items rows no:=λi v e=>by
 obtain⟨a,xs,e1,⟨o,e2,r⟩,e3,e4⟩:=g i v e;exact⟨a,xs,e1,⟨o,k a o e4 e2,r⟩,e3,e4⟩
noncomputable abbrev wV(rows:List (List Int))(i j:Nat):Bool:=HT.lexLt (rows.getD i []) (rows.getD j [])
section
variable {prog:Program}{w:World}{A:Around}{R:Result->Shared->Prop}{I S l:Addr}{items:Array Value}{rows:List (List Int)}
theorem zkX{s:Shared}{i j:Nat}{u v:Value}{Q:Value->Shared->Prop}{E:Value->Shared->Prop}(hu:A.units<cLine)(g:iB s.heap items rows [I,S])(h1:items[i]?=some u)(h2:items[j]?=some v)(q:Q (.bool (wV rows i j)) s):wpAny (model prog w) A (richCompare .Lt u v) Q E s:=by
 obtain⟨a,xs,rfl,p1,i1,_⟩:=g i u h1;obtain⟨b,ys,rfl,p2,i2,_⟩:=g j v h2;exact HT.kj p1 p2 i1 i2 hu q
theorem zfD(hh:A.handled=none)(hu:A.units+1<cLine)(hlI:l≠I)(hS:S∉[I,l]):∀(k j:Nat) (s:Shared) (vb:Value) (c:Nat),items.size-(j+1)=k->j+1<=items.size->(s.heap.IsListIter I l (j+1)/\s.heap.IsList l items)->items[argBest (wV rows) j]?=some vb->iB s.heap items rows [I,S]->
  s.heap.get? S=some (seqObj "list" #[vb,vb] c)->(∀v h' tk,items[argBest (wV rows) (items.size-1)]?=some v->(∀b o,b∉[I,S]->s.heap.get? b=some o->h'.get? b=some o)->R (.ok (.ret v)) {s with heap:=h',toks:=tk})->
  codeAny (model prog w) A (.builtin "min.loop" ⟨[.ref I,.none,.ref S],[]⟩) R s:=by
 have W:=Walks.list (prog:=prog) (w:=w) (A:=A.in1) hh I l hlI items;have nm:(toString "min"++toString ".loop" : String)="min.loop":=by decide
 have SI:S∉[I]:=λz=>hS (by simp at z;simp[z]);intro k
 induction k with
 |zero=>
  intro j s vb c e1 e2 st hb g oS q;refine HW F.entry_min_loop ?_;rw[Hz Bq _];refine aB (m:=seqItems? (.ref S)) (sS oS rfl ?_);refine aB (m:=tryCatch (pyNext (.ref I)) _) (wpAny_tryCatch (W.done s _ _ ((show j+1=items.size by lia)▸st) λh' tk kp=>?_));refine aB (m:=updateSeq S λ_=>#[]) (wpAny_updateSeq (kp S _ SI oS) rfl (aB (zG (aN (q vb _ tk ?_ λb o hb e=>?_)))))
  ·rw[show items.size-1=j by lia];exact hb
  ·exact(wY _ _ (λz=>hb (by simp[z]))).trans (kp b o (λz=>hb (by simp at z;simp[z])) e)
 |succ k ih=>
  intro j s vb c e1 e2 st hb g oS q;refine HW F.entry_min_loop ?_;rw[Hz Bq _];refine aB (m:=seqItems? (.ref S)) (sS oS rfl ?_);refine aB (m:=tryCatch (pyNext (.ref I)) _) (wpAny_tryCatch (W.item (j+1) s _ _ gV st λv h' tk hP st' kp=>?_));have V3:=kp S _ SI oS;have g':iB h' items rows [I,S]:=g.keep λb o hb e=>kp b o (λz=>hb (by simp at z;simp[z])) e;refine aB (m:=tryCatch (holding [v,v] (richCompare .Lt v vb >>= _)) _) (wpAny_tryCatch (pQ (aB (zkX (A:=A.in1) (s:={s with heap:=h',toks:=tk}) hu g' hP hb ?_))));refine aB (pQ (v8 (aB (zG (aN ?_)))));cases e3:wV rows (j+1) (argBest (wV rows) j) with
  |true=>
   simp only[if_true];refine aB (wpAny_updateSeq V3 rfl (aB (zG ?_)));rw[nm];have Hl:∀b o,b≠S->h'.get? b=some o->(h'.update S (Obj.mapSeq λ_=>#[v,v])).get? b=some o:=λb o hb e=>(wY _ _ (Ne.symm hb)).trans e;refine aN ⟨H_ Bq _,ih (j+1) _ v _ gV gV (W.frame _ _ _ st' λb hb o e=>Hl b o (λz=>hS (by rw[<-z];exact hb)) e) (by simp only[argBest,e3,if_true];exact hP) (g'.keep λb o hb e=>Hl b o (λz=>hb (by simp[z])) e) (Bg _ V3 rfl) λv' h2 tk2 Lr Ls=>q v' h2 tk2 Lr λb o hb e=>Ls b o hb (Hl b o (λz=>hb (by simp[z])) (kp b o (λz=>hb (by simp at z;simp[z])) e))⟩
  |false=>
   simp only[sO,oE];refine aB (zG ?_);rw[nm];exact aN ⟨H_ Bq _,ih (j+1) _ vb c gV gV st' (by simp only[argBest,e3,sO,oE];exact hb) g' V3 λv' h2 tk2 Lr Ls=>q v' h2 tk2 Lr λb o hb e=>Ls b o hb (kp b o (λz=>hb (by simp at z;simp[z])) e)⟩
theorem zfl{s:Shared}{E:Value->Shared->Prop}{Q:Value->Shared->Prop}(hh:A.handled=none)(hu:A.units+2<cLine)(hl:s.heap.IsList l items)(h0:0<items.size)(g:iB s.heap items rows [])
  (q:∀v h' tk,items[argBest (wV rows) (items.size-1)]?=some v->(∀b o,s.heap.get? b=some o->h'.get? b=some o)->Q v {s with heap:=h',toks:=tk}):wpAny (model prog w) A (PySem.call (.builtin "min") [.ref l]) Q E s:=by
 have nm:(toString "min"++toString ".loop" : String)="min.loop":=by decide
 have cg:l<s.heap.objs.size:=by obtain⟨o,e,_⟩:=hl;exact bR e
 refine call_function_tree F.kind_min F.plain_min F.entry_min (F.args_min1 _) ?_;refine aB (m:=Builtin.Builtins.bindParams "min" ["key","default"] 0 ⟨[],[]⟩) (Gd (show Builtin.Builtins.bindParams "min" ["key","default"] 0 ⟨[],[]⟩=pure [none,none] from rfl) (aB (aN ?_)));refine aB (HJ hl (aB (pN ?_)));rw[nm];have n1:(s.heap.push {cls:=.type "list_iterator",data:=.fields #[.ref l,.int 0 0]}).objs.size=s.heap.objs.size+1:=uf ..;refine aN ⟨H_ Bq _,?_⟩;refine HW F.entry_min_loop ?_;rw[Hz Bq _];have W:=Walks.list (prog:=prog) (w:=w) (A:=A.in1) hh s.heap.objs.size l (cV cg) items;have oS:((s.heap.push {cls:=.type "list_iterator",data:=.fields #[.ref l,.int 0 0]}).push (seqObj "list" #[] 0)).get? (s.heap.objs.size+1)=some (seqObj "list" #[] 0):=by rw[<-n1];exact dX _ rfl
 have k0:∀b o,s.heap.get? b=some o->((s.heap.push {cls:=.type "list_iterator",data:=.fields #[.ref l,.int 0 0]}).push (seqObj "list" #[] 0)).get? b=some o:=λb o e=>cD _ (cD _ e);rw[n1];refine aB (m:=seqItems? (.ref (s.heap.objs.size+1))) (sS oS rfl ?_);refine aB (m:=tryCatch (pyNext (.ref s.heap.objs.size)) _) (wpAny_tryCatch (W.item 0 _ _ _ h0 ⟨⟨_,cD _ (dX _ rfl),rfl,rfl⟩,hl.at λo e=>k0 l o e⟩ λv h' tk hP st' kp=>?_));have ne1:s.heap.objs.size+1∉[s.heap.objs.size]:=by simp
 refine aB (m:=updateSeq (s.heap.objs.size+1) λ_=>#[v,v]) (wpAny_updateSeq (kp _ _ ne1 oS) rfl ?_);rw[nm];have Hl:∀b o,b≠s.heap.objs.size+1->h'.get? b=some o->(h'.update (s.heap.objs.size+1) (Obj.mapSeq λ_=>#[v,v])).get? b=some o:=λb o hb e=>(wY _ _ (Ne.symm hb)).trans e;have Lw:∀b o,s.heap.get? b=some o->(h'.update (s.heap.objs.size+1) (Obj.mapSeq λ_=>#[v,v])).get? b=some o:=λb o e=>Hl b o (cV (q_ (bR e))) (kp b o (by simpa using cV (bR e)) (k0 b o e));have out:∀b o,s.heap.get? b=some o->b∉[s.heap.objs.size,s.heap.objs.size+1]:=λb o e z=>by
  rcases iM.mp z with z|z
  ·exact absurd z (cV (bR e))
  ·exact absurd (Bj.mp z) (cV (q_ (bR e)))
 refine aN ⟨H_ Bq _,zfD (A:=A) (rows:=rows) hh gV (cV cg) (λz=>by
  rcases iM.mp z with z|z
  ·exact absurd z (Nat.succ_ne_self _)
  ·exact absurd (Bj.mp z) (qj (q_ cg))) _ 0 _ v _ rfl h0 (W.frame _ _ _ st' λb hb o e=>Hl b o (λz=>by
  rcases iM.mp hb with y|y
  ·exact absurd (z.symm.trans y) (Nat.succ_ne_self _)
  ·exact absurd (z.symm.trans (Bj.mp y)) (qj (q_ cg))) e) hP ?_ (Bg _ (kp _ _ ne1 oS) rfl) λv' h2 tk2 Lr Ls=>q v' h2 tk2 Lr λb o e=>Ls b o (out b o e) (Lw b o e)⟩
 intro i u e;obtain⟨a,xs,e1,⟨o,e2,r⟩,e3,_⟩:=g i u e;exact⟨a,xs,e1,⟨o,Lw a o e2,r⟩,e3,out a o e2⟩
end
theorem zeV{x:List Int}{rs:List (List Int)}:∀k,k<=rs.length->(x::rs).getD (argBest (wV (x::rs)) k) []=gB x (rs.take k)
 |0,_=>rfl
 |k+1,hk=>by
  have ih:=zeV (x:=x) (rs:=rs) k gV;have app:∀(a b:List (List Int)) (y:List Int),gB y (a++b)=gB (gB y a) b:=λa=>by
   induction a with
   |nil=>intro b y;rfl
   |cons z a ih=>intro b y;exact ih b _
  have ht:rs.take (k+1)=rs.take k++[rs[k]' gV]:=MP gV;have hv:(x::rs).getD (k+1) []=rs[k]' gV:=by
   rw[jT,Bf,dH gV];rfl
  rw[ht,app,<-ih];show _=(if ltI (rs[k]' gV) _=true then _ else _);rw[argBest.eq_2,Uj];unfold wV;rw[hv]
  split
  ·exact hv
  ·rfl
theorem zcy{K:W.Frag}{cA:Cl}{U:Ph}{H:Hp}:∀{xs:List D} {rs:List (List Int)} {vs:List V},kI xs=some rs->aC K cA U H xs vs->rs.length=vs.length/\∀(i:Nat) v,vs[i]?=some v->∃a,v=.ref a/\TupAt K U H a ((rs.getD i []).map .int)
 |[],rs,vs,h,r=>by cases h;cases r;exact⟨rfl,λi v e=>by simp at e⟩
 |d::xs,rs,vs,h,r=>by
  cases r with
  |cons q r=>cases q with
   |@tup a ys us t ts=>
    unfold kI at h;cases e1:cI ys with
    |none=>simp only[e1] at h;cases h
    |some is=>cases e2:kI xs with
     |none=>simp only[e1,e2] at h;cases h
     |some rr=>
      simp only[e1,e2] at h;cases h;obtain⟨l,k⟩:=zcy e2 r;refine⟨by simp[l],λi v e=>?_⟩;cases i with
      |zero=>
       simp at e;subst e;refine⟨a,rfl,?_⟩;show TupAt K U H a (is.map V.int);rw[<-show _=is.map V.int from O4 e1 ts];exact t
      |succ i=>exact k i v (by simpa using e)
   |_=>cases h
section
variable {X:Cx}{cA:Cl}{aq:Nat->Nat->Bool}{aj:Bool}{F:Fn}{EX:XS}{e:Expr}{pos p:Pos}{es:List Expr}{Xs:Es}{fz:Bool}
def vU(K:W.Frag)(vs:List V)(H:Hp)(Q:VK):Prop:=∃(l:Addr) (x:List Int) (rs:List (List Int)) (us:List V),vs=[.ref l]/\cY K H l us/\(x::rs).length=us.length/\(∀(i:Nat) v,us[i]?=some v->∃a,v=.ref a/\gw K H a (((x::rs).getD i []).map V.int))/\∀(i:Nat) a,us[i]?=some (.ref a)->(x::rs).getD i []=gB x rs->Q (.ref a) H
def zfK:∀{is:List Int} {us:List Value},Vals (is.map V.int) us->IntsAre us is
 |[],_,.nil=>.nil
 |_::is,_,.cons ⟨t,e⟩ r=>by subst e;exact .cons _ t (zfK r)
theorem zgc(hc:X.aj=true)(hu:X.A.units+2<cLine):cW X (.builtin "min") (vU X.K):=by
 intro ao s Z H xs us Q I r ⟨l,x,rs,ws,e,hl,hlen,Lx,q⟩;subst e;obtain⟨u,rfl,ru⟩:=Vals.one r;cases (show u=Value.ref l from ru);obtain⟨its,rv,pl,hz⟩:=I.list hl;have hL:=rv.length;have hsz:its.toArray.size=rs.length+1:=by rw[eY,<-hL,<-hlen];rfl
 refine zfl (rows:=x::rs) (I.ok.hd hc) hu pl.isList gV (λi v e=>?_) λv h' tk hP hk=>?_
 ·have hi:its[i]?=some v:=by simpa using e
  have cg:i<ws.length:=by rw[hL];exact(eG.mp hi).1
  obtain⟨a,ea,ht⟩:=Lx i _ (dH cg);obtain⟨v',e1,e2⟩:=rv.get (dH cg);rw[hi] at e1;cases e1;rw[ea] at e2;cases (show v=Value.ref a from e2);obtain⟨xs,rx,p,_⟩:=I.tuple ht;exact⟨a,_,rfl,p,by simpa using zfK rx,by simp⟩
 ·rw[hsz,Nat.add_sub_cancel] at hP;have hi:its[argBest (wV (x::rs)) rs.length]?=some v:=by simpa using hP
  have cg:argBest (wV (x::rs)) rs.length<ws.length:=by rw[hL];exact(eG.mp hi).1
  obtain⟨a,ea,ht⟩:=Lx _ _ (dH cg);obtain⟨v',e1,e2⟩:=rv.get (dH cg);rw[hi] at e1;cases e1;rw[ea] at e2;cases (show v=Value.ref a from e2);exact⟨.ref a,H,I.kept (h':=h') (t':=tk) hk,rfl,q _ a ((dH cg).trans (by rw[ea])) (by rw[zeV rs.length (cj _),Bp])⟩
theorem zi9{K:W.Frag}:bK K cA .tL (vU K):=by
 intro U H ds vs Q zt rs o;have o:bM K cA U H (o8 ds) Q:=o;unfold o8 at o;split at o
 ·rename_i xs _;obtain⟨v,rfl,rv⟩:=rs.one;obtain⟨a,us,rfl,sq,q⟩ : ∃a us,v=.ref a/\cY K H a us/\aC K cA U H xs us:=rv;split at o
  ·rename_i x r e;obtain⟨l,k⟩:=zcy e q;refine⟨a,x,r,us,rfl,sq,l,λi v ei=>?_,λi b ei hb=>?_⟩
   ·obtain⟨c,e1,e2⟩:=k i v ei;exact⟨c,e1,e2.jC⟩
   ·obtain⟨c,e1,e2⟩:=k i _ ei;cases e1;rw[hb] at e2;have rr:∀is:List Int,aC K cA U H (is.map D.int) (is.map V.int):=λis=>by
     induction is with
     |nil=>exact .nil
     |cons j is ih=>exact .cons (.int j) ih
    exact o.here (.tup e2 (rr _))
  ·exact o.elim
 ·exact o.elim
theorem zms{k:Nat}(hr:bG k X.A)(hc:X.aj=true)(hm:X.mg "min"=none)(hg:JK X "min" .globalImplicit)(ha:JA X cA aq aj F EX (e::es) Xs)(he:aF e=true:=by rfl)(hpl:es.all aF=true:=by rfl):JE X cA aq aj F EX (.Call (.Name "min" p) (e::es) [] pos) (.pr fz .tL Xs):=⟨yF (zgc hc (by have:=hr.un;lia)) zi9 hg.o hm PyProof.Rows.boot_min ha.o Tv Tv (bC he) (bH hpl)⟩
end
end Mi
namespace Mi
open PySem PySem.Spec PyProof.Rows L2 PySem.W
def iC(K:Frag)(C:Addr)(m:Str):Addr:=match mz K C m with
 |some p=>p.1
 |none=>0
def jR(K:Frag)(C:Addr)(m:Str)(st:Stmt):FuncData:=match mz K C m with
 |some p=>p.2
 |none=>Gj m m st
def zkx{fd:FuncData}{m q:Str}{st:Stmt}(h:oF fd=Gj m q st):fd=fnOf m q (aV st) (aL st) (au st) .none fd.kwdefaults fd.doc fd.pyModule fd.annotations fd.code fd.closureTuple:=by
 cases fd;unfold oF Gj at h;cases h;rfl
theorem znN{K:Frag}{C:Addr}{m q:Str}{st:Stmt}(h:(mz K C m).map (λp=>oF p.2)=some (Gj m q st)):n8 K m q st (iC K C m) (jR K C m st)/\Meth K C m (iC K C m):=by
 cases e:mz K C m with
 |none=>rw[e] at h;cases h
 |some p=>
  rw[e] at h;have hp:oF p.2=Gj m q st:=cJ h;have h1:iC K C m=p.1:=by unfold iC;rw[e]
  have h2:jR K C m st=p.2:=by unfold jR;rw[e]
  rw[h1,h2];unfold mz at e;split at e
  ·rename_i f hf;split at e
   ·rename_i oc od fd sl hl;split at e
    ·rename_i hc;cases e;simp only[gb] at hc;have eq:fd=_:=zkx hp;have qn:fd.qualname=q:=by rw[eq]
     exact⟨⟨⟨oc,od,_,_,_,_,_,_,sl,eq,hl,by rw[<-qn];exact hc.1.1⟩,hc.1.2⟩,hf,hc.2,hc.1.2⟩
    ·cases e
   ·cases e
  ·cases e
structure sH(fs:List (Str×Stmt))(ms:List uJ)(xs:List (Nat×Str))(l:Lk)(b:Bd)(K:Frag):Prop where
 i:mW fs ms xs l K
 m:∀p∈b.ms,n8 K p.1 p.2.1 p.2.2 (iC K (dY K b.n) p.1) (jR K (dY K b.n) p.1 p.2.2)/\Meth K (dY K b.n) p.1 (iC K (dY K b.n) p.1)
 b:zL K b=true
section
variable {K:Frag}{b:Bd}
theorem znx{cA:Cl}(h:zL K b=true)(hb:cA.b 0=dY K b.n)(hg:cA.g 0=b.fs)(nd:b.fs.Nodup):Ow K cA 0:=by
 unfold zL at h;simp only[gb,oA,iK] at h;obtain⟨⟨⟨⟨⟨⟨⟨h1,h2⟩,h3⟩,h4⟩,h5⟩,h6⟩,h7⟩,h8⟩:=h;exact⟨by rw[hb];exact⟨h2,h3,h4,h5⟩,λf hf=>by rw[hb];rw[hg] at hf;exact h8 f hf,by rw[hg];exact nd⟩
def znD{f:Addr}(h:zL K b=true)(m:Meth K (dY K b.n) "__init__" f):Mk K (dY K b.n) f:=by
 unfold zL at h;simp only[gb,oA,iK] at h;exact⟨h.1.1.2,m.at_,m.fn,h.1.2⟩
def znC{h:Heap}{mg:Str->Option Value}(z:zL K b=true)(X:K.In h)(G:h.Ns mainGlobals mg):mg b.n=some (.ref (dY K b.n)):=by
 unfold zL at z;simp only[gb] at z;exact znR z.1.1.1.1.1.1.1 X G
end
theorem bG.made{k:Nat}{A:Around}(r:bG (k+1) A)(env:Env)(C:Addr)(us:List Value):bG k ((A.deeper env).under (.builtin "type.__call__" ⟨.ref C::us,[]⟩)):=
 ⟨by have:=r.dp;rw[zfz];show A.depth+1+1+3*k+5<_;lia,by have:=r.un;rw[zfr];show A.units+3+1+16*k+200<_;lia,by
  have e:(A.deeper env).guards=some []:=r.gd;rw[<-e];cases h:(A.deeper env).guards<;>simp[Around.under,pushGuards,Code.guards,Code.isGuard,guardIds,h]⟩
section
variable {P:Program}{w:World}{K:Frag}{mg:Str->Option Value}{base:Heap}{cA:Cl}{aq:Nat->Nat->Bool}{T:Nat->Option Df}{x m q:Str}{st:Stmt}{ps:List Str}{k n:Nat}{cm:Bool}{df:Df}{C fa:Addr}{fd:FuncData}
theorem fM(D:Mt K C m q st ps fa fd)(N:List Str)(hT:T n=some df)
  (hb:∀(cdv:Value) (A:Around) (outer:List Env) (s:Shared) (H:Hp) (E:XK),bG k (A.deeper (envOfC q (au st) s.heap.objs.size fa cdv))->
   JB (dI (fK P w) P w K mg base N q (au st) fa cdv A outer s H E cm) cA aq cm (λc=>call aq T k c) (λ_ C dx H'=>E C dx H') (aL st) df.body) (S:bZ N ps (au st):=by exact⟨rfl,rfl,rfl,dk,rfl,dk,dk⟩) (hp:df.iz=ps.length:=by rfl) (hm:df.many=N.length:=by rfl) :
  cG P w K mg base (fK P w) cm (k+1) fa fd ps (lW K cA (call aq T (k+1) cm n)):=ziS D.fn S hT hp hm hb
def zh1{c:Nat}:cG P w K mg base (fK P w) cm 0 fa fd ps (PN K cA c (call aq T 0 cm n)):=
 ⟨λvs H Q E ⟨_,_,_,_,_,_,_,_,_,_,_,_,_,_,h⟩=>h.elim,λA outer s H args us vs Q E _ _ _ _ _ ⟨_,_,_,_,_,_,_,_,_,_,_,_,_,_,h⟩=>h.elim⟩
theorem fR(D:D3 K mg x st ps)(N:List Str)(hT:T n=some df)
  (hb:∀(cdv:Value) (A:Around) (outer:List Env) (s:Shared) (H:Hp) (E:XK),bG (k+1) A->
   JB (dI (fK P w) P w K mg base N x (au st) (fZ K x) cdv A outer s H E cm) cA aq cm (λc=>call aq T k c) (λ_ C dx H'=>E C dx H') (aL st) df.body) (S:bZ N ps (au st):=by exact⟨rfl,rfl,rfl,dk,rfl,dk,dk⟩) (hp:df.iz=ps.length:=by rfl) (hm:df.many=N.length:=by rfl) :
  cG P w K mg base (fK P w) cm (k+1) (fZ K x) (fdOf K x st) ps (lW K cA (call aq T (k+1) cm n)):=ziP D.f S hT hp hm λcdv A outer s H E hr=>(hb cdv A outer s H E hr).o
theorem V4{p p2:Str}(h:n8 K m q st fa fd/\Meth K C m fa)(hb:∀(kV doc pm:Value) (an:Option Addr) (cdv ct a b:Value),bindArgs (fnOf m q (aV st) (aL st) (au st) .none kV doc pm an cdv ct) ⟨[a,b],[]⟩=pure [(p,a),(p2,b)]:=by intros;rfl):Mt K C m q st [p,p2] fa fd:=⟨h.1,h.2,by
 obtain⟨oc,od,kV,doc,pm,an,cdv,ct,osl,rfl,lk,iH⟩:=h.1.ex;exact vH (hb kV doc pm an cdv ct)⟩
theorem zpb{p p2 p3:Str}(h:n8 K m q st fa fd/\Meth K C m fa)(hb:∀(kV doc pm:Value) (an:Option Addr) (cdv ct a b c:Value),bindArgs (fnOf m q (aV st) (aL st) (au st) .none kV doc pm an cdv ct) ⟨[a,b,c],[]⟩=pure [(p,a),(p2,b),(p3,c)]:=by intros;rfl):Mt K C m q st [p,p2,p3] fa fd:=⟨h.1,h.2,by
 obtain⟨oc,od,kV,doc,pm,an,cdv,ct,osl,rfl,lk,iH⟩:=h.1.ex;exact vI (hb kV doc pm an cdv ct)⟩
theorem zoO{p p2 p3 p4:Str}(h:n8 K m q st fa fd/\Meth K C m fa)(hb:∀(kV doc pm:Value) (an:Option Addr) (cdv ct a b c d:Value),bindArgs (fnOf m q (aV st) (aL st) (au st) .none kV doc pm an cdv ct) ⟨[a,b,c,d],[]⟩=pure [(p,a),(p2,b),(p3,c),(p4,d)]:=by intros;rfl):Mt K C m q st [p,p2,p3,p4] fa fd:=⟨h.1,h.2,by
 obtain⟨oc,od,kV,doc,pm,an,cdv,ct,osl,rfl,lk,iH⟩:=h.1.ex;exact vJ (hb kV doc pm an cdv ct)⟩
end
def ju(fs:List (Str×Stmt))(ms:List uJ)(xs:List (Nat×Str))(l:Lk)(b:Bd):Hook where
 α:=((List (Option FuncData)×List (Option FuncData)×Bool)×(List (Option FuncData)×Bool))×Bool
 obs:=λs=>((j8 fs ms xs l s,xG b s),oG s)
 val:=λw=>((lO fs ms w,xH b),true)
 says:=λ_ h=>∃K:Frag,K.In h/\sH fs ms xs l b K/\lu K h
 of:=λw s e=>by
  have e9:(j8 fs ms xs l s,xG b s)=(lO fs ms w,xH b):=lE Prod.fst e;have el:oG s=true:=lE Prod.snd e;have e0:j8 fs ms xs l s=lO fs ms w:=lE Prod.fst e9;have e4:xG b s=xH b:=lE Prod.snd e9;have e3:(_&&_&&_)=true:=lE (λx=>x.2.2) e0;rw[gb,gb,iK,iK] at e3;refine⟨bV s.heap,zhf,⟨⟨λp hp=>?_,Kab e3.1.1,λm hm=>?_,e3.1.2,λx hx=>zoy (e3.2 x hx)⟩,λp hp=>?_,lE Prod.snd e4⟩,zjU el⟩
  ·exact zox (Rh.mp (lE Prod.fst e0) p hp)
  ·exact znM (Rh.mp (lE (λx=>x.2.1) e0) m hm)
  ·exact znN (Rh.mp (lE Prod.fst e4) p hp)
 keeps:=λw h h' ⟨K,X,Y,Ul⟩ k=>⟨K,X.keeps k,Y,Ul.keeps k⟩
theorem Et{l:OpenLaw}{k:Nat}{q:Program}{loose:List Str}{XP:(Str->Option Value)->Heap->Prop}{fs:List (Str×Stmt)}{ms:List uJ}{xs:List (Nat×Str)}{lk:Lk}{b:Bd}{d:DefRec}{x:Str}(hn:l.most=some 63)(SM:d.params.defaults=[])(hr:bG k callerA)
  (F:∀(w:World) (K:Frag) (mg:Str->Option Value) (fa:Addr) (h:Heap),sH fs ms xs lk b K->lu K h->K.In h->h.Ns mainGlobals mg->mg d.name=some (.ref fa)->
   ∃fd:FuncData,(∀(s:Shared) (u:Value),BindsTo s fd ⟨[u],[]⟩ [(x,u)])/\∀base:Heap,K.In base->base.Ns mainGlobals mg->cG l.prog w K mg base (fK l.prog w) true k fa fd [x] (vG K)) :
  WalkO q loose XP (ju fs ms xs lk b).says l.row.toRowW d [] (λf vs=>PySem.call f vs):=by
 refine Zr.oV hn SM λw s₀ s₁ mg mb fa o pm cd doc a vs ns G Y ho hd iH hmg Cy hints hlen hg=>?_;obtain⟨K,KX,SY,LH⟩:=Y;obtain⟨fd,hb,hF⟩:=F w K mg fa _ SY LH KX G.T.g hmg;exact zf0 KX G.T.g G.T.b G.T.builtins G.T.nolimit hg Cy hints (jZ hlen Tv) hr hF hb (λH hS=>⟨a,ns,rfl,hS,hlen,trivial,λ_=>rfl⟩) (λH e s' h=>by
  obtain⟨_,_,_,_,_,_,_,_,_,_,z⟩:=h;exact z) LH
end Mi
namespace Mi
open PySem
def zdj{α:Type}{q:α->Bool}:∀l:List α,l.length=(l.filter q).length+(l.filter λx=>!q x).length
 |[]=>rfl
 |x::l=>by
  have:=zdj (q:=q) l;simp only[List.filter_cons];cases q x<;>simp<;>lia
theorem zmi{ps:List (Int×Int)}{n:Int}(h1:1<=n)(h8:n<=8)(ht:∀p∈ps,0<=p.1/\p.1<p.2/\p.2<n)(hi:ps.Pairwise lx):(ps.length:Int)<=7*n:=by
 have key:∀m:Nat,∀qs:List (Int×Int),(∀p∈qs,0<=p.1/\p.1<(m:Int)/\p.1<p.2/\p.2<n)->qs.Nodup->(qs.length:Int)<=7*m:=by
  intro m
  induction m with
  |zero=>
   intro qs hq _;cases qs with
   |nil=>simp
   |cons p r=>have:=hq p Zaa;lia
  |succ m ih=>
   intro qs hq nd;have h1:=ih (qs.filter λp=>decide (p.1<(m:Int))) (λp hp=>by
    obtain⟨a,b⟩:=jU.mp hp;have:=hq p a;have:=iZ b
    lia) (nd.filter _)
   have h2:(qs.filter λp=>!decide (p.1<(m:Int))).length<=(([1,2,3,4,5,6,7]:List Int).map λx=>((m:Int),x)).length:=zdm (nd.filter _) (λp hp=>by
    obtain⟨a,b⟩:=jU.mp hp;have:=hq p a;have b:¬p.1<(m:Int):=by simpa using b
    obtain⟨p1,p2⟩:=p;dsimp only at *;have e:p1=(m:Int):=by lia
    subst e;refine oh.mpr ⟨p2,?_,rfl⟩;have:p2=1\/p2=2\/p2=3\/p2=4\/p2=5\/p2=6\/p2=7:=by lia
    simpa using this)
   have h3:=zdj (q:=λp=>decide (p.1<(m:Int))) qs;simp only[cZ,iu,FW] at h2
   lia
 have:=key n.toNat ps (λp hp=>by have:=ht p hp;lia) (zih hi)
 lia
end Mi
namespace Mi
open PySem PySem.W L2
def sI(k d:Int)(ps:List (Int×Int))(hs:List Int):List (Int×Int):=ps.filter λp=>decide (gW k (at' hs p.1) (at' hs p.2)<d)
def Ho(k d:Int)(ps:List (Int×Int))(hs:List Int):D:=match sI k d ps hs with
 |[]=>.non
 |p::_=>eU p
def Eu{k d:Int}{ps:List (Int×Int)}{hs:List Int}:sI k d ps hs=[]↔Ej k d ps hs=true:=by
 unfold sI;rw[List.filter_eq_nil_iff,pG]
 constructor
 ·intro h p hp;have:=h p hp;simp at this
  lia
 ·intro h p hp;have:=h p hp;simp
  lia
end Mi
namespace Mi
open PySem
def W.c0{F:List Xv->M Xv}{xs:List Xv}{s:S}{e:D}{P:Xv->S->Prop}(h:W (F (dN 0 xs)) [] λv _=>v=.d e)(k:P (.d e) s)(hl:locs xs=[]:=by rfl):W (cO F xs) s P:=jQ hl (h.imp λ_ _ q=>⟨_,q,k⟩)
def W.c1{F:List Xv->M Xv}{xs:List Xv}{s:S}{P:Xv->S->Prop}(h:W (F (dN 0 xs)) [] λv _=>∃d,v=.d d)(k:∀d,P (.d d) s)(hl:locs xs=[]:=by rfl):W (cO F xs) s P:=jQ hl (h.imp λ_ _ ⟨d,q⟩=>⟨d,q,k d⟩)
section
variable {s:S}{o o' L L':SO}
def g1_:(s++[o]++[L])[s.length]?=some o:=by simp
def zn9:(s++[o]++[L]).set s.length o'=s++[o']++[L]:=by simp
theorem Kap{F:List Xv->M Xv}{xs:List Xv}{P:Xv->S->Prop}(hl:locs xs=[s.length])(h:W (F (dN 0 xs)) [o] λv s1=>∃d o',v=.d d/\s1=[o']/\P (.d d) (s++[o']++[L])):W (cO F xs) (s++[o]++[L]) P:=by
 refine Vt (n:=s.length) (o:=o) hl g1_ (h.imp λv s1=>?_);rintro⟨d,o',rfl,rfl,hp⟩;exact⟨d,o',rfl,rfl,by rw[zn9];exact hp⟩
end
theorem zeH{k d k2 d2 a b:Int}(hk:1<=k)(Ew:0<=k2)(Gv:k*d2<=k2*d)(h1:d<=a-b)(h2:a-b<=k-d):d2<=a*k2/k-b*k2/k/\a*k2/k-b*k2/k<=k2-d2:=by
 have Ey:0<k:=by lia
 have e1:b*k2/k*k<=b*k2:=Int.ediv_mul_le _ gV;have e2:b*k2<(b*k2/k+1)*k:=Int.lt_ediv_add_one_mul_self _ Ey;have f1:0<=(a-b-d)*k2:=Bt gV Ew;have f2:0<=(k-d-(a-b))*k2:=Bt gV Ew;rw[rm,rm] at f1;rw[rm,rm,rm] at f2;rw[wj,Gf] at e2;rw[ou k2 d] at Gv;have g1:b*k2/k+d2<=a*k2/k:=Q5 Ey (by rw[wj,ou d2 k];lia);have g2:a*k2/k<b*k2/k+k2-d2+1:=M_ Ey (by rw[wj,rm,wj,ou d2 k,ou k2 k,Gf];lia)
 lia
theorem P_{n k d k2 d2:Int}{ps:List (Int×Int)}{hs:List Int}(h:Web n ps)(hh:bO n k d ps hs)(hk:1<=k)(hd:1<=d)(Ew:1<=k2)(hd2:1<=d2)(Gv:k*d2<=k2*d):bO n k2 d2 ps (hs.map λx=>x*k2/k):=by
 have hl:=hh.len;refine⟨by rw[cZ];exact hl,λx hx=>?_,λp hp=>?_⟩
 ·obtain⟨y,hy,rfl⟩:=oh.mp hx;have:=hh.lo y hy;refine⟨Int.ediv_nonneg (Bt this.1 gV) gV,M_ gV ?_⟩;rw[ou k2 k];exact Int.mul_lt_mul_of_pos_right this.2 gV
 ·have ht:=h.tie p hp;rw[Av gV gV,Av gV gV];rcases(qU hd).mp (hh.fit p hp) with ⟨a,b⟩|⟨a,b⟩
  ·exact(qU hd2).mpr (.inl (zeH hk gV Gv a b))
  ·exact(qU hd2).mpr (.inr (zeH hk gV Gv a b))
noncomputable abbrev Fr:=List (Option (List Int))
noncomputable def bD:Option (List Int)->D
 |none=>.non
 |some l=>.tup (l.map .int)
noncomputable def cellK:Option (List Int)->Kx
 |none=>.non
 |some l=>.row l
def jG(F:Fr):D:=.tup (F.map bD)
def V5:∀l:List Int,cI (l.map .int)=some l
 |[]=>rfl
 |i::l=>by show Option.map _ (cI (l.map .int))=_;rw[V5 l];rfl
theorem Qa(F:Fr):kOf (jG F)=some (F.map cellK):=by
 show Dp (F.map bD)=_
 induction F with
 |nil=>rfl
 |cons c F ih=>
  have e:vd (bD c)=some (cellK c):=by
   cases c with
   |none=>rfl
   |some l=>show Option.map _ (cI (l.map .int))=_;rw[V5];rfl
  simp only[jx,Dp,e,ih]
theorem zgu:∀{F G:Fr},F.map cellK=G.map cellK->F=G
 |[],[],_=>rfl
 |[],_::_,h=>by cases h
 |_::_,[],h=>by cases h
 |c::F,e::G,h=>by
  simp only[jx,List.cons.injEq] at h;rw[zgu h.2]
  congr 1
  have h1:=h.1;cases c with
  |none=>cases e with
   |none=>rfl
   |some _=>cases h1
  |some l=>cases e with
   |none=>cases h1
   |some m=>cases h1;rfl
structure Bo(n k:Nat)(es:Nat->List Int)(A:Int->Int->Bool):Prop where
 hn:n<=8
 hk:k<=24
 mem:∀i,i<n->∀e∈es i,0<=e/\e<n/\e≠i
 sym:∀i e:Nat,i<n->e<n->(e:Int)∈es i->(i:Int)∈es e
 len:∀i,i<n->(es i).length<=8
 V6:∀a b:Int,0<=a->a<k->0<=b->b<k->A a b=A b a
structure Fv(n k:Nat)(F:Fr):Prop where
 len:F.length=n
 lo:∀(i:Nat) L,F[i]?=some (some L)->∀x∈L,0<=x/\x<k
 ll:∀(i:Nat) L,F[i]?=some (some L)->L.length<=24
 so:∀(i:Nat) L,F[i]?=some (some L)->L.Pairwise (·<·)
structure pI(es:Nat->List Int)(A:Int->Int->Bool)(F:Fr)(g:Nat->Int):Prop where
 mem:∀(i:Nat) L,F[i]?=some (some L)->g i∈L
 fit:∀(i e:Nat) L M,F[i]?=some (some L)->F[e]?=some (some M)->(e:Int)∈es i->A (g i) (g e)=true
def Sat(es:Nat->List Int)(A:Int->Int->Bool)(F:Fr):Prop:=∃g,pI es A F g
noncomputable def gK(f:Int->Bool)(F:Fr)(e:Int):Fr:=F.set e.toNat ((F[e.toNat]?.join).map (·.filter f))
def settle(es:Nat->List Int)(A:Int->Int->Bool)(F:Fr)(p:Nat)(x:Int):Fr:=(es p).foldl (gK (A x)) (F.set p none)
def zeJ{f:Int->Bool}{F:Fr}{e:Int}:(gK f F e).length=F.length:=qe ..
def V7{f:Int->Bool}:∀{l:List Int} {F:Fr},(l.foldl (gK f) F).length=F.length
 |[],F=>rfl
 |e::l,F=>by rw[Nr,V7,zeJ]
theorem zje{f:Int->Bool}{F:Fr}{e:Int}(h0:0<=e)(i:Nat)(hi:i<F.length):(gK f F e)[i]?=if (i:Int)=e then F[i]?.map (Option.map (·.filter f)) else F[i]?:=by
 unfold gK;by_cases z:(i:Int)=e
 ·have:e.toNat=i:=by lia
  rw[if_pos z,this,zu hi,dH hi];rfl
 ·rw[if_neg z,p8 gV]
theorem V8{f:Int->Bool}:∀{l:List Int} {F:Fr} (i:Nat),(∀e∈l,0<=e)->i<F.length->(l.foldl (gK f) F)[i]?=if (i:Int)∈l then F[i]?.map (Option.map (·.filter f)) else F[i]?
 |[],F,i,_,hi=>by simp
 |e::l,F,i,h,hi=>by
  rw[Nr,V8 i (λx hx=>h x (by simp[hx])) (by rw[zeJ];exact hi),zje (h e Zaa) i hi];have ff:∀c:Option (Option (List Int)),(c.map (Option.map (·.filter f))).map (Option.map (·.filter f))=c.map (Option.map (·.filter f)):=λc=>by
   cases c with
   |none=>rfl
   |some c=>cases c with
    |none=>rfl
    |some L=>simp
  by_cases a:(i:Int)=e
  ·by_cases b:(i:Int)∈l
   ·rw[if_pos b,if_pos a,if_pos (by simp[b]),ff]
   ·rw[if_neg b,if_pos a,if_pos (by simp[a])]
  ·by_cases b:(i:Int)∈l
   ·rw[if_pos b,if_neg a,if_pos (by simp[b])]
   ·rw[if_neg b,if_neg a,if_neg (by simp[a,b])]
section
variable {n k:Nat}{es:Nat->List Int}{A:Int->Int->Bool}{F:Fr}{p:Nat}{x:Int}{g:Nat->Int}
def zcP:(settle es A F p x).length=F.length:=by unfold settle;rw[V7,qe]
theorem zdE(B:Bo n k es A)(hF:F.length=n)(hp:p<n)(i:Nat)(hi:i<n):(settle es A F p x)[i]?=if i=p then some none else if (i:Int)∈es p then F[i]?.map (Option.map (·.filter (A x))) else F[i]?:=by
 unfold settle;rw[V8 i (λe he=>(B.mem p hp e he).1) (by rw[qe,hF];exact hi)];by_cases e:i=p
 ·subst e;rw[if_pos rfl,if_neg (λz=>(B.mem i hp _ z).2.2 rfl),zu (by rw[hF];exact hi)]
 ·rw[if_neg e,p8 (Ne.symm e)]
def qW{i:Nat}{c:Option (List Int)}(hF:F.length=n)(h:F[i]?=some c):i<n:=by rw[<-hF];exact(eG.mp h).1
theorem Qc(B:Bo n k es A)(hF:F.length=n)(hp:p<n){i:Nat}{M:List Int}(h:(settle es A F p x)[i]?=some (some M)):i≠p/\∃L,F[i]?=some (some L)/\M=if (i:Int)∈es p then L.filter (A x) else L:=by
 have hi:i<n:=qW (by rw[zcP];exact hF) h;rw[zdE B hF hp i hi] at h;by_cases e:i=p
 ·rw[if_pos e] at h;cases h
 ·rw[if_neg e] at h;refine⟨e,?_⟩;by_cases m:(i:Int)∈es p
  ·rw[if_pos m] at h;obtain⟨c,e1,e2⟩:=lB.mp h;cases c with
   |none=>cases e2
   |some L=>cases e2;exact⟨L,e1,by rw[if_pos m]⟩
  ·rw[if_neg m] at h;exact⟨M,h,by rw[if_neg m]⟩
theorem Ly(B:Bo n k es A)(hF:F.length=n)(hp:p<n){i:Nat}{L:List Int}(hi:i≠p)(h:F[i]?=some (some L)):(settle es A F p x)[i]?=some (some (if (i:Int)∈es p then L.filter (A x) else L)):=by
 rw[zdE B hF hp i (qW hF h),if_neg hi,h]
 split<;>rfl
theorem Lz(B:Bo n k es A)(v:Fv n k F)(hp:p<n):Fv n k (settle es A F p x):=by
 refine⟨by rw[zcP];exact v.len,λi M h=>?_,λi M h=>?_,λi M h=>?_⟩<;>obtain⟨_,L,e,rfl⟩:=Qc B v.len hp h
 ·intro y hy;refine v.lo i L e y ?_;split at hy
  ·exact(jU.mp hy).1
  ·exact hy
 ·split
  ·exact jZ (Nb _ _) (v.ll i L e)
  ·exact v.ll i L e
 ·split
  ·exact(v.so i L e).filter _
  ·exact v.so i L e
theorem Qd(B:Bo n k es A)(v:Fv n k F)(hp:p<n){L:List Int}(hL:F[p]?=some (some L))(s:pI es A F g):pI es A (settle es A F p (g p)) g:=by
 refine⟨λi M h=>?_,λi e M N h1 h2 he=>?_⟩
 ·obtain⟨_,L',e,rfl⟩:=Qc B v.len hp h;have:=s.mem i L' e
  split
  ·exact jU.mpr ⟨this,s.fit p i L L' hL e (by assumption)⟩
  ·exact this
 ·obtain⟨_,L',e1,_⟩:=Qc B v.len hp h1;obtain⟨_,L2,e2,_⟩:=Qc B v.len hp h2;exact s.fit i e L' L2 e1 e2 he
theorem zeW(B:Bo n k es A)(v:Fv n k F)(hp:p<n){L:List Int}(hL:F[p]?=some (some L))(hx:x∈L)(s:pI es A (settle es A F p x) g):pI es A F λi=>if i=p then x else g i:=by
 have ap:∀(i:Nat) M,i≠p->F[i]?=some (some M)->(i:Int)∈es p->A x (g i)=true/\(0<=g i/\g i<k):=λi M ni h m=>by
  have h2:=Ly (x:=x) B v.len hp ni h;have:=s.mem i _ h2;rw[if_pos m] at this;exact⟨(jU.mp this).2,v.lo i M h _ (jU.mp this).1⟩
 have hxk:=v.lo p L hL x hx;refine⟨λi M h=>?_,λi e M N h1 h2 he=>?_⟩
 ·by_cases z:i=p
  ·subst z;rw[if_pos rfl];rw[hL] at h;cases h;exact hx
  ·rw[if_neg z];have:=s.mem i _ (Ly (x:=x) B v.len hp z h);split at this
   ·exact(jU.mp this).1
   ·exact this
 ·have li:=qW v.len h1;have le:=qW v.len h2;by_cases z:i=p
  ·subst z;have ne:e≠i:=λq=>(B.mem i li _ he).2.2 (by rw[q]);rw[if_pos rfl,if_neg ne];exact(ap e N ne h2 he).1
  ·by_cases y:e=p
   ·subst y;rw[if_neg z,if_pos rfl];have m:=B.sym i e li le he;obtain⟨q1,q2⟩:=ap i M z h1 m;rw[B.V6 _ _ q2.1 q2.2 hxk.1 hxk.2];exact q1
   ·rw[if_neg z,if_neg y];exact s.fit i e _ _ (Ly (x:=x) B v.len hp z h1) (Ly (x:=x) B v.len hp y h2) he
def Hq(B:Bo n k es A)(v:Fv n k F)(hp:p<n){L:List Int}(hL:F[p]?=some (some L)):Sat es A F↔∃x∈L,Sat es A (settle es A F p x):=
 ⟨λ⟨g,s⟩=>⟨g p,s.mem p L hL,g,Qd B v hp hL s⟩,λ⟨x,hx,g,s⟩=>⟨_,zeW B v hp hL hx s⟩⟩
noncomputable def dF(es:Nat->List Int)(F:Fr)(p:Nat):Nat:=((es p).filter λe=>(F[e.toNat]?.join).isSome).length
def bnd(es:Nat->List Int)(F:Fr):Fr:=F.mapIdx λi c=>if 0<dF es F i then c else none
def ziX{i:Nat}:(bnd es F)[i]?=F[i]?.map λc=>if 0<dF es F i then c else none:=by unfold bnd;rw[List.getElem?_mapIdx]
def Ax{i:Nat}{L:List Int}(h:(bnd es F)[i]?=some (some L)):F[i]?=some (some L)/\0<dF es F i:=by
 rw[ziX] at h;obtain⟨c,e1,e2⟩:=lB.mp h;split at e2
 ·subst e2;exact⟨e1,by assumption⟩
 ·cases e2
def V9(v:Fv n k F):Fv n k (bnd es F):=⟨by unfold bnd;rw[List.length_mapIdx];exact v.len,λi L h=>v.lo i L (Ax h).1,λi L h=>v.ll i L (Ax h).1,λi L h=>v.so i L (Ax h).1⟩
def zem{i e:Nat}{L:List Int}(hm:(e:Int)∈es i)(h:F[e]?=some (some L)):0<dF es F i:=by
 unfold dF;refine List.length_pos_of_mem (a:=(e:Int)) (jU.mpr ⟨hm,?_⟩);rw[pO,h];rfl
theorem zjA(B:Bo n k es A)(v:Fv n k F)(ne:∀(i:Nat) L,F[i]?=some (some L)->L≠[]):Sat es A (bnd es F)↔Sat es A F:=by
 constructor
 ·rintro⟨g,s⟩;have to:∀(i:Nat) L,F[i]?=some (some L)->0<dF es F i->(bnd es F)[i]?=some (some L):=λi L h q=>by rw[ziX,h];show some (if _ then _ else _)=_;rw[if_pos q]
  refine⟨λi=>if 0<dF es F i then g i else ((F[i]?.join).getD []).headD 0,λi L h=>?_,λi e L M h1 h2 he=>?_⟩
  ·by_cases q:0<dF es F i
   ·rw[if_pos q];exact s.mem i L (to i L h q)
   ·rw[if_neg q,h];show L.headD 0∈L;cases L with
    |nil=>exact absurd rfl (ne i [] h)
    |cons a L=>exact lN
  ·have q1:=zem he h2;have q2:=zem (B.sym i e (qW v.len h1) (qW v.len h2) he) h1;rw[if_pos q1,if_pos q2];exact s.fit i e L M (to i L h1 q1) (to e M h2 q2) he
 ·rintro⟨g,s⟩;exact⟨g,λi L h=>s.mem i L (Ax h).1,λi e L M h1 h2 he=>s.fit i e L M (Ax h1).1 (Ax h2).1 he⟩
def V_(h:∀(i:Nat) L,F[i]?≠some (some L)):Sat es A F:=⟨λ_=>0,λi L q=>absurd q (h i L),λi _ L _ q=>absurd q (h i L)⟩
def zi7{i:Nat}(h:F[i]?=some (some [])):¬Sat es A F:=λ⟨g,s⟩=>nomatch s.mem i [] h
noncomputable def dU(k:Nat):List Int:=(List.range k).map λ(i:Nat)=>(i:Int)
def cT{k:Nat}{y:Int}:y∈dU k↔0<=y/\y<k:=by
 unfold dU;rw[oh]
 constructor
 ·rintro⟨i,hi,rfl⟩;have:=v9.mp hi;lia
 ·intro h;exact⟨y.toNat,v9.mpr gV,by lia⟩
theorem Wa(B:Bo n k es A)(v:Fv n k F)(hp:p<n)(hk:1<=k)(cN:∀t a b:Int,0<=a->a<k->0<=b->b<k->A ((a+t)%k) ((b+t)%k)=A a b)(all:∀(i:Nat) L,F[i]?=some (some L)->L=dU k)(hL:F[p]?=some (some (dU k))):Sat es A F↔Sat es A (settle es A F p 0):=by
 constructor
 ·rintro⟨g,s⟩;have md:∀z:Int,0<=z%(k:Int)/\z%(k:Int)<k:=λz=>⟨zE _ gV,Bk _ gV⟩;have s2:pI es A F λi=>(g i + -(g p))%k:=by
   refine⟨λi L h=>?_,λi e L M h1 h2 he=>?_⟩
   ·rw[all i L h];exact cT.mpr (md _)
   ·have a:=cT.mp (all i L h1▸s.mem i L h1);have b:=cT.mp (all e M h2▸s.mem e M h2);show A ((g i + -(g p))%k) ((g e + -(g p))%k)=true;rw[cN _ _ _ a.1 a.2 b.1 b.2];exact s.fit i e L M h1 h2 he
  have:=Qd B v hp hL s2;have e0:(g p + -(g p))%(k:Int)=0:=by rw[Int.add_right_neg];rfl
  simp only[e0] at this;exact⟨_,this⟩
 ·intro h;exact(Hq B v hp hL).mpr ⟨0,cT.mpr ⟨by lia,by lia⟩,h⟩
noncomputable def unset(F:Fr):Nat:=F.countP Option.isSome
theorem zdd:unset (bnd es F)<=unset F:=by
 unfold unset bnd;generalize dF es F=f
 induction F generalizing f with
 |nil=>simp
 |cons c F ih=>
  rw[List.mapIdx_cons,FQ,FQ];have:=ih (λi=>f (i+1));have e:(if (if 0<f 0 then c else none).isSome=true then 1 else 0)<=(if c.isSome=true then 1 else 0):=by
   split<;>split<;>simp_all
  lia
theorem zdo{F:Fr}:∀{p:Nat} {L:List Int},F[p]?=some (some L)->unset (F.set p none)+1=unset F:=by
 unfold unset
 induction F with
 |nil=>intro p L h;simp at h
 |cons c F ih=>
  intro p L h;cases p with
  |zero=>simp at h;subst h;simp
  |succ p=>
   have:=ih (p:=p) (L:=L) (by simpa using h);rw[List.set_cons_succ,FQ,FQ]
   lia
theorem zg0{f:Int->Bool}{F:Fr}{e:Int}:unset (gK f F e)<=unset F:=by
 unfold unset gK;generalize e.toNat=j
 induction F generalizing j with
 |nil=>simp
 |cons c F ih=>
  cases j with
  |zero=>cases c<;>simp
  |succ j=>
   rw[List.set_cons_succ,FQ,FQ,Bf];have:=ih j
   lia
def zcF{f:Int->Bool}:∀{l:List Int} {F:Fr},unset (l.foldl (gK f) F)<=unset F
 |[],F=>cj _
 |e::l,F=>jZ (zcF (l:=l)) zg0
def LC{L:List Int}(h:F[p]?=some (some L)):unset (settle es A F p x)+1<=unset F:=by
 have:=zcF (f:=A x) (l:=es p) (F:=F.set p none);have:=zdo h;unfold settle
 lia
def zcG(h:unset F=0)(i:Nat)(L:List Int):F[i]?≠some (some L):=λe=>by
 have:=List.countP_eq_zero.mp h _ (fG e);exact this rfl
def lY(es:Nat->List Int)(A:Int->Int->Bool)(kvs:jd):Prop:=∀F d,cF (F.map cellK) kvs=some d->∃b,d=.bl b/\(b=true↔Sat es A F)
theorem zeA{j q:List Kx}{d:D}:∀{kvs:jd},cF j (jL q d kvs)=if j=q then some d else cF j kvs:=by
 intro kvs;unfold jL;have app:∀{r:jd},cF j (r++[(q,d)])=match cF j r with|some e=>some e|none=>if j=q then some d else none:=λ{r}=>by
  induction r with
  |nil=>
   show (if q=j then some d else none)=if j=q then some d else none
   by_cases e:q=j
   ·rw[if_pos e,if_pos e.symm]
   ·rw[if_neg e,if_neg λz=>e z.symm]
  |cons p r ih=>
   rw[List.cons_append];unfold cF;by_cases e:p.1=j
   ·simp[e]
   ·simp only[e,oE];exact ih
 by_cases h:(cF q kvs).isSome=true
 ·rw[if_pos h];by_cases e:j=q
  ·subst e;rw[if_pos rfl]
   induction kvs with
   |nil=>simp[cF] at h
   |cons p r ih=>
    rw[jx];by_cases z:p.1=j
    ·rw[if_pos z];unfold cF;rw[if_pos z]
    ·rw[if_neg z];unfold cF at h ⊢;rw[if_neg z] at h ⊢;exact ih h
  ·rw[if_neg e];clear h
   induction kvs with
   |nil=>rfl
   |cons p r ih=>
    rw[jx];by_cases z:p.1=q
    ·rw[if_pos z];unfold cF;rw[if_neg (λy=>e (y.symm.trans z)),if_neg (λy=>e (y.symm.trans z))];exact ih
    ·rw[if_neg z];unfold cF;by_cases y:p.1=j
     ·rw[if_pos y,if_pos y]
     ·rw[if_neg y,if_neg y];exact ih
 ·rw[if_neg h,app];by_cases e:j=q
  ·subst e;have:cF j kvs=none:=by simpa using h
   simp[this]
  ·rw[if_neg e,if_neg e];cases cF j kvs<;>rfl
def zie{q:List Kx}{d:D}{kvs:jd}:(jL q d kvs).length<=kvs.length+1:=by
 unfold jL
 split
 ·rw[cZ];lia
 ·simp
theorem zjs{kvs:jd}{b:Bool}(h:lY es A kvs)(hb:b=true↔Sat es A F):lY es A (jL (F.map cellK) (.bl b) kvs):=λG d e=>by
 rw[zeA] at e;by_cases z:G.map cellK=F.map cellK
 ·rw[if_pos z] at e;cases e;rw[zgu z];exact⟨b,rfl,hb⟩
 ·rw[if_neg z] at e;exact h G d e
end
noncomputable def cnt(k:Nat):Nat->Nat
 |0=>1
 |m+1=>1+k*cnt k m
section
variable {aq:Nat->Nat->Bool}{aj:Bool}{F:Fn}{J:Vs}{s:S}{P:Xv->S->Prop}
def W.tU{c:Nat}{fs:List D}{P:List D->S->Prop}(h:P fs s):W (Mi.tU c (.d (.ob c fs))) s P:=by
 show W (if c=c then M.ret fs else M.no) s P;rw[if_pos rfl];exact W.ret h
theorem W.cm{c f:Nat}{o:E}{xs:Es}{fs:List D}{vs:List Xv}(h1:dD aq o J=some (.d (.ob c fs)))(h2:pF aq xs J=some vs)(k:W (cO (F f) (.d (.ob c fs)::vs)) s P):W (ev aq aj F (.cm c f o xs) J) s P:=
 W.bd (W.eq (gJ o _ h1) (W.bd (W.tU (W.bd (W.eq (jY xs h2) (W.qt k))))))
def W.tO(h:P (.l s.length) (s++[.dct []])):W (ev aq aj F .tO J) s P:=⟨_,_,rfl,h⟩
def W.key{x:D}{kx:List Kx}{P:List Kx->S->Prop}(e:kOf x=some kx)(h:P kx s):W (Mi.key (.d x)) s P:=W.opt e h
def W.gC{n:Nat}{kvs:jd}{P:Nat×jd->S->Prop}(e:s[n]?=some (.dct kvs))(h:P (n,kvs) s):W (Mi.gC (.l n)) s P:=⟨_,s,by unfold Mi.gC;simp only[e],h⟩
theorem W.CW{b:Bool}{k d:E}{x:D}{n:Nat}{kx:List Kx}{kvs:jd}(h1:dD aq k J=some (.d x))(h2:dD aq d J=some (.l n))(e:kOf x=some kx)(hn:s[n]?=some (.dct kvs))(h:P (.d (.bl ((cF kx kvs).isSome==b))) s):W (ev aq aj F (.CW b k d) J) s P:=
 W.bd (W.eq (gJ k _ h1) (W.bd (W.eq (gJ d _ h2) (W.bd (W.key e (W.bd (W.gC hn (W.ret h))))))))
theorem W.qG{d k:E}{x v:D}{n:Nat}{kx:List Kx}{kvs:jd}(h1:dD aq d J=some (.l n))(h2:dD aq k J=some (.d x))(e:kOf x=some kx)(hn:s[n]?=some (.dct kvs))(hv:cF kx kvs=some v)(h:P (.d v) s):W (ev aq aj F (.qG d k) J) s P:=
 W.bd (W.eq (gJ d _ h1) (W.bd (W.eq (gJ k _ h2) (W.bd (W.key e (W.bd (W.gC hn (W.opt (a:=.d v) (by show Option.map _ (cF kx kvs)=_;rw[hv];rfl) h))))))))
def W.Gz{a:E}(h:W (ev aq aj F a J) s λx s1=>W (rd x) s1 λd s2=>∃b,yw d=some b/\P (.d (.bl b)) s2):W (ev aq aj F (.Gz a) J) s P:=
 W.bd (h.imp λ_ _ h=>W.bd (h.imp λ_ _ ⟨_,e,h⟩=>W.bd (W.opt e (W.ret h))))
def KaK{xs:List D}{P:Src×Nat->S->Prop}(h:P (.fix (enumFrom 0 xs),(enumFrom 0 xs).length) s):W (o9 (.d (.tup xs))) s P:=⟨_,s,rfl,h⟩
theorem W.mk{c f:Nat}{xs:Es}{vs:List Xv}{ds:List D}(h:W (evs aq aj F xs J) s λus s1=>us=vs/\P (.d (.ob c ds)) s1)(hl:locs vs=[])(k:W (F f (.d .any::vs)) [] λv _=>v=.d (.tup ds)):W (ev aq aj F (.mk c f xs) J) s P:=by
 refine W.bd (h.imp λus s1 ⟨e,hp⟩=>?_);subst e;obtain⟨v,s2,e1,rfl⟩:=k;refine⟨_,s1,?_,hp⟩;unfold T_;rw[if_pos hl];simp only[e1]
end
theorem WS.dput{aq:Nat->Nat->Bool}{aj:Bool}{F:Bool->Fn}{J:Vs}{s:S}{Q:Out->S->Prop}{d k v:E}{x:D}{n:Nat}{kx:List Kx}(h1:dD aq d J=some (.l n))(h2:dD aq k J=some (.d x))(e:kOf x=some kx)
  (h:W (ev aq aj (F aj) v J) s λz s1=>∃w kvs,z=.d w/\s1[n]?=some (.dct kvs)/\kvs.length<sizeLine/\Q (.nx J) (s1.set n (.dct (jL kx w kvs)))):WS (ex aq aj F (.dput d k v) J) s Q:=by
 refine WS.ofM (W.bd (h.imp λz s1 ⟨w,kvs,ez,hn,hl,q⟩=>?_));subst ez;refine W.bd (W.dat (W.bd (W.eq (gJ d _ h1) (W.bd (W.eq (gJ k _ h2) (W.bd (W.key e (W.bd (W.gC hn ?_)))))))));rw[if_pos hl];exact⟨_,_,rfl,WS.nx q⟩
def zbL{α:Type}{f:α->D}:∀(l:List α) (j:Nat),enumFrom j (l.map f)=(l.zipIdx j).map λp=>.tup [.int p.2,f p.1]
 |[],j=>rfl
 |a::l,j=>by rw[jx,List.zipIdx_cons,jx,<-zbL l (j+1)];rfl
def KaV{o:Option Rz}{xs:List D}{s:S}{P:Xv->S->Prop}(e:o=some (.nw xs))(h:P (.l s.length) (s++[.lst xs])):W (cH false o) s P:=by subst e;exact⟨_,_,rfl,h⟩
def zi2{n:Nat}{j:Int}(h0:0<=j)(h:j<n):L2.tH n j=some j.toNat:=by
 unfold L2.tH;rw[if_pos h0,if_pos h]
def zja{n:Nat}{j:Int}(h0:j<0)(h : -(n:Int)<=j):L2.tH n j=some (j+n).toNat:=by
 unfold L2.tH;rw[if_neg gV,if_pos h]
theorem zor{xs:List D}{j:Int}{x:D}(h0:j<0)(h1 : -(xs.length:Int)<=j)(h:xs[(j+xs.length).toNat]?=some x):prim .ix [.fl xs,.int j]=some (.dat x):=by
 show Option.map Rz.dat (L2.rG xs j)=_;have:L2.rG xs j=some x:=by
  unfold L2.rG;rw[zja h0 h1];exact h
 rw[this];rfl
theorem zhT(F:Fr):memD (.tup []) (F.map bD)=some (decide (some []∈F)):=by
 induction F with
 |nil=>rfl
 |cons c F ih=>
  simp only[jx,memD,ih];cases c with
  |none=>simp[bD,c7,kq]
  |some l=>
   cases l with
   |nil=>
    have:c7 50 (bD (some [])) (.tup [])=some true:=rfl;rw[this];simp
   |cons a l=>
    have:c7 50 (bD (some (a::l))) (.tup [])=some false:=rfl;rw[this];simp
def znY{f:Bool->Bool}{F:Fr}:zW f [.tup [],jG F]=some (.dat (.bl (f (decide (some []∈F))))):=by
 show Option.map _ (memD (.tup []) (F.map bD))=_;rw[zhT];rfl
theorem zg4{k':Nat}:∀(a b:List Int),dj (c7 k') (a.map D.int) (b.map D.int)=some (decide (a=b))
 |[],[]=>by simp[dj]
 |[],_::_=>by simp[dj]
 |_::_,[]=>by simp[dj]
 |x::a,y::b=>by
  have hi:c7 k' (.int x) (.int y)=some (x==y):=by cases k'<;>rfl
  simp only[jx,dj,zg4 a b,hi]
  congr 1
  by_cases e:x=y<;>by_cases e2:a=b<;>simp[e,e2]
def zlj{f:Bool->Bool}{a b:List Int}:Dg f [.tup (a.map .int),.tup (b.map .int)]=some (.dat (.bl (f (decide (a=b))))):=by
 show Option.map _ (dj (c7 49) (a.map D.int) (b.map D.int))=_;rw[zg4];rfl
def zdD:∀rs:List (List Int),kI (rs.map λr=>D.tup (r.map .int))=some rs
 |[]=>rfl
 |r::rs=>by simp only[jx,kI,V5,zdD rs]
theorem Wb:∀(rs:List (List Int)) (b:List Int),gB b rs=b\/gB b rs∈rs
 |[],b=>.inl rfl
 |x::r,b=>by
  unfold gB
  split
  ·rcases Wb r x with h|h
   ·rw[h];exact .inr lN
   ·exact .inr (iJ _ h)
  ·rcases Wb r b with h|h
   ·exact .inl h
   ·exact .inr (iJ _ h)
theorem zlT{rs:List (List Int)}(h:rs≠[]):∃r∈rs,prim .tL [.fl (rs.map λr=>D.tup (r.map .int))]=some (.dat (.tup (r.map .int))):=by
 cases rs with
 |nil=>exact absurd rfl h
 |cons x r=>
  refine⟨gB x r,?_,?_⟩
  ·rcases Wb r x with h|h
   ·rw[h];exact lN
   ·exact iJ _ h
  ·show o8 [.fl ((x::r).map λr=>D.tup (r.map .int))]=_;unfold o8;simp only[zdD]
theorem zlM{n:Nat}(h:n<=65536):prim .yt [.int n]=some (.dat (.tup ((dU n).map .int))):=by
 show (if okR 0 (n:Int)=true then some (Rz.dat (.tup (Ka 0 ((n:Int)-0).toNat))) else none)=_;rw[if_pos (show okR 0 (n:Int)=true from fP gV)];unfold Ka dU;rw[Ib,show ((n:Int)-0).toNat=n by lia]
 congr 4
 funext i
 simp
noncomputable def Ez(n:Nat)(es:Nat->List Int):List D:=(List.range n).map λi=>.tup ((es i).map .int)
noncomputable def vV(k:Nat)(A:Int->Int->Bool):List D:=(List.range k).map λ(a:Nat)=>.fl ((List.range k).map λ(b:Nat)=>.bl (A a b))
def jw(al:Bool)(n k:Nat)(es:Nat->List Int)(A:Int->Int->Bool):D:=.ob 0 [.fl (Ez n es),.tup ((dU k).map .int),.fl (vV k A),.bl al]
abbrev boD(n k:Nat)(es:Nat->List Int)(A:Int->Int->Bool):D:=jw true n k es A
def zna{n:Nat}{es:Nat->List Int}{i:Nat}(h:i<n):(Ez n es)[i]?=some (.tup ((es i).map .int)):=by
 unfold Ez;rw[iG,Fw h];rfl
def zoj{k:Nat}{A:Int->Int->Bool}{a:Int}(h0:0<=a)(h:a<k):(vV k A)[a.toNat]?=some (.fl ((List.range k).map λ(b:Nat)=>.bl (A a b))):=by
 unfold vV;rw[iG,Fw gV];have:((a.toNat:Nat):Int)=a:=by lia
 simp[this]
def Wc{k:Nat}{f:Int->Bool}{b:Int}(h0:0<=b)(h:b<k):((List.range k).map λ(b:Nat)=>D.bl (f b))[b.toNat]?=some (.bl (f b)):=by
 rw[iG,Fw gV];have:((b.toNat:Nat):Int)=b:=by lia
 simp[this]
def LQ{F:Fr}{i:Nat}{c:Option (List Int)}(h:F[i]?=some c):(F.map bD)[i]?=some (bD c):=by rw[iG,h];rfl
def zjH{f:Int->Bool}{F:Fr}{e:Int}:(gK f F e).map bD=(F.map bD).set e.toNat (bD ((F[e.toNat]?.join).map (·.filter f))):=by
 unfold gK;rw[List.map_set]
def zhj{f:Int->Bool}{F:Fr}{e:Int}(h:F[e.toNat]?=some none):gK f F e=F:=by
 unfold gK;rw[h];obtain⟨hl,e2⟩:=eG.mp h;show F.set e.toNat none=F;rw[<-e2,List.set_getElem_self]
theorem zdS{α:Type}{p:Int->Bool}(l:List Int):l.filterMap (λy=>if p y=true then some (D.int y) else none)=(l.filter p).map .int:=by
 induction l with
 |nil=>rfl
 |cons a l ih=>
  rw[Fq,List.filter_cons];by_cases q:p a=true
  ·simp[q,ih]
  ·simp[q,ih]
def tot(k:Nat):Nat->Nat
 |0=>0
 |m+1=>k*cnt k m+tot k m
theorem Wd{k:Nat}{L:List Int}(h:L.Pairwise (·<·))(hb:∀x∈L,0<=x/\x<k):L.length<=k:=by
 have key:∀(L:List Int) (a:Int),L.Pairwise (·<·)->(∀x∈L,a<=x/\x<k)->a<=k->(L.length:Int)<=k-a:=by
  intro L
  induction L with
  |nil=>intro a _ _ ha;simp;lia
  |cons x r ih=>
   intro a h hb ha;rw[Fz] at h;have hx:=hb x Zaa;have:=ih (x+1) h.2 (λy hy=>by have:=h.1 y hy;have:=hb y (by simp[hy]);lia) gV;rw[iu]
   lia
 have:=key L 0 h hb gV
 lia
def cU(k d:Int)(a b:Int):Bool:=decide (d<=gW k a b)
section
variable {n k d:Int}{ps:List (Int×Int)}{ls:List Int}
def zha(hd:1<=d){a b:Int}:cU k d a b=cU k d b a:=by
 unfold cU;rw[uE,qU hd,qU hd]
 lia
theorem zfV(hd:1<=d)(t a b:Int)(a0:0<=a)(ak:a<k)(b0:0<=b)(bk:b<k):cU k d ((a+t)%k) ((b+t)%k)=cU k d a b:=by
 unfold cU;rw[uE,qU hd,qU hd];have e1:=Int.emod_add_mul_ediv (a+t) k;have e2:=Int.emod_add_mul_ediv (b+t) k;have u0:=zE (a+t) (b:=k) gV;have w0:=zE (b+t) (b:=k) gV;have uk:=Bk (a+t) (b:=k) gV;have wk:=Bk (b+t) (b:=k) gV;generalize (a+t)%k=u at *;generalize (b+t)%k=w at *;generalize (a+t)/k=q1 at *;generalize (b+t)/k=q2 at *;have e3:k*(q1-q2)=(a-b)-(u-w):=by rw[Ie];lia
 have c:q1-q2 = -1\/q1-q2=0\/q1-q2=1:=by
  have h1:q1-q2<2:=Int.not_le.mp λz=>by
   have:=zj z (show 0<=k by lia)
   lia
  have h2 : -2<q1-q2:=Int.not_le.mp λz=>by
   have:=zj z (show 0<=k by lia)
   lia
  lia
 rcases c with c|c|c<;>rw[c] at e3<;>lia
theorem qX(w:Web n ps){i e:Int}:e∈bx i ps↔(i,e)∈ps\/(e,i)∈ps:=by
 unfold bx;rw[zy]
 constructor
 ·rintro⟨p,hp,h⟩;obtain⟨a,b⟩:=p;unfold endOf at h;dsimp only at h;split at h
  ·cases h;subst_vars;exact .inl hp
  ·split at h
   ·cases h;subst_vars;exact .inr hp
   ·cases h
 ·rintro(hp|hp)
  ·exact⟨_,hp,by simp[endOf]⟩
  ·have:=w.tie _ hp;dsimp only at this;exact⟨_,hp,by unfold endOf;dsimp only;rw[if_neg gV,if_pos rfl]⟩
theorem zmO(w:Web n ps)(hd:1<=d)(hk:k<=24):Bo n.toNat k.toNat (λi=>bx i ps) (cU k d) where
 hn:=by have:=w.h8;lia
 hk:=by lia
 mem:=λi hi e he=>by
  have:=Py w he;refine⟨this.1,by lia,λz=>?_⟩;subst z;rcases(qX w).mp he with h|h<;>have:=w.tie _ h<;>dsimp only at this<;>lia
 sym:=λi e _ _ he=>(qX w).mpr ((qX w).mp he).symm
 len:=λi hi=>by
  have:=Wd (k:=n.toNat) (VD w i) (λx hx=>by have:=Py w hx;have:=w.h1;lia);have:=w.h8
  lia
 V6:=λa b _ _ _ _=>zha hd
def fC(n k:Int):Fr:=List.replicate n.toNat (some (dU k.toNat))
def Ay{i:Nat}{L:List Int}(h:(fC n k)[i]?=some (some L)):i<n.toNat/\L=dU k.toNat:=by
 unfold fC at h;rw[Bc] at h;split at h
 ·cases h;exact⟨by assumption,rfl⟩
 ·cases h
def Az{i:Nat}(h:i<n.toNat):(fC n k)[i]?=some (some (dU k.toNat)):=by
 unfold fC;rw[Bc,if_pos h]
theorem LR(hk:k<=24):Fv n.toNat k.toNat (fC n k) where
 len:=by unfold fC;simp
 lo:=λi L h x hx=>by rw[(Ay h).2] at hx;exact cT.mp hx
 ll:=λi L h=>by rw[(Ay h).2];unfold dU;simp;lia
 so:=λi L h=>by
  rw[(Ay h).2];unfold dU;rw[List.pairwise_map];exact List.pairwise_lt_range.imp (by intro a b h;lia)
theorem zeF(w:Web n ps)(hd:1<=d){hs:List Int}(h:bO n k d ps hs):pI (λi=>bx i ps) (cU k d) (fC n k) λj=>at' hs j where
 mem:=λi L e=>by
  obtain⟨h1,rfl⟩:=Ay e;have:=h.len;have:=h.lo _ (vO (fs:=hs) (j:=i) gV gV);exact cT.mpr gV
 fit:=λi e L M _ _ he=>by
  rcases(qX w).mp he with q|q
  ·have:=h.fit _ q;show cU k d (at' hs i) (at' hs e)=true;unfold cU;rw[HF];exact this
  ·have:=h.fit _ q;rw[zha hd];show cU k d (at' hs e) (at' hs i)=true;unfold cU;rw[HF];exact this
theorem zib(w:Web n ps){hs:List Int}(hl:hs.length=n.toNat)(s:pI (λi=>bx i ps) (cU k d) (fC n k) λj=>at' hs j):bO n k d ps hs where
 len:=by have:=w.h1;lia
 lo:=λx hx=>by
  obtain⟨j,hj,e⟩:=v7 hx;have:=s.mem j _ (Az gV);have e2:at' hs (j:Int)=x:=by
   unfold at';rw[pO,jT,dH hj,e];rfl
  rw[e2] at this;have:=cT.mp this
  lia
 fit:=λp hp=>by
  have ht:=w.tie p hp;obtain⟨a,b⟩:=p;dsimp only at ht;obtain⟨i,rfl⟩:=p7 ht.1;obtain⟨e,rfl⟩:=p7 (show 0<=b by lia);have:=s.fit i e _ _ (Az gV) (Az gV) ((qX w).mpr (.inl hp));unfold cU at this;rw[HF] at this;exact this
end
theorem Qe{k k2 m m2:Nat}(hk:k<=k2)(hm:m<=m2):cnt k m<=cnt k2 m2:=by
 have h1:∀m,cnt k m<=cnt k2 m:=by
  intro m
  induction m with
  |zero=>exact cj _
  |succ m ih=>exact Nat.add_le_add_left (Nat.mul_le_mul hk ih) 1
 have h3:∀m,1<=cnt k2 m:=λm=>by cases m<;>unfold cnt<;>lia
 by_cases c:k2=0
 ·subst c;have:k=0:=by lia
  subst this;cases m<;>cases m2<;>simp[cnt]
 ·have h2:∀j,cnt k2 m<=cnt k2 (m+j):=by
   intro j
   induction j with
   |zero=>exact cj _
   |succ j ih=>
    have:1*cnt k2 (m+j)<=k2*cnt k2 (m+j):=Nf _ gV;show _<=1+k2*cnt k2 (m+j)
    lia
  have:=h2 (m2-m);rw[show m+(m2-m)=m2 by lia] at this;exact jZ (h1 m) this
theorem zey{k k2 m m2:Nat}(hk:k<=k2)(hm:m<=m2):tot k m<=tot k2 m2:=by
 have h1:∀m,tot k m<=tot k2 m:=by
  intro m
  induction m with
  |zero=>exact cj _
  |succ m ih=>exact Nat.add_le_add (Nat.mul_le_mul hk (Qe hk (cj _))) ih
 have h2:∀j,tot k2 m<=tot k2 (m+j):=by
  intro j
  induction j with
  |zero=>exact cj _
  |succ j ih=>show _<=k2*cnt k2 (m+j)+tot k2 (m+j);lia
 have:=h2 (m2-m);rw[show m+(m2-m)=m2 by lia] at this;exact jZ (h1 m) this
theorem WS.aug{aq:Nat->Nat->Bool}{aj:Bool}{F:Bool->Fn}{J:Vs}{s:S}{Q:Out->S->Prop}{i:Nat}{e:E}{p q:Int}(h1:J[i]?.join=some (.d (.int p)))(h2:dD aq e J=some (.d (.int q)))(h:Q (.nx (J.set i (some (.d (.int (p+q)))))) s):WS (ex aq aj F (.aug i e) J) s Q:=
 WS.ofM (W.bd (W.opt h1 (W.bd (W.eq (gJ e _ h2) (W.bd (W.int (W.bd (W.int (W.ret (WS.nx h))))))))))
def zmK{a k:Int}(h:0<k):0<=a%k/\a%k<k:=⟨zE _ gV,Bk _ h⟩
noncomputable def pJ(k m:Int)(hs:List Int):List Int:=hs.map λx=>(x+m)%k
section
variable {n k d m:Int}{ps:List (Int×Int)}{hs:List Int}
theorem zgK(w:Web n ps)(hd:1<=d)(hk:1<=k)(h:bO n k d ps hs):bO n k d ps (pJ k m hs) where
 len:=by unfold pJ;rw[cZ];exact h.len
 lo:=λx hx=>by
  obtain⟨y,_,rfl⟩:=oh.mp hx;exact zmK gV
 fit:=λp hp=>by
  have ht:=w.tie p hp;have hl:=h.len;have a:=h.lo _ (vO (fs:=hs) (j:=p.1) gV gV);have b:=h.lo _ (vO (fs:=hs) (j:=p.2) gV gV);unfold pJ;rw[Av gV gV,Av gV gV];have:=zfV (k:=k) hd m _ _ a.1 a.2 b.1 b.2;unfold cU at this;rw[uE] at this;exact this.mpr (h.fit p hp)
def zkl(h:bO n k d ps hs):sI k d ps hs=[]:=Eu.mpr (pG.mpr h.fit)
def zk6:(Ho k d ps hs).o7=decide (sI k d ps hs=[]):=by
 unfold Ho;cases sI k d ps hs with
 |nil=>rfl
 |cons p r=>rfl
def zfP(k a b:Int):gW k a b=gW k b a:=by
 unfold gW
 split<;>split<;>(try split)<;>(try split)<;>lia
end
section
variable {n k d q:Int}{ps qs:List (Int×Int)}{hs:List Int}
def zdI(h1:1<=n)(hk:1<=k):bO n k d [] (List.replicate n.toNat 0):=⟨by simp;lia,λx hx=>by rw[List.eq_of_mem_replicate hx];lia,λp hp=>by cases hp⟩
end
section
variable {n k m:Int}{ps qs:List (Int×Int)}{A:Int->Int->Bool}
structure lZ(n k:Int)(A:Int->Int->Bool)(ps:List (Int×Int))(hs:List Int):Prop where
 len:(hs.length:Int)=n
 lo:∀x∈hs,0<=x/\x<k
 fit:∀p∈ps,A (at' hs p.1) (at' hs p.2)=true
theorem zmL(w:Web n ps)(hk:k<=24)(hA:∀a b:Int,0<=a->a<(k.toNat:Nat)->0<=b->b<(k.toNat:Nat)->A a b=A b a):Bo n.toNat k.toNat (λi=>bx i ps) A where
 hn:=by have:=w.h8;lia
 hk:=by lia
 mem:=λi hi e he=>by
  have:=Py w he;refine⟨this.1,by lia,λz=>?_⟩;subst z;rcases(qX w).mp he with h|h<;>have:=w.tie _ h<;>dsimp only at this<;>lia
 sym:=λi e _ _ he=>(qX w).mpr ((qX w).mp he).symm
 len:=λi hi=>by
  have:=Wd (k:=n.toNat) (VD w i) (λx hx=>by have:=Py w hx;have:=w.h1;lia);have:=w.h8
  lia
 V6:=hA
theorem zgB(w:Web n ps)(hA:∀a b:Int,0<=a->a<(k.toNat:Nat)->0<=b->b<(k.toNat:Nat)->A a b=A b a){hs:List Int}(h:lZ n k A ps hs):pI (λi=>bx i ps) A (fC n k) λj=>at' hs j:=by
 have hl:=h.len;have lo:∀j:Nat,j<n.toNat->0<=at' hs j/\at' hs j<(k.toNat:Nat):=λj hj=>by
  have:=h.lo _ (vO (fs:=hs) (j:=j) gV gV)
  lia
 refine⟨λi L e=>?_,λi e L M h1 h2 he=>?_⟩
 ·obtain⟨q,rfl⟩:=Ay e;exact cT.mpr (lo i q)
 ·have l1:=lo i (Ay h1).1;have l2:=lo e (Ay h2).1;rcases(qX w).mp he with q|q
  ·exact h.fit _ q
  ·have:=h.fit _ q;dsimp only at this ⊢;rw[hA _ _ l1.1 l1.2 l2.1 l2.2];exact this
theorem zkc(w:Web n ps){hs:List Int}(hl:hs.length=n.toNat)(s:pI (λi=>bx i ps) A (fC n k) λj=>at' hs j):lZ n k A ps hs where
 len:=by have:=w.h1;lia
 lo:=λx hx=>by
  obtain⟨j,hj,e⟩:=v7 hx;have:=s.mem j _ (Az gV);have e2:at' hs (j:Int)=x:=by
   unfold at';rw[pO,jT,dH hj,e];rfl
  rw[e2] at this;have:=cT.mp this
  lia
 fit:=λp hp=>by
  have ht:=w.tie p hp;obtain⟨a,b⟩:=p;dsimp only at ht;obtain⟨i,rfl⟩:=p7 ht.1;obtain⟨e,rfl⟩:=p7 (show 0<=b by lia);exact s.fit i e _ _ (Az gV) (Az gV) ((qX w).mpr (.inl hp))
def mj(qs:List (Int×Int))(a b:Int):Bool:=decide (b∈bx a qs)
def zi6(w:Web m qs){a b:Int}:mj qs a b=mj qs b a:=by
 unfold mj;rw[uE,qX w,qX w];exact Or.comm
end
theorem Qf{a b a2 b2 k d:Int}(h1:a*b2<=a2*b)(h2:a2*d<=k*b2)(hb:1<=b2)(hd:0<=d)(hb1:0<=b):a*d<=k*b:=by
 refine Int.le_of_mul_le_mul_left (a:=b2) ?_ (by omega);have p1:=M4 h1 hd;have p2:=M4 h2 hb1;rw[Ra a b2 d,Ra a2 b d] at p1;rw[Ra k b2 b] at p2;rw[ou b2,ou b2];omega
theorem Wf{k t b:Int}(h:k*t=b)(h1 : -k<b)(h2:b<k):b=0:=by
 have hk:0<k:=by omega
 rcases Int.lt_trichotomy t 0 with c|c|c
 ·have:=zj (show t<=-1 by omega) (Int.le_of_lt hk);rw[Int.mul_neg,Bw] at this;omega
 ·rw[c,Int.mul_zero] at h;omega
 ·have:=zj (show 1<=t by omega) (Int.le_of_lt hk);rw[Bw] at this;omega
theorem zdk{k d k2 d2 a b:Int}(hd:1<=d)(lM:d<=k)(Ew:1<=k2)(hf:k*d2=d*k2+1)(hak:a<k)(hb:0<b)(hbk:b<k)(h1:d<=a-b)(h2:a-b<=k-d):d2<=a*k2/k-b*k2/k/\a*k2/k-b*k2/k<=k2-d2:=by
 have Ey:0<k:=by omega
 have e1:b*k2/k*k<=b*k2:=Int.ediv_mul_le _ (by omega);have e2:b*k2<(b*k2/k+1)*k:=Int.lt_ediv_add_one_mul_self _ Ey;generalize b*k2/k=q at e1 e2 ⊢;have f1:0<=(a-b-d)*k2:=Bt (by omega) (by omega);have f2:0<=(k-d-(a-b))*k2:=Bt (by omega) (by omega);rw[rm,rm] at f1;rw[rm,rm,rm] at f2;rw[wj,Gf] at e2;have hfb:k*(d2*b)=d*(b*k2)+b:=by rw[<-Gb,hf,wj,Gf,Gb,ou k2 b]
 have n1:q*k≠b*k2:=λe=>by
  have g:k*(d2*b-d*q)=b:=by
   rw[Ie,hfb,<-e,Nk k d q,ou k q];omega
  have:=Wf g (by omega) hbk;omega
 have g1:q+d2<=a*k2/k:=Q5 Ey (by rw[wj,ou d2 k];omega);have g2:a*k2/k<q+k2-d2+1:=M_ Ey (by
  rw[wj,rm,wj,ou d2 k,ou k2 k,Gf];by_cases c:b*k2+1=q*k+k
  ·have g:k*(d2*b-d*(q+1))=b-d:=by
    have:d*(b*k2)+d=k*(d*(q+1)):=by
     rw[Nk k d,Ig k,Bw,ou k q,<-c,Ig,Bw]
    rw[Ie,hfb,<-this];omega
   have e:=Wf g (by omega) (by omega);have eb:b=d:=by omega
   subst eb;have f3:0<=(k-1-a)*k2:=Bt (by omega) (by omega);rw[rm,rm,Gf] at f3;omega
  ·omega)
 omega
section
variable {n k d k2 d2:Int}{ps:List (Int×Int)}{hs:List Int}
theorem zfA(w:Web n ps)(hh:bO n k d ps hs)(hd:1<=d)(lM:d<=k)(Ew:1<=k2)(hd2:1<=d2)(hf:k*d2=d*k2+1)(h0:∀x∈hs,x≠0):bO n k2 d2 ps (hs.map λx=>x*k2/k):=by
 have hl:=hh.len;refine⟨by rw[cZ];exact hl,λx hx=>?_,λp hp=>?_⟩
 ·obtain⟨y,hy,rfl⟩:=oh.mp hx;have:=hh.lo y hy;refine⟨Int.ediv_nonneg (Bt this.1 (by omega)) (by omega),M_ (by omega) ?_⟩;rw[ou k2 k];exact Int.mul_lt_mul_of_pos_right this.2 (by omega)
 ·have ht:=w.tie p hp;rw[Av (by omega) (by omega),Av (by omega) (by omega)];have m1:=vO (fs:=hs) (j:=p.1) (by omega) (by omega);have m2:=vO (fs:=hs) (j:=p.2) (by omega) (by omega);have a1:=hh.lo _ m1;have a2:=hh.lo _ m2;have b1:=h0 _ m1;have b2:=h0 _ m2;rcases(qU hd).mp (hh.fit p hp) with ⟨a,b⟩|⟨a,b⟩
  ·exact(qU hd2).mpr (.inl (zdk hd lM Ew hf (by omega) (by omega) (by omega) a b))
  ·exact(qU hd2).mpr (.inr (zdk hd lM Ew hf (by omega) (by omega) (by omega) a b))
theorem spare:∀(m:Nat) (hs:List Int),hs.length<m->∃x:Int,0<=x/\x<m/\x∉hs
 |0,hs,h=>absurd h (Nat.not_lt_zero _)
 |m+1,hs,h=>by
  by_cases c:(m:Int)∈hs
  ·have hl:(hs.filter λx=>decide (x≠(m:Int))).length<hs.length:=by
    rcases Rb (Nb (λx=>decide (x≠(m:Int))) hs) with z|z
    ·exact z
    ·have:=List.length_filter_eq_length_iff.mp z _ c;simp at this
   obtain⟨x,h0,h1,h2⟩:=spare m (hs.filter λx=>decide (x≠(m:Int))) (by omega);refine⟨x,h0,by omega,λz=>h2 (jU.mpr ⟨z,fP (by omega)⟩)⟩
  ·exact⟨m,by omega,by omega,c⟩
theorem L_:∀(d:Nat) (k:Int),1<=d->(d:Int)<=k->(∃g k' d':Int,2<=g/\1<=d'/\k=g*k'/\(d:Int)=g*d')\/k=1\/∃k2 d2:Int,1<=k2/\k2<k/\1<=d2/\d2<=d/\k*d2=d*k2+1:=by
 intro d
 induction d using Nat.strongRecOn with
 |_ d ih=>
  intro k h1 hk;by_cases c1:d=1
  ·subst c1;by_cases c2:k=1
   ·exact .inr (.inl c2)
   ·exact .inr (.inr ⟨k-1,1,by omega,by omega,by omega,by omega,by omega⟩)
  ·have hd0:(0:Int)<d:=by omega
   have er:=Int.mul_ediv_add_emod k d;have r0:=zE k (b:=(d:Int)) (by omega);have r1:=Bk k hd0;have q1:1<=k/d:=Q5 hd0 (by omega);generalize k/(d:Int)=q at er q1;by_cases c3:k%(d:Int)=0
   ·exact .inl ⟨d,q,1,by omega,by omega,by rw[c3] at er;omega,by omega⟩
   ·obtain⟨r,hr⟩:=p7 r0;rw[hr] at er r1 c3;rcases ih r (by omega) d (by omega) (by omega) with ⟨g,k',d',hg,xQ,e1,e2⟩|z|⟨K2,D2,a1,a2,a3,a4,a5⟩
    ·refine .inl ⟨g,k'*q+d',k',hg,?_,?_,e1⟩
     ·refine Gi.mp λz=>?_;have:=zj (show k'<=0 by omega) (show 0<=g by omega);rw[Int.mul_zero] at this;omega
     ·rw[Ig,<-Gb,<-e1,<-e2];omega
    ·omega
    ·have e3:k*(d-K2)=d*(r-D2+q*(d-K2))+1:=by
      rw[<-er,wj,Ig,Ie (d:Int) r D2,Ie (r:Int) d K2,a5,Gb,ou (r:Int) d];omega
     have p1:1*1<=q*(d-K2):=Int.mul_le_mul q1 (by omega) (by omega) (by omega);refine .inr (.inr ⟨r-D2+q*(d-K2),d-K2,by omega,?_,by omega,by omega,e3⟩);refine Int.lt_of_mul_lt_mul_left (a:=(d:Int)) ?_ (by omega);have:k*(d-K2)<=k*d:=zj (by omega) (by omega);rw[ou (d:Int) k];omega
theorem zfC(w:Web n ps):∀(m:Nat) (d:Int) (hs:List Int),1<=d->d<=m->bO n m d ps hs->∃(k' d':Int) (h':List Int),1<=d'/\d'<=k'/\k'<=n/\k'*d<=m*d'/\bO n k' d' ps h':=by
 intro m;have hn:=w.h1
 induction m using Nat.strongRecOn with
 |_ m ih=>
  intro d hs hd Qg hh;by_cases c:(m:Int)<=n
  ·exact⟨m,d,hs,hd,Qg,c,Int.le_refl _,hh⟩
  obtain⟨dn,rfl⟩:=p7 (show 0<=d by omega);rcases L_ dn m (by omega) Qg with ⟨g,k',d',hg,xQ,e1,e2⟩|z|⟨k2,d2,a1,a2,a3,a4,a5⟩
  ·have G8:d'<=k':=Int.le_of_mul_le_mul_left (a:=g) (by omega) (by omega);have cg:k'<m:=by
    have:=M4 hg (show 0<=k' by omega);omega
   have hm:=P_ (k2:=k') (d2:=d') w hh (by omega) hd (by omega) xQ (by
    rw[e1,e2,Gb,Nk k' g d'];exact Int.le_refl _)
   obtain⟨kn,rfl⟩:=p7 (show 0<=k' by omega);obtain⟨k3,d3,h3,b1,b2,b3,b4,b5⟩:=ih kn (by omega) d' _ xQ G8 hm;refine⟨k3,d3,h3,b1,b2,b3,?_,b5⟩;rw[e1,e2,Nk k3 g d',Gb];exact zj b4 (by omega)
  ·omega
  ·have hl:=hh.len;obtain⟨x,x0,x1,x2⟩:=spare m hs (by omega);have ht:=zgK (m:=-x) w hd (by omega) hh;have qF:∀y∈pJ m (-x) hs,y≠0:=λy hy e=>by
    unfold pJ at hy;obtain⟨z,hz,rfl⟩:=oh.mp hy;have hz2:=hh.lo z hz;obtain⟨t,ht⟩:=Int.dvd_of_emod_eq_zero e;have:=Wf ht.symm (by omega) (by omega);exact x2 (by rw[show x=z by omega];exact hz)
   have hm:=zfA w ht hd Qg a1 a3 a5 qF;have lM:d2<=k2:=by
    refine Gi.mp λz=>?_;have p1:=zj (show k2+1<=d2 by omega) (show (0:Int)<=m by omega);have p2:=M4 Qg (show 0<=k2 by omega);rw[Ig,Bw] at p1;omega
   obtain⟨kn,rfl⟩:=p7 (show 0<=k2 by omega);obtain⟨k3,d3,h3,b1,b2,b3,b4,b5⟩:=ih kn (by omega) d2 _ a3 lM hm;refine⟨k3,d3,h3,b1,b2,b3,?_,b5⟩;exact Qf b4 (by rw[ou];omega) a3 (by omega) (by omega)
def zdb(hd:1<=d)(hh:bO n k d ps hs)(hk:k<2*d):ps=[]:=by
 cases ps with
 |nil=>rfl
 |cons p r=>
  have:=(qU hd).mp (hh.fit p lN);omega
noncomputable def EY:List (Int×Int):=[(1,1),(2,1),(7,3),(5,2),(8,3),(3,1),(7,2),(4,1),(5,1),(6,1),(7,1),(8,1)]
noncomputable def gY(n:Int):List (Int×Int):=EY.filter λr=>decide (r.1<=n)
def zjC(n:Int):(gY n).Pairwise λr q=>r.1*q.2<q.1*r.2:=List.Pairwise.filter _ Tv
def yZ{n:Int}{r:Int×Int}(h:r∈gY n):1<=r.2/\r.2<=r.1/\r.1<=n/\r.1<=8:=by
 obtain⟨a,b⟩:=jU.mp h;have key:∀r∈EY,1<=r.2/\r.2<=r.1/\r.1<=8:=by decide
 have:=key r a;have:=iZ b;omega
def zmx{n:Int}{r q:Int×Int}(hr:r∈gY n)(hq:q∈gY n)(e:r.1*q.2=q.1*r.2):r=q:=by
 have key:∀r∈EY,∀q∈EY,r.1*q.2=q.1*r.2->r=q:=by decide
 exact key r (jU.mp hr).1 q (jU.mp hq).1 e
theorem zlL{k d:Int}(hn:n<=8)(hk:k<=n)(hd:1<=d)(h2:2*d<=k):∃r∈gY n,r.1<=k/\r.1*d=k*r.2:=by
 have key:∀k∈([2,3,4,5,6,7,8]:List Int),∀d∈([1,2,3,4]:List Int),2*d<=k->∃r∈EY,r.1<=k/\r.1*d=k*r.2:=by decide
 obtain⟨r,a,b,c⟩:=key k (by simp;omega) d (by simp;omega) h2;exact⟨r,jU.mpr ⟨a,fP (by omega)⟩,b,c⟩
def zjI(h1:1<=n):(1,1)∈gY n:=jU.mpr ⟨by decide,fP h1⟩
def zhV(h1:1<=n)(h8:n<=8):(n,1)∈gY n:=by
 have:n=1\/n=2\/n=3\/n=4\/n=5\/n=6\/n=7\/n=8:=by omega
 rcases this with rfl|rfl|rfl|rfl|rfl|rfl|rfl|rfl<;>decide
structure Short(n:Int)(ps:List (Int×Int))(r:Int×Int):Prop where
 mem:r∈gY n
 E_:∃hs,bO n r.1 r.2 ps hs
 least:∀(k d:Int) (hs:List Int),1<=d->d<=k->bO n k d ps hs->r.1*d<=k*r.2
theorem zb8(w:Web n ps)(hd:1<=d)(lM:d<=k)(hh:bO n k d ps hs):∃r∈gY n,(∃h,bO n r.1 r.2 ps h)/\r.1*d<=k*r.2:=by
 have h1:=w.h1;have h8:=w.h8;obtain⟨m,rfl⟩:=p7 (show 0<=k by omega);obtain⟨k',d',h',a1,a2,a3,a4,a5⟩:=zfC w m d hs hd lM hh;by_cases c:2*d'<=k'
 ·obtain⟨r,hr,_,e⟩:=zlL (n:=n) h8 a3 a1 c;have hr2:=yZ hr;refine⟨r,hr,⟨_,P_ w a5 (by omega) a1 (by omega) hr2.1 (by omega)⟩,?_⟩;exact Qf (Int.le_of_eq e) a4 a1 (by omega) (by omega)
 ·have e:=zdb a1 a5 (by omega);subst e;exact⟨(1,1),zjI h1,⟨_,zdI h1 Tv⟩,by dsimp only;omega⟩
def Wg(n:Int)(ps:List (Int×Int))(r:Int×Int):Prop:=∃i:Nat,(gY n)[i]?=some r/\(∃hs,bO n r.1 r.2 ps hs)/\∀(j:Nat) q,j<i->(gY n)[j]?=some q->∀hs,¬bO n q.1 q.2 ps hs
theorem Wg.short(w:Web n ps){r:Int×Int}(f:Wg n ps r):Short n ps r:=by
 obtain⟨i,hr,hh,gZ⟩:=f;refine⟨fG hr,hh,λk d hs hd lM h=>?_⟩;obtain⟨q,hq,⟨h',Wh⟩,e⟩:=zb8 w hd lM h;obtain⟨j,hj⟩:=List.getElem?_of_mem hq;have hq2:=yZ hq;have le:r.1*q.2<=q.1*r.2:=by
  rcases Nat.lt_trichotomy j i with z|z|z
  ·exact absurd Wh (gZ j q z hj h')
  ·subst z;rw[hr] at hj;cases hj;exact Int.le_refl _
  ·obtain⟨hi,e1⟩:=eG.mp hr;obtain⟨hj',e2⟩:=eG.mp hj;have:=QS.mp (zjC n) i j hi hj' z;rw[e1,e2] at this;omega
 exact Qf le e hq2.1 (by omega) (by have:=yZ (fG hr);omega)
theorem Short.room{r:Int×Int}(s:Short n ps r)(w:Web n ps)(hd:1<=d)(lM:d<=k):(∃hs,bO n k d ps hs)↔¬k*r.2<r.1*d:=by
 have hr:=yZ s.mem
 constructor
 ·rintro⟨hs,hh⟩;exact Gi.mpr (s.least k d hs hd lM hh)
 ·intro h;obtain⟨h',hh⟩:=s.E_;exact⟨_,P_ w hh (by omega) hr.1 (by omega) hd (Gi.mp h)⟩
theorem Short.uniq{r q:Int×Int}(a:Short n ps r)(b:Short n ps q):r=q:=by
 have hr:=yZ a.mem;have hq:=yZ b.mem;obtain⟨h1,V1⟩:=a.E_;obtain⟨h2,hh2⟩:=b.E_;have:=a.least _ _ _ hq.1 hq.2.1 hh2;have:=b.least _ _ _ hr.1 hr.2.1 V1;exact zmx a.mem b.mem (by omega)
end
end Mi
namespace eN
open PySem Mi
noncomputable def b0:bT:=(.cons (.ret (.and (.rN (.v 0) .int) (.not (.rN (.v 0) .bool)))) .nil)
def b1:bT:=(.cons (.ret (.and (.call 0 (Ea (.v 0))) (.zV .le .le (.v 1) (.v 0) (.v 2)))) .nil)
def b2:bT:=(.cons (.ret (.and (.rN (.v 0) .tuple) (.pr true .eq (Eb (.pr true .len (Ea (.v 0))) (.v 1))))) .nil)
def b3:bT:=(.cons (.iff (.pr true .gt (Eb (.v 0) (.v 1))) (.cons .no .nil) .nil) .nil)
def b4:bT:=(.cons (.iff (.not (.call 2 (Eb (.v 0) (Ci 2)))) (.cons (.ret (.c (.bl false))) .nil) .nil) (.cons (.asg (.tp [1,2]) (.v 0)) (.cons (.ret (.and (.call 1 (Ec (.v 1) (Ci 1) (Ci 24))) (.call 1 (Ec (.v 2) (Ci 1) (.v 1))))) .nil)))
def b5:bT:=(.cons (.ret (.call 1 (Ec (.v 1) (Ci 0) (.pr true .aq (Eb (Ei (.v 0) (Ci 0)) (Ci 1)))))) .nil)
def b6:bT:=(.cons (.iff (.not (.call 4 (Ea (.v 0)))) (.cons .no .nil) .nil) .nil)
def b7:bT:=(.cons (.asg (.nm 3) (.pr true .abs (Ea (.pr true .aq (Eb (.v 1) (.v 2)))))) (.cons (.ret (.pr true .min2 (Eb (.v 3) (.pr true .aq (Eb (Ei (.v 0) (Ci 0)) (.v 3)))))) .nil))
def b8:bT:=(.cons (.ret (.pr true .lt (Eb (.pr true .mul (Eb (Ei (.v 0) (Ci 0)) (Ei (.v 1) (Ci 1)))) (.pr true .mul (Eb (Ei (.v 1) (Ci 0)) (Ei (.v 0) (Ci 1))))))) .nil)
def b9:bT:=(.cons (.par 2 3 (.v 0) (.v 1)) (.cons (.wh (.pr true .gt (Eb (.v 3) (Ci 0))) (.cons (.par 2 3 (.v 3) (.pr true .mod (Eb (.v 2) (.v 3)))) .nil)) (.cons (.ret (.tup (Eb (.pr true .fdiv (Eb (.v 0) (.v 2))) (.pr true .fdiv (Eb (.v 1) (.v 2)))))) .nil)))
def b10:bT:=(.cons (.iff (.not (.call 2 (Eb (.v 0) (Ci 2)))) (.cons (.ret (.c (.bl false))) .nil) .nil) (.cons (.asg (.tp [1,2]) (.v 0)) (.cons (.iff (.or (.not (.call 12 (Ea (.v 1)))) (.not (.rN (.v 2) .tuple))) (.cons (.ret (.c (.bl false))) .nil) .nil) (.cons (.iff (.not (.pr true .all (Ea (.comp true (.call 14 (Eb (.v 1) (.v 0))) [0] (.seq (.v 2)) [1] 1 .no)))) (.cons (.ret (.c (.bl false))) .nil) .nil) (.cons (.ret (.pr true .all (Ea (.comp true (.pr true .lt (Eb (.v 0) (.v 1))) [0,1] (.zip (.v 2) (.sl true (.v 2) (.yes (Ci 1)) .no)) [] 2 .no)))) .nil)))))
def b11:bT:=(.cons (.iff (.not (.call 12 (Ea (.v 0)))) (.cons .no .nil) .nil) (.cons (.asg (.nm 2) (.lst false .nil)) (.cons (.fr (.tp [3,4]) (.enum (.v 1)) (.cons (.asg (.nm 5) (.call 15 (Eb (.v 0) (.v 4)))) (.cons (.iff (.or (.pr true .rK (Ea (.v 5))) (.pr true .inn (Eb (.v 5) (.v 2)))) (.cons .no .nil) .nil) (.cons (.ex (.push (.v 2) (.v 5))) .nil)))) (.cons (.ret (.tup (Eb (.v 0) (.pr true .tuple (Ea (.pr true .sorted (Ea (.v 2)))))))) .nil))))
def Wi:bT:=(.cons (.ret (.call 1 (Ec (.v 0) (Ci 1) (Ci 8)))) .nil)
def Wj:bT:=(.cons (.ret (.call 1 (Ec (.v 1) (Ci 0) (.pr true .aq (Eb (.v 0) (Ci 1)))))) .nil)
def Qh:bT:=(.cons (.iff (.not (.call 2 (Eb (.v 1) (Ci 2)))) (.cons (.ret (.c (.bl false))) .nil) .nil) (.cons (.asg (.tp [2,3]) (.v 1)) (.cons (.ret (.and (.call 13 (Eb (.v 0) (.v 2))) (.and (.call 13 (Eb (.v 0) (.v 3))) (.pr true .lt (Eb (.v 2) (.v 3)))))) .nil)))
def Wm:bT:=(.cons (.iff (.call 14 (Eb (.v 0) (.v 1))) (.cons (.ret (.v 1)) .nil) .nil) (.cons (.iff (.and (.call 2 (Eb (.v 1) (Ci 2))) (.call 14 (Eb (.v 0) (.pr true .rev (Ea (.v 1)))))) (.cons (.ret (.pr true .rev (Ea (.v 1)))) .nil) .nil) (.cons (.ret (.c .non)) .nil)))
def Wn:bT:=(.cons (.iff (.not (.call 10 (Ea (.v 0)))) (.cons .no .nil) .nil) .nil)
def Wo:bT:=(.cons (.ret (.pr true .inn (Eb (.call 15 (Eb (Ei (.v 0) (Ci 0)) (.tup (Eb (.v 1) (.v 2))))) (Ei (.v 0) (Ci 1))))) .nil)
def b18:bT:=(.cons (.ret (.jz true (.tup (Eb (.v 0) (.v 1))) [0] (.rg (Ci 0) (.v 0)) [1] (.rg (.pr true .add (Eb (.v 0) (Ci 1))) (.v 2)) [0] 2 .no)) .nil)
def Wq:bT:=(.cons (.asg (.nm 2) (.comp true (.ite (.pr true .eq (Eb (.v 0) (.v 2))) (.v 1) (.v 0)) [0,1] (.seq (Ei (.v 0) (Ci 1))) [1] 2 (.yes (.pr true .inn (Eb (.v 2) (.tup (Eb (.v 0) (.v 1)))))))) (.cons (.ret (.pr true .tuple (Ea (.pr true .sorted (Ea (.v 2)))))) .nil))
def Wr:bT:=(.cons (.ret (.comp true (.call 19 (Eb (.v 1) (.v 0))) [0] (.rg (Ci 0) (Ei (.v 0) (Ci 0))) [0] 1 .no)) .nil)
def b21:bT:=(.cons (.ex (.call 6 (Ea (.v 0)))) (.cons (.asg (.tp [1,2]) (.v 0)) (.cons (.ex (.call 3 (Eb (.v 1) (Ci 8)))) (.cons (.ret (.call 11 (Eb (.v 1) (.comp true (.tup (Eb (.v 0) (.v 1))) [0,1] (.seq (.call 18 (Ea (.v 1)))) [0,2] 2 (.yes (.pr true .ge (Eb (.call 7 (Ec (.v 2) (.v 0) (.v 1))) (.v 3)))))))) .nil))))
def Ws:bT:=(.cons (.ex (.call 6 (Ea (.v 0)))) (.cons (.ex (.call 6 (Ea (.v 1)))) (.cons (.ret (.or (.call 8 (Eb (.v 0) (.tup (Eb (Ci 2) (Ci 1))))) (.not (.call 8 (Eb (.v 1) (.v 0)))))) .nil)))
def Wt:bT:=(.cons (.ret (.tup (.cons (.call 20 (Ea (.v 1))) (Ec (.pr true .yt (Ea (.pr true .len (Ea (.v 2))))) (.v 2) (.v 3))))) .nil)
def Wu:bT:=(.cons (.ret (Ei (Ei (.of (.v 0) 0 2) (.v 1)) (.v 2))) .nil)
def Wv:bT:=(.cons (.asg (.nm 4) (.pr false .list (Ea (.v 1)))) (.cons (.asg (.aq (.v 4) (.v 2)) (.c .non)) (.cons (.fr (.nm 5) (.seq (Ei (.of (.v 0) 0 0) (.v 2))) (.cons (.iff (.pr true .pU (Ea (Ei (.v 4) (.v 5)))) (.cons (.asg (.aq (.v 4) (.v 5)) (.pr true .tuple (Ea (.comp true (.v 0) [0] (.seq (Ei (.v 4) (.v 5))) [0,3] 1 (.yes (.cm 0 24 (.v 1) (Eb (.v 2) (.v 0)))))))) .nil) .nil) .nil)) (.cons (.ret (.pr true .tuple (Ea (.v 4)))) .nil))))
def Ww:bT:=(.cons (.ret (.pr true .len (Ea (.comp true (.v 0) [0] (.seq (Ei (.of (.v 0) 0 0) (.v 2))) [1] 1 (.yes (.pr true .pU (Ea (Ei (.v 1) (.v 0))))))))) .nil)
def Wx:bT:=(.cons (.ret (.pr true .tuple (Ea (.comp true (.ite (.pr true .gt (Eb (.cm 0 26 (.v 2) (Eb (.v 3) (.v 0))) (Ci 0))) (.v 1) (.c .non)) [0,1] (.enum (.v 1)) [0,1] 2 .no)))) .nil)
def Wy:bT:=(.cons (.asg (.nm 2) (.lst false .nil)) (.cons (.fr (.tp [3,4]) (.enum (.v 1)) (.cons (.iff (.pr true .pU (Ea (.v 4))) (.cons (.ex (.push (.v 2) (.tup (Ec (.pr true .len (Ea (.v 4))) (.pr true .neg (Ea (.cm 0 26 (.v 0) (Eb (.v 1) (.v 3))))) (.v 3))))) .nil) .nil) .nil)) (.cons (.ret (.ite (.Gz (.v 2)) (Ei (.pr true .tL (Ea (.v 2))) (Ci 2)) (.c .non))) .nil)))
def Wz:bT:=(.cons (.ret (.pr true .all (Ea (.comp true (.or (.pr true .rK (Ea (.v 0))) (.pr true .eq (Eb (.v 0) (.of (.v 1) 0 1)))) [0] (.seq (.v 1)) [0] 1 .no)))) .nil)
def WD:bT:=(.cons (.asg (.tp [2,3]) (.v 1)) (.cons (.asg (.nm 4) (.comp true (.pr true .ge (Eb (.pr true .min2 (Eb (.v 0) (.pr true .aq (Eb (.v 1) (.v 0))))) (.v 2))) [0] (.rg (Ci 0) (.v 2)) [2,3] 1 .no)) (.cons (.ret (.mk 0 23 (Ec (.v 0) (.comp true (.comp true (Ei (.v 1) (.pr true .aq (Eb (.v 2) (.v 0)))) [0] (.rg (Ci 0) (.v 1)) [2,0] 1 .no) [0] (.rg (Ci 0) (.v 2)) [2,4] 1 .no) (.c (.bl true))))) .nil)))
def WK:bT:=(.cons (.ret (.mk 0 23 (Ec (.v 0) (.comp true (.comp true (.pr true .inn (Eb (.v 0) (.v 1))) [0] (.rg (Ci 0) (Ei (.v 1) (Ci 0))) [0] 1 .no) [0] (.seq (.call 20 (Ea (.v 1)))) [1] 1 .no) (.c (.bl false))))) .nil)
def WL:bT:=(.cons (.ex (.call 16 (Ea (.v 0)))) (.cons (.ex (.call 6 (Ea (.v 1)))) (.cons (.ret (.call 34 (Ec (.v 0) (.v 1) (.v 2)))) .nil)))
def WM:bT:=(.cons (.ret (.and (.call 2 (Eb (.v 2) (Ei (.v 0) (Ci 0)))) (.pr true .all (Ea (.comp true (.call 5 (Eb (.v 1) (.v 0))) [0] (.seq (.v 2)) [1] 1 .no))))) .nil)
def Qi:bT:=(.cons (.ret (.and (.call 33 (Ec (.v 0) (.v 1) (.v 2))) (.pr true .rK (Ea (.call 36 (Ec (.v 0) (.v 1) (.v 2))))))) .nil)
def WQ:bT:=(.cons (.ex (.call 16 (Ea (.v 0)))) (.cons (.ex (.call 6 (Ea (.v 1)))) (.cons (.iff (.not (.call 34 (Ec (.v 0) (.v 1) (.v 2)))) (.cons .no .nil) .nil) .nil)))
def Qj:bT:=(.cons (.fr (.tp [3,4]) (.seq (Ei (.v 0) (Ci 1))) (.cons (.iff (.pr true .lt (Eb (.call 7 (Ec (.v 1) (Ei (.v 2) (.v 3)) (Ei (.v 2) (.v 4)))) (Ei (.v 1) (Ci 1)))) (.cons (.ret (.tup (Eb (.v 3) (.v 4)))) .nil) .nil) .nil)) (.cons (.ret (.c .non)) .nil))
def WR:bT:=(.cons (.ex (.call 16 (Ea (.v 0)))) (.cons (.ex (.call 6 (Ea (.v 1)))) (.cons (.asg (.nm 2) (.call 30 (Eb (.v 0) (.v 1)))) (.cons (.ret (.call 38 (Eb (.v 2) (.comp true (.of (.v 1) 0 1) [0] (.rg (Ci 0) (Ei (.v 0) (Ci 0))) [2] 1 .no)))) .nil))))
def WT:bT:=(.cons (.asg (.nm 2) (.pr true .tuple (Ea (.v 1)))) (.cons (.asg (.nm 3) .tO) (.cons (.iff (.not (.call 40 (Ec (.v 0) (.v 3) (.v 2)))) (.cons (.ret (.c .non)) .nil) .nil) (.cons (.asg (.nm 4) (.lst false .nil)) (.cons (.fr (.nm 5) (.rg (Ci 0) (.pr true .len (Ea (.v 1)))) (.cons (.asg (.nm 6) (.call 39 (.cons (.v 0) (Ec (.v 3) (.v 2) (.v 5))))) (.cons (.asg (.nm 2) (.cm 0 25 (.v 0) (Ec (.v 2) (.v 5) (.v 6)))) (.cons (.ex (.push (.v 4) (.v 6))) .nil)))) (.cons (.ret (.pr true .tuple (Ea (.v 4)))) .nil))))))
def Qk:bT:=(.cons (.fr (.nm 4) (.seq (Ei (.v 2) (.v 3))) (.cons (.iff (.call 40 (Ec (.v 0) (.v 1) (.cm 0 25 (.v 0) (Ec (.v 2) (.v 3) (.v 4))))) (.cons (.ret (.v 4)) .nil) .nil) .nil)) (.cons (.ret (.c .non)) .nil))
def WW:bT:=(.cons (.iff (.pr true .inn (Eb (.tup .nil) (.v 2))) (.cons (.ret (.c (.bl false))) .nil) .nil) (.cons (.asg (.nm 3) (.cm 0 27 (.v 0) (Ea (.v 2)))) (.cons (.iff (.CW false (.v 3) (.v 1)) (.cons (.dput (.v 1) (.v 3) (.call 41 (Ec (.v 0) (.v 1) (.v 3)))) .nil) .nil) (.cons (.ret (.qG (.v 1) (.v 3))) .nil))))
def Ma:bT:=(.cons (.asg (.nm 3) (.cm 0 28 (.v 0) (Ea (.v 2)))) (.cons (.iff (.pr true .rK (Ea (.v 3))) (.cons (.ret (.c (.bl true))) .nil) .nil) (.cons (.iff (.and (.of (.v 0) 0 3) (.cm 0 29 (.v 0) (Ea (.v 2)))) (.cons (.ret (.call 40 (Ec (.v 0) (.v 1) (.cm 0 25 (.v 0) (Ec (.v 2) (.v 3) (Ci 0)))))) .nil) .nil) (.cons (.ret (.pr true .pU (Ea (.call 39 (.cons (.v 0) (Ec (.v 1) (.v 2) (.v 3))))))) .nil))))
def WX:bT:=(.cons (.ex (.call 16 (Ea (.v 0)))) (.cons (.ex (.call 16 (Ea (.v 1)))) (.cons (.iff (.or (.not (.call 2 (Eb (.v 2) (Ei (.v 0) (Ci 0))))) (.not (.pr true .all (Ea (.comp true (.call 13 (Eb (Ei (.v 1) (Ci 0)) (.v 0))) [0] (.seq (.v 2)) [1] 1 .no))))) (.cons (.ret (.c (.bl false))) .nil) .nil) (.cons (.ret (.pr true .all (Ea (.comp true (.call 17 (Ec (.v 2) (Ei (.v 3) (.v 0)) (Ei (.v 3) (.v 1)))) [0,1] (.seq (Ei (.v 0) (Ci 1))) [1,2] 2 .no)))) .nil))))
def WY:bT:=(.cons (.ex (.call 16 (Ea (.v 0)))) (.cons (.ex (.call 16 (Ea (.v 1)))) (.cons (.asg (.nm 2) (.call 31 (Eb (.v 0) (.v 1)))) (.cons (.ret (.call 38 (Eb (.v 2) (.comp true (.of (.v 1) 0 1) [0] (.rg (Ci 0) (Ei (.v 0) (Ci 0))) [2] 1 .no)))) .nil))))
def W0:bT:=(.cons (.ex (.call 16 (Ea (.v 0)))) (.cons (.ex (.call 16 (Ea (.v 1)))) (.cons (.ex (.call 6 (Ea (.v 3)))) (.cons (.iff (.not (.call 42 (Ec (.v 0) (.v 1) (.v 2)))) (.cons .no .nil) .nil) (.cons (.ex (.call 35 (Ec (.v 1) (.v 3) (.v 4)))) (.cons (.ret (.pr true .tuple (Ea (.comp true (Ei (.v 1) (.v 0)) [0] (.seq (.v 2)) [4] 1 .no)))) .nil))))))
def b45:bT:=(.cons (.asg (.nm 1) (.pr true .min2 (Eb (.v 0) (Ci 24)))) (.cons (.asg (.nm 2) (.jz true (.tup (Eb (.v 0) (.v 1))) [0] (.rg (Ci 1) (.pr true .add (Eb (.v 1) (Ci 1)))) [1] (.rg (Ci 1) (.pr true .add (Eb (.v 0) (Ci 1)))) [] 2 (.yes (.call 48 (Eb (.v 0) (.v 1)))))) (.cons (.ret (.rO true (.v 2) (.pr true .fdiv (Eb (.pr true .mul (Eb (Ei (.v 0) (Ci 0)) (Ci 27720))) (Ei (.v 0) (Ci 1)))))) .nil)))
def W2:bT:=(.cons (.ret (.pr true .pU (Ea (.call 37 (Eb (.v 0) (.v 1)))))) .nil)
def W3:bT:=(.cons (.ex (.call 16 (Ea (.v 0)))) (.cons (.asg (.nm 1) (.call 45 (Ea (Ei (.v 0) (Ci 0))))) (.cons (.asg (.nm 2) (Ci 0)) (.cons (.wh (.not (.call 46 (Eb (.v 0) (Ei (.v 1) (.v 2))))) (.cons (.aug 2 (Ci 1)) .nil)) (.cons (.ret (Ei (.v 1) (.v 2))) .nil)))))
def b48:bT:=(.cons (.ret (.and (.pr true .eq (Eb (.call 9 (Eb (.v 0) (.v 1))) (.tup (Eb (.v 0) (.v 1))))) (.or (.pr true .eq (Eb (.v 0) (Ci 1))) (.pr true .ge (Eb (.v 0) (.pr true .mul (Eb (Ci 2) (.v 1)))))))) .nil)
def W4:bT:=(.cons (.iff (.pr true .lt (Eb (.v 1) (.pr true .len (Ea (.v 0))))) (.cons (.ret (Ei (.v 0) (.v 1))) .nil) .nil) (.cons (.ret (Ci 0)) .nil))
def W5:bT:=(.cons (.asg (.nm 1) (.pr true .max2 (Eb (.v 0) (.pr true .aq (Eb (Ci 0) (.v 0)))))) (.cons (.ret (.lst false (Eb (.v 1) (.pr true .yu (Ea (.pr true .ge (Eb (.v 1) (.pr true .pow (Eb (Ci 10) (Ci 18)))))))))) .nil))
def W6:bT:=(.cons (.iff (.pr true .eq (Eb (Ei (.v 0) (Ci 1)) (Ci 1))) (.cons (.asg (.tp [2,3]) (.pr true .divmod (Eb (Ei (.v 0) (Ci 0)) (.v 1)))) (.cons (.asg (.aq (.v 0) (Ci 0)) (.v 2)) (.cons (.ret (.v 3)) .nil))) .nil) (.cons (.asg (.nm 4) (.pr true .mod (Eb (.pr true .mul (Eb (.pr true .add (Eb (.pr true .mod (Eb (Ei (.v 0) (Ci 0)) (Ci 2147483647))) (Ci 40503))) (Ci 69621))) (Ci 2147483629)))) (.cons (.asg (.nm 4) (.pr true .mod (Eb (.pr true .add (Eb (.pr true .mul (Eb (.v 4) (.v 4))) (Ci 7817))) (Ci 2147483587)))) (.cons (.asg (.aq (.v 0) (Ci 0)) (.pr true .mod (Eb (.pr true .add (Eb (.pr true .mul (Eb (.v 4) (Ci 48271))) (Ci 11))) (Ci 2147483629)))) (.cons (.ret (.pr true .mod (Eb (.pr true .fdiv (Eb (Ei (.v 0) (Ci 0)) (Ci 32))) (.v 1)))) .nil)))))
def W7:bT:=(.cons (.asg (.nm 2) (Ei (.lst true (Ec (Ci 2) (Ci 4) (Ci 6))) (.call 51 (Eb (.v 0) (Ci 3))))) (.cons (.asg (.nm 3) (.lst true .nil)) (.cons (.fr (.nm 4) (.rg (Ci 0) (.v 1)) (.cons (.asg (.nm 3) (.pr true .add (Eb (.v 3) (.comp true (.tup (Eb (.v 1) (.v 0))) [0] (.rg (.pr true .add (Eb (.v 4) (Ci 1))) (.v 1)) [4,0,2] 1 (.yes (.pr true .lt (Eb (.call 51 (Eb (.v 2) (Ci 8))) (.v 3)))))))) .nil)) (.cons (.ret (.tup (Eb (.v 1) (.pr true .tuple (Ea (.v 3)))))) .nil))))
def W8:bT:=(.cons (.asg (.nm 1) (.lst true (.cons (.tup (Eb (Ci 2) (Ci 1))) (.cons (.tup (Eb (Ci 3) (Ci 1))) (.cons (.tup (Eb (Ci 4) (Ci 1))) (.cons (.tup (Eb (Ci 5) (Ci 2))) (.cons (.tup (Eb (Ci 5) (Ci 1))) (.cons (.tup (Eb (Ci 4) (Ci 2))) (.cons (.tup (Eb (Ci 6) (Ci 2))) (.cons (.tup (Eb (Ci 7) (Ci 3))) (.cons (.tup (Eb (Ci 7) (Ci 2))) (Ec (.tup (Eb (Ci 8) (Ci 3))) (.tup (Eb (Ci 3) (Ci 2))) (.tup (Eb (Ci 1) (Ci 1))))))))))))))) (.cons (.ret (Ei (.v 1) (.call 51 (Eb (.v 0) (Ci 12))))) .nil))
def W9:bT:=(.cons (.par 2 3 (.call 21 (Ea (.v 0))) (.call 21 (Ea (.v 1)))) (.cons (.asg (.nm 4) (.pr true .u_ (Ea (.comp true (.v 0) [0] (.rg (Ci 1) (Ci 9)) [0] 1 (.yes (.and (.pr true .eq (Eb (.pr true .mod (Eb (Ei (.v 1) (Ci 0)) (.v 0))) (Ci 0))) (.pr true .eq (Eb (.pr true .mod (Eb (Ei (.v 1) (Ci 1)) (.v 0))) (Ci 0))))))))) (.cons (.asg (.nm 5) (.tup (Eb (.pr true .fdiv (Eb (Ei (.v 0) (Ci 0)) (.v 4))) (.pr true .fdiv (Eb (Ei (.v 0) (Ci 1)) (.v 4)))))) (.cons (.iff (.pr true .lt (Eb (Ei (.v 0) (Ci 0)) (.pr true .mul (Eb (Ci 2) (Ei (.v 0) (Ci 1)))))) (.cons (.asg (.nm 5) (.tup (Eb (Ci 1) (Ci 1)))) .nil) .nil) (.cons (.iff (.or (.pr true .ne (Eb (.call 47 (Ea (.v 2))) (.v 5))) (.not (.call 32 (Ec (.v 2) (.v 0) (.pr true .yt (Ea (Ei (.v 0) (Ci 0)))))))) (.cons (.ret (.c (.bl false))) .nil) .nil) (.cons (.asg (.nm 6) (.call 43 (Eb (.v 2) (.v 3)))) (.cons (.iff (.or (.pr true .ne (Eb (.call 22 (Eb (.v 0) (.v 1))) (.pr true .pU (Ea (.v 6))))) (.pr true .ne (Eb (.pr true .pU (Ea (.call 37 (Eb (.v 2) (.v 1))))) (.pr true .pU (Ea (.v 6)))))) (.cons (.ret (.c (.bl false))) .nil) .nil) (.cons (.ret (.or (.pr true .rK (Ea (.v 6))) (.and (.call 42 (Ec (.v 2) (.v 3) (.v 6))) (.call 32 (Ec (.v 2) (.v 1) (.v 6)))))) .nil))))))))
def W_:bT:=(.cons (.asg (.nm 3) (.call 21 (Ea (.v 1)))) (.cons (.asg (.nm 4) (.call 43 (Eb (.v 0) (.v 3)))) (.cons (.iff (.pr true .ne (Eb (.call 46 (Eb (.v 0) (.v 1))) (.pr true .pU (Ea (.v 4))))) (.cons (.ret (.c (.bl false))) .nil) .nil) (.cons (.iff (.pr true .rK (Ea (.v 4))) (.cons (.ret (.c (.bl true))) .nil) .nil) (.cons (.asg (.nm 5) (.call 44 (.cons (.v 0) (.cons (.v 3) (Ec (.v 4) (.v 1) (.pr true .yt (Ea (Ei (.v 1) (Ci 0))))))))) (.cons (.iff (.or (.pr true .ne (Eb (.v 5) (.v 4))) (.not (.call 32 (Ec (.v 0) (.v 1) (.v 5))))) (.cons (.ret (.c (.bl false))) .nil) .nil) (.cons (.asg (.nm 6) (.call 43 (Eb (.v 3) (.call 21 (Ea (.v 2)))))) (.cons (.ret (.or (.pr true .rK (Ea (.v 6))) (.call 42 (Ec (.v 0) (.call 21 (Ea (.v 2))) (.pr true .tuple (Ea (.comp true (Ei (.v 1) (.v 0)) [0] (.seq (.v 4)) [6] 1 .no))))))) .nil))))))))
def Xa:bT:=(.cons (.fr (.nm 1) (.seq (.pr true .add (Eb (.lst true (Ea (.call 49 (Eb (.v 0) (Ci 0))))) (.sl true (.v 0) (.yes (Ci 1)) (.yes (Ci 3)))))) (.cons (.asg (.nm 2) (.call 50 (Ea (.v 1)))) (.cons (.par 3 4 (.call 53 (Ea (.v 2))) (.call 53 (Ea (.v 2)))) (.cons (.asg (.nm 5) (.call 52 (Eb (.v 2) (.pr true .add (Eb (Ci 1) (.call 51 (Eb (.v 2) (Ci 5)))))))) (.cons (.iff (.or (.not (.call 54 (Eb (.v 3) (.v 4)))) (.not (.call 55 (Ec (.v 5) (.v 3) (.v 4))))) (.cons (.ret (.c (.bl false))) .nil) .nil) .nil))))) (.cons (.ret (.c (.bl true))) .nil))
def T(n:Nat):Option Df:=([⟨1,1,b0⟩,⟨3,3,b1⟩,⟨2,2,b2⟩,⟨2,2,b3⟩,⟨3,1,b4⟩,⟨2,2,b5⟩,⟨1,1,b6⟩,⟨4,3,b7⟩,⟨2,2,b8⟩,⟨4,2,b9⟩,⟨3,1,b10⟩,⟨6,2,b11⟩,⟨1,1,Wi⟩,⟨2,2,Wj⟩,⟨4,2,Qh⟩,⟨2,2,Wm⟩,⟨1,1,Wn⟩,⟨3,3,Wo⟩,⟨1,1,b18⟩,⟨3,2,Wq⟩,⟨1,1,Wr⟩,⟨3,1,b21⟩,⟨2,2,Ws⟩,⟨4,4,Wt⟩,⟨3,3,Wu⟩,⟨6,4,Wv⟩,⟨3,3,Ww⟩,⟨2,2,Wx⟩,⟨5,2,Wy⟩,⟨2,2,Wz⟩,⟨5,2,WD⟩,⟨2,2,WK⟩,⟨3,3,WL⟩,⟨3,3,WM⟩,⟨3,3,Qi⟩,⟨3,3,WQ⟩,⟨5,3,Qj⟩,⟨3,2,WR⟩,⟨7,2,WT⟩,⟨5,4,Qk⟩,⟨4,3,WW⟩,⟨4,3,Ma⟩,⟨3,3,WX⟩,⟨3,2,WY⟩,⟨5,5,W0⟩,⟨3,1,b45⟩,⟨2,2,W2⟩,⟨3,1,W3⟩,⟨2,2,b48⟩,⟨2,2,W4⟩,⟨2,1,W5⟩,⟨5,2,W6⟩,⟨5,2,W7⟩,⟨2,1,W8⟩,⟨7,2,W9⟩,⟨7,3,W_⟩,⟨6,1,Xa⟩]:List Df)[n]?
def T_0:T 0=some ⟨1,1,b0⟩:=rfl
def T_1:T 1=some ⟨3,3,b1⟩:=rfl
def T_2:T 2=some ⟨2,2,b2⟩:=rfl
def T_3:T 3=some ⟨2,2,b3⟩:=rfl
def T_4:T 4=some ⟨3,1,b4⟩:=rfl
def T_5:T 5=some ⟨2,2,b5⟩:=rfl
def T_6:T 6=some ⟨1,1,b6⟩:=rfl
def T_7:T 7=some ⟨4,3,b7⟩:=rfl
def T_8:T 8=some ⟨2,2,b8⟩:=rfl
def T_9:T 9=some ⟨4,2,b9⟩:=rfl
def zoJ:T 10=some ⟨3,1,b10⟩:=rfl
def zpl:T 11=some ⟨6,2,b11⟩:=rfl
def zo4:T 12=some ⟨1,1,Wi⟩:=rfl
def zpj:T 13=some ⟨2,2,Wj⟩:=rfl
def Xb:T 14=some ⟨4,2,Qh⟩:=rfl
def zo2:T 15=some ⟨2,2,Wm⟩:=rfl
def zo7:T 16=some ⟨1,1,Wn⟩:=rfl
def zpi:T 17=some ⟨3,3,Wo⟩:=rfl
def zpt:T 18=some ⟨1,1,b18⟩:=rfl
def zoI:T 19=some ⟨3,2,Wq⟩:=rfl
def zoM:T 20=some ⟨1,1,Wr⟩:=rfl
def zpp:T 21=some ⟨3,1,b21⟩:=rfl
def zpf:T 22=some ⟨2,2,Ws⟩:=rfl
def zoY:T 23=some ⟨4,4,Wt⟩:=rfl
def zoQ:T 24=some ⟨3,3,Wu⟩:=rfl
def zoL:T 25=some ⟨6,4,Wv⟩:=rfl
def zoX:T 26=some ⟨3,3,Ww⟩:=rfl
def zoG:T 27=some ⟨2,2,Wx⟩:=rfl
def zo5:T 28=some ⟨5,2,Wy⟩:=rfl
def zo9:T 29=some ⟨2,2,Wz⟩:=rfl
def zoZ:T 30=some ⟨5,2,WD⟩:=rfl
def zpd:T 31=some ⟨2,2,WK⟩:=rfl
def zoN:T 32=some ⟨3,3,WL⟩:=rfl
def zoU:T 33=some ⟨3,3,WM⟩:=rfl
def Xc:T 34=some ⟨3,3,Qi⟩:=rfl
def zoE:T 35=some ⟨3,3,WQ⟩:=rfl
def Xd:T 36=some ⟨5,3,Qj⟩:=rfl
def zoF:T 37=some ⟨3,2,WR⟩:=rfl
def zo3:T 38=some ⟨7,2,WT⟩:=rfl
def Xe:T 39=some ⟨5,4,Qk⟩:=rfl
def zpc:T 40=some ⟨4,3,WW⟩:=rfl
def Ql:T 41=some ⟨4,3,Ma⟩:=rfl
def zoP:T 42=some ⟨3,3,WX⟩:=rfl
def zph:T 43=some ⟨3,2,WY⟩:=rfl
def zo0:T 44=some ⟨5,5,W0⟩:=rfl
def zps:T 45=some ⟨3,1,b45⟩:=rfl
def zoW:T 46=some ⟨2,2,W2⟩:=rfl
def zo1:T 47=some ⟨3,1,W3⟩:=rfl
def zpk:T 48=some ⟨2,2,b48⟩:=rfl
def zoH:T 49=some ⟨2,2,W4⟩:=rfl
def zoD:T 50=some ⟨2,1,W5⟩:=rfl
def zo6:T 51=some ⟨5,2,W6⟩:=rfl
def zpe:T 52=some ⟨5,2,W7⟩:=rfl
def zoV:T 53=some ⟨2,1,W8⟩:=rfl
def zoK:T 54=some ⟨7,2,W9⟩:=rfl
def zpg:T 55=some ⟨7,3,W_⟩:=rfl
def zoC:T 56=some ⟨6,1,Xa⟩:=rfl
noncomputable def aq:Nat->Nat->Bool:=λc e=>(let n:=λc=>if c<0 then c else 0;n e==0||n c==n e)
end eN
namespace eN
open PySem PySem.Spec PyProof.Rows L2 Mi
abbrev LK(i:Nat)(x:Str)(k:NameKind):Prop:=(au (top i)).names.lookup x=some k
noncomputable abbrev gI:NameKind:=.globalImplicit
abbrev Xf:List Str:=["thing","many","ties"]
abbrev N18:List Str:=["many"]
abbrev N19:List Str:=["web","place","ends"]
abbrev N20:List Str:=["web"]
abbrev N21:List Str:=["ring","k","d"]
abbrev N25:List Str:=["self","free","place","spot","left","end"]
abbrev N26:List Str:=["self","free","place"]
abbrev N27:List Str:=["self","free"]
abbrev N29:List Str:=["self","free"]
abbrev Xg:List Str:=["web","ring","k","d","wide"]
abbrev N31:List Str:=["web","other"]
abbrev N33:List Str:=["web","ring","thing"]
abbrev N37:List Str:=["web","ring","board"]
abbrev Xh:List Str:=["web","other","thing"]
abbrev N43:List Str:=["web","other","board"]
abbrev N44:List Str:=["web","other","row","ring","hues"]
abbrev N45:List Str:=["most","limit","rings"]
abbrev N52:List Str:=["_law_pen_here","_law_many","_law_often","_law_ties","_law_one"]
abbrev N54:List Str:=["_law_one","_law_other","_law_web_here","_law_there","_law_part","_law_due","_law_row"]
abbrev N55:List Str:=["_law_web_here","_law_one","_law_other","_law_there","_law_row","_law_hues","_law_more"]
def cl(K:W.Frag):Cl:=⟨jg (lk.L K),λ_=>[],λ_=>dY K "Board",λ_=>["ends","spots","apart","alike"]⟩
structure Top(K:W.Frag)(mg:Str->Option Value):Prop where
 d0:D3 K mg "is_whole" (top 8) ["thing"]
 d1:D3 K mg "is_within" (top 9) ["thing","least","most"]
 d2:D3 K mg "is_row" (top 10) ["thing","many"]
 d3:D3 K mg "check_most" (top 11) ["many","most"]
 d4:D3 K mg "is_ring" (top 14) ["thing"]
 d5:D3 K mg "is_spot" (top 15) ["ring","thing"]
 d6:D3 K mg "check_ring" (top 16) ["thing"]
 d7:D3 K mg "gap_of" (top 17) ["ring","one","other"]
 d8:D3 K mg "is_shorter" (top 18) ["one","other"]
 d9:D3 K mg "lowest_terms" (top 19) ["top","bottom"]
 Xi:D3 K mg "is_web" (top 22) ["thing"]
 Xj:D3 K mg "web_of" (top 23) ["many","things"]
 Qm:D3 K mg "is_many" (top 24) ["thing"]
 Mf:D3 K mg "is_place" (top 25) ["many","thing"]
 Mg:D3 K mg "is_tie" (top 26) ["many","thing"]
 Qn:D3 K mg "tie_by" (top 27) ["many","thing"]
 uD:D3 K mg "check_web" (top 28) ["thing"]
 Xk:D3 K mg "are_tied" (top 29) ["web","one","other"]
 Xl:D3 K mg "all_pairs" (top 30) ["many"]
 Xm:D3 K mg "tied_to" (top 31) ["web","place"]
 Qo:D3 K mg "all_ends" (top 32) ["web"]
 Fb:D3 K mg "ring_web" (top 34) ["ring"]
 Xn:D3 K mg "leads" (top 35) ["one","other"]
 Xo:D3 K mg "ring_board" (top 38) ["web","ring"]
 Xp:D3 K mg "map_board" (top 39) ["web","other"]
 Mh:D3 K mg "hues_hold" (top 41) ["web","ring","thing"]
 Xq:D3 K mg "are_spots" (top 42) ["web","ring","thing"]
 Qp:D3 K mg "are_hues" (top 43) ["web","ring","thing"]
 Xr:D3 K mg "check_hues" (top 44) ["web","ring","thing"]
 Xu:D3 K mg "clash_of" (top 45) ["web","ring","spots"]
 Qq:D3 K mg "first_hues" (top 47) ["web","ring"]
 Qs:D3 K mg "first_among" (top 48) ["board","choices"]
 Qt:D3 K mg "first_spot" (top 49) ["board","answers","free","place"]
 Mj:D3 K mg "can_settle" (top 50) ["board","answers","free"]
 Xw:D3 K mg "search" (top 51) ["board","answers","free"]
 Ml:D3 K mg "map_holds" (top 53) ["web","other","thing"]
 Mp:D3 K mg "first_map" (top 54) ["web","other"]
 Xx:D3 K mg "led_hues" (top 55) ["web","other","row","ring","hues"]
 Xy:D3 K mg "plain_rings" (top 58) ["most"]
 Qu:D3 K mg "has_room" (top 59) ["web","ring"]
 Xz:D3 K mg "shortest" (top 60) ["web"]
 XD:D3 K mg "is_plain" (top 61) ["k","d"]
 XH:D3 K mg "_law_cell" (top 63) ["_law_script","_law_k"]
 XJ:D3 K mg "_law_pen" (top 64) ["_law_cell_here"]
 Hr:D3 K mg "_law_draw" (top 65) ["_law_pen_here","_law_many"]
 XM:D3 K mg "_law_web" (top 66) ["_law_pen_here","_law_many"]
 Qv:D3 K mg "_law_small_ring" (top 67) ["_law_pen_here"]
 XQ:D3 K mg "_law_ring_right" (top 68) ["_law_one","_law_other"]
 XR:D3 K mg "_law_web_right" (top 69) ["_law_web_here","_law_one","_law_other"]
 Qw:D3 K mg "law" (top 70) ["_law_script"]
 fD:∃t,mg "MOST_SPOTS"=some (.int 24 t)
 dW:∃t,mg "MOST_PLACES"=some (.int 8 t)
 lA:∃t,mg "SO_OFTEN"=some (.int 27720 t)
 z6:mg "abs"=none
 z8:mg "all"=none
 z2:mg "bool"=none
 z14:mg "divmod"=none
 Qx:mg "enumerate"=none
 z1:mg "int"=none
 z0:mg "isinstance"=none
 z4:mg "len"=none
 z12:mg "list"=none
 X3:mg "max"=none
 z5:mg "min"=none
 nR:mg "range"=none
 z9:mg "sorted"=none
 z3:mg "tuple"=none
 z7:mg "zip"=none
 ow:Ow K (cl K) 0
 mq:Mk K ((cl K).b 0) (iC K ((cl K).b 0) "__init__")
 mc:mg "Board"=some (.ref ((cl K).b 0))
 Qy:Mt K ((cl K).b 0) "__init__" "Board.__init__" Gk ["self","web","apart","alike"] (iC K ((cl K).b 0) "__init__") (jR K ((cl K).b 0) "__init__" Gk)
 X4:Mt K ((cl K).b 0) "far_apart" "Board.far_apart" Ip ["self","spot","other"] (iC K ((cl K).b 0) "far_apart") (jR K ((cl K).b 0) "far_apart" Ip)
 Mq:Mt K ((cl K).b 0) "settled" "Board.settled" Gm ["self","free","place","spot"] (iC K ((cl K).b 0) "settled") (jR K ((cl K).b 0) "settled" Gm)
 Qz:Mt K ((cl K).b 0) "ties_left" "Board.ties_left" Gn ["self","free","place"] (iC K ((cl K).b 0) "ties_left") (jR K ((cl K).b 0) "ties_left" Gn)
 X5:Mt K ((cl K).b 0) "bound" "Board.bound" Gp ["self","free"] (iC K ((cl K).b 0) "bound") (jR K ((cl K).b 0) "bound" Gp)
 X6:Mt K ((cl K).b 0) "narrowest" "Board.narrowest" Ir ["self","free"] (iC K ((cl K).b 0) "narrowest") (jR K ((cl K).b 0) "narrowest" Ir)
 X7:Mt K ((cl K).b 0) "all_free" "Board.all_free" Gq ["self","free"] (iC K ((cl K).b 0) "all_free") (jR K ((cl K).b 0) "all_free" Gq)
 lam:Ep K mg (fdOf K "plain_rings" (top 58))
theorem zlJ{K:W.Frag}{h:Heap}{mg:Str->Option Value}(Sb:sH fs ms xs lk bd K)(LH:lu K h)(X:K.In h)(G:h.Ns mainGlobals mg):Top K mg where
 d0:=sy Sb.i X G 0
 d1:=ur Sb.i X G 1
 d2:=lK Sb.i X G 2
 d3:=lK Sb.i X G 3
 d4:=sy Sb.i X G 4
 d5:=lK Sb.i X G 5
 d6:=sy Sb.i X G 6
 d7:=ur Sb.i X G 7
 d8:=lK Sb.i X G 8
 d9:=lK Sb.i X G 9
 Xi:=sy Sb.i X G 10
 Xj:=lK Sb.i X G 11
 Qm:=sy Sb.i X G 12
 Mf:=lK Sb.i X G 13
 Mg:=lK Sb.i X G 14
 Qn:=lK Sb.i X G 15
 uD:=sy Sb.i X G 16
 Xk:=ur Sb.i X G 17
 Xl:=sy Sb.i X G 18
 Xm:=lK Sb.i X G 19
 Qo:=sy Sb.i X G 20
 Fb:=sy Sb.i X G 21
 Xn:=lK Sb.i X G 22
 Xo:=lK Sb.i X G 23
 Xp:=lK Sb.i X G 24
 Mh:=ur Sb.i X G 25
 Xq:=ur Sb.i X G 26
 Qp:=ur Sb.i X G 27
 Xr:=ur Sb.i X G 28
 Xu:=ur Sb.i X G 29
 Qq:=lK Sb.i X G 30
 Qs:=lK Sb.i X G 31
 Qt:=zpr Sb.i X G 32
 Mj:=ur Sb.i X G 33
 Xw:=ur Sb.i X G 34
 Ml:=ur Sb.i X G 35
 Mp:=lK Sb.i X G 36
 Xx:=zpm Sb.i X G 37
 Xy:=sy Sb.i X G 38
 Qu:=lK Sb.i X G 39
 Xz:=sy Sb.i X G 40
 XD:=lK Sb.i X G 41
 XH:=lK Sb.i X G 42
 XJ:=sy Sb.i X G 43
 Hr:=lK Sb.i X G 44
 XM:=lK Sb.i X G 45
 Qv:=sy Sb.i X G 46
 XQ:=lK Sb.i X G 47
 XR:=ur Sb.i X G 48
 Qw:=sy Sb.i X G 49
 fD:=Vj (Sb.i.gd.it ("MOST_SPOTS",24) (mG 0)) X G
 dW:=Vj (Sb.i.gd.it ("MOST_PLACES",8) (mG 1)) X G
 lA:=Vj (Sb.i.gd.it ("SO_OFTEN",27720) (mG 2)) X G
 z6:=qQ (Sb.i.gd.no "abs" (mG 0)) X G
 z8:=qQ (Sb.i.gd.no "all" (mG 1)) X G
 z2:=qQ (Sb.i.gd.no "bool" (mG 2)) X G
 z14:=qQ (Sb.i.gd.no "divmod" (mG 3)) X G
 Qx:=qQ (Sb.i.gd.no "enumerate" (mG 4)) X G
 z1:=qQ (Sb.i.gd.no "int" (mG 5)) X G
 z0:=qQ (Sb.i.gd.no "isinstance" (mG 6)) X G
 z4:=qQ (Sb.i.gd.no "len" (mG 7)) X G
 z12:=qQ (Sb.i.gd.no "list" (mG 8)) X G
 X3:=qQ (Sb.i.gd.no "max" (mG 9)) X G
 z5:=qQ (Sb.i.gd.no "min" (mG 10)) X G
 nR:=qQ (Sb.i.gd.no "range" (mG 11)) X G
 z9:=qQ (Sb.i.gd.no "sorted" (mG 12)) X G
 z3:=qQ (Sb.i.gd.no "tuple" (mG 13)) X G
 z7:=qQ (Sb.i.gd.no "zip" (mG 14)) X G
 ow:=znx Sb.b rfl rfl Dc
 mq:=znD Sb.b (Sb.m ("__init__","Board.__init__",Gk) (mG 0)).2
 mc:=znC Sb.b X G
 Qy:=zoO (Sb.m ("__init__","Board.__init__",Gk) (mG 0))
 X4:=zpb (Sb.m ("far_apart","Board.far_apart",Ip) (mG 1))
 Mq:=zoO (Sb.m ("settled","Board.settled",Gm) (mG 2))
 Qz:=zpb (Sb.m ("ties_left","Board.ties_left",Gn) (mG 3))
 X5:=V4 (Sb.m ("bound","Board.bound",Gp) (mG 4))
 X6:=V4 (Sb.m ("narrowest","Board.narrowest",Ir) (mG 5))
 X7:=V4 (Sb.m ("all_free","Board.all_free",Gq) (mG 6))
 lam:=LH.lk X G (top 58)
abbrev FO(P:Program)(w:World)(K:W.Frag)(mg:Str->Option Value)(base:Heap)(k:Nat)(c:Bool)(x:Str)(i:Nat)(ps:List Str)(n:Nat):Prop:=cG P w K mg base (fK P w) c k (fZ K x) (fdOf K x (top i)) ps (lW K (cl K) (call aq T k c n))
abbrev FM(P:Program)(w:World)(K:W.Frag)(mg:Str->Option Value)(base:Heap)(k:Nat)(m:Str)(st:Stmt)(ps:List Str)(sp:Sp):Prop:=cG P w K mg base (fK P w) true k (iC K ((cl K).b 0) m) (jR K ((cl K).b 0) m st) ps sp
structure Fs(P:Program)(w:World)(K:W.Frag)(mg:Str->Option Value)(base:Heap)(k:Nat):Prop where
 t0:FO P w K mg base k true "is_whole" 8 ["thing"] 0
 t1:FO P w K mg base k true "is_within" 9 ["thing","least","most"] 1
 t2:FO P w K mg base k true "is_row" 10 ["thing","many"] 2
 t3:FO P w K mg base k true "check_most" 11 ["many","most"] 3
 t4:FO P w K mg base k true "is_ring" 14 ["thing"] 4
 t5:FO P w K mg base k true "is_spot" 15 ["ring","thing"] 5
 t6:FO P w K mg base k true "check_ring" 16 ["thing"] 6
 t7:FO P w K mg base k true "gap_of" 17 ["ring","one","other"] 7
 t8:FO P w K mg base k true "is_shorter" 18 ["one","other"] 8
 t9:FO P w K mg base k true "lowest_terms" 19 ["top","bottom"] 9
 t10:FO P w K mg base k true "is_web" 22 ["thing"] 10
 t11:FO P w K mg base k true "web_of" 23 ["many","things"] 11
 X8:FO P w K mg base k true "is_many" 24 ["thing"] 12
 QB:FO P w K mg base k true "is_place" 25 ["many","thing"] 13
 QC:FO P w K mg base k true "is_tie" 26 ["many","thing"] 14
 X_:FO P w K mg base k true "tie_by" 27 ["many","thing"] 15
 vW:FO P w K mg base k true "check_web" 28 ["thing"] 16
 t17:FO P w K mg base k true "are_tied" 29 ["web","one","other"] 17
 t18:FO P w K mg base k true "all_pairs" 30 ["many"] 18
 t19:FO P w K mg base k true "tied_to" 31 ["web","place"] 19
 Yb:FO P w K mg base k true "all_ends" 32 ["web"] 20
 Hs:FO P w K mg base k true "ring_web" 34 ["ring"] 21
 t22:FO P w K mg base k true "leads" 35 ["one","other"] 22
 Yc:FM P w K mg base k "__init__" Gk ["self","web","apart","alike"] (PN K (cl K) 0 (call aq T k true 23))
 t24:FM P w K mg base k "far_apart" Ip ["self","spot","other"] (lW K (cl K) (call aq T k true 24))
 QD:FM P w K mg base k "settled" Gm ["self","free","place","spot"] (lW K (cl K) (call aq T k true 25))
 Yd:FM P w K mg base k "ties_left" Gn ["self","free","place"] (lW K (cl K) (call aq T k true 26))
 t27:FM P w K mg base k "bound" Gp ["self","free"] (lW K (cl K) (call aq T k true 27))
 t28:FM P w K mg base k "narrowest" Ir ["self","free"] (lW K (cl K) (call aq T k true 28))
 t29:FM P w K mg base k "all_free" Gq ["self","free"] (lW K (cl K) (call aq T k true 29))
 t30:FO P w K mg base k true "ring_board" 38 ["web","ring"] 30
 t31:FO P w K mg base k true "map_board" 39 ["web","other"] 31
 QF:FO P w K mg base k true "hues_hold" 41 ["web","ring","thing"] 32
 t33:FO P w K mg base k true "are_spots" 42 ["web","ring","thing"] 33
 Ye:FO P w K mg base k true "are_hues" 43 ["web","ring","thing"] 34
 t35:FO P w K mg base k true "check_hues" 44 ["web","ring","thing"] 35
 t36:FO P w K mg base k true "clash_of" 45 ["web","ring","spots"] 36
 Yg:FO P w K mg base k true "first_hues" 47 ["web","ring"] 37
 Yh:FO P w K mg base k true "first_among" 48 ["board","choices"] 38
 Yi:FO P w K mg base k true "first_spot" 49 ["board","answers","free","place"] 39
 QG:FO P w K mg base k true "can_settle" 50 ["board","answers","free"] 40
 t41:FO P w K mg base k true "search" 51 ["board","answers","free"] 41
 QJ:FO P w K mg base k true "map_holds" 53 ["web","other","thing"] 42
 QK:FO P w K mg base k true "first_map" 54 ["web","other"] 43
 t44:FO P w K mg base k true "led_hues" 55 ["web","other","row","ring","hues"] 44
 t45:FO P w K mg base k true "plain_rings" 58 ["most"] 45
 Yj:FO P w K mg base k true "has_room" 59 ["web","ring"] 46
 t47:FO P w K mg base k true "shortest" 60 ["web"] 47
 t48:FO P w K mg base k true "is_plain" 61 ["k","d"] 48
 t49:FO P w K mg base k true "_law_cell" 63 ["_law_script","_law_k"] 49
 t50:FO P w K mg base k true "_law_pen" 64 ["_law_cell_here"] 50
 Mr:FO P w K mg base k true "_law_draw" 65 ["_law_pen_here","_law_many"] 51
 t52:FO P w K mg base k true "_law_web" 66 ["_law_pen_here","_law_many"] 52
 Yk:FO P w K mg base k true "_law_small_ring" 67 ["_law_pen_here"] 53
 t54:FO P w K mg base k true "_law_ring_right" 68 ["_law_one","_law_other"] 54
 t55:FO P w K mg base k true "_law_web_right" 69 ["_law_web_here","_law_one","_law_other"] 55
 t56:FO P w K mg base k true "law" 70 ["_law_script"] 56
section
variable {P:Program}{w:World}{K:W.Frag}{mg:Str->Option Value}{base:Heap}{k:Nat}
theorem zkL(Tp:Top K mg)(Fk:Fs P w K mg base k):Fs P w K mg base (k+1) where
 t0:=fJ Tp.d0 ["thing"] T_0 λ_ _ _ _ _ _ hr=>(aG (bU (wJ (Pg rfl Tp.z0 gk (gv 0) (Pb rfl Tp.z1 zl1 gk dk)) (su (zmw (Pg rfl Tp.z0 gk (gv 0) (Pb rfl Tp.z2 zjX gk dk))))))
 aO)
 t1:=fJ Tp.d1 ["thing","least","most"] T_1 λ_ _ _ _ _ _ hr=>(aG (bU (wJ (gc Fk.t0 Tp.d0 hr bA gk (aA (gv 0) aH)) (su (zom zoR zoR (gv 1) (gv 0) (gv 2)))))
 aO)
 t2:=fJ Tp.d2 ["thing","many"] T_2 λ_ _ _ _ _ _ hr=>(aG (bU (wJ (Pg rfl Tp.z0 gk (gv 0) (Pb rfl Tp.z3 O9 gk dk)) (su (uq (Ag hr) (G4 Tp.z4 gk (aA (gv 0) aH)) (gv 1)))))
 aO)
 t3:=fJ Tp.d3 ["many","most"] T_3 λ_ _ _ _ _ _ hr=>(aG (gU (mU UG (gv 0) (gv 1)) (aG DW
 aO) aO)
 aO)
 t4:=fJ Tp.d4 ["thing","k","d"] T_4 λ_ _ _ _ _ _ hr=>(aG (gU (nM (jt (gc Fk.t2 Tp.d2 hr bA gk (aA (gv 0) (aA aP aH))))) (aG (bU pC)
 aO) aO)
 (aG (G7 1 2 rfl rfl nd rfl rfl jl jl rfl rfl (gv 0))
 (aG (bU (wJ (gc Fk.t1 Tp.d1 hr bA gk (aA (gv 1) (aA aP (aA (KJ Tp.fD gk dk) aH)))) (su (gc Fk.t1 Tp.d1 hr bA gk (aA (gv 2) (aA aP (aA (gv 1) aH)))))))
 aO)))
 t5:=fJ Tp.d5 ["ring","thing"] T_5 λ_ _ _ _ _ _ hr=>(aG (bU (gc Fk.t1 Tp.d1 hr bA gk (aA (gv 1) (aA aP (aA (eO DG (cR (gv 0) aP) aP) aH)))))
 aO)
 t6:=fJ Tp.d6 ["thing"] T_6 λ_ _ _ _ _ _ hr=>(aG (gU (nM (jt (gc Fk.t4 Tp.d4 hr bA gk (aA (gv 0) aH)))) (aG DW
 aO) aO)
 aO)
 t7:=fJ Tp.d7 ["ring","one","other","gap"] T_7 λ_ _ _ _ _ _ hr=>(aG (gH 3 nd rfl jl rfl (znG Tp.z6 gk (aA (eO DG (gv 1) (gv 2)) aH)))
 (aG (bU (U9 rfl Tp.z5 gk (aA (gv 3) (aA (eO DG (cR (gv 0) aP) (gv 3)) aH))))
 aO))
 t8:=fJ Tp.d8 ["one","other"] T_8 λ_ _ _ _ _ _ hr=>(aG (bU (uq (DK hr) (eO Ae (cR (gv 0) aP) (cR (gv 1) aP)) (eO Ae (cR (gv 1) aP) (cR (gv 0) aP))))
 aO)
 t9:=fJ Tp.d9 ["top","bottom","common","rest"] T_9 λ_ _ _ _ _ _ hr=>(aG (Pk 2 3 rfl rfl nd rfl rfl Tv jl jl (gv 0) (gv 1) rfl)
 (aG (zge wO (mU UG (gv 3) aP) (aG (Pk 2 3 rfl rfl nd rfl rfl Tv jl jl (gv 3) (eO Af (gv 2) (gv 3)) rfl)
 aO))
 (aG (bU (jf (aA (eO GZ (gv 0) (gv 2)) (aA (eO GZ (gv 1) (gv 2)) aH))))
 aO)))
 t10:=fJ Tp.Xi Xf zoJ λ_ _ _ _ _ _ hr=>(aG (gU (nM (jt (gc Fk.t2 Tp.d2 hr bA gk (aA (gv 0) (aA aP aH))))) (aG (bU pC)
 aO) aO)
 (aG (G7 1 2 rfl rfl nd rfl rfl jc jl rfl rfl (gv 0))
 (aG (gU (wK (DP (nM (jt (gc Fk.X8 Tp.Qm hr bA gk (aA (gv 1) aH)))) (DN (nM (jt (Pg rfl Tp.z0 gk (gv 2) (Pb rfl Tp.z3 O9 gk dk))))))) (aG (bU pC)
 aO) aO)
 (aG (gU (nM (jt (G5 rfl Tp.z8 gk (aA (mV (au (top 22)) Xf ["tie"] ["many"] [1] rfl rfl rfl Dc Dc (lG 0) Dc (pX (gv 2)) (λ_ _ _ _ _ _=>(lH 0 Dc rfl Dc)) (λ_ _ _ _ _ _=>n_) (λ_ _ _ _ _ _=>(gc Fk.QC Tp.Mg hr Ak uc (aA (bQ 1) (aA (bQ 0) aH))))) aH)))) (aG (bU pC)
 aO) aO)
 (aG (bU (G5 rfl Tp.z8 gk (aA (mV (au (top 22)) Xf ["tie","later"] [] [] rfl rfl rfl Dc Dc (GQ 0 1) Dc (zoc Tp.z7 gk (gv 2) (zoS (gv 2) (U8 aP) zpu)) (λ_ _ _ _ _ _=>(K1 0 1 rfl Dc rfl rfl Dc Dc)) (λ_ _ _ _ _ _=>n_) (λ_ _ _ _ _ _=>(uq (DK hr) (bQ 0) (bQ 1)))) aH)))
 aO)))))
 t11:=fJ Tp.Xj ["many","things","ties","at","thing","tie"] zpl λ_ _ _ _ _ _ hr=>(aG (gU (nM (jt (gc Fk.X8 Tp.Qm hr bA gk (aA (gv 0) aH)))) (aG DW
 aO) aO)
 (aG (gH 2 nd rfl jl rfl (Ai aH))
 (aG (Al wO rfl rfl (Vn Tp.Qx gk (gv 1)) (Ve 3 4 rfl rfl nd rfl rfl jl jl rfl rfl) (aG (gH 5 nd rfl jl rfl (gc Fk.X_ Tp.Qn hr bA gk (aA (gv 0) (aA (gv 4) aH))))
 (aG (gU (wK (DP (UJ (gv 5)) (DN (mU (KR hr) (gv 5) (gv 2))))) (aG DW
 aO) aO)
 (aG (lJ (U_ (gv 2) (gv 5)))
 aO))))
 (aG (bU (jf (aA (gv 0) (aA (wL Tp.z3 gk (aA (zeC Tp.z9 gk (aA (gv 2) aH)) aH)) aH))))
 aO))))
 X8:=fJ Tp.Qm ["thing"] zo4 λ_ _ _ _ _ _ hr=>(aG (bU (gc Fk.t1 Tp.d1 hr bA gk (aA (gv 0) (aA aP (aA (KJ Tp.dW gk dk) aH)))))
 aO)
 QB:=fJ Tp.Mf ["many","thing"] zpj λ_ _ _ _ _ _ hr=>(aG (bU (gc Fk.t1 Tp.d1 hr bA gk (aA (gv 1) (aA aP (aA (eO DG (gv 0) aP) aH)))))
 aO)
 QC:=fJ Tp.Mg ["many","thing","one","other"] Xb λ_ _ _ _ _ _ hr=>(aG (gU (nM (jt (gc Fk.t2 Tp.d2 hr bA gk (aA (gv 1) (aA aP aH))))) (aG (bU pC)
 aO) aO)
 (aG (G7 2 3 rfl rfl nd rfl rfl jl jl rfl rfl (gv 1))
 (aG (bU (wJ (gc Fk.QB Tp.Mf hr bA gk (aA (gv 0) (aA (gv 2) aH))) (wJ (gc Fk.QB Tp.Mf hr bA gk (aA (gv 0) (aA (gv 3) aH))) (su (uq (DK hr) (gv 2) (gv 3))))))
 aO)))
 X_:=fJ Tp.Qn ["many","thing"] zo2 λ_ _ _ _ _ _ hr=>(aG (gU (jt (gc Fk.QC Tp.Mg hr bA gk (aA (gv 0) (aA (gv 1) aH)))) (aG (bU (gv 1))
 aO) aO)
 (aG (gU (wK (U6 (jt (gc Fk.t2 Tp.d2 hr bA gk (aA (gv 1) (aA aP aH)))) (UW (jt (gc Fk.QC Tp.Mg hr bA gk (aA (gv 0) (aA (zne (gv 1)) aH))))))) (aG (bU (zne (gv 1)))
 aO) aO)
 (aG (bU Dz)
 aO)))
 vW:=fJ Tp.uD ["thing"] zo7 λ_ _ _ _ _ _ hr=>(aG (gU (nM (jt (gc Fk.t10 Tp.Xi hr bA gk (aA (gv 0) aH)))) (aG DW
 aO) aO)
 aO)
 t17:=fJ Tp.Xk ["web","one","other"] zpi λ_ _ _ _ _ _ hr=>(aG (bU (uq (KR hr) (gc Fk.X_ Tp.Qn hr bA gk (aA (cR (gv 0) aP) (aA (jf (aA (gv 1) (aA (gv 2) aH))) aH))) (cR (gv 0) aP)))
 aO)
 t18:=fJ Tp.Xl N18 zpt λ_ _ _ _ _ _ hr=>(aG (bU (zkE (au (top 30)) N18 ["one","other"] ["many"] [0] rfl rfl rfl Dc Dc (lG 0) (lG 1) Dc (wM Tp.nR gk (gv 0)) (λ_ _ _ _ _ _=>(lH 0 Dc rfl Dc)) (λ_ _ _ _ _ _=>(KY Tp.nR uc (eO wI (bQ 0) aP) (bQ 2))) (λ_ _ _ _ _ _=>(lH 1 Dc rfl Dc)) (λ_ _ _ _ _ _=>n_) (λ_ _ _ _ _ _=>(jf (aA (bQ 0) (aA (bQ 1) aH))))))
 aO)
 t19:=fJ Tp.Xm N19 zoI λ_ _ _ _ _ _ hr=>(aG (zlz 2 (au (top 31)) N19 ["one","other"] ["place"] [1] nd rfl jl rfl rfl rfl rfl Dc Dc (GQ 0 1) Dc (pX (cR (gv 0) aP)) (λ_ _ _ _ _ _=>(K1 0 1 rfl Dc rfl rfl Dc Dc)) (λ_ _ _ _ _ _=>(DQ (mU (KR hr) (bQ 2) (jf (aA (bQ 0) (aA (bQ 1) aH)))))) (λ_ _ _ _ _ _=>(U7 (mU (Ag hr) (bQ 0) (bQ 2)) (bQ 1) (bQ 0))))
 (aG (bU (wL Tp.z3 gk (aA (zeC Tp.z9 gk (aA (gv 2) aH)) aH)))
 aO))
 Yb:=fJ Tp.Qo N20 zoM λ_ _ _ _ _ _ hr=>(aG (bU (mV (au (top 32)) N20 ["place"] ["web"] [0] rfl rfl rfl Dc Dc (lG 0) Dc (wM Tp.nR gk (cR (gv 0) aP)) (λ_ _ _ _ _ _=>(lH 0 Dc rfl Dc)) (λ_ _ _ _ _ _=>n_) (λ_ _ _ _ _ _=>(gc Fk.t19 Tp.Xm hr Ak uc (aA (bQ 1) (aA (bQ 0) aH))))))
 aO)
 Hs:=fJ Tp.Fb N21 zpp λ_ _ _ _ _ _ hr=>(aG (lJ (gc Fk.t6 Tp.d6 hr bA gk (aA (gv 0) aH)))
 (aG (G7 1 2 rfl rfl nd rfl rfl jl jc rfl rfl (gv 0))
 (aG (lJ (gc Fk.t3 Tp.d3 hr bA gk (aA (gv 1) (aA (KJ Tp.dW gk dk) aH))))
 (aG (bU (gc Fk.t11 Tp.Xj hr bA gk (aA (gv 1) (aA (mV (au (top 34)) N21 ["one","other"] ["ring","d"] [0,2] rfl rfl rfl Dc Dc (GQ 0 1) Dc (pX (gc Fk.t18 Tp.Xl hr bA gk (aA (gv 1) aH))) (λ_ _ _ _ _ _=>(K1 0 1 rfl Dc rfl rfl Dc Dc)) (λ_ _ _ _ _ _=>(DQ (mU O_ (gc Fk.t7 Tp.d7 hr Ak uc (aA (bQ 2) (aA (bQ 0) (aA (bQ 1) aH)))) (bQ 3)))) (λ_ _ _ _ _ _=>(jf (aA (bQ 0) (aA (bQ 1) aH))))) aH))))
 aO))))
 t22:=fJ Tp.Xn ["one","other"] zpf λ_ _ _ _ _ _ hr=>(aG (lJ (gc Fk.t6 Tp.d6 hr bA gk (aA (gv 0) aH)))
 (aG (lJ (gc Fk.t6 Tp.d6 hr bA gk (aA (gv 1) aH)))
 (aG (bU (KN (gc Fk.t8 Tp.d8 hr bA gk (aA (gv 0) (aA (jf (aA aP (aA aP aH))) aH))) (su (zmw (gc Fk.t8 Tp.d8 hr bA gk (aA (gv 1) (aA (gv 0) aH)))))))
 aO)))
 Yc:=zjz (N:=["self","web","apart","alike"]) Tp.Qy.fn zoY (λ_ _ _ _ _ _ hr=>(PX (j:=0) Tp.ow (gc Fk.Yb Tp.Qo hr bA gk (aA (gv 1) aH)) (PX (j:=0) Tp.ow (V2 rfl Tp.z3 gk Tp.nR gk (aA (G4 Tp.z4 gk (aA (gv 2) aH)) aH)) (PX (j:=0) Tp.ow (gv 2) (PX (j:=0) Tp.ow (gv 3) zlU))))) (by show (4:Nat)<=900;decide)
 t24:=fM Tp.X4 ["self","spot","other"] zoQ λ_ _ _ _ _ _ hr=>(aG (bU (cR (cR (Er Tp.ow (gv 0)) (gv 1)) (gv 2)))
 aO)
 QD:=fM Tp.Mq N25 zoL λ_ _ _ _ _ _ hr=>(aG (gH 4 nd rfl jl rfl (zlV Tp.z12 gk (aA (gv 1) aH)))
 (aG (Pj (gv 4) (gv 2) Dz)
 (aG (Al wO rfl rfl (pX (cR (Er Tp.ow (gv 0)) (gv 2))) (K4 5 nd rfl jl rfl) (aG (gU (UL (cR (gv 4) (gv 5))) (aG (Pj (gv 4) (gv 5) (wL Tp.z3 gk (aA (mV (au (Gm)) N25 ["other"] ["self","spot"] [0,3] rfl rfl rfl Dc Dc (lG 0) Dc (pX (cR (gv 4) (gv 5))) (λ_ _ _ _ _ _=>(lH 0 Dc rfl Dc)) (λ_ _ _ _ _ _=>(DQ (jt (yW Tp.ow Tp.X4 Fk.t24 hr (bQ 1) (aA (bQ 2) (aA (bQ 0) aH)))))) (λ_ _ _ _ _ _=>(bQ 0))) aH)))
 aO) aO)
 aO))
 (aG (bU (wL Tp.z3 gk (aA (gv 4) aH)))
 aO))))
 Yd:=fM Tp.Qz N26 zoX λ_ _ _ _ _ _ hr=>(aG (bU (G4 Tp.z4 gk (aA (mV (au (Gn)) N26 ["end"] ["free"] [1] rfl rfl rfl Dc Dc (lG 0) Dc (pX (cR (Er Tp.ow (gv 0)) (gv 2))) (λ_ _ _ _ _ _=>(lH 0 Dc rfl Dc)) (λ_ _ _ _ _ _=>(DQ (UL (cR (bQ 1) (bQ 0))))) (λ_ _ _ _ _ _=>(bQ 0))) aH)))
 aO)
 t27:=fM Tp.X5 N27 zoG λ_ _ _ _ _ _ hr=>(aG (bU (wL Tp.z3 gk (aA (mV (au (Gp)) N27 ["place","spots"] ["self","free"] [0,1] rfl rfl rfl Dc Dc (GQ 0 1) Dc (Vn Tp.Qx gk (gv 1)) (λ_ _ _ _ _ _=>(K1 0 1 rfl Dc rfl rfl Dc Dc)) (λ_ _ _ _ _ _=>n_) (λ_ _ _ _ _ _=>(U7 (mU UG (yW Tp.ow Tp.Qz Fk.Yd hr (bQ 2) (aA (bQ 3) (aA (bQ 0) aH))) aP) (bQ 1) Dz))) aH)))
 aO)
 t28:=fM Tp.X6 ["self","free","ranks","place","spots"] zo5 λ_ _ _ _ _ _ hr=>(aG (gH 2 nd rfl jl rfl (Ai aH))
 (aG (Al wO rfl rfl (Vn Tp.Qx gk (gv 1)) (Ve 3 4 rfl rfl nd rfl rfl jl jl rfl rfl) (aG (gU (UL (gv 4)) (aG (lJ (U_ (gv 2) (jf (aA (G4 Tp.z4 gk (aA (gv 4) aH)) (aA (zop (yW Tp.ow Tp.Qz Fk.Yd hr (gv 0) (aA (gv 1) (aA (gv 3) aH)))) (aA (gv 3) aH))))))
 aO) aO)
 aO))
 (aG (bU (U7 (zon (gv 2)) (cR (zms hr rfl Tp.z5 gk (aA (gv 2) aH)) aP) Dz))
 aO)))
 t29:=fM Tp.X7 N29 zo9 λ_ _ _ _ _ _ hr=>(aG (bU (G5 rfl Tp.z8 gk (aA (mV (au (Gq)) N29 ["spots"] ["self"] [0] rfl rfl rfl Dc Dc (lG 0) Dc (pX (gv 1)) (λ_ _ _ _ _ _=>(lH 0 Dc rfl Dc)) (λ_ _ _ _ _ _=>n_) (λ_ _ _ _ _ _=>(KN (Pa (bQ 0)) (su (uq (Ag hr) (bQ 0) (Er Tp.ow (bQ 1))))))) aH)))
 aO)
 t30:=fR Tp.Xo Xg zoZ λ_ _ _ _ _ _ hr=>(aG (G7 2 3 rfl rfl nd rfl rfl jc jc rfl rfl (gv 1))
 (aG (gH 4 nd rfl jc rfl (mV (au (top 38)) Xg ["gap"] ["k","d"] [2,3] rfl rfl rfl Dc Dc (lG 0) Dc (wM Tp.nR gk (gv 2)) (λ_ _ _ _ _ _=>(lH 0 Dc rfl Dc)) (λ_ _ _ _ _ _=>n_) (λ_ _ _ _ _ _=>(uq O_ (U9 rfl Tp.z5 uc (aA (bQ 0) (aA (eO DG (bQ 1) (bQ 0)) aH))) (bQ 2)))))
 (aG (bU (zoT Tp.mq Fk.Yc (Mi.bG.made hr _ _) Tp.Qy.bd Tp.mc gk (aA (gv 0) (aA (mV (au (top 38)) Xg ["spot"] ["k","wide"] [2,4] rfl rfl rfl Dc Dc (lG 0) Dc (wM Tp.nR gk (gv 2)) (λ_ _ _ _ _ _=>(lH 0 Dc rfl Dc)) (λ_ _ _ _ _ _=>n_) (λ_ _ _ _ _ _=>(zgt ["spot","k","wide"] ["other"] ["wide","spot"] [2,0] rfl rfl Dc Dc (lG 0) Dc (wM Tp.nR uc (bQ 1)) (λ_ _ _ _ _ _=>(lH 0 Dc rfl Dc)) (λ_ _ _ _ _ _=>n_) (λ_ _ _ _ _ _=>(cR (bQ 1) (eO DG (bQ 2) (bQ 0))))))) (aA pC aH)))))
 aO)))
 t31:=fR Tp.Xp N31 zpd λ_ _ _ _ _ _ hr=>(aG (bU (zoT Tp.mq Fk.Yc (Mi.bG.made hr _ _) Tp.Qy.bd Tp.mc gk (aA (gv 0) (aA (mV (au (top 39)) N31 ["ends"] ["other"] [1] rfl rfl rfl Dc Dc (lG 0) Dc (pX (gc Fk.Yb Tp.Qo (hr.deeper _) bA gk (aA (gv 1) aH))) (λ_ _ _ _ _ _=>(lH 0 Dc rfl Dc)) (λ_ _ _ _ _ _=>n_) (λ_ _ _ _ _ _=>(zgt ["ends","other"] ["place"] ["ends"] [0] rfl rfl Dc Dc (lG 0) Dc (wM Tp.nR uc (cR (bQ 1) aP)) (λ_ _ _ _ _ _=>(lH 0 Dc rfl Dc)) (λ_ _ _ _ _ _=>n_) (λ_ _ _ _ _ _=>(uq (KR (hr.deeper _)) (bQ 0) (bQ 1)))))) (aA pC aH)))))
 aO)
 QF:=fJ Tp.Mh ["web","ring","thing"] zoN λ_ _ _ _ _ _ hr=>(aG (lJ (gc Fk.vW Tp.uD hr bA gk (aA (gv 0) aH)))
 (aG (lJ (gc Fk.t6 Tp.d6 hr bA gk (aA (gv 1) aH)))
 (aG (bU (gc Fk.Ye Tp.Qp hr bA gk (aA (gv 0) (aA (gv 1) (aA (gv 2) aH)))))
 aO)))
 t33:=fJ Tp.Xq N33 zoU λ_ _ _ _ _ _ hr=>(aG (bU (wJ (gc Fk.t2 Tp.d2 hr bA gk (aA (gv 2) (aA (cR (gv 0) aP) aH))) (su (G5 rfl Tp.z8 gk (aA (mV (au (top 42)) N33 ["spot"] ["ring"] [1] rfl rfl rfl Dc Dc (lG 0) Dc (pX (gv 2)) (λ_ _ _ _ _ _=>(lH 0 Dc rfl Dc)) (λ_ _ _ _ _ _=>n_) (λ_ _ _ _ _ _=>(gc Fk.t5 Tp.d5 hr Ak uc (aA (bQ 1) (aA (bQ 0) aH))))) aH)))))
 aO)
 Ye:=fJ Tp.Qp ["web","ring","thing"] Xc λ_ _ _ _ _ _ hr=>(aG (bU (wJ (gc Fk.t33 Tp.Xq hr bA gk (aA (gv 0) (aA (gv 1) (aA (gv 2) aH)))) (su (Pa (gc Fk.t36 Tp.Xu hr bA gk (aA (gv 0) (aA (gv 1) (aA (gv 2) aH))))))))
 aO)
 t35:=fJ Tp.Xr ["web","ring","thing"] zoE λ_ _ _ _ _ _ hr=>(aG (lJ (gc Fk.vW Tp.uD hr bA gk (aA (gv 0) aH)))
 (aG (lJ (gc Fk.t6 Tp.d6 hr bA gk (aA (gv 1) aH)))
 (aG (gU (nM (jt (gc Fk.Ye Tp.Qp hr bA gk (aA (gv 0) (aA (gv 1) (aA (gv 2) aH)))))) (aG DW
 aO) aO)
 aO)))
 t36:=fJ Tp.Xu ["web","ring","spots","one","other"] Xd λ_ _ _ _ _ _ hr=>(aG (Al wO rfl rfl (pX (cR (gv 0) aP)) (Ve 3 4 rfl rfl nd rfl rfl jl jl rfl rfl) (aG (gU (mU (DK hr) (gc Fk.t7 Tp.d7 hr bA gk (aA (gv 1) (aA (cR (gv 2) (gv 3)) (aA (cR (gv 2) (gv 4)) aH)))) (cR (gv 1) aP)) (aG (bU (jf (aA (gv 3) (aA (gv 4) aH))))
 aO) aO)
 aO))
 (aG (bU Dz)
 aO))
 Yg:=fJ Tp.Qq N37 zoF λ_ _ _ _ _ _ hr=>(aG (lJ (gc Fk.vW Tp.uD hr bA gk (aA (gv 0) aH)))
 (aG (lJ (gc Fk.t6 Tp.d6 hr bA gk (aA (gv 1) aH)))
 (aG (gH 2 nd rfl jc rfl (gc Fk.t30 Tp.Xo hr bA gk (aA (gv 0) (aA (gv 1) aH))))
 (aG (bU (gc Fk.Yh Tp.Qs hr bA gk (aA (gv 2) (aA (mV (au (top 47)) N37 ["place"] ["board"] [2] rfl rfl rfl Dc Dc (lG 0) Dc (wM Tp.nR gk (cR (gv 0) aP)) (λ_ _ _ _ _ _=>(lH 0 Dc rfl Dc)) (λ_ _ _ _ _ _=>n_) (λ_ _ _ _ _ _=>(Er Tp.ow (bQ 1)))) aH))))
 aO))))
 Yh:=fJ Tp.Qs ["board","choices","free","answers","row","place","spot"] zo3 λ_ _ _ _ _ _ hr=>(aG (gH 2 nd rfl jl rfl (wL Tp.z3 gk (aA (gv 1) aH)))
 (aG (gH 3 nd rfl jl rfl zlg)
 (aG (gU (nM (jt (gc Fk.QG Tp.Mj hr bA gk (aA (gv 0) (aA (gv 3) (aA (gv 2) aH)))))) (aG (bU Dz)
 aO) aO)
 (aG (gH 4 nd rfl jl rfl (Ai aH))
 (aG (Al wO rfl rfl (wM Tp.nR gk (G4 Tp.z4 gk (aA (gv 1) aH))) (K4 5 nd rfl jl rfl) (aG (gH 6 nd rfl jl rfl (gc Fk.Yi Tp.Qt hr bA gk (aA (gv 0) (aA (gv 3) (aA (gv 2) (aA (gv 5) aH))))))
 (aG (gH 2 nd rfl jl rfl (yW Tp.ow Tp.Mq Fk.QD hr (gv 0) (aA (gv 2) (aA (gv 5) (aA (gv 6) aH)))))
 (aG (lJ (U_ (gv 4) (gv 6)))
 aO))))
 (aG (bU (wL Tp.z3 gk (aA (gv 4) aH)))
 aO))))))
 Yi:=fJ Tp.Qt ["board","answers","free","place","spot"] Xe λ_ _ _ _ _ _ hr=>(aG (Al wO rfl rfl (pX (cR (gv 2) (gv 3))) (K4 4 nd rfl jl rfl) (aG (gU (jt (gc Fk.QG Tp.Mj hr bA gk (aA (gv 0) (aA (gv 1) (aA (yW Tp.ow Tp.Mq Fk.QD hr (gv 0) (aA (gv 2) (aA (gv 3) (aA (gv 4) aH)))) aH))))) (aG (bU (gv 4))
 aO) aO)
 aO))
 (aG (bU Dz)
 aO))
 QG:=fJ Tp.Mj ["board","answers","free","rest"] zpc λ_ _ _ _ _ _ hr=>(aG (gU (mU (KR hr) (jf aH) (gv 2)) (aG (bU pC)
 aO) aO)
 (aG (gH 3 nd rfl jl rfl (yW Tp.ow Tp.X5 Fk.t27 hr (gv 0) (aA (gv 2) aH)))
 (aG (gU (zlC hr (gv 3) (gv 1)) (aG (zk1 hr (gv 1) (gv 3) (gc Fk.t41 Tp.Xw hr bA gk (aA (gv 0) (aA (gv 1) (aA (gv 3) aH)))))
 aO) aO)
 (aG (bU (zk3 hr (gv 1) (gv 3)))
 aO))))
 t41:=fJ Tp.Xw ["board","answers","free","place"] Ql λ_ _ _ _ _ _ hr=>(aG (gH 3 nd rfl jl rfl (yW Tp.ow Tp.X6 Fk.t28 hr (gv 0) (aA (gv 2) aH)))
 (aG (gU (UJ (gv 3)) (aG (bU pC)
 aO) aO)
 (aG (gU (wK (U6 (jt (Er Tp.ow (gv 0))) (UW (jt (yW Tp.ow Tp.X7 Fk.t29 hr (gv 0) (aA (gv 2) aH)))))) (aG (bU (gc Fk.QG Tp.Mj hr bA gk (aA (gv 0) (aA (gv 1) (aA (yW Tp.ow Tp.Mq Fk.QD hr (gv 0) (aA (gv 2) (aA (gv 3) (aA aP aH)))) aH)))))
 aO) aO)
 (aG (bU (G3 (gc Fk.Yi Tp.Qt hr bA gk (aA (gv 0) (aA (gv 1) (aA (gv 2) (aA (gv 3) aH)))))))
 aO))))
 QJ:=fJ Tp.Ml Xh zoP λ_ _ _ _ _ _ hr=>(aG (lJ (gc Fk.vW Tp.uD hr bA gk (aA (gv 0) aH)))
 (aG (lJ (gc Fk.vW Tp.uD hr bA gk (aA (gv 1) aH)))
 (aG (gU (wK (DP (nM (jt (gc Fk.t2 Tp.d2 hr bA gk (aA (gv 2) (aA (cR (gv 0) aP) aH))))) (DN (nM (jt (G5 rfl Tp.z8 gk (aA (mV (au (top 53)) Xh ["place"] ["other"] [1] rfl rfl rfl Dc Dc (lG 0) Dc (pX (gv 2)) (λ_ _ _ _ _ _=>(lH 0 Dc rfl Dc)) (λ_ _ _ _ _ _=>n_) (λ_ _ _ _ _ _=>(gc Fk.QB Tp.Mf hr Ak uc (aA (cR (bQ 1) aP) (aA (bQ 0) aH))))) aH))))))) (aG (bU pC)
 aO) aO)
 (aG (bU (G5 rfl Tp.z8 gk (aA (mV (au (top 53)) Xh ["i","j"] ["other","thing"] [1,2] rfl rfl rfl Dc Dc (GQ 0 1) Dc (pX (cR (gv 0) aP)) (λ_ _ _ _ _ _=>(K1 0 1 rfl Dc rfl rfl Dc Dc)) (λ_ _ _ _ _ _=>n_) (λ_ _ _ _ _ _=>(gc Fk.t17 Tp.Xk hr Ak uc (aA (bQ 2) (aA (cR (bQ 3) (bQ 0)) (aA (cR (bQ 3) (bQ 1)) aH)))))) aH)))
 aO))))
 QK:=fJ Tp.Mp N43 zph λ_ _ _ _ _ _ hr=>(aG (lJ (gc Fk.vW Tp.uD hr bA gk (aA (gv 0) aH)))
 (aG (lJ (gc Fk.vW Tp.uD hr bA gk (aA (gv 1) aH)))
 (aG (gH 2 nd rfl jc rfl (gc Fk.t31 Tp.Xp hr bA gk (aA (gv 0) (aA (gv 1) aH))))
 (aG (bU (gc Fk.Yh Tp.Qs hr bA gk (aA (gv 2) (aA (mV (au (top 54)) N43 ["place"] ["board"] [2] rfl rfl rfl Dc Dc (lG 0) Dc (wM Tp.nR gk (cR (gv 0) aP)) (λ_ _ _ _ _ _=>(lH 0 Dc rfl Dc)) (λ_ _ _ _ _ _=>n_) (λ_ _ _ _ _ _=>(Er Tp.ow (bQ 1)))) aH))))
 aO))))
 t44:=fJ Tp.Xx N44 zo0 λ_ _ _ _ _ _ hr=>(aG (lJ (gc Fk.vW Tp.uD hr bA gk (aA (gv 0) aH)))
 (aG (lJ (gc Fk.vW Tp.uD hr bA gk (aA (gv 1) aH)))
 (aG (lJ (gc Fk.t6 Tp.d6 hr bA gk (aA (gv 3) aH)))
 (aG (gU (nM (jt (gc Fk.QJ Tp.Ml hr bA gk (aA (gv 0) (aA (gv 1) (aA (gv 2) aH)))))) (aG DW
 aO) aO)
 (aG (lJ (gc Fk.t35 Tp.Xr hr bA gk (aA (gv 1) (aA (gv 3) (aA (gv 4) aH)))))
 (aG (bU (wL Tp.z3 gk (aA (mV (au (top 55)) N44 ["place"] ["hues"] [4] rfl rfl rfl Dc Dc (lG 0) Dc (pX (gv 2)) (λ_ _ _ _ _ _=>(lH 0 Dc rfl Dc)) (λ_ _ _ _ _ _=>n_) (λ_ _ _ _ _ _=>(cR (bQ 1) (bQ 0)))) aH)))
 aO))))))
 t45:=fJL Tp.Xy Tp.lam N45 zps λ_ _ _ _ _ _ hr hL=>(aG (gH 1 nd rfl jl rfl (U9 rfl Tp.z5 gk (aA (gv 0) (aA (KJ Tp.fD gk dk) aH))))
 (aG (zkU 2 (au (top 58)) N45 ["k","d"] [] [] nd rfl jl rfl rfl rfl rfl Dc Dc (lG 0) (lG 1) Dc (KY Tp.nR gk aP (eO wI (gv 1) aP)) (λ_ _ _ _ _ _=>(lH 0 Dc rfl Dc)) (λ_ _ _ _ _ _=>(KY Tp.nR uc aP (eO wI (bQ 0) aP))) (λ_ _ _ _ _ _=>(lH 1 Dc rfl Dc)) (λ_ _ _ _ _ _=>(DQ (jt (gc Fk.t48 Tp.XD hr Ak uc (aA (bQ 0) (aA (bQ 1) aH)))))) (λ_ _ _ _ _ _=>(jf (aA (bQ 0) (aA (bQ 1) aH)))))
 (aG (bU (zkp "ring" hL hr rfl Tp.z9 gk (gv 2) (λ_ _ _ _=>(eO GZ (eO Ae (cR (gv 0) aP) (KJ Tp.lA gk dk)) (cR (gv 0) aP)))))
 aO)))
 Yj:=fJ Tp.Qu ["web","ring"] zoW λ_ _ _ _ _ _ hr=>(aG (bU (G3 (gc Fk.Yg Tp.Qq hr bA gk (aA (gv 0) (aA (gv 1) aH)))))
 aO)
 t47:=fJ Tp.Xz ["web","rings","at"] zo1 λ_ _ _ _ _ _ hr=>(aG (lJ (gc Fk.vW Tp.uD hr bA gk (aA (gv 0) aH)))
 (aG (gH 1 nd rfl jl rfl (gc Fk.t45 Tp.Xy hr bA gk (aA (cR (gv 0) aP) aH)))
 (aG (gH 2 nd rfl jl rfl aP)
 (aG (zge wO (nM (jt (gc Fk.Yj Tp.Qu hr bA gk (aA (gv 0) (aA (cR (gv 1) (gv 2)) aH))))) (aG (zok 2 nd rfl jl rfl aP)
 aO))
 (aG (bU (cR (gv 1) (gv 2)))
 aO)))))
 t48:=fJ Tp.XD ["k","d"] zpk λ_ _ _ _ _ _ hr=>(aG (bU (wJ (uq (Ag hr) (gc Fk.t9 Tp.d9 hr bA gk (aA (gv 0) (aA (gv 1) aH))) (jf (aA (gv 0) (aA (gv 1) aH)))) (su (KN (uq (Ag hr) (gv 0) aP) (su (uq O_ (gv 0) (eO Ae aP (gv 1))))))))
 aO)
 t49:=fJ Tp.XH ["_law_script","_law_k"] zoH λ_ _ _ _ _ _ hr=>(aG (gU (mU (DK hr) (gv 1) (G4 Tp.z4 gk (aA (gv 0) aH))) (aG (bU (cR (gv 0) (gv 1)))
 aO) aO)
 (aG (bU aP)
 aO))
 t50:=fJ Tp.XJ ["_law_cell_here","_law_left"] zoD λ_ _ _ _ _ _ hr=>(aG (gH 1 nd rfl jl rfl (zlK rfl Tp.X3 gk (aA (gv 0) (aA (eO DG aP (gv 0)) aH))))
 (aG (bU (Ai (aA (gv 1) (aA (zmm Tp.z1 gk (aA (uq O_ (gv 1) (eO zny aP aP)) aH)) aH))))
 aO))
 Mr:=fJ Tp.Hr ["_law_pen_here","_law_many","_law_left","_law_found","_law_stir"] zo6 λ_ _ _ _ _ _ hr=>(aG (gU (mU (Ag hr) (cR (gv 0) aP) aP) (aG (G7 2 3 rfl rfl nd rfl rfl jl jl rfl rfl (zhK Tp.z14 gk (aA (cR (gv 0) aP) (aA (gv 1) aH))))
 (aG (Pj (gv 0) aP (gv 2))
 (aG (bU (gv 3))
 aO))) aO)
 (aG (gH 4 nd rfl jl rfl (eO Af (eO Ae (eO wI (eO Af (cR (gv 0) aP) aP) aP) aP) aP))
 (aG (gH 4 nd rfl jl rfl (eO Af (eO wI (eO Ae (gv 4) (gv 4)) aP) aP))
 (aG (Pj (gv 0) aP (eO Af (eO wI (eO Ae (gv 4) aP) aP) aP))
 (aG (bU (eO Af (eO GZ (cR (gv 0) aP) aP) (gv 1)))
 aO)))))
 t52:=fJ Tp.XM N52 zpe λ_ _ _ _ _ _ hr=>(aG (gH 2 nd rfl jc rfl (cR (Ai (aA aP (aA aP (aA aP aH)))) (gc Fk.Mr Tp.Hr hr bA gk (aA (gv 0) (aA aP aH)))))
 (aG (gH 3 nd rfl jl rfl (Ai aH))
 (aG (Al wO rfl rfl (wM Tp.nR gk (gv 1)) (K4 4 nd rfl jc rfl) (aG (gH 3 nd rfl jl rfl (eO wI (gv 3) (mV (au (top 66)) N52 ["_law_other"] ["_law_one","_law_pen_here","_law_often"] [4,0,2] rfl rfl rfl Dc Dc (lG 0) Dc (KY Tp.nR gk (eO wI (gv 4) aP) (gv 1)) (λ_ _ _ _ _ _=>(lH 0 Dc rfl Dc)) (λ_ _ _ _ _ _=>(DQ (mU (DK hr) (gc Fk.Mr Tp.Hr hr Ak uc (aA (bQ 2) (aA aP aH))) (bQ 3)))) (λ_ _ _ _ _ _=>(jf (aA (bQ 1) (aA (bQ 0) aH)))))))
 aO))
 (aG (bU (jf (aA (gv 1) (aA (wL Tp.z3 gk (aA (gv 3) aH)) aH))))
 aO))))
 Yk:=fJ Tp.Qv ["_law_pen_here","_law_some"] zoV λ_ _ _ _ _ _ hr=>(aG (gH 1 nd rfl jl rfl (Ai (aA (jf (aA aP (aA aP aH))) (aA (jf (aA aP (aA aP aH))) (aA (jf (aA aP (aA aP aH))) (aA (jf (aA aP (aA aP aH))) (aA (jf (aA aP (aA aP aH))) (aA (jf (aA aP (aA aP aH))) (aA (jf (aA aP (aA aP aH))) (aA (jf (aA aP (aA aP aH))) (aA (jf (aA aP (aA aP aH))) (aA (jf (aA aP (aA aP aH))) (aA (jf (aA aP (aA aP aH))) (aA (jf (aA aP (aA aP aH))) aH))))))))))))))
 (aG (bU (cR (gv 1) (gc Fk.Mr Tp.Hr hr bA gk (aA (gv 0) (aA aP aH)))))
 aO))
 t54:=fJ Tp.XQ N54 zoK λ_ _ _ _ _ _ hr=>(aG (Pk 2 3 rfl rfl nd rfl rfl Tv jl jl (gc Fk.Hs Tp.Fb hr bA gk (aA (gv 0) aH)) (gc Fk.Hs Tp.Fb hr bA gk (aA (gv 1) aH)) rfl)
 (aG (gH 4 nd rfl jl rfl (zmc rfl Tp.X3 gk (aA (mV (au (top 68)) N54 ["_law_part"] ["_law_one"] [0] rfl rfl rfl Dc Dc (lG 0) Dc (KY Tp.nR gk aP aP) (λ_ _ _ _ _ _=>(lH 0 Dc rfl Dc)) (λ_ _ _ _ _ _=>(DQ (wK (U6 (mU (Ag hr) (eO Af (cR (bQ 1) aP) (bQ 0)) aP) (UW (mU (Ag hr) (eO Af (cR (bQ 1) aP) (bQ 0)) aP)))))) (λ_ _ _ _ _ _=>(bQ 0))) aH)))
 (aG (gH 5 nd rfl jl rfl (jf (aA (eO GZ (cR (gv 0) aP) (gv 4)) (aA (eO GZ (cR (gv 0) aP) (gv 4)) aH))))
 (aG (gU (mU (DK hr) (cR (gv 0) aP) (eO Ae aP (cR (gv 0) aP))) (aG (gH 5 nd rfl jl rfl (jf (aA aP (aA aP aH))))
 aO) aO)
 (aG (gU (wK (DP (mU (KQ hr) (gc Fk.t47 Tp.Xz hr bA gk (aA (gv 2) aH)) (gv 5)) (DN (nM (jt (gc Fk.QF Tp.Mh hr bA gk (aA (gv 2) (aA (gv 0) (aA (V2 rfl Tp.z3 gk Tp.nR gk (aA (cR (gv 0) aP) aH)) aH))))))))) (aG (bU pC)
 aO) aO)
 (aG (gH 6 nd rfl jl rfl (gc Fk.QK Tp.Mp hr bA gk (aA (gv 2) (aA (gv 3) aH))))
 (aG (gU (wK (DP (mU (KQ hr) (gc Fk.t22 Tp.Xn hr bA gk (aA (gv 0) (aA (gv 1) aH))) (G3 (gv 6))) (DN (mU (KQ hr) (G3 (gc Fk.Yg Tp.Qq hr bA gk (aA (gv 2) (aA (gv 1) aH)))) (G3 (gv 6)))))) (aG (bU pC)
 aO) aO)
 (aG (bU (KN (Pa (gv 6)) (su (wJ (gc Fk.QJ Tp.Ml hr bA gk (aA (gv 2) (aA (gv 3) (aA (gv 6) aH)))) (su (gc Fk.QF Tp.Mh hr bA gk (aA (gv 2) (aA (gv 1) (aA (gv 6) aH)))))))))
 aO))))))))
 t55:=fJ Tp.XR N55 zpg λ_ _ _ _ _ _ hr=>(aG (gH 3 nd rfl jl rfl (gc Fk.Hs Tp.Fb hr bA gk (aA (gv 1) aH)))
 (aG (gH 4 nd rfl jl rfl (gc Fk.QK Tp.Mp hr bA gk (aA (gv 0) (aA (gv 3) aH))))
 (aG (gU (mU (KQ hr) (gc Fk.Yj Tp.Qu hr bA gk (aA (gv 0) (aA (gv 1) aH))) (G3 (gv 4))) (aG (bU pC)
 aO) aO)
 (aG (gU (UJ (gv 4)) (aG (bU pC)
 aO) aO)
 (aG (gH 5 nd rfl jl rfl (gc Fk.t44 Tp.Xx hr bA gk (aA (gv 0) (aA (gv 3) (aA (gv 4) (aA (gv 1) (aA (V2 rfl Tp.z3 gk Tp.nR gk (aA (cR (gv 1) aP) aH)) aH)))))))
 (aG (gU (wK (DP (mU (KQ hr) (gv 5) (gv 4)) (DN (nM (jt (gc Fk.QF Tp.Mh hr bA gk (aA (gv 0) (aA (gv 1) (aA (gv 5) aH))))))))) (aG (bU pC)
 aO) aO)
 (aG (gH 6 nd rfl jc rfl (gc Fk.QK Tp.Mp hr bA gk (aA (gv 3) (aA (gc Fk.Hs Tp.Fb hr bA gk (aA (gv 2) aH)) aH))))
 (aG (bU (KN (Pa (gv 6)) (su (gc Fk.QJ Tp.Ml hr bA gk (aA (gv 0) (aA (gc Fk.Hs Tp.Fb hr bA gk (aA (gv 2) aH)) (aA (wL Tp.z3 gk (aA (mV (au (top 69)) N55 ["_law_spot"] ["_law_more"] [6] rfl rfl rfl Dc Dc (lG 0) Dc (pX (gv 4)) (λ_ _ _ _ _ _=>(lH 0 Dc rfl Dc)) (λ_ _ _ _ _ _=>n_) (λ_ _ _ _ _ _=>(cR (bQ 1) (bQ 0)))) aH)) aH)))))))
 aO))))))))
 t56:=fJ Tp.Qw ["_law_script","_law_cell_here","_law_pen_here","_law_one","_law_other","_law_web_here"] zoC λ_ _ _ _ _ _ hr=>(aG (Al wO rfl rfl (pX (eO wI (Ai (aA (gc Fk.t49 Tp.XH hr bA gk (aA (gv 0) (aA aP aH))) aH)) (zoS (gv 0) (U8 aP) (U8 aP)))) (K4 1 nd rfl jl rfl) (aG (gH 2 nd rfl jl rfl (gc Fk.t50 Tp.XJ hr bA gk (aA (gv 1) aH)))
 (aG (Pk 3 4 rfl rfl nd rfl rfl Tv jl jl (gc Fk.Yk Tp.Qv hr bA gk (aA (gv 2) aH)) (gc Fk.Yk Tp.Qv hr bA gk (aA (gv 2) aH)) rfl)
 (aG (gH 5 nd rfl jl rfl (gc Fk.t52 Tp.XM hr bA gk (aA (gv 2) (aA (eO wI aP (gc Fk.Mr Tp.Hr hr bA gk (aA (gv 2) (aA aP aH)))) aH))))
 (aG (gU (wK (DP (nM (jt (gc Fk.t54 Tp.XQ hr bA gk (aA (gv 3) (aA (gv 4) aH))))) (DN (nM (jt (gc Fk.t55 Tp.XR hr bA gk (aA (gv 5) (aA (gv 3) (aA (gv 4) aH))))))))) (aG (bU pC)
 aO) aO)
 aO)))))
 (aG (bU pC)
 aO))
theorem ziC(Tp:Top K mg):∀k,Fs P w K mg base k
 |0=>⟨cQ,cQ,cQ,cQ,cQ,cQ,cQ,cQ,cQ,cQ,cQ,cQ,cQ,cQ,cQ,cQ,cQ,cQ,cQ,cQ,cQ,cQ,cQ,zh1,cQ,cQ,cQ,cQ,cQ,cQ,cQ,cQ,cQ,cQ,cQ,cQ,cQ,cQ,cQ,cQ,cQ,cQ,cQ,cQ,cQ,cQ,cQ,cQ,cQ,cQ,cQ,cQ,cQ,cQ,cQ,cQ,cQ⟩
 |k+1=>zkL Tp (ziC Tp k)
end
theorem all_mk{l:PySem.W.OpenLaw}{w:World}{K:W.Frag}{h:Heap}{mg:Str->Option Value}{fa:Addr}(hm:∀ns:List Int,ns.length<=63->∃s',call aq T 60 true 56 [.d (.fl (ns.map D.int))] []=some (.ok (.d (.bl true)),s'))
  (S:sH fs ms xs lk bd K) (LH:lu K h) (X:K.In h) (G:h.Ns mainGlobals mg) (En:mg "law"=some (.ref fa)) :
  ∃fd:FuncData,(∀(s:Shared) (u:Value),BindsTo s fd ⟨[u],[]⟩ [("_law_script",u)])/\∀base:Heap,K.In base->base.Ns mainGlobals mg->cG l.prog w K mg base (fK l.prog w) true 60 fa fd ["_law_script"] (vG K):=by
 have Tp:Top K mg:=zlJ S LH X G;have e:=En.symm.trans Tp.Qw.m;cases e;exact⟨_,DX Tp.Qw.f (λ_ _ _ _ _ _ _=>rfl),λbase _ _=>(ziC Tp 60).t56.imp (zkD hm)⟩
end eN
namespace eN
open PySem Mi
theorem zhH{k:Nat}{n i:Int}{ps:List (Int×Int)}(h:Web n ps):W (call aq T (k+1) true 19 [.d (aQ n ps),.d (.int i)]) [] λv s=>v=.d (.tup ((bx i ps).map .int)):=by
 refine W.call zoI rfl ?_;unfold Wq aQ;have hl:(ps.map eU).length<=100:=by rw[cZ];have:=h.len;have:=h.h8;lia
 have hs:(100:Nat)<=sizeLine:=by decide
 refine Y ?_;refine nQ (l:=ps) (f:=eU) (λp=>(endOf i p).map .int) (by rw[cZ] at hl;lia) ?_ (λp hp=>?_) ?_
 ·refine Y ?_;exact⟨rfl,rfl⟩
 ·obtain⟨a,b⟩:=p;refine Y ?_;refine⟨rfl,λhb=>?_,λhb=>?_⟩
  ·refine Y ?_;refine W.ite (λh1=>?_) (λh1=>?_)
   ·refine Y ?_;refine⟨rfl,_,rfl,?_⟩;have h1:a=i:=by simpa using h1
    simp[endOf,h1]
   ·refine Y ?_;refine⟨rfl,_,rfl,?_⟩;simp[oA] at h1 hb;rcases hb with hb|hb
    ·exact absurd hb h1
    ·simp[endOf,h1,hb]
  ·simp[oA] at hb;simp[endOf,hb]
 ·have he:ps.filterMap (λp=>(endOf i p).map D.int)=(bx i ps).map D.int:=by unfold bx;rw[List.map_filterMap]
  rw[he];refine Y ?_;refine Pq (zf1 (zil ?_ (VD h i))) ?_
  ·have:=QV (endOf i) ps;have:=h.len;have:=h.h8;unfold bx
   lia
  exact Y trivial
section
variable {al:Bool}{n k:Nat}{es:Nat->List Int}{A:Int->Int->Bool}{F:Fr}{p:Nat}{x y:Int}
theorem zn7{k':Nat}(hx:0<=x/\x<k)(hy:0<=y/\y<k):W (call aq T (k'+1) true 24 [.d (jw al n k es A),.d (.int x),.d (.int y)]) [] λv s=>v=.d (.bl (A x y)):=by
 refine W.call zoQ rfl ?_;unfold Wu jw;refine Y ?_;refine eF (ux hx.1 (zoj hx.1 hx.2)) ?_;refine Y ?_;refine eF (ux hy.1 (Wc hy.1 hy.2)) ?_;exact Y trivial
theorem Ms{k':Nat}(B:Bo n k es A)(v:Fv n k F)(hp:p<n)(hx:0<=x/\x<k):W (call aq T (k'+2) true 25 [.d (jw al n k es A),.d (jG F),.d (.int p),.d (.int x)]) [] λv s=>v=.d (jG (settle es A F p x)):=by
 refine W.call zoL rfl ?_;unfold Wv jG;have pY:(100:Nat)<=sizeLine:=by decide
 have hn:=B.hn;have hv:=v.len;have ebo:jw al n k es A=.ob 0 [.fl (Ez n es),.tup ((dU k).map .int),.fl (vV k A),.bl al]:=rfl;refine Y ?_;refine KaV rfl ?_;refine Y ?_;refine⟨_,zi2 gV (by rw[cZ];lia),?_⟩;refine Y ?_;refine eF (ux gV (zna gV)) ?_;refine Y ?_;refine Hg (λi J s=>s=[.lst ((((es p).take i).foldl (gK (A x)) (F.set p none)).map bD)]/\∃a5:Option Xv,J=[some (.d (jw al n k es A)),some (.d (.tup (F.map bD))),some (.d (.int p)),some (.d (.int x)),some (.l 0),a5]) ⟨?_,_,rfl⟩ (λi z J s e hI=>?_) (λJ s hI=>?_)
 ·show [SO.lst ((F.map bD).set p .non)]=_;rw[List.take_zero,List.foldl_nil,List.map_set];rfl
 ·obtain⟨rfl,a5,rfl⟩:=hI;rw[iG] at e;cases ei:(es p)[i]? with
  |none=>
   rw[pO,ei] at e;cases e
  |some q=>
   rw[pO,ei] at e;cases e;have hq:=B.mem p hp q (fG ei);have ht:(es p).take (i+1)=(es p).take i++[q]:=by rw[Nu,ei];rfl
   rw[ht,List.foldl_append,Nr,List.foldl_nil];have hG:(((es p).take i).foldl (gK (A x)) (F.set p none)).length=n:=by rw[V7,qe,hv]
   have lo:∀L,(((es p).take i).foldl (gK (A x)) (F.set p none))[q.toNat]?=some (some L)->(∀y∈L,0<=y/\y<k)/\L.length<=24:=λL hL=>by
    rw[V8 q.toNat (λe he=>(B.mem p hp e (List.mem_of_mem_take he)).1) (by rw[qe];lia),p8 gV] at hL;have hz:∀L',F[q.toNat]?=some (some L')->(∀y∈L',0<=y/\y<k)/\L'.length<=24:=λL' h=>⟨v.lo _ L' h,v.ll _ L' h⟩;split at hL
    ·obtain⟨c,e1,e2⟩:=lB.mp hL;cases c with
     |none=>cases e2
     |some L'=>
      cases e2;exact⟨λy hy=>(hz L' e1).1 y (jU.mp hy).1,jZ (Nb _ _) (hz L' e1).2⟩
    ·exact hz L hL
   generalize ((es p).take i).foldl (gK (A x)) (F.set p none)=G at hG lo ⊢;obtain⟨c,ec⟩ : ∃c,G[q.toNat]?=some c:=⟨_,dH gV⟩;refine Y ?_;refine eF (ux hq.1 (LQ ec)) ?_;refine Y ?_;cases c with
   |none=>
    refine Y ?_;exact⟨_,rfl,by rw[zhj ec],_,rfl⟩
   |some L=>
    obtain⟨l1,l2⟩:=lo L ec;refine Y ?_;refine nQ (l:=L) (f:=D.int) (λy=>if A x y=true then some (.int y) else none) gV ?_ (λy hy=>?_) ?_
    ·refine Y ?_;refine eF (ux hq.1 (LQ ec)) ?_;show W (src (.d (.tup (L.map .int)))) _ _;refine Y ?_;exact⟨rfl,rfl⟩
    ·refine Y ?_;refine W.cm rfl rfl (W.c0 (zn7 hx (l1 y hy)) ?_);refine Y ?_;refine⟨rfl,λhb=>?_,λhb=>?_⟩
     ·refine Y ?_;exact⟨rfl,_,rfl,by rw[if_pos hb]⟩
     ·rw[if_neg (by rw[hb];decide)]
    ·rw[zdS (α:=Unit)];refine Y ?_;refine⟨_,zi2 hq.1 (by rw[cZ];lia),?_⟩;refine Y ?_;refine⟨_,rfl,?_,_,rfl⟩;rw[zjH,ec];rfl
 ·obtain⟨rfl,a5,rfl⟩:=hI;rw[cZ,pO,Bp];refine Y ?_;rfl
theorem ziR{k':Nat}(B:Bo n k es A)(v:Fv n k F)(hp:p<n):W (call aq T (k'+1) true 26 [.d (jw al n k es A),.d (jG F),.d (.int p)]) [] λv s=>v=.d (.int (dF es F p)):=by
 refine W.call zoX rfl ?_;unfold Ww jG jw;have pY:(100:Nat)<=sizeLine:=by decide
 have hn:=B.hn;have hv:=v.len;have hl:=B.len p hp;refine Y ?_;refine nQ (l:=es p) (f:=D.int) (λe=>if ((λe:Int=>(F[e.toNat]?.join).isSome) e)=true then some (.int e) else none) gV ?_ (λe he=>?_) ?_
 ·refine Y ?_;refine eF (ux gV (zna gV)) ?_;rw[pO];refine Y ?_;exact⟨rfl,rfl⟩
 ·have hq:=B.mem p hp e he;obtain⟨c,ec⟩ : ∃c,F[e.toNat]?=some c:=⟨_,dH gV⟩;refine Y ?_;refine eF (ux hq.1 (LQ ec)) ?_;refine Y ?_;have hc:(F[e.toNat]?.join).isSome=c.isSome:=by rw[ec];rfl
  have hd:(!(bD c).o7)=c.isSome:=by cases c<;>rfl
  rw[hd];refine⟨rfl,λhb=>?_,λhb=>?_⟩
  ·refine Y ?_;exact⟨rfl,_,rfl,if_pos (hc.trans hb)⟩
  ·exact if_neg (λz=>by rw[hc.symm.trans z] at hb;cases hb)
 ·rw[zdS (α:=Unit)];refine Y ?_;show Xv.d (.int (((((es p).filter _).map D.int).length:Nat):Int))=_;rw[cZ];rfl
theorem zky{k':Nat}(B:Bo n k es A)(v:Fv n k F):W (call aq T (k'+2) true 27 [.d (jw al n k es A),.d (jG F)]) [] λv s=>v=.d (jG (bnd es F)):=by
 refine W.call zoG rfl ?_;unfold Wx;have pY:(100:Nat)<=sizeLine:=by decide
 have hn:=B.hn;have hv:=v.len;refine Y ?_;refine nQ (l:=F.zipIdx 0) (f:=λq=>.tup [.int q.2,bD q.1]) (λq=>some (bD (if 0<dF es F q.2 then q.1 else none))) (by rw[List.length_zipIdx];lia) ?_ (λq hq=>?_) ?_
 ·refine KaL ?_;refine Y ?_;refine KaK ?_;rw[zbL];exact⟨rfl,rfl⟩
 ·obtain⟨c,i⟩:=q;have hi:i<n:=by
   have:=List.mem_zipIdx hq
   lia
  refine Y ?_;refine⟨rfl,λ_=>?_,λhb=>by cases hb⟩;refine Y ?_;refine W.cm rfl rfl (W.c0 (ziR B v hi) ?_);refine Y ?_;refine W.ite (λh1=>?_) (λh1=>?_)
  ·refine Y ?_;have h1:0<dF es F i:=by simpa using h1
   exact⟨rfl,_,rfl,by rw[if_pos h1]⟩
  ·refine Y ?_;have h1:¬0<dF es F i:=by simpa using h1
   exact⟨rfl,_,rfl,by rw[if_neg h1];rfl⟩
 ·rw[uy];refine Y ?_;show Xv.d (.tup _)=_;unfold jG bnd;rw[List.mapIdx_eq_zipIdx_map,Ib];rfl
end
section
variable {al:Bool}{n k:Nat}{es:Nat->List Int}{A:Int->Int->Bool}{F:Fr}{p:Nat}{x y:Int}
theorem Yl{k':Nat}(B:Bo n k es A)(v:Fv n k F):W (call aq T (k'+2) true 28 [.d (jw al n k es A),.d (jG F)]) [] λv s=>(v=.d .non/\∀(i:Nat) L,F[i]?≠some (some L))\/∃(p:Nat) (L:List Int),v=.d (.int p)/\F[p]?=some (some L):=by
 refine W.call zo5 rfl ?_;unfold Wy;have pY:(100:Nat)<=sizeLine:=by decide
 have hn:=B.hn;have hv:=v.len;refine Y ?_;refine KaK ?_;refine Hg (λi J s=>∃(rs:List (List Int)) (a3 a4:Option Xv),s=[.lst (rs.map λr=>D.tup (r.map .int))]/\J=[some (.d (jw al n k es A)),some (.d (jG F)),some (.l 0),a3,a4]/\rs.length<=i/\(∀r∈rs,∃(a b:Int) (p:Nat) (L:List Int),r=[a,b,(p:Int)]/\F[p]?=some (some L))/\(rs=[]->∀j,j<i->∀L,F[j]?≠some (some L))) ⟨[],_,_,rfl,rfl,cj _,by simp,λ_ j hj=>absurd hj gV⟩ (λi z J s e hI=>?_) (λJ s hI=>?_)
 ·obtain⟨rs,a3,a4,rfl,rfl,hl,h1,h2⟩:=hI;rw[zfW,iG] at e;cases ei:F[i]? with
  |none=>rw[ei] at e;cases e
  |some c=>
   rw[ei] at e;cases e;have hi:i<n:=by have:=(eG.mp ei).1;lia
   cases c with
   |none=>
    refine Y ?_;refine⟨_,rfl,rs,_,_,rfl,rfl,by lia,h1,λer j hj L=>?_⟩;by_cases z:j=i
    ·rw[z,ei];exact λq=>by cases q
    ·exact h2 er j gV L
   |some L=>
    refine Y ?_;refine W.cm rfl rfl (W.c0 (ziR (p:=0+i) B v gV) ?_);refine Y ?_;refine⟨by rw[cZ];lia,?_⟩;refine Y ?_;refine⟨_,rfl,rs++[[(((L.map D.int).length:Nat):Int),-(dF es F (0+i):Int),((0+i:Nat):Int)]],_,_,?_,rfl,by simp;lia,λr hr=>?_,λer=>by simp at er⟩
    ·rw[FT];rfl
    ·rcases nW.mp hr with hr|hr
     ·exact h1 r hr
     ·rw[Bj.mp hr];exact⟨_,_,i,L,by rw[Nat.zero_add],ei⟩
 ·obtain⟨rs,a3,a4,rfl,rfl,hl,h1,h2⟩:=hI;rw[zeU,cZ] at h2;refine Y ?_;refine W.Gz ?_;refine Y ?_;refine⟨_,rfl,?_⟩;by_cases er:rs=[]
  ·subst er;refine Y ?_;refine .inl ⟨rfl,λi L e=>?_⟩;exact h2 rfl i (eG.mp e).1 L e
  ·have et:(!(rs.map λr=>D.tup (r.map .int)).isEmpty)=true:=by
    cases rs with
    |nil=>exact absurd rfl er
    |cons=>rfl
   rw[et];obtain⟨r,hr,em⟩:=zlT er;refine Y ?_;refine eF em ?_;obtain⟨a,b,p,L,rfl,ep⟩:=h1 r hr;refine Y ?_;exact .inr ⟨p,L,rfl,ep⟩
def Ht(k:Nat):Option (List Int)->Bool
 |none=>true
 |some L=>decide (L=dU k)
theorem zdQ{k':Nat}(B:Bo n k es A)(v:Fv n k F):W (call aq T (k'+1) true 29 [.d (jw al n k es A),.d (jG F)]) [] λv s=>v=.d (.bl (F.all (Ht k))):=by
 refine W.call zo9 rfl ?_;unfold Wz;have pY:(100:Nat)<=sizeLine:=by decide
 have hn:=B.hn;have hv:=v.len;refine Y ?_;refine nQ (l:=F) (f:=bD) (λc=>some (.bl (Ht k c))) gV ?_ (λc hc=>?_) ?_
 ·refine Y ?_;show W (src (.d (.tup (F.map bD)))) _ _;refine Y ?_;exact⟨rfl,rfl⟩
 ·cases c with
  |none=>
   refine Y ?_;refine⟨rfl,λ_=>?_,λhb=>by cases hb⟩;refine Y ?_;exact⟨rfl,_,rfl,rfl⟩
  |some L=>
   refine Y ?_;refine⟨rfl,λ_=>?_,λhb=>by cases hb⟩;refine Y ?_;refine eF (zlj (f:=id)) ?_;exact⟨rfl,_,rfl,rfl⟩
 ·rw[uy];refine Y ?_;refine eF zln ?_;rfl
end
section
variable {n k d:Int}{ps:List (Int×Int)}
theorem zdt{k':Nat}(h:Web n ps):W (call aq T (k'+2) true 20 [.d (aQ n ps)]) [] λv s=>v=.d (.fl (Ez n.toNat λi=>bx i ps)):=by
 refine W.call zoM rfl ?_;unfold Wr;have pY:(100:Nat)<=sizeLine:=by decide
 have h1:=h.h1;have h8:=h.h8;refine Y ?_;refine nQ (l:=List.range (n-0).toNat) (f:=λ(j:Nat)=>.int (0+j)) (λ(i:Nat)=>some (.tup ((bx i ps).map .int))) (by rw[nU];lia) ?_ (λj hj=>?_) ?_
 ·unfold aQ;refine Y ?_;refine⟨by rw[mX gV gV,mX gV gV];rfl,?_⟩;exact⟨rfl,rfl⟩
 ·refine Y ?_;refine⟨rfl,λ_=>?_,λhb=>by cases hb⟩;refine Y ?_;refine W.c0 (zhH h) ?_;exact⟨rfl,_,rfl,by rw[show (0:Int)+j=j by lia]⟩
 ·rw[show (List.range (n-0).toNat).filterMap (λ(i:Nat)=>some (D.tup ((bx i ps).map .int)))=Ez n.toNat λi=>bx i ps by rw[uy,show n-0=n by lia];rfl];exact Y trivial
theorem zi4{k':Nat}{al:Bool}{A:Int->Int->Bool}(h:Web n ps){m:Nat}(hm:m<=24):W (call aq T (k'+3) true 23 [.d .any,.d (aQ n ps),.d (.fl (vV m A)),.d (.bl al)]) [] λv s=>v=.d (.tup [.fl (Ez n.toNat λi=>bx i ps),.tup ((dU m).map .int),.fl (vV m A),.bl al]):=by
 refine W.call zoY rfl ?_;unfold Wt;refine Y ?_;refine W.c0 (zdt h) ?_;have em:(vV m A).length=m:=by unfold vV;simp
 refine Kah (KaZ (ds:=[.int ((vV m A).length:Nat)]) rfl (eF (d:=.tup ((dU m).map .int)) (by rw[em];exact zlM gV) ?_));exact Y trivial
theorem zjg{k':Nat}(h:Web n ps)(hd:1<=d)(lM:d<=k)(hk:k<=24):W (call aq T (k'+4) true 30 [.d (aQ n ps),.d (aK k d)]) [] λv s=>v=.d (boD n.toNat k.toNat (λi=>bx i ps) (cU k d)):=by
 refine W.call zoZ rfl ?_;unfold WD aK;have pY:(100:Nat)<=sizeLine:=by decide
 have e0:(k-0).toNat=k.toNat:=by lia
 refine Y ?_;refine nQ (l:=List.range (k-0).toNat) (f:=λ(j:Nat)=>.int (0+j)) (λ(j:Nat)=>some (.bl ((λj:Int=>decide (d<=j/\d<=k-j)) j))) (by rw[nU];lia) ?_ (λj hj=>?_) ?_
 ·refine Y ?_;refine⟨by rw[mX gV gV,mX gV gV];rfl,?_⟩;exact⟨rfl,rfl⟩
 ·refine Y ?_;refine⟨rfl,λ_=>?_,λhb=>by cases hb⟩;refine Y ?_;refine⟨rfl,_,rfl,?_⟩
  congr 2
  rw[uE]
  split<;>lia
 ·rw[uy,e0];refine Y ?_;refine W.mk (vs:=[.d (aQ n ps),.d (.fl (vV k.toNat (cU k d))),.d (.bl true)]) ?_ rfl (zi4 h gV);refine Y ?_;refine nQ (l:=List.range (k-0).toNat) (f:=λ(j:Nat)=>.int (0+j)) (λ(a:Nat)=>some (.fl ((List.range k.toNat).map λ(b:Nat)=>.bl (cU k d a b)))) (by rw[nU];lia) ?_ (λa ha=>?_) ?_
  ·refine Y ?_;refine⟨by rw[mX gV gV,mX gV gV];rfl,?_⟩;exact⟨rfl,rfl⟩
  ·have ha:=v9.mp ha;refine Y ?_;refine⟨rfl,λ_=>?_,λhb=>by cases hb⟩;refine Y ?_;refine nQ (l:=List.range (k-0).toNat) (f:=λ(j:Nat)=>.int (0+j)) (λ(b:Nat)=>some (.bl (cU k d a b))) (by rw[nU];lia) ?_ (λb hb=>?_) ?_
   ·refine Y ?_;refine⟨by rw[mX gV gV,mX gV gV];rfl,?_⟩;exact⟨rfl,rfl⟩
   ·have hb:=v9.mp hb;refine Y ?_;refine⟨rfl,λ_=>?_,λhb=>by cases hb⟩;refine Y ?_;by_cases c:(0:Int)<=(0+a:Int)-(0+b)
    ·refine eF (ux c (Wc (f:=λj=>decide (d<=j/\d<=k-j)) c gV)) ?_;refine⟨rfl,_,rfl,?_⟩;unfold cU
     congr 2
     rw[uE,qU hd]
     lia
    ·refine eF (zor (x:=.bl (decide (d<=a-b+k/\d<=k-(a-b+k)))) gV (by rw[cZ,nU];lia) ?_) ?_
     ·rw[cZ,nU];refine(Wc (f:=λj=>decide (d<=j/\d<=k-j)) gV gV).trans ?_
      congr 3
      simp
      lia
     ·refine⟨rfl,_,rfl,?_⟩;unfold cU
      congr 2
      rw[uE,qU hd]
      lia
   ·rw[uy,e0];refine Y ?_;exact⟨rfl,_,rfl,rfl⟩
  ·rw[uy,e0];refine Y ?_;exact⟨rfl,rfl⟩
end
def zj5{k:Nat}{i:Int}:W (call aq T (k+1) true 0 [.d (.int i)]) [] λv s=>v=.d (.bl true):=W.eq (a:=.d (.bl true)) (s':=[]) rfl rfl
def Mu{k:Nat}{a b:D}:W (call aq T (k+1) true 2 [.d (.tup [a,b]),.d (.int 2)]) [] λv s=>v=.d (.bl true):=W.eq (a:=.d (.bl true)) (s':=[]) rfl rfl
theorem gM{k:Nat}{i a b:Int}:W (call aq T (k+2) true 1 [.d (.int i),.d (.int a),.d (.int b)]) [] λv s=>v=.d (.bl (decide (a<=i/\i<=b))):=by
 refine W.call T_1 rfl ?_;unfold b1;refine Y ?_;refine W.c0 zj5 ?_;refine Y ?_;refine W.ite (λh1=>?_) (λh1=>?_)
 ·refine Y ?_;have:=iZ h1;simp[this]
 ·refine Y ?_;simp at h1;have:¬(a<=i/\i<=b):=by lia
  simp[this]
theorem zlN{k:Nat}{i:Int}(h1:1<=i)(h2:i<=8):W (call aq T (k+3) true 12 [.d (.int i)]) [] λv s=>v=.d (.bl true):=by
 refine W.call zo4 rfl ?_;unfold Wi;refine Y ?_;exact jQ rfl (gM.imp λv s e=>⟨_,e,by rw[fP (And.intro h1 h2)]⟩)
theorem Mv{k:Nat}{n i:Int}:W (call aq T (k+3) true 13 [.d (.int n),.d (.int i)]) [] λv s=>v=.d (.bl (decide (0<=i/\i<n))):=by
 refine W.call zpj rfl ?_;unfold Wj;refine Y ?_;exact jQ rfl (gM.imp λv s e=>⟨_,e,by rw[uE.mpr (show 0<=i/\i<=n-1↔0<=i/\i<n by lia)]⟩)
theorem znX{k:Nat}{n:Int}{p:Int×Int}(h:0<=p.1/\p.1<p.2/\p.2<n):W (call aq T (k+4) true 14 [.d (.int n),.d (eU p)]) [] λv s=>v=.d (.bl true):=by
 obtain⟨a,b⟩:=p;obtain⟨h1,h2,h3⟩:=h;unfold eU;dsimp only at h1 h2 h3 ⊢;refine W.call Xb rfl ?_;unfold Qh;refine Y ?_;refine W.c0 Mu ?_;refine Y ?_;refine W.c0 Mv ?_;rw[fP (show 0<=a/\a<n by lia)];refine Y ?_;refine W.c0 Mv ?_;rw[fP (show 0<=b/\b<n by lia)];refine Y ?_;rw[fP h2]
theorem zjo{k:Nat}{n:Int}{ps:List (Int×Int)}(h:Web n ps):W (call aq T (k+5) true 10 [.d (aQ n ps)]) [] λv s=>v=.d (.bl true):=by
 refine W.call zoJ rfl ?_;unfold b10 aQ;have hl:(ps.map eU).length<=100:=by rw[cZ];have:=h.len;have:=h.h8;lia
 have hs:(100:Nat)<=sizeLine:=by decide
 refine Y ?_;refine W.c0 Mu ?_;refine Y ?_;refine W.c0 (zlN h.h1 h.h8) ?_;refine Y ?_;refine Kas (c:=ps.map eU) (λ_=>.bl true) gV ?_ (λx hx=>?_) ?_
 ·refine Y ?_;exact⟨rfl,rfl⟩
 ·obtain⟨p,hp,rfl⟩:=oh.mp hx;refine Y ?_;exact jQ rfl ((znX (h.tie p hp)).imp λv s e=>⟨_,e,rfl,rfl⟩)
 ·refine Y ?_;refine eF (Lb ?_) ?_
  ·intro x hx;obtain⟨_,_,e⟩:=oh.mp hx;exact e.symm
  refine Y ?_;refine Kas (c:=List.zipWith (λ(p q:D)=>D.tup [p,q]) (ps.map eU) ((ps.map eU).drop 1)) (λ_=>.bl true) (by rw[List.length_zipWith];lia) ?_ (λx hx=>?_) ?_
  ·refine Y ?_;rw[VB];exact⟨rfl,rfl⟩
  ·obtain⟨p,q,rfl,hpq⟩:=ziB h.inc x hx;refine Y ?_;rw[zn0 hpq];exact⟨rfl,rfl⟩
  ·refine Y ?_;refine eF (Lb ?_) ?_
   ·intro x hx;obtain⟨_,_,e⟩:=oh.mp hx;exact e.symm
   rfl
def wW{k:Nat}{n:Int}{ps:List (Int×Int)}(h:Web n ps):W (call aq T (k+6) true 16 [.d (aQ n ps)]) [] λv s=>∃d,v=.d d:=by
 refine W.call zo7 rfl ?_;unfold Wn;refine Y ?_;refine W.c0 (zjo h) ?_;refine Y ?_;exact⟨_,rfl⟩
theorem zhs{k':Nat}{k d:Int}(hd:1<=d)(lM:d<=k)(hk:k<=24):W (call aq T (k'+3) true 4 [.d (aK k d)]) [] λv s=>v=.d (.bl true):=by
 refine W.call T_4 rfl ?_;unfold b4 aK;refine Y ?_;refine W.c0 Mu ?_;refine Y ?_;refine W.c0 gM ?_;rw[fP (show 1<=k/\k<=24 by lia)];refine Y ?_;refine W.c0 gM ?_;rw[fP (show 1<=d/\d<=k by lia)]
def Hu{k':Nat}{k d:Int}(hd:1<=d)(lM:d<=k)(hk:k<=24):W (call aq T (k'+4) true 6 [.d (aK k d)]) [] λv s=>∃d,v=.d d:=by
 refine W.call T_6 rfl ?_;unfold b6;refine Y ?_;refine W.c0 (zhs hd lM hk) ?_;refine Y ?_;exact⟨_,rfl⟩
theorem zh0{k':Nat}{k d x:Int}:W (call aq T (k'+3) true 5 [.d (aK k d),.d (.int x)]) [] λv s=>v=.d (.bl (decide (0<=x/\x<k))):=by
 refine W.call T_5 rfl ?_;unfold b5 aK;refine Y ?_;exact jQ rfl (gM.imp λv s e=>⟨_,e,by rw[uE.mpr (show 0<=x/\x<=k-1↔0<=x/\x<k by lia)]⟩)
def zgh{k':Nat}{k d a b:Int}:W (call aq T (k'+1) true 7 [.d (aK k d),.d (.int a),.d (.int b)]) [] λv s=>v=.d (.int (gW k a b)):=W.eq (a:=.d (.int (gW k a b))) (s':=[]) rfl rfl
section
variable {al:Bool}{n k:Nat}{es:Nat->List Int}{A:Int->Int->Bool}
def Told(al:Bool)(n k:Nat)(es:Nat->List Int)(A:Int->Int->Bool)(f l m c:Nat):Prop:=∀F kvs,Fv n k F->unset F<=m->lY es A kvs->kvs.length+c<sizeLine->
 W (call aq T l true f [.d (jw al n k es A),.l 0,.d (jG F)]) [.dct kvs] λv s=>∃b kvs',v=.d (.bl b)/\(b=true↔Sat es A F)/\s=[.dct kvs']/\lY es A kvs'/\kvs'.length<=kvs.length+c
theorem QL{l m c:Nat}(B:Bo n k es A)(H:Told al n k es A 40 (l+2) m c){F:Fr}{p:Nat}{L:List Int}{kvs:jd}(v:Fv n k F)(hu:unset F<=m+1)(hL:F[p]?=some (some L))(ha:lY es A kvs)(hl:kvs.length+k*c<sizeLine) :
  W (call aq T (l+3) true 39 [.d (jw al n k es A),.l 0,.d (jG F),.d (.int p)]) [.dct kvs] λv s=>∃kvs',s=[.dct kvs']/\lY es A kvs'/\kvs'.length<=kvs.length+k*c /\
   ((v=.d .non/\∀x∈L,¬Sat es A (settle es A F p x))\/∃x∈L,v=.d (.int x)/\Sat es A (settle es A F p x)/\∀y∈L,y<x->¬Sat es A (settle es A F p y)):=by
 refine W.call Xe rfl ?_;unfold Qk;have pY:(100:Nat)<=sizeLine:=by decide
 have hp:=qW v.len hL;have hLk:L.length<=k:=Wd (v.so p L hL) (v.lo p L hL);refine Y ?_;refine eF (zmn gV (LQ hL)) ?_;show W (src (.d (.tup (L.map .int)))) _ _;refine Y ?_;refine VG (λi J s=>∃(kvs':jd) (a4:Option Xv),s=[.dct kvs']/\J=[some (.d (jw al n k es A)),some (.l 0),some (.d (jG F)),some (.d (.int p)),a4]/\lY es A kvs'/\kvs'.length<=kvs.length+i*c/\∀j y,j<i->L[j]?=some y->¬Sat es A (settle es A F p y)) ⟨kvs,_,rfl,rfl,ha,by lia,λj _ hj=>absurd hj gV⟩ (λi z J s e hI=>?_) (λJ s hI=>?_)
 ·obtain⟨kvs',a4,rfl,rfl,h1,h2,h3⟩:=hI;rw[iG] at e;cases ei:L[i]? with
  |none=>rw[ei] at e;cases e
  |some x=>
   rw[ei] at e;cases e;have hi:i<L.length:=(eG.mp ei).1;have hx:=fG ei;have hc:(i+1)*c<=k*c:=Nf _ gV;have nY:(i+1)*c=i*c+c:=Nat.succ_mul ..;refine Y ?_;refine W.cm rfl rfl (W.c0 (Ms B v hp (v.lo p L hL x hx)) ?_);refine Y ?_;have hu2:=LC (es:=es) (A:=A) (x:=x) hL;refine uw (s:=[]) rfl ((H _ kvs' (Lz B v hp) gV h1 gV).imp λv1 s1=>?_);rintro⟨b,dG,rfl,hb,rfl,g1,g2⟩;refine⟨_,_,rfl,rfl,?_⟩;refine Y ?_;cases b with
   |true=>
    refine Y ?_;refine .inr ⟨_,rfl,?_⟩;refine⟨dG,rfl,g1,by lia,.inr ⟨x,hx,rfl,hb.mp rfl,λy hy cg=>?_⟩⟩;obtain⟨j,hj,ej⟩:=v7 hy;refine h3 j y ?_ (by rw[dH hj,ej]);obtain⟨_,ex⟩:=eG.mp ei;exact Nat.lt_of_not_le λq=>by
     rcases Rb q with q|q
     ·have:=QS.mp (v.so p L hL) i j hi hj q
      lia
     ·subst q;lia
   |false=>
    refine Y ?_;refine .inl ⟨_,rfl,dG,_,rfl,rfl,g1,by lia,λj y hj ej=>?_⟩;by_cases q:j=i
    ·subst q;rw[ei] at ej;cases ej;exact λz=>by cases hb.mpr z
    ·exact h3 j y gV ej
 ·obtain⟨kvs',a4,rfl,rfl,h1,h2,h3⟩:=hI;rw[cZ] at h2 h3;have hc:L.length*c<=k*c:=Nf _ hLk;refine Y ?_;refine⟨kvs',rfl,h1,by lia,.inl ⟨rfl,λx hx=>?_⟩⟩;obtain⟨j,hj,ej⟩:=v7 hx;exact h3 j x hj (by rw[dH hj,ej])
theorem zer{l:Nat}(B:Bo n k es A):Told al n k es A 41 (l+3) 0 0:=by
 intro F kvs v hu ha hl;refine W.call Ql rfl ?_;unfold Ma;refine Y ?_;refine W.cm rfl rfl (jQ rfl ((Yl B v).imp λx s=>?_));rintro(⟨rfl,hz⟩|⟨p,L,rfl,hL⟩)
 ·refine⟨_,rfl,?_⟩;refine Y ?_;exact⟨true,kvs,rfl,⟨λ_=>V_ hz,λ_=>rfl⟩,rfl,ha,by lia⟩
 ·exact absurd hL (zcG gV p L)
theorem zet{l m c:Nat}(B:Bo n k es A)(iY:1<=k)(cN:al=true->∀t a b:Int,0<=a->a<k->0<=b->b<k->A ((a+t)%k) ((b+t)%k)=A a b)(H:∀j,Told al n k es A 40 (l+2+j) m c):Told al n k es A 41 (l+4) (m+1) (k*c):=by
 intro F kvs v hu ha hl;refine W.call Ql rfl ?_;unfold Ma;have hkc:1*c<=k*c:=Nf _ iY;refine Y ?_;refine W.cm rfl rfl (jQ rfl ((Yl B v).imp λx s=>?_));rintro(⟨rfl,hz⟩|⟨p,L,rfl,hL⟩)
 ·refine⟨_,rfl,?_⟩;refine Y ?_;exact⟨true,kvs,rfl,⟨λ_=>V_ hz,λ_=>rfl⟩,rfl,ha,by lia⟩
 ·refine⟨_,rfl,?_⟩;have hp:=qW v.len hL;cases al with
  |false=>
   refine Y ?_;refine uw (s:=[]) rfl ((QL B (H 0) v hu hL ha gV).imp λv1 s1=>?_);rintro⟨dG,rfl,g1,g2,h⟩;rcases h with ⟨rfl,gZ⟩|⟨x,hx,rfl,hs,_⟩
   ·refine⟨_,_,rfl,rfl,?_⟩;refine Y ?_;refine⟨false,dG,rfl,⟨λz=>(by cases z),λz=>?_⟩,rfl,g1,g2⟩;obtain⟨x,hx,q⟩:=(Hq B v hp hL).mp z;exact absurd q (gZ x hx)
   ·refine⟨_,_,rfl,rfl,?_⟩;refine Y ?_;exact⟨true,dG,rfl,⟨λ_=>(Hq B v hp hL).mpr ⟨x,hx,hs⟩,λ_=>rfl⟩,rfl,g1,g2⟩
  |true=>
  have cN:=cN rfl;refine Y ?_;refine W.cm rfl rfl (W.c0 (zdQ B v) ?_);refine Y ?_;cases eb:F.all (Ht k) with
  |true=>
   have all:∀(i:Nat) L,F[i]?=some (some L)->L=dU k:=λi L h=>iZ (iK.mp eb _ (fG h));refine Y ?_;refine W.cm rfl rfl (W.c0 (Ms B v hp ⟨by lia,by lia⟩) ?_);refine Y ?_;have hu2:=LC (es:=es) (A:=A) (x:=0) hL;refine uw (s:=[]) rfl ((H 1 _ kvs (Lz B v hp) gV ha gV).imp λv1 s1=>?_);rintro⟨b,dG,rfl,hb,rfl,g1,g2⟩;refine⟨_,_,rfl,rfl,?_⟩;refine Y ?_;exact⟨b,dG,rfl,hb.trans (Wa B v hp iY cN all (all p L hL▸hL)).symm,rfl,g1,by lia⟩
  |false=>
   refine Y ?_;refine uw (s:=[]) rfl ((QL B (H 0) v hu hL ha gV).imp λv1 s1=>?_);rintro⟨dG,rfl,g1,g2,h⟩;rcases h with ⟨rfl,gZ⟩|⟨x,hx,rfl,hs,_⟩
   ·refine⟨_,_,rfl,rfl,?_⟩;refine Y ?_;refine⟨false,dG,rfl,⟨λz=>(by cases z),λz=>?_⟩,rfl,g1,g2⟩;obtain⟨x,hx,q⟩:=(Hq B v hp hL).mp z;exact absurd q (gZ x hx)
   ·refine⟨_,_,rfl,rfl,?_⟩;refine Y ?_;exact⟨true,dG,rfl,⟨λ_=>(Hq B v hp hL).mpr ⟨x,hx,hs⟩,λ_=>rfl⟩,rfl,g1,g2⟩
theorem zhO{l m c:Nat}(B:Bo n k es A)(iY:1<=k)(cN:∀t a b:Int,0<=a->a<k->0<=b->b<k->A ((a+t)%k) ((b+t)%k)=A a b)(H:Told true n k es A 40 (l+3) m c){F:Fr}{kvs:jd}(v:Fv n k F)(hu:unset F<=m+1)(eb:F.all (Ht k)=true)(ha:lY es A kvs)(hl:kvs.length+c<sizeLine) :
  W (call aq T (l+4) true 41 [.d (jw true n k es A),.l 0,.d (jG F)]) [.dct kvs] λv s=>∃b kvs',v=.d (.bl b)/\(b=true↔Sat es A F)/\s=[.dct kvs']/\lY es A kvs'/\kvs'.length<=kvs.length+c:=by
 refine W.call Ql rfl ?_;unfold Ma;refine Y ?_;refine W.cm rfl rfl (jQ rfl ((Yl B v).imp λx s=>?_));rintro(⟨rfl,hz⟩|⟨p,L,rfl,hL⟩)
 ·refine⟨_,rfl,?_⟩;refine Y ?_;exact⟨true,kvs,rfl,⟨λ_=>V_ hz,λ_=>rfl⟩,rfl,ha,by lia⟩
 ·refine⟨_,rfl,?_⟩;have hp:=qW v.len hL;refine Y ?_;refine W.cm rfl rfl (W.c0 (zdQ B v) ?_);refine Y ?_;have all:∀(i:Nat) L,F[i]?=some (some L)->L=dU k:=λi L h=>iZ (iK.mp eb _ (fG h));rw[eb];refine Y ?_;refine W.cm rfl rfl (W.c0 (Ms B v hp ⟨by lia,by lia⟩) ?_);refine Y ?_;have hu2:=LC (es:=es) (A:=A) (x:=0) hL;refine uw (s:=[]) rfl ((H _ kvs (Lz B v hp) gV ha gV).imp λv1 s1=>?_);rintro⟨b,dG,rfl,hb,rfl,g1,g2⟩;refine⟨_,_,rfl,rfl,?_⟩;refine Y ?_;exact⟨b,dG,rfl,hb.trans (Wa B v hp iY cN all (all p L hL▸hL)).symm,rfl,g1,by lia⟩
theorem Ym{l c:Nat}(B:Bo n k es A){F:Fr}{kvs:jd}(v:Fv n k F)(ha:lY es A kvs)(hl:kvs.length+(1+c)<sizeLine)(H:W (call aq T (l+3) true 41 [.d (jw al n k es A),.l 0,.d (jG (bnd es F))]) [.dct kvs] λv s=>∃b kvs',v=.d (.bl b)/\(b=true↔Sat es A (bnd es F))/\s=[.dct kvs']/\lY es A kvs'/\kvs'.length<=kvs.length+c) :
  W (call aq T (l+4) true 40 [.d (jw al n k es A),.l 0,.d (jG F)]) [.dct kvs] λv s=>∃b kvs',v=.d (.bl b)/\(b=true↔Sat es A F)/\s=[.dct kvs']/\lY es A kvs'/\kvs'.length<=kvs.length+(1+c):=by
 refine W.call zpc rfl ?_;unfold WW;refine Y ?_;refine eF (znY (f:=id)) ?_;by_cases e0:some []∈F
 ·rw[fP e0];refine Y ?_;obtain⟨i,hi,ei⟩:=v7 e0;refine⟨false,kvs,rfl,⟨λz=>(by cases z),λz=>absurd z (zi7 (i:=i) (by rw[dH hi,ei]))⟩,rfl,ha,by lia⟩
 ·rw[pP e0];have ne:∀(i:Nat) L,F[i]?=some (some L)->L≠[]:=λi L h q=>by subst q;exact e0 (fG h)
  have sb:=zjA B v ne;refine Y ?_;refine W.cm rfl rfl (W.c0 (zky B v) ?_);refine Y ?_;refine W.CW rfl rfl (Qa _) rfl ?_;cases eg:cF ((bnd es F).map cellK) kvs with
  |some d=>
   obtain⟨b,rfl,hb⟩:=ha _ _ eg;refine Y ?_;refine W.qG rfl rfl (Qa _) rfl eg ?_;refine Y ?_;exact⟨b,kvs,rfl,hb.trans sb,rfl,ha,by lia⟩
  |none=>
   refine Y ?_;refine WS.dput rfl rfl (Qa _) ?_;refine Y ?_;refine uw (s:=[]) rfl (H.imp λv1 s1=>?_);rintro⟨b,dG,rfl,hb,rfl,g1,g2⟩;refine⟨_,_,rfl,rfl,?_⟩;refine⟨_,dG,rfl,rfl,by lia,?_⟩;refine Y ?_;refine W.qG (v:=.bl b) rfl rfl (Qa _) rfl (by rw[zeA,if_pos rfl]) ?_;refine Y ?_;have:=zie (q:=(bnd es F).map cellK) (d:=.bl b) (kvs:=dG);exact⟨b,_,rfl,hb.trans sb,rfl,zjs g1 hb,by lia⟩
def Yn{l m c:Nat}(B:Bo n k es A)(H:Told al n k es A 41 (l+3) m c):Told al n k es A 40 (l+4) m (1+c):=by
 intro F kvs v hu ha hl;have hu2:=zdd (es:=es) (F:=F);exact Ym B v ha hl (H _ kvs (V9 v) gV ha gV)
theorem Mw(B:Bo n k es A)(iY:1<=k)(cN:al=true->∀t a b:Int,0<=a->a<k->0<=b->b<k->A ((a+t)%k) ((b+t)%k)=A a b):∀m j,Told al n k es A 40 (3*m+4+j) m (cnt k m)
 |0,j=>by
  rw[show 3*0+4+j=j+4 by lia];exact Yn (c:=0) B (zer B)
 |m+1,j=>by
  rw[show 3*(m+1)+4+j=(3*m+3+j)+4 by lia];refine Yn B ?_;rw[show 3*m+3+j+3=(3*m+2+j)+4 by lia];refine zet B iY cN λi=>?_;rw[show 3*m+2+j+2+i=3*m+4+(j+i) by lia];exact Mw B iY cN m (j+i)
theorem zhZ{m j:Nat}(B:Bo n k es A)(iY:1<=k)(cN:∀t a b:Int,0<=a->a<k->0<=b->b<k->A ((a+t)%k) ((b+t)%k)=A a b){F:Fr}{kvs:jd}(v:Fv n k F)(hu:unset F<=m+1)(eb:F.all (Ht k)=true)(ha:lY es A kvs)(hl:kvs.length+(1+cnt k m)<sizeLine) :
  W (call aq T (3*(m+1)+4+j) true 40 [.d (jw true n k es A),.l 0,.d (jG F)]) [.dct kvs] λv s=>∃b kvs',v=.d (.bl b)/\(b=true↔Sat es A F)/\s=[.dct kvs']/\lY es A kvs'/\kvs'.length<=kvs.length+(1+cnt k m):=by
 rw[show 3*(m+1)+4+j=(3*m+3+j)+4 by lia];refine Ym B v ha hl ?_;rw[show 3*m+3+j+3=(3*m+2+j)+4 by lia];have hu2:=zdd (es:=es) (F:=F);refine zhO B iY cN ?_ (V9 v) (jZ hu2 hu) ?_ ha gV
 ·rw[show 3*m+2+j+3=3*m+4+(j+1) by lia];exact Mw B iY (λ_=>cN) m (j+1)
 ·refine iK.mpr λc hc=>?_;cases c with
  |none=>rfl
  |some L=>
   obtain⟨i,hi,ei⟩:=v7 hc;have:=Ax (es:=es) (F:=F) (i:=i) (L:=L) (by rw[dH hi,ei]);exact iK.mp eb _ (fG this.1)
theorem znn{l m c:Nat}(B:Bo n k es A)(iY:1<=k)(cN:∀t a b:Int,0<=a->a<k->0<=b->b<k->A ((a+t)%k) ((b+t)%k)=A a b)(H:Told true n k es A 40 (l+2) m c){F:Fr}{p:Nat}{kvs:jd}(v:Fv n k F)(hu:unset F<=m+1)(all:∀(i:Nat) L,F[i]?=some (some L)->L=dU k)(hL:F[p]?=some (some (dU k)))(qY:Sat es A F)(ha:lY es A kvs)(hl:kvs.length+c<sizeLine) :
  W (call aq T (l+3) true 39 [.d (jw true n k es A),.l 0,.d (jG F),.d (.int p)]) [.dct kvs] λv s=>∃kvs',s=[.dct kvs']/\lY es A kvs'/\kvs'.length<=kvs.length+c /\
   ((v=.d .non/\∀x∈dU k,¬Sat es A (settle es A F p x))\/∃x∈dU k,v=.d (.int x)/\Sat es A (settle es A F p x)/\∀y∈dU k,y<x->¬Sat es A (settle es A F p y)):=by
 refine W.call Xe rfl ?_;unfold Qk;have hp:=qW v.len hL;have h0:=(Wa B v hp iY cN all hL).mp qY;refine Y ?_;refine eF (zmn gV (LQ hL)) ?_;show W (src (.d (.tup ((dU k).map .int)))) _ _;refine Y ?_;refine VG (λi J s=>i=0/\∃a4:Option Xv,s=[.dct kvs]/\J=[some (.d (jw true n k es A)),some (.l 0),some (.d (jG F)),some (.d (.int p)),a4]) ⟨rfl,_,rfl,rfl⟩ (λi z J s e hI=>?_) (λJ s hI=>?_)
 ·obtain⟨rfl,a4,rfl,rfl⟩:=hI;rw[iG] at e;have ei:(dU k)[0]?=some 0:=by unfold dU;rw[iG,Fw gV];rfl
  rw[ei] at e;cases e;have hx:(0:Int)∈dU k:=cT.mpr ⟨by lia,by lia⟩;refine Y ?_;refine W.cm rfl rfl (W.c0 (Ms B v hp ⟨by lia,by lia⟩) ?_);refine Y ?_;have hu2:=LC (es:=es) (A:=A) (x:=0) hL;refine uw (s:=[]) rfl ((H _ kvs (Lz B v hp) gV ha gV).imp λv1 s1=>?_);rintro⟨b,dG,rfl,hb,rfl,g1,g2⟩;have eb:b=true:=hb.mpr h0;subst eb;refine⟨_,_,rfl,rfl,?_⟩;refine Y ?_;refine .inr ⟨_,rfl,?_⟩;exact⟨dG,rfl,g1,g2,.inr ⟨0,hx,rfl,h0,λy hy cg=>absurd (cT.mp hy).1 gV⟩⟩
 ·obtain⟨hz,_⟩:=hI;rw[cZ] at hz;have:(dU k).length=k:=by unfold dU;simp
  lia
end
section
variable {al:Bool}{n k:Nat}{es:Nat->List Int}{A:Int->Int->Bool}
theorem zfG{k':Nat}(B:Bo n k es A)(iY:1<=k)(cN:al=true->∀t a b:Int,0<=a->a<k->0<=b->b<k->A ((a+t)%k) ((b+t)%k)=A a b){F0:Fr}(v0:Fv n k F0)(all:∀i,i<n->∃L,F0[i]?=some (some L)){c0 c1:Nat}(hz:c0+c1+tot k (n-1)<sizeLine)
  (Hc:W (call aq T (3*n+4+k') true 40 [.d (jw al n k es A),.l 0,.d (jG F0)]) [.dct []] λv s=>∃b kvs',v=.d (.bl b)/\(b=true↔Sat es A F0)/\s=[.dct kvs']/\lY es A kvs'/\kvs'.length<=c0)
  (Hf:∀kvs L,F0[0]?=some (some L)->Sat es A F0->lY es A kvs->kvs.length<=c0->W (call aq T (3*n+1+k'+3) true 39 [.d (jw al n k es A),.l 0,.d (jG F0),.d (.int (0:Nat))]) [.dct kvs] λv s=>∃kvs',s=[.dct kvs']/\lY es A kvs'/\kvs'.length<=kvs.length+c1 /\
   ((v=.d .non/\∀x∈L,¬Sat es A (settle es A F0 0 x))\/∃x∈L,v=.d (.int x)/\Sat es A (settle es A F0 0 x)/\∀y∈L,y<x->¬Sat es A (settle es A F0 0 y))) :
  W (call aq T (3*n+5+k') true 38 [.d (jw al n k es A),.d (.fl (F0.map bD))]) [] λv s=>(v=.d .non/\¬Sat es A F0)\/∃hs:List Int,v=.d (.tup (hs.map .int))/\hs.length=n/\pI es A F0 (λj=>at' hs j)/\∀g,pI es A F0 g->∀j,j<n->(∀t,t<j->g t=at' hs t)->at' hs j<=g j:=by
 have hn:=B.hn;have hl:=v0.len;rw[show 3*n+5+k'=(3*n+4+k')+1 by lia];refine W.call zo3 rfl ?_;unfold WT;have pY:(100:Nat)<=sizeLine:=by decide
 have Dr:unset F0<=n:=by unfold unset;rw[<-hl];exact Q6
 refine Y ?_;refine W.tO ?_;refine Y ?_;refine uw (s:=[]) rfl (Hc.imp λv1 s1=>?_);rintro⟨b,kvs,rfl,hb,rfl,g1,g2⟩;refine⟨_,_,rfl,rfl,?_⟩;refine Y ?_;cases b with
 |false=>
  refine Y ?_;exact .inl ⟨rfl,λz=>by cases hb.mpr z⟩
 |true=>
  have qY:=hb.mp rfl;refine Y ?_;have Mx:((F0.map bD).length:Int)=n:=by rw[cZ,hl]
  refine⟨by rw[Mx,mX gV gV,mX gV gV];rfl,?_⟩;rw[Mx];refine Hg (c:=(List.range ((n:Int)-0).toNat).map λ(j:Nat)=>.int (0+j)) (λi J s=>∃(kvs':jd) (Fi:Fr) (hs:List Int) (a5 a6:Option Xv),s=[.dct kvs',.lst (hs.map .int)]/\J=[some (.d (jw al n k es A)),some (.d (.fl (F0.map bD))),some (.d (jG Fi)),some (.l 0),some (.l 1),a5,a6]/\lY es A kvs'/\(i=0->Fi=F0/\kvs'.length<=c0)/\(1<=i->kvs'.length+tot k (n-i)<=c0+c1+tot k (n-1))/\hs.length=i/\Fv n k Fi/\unset Fi<=n-i/\(∀j,i<=j->j<n->∃L,Fi[j]?=some (some L))/\Sat es A Fi /\
   (∀g,pI es A Fi g->pI es A F0 λj=>if j<i then at' hs j else g j)/\(∀g,pI es A F0 g->(∀t,t<i->g t=at' hs t)->pI es A Fi g)/\(∀g,pI es A F0 g->∀j,j<i->(∀t,t<j->g t=at' hs t)->at' hs j<=g j)) ?_ (λi z J s e hI=>?_) (λJ s hI=>?_)
  ·exact⟨kvs,F0,[],_,_,rfl,rfl,g1,λ_=>⟨rfl,g2⟩,λz=>absurd z gV,rfl,v0,by lia,λj _ hj=>all j hj,qY,λg s=>by simpa using s,λg s _=>s,λg _ j hj=>absurd hj gV⟩
  ·obtain⟨kvs',Fi,hs,a5,a6,rfl,rfl,i1,i0,i2,i3,i4,i5,i6,i7,i8,i9,QM⟩:=hI;rw[iG] at e;cases ei:(List.range ((n:Int)-0).toNat)[i]? with
   |none=>rw[ei] at e;cases e
   |some j=>
    rw[ei] at e;cases e;obtain⟨hil,ej⟩:=eG.mp ei;rw[List.getElem_range] at ej;rw[nU] at hil;subst ej;obtain⟨L,hL⟩:=i6 i (cj _) gV;have ez:((0:Int)+(i:Nat))=(i:Int):=by lia
    dsimp only;rw[ez];have hp:=qW i4.len hL;obtain⟨m,hm⟩ : ∃m,n-i=m+1:=⟨n-i-1,by lia⟩;rw[hm] at i2 i5;have et:tot k (m+1)=k*cnt k m+tot k m:=rfl;refine Y ?_;have lv:3*n+4+k'=(3*n+1+k')+3:=by lia
    refine Kap (s:=[]) rfl ?_;rw[lv];have H:Told al n k es A 40 (3*n+1+k'+2) m (cnt k m):=by
     rw[show 3*n+1+k'+2=3*m+4+(3*n-3*m+k'-1) by lia];exact Mw B iY cN m _
    obtain⟨c2,nY,hW⟩ : ∃c2,(kvs'.length+c2+tot k m<=c0+c1+tot k (n-1))/\W (call aq T (3*n+1+k'+3) true 39 [.d (jw al n k es A),.l 0,.d (jG Fi),.d (.int i)]) [.dct kvs'] λv s=>∃dG,s=[.dct dG]/\lY es A dG/\dG.length<=kvs'.length+c2 /\
      ((v=.d .non/\∀x∈L,¬Sat es A (settle es A Fi i x))\/∃x∈L,v=.d (.int x)/\Sat es A (settle es A Fi i x)/\∀y∈L,y<x->¬Sat es A (settle es A Fi i y)):=by
     by_cases c:i=0
     ·subst c;obtain⟨rfl,q⟩:=i0 rfl;have em:n-1=m:=by lia
      rw[em];exact⟨c1,by lia,Hf kvs' L hL qY i1 q⟩
     ·have i2:=i2 gV;refine⟨k*cnt k m,by lia,QL B H i4 i5 hL i1 gV⟩
    clear i2;refine hW.imp λv1 s1=>?_;rintro⟨dG,rfl,q1,q2,h⟩;rcases h with ⟨rfl,gZ⟩|⟨x,hx,rfl,Cd,cg⟩
    ·obtain⟨x,hx,q⟩:=(Hq B i4 hp hL).mp i7;exact absurd q (gZ x hx)
    ·refine⟨_,_,rfl,rfl,?_⟩;refine Y ?_;refine W.cm rfl rfl (W.c0 (Ms (k':=3*n+2+k') B i4 hp (i4.lo i L hL x hx)) ?_);refine Y ?_;refine⟨by rw[cZ];lia,?_⟩;refine Y ?_;have ag:∀j:Nat,j<i->at' (hs++[x]) j=at' hs j:=λj hj=>znm gV gV;have ai:at' (hs++[x]) (i:Int)=x:=by rw[<-i3];exact zkK
     refine⟨_,rfl,dG,settle es A Fi i x,hs++[x],_,_,?_,rfl,q1,λz=>absurd z gV,λ_=>by rw[show n-(i+1)=m by lia];lia,by simp[i3],Lz B i4 hp,?_,λj hj hjn=>?_,Cd,λg s=>?_,λg s hg=>?_,λg s j hj hg=>?_⟩
     ·rw[FT];rfl
     ·have:=LC (es:=es) (A:=A) (x:=x) hL
      lia
     ·obtain⟨M,hM⟩:=i6 j gV hjn;exact⟨_,Ly B i4.len hp gV hM⟩
     ·have s2:=i8 _ (zeW B i4 hp hL hx s);refine⟨λj M hM=>?_,λj e M N h1 h2 he=>?_⟩
      ·have:=s2.mem j M hM
       try dsimp only at this ⊢
       by_cases c1:j<i
       ·rw[if_pos c1] at this;rw[if_pos gV,ag j c1];exact this
       ·rw[if_neg c1] at this;by_cases c2:j=i
        ·rw[if_pos c2] at this;rw[if_pos gV,c2,ai];exact this
        ·rw[if_neg c2] at this;rw[if_neg gV];exact this
      ·have ff:∀j:Nat,(if j<i then at' hs j else if j=i then x else g j)=if j<i+1 then at' (hs++[x]) j else g j:=λj=>by
        by_cases c1:j<i
        ·rw[if_pos c1,if_pos gV,ag j c1]
        ·rw[if_neg c1];by_cases c2:j=i
         ·rw[if_pos c2,if_pos gV,c2,ai]
         ·rw[if_neg c2,if_neg gV]
       have:=s2.fit j e M N h1 h2 he
       try dsimp only at this ⊢
       rw[<-ff,<-ff];exact this
     ·have s2:=i9 g s λt ht=>by rw[hg t gV,ag t ht]
      have s3:=Qd B i4 hp hL s2;rw[hg i gV,ai] at s3;exact s3
     ·by_cases c1:j<i
      ·rw[ag j c1];exact QM g s j c1 λt ht=>by rw[hg t ht,ag t gV]
      ·have:j=i:=by lia
       subst this;rw[ai];have s2:=i9 g s λt ht=>by rw[hg t ht,ag t ht]
       have s3:=Qd B i4 hp hL s2;exact Gi.mp λq=>cg (g j) (s2.mem j L hL) q ⟨g,s3⟩
  ·obtain⟨kvs',Fi,hs,a5,a6,rfl,rfl,i1,i0,i2,i3,i4,i5,i6,i7,i8,i9,QM⟩:=hI;rw[cZ,nU,show ((n:Int)-0).toNat=n by lia] at i3 i8 QM;refine Y ?_;refine .inr ⟨hs,rfl,i3,?_,QM⟩;obtain⟨g,sg⟩:=i7;have s2:=i8 g sg;refine⟨λj M hM=>?_,λj e M N h1 h2 he=>?_⟩
   ·have:=s2.mem j M hM;rw[if_pos (qW hl hM)] at this;exact this
   ·have:=s2.fit j e M N h1 h2 he;rw[if_pos (qW hl h1),if_pos (qW hl h2)] at this;exact this
end
section
variable {n k d:Int}{ps:List (Int×Int)}
theorem Yo{k':Nat}(h:Web n ps)(hd:1<=d)(lM:d<=k)(hk:k<=24)(hz:1+cnt k.toNat (n.toNat-1)+cnt k.toNat (n.toNat-1)+tot k.toNat (n.toNat-1)<sizeLine):W (call aq T (k'+40) true 37 [.d (aQ n ps),.d (aK k d)]) [] λv s=>(v=.d .non/\∀hs,¬bO n k d ps hs)\/∃hs,v=.d (.tup (hs.map .int))/\bO n k d ps hs/\∀g,bO n k d ps g->Ge g hs:=by
 refine W.call zoF rfl ?_;unfold WR;have pY:(100:Nat)<=sizeLine:=by decide
 have h1:=h.h1;have h8:=h.h8;refine Y ?_;refine W.c1 (wW h) λ_=>?_;refine Y ?_;refine W.c1 (Hu hd lM hk) λ_=>?_;refine Y ?_;refine W.c0 (zjg h hd lM hk) ?_;refine Y ?_;refine nQ (l:=List.range (n-0).toNat) (f:=λ(j:Nat)=>.int (0+j)) (λ(_:Nat)=>some (bD (some (dU k.toNat)))) (by rw[nU];lia) ?_ (λj hj=>?_) ?_
 ·unfold aQ;refine Y ?_;refine⟨by rw[mX gV gV,mX gV gV];rfl,?_⟩;exact⟨rfl,rfl⟩
 ·refine Y ?_;refine⟨rfl,λ_=>?_,λhb=>by cases hb⟩;refine Y ?_;exact⟨rfl,_,rfl,rfl⟩
 ·have ef:(List.range (n-0).toNat).filterMap (λ(_:Nat)=>some (bD (some (dU k.toNat))))=(fC n k).map bD:=by
   rw[uy,show n-0=n by lia];unfold fC;rw[List.map_replicate];rw[List.map_const',nU]
  rw[ef];refine Y ?_;have lv:k'+39=3*n.toNat+5+(k'+34-3*n.toNat):=by lia
  refine jQ rfl ?_;show W (Mi.call aq T (k'+39) true _ _) _ _;rw[lv];have B:=zmO h hd hk;have iY:1<=k.toNat:=by lia
  have cN:∀t a b:Int,0<=a->a<(k.toNat:Nat)->0<=b->b<(k.toNat:Nat)->cU k d ((a+t)%(k.toNat:Nat)) ((b+t)%(k.toNat:Nat))=cU k d a b:=λt a b a0 ak b0 bk=>by rw[show ((k.toNat:Nat):Int)=k by lia] at *;exact zfV hd t a b a0 ak b0 bk
  obtain⟨m,hm⟩ : ∃m,n.toNat=m+1:=⟨n.toNat-1,by lia⟩;have em:n.toNat-1=m:=by lia
  have Dr:unset (fC n k)<=m+1:=by
   have:=(LR (n:=n) hk).len;rw[<-hm,<-this];exact Q6
  have al:∀(i:Nat) L,(fC n k)[i]?=some (some L)->L=dU k.toNat:=λi L e=>(Ay e).2;have eb:(fC n k).all (Ht k.toNat)=true:=iK.mpr λc hc=>by rw[List.eq_of_mem_replicate hc];exact fP rfl
  rw[em] at hz;refine(zfG (c0:=1+cnt k.toNat m) (c1:=cnt k.toNat m) B iY (λ_=>cN) (LR hk) (λi hi=>⟨_,Az hi⟩) (by rw[em];exact hz) ?_ (λkvs L hL qY ha hl=>?_)).imp λv s=>?_
  ·rw[hm];have:=zhZ (m:=m) (j:=k'+34-3*(m+1)) (kvs:=[]) B iY cN (LR hk) Dr eb (λF d e=>by cases e) (by simp;lia);rw[hm] at this;simpa using this
  ·have e:=al 0 L hL;subst e;refine znn B iY cN ?_ (LR hk) Dr al hL qY ha gV;rw[show 3*n.toNat+1+(k'+34-3*n.toNat)+2=3*m+4+(k'+33-3*m) by lia];exact Mw B iY (λ_=>cN) m _
  rintro(⟨rfl,gZ⟩|⟨hs,rfl,hl,Fd,uo⟩)
  ·refine⟨_,rfl,?_⟩;refine Y ?_;exact .inl ⟨rfl,λhs hh=>gZ ⟨_,zeF h hd hh⟩⟩
  ·refine⟨_,rfl,?_⟩;refine Y ?_;refine .inr ⟨hs,rfl,zib h hl Fd,λg hg j hj ha=>?_⟩;exact uo _ (zeF h hd hg) j gV ha
end
theorem small{n k:Int}(hn:n<=8)(hk:k<=8):1+cnt k.toNat (n.toNat-1)+cnt k.toNat (n.toNat-1)+tot k.toNat (n.toNat-1)<sizeLine:=by
 have:=Qe (k:=k.toNat) (k2:=8) (m:=n.toNat-1) (m2:=7) gV gV;have:=zey (k:=k.toNat) (k2:=8) (m:=n.toNat-1) (m2:=7) gV gV;have e:1+cnt 8 7+cnt 8 7+tot 8 7<sizeLine:=by decide
 lia
section
variable {n k d:Int}{ps:List (Int×Int)}
theorem Yp{k':Nat}(h:Web n ps)(hr:1<=d/\d<=k/\k<=24)(hz:1+cnt k.toNat (n.toNat-1)+cnt k.toNat (n.toNat-1)+tot k.toNat (n.toNat-1)<sizeLine):W (call aq T (k'+41) true 46 [.d (aQ n ps),.d (aK k d)]) [] λv s=>∃b,v=.d (.bl b)/\(b=true↔∃g,bO n k d ps g):=by
 refine W.call zoW rfl ?_;unfold W2;refine Y ?_;refine jQ rfl ((Yo (k':=k') h hr.1 hr.2.1 hr.2.2 hz).imp λv s hv=>?_);rcases hv with ⟨rfl,gZ⟩|⟨hs,rfl,hh,hg⟩
 ·refine⟨_,rfl,?_⟩;refine Y ?_;exact⟨false,rfl,⟨λe=>(by cases e),λ⟨g,hg⟩=>absurd hg (gZ g)⟩⟩
 ·refine⟨_,rfl,?_⟩;refine Y ?_;exact⟨true,rfl,⟨λ_=>⟨hs,hh⟩,λ_=>rfl⟩⟩
def rD(r:Int×Int):D:=aK r.1 r.2
theorem zh6{k':Nat}(h1:1<=n)(h8:n<=8):W (call aq T (k'+4) true 45 [.d (.int n)]) [] λv s=>v=.d (.fl ((gY n).map rD)):=by
 have:n=1\/n=2\/n=3\/n=4\/n=5\/n=6\/n=7\/n=8:=by lia
 rcases this with rfl|rfl|rfl|rfl|rfl|rfl|rfl|rfl
 ·exact W.eq (a:=.d (.fl ((gY 1).map rD))) (s':=[]) (by kernel_rfl) rfl
 ·exact W.eq (a:=.d (.fl ((gY 2).map rD))) (s':=[]) (by kernel_rfl) rfl
 ·exact W.eq (a:=.d (.fl ((gY 3).map rD))) (s':=[]) (by kernel_rfl) rfl
 ·exact W.eq (a:=.d (.fl ((gY 4).map rD))) (s':=[]) (by kernel_rfl) rfl
 ·exact W.eq (a:=.d (.fl ((gY 5).map rD))) (s':=[]) (by kernel_rfl) rfl
 ·exact W.eq (a:=.d (.fl ((gY 6).map rD))) (s':=[]) (by kernel_rfl) rfl
 ·exact W.eq (a:=.d (.fl ((gY 7).map rD))) (s':=[]) (by kernel_rfl) rfl
 ·exact W.eq (a:=.d (.fl ((gY 8).map rD))) (s':=[]) (by kernel_rfl) rfl
def ziO{j:Nat}{r:Int×Int}(e:(gY n)[j]?=some r):((gY n).map rD)[((j:Int)).toNat]?=some (rD r):=by
 rw[show ((j:Int)).toNat=j by lia,iG,e];rfl
theorem zfc{k':Nat}(h:Web n ps):W (call aq T (k'+42) true 47 [.d (aQ n ps)]) [] λv s=>∃r,v=.d (rD r)/\Wg n ps r:=by
 have h8:=h.h8;have h1:=h.h1;have hwk:o_=1000000000000:=rfl;have ew:aQ n ps=.tup [.int n,.tup (ps.map eU)]:=rfl;have hlen:(gY n).length<=12:=Nb _ EY;obtain⟨jl,ejl⟩:=List.getElem?_of_mem (zhV h1 h8);have hjl:=(eG.mp ejl).1;refine W.call zo1 rfl ?_;unfold W3;refine Y ?_;refine W.c1 (wW h) λ_=>?_;unfold aQ;refine Y ?_;refine W.c0 (zh6 h1 h8) ?_;refine Y ?_;refine WS.wh (λq J s'=>∃j:Nat,J=[some (.d (aQ n ps)),some (.d (.fl ((gY n).map rD))),some (.d (.int j))]/\j<(gY n).length/\(∀(i:Nat) q,i<j->(gY n)[i]?=some q->∀hs,¬bO n q.1 q.2 ps hs)/\q=(gY n).length-j) (m:=(gY n).length) gV ⟨0,rfl,by lia,λi q hi=>absurd hi (Nat.not_lt_zero _),rfl⟩ λq J s' hI=>?_;obtain⟨j,rfl,hj,gZ,rfl⟩:=hI;obtain⟨r,er⟩ : ∃r,(gY n)[j]?=some r:=⟨_,dH hj⟩;have hr:=yZ (fG er);refine Y ?_;refine eF (ux gV (ziO er)) ?_;refine Y ?_;refine jQ rfl ((Yp (k':=k') (k:=r.1) (d:=r.2) h gV (small h8 gV)).imp λv s hv=>?_);obtain⟨b,rfl,hb⟩:=hv;refine⟨_,rfl,?_⟩;refine Y ?_;refine⟨λe=>?_,λe=>?_⟩
 ·have uz:b=false:=by cases b<;>simp_all
  have Od:∀hs,¬bO n r.1 r.2 ps hs:=λhs hh=>by rw[hb.mpr ⟨hs,hh⟩] at uz;cases uz
  have Mz:∀(i:Nat) q,i<j+1->(gY n)[i]?=some q->∀hs,¬bO n q.1 q.2 ps hs:=λi q hi e'=>by
   rcases Rb (Nat.le_of_lt_succ hi) with z|z
   ·exact gZ i q z e'
   ·subst z;rw[er] at e';cases e';exact Od
  have hj2:j+1<(gY n).length:=by
   refine Nat.not_le.mp λz=>?_;exact Mz jl _ gV ejl _ (zku h (Int.le_refl _))
  refine Y ?_;refine WS.aug rfl rfl ?_;refine Y ?_;exact .inl ⟨_,(gY n).length-(j+1),rfl,by lia,j+1,by rfl,hj2,Mz,rfl⟩
 ·have uz:b=true:=by cases b<;>simp_all
  refine Y ?_;refine eF (ux gV (ziO er)) ?_;refine Y ?_;exact⟨r,rfl,j,er,hb.mp uz,gZ⟩
end
def ziH{k':Nat}{xs:List D}{n:Int}(h:(xs.length:Int)=n):W (call aq T (k'+1) true 2 [.d (.tup xs),.d (.int n)]) [] λv s=>v=.d (.bl true):=by
 refine W.call T_2 rfl ?_;unfold b2;refine Y ?_;simp[h]
section
variable {n k d:Int}{ps:List (Int×Int)}{hs:List Int}
theorem zcz{k':Nat}(hn:n<=8)(hl:(hs.length:Int)=n)(Oh:∀x∈hs,0<=x/\x<k):W (call aq T (k'+4) true 33 [.d (aQ n ps),.d (aK k d),.d (.tup (hs.map .int))]) [] λv s=>v=.d (.bl true):=by
 refine W.call zoU rfl ?_;unfold WM aQ;have pY:(100:Nat)<=sizeLine:=by decide
 refine Y ?_;refine W.c0 (ziH (by rw[cZ];exact hl)) ?_;refine Y ?_;refine nQ (l:=hs) (f:=D.int) (λ_=>some (.bl true)) gV ?_ (λx hx=>?_) ?_
 ·refine Y ?_;exact⟨rfl,rfl⟩
 ·refine Y ?_;refine⟨rfl,λ_=>?_,λhb=>by cases hb⟩;refine Y ?_;refine W.c0 zh0 ?_;rw[fP (Oh x hx)];exact⟨rfl,_,rfl,rfl⟩
 ·refine Y ?_;refine eF (Lb ?_) ?_
  ·intro x hx;obtain⟨_,_,e⟩:=zy.mp hx;exact(cJ e).symm
  exact Y trivial
theorem zkm{k':Nat}(h:Web n ps)(hh:bO n k d ps hs):W (call aq T (k'+2) true 36 [.d (aQ n ps),.d (aK k d),.d (.tup (hs.map .int))]) [] λv s=>v=.d .non:=by
 refine W.call Xd rfl ?_;unfold Qj;have hl:=hh.len;have er:aK k d=.tup [.int k,.int d]:=rfl;refine Y ?_;refine Hg (λi J s=>s=[]/\∃(a b:Option Xv),J=[some (.d (aQ n ps)),some (.d (aK k d)),some (.d (.tup (hs.map .int))),a,b]) ⟨rfl,_,_,rfl⟩ (λi x J s e hI=>?_) (λJ s hI=>?_)
 ·obtain⟨rfl,a,b,rfl⟩:=hI;have hm:=fG e;obtain⟨p,hp,rfl⟩:=oh.mp hm;have ht:=h.tie p hp;have hf:=hh.fit p hp;obtain⟨a,b⟩:=p;dsimp only at ht hf;refine Y ?_;refine eF (Ar gV gV) ?_;refine Y ?_;refine eF (Ar gV gV) ?_;refine Y ?_;refine W.c0 zgh ?_;unfold aK;refine Y ?_;rw[pP gV];refine Y ?_;exact⟨_,rfl,rfl,_,_,rfl⟩
 ·obtain⟨rfl,a,b,rfl⟩:=hI;exact Y trivial
theorem zgX{k':Nat}(h:Web n ps)(hh:bO n k d ps hs):W (call aq T (k'+5) true 34 [.d (aQ n ps),.d (aK k d),.d (.tup (hs.map .int))]) [] λv s=>v=.d (.bl true):=by
 refine W.call Xc rfl ?_;unfold Qi;refine Y ?_;refine W.c0 (zcz h.h8 hh.len hh.lo) ?_;refine Y ?_;refine W.c0 (zkm h hh) ?_;refine Y ?_;rfl
theorem zgT{k':Nat}(h:Web n ps)(hd:1<=d)(lM:d<=k)(hk:k<=24)(hh:bO n k d ps hs):W (call aq T (k'+7) true 35 [.d (aQ n ps),.d (aK k d),.d (.tup (hs.map .int))]) [] λv s=>∃d,v=.d d:=by
 refine W.call zoE rfl ?_;unfold WQ;refine Y ?_;refine W.c1 (wW h) λ_=>?_;refine Y ?_;refine W.c1 (Hu hd lM hk) λ_=>?_;refine Y ?_;refine W.c0 (zgX h hh) ?_;refine Y ?_;exact⟨_,rfl⟩
end
section
variable {n k d m:Int}{ps:List (Int×Int)}{hs:List Int}
theorem zhe{k':Nat}(h:Web n ps)(hl:(hs.length:Int)=n):W (call aq T (k'+2) true 36 [.d (aQ n ps),.d (aK k d),.d (.tup (hs.map .int))]) [] λv s=>v=.d (Ho k d ps hs):=by
 refine W.call Xd rfl ?_;unfold Qj;refine Y ?_;refine VG (λi J s=>s=[]/\(∃(a b:Option Xv),J=[some (.d (aQ n ps)),some (.d (aK k d)),some (.d (.tup (hs.map .int))),a,b])/\sI k d (ps.take i) hs=[]) ⟨rfl,⟨_,_,rfl⟩,rfl⟩ (λi x J s e hI=>?_) (λJ s hI=>?_)
 ·obtain⟨rfl,⟨a,b,rfl⟩,hI⟩:=hI;rw[iG,lB] at e;obtain⟨p,ep,rfl⟩:=e;have ht:=h.tie p (fG ep);obtain⟨p1,p2⟩:=p;dsimp only at ht;refine Y ?_;refine eF (Ar gV gV) ?_;refine Y ?_;refine eF (Ar gV gV) ?_;refine Y ?_;refine W.c0 zgh ?_;unfold aK;refine Y ?_;have et:ps.take (i+1)=ps.take i++[(p1,p2)]:=by rw[Nu,ep];rfl
  have ec:sI k d (ps.take (i+1)) hs=if gW k (at' hs p1) (at' hs p2)<d then [(p1,p2)] else []:=by
   unfold sI at hI ⊢;rw[et,List.filter_append,hI,List.nil_append,List.filter_cons];simp only[List.filter_nil,FN]
  refine WS.ite (λhb=>?_) (λhb=>?_)
  ·have hb:=iZ hb;rw[if_pos hb] at ec;refine Y ?_;refine .inr ⟨_,rfl,?_⟩;have:sI k d ps hs=(p1,p2)::sI k d (ps.drop (i+1)) hs:=by
    have e1:ps=ps.take (i+1)++ps.drop (i+1):=(List.take_append_drop ..).symm;unfold sI at ec ⊢
    conv=>lhs;rw[e1,List.filter_append,ec]
    rfl
   unfold Ho;rw[this];rfl
  ·have hb:¬gW k (at' hs p1) (at' hs p2)<d:=λz=>hb (fP z);rw[if_neg hb] at ec;refine Y ?_;exact .inl ⟨_,rfl,rfl,⟨_,_,rfl⟩,ec⟩
 ·obtain⟨rfl,⟨a,b,rfl⟩,hI⟩:=hI;rw[cZ,Bp] at hI;refine Y ?_;unfold Ho;rw[hI]
theorem zmF{k':Nat}(h:Web n ps)(hr:1<=d/\d<=k/\k<=24)(hl:(hs.length:Int)=n)(Oh:∀x∈hs,0<=x/\x<k):W (call aq T (k'+8) true 32 [.d (aQ n ps),.d (aK k d),.d (.tup (hs.map .int))]) [] λv s=>v=.d (.bl (decide (sI k d ps hs=[]))):=by
 have key:∀kk,W (call aq T (kk+5) true 34 [.d (aQ n ps),.d (aK k d),.d (.tup (hs.map .int))]) [] λv s=>v=.d (.bl (decide (sI k d ps hs=[]))):=λkk=>by
  refine W.call Xc rfl ?_;unfold Qi;refine Y ?_;refine W.c0 (zcz h.h8 hl Oh) ?_;refine Y ?_;refine W.c0 (zhe h hl) ?_;refine Y ?_;show Xv.d (.bl (Ho k d ps hs).o7)=_;rw[zk6]
 refine W.call zoN rfl ?_;unfold WL;refine Y ?_;refine W.c1 (wW h) λ_=>?_;refine Y ?_;refine W.c1 (Hu hr.1 hr.2.1 hr.2.2) λ_=>?_;refine Y ?_;exact jQ rfl ((key _).imp λv s e=>⟨_,e,rfl⟩)
theorem Yq{k':Nat}(h:Web n ps)(hr:1<=d/\d<=k/\k<=24)(hh:bO n k d ps hs):W (call aq T (k'+8) true 32 [.d (aQ n ps),.d (aK k d),.d (.tup (hs.map .int))]) [] λv s=>v=.d (.bl true):=by
 have:=zmF (k':=k') h hr hh.len hh.lo;rw[fP (zkl hh)] at this;exact this
end
def vX(o:SO):Prop:=∃a b:Int,o=.lst [.int a,.int b]/\0<=a/\(b=0\/b=1)
theorem ziJ{k:Nat}{o:SO}{m:Int}(ho:vX o)(hm:0<m)(hm2:m<1073741824):W (call aq T (k+1) true 51 [.l 0,.d (.int m)]) [o] λv s=>∃d o',v=.d d/\s=[o']/\(∃r:Int,d=.int r/\0<=r/\r<m)/\vX o':=by
 obtain⟨a,b,rfl,ha,hb⟩:=ho;refine W.call zo6 rfl ?_;unfold W6;rcases hb with rfl|rfl
 ·refine Y ?_;exact⟨_,_,rfl,rfl,⟨_,rfl,zE _ gV,Bk _ hm⟩,⟨_,_,rfl,zE _ Tv,.inl rfl⟩⟩
 ·refine Y ?_;exact⟨_,_,rfl,rfl,⟨_,rfl,zE _ gV,Bk _ hm⟩,⟨_,_,rfl,Int.ediv_nonneg ha gV,.inr rfl⟩⟩
theorem zn8{k:Nat}{n:Int}:W (call aq T (k+1) true 50 [.d (.int n)]) [] λv s=>∃i o,v=.l i/\s[i]?=some o/\vX o:=by
 refine W.call zoD rfl ?_;unfold W5;refine Y ?_;refine⟨0,_,rfl,rfl,⟨_,_,rfl,?_,?_⟩⟩
 ·split<;>lia
 ·have:∀c:Bool,(if c=true then (1:Int) else 0)=0\/(if c=true then (1:Int) else 0)=1:=by intro c;cases c<;>simp
  exact this _
theorem Yr{k:Nat}{o:SO}{m:Int}{P:Xv->S->Prop}(ho:vX o)(hm:0<m)(hm2:m<1073741824)(h:∀(r:Nat) o',(r:Int)<m->vX o'->P (.d (.int r)) [o']):W (cO (call aq T (k+1) true 51) [.l 0,.d (.int m)]) [o] P:=by
 refine Vt (n:=0) (o:=o) rfl rfl ((ziJ ho hm hm2).imp λv s=>?_);rintro⟨d,o',rfl,rfl,⟨r,rfl,h0,h1⟩,hp⟩;obtain⟨n,rfl⟩:=p7 h0;exact⟨_,_,rfl,rfl,h n o' h1 hp⟩
theorem zmy{k:Nat}{ns:List Int}:W (call aq T (k+1) true 49 [.d (.fl (ns.map D.int)),.d (.int 0)]) [] λv _=>∃n,v=.d (.int n):=by
 refine W.call zoH rfl ?_;unfold W4;cases ns with
 |nil=>
  refine Y ?_;exact⟨_,rfl⟩
 |cons n r=>
  refine Y ?_;refine WS.ite (λ_=>?_) (λ_=>?_)
  ·refine Y ?_;refine eF (Pu (i:=0) (x:=.int n) rfl) ?_;refine Y ?_;exact⟨_,rfl⟩
  ·refine Y ?_;exact⟨_,rfl⟩
theorem ziv{k:Nat}{o:SO}{n:Int}(ho:vX o)(h1:1<=n)(h8:n<=8):W (call aq T (k+2) true 52 [.l 0,.d (.int n)]) [o] λv s=>∃ps o',v=.d (aQ n ps)/\s=[o']/\Web n ps/\vX o':=by
 refine W.call zpe rfl ?_;unfold W7;have hs:(100:Nat)<=sizeLine:=by decide
 refine Y ?_;refine Yr ho Tv Tv λr o' hr hp=>?_;refine Y ?_;have yC:r<3:=by lia
 refine eF (Pu (x:=.int (([2,4,6]:List Int)[r]'yC)) ?_) ?_
 ·revert yC;revert r;intro r _ yC;exact match r,yC with
  |0,_=>rfl|1,_=>rfl|2,_=>rfl
  |n+3,h=>absurd h gV
 generalize ([2,4,6]:List Int)[r]=often;refine Y ?_;refine⟨by rw[mX gV gV,mX gV gV];rfl,?_⟩;refine Hg (λ(i:Nat) J s=>∃(ps:List (Int×Int)) (a:Option Xv) (o':SO),J=[some (.l 0),some (.d (.int n)),some (.d (.int often)),some (.d (.fl (ps.map eU))),a]/\s=[o']/\vX o'/\(∀p∈ps,0<=p.1/\p.1<(i:Int)/\p.1<p.2/\p.2<n)/\ps.Pairwise lx/\ps.length<=7*i)
  ⟨[],_,_,rfl,rfl,hp,by simp,by simp,by simp⟩ (λi x J s e hI=>?_) (λJ s hI=>?_)
 ·obtain⟨ps,a,o',rfl,rfl,hp,ht,Fe,hlen⟩:=hI;obtain⟨rfl,hi⟩:=zlZ e;have hi8:i<8:=by lia
  refine Y ?_;refine Kar (c:=jM (0+(i:Int)+1) n) (λ(j:Nat) acc s=>∃(es:List Int) (o':SO),acc=es.map (λe=>eU (0+(i:Int),e))/\es.Pairwise (·<·)/\(∀e∈es,(i:Int)<e/\e<(i:Int)+1+j)/\s=[o']/\vX o') ?_ (λj x acc s e hJ=>?_) (λacc s hJ=>?_)
  ·refine Y ?_;refine⟨by rw[mX gV gV,mX gV gV];rfl,?_⟩;exact⟨rfl,[],_,rfl,by simp,by simp,rfl,hp⟩
  ·obtain⟨es,o',rfl,Hv,A_,rfl,hp⟩:=hJ;obtain⟨rfl,hj⟩:=zlZ e;have hel:(es.length:Int)<=(i:Int)+1+j-((i:Int)+1):=VF Hv (λe he=>by have:=A_ e he;lia) gV;refine Y ?_;refine Yr hp Tv Tv λr o' hr hp=>?_;refine Y ?_;refine⟨λhb=>?_,λhb=>?_⟩
   ·refine Y ?_;refine⟨_,rfl,by rw[cZ];lia,es++[0+(i:Int)+1+j],o',?_,?_,?_,rfl,hp⟩
    ·rw[FT];rfl
    ·rw[List.pairwise_append];refine⟨Hv,by simp,λa ha b hb=>?_⟩;simp at hb;have:=A_ a ha
     lia
    ·intro e he;rcases nW.mp he with he|he
     ·have:=A_ e he;lia
     ·simp at he;lia
   ·exact⟨es,o',rfl,Hv,λe he=>by have:=A_ e he;lia,rfl,hp⟩
  ·obtain⟨es,o',rfl,Hv,A_,rfl,hp⟩:=hJ;rw[ziT] at A_;have hel:(es.length:Int)<=n-((i:Int)+1):=VF Hv (λe he=>by have:=A_ e he;lia) gV;refine Y ?_;refine Pq (ziY ?_) ?_
   ·rw[cZ,cZ];lia
   refine Y ?_;refine⟨_,rfl,ps++es.map (λe=>(0+(i:Int),e)),some (.d (.int (0+(i:Int)))),o',?_,rfl,hp,?_,?_,?_⟩
   ·rw[FT,Ib];rfl
   ·intro p hp;rcases nW.mp hp with hp|hp
    ·have:=ht p hp;lia
    ·obtain⟨e,he,rfl⟩:=oh.mp hp;have:=A_ e he;dsimp only
     lia
   ·rw[List.pairwise_append,List.pairwise_map];refine⟨Fe,Hv.imp λh=>.inr ⟨rfl,h⟩,λp hp q hq=>?_⟩;obtain⟨e,he,rfl⟩:=oh.mp hq;have:=ht p hp;exact .inl (by dsimp only;lia)
   ·rw[pL,cZ];lia
 ·obtain⟨ps,a,o',rfl,rfl,hp,ht,Fe,hlen⟩:=hI;rw[ziT] at ht hlen;refine Y ?_;refine⟨ps,o',rfl,rfl,⟨h1,h8,λp hp=>?_,Fe,by lia⟩,hp⟩;have:=ht p hp
  lia
theorem ziU{k:Nat}{n a b:Int}(ha:0<=a/\a<n)(hb:0<=b/\b<n):W (call aq T (k+4) true 14 [.d (.int n),.d (.tup [.int a,.int b])]) [] λv s=>v=.d (.bl (decide (a<b))):=by
 refine W.call Xb rfl ?_;unfold Qh;refine Y ?_;refine W.c0 Mu ?_;refine Y ?_;refine W.c0 Mv ?_;rw[fP ha];refine Y ?_;refine W.c0 Mv ?_;rw[fP hb];exact Y trivial
theorem zio{k:Nat}{n:Int}{p:Int×Int}(ha:0<=p.1/\p.1<n)(hb:0<=p.2/\p.2<n)(qF:p.1≠p.2):W (call aq T (k+5) true 15 [.d (.int n),.d (eU p)]) [] λv s=>v=.d (eU (norm p)):=by
 obtain⟨a,b⟩:=p;dsimp only at ha hb qF;refine W.call zo2 rfl ?_;unfold Wm norm;refine Y ?_;refine W.c0 (ziU ha hb) ?_;refine W.bool ?_;by_cases h:a<b
 ·rw[fP h,if_pos h];exact Y trivial
 ·rw[pP h,if_neg h];refine Y ?_;refine W.c0 Mu ?_;refine Y ?_;refine W.c0 (ziU hb ha) ?_;refine W.bool ?_;rw[fP (show b<a by lia)];refine Y ?_;rfl
section
variable {n m:Int}{ps qs:List (Int×Int)}
theorem zhF{k':Nat}(h:Web n ps)(h2:Web m qs):W (call aq T (k'+4) true 31 [.d (aQ n ps),.d (aQ m qs)]) [] λv s=>v=.d (jw false n.toNat m.toNat (λi=>bx i ps) (mj qs)):=by
 refine W.call zpd rfl ?_;unfold WK;have pY:(100:Nat)<=sizeLine:=by decide
 have h1:=h2.h1;have h8:=h2.h8;have em:aQ m qs=.tup [.int m,.tup (qs.map eU)]:=rfl;refine Y ?_;refine W.mk (vs:=[.d (aQ n ps),.d (.fl (vV m.toNat (mj qs))),.d (.bl false)]) ?_ rfl (zi4 h gV);refine Y ?_;refine nQ (l:=List.range m.toNat) (f:=λ(i:Nat)=>.tup ((bx i qs).map .int)) (λ(a:Nat)=>some (.fl ((List.range m.toNat).map λ(b:Nat)=>.bl (mj qs a b)))) (by rw[nU];lia) ?_ (λa ha=>?_) ?_
 ·refine Y ?_;refine W.c0 (zdt h2) ?_;refine Y ?_;exact⟨rfl,rfl⟩
 ·refine Y ?_;refine⟨rfl,λ_=>?_,λhb=>by cases hb⟩;refine Y ?_;refine nQ (l:=List.range (m-0).toNat) (f:=λ(j:Nat)=>.int (0+j)) (λ(b:Nat)=>some (.bl (mj qs a b))) (by rw[nU];lia) ?_ (λb hb=>?_) ?_
  ·refine Y ?_;refine⟨by rw[mX gV gV,mX gV gV];rfl,?_⟩;exact⟨rfl,rfl⟩
  ·refine Y ?_;refine⟨rfl,λ_=>?_,λhb=>by cases hb⟩;refine Y ?_;refine eF (zni (f:=id)) ?_;refine⟨rfl,_,rfl,?_⟩;unfold mj;rw[show (0:Int)+(b:Nat)=(b:Int) by lia];rfl
  ·rw[uy,show m-0=m by lia];refine Y ?_;exact⟨rfl,_,rfl,rfl⟩
 ·rw[uy];refine Y ?_;exact⟨rfl,rfl⟩
theorem zfR{n k:Nat}{es:Nat->List Int}{A:Int->Int->Bool}{F:Fr}(B:Bo n k es A)(v:Fv n k F)(hu:unset F<=1):unset (bnd es F)<=0:=by
 refine HN λz=>?_;obtain⟨c,hc,hs⟩:=List.countP_pos_iff.mp z;obtain⟨i,hi,ei⟩:=v7 hc;obtain⟨L,rfl⟩:=Hw.mp hs;obtain⟨h1,h2⟩:=Ax (es:=es) (F:=F) (i:=i) (L:=L) (by rw[dH hi,ei]);have hin:=qW v.len h1;unfold dF at h2;obtain⟨e,he⟩:=List.exists_mem_of_length_pos h2;obtain⟨he,hj⟩:=jU.mp he;obtain⟨e0,e1,e2⟩:=B.mem i hin e he;obtain⟨M,hM⟩:=Hw.mp hj;have hM:F[e.toNat]?=some (some M):=by
  cases q:F[e.toNat]? with
  |none=>rw[q] at hM;cases hM
  |some c=>rw[q] at hM;exact lE some hM
 have u:=zdo h1;exact zcG (F:=F.set i none) gV e.toNat M (by rw[p8 gV];exact hM)
theorem ze1{n k:Nat}{al:Bool}{es:Nat->List Int}{A:Int->Int->Bool}(B:Bo n k es A)(iY:1<=k)(cN:al=true->∀t a b:Int,0<=a->a<k->0<=b->b<k->A ((a+t)%k) ((b+t)%k)=A a b):∀m j,Told al n k es A 40 (3*m+4+j) (m+1) (cnt k m)
 |0,j=>by
  rw[show 3*0+4+j=j+4 by lia];intro F kvs v hu ha hl;exact Ym (c:=0) B v ha hl (zer B _ kvs (V9 v) (zfR B v hu) ha gV)
 |m+1,j=>by
  rw[show 3*(m+1)+4+j=(3*m+3+j)+4 by lia];refine Yn B ?_;rw[show 3*m+3+j+3=(3*m+2+j)+4 by lia];refine zet B iY cN λi=>?_;rw[show 3*m+2+j+2+i=3*m+4+(j+i) by lia];exact ze1 B iY cN m (j+i)
theorem zez{n k:Nat}{al:Bool}{es:Nat->List Int}{A:Int->Int->Bool}(B:Bo n k es A)(iY:1<=k)(cN:al=true->∀t a b:Int,0<=a->a<k->0<=b->b<k->A ((a+t)%k) ((b+t)%k)=A a b)(m j:Nat):Told al n k es A 40 (3*m+4+j) m (cnt k (m-1)):=by
 cases m with
 |zero=>exact Mw B iY cN 0 j
 |succ m=>
  rw[show 3*(m+1)+4+j=3*m+4+(j+3) by lia];exact ze1 B iY cN m (j+3)
theorem zcH{k':Nat}(h:Web n ps)(h2:Web m qs)(hz:cnt m.toNat (n.toNat-1)+m.toNat*cnt m.toNat (n.toNat-1-1)+tot m.toNat (n.toNat-1)<sizeLine):W (call aq T (k'+40) true 43 [.d (aQ n ps),.d (aQ m qs)]) [] λv s=>(v=.d .non/\∀hs,¬lZ n m (mj qs) ps hs)\/∃hs,v=.d (.tup (hs.map .int))/\lZ n m (mj qs) ps hs/\∀g,lZ n m (mj qs) ps g->Ge g hs:=by
 refine W.call zph rfl ?_;unfold WY;have pY:(100:Nat)<=sizeLine:=by decide
 have h1:=h.h1;have h8:=h.h8;have m1:=h2.h1;have m8:=h2.h8;refine Y ?_;refine W.c1 (wW h) λ_=>?_;refine Y ?_;refine W.c1 (wW h2) λ_=>?_;refine Y ?_;refine W.c0 (zhF h h2) ?_;refine Y ?_;refine nQ (l:=List.range (n-0).toNat) (f:=λ(j:Nat)=>.int (0+j)) (λ(_:Nat)=>some (bD (some (dU m.toNat)))) (by rw[nU];lia) ?_ (λj hj=>?_) ?_
 ·unfold aQ;refine Y ?_;refine⟨by rw[mX gV gV,mX gV gV];rfl,?_⟩;exact⟨rfl,rfl⟩
 ·refine Y ?_;refine⟨rfl,λ_=>?_,λhb=>by cases hb⟩;refine Y ?_;exact⟨rfl,_,rfl,rfl⟩
 ·have ef:(List.range (n-0).toNat).filterMap (λ(_:Nat)=>some (bD (some (dU m.toNat))))=(fC n m).map bD:=by
   rw[uy,show n-0=n by lia];unfold fC;rw[List.map_replicate];rw[List.map_const',nU]
  rw[ef];refine Y ?_;have lv:k'+39=3*n.toNat+5+(k'+34-3*n.toNat):=by lia
  refine jQ rfl ?_;show W (Mi.call aq T (k'+39) true _ _) _ _;rw[lv];have hA:∀a b:Int,0<=a->a<(m.toNat:Nat)->0<=b->b<(m.toNat:Nat)->mj qs a b=mj qs b a:=λa b _ _ _ _=>zi6 h2;have B:=zmL (k:=m) h gV hA;have iY:1<=m.toNat:=by lia
  have fv:=LR (n:=n) (k:=m) gV;have Dr:unset (fC n m)<=n.toNat:=by rw[<-fv.len];exact Q6
  obtain⟨q,hq⟩ : ∃q,n.toNat=q+1:=⟨n.toNat-1,by lia⟩;have eq:n.toNat-1=q:=by lia
  rw[eq] at hz;refine(zfG (al:=false) (c0:=cnt m.toNat q) (c1:=m.toNat*cnt m.toNat (q-1)) B iY (λz=>by cases z) fv (λi hi=>⟨_,Az hi⟩) (by rw[eq];exact hz) ?_ (λkvs L hL qY ha hl=>?_)).imp λv s=>?_
  ·have:=zez (al:=false) B iY (λz=>by cases z) n.toNat (k'+34-3*n.toNat) (fC n m) [] fv Dr (λF d e=>by cases e) (by rw[eq];simp;lia);rw[eq] at this;simpa using this
  ·refine QL (m:=q) B ?_ fv gV hL ha gV;rw[show 3*n.toNat+1+(k'+34-3*n.toNat)+2=3*q+4+(k'+33-3*q) by lia];exact zez B iY (λz=>by cases z) q _
  rintro(⟨rfl,gZ⟩|⟨hs,rfl,hl,Fd,uo⟩)
  ·refine⟨_,rfl,?_⟩;refine Y ?_;exact .inl ⟨rfl,λhs hh=>gZ ⟨_,zgB h hA hh⟩⟩
  ·refine⟨_,rfl,?_⟩;refine Y ?_;refine .inr ⟨hs,rfl,zkc h hl Fd,λg hg j hj ha=>?_⟩;exact uo _ (zgB h hA hg) j gV ha
end
section
variable {n m k d:Int}{ps qs:List (Int×Int)}{hs:List Int}
theorem zgy{k':Nat}{a b:Int}(h2:Web m qs)(ha:0<=a/\a<m)(hb:0<=b/\b<m)(ht:mj qs a b=true):W (call aq T (k'+6) true 17 [.d (aQ m qs),.d (.int a),.d (.int b)]) [] λv s=>v=.d (.bl true):=by
 have e:=(qX h2).mp (iZ ht);have qF:a≠b:=by rcases e with e|e<;>have:=h2.tie _ e<;>dsimp only at this<;>lia
 have hm:norm (a,b)∈qs:=by
  unfold norm;rcases e with e|e<;>have t:=h2.tie _ e<;>dsimp only at t
  ·rw[if_pos (by dsimp only;lia)];exact e
  ·rw[if_neg (by dsimp only;lia)];exact e
 refine W.call zpi rfl ?_;unfold Wo aQ;refine Y ?_;refine W.c0 (zio (p:=(a,b)) ha hb qF) ?_;refine Y ?_;refine eF (zob (f:=id)) ?_;rw[fP hm];rfl
theorem Ys{k':Nat}(h:Web n ps)(h2:Web m qs)(hh:lZ n m (mj qs) ps hs):W (call aq T (k'+7) true 42 [.d (aQ n ps),.d (aQ m qs),.d (.tup (hs.map .int))]) [] λv s=>v=.d (.bl true):=by
 have pY:(100:Nat)<=sizeLine:=by decide
 have hl:=hh.len;have h8:=h.h8;have hpl:=h.len;have ew:aQ n ps=.tup [.int n,.tup (ps.map eU)]:=rfl;have em:aQ m qs=.tup [.int m,.tup (qs.map eU)]:=rfl;refine W.call zoP rfl ?_;unfold WX;refine Y ?_;refine W.c1 (wW h) λ_=>?_;refine Y ?_;refine W.c1 (wW h2) λ_=>?_;refine Y ?_;refine W.c0 (ziH (by rw[cZ];exact hl)) ?_;refine Y ?_;refine nQ (l:=hs) (f:=D.int) (λ_=>some (.bl true)) gV ?_ (λx hx=>?_) ?_
 ·refine Y ?_;exact⟨rfl,rfl⟩
 ·refine Y ?_;refine⟨rfl,λ_=>?_,λhb=>by cases hb⟩;refine Y ?_;refine W.c0 Mv ?_;rw[fP (hh.lo x hx)];exact⟨rfl,_,rfl,rfl⟩
 ·refine Y ?_;refine eF (Lb ?_) ?_
  ·intro x hx;obtain⟨_,_,e⟩:=zy.mp hx;exact(cJ e).symm
  refine Y ?_;refine nQ (l:=ps) (f:=eU) (λ_=>some (.bl true)) gV ?_ (λp hp=>?_) ?_
  ·refine Y ?_;exact⟨rfl,rfl⟩
  ·have ht:=h.tie p hp;have hf:=hh.fit p hp;obtain⟨a,b⟩:=p;dsimp only at ht hf;refine Y ?_;refine⟨rfl,λ_=>?_,λhb=>by cases hb⟩;refine Y ?_;refine eF (Ar gV gV) ?_;refine Y ?_;refine eF (Ar gV gV) ?_;refine Y ?_;refine W.c0 (zgy h2 (hh.lo _ (vO gV gV)) (hh.lo _ (vO gV gV)) hf) ?_;exact⟨rfl,_,rfl,rfl⟩
  ·refine Y ?_;refine eF (Lb ?_) ?_
   ·intro x hx;obtain⟨_,_,e⟩:=zy.mp hx;exact(cJ e).symm
   exact Y trivial
end
section
variable {n k d k2 d2:Int}{ps:List (Int×Int)}{hs is:List Int}
def zf9{k':Nat}(h1:1<=d/\d<=k/\k<=24)(h2:1<=d2/\d2<=k2/\k2<=24):W (call aq T (k'+1) true 8 [.d (aK k2 d2),.d (aK k d)]) [] λv s=>v=.d (.bl (decide (k2*d<k*d2))):=by
 refine W.call T_8 rfl ?_;unfold b8 aK;exact Y trivial
end
noncomputable def bB:List (Int×Int):=[(2,1),(3,1),(4,1),(5,2),(5,1),(4,2),(6,2),(7,3),(7,2),(8,3),(3,2),(1,1)]
def cX(k d:Int):List (Int×Int):=fB.filter λp=>decide (p.2<k/\d<=gW k p.1 p.2)
theorem MF{a b:Int}(h0:0<=a)(h1:a<b)(h2:b<8):(a,b)∈fB:=by
 obtain⟨x,rfl⟩:=p7 h0;obtain⟨y,rfl⟩:=p7 (show 0<=b by lia);have key:((List.range 8).all λx=>(List.range 8).all λy=>!decide (x<y)||fB.contains (((x:Nat):Int),((y:Nat):Int)))=true:=by decide
 have k1:=iK.mp (iK.mp key x (v9.mpr gV)) y (v9.mpr gV);rw[fP (show x<y by lia)] at k1;exact List.contains_iff_mem.mp (by simpa using k1)
def zh2:∀p∈fB,0<=p.1/\p.1<p.2:=by decide
def vY:fB.Pairwise lx:=by unfold fB lx;simp
theorem Yt{m:Int}{f:Int×Int->Bool}(h1:1<=m)(h8:m<=8)(hf:∀p,f p=true->p.2<m):Web m (fB.filter f):=by
 have ht:∀p∈fB.filter f,0<=p.1/\p.1<p.2/\p.2<m:=λp hp=>by
  obtain⟨q1,q2⟩:=jU.mp hp;have:=zh2 p q1;exact⟨this.1,this.2,hf p q2⟩
 have hi:(fB.filter f).Pairwise lx:=vY.sublist List.filter_sublist;exact⟨h1,h8,ht,hi,zmi h1 h8 ht hi⟩
def zc{k d:Int}(h1:1<=k)(h8:k<=8):Web k (cX k d):=Yt h1 h8 λp h=>(iZ h).1
theorem ziD{k d a b:Int}(hd:1<=d)(h1:1<=k)(h8:k<=8)(a0:0<=a)(ak:a<k)(b0:0<=b)(bk:b<k):mj (cX k d) a b=cU k d a b:=by
 unfold mj cU;rw[uE,qX (zc h1 h8)];unfold cX;rw[jU,jU]
 constructor
 ·rintro(⟨_,h⟩|⟨_,h⟩)
  ·exact(iZ h).2
  ·have:=(iZ h).2;dsimp only at this;rw[zfP];exact this
 ·intro h;have hg:=(qU hd).mp h;by_cases c:a<b
  ·exact .inl ⟨MF a0 c gV,fP ⟨bk,h⟩⟩
  ·exact .inr ⟨MF b0 gV gV,fP ⟨ak,by rw[zfP];exact h⟩⟩
theorem MJ{n k d:Int}{ps:List (Int×Int)}{hs:List Int}(w:Web n ps)(hd:1<=d)(h1:1<=k)(h8:k<=8):lZ n k (mj (cX k d)) ps hs↔bO n k d ps hs:=by
 have lo:∀(l:(hs.length:Int)=n) (q:∀x∈hs,0<=x/\x<k),∀p∈ps,(0<=at' hs p.1/\at' hs p.1<k)/\0<=at' hs p.2/\at' hs p.2<k:=λl q p hp=>by
  have ht:=w.tie p hp;exact⟨q _ (vO gV gV),q _ (vO gV gV)⟩
 constructor
 ·intro g;refine⟨g.len,g.lo,λp hp=>?_⟩;have a:=lo g.len g.lo p hp;have b:=g.fit p hp;rw[ziD hd h1 h8 a.1.1 a.1.2 a.2.1 a.2.2] at b;unfold cU at b
  rwa [HF] at b
 ·intro g;refine⟨g.len,g.lo,λp hp=>?_⟩;have a:=lo g.len g.lo p hp;rw[ziD hd h1 h8 a.1.1 a.1.2 a.2.1 a.2.2];unfold cU;rw[HF];exact g.fit p hp
noncomputable def sJ:List D->Option (List (Int×Int))
 |[]=>some []
 |.tup [.int a,.int b]::r=>(sJ r).map ((a,b)::·)
 |_=>none
theorem zi5:∀{xs:List D} {ps:List (Int×Int)},sJ xs=some ps->xs=ps.map eU
 |[],ps,h=>by cases h;rfl
 |d::r,ps,h=>by
  unfold sJ at h;split at h
  ·rename_i e;cases e
  ·rename_i a b r' e;cases e;obtain⟨q,e1,e2⟩:=lB.mp h;subst e2;rw[jx,<-zi5 e1];rfl
  ·cases h
def isW(m:Int)(ps:List (Int×Int)):Option (Rs Xv×S)->Bool
 |some (.ok (.d (.tup [.int k,.tup xs])),_)=>k==m&&(sJ xs==some ps)
 |_=>false
theorem znJ{m:Int}{ps:List (Int×Int)}{c:M Xv}(h:isW m ps (c [])=true):W c [] λv s=>v=.d (aQ m ps):=by
 unfold isW at h;split at h
 ·rename_i e;rw[gb] at h;have h1:=eq_of_beq h.1;have h2:=zi5 (eq_of_beq h.2);exact⟨_,_,e,by rw[h1,h2];rfl⟩
 ·cases h
def zm6:(bB.all λp=>isW p.1 (cX p.1 p.2) (call aq T 58 true 21 [.d (aK p.1 p.2)] []))=true:=by kernel_rfl
noncomputable def iD(p:Int×Int):Int×Int:=if p.1<2*p.2 then (1,1) else if p=(4,2) then (2,1) else if p=(6,2) then (3,1) else p
noncomputable def gD(p:Int×Int):Int:=if p=(4,2)\/p=(6,2) then 2 else 1
def Fg:∀p∈bB,1<=p.2/\p.2<=p.1/\p.1<=8:=by decide
def zj7:∀p∈bB,iD p∈gY p.1/\(p.1*(iD p).2=(iD p).1*p.2\/p.1<2*p.2/\iD p=(1,1)):=by decide
def zii:∀p∈bB,∀q∈bB,(decide (p.1*1<2*p.2) || !decide (q.1*p.2<p.1*q.2)) = !decide (q.1*(iD p).2<(iD p).1*q.2):=by decide +kernel
def gr(k d:Int)(ps:List (Int×Int)):Nat->List (List Int)
 |0=>[[]]
 |m+1=>(gr k d ps m).flatMap λr=>((dU k.toNat).filter λx=>ps.all λp=>!decide (p.2=(m:Int))||decide (d<=gW k (at' r p.1) x)).map λx=>r++[x]
theorem zi0{n k d:Int}{ps:List (Int×Int)}{hs:List Int}(w:Web n ps)(hh:bO n k d ps hs):∀m:Nat,(m:Int)<=n->hs.take m∈gr k d ps m
 |0,_=>by simp[gr]
 |m+1,h=>by
  have hl:=hh.len;have e:hs.take (m+1)=hs.take m++[hs[m]]:=MP gV;rw[e];unfold gr;refine List.mem_flatMap.mpr ⟨_,zi0 w hh m gV,oh.mpr ⟨_,jU.mpr ⟨cT.mpr ?_,iK.mpr λp hp=>?_⟩,rfl⟩⟩
  ·have:=hh.lo _ (List.getElem_mem (show m<hs.length by lia))
   lia
  ·by_cases c:p.2=(m:Int)
   ·have ht:=w.tie p hp;have f:=hh.fit p hp;have e1:at' hs p.1=at' (hs.take m) p.1:=by
     unfold at';rw[jT,jT,List.getElem?_take_of_lt gV]
    have e2:at' hs p.2=hs[m]:=by
     unfold at';rw[c,jT,pO,dH gV];rfl
    rw[e1,e2] at f;rw[fP f,Bool.or_true]
   ·rw[pP c];rfl
def zhS:(bB.all λp=>EY.all λq=>!(decide (q.1<=p.1)&&decide (q.1*(iD p).2<(iD p).1*q.2))||(gr q.1 q.2 (cX p.1 p.2) p.1.toNat).isEmpty)=true:=by decide +kernel
theorem Yu{k d:Int}(h1:1<=k)(h8:k<=8):bO k k d (cX k d) (dU k.toNat):=by
 have Ba:∀j:Int,0<=j->j<k->at' (dU k.toNat) j=j:=λj a b=>PJ a gV;refine⟨by unfold dU;rw[cZ,nU];lia,λx hx=>by have:=cT.mp hx;lia,λp hp=>?_⟩;have ht:=(zc (d:=d) h1 h8).tie p hp;rw[Ba _ gV gV,Ba _ gV gV];exact(iZ (jU.mp hp).2).2
theorem zit{p:Int×Int}(hp:p∈bB):Short p.1 (cX p.1 p.2) (iD p):=by
 have hr:=Fg p hp;have w:=zc (d:=p.2) (show 1<=p.1 by lia) hr.2.2;have hs:=Yu (d:=p.2) (show 1<=p.1 by lia) hr.2.2;obtain⟨dm,dl⟩:=zj7 p hp;have hd:=yZ dm;refine⟨dm,?_,λk d g Tt lM hh=>?_⟩
 ·rcases dl with e|⟨c,e⟩
  ·exact⟨_,P_ w hs gV hr.1 gV hd.1 gV⟩
  ·rw[zdb hr.1 hs c,e];exact⟨_,zdI gV Tv⟩
 ·obtain⟨q,hq,Wh,e⟩:=zb8 w Tt lM hh;have hq2:=yZ hq;refine Qf ?_ e hq2.1 gV gV;refine Gi.mp λz=>?_;obtain⟨g',Lq⟩:=Wh;have h0:=zi0 w Lq p.1.toNat gV;have:=iK.mp (iK.mp zhS p hp) q (jU.mp hq).1;rw[fP z,fP hq2.2.2.1] at this;simp only[Bool.and_self,Bool.not_true,Bool.false_or] at this;rw[List.isEmpty_iff.mp this] at h0;cases h0
def MK{p:Int×Int}(hp:p∈bB):W (call aq T 58 true 21 [.d (aK p.1 p.2)]) [] λv s=>v=.d (aQ p.1 (cX p.1 p.2)):=znJ (iK.mp zm6 p hp)
section
variable {n k d k2 d2:Int}{ps:List (Int×Int)}{hs:List Int}
theorem zhb{k':Nat}(h1:1<=d/\d<=k/\k<=24)(h2:1<=d2/\d2<=k2/\k2<=24):W (call aq T (k'+5) true 22 [.d (aK k d),.d (aK k2 d2)]) [] λv s=>v=.d (.bl (decide (k*1<2*d) || !decide (k2*d<k*d2))):=by
 refine W.call zpf rfl ?_;unfold Ws;refine Y ?_;refine W.c1 (Hu h1.1 h1.2.1 h1.2.2) λ_=>?_;refine Y ?_;refine W.c1 (Hu h2.1 h2.2.1 h2.2.2) λ_=>?_;refine Y ?_;refine W.c0 (zf9 (k:=2) (d:=1) (k2:=k) (d2:=d) Tv h1) ?_;by_cases c:k*1<2*d
 ·rw[fP c];refine Y ?_;rfl
 ·rw[pP c];refine Y ?_;refine W.c0 (zf9 h1 h2) ?_;refine Y ?_;rfl
theorem zju{m q:Int}{us vs:List (Int×Int)}{ms:List Int}(w:Web n ps)(w2:Web m us)(w3:Web q vs)(h:lZ n m (mj us) ps hs)(g:lZ m q (mj vs) us ms):lZ n q (mj vs) ps (hs.map (at' ms)):=by
 have hl:=h.len;have gl:=g.len;refine⟨by rw[cZ];exact hl,λx hx=>?_,λp hp=>?_⟩
 ·obtain⟨y,hy,rfl⟩:=oh.mp hx;have:=h.lo y hy;exact g.lo _ (vO gV gV)
 ·have ht:=w.tie p hp;rw[Av gV gV,Av gV gV];rcases(qX w2).mp (iZ (h.fit p hp)) with e|e
  ·exact g.fit _ e
  ·have:=g.fit _ e;rw[zi6 w3];exact this
theorem zfI{n m:Int}(hn:n<=8)(hm:m<=8):cnt m.toNat (n.toNat-1)+m.toNat*cnt m.toNat (n.toNat-1-1)+tot m.toNat (n.toNat-1)<sizeLine:=by
 have:=Qe (k:=m.toNat) (k2:=8) (m:=n.toNat-1) (m2:=7) gV gV;have h2:=Qe (k:=m.toNat) (k2:=8) (m:=n.toNat-1-1) (m2:=6) gV gV;have:=zey (k:=m.toNat) (k2:=8) (m:=n.toNat-1) (m2:=7) gV gV;have e:cnt 8 7+8*cnt 8 6+tot 8 7<sizeLine:=by decide
 have:=Nat.mul_le_mul (show m.toNat<=8 by lia) h2
 lia
theorem ziL{k':Nat}{q:Int×Int}(w:Web n ps)(hq:q∈bB):W (call aq T (k'+40) true 43 [.d (aQ n ps),.d (aQ q.1 (cX q.1 q.2))]) [] λv s=>(v=.d .non/\∀hs,¬bO n q.1 q.2 ps hs)\/∃hs,v=.d (.tup (hs.map .int))/\bO n q.1 q.2 ps hs:=by
 have hr:=Fg q hq;have w2:=zc (d:=q.2) (show 1<=q.1 by lia) hr.2.2;refine(zcH w w2 (zfI w.h8 hr.2.2)).imp λv s hv=>?_;rcases hv with ⟨rfl,gZ⟩|⟨hs,rfl,hh,_⟩
 ·exact .inl ⟨rfl,λhs hh=>gZ hs ((MJ w hr.1 gV hr.2.2).mpr hh)⟩
 ·exact .inr ⟨hs,rfl,(MJ w hr.1 gV hr.2.2).mp hh⟩
theorem zoq{k':Nat}{q:Int×Int}(w:Web n ps)(hq:q∈bB)(hh:bO n q.1 q.2 ps hs):W (call aq T (k'+9) true 44 [.d (aQ n ps),.d (aQ q.1 (cX q.1 q.2)),.d (.tup (hs.map .int)),.d (aK q.1 q.2),.d (.tup ((dU q.1.toNat).map .int))]) [] λv s=>v=.d (.tup (hs.map .int)):=by
 have hr:=Fg q hq;have w2:=zc (d:=q.2) (show 1<=q.1 by lia) hr.2.2;have h8:=w.h8;have hl:=hh.len;have pY:(100:Nat)<=sizeLine:=by decide
 have hsl:(dU q.1.toNat).length=q.1.toNat:=by unfold dU;rw[cZ,nU]
 refine W.call zo0 rfl ?_;unfold W0;refine Y ?_;refine W.c1 (wW w) λ_=>?_;refine Y ?_;refine W.c1 (wW w2) λ_=>?_;refine Y ?_;refine W.c1 (Hu hr.1 hr.2.1 gV) λ_=>?_;refine Y ?_;refine W.c0 (Ys w w2 ((MJ w hr.1 gV hr.2.2).mpr hh)) ?_;refine Y ?_;refine W.c1 (zgT w2 hr.1 hr.2.1 gV (Yu gV hr.2.2)) λ_=>?_;refine Y ?_;refine nQ (l:=hs) (f:=D.int) (λx=>some (.int x)) gV ?_ (λx hx=>?_) ?_
 ·refine Y ?_;exact⟨rfl,rfl⟩
 ·have hx2:=hh.lo x hx;refine Y ?_;refine⟨rfl,λ_=>?_,λhb=>by cases hb⟩;refine Y ?_;refine eF (Ar gV gV) ?_;refine⟨rfl,_,rfl,?_⟩;rw[show at' (dU q.1.toNat) x=x from PJ gV gV]
 rw[uy];exact Y trivial
end
noncomputable def MN(p:Int×Int):List D:=(List.range (9-1:Int).toNat).filterMap λ(j:Nat)=>if p.1%(1+(j:Int))=0/\p.2%(1+(j:Int))=0 then some (D.int (1+(j:Int))) else none
def zhY{p:Int×Int}(hp:p∈bB):prim .u_ [.fl (MN p)]=some (.dat (.int (gD p))):=by
 unfold bB at hp;simp only[iM,List.not_mem_nil,or_false] at hp;rcases hp with rfl|rfl|rfl|rfl|rfl|rfl|rfl|rfl|rfl|rfl|rfl|rfl
 all_goals rfl
def zi1{k:Int}(h0:0<=k)(h:k<=8):prim .yt [.int k]=some (.dat (.tup ((dU k.toNat).map .int))):=by
 obtain⟨n,rfl⟩:=p7 h0;exact zlM gV
def zhN:∀p∈bB,p.1<2*p.2\/(p.1/gD p,p.2/gD p)=iD p:=by decide
def zn5:∀p∈bB,1<=gD p/\gD p<=2:=by decide
theorem ziz{p q:Int×Int}(hp:p∈bB)(hq:q∈bB):W (call aq T 59 true 54 [.d (aK p.1 p.2),.d (aK q.1 q.2)]) [] λv s=>v=.d (.bl true):=by
 have hr:=Fg p hp;have hr2:=Fg q hq;have hg:=zn5 p hp;have pY:(1000:Nat)<=sizeLine:=by decide
 have w1:=zc (d:=p.2) (show 1<=p.1 by lia) hr.2.2;have w2:=zc (d:=q.2) (show 1<=q.1 by lia) hr2.2.2;have hS:=zit hp;have er:aK p.1 p.2=.tup [.int p.1,.int p.2]:=rfl;refine W.call zoK rfl ?_;unfold W9;refine Ld (λJ s=>s=[]/\J=[some (.d (aK p.1 p.2)),some (.d (aK q.1 q.2)),some (.d (aQ p.1 (cX p.1 p.2))),some (.d (aQ q.1 (cX q.1 q.2))),none,none,none]) ?_ (λJ s hR=>?_)
 ·refine Y ?_;refine W.c0 (MK hp) ?_;refine Y ?_;refine W.c0 (MK hq) ?_;refine Y ?_;exact⟨_,rfl,rfl,rfl⟩
 obtain⟨rfl,rfl⟩:=hR;generalize ew:cX p.1 p.2=ps at w1 hS;generalize ew2:cX q.1 q.2=qs at w2;refine Ld (λJ s=>s=[]/\J=[some (.d (aK p.1 p.2)),some (.d (aK q.1 q.2)),some (.d (aQ p.1 ps)),some (.d (aQ q.1 qs)),some (.d (.int (gD p))),none,none]) ?_ (λJ s hR=>?_)
 ·refine Y ?_;refine nQ (l:=List.range (9-1:Int).toNat) (f:=λ(j:Nat)=>.int (1+j)) (λ(j:Nat)=>if p.1%(1+(j:Int))=0/\p.2%(1+(j:Int))=0 then some (D.int (1+(j:Int))) else none) (by rw[nU];lia) ?_ (λj hj=>?_) ?_
  ·refine Y ?_;exact⟨rfl,rfl,rfl⟩
  ·unfold aK;refine Y ?_;refine W.ite (λc=>?_) (λc=>?_)
   ·have c:p.1%(1+(j:Int))=0:=by simpa using c
    refine Y ?_;refine⟨rfl,λz=>?_,λz=>?_⟩
    ·have z:p.2%(1+(j:Int))=0:=by simpa using z
     refine Y ?_;exact⟨rfl,_,rfl,if_pos ⟨c,z⟩⟩
    ·have z:¬p.2%(1+(j:Int))=0:=by simpa using z
     exact if_neg λh=>z h.2
   ·have c:¬p.1%(1+(j:Int))=0:=by simpa using c
    refine Y ?_;exact⟨rfl,λz=>(by cases z),λ_=>if_neg λh=>c h.1⟩
  ·refine Y ?_;refine eF (zhY hp) ?_;refine Y ?_;exact⟨_,rfl,rfl,rfl⟩
 obtain⟨rfl,rfl⟩:=hR;refine Ld (λJ s=>s=[]/\J=[some (.d (aK p.1 p.2)),some (.d (aK q.1 q.2)),some (.d (aQ p.1 ps)),some (.d (aQ q.1 qs)),some (.d (.int (gD p))),some (.d (.tup [.int (p.1/gD p),.int (p.2/gD p)])),none]) ?_ (λJ s hR=>?_)
 ·refine Y ?_;exact⟨_,rfl,rfl,rfl⟩
 obtain⟨rfl,rfl⟩:=hR;refine Ld (λJ s=>s=[]/\J=[some (.d (aK p.1 p.2)),some (.d (aK q.1 q.2)),some (.d (aQ p.1 ps)),some (.d (aQ q.1 qs)),some (.d (.int (gD p))),some (.d (rD (iD p))),none]) ?_ (λJ s hR=>?_)
 ·refine Y ?_;refine WS.ite (λc=>?_) (λc=>?_)
  ·have c:p.1<2*p.2:=iZ c;refine Y ?_;refine⟨_,rfl,rfl,?_⟩;unfold iD;rw[if_pos c];rfl
  ·have c:¬p.1<2*p.2:=λz=>c (fP z);refine Y ?_;refine⟨_,rfl,rfl,?_⟩;rw[<-(zhN p hp).resolve_left c];rfl
 obtain⟨rfl,rfl⟩:=hR;subst ew ew2;refine Ld (λJ s=>s=[]/\J=[some (.d (aK p.1 p.2)),some (.d (aK q.1 q.2)),some (.d (aQ p.1 (cX p.1 p.2))),some (.d (aQ q.1 (cX q.1 q.2))),some (.d (.int (gD p))),some (.d (rD (iD p))),none]) ?_ (λJ s hR=>?_)
 ·refine Y ?_;refine jQ rfl ((zfc (k':=16) w1).imp λv s1 hv=>?_);obtain⟨r,rfl,hF⟩:=hv;have e:=(hF.short w1).uniq hS;subst e;refine⟨_,rfl,?_⟩;refine Y ?_;refine W.Px Zaa ?_;refine Y ?_;refine eF (zi1 gV hr.2.2) ?_;refine Y ?_;refine W.c0 (Yq (k':=50) w1 gV (Yu gV hr.2.2)) ?_;refine Y ?_;exact⟨_,rfl,rfl,rfl⟩
 obtain⟨rfl,rfl⟩:=hR;have hro:=hS.room w1 hr2.1 hr2.2.1;have hl:=zii p hp q hq;refine Y ?_;refine jQ rfl ((ziL (k':=18) w1 hq).imp λv s1 hv=>?_);rcases hv with ⟨rfl,gZ⟩|⟨hs,rfl,hh⟩
 ·refine⟨_,rfl,?_⟩;have c:q.1*(iD p).2<(iD p).1*q.2:=Decidable.byContradiction λz=>by obtain⟨g,hg⟩:=hro.mpr z;exact gZ g hg
  rw[fP c] at hl;refine Y ?_;refine W.c0 (zhb (k':=53) gV gV) ?_;rw[hl];refine Y ?_;refine jQ rfl ((Yo (k':=18) w1 hr2.1 hr2.2.1 gV (small hr.2.2 hr2.2.2)).imp λv s1 hv=>?_);rcases hv with ⟨rfl,_⟩|⟨g,rfl,hg,_⟩
  ·refine⟨_,rfl,?_⟩;exact Y trivial
  ·exact absurd hg (gZ g)
 ·refine⟨_,rfl,?_⟩;rw[pP (hro.mp ⟨_,hh⟩)] at hl;refine Y ?_;refine W.c0 (zhb (k':=53) gV gV) ?_;rw[hl];refine Y ?_;refine jQ rfl ((Yo (k':=18) w1 hr2.1 hr2.2.1 gV (small hr.2.2 hr2.2.2)).imp λv s1 hv=>?_);rcases hv with ⟨rfl,gZ⟩|⟨g,rfl,hg,_⟩
  ·exact absurd hh (gZ _)
  ·refine⟨_,rfl,?_⟩;refine Y ?_;refine W.c0 (Ys (k':=51) w1 w2 ((MJ w1 hr2.1 gV hr2.2.2).mpr hh)) ?_;refine Y ?_;refine jQ rfl ((Yq (k':=50) w1 gV hh).imp λv s1 e=>⟨_,e,rfl⟩)
theorem zh7{n:Int}{ps:List (Int×Int)}{p q:Int×Int}(w:Web n ps)(hp:p∈bB)(hq:q∈bB):W (call aq T 59 true 55 [.d (aQ n ps),.d (aK p.1 p.2),.d (aK q.1 q.2)]) [] λv s=>v=.d (.bl true):=by
 have hr:=Fg p hp;have hr2:=Fg q hq;have h8:=w.h8;have pY:(1000:Nat)<=sizeLine:=by decide
 have w1:=zc (d:=p.2) (show 1<=p.1 by lia) hr.2.2;have w2:=zc (d:=q.2) (show 1<=q.1 by lia) hr2.2.2;have er:aK p.1 p.2=.tup [.int p.1,.int p.2]:=rfl;refine W.call zpg rfl ?_;unfold W_;refine Y ?_;refine W.c0 (MK hp) ?_;refine Y ?_;refine jQ rfl ((ziL (k':=18) w hp).imp λv s1 hv=>?_);rcases hv with ⟨rfl,gZ⟩|⟨hs,rfl,hh⟩
 ·refine⟨_,rfl,?_⟩;refine Y ?_;refine jQ rfl ((Yp (k':=17) w gV (small h8 hr.2.2)).imp λv s1 hv=>?_);obtain⟨b,rfl,hb⟩:=hv;have e:b=false:=Bool.eq_false_iff.mpr λz=>by obtain⟨g,hg⟩:=hb.mp z;exact gZ g hg
  subst e;refine⟨_,rfl,?_⟩;exact Y trivial
 ·refine⟨_,rfl,?_⟩;have hl:=hh.len;refine Y ?_;refine jQ rfl ((Yp (k':=17) w gV (small h8 hr.2.2)).imp λv s1 hv=>?_);obtain⟨b,rfl,hb⟩:=hv;have e:=hb.mpr ⟨_,hh⟩;subst e;refine⟨_,rfl,?_⟩;refine Y ?_;refine eF (zi1 gV hr.2.2) ?_;refine Y ?_;refine W.c0 (zoq (k':=49) w hp hh) ?_;refine Y ?_;refine eF (zlj (f:=not)) ?_;rw[fP rfl];refine Y ?_;refine W.c0 (Yq (k':=50) w gV hh) ?_;refine Y ?_;refine W.c0 (MK hq) ?_;refine Y ?_;refine jQ rfl ((zcH (k':=18) w1 w2 (zfI hr.2.2 hr2.2.2)).imp λv s1 hv=>?_);rcases hv with ⟨rfl,gZ⟩|⟨ms,rfl,hm,_⟩
  ·refine⟨_,rfl,?_⟩;exact Y trivial
  ·refine⟨_,rfl,?_⟩;have ml:=hm.len;refine Y ?_;refine W.c0 (MK hq) ?_;refine Y ?_;refine nQ (l:=hs) (f:=D.int) (λx=>some (.int (at' ms x))) gV ?_ (λx hx=>?_) ?_
   ·refine Y ?_;exact⟨rfl,rfl⟩
   ·have hx2:=hh.lo x hx;refine Y ?_;refine⟨rfl,λ_=>?_,λhb=>by cases hb⟩;refine Y ?_;refine eF (Ar gV gV) ?_;exact⟨rfl,_,rfl,rfl⟩
   rw[uy,show hs.map (λx=>D.int (at' ms x))=(hs.map (at' ms)).map .int by rw[Ib];rfl];refine Y ?_;refine jQ rfl ((Ys (k':=51) w w2 (zju w w1 w2 ((MJ w hr.1 gV hr.2.2).mpr hh) hm)).imp λv s1 e=>⟨_,e,rfl⟩)
theorem zgH{k':Nat}{o:SO}(ho:vX o):W (call aq T (k'+2) true 53 [.l 0]) [o] λv s=>∃(p:Int×Int) (o':SO),v=.d (aK p.1 p.2)/\s=[o']/\p∈bB/\vX o':=by
 refine W.call zoV rfl ?_;unfold W8;refine Y ?_;refine Yr ho Tv Tv λr o' hr hp=>?_;refine Y ?_;have yC:r<bB.length:=by show r<12;lia
 refine eF (Pu (x:=aK bB[r].1 bB[r].2) (by show (bB.map λp=>aK p.1 p.2)[r]?=_;rw[iG,dH yC];rfl)) ?_;refine Y ?_;exact⟨_,_,rfl,rfl,List.getElem_mem yC,hp⟩
theorem vZ(ns:List Int)(hn:ns.length<=63):∃s',call aq T 60 true 56 [.d (.fl (ns.map D.int))] []=some (.ok (.d (.bl true)),s'):=by
 suffices h:W (call aq T 60 true 56 [.d (.fl (ns.map D.int))]) [] λv _=>v=.d (.bl true) by
  obtain⟨v,s',e,rfl⟩:=h;exact⟨s',e⟩
 have hs:(1000:Nat)<=sizeLine:=by decide
 refine W.call (k:=59) zoC rfl ?_;unfold Xa;refine Y ?_;refine jQ rfl ((zmy (k:=58)).imp λv _=>?_);rintro⟨n0,rfl⟩;refine⟨_,rfl,?_⟩;refine Y ?_;refine Pq (ziY ?_) ?_
 ·have:=zjx (ns:=ns) (lo:=some 1) (hi:=some 3);show 1+_<=_
  lia
 refine Y ?_;refine Hg (λ_ J s=>∃(a b c d e:Option Xv),J=[some (.d (.fl (ns.map D.int))),a,b,c,d,e]) ⟨_,_,_,_,_,rfl⟩ (λi x J s hx Fj=>?_) (λJ s Fj=>?_)
 ·obtain⟨m,rfl⟩ : ∃m,x=.int m:=by
   rcases nW.mp (fG hx) with z|z
   ·rcases iM.mp z with rfl|z
    ·exact⟨_,rfl⟩
    ·cases z
   ·exact zkI z
  obtain⟨a,b,c,d,e,rfl⟩:=Fj;refine Y ?_;refine Kam rfl ((zn8 (k:=58)).imp λv s1=>?_);rintro⟨j,o,rfl,hj,hp⟩;refine⟨j,o,rfl,hj,?_⟩;refine Y ?_;refine uw rfl ((zgH (k':=57) hp).imp λv s1=>?_);rintro⟨p,o1,rfl,rfl,hp1,hp⟩;refine⟨_,_,rfl,rfl,?_⟩;refine Y ?_;refine uw rfl ((zgH (k':=57) hp).imp λv s1=>?_);rintro⟨q,o2,rfl,rfl,yr,hp⟩;refine⟨_,_,rfl,rfl,?_⟩;refine Y ?_;refine uw rfl ((ziJ (k:=58) hp (m:=5) gV gV).imp λv s1=>?_);rintro⟨_,o3,rfl,rfl,⟨r,rfl,hr0,hr1⟩,hp⟩;refine⟨_,_,rfl,rfl,?_⟩;refine Y ?_;refine uw rfl ((ziv (k:=57) hp (n:=1+r) gV gV).imp λv s1=>?_);rintro⟨ps,o4,rfl,rfl,hw,hp⟩;refine⟨_,_,rfl,rfl,?_⟩;refine Y ?_;refine W.c0 (ziz hp1 yr) ?_;refine Y ?_;refine W.c0 (zh7 hw hp1 yr) ?_;refine Y ?_;exact⟨_,rfl,_,_,_,_,_,rfl⟩
 ·obtain⟨a,b,c,d,e,rfl⟩:=Fj;exact Y trivial
end eN
open PySem PySem.W PyProof.Rows
set_option maxRecDepth 100000 in
set_option maxHeartbeats 0 in
theorem PySem.Challenge.cw_ringhues_k71_whole_webs_of_rings_holds : PySem.Challenge.rw_ringhues_k71_whole_webs_of_rings.Holds := by
 refine PySem.W.holds_law eN.ws λsaid=>?_;refine holds_open (q:=eN.qv) (loose:=eN.loose) (Xt:=λs=>xlAt eN.qv [] s&&recOk [] s) (XP:=XL eN.qv []) (Yf:=(Mi.ju eN.fs eN.ms eN.xs eN.lk eN.bd).obs) (Ya:=(Mi.ju eN.fs eN.ms eN.xs eN.lk eN.bd).val) (YP:=(Mi.ju eN.fs eN.ms eN.xs eN.lk eN.bd).says) (N:=20000) eN.left (Mi.ju eN.fs eN.ms eN.xs eN.lk eN.bd).of (Mi.ju eN.fs eN.ms eN.xs eN.lk eN.bd).keeps (λs e=>xl_of s (Bool.and_eq_true_iff.mp e).1) XL.keeps (by rfl) (by rfl) (by rfl) (λs e=>recFacts_of (Bool.and_eq_true_iff.mp e).2) (by rfl) (by first|assumption|decide +kernel) Dc ⟨rfl,rfl,rfl,rfl,rfl,by decide +kernel⟩ ?hw ?hc
 case hw=>w_witness2
 case hc=>exact Mi.Et (l:=PySem.Challenge.rw_ringhues_k71_whole_webs_of_rings) (x:="_law_script") (k:=60) rfl rfl ⟨by decide,by decide,rfl⟩ (λw K mg fa h S LH X G En=>eN.all_mk eN.vZ S LH X G En)
