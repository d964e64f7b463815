import PyProof.Rows.All
import Wide.All
import OpenK.AllK
import PySem.Challenge.RW_ringhues_k07_whole_hues_and_clashes
set_option compiler.extract_closed false
abbrev aC:=@PySem.wpAny_bind
abbrev cJ:=@PySem.Heap.get?_push_of_some
abbrev dj:=@List.getElem?_eq_getElem
abbrev eO:=@List.getElem?_eq_some_iff
abbrev aU:=@PySem.wpAny_pure
abbrev cj:=@Option.some.inj
abbrev fB:=@List.mem_of_getElem?
abbrev bQ:=@PySem.Heap.lt_size
abbrev fC:=@PySem.Heap.get?_push_size
abbrev bJ:=@Nat.le_refl
abbrev cU:=@List.length_map
abbrev jC:=@List.getD_eq_getElem?_getD
abbrev gQ:=@List.mem_cons_of_mem
abbrev fH:=@List.size_toArray
abbrev gR:=@Nat.lt_of_lt_of_le
abbrev gU:=@List.getElem?_map
abbrev gD:=@List.length_cons
abbrev gF:=@Bool.and_eq_true
abbrev dw:=@Nat.ne_of_lt
abbrev jZ:=@Option.map_eq_some_iff
abbrev m9:=@List.getElem?_append_left
abbrev n_:=@List.getElem?_append_right
abbrev oh:=@List.getElem?_eq_none_iff
abbrev iy:=@decide_eq_true
abbrev jx:=@List.all_eq_true
abbrev j8:=@List.mem_cons_self
abbrev j9:=@of_decide_eq_true
abbrev jd:=@List.mem_cons
abbrev mZ:=@List.length_append
abbrev jk:=@List.map_cons
abbrev qx:=@List.getElem?_set_ne
abbrev ou:=@Int.toNat_natCast
abbrev m_:=@List.lookup_cons
abbrev pI:=@List.length_range
abbrev jM:=@Nat.le_trans
abbrev nj:=@List.mem_append
abbrev sZ:=@List.mem_append_right
abbrev nq:=@List.length_set
abbrev uq:=@PySem.Heap.get?_update_other
abbrev xq:=@PyProof.Rows.callWith_type1
abbrev zR:=@PyProof.Rows.slot_tuple_getitem
abbrev pJ:=@decide_eq_false
abbrev qP:=@PySem.wpAny_newObj_type
abbrev vL:=@List.getElem?_set_self
abbrev j_:=@PySem.wpAny_field
abbrev pK:=@PySem.wpAny_seqItems
abbrev oA:=@Nat.lt_irrefl
abbrev tu:=@PySem.wpAny_truthy_bool
abbrev xr:=@PySem.wpAny_callSpecial?_slot
abbrev tD:=@Nat.lt_succ_of_lt
abbrev xu:=@Option.bind_eq_some_iff
abbrev tG:=@decide_eq_decide
abbrev vM:=@beq_eq_false_iff_ne
abbrev vN:=@Array.length_toList
abbrev vO:=@List.getElem_of_mem
abbrev lK:=@PySem.wpAny_mono
abbrev xG:=@PySem.Heap.get?_update_self
abbrev qy:=@PySem.wpAny_holding
abbrev zT:=@List.getElem?_replicate
abbrev vP:=@PySem.Obj.data_mapFields
abbrev vQ:=@Bool.false_eq_true
abbrev zU:=@List.getElem?_cons_succ
abbrev m5:=@beq_iff_eq
abbrev tH:=@PySem.Heap.size_push
abbrev ur:=@List.mem_filter
abbrev qz:=@List.mem_map
abbrev qC:=@List.map_map
abbrev vR:=@PySem.wpAny_call_entry
abbrev BP:=@Int.eq_ofNat_of_zero_le
abbrev vU:=@List.append_nil
abbrev vV:=@List.nodup_cons
abbrev zV:=@PySem.mem_of_lookup
abbrev HN:=@PySem.F.slot_tuple_iterator_next
abbrev xH:=@beq_self_eq_true
abbrev xJ:=@PySem.F.plain_min_loop
abbrev zW:=@List.mem_filterMap
abbrev zX:=@PySem.wpAny_Call_Name_kw
abbrev zY:=@PySem.wpAny_setField_rec
abbrev zZ:=@List.pairwise_cons
abbrev z_:=@Int.emod_lt_of_pos
abbrev HS:=@List.pairwise_iff_getElem
abbrev lQ:=@congrArg
abbrev BR:=@PySem.Heap.get?_none_of_le
abbrev BW:=@PySem.Around.under_plainId
abbrev xK:=@List.map_append
abbrev HW:=@PySem.AutoSeq1.wpAny_loadPart'
abbrev xM:=@Int.emod_nonneg
abbrev uw:=@Nat.ne_of_gt
abbrev BX:=@List.filterMap_cons
abbrev tK:=@PySem.sizeLine_eq
abbrev BZ:=@List.getElem?_range
abbrev B_:=@List.map_congr_left
abbrev Aa:=@List.length_take
abbrev Ab:=@List.take_length
abbrev Ac:=@List.countP_cons
abbrev xO:=@List.mem_range
abbrev Ca:=@List.zip_cons_cons
abbrev Cd:=@List.mem_singleton
abbrev vW:=@Nat.le_of_lt
abbrev Ad:=@List.length_nil
abbrev HX:=@List.length_replicate
abbrev HY:=@PySem.Obj.isFreed_of_fields
abbrev Ae:=@List.forIn_cons
abbrev H_:=@Int.emod_add_mul_ediv
abbrev xP:=@List.all_cons
abbrev Ce:=@decide_eq_true_eq
abbrev K_:=@Int.add_mul_emod_self_left
abbrev Ia:=@Nat.mul_le_mul_right
abbrev Af:=@List.nodup_nil
abbrev La:=@Option.isSome_iff_exists
abbrev Lb:=@PySem.F.args_tuple_add_2
abbrev Ld:=@List.length_filterMap_le
abbrev Cg:=@PySem.wpAny_passesOwn
abbrev Le:=@PySem.F.entry_tuple_add
abbrev qD:=@if_false
abbrev Lf:=@decide_eq_false_iff_not
abbrev Ib:=@decide_eq_true_iff
abbrev Cj:=@PySem.codeAny_builtin
abbrev Lg:=@PySem.W.cellsFrom_some
abbrev Lh:=@PySem.F.slot_tuple_add
abbrev Li:=@List.range_succ_eq_map
abbrev xQ:=@Nat.zero_le
abbrev Ie:=@PySem.Heap.get?_push_ne
abbrev xR:=@PySem.wpAny_letGo
abbrev Ig:=@PySem.wpAny_pyIter_list
abbrev Ih:=@List.append_assoc
abbrev Ii:=@List.nodup_append
abbrev Cm:=@PySem.wpAny_setField
abbrev Ag:=@PySem.codeAny_mono
abbrev Ij:=@Nat.lt_succ_self
abbrev Ik:=@Nat.le_of_not_lt
abbrev Il:=@PySem.wpAny_isInstance
abbrev Lj:=@PySem.wpAny_updateSeq_pair
abbrev Cp:=@PySem.wpAny_attempt
abbrev Cq:=@PySem.plainId_quiet
abbrev Ln:=@PySem.W.plainGet_of
abbrev Im:=@PySem.F.slot_zip_next
abbrev Io:=@Bool.or_eq_true
abbrev Lp:=@Bool.false_ne_true
abbrev Lq:=@PySem.W.callWith_K
abbrev Cr:=@List.all_map
abbrev Lr:=@Array.forIn_toList
abbrev Ip:=@List.forIn_nil
abbrev Ir:=@List.take_succ
abbrev Ls:=@List.getElem?_inj
abbrev Lw:=@List.map_inj_left
abbrev Lx:=@List.pairwise_map
set_option Elab.async false
set_option linter.all false
set_option maxRecDepth 100000
set_option maxHeartbeats 4000000
namespace L2
open PySem PySem.Spec PyProof.Rows PySem.W
noncomputable def subIn(K:W.Frag)(C D:Addr):Bool:=PySem.W.ktsIn K C "BaseException"&&PySem.W.ktsIn K D "BaseException"&&match K.lookup C with
 |some ⟨_,_,.cls cd,_⟩=>cd.mro.contains (.ref D)
 |_=>false
noncomputable def Cu:List Value:=[.type "ValueError",.type "Exception",.type "BaseException",.type "object"]
noncomputable def qQ:List Value->Bool
 |.ref _::r=>qQ r
 |l=>l==Cu
noncomputable def qR(K:Frag)(C fI:Addr):Bool:=match K.lookup C with
 |some ⟨.type "type",_,.cls cd,sl⟩=>(match cd.mro,sl.toList with
  |.ref C'::bm,[_,_,_,_,some (.builtin n),_]=>C'==C&&n=="ValueError.__new__" && !cd.hasDel&&tailIn K Cu bm&&nsOkIn K cd.ns&&nsIn K cd.ns "__init__"==some (some (.ref fI))
  |_,_=>false)
 |_=>false
noncomputable def aP(s:Stmt):Arguments:=match s with
 |.FunctionDef _ a _ _ _ _ _ _ _ _=>a
 |_=>{posonlyargs:=[],args:=[],vararg:=none,kwonlyargs:=[],kw_defaults:=[],kwarg:=none,defaults:=[]}
noncomputable def aK(s:Stmt):List Stmt:=match s with
 |.FunctionDef _ _ b _ _ _ _ _ _ _=>b
 |_=>[]
noncomputable def au(s:Stmt):Scope:=match s with
 |.FunctionDef _ _ _ _ _ _ sc _ _ _=>sc
 |_=>{kind:=.function,names:=[],isGenerator:=false,isCoroutine:=false}
end L2
namespace Mi
open PySem PySem.Spec PyProof.Rows L2 PySem.W
noncomputable def Iu(n c:Nat):Nat:=if c<n then c else 0
noncomputable def Cv(n c e:Nat):Bool:=Iu n e==0||Iu n c==Iu n e
noncomputable def gZ(L:List Addr)(c:Nat):Addr:=L.getD (Iu L.length c) 0
noncomputable def xcB(K:W.Frag)(C:Addr):Bool:=
 PySem.W.findIn K (.ref C) "__getattribute__"==some (some (.builtin "BaseException.__getattribute__"))&&PySem.W.findIn K (.ref C) "__getattr__"==some none&&PySem.W.findIn K (.ref C) "__class__"==some (some (.builtin "object.__class__")) &&
 PySem.W.mroIn K C (.type "BaseException")==some true&&PySem.W.mroIn K C (.type "object")==some true&&(PySem.W.clsIn K C).isSome &&
 PySem.W.specialIn K (.builtin "object.__class__") "__get__"==some (some (.builtin "getset_descriptor.__get__"))&&PySem.W.takesIn K (.builtin "object.__class__")==some true
noncomputable def vX(K:W.Frag)(L:List Addr):Bool:=(List.range L.length).all λc=>xcB K (L.getD c 0)&&PySem.W.kitOne K (.ref (L.getD c 0)) (.type "ValueError")==some true &&
 (List.range L.length).all λe=>PySem.W.kitOne K (.ref (L.getD c 0)) (.ref (L.getD e 0))==some (Cv L.length c e)
noncomputable def subB(K:W.Frag)(L:List Addr)(d:Nat):Bool:=(List.range L.length).all λc=>!(Cv L.length c d)||L2.subIn K (L.getD c 0) (gZ L d)
noncomputable def lR(fd:FuncData):FuncData:={fd with kwdefaults:=.none,doc:=.none,pyModule:=.none,annotations:=none,code:=.none,closureTuple:=.none}
noncomputable def tL(x:Str)(st:Stmt):FuncData:=fnOf x x (aP st) (aK st) (au st) .none .none .none .none none .none .none
noncomputable def xT(K:Frag)(x:Str):Option (Addr×FuncData):=match nsIn K mainGlobals x with
 |some (some (.ref f))=>(match K.lookup f with
  |some ⟨_,_,.func fd,_⟩=>(match codeIn K fd.code x&&keepIn K (.ref f) with
   |true=>some (f,fd)
   |false=>none)
  |_=>none)
 |_=>none
noncomputable def dz(K:Frag)(x:Str):Addr:=match nsIn K mainGlobals x with
 |some (some (.ref C))=>C
 |_=>0
noncomputable def qT(K:Frag)(x:Str):Bool:=match nsIn K mainGlobals x with
 |some (some (.ref _))=>true
 |_=>false
noncomputable def kh(K:Frag)(p:Str×Int):Bool:=match nsIn K mainGlobals p.1 with
 |some (some (.int i _))=>decide (i=p.2)
 |_=>false
noncomputable def oE(K:Frag)(x:Str):Bool:=match nsIn K mainGlobals x with
 |some none=>true
 |_=>false
noncomputable def Cw(K:Frag)(C:Addr):Bool:=excIn K C [.type "ValueError",.type "Exception",.type "BaseException",.type "object"] "ValueError.__new__"
structure Lk where
 Cy:List Str
 vY:List (Str×Int)
 TF:List Str
 TJ:List Nat
 TQ:List Nat
noncomputable def Lk.L(l:Lk)(K:Frag):List Addr:=l.Cy.map (dz K)
noncomputable def Lk.good(l:Lk)(K:Frag):Bool:=
 l.Cy.all (qT K)&&(l.Cy.isEmpty||vX K (l.L K))&&l.TJ.all (λk=>Cw K (gZ (l.L K) k))&&l.TQ.all (λk=>subB K (l.L K) k)&&l.vY.all (kh K)&&l.TF.all (oE K)
noncomputable def oF(h:Heap):List Addr->Frag
 |[]=>[]
 |a::r=>match h.get? a with
  |some o=>(a,o)::oF h r
  |none=>oF h r
noncomputable def dN(s:Stmt):List Stmt:=match s with
 |.ClassDef _ _ _ b _ _ _ _ _ _ _=>b
 |_=>[]
noncomputable def xU(q:Str)(st:Stmt):FuncData:=fnOf "__init__" q (aP st) (aK st) (au st) .none .none .none .none none .none .none
noncomputable def Cz(K:Frag)(C:Addr):Option FuncData:=match clsIn K C with
 |some cd=>(match nsIn K cd.ns "__init__" with
  |some (some (.ref f))=>(match K.lookup f with
   |some ⟨.type "function",_,.func fd,_⟩=>(match codeIn K fd.code fd.qualname&&qR K C f&&qQ cd.mro&&cd.hasDict with
    |true=>some fd
    |false=>none)
   |_=>none)
  |_=>none)
 |none=>none
noncomputable def setB(K:Frag)(C:Addr)(fs:List Str):Bool:=findIn K (.ref C) "__setattr__"==some (some (.builtin "object.__setattr__"))&&fs.all (λf=>findIn K (.ref C) f==some none)
noncomputable def Iv(K:Frag)(C:Addr)(f:Str):Bool:=findIn K (.ref C) "__getattribute__"==some (some (.builtin "BaseException.__getattribute__"))&&findIn K (.ref C) "__getattr__"==some none&&mroIn K C (.type "BaseException")==some true&&findIn K (.ref C) f==some none&&hasDictIn K C
structure qU where
 c:Nat
 q:Str
 st:Stmt
 fs:List Str
noncomputable def CG:Nat->List Obj->Frag
 |_,[]=>[]
 |i,o::r=>match o.isFreed with
  |true=>CG (i+1) r
  |false=>(i,o)::CG (i+1) r
noncomputable def bK(h:Heap):Frag:=oF h [mainGlobals]++(CG 0 h.objs.toList).reverse
noncomputable def kj(fs:List (Str×Stmt))(ms:List qU)(xs:List (Nat×Str))(l:Lk)(s:Shared):List (Option FuncData)×List (Option FuncData)×Bool:=
 (fs.map (λp=>(xT (bK s.heap) p.1).map (λq=>lR q.2)),ms.map (λm=>(Cz (bK s.heap) (gZ (l.L (bK s.heap)) m.c)).map lR),
  l.good (bK s.heap)&&ms.all (λm=>setB (bK s.heap) (gZ (l.L (bK s.heap)) m.c) m.fs)&&xs.all (λx=>Iv (bK s.heap) (gZ (l.L (bK s.heap)) x.1) x.2))
noncomputable def lU(fs:List (Str×Stmt))(ms:List qU)(w:World):List (Option FuncData)×List (Option FuncData)×Bool:=(fs.map (λp=>some (tL p.1 p.2)),ms.map (λm=>some (xU m.q m.st)),true)
noncomputable def Iw(fs:List (Str×Stmt))(s:Shared):List (Option FuncData):=fs.map (λp=>(xT (bK s.heap) p.1).map (λq=>lR q.2))
noncomputable def TV(ms:List qU)(xs:List (Nat×Str))(l:Lk)(s:Shared):List (Option FuncData)×Bool:=(ms.map (λm=>(Cz (bK s.heap) (gZ (l.L (bK s.heap)) m.c)).map lR),
  l.good (bK s.heap)&&ms.all (λm=>setB (bK s.heap) (gZ (l.L (bK s.heap)) m.c) m.fs)&&xs.all (λx=>Iv (bK s.heap) (gZ (l.L (bK s.heap)) x.1) x.2))
theorem zeP{p q:Program}{loose:List Str}{Xt:Shared->Bool}{N:Nat}{fs1 pL:List (Str×Stmt)}{ms:List qU}{xs:List (Nat×Str)}{l:Lk}
  (a:∀w,(openEnds treeTable p w N).map (λs=>openSeen q loose (importedModules p.main.body) Xt true s)=some (openGood q loose))
  (b1:∀w,(openEnds treeTable p w N).map (Iw fs1)=some (fs1.map λp=>some (tL p.1 p.2)))
  (b2:∀w,(openEnds treeTable p w N).map (Iw pL)=some (pL.map λp=>some (tL p.1 p.2)))
  (c:∀w,(openEnds treeTable p w N).map (TV ms xs l)=some (ms.map (λm=>some (xU m.q m.st)),true)):LeftO p q loose Xt (kj (fs1++pL) ms xs l) (lU (fs1++pL) ms) N:=by
 intro w;have a:=a w;have b1:=b1 w;have b2:=b2 w;have c:=c w;cases e:openEnds treeTable p w N with
 |none=>rw[e] at a;cases a
 |some s=>
  rw[e] at a b1 b2 c;have a:openSeen q loose (importedModules p.main.body) Xt true s=openGood q loose:=cj a;have b1:=cj b1;have b2:=cj b2;have c:=cj c;have c1:=lQ Prod.fst c;have c2:=lQ Prod.snd c;show some (_,kj (fs1++pL) ms xs l s)=_;rw[a];have:kj (fs1++pL) ms xs l s=lU (fs1++pL) ms w:=by
   unfold kj lU;rw[xK,xK];have b1:List.map _ fs1=List.map _ fs1:=b1;have b2:List.map _ pL=List.map _ pL:=b2;rw[b1,b2];exact Prod.ext rfl (Prod.ext c1 c2)
  rw[this]
structure Bd where
 n:Str
 fs:List Str
 ms:List (Str×Str×Stmt)
noncomputable def jN(K:Frag)(C:Addr)(m:Str):Option (Addr×FuncData):=match findIn K (.ref C) m with
 |some (some (.ref f))=>(match K.lookup f with
  |some ⟨_,_,.func fd,_⟩=>(match codeIn K fd.code fd.qualname&&keepIn K (.ref f)&&isFn K (.ref f) with
   |true=>some (f,fd)
   |false=>none)
  |_=>none)
 |_=>none
noncomputable def Ah(m q:Str)(st:Stmt):FuncData:=fnOf m q (aP st) (aK st) (au st) .none .none .none .none none .none .none
noncomputable def vZ(K:Frag)(b:Bd):Bool:=qT K b.n&&plainGet K (dz K b.n) Str.empty&&hasDictIn K (dz K b.n)&&plainOver K (dz K b.n)&&findIn K (.ref (dz K b.n)) "__setattr__"==some (some (.builtin "object.__setattr__"))&&makesIn K (dz K b.n)&&keepIn K (.ref (dz K b.n))&&b.fs.all (λf=>findIn K (.ref (dz K b.n)) f==some none)
noncomputable def xV(b:Bd)(s:Shared):List (Option FuncData)×Bool:=(b.ms.map λp=>(jN (bK s.heap) (dz (bK s.heap) b.n) p.1).map λq=>lR q.2,vZ (bK s.heap) b)
noncomputable def xW(b:Bd):List (Option FuncData)×Bool:=(b.ms.map λp=>some (Ah p.1 p.2.1 p.2.2),true)
theorem zi7{p q:Program}{loose:List Str}{Xt:Shared->Bool}{N:Nat}{fs:List (Str×Stmt)}{ms:List qU}{xs:List (Nat×Str)}{l:Lk}{b:Bd}(h:LeftO p q loose Xt (kj fs ms xs l) (lU fs ms) N)(e:∀w,(openEnds treeTable p w N).map (xV b)=some (xW b)) :
  LeftO p q loose Xt (λs=>(kj fs ms xs l s,xV b s)) (λw=>(lU fs ms w,xW b)) N:=by
 intro w;have h:=h w;have e:=e w;cases z:openEnds treeTable p w N with
 |none=>rw[z] at e;cases e
 |some s=>
  rw[z] at h e;have e:xV b s=xW b:=cj e;have h:=cj h;have h1:=lQ Prod.fst h;have h2:=lQ Prod.snd h;show some (_,_,_)=some (_,_,_);rw[e];exact lQ some (Prod.ext h1 (Prod.ext h2 rfl))
end Mi
namespace dM
open PySem PySem.Spec PyProof.Rows PySem.W L2 Mi
noncomputable def top(i:Nat):Stmt:=PySem.Challenge.pw_ringhues_k07_whole_hues_and_clashes.main.body.getD i (.Pass ⟨0,0,0,0⟩)
noncomputable def Ai:Stmt:=(dN (top 37)).getD 0 (.Pass ⟨0,0,0,0⟩)
noncomputable def CJ:Stmt:=(dN (top 37)).getD 1 (.Pass ⟨0,0,0,0⟩)
noncomputable def Aj:Stmt:=(dN (top 37)).getD 2 (.Pass ⟨0,0,0,0⟩)
noncomputable def Ak:Stmt:=(dN (top 37)).getD 3 (.Pass ⟨0,0,0,0⟩)
noncomputable def Al:Stmt:=(dN (top 37)).getD 4 (.Pass ⟨0,0,0,0⟩)
noncomputable def CK:Stmt:=(dN (top 37)).getD 5 (.Pass ⟨0,0,0,0⟩)
noncomputable def Am:Stmt:=(dN (top 37)).getD 6 (.Pass ⟨0,0,0,0⟩)
noncomputable def bd:Bd:=⟨"Board",["ends","spots","apart","alike"],[("__init__","Board.__init__",Ai),("far_apart","Board.far_apart",CJ),("settled","Board.settled",Aj),("ties_left","Board.ties_left",Ak),("bound","Board.bound",Al),("narrowest","Board.narrowest",CK),("all_free","Board.all_free",Am)]⟩
noncomputable def fs1:List (Str×Stmt):=(("is_whole" : Str),top 6)::(("is_within" : Str),top 7)::(("is_row" : Str),top 8)::(("is_ring" : Str),top 11)::(("steps_apart" : Str),top 12)::(("is_spot" : Str),top 13)::(("check_ring" : Str),top 14)::(("check_spot" : Str),top 15)::(("gap_of" : Str),top 16)::(("is_web" : Str),top 19)::(("is_many" : Str),top 20)::(("is_place" : Str),top 21)::(("is_tie" : Str),top 22)::(("check_web" : Str),top 23)::(("tied_to" : Str),top 24)::(("all_ends" : Str),top 25)::(("hues_hold" : Str),top 27)::(("turned_on" : Str),top 28)::(("mirrored_hues" : Str),top 29)::(("first_clash" : Str),top 30)::[]
noncomputable def pL:List (Str×Stmt):=(("mirrored" : Str),top 31)::(("are_spots" : Str),top 32)::(("are_hues" : Str),top 33)::(("check_hues" : Str),top 34)::(("clash_of" : Str),top 35)::(("ring_board" : Str),top 38)::(("first_hues" : Str),top 40)::(("first_among" : Str),top 41)::(("first_spot" : Str),top 42)::(("can_settle" : Str),top 43)::(("search" : Str),top 44)::(("_law_cell" : Str),top 46)::(("_law_pen" : Str),top 47)::(("_law_draw" : Str),top 48)::(("_law_size" : Str),top 49)::(("_law_web" : Str),top 50)::(("_law_ring" : Str),top 51)::(("_law_hues_right" : Str),top 52)::(("_law_steps_right" : Str),top 53)::(("law" : Str),top 54)::[]
noncomputable abbrev fs:List (Str×Stmt):=fs1++pL
noncomputable def lk:Lk:=⟨[],[("MOST_SPOTS",24),("MOST_PLACES",8)],["abs","all","bool","divmod","enumerate","int","isinstance","len","list","max","min","range","sorted","tuple","zip"],[],[]⟩
noncomputable def ms:List qU:=[]
noncomputable def xs:List (Nat×Str):=[]
noncomputable abbrev pv:Program:=PySem.Challenge.pw_ringhues_k07_whole_hues_and_clashes
noncomputable def qv:Program:={pv with main:={pv.main with body:=[pv.main.body.getD 54 (.Pass ⟨0,0,0,0⟩)]}}
noncomputable def loose:List Str:=(["HueError","NoRing","NoHues","NoWeb","is_whole","is_within","is_row","MOST_SPOTS","is_ring","steps_apart","is_spot","check_ring","check_spot","gap_of","MOST_PLACES","is_web","is_many","is_place","is_tie","check_web","tied_to","all_ends","hues_hold","turned_on","mirrored_hues","first_clash","mirrored","are_spots","are_hues","check_hues","clash_of","Board","ring_board","first_hues","first_among","first_spot","can_settle","search","_law_cell","_law_pen","_law_draw","_law_size","_law_web","_law_ring","_law_hues_right","_law_steps_right"]:List String).map Str.ofString
theorem zlL(w:World):(openEnds treeTable pv w 20000).map (λs=>openSeen qv loose (importedModules pv.main.body) (λs=>xlAt qv [] s&&recOk [] s) true s)=some (openGood qv loose):=by
 kernel_rfl
theorem zlF(w:World):(openEnds treeTable pv w 20000).map (Iw fs1)=some (fs1.map λp=>some (tL p.1 p.2)):=by
 kernel_rfl
theorem zlr(w:World):(openEnds treeTable pv w 20000).map (Iw pL)=some (pL.map λp=>some (tL p.1 p.2)):=by
 kernel_rfl
theorem zk4(w:World):(openEnds treeTable pv w 20000).map (TV ms xs lk)=some (ms.map (λm=>some (xU m.q m.st)),true):=by
 kernel_rfl
theorem ws:PySem.Challenge.rw_ringhues_k07_whole_hues_and_clashes.wellSaid=true:=by
 kernel_rfl
theorem zlf(w:World):(openEnds treeTable pv w 20000).map (xV bd)=some (xW bd):=by
 kernel_rfl
theorem left:LeftO pv qv loose (λs=>xlAt qv [] s&&recOk [] s) (λs=>(kj fs ms xs lk s,xV bd s)) (λw=>(lU fs ms w,xW bd)) 20000:=zi7 (zeP zlL zlF zlr zk4) zlf
end dM
namespace L2
open PySem PySem.Spec PyProof.Rows
theorem dY{α:Sort u}{β:Sort v}{A B C:α->β->Prop}{P:Prop}(h:∃x y,A x y/\B x y/\C x y)(k:∀x y,A x y->B x y->C x y->P):P:=by
 obtain⟨x,y,a,b,c⟩:=h;exact k x y a b c
theorem Ly{α:Sort u}{β:Sort v}{γ:Sort w}{A B:α->β->Prop}{C D:α->β->γ->Prop}{P:Prop}(h:∃x y,A x y/\B x y/\∃z,C x y z/\D x y z)(k:∀x y,A x y->B x y->∀z,C x y z->D x y z->P):P:=by
 obtain⟨x,y,a,b,z,c,d⟩:=h;exact k x y a b z c d
theorem ux{α:Sort u}{A B:α->Prop}{P:Prop}(h:∃x,A x/\B x)(k:∀x,A x->B x->P):P:=by
 obtain⟨x,a,b⟩:=h;exact k x a b
noncomputable abbrev Key:=Sum Int Str
noncomputable def v7:Key->Value->Bool
 |.inl k,v=>Value.isInt k v
 |.inr x,v=>Value.isStrOf x v
noncomputable def Lz(w:World):Key->Int
 |.inl k=>hashInt k
 |.inr x=>hashStr w x
theorem uy:∀{k:Key} {v:Value},v7 k v=true->(∃i t,k=Sum.inl i/\v=Value.int i t)\/(∃x t,k=Sum.inr x/\v=Value.str x t)
 |.inl i,v,h=>by
  obtain⟨t,e⟩:=Value.isInt_shape (k:=i) (v:=v) h;exact .inl ⟨i,t,rfl,e⟩
 |.inr x,v,h=>by
  obtain⟨t,e⟩:=Value.isStrOf_shape (x:=x) (v:=v) h;exact .inr ⟨x,t,rfl,e⟩
theorem zkk(a b:Int):decide ((Sum.inl a:Key)=Sum.inl b)=(a==b):=by
 by_cases e:a=b
 ·subst e;simp
 ·have h:¬(Sum.inl a:Key)=Sum.inl b:=λq=>e (Sum.inl.inj q);rw[pJ h];exact(vM.mpr e).symm
theorem zkZ(a b:Str):decide ((Sum.inr a:Key)=Sum.inr b)=decide (a=b):=by
 by_cases e:a=b
 ·subst e;simp
 ·have h:¬(Sum.inr a:Key)=Sum.inr b:=λq=>e (Sum.inr.inj q);rw[pJ h,pJ e]
theorem zlC(a:Int)(b:Str):decide ((Sum.inl a:Key)=Sum.inr b)=false:=pJ (λq=>nomatch q)
theorem zlj(a:Str)(b:Int):decide ((Sum.inr a:Key)=Sum.inl b)=false:=pJ (λq=>nomatch q)
noncomputable def kE(prog:Program)(w:World):PySem.KeyKind prog w Key where
 is:=v7
 hash:=Lz w
 inj:=λv a b ha hb=>by
  rcases uy ha with ⟨i,t,rfl,rfl⟩|⟨x,t,rfl,rfl⟩
  ·rcases uy hb with ⟨j,u,rfl,e⟩|⟨y,u,rfl,e⟩
   ·injection e with e1 _;rw[e1]
   ·exact nomatch e
  ·rcases uy hb with ⟨j,u,rfl,e⟩|⟨y,u,rfl,e⟩
   ·exact nomatch e
   ·injection e with e1 _;rw[e1]
 byValue:=λk v h=>by
  rcases uy h with ⟨i,t,rfl,rfl⟩|⟨x,t,rfl,rfl⟩<;>rfl
 pyHash:=λhv h=>by
  rcases uy hv with ⟨i,t,rfl,rfl⟩|⟨x,t,rfl,rfl⟩
  ·exact wpAny_pyHash_int h
  ·exact wpAny_pyHash_str h
 eqBool:=λhu hv h=>by
  rcases uy hu with ⟨i,t,rfl,rfl⟩|⟨x,t,rfl,rfl⟩
  ·rcases uy hv with ⟨j,u,rfl,rfl⟩|⟨y,u,rfl,rfl⟩
   ·rw[zkk] at h;exact wpAny_eqBool_int h
   ·rw[zlC] at h;exact SeqAt.EqAt.int_str i t y u _ _ _ _ h
  ·rcases uy hv with ⟨j,u,rfl,rfl⟩|⟨y,u,rfl,rfl⟩
   ·rw[zlj] at h;exact SeqAt.EqAt.str_int x t j u _ _ _ _ h
   ·rw[zkZ] at h;exact wpAny_eqBool_str h
 «strs»:=λk x t v h=>by
  rcases uy h with ⟨i,u,rfl,e⟩|⟨y,u,rfl,e⟩
  ·exact nomatch e
  ·injection e with e1 _;subst e1;cases v<;>rfl
inductive V where
 |non|bl (b:Bool)|int (i:Int)|str (x:Str)|xX (b:Array UInt8)|flt (b:UInt64)|ref (a:Addr)|ty (n:String)
 deriving DecidableEq
noncomputable def RelV:V->Value->Prop
 |.non,u=>u=Value.none
 |.bl b,u=>u=Value.bool b
 |.int i,u=>∃t,u=Value.int i t
 |.str x,u=>∃t,u=Value.str x t
 |.xX b,u=>∃t,u=Value.bytes b t
 |.flt b,u=>∃t,u=Value.float b t
 |.ref a,u=>u=Value.ref a
 |.ty n,u=>u=Value.type n
noncomputable abbrev Vals:List V->List Value->Prop:=Paired RelV
theorem Vals.length{xs:List V}{us:List Value}(r:Vals xs us):xs.length=us.length:=Paired.length r
theorem Vals.get:∀{xs:List V} {us:List Value} {i:Nat} {x:V},Vals xs us->xs[i]?=some x->∃u,us[i]?=some u/\RelV x u
 |_,_,_,_,.nil,e=>by simp at e
 |_,_,0,_,.cons r _,e=>by simp at e;subst e;exact⟨_,rfl,r⟩
 |_,_,i+1,x,.cons _ t,e=>by
  obtain⟨u,h1,h2⟩:=Vals.get (i:=i) (x:=x) t (by simpa using e);exact⟨u,by simpa using h1,h2⟩
theorem Vals.set{x:V}{u:Value}(r:RelV x u):∀{xs:List V} {us:List Value} (i:Nat),Vals xs us->Vals (xs.set i x) (us.set i u)
 |_,_,_,.nil=>.nil
 |_,_,0,.cons _ t=>.cons r t
 |_,_,i+1,.cons q t=>.cons q (Vals.set r i t)
theorem Vals.append{xs ys:List V}{us ws:List Value}(h:Vals xs us)(s:Vals ys ws):Vals (xs++ys) (us++ws):=by
 induction h with
 |nil=>exact s
 |cons r _ ih=>exact .cons r ih
theorem Vals.take:∀{xs:List V} {us:List Value} (n:Nat),Vals xs us->Vals (xs.take n) (us.take n)
 |_,_,0,_=>.nil
 |_,_,_+1,.nil=>.nil
 |_,_,n+1,.cons r t=>.cons r (Vals.take n t)
theorem Vals.drop:∀{xs:List V} {us:List Value} (n:Nat),Vals xs us->Vals (xs.drop n) (us.drop n)
 |_,_,0,r=>r
 |_,_,_+1,.nil=>.nil
 |_,_,n+1,.cons _ t=>Vals.drop n t
noncomputable def pN:Option V->Option Value->Prop
 |some v,some u=>RelV v u
 |none,none=>True
 |_,_=>False
noncomputable def KV{κ:Type}:List (κ×V)->List (κ×Value)->Prop:=Paired λ(p:κ×V) (q:κ×Value)=>p.1=q.1/\RelV p.2 q.2
noncomputable def kV:Key->V
 |.inl i=>.int i
 |.inr x=>.str x
inductive HO where
 |lst (xs:List V)
 |tup (xs:List V)
 |dK (kvs:List (Key×V))|dT (kvs:List (List Key×V))
 |set (S:Int->Bool) (n:Nat)
 |ins (C dx:Addr) (fs:List (Str×V))
 |own (x:Addr)
 |xd (fs:List (Str×V))
 |met (f x:Addr)
 |rng (lo hi:Int)
 |tM (o:Obj) (u:HO)
 |xY (ps:Array Value)
 |ext (U:Heap->Prop)
noncomputable abbrev Hp:=Addr->Option HO
noncomputable def upd(H:Hp)(a:Addr)(o:HO):Hp:=λb=>if b=a then some o else H b
theorem jy{H:Hp}{a:Addr}{o:HO}:upd H a o a=some o:=by unfold upd;rw[if_pos rfl]
theorem dO{H:Hp}{a b:Addr}{o:HO}(h:b≠a):upd H a o b=H b:=by unfold upd;rw[if_neg h]
theorem ziQ{H:Hp}{a:Addr}{o u:HO}:upd (upd H a o) a u=upd H a u:=by
 funext b;unfold upd;split<;>rfl
theorem Ao{H:Hp}{a b:Addr}{o:HO}(h:H a=some o)(h':H b=none):a≠b:=by
 intro e;subst e;rw[h] at h';cases h'
section
variable (P:Program)(w:World)
noncomputable def bH(H:Hp)(h:Heap)(a:Addr):HO->Prop
 |.lst xs=>xs.length<=sizeLine/\∃(its:List Value) (n:Nat),Vals xs its/\h.get? a=some {cls:=.type "list",data:=.seq its.toArray n}
 |.tup xs=>xs.length<=sizeLine/\∃its:List Value,Vals xs its/\IsTup h a its.toArray
 |.dK kvs=>kvs.length<=sizeLine/\(a==sysModules)=false/\∃vs,KV kvs vs/\h.DictOf (kE P w) a vs
 |.dT kvs=>kvs.length<=sizeLine/\(a==sysModules)=false/\∃xs:List (List Key×Addr×Value),
   Paired (λ(p:List Key×V) (q:List Key×Addr×Value)=>p.1=q.1/\H q.2.1=some (.tup (p.1.map kV))/\RelV p.2 q.2.2) kvs xs /\
   ∃o es ep,h.get? a=some o/\o.ExactDict/\o.data=.dict es ep/\es.toList=xs.map (entryOfKey (tupleKind (kE P w)))/\(xs.map (·.1)).Nodup
 |.set S n=>h.SetOf (intKind P w) a S n
 |.ins C dx fs=>H dx=some (.own a)/\fs.length<=1000/\dx≠a/\h.get? a=some (PySem.W.instObj C dx) /\
   ∃mA,h.Ns1 dx mA/\(∀f,pN (fs.lookup f) (mA f))/\PySem.Within mA (fs.map (·.1))
 |.own _=>∃o,h.get? a=some o
 |.xd fs=>∃mA,h.Ns1 a mA/\∀f,pN (fs.lookup f) (mA f)
 |.rng lo hi=>∃t u v,h.get? a=some {cls:=.type "range",data:=.fields #[.int lo t,.int hi u,.int 1 v]}
 |.tM o u=>h.get? a=some o/\bH H h a u
 |.xY ps=>h.get? a=some {cls:=.none,data:=.fields ps}
 |.met f x=>h.get? a=some (PySem.W.methodObj (.ref f) (.ref x))
 |.ext U=>U h/\(∃o,h.get? a=some o)/\∀h1 h2:Heap,U h1->(∀o,h1.get? a=some o->h2.get? a=some o)->U h2
def gW(H:Hp)(h:Heap):Prop:=∀a o,H a=some o->bH P w H h a o
end
section
variable {P:Program}{w:World}{H H':Hp}{h h':Heap}{a:Addr}{o:HO}
theorem bH.lt(x:bH P w H h a o):a<h.objs.size:=by
 cases o with
 |lst xs=>obtain⟨_,_,_,_,e⟩:=x;exact bQ e
 |tup xs=>obtain⟨_,_,_,p⟩:=x;exact p.lt
 |dK kvs=>obtain⟨_,_,_,_,o,_,_,e,_⟩:=x;exact bQ e
 |dT kvs=>obtain⟨_,_,_,_,o,_,_,e,_⟩:=x;exact bQ e
 |set S n=>obtain⟨o,_,_,_,e,_⟩:=x;exact bQ e
 |ins C dx fs=>obtain⟨_,_,_,e,_⟩:=x;exact bQ e
 |own y=>obtain⟨_,e⟩:=x;exact bQ e
 |xd fs=>obtain⟨_,⟨_,_,_,e,_⟩,_⟩:=x;exact bQ e
 |rng lo hi=>obtain⟨_,_,_,e⟩:=x;exact bQ e
 |tM ob u=>obtain⟨e,_⟩:=x;exact bQ e
 |xY ps=>exact bQ (show h.get? a=some _ from x)
 |met f y=>exact bQ (show h.get? a=some _ from x)
 |ext U=>obtain⟨_,⟨_,e⟩,_⟩:=x;exact bQ e
theorem TX{α β:Type}{F G:α->β->Prop}:∀{l₁:List α} {l₂:List β},Paired F l₁ l₂->(∀a b,F a b->G a b)->Paired G l₁ l₂
 |_,_,.nil,_=>.nil
 |_,_,.cons r t,f=>.cons (f _ _ r) (TX t f)
theorem bH.stay(x:bH P w H h a o)(k:∀b u,(b=a\/H b=some (.own a))->h.get? b=some u->h'.get? b=some u)
  (ho:∀b,H b=some (.own a)->H' b=some (.own a)) (ht:∀b xs,H b=some (.tup xs)->H' b=some (.tup xs)):bH P w H' h' a o:=by
 induction o with
 |lst xs=>obtain⟨z,its,n,r,e⟩:=x;exact⟨z,its,n,r,k _ _ (.inl rfl) e⟩
 |tup xs=>obtain⟨z,its,r,ob,e,c⟩:=x;exact⟨z,its,r,ob,k _ _ (.inl rfl) e,c⟩
 |dK kvs=>obtain⟨z,y,vs,r,ob,es,ep,e,c⟩:=x;exact⟨z,y,vs,r,ob,es,ep,k _ _ (.inl rfl) e,c⟩
 |dT kvs=>
  obtain⟨z,y,xs,r,ob,es,ep,e,c⟩:=x;exact⟨z,y,xs,TX r λp q z=>⟨z.1,ht _ _ z.2.1,z.2.2⟩,ob,es,ep,k _ _ (.inl rfl) e,c⟩
 |set S n=>obtain⟨ob,es,ep,t,e,c⟩:=x;exact⟨ob,es,ep,t,k _ _ (.inl rfl) e,c⟩
 |ins C dx fs=>
  obtain⟨d,z,ne,e,mA,⟨od,es,ep,e2,c⟩,r⟩:=x;exact⟨ho _ d,z,ne,k _ _ (.inl rfl) e,mA,⟨od,es,ep,k _ _ (.inr d) e2,c⟩,r⟩
 |own y=>obtain⟨ob,e⟩:=x;exact⟨ob,k _ _ (.inl rfl) e⟩
 |xd fs=>obtain⟨mA,⟨od,es,ep,e,c⟩,r⟩:=x;exact⟨mA,⟨od,es,ep,k _ _ (.inl rfl) e,c⟩,r⟩
 |rng lo hi=>obtain⟨t,u,v,e⟩:=x;exact⟨t,u,v,k _ _ (.inl rfl) e⟩
 |tM ob u ih=>obtain⟨e,q⟩:=x;exact⟨k _ _ (.inl rfl) e,ih q⟩
 |xY ps=>
  have e:h.get? a=some {cls:=.none,data:=.fields ps}:=x;show h'.get? a=some {cls:=.none,data:=.fields ps};exact k a _ (.inl rfl) e
 |met f y=>
  have e:h.get? a=some (PySem.W.methodObj (.ref f) (.ref y)):=x;show h'.get? a=some (PySem.W.methodObj (.ref f) (.ref y));exact k a _ (.inl rfl) e
 |ext U=>obtain⟨p,⟨o,e⟩,st⟩:=x;exact⟨st _ _ p λo q=>k _ _ (.inl rfl) q,⟨o,k _ _ (.inl rfl) e⟩,st⟩
theorem gW.lt(x:gW P w H h)(e:H a=some o):a<h.objs.size:=(x a o e).lt
theorem gW.fresh(x:gW P w H h)(e:h.objs.size<=a):H a=none:=by
 cases q:H a with
 |none=>rfl
 |some u=>exact absurd (gR (x.lt q) e) (oA _)
theorem gW.kept(x:gW P w H h)(k:∀b u,h.get? b=some u->h'.get? b=some u):gW P w H h':=λa o e=>
 (x a o e).stay (λb u _ q=>k b u q) (λ_ q=>q) λ_ _ q=>q
theorem gW.laid(x:gW P w H h)(k:∀b u,h.get? b=some u->h'.get? b=some u)(hp:h.objs.size<=a)(new:bH P w (upd H a o) h' a o):gW P w (upd H a o) h':=λb u e=>by
 have hn:=x.fresh hp;by_cases hb:b=a
 ·subst hb;rw[jy] at e;cases e;exact new
 ·rw[dO hb] at e;exact(x b u e).stay (λc v _ q=>k c v q) (λc q=>by rw[dO (Ao q hn)];exact q) λc xs q=>by rw[dO (Ao q hn)];exact q
end
def Rd(H:Hp)(a:Addr)(u:HO):Prop:=H a=some u\/∃o,H a=some (.tM o u)
theorem Rd.ok{P:Program}{w:World}{H:Hp}{h:Heap}{a:Addr}{u:HO}(r:Rd H a u)(x:gW P w H h):bH P w H h a u:=by
 rcases r with r|⟨o,r⟩
 ·exact x a u r
 ·obtain⟨_,q⟩:=x a _ r;exact q
noncomputable def CP:Option HO->Prop
 |some (.lst _)=>True
 |some (.dK _)=>True
 |some (.dT _)=>True
 |some (.set _ _)=>True
 |some (.ins _ _ _)=>True
 |some (.ext _)=>True
 |_=>False
section
variable {P:Program}{w:World}{H:Hp}{h h':Heap}{x e:Addr}{o':HO}
theorem gW.write(ok:gW P w H h)(mu:CP (H x))(he:e=x\/H e=some (.own x))(k:∀b u,b≠e->h.get? b=some u->h'.get? b=some u)(Aq:∃u,h'.get? e=some u)
  (new:bH P w (upd H x o') h' x o'):gW P w (upd H x o') h':=λb u q=>by
 have CQ:∀c y,H c=some (.own y)->c≠x:=λc y r z=>by subst z;rw[r] at mu;exact mu
 have LC:∀c xs,H c=some (.tup xs)->c≠x:=λc xs r z=>by subst z;rw[r] at mu;exact mu
 by_cases hb:b=x
 ·subst hb;rw[jy] at q;cases q;exact new
 ·rw[dO hb] at q;by_cases xZ:b=e
  ·have q':H b=some (.own x):=by
    rcases he with z|z
    ·exact absurd (xZ.trans z) hb
    ·rw[xZ];exact z
   rw[q] at q';cases q';obtain⟨v,hv⟩:=Aq;exact⟨v,by rw[xZ];exact hv⟩
  ·refine(ok b u q).stay (λc v hc r=>k c v ?_ r) (λc r=>by rw[dO (CQ c b r)];exact r) λc xs r=>by rw[dO (LC c xs r)];exact r
   rcases hc with rfl|hc
   ·exact xZ
   ·rintro rfl;rcases he with z|z
    ·exact CQ c b hc z
    ·rw[hc] at z;cases z;exact hb rfl
end
structure Un(fs ex:List Addr)(H H':Hp)(h h':Heap):Prop where
 keep:∀b o,h.get? b=some o->H b=none->b∉fs->b∉ex->h'.get? b=some o
 slot:∀b o,h.get? b=some o->H b=none->b∈fs->b∉ex->∃sl,h'.get? b=some {o with slots:=sl}
 free:∀b o,h.get? b=some o->H b=none->b∉ex->H' b=none
 there:∀b o,h.get? b=some o->b∉ex->∃o',h'.get? b=some o'
 tups:∀b xs,H b=some (.tup xs)->H' b=some (.tup xs)
 jD:∀b o u,H b=some (.tM o u)->H' b=some (.tM o u)
 kI:∀b ps,H b=some (.xY ps)->∃more,H' b=some (.xY (ps++more))
section
variable {fs fs' ex ex':List Addr}{H H1 H2:Hp}{h h1 h2 h':Heap}{a x e:Addr}{o:HO}
theorem Un.any(u:Un fs ex H H1 h h1){b:Addr}{ob:Obj}(q:h.get? b=some ob)(n:H b=none)(hx:b∉ex):∃sl,h1.get? b=some {ob with slots:=sl}:=by
 by_cases hb:b∈fs
 ·exact u.slot b ob q n hb hx
 ·exact⟨ob.slots,u.keep b ob q n hb hx⟩
theorem Un.kept(k:∀b u,h.get? b=some u->h'.get? b=some u):Un fs ex H H h h':=
 ⟨λb ob q _ _ _=>k b ob q,λb ob q _ _ _=>⟨ob.slots,k b ob q⟩,λ_ _ _ n _=>n,λb ob q _=>⟨ob,k b ob q⟩,λ_ _ q=>q,λ_ _ _ q=>q,λ_ ps q=>⟨#[],by rw[q];simp⟩⟩
theorem Un.refl:Un fs ex H H h h:=Un.kept λ_ _ q=>q
theorem Un.laid(k:∀b u,h.get? b=some u->h'.get? b=some u)(hp:h.objs.size<=a)(hn:H a=none):Un fs ex H (upd H a o) h h' where
 keep:=λb u q _ _ _=>k b u q
 slot:=λb u q _ _ _=>⟨u.slots,k b u q⟩
 free:=λb u q n _=>by rw[dO (dw (gR (bQ q) hp))];exact n
 there:=λb u q _=>⟨u,k b u q⟩
 tups:=λb xs q=>by rw[dO (Ao q hn)];exact q
 jD:=λb u xs q=>by rw[dO (Ao q hn)];exact q
 kI:=λb ps q=>⟨#[],by rw[dO (Ao q hn),q];simp⟩
theorem Un.write(mu:CP (H x))(he:e=x\/H e=some (.own x))(k:∀b u,b≠e->h.get? b=some u->h'.get? b=some u)(Aq:∃u,h'.get? e=some u):Un fs ex H (upd H x o) h h':=by
 have hx:∀b,H b=none->b≠x:=λb n z=>by subst z;rw[n] at mu;exact mu
 have hb:∀b,H b=none->b≠e:=λb n z=>by
  subst z;rcases he with r|r
  ·exact hx b n r
  ·rw[n] at r;cases r
 have hm:∀b u,H b=some u->¬CP (some u)->b≠x:=λb u q nm z=>by subst z;rw[q] at mu;exact nm mu
 refine⟨λb u q n _ _=>k b u (hb b n) q,λb u q n _ _=>⟨u.slots,k b u (hb b n) q⟩,λb u q n _=>by rw[dO (hx b n)];exact n,λb u q _=>?_,
  λb xs q=>by rw[dO (hm b _ q λz=>z)];exact q,λb u xs q=>by rw[dO (hm b _ q λz=>z)];exact q,λb ps q=>⟨#[],by rw[dO (hm b _ q λz=>z),q];simp⟩⟩
 by_cases xZ:b=e
 ·subst xZ;exact Aq
 ·exact⟨u,k b u xZ q⟩
end
noncomputable def Iz(h:Heap)(H:Hp):List Addr:=(List.range h.objs.size).filter λa=>(H a).isSome
noncomputable def kJ(h:Heap)(H:Hp):Heap:=PySem.W.hideAll h (Iz h H)
theorem zfJ(h:Heap)(H:Hp):(kJ h H).objs.size=h.objs.size:=PySem.W.hideAll_size _ _
theorem zgG{h:Heap}{H:Hp}{b:Addr}{o:Obj}(e:h.get? b=some o)(n:H b=none):(kJ h H).get? b=some o:=
 PySem.W.hideAll_get _ e λhm=>by
  have q:(H b).isSome=true:=(ur.mp hm).2;rw[n] at q;simp at q
theorem zjl{h:Heap}{H:Hp}{b:Addr}{o:Obj}(e:(kJ h H).get? b=some o):h.get? b=some o/\H b=none:=by
 have e':h.get? b=some o:=PySem.W.of_hideAll (Iz h H) e;refine⟨e',?_⟩;cases q:H b with
 |none=>rfl
 |some x=>
  have hm:b∈Iz h H:=ur.mpr ⟨xO.mpr (bQ e'),by simp[q]⟩;have z:(kJ h H).get? b=none:=PySem.W.hideAll_none (Iz h H) hm;rw[z] at e;cases e
structure Mod(K:W.Frag)(mg:Str->Option Value)(base:Heap):Prop where
 vY:K.In base
 glob:base.Ns mainGlobals mg
 blt:∃mb,base.Ns builtinsNs mb/\∀x:Str,x≠"__name__"->mb x=bootBuiltins x
 nolimit:base.NoLimit
structure Cx where
 prog:Program
 w:World
 K:W.Frag
 mg:Str->Option Value
 base:Heap
 A:Around
 N:List Str
 s₀:Shared
 H₀:Hp
 env:Env
 outer:List Env
 stack:List Env
 ex:List Addr
 fn:Str->Bool
 aj:Bool
 pn:List (Addr×Obj)
 xe:Value->Shared->Prop
noncomputable def frs(l:List Env):List Addr:=l.filterMap (·.frame)
noncomputable abbrev Cx.fs(X:Cx):List Addr:=frs X.outer
def LQ(sc:Scope)(x:Str):Prop:=sc.names.lookup x=some .local\/sc.names.lookup x=some .cell\/sc.names.lookup x=some .free
def Loc(sc:Scope)(x:Str):Prop:=sc.names.lookup x=some .local\/sc.names.lookup x=some .cell
def Look(env:Env)(h:Heap)(m:Str->Option Value)(x:Str)(u:Value):Prop:=
 (env.kindOf x=some .local/\m x=some u)\/((env.kindOf x=some .cell\/env.kindOf x=some .free)/\∃c,env.cells.lookup x=some c/\h.IsCell c (some u))
structure Cx.Ok(X:Cx):Prop where
 mod:Mod X.K X.mg X.base
 kind:X.env.scope.kind=.function
 glob:X.env.globals=mainGlobals
 blt:X.env.builtins=builtinsNs
 above:X.s₀.heap.objs.size<=X.env.locals
 inj:∀x y c,X.env.cells.lookup x=some c->X.env.cells.lookup y=some c->x=y
 has:∀x,(X.env.kindOf x=some .cell\/X.env.kindOf x=some .free)->∃c,X.env.cells.lookup x=some c
 cab:∀x c,X.fn x=true->X.env.cells.lookup x=some c->X.s₀.heap.objs.size<=c
 hd:X.aj=true->X.A.handled=none
 frames:X.A.frames=some X.stack
 stk:X.stack=X.outer\/(X.stack=X.env::X.outer/\X.env.frame=some X.env.locals)
 exf:∀b∈X.ex,b≠X.env.locals/\∀x c,X.env.cells.lookup x=some c->c≠b
 bs:∀b o,X.base.get? b=some o->X.s₀.heap.get? b=some o/\X.H₀ b=none
 yc:X.base.objs.size<=X.s₀.heap.objs.size
 yd:∀b o,X.base.get? b=some o->b∉X.ex
 CT:∀b∈X.ex,b∉X.fs
 jE:X.s₀.heap.FunFrames X.base X.outer
 CV:∀b∈X.fs,X.H₀ b=none
structure Inv(X:Cx)(ao:List (Addr×Obj))(Z:List (Option V))(H:Hp)(s:Shared):Prop where
 ok:X.Ok
 os:s.os=X.s₀.os
 bare:AllBare s.gens
 base:Un X.fs X.ex X.H₀ H X.s₀.heap s.heap
 loc:∃m,s.heap.Ns X.env.locals m/\∀(i:Nat) (x:Str) (v:V),X.N[i]?=some x->Z[i]?=some (some v)->LQ X.env.scope x->∃u,RelV v u/\Look X.env s.heap m x u
 cell:∀x c,X.env.cells.lookup x=some c->∃v,s.heap.IsCell c v
 free:H X.env.locals=none
 iz:∀x c,X.env.cells.lookup x=some c->H c=none
 pin:∀p∈X.pn++ao,s.heap.get? p.1=some p.2/\H p.1=none/\p.1≠X.env.locals/\p.1∉X.fs/\∀v,p.2.data≠.cell v
 hok:gW X.prog X.w H s.heap
 len:Z.length=X.N.length
section
variable {X:Cx}{ao:List (Addr×Obj)}{Z:List (Option V)}{H H':Hp}{s:Shared}{h':Heap}
theorem Cx.Ok.LR(ok:X.Ok){b:Addr}{o:Obj}(e:X.base.get? b=some o):b∉X.fs:=λhb=>by
 have:=(ok.jE.mem hb).1;rw[e] at this;cases this
theorem Inv.bs(I:Inv X ao Z H s):∀b o,X.base.get? b=some o->s.heap.get? b=some o/\H b=none:=λb o e=>
 ⟨I.base.keep b o (I.ok.bs b o e).1 (I.ok.bs b o e).2 (I.ok.LR e) (I.ok.yd b o e),I.base.free b o (I.ok.bs b o e).1 (I.ok.bs b o e).2 (I.ok.yd b o e)⟩
theorem Inv.bk(I:Inv X ao Z H s):∀b o,X.base.get? b=some o->s.heap.get? b=some o:=λb o e=>(I.bs b o e).1
theorem Inv.mod(I:Inv X ao Z H s):Mod X.K X.mg X.base:=I.ok.mod
theorem Inv.lV(I:Inv X ao Z H s):X.K.In s.heap:=I.ok.mod.vY.keeps I.bk
theorem Inv.lt(I:Inv X ao Z H s):X.env.locals<s.heap.objs.size:=let ⟨_,hn,_⟩:=I.loc;hn.lt
theorem Inv.sz(I:Inv X ao Z H s):X.s₀.heap.objs.size<=s.heap.objs.size:=jM I.ok.above (vW I.lt)
theorem Inv.L_(I:Inv X ao Z H s){a:Addr}(h:s.heap.objs.size<=a):a∉X.fs:=λhb=>by
 obtain⟨_,o,ho,_⟩:=I.ok.jE.mem hb;exact absurd (gR (bQ ho) (jM I.sz h)) (oA _)
theorem Inv.yg(I:Inv X ao Z H s):∀x c,X.env.cells.lookup x=some c->c≠X.env.locals:=λx c e z=>by
 obtain⟨v,o,ho,hd⟩:=I.cell x c e;obtain⟨m,⟨o',es,ep,qW,CW,_⟩,_⟩:=I.loc;rw[z,qW] at ho;cases ho;rw[CW] at hd;cases hd
theorem Inv.jE(I:Inv X ao Z H s):s.heap.FunFrames X.base X.outer:=by
 have all:∀(l:List Env),(∀b∈frs l,b∈X.fs)->X.s₀.heap.FunFrames X.base l->s.heap.FunFrames X.base l:=by
  intro l
  induction l with
  |nil=>intro _ _;trivial
  |cons env r ih=>
   intro hs hl;obtain⟨hk,⟨L,o,hf,hn,ho,hd⟩,hr⟩:=hl;have hL:L∈X.fs:=hs L (by unfold frs;rw[BX,hf];exact j8);obtain⟨sl,e⟩:=I.base.slot L o ho (I.ok.CV L hL) hL λz=>I.ok.CT L z hL;exact⟨hk,⟨L,_,hf,hn,e,hd⟩,ih (λb hb=>hs b (by unfold frs;rw[BX,hf];exact gQ _ hb)) hr⟩
 exact all X.outer (λ_ hb=>hb) I.ok.jE
theorem Inv.stack(I:Inv X ao Z H s):s.heap.FunFrames X.base X.stack:=by
 rcases I.ok.stk with e|⟨e,hf⟩
 ·rw[e];exact I.jE
 ·rw[e];obtain⟨m,hn,_⟩:=I.loc;refine .cons (by rw[I.ok.kind];decide) hf hn ?_ I.jE;exact BR (jM I.ok.yc I.ok.above)
theorem Inv.kO(I:Inv X ao Z H s):∀b∈frs X.stack,b∈X.env.locals::X.fs:=λb hb=>by
 rcases I.ok.stk with e|⟨e,hf⟩
 ·rw[e] at hb;exact gQ _ hb
 ·rw[e] at hb;unfold frs at hb;rw[BX,hf] at hb;exact hb
theorem Inv.kW(I:Inv X ao Z H s):∀b∈frs X.stack,H b=none:=λb hb=>by
 rcases jd.mp (I.kO b hb) with e|hb
 ·rw[e];exact I.free
 ·obtain⟨_,o,ho,_⟩:=I.ok.jE.mem hb;exact I.base.free b o ho (I.ok.CV b hb) λz=>I.ok.CT b z hb
theorem Inv.step{g':Array GenState}{t':Nat}{d':Drawn}{ch:List Addr}(I:Inv X ao Z H s)
  (tO:∀b∈ch,(b∈X.ex\/X.s₀.heap.get? b=none)/\b≠X.env.locals/\(∀x c,X.env.cells.lookup x=some c->c≠b)/\∀p∈X.pn++ao,p.1≠b)
  (keep:∀b o,b≠X.env.locals->b∉X.fs->b∉ch->s.heap.get? b=some o->H b=none->h'.get? b=some o)
  (slot:∀b o,b≠X.env.locals->b∈X.fs->b∉ch->s.heap.get? b=some o->H b=none->∃sl,h'.get? b=some {o with slots:=sl}) (free:∀b o,b∉ch->s.heap.get? b=some o->H b=none->H' b=none)
  (there:∀b o,b∉ch->s.heap.get? b=some o->∃o',h'.get? b=some o')
  (tups:∀b xs,H b=some (.tup xs)->H' b=some (.tup xs)) (jD:∀b o u,H b=some (.tM o u)->H' b=some (.tM o u)) (kI:∀b ps,H b=some (.xY ps)->∃more,H' b=some (.xY (ps++more)))
  (ns:∀m,s.heap.Ns X.env.locals m->h'.Ns X.env.locals m) (hok:gW X.prog X.w H' h') (hg:AllBare g') :
  Inv X ao Z H' {s with heap:=h',gens:=g',drawn:=d',toks:=t'}:=by
 have TY:∀b o,X.s₀.heap.get? b=some o->b≠X.env.locals:=λb o e=>dw (gR (bQ e) I.ok.above);have IK:∀b o,X.s₀.heap.get? b=some o->b∉X.ex->b∉ch:=λb o e hx hb=>by
  rcases(tO b hb).1 with z|z
  ·exact hx z
  ·rw[e] at z;cases z
 have cellK:∀x c,X.env.cells.lookup x=some c->∀v,s.heap.IsCell c v->h'.IsCell c v:=λx c e v hx=>ux hx λo ho hd=>by
  have CZ:c∉ch:=λz=>(tO c z).2.2.1 x c e rfl;by_cases hc:c∈X.fs
  ·obtain⟨sl,q⟩:=slot c o (I.yg x c e) hc CZ ho (I.iz x c e);exact⟨_,q,hd⟩
  ·exact⟨o,keep c o (I.yg x c e) hc CZ ho (I.iz x c e),hd⟩
 refine⟨I.ok,I.os,hg,⟨λb o e n hb hx=>?_,λb o e n hb hx=>?_,λb o e n hx=>?_,λb o e hx=>?_,λb xs e=>tups b xs (I.base.tups b xs e),λb o xs e=>jD b o xs (I.base.jD b o xs e),λb ps e=>?_⟩,?_,λx c e=>?_,?_,λx c e=>?_,λp hp=>?_,hok,I.len⟩
 ·exact keep b o (TY b o e) hb (IK b o e hx) (I.base.keep b o e n hb hx) (I.base.free b o e n hx)
 ·obtain⟨sl,e1⟩:=I.base.slot b o e n hb hx;obtain⟨sl',e2⟩:=slot b _ (TY b o e) hb (IK b o e hx) e1 (I.base.free b o e n hx);exact⟨sl',e2⟩
 ·obtain⟨o',e1⟩:=I.base.there b o e hx;exact free b o' (IK b o e hx) e1 (I.base.free b o e n hx)
 ·obtain⟨o',e1⟩:=I.base.there b o e hx;exact there b o' (IK b o e hx) e1
 ·obtain⟨m1,e1⟩:=I.base.kI b ps e;obtain⟨m2,e2⟩:=kI b _ e1;exact⟨m1++m2,by rw[e2,Array.append_assoc]⟩
 ·obtain⟨m,hn,hl⟩:=I.loc;refine⟨m,ns m hn,λi x v e1 e2 e3=>?_⟩;obtain⟨u,r,l⟩:=hl i x v e1 e2 e3;refine⟨u,r,?_⟩;rcases l with l|⟨k,c,e,z⟩
  ·exact .inl l
  ·exact .inr ⟨k,c,e,cellK x c e _ z⟩
 ·obtain⟨v,z⟩:=I.cell x c e;exact⟨v,cellK x c e v z⟩
 ·obtain⟨m,⟨o,_,_,ho,_⟩,_⟩:=I.loc;exact free _ o (λz=>(tO _ z).2.1 rfl) ho I.free
 ·obtain⟨v,o,ho,hd⟩:=I.cell x c e;exact free c o (λz=>(tO c z).2.2.1 x c e rfl) ho (I.iz x c e)
 ·obtain⟨e,n,ne,nf,d⟩:=I.pin p hp;have CZ:p.1∉ch:=λz=>(tO p.1 z).2.2.2 p hp rfl;exact⟨keep p.1 p.2 ne nf CZ e n,free p.1 p.2 CZ e n,ne,nf,d⟩
theorem Inv.un{t':Nat}(I:Inv X ao Z H s)(u:Un X.fs [] H H' s.heap h')(hok:gW X.prog X.w H' h'):Inv X ao Z H' {s with heap:=h',toks:=t'}:=by
 obtain⟨m,⟨o,es,ep,ho,r⟩,_⟩:=id I.loc;obtain⟨sl,hL⟩:=u.any ho I.free (by simp);exact I.step (g':=s.gens) (d':=s.drawn) (ch:=[]) (λ_ z=>nomatch z) (λb o _ hb _ e n=>u.keep b o e n hb (by simp)) (λb o _ hb _ e n=>u.slot b o e n hb (by simp)) (λb o _ e n=>u.free b o e n (by simp)) (λb o _ e=>u.there b o e (by simp)) u.tups u.jD u.kI (λm' hm=>by
  obtain⟨o',es',ep',qW,r'⟩:=hm;rw[ho] at qW;cases qW;exact⟨_,es',ep',hL,r'⟩) hok I.bare
theorem Inv.call{g':Array GenState}{t':Nat}{d':Drawn}{ch:List Addr}(I:Inv X ao Z H s)(u:Un (frs X.stack) ch H H' s.heap h')(hok:gW X.prog X.w H' h')(hg:AllBare g')
  (tO:∀b∈ch,(b∈X.ex\/X.s₀.heap.get? b=none)/\b≠X.env.locals/\(∀x c,X.env.cells.lookup x=some c->c≠b)/\∀p∈X.pn++ao,p.1≠b) :
  Inv X ao Z H' {s with heap:=h',gens:=g',drawn:=d',toks:=t'}:=by
 obtain⟨m,⟨o,es,ep,ho,r⟩,_⟩:=id I.loc;obtain⟨sl,hL⟩:=u.any ho I.free λz=>(tO _ z).2.1 rfl;exact I.step (ch:=ch) tO (λb o hL hb hc e n=>u.keep b o e n (λz=>(jd.mp (I.kO b z)).elim hL hb) hc) (λb o _ _ hc e n=>u.any e n hc) (λb o hc e n=>u.free b o e n hc) (λb o hc e=>u.there b o e hc) u.tups u.jD u.kI (λm' hm=>by
  obtain⟨o',es',ep',qW,r'⟩:=hm;rw[ho] at qW;cases qW;exact⟨_,es',ep',hL,r'⟩) hok hg
theorem Inv.turned{t':Nat}{it:Addr}(I:Inv X ao Z H s)(k:∀b o,b≠it->s.heap.get? b=some o->h'.get? b=some o)(hn:H it=none)(hL:it≠X.env.locals)
  (h1:it∈X.ex\/X.s₀.heap.objs.size<=it) (h2:∀x c,X.env.cells.lookup x=some c->c≠it) (h3:∀p∈X.pn++ao,p.1≠it):Inv X ao Z H {s with heap:=h',toks:=t'}:=by
 have v8:∀b u,H b=some u->b≠it:=λb u e z=>by rw[z,hn] at e;cases e
 refine I.step (g':=s.gens) (d':=s.drawn) (ch:=[it]) (λb hb=>?_) (λb o _ _ hc e _=>k b o (λz=>hc (by simp[z])) e) (λb o _ _ hc e _=>⟨o.slots,k b o (λz=>hc (by simp[z])) e⟩) (λ_ _ _ _ n=>n)
  (λb o hc e=>⟨o,k b o (λz=>hc (by simp[z])) e⟩) (λ_ _ e=>e) (λ_ _ _ e=>e) (λb ps e=>⟨#[],by rw[e];simp⟩) (λm hm=>?_) (λb u e=>?_) I.bare
 ·have e:b=it:=by simpa using hb
  subst e;exact⟨h1.imp id λz=>BR z,hL,h2,h3⟩
 ·obtain⟨o,es,ep,ho,r⟩:=hm;exact⟨o,es,ep,k _ o (Ne.symm hL) ho,r⟩
 ·refine(I.hok b u e).stay (λc v hc q=>k c v ?_ q) (λ_ q=>q) λ_ _ q=>q;rcases hc with z|z
  ·rw[z];exact v8 b u e
  ·exact v8 c _ z
theorem Inv.tok(I:Inv X ao Z H s)(t:Nat):Inv X ao Z H {s with toks:=t}:=I.un (h':=s.heap) (t':=t) Un.refl I.hok
theorem Inv.kept{t':Nat}(I:Inv X ao Z H s)(k:∀b u,s.heap.get? b=some u->h'.get? b=some u):Inv X ao Z H {s with heap:=h',toks:=t'}:=I.un (Un.kept k) (I.hok.kept k)
theorem Inv.laid{a:Addr}{o:HO}{t':Nat}(I:Inv X ao Z H s)(k:∀b u,s.heap.get? b=some u->h'.get? b=some u)(hp:s.heap.objs.size<=a)(new:bH X.prog X.w (upd H a o) h' a o) :
  Inv X ao Z (upd H a o) {s with heap:=h',toks:=t'}:=I.un (Un.laid k hp (I.hok.fresh hp)) (I.hok.laid k hp new)
theorem Inv.write{x e:Addr}{o:HO}{t':Nat}(I:Inv X ao Z H s)(mu:CP (H x))(he:e=x\/H e=some (.own x))(k:∀b u,b≠e->s.heap.get? b=some u->h'.get? b=some u)(Aq:∃u,h'.get? e=some u)
  (new:bH X.prog X.w (upd H x o) h' x o):Inv X ao Z (upd H x o) {s with heap:=h',toks:=t'}:=I.un (Un.write mu he k Aq) (I.hok.write mu he k Aq new)
theorem Inv.kY{iB:List (Addr×Obj)}(I:Inv X ao Z H s)(h:∀p∈iB,s.heap.get? p.1=some p.2/\H p.1=none/\p.1≠X.env.locals/\p.1∉X.fs/\∀v,p.2.data≠.cell v):Inv X iB Z H s:=
 ⟨I.ok,I.os,I.bare,I.base,I.loc,I.cell,I.free,I.iz,λp hp=>(nj.mp hp).elim (λz=>I.pin p (List.mem_append_left _ z)) (h p),I.hok,I.len⟩
theorem T3{N:List Str}(hN:N.Nodup){i j:Nat}{x:Str}(a:N[i]?=some x)(b:N[j]?=some x):i=j:=by
 obtain⟨h1,e1⟩:=eO.mp a;obtain⟨h2,e2⟩:=eO.mp b;exact(List.getElem_inj hN).mp (e1.trans e2.symm)
theorem T4{M:Model}{A:Around}{E:Value->Shared->Prop}{i:Nat}{x:Str}{v:V}{u:Value}{Q:Unit->Shared->Prop}(I:Inv X ao Z H s)(hN:X.N.Nodup)(hi:X.N[i]?=some x)(hx:Loc X.env.scope x)(r:RelV v u)
  (h:∀s',Inv X ao (Z.set i (some v)) H s'->(∃a,Heap.SameBut a s.heap s'.heap/\(a=X.env.locals\/X.env.cells.lookup x=some a))->Q () s') (hf:X.fn x=true\/X.env.scope.names.lookup x=some .local:=by first|exact .inl rfl|exact .inr rfl|assumption):wpAny M A (storeName X.env x u) Q E s:=by
 obtain⟨m,hn,hl⟩:=id I.loc;have Ma:(X.env.scope.kind==.class||(X.env.scope.kind==.module&&X.env.locals != X.env.globals))=false:=by rw[I.ok.kind];rfl
 have T5:i<Z.length:=by rw[I.len];exact(eO.mp hi).1
 have yg:=I.yg;have tracked:∀{a:Addr} {h':Heap},(∃o,s.heap.get? a=some o/\H a=none)->Heap.SameBut a s.heap h'->gW X.prog X.w H h':=λ{a h'} ha hs b ob e=>by
  obtain⟨_,_,oG⟩:=ha;refine(I.hok b ob e).stay (λc w' hc q=>(hs.2 c ?_).trans q) (λ_ q=>q) λ_ _ q=>q;rintro rfl;rcases hc with rfl|hc
  ·rw[oG] at e;cases e
  ·rw[oG] at hc;cases hc
 rcases hx with hk|hk
 ·refine wpAny_storeName_local hk hn (λh' hn' hs=>?_) Ma;obtain⟨oL,_,_,IV,_⟩:=id hn;refine h _ ⟨I.ok,I.os,I.bare,⟨λb o e n hb hx=>?_,λb o e n hb hx=>?_,I.base.free,λb o e hx=>?_,I.base.tups,I.base.jD,I.base.kI⟩,⟨_,hn',λj y v' e1 e2 e3=>?_⟩,λy c e=>?_,I.free,I.iz,λp hp=>?_,tracked ⟨oL,IV,I.free⟩ hs,by simpa using I.len⟩ ⟨_,hs,.inl rfl⟩
  ·exact(hs.2 b (dw (gR (bQ e) I.ok.above))).trans (I.base.keep b o e n hb hx)
  ·obtain⟨sl,e1⟩:=I.base.slot b o e n hb hx;exact⟨sl,(hs.2 b (dw (gR (bQ e) I.ok.above))).trans e1⟩
  ·obtain⟨o',e1⟩:=I.base.there b o e hx;exact⟨o',(hs.2 b (dw (gR (bQ e) I.ok.above))).trans e1⟩
  ·by_cases hj:j=i
   ·subst hj;rw[hi] at e1;cases e1;rw[vL T5] at e2;cases e2;exact⟨u,r,.inl ⟨hk,by simp⟩⟩
   ·rw[qx (Ne.symm hj)] at e2;obtain⟨u',r',q⟩:=hl j y v' e1 e2 e3;refine⟨u',r',?_⟩;rcases q with ⟨k,e⟩|⟨k,c,e,z⟩
    ·refine .inl ⟨k,?_⟩;have:y≠x:=λe=>hj (T3 hN e1 (e▸hi));simp[this,e]
    ·exact .inr ⟨k,c,e,z.sameBut hs (yg y c e)⟩
  ·obtain⟨w',z⟩:=I.cell y c e;exact⟨w',z.sameBut hs (yg y c e)⟩
  ·obtain⟨e,n,ne,nf,d⟩:=I.pin p hp;exact⟨(hs.2 p.1 ne).trans e,n,ne,nf,d⟩
 ·have Mf:X.fn x=true:=by
   rcases hf with z|z
   ·exact z
   ·rw[z] at hk;cases hk
  obtain⟨c,hc⟩:=I.ok.has x (.inl hk);obtain⟨w',z⟩:=I.cell x c hc;refine wpAny_storeName_cell I.ok.kind hk hc z (λh' jF hs=>?_);obtain⟨oc,T6,Mg⟩:=id z;refine h {s with heap:=h'} ⟨I.ok,I.os,I.bare,⟨λb o e n hb hx=>?_,λb o e n hb hx=>?_,I.base.free,λb o e hx=>?_,I.base.tups,I.base.jD,I.base.kI⟩,⟨m,hn.sameBut hs (Ne.symm (yg x c hc)),λj y v' e1 e2 e3=>?_⟩,λy c' e=>?_,I.free,I.iz,λp hp=>?_,tracked ⟨oc,T6,I.iz x c hc⟩ hs,by simpa using I.len⟩ ⟨c,hs,.inr hc⟩
  ·exact(hs.2 b (dw (gR (bQ e) (I.ok.cab x c Mf hc)))).trans (I.base.keep b o e n hb hx)
  ·obtain⟨sl,e1⟩:=I.base.slot b o e n hb hx;exact⟨sl,(hs.2 b (dw (gR (bQ e) (I.ok.cab x c Mf hc)))).trans e1⟩
  ·obtain⟨o',e1⟩:=I.base.there b o e hx;exact⟨o',(hs.2 b (dw (gR (bQ e) (I.ok.cab x c Mf hc)))).trans e1⟩
  ·by_cases hj:j=i
   ·subst hj;rw[hi] at e1;cases e1;rw[vL T5] at e2;cases e2;exact⟨u,r,.inr ⟨.inl hk,c,hc,jF⟩⟩
   ·rw[qx (Ne.symm hj)] at e2;obtain⟨u',r',q⟩:=hl j y v' e1 e2 e3;refine⟨u',r',?_⟩;rcases q with q|⟨k,c',e,z'⟩
    ·exact .inl q
    ·refine .inr ⟨k,c',e,z'.sameBut hs ?_⟩;rintro rfl;exact hj (T3 hN e1 (I.ok.inj _ _ _ e hc▸hi))
  ·by_cases T7:c'=c
   ·subst T7;exact⟨_,jF⟩
   ·obtain⟨w2,z2⟩:=I.cell y c' e;exact⟨w2,z2.sameBut hs T7⟩
  ·obtain⟨e,n,ne,nf,d⟩:=I.pin p hp;refine⟨(hs.2 p.1 ?_).trans e,n,ne,nf,d⟩;intro q;rw[q,T6] at e;have q':oc=p.2:=cj e;exact d w' (by rw[<-q'];exact Mg)
theorem IW{M:Model}{A:Around}{E:Value->Shared->Prop}{i:Nat}{x:Str}{v:V}{u:Value}{Q:Unit->Shared->Prop}(I:Inv X ao Z H s)(hN:X.N.Nodup)(hi:X.N[i]?=some x)(hx:Loc X.env.scope x)(r:RelV v u)
  (h:∀s',Inv X ao (Z.set i (some v)) H s'->Q () s') (hf:X.fn x=true\/X.env.scope.names.lookup x=some .local:=by first|exact .inl rfl|exact .inr rfl|assumption):wpAny M A (storeName X.env x u) Q E s:=
 T4 I hN hi hx r (λs' I' _=>h s' I') hf
theorem Inv.call'{s':Shared}{ch:List Addr}(I:Inv X ao Z H s)(ho:s'.os=s.os)(u:Un (frs X.stack) ch H H' s.heap s'.heap)(hok:gW X.prog X.w H' s'.heap)(hg:AllBare s'.gens)
  (tO:∀b∈ch,(b∈X.ex\/X.s₀.heap.get? b=none)/\b≠X.env.locals/\(∀x c,X.env.cells.lookup x=some c->c≠b)/\∀p∈X.pn++ao,p.1≠b):Inv X ao Z H' s':=by
 obtain⟨h',g',d',t',o'⟩:=s';have e:o'=s.os:=ho;subst e;exact I.call (g':=g') (t':=t') (d':=d') u hok hg tO
end
noncomputable abbrev XK:=Value->Option Addr->Hp->Prop
noncomputable abbrev St:=List (Option V)
noncomputable abbrev VK:=V->Hp->Prop
noncomputable abbrev TE:=St->Hp->VK->Prop
noncomputable abbrev TT:=St->Hp->(Bool->Hp->Prop)->Prop
noncomputable abbrev TA:=St->Hp->(List V->Hp->Prop)->Prop
structure Ends where
 nx:St->Hp->Prop
 rt:VK
 bk:St->Hp->Prop:=λ_ _=>False
 ct:St->Hp->Prop:=λ_ _=>False
noncomputable abbrev TS:=Ends->St->Hp->Prop
def EP(X:Cx)(ao:List (Addr×Obj))(Z:St)(Q:VK)(u:Value)(s':Shared):Prop:=∃v H',Inv X ao Z H' s'/\RelV v u/\Q v H'
def TP(X:Cx)(ao:List (Addr×Obj))(Z:St)(Q:Bool->Hp->Prop)(b:Bool)(s':Shared):Prop:=∃H',Inv X ao Z H' s'/\Q b H'
def AP(X:Cx)(ao:List (Addr×Obj))(Z:St)(Q:List V->Hp->Prop)(us:List Value)(s':Shared):Prop:=∃vs H',Inv X ao Z H' s'/\Vals vs us/\Q vs H'
def SP(X:Cx)(ao:List (Addr×Obj))(D:Ends)(f:Flow)(s':Shared):Prop:=
 match f with
 |.next=>∃Z' H',Inv X ao Z' H' s'/\D.nx Z' H'
 |.brk=>∃Z' H',Inv X ao Z' H' s'/\D.bk Z' H'
 |.cont=>∃Z' H',Inv X ao Z' H' s'/\D.ct Z' H'
 |.ret u=>∃v Z' H',Inv X ao Z' H' s'/\RelV v u/\D.rt v H'
def PE(X:Cx)(e:Expr)(t:TE):Prop:=
 ∀(ao:List (Addr×Obj)) (s:Shared) (Z:St) (H:Hp) (Q:VK),Inv X ao Z H s->t Z H Q->wpAny (model X.prog X.w) X.A (eval e X.env) (EP X ao Z Q) X.xe s
def PT(X:Cx)(e:Expr)(t:TT):Prop:=
 ∀(ao:List (Addr×Obj)) (s:Shared) (Z:St) (H:Hp) (Q:Bool->Hp->Prop),Inv X ao Z H s->t Z H Q->wpAny (model X.prog X.w) X.A (isTrue e X.env (eval e X.env)) (TP X ao Z Q) X.xe s
def PW(X:Cx)(e:Expr)(t:TT):Prop:=
 ∀(whole:Sem Value) (ao:List (Addr×Obj)) (s:Shared) (Z:St) (H:Hp) (Q:Bool->Hp->Prop),Inv X ao Z H s->t Z H Q->wpAny (model X.prog X.w) X.A (isTrue e X.env whole) (TP X ao Z Q) X.xe s
theorem Kac{X:Cx}{e:Expr}{t:TT}(h:PW X e t):PT X e t:=h _
def PA(X:Cx)(es:List Expr)(t:TA):Prop:=
 ∀(pos:Pos) (ao:List (Addr×Obj)) (s:Shared) (Z:St) (H:Hp) (Q:List V->Hp->Prop),Inv X ao Z H s->t Z H Q->wpAny (model X.prog X.w) X.A (spliced (backTo pos (starEach es X.env))) (AP X ao Z Q) X.xe s
def PS(X:Cx)(st:Stmt)(t:TS):Prop:=
 ∀(ao:List (Addr×Obj)) (s:Shared) (Z:St) (H:Hp) (D:Ends),Inv X ao Z H s->t D Z H->wpAny (model X.prog X.w) X.A (exec st X.env) (SP X ao D) X.xe s
def oH(X:Cx)(st:List Stmt)(t:TS):Prop:=
 ∀(ao:List (Addr×Obj)) (s:Shared) (Z:St) (H:Hp) (D:Ends),Inv X ao Z H s->t D Z H->wpAny (model X.prog X.w) X.A (execs st X.env) (SP X ao D) X.xe s
theorem aZ{α:Type}{t:Sem α}{Q Q':α->Shared->Prop}{M:Model}{A:Around}{E:Value->Shared->Prop}{s:Shared}(h:wpAny M A t Q E s)(hQ:∀a s,Q a s->Q' a s):wpAny M A t Q' E s:=lK h hQ λ_ _ x=>x
section
variable {X:Cx}
noncomputable def Mh(i:Nat):TE:=λZ H Q=>∃v,Z[i]?=some (some v)/\Q v H
noncomputable def tC(v:V):TE:=λ_ H Q=>Q v H
theorem T8{i:Nat}{x:Str}{pos:Pos}(hN:X.N[i]?=some x)(hv:LQ X.env.scope x)(hd:(x==("__debug__" : Str))=false:=by decide)(jz:(x==("__classdict__" : Str))=false:=by decide):PE X (.Name x pos) (Mh i):=by
 intro ao s Z H Q I h;obtain⟨v,e,h⟩:=h;obtain⟨m,hn,hl⟩:=I.loc;obtain⟨u,r,l⟩:=hl i x v hN e hv;have fin:EP X ao Z Q u s:=⟨v,H,I,r,h⟩;rcases l with ⟨hk,hm⟩|⟨hk,c,hc,v9⟩
 ·exact wpAny_Name (wpAny_loadName_local I.ok.kind hk hn hm fin) hd
 ·rcases hk with hk|hk
  ·exact wpAny_Name (wpAny_loadName_cell I.ok.kind hk hc v9 fin) hd
  ·exact wpAny_Name (wpAny_loadName_free I.ok.kind hk hc v9 fin jz) hd
theorem zkD{i j pos}:PE X (.Constant (.int i) j pos) (tC (.int i)):=λ_ _ _ H _ I h=>wpAny_Constant_int ⟨.int i,H,I.tok _,⟨_,rfl⟩,h⟩
theorem zmF{b j pos}:PE X (.Constant (.bool b) j pos) (tC (.bl b)):=λ_ _ _ H _ I h=>Constant_bool ⟨.bl b,H,I,rfl,h⟩
theorem zjJ{j pos}:PE X (.Constant .none j pos) (tC .non):=λ_ _ _ H _ I h=>Constant_none ⟨.non,H,I,rfl,h⟩
def Gl(X:Cx)(x:Str):Prop:=X.env.kindOf x=some .globalImplicit
theorem Mj{E:Value->Shared->Prop}{ao:List (Addr×Obj)}{s:Shared}{Z:St}{H:Hp}{x:Str}{u:Value}{pos:Pos}{Q:Value->Shared->Prop}(I:Inv X ao Z H s)(hg:Gl X x)(hm:X.mg x=some u)(h:Q u s)
  (hd:(x==("__debug__" : Str))=false:=by decide):wpAny (model X.prog X.w) X.A (eval (.Name x pos) X.env) Q E s:=
 Calls.Name_function_global I.ok.kind hg (Calls.loadGlobal_global (by rw[I.ok.glob];exact I.mod.glob.keeps I.bk) hm h) hd
theorem uz{E:Value->Shared->Prop}{ao:List (Addr×Obj)}{s:Shared}{Z:St}{H:Hp}{x:Str}{u:Value}{pos:Pos}{Q:Value->Shared->Prop}(I:Inv X ao Z H s)(hg:Gl X x)(hm:X.mg x=none)(hv:bootBuiltins x=some u)(h:Q u s)
  (hn:x≠"__name__":=by decide) (hd:(x==("__debug__" : Str))=false:=by decide):wpAny (model X.prog X.w) X.A (eval (.Name x pos) X.env) Q E s:=by
 obtain⟨mb,h1,h2⟩:=I.mod.blt;exact Calls.Name_function_global I.ok.kind hg (Calls.loadGlobal_builtin (by rw[I.ok.glob];exact I.mod.glob.keeps I.bk) hm (by rw[I.ok.blt];exact h1.keeps I.bk) ((h2 x hn).trans hv) h) hd
theorem zjp{x:Str}{v:V}{u:Value}{pos:Pos}(hg:Gl X x)(hm:X.mg x=some u)(r:RelV v u)(hd:(x==("__debug__" : Str))=false:=by decide):PE X (.Name x pos) (tC v):=
 λ_ _ _ H _ I h=>Mj I hg hm ⟨v,H,I,r,h⟩ hd
variable {a b:Expr}{ta tb:TE}{pos:Pos}
def PC(X:Cx)(op:CmpOp)(a b:Expr)(t:TE):Prop:=
 ∀(ao:List (Addr×Obj)) (s:Shared) (Z:St) (H:Hp) (Q:VK),Inv X ao Z H s->t Z H Q->
  wpAny (model X.prog X.w) X.A (eval a X.env) (λv s₁=>wpAny (model X.prog X.w) X.A (eval b X.env) (λu s₂=>wpAny (model X.prog X.w) X.A (compareOp op v u) (EP X ao Z Q) X.xe s₂) X.xe s₁) X.xe s
theorem lW(b:Expr){op:CmpOp}(h:op≠.In)(h2:op≠.NotIn):behindInMarks op b=false:=by
 have e1:(op==CmpOp.In)=false:=by cases op<;>first|rfl|exact absurd rfl h
 have e2:(op==CmpOp.NotIn)=false:=by cases op<;>first|rfl|exact absurd rfl h2
 cases b<;>simp[behindInMarks,e1,e2]
noncomputable def Ml(ta:TE):TE:=λZ H Q=>ta Z H λx H1=>Q (.bl (decide (x=.non))) H1
noncomputable def C_(ta:TE):TE:=λZ H Q=>ta Z H λx H1=>Q (.bl (!decide (x=.non))) H1
theorem RelV.lX{x:V}{v:Value}(r:RelV x v):(v==Value.none)=decide (x=.non):=by
 cases x with
 |non=>cases r;rfl
 |bl _=>cases r;rfl
 |int _=>obtain⟨t,rfl⟩:=r;rfl
 |str _=>obtain⟨t,rfl⟩:=r;rfl
 |xX _=>obtain⟨t,rfl⟩:=r;rfl
 |flt _=>obtain⟨t,rfl⟩:=r;rfl
 |ref _=>cases r;rfl
 |ty _=>cases r;rfl
theorem T9{j pos'}(ha:PE X a ta):PC X .Is a (.Constant .none j pos') (Ml ta):=by
 intro ao s Z H Q I h;refine aZ (ha ao s Z H _ I h) λv s1 hx=>dY hx λx H1 I1 r1 q1=>?_;exact Constant_none (is_none_gen ⟨.bl _,H1,I1,by rw[r1.lX];rfl,q1⟩)
theorem T_{j pos'}(ha:PE X a ta):PC X .IsNot a (.Constant .none j pos') (C_ ta):=by
 intro ao s Z H Q I h;refine aZ (ha ao s Z H _ I h) λv s1 hx=>dY hx λx H1 I1 r1 q1=>?_;exact Constant_none (isnot_none_gen ⟨.bl _,H1,I1,by rw[r1.lX];rfl,q1⟩)
noncomputable def tB(t:TE):TT:=λZ H Q=>t Z H λx H1=>∃c,x=.bl c/\Q c H1
theorem Ua{op:CmpOp}{t:TE}(h:PC X op a b t)(h1:behindInMarks op b=false:=by first|exact lW _ (by decide) (by decide)|rfl):PE X (.Compare a [op] [b] pos) t:=λao s Z H Q I hw=>wpAny_Compare1 (h ao s Z H Q I hw) h1
theorem Mp{op:CmpOp}{t:TE}(h:PC X op a b t)(h1:behindInMarks op b=false:=by first|exact lW _ (by decide) (by decide)|rfl):PT X (.Compare a [op] [b] pos) (tB t):=by
 intro ao s Z H Q I hw;refine wpAny_isTrue_Compare1 (aZ (h ao s Z H _ I hw) λv s1 h1=>aZ h1 λu s2 h2=>aZ h2 λc s3 hx=>dY hx λx H1 I1 r1 q1=>?_) h1;obtain⟨d,rfl,q⟩:=q1;cases r1;exact tu ⟨H1,I1,q⟩
theorem zkR{e:Expr}{t:TE}(h:PE X e t)(he:∀whole,isTrue e X.env whole=(do let v <-whole;standAt e.pos;holding [v] (truthy v)):=by intro _;rfl):PT X e (tB t):=by
 intro ao s Z H Q I hw;refine isTrue_plain (aZ (h ao s Z H _ I hw) λv s1 hx=>dY hx λx H1 I1 r1 q1=>?_) (he _);obtain⟨d,rfl,q⟩:=q1;cases r1;exact tu ⟨H1,I1,q⟩
variable {tA I8:TT}{rest:List Expr}
noncomputable def Mq(t u:TT):TT:=λZ H Q=>t Z H λc H1=>if c=true then u Z H1 Q else Q false H1
noncomputable def tOr(t u:TT):TT:=λZ H Q=>t Z H λc H1=>if c=true then Q true H1 else u Z H1 Q
noncomputable def Mr(t:TT):TT:=λZ H Q=>t Z H λc H1=>Q (!c) H1
theorem zjg(ha:PT X a tA):PW X (.BoolOp .And [a] pos) tA:=by
 intro wh ao s Z H Q I h;refine isTrue_and (aZ (ha ao s Z H Q I h) λc s1 e=>?_);cases c with
 |true=>exact isTrue_and_nil e
 |false=>exact e
theorem zjK(ha:PT X a tA):PW X (.BoolOp .Or [a] pos) tA:=by
 intro wh ao s Z H Q I h;refine isTrue_or (aZ (ha ao s Z H Q I h) λc s1 e=>?_);cases c with
 |false=>exact isTrue_or_nil e
 |true=>exact e
theorem zk5(ha:PT X a tA)(hb:PW X (.BoolOp .And (b::rest) pos) I8):PW X (.BoolOp .And (a::b::rest) pos) (Mq tA I8):=by
 intro wh ao s Z H Q I h;refine isTrue_and (aZ (ha ao s Z H _ I h) λc s1 hx=>ux hx λH1 I1 q1=>?_);cases c with
 |true=>exact hb wh ao s1 Z H1 Q I1 q1
 |false=>exact⟨H1,I1,q1⟩
theorem zmG(ha:PT X a tA)(hb:PW X (.BoolOp .Or (b::rest) pos) I8):PW X (.BoolOp .Or (a::b::rest) pos) (tOr tA I8):=by
 intro wh ao s Z H Q I h;refine isTrue_or (aZ (ha ao s Z H _ I h) λc s1 hx=>ux hx λH1 I1 q1=>?_);cases c with
 |true=>exact⟨H1,I1,q1⟩
 |false=>exact hb wh ao s1 Z H1 Q I1 q1
theorem zj9(ha:PT X a tA):PT X (.UnaryOp .Not a pos) (Mr tA):=by
 intro ao s Z H Q I h;exact isTrue_not (ha ao s Z H (λc H1=>Q (!c) H1) I h)
noncomputable def Dg(ta tb:TE):TE:=λZ H Q=>ta Z H λx H1=>∃c,x=.bl c/\if c=true then tb Z H1 Q else Q (.bl false) H1
noncomputable def Ms(ta tb:TE):TE:=λZ H Q=>ta Z H λx H1=>∃c,x=.bl c/\if c=true then Q (.bl true) H1 else tb Z H1 Q
noncomputable def Dh(ta:TE):TE:=λZ H Q=>ta Z H λx H1=>∃c,x=.bl c/\Q (.bl (!c)) H1
theorem zj5{op}{t:TE}(h:PE X a t):PE X (.BoolOp op [a] pos) t:=λao s Z H Q I hw=>BoolOp_one (h ao s Z H Q I hw)
theorem zkQ(ha:PE X a ta)(hb:PE X (.BoolOp .And (b::rest) pos) tb):PE X (.BoolOp .And (a::b::rest) pos) (Dg ta tb):=by
 intro ao s Z H Q I h;refine BoolOp_and (aZ (ha ao s Z H _ I h) λv s1 hx=>dY hx λx H1 I1 r1 q1=>?_);obtain⟨c,rfl,q1⟩:=q1;cases r1;refine tu ?_;cases c with
 |true=>exact hb ao s1 Z H1 Q I1 q1
 |false=>exact⟨.bl false,H1,I1,rfl,q1⟩
theorem zl5(ha:PE X a ta)(hb:PE X (.BoolOp .Or (b::rest) pos) tb):PE X (.BoolOp .Or (a::b::rest) pos) (Ms ta tb):=by
 intro ao s Z H Q I h;refine BoolOp_or (aZ (ha ao s Z H _ I h) λv s1 hx=>dY hx λx H1 I1 r1 q1=>?_);obtain⟨c,rfl,q1⟩:=q1;cases r1;refine tu ?_;cases c with
 |false=>exact hb ao s1 Z H1 Q I1 q1
 |true=>exact⟨.bl true,H1,I1,rfl,q1⟩
theorem zlI(ha:PE X a ta):PE X (.UnaryOp .Not a pos) (Dh ta):=by
 intro ao s Z H Q I h;refine UnaryOp_ (aZ (ha ao s Z H _ I h) λv s1 hx=>dY hx λx H1 I1 r1 q1=>?_);obtain⟨c,rfl,q1⟩:=q1;cases r1;exact not_of (tu ⟨.bl (!c),H1,I1,rfl,q1⟩)
noncomputable def tIf(t:TT)(ta tb:TE):TE:=λZ H Q=>t Z H λc H1=>if c=true then ta Z H1 Q else tb Z H1 Q
theorem zhs{c:Expr}(hc:PT X c tA)(ha:PE X a ta)(hb:PE X b tb):PE X (.IfExp c a b pos) (tIf tA ta tb):=by
 intro ao s Z H Q I h;refine wpAny_IfExp (aZ (hc ao s Z H _ I h) λd s1 hx=>ux hx λH1 I1 q1=>?_);cases d with
 |true=>exact ha ao s1 Z H1 Q I1 q1
 |false=>exact hb ao s1 Z H1 Q I1 q1
end
def cL(K:W.Frag)(H:Hp)(a:Addr)(xs:List V):Prop:=
 Rd H a (.lst xs) \/
  ∃(o:Obj) (its:Array Value) (n:Nat),K.lookup a=some o/\o.cls=.type "list"/\o.dict=none/\o.data=.seq its n/\its.size<=sizeLine/\Vals xs its.toList
def fP(K:W.Frag)(H:Hp)(a:Addr)(xs:List V):Prop:=
 Rd H a (.tup xs) \/
  ∃(o:Obj) (its:Array Value) (n:Nat),K.lookup a=some o/\o.cls=.type "tuple"/\o.data=.seq its n/\its.size<=sizeLine/\Vals xs its.toList
noncomputable def Mu:Value->Option V
 |.none=>some .non
 |.bool b=>some (.bl b)
 |.int i _=>some (.int i)
 |.str x _=>some (.str x)
 |.bytes b _=>some (.xX b)
 |.float b _=>some (.flt b)
 |.ref a=>some (.ref a)
 |.type n=>some (.ty n)
 |_=>none
theorem RelV.abs{x:V}{u:Value}(r:RelV x u):Mu u=some x:=by
 cases x with
 |non=>cases r;rfl
 |bl _=>cases r;rfl
 |int _=>obtain⟨t,rfl⟩:=r;rfl
 |str _=>obtain⟨t,rfl⟩:=r;rfl
 |xX _=>obtain⟨t,rfl⟩:=r;rfl
 |flt _=>obtain⟨t,rfl⟩:=r;rfl
 |ref _=>cases r;rfl
 |ty _=>cases r;rfl
theorem RelV.inj{x y:V}{u:Value}(r:RelV x u)(q:RelV y u):x=y:=cj (r.abs.symm.trans q.abs)
theorem Vals.inj{xs ys:List V}{us:List Value}(h:Vals xs us)(h':Vals ys us):xs=ys:=by
 induction h generalizing ys with
 |nil=>cases h';rfl
 |cons r _ ih=>
  cases h' with
  |cons r' t'=>rw[r.inj r',ih t']
section
variable {X:Cx}{ao:List (Addr×Obj)}{Z:St}{H:Hp}{s:Shared}{a:Addr}{xs ys:List V}
theorem cL.of{K:W.Frag}(h:H a=some (.lst xs)):cL K H a xs:=.inl (.inl h)
theorem Inv.list(I:Inv X ao Z H s)(h:cL X.K H a xs):∃its:List Value,Vals xs its/\PlainL s.heap a its.toArray/\xs.length<=sizeLine:=by
 rcases h with h|⟨o,its,n,hk,hc,hd,hs,hz,r⟩
 ·obtain⟨z,its,n,r,e⟩:=h.ok I.hok;exact⟨its,r,⟨_,n,e,rfl,rfl,rfl⟩,z⟩
 ·refine⟨its.toList,r,⟨o,n,I.lV a o hk,hc,hd,by simpa using hs⟩,?_⟩;have e:=r.length;simp only[vN] at e
  lia
theorem Inv.tuple(I:Inv X ao Z H s)(h:fP X.K H a xs):∃its:List Value,Vals xs its/\IsTup s.heap a its.toArray/\xs.length<=sizeLine:=by
 rcases h with h|⟨o,its,n,hk,hc,hs,hz,r⟩
 ·obtain⟨z,its,r,p⟩:=h.ok I.hok;exact⟨its,r,p,z⟩
 ·refine⟨its.toList,r,⟨o,I.lV a o hk,hc,n,by simpa using hs⟩,?_⟩;have e:=r.length;simp only[vN] at e
  lia
theorem Inv.lY(I:Inv X ao Z H s)(h:cL X.K H a xs)(h':cL X.K H a ys):xs=ys:=by
 obtain⟨its,r,⟨o,n,e,_,_,d⟩,_⟩:=I.list h;obtain⟨its',r',⟨o',n',e',_,_,d'⟩,_⟩:=I.list h';rw[e] at e';cases e';rw[d] at d';injection d' with d1 _;have:its=its':=by simpa using lQ Array.toList d1
 subst this;exact r.inj r'
theorem Inv.jO(I:Inv X ao Z H s)(h:fP X.K H a xs)(h':fP X.K H a ys):xs=ys:=by
 obtain⟨its,r,⟨o,e,_,n,d⟩,_⟩:=I.tuple h;obtain⟨its',r',⟨o',e',_,n',d'⟩,_⟩:=I.tuple h';rw[e] at e';cases e';rw[d] at d';injection d' with d1 _;have:its=its':=by simpa using lQ Array.toList d1
 subst this;exact r.inj r'
end
section
variable {X:Cx}{ao:List (Addr×Obj)}{Z:St}{H:Hp}{s:Shared}{E:Value->Shared->Prop}
end
section
variable {X:Cx}{st:Stmt}{rest:List Stmt}{t u:TS}{e:Expr}{te:TE}{pos:Pos}
noncomputable def Di:TS:=λD Z H=>D.nx Z H
noncomputable def Mv(t u:TS):TS:=λD Z H=>t {D with nx:=u D} Z H
theorem Ub:oH X [] Di:=λ_ _ Z H _ I h=>wpAny_execs_nil ⟨Z,H,I,h⟩
theorem Uc(h1:PS X st t)(h2:oH X rest u):oH X (st::rest) (Mv t u):=by
 intro ao s Z H D I h;refine wpAny_execs_cons (aZ (h1 ao s Z H {D with nx:=u D} I h) λf s1 q=>?_);cases f with
 |next=>
  obtain⟨Z',H',I',q⟩:=q;exact h2 ao s1 Z' H' D I' q
 |ret v=>exact q
 |brk=>exact q
 |cont=>exact q
theorem Inv.quiet{ao:List (Addr×Obj)}{Z:St}{H:Hp}{s:Shared}(I:Inv X ao Z H s):interactive X.env=false:=by simp[interactive,I.ok.kind]
noncomputable def Dj(te:TE):TS:=λD Z H=>te Z H λ_ H1=>D.nx Z H1
theorem zit(he:PE X e te)(hs:swapsWith e none pos.line X.env=pure false:=by rfl):PS X (.Expr e pos) (Dj te):=by
 intro ao s Z H D I h;exact wpAny_Expr_any (aZ (he ao s Z H _ I h) λv s1 hx=>dY hx λx H1 I1 r1 q1=>⟨Z,H1,I1,q1⟩) I.quiet hs
noncomputable def Mw(te:TE):TS:=λD Z H=>te Z H D.rt
theorem zk1(he:PE X e te):PS X (.Return (some e) pos) (Mw te):=by
 intro ao s Z H D I h;exact wpAny_Return_some (aZ (he ao s Z H _ I h) λv s1 hx=>dY hx λx H1 I1 r1 q1=>⟨x,Z,H1,I1,r1,q1⟩)
noncomputable def Mx(c:TT)(t u:TS):TS:=λD Z H=>c Z H λb H1=>if b=true then t D Z H1 else u D Z H1
theorem zm3{c:Expr}{a b:List Stmt}{tc:TT}(hc:PT X c tc)(ha:oH X a t)(hb:oH X b u):PS X (.If c a b pos) (Mx tc t u):=by
 intro ao s Z H D I h;refine wpAny_If (aZ (hc ao s Z H _ I h) λd s1 hx=>ux hx λH1 I1 q1=>?_);cases d with
 |true=>exact ha ao s1 Z H1 D I1 q1
 |false=>exact hb ao s1 Z H1 D I1 q1
end
noncomputable abbrev TG:=V->St->Hp->(St->Hp->Prop)->Prop
noncomputable abbrev yh:=List V->St->Hp->(St->Hp->Prop)->Prop
def PG(X:Cx)(target:Expr)(t:TG):Prop:=
 ∀(ao:List (Addr×Obj)) (s:Shared) (Z:St) (H:Hp) (v:V) (u:Value) (Q:St->Hp->Prop),Inv X ao Z H s->RelV v u->t v Z H Q->
  wpAny (model X.prog X.w) X.A (assign target X.env u) (λ_ s'=>∃Z' H',Inv X ao Z' H' s'/\Q Z' H') X.xe s
def I9(X:Cx)(ts:List Expr)(t:yh):Prop:=
 ∀(ao:List (Addr×Obj)) (s:Shared) (Z:St) (H:Hp) (vs:List V) (us:List Value) (Q:St->Hp->Prop),Inv X ao Z H s->Vals vs us->t vs Z H Q->
  wpAny (model X.prog X.w) X.A (assignInOrder ((assignEach ts X.env).map (·.2)) us) (λ_ s'=>∃Z' H',Inv X ao Z' H' s'/\Q Z' H') X.xe s
noncomputable abbrev yj:=V->V->V->Hp->(Hp->Prop)->Prop
def Dk(X:Cx)(t:yj):Prop:=
 ∀(ao:List (Addr×Obj)) (s:Shared) (Z:St) (H:Hp) (o i v:V) (ov iv u:Value) (Q:Hp->Prop),Inv X ao Z H s->RelV o ov->RelV i iv->RelV v u->t o i v H Q->
  wpAny (model X.prog X.w) X.A (setItem ov iv u) (λ_ s'=>∃H',Inv X ao Z H' s'/\Q H') X.xe s
section
variable {X:Cx}{pos:Pos}
noncomputable def dB(i:Nat):TG:=λv Z H Q=>Q (Z.set i (some v)) H
theorem I_{i:Nat}{x:Str}(hN:X.N.Nodup)(hi:X.N[i]?=some x)(hx:Loc X.env.scope x)(hf:X.fn x=true\/X.env.scope.names.lookup x=some .local:=by first|exact .inl rfl|exact .inr rfl|assumption):PG X (.Name x pos) (dB i):=by
 intro ao s Z H v u Q I r h;exact wpAny_assign_Name (IW I hN hi hx r (λs' I'=>⟨_,H,I',h⟩) hf)
noncomputable def qX:yh:=λvs Z H Q=>vs=[]/\Q Z H
noncomputable def gG(t:TG)(u:yh):yh:=λvs Z H Q=>∃v r,vs=v::r/\t v Z H λZ' H'=>u r Z' H' Q
theorem ziC:I9 X [] qX:=by
 intro ao s Z H vs us Q I r h;obtain⟨e,h⟩:=h;subst e;cases r;exact assignInOrder_nil ⟨Z,H,I,h⟩
theorem Ud{e:Expr}{es:List Expr}{t:TG}{u:yh}(h1:PG X e t)(h2:I9 X es u)
  (hs:(assignEach (e::es) X.env).map (·.2)=assign e X.env::(assignEach es X.env).map (·.2):=by rfl):I9 X (e::es) (gG t u):=by
 intro ao s Z H vs us Q I r h;obtain⟨v,vr,e1,h⟩:=h;subst e1;cases r with
 |cons r rr=>
  rw[hs];refine assignInOrder_cons (aZ (h1 ao s Z H _ _ _ I r h) λ_ s1 ⟨Z1,H1,I1,q1⟩=>?_);exact h2 ao s1 Z1 H1 _ _ Q I1 rr q1
noncomputable def qY(K:W.Frag)(n:Nat)(t:yh):TG:=λv Z H Q=>∃a xs,v=.ref a/\fP K H a xs/\xs.length=n/\t xs Z H Q
theorem zkj{es:List Expr}{k:Nat}{t:yh}{n:Nat}(hc:X.aj=true)(h:I9 X es t)
  (hn:(assignEach es X.env).length=n:=by rfl) (yp:(assignEach es X.env).findIdx? (·.1)=none:=by rfl):PG X (.Tuple es k pos) (qY X.K n t):=by
 intro ao s Z H v u Q I r hw;obtain⟨a,xs,e1,hq,hl,hw⟩:=hw;subst e1;cases r;obtain⟨its,rv,ht,hz⟩:=I.tuple hq;refine assign_Tuple_tuple (I.ok.hd hc) ht (by simp[hn,<-hl,rv.length]) yp λh' hx=>?_;have I1:Inv X ao Z H {s with heap:=h'}:=I.kept (t':=s.toks) λb o e=>hx b o (dw (bQ e)) e;exact h ao _ Z H xs _ Q I1 (by simpa using rv) hw
noncomputable def Mz(to ti:TE)(t:yj):TG:=λv Z H Q=>to Z H λo H1=>ti Z H1 λi H2=>t o i v H2 λH3=>Q Z H3
theorem zlG{o i:Expr}{to ti:TE}{t:yj}(ho:PE X o to)(hi:PE X i ti)(hs:Dk X t)
  (ha:∀v,assign (.Subscript o i pos) X.env v=(do
   let ov <-holding [v] (eval o X.env)
   let iv <-holding [v,ov] (eval i X.env)
   standAt pos
   holding [v,ov,iv] (setItem ov iv v)
   release [v,ov,iv] []):=by intro _;rfl):PG X (.Subscript o i pos) (Mz to ti t):=by
 intro ao s Z H v u Q I r h;rw[ha];refine aC (qy (aZ (ho ao s Z H _ I h) λov s1 hx=>dY hx λx H1 I1 r1 q1=>?_));refine aC (qy (aZ (hi ao s1 Z H1 _ I1 q1) λiv s2 hx=>dY hx λy H2 I2 r2 q2=>?_));refine aC (wpAny_standAt (aC (qy (aZ (hs ao s2 Z H2 x y v ov iv u _ I2 r1 r2 r q2) λ_ s3 hx=>ux hx λH3 I3 q3=>?_))));exact wpAny_release ⟨Z,H3,I3,q3⟩
noncomputable def yq(te:TE)(g:TG):TS:=λD Z H=>te Z H λx H1=>g x Z H1 D.nx
theorem Ue{tg e:Expr}{te:TE}{g:TG}(he:PE X e te)(hg:PG X tg g)(hs:swapsWithSole [tg] e pos.line X.env=pure false:=by rfl)(hw:swappedStores [tg] e X.env=pure none:=by rfl)
  (h1:(assignEach [tg] X.env).map (·.2)=[assign tg X.env]:=by rfl):PS X (.Assign [tg] e pos) (yq te g):=by
 intro ao s Z H D I h;refine wpAny_Assign_stores (aZ (he ao s Z H _ I h) λv s1 hx=>dY hx λx H1 I1 r1 q1=>?_) hs hw;rw[h1];exact aZ (hg ao s1 Z H1 x v _ I1 r1 q1) λ_ s2 q=>q
theorem zlv{i:Nat}{x:Str}{e:Expr}{te:TE}{pos':Pos}(hN:X.N.Nodup)(hi:X.N[i]?=some x)(hx:Loc X.env.scope x)(he:PE X e te)(hs:swapsWith e (some (.Name x pos')) pos.line X.env=pure false:=by rfl)(hf:X.fn x=true\/X.env.scope.names.lookup x=some .local:=by first|exact .inl rfl|exact .inr rfl|assumption) :
  PS X (.Assign [.Name x pos'] e pos) (yq te (dB i)):=by
 intro ao s Z H D I h;refine wpAny_Assign_Name (aZ (he ao s Z H _ I h) λv s1 ⟨y,H1,I1,r1,q1⟩=>?_) hs;exact IW I1 hN hi hx r1 (λs2 I2=>⟨_,H1,I2,q1⟩) hf
noncomputable def MF(i j:Nat)(ta:TA):TS:=λD Z H=>ta Z H λvs H1=>∃v w,vs=[v,w]/\D.nx ((Z.set i (some v)).set j (some w)) H1
theorem zlK{i j:Nat}{x y:Str}{a b:Expr}{ta:TA}{px py pt:Pos}{kt k2 qZ}(hc:X.aj=true)(hN:X.N.Nodup)(hi:X.N[i]?=some x)(hj:X.N[j]?=some y)(qF:i≠j)
  (hx:X.env.scope.names.lookup x=some .local) (hy:X.env.scope.names.lookup y=some .local) (ha:PA X [a,b] ta)
  (hw:swappedStores [.Tuple [.Name x px,.Name y py] kt pt] (.Tuple [a,b] k2 qZ) X.env=pure (some [x,y]))
  (hs:swapsWithSole [.Tuple [.Name x px,.Name y py] kt pt] (.Tuple [a,b] k2 qZ) pos.line X.env=pure false:=by rfl) :
  PS X (.Assign [.Tuple [.Name x px,.Name y py] kt pt] (.Tuple [a,b] k2 qZ) pos) (MF i j ta):=by
 intro ao s Z H D I h;rw[exec_Assign_arm];refine aC (wpAny_standAt ?_);rw[hs];refine aC (aU ?_);rw[if_neg (by decide)];refine aC (Tuple_ (aZ (ha _ ao s Z H _ I h) λus s1 ⟨vs,H1,I1,r1,q1⟩=>?_));obtain⟨v,w,e1,q1⟩:=q1;subst e1;obtain⟨u1,u2,rfl,rv,jG⟩ : ∃u1 u2,us=[u1,u2]/\RelV v u1/\RelV w u2:=by
  cases r1 with
  |cons p q=>
   cases q with
   |cons p' q'=>
    cases q';exact⟨_,_,rfl,p,p'⟩
 refine qP ?_ (by show 2<=sizeLine;decide);have I2:Inv X ao Z H1 {s1 with heap:=s1.heap.push {cls:=.type "tuple",data:=.seq [u1,u2].toArray}}:=I1.kept (t':=s1.toks) λb o e=>cJ _ e;rw[hw];refine aC (aU ?_);show wpAny (model X.prog X.w) X.A (do rule "assign.swapped-stores";let items <-unpackItems (.ref s1.heap.objs.size) 2 none;assignInOrder [λv=>bindName X.env y v,λv=>bindName X.env x v] items.reverse;pure Flow.next) _ _ _;refine aC (wpAny_rule (aC (unpackItems_tuple (items:=#[u1,u2]) (I.ok.hd hc) (IsTup.new s1.heap _) λh' hx'=>?_)));have I3:=I2.kept (h':=h') (t':=s1.toks) λb o e=>hx' b o (dw (bQ e)) e;show wpAny _ _ (assignInOrder [λv=>bindName X.env y v,λv=>bindName X.env x v] [u2,u1] >>= λ_=>pure Flow.next) _ _ _;refine aC (assignInOrder_cons (wpAny_bindName (IW I3 hN hj (.inl hy) jG (λs2 I4=>?_) (.inr hy))));refine assignInOrder_cons (wpAny_bindName (IW I4 hN hi (.inl hx) rv (λs3 I5=>assignInOrder_nil (aU ?_)) (.inr hx)));rw[List.set_comm _ _ (Ne.symm qF)] at I5;exact⟨_,H1,I5,q1⟩
end
section
variable {X:Cx}{pos:Pos}
end
structure It where
 go:Nat->Hp->Prop
 yr:Nat->Hp->V->Hp->Prop
 stop:Nat->Hp->Prop
def g8(X:Cx)(ao:List (Addr×Obj))(H:Hp)(b:Addr):Prop:=
 H b=none/\b≠X.env.locals/\b∉X.fs/\(b∈X.ex\/X.s₀.heap.objs.size<=b)/\(∀x c,X.env.cells.lookup x=some c->c≠b)/\∀p∈X.pn++ao,p.1≠b
theorem Inv.q_{X:Cx}{ao:List (Addr×Obj)}{Z:St}{H H':Hp}{s:Shared}{b:Addr}(I:Inv X ao Z H s)(hb:s.heap.objs.size<=b)(hn:H' b=none):g8 X ao H' b:=by
 refine⟨hn,uw (gR I.lt hb),I.L_ hb,.inr (jM I.sz hb),λx c e z=>?_,λp hp z=>?_⟩
 ·obtain⟨v,q⟩:=I.cell x c e;exact absurd (gR q.lt (by rw[z];exact hb)) (oA _)
 ·exact absurd (gR (bQ (I.pin p hp).1) (by rw[z];exact hb)) (oA _)
structure Turn(P:Program)(w:World)(K:W.Frag)(tg:Expr)(cg:It)(fp:List Addr)(it:Addr)(tn:Nat->Heap->Prop):Prop where
 mem:it∈fp
 obj:∀i h,tn i h->∀b∈fp,∃o,h.get? b=some o/\∀v,o.data≠.cell v
 keep:∀i h h',tn i h->(∀b∈fp,∀o,h.get? b=some o->h'.get? b=some o)->tn i h'
 item:∀(X:Cx),X.prog=P->X.w=w->X.K=K->X.aj=true->∀(i:Nat) (ao:List (Addr×Obj)) (s:Shared) (Z:St) (H:Hp) (E:Value->Shared->Prop),Inv X ao Z H s->(∀b∈fp,g8 X ao H b)->tn i s.heap->cg.go i H->
  wpAny (model P w) X.A (pyNext (.ref it)) (λr s1=>∃u,r=some u /\
   wpAny (model P w) X.A (letOwnedTupleGo tg (.ref it) u) (λ_ s2=>∃x H',Inv X ao Z H' s2/\RelV x u/\cg.yr i H x H'/\tn (i+1) s2.heap/\∀b∈fp,H' b=none) E s1) E s
 done:∀(X:Cx),X.prog=P->X.w=w->X.K=K->X.aj=true->∀(i:Nat) (ao:List (Addr×Obj)) (s:Shared) (Z:St) (H:Hp) (E:Value->Shared->Prop),Inv X ao Z H s->(∀b∈fp,g8 X ao H b)->tn i s.heap->cg.stop i H->
  wpAny (model P w) X.A (pyNext (.ref it)) (λr s1=>r=none/\Inv X ao Z H s1) E s
 self:∀(A:Around) (i:Nat) (s:Shared) (Q:Value->Shared->Prop) (E:Value->Shared->Prop),tn i s.heap->Q (.ref it) s->wpAny (model P w) A (pyIter (.ref it)) Q E s
noncomputable abbrev TI:=St->Hp->(It->Hp->Prop)->Prop
def PIE(X:Cx)(ao:List (Addr×Obj))(Z:St)(tg:Expr)(R:It->Hp->Prop)(itv:Value)(s2:Shared):Prop:=
 ∃(it:Addr) (fp:List Addr) (tn:Nat->Heap->Prop) (cg:It) (H':Hp),itv=.ref it/\Inv X ao Z H' s2/\Turn X.prog X.w X.K tg cg fp it tn/\tn 0 s2.heap/\(∀b∈fp,g8 X ao H' b)/\R cg H'
def PI(X:Cx)(tg iter:Expr)(wi:TI):Prop:=
 ∀(ao:List (Addr×Obj)) (s:Shared) (Z:St) (H:Hp) (R:It->Hp->Prop),Inv X ao Z H s->wi Z H R->
  wpAny (model X.prog X.w) X.A (eval iter X.env) (λv s1=>wpAny (model X.prog X.w) X.A (pyIter v) (PIE X ao Z tg R) X.xe s1) X.xe s
theorem MJ{M:Model}{A:Around}{E:Value->Shared->Prop}{s:Shared}{tg:Expr}{it:Addr}{u:Value}{o:Obj}{n:String}{vs:Array Value}{Q:Unit->Shared->Prop}(ho:s.heap.get? it=some o)(hc:o.cls=.type n)(hd:o.data=.fields vs)
  (hn:["enumerate","zip","dict_itemiterator","dict_reverseitemiterator","odict_iterator","itertools.zip_longest","itertools.pairwise"].contains n=false) (hQ:Q () s):wpAny M A (letOwnedTupleGo tg (.ref it) u) Q E s:=by
 unfold letOwnedTupleGo;cases tg<;>first
  |exact aU hQ
  | (cases u<;>first
    |exact aU hQ
    | (refine aC (wpAny_load ho ?_)
       rw[hc,hd];show wpAny M A (if (["enumerate","zip","dict_itemiterator","dict_reverseitemiterator","odict_iterator","itertools.zip_longest","itertools.pairwise"].contains n&&vs[0]?==some (rawInt _))=true then _ else _) Q E s;rw[if_neg (by intro h;rw[hn,Bool.false_and] at h;cases h)];exact aU hQ))
noncomputable def Ja(K:W.Frag)(a:Addr):It:=
 ⟨λi H=>∃xs x,cL K H a xs/\xs[i]?=some x,λi H x H'=>H'=H/\∀xs,cL K H a xs->xs[i]?=some x,λi H=>∃xs,cL K H a xs/\xs.length<=i⟩
noncomputable def MK(K:W.Frag)(a:Addr):It:=
 ⟨λi H=>∃xs x,fP K H a xs/\xs[i]?=some x,λi H x H'=>H'=H/\∀xs,fP K H a xs->xs[i]?=some x,λi H=>∃xs,fP K H a xs/\xs.length<=i⟩
noncomputable def Dl(lo:Int)(n:Nat):It:=⟨λi _=>i<n,λi H x H'=>H'=H/\x=.int (lo+i),λi _=>n<=i⟩
theorem ze7{P:Program}{w:World}{K:W.Frag}{tg:Expr}(a it:Addr):Turn P w K tg (Ja K a) [it] it (λi h=>h.IsListIter it a i) where
 mem:=by simp
 obj:=λi h st b hb=>by
  have e:b=it:=by simpa using hb
  subst e;obtain⟨o,e,c,d⟩:=st;exact⟨o,e,λv z=>by rw[d] at z;cases z⟩
 keep:=λi h h' st k=>st.at λo e=>k it (by simp) o e
 item:=by
  intro X hP hw hK hc i ao s Z H E I hf st hg;subst hP hw hK;obtain⟨xs,x,hq,hx⟩:=hg;obtain⟨its,rv,p,hz⟩:=I.list hq;obtain⟨u,hu,ru⟩:=rv.get hx;obtain⟨f0,f1,f2,f3,f4,f5⟩:=hf it (by simp);refine wpAny_pyNext_list_item st p.isList (x:=u) (by simpa using hu) λh' st' sb=>?_;have I1:Inv X ao Z H {s with heap:=h'}:=I.turned (t':=s.toks) (λb o hb e=>(sb.2 b hb).trans e) f0 f1 f3 f4 f5;obtain⟨o,e,c,d⟩:=id st';exact⟨u,rfl,MJ (s:={s with heap:=h'}) e c d (by decide) ⟨x,H,I1,ru,⟨rfl,λys hy=>by rw[I.lY hy hq];exact hx⟩,st',λb hb=>(hf b hb).1⟩⟩
 done:=by
  intro X hP hw hK hc i ao s Z H E I hf st hg;subst hP hw hK;obtain⟨xs,hq,hx⟩:=hg;obtain⟨its,rv,p,hz⟩:=I.list hq;obtain⟨f0,f1,f2,f3,f4,f5⟩:=hf it (by simp);have hl:=rv.length;exact wpAny_pyNext_list_end (I.ok.hd hc) st p.isList (by simp;lia) λh' eb=>⟨rfl,I.turned (t':=s.toks) (λb o hb e=>eb b o hb e) f0 f1 f3 f4 f5⟩
 self:=λ_ _ _ _ _ st h=>wpAny_pyIter_listiter st h
theorem zeJ{P:Program}{w:World}{K:W.Frag}{tg:Expr}(a it:Addr):Turn P w K tg (MK K a) [it] it (λi h=>h.IsTupleIter it a i) where
 mem:=by simp
 obj:=λi h st b hb=>by
  have e:b=it:=by simpa using hb
  subst e;obtain⟨o,e,c,d⟩:=st;exact⟨o,e,λv z=>by rw[d] at z;cases z⟩
 keep:=λi h h' st k=>st.at λo e=>k it (by simp) o e
 item:=by
  intro X hP hw hK hc i ao s Z H E I hf st hg;subst hP hw hK;obtain⟨xs,x,hq,hx⟩:=hg;obtain⟨its,rv,p,hz⟩:=I.tuple hq;obtain⟨u,hu,ru⟩:=rv.get hx;obtain⟨f0,f1,f2,f3,f4,f5⟩:=hf it (by simp);refine wpAny_pyNext_tuple_item st (show s.heap.IsTuple a its.toArray from p) (x:=u) (by simpa using hu) λh' st' sb=>?_;have I1:Inv X ao Z H {s with heap:=h'}:=I.turned (t':=s.toks) (λb o hb e=>(sb.2 b hb).trans e) f0 f1 f3 f4 f5;obtain⟨o,e,c,d⟩:=id st';exact⟨u,rfl,MJ (s:={s with heap:=h'}) e c d (by decide) ⟨x,H,I1,ru,⟨rfl,λys hy=>by rw[I.jO hy hq];exact hx⟩,st',λb hb=>(hf b hb).1⟩⟩
 done:=by
  intro X hP hw hK hc i ao s Z H E I hf st hg;subst hP hw hK;obtain⟨xs,hq,hx⟩:=hg;obtain⟨its,rv,p,hz⟩:=I.tuple hq;obtain⟨f0,f1,f2,f3,f4,f5⟩:=hf it (by simp);have hl:=rv.length;exact wpAny_pyNext_tuple_end (I.ok.hd hc) st (show s.heap.IsTuple a its.toArray from p) (by simp;lia) λh' eb=>⟨rfl,I.turned (t':=s.toks) (λb o hb e=>eb b o hb e) f0 f1 f3 f4 f5⟩
 self:=λ_ _ _ _ _ st h=>wpAny_pyIter_tupleiter st h
theorem zeO{P:Program}{w:World}{K:W.Frag}{tg:Expr}(it:Addr)(lo:Int)(n:Nat):Turn P w K tg (Dl lo n) [it] it (λi h=>IsRangeIter h it (lo+(i:Nat)*1) ((n:Int)-(i:Nat)) 1) where
 mem:=by simp
 obj:=λi h st b hb=>by
  have e:b=it:=by simpa using hb
  subst e;exact⟨_,st,λv z=>by
   have z':Data.fields _=Data.cell v:=z;cases z'⟩
 keep:=λi h h' st k=>k it (by simp) _ st
 item:=by
  intro X hP hw hK hc i ao s Z H E I hf st hg;subst hP hw hK;obtain⟨f0,f1,f2,f3,f4,f5⟩:=hf it (by simp);have W:=Walks.range (prog:=X.prog) (w:=X.w) (I.ok.hd hc) it lo 1 n;refine W.item i s _ _ hg st λv h' tk hv st' kk=>?_;obtain⟨t,rfl⟩:=hv;have I1:Inv X ao Z H {s with heap:=h',toks:=tk}:=I.turned (λb o hb e=>kk b o (by simpa using hb) e) f0 f1 f3 f4 f5;refine⟨_,rfl,MJ (s:={s with heap:=h',toks:=tk}) (n:="range_iterator") st' rfl rfl (by decide) ⟨.int (lo+i),H,I1,⟨t,?_⟩,⟨rfl,rfl⟩,st',λb hb=>(hf b hb).1⟩⟩;rw[Int.mul_one]
 done:=by
  intro X hP hw hK hc i ao s Z H E I hf st hg;subst hP hw hK;obtain⟨f0,f1,f2,f3,f4,f5⟩:=hf it (by simp);exact wpAny_pyNext_range_end (I.ok.hd hc) st (by have:n<=i:=hg;lia) λh' eb=>⟨rfl,I.turned (t':=s.toks) (λb o hb e=>eb b o hb e) f0 f1 f3 f4 f5⟩
 self:=λ_ _ _ _ _ st h=>wpAny_pyIter_rangeiter st h
section
variable {X:Cx}{tg:Expr}
theorem Ug{ao:List (Addr×Obj)}{Z:St}{H:Hp}{s:Shared}{R:It->Hp->Prop}{E:Value->Shared->Prop}{lo hi:Int}{t u v:Tok}{tk:Nat}(I:Inv X ao Z H s)(h1 : -(2^62)<=lo)(h2:lo<2^62)(h3 : -(2^62)<=hi)(h4:hi<2^62)
  (q:R (Dl lo (hi-lo).toNat) H):wpAny (model X.prog X.w) X.A (pyIter (.ref s.heap.objs.size)) (PIE X ao Z tg R) E {s with heap:=s.heap.push {cls:=.type "range",data:=.fields #[.int lo t,.int hi u,.int 1 v]},toks:=tk}:=by
 refine wpAny_pyIter_range (IsRange.new ..) (small_one h1 h2 h3 h4) ?_;have I1:Inv X ao Z H {s with heap:=s.heap.push {cls:=.type "range",data:=.fields #[.int lo t,.int hi u,.int 1 v]},toks:=tk}:=I.kept λb o e=>cJ _ e;refine⟨(s.heap.push {cls:=.type "range",data:=.fields #[.int lo t,.int hi u,.int 1 v]}).objs.size,[(s.heap.push {cls:=.type "range",data:=.fields #[.int lo t,.int hi u,.int 1 v]}).objs.size],_,_,H,rfl,
  I1.kept (t':=tk) λb o e=>cJ _ e,zeO _ lo (hi-lo).toNat,?_,λb hb=>?_,q⟩
 ·have e1:lo+((0:Nat):Int)*1=lo:=by simp
  have e2:(((hi-lo).toNat:Nat):Int)-((0:Nat):Int)=Builtin.Range.rangeSize lo hi 1:=by rw[rangeSize_one];split<;>lia
  show IsRangeIter _ _ (lo+((0:Nat):Int)*1) ((((hi-lo).toNat:Nat):Int)-((0:Nat):Int)) 1;rw[e1,e2];exact fC _ rfl
 ·have e:b=(s.heap.push {cls:=.type "range",data:=.fields #[.int lo t,.int hi u,.int 1 v]}).objs.size:=by simpa using hb
  subst e;exact I1.q_ (bJ _) (I1.hok.fresh (bJ _))
noncomputable def Dm(ta:TA):TI:=λZ H R=>ta Z H λvs H1=>∃j:Int,vs=[.int j]/\-(2^62)<=j/\j<2^62/\R (Dl 0 j.toNat) H1
noncomputable def Dn(ta:TA):TI:=λZ H R=>ta Z H λvs H1=>∃i j:Int,vs=[.int i,.int j]/\(-(2^62)<=i/\i<2^62/\-(2^62)<=j/\j<2^62)/\R (Dl i (j-i).toNat) H1
theorem zfB{a:Expr}{ta:TA}{p pos:Pos}(hg:Gl X "range")(hm:X.mg "range"=none)(ha:PA X [a] ta)(hs:starEach [a] X.env=[(false,eval a X.env)]:=by rfl):PI X tg (.Call (.Name "range" p) [a] [] pos) (Dm ta):=by
 intro ao s Z H R I h;refine Call_ (uz I hg hm boot_range (xq (aZ (ha pos ao s Z H _ I h) λus s1 hx=>dY hx λvs H1 I1 r1 q1=>?_) hs rfl));obtain⟨j,e,q1,q2,q⟩:=q1;subst e;cases r1 with
 |cons r rr=>
  cases rr;obtain⟨t,rfl⟩:=r;exact call_range_1 (Ug I1 (by lia) (by lia) q1 q2 (by simpa using q))
theorem zf5{a b:Expr}{ta:TA}{p pos:Pos}(hg:Gl X "range")(hm:X.mg "range"=none)(ha:PA X [a,b] ta)(hs:starEach [a,b] X.env=[(false,eval a X.env),(false,eval b X.env)]:=by rfl)(wg:starEach [b] X.env=[(false,eval b X.env)]:=by rfl) :
  PI X tg (.Call (.Name "range" p) [a,b] [] pos) (Dn ta):=by
 intro ao s Z H R I h;refine Call_ (uz I hg hm boot_range (xq (aZ (ha pos ao s Z H _ I h) λus s1 hx=>dY hx λvs H1 I1 r1 q1=>?_) (by rw[hs,wg]) (by rw[wg];rfl)));obtain⟨i,j,e,⟨q1,q2,q3,q4⟩,q⟩:=q1;subst e;cases r1 with
 |cons r rr=>
  cases rr with
  |cons r' rr=>
   cases rr;obtain⟨t,rfl⟩:=r;obtain⟨t',rfl⟩:=r';exact call_range_2 (Ug I1 q1 q2 q3 q4 q)
noncomputable def MN(wi:TI)(g:TG)(tb:TS):TS:=λD Z H=>wi Z H λcg H1=>∃W:Nat->Nat->St->Hp->Prop,(∃m,W 0 m Z H1)/\∀i m Z H,W i m Z H->
 (cg.stop i H/\D.nx Z H)\/(cg.go i H/\∃N:St->Hp->Prop,(∀Z' H',N Z' H'->∃m',m'<m/\W (i+1) m' Z' H')/\∀x H',cg.yr i H x H'->g x Z H' λZ2 H2=>tb {D with nx:=N,ct:=N,bk:=D.nx} Z2 H2)
noncomputable def jm(fp:List Addr)(h:Heap):List (Addr×Obj):=fp.filterMap λb=>(h.get? b).map λo=>(b,o)
theorem Jc{fp:List Addr}{h:Heap}{b:Addr}{o:Obj}(hb:b∈fp)(e:h.get? b=some o):(b,o)∈jm fp h:=zW.mpr ⟨b,hb,by rw[e];rfl⟩
theorem zfi{fp:List Addr}{h:Heap}{p:Addr×Obj}(hp:p∈jm fp h):p.1∈fp/\h.get? p.1=some p.2:=by
 obtain⟨b,hb,e⟩:=zW.mp hp;cases q:h.get? b with
 |none=>rw[q] at e;cases e
 |some o=>
  rw[q] at e;have e':(b,o)=p:=cj e;subst e';exact⟨hb,q⟩
theorem Inv.pinned{ao:List (Addr×Obj)}{Z:St}{H:Hp}{s:Shared}{fp:List Addr}(I:Inv X ao Z H s)(hf:∀b∈fp,g8 X ao H b)(ho:∀b∈fp,∃o,s.heap.get? b=some o/\∀v,o.data≠.cell v):Inv X (ao++jm fp s.heap) Z H s:=
 I.kY λp hp=>(nj.mp hp).elim (λz=>I.pin p (sZ _ z)) λz=>by
  obtain⟨hb,e⟩:=zfi z;obtain⟨f0,f1,f2,_⟩:=hf p.1 hb;obtain⟨o,e',d⟩:=ho p.1 hb;rw[e] at e';cases e';exact⟨e,f0,f1,f2,d⟩
theorem Inv.gH{ao pl:List (Addr×Obj)}{Z:St}{H:Hp}{s:Shared}(I:Inv X (ao++pl) Z H s):Inv X ao Z H s:=I.kY λp hp=>I.pin p (sZ _ (List.mem_append_left _ hp))
theorem zkh{iter:Expr}{body:List Stmt}{wi:TI}{g:TG}{tb:TS}{pos:Pos}(hp:PassesOwn (model X.prog X.w) X.A X.env X.xe)(hc:X.aj=true)(hi:PI X tg iter wi)(hg:PG X tg g)(hb:oH X body tb)
  (hs:∀x,foldedSetIterable iter X.env x=pure x:=by intro _;rfl):PS X (.For tg iter body [] pos) (MN wi g tb):=by
 intro ao s Z H D I h;refine wpAny_For (aZ (hi ao s Z H _ I h) λv s1 h1=>aZ h1 λitv s2 h2=>?_) hs;obtain⟨it,fp,tn,cg,H2,e,I2,T,st2,f2,W,⟨m0,w0⟩,turn⟩:=h2;subst e;have stat:∀{H':Hp},(∀b∈fp,H' b=none)->∀b∈fp,g8 X ao H' b:=λhn b hb=>⟨hn b hb,(f2 b hb).2⟩;refine codeAny_forLoop_any (λn s'=>∃i Z' H',Inv X ao Z' H' s'/\tn i s'.heap/\(∀b∈fp,H' b=none)/\W i n Z' H') ?_ m0 ⟨0,Z,H2,I2,st2,λb hb=>(f2 b hb).1,w0⟩;rintro n s3 ⟨i,Z3,H3,I3,st3,Uh,w3⟩;rcases turn i n Z3 H3 w3 with ⟨stop,qn⟩|⟨go,N,hN,step⟩
 ·refine Cg hp (aZ (T.done X rfl rfl rfl hc i ao s3 Z3 H3 X.xe I3 (stat Uh) st3 stop) λr s4 ⟨hr,I4⟩=>?_);subst hr;exact wpAny_execs_nil ⟨Z3,H3,I4,qn⟩
 ·refine Cg hp (aZ (T.item X rfl rfl rfl hc i ao s3 Z3 H3 X.xe I3 (stat Uh) st3 go) λr s4 hx=>ux hx λu hr h4=>?_);subst hr;refine Cg hp (aZ h4 λ_ s5 ⟨x,H5,I5,r5,y5,Ar,Jd⟩=>?_);have I5':=I5.pinned (stat Jd) (T.obj _ _ Ar);refine Cg hp (aZ (hg _ s5 Z3 H5 x u _ I5' r5 (step x H5 y5)) λ_ s6 ⟨Z6,H6,I6,q6⟩=>?_);refine Cg hp (aZ (hb _ s6 Z6 H6 _ I6 q6) λf s7 q7=>?_);have again:∀{Z7:St} {H7:Hp},Inv X (ao++jm fp s5.heap) Z7 H7 s7->N Z7 H7->∃m,m<n/\∃i Z' H',Inv X ao Z' H' s7/\tn i s7.heap/\(∀b∈fp,H' b=none)/\W i m Z' H':=λ{Z7 H7} I7 n7=>by
   obtain⟨m',hm,w7⟩:=hN Z7 H7 n7;refine⟨m',hm,i+1,Z7,H7,I7.gH,T.keep _ _ _ Ar λb hb o e=>(I7.pin (b,o) (sZ _ (sZ _ (Jc hb e)))).1,λb hb=>?_,w7⟩;obtain⟨o,e,d⟩:=T.obj _ _ Ar b hb;exact(I7.pin (b,o) (sZ _ (sZ _ (Jc hb e)))).2.1
  cases f with
  |next=>obtain⟨Z7,H7,I7,n7⟩:=q7;exact again I7 n7
  |cont=>obtain⟨Z7,H7,I7,n7⟩:=q7;exact again I7 n7
  |brk=>obtain⟨Z7,H7,I7,q7⟩:=q7;exact⟨Z7,H7,I7.gH,q7⟩
  |ret v=>obtain⟨x7,Z7,H7,I7,r7,q7⟩:=q7;exact⟨x7,Z7,H7,I7.gH,r7,q7⟩
end
noncomputable abbrev R2:=V->V->Hp->VK->Prop
def eF(X:Cx)(f:Value->Value->Sem Value)(r:R2):Prop:=
 ∀(ao:List (Addr×Obj)) (s:Shared) (Z:St) (H:Hp) (x y:V) (v u:Value) (Q:VK),Inv X ao Z H s->RelV x v->RelV y u->r x y H Q->
  wpAny (model X.prog X.w) X.A (f v u) (EP X ao Z Q) X.xe s
def Je(X:Cx)(f:Value->Sem Value)(r:V->Hp->VK->Prop):Prop:=
 ∀(ao:List (Addr×Obj)) (s:Shared) (Z:St) (H:Hp) (x:V) (v:Value) (Q:VK),Inv X ao Z H s->RelV x v->r x H Q->
  wpAny (model X.prog X.w) X.A (f v) (EP X ao Z Q) X.xe s
def cG(X:Cx)(f:Value)(r:List V->Hp->VK->Prop):Prop:=
 ∀(ao:List (Addr×Obj)) (s:Shared) (Z:St) (H:Hp) (xs:List V) (us:List Value) (Q:VK),Inv X ao Z H s->Vals xs us->r xs H Q->
  wpAny (model X.prog X.w) X.A (call f us) (EP X ao Z Q) X.xe s
def MP(X:Cx)(r:V->Hp->(Bool->Hp->Prop)->Prop):Prop:=
 ∀(ao:List (Addr×Obj)) (s:Shared) (Z:St) (H:Hp) (x:V) (v:Value) (Q:Bool->Hp->Prop),Inv X ao Z H s->RelV x v->r x H Q->
  wpAny (model X.prog X.w) X.A (truthy v) (TP X ao Z Q) X.xe s
noncomputable def Jf(r:R2)(ta tb:TE):TE:=λZ H Q=>ta Z H λx H1=>tb Z H1 λy H2=>r x y H2 Q
noncomputable def tUn(r:V->Hp->VK->Prop)(ta:TE):TE:=λZ H Q=>ta Z H λx H1=>r x H1 Q
noncomputable def rI(C:Int->Int->Prop)(g:Int->Int->V):R2:=λx y H Q=>∃i j,x=.int i/\y=.int j/\C i j/\Q (g i j) H
noncomputable def nu(g:Int->Int->V):R2:=λx y H Q=>∃i j,x=.int i/\y=.int j/\Q (g i j) H
noncomputable def rU(g:Int->V):V->Hp->VK->Prop:=λx H Q=>∃i,x=.int i/\Q (g i) H
section
variable {X:Cx}{a b c:Expr}{ta tb tc:TE}{pos:Pos}
theorem yt(ha:PE X a ta)(hb:PE X b tb){ao:List (Addr×Obj)}{s:Shared}{Z:St}{H:Hp}{R:V->V->Hp->Prop}(I:Inv X ao Z H s)
  (h:ta Z H λx H1=>tb Z H1 λy H2=>R x y H2) {Q:Value->Shared->Prop} {f:Value->Value->Sem Value}
  (hf:∀v u s2 x y H2,Inv X ao Z H2 s2->RelV x v->RelV y u->R x y H2->wpAny (model X.prog X.w) X.A (f v u) Q X.xe s2) :
  wpAny (model X.prog X.w) X.A (eval a X.env) (λv s₁=>wpAny (model X.prog X.w) X.A (eval b X.env) (λu s₂=>wpAny (model X.prog X.w) X.A (f v u) Q X.xe s₂) X.xe s₁) X.xe s:=by
 refine aZ (ha ao s Z H _ I h) λv s1 hx=>dY hx λx H1 I1 r1 q1=>?_;refine aZ (hb ao s1 Z H1 _ I1 q1) λu s2 hx=>dY hx λy H2 I2 r2 q2=>?_;exact hf v u s2 x y H2 I2 r1 r2 q2
theorem zmh{op:Operator}{r:R2}(ho:eF X (binaryOp op) r)(ha:PE X a ta)(hb:PE X b tb):PE X (.BinOp a op b pos) (Jf r ta tb):=by
 intro ao s Z H Q I h;exact wpAny_BinOp (yt ha hb I h λv u s2 x y H2 I2 rx ry q=>ho ao s2 Z H2 x y v u Q I2 rx ry q)
theorem zmD{op:UnaryOp}{r:V->Hp->VK->Prop}(ho:Je X (unaryOp op) r)(ha:PE X a ta):PE X (.UnaryOp op a pos) (tUn r ta):=by
 intro ao s Z H Q I h;exact UnaryOp_ (aZ (ha ao s Z H _ I h) λv s1 hx=>dY hx λx H1 I1 r1 q1=>ho ao s1 Z H1 x v Q I1 r1 q1)
theorem Jg{f:Value->Value->Sem Value}{C:Int->Int->Prop}{g:Int->Int->Int}
  (rule:∀(i j:Int) (t u:Tok) (s:Shared) (Q:Value->Shared->Prop) (E:Value->Shared->Prop),C i j->Q (.int (g i j) s.toks) {s with toks:=s.toks+1}->wpAny (model X.prog X.w) X.A (f (.int i t) (.int j u)) Q E s) :
  eF X f (rI C λi j=>.int (g i j)):=by
 intro ao s Z H x y v u Q I rx ry h;obtain⟨i,j,rfl,rfl,hc,q⟩:=h;obtain⟨t,rfl⟩:=rx;obtain⟨t',rfl⟩:=ry;exact rule i j t t' s _ _ hc ⟨.int (g i j),H,I.tok _,⟨_,rfl⟩,q⟩
theorem Dp{f:Value->Value->Sem Value}{g:Int->Int->Int}
  (rule:∀(i j:Int) (t u:Tok) (s:Shared) (Q:Value->Shared->Prop) (E:Value->Shared->Prop),Q (.int (g i j) s.toks) {s with toks:=s.toks+1}->wpAny (model X.prog X.w) X.A (f (.int i t) (.int j u)) Q E s) :
  eF X f (nu λi j=>.int (g i j)):=by
 intro ao s Z H x y v u Q I rx ry h;obtain⟨i,j,rfl,rfl,q⟩:=h;obtain⟨t,rfl⟩:=rx;obtain⟨t',rfl⟩:=ry;exact rule i j t t' s _ _ ⟨.int (g i j),H,I.tok _,⟨_,rfl⟩,q⟩
theorem uD{f:Value->Value->Sem Value}{g:Int->Int->Bool}
  (rule:∀(i j:Int) (t u:Tok) (s:Shared) (Q:Value->Shared->Prop) (E:Value->Shared->Prop),Q (.bool (g i j)) s->wpAny (model X.prog X.w) X.A (f (.int i t) (.int j u)) Q E s) :
  eF X f (nu λi j=>.bl (g i j)):=by
 intro ao s Z H x y v u Q I rx ry h;obtain⟨i,j,rfl,rfl,q⟩:=h;obtain⟨t,rfl⟩:=rx;obtain⟨t',rfl⟩:=ry;exact rule i j t t' s _ _ ⟨.bl (g i j),H,I,rfl,q⟩
def uE(i j:Int):Prop:=0<j/\j<1073741824
def Dq(i j:Int):Prop:=0<=j/\j<=1000000/\i.natAbs<2^64
def uF(i j:Int):Prop:=(-(2^64)<i/\i<2^64)\/(-(2^64)<j/\j<2^64)
theorem uF.ok{i j:Int}(h:uF i j):IntMulOk i j:=by
 rcases h with ⟨h1,h2⟩|⟨h1,h2⟩
 ·exact .of_left (intBits_le_64 h1 h2)
 ·exact .of_right (intBits_le_64 h1 h2)
theorem yu:eF X (binaryOp .Add) (nu λi j=>.int (i+j)):=Dp λ_ _ _ _ _ _ _ q=>add_int q
theorem zkK:eF X (binaryOp .Sub) (nu λi j=>.int (i-j)):=Dp λ_ _ _ _ _ _ _ q=>sub_int q
theorem zkn:eF X (binaryOp .Mult) (rI uF λi j=>.int (i*j)):=Jg λ_ _ _ _ _ _ _ hc q=>mul_int q hc.ok
theorem zjv:eF X (binaryOp .FloorDiv) (rI uE λi j=>.int (i/j)):=Jg λi j _ _ _ _ _ hc q=>by
 have h1:(0:Int)<j:=hc.1;have h2:j<1073741824:=hc.2;exact floordiv_int (by lia) (by rw[Int.fdiv_eq_ediv_of_nonneg i (by lia)];exact q) (.inl (PyProof.noPylong_small (by lia)))
theorem zjW:eF X (binaryOp .Mod) (rI (λ_ j=>0<j) λi j=>.int (i%j)):=Jg λi j _ _ _ _ _ hc q=>by
 have h1:(0:Int)<j:=hc;exact mod_int' (by lia) (by rw[Int.fmod_eq_emod_of_nonneg i (by lia)];exact q)
theorem zlB:eF X (binaryOp .Pow) (rI Dq λi j=>.int (i^j.toNat)):=Jg λ_ _ _ _ _ _ _ hc q=>pow_int_small hc.1 hc.2.1 hc.2.2 q
theorem unI{f:Value->Sem Value}{g:Int->Int}
  (rule:∀(i:Int) (t:Tok) (s:Shared) (Q:Value->Shared->Prop) (E:Value->Shared->Prop),Q (.int (g i) s.toks) {s with toks:=s.toks+1}->wpAny (model X.prog X.w) X.A (f (.int i t)) Q E s) :
  Je X f (rU λi=>.int (g i)):=by
 intro ao s Z H x v Q I rx h;obtain⟨i,rfl,q⟩:=h;obtain⟨t,rfl⟩:=rx;exact rule i t s _ _ ⟨.int (g i),H,I.tok _,⟨_,rfl⟩,q⟩
theorem zkr:Je X (unaryOp .USub) (rU λi=>.int (-i)):=unI λ_ _ _ _ _ q=>neg_int q
end
section
variable {X:Cx}{a b c:Expr}{ta tb tc:TE}{pos:Pos}
theorem Dr:eF X (compareOp .Lt) (nu λi j=>.bl (decide (i<j))):=uD λ_ _ _ _ _ _ _ q=>lt_int q
theorem zmm:eF X (compareOp .LtE) (nu λi j=>.bl (decide (i<=j))):=uD λ_ _ _ _ _ _ _ q=>le_int q
theorem zmQ:eF X (compareOp .Gt) (nu λi j=>.bl (decide (j<i))):=uD λ_ _ _ _ _ _ _ q=>gt_int q
theorem zma:eF X (compareOp .GtE) (nu λi j=>.bl (decide (j<=i))):=uD λ_ _ _ _ _ _ _ q=>ge_int q
theorem eF.or{f:Value->Value->Sem Value}{r r':R2}(h:eF X f r)(h':eF X f r'):eF X f (λx y H Q=>r x y H Q\/r' x y H Q):=by
 intro ao s Z H x y v u Q I rx ry q;rcases q with q|q
 ·exact h ao s Z H x y v u Q I rx ry q
 ·exact h' ao s Z H x y v u Q I rx ry q
theorem zh8{op:CmpOp}{r:R2}(ho:eF X (compareOp op) r)(ha:PE X a ta)(hb:PE X b tb)(hm:behindInMarks op b=false):PE X (.Compare a [op] [b] pos) (Jf r ta tb):=by
 intro ao s Z H Q I h;exact wpAny_Compare1 (yt ha hb I h λv u s2 x y H2 I2 rx ry q=>ho ao s2 Z H2 x y v u Q I2 rx ry q) hm
noncomputable def Ds(t:TE):TT:=λZ H Q=>t Z H λx H'=>∃k,x=.bl k/\Q k H'
theorem ziz{op:CmpOp}{r:R2}(ho:eF X (compareOp op) r)(ha:PE X a ta)(hb:PE X b tb)(hm:behindInMarks op b=false):PT X (.Compare a [op] [b] pos) (Ds (Jf r ta tb)):=by
 intro ao s Z H Q I h;refine wpAny_isTrue_Compare1 (aZ (ha ao s Z H _ I h) λv s1 hx=>dY hx λx H1 I1 r1 q1=>aZ (hb ao s1 Z H1 _ I1 q1) λu s2 hx=>dY hx λy H2 I2 r2 q2=>
  aZ (ho ao s2 Z H2 x y v u _ I2 r1 r2 q2) λc s3 hx=>Ly hx λz H3 I3 r3 k e q3=>?_) hm
 subst e;cases r3;exact tu ⟨H3,I3,q3⟩
noncomputable def yw(r r':R2)(ta tb tc:TE):TE:=λZ H Q=>ta Z H λx H1=>tb Z H1 λy H2=>r x y H2 λz H3=>∃k,z=.bl k /\
 (if k=true then tc Z H3 λw' H4=>r' y w' H4 Q else Q (.bl false) H3)
theorem zgZ{op op':CmpOp}{r r':R2}(ho:eF X (compareOp op) r)(qW:eF X (compareOp op') r')(ha:PE X a ta)(hb:PE X b tb)(hc:PE X c tc)
  (hm:lastMarks [op,op'] [b,c]=false:=by with_unfolding_all rfl):PE X (.Compare a [op,op'] [b,c] pos) (yw r r' ta tb tc):=by
 intro ao s Z H Q I h;refine Compare_chain (aZ (ha ao s Z H _ I h) λv s1 hx=>dY hx λx H1 I1 r1 q1=>chain_link (aZ (hb ao s1 Z H1 _ I1 q1) λu s2 hx=>dY hx λy H2 I2 r2 q2=>
  aZ (ho ao s2 Z H2 x y v u _ I2 r1 r2 q2) λd s3 hx=>Ly hx λz H3 I3 r3 k e q3=>?_)) hm
 subst e;cases r3;refine tu ?_;cases k with
 |false=>exact ite_ff ⟨.bl false,H3,I3,rfl,q3⟩
 |true=>exact ite_tt (chain_last (aZ (hc ao s3 Z H3 _ I3 q3) λw' s4 hx=>dY hx λz' H4 I4 r4 q4=>qW ao s4 Z H4 y z' u w' Q I4 r2 r4 q4))
def yx(K:W.Frag)(x:V)(H:Hp)(k:Bool):Prop:=
 match x with
 |.non=>k=false
 |.bl b=>k=b
 |.int i=>k=(i != 0)
 |.str y=>y.length<=sizeLine/\k=((y.length:Int) != 0)
 |.xX y=>y.size<=sizeLine/\k=((y.size:Int) != 0)
 |.ref p=>(∃xs,cL K H p xs/\k = !xs.isEmpty)\/(∃xs,fP K H p xs/\k = !xs.isEmpty)\/∃kvs,H p=some (.dK kvs)/\k = !kvs.isEmpty
 |_=>False
theorem zeW{κ:Type}{kvs:List (κ×V)}{vs:List (κ×Value)}(r:KV kvs vs):(!vs.isEmpty) = !kvs.isEmpty:=by
 cases r<;>rfl
theorem Ui{xs:List V}{its:List Value}(r:Vals xs its):(!its.toArray.isEmpty) = !xs.isEmpty:=by
 cases r<;>simp
theorem g_:(sizeLine:Nat)<2^63:=by rw[tK];decide
theorem zlP:MP X (λx H Q=>∃k,yx X.K x H k/\Q k H):=by
 intro ao s Z H x v Q I rx h;obtain⟨k,e,q⟩:=h;have hl:=g_;have hs:sizeLine=16777216:=tK;cases x with
 |non=>
  cases rx;have e':k=false:=e;subst e';exact truthy_none ⟨H,I,q⟩
 |bl b=>
  cases rx;have e':k=b:=e;subst e';exact tu ⟨H,I,q⟩
 |int i=>
  obtain⟨t,rfl⟩:=rx;have e':k=(i != 0):=e;subst e';exact PySem.P.truthy_int ⟨H,I,q⟩
 |str y=>
  obtain⟨t,rfl⟩:=rx;obtain⟨hy,e'⟩ : y.length<=sizeLine/\k=((y.length:Int) != 0):=e;subst e';exact PySem.P.truthy_str (by lia) ⟨H,I.tok _,q⟩
 |xX y=>
  obtain⟨t,rfl⟩:=rx;obtain⟨hy,e'⟩ : y.size<=sizeLine/\k=((y.size:Int) != 0):=e;subst e';exact PySem.W.truthy_bytes (by lia) ⟨H,I.tok _,q⟩
 |ref p=>
  cases rx;have e':(∃xs,cL X.K H p xs/\k = !xs.isEmpty)\/(∃xs,fP X.K H p xs/\k = !xs.isEmpty)\/∃kvs,H p=some (.dK kvs)/\k = !kvs.isEmpty:=e;rcases e' with ⟨xs,hx,e'⟩|⟨xs,hx,e'⟩|⟨kvs,hx,e'⟩
  ·subst e';obtain⟨its,r,pl,hz⟩:=I.list hx;have hlen:=r.length;exact wpAny_truthy_list pl.isList (by simp only[fH];lia) ⟨H,I.tok _,by rw[Ui r];exact q⟩
  ·subst e';obtain⟨its,r,pl,hz⟩:=I.tuple hx;have hlen:=r.length;exact truthy_tuple pl (by simp only[fH];lia) ⟨H,I.tok _,by rw[Ui r];exact q⟩
  ·subst e';obtain⟨hz,hS,vs,r,m⟩ : kvs.length<=sizeLine/\(p==sysModules)=false/\∃vs,KV kvs vs/\s.heap.DictOf (kE X.prog X.w) p vs:=I.hok p _ hx;have hlen:kvs.length=vs.length:=Paired.length r;exact wpAny_truthy_dict hS m (by lia) ⟨H,I.tok _,by rw[zeW r];exact q⟩
 |_=>exact(show False from e).elim
theorem zeX:eF X (binaryOp .Add) (λx y H Q=>∃i j,x=.str i/\y=.str j/\i.length+j.length<=sizeLine/\Q (.str (i++j)) H):=by
 intro ao s Z H x y v u Q I rx ry h;obtain⟨i,j,rfl,rfl,hz,q⟩:=h;obtain⟨t,rfl⟩:=rx;obtain⟨t',rfl⟩:=ry;exact add_str (λt' tk=>⟨.str (i++j),H,I.tok _,⟨_,rfl⟩,q⟩) hz
theorem vals1{x:V}{us:List Value}(r:Vals [x] us):∃u,us=[u]/\RelV x u:=by
 cases r with
 |cons r1 r2=>cases r2;exact⟨_,rfl,r1⟩
theorem vals2{x y:V}{us:List Value}(r:Vals [x,y] us):∃u w',us=[u,w']/\RelV x u/\RelV y w':=by
 cases r with
 |cons r1 r2=>
  cases r2 with
  |cons r3 r4=>cases r4;exact⟨_,_,rfl,r1,r3⟩
theorem zhd:cG X (.builtin "abs") (λxs H Q=>∃i,xs=[.int i]/\Q (.int (if i<0 then -i else i)) H):=by
 intro ao s Z H xs us Q I r h;obtain⟨i,rfl,q⟩:=h;obtain⟨u,rfl,t,rfl⟩:=vals1 r;exact call_abs_int λu tk=>⟨.int (if i<0 then -i else i),H,I.tok _,⟨_,rfl⟩,q⟩
theorem zf9(hc:X.aj=true):cG X (.builtin "max") (λxs H Q=>∃i j,xs=[.int i,.int j]/\Q (.int (if j>i then j else i)) H):=by
 intro ao s Z H xs us Q I r h;obtain⟨i,j,rfl,q⟩:=h;obtain⟨u,w',rfl,⟨t,rfl⟩,⟨t',rfl⟩⟩:=vals2 r;refine max_two_ints (I.ok.hd hc) λh' tk k=>⟨_,H,I.kept k,?_,q⟩;by_cases hj:j>i
 ·rw[if_pos hj,if_pos hj];exact⟨_,rfl⟩
 ·rw[if_neg hj,if_neg hj];exact⟨_,rfl⟩
theorem zfu(hc:X.aj=true):cG X (.builtin "min") (λxs H Q=>∃i j,xs=[.int i,.int j]/\Q (.int (if j<i then j else i)) H):=by
 intro ao s Z H xs us Q I r h;obtain⟨i,j,rfl,q⟩:=h;obtain⟨u,w',rfl,⟨t,rfl⟩,⟨t',rfl⟩⟩:=vals2 r;refine min_two_ints (I.ok.hd hc) λh' tk k=>⟨_,H,I.kept k,?_,q⟩;by_cases hj:j<i
 ·rw[if_pos hj,if_pos hj];exact⟨_,rfl⟩
 ·rw[if_neg hj,if_neg hj];exact⟨_,rfl⟩
theorem zgg:cG X (.type "int") (λxs H Q=>(∃i,xs=[.int i]/\Q (.int i) H)\/∃k,xs=[.bl k]/\Q (.int (if k then 1 else 0)) H):=by
 intro ao s Z H xs us Q I r h;rcases h with ⟨i,rfl,q⟩|⟨k,rfl,q⟩
 ·obtain⟨u,rfl,t,rfl⟩:=vals1 r;exact call_int_int ⟨.int i,H,I,⟨_,rfl⟩,q⟩
 ·obtain⟨u,rfl,r1⟩:=vals1 r;cases r1;exact call_int_bool ⟨.int (if k then 1 else 0),H,I.tok _,⟨_,rfl⟩,q⟩
theorem zc9:cG X (.builtin "divmod") (λxs H Q=>∃i j,xs=[.int i,.int j]/\uE i j/\∀p,H p=none->Q (.ref p) (upd H p (.tup [.int (i/j),.int (i%j)]))):=by
 intro ao s Z H xs us Q I r h;obtain⟨i,j,rfl,⟨h1,h2⟩,q⟩:=h;obtain⟨u,w',rfl,⟨t,rfl⟩,⟨t',rfl⟩⟩:=vals2 r;refine divmod_int (by lia) ?_ (.inl (PyProof.noPylong_small (by lia)));rw[Int.fdiv_eq_ediv_of_nonneg i (by lia),Int.fmod_eq_emod_of_nonneg i (by lia)];have hn:H s.heap.objs.size=none:=I.hok.fresh (bJ _);refine⟨.ref s.heap.objs.size,_,?_,rfl,q _ hn⟩;refine I.laid (λb o e=>cJ _ e) (bJ _) ⟨by simp only[gD,Ad];rw[tK];decide,[.int (i/j) s.toks,.int (i%j) (s.toks+1)],.cons ⟨_,rfl⟩ (.cons ⟨_,rfl⟩ .nil),?_⟩;exact⟨_,fC s.heap rfl,rfl,0,rfl⟩
end
structure nA(h:Heap)(x dx C:Addr)(mA:Str->Option Value):Prop where
 obj:h.get? x=some (PySem.W.instObj C dx)
 ns:h.Ns1 dx mA
 ne:dx≠x
theorem zfP{h:Heap}{dx:Addr}{mA:Str->Option Value}(n:h.Ns1 dx mA):∃od,h.get? dx=some od/\∀name,PySem.W.lookIn name od=some (mA name):=by
 obtain⟨o,es,ep,ho,hd,hk,_,hm⟩:=n;refine⟨o,ho,λname=>?_⟩;have e:=hm name;unfold nsFind findBy at e;rw[<-Array.find?_toList] at e;unfold PySem.W.lookIn;rw[hd];dsimp only
 split
 ·rename_i y q;rw[q] at e;exact lQ some e
 ·rename_i q;rw[q] at e;have a:es.toList.any (·.refKey)=false:=by
   rw[List.any_eq_false];intro y hy;obtain⟨z,t,M4⟩:=hk y (Array.mem_toList_iff.mp hy);simp[DictEntry.refKey,M4]
  have a':¬es.toList.any (·.refKey)=true:=by rw[a];exact Lp
  rw[if_neg a'];exact lQ some e
theorem nA.look{h:Heap}{x dx C:Addr}{mA:Str->Option Value}(I:nA h x dx C mA):∃od,PySem.W.InstAt h x (PySem.W.instObj C dx) C (some od)/\∀name,PySem.W.lookIn name od=some (mA name):=
 let ⟨od,ho,hl⟩:=zfP I.ns
 ⟨od,⟨I.obj,rfl,rfl,ho⟩,hl⟩
section
variable {prog:Program}{w:World}{A:Around}{E:Value->Shared->Prop}{s:Shared}{K:W.Frag}{x dx C f:Addr}{mA:Str->Option Value}{name:Str}{v:Value}
theorem zib{expr:Bool}{Q:Value->Shared->Prop}(X:K.In s.heap)(I:nA s.heap x dx C mA)(hg:PySem.W.plainGet K C name=true)(hh:PySem.W.hasDictIn K C=true)
  (ha:PySem.W.findIn K (.ref C) name=some none) (hv:mA name=some v) (M5:PySem.W.handedIn v=true) (h:Q v {s with toks:=s.toks+1}) :
  wpAny (model prog w) A (getAttr (.ref x) name expr) Q E s:=by
 obtain⟨od,cg,hl⟩:=I.look;exact PySem.W.get_value X cg (Ln hg).1 (PySem.W.findObj_own hh ha rfl (by rw[hl,hv])) M5 h
theorem zhk{pl:Sem Bool}{Q:Value×List Value->Shared->Prop}(X:K.In s.heap)(I:nA s.heap x dx C mA)(hg:PySem.W.plainGet K C name=true)
  (hf:PySem.W.findIn K (.ref C) name=some (some (.ref f))) (ht:PySem.W.isFn K (.ref f)=true) (hv:mA name=none) (h:Q (.ref f,[.ref x]) s) :
  wpAny (model prog w) A (getMethod (.ref x) name pl) Q E s:=by
 obtain⟨od,cg,hl⟩:=I.look;exact PySem.W.method_fn X cg (Ln hg).1 (Ln hg).2 hf (m5.mp ht) (by show (PySem.W.lookIn name od).map (·.isSome)=some false;rw[hl,hv];rfl) h
theorem ziY{ns:List Str}{Q:Unit->Shared->Prop}(X:K.In s.heap)(I:nA s.heap x dx C mA)
  (hs:PySem.W.findIn K (.ref C) "__setattr__"=some (some (.builtin "object.__setattr__"))) (hp:PySem.W.plainOver K C=true) (ht:PySem.W.takerIn K C name=some none) (hh:PySem.W.hasDictIn K C=true)
  (hw:PySem.Within mA ns) (hsz:ns.length<=sizeLine)
  (h:∀h',nA h' x dx C (λy=>if y=name then some v else mA y)->Heap.SameBut dx s.heap h'->Q () {s with heap:=h',toks:=s.toks+2}) :
  wpAny (model prog w) A (setAttr (.ref x) name v) Q E s:=by
 obtain⟨od,cg,hl⟩:=I.look;refine PySem.W.set_plain X cg hs (PySem.W.osa_open (s:={s with toks:=s.toks+1}) (r:=none) X cg hp ht λb=>?_);obtain⟨cd,hc,CW⟩:=PySem.W.any_some hh;have hx:s.heap.get? x=some ⟨.ref C,some dx,.plain,#[]⟩:=I.obj;refine aC (aU (aC (aC (wpAny_loadPart hx (aC (PySem.W.Looks.here (s:={s with toks:=s.toks+1}) (PySem.W.looks_clsIn X hc) ?_))))));rw[CW];refine aU (a:=some dx) (aC (aU (aC ?_)));refine wpAny_nsSet1 (s:={s with toks:=s.toks+1}) I.ns λh' Uj wg=>?_;obtain⟨oD,esD,epD,hoD,hdD,hcD⟩:=Uj.count (PySem.Within.cons name v hw);refine aC (wpAny_lookBehind hoD (by rw[hdD];exact pastItsLine_dict (jM hcD (by rw[gD];lia))) ?_);exact aU (h _ ⟨(wg.2 _ (Ne.symm I.ne)).trans I.obj,Uj,I.ne⟩ wg)
theorem zhg{R:Result->Shared->Prop}{vs:List Value}{kw:List (Str×Value)}(X:K.In s.heap)(hm:PySem.W.makesIn K C=true)
  (hi:PySem.W.findIn K (.ref C) "__init__"=some (some (.ref f))) (hf:PySem.W.typeIn K (.ref f)=some (.type "function"))
  (h:codeAny (model prog w) (A.under (.builtin "type.__call__" ⟨.ref C::vs,kw⟩)) (.call (.ref f) ⟨.ref (s.heap.objs.size+1)::vs,kw⟩) (PySem.W.InitBack (s.heap.objs.size+1) R)
   {s with heap:=(s.heap.push PySem.W.emptyDict).push (PySem.W.instObj C s.heap.objs.size)}) :
  codeAny (model prog w) A (.call (.ref C) ⟨vs,kw⟩) R s:=by
 obtain⟨hh,g,d,t,os⟩:=s;exact PySem.W.make_core (PySem.W.makes_of X hm) (PySem.W.looks_findIn X hi) (λself=>PySem.W.bind_fn X self hf) (.inl rfl) h
end
noncomputable def eG(f:Str)(v:V):List (Str×V)->List (Str×V)
 |[]=>[(f,v)]
 |(g,x)::r=>if g=f then (g,v)::r else (g,x)::eG f v r
theorem Uk(f g:Str)(v:V):∀fs:List (Str×V),(eG f v fs).lookup g=if g=f then some v else fs.lookup g
 |[]=>by
  show List.lookup g [(f,v)]=_;by_cases h:g=f
  ·have hb:(g==f)=true:=m5.mpr h;simp only[List.lookup,hb,if_pos h]
  ·have hb:(g==f)=false:=vM.mpr h;simp only[List.lookup,hb,if_neg h]
 |(k,x)::r=>by
  have ih:=Uk f g v r;rw[show eG f v ((k,x)::r)=(if k=f then (k,v)::r else (k,x)::eG f v r) from rfl];by_cases hk:k=f
  ·rw[if_pos hk];by_cases h:g=k
   ·have hb:(g==k)=true:=m5.mpr h;simp only[List.lookup,hb,if_pos (h.trans hk)]
   ·have hb:(g==k)=false:=vM.mpr h;simp only[List.lookup,hb,if_neg (λe:g=f=>h (e.trans hk.symm))]
  ·rw[if_neg hk];by_cases h:g=k
   ·have hb:(g==k)=true:=m5.mpr h;simp only[List.lookup,hb,if_neg (λe:g=f=>hk (h.symm.trans e))]
   ·have hb:(g==k)=false:=vM.mpr h;simp only[List.lookup,hb];exact ih
theorem M6(f:Str)(v:V):∀fs:List (Str×V),f∈(eG f v fs).map (·.1)/\∀g,g∈fs.map (·.1)->g∈(eG f v fs).map (·.1)
 |[]=>⟨by simp[eG],λg h=>by simp at h⟩
 |(k,x)::r=>by
  obtain⟨i1,i2⟩:=M6 f v r;rw[show eG f v ((k,x)::r)=(if k=f then (k,v)::r else (k,x)::eG f v r) from rfl];by_cases hk:k=f
  ·rw[if_pos hk];subst hk;exact⟨by simp,λg h=>by simpa using h⟩
  ·rw[if_neg hk];refine⟨?_,λg h=>?_⟩
   ·rw[jk];exact gQ _ i1
   ·rw[jk] at h ⊢;rcases jd.mp h with e|e
    ·exact jd.mpr (.inl e)
    ·exact gQ _ (i2 g e)
theorem Ul(f:Str)(v:V):∀fs:List (Str×V),(eG f v fs).length<=fs.length+1
 |[]=>by simp[eG]
 |(k,x)::r=>by
  have ih:=Ul f v r;rw[show eG f v ((k,x)::r)=(if k=f then (k,v)::r else (k,x)::eG f v r) from rfl];by_cases hk:k=f
  ·rw[if_pos hk,gD,gD];lia
  ·rw[if_neg hk,gD,gD];lia
theorem Kaf{v:V}{o:Option Value}(r:pN (some v) o):∃u,o=some u/\RelV v u:=by
 cases o with
 |none=>exact(show False from r).elim
 |some u=>exact⟨u,rfl,r⟩
theorem Kae{o:Option Value}(r:pN none o):o=none:=by
 cases o with
 |none=>rfl
 |some u=>exact(show False from r).elim
theorem zf1{v:V}{u:Value}(r:RelV v u):PySem.W.handedIn u=true:=by
 cases v with
 |non=>cases (show u=Value.none from r);rfl
 |bl b=>cases (show u=Value.bool b from r);rfl
 |int i=>obtain⟨t,e⟩:=(show ∃t,u=Value.int i t from r);cases e;rfl
 |str x=>obtain⟨t,e⟩:=(show ∃t,u=Value.str x t from r);cases e;rfl
 |xX b=>obtain⟨t,e⟩:=(show ∃t,u=Value.bytes b t from r);cases e;rfl
 |flt b=>obtain⟨t,e⟩:=(show ∃t,u=Value.float b t from r);cases e;rfl
 |ref a=>cases (show u=Value.ref a from r);rfl
 |ty n=>cases (show u=Value.type n from r);rfl
section
variable {P:Program}{w:World}{H H':Hp}{h h':Heap}{a C dx:Addr}{fs fs':List (Str×V)}
theorem M7(hok:gW P w H h)(e:H a=some (.ins C dx fs)):∃mA,nA h a dx C mA/\(∀f,pN (fs.lookup f) (mA f))/\PySem.Within mA (fs.map (·.1))/\fs.length<=1000/\H dx=some (.own a):=by
 obtain⟨d,z,ne,ob,mA,n,r,q⟩:=(show bH P w H h a (.ins C dx fs) from hok a _ e);exact⟨mA,⟨ob,n,ne⟩,r,q,z,d⟩
end
structure Cls(K:W.Frag)(C:Addr):Prop where
 pg:PySem.W.plainGet K C Str.empty=true
 hd:PySem.W.hasDictIn K C=true
 po:PySem.W.plainOver K C=true
 sa:PySem.W.findIn K (.ref C) "__setattr__"=some (some (.builtin "object.__setattr__"))
theorem Cls.get{K:W.Frag}{C:Addr}(c:Cls K C)(f:Str):PySem.W.plainGet K C f=true:=c.pg
def f9(K:W.Frag)(C:Addr)(f:Str):Prop:=PySem.W.findIn K (.ref C) f=some none
theorem f9.taker{K:W.Frag}{C:Addr}{f:Str}(n:f9 K C f):PySem.W.takerIn K C f=some none:=by
 unfold PySem.W.takerIn;rw[show PySem.W.findIn K (.ref C) f=some none from n];rfl
structure Meth(K:W.Frag)(C:Addr)(m:Str)(f:Addr):Prop where
 at_:PySem.W.findIn K (.ref C) m=some (some (.ref f))
 fn:PySem.W.isFn K (.ref f)=true
 kp:PySem.W.keepIn K (.ref f)=true
section
variable {X:Cx}{ao:List (Addr×Obj)}{Z:St}{H:Hp}{s:Shared}{a C dx:Addr}{fs:List (Str×V)}{f:Str}{v:V}{A:Around}{E:Value->Shared->Prop}
theorem zey{b:Bool}{Q:Value->Shared->Prop}(I:Inv X ao Z H s)(e:H a=some (.ins C dx fs))(c:Cls X.K C)(n:f9 X.K C f)(l:fs.lookup f=some v)
  (h:∀u s',Inv X ao Z H s'->RelV v u->Q u s'):wpAny (model X.prog X.w) A (getAttr (.ref a) f b) Q E s:=by
 obtain⟨mA,O,r,_,_,_⟩:=M7 I.hok e;obtain⟨u,hu,ru⟩:=Kaf (v:=v) (o:=mA f) (by rw[<-l];exact r f);exact zib I.lV O (c.get f) c.hd n hu (zf1 ru) (h u _ (I.tok _) ru)
theorem zes{m:Str}{g:Addr}{pl:Sem Bool}{Q:Value×List Value->Shared->Prop}(I:Inv X ao Z H s)(e:H a=some (.ins C dx fs))(c:Cls X.K C)(k:Meth X.K C m g)(l:fs.lookup m=none)
  (h:Q (.ref g,[.ref a]) s):wpAny (model X.prog X.w) A (getMethod (.ref a) m pl) Q E s:=by
 obtain⟨mA,O,r,_,_,_⟩:=M7 I.hok e;have hn:mA m=none:=Kae (by rw[<-l];exact r m);exact zhk I.lV O (c.get m) k.at_ k.fn hn h
theorem zeM{y:V}{u:Value}{Q:Unit->Shared->Prop}(I:Inv X ao Z H s)(e:H a=some (.ins C dx fs))(c:Cls X.K C)(n:f9 X.K C f)(hl:fs.length<1000)(ry:RelV y u)
  (h:∀s',Inv X ao Z (upd H a (.ins C dx (eG f y fs))) s'->Q () s'):wpAny (model X.prog X.w) A (setAttr (.ref a) f u) Q E s:=by
 obtain⟨mA,O,r,wi,_,ho⟩:=M7 I.hok e;have hz:(fs.map (·.1)).length<=sizeLine:=by rw[cU,tK];lia
 refine ziY I.lV O c.sa c.po n.taker c.hd wi hz λh' O' sb=>h _ ?_;have hd:∃o,h'.get? dx=some o:=let ⟨o,_,_,e',_⟩:=O'.ns;⟨o,e'⟩;refine I.write (x:=a) (e:=dx) (by rw[e];exact True.intro) (.inr ho) (λb q hb z=>(sb.2 b hb).trans z) hd ?_;refine⟨by rw[dO O.ne];exact ho,?_,O.ne,O'.obj,_,O'.ns,λg=>?_,λg hg=>?_⟩
 ·have:=Ul f y fs;lia
 ·show pN ((eG f y fs).lookup g) (if g=f then some u else mA g);rw[Uk];by_cases q:g=f
  ·rw[if_pos q,if_pos q];exact ry
  ·rw[if_neg q,if_neg q];exact r g
 ·by_cases q:g=f
  ·rw[q];exact(M6 f y fs).1
  ·refine(M6 f y fs).2 g (wi g λz=>hg ?_);show (if g=f then some u else mA g)=none;rw[if_neg q];exact z
theorem Inv.made(I:Inv X ao Z H s):Inv X ao Z (upd (upd H s.heap.objs.size (.own (s.heap.objs.size+1))) (s.heap.objs.size+1) (.ins C s.heap.objs.size []))
  {s with heap:=(s.heap.push PySem.W.emptyDict).push (PySem.W.instObj C s.heap.objs.size)}:=by
 have e1:(s.heap.push PySem.W.emptyDict).get? s.heap.objs.size=some PySem.W.emptyDict:=fC s.heap rfl;have e2:((s.heap.push PySem.W.emptyDict).push (PySem.W.instObj C s.heap.objs.size)).get? (s.heap.objs.size+1)=some (PySem.W.instObj C s.heap.objs.size):=by
  have:=fC (s.heap.push PySem.W.emptyDict) (o:=PySem.W.instObj C s.heap.objs.size) rfl
  rwa [tH] at this
 have e3:(s.heap.push PySem.W.emptyDict).Ns s.heap.objs.size (λ_=>none):=⟨PySem.W.emptyDict,#[],_,e1,rfl,(λe he=>absurd he (by simp)),λ_=>rfl⟩;have I1:=I.laid (a:=s.heap.objs.size) (o:=.own (s.heap.objs.size+1)) (h':=s.heap.push PySem.W.emptyDict) (t':=s.toks) (λb u q=>cJ _ q) (bJ _) ⟨_,e1⟩;refine I1.laid (a:=s.heap.objs.size+1) (o:=.ins C s.heap.objs.size []) (t':=s.toks) (λb u q=>cJ _ q) (Nat.le_of_eq (tH _ _)) ?_;have ne:s.heap.objs.size≠s.heap.objs.size+1:=dw (Ij _);refine⟨by rw[dO ne,jy],xQ _,ne,e2,λ_=>none,(Heap.Ns1.of_empty e3).at λo q=>cJ _ q,λ_=>True.intro,λy hy=>absurd rfl hy⟩
theorem ziv{prog:Program}{w:World}{env:Env}{e:Expr}{f:Str}{pos:Pos}{s:Shared}{Q:Value->Shared->Prop}(hb:attributeBase e f env (eval e env)=eval e env)
  (h:wpAny (model prog w) A (eval e env) (λo s₁=>wpAny (model prog w) A (getAttr o f true) Q E s₁) E s):wpAny (model prog w) A (eval (.Attribute e f pos) env) Q E s:=
 Attribute_any_ h (by rw[arm_eval_Attribute,hb])
end
noncomputable def M8(K:W.Frag)(ta:TE)(f:Str):TE:=λZ H Q=>ta Z H λx H1=>∃a C dx fs v,x=.ref a/\H1 a=some (.ins C dx fs)/\Cls K C/\f9 K C f/\fs.lookup f=some v/\Q v H1
noncomputable def M9(K:W.Frag)(ta tv:TE)(f:Str):TS:=λD Z H=>tv Z H λy H1=>ta Z H1 λx H2=>∃a C dx fs,x=.ref a/\H2 a=some (.ins C dx fs)/\Cls K C/\f9 K C f/\fs.length<1000 /\
 D.nx Z (upd H2 a (.ins C dx (eG f y fs)))
section
variable {X:Cx}{o e value:Expr}{f:Str}{pos pos' tpos:Pos}{ta tv:TE}
theorem zkM(he:PE X e ta)(hb:attributeBase e f X.env (eval e X.env)=eval e X.env):PE X (.Attribute e f pos) (M8 X.K ta f):=by
 intro ao s Z H Q I h;refine ziv hb (aZ (he ao s Z H _ I h) λu s1 ⟨x,H1,I1,rx,a,C,dx,fs,v,ex,ea,c,n,l,q⟩=>?_);subst ex;obtain rfl:u=Value.ref a:=rx;exact zey I1 ea c n l λu' s2 I2 ru=>⟨v,H1,I2,ru,q⟩
theorem zkt(ha:PE X o ta)(hv:PE X value tv)(hs:swapsWith value (some (.Attribute o f pos')) pos.line X.env=pure false):PS X (.Assign [.Attribute o f pos'] value pos) (M9 X.K ta tv f):=by
 intro ao s Z H D I h;refine plainObj_wpAny_Assign_Attribute (aZ (hv ao s Z H _ I h) λu s1 hx=>dY hx λy H1 I1 ry q=>aZ (ha ao s1 Z H1 _ I1 q) λov s2 ⟨x,H2,I2,rx,a,C,dx,fs,ex,ea,c,n,l,q2⟩=>?_) hs;subst ex;obtain rfl:ov=Value.ref a:=rx;exact zeM I2 ea c n l ry λs3 I3=>⟨Z,_,I3,q2⟩
end
section
variable {X:Cx}{ao:List (Addr×Obj)}{Z:St}{H:Hp}{s:Shared}{A:Around}{E:Value->Shared->Prop}{Q:Value->Shared->Prop}{c:Value}{b:Bool}
end
structure bB(k:Nat)(A:Around):Prop where
 dp:A.depth+3*k+5<recursionLimit
 un:A.units+16*k+200<cLine
 gd:A.guards=some []
theorem bB.deeper{k:Nat}{A:Around}(r:bB (k+1) A)(env:Env):bB k (A.deeper env):=
 ⟨by have:=r.dp;show A.depth+1+3*k+5<_;lia,by have:=r.un;show A.units+3+16*k+200<_;lia,r.gd⟩
theorem zeS{A:Around}{C:Addr}{us:List Value}{kw:List (Str×Value)}:(A.under (.builtin "type.__call__" ⟨.ref C::us,kw⟩)).depth=A.depth+1:=by
 first|rfl|simp[Around.under,Code.weight,Code.isCreation,Code.isGuard,Code.isCaller,Code.frames,Code.isFrame,guardIds]
theorem zer{A:Around}{C:Addr}{us:List Value}{kw:List (Str×Value)}:(A.under (.builtin "type.__call__" ⟨.ref C::us,kw⟩)).units=A.units+1:=by
 first|rfl|simp[Around.under,Code.cUnits,Code.frames,Code.isFrame]
theorem bB.depth{k:Nat}{A:Around}(r:bB k A):A.depth<recursionLimit:=by have:=r.dp;lia
noncomputable def M_:TA:=λ_ H Q=>Q [] H
noncomputable def Dt(ta:TE)(tr:TA):TA:=λZ H Q=>ta Z H λx H1=>tr Z H1 λxs H2=>Q (x::xs) H2
section
variable {X:Cx}{e:Expr}{es:List Expr}{te:TE}{t:TA}{pos:Pos}
theorem wj:PA X [] M_:=λ_ _ _ _ H Q I h=>Calls.spliced_nil ⟨[],H,I,.nil,h⟩
theorem qG(ha:PE X e te)(hr:PA X es t)(hs:starEach (e::es) X.env=(false,eval e X.env)::starEach es X.env:=by rfl):PA X (e::es) (Dt te t):=by
 intro pos ao s Z H Q I h;rw[hs];show wpAny _ _ (spliced ((false,eval e X.env)::backTo pos (starEach es X.env))) _ _ s;refine Calls.spliced_cons (aZ (ha ao s Z H _ I h) λu s1 hx=>dY hx λx H1 I1 r1 q1=>?_);exact aZ (hr pos ao s1 Z H1 _ I1 q1) λus s2 hx=>dY hx λxs H2 I2 r2 q2=>⟨x::xs,H2,I2,.cons r1 r2,q2⟩
noncomputable def Nb(t:TA):TE:=λZ H Q=>t Z H λxs H1=>xs.length<=sizeLine/\∀p,H1 p=none->Q (.ref p) (upd H1 p (.tup xs))
noncomputable def Nf(t:TA):TE:=λZ H Q=>t Z H λxs H1=>xs.length<=sizeLine/\∀p,H1 p=none->Q (.ref p) (upd H1 p (.lst xs))
theorem zkO{x1}(h:PA X es t):PE X (.Tuple es x1 pos) (Nb t):=by
 intro ao s Z H Q I hq;refine wpAny_Tuple_spliced (aZ (h pos ao s Z H _ I hq) λus s1 ⟨xs,H1,I1,r,z,q⟩=>⟨by rw[<-r.length];exact z,?_⟩);have hf:H1 s1.heap.objs.size=none:=I1.hok.fresh (bJ _);refine⟨.ref s1.heap.objs.size,upd H1 s1.heap.objs.size (.tup xs),I1.laid (t':=s1.toks) (λb u e=>cJ _ e) (bJ _) ?_,rfl,q _ hf⟩;exact⟨z,us,r,⟨_,fC _ rfl,rfl,_,rfl⟩⟩
theorem zkB(h:PA X es t):PE X (.List es pos) (Nf t):=by
 intro ao s Z H Q I hq;refine wpAny_List_spliced (aZ (h pos ao s Z H _ I hq) λus s1 ⟨xs,H1,I1,r,z,q⟩=>⟨by rw[<-r.length];exact z,?_⟩);have hf:H1 s1.heap.objs.size=none:=I1.hok.fresh (bJ _);refine⟨.ref s1.heap.objs.size,upd H1 s1.heap.objs.size (.lst xs),I1.laid (t':=s1.toks) (λb u e=>cJ _ e) (bJ _) ?_,rfl,q _ hf⟩;exact⟨z,us,0,r,fC _ rfl⟩
end
noncomputable abbrev Sp:=List V->Hp->VK->XK->Prop
noncomputable abbrev qH:=List Env->Hp->Shared->XK->Value->Shared->Prop
structure nD(P:Program)(w:World)(K:W.Frag)(mg:Str->Option Value)(base:Heap)(A:Around)(outer:List Env)(s:Shared)(H:Hp):Prop where
 frames:A.frames=some outer
 mod:Mod K mg base
 bs:∀b o,base.get? b=some o->s.heap.get? b=some o/\H b=none
 yc:base.objs.size<=s.heap.objs.size
 jE:s.heap.FunFrames base outer
 CV:∀b∈frs outer,H b=none
 hok:gW P w H s.heap
 bare:AllBare s.gens
def CE(outer:List Env)(P:Program)(w:World)(H:Hp)(s:Shared)(Q:VK)(u:Value)(s':Shared):Prop:=
 ∃v H',s'.os=s.os/\AllBare s'.gens/\Un (frs outer) [] H H' s.heap s'.heap/\gW P w H' s'.heap/\RelV v u/\Q v H'
def CR(CX:qH)(outer:List Env)(P:Program)(w:World)(H:Hp)(s:Shared)(Q:VK)(E:XK)(r:Result)(s':Shared):Prop:=
 match r with
 |.ok (.ret u)=>CE outer P w H s Q u s'
 |.ok _=>False
 |.error e=>CX outer H s E e s'
structure bT(P:Program)(w:World)(K:W.Frag)(mg:Str->Option Value)(base:Heap)(CX:qH)(cm:Bool)(k:Nat)(f:Addr)(fd:FuncData)(ps:List Str)(sp:Sp):Prop where
 len:∀vs H Q E,sp vs H Q E->vs.length=ps.length
 run:∀(A:Around) (outer:List Env) (s:Shared) (H:Hp) (args:Args) (us:List Value) (vs:List V) (Q:VK) (E:XK),(cm=true->A.handled=none)->bB k A->nD P w K mg base A outer s H->BindsTo s fd args (ps.zip us)->Vals vs us->sp vs H Q E->
  codeAny (model P w) A (.call (.ref f) args) (CR CX outer P w H s Q E) s
theorem bT.imp{P:Program}{w:World}{K:W.Frag}{mg:Str->Option Value}{base:Heap}{CX:qH}{cm:Bool}{k:Nat}{f:Addr}{fd:FuncData}{ps:List Str}{sp Um:Sp}(F:bT P w K mg base CX cm k f fd ps sp)
  (h:∀vs H Q E,Um vs H Q E->sp vs H Q E):bT P w K mg base CX cm k f fd ps Um:=
 ⟨λvs H Q E q=>F.len vs H Q E (h _ _ _ _ q),λA outer s H args us vs Q E iQ hr he hb hv hs=>F.run A outer s H args us vs Q E iQ hr he hb hv (h _ _ _ _ hs)⟩
theorem nD.make{P:Program}{w:World}{K:W.Frag}{mg:Str->Option Value}{base:Heap}{A:Around}{outer:List Env}{s:Shared}{H:Hp}(e:nD P w K mg base A outer s H)(C:Addr)(us:List Value)(kw:List (Str×Value)) :
  nD P w K mg base (A.under (.builtin "type.__call__" ⟨.ref C::us,kw⟩)) outer s H:=⟨by first|exact e.frames|(simpa [Around.under,Code.envs,Code.isFrame,pushEnvs] using e.frames),e.mod,e.bs,e.yc,e.jE,e.CV,e.hok,e.bare⟩
section
variable {X:Cx}{ao:List (Addr×Obj)}{Z:St}{H:Hp}{s s':Shared}
theorem Inv.env0(I:Inv X ao Z H s):nD X.prog X.w X.K X.mg X.base X.A X.stack s H:=
 ⟨I.ok.frames,I.ok.mod,I.bs,jM I.ok.yc I.sz,I.stack,I.kW,I.hok,I.bare⟩
theorem Inv.after{Q:VK}{u:Value}(I:Inv X ao Z H s)(h:CE X.stack X.prog X.w H s Q u s'):EP X ao Z Q u s':=by
 obtain⟨v,H',os,bare,un,hok,r,q⟩:=h;obtain⟨hh,g,d,t,os'⟩:=s';obtain rfl:os'=s.os:=os;exact⟨v,H',I.call (h':=hh) (g':=g) (d':=d) (t':=t) (ch:=[]) un hok bare (λb z=>absurd z (by simp)),r,q⟩
end
noncomputable def Du(C:Addr)(m:Str)(sp:Sp)(lZ:List V)(E:XK)(ta:TE)(t:TA):TE:=λZ H Q=>ta Z H λx H1=>∃a dx fs,x=.ref a/\H1 a=some (.ins C dx fs)/\fs.lookup m=none /\
 t Z H1 λvs H2=>sp (x::(vs++lZ)) H2 Q E
noncomputable def Dv(C:Addr)(sp:Sp)(lZ:List V)(E:XK)(t:TA):TE:=λZ H Q=>t Z H λvs H1=>∀x dx,H1 x=none->H1 dx=none->dx≠x->
 sp (.ref x::(vs++lZ)) (upd (upd H1 dx (.own x)) x (.ins C dx [])) (λv H2=>v=.non/\Q (.ref x) H2) E
def Binds(K:W.Frag)(fd:FuncData)(ps:List Str)(ds:List Value):Prop:=
 ∀(s:Shared) (us:List Value),K.In s.heap->(us++ds).length=ps.length->BindsTo s fd ⟨us,[]⟩ (ps.zip (us++ds))
theorem Binds.all{K:W.Frag}{fd:FuncData}{ps:List Str}(h:∀us:List Value,us.length=ps.length->bindArgs fd ⟨us,[]⟩=pure (ps.zip us)):Binds K fd ps []:=λs us _ hl=>by
 rw[vU] at hl ⊢;exact .of_eq (h us hl)
def Passes(CX:qH)(X:Cx)(E:XK):Prop:=∀(ao:List (Addr×Obj)) (Z:St) (H:Hp) (s:Shared) (e:Value) (s':Shared),Inv X ao Z H s->CX X.stack H s E e s'->X.xe e s'
section
variable {X:Cx}{CX:qH}{cm:Bool}{k:Nat}{f C:Addr}{fd:FuncData}{ps:List Str}{sp:Sp}{lZ:List V}{ds:List Value}{E:XK}{x m:Str}{p pos apos:Pos}{e o:Expr}{es:List Expr}{ta:TE}{t:TA}
theorem zkx{ao:List (Addr×Obj)}{Z:St}{H:Hp}{s:Shared}{Q:VK}{us:List Value}{vs:List V}(F:bT X.prog X.w X.K X.mg X.base CX cm k f fd ps sp)(iQ:cm=true->X.aj=true)(hr:bB k X.A)(hb:Binds X.K fd ps ds)(hd:Vals lZ ds)(hx:Passes CX X E)
  (I:Inv X ao Z H s) (r:Vals vs us) (h:sp (vs++lZ) H Q E):wpAny (model X.prog X.w) X.A (call (.ref f) us) (EP X ao Z Q) X.xe s:=by
 have r2:Vals (vs++lZ) (us++ds):=r.append hd;have hl:(us++ds).length=ps.length:=by rw[<-r2.length];exact F.len _ _ _ _ h
 refine wpAny_call (Ag (F.run X.A X.stack s H ⟨us,[]⟩ (us++ds) (vs++lZ) Q E (λz=>I.ok.hd (iQ z)) hr I.env0 (hb s us I.lV hl) r2 h) λr s' hq=>?_);cases r with
 |error e=>exact hx ao Z H s e s' I hq
 |ok fl=>
  cases fl with
  |ret u=>exact I.after hq
  |next=>exact False.elim hq
  |brk=>exact False.elim hq
  |cont=>exact False.elim hq
theorem zia{pl:Sem Bool}(he:PE X o ta)(c:Cls X.K C)(hm:Meth X.K C m f)(F:bT X.prog X.w X.K X.mg X.base CX cm k f fd ps sp)(iQ:cm=true->X.aj=true)(hr:bB k X.A)(hb:Binds X.K fd ps ds)(hd:Vals lZ ds)(hx:Passes CX X E)(ha:PA X (e::es) t)
  (yp:starEach (e::es) X.env=(false,eval e X.env)::starEach es X.env:=by rfl) (cD:(backTo pos (starEach es X.env)).any (·.1)=false:=by rfl)
  (ht:eval (.Call (.Attribute o m apos) (e::es) [] pos) X.env=(do
   let ov <-eval o X.env
   standAt apos.atName
   let (f,first) <-holding [ov] (getMethod ov m pl)
   callWith pos f first (backTo pos (starEach (e::es) X.env)) (backToKw pos (keywordEach [] X.env))):=by rfl) :
  PE X (.Call (.Attribute o m apos) (e::es) [] pos) (Du C m sp lZ E ta t):=by
 intro ao s Z H Q I h;refine PySem.W.methodCall_KW (pl:=pl) (aZ (he ao s Z H _ I h) λu s1 ⟨x,H1,I1,rx,a,dx,fs,ex,ea,l,q⟩=>?_) ht;subst ex;obtain rfl:u=Value.ref a:=rx;refine zes I1 ea c hm l ?_;refine Lq (first:=[.ref a]) (h₀:=X.base) I.ok.mod.vY hm.kp (aZ (ha pos ao s1 Z H1 _ I1 q) λus s2 ⟨vs,H2,I2,r,q2⟩=>⟨I2.lV,?_⟩) yp cD;exact zkx (us:=.ref a::us) (vs:=.ref a::vs) F iQ hr hb hd hx I2 (.cons rfl r) q2
structure Mk(K:W.Frag)(C f:Addr):Prop where
 makes:PySem.W.makesIn K C=true
 init:PySem.W.findIn K (.ref C) "__init__"=some (some (.ref f))
 fn:PySem.W.isFn K (.ref f)=true
 kp:PySem.W.keepIn K (.ref C)=true
theorem zgU{ao:List (Addr×Obj)}{Z:St}{H:Hp}{s:Shared}{Q:VK}{us:List Value}{vs:List V}(M:Mk X.K C f)(F:bT X.prog X.w X.K X.mg X.base CX cm k f fd ps sp)(iQ:cm=true->X.aj=true)(hr:∀us,bB k (X.A.under (.builtin "type.__call__" ⟨.ref C::us,[]⟩)))(hb:Binds X.K fd ps ds)(hd:Vals lZ ds)
  (hx:Passes CX X E) (I:Inv X ao Z H s) (r:Vals vs us)
  (h:∀x dx,H x=none->H dx=none->dx≠x->sp (.ref x::(vs++lZ)) (upd (upd H dx (.own x)) x (.ins C dx [])) (λv H2=>v=.non/\Q (.ref x) H2) E) :
  wpAny (model X.prog X.w) X.A (call (.ref C) us) (EP X ao Z Q) X.xe s:=by
 have hq:=h (s.heap.objs.size+1) s.heap.objs.size (I.hok.fresh (Nat.le_succ _)) (I.hok.fresh (bJ _)) (dw (Ij _));have I2:=Inv.made (C:=C) I;have r2:Vals (V.ref (s.heap.objs.size+1)::(vs++lZ)) (Value.ref (s.heap.objs.size+1)::(us++ds)):=.cons rfl (r.append hd);have hl:(Value.ref (s.heap.objs.size+1)::us++ds).length=ps.length:=by
  have e:=r2.length;rw[F.len _ _ _ _ hq] at e;exact e.symm
 refine wpAny_call (zhg (f:=f) I.lV M.makes M.init (m5.mp M.fn) (Ag (F.run _ X.stack _ _ ⟨Value.ref (s.heap.objs.size+1)::us,[]⟩ (Value.ref (s.heap.objs.size+1)::(us++ds)) _ _ E (λz=>I.ok.hd (iQ z)) (hr us)
  (I2.env0.make C us []) (hb _ (Value.ref (s.heap.objs.size+1)::us) I2.lV hl) r2 hq) λr s' Dw=>?_))
 cases r with
 |error e=>exact hx ao Z _ _ e s' I2 Dw
 |ok fl=>
  cases fl with
  |ret u=>
   obtain⟨v,H',I3,rv,ev,q3⟩:=I2.after Dw;subst ev;exact⟨rv,⟨V.ref (s.heap.objs.size+1),H',I3,rfl,q3⟩⟩
  |next=>exact False.elim Dw
  |brk=>exact False.elim Dw
  |cont=>exact False.elim Dw
theorem ziG(M:Mk X.K C f)(F:bT X.prog X.w X.K X.mg X.base CX cm k f fd ps sp)(iQ:cm=true->X.aj=true)(hr:∀us,bB k (X.A.under (.builtin "type.__call__" ⟨.ref C::us,[]⟩)))(hg:Gl X x)(hm:X.mg x=some (.ref C))(hb:Binds X.K fd ps ds)(hd:Vals lZ ds)(hx:Passes CX X E)
  (ha:PA X (e::es) t) (pO:(x==("__debug__" : Str))=false:=by decide) (he:starEach (e::es) X.env=(false,eval e X.env)::starEach es X.env:=by rfl) (cD:(backTo pos (starEach es X.env)).any (·.1)=false:=by rfl) :
  PE X (.Call (.Name x p) (e::es) [] pos) (Dv C sp lZ E t):=by
 intro ao s Z H Q I h;refine zX (Mj I hg hm ?_ pO);refine Lq (h₀:=X.base) I.ok.mod.vY M.kp (aZ (ha pos ao s Z H _ I h) λus s1 ⟨vs,H1,I1,r,q⟩=>⟨I1.lV,?_⟩) he cD;exact zgU M F iQ hr hb hd hx I1 r q
end
section
variable {X:Cx}{CX:qH}{cm:Bool}{k:Nat}{f C:Addr}{fd:FuncData}{ps ks:List Str}{sp:Sp}{E:XK}{x m:Str}{p pos apos kpos:Pos}{e o:Expr}{es:List Expr}{kws:List Keyword}{te ta:TE}{t tk:TA}{nm:Option Str}
variable {g:List Value->List Value->List Value}{gV:List V->List V->List V}
end
structure cM(N P:List Str)(sc:Scope):Prop where
 kind:sc.kind=.function
 co:sc.isCoroutine=false
 gen:sc.isGenerator=false
 nd:N.Nodup
 pre:N.take P.length=P
 par:∀x∈P,sc.names.lookup x=some .local\/sc.names.lookup x=some .cell
 yC:∀y∈sc.names,y.2≠.free
theorem Uo{kindOf:Str->Option NameKind}{x:Str}:∀{binds:List (Str×Value)} {m:Str->Option Value},(∀v,(x,v)∉binds)->bindL kindOf binds m x=m x
 |[],_,_=>rfl
 |(n,v)::r,m,h=>by
  unfold bindL;rw[Uo λw hw=>h w (gQ _ hw)]
  split
  ·have:x≠n:=by rintro rfl;exact h v j8
   simp[this]
  ·rfl
theorem Uq{kindOf:Str->Option NameKind}{x:Str}:∀{binds:List (Str×Value)} {m:Str->Option Value},(∀v,(x,v)∉binds)->bindC kindOf binds m x=m x
 |[],_,_=>rfl
 |(n,v)::r,m,h=>by
  unfold bindC;rw[Uq λw hw=>h w (gQ _ hw)]
  split
  ·rfl
  ·have:x≠n:=by rintro rfl;exact h v j8
   simp[this]
theorem Ur{kindOf:Str->Option NameKind}{x:Str}{v:Value}:∀{P:List Str} {vs:List Value} {i:Nat} {m:Str->Option Value},P.Nodup->P[i]?=some x->vs[i]?=some v->kindOf x=some .local->
  bindL kindOf (P.zip vs) m x=some v
 |[],_,_,_,_,h,_,_=>by simp at h
 |_::_,[],_,_,_,_,h,_=>by simp at h
 |p::P,w::vs,0,m,nd,h1,h2,hk=>by
  simp at h1 h2;subst h1;subst h2;show bindL kindOf ((p,w)::P.zip vs) m p=_;unfold bindL;rw[Uo λv hv=>(vV.mp nd).1 (List.of_mem_zip hv).1,if_pos hk];simp
 |p::P,w::vs,i+1,m,nd,h1,h2,hk=>by
  show bindL kindOf ((p,w)::P.zip vs) m x=_;unfold bindL;exact Ur (i:=i) (vV.mp nd).2 (by simpa using h1) (by simpa using h2) hk
theorem Us{kindOf:Str->Option NameKind}{x:Str}{v:Value}:∀{P:List Str} {vs:List Value} {i:Nat} {m:Str->Option Value},P.Nodup->P[i]?=some x->vs[i]?=some v->kindOf x≠some .local->
  bindC kindOf (P.zip vs) m x=some v
 |[],_,_,_,_,h,_,_=>by simp at h
 |_::_,[],_,_,_,_,h,_=>by simp at h
 |p::P,w::vs,0,m,nd,h1,h2,hk=>by
  simp at h1 h2;subst h1;subst h2;show bindC kindOf ((p,w)::P.zip vs) m p=_;unfold bindC;rw[Uq λv hv=>(vV.mp nd).1 (List.of_mem_zip hv).1,if_neg hk];simp
 |p::P,w::vs,i+1,m,nd,h1,h2,hk=>by
  show bindC kindOf ((p,w)::P.zip vs) m x=_;unfold bindC;exact Us (i:=i) (vV.mp nd).2 (by simpa using h1) (by simpa using h2) hk
noncomputable def start(N:List Str)(vs:List V):St:=vs.map some++List.replicate (N.length-vs.length) none
noncomputable def fK(CX:qH)(P:Program)(w:World)(K:W.Frag)(mg:Str->Option Value)(base:Heap)(N:List Str)(qual:Str)(scope:Scope)(f:Addr)(cd:Value)(A:Around)(outer:List Env)(s:Shared)(H:Hp)(E:XK)(cm:Bool):Cx where
 prog:=P
 w:=w
 K:=K
 mg:=mg
 base:=base
 A:=A.deeper (envOfC qual scope s.heap.objs.size f cd)
 N:=N
 s₀:=s
 H₀:=H
 env:=envOfC qual scope s.heap.objs.size f cd
 outer:=outer
 stack:=envOfC qual scope s.heap.objs.size f cd::outer
 ex:=[]
 aj:=cm
 fn:=λ_=>true
 pn:=[]
 xe:=λe s'=>wpAny (model P w) (A.deeper (envOfC qual scope s.heap.objs.size f cd)) (leaving (envOfC qual scope s.heap.objs.size f cd) e) (λ_ s''=>CX outer H s E e s'') (λe' s''=>CX outer H s E e' s'') s'
theorem Ut{sc:Scope}{n:Nat}{x:Str}(h:sc.names.lookup x=some .cell):∃c,(cellsFrom n sc.names []).lookup x=some c:=by
 have q:=Lg sc.names n [] (.inl h);exact La.mp q
theorem zfo{CX:qH}{P:Program}{w:World}{K:W.Frag}{mg:Str->Option Value}{base:Heap}{N ps:List Str}{qual:Str}{scope:Scope}{f:Addr}{cd:Value}{A:Around}{outer:List Env}{s s1:Shared}{H:Hp}{E:XK}{us:List Value}{vs:List V}
  {cm:Bool} (S:cM N ps scope) (hd:cm=true->A.handled=none) (e0:nD P w K mg base A outer s H) (hl:vs.length=ps.length) (r:Vals vs us)
  (x:InCallC s s.heap.objs.size (bindL (envOfC qual scope s.heap.objs.size f cd).kindOf (ps.zip us) λ_=>none) (cellsFrom (s.heap.objs.size+1) scope.names []) (bindC (envOfC qual scope s.heap.objs.size f cd).kindOf (ps.zip us) λ_=>none) s1) :
  Inv (fK CX P w K mg base N qual scope f cd A outer s H E cm) [] (start N vs) H s1:=by
 have cD:ps.length<=N.length:=by have:=lQ List.length S.pre;rw[Aa] at this;lia
 obtain⟨h1,tk,rfl,hk⟩:=x.done;have Dy:∀b:Addr,b∉(fK CX P w K mg base N qual scope f cd A outer s H E cm).ex:=λb z=>absurd (show b∈([]:List Addr) from z) (by simp);refine⟨⟨e0.mod,S.kind,rfl,rfl,bJ _,λy z c h1 h2=>?_,λy hy=>?_,λy c _ h=>?_,hd,Around.frames_deeper e0.frames,.inr ⟨rfl,rfl⟩,λb z=>absurd z (Dy b),e0.bs,e0.yc,λb _ _=>Dy b,λb z=>absurd z (Dy b),e0.jE,e0.CV⟩,
  rfl,e0.bare,Un.kept hk,⟨_,x.toInCall.ns,λi y v h1 h2 h3=>?_⟩,λy c h=>⟨_,x.cell y c h⟩,e0.hok.fresh (bJ _),λy c h=>?_,λp hp=>absurd (show p∈([]:List (Addr×Obj)) from hp) (by simp),e0.hok.kept hk,?_⟩
 ·exact name_of_addr x.apart (zV h1) (zV h2)
 ·have hy:scope.names.lookup y=some .cell\/scope.names.lookup y=some .free:=hy;rcases hy with hy|hy
  ·exact Ut hy
  ·exact absurd rfl (S.yC _ (zV hy))
 ·exact vW (x.above y c (zV h))
 ·have hi:i<vs.length:=by
   unfold start at h2;by_cases hi:i<vs.length
   ·exact hi
   ·rw[n_ (by simpa using hi)] at h2;rw[zT] at h2;split at h2<;>cases h2
  have ha:vs[i]?=some v:=by
   unfold start at h2;rw[m9 (by simpa using hi),gU] at h2;cases e:vs[i]? with
   |none=>rw[e] at h2;cases h2
   |some a=>rw[e] at h2;cases h2;rfl
  obtain⟨u,hu,rv⟩:=r.get ha;have hp:ps[i]?=some y:=by
   rw[<-S.pre,List.getElem?_take_of_lt (by lia)];exact h1
  have Uu:ps.Nodup:=by rw[<-S.pre];exact S.nd.sublist (List.take_sublist _ _)
  refine⟨u,rv,?_⟩;rcases S.par y (fB hp) with k|k
  ·exact .inl ⟨k,Ur Uu hp hu k⟩
  ·obtain⟨c,e⟩:=Ut (n:=s.heap.objs.size+1) k;refine .inr ⟨.inl k,c,e,?_⟩;have q:=x.cell y c e;rw[Us Uu hp hu (by show scope.names.lookup y≠_;rw[k];decide)] at q;exact q
 ·exact e0.hok.fresh (vW (x.above y c (zV h)))
 ·unfold start;show _=N.length;rw[mZ,cU,HX]
  lia
theorem Uv{CX:qH}{cm:Bool}{P:Program}{w:World}{K:W.Frag}{mg:Str->Option Value}{base:Heap}{k:Nat}{f:Addr}{name qual:Str}{params:Arguments}{body:List Stmt}{scope:Scope}{dV kV doc pm cdv ct oc:Value}{an od:Option Addr}
  {osl:Array (Option Value)} {N ps:List Str} {sp:Sp} (lk:K.lookup f=some ⟨oc,od,.func (PySem.W.fnOf name qual params body scope dV kV doc pm an cdv ct),osl⟩) (jz:PySem.W.codeIn K cdv qual=true) (S:cM N ps scope)
  (len:∀vs H Q E,sp vs H Q E->vs.length=ps.length)
  (Dz:∀(A:Around) (outer:List Env) (s:Shared) (H:Hp) (vs:List V) (Q:VK) (E:XK),bB (k+1) A->sp vs H Q E->
   ∃t,oH (fK CX P w K mg base N qual scope f cdv A outer s H E cm) body t/\t {nx:=λ_ H'=>Q .non H',rt:=Q} (start N vs) H) :
  bT P w K mg base CX cm (k+1) f (PySem.W.fnOf name qual params body scope dV kV doc pm an cdv ct) ps sp:=by
 refine⟨len,λA outer s H args us vs Q E iQ hr e0 hb r Jh=>?_⟩;have hl:=len _ _ _ _ Jh;have KX:K.In s.heap:=e0.mod.vY.keeps λb o e=>(e0.bs b o e).1;have lim:s.heap.NoLimit:=e0.mod.nolimit.keeps λb o e=>(e0.bs b o e).1;have DG:∀y∈ps.zip us,scope.names.lookup y.1=some .local\/(scope.names.lookup y.1=some .cell/\((cellsFrom (s.heap.objs.size+1) scope.names []).lookup y.1).isSome=true):=λ⟨n,v⟩ hy=>by
  rcases S.par n (List.of_mem_zip hy).1 with q|q
  ·exact .inl q
  ·exact .inr ⟨q,Lg _ _ _ (.inl q)⟩
 refine codeAny_call_function hr.depth (KX _ _ lk) rfl S.co S.gen rfl (PySem.W.codeRec_of KX jz) (hb _ _ _ _ ?_);refine wpAny_newFunctionEnv_cells S.kind DG λenv he s1 x=>?_;subst he;refine⟨lim.keeps x.toInCall.keep,codeAny_func ?_⟩;obtain⟨t,ht,hq⟩:=Dz A outer s H vs Q E hr Jh;have I:Inv (fK CX P w K mg base N qual scope f cdv A outer s H E cm) [] (start N vs) H s1:=zfo S iQ e0 hl r x;refine lK (ht [] s1 (start N vs) H _ I hq) (λfl s' hs=>?_) λe s' hs=>hs;have fin:∀{Z':St} {H':Hp} {v:V} {u:Value},Inv (fK CX P w K mg base N qual scope f cdv A outer s H E cm) [] Z' H' s'->RelV v u->Q v H'->CE outer P w H s Q u s':=
  λ{Z' H' v u} cg rv q=>⟨v,H',cg.os,cg.bare,cg.base,cg.hok,rv,q⟩
 cases fl with
 |ret u=>
  obtain⟨v,Z',H',cg,rv,q⟩:=hs;exact fin cg rv q
 |next=>
  obtain⟨Z',H',cg,q⟩:=hs;exact fin (v:=V.non) (u:=Value.none) cg rfl q
 |brk=>
  obtain⟨_,_,_,q⟩:=hs;exact False.elim q
 |cont=>
  obtain⟨_,_,_,q⟩:=hs;exact False.elim q
section
variable {X:Cx}{x:Str}{p pos:Pos}{e:Expr}{es:List Expr}{t:TA}{id T:String}{r:List V->Hp->VK->Prop}
noncomputable def Ng(r:List V->Hp->VK->Prop)(t:TA):TE:=λZ H Q=>t Z H λvs H1=>r vs H1 Q
theorem Uw(hc:cG X (.builtin id) r)(hg:Gl X x)(hm:X.mg x=none)(hv:bootBuiltins x=some (.builtin id))(ha:PA X (e::es) t)(hn:x≠"__name__":=by decide)(pO:(x==("__debug__" : Str))=false:=by decide)
  (he:starEach (e::es) X.env=(false,eval e X.env)::starEach es X.env:=by rfl) (cD:(backTo pos (starEach es X.env)).any (·.1)=false:=by rfl):PE X (.Call (.Name x p) (e::es) [] pos) (Ng r t):=by
 intro ao s Z H Q I h;refine zX (uz I hg hm hv ?_ hn pO);exact PyProof.Rows.callWith_builtin1 (aZ (ha pos ao s Z H _ I h) λus s1 hx=>dY hx λvs H1 I1 r1 q1=>hc ao s1 Z H1 vs us Q I1 r1 q1) he cD
theorem zfO(hc:cG X (.type T) r)(hg:Gl X x)(hm:X.mg x=none)(hv:bootBuiltins x=some (.type T))(ha:PA X (e::es) t)(hn:x≠"__name__":=by decide)(pO:(x==("__debug__" : Str))=false:=by decide)
  (he:starEach (e::es) X.env=(false,eval e X.env)::starEach es X.env:=by rfl) (cD:(backTo pos (starEach es X.env)).any (·.1)=false:=by rfl):PE X (.Call (.Name x p) (e::es) [] pos) (Ng r t):=by
 intro ao s Z H Q I h;refine zX (uz I hg hm hv ?_ hn pO);exact xq (aZ (ha pos ao s Z H _ I h) λus s1 hx=>dY hx λvs H1 I1 r1 q1=>hc ao s1 Z H1 vs us Q I1 r1 q1) he cD
end
end L2
namespace HT
open PySem PyProof.Rows
noncomputable def lexLt:List Int->List Int->Bool
 |[],[]=>false
 |[],_::_=>true
 |_::_,[]=>false
 |x::xs,y::ys=>if x=y then lexLt xs ys else decide (x<y)
theorem jo(x y:Int)(xs ys:List Int):lexLt (x::xs) (y::ys)=if x=y then lexLt xs ys else decide (x<y):=rfl
theorem zcl:lexLt [] []=false:=rfl
theorem zbT(y:Int)(ys:List Int):lexLt [] (y::ys)=true:=rfl
theorem zbR(x:Int)(xs:List Int):lexLt (x::xs) []=false:=rfl
theorem zgu(A:Around)(s:Shared)(a:Int)(t:Tok)(c:Int)(u:Tok):∃e,SeqAt.EqAt A s (.int a t) (.int c u) e/\(e=true↔a=c):=
 ⟨(a==c),SeqAt.EqAt.int_int a t c u,by simp⟩
theorem zhf(A:Around)(s:Shared)(a:Int)(t:Tok)(c:Int)(u:Tok)(prog:Program)(w:World)(E:Value->Shared->Prop)(Q:Value->Shared->Prop)(h:Q (.bool (decide (a<c))) s) :
  wpAny (model prog w) A (richCompare .Lt (.int a t) (.int c u)) Q E s:=
 (PyProof.Rows.lt_int h:wpAny (model prog w) A (compareOp .Lt (.int a t) (.int c u)) Q E s)
section
open PySem.SeqAt
open PySem.AutoSeq1 (wpAny_loadPart')
open PySem.MeetsSeq PySem.MeetsSeq2 PySem.MeetsSeq3
theorem zcp(l b:Addr)(items items2:Array Value)(n n2:Nat)(dd dd2:Option Addr)(sl sl2:Array (Option Value))(ns ms:List Int)(hi:IntsAre items.toList ns)(hj:IntsAre items2.toList ms) :
  Meets (Builtin.«tuple.__lt__» ⟨[.ref l,.ref b],[]⟩)
   (λ_ R s=>s.heap.get? l=some {cls:=.type "tuple",dict:=dd,data:=.seq items n,slots:=sl}/\s.heap.get? b=some {cls:=.type "tuple",dict:=dd2,data:=.seq items2 n2,slots:=sl2} /\
    R (.ok (.ret (.bool (lexLt ns ms)))) s):=
 .of_wp λprog w A R s h=>by
  obtain⟨hp,g,d,tk,os⟩:=s;obtain⟨hl,hb,h⟩:=h;have f2:=AutoSeq1.sub_tuple_tuple;have z1:items.size=ns.length:=by rw[<-hi.length];simp
  have z2:items2.size=ms.length:=by rw[<-hj.length];simp
  wp_walk using wpAny_loadPart' hl,wpAny_loadPart' hb,wpAny_forIn_list _ (λrest b s'=>b.1=none/\s'=⟨hp,g,d,tk,os⟩/\∃(vs ws:List Value) (ns' Av:List Int),rest=vs.zip ws /\
   IntsAre vs ns'/\IntsAre ws Av/\ns'.length+items2.size=Av.length+items.size/\R (.ok (.ret (.bool (lexLt ns' Av)))) ⟨hp,g,d,tk,os⟩) _
  case turn=>
   rintro⟨y,x⟩ rest b s' ⟨hb',rfl,vs,ws,ns',Av,hz,Nh,Ji,hlen,hR⟩;cases Nh with
   |nil=>rw[List.zip_nil_left] at hz;cases hz
   |cons a t Ni=>
    cases Ji with
    |nil=>rw[List.zip_nil_right] at hz;cases hz
    |cons c u Nj=>
     rw[Ca] at hz;injection hz with hyx DK;injection hyx with hy hx;subst hy hx;rw[jo] at hR;simp only[gD] at hlen;obtain⟨e,he,DN⟩:=zgu A.in1 ⟨hp,g,d,tk,os⟩ a t c u;refine aC (he prog w _ _ ?_);cases e with
     |true=>
      rw[if_pos (DN.mp rfl)] at hR
      wp_walk
      exact⟨rfl,rfl,_,_,_,_,DK,Ni,Nj,by lia,hR⟩
     |false=>
      rw[if_neg (λq=>absurd (DN.mpr q) Lp)] at hR;have hri:=zhf A.in1 ⟨hp,g,d,tk,os⟩ a t c u prog w
      wp_walk using hri
      exact⟨_,rfl,by simpa using hR⟩
  case fin=>
   rintro⟨b1,b2⟩ s' ⟨hb',rfl,vs,ws,ns',Av,hz,Nh,Ji,hlen,hR⟩;simp only at hb';subst hb';have hv:lexLt ns' Av=decide (items.size<items2.size):=by
    cases Nh with
    |nil=>
     cases Ji with
     |nil=>
      simp only[Ad] at hlen;rw[zcl];exact(pJ (by lia)).symm
     |cons c u hw=>
      simp only[Ad,gD] at hlen;rw[zbT];exact(iy (by lia)).symm
    |cons a t hv=>
     cases Ji with
     |nil=>
      simp only[Ad,gD] at hlen;rw[zbR];exact(pJ (by lia)).symm
     |cons c u hw=>
      rw[Ca] at hz;cases hz
   rw[hv] at hR
   wp_walk
   exact⟨_,rfl,by simpa [Builtin.Tuple.tupleCompareSizes] using hR⟩
  case h=>
   exact⟨rfl,rfl,items.toList,items2.toList,ns,ms,rfl,hi,hj,by lia,h⟩
end
section
variable {prog:Program}{w:World}{A:Around}{E:Value->Shared->Prop}{s:Shared}
theorem jq{l b:Addr}{items items2:Array Value}{ns ms:List Int}{Q:Value->Shared->Prop}(hl:IsTup s.heap l items)(hb:IsTup s.heap b items2)(hi:IntsAre items.toList ns)(hj:IntsAre items2.toList ms)
  (hu:A.units<cLine) (h:Q (.bool (lexLt ns ms)) s):wpAny (model prog w) A (compareOp .Lt (.ref l) (.ref b)) Q E s:=by
 obtain⟨⟨cls,dd,data,sl⟩,ho,hc,n,hd⟩:=id hl;obtain⟨⟨cls2,dd2,data2,sl2⟩,nF,oJ,n2,hd2⟩:=id hb;simp only at hc hd oJ hd2;subst hc hd oJ hd2;exact richCompare_meets_room (op:=.Lt) ⟨_,ho,rfl⟩ ⟨_,nF,rfl⟩ PySem.F.slot_tuple_lt PySem.F.entry_tuple_lt (PySem.F.args_tuple_lt_2 _ _) (zcp l b items items2 n n2 dd dd2 sl sl2 ns ms hi hj)
  ⟨ho,nF,show Value.bool (lexLt ns ms)≠Value.notImplemented/\Q (.bool (lexLt ns ms)) s from ⟨(λx=>nomatch x),h⟩⟩ hu
theorem uG{t b:Addr}{vs ws:List Value}{Q:Value->Shared->Prop}(ht:IsTup s.heap t vs.toArray)(hb:IsTup s.heap b ws.toArray)(hv:vs≠[])
  (h1:ws=[]->Q (.ref t) s) (h2:ws≠[]->Q (.ref s.heap.objs.size) {s with heap:=s.heap.push {cls:=.type "tuple",data:=.seq (vs++ws).toArray}})
  (hsz:vs.length+ws.length<=sizeLine):wpAny (model prog w) A (binaryOp .Add (.ref t) (.ref b)) Q E s:=by
 obtain⟨⟨cls,dd,data,sl⟩,ho,hc,n,hd⟩:=id ht;obtain⟨⟨cls2,dd2,data2,sl2⟩,nF,oJ,n2,hd2⟩:=id hb;simp only at hc hd oJ hd2;subst hc hd oJ hd2;have e:vs.toArray++ws.toArray=(vs++ws).toArray:=by simp
 by_cases hw:ws=[]
 ·exact concat_meets ⟨_,ho,rfl⟩ ⟨_,nF,rfl⟩ noFill_tuple_add seq_tuple_add Lh Le (Lb _ _)
   (tuple_addW1 t b vs.toArray ws.toArray n n2 dd dd2 sl sl2 (by simpa using hv) (by simp[hw])) ⟨ho,nF,h1 hw⟩
 ·refine concat_meets ⟨_,ho,rfl⟩ ⟨_,nF,rfl⟩ noFill_tuple_add seq_tuple_add Lh Le (Lb _ _)
   (tuple_addW2 t b vs.toArray ws.toArray n n2 dd dd2 sl sl2 (by simpa using hv) (by simpa using hw) (by rw[fH,fH];exact hsz)) ⟨ho,nF,?_⟩
  rw[e];exact h2 hw
noncomputable def bL(n d:Nat):Option Int->Nat
 |none=>d
 |some v=>if v<0 then (v+(n:Int)).toNat else min v.toNat n
theorem rm(n d:Nat):bL n d none=d:=rfl
theorem uH(n d k:Nat):bL n d (some (k:Int))=min k n:=by
 show (if (k:Int)<0 then ((k:Int)+(n:Int)).toNat else min (k:Int).toNat n)=min k n;rw[if_neg (by lia),ou]
theorem zlJ(n d:Nat)(hd:d<=n)(o:Option Int):bL n d o<=n:=by
 cases o with
 |none=>exact hd
 |some v=>
  show (if v<0 then (v+(n:Int)).toNat else min v.toNat n)<=n;by_cases hv:v<0
  ·rw[if_pos hv];lia
  ·rw[if_neg hv];exact Nat.min_le_right _ _
theorem Ux(v:Int)(n d:Nat):(if v<0 then max (v+(n:Int)) 0 else min v (n:Int))=((bL n d (some v):Nat):Int):=by
 show (if v<0 then max (v+(n:Int)) 0 else min v (n:Int))=(((if v<0 then (v+(n:Int)).toNat else min v.toNat n):Nat):Int);by_cases hv:v<0
 ·simp only[if_pos hv];lia
 ·simp only[if_neg hv];lia
theorem zex(lo hi:Option Int)(n:Nat):Builtin.Slice.sliceAdjust lo hi 1 (n:Int)=(((bL n 0 lo:Nat):Int),((bL n n hi:Nat):Int)):=by
 have h1:¬((1:Int)<0):=by lia
 unfold Builtin.Slice.sliceAdjust;simp only[h1,qD];refine Prod.ext ?_ ?_
 ·cases lo with
  |none=>rfl
  |some v=>exact Ux v n 0
 ·cases hi with
  |none=>rfl
  |some v=>exact Ux v n n
theorem zeF(i j:Nat):Builtin.Slice.slicePlaces (i:Int) (j:Int) 1=j-i:=by
 unfold Builtin.Slice.slicePlaces;have h1:(1:Int)>0:=by lia
 simp only[h1,if_true,Int.ediv_one]
 split<;>lia
theorem Uy{v:Value}{o:Option Int}{Q:Option Int->Shared->Prop}(p:IsPart v o)(h:Q o s):wpAny (model prog w) A (Builtin.Slice.slicePartIndex v) Q E s:=by
 cases p with
 |none=>exact slicePart_none h
 |int i t=>exact slicePart_int h
theorem Uz{sl:Addr}{vl vu:Value}{lo hi:Option Int}{n:Nat}{Q:Int×Int×Nat->Shared->Prop}(hs:s.heap.IsSliceOf sl vl vu .none)(pl:IsPart vl lo)(pu:IsPart vu hi)
  (h:Q (((bL n 0 lo:Nat):Int),1,bL n n hi-bL n 0 lo) s):wpAny (model prog w) A (Builtin.Slice.sliceApplied (.ref sl) (pure (n:Int))) Q E s:=by
 obtain⟨os,yD,Jj,DP⟩:=id hs;unfold Builtin.Slice.sliceApplied Builtin.Slice.sliceFields;refine aC (aC (j_ yD DP (x:=vl) rfl (aC (j_ yD DP (x:=vu) rfl (aC (j_ yD DP (x:=.none) rfl (aU ?_)))))));refine aC (slicePart_none ?_);show wpAny _ _ (if ((1:Int)==0)=true then _ else _) _ _ s;rw[if_neg (by decide)];refine aC (Uy pl (aC (Uy pu (aC (aU ?_)))));show wpAny _ _ (match Builtin.Slice.sliceAdjust lo hi 1 (n:Int) with|(lo,hi)=>pure (lo,(1:Int),Builtin.Slice.slicePlaces lo hi 1)) _ _ s;rw[zex lo hi n];show wpAny _ _ (pure (((bL n 0 lo:Nat):Int),(1:Int),Builtin.Slice.slicePlaces ((bL n 0 lo:Nat):Int) ((bL n n hi:Nat):Int) 1)) _ _ s;rw[zeF];exact aU h
theorem zgx(xs:Array Value)(i k:Nat):((List.range k).filterMap λ(m:Nat)=>xs[((i:Int)+(m:Int)*1).toNat]?).toArray=((xs.toList.drop i).take k).toArray:=by
 have e:(λ(m:Nat)=>xs[((i:Int)+(m:Int)*1).toNat]?)=λm=>xs[i+m]?:=by
  funext m
  have:((i:Int)+(m:Int)*1).toNat=i+m:=by lia
  rw[this]
 rw[e];have:=pick_run xs i k;rw[List.filterMap_map] at this;have e2:((λx=>xs[x]?)∘λx=>i+x)=λm=>xs[i+m]?:=rfl;rw[e2] at this;rw[this]
theorem gJ{t sl:Addr}{items:Array Value}{vl vu:Value}{lo hi:Option Int}{Q:Value->Shared->Prop}(ht:IsTup s.heap t items)(hs:s.heap.IsSliceOf sl vl vu .none)(pl:IsPart vl lo)(pu:IsPart vu hi)
  (hw:¬(bL items.size 0 lo=0/\bL items.size items.size hi=items.size))
  (h:Q (.ref s.heap.objs.size) {s with heap:=s.heap.push {cls:=.type "tuple",data:=.seq ((items.toList.drop (bL items.size 0 lo)).take (bL items.size items.size hi-bL items.size 0 lo)).toArray}})
  (hsz:items.size<=sizeLine):wpAny (model prog w) A (getItem (.ref t) (.ref sl)) Q E s:=by
 have oK:sizeOk (.seq ((items.toList.drop (bL items.size 0 lo)).take (bL items.size items.size hi-bL items.size 0 lo)).toArray):=by
  show ((items.toList.drop (bL items.size 0 lo)).take (bL items.size items.size hi-bL items.size 0 lo)).toArray.size<=sizeLine;rw[fH,Aa,List.length_drop,vN]
  lia
 have hj:bL items.size items.size hi<=items.size:=zlJ _ _ (bJ _) hi;obtain⟨os,yD,Jj,DP⟩:=id hs;have Nk:s.TypeIs (.ref sl) "slice":=⟨os,yD,Jj⟩;unfold getItem
 try with_reducible refine qy ?_
 first|refine aC (aU ?_)|skip
 refine aC (wpAny_sequenceKey ht.typeIs (by decide) ?_);refine aC (xr (name:=Str.ofString "__getitem__") ht.typeIs zR
  (vR zR ht.typeIs entry_tuple_getitem ?_ (args_tuple_getitem _ _)))
 show wpAny _ _ (Builtin.Tuple.tupleItemsOf (.ref t) >>= _) _ _ s;refine aC (tupleItemsOf_ ht ?_);refine aC (wpAny_typeOf Nk ?_);rw[if_pos (by decide)];refine aC (Uz hs pl pu ?_);have uI:¬((((bL items.size 0 lo:Nat):Int)==0&&(1:Int)==1&&(bL items.size items.size hi-bL items.size 0 lo)==items.size)=true):=by
  intro q;rw[gF,gF] at q;have q1:((bL items.size 0 lo:Nat):Int)=0:=eq_of_beq q.1.1;have q2:bL items.size items.size hi-bL items.size 0 lo=items.size:=eq_of_beq q.2;exact hw ⟨by lia,by lia⟩
 show wpAny _ _ (if (((bL items.size 0 lo:Nat):Int)==0&&(1:Int)==1&&(bL items.size items.size hi-bL items.size 0 lo)==items.size)=true then _ else _) _ _ s;rw[if_neg uI,zgx]
 first
  |exact aC (m:=Builtin.Tuple.tupleExact _) (qP (aU ⟨_,rfl,aU h⟩) oK)
  |exact aC (m:=Builtin.Tuple.tupleExact _) (qP (aC (aU (aU ⟨_,rfl,aU h⟩))) oK)
  |exact aC (aC (m:=Builtin.Tuple.tupleExact _) (qP (aU (aU ⟨_,rfl,aU h⟩)) oK))
  |exact aC (aC (m:=Builtin.Tuple.tupleExact _) (qP (aU ⟨_,rfl,aU h⟩) oK))
end
end HT
namespace L2
open PySem PySem.Spec PyProof.Rows
noncomputable abbrev TO:=St->Hp->(Option Int->Hp->Prop)->Prop
def PO(X:Cx)(e:Option Expr)(t:TO):Prop:=
 ∀(ao:List (Addr×Obj)) (s:Shared) (Z:St) (H:Hp) (Q:Option Int->Hp->Prop),Inv X ao Z H s->t Z H Q->
  wpAny (model X.prog X.w) X.A (evalPart e X.env) (λu s'=>∃o H',Inv X ao Z H' s'/\IsPart u o/\Q o H') X.xe s
noncomputable def uJ:TO:=λ_ H Q=>Q none H
noncomputable def DQ(t:TE):TO:=λZ H Q=>t Z H λx H1=>∃i,x=.int i/\Q (some i) H1
theorem UG{ns:List Int}:∀{us:List Value},Vals (ns.map V.int) us->IntsAre us ns:=by
 induction ns with
 |nil=>intro us r;rw[List.map_nil] at r;cases r;exact .nil
 |cons n ns ih=>
  intro us r;rw[jk] at r;cases r with
  |cons r1 r2=>
   obtain⟨t,e⟩:=r1;subst e;exact .cons n t (ih r2)
section
variable {X:Cx}{e:Expr}{te:TE}{lo hi:Option Expr}{tl th:TO}{pos p2:Pos}
theorem zi1:PO X none uJ:=by
 intro ao s Z H Q I h;rw[evalPart_none];exact aU ⟨none,H,I,.none,h⟩
theorem ziJ(h:PE X e te):PO X (some e) (DQ te):=by
 intro ao s Z H Q I hw;rw[evalPart_some];refine aZ (h ao s Z H _ I hw) λu s1 hx=>dY hx λx H1 I1 r1 q1=>?_;obtain⟨i,rfl,q⟩:=q1;obtain⟨t,rfl⟩:=r1;exact⟨some i,H1,I1,.int i t,q⟩
def uK(X:Cx)(r:V->Option Int->Option Int->Hp->VK->Prop):Prop:=
 ∀(ao:List (Addr×Obj)) (s:Shared) (Z:St) (H:Hp) (x:V) (v vl vu:Value) (lo hi:Option Int) (sl:Addr) (Q:VK),Inv X ao Z H s->RelV x v->s.heap.IsSliceOf sl vl vu .none->IsPart vl lo->IsPart vu hi->r x lo hi H Q->
  ∃T id,typeLookup (.type T) "__getitem__"=pure (some (.builtin id))/\s.TypeIs v T/\wpAny (model X.prog X.w) X.A (getItem v (.ref sl)) (EP X ao Z Q) X.xe s
theorem uK.or{r r':V->Option Int->Option Int->Hp->VK->Prop}(h:uK X r)(h':uK X r'):uK X (λx lo hi H Q=>r x lo hi H Q\/r' x lo hi H Q):=by
 intro ao s Z H x v vl vu lo hi sl Q I rx hs pl pu q;rcases q with q|q
 ·exact h ao s Z H x v vl vu lo hi sl Q I rx hs pl pu q
 ·exact h' ao s Z H x v vl vu lo hi sl Q I rx hs pl pu q
noncomputable def tSl(r:V->Option Int->Option Int->Hp->VK->Prop)(te:TE)(tl th:TO):TE:=λZ H Q=>te Z H λx H1=>tl Z H1 λl H2=>th Z H2 λu H3=>r x l u H3 Q
theorem zho{r:V->Option Int->Option Int->Hp->VK->Prop}(hr:uK X r)(he:PE X e te)(hl:PO X lo tl)(hu:PO X hi th):PE X (.Subscript e (.Slice lo hi none p2) pos) (tSl r te tl th):=by
 intro ao s Z H Q I h;refine Subscript_ (aZ (he ao s Z H _ I h) λv s1 hx=>dY hx λx H1 I1 r1 q1=>?_);refine wpAny_Slice (aZ (hl ao s1 Z H1 _ I1 q1) λvl s2 hx=>dY hx λl H2 I2 pl q2=>aZ (hu ao s2 Z H2 _ I2 q2) λvu s3 hx=>dY hx λu H3 I3 pu q3=>?_);rw[evalPart_none];refine aU ?_;have I4:Inv X ao Z H3 {s3 with heap:=s3.heap.push {cls:=.type "slice",data:=.fields #[vl,vu,.none]}}:=I3.kept (t':=s3.toks) λb ob q=>cJ _ q;obtain⟨T,id,hT,ht,hg⟩:=hr ao {s3 with heap:=s3.heap.push {cls:=.type "slice",data:=.fields #[vl,vu,.none]}} Z H3 x v vl vu l u s3.heap.objs.size Q I4 r1 (Heap.IsSliceOf.new ..) pl pu q3;show wpAny (model X.prog X.w) X.A (subscriptTail e (.Slice lo hi none p2) v (.ref s3.heap.objs.size)) (EP X ao Z Q) X.xe {s3 with heap:=s3.heap.push {cls:=.type "slice",data:=.fields #[vl,vu,.none]}};exact tail_any (ops:=[.ref s3.heap.objs.size,v]) ht hT hg (by with_unfolding_all rfl)
noncomputable def kZ(xs:List V)(lo hi:Option Int):List V:=(xs.drop (HT.bL xs.length 0 lo)).take (HT.bL xs.length xs.length hi-HT.bL xs.length 0 lo)
theorem UJ(xs:List V)(lo hi:Option Int):(kZ xs lo hi).length<=xs.length:=by
 unfold kZ;rw[Aa,List.length_drop]
 lia
noncomputable def Nm(K:W.Frag):V->Option Int->Option Int->Hp->VK->Prop:=λx lo hi H Q=>∃a xs,x=.ref a/\fP K H a xs /\
 ¬(HT.bL xs.length 0 lo=0/\HT.bL xs.length xs.length hi=xs.length)/\∀p,H p=none->Q (.ref p) (upd H p (.tup (kZ xs lo hi)))
theorem zks:uK X (Nm X.K):=by
 intro ao s Z H x v vl vu lo hi sl Q I rx hs pl pu h;obtain⟨a,xs,rfl,hx,hw,q⟩:=h;cases rx;obtain⟨its,r,ht,hz⟩:=I.tuple hx;have hlen:its.toArray.size=xs.length:=by rw[fH];exact r.length.symm
 refine⟨"tuple",_,zR.lookup,ht.typeIs,?_⟩;refine HT.gJ ht hs pl pu (by rw[hlen];exact hw) ?_ (by rw[hlen];exact hz);rw[hlen];refine⟨.ref s.heap.objs.size,_,I.laid (t':=s.toks) (o:=.tup (kZ xs lo hi)) (λb ob q=>cJ _ q) (bJ _) ?_,rfl,q _ (I.hok.fresh (bJ _))⟩;exact⟨jM (UJ xs lo hi) hz,_,(r.drop (HT.bL xs.length 0 lo)).take (HT.bL xs.length xs.length hi-HT.bL xs.length 0 lo),IsTup.new _ _⟩
noncomputable def DR(K:W.Frag):R2:=λx y H Q=>∃a b ns ms,x=.ref a/\y=.ref b/\fP K H a (ns.map V.int)/\fP K H b (ms.map V.int)/\Q (.bl (HT.lexLt ns ms)) H
theorem zjU(hu:X.A.units<cLine):eF X (compareOp .Lt) (DR X.K):=by
 intro ao s Z H x y v u Q I rx ry h;obtain⟨a,b,ns,ms,rfl,rfl,ha,hb,q⟩:=h;cases rx;cases ry;obtain⟨its,r1,p1,_⟩:=I.tuple ha;obtain⟨its2,r2,p2,_⟩:=I.tuple hb;have i1:IntsAre its.toArray.toList ns:=UG r1;have i2:IntsAre its2.toArray.toList ms:=UG r2;exact HT.jq p1 p2 i1 i2 hu ⟨.bl (HT.lexLt ns ms),H,I,rfl,q⟩
theorem Vals.k_{xs:List V}{us:List Value}(r:Vals xs us):us=[]↔xs=[]:=by
 cases r with
 |nil=>simp
 |cons _ _=>simp
end
noncomputable def pP(n:Nat)(i:Int):Option Nat:=if 0<=i then (if i<n then some i.toNat else none) else if -(n:Int)<=i then some (i+n).toNat else none
noncomputable def oM{α:Type}(xs:List α)(i:Int):Option α:=(pP xs.length i).bind λj=>xs[j]?
theorem UL{n:Nat}{i:Int}{j:Nat}(h:pP n i=some j):seqIndex? i n=some j/\j<n/\-(n:Int)<=i/\i<n:=by
 unfold pP at h;by_cases h0:0<=i
 ·rw[if_pos h0] at h;by_cases h1:i<n
  ·rw[if_pos h1] at h;have e:i.toNat=j:=cj h;exact⟨by rw[seqIndex_of h0 h1,e],by lia,by lia,h1⟩
  ·rw[if_neg h1] at h;cases h
 ·rw[if_neg h0] at h;by_cases h1 : -(n:Int)<=i
  ·rw[if_pos h1] at h;have e:(i+n).toNat=j:=cj h;exact⟨by rw[seqIndex_neg (by lia) h1,e],by lia,h1,by lia⟩
  ·rw[if_neg h1] at h;cases h
theorem Np{α:Type}{xs:List α}{i:Int}{v:α}(h:oM xs i=some v):∃j,seqIndex? i xs.length=some j/\xs[j]?=some v/\j<xs.length/\-(xs.length:Int)<=i/\i<xs.length:=by
 unfold oM at h;cases e:pP xs.length i with
 |none=>rw[e] at h;cases h
 |some j=>
  rw[e] at h;obtain⟨h1,h2,h3,h4⟩:=UL e;exact⟨j,h1,h,h2,h3,h4⟩
def oN(b:Expr):Prop:=∀o i,subscripted b false o i=operate [o,i] (getItem o i)
def uL(X:Cx)(r:R2):Prop:=
 ∀(value slice:Expr) (ao:List (Addr×Obj)) (s:Shared) (Z:St) (H:Hp) (x y:V) (v u:Value) (Q:VK),Inv X ao Z H s->RelV x v->RelV y u->r x y H Q->
  subscripted slice false v u=operate [v,u] (getItem v u)->wpAny (model X.prog X.w) X.A (subscriptTail value slice v u) (EP X ao Z Q) X.xe s
def MtR(X:Cx)(id:String)(r:V->List V->Hp->VK->Prop):Prop:=
 ∀(ao:List (Addr×Obj)) (s:Shared) (Z:St) (H:Hp) (x:V) (xs:List V) (v:Value) (us:List Value) (Q:VK),Inv X ao Z H s->RelV x v->Vals xs us->r x xs H Q->
  wpAny (model X.prog X.w) X.A (call (.builtin id) (v::us)) (EP X ao Z Q) X.xe s
section
variable {X:Cx}{a b:Expr}{ta tb:TE}{pos:Pos}
theorem uL.or{r r':R2}(h:uL X r)(h':uL X r'):uL X (λx y H Q=>r x y H Q\/r' x y H Q):=by
 intro value slice ao s Z H x y v u Q I rx ry q hs;rcases q with q|q
 ·exact h value slice ao s Z H x y v u Q I rx ry q hs
 ·exact h' value slice ao s Z H x y v u Q I rx ry q hs
theorem zmf{r:R2}(hr:uL X r)(ha:PE X a ta)(hb:PE X b tb)(hs:oN b):PE X (.Subscript a b pos) (Jf r ta tb):=by
 intro ao s Z H Q I h;exact Subscript_ (yt ha hb I h λv u s2 x y H2 I2 rx ry q=>hr a b ao s2 Z H2 x y v u Q I2 rx ry q (hs _ _))
noncomputable def DW(K:W.Frag):R2:=λx y H Q=>∃p xs i v,x=.ref p/\y=.int i/\cL K H p xs/\oM xs i=some v/\Q v H
noncomputable def DX(K:W.Frag):R2:=λx y H Q=>∃p xs i v,x=.ref p/\y=.int i/\fP K H p xs/\oM xs i=some v/\Q v H
noncomputable def DY:R2:=λx y H Q=>∃z i c,x=.str z/\y=.int i/\z.length<=sizeLine/\oM z.cps.toList i=some c/\Q (.str ⟨#[c]⟩) H
theorem uM:uL X (DW X.K):=by
 intro value slice ao s Z H x y v u Q I rx ry h hs;obtain⟨p,xs,i,z,rfl,rfl,hq,he,q⟩:=h;cases rx;obtain⟨t,rfl⟩:=ry;obtain⟨its,r,pl,hz⟩:=I.list hq;obtain⟨j,h1,h2,h3,h4,h5⟩:=Np he;obtain⟨w,ew,jG⟩:=r.get h2;have hl:=r.length;have hn:=g_;have fin:EP X ao Z Q w s:=⟨z,H,I,jG,q⟩;by_cases h0:0<=i
 ·have hj:i.toNat=j:=by
   rw[seqIndex_of h0 h5] at h1;exact cj h1
  exact item_listR pl.isList h0 (by lia) (by rw[hj];simpa using ew) fin hs
 ·have hj:(i+(its.toArray.size:Int)).toNat=j:=by
   rw[seqIndex_neg (by lia) h4] at h1;rw[fH,<-hl];exact cj h1
  exact subscriptTail_builtinR (x:=w) pl.isList.typeIs slot_list_getitem.lookup
   (wpAny_getItem_list_neg (Q:=λr s'=>r=w/\EP X ao Z Q r s') pl.isList (by lia) (by rw[fH]<;>lia) (by lia) (by rw[hj];simpa using ew) ⟨rfl,fin⟩) hs
theorem yE:uL X (DX X.K):=by
 intro value slice ao s Z H x y v u Q I rx ry h hs;obtain⟨p,xs,i,z,rfl,rfl,hq,he,q⟩:=h;cases rx;obtain⟨t,rfl⟩:=ry;obtain⟨its,r,pl,hz⟩:=I.tuple hq;obtain⟨j,h1,h2,h3,h4,h5⟩:=Np he;obtain⟨w,ew,jG⟩:=r.get h2;have hl:=r.length;have hn:=g_;have fin:EP X ao Z Q w s:=⟨z,H,I,jG,q⟩;exact subscriptTail_builtinR (x:=w) pl.typeIs slot_tuple_getitem.lookup
  (getItem_tuple (j:=j) (Q:=λr s'=>r=w/\EP X ao Z Q r s') pl (by lia) (by lia) (by rw[fH,<-hl];exact h1) (by simpa using ew) ⟨rfl,fin⟩) hs
theorem zkA:uL X DY:=by
 intro value slice ao s Z H x y v u Q I rx ry h hs;obtain⟨z,i,c,rfl,rfl,hz,he,q⟩:=h;obtain⟨t,rfl⟩:=rx;obtain⟨t',rfl⟩:=ry;obtain⟨j,h1,h2,h3,h4,h5⟩:=Np he;have hl:z.cps.toList.length=z.length:=by simp[Str.length]
 rw[hl] at h1 h4 h5;have hn:=g_;exact tail_any (typeIs_str s z t) slot_str_getitem.lookup (getItem_str (c:=c) (by
  have e1:decide (i < -(2^63:Int))=false:=pJ (by lia);have e2:decide (i>=2^63)=false:=pJ (by lia);rw[e1,e2,Bool.or_false]) (by rw[h1];simpa using h2) ⟨.str ⟨#[c]⟩,H,I.tok _,⟨_,rfl⟩,q⟩) hs
noncomputable def Nq(K:W.Frag):R2:=λx y H Q=>DW K x y H Q\/DX K x y H Q\/DY x y H Q
theorem zk3:uL X (Nq X.K):=uM.or (yE.or zkA)
theorem zeH(its:List Value)(n j:Nat)(u:Value):Obj.mapSeq (·.setIfInBounds j u) {cls:=.type "list",data:=.seq its.toArray n}={cls:=.type "list",data:=.seq (its.set j u).toArray n}:=by
 simp[Obj.mapSeq]
theorem Inv.lst{ao:List (Addr×Obj)}{Z:St}{H:Hp}{s:Shared}{p:Addr}{xs:List V}(I:Inv X ao Z H s)(h:H p=some (.lst xs)) :
  ∃(its:List Value) (n:Nat),Vals xs its/\s.heap.get? p=some {cls:=.type "list",data:=.seq its.toArray n}/\xs.length<=sizeLine:=by
 obtain⟨z,its,n,r,e⟩:=I.hok p _ h;exact⟨its,n,r,e,z⟩
theorem Inv.yF{ao:List (Addr×Obj)}{Z:St}{H:Hp}{s:Shared}{p:Addr}{xs ys:List V}{its its':List Value}{n n':Nat}{f:Obj->Obj}(I:Inv X ao Z H s)(h:H p=some (.lst xs))
  (ho:s.heap.get? p=some {cls:=.type "list",data:=.seq its.toArray n}) (hf:f {cls:=.type "list",data:=.seq its.toArray n}={cls:=.type "list",data:=.seq its'.toArray n'}) (r:Vals ys its') (hz:ys.length<=sizeLine) (t:Nat) :
  Inv X ao Z (upd H p (.lst ys)) {s with heap:=s.heap.update p f,toks:=t}:=by
 have e:(s.heap.update p f).get? p=some {cls:=.type "list",data:=.seq its'.toArray n'}:=by
  rw[xG f ho (by rw[hf]<;>rfl),hf]
 refine I.write (x:=p) (e:=p) (by rw[h];trivial) (.inl rfl) (λb u hb q=>(uq _ _ (Ne.symm hb)).trans q) ⟨_,e⟩ ?_;exact⟨hz,its',n',r,e⟩
noncomputable def D_:V->V->V->Hp->(Hp->Prop)->Prop:=λo i v H Q=>∃p xs k j,o=.ref p/\i=.int k/\H p=some (.lst xs)/\pP xs.length k=some j/\Q (upd H p (.lst (xs.set j v)))
theorem zg2:Dk X D_:=by
 intro ao s Z H o i v ov iv u Q I ro ri rv h;obtain⟨p,xs,k,j,rfl,rfl,hp,hj,q⟩:=h;cases ro;obtain⟨t,rfl⟩:=ri;obtain⟨its,n,r,ho,hz⟩:=I.lst hp;obtain⟨h1,h2,h3,h4⟩:=UL hj;have hl:=r.length;have hn:=g_;have I':Inv X ao Z (upd H p (.lst (xs.set j v))) {s with heap:=s.heap.update p (Obj.mapSeq (·.setIfInBounds j u))}:=
  I.yF hp ho (zeH its n j u) (r.set rv j) (by rw[nq];exact hz) s.toks
 by_cases h0:0<=k
 ·have hk:k.toNat=j:=by
   rw[seqIndex_of h0 h4] at h1;exact cj h1
  exact PySem.W.ki_setAt ho h0 (by lia) (by rw[fH,<-hl];exact h4) (by rw[hk];exact⟨_,I',q⟩)
 ·have hk:(k+(its.toArray.size:Int)).toNat=j:=by
   rw[seqIndex_neg (by lia) h3] at h1;rw[fH,<-hl];exact cj h1
  exact PySem.W.ki_setBack ho (by lia) (by rw[fH,<-hl];exact h3) (by lia) (by rw[hk];exact⟨_,I',q⟩)
theorem zcH(lo hi:Option Int)(n:Nat):(sliceBounds lo hi none n).1=((HT.bL n 0 lo:Nat):Int)/\(sliceBounds lo hi none n).2.1=((HT.bL n n hi:Nat):Int)/\(sliceBounds lo hi none n).2.2=1:=by
 refine⟨?_,?_,rfl⟩
 ·cases lo with
  |none=>simp[sliceBounds,HT.bL]
  |some i=>
   simp only[sliceBounds,HT.bL,Option.getD_none,show (1:Int)>0 by decide,if_true];by_cases h:i<0
   ·simp only[h,if_true]<;>lia
   ·simp only[h,qD]<;>lia
 ·cases hi with
  |none=>simp[sliceBounds,HT.bL]
  |some i=>
   simp only[sliceBounds,HT.bL,Option.getD_none,show (1:Int)>0 by decide,if_true];by_cases h:i<0
   ·simp only[h,if_true]<;>lia
   ·simp only[h,qD]<;>lia
theorem zcn(its:List Value)(lo hi:Option Int):slicePick its.toArray lo hi none=((its.drop (HT.bL its.length 0 lo)).take (HT.bL its.length its.length hi-HT.bL its.length 0 lo)).toArray:=by
 obtain⟨h1,h2,h3⟩:=zcH lo hi its.toArray.size;unfold slicePick;rw[h1,h2,h3];simp only[sliceRange_one,pick_run,fH]<;>rfl
noncomputable def Ed(K:W.Frag):V->Option Int->Option Int->Hp->VK->Prop:=λx lo hi H Q=>∃a xs,x=.ref a/\cL K H a xs/\∀p,H p=none->Q (.ref p) (upd H p (.lst (kZ xs lo hi)))
theorem uN:uK X (Ed X.K):=by
 intro ao s Z H x v vl vu lo hi sl Q I rx hs pl pu h;obtain⟨a,xs,rfl,hx,q⟩:=h;cases rx;obtain⟨its,r,ht,hz⟩:=I.list hx;have hlen:=r.length;refine⟨"list",_,slot_list_getitem.lookup,ht.isList.typeIs,?_⟩;refine wpAny_getItem_list_slice ht.isList hs pl pu .none (by simp) ?_ (by rw[fH]<;>lia);rw[zcn,<-hlen];refine⟨.ref s.heap.objs.size,_,I.laid (t':=s.toks) (o:=.lst (kZ xs lo hi)) (λb ob q=>cJ _ q) (bJ _) ?_,rfl,q _ (I.hok.fresh (bJ _))⟩;exact⟨jM (UJ xs lo hi) hz,_,0,(r.drop (HT.bL xs.length 0 lo)).take (HT.bL xs.length xs.length hi-HT.bL xs.length 0 lo),fC _ rfl⟩
theorem zcV:cG X (.builtin "len") (λxs H Q=>∃p ys,xs=[.ref p]/\(cL X.K H p ys\/fP X.K H p ys)/\Q (.int ys.length) H):=by
 intro ao s Z H xs us Q I r h;obtain⟨p,ys,rfl,hq,q⟩:=h;obtain⟨u,rfl,rx⟩:=vals1 r;cases rx;have hn:=g_;rcases hq with hq|hq
 ·obtain⟨its,r',pl,hz⟩:=I.list hq;have hlen:=r'.length;exact Calls.call_len_list pl.isList (by simp only[fH]<;>lia) ⟨.int ys.length,H,I.tok _,⟨s.toks+1,by rw[fH,hlen]⟩,q⟩
 ·obtain⟨its,r',pl,hz⟩:=I.tuple hq;have hlen:=r'.length;exact len_tuple pl (by simp only[fH]<;>lia) ⟨.int ys.length,H,I.tok _,⟨s.toks+1,by rw[fH,hlen]⟩,q⟩
theorem zcF:cG X (.type "list") (λxs H Q=>∃p ys,xs=[.ref p]/\(cL X.K H p ys\/fP X.K H p ys)/\∀l,H l=none->Q (.ref l) (upd H l (.lst ys))):=by
 intro ao s Z H xs us Q I r h;obtain⟨p,ys,rfl,hq,q⟩:=h;obtain⟨u,rfl,rx⟩:=vals1 r;cases rx;have fin:∀(its:List Value),Vals ys its->ys.length<=sizeLine->∀(h':Heap) (c':Nat),(∀b o',s.heap.get? b=some o'->h'.get? b=some o')->
   h'.get? s.heap.objs.size=some {cls:=.type "list",dict:=none,data:=.seq its.toArray c',slots:=#[]}->EP X ao Z Q (.ref s.heap.objs.size) {s with heap:=h'}:=λits r' hz h' c' kp e=>
  ⟨.ref s.heap.objs.size,_,I.laid (t':=s.toks) kp (bJ _) (show bH X.prog X.w _ h' _ (.lst ys) from ⟨hz,its,c',r',e⟩),rfl,q _ (I.hok.fresh (bJ _))⟩
 rcases hq with hq|hq
 ·obtain⟨its,r',pl,hz⟩:=I.list hq;have hlen:=r'.length;obtain⟨o,ho,hc,n,hd⟩:=pl.isList;exact call_list_seq p (.inl rfl) ho hc hd (λh' c' kp e=>fin its r' hz h' c' kp e) (by simp only[fH]<;>lia)
 ·obtain⟨its,r',pl,hz⟩:=I.tuple hq;have hlen:=r'.length;obtain⟨o,ho,hc,n,hd⟩:=pl;exact call_list_seq p (.inr rfl) ho hc hd (λh' c' kp e=>fin its r' hz h' c' kp e) (by simp only[fH]<;>lia)
theorem zco:cG X (.type "tuple") (λxs H Q=>∃p ys,xs=[.ref p]/\((cL X.K H p ys/\∀l,H l=none->Q (.ref l) (upd H l (.tup ys)))\/(fP X.K H p ys/\Q (.ref p) H))):=by
 intro ao s Z H xs us Q I r h;obtain⟨p,ys,rfl,h⟩:=h;obtain⟨u,rfl,rx⟩:=vals1 r;cases rx;rcases h with ⟨hq,q⟩|⟨hq,q⟩
 ·obtain⟨its,r',pl,hz⟩:=I.list hq;have hlen:=r'.length;refine call_tuple_list pl.isList (λh' kp=>?_) (by simp only[fH]<;>lia);have I1:Inv X ao Z H {s with heap:=h'}:=I.kept (t':=s.toks) kp;have I2:Inv X ao Z (upd H h'.objs.size (.tup ys)) {s with heap:=h'.push {cls:=.type "tuple",data:=.seq its.toArray}}:=
   I1.laid (t':=s.toks) (λb o e=>cJ _ e) (bJ _) (show bH X.prog X.w _ _ _ (.tup ys) from ⟨hz,its,r',IsTup.new _ _⟩)
  exact⟨.ref h'.objs.size,_,I2,rfl,q _ (I1.hok.fresh (bJ _))⟩
 ·obtain⟨its,r',pl,hz⟩:=I.tuple hq;exact call_tuple_same pl ⟨.ref p,H,I,rfl,q⟩
def UW(K:W.Frag)(T:String)(x:V)(H:Hp):Prop:=match x with
 |.str _=>T="str"
 |.int _=>T="int"
 |.ref p=>(T="list"/\∃xs,cL K H p xs)\/(T="tuple"/\∃o,K.lookup p=some o/\o.cls=.type "tuple"/\o.dict=none) \/
   (T="dict"/\((∃kvs,H p=some (.dK kvs))\/∃kvs,H p=some (.dT kvs)))\/(T="set"/\∃S n,H p=some (.set S n))
 |_=>False
theorem zlV{ao:List (Addr×Obj)}{Z:St}{H:Hp}{s:Shared}{T:String}{x:V}{v:Value}(I:Inv X ao Z H s)(r:RelV x v)(ty:UW X.K T x H) :
  s.TypeIs v T/\∀a,v=.ref a->∃ob,s.heap.get? a=some ob/\ob.dict=none:=by
 cases x with
 |str z=>
  obtain⟨t,rfl⟩:=r;cases (show T="str" from ty);exact⟨typeIs_str s z t,λ_ e=>nomatch e⟩
 |int i=>
  obtain⟨t,rfl⟩:=r;cases (show T="int" from ty);exact⟨typeIs_int s i t,λ_ e=>nomatch e⟩
 |ref p=>
  cases r;rcases ty with ⟨rfl,xs,hq⟩|⟨rfl,o,hk,hc,hd⟩|⟨rfl,hk⟩|⟨rfl,S,n,hk⟩
  ·obtain⟨its,_,pl,_⟩:=I.list hq;refine⟨pl.isList.typeIs,λa e=>?_⟩;cases e;obtain⟨o,n,e,c,hd,_⟩:=pl;exact⟨o,e,hd⟩
  ·refine⟨⟨o,I.lV p o hk,hc⟩,λa e=>?_⟩;cases e;exact⟨o,I.lV _ o hk,hd⟩
  ·have z:∃o,s.heap.get? p=some o/\o.ExactDict:=by
    rcases hk with ⟨kvs,hk⟩|⟨kvs,hk⟩
    ·obtain⟨_,_,_,_,o,_,_,e,ex,_⟩:=I.hok p _ hk;exact⟨o,e,ex⟩
    ·obtain⟨_,_,_,_,o,_,_,e,ex,_⟩:=I.hok p _ hk;exact⟨o,e,ex⟩
   obtain⟨o,e,ex⟩:=z;refine⟨⟨o,e,ex.1⟩,λa e2=>?_⟩;cases e2;exact⟨o,e,ex.2.1⟩
  ·obtain⟨o,_,_,_,e,ex,_⟩:=I.hok p _ hk;refine⟨⟨o,e,ex.1⟩,λa e2=>?_⟩;cases e2;exact⟨o,e,ex.2.1⟩
 |_=>exact False.elim ty
noncomputable def tBM(K:W.Frag)(T:String)(r:V->List V->Hp->VK->Prop)(to:TE)(t:TA):TE:=λZ H Q=>to Z H λx H1=>UW K T x H1/\t Z H1 λxs H2=>r x xs H2 Q
variable {o e:Expr}{es:List Expr}{to:TE}{t:TA}{name:Str}{apos cpos:Pos}{T id:String}{r:V->List V->Hp->VK->Prop}
theorem zmt(pa:PlainAttrs T)(slot:Slot T name id)(hty:typeOf (.builtin id)=pure (.type "method_descriptor"))(hm:MtR X id r)(ho:PE X o to)(ha:PA X (e::es) t)
  (mj:attributeBase o name X.env (eval o X.env)=eval o X.env:=by rfl)
  (yG:((backTo cpos (starEach (e::es) X.env)).all (λx=>!x.1)&&(backToKw cpos (keywordEach [] X.env)).all (λx=>x.1.isSome)
  &&decide ((e::es).length+([]:List Keyword).length+(if ([]:List Keyword).isEmpty then 0 else 1)<30))=true:=by rfl)
  (mz:(apos.endLine==cpos.line)=true:=by rfl) (hs:starEach (e::es) X.env=(false,eval e X.env)::starEach es X.env:=by rfl) (nG:(backTo cpos (starEach es X.env)).any (·.1)=false:=by rfl) :
  PE X (.Call (.Attribute o name apos) (e::es) [] cpos) (tBM X.K T r to t):=by
 intro ao s Z H Q I h;refine wpAny_Call_method_late mj yG mz rfl (aZ (ho ao s Z H _ I h) λv s1 ⟨x,H1,I1,r1,ty,q1⟩=>?_);obtain⟨h1,h2⟩:=zlV I1 r1 ty;refine⟨T,id,pa,slot,hty,h1,h2,?_⟩;have hA:=ha cpos ao s1 Z H1 _ I1 q1;rw[hs] at hA ⊢;refine Calls.callWith_builtin (by show (false||(backTo cpos (starEach es X.env)).any (·.1))=false;rw[nG]<;>rfl) (Calls.evalArgs_plain ?_);exact aZ hA λus s2 hx=>dY hx λvs H2 I2 r2 q2=>hm ao s2 Z H2 x vs v us Q I2 r1 r2 q2
end
def MtM(X:Cx)(id:String)(r:V->List V->Hp->VK->Prop):Prop:=
 ∀(ao:List (Addr×Obj)) (s:Shared) (Z:St) (H:Hp) (x:V) (xs:List V) (v:Value) (us:List Value) (Q:VK),Inv X ao Z H s->RelV x v->Vals xs us->r x xs H Q->
  wpAny (model X.prog X.w) X.A (call (.builtin id) (v::us)) (EP X ao Z Q) X.xe s
theorem Vals.one{x:V}{us:List Value}(h:Vals [x] us):∃u,us=[u]/\RelV x u:=by
 cases h with
 |cons r t=>cases t;exact⟨_,rfl,r⟩
theorem Vals.two{x y:V}{us:List Value}(h:Vals [x,y] us):∃u v,us=[u,v]/\RelV x u/\RelV y v:=by
 cases h with
 |cons r t=>
  obtain⟨v,rfl,q⟩:=Vals.one t;exact⟨_,_,rfl,r,q⟩
section
variable {X:Cx}{ao:List (Addr×Obj)}{Z:St}{H:Hp}{s:Shared}{l b:Addr}{xs ys zs:List V}
theorem Inv.Nr{its its':List Value}{n:Nat}{f:Array Value->Array Value}{t':Nat}(I:Inv X ao Z H s)(hH:H l=some (.lst xs))
  (e:s.heap.get? l=some {cls:=.type "list",data:=.seq its.toArray n}) (hf:f its.toArray=its'.toArray) (hv:Vals ys its') (hz:ys.length<=sizeLine) :
  Inv X ao Z (upd H l (.lst ys)) {s with heap:=s.heap.update l (Obj.mapSeq f),toks:=t'}:=by
 have q:=PySem.IsL.update e f;rw[hf] at q;refine I.write (x:=l) (e:=l) (by rw[hH];exact trivial) (.inl rfl) (λb' u hb hu=>(uq s.heap (Obj.mapSeq f) (Ne.symm hb)).trans hu) ⟨_,q⟩ ?_;exact⟨hz,its',_,hv,q⟩
theorem Inv.Nt{its:List Value}{t':Nat}(I:Inv X ao Z H s)(hv:Vals ys its)(hz:ys.length<=sizeLine) :
  Inv X ao Z (upd H s.heap.objs.size (.lst ys)) {s with heap:=s.heap.push {cls:=.type "list",data:=.seq its.toArray},toks:=t'}:=
 I.laid (λ_ _ q=>cJ _ q) (bJ _) ⟨hz,its,0,hv,fC _ rfl⟩
theorem Inv.fresh(I:Inv X ao Z H s):H s.heap.objs.size=none:=I.hok.fresh (bJ _)
theorem Inv.Nu(I:Inv X ao Z H s)(hH:H l=some (.lst xs)):xs.length<=sizeLine/\∃(its:List Value) (n:Nat),Vals xs its/\xs.length=its.length/\s.heap.get? l=some {cls:=.type "list",data:=.seq its.toArray n}:=by
 obtain⟨z,its,n,r,e⟩:=I.hok l _ hH;exact⟨z,its,n,r,r.length,e⟩
end
section
variable {X:Cx}
noncomputable def uO:V->List V->Hp->VK->Prop:=λx vs H Q=>∃l xs y,x=.ref l/\vs=[y]/\H l=some (.lst xs)/\xs.length<sizeLine/\Q .non (upd H l (.lst (xs++[y])))
theorem U6:MtM X "list.append" uO:=by
 intro ao s Z H x vs v us Q I rx rv h;obtain⟨l,xs,y,rfl,rfl,hH,hz,q⟩:=h;cases rx;obtain⟨u,rfl,ru⟩:=rv.one;obtain⟨z,its,n,r,hl,e⟩:=I.Nu hH;refine call_meets F.slot_list_append ⟨_,e,rfl⟩ F.entry_list_append (F.args_list_append_2 _ _) (PySem.list_append l its.toArray n u (by rw[fH];lia)) ⟨e,?_⟩;refine⟨.non,_,I.Nr (its':=its++[u]) hH e (by simp) (r.append (.cons ru .nil)) ?_,rfl,q⟩;rw[mZ,List.length_singleton]
 lia
end
section
variable {prog:Program}{w:World}{A:Around}{E:Value->Shared->Prop}{s:Shared}
set_option maxRecDepth 100000 in
end
section
variable {X:Cx}
end
end L2
namespace U7
open PySem PySem.W PySem.Calls PyProof.Rows
theorem zbz{P:Params}{h:Heap}:∀(ns:List Int) (vs:List Value),WellAll P h vs (ns.map WData.int)->IntsAre vs ns:=by
 intro ns
 induction ns with
 |nil=>
  intro vs w;rw[List.map_nil] at w;cases w;exact .nil
 |cons n ns ih=>
  intro vs w;rw[jk] at w;cases w with
  |cons a b=>
   cases a;exact .cons _ _ (ih _ b)
theorem zfb{l:OpenLaw}{n:Nat}(hn:l.most=some n){P:Params}{h:Heap}{args:List WData}{vals:List Value}
  (hpre:l.row.toRowW.claim.pre args=true) (Nv:WellAll P h vals args) :
  ∃a vs ns,vals=[Value.ref a]/\args=[WData.list (ns.map WData.int)]/\h.get? a=some {cls:=.type "list",data:=.seq vs.toArray}/\IntsAre vs ns/\ns.length<=n:=by
 have hsh:WShape.hasAll [] args [.list .int]=true:=(pre_splitW hpre).1;have hc:l.pre.holds [] {args:=args}=true:=(pre_splitW hpre).2;obtain⟨d,r,rfl,h1,h2⟩:=hasAllW_cons hsh;obtain rfl:=hasAllW_nil h2;obtain⟨xs,rfl,h3⟩:=hasW_list h1;obtain⟨ns,rfl⟩:=items_int h3;have hlen:ns.length<=n:=by
  unfold OpenLaw.pre at hc;have h4:(WTm.not (.lt (.lit (.int (n:Int))) (.len (.arg 0)))).holds [] {args:=[.list (ns.map .int)]}=true:=by
   have h4:=(holds_andW hc).1;rw[hn] at h4;exact h4
  have h5:=condW_of h4 (w_not (w_lt w_lit (w_len_list (w_arg rfl))));rw[cU] at h5;refine Ik λq=>?_;have q':(n:Int)<((ns.length:Nat):Int):=by lia
  first
   |(rw[iy q'] at h5;exact absurd h5 (by decide))
   |(simp at h5;lia)
 cases Nv with
 |cons w1 w2=>
  cases w2;cases w1 with
  |list ho nH=>exact⟨_,_,ns,rfl,rfl,ho,zbz ns _ nH,hlen⟩
theorem zgi(l:OpenLaw)(args:List WData):l.row.toRowW.claim.post args (.bool true) args=true:=
 postW_of (r:=l.row.toRowW) (X:=(true==true))
  (show WShape.has [] (.bool true) .bool=true by first|rfl|decide|simp[WShape.has,WShape.arms,WShape.armsAll])
  (show (WTm.eq .res (.lit (.bool true))).value [] {args:=args,res:=some (.bool true),after:=args}=some (.bool (true==true)) from w_eq_bool (w_res rfl) w_lit) rfl
theorem mC{l:OpenLaw}{n:Nat}{q:Program}{loose:List Str}{XP:(Str->Option Value)->Heap->Prop}{YP:World->Heap->Prop}{d:DefRec}
  (hn:l.most=some n) (Ny:d.params.defaults=[])
  (call:∀(w:World) (s₀ s₁:Shared) (mg mb:Str->Option Value) (fa:Addr) (o:Obj) (pm cd doc:Value) (a:Addr) (vs:List Value) (ns:List Int),
   Ground q loose [] XP w s₀ mg mb s₁.heap->YP w s₁.heap->
   s₁.heap.get? fa=some o->o.data=.func (docDef d.name d.params d.body d.scope pm cd doc)->s₁.heap.CodeRec cd d.name->mg d.name=some (.ref fa)->
   s₁.heap.get? a=some {cls:=.type "list",data:=.seq vs.toArray}->IntsAre vs ns->ns.length<=n->s₁.gens=#[]->
   codeAny (model l.prog w) callerA (.call (.ref fa) ⟨[.ref a],[]⟩) (λr s'=>r=.ok (.ret (.bool true))/\OldK s₁.heap s'.heap/\s'.os=s₁.os/\AllBare s'.gens) s₁) :
  WalkO q loose XP YP l.row.toRowW d [] (λf vs=>PySem.call f vs):=by
 intro w s₀ s₁ mg mb G Y fa o pm cd doc dV kV ho hd jz hD hmg hg args vals as hpre aac hrd Nv pQ;obtain rfl:dV=.none:=Dflts.none hD Ny;obtain rfl:kV=.none:=Dflts.noKw hD;obtain⟨a,vs,ns,rfl,rfl,yH,hints,hlen⟩:=zfb hn hpre Nv;refine enter_call (Ag (call w s₀ s₁ mg mb fa o pm cd doc a vs ns G Y ho (fd_plain hd) jz hmg yH hints hlen hg) λr s' hq=>?_);obtain⟨rfl,h2,h3,h4⟩:=hq;exact⟨.inl ⟨.bool true,.bool true,[],rfl,λ_=>rfl,.bool true,zgi l _,λ_=>⟨List.Pairwise.nil,λ_ hm=>(nomatch hm)⟩⟩,h2,h3,h4⟩
section
variable {prog:Program}{w:World}{A:Around}{E:Value->Shared->Prop}{s:Shared}{K:Frag}
end
end U7
namespace L2
open PySem PySem.Spec PyProof.Rows
theorem U8:∀{vs:List Value} {ns:List Int},IntsAre vs ns->Vals (ns.map V.int) vs
 |_,_,.nil=>.nil
 |_,_,.cons n t h=>.cons ⟨t,rfl⟩ (U8 h)
def Only(H:Hp):Prop:=∀b,H b=none\/∃o xs,H b=some (.tM o (.lst xs))
theorem zgv{P:Program}{w:World}{K:W.Frag}{mg mb:Str->Option Value}{CX:qH}{k:Nat}{fa a:Addr}{fd:FuncData}{x:Str}{sp:Sp}{s₁:Shared}{vs:List Value}{ns:List Int}
  (KX:K.In s₁.heap) (U9:s₁.heap.Ns mainGlobals mg) (hb:s₁.heap.Ns builtinsNs mb) (hbb:∀x:Str,x≠"__name__"->mb x=bootBuiltins x) (Nz:s₁.heap.NoLimit) (hg:s₁.gens=#[])
  (ha:s₁.heap.get? a=some {cls:=.type "list",data:=.seq vs.toArray}) (hi:IntsAre vs ns) (hl:ns.length<=sizeLine) (hr:bB k callerA)
  (F:∀base:Heap,K.In base->base.Ns mainGlobals mg->bT P w K mg base CX true k fa fd [x] sp) (Ef:∀(s:Shared) (u:Value),BindsTo s fd ⟨[u],[]⟩ [(x,u)])
  (Jh:∀H:Hp,Only H->cL K H a (ns.map V.int)->sp [.ref a] H (λv _=>v=.bl true) λ_ _ _=>False)
  (hCX:∀H e s',CX [] H s₁ (λ_ _ _=>False) e s'->False) :
  codeAny (model P w) callerA (.call (.ref fa) ⟨[.ref a],[]⟩) (λr s'=>r=.ok (.ret (.bool true))/\OldK s₁.heap s'.heap/\s'.os=s₁.os/\AllBare s'.gens) s₁:=by
 have rv:=U8 hi;have lenV:=hi.length;have core:∀H:Hp,Only H->cL K H a (ns.map V.int)->gW P w H s₁.heap->(∀b,H b≠none->b=a)->(H a≠none->K.lookup a=none)->
   codeAny (model P w) callerA (.call (.ref fa) ⟨[.ref a],[]⟩) (λr s'=>r=.ok (.ret (.bool true))/\OldK s₁.heap s'.heap/\s'.os=s₁.os/\AllBare s'.gens) s₁:=by
  intro H hO hS hok hA hK;have oO:∀{b:Addr} {o:Obj},s₁.heap.get? b=some o->H b=none->(kJ s₁.heap H).get? b=some o:=λe n=>zgG e n;have Dy:∀{b:Addr} {o:Obj} {es:Array DictEntry} {ep:Nat},s₁.heap.get? b=some o->o.data=.dict es ep->H b=none:=λ{b o es ep} e d=>by
   cases q:H b with
   |none=>rfl
   |some u=>
    have e':b=a:=hA b (by rw[q];simp);subst e';rw[ha] at e;cases e;have d':Data.seq vs.toArray _=Data.dict es ep:=d;cases d'
  have Jk:∀{b:Addr} {m:Str->Option Value},s₁.heap.Ns b m->(kJ s₁.heap H).Ns b m:=λ{b m} ⟨o,es,ep,e,d,r⟩=>⟨o,es,ep,oO e (Dy e d),d,r⟩;have U_:K.In (kJ s₁.heap H):=λb o e=>oO (KX b o e) (by
   cases q:H b with
   |none=>rfl
   |some u=>
    have e':b=a:=hA b (by rw[q];simp);subst e';rw[hK (by rw[q];simp)] at e;cases e)
  have hM:Mod K mg (kJ s₁.heap H):=⟨U_,Jk U9,⟨mb,Jk hb,hbb⟩,let ⟨mc,h1,h2⟩:=Nz;⟨mc,Jk h1,h2⟩⟩;have e0:nD P w K mg (kJ s₁.heap H) callerA [] s₁ H:=⟨rfl,hM,λb o e=>zjl e,Nat.le_of_eq (zfJ _ _),trivial,λb hb=>absurd (show b∈([]:List Addr) from hb) (by simp),hok,.of_eq hg⟩;refine Ag ((F _ U_ (Jk U9)).run callerA [] s₁ H ⟨[.ref a],[]⟩ [.ref a] [.ref a] _ _ (λ_=>rfl) hr e0 (Ef s₁ (.ref a)) (.cons rfl .nil) (Jh H hO hS)) λr s' h=>?_;cases r with
  |error e=>exact(hCX H e s' h).elim
  |ok fl=>
   cases fl with
   |next=>exact False.elim h
   |brk=>exact False.elim h
   |cont=>exact False.elim h
   |ret u=>
    obtain⟨v,H',os,bare,un,NK,r',q⟩:=h;have q':v=.bl true:=q;subst q';obtain rfl:u=Value.bool true:=r';refine⟨rfl,OldK.of_keep λb o e=>?_,os,bare⟩;cases q:H b with
    |none=>exact un.keep b o e q (by intro z;exact absurd (show b∈([]:List Addr) from z) (by simp)) (by simp)
    |some u=>
     rcases hO b with z|⟨ob,xs,z⟩
     ·rw[q] at z;cases z
     ·have z2:=un.jD b ob _ z;obtain⟨e1,_⟩:=hok b _ z;obtain⟨e2,_⟩:=NK b _ z2;rw[e] at e1;cases e1;exact e2
 cases hk:K.lookup a with
 |some o=>
  have e:=KX a o hk;rw[ha] at e;cases e;refine core (λ_=>none) (λ_=>.inl rfl) (.inr ⟨_,vs.toArray,_,hk,rfl,rfl,rfl,by rw[fH,lenV];exact hl,by simpa using rv⟩) (λb u z=>by have z':(none:Option HO)=some u:=z;cases z') (λb z=>absurd rfl z) λz=>absurd rfl z
 |none=>
  refine core (λb=>if b=a then some (.tM {cls:=.type "list",data:=.seq vs.toArray} (.lst (ns.map V.int))) else none) (λb=>?_) (.inl (.inr ⟨{cls:=.type "list",data:=.seq vs.toArray},if_pos rfl⟩)) (λb u z=>?_) (λb z=>?_) λ_=>hk
  ·by_cases hb:b=a
   ·exact .inr ⟨_,_,if_pos hb⟩
   ·exact .inl (if_neg hb)
  ·by_cases hb:b=a
   ·have z':=(if_pos hb).symm.trans z;cases z';subst hb;exact⟨ha,by rw[cU];exact hl,vs,_,rv,ha⟩
   ·have z':=(if_neg hb).symm.trans z;cases z'
  ·by_cases hb:b=a
   ·exact hb
   ·exact absurd (if_neg hb) z
def NP(h0:Heap)(H:Hp)(h:Heap)(e:Addr)(hd:Value):Prop:=
 hd=.none\/∃T oT ts,hd=.ref T/\h0.get? T=none/\H T=none/\T≠e/\h.get? T=some oT/\oT.data=.fields ts/\ts[3]?=some .none
structure Exc(h0:Heap)(H:Hp)(h:Heap)(e C:Addr)(dx:Option Addr):Prop where
 new:h0.get? e=none
 un:H e=none
 ob:∃oe vs hd,h.get? e=some oe/\oe.cls=.ref C/\oe.dict=dx/\oe.data=.fields vs/\vs[1]?=some hd/\NP h0 H h e hd
structure NQ(h0:Heap)(H:Hp)(fr:List Addr)(h h':Heap)(ch:List Addr):Prop where
 rec_:∀b∈ch,h0.get? b=none/\H b=none/\∃o vs,h.get? b=some o/\o.data=.fields vs
 keep:∀b o,h.get? b=some o->b∉fr->b∉ch->h'.get? b=some o
 slot:∀b o,h.get? b=some o->b∈fr->∃sl,h'.get? b=some {o with slots:=sl}
 there:∀b o,h.get? b=some o->∃o',h'.get? b=some o'
noncomputable def rz(head:Value)(L:Addr)(pl:List Value):Obj:=
 {cls:=.type "traceback",dict:=none,data:=.fields ([head,.ref L,.none,rawInt L,.none]++(if pl.isEmpty then List.replicate 6 Value.none else pl)).toArray}
theorem Va(o:Obj)(f:Array Value->Array Value):(o.mapFields f).dict=o.dict:=by
 obtain⟨c,d,dt,sl⟩:=o;cases dt<;>rfl
theorem Vb(o:Obj)(f:Array Value->Array Value):(o.mapFields f).cls=o.cls:=by
 obtain⟨c,d,dt,sl⟩:=o;cases dt<;>rfl
section
variable {M:Model}{A:Around}{E:Value->Shared->Prop}{s:Shared}{base h0:Heap}{env:Env}{outer:List Env}{L e C:Addr}{dx:Option Addr}{H:Hp}{Q:Unit->Shared->Prop}
theorem Vc(qI:A.frames=some (env::outer))(hl:s.heap.FunFrames base (env::outer))(hf:env.frame=some L)
  (he:s.heap.get? e=some oe) (hd:oe.data=.fields vs) (hsz:1<vs.size)
  (k:∀h' T oT ts,s.heap.objs.size<=T->(∀b o,s.heap.get? b=some o->b∉frs (env::outer)->b≠e->h'.get? b=some o)->(∀b o,s.heap.get? b=some o->b∈frs (env::outer)->∃sl,h'.get? b=some {o with slots:=sl})->
   h'.get? e=some (oe.mapFields (·.setIfInBounds 1 (.ref T)))->h'.get? T=some oT->oT.data=.fields ts->3<ts.size->ts[3]?=some (rawInt L)->Q () {s with heap:=h'}) :
  wpAny M A (do let a <-frameOf env;let pl <-entryPlaceOf L hn;let b <-EntryCells.newEntry head a .none (rawInt L) .none pl;setField (.ref e) 1 b) Q E s:=by
 have Eh:e∉frs (env::outer):=λhm=>by
  obtain⟨_,o,ho,hx⟩:=hl.mem hm;rw[he] at ho;cases ho;exact hx vs hd
 refine aC (wpAny_frameOf_fun qI hl hf λh₁ sl₁=>?_);refine aC (wpAny_entryPlaceOf λpl cD=>?_);unfold EntryCells.newEntry newFields;refine aC (qP ?_ (cD.sizeOk5 _ _ _ _ _));have e1:h₁.get? e=some oe:=(sl₁.2.1 e Eh).trans he;have e2:(h₁.push (rz head L pl)).get? e=some oe:=cJ _ e1;refine Cm e2 hd hsz ?_;have ne:h₁.objs.size≠e:=uw (bQ e1);have d3:=vP hd (·.setIfInBounds 1 (Value.ref h₁.objs.size));have kp:∀b o,h₁.get? b=some o->b≠e->((h₁.push (rz head L pl)).update e (Obj.mapFields (·.setIfInBounds 1 (Value.ref h₁.objs.size)))).get? b=some o:=λb o q n=>by
  rw[uq _ _ n.symm];exact cJ _ q
 refine k _ h₁.objs.size (rz head L pl) _ (by rw[sl₁.1];exact bJ _) (λb o q n1 n2=>kp b o ((sl₁.2.1 b n1).trans q) n2) (λb o q m=>?_) (xG _ e2 (HY d3)) ?_ rfl ?_ ?_
 ·obtain⟨sl,z⟩:=sl₁.2.2 b o q;exact⟨sl,kp b _ z λy=>Eh (y▸m)⟩
 ·rw[uq _ _ ne.symm];exact fC _ rfl
 ·simp only[fH,mZ,gD,Ad]<;>lia
 ·first
   |(simp;done)
   |(rcases cD with rfl|⟨_,_,_,_,_,_,_,rfl⟩<;>simp)
theorem zg9(qI:A.frames=some (env::outer))(hl:s.heap.FunFrames base (env::outer))(hf:env.frame=some L)(x:Exc h0 H s.heap e C dx)
  (k:∀h' T oT oe ts vs ch,NQ h0 H (frs (env::outer)) s.heap h' ch->s.heap.objs.size<=T->h'.get? e=some oe->oe.cls=.ref C->oe.dict=dx->oe.data=.fields vs->vs[1]?=some (.ref T)->h'.get? T=some oT->oT.data=.fields ts->
   3<ts.size->ts[3]?=some (rawInt L)->Q () {s with heap:=h'}):wpAny M A (noteFrame (.ref e) env) Q E s:=by
 obtain⟨oe,vs,hd,he,hc,Jl,tQ,h1,tb⟩:=x.ob;have hsz:1<vs.size:=(Array.getElem?_eq_some_iff.mp h1).1;have Eh:∀b o ws,s.heap.get? b=some o->o.data=.fields ws->b∉frs (env::outer):=λb o ws q d hm=>by
  obtain⟨_,o',ho,hx⟩:=hl.mem hm;rw[q] at ho;cases ho;exact hx ws d
 unfold noteFrame;simp only[hf];refine aC (j_ he tQ h1 ?_);rcases tb with rfl|⟨T,oT,ts,rfl,nT,uT,neT,gT,dT,h3⟩
 ·rw[if_neg (by decide)];refine Vc qI hl hf he tQ hsz λh' T oT ts lt kp sl ge gT dT z3 z4=>?_;refine k h' T oT _ ts _ [e] ⟨λb hb=>?_,λb o q n1 n2=>kp b o q n1 λz=>n2 (by rw[z];exact .head _),sl,λb o q=>?_⟩ lt ge ((Vb _ _).trans hc) ((Va _ _).trans Jl) (vP tQ _) (by simp[hsz]) gT dT z3 z4
  ·obtain rfl:b=e:=by simpa using hb
   exact⟨x.new,x.un,oe,vs,he,tQ⟩
  ·by_cases z:b=e
   ·subst z;exact⟨_,ge⟩
   ·by_cases m:b∈frs (env::outer)
    ·obtain⟨w,q'⟩:=sl b o q m;exact⟨_,q'⟩
    ·exact⟨o,kp b o q m z⟩
 ·rw[if_pos (show (Value.ref T != Value.none)=true from by simp)];refine aC (j_ gT dT h3 ?_);rw[if_neg (show ¬((Value.none==rawInt L)=true) from by simp[rawInt])];have z3:3<ts.size:=(Array.getElem?_eq_some_iff.mp h3).1;refine aC (Cm gT dT z3 ?_);have oth:∀b,b≠T->(s.heap.update T (Obj.mapFields (·.setIfInBounds 3 Value.none))).get? b=s.heap.get? b:=λb n=>uq _ _ n.symm;have hl':(s.heap.update T (Obj.mapFields (·.setIfInBounds 3 Value.none))).FunFrames base (env::outer):=hl.of_keeps λb o q nd=>⟨o,(oth b λz=>by subst z;rw[gT] at q;cases q;exact nd ts dT).trans q,rfl⟩;have sT:(s.heap.update T (Obj.mapFields (·.setIfInBounds 3 Value.none))).get? T=some (oT.mapFields (·.setIfInBounds 3 Value.none)):=xG _ gT (HY (vP dT _));refine Vc qI hl' hf ((oth e neT.symm).trans he) tQ hsz λh' T' oT' ts' lt kp sl ge gT' dT' z3' z4'=>?_;have lt':s.heap.objs.size<=T':=by
   have:=lt;simp only[Heap.size_after_update] at this;exact this
  refine k h' T' oT' _ ts' _ [e,T] ⟨λb hb=>?_,λb o q n1 n2=>kp b o ((oth b λz=>n2 (by simp[z])).trans q) n1 λz=>n2 (by simp[z]),λb o q m=>?_,λb o q=>?_⟩ lt' ge ((Vb _ _).trans hc) ((Va _ _).trans Jl) (vP tQ _) (by simp[hsz]) gT' dT' z3' z4'
  ·have hb':b=e\/b=T:=by simpa using hb
   rcases hb' with rfl|rfl
   ·exact⟨x.new,x.un,oe,vs,he,tQ⟩
   ·exact⟨nT,uT,oT,ts,gT,dT⟩
  ·exact sl b o ((oth b λz=>by subst z;exact Eh b o ts q (by rw[gT] at q;cases q;exact dT) m).trans q) m
  ·by_cases z:b=e
   ·subst z;exact⟨_,ge⟩
   ·by_cases y:b=T
    ·subst y;exact⟨_,kp b _ sT (Eh b oT ts gT dT) z⟩
    ·by_cases m:b∈frs (env::outer)
     ·obtain⟨w,q'⟩:=sl b o ((oth b y).trans q) m;exact⟨_,q'⟩
     ·exact⟨o,kp b o ((oth b y).trans q) m z⟩
theorem zgw(he:s.heap.get? e=some oe)(hd:oe.data=.fields vs)(h1:vs[1]?=some (.ref T))(gT:s.heap.get? T=some oT)(dT:oT.data=.fields ts)(z3:3<ts.size)
  (k:∀h',(∀b o,b≠T->s.heap.get? b=some o->h'.get? b=some o)->h'.get? T=some (oT.mapFields (·.setIfInBounds 3 Value.none))->Q () {s with heap:=h'}):wpAny M A (setFlight (.ref e) none) Q E s:=by
 unfold setFlight;refine aC (j_ he hd h1 ?_);rw[if_pos (show (Value.ref T != Value.none)=true from by simp)];exact Cm gT dT z3 (k _ (λb o n q=>(uq _ _ n.symm).trans q) (xG _ gT (HY (vP dT _))))
theorem zge(qI:A.frames=some (env::outer))(hl:s.heap.FunFrames base (env::outer))(hf:env.frame=some L)(x:Exc h0 H s.heap e C dx)
  (oG:∀b,s.heap.objs.size<=b->H b=none) (h0s:∀b o,h0.get? b=some o->∃o',s.heap.get? b=some o')
  (k:∀h' ch,NQ h0 H (frs (env::outer)) s.heap h' ch->Exc h0 H h' e C dx->Q () {s with heap:=h'}) :
  wpAny M A (noteFrame (.ref e) env) (λ_ s₁=>wpAny M A (setFlight (.ref e) none) Q E s₁) E s:=by
 have ele:∃o,s.heap.get? e=some o:=let ⟨oe,_,_,he,_⟩:=x.ob;⟨oe,he⟩;refine zg9 qI hl hf x λh' T oT oe ts vs ch t lt ge hc Jl tQ h1 gT dT z3 z4=>?_;have neT:T≠e:=λz=>by
  obtain⟨o,q⟩:=ele;exact absurd (gR (bQ q) (z▸lt)) (oA _)
 refine zgw (s:={s with heap:=h'}) ge tQ h1 gT dT z3 λh2 kp gT2=>?_;have nT:∀b o,s.heap.get? b=some o->b≠T:=λb o q z=>absurd (gR (bQ q) (z▸lt)) (oA _);refine k h2 ch ⟨t.rec_,λb o q n1 n2=>kp b o (nT b o q) (t.keep b o q n1 n2),λb o q m=>?_,λb o q=>?_⟩ ⟨x.new,x.un,oe,vs,.ref T,kp e oe neT.symm ge,hc,Jl,tQ,h1,.inr ⟨T,_,_,rfl,?_,oG T lt,neT,gT2,vP dT _,by simp[z3]⟩⟩
 ·obtain⟨sl,q'⟩:=t.slot b o q m;exact⟨sl,kp b _ (nT b o q) q'⟩
 ·obtain⟨o',q'⟩:=t.there b o q;exact⟨o',kp b o' (nT b o q) q'⟩
 ·cases z:h0.get? T with
  |none=>rfl
  |some o=>
   obtain⟨o',q⟩:=h0s T o z;exact absurd rfl (nT T o' q)
end
noncomputable abbrev XS:=St->Value->Option Addr->Hp->Prop
def Sub(h0 h:Heap):Prop:=∀b o,h0.get? b=some o->∃o',h.get? b=some o'
theorem Sub.none{h0 h:Heap}(x:Sub h0 h){b:Addr}(e:h.get? b=none):h0.get? b=none:=by
 cases q:h0.get? b with
 |none=>rfl
 |some o=>
  obtain⟨o',z⟩:=x b o q;rw[e] at z;cases z
theorem Exc.older{h0 h1:Heap}{H:Hp}{h:Heap}{e C:Addr}{dx:Option Addr}(x:Exc h1 H h e C dx)(y:Sub h0 h1):Exc h0 H h e C dx:=by
 obtain⟨oe,vs,hd,a,b,c,d,f,tb⟩:=x.ob;refine⟨y.none x.new,x.un,oe,vs,hd,a,b,c,d,f,?_⟩;rcases tb with z|⟨T,oT,ts,z1,z2,z3⟩
 ·exact .inl z
 ·exact .inr ⟨T,oT,ts,z1,y.none z2,z3⟩
section
variable {X:Cx}{ao:List (Addr×Obj)}{Z:St}{H:Hp}{s:Shared}{h0 h':Heap}{ch fr:List Addr}
theorem gW.tbd{P:Program}{w:World}{h:Heap}(x:gW P w H h)(t:NQ h0 H fr h h' ch)(hf:∀b∈fr,H b=none):gW P w H h':=λa o e=>by
 have st:∀b u,(b=a\/H b=some (.own a))->h.get? b=some u->h'.get? b=some u:=λb u z q=>by
  have nb:H b≠none:=by
   rcases z with z|z
   ·rw[z,e];simp
   ·rw[z];simp
  exact t.keep b u q (λm=>nb (hf b m)) λm=>nb (t.rec_ b m).2.1
 exact(x a o e).stay st (λ_ z=>z) λ_ _ z=>z
end
def Raises(X:Cx)(EX:XS):Prop:=
 ∀(ao:List (Addr×Obj)) (Z:St) (H:Hp) (s:Shared) (h0:Heap) (e C:Addr) (dx:Option Addr),Inv X ao Z H s->(∀b o,X.s₀.heap.get? b=some o->b∉X.ex->∃o',h0.get? b=some o')->
  (∀p∈X.pn++ao,∃o,h0.get? p.1=some o)->Sub h0 s.heap->Exc h0 H s.heap e C dx->EX Z (.ref C) dx H->X.xe (.ref e) s
noncomputable def fQ(P:Program)(w:World):qH:=λouter H s E e s'=>
 ∃(a C:Addr) (dx:Option Addr) (H':Hp),e=.ref a/\s'.os=s.os/\AllBare s'.gens/\Un (frs outer) [] H H' s.heap s'.heap/\gW P w H' s'.heap/\Exc s.heap H' s'.heap a C dx/\E (.ref C) dx H'
theorem zez{P:Program}{w:World}{K:W.Frag}{mg:Str->Option Value}{base:Heap}{N:List Str}{qual:Str}{scope:Scope}{f:Addr}{cd:Value}{A:Around}{outer:List Env}{s:Shared}{H:Hp}{E:XK}{cm:Bool} :
  Raises (fK (fQ P w) P w K mg base N qual scope f cd A outer s H E cm) (λ_ C dx H'=>E C dx H'):=by
 intro ao Z H1 s1 h0 e C dx I hs hp h01 x ex;have I0:Inv (fK (fQ P w) P w K mg base N qual scope f cd A outer s H E cm) [] Z H1 s1:=I.kY λp z=>absurd z (by simp);show wpAny (model P w) (A.deeper (envOfC qual scope s.heap.objs.size f cd)) (leaving (envOfC qual scope s.heap.objs.size f cd) (.ref e)) _ _ s1;unfold leaving;have hsub:Sub s.heap h0:=λb o q=>hs b o q (by show b∉([]:List Addr);simp);refine aC (zge (base:=base) (outer:=outer) (L:=s.heap.objs.size) I0.ok.frames I0.stack rfl x (λb z=>I0.hok.fresh z) h01 λh' ch t x'=>?_);have fin:∀b o,s.heap.get? b=some o->b∉ch:=λb o q m=>by
  have z:=hsub.none (t.rec_ b m).1;rw[q] at z;cases z
 have nL:∀b o,s.heap.get? b=some o->b∉frs outer->b∉frs (envOfC qual scope s.heap.objs.size f cd::outer):=λb o q n m=>by
  have m':b∈s.heap.objs.size::frs outer:=m;rcases jd.mp m' with z|z
  ·exact absurd (bQ q) (by rw[z];exact oA _)
  ·exact n z
 refine⟨e,C,dx,H1,rfl,I0.os,I0.bare,⟨λb o q n hb _=>?_,λb o q n hb _=>?_,λb o q n _=>I0.base.free b o q n (by show b∉([]:List Addr);simp),λb o q _=>?_,I0.base.tups,I0.base.jD,I0.base.kI⟩,I0.hok.tbd t I0.kW,x'.older hsub,ex⟩
 ·exact t.keep b o (I0.base.keep b o q n hb (by show b∉([]:List Addr);simp)) (nL b o q hb) (fin b o q)
 ·obtain⟨sl,q1⟩:=I0.base.slot b o q n hb (by show b∉([]:List Addr);simp);obtain⟨sl',q2⟩:=t.slot b _ q1 (show b∈s.heap.objs.size::frs outer from gQ _ hb);exact⟨sl',q2⟩
 ·obtain⟨o',q1⟩:=I0.base.there b o q (by show b∉([]:List Addr);simp);exact t.there b o' q1
section
variable {X:Cx}{cm:Bool}{k:Nat}{f C:Addr}{fd:FuncData}{ps:List Str}{sp:Sp}{EX:XS}{x m:Str}{p pos apos:Pos}{e o:Expr}{es:List Expr}{ta:TE}{t:TA}
theorem Raises.pass(R:Raises X EX)(I:Inv X ao Z H s)(h:fQ X.prog X.w X.stack H s (EX Z) v s'):X.xe v s':=by
 obtain⟨a,C,dx,H',rfl,os,bare,un,hok,x,q⟩:=h;have aq:Sub s.heap s'.heap:=λb o z=>un.there b o z (by simp);refine R ao Z H' s' s.heap a C dx (I.call' os un hok bare λb z=>absurd z (by simp)) (λb o z n=>I.base.there b o z n) (λp hp=>?_) aq x q;exact⟨p.2,(I.pin p hp).1⟩
noncomputable def yI(sp:Sp)(EX:XS)(t:TA):TE:=λZ H Q=>t Z H λvs H1=>sp vs H1 Q (EX Z)
theorem zih(F:bT X.prog X.w X.K X.mg X.base (fQ X.prog X.w) cm k f fd ps sp)(iQ:cm=true->X.aj=true)(hr:bB k X.A)(hb:Binds X.K fd ps [])(R:Raises X EX)
  (I:Inv X ao Z H s) (r:Vals vs us) (h:sp vs H Q (EX Z)):wpAny (model X.prog X.w) X.A (call (.ref f) us) (EP X ao Z Q) X.xe s:=by
 have hl:us.length=ps.length:=by rw[<-r.length];exact F.len _ _ _ _ h
 have hb':=hb s us I.lV (by rw[vU];exact hl);rw[vU] at hb';refine wpAny_call (Ag (F.run X.A X.stack s H ⟨us,[]⟩ us vs Q (EX Z) (λz=>I.ok.hd (iQ z)) hr I.env0 hb' r h) λr s' hq=>?_);cases r with
 |error v=>exact R.pass I hq
 |ok fl=>
  cases fl with
  |ret u=>exact I.after hq
  |next=>exact False.elim hq
  |brk=>exact False.elim hq
  |cont=>exact False.elim hq
theorem zgP(F:bT X.prog X.w X.K X.mg X.base (fQ X.prog X.w) cm k f fd ps sp)(iQ:cm=true->X.aj=true)(hr:bB k X.A)(hg:Gl X x)(hm:X.mg x=some (.ref f))(hk:PySem.W.keepIn X.K (.ref f)=true)(hb:Binds X.K fd ps [])(R:Raises X EX)
  (ha:PA X (e::es) t) (pO:(x==("__debug__" : Str))=false:=by decide) (he:starEach (e::es) X.env=(false,eval e X.env)::starEach es X.env:=by rfl) (cD:(backTo pos (starEach es X.env)).any (·.1)=false:=by rfl) :
  PE X (.Call (.Name x p) (e::es) [] pos) (yI sp EX t):=by
 intro ao s Z H Q I h;refine zX (Mj I hg hm ?_ pO);exact Lq (h₀:=X.base) I.ok.mod.vY hk (aZ (ha pos ao s Z H _ I h) λus s1 ⟨vs,H1,I1,r,q⟩=>⟨I1.lV,zih F iQ hr hb R I1 r q⟩) he cD
end
noncomputable def uP(a C:Addr)(dx:Option Addr):HO:=.ext λh=>∃oe vs,h.get? a=some oe/\oe.cls=.ref C/\oe.dict=dx/\oe.data=.fields vs
section
variable {X:Cx}{ao:List (Addr×Obj)}{Z:St}{H:Hp}{s:Shared}{e:Addr}{o:HO}
end
section
variable {X:Cx}{x n:Str}{np aad pos:Pos}{b₀:Stmt}{body suite:List Stmt}{Dc:Addr}{i:Nat}{tb:XS->TS}{th:TS}
end
end L2
namespace L2
open PySem PySem.Spec PyProof.Rows PySem.W Builtin.ObjectAttr
section
variable {prog:Program}{w:World}{A:Around}{E:Value->Shared->Prop}{s:Shared}{K:Frag}{x C:Addr}{ox:Obj}{od:Option Obj}{name:Str}{tk:Tok}
theorem zjb(XI:K.In s.heap)(I:InstAt s.heap x ox C od)(hf:findObj K C od name=some r)
  (h:match r with|.value v=>Q (.done (.ret v)) s|.bind g a=>wpAny (model prog w) A (call g [a,.ref x,.ref C]) (λv s'=>Q (.done (.ret v)) s') E s|.missing=>False) :
  wpAny (model prog w) A (Builtin.«object.__getattribute__» ⟨[.ref x,.str name tk],[]⟩) Q E s:=by
 obtain⟨hh,g,d,t,os⟩:=s;have L0:=I.type (M:=model prog w);have L1:=looks_find (M:=model prog w) XI I hf;unfold Builtin.«object.__getattribute__»;refine aC (wpAny_of_eq (a:=(Value.ref x,[Value.str name tk])) (by rfl) ?_);refine aC (wpAny_of_eq (a:=name) (by rfl) ?_);refine aC (L0.at (aC (L1.at ?_)));cases r with
 |value v=>exact aU h
 |bind g a=>
  show wpAny _ _ (holding [a] (call g [a,.ref x,.ref C]) >>= ret) _ _ _;exact aC (qy (lK h (λv s' z=>aU z) λ_ _ z=>z))
 |missing=>exact h.elim
theorem zfX(XI:K.In s.heap)(I:InstAt s.heap x ox C od)(hb:mroIn K C (.type "BaseException")=some true)(hf:findObj K C od name=some r)
  (h:match r with|.value v=>R (.ok (.ret v)) s|.bind g a=>wpAny (model prog w) A.in1 (call g [a,.ref x,.ref C]) (λv s'=>R (.ok (.ret v)) s') (λe s'=>R (.error e) s') s|.missing=>False) :
  codeAny (model prog w) A (.call (.builtin "BaseException.__getattribute__") ⟨[.ref x,.str name tk],[]⟩) R s:=by
 have hk:builtinKind "BaseException.__getattribute__"=some .slot:=by decide +kernel
 have yJ:splitId "BaseException.__getattribute__"=some ("BaseException","__getattribute__"):=by decide +kernel
 have ha:=F.args_bexc_ga (.ref x) (.str name tk);refine codeAny_call_builtin F.attr_ValueError.ga.plain F.entry_bexc_ga ?_;have fin:wpAny (model prog w) A.in1 (Builtin.«object.__getattribute__» ⟨[.ref x,.str name tk],[]⟩) (λfin s'=>match fin with|.done f=>R (.ok f) s'|.again c'=>c'.quiet=true/\codeAny (model prog w) A c' R s') (λe s'=>R (.error e) s') s:=by
  refine zjb XI I hf ?_;cases r with
  |value v=>exact h
  |bind g a=>exact h
  |missing=>exact h.elim
 have chk:∀Q:Unit->Shared->Prop,Q () s->wpAny (model prog w) A.in1 (checkBuiltinCall "BaseException.__getattribute__" ⟨[.ref x,.str name tk],[]⟩) Q (λe s'=>R (.error e) s') s:=λQ hq=>by
  obtain⟨hh,g,d,t,os⟩:=s;have L0:=I.type (M:=model prog w);have L1:=looks_mroIn (M:=model prog w) XI hb;have LI:Looks (model prog w) hh (isInstance (.ref x) (.type "BaseException")) true:=L0.andThen L1;simp only[checkBuiltinCall,hk,yJ];refine aC ?_
  repeat (first|with_reducible exact hq|with_reducible refine LI.at ?_|wp_step)
 exact chk _ fin
theorem bexc_get?(XI:K.In s.heap)(I:InstAt s.heap x ox C od)(hb:mroIn K C (.type "BaseException")=some true)(hga:findIn K (.ref C) "__getattribute__"=some (some (.builtin "BaseException.__getattribute__")))
  (hgn:findIn K (.ref C) "__getattr__"=some none) (hf:findObj K C od name=some r)
  (h:match r with|.value v=>wpAny (model prog w) A (handedOut v) (λu s'=>Q (some u) s') (λ_ _=>False) {s with toks:=s.toks+1}|.bind g a=>wpAny (model prog w) A.in1 (call g [a,.ref x,.ref C]) (λv s'=>wpAny (model prog w) A (handedOut v) (λu s''=>Q (some u) s'') (λ_ _=>False) s') (λ_ _=>False) {s with toks:=s.toks+1}|.missing=>False) :
  wpAny (model prog w) A (getAttr? (.ref x) name) Q E s:=by
 obtain⟨hh,g,d,t,os⟩:=s;have L0:=I.type (M:=model prog w);have L1:=looks_findIn (M:=model prog w) XI hga;have L2:=looks_findIn (M:=model prog w) XI hgn;have Jm:(Value.builtin "BaseException.__getattribute__"==Value.builtin "object.__getattribute__")=false:=by decide +kernel
 unfold getAttr? getAttrBy? getAttrBy;refine aC (wpAny_mkText (aC (Cp (qy (aC (L0.at (aC (L1.at ?_))))))));show wpAny _ _ (if (onTheHeap (.ref C)&&(Value.builtin "BaseException.__getattribute__"==Value.builtin "object.__getattribute__"))=true then _ else getAttrByItsOwn _ _ _ _ _ _) _ _ _;rw[Jm,Bool.and_false,if_neg (by decide)];unfold getAttrByItsOwn hookBefore callGetattribute boundAndCalled;refine aC (L2.at ?_);refine aC (Cp (qy (aC (wpAny_of_eq (F.attr_ValueError.ga.bind (.ref x)) ?_))));refine wpAny_call (zfX XI I hb hf ?_);cases r with
 |value v=>exact lK h (λv s'' hv=>aU hv) (λ_ _ z=>z.elim)
 |bind g a=>exact lK h (λv s' hv=>lK hv (λu s'' z=>aU z) λ_ _ z=>z.elim) (λ_ _ z=>z.elim)
 |missing=>exact h.elim
end
structure XC(K:Frag)(C:Addr):Prop where
 ga:findIn K (.ref C) "__getattribute__"=some (some (.builtin "BaseException.__getattribute__"))
 gn:findIn K (.ref C) "__getattr__"=some none
 cl:findIn K (.ref C) "__class__"=some (some (.builtin "object.__class__"))
 mb:mroIn K C (.type "BaseException")=some true
 mo:mroIn K C (.type "object")=some true
 cd:(clsIn K C).isSome=true
 dg:specialIn K (.builtin "object.__class__") "__get__"=some (some (.builtin "getset_descriptor.__get__"))
 dt:takesIn K (.builtin "object.__class__")=some true
theorem zf8{K:Frag}{C:Addr}{od:Option Obj}{name:Str}{a g:Value}(hc:(clsIn K C).isSome=true)(ha:findIn K (.ref C) name=some (some a))(hg:specialIn K a "__get__"=some (some g))(ht:takesIn K a=some true):findObj K C od name=some (.bind g a):=by
 obtain⟨cd,z⟩:=La.mp hc;simp only[findObj,z,ha,hg,ht,Option.bind_some]
theorem Vd{K:Frag}{e C:Addr}(c:XC K C):KitX K (.ref e) (.ref C) (λh=>∃ox od,InstAt h e ox C od) where
 ty:=λ_ _ _ ⟨_,_,I⟩=>I.type
 it:=λ_ _ XI _=>by
  have q:=c.cd;unfold clsIn at q;split at q
  ·rename_i c' d' cd' sl' lk;intro A' Q' E' s' k z;unfold isType loadHead;exact aC (wpAny_loadPart (k _ _ (XI _ _ lk)) (aU z))
  ·cases q
 ne:=λh tp dd its n sl XI htp=>by
  refine Bool.eq_false_iff.mpr λz=>?_;have ee:C=tp:=Value.ref.inj (m5.mp z);subst ee;have q:=c.cd;unfold clsIn at q;split at q
  ·rename_i c' d' cd' sl' lk;have y:=(XI _ _ lk).symm.trans htp;cases y
  ·cases q
 ca:=λ{prog w A E Q s} XI ⟨ox,od,I⟩ k=>by
  have hf:findObj K C od "__class__"=some (.bind (.builtin "getset_descriptor.__get__") (.builtin "object.__class__")):=zf8 c.cd c.cl c.dg c.dt;refine bexc_get? XI I c.mb c.ga c.gn hf ?_;exact wpAny_call (class_get (s:={s with toks:=s.toks+1}) (ox:=ox) (od:=od) XI I c.mo (handed_on rfl k))
end L2
namespace L2
open PySem PySem.Spec PyProof.Rows
theorem zeG:∀(names:List (Str×NameKind)) (cs:List (Str×Addr)),(∀x∈names,x.2=.free->∃c,env.cells.lookup x.1=some c)->(∀x c,cs.lookup x=some c->env.cells.lookup x=some c)->
  ∃cl,(forIn names cs λx r=>(do
    if x.2==.free then
     let a <-cellOf env x.1
     pure (ForInStep.yield ((x.1,a)::r))
    else pure (ForInStep.yield r)):Sem (List (Str×Addr)))=pure cl/\(∀x c,cl.lookup x=some c->env.cells.lookup x=some c)/\(∀x c,cs.lookup x=some c->cl.lookup x=some c)/\∀x∈names,x.2=.free->∃c,cl.lookup x.1=some c:=by
 intro names
 induction names with
 |nil=>intro cs _ h;exact⟨cs,rfl,h,λ_ _ q=>q,λx z=>nomatch z⟩
 |cons y r ih=>
  intro cs h1 h2;obtain⟨n,k⟩:=y;by_cases hk:k=.free
  ·subst hk;obtain⟨c,hc⟩:=h1 (n,.free) j8 rfl;have hc:env.cells.lookup n=some c:=hc;have h3:∀x d,((n,c)::cs).lookup x=some d->env.cells.lookup x=some d:=λx d q=>by
    rw[m_] at q;by_cases z:x=n
    ·subst z;simp at q;subst q;exact hc
    ·have z':(x==n)=false:=by simpa using z
     rw[z'] at q;exact h2 x d q
   obtain⟨cl,e,a,b,d⟩:=ih ((n,c)::cs) (λx z=>h1 x (gQ _ z)) h3;have hco:cellOf env n=pure c:=by
    unfold cellOf;rw[hc]
   refine⟨cl,?_,a,λx q z=>?_,λx z q=>?_⟩
   ·rw[Ae];simp only[xH,if_true,hco];exact e
   ·by_cases y:x=n
    ·subst y;have z1:=h2 x q z;rw[hc] at z1;cases z1;exact b x c (by simp)
    ·have y':(x==n)=false:=by simpa using y
     exact b x q (by rw[m_,y'];exact z)
   ·rcases jd.mp z with z|z
    ·subst z;exact⟨c,b n c (by simp)⟩
    ·exact d x z q
  ·have hb:(k==NameKind.free)=false:=by simpa using hk
   obtain⟨cl,e,a,b,d⟩:=ih cs (λx z=>h1 x (gQ _ z)) h2;refine⟨cl,?_,a,b,λx z q=>?_⟩
   ·rw[Ae];simp only[hb,vQ,qD];exact e
   ·rcases jd.mp z with z|z
    ·subst z;exact absurd q hk
    ·exact d x z q
theorem zeA(h:∀x∈scope.names,x.2=.free->∃c,env.cells.lookup x.1=some c):∃cl,closureFor scope env=pure cl/\(∀x c,cl.lookup x=some c->env.cells.lookup x=some c)/\∀x∈scope.names,x.2=.free->∃c,cl.lookup x.1=some c:=by
 obtain⟨cl,e,a,_,d⟩:=zeG scope.names [] h (λx c q=>by cases q);refine⟨cl,?_,a,d⟩;unfold closureFor;have e':=e;simp only[pure_bind,bind_pure] at e' ⊢;exact e'
theorem NT{env:Env}{k:NameKind}:∀{names:List (Str×NameKind)} {x:Str},(names.map λ(n,k)=>if (k==NameKind.free&&env.scope.kind==.function&&env.kindOf n==some .cell) then (n,NameKind.cell) else (n,k)).lookup x=some k->
  names.lookup x=some k\/(k=.cell/\names.lookup x=some .free)
 |[],x,h=>by simp at h
 |(n,q)::r,x,h=>by
  rw[jk,m_] at h;rw[m_];have hd:∀c:Bool,(if c=true then (n,NameKind.cell) else (n,q)).1=n:=λc=>by cases c<;>rfl
  rw[hd] at h;by_cases z:x=n
  ·subst z;simp only[xH] at h ⊢;split at h
   ·rename_i y;simp only[gF,m5] at y;cases h;exact .inr ⟨rfl,by rw[y.1.1]⟩
   ·cases h;exact .inl rfl
  ·have z':(x==n)=false:=by simpa using z
   simp only[z'] at h ⊢;exact NT h
theorem Jo{env:Env}:∀{names:List (Str×NameKind)} {x:Str},names.lookup x=some .free->
  (names.map λ(n,k)=>if (k==NameKind.free&&env.scope.kind==.function&&env.kindOf n==some .cell) then (n,NameKind.cell) else (n,k)).lookup x=some .cell \/
  (names.map λ(n,k)=>if (k==NameKind.free&&env.scope.kind==.function&&env.kindOf n==some .cell) then (n,NameKind.cell) else (n,k)).lookup x=some .free
 |[],x,h=>by simp at h
 |(n,q)::r,x,h=>by
  rw[m_] at h;rw[jk,m_];have hd:∀c:Bool,(if c=true then (n,NameKind.cell) else (n,q)).1=n:=λc=>by cases c<;>rfl
  rw[hd];by_cases z:x=n
  ·subst z;simp only[xH] at h ⊢;cases h
   split
   ·exact .inl rfl
   ·exact .inr rfl
  ·have z':(x==n)=false:=by simpa using z
   simp only[z'] at h ⊢;exact Jo h
structure mD(n:Nat)(h1:Heap)(names:List (Str×NameKind))(cl je:List (Str×Addr)):Prop where
 d1:∀x c,je.lookup x=some c->(cl.lookup x=some c/\(x,NameKind.cell)∉names)\/((x,NameKind.cell)∈names/\n<c/\h1.IsCell c none)
 d2:∀x y c,n<c->je.lookup x=some c->je.lookup y=some c->x=y
 d3:∀x,names.lookup x=some .cell->∃c,je.lookup x=some c
 d4:∀x c,(x,NameKind.cell)∉names->cl.lookup x=some c->je.lookup x=some c
theorem cc:(NameKind.cell==NameKind.cell)=true:=by decide
theorem Ej:∀(names:List (Str×NameKind)) (h:Heap) (b:Addr) (o:Obj),h.get? b=some o->(pushCells h names).get? b=some o
 |[],h,b,o,e=>e
 |(x,k)::r,h,b,o,e=>by
  rw[pushCells]
  split
  ·exact Ej r _ b o (cJ _ e)
  ·exact Ej r h b o e
theorem NZ:∀(names:List (Str×NameKind)) (h:Heap) (acc:List (Str×Addr)) (x:Str) (c:Addr),(cellsFrom h.objs.size names acc).lookup x=some c->
  (acc.lookup x=some c/\(x,NameKind.cell)∉names)\/((x,NameKind.cell)∈names/\h.objs.size<=c/\(pushCells h names).IsCell c none)
 |[],h,acc,x,c,e=>.inl ⟨e,by simp⟩
 |(y,k)::r,h,acc,x,c,e=>by
  rw[cellsFrom] at e;rw[pushCells];by_cases hk:k=.cell
  ·subst hk;rw[if_pos cc] at e ⊢;have sz:(h.push {cls:=Value.type "cell",data:=Data.cell none}).objs.size=h.objs.size+1:=by unfold Heap.push;simp
   rw[<-sz] at e;rcases NZ r _ _ x c e with ⟨a,b⟩|⟨a,b,d⟩
   ·rw[m_] at a;by_cases z:x=y
    ·subst z;simp at a;subst a;exact .inr ⟨j8,bJ _,_,Ej r _ _ _ (fC _ rfl),rfl⟩
    ·have z':(x==y)=false:=by simpa using z
     rw[z'] at a;exact .inl ⟨a,by simp[z,b]⟩
   ·exact .inr ⟨gQ _ a,by lia,d⟩
  ·have hb:(k==NameKind.cell)=false:=by simpa using hk
   rw[if_neg (by rw[hb];decide)] at e ⊢;rcases NZ r _ _ x c e with ⟨a,b⟩|⟨a,b,d⟩
   ·exact .inl ⟨a,by simp[b];intro _ q;exact hk q.symm⟩
   ·exact .inr ⟨gQ _ a,b,d⟩
theorem N5:∀(names:List (Str×NameKind)) (n:Nat) (acc:List (Str×Addr)) (x y:Str) (c:Addr),(∀u v,acc.lookup u=some c->acc.lookup v=some c->u=v)->(∀u a,acc.lookup u=some a->a<n\/a≠c)->(cellsFrom n names acc).lookup x=some c->(cellsFrom n names acc).lookup y=some c->x=y
 |[],n,acc,x,y,c,h,_,e1,e2=>h x y e1 e2
 |(z,k)::r,n,acc,x,y,c,h,hl,e1,e2=>by
  rw[cellsFrom] at e1 e2;by_cases hk:k=.cell
  ·subst hk;rw[if_pos cc] at e1 e2;refine N5 r (n+1) _ x y c (λu v a b=>?_) (λu a q=>?_) e1 e2
   ·rw[m_] at a b;by_cases u1:u=z
    ·by_cases v1:v=z
     ·rw[u1,v1]
     ·have v':(v==z)=false:=by simpa using v1
      subst u1;simp at a;rw[v'] at b;subst a;have b:acc.lookup v=some n:=b;rcases hl v n b with q|q
      ·exact absurd q (oA _)
      ·exact absurd rfl q
    ·have u':(u==z)=false:=by simpa using u1
     rw[u'] at a;have a:acc.lookup u=some c:=a;by_cases v1:v=z
     ·subst v1;simp at b;subst b;rcases hl u n a with q|q
      ·exact absurd q (oA _)
      ·exact absurd rfl q
     ·have v':(v==z)=false:=by simpa using v1
      rw[v'] at b;exact h u v a b
   ·rw[m_] at q;by_cases u1:u=z
    ·subst u1;simp at q;subst q;exact .inl (Ij _)
    ·have u':(u==z)=false:=by simpa using u1
     rw[u'] at q;exact(hl u a q).imp (λq=>tD q) id
  ·have hb:(k==NameKind.cell)=false:=by simpa using hk
   rw[if_neg (by rw[hb];decide)] at e1 e2;exact N5 r n acc x y c h hl e1 e2
theorem N6:∀(names:List (Str×NameKind)) (n:Nat) (acc:List (Str×Addr)) (x:Str) (c:Addr),(x,NameKind.cell)∉names->acc.lookup x=some c->(cellsFrom n names acc).lookup x=some c
 |[],n,acc,x,c,_,e=>e
 |(z,k)::r,n,acc,x,c,h,e=>by
  rw[cellsFrom];have hr:(x,NameKind.cell)∉r:=λq=>h (gQ _ q);by_cases hk:k=.cell
  ·subst hk;rw[if_pos cc];refine N6 r (n+1) _ x c hr ?_;have:x≠z:=λq=>h (by rw[q];exact j8);have z':(x==z)=false:=by simpa using this
   rw[m_,z'];exact e
  ·have hb:(k==NameKind.cell)=false:=by simpa using hk
   rw[if_neg (by rw[hb];decide)];exact N6 r n acc x c hr e
theorem N7:∀(names:List (Str×NameKind)) (acc:List (Str×Addr)) (s:Shared) (Q:List (Str×Addr)->Shared->Prop),
  Q (cellsFrom s.heap.objs.size names acc) {s with heap:=pushCells s.heap names}->
  wpAny M A (forIn names acc λx (cells:List (Str×Addr))=>match x with
   |(name,kind)=>if (kind==NameKind.cell)=true then do
     let a <-alloc {cls:=Value.type "cell",data:=Data.cell none}
     pure (ForInStep.yield ((name,a)::cells))
    else pure (ForInStep.yield cells)) Q E s
 |[],acc,s,Q,h=>by
  rw[Ip];exact aU h
 |(z,k)::r,acc,s,Q,h=>by
  rw[Ae];rw[cellsFrom,pushCells] at h;by_cases hk:k=.cell
  ·subst hk;rw[if_pos cc,if_pos cc] at h;refine aC ?_;dsimp only;rw[if_pos cc];refine aC (wpAny_alloc (aU ?_));refine N7 r _ _ Q ?_;have sz:(s.heap.push {cls:=Value.type "cell",data:=Data.cell none}).objs.size=s.heap.objs.size+1:=by unfold Heap.push;simp
   rw[sz];exact h
  ·have hb:(k==NameKind.cell)=false:=by simpa using hk
   rw[if_neg (by rw[hb];decide),if_neg (by rw[hb];decide)] at h;refine aC ?_;dsimp only;rw[if_neg (by rw[hb];decide)];exact aU (N7 r _ _ Q h)
theorem zfG(old:∀x c,cl.lookup x=some c->c<s.heap.objs.size)(inj:∀x y c,cl.lookup x=some c->cl.lookup y=some c->x=y)
  (h:∀h1 je,h1.Ns s.heap.objs.size (λ_=>none)->(∀b o,s.heap.get? b=some o->h1.get? b=some o)->mD s.heap.objs.size h1 scope.names cl je->Q {scope:=scope,locals:=s.heap.objs.size,globals:=globals,cells:=je,qual:=qual,func:=none,code:=env.code,frame:=env.frame,builtins:=env.builtins} {s with heap:=h1}) :
  wpAny M A (newFunctionEnv scope globals cl [] qual none .none (some env)) Q E s:=by
 unfold newFunctionEnv;refine aC (wpAny_alloc ?_);refine aC ?_;refine N7 scope.names cl _ _ ?_;dsimp only;rw[Ip];refine aC (aU (aU ?_));have sz:(s.heap.push {cls:=Value.type (if (some env).isSome=true then "dict" else "frame"),data:=Data.dict #[]}).objs.size=s.heap.objs.size+1:=by unfold Heap.push;simp
 refine h _ _ ?_ (λb o e=>Ej _ _ _ _ (cJ _ e)) ⟨λx c e=>?_,λx y c hc e1 e2=>?_,λx e=>?_,λx c hx e=>N6 _ _ _ x c hx e⟩
 ·refine⟨_,#[],_,Ej _ _ _ _ (fC _ rfl),rfl,?_,λ_=>rfl⟩;intro e he;simp at he
 ·rcases NZ _ _ _ x c e with ⟨a,b⟩|⟨a,b,d⟩
  ·exact .inl ⟨a,b⟩
  ·rw[sz] at b;exact .inr ⟨a,by lia,d⟩
 ·exact N5 _ _ _ x y c (λu v a b=>inj u v c a b) (λu a q=>.inl (by rw[sz];exact tD (old u a q))) e1 e2
 ·have:=Lg scope.names (s.heap.push {cls:=Value.type (if (some env).isSome=true then "dict" else "frame"),data:=Data.dict #[]}).objs.size cl (.inl e);exact La.mp this
noncomputable def Cx.blk(X:Cx)(scope:Scope)(cl:List (Str×Addr))(N:List Str)(C:Addr)(s3:Shared)(H3:Hp)(fp:List Addr)(ao:List (Addr×Obj)):Cx where
 prog:=X.prog
 w:=X.w
 K:=X.K
 mg:=X.mg
 base:=X.base
 A:=X.A
 N:=N
 s₀:=s3
 H₀:=H3
 env:=compEnvC scope cl C X.env
 outer:=X.stack
 stack:=X.stack
 ex:=fp
 fn:=λx=>scope.names.lookup x==some .cell
 aj:=X.aj
 pn:=X.pn++ao
 xe:=λ_ _=>False
structure cX(sc scope:Scope):Prop where
 kind:scope.kind=.function
 Ve:∀y∈scope.names,y.2=.cell->scope.names.lookup y.1=some .cell
 free:∀y∈scope.names,y.2=.free->sc.names.lookup y.1=some .cell\/sc.names.lookup y.1=some .free
 loc:∀y∈scope.names,y.2=.local->scope.names.lookup y.1=some .local
section
variable {X:Cx}{ao:List (Addr×Obj)}{Z:St}{H:Hp}{s:Shared}{scope:Scope}{cl:List (Str×Addr)}{N:List Str}{fp:List Addr}{ZY:St}
theorem zjf{h1:Heap}{t:Nat}{je:List (Str×Addr)}(I:Inv X ao Z H s)(B:cX X.env.scope scope)(c1:∀x c,cl.lookup x=some c->X.env.cells.lookup x=some c)(c2:∀x∈scope.names,x.2=.free->∃c,cl.lookup x.1=some c)
  (f:∀b∈fp,g8 X ao H b) (fo:∀b∈fp,∃o,s.heap.get? b=some o) (hn:h1.Ns s.heap.objs.size (λ_=>none)) (kp:∀b o,s.heap.get? b=some o->h1.get? b=some o) (CN:mD s.heap.objs.size h1 scope.names cl je)
  (hl:ZY.length=N.length) (hZ:∀(i:Nat) (x:Str) (v:V),N[i]?=some x->ZY[i]?=some (some v)->scope.names.lookup x=some .free/\∃j:Nat,X.N[j]?=some x/\Z[j]?=some (some v)) :
  Inv (X.blk scope je N s.heap.objs.size s H fp ao) [] ZY H {s with heap:=h1,toks:=t}:=by
 have lt:∀b o,s.heap.get? b=some o->b≠s.heap.objs.size:=λb o q=>dw (bQ q);have Vf:∀b,b≠X.env.locals->b∉X.fs->b∉frs X.stack:=λb a c z=>(jd.mp (I.kO b z)).elim a c;have mem_of:∀x k,scope.names.lookup x=some k->(x,k)∈scope.names:=λx k q=>zV q;have old:∀x c,cl.lookup x=some c->c<s.heap.objs.size:=λx c q=>by
  obtain⟨v,o,q1,q2⟩:=I.cell x c (c1 x c q);exact bQ q1
 have Vg:∀x,scope.names.lookup x=some .free->(x,NameKind.cell)∉scope.names:=λx q z=>by
  have:=B.Ve _ z rfl;have this:scope.names.lookup x=some .cell:=this;rw[q] at this;cases this
 refine⟨⟨I.ok.mod,B.kind,I.ok.glob,I.ok.blt,bJ _,λx y c a b=>?_,λx hx=>?_,λx c z q=>?_,I.ok.hd,I.ok.frames,.inl rfl,λb hb=>?_,I.bs,jM I.ok.yc I.sz,λb o q hb=>?_,λb hb=>Vf b (f b hb).2.1 (f b hb).2.2.1,I.stack,I.kW⟩,
  rfl,I.bare,Un.kept kp,⟨_,hn,λi x v e1 e2 e3=>?_⟩,λx c q=>?_,I.hok.fresh (bJ _),λx c q=>?_,λp hp=>?_,I.hok.kept kp,hl⟩
 ·by_cases hc:s.heap.objs.size<c
  ·exact CN.d2 x y c hc a b
  ·rcases CN.d1 x c a with ⟨a1,_⟩|⟨_,a1,_⟩
   ·rcases CN.d1 y c b with ⟨b1,_⟩|⟨_,b1,_⟩
    ·exact I.ok.inj x y c (c1 x c a1) (c1 y c b1)
    ·exact absurd b1 hc
   ·exact absurd a1 hc
 ·have hx:(relabel scope X.env).names.lookup x=some .cell\/(relabel scope X.env).names.lookup x=some .free:=hx;have fr:scope.names.lookup x=some .cell\/scope.names.lookup x=some .free:=by
   rcases hx with hx|hx
   ·rcases NT hx with z|⟨_,z⟩
    ·exact .inl z
    ·exact .inr z
   ·rcases NT hx with z|⟨z,_⟩
    ·exact .inr z
    ·cases z
  rcases fr with fr|fr
  ·exact CN.d3 x fr
  ·obtain⟨c,hc⟩:=c2 (x,.free) (mem_of x _ fr) rfl;exact⟨c,CN.d4 x c (Vg x fr) hc⟩
 ·rcases CN.d1 x c q with ⟨_,q1⟩|⟨_,q1,_⟩
  ·have z:(scope.names.lookup x==some NameKind.cell)=true:=z;exact absurd (mem_of x _ (by simpa using z)) q1
  ·exact vW q1
 ·obtain⟨o,q⟩:=fo b hb;refine⟨lt b o q,λx c z=>?_⟩;rcases CN.d1 x c z with ⟨q1,_⟩|⟨_,q1,_⟩
  ·exact(f b hb).2.2.2.2.1 x c (c1 x c q1)
  ·exact λe=>absurd (bQ q) (by rw[<-e];exact Nat.not_lt.mpr (vW q1))
 ·obtain⟨_,_,_,z,_⟩:=f b hb;rcases z with z|z
  ·exact I.ok.yd b o q z
  ·exact absurd (gR (bQ q) (jM I.ok.yc z)) (oA _)
 ·obtain⟨fr,j,hj,hv⟩:=hZ i x v e1 e2;have hk:=B.free (x,.free) (mem_of x _ fr) rfl;obtain⟨m,hm,hlk⟩:=I.loc;obtain⟨u,r,l⟩:=hlk j x v hj hv (hk.elim (λz=>.inr (.inl z)) λz=>.inr (.inr z));obtain⟨c',jF⟩:=c2 (x,.free) (mem_of x _ fr) rfl;have jF:cl.lookup x=some c':=jF;refine⟨u,r,.inr ⟨Jo fr,c',CN.d4 x c' (Vg x fr) jF,?_⟩⟩;rcases l with ⟨k1,_⟩|⟨_,c,k2,oc,k3,k4⟩
  ·have k1:X.env.scope.names.lookup x=some .local:=k1;rcases hk with hk|hk
   ·have hk:X.env.scope.names.lookup x=some .cell:=hk;rw[k1] at hk;cases hk
   ·have hk:X.env.scope.names.lookup x=some .free:=hk;rw[k1] at hk;cases hk
  ·have e:=c1 x c' jF;rw[k2] at e;cases e;exact⟨oc,kp _ oc k3,k4⟩
 ·rcases CN.d1 x c q with ⟨q1,_⟩|⟨_,_,q1⟩
  ·obtain⟨v,o,q1,q2⟩:=I.cell x c (c1 x c q1);exact⟨v,o,kp c o q1,q2⟩
  ·exact⟨none,q1⟩
 ·rcases CN.d1 x c q with ⟨q1,_⟩|⟨_,q1,_⟩
  ·exact I.iz x c (c1 x c q1)
  ·exact I.hok.fresh (vW q1)
 ·have hp:p∈X.pn++ao:=by
   have z:p∈(X.pn++ao)++[]:=hp;simpa using z
  obtain⟨a1,a2,a3,a4,a5⟩:=I.pin p hp;exact⟨kp _ _ a1,a2,lt _ _ a1,Vf _ a3 a4,a5⟩
theorem zdg(I:Inv X ao Z H s)(f:∀b∈fp,g8 X ao H b)(cg:Inv (X.blk scope cl N s.heap.objs.size s H fp ao) [] Z' H' s'):Inv X ao Z H' s':=
 I.call' (ch:=fp) cg.os cg.base cg.hok cg.bare λb hb=>by
  obtain⟨_,a2,_,a4,a5,a6⟩:=f b hb;exact⟨a4.imp id λz=>BR z,a2,a5,a6⟩
theorem Vh{Z':St}{H':Hp}{s':Shared}{h2:Heap}{C:Addr}(cg:Inv X ao Z H' s')(hC:X.s₀.heap.objs.size<=C)(n1:H' C=none)(n2:C≠X.env.locals)(n3:∀x c,X.env.cells.lookup x=some c->c≠C)(n4:∀p∈X.pn++ao,p.1≠C)
  (sb:Heap.SameBut C s'.heap h2):Inv X ao Z H' {s' with heap:=h2}:=
 cg.turned (t':=s'.toks) (λb o z q=>(sb.2 b z).trans q) n1 n2 (.inr hC) n3 n4
end
noncomputable abbrev oR(ifs:List Expr)(env:Env):Sem Bool:=forIn ifs true λc r=>if r=true then do let ok <-isTrue c env (eval c env);pure (ForInStep.yield ok) else pure (ForInStep.yield r)
theorem zfS{prog:Program}{w:World}{A:Around}{R:Result->Shared->Prop}{s:Shared}{elt target iter:Expr}{ifs:List Expr}{scope:Scope}{pos:Pos}{it acc:Value}{env:Env}(V:Nat->Shared->Prop)
  (turn:∀n s,V n s->wpAny (model prog w) A (pyNext it) (λr s₁=>match r with
   |none=>R (.ok .next) s₁
   |some v=>wpAny (model prog w) A (letOwnedTupleGo target it v) (λ_ s₂=>wpAny (model prog w) A (assign target env v) (λ_ s₃=>
     wpAny (model prog w) A (oR ifs env) (λok s₄=>
      if ok=true then wpAny (model prog w) A (eval elt env) (λx s₅=>wpAny (model prog w) A (call (.builtin "list.append") [acc,x]) (λ_ s₆=>∃m,m<n/\V m s₆) (λ_ _=>False) s₅) (λ_ _=>False) s₄
      else ∃m,m<n/\V m s₄) (λ_ _=>False) s₃) (λ_ _=>False) s₂) (λ_ _=>False) s₁) (λ_ _=>False) s)
  (n:Nat) (h:V n s):codeAny (model prog w) A (.compLoop (.ListComp elt [⟨target,iter,ifs,0⟩] scope pos) 0 it acc env) R s:=by
 refine codeAny_loop rfl V (λn s hV=>?_) n h;show wpAny _ A ((compTurn (.ListComp elt [⟨target,iter,ifs,0⟩] scope pos) 0 it acc env).onRaise (λx=>do noteFrame x env;theTreesLotGoes x)) _ _ s;refine wpAny_noted ?_;rw[compTurn_list];refine aC (wpAny_standAt (aC (lK (turn n s hV) (λr s₁ h₁=>?_) λ_ _ z=>z.elim)));cases r with
 |none=>exact aU h₁
 |some v=>
  refine aC (lK h₁ (λ_ s₂ h₂=>?_) λ_ _ z=>z.elim);refine aC (lK h₂ (λ_ s₃ h₃=>aC (lK h₃ (λok s₄ h₄=>?_) λ_ _ z=>z.elim)) λ_ _ z=>z.elim);cases ok with
  |true=>
   simp only[if_true] at h₄ ⊢;exact aC (aC (lK h₄ (λx s₅ h₅=>aC (lK h₅ (λ_ s₆ h₆=>aU (aU ⟨rfl,h₆⟩)) λ_ _ z=>z.elim)) λ_ _ z=>z.elim))
  |false=>
   simp only[vQ,qD] at h₄ ⊢;exact aU ⟨rfl,h₄⟩
def Jp(X:Cx)(ifs:List Expr)(t:TT):Prop:=
 ∀(ao:List (Addr×Obj)) (s:Shared) (Z:St) (H:Hp) (Q:Bool->Hp->Prop),Inv X ao Z H s->t Z H Q->wpAny (model X.prog X.w) X.A (oR ifs X.env) (TP X ao Z Q) X.xe s
noncomputable def N8:TT:=λ_ H Q=>Q true H
theorem zjn:Jp X [] N8:=λ_ _ _ H _ I h=>wpAny_tests_nil ⟨H,I,h⟩
theorem zi5(h:PT X c t):Jp X [c] t:=λao s Z H Q I hq=>wpAny_tests_one (h ao s Z H Q I hq)
def Ek(ZY:St->St)(g:TG)(tt:TT)(te:TE)(cg:It)(Z:St)(H:Hp)(Q:VK):Prop:=∀D,H D=none->∃W:Nat->Nat->St->Hp->Prop,(∃m,W 0 m (ZY Z) (upd H D (.lst [])))/\∀i m Z' H',W i m Z' H'->
 (cg.stop i H'/\Q (.ref D) H')\/(cg.go i H'/\∃N:St->Hp->Prop,(∀Z2 H2,N Z2 H2->∃m',m'<m/\W (i+1) m' Z2 H2)/\∀x H2,cg.yr i H' x H2->g x Z' H2 λZ3 H3=>tt Z3 H3 λok H4=>
  if ok=true then te Z3 H4 λy H5=>∃ys,H5 D=some (.lst ys)/\ys.length<sizeLine/\N Z3 (upd H5 D (.lst (ys++[y]))) else N Z3 H4)
section
variable {X:Cx}{elt tg iter:Expr}{ifs:List Expr}{scope:Scope}{pos:Pos}{N:List Str}{ZY:St->St}{wi:TI}{g:TG}{tt:TT}{te:TE}
structure Parts(X:Cx)(elt tg:Expr)(ifs:List Expr)(scope:Scope)(N:List Str)(g:TG)(tt:TT)(te:TE):Prop where
 tgt:∀cl C s3 H3 fp ao,PG (X.blk scope cl N C s3 H3 fp ao) tg g
 tst:∀cl C s3 H3 fp ao,Jp (X.blk scope cl N C s3 H3 fp ao) ifs tt
 el:∀cl C s3 H3 fp ao,PE (X.blk scope cl N C s3 H3 fp ao) elt te
theorem Vi(hc:X.aj=true)(B:cX X.env.scope scope)(P:Parts X elt tg ifs scope N g tt te)(hl:∀Z,(ZY Z).length=N.length)
  (hZ:∀(Z:St) (i:Nat) (x:Str) (v:V),N[i]?=some x->(ZY Z)[i]?=some (some v)->scope.names.lookup x=some .free/\∃j:Nat,X.N[j]?=some x/\Z[j]?=some (some v))
  {ao:List (Addr×Obj)} {s:Shared} {Z:St} {H:Hp} {Q:VK} {it:Addr} {fp:List Addr} {tn:Nat->Heap->Prop} {cg:It} (I:Inv X ao Z H s) (T:Turn X.prog X.w X.K tg cg fp it tn) (st:tn 0 s.heap) (f:∀b∈fp,g8 X ao H b) (h:Ek ZY g tt te cg Z H Q)
  {cl:List (Str×Addr)} (c1:∀x c,cl.lookup x=some c->X.env.cells.lookup x=some c) (c2:∀x∈scope.names,x.2=.free->∃c,cl.lookup x.1=some c) {R:Value->Addr->Result->Shared->Prop} {E:Value->Shared->Prop}
  (k:∀D C s' H',Inv X ao Z H' s'->X.s₀.heap.objs.size<=C->H' C=none->C≠X.env.locals->(∀x c,X.env.cells.lookup x=some c->c≠C)->(∀p∈X.pn++ao,p.1≠C)->(∃m,s'.heap.Ns C m)->Q (.ref D) H'->R (.ref D) C (.ok .next) s') :
  wpAny (model X.prog X.w) X.A (newList []) (λacc s₃=>wpAny (model X.prog X.w) X.A (newFunctionEnv scope X.env.globals cl [] X.env.qual none .none (some X.env)) (λcenv s₄=>
   codeAny (model X.prog X.w) X.A (.compStart (.ListComp elt [⟨tg,iter,ifs,0⟩] scope pos) 0 (.ref it) acc {cenv with scope:=relabel scope X.env}) (R acc cenv.locals) s₄) E s₃) E s:=by
 refine qP ?_;have hD:H s.heap.objs.size=none:=I.hok.fresh (bJ _);have I3:Inv X ao Z (upd H s.heap.objs.size (.lst [])) {s with heap:=s.heap.push {cls:=.type "list",dict:=none,data:=.seq ([]:List Value).toArray}}:=
  I.laid (t':=s.toks) (λb u q=>cJ _ q) (bJ _) ⟨xQ _,[],0,.nil,fC _ rfl⟩
 have f3:∀b∈fp,g8 X ao (upd H s.heap.objs.size (.lst [])) b:=λb hb=>by
  obtain⟨a1,a2⟩:=f b hb;obtain⟨o,q,_⟩:=T.obj 0 _ st b hb;exact⟨by rw[dO (dw (bQ q))];exact a1,a2⟩
 have st3:tn 0 (s.heap.push {cls:=.type "list",dict:=none,data:=.seq ([]:List Value).toArray}):=T.keep _ _ _ st λb hb o q=>cJ _ q;obtain⟨W,⟨m0,w0⟩,turn⟩:=h s.heap.objs.size hD;generalize hs3:({s with heap:=s.heap.push {cls:=.type "list",dict:=none,data:=.seq ([]:List Value).toArray}}:Shared)=s3 at *;have yK:tn 0 s3.heap:=by rw[<-hs3];exact st3
 generalize hH3:upd H s.heap.objs.size (.lst [])=H3 at *;refine zfG (λx c q=>by obtain⟨v,o,q1,_⟩:=I3.cell x c (c1 x c q);exact bQ q1) (λx y c a b=>I3.ok.inj x y c (c1 x c a) (c1 y c b)) λh1 je hn kp CN=>?_;have N_:Inv (X.blk scope je N s3.heap.objs.size s3 H3 fp ao) [] (ZY Z) H3 {s3 with heap:=h1}:=
  zjf (t:=s3.toks) I3 B c1 c2 f3 (λb hb=>let ⟨o,q,_⟩:=T.obj 0 _ yK b hb;⟨o,q⟩) hn kp CN (hl Z) (hZ Z)
 have Vj:tn 0 h1:=T.keep _ _ _ yK λb hb o q=>kp b o q;have fY:∀{H':Hp},(∀b∈fp,H' b=none)->∀b∈fp,g8 (X.blk scope je N s3.heap.objs.size s3 H3 fp ao) [] H' b:=λ{H'} z b hb=>by
  obtain⟨a1,a2,a3,a4,a5,a6⟩:=f3 b hb;obtain⟨o,q,_⟩:=T.obj 0 _ yK b hb;refine⟨z b hb,dw (bQ q),λy=>(jd.mp (I3.kO b y)).elim a2 a3,.inl hb,λx c y=>?_,λp hp=>a6 p ?_⟩
  ·rcases CN.d1 x c y with ⟨q1,_⟩|⟨_,q1,_⟩
   ·exact a5 x c (c1 x c q1)
   ·exact λe=>absurd (bQ q) (by rw[<-e];exact Nat.not_lt.mpr (vW q1))
  have y:p∈(X.pn++ao)++[]:=hp;simpa using y
 have loop:codeAny (model X.prog X.w) X.A (.compLoop (.ListComp elt [⟨tg,iter,ifs,0⟩] scope pos) 0 (.ref it) (.ref s.heap.objs.size) (compEnvC scope je s3.heap.objs.size X.env)) (R (.ref s.heap.objs.size) s3.heap.objs.size) {s3 with heap:=h1}:=by
  refine zfS (λn s'=>∃i Z' H',Inv (X.blk scope je N s3.heap.objs.size s3 H3 fp ao) [] Z' H' s'/\tn i s'.heap/\(∀b∈fp,H' b=none)/\W i n Z' H') ?_ m0 ⟨0,ZY Z,H3,N_,Vj,λb hb=>(f3 b hb).1,w0⟩;rintro n s5 ⟨i,Z5,H5,uQ,Ar,Jd,w5⟩;rcases turn i n Z5 H5 w5 with ⟨stop,q⟩|⟨go,Nx,hN,step⟩
  ·refine aZ (T.done (X.blk scope je N s3.heap.objs.size s3 H3 fp ao) rfl rfl rfl hc i [] s5 Z5 H5 _ uQ (fY Jd) Ar stop) λr s6 ⟨hr,yL⟩=>?_;subst hr;have JX:=zdg I3 f3 yL;refine k s.heap.objs.size s3.heap.objs.size s6 H5 JX I3.sz yL.free (uw I3.lt) (λx c y z=>?_) (λp hp z=>?_) ?_ q
   ·obtain⟨v,qc⟩:=I3.cell x c y;exact absurd qc.lt (by rw[z];exact oA _)
   ·exact absurd (bQ (I3.pin p hp).1) (by rw[z];exact oA _)
   ·obtain⟨m,hm,_⟩:=yL.loc;exact⟨m,hm⟩
  ·refine aZ (T.item (X.blk scope je N s3.heap.objs.size s3 H3 fp ao) rfl rfl rfl hc i [] s5 Z5 H5 _ uQ (fY Jd) Ar go) λr s6 hx=>ux hx λu hr h6=>?_;subst hr;refine aZ h6 λ_ s7 ⟨x,H7,Oa,r7,y7,Ob,fr7⟩=>?_;have El:=Oa.pinned (fY fr7) (T.obj _ _ Ob);refine aZ (P.tgt je s3.heap.objs.size s3 H3 fp ao _ s7 Z5 H7 x u _ El r7 (step x H7 y7)) λ_ s8 ⟨Z8,H8,Oc,q8⟩=>?_;refine aZ (P.tst je s3.heap.objs.size s3 H3 fp ao _ s8 Z8 H8 _ Oc q8) λok s9 hx=>ux hx λH9 Em q9=>?_;have again:∀{H':Hp} {s':Shared},Inv (X.blk scope je N s3.heap.objs.size s3 H3 fp ao) ([]++jm fp s7.heap) Z8 H' s'->Nx Z8 H'->∃m,m<n/\∃i Z' H',Inv (X.blk scope je N s3.heap.objs.size s3 H3 fp ao) [] Z' H' s'/\tn i s'.heap/\(∀b∈fp,H' b=none)/\W i m Z' H':=λ{H' s'} nJ n'=>by
    obtain⟨m',hm,w'⟩:=hN Z8 H' n';refine⟨m',hm,i+1,Z8,H',nJ.gH,T.keep _ _ _ Ob λb hb o e=>(nJ.pin (b,o) (sZ _ (sZ _ (Jc hb e)))).1,λb hb=>?_,w'⟩;obtain⟨o,e,d⟩:=T.obj _ _ Ob b hb;exact(nJ.pin (b,o) (sZ _ (sZ _ (Jc hb e)))).2.1
   cases ok with
   |false=>
    rw[if_neg (by decide)] at q9 ⊢;exact again Em q9
   |true=>
    rw[if_pos rfl] at q9 ⊢;refine aZ (P.el je s3.heap.objs.size s3 H3 fp ao _ s9 Z8 H9 _ Em q9) λv s10 ⟨y,H10,En,r10,ys,Od,hz,q10⟩=>?_;refine aZ (U6 (X:=(X.blk scope je N s3.heap.objs.size s3 H3 fp ao)) _ s10 Z8 H10 (.ref s.heap.objs.size) [y] (.ref s.heap.objs.size) [v] (λ_ H'=>Nx Z8 H') En rfl (.cons r10 .nil) ⟨s.heap.objs.size,ys,y,rfl,rfl,Od,hz,q10⟩) λ_ s11 hx=>dY hx λ_ H11 Ep _ q11=>again Ep q11
 exact codeAny_compStart_list loop (T.self _ 0 _ _ _ Vj loop)
end
noncomputable def rA(wi:TI)(ZY:St->St)(g:TG)(tt:TT)(te:TE):TE:=λZ H Q=>wi Z H λcg H1=>Ek ZY g tt te cg Z H1 Q
section
variable {X:Cx}{elt tg iter:Expr}{ifs:List Expr}{scope:Scope}{pos spos py:Pos}{N:List Str}{ZY:St->St}{wi:TI}{g:TG}{tt:TT}{te:TE}{i:Nat}{y:Str}
theorem Vk(I:Inv X ao Z H s)(B:cX X.env.scope scope):∃cl,closureFor scope X.env=pure cl/\(∀x c,cl.lookup x=some c->X.env.cells.lookup x=some c)/\∀x∈scope.names,x.2=.free->∃c,cl.lookup x.1=some c:=
 zeA λx hx hf=>I.ok.has x.1 (B.free x hx hf)
theorem zjw(hc:X.aj=true)(B:cX X.env.scope scope)(hi:PI X tg iter wi)(P:Parts X elt tg ifs scope N g tt te)(hl:∀Z,(ZY Z).length=N.length)
  (hZ:∀(Z:St) (i:Nat) (x:Str) (v:V),N[i]?=some x->(ZY Z)[i]?=some (some v)->scope.names.lookup x=some .free/\∃j:Nat,X.N[j]?=some x/\Z[j]?=some (some v))
  (hs:∀x,foldedSetIterable iter X.env x=pure x:=by intro _;rfl):PE X (.ListComp elt [⟨tg,iter,ifs,0⟩] scope pos) (rA wi ZY g tt te):=by
 intro ao s Z H Q I h;obtain⟨cl,Aw,c1,c2⟩:=Vk I B;rw[eval_ListComp];refine wpAny_comprehension_free (use:=none) rfl hs Aw B.kind B.loc (aZ (hi ao s Z H _ I h) λxv s1 h1=>aZ h1 λitv s2 h2=>?_);obtain⟨it,fp,tn,cg,H2,e,I2,T,st2,f2,hq⟩:=h2;subst e;exact Vi hc B P hl hZ I2 T st2 f2 hq c1 c2 (R:=λacc C=>compPost (model X.prog X.w) X.A X.xe none (EP X ao Z Q) acc C) λD C s' H' nJ a b c d e ⟨m,hm⟩ q=>⟨m,hm,λh' sb=>⟨.ref D,H',Vh (Z':=Z) nJ a b c d e sb,rfl,q⟩⟩
theorem zeL(hc:X.aj=true)(hN:X.N.Nodup)(yM:X.N[i]?=some y)(hx:Loc X.env.scope y)(hf:X.fn y=true\/X.env.scope.names.lookup y=some .local)(B:cX X.env.scope scope)(hi:PI X tg iter wi)(P:Parts X elt tg ifs scope N g tt te)(hl:∀Z,(ZY Z).length=N.length)
  (hZ:∀(Z:St) (i:Nat) (x:Str) (v:V),N[i]?=some x->(ZY Z)[i]?=some (some v)->scope.names.lookup x=some .free/\∃j:Nat,X.N[j]?=some x/\Z[j]?=some (some v))
  (Er:swapsWith (.ListComp elt [⟨tg,iter,ifs,0⟩] scope pos) (some (.Name y py)) spos.line X.env=pure true) (hs:∀x,foldedSetIterable iter X.env x=pure x:=by intro _;rfl) :
  PS X (.Assign [.Name y py] (.ListComp elt [⟨tg,iter,ifs,0⟩] scope pos) spos) (yq (rA wi ZY g tt te) (dB i)):=by
 intro ao s Z H D I h;obtain⟨cl,Aw,c1,c2⟩:=Vk I B;rw[exec_Assign_Name_used _ _ _ _ Er];refine aC (wpAny_standAt (aC ?_));show wpAny _ X.A (do let _ <-comprehension (.ListComp elt [⟨tg,iter,ifs,0⟩] scope pos) scope X.env _ (newList []) false (eval iter X.env) (some (assign (.Name y py) X.env))) _ _ s;refine aC (wpAny_comprehension_free (use:=some (assign (.Name y py) X.env)) rfl hs Aw B.kind B.loc (aZ (hi ao s Z H _ I h) λxv s1 h1=>aZ h1 λitv s2 h2=>?_));obtain⟨it,fp,tn,cg,H2,e,I2,T,st2,f2,hq⟩:=h2;subst e;refine Vi hc B P hl hZ I2 T st2 f2 hq c1 c2 (R:=λacc C=>compPost (model X.prog X.w) X.A X.xe (some (assign (.Name y py) X.env)) _ acc C) λD' C s' H' nJ a b c d e ⟨m,hm⟩ q=>?_;show wpAny _ _ (assign (.Name y py) X.env (.ref D')) _ _ s';refine wpAny_assign_Name (T4 (v:=.ref D') nJ hN yM hx rfl (λs5 uQ ⟨ad,sb,had⟩=>?_) hf);have nC:C≠ad:=by
  rcases had with z|z
  ·rw[z];exact c
  ·exact(d y ad z).symm
 obtain⟨ol,es,ep,e1,r1⟩:=hm;refine⟨m,⟨ol,es,ep,(sb.2 C nC).trans e1,r1⟩,λh' sb'=>aU (aU ⟨_,H',Vh (Z':=Z) uQ a b c d e sb',q⟩)⟩
end
section
variable {X:Cx}{elt tg iter tg₂ iter₂:Expr}{ifs₂:List Expr}{scope:Scope}{pos spos py:Pos}{N:List Str}{ZY:St->St}{wi wi₂:TI}{g g₁:TG}{tt:TT}{te:TE}{i:Nat}{y:Str}
end
end L2
namespace L2
open PySem PySem.Spec PyProof.Rows PySem.W
noncomputable def bF{α:Type}(lt:Nat->Nat->Option Bool):KasT α->Option α
 |.ret a=>some a
 |.ask i j k=>match lt i j with
  |some b=>bF lt (k b)
  |none=>none
theorem Vl{α:Type}{lt:Nat->Nat->Option Bool}{cmp:Nat->Nat->(Bool->Shared->Prop)->Shared->Prop}{Q:α->Shared->Prop}{s:Shared}(hc:∀i j b C,lt i j=some b->C b s->cmp i j C s){a:α}(q:Q a s):∀{t:KasT α},bF lt t=some a->t.kasWp cmp Q s
 |.ret a',h=>by
  unfold bF at h;cases h;exact q
 |.ask i j k,h=>by
  unfold bF at h;cases e:lt i j with
  |none=>rw[e] at h;cases h
  |some b=>
   rw[e] at h;exact hc i j b _ e (Vl hc q h)
noncomputable def iR(vs:List Value)(p:Array Nat):Array Value:=if vs.length<2 then vs.toArray else List.toArray (p.toList.map λi=>vs.getD i Value.none)
section
variable {prog:Program}{w:World}{A:Around}{E:Value->Shared->Prop}{s:Shared}{κ:SortKind}{lt:Nat->Nat->Option Bool}{p:Array Nat}
theorem zcf{a:Addr}{vs:List Value}{n:Nat}{P:PySem.Fin->Shared->Prop}(ho:s.heap.get? a=some (seqObj "list" vs.toArray n))(rB:vs.length<64)
  (hk:2<=vs.length->∀(s':Shared) (Q:SortKind->Shared->Prop),(∀b o,b≠a->s.heap.get? b=some o->s'.heap.get? b=some o)->Q κ s'->wpAny (model prog w) A (keyKind' vs.toArray) Q E s')
  (dD:2<=vs.length->∀(s':Shared) i j b C,(∀b o,b≠a->s.heap.get? b=some o->s'.heap.get? b=some o)->lt i j=some b->C b s'->kas_ask prog w A κ vs i j C s') (hr:2<=vs.length->bF lt (kas_sort vs.length)=some p) (Oe:2<=vs.length->p.size=vs.length)
  (h:P (.done (.ret .none)) {s with heap:=sortedHeap s.heap a vs (iR vs p)}) :
  wpAny (model prog w) A (Builtin.«list.sort» ⟨[.ref a],[]⟩) P E s:=by
 rw[list_sort_plain];have ha:a<s.heap.objs.size:=bQ ho;refine aC (listItems_at ho rfl ?_);refine aC (listUpdate_at ho rfl ?_ (by rw[fH,tK];lia) (xQ _));obtain⟨e1,Jq⟩ : ∃e1,(s.heap.update a (Obj.mapSeq λ_=>#[])).get? a=some (seqObj "list" #[] e1):=⟨_,get?_update_seq ho (λ_=>#[])⟩;refine aC (seqEpoch_at Jq rfl ?_);refine aC (wpAny_newTuple ?_ (by show vs.length<=_;rw[tK];lia));refine aC (wpAny_newList ?_ (xQ _));refine qy ?_;have keep:∀b o,b≠a->s.heap.get? b=some o->(((s.heap.update a (Obj.mapSeq λ_=>(#[]:Array Value))).push (seqObj "tuple" vs.toArray 0)).push (seqObj "list" #[] 0)).get? b=some o:=λb o nb e=>
  cJ _ (cJ _ ((Heap.get?_update_ne _ _ _ _ nb).trans e))
 have Jr:(((s.heap.update a (Obj.mapSeq λ_=>(#[]:Array Value))).push (seqObj "tuple" vs.toArray 0)).push (seqObj "list" #[] 0)).get? a=some (seqObj "list" #[] e1):=by
  rw[Ie _ _ _ (by rw[size_push',Heap.size_update];exact dw (tD ha)),Ie _ _ _ (by rw[Heap.size_update];exact dw ha)];exact Jq
 show wpAny (model prog w) A _ P E {s with heap:=((s.heap.update a (Obj.mapSeq λ_=>#[])).push (seqObj "tuple" vs.toArray 0)).push (seqObj "list" #[] 0)};dsimp only;have hsz:vs.toArray.size=vs.length:=by simp
 by_cases h2:vs.toArray.size<2
 ·rw[if_pos h2,if_pos h2];refine aC (aU ?_);rw[StateT.run_pure];refine aC (aU ?_);dsimp only;refine aC (seqEpoch_at Jr rfl ?_);refine aC (listUpdate_at Jr rfl ?_ (xQ _) (by rw[Array.size_map];show (pairsOf vs).size<=_;rw[pairsOf_size,tK];lia));simp only[bne_self_eq_false,vQ,qD];have e:((vs.toArray.zip vs.toArray).map (·.2))=iR vs p:=by
   unfold iR;rw[if_pos (by rw[hsz] at h2;exact h2)];apply Array.toList_inj.mp;simp[List.map_snd_zip]
  refine aU ?_;have h':=h;rw[<-e] at h';exact h'
 ·rw[if_neg h2,if_neg h2];have mF:2<=vs.length:=by lia
  refine aC (hk mF _ _ keep ?_);refine aC (lK (kat_run (κ:=κ) (ks:=vs) (vs:=vs) (G:=λp' s'=>p'=p/\s'={s with heap:=((s.heap.update a (Obj.mapSeq λ_=>#[])).push (seqObj "tuple" vs.toArray 0)).push (seqObj "list" #[] 0)})
   (Q:=λst' s'=>arrOf st'=p.map (kas_item (vs.toArray.zip vs.toArray))/\failedOf st'=none/\s'={s with heap:=((s.heap.update a (Obj.mapSeq λ_=>#[])).push (seqObj "tuple" vs.toArray 0)).push (seqObj "list" #[] 0)})
   rfl mF rB (λp' st' s' a1 a2 a3 a4=>⟨by rw[a2,a4.1],a3,a4.2⟩) (Vl (λi j b C hl hC=>dD mF _ i j b C keep hl hC) ⟨rfl,rfl⟩ (hr mF))) ?_ λ_ _ e=>e)
  rintro⟨⟨⟩,st'⟩ s' ⟨Js,hf,rfl⟩;dsimp only;have hout:=kat_snds (ks:=vs) (vs:=vs) rfl Js;have e:List.toArray (p.toList.map λi=>vs.getD i Value.none)=iR vs p:=by
   unfold iR;rw[if_neg (by lia)]
  rw[hout,e];have hso:(iR vs p).size=vs.length:=by rw[<-e,fH,cU,vN,Oe mF]
  refine aC (seqEpoch_at Jr rfl ?_);refine aC (listUpdate_at Jr rfl ?_ (xQ _) (by rw[hso,tK];lia));rw[hf];simp only[bne_self_eq_false,vQ,qD];exact aU h
theorem Og(hl:s.heap.IsList l vs.toArray)(rB:vs.length<64)
  (hk:2<=vs.length->∀(s':Shared) (Q:SortKind->Shared->Prop) E,(∀b o,s.heap.get? b=some o->s'.heap.get? b=some o)->Q κ s'->wpAny (model prog w) A.in1.in1 (keyKind' vs.toArray) Q E s')
  (dD:2<=vs.length->∀(s':Shared) i j b C,(∀b o,s.heap.get? b=some o->s'.heap.get? b=some o)->lt i j=some b->C b s'->kas_ask prog w A.in1.in1 κ vs i j C s') (hr:2<=vs.length->bF lt (kas_sort vs.length)=some p) (Oe:2<=vs.length->p.size=vs.length)
  (h:Q (.ref (s.heap.objs.size+1)) {s with heap:=sortedAll s.heap vs (iR vs p)}) :
  wpAny (model prog w) A (call (.builtin "sorted") [.ref l]) Q E s:=by
 refine Calls.call_function_entry kind_sorted plain_sorted entry_sorted (args_sorted1 _) ?_;unfold Builtin.«sorted»;refine aC (m:=checkCount "sorted" 1 1 _) (aU ?_);refine aC (collect_list hl ?_ (by rw[tK];lia));refine aC (wpAny_newList ?_ (by rw[tK];lia));have hsz:((s.heap.push (seqObj "list" #[] 0)).update s.heap.objs.size (Obj.mapSeq (·++vs.toArray))).objs.size=s.heap.objs.size+1:=by
  rw[Heap.size_update,size_push']
 have IV:(((s.heap.push (seqObj "list" #[] 0)).update s.heap.objs.size (Obj.mapSeq (·++vs.toArray))).push (seqObj "list" vs.toArray 0)).get? (s.heap.objs.size+1)=some (seqObj "list" vs.toArray 0):=by
  rw[<-hsz];exact fC _ rfl
 have keep:∀b o,s.heap.get? b=some o->(((s.heap.push (seqObj "list" #[] 0)).update s.heap.objs.size (Obj.mapSeq (·++vs.toArray))).push (seqObj "list" vs.toArray 0)).get? b=some o:=λb o q=>by
  have dD:b<s.heap.objs.size:=bQ q;rw[Ie _ _ _ (by rw[hsz];exact dw (tD dD)),Heap.get?_update_ne _ _ _ _ (dw dD),Ie _ _ _ (dw dD)];exact q
 show wpAny _ _ _ _ _ {s with heap:=((s.heap.push (seqObj "list" #[] 0)).update s.heap.objs.size (Obj.mapSeq (·++vs.toArray))).push (seqObj "list" vs.toArray 0)};rw[hsz];have nn:∀b o,s.heap.get? b=some o->b≠s.heap.objs.size+1:=λb o e=>dw (tD (bQ e));refine aC (qy (vR slot_list_sort ⟨_,IV,rfl⟩ entry_list_sort (zcf (κ:=κ) (lt:=lt) (p:=p) IV rB (λh2 s' Q' k q=>hk h2 s' Q' _ (λb o e=>k b o (nn b o e) (keep b o e)) q) (λh2 s' i j b C k e q=>dD h2 s' i j b C (λb o e=>k b o (nn b o e) (keep b o e)) e q) hr Oe ⟨_,rfl,?_⟩) (args_list_sort _)));exact aU ⟨_,rfl,h⟩
end
noncomputable def jH:List V->List V->Option Bool
 |[],ys=>some (decide (0<ys.length))
 |_::_,[]=>some false
 |.int x::xs,.int y::ys=>if x=y then jH xs ys else some (decide (x<y))
 |_::_,_::_=>none
theorem zkg{prog:Program}{w:World}{A:Around}{s:Shared}{fin:Bool}{C:Bool->Shared->Prop}{b:Bool}:∀{us ws:List V} {its jts:List Value} {i:Nat},Vals us its->Vals ws jts->jH us ws=some b->fin=decide (us.length<ws.length)->C b s->KatLex prog w A true fin C (its.zip jts) i s:=by
 intro us ws its jts i r1
 induction r1 generalizing ws jts i with
 |nil=>
  intro _ h hf hc;rw[List.zip_nil_left];unfold jH at h;cases h;rw[hf];exact kat_nil hc
 |@cons x u us its rx ri ih=>
  intro r2 h hf hc;cases r2 with
  |nil=>
   rw[List.zip_nil_right];unfold jH at h;cases h;rw[hf];exact kat_nil (by simpa using hc)
  |@cons y v ws jts ry rj=>
   rw[Ca];cases x with
   |int a=>
    cases y with
    |int c=>
     obtain⟨t,rfl⟩:=rx;obtain⟨t',rfl⟩:=ry;unfold jH at h;refine kat_cons (wpAny_eqBool_int ?_);by_cases e:a=c
     ·rw[if_pos e] at h;subst e;rw[xH];exact kat_yes (ih rj h (by rw[hf];simp) hc)
     ·rw[if_neg e] at h;cases h;rw[show (a==c)=false by simpa using e];refine kat_no ?_;by_cases hi:i=0
      ·subst hi;exact oneLt_int hc
      ·rw[show (true&&i==0)=false by simpa using hi];exact kat_one _ _ (wpAny_lt_int hc)
    |_=>cases h
   |_=>cases y<;>cases h
def rC(K:W.Frag)(H:Hp)(ys:List V)(lt:Nat->Nat->Option Bool):Prop:=
 ((∀v∈ys,∃i,v=V.int i)/\∀i j b,lt i j=some b->∃x y,ys[i]?=some (.int x)/\ys[j]?=some (.int y)/\b=decide (x<y)) \/
 ((∀v∈ys,∃a i r,v=.ref a/\fP K H a (.int i::r))/\∀i j b,lt i j=some b->∃a c us ws,ys[i]?=some (.ref a)/\ys[j]?=some (.ref c)/\fP K H a us/\fP K H c ws/\jH us ws=some b)
noncomputable def jJ(ys:List V)(p:Array Nat):List V:=if ys.length<2 then ys else p.toList.map λi=>ys.getD i .non
theorem Vm(r:Vals ys its):∀l:List Nat,Vals (l.map λi=>ys.getD i .non) (l.map λi=>its.getD i Value.none)
 |[]=>.nil
 |i::l=>by
  refine .cons ?_ (Vm r l);cases e:ys[i]? with
  |some y=>
   obtain⟨u,e1,e2⟩:=r.get e;show RelV (ys.getD i .non) (its.getD i Value.none);rw[jC,jC,e,e1];exact e2
  |none=>
   have e1:its[i]?=none:=by rw[oh] at e ⊢;rw[<-r.length];exact e
   show RelV (ys.getD i .non) (its.getD i Value.none);rw[jC,jC,e,e1];rfl
theorem zgE{ys:List V}{its:List Value}(r:Vals ys its)(p:Array Nat):Vals (jJ ys p) (iR its p).toList:=by
 unfold jJ iR;rw[r.length];by_cases h:its.length<2
 ·rw[if_pos h,if_pos h];exact r
 ·rw[if_neg h,if_neg h];exact Vm r p.toList
theorem zg8{ys:List V}{its:List Value}(r:Vals ys its):∀u∈its,∃v∈ys,RelV v u:=by
 induction r with
 |nil=>intro u hu;cases hu
 |cons h t ih=>
  intro u hu;rcases jd.mp hu with rfl|hu
  ·exact⟨_,j8,h⟩
  ·obtain⟨v,a,b⟩:=ih u hu;exact⟨v,gQ _ a,b⟩
section
variable {X:Cx}
theorem zfN{prog:Program}{w:World}{A:Around}{E:Value->Shared->Prop}{s:Shared}{its:List Value}{Q:SortKind->Shared->Prop}(h2:2<=its.length)(hi:∀u∈its,∃i t,u=Value.int i t)(q:Q oneType' s):wpAny (model prog w) A (keyKind' its.toArray) Q E s:=
 kas_kind (T:=.type "int") h2 (λv hv=>by obtain⟨i,t,rfl⟩:=hi v hv;exact .of_pure rfl) (by decide) (by decide) q
theorem zij{K:W.Frag}{ao:List (Addr×Obj)}{s:Shared}{Z:St}{H:Hp}(I:Inv X ao Z H s){h':Heap}(k:∀b o,s.heap.get? b=some o->h'.get? b=some o):∀{ys:List V} {its:List Value},Vals ys its->(∀v∈ys,∃a i r,v=.ref a/\fP X.K H a (.int i::r))->∃fs:List Value,fs.length=its.length/\(∀f∈fs,∃i t,f=Value.int i t)/\KatTups h' its fs:=by
 intro ys its r0
 induction r0 with
 |nil=>exact λ_=>⟨[],rfl,(λf hf=>by cases hf),trivial⟩
 |@cons v u ys its r rs ih=>
  intro h;obtain⟨a,i,r',rfl,hq⟩:=h _ j8;obtain⟨fs,l,hf,kt⟩:=ih λv hv=>h v (gQ _ hv);obtain⟨its',rv,⟨o,ho,hc,n,hd⟩,_⟩:=I.tuple hq;cases (show u=Value.ref a from r);cases rv with
  |cons ri rr=>
   obtain⟨t,rfl⟩:=ri;refine⟨Value.int i t::fs,by simp[l],λf hf'=>?_,KatTups.cons (k _ _ ho) hc hd (by simp) kt⟩;rcases jd.mp hf' with rfl|z
   ·exact⟨i,t,rfl⟩
   ·exact hf f z
theorem zeY{prog:Program}{w:World}{A:Around}{E:Value->Shared->Prop}{s:Shared}{its fs:List Value}{Q:SortKind->Shared->Prop}(h2:2<=its.length)(hl:fs.length=its.length)(hi:∀u∈fs,∃i t,u=Value.int i t)(kt:KatTups s.heap its fs)(q:Q (tuples' true) s):wpAny (model prog w) A (keyKind' its.toArray) Q E s:=
 kat_kind (T:=.type "int") kt (by lia) (λv hv=>by obtain⟨i,t,rfl⟩:=hi v hv;exact .of_pure rfl) (by decide) q
theorem Jt{its:List Value}{i:Nat}{u:Value}(h:its[i]?=some u):its.getD i Value.none=u:=by rw[jC,h];rfl
theorem zdv:cG X (.builtin "sorted") (λxs H Q=>∃l ys lt p,xs=[.ref l]/\cL X.K H l ys/\ys.length<64/\(2<=ys.length->rC X.K H ys lt/\bF lt (kas_sort ys.length)=some p/\p.size=ys.length)/\∀r,H r=none->Q (.ref r) (upd H r (.lst (jJ ys p)))):=by
 intro ao s Z H xs us Q I r h;obtain⟨l,ys,lt,p,rfl,hq,rB,hs,q⟩:=h;obtain⟨u,rfl,rx⟩:=vals1 r;cases rx;obtain⟨its,rv,pl,hz⟩:=I.list hq;have hlen:=rv.length;have fin:EP X ao Z Q (.ref (s.heap.objs.size+1)) {s with heap:=sortedAll s.heap its (iR its p)}:=by
  obtain⟨e,he⟩:=sortedAll_at s.heap its (iR its p);have hn:H (s.heap.objs.size+1)=none:=I.hok.fresh (Nat.le_succ _);refine⟨.ref (s.heap.objs.size+1),_,I.laid (t':=s.toks) (λb u q=>sortedAll_old q) (Nat.le_succ _) (show bH X.prog X.w _ _ _ (.lst (jJ ys p)) from ⟨?_,(iR its p).toList,e,zgE rv p,by rw[Array.toArray_toList];exact he⟩),rfl,q _ hn⟩;unfold jJ;by_cases h2:ys.length<2
  ·rw[if_pos h2];exact hz
  ·rw[if_neg h2,cU,vN,(hs (by lia)).2.2];exact hz
 by_cases h2:2<=ys.length
 ·obtain⟨hS,hr,hp⟩:=hs h2;rcases hS with ⟨hI,dD⟩|⟨hT,dD⟩
  ·refine Og (κ:=oneType') (lt:=lt) (p:=p) pl.isList (by lia) (λmF s' Q' E' k q'=>zfN mF (λu hu=>?_) q') (λ_ s' i j b C k e hC=>?_) (λ_=>by rw[<-hlen];exact hr) (λ_=>by lia) fin
   ·obtain⟨v,hv,rr⟩:=zg8 rv u hu;obtain⟨i,rfl⟩:=hI v hv;obtain⟨t,rfl⟩:=rr;exact⟨i,t,rfl⟩
   ·obtain⟨x,y,e1,e2,rfl⟩:=dD i j b e;obtain⟨u1,f1,g1⟩:=rv.get e1;obtain⟨u2,f2,g2⟩:=rv.get e2;obtain⟨t1,rfl⟩:=g1;obtain⟨t2,rfl⟩:=g2;show wpAny _ _ (keyLt' oneType' (its.getD i Value.none) (its.getD j Value.none)) C _ s';rw[Jt f1,Jt f2];exact kat_lt_int hC
  ·refine Og (κ:=tuples' true) (lt:=lt) (p:=p) pl.isList (by lia) (λmF s' Q' E' k q'=>?_) (λ_ s' i j b C k e hC=>?_) (λ_=>by rw[<-hlen];exact hr) (λ_=>by lia) fin
   ·obtain⟨fs,l1,hf,kt⟩:=zij (K:=X.K) I k rv hT;exact zeY mF l1 hf kt q'
   ·obtain⟨a,c,us,ws,e1,e2,q1,q2,e3⟩:=dD i j b e;obtain⟨u1,f1,g1⟩:=rv.get e1;obtain⟨u2,f2,g2⟩:=rv.get e2;cases (show u1=Value.ref a from g1);cases (show u2=Value.ref c from g2);obtain⟨i1,r1,⟨o1,Jq,hc1,n1,hd1⟩,_⟩:=I.tuple q1;obtain⟨i2,r2,⟨o2,nF,oJ,n2,hd2⟩,_⟩:=I.tuple q2;show wpAny _ _ (keyLt' (tuples' true) (its.getD i Value.none) (its.getD j Value.none)) C _ s';rw[Jt f1,Jt f2];refine kat_lt (k _ _ Jq) hd1 (k _ _ nF) hd2 (zkg r1 r2 e3 ?_ hC);rw[r1.length,r2.length];simp
 ·exact Og (κ:=oneType') (lt:=lt) (p:=p) pl.isList (by lia) (λmF=>absurd mF (by lia)) (λmF=>absurd mF (by lia)) (λmF=>absurd mF (by lia)) (λmF=>absurd mF (by lia)) fin
end
end L2
namespace L2
open PySem PySem.Spec PyProof.Rows PySem.W PySem.Calls PySem.Builtin PySem.Builtin.ObjectAttr
section
variable {prog:Program}{w:World}{A:Around}{R:Result->Shared->Prop}{E:Value->Shared->Prop}{s:Shared}{K:W.Frag}{x C:Addr}{ox:Obj}{cd:ClassData}{name:Str}{v:Value}{mA:Str->Option Value}{ns:List Str}
end
end L2
namespace L2
open PySem PySem.Spec PyProof.Rows PySem.W PySem.Calls
section
variable {prog:Program}{w:World}{K:W.Frag}{C e:Addr}{cd:ClassData}{env:Env}{m:Str->Option Value}{A:Around}{E:Value->Shared->Prop}{sf:Str}
end
end L2
namespace PySem
open Sem (wp)
section
variable {prog:Program}{w:World}{A:Around}{E:Value->Shared->Prop}{h:Heap}{g:Array GenState}{d:Drawn}{t:Nat}{os:OsState}
variable {nm q:Str}{C N:Addr}{bs bm bmB:List Value}{Oh:Bool}{sn:List Str}{aq:List Value}{ab:Bool}{col:Option Bool}{dd:Option Addr}{k0 k1 k2 k3 k5:Option Value}{B Bn newId nid initId inN:String}{bmN:List Value}
end
section
variable {prog:Program}{w:World}{A:Around}{E:Value->Shared->Prop}{s:Shared}{env:Env}
variable {nm q:Str}{C N:Addr}{bs bm bmB:List Value}{Oh:Bool}{sn:List Str}{aq:List Value}{ab:Bool}{col:Option Bool}{dd:Option Addr}{k0 k1 k2 k3 k5:Option Value}{B Bn newId nid initId inN:String}{bmN:List Value}
end
end PySem
namespace L2
open PySem PySem.Spec PyProof.Rows PySem.W PySem.Calls
theorem Vn{α:Type}:∀{l:List (Str×α)} {f:Str} {u:α},(l.map (·.1)).Nodup->(f,u)∈l->l.lookup f=some u
 |(g,v)::r,f,u,hn,hm=>by
  rw[jk,vV] at hn;rw[m_];rcases jd.mp hm with e|hm
  ·cases e;simp
  ·have:f≠g:=λz=>hn.1 (by rw[<-z];exact qz.mpr ⟨(f,u),hm,rfl⟩);rw[show (f==g)=false by simpa using this];exact Vn hn.2 hm
theorem zh3{α:Type}{fs:List Str}{us:List α}{i:Nat}{f:Str}{u:α}(h1:fs[i]?=some f)(h2:us[i]?=some u):(f,u)∈fs.zip us:=by
 refine fB (i:=i) ?_;exact(List.getElem?_zip_eq_some (z:=(f,u))).mpr ⟨h1,h2⟩
section
variable {X:Cx}{EX:XS}{C:Addr}{ar:Arguments}{bd:List Stmt}{sc:Scope}{fs:List Str}{t:TA}{x:Str}{p apos pos:Pos}{e:Expr}{es:List Expr}
end
section
variable {prog:Program}{w:World}{A:Around}{E:Value->Shared->Prop}{s:Shared}{K:Frag}{x C:Addr}{ox:Obj}{od:Option Obj}{name:Str}
end
structure XF(K:Frag)(C:Addr)(f:Str):Prop where
 ga:findIn K (.ref C) "__getattribute__"=some (some (.builtin "BaseException.__getattribute__"))
 gn:findIn K (.ref C) "__getattr__"=some none
 mb:mroIn K C (.type "BaseException")=some true
 no:findIn K (.ref C) f=some none
 hd:hasDictIn K C=true
section
variable {X:Cx}{e:Expr}{f:Str}{pos:Pos}{ta:TE}
end
end L2
namespace L2
open PySem PySem.Spec PyProof.Rows
section
variable {X:Cx}{ao:List (Addr×Obj)}{Z:St}{H:Hp}{s:Shared}{h':Heap}
theorem Inv.jP{t':Nat}{ch:List Addr}{a:Addr}{o:HO}(I:Inv X ao Z H s)(k:∀b u,b∉ch->s.heap.get? b=some u->h'.get? b=some u)(hf:∀b∈ch,g8 X ao H b)(ha:s.heap.objs.size<=a)(new:bH X.prog X.w (upd H a o) h' a o) :
  Inv X ao Z (upd H a o) {s with heap:=h',toks:=t'}:=by
 have v8:∀b u,H b=some u->b∉ch:=λb u e z=>by rw[(hf b z).1] at e;cases e
 have hn:H a=none:=I.hok.fresh ha;have na:∀b u,H b=some u->b≠a:=λb u e z=>by rw[z,hn] at e;cases e
 have la:∀b u,s.heap.get? b=some u->b≠a:=λb u e=>dw (gR (bQ e) ha);refine I.step (g':=s.gens) (d':=s.drawn) (ch:=ch) (λb hb=>?_) (λb o _ _ hc e _=>k b o hc e) (λb o _ _ hc e _=>⟨o.slots,k b o hc e⟩) (λb o' _ e n=>by rw[dO (la b o' e)];exact n)
  (λb o hc e=>⟨o,k b o hc e⟩) (λb xs e=>by rw[dO (na b _ e)];exact e) (λb o u e=>by rw[dO (na b _ e)];exact e) (λb ps e=>⟨#[],by rw[dO (na b _ e),e];simp⟩) (λm hm=>?_) (λb u e=>?_) I.bare
 ·obtain⟨f0,f1,f2,f3,f4,f5⟩:=hf b hb;exact⟨f3.imp id λz=>BR z,f1,f4,f5⟩
 ·obtain⟨o,es,ep,ho,r⟩:=hm;exact⟨o,es,ep,k _ o (λz=>(hf _ z).2.1 rfl) ho,r⟩
 ·by_cases z:b=a
  ·subst z;rw[jy] at e;cases e;exact new
  ·rw[dO z] at e;refine(I.hok b u e).stay (λc v hc q=>k c v ?_ q) (λc q=>by rw[dO (na c _ q)];exact q) λc _ q=>by rw[dO (na c _ q)];exact q
   rcases hc with y|y
   ·rw[y];exact v8 b u e
   ·exact v8 c _ y
theorem Inv.oU{t':Nat}{ch:List Addr}(I:Inv X ao Z H s)(k:∀b u,b∉ch->s.heap.get? b=some u->h'.get? b=some u)(hf:∀b∈ch,g8 X ao H b):Inv X ao Z H {s with heap:=h',toks:=t'}:=by
 have v8:∀b u,H b=some u->b∉ch:=λb u e z=>by rw[(hf b z).1] at e;cases e
 refine I.step (g':=s.gens) (d':=s.drawn) (ch:=ch) (λb hb=>?_) (λb o _ _ hc e _=>k b o hc e) (λb o _ _ hc e _=>⟨o.slots,k b o hc e⟩) (λ_ _ _ _ n=>n)
  (λb o hc e=>⟨o,k b o hc e⟩) (λ_ _ e=>e) (λ_ _ _ e=>e) (λb ps e=>⟨#[],by rw[e];simp⟩) (λm hm=>?_) (λb u e=>?_) I.bare
 ·obtain⟨f0,f1,f2,f3,f4,f5⟩:=hf b hb;exact⟨f3.imp id λz=>BR z,f1,f4,f5⟩
 ·obtain⟨o,es,ep,ho,r⟩:=hm;exact⟨o,es,ep,k _ o (λz=>(hf _ z).2.1 rfl) ho,r⟩
 ·refine(I.hok b u e).stay (λc v hc q=>k c v ?_ q) (λ_ q=>q) λ_ _ q=>q;rcases hc with y|y
  ·rw[y];exact v8 b u e
  ·exact v8 c _ y
end
structure jQ(prog:Program)(w:World)(it src:Addr)(st:Nat->Heap->Prop)(its:Array Value):Prop where
 item:∀(A:Around) (E:Value->Shared->Prop) (s:Shared) (i:Nat) (x:Value) (Q:Value->Shared->Prop),st i s.heap->its[i]?=some x->(∀h',st (i+1) h'->Heap.SameBut it s.heap h'->Q x {s with heap:=h'})->wpAny (model prog w) A (Builtin.SmallTypes.nextOf (.ref it)) Q E s
 fin:∀(A:Around) (E:Value->Shared->Prop) (s:Shared) (i:Nat) (Q:Value->Shared->Prop),A.handled=none->st i s.heap->its[i]?=none->(∀h' e,Heap.ExtBut it s.heap h'->(∃o,h'.get? e=some o/\o.cls=.type "StopIteration")->E (.ref e) {s with heap:=h'})->wpAny (model prog w) A (Builtin.SmallTypes.nextOf (.ref it)) Q E s
 keep:∀i h h',st i h->(∀b o,b=it\/b=src->h.get? b=some o->h'.get? b=some o)->st i h'
theorem jQ.list(hne:l≠it):jQ prog w it l (λi h=>h.IsListIter it l i/\h.IsList l its) its where
 item:=λA E s i x Q ⟨h1,h2⟩ hx q=>wpAny_nextOf_list_item h1 h2 hx λh' a sb=>q h' ⟨a,h2.at λo e=>(sb.2 l hne).trans e⟩ sb
 fin:=λA E s i Q hh ⟨h1,h2⟩ hx q=>wpAny_nextOf_list_end hh h1 h2 hx q
 keep:=λi h h' ⟨h1,h2⟩ k=>⟨h1.at λo e=>k it o (.inl rfl) e,h2.at λo e=>k l o (.inr rfl) e⟩
theorem Vo(l:Addr):¬((Value.ref l==Value.none)=true):=λz=>by cases (show false=true from z)
theorem IsTupleIter.at'{h h':Heap}{it l:Addr}{i:Nat}(x:h.IsTupleIter it l i)(k:∀o,h.get? it=some o->h'.get? it=some o):h'.IsTupleIter it l i:=by
 obtain⟨o,e,r⟩:=x;exact⟨o,k o e,r⟩
theorem IsTuple.at'{h h':Heap}{l:Addr}{xs:Array Value}(x:h.IsTuple l xs)(k:∀o,h.get? l=some o->h'.get? l=some o):h'.IsTuple l xs:=by
 obtain⟨o,e,r⟩:=x;exact⟨o,k o e,r⟩
section
variable {prog:Program}{w:World}{A:Around}{E:Value->Shared->Prop}{s:Shared}{it l:Addr}{i:Nat}{its:Array Value}
theorem zeo{x:Value}{Q:Value->Shared->Prop}(hi:s.heap.IsTupleIter it l i)(hl:s.heap.IsTuple l its)(hx:its[i]?=some x)(q:∀h',h'.IsTupleIter it l (i+1)->Heap.SameBut it s.heap h'->Q x {s with heap:=h'}) :
  wpAny (model prog w) A (Builtin.SmallTypes.nextOf (.ref it)) Q E s:=by
 obtain⟨oi,ei,ci,di⟩:=id hi;obtain⟨ol,el,_,nl,dl⟩:=hl;unfold Builtin.SmallTypes.nextOf;refine aC (xr (name:=Str.ofString "__next__") hi.typeIs HN (vR HN hi.typeIs F.entry_tuple_iterator_next ?_ (F.args_tuple_iterator_next_1 _)));show wpAny _ A.in1 (field (.ref it) 0 >>= _) _ E s;refine aC (j_ ei di (x:=.ref l) rfl ?_);show wpAny _ A.in1 (if (Value.ref l==Value.none)=true then _ else _) _ E s;rw[if_neg (Vo l)];show wpAny _ A.in1 (field (.ref it) 1 >>= _) _ E s;refine aC (j_ ei di (x:=.int i 0) rfl ?_);show wpAny _ A.in1 (seqItems? (.ref l) >>= _) _ E s;refine aC (pK el dl ?_);simp only[ou,hx];refine aC (Cm ei di (by simp) (aU ⟨x,rfl,aU (q _ ⟨_,xG _ ei (HY (vP di _)),(Obj.cls_mapFields ..).trans ci,?_⟩ (Heap.SameBut.update ..))⟩));rw[vP di];simp[rawInt]
theorem zfn{Q:Value->Shared->Prop}(hh:A.handled=none)(hi:s.heap.IsTupleIter it l i)(hl:s.heap.IsTuple l its)(hx:its[i]?=none)(q:∀h' e,Heap.ExtBut it s.heap h'->(∃o,h'.get? e=some o/\o.cls=.type "StopIteration")->E (.ref e) {s with heap:=h'}) :
  wpAny (model prog w) A (Builtin.SmallTypes.nextOf (.ref it)) Q E s:=by
 obtain⟨oi,ei,ci,di⟩:=id hi;obtain⟨ol,el,_,nl,dl⟩:=hl;unfold Builtin.SmallTypes.nextOf;refine aC (xr (name:=Str.ofString "__next__") hi.typeIs HN (vR HN hi.typeIs F.entry_tuple_iterator_next ?_ (F.args_tuple_iterator_next_1 _)));show wpAny _ A.in1 (field (.ref it) 0 >>= _) _ E s;refine aC (j_ ei di (x:=.ref l) rfl ?_);show wpAny _ A.in1 (if (Value.ref l==Value.none)=true then _ else _) _ E s;rw[if_neg (Vo l)];show wpAny _ A.in1 (field (.ref it) 1 >>= _) _ E s;refine aC (j_ ei di (x:=.int i 0) rfl ?_);show wpAny _ A.in1 (seqItems? (.ref l) >>= _) _ E s;refine aC (pK el dl ?_);simp only[ou,hx];refine aC (wpAny_rule (aC (Cm ei di (by simp) ?_)));show wpAny _ A.in1 (newExc (.type "StopIteration") [] >>= _) _ E _;refine aC ?_;simp only[newExc,newTuple];refine aC (qP (aC (m:=firstArgMember _ _) (wpAny_of_eq (a:=Value.none) (by first|rfl|(simp only[firstArgMember];rfl)) (qP ?_ (by size_fits)))) (by size_fits));simp only[raiseNew];refine aC (wpAny_handled ?_);rw[show A.in1.handled=none from hh];exact aC (aU (wpAny_throw (q _ _ (((Heap.SameBut.update ..).extBut.push _).push _) ⟨_,fC _ rfl,rfl⟩)))
end
theorem jQ.tuple{prog:Program}{w:World}{it l:Addr}{its:Array Value}(hne:l≠it):jQ prog w it l (λi h=>h.IsTupleIter it l i/\h.IsTuple l its) its where
 item:=λA E s i x Q ⟨h1,h2⟩ hx q=>zeo h1 h2 hx λh' a sb=>q h' ⟨a,IsTuple.at' h2 λo e=>(sb.2 l hne).trans e⟩ sb
 fin:=λA E s i Q hh ⟨h1,h2⟩ hx q=>zfn hh h1 h2 hx q
 keep:=λi h h' ⟨h1,h2⟩ k=>⟨IsTupleIter.at' h1 λo e=>k it o (.inl rfl) e,IsTuple.at' h2 λo e=>k l o (.inr rfl) e⟩
structure lg(z TI TO i1 i2 l1 l2:Addr):Prop where
 zs:z≠TI/\z≠TO/\z≠i1/\z≠i2/\z≠l1/\z≠l2
 os:TO≠TI/\TO≠i1/\TO≠i2/\TO≠l1/\TO≠l2
 is:TI≠i1/\TI≠i2/\i1≠i2/\i1≠l1/\i1≠l2/\i2≠l1/\i2≠l2
section
variable {prog:Program}{w:World}{A:Around}{E:Value->Shared->Prop}{s:Shared}{z TI TO i1 i2 l1 l2:Addr}{st1 st2:Nat->Heap->Prop}{xs ys:Array Value}{k:Nat}{a b:Value}
theorem zgL(N1:jQ prog w i1 l1 st1 xs)(N2:jQ prog w i2 l2 st2 ys)(D:lg z TI TO i1 i2 l1 l2)(hz:IsZip s.heap z TI TO .none)(Oi:IsPair s.heap TI (.ref i1) (.ref i2))(Oj:IsPair s.heap TO a b)
  (h1:st1 k s.heap) (h2:st2 k s.heap) (hx:xs[k]?=some x) (hy:ys[k]?=some y)
  (q:∀h',IsZip h' z TI TO (rawInt s.heap.objs.size)->IsPair h' TO x y->st1 (k+1) h'->st2 (k+1) h'->IsPair h' s.heap.objs.size x y->h'.objs.size=s.heap.objs.size+1->(∀c o,c≠z->c≠TO->c≠i1->c≠i2->s.heap.get? c=some o->h'.get? c=some o)->Q (some (.ref s.heap.objs.size)) {s with heap:=h'}) :
  wpAny (model prog w) A (pyNext (.ref z)) Q E s:=by
 obtain⟨⟨z1,z2,z3,z4,z5,z6⟩,⟨t1,t2,t3,t4,t5⟩,⟨j1,j2,j3,j4,j5,j6,j7⟩⟩:=D;have hT:s.TypeIs (.ref z) "zip":=⟨_,hz,rfl⟩;unfold pyNext;refine aC (Cp (xr (name:=Str.ofString "__next__") hT Im (vR Im hT F.entry_zip_next ?_ (F.args_zip_next_1 _))));show wpAny _ A.in1 (field (.ref z) 2 >>= _) _ _ s;refine aC (j_ hz rfl (x:=.bool false) rfl ?_);show wpAny _ A.in1 (field (.ref z) 3 >>= _) _ _ s;refine aC (j_ hz rfl (x:=.ref TI) rfl (aC (pK Oi rfl ?_)));show wpAny _ A.in1 (Builtin.SmallTypes.ownedTupleIsFree (.ref z) >>= _) _ _ s;refine aC ?_;unfold Builtin.SmallTypes.ownedTupleIsFree;refine aC (j_ hz rfl (x:=.none) rfl (aU ?_));simp only[if_true];refine aC (wpAny_rule (aC (j_ hz rfl (x:=.ref TO) rfl (aC (zY hz (by simp) λha za sa=>aC ?_)))))
 replace za:IsZip ha z TI TO .ellipsis:=za
 simp only[List.zipIdx_cons,List.zipIdx_nil,Ae,Ip];refine aC (aC (wpAny_onRaise ?_));show wpAny _ A.in1 (Builtin.SmallTypes.nextOf (.ref i1) >>= _) _ _ _;refine aC (N1.item _ _ {s with heap:=ha} k x _ (N1.keep _ _ _ h1 λc o hc e=>sa.extBut c o (by rcases hc with rfl|rfl;exact z3.symm;exact z5.symm) e) hx λhb Vp sb=>aU ?_);have tb:IsPair hb TO a b:=sb.extBut _ _ t2 (sa.extBut _ _ z2.symm Oj);refine aC (pK tb rfl (aC (Lj tb λhc tc sc=>aC (xR (aU ?_)))))
 replace tc:IsPair hc TO x b:=tc
 refine aC (aC (wpAny_onRaise ?_));show wpAny _ A.in1 (Builtin.SmallTypes.nextOf (.ref i2) >>= _) _ _ _;have k2:st2 k hc:=N2.keep _ _ _ h2 λc o jF e=>by
  rcases jF with rfl|rfl
  ·exact sc.extBut _ _ t3.symm (sb.extBut _ _ j3.symm (sa.extBut _ _ z4.symm e))
  ·exact sc.extBut _ _ t5.symm (sb.extBut _ _ j5.symm (sa.extBut _ _ z6.symm e))
 have k1:st1 (k+1) hc:=N1.keep _ _ _ Vp λc o jF e=>by
  rcases jF with rfl|rfl
  ·exact sc.extBut _ _ t2.symm e
  ·exact sc.extBut _ _ t4.symm e
 refine aC (N2.item _ _ {s with heap:=hc} k y _ k2 hy λhd sd2 sd=>aU ?_);have td:IsPair hd TO x b:=sd.extBut _ _ t3 tc;refine aC (pK td rfl (aC (Lj td λhe te se=>aC (xR (aU (aU ?_))))))
 replace te:IsPair he TO x y:=te
 refine aC (pK te rfl (aC (wpAny_newTuple ?_)));have size:he.objs.size=s.heap.objs.size:=by rw[se.1,sd.1,sc.1,sb.1,sa.1]
 have ze:IsZip he z TI TO .ellipsis:=se.extBut _ _ z2 (sd.extBut _ _ z4 (sc.extBut _ _ z2 (sb.extBut _ _ z3 za)));have kept:∀c o,c≠z->c≠TO->c≠i1->c≠i2->s.heap.get? c=some o->he.get? c=some o:=λc o c1 c2 c3 c4 e=>se.extBut _ _ c2 (sd.extBut _ _ c4 (sc.extBut _ _ c2 (sb.extBut _ _ c3 (sa.extBut _ _ c1 e))));have e1:st1 (k+1) he:=N1.keep _ _ _ k1 λc o jF e=>by
  rcases jF with rfl|rfl
  ·exact se.extBut _ _ t2.symm (sd.extBut _ _ j3 e)
  ·exact se.extBut _ _ t4.symm (sd.extBut _ _ j6.symm e)
 have e2:st2 (k+1) he:=N2.keep _ _ _ sd2 λc o jF e=>by
  rcases jF with rfl|rfl
  ·exact se.extBut _ _ t3.symm e
  ·exact se.extBut _ _ t5.symm e
 show wpAny _ A.in1 (Builtin.SmallTypes.ownedTupleHandOut (.ref z) (.ref he.objs.size) >>= _) _ _ _;refine aC ?_;unfold Builtin.SmallTypes.ownedTupleHandOut;have zf:IsZip (he.push {cls:=.type "tuple",data:=.seq #[x,y]}) z TI TO .ellipsis:=cJ _ ze;refine aC (zY zf (by simp) λhg zg sg=>zY zg (by simp) λhh zh sh=>aU ⟨_,rfl,aU ?_⟩)
 replace zh:IsZip hh z TI TO (rawInt he.objs.size):=zh
 have up:∀c o,c≠z->he.get? c=some o->hh.get? c=some o:=λc o c1 e=>sh.extBut _ _ c1 (sg.extBut _ _ c1 (cJ _ e));have lz:z<he.objs.size:=bQ ze;have tn:IsPair hh he.objs.size x y:=sh.extBut _ _ (uw lz) (sg.extBut _ _ (uw lz) (fC _ rfl));have sz:hh.objs.size=he.objs.size+1:=by rw[sh.1,sg.1,tH]
 rw[size] at zh tn sz;show Q (some (.ref he.objs.size)) _;rw[size];exact q hh zh (up _ _ z2.symm te) (N1.keep _ _ _ e1 λc o jF e=>up c o (by rcases jF with rfl|rfl;exact z3.symm;exact z5.symm) e) (N2.keep _ _ _ e2 λc o jF e=>up c o (by rcases jF with rfl|rfl;exact z4.symm;exact z6.symm) e) tn sz λc o c1 c2 c3 c4 e=>up c o c1 (kept c o c1 c2 c3 c4 e)
theorem zjh(hn:A.handled=none)(N1:jQ prog w i1 l1 st1 xs)(N2:jQ prog w i2 l2 st2 ys)(D:lg z TI TO i1 i2 l1 l2)(hz:IsZip s.heap z TI TO .none)(Oi:IsPair s.heap TI (.ref i1) (.ref i2))(Oj:IsPair s.heap TO a b)
  (h1:st1 k s.heap) (h2:st2 k s.heap) (hx:xs[k]?=none\/ys[k]?=none) (q:∀h',(∀c o,c≠z->c≠TO->c≠i1->c≠i2->s.heap.get? c=some o->h'.get? c=some o)->Q none {s with heap:=h'}):wpAny (model prog w) A (pyNext (.ref z)) Q E s:=by
 obtain⟨⟨z1,z2,z3,z4,z5,z6⟩,⟨t1,t2,t3,t4,t5⟩,⟨j1,j2,j3,j4,j5,j6,j7⟩⟩:=D;have hT:s.TypeIs (.ref z) "zip":=⟨_,hz,rfl⟩;have stop:∀(h':Heap) (e:Addr),(∀c o,c≠z->c≠TO->c≠i1->c≠i2->s.heap.get? c=some o->h'.get? c=some o)->(∃o,h'.get? e=some o/\o.cls=.type "StopIteration")->
   wpAny (model prog w) A (do if <-isInstance (.ref e) (.type "StopIteration") then pure none else throw (.ref e):Sem (Option Value)) Q E {s with heap:=h'}:=λh' e kp ⟨o,ho,hc⟩=>
  aC (Il (T:="StopIteration") (b:=true) ⟨o,ho,hc⟩ isSubtype_stop (aU (q h' kp)))
 unfold pyNext;refine aC (Cp (xr (name:=Str.ofString "__next__") hT Im (vR Im hT F.entry_zip_next ?_ (F.args_zip_next_1 _))));show wpAny _ A.in1 (field (.ref z) 2 >>= _) _ _ s;refine aC (j_ hz rfl (x:=.bool false) rfl ?_);show wpAny _ A.in1 (field (.ref z) 3 >>= _) _ _ s;refine aC (j_ hz rfl (x:=.ref TI) rfl (aC (pK Oi rfl ?_)));show wpAny _ A.in1 (Builtin.SmallTypes.ownedTupleIsFree (.ref z) >>= _) _ _ s;refine aC ?_;unfold Builtin.SmallTypes.ownedTupleIsFree;refine aC (j_ hz rfl (x:=.none) rfl (aU ?_));simp only[if_true];refine aC (wpAny_rule (aC (j_ hz rfl (x:=.ref TO) rfl (aC (zY hz (by simp) λha za sa=>aC ?_)))))
 replace za:IsZip ha z TI TO .ellipsis:=za
 simp only[List.zipIdx_cons,List.zipIdx_nil,Ae,Ip];refine aC (aC (wpAny_onRaise ?_));show wpAny _ A.in1 (Builtin.SmallTypes.nextOf (.ref i1) >>= _) _ _ _;have ka:st1 k ha:=N1.keep _ _ _ h1 λc o hc e=>sa.extBut c o (by rcases hc with rfl|rfl;exact z3.symm;exact z5.symm) e;cases ex:xs[k]? with
 |none=>
  refine aC (N1.fin _ _ {s with heap:=ha} k _ hn ka ex λhb e sb se=>?_);obtain⟨oe,ho,hc⟩:=se;have zb:IsZip hb z TI TO .ellipsis:=sb _ _ z3 za;have ne:e≠z:=λy=>by subst y;rw[zb] at ho;cases ho;simp at hc
  exact zY zb (by simp) λhd _ sd=>stop hd e (λc o c1 _ c3 _ y=>sd.extBut _ _ c1 (sb _ _ c3 (sa.extBut _ _ c1 y))) ⟨oe,sd.extBut _ _ ne ho,hc⟩
 |some x=>
  have ey:ys[k]?=none:=by
   rcases hx with y|y
   ·rw[ex] at y;cases y
   ·exact y
  refine aC (N1.item _ _ {s with heap:=ha} k x _ ka ex λhb Vp sb=>aU ?_);have tb:IsPair hb TO a b:=sb.extBut _ _ t2 (sa.extBut _ _ z2.symm Oj);refine aC (pK tb rfl (aC (Lj tb λhc tc sc=>aC (xR (aU ?_)))));refine aC (aC (wpAny_onRaise ?_));show wpAny _ A.in1 (Builtin.SmallTypes.nextOf (.ref i2) >>= _) _ _ _;have k2:st2 k hc:=N2.keep _ _ _ h2 λc o jF e=>by
   rcases jF with rfl|rfl
   ·exact sc.extBut _ _ t3.symm (sb.extBut _ _ j3.symm (sa.extBut _ _ z4.symm e))
   ·exact sc.extBut _ _ t5.symm (sb.extBut _ _ j5.symm (sa.extBut _ _ z6.symm e))
  refine aC (N2.fin _ _ {s with heap:=hc} k _ hn k2 ey λhd e sd se=>?_);obtain⟨oe,ho,Aw⟩:=se;have zd:IsZip hd z TI TO .ellipsis:=sd _ _ z4 (sc.extBut _ _ z2 (sb.extBut _ _ z3 za));have ne:e≠z:=λy=>by subst y;rw[zd] at ho;cases ho;simp at Aw
  exact zY zd (by simp) λhf _ sf=>stop hf e (λc o c1 c2 c3 c4 y=>sf.extBut _ _ c1 (sd _ _ c4 (sc.extBut _ _ c2 (sb.extBut _ _ c3 (sa.extBut _ _ c1 y))))) ⟨oe,sf.extBut _ _ ne ho,Aw⟩
end
noncomputable def Ck:Bool->Heap->Addr->Array Value->Prop
 |true,h,l,xs=>h.IsList l xs
 |false,h,l,xs=>h.IsTuple l xs
noncomputable def Rk:Bool->Addr->Addr->Nat->Heap->Prop
 |true,it,l,i,h=>h.IsListIter it l i
 |false,it,l,i,h=>h.IsTupleIter it l i
noncomputable def Sk:Bool->W.Frag->Hp->Addr->List V->Prop
 |true,K,H,l,xs=>cL K H l xs
 |false,K,H,l,xs=>fP K H l xs
noncomputable def fD:Bool->Addr->Obj
 |true,l=>{cls:=.type "list_iterator",data:=.fields #[.ref l,.int 0 0]}
 |false,l=>{cls:=.type "tuple_iterator",data:=.fields #[.ref l,.int 0 0]}
theorem jQ.of(kd:Bool)(hne:l≠it):jQ prog w it l (λi h=>Rk kd it l i h/\Ck kd h l its) its:=by
 cases kd
 ·exact jQ.tuple hne
 ·exact jQ.list hne
theorem Ck.keep(x:Ck kd h l xs)(k:∀o,h.get? l=some o->h'.get? l=some o):Ck kd h' l xs:=by
 cases kd
 ·exact IsTuple.at' x k
 ·exact Heap.IsList.at x k
theorem Rk.keep(x:Rk kd it l i h)(k:∀o,h.get? it=some o->h'.get? it=some o):Rk kd it l i h':=by
 cases kd
 ·exact IsTupleIter.at' x k
 ·exact Heap.IsListIter.at x k
theorem Rk.obj(x:Rk kd it l i h):∃o,h.get? it=some o/\∀v,o.data≠.cell v:=by
 cases kd
 ·obtain⟨o,e,c,d⟩:=x;exact⟨o,e,λv z=>by rw[d] at z;cases z⟩
 ·obtain⟨o,e,c,d⟩:=x;exact⟨o,e,λv z=>by rw[d] at z;cases z⟩
theorem Ck.lt(x:Ck kd h l xs):l<h.objs.size:=by
 cases kd
 ·obtain⟨o,e,_⟩:=x;exact bQ e
 ·obtain⟨o,e,_⟩:=x;exact bQ e
section
variable {prog:Program}{w:World}{A:Around}{E:Value->Shared->Prop}{s:Shared}
theorem Ju(c:Ck kd s.heap l xs)(q:Q (.ref s.heap.objs.size) {s with heap:=s.heap.push (fD kd l)}):wpAny (model prog w) A (pyIter (.ref l)) Q E s:=by
 cases kd
 ·exact wpAny_pyIter_tuple c q
 ·exact Ig c q
end
noncomputable def zH(h:Heap)(k1 k2:Bool)(l1 l2:Addr):Heap:=((((h.push (fD k1 l1)).push (fD k2 l2)).push {cls:=.type "tuple",data:=.seq #[.ref h.objs.size,.ref (h.push (fD k1 l1)).objs.size]}).push {cls:=.type "tuple",data:=.seq #[.none,.none]}).push
 {cls:=.type "zip",data:=.fields #[.none,.bool false,.bool false,.ref ((h.push (fD k1 l1)).push (fD k2 l2)).objs.size,.ref (((h.push (fD k1 l1)).push (fD k2 l2)).push {cls:=.type "tuple",data:=.seq #[.ref h.objs.size,.ref (h.push (fD k1 l1)).objs.size]}).objs.size]}
theorem zgF(k1 k2:Bool)(l1 l2:Addr)(xs ys:Array Value):Meets (Builtin.«zip.__new__» ⟨[.type "zip",.ref l1,.ref l2],[]⟩) (λ_ R s=>Ck k1 s.heap l1 xs/\Ck k2 s.heap l2 ys /\
   R (.ok (.ret (.ref ((((s.heap.push (fD k1 l1)).push (fD k2 l2)).push {cls:=.type "tuple",data:=.seq #[.ref s.heap.objs.size,.ref (s.heap.push (fD k1 l1)).objs.size]}).push {cls:=.type "tuple",data:=.seq #[.none,.none]}).objs.size))) {s with heap:=zH s.heap k1 k2 l1 l2}):=
 .of_wp λprog w A R s h=>by
  obtain⟨hp,g,d,tk,os⟩:=s;obtain⟨c1,c2,h⟩:=h;have hsub:=sub_zip;have C1:Ck k1 (Shared.heap ⟨hp,g,d,tk,os⟩) l1 xs:=c1;have C2:Ck k2 (Shared.heap ⟨hp.push (fD k1 l1),g,d,tk,os⟩) l2 ys:=c2.keep λo e=>cJ _ e
  wp_walk using Ju C1,Ju C2
  exact⟨_,rfl,h⟩
section
variable {prog:Program}{w:World}{A:Around}{E:Value->Shared->Prop}{s:Shared}
theorem zii(c1:Ck k1 s.heap l1 xs)(c2:Ck k2 s.heap l2 ys)
  (h:∀h',IsZip h' (s.heap.objs.size+4) (s.heap.objs.size+2) (s.heap.objs.size+3) .none->IsPair h' (s.heap.objs.size+2) (.ref s.heap.objs.size) (.ref (s.heap.objs.size+1))->IsPair h' (s.heap.objs.size+3) .none .none->
   Rk k1 s.heap.objs.size l1 0 h'->Rk k2 (s.heap.objs.size+1) l2 0 h'->(∀c o,s.heap.get? c=some o->h'.get? c=some o)->Q (.ref (s.heap.objs.size+4)) {s with heap:=h'}) :
  wpAny (model prog w) A (call (.type "zip") [.ref l1,.ref l2]) Q E s:=by
 refine callType_new F.called_zip (by decide) (F.typeCall_zip_2 _ _) (F.newCall_zip_2 _ _) (λobj=>F.args_object_init_3 obj _ _) F.entry_zip_new (zgF k1 k2 l1 l2 xs ys) ⟨c1,c2,?_⟩;have n1:(s.heap.push (fD k1 l1)).objs.size=s.heap.objs.size+1:=tH ..;have n2:((s.heap.push (fD k1 l1)).push (fD k2 l2)).objs.size=s.heap.objs.size+2:=by rw[tH,n1]
 have fr:∀kd l,(fD kd l).isFreed=false:=λkd l=>by cases kd<;>rfl
 have rk:∀{h:Heap} {a:Addr} {kd:Bool} {l:Addr},h.get? a=some (fD kd l)->Rk kd a l 0 h:=λ{h a kd l} e=>by
  cases kd
  ·exact⟨_,e,rfl,rfl⟩
  ·exact⟨_,e,rfl,rfl⟩
 have o1:(s.heap.push (fD k1 l1)).get? s.heap.objs.size=some (fD k1 l1):=fC _ (fr _ _);have o2:((s.heap.push (fD k1 l1)).push (fD k2 l2)).get? (s.heap.objs.size+1)=some (fD k2 l2):=by
  have:=fC (s.heap.push (fD k1 l1)) (o:=fD k2 l2) (fr _ _);rw[n1] at this;exact this
 generalize hA:(s.heap.push (fD k1 l1)).push (fD k2 l2)=Jv at *;have eH:zH s.heap k1 k2 l1 l2=((Jv.push {cls:=.type "tuple",data:=.seq #[.ref s.heap.objs.size,.ref (s.heap.objs.size+1)]}).push {cls:=.type "tuple",data:=.seq #[.none,.none]}).push {cls:=.type "zip",data:=.fields #[.none,.bool false,.bool false,.ref (s.heap.objs.size+2),.ref (s.heap.objs.size+3)]}:=by
  unfold zH;rw[hA,n1,n2,tH,n2]
 have n3:(Jv.push {cls:=.type "tuple",data:=.seq #[.ref s.heap.objs.size,.ref (s.heap.objs.size+1)]}).objs.size=s.heap.objs.size+3:=by rw[tH,n2]
 have n4:((Jv.push {cls:=.type "tuple",data:=.seq #[.ref s.heap.objs.size,.ref (s.heap.objs.size+1)]}).push {cls:=.type "tuple",data:=.seq #[.none,.none]}).objs.size=s.heap.objs.size+4:=by rw[tH,n3]
 rw[n1,n4];have g5:(zH s.heap k1 k2 l1 l2).get? (s.heap.objs.size+4)=some {cls:=.type "zip",data:=.fields #[.none,.bool false,.bool false,.ref (s.heap.objs.size+2),.ref (s.heap.objs.size+3)]}:=by
  rw[eH,<-n4];exact fC _ rfl
 have g4:(zH s.heap k1 k2 l1 l2).get? (s.heap.objs.size+3)=some {cls:=.type "tuple",data:=.seq #[.none,.none]}:=by
  rw[eH,<-n3];exact cJ _ (fC _ rfl)
 have g3:(zH s.heap k1 k2 l1 l2).get? (s.heap.objs.size+2)=some {cls:=.type "tuple",data:=.seq #[.ref s.heap.objs.size,.ref (s.heap.objs.size+1)]}:=by
  rw[eH,<-n2];exact cJ _ (cJ _ (fC _ rfl))
 have up:∀c o,Jv.get? c=some o->(zH s.heap k1 k2 l1 l2).get? c=some o:=λc o e=>by rw[eH];exact cJ _ (cJ _ (cJ _ e))
 refine⟨⟨_,g5,rfl⟩,h _ g5 g3 g4 (rk (up _ _ ?_)) (rk (up _ _ o2)) λc o e=>up _ _ ?_⟩
 ·rw[<-hA];exact cJ _ o1
 ·rw[<-hA];exact cJ _ (cJ _ e)
end
noncomputable def Ol(K:W.Frag)(k1 k2:Bool)(l1 l2:Addr):It:=
 ⟨λi H=>∃xs ys x y,Sk k1 K H l1 xs/\Sk k2 K H l2 ys/\xs[i]?=some x/\ys[i]?=some y,
  λi H v H'=>∃a x y,H a=none/\v=.ref a/\H'=upd H a (.tup [x,y])/\(∀xs,Sk k1 K H l1 xs->xs[i]?=some x)/\∀ys,Sk k2 K H l2 ys->ys[i]?=some y,
  λi H=>∃xs ys,Sk k1 K H l1 xs/\Sk k2 K H l2 ys/\(xs.length<=i\/ys.length<=i)⟩
section
variable {X:Cx}{ao:List (Addr×Obj)}{Z:St}{H:Hp}{s:Shared}{kd:Bool}{l:Addr}{xs ys:List V}
theorem Inv.row(I:Inv X ao Z H s)(h:Sk kd X.K H l xs):∃its:List Value,Vals xs its/\Ck kd s.heap l its.toArray:=by
 cases kd
 ·obtain⟨its,rv,p,hz⟩:=I.tuple h;exact⟨its,rv,p⟩
 ·obtain⟨its,rv,p,hz⟩:=I.list h;exact⟨its,rv,p.isList⟩
theorem Inv.lq(I:Inv X ao Z H s)(h:Sk kd X.K H l xs)(h':Sk kd X.K H l ys):xs=ys:=by
 cases kd
 ·exact I.jO h h'
 ·exact I.lY h h'
end
theorem zhh{P:Program}{w:World}{K:W.Frag}{elts:List Expr}{kk:Nat}{pos:Pos}{k1 k2:Bool}{l1 l2 z TI TO i1 i2:Addr}(D:lg z TI TO i1 i2 l1 l2) :
  Turn P w K (.Tuple elts kk pos) (Ol K k1 k2 l1 l2) [z,TI,TO,i1,i2] z (λi h=>IsZip h z TI TO .none/\IsPair h TI (.ref i1) (.ref i2)/\(∃a b,IsPair h TO a b)/\Rk k1 i1 l1 i h/\Rk k2 i2 l2 i h) where
 mem:=by simp
 obj:=λi h ⟨a1,a2,⟨p,q,a3⟩,a4,a5⟩ b hb=>by
  have:b=z\/b=TI\/b=TO\/b=i1\/b=i2:=by simpa using hb
  rcases this with rfl|rfl|rfl|rfl|rfl
  ·exact⟨_,a1,λv y=>by cases y⟩
  ·exact⟨_,a2,λv y=>by cases y⟩
  ·exact⟨_,a3,λv y=>by cases y⟩
  ·exact a4.obj
  ·exact a5.obj
 keep:=λi h h' ⟨a1,a2,⟨p,q,a3⟩,a4,a5⟩ k=>⟨k z (by simp) _ a1,k TI (by simp) _ a2,⟨p,q,k TO (by simp) _ a3⟩,a4.keep λo e=>k i1 (by simp) o e,a5.keep λo e=>k i2 (by simp) o e⟩
 item:=by
  intro X hP hw hK hc i ao s Z H E I hf ⟨a1,a2,⟨p,q,a3⟩,a4,a5⟩ hg;subst hP hw hK;obtain⟨xs,ys,x,y,wu,wz,hx,hy⟩:=hg;obtain⟨Vq,Jw,c1⟩:=I.row wu;obtain⟨Et,Jx,c2⟩:=I.row wz;obtain⟨u,hu,ru⟩:=Jw.get hx;obtain⟨v,hv,rv⟩:=Jx.get hy;have D':=D;obtain⟨⟨z1,z2,z3,z4,z5,z6⟩,⟨t1,t2,t3,t4,t5⟩,⟨j1,j2,j3,j4,j5,j6,j7⟩⟩:=D';refine zgL (jQ.of k1 j4.symm) (jQ.of k2 j7.symm) D a1 a2 a3 ⟨a4,c1⟩ ⟨a5,c2⟩ (x:=u) (y:=v) (by simpa using hu) (by simpa using hv) λh1 b1 b2 b3 b4 b5 b6 kp=>?_;refine⟨_,rfl,wpAny_letOwnedTupleGo_zip (s:={s with heap:=h1}) b1 λh2 e2 sb=>?_⟩;have Om:IsPair h2 s.heap.objs.size u v:=(sb.2 _ (uw (bQ a1))).trans b5;have kk:∀b o,b∉[z,TI,TO,i1,i2]->s.heap.get? b=some o->h2.get? b=some o:=λb o hb e=>(sb.2 b λy=>hb (by simp[y])).trans (kp b o (λy=>hb (by simp[y])) (λy=>hb (by simp[y])) (λy=>hb (by simp[y])) (λy=>hb (by simp[y])) e);have I2:=I.jP (t':=s.toks) (a:=s.heap.objs.size) (o:=.tup [x,y]) kk (λb hb=>hf b hb) (bJ _) (show bH X.prog X.w _ h2 _ (.tup [x,y]) from ⟨by show 2<=sizeLine;decide,[u,v],.cons ru (.cons rv .nil),⟨_,Om,rfl,_,rfl⟩⟩);have hn:H s.heap.objs.size=none:=I.hok.fresh (bJ _);refine⟨.ref s.heap.objs.size,_,I2,rfl,⟨_,x,y,hn,rfl,rfl,λzs hz=>by rw[I.lq hz wu];exact hx,λzs hz=>by rw[I.lq hz wz];exact hy⟩,⟨e2,(sb.2 _ z1.symm).trans (kp _ _ z1.symm t1.symm j1 j2 a2),⟨_,_,(sb.2 _ z2.symm).trans b2⟩,b3.1.keep λo e=>(sb.2 _ z3.symm).trans e,b4.1.keep λo e=>(sb.2 _ z4.symm).trans e⟩,λb hb=>?_⟩;have nb:b≠s.heap.objs.size:=by
   have:b=z\/b=TI\/b=TO\/b=i1\/b=i2:=by simpa using hb
   rcases this with rfl|rfl|rfl|rfl|rfl
   ·exact dw (bQ a1)
   ·exact dw (bQ a2)
   ·exact dw (bQ a3)
   ·obtain⟨o,e,_⟩:=a4.obj;exact dw (bQ e)
   ·obtain⟨o,e,_⟩:=a5.obj;exact dw (bQ e)
  rw[dO nb];exact(hf b hb).1
 done:=by
  intro X hP hw hK hc i ao s Z H E I hf ⟨a1,a2,⟨p,q,a3⟩,a4,a5⟩ hg;subst hP hw hK;obtain⟨xs,ys,wu,wz,hx⟩:=hg;obtain⟨Vq,Jw,c1⟩:=I.row wu;obtain⟨Et,Jx,c2⟩:=I.row wz;have n1:=Jw.length;have n2:=Jx.length;refine zjh (I.ok.hd hc) (jQ.of k1 D.is.2.2.2.1.symm) (jQ.of k2 D.is.2.2.2.2.2.2.symm) D a1 a2 a3 ⟨a4,c1⟩ ⟨a5,c2⟩ ?_ λh' kp=>⟨rfl,I.oU (t':=s.toks) (ch:=[z,TI,TO,i1,i2]) (λb o hb e=>kp b o (λy=>hb (by simp[y])) (λy=>hb (by simp[y])) (λy=>hb (by simp[y])) (λy=>hb (by simp[y])) e) λb hb=>hf b hb⟩;rcases hx with y|y
  ·exact .inl (by simp;lia)
  ·exact .inr (by simp;lia)
 self:=λ_ _ _ _ _ ⟨a1,_⟩ h=>wpAny_pyIter_zip a1 h
section
variable {X:Cx}
noncomputable def Oo(K:W.Frag)(ta:TA):TI:=λZ H R=>ta Z H λvs H1=>∃k1 k2 l1 l2 xs ys,vs=[.ref l1,.ref l2]/\Sk k1 K H1 l1 xs/\Sk k2 K H1 l2 ys/\R (Ol K k1 k2 l1 l2) H1
theorem zgK:bootBuiltins "zip"=some (.type "zip"):=by decide +kernel
theorem zlb{a b:Expr}{ta:TA}{p pos tpos:Pos}{elts:List Expr}{kk:Nat}(hg:Gl X "zip")(hm:X.mg "zip"=none)(ha:PA X [a,b] ta)(hs:starEach [a,b] X.env=[(false,eval a X.env),(false,eval b X.env)]:=by rfl)(wg:starEach [b] X.env=[(false,eval b X.env)]:=by rfl) :
  PI X (.Tuple elts kk tpos) (.Call (.Name "zip" p) [a,b] [] pos) (Oo X.K ta):=by
 intro ao s Z H R I h;refine Call_ (uz I hg hm zgK (xq (aZ (ha pos ao s Z H _ I h) λus s1 ⟨vs,H1,I1,r1,q1⟩=>?_) (by rw[hs,wg]) (by rw[wg];rfl)));obtain⟨k1,k2,l1,l2,xs,ys,e,wu,wz,q⟩:=q1;subst e;cases r1 with
 |cons r rr=>
  cases rr with
  |cons r' rr=>
   cases rr;cases r;cases r';obtain⟨Vq,Jw,c1⟩:=I1.row wu;obtain⟨Et,Jx,c2⟩:=I1.row wz;have m1:=c1.lt;have m2:=c2.lt;refine zii c1 c2 λh' b1 b2 b3 b4 b5 kp=>?_;refine wpAny_pyIter_zip b1 ?_;have ne:∀{u v:Nat},u<v->u≠v:=λh=>dw h;have D:lg (s1.heap.objs.size+4) (s1.heap.objs.size+2) (s1.heap.objs.size+3) s1.heap.objs.size (s1.heap.objs.size+1) l1 l2:=
    ⟨⟨(ne (by lia)).symm,(ne (by lia)).symm,(ne (by lia)).symm,(ne (by lia)).symm,(ne (gR m1 (by lia))).symm,(ne (gR m2 (by lia))).symm⟩,
     ⟨(ne (by lia)).symm,(ne (by lia)).symm,(ne (by lia)).symm,(ne (gR m1 (by lia))).symm,(ne (gR m2 (by lia))).symm⟩,
     ⟨(ne (by lia)).symm,(ne (by lia)).symm,ne (by lia),(ne m1).symm,(ne m2).symm,(ne (gR m1 (by lia))).symm,(ne (gR m2 (by lia))).symm⟩⟩
   refine⟨s1.heap.objs.size+4,[s1.heap.objs.size+4,s1.heap.objs.size+2,s1.heap.objs.size+3,s1.heap.objs.size,s1.heap.objs.size+1],_,_,H1,rfl,I1.kept (t':=s1.toks) kp,zhh D,⟨b1,b2,⟨_,_,b3⟩,b4,b5⟩,λb hb=>?_,q⟩;have:s1.heap.objs.size<=b:=by
    have:b=s1.heap.objs.size+4\/b=s1.heap.objs.size+2\/b=s1.heap.objs.size+3\/b=s1.heap.objs.size\/b=s1.heap.objs.size+1:=by simpa using hb
    rcases this with rfl|rfl|rfl|rfl|rfl<;>lia
   exact I1.q_ this (I1.hok.fresh this)
end
noncomputable def Ite(K:W.Frag)(kd:Bool)(l:Addr):It:=
 ⟨λi H=>∃xs x,Sk kd K H l xs/\xs[i]?=some x,λi H v H'=>∃a x,H a=none/\v=.ref a/\H'=upd H a (.tup [.int i,x])/\∀xs,Sk kd K H l xs->xs[i]?=some x,λi H=>∃xs,Sk kd K H l xs/\xs.length<=i⟩
theorem yN{prog:Program}{w:World}{A:Around}(hh:A.handled=none)(kd:Bool){it l:Addr}(hne:l≠it)(its:Array Value):Draws prog w A it [it,l] its.size (λi v=>its[i]?=some v) (λi h=>Rk kd it l i h/\Ck kd h l its) where
 live:=λ_ _ st=>let ⟨o,e,_⟩:=st.1.obj;⟨o,e⟩
 frame:=λ_ _ _ st k=>⟨st.1.keep λo e=>k it (by simp) o e,st.2.keep λo e=>k l (by simp) o e⟩
 item:=λi s Q E hi st q=>(jQ.of kd hne).item A E s i its[i] Q st (by simp[hi]) λh' a b=>q _ h' s.toks (by simp[hi]) a b
 done:=λs Q E st q=>(jQ.of kd hne).fin A E s its.size Q hh st (by simp) q
theorem zgq(kd:Bool)(l:Addr)(xs:Array Value):Meets (Builtin.«enumerate.__new__» ⟨[.type "enumerate",.ref l],[]⟩) (λ_ R s=>Ck kd s.heap l xs /\
   R (.ok (.ret (.ref (s.heap.push (fD kd l)).objs.size))) {s with heap:=(s.heap.push (fD kd l)).push {cls:=.type "enumerate",data:=.fields #[.none,.bool false,.ref s.heap.objs.size,rawInt 0,.none,.none]}}):=
 .of_wp λprog w A R s h=>by
  obtain⟨hp,g,d,tk,os⟩:=s;obtain⟨c1,h⟩:=h;have hsub:=sub_enumerate;have C1:Ck kd (Shared.heap ⟨hp,g,d,tk,os⟩) l xs:=c1;obtain⟨ol,el⟩ : ∃o,hp.get? l=some o:=by
   cases kd
   ·obtain⟨o,e,_⟩:=c1;exact⟨o,e⟩
   ·obtain⟨o,e,_⟩:=c1;exact⟨o,e⟩
  wp_walk using HW el
  refine wpAny_stack_any λst=>aU ?_
  split
  ·rename_i c _ _ _ _ _;cases (c==Value.type "enumerate")<;>(wp_walk using HW el,Ju C1;exact⟨_,rfl,h⟩)
  ·wp_walk using HW el,Ju C1
   exact⟨_,rfl,h⟩
theorem zgT{prog:Program}{w:World}{A:Around}{E:Value->Shared->Prop}{s:Shared}{e it l:Addr}{its:Array Value}{st:Nat->Heap->Prop}{i:Nat}{old:Value}{Q:Option Value->Shared->Prop}(hh:A.handled=none)(N:jQ prog w it l st its)(he:IsEnum s.heap e it i old)(yp:st i s.heap)(hx:its[i]?=none)
  (q:∀h',Heap.ExtBut it s.heap h'->Q none {s with heap:=h'}):wpAny (model prog w) A (pyNext (.ref e)) Q E s:=by
 have ty:s.TypeIs (.ref e) "enumerate":=⟨_,he,rfl⟩;have body:∀{E':Value->Shared->Prop},(∀h' x,Heap.ExtBut it s.heap h'->(∃o,h'.get? x=some o/\o.cls=.type "StopIteration")->E' (.ref x) {s with heap:=h'})->wpAny (model prog w) A.in1 (Builtin.«enumerate.__next__» ⟨[.ref e],[]⟩) (λ_ _=>False) E' s:=λk=>by
  show wpAny _ A.in1 (field (.ref e) 2 >>= _) _ _ _;exact aC (j_ he rfl (x:=.ref it) rfl (aC (N.fin A.in1 _ s i _ hh yp hx k)))
 unfold pyNext;refine aC (Cp (xr (name:=Str.ofString "__next__") ty F.slot_enumerate_next (vR F.slot_enumerate_next ty F.entry_enumerate_next (lK (body λh' x a b=>?_) (λ_ _ z=>z.elim) λ_ _ z=>z) (F.args_enumerate_next_1 _))));obtain⟨o,a1,a2⟩:=b;exact aC (Il (T:="StopIteration") (b:=true) ⟨o,a1,a2⟩ isSubtype_stop (aU (q h' a)))
theorem zfp{P:Program}{w:World}{K:W.Frag}{elts:List Expr}{kk:Nat}{pos:Pos}{kd:Bool}{l e it:Addr}(Oq:e≠it)(Vr:l≠it)(hle:l≠e) :
  Turn P w K (.Tuple elts kk pos) (Ite K kd l) [e,it] e (λi h=>(∃old,IsEnum h e it i old)/\Rk kd it l i h) where
 mem:=by simp
 obj:=λi h ⟨⟨old,he⟩,st⟩ b hb=>by
  have:b=e\/b=it:=by simpa using hb
  rcases this with rfl|rfl
  ·exact⟨_,he,λv z=>by cases z⟩
  ·exact st.obj
 keep:=λi h h' ⟨⟨old,he⟩,st⟩ k=>⟨⟨old,k e (by simp) _ he⟩,st.keep λo e=>k it (by simp) o e⟩
 item:=by
  intro X hP hw hK hc i ao s Z H E I hf ⟨⟨old,he⟩,st⟩ hg;subst hP hw hK;obtain⟨xs,x,hq,hx⟩:=hg;obtain⟨its,rv,p⟩:=I.row hq;obtain⟨u,hu,ru⟩:=rv.get hx;have dD:i<its.toArray.size:=by simpa using (eO.mp hu).1
  refine wpAny_pyNext_enum_itemD (yN (A:=X.A.in1) (I.ok.hd hc) kd Vr its.toArray) he ⟨st,p⟩ dD Oq (by simp[Oq,hle.symm]) λu' h1 tk hP ho Ot hT hsz hk=>?_;have eu:u'=u:=by
   have:its[i]?=some u':=by simpa using hP
   rw[hu] at this;cases this;rfl
  subst eu;refine⟨_,rfl,wpAny_letOwnedTupleGo_enum (s:={s with heap:=h1,toks:=tk+1}) ho λh2 he2 sb=>?_⟩;have Om:h2.get? s.heap.objs.size=some {cls:=.type "tuple",data:=.seq #[.int i tk,u']}:=(sb.2 _ (uw (bQ he))).trans hT;have kk:∀b o,b∉[e,it]->s.heap.get? b=some o->h2.get? b=some o:=λb o hb q=>(sb.2 b λz=>hb (by simp[z])).trans (hk b o (λz=>hb (by simp[z])) (λz=>hb (by simp[z])) q);have I2:=I.jP (t':=tk+1) (a:=s.heap.objs.size) (o:=.tup [.int i,x]) kk (λb hb=>hf b hb) (bJ _) (show bH X.prog X.w _ h2 _ (.tup [.int i,x]) from ⟨by show 2<=sizeLine;decide,[.int i tk,u'],.cons ⟨_,rfl⟩ (.cons ru .nil),⟨_,Om,rfl,_,rfl⟩⟩);have hn:H s.heap.objs.size=none:=I.hok.fresh (bJ _);refine⟨.ref s.heap.objs.size,_,I2,rfl,⟨_,x,hn,rfl,rfl,λys hy=>by rw[I.lq hy hq];exact hx⟩,⟨⟨_,by simpa using he2⟩,Ot.1.keep λo q=>(sb.2 it Oq.symm).trans q⟩,λb hb=>?_⟩;have nb:b≠s.heap.objs.size:=by
   have:b=e\/b=it:=by simpa using hb
   rcases this with rfl|rfl
   ·exact dw (bQ he)
   ·obtain⟨o,q,_⟩:=st.obj;exact dw (bQ q)
  rw[dO nb];exact(hf b hb).1
 done:=by
  intro X hP hw hK hc i ao s Z H E I hf ⟨⟨old,he⟩,st⟩ hg;subst hP hw hK;obtain⟨xs,hq,hx⟩:=hg;obtain⟨its,rv,p⟩:=I.row hq;have hl:=rv.length;exact zgT (I.ok.hd hc) (jQ.of kd Vr) he ⟨st,p⟩ (by simp;lia) λh' eb=>⟨rfl,I.oU (t':=s.toks) (ch:=[e,it]) (λb o hb q=>eb b o (λz=>hb (by simp[z])) q) λb hb=>hf b hb⟩
 self:=λ_ _ _ _ _ ⟨⟨old,he⟩,_⟩ h=>wpAny_pyIter_enum he h
section
variable {X:Cx}
noncomputable def Eu(K:W.Frag)(ta:TA):TI:=λZ H R=>ta Z H λvs H1=>∃kd l xs,vs=[.ref l]/\Sk kd K H1 l xs/\R (Ite K kd l) H1
theorem zfx:bootBuiltins "enumerate"=some (.type "enumerate"):=by decide +kernel
theorem ziu{a:Expr}{ta:TA}{p pos tpos:Pos}{elts:List Expr}{kk:Nat}(hg:Gl X "enumerate")(hm:X.mg "enumerate"=none)(ha:PA X [a] ta)(hs:starEach [a] X.env=[(false,eval a X.env)]:=by rfl):PI X (.Tuple elts kk tpos) (.Call (.Name "enumerate" p) [a] [] pos) (Eu X.K ta):=by
 intro ao s Z H R I h;refine Call_ (uz I hg hm zfx (xq (aZ (ha pos ao s Z H _ I h) λus s1 ⟨vs,H1,I1,r1,q1⟩=>?_) hs rfl));obtain⟨kd,l,xs,e,hq,q⟩:=q1;subst e;cases r1 with
 |cons r rr=>
  cases rr;cases r;obtain⟨its,rv,p⟩:=I1.row hq;have hl:l<s1.heap.objs.size:=p.lt;refine callType_new F.called_enumerate (by decide) (F.typeCall_enumerate_1 _) (F.newCall_enumerate_1 _) (λobj=>F.args_object_init_2 obj _) F.entry_enumerate_new (zgq kd l its.toArray) ⟨p,?_⟩;have n1:(s1.heap.push (fD kd l)).objs.size=s1.heap.objs.size+1:=tH ..;have he:IsEnum ((s1.heap.push (fD kd l)).push {cls:=.type "enumerate",data:=.fields #[.none,.bool false,.ref s1.heap.objs.size,rawInt 0,.none,.none]}) (s1.heap.objs.size+1) s1.heap.objs.size 0 .none:=by
   have:=fC (s1.heap.push (fD kd l)) (o:={cls:=.type "enumerate",data:=.fields #[.none,.bool false,.ref s1.heap.objs.size,rawInt 0,.none,.none]}) rfl;rw[n1] at this;exact this
  show _/\_;rw[n1];refine⟨⟨_,he,rfl⟩,wpAny_pyIter_enum (s:={s1 with heap:=(s1.heap.push (fD kd l)).push {cls:=.type "enumerate",data:=.fields #[.none,.bool false,.ref s1.heap.objs.size,rawInt 0,.none,.none]}}) he ?_⟩;have rk:Rk kd s1.heap.objs.size l 0 ((s1.heap.push (fD kd l)).push {cls:=.type "enumerate",data:=.fields #[.none,.bool false,.ref s1.heap.objs.size,rawInt 0,.none,.none]}):=by
   cases kd
   ·exact⟨_,cJ _ (fC _ rfl),rfl,rfl⟩
   ·exact⟨_,cJ _ (fC _ rfl),rfl,rfl⟩
  refine⟨s1.heap.objs.size+1,[s1.heap.objs.size+1,s1.heap.objs.size],_,_,H1,rfl,I1.kept (t':=s1.toks) λb o x=>cJ _ (cJ _ x),zfp (kd:=kd) (l:=l) (Nat.succ_ne_self _) (dw hl) (dw (tD hl)),⟨⟨_,he⟩,rk⟩,λb hb=>?_,q⟩;have:s1.heap.objs.size<=b:=by
   have:b=s1.heap.objs.size+1\/b=s1.heap.objs.size:=by simpa using hb
   rcases this with rfl|rfl
   ·exact Nat.le_succ _
   ·exact bJ _
  exact I1.q_ this (I1.hok.fresh this)
end
end L2
set_option genSizeOf false
set_option genInjectivity false
namespace Mi
open PySem
inductive D where
 |non|bl (b:Bool)|int (i:Int)|str (s:Str)|tup (xs:List D)|fl (xs:List D)|fd (ks vs:List D)|exc (c:Nat) (fs:List D)|ob (c:Nat) (fs:List D)|any
inductive Xv where
 |d (x:D)|l (n:Nat)
inductive Kx where
 |non|int (i:Int)|row (is:List Int)
deriving DecidableEq
inductive SO where
 |lst (xs:List D)
 |dct (kvs:List (List Kx×D))
noncomputable abbrev S:=List SO
inductive Rs (α:Type) where
 |ok (a:α)|er (c:Nat) (fs:List D)
noncomputable abbrev M(α:Type):=S->Option (Rs α×S)
noncomputable def M.ret{α:Type}(a:α):M α:=λs=>some (.ok a,s)
noncomputable def M.bd{α β:Type}(m:M α)(k:α->M β):M β:=λs=>match m s with
 |some (.ok a,s')=>k a s'
 |some (.er c f,s')=>some (.er c f,s')
 |none=>none
noncomputable def M.qt{α:Type}(m:M α):M α:=λs=>match m s with
 |some (.ok a,s')=>some (.ok a,s')
 |_=>none
noncomputable def M.no{α:Type}:M α:=λ_=>none
noncomputable def M.opt{α:Type}:Option α->M α
 |some a=>M.ret a
 |none=>M.no
inductive Rz where
 |dat (d:D)|nw (xs:List D)
inductive Pr where
 |add|aq|mul|fdiv|mod|pow|neg
 |eq|ne|lt|le|gt|ge|inn|nin
 |qJ|pR
 |len|abs|max2|min2|Ew|Ey|pU|Ax|uR|divmod|all|sum|list|tuple|sorted|oV|yO|str1
 |ix|rev|Vt|Ez|mult|wA
 |count|index|repr
inductive Kd where
 |int|bool|str|tuple|list|dict|cls (c:Nat)|pW
mutual
inductive E where
 |c (d:D)
 |v (i:Nat)
 |pr (fz:Bool) (p:Pr) (xs:Es)
 |uU (p q:Pr) (a b c:E)
 |ch3 (p q r:Pr) (a b c d:E)
 |and (a b:E)
 |or (a b:E)
 |not (a:E)
 |ite (c a b:E)
 |tup (xs:Es)
 |lst (fz:Bool) (xs:Es)
 |EY (k:Str) (i:Int)
 |call (f:Nat) (xs:Es)
 |oW (a:E) (k:Kd)
 |sl (fz:Bool) (a:E) (lo hi:Eo)
 |meth (fz:Bool) (p:Pr) (k:Kd) (o:E) (xs:Es)
 |push (o a:E)
 |pop (o:E)
 |comp (fz:Bool) (elt:E) (tg:List Nat) (it:Wk) (fr:List Nat) (many:Nat) (cond:Eo)
 |E_ (fz:Bool) (elt:E) (tg:List Nat) (it:Wk) (Vu:List Nat) (Et:Wk) (fr:List Nat) (many:Nat) (cond:Eo)
 |fld (o:E) (cs:List Nat) (i:Nat)
 |of (o:E) (c i:Nat)
 |mk (c f:Nat) (xs:Es)
 |cm (c f:Nat) (o:E) (xs:Es)
 |pX
 |yP (b:Bool) (k d:E)
 |nM (d k:E)
 |Ay (a:E)
 |Fb (fz:Bool) (a:E) (b:E)
 |orv (a b:E)
 |ins (o i a:E)
 |no
inductive Wk where
 |seq (e:E)
 |rg (a b:E)
 |zip (a b:E)
 |enum (a:E)
 |rrg (a:E)
inductive Es where
 |nil
 |cons (a:E) (r:Es)
inductive Eo where
 |no
 |yes (a:E)
end
noncomputable abbrev Ea(a:E):Es:=.cons a .nil
noncomputable abbrev Eb(a b:E):Es:=.cons a (.cons b .nil)
noncomputable abbrev Ec(a b c:E):Es:=.cons a (.cons b (.cons c .nil))
noncomputable abbrev Ei(a b:E):E:=.pr true .ix (.cons a (.cons b .nil))
noncomputable abbrev Ci(i:Int):E:=.c (.int i)
noncomputable def Es.len:Es->Nat
 |.nil=>0
 |.cons _ r=>r.len+1
inductive Tg where
 |nm (i:Nat)
 |tp (is:List Nat)
 |aq (o i:E)
mutual
inductive St where
 |pass
 |ex (e:E)
 |asg (t:Tg) (e:E)
 |par (i j:Nat) (a b:E)
 |aug (i:Nat) (e:E)
 |ret (e:E)
 |rise (c:Nat) (kp:Bool) (xs:Es)
 |iff (c:E) (t e:bM)
 |wh (c:E) (b:bM)
 |fr (t:Tg) (w:Wk) (b:bM)
 |Ou (b:bM) (d:Nat) (i:Nat) (h:bM)
 |dput (d k v:E)
 |no
inductive bM where
 |nil
 |cons (a:St) (r:bM)
end
noncomputable def c7(eq:D->D->Option Bool):List D->List D->Option Bool
 |[],[]=>some true
 |[],_::_=>some false
 |_::_,[]=>some false
 |x::xs,y::ys=>match eq x y,c7 eq xs ys with
  |some a,some b=>some (a&&b)
  |_,_=>none
noncomputable def kq:D->Option Nat
 |.non=>some 0
 |.bl _=>some 1
 |.int _=>some 1
 |.str _=>some 2
 |.tup _=>some 3
 |.fl _=>some 4
 |_=>none
noncomputable def cR:Nat->D->D->Option Bool
 |n+1,.tup xs,.tup ys=>c7 (cR n) xs ys
 |n+1,.fl xs,.fl ys=>c7 (cR n) xs ys
 |_,.non,.non=>some true
 |_,.bl a,.bl b=>some (a==b)
 |_,.int a,.int b=>some (a==b)
 |_,.str a,.str b=>some (a==b)
 |_,.bl a,.int b=>some ((if a then 1 else 0)==b)
 |_,.int a,.bl b=>some (a==(if b then 1 else 0))
 |_,a,b=>match kq a,kq b with
  |some i,some j=>if i=j then none else some false
  |_,_=>none
noncomputable def bU:List D->Option (List Int)
 |[]=>some []
 |.int i::r=>(bU r).map (i::·)
 |_=>none
noncomputable def ltI:List Int->List Int->Bool
 |_,[]=>false
 |[],_::_=>true
 |x::xs,y::ys=>if x=y then ltI xs ys else decide (x<y)
noncomputable def dF:List D->Option (List Bool)
 |[]=>some []
 |.bl b::r=>(dF r).map (b::·)
 |_=>none
noncomputable def cut{α:Type}(xs:List α)(lo hi:Option Int):List α:=(xs.drop (HT.bL xs.length 0 lo)).take (HT.bL xs.length xs.length hi-HT.bL xs.length 0 lo)
noncomputable def lu:D->Option (List D)
 |.tup xs=>some xs
 |.fl xs=>some xs
 |_=>none
noncomputable def cutD(x:D)(lo hi:Option Int):Option Rz:=match x with
 |.tup xs=>some (.dat (.tup (cut xs lo hi)))
 |.fl xs=>some (.nw (cut xs lo hi))
 |_=>none
noncomputable def memD(d:D):List D->Option Bool
 |[]=>some false
 |x::r=>match cR 50 x d,memD d r with
  |some a,some b=>some (a||b)
  |_,_=>none
noncomputable def yQ:Kd->D->Bool
 |.list,.fl _=>true
 |.str,.str _=>true
 |.dict,.fd _ _=>true
 |_,_=>false
noncomputable def cN(f:Int->Int->Option D):List D->Option Rz
 |[.int i,.int j]=>(f i j).map .dat
 |_=>none
noncomputable def oX(f:Int->D):List D->Option Rz
 |[.int i]=>some (.dat (f i))
 |_=>none
noncomputable def pY(f:List D->Option Rz):List D->Option Rz
 |[a]=>(lu a).bind f
 |_=>none
noncomputable def yR:List D->Option Rz
 |[.int i,.int j]=>some (.dat (.int (i+j)))
 |[.tup xs,.tup ys]=>if xs.length+ys.length<=sizeLine then some (.dat (.tup (xs++ys))) else none
 |[.fl xs,.fl ys]=>if xs.length+ys.length<=sizeLine then some (.nw (xs++ys)) else none
 |[.str x,.str y]=>if x.length+y.length<=sizeLine then some (.dat (.str (x++y))) else none
 |_=>none
noncomputable def Fd:List D->Option Rz
 |[.int i,.int j]=>some (.dat (.bl (decide (i<j))))
 |[.tup xs,.tup ys]=>match bU xs,bU ys with
  |some a,some b=>some (.dat (.bl (ltI a b)))
  |_,_=>none
 |_=>none
noncomputable def yS(f:Bool->Bool):List D->Option Rz
 |[a,b]=>(cR 50 a b).map λk=>.dat (.bl (f k))
 |_=>none
noncomputable def Az(f:Bool->Bool):List D->Option Rz
 |[a,b]=>((lu b).bind (memD a)).map λk=>.dat (.bl (f k))
 |_=>none
noncomputable def D.mH:D->Bool
 |.non=>true
 |_=>false
noncomputable def yU(f:Bool->Bool):List D->Option Rz
 |[a]=>some (.dat (.bl (f a.mH)))
 |_=>none
noncomputable def Fe:List D->Option Rz
 |[.int i]=>some (.dat (.int i))
 |[.bl k]=>some (.dat (.int (if k then 1 else 0)))
 |_=>none
noncomputable def yV:List D->Option Rz
 |[.fl xs]=>(dF xs).map λbs=>.dat (.bl (bs.all id))
 |_=>none
noncomputable def lA:List D->Option (List Int)
 |[]=>some []
 |.int i::r=>(lA r).map (i::·)
 |_=>none
noncomputable def best(bt:Int->Int->Bool)(i:Int)(is:List Int):Int:=is.foldl (λm j=>if bt j m then j else m) i
noncomputable def Fg(bt:Int->Int->Bool):Option (List Int)->Option Rz
 |some (i::is)=>some (.dat (.int (best bt i is)))
 |_=>none
noncomputable def wB(bt:Int->Int->Bool):List D->Option Rz
 |[a]=>(lu a).bind λxs=>Fg bt (lA xs)
 |_=>none
noncomputable def okR(i j:Int):Bool:=decide (-(2^62)<=i/\i<2^62/\-(2^62)<=j/\j<2^62/\(j-i).toNat<=65536)
noncomputable def Fj(i:Int)(n:Nat):List D:=(List.range n).map λk=>.int (i+(k:Nat))
noncomputable def Ov:List D->Option Rz
 |[.int j]=>if okR 0 j then some (.nw (Fj 0 (j-0).toNat)) else none
 |[.int i,.int j]=>if okR i j then some (.nw (Fj i (j-i).toNat)) else none
 |_=>none
noncomputable def yW:List D->Option Rz
 |[.int j]=>if okR 0 j then some (.dat (.tup (Fj 0 (j-0).toNat))) else none
 |_=>none
noncomputable def nO:List D->Option Rz
 |[a]=>(lu a).map λxs=>.dat (.tup xs)
 |_=>none
noncomputable def Ox:List D->Option Rz
 |[a,.int i]=>((lu a).bind λxs=>L2.oM xs i).map .dat
 |_=>none
noncomputable def mJ:List D->List D->Option Bool
 |[],ys=>some (decide (0<ys.length))
 |_::_,[]=>some false
 |.int x::xs,.int y::ys=>if x=y then mJ xs ys else some (decide (x<y))
 |_::_,_::_=>none
noncomputable def tR(xs:List D)(i j:Nat):Option Bool:=match xs[i]?,xs[j]? with
 |some (.int x),some (.int y)=>some (decide (x<y))
 |some (.tup us),some (.tup ws)=>mJ us ws
 |_,_=>none
noncomputable def eU(b:List Int):List (List Int)->List Int
 |[]=>b
 |x::r=>eU (if ltI x b=true then x else b) r
noncomputable def jr:List D->Option (List (List Int))
 |[]=>some []
 |.tup xs::r=>match bU xs,jr r with
  |some a,some b=>some (a::b)
  |_,_=>none
 |_=>none
noncomputable def mK:List D->Option Rz
 |[.fl xs]=>match jr xs with
  |some (x::r)=>some (.dat (.tup ((eU x r).map .int)))
  |_=>none
 |_=>none
noncomputable def h_:D->Bool
 |.int _=>true
 |_=>false
noncomputable def gb:D->Bool
 |.tup (.int _::_)=>true
 |_=>false
noncomputable def mL(lt:Nat->Nat->Option Bool)(xs:List D):Option (List D):=if xs.length<2 then some xs else if xs.length<64 then (match L2.bF lt (PySem.W.kas_sort xs.length) with
  |some p=>if p.size=xs.length then some (p.toList.map λi=>xs.getD i .non) else none
  |none=>none) else none
noncomputable def tU(xs:List D):Option (List D):=if xs.all h_||xs.all gb then mL (tR xs) xs else none
noncomputable def lB:List D->Option Rz
 |[.fl xs]=>(tU xs).map .nw
 |_=>none
noncomputable def ltK(ks:List Int)(i j:Nat):Option Bool:=match ks[i]?,ks[j]? with
 |some x,some y=>some (decide (x<y))
 |_,_=>none
noncomputable def Oz:List D->Option Rz
 |[.tup xs]=>some (.dat (.tup xs.reverse))
 |_=>none
noncomputable def yX:List D->Option Rz
 |[.fl xs,.bl b]=>(dF xs).map λbs=>.dat (.int (bs.count b))
 |_=>none
noncomputable def yZ:List D->Option Rz
 |[.fl xs,.bl b]=>((dF xs).bind λbs=>bs.idxOf? b).map λ(i:Nat)=>.dat (.int i)
 |_=>none
noncomputable def OD:List D->Option Rz
 |[.int i]=>if i.natAbs<2^62 then some (.dat (.str (Str.ofString (toString i)))) else none
 |_=>none
noncomputable def OJ(f:D->Option PyData):List D->Option (List PyData)
 |[]=>some []
 |x::r=>match f x,OJ f r with
  |some a,some b=>some (a::b)
  |_,_=>none
noncomputable def pd:Nat->D->Option PyData
 |n+1,.tup xs=>(OJ (pd n) xs).map .tuple
 |n+1,.fl xs=>(OJ (pd n) xs).map .list
 |_,.non=>some .none
 |_,.bl b=>some (.bool b)
 |_,.int i=>some (.int i)
 |_,.str x=>some (.str x)
 |_,_=>none
noncomputable def pdT:D->Option PyData
 |.fd [.str k] [.int i]=>some (.dict [(.str k,.int i)])
 |x=>pd 40 x
noncomputable def shw(d:PyData):Option Rz:=if d.showable=true/\d.shown.length<=sizeLine then some (.dat (.str d.shown)) else none
noncomputable def Fl:List D->Option Rz
 |[x]=>(pdT x).bind shw
 |_=>none
noncomputable def wC:List (Int×Int):=[(0,1),(0,2),(0,3),(0,4),(0,5),(0,6),(0,7),(1,2),(1,3),(1,4),(1,5),(1,6),(1,7),(2,3),(2,4),(2,5),(2,6),(2,7),(3,4),(3,5),(3,6),(3,7),(4,5),(4,6),(4,7),(5,6),(5,7),(6,7)]
noncomputable def ss(ts:List (Int×Int)):List (Int×Int):=wC.filter λt=>ts.contains t
noncomputable def O1:D->Option (Int×Int)
 |.tup [.int a,.int b]=>if 0<=a/\a<b/\b<8 then some (a,b) else none
 |_=>none
noncomputable def wD:List D->Option (List (Int×Int))
 |[]=>some []
 |x::r=>match O1 x,wD r with
  |some a,some b=>some (a::b)
  |_,_=>none
noncomputable def pSs:List D->Option Rz
 |[.tup xs]=>(wD xs).map λts=>.nw ((ss ts).map λp=>.tup [.int p.1,.int p.2])
 |_=>none
noncomputable def Fp(is:List Int):Bool:=decide (is.length<=1000)&&is.all λi=>decide (-1000000<=i/\i<=1000000)
noncomputable def O2(is:List Int):Option Rz:=match Fp is with
 |true=>some (.dat (.int is.sum))
 |false=>none
noncomputable def O4:List D->Option Rz
 |[a]=>(lu a).bind λxs=>(lA xs).bind O2
 |_=>none
noncomputable def lC:List Int->List Int
 |[]=>[]
 |x::r=>if r.contains x then lC r else x::lC r
noncomputable def Fq:List D->Option Rz
 |[.tup xs]=>(lA xs).map λis=>.dat (.int (lC is).length)
 |_=>none
noncomputable def rep{α:Type}(xs:List α)(n:Nat):List α:=(List.replicate n xs).flatten
noncomputable def Ft:List D->Option Rz
 |[.fl xs,.int n]=>if 0<=n/\n<=1000/\xs.length<=1000 then some (.nw (rep xs n.toNat)) else none
 |_=>none
noncomputable def zc:List D->Option Rz
 |[.tup xs]=>if xs.all h_=true then (tU xs).map .nw else none
 |_=>none
noncomputable def Fw:List D->Option Rz
 |[.tup xs,.int n]=>if 1<=n/\n<=1000/\1<=xs.length/\xs.length<=1000 then some (.dat (.tup (rep xs n.toNat))) else none
 |_=>none
noncomputable def uV:D->Option Bool
 |.non=>some false
 |.bl b=>some b
 |.int i=>some (i != 0)
 |.tup xs=>some (!xs.isEmpty)
 |.fl xs=>some (!xs.isEmpty)
 |_=>none
noncomputable def prim:Pr->List D->Option Rz
 |.add=>yR
 |.aq=>cN λi j=>some (.int (i-j))
 |.mul=>cN λi j=>if (-(2^64)<i/\i<2^64)\/(-(2^64)<j/\j<2^64) then some (.int (i*j)) else none
 |.fdiv=>cN λi j=>if 0<j/\j<1073741824 then some (.int (i/j)) else none
 |.mod=>cN λi j=>if 0<j then some (.int (i%j)) else none
 |.pow=>cN λi j=>if 0<=j/\j<=1000000/\i.natAbs<2^64 then some (.int (i^j.toNat)) else none
 |.neg=>oX λi=>.int (-i)
 |.eq=>yS id
 |.ne=>yS not
 |.lt=>Fd
 |.le=>cN λi j=>some (.bl (decide (i<=j)))
 |.gt=>cN λi j=>some (.bl (decide (j<i)))
 |.ge=>cN λi j=>some (.bl (decide (j<=i)))
 |.inn=>Az id
 |.nin=>Az not
 |.qJ=>yU id
 |.pR=>yU not
 |.len=>pY λxs=>some (.dat (.int xs.length))
 |.abs=>oX λi=>.int (if i<0 then -i else i)
 |.max2=>cN λi j=>some (.int (if j>i then j else i))
 |.min2=>cN λi j=>some (.int (if j<i then j else i))
 |.uR=>Fe
 |.divmod=>cN λi j=>if 0<j/\j<1073741824 then some (.tup [.int (i/j),.int (i%j)]) else none
 |.all=>yV
 |.Vt=>Ov
 |.Ew=>wB λa b=>decide (a>b)
 |.Ey=>wB λa b=>decide (a<b)
 |.pU=>mK
 |.Ax=>yW
 |.list=>pY λxs=>some (.nw xs)
 |.tuple=>nO
 |.ix=>Ox
 |.rev=>Oz
 |.sorted=>lB
 |.oV=>pSs
 |.Ez=>Ft
 |.mult=>Fw
 |.wA=>zc
 |.sum=>O4
 |.yO=>Fq
 |.count=>yX
 |.index=>yZ
 |.repr=>Fl
 |.str1=>OD
noncomputable def jR(aq:Nat->Nat->Bool):D->Kd->Option Bool
 |.exc c _,.cls e=>some (aq c e)
 |.exc _ _,.pW=>some true
 |.exc _ _,_=>none
 |.ob _ _,_=>none
 |.any,_=>none
 |_,.cls _=>none
 |_,.pW=>none
 |.bl _,.bool=>some true
 |.bl _,.int=>some true
 |.bl _,_=>some false
 |.int _,.int=>some true
 |.int _,_=>some false
 |.non,_=>some false
 |.str _,.str=>some true
 |.str _,_=>some false
 |.tup _,.tuple=>some true
 |.tup _,_=>some false
 |.fl _,.list=>some true
 |.fl _,_=>some false
 |.fd _ _,.dict=>some true
 |.fd _ _,_=>some false
noncomputable def rd(x:Xv):M D:=λs=>match x with
 |.d v=>some (.ok v,s)
 |.l n=>match s[n]? with
  |some (.lst xs)=>some (.ok (.fl xs),s)
  |_=>none
noncomputable def gj:List Xv->M (List D)
 |[]=>M.ret []
 |x::r=>M.bd (rd x) λd=>M.bd (gj r) λds=>M.ret (d::ds)
noncomputable def dat(x:Xv):M D:=match x with
 |.d v=>M.ret v
 |.l _=>M.no
noncomputable def bW:List Xv->M (List D)
 |[]=>M.ret []
 |x::r=>M.bd (dat x) λd=>M.bd (bW r) λds=>M.ret (d::ds)
noncomputable def bool(x:Xv):M Bool:=match x with
 |.d (.bl b)=>M.ret b
 |_=>M.no
noncomputable def int(x:Xv):M Int:=match x with
 |.d (.int b)=>M.ret b
 |_=>M.no
noncomputable def newL(fz:Bool)(xs:List D):M Xv:=match fz with
 |true=>M.ret (.d (.fl xs))
 |false=>λs=>some (.ok (.l s.length),s++[.lst xs])
noncomputable def bV(fz:Bool)(o:Option Rz):M Xv:=match o with
 |some (.dat d)=>M.ret (.d d)
 |some (.nw xs)=>newL fz xs
 |none=>M.no
noncomputable def cH(x:Xv):M (Nat×List D):=λs=>match x with
 |.l n=>match s[n]? with
  |some (.lst xs)=>some (.ok (n,xs),s)
  |_=>none
 |_=>none
noncomputable def putL(n:Nat)(xs:List D):M Unit:=λs=>some (.ok (),s.set n (.lst xs))
noncomputable def rD:D->Option Kx
 |.non=>some .non
 |.int i=>some (.int i)
 |.tup xs=>(bU xs).map .row
 |_=>none
noncomputable def zj:List D->Option (List Kx)
 |[]=>some []
 |x::r=>match rD x,zj r with
  |some a,some b=>some (a::b)
  |_,_=>none
noncomputable def kOf:D->Option (List Kx)
 |.tup xs=>zj xs
 |_=>none
noncomputable abbrev gY:=List (List Kx×D)
noncomputable def bO(k:List Kx):gY->Option D
 |[]=>none
 |p::r=>if p.1=k then some p.2 else bO k r
noncomputable def iU(k:List Kx)(d:D)(r:gY):gY:=if (bO k r).isSome=true then r.map λp=>if p.1=k then (p.1,d) else p else r++[(k,d)]
noncomputable def eY(x:Xv):M (Nat×gY):=λs=>match x with
 |.l n=>match s[n]? with
  |some (.dct kvs)=>some (.ok (n,kvs),s)
  |_=>none
 |_=>none
noncomputable def putD(n:Nat)(kvs:gY):M Unit:=λs=>some (.ok (),s.set n (.dct kvs))
noncomputable def key(x:Xv):M (List Kx):=match x with
 |.d v=>M.opt (kOf v)
 |.l _=>M.no
noncomputable def enumFrom:Nat->List D->List D
 |_,[]=>[]
 |i,x::r=>.tup [.int i,x]::enumFrom (i+1) r
inductive Src where
 |fix (xs:List D)|live (n:Nat)|jT (n:Nat)
noncomputable def Src.at(c:Src)(i:Nat)(s:S):Option (Option D):=match c with
 |.fix xs=>some xs[i]?
 |.live n=>match s[n]? with
  |some (.lst xs)=>some xs[i]?
  |_=>none
 |.jT n=>match s[n]? with
  |some (.lst xs)=>some (xs[i]?.map λx=>.tup [.int i,x])
  |_=>none
noncomputable def mO(x:Xv):M (Src×Nat):=λs=>match x with
 |.d (.tup xs)=>some (.ok (.fix (enumFrom 0 xs),(enumFrom 0 xs).length),s)
 |.d (.fl xs)=>some (.ok (.fix (enumFrom 0 xs),(enumFrom 0 xs).length),s)
 |.l n=>match s[n]? with
  |some (.lst xs)=>some (.ok (.jT n,xs.length),s)
  |_=>none
 |_=>none
noncomputable def src(x:Xv):M (Src×Nat):=λs=>match x with
 |.d (.tup xs)=>some (.ok (.fix xs,xs.length),s)
 |.d (.fl xs)=>some (.ok (.fix xs,xs.length),s)
 |.l n=>match s[n]? with
  |some (.lst xs)=>some (.ok (.live n,xs.length),s)
  |_=>none
 |_=>none
noncomputable def nP(x:Xv):M (List D):=match x with
 |.d (.tup xs)=>M.ret xs
 |.d (.fl xs)=>M.ret xs
 |_=>M.no
noncomputable def iV(a b:Int):List D:=(List.range (b-a).toNat).map λ(i:Nat)=>.int (a+i)
noncomputable def eZ(a:Int):Bool:=decide (-(2^62)<a)&&decide (a<2^62)
noncomputable def walk(c:Src)(f:D->List D->M (List D)):Nat->Nat->List D->M (List D)
 |0,_,_=>M.no
 |k+1,i,acc=>λs=>match c.at i s with
  |none=>none
  |some none=>some (.ok acc,s)
  |some (some x)=>M.bd (f x acc) (λacc'=>walk c f k (i+1) acc') s
noncomputable def wF(f:D->M Xv):List D->M (List Int)
 |[]=>M.ret []
 |x::r=>M.bd (M.qt (f x)) λy=>M.bd (int y) λk=>M.bd (wF f r) λks=>M.ret (k::ks)
noncomputable abbrev Vs:=List (Option Xv)
noncomputable abbrev Fn:=Nat->List Xv->M Xv
noncomputable def locs:List Xv->List Nat
 |[]=>[]
 |.d _::r=>locs r
 |.l n::r=>n::locs r
noncomputable def cY:Nat->List Xv->List Xv
 |_,[]=>[]
 |k,.d v::r=>.d v::cY k r
 |k,.l _::r=>.l k::cY (k+1) r
noncomputable def iW(s:S):List Nat->Option S
 |[]=>some []
 |n::r=>match s[n]?,iW s r with
  |some o,some q=>some (o::q)
  |_,_=>none
noncomputable def cO(s:S):List Nat->S->S
 |n::r,o::q=>cO (s.set n o) r q
 |_,_=>s
noncomputable def bZ(F:List Xv->M Xv)(xs:List Xv):M Xv:=λs=>
 if (locs xs).Nodup then match iW s (locs xs) with
  |none=>none
  |some s0=>match F (cY 0 xs) s0 with
   |none=>none
   |some (.er c fs,s1)=>some (.er c fs,cO s (locs xs) s1)
   |some (.ok (.d v),s1)=>some (.ok (.d v),cO s (locs xs) s1)
   |some (.ok (.l n),s1)=>match (locs xs)[n]? with
    |some m=>some (.ok (.l m),cO s (locs xs) s1)
    |none=>match s1[n]? with
     |some o=>some (.ok (.l s.length),cO s (locs xs) s1++[o])
     |none=>none
 else none
noncomputable def O5(F:List Xv->M Xv)(c:Nat)(vs:List Xv):M Xv:=λs=>
 if locs vs=[] then match F (.d .any::vs) [] with
  |some (.ok (.d (.tup ds)),_)=>some (.ok (.d (.ob c ds)),s)
  |_=>none
 else none
noncomputable def pZ(c:Nat)(x:Xv):M (List D):=match x with
 |.d (.ob e fs)=>if e=c then M.ret fs else M.no
 |_=>M.no
noncomputable def gq{α:Type}:List Nat->List α->List (Option α)->Option (List (Option α))
 |[],[],J=>some J
 |i::is,d::ds,J=>gq is ds (J.set i (some d))
 |_,_,_=>none
noncomputable def jU:D->Option (List D)
 |.tup xs=>some xs
 |_=>none
noncomputable def gK(tg:List Nat)(x:D)(J:Vs):Option Vs:=match tg with
 |[i]=>some (J.set i (some (.d x)))
 |is=>(jU x).bind λds=>gq is (ds.map .d) J
noncomputable def blk(many:Nat)(fr:List Nat)(J:Vs):Vs:=List.replicate many none++fr.map λj=>J[j]?.join
section
variable (aq:Nat->Nat->Bool)(aj:Bool)(F:Fn)
mutual
noncomputable def ev:E->Vs->M Xv
 |.c d,_=>M.ret (.d d)
 |.v i,J=>M.opt (J[i]?.join)
 |.pr fz p xs,J=>M.bd (evs xs J) λvs=>M.bd (gj vs) λds=>bV fz (prim p ds)
 |.uU p q a b c,J=>M.bd (ev a J) λx=>M.bd (ev b J) λy=>M.bd (gj [x,y]) λds=>M.bd (bV true (prim p ds)) λt=>M.bd (bool t) λk=>
   if k=true then M.bd (ev c J) λz=>M.bd (gj [y,z]) λds=>bV true (prim q ds) else M.ret (.d (.bl false))
 |.ch3 p q r a b c d,J=>M.bd (ev a J) λx=>M.bd (ev b J) λy=>M.bd (gj [x,y]) λds=>M.bd (bV true (prim p ds)) λt=>M.bd (bool t) λk=>
   if k=true then M.bd (ev c J) λz=>M.bd (gj [y,z]) λds=>M.bd (bV true (prim q ds)) λt=>M.bd (bool t) λk2=>
    if k2=true then M.bd (ev d J) λw=>M.bd (gj [z,w]) λds=>bV true (prim r ds) else M.ret (.d (.bl false))
   else M.ret (.d (.bl false))
 |.and a b,J=>M.bd (ev a J) λx=>M.bd (bool x) λk=>if k=true then ev b J else M.ret (.d (.bl false))
 |.or a b,J=>M.bd (ev a J) λx=>M.bd (bool x) λk=>if k=true then M.ret (.d (.bl true)) else ev b J
 |.not a,J=>M.bd (ev a J) λx=>M.bd (bool x) λk=>M.ret (.d (.bl (!k)))
 |.ite c a b,J=>M.bd (ev c J) λx=>M.bd (bool x) λk=>if k=true then ev a J else ev b J
 |.tup xs,J=>M.bd (evs xs J) λvs=>M.bd (bW vs) λds=>M.ret (.d (.tup ds))
 |.lst fz xs,J=>M.bd (evs xs J) λvs=>M.bd (bW vs) λds=>newL fz ds
 |.EY k i,_=>M.ret (.d (.fd [.str k] [.int i]))
 |.call f xs,J=>M.bd (evs xs J) λvs=>bZ (F f) vs
 |.oW a k,J=>M.bd (ev a J) λx=>M.bd (rd x) λd=>M.bd (M.opt (jR aq d k)) λb=>M.ret (.d (.bl b))
 |.sl fz a lo hi,J=>M.bd (ev a J) λx=>M.bd (uW lo J) λl=>M.bd (uW hi J) λh=>M.bd (rd x) λd=>bV fz (cutD d l h)
 |.meth fz p k o xs,J=>M.bd (ev o J) λx=>M.bd (rd x) λd=>if yQ k d=true then M.bd (evs xs J) λys=>M.bd (gj (x::ys)) λds=>bV fz (prim p ds) else M.no
 |.push o a,J=>M.bd (ev o J) λx=>M.bd (cH x) λ_=>M.bd (ev a J) λy=>M.bd (dat y) λd=>M.bd (cH x) λnx=>if nx.2.length<sizeLine then M.bd (putL nx.1 (nx.2++[d])) λ_=>M.ret (.d .non) else M.no
 |.pop o,J=>M.bd (ev o J) λx=>M.bd (cH x) λnx=>match nx.2.getLast? with
   |some d=>M.bd (putL nx.1 nx.2.dropLast) λ_=>M.ret (.d d)
   |none=>M.no
 |.comp fz elt tg it fr many cond,J=>if aj=true then M.bd (lM it J) λcn=>
   M.bd (walk cn.1 (λd acc=>M.bd (M.opt (gK tg d (blk many fr J))) λJ'=>M.bd (M.qt (p7 cond J')) λok=>
    if ok=true then M.bd (M.qt (ev elt J')) λy=>M.bd (dat y) λe=>if acc.length<sizeLine then M.ret (acc++[e]) else M.no else M.ret acc) (cn.2+1) 0 []) λxs=>newL fz xs
  else M.no
 |.E_ fz elt tg it Vu Et fr many cond,J=>if aj=true then M.bd (lM it J) λcn=>
   M.bd (walk cn.1 (λd acc=>M.bd (M.opt (gK tg d (blk many fr J))) λJ'=>M.bd (M.qt (lM Et J')) λVv=>
    walk Vv.1 (λd2 acc=>M.bd (M.opt (gK Vu d2 J')) λVw=>M.bd (M.qt (p7 cond Vw)) λok=>
     if ok=true then M.bd (M.qt (ev elt Vw)) λy=>M.bd (dat y) λe=>if acc.length<sizeLine then M.ret (acc++[e]) else M.no else M.ret acc) (Vv.2+1) 0 acc) (cn.2+1) 0 []) λxs=>newL fz xs
  else M.no
 |.fld o cs i,J=>M.bd (ev o J) λx=>match x with
   |.d (.exc c fs)=>if cs.contains c=true then M.opt (fs[i]?.map .d) else M.no
   |_=>M.no
 |.of o c i,J=>M.bd (ev o J) λx=>M.bd (pZ c x) λfs=>M.opt (fs[i]?.map .d)
 |.mk c f xs,J=>M.bd (evs xs J) λvs=>O5 (F f) c vs
 |.cm c f o xs,J=>M.bd (ev o J) λx=>M.bd (pZ c x) λ_=>M.bd (evs xs J) λvs=>M.qt (bZ (F f) (x::vs))
 |.pX,_=>λs=>some (.ok (.l s.length),s++[.dct []])
 |.yP b k d,J=>M.bd (ev k J) λx=>M.bd (ev d J) λy=>M.bd (key x) λkx=>M.bd (eY y) λnk=>M.ret (.d (.bl ((bO kx nk.2).isSome==b)))
 |.nM d k,J=>M.bd (ev d J) λy=>M.bd (ev k J) λx=>M.bd (key x) λkx=>M.bd (eY y) λnk=>M.opt ((bO kx nk.2).map .d)
 |.Ay a,J=>M.bd (ev a J) λx=>M.bd (rd x) λd=>M.bd (M.opt (uV d)) λk=>M.ret (.d (.bl k))
 |.Fb fz a b,J=>if aj=true then M.bd (ev a J) λx=>match x with
   |.d (.fl xs)=>M.bd (wF (λd=>ev b [some (.d d)]) xs) λks=>M.bd (M.opt (mL (ltK ks) xs)) λys=>newL fz ys
   |_=>M.no else M.no
 |.orv a b,J=>M.bd (ev a J) λx=>M.bd (rd x) λd=>M.bd (M.opt (uV d)) λk=>if k=true then M.ret x else ev b J
 |.ins o i a,J=>M.bd (ev o J) λx=>M.bd (cH x) λ_=>M.bd (ev i J) λz=>M.bd (int z) λj=>M.bd (ev a J) λy=>M.bd (dat y) λd=>M.bd (cH x) λnx=>if 0<=j/\j<=nx.2.length/\nx.2.length<sizeLine then M.bd (putL nx.1 (nx.2.take j.toNat++d::nx.2.drop j.toNat)) λ_=>M.ret (.d .non) else M.no
 |.no,_=>M.no
noncomputable def lM:Wk->Vs->M (Src×Nat)
 |.seq e,J=>M.bd (ev e J) src
 |.rg a b,J=>M.bd (ev a J) λx=>M.bd (ev b J) λy=>M.bd (int x) λi=>M.bd (int y) λj=>if eZ i&&eZ j then M.ret (.fix (iV i j),(iV i j).length) else M.no
 |.zip a b,J=>M.bd (ev a J) λx=>M.bd (ev b J) λy=>M.bd (nP x) λxs=>M.bd (nP y) λys=>M.ret (.fix (List.zipWith (λp q=>.tup [p,q]) xs ys),(List.zipWith (λ(p q:D)=>D.tup [p,q]) xs ys).length)
 |.enum a,J=>M.bd (ev a J) mO
 |.rrg a,J=>M.bd (ev a J) λx=>M.bd (int x) λi=>if eZ i then M.ret (.fix (iV 0 i).reverse,(iV 0 i).length) else M.no
noncomputable def uW:Eo->Vs->M (Option Int)
 |.no,_=>M.ret none
 |.yes a,J=>M.bd (ev a J) λx=>M.bd (int x) λi=>M.ret (some i)
noncomputable def p7:Eo->Vs->M Bool
 |.no,_=>M.ret true
 |.yes a,J=>M.bd (ev a J) bool
noncomputable def evs:Es->Vs->M (List Xv)
 |.nil,_=>M.ret []
 |.cons a r,J=>M.bd (ev a J) λx=>M.bd (evs r J) λxs=>M.ret (x::xs)
end
end
inductive Out where
 |nx (J:Vs)|rt (x:Xv)|bk (J:Vs)|ct (J:Vs)|er (c:Nat) (fs:List D) (J:Vs)
noncomputable abbrev MS:=S->Option (Out×S)
noncomputable def ofM{α:Type}(m:M α)(J:Vs)(k:α->MS):MS:=λs=>match m s with
 |some (.ok a,s')=>k a s'
 |some (.er c fs,s')=>some (.er c fs J,s')
 |none=>none
noncomputable def b_(m:MS)(k:Vs->MS):MS:=λs=>match m s with
 |some (.nx J,s')=>k J s'
 |r=>r
section
variable (aq:Nat->Nat->Bool)
noncomputable def store(aj:Bool)(F:Fn)(t:Tg)(x:Xv)(J:Vs):MS:=match t with
 |.nm i=>λs=>some (.nx (J.set i (some x)),s)
 |.tp is=>if aj=true then ofM (M.bd (dat x) λd=>M.opt ((jU d).bind λds=>gq is (ds.map .d) J)) J (λJ' s=>some (.nx J',s)) else λ_=>none
 |.aq o i=>ofM (M.bd (dat x) λd=>M.bd (ev aq aj F o J) λy=>M.bd (ev aq aj F i J) λz=>M.bd (int z) λj=>M.bd (cH y) λnx=>
   match L2.pP nx.2.length j with
   |some q=>putL nx.1 (nx.2.set q d)
   |none=>M.no) J (λ_ s=>some (.nx J,s))
noncomputable def nQ(c:Vs->M Bool)(b:Vs->MS):Nat->Vs->MS
 |0,_=>λ_=>none
 |k+1,J=>ofM (c J) J λok=>if ok=true then λs=>match b J s with
   |some (.nx J',s')=>nQ c b k J' s'
   |some (.ct J',s')=>nQ c b k J' s'
   |some (.bk J',s')=>some (.nx J',s')
   |r=>r
  else λs=>some (.nx J,s)
noncomputable def dh(c:Src)(b:D->Vs->MS):Nat->Nat->Vs->MS
 |0,_,_=>λ_=>none
 |k+1,i,J=>λs=>match c.at i s with
  |none=>none
  |some none=>some (.nx J,s)
  |some (some d)=>match b d J s with
   |some (.nx J',s')=>dh c b k (i+1) J' s'
   |some (.ct J',s')=>dh c b k (i+1) J' s'
   |some (.bk J',s')=>some (.nx J',s')
   |r=>r
noncomputable def goes(i:Nat):Out->Out
 |.nx J=>.nx (J.set i none)
 |.bk J=>.bk (J.set i none)
 |.ct J=>.ct (J.set i none)
 |r=>r
noncomputable def Fx:Nat:=1000000000000
mutual
noncomputable def ex(aj:Bool)(F:Bool->Fn):St->Vs->MS
 |.pass,J=>λs=>some (.nx J,s)
 |.ex e,J=>ofM (ev aq aj (F aj) e J) J λ_ s=>some (.nx J,s)
 |.asg t e,J=>ofM (ev aq aj (F aj) e J) J λx=>store aq aj (F aj) t x J
 |.par i j a b,J=>if aj=true then ofM (M.bd (ev aq aj (F aj) a J) λx=>M.bd (ev aq aj (F aj) b J) λy=>M.ret (x,y)) J λxy s=>some (.nx ((J.set i (some xy.1)).set j (some xy.2)),s) else λ_=>none
 |.aug i e,J=>ofM (M.bd (M.opt (J[i]?.join)) λx=>M.bd (ev aq aj (F aj) e J) λy=>M.bd (int x) λp=>M.bd (int y) λq=>M.ret (p+q)) J λr s=>some (.nx (J.set i (some (.d (.int r)))),s)
 |.ret e,J=>ofM (ev aq aj (F aj) e J) J λx s=>some (.rt x,s)
 |.rise c kp xs,J=>if aj=true then ofM (M.bd (evs aq aj (F aj) xs J) bW) J λds s=>some (.er c (if kp=true then ds else []) J,s) else λ_=>none
 |.iff c t e,J=>ofM (M.bd (ev aq aj (F aj) c J) bool) J λb=>if b=true then exs aj F t J else exs aj F e J
 |.wh c b,J=>nQ (λJ=>M.bd (ev aq aj (F aj) c J) bool) (λJ=>exs aj F b J) Fx J
 |.fr t w b,J=>if aj=true then ofM (lM aq aj (F aj) w J) J λcn=>dh cn.1 (λd J=>b_ (store aq aj (F aj) t (.d d) J) λJ'=>exs aj F b J') (cn.2+1) 0 J else λ_=>none
 |.Ou b d i h,J=>if aj=true then λs=>match exs aj F b J s with
   |some (.er c fs J',s')=>if aq c d=true then (match exs false F h (J'.set i (some (.d (.exc c fs)))) s' with
    |some (r,s'')=>(match r with
     |.er _ _ _=>none
     |r=>some (goes i r,s''))
    |none=>none) else none
   |r=>r
  else λ_=>none
 |.dput d k v,J=>ofM (M.bd (ev aq aj (F aj) v J) λz=>M.bd (dat z) λw=>M.bd (ev aq aj (F aj) d J) λy=>M.bd (ev aq aj (F aj) k J) λx=>M.bd (key x) λkx=>M.bd (eY y) λnk=>if nk.2.length<sizeLine then putD nk.1 (iU kx w nk.2) else M.no) J (λ_ s=>some (.nx J,s))
 |.no,_=>λ_=>none
noncomputable def exs(aj:Bool)(F:Bool->Fn):bM->Vs->MS
 |.nil,J=>λs=>some (.nx J,s)
 |.cons a r,J=>b_ (ex aj F a J) λJ'=>exs aj F r J'
end
structure Df where
 many:Nat
 gM:Nat
 body:bM
noncomputable def call(T:Nat->Option Df):Nat->Bool->Fn
 |0,_,_,_=>M.no
 |k+1,aj,f,xs=>match T f with
  |none=>M.no
  |some d=>if xs.length=d.gM then λs=>match exs aq aj (λc=>call T k c) d.body (xs.map some++List.replicate (d.many-d.gM) none) s with
    |some (.nx _,s')=>some (.ok (.d .non),s')
    |some (.rt v,s')=>some (.ok v,s')
    |some (.er c fs _,s')=>some (.er c fs,s')
    |_=>none
   else M.no
end
end Mi
namespace Mi
open PySem L2
structure Ph where
 z:Addr->Prop
 l:List Addr
structure Cl where
 a:Nat->Addr
 f:Nat->List Str
 b:Nat->Addr
 g:Nat->List Str
section
variable (K:W.Frag)(cA:Cl)
def KT(a:Addr)(vs:List V):Prop:=fP K (λ_=>none) a vs
def KL(a:Addr)(vs:List V):Prop:=cL K (λ_=>none) a vs
def TupAt(U:Ph)(H:Hp)(a:Addr)(vs:List V):Prop:=(Rd H a (.tup vs)/\¬U.z a)\/KT K a vs
def LstAt(U:Ph)(H:Hp)(a:Addr)(vs:List V):Prop:=(Rd H a (.lst vs)/\¬U.z a)\/KL K a vs
def ExcAt(U:Ph)(H:Hp)(a:Addr)(c:Nat)(vs:List V):Prop:=¬U.z a/\((cA.f c=[]/\vs=[]/\H a=some (uP a (cA.a c) none))\/∃dx,H a=some (uP a (cA.a c) (some dx))/\¬U.z dx/\H dx=some (.xd ((cA.f c).zip vs))/\(cA.f c).length=vs.length)
def nR(U:Ph)(H:Hp)(a:Addr)(c:Nat)(vs:List V):Prop:=¬U.z a/\∃dx,H a=some (.ins (cA.b c) dx ((cA.g c).zip vs))/\(cA.g c).length=vs.length
mutual
inductive Rep (U:Ph) (H:Hp):D->V->Prop where
 |non:Rep U H .non .non
 |bl (b:Bool):Rep U H (.bl b) (.bl b)
 |int (i:Int):Rep U H (.int i) (.int i)
 |str (x:Str):Rep U H (.str x) (.str x)
 |tup {a:Addr} {xs:List D} {vs:List V} (h:TupAt K U H a vs) (r:aB U H xs vs):Rep U H (.tup xs) (.ref a)
 |fl {a:Addr} {xs:List D} {vs:List V} (h:LstAt K U H a vs) (r:aB U H xs vs):Rep U H (.fl xs) (.ref a)
 |fd {a:Addr} {k:Str} {i:Int} (h:H a=some (.dK [(.inr k,.int i)])) (n:¬U.z a):Rep U H (.fd [.str k] [.int i]) (.ref a)
 |exc {a:Addr} {c:Nat} {xs:List D} {vs:List V} (h:ExcAt cA U H a c vs) (r:aB U H xs vs):Rep U H (.exc c xs) (.ref a)
 |ob {a:Addr} {c:Nat} {xs:List D} {vs:List V} (h:nR cA U H a c vs) (r:aB U H xs vs):Rep U H (.ob c xs) (.ref a)
 |any (a:Addr):Rep U H .any (.ref a)
inductive aB (U:Ph) (H:Hp):List D->List V->Prop where
 |nil:aB U H [] []
 |cons {d:D} {v:V} {ds:List D} {vs:List V} (h:Rep U H d v) (r:aB U H ds vs):aB U H (d::ds) (v::vs)
end
inductive aV (U:Ph) (H:Hp):Xv->V->Prop where
 |d {x:D} {v:V} (h:Rep K cA U H x v):aV U H (.d x) v
 |l {n:Nat} {a:Addr} (h:U.l[n]?=some a):aV U H (.l n) (.ref a)
inductive aO (U:Ph) (H:Hp):List Xv->List V->Prop where
 |nil:aO U H [] []
 |cons {d:Xv} {v:V} {ds:List Xv} {vs:List V} (h:aV K cA U H d v) (r:aO U H ds vs):aO U H (d::ds) (v::vs)
noncomputable def O6:Kx->Int
 |.non=>reduceHash 0xFCA86420
 |.int i=>hashInt i
 |.row is=>reduceHash (Builtin.Tuple.tupleHashOf (is.map hashInt))
noncomputable def oY(k:List Kx):Int:=reduceHash (Builtin.Tuple.tupleHashOf (k.map O6))
noncomputable def p8:Kx->D
 |.non=>.non
 |.int i=>.int i
 |.row is=>.tup (is.map .int)
noncomputable def iu(k:List Kx):D:=.tup (k.map p8)
noncomputable abbrev lD:=List (List Kx×Addr×Value)
noncomputable def rE(a:Addr)(xs:lD):HO:=.ext λh=>(a==sysModules)=false/\xs.length<=sizeLine/\∃o es ep,h.get? a=some o/\o.ExactDict/\o.data=.dict es ep/\es.toList=xs.map (λx=>⟨oY x.1,.ref x.2.1,x.2.2⟩)/\(xs.map (·.1)).Nodup
inductive iC (U:Ph) (H:Hp):gY->lD->Prop where
 |nil:iC U H [] []
 |cons {k:List Kx} {d:D} {ka:Addr} {u:Value} {v:V} {r:gY} {xs:lD} (hk:Rep K cA U H (iu k) (.ref ka)) (hu:RelV v u) (hv:Rep K cA U H d v) (q:iC U H r xs):iC U H ((k,d)::r) ((k,ka,u)::xs)
noncomputable def jA(U:Ph)(H:Hp)(a:Addr):SO->Prop
 |.lst xs=>∃vs,H a=some (.lst vs)/\aB K cA U H xs vs
 |.dct kvs=>∃xs,H a=some (rE a xs)/\iC K cA U H kvs xs
structure aF(U:Ph)(H:Hp)(s:S):Prop where
 len:U.l.length=s.length
 obj:∀(n:Nat) o a,s[n]?=some o->U.l[n]?=some a->jA K cA U H a o
 uniq:U.l.Nodup
 lz:∀a∈U.l,U.z a
 zt:∀a,U.z a->∃o,H a=some o
structure Ext(U:Ph)(H:Hp)(U':Ph)(H':Hp):Prop where
 more:∃r,U'.l=U.l++r/\∀b∈r,H b=none
 qK:∀a,U.z a->U'.z a
 lE:∀a,U'.z a->U.z a\/H a=none
 frame:∀a o,H a=some o->a∉U.l->H' a=some o
 stay:∀a o,H a=some o->∃o',H' a=some o'
def aX(U:Ph)(H:Hp)(Z:L2.St)(J:Vs):Prop:=Z.length=J.length/\∀(i:Nat) (x:Xv),J[i]?=some (some x)->∃v,Z[i]?=some (some v)/\aV K cA U H x v
end
section
variable {K:W.Frag}{cA:Cl}{U U' O7:Ph}{H H' Fy:Hp}{s:S}{Z:L2.St}{J:Vs}
theorem Ext.refl:Ext U H U H:=⟨⟨[],by simp,by simp⟩,λ_ h=>h,λ_ h=>.inl h,λ_ _ h _=>h,λ_ o h=>⟨o,h⟩⟩
theorem Ext.jV(x:Ext U H U' H'){a:Addr}(h:H' a=none):H a=none:=by
 cases e:H a with
 |none=>rfl
 |some o=>obtain⟨o',q⟩:=x.stay a o e;rw[h] at q;cases q
theorem Ext.trans(x:Ext U H U' H')(y:Ext U' H' O7 Fy):Ext U H O7 Fy:=by
 obtain⟨r,e,hr⟩:=x.more;obtain⟨r',e',qb⟩:=y.more;refine⟨⟨r++r',by rw[e',e,Ih],λb hb=>?_⟩,λa h=>y.qK a (x.qK a h),λa h=>?_,λa o h n=>y.frame a o (x.frame a o h n) ?_,λa o h=>?_⟩
 ·rcases nj.mp hb with z|z
  ·exact hr b z
  ·exact x.jV (qb b z)
 ·rcases y.lE a h with z|z
  ·exact x.lE a z
  ·exact .inr (x.jV z)
 ·rw[e];intro z;rcases nj.mp z with z|z
  ·exact n z
  ·rw[hr a z] at h;cases h
 ·obtain⟨o',q⟩:=x.stay a o h;exact y.stay a o' q
theorem Ext.get(x:Ext U H U' H'){n:Nat}{a:Addr}(h:U.l[n]?=some a):U'.l[n]?=some a:=by
 obtain⟨r,e,_⟩:=x.more;rw[e,m9 (eO.mp h).1];exact h
theorem Ext.out(x:Ext U H U' H')(hz:∀a∈U.l,U.z a){a:Addr}{o:HO}(h:H a=some o)(n:¬U.z a):H' a=some o/\¬U'.z a:=
 ⟨x.frame a o h λz=>n (hz a z),λz=>by
  rcases x.lE a z with y|y
  ·exact n y
  ·rw[h] at y;cases y⟩
theorem TupAt.mono(x:Ext U H U' H')(hz:∀a∈U.l,U.z a){a:Addr}{vs:List V}(h:TupAt K U H a vs):TupAt K U' H' a vs:=by
 rcases h with ⟨h|⟨o,h⟩,n⟩|h
 ·obtain⟨p,q⟩:=x.out hz h n;exact .inl ⟨.inl p,q⟩
 ·obtain⟨p,q⟩:=x.out hz h n;exact .inl ⟨.inr ⟨o,p⟩,q⟩
 ·exact .inr h
theorem LstAt.mono(x:Ext U H U' H')(hz:∀a∈U.l,U.z a){a:Addr}{vs:List V}(h:LstAt K U H a vs):LstAt K U' H' a vs:=by
 rcases h with ⟨h|⟨o,h⟩,n⟩|h
 ·obtain⟨p,q⟩:=x.out hz h n;exact .inl ⟨.inl p,q⟩
 ·obtain⟨p,q⟩:=x.out hz h n;exact .inl ⟨.inr ⟨o,p⟩,q⟩
 ·exact .inr h
theorem ExcAt.mono(x:Ext U H U' H')(hz:∀a∈U.l,U.z a){a:Addr}{c:Nat}{vs:List V}(h:ExcAt cA U H a c vs):ExcAt cA U' H' a c vs:=by
 obtain⟨n,⟨e1,e2,h⟩|⟨dx,h,n2,h2,h3⟩⟩:=h
 ·obtain⟨p,q⟩:=x.out hz h n;exact⟨q,.inl ⟨e1,e2,p⟩⟩
 ·obtain⟨p,q⟩:=x.out hz h n;obtain⟨p2,q2⟩:=x.out hz h2 n2;exact⟨q,.inr ⟨dx,p,q2,p2,h3⟩⟩
theorem nR.mono(x:Ext U H U' H')(hz:∀a∈U.l,U.z a){a:Addr}{c:Nat}{vs:List V}(h:nR cA U H a c vs):nR cA U' H' a c vs:=by
 obtain⟨n,dx,h,h3⟩:=h;obtain⟨p,q⟩:=x.out hz h n;exact⟨q,dx,p,h3⟩
theorem Rep.mono(x:Ext U H U' H')(hz:∀a∈U.l,U.z a){d:D}{v:V}(h:Rep K cA U H d v):Rep K cA U' H' d v:=
 Rep.rec (motive_1:=λd v _=>Rep K cA U' H' d v) (motive_2:=λd v _=>aB K cA U' H' d v) .non .bl .int .str (λh _ i=>.tup (h.mono x hz) i) (λh _ i=>.fl (h.mono x hz) i) (λh n=>.fd (x.out hz h n).1 (x.out hz h n).2) (λh _ i=>.exc (h.mono x hz) i) (λh _ i=>.ob (h.mono x hz) i) .any .nil (λ_ _ i j=>.cons i j) h
theorem aB.mono(x:Ext U H U' H')(hz:∀a∈U.l,U.z a){d:List D}{v:List V}(h:aB K cA U H d v):aB K cA U' H' d v:=
 aB.rec (motive_1:=λd v _=>Rep K cA U' H' d v) (motive_2:=λd v _=>aB K cA U' H' d v) .non .bl .int .str (λh _ i=>.tup (h.mono x hz) i) (λh _ i=>.fl (h.mono x hz) i) (λh n=>.fd (x.out hz h n).1 (x.out hz h n).2) (λh _ i=>.exc (h.mono x hz) i) (λh _ i=>.ob (h.mono x hz) i) .any .nil (λ_ _ i j=>.cons i j) h
theorem aB.map(m:∀d v,Rep K cA U H d v->Rep K cA U' H' d v):∀{d:List D} {v:List V},aB K cA U H d v->aB K cA U' H' d v
 |_,_,.nil=>.nil
 |_,_,.cons h r=>.cons (m _ _ h) (aB.map m r)
theorem iC.map(m:∀d v,Rep K cA U H d v->Rep K cA U' H' d v){d:gY}{v:lD}(h:iC K cA U H d v):iC K cA U' H' d v:=by
 induction h with
 |nil=>exact .nil
 |cons a b c _ ih=>exact .cons (m _ _ a) b (m _ _ c) ih
theorem jA.map{a:Addr}{o:SO}(h:jA K cA U H a o)(e:∀u,H a=some u->H' a=some u)(m:∀d v,Rep K cA U H d v->Rep K cA U' H' d v):jA K cA U' H' a o:=by
 cases o with
 |lst xs=>obtain⟨vs,q,r⟩:=h;exact⟨vs,e _ q,r.map m⟩
 |dct xs=>obtain⟨vs,q,r⟩:=h;exact⟨vs,e _ q,r.map m⟩
theorem aV.mono(x:Ext U H U' H')(hz:∀a∈U.l,U.z a){d:Xv}{v:V}(h:aV K cA U H d v):aV K cA U' H' d v:=by
 cases h with
 |d h=>exact .d (h.mono x hz)
 |l h=>exact .l (x.get h)
theorem aO.mono(x:Ext U H U' H')(hz:∀a∈U.l,U.z a):∀{ds:List Xv} {vs:List V},aO K cA U H ds vs->aO K cA U' H' ds vs
 |_,_,.nil=>.nil
 |_,_,.cons h r=>.cons (h.mono x hz) (aO.mono x hz r)
theorem aX.mono(x:Ext U H U' H')(hz:∀a∈U.l,U.z a)(h:aX K cA U H Z J):aX K cA U' H' Z J:=⟨h.1,λi d e=>let ⟨v,a,b⟩:=h.2 i d e;⟨v,a,b.mono x hz⟩⟩
theorem aB.len:∀{ds:List D} {vs:List V},aB K cA U H ds vs->ds.length=vs.length
 |_,_,.nil=>rfl
 |_,_,.cons _ r=>by rw[gD,gD,aB.len r]
theorem aO.len:∀{ds:List Xv} {vs:List V},aO K cA U H ds vs->ds.length=vs.length
 |_,_,.nil=>rfl
 |_,_,.cons _ r=>by rw[gD,gD,aO.len r]
theorem aB.get:∀{ds:List D} {vs:List V} {i:Nat} {d:D},aB K cA U H ds vs->ds[i]?=some d->∃v,vs[i]?=some v/\Rep K cA U H d v
 |_,_,_,_,.nil,e=>by simp at e
 |_,_,0,_,.cons h _,e=>by simp at e;subst e;exact⟨_,rfl,h⟩
 |_,_,i+1,d,.cons _ r,e=>by
  obtain⟨v,a,b⟩:=aB.get (i:=i) (d:=d) r (by simpa using e);exact⟨v,by simpa using a,b⟩
theorem aO.get:∀{ds:List Xv} {vs:List V} {i:Nat} {d:Xv},aO K cA U H ds vs->ds[i]?=some d->∃v,vs[i]?=some v/\aV K cA U H d v
 |_,_,_,_,.nil,e=>by simp at e
 |_,_,0,_,.cons h _,e=>by simp at e;subst e;exact⟨_,rfl,h⟩
 |_,_,i+1,d,.cons _ r,e=>by
  obtain⟨v,a,b⟩:=aO.get (i:=i) (d:=d) r (by simpa using e);exact⟨v,by simpa using a,b⟩
theorem aB.none:∀{ds:List D} {vs:List V} {i:Nat},aB K cA U H ds vs->ds[i]?=none->vs[i]?=none:=λ{ds vs i} r e=>by
 have:=r.len;have h2:ds.length<=i:=oh.mp e;exact oh.mpr (by lia)
theorem aB.app:∀{ds es:List D} {vs us:List V},aB K cA U H ds vs->aB K cA U H es us->aB K cA U H (ds++es) (vs++us)
 |_,_,_,_,.nil,s=>s
 |_,_,_,_,.cons h r,s=>.cons h (aB.app r s)
theorem aB.take:∀{ds:List D} {vs:List V} (n:Nat),aB K cA U H ds vs->aB K cA U H (ds.take n) (vs.take n)
 |_,_,0,_=>by simp;exact .nil
 |_,_,n+1,.nil=>by simp;exact .nil
 |_,_,n+1,.cons h r=>by simp only[List.take_succ_cons];exact .cons h (aB.take n r)
theorem aB.drop:∀{ds:List D} {vs:List V} (n:Nat),aB K cA U H ds vs->aB K cA U H (ds.drop n) (vs.drop n)
 |_,_,0,r=>r
 |_,_,n+1,.nil=>by simp;exact .nil
 |_,_,n+1,.cons _ r=>by simp only[List.drop_succ_cons];exact aB.drop n r
theorem aB.set{d:D}{v:V}(h:Rep K cA U H d v):∀{ds:List D} {vs:List V} (i:Nat),aB K cA U H ds vs->aB K cA U H (ds.set i d) (vs.set i v)
 |_,_,_,.nil=>.nil
 |_,_,0,.cons _ r=>.cons h r
 |_,_,i+1,.cons q r=>.cons q (aB.set h i r)
theorem aB.cut{ds:List D}{vs:List V}{l h:Option Int}(r:aB K cA U H ds vs):aB K cA U H (Mi.cut ds l h) (kZ vs l h):=by
 unfold Mi.cut kZ;rw[<-r.len];exact(r.drop _).take _
def bf(H H':Hp):Prop:=∀a o,H a=some o->H' a=some o
theorem bf.refl:bf H H:=λ_ _ h=>h
theorem bf.trans(x:bf H H')(y:bf H' Fy):bf H Fy:=λa o h=>y a o (x a o h)
theorem bf.new{p:Addr}{o:HO}(hp:H p=none):bf H (upd H p o):=λa u h=>by rw[dO (Ao h hp)];exact h
theorem bf.ext(g:bf H H'):Ext U H U H':=⟨⟨[],by simp,by simp⟩,λ_ h=>h,λ_ h=>.inl h,λa o h _=>g a o h,λa o h=>⟨o,g a o h⟩⟩
theorem jA.grow{a:Addr}{o:SO}(g:bf H H')(hz:∀a∈U.l,U.z a)(h:jA K cA U H a o):jA K cA U H' a o:=h.map (g _) λ_ _ r=>r.mono g.ext hz
theorem aF.grow(g:bf H H')(h:aF K cA U H s):aF K cA U H' s:=
 ⟨h.len,λn o a e1 e2=>(h.obj n o a e1 e2).grow g h.lz,h.uniq,h.lz,λa z=>let ⟨o,e⟩:=h.zt a z;⟨o,g _ _ e⟩⟩
theorem aF.nz(h:aF K cA U H s){p:Addr}(hp:H p=none):¬U.z p:=λz=>by obtain⟨o,e⟩:=h.zt p z;rw[hp] at e;cases e
noncomputable def Ph.add(U:Ph)(p:Addr):Ph:=⟨λa=>U.z a\/a=p,U.l++[p]⟩
theorem Ext.add{p:Addr}{o:HO}(hp:H p=none):Ext U H (U.add p) (upd H p o):=
 ⟨⟨[p],rfl,by simpa using hp⟩,λ_ h=>.inl h,λa h=>h.imp id λe=>by rw[e];exact hp,λa u h _=>bf.new hp a u h,λa u h=>⟨u,bf.new hp a u h⟩⟩
theorem aF.Fz{p:Addr}{so:SO}{ho:HO}(h:aF K cA U H s)(hp:H p=none)(hr:jA K cA (U.add p) (upd H p ho) p so):aF K cA (U.add p) (upd H p ho) (s++[so]):=by
 have pn:p∉U.l:=λz=>h.nz hp (h.lz p z);refine⟨by show (U.l++[p]).length=_;rw[mZ,mZ,h.len];rfl,λn o a e1 e2=>?_,?_,λa ha=>?_,λa ha=>?_⟩
 ·have e2:(U.l++[p])[n]?=some a:=e2;by_cases hn:n<s.length
  ·rw[m9 hn] at e1;rw[m9 (by rw[h.len];exact hn)] at e2;exact(h.obj n o a e1 e2).map (bf.new hp _) λ_ _ r=>r.mono (Ext.add hp) h.lz
  ·have hl:n=s.length:=by
    have z:=(eO.mp e1).1;rw[mZ] at z;simp at z
    lia
   subst hl;rw[n_ (bJ _)] at e1;rw[n_ (by rw[h.len];exact bJ _)] at e2;simp at e1;simp[h.len] at e2;subst e1 e2;exact hr
 ·show (U.l++[p]).Nodup;rw[Ii];refine⟨h.uniq,by simp,λa ha b hb e=>?_⟩;simp at hb;subst hb e;exact pn ha
 ·have ha:a∈U.l++[p]:=ha;rcases nj.mp ha with z|z
  ·exact .inl (h.lz a z)
  ·simp at z;exact .inr z
 ·rcases ha with z|z
  ·obtain⟨o,e⟩:=h.zt a z;exact⟨o,bf.new hp _ _ e⟩
  ·subst z;exact⟨_,jy⟩
theorem aF.add{p:Addr}{xs:List D}{vs:List V}(h:aF K cA U H s)(hp:H p=none)(r:aB K cA U H xs vs):aF K cA (U.add p) (upd H p (.lst vs)) (s++[.lst xs]):=h.Fz hp ⟨vs,jy,r.mono (Ext.add hp) h.lz⟩
theorem Ext.write{n:Nat}{p:Addr}{o:HO}(hp:U.l[n]?=some p)(hv:∃u,H p=some u):Ext U H U (upd H p o):=by
 have hm:p∈U.l:=fB hp;refine⟨⟨[],by simp,by simp⟩,λ_ h=>h,λ_ h=>.inl h,λa u h n=>by
  have ne:a≠p:=λe=>n (by rw[e];exact hm);rw[dO ne];exact h,λa u h=>?_⟩
 by_cases e:a=p
 ·subst e;exact⟨o,jy⟩
 ·exact⟨u,by rw[dO e];exact h⟩
theorem aF.rF{n:Nat}{p:Addr}{so:SO}{ho:HO}(h:aF K cA U H s)(hl:n<s.length)(hp:U.l[n]?=some p)(hr:jA K cA U (upd H p ho) p so):aF K cA U (upd H p ho) (s.set n so):=by
 have hv:=h.zt p (h.lz p (fB hp));have x:Ext U H U (upd H p ho):=Ext.write hp hv;refine⟨by rw[nq];exact h.len,λm o a e1 e2=>?_,h.uniq,h.lz,λa ha=>?_⟩
 ·by_cases hm:n=m
  ·subst hm;rw[vL hl] at e1;cases e1;rw[hp] at e2;cases e2;exact hr
  ·rw[qx hm] at e1;have ne:a≠p:=λy=>by
    subst y;exact hm ((Ls (eO.mp hp).1 h.uniq).mp (hp.trans e2.symm))
   exact(h.obj m o a e1 e2).map (λ_ q=>by rw[dO ne];exact q) λ_ _ r=>r.mono x h.lz
 ·obtain⟨o,e⟩:=h.zt a ha;obtain⟨o',e'⟩:=x.stay a o e;exact⟨o',e'⟩
theorem aF.write{n:Nat}{p:Addr}{xs ys:List D}{us:List V}(h:aF K cA U H s)(hn:s[n]?=some (.lst xs))(hp:U.l[n]?=some p)(r:aB K cA U H ys us):aF K cA U (upd H p (.lst us)) (s.set n (.lst ys)):=
 h.rF (eO.mp hn).1 hp ⟨us,jy,r.mono (Ext.write hp (h.zt p (h.lz p (fB hp)))) h.lz⟩
theorem aX.set{i:Nat}{d:Xv}{v:V}(hL:aX K cA U H Z J)(r:aV K cA U H d v):aX K cA U H (Z.set i (some v)) (J.set i (some d)):=by
 refine⟨by rw[nq,nq];exact hL.1,λj e h=>?_⟩;by_cases qF:i=j
 ·subst qF;by_cases hl:i<J.length
  ·rw[vL hl] at h;cases h;exact⟨v,by rw[vL (by rw[hL.1];exact hl)],r⟩
  ·rw[List.getElem?_eq_none (by rw[nq];lia)] at h;cases h
 ·rw[qx qF] at h;obtain⟨u,a,b⟩:=hL.2 j e h;exact⟨u,by rw[qx qF];exact a,b⟩
theorem TupAt.iY{a:Addr}{vs:List V}(h:TupAt K U H a vs):fP K H a vs:=by
 rcases h with ⟨h,_⟩|(h|h)
 ·exact .inl h
 ·rcases h with h|⟨o,h⟩<;>cases h
 ·exact .inr h
theorem LstAt.qL{a:Addr}{vs:List V}(h:LstAt K U H a vs):cL K H a vs:=by
 rcases h with ⟨h,_⟩|(h|h)
 ·exact .inl h
 ·rcases h with h|⟨o,h⟩<;>cases h
 ·exact .inr h
theorem TupAt.new{p:Addr}{vs:List V}(hz:¬U.z p):TupAt K U (upd H p (.tup vs)) p vs:=.inl ⟨.inl jy,hz⟩
theorem LstAt.new{p:Addr}{vs:List V}(hz:¬U.z p):LstAt K U (upd H p (.lst vs)) p vs:=.inl ⟨.inl jy,hz⟩
end
end Mi
namespace Mi
open PySem PySem.Spec PyProof.Rows L2
theorem un{α β γ:Type}{A B C:α->β->γ->Prop}{R:Prop}(h:∃a b c,A a b c/\B a b c/\C a b c)(f:∀a b c,A a b c->B a b c->C a b c->R):R:=by
 obtain⟨a,b,c,x,y,z⟩:=h;exact f a b c x y z
section
variable (K:W.Frag)(cA:Cl)
def Run{α:Type}(m:M α)(U:Ph)(H:Hp)(s:S)(P:α->S->Ph->Hp->Prop)(Ee:Nat->List D->S->Ph->Hp->Prop):Prop:=
 match m s with
 |some (.ok a,s')=>∀U' H',Ext U H U' H'->aF K cA U' H' s'->P a s' U' H'
 |some (.er c f,s')=>∀U' H',Ext U H U' H'->aF K cA U' H' s'->Ee c f s' U' H'
 |none=>False
def jt(U:Ph)(H:Hp)(c:Nat)(fs:List D)(dx:Option Addr):Prop:=
 (cA.f c=[]/\fs=[]/\dx=none)\/∃d vs,dx=some d/\¬U.z d/\H d=some (.xd ((cA.f c).zip vs))/\(cA.f c).length=vs.length/\aB K cA U H fs vs
noncomputable def eX(EX:XS)(Z:L2.St):Nat->List D->S->Ph->Hp->Prop:=λc fs _ U' H'=>∀dx,jt K cA U' H' c fs dx->EX Z (.ref (cA.a c)) dx H'
noncomputable def tE(EX:XS)(m:Vs->M Xv):TE:=λZ H Q=>∃U J s,aX K cA U H Z J/\aF K cA U H s/\Run K cA (m J) U H s (λd _ U' H'=>∀v,aV K cA U' H' d v->Q v H') (eX K cA EX Z)
noncomputable def O8(EX:XS)(m:Vs->M (List Xv)):TA:=λZ H Q=>∃U J s,aX K cA U H Z J/\aF K cA U H s/\Run K cA (m J) U H s (λd _ U' H'=>∀v,aO K cA U' H' d v->Q v H') (eX K cA EX Z)
noncomputable def tV(EX:XS)(m:Vs->M Bool):TT:=λZ H Q=>∃U J s,aX K cA U H Z J/\aF K cA U H s/\Run K cA (m J) U H s (λd _ U' H'=>Q d H') (eX K cA EX Z)
def Rv(U:Ph)(H:Hp)(d:D)(v:V):Prop:=match d with
 |.fl xs=>∃a vs,v=.ref a/\cL K H a vs/\aB K cA U H xs vs
 |d=>Rep K cA U H d v
inductive uX (U:Ph) (H:Hp):List D->List V->Prop where
 |nil:uX U H [] []
 |cons {d:D} {v:V} {ds:List D} {vs:List V} (h:Rv K cA U H d v) (r:uX U H ds vs):uX U H (d::ds) (v::vs)
def bG(U:Ph)(H:Hp)(o:Option Rz)(Q:VK):Prop:=match o with
 |none=>False
 |some (.dat d)=>∀H' v,bf H H'->Rep K cA U H' d v->Q v H'
 |some (.nw xs)=>∀p vs,H p=none->aB K cA U H xs vs->Q (.ref p) (upd H p (.lst vs))
structure Zt(U:Ph)(H:Hp):Prop where
 lz:∀a∈U.l,U.z a
 zt:∀a,U.z a->∃o,H a=some o
def bx(p:Pr)(r:List V->Hp->VK->Prop):Prop:=∀(U:Ph) (H:Hp) (ds:List D) (vs:List V) (Q:VK),Zt U H->uX K cA U H ds vs->bG K cA U H (prim p ds) Q->r vs H Q
end
section
variable {K:W.Frag}{cA:Cl}{U U':Ph}{H H':Hp}{s:S}{Z:L2.St}{J:Vs}{EX:XS}
theorem aF.zs(h:aF K cA U H s):Zt U H:=⟨h.lz,h.zt⟩
theorem Zt.nz(h:Zt U H)(hp:H p=none):¬U.z p:=λz=>by obtain⟨o,e⟩:=h.zt p z;rw[hp] at e;cases e
theorem Rep.rv{d:D}{v:V}(h:Rep K cA U H d v):Rv K cA U H d v:=by
 cases h with
 |fl h r=>exact⟨_,_,rfl,h.qL,r⟩
 |non=>exact .non
 |bl b=>exact .bl b
 |int b=>exact .int b
 |str b=>exact .str b
 |tup h r=>exact .tup h r
 |fd h n=>exact .fd h n
 |exc h r=>exact .exc h r
 |ob h r=>exact .ob h r
 |any v=>exact .any v
theorem Run.bd{α β:Type}{m:M α}{k:α->M β}{P:β->S->Ph->Hp->Prop}{Ee:Nat->List D->S->Ph->Hp->Prop}(h:Run K cA (M.bd m k) U H s P Ee):Run K cA m U H s (λa s1 U1 H1=>Ext U H U1 H1/\aF K cA U1 H1 s1/\Run K cA (k a) U1 H1 s1 P Ee) Ee:=by
 unfold Run M.bd at *;cases e:m s with
 |none=>rw[e] at h;exact h
 |some r=>
  obtain⟨r,s1⟩:=r;rw[e] at h;cases r with
  |er c f=>exact h
  |ok a=>
   intro U1 H1 x1 r1;refine⟨x1,r1,?_⟩;dsimp only at h ⊢;cases e2:k a s1 with
   |none=>rw[e2] at h;exact h
   |some q=>
    obtain⟨q,s2⟩:=q;rw[e2] at h;cases q with
    |ok b=>exact λU2 H2 x2 r2=>h U2 H2 (x1.trans x2) r2
    |er c f=>exact λU2 H2 x2 r2=>h U2 H2 (x1.trans x2) r2
theorem Run.imp{α:Type}{m:M α}{P P':α->S->Ph->Hp->Prop}{Ee:Nat->List D->S->Ph->Hp->Prop}(h:Run K cA m U H s P Ee)(f:∀a s' U' H',P a s' U' H'->P' a s' U' H'):Run K cA m U H s P' Ee:=by
 unfold Run at *;split at h
 ·exact λU' H' x r=>f _ _ _ _ (h U' H' x r)
 ·exact h
 ·exact h
theorem Run.ext(x:Ext U H U' H')(h:Run K cA m U H s P Ee):Run K cA m U' H' s P Ee:=by
 unfold Run at *;split at h
 ·exact λU2 H2 y r=>h U2 H2 (x.trans y) r
 ·exact λU2 H2 y r=>h U2 H2 (x.trans y) r
 ·exact h.elim
theorem Run.bC{α:Type}{a:α}{P:α->S->Ph->Hp->Prop}{Ee:Nat->List D->S->Ph->Hp->Prop}(r:aF K cA U H s)(h:Run K cA (M.ret a) U H s P Ee):P a s U H:=h U H Ext.refl r
theorem Run.opt{α:Type}{o:Option α}{P:α->S->Ph->Hp->Prop}{Ee:Nat->List D->S->Ph->Hp->Prop}(r:aF K cA U H s)(h:Run K cA (M.opt o) U H s P Ee):∃a,o=some a/\P a s U H:=by
 cases o with
 |none=>exact h.elim
 |some a=>exact⟨a,rfl,h U H Ext.refl r⟩
theorem Jy(h:Run K cA (M.bd (M.opt o) k) U H s P Ee):∃a,o=some a/\Run K cA (k a) U H s P Ee:=by
 cases o with
 |none=>exact h.elim
 |some a=>exact⟨a,rfl,h⟩
theorem FJ{β:Type}{x:Xv}{v:V}{k:Bool->M β}{P:β->S->Ph->Hp->Prop}{Ee:Nat->List D->S->Ph->Hp->Prop}(r:aV K cA U H x v)(h:Run K cA (M.bd (bool x) k) U H s P Ee):∃b,x=.d (.bl b)/\v=.bl b/\Run K cA (k b) U H s P Ee:=by
 cases r with
 |l _=>exact h.elim
 |d r=>cases r with
  |bl b=>exact⟨b,rfl,rfl,h⟩
  |_=>exact h.elim
theorem FN(r:aV K cA U H x v)(h:Run K cA (M.bd (int x) k) U H s P Ee):∃b,x=.d (.int b)/\v=.int b/\Run K cA (k b) U H s P Ee:=by
 cases r with
 |l _=>exact h.elim
 |d r=>cases r with
  |int b=>exact⟨b,rfl,rfl,h⟩
  |_=>exact h.elim
theorem Jz(r:aV K cA U H x v)(h:Run K cA (M.bd (dat x) k) U H s P Ee):∃d,x=.d d/\Rep K cA U H d v/\Run K cA (k d) U H s P Ee:=by
 cases r with
 |l _=>exact h.elim
 |d r=>exact⟨_,rfl,r,h⟩
theorem O9:∀{xs:List Xv} {vs:List V} {k:List D->M β} {P:β->S->Ph->Hp->Prop} {Ee:Nat->List D->S->Ph->Hp->Prop},aO K cA U H xs vs->Run K cA (M.bd (bW xs) k) U H s P Ee->∃ds,xs=ds.map .d/\aB K cA U H ds vs/\Run K cA (k ds) U H s P Ee:=by
 intro xs
 induction xs with
 |nil=>intro vs k P Ee r h;cases r;exact⟨[],rfl,.nil,h⟩
 |cons x xs ih=>
  intro vs k P Ee r h;cases r with
  |cons a r=>
   cases a with
   |l _=>exact h.elim
   |@d y v a=>
    have h2:Run K cA (M.bd (bW xs) λds=>k (y::ds)) U H s P Ee:=by
     unfold Run M.bd bW dat at h;unfold Run M.bd;simp only[M.bd,M.ret] at h;cases e:bW xs s with
     |none=>simp only[e] at h
     |some q=>
      obtain⟨q,s1⟩:=q;simp only[e] at h;cases q with
      |ok ds=>exact h
      |er c f=>exact h
    obtain⟨ds,e,rs,h3⟩:=ih r h2;exact⟨y::ds,by rw[e];rfl,.cons a rs,h3⟩
theorem JD(hS:aF K cA U H s)(r:aV K cA U H x v)(h:Run K cA (M.bd (rd x) k) U H s P Ee):∃d,Rv K cA U H d v/\Run K cA (k d) U H s P Ee:=by
 cases r with
 |d r=>exact⟨_,r.rv,h⟩
 |@l n a hl=>
  unfold Run M.bd rd at h;dsimp only at h;cases e:s[n]? with
  |none=>rw[e] at h;exact h.elim
  |some o=>
   rw[e] at h;cases o with
   |lst xs=>
    obtain⟨vs,q1,q2⟩:=hS.obj n _ _ e hl;exact⟨.fl xs,⟨a,vs,rfl,cL.of q1,q2⟩,h⟩
   |_=>exact h.elim
theorem jf{α β γ:Type}(m:M α)(f:α->M β)(g:β->M γ):M.bd (M.bd m f) g=M.bd m λx=>M.bd (f x) g:=by
 funext s
 unfold M.bd;cases m s with
 |none=>rfl
 |some r=>
  obtain⟨r,s1⟩:=r;cases r<;>rfl
theorem tW{β:Type}:∀{xs:List Xv} {vs:List V} {k:List D->M β} {P:β->S->Ph->Hp->Prop} {Ee:Nat->List D->S->Ph->Hp->Prop},aF K cA U H s->aO K cA U H xs vs->Run K cA (M.bd (gj xs) k) U H s P Ee->∃ds,uX K cA U H ds vs/\Run K cA (k ds) U H s P Ee:=by
 intro xs
 induction xs with
 |nil=>intro vs k P Ee hS r h;cases r;exact⟨[],.nil,h⟩
 |cons x xs ih=>
  intro vs k P Ee hS r h;cases r with
  |cons a r=>
   have h2:Run K cA (M.bd (rd x) λd=>M.bd (gj xs) λds=>k (d::ds)) U H s P Ee:=by
    have e:M.bd (gj (x::xs)) k=M.bd (rd x) λd=>M.bd (gj xs) λds=>k (d::ds):=by
     show M.bd (M.bd (rd x) λd=>M.bd (gj xs) λds=>M.ret (d::ds)) k=_;rw[jf]
     congr 1
     funext d
     rw[jf];rfl
    rw[e] at h;exact h
   obtain⟨d,rd,h3⟩:=JD hS a h2;obtain⟨ds,rs,h4⟩:=ih hS r h3;exact⟨d::ds,.cons rd rs,h4⟩
theorem rG{fz:Bool}{o:Option Rz}{Q:VK}{Ee:Nat->List D->S->Ph->Hp->Prop}(hS:aF K cA U H s)(h:Run K cA (bV fz o) U H s (λx _ U' H'=>∀v,aV K cA U' H' x v->Q v H') Ee):bG K cA U H o Q:=by
 cases o with
 |none=>exact h.elim
 |some z=>
  cases z with
  |dat d=>exact λH' v g r=>h U H' g.ext (hS.grow g) v (.d r)
  |nw xs=>
   intro p vs hp r;cases fz with
   |true=>exact h U _ (bf.new hp).ext (hS.grow (bf.new hp)) _ (.d (.fl (LstAt.new (hS.nz hp)) (r.mono (bf.new hp).ext hS.lz)))
   |false=>exact h (U.add p) _ (Ext.add hp) (hS.add hp r) _ (.l (by show (U.l++[p])[s.length]?=_;rw[<-hS.len];simp))
theorem zhj{fz:Bool}{xs:List D}{Q:VK}{Ee:Nat->List D->S->Ph->Hp->Prop}(hS:aF K cA U H s)(h:Run K cA (newL fz xs) U H s (λx _ U' H'=>∀v,aV K cA U' H' x v->Q v H') Ee):∀p vs,H p=none->aB K cA U H xs vs->Q (.ref p) (upd H p (.lst vs)):=
 rG (o:=some (.nw xs)) hS h
theorem aW{β:Type}{ma:Vs->M Xv}{k:Xv->M β}{P:β->S->Ph->Hp->Prop}(hL:aX K cA U H Z J)(hS:aF K cA U H s)(h:Run K cA (M.bd (ma J) k) U H s P (eX K cA EX Z)){Q:VK}
  (f:∀x H1 U1 d s1,Ext U H U1 H1->aX K cA U1 H1 Z J->aF K cA U1 H1 s1->aV K cA U1 H1 d x->Run K cA (k d) U1 H1 s1 P (eX K cA EX Z)->Q x H1):tE K cA EX ma Z H Q:=
 ⟨U,J,s,hL,hS,h.bd.imp λd s1 U1 H1 ⟨x1,r1,h1⟩ v rv=>f v H1 U1 d s1 x1 (hL.mono x1 hS.lz) r1 rv h1⟩
theorem nU{β:Type}{ma:Vs->M (List Xv)}{k:List Xv->M β}{P:β->S->Ph->Hp->Prop}(hL:aX K cA U H Z J)(hS:aF K cA U H s)(h:Run K cA (M.bd (ma J) k) U H s P (eX K cA EX Z)){Q:List V->Hp->Prop}
  (f:∀x H1 U1 d s1,Ext U H U1 H1->aX K cA U1 H1 Z J->aF K cA U1 H1 s1->aO K cA U1 H1 d x->Run K cA (k d) U1 H1 s1 P (eX K cA EX Z)->Q x H1):O8 K cA EX ma Z H Q:=
 ⟨U,J,s,hL,hS,h.bd.imp λd s1 U1 H1 ⟨x1,r1,h1⟩ v rv=>f v H1 U1 d s1 x1 (hL.mono x1 hS.lz) r1 rv h1⟩
theorem uY(hL:aX K cA U H Z J)(hS:aF K cA U H s)(h:Run K cA (M.bd (ma J) k) U H s P (eX K cA EX Z))
  (f:∀b H1 U1 s1,Ext U H U1 H1->aX K cA U1 H1 Z J->aF K cA U1 H1 s1->Run K cA (k b) U1 H1 s1 P (eX K cA EX Z)->Q b H1):tV K cA EX ma Z H Q:=
 ⟨U,J,s,hL,hS,h.bd.imp λd s1 U1 H1 ⟨x1,r1,h1⟩=>f d H1 U1 s1 x1 (hL.mono x1 hS.lz) r1 h1⟩
end
section
variable (X:Cx)(cA:Cl)(aq:Nat->Nat->Bool)(aj:Bool)(F:Fn)(EX:XS)
def SE(e:Expr)(m:E):Prop:=PE X e (tE X.K cA EX (ev aq aj F m))
def SA(es:List Expr)(m:Es):Prop:=PA X es (O8 X.K cA EX (evs aq aj F m))
def ST(e:Expr)(m:E):Prop:=PT X e (tV X.K cA EX (λJ=>M.bd (ev aq aj F m J) bool))
def SW(e:Expr)(m:E):Prop:=PW X e (tV X.K cA EX (λJ=>M.bd (ev aq aj F m J) bool))
end
section
variable {X:Cx}{cA:Cl}{aq:Nat->Nat->Bool}{aj:Bool}{F:Fn}{EX:XS}{a b c d e:Expr}{A B C Dd E':E}{pos:Pos}{es:List Expr}{Xs:Es}{fz:Bool}{p:Pr}
theorem PE.weak{t t':TE}(h:PE X e t)(f:∀Z H Q,t' Z H Q->t Z H Q):PE X e t':=λao s Z H Q I q=>h ao s Z H Q I (f Z H Q q)
theorem PT.weak{t t':TT}(h:PT X e t)(f:∀Z H Q,t' Z H Q->t Z H Q):PT X e t':=λao s Z H Q I q=>h ao s Z H Q I (f Z H Q q)
theorem PW.weak{t t':TT}(h:PW X e t)(f:∀Z H Q,t' Z H Q->t Z H Q):PW X e t':=λwh ao s Z H Q I q=>h wh ao s Z H Q I (f Z H Q q)
theorem PA.weak{t t':TA}(h:PA X es t)(f:∀Z H Q,t' Z H Q->t Z H Q):PA X es t':=λp ao s Z H Q I q=>h p ao s Z H Q I (f Z H Q q)
theorem zko{i j p}:SE X cA aq aj F EX (.Constant (.int i) j p) (.c (.int i)):=PE.weak zkD λZ H Q hh=>un hh λU J s hL hS h=>h.bC hS _ (.d (.int i))
theorem zmv{i j p}:SE X cA aq aj F EX (.Constant (.bool i) j p) (.c (.bl i)):=PE.weak zmF λZ H Q hh=>un hh λU J s hL hS h=>h.bC hS _ (.d (.bl i))
theorem zjL{j p}:SE X cA aq aj F EX (.Constant .none j p) (.c .non):=PE.weak zjJ λZ H Q hh=>un hh λU J s hL hS h=>h.bC hS _ (.d .non)
theorem O_{α:Type}{o:Option (Option α)}{x:α}(h:o.join=some x):o=some (some x):=by
 cases o with
 |none=>cases h
 |some y=>cases y with
  |none=>cases h
  |some z=>cases h;rfl
theorem Vx(i:Nat){x:Str}(hN:X.N[i]?=some x:=by rfl)(hv:LQ X.env.scope x:=by first|exact Or.inl rfl|exact Or.inr (Or.inl rfl)|exact Or.inr (Or.inr rfl))(hd:(x==("__debug__" : Str))=false:=by decide)
  (jz:(x==("__classdict__" : Str))=false:=by decide):SE X cA aq aj F EX (.Name x pos) (.v i):=PE.weak (T8 hN hv hd jz) λZ H Q hh=>un hh λU J s hL hS h=>by
 obtain⟨dd,e1,q⟩:=Run.opt hS h;obtain⟨v,q1,q2⟩:=hL.2 i dd (O_ e1);exact⟨v,q1,q v q2⟩
theorem ziW{x:Str}{i:Int}{t:Tok}(hg:Gl X x)(hm:X.mg x=some (.int i t))(hd:(x==("__debug__" : Str))=false:=by decide):SE X cA aq aj F EX (.Name x pos) (.c (.int i)):=PE.weak (zjp (v:=.int i) hg hm ⟨t,rfl⟩ hd) λZ H Q hh=>un hh λU J s hL hS h=>h.bC hS _ (.d (.int i))
theorem zjS:SA X cA aq aj F EX [] .nil:=PA.weak wj λZ H Q hh=>un hh λU J s hL hS h=>h.bC hS _ .nil
theorem ziU(ha:SE X cA aq aj F EX a A)(hr:SA X cA aq aj F EX es Xs)(hs:starEach (a::es) X.env=(false,eval a X.env)::starEach es X.env:=by rfl):SA X cA aq aj F EX (a::es) (.cons A Xs):=PA.weak (qG ha hr hs) λZ H Q hh=>un hh λU J s hL hS h=>by
 refine aW hL hS h λx H1 U1 d1 s1 x1 hL1 aJ r1 h1=>nU hL1 aJ h1 λys H2 U2 d2 s2 x2 hL2 aR r2 h2=>h2.bC aR _ (.cons (r1.mono x2 aJ.lz) r2)
theorem JF{U U1 U2:Ph}{H1 H2:Hp}{s1 s2:S}{d1 d2:Xv}{x y:V}{Q:VK}{Ee:Nat->List D->S->Ph->Hp->Prop}(x2:Ext U1 H1 U2 H2)(aJ:aF X.K cA U1 H1 s1)(aR:aF X.K cA U2 H2 s2)(r1:aV X.K cA U1 H1 d1 x)(r2:aV X.K cA U2 H2 d2 y)
  (h:Run X.K cA (M.bd (gj [d1,d2]) λds=>bV fz (prim p ds)) U2 H2 s2 (λx _ U' H'=>∀v,aV X.K cA U' H' x v->Q v H') Ee) {r:List V->Hp->VK->Prop} (hp:bx X.K cA p r):r [x,y] H2 Q:=by
 obtain⟨ds,rs,h2⟩:=tW aR (.cons (r1.mono x2 aJ.lz) (.cons r2 .nil)) h;exact hp U2 H2 ds _ Q aR.zs rs (rG aR h2)
noncomputable def r2(r:R2):List V->Hp->VK->Prop:=λvs H Q=>∃x y,vs=[x,y]/\r x y H Q
theorem A_{r:R2}{x y:V}{H:Hp}{Q:VK}(h:r2 r [x,y] H Q):r x y H Q:=by
 obtain⟨_,_,e,q⟩:=h;cases e;exact q
theorem zkc{op:Operator}{r:R2}(ho:eF X (binaryOp op) r)(hp:bx X.K cA p (r2 r))(ha:SE X cA aq aj F EX a A)(hb:SE X cA aq aj F EX b B):SE X cA aq aj F EX (.BinOp a op b pos) (.pr fz p (.cons A (.cons B .nil))):=PE.weak (zmh ho ha hb) λZ H Q hh=>un hh λU J s hL hS h=>by
 have h:Run X.K cA (M.bd (M.bd (ev aq aj F A J) λx=>M.bd (M.bd (ev aq aj F B J) λy=>M.bd (M.ret []) λz=>M.ret (y::z)) λys=>M.ret (x::ys)) λvs=>M.bd (gj vs) λds=>bV fz (prim p ds)) U H s _ _:=h;simp only[jf] at h;refine aW hL hS h λx H1 U1 d1 s1 x1 hL1 aJ r1 h1=>aW hL1 aJ h1 λy H2 U2 d2 s2 x2 hL2 aR r2' h2=>?_;exact A_ (JF (fz:=fz) (U:=U) x2 aJ aR r1 r2' h2 hp)
theorem zlo{op:CmpOp}{r:R2}(ho:eF X (compareOp op) r)(hp:bx X.K cA p (r2 r))(ha:SE X cA aq aj F EX a A)(hb:SE X cA aq aj F EX b B)(hm:behindInMarks op b=false):SE X cA aq aj F EX (.Compare a [op] [b] pos) (.pr true p (.cons A (.cons B .nil))):=PE.weak (zh8 ho ha hb hm) λZ H Q hh=>un hh λU J s hL hS h=>by
 have h:Run X.K cA (M.bd (M.bd (ev aq aj F A J) λx=>M.bd (M.bd (ev aq aj F B J) λy=>M.bd (M.ret []) λz=>M.ret (y::z)) λys=>M.ret (x::ys)) λvs=>M.bd (gj vs) λds=>bV true (prim p ds)) U H s _ _:=h;simp only[jf] at h;refine aW hL hS h λx H1 U1 d1 s1 x1 hL1 aJ r1 h1=>aW hL1 aJ h1 λy H2 U2 d2 s2 x2 hL2 aR r2' h2=>?_;exact A_ (JF (fz:=true) (U:=U) x2 aJ aR r1 r2' h2 hp)
theorem iT{A B:Prop}(h:A):if true=true then A else B:=by rw[if_pos rfl];exact h
theorem iF{A B:Prop}(h:B):if false=true then A else B:=by rw[if_neg Lp];exact h
theorem zjV{op:CmpOp}{r:R2}(ho:eF X (compareOp op) r)(hp:bx X.K cA p (r2 r))(ha:SE X cA aq aj F EX a A)(hb:SE X cA aq aj F EX b B)(hm:behindInMarks op b=false):ST X cA aq aj F EX (.Compare a [op] [b] pos) (.pr true p (.cons A (.cons B .nil))):=PT.weak (ziz ho ha hb hm) λZ H Q hh=>un hh λU J s hL hS h=>by
 have h:Run X.K cA (M.bd (M.bd (M.bd (ev aq aj F A J) λx=>M.bd (M.bd (ev aq aj F B J) λy=>M.bd (M.ret []) λz=>M.ret (y::z)) λys=>M.ret (x::ys)) λvs=>M.bd (gj vs) λds=>bV true (prim p ds)) bool) U H s _ _:=h;simp only[jf] at h;refine aW hL hS h λx H1 U1 d1 s1 x1 hL1 aJ r1 h1=>aW hL1 aJ h1 λy H2 U2 d2 s2 x2 hL2 aR r2' h2=>?_;obtain⟨ds,rs,h3⟩:=tW aR (.cons (r1.mono x2 aJ.lz) (.cons r2' .nil)) h2;refine A_ (hp U2 H2 ds _ _ aR.zs rs (rG (Ee:=eX X.K cA EX Z) aR (h3.bd.imp λt s3 U3 H3 ⟨x3,jW,h4⟩ v rv=>?_)));cases rv with
 |l _=>exact h4.elim
 |d rv=>cases rv with
  |bl k=>exact⟨k,rfl,h4 U3 H3 Ext.refl jW⟩
  |_=>exact h4.elim
theorem zlW{op op':CmpOp}{r r':R2}{q:Pr}(ho:eF X (compareOp op) r)(hp:bx X.K cA p (r2 r))(qW:eF X (compareOp op') r')(hp':bx X.K cA q (r2 r'))(ha:SE X cA aq aj F EX a A)(hb:SE X cA aq aj F EX b B)(hc:SE X cA aq aj F EX c C)(hm:lastMarks [op,op'] [b,c]=false:=by with_unfolding_all rfl) :
  SE X cA aq aj F EX (.Compare a [op,op'] [b,c] pos) (.uU p q A B C):=PE.weak (zgZ ho qW ha hb hc hm) λZ H Q hh=>un hh λU J s hL hS h=>by
 refine aW hL hS h λx H1 U1 d1 s1 x1 hL1 aJ r1 h1=>aW hL1 aJ h1 λy H2 U2 d2 s2 x2 hL2 aR r2' h2=>?_;obtain⟨ds,rs,h3⟩:=tW aR (.cons (r1.mono x2 aJ.lz) (.cons r2' .nil)) h2;refine A_ (hp U2 H2 ds _ _ aR.zs rs (rG (Ee:=eX X.K cA EX Z) aR (h3.bd.imp λt s3 U3 H3 ⟨x3,jW,h4⟩ v rv=>?_)));obtain⟨k,_,e,h5⟩:=FJ rv h4;refine⟨k,e,?_⟩;cases k with
 |false=>exact iF (h5.bC jW _ (.d (.bl _)))
 |true=>
  have uZ:=hL2.mono x3 aR.lz;refine iT (aW uZ jW h5 λz H4 U4 d4 s4 x4 hL4 wG r4 h6=>?_);exact A_ (JF (fz:=true) (U:=U) x4 jW wG (r2'.mono x3 aR.lz) r4 h6 hp')
theorem zkI(ha:SE X cA aq aj F EX a A):SE X cA aq aj F EX (.UnaryOp .Not a pos) (.not A):=PE.weak (zlI ha) λZ H Q hh=>un hh λU J s hL hS h=>by
 refine aW hL hS h λx H1 U1 d1 s1 x1 hL1 aJ r1 h1=>?_;obtain⟨i,_,e,h3⟩:=FJ r1 h1;exact⟨i,e,h3.bC aJ _ (.d (.bl _))⟩
theorem zlR{op}(ha:SE X cA aq aj F EX a A):SE X cA aq aj F EX (.BoolOp op [a] pos) A:=zj5 ha
theorem zkH{rest:List Expr}(ha:SE X cA aq aj F EX a A)(hb:SE X cA aq aj F EX (.BoolOp .And (b::rest) pos) B):SE X cA aq aj F EX (.BoolOp .And (a::b::rest) pos) (.and A B):=PE.weak (zkQ ha hb) λZ H Q hh=>un hh λU J s hL hS h=>by
 refine aW hL hS h λx H1 U1 d1 s1 x1 hL1 aJ r1 h1=>?_;obtain⟨i,_,e,h3⟩:=FJ r1 h1;refine⟨i,e,?_⟩;cases i with
 |true=>exact iT ⟨U1,J,s1,hL1,aJ,h3⟩
 |false=>exact iF (h3.bC aJ _ (.d (.bl _)))
theorem zmV{rest:List Expr}(ha:SE X cA aq aj F EX a A)(hb:SE X cA aq aj F EX (.BoolOp .Or (b::rest) pos) B):SE X cA aq aj F EX (.BoolOp .Or (a::b::rest) pos) (.or A B):=PE.weak (zl5 ha hb) λZ H Q hh=>un hh λU J s hL hS h=>by
 refine aW hL hS h λx H1 U1 d1 s1 x1 hL1 aJ r1 h1=>?_;obtain⟨i,_,e,h3⟩:=FJ r1 h1;refine⟨i,e,?_⟩;cases i with
 |true=>exact iT (h3.bC aJ _ (.d (.bl _)))
 |false=>exact iF ⟨U1,J,s1,hL1,aJ,h3⟩
end
section
variable {X:Cx}{cA:Cl}{aq:Nat->Nat->Bool}{aj:Bool}{F:Fn}{EX:XS}{a b c d e o:Expr}{A B C Dd E' O:E}{pos pp p2 apos:Pos}{es:List Expr}{Xs:Es}{fz:Bool}{p:Pr}{x:Str}
theorem zke(ha:SE X cA aq aj F EX a A)(he:∀whole,isTrue a X.env whole=(do let v <-whole;standAt a.pos;holding [v] (truthy v)):=by intro _;rfl):ST X cA aq aj F EX a A:=PT.weak (zkR ha he) λZ H Q hh=>un hh λU J s hL hS h=>by
 refine aW hL hS h λx H1 U1 d1 s1 x1 hL1 aJ r1 h1=>?_;have h1:Run X.K cA (M.bd (bool d1) M.ret) U1 H1 s1 (λd _ U' H'=>Q d H') (eX X.K cA EX Z):=by
  cases d1 with
  |l n=>exact h1
  |d v=>cases v<;>exact h1
 obtain⟨k,_,e,q⟩:=FJ r1 h1;exact⟨k,e,q.bC aJ⟩
theorem zhp{m:M Xv}{g:Bool->Bool}:M.bd (M.bd m λx=>M.bd (bool x) λk=>M.ret (Xv.d (.bl (g k)))) bool=M.bd (M.bd m bool) λk=>M.ret (g k):=by
 rw[jf,jf]
 congr 1
 funext x
 rw[jf];rfl
theorem zli(ha:ST X cA aq aj F EX a A):ST X cA aq aj F EX (.UnaryOp .Not a pos) (.not A):=PT.weak (zj9 ha) λZ H Q hh=>un hh λU J s hL hS h=>by
 have h:Run X.K cA (M.bd (M.bd (ev aq aj F A J) λx=>M.bd (bool x) λk=>M.ret (Xv.d (.bl (!k)))) bool) U H s _ _:=h;rw[zhp (g:=λk=>!k)] at h;exact uY hL hS h λk H1 U1 s1 x1 hL1 aJ h1=>h1.bC aJ
theorem zig(ha:ST X cA aq aj F EX a A):SW X cA aq aj F EX (.BoolOp .And [a] pos) A:=zjg ha
theorem zk8(ha:ST X cA aq aj F EX a A):SW X cA aq aj F EX (.BoolOp .Or [a] pos) A:=zjK ha
theorem Vy{m:M Xv}{k:Bool->M Xv}:M.bd (M.bd m λx=>M.bd (bool x) k) bool=M.bd (M.bd m bool) λb=>M.bd (k b) bool:=by
 rw[jf,jf]
 congr 1
 funext x
 rw[jf]
theorem zkW{rest:List Expr}(ha:ST X cA aq aj F EX a A)(hb:SW X cA aq aj F EX (.BoolOp .And (b::rest) pos) B):SW X cA aq aj F EX (.BoolOp .And (a::b::rest) pos) (.and A B):=PW.weak (zk5 ha hb) λZ H Q hh=>un hh λU J s hL hS h=>by
 have h:Run X.K cA (M.bd (M.bd (ev aq aj F A J) λx=>M.bd (bool x) λk=>if k=true then ev aq aj F B J else M.ret (Xv.d (.bl false))) bool) U H s _ _:=h;rw[Vy] at h;refine uY hL hS h λk H1 U1 s1 x1 hL1 aJ h3=>?_;cases k with
 |true=>exact iT ⟨U1,J,s1,hL1,aJ,h3⟩
 |false=>exact iF (Run.bC aJ (a:=false) h3)
theorem zmE{rest:List Expr}(ha:ST X cA aq aj F EX a A)(hb:SW X cA aq aj F EX (.BoolOp .Or (b::rest) pos) B):SW X cA aq aj F EX (.BoolOp .Or (a::b::rest) pos) (.or A B):=PW.weak (zmG ha hb) λZ H Q hh=>un hh λU J s hL hS h=>by
 have h:Run X.K cA (M.bd (M.bd (ev aq aj F A J) λx=>M.bd (bool x) λk=>if k=true then M.ret (Xv.d (.bl true)) else ev aq aj F B J) bool) U H s _ _:=h;rw[Vy] at h;refine uY hL hS h λk H1 U1 s1 x1 hL1 aJ h3=>?_;cases k with
 |true=>exact iT (Run.bC aJ (a:=true) h3)
 |false=>exact iF ⟨U1,J,s1,hL1,aJ,h3⟩
theorem znL(h:SW X cA aq aj F EX a A):ST X cA aq aj F EX a A:=Kac h
theorem ziN:(M.bd m λx=>M.bd (bool x) k)=M.bd (M.bd m bool) k:=by rw[jf]
theorem zkY(hc:ST X cA aq aj F EX c C)(ha:SE X cA aq aj F EX a A)(hb:SE X cA aq aj F EX b B):SE X cA aq aj F EX (.IfExp c a b pos) (.ite C A B):=PE.weak (zhs hc ha hb) λZ H Q hh=>un hh λU J s hL hS h=>by
 have h:Run X.K cA (M.bd (ev aq aj F C J) λx=>M.bd (bool x) λk=>if k=true then ev aq aj F A J else ev aq aj F B J) U H s _ _:=h;rw[ziN] at h;refine uY hL hS h λk H1 U1 s1 x1 hL1 aJ h3=>?_;cases k with
 |true=>exact iT ⟨U1,J,s1,hL1,aJ,h3⟩
 |false=>exact iF ⟨U1,J,s1,hL1,aJ,h3⟩
theorem Vz:∀(Xs:Es) (J:Vs) (s:S) (ds:List Xv) (s':S),evs aq aj F Xs J s=some (.ok ds,s')->ds.length=Es.len Xs
 |.nil,J,s,ds,s',h=>by cases h;rfl
 |.cons a r,J,s,ds,s',h=>by
  have h:M.bd (ev aq aj F a J) (λx=>M.bd (evs aq aj F r J) λxs=>M.ret (x::xs)) s=some (.ok ds,s'):=h;unfold M.bd at h;cases e1:ev aq aj F a J s with
  |none=>rw[e1] at h;cases h
  |some q=>
   obtain⟨q,s1⟩:=q;rw[e1] at h;cases q with
   |er c f=>cases h
   |ok d=>
    dsimp only at h;cases e2:evs aq aj F r J s1 with
    |none=>rw[e2] at h;cases h
    |some q=>
     obtain⟨q,s2⟩:=q;rw[e2] at h;cases q with
     |er c f=>cases h
     |ok ds'=>
      cases h;rw[gD,Vz r J s1 ds' _ e2];rfl
theorem FP{β:Type}{K:W.Frag}{U:Ph}{H:Hp}{s:S}{Z:L2.St}{J:Vs}{k:List Xv->M β}{P:β->S->Ph->Hp->Prop}(hL:aX K cA U H Z J)(hS:aF K cA U H s)(h:Run K cA (M.bd (evs aq aj F Xs J) k) U H s P (eX K cA EX Z)){Q:List V->Hp->Prop}
  (f:∀x H1 U1 d s1,d.length=Es.len Xs->Ext U H U1 H1->aX K cA U1 H1 Z J->aF K cA U1 H1 s1->aO K cA U1 H1 d x->Run K cA (k d) U1 H1 s1 P (eX K cA EX Z)->Q x H1):O8 K cA EX (evs aq aj F Xs) Z H Q:=by
 refine⟨U,J,s,hL,hS,?_⟩;have h2:=h.bd;unfold Run at h2 ⊢;cases e:evs aq aj F Xs J s with
 |none=>rw[e] at h2;exact h2
 |some r=>
  obtain⟨r,s1⟩:=r;rw[e] at h2;cases r with
  |er c f=>exact h2
  |ok ds=>
   intro U1 H1 x1 r1 v rv;obtain⟨_,_,h3⟩:=h2 U1 H1 x1 r1;exact f v H1 U1 ds s1 (Vz Xs J s ds s1 e) x1 (hL.mono x1 hS.lz) r1 rv h3
theorem zj3{k}(ha:SA X cA aq aj F EX es Xs)(hz:Es.len Xs<=sizeLine):SE X cA aq aj F EX (.Tuple es k pos) (.tup Xs):=PE.weak (zkO ha) λZ H Q hh=>un hh λU J s hL hS h=>by
 refine FP hL hS h λvs H1 U1 xs s1 hl x1 hL1 aJ rv h1=>?_;obtain⟨ds,e,rs,h2⟩:=O9 rv h1;refine⟨by rw[<-rv.len,hl];exact hz,λp hp=>?_⟩;exact h2 U1 (upd H1 p (.tup vs)) (bf.new hp).ext (aJ.grow (bf.new hp)) _ (.d (.tup (TupAt.new (aJ.nz hp)) (rs.mono (bf.new hp).ext aJ.lz)))
theorem zjP(ha:SA X cA aq aj F EX es Xs)(hz:Es.len Xs<=sizeLine):SE X cA aq aj F EX (.List es pos) (.lst fz Xs):=PE.weak (zkB ha) λZ H Q hh=>un hh λU J s hL hS h=>by
 refine FP hL hS h λvs H1 U1 xs s1 hl x1 hL1 aJ rv h1=>?_;obtain⟨ds,e,rs,h2⟩:=O9 rv h1;exact⟨by rw[<-rv.len,hl];exact hz,λp hp=>zhj aJ h2 p vs hp rs⟩
theorem wH{id:String}{r:List V->Hp->VK->Prop}(hc:cG X (.builtin id) r)(hp:bx X.K cA p r)
  (hg:Gl X x) (hm:X.mg x=none) (hv:bootBuiltins x=some (.builtin id)) (ha:SA X cA aq aj F EX (e::es) Xs) (hn:x≠"__name__":=by decide) (pO:(x==("__debug__" : Str))=false:=by decide)
  (he:starEach (e::es) X.env=(false,eval e X.env)::starEach es X.env:=by rfl) (cD:(backTo pos (starEach es X.env)).any (·.1)=false:=by rfl):SE X cA aq aj F EX (.Call (.Name x pp) (e::es) [] pos) (.pr fz p Xs):=PE.weak (Uw hc hg hm hv ha hn pO he cD) λZ H Q hh=>un hh λU J s hL hS h=>
 nU hL hS h λvs H1 U1 ds s1 x1 hL1 aJ r1 h1=>by
  obtain⟨ds,rs,h3⟩:=tW aJ r1 h1;exact hp U1 H1 ds _ _ aJ.zs rs (rG aJ h3)
theorem Pa{id:String}{r:List V->Hp->VK->Prop}(hc:cG X (.type id) r)(hp:bx X.K cA p r)
  (hg:Gl X x) (hm:X.mg x=none) (hv:bootBuiltins x=some (.type id)) (ha:SA X cA aq aj F EX (e::es) Xs) (hn:x≠"__name__":=by decide) (pO:(x==("__debug__" : Str))=false:=by decide)
  (he:starEach (e::es) X.env=(false,eval e X.env)::starEach es X.env:=by rfl) (cD:(backTo pos (starEach es X.env)).any (·.1)=false:=by rfl):SE X cA aq aj F EX (.Call (.Name x pp) (e::es) [] pos) (.pr fz p Xs):=PE.weak (zfO hc hg hm hv ha hn pO he cD) λZ H Q hh=>un hh λU J s hL hS h=>
 nU hL hS h λvs H1 U1 ds s1 x1 hL1 aJ r1 h1=>by
  obtain⟨ds,rs,h3⟩:=tW aJ r1 h1;exact hp U1 H1 ds _ _ aJ.zs rs (rG aJ h3)
theorem zmk(hp:bx X.K cA p (r2 (Nq X.K)))(ha:SE X cA aq aj F EX a A)(hb:SE X cA aq aj F EX b B)(hs:oN b:=by intro _ _;rfl):SE X cA aq aj F EX (.Subscript a b pos) (.pr true p (.cons A (.cons B .nil))):=PE.weak (zmf zk3 ha hb hs) λZ H Q hh=>un hh λU J s hL hS h=>by
 have h:Run X.K cA (M.bd (M.bd (ev aq aj F A J) λx=>M.bd (M.bd (ev aq aj F B J) λy=>M.bd (M.ret []) λz=>M.ret (y::z)) λys=>M.ret (x::ys)) λvs=>M.bd (gj vs) λds=>bV true (prim p ds)) U H s _ _:=h;simp only[jf] at h;refine aW hL hS h λx H1 U1 d1 s1 x1 hL1 aJ r1 h1=>aW hL1 aJ h1 λy H2 U2 d2 s2 x2 hL2 aR r2' h2=>?_;exact A_ (JF (fz:=true) (U:=U) x2 aJ aR r1 r2' h2 hp)
theorem zmH(ho:Je X (unaryOp op) r)(hp:bx X.K cA p (λvs H Q=>∃x,vs=[x]/\r x H Q))(ha:SE X cA aq aj F EX a A):SE X cA aq aj F EX (.UnaryOp op a pos) (.pr true p (.cons A .nil)):=PE.weak (zmD ho ha) λZ H Q hh=>un hh λU J s hL hS h=>by
 have h:Run X.K cA (M.bd (M.bd (ev aq aj F A J) λx=>M.bd (M.ret []) λz=>M.ret (x::z)) λvs=>M.bd (gj vs) λds=>bV true (prim p ds)) U H s _ _:=h;simp only[jf] at h;refine aW hL hS h λx H1 U1 d1 s1 x1 hL1 aJ r1 h1=>?_;obtain⟨ds,rs,h3⟩:=tW aJ (.cons r1 .nil) h1;obtain⟨_,e,q⟩:=hp U1 H1 ds _ _ aJ.zs rs (rG aJ h3);cases e;exact q
theorem zkL{j p'}(ha:SE X cA aq aj F EX a A):SE X cA aq aj F EX (.Compare a [.Is] [.Constant .none j p'] pos) (.pr true .qJ (.cons A .nil)):=PE.weak (Ua (T9 ha)) λZ H Q hh=>un hh λU J s hL hS h=>by
 have h:Run X.K cA (M.bd (M.bd (ev aq aj F A J) λx=>M.bd (M.ret []) λz=>M.ret (x::z)) λvs=>M.bd (gj vs) λds=>bV true (prim .qJ ds)) U H s _ _:=h;simp only[jf] at h;refine aW hL hS h λx H1 U1 d1 s1 x1 hL1 aJ r1 h1=>?_;obtain⟨ds,rs,h3⟩:=tW aJ (.cons r1 .nil) h1;cases rs with
 |cons r rs=>cases rs with
  |nil=>
   rename_i d;have h4:=rG aJ h3;have q:=h4 H1 _ bf.refl (.bl _);cases d<;>first
    |(obtain⟨_,_,rfl,_,_⟩:=r;exact q)
    |(cases (show Rep _ _ _ _ _ x from r)<;>exact q)
theorem zjy{j p'}(ha:SE X cA aq aj F EX a A):SE X cA aq aj F EX (.Compare a [.IsNot] [.Constant .none j p'] pos) (.pr true .pR (.cons A .nil)):=PE.weak (Ua (T_ ha)) λZ H Q hh=>un hh λU J s hL hS h=>by
 have h:Run X.K cA (M.bd (M.bd (ev aq aj F A J) λx=>M.bd (M.ret []) λz=>M.ret (x::z)) λvs=>M.bd (gj vs) λds=>bV true (prim .pR ds)) U H s _ _:=h;simp only[jf] at h;refine aW hL hS h λx H1 U1 d1 s1 x1 hL1 aJ r1 h1=>?_;obtain⟨ds,rs,h3⟩:=tW aJ (.cons r1 .nil) h1;cases rs with
 |cons r rs=>cases rs with
  |nil=>
   rename_i d;have h4:=rG aJ h3;have q:=h4 H1 _ bf.refl (.bl _);cases d<;>first
    |(obtain⟨_,_,rfl,_,_⟩:=r;exact q)
    |(cases (show Rep _ _ _ _ _ x from r)<;>exact q)
theorem VB(q:Pr)(hq:prim q=yU f)(hh:tV X.K cA EX (λJ=>M.bd (ev aq aj F (.pr true q (.cons A .nil)) J) bool) Z H Q):tE X.K cA EX (ev aq aj F A) Z H λx H1=>Q (f (decide (x=.non))) H1:=un hh λU J s hL hS h=>by
 have h:Run X.K cA (M.bd (M.bd (M.bd (ev aq aj F A J) λx=>M.bd (M.ret []) λz=>M.ret (x::z)) λvs=>M.bd (gj vs) λds=>bV true (prim q ds)) bool) U H s _ _:=h;simp only[jf] at h;refine aW hL hS h λx H1 U1 d1 s1 x1 hL1 aJ r1 h1=>?_;obtain⟨ds,rs,h3⟩:=tW aJ (.cons r1 .nil) h1;cases rs with
 |cons r rs=>cases rs with
  |nil=>
   rename_i d;rw[hq] at h3;have h4:Run X.K cA (M.bd (M.ret (Xv.d (.bl (f d.mH)))) bool) U1 H1 s1 (λd _ U' H'=>Q d H') (eX X.K cA EX Z):=h3;have q:=h4 U1 H1 Ext.refl aJ;cases d<;>first
    |(obtain⟨_,_,rfl,_,_⟩:=r;exact q)
    |(cases (show Rep _ _ _ _ _ x from r)<;>exact q)
theorem zlD{j p'}(ha:SE X cA aq aj F EX a A):ST X cA aq aj F EX (.Compare a [.Is] [.Constant .none j p'] pos) (.pr true .qJ (.cons A .nil)):=PT.weak (Mp (T9 ha)) λZ H Q hh=>by
 have:=VB .qJ (f:=id) rfl hh;obtain⟨U,J,s,a,b,c⟩:=this;exact⟨U,J,s,a,b,c.imp λd s' U' H' k v rv=>⟨_,rfl,k v rv⟩⟩
theorem zh7{j p'}(ha:SE X cA aq aj F EX a A):ST X cA aq aj F EX (.Compare a [.IsNot] [.Constant .none j p'] pos) (.pr true .pR (.cons A .nil)):=PT.weak (Mp (T_ ha)) λZ H Q hh=>by
 have:=VB .pR (f:=not) rfl hh;obtain⟨U,J,s,a,b,c⟩:=this;exact⟨U,J,s,a,b,c.imp λd s' U' H' k v rv=>⟨_,rfl,k v rv⟩⟩
theorem zgs{K:W.Frag}{U:Ph}{H:Hp}{s:S}{x:Xv}{v:V}{Q:Bool->Hp->Prop}{Ee:Nat->List D->S->Ph->Hp->Prop}(hS:aF K cA U H s)(r:aV K cA U H x v)(h:Run K cA (bool x) U H s (λd _ U' H'=>Q d H') Ee):∃k,v=.bl k/\Q k H:=by
 cases r with
 |l _=>exact h.elim
 |d rv=>cases rv with
  |bl k=>exact⟨k,rfl,h U H Ext.refl hS⟩
  |_=>exact h.elim
end
mutual
inductive Is (h:Heap):D->Value->Prop where
 |non:Is h .non .none
 |bl (b:Bool):Is h (.bl b) (.bool b)
 |int (i:Int) (t:Tok):Is h (.int i) (.int i t)
 |str (x:Str) (t:Tok):Is h (.str x) (.str x t)
 |tup {a:Addr} {xs:List D} {its:List Value} (p:h.IsTuple a its.toArray) (r:iZ h xs its):Is h (.tup xs) (.ref a)
 |fl {a:Addr} {xs:List D} {its:List Value} (p:h.IsList a its.toArray) (r:iZ h xs its):Is h (.fl xs) (.ref a)
 |oth {d:D} {u:Value} (k:kq d=none):Is h d u
inductive iZ (h:Heap):List D->List Value->Prop where
 |nil:iZ h [] []
 |cons {d:D} {u:Value} {ds:List D} {us:List Value} (a:Is h d u) (r:iZ h ds us):iZ h (d::ds) (u::us)
end
section
variable {X:Cx}{cA:Cl}{ao:List (Addr×Obj)}{Z:L2.St}{H:Hp}{s:Shared}{U:Ph}{h:Heap}
theorem Pb(I:Inv X ao Z H s){ds:List D}{vs:List V}{us:List Value}(h:aB X.K cA U H ds vs)(r:Vals vs us):iZ s.heap ds us:=
 aB.rec (motive_1:=λd v _=>∀{u:Value},RelV v u->Is s.heap d u) (motive_2:=λd v _=>∀{u:List Value},Vals v u->iZ s.heap d u) (λr=>by cases r;exact .non) (λb _ r=>by cases r;exact .bl b) (λi _ r=>by obtain⟨t,rfl⟩:=r;exact .int i t) (λi _ r=>by obtain⟨t,rfl⟩:=r;exact .str i t)
 (λh _ ih _ r=>by
  cases r;obtain⟨its,rv,ht,_⟩:=I.tuple h.iY;exact .tup ht (ih rv))
 (λh _ ih _ r=>by
  cases r;obtain⟨its,rv,ht,_⟩:=I.list h.qL;exact .fl ht.isList (ih rv))
 (λ_ _ _ _=>.oth rfl) (λ_ _ _ _ _=>.oth rfl) (λ_ _ _ _ _=>.oth rfl) (λ_ _ _=>.oth rfl)
 (λr=>by cases r;exact .nil)
 (λ_ _ i j _ r=>by
  cases r with
  |cons a b=>exact .cons (i a) (j b)) h r
theorem qd(I:Inv X ao Z H s){d:D}{v:V}{u:Value}(h:Rep X.K cA U H d v)(r:RelV v u):Is s.heap d u:=by
 cases h with
 |non=>cases r;exact .non
 |bl b=>cases r;exact .bl b
 |int i=>obtain⟨t,rfl⟩:=r;exact .int i t
 |str i=>obtain⟨t,rfl⟩:=r;exact .str i t
 |tup h q=>
  cases r;obtain⟨its,rv,ht,_⟩:=I.tuple h.iY;exact .tup ht (Pb I q rv)
 |fl h q=>
  cases r;obtain⟨its,rv,ht,_⟩:=I.list h.qL;exact .fl ht.isList (Pb I q rv)
 |fd _ _=>exact .oth rfl
 |exc _ _=>exact .oth rfl
 |ob _ _=>exact .oth rfl
 |any _=>exact .oth rfl
theorem Ba(I:Inv X ao Z H s){d:D}{v:V}{u:Value}(q:Rv X.K cA U H d v)(r:RelV v u):Is s.heap d u:=by
 cases d with
 |fl xs=>
  obtain⟨a,vs,rfl,sq,rs⟩:=q;cases r;obtain⟨its,rv,ht,_⟩:=I.list sq;exact .fl ht.isList (Pb I rs rv)
 |non=>exact qd I q r
 |bl b=>exact qd I q r
 |int b=>exact qd I q r
 |str b=>exact qd I q r
 |tup b=>exact qd I q r
 |fd b c=>exact qd I q r
 |exc b c=>exact qd I q r
 |ob b c=>exact qd I q r
 |any=>exact qd I q r
theorem iZ.len:∀{ds:List D} {us:List Value},iZ h ds us->ds.length=us.length
 |_,_,.nil=>rfl
 |_,_,.cons _ r=>by rw[gD,gD,iZ.len r]
theorem iZ.get:∀{ds:List D} {us:List Value} {i:Nat} {d:D},iZ h ds us->ds[i]?=some d->∃u,us[i]?=some u/\Is h d u
 |_,_,_,_,.nil,e=>by simp at e
 |_,_,0,_,.cons h _,e=>by simp at e;subst e;exact⟨_,rfl,h⟩
 |_,_,i+1,d,.cons _ r,e=>by
  obtain⟨v,a,b⟩:=iZ.get (i:=i) (d:=d) r (by simpa using e);exact⟨v,by simpa using a,b⟩
theorem VD{a:Addr}{is js:Array Value}(p:h.IsTuple a is)(q:h.IsTuple a js):is=js:=by
 obtain⟨o,e,c,n,d⟩:=p;obtain⟨o',e',c',n',d'⟩:=q;rw[e] at e';cases e';rw[d] at d';cases d';rfl
theorem VF{a:Addr}{is js:Array Value}(p:h.IsList a is)(q:h.IsList a js):is=js:=by
 obtain⟨o,e,c,n,d⟩:=p;obtain⟨o',e',c',n',d'⟩:=q;rw[e] at e';cases e';rw[d] at d';cases d';rfl
theorem tX{a:Addr}{is js:Array Value}(p:h.IsList a is)(q:h.IsTuple a js):False:=by
 obtain⟨o,e,c,n,d⟩:=p;obtain⟨o',e',c',n',d'⟩:=q;rw[e] at e';cases e';rw[c] at c';exact absurd c' (by simp)
theorem FQ{eq:D->D->Option Bool}:∀{xs ys:List D} {b:Bool},c7 eq xs ys=some b->∃e:Nat->Bool,(∀(j:Nat) x y,xs[j]?=some x->ys[j]?=some y->eq x y=some (e j))/\b=((List.range (min xs.length ys.length)).all e&&xs.length==ys.length)
 |[],[],b,h=>by cases h;exact⟨λ_=>true,λj x y q=>by simp at q,by simp⟩
 |[],y::ys,b,h=>by cases h;exact⟨λ_=>true,λj x y q=>by simp at q,by simp⟩
 |x::xs,[],b,h=>by cases h;exact⟨λ_=>true,λj x y q r=>by simp at r,by simp⟩
 |x::xs,y::ys,b,h=>by
  simp only[c7] at h;cases e1:eq x y with
  |none=>rw[e1] at h;cases h
  |some a=>
   cases e2:c7 eq xs ys with
   |none=>rw[e1,e2] at h;cases h
   |some c=>
    rw[e1,e2] at h;cases h;obtain⟨e,h1,h2⟩:=FQ e2;refine⟨λj=>match j with|0=>a|j+1=>e j,λj p q r1 r2=>?_,?_⟩
    ·cases j with
     |zero=>
      simp at r1 r2;subst r1 r2;exact e1
     |succ j=>exact h1 j p q (by simpa using r1) (by simpa using r2)
    ·rw[h2];simp only[gD,Nat.succ_min_succ,Li,xP,Cr,Function.comp_def];rw[Bool.and_assoc]
     congr 2
     simp
theorem iD{n:Nat}{d e:D}(k:kq d=none):cR n d e=none:=by
 cases n<;>cases d<;>first|cases k;done|(cases e<;>rfl)
theorem gB{n:Nat}{d e:D}(k:kq e=none):cR n d e=none:=by
 cases n<;>cases e<;>first|cases k;done|(cases d<;>rfl)
theorem Pg:∀(n:Nat) {d1 d2:D} {u:Value} {b:Bool},Is h d1 u->Is h d2 u->cR n d1 d2=some b->b=true:=by
 intro n;have rows:∀(n:Nat),(∀{d1 d2:D} {u:Value} {b:Bool},Is h d1 u->Is h d2 u->cR n d1 d2=some b->b=true)->∀{xs ys:List D} {is js:List Value} {b:Bool},iZ h xs is->iZ h ys js->is.toArray=js.toArray->c7 (cR n) xs ys=some b->b=true:=by
  intro n ih xs ys is js b q1 q2 e hd;have e:is=js:=by simpa using e
  subst e;obtain⟨e,a1,a2⟩:=FQ (eq:=cR n) hd;rw[a2];have hl:_=_:=q1.len.trans q2.len.symm;rw[gF];refine⟨jx.mpr λj hj=>?_,by rw[hl];simp⟩;have hj:=xO.mp hj;obtain⟨x,hx⟩ : ∃x,_=some x:=⟨_,dj (gR hj (Nat.min_le_left _ _))⟩;obtain⟨y,hy⟩ : ∃y,_=some y:=⟨_,dj (gR hj (Nat.min_le_right _ _))⟩;obtain⟨v1,e1,p1⟩:=q1.get hx;obtain⟨v2,e2,p2⟩:=q2.get hy;rw[e1] at e2;cases e2;exact ih p1 p2 (a1 j x y hx hy)
 induction n with
 |zero=>
  intro d1 d2 u b r1 r2 hd;cases r1 with
  |oth k=>rw[iD k] at hd;cases hd
  |non=>cases r2 with
   |oth k=>rw[gB k] at hd;cases hd
   |non=>cases hd;rfl
  |bl x=>cases r2 with
   |oth k=>rw[gB k] at hd;cases hd
   |bl y=>cases hd;simp
  |int x t=>cases r2 with
   |oth k=>rw[gB k] at hd;cases hd
   |int y=>cases hd;simp
  |str x t=>cases r2 with
   |oth k=>rw[gB k] at hd;cases hd
   |str y=>cases hd;simp
  |tup p q=>cases r2 with
   |oth k=>rw[gB k] at hd;cases hd
   |tup p2 q2=>cases hd
   |fl p2 q2=>exact(tX p2 p).elim
  |fl p q=>cases r2 with
   |oth k=>rw[gB k] at hd;cases hd
   |fl p2 q2=>cases hd
   |tup p2 q2=>exact(tX p p2).elim
 |succ n ih=>
  intro d1 d2 u b r1 r2 hd;cases r1 with
  |oth k=>rw[iD k] at hd;cases hd
  |non=>cases r2 with
   |oth k=>rw[gB k] at hd;cases hd
   |non=>cases hd;rfl
  |bl x=>cases r2 with
   |oth k=>rw[gB k] at hd;cases hd
   |bl y=>cases hd;simp
  |int x t=>cases r2 with
   |oth k=>rw[gB k] at hd;cases hd
   |int y=>cases hd;simp
  |str x t=>cases r2 with
   |oth k=>rw[gB k] at hd;cases hd
   |str y=>cases hd;simp
  |tup p q=>cases r2 with
   |oth k=>rw[gB k] at hd;cases hd
   |tup p2 q2=>exact rows n ih q q2 (VD p p2) hd
   |fl p2 q2=>exact(tX p2 p).elim
  |fl p q=>cases r2 with
   |oth k=>rw[gB k] at hd;cases hd
   |fl p2 q2=>exact rows n ih q q2 (VF p p2) hd
   |tup p2 q2=>exact(tX p p2).elim
theorem parts{n:Nat}{A:Around}{xs ys:List D}{is js:List Value}{b:Bool}(r1:iZ s.heap xs is)(r2:iZ s.heap ys js)(hd:c7 (cR n) xs ys=some b)
  (ih:∀{d1 d2:D} {u1 u2:Value} {b:Bool},Is s.heap d1 u1->Is s.heap d2 u2->cR n d1 d2=some b->SeqAt.EqAt A s u1 u2 b) :
  ∃e:Nat->Bool,(∀j (h1:j<is.toArray.size) (h2:j<js.toArray.size),SeqAt.EqAt A s is.toArray[j] js.toArray[j] (e j))/\b=((List.range (min is.toArray.size js.toArray.size)).all e&&is.toArray.size==js.toArray.size):=by
 obtain⟨e,a1,a2⟩:=FQ hd;have z1:=r1.len;have z2:=r2.len;refine⟨e,λj h1 h2=>?_,by simp only[fH,<-z1,<-z2];exact a2⟩;simp only[fH] at h1 h2;obtain⟨x,hx⟩ : ∃x,xs[j]?=some x:=⟨_,dj (by rw[z1];exact h1)⟩;obtain⟨y,hy⟩ : ∃y,ys[j]?=some y:=⟨_,dj (by rw[z2];exact h2)⟩;obtain⟨u,f1,g1⟩:=r1.get hx;obtain⟨u',f2,g2⟩:=r2.get hy;have k1:is.toArray[j]=u:=by
  have:=eO.mp f1;simpa using this.2
 have k2:js.toArray[j]=u':=by
  have:=eO.mp f2;simpa using this.2
 rw[k1,k2];exact ih g1 g2 (a1 j x y hx hy)
theorem VG{A:Around}{l m:Addr}{is js:Array Value}{e:Nat->Bool}{b:Bool}(p1:s.heap.IsList l is)(p2:s.heap.IsList m js)(hu:A.units<cLine)(he:∀j (h1:j<is.size) (h2:j<js.size),SeqAt.EqAt A.in1 s is[j] js[j] (e j))(hb:b=((List.range (min is.size js.size)).all e&&is.size==js.size)):SeqAt.RcAt A s (.ref l) (.ref m) b:=by
 by_cases hz:is.size=js.size
 ·have:b=(List.range is.size).all e:=by rw[hb,hz];simp
  rw[this];exact SeqAt.RcAt.lists p1 p2 hz hu he
 ·have Pj:(is.size != js.size)=true:=by simpa using hz
  have:b=false:=by rw[hb];simp[hz]
  rw[this];exact SeqAt.RcAt.lists_lengths p1 p2 Pj hu
theorem zgc{A:Around}{l m:Addr}{is js:Array Value}{e:Nat->Bool}{b:Bool}(p1:s.heap.IsList l is)(p2:s.heap.IsList m js)(hu:A.units<cLine)(he:∀j (h1:j<is.size) (h2:j<js.size),SeqAt.EqAt A.in1 s is[j] js[j] (e j))(hb:b=((List.range (min is.size js.size)).all e&&is.size==js.size)):SeqAt.RcNeAt A s (.ref l) (.ref m) (!b):=by
 by_cases hz:is.size=js.size
 ·have:b=(List.range is.size).all e:=by rw[hb,hz];simp
  rw[this];exact SeqAt.RcNeAt.lists p1 p2 hz hu he
 ·have Pj:(is.size != js.size)=true:=by simpa using hz
  have:b=false:=by rw[hb];simp[hz]
  rw[this];exact SeqAt.RcNeAt.lists_lengths p1 p2 Pj hu
open SeqAt in
theorem FT:∀(n:Nat) {A:Around} {d1 d2:D} {u1 u2:Value} {b:Bool},A.units+n<cLine->Is s.heap d1 u1->Is s.heap d2 u2->cR n d1 d2=some b->SeqAt.EqAt A s u1 u2 b:=by
 intro n
 induction n with
 |zero=>
  intro A d1 d2 u1 u2 b hu r1 r2 hd;have hu:A.units<cLine:=by lia
  cases r1 with
  |oth k=>rw[iD k] at hd;cases hd
  |non=>cases r2 with
   |oth k=>rw[gB k] at hd;cases hd
   |non=>cases hd;exact EqAt.same _
   |bl y=>cases hd;exact EqAt.none_bool _
   |int y t=>cases hd;exact EqAt.none_int _ _
   |str y t=>cases hd;exact EqAt.none_str _ _
   |tup p q=>cases hd;exact EqAt.none_tuple p hu
   |fl p q=>cases hd;exact EqAt.none_list p hu
  |bl x=>cases r2 with
   |oth k=>rw[gB k] at hd;cases hd
   |non=>cases hd;exact EqAt.bool_none _
   |bl y=>cases hd;exact EqAt.bool_bool _ _
   |int y t=>cases hd;exact EqAt.bool_int _ _ _
   |str y t=>cases hd;exact EqAt.bool_str _ _ _
   |tup p q=>cases hd;exact EqAt.bool_tuple _ p hu
   |fl p q=>cases hd;exact EqAt.bool_list _ p hu
  |int x t=>cases r2 with
   |oth k=>rw[gB k] at hd;cases hd
   |non=>cases hd;exact EqAt.int_none _ _
   |bl y=>cases hd;exact EqAt.int_bool _ _ _
   |int y t=>cases hd;exact EqAt.int_int _ _ _ _
   |str y t=>cases hd;exact EqAt.int_str _ _ _ _
   |tup p q=>cases hd;exact EqAt.int_tuple _ _ p hu
   |fl p q=>cases hd;exact EqAt.int_list _ _ p hu
  |str x t=>cases r2 with
   |oth k=>rw[gB k] at hd;cases hd
   |non=>cases hd;exact EqAt.str_none _ _
   |bl y=>cases hd;exact EqAt.str_bool _ _ _
   |int y t=>cases hd;exact EqAt.str_int _ _ _ _
   |str y t=>cases hd;exact EqAt.str_str _ _ _ _
   |tup p q=>cases hd;exact EqAt.str_tuple _ _ p hu
   |fl p q=>cases hd;exact EqAt.str_list _ _ p hu
  |tup p q=>cases r2 with
   |oth k=>rw[gB k] at hd;cases hd
   |non=>cases hd;exact EqAt.tuple_none p hu
   |bl y=>cases hd;exact EqAt.tuple_bool _ p hu
   |int y t=>cases hd;exact EqAt.tuple_int _ _ p hu
   |str y t=>cases hd;exact EqAt.tuple_str _ _ p hu
   |tup p2 q2=>cases hd
   |fl p2 q2=>cases hd;exact EqAt.tuple_list p p2 hu
  |fl p q=>cases r2 with
   |oth k=>rw[gB k] at hd;cases hd
   |non=>cases hd;exact EqAt.list_none p hu
   |bl y=>cases hd;exact EqAt.list_bool _ p hu
   |int y t=>cases hd;exact EqAt.list_int _ _ p hu
   |str y t=>cases hd;exact EqAt.list_str _ _ p hu
   |tup p2 q2=>cases hd;exact EqAt.list_tuple p p2 hu
   |fl p2 q2=>cases hd
 |succ n ih=>
  intro A d1 d2 u1 u2 b FW r1 r2 hd;have hu:A.units<cLine:=by lia
  have iG:A.in1.units+n<cLine:=by show A.units+1+n<cLine;lia
  cases r1 with
  |oth k=>rw[iD k] at hd;cases hd
  |non=>cases r2 with
   |oth k=>rw[gB k] at hd;cases hd
   |non=>cases hd;exact EqAt.same _
   |bl y=>cases hd;exact EqAt.none_bool _
   |int y t=>cases hd;exact EqAt.none_int _ _
   |str y t=>cases hd;exact EqAt.none_str _ _
   |tup p q=>cases hd;exact EqAt.none_tuple p hu
   |fl p q=>cases hd;exact EqAt.none_list p hu
  |bl x=>cases r2 with
   |oth k=>rw[gB k] at hd;cases hd
   |non=>cases hd;exact EqAt.bool_none _
   |bl y=>cases hd;exact EqAt.bool_bool _ _
   |int y t=>cases hd;exact EqAt.bool_int _ _ _
   |str y t=>cases hd;exact EqAt.bool_str _ _ _
   |tup p q=>cases hd;exact EqAt.bool_tuple _ p hu
   |fl p q=>cases hd;exact EqAt.bool_list _ p hu
  |int x t=>cases r2 with
   |oth k=>rw[gB k] at hd;cases hd
   |non=>cases hd;exact EqAt.int_none _ _
   |bl y=>cases hd;exact EqAt.int_bool _ _ _
   |int y t=>cases hd;exact EqAt.int_int _ _ _ _
   |str y t=>cases hd;exact EqAt.int_str _ _ _ _
   |tup p q=>cases hd;exact EqAt.int_tuple _ _ p hu
   |fl p q=>cases hd;exact EqAt.int_list _ _ p hu
  |str x t=>cases r2 with
   |oth k=>rw[gB k] at hd;cases hd
   |non=>cases hd;exact EqAt.str_none _ _
   |bl y=>cases hd;exact EqAt.str_bool _ _ _
   |int y t=>cases hd;exact EqAt.str_int _ _ _ _
   |str y t=>cases hd;exact EqAt.str_str _ _ _ _
   |tup p q=>cases hd;exact EqAt.str_tuple _ _ p hu
   |fl p q=>cases hd;exact EqAt.str_list _ _ p hu
  |@tup a1 xs is p q=>cases r2 with
   |oth k=>rw[gB k] at hd;cases hd
   |non=>cases hd;exact EqAt.tuple_none p hu
   |bl y=>cases hd;exact EqAt.tuple_bool _ p hu
   |int y t=>cases hd;exact EqAt.tuple_int _ _ p hu
   |str y t=>cases hd;exact EqAt.tuple_str _ _ p hu
   |@tup a2 ys js p2 q2=>
    by_cases ea:a1=a2
    ·subst ea;have:=Pg (n+1) (.tup p q) (.tup p2 q2) hd;subst this;exact EqAt.same _
    ·obtain⟨e,he,hb⟩:=parts (A:=A.in1) q q2 hd λa b c=>ih iG a b c;rw[hb];exact EqAt.of_refs ea (RcAt.tuples p p2 hu he)
   |fl p2 q2=>cases hd;exact EqAt.tuple_list p p2 hu
  |@fl a1 xs is p q=>cases r2 with
   |oth k=>rw[gB k] at hd;cases hd
   |non=>cases hd;exact EqAt.list_none p hu
   |bl y=>cases hd;exact EqAt.list_bool _ p hu
   |int y t=>cases hd;exact EqAt.list_int _ _ p hu
   |str y t=>cases hd;exact EqAt.list_str _ _ p hu
   |tup p2 q2=>cases hd;exact EqAt.list_tuple p p2 hu
   |@fl a2 ys js p2 q2=>
    by_cases ea:a1=a2
    ·subst ea;have:=Pg (n+1) (.fl p q) (.fl p2 q2) hd;subst this;exact EqAt.same _
    ·obtain⟨e,he,hb⟩:=parts (A:=A.in1) q q2 hd λa b c=>ih iG a b c;exact EqAt.of_refs ea (VG p p2 hu he hb)
end
section
variable {X:Cx}{cA:Cl}{ao:List (Addr×Obj)}{Z:L2.St}{H:Hp}{s:Shared}{U:Ph}{h:Heap}
open SeqAt in
theorem VH(FW:A.units+(n+1)<cLine)(r1:Is s.heap d1 u1)(r2:Is s.heap d2 u2)(hd:cR (n+1) d1 d2=some b):RcAt A s u1 u2 b/\RcNeAt A s u1 u2 (!b):=by
 have hu:A.units<cLine:=by lia
 have iG:A.in1.units+n<cLine:=by show A.units+1+n<cLine;lia
 cases r1 with
 |oth k=>rw[iD k] at hd;cases hd
 |non=>cases r2 with
  |oth k=>rw[gB k] at hd;cases hd
  |non=>cases hd;exact⟨RcAt.none_none,RcNeAt.none_none⟩
  |bl y=>cases hd;exact⟨RcAt.none_bool _,RcNeAt.none_bool _⟩
  |int y t=>cases hd;exact⟨RcAt.none_int _ _,RcNeAt.none_int _ _⟩
  |str y t=>cases hd;exact⟨RcAt.none_str _ _,RcNeAt.none_str _ _⟩
  |tup p q=>cases hd;exact⟨RcAt.none_tuple p hu,RcNeAt.none_tuple p hu⟩
  |fl p q=>cases hd;exact⟨RcAt.none_list p hu,RcNeAt.none_list p hu⟩
 |bl x=>cases r2 with
  |oth k=>rw[gB k] at hd;cases hd
  |non=>cases hd;exact⟨RcAt.bool_none _,RcNeAt.bool_none _⟩
  |bl y=>cases hd;exact⟨RcAt.bool_bool _ _,RcNeAt.bool_bool _ _⟩
  |int y t=>cases hd;exact⟨RcAt.bool_int _ _ _,RcNeAt.bool_int _ _ _⟩
  |str y t=>cases hd;exact⟨RcAt.bool_str _ _ _,RcNeAt.bool_str _ _ _⟩
  |tup p q=>cases hd;exact⟨RcAt.bool_tuple _ p hu,RcNeAt.bool_tuple _ p hu⟩
  |fl p q=>cases hd;exact⟨RcAt.bool_list _ p hu,RcNeAt.bool_list _ p hu⟩
 |int x t=>cases r2 with
  |oth k=>rw[gB k] at hd;cases hd
  |non=>cases hd;exact⟨RcAt.int_none _ _,RcNeAt.int_none _ _⟩
  |bl y=>cases hd;exact⟨RcAt.int_bool _ _ _,RcNeAt.int_bool _ _ _⟩
  |int y t=>cases hd;exact⟨RcAt.int_int _ _ _ _,RcNeAt.int_int _ _ _ _⟩
  |str y t=>cases hd;exact⟨RcAt.int_str _ _ _ _,RcNeAt.int_str _ _ _ _⟩
  |tup p q=>cases hd;exact⟨RcAt.int_tuple _ _ p hu,RcNeAt.int_tuple _ _ p hu⟩
  |fl p q=>cases hd;exact⟨RcAt.int_list _ _ p hu,RcNeAt.int_list _ _ p hu⟩
 |str x t=>cases r2 with
  |oth k=>rw[gB k] at hd;cases hd
  |non=>cases hd;exact⟨RcAt.str_none _ _,RcNeAt.str_none _ _⟩
  |bl y=>cases hd;exact⟨RcAt.str_bool _ _ _,RcNeAt.str_bool _ _ _⟩
  |int y t=>cases hd;exact⟨RcAt.str_int _ _ _ _,RcNeAt.str_int _ _ _ _⟩
  |str y t=>cases hd;exact⟨RcAt.str_str _ _ _ _,RcNeAt.str_str _ _ _ _⟩
  |tup p q=>cases hd;exact⟨RcAt.str_tuple _ _ p hu,RcNeAt.str_tuple _ _ p hu⟩
  |fl p q=>cases hd;exact⟨RcAt.str_list _ _ p hu,RcNeAt.str_list _ _ p hu⟩
 |@tup a1 xs is p q=>cases r2 with
  |oth k=>rw[gB k] at hd;cases hd
  |non=>cases hd;exact⟨RcAt.tuple_none p hu,RcNeAt.tuple_none p hu⟩
  |bl y=>cases hd;exact⟨RcAt.tuple_bool _ p hu,RcNeAt.tuple_bool _ p hu⟩
  |int y t=>cases hd;exact⟨RcAt.tuple_int _ _ p hu,RcNeAt.tuple_int _ _ p hu⟩
  |str y t=>cases hd;exact⟨RcAt.tuple_str _ _ p hu,RcNeAt.tuple_str _ _ p hu⟩
  |@tup a2 ys js p2 q2=>
   obtain⟨e,he,hb⟩:=parts (A:=A.in1) q q2 hd λa b c=>FT n iG a b c;rw[hb];exact⟨RcAt.tuples p p2 hu he,RcNeAt.tuples p p2 hu he⟩
  |fl p2 q2=>cases hd;exact⟨RcAt.tuple_list p p2 hu,RcNeAt.tuple_list p p2 hu⟩
 |@fl a1 xs is p q=>cases r2 with
  |oth k=>rw[gB k] at hd;cases hd
  |non=>cases hd;exact⟨RcAt.list_none p hu,RcNeAt.list_none p hu⟩
  |bl y=>cases hd;exact⟨RcAt.list_bool _ p hu,RcNeAt.list_bool _ p hu⟩
  |int y t=>cases hd;exact⟨RcAt.list_int _ _ p hu,RcNeAt.list_int _ _ p hu⟩
  |str y t=>cases hd;exact⟨RcAt.list_str _ _ p hu,RcNeAt.list_str _ _ p hu⟩
  |tup p2 q2=>cases hd;exact⟨RcAt.list_tuple p p2 hu,RcNeAt.list_tuple p p2 hu⟩
  |@fl a2 ys js p2 q2=>
   obtain⟨e,he,hb⟩:=parts (A:=A.in1) q q2 hd λa b c=>FT n iG a b c;exact⟨VG p p2 hu he hb,zgc p p2 hu he hb⟩
noncomputable def u5(K:W.Frag)(cA:Cl)(f:Bool->Bool):R2:=λx y H Q=>∃U d1 d2 b,Rv K cA U H d1 x/\Rv K cA U H d2 y/\cR 50 d1 d2=some b/\Q (.bl (f b)) H
theorem zll(hu:X.A.units+60<cLine):eF X (compareOp .Eq) (u5 X.K cA id):=by
 intro ao s Z H x y v u Q I rx ry ⟨U,d1,d2,b,r1,r2,hd,q⟩;exact(VH (n:=49) (by lia) (Ba I r1 rx) (Ba I r2 ry) hd).1 X.prog X.w X.xe _ ⟨.bl b,H,I,rfl,q⟩
theorem zlw(hu:X.A.units+60<cLine):eF X (compareOp .NotEq) (u5 X.K cA not):=by
 intro ao s Z H x y v u Q I rx ry ⟨U,d1,d2,b,r1,r2,hd,q⟩;exact(VH (n:=49) (by lia) (Ba I r1 rx) (Ba I r2 ry) hd).2 X.prog X.w X.xe _ ⟨.bl (!b),H,I,rfl,q⟩
theorem ziL:∀(n:Nat) {d d' x:D} {u:Value} {b b':Bool},Is h d u->Is h d' u->cR n d x=some b->cR n d' x=some b'->b=b':=by
 intro n;have flat:∀{d d' x:D} {u:Value} {b b':Bool},Is h d u->Is h d' u->(∀xs xs',d=.tup xs->d'=.tup xs'->False)->(∀xs xs',d=.fl xs->d'=.fl xs'->False)->cR n d x=some b->cR n d' x=some b'->b=b':=by
  intro d d' x u b b' r1 r2 n1 n2 h1 h2;cases r1 with
  |oth k=>rw[iD k] at h1;cases h1
  |non=>cases r2 with
   |oth k=>rw[iD k] at h2;cases h2
   |non=>rw[h1] at h2;exact cj h2
  |bl y=>cases r2 with
   |oth k=>rw[iD k] at h2;cases h2
   |bl=>rw[h1] at h2;exact cj h2
  |int y=>cases r2 with
   |oth k=>rw[iD k] at h2;cases h2
   |int=>rw[h1] at h2;exact cj h2
  |str y=>cases r2 with
   |oth k=>rw[iD k] at h2;cases h2
   |str=>rw[h1] at h2;exact cj h2
  |tup p q=>cases r2 with
   |oth k=>rw[iD k] at h2;cases h2
   |tup=>exact(n1 _ _ rfl rfl).elim
   |fl p2 q2=>exact(tX p2 p).elim
  |fl p q=>cases r2 with
   |oth k=>rw[iD k] at h2;cases h2
   |fl=>exact(n2 _ _ rfl rfl).elim
   |tup p2 q2=>exact(tX p p2).elim
 have tn:∀{n:Nat} {xs xs':List D} {x:D},(∀ys,x=.tup ys->False)->cR n (.tup xs) x=cR n (.tup xs') x:=λ{n xs xs' x} hx=>by
  cases n<;>cases x<;>first|rfl|exact(hx _ rfl).elim
 have ln:∀{n:Nat} {xs xs':List D} {x:D},(∀ys,x=.fl ys->False)->cR n (.fl xs) x=cR n (.fl xs') x:=λ{n xs xs' x} hx=>by
  cases n<;>cases x<;>first|rfl|exact(hx _ rfl).elim
 clear flat
 induction n with
 |zero=>
  intro d d' x u b b' r1 r2 h1 h2;cases r1 with
  |oth k=>rw[iD k] at h1;cases h1
  |non=>cases r2 with
   |oth k=>rw[iD k] at h2;cases h2
   |non=>rw[h1] at h2;exact cj h2
  |bl y=>cases r2 with
   |oth k=>rw[iD k] at h2;cases h2
   |bl=>rw[h1] at h2;exact cj h2
  |int y=>cases r2 with
   |oth k=>rw[iD k] at h2;cases h2
   |int=>rw[h1] at h2;exact cj h2
  |str y=>cases r2 with
   |oth k=>rw[iD k] at h2;cases h2
   |str=>rw[h1] at h2;exact cj h2
  |tup p q=>cases r2 with
   |oth k=>rw[iD k] at h2;cases h2
   |tup p2 q2=>
    cases x with
    |tup ys=>cases h1
    |_=>rw[tn (by intro ys z;cases z),h2] at h1;exact(cj h1).symm
   |fl p2 q2=>exact(tX p2 p).elim
  |fl p q=>cases r2 with
   |oth k=>rw[iD k] at h2;cases h2
   |fl p2 q2=>
    cases x with
    |fl ys=>cases h1
    |_=>rw[ln (by intro ys z;cases z),h2] at h1;exact(cj h1).symm
   |tup p2 q2=>exact(tX p p2).elim
 |succ n ih=>
  intro d d' x u b b' r1 r2 h1 h2;have rows:∀{xs xs' ys:List D} {is js:List Value} {b b':Bool},iZ h xs is->iZ h xs' js->is.toArray=js.toArray->c7 (cR n) xs ys=some b->c7 (cR n) xs' ys=some b'->b=b':=by
   intro xs xs' ys is js b b' q1 q2 e h1 h2;have e:is=js:=by simpa using e
   subst e;obtain⟨e1,a1,b1⟩:=FQ h1;obtain⟨e2,a2,b2⟩:=FQ h2;have hl:xs.length=xs'.length:=q1.len.trans q2.len.symm;rw[b1,b2,hl]
   congr 1
   rw[Bool.eq_iff_iff,jx,jx];have key:∀j∈List.range (min xs'.length ys.length),e1 j=e2 j:=λj hj=>by
    have hj:=xO.mp hj;obtain⟨x1,VJ⟩ : ∃x,xs[j]?=some x:=⟨_,dj (by rw[hl];exact gR hj (Nat.min_le_left _ _))⟩;obtain⟨x2,Jm⟩ : ∃x,xs'[j]?=some x:=⟨_,dj (gR hj (Nat.min_le_left _ _))⟩;obtain⟨y,hy⟩ : ∃y,ys[j]?=some y:=⟨_,dj (gR hj (Nat.min_le_right _ _))⟩;obtain⟨v1,f1,p1⟩:=q1.get VJ;obtain⟨v2,f2,p2⟩:=q2.get Jm;rw[f1] at f2;cases f2;exact ih p1 p2 (a1 j x1 y VJ hy) (a2 j x2 y Jm hy)
   exact⟨λz j hj=>by rw[<-key j hj];exact z j hj,λz j hj=>by rw[key j hj];exact z j hj⟩
  cases r1 with
  |oth k=>rw[iD k] at h1;cases h1
  |non=>cases r2 with
   |oth k=>rw[iD k] at h2;cases h2
   |non=>rw[h1] at h2;exact cj h2
  |bl y=>cases r2 with
   |oth k=>rw[iD k] at h2;cases h2
   |bl=>rw[h1] at h2;exact cj h2
  |int y=>cases r2 with
   |oth k=>rw[iD k] at h2;cases h2
   |int=>rw[h1] at h2;exact cj h2
  |str y=>cases r2 with
   |oth k=>rw[iD k] at h2;cases h2
   |str=>rw[h1] at h2;exact cj h2
  |tup p q=>cases r2 with
   |oth k=>rw[iD k] at h2;cases h2
   |tup p2 q2=>
    cases x with
    |tup ys=>exact rows q q2 (VD p p2) h1 h2
    |_=>rw[tn (by intro ys z;cases z),h2] at h1;exact(cj h1).symm
   |fl p2 q2=>exact(tX p2 p).elim
  |fl p q=>cases r2 with
   |oth k=>rw[iD k] at h2;cases h2
   |fl p2 q2=>
    cases x with
    |fl ys=>exact rows q q2 (VF p p2) h1 h2
    |_=>rw[ln (by intro ys z;cases z),h2] at h1;exact(cj h1).symm
   |tup p2 q2=>exact(tX p p2).elim
theorem VL:∀{xs:List D} {b:Bool},memD x xs=some b->∀d∈xs,∃k,cR 50 d x=some k
 |[],_,_,d,hd=>by cases hd
 |y::xs,b,h,d,hd=>by
  unfold memD at h;cases e1:cR 50 y x with
  |none=>simp only[e1] at h;cases h
  |some a=>
   cases e2:memD x xs with
   |none=>simp only[e1,e2] at h;cases h
   |some c=>
    rcases jd.mp hd with rfl|hd
    ·exact⟨a,e1⟩
    ·exact VL e2 d hd
theorem VN:∀{xs:List D} {us:List Value} {b:Bool},memD x xs=some b->iZ h xs us->∃e:Value->Bool,(∀u∈us,∃d,Is h d u/\cR 50 d x=some (e u))/\us.any e=b:=by
 intro xs us b hm r;have ex:∀u∈us,∃d k,Is h d u/\cR 50 d x=some k:=by
  intro u hu;obtain⟨i,hi,e⟩:=vO hu;have hl:=r.len;obtain⟨d,hd⟩ : ∃d,xs[i]?=some d:=⟨_,dj (by lia)⟩;obtain⟨u',e1,q⟩:=r.get hd;rw[dj hi,e] at e1;cases e1;obtain⟨k,hk⟩:=VL hm d (fB hd);exact⟨d,k,q,hk⟩
 refine⟨λu=>by classical exact if z:∃k,∃d,Is h d u/\cR 50 d x=some k then z.choose else false,λu hu=>?_,?_⟩
 ·obtain⟨d,k,q,hk⟩:=ex u hu;have z:∃k,∃d,Is h d u/\cR 50 d x=some k:=⟨k,d,q,hk⟩;dsimp only;rw[dif_pos z];exact z.choose_spec
 ·clear ex;have key:∀(xs:List D) (us:List Value) (b:Bool),memD x xs=some b->iZ h xs us->us.any (λu=>by classical exact if z:∃k,∃d,Is h d u/\cR 50 d x=some k then z.choose else false)=b:=by
   intro xs
   induction xs with
   |nil=>intro us b hm r;cases r;cases hm;rfl
   |cons d ds ih=>
    intro us b hm r;cases r with
    |@cons _ u _ us a r=>
     unfold memD at hm;cases e1:cR 50 d x with
     |none=>simp only[e1] at hm;cases hm
     |some k=>
      cases e2:memD x ds with
      |none=>simp only[e1,e2] at hm;cases hm
      |some c=>
       simp only[e1,e2] at hm;cases hm;rw[List.any_cons];have z:∃k,∃d,Is h d u/\cR 50 d x=some k:=⟨k,d,a,e1⟩;have hk:z.choose=k:=by
        obtain⟨d',q,CW⟩:=z.choose_spec;exact ziL 50 q a CW e1
       rw[dif_pos z,hk,ih us c e2 r]
  exact key xs us b hm r
noncomputable def FZ(K:W.Frag)(cA:Cl)(f:Bool->Bool):R2:=λx y H Q=>∃U d1 d2 xs b,Rv K cA U H d1 x/\Rv K cA U H d2 y/\lu d2=some xs/\memD d1 xs=some b/\Q (.bl (f b)) H
theorem zk2(hu:X.A.units+60<cLine):eF X (compareOp .In) (FZ X.K cA id):=by
 intro ao s Z H x y v u Q I rx ry ⟨U,d1,d2,xs,b,r1,r2,hq,hm,q⟩;have iG:X.A.in1.units+50<cLine:=by show X.A.units+1+50<cLine;lia
 have i1:=Ba I r1 rx;cases Ba I r2 ry with
 |tup p r=>
  cases hq;obtain⟨e,he,hb⟩:=VN hm r;refine SeqAt.in_tupleAt e p (λw hw=>?_) ⟨.bl b,H,I,by rw[<-hb];simp[L2.RelV],q⟩;obtain⟨d,q1,q2⟩:=he w (by simpa using hw);exact FT 50 iG q1 i1 q2
 |fl p r=>
  cases hq;obtain⟨e,he,hb⟩:=VN hm r;refine SeqAt.in_listAt e p (λw hw=>?_) ⟨.bl b,H,I,by rw[<-hb];simp[L2.RelV],q⟩;obtain⟨d,q1,q2⟩:=he w (by simpa using hw);exact FT 50 iG q1 i1 q2
 |oth k=>cases d2<;>cases hq<;>cases k
 |_=>cases hq
end
end Mi
namespace HT
open PySem PyProof.Rows
section
variable {prog:Program}{w:World}{A:Around}{E:Value->Shared->Prop}{s:Shared}
theorem rH{t b:Addr}{vs ws:List Value}{Q:Value->Shared->Prop}(ht:IsTup s.heap t vs.toArray)(hb:IsTup s.heap b ws.toArray)(hv:vs=[])
  (h1:Q (.ref b) s):wpAny (model prog w) A (binaryOp .Add (.ref t) (.ref b)) Q E s:=by
 obtain⟨⟨cls,dd,data,sl⟩,ho,hc,n,hd⟩:=id ht;obtain⟨⟨cls2,dd2,data2,sl2⟩,nF,oJ,n2,hd2⟩:=id hb;simp only at hc hd oJ hd2;subst hc hd oJ hd2;exact concat_meets ⟨_,ho,rfl⟩ ⟨_,nF,rfl⟩ noFill_tuple_add seq_tuple_add Lh Le (Lb _ _)
   (tuple_addW0 t b vs.toArray ws.toArray n n2 dd dd2 sl sl2 (by simp[hv])) ⟨ho,nF,h1⟩
theorem fL{t sl:Addr}{items:Array Value}{vl vu:Value}{lo hi:Option Int}{Q:Value->Shared->Prop}(ht:IsTup s.heap t items)(hs:s.heap.IsSliceOf sl vl vu .none)(pl:IsPart vl lo)(pu:IsPart vu hi)
  (hw:bL items.size 0 lo=0/\bL items.size items.size hi=items.size) (h:Q (.ref t) s):wpAny (model prog w) A (getItem (.ref t) (.ref sl)) Q E s:=by
 obtain⟨os,yD,Jj,DP⟩:=id hs;have Nk:s.TypeIs (.ref sl) "slice":=⟨os,yD,Jj⟩;unfold getItem
 try with_reducible refine qy ?_
 first|refine aC (aU ?_)|skip
 refine aC (wpAny_sequenceKey ht.typeIs (by decide) ?_);refine aC (xr (name:=Str.ofString "__getitem__") ht.typeIs zR
  (vR zR ht.typeIs entry_tuple_getitem ?_ (args_tuple_getitem _ _)))
 show wpAny _ _ (Builtin.Tuple.tupleItemsOf (.ref t) >>= _) _ _ s;refine aC (tupleItemsOf_ ht ?_);refine aC (wpAny_typeOf Nk ?_);rw[if_pos (by decide)];refine aC (Uz hs pl pu ?_);have Pk:(((bL items.size 0 lo:Nat):Int)==0&&(1:Int)==1&&(bL items.size items.size hi-bL items.size 0 lo)==items.size)=true:=by
  rw[hw.1,hw.2];simp
 show wpAny _ _ (if (((bL items.size 0 lo:Nat):Int)==0&&(1:Int)==1&&(bL items.size items.size hi-bL items.size 0 lo)==items.size)=true then _ else _) _ _ s;rw[if_pos Pk];refine aC ?_;unfold Builtin.Tuple.tupleIsExact;refine aC (wpAny_typeOf ht.typeIs ?_);refine aU ?_;rw[if_pos (by decide)];refine aC (wpAny_rule ?_);exact aU ⟨_,rfl,aU h⟩
end
end HT
namespace L2
open PySem PySem.Spec PyProof.Rows
section
variable {X:Cx}{e:Expr}{te:TE}{pos p2:Pos}
noncomputable def rJ(K:W.Frag):R2:=λx y H Q=>∃a b xs ys,x=.ref a/\y=.ref b/\fP K H a xs/\fP K H b ys/\xs.length+ys.length<=sizeLine /\
 (xs=[]->Q (.ref b) H)/\(ys=[]->Q (.ref a) H)/\∀p,H p=none->Q (.ref p) (upd H p (.tup (xs++ys)))
theorem rK:eF X (binaryOp .Add) (rJ X.K):=by
 intro ao s Z H x y v u Q I rx ry h;obtain⟨a,b,xs,ys,rfl,rfl,ha,hb,hz,q0,q1,q2⟩:=h;cases rx;cases ry;obtain⟨its,r1,p1,_⟩:=I.tuple ha;obtain⟨its2,r2,p2,_⟩:=I.tuple hb;by_cases hx:xs=[]
 ·exact HT.rH p1 p2 (r1.k_.mpr hx) ⟨.ref b,H,I,rfl,q0 hx⟩
 ·refine HT.uG p1 p2 (λz=>hx (r1.k_.mp z)) (λz=>⟨.ref a,H,I,rfl,q1 (r2.k_.mp z)⟩) (λz=>?_) (by rw[<-r1.length,<-r2.length];exact hz);refine⟨.ref s.heap.objs.size,_,I.laid (t':=s.toks) (o:=.tup (xs++ys)) (λb ob q=>cJ _ q) (bJ _) ?_,rfl,q2 _ (I.hok.fresh (bJ _))⟩;exact⟨by rw[mZ];exact hz,_,r1.append r2,IsTup.new _ _⟩
noncomputable def wI(K:W.Frag):V->Option Int->Option Int->Hp->VK->Prop:=λx lo hi H Q=>∃a xs,x=.ref a/\fP K H a xs /\
 ((HT.bL xs.length 0 lo=0/\HT.bL xs.length xs.length hi=xs.length)->Q (.ref a) H)/\∀p,H p=none->Q (.ref p) (upd H p (.tup (kZ xs lo hi)))
theorem ziB:uK X (wI X.K):=by
 intro ao s Z H x v vl vu lo hi sl Q I rx hs pl pu h;obtain⟨a,xs,rfl,hx,hw,q⟩:=h;by_cases hz:HT.bL xs.length 0 lo=0/\HT.bL xs.length xs.length hi=xs.length
 ·cases rx;obtain⟨its,r,ht,_⟩:=I.tuple hx;have hlen:its.toArray.size=xs.length:=by rw[fH];exact r.length.symm
  refine⟨"tuple",_,zR.lookup,ht.typeIs,?_⟩;exact HT.fL ht hs pl pu (by rw[hlen];exact hz) ⟨.ref a,H,I,rfl,hw hz⟩
 ·exact zks ao s Z H (.ref a) v vl vu lo hi sl Q I rx hs pl pu ⟨a,xs,rfl,hx,hz,q⟩
end
section
variable {X:Cx}
noncomputable def wJ(K:W.Frag):R2:=λx y H Q=>∃l b xs zs,x=.ref l/\y=.ref b/\cL K H l xs/\cL K H b zs/\xs.length+zs.length<=sizeLine/\∀p,H p=none->Q (.ref p) (upd H p (.lst (xs++zs)))
theorem u6:eF X (binaryOp .Add) (wJ X.K):=by
 intro ao s Z H x y v u Q I rx ry h;obtain⟨l,b,xs,zs,rfl,rfl,hH,hB,hz,q⟩:=h;cases rx;cases ry;obtain⟨its,r,pl,_⟩:=I.list hH;obtain⟨its2,r2,pl2,_⟩:=I.list hB;obtain⟨⟨cls,dd,data,sl⟩,ho,hc,n,hd⟩:=pl.isList;obtain⟨⟨cls2,dd2,data2,sl2⟩,nF,oJ,n2,hd2⟩:=pl2.isList;simp only at hc hd oJ hd2;subst hc hd oJ hd2;refine concat_meets ⟨_,ho,rfl⟩ ⟨_,nF,rfl⟩ noFill_list_add seq_list_add PySem.F.slot_list_add PySem.F.entry_list_add (PySem.F.args_list_add_2 _ _) (list_addW l b its.toArray its2.toArray n n2 dd dd2 sl sl2 (by rw[fH,fH,<-r.length,<-r2.length];exact hz)) ⟨ho,nF,?_⟩;have ea:its.toArray++its2.toArray=(its++its2).toArray:=by simp
 rw[ea];exact⟨.ref _,_,I.Nt (t':=s.toks) (r.append r2) (by rw[mZ];omega),rfl,q _ I.fresh⟩
noncomputable def oZ(K:W.Frag):R2:=λx y H Q=>nu (λi j=>.int (i+j)) x y H Q\/wJ K x y H Q\/rJ K x y H Q\/∃i j,x=.str i/\y=.str j/\i.length+j.length<=sizeLine/\Q (.str (i++j)) H
theorem ze1:eF X (binaryOp .Add) (oZ X.K):=yu.or (u6.or (rK.or zeX))
end
end L2
namespace Mi
open PySem PySem.Spec PyProof.Rows L2
section
variable {K:W.Frag}{cA:Cl}{U:Ph}{H:Hp}{Q:VK}{p:Pr}
theorem bG.some'{o:Option Rz}(h:bG K cA U H o Q):∃z,o=some z:=by
 cases o with
 |none=>exact h.elim
 |some z=>exact⟨z,rfl⟩
theorem bG.of{o:Option Rz}{z:Rz}(h:bG K cA U H o Q)(e:o=some z):bG K cA U H (some z) Q:=e▸h
theorem bG.here{d:D}{v:V}(h:bG K cA U H (some (.dat d)) Q)(r:Rep K cA U H d v):Q v H:=h H v bf.refl r
theorem bG.tup{xs:List D}{vs:List V}{a:Addr}(h:bG K cA U H (some (.dat (.tup xs))) Q)(z:Zt U H)(r:aB K cA U H xs vs)(hp:H a=none):Q (.ref a) (upd H a (.tup vs)):=
 h _ _ (bf.new hp) (.tup (TupAt.new (z.nz hp)) (r.mono (bf.new hp).ext z.lz))
theorem uX.two{ds:List D}{vs:List V}{d d':D}(h:uX K cA U H [d,d'] vs):∃v v',vs=[v,v']/\Rv K cA U H d v/\Rv K cA U H d' v':=by
 cases h with
 |cons a r=>cases r with
  |cons b r=>cases r;exact⟨_,_,rfl,a,b⟩
theorem uX.one(h:uX K cA U H [d] vs):∃v,vs=[v]/\Rv K cA U H d v:=by
 cases h with
 |cons a r=>cases r;exact⟨_,rfl,a⟩
theorem Rv.int{i:Int}{v:V}(h:Rv K cA U H (.int i) v):v=.int i:=by cases (show Rep K cA U H (.int i) v from h);rfl
theorem Rv.bl{i:Bool}{v:V}(h:Rv K cA U H (.bl i) v):v=.bl i:=by cases (show Rep K cA U H (.bl i) v from h);rfl
theorem Rv.str{i:Str}{v:V}(h:Rv K cA U H (.str i) v):v=.str i:=by cases (show Rep K cA U H (.str i) v from h);rfl
theorem Rv.tup{xs:List D}{v:V}(h:Rv K cA U H (.tup xs) v):∃a vs,v=.ref a/\TupAt K U H a vs/\aB K cA U H xs vs:=by
 cases (show Rep K cA U H (.tup xs) v from h) with
 |tup a r=>exact⟨_,_,rfl,a,r⟩
theorem Rv.sq{d:D}{xs:List D}{v:V}(h:Rv K cA U H d v)(e:lu d=some xs):∃a vs,v=.ref a/\(cL K H a vs\/fP K H a vs)/\aB K cA U H xs vs:=by
 cases d with
 |tup ys=>
  cases e;obtain⟨a,vs,e,t,r⟩:=Rv.tup h;exact⟨a,vs,e,.inr t.iY,r⟩
 |fl ys=>
  cases e;obtain⟨a,vs,e,l,r⟩:=h;exact⟨a,vs,e,.inl l,r⟩
 |_=>cases e
theorem VP{f:Int->Int->Option D}{ds:List D}{z:Rz}(h:cN f ds=some z):∃i j d,ds=[.int i,.int j]/\f i j=some d/\z=.dat d:=by
 cases ds with
 |nil=>cases h
 |cons a t=>
 cases a with
 |int i=>
  cases t with
  |nil=>cases h
  |cons b t=>
  cases b with
  |int j=>
   cases t with
   |cons _ _=>cases h
   |nil=>
    obtain⟨d,e1,e2⟩:=jZ.mp h;exact⟨_,_,d,rfl,e1,e2.symm⟩
  |_=>cases h
 |_=>cases h
theorem Ga{f:Int->Int->Option D}(hp:prim p=cN f){C:Int->Int->Prop}{g:Int->Int->V}(hf:∀i j d,f i j=some d->C i j/\∀U H,Rep K cA U H d (g i j)):bx K cA p (r2 (rI C g)):=by
 intro U H ds vs Q zt rs o;rw[hp] at o;obtain⟨z,e⟩:=o.some';obtain⟨i,j,d,rfl,e1,rfl⟩:=VP e;obtain⟨c,r⟩:=hf i j d e1;obtain⟨v,v',rfl,r1,r2⟩:=rs.two (ds:=[]);rw[r1.int,r2.int];exact⟨_,_,rfl,i,j,rfl,rfl,c,(o.of e).here (r U H)⟩
theorem Bb{f:Int->Int->D}(hp:prim p=cN λi j=>some (f i j)){g:Int->Int->V}(hf:∀i j U H,Rep K cA U H (f i j) (g i j)):bx K cA p (r2 (nu g)):=by
 intro U H ds vs Q zt rs o;obtain⟨x,y,e,i,j,a,b,_,q⟩:=Ga (K:=K) (cA:=cA) (C:=λ_ _=>True) hp (λi j d e=>⟨trivial,λU H=>by cases e;exact hf i j U H⟩) U H ds vs Q zt rs o;exact⟨x,y,e,i,j,a,b,q⟩
theorem Gb{α:Type}{c:Prop}[Decidable c]{x y:α}(h:(if c then some x else none)=some y):c/\y=x:=by
 split at h
 ·rename_i z;cases h;exact⟨z,rfl⟩
 ·cases h
theorem zlk:bx K cA .aq (r2 (nu λi j=>.int (i-j))):=Bb (f:=λi j=>.int (i-j)) rfl λi j _ _=>.int _
theorem zkp:bx K cA .mul (r2 (rI uF λi j=>.int (i*j))):=Ga rfl λi j d e=>by obtain⟨c,rfl⟩:=Gb e;exact⟨c,λ_ _=>.int _⟩
theorem ziS:bx K cA .fdiv (r2 (rI uE λi j=>.int (i/j))):=Ga rfl λi j d e=>by obtain⟨c,rfl⟩:=Gb e;exact⟨c,λ_ _=>.int _⟩
theorem zjZ:bx K cA .mod (r2 (rI (λ_ j=>0<j) λi j=>.int (i%j))):=Ga rfl λi j d e=>by obtain⟨c,rfl⟩:=Gb e;exact⟨c,λ_ _=>.int _⟩
theorem zj1:bx K cA .pow (r2 (rI Dq λi j=>.int (i^j.toNat))):=Ga rfl λi j d e=>by obtain⟨c,rfl⟩:=Gb e;exact⟨c,λ_ _=>.int _⟩
theorem zmd:bx K cA .le (r2 (nu λi j=>.bl (decide (i<=j)))):=Bb (f:=λi j=>.bl (decide (i<=j))) rfl λi j _ _=>.bl _
theorem zmY:bx K cA .gt (r2 (nu λi j=>.bl (decide (j<i)))):=Bb (f:=λi j=>.bl (decide (j<i))) rfl λi j _ _=>.bl _
theorem zmo:bx K cA .ge (r2 (nu λi j=>.bl (decide (j<=i)))):=Bb (f:=λi j=>.bl (decide (j<=i))) rfl λi j _ _=>.bl _
theorem zlh:bx K cA .neg (λvs H Q=>∃x,vs=[x]/\rU (λi=>.int (-i)) x H Q):=by
 intro U H ds vs Q zt rs o;obtain⟨z,e⟩:=o.some';have e:oX (λi=>.int (-i)) ds=some z:=e;cases ds with
 |nil=>cases e
 |cons a t=>
 cases a with
 |int i=>
  cases t with
  |cons _ _=>cases e
  |nil=>
   cases e;obtain⟨v,rfl,r1⟩:=rs.one;exact⟨_,rfl,_,r1.int,bG.here (o.of rfl) (.int _)⟩
 |_=>cases e
theorem zmI:bx K cA .eq (r2 (u5 K cA id)):=by
 intro U H ds vs Q zt rs o;obtain⟨z,e⟩:=o.some';have e:yS id ds=some z:=e;unfold yS at e;split at e
 ·obtain⟨b,e1,e2⟩:=jZ.mp e;obtain⟨v,v',rfl,r1,r2⟩:=rs.two (ds:=[]);subst e2;exact⟨_,_,rfl,U,_,_,b,r1,r2,e1,(o.of e).here (.bl _)⟩
 ·cases e
theorem zmT:bx K cA .ne (r2 (u5 K cA not)):=by
 intro U H ds vs Q zt rs o;obtain⟨z,e⟩:=o.some';have e:yS not ds=some z:=e;unfold yS at e;split at e
 ·obtain⟨b,e1,e2⟩:=jZ.mp e;obtain⟨v,v',rfl,r1,r2⟩:=rs.two (ds:=[]);subst e2;exact⟨_,_,rfl,U,_,_,b,r1,r2,e1,(o.of e).here (.bl _)⟩
 ·cases e
theorem zhZ{f:Bool->Bool}{ds:List D}{z:Rz}(h:Az f ds=some z):∃a b xs k,ds=[a,b]/\lu b=some xs/\memD a xs=some k/\z=.dat (.bl (f k)):=by
 unfold Az at h;split at h
 ·obtain⟨k,e1,e2⟩:=jZ.mp h;obtain⟨xs,e3,e4⟩:=xu.mp e1;exact⟨_,_,xs,k,rfl,e3,e4,e2.symm⟩
 ·cases h
theorem zmp:bx K cA .inn (r2 (FZ K cA id)):=by
 intro U H ds vs Q zt rs o;obtain⟨z,e⟩:=o.some';obtain⟨a,b,xs,k,rfl,e1,e2,rfl⟩:=zhZ (show Az id ds=some z from e);obtain⟨v,v',rfl,r1,r2⟩:=rs.two (ds:=[]);exact⟨_,_,rfl,U,_,_,xs,k,r1,r2,e1,e2,(o.of e).here (.bl _)⟩
theorem JL:∀{xs:List D} {ns:List Int} {vs:List V},bU xs=some ns->aB K cA U H xs vs->vs=ns.map V.int
 |[],ns,vs,h,r=>by cases h;cases r;rfl
 |d::xs,ns,vs,h,r=>by
  cases d with
  |int i=>
   simp only[bU,jZ] at h;obtain⟨ns',h1,rfl⟩:=h;cases r with
   |cons a r=>cases a;rw[JL h1 r];rfl
  |_=>simp[bU] at h
theorem Pn:∀(a b:List Int),ltI a b=HT.lexLt a b
 |_,[]=>by cases ‹List Int›<;>rfl
 |[],_::_=>rfl
 |x::xs,y::ys=>by
  unfold ltI;rw[Pn xs ys,HT.jo]
theorem zl6:bx K cA .lt (r2 λx y H Q=>nu (λi j=>.bl (decide (i<j))) x y H Q\/DR K x y H Q):=by
 intro U H ds vs Q zt rs o;obtain⟨z,e⟩:=o.some';have e:Fd ds=some z:=e;unfold Fd at e;split at e
 ·cases e;obtain⟨v,v',rfl,r1,r2⟩:=rs.two (ds:=[]);exact⟨_,_,rfl,.inl ⟨_,_,r1.int,r2.int,bG.here (o.of rfl) (.bl _)⟩⟩
 ·split at e
  ·rename_i a b h1 h2;cases e;obtain⟨v,v',rfl,r1,r2⟩:=rs.two (ds:=[]);obtain⟨p,us,rfl,t1,q1⟩:=r1.tup;obtain⟨p',us',rfl,t2,q2⟩:=r2.tup;have o2:bG K cA U H (some (.dat (.bl (ltI a b)))) Q:=by
    have o3:bG K cA U H (Fd [.tup _,.tup _]) Q:=o;unfold Fd at o3;simp only[h1,h2] at o3;exact o3
   refine⟨_,_,rfl,.inr ⟨p,p',a,b,rfl,rfl,by rw[<-JL h1 q1];exact t1.iY,by rw[<-JL h2 q2];exact t2.iY,?_⟩⟩;rw[<-Pn];exact o2.here (.bl _)
  ·cases e
 ·cases e
theorem zkN:bx K cA .add (r2 (oZ K)):=by
 intro U H ds vs Q zt rs o;have o:bG K cA U H (yR ds) Q:=o;cases ds with
 |nil=>exact False.elim o
 |cons a t=>
 cases a with
 |int i=>
  cases t with
  |nil=>exact False.elim o
  |cons b t=>
  cases b with
  |int j=>
   cases t with
   |cons _ _=>exact False.elim o
   |nil=>
    obtain⟨v,v',rfl,r1,r2⟩:=rs.two (ds:=[]);exact⟨_,_,rfl,.inl ⟨_,_,r1.int,r2.int,bG.here o (.int _)⟩⟩
  |_=>exact False.elim o
 |tup xs=>
  cases t with
  |nil=>exact False.elim o
  |cons b t=>
  cases b with
  |tup ys=>
   cases t with
   |cons _ _=>exact False.elim o
   |nil=>
    obtain⟨v,v',rfl,r1,r2⟩:=rs.two (ds:=[]);obtain⟨p,us,rfl,t1,q1⟩:=r1.tup;obtain⟨p',us',rfl,t2,q2⟩:=r2.tup;have o:bG K cA U H (if xs.length+ys.length<=sizeLine then some (.dat (.tup (xs++ys))) else none) Q:=o;by_cases hz:xs.length+ys.length<=sizeLine
    ·rw[if_pos hz] at o;refine⟨_,_,rfl,.inr (.inr (.inl ⟨p,p',us,us',rfl,rfl,t1.iY,t2.iY,by rw[<-q1.len,<-q2.len];exact hz,λe=>?_,λe=>?_,λa ha=>o.tup zt (q1.app q2) ha⟩))⟩
     ·subst e;cases q1;exact o.here (.tup t2 q2)
     ·subst e;cases q2;rw[vU] at o;exact o.here (.tup t1 q1)
    ·rw[if_neg hz] at o;exact o.elim
  |_=>exact False.elim o
 |fl xs=>
  cases t with
  |nil=>exact False.elim o
  |cons b t=>
  cases b with
  |fl ys=>
   cases t with
   |cons _ _=>exact False.elim o
   |nil=>
    obtain⟨v,v',rfl,⟨p,us,rfl,t1,q1⟩,⟨p',us',rfl,t2,q2⟩⟩:=rs.two (ds:=[]);have o:bG K cA U H (if xs.length+ys.length<=sizeLine then some (.nw (xs++ys)) else none) Q:=o;by_cases hz:xs.length+ys.length<=sizeLine
    ·rw[if_pos hz] at o;exact⟨_,_,rfl,.inr (.inl ⟨p,p',us,us',rfl,rfl,t1,t2,by rw[<-q1.len,<-q2.len];exact hz,λa ha=>o a _ ha (q1.app q2)⟩)⟩
    ·rw[if_neg hz] at o;exact o.elim
  |_=>exact False.elim o
 |str x=>
  cases t with
  |nil=>exact False.elim o
  |cons b t=>
  cases b with
  |str y=>
   cases t with
   |cons _ _=>exact False.elim o
   |nil=>
    obtain⟨v,v',rfl,r1,r2⟩:=rs.two (ds:=[]);have o:bG K cA U H (if x.length+y.length<=sizeLine then some (.dat (.str (x++y))) else none) Q:=o;by_cases hz:x.length+y.length<=sizeLine
    ·rw[if_pos hz] at o;exact⟨_,_,rfl,.inr (.inr (.inr ⟨_,_,r1.str,r2.str,hz,o.here (.str _)⟩))⟩
    ·rw[if_neg hz] at o;exact o.elim
  |_=>exact False.elim o
 |_=>exact False.elim o
theorem zj0:bx K cA .len (λxs H Q=>∃p ys,xs=[.ref p]/\(cL K H p ys\/fP K H p ys)/\Q (.int ys.length) H):=by
 intro U H ds vs Q zt rs o;have o:bG K cA U H (pY (λxs=>some (.dat (.int xs.length))) ds) Q:=o;unfold pY at o;split at o
 ·obtain⟨v,rfl,r1⟩:=rs.one;obtain⟨z,e⟩:=o.some';obtain⟨xs,e1,e2⟩:=xu.mp e;obtain⟨a,us,rfl,sq,q⟩:=r1.sq e1;cases e2;refine⟨a,us,rfl,sq,?_⟩;rw[<-q.len];exact(o.of e).here (.int _)
 ·exact o.elim
theorem zi8:bx K cA .list (λxs H Q=>∃p ys,xs=[.ref p]/\(cL K H p ys\/fP K H p ys)/\∀l,H l=none->Q (.ref l) (upd H l (.lst ys))):=by
 intro U H ds vs Q zt rs o;have o:bG K cA U H (pY (λxs=>some (.nw xs)) ds) Q:=o;unfold pY at o;split at o
 ·obtain⟨v,rfl,r1⟩:=rs.one;obtain⟨z,e⟩:=o.some';obtain⟨xs,e1,e2⟩:=xu.mp e;obtain⟨a,us,rfl,sq,q⟩:=r1.sq e1;cases e2;exact⟨a,us,rfl,sq,λl hl=>(o.of e) l us hl q⟩
 ·exact o.elim
theorem zg0:bx K cA .tuple (λxs H Q=>∃p ys,xs=[.ref p]/\((cL K H p ys/\∀l,H l=none->Q (.ref l) (upd H l (.tup ys)))\/(fP K H p ys/\Q (.ref p) H))):=by
 intro U H ds vs Q zt rs o;have o:bG K cA U H (nO ds) Q:=o;unfold nO at o;split at o
 ·rename_i d _;obtain⟨v,rfl,r1⟩:=rs.one;cases d with
  |tup xs=>
   obtain⟨a,us,rfl,t,q⟩:=r1.tup;exact⟨a,us,rfl,.inr ⟨t.iY,bG.here o (.tup t q)⟩⟩
  |fl xs=>
   obtain⟨a,us,rfl,t,q⟩:=r1;exact⟨a,us,rfl,.inl ⟨t,λl hl=>bG.tup o zt q hl⟩⟩
  |_=>exact o.elim
 ·exact o.elim
theorem zla:bx K cA .abs (λxs H Q=>∃i,xs=[.int i]/\Q (.int (if i<0 then -i else i)) H):=by
 intro U H ds vs Q zt rs o;have o:bG K cA U H (oX (λi=>.int (if i<0 then -i else i)) ds) Q:=o;cases ds with
 |nil=>exact False.elim o
 |cons a t=>
 cases a with
 |int i=>
  cases t with
  |cons _ _=>exact False.elim o
  |nil=>
   obtain⟨v,rfl,r1⟩:=rs.one;rw[r1.int];exact⟨_,rfl,bG.here o (.int _)⟩
 |_=>exact False.elim o
theorem ziA:bx K cA .uR (λxs H Q=>(∃i,xs=[.int i]/\Q (.int i) H)\/∃k,xs=[.bl k]/\Q (.int (if k then 1 else 0)) H):=by
 intro U H ds vs Q zt rs o;have o:bG K cA U H (Fe ds) Q:=o;cases ds with
 |nil=>exact False.elim o
 |cons a t=>
 cases a with
 |int i=>
  cases t with
  |cons _ _=>exact False.elim o
  |nil=>
   obtain⟨v,rfl,r1⟩:=rs.one;rw[r1.int];exact .inl ⟨_,rfl,bG.here o (.int _)⟩
 |bl k=>
  cases t with
  |cons _ _=>exact False.elim o
  |nil=>
   obtain⟨v,rfl,r1⟩:=rs.one;rw[r1.bl];exact .inr ⟨_,rfl,bG.here o (.int _)⟩
 |_=>exact False.elim o
theorem ziT:bx K cA .max2 (λxs H Q=>∃i j,xs=[.int i,.int j]/\Q (.int (if j>i then j else i)) H):=by
 intro U H ds vs Q zt rs o;obtain⟨x,y,e,i,j,rfl,rfl,q⟩:=Bb (K:=K) (cA:=cA) (p:=.max2) (f:=λi j=>.int (if j>i then j else i)) rfl (λi j _ _=>.int _) U H ds vs Q zt rs o;exact⟨i,j,e,q⟩
theorem zjD:bx K cA .min2 (λxs H Q=>∃i j,xs=[.int i,.int j]/\Q (.int (if j<i then j else i)) H):=by
 intro U H ds vs Q zt rs o;obtain⟨x,y,e,i,j,rfl,rfl,q⟩:=Bb (K:=K) (cA:=cA) (p:=.min2) (f:=λi j=>.int (if j<i then j else i)) rfl (λi j _ _=>.int _) U H ds vs Q zt rs o;exact⟨i,j,e,q⟩
theorem zfa:bx K cA .divmod (λxs H Q=>∃i j,xs=[.int i,.int j]/\uE i j/\∀p,H p=none->Q (.ref p) (upd H p (.tup [.int (i/j),.int (i%j)]))):=by
 intro U H ds vs Q zt rs o;have o:bG K cA U H (cN (λi j=>if 0<j/\j<1073741824 then some (.tup [.int (i/j),.int (i%j)]) else none) ds) Q:=o;obtain⟨z,e⟩:=o.some';obtain⟨i,j,d,rfl,e1,rfl⟩:=VP e;obtain⟨c,rfl⟩:=Gb e1;obtain⟨v,v',rfl,r1,r2⟩:=rs.two (ds:=[]);rw[r1.int,r2.int];exact⟨i,j,rfl,c,λp hp=>(o.of e).tup zt (.cons (.int _) (.cons (.int _) .nil)) hp⟩
theorem VR:∀{xs:List D} {bs:List Bool} {vs:List V},dF xs=some bs->aB K cA U H xs vs->vs=bs.map V.bl
 |[],bs,vs,h,r=>by cases h;cases r;rfl
 |d::xs,bs,vs,h,r=>by
  cases d with
  |bl b=>
   simp only[dF,jZ] at h;obtain⟨bs',h1,rfl⟩:=h;cases r with
   |cons q r=>cases q;rw[VR h1 r];rfl
  |_=>simp[dF] at h
theorem zmj:bx K cA .ix (r2 (Nq K)):=by
 intro U H ds vs Q zt rs o;have o:bG K cA U H (Ox ds) Q:=o;unfold Ox at o;split at o
 ·rename_i d i _;obtain⟨v,v',rfl,r1,r2⟩:=rs.two (ds:=[]);obtain⟨z,e⟩:=o.some';obtain⟨y,e1,e2⟩:=jZ.mp e;obtain⟨xs,e3,e4⟩:=xu.mp e1;obtain⟨a,us,rfl,sq,q⟩:=r1.sq e3;have key:∃w,L2.oM us i=some w/\Rep K cA U H y w:=by
   unfold L2.oM at *;rw[<-q.len];obtain⟨j,h1,h2⟩:=xu.mp e4;obtain⟨w,h3,h4⟩:=q.get h2;exact⟨w,by rw[h1];exact h3,h4⟩
  obtain⟨w,hw,jG⟩:=key;subst e2;have q':=(o.of e).here jG;rcases sq with sq|sq
  ·exact⟨_,_,rfl,.inl ⟨a,us,i,w,rfl,r2.int,sq,hw,q'⟩⟩
  ·exact⟨_,_,rfl,.inr (.inl ⟨a,us,i,w,rfl,r2.int,sq,hw,q'⟩)⟩
 ·exact o.elim
noncomputable def V0(K:W.Frag):V->Option Int->Option Int->Hp->VK->Prop:=λx lo hi H Q=>Ed K x lo hi H Q\/wI K x lo hi H Q
theorem zky:uK X (V0 X.K):=uN.or ziB
theorem zi0{d:D}{lo hi:Option Int}{v:V}(zt:Zt U H)(r:Rv K cA U H d v)(o:bG K cA U H (cutD d lo hi) Q):V0 K v lo hi H Q:=by
 cases d with
 |tup xs=>
  obtain⟨a,us,rfl,t,q⟩:=r.tup;refine .inr ⟨a,us,rfl,t.iY,λe=>?_,λp hp=>bG.tup o zt q.cut hp⟩;have hc:cut xs lo hi=xs:=by
   unfold cut;rw[q.len,e.1,e.2,List.drop_zero,Nat.sub_zero,<-q.len,Ab]
  have o:bG K cA U H (some (.dat (.tup (cut xs lo hi)))) Q:=o;rw[hc] at o;exact o.here (.tup t q)
 |fl xs=>
  obtain⟨a,us,rfl,t,q⟩:=r;exact .inl ⟨a,us,rfl,t,λp hp=>o p _ hp q.cut⟩
 |_=>exact o.elim
end
end Mi
namespace L2
open PySem PySem.Spec PyProof.Rows
section
variable {κ:Type}[DecidableEq κ]
end
section
variable {P:Program}{w:World}{H:Hp}{h:Heap}{a:Addr}
end
section
variable {X:Cx}{ao:List (Addr×Obj)}{Z:St}{H:Hp}{s:Shared}{a:Addr}{y v:V}{u r:Value}{o:Option V}{A:Around}{E:Value->Shared->Prop}
theorem Inv.big(I:Inv X ao Z H s):sysModules<s.heap.objs.size:=by
 have h:mainGlobals<s.heap.objs.size:=(I.mod.glob.keeps I.bk).lt;exact Nat.lt_trans (by decide) h
theorem zi9(I:Inv X ao Z H s)(mu:CP (H a))(hs:Heap.SameBut a s.heap h')(he:∃q,h'.get? a=some q)(new:bH X.prog X.w (upd H a ob) h' a ob) :
  Inv X ao Z (upd H a ob) {s with heap:=h',toks:=t'}:=
 I.write (x:=a) (e:=a) mu (.inl rfl) (λb q hb z=>(hs.2 b hb).trans z) he new
end
section
variable {X:Cx}{ao:List (Addr×Obj)}{Z:St}{H:Hp}{s:Shared}{a:Addr}{kvs:List (Key×V)}{k:Key}{u:Value}{A:Around}{E:Value->Shared->Prop}
end
def zm(i:Expr):Prop:=∀ov iv,subscripted i false ov iv=operate [ov,iv] (getItem ov iv)
theorem zjx{prog:Program}{w:World}{A:Around}{E:Value->Shared->Prop}{s:Shared}{env:Env}{value slice:Expr}{pos:Pos}{T id:String}{Q:Value->Shared->Prop}
  (hl:typeLookup (.type T) "__getitem__"=pure (some (.builtin id))) (hs:zm slice)
  (h:wpAny (model prog w) A (eval value env) (λo s₁=>wpAny (model prog w) A (eval slice env) (λi s₂=>s₂.TypeIs o T/\wpAny (model prog w) A (getItem o i) Q E s₂) E s₁) E s) :
  wpAny (model prog w) A (eval (.Subscript value slice pos) env) Q E s:=by
 refine Subscript_ (lK h (λo s₁ h₁=>lK h₁ (λi s₂ h₂=>?_) λ_ _ x=>x) λ_ _ x=>x);obtain⟨hT,h₂⟩:=h₂;unfold subscriptTail;refine aC ?_;rw[getitemInPython_of_ne hT.not_modules];refine aC (wpAny_specialOf hT hl ?_);have fin:wpAny (model prog w) A (subscripted slice false o i) (λr s₃=>wpAny (model prog w) A (letTemporaryGo value o r >>= λ_=>pure r) Q E s₃) E s₂:=by
  rw[hs o i];exact wpAny_operating (lK h₂ (λr s₃ h₃=>aC (wpAny_letTemporaryGo (aU h₃))) λ_ _ x=>x)
 first
  |exact aU (aC fin)
  |exact aC (aU (aC fin))
  |exact aC fin
section
variable {X:Cx}{o i e value:Expr}{pos pos' tpos:Pos}{td ty tv:TE}
end
section
variable {X:Cx}{pos:Pos}
end
section
variable {X:Cx}{ao:List (Addr×Obj)}{Z:St}{H:Hp}{s:Shared}{a:Addr}{y d:V}{u r:Value}{o:Option V}{A:Around}{E:Value->Shared->Prop}
end
section
variable {X:Cx}{o e f:Expr}{apos cpos:Pos}{td ty tx:TE}
end
section
variable {X:Cx}{ao:List (Addr×Obj)}{Z:St}{H:Hp}{s:Shared}{a:Addr}{kvs:List (Key×V)}{A:Around}{E:Value->Shared->Prop}
end
section
variable {X:Cx}{ao:List (Addr×Obj)}{Z:St}{H:Hp}{s:Shared}{a:Addr}{y:V}{u:Value}{A:Around}{E:Value->Shared->Prop}
end
end L2
namespace Mi
open PySem PySem.Spec PyProof.Rows L2
section
variable {X:Cx}{cA:Cl}{aq:Nat->Nat->Bool}{aj:Bool}{F:Fn}{EX:XS}{a b c d e o:Expr}{A B C Dd E' O:E}{pos pp p2 apos cpos:Pos}{es:List Expr}{Xs:Es}{fz:Bool}{p:Pr}{x:Str}{U:Ph}{H:Hp}{s:S}{lo hi:Option Expr}{Lo Hi:Eo}
def Gd(X:Cx)(cA:Cl)(aq:Nat->Nat->Bool)(aj:Bool)(F:Fn)(EX:XS)(oe:Option Expr)(m:Eo):Prop:=
 PO X oe (λZ H Q=>∃U J s,aX X.K cA U H Z J/\aF X.K cA U H s/\Run X.K cA (uW aq aj F m J) U H s (λi _ U' H'=>Q i H') (eX X.K cA EX Z))
theorem PO.weak{oe:Option Expr}{t t':TO}(h:PO X oe t)(f:∀Z H Q,t' Z H Q->t Z H Q):PO X oe t':=by
 intro ao s Z H Q I q;exact h ao s Z H Q I (f Z H Q q)
theorem zmq:Gd X cA aq aj F EX none .no:=PO.weak zi1 λZ H Q hh=>un hh λU J s hL hS h=>h.bC hS
theorem zjX(ha:SE X cA aq aj F EX a A):Gd X cA aq aj F EX (some a) (.yes A):=PO.weak (ziJ ha) λZ H Q hh=>un hh λU J s hL hS h=>by
 refine aW hL hS h λx H1 U1 d1 s1 x1 hL1 aJ r1 h1=>?_;obtain⟨i,_,e,h3⟩:=FN r1 h1;exact⟨i,e,h3.bC aJ⟩
theorem Gf{β:Type}{Z:L2.St}{J:Vs}{m:Eo}{k:Option Int->M β}{P:β->S->Ph->Hp->Prop}(hL:aX X.K cA U H Z J)(hS:aF X.K cA U H s)(h:Run X.K cA (M.bd (uW aq aj F m J) k) U H s P (eX X.K cA EX Z)){Q:Option Int->Hp->Prop}
  (f:∀i H1 U1 s1,Ext U H U1 H1->aX X.K cA U1 H1 Z J->aF X.K cA U1 H1 s1->Run X.K cA (k i) U1 H1 s1 P (eX X.K cA EX Z)->Q i H1) :
  ∃U J s,aX X.K cA U H Z J/\aF X.K cA U H s/\Run X.K cA (uW aq aj F m J) U H s (λi _ U' H'=>Q i H') (eX X.K cA EX Z):=
 ⟨U,J,s,hL,hS,h.bd.imp λi s1 U1 H1 ⟨x1,r1,h1⟩=>f i H1 U1 s1 x1 (hL.mono x1 hS.lz) r1 h1⟩
theorem zm2(ha:SE X cA aq aj F EX a A)(hl:Gd X cA aq aj F EX lo Lo)(hh:Gd X cA aq aj F EX hi Hi):SE X cA aq aj F EX (.Subscript a (.Slice lo hi none p2) pos) (.sl fz A Lo Hi):=PE.weak (zho zky ha hl hh) λZ H Q hh=>un hh λU J s hL hS h=>by
 refine aW hL hS h λx H1 U1 d1 s1 x1 hL1 aJ r1 h1=>Gf hL1 aJ h1 λl H2 U2 s2 x2 hL2 aR h2=>Gf hL2 aR h2 λu H3 U3 s3 x3 uZ jW h3=>?_;obtain⟨dd,rv,h4⟩:=JD jW ((r1.mono x2 aJ.lz).mono x3 aR.lz) h3;exact zi0 jW.zs rv (rG jW h4)
theorem V1:∀bs:List Bool,(List.range bs.length).all (λi=>(bs[i]?).getD false)=bs.all id
 |[]=>rfl
 |b::r=>by
  rw[gD,Li,xP,Cr,xP];have:=V1 r;simp only[Function.comp_def,zU,List.getElem?_cons_zero,Option.getD_some,id];rw[this]
theorem zfQ(hc:X.aj=true):cG X (.builtin "all") (λxs H Q=>∃(p:Addr) (bs:List Bool),xs=[.ref p]/\cL X.K H p (bs.map V.bl)/\Q (.bl (bs.all id)) H):=by
 intro ao s Z H xs us Q I r ⟨p,bs,e,hp,q⟩;subst e;obtain⟨u,rfl,ru⟩:=Vals.one r;cases (show u=Value.ref p from ru);obtain⟨its,rv,pl,hz⟩:=I.list hp;have hl:s.heap.IsList p its.toArray:=pl.isList;have hpn:p≠s.heap.objs.size:=by
  obtain⟨o,hg,_⟩:=hl;exact dw (bQ hg)
 refine call_all_walk (Ig hl ?_);refine⟨_,_,_,_,_,_,λi=>(bs[i]?).getD false,rfl,Walks.list (A:=X.A.in1) (I.ok.hd hc) _ p hpn its.toArray,⟨⟨_,fC _ rfl,rfl,rfl⟩,hl.push _⟩,?_,λh' tk hk=>?_⟩
 ·intro i v s' Q' E' hP hQ;have hi:its[i]?=some v:=by simpa using hP
  have hb:∃b,bs[i]?=some b:=by
   have dD:i<its.length:=(eO.mp hi).1;have z:=rv.length;rw[cU] at z;exact⟨_,dj (by lia)⟩
  obtain⟨b,hb⟩:=hb;obtain⟨u,e1,e2⟩:=rv.get (i:=i) (x:=V.bl b) (by rw[gU,hb];rfl);rw[hi] at e1;cases e1;cases (show v=Value.bool b from e2);have hQ:Q' ((bs[i]?).getD false) s':=hQ;rw[hb] at hQ;exact tu hQ
 ·have ez:(List.range its.toArray.size).all (λi=>(bs[i]?).getD false)=bs.all id:=by
   have z:=rv.length;rw[cU] at z;rw[fH,<-z];exact V1 bs
  rw[ez];refine⟨.bl (bs.all id),H,I.kept (h':=h') (t':=tk) (old_kept hk),rfl,q⟩
theorem zlU{K:W.Frag}:bx K cA .all (λxs H Q=>∃(p:Addr) (bs:List Bool),xs=[.ref p]/\cL K H p (bs.map V.bl)/\Q (.bl (bs.all id)) H):=by
 intro U H ds vs Q zt rs o;have o:bG K cA U H (yV ds) Q:=o;unfold yV at o;split at o
 ·obtain⟨v,rfl,⟨ad,us,rfl,l,q⟩⟩:=rs.one;obtain⟨z,e⟩:=o.some';obtain⟨bs,e1,e2⟩:=jZ.mp e;subst e2;exact⟨ad,bs,rfl,by rw[<-VR e1 q];exact l,(o.of e).here (.bl _)⟩
 ·exact o.elim
noncomputable def JM:Kd->String->Bool
 |.int,"int"=>true
 |.int,"bool"=>true
 |.bool,"bool"=>true
 |.str,"str"=>true
 |.tuple,"tuple"=>true
 |.list,"list"=>true
 |.dict,"dict"=>true
 |_,_=>false
noncomputable def rM:Kd->Option Value
 |.int=>some (.type "int")
 |.bool=>some (.type "bool")
 |.str=>some (.type "str")
 |.tuple=>some (.type "tuple")
 |.list=>some (.type "list")
 |.dict=>some (.type "dict")
 |_=>none
theorem zkJ{K:W.Frag}{k:Kd}{cu:Value}(h:rM k=some cu){T:String}(hT:T∈["NoneType","bool","int","str","tuple","list","dict"]):PySem.W.kitOne K (.type T) cu=some (JM k T):=by
 simp only[jd,List.mem_nil_iff,or_false] at hT;cases k<;>simp only[rM] at h<;>cases h<;>rcases hT with rfl|rfl|rfl|rfl|rfl|rfl|rfl<;>rfl
structure Gg(K:W.Frag)(cA:Cl)(aq:Nat->Nat->Bool):Prop where
 xc:∀c,XC K (cA.a c)
 aq:∀c e,PySem.W.kitOne K (.ref (cA.a c)) (.ref (cA.a e))=some (aq c e)
 pW:∀c,PySem.W.kitOne K (.ref (cA.a c)) (.type "ValueError")=some true
noncomputable def Bc(cA:Cl):Kd->V
 |.cls e=>.ref (cA.a e)
 |.pW=>.ty "ValueError"
 |.int=>.ty "int"
 |.bool=>.ty "bool"
 |.str=>.ty "str"
 |.tuple=>.ty "tuple"
 |.list=>.ty "list"
 |.dict=>.ty "dict"
theorem zgH(Cs:rM k=none->Gg X.K cA aq) :
  cG X (.builtin "isinstance") (λxs H Q=>∃U d v bb,xs=[v,Bc cA k]/\Rv X.K cA U H d v/\jR aq d k=some bb/\Q (.bl bb) H):=by
 intro ao sh Z H xs us Q I r ⟨U,d,v,bb,e,rd,hi,q⟩;subst e;obtain⟨u,w,rfl,ru,Pq⟩:=Vals.two r;have rN:∀tk,EP X ao Z Q (.bool bb) {sh with toks:=tk}:=λtk=>⟨.bl bb,H,I.tok tk,rfl,q⟩;have bt:∀{T:String} {Hh:Heap->Prop},PySem.W.KitX X.K u (.type T) Hh->Hh sh.heap->T∈["NoneType","bool","int","str","tuple","list","dict"]->u≠Value.builtin "__main__.__loader__#opaque"->(∃cu,rM k=some cu/\w=cu/\JM k T=bb)->wpAny (model X.prog X.w) X.A (PySem.call (.builtin "isinstance") [u,w]) (EP X ao Z Q) X.xe sh:=λ{T Hh} zzZ hh hT hx ⟨cu,h1,h2,h3⟩=>by
  subst h2 h3;exact PySem.W.kia_one zzZ I.lV hh (zkJ h1 hT) hx rN
 have wv:∀cu,rM k=some cu->w=cu:=λcu h=>by
  cases k<;>simp only[rM] at h<;>cases h<;>exact Pq
 have fin:∀T,jR aq d k=(match rM k with|some _=>some (JM k T)|none=>none)->∃cu,rM k=some cu/\w=cu/\JM k T=bb:=λT h=>by
  rw[hi] at h;cases z:rM k with
  |none=>rw[z] at h;cases h
  |some cu=>rw[z] at h;cases h;exact⟨cu,rfl,wv cu z,rfl⟩
 cases d with
 |non=>
  cases (show Rep X.K cA U H .non v from rd);cases (show u=Value.none from ru);exact bt PySem.W.kitx_none trivial (by simp) (λz=>nomatch z) (fin "NoneType" (by cases k<;>rfl))
 |bl b=>
  cases rd.bl;cases (show u=Value.bool b from ru);exact bt PySem.W.kitx_bool trivial (by simp) (λz=>nomatch z) (fin "bool" (by cases k<;>rfl))
 |int i=>
  cases rd.int;obtain⟨t,z⟩:=(show ∃t,u=Value.int i t from ru);cases z;exact bt PySem.W.kitx_int trivial (by simp) (λz=>nomatch z) (fin "int" (by cases k<;>rfl))
 |str y=>
  cases rd.str;obtain⟨t,z⟩:=(show ∃t,u=Value.str y t from ru);cases z;exact bt PySem.W.kitx_str trivial (by simp) (λz=>nomatch z) (fin "str" (by cases k<;>rfl))
 |tup xs=>
  obtain⟨ad,vs,rfl,h1,h2⟩:=rd.tup;cases (show u=Value.ref ad from ru);obtain⟨its,_,ht,_⟩:=I.tuple h1.iY;obtain⟨o,q1,q2,_⟩:=ht;exact bt PySem.W.kitx_tuple ⟨o,q1,q2⟩ (by simp) (λz=>nomatch z) (fin "tuple" (by cases k<;>rfl))
 |fl xs=>
  obtain⟨ad,vs,rfl,h1,h2⟩:=rd;cases (show u=Value.ref ad from ru);obtain⟨its,_,ht,_⟩:=I.list h1;obtain⟨o,q1,q2,_⟩:=ht.isList;exact bt PySem.W.kitx_list ⟨o,q1,q2⟩ (by simp) (λz=>nomatch z) (fin "list" (by cases k<;>rfl))
 |fd ks vs=>
  cases (show Rep X.K cA U H (.fd ks vs) v from rd) with
  |@fd ad kk ii q1 n=>
   cases (show u=Value.ref ad from ru);obtain⟨_,_,vs,_,o,es',ep,g1,g2,_⟩:=(show bH X.prog X.w H sh.heap ad (.dK [(.inr kk,.int ii)]) from I.hok ad _ q1);exact bt PySem.W.kitx_dict ⟨o,g1,g2.1⟩ (by simp) (λz=>nomatch z) (fin "dict" (by cases k<;>rfl))
 |ob c fs=>cases k<;>cases hi
 |any=>cases k<;>cases hi
 |exc c fs=>
  cases (show Rep X.K cA U H (.exc c fs) v from rd) with
  |@exc ad _ _ vs hx rs=>
   cases (show u=Value.ref ad from ru);have hI:∃ox od,PySem.W.InstAt sh.heap ad ox (cA.a c) od:=by
    obtain⟨_,⟨_,_,hx⟩|⟨dx,hx,_,hd,_⟩⟩:=hx
    ·obtain⟨⟨oe,vs,g1,g2,g3,g4⟩,_⟩:=(show bH X.prog X.w H sh.heap ad (uP ad (cA.a c) none) from I.hok ad _ hx);exact⟨oe,none,g1,g2,by unfold PySem.W.notCls;rw[g4],by rw[g3];trivial⟩
    ·obtain⟨⟨oe,vs,g1,g2,g3,g4⟩,_⟩:=(show bH X.prog X.w H sh.heap ad (uP ad (cA.a c) (some dx)) from I.hok ad _ hx);obtain⟨mA,⟨od,es,ep,e1,c1⟩,_⟩:=(show bH X.prog X.w H sh.heap dx (.xd _) from I.hok dx _ hd);exact⟨oe,some od,g1,g2,by unfold PySem.W.notCls;rw[g4],by rw[g3];exact e1⟩
   cases k with
   |cls e=>
    cases (show w=Value.ref (cA.a e) from Pq);have z:some (aq c e)=some bb:=hi;cases z;exact PySem.W.kia_one (Vd ((Cs rfl).xc c)) I.lV hI ((Cs rfl).aq c e) (λz=>nomatch z) rN
   |pW=>
    cases (show w=Value.type "ValueError" from Pq);have z:some true=some bb:=hi;cases z;exact PySem.W.kia_one (Vd ((Cs rfl).xc c)) I.lV hI ((Cs rfl).pW c) (λz=>nomatch z) rN
   |_=>cases hi
theorem zkl(Cs:rM k=none->Gg X.K cA aq)(hg:Gl X "isinstance")(hm:X.mg "isinstance"=none)(ha:SE X cA aq aj F EX a A)(hk:PE X kx (tC (Bc cA k)))(h1:starEach [a,kx] X.env=(false,eval a X.env)::starEach [kx] X.env:=by rfl)(h2:starEach [kx] X.env=(false,eval kx X.env)::starEach [] X.env:=by rfl)
  (cD:(backTo pos (starEach [kx] X.env)).any (·.1)=false:=by rfl):SE X cA aq aj F EX (.Call (.Name "isinstance" pp) [a,kx] [] pos) (.oW A k):=PE.weak (Uw (zgH (cA:=cA) (k:=k) Cs) hg hm PyProof.Rows.boot_isinstance (qG ha (qG hk wj h2) h1) (by decide) (by decide) h1 cD) λZ H Q hh=>un hh λU J s hL hS h=>
 aW hL hS h λv H1 U1 d s1 x1 hL1 aJ r1 h1=>by
  show ∃U d' v' bb,[v,Bc cA k]=[v',Bc cA k]/\_;obtain⟨dd,rv,h2⟩:=JD aJ r1 h1;obtain⟨bb,e,h3⟩:=Jy h2;exact⟨U1,dd,v,bb,rfl,rv,e,h3.bC aJ _ (.d (.bl bb))⟩
end
theorem V2(n:Nat):∀is js:List Int,c7 (cR n) (is.map .int) (js.map .int)=some (decide (is=js))
 |[],[]=>rfl
 |[],_::_=>rfl
 |_::_,[]=>rfl
 |i::is,j::js=>by
  have e:cR n (.int i) (.int j)=some (i==j):=by cases n<;>rfl
  simp only[jk,c7,V2 n is js,e]
  congr 1
  by_cases h:i=j
  ·subst h;by_cases h2:is=js<;>simp[h2]
  ·simp[h]
theorem zkb{a b:Kx}:cR 2 (p8 a) (p8 b)=some (decide (a=b)):=by
 cases a with
 |non=>cases b<;>rfl
 |int i=>cases b with
  |int j=>
   show some (i==j)=_;by_cases h:i=j
   ·subst h;simp
   ·have hn:¬Kx.int i=Kx.int j:=λz=>h (by cases z;rfl);simp[h,hn]
  |_=>rfl
 |row is=>cases b with
  |row js=>
   show c7 (cR 1) (is.map .int) (js.map .int)=_;rw[V2];by_cases h:is=js
   ·subst h;simp
   ·have hn:¬Kx.row is=Kx.row js:=λz=>h (by cases z;rfl);simp[h,hn]
  |_=>rfl
theorem V3{x y:List Kx}:cR 3 (iu x) (iu y)=some (decide (x=y)):=by
 show c7 (cR 2) (x.map p8) (y.map p8)=_
 induction x generalizing y with
 |nil=>cases y<;>rfl
 |cons a x ih=>cases y with
  |nil=>rfl
  |cons b y=>
   simp only[jk,c7,ih,zkb]
   congr 1
   by_cases h:a=b
   ·subst h;by_cases h2:x=y<;>simp[h2]
   ·simp[h]
theorem V4:∀{xs:List D} {is:List Int},bU xs=some is->xs=is.map .int
 |[],is,h=>by cases h;rfl
 |x::r,is,h=>by
  cases x with
  |int i=>
   simp only[bU,jZ] at h;obtain⟨js,h1,rfl⟩:=h;rw[V4 h1];rfl
  |_=>cases h
theorem zh5{d:D}{k:Kx}(h:rD d=some k):d=p8 k:=by
 cases d with
 |non=>cases h;rfl
 |int i=>cases h;rfl
 |tup xs=>
  simp only[rD,jZ] at h;obtain⟨js,h1,rfl⟩:=h;rw[V4 h1];rfl
 |_=>cases h
theorem V5:∀{xs:List D} {k:List Kx},zj xs=some k->xs=k.map p8
 |[],k,h=>by cases h;rfl
 |x::r,k,h=>by
  unfold zj at h;cases e1:rD x with
  |none=>simp only[e1] at h;cases h
  |some a=>cases e2:zj r with
   |none=>simp only[e1,e2] at h;cases h
   |some b=>
    simp only[e1,e2] at h;cases h;rw[zh5 e1,V5 e2];rfl
theorem zkF{d:D}{k:List Kx}(h:kOf d=some k):d=iu k:=by
 cases d with
 |tup xs=>show D.tup xs=.tup _;rw[V5 h]
 |_=>cases h
noncomputable def V6:Kx->Nat
 |.row is=>is.length+1
 |_=>1
noncomputable def rO:List Kx->Nat
 |[]=>0
 |x::r=>V6 x+rO r
section
variable {prog:Program}{w:World}{A:Around}{E:Value->Shared->Prop}{s:Shared}{h h':Heap}
theorem V7:∀{is:List Int} {us:List Value},iZ h (is.map .int) us->ItemsAre (intKind prog w) is us
 |[],us,r=>by cases r;exact .nil
 |i::is,us,r=>by
  cases r with
  |cons a r=>cases a with
   |int i t=>exact .cons (by simp[intKind,Value.isInt]) (V7 r)
   |oth k=>cases k
theorem rP{is:List Int}{a:Value}(x:Is h (.tup (is.map .int)) a):∃b,a=.ref b/\IsTupleKey (intKind prog w) h is b:=by
 cases x with
 |tup p r=>
  obtain⟨o,e,c,n,d⟩:=p;exact⟨_,rfl,o,_,n,e,c,d,by simpa using V7 r⟩
 |oth k=>cases k
theorem zja{x:Kx}{u:Value}{Q:Int->Shared->Prop}(hu:A.units<cLine)(hx:Is s.heap (p8 x) u)(q:Q (O6 x) {s with toks:=s.toks+V6 x}):wpAny (model prog w) A (pyHash u) Q E s:=by
 cases x with
 |non=>
  cases hx with
  |non=>exact PySem.W.pyHash_slot (T:="NoneType") rfl F.slot_NoneType_hash F.entry_NoneType_hash (F.args_NoneType_hash_1 _) (beq_builtin_none _) (.inr hu) (aC (aU (aC (wpAny_mkInt (aU ⟨_,_,rfl,q⟩)))))
  |oth k=>cases k
 |int i=>
  cases hx with
  |int i t=>exact wpAny_pyHash_int q
  |oth k=>cases k
 |row is=>
  obtain⟨b,rfl,k⟩:=rP (prog:=prog) (w:=w) hx;exact wpAny_pyHash_tuple hu k q
theorem V8{k:List Kx}:∀{r:List Kx} {us:List Value} {b:Array Int} {s:Shared} {Q:Array Int->Shared->Prop},A.units<cLine->iZ s.heap (r.map p8) us->(∀b':Array Int,b'.toList=b.toList++r.map O6->Q b' {s with toks:=s.toks+rO r})->
  wpAny (model prog w) A (forIn us b λx r=>do let h <-pyHash x;pure PUnit.unit;pure (ForInStep.yield (r.push h))) Q E s
 |[],us,b,s,Q,hu,x,q=>by cases x;exact aU (q b (by simp))
 |a::r,us,b,s,Q,hu,x,q=>by
  cases x with
  |cons x1 x2=>
   rw[Ae];refine aC (aC (zja hu x1 (aC (aU (aU ?_)))));refine V8 (k:=k) hu x2 λb' e=>?_;have:=q b' (by simp[e]);simpa [rO,Nat.add_assoc] using this
theorem zgI{k:List Kx}{a:Addr}{Q:Int->Shared->Prop}(hu:A.units+1<cLine)(hk:Is s.heap (iu k) (.ref a))(q:Q (oY k) {s with toks:=s.toks+(rO k+1)}):wpAny (model prog w) A (pyHash (.ref a)) Q E s:=by
 cases hk with
 |oth k=>cases k
 |tup p r=>
  obtain⟨o,e,c,n,d⟩:=p;refine PySem.W.pyHash_slot (T:="tuple") ⟨_,e,c⟩ F.slot_tuple_hash F.entry_tuple_hash (F.args_tuple_hash_1 _) (beq_builtin_none _) (.inr (by lia)) ?_;show wpAny _ _ (Builtin.Tuple.tupleItemsOf (.ref a) >>= _) _ _ s;refine aC (wpAny_tupleItemsOf e d (aC ?_));rw[<-Lr];refine V8 (A:=A.in1) (k:=k) (show A.units+1<cLine from hu) (by simpa using r) λb hb=>?_;show wpAny _ _ (retInt (Builtin.Tuple.tupleHashOf b.toList)) _ _ _;rw[hb];exact aC (wpAny_mkInt (aU ⟨_,_,rfl,by simpa [Nat.add_assoc,oY] using q⟩))
theorem zhq(ht:∀a xs,h.IsTuple a xs->h'.IsTuple a xs)(hl:∀a xs,h.IsList a xs->h'.IsList a xs){d:D}{u:Value}(x:Is h d u):Is h' d u:=
 Is.rec (motive_1:=λd u _=>Is h' d u) (motive_2:=λd u _=>iZ h' d u) .non .bl .int .str (λp _ r=>.tup (ht _ _ p) r) (λp _ r=>.fl (hl _ _ p) r) (λk=>.oth k) .nil (λ_ _ a r=>.cons a r) x
theorem zg4:∀{n:Nat} {x:Kx} {u:Value} {Q:Bool->Shared->Prop},Is s.heap (p8 x) u->Q true s->wpAny (model prog w) A (eqIsQuiet (n+1) u) Q E s:=by
 intro n x u Q hx q;cases x with
 |non=>
  cases hx with
  |non=>rw[eqIsQuiet_byValue _ rfl];exact aU q
  |oth k=>cases k
 |int i=>
  cases hx with
  |int i t=>rw[eqIsQuiet_byValue _ rfl];exact aU q
  |oth k=>cases k
 |row is=>
  obtain⟨b,rfl,k⟩:=rP (prog:=prog) (w:=w) hx;have ty:=k.typeIs;obtain⟨o,items,m,ho,_,hd,hi⟩:=k;unfold eqIsQuiet;refine aC (wpAny_specialOf ty F.slot_tuple_eq.lookup ?_);show wpAny _ A (isInstance (.ref b) (.type "tuple") >>= _) Q E s;refine aC (Il ty isSubtype_tuple_tuple ?_);simp only[Bool.not_true,vQ,qD];refine aC (pK ho hd (aC ?_));show wpAny _ A (forIn items _ _) _ E s;rw[<-Lr];refine wpAny_forIn_list _ (λl r t=>r.1=none/\t=s/\∀v∈l,carriedByValue v=true) _ (λv l r t z=>?_) (λr t z=>?_) _ _ ⟨rfl,rfl,hi.byValue⟩
  ·obtain⟨_,rfl,nH⟩:=z;rw[eqIsQuiet_byValue _ (nH v j8)];exact aC (aU (aU ⟨rfl,rfl,λy hy=>nH y (gQ _ hy)⟩))
  ·obtain⟨r1,r2⟩:=r;obtain⟨z1,rfl,_⟩:=z;cases z1;exact aU q
theorem ze4{k:List Kx}{a:Addr}{Q:Bool->Shared->Prop}(hk:Is s.heap (iu k) (.ref a))(q:Q true s):wpAny (model prog w) A (eqIsQuiet 8 (.ref a)) Q E s:=by
 cases hk with
 |oth k=>cases k
 |@tup _ _ its p r=>
  obtain⟨o,ho,c,n,hd⟩:=p;unfold eqIsQuiet;refine aC (wpAny_specialOf ⟨_,ho,c⟩ F.slot_tuple_eq.lookup ?_);show wpAny _ A (isInstance (.ref a) (.type "tuple") >>= _) Q E s;refine aC (Il ⟨_,ho,c⟩ isSubtype_tuple_tuple ?_);simp only[Bool.not_true,vQ,qD];refine aC (pK ho hd (aC ?_));show wpAny _ A (forIn its.toArray _ _) _ E s;rw[<-Lr];refine wpAny_forIn_list _ (λl r t=>r.1=none/\t=s/\∀v∈l,∃x,Is s.heap (p8 x) v) _ (λv l r t z=>?_) (λr t z=>?_) _ _ ⟨rfl,rfl,?_⟩
  ·obtain⟨_,rfl,nH⟩:=z;obtain⟨x,hx⟩:=nH v j8;exact aC (zg4 (n:=6) hx (aU ⟨rfl,rfl,λy hy=>nH y (gQ _ hy)⟩))
  ·obtain⟨r1,r2⟩:=r;obtain⟨z1,rfl,_⟩:=z;cases z1;exact aU q
  ·intro v hv;have:∀{ks:List Kx} {us:List Value},iZ s.heap (ks.map p8) us->∀v∈us,∃x,Is s.heap (p8 x) v:=λ{ks}=>by
    induction ks with
    |nil=>intro us r v hv;cases r;cases hv
    |cons y ks ih=>
     intro us r v hv;cases r with
     |cons a r=>
      rcases jd.mp hv with rfl|hv
      ·exact⟨y,a⟩
      ·exact ih r v hv
   exact this r v (by simpa using hv)
end
noncomputable def jg(prog:Program)(w:World):HeapKind prog w (List Kx) where
 is:=λh k a=>Is h (iu k) (.ref a)
 hash:=oY
 draws:=λk=>rO k+1
 room:=λA=>A.units+4<cLine
 inj:=λx y=>j9 (Pg 3 x y V3)
 keeps:=λ{h h' k a d o es ep} x ho hd hs=>zhq (λb xs ⟨q,e,c,n,z⟩=>⟨q,(hs.2 b λy=>by subst y;rw[ho] at e;cases e;rw[hd] at z;cases z).trans e,c,n,z⟩) (λb xs ⟨q,e,c,n,z⟩=>⟨q,(hs.2 b λy=>by subst y;rw[ho] at e;cases e;rw[hd] at z;cases z).trans e,c,n,z⟩) x
 pyHash:=λhu hk q=>zgI (by lia) hk q
 eqBool:=λ{A E s x y a b Q} hu hx hy q=>FT 3 (show A.units+3<cLine by lia) hx hy V3 _ _ _ _ q
 quiet:=λhk q=>ze4 hk q
section
variable {K:W.Frag}{cA:Cl}{U U':Ph}{H H':Hp}{s:S}
theorem TupAt.ju(e:∀a,U'.z a->U.z a){a:Addr}{vs:List V}(h:TupAt K U H a vs):TupAt K U' H a vs:=h.imp (λ⟨p,n⟩=>⟨p,λz=>n (e a z)⟩) id
theorem LstAt.ju(e:∀a,U'.z a->U.z a){a:Addr}{vs:List V}(h:LstAt K U H a vs):LstAt K U' H a vs:=h.imp (λ⟨p,n⟩=>⟨p,λz=>n (e a z)⟩) id
theorem ExcAt.ju(e:∀a,U'.z a->U.z a){a:Addr}{c:Nat}{vs:List V}(h:ExcAt cA U H a c vs):ExcAt cA U' H a c vs:=
 ⟨λz=>h.1 (e a z),h.2.imp id λ⟨dx,p,n,q,l⟩=>⟨dx,p,λz=>n (e dx z),q,l⟩⟩
theorem nR.ju(e:∀a,U'.z a->U.z a){a:Addr}{c:Nat}{vs:List V}(h:nR cA U H a c vs):nR cA U' H a c vs:=⟨λz=>h.1 (e a z),h.2⟩
theorem Rep.ju(e:∀a,U'.z a->U.z a){d:D}{v:V}(h:Rep K cA U H d v):Rep K cA U' H d v:=
 Rep.rec (motive_1:=λd v _=>Rep K cA U' H d v) (motive_2:=λd v _=>aB K cA U' H d v) .non .bl .int .str (λh _ i=>.tup (h.ju e) i) (λh _ i=>.fl (h.ju e) i) (λh n=>.fd h (λz=>n (e _ z))) (λh _ i=>.exc (h.ju e) i) (λh _ i=>.ob (h.ju e) i) .any .nil (λ_ _ i j=>.cons i j) h
theorem aB.ju(e:∀a,U'.z a->U.z a){d:List D}{v:List V}(h:aB K cA U H d v):aB K cA U' H d v:=
 aB.rec (motive_1:=λd v _=>Rep K cA U' H d v) (motive_2:=λd v _=>aB K cA U' H d v) .non .bl .int .str (λh _ i=>.tup (h.ju e) i) (λh _ i=>.fl (h.ju e) i) (λh n=>.fd h (λz=>n (e _ z))) (λh _ i=>.exc (h.ju e) i) (λh _ i=>.ob (h.ju e) i) .any .nil (λ_ _ i j=>.cons i j) h
theorem jA.ju(e:∀a,U'.z a->U.z a){a:Addr}{o:SO}(h:jA K cA U H a o):jA K cA U' H a o:=h.map (λ_ q=>q) λ_ _ r=>r.ju e
theorem Rep.zl{d:D}{v:V}(h:Rep K cA U H d v)(l:List Addr):Rep K cA ⟨U.z,l⟩ H d v:=Rep.ju (U:=U) (U':=⟨U.z,l⟩) (λ_ z=>z) h
theorem aB.zl{d:List D}{v:List V}(h:aB K cA U H d v)(l:List Addr):aB K cA ⟨U.z,l⟩ H d v:=aB.ju (U:=U) (U':=⟨U.z,l⟩) (λ_ z=>z) h
theorem jA.zl{a:Addr}{o:SO}(h:jA K cA U H a o)(l:List Addr):jA K cA ⟨U.z,l⟩ H a o:=jA.ju (U:=U) (U':=⟨U.z,l⟩) (λ_ z=>z) h
noncomputable def adr(l:List Addr):List Nat->List Addr
 |[]=>[]
 |n::r=>match l[n]? with
  |some a=>a::adr l r
  |none=>adr l r
theorem Bf{l:List Addr}:∀{ns:List Nat} {a:Addr},a∈adr l ns->∃n∈ns,l[n]?=some a
 |[],a,h=>by cases h
 |n::r,a,h=>by
  unfold adr at h;cases e:l[n]? with
  |none=>
   simp only[e] at h;obtain⟨m,h1,h2⟩:=Bf h;exact⟨m,gQ _ h1,h2⟩
  |some b=>
   simp only[e] at h;rcases jd.mp h with rfl|h
   ·exact⟨n,j8,e⟩
   ·obtain⟨m,h1,h2⟩:=Bf h;exact⟨m,gQ _ h1,h2⟩
theorem V9{s:S}:∀{ns:List Nat} {s0:S} {i n:Nat},iW s ns=some s0->ns[i]?=some n->s0[i]?=s[n]?/\∃o,s[n]?=some o
 |[],s0,i,n,h,e=>by simp at e
 |m::r,s0,i,n,h,e=>by
  unfold iW at h;cases e1:s[m]? with
  |none=>simp only[e1] at h;cases h
  |some o=>
   cases e2:iW s r with
   |none=>simp only[e1,e2] at h;cases h
   |some q=>
    simp only[e1,e2] at h;cases h;cases i with
    |zero=>simp at e;subst e;exact⟨by simp[e1],o,e1⟩
    |succ i=>simpa using V9 e2 (by simpa using e)
theorem V_{s:S}:∀{ns:List Nat} {s0:S},iW s ns=some s0->s0.length=ns.length
 |[],s0,h=>by cases h;rfl
 |m::r,s0,h=>by
  unfold iW at h;cases e1:s[m]? with
  |none=>simp only[e1] at h;cases h
  |some o=>
   cases e2:iW s r with
   |none=>simp only[e1,e2] at h;cases h
   |some q=>
    simp only[e1,e2] at h;cases h;rw[gD,gD,V_ e2]
theorem Gh{l:List Addr}:∀{ns:List Nat} {i n:Nat},(∀n∈ns,∃a,l[n]?=some a)->ns[i]?=some n->(adr l ns)[i]?=l[n]?
 |[],i,n,_,e=>by simp at e
 |m::r,i,n,h,e=>by
  obtain⟨a,ha⟩:=h m j8;unfold adr;simp only[ha];cases i with
  |zero=>simp at e;subst e;simp[ha]
  |succ i=>simpa using Gh (λn hn=>h n (gQ _ hn)) (by simpa using e)
theorem Gi{l:List Addr}:∀{ns:List Nat},(∀n∈ns,∃a,l[n]?=some a)->(adr l ns).length=ns.length
 |[],_=>rfl
 |m::r,h=>by
  obtain⟨a,ha⟩:=h m j8;unfold adr;simp only[ha];rw[gD,gD,Gi (λn hn=>h n (gQ _ hn))]
theorem Wa{l:List Addr}(hl:l.Nodup):∀{ns:List Nat},ns.Nodup->(∀n∈ns,∃a,l[n]?=some a)->(adr l ns).Nodup
 |[],_,_=>Af
 |m::r,hn,h=>by
  obtain⟨a,ha⟩:=h m j8;unfold adr;simp only[ha];obtain⟨h1,h2⟩:=vV.mp hn;refine vV.mpr ⟨λz=>?_,Wa hl h2 (λn hn=>h n (gQ _ hn))⟩;obtain⟨n,q1,q2⟩:=Bf z;have:m=n:=(Ls (eO.mp ha).1 hl).mp (ha.trans q2.symm);exact h1 (this▸q1)
theorem Bg{s:S}:∀{ns:List Nat} {s1:S},(cO s ns s1).length=s.length
 |[],s1=>by cases s1<;>rfl
 |n::r,[]=>rfl
 |n::r,o::q=>by
  show (cO (s.set n o) r q).length=_;rw[Bg,nq]
theorem Pu{s:S}:∀{ns:List Nat} {s1:S} {m:Nat},m∉ns->(cO s ns s1)[m]?=s[m]?
 |[],s1,m,_=>by cases s1<;>rfl
 |n::r,[],m,_=>rfl
 |n::r,o::q,m,h=>by
  show (cO (s.set n o) r q)[m]?=_;rw[Pu (λz=>h (gQ _ z)),qx (λz=>h (by rw[z];exact j8))]
theorem Wb{s:S}:∀{ns:List Nat} {s1:S} {i m:Nat} {o:SO},ns.Nodup->ns[i]?=some m->s1[i]?=some o->m<s.length->(cO s ns s1)[m]?=some o
 |[],s1,i,m,o,_,e,_,_=>by simp at e
 |n::r,[],i,m,o,_,_,e,_=>by simp at e
 |n::r,q::qs,i,m,o,hn,e1,e2,hm=>by
  show (cO (s.set n q) r qs)[m]?=_;obtain⟨h1,h2⟩:=vV.mp hn;cases i with
  |zero=>
   simp at e1 e2;subst e1 e2;rw[Pu h1,vL hm]
  |succ i=>exact Wb h2 (by simpa using e1) (by simpa using e2) (by rw[nq];exact hm)
theorem zfy:∀{xs:List Xv} {vs:List V} (l0:List Addr) (z:Addr->Prop) (k:Nat),aO K cA U H xs vs->U.z=z->(∀i n,(locs xs)[i]?=some n->l0[k+i]?=U.l[n]?)->aO K cA ⟨z,l0⟩ H (cY k xs) vs
 :=by
 intro xs vs l0 z k r0
 induction r0 generalizing k with
 |nil=>exact λ_ _=>.nil
 |@cons x v xs vs a q ih=>
  intro ez h;cases a with
  |d a=>exact .cons (.d (a.ju λb hb=>by rw[ez];exact hb)) (ih k ez h)
  |@l n a' a=>
   refine .cons (.l ?_) (ih (k+1) ez λi m e=>?_)
   ·have:=h 0 n rfl;rw[Nat.add_zero] at this;show l0[k]?=_;rw[this];exact a
   ·have:=h (i+1) m (by simpa [locs] using e);rw[<-this]
    congr 1
    lia
theorem zep:∀{xs:List Xv} {vs:List V},aO K cA U H xs vs->∀n∈locs xs,∃a,U.l[n]?=some a
 :=by
 intro xs vs r0
 induction r0 with
 |nil=>exact λn h=>by cases h
 |cons a q ih=>
  intro n h;cases a with
  |d a=>exact ih n h
  |l a=>
   rcases jd.mp h with rfl|h
   ·exact⟨_,a⟩
   ·exact ih n h
theorem Wc{xs:List Xv}{U1:Ph}{s0 s1:S}(hS:aF K cA U H s)(hn:(locs xs).Nodup)(ht:∀n∈locs xs,∃a,U.l[n]?=some a)(x:Ext ⟨U.z,adr U.l (locs xs)⟩ H U1 H')(r1:aF K cA U1 H' s1) :
  Ext U H ⟨U1.z,U.l⟩ H'/\aF K cA ⟨U1.z,U.l⟩ H' (cO s (locs xs) s1):=by
 have aq:∀a∈adr U.l (locs xs),a∈U.l:=λa ha=>by obtain⟨n,_,q⟩:=Bf ha;exact fB q
 obtain⟨r,er,hr⟩:=x.more;have er:U1.l=adr U.l (locs xs)++r:=er;refine⟨⟨⟨[],by simp,by simp⟩,λa h=>x.qK a h,λa h=>x.lE a h,λa o h n=>x.frame a o h λz=>n (aq a z),x.stay⟩,?_⟩;refine⟨by rw[Bg];exact hS.len,λn o a e1 e2=>?_,hS.uniq,λa ha=>x.qK a (hS.lz a ha),r1.zt⟩;have e2:U.l[n]?=some a:=e2;by_cases iG:n∈locs xs
 ·obtain⟨i,hi,ei⟩:=vO iG;have ei:(locs xs)[i]?=some n:=by rw[dj hi,ei]
  have ha:(adr U.l (locs xs))[i]?=some a:=by rw[Gh ht ei];exact e2
  have Wd:U1.l[i]?=some a:=by rw[er,m9 (eO.mp ha).1];exact ha
  have dD:i<s1.length:=by rw[<-r1.len];exact(eO.mp Wd).1
  have hb:=Wb (s:=s) (s1:=s1) hn ei (dj dD) (by rw[<-hS.len];exact(eO.mp e2).1);rw[hb] at e1;cases e1;exact jA.zl (r1.obj i _ a (dj dD) Wd) _
 ·rw[Pu iG] at e1;have Px:a∉adr U.l (locs xs):=λz=>by
   obtain⟨m,q1,q2⟩:=Bf z;have:n=m:=(Ls (eO.mp e2).1 hS.uniq).mp (e2.trans q2.symm);exact iG (this▸q1)
  exact(hS.obj n o a e1 e2).map (λ_ q=>x.frame a _ q Px) λ_ _ r=>Rep.zl ((Rep.zl r _).mono x λa ha=>hS.lz a (aq a ha)) _
theorem Wf{F:List Xv->M Xv}{xs:List Xv}{vs:List V}{Q:VK}{EE:Nat->List D->Ph->Hp->Prop}(hS:aF K cA U H s)(r:aO K cA U H xs vs)
  (hE:∀c fs U1 U2 H',U1.z=U2.z->EE c fs U1 H'->EE c fs U2 H')
  (h:Run K cA (bZ F xs) U H s (λx _ U' H'=>∀v,aV K cA U' H' x v->Q v H') (λc fs _ U' H'=>EE c fs U' H')) :
  ∃U0 s0,aO K cA U0 H (cY 0 xs) vs/\aF K cA U0 H s0/\Run K cA (F (cY 0 xs)) U0 H s0 (λx _ U' H'=>∀v,aV K cA U' H' x v->Q v H') (λc fs _ U' H'=>EE c fs U' H'):=by
 unfold Run bZ at h;by_cases hn:(locs xs).Nodup
 ·simp only[if_pos hn] at h;have ht:=zep r;have aq:∀a∈adr U.l (locs xs),a∈U.l:=λa ha=>by obtain⟨n,_,q⟩:=Bf ha;exact fB q
  cases e0:iW s (locs xs) with
  |none=>simp only[e0] at h
  |some s0=>
   simp only[e0] at h;refine⟨⟨U.z,adr U.l (locs xs)⟩,s0,zfy _ _ 0 r rfl (λi n e=>by rw[Nat.zero_add];exact Gh ht e),?_,?_⟩
   ·refine⟨by rw[V_ e0];exact Gi ht,λi o a e1 e2=>?_,Wa hS.uniq hn ht,λa ha=>hS.lz a (aq a ha),hS.zt⟩;have e2:(adr U.l (locs xs))[i]?=some a:=e2;have hi:i<(locs xs).length:=by rw[<-Gi ht];exact(eO.mp e2).1
    have ei:(locs xs)[i]?=some ((locs xs)[i]):=dj hi;rw[Gh ht ei] at e2;rw[(V9 e0 ei).1] at e1;exact jA.zl (hS.obj _ o a e1 e2) _
   ·unfold Run;cases e1:F (cY 0 xs) s0 with
    |none=>simp only[e1] at h
    |some q=>
     obtain⟨q,s1⟩:=q;simp only[e1] at h;cases q with
     |er c fs=>
      intro U1 H' x r1;obtain⟨x2,r2⟩:=Wc (s0:=s0) hS hn ht x r1;exact hE c fs ⟨U1.z,U.l⟩ U1 H' rfl (h ⟨U1.z,U.l⟩ H' x2 r2)
     |ok y=>
      intro U1 H' x r1 v rv;obtain⟨x2,r2⟩:=Wc (s0:=s0) hS hn ht x r1;cases y with
      |d w=>
       cases rv with
       |d rv=>exact h ⟨U1.z,U.l⟩ H' x2 r2 v (.d (Rep.zl rv _))
      |l n=>
       cases rv with
       |@l _ a hl=>
        obtain⟨rr,er,hr⟩:=x.more;have er:U1.l=adr U.l (locs xs)++rr:=er;cases em:(locs xs)[n]? with
        |some m=>
         simp only[em] at h;refine h _ H' x2 r2 _ (.l ?_);show U.l[m]?=some a;have ha:(adr U.l (locs xs))[n]?=U.l[m]?:=Gh ht em;have dD:n<(adr U.l (locs xs)).length:=by rw[Gi ht];exact(eO.mp em).1
         rw[er,m9 dD] at hl;rw[<-ha];exact hl
        |none=>
         simp only[em] at h;have Py:(adr U.l (locs xs)).length<=n:=by rw[Gi ht];exact oh.mp em
         have Js:a∈rr:=by
          rw[er,n_ Py] at hl;exact fB hl
         have Px:a∉U.l:=λz=>by
          obtain⟨o,eo⟩:=hS.zt a (hS.lz a z);rw[hr a Js] at eo;cases eo
         cases eo:s1[n]? with
         |none=>simp only[eo] at h
         |some o=>
          simp only[eo] at h;have ho:=r1.obj n o a eo hl;refine h ⟨U1.z,U.l++[a]⟩ H' ⟨⟨[a],rfl,by simpa using hr a Js⟩,x2.qK,x2.lE,x2.frame,x2.stay⟩ ?_ _ (.l (by show (U.l++[a])[s.length]?=_;rw[<-hS.len];simp));refine⟨by show (U.l++[a]).length=_;rw[mZ,mZ,Bg,hS.len];rfl,λm o' a' e1 e2=>?_,?_,λb hb=>?_,r1.zt⟩
          ·have e2:(U.l++[a])[m]?=some a':=e2;by_cases hm:m<s.length
           ·rw[m9 (by rw[Bg];exact hm)] at e1;rw[m9 (by rw[hS.len];exact hm)] at e2;exact jA.zl (r2.obj m o' a' e1 e2) _
           ·have rQ:m=s.length:=by
             have z:=(eO.mp e2).1;rw[mZ,hS.len] at z;simp at z
             lia
            subst rQ;rw[n_ (by rw[Bg];exact bJ _)] at e1;rw[n_ (by rw[hS.len];exact bJ _)] at e2;simp[Bg] at e1;simp[hS.len] at e2;subst e1 e2;exact jA.zl ho _
          ·show (U.l++[a]).Nodup;rw[Ii];refine⟨hS.uniq,by simp,λb hb c hc e=>?_⟩;simp at hc;subst hc e;exact Px hb
          ·have hb:b∈U.l++[a]:=hb;rcases nj.mp hb with z|z
           ·exact x2.qK b (hS.lz b z)
           ·simp at z;subst z;exact r1.lz _ (fB hl)
 ·simp only[if_neg hn] at h
end
section
variable {X:Cx}{cA:Cl}{aq:Nat->Nat->Bool}{aj:Bool}{F:Fn}{EX:XS}{a b c d e o:Expr}{A B C Dd E' O:E}{pos pp p2 apos cpos:Pos}{es:List Expr}{Xs:Es}{fz:Bool}{p:Pr}{x:Str}{U:Ph}{H:Hp}{s:S}
theorem Pz{K:W.Frag}{β:Type}{x:Xv}{v:V}{k:Nat×List D->M β}{P:β->S->Ph->Hp->Prop}{Ee:Nat->List D->S->Ph->Hp->Prop}(hS:aF K cA U H s)(r:aV K cA U H x v)(h:Run K cA (M.bd (cH x) k) U H s P Ee) :
  ∃n ad xs vs,x=.l n/\v=.ref ad/\s[n]?=some (.lst xs)/\U.l[n]?=some ad/\H ad=some (.lst vs)/\aB K cA U H xs vs/\Run K cA (k (n,xs)) U H s P Ee:=by
 cases r with
 |d _=>exact h.elim
 |@l n ad hl=>
  unfold Run M.bd cH at h;dsimp only at h;cases e:s[n]? with
  |none=>rw[e] at h;exact h.elim
  |some o=>
   rw[e] at h;cases o with
   |lst xs=>
    obtain⟨vs,q1,q2⟩:=hS.obj n _ _ e hl;exact⟨n,ad,xs,vs,rfl,rfl,e,hl,q1,q2,h⟩
   |_=>exact h.elim
theorem ziy(ho:SE X cA aq aj F EX o O)(ha:SE X cA aq aj F EX a A)
  (mj:attributeBase o "append" X.env (eval o X.env)=eval o X.env:=by rfl)
  (yG:((backTo cpos (starEach [a] X.env)).all (λx=>!x.1)&&(backToKw cpos (keywordEach [] X.env)).all (λx=>x.1.isSome)
  &&decide ([a].length+([]:List Keyword).length+(if ([]:List Keyword).isEmpty then 0 else 1)<30))=true:=by rfl)
  (mz:(apos.endLine==cpos.line)=true:=by rfl) (hs:starEach [a] X.env=(false,eval a X.env)::starEach [] X.env:=by rfl) (nG:(backTo cpos (starEach [] X.env)).any (·.1)=false:=by rfl) :
  SE X cA aq aj F EX (.Call (.Attribute o "append" apos) [a] [] cpos) (.push O A):=PE.weak (zmt PySem.F.plainAttrs_list PySem.F.slot_list_append PySem.F.type_list_append U6 ho (qG ha wj hs) mj yG mz hs nG) λZ H Q hh=>un hh λU J s hL hS h=>by
 refine aW hL hS h λx H1 U1 d1 s1 x1 hL1 aJ r1 h1=>?_;obtain⟨n,ad,xs,vs,rfl,rfl,e1,f1,g1,q1,h2⟩:=Pz aJ r1 h1;refine⟨.inl ⟨rfl,vs,cL.of g1⟩,aW hL1 aJ h2 λy H2 U2 d2 s2 x2 hL2 aR r2 h3=>?_⟩;obtain⟨dd,_,rd,h4⟩:=Jz r2 h3;obtain⟨n',ad',ys,us,en,ea,e2,f2,g2,q2,h5⟩:=Pz aR (r1.mono x2 aJ.lz) h4;cases en;cases ea;by_cases hz:ys.length<sizeLine
 ·have h5:Run X.K cA (M.bd (putL n (ys++[dd])) λ_=>M.ret (Xv.d .non)) U2 H2 s2 (λd _ U' H'=>∀v,aV X.K cA U' H' d v->Q v H') (eX X.K cA EX Z):=by
   have h6:Run X.K cA (if ys.length<sizeLine then M.bd (putL n (ys++[dd])) λ_=>M.ret (Xv.d .non) else M.no) U2 H2 s2 (λd _ U' H'=>∀v,aV X.K cA U' H' d v->Q v H') (eX X.K cA EX Z):=h5;rw[if_pos hz] at h6;exact h6
  refine⟨ad,us,y,rfl,rfl,g2,by rw[<-q2.len];exact hz,?_⟩;exact h5 U2 _ (Ext.write f2 ⟨_,g2⟩) (aR.write e2 f2 (q2.app (.cons rd .nil))) _ (.d .non)
 ·have h6:Run X.K cA (if ys.length<sizeLine then M.bd (putL n (ys++[dd])) λ_=>M.ret (Xv.d .non) else M.no) U2 H2 s2 (λd _ U' H'=>∀v,aV X.K cA U' H' d v->Q v H') (eX X.K cA EX Z):=h5;rw[if_neg hz] at h6;exact h6.elim
noncomputable def jX(K:W.Frag)(cA:Cl)(m:List Xv->M Xv):Sp:=λvs H Q E=>∃U xs s,aO K cA U H xs vs/\aF K cA U H s/\Run K cA (m xs) U H s (λd _ U' H'=>∀v,aV K cA U' H' d v->Q v H') (λc fs _ U' H'=>∀dx,jt K cA U' H' c fs dx->E (.ref (cA.a c)) dx H')
theorem zid{K:W.Frag}{U1 U2:Ph}{c:Nat}{fs:List D}{dx:Option Addr}(e:U1.z=U2.z)(h:jt K cA U2 H c fs dx):jt K cA U1 H c fs dx:=h.imp id λ⟨d,vs,a,b,c,l,r⟩=>⟨d,vs,a,by rw[e];exact b,c,l,r.ju λ_ z=>by rw[<-e];exact z⟩
theorem zje{cm:Bool}{k f:Nat}{fa:Addr}{fd:FuncData}{ps:List Str}(Fo:bT X.prog X.w X.K X.mg X.base (fQ X.prog X.w) cm k fa fd ps (jX X.K cA (F f)))(iQ:cm=true->X.aj=true)(hr:bB k X.A)(hg:Gl X x)(hm:X.mg x=some (.ref fa))(hk:PySem.W.keepIn X.K (.ref fa)=true)(hb:Binds X.K fd ps [])(R:Raises X EX)
  (ha:SA X cA aq aj F EX (e::es) Xs) (pO:(x==("__debug__" : Str))=false:=by decide) (he:starEach (e::es) X.env=(false,eval e X.env)::starEach es X.env:=by rfl) (cD:(backTo pos (starEach es X.env)).any (·.1)=false:=by rfl) :
  SE X cA aq aj F EX (.Call (.Name x pp) (e::es) [] pos) (.call f Xs):=PE.weak (zgP Fo iQ hr hg hm hk hb R ha pO he cD) λZ H Q hh=>un hh λU J s hL hS h=>
 nU hL hS h λvs H1 U1 ds s1 x1 hL1 aJ r1 h1=>by
  obtain⟨U0,s0,a1,a2,a3⟩:=Wf (EE:=λc fs U' H'=>∀dx,jt X.K cA U' H' c fs dx->EX Z (.ref (cA.a c)) dx H') aJ r1 (λc fs U1 U2 H' ez z dx q=>z dx (zid ez q)) h1;exact⟨U0,_,s0,a1,a2,a3⟩
end
section
variable {K:W.Frag}{cA:Cl}{U U':Ph}{H H':Hp}{s:S}
def cP(U:Ph)(H H':Hp):Prop:=∀a o,H a=some o->¬U.z a->H' a=some o
mutual
theorem Rep.out(x:cP U H H'):∀{d:D} {v:V},Rep K cA U H d v->Rep K cA U H' d v
 |_,_,.non=>.non
 |_,_,.bl b=>.bl b
 |_,_,.int i=>.int i
 |_,_,.str z=>.str z
 |_,_,.tup h r=>.tup (h.imp (λ⟨p,n⟩=>⟨p.imp (λq=>x _ _ q n) λ⟨o,q⟩=>⟨o,x _ _ q n⟩,n⟩) id) (aB.out x r)
 |_,_,.fl h r=>.fl (h.imp (λ⟨p,n⟩=>⟨p.imp (λq=>x _ _ q n) λ⟨o,q⟩=>⟨o,x _ _ q n⟩,n⟩) id) (aB.out x r)
 |_,_,.fd h n=>.fd (x _ _ h n) n
 |_,_,.exc h r=>.exc ⟨h.1,h.2.imp (λ⟨a,b,q⟩=>⟨a,b,x _ _ q h.1⟩) λ⟨dx,p,n,q,l⟩=>⟨dx,x _ _ p h.1,n,x _ _ q n,l⟩⟩ (aB.out x r)
 |_,_,.any v=>.any v
 |_,_,.ob h r=>.ob ⟨h.1,let ⟨dx,p,l⟩:=h.2;⟨dx,x _ _ p h.1,l⟩⟩ (aB.out x r)
theorem aB.out(x:cP U H H'):∀{ds:List D} {vs:List V},aB K cA U H ds vs->aB K cA U H' ds vs
 |_,_,.nil=>.nil
 |_,_,.cons h r=>.cons (Rep.out x h) (aB.out x r)
end
theorem aV.out(x:cP U H H'){d:Xv}{v:V}(h:aV K cA U H d v):aV K cA U H' d v:=by
 cases h with
 |d h=>exact .d (h.out x)
 |l h=>exact .l h
theorem aX.out(x:cP U H H')(h:aX K cA U H Z J):aX K cA U H' Z J:=⟨h.1,λi d e=>let ⟨v,a,b⟩:=h.2 i d e;⟨v,a,b.out x⟩⟩
theorem cP.refl:cP U H H:=λa o e _=>e
structure jh(K:W.Frag)(cA:Cl)(c:Src)(U:Ph)(H:Hp)(cg:L2.It):Prop where
 stop:∀U' H₁ H' s' i,Ext U H U' H₁->cP U' H₁ H'->aF K cA U' H' s'->c.at i s'=some none->cg.stop i H'
 go:∀U' H₁ H' s' i x,Ext U H U' H₁->cP U' H₁ H'->aF K cA U' H' s'->c.at i s'=some (some x)->cg.go i H'
 yr:∀U' H₁ H' s' i x v H2,Ext U H U' H₁->cP U' H₁ H'->aF K cA U' H' s'->c.at i s'=some (some x)->cg.yr i H' v H2->bf H' H2/\Rep K cA U' H2 x v
theorem LstAt.later(hz:∀a∈U.l,U.z a)(h:LstAt K U H a vs)(x:Ext U H U' H₁)(o:cP U' H₁ H'):LstAt K U' H' a vs:=
 (h.mono x hz).imp (λ⟨p,n⟩=>⟨p.imp (λq=>o _ _ q n) λ⟨w,q⟩=>⟨w,o _ _ q n⟩,n⟩) id
theorem TupAt.later(hz:∀a∈U.l,U.z a)(h:TupAt K U H a vs)(x:Ext U H U' H₁)(o:cP U' H₁ H'):TupAt K U' H' a vs:=
 (h.mono x hz).imp (λ⟨p,n⟩=>⟨p.imp (λq=>o _ _ q n) λ⟨w,q⟩=>⟨w,o _ _ q n⟩,n⟩) id
theorem jh.list(hz:∀a∈U.l,U.z a)(h:LstAt K U H a vs)(r:aB K cA U H xs vs):jh K cA (.fix xs) U H (Ja K a):=by
 refine⟨λU' H₁ H' s' i x o hS e=>⟨vs,(h.later hz x o).qL,?_⟩,λU' H₁ H' s' i d x o hS e=>?_,λU' H₁ H' s' i d v H2 x o hS e y=>?_⟩
 ·have e:xs[i]?=none:=cj e;exact oh.mp ((r.mono x hz).none e)
 ·have e:xs[i]?=some d:=cj e;obtain⟨v,q,_⟩:=r.get e;exact⟨vs,v,(h.later hz x o).qL,q⟩
 ·have e:xs[i]?=some d:=cj e;obtain⟨rfl,y⟩:=y;obtain⟨w,q,jG⟩:=((r.mono x hz).out o).get e;have:=y vs (h.later hz x o).qL;rw[q] at this;cases this;exact⟨bf.refl,jG⟩
theorem jh.tuple(hz:∀a∈U.l,U.z a)(h:TupAt K U H a vs)(r:aB K cA U H xs vs):jh K cA (.fix xs) U H (MK K a):=by
 refine⟨λU' H₁ H' s' i x o hS e=>⟨vs,(h.later hz x o).iY,?_⟩,λU' H₁ H' s' i d x o hS e=>?_,λU' H₁ H' s' i d v H2 x o hS e y=>?_⟩
 ·have e:xs[i]?=none:=cj e;exact oh.mp ((r.mono x hz).none e)
 ·have e:xs[i]?=some d:=cj e;obtain⟨v,q,_⟩:=r.get e;exact⟨vs,v,(h.later hz x o).iY,q⟩
 ·have e:xs[i]?=some d:=cj e;obtain⟨rfl,y⟩:=y;obtain⟨w,q,jG⟩:=((r.mono x hz).out o).get e;have:=y vs (h.later hz x o).iY;rw[q] at this;cases this;exact⟨bf.refl,jG⟩
theorem PB(h:(Src.live n).at i s=some o):∃xs,s[n]?=some (.lst xs)/\xs[i]?=o:=by
 unfold Src.at at h;dsimp only at h;cases e:s[n]? with
 |none=>rw[e] at h;cases h
 |some ob=>
  rw[e] at h;cases ob with
  |lst xs=>exact⟨xs,rfl,cj h⟩
  |_=>cases h
theorem jh.live(h:U.l[n]?=some a):jh K cA (.live n) U H (Ja K a):=by
 refine⟨λU' H₁ H' s' i x o hS e=>?_,λU' H₁ H' s' i d x o hS e=>?_,λU' H₁ H' s' i d v H2 x o hS e y=>?_⟩
 ·obtain⟨xs,e1,e2⟩:=PB e;obtain⟨vs,q1,q2⟩:=hS.obj n _ a e1 (x.get h);exact⟨vs,cL.of q1,oh.mp (q2.none e2)⟩
 ·obtain⟨xs,e1,e2⟩:=PB e;obtain⟨vs,q1,q2⟩:=hS.obj n _ a e1 (x.get h);obtain⟨v,q3,_⟩:=q2.get e2;exact⟨vs,v,cL.of q1,q3⟩
 ·obtain⟨xs,e1,e2⟩:=PB e;obtain⟨vs,q1,q2⟩:=hS.obj n _ a e1 (x.get h);obtain⟨w,q3,jG⟩:=q2.get e2;obtain⟨rfl,y⟩:=y;have:=y vs (cL.of q1);rw[q3] at this;cases this;exact⟨bf.refl,jG⟩
theorem PJ:(iV a b)[i]?=if i<(b-a).toNat then some (.int (a+i)) else none:=by
 unfold iV;rw[gU,List.getElem?_range']
where
 List.getElem?_range' {n i:Nat}:Option.map (λ(i:Nat)=>D.int (a+i)) (List.range n)[i]?=if i<n then some (.int (a+i)) else none:=by
  by_cases h:i<n
  ·rw[if_pos h,BZ h];rfl
  ·rw[if_neg h,List.getElem?_eq_none (by simp;lia)];rfl
theorem jh.range{a b:Int}:jh K cA (.fix (iV a b)) U H (Dl a (b-a).toNat):=by
 refine⟨λU' H₁ H' s' i x o hS e=>?_,λU' H₁ H' s' i d x o hS e=>?_,λU' H₁ H' s' i d v H2 x o hS e y=>?_⟩
 ·have e:(iV a b)[i]?=none:=cj e;rw[PJ] at e;split at e
  ·cases e
  ·exact Ik (by assumption)
 ·have e:(iV a b)[i]?=some d:=cj e;rw[PJ] at e;split at e
  ·assumption
  ·cases e
 ·have e:(iV a b)[i]?=some d:=cj e;rw[PJ] at e;split at e
  ·cases e;obtain⟨rfl,rfl⟩:=y;exact⟨bf.refl,.int _⟩
  ·cases e
end
noncomputable def PK(K:W.Frag)(te:TE):TI:=λZ H R=>te Z H λv H1=>∃a,v=.ref a/\(((∃xs,cL K H1 a xs)/\R (Ja K a) H1)\/((∃xs,fP K H1 a xs)/\R (MK K a) H1))
theorem zkd(he:PE X l te):PI X tg l (PK X.K te):=by
 intro ao s Z H R I h;refine aZ (he ao s Z H _ I h) λv s1 hx=>Ly hx λx H1 I1 r1 a e q=>?_;subst e;cases r1;rcases q with ⟨⟨xs,hq⟩,q⟩|⟨⟨xs,hq⟩,q⟩
 ·obtain⟨its,rv,p,hz⟩:=I1.list hq;refine Ig p.isList ?_;refine⟨s1.heap.objs.size,[s1.heap.objs.size],_,_,H1,rfl,I1.kept (t':=s1.toks) λb o e=>cJ _ e,ze7 a _,⟨_,fC _ rfl,rfl,rfl⟩,λb hb=>?_,q⟩;have e:b=s1.heap.objs.size:=by simpa using hb
  subst e;exact I1.q_ (bJ _) (I1.hok.fresh (bJ _))
 ·obtain⟨its,rv,p,hz⟩:=I1.tuple hq;refine wpAny_pyIter_tuple (show s1.heap.IsTuple a its.toArray from p) ?_;refine⟨s1.heap.objs.size,[s1.heap.objs.size],_,_,H1,rfl,I1.kept (t':=s1.toks) λb o e=>cJ _ e,zeJ a _,⟨_,fC _ rfl,rfl,rfl⟩,λb hb=>?_,q⟩;have e:b=s1.heap.objs.size:=by simpa using hb
  subst e;exact I1.q_ (bJ _) (I1.hok.fresh (bJ _))
section
variable {X:Cx}{cA:Cl}{aq:Nat->Nat->Bool}{aj:Bool}{F:Fn}{EX:XS}{a b tg:Expr}{A B:E}{pos pp:Pos}
noncomputable def tI(K:W.Frag)(cA:Cl)(EX:XS)(m:Vs->M (Src×Nat)):TI:=λZ H R=>∃U J s,aX K cA U H Z J/\aF K cA U H s/\Run K cA (m J) U H s (λcn _ U1 H1=>∀cg,jh K cA cn.1 U1 H1 cg->R cg H1) (eX K cA EX Z)
def SI(X:Cx)(cA:Cl)(aq:Nat->Nat->Bool)(aj:Bool)(F:Fn)(EX:XS)(tg iter:Expr)(w:Wk):Prop:=PI X tg iter (tI X.K cA EX (lM aq aj F w))
theorem PI.weak{iter:Expr}{t t':TI}(h:PI X tg iter t)(f:∀Z H Q,t' Z H Q->t Z H Q):PI X tg iter t':=λao s Z H Q I q=>h ao s Z H Q I (f Z H Q q)
theorem zk6(ha:SE X cA aq aj F EX a A):SI X cA aq aj F EX tg a (.seq A):=PI.weak (zkd ha) λZ H R hh=>un hh λU J s hL hS h=>by
 refine aW hL hS h λv H1 U1 d s1 x1 hL1 aJ r1 h1=>?_;cases r1 with
 |@l n ad hl=>
  unfold Run src at h1;dsimp only at h1;cases e:s1[n]? with
  |none=>rw[e] at h1;exact h1.elim
  |some o=>
   rw[e] at h1;cases o with
   |lst xs=>
    obtain⟨vs,q1,q2⟩:=aJ.obj n _ _ e hl;exact⟨ad,rfl,.inl ⟨⟨vs,cL.of q1⟩,h1 U1 H1 Ext.refl aJ _ (jh.live hl)⟩⟩
   |_=>exact h1.elim
 |d r1=>
  cases r1 with
  |tup q r=>exact⟨_,rfl,.inr ⟨⟨_,q.iY⟩,h1 U1 H1 Ext.refl aJ _ (jh.tuple aJ.lz q r)⟩⟩
  |fl q r=>exact⟨_,rfl,.inl ⟨⟨_,q.qL⟩,h1 U1 H1 Ext.refl aJ _ (jh.list aJ.lz q r)⟩⟩
  |_=>exact h1.elim
theorem Wg{i:Int}(h:eZ i=true) : -(2^62)<=i/\i<2^62:=by
 unfold eZ at h;rw[gF,Ce,Ce] at h;exact⟨by lia,h.2⟩
theorem Wh{K:W.Frag}{U:Ph}{H:Hp}{s:S}{i j:Int}{P:Src×Nat->S->Ph->Hp->Prop}{Ee:Nat->List D->S->Ph->Hp->Prop}(hS:aF K cA U H s)(h:Run K cA (if (eZ i&&eZ j)=true then M.ret (Src.fix (iV i j),(iV i j).length) else M.no) U H s P Ee):(-(2^62)<=i/\i<2^62/\-(2^62)<=j/\j<2^62)/\P (.fix (iV i j),(iV i j).length) s U H:=by
 by_cases hk:(eZ i&&eZ j)=true
 ·rw[if_pos hk] at h;rw[gF] at hk;obtain⟨a,b⟩:=Wg hk.1;obtain⟨c,d⟩:=Wg hk.2;exact⟨⟨a,b,c,d⟩,h.bC hS⟩
 ·rw[if_neg hk] at h;exact h.elim
theorem zmn(nW:Gl X "range")(hmg:X.mg "range"=none)(ha:SE X cA aq aj F EX a A)(hb:SE X cA aq aj F EX b B)(h1:starEach [a,b] X.env=(false,eval a X.env)::starEach [b] X.env)(h2:starEach [b] X.env=(false,eval b X.env)::starEach [] X.env) :
  SI X cA aq aj F EX tg (.Call (.Name "range" pp) [a,b] [] pos) (.rg A B):=PI.weak (zf5 nW hmg (qG ha (qG hb wj h2) h1) (by rw[h1,h2];rfl) (by rw[h2];rfl)) λZ H R hh=>un hh λU J s hL hS h=>by
 refine aW hL hS h λx H1 U1 d1 s1 x1 hL1 aJ r1 h1=>aW hL1 aJ h1 λy H2 U2 d2 s2 x2 hL2 aR r2 h2=>?_;obtain⟨i,_,e1,h3⟩:=FN (r1.mono x2 aJ.lz) h2;obtain⟨j,_,e2,h4⟩:=FN r2 h3;obtain⟨hz,q⟩:=Wh aR h4;subst e1 e2;exact⟨i,j,rfl,hz,q _ jh.range⟩
theorem zlO(nW:Gl X "range")(hmg:X.mg "range"=none)(hb:SE X cA aq aj F EX b B)(h2:starEach [b] X.env=(false,eval b X.env)::starEach [] X.env) :
  SI X cA aq aj F EX tg (.Call (.Name "range" pp) [b] [] pos) (.rg (.c (.int 0)) B):=PI.weak (zfB nW hmg (qG hb wj h2) (by rw[h2];rfl)) λZ H R hh=>un hh λU J s hL hS h=>by
 have h:Run X.K cA (M.bd (ev aq aj F B J) λy=>M.bd (int (.d (.int 0))) λi=>M.bd (int y) λj=>if (eZ i&&eZ j)=true then M.ret (Src.fix (iV i j),(iV i j).length) else M.no) U H s _ _:=h;refine aW hL hS h λy H2 U2 d2 s2 x2 hL2 aR r2 h2=>?_;obtain⟨j,_,e2,h4⟩:=FN r2 (show Run X.K cA (M.bd (int d2) λj=>if (eZ 0&&eZ j)=true then M.ret (Src.fix (iV 0 j),(iV 0 j).length) else M.no) U2 H2 s2 _ _ from h2);obtain⟨hz,q⟩:=Wh aR h4;subst e2;refine⟨j,rfl,hz.2.2.1,hz.2.2.2,q _ ?_⟩;have:=jh.range (K:=X.K) (cA:=cA) (U:=U2) (H:=H2) (a:=0) (b:=j);rw[Int.sub_zero] at this;exact this
end
section
variable {K:W.Frag}{cA:Cl}{U U' U0:Ph}{H H' H0:Hp}{s:S}
theorem Run.bd0(x:Ext U0 H0 U H)(h:Run K cA (M.bd m k) U0 H0 s P Ee) :
  Run K cA m U H s (λa s1 U1 H1=>Ext U H U1 H1/\aF K cA U1 H1 s1/\Run K cA (k a) U0 H0 s1 P Ee) Ee:=by
 unfold Run M.bd at *;cases e:m s with
 |none=>rw[e] at h;exact h
 |some r=>
  obtain⟨r,s1⟩:=r;rw[e] at h;cases r with
  |er c f=>exact λU1 H1 x1 r1=>h U1 H1 (x.trans x1) r1
  |ok a=>exact λU1 H1 x1 r1=>⟨x1,r1,h⟩
theorem Wi{α β:Type}{m:M α}{k:α->M β}{P:β->S->Ph->Hp->Prop}{Ee Ee':Nat->List D->S->Ph->Hp->Prop}(x:Ext U0 H0 U H)(h:Run K cA (M.bd (M.qt m) k) U0 H0 s P Ee) :
  Run K cA m U H s (λa s1 U1 H1=>Ext U H U1 H1/\aF K cA U1 H1 s1/\Run K cA (k a) U0 H0 s1 P Ee) Ee':=by
 have h2:=h.bd0 x;unfold Run at h2 ⊢;unfold M.qt at h2;cases e:m s with
 |none=>rw[e] at h2;exact h2
 |some r=>
  obtain⟨r,s1⟩:=r;rw[e] at h2;cases r with
  |ok a=>exact h2
  |er c f=>exact h2.elim
theorem zls{α β:Type}{m m':M α}{k:α->M β}{P:β->S->Ph->Hp->Prop}{Ee:Nat->List D->S->Ph->Hp->Prop}(e:m s=m' s)(h:Run K cA (M.bd m k) U H s P Ee):Run K cA (M.bd m' k) U H s P Ee:=by
 unfold Run M.bd at *;rw[<-e];exact h
end
section
variable {X:Cx}{cA:Cl}{aq:Nat->Nat->Bool}{aj:Bool}{F:Fn}{EX:XS}{elt iter tg:Expr}{A B:E}{pos p:Pos}{ifs:List Expr}{scope:Scope}{N:List Str}{cond:Eo}{fr cV:List Nat}{many:Nat}{fz:Bool}{w:Wk}
def Gj(X:Cx)(cA:Cl)(aq:Nat->Nat->Bool)(aj:Bool)(F:Fn)(EX:XS)(ifs:List Expr)(m:Eo):Prop:=Jp X ifs (tV X.K cA EX (p7 aq aj F m))
theorem zlu:Gj X cA aq aj F EX [] .no:=λao s Z H Q I ⟨U,J,st,hL,hS,h⟩=>zjn ao s Z H Q I (h.bC hS)
theorem zhY(h:ST X cA aq aj F EX c C):Gj X cA aq aj F EX [c] (.yes C):=zi5 h
structure lF(K:W.Frag)(cA:Cl)(g:TG)(cV:List Nat):Prop where
 run:∀(U:Ph) (H:Hp) (s:S) (Z:L2.St) (J J':Vs) (d:D) (v:V) (Q:L2.St->Hp->Prop),aX K cA U H Z J->aF K cA U H s->Rep K cA U H d v->gK cV d J=some J'->
  (∀Z',aX K cA U H Z' J'->Z'.length=Z.length->(∀i,i∉cV->Z'[i]?=Z[i]?)->Q Z' H)->g v Z H Q
theorem o7{K:W.Frag}(i:Nat):lF K cA (dB i) [i] where
 run:=λU H s Z J J' d v Q hL hS r e k=>by
  cases e;exact k _ (hL.set (.d r)) (nq ..) λj hj=>qx (by simpa using λz=>hj (by simp[z]))
theorem Gk{K:W.Frag}(i j:Nat):lF K cA (qY K 2 (gG (dB i) (gG (dB j) qX))) [i,j] where
 run:=λU H s Z J J' d v Q hL hS r e k=>by
  have e:(jU d).bind (λds=>gq [i,j] (ds.map Xv.d) J)=some J':=e;obtain⟨ds,e1,e2⟩:=xu.mp e;cases r with
  |@tup ad xs vs h1 h2=>
   have e1:xs=ds:=cj e1;subst e1;cases h2 with
   |nil=>cases e2
   |cons r1 t1=>
    cases t1 with
    |nil=>cases e2
    |cons r2 t2=>
     cases t2 with
     |nil=>
      have e2:=cj e2;subst e2;refine⟨ad,_,rfl,h1.iY,rfl,_,_,rfl,_,_,rfl,rfl,k _ ((hL.set (.d r1)).set (.d r2)) (by rw[nq,nq]) λm hm=>?_⟩;rw[qx (λz=>hm (by simp[z])),qx (λz=>hm (by simp[z]))]
     |cons r3 t3=>cases e2
  |_=>cases e1
noncomputable def cF(many:Nat)(fr:List Nat)(Z:L2.St):L2.St:=List.replicate many none++fr.map λj=>(Z[j]?).join
theorem zjF{U:Ph}{H:Hp}{Z:L2.St}{J:Vs}(hL:aX X.K cA U H Z J){Z':L2.St}(hl:Z'.length=many+fr.length)(hf:∀(i:Nat) j v,fr[i]?=some j->Z[j]?=some (some v)->Z'[many+i]?=some (some v)):aX X.K cA U H Z' (blk many fr J):=by
 refine⟨by unfold blk;simp[hl],λi d e=>?_⟩;unfold blk at e;by_cases hi:i<many
 ·rw[m9 (by simpa using hi),zT,if_pos hi] at e;cases e
 ·rw[n_ (by simpa using Ik hi),HX,gU] at e;cases z:fr[i-many]? with
  |none=>rw[z] at e;cases e
  |some j=>
   rw[z] at e;have e3:J[j]?.join=some d:=by simpa using e
   obtain⟨v,q1,q2⟩:=hL.2 j d (O_ e3);refine⟨v,?_,q2⟩;have:=hf (i-many) j v z q1;rw[show many+(i-many)=i by omega] at this;exact this
structure dZ(U:Ph)(H:Hp)(Dd:Addr)(o:HO):Prop where
 at_:H Dd=some o
 nl:Dd∉U.l
 z:U.z Dd
abbrev Keep(U:Ph)(H:Hp)(Dd:Addr)(vs:List V):Prop:=dZ U H Dd (.lst vs)
theorem dZ.mono{U U':Ph}{H H':Hp}{Dd:Addr}{o:HO}(x:Ext U H U' H')(k:dZ U H Dd o):dZ U' H' Dd o:=by
 refine⟨x.frame _ _ k.at_ k.nl,λz=>?_,x.qK _ k.z⟩;obtain⟨r,er,hr⟩:=x.more;rw[er] at z;rcases nj.mp z with z|z
 ·exact k.nl z
 ·have:=hr _ z;rw[k.at_] at this;cases this
theorem dZ.ext{U:Ph}{H:Hp}{Dd:Addr}{o u:HO}(k:dZ U H Dd o):(∀a o,H a=some o->¬U.z a->(upd H Dd u) a=some o)/\dZ U (upd H Dd u) Dd u:=
 ⟨λa o e n=>by rw[dO (λz=>n (by rw[z];exact k.z))];exact e,jy,k.nl,k.z⟩
end
section
variable {K:W.Frag}{cA:Cl}{U U':Ph}{H H':Hp}
theorem aF.keep{s:S}{Dd:Addr}{o u:HO}(h:aF K cA U H s)(k:dZ U H Dd o):aF K cA U (upd H Dd u) s:=by
 have x:cP U H (upd H Dd u):=k.ext.1;refine⟨h.len,λn o a e1 e2=>?_,h.uniq,h.lz,λa z=>?_⟩
 ·have na:a≠Dd:=λy=>k.nl (by rw[<-y];exact fB e2);exact(h.obj n o a e1 e2).map (λ_ q=>by rw[dO na];exact q) λ_ _ r=>r.out x
 ·by_cases e:a=Dd
  ·subst e;exact⟨_,jy⟩
  ·obtain⟨o,q⟩:=h.zt a z;exact⟨o,by rw[dO e];exact q⟩
theorem Ext.keep{U1:Ph}{H1:Hp}{Dd:Addr}{vs:List V}{u:HO}(x:Ext U1 H1 U H)(hD:H1 Dd=none):Ext U1 H1 U (upd H Dd u):=by
 refine⟨x.more,x.qK,x.lE,λa o h n=>?_,λa o h=>?_⟩
 ·rw[dO (λz=>by rw[z,hD] at h;cases h)];exact x.frame a o h n
 ·rw[dO (λz=>by rw[z,hD] at h;cases h)];exact x.stay a o h
theorem zfM{U1:Ph}{H1:Hp}{s':S}{fz:Bool}{acc:List D}{vs:List V}{Dd:Addr}{Q:VK}{Ee:Nat->List D->S->Ph->Hp->Prop}(h:Run K cA (newL fz acc) U1 H1 s' (λd _ U' H'=>∀v,aV K cA U' H' d v->Q v H') Ee)
  (x2:Ext U1 H1 U' H') (hD:H1 Dd=none) (nz:¬U1.z Dd) (aR:aF K cA U' H' s') (k:Keep U' H' Dd vs) (wK:aB K cA U' H' acc vs):Q (.ref Dd) H':=by
 cases fz with
 |true=>
  have zq:∀a,(λa=>U'.z a/\a≠Dd) a->U'.z a:=λa z=>z.1;refine h ⟨λa=>U'.z a/\a≠Dd,U'.l⟩ H' ⟨x2.more,λa z=>⟨x2.qK a z,λe=>nz (by rw[<-e];exact z)⟩,λa z=>x2.lE a z.1,x2.frame,x2.stay⟩ ?_ _ (.d (.fl (.inl ⟨.inl k.at_,λz=>z.2 rfl⟩) (aB.ju (U:=U') zq wK)));refine⟨aR.len,λn o a e1 e2=>jA.ju (U:=U') zq (aR.obj n o a e1 e2),aR.uniq,λa ha=>⟨aR.lz a ha,λe=>k.nl (by rw[<-e];exact ha)⟩,λa z=>aR.zt a z.1⟩
 |false=>
  obtain⟨r,er,hr⟩:=x2.more;refine h ⟨U'.z,U'.l++[Dd]⟩ H' ⟨⟨r++[Dd],by show U'.l++[Dd]=_;rw[er,Ih],λb hb=>?_⟩,x2.qK,x2.lE,x2.frame,x2.stay⟩ ?_ _ (.l (by show (U'.l++[Dd])[s'.length]?=_;rw[<-aR.len];simp))
  ·rcases nj.mp hb with z|z
   ·exact hr b z
   ·simp at z;subst z;exact hD
  ·refine⟨by show (U'.l++[Dd]).length=_;rw[mZ,mZ,aR.len];rfl,λm o' a' e1 e2=>?_,?_,λb hb=>?_,aR.zt⟩
   ·have e2:(U'.l++[Dd])[m]?=some a':=e2;by_cases hm:m<s'.length
    ·rw[m9 hm] at e1;rw[m9 (by rw[aR.len];exact hm)] at e2;exact jA.zl (aR.obj m o' a' e1 e2) _
    ·have rQ:m=s'.length:=by
      have z:=(eO.mp e2).1;rw[mZ,aR.len] at z;simp at z;omega
     subst rQ;rw[n_ (bJ _)] at e1;rw[n_ (by rw[aR.len];exact bJ _)] at e2;simp at e1;simp[aR.len] at e2;subst e1 e2;exact⟨vs,k.at_,aB.zl wK _⟩
   ·show (U'.l++[Dd]).Nodup;rw[Ii];refine⟨aR.uniq,by simp,λb hb c hc e=>?_⟩;simp at hc;subst hc e;exact k.nl hb
   ·have hb:b∈U'.l++[Dd]:=hb;rcases nj.mp hb with z|z
    ·exact aR.lz b z
    ·simp at z;subst z;exact k.z
noncomputable def Ph.mark(U:Ph)(p:Addr):Ph:=⟨λa=>U.z a\/a=p,U.l⟩
theorem zew{s:S}{p:Addr}(hS:aF K cA U H s)(hp:H p=none):Ext U H (U.mark p) (upd H p (.lst []))/\aF K cA (U.mark p) (upd H p (.lst [])) s/\Keep (U.mark p) (upd H p (.lst [])) p []:=by
 have g:=bf.new (o:=.lst []) hp;have nz:=hS.nz hp;refine⟨⟨⟨[],by simp[Ph.mark],by simp⟩,λa z=>.inl z,λa z=>z.imp id λe=>by rw[e];exact hp,λa o h _=>g a o h,λa o h=>⟨o,g a o h⟩⟩,⟨hS.len,λn o a e1 e2=>?_,hS.uniq,λa ha=>.inl (hS.lz a ha),λa z=>?_⟩,jy,λz=>nz (hS.lz p z),.inr rfl⟩
 ·have x:Ext U H (U.mark p) (upd H p (.lst [])):=⟨⟨[],by simp[Ph.mark],by simp⟩,λa z=>.inl z,λa z=>z.imp id λe=>by rw[e];exact hp,λa o h _=>g a o h,λa o h=>⟨o,g a o h⟩⟩;exact(hS.obj n o a e1 e2).map (g _) λ_ _ r=>r.mono x hS.lz
 ·rcases z with z|z
  ·obtain⟨o,e⟩:=hS.zt a z;exact⟨o,g _ _ e⟩
  ·subst z;exact⟨_,jy⟩
end
section
variable {X:Cx}{cA:Cl}{aq:Nat->Nat->Bool}{aj:Bool}{F:Fn}{EX:XS}{elt iter tg:Expr}{A B:E}{pos p:Pos}{ifs:List Expr}{scope:Scope}{N:List Str}{cond:Eo}{fr cV:List Nat}{many:Nat}{fz:Bool}{w:Wk}
noncomputable abbrev fU(aq:Nat->Nat->Bool)(aj:Bool)(F:Fn)(B:E)(cond:Eo)(cV:List Nat)(Jb:Vs):D->List D->M (List D):=λd acc=>M.bd (M.opt (gK cV d Jb)) λJ'=>M.bd (M.qt (p7 aq aj F cond J')) λok=>
    if ok=true then M.bd (M.qt (ev aq aj F B J')) λy=>M.bd (dat y) λe=>if acc.length<sizeLine then M.ret (acc++[e]) else M.no else M.ret acc
theorem Wj{H:Hp}{a:Addr}{o:HO}(h:H a=some o):upd H a o=H:=funext λb=>by
 by_cases z:b=a
 ·subst z;rw[jy,h]
 ·rw[dO z]
theorem zgO{K:W.Frag}{g:TG}{U1 U':Ph}{H1 H2:Hp}{s':S}{Z':L2.St}{Jb:Vs}{Dd:Addr}{acc:List D}{vs:List V}{xi:D}{v:V}{β:Type}{kk:List D->M β}{P:β->S->Ph->Hp->Prop}{Ee:Nat->List D->S->Ph->Hp->Prop}(hT:lF K cA g cV)(iG:∀i∈cV,i<many)
  (hD:H1 Dd=none) (x2:Ext U1 H1 U' H2) (hL2:aX K cA U' H2 Z' Jb) (aR:aF K cA U' H2 s') (kp:Keep U' H2 Dd vs) (wK:aB K cA U' H2 acc vs) (rx:Rep K cA U' H2 xi v)
  (h:Run K cA (M.bd (fU aq aj F B cond cV Jb xi acc) kk) U1 H1 s' P Ee) {Nn:L2.St->Hp->Prop}
  (hN:∀Z3 H3 U3 s3 u9 JV,Z3.length=Z'.length->(∀i,many<=i->Z3[i]?=Z'[i]?)->Ext U1 H1 U3 H3->Ext U' H2 U3 (upd H3 Dd (.lst vs))->aF K cA U3 H3 s3->Keep U3 H3 Dd JV->aB K cA U3 H3 u9 JV->Run K cA (kk u9) U1 H1 s3 P Ee->Nn Z3 H3) :
  g v Z' H2 λZ3 H3=>tV K cA (λ_ _ _ _=>False) (p7 aq aj F cond) Z3 H3 λok H4=>
   if ok=true then tE K cA (λ_ _ _ _=>False) (ev aq aj F B) Z3 H4 λy H5=>∃ys,H5 Dd=some (.lst ys)/\ys.length<sizeLine/\Nn Z3 (upd H5 Dd (.lst (ys++[y]))) else Nn Z3 H4:=by
 unfold fU at h;rw[jf] at h;obtain⟨J',e1,h1⟩:=Jy h;refine hT.run U' H2 s' Z' Jb J' xi v _ hL2 aR rx e1 λZ3 uZ Wm hf3=>?_;rw[jf] at h1;have kf:∀i,many<=i->Z3[i]?=Z'[i]?:=λi hi=>hf3 i λz=>absurd (iG i z) (Nat.not_lt.mpr hi);refine⟨U',J',s',uZ,aR,(Wi x2 h1).imp λok s4 U4 H4 ⟨x4,wG,h6⟩=>?_⟩;cases ok with
 |false=>
  refine iF (hN Z3 H4 U4 s4 acc vs Wm kf (x2.trans x4) (by rw[Wj (kp.mono x4).at_];exact x4) wG (kp.mono x4) (wK.mono x4 aR.lz) ?_);rw[if_neg (by decide)] at h6;exact h6
 |true=>
  rw[if_pos rfl,jf] at h6;refine iT ⟨U4,J',s4,uZ.mono x4 aR.lz,wG,(Wi (x2.trans x4) h6).imp λy s5 U5 H5 ⟨x5,hS5,h7⟩ u ru=>?_⟩;rw[jf] at h7;have k5:=(kp.mono x4).mono x5;have r5:=(wK.mono x4 aR.lz).mono x5 wG.lz;have x15:=(x2.trans x4).trans x5;obtain⟨dd,ey,rd,h8⟩ : ∃d,y=.d d/\Rep K cA U5 H5 d u/\Run K cA (M.bd (if acc.length<sizeLine then M.ret (acc++[d]) else M.no) kk) U1 H1 s5 P Ee:=by
   cases ru with
   |l _=>exact h7.elim
   |d r=>exact⟨_,rfl,r,h7⟩
  by_cases hz:acc.length<sizeLine
  ·rw[if_pos hz] at h8;refine⟨vs,k5.at_,by rw[<-r5.len];exact hz,?_⟩;have ox:cP U5 H5 (upd H5 Dd (.lst (vs++[u]))):=k5.ext.1;exact hN Z3 _ U5 s5 (acc++[dd]) (vs++[u]) Wm kf (Ext.keep (vs:=vs) x15 hD) (by rw[ziQ,Wj k5.at_];exact x4.trans x5) (hS5.keep k5) k5.ext.2 ((r5.app (.cons rd .nil)).out ox) h8
  ·rw[if_neg hz] at h8;exact h8.elim
theorem Wn{g:TG}{iter':Expr}(hT:lF X.K cA g cV)(iG:∀i∈cV,i<many){Z:L2.St}{H:Hp}{Q:VK}(hh:tE X.K cA EX (ev aq aj F (.comp fz B cV w fr many cond)) Z H Q) :
  rA (tI X.K cA EX (lM aq aj F w)) (cF many fr) g (tV X.K cA (λ_ _ _ _=>False) (p7 aq aj F cond)) (tE X.K cA (λ_ _ _ _=>False) (ev aq aj F B)) Z H Q:=un hh λU J s hL hS h=>by
 by_cases dG:aj=true
 ·have h:Run X.K cA (if aj=true then M.bd (lM aq aj F w J) λcn=>M.bd (walk cn.1 (fU aq aj F B cond cV (blk many fr J)) (cn.2+1) 0 []) λxs=>newL fz xs else M.no) U H s (λd _ U' H'=>∀v,aV X.K cA U' H' d v->Q v H') (eX X.K cA EX Z):=h;rw[if_pos dG] at h;refine⟨U,J,s,hL,hS,h.bd.imp λcn s1 U1 H1 ⟨x1,aJ,h1⟩ cg hJ=>?_⟩;have hL1:=hL.mono x1 hS.lz;obtain⟨c,n⟩:=cn;dsimp only at h1 hJ;intro Dd hD;obtain⟨x0,hS0,k0⟩:=zew aJ hD;have PL:∀{Z':L2.St},(Z'.length=many+fr.length/\∀i,many<=i->Z'[i]?=(cF many fr Z)[i]?)->∀{U' H'},Ext U1 H1 U' H'->aX X.K cA U' H' Z' (blk many fr J):=λ{Z'} hZ {U' H'} x=>zjF (hL1.mono x aJ.lz) hZ.1 λi j v e1 e2=>by
   rw[hZ.2 _ (by omega)];unfold cF;rw[n_ (by simp),HX,gU,show many+i-many=i by omega,e1];simp[e2]
  refine⟨λi m Z' H'=>m=n+1-i/\(Z'.length=many+fr.length/\∀i,many<=i->Z'[i]?=(cF many fr Z)[i]?)/\∃U' s' acc vs,Ext U1 H1 U' H'/\aF X.K cA U' H' s'/\Keep U' H' Dd vs/\aB X.K cA U' H' acc vs /\
   Run X.K cA (M.bd (walk c (fU aq aj F B cond cV (blk many fr J)) (n+1-i) i acc) λxs=>newL fz xs) U1 H1 s' (λd _ U' H'=>∀v,aV X.K cA U' H' d v->Q v H') (eX X.K cA EX Z),⟨n+1,rfl,⟨by simp[cF],λi _=>rfl⟩,U1.mark Dd,s1,[],[],x0,hS0,k0,.nil,h1⟩,?_⟩
  rintro i m Z' H' ⟨rfl,hZ,U',s',acc,vs,x2,aR,kp,wK,h3⟩;have hL2:=PL hZ x2;cases ek:n+1-i with
  |zero=>rw[ek] at h3;exact h3.elim
  |succ k=>
   rw[ek] at h3;cases ei:c.at i s' with
   |none=>
    exfalso
    unfold Run M.bd walk at h3;simp only[ei] at h3
   |some oi=>
    cases oi with
    |none=>
     refine .inl ⟨hJ.stop U' H' H' s' i x2 cP.refl aR ei,?_⟩;have h4:Run X.K cA (newL fz acc) U1 H1 s' (λd _ U' H'=>∀v,aV X.K cA U' H' d v->Q v H') (eX X.K cA EX Z):=by
      unfold Run M.bd walk at h3;simp only[ei] at h3;exact h3
     exact zfM h4 x2 hD (aJ.nz hD) aR kp wK
    |some xi=>
     refine .inr ⟨hJ.go U' H' H' s' i xi x2 cP.refl aR ei,λZ2 H2=>(Z2.length=many+fr.length/\∀i,many<=i->Z2[i]?=(cF many fr Z)[i]?)/\∃U' s' acc vs,Ext U1 H1 U' H2/\aF X.K cA U' H2 s'/\Keep U' H2 Dd vs/\aB X.K cA U' H2 acc vs /\
      Run X.K cA (M.bd (walk c (fU aq aj F B cond cV (blk many fr J)) k (i+1) acc) λxs=>newL fz xs) U1 H1 s' (λd _ U' H'=>∀v,aV X.K cA U' H' d v->Q v H') (eX X.K cA EX Z),λZ2 H2 hn=>⟨k,by omega,by omega,hn.1,?_⟩,λv H2 hy=>?_⟩
     ·have:n+1-(i+1)=k:=by omega
      rw[this];exact hn.2
     ·obtain⟨gr,rx⟩:=hJ.yr U' H' H' s' i xi v H2 x2 cP.refl aR ei hy;have h4:Run X.K cA (M.bd (fU aq aj F B cond cV (blk many fr J) xi acc) λacc'=>M.bd (walk c (fU aq aj F B cond cV (blk many fr J)) k (i+1) acc') λxs=>newL fz xs) U1 H1 s' (λd _ U' H'=>∀v,aV X.K cA U' H' d v->Q v H') (eX X.K cA EX Z):=by
       have h5:=zls (m':=M.bd (fU aq aj F B cond cV (blk many fr J) xi acc) λacc'=>walk c (fU aq aj F B cond cV (blk many fr J)) k (i+1) acc') (by rw[walk];simp only[ei]) h3;rw[jf] at h5;exact h5
      exact zgO hT iG hD (x2.trans gr.ext) (hL2.mono gr.ext aR.lz) (aR.grow gr) (kp.mono gr.ext) (wK.mono gr.ext aR.lz) rx h4 λZ3 H3 U3 s3 u9 JV l3 f3 x3 _ jW k3 r3 h6=>⟨⟨l3.trans hZ.1,λi hi=>(f3 i hi).trans (hZ.2 i hi)⟩,U3,s3,u9,JV,x3,jW,k3,r3,h6⟩
 ·have h:Run X.K cA (if aj=true then M.bd (lM aq aj F w J) λcn=>M.bd (walk cn.1 (fU aq aj F B cond cV (blk many fr J)) (cn.2+1) 0 []) λxs=>newL fz xs else M.no) U H s (λd _ U' H'=>∀v,aV X.K cA U' H' d v->Q v H') (eX X.K cA EX Z):=h;rw[if_neg dG] at h;exact h.elim
theorem Wo{XN:List Str}(qI:∀(i:Nat) (y:Str) (j:Nat),N[many+i]?=some y->fr[i]?=some j->scope.names.lookup y=some .free/\XN[j]?=some y)(Z:L2.St)(i:Nat)(x:Str)(v:V)(e1:N[i]?=some x)(e2:(cF many fr Z)[i]?=some (some v)):scope.names.lookup x=some .free/\∃j:Nat,XN[j]?=some x/\Z[j]?=some (some v):=by
 unfold cF at e2;by_cases hi:i<many
 ·rw[m9 (by simpa using hi),zT,if_pos hi] at e2;cases e2
 ·rw[n_ (by simpa using Ik hi),HX,gU] at e2;cases z:fr[i-many]? with
  |none=>rw[z] at e2;cases e2
  |some j=>
   rw[z] at e2;have e3:(Z[j]?).join=some v:=by simpa using e2
   obtain⟨a1,a2⟩:=qI (i-many) x j (by rw[show many+(i-many)=i by omega];exact e1) z;exact⟨a1,j,a2,O_ e3⟩
theorem Wq{g:TG}(hc:X.aj=true)(B':cX X.env.scope scope)(hi:SI X cA aq aj F EX tg iter w)(hN:N.length=many+fr.length)
  (qI:∀(i:Nat) (y:Str) (j:Nat),N[many+i]?=some y->fr[i]?=some j->scope.names.lookup y=some .free/\X.N[j]?=some y)
  (hg:∀cl C s3 H3 fp ao,PG (X.blk scope cl N C s3 H3 fp ao) tg g) (hT:lF X.K cA g cV) (iG:∀i∈cV,i<many)
  (ht:∀cl C s3 H3 fp ao,Gj (X.blk scope cl N C s3 H3 fp ao) cA aq aj F (λ_ _ _ _=>False) ifs cond) (he:∀cl C s3 H3 fp ao,SE (X.blk scope cl N C s3 H3 fp ao) cA aq aj F (λ_ _ _ _=>False) elt B)
  (hs:∀x,foldedSetIterable iter X.env x=pure x:=by intro _;rfl):SE X cA aq aj F EX (.ListComp elt [⟨tg,iter,ifs,0⟩] scope pos) (.comp fz B cV w fr many cond):=
 PE.weak (zjw hc B' hi (⟨hg,ht,he⟩ : Parts X elt tg ifs scope N g (tV X.K cA (λ_ _ _ _=>False) (p7 aq aj F cond)) (tE X.K cA (λ_ _ _ _=>False) (ev aq aj F B))) (ZY:=cF many fr) (λZ=>by simp[cF,hN]) (λZ i x v e1 e2=>Wo qI Z i x v e1 e2) hs) λZ H Q hh=>Wn (iter':=iter) hT iG hh
end
section
variable (K:W.Frag)(cA:Cl)
def aQ(m:MS)(U:Ph)(H:Hp)(s:S)(D:Ends)(EX:XS):Prop:=match m s with
 |some (.nx J,s')=>∀U' H' Z',Ext U H U' H'->aF K cA U' H' s'->aX K cA U' H' Z' J->D.nx Z' H'
 |some (.bk J,s')=>∀U' H' Z',Ext U H U' H'->aF K cA U' H' s'->aX K cA U' H' Z' J->D.bk Z' H'
 |some (.ct J,s')=>∀U' H' Z',Ext U H U' H'->aF K cA U' H' s'->aX K cA U' H' Z' J->D.ct Z' H'
 |some (.rt d,s')=>∀U' H' v,Ext U H U' H'->aF K cA U' H' s'->aV K cA U' H' d v->D.rt v H'
 |some (.er c fs J,s')=>∀U' H' Z',Ext U H U' H'->aF K cA U' H' s'->aX K cA U' H' Z' J->∀dx,jt K cA U' H' c fs dx->EX Z' (.ref (cA.a c)) dx H'
 |none=>False
noncomputable def tS(EX:XS)(m:Vs->MS):TS:=λD Z H=>∃U J s,aX K cA U H Z J/\aF K cA U H s/\aQ K cA (m J) U H s D EX
end
section
variable {K:W.Frag}{cA:Cl}{U U':Ph}{H H':Hp}{s:S}{Z:L2.St}{J:Vs}{EX:XS}{D:Ends}
theorem aQ.ext{m:MS}(x:Ext U H U' H')(h:aQ K cA m U H s D EX):aQ K cA m U' H' s D EX:=by
 unfold aQ at *;split at h<;>first
  |exact λU2 H2 a y r l=>h U2 H2 a (x.trans y) r l
  |exact h.elim
theorem aQ.ofM{α:Type}{m:M α}{k:α->MS}(hL:aX K cA U H Z J)(hz:∀a∈U.l,U.z a)(h:aQ K cA (ofM m J k) U H s D EX):Run K cA m U H s (λa s1 U1 H1=>Ext U H U1 H1/\aF K cA U1 H1 s1/\aQ K cA (k a) U1 H1 s1 D EX) (eX K cA EX Z):=by
 unfold aQ Mi.ofM at h;unfold Run;cases e:m s with
 |none=>rw[e] at h;exact h
 |some r=>
  obtain⟨r,s1⟩:=r;rw[e] at h;cases r with
  |er c fs=>exact λU1 H1 x r=>h U1 H1 Z x r (hL.mono x hz)
  |ok a=>
   intro U1 H1 x r;refine⟨x,r,?_⟩;have h2:aQ K cA (k a) U H s1 D EX:=h;exact h2.ext x
theorem aQ.then_(h:aQ K cA (b_ m k) U H s D EX):aQ K cA m U H s {D with nx:=λZ' H'=>∃U' J' s',aX K cA U' H' Z' J'/\aF K cA U' H' s'/\aQ K cA (k J') U' H' s' D EX} EX:=by
 unfold aQ b_ at h;unfold aQ;cases e:m s with
 |none=>rw[e] at h;exact h
 |some r=>
  obtain⟨r,s1⟩:=r;rw[e] at h;cases r with
  |nx J=>
   intro U1 H1 Z1 x r l;have h2:aQ K cA (k J) U H s1 D EX:=h;exact⟨U1,J,s1,l,r,h2.ext x⟩
  |bk J=>exact h
  |ct J=>exact h
  |rt d=>exact h
  |er c fs J=>exact h
end
section
variable (X:Cx)(cA:Cl)(aq:Nat->Nat->Bool)(aj:Bool)(F:Bool->Fn)(EX:XS)
def SS(st:Stmt)(m:St):Prop:=PS X st (tS X.K cA EX (ex aq aj F m))
def u_(st:List Stmt)(m:bM):Prop:=oH X st (tS X.K cA EX (exs aq aj F m))
end
section
variable {X:Cx}{cA:Cl}{aq:Nat->Nat->Bool}{aj:Bool}{F:Bool->Fn}{EX:XS}{a b c d e:Expr}{A B C:E}{pos p p2:Pos}{st:Stmt}{sts body orelse:List Stmt}{m:St}{ms mb me mh:bM}{es:List Expr}{Xs:Es}{x y n:Str}{i j:Nat}
theorem PS.weak{t t':TS}(h:PS X st t)(f:∀D Z H,t' D Z H->t D Z H):PS X st t':=λao s Z H D I q=>h ao s Z H D I (f D Z H q)
theorem oH.weak{t t':TS}(h:oH X sts t)(f:∀D Z H,t' D Z H->t D Z H):oH X sts t':=λao s Z H D I q=>h ao s Z H D I (f D Z H q)
theorem zmS:SS X cA aq aj F EX st .no:=λ_ _ _ _ _ _ ⟨_,_,_,_,_,h⟩=>h.elim
theorem zjd:u_ X cA aq aj F EX [] .nil:=oH.weak Ub λD Z H hh=>un hh λU J s hL hS h=>h U H Z Ext.refl hS hL
theorem zg5(h1:SS X cA aq aj F EX st m)(h2:u_ X cA aq aj F EX sts ms):u_ X cA aq aj F EX (st::sts) (.cons m ms):=oH.weak (Uc h1 h2) λD Z H hh=>un hh λU J s hL hS h=>by
 have h:aQ X.K cA (b_ (ex aq aj F m J) λJ'=>exs aq aj F ms J') U H s D EX:=h;exact⟨U,J,s,hL,hS,h.then_⟩
theorem zmy(ha:SE X cA aq aj (F aj) EX a A)(hs:swapsWith a none pos.line X.env=pure false:=by rfl):SS X cA aq aj F EX (.Expr a pos) (.ex A):=PS.weak (zit ha hs) λD Z H hh=>un hh λU J s hL hS h=>
 ⟨U,J,s,hL,hS,(aQ.ofM hL hS.lz h).imp λd s1 U1 H1 ⟨x1,aJ,h1⟩ v rv=>h1 U1 H1 Z Ext.refl aJ (hL.mono x1 hS.lz)⟩
theorem zln(ha:SE X cA aq aj (F aj) EX a A):SS X cA aq aj F EX (.Return (some a) pos) (.ret A):=PS.weak (zk1 ha) λD Z H hh=>un hh λU J s hL hS h=>
 ⟨U,J,s,hL,hS,(aQ.ofM hL hS.lz h).imp λd s1 U1 H1 ⟨x1,aJ,h1⟩ v rv=>h1 U1 H1 v Ext.refl aJ rv⟩
theorem zjT(hN:X.N.Nodup)(hi:X.N[i]?=some x)(hx:Loc X.env.scope x)(ha:SE X cA aq aj (F aj) EX a A)(hs:swapsWith a (some (.Name x p)) pos.line X.env=pure false:=by rfl)(hf:X.fn x=true\/X.env.scope.names.lookup x=some .local:=by first|exact .inl rfl|exact .inr rfl) :
  SS X cA aq aj F EX (.Assign [.Name x p] a pos) (.asg (.nm i) A):=PS.weak (zlv hN hi hx ha hs hf) λD Z H hh=>un hh λU J s hL hS h=>
 ⟨U,J,s,hL,hS,(aQ.ofM hL hS.lz h).imp λd s1 U1 H1 ⟨x1,aJ,h1⟩ v rv=>h1 U1 H1 _ Ext.refl aJ ((hL.mono x1 hS.lz).set rv)⟩
theorem PN{k}(hc:X.aj=true)(hN:X.N.Nodup)(hi:X.N[i]?=some x)(hj:X.N[j]?=some y)(hx:Loc X.env.scope x)(hy:Loc X.env.scope y)(vd:X.fn x=true\/X.env.scope.names.lookup x=some .local)(vf:X.fn y=true\/X.env.scope.names.lookup y=some .local) :
  PG X (.Tuple [.Name x px,.Name y py] k pos) (qY X.K 2 (gG (dB i) (gG (dB j) qX))):=zkj hc (Ud (I_ hN hi hx vd) (Ud (I_ hN hj hy vf) ziC))
theorem Wr{K:W.Frag}{U:Ph}{H:Hp}{s:S}{J:Vs}{Z:L2.St}{D:Ends}{d:Xv}{v:V}(dG:aj=true)(hL:aX K cA U H Z J)(hS:aF K cA U H s)(rv:aV K cA U H d v)(h:aQ K cA (store aq aj (F aj) (.tp [i,j]) d J) U H s D EX):qY K 2 (gG (dB i) (gG (dB j) qX)) v Z H D.nx:=by
 have h:aQ K cA (if aj=true then ofM (M.bd (dat d) λd=>M.opt ((jU d).bind λds=>gq [i,j] (ds.map Xv.d) J)) J (λJ' s=>some (Out.nx J',s)) else λ_=>none) U H s D EX:=h;rw[if_pos dG] at h;obtain⟨dd,e0,rd,h1⟩:=Jz rv (aQ.ofM hL hS.lz h);obtain⟨J',e,_,aJ,h2⟩:=Run.opt hS h1;refine(Gk i j).run U H s Z J J' dd v _ hL hS rd e λZ' hL' _ _=>h2 U H Z' Ext.refl hS hL'
theorem zh2{k}(hc:X.aj=true)(dG:aj=true)(hN:X.N.Nodup)(hi:X.N[i]?=some x)(hj:X.N[j]?=some y)(hx:Loc X.env.scope x)(hy:Loc X.env.scope y)(vd:X.fn x=true\/X.env.scope.names.lookup x=some .local)(vf:X.fn y=true\/X.env.scope.names.lookup y=some .local)(ha:SE X cA aq aj (F aj) EX a A)
  (hs:swapsWithSole [.Tuple [.Name x px,.Name y py] k pt] a pos.line X.env=pure false:=by rfl) (hw:swappedStores [.Tuple [.Name x px,.Name y py] k pt] a X.env=pure none:=by rfl)
  (h1:(assignEach [.Tuple [.Name x px,.Name y py] k pt] X.env).map (·.2)=[assign (.Tuple [.Name x px,.Name y py] k pt) X.env]:=by rfl) :
  SS X cA aq aj F EX (.Assign [.Tuple [.Name x px,.Name y py] k pt] a pos) (.asg (.tp [i,j]) A):=PS.weak (Ue ha (PN hc hN hi hj hx hy vd vf) hs hw h1) λD Z H hh=>un hh λU J s hL hS h=>
 ⟨U,J,s,hL,hS,(aQ.ofM hL hS.lz h).imp λd s1 U1 H1 ⟨x1,aJ,h1⟩ v rv=>Wr dG (hL.mono x1 hS.lz) aJ rv h1⟩
theorem zlE(hO:SE X cA aq aj (F aj) EX oo O)(hI:SE X cA aq aj (F aj) EX ii I')(ha:SE X cA aq aj (F aj) EX a A)
  (PX:∀v,assign (.Subscript oo ii p) X.env v=(do
   let ov <-holding [v] (eval oo X.env)
   let iv <-holding [v,ov] (eval ii X.env)
   standAt p
   holding [v,ov,iv] (setItem ov iv v)
   release [v,ov,iv] []):=by intro _;rfl) (hs:swapsWithSole [.Subscript oo ii p] a pos.line X.env=pure false:=by rfl) (hw:swappedStores [.Subscript oo ii p] a X.env=pure none:=by rfl)
  (h1:(assignEach [.Subscript oo ii p] X.env).map (·.2)=[assign (.Subscript oo ii p) X.env]:=by rfl) :
  SS X cA aq aj F EX (.Assign [.Subscript oo ii p] a pos) (.asg (.aq O I') A):=PS.weak (Ue ha (zlG hO hI zg2 PX) hs hw h1) λD Z H hh=>un hh λU J s hL hS h=>by
 refine⟨U,J,s,hL,hS,(aQ.ofM hL hS.lz h).imp λd s1 U1 H1 ⟨x1,aJ,h1⟩ v rv=>?_⟩;obtain⟨dd,e0,rd,h2⟩:=Jz rv (aQ.ofM (hL.mono x1 hS.lz) aJ.lz h1);refine aW (hL.mono x1 hS.lz) aJ h2 λxo H2 U2 d2 s2 x2 hL2 aR r2 h3=>aW hL2 aR h3 λyi H3 U3 d3 s3 x3 uZ jW r3 h4=>?_;obtain⟨k,_,ek,h5⟩:=FN r3 h4;obtain⟨n,ad,xs,vs,_,ea,e1,f1,g1,q1,h6⟩:=Pz jW (r2.mono x3 aR.lz) h5;subst ek ea;cases ej:L2.pP xs.length k with
 |none=>simp only[ej] at h6;exact h6.elim
 |some jj=>
  simp only[ej] at h6;refine⟨ad,vs,k,jj,rfl,rfl,g1,by rw[<-q1.len];exact ej,?_⟩;have rv3:=(rd.mono x2 aJ.lz).mono x3 aR.lz;have wG:=jW.write e1 f1 (q1.set rv3 jj);have x4:Ext U3 H3 U3 (upd H3 ad (.lst (vs.set jj v))):=Ext.write f1 ⟨_,g1⟩;obtain⟨_,_,h8⟩:=h6 U3 _ x4 wG;exact h8 U3 _ Z Ext.refl wG (uZ.mono x4 jW.lz)
theorem zld{kt k2 qZ}(hc:X.aj=true)(dG:aj=true)(hN:X.N.Nodup)(hi:X.N[i]?=some x)(hj:X.N[j]?=some y)(qF:i≠j)(hx:X.env.scope.names.lookup x=some .local)(hy:X.env.scope.names.lookup y=some .local)
  (ha:SE X cA aq aj (F aj) EX a A) (hb:SE X cA aq aj (F aj) EX b B) (h1:starEach [a,b] X.env=(false,eval a X.env)::starEach [b] X.env) (h2:starEach [b] X.env=(false,eval b X.env)::starEach [] X.env)
  (hw:swappedStores [.Tuple [.Name x px,.Name y py] kt pt] (.Tuple [a,b] k2 qZ) X.env=pure (some [x,y]))
  (hs:swapsWithSole [.Tuple [.Name x px,.Name y py] kt pt] (.Tuple [a,b] k2 qZ) pos.line X.env=pure false:=by rfl) :
  SS X cA aq aj F EX (.Assign [.Tuple [.Name x px,.Name y py] kt pt] (.Tuple [a,b] k2 qZ) pos) (.par i j A B):=PS.weak (zlK hc hN hi hj qF hx hy (qG ha (qG hb wj h2) h1) hw hs) λD Z H hh=>un hh λU J s hL hS h=>by
 have h:aQ X.K cA (if aj=true then ofM (M.bd (ev aq aj (F aj) A J) λx=>M.bd (ev aq aj (F aj) B J) λy=>M.ret (x,y)) J (λxy s=>some (.nx ((J.set i (some xy.1)).set j (some xy.2)),s)) else λ_=>none) U H s D EX:=h;rw[if_pos dG] at h;refine aW hL hS (aQ.ofM hL hS.lz h) λx H1 U1 d1 s1 x1 hL1 aJ r1 h1=>aW hL1 aJ h1 λy H2 U2 d2 s2 x2 hL2 aR r2 h2=>?_;obtain⟨_,_,h3⟩:=h2.bC aR;exact⟨x,y,rfl,h3 U2 H2 _ Ext.refl aR ((hL2.set (r1.mono x2 aJ.lz)).set r2)⟩
theorem zmC(hc:ST X cA aq aj (F aj) EX c C)(ht:u_ X cA aq aj F EX body mb)(he:u_ X cA aq aj F EX orelse me):SS X cA aq aj F EX (.If c body orelse pos) (.iff C mb me):=PS.weak (zm3 hc ht he) λD Z H hh=>un hh λU J s hL hS h=>by
 refine⟨U,J,s,hL,hS,(aQ.ofM hL hS.lz h).imp λk s1 U1 H1 ⟨x1,aJ,h1⟩=>?_⟩;cases k with
 |true=>exact iT ⟨U1,J,s1,hL.mono x1 hS.lz,aJ,h1⟩
 |false=>exact iF ⟨U1,J,s1,hL.mono x1 hS.lz,aJ,h1⟩
theorem ziw{g:TG}{elt iter tg:Expr}{ifs:List Expr}{scope:Scope}{N:List Str}{cond:Eo}{fr cV:List Nat}{many:Nat}{fz:Bool}{w:Wk}{spos py:Pos}(hc:X.aj=true)(vg:X.N.Nodup)(yM:X.N[i]?=some y)(hx:Loc X.env.scope y)(hf:X.fn y=true\/X.env.scope.names.lookup y=some .local)(B':cX X.env.scope scope)(hi:SI X cA aq aj (F aj) EX tg iter w)(hN:N.length=many+fr.length)
  (qI:∀(i:Nat) (y:Str) (j:Nat),N[many+i]?=some y->fr[i]?=some j->scope.names.lookup y=some .free/\X.N[j]?=some y)
  (hg:∀cl C s3 H3 fp ao,PG (X.blk scope cl N C s3 H3 fp ao) tg g) (hT:lF X.K cA g cV) (iG:∀i∈cV,i<many)
  (ht:∀cl C s3 H3 fp ao,Gj (X.blk scope cl N C s3 H3 fp ao) cA aq aj (F aj) (λ_ _ _ _=>False) ifs cond) (he:∀cl C s3 H3 fp ao,SE (X.blk scope cl N C s3 H3 fp ao) cA aq aj (F aj) (λ_ _ _ _=>False) elt B)
  (Er:swapsWith (.ListComp elt [⟨tg,iter,ifs,0⟩] scope pos) (some (.Name y py)) spos.line X.env=pure true) (hs:∀x,foldedSetIterable iter X.env x=pure x:=by intro _;rfl) :
  SS X cA aq aj F EX (.Assign [.Name y py] (.ListComp elt [⟨tg,iter,ifs,0⟩] scope pos) spos) (.asg (.nm i) (.comp fz B cV w fr many cond)):=
 PS.weak (zeL hc vg yM hx hf B' hi (⟨hg,ht,he⟩ : Parts X elt tg ifs scope N g (tV X.K cA (λ_ _ _ _=>False) (p7 aq aj (F aj) cond)) (tE X.K cA (λ_ _ _ _=>False) (ev aq aj (F aj) B))) (ZY:=cF many fr) (λZ=>by simp[cF,hN]) (λZ i x v e1 e2=>Wo qI Z i x v e1 e2) Er hs) λD Z H hh=>un hh λU J s hL hS h=>
  Wn (iter':=iter) hT iG ⟨U,J,s,hL,hS,(aQ.ofM hL hS.lz h).imp λd s1 U1 H1 ⟨x1,aJ,h1⟩ v rv=>h1 U1 H1 _ Ext.refl aJ ((hL.mono x1 hS.lz).set rv)⟩
noncomputable def o8(m:MS)(kN:Vs->MS):MS:=λs=>match m s with
 |some (.nx J',s')=>kN J' s'
 |some (.ct J',s')=>kN J' s'
 |some (.bk J',s')=>some (.nx J',s')
 |r=>r
theorem Kah{K:W.Frag}{U:Ph}{H:Hp}{s:S}{D:Ends}{m:MS}{kN:Vs->MS}{N:L2.St->Hp->Prop}(hN:∀U' J' s' Z' H',Ext U H U' H'->aX K cA U' H' Z' J'->aF K cA U' H' s'->aQ K cA (kN J') U' H' s' D EX->N Z' H')(h:aQ K cA (o8 m kN) U H s D EX) :
  aQ K cA m U H s {D with nx:=N,ct:=N,bk:=D.nx} EX:=by
 unfold aQ o8 at h;unfold aQ;cases e:m s with
 |none=>rw[e] at h;exact h
 |some r=>
  obtain⟨r,s1⟩:=r;rw[e] at h;cases r with
  |nx J'=>
   intro U1 H1 Z1 x r l;have h2:aQ K cA (kN J') U H s1 D EX:=h;exact hN U1 J' s1 Z1 H1 x l r (h2.ext x)
  |ct J'=>
   intro U1 H1 Z1 x r l;have h2:aQ K cA (kN J') U H s1 D EX:=h;exact hN U1 J' s1 Z1 H1 x l r (h2.ext x)
  |bk J'=>exact h
  |rt d=>exact h
  |er c fs J'=>exact h
def SG(X:Cx)(cA:Cl)(aq:Nat->Nat->Bool)(aj:Bool)(F:Bool->Fn)(EX:XS)(tg:Expr)(t:Tg):Prop:=∃g:TG,PG X tg g/\∀(U:Ph) (H:Hp) (s:S) (Z:L2.St) (J:Vs) (d:Xv) (v:V) (D:Ends),aX X.K cA U H Z J->aF X.K cA U H s->aV X.K cA U H d v->
 aQ X.K cA (store aq aj (F aj) t d J) U H s D EX->g v Z H D.nx
theorem zir(hN:X.N.Nodup)(hi:X.N[i]?=some x)(hx:Loc X.env.scope x)(hf:X.fn x=true\/X.env.scope.names.lookup x=some .local:=by first|exact .inl rfl|exact .inr rfl):SG X cA aq aj F EX (.Name x pos) (.nm i):=
 ⟨_,I_ hN hi hx hf,λU H s Z J d v D hL hS r h=>h U H _ Ext.refl hS (hL.set r)⟩
theorem ziP{k}(hc:X.aj=true)(dG:aj=true)(hN:X.N.Nodup)(hi:X.N[i]?=some x)(hj:X.N[j]?=some y)(hx:Loc X.env.scope x)(hy:Loc X.env.scope y)(vd:X.fn x=true\/X.env.scope.names.lookup x=some .local)(vf:X.fn y=true\/X.env.scope.names.lookup y=some .local) :
  SG X cA aq aj F EX (.Tuple [.Name x px,.Name y py] k pos) (.tp [i,j]):=
 ⟨_,PN hc hN hi hj hx hy vd vf,λU H s Z J d v D hL hS r h=>Wr dG hL hS r h⟩
theorem zkf(hp:PassesOwn (model X.prog X.w) X.A X.env X.xe)(hc:X.aj=true)(dG:aj=true)(ha:SI X cA aq aj (F aj) EX tg a w)(hg:SG X cA aq aj F EX tg t)(hb:u_ X cA aq aj F EX body mb)
  (hs:∀x,foldedSetIterable a X.env x=pure x:=by intro _;rfl):SS X cA aq aj F EX (.For tg a body [] pos) (.fr t w mb):=by
 obtain⟨g,hG,hg⟩:=hg;refine PS.weak (zkh hp hc ha hG hb hs) λD Z H hh=>un hh λU J s hL hS h=>?_;have h:aQ X.K cA (if aj=true then ofM (lM aq aj (F aj) w J) J λcn=>dh cn.1 (λd J=>b_ (store aq aj (F aj) t (.d d) J) λJ'=>exs aq aj F mb J') (cn.2+1) 0 J else λ_=>none) U H s D EX:=h;rw[if_pos dG] at h;refine⟨U,J,s,hL,hS,(aQ.ofM hL hS.lz h).imp λcn s1 U1 H1 ⟨x1,aJ,h1⟩ cg hJ=>?_⟩;have hL1:=hL.mono x1 hS.lz;obtain⟨c,n⟩:=cn;dsimp only at h1 hJ;refine⟨λi m Z' H'=>∃U' J' s',Ext U1 H1 U' H'/\aX X.K cA U' H' Z' J'/\aF X.K cA U' H' s'/\aQ X.K cA (dh c (λd J=>b_ (store aq aj (F aj) t (.d d) J) λJ'=>exs aq aj F mb J') m i J') U' H' s' D EX,⟨n+1,U1,J,s1,Ext.refl,hL1,aJ,h1⟩,?_⟩;rintro i m Z' H' ⟨U',J',s',x2,hL2,aR,h4⟩;cases m with
 |zero=>exact h4.elim
 |succ m=>
  cases ei:c.at i s' with
  |none=>
   exfalso
   unfold aQ dh at h4;simp only[ei] at h4
  |some oi=>
   cases oi with
   |none=>
    refine .inl ⟨hJ.stop U' H' H' s' i x2 cP.refl aR ei,?_⟩;unfold aQ dh at h4;simp only[ei] at h4;exact h4 U' H' Z' Ext.refl aR hL2
   |some xi=>
    refine .inr ⟨hJ.go U' H' H' s' i xi x2 cP.refl aR ei,_,λZ3 H3 z=>⟨m,Ij m,z⟩,λv H3 hy=>?_⟩;obtain⟨gr,rx⟩:=hJ.yr U' H' H' s' i xi v H3 x2 cP.refl aR ei hy;have h5:aQ X.K cA (o8 (b_ (store aq aj (F aj) t (.d xi) J') λJ'=>exs aq aj F mb J') (dh c (λd J=>b_ (store aq aj (F aj) t (.d d) J) λJ'=>exs aq aj F mb J') m (i+1))) U' H' s' D EX:=by
     unfold aQ at h4 ⊢;have e:dh c (λd J=>b_ (store aq aj (F aj) t (.d d) J) λJ'=>exs aq aj F mb J') (m+1) i J' s'=o8 (b_ (store aq aj (F aj) t (.d xi) J') λJ'=>exs aq aj F mb J') (dh c (λd J=>b_ (store aq aj (F aj) t (.d d) J) λJ'=>exs aq aj F mb J') m (i+1)) s':=by
      rw[dh];simp only[ei];rfl
     rw[e] at h4;exact h4
    exact hg U' H3 s' Z' J' (.d xi) v _ (hL2.mono gr.ext aR.lz) (aR.grow gr) (.d rx) (aQ.then_ (Kah (λU4 J4 s4 Z4 H4 x4 l4 r4 q4=>⟨U4,J4,s4,(x2.trans gr.ext).trans x4,l4,r4,q4⟩) (h5.ext gr.ext)))
end
end Mi
namespace L2
open PySem PySem.Spec PyProof.Rows
structure mQ(K:W.Frag)(x qual:Str)(st:Stmt)(f:Addr)(fd:FuncData):Prop where
 ex:∃(oc:Value) (od:Option Addr) (kV doc pm:Value) (an:Option Addr) (cdv ct:Value) (osl:Array (Option Value)),
  fd=PySem.W.fnOf x qual (aP st) (aK st) (au st) .none kV doc pm an cdv ct/\K.lookup f=some ⟨oc,od,.func fd,osl⟩/\PySem.W.codeIn K cdv qual=true
 kp:PySem.W.keepIn K (.ref f)=true
section
variable {P:Program}{w:World}{K:W.Frag}{mg:Str->Option Value}{base:Heap}
end
end L2
namespace Mi
open PySem PySem.Spec PyProof.Rows L2
section
variable {P:Program}{w:World}{K:W.Frag}{mg:Str->Option Value}{base:Heap}{cA:Cl}{aq:Nat->Nat->Bool}{T:Nat->Option Df}
theorem Ws{U:Ph}{H:Hp}{N:List Str}{ds:List Xv}{vs:List V}{m p:Nat}(r:aO K cA U H ds vs)(hp:p=ds.length)(hm:m=N.length):aX K cA U H (L2.start N vs) (ds.map some++List.replicate (m-p) none):=by
 subst hp hm;unfold L2.start;have hl:=r.len;refine⟨by simp[hl],λi d e=>?_⟩;by_cases hi:i<ds.length
 ·rw[m9 (by simpa using hi),gU] at e;cases z:ds[i]? with
  |none=>rw[z] at e;cases e
  |some x=>
   rw[z] at e;cases e;obtain⟨v,a,b⟩:=r.get z;exact⟨v,by rw[m9 (by simp;lia),gU,a];rfl,b⟩
 ·rw[n_ (by simpa using hi),zT] at e;split at e<;>cases e
theorem Wt{U:Ph}{H:Hp}{s:S}{ds:List Xv}{k n:Nat}{cm:Bool}{df:Df}{Q:VK}{E:XK}(hT:T n=some df)
  (h:Run K cA (call aq T (k+1) cm n ds) U H s (λd _ U' H'=>∀v,aV K cA U' H' d v->Q v H') (λc fs _ U' H'=>∀dx,jt K cA U' H' c fs dx->E (.ref (cA.a c)) dx H')) :
  ds.length=df.gM/\aQ K cA (exs aq cm (λc=>call aq T k c) df.body (ds.map some++List.replicate (df.many-df.gM) none)) U H s {nx:=λ_ H'=>Q .non H',rt:=Q} (λ_ C dx H'=>E C dx H'):=by
 unfold call at h;simp only[hT] at h;by_cases hl:ds.length=df.gM
 ·refine⟨hl,?_⟩;rw[if_pos hl] at h;unfold Run at h;unfold aQ;cases e:exs aq cm (λc=>call aq T k c) df.body (ds.map some++List.replicate (df.many-df.gM) none) s with
  |none=>simp only[e] at h
  |some r=>
   obtain⟨r,s1⟩:=r;simp only[e] at h;cases r with
   |nx J=>exact λU' H' Z' x r l=>h U' H' x r _ (.d .non)
   |rt d=>exact λU' H' v x r rv=>h U' H' x r v rv
   |er c fs J=>exact λU' H' Z' x r l=>h U' H' x r
   |bk J=>exact h.elim
   |ct J=>exact h.elim
 ·rw[if_neg hl] at h;exact h.elim
theorem cT:bT P w K mg base (fQ P w) cm 0 f fd ps (jX K cA (call aq T 0 cm n)):=
 ⟨λvs H Q E ⟨_,_,_,_,_,h⟩=>h.elim,λA outer s H args us vs Q E _ _ _ _ _ ⟨_,_,_,_,_,h⟩=>h.elim⟩
theorem Wu{x qual:Str}{st:Stmt}{f:Addr}{fd:FuncData}{N ps:List Str}{k n:Nat}{cm:Bool}{df:Df}(F:mQ K x qual st f fd)(S:cM N ps (au st))(hT:T n=some df)(hp:df.gM=ps.length)(hm:df.many=N.length)
  (hb:∀(cdv:Value) (A:Around) (outer:List Env) (s:Shared) (H:Hp) (E:XK),bB (k+1) A->
   u_ (fK (fQ P w) P w K mg base N qual (au st) f cdv A outer s H E cm) cA aq cm (λc=>call aq T k c) (λ_ C dx H'=>E C dx H') (aK st) df.body) :
  bT P w K mg base (fQ P w) cm (k+1) f fd ps (jX K cA (call aq T (k+1) cm n)):=by
 obtain⟨oc,od,kV,doc,pm,an,cdv,ct,osl,rfl,lk,jz⟩:=F.ex;refine Uv lk jz S (λvs H Q E ⟨U,ds,s,r,hS,h⟩=>?_) λA outer s H vs Q E hr ⟨U,ds,st',r,hS,h⟩=>?_
 ·rw[<-r.len,(Wt hT h).1,hp]
 ·obtain⟨hl,h2⟩:=Wt hT h;exact⟨_,hb cdv A outer s H E hr,U,_,st',Ws r hl.symm hm,hS,h2⟩
theorem zkC{x qual:Str}{st:Stmt}{f:Addr}{fd:FuncData}{N ps:List Str}{k n:Nat}{cm:Bool}{df:Df}(F:mQ K x qual st f fd)(S:cM N ps (au st))(hT:T n=some df)(hp:df.gM=ps.length)(hm:df.many=N.length)
  (hb:∀(cdv:Value) (A:Around) (outer:List Env) (s:Shared) (H:Hp) (E:XK),bB k (A.deeper (envOfC qual (au st) s.heap.objs.size f cdv))->
   u_ (fK (fQ P w) P w K mg base N qual (au st) f cdv A outer s H E cm) cA aq cm (λc=>call aq T k c) (λ_ C dx H'=>E C dx H') (aK st) df.body) :
  bT P w K mg base (fQ P w) cm (k+1) f fd ps (jX K cA (call aq T (k+1) cm n)):=Wu F S hT hp hm λcdv A outer s H E hr=>hb cdv A outer s H E (hr.deeper _)
end
theorem zkX{K:W.Frag}{cA:Cl}{m:List Xv->M Xv}{H:Hp}{a:Addr}{ns:List Int}(hq:cL K H a (ns.map V.int))(hm:∃s',m [.d (.fl (ns.map D.int))] []=some (.ok (.d (.bl true)),s')) :
  jX K cA m [.ref a] H (λv _=>v=.bl true) λ_ _ _=>False:=by
 have rs:∀(l:List Int) U,aB K cA U H (l.map D.int) (l.map V.int):=λl U=>by
  induction l with
  |nil=>exact .nil
  |cons i l ih=>exact .cons (.int i) ih
 have hl:LstAt K ⟨λ_=>False,[]⟩ H a (ns.map V.int):=by
  rcases hq with h|h
  ·exact .inl ⟨h,λz=>z⟩
  ·exact .inr (.inr h)
 refine⟨⟨λ_=>False,[]⟩,[.d (.fl (ns.map D.int))],[],.cons (.d (.fl hl (rs ns _))) .nil,⟨rfl,(λn o b e1 e2=>by simp at e1),Af,(λb hb=>by cases hb),(λb z=>False.elim z)⟩,?_⟩;obtain⟨s',e⟩:=hm;unfold Run;rw[e];intro U' H' _ _ v rv;cases rv with
 |d rv=>cases rv;rfl
theorem zga:Raises X (λ_ _ _ _=>False):=λ_ _ _ _ _ _ _ _ _ _ _ _ _ z=>z.elim
theorem vh(r:bB k A):A.units+60<cLine:=by have:=r.un;lia
noncomputable def aD:Expr->Bool
 |.Starred _ _=>false
 |_=>true
theorem aY(h:aD e=true):starEach (e::es) env=(false,eval e env)::starEach es env:=by
 cases e<;>first|rfl|cases h
theorem bw:∀{es:List Expr} {env:Env} {pos:Pos},es.all aD=true->(backTo pos (starEach es env)).any (·.1)=false
 |[],_,_,_=>rfl
 |e::es,env,pos,h=>by
  rw[xP,gF] at h;rw[aY h.1];show (false||(backTo pos (starEach es env)).any (·.1))=false;rw[bw h.2];rfl
theorem o9:∀{es:List Expr} {env:Env} {pos:Pos},es.all aD=true->(backTo pos (starEach es env)).all (λx=>!x.1)=true
 |[],_,_,_=>rfl
 |e::es,env,pos,h=>by
  rw[xP,gF] at h;rw[aY h.1];show (true&&(backTo pos (starEach es env)).all (λx=>!x.1))=true;rw[o9 h.2];rfl
theorem vm(h1:aD e=true)(h2:es.all aD=true)(h3:decide (es.length<28)=true):((backTo pos (starEach (e::es) env)).all (λx=>!x.1)&&(backToKw pos (keywordEach [] env)).all (λx=>x.1.isSome)&&decide ((e::es).length+([]:List Keyword).length+(if ([]:List Keyword).isEmpty then 0 else 1)<30))=true:=by
 rw[o9 (es:=e::es) (by rw[xP,h1,h2];rfl)];have:=j9 h3;have z:(e::es).length+([]:List Keyword).length+(if ([]:List Keyword).isEmpty then 0 else 1)<30:=by
  show es.length+1+0+0<30
  lia
 rw[iy z];rfl
noncomputable def rR(sc scope:Scope):Bool:=(match scope.kind with|.function=>true|_=>false)&&scope.names.all λy=>match y.2 with
 |.cell=>(match scope.names.lookup y.1 with|some .cell=>true|_=>false)
 |.free=>(match sc.names.lookup y.1 with|some .cell=>true|some .free=>true|_=>false)
 |.local=>(match scope.names.lookup y.1 with|some .local=>true|_=>false)
 |_=>true
theorem cX.of(h:rR sc scope=true):cX sc scope:=by
 unfold rR at h;rw[gF,jx] at h;obtain⟨h1,h2⟩:=h;refine⟨?_,λy hy z=>?_,λy hy z=>?_,λy hy z=>?_⟩
 ·split at h1
  ·assumption
  ·cases h1
 ·have:=h2 y hy;rw[z] at this;dsimp only at this;split at this
  ·assumption
  ·cases this
 ·have:=h2 y hy;rw[z] at this;dsimp only at this;split at this
  ·exact .inl (by assumption)
  ·exact .inr (by assumption)
  ·cases this
 ·have:=h2 y hy;rw[z] at this;dsimp only at this;split at this
  ·assumption
  ·cases this
noncomputable def frB(scope:Scope)(XN:List Str):List Str->List Nat->Bool
 |y::N,j::fr=>(match scope.names.lookup y with|some .free=>true|_=>false)&&decide (XN[j]?=some y)&&frB scope XN N fr
 |[],[]=>true
 |_,_=>false
theorem Wv:∀{N:List Str} {fr:List Nat},frB scope XN N fr=true->N.length=fr.length/\∀(i:Nat) (y:Str) (j:Nat),N[i]?=some y->fr[i]?=some j->scope.names.lookup y=some .free/\XN[j]?=some y
 |[],[],_=>⟨rfl,λi y j h=>by simp at h⟩
 |[],_::_,h=>by cases h
 |_::_,[],h=>by cases h
 |y::N,j::fr,h=>by
  unfold frB at h;rw[gF,gF,Ce] at h;obtain⟨⟨h1,h2⟩,h3⟩:=h;obtain⟨l,q⟩:=Wv h3;refine⟨by simp[l],λi z m e1 e2=>?_⟩;cases i with
  |zero=>
   simp at e1 e2;subst e1 e2;refine⟨?_,h2⟩;split at h1
   ·assumption
   ·cases h1
  |succ i=>exact q i z m (by simpa using e1) (by simpa using e2)
noncomputable def okN(x:Str):Bool:=!(x==("__debug__" : Str)) && !(x==("__classdict__" : Str)) && !decide (x="__name__")
theorem rT(h:okN x=true):(x==("__debug__" : Str))=false/\(x==("__classdict__" : Str))=false/\x≠"__name__":=by
 unfold okN at h;simp only[gF,Bool.not_eq_true',Lf] at h;exact⟨h.1.1,h.1.2,h.2⟩
theorem JZ{env:Env}{k:NameKind}(hk:k≠.free):∀{names:List (Str×NameKind)} {x:Str},names.lookup x=some k->
  (names.map λ(n,k)=>if (k==NameKind.free&&env.scope.kind==.function&&env.kindOf n==some .cell) then (n,NameKind.cell) else (n,k)).lookup x=some k
 |[],x,h=>by simp at h
 |(n,q)::r,x,h=>by
  rw[m_] at h;rw[jk,m_];have hd:∀c:Bool,(if c=true then (n,NameKind.cell) else (n,q)).1=n:=λc=>by cases c<;>rfl
  rw[hd];by_cases z:x=n
  ·subst z;simp only[xH] at h ⊢;cases h
   split
   ·rename_i y;simp only[gF,m5] at y;exact absurd y.1.1 hk
   ·rfl
  ·have z':(x==n)=false:=by simpa using z
   simp only[z'] at h ⊢;exact JZ hk h
noncomputable def rW(K:W.Frag):Sp:=λvs H Q _=>∃(a:Addr) (ns:List Int),vs=[.ref a]/\cL K H a (ns.map V.int)/\ns.length<=63/\Only H/\∀H',Q (.bl true) H'
theorem zi4{K:W.Frag}{cA:Cl}{m:List Xv->M Xv}(hm:∀ns:List Int,ns.length<=63->∃s',m [.d (.fl (ns.map D.int))] []=some (.ok (.d (.bl true)),s'))(vs:List V)(H:Hp)(Q:VK)(E:XK)(h:rW K vs H Q E):jX K cA m vs H Q E:=by
 obtain⟨a,ns,rfl,hq,hl,hO,k⟩:=h;obtain⟨U,ds,s,r1,r2,h⟩:=zkX (cA:=cA) (m:=m) hq (hm ns hl);refine⟨U,ds,s,r1,r2,?_⟩;unfold Run at h ⊢;split at h
 ·intro U' H' x r v rv;rw[h U' H' x r v rv];exact k H'
 ·exact λU' H' x r dx q=>(h U' H' x r dx q).elim
 ·exact h
theorem zp{K:W.Frag}{fd:FuncData}{p:Str}(h:∀a,bindArgs fd ⟨[a],[]⟩=pure [(p,a)]):Binds K fd [p] []:=.all λus hl=>by
 cases us with
 |nil=>cases hl
 |cons a r=>cases r with
  |nil=>exact h a
  |cons b r=>cases hl
theorem rY{K:W.Frag}{fd:FuncData}{p q:Str}(h:∀a b,bindArgs fd ⟨[a,b],[]⟩=pure [(p,a),(q,b)]):Binds K fd [p,q] []:=.all λus hl=>by
 cases us with
 |nil=>cases hl
 |cons a r=>cases r with
  |nil=>cases hl
  |cons b r=>cases r with
   |nil=>exact h a b
   |cons c r=>cases hl
theorem rZ{K:W.Frag}{fd:FuncData}{p q t:Str}(h:∀a b c,bindArgs fd ⟨[a,b,c],[]⟩=pure [(p,a),(q,b),(t,c)]):Binds K fd [p,q,t] []:=.all λus hl=>by
 cases us with
 |nil=>cases hl
 |cons a r=>cases r with
  |nil=>cases hl
  |cons b r=>cases r with
   |nil=>cases hl
   |cons c r=>cases r with
    |nil=>exact h a b c
    |cons d r=>cases hl
theorem su{K:W.Frag}{fd:FuncData}{p q t u:Str}(h:∀a b c d,bindArgs fd ⟨[a,b,c,d],[]⟩=pure [(p,a),(q,b),(t,c),(u,d)]):Binds K fd [p,q,t,u] []:=.all λus hl=>by
 cases us with
 |nil=>cases hl
 |cons a r=>cases r with
  |nil=>cases hl
  |cons b r=>cases r with
   |nil=>cases hl
   |cons c r=>cases r with
    |nil=>cases hl
    |cons d r=>cases r with
     |nil=>exact h a b c d
     |cons e r=>cases hl
theorem zkS:bootBuiltins "int"=some (.type "int"):=by decide +kernel
theorem zie:bootBuiltins "bool"=some (.type "bool"):=by decide +kernel
theorem J0:bootBuiltins "tuple"=some (.type "tuple"):=by decide +kernel
theorem zix:bootBuiltins "list"=some (.type "list"):=by decide +kernel
structure JE(X:Cx)(cA:Cl)(aq:Nat->Nat->Bool)(aj:Bool)(F:Fn)(EX:XS)(e:Expr)(m:E):Prop where
 o:SE X cA aq aj F EX e m
structure JA(X:Cx)(cA:Cl)(aq:Nat->Nat->Bool)(aj:Bool)(F:Fn)(EX:XS)(e:List Expr)(m:Es):Prop where
 o:SA X cA aq aj F EX e m
structure JT(X:Cx)(cA:Cl)(aq:Nat->Nat->Bool)(aj:Bool)(F:Fn)(EX:XS)(e:Expr)(m:E):Prop where
 o:ST X cA aq aj F EX e m
structure JW(X:Cx)(cA:Cl)(aq:Nat->Nat->Bool)(aj:Bool)(F:Fn)(EX:XS)(e:Expr)(m:E):Prop where
 o:SW X cA aq aj F EX e m
structure JC(X:Cx)(cA:Cl)(aq:Nat->Nat->Bool)(aj:Bool)(F:Fn)(EX:XS)(e:List Expr)(m:Eo):Prop where
 o:Gj X cA aq aj F EX e m
structure JO(X:Cx)(cA:Cl)(aq:Nat->Nat->Bool)(aj:Bool)(F:Fn)(EX:XS)(e:Option Expr)(m:Eo):Prop where
 o:Gd X cA aq aj F EX e m
structure JI(X:Cx)(cA:Cl)(aq:Nat->Nat->Bool)(aj:Bool)(F:Fn)(EX:XS)(tg e:Expr)(m:Wk):Prop where
 o:SI X cA aq aj F EX tg e m
structure JG(X:Cx)(cA:Cl)(aq:Nat->Nat->Bool)(aj:Bool)(F:Bool->Fn)(EX:XS)(e:Expr)(m:Tg):Prop where
 o:SG X cA aq aj F EX e m
structure JS(X:Cx)(cA:Cl)(aq:Nat->Nat->Bool)(aj:Bool)(F:Bool->Fn)(EX:XS)(e:Stmt)(m:St):Prop where
 o:SS X cA aq aj F EX e m
structure JB(X:Cx)(cA:Cl)(aq:Nat->Nat->Bool)(aj:Bool)(F:Bool->Fn)(EX:XS)(e:List Stmt)(m:bM):Prop where
 o:u_ X cA aq aj F EX e m
structure JK(X:Cx)(x:Str)(k:NameKind):Prop where
 o:X.env.scope.names.lookup x=some k
structure JP(X:Cx)(cA:Cl)(op:CmpOp)(p:Pr):Prop where
 o:∃r,eF X (compareOp op) r/\bx X.K cA p (r2 r)
structure JQ(X:Cx)(cA:Cl)(op:Operator)(p:Pr):Prop where
 o:∃r,eF X (binaryOp op) r/\bx X.K cA p (r2 r)
structure JN(X:Cx)(cA:Cl)(kx:Expr)(k:Kd):Prop where
 o:PE X kx (tC (Bc cA k))
structure JR(X:Cx)(EX:XS):Prop where
 o:Raises X EX
structure JH(X:Cx):Prop where
 o:PassesOwn (model X.prog X.w) X.A X.env X.xe
structure JY(X:Cx)(tg:Expr)(g:TG):Prop where
 o:PG X tg g
noncomputable def mR:NameKind->Bool
 |.local=>true
 |.cell=>true
 |_=>false
noncomputable def zu:NameKind->Bool
 |.local=>true
 |.cell=>true
 |.free=>true
 |_=>false
section
variable {X:Cx}{cA:Cl}{aq:Nat->Nat->Bool}{aj:Bool}{F:Fn}{EX:XS}{a b c d e:Expr}{A B C Dd E':E}{pos p p2 apos:Pos}{es:List Expr}{Xs:Es}{x y:Str}{k k':NameKind}{q q1 q2 q3:Pr}{fz:Bool}
theorem Ww(h:scope.names.lookup x=some k)(hk:(match k with|.free=>false|_=>true)=true):JK (X.blk scope cl N Cc s3 H3 fp ao) x k:=
 ⟨JZ (by intro z;subst z;cases hk) h⟩
theorem Wx(i:Nat)(hN:X.N[i]?=some x)(h:JK X x k)(hv:zu k=true)(hd:okN x=true):JE X cA aq aj F EX (.Name x pos) (.v i):=
 ⟨Vx i hN (by cases k<;>first|exact .inl h.o|exact .inr (.inl h.o)|exact .inr (.inr h.o)|cases hv) (rT hd).1 (rT hd).2.1⟩
theorem znN(i:Nat)(hN:N[i]?=some x)(h:scope.names.lookup x=some .free)(hd:okN x=true):JE (X.blk scope cl N Cc s3 H3 fp ao) cA aq aj F EX (.Name x pos) (.v i):=
 ⟨Vx i hN (.inr (Jo h)) (rT hd).1 (rT hd).2.1⟩
theorem aM{i j p}:JE X cA aq aj F EX (.Constant (.int i) j p) (.c (.int i)):=⟨zko⟩
theorem mU{i j p}:JE X cA aq aj F EX (.Constant (.bool i) j p) (.c (.bl i)):=⟨zmv⟩
theorem Bh{j p}:JE X cA aq aj F EX (.Constant .none j p) (.c .non):=⟨zjL⟩
theorem Wy(h:∃t,X.mg x=some (.int i t))(hg:JK X x .globalImplicit)(hd:okN x=true):JE X cA aq aj F EX (.Name x pos) (.c (.int i)):=by
 obtain⟨t,h⟩:=h;exact⟨ziW hg.o h (rT hd).1⟩
theorem wL:JQ X cA .Add .add:=⟨_,ze1,zkN⟩
theorem o_:JQ X cA .Sub .aq:=⟨_,zkK,zlk⟩
theorem J1:JQ X cA .Mult .mul:=⟨_,zkn,zkp⟩
theorem Wz:JQ X cA .FloorDiv .fdiv:=⟨_,zjv,ziS⟩
theorem wM:JQ X cA .Mod .mod:=⟨_,zjW,zjZ⟩
theorem zmu:JQ X cA .Pow .pow:=⟨_,zlB,zj1⟩
theorem eN(h:JQ X cA op q)(ha:JE X cA aq aj F EX a A)(hb:JE X cA aq aj F EX b B):JE X cA aq aj F EX (.BinOp a op b pos) (.pr fz q (.cons A (.cons B .nil))):=by
 obtain⟨r,h1,h2⟩:=h.o;exact⟨zkc h1 h2 ha.o hb.o⟩
theorem WD(ha:JE X cA aq aj F EX a A):JE X cA aq aj F EX (.UnaryOp .USub a pos) (.pr true .neg (.cons A .nil)):=⟨zmH zkr zlh ha.o⟩
theorem zmA(ha:JE X cA aq aj F EX a A):JE X cA aq aj F EX (.UnaryOp .Not a pos) (.not A):=⟨zkI ha.o⟩
theorem vo{op}(ha:JE X cA aq aj F EX a A):JE X cA aq aj F EX (.BoolOp op [a] pos) A:=⟨zlR ha.o⟩
theorem vp{rest:List Expr}(ha:JE X cA aq aj F EX a A)(hb:JE X cA aq aj F EX (.BoolOp .And (b::rest) pos) B):JE X cA aq aj F EX (.BoolOp .And (a::b::rest) pos) (.and A B):=⟨zkH ha.o hb.o⟩
theorem znQ{rest:List Expr}(ha:JE X cA aq aj F EX a A)(hb:JE X cA aq aj F EX (.BoolOp .Or (b::rest) pos) B):JE X cA aq aj F EX (.BoolOp .Or (a::b::rest) pos) (.or A B):=⟨zmV ha.o hb.o⟩
theorem tY{k:Nat}(hr:bB k X.A):JP X cA .Eq .eq:=⟨_,zll (vh hr),zmI⟩
theorem zx{k:Nat}(hr:bB k X.A):JP X cA .NotEq .ne:=⟨_,zlw (vh hr),zmT⟩
theorem Gm{k:Nat}(hr:bB k X.A):JP X cA .Lt .lt:=⟨_,Dr.or (zjU (by have:=vh hr;lia)),zl6⟩
theorem J2:JP X cA .LtE .le:=⟨_,zmm,zmd⟩
theorem WK:JP X cA .Gt .gt:=⟨_,zmQ,zmY⟩
theorem WL:JP X cA .GtE .ge:=⟨_,zma,zmo⟩
theorem WM{k:Nat}(hr:bB k X.A):JP X cA .In .inn:=⟨_,zk2 (vh hr),zmp⟩
noncomputable def mV:Expr->Bool
 |.Set _ _ _=>false
 |_=>true
theorem vq(h:mV b=true):behindInMarks op b=false:=by cases b<;>first|rfl|cases h
theorem tZ(ho:JP X cA op q)(ha:JE X cA aq aj F EX a A)(hb:JE X cA aq aj F EX b B)(h1:mV b=true:=by rfl):JE X cA aq aj F EX (.Compare a [op] [b] pos) (.pr true q (.cons A (.cons B .nil))):=by
 obtain⟨r,h2,h3⟩:=ho.o;exact⟨zlo h2 h3 ha.o hb.o (vq h1)⟩
theorem lN(ho:JP X cA op q)(ha:JE X cA aq aj F EX a A)(hb:JE X cA aq aj F EX b B)(h1:mV b=true:=by rfl):JT X cA aq aj F EX (.Compare a [op] [b] pos) (.pr true q (.cons A (.cons B .nil))):=by
 obtain⟨r,h2,h3⟩:=ho.o;exact⟨zjV h2 h3 ha.o hb.o (vq h1)⟩
theorem WQ(h1:JP X cA op q1)(h2:JP X cA op' q2)(ha:JE X cA aq aj F EX a A)(hb:JE X cA aq aj F EX b B)(hc:JE X cA aq aj F EX c C)(hm:mV c=true:=by rfl):JE X cA aq aj F EX (.Compare a [op,op'] [b,c] pos) (.uU q1 q2 A B C):=by
 obtain⟨r,h3,h4⟩:=h1.o;obtain⟨r',h5,h6⟩:=h2.o;exact⟨zlW h3 h4 h5 h6 ha.o hb.o hc.o (vq hm)⟩
theorem P0{j p}(ha:JE X cA aq aj F EX a A):JE X cA aq aj F EX (.Compare a [.Is] [.Constant .none j p] pos) (.pr true .qJ (.cons A .nil)):=⟨zkL ha.o⟩
theorem zku{j p}(ha:JE X cA aq aj F EX a A):JE X cA aq aj F EX (.Compare a [.IsNot] [.Constant .none j p] pos) (.pr true .pR (.cons A .nil)):=⟨zjy ha.o⟩
theorem WR{j p}(ha:JE X cA aq aj F EX a A):JT X cA aq aj F EX (.Compare a [.Is] [.Constant .none j p] pos) (.pr true .qJ (.cons A .nil)):=⟨zlD ha.o⟩
theorem Gn{j p}(ha:JE X cA aq aj F EX a A):JT X cA aq aj F EX (.Compare a [.IsNot] [.Constant .none j p] pos) (.pr true .pR (.cons A .nil)):=⟨zh7 ha.o⟩
noncomputable def wN:Expr->Bool
 |.Call _ _ _ _=>true
 |.Name _ _=>true
 |.Subscript _ _ _=>true
 |.Attribute _ _ _=>true
 |_=>false
theorem jK(ha:JE X cA aq aj F EX a A)(he:wN a=true:=by rfl):JT X cA aq aj F EX a A:=⟨zke ha.o (by cases a<;>first|(intro _;rfl)|cases he)⟩
theorem m6(ha:JT X cA aq aj F EX a A):JT X cA aq aj F EX (.UnaryOp .Not a pos) (.not A):=⟨zli ha.o⟩
theorem P_(ha:JT X cA aq aj F EX a A):JW X cA aq aj F EX (.BoolOp .And [a] pos) A:=⟨zig ha.o⟩
theorem Bj(ha:JT X cA aq aj F EX a A):JW X cA aq aj F EX (.BoolOp .Or [a] pos) A:=⟨zk8 ha.o⟩
theorem Qa{rest:List Expr}(ha:JT X cA aq aj F EX a A)(hb:JW X cA aq aj F EX (.BoolOp .And (b::rest) pos) B):JW X cA aq aj F EX (.BoolOp .And (a::b::rest) pos) (.and A B):=⟨zkW ha.o hb.o⟩
theorem Bk{rest:List Expr}(ha:JT X cA aq aj F EX a A)(hb:JW X cA aq aj F EX (.BoolOp .Or (b::rest) pos) B):JW X cA aq aj F EX (.BoolOp .Or (a::b::rest) pos) (.or A B):=⟨zmE ha.o hb.o⟩
theorem vA(h:JW X cA aq aj F EX a A):JT X cA aq aj F EX a A:=⟨znL h.o⟩
theorem Qc(hc:JT X cA aq aj F EX c C)(ha:JE X cA aq aj F EX a A)(hb:JE X cA aq aj F EX b B):JE X cA aq aj F EX (.IfExp c a b pos) (.ite C A B):=⟨zkY hc.o ha.o hb.o⟩
theorem aH:JA X cA aq aj F EX [] .nil:=⟨zjS⟩
theorem aA(ha:JE X cA aq aj F EX a A)(hr:JA X cA aq aj F EX es Xs)(hs:aD a=true:=by rfl):JA X cA aq aj F EX (a::es) (.cons A Xs):=⟨ziU ha.o hr.o (aY hs)⟩
theorem jB{k}(ha:JA X cA aq aj F EX es Xs)(hz:decide (Es.len Xs<=sizeLine)=true:=by rfl):JE X cA aq aj F EX (.Tuple es k pos) (.tup Xs):=⟨zj3 ha.o (j9 hz)⟩
theorem wO(ha:JA X cA aq aj F EX es Xs)(hz:decide (Es.len Xs<=sizeLine)=true:=by rfl):JE X cA aq aj F EX (.List es pos) (.lst fz Xs):=⟨zjP ha.o (j9 hz)⟩
noncomputable def sy:Expr->Bool
 |.Constant _ _ _=>true
 |.Name _ _=>true
 |.Call _ _ _ _=>true
 |.BinOp _ _ _ _=>true
 |.UnaryOp _ _ _=>true
 |.Subscript _ _ _=>true
 |.IfExp _ _ _ _=>true
 |.Attribute _ _ _=>true
 |.Compare _ _ _ _=>true
 |.BoolOp _ _ _=>true
 |_=>false
theorem dR(ha:JE X cA aq aj F EX a A)(hb:JE X cA aq aj F EX b B)(hs:sy b=true:=by rfl):JE X cA aq aj F EX (.Subscript a b pos) (.pr true .ix (.cons A (.cons B .nil))):=⟨zmk zmj ha.o hb.o (by cases b<;>first|(intro _ _;rfl)|cases hs)⟩
theorem znR:JO X cA aq aj F EX none .no:=⟨zmq⟩
theorem Qd(ha:JE X cA aq aj F EX a A):JO X cA aq aj F EX (some a) (.yes A):=⟨zjX ha.o⟩
theorem WT{lo hi:Option Expr}{Lo Hi:Eo}(ha:JE X cA aq aj F EX a A)(hl:JO X cA aq aj F EX lo Lo)(hh:JO X cA aq aj F EX hi Hi):JE X cA aq aj F EX (.Subscript a (.Slice lo hi none p2) pos) (.sl fz A Lo Hi):=⟨zm2 ha.o hl.o hh.o⟩
theorem zjR(f:Nat){cm:Bool}{k:Nat}{fa:Addr}{fd:FuncData}{ps:List Str}(Fo:bT X.prog X.w X.K X.mg X.base (fQ X.prog X.w) cm k fa fd ps (jX X.K cA (F f)))(iQ:cm=true->X.aj=true)(hr:bB k X.A)(hm:X.mg x=some (.ref fa))(hk:PySem.W.keepIn X.K (.ref fa)=true)(hb:Binds X.K fd ps [])(R:JR X EX)(hg:JK X x .globalImplicit)
  (ha:JA X cA aq aj F EX (e::es) Xs) (hd:okN x=true) (he:aD e=true:=by rfl) (cD:es.all aD=true:=by rfl) :
  JE X cA aq aj F EX (.Call (.Name x p) (e::es) [] pos) (.call f Xs):=⟨zje Fo iQ hr hg.o hm hk hb R.o ha.o (rT hd).1 (aY he) (bw cD)⟩
theorem J3(hv:Bc cA kd=.ty T)(hm:X.mg x=none)(hb:bootBuiltins x=some (.type T))(hg:JK X x .globalImplicit)(hd:okN x=true):JN X cA (.Name x pos) kd:=⟨λao s Z H Q I h=>by
 rw[hv] at h;exact uz I hg.o hm hb ⟨.ty T,H,I,rfl,h⟩ (rT hd).2.2 (rT hd).1⟩
theorem J5(h0:(rM kd).isSome=true)(hm:X.mg "isinstance"=none)(hg:JK X "isinstance" .globalImplicit)(ha:JE X cA aq aj F EX a A)(hk:JN X cA kx kd)(h1:aD a=true:=by rfl)(h2:aD kx=true:=by rfl):JE X cA aq aj F EX (.Call (.Name "isinstance" p) [a,kx] [] pos) (.oW A kd):=
 ⟨zkl (λz=>by rw[z] at h0;cases h0) hg.o hm ha.o hk.o (aY h1) (aY h2) (bw (by rw[xP,h2];rfl))⟩
theorem zev(hm:X.mg "len"=none)(hg:JK X "len" .globalImplicit)(ha:JA X cA aq aj F EX (e::es) Xs)(he:aD e=true:=by rfl)(cD:es.all aD=true:=by rfl):JE X cA aq aj F EX (.Call (.Name "len" p) (e::es) [] pos) (.pr fz .len Xs):=⟨wH zcV zj0 hg.o hm PySem.boot_len ha.o (by decide) (by decide) (aY he) (bw cD)⟩
theorem zms(hm:X.mg "abs"=none)(hg:JK X "abs" .globalImplicit)(ha:JA X cA aq aj F EX (e::es) Xs)(he:aD e=true:=by rfl)(cD:es.all aD=true:=by rfl):JE X cA aq aj F EX (.Call (.Name "abs" p) (e::es) [] pos) (.pr fz .abs Xs):=⟨wH zhd zla hg.o hm PyProof.Rows.boot_abs ha.o (by decide) (by decide) (aY he) (bw cD)⟩
theorem WW(hc:X.aj=true)(hm:X.mg "max"=none)(hg:JK X "max" .globalImplicit)(ha:JA X cA aq aj F EX (e::es) Xs)(he:aD e=true:=by rfl)(cD:es.all aD=true:=by rfl):JE X cA aq aj F EX (.Call (.Name "max" p) (e::es) [] pos) (.pr fz .max2 Xs):=⟨wH (zf9 hc) ziT hg.o hm PyProof.Rows.boot_max ha.o (by decide) (by decide) (aY he) (bw cD)⟩
theorem WX(hc:X.aj=true)(hm:X.mg "min"=none)(hg:JK X "min" .globalImplicit)(ha:JA X cA aq aj F EX (e::es) Xs)(he:aD e=true:=by rfl)(cD:es.all aD=true:=by rfl):JE X cA aq aj F EX (.Call (.Name "min" p) (e::es) [] pos) (.pr fz .min2 Xs):=⟨wH (zfu hc) zjD hg.o hm PyProof.Rows.boot_min ha.o (by decide) (by decide) (aY he) (bw cD)⟩
theorem zlt(hm:X.mg "int"=none)(hg:JK X "int" .globalImplicit)(ha:JA X cA aq aj F EX (e::es) Xs)(he:aD e=true:=by rfl)(cD:es.all aD=true:=by rfl):JE X cA aq aj F EX (.Call (.Name "int" p) (e::es) [] pos) (.pr fz .uR Xs):=⟨Pa zgg ziA hg.o hm PyProof.Rows.boot_int ha.o (by decide) (by decide) (aY he) (bw cD)⟩
theorem zgV(hm:X.mg "divmod"=none)(hg:JK X "divmod" .globalImplicit)(ha:JA X cA aq aj F EX (e::es) Xs)(he:aD e=true:=by rfl)(cD:es.all aD=true:=by rfl):JE X cA aq aj F EX (.Call (.Name "divmod" p) (e::es) [] pos) (.pr fz .divmod Xs):=⟨wH zc9 zfa hg.o hm PyProof.Rows.boot_divmod ha.o (by decide) (by decide) (aY he) (bw cD)⟩
theorem J6(hc:X.aj=true)(hm:X.mg "all"=none)(hg:JK X "all" .globalImplicit)(ha:JA X cA aq aj F EX (e::es) Xs)(he:aD e=true:=by rfl)(cD:es.all aD=true:=by rfl):JE X cA aq aj F EX (.Call (.Name "all" p) (e::es) [] pos) (.pr fz .all Xs):=⟨wH (zfQ hc) zlU hg.o hm PyProof.Rows.boot_all ha.o (by decide) (by decide) (aY he) (bw cD)⟩
theorem zj6(hm:X.mg "list"=none)(hg:JK X "list" .globalImplicit)(ha:JA X cA aq aj F EX (e::es) Xs)(he:aD e=true:=by rfl)(cD:es.all aD=true:=by rfl):JE X cA aq aj F EX (.Call (.Name "list" p) (e::es) [] pos) (.pr fz .list Xs):=⟨Pa zcF zi8 hg.o hm zix ha.o (by decide) (by decide) (aY he) (bw cD)⟩
theorem t_(hm:X.mg "tuple"=none)(hg:JK X "tuple" .globalImplicit)(ha:JA X cA aq aj F EX (e::es) Xs)(he:aD e=true:=by rfl)(cD:es.all aD=true:=by rfl):JE X cA aq aj F EX (.Call (.Name "tuple" p) (e::es) [] pos) (.pr fz .tuple Xs):=⟨Pa zco zg0 hg.o hm J0 ha.o (by decide) (by decide) (aY he) (bw cD)⟩
theorem WY(ho:JE X cA aq aj F EX a A)(hb:JE X cA aq aj F EX b B)(mj:attributeBase a "append" X.env (eval a X.env)=eval a X.env:=by rfl)(mz:(apos.endLine==pos.line)=true:=by rfl)(hs:aD b=true:=by rfl) :
  JE X cA aq aj F EX (.Call (.Attribute a "append" apos) [b] [] pos) (.push A B):=⟨ziy ho.o hb.o mj (vm hs rfl rfl) mz (aY hs) rfl⟩
theorem pq:JC X cA aq aj F EX [] .no:=⟨zlu⟩
theorem J7(h:JT X cA aq aj F EX c C):JC X cA aq aj F EX [c] (.yes C):=⟨zhY h.o⟩
theorem qe(ha:JE X cA aq aj F EX a A):JI X cA aq aj F EX tg a (.seq A):=⟨zk6 ha.o⟩
theorem znM(hmg:X.mg "range"=none)(nW:JK X "range" .globalImplicit)(ha:JE X cA aq aj F EX a A)(hb:JE X cA aq aj F EX b B)(h1:aD a=true:=by rfl)(h2:aD b=true:=by rfl):JI X cA aq aj F EX tg (.Call (.Name "range" p) [a,b] [] pos) (.rg A B):=⟨zmn nW.o hmg ha.o hb.o (aY h1) (aY h2)⟩
theorem wQ(hmg:X.mg "range"=none)(nW:JK X "range" .globalImplicit)(hb:JE X cA aq aj F EX b B)(h2:aD b=true:=by rfl):JI X cA aq aj F EX tg (.Call (.Name "range" p) [b] [] pos) (.rg (.c (.int 0)) B):=⟨zlO nW.o hmg hb.o (aY h2)⟩
noncomputable def Gp(scope:Scope)(x:Str):Bool:=match scope.names.lookup x with
 |some .local=>true
 |some .cell=>true
 |_=>false
theorem Bl(h:Gp scope x=true):Loc (X.blk scope cl N Cc s3 H3 fp ao).env.scope x/\((X.blk scope cl N Cc s3 H3 fp ao).fn x=true\/(X.blk scope cl N Cc s3 H3 fp ao).env.scope.names.lookup x=some .local):=by
 unfold Gp at h;split at h
 ·rename_i z;exact⟨.inl (lookup_relabel_local z),.inr (lookup_relabel_local z)⟩
 ·rename_i z;exact⟨.inr (JZ (by intro y;cases y) z),.inl (by show (scope.names.lookup x==some NameKind.cell)=true;rw[z];rfl)⟩
 ·cases h
theorem pA(i:Nat)(Qe:N.Nodup)(hi:N[i]?=some x)(hl:Gp scope x=true):JY (X.blk scope cl N Cc s3 H3 fp ao) (.Name x tp) (dB i):=
 ⟨I_ Qe hi (Bl hl).1 (Bl hl).2⟩
theorem J8(i j:Nat)(hc:X.aj=true)(Qe:N.Nodup)(hi:N[i]?=some x)(hj:N[j]?=some y)(hl:Gp scope x=true)(rQ:Gp scope y=true):JY (X.blk scope cl N Cc s3 H3 fp ao) (.Tuple [.Name x px,.Name y py] kt tp) (qY X.K 2 (gG (dB i) (gG (dB j) qX))):=
 ⟨PN (X:=X.blk scope cl N Cc s3 H3 fp ao) hc Qe hi hj (Bl hl).1 (Bl rQ).1 (Bl hl).2 (Bl rQ).2⟩
theorem Bm{scope:Scope}{XN:List Str}{M0 N:List Str}{fr:List Nat}(h:frB scope XN N fr=true):(M0++N).length=M0.length+fr.length/\∀(i:Nat) (y:Str) (j:Nat),(M0++N)[M0.length+i]?=some y->fr[i]?=some j->scope.names.lookup y=some .free/\XN[j]?=some y:=by
 obtain⟨l,q⟩:=Wv h;refine⟨by rw[mZ,l],λi y j e1 e2=>q i y j ?_ e2⟩;rw[n_ (by lia)] at e1;rw[show M0.length+i-M0.length=i by lia] at e1;exact e1
theorem m7{elt iter tg:Expr}{ifs:List Expr}{scope:Scope}{cond:Eo}{cV:List Nat}{g:TG}{w:Wk}(sc:Scope)(XN M0 N:List Str)(fr:List Nat)(hc:X.aj=true)(Qf:X.env.scope=sc)(vg:X.N=XN)(hB:rR sc scope=true)(hf:frB scope XN N fr=true)(hT:lF X.K cA g cV)(iG:cV.all (λi=>decide (i<M0.length))=true)
  (hi:JI X cA aq aj F EX tg iter w) (hg:∀cl C s3 H3 fp ao,JY (X.blk scope cl (M0++N) C s3 H3 fp ao) tg g)
  (ht:∀cl C s3 H3 fp ao,JC (X.blk scope cl (M0++N) C s3 H3 fp ao) cA aq aj F (λ_ _ _ _=>False) ifs cond) (he:∀cl C s3 H3 fp ao,JE (X.blk scope cl (M0++N) C s3 H3 fp ao) cA aq aj F (λ_ _ _ _=>False) elt B)
  (hs:∀x,foldedSetIterable iter X.env x=pure x:=by intro _;rfl):JE X cA aq aj F EX (.ListComp elt [⟨tg,iter,ifs,0⟩] scope pos) (.comp fz B cV w fr M0.length cond):=
 ⟨Wq hc (cX.of (Qf▸hB)) hi.o (Bm (vg▸hf)).1 (Bm (vg▸hf)).2 (λa b c d e f=>(hg a b c d e f).o) hT (λi hi=>j9 (jx.mp iG i hi)) (λa b c d e f=>(ht a b c d e f).o) (λa b c d e f=>(he a b c d e f).o) hs⟩
theorem Kaa{scope dU:Scope}{env:Env}(h:cX scope dU):cX (relabel scope env) dU:=⟨h.kind,h.Ve,λy hy z=>by
 rcases h.free y hy z with q|q
 ·exact .inl (JZ (by intro y;cases y) q)
 ·exact Jo q,h.loc⟩
theorem ziM{elt iter tg:Expr}{ifs:List Expr}{scope dU:Scope}{cond:Eo}{cV:List Nat}{g:TG}{w:Wk}{cl:List (Str×Addr)}{wR:List Str}{Cc:Addr}{s3:Shared}{H3:Hp}{fp:List Addr}{ao:List (Addr×Obj)}(XN M0 N:List Str)(fr:List Nat)(hc:X.aj=true)(vg:wR=XN)(hB:rR scope dU=true)(hf:frB dU XN N fr=true)(hT:lF X.K cA g cV)(iG:cV.all (λi=>decide (i<M0.length))=true)
  (hi:JI (X.blk scope cl wR Cc s3 H3 fp ao) cA aq aj F EX tg iter w) (hg:∀cl2 C s3' Gq fp' iB,JY ((X.blk scope cl wR Cc s3 H3 fp ao).blk dU cl2 (M0++N) C s3' Gq fp' iB) tg g)
  (ht:∀cl2 C s3' Gq fp' iB,JC ((X.blk scope cl wR Cc s3 H3 fp ao).blk dU cl2 (M0++N) C s3' Gq fp' iB) cA aq aj F (λ_ _ _ _=>False) ifs cond) (he:∀cl2 C s3' Gq fp' iB,JE ((X.blk scope cl wR Cc s3 H3 fp ao).blk dU cl2 (M0++N) C s3' Gq fp' iB) cA aq aj F (λ_ _ _ _=>False) elt B)
  (hs:∀x,foldedSetIterable iter (X.blk scope cl wR Cc s3 H3 fp ao).env x=pure x:=by intro _;rfl):JE (X.blk scope cl wR Cc s3 H3 fp ao) cA aq aj F EX (.ListComp elt [⟨tg,iter,ifs,0⟩] dU pos) (.comp fz B cV w fr M0.length cond):=by
 subst vg;exact⟨Wq (X:=X.blk scope cl wR Cc s3 H3 fp ao) hc (Kaa (cX.of hB)) hi.o (Bm hf).1 (Bm hf).2 (λa b c d e f=>(hg a b c d e f).o) hT (λi hi=>j9 (jx.mp iG i hi)) (λa b c d e f=>(ht a b c d e f).o) (λa b c d e f=>(he a b c d e f).o) hs⟩
theorem Gs:JR X (λ_ _ _ _=>False):=⟨zga⟩
theorem bD{P:Program}{w:World}{K:W.Frag}{mg:Str->Option Value}{base:Heap}{N:List Str}{qual:Str}{scope:Scope}{f:Addr}{cd:Value}{A:Around}{outer:List Env}{s:Shared}{H:Hp}{E:XK}{cm:Bool} :
  JR (fK (fQ P w) P w K mg base N qual scope f cd A outer s H E cm) (λ_ C dx H'=>E C dx H'):=⟨zez⟩
theorem zy{CX:qH}{P:Program}{w:World}{K:W.Frag}{mg:Str->Option Value}{base:Heap}{N:List Str}{qual:Str}{scope:Scope}{f:Addr}{cd:Value}{A:Around}{outer:List Env}{s:Shared}{H:Hp}{E:XK}{cm:Bool} :
  JH (fK CX P w K mg base N qual scope f cd A outer s H E cm):=⟨PassesOwn.leaving⟩
end
section
variable {X:Cx}{cA:Cl}{aq:Nat->Nat->Bool}{aj:Bool}{F:Bool->Fn}{EX:XS}{a b c d e:Expr}{A B C:E}{pos p p2:Pos}{st:Stmt}{sts body orelse:List Stmt}{m:St}{ms mb me mh:bM}{es:List Expr}{Xs:Es}{x y n:Str}{k k':NameKind}
theorem zA(h:JK X x k)(hv:mR k=true):Loc X.env.scope x:=by cases k<;>first|exact .inl h.o|exact .inr h.o|cases hv
theorem zB(h:JK X x k)(hv:X.fn x=true\/k=.local):X.fn x=true\/X.env.scope.names.lookup x=some .local:=by
 rcases hv with hv|hv
 ·exact .inl hv
 ·subst hv;exact .inr h.o
theorem aN:JB X cA aq aj F EX [] .nil:=⟨zjd⟩
theorem aG(h1:JS X cA aq aj F EX st m)(h2:JB X cA aq aj F EX sts ms):JB X cA aq aj F EX (st::sts) (.cons m ms):=⟨zg5 h1.o h2.o⟩
theorem Gu:JS X cA aq aj F EX st .no:=⟨zmS⟩
theorem nY(ha:JE X cA aq aj (F aj) EX a A)(hs:swapsWith a none pos.line X.env=pure false:=by rfl):JS X cA aq aj F EX (.Expr a pos) (.ex A):=⟨zmy ha.o hs⟩
theorem bN(ha:JE X cA aq aj (F aj) EX a A):JS X cA aq aj F EX (.Return (some a) pos) (.ret A):=⟨zln ha.o⟩
theorem iH(i:Nat)(hN:X.N.Nodup)(hi:X.N[i]?=some x)(hx:JK X x k)(hl:mR k=true)(ha:JE X cA aq aj (F aj) EX a A)(hs:swapsWith a (some (.Name x p)) pos.line X.env=pure false:=by rfl)(hf:X.fn x=true\/k=.local:=by first|exact .inl rfl|exact .inr rfl):JS X cA aq aj F EX (.Assign [.Name x p] a pos) (.asg (.nm i) A):=
 ⟨zjT hN hi (zA hx hl) ha.o hs (zB hx hf)⟩
theorem zjQ{elt iter tg:Expr}{ifs:List Expr}{scope:Scope}{cond:Eo}{cV:List Nat}{g:TG}{w:Wk}{fz:Bool}{py spos:Pos}(i:Nat)(sc:Scope)(XN M0 N:List Str)(fr:List Nat)(hN:X.N.Nodup)(yM:X.N[i]?=some y)(hx:JK X y k)(hl:mR k=true)(hc:X.aj=true)(Qf:X.env.scope=sc)(vg:X.N=XN)(hB:rR sc scope=true)(hf:frB scope XN N fr=true)(hT:lF X.K cA g cV)(iG:cV.all (λi=>decide (i<M0.length))=true)
  (hi:JI X cA aq aj (F aj) EX tg iter w) (hg:∀cl C s3 H3 fp ao,JY (X.blk scope cl (M0++N) C s3 H3 fp ao) tg g)
  (ht:∀cl C s3 H3 fp ao,JC (X.blk scope cl (M0++N) C s3 H3 fp ao) cA aq aj (F aj) (λ_ _ _ _=>False) ifs cond) (he:∀cl C s3 H3 fp ao,JE (X.blk scope cl (M0++N) C s3 H3 fp ao) cA aq aj (F aj) (λ_ _ _ _=>False) elt B)
  (Er:swapsWith (.ListComp elt [⟨tg,iter,ifs,0⟩] scope pos) (some (.Name y py)) spos.line X.env=pure true:=by rfl) (hff:X.fn y=true\/k=.local:=by first|exact .inl rfl|exact .inr rfl) (hs:∀x,foldedSetIterable iter X.env x=pure x:=by intro _;rfl) :
  JS X cA aq aj F EX (.Assign [.Name y py] (.ListComp elt [⟨tg,iter,ifs,0⟩] scope pos) spos) (.asg (.nm i) (.comp fz B cV w fr M0.length cond)):=
 ⟨ziw hc hN yM (zA hx hl) (zB hx hff) (cX.of (Qf▸hB)) hi.o (Bm (vg▸hf)).1 (Bm (vg▸hf)).2 (λa b c d e f=>(hg a b c d e f).o) hT (λi hi=>j9 (jx.mp iG i hi)) (λa b c d e f=>(ht a b c d e f).o) (λa b c d e f=>(he a b c d e f).o) Er hs⟩
theorem Bp(i j:Nat){k0}(hc:X.aj=true)(dG:aj=true)(hN:X.N.Nodup)(hi:X.N[i]?=some x)(hj:X.N[j]?=some y)(hx:JK X x k)(hy:JK X y k')(Qg:mR k=true)(Qh:mR k'=true)(ha:JE X cA aq aj (F aj) EX a A)
  (vd:X.fn x=true\/k=.local:=by first|exact .inl rfl|exact .inr rfl) (vf:X.fn y=true\/k'=.local:=by first|exact .inl rfl|exact .inr rfl)
  (hs:swapsWithSole [.Tuple [.Name x px,.Name y py] k0 pt] a pos.line X.env=pure false:=by rfl) (hw:swappedStores [.Tuple [.Name x px,.Name y py] k0 pt] a X.env=pure none:=by rfl) (h1:(assignEach [.Tuple [.Name x px,.Name y py] k0 pt] X.env).map (·.2)=[assign (.Tuple [.Name x px,.Name y py] k0 pt) X.env]:=by rfl) :
  JS X cA aq aj F EX (.Assign [.Tuple [.Name x px,.Name y py] k0 pt] a pos) (.asg (.tp [i,j]) A):=⟨zh2 hc dG hN hi hj (zA hx Qg) (zA hy Qh) (zB hx vd) (zB hy vf) ha.o hs hw h1⟩
theorem J9(hO:JE X cA aq aj (F aj) EX oo O)(hI:JE X cA aq aj (F aj) EX ii I')(ha:JE X cA aq aj (F aj) EX a A)
  (PX:∀v,assign (.Subscript oo ii p) X.env v=(do
   let obj <-holding [v] (eval oo X.env)
   let at_ <-holding [v,obj] (eval ii X.env)
   standAt p
   holding [v,obj,at_] (setItem obj at_ v)
   release [v,obj,at_] []):=by intro _;rfl) (hs:swapsWithSole [.Subscript oo ii p] a pos.line X.env=pure false:=by rfl) (hw:swappedStores [.Subscript oo ii p] a X.env=pure none:=by rfl)
  (h1:(assignEach [.Subscript oo ii p] X.env).map (·.2)=[assign (.Subscript oo ii p) X.env]:=by rfl):JS X cA aq aj F EX (.Assign [.Subscript oo ii p] a pos) (.asg (.aq O I') A):=⟨zlE hO.o hI.o ha.o PX hs hw h1⟩
theorem zmc(i j:Nat){kt k2 qZ}(hc:X.aj=true)(dG:aj=true)(hN:X.N.Nodup)(hi:X.N[i]?=some x)(hj:X.N[j]?=some y)(qF:i≠j)(hx:JK X x .local)(hy:JK X y .local)
  (ha:JE X cA aq aj (F aj) EX a A) (hb:JE X cA aq aj (F aj) EX b B) (hw:swappedStores [.Tuple [.Name x px,.Name y py] kt pt] (.Tuple [a,b] k2 qZ) X.env=pure (some [x,y])) (h1:aD a=true:=by rfl) (h2:aD b=true:=by rfl)
  (hs:swapsWithSole [.Tuple [.Name x px,.Name y py] kt pt] (.Tuple [a,b] k2 qZ) pos.line X.env=pure false:=by rfl):JS X cA aq aj F EX (.Assign [.Tuple [.Name x px,.Name y py] kt pt] (.Tuple [a,b] k2 qZ) pos) (.par i j A B):=
 ⟨zld hc dG hN hi hj qF hx.o hy.o ha.o hb.o (aY h1) (aY h2) hw hs⟩
theorem fV(hc:JT X cA aq aj (F aj) EX c C)(ht:JB X cA aq aj F EX body mb)(he:JB X cA aq aj F EX orelse me):JS X cA aq aj F EX (.If c body orelse pos) (.iff C mb me):=⟨zmC hc.o ht.o he.o⟩
theorem Gv(i:Nat)(hN:X.N.Nodup)(hi:X.N[i]?=some x)(hx:JK X x k)(hl:mR k=true)(hf:X.fn x=true\/k=.local:=by first|exact .inl rfl|exact .inr rfl):JG X cA aq aj F EX (.Name x pos) (.nm i):=⟨zir hN hi (zA hx hl) (zB hx hf)⟩
theorem W0(i j:Nat){k0}(hc:X.aj=true)(dG:aj=true)(hN:X.N.Nodup)(hi:X.N[i]?=some x)(hj:X.N[j]?=some y)(hx:JK X x k)(hy:JK X y k')(Qg:mR k=true)(Qh:mR k'=true)(vd:X.fn x=true\/k=.local:=by first|exact .inl rfl|exact .inr rfl)(vf:X.fn y=true\/k'=.local:=by first|exact .inl rfl|exact .inr rfl) :
  JG X cA aq aj F EX (.Tuple [.Name x px,.Name y py] k0 pos) (.tp [i,j]):=⟨ziP hc dG hN hi hj (zA hx Qg) (zA hy Qh) (zB hx vd) (zB hy vf)⟩
theorem zE(hp:JH X)(hc:X.aj=true)(dG:aj=true)(ha:JI X cA aq aj (F aj) EX tg a w)(hg:JG X cA aq aj F EX tg t)(hb:JB X cA aq aj F EX body mb)(hs:∀x,foldedSetIterable a X.env x=pure x:=by intro _;rfl):JS X cA aq aj F EX (.For tg a body [] pos) (.fr t w mb):=
 ⟨zkf hp.o hc dG ha.o hg.o hb.o hs⟩
end
theorem W2{P:Program}{w:World}{K:W.Frag}{mg:Str->Option Value}{base:Heap}{cA:Cl}{aq:Nat->Nat->Bool}{T:Nat->Option Df}{x qual:Str}{st:Stmt}{f:Addr}{fd:FuncData}{N ps:List Str}{k n:Nat}{cm:Bool}{df:Df}(F:mQ K x qual st f fd)(S:cM N ps (au st))(hT:T n=some df)(hp:df.gM=ps.length)(hm:df.many=N.length)
  (hb:∀(cdv:Value) (A:Around) (outer:List Env) (s:Shared) (H:Hp) (E:XK),bB k (A.deeper (envOfC qual (au st) s.heap.objs.size f cdv))->
   JB (fK (fQ P w) P w K mg base N qual (au st) f cdv A outer s H E cm) cA aq cm (λc=>call aq T k c) (λ_ C dx H'=>E C dx H') (aK st) df.body) :
  bT P w K mg base (fQ P w) cm (k+1) f fd ps (jX K cA (call aq T (k+1) cm n)):=zkC F S hT hp hm λcdv A outer s H E hr=>(hb cdv A outer s H E hr).o
section
variable {K:W.Frag}{cA:Cl}{U:Ph}{H:Hp}{kvs:gY}{xs:lD}{k:List Kx}
theorem iC.len(r:iC K cA U H kvs xs):kvs.length=xs.length:=by
 induction r with
 |nil=>rfl
 |cons _ _ _ _ ih=>rw[gD,gD,ih]
theorem ziD{j:List Kx}{a:Addr}{u:Value}{r:lD}:atKey ((j,a,u)::r) k=if j=k then some (a,u) else atKey r k:=by
 unfold atKey;rw[List.find?_cons];by_cases e:j=k
 ·simp[e]
 ·simp[e]
theorem iC.at(r:iC K cA U H kvs xs):(bO k kvs=none/\atKey xs k=none)\/∃d p v,bO k kvs=some d/\atKey xs k=some p/\RelV v p.2/\Rep K cA U H d v:=by
 induction r with
 |nil=>exact .inl ⟨rfl,rfl⟩
 |@cons j d ka u v r xs hk hu hv q ih=>
  rw[ziD];unfold bO;by_cases e:j=k
  ·rw[if_pos e,if_pos e];exact .inr ⟨d,(ka,u),v,rfl,rfl,hu,hv⟩
  ·rw[if_neg e,if_neg e];exact ih
theorem iC.isSome(r:iC K cA U H kvs xs):(atKey xs k).isSome=(bO k kvs).isSome:=by
 rcases r.at (k:=k) with ⟨a,b⟩|⟨d,p,v,a,b,_⟩<;>rw[a,b]<;>rfl
theorem iC.app{kvs':gY}{xs':lD}(r:iC K cA U H kvs xs)(r':iC K cA U H kvs' xs'):iC K cA U H (kvs++kvs') (xs++xs'):=by
 induction r with
 |nil=>exact r'
 |cons a b c _ ih=>exact .cons a b c ih
theorem iC.put{ka:Addr}{u:Value}{v:V}{d:D}(r:iC K cA U H kvs xs)(hk:Rep K cA U H (iu k) (.ref ka))(hu:RelV v u)(hv:Rep K cA U H d v):iC K cA U H (iU k d kvs) (storedH xs k ka u):=by
 unfold iU storedH;rw[r.isSome];by_cases e:(bO k kvs).isSome=true
 ·rw[if_pos e,if_pos e];clear e
  induction r with
  |nil=>exact .nil
  |@cons j d' W3 u' v' r xs W4 hu' M5 q ih=>
   rw[jk,jk];show iC K cA U H ((if j=k then (j,d) else (j,d'))::_) ((if j=k then (j,W3,u) else (j,W3,u'))::_);by_cases e:j=k
   ·rw[if_pos e,if_pos e];exact .cons W4 hu hv ih
   ·rw[if_neg e,if_neg e];exact .cons W4 hu' M5 ih
 ·rw[if_neg e,if_neg e];exact r.app (.cons hk hu hv .nil)
end
section
variable {X:Cx}{cA:Cl}{ao:List (Addr×Obj)}{Z:L2.St}{H:Hp}{s:Shared}{U:Ph}{a:Addr}{kvs:gY}{xs:lD}{k:List Kx}{y v:V}{u:Value}{A:Around}{E:Value->Shared->Prop}
theorem Qi(I:Inv X ao Z H s)(e:H a=some (rE a xs))(r:iC X.K cA U H kvs xs):(a==sysModules)=false/\xs.length<=sizeLine/\s.heap.DictOfH (jg X.prog X.w) a xs:=by
 have z:=(I.hok a _ e).1;obtain⟨h1,h2,o,es,ep,h3,h4,h5,h6,h7⟩:=z;refine⟨h1,h2,o,es,ep,h3,h4,h5,h6,?_,h7⟩;clear h2 h6 h7 e
 induction r with
 |nil=>exact λx hx=>nomatch hx
 |cons hk hu hv q ih=>exact List.forall_mem_cons.mpr ⟨qd I hk rfl,ih⟩
theorem Qj{d:D}(hk:Rep X.K cA U H (iu k) y):∃b,y=.ref b:=by cases hk;exact⟨_,rfl⟩
noncomputable def tGx(K:W.Frag)(cA:Cl)(td ty:TE):TE:=λZ H Q=>td Z H λx H1=>ty Z H1 λy H2=>∃a U kvs xs k d,x=.ref a/\H2 a=some (rE a xs)/\iC K cA U H2 kvs xs/\Rep K cA U H2 (iu k) y/\bO k kvs=some d/\∀v,Rep K cA U H2 d v->Q v H2
noncomputable def W5(K:W.Frag)(cA:Cl)(f:Bool->Bool)(ty td:TE):TE:=λZ H Q=>ty Z H λy H1=>td Z H1 λx H2=>∃a U kvs xs k,x=.ref a/\H2 a=some (rE a xs)/\iC K cA U H2 kvs xs/\Rep K cA U H2 (iu k) y/\Q (.bl (f (bO k kvs).isSome)) H2
noncomputable def sPx(K:W.Frag)(cA:Cl)(td ty tv:TE):TS:=λD Z H=>tv Z H λv H1=>td Z H1 λx H2=>ty Z H2 λy H3=>∃a b U kvs xs k d,x=.ref a/\H3 a=some (rE a xs)/\iC K cA U H3 kvs xs/\y=.ref b/\Rep K cA U H3 (iu k) y/\Rep K cA U H3 d v/\kvs.length<sizeLine /\
 ∀u,RelV v u->D.nx Z (upd H3 a (rE a (storedH xs k b u)))
variable {o i value:Expr}{pos pos':Pos}{td ty tv:TE}
theorem zme(hu:X.A.units+5<cLine)(ho:PE X o td)(hi:PE X i ty)(hs:zm i):PE X (.Subscript o i pos) (tGx X.K cA td ty):=by
 intro ao s Z H Q I h;refine zjx PySem.F.slot_dict_getitem.lookup hs (aZ (ho ao s Z H _ I h) λu s1 hx=>dY hx λx H1 I1 rx q1=>aZ (hi ao s1 Z H1 _ I1 q1) λiv s2 ⟨y,H2,I2,ry,a,U,kvs,xs,k,d,ex,ea,rr,rk,g,q2⟩=>?_);subst ex;obtain rfl:u=Value.ref a:=rx;obtain⟨b,rfl⟩:=Qj (d:=d) rk;obtain rfl:iv=Value.ref b:=ry;obtain⟨z1,z2,dd⟩:=Qi I2 ea rr;rcases rr.at (k:=k) with ⟨z,_⟩|⟨d',p,v,z,hp,rv,rd⟩
 ·rw[g] at z;cases z
 ·rw[g] at z;cases z;exact⟨dd.typeIs,wpAny_getItem_heap (knd:=jg X.prog X.w) (show X.A.units+1+4<cLine by lia) (qd I2 rk rfl) dd hp ⟨v,H2,I2.tok _,rv,q2 v rd⟩⟩
theorem zlp(hu:X.A.units+5<cLine)(hi:PE X i ty)(ho:PE X o td):PC X .NotIn i o (W5 X.K cA not ty td):=by
 intro ao s Z H Q I h;refine aZ (hi ao s Z H _ I h) λiv s1 hx=>dY hx λy H1 I1 ry q1=>aZ (ho ao s1 Z H1 _ I1 q1) λu s2 ⟨x,H2,I2,rx,a,U,kvs,xs,k,ex,ea,rr,rk,q2⟩=>?_;subst ex;obtain rfl:u=Value.ref a:=rx;obtain⟨b,rfl⟩:=Qj (d:=.non) rk;obtain rfl:iv=Value.ref b:=ry;obtain⟨z1,z2,dd⟩:=Qi I2 ea rr;exact wpAny_notIn_heap (knd:=jg X.prog X.w) (show X.A.units+1+4<cLine by lia) (qd I2 rk rfl) z1 dd ⟨_,H2,I2.tok _,by rw[rr.isSome];rfl,q2⟩
theorem zeB{xs:lD}{b:Addr}{u:Value}:(storedH xs k b u).length<=xs.length+1:=by
 unfold storedH
 split
 ·rw[cU];lia
 ·simp
theorem zl4(hu:X.A.units+5<cLine)(ho:PE X o td)(hi:PE X i ty)(hv:PE X value tv)(hs:swapsWith value (some (.Subscript o i pos')) pos.line X.env=pure false):PS X (.Assign [.Subscript o i pos'] value pos) (sPx X.K cA td ty tv):=by
 intro ao s Z H D I h;refine wpAny_Assign_Subscript (aZ (hv ao s Z H _ I h) λr s1 hx=>dY hx λv H1 I1 rv q1=>aZ (ho ao s1 Z H1 _ I1 q1) λu s2 hx=>dY hx λx H2 I2 rx q2=>aZ (hi ao s2 Z H2 _ I2 q2) λiv s3 ⟨y,H3,I3,ry,a,b,U,kvs,xs,k,d,ex,ea,rr,ey,rk,rd,hl,q3⟩=>?_) hs;subst ex ey;obtain rfl:u=Value.ref a:=rx;obtain rfl:iv=Value.ref b:=ry;obtain⟨z1,z2,dd⟩:=Qi I3 ea rr;have rQ:xs.length+1<=sizeLine:=by rw[<-rr.len];exact hl
 refine wpAny_setItem_heap (knd:=jg X.prog X.w) (hsz:=z2) (show X.A.units+1+4<cLine by lia) (qd I3 rk rfl) dd λh' dd' hs'=>⟨Z,_,?_,q3 r rv⟩;obtain⟨q,es,ep,hq,h2,h3,h4,_,h5⟩:=dd';exact zi9 I3 (by rw[ea];exact True.intro) hs' ⟨q,hq⟩ ⟨⟨z1,jM zeB rQ,q,es,ep,hq,h2,h3,h4,h5⟩,⟨q,hq⟩,λh1 h2 ⟨a1,a2,o,es,ep,a3,a4⟩ kp=>⟨a1,a2,o,es,ep,kp o a3,a4⟩⟩
theorem zmP:PE X (.Dict [] [] pos) (λ_ H Q=>∀p,H p=none->Q (.ref p) (upd H p (rE p []))):=λao s Z H Q I h=>
 wpAny_Dict_empty ⟨.ref s.heap.objs.size,_,I.laid (a:=s.heap.objs.size) (o:=rE s.heap.objs.size []) (t':=s.toks) (λ_ _ q=>cJ _ q) (bJ _)
  ⟨⟨vM.mpr (Ne.symm (dw I.big)),xQ _,_,#[],0,fC _ rfl,⟨rfl,rfl,rfl⟩,rfl,rfl,Af⟩,⟨_,fC _ rfl⟩,λh1 h2 ⟨a1,a2,o,es,ep,a3,a4⟩ kp=>⟨a1,a2,o,es,ep,kp o a3,a4⟩⟩,rfl,h _ (I.hok.fresh (bJ _))⟩
end
section
variable {X:Cx}{cA:Cl}{aq:Nat->Nat->Bool}{aj:Bool}{F:Fn}{EX:XS}{a b:Expr}{A B:E}{pos p:Pos}{K:W.Frag}{U:Ph}{H:Hp}{s:S}
theorem Qk{β:Type}{x:Xv}{v:V}{k:List Kx->M β}{P:β->S->Ph->Hp->Prop}{Ee:Nat->List D->S->Ph->Hp->Prop}(r:aV K cA U H x v)(h:Run K cA (M.bd (key x) k) U H s P Ee):∃kx,Rep K cA U H (iu kx) v/\Run K cA (k kx) U H s P Ee:=by
 cases r with
 |l _=>exact h.elim
 |@d y _ r=>
  obtain⟨kx,e,h2⟩:=Jy (o:=kOf y) h;rw[zkF e] at r;exact⟨kx,r,h2⟩
theorem Ql{β:Type}{x:Xv}{v:V}{k:Nat×gY->M β}{P:β->S->Ph->Hp->Prop}{Ee:Nat->List D->S->Ph->Hp->Prop}(hS:aF K cA U H s)(r:aV K cA U H x v)(h:Run K cA (M.bd (eY x) k) U H s P Ee) :
  ∃n ad kvs xs,x=.l n/\v=.ref ad/\s[n]?=some (.dct kvs)/\U.l[n]?=some ad/\H ad=some (rE ad xs)/\iC K cA U H kvs xs/\Run K cA (k (n,kvs)) U H s P Ee:=by
 cases r with
 |d _=>exact h.elim
 |@l n ad hl=>
  unfold Run M.bd eY at h;dsimp only at h;cases e:s[n]? with
  |none=>rw[e] at h;exact h.elim
  |some o=>
   rw[e] at h;cases o with
   |dct kvs=>
    obtain⟨xs,q1,q2⟩:=hS.obj n _ _ e hl;exact⟨n,ad,kvs,xs,rfl,rfl,e,hl,q1,q2,h⟩
   |_=>exact h.elim
theorem zkw{k:Nat}(hr:bB k X.A)(ha:JE X cA aq aj F EX a A)(hb:JE X cA aq aj F EX b B)(hs:zm b:=by exact λ_ _=>rfl):JE X cA aq aj F EX (.Subscript a b pos) (.nM A B):=⟨PE.weak (zme (cA:=cA) (by have:=hr.un;lia) ha.o hb.o hs) λZ H Q hh=>un hh λU J s hL hS h=>by
 refine aW hL hS h λx H1 U1 d1 s1 x1 hL1 aJ r1 h1=>aW hL1 aJ h1 λy H2 U2 d2 s2 x2 hL2 aR r2 h2=>?_;obtain⟨kx,rk,h3⟩:=Qk r2 h2;obtain⟨n,ad,kvs,xs,_,rfl,e1,e2,e3,rr,h4⟩:=Ql aR (r1.mono x2 aJ.lz) h3;have h4:Run X.K cA (M.opt ((bO kx kvs).map Xv.d)) U2 H2 s2 (λd _ U' H'=>∀v,aV X.K cA U' H' d v->Q v H') (eX X.K cA EX Z):=h4;cases e:bO kx kvs with
 |none=>rw[e] at h4;exact h4.elim
 |some d=>
  rw[e] at h4;exact⟨ad,U2,kvs,xs,kx,d,rfl,e3,rr,rk,e,λv rv=>h4.bC aR v (.d rv)⟩⟩
theorem zjA{b':Bool}{Z:L2.St}{Q:VK}(f:Bool->Bool)(hf:∀c,f c=(c==b'))(hh:tE X.K cA EX (ev aq aj F (.yP b' A B)) Z H Q):W5 X.K cA f (tE X.K cA EX (ev aq aj F A)) (tE X.K cA EX (ev aq aj F B)) Z H Q:=un hh λU J s hL hS h=>by
 refine aW hL hS h λx H1 U1 d1 s1 x1 hL1 aJ r1 h1=>aW hL1 aJ h1 λy H2 U2 d2 s2 x2 hL2 aR r2 h2=>?_;obtain⟨kx,rk,h3⟩:=Qk (r1.mono x2 aJ.lz) h2;obtain⟨n,ad,kvs,xs,_,rfl,e1,e2,e3,rr,h4⟩:=Ql aR r2 h3;refine⟨ad,U2,kvs,xs,kx,rfl,e3,rr,rk,?_⟩;rw[hf];exact h4.bC aR _ (.d (.bl _))
theorem W6{m:Vs->M Xv}{Z:L2.St}{Q:Bool->Hp->Prop}(hh:tV K cA EX (λJ=>M.bd (m J) bool) Z H Q):tE K cA EX m Z H λx H1=>∃c,x=.bl c/\Q c H1:=un hh λU J s hL hS h=>
 ⟨U,J,s,hL,hS,h.bd.imp λd s1 U1 H1 ⟨_,r1,h1⟩ v rv=>zgs r1 rv h1⟩
theorem zkE{k:Nat}(hr:bB k X.A)(ha:JE X cA aq aj F EX a A)(hb:JE X cA aq aj F EX b B)(h1:mV b=true:=by rfl):JT X cA aq aj F EX (.Compare a [.NotIn] [b] pos) (.yP false A B):=⟨PT.weak (Mp (zlp (cA:=cA) (by have:=hr.un;lia) ha.o hb.o) (vq h1)) λZ H Q hh=>zjA not (λc=>by cases c<;>rfl) (W6 hh)⟩
theorem zkG:JE X cA aq aj F EX (.Dict [] [] pos) .pX:=⟨PE.weak zmP λZ H Q hh=>un hh λU J s hL hS h p hp=>
 h (U.add p) _ (Ext.add hp) (hS.Fz hp ⟨[],jy,.nil⟩) _ (.l (by show (U.l++[p])[s.length]?=_;rw[<-hS.len];simp))⟩
end
section
variable {X:Cx}{cA:Cl}{aq:Nat->Nat->Bool}{aj:Bool}{F:Bool->Fn}{EX:XS}{a oo ii:Expr}{A O I':E}{pos p:Pos}
theorem zlc{k:Nat}(hr:bB k X.A)(hO:JE X cA aq aj (F aj) EX oo O)(hI:JE X cA aq aj (F aj) EX ii I')(ha:JE X cA aq aj (F aj) EX a A)(hs:swapsWith a (some (.Subscript oo ii p)) pos.line X.env=pure false:=by rfl) :
  JS X cA aq aj F EX (.Assign [.Subscript oo ii p] a pos) (.dput O I' A):=⟨PS.weak (zl4 (cA:=cA) (by have:=hr.un;lia) hO.o hI.o ha.o hs) λD Z H hh=>un hh λU J s hL hS h=>by
 refine aW hL hS (aQ.ofM hL hS.lz h) λz H1 U1 d1 s1 x1 hL1 aJ r1 h1=>?_;obtain⟨w,_,jG,h2⟩:=Jz r1 h1;refine aW hL1 aJ h2 λx H2 U2 d2 s2 x2 hL2 aR r2 h3=>aW hL2 aR h3 λy H3 U3 d3 s3 x3 uZ jW r3 h4=>?_;obtain⟨kx,rk,h5⟩:=Qk r3 h4;obtain⟨n,ad,kvs,xs,_,rfl,e1,e2,e3,rr,h6⟩:=Ql jW (r2.mono x3 aR.lz) h5;obtain⟨b,rfl⟩:=Qj (X:=X) (d:=.non) rk;have W7:=(jG.mono x2 aJ.lz).mono x3 aR.lz;by_cases hz:kvs.length<sizeLine
 ·refine⟨ad,b,U3,kvs,xs,kx,w,rfl,e3,rr,rfl,rk,W7,hz,λu ru=>?_⟩;have h6:Run X.K cA (if kvs.length<sizeLine then putD n (iU kx w kvs) else M.no) U3 H3 s3 _ _:=h6;rw[if_pos hz] at h6;have x4:Ext U3 H3 U3 (upd H3 ad (rE ad (storedH xs kx b u))):=Ext.write e2 ⟨_,e3⟩;have rS:=jW.rF (so:=.dct (iU kx w kvs)) (ho:=rE ad (storedH xs kx b u)) (eO.mp e1).1 e2 ⟨_,jy,(rr.put rk ru W7).map λ_ _ r=>r.mono x4 jW.lz⟩;obtain⟨x5,r5,h7⟩:=h6 U3 _ x4 rS;exact h7 U3 _ Z Ext.refl rS (uZ.mono x4 jW.lz)
 ·have h6:Run X.K cA (if kvs.length<sizeLine then putD n (iU kx w kvs) else M.no) U3 H3 s3 _ _:=h6;rw[if_neg hz] at h6;exact h6.elim⟩
end
end Mi
namespace Mi
open PySem PySem.Spec PyProof.Rows L2 PySem.W
theorem zly{fd:FuncData}{x:Str}{st:Stmt}(h:lR fd=tL x st):fd=fnOf x x (aP st) (aK st) (au st) .none fd.kwdefaults fd.doc fd.pyModule fd.annotations fd.code fd.closureTuple:=by
 cases fd;unfold lR tL at h;cases h;rfl
noncomputable def gO(K:Frag)(x:Str):Addr:=match xT K x with
 |some p=>p.1
 |none=>0
noncomputable def fdOf(K:Frag)(x:Str)(st:Stmt):FuncData:=match xT K x with
 |some p=>p.2
 |none=>tL x st
structure FnAt(K:Frag)(x:Str)(st:Stmt):Prop where
 ns:nsIn K mainGlobals x=some (some (.ref (gO K x)))
 fn:mQ K x x st (gO K x) (fdOf K x st)
theorem zmR{K:Frag}{x:Str}{st:Stmt}(h:(xT K x).map (λp=>lR p.2)=some (tL x st)):FnAt K x st:=by
 cases e:xT K x with
 |none=>rw[e] at h;cases h
 |some p=>
  rw[e] at h;have hp:lR p.2=tL x st:=cj h;have h1:gO K x=p.1:=by unfold gO;rw[e]
  have h2:fdOf K x st=p.2:=by unfold fdOf;rw[e]
  unfold xT at e;split at e
  ·rename_i f hf;split at e
   ·rename_i oc od fd sl hl;split at e
    ·rename_i hc;cases e;rw[gF] at hc;refine⟨by rw[h1];exact hf,?_⟩;rw[h1,h2];exact⟨⟨oc,od,_,_,_,_,_,_,sl,zly hp,hl,hc.1⟩,hc.2⟩
    ·cases e
   ·cases e
  ·cases e
theorem FnAt.m{K:Frag}{x:Str}{st:Stmt}(F:FnAt K x st){h:Heap}{mg:Str->Option Value}(X:K.In h)(G:h.Ns mainGlobals mg):mg x=some (.ref (gO K x)):=mg_of X G F.ns
theorem zm1{K:Frag}{x:Str}(h:qT K x=true){hp:Heap}{mg:Str->Option Value}(X:K.In hp)(G:hp.Ns mainGlobals mg):mg x=some (.ref (dz K x)):=by
 refine mg_of X G ?_;unfold qT at h;unfold dz;split at h
 ·rename_i C e;rw[e]
 ·cases h
theorem W8{K:Frag}{x:Str}{i:Int}(h:kh K (x,i)=true){hp:Heap}{mg:Str->Option Value}(X:K.In hp)(G:hp.Ns mainGlobals mg):∃t,mg x=some (.int i t):=by
 unfold kh at h;split at h
 ·rename_i j t e;rw[Ce] at h;subst h;exact⟨t,mg_of X G e⟩
 ·cases h
theorem nZ{K:Frag}{x:Str}(h:oE K x=true){hp:Heap}{mg:Str->Option Value}(X:K.In hp)(G:hp.Ns mainGlobals mg):mg x=none:=by
 refine mg_none_of X G ?_;unfold oE at h;split at h
 ·rename_i e;exact e
 ·cases h
structure wU(l:Lk)(K:Frag):Prop where
 cl:∀x∈l.Cy,qT K x=true
 cs:l.Cy.isEmpty=true\/vX K (l.L K)=true
 ra:∀k∈l.TJ,Cw K (gZ (l.L K) k)=true
 ca:∀k∈l.TQ,subB K (l.L K) k=true
 it:∀p∈l.vY,kh K p=true
 no:∀x∈l.TF,oE K x=true
theorem Kab{l:Lk}{K:Frag}(h:l.good K=true):wU l K:=by
 unfold Lk.good at h;simp only[gF,Io,jx] at h;obtain⟨⟨⟨⟨⟨h1,h2⟩,h3⟩,h4⟩,h5⟩,h6⟩:=h;exact⟨h1,h2,h3,h4,h5,h6⟩
theorem vB{K:Frag}{x:Str}{st:Stmt}{f:Addr}{fd:FuncData}{p:Str}(F:mQ K x x st f fd)(h:∀(kV doc pm:Value) (an:Option Addr) (cdv ct a:Value),bindArgs (fnOf x x (aP st) (aK st) (au st) .none kV doc pm an cdv ct) ⟨[a],[]⟩=pure [(p,a)]):Binds K fd [p] []:=by
 obtain⟨oc,od,kV,doc,pm,an,cdv,ct,osl,rfl,lk,jz⟩:=F.ex;exact zp (h kV doc pm an cdv ct)
theorem vC{K:Frag}{x:Str}{st:Stmt}{f:Addr}{fd:FuncData}{p q:Str}(F:mQ K x x st f fd)(h:∀(kV doc pm:Value) (an:Option Addr) (cdv ct a b:Value),bindArgs (fnOf x x (aP st) (aK st) (au st) .none kV doc pm an cdv ct) ⟨[a,b],[]⟩=pure [(p,a),(q,b)]):Binds K fd [p,q] []:=by
 obtain⟨oc,od,kV,doc,pm,an,cdv,ct,osl,rfl,lk,jz⟩:=F.ex;exact rY (h kV doc pm an cdv ct)
theorem vD{K:Frag}{x:Str}{st:Stmt}{f:Addr}{fd:FuncData}{p q t:Str}(F:mQ K x x st f fd)(h:∀(kV doc pm:Value) (an:Option Addr) (cdv ct a b c:Value),bindArgs (fnOf x x (aP st) (aK st) (au st) .none kV doc pm an cdv ct) ⟨[a,b,c],[]⟩=pure [(p,a),(q,b),(t,c)]):Binds K fd [p,q,t] []:=by
 obtain⟨oc,od,kV,doc,pm,an,cdv,ct,osl,rfl,lk,jz⟩:=F.ex;exact rZ (h kV doc pm an cdv ct)
theorem vG{K:Frag}{x:Str}{st:Stmt}{f:Addr}{fd:FuncData}{p q t u:Str}(F:mQ K x x st f fd)(h:∀(kV doc pm:Value) (an:Option Addr) (cdv ct a b c d:Value),bindArgs (fnOf x x (aP st) (aK st) (au st) .none kV doc pm an cdv ct) ⟨[a,b,c,d],[]⟩=pure [(p,a),(q,b),(t,c),(u,d)]):Binds K fd [p,q,t,u] []:=by
 obtain⟨oc,od,kV,doc,pm,an,cdv,ct,osl,rfl,lk,jz⟩:=F.ex;exact su (h kV doc pm an cdv ct)
theorem zF{K:Frag}{x:Str}{st:Stmt}{f:Addr}{fd:FuncData}{p:Str}(F:mQ K x x st f fd)(h:∀(kV doc pm:Value) (an:Option Addr) (cdv ct a:Value),bindArgs (fnOf x x (aP st) (aK st) (au st) .none kV doc pm an cdv ct) ⟨[a],[]⟩=pure [(p,a)]):∀(s:Shared) (u:Value),BindsTo s fd ⟨[u],[]⟩ [(p,u)]:=by
 obtain⟨oc,od,kV,doc,pm,an,cdv,ct,osl,rfl,lk,jz⟩:=F.ex;exact λs u=>.of_eq (h kV doc pm an cdv ct u)
end Mi
namespace Mi
open PySem PySem.Spec PyProof.Rows L2
section
variable {K:W.Frag}{cA:Cl}{U U' O7:Ph}{H H' Fy:Hp}{s:S}
end
section
variable {X:Cx}{cA:Cl}{aq:Nat->Nat->Bool}{aj:Bool}{F:Fn}{EX:XS}{elt iter tg iter₂ tg₂:Expr}{A B:E}{pos p:Pos}{ifs:List Expr}{scope:Scope}{N:List Str}{cond:Eo}{fr cV cV₂:List Nat}{many:Nat}{fz:Bool}{w w₂:Wk}
end
section
variable {X:Cx}{cA:Cl}{aq:Nat->Nat->Bool}{aj:Bool}{F:Bool->Fn}{EX:XS}{elt iter tg iter₂ tg₂:Expr}{A B:E}{pos p:Pos}{ifs:List Expr}{scope:Scope}{N:List Str}{cond:Eo}{fr cV cV₂:List Nat}{many:Nat}{fz:Bool}{w w₂:Wk}{i:Nat}{y:Str}
end
section
variable {X:Cx}{cA:Cl}{aq:Nat->Nat->Bool}{aj:Bool}{F:Fn}{EX:XS}{elt iter tg iter₂ tg₂:Expr}{A B:E}{pos p:Pos}{ifs:List Expr}{scope:Scope}{N:List Str}{cond:Eo}{fr cV cV₂:List Nat}{many:Nat}{fz:Bool}{w w₂:Wk}{i:Nat}{y:Str}
end
section
variable {K:W.Frag}{cA:Cl}{U:Ph}{H:Hp}
theorem aB.Gw(r:aB K cA U H xs ys):∀l:List Nat,aB K cA U H (l.map λi=>xs.getD i .non) (l.map λi=>ys.getD i .non)
 |[]=>.nil
 |i::l=>by
  refine .cons ?_ (aB.Gw r l);show Rep K cA U H (xs.getD i .non) (ys.getD i .non);cases e:xs[i]? with
  |some x=>
   obtain⟨u,e1,e2⟩:=r.get e;rw[jC,jC,e,e1];exact e2
  |none=>
   have e1:ys[i]?=Option.none:=r.none e;rw[jC,jC,e,e1];exact .non
theorem aB.mem(r:aB K cA U H xs ys):∀v∈ys,∃d∈xs,Rep K cA U H d v:=by
 intro v hv;obtain⟨i,hi,e⟩:=vO hv;have e':ys[i]?=some v:=by rw[dj hi,e]
 cases ex:xs[i]? with
 |none=>rw[r.none ex] at e';cases e'
 |some d=>
  obtain⟨u,e1,e2⟩:=r.get ex;rw[e1] at e';cases e';exact⟨d,fB ex,e2⟩
theorem W9:∀{us ws:List D} {xs ys:List V},aB K cA U H us xs->aB K cA U H ws ys->∀{b:Bool},mJ us ws=some b->jH xs ys=some b
 |[],ws,_,ys,r1,r2,b,h=>by
  cases r1;unfold mJ at h;unfold jH;rw[<-r2.len];exact h
 |_::_,[],_,_,r1,r2,b,h=>by
  cases r2;cases r1;unfold mJ at h;unfold jH;exact h
 |x::us,y::ws,_,_,r1,r2,b,h=>by
  cases r1 with
  |cons a1 b1=>
   cases r2 with
   |cons a2 b2=>
    unfold mJ at h;split at h
    ·rename_i z;cases z
    ·rename_i z;cases z
    ·rename_i p ps q qs e1 e2;cases e1;cases e2;cases a1;cases a2;unfold jH;by_cases e:p=q
     ·rw[if_pos e] at h ⊢;exact W9 b1 b2 h
     ·rw[if_neg e] at h ⊢;exact h
    ·cases h
theorem zhc(r:aB K cA U H xs ys)(h:(xs.all h_||xs.all gb)=true):rC K H ys (tR xs):=by
 rw[Io] at h;rcases h with h|h
 ·left
  rw[jx] at h;refine⟨λv hv=>?_,λi j b e=>?_⟩
  ·obtain⟨d,hd,q⟩:=r.mem v hv;have:=h d hd;cases q<;>first|exact⟨_,rfl⟩|cases this
  ·unfold tR at e;cases e1:xs[i]? with
   |none=>rw[e1] at e;cases e
   |some d1=>
    cases e2:xs[j]? with
    |none=>rw[e1,e2] at e;cases d1<;>cases e
    |some d2=>
     have h1:=h d1 (fB e1);have h2:=h d2 (fB e2);rw[e1,e2] at e;obtain⟨v1,a1,b1⟩:=r.get e1;obtain⟨v2,a2,b2⟩:=r.get e2;cases d1<;>first|cases h1|skip
     cases d2<;>first|cases h2|skip
     cases b1;cases b2;cases e;exact⟨_,_,a1,a2,rfl⟩
 ·right
  rw[jx] at h;refine⟨λv hv=>?_,λi j b e=>?_⟩
  ·obtain⟨d,hd,q⟩:=r.mem v hv;have:=h d hd;unfold gb at this;split at this
   ·cases q with
    |tup t r'=>
     cases r' with
     |cons a1 b1=>
      cases a1;exact⟨_,_,_,rfl,t.iY⟩
   ·cases this
  ·unfold tR at e;cases e1:xs[i]? with
   |none=>rw[e1] at e;cases e
   |some d1=>
    cases e2:xs[j]? with
    |none=>rw[e1,e2] at e;cases d1<;>cases e
    |some d2=>
     have h1:=h d1 (fB e1);have h2:=h d2 (fB e2);rw[e1,e2] at e;obtain⟨v1,a1,b1⟩:=r.get e1;obtain⟨v2,a2,b2⟩:=r.get e2;unfold gb at h1 h2;split at h1
     ·split at h2
      ·cases b1 with
       |tup t1 r1=>
        cases b2 with
        |tup t2 r2=>exact⟨_,_,_,_,a1,a2,t1.iY,t2.iY,W9 r1 r2 e⟩
      ·cases h2
     ·cases h1
theorem zfs:bx K cA .sorted (λxs H Q=>∃l ys lt p,xs=[.ref l]/\cL K H l ys/\ys.length<64/\(2<=ys.length->rC K H ys lt/\bF lt (PySem.W.kas_sort ys.length)=some p/\p.size=ys.length)/\∀r,H r=none->Q (.ref r) (upd H r (.lst (jJ ys p)))):=by
 intro U H ds vs Q zt rs o;have o:bG K cA U H (lB ds) Q:=o;unfold lB at o;split at o
 ·rename_i xs _;obtain⟨v,rfl,r1⟩:=rs.one;obtain⟨z,e⟩:=o.some';obtain⟨zs,e1,e2⟩:=jZ.mp e;subst e2;obtain⟨a,us,rfl,sq,q⟩ : ∃a us,v=.ref a/\cL K H a us/\aB K cA U H xs us:=r1;have hl:=q.len;unfold tU at e1;by_cases hk:(xs.all h_||xs.all gb)=true
  ·rw[if_pos hk] at e1;unfold mL at e1;by_cases h2:xs.length<2
   ·rw[if_pos h2] at e1;cases e1;refine⟨a,us,λ_ _=>none,#[],rfl,sq,by lia,λz=>absurd z (by lia),λr hr=>?_⟩;have:jJ us #[]=us:=by unfold jJ;rw[if_pos (by lia)]
    rw[this];exact(o.of e) r us hr q
   ·rw[if_neg h2] at e1;by_cases rB:xs.length<64
    ·rw[if_pos rB] at e1;cases ek:bF (tR xs) (PySem.W.kas_sort xs.length) with
     |none=>rw[ek] at e1;cases e1
     |some p=>
      rw[ek] at e1;dsimp only at e1;by_cases hp:p.size=xs.length
      ·rw[if_pos hp] at e1;cases e1;refine⟨a,us,tR xs,p,rfl,sq,by lia,λ_=>⟨zhc q hk,by rw[<-hl];exact ek,by lia⟩,λr hr=>?_⟩;have:jJ us p=p.toList.map λi=>us.getD i .non:=by unfold jJ;rw[if_neg (by lia)]
       rw[this];exact(o.of e) r _ hr (q.Gw p.toList)
      ·rw[if_neg hp] at e1;cases e1
    ·rw[if_neg rB] at e1;cases e1
  ·rw[if_neg hk] at e1;cases e1
 ·exact o.elim
end
section
variable {X:Cx}{cA:Cl}{aq:Nat->Nat->Bool}{aj:Bool}{F:Fn}{EX:XS}{e:Expr}{pos p:Pos}{es:List Expr}{Xs:Es}{fz:Bool}
theorem zdd:bootBuiltins "sorted"=some (.builtin "sorted"):=by decide +kernel
theorem W_(hm:X.mg "sorted"=none)(hg:JK X "sorted" .globalImplicit)(ha:JA X cA aq aj F EX (e::es) Xs)(he:aD e=true:=by rfl)(cD:es.all aD=true:=by rfl):JE X cA aq aj F EX (.Call (.Name "sorted" p) (e::es) [] pos) (.pr fz .sorted Xs):=⟨wH zdv zfs hg.o hm zdd ha.o (by decide) (by decide) (aY he) (bw cD)⟩
end
section
variable {K:W.Frag}{cA:Cl}{U:Ph}{H:Hp}
theorem J_:∀{xs:List D} {k i:Nat},(enumFrom k xs)[i]?=(xs[i]?).map λd=>.tup [.int ((k+i:Nat):Int),d]
 |[],k,i=>by simp[enumFrom]
 |x::r,k,0=>by simp[enumFrom]
 |x::r,k,i+1=>by
  unfold enumFrom;rw[zU,zU,J_]
  congr 1
  funext d
  rw[show k+1+i=k+(i+1) by lia]
noncomputable def qg(K:W.Frag)(U:Ph)(H:Hp):Bool->Addr->List V->Prop
 |true,a,vs=>LstAt K U H a vs
 |false,a,vs=>TupAt K U H a vs
theorem qg.sk{kd:Bool}{a:Addr}{vs:List V}(h:qg K U H kd a vs):Sk kd K H a vs:=by
 cases kd
 ·exact TupAt.iY h
 ·exact LstAt.qL h
theorem qg.later{U':Ph}{H₁ H':Hp}{kd:Bool}{a:Addr}{vs:List V}(hz:∀a∈U.l,U.z a)(h:qg K U H kd a vs)(x:Ext U H U' H₁)(o:cP U' H₁ H'):qg K U' H' kd a vs:=by
 cases kd
 ·exact TupAt.later hz h x o
 ·exact LstAt.later hz h x o
theorem jh.enum{kd:Bool}{l:Addr}{xs:List D}{vs:List V}(hz:∀a∈U.l,U.z a)(h:qg K U H kd l vs)(r:aB K cA U H xs vs):jh K cA (.fix (enumFrom 0 xs)) U H (Ite K kd l):=by
 refine⟨λU' H₁ H' s' i x o hS e=>⟨vs,(h.later hz x o).sk,?_⟩,λU' H₁ H' s' i d x o hS e=>?_,λU' H₁ H' s' i d v H2 x o hS e y=>?_⟩
 ·have e:(enumFrom 0 xs)[i]?=none:=cj e;rw[J_,Option.map_eq_none_iff] at e;exact oh.mp ((r.mono x hz).none e)
 ·have e:(enumFrom 0 xs)[i]?=some d:=cj e;rw[J_] at e;obtain⟨d',e',_⟩:=jZ.mp e;obtain⟨v,q,_⟩:=r.get e';exact⟨vs,v,(h.later hz x o).sk,q⟩
 ·have e:(enumFrom 0 xs)[i]?=some d:=cj e;rw[J_] at e;obtain⟨d',e',rfl⟩:=jZ.mp e;obtain⟨a,u,hn,rfl,rfl,hu⟩:=y;obtain⟨w,q,jG⟩:=((r.mono x hz).out o).get e';have:=hu vs (h.later hz x o).sk;rw[q] at this;cases this;have g:bf H' (upd H' a (.tup [.int i,u])):=bf.new hn;refine⟨g,?_⟩;rw[show ((0+i:Nat):Int)=(i:Int) by simp];exact .tup (.inl ⟨.inl jy,hS.nz hn⟩) (.cons (.int _) (.cons (jG.mono g.ext hS.lz) .nil))
theorem Qm(h:(Src.jT n).at i s=some o):∃xs,s[n]?=some (.lst xs)/\(xs[i]?.map λx=>D.tup [.int i,x])=o:=by
 unfold Src.at at h;dsimp only at h;cases e:s[n]? with
 |none=>rw[e] at h;cases h
 |some ob=>
  rw[e] at h;cases ob with
  |lst xs=>exact⟨xs,rfl,cj h⟩
  |_=>cases h
theorem jh.jT{a:Addr}{n:Nat}(h:U.l[n]?=some a):jh K cA (.jT n) U H (Ite K true a):=by
 refine⟨λU' H₁ H' s' i x o hS e=>?_,λU' H₁ H' s' i d x o hS e=>?_,λU' H₁ H' s' i d v H2 x o hS e y=>?_⟩
 ·obtain⟨xs,e1,e2⟩:=Qm e;rw[Option.map_eq_none_iff] at e2;obtain⟨vs,q1,q2⟩:=hS.obj n _ a e1 (x.get h);exact⟨vs,cL.of q1,oh.mp (q2.none e2)⟩
 ·obtain⟨xs,e1,e2⟩:=Qm e;obtain⟨d',e',_⟩:=jZ.mp e2;obtain⟨vs,q1,q2⟩:=hS.obj n _ a e1 (x.get h);obtain⟨v,q3,_⟩:=q2.get e';exact⟨vs,v,cL.of q1,q3⟩
 ·obtain⟨xs,e1,e2⟩:=Qm e;obtain⟨d',e',rfl⟩:=jZ.mp e2;obtain⟨vs,q1,q2⟩:=hS.obj n _ a e1 (x.get h);obtain⟨w,q3,jG⟩:=q2.get e';obtain⟨b,u,hn,rfl,rfl,hu⟩:=y;have:=hu vs (cL.of q1);rw[q3] at this;cases this;have g:bf H' (upd H' b (.tup [.int i,w])):=bf.new hn;exact⟨g,.tup (.inl ⟨.inl jy,hS.nz hn⟩) (.cons (.int _) (.cons (jG.mono g.ext hS.lz) .nil))⟩
end
section
variable {X:Cx}{cA:Cl}{aq:Nat->Nat->Bool}{aj:Bool}{F:Fn}{EX:XS}{a b:Expr}{A B:E}{pos pp tpos:Pos}{elts:List Expr}{kk:Nat}
theorem ziF(nW:Gl X "enumerate")(hmg:X.mg "enumerate"=none)(hb:SE X cA aq aj F EX b B)(h2:starEach [b] X.env=(false,eval b X.env)::starEach [] X.env) :
  SI X cA aq aj F EX (.Tuple elts kk tpos) (.Call (.Name "enumerate" pp) [b] [] pos) (.enum B):=PI.weak (ziu nW hmg (qG hb wj h2) (by rw[h2];rfl)) λZ H R hh=>un hh λU J s hL hS h=>by
 refine aW hL hS h λy H2 U2 d2 s2 x2 hL2 aR r2 h2=>?_;cases r2 with
 |@l n ad hl=>
  unfold Run mO at h2;dsimp only at h2;cases e:s2[n]? with
  |none=>rw[e] at h2;exact h2.elim
  |some o=>
   rw[e] at h2;cases o with
   |lst xs=>
    obtain⟨vs,q1,q2⟩:=aR.obj n _ _ e hl;exact⟨true,_,_,rfl,cL.of q1,h2 U2 H2 Ext.refl aR _ (jh.jT hl)⟩
   |_=>exact h2.elim
 |d r2=>
  cases r2 with
  |fl q r=>exact⟨true,_,_,rfl,q.qL,h2 U2 H2 Ext.refl aR _ (jh.enum (kd:=true) aR.lz q r)⟩
  |tup q r=>exact⟨false,_,_,rfl,q.iY,h2 U2 H2 Ext.refl aR _ (jh.enum (kd:=false) aR.lz q r)⟩
  |_=>exact h2.elim
theorem Xa:∀(ns:List Str) (vs:List V),((ns.zip vs).map (·.1)).Sublist ns
 |[],vs=>by simp
 |n::ns,[]=>by simp
 |n::ns,v::vs=>by
  rw[Ca,jk];exact(Xa ns vs).cons₂ n
theorem zeN:∀{ns:List Str} {vs:List V} {i:Nat} {x:Str} {v:V},ns.Nodup->ns[i]?=some x->vs[i]?=some v->(ns.zip vs).lookup x=some v
 |ns,vs,i,x,v,hn,h1,h2=>by
  refine Vn ?_ (zh3 h1 h2);exact List.Sublist.nodup (Xa ns vs) hn
end
section
variable {X:Cx}{cA:Cl}{aq:Nat->Nat->Bool}{aj:Bool}{F:Bool->Fn}{EX:XS}{e:Expr}{es:List Expr}{Xs:Es}{pos p:Pos}{x:Str}
end
section
variable {X:Cx}{cA:Cl}{aq:Nat->Nat->Bool}{aj:Bool}{F:Fn}{EX:XS}{a b:Expr}{A B:E}{pos p tpos:Pos}{elts:List Expr}{kk:Nat}
theorem Xb(hmg:X.mg "enumerate"=none)(nW:JK X "enumerate" .globalImplicit)(hb:JE X cA aq aj F EX b B)(h2:aD b=true:=by rfl):JI X cA aq aj F EX (.Tuple elts kk tpos) (.Call (.Name "enumerate" p) [b] [] pos) (.enum B):=⟨ziF nW.o hmg hb.o (aY h2)⟩
end
end Mi
namespace Mi
open PySem PySem.Spec PyProof.Rows L2 PySem.W
theorem zjj{fd:FuncData}{q:Str}{st:Stmt}(h:lR fd=xU q st):fd=fnOf "__init__" q (aP st) (aK st) (au st) .none fd.kwdefaults fd.doc fd.pyModule fd.annotations fd.code fd.closureTuple:=by
 cases fd;unfold lR xU at h;cases h;rfl
structure Gx(K:Frag)(C:Addr)(q:Str)(st:Stmt):Prop where
 ex:∃(fI:Addr) (od:Option Addr) (kV doc pm:Value) (an:Option Addr) (cdv ct:Value) (osl:Array (Option Value)) (cd:ClassData),
  K.lookup fI=some ⟨.type "function",od,.func (fnOf "__init__" q (aP st) (aK st) (au st) .none kV doc pm an cdv ct),osl⟩/\codeIn K cdv q=true/\qR K C fI=true/\clsIn K C=some cd/\qQ cd.mro=true/\cd.hasDict=true
theorem zmU{K:Frag}{C:Addr}{q:Str}{st:Stmt}(h:(Cz K C).map lR=some (xU q st)):Gx K C q st:=by
 cases e:Cz K C with
 |none=>rw[e] at h;cases h
 |some fd=>
  rw[e] at h;have hp:lR fd=xU q st:=cj h;unfold Cz at e;split at e
  ·rename_i cd jz;split at e
   ·rename_i f hf;split at e
    ·rename_i od fd' sl hl;split at e
     ·rename_i hc;cases e;simp only[gF] at hc;obtain⟨⟨⟨c1,c2⟩,c3⟩,c4⟩:=hc;have eq:=zjj hp;have qn:fd.qualname=q:=by rw[eq]
      refine⟨⟨f,od,fd.kwdefaults,fd.doc,fd.pyModule,fd.annotations,fd.code,fd.closureTuple,sl,cd,?_,by rw[<-qn];exact c1,c2,jz,c3,c4⟩⟩;rw[<-eq];exact hl
     ·cases e
    ·cases e
   ·cases e
  ·cases e
theorem zl3{K:Frag}{C:Addr}{f:Str}(h:Iv K C f=true):XF K C f:=by
 unfold Iv at h;simp only[gF,m5] at h;obtain⟨⟨⟨⟨h1,h2⟩,h3⟩,h4⟩,h5⟩:=h;exact⟨h1,h2,h3,h4,h5⟩
structure mW(fs:List (Str×Stmt))(ms:List qU)(xs:List (Nat×Str))(l:Lk)(K:Frag):Prop where
 fn:∀p∈fs,FnAt K p.1 p.2
 gd:wU l K
 mi:∀m∈ms,Gx K (gZ (l.L K) m.c) m.q m.st
 se:∀m∈ms,setB K (gZ (l.L K) m.c) m.fs=true
 xf:∀x∈xs,XF K (gZ (l.L K) x.1) x.2
theorem Qn{a:Nat}{o:Obj}:∀{l:List Obj} {i:Nat},((a:Addr),o)∈CG i l->i<=a/\l[a-i]?=some o/\o.isFreed=false
 |[],i,h=>by cases h
 |p::r,i,h=>by
  unfold CG at h;split at h
  ·obtain⟨h1,h2,h3⟩:=Qn h;refine⟨by lia,?_,h3⟩;rw[show a-i=(a-(i+1))+1 by lia];exact h2
  ·rename_i hf;rcases jd.mp h with e|h
   ·cases e;exact⟨bJ _,by simp,hf⟩
   ·obtain⟨h1,h2,h3⟩:=Qn h;refine⟨by lia,?_,h3⟩;rw[show a-i=(a-(i+1))+1 by lia];exact h2
theorem Xc:∀{K:Frag},K.lookup a=some o->(a,o)∈K
 |[],h=>by cases h
 |(b,p)::r,h=>by
  rw[m_] at h;by_cases e:a=b
  ·subst e;simp only[xH] at h;cases h;exact j8
  ·rw[show (a==b)=false by simpa using e] at h;exact gQ _ (Xc h)
theorem zhb:(bK h).In h:=λa o e=>by
 have hm:=Xc e;unfold bK at hm;rcases nj.mp hm with z|z
 ·unfold oF at z;split at z
  ·rename_i p hp;rcases jd.mp z with e|z
   ·cases e;exact hp
   ·cases z
  ·cases z
 ·obtain⟨_,h2,h3⟩:=Qn (List.mem_reverse.mp z);rw[Heap.get?_some_iff];refine⟨?_,h3⟩;have:h.objs.toList[a]?=some o:=by simpa using h2
  simpa using this
end Mi
namespace Mi
open PySem PySem.Spec PyProof.Rows L2
section
variable {K:W.Frag}{cA:Cl}{U:Ph}{H:Hp}
noncomputable def iI(K:W.Frag)(U:Ph)(H:Hp):Bool->Addr->List V->Prop
 |true,a,vs=>LstAt K U H a vs
 |false,a,vs=>TupAt K U H a vs
theorem iI.sk{kd:Bool}{a:Addr}{vs:List V}(h:iI K U H kd a vs):Sk kd K H a vs:=by
 cases kd
 ·exact TupAt.iY h
 ·exact LstAt.qL h
theorem iI.later{kd:Bool}{a:Addr}{vs:List V}{U':Ph}{H₁ H':Hp}(hz:∀a∈U.l,U.z a)(h:iI K U H kd a vs)(x:Ext U H U' H₁)(o:cP U' H₁ H'):iI K U' H' kd a vs:=by
 cases kd
 ·exact TupAt.later hz h x o
 ·exact LstAt.later hz h x o
theorem Qo{xs ys:List D}{i:Nat}:(List.zipWith (λp q=>D.tup [p,q]) xs ys)[i]?=match xs[i]?,ys[i]? with
  |some p,some q=>some (.tup [p,q])
  |_,_=>none:=by
 rw[List.getElem?_zipWith];cases xs[i]?<;>cases ys[i]?<;>rfl
theorem jh.zip{k1 k2:Bool}{l1 l2:Addr}{xs ys:List D}{us vs:List V}(hz:∀a∈U.l,U.z a)(h1:iI K U H k1 l1 us)(h2:iI K U H k2 l2 vs)(r1:aB K cA U H xs us)(r2:aB K cA U H ys vs):jh K cA (.fix (List.zipWith (λp q=>D.tup [p,q]) xs ys)) U H (Ol K k1 k2 l1 l2):=by
 refine⟨λU' H₁ H' s' i x o hS e=>?_,λU' H₁ H' s' i d x o hS e=>?_,λU' H₁ H' s' i d v H2 x o hS e y=>?_⟩
 ·have e:(List.zipWith (λp q=>D.tup [p,q]) xs ys)[i]?=none:=cj e;rw[Qo] at e;refine⟨us,vs,(h1.later hz x o).sk,(h2.later hz x o).sk,?_⟩;cases ex:xs[i]? with
  |none=>exact .inl (oh.mp (r1.none ex))
  |some p=>
   cases ey:ys[i]? with
   |none=>exact .inr (oh.mp (r2.none ey))
   |some q=>rw[ex,ey] at e;cases e
 ·have e:(List.zipWith (λp q=>D.tup [p,q]) xs ys)[i]?=some d:=cj e;rw[Qo] at e;cases ex:xs[i]? with
  |none=>rw[ex] at e;cases e
  |some p=>
   cases ey:ys[i]? with
   |none=>rw[ex,ey] at e;cases e
   |some q=>
    obtain⟨u,q1,_⟩:=r1.get ex;obtain⟨v,q2,_⟩:=r2.get ey;exact⟨us,vs,u,v,(h1.later hz x o).sk,(h2.later hz x o).sk,q1,q2⟩
 ·have e:(List.zipWith (λp q=>D.tup [p,q]) xs ys)[i]?=some d:=cj e;rw[Qo] at e;cases ex:xs[i]? with
  |none=>rw[ex] at e;cases e
  |some p=>
   cases ey:ys[i]? with
   |none=>rw[ex,ey] at e;cases e
   |some q=>
    rw[ex,ey] at e;cases e;obtain⟨a,u,w,hn,rfl,rfl,hu,hw⟩:=y;obtain⟨u',q1,ru⟩:=((r1.mono x hz).out o).get ex;obtain⟨w',q2,jG⟩:=((r2.mono x hz).out o).get ey;have e1:=hu us (h1.later hz x o).sk;have e2:=hw vs (h2.later hz x o).sk;rw[q1] at e1;rw[q2] at e2;cases e1;cases e2;have g:bf H' (upd H' a (.tup [u,w])):=bf.new hn;exact⟨g,.tup (.inl ⟨.inl jy,hS.nz hn⟩) (.cons (ru.mono g.ext hS.lz) (.cons (jG.mono g.ext hS.lz) .nil))⟩
theorem Xd(r:aV K cA U H x v)(h:Run K cA (M.bd (nP x) k) U H s P Ee) :
  ∃xs kd a vs,v=.ref a/\iI K U H kd a vs/\aB K cA U H xs vs/\Run K cA (k xs) U H s P Ee:=by
 cases r with
 |l _=>exact h.elim
 |d r=>
  cases r with
  |tup q r=>exact⟨_,false,_,_,rfl,q,r,h⟩
  |fl q r=>exact⟨_,true,_,_,rfl,q,r,h⟩
  |_=>exact h.elim
end
section
variable {X:Cx}{cA:Cl}{aq:Nat->Nat->Bool}{aj:Bool}{F:Fn}{EX:XS}{a b:Expr}{A B:E}{pos pp tpos:Pos}{elts:List Expr}{kk:Nat}
theorem zkm(nW:Gl X "zip")(hmg:X.mg "zip"=none)(ha:SE X cA aq aj F EX a A)(hb:SE X cA aq aj F EX b B)(h1:starEach [a,b] X.env=(false,eval a X.env)::starEach [b] X.env)(h2:starEach [b] X.env=(false,eval b X.env)::starEach [] X.env) :
  SI X cA aq aj F EX (.Tuple elts kk tpos) (.Call (.Name "zip" pp) [a,b] [] pos) (.zip A B):=PI.weak (zlb nW hmg (qG ha (qG hb wj h2) h1) (by rw[h1,h2];rfl) (by rw[h2];rfl)) λZ H R hh=>un hh λU J s hL hS h=>by
 refine aW hL hS h λx H1 U1 d1 s1 x1 hL1 aJ r1 h1=>aW hL1 aJ h1 λy H2 U2 d2 s2 x2 hL2 aR r2 h2=>?_;obtain⟨xs,k1,l1,us,e1,q1,p1,h3⟩:=Xd (r1.mono x2 aJ.lz) h2;obtain⟨ys,k2,l2,vs,e2,q2,p2,h4⟩:=Xd r2 h3;subst e1 e2;exact⟨k1,k2,l1,l2,us,vs,rfl,q1.sk,q2.sk,(h4.bC aR) _ (jh.zip aR.lz q1 q2 p1 p2)⟩
theorem zmK(hmg:X.mg "zip"=none)(nW:JK X "zip" .globalImplicit)(ha:JE X cA aq aj F EX a A)(hb:JE X cA aq aj F EX b B)(h1:aD a=true:=by rfl)(h2:aD b=true:=by rfl):JI X cA aq aj F EX (.Tuple elts kk tpos) (.Call (.Name "zip" p) [a,b] [] pos) (.zip A B):=⟨zkm nW.o hmg ha.o hb.o (aY h1) (aY h2)⟩
end
section
variable {K:W.Frag}{cA:Cl}{U:Ph}{H:Hp}
end
section
variable {X:Cx}
end
section
variable {X:Cx}{cA:Cl}{aq:Nat->Nat->Bool}{aj:Bool}{F:Fn}{EX:XS}{e:Expr}{pos p:Pos}{es:List Expr}{Xs:Es}{fz:Bool}
end
noncomputable def Bq(i:Int)(n:Nat):List V:=(List.range n).map λk=>.int (i+(k:Nat))
theorem zjs{i:Int}{acc:Array Value}:∀{n m:Nat},(∀k v,acc.toList[k]?=some (v:Value)->∃t,v=Value.int (i+((m+k:Nat):Int)) t)->acc.toList.length=n->Vals ((List.range n).map λk=>V.int (i+((m+k:Nat):Int))) acc.toList:=by
 generalize acc.toList=l
 induction l with
 |nil=>intro n m _ e;subst e;exact .nil
 |cons v l ih=>
  intro n m h e;subst e;rw[gD,Li,jk,qC];refine .cons (h 0 v rfl) ?_;have:=ih (n:=l.length) (m:=m+1) (λk v e=>by
   have:=h (k+1) v e;rw[show m+1+k=m+(k+1) by lia];exact this) rfl
  have e:((λk=>V.int (i+((m+k:Nat):Int)))∘Nat.succ)=λk=>V.int (i+((m+1+k:Nat):Int)):=by
   funext k
   show V.int (i+((m+(k+1):Nat):Int))=_;rw[show m+(k+1)=m+1+k by lia]
  rw[e];exact this
section
variable {X:Cx}
end
section
variable {K:W.Frag}{cA:Cl}{U:Ph}{H:Hp}
theorem Xe:∀l:List Nat,aB K cA U H (l.map λk=>D.int (i+(k:Nat))) (l.map λk=>V.int (i+(k:Nat)))
 |[]=>.nil
 |_::l=>.cons (.int _) (Xe l)
end
section
variable {X:Cx}{cA:Cl}{aq:Nat->Nat->Bool}{aj:Bool}{F:Fn}{EX:XS}{e:Expr}{pos pos' p p':Pos}{es:List Expr}{Xs:Es}{fz:Bool}
end
end Mi
namespace Mi
open PySem PySem.Spec PyProof.Rows L2 PySem.W
structure D3(K:Frag)(mg:Str->Option Value)(x:Str)(st:Stmt)(ps:List Str):Prop where
 f:mQ K x x st (gO K x) (fdOf K x st)
 m:mg x=some (.ref (gO K x))
 b:Binds K (fdOf K x st) ps []
theorem dk{p:Prop}(h:p:=by decide +kernel):p:=h
section
variable {fs:List (Str×Stmt)}{ms:List qU}{xs:List (Nat×Str)}{lk:Lk}{K:Frag}{h:Heap}{mg:Str->Option Value}{x:Str}{st:Stmt}
theorem sE(S:mW fs ms xs lk K)(X:K.In h)(G:h.Ns mainGlobals mg)(j:Nat)(hj:fs[j]?=some (x,st):=by rfl)(hb:∀(kV doc pm:Value) (an:Option Addr) (cdv ct a:Value),bindArgs (fnOf x x (aP st) (aK st) (au st) .none kV doc pm an cdv ct) ⟨[a],[]⟩=pure [(p,a)]:=by intros;rfl):D3 K mg x st [p]:=have F:=S.fn (x,st) (fB hj);⟨F.fn,F.m X G,vB F.fn hb⟩
theorem qj(S:mW fs ms xs lk K)(X:K.In h)(G:h.Ns mainGlobals mg)(j:Nat)(hj:fs[j]?=some (x,st):=by rfl)(hb:∀(kV doc pm:Value) (an:Option Addr) (cdv ct a b:Value),bindArgs (fnOf x x (aP st) (aK st) (au st) .none kV doc pm an cdv ct) ⟨[a,b],[]⟩=pure [(p,a),(q,b)]:=by intros;rfl):D3 K mg x st [p,q]:=have F:=S.fn (x,st) (fB hj);⟨F.fn,F.m X G,vC F.fn hb⟩
theorem ql(S:mW fs ms xs lk K)(X:K.In h)(G:h.Ns mainGlobals mg)(j:Nat)(hj:fs[j]?=some (x,st):=by rfl)(hb:∀(kV doc pm:Value) (an:Option Addr) (cdv ct a b c:Value),bindArgs (fnOf x x (aP st) (aK st) (au st) .none kV doc pm an cdv ct) ⟨[a,b,c],[]⟩=pure [(p,a),(q,b),(t,c)]:=by intros;rfl):D3 K mg x st [p,q,t]:=have F:=S.fn (x,st) (fB hj);⟨F.fn,F.m X G,vD F.fn hb⟩
theorem Qp(S:mW fs ms xs lk K)(X:K.In h)(G:h.Ns mainGlobals mg)(j:Nat)(hj:fs[j]?=some (x,st):=by rfl)(hb:∀(kV doc pm:Value) (an:Option Addr) (cdv ct a b c d:Value),bindArgs (fnOf x x (aP st) (aK st) (au st) .none kV doc pm an cdv ct) ⟨[a,b,c,d],[]⟩=pure [(p,a),(q,b),(t,c),(u,d)]:=by intros;rfl):D3 K mg x st [p,q,t,u]:=have F:=S.fn (x,st) (fB hj);⟨F.fn,F.m X G,vG F.fn hb⟩
theorem mG{α:Type}{l:List α}{a:α}(j:Nat)(h:l[j]?=some a:=by rfl):a∈l:=fB h
end
end Mi
namespace Mi
open PySem PySem.Spec PyProof.Rows L2
section
variable {X:Cx}{cA:Cl}
end
section
variable {X:Cx}{cA:Cl}{aq:Nat->Nat->Bool}{aj:Bool}{F:Fn}{EX:XS}{e:Expr}{pos p:Pos}{es:List Expr}{Xs:Es}{fz:Bool}
end
end Mi
namespace Mi
open PySem
def W{α:Type}(m:M α)(s:S)(P:α->S->Prop):Prop:=∃a s',m s=some (.ok a,s')/\P a s'
def WS(m:MS)(s:S)(Q:Out->S->Prop):Prop:=∃o s',m s=some (o,s')/\Q o s'
section
variable {α β:Type}{m:M α}{k:α->M β}{s:S}{P:α->S->Prop}{R:β->S->Prop}
theorem W.bd(h:W m s λa s'=>W (k a) s' R):W (M.bd m k) s R:=by
 obtain⟨a,s',e,b,s2,e2,r⟩:=h;exact⟨b,s2,by unfold M.bd;rw[e];exact e2,r⟩
theorem W.ret{a:α}(h:P a s):W (M.ret a) s P:=⟨a,s,rfl,h⟩
theorem W.qt(h:W m s P):W (M.qt m) s P:=by
 obtain⟨a,s',e,p⟩:=h;exact⟨a,s',by unfold M.qt;rw[e],p⟩
theorem W.opt(e:o=some a)(h:P a s):W (M.opt o) s P:=by subst e;exact⟨a,s,rfl,h⟩
theorem W.imp{P':α->S->Prop}(h:W m s P)(f:∀a s',P a s'->P' a s'):W m s P':=let ⟨a,s',e,p⟩:=h;⟨a,s',e,f a s' p⟩
theorem W.eq(e:m s=some (.ok a,s'))(p:P a s'):W m s P:=⟨a,s',e,p⟩
theorem Ka1{d:D}{P:D->S->Prop}(h:P d s):W (rd (.d d)) s P:=⟨d,s,rfl,h⟩
theorem Xf{n:Nat}{xs:List D}{P:D->S->Prop}(e:s[n]?=some (.lst xs))(h:P (.fl xs) s):W (rd (.l n)) s P:=⟨.fl xs,s,by unfold rd;simp only[e],h⟩
theorem Ka4{P:List D->S->Prop}(h:P [] s):W (gj []) s P:=⟨[],s,rfl,h⟩
theorem Ka3{x:Xv}{r:List Xv}{P:List D->S->Prop}(h:W (rd x) s λd s1=>W (gj r) s1 λds s2=>P (d::ds) s2):W (gj (x::r)) s P:=W.bd (h.imp λd s1 h1=>W.bd (h1.imp λds s2 h2=>W.ret h2))
theorem Xg{P:List D->S->Prop}(h:P [] s):W (bW []) s P:=⟨[],s,rfl,h⟩
theorem Qq{d:D}{r:List Xv}{P:List D->S->Prop}(h:W (bW r) s λds s2=>P (d::ds) s2):W (bW (.d d::r)) s P:=W.bd (W.ret (W.bd (h.imp λds s2 h2=>W.ret h2)))
theorem W.dat{x:D}{P:D->S->Prop}(h:P x s):W (dat (.d x)) s P:=⟨x,s,rfl,h⟩
theorem W.bool{b:Bool}{P:Bool->S->Prop}(h:P b s):W (bool (.d (.bl b))) s P:=⟨b,s,rfl,h⟩
theorem W.int{b:Int}{P:Int->S->Prop}(h:P b s):W (int (.d (.int b))) s P:=⟨b,s,rfl,h⟩
theorem fO{fz:Bool}{o:Option Rz}{d:D}{P:Xv->S->Prop}(e:o=some (.dat d))(h:P (.d d) s):W (bV fz o) s P:=by subst e;exact⟨_,s,rfl,h⟩
theorem Gy{o:Option Rz}{xs:List D}{P:Xv->S->Prop}(e:o=some (.nw xs))(h:P (.d (.fl xs)) s):W (bV true o) s P:=by subst e;exact⟨_,s,rfl,h⟩
theorem KaR{xs:List D}{P:Xv->S->Prop}(h:P (.d (.fl xs)) s):W (newL true xs) s P:=⟨_,s,rfl,h⟩
theorem KaQ{xs:List D}{P:Xv->S->Prop}(h:P (.l s.length) (s++[.lst xs])):W (newL false xs) s P:=⟨_,_,rfl,h⟩
theorem m8{F:List Xv->M Xv}{xs:List Xv}{P:Xv->S->Prop}(hl:locs xs=[])(h:W (F (cY 0 xs)) [] λv _=>∃d,v=.d d/\P (.d d) s):W (bZ F xs) s P:=by
 obtain⟨v,s1,e,d,rfl,p⟩:=h;refine⟨.d d,s,?_,p⟩;unfold bZ;rw[hl,if_pos Af];simp only[iW,e,cO]
theorem Kan{F:List Xv->M Xv}{xs:List Xv}{P:Xv->S->Prop}(hl:locs xs=[])(h:W (F (cY 0 xs)) [] λv s1=>∃n o,v=.l n/\s1[n]?=some o/\P (.l s.length) (s++[o])):W (bZ F xs) s P:=by
 obtain⟨v,s1,e,n,o,rfl,eo,p⟩:=h;refine⟨.l s.length,s++[o],?_,p⟩;unfold bZ;rw[hl,if_pos Af];simp only[iW,e,cO,List.getElem?_nil,eo]
theorem Qs{F:List Xv->M Xv}{xs:List Xv}{n:Nat}{o:SO}{P:Xv->S->Prop}(hl:locs xs=[n])(ho:s[n]?=some o)(h:W (F (cY 0 xs)) [o] λv s1=>∃d o',v=.d d/\s1=[o']/\P (.d d) (s.set n o')):W (bZ F xs) s P:=by
 obtain⟨v,s1,e,d,o',rfl,rfl,p⟩:=h;refine⟨.d d,s.set n o',?_,p⟩;unfold bZ;rw[hl,if_pos (by simp)];simp only[iW,ho,e,cO]
end
section
variable {s:S}{Q:Out->S->Prop}
theorem WS.ofM(h:W m s λa s'=>WS (k a) s' Q):WS (Mi.ofM m J k) s Q:=by
 obtain⟨a,s',e,o,s2,e2,q⟩:=h;exact⟨o,s2,by unfold Mi.ofM;rw[e];exact e2,q⟩
theorem WS.nx(h:Q (.nx J) s):WS (λs=>some (.nx J,s)) s Q:=⟨_,s,rfl,h⟩
theorem WS.rt(h:Q (.rt x) s):WS (λs=>some (.rt x,s)) s Q:=⟨_,s,rfl,h⟩
theorem WS.imp(h:WS m s Q)(f:∀o s',Q o s'->Q' o s'):WS m s Q':=let ⟨a,s',e,p⟩:=h;⟨a,s',e,f a s' p⟩
end
theorem W.call(hT:T f=some d)(hl:xs.length=d.gM)
  (h:WS (exs aq aj (λc=>Mi.call aq T k c) d.body (xs.map some++List.replicate (d.many-d.gM) none)) s λo s'=>match o with|.nx _=>P (.d .non) s'|.rt v=>P v s'|_=>False):W (Mi.call aq T (k+1) aj f xs) s P:=by
 obtain⟨o,s',e,q⟩:=h;unfold Mi.call;simp only[hT,if_pos hl];unfold W;simp only[e];cases o with
 |nx J=>exact⟨_,_,rfl,q⟩
 |rt v=>exact⟨_,_,rfl,q⟩
 |bk J=>exact q.elim
 |ct J=>exact q.elim
 |er c fs J=>exact q.elim
theorem Br(I:Nat->Vs->S->Prop)(h0:I 0 J s)(hb:∀i x J s,c[i]?=some x->I i J s->WS (b x J) s λo s'=>∃J',o=.nx J'/\I (i+1) J' s')
  (he:∀J s,I c.length J s->Q (.nx J) s):WS (dh (.fix c) b (c.length+1) 0 J) s Q:=by
 have key:∀n i J s,i+n=c.length->I i J s->WS (dh (.fix c) b (n+1) i J) s Q:=by
  intro n
  induction n with
  |zero=>
   intro i J s hi hI;have e:c[i]?=none:=by rw[oh];lia
   have:i=c.length:=by lia
   subst this;refine⟨_,s,?_,he J s hI⟩;unfold dh;simp only[Src.at,e]
  |succ n ih=>
   intro i J s hi hI;have dD:i<c.length:=by lia
   have e:c[i]?=some c[i]:=dj dD;obtain⟨o,s',eb,J',rfl,Gz⟩:=hb i c[i] J s e hI;obtain⟨o2,s2,e2,q⟩:=ih (i+1) J' s' (by lia) Gz;refine⟨o2,s2,?_,q⟩;unfold dh;simp only[Src.at,e,eb];exact e2
 exact key c.length 0 J s (by lia) h0
theorem zmL{i j:Int}(h:(-(2^64)<i/\i<2^64)\/(-(2^64)<j/\j<2^64)):prim .mul [.int i,.int j]=some (.dat (.int (i*j))):=by
 show Option.map _ (if _ then _ else _)=_;rw[if_pos h];rfl
theorem zl7{i j:Int}(h:0<j):prim .mod [.int i,.int j]=some (.dat (.int (i%j))):=by
 show Option.map _ (if _ then _ else _)=_;rw[if_pos h];rfl
theorem zlm{i j:Int}(h:0<j/\j<1073741824):prim .fdiv [.int i,.int j]=some (.dat (.int (i/j))):=by
 show Option.map _ (if _ then _ else _)=_;rw[if_pos h];rfl
theorem zgN{i j:Int}(h:0<j/\j<1073741824):prim .divmod [.int i,.int j]=some (.dat (.tup [.int (i/j),.int (i%j)])):=by
 show Option.map _ (if _ then _ else _)=_;rw[if_pos h];rfl
theorem zl8{i j:Int}(h:0<=j/\j<=1000000/\i.natAbs<2^64):prim .pow [.int i,.int j]=some (.dat (.int (i^j.toNat))):=by
 show Option.map _ (if _ then _ else _)=_;rw[if_pos h];rfl
theorem GC{xs:List D}{i:Nat}{x:D}(h:xs[i]?=some x):prim .ix [.fl xs,.int i]=some (.dat x):=by
 show Option.map Rz.dat (L2.oM xs i)=_;have:L2.oM xs (i:Int)=some x:=by
  unfold L2.oM L2.pP;have hl:i<xs.length:=(eO.mp h).1;simp[hl];exact(eO.mp h).2
 rw[this];rfl
theorem Xh(h:xs.length+ys.length<=sizeLine):prim .add [.fl xs,.fl ys]=some (.nw (xs++ys)):=by
 show (if _ then _ else _)=_;rw[if_pos h]
theorem W.ite[Decidable c](h1:c->W m1 s P)(h2:¬c->W m2 s P):W (if c then m1 else m2) s P:=by
 by_cases h:c
 ·rw[if_pos h];exact h1 h
 ·rw[if_neg h];exact h2 h
theorem WS.ite[Decidable c](h1:c->WS m1 s P)(h2:¬c->WS m2 s P):WS (if c then m1 else m2) s P:=by
 by_cases h:c
 ·rw[if_pos h];exact h1 h
 ·rw[if_neg h];exact h2 h
theorem Qt{n:Nat}{xs:List D}{s:S}{P:Unit->S->Prop}(h:P () (s.set n (.lst xs))):W (putL n xs) s P:=⟨_,_,rfl,h⟩
theorem W.cH{n:Nat}{xs:List D}{s:S}{P:Nat×List D->S->Prop}(e:s[n]?=some (.lst xs))(h:P (n,xs) s):W (cH (.l n)) s P:=⟨_,s,by unfold Mi.cH;simp only[e],h⟩
theorem Ka6{xs:List D}{s:S}{P:Src×Nat->S->Prop}(h:P (.fix xs,xs.length) s):W (src (.d (.tup xs))) s P:=⟨_,s,rfl,h⟩
theorem Ka5{xs:List D}{s:S}{P:Src×Nat->S->Prop}(h:P (.fix xs,xs.length) s):W (src (.d (.fl xs))) s P:=⟨_,s,rfl,h⟩
theorem WS.nil{aq:Nat->Nat->Bool}{aj:Bool}{F:Bool->Fn}{J:Vs}{s:S}{Q:Out->S->Prop}(h:Q (.nx J) s):WS (exs aq aj F .nil J) s Q:=⟨_,s,rfl,h⟩
theorem WS.cons{aq:Nat->Nat->Bool}{aj:Bool}{F:Bool->Fn}{a:St}{r:bM}{J:Vs}{s:S}{Q:Out->S->Prop}(h:WS (ex aq aj F a J) s λo s'=>match o with|.nx J'=>WS (exs aq aj F r J') s' Q|.rt x=>Q (.rt x) s'|_=>False):WS (exs aq aj F (.cons a r) J) s Q:=by
 obtain⟨o,s',e,q⟩:=h;unfold WS exs Mi.b_;rw[e];cases o with
 |nx J'=>exact q
 |rt x=>exact⟨_,_,rfl,q⟩
 |bk _=>exact q.elim
 |ct _=>exact q.elim
 |er _ _ _=>exact q.elim
def sG{α:Type}(o:Option α)(P:α->Prop):Prop:=∃a,o=some a/\P a
theorem sG.mk{α:Type}{o:Option α}{P:α->Prop}{a:α}(e:o=some a)(h:P a):sG o P:=⟨a,e,h⟩
section
variable {aq:Nat->Nat->Bool}{aj:Bool}{F:Fn}{J:Vs}{s:S}{P:Xv->S->Prop}
theorem W.eC{d:D}(h:P (.d d) s):W (ev aq aj F (.c d) J) s P:=W.ret h
theorem W.eV{i:Nat}{x:Xv}(e:J[i]?.join=some x)(h:P x s):W (ev aq aj F (.v i) J) s P:=W.opt e h
theorem Xi{fz:Bool}{p:Pr}{xs:Es}(h:W (evs aq aj F xs J) s λvs s1=>W (gj vs) s1 λds s2=>W (bV fz (prim p ds)) s2 P):W (ev aq aj F (.pr fz p xs) J) s P:=W.bd (h.imp λ_ _ h=>W.bd h)
theorem Kay{a b:E}(h:W (ev aq aj F a J) s λx s1=>W (Mi.bool x) s1 λk s2=>W (if k=true then ev aq aj F b J else M.ret (.d (.bl false))) s2 P):W (ev aq aj F (.and a b) J) s P:=W.bd (h.imp λ_ _ h=>W.bd h)
theorem KaG{a b:E}(h:W (ev aq aj F a J) s λx s1=>W (Mi.bool x) s1 λk s2=>W (if k=true then M.ret (.d (.bl true)) else ev aq aj F b J) s2 P):W (ev aq aj F (.or a b) J) s P:=W.bd (h.imp λ_ _ h=>W.bd h)
theorem KaF{a:E}(h:W (ev aq aj F a J) s λx s1=>W (Mi.bool x) s1 λk s2=>P (.d (.bl (!k))) s2):W (ev aq aj F (.not a) J) s P:=W.bd (h.imp λ_ _ h=>W.bd (h.imp λ_ _ h=>W.ret h))
theorem KaJ{xs:Es}(h:W (evs aq aj F xs J) s λvs s1=>W (bW vs) s1 λds s2=>P (.d (.tup ds)) s2):W (ev aq aj F (.tup xs) J) s P:=W.bd (h.imp λ_ _ h=>W.bd (h.imp λ_ _ h=>W.ret h))
theorem KaE{fz:Bool}{xs:Es}(h:W (evs aq aj F xs J) s λvs s1=>W (bW vs) s1 λds s2=>W (newL fz ds) s2 P):W (ev aq aj F (.lst fz xs) J) s P:=W.bd (h.imp λ_ _ h=>W.bd h)
theorem KaB{k:Str}{i:Int}(h:P (.d (.fd [.str k] [.int i])) s):W (ev aq aj F (.EY k i) J) s P:=W.ret h
theorem Xj{f:Nat}{xs:Es}(h:W (evs aq aj F xs J) s λvs s1=>W (bZ (F f) vs) s1 P):W (ev aq aj F (.call f xs) J) s P:=W.bd h
theorem KaI{fz:Bool}{a:E}{lo hi:Eo}(h:W (ev aq aj F a J) s λx s1=>W (uW aq aj F lo J) s1 λl s2=>W (uW aq aj F hi J) s2 λu s3=>W (rd x) s3 λd s4=>W (bV fz (cutD d l u)) s4 P):W (ev aq aj F (.sl fz a lo hi) J) s P:=W.bd (h.imp λ_ _ h=>W.bd (h.imp λ_ _ h=>W.bd (h.imp λ_ _ h=>W.bd h)))
theorem KaS{P:Option Int->S->Prop}(h:P none s):W (uW aq aj F .no J) s P:=W.ret h
theorem KaT{a:E}{P:Option Int->S->Prop}(h:W (ev aq aj F a J) s λx s1=>W (Mi.int x) s1 λi s2=>P (some i) s2):W (uW aq aj F (.yes a) J) s P:=W.bd (h.imp λ_ _ h=>W.bd (h.imp λ_ _ h=>W.ret h))
theorem Xk{P:List Xv->S->Prop}(h:P [] s):W (evs aq aj F .nil J) s P:=W.ret h
theorem Xl{a:E}{r:Es}{P:List Xv->S->Prop}(h:W (ev aq aj F a J) s λx s1=>W (evs aq aj F r J) s1 λxs s2=>P (x::xs) s2):W (evs aq aj F (.cons a r) J) s P:=W.bd (h.imp λ_ _ h=>W.bd (h.imp λ_ _ h=>W.ret h))
theorem KaO{a:E}{P:Src×Nat->S->Prop}(h:W (ev aq aj F a J) s λx s1=>W (src x) s1 P):W (lM aq aj F (.seq a) J) s P:=W.bd h
end
section
variable {aq:Nat->Nat->Bool}{aj:Bool}{F:Bool->Fn}{J:Vs}{s:S}{Q:Out->S->Prop}
theorem WS.Ka{b:Bool}{m1 m2:MS}(e:b=true)(h:WS m1 s Q):WS (if b=true then m1 else m2) s Q:=by rw[if_pos e];exact h
theorem WS.GD{b:Bool}{m1 m2:MS}(e:b=false)(h:WS m2 s Q):WS (if b=true then m1 else m2) s Q:=by rw[if_neg (by rw[e];decide)];exact h
theorem WS.wV{m1 m2:MS}(h:WS m1 s Q):WS (if true=true then m1 else m2) s Q:=by rw[if_pos rfl];exact h
theorem WS.Qu{m1 m2:MS}(h:WS m2 s Q):WS (if false=true then m1 else m2) s Q:=by rw[if_neg (by decide)];exact h
theorem Kbd{e:E}(h:W (ev aq aj (F aj) e J) s λ_ s1=>Q (.nx J) s1):WS (ex aq aj F (.ex e) J) s Q:=WS.ofM (h.imp λ_ _ h=>WS.nx h)
theorem Xm{i:Nat}{e:E}(h:W (ev aq aj (F aj) e J) s λx s1=>Q (.nx (J.set i (some x))) s1):WS (ex aq aj F (.asg (.nm i) e) J) s Q:=WS.ofM (h.imp λ_ _ h=>WS.nx h)
theorem Kbl{is:List Nat}{e:E}(h:W (ev aq true (F true) e J) s λx s1=>W (dat x) s1 λd s2=>sG ((jU d).bind λds=>gq is (ds.map .d) J) λJ'=>Q (.nx J') s2):WS (ex aq true F (.asg (.tp is) e) J) s Q:=by
 refine WS.ofM (h.imp λx s1 h=>?_);exact WS.wV (m2:=λ_=>none) (WS.ofM (W.bd (h.imp λd s2 ⟨J',e,q⟩=>W.opt e (WS.nx q))))
theorem Kbk{o i e:E}(h:W (ev aq aj (F aj) e J) s λx s1=>W (dat x) s1 λd s2=>W (ev aq aj (F aj) o J) s2 λy s3=>W (ev aq aj (F aj) i J) s3 λz s4=>W (Mi.int z) s4 λj s5=>W (cH y) s5 λnx s6=>sG (L2.pP nx.2.length j) λq=>Q (.nx J) (s6.set nx.1 (.lst (nx.2.set q d)))):WS (ex aq aj F (.asg (.aq o i) e) J) s Q:=by
 refine WS.ofM (h.imp λx s1 h=>WS.ofM (W.bd (h.imp λd s2 h=>W.bd (h.imp λy s3 h=>W.bd (h.imp λz s4 h=>W.bd (h.imp λj s5 h=>W.bd (h.imp λnx s6 h=>?_)))))));obtain⟨q,e,h⟩:=h;simp only[e];exact Qt (WS.nx h)
theorem Kbh{i j:Nat}{a b:E}(h:W (ev aq true (F true) a J) s λx s1=>W (ev aq true (F true) b J) s1 λy s2=>Q (.nx ((J.set i (some x)).set j (some y))) s2):WS (ex aq true F (.par i j a b) J) s Q:=by
 exact WS.wV (m2:=λ_=>none) (WS.ofM (W.bd (h.imp λx s1 h=>W.bd (h.imp λy s2 h=>W.ret (WS.nx h)))))
theorem Xn{e:E}(h:W (ev aq aj (F aj) e J) s λx s1=>Q (.rt x) s1):WS (ex aq aj F (.ret e) J) s Q:=WS.ofM (h.imp λ_ _ h=>WS.rt h)
theorem Xo{c:E}{t e:bM}(h:W (ev aq aj (F aj) c J) s λx s1=>W (Mi.bool x) s1 λb s2=>WS (if b=true then exs aq aj F t J else exs aq aj F e J) s2 Q):WS (ex aq aj F (.iff c t e) J) s Q:=WS.ofM (W.bd h)
theorem Kbe{t:Tg}{w:Wk}{b:bM}(h:W (lM aq true (F true) w J) s λcn s1=>WS (dh cn.1 (λd J=>Mi.b_ (store aq true (F true) t (.d d) J) λJ'=>exs aq true F b J') (cn.2+1) 0 J) s1 Q):WS (ex aq true F (.fr t w b) J) s Q:=by
 exact WS.wV (m2:=λ_=>none) (WS.ofM h)
end
theorem W.Ka{α:Type}{b:Bool}{m1 m2:M α}{s:S}{P:α->S->Prop}(e:b=true)(h:W m1 s P):W (if b=true then m1 else m2) s P:=by rw[if_pos e];exact h
theorem W.GD{α:Type}{b:Bool}{m1 m2:M α}{s:S}{P:α->S->Prop}(e:b=false)(h:W m2 s P):W (if b=true then m1 else m2) s P:=by rw[if_neg (by rw[e];decide)];exact h
theorem W.wV{α:Type}{m1 m2:M α}{s:S}{P:α->S->Prop}(h:W m1 s P):W (if true=true then m1 else m2) s P:=by rw[if_pos rfl];exact h
theorem W.Qu{α:Type}{m1 m2:M α}{s:S}{P:α->S->Prop}(h:W m2 s P):W (if false=true then m1 else m2) s P:=by rw[if_neg (by decide)];exact h
structure Bx(R:Prop):Prop where
 o:R
end Mi
namespace Mi
open PySem PySem.W PyProof.Rows L2
abbrev bY(n:Nat)(p:Array Nat):Prop:=p.Perm (List.range n).toArray
theorem bY.lt(h:bY n p)(hn:0<n)(i:Nat):p.getD i 0<n:=by
 by_cases hi:i<p.size
 ·have e:p.getD i 0=p[i]:=by simp[Array.getD,hi]
  rw[e];have hm:p[i]∈(List.range n).toArray:=h.mem_iff.mp (Array.getElem_mem hi);simpa using hm
 ·have e:p.getD i 0=0:=by simp[Array.getD,hi]
  rw[e];exact hn
theorem bY.rev(h:bY n p)(i j:Nat):bY n (kas_rev p i j):=(mirror_perm p i j _).trans h
theorem bY.bub(h:bY n p)(i j:Nat):bY n (bubble p i j):=(bubble_perm p i j).trans h
def gC{α:Type}(lt:Nat->Nat->Option Bool)(t:KasT α)(P:α->Prop):Prop:=∃a,bF lt t=some a/\P a
section
variable {α β:Type}{lt:Nat->Nat->Option Bool}{n:Nat}
theorem gC.ret(h:P a):gC lt (.ret a) P:=⟨a,rfl,h⟩
theorem gC.bind(hf:∀a,P a->gC lt (f a) R):∀{t:KasT α},gC lt t P->gC lt (t.bind f) R
 |.ret a,⟨a',e,h⟩=>by cases e;exact hf _ h
 |.ask i j k,⟨a',e,h⟩=>by
  unfold bF at e;cases el:lt i j with
  |none=>rw[el] at e;cases e
  |some b=>
   rw[el] at e;obtain⟨c,e1,h1⟩:=gC.bind hf (t:=k b) ⟨a',e,h⟩;refine⟨c,?_,h1⟩;show bF lt (.ask i j λb=>(k b).bind f)=some c;unfold bF;rw[el];exact e1
def Tot(n:Nat)(lt:Nat->Nat->Option Bool):Prop:=∀i j,i<n->j<n->∃b,lt i j=some b
variable (ht:Tot n lt)(hn:0<n)
include ht hn
end
section
variable {lt:Nat->Nat->Option Bool}{n:Nat}
theorem Xp(h:∀k,1<=k->k<n->lt (p.getD k 0) (p.getD (k-1) 0)=some false):∀f k,1<=k->k+f=n->gC lt (kas_asc p f k) λr=>r=n
 |0,k,h1,e=>.ret (by lia)
 |f+1,k,h1,e=>by
  obtain⟨a,e1,e2⟩:=Xp h f (k+1) (by lia) (by lia);refine⟨a,?_,e2⟩;unfold kas_asc bF;rw[h k h1 (by lia)];exact e1
theorem Xq(hk:k<n):(List.range n).toArray.getD k 0=k:=by
 simp[Array.getD,hk]
theorem zfz(hn:0<n)(h:∀k,k+1<n->lt (k+1) k=some false):bF lt (kas_sort n)=some (List.range n).toArray:=by
 have h1:gC lt (kas_asc (List.range n).toArray (n-1) 1) λr=>r=n:=Xp (λk a b=>by
  rw[Xq b,Xq (by lia)];have:=h (k-1) (by lia)
  rwa [show k-1+1=k by lia] at this) _ _ (bJ _) (by lia)
 have h2:gC lt (kas_count n (List.range n).toArray) λr=>r=(n,(List.range n).toArray):=by
  refine gC.bind (λr hr=>?_) h1;subst hr;rw[if_pos (by simp)];exact .ret rfl
 have h3:gC lt (kas_sort n) λr=>r=(List.range n).toArray:=by
  refine gC.bind (λr hr=>?_) h2;subst hr;rw[if_neg (oA _)];exact .ret rfl
 obtain⟨a,e,rfl⟩:=h3;exact e
end
theorem zgJ(hk:(xs.all h_||xs.all gb)=true)(rB:xs.length<64)(h:∀k,k+1<xs.length->tR xs (k+1) k=some false):tU xs=some xs:=by
 unfold tU;rw[if_pos hk];unfold mL;by_cases h2:xs.length<2
 ·rw[if_pos h2]
 ·rw[if_neg h2,if_pos rB,zfz (by lia) h];dsimp only;rw[if_pos (by simp)]
  congr 1
  apply List.ext_getElem
  ·simp
  ·intro i a b;simp[jC,b]
noncomputable def fG(p:Int×Int):D:=.tup [.int p.1,.int p.2]
end Mi
namespace Mi
open PySem
theorem W.walk{c:List D}{f:D->List D->M (List D)}{s:S}{acc:List D}{P:List D->S->Prop}(I:Nat->List D->S->Prop)(h0:I 0 acc s)(hb:∀i x acc s,c[i]?=some x->I i acc s->W (f x acc) s λa s'=>I (i+1) a s')
  (he:∀acc s,I c.length acc s->P acc s):W (Mi.walk (.fix c) f (c.length+1) 0 acc) s P:=by
 have key:∀n i acc s,i+n=c.length->I i acc s->W (Mi.walk (.fix c) f (n+1) i acc) s P:=by
  intro n
  induction n with
  |zero=>
   intro i acc s hi hI;have e:c[i]?=none:=by rw[oh];lia
   have:i=c.length:=by lia
   subst this;refine⟨acc,s,?_,he acc s hI⟩;unfold Mi.walk;simp only[Src.at,e]
  |succ n ih=>
   intro i acc s hi hI;have dD:i<c.length:=by lia
   have e:c[i]?=some c[i]:=dj dD;obtain⟨a,s',eb,Gz⟩:=hb i c[i] acc s e hI;obtain⟨a2,s2,e2,q⟩:=ih (i+1) a s' (by lia) Gz;refine⟨a2,s2,?_,q⟩;unfold Mi.walk;simp only[Src.at,e,M.bd,eb];exact e2
 exact key c.length 0 acc s (by lia) h0
section
variable {aq:Nat->Nat->Bool}{F:Fn}{J:Vs}{s:S}{P:Xv->S->Prop}
theorem Kar{fz:Bool}{elt:E}{tg:List Nat}{it:Wk}{fr:List Nat}{many:Nat}{cond:Eo}{c:List D}(g:D->Option D)(hc:c.length<=sizeLine)
  (hw:W (lM aq true F it J) s λcn s1=>cn=(.fix c,c.length)/\s1=s)
  (hb:∀x∈c,∃J',gK tg x (blk many fr J)=some J'/\W (p7 aq true F cond J') s λb s1=>s1=s/\(if b=true then W (ev aq true F elt J') s λy s2=>s2=s/\∃d,y=.d d/\g x=some d else g x=none))
  (h:W (newL fz (c.filterMap g)) s P):W (ev aq true F (.comp fz elt tg it fr many cond) J) s P:=by
 change W (_root_.ite (true=true) _ _) s P
 rw[if_pos rfl];refine W.bd (hw.imp λcn s1=>?_);rintro⟨rfl,rfl⟩;refine W.bd ?_;refine W.walk (c:=c) (λi acc s'=>s'=s1/\acc=(c.take i).filterMap g) ⟨rfl,rfl⟩ (λi x acc s' e hI=>?_) (λacc s' hI=>?_)
 ·obtain⟨rfl,rfl⟩:=hI;have hi:i<c.length:=(eO.mp e).1;have ht:c.take (i+1)=c.take i++[x]:=by rw[Ir,e];rfl
  have hl:((c.take i).filterMap g).length<sizeLine:=Nat.lt_of_le_of_lt (Ld _ _) (by rw[Aa];lia);obtain⟨J',e1,h1⟩:=hb x (fB e);refine W.bd (W.opt e1 ?_);refine W.bd (W.qt (h1.imp λb s2=>?_));rintro⟨rfl,h2⟩;rw[ht,List.filterMap_append];cases b
  ·rw[if_neg (by decide)] at h2 ⊢;refine W.ret ⟨rfl,?_⟩;simp[h2]
  ·rw[if_pos rfl] at h2 ⊢;refine W.bd (W.qt (h2.imp λy s3=>?_));rintro⟨rfl,d,rfl,eg⟩;refine W.bd (W.dat ?_);rw[if_pos hl];refine W.ret ⟨rfl,?_⟩;simp[eg]
 ·obtain⟨rfl,rfl⟩:=hI;rw[Ab];exact h
end
section
variable {aq:Nat->Nat->Bool}{aj:Bool}{F:Fn}{J:Vs}{s:S}{P:Xv->S->Prop}
theorem KaC(h:W (ev aq aj F a J) s λx s1=>W (rd x) s1 λd s2=>∃b,jR aq d k=some b/\P (.d (.bl b)) s2):W (ev aq aj F (.oW a k) J) s P:=
 W.bd (h.imp λ_ _ h=>W.bd (h.imp λ_ _ ⟨_,e,h⟩=>W.bd (W.opt e (W.ret h))))
theorem KaA(h:W (ev aq aj F a J) s λx s1=>W (ev aq aj F b J) s1 λy s2=>W (gj [x,y]) s2 λds s3=>W (bV true (prim p ds)) s3 λt s4=>W (Mi.bool t) s4 λk s5=>
  W (if k=true then M.bd (ev aq aj F c J) λz=>M.bd (gj [y,z]) λds=>bV true (prim q ds) else M.ret (.d (.bl false))) s5 P):W (ev aq aj F (.uU p q a b c) J) s P:=
 W.bd (h.imp λ_ _ h=>W.bd (h.imp λ_ _ h=>W.bd (h.imp λ_ _ h=>W.bd (h.imp λ_ _ h=>W.bd h))))
end
noncomputable def GF(fz:Bool):Option Rz->Option Xv
 |some (.dat d)=>some (.d d)
 |some (.nw ys)=>match fz with
  |true=>some (.d (.fl ys))
  |false=>none
 |none=>none
noncomputable def addQ:D->D->Option Rz
 |.int i,.int j=>some (.dat (.int (i+j)))
 |_,_=>none
noncomputable def wW:List D->Option Rz
 |a::r=>match r with
  |b::r=>match r with
   |[]=>addQ a b
   |_::_=>none
  |[]=>none
 |[]=>none
noncomputable def quick:Pr->Bool
 |.pU=>false|.Ax=>false|.mul=>false|.fdiv=>false|.mod=>false|.pow=>false|.divmod=>false|.sorted=>false|.oV=>false|.Ez=>false|.mult=>false|.wA=>false|.repr=>false|.str1=>false|.Vt=>false|.Ew=>false|.Ey=>false
 |_=>true
noncomputable def pB(p:Pr)(ds:List D):Option Rz:=match p with
 |.add=>wW ds
 |p=>match quick p with
  |true=>prim p ds
  |false=>none
theorem GJ{ds:List D}{r:Rz}(h:wW ds=some r):yR ds=some r:=by
 cases ds with
 |nil=>cases h
 |cons a t=>cases t with
  |nil=>cases h
  |cons b t=>cases t with
   |cons _ _=>cases h
   |nil=>cases a with
    |int i=>cases b with
     |int j=>exact h
     |_=>cases h
    |_=>cases h
theorem zG{p:Pr}{ds:List D}{r:Rz}(h:pB p ds=some r):prim p ds=some r:=by
 cases p with
 |add=>exact GJ h
 |_=>first|exact h|cases h
noncomputable def Qv(fz:Bool)(ds:List D):Option Xv:=match fz with
 |true=>some (.d (.fl ds))
 |false=>none
noncomputable def GK:Xv->Option D
 |.d x=>some x
 |.l _=>none
noncomputable def obP(c:Nat):Xv->Option (List D)
 |.d (.ob e fs)=>if e=c then some fs else none
 |_=>none
noncomputable def notP:Xv->Option Xv
 |.d (.bl b)=>some (.d (.bl (!b)))
 |_=>none
noncomputable def Qw(r:Option Xv):Xv->Option Xv
 |.d (.bl true)=>r
 |.d (.bl false)=>some (.d (.bl false))
 |_=>none
noncomputable def orP(r:Option Xv):Xv->Option Xv
 |.d (.bl true)=>some (.d (.bl true))
 |.d (.bl false)=>r
 |_=>none
section
variable (aq:Nat->Nat->Bool)
mutual
noncomputable def cW:E->Vs->Option Xv
 |.c d,_=>some (.d d)
 |.v i,J=>J[i]?.join
 |.pr fz p xs,J=>(n6 xs J).bind λds=>GF fz (pB p ds)
 |.tup xs,J=>(n6 xs J).bind λds=>some (.d (.tup ds))
 |.lst fz xs,J=>(n6 xs J).bind λds=>Qv fz ds
 |.not a,J=>(cW a J).bind notP
 |.and a b,J=>(cW a J).bind (Qw (cW b J))
 |.or a b,J=>(cW a J).bind (orP (cW b J))
 |.oW a k,J=>(cW a J).bind λx=>(GK x).bind λd=>(jR aq d k).bind λb=>some (.d (.bl b))
 |.of o c i,J=>(cW o J).bind λx=>(obP c x).bind λfs=>fs[i]?.map .d
 |_,_=>none
noncomputable def n6:Es->Vs->Option (List D)
 |.nil,_=>some []
 |.cons a r,J=>(cW a J).bind λx=>(GK x).bind λd=>(n6 r J).bind λds=>some (d::ds)
end
noncomputable def mX:Es->Vs->Option (List Xv)
 |.nil,_=>some []
 |.cons a r,J=>(cW aq a J).bind λx=>(mX r J).bind λxs=>some (x::xs)
end
theorem lG{α β:Type}{o:Option α}{f:α->Option β}{b:β}(h:o.bind f=some b):∃a,o=some a/\f a=some b:=xu.mp h
theorem iJ{α β:Type}{m:M α}{k:α->M β}{s s':S}{a:α}(e:m s=some (.ok a,s')):M.bd m k s=k a s':=by
 show (match m s with|some (.ok a,s')=>k a s'|some (.er c f,s')=>some (.er c f,s')|none=>none)=_;rw[e]
theorem zJ(s:S):∀ds:List D,gj (ds.map .d) s=some (.ok ds,s)
 |[]=>rfl
 |d::r=>(iJ (s':=s) (a:=d) rfl).trans ((iJ (zJ s r)).trans rfl)
theorem sH(s:S):∀ds:List D,bW (ds.map .d) s=some (.ok ds,s)
 |[]=>rfl
 |d::r=>(iJ (s':=s) (a:=d) rfl).trans ((iJ (sH s r)).trans rfl)
theorem Qx{fz:Bool}{p:Pr}{ds:List D}{x:Xv}{s:S}(h:GF fz (pB p ds)=some x):bV fz (prim p ds) s=some (.ok x,s):=by
 cases o:pB p ds with
 |none=>rw[o] at h;cases h
 |some r=>
  rw[o] at h;rw[zG o];cases r with
  |dat d=>cases h;rfl
  |nw ys=>cases fz with
   |true=>cases h;rfl
   |false=>cases h
section
variable {aq:Nat->Nat->Bool}{aj:Bool}{F:Fn}{J:Vs}{s:S}
theorem fW(e:E):∀x:Xv,cW aq e J=some x->ev aq aj F e J s=some (.ok x,s):=by
 refine E.rec (motive_1:=λe=>∀x:Xv,cW aq e J=some x->ev aq aj F e J s=some (.ok x,s)) (motive_2:=λ_=>True) (motive_3:=λxs=>∀ds:List D,n6 aq xs J=some ds->evs aq aj F xs J s=some (.ok (ds.map .d),s)) (motive_4:=λ_=>True)
  ?c ?v ?pr (λ_ _ _ _ _ _ _ _ _ h=>nomatch h) (λ_ _ _ _ _ _ _ _ _ _ _ _ h=>nomatch h) ?and ?or ?not (λ_ _ _ _ _ _ _ h=>nomatch h) ?tup ?lst (λ_ _ _ h=>nomatch h) (λ_ _ _ _ h=>nomatch h) ?oW (λ_ _ _ _ _ _ _ _ h=>nomatch h) (λ_ _ _ _ _ _ _ _ h=>nomatch h) (λ_ _ _ _ _ h=>nomatch h) (λ_ _ _ h=>nomatch h)
  (λ_ _ _ _ _ _ _ _ _ _ _ h=>nomatch h) (λ_ _ _ _ _ _ _ _ _ _ _ _ _ _ h=>nomatch h) (λ_ _ _ _ _ h=>nomatch h) ?of (λ_ _ _ _ _ h=>nomatch h) (λ_ _ _ _ _ _ _ h=>nomatch h) (λ_ h=>nomatch h) (λ_ _ _ _ _ _ h=>nomatch h) (λ_ _ _ _ _ h=>nomatch h) (λ_ _ _ h=>nomatch h) (λ_ _ _ _ _ _ h=>nomatch h) (λ_ _ _ _ _ h=>nomatch h) (λ_ _ _ _ _ _ _ h=>nomatch h) (λ_ h=>nomatch h)
  (λ_ _=>trivial) (λ_ _ _ _=>trivial) (λ_ _ _ _=>trivial) (λ_ _=>trivial) (λ_ _=>trivial) ?nil ?cons trivial (λ_ _=>trivial) e
 case c=>intro d x h;cases h;rfl
 case v=>intro i x h;exact(show M.opt (J[i]?.join) s=_ from by rw[show J[i]?.join=some x from h];rfl)
 case pr=>
  intro fz p xs ih x h;obtain⟨ds,e1,e2⟩:=lG h;exact(iJ (ih _ e1)).trans ((iJ (zJ s ds)).trans (Qx e2))
 case tup=>
  intro xs ih x h;obtain⟨ds,e1,e2⟩:=lG h;cases e2;exact(iJ (ih _ e1)).trans ((iJ (sH s ds)).trans rfl)
 case lst=>
  intro fz xs ih x h;obtain⟨ds,e1,e2⟩:=lG h;cases fz with
  |false=>cases e2
  |true=>cases e2;exact(iJ (ih _ e1)).trans ((iJ (sH s ds)).trans rfl)
 case not=>
  intro a ih x h;obtain⟨y,e1,e2⟩:=lG h;cases y with
  |l n=>cases e2
  |d y=>cases y with
   |bl b=>cases e2;exact(iJ (ih _ e1)).trans rfl
   |_=>cases e2
 case and=>
  intro a b ih ih2 x h;obtain⟨y,e1,e2⟩:=lG h;cases y with
  |l n=>cases e2
  |d y=>cases y with
   |bl b=>cases b with
    |true=>exact(iJ (ih _ e1)).trans (ih2 _ e2)
    |false=>cases e2;exact(iJ (ih _ e1)).trans rfl
   |_=>cases e2
 case or=>
  intro a b ih ih2 x h;obtain⟨y,e1,e2⟩:=lG h;cases y with
  |l n=>cases e2
  |d y=>cases y with
   |bl b=>cases b with
    |true=>cases e2;exact(iJ (ih _ e1)).trans rfl
    |false=>exact(iJ (ih _ e1)).trans (ih2 _ e2)
   |_=>cases e2
 case oW=>
  intro a k ih x h;obtain⟨y,e1,e2⟩:=lG h;cases y with
  |l n=>cases e2
  |d y=>
   obtain⟨d,e3,e4⟩:=lG e2;cases e3;obtain⟨b,e5,e6⟩:=lG e4;cases e6;refine(iJ (ih _ e1)).trans ((iJ (s':=s) (a:=y) rfl).trans ((iJ (s':=s) (a:=b) ?_).trans rfl));rw[e5];rfl
 case of=>
  intro o c i ih x h;obtain⟨y,e1,e2⟩:=lG h;obtain⟨fs,e3,e4⟩:=lG e2;refine(iJ (ih _ e1)).trans ((iJ (s':=s) (a:=fs) ?_).trans ?_)
  ·cases y with
   |l n=>cases e3
   |d y=>cases y with
    |ob e gs=>
     have e3:(if e=c then some gs else none)=some fs:=e3;show (if e=c then M.ret gs else M.no) s=_;split at e3
     ·rename_i h;cases e3;rw[if_pos h];rfl
     ·cases e3
    |_=>cases e3
  ·show M.opt (fs[i]?.map Xv.d) s=_;rw[e4];rfl
 case nil=>intro ds h;cases h;rfl
 case cons=>
  intro a r ih ih2 ds h;obtain⟨y,e1,e2⟩:=lG h;cases y with
  |l n=>cases e2
  |d y=>
   obtain⟨d,e3,e4⟩:=lG e2;cases e3;obtain⟨rs,e5,e6⟩:=lG e4;cases e6;exact(iJ (ih _ e1)).trans ((iJ (ih2 _ e5)).trans rfl)
theorem sI:∀(xs:Es) (ds:List D),n6 aq xs J=some ds->evs aq aj F xs J s=some (.ok (ds.map .d),s)
 |.nil,ds,h=>by cases h;rfl
 |.cons a r,ds,h=>by
  obtain⟨y,e1,e2⟩:=lG h;cases y with
  |l n=>cases e2
  |d y=>
   obtain⟨d,e3,e4⟩:=lG e2;cases e3;obtain⟨rs,e5,e6⟩:=lG e4;cases e6;exact(iJ (fW a _ e1)).trans ((iJ (sI r _ e5)).trans rfl)
theorem ji:∀(xs:Es) {vs:List Xv},mX aq xs J=some vs->evs aq aj F xs J s=some (.ok vs,s)
 |.nil,vs,h=>by cases h;rfl
 |.cons a r,vs,h=>by
  obtain⟨y,e1,e2⟩:=lG h;obtain⟨ys,e3,e4⟩:=lG e2;cases e4;exact(iJ (fW a _ e1)).trans ((iJ (ji r e3)).trans rfl)
variable {P:Xv->S->Prop}
theorem W.pv{e:E}{x:Xv}(h:cW aq e J=some x)(k:P x s):W (ev aq aj F e J) s P:=W.eq (fW e _ h) k
theorem KaZ{f:Nat}{xs:Es}{vs:List Xv}(h:mX aq xs J=some vs)(k:W (bZ (F f) vs) s P):W (ev aq aj F (.call f xs) J) s P:=Xj (W.eq (ji xs h) k)
theorem Xr{fz:Bool}{p:Pr}{xs:Es}{ds:List D}(h:n6 aq xs J=some ds)(k:W (bV fz (prim p ds)) s P):W (ev aq aj F (.pr fz p xs) J) s P:=Xi (W.eq (sI xs _ h) (W.eq (zJ s ds) k))
theorem KaY{xs:Es}{vs:List Xv}{P:List Xv->S->Prop}(h:mX aq xs J=some vs)(k:P vs s):W (evs aq aj F xs J) s P:=W.eq (ji xs h) k
end
section
variable {aq:Nat->Nat->Bool}{aj:Bool}{F:Bool->Fn}{J:Vs}{s:S}{Q:Out->S->Prop}{e:E}{r:bM}
theorem Kbb{i:Nat}{x:Xv}(h:cW aq e J=some x)(k:WS (exs aq aj F r (J.set i (some x))) s Q):WS (exs aq aj F (.cons (.asg (.nm i) e) r) J) s Q:=WS.cons (Xm (W.pv h k))
theorem Kbc{x:Xv}(h:cW aq e J=some x)(k:Q (.rt x) s):WS (exs aq aj F (.cons (.ret e) r) J) s Q:=WS.cons (Xn (W.pv h k))
theorem Kba{b:Bool}{t u:bM}(h:cW aq e J=some (.d (.bl b)))(k:WS (if b=true then exs aq aj F t J else exs aq aj F u J) s λo s'=>match o with|.nx J'=>WS (exs aq aj F r J') s' Q|.rt x=>Q (.rt x) s'|_=>False):WS (exs aq aj F (.cons (.iff e t u) r) J) s Q:=WS.cons (Xo (W.pv h (W.bool k)))
end
section
variable {α β:Type}{m:M α}{k:α->M β}{s:S}{c:Nat}{fs:List D}
end
section
variable {aq:Nat->Nat->Bool}{aj:Bool}{F:Bool->Fn}{J:Vs}{s:S}{Q:Out->S->Prop}{c:Nat}{fs:List D}
theorem Kbj{c:Nat}{kp:Bool}{xs:Es}(h:W (evs aq true (F true) xs J) s λvs s1=>W (bW vs) s1 λds s2=>Q (.er c (if kp=true then ds else []) J) s2):WS (ex aq true F (.rise c kp xs) J) s Q:=by
 refine WS.wV (m2:=λ_=>none) (WS.ofM (W.bd (h.imp λvs s1 h=>h.imp λds s2 h=>?_)));exact⟨_,s2,rfl,h⟩
theorem Kbo{m:MS}{k:Vs->MS}(h:WS m s λo s'=>match o with|.nx J'=>WS (k J') s' Q|.rt x=>Q (.rt x) s'|_=>False):WS (Mi.b_ m k) s Q:=by
 obtain⟨o,s',e,q⟩:=h;unfold WS Mi.b_;rw[e];cases o with
 |nx J'=>exact q
 |rt x=>exact⟨_,_,rfl,q⟩
 |bk _=>exact q.elim
 |ct _=>exact q.elim
 |er _ _ _=>exact q.elim
theorem Kbm{F:Fn}{i:Nat}{x:Xv}(h:Q (.nx (J.set i (some x))) s):WS (store aq aj F (.nm i) x J) s Q:=⟨_,s,rfl,h⟩
theorem Kbn{F:Fn}{is:List Nat}{d:D}(h:sG ((jU d).bind λds=>gq is (ds.map .d) J) λJ'=>Q (.nx J') s):WS (store aq true F (.tp is) (.d d) J) s Q:=by
 obtain⟨J',e,q⟩:=h;exact WS.wV (m2:=λ_=>none) (WS.ofM (W.bd (W.dat (W.opt e (WS.nx q)))))
end
section
variable {aq:Nat->Nat->Bool}{aj:Bool}{F:Fn}{J:Vs}{s:S}{P:Xv->S->Prop}
theorem W.oW{a:E}{k:Kd}(h:W (ev aq aj F a J) s λx s1=>W (rd x) s1 λd s2=>sG (jR aq d k) λb=>P (.d (.bl b)) s2):W (ev aq aj F (.oW a k) J) s P:=KaC h
theorem W.uU{p q:Pr}{a b c:E}(h:W (ev aq aj F a J) s λx s1=>W (ev aq aj F b J) s1 λy s2=>W (gj [x,y]) s2 λds s3=>W (bV true (prim p ds)) s3 λt s4=>W (Mi.bool t) s4 λk s5=>
  W (if k=true then M.bd (ev aq aj F c J) λz=>M.bd (gj [y,z]) λds=>bV true (prim q ds) else M.ret (.d (.bl false))) s5 P):W (ev aq aj F (.uU p q a b c) J) s P:=KaA h
theorem KaD{c a b:E}(h:W (ev aq aj F c J) s λx s1=>W (Mi.bool x) s1 λk s2=>W (if k=true then ev aq aj F a J else ev aq aj F b J) s2 P):W (ev aq aj F (.ite c a b) J) s P:=W.bd (h.imp λ_ _ h=>W.bd h)
theorem Xu{a:E}{P:Src×Nat->S->Prop}(h:W (ev aq aj F a J) s λx s1=>W (mO x) s1 P):W (lM aq aj F (.enum a) J) s P:=W.bd h
theorem KaK{xs:List D}{P:Src×Nat->S->Prop}(h:P (.fix (enumFrom 0 xs),(enumFrom 0 xs).length) s):W (mO (.d (.fl xs))) s P:=⟨_,s,rfl,h⟩
theorem KaN{a b:E}{P:Src×Nat->S->Prop}(h:W (ev aq aj F a J) s λx s1=>W (ev aq aj F b J) s1 λy s2=>W (Mi.int x) s2 λi s3=>W (Mi.int y) s3 λj s4=>(eZ i&&eZ j)=true/\P (.fix (iV i j),(iV i j).length) s4):W (lM aq aj F (.rg a b) J) s P:=by
 refine W.bd (h.imp λx s1 h=>W.bd (h.imp λy s2 h=>W.bd (h.imp λi s3 h=>W.bd (h.imp λj s4 h=>?_))));rw[if_pos h.1];exact W.ret h.2
theorem KaP{a b:E}{P:Src×Nat->S->Prop}(h:W (ev aq aj F a J) s λx s1=>W (ev aq aj F b J) s1 λy s2=>W (nP x) s2 λxs s3=>W (nP y) s3 λys s4=>P (.fix (List.zipWith (λp q=>.tup [p,q]) xs ys),(List.zipWith (λ(p q:D)=>D.tup [p,q]) xs ys).length) s4):W (lM aq aj F (.zip a b) J) s P:=
 W.bd (h.imp λx s1 h=>W.bd (h.imp λy s2 h=>W.bd (h.imp λxs s3 h=>W.bd (h.imp λys s4 h=>W.ret h))))
theorem W.iY{xs:List D}{P:List D->S->Prop}(h:P xs s):W (nP (.d (.tup xs))) s P:=W.ret h
theorem W.qL{xs:List D}{P:List D->S->Prop}(h:P xs s):W (nP (.d (.fl xs))) s P:=W.ret h
theorem Kak{P:Bool->S->Prop}(h:P true s):W (p7 aq aj F .no J) s P:=W.ret h
theorem Kal{a:E}{P:Bool->S->Prop}(h:W (ev aq aj F a J) s λx s1=>W (Mi.bool x) s1 P):W (p7 aq aj F (.yes a) J) s P:=W.bd h
theorem Xw(g:D->D)(hc:c.length<=sizeLine)
  (hw:W (lM aq true F it J) s λcn s1=>cn=(.fix c,c.length)/\s1=s)
  (hb:∀x∈c,sG (gK tg x (blk many fr J)) λJ'=>W (ev aq true F elt J') s λy s2=>s2=s/\y=.d (g x))
  (h:W (newL fz (c.map g)) s P):W (ev aq true F (.comp fz elt tg it fr many .no) J) s P:=by
 refine Kar (c:=c) (λx=>some (g x)) hc hw (λx hx=>?_) ?_
 ·obtain⟨J',e,h1⟩:=hb x hx;refine⟨J',e,W.ret ⟨rfl,?_⟩⟩;rw[if_pos rfl];exact h1.imp λy s2 ⟨a,b⟩=>⟨a,_,b,rfl⟩
 ·rw[show c.filterMap (λx=>some (g x))=c.map g by rw[<-List.filterMap_eq_map];rfl];exact h
theorem pC{α:Type}{f:α->D}{l:List α}{fz:Bool}{elt:E}{tg:List Nat}{it:Wk}{fr:List Nat}{many:Nat}{cond:Eo}(g:α->Option D)(hc:l.length<=sizeLine)
  (hw:W (lM aq true F it J) s λcn s1=>cn=(.fix (l.map f),(l.map f).length)/\s1=s)
  (hb:∀x∈l,sG (gK tg (f x) (blk many fr J)) λJ'=>W (p7 aq true F cond J') s λb s1=>s1=s/\(b=true->W (ev aq true F elt J') s λy s2=>s2=s/\∃d,y=.d d/\g x=some d)/\(b=false->g x=none))
  (h:W (newL fz (l.filterMap g)) s P):W (ev aq true F (.comp fz elt tg it fr many cond) J) s P:=by
 change W (_root_.ite (true=true) _ _) s P
 rw[if_pos rfl];refine W.bd (hw.imp λcn s1=>?_);rintro⟨rfl,rfl⟩;refine W.bd ?_;refine W.walk (c:=l.map f) (λi acc s'=>s'=s1/\acc=(l.take i).filterMap g) ⟨rfl,rfl⟩ (λi x acc s' e hI=>?_) (λacc s' hI=>?_)
 ·obtain⟨rfl,rfl⟩:=hI;rw[gU] at e;cases el:l[i]? with
  |none=>rw[el] at e;cases e
  |some y=>
   rw[el] at e;cases e;have hi:i<l.length:=(eO.mp el).1;have ht:l.take (i+1)=l.take i++[y]:=by rw[Ir,el];rfl
   have hl:((l.take i).filterMap g).length<sizeLine:=Nat.lt_of_le_of_lt (Ld _ _) (by rw[Aa];lia);obtain⟨J',e1,h1⟩:=hb y (fB el);refine W.bd (W.opt e1 ?_);refine W.bd (W.qt (h1.imp λb s2=>?_));rintro⟨rfl,h2,h3⟩;rw[ht,List.filterMap_append];cases b
   ·rw[if_neg (by decide)];refine W.ret ⟨rfl,?_⟩;simp[h3 rfl]
   ·rw[if_pos rfl];refine W.bd (W.qt ((h2 rfl).imp λy s3=>?_));rintro⟨rfl,d,rfl,eg⟩;refine W.bd (W.dat ?_);rw[if_pos hl];refine W.ret ⟨rfl,?_⟩;simp[eg]
 ·obtain⟨rfl,rfl⟩:=hI;rw[cU,Ab];exact h
theorem Xx{c:List D}{fz:Bool}{elt:E}{tg:List Nat}{it:Wk}{fr:List Nat}{many:Nat}{cond:Eo}(I:Nat->List D->S->Prop)
  (hw:W (lM aq true F it J) s λcn s1=>cn=(.fix c,c.length)/\I 0 [] s1)
  (hb:∀i x acc s,c[i]?=some x->I i acc s->sG (gK tg x (blk many fr J)) λJ'=>W (p7 aq true F cond J') s λb s1=>(b=true->W (ev aq true F elt J') s1 λy s2=>∃d,y=.d d/\acc.length<sizeLine/\I (i+1) (acc++[d]) s2)/\(b=false->I (i+1) acc s1))
  (h:∀acc s,I c.length acc s->W (newL fz acc) s P):W (ev aq true F (.comp fz elt tg it fr many cond) J) s P:=by
 change W (_root_.ite (true=true) _ _) s P
 rw[if_pos rfl];refine W.bd (hw.imp λcn s1=>?_);rintro⟨rfl,h0⟩;refine W.bd ?_;refine W.walk (c:=c) I h0 (λi x acc s' e hI=>?_) (λacc s' hI=>h acc s' hI);obtain⟨J',e1,h1⟩:=hb i x acc s' e hI;refine W.bd (W.opt e1 ?_);refine W.bd (W.qt (h1.imp λb s2=>?_));rintro⟨h2,h3⟩;cases b
 ·rw[if_neg (by decide)];exact W.ret (h3 rfl)
 ·rw[if_pos rfl];refine W.bd (W.qt ((h2 rfl).imp λy s3=>?_));rintro⟨d,rfl,hl,hi⟩;refine W.bd (W.dat ?_);rw[if_pos hl];exact W.ret hi
theorem W.push{o a:E}(h:W (ev aq aj F o J) s λx s1=>W (Mi.cH x) s1 λ_ s2=>W (ev aq aj F a J) s2 λy s3=>W (Mi.dat y) s3 λd s4=>W (Mi.cH x) s4 λnx s5=>nx.2.length<sizeLine/\P (.d .non) (s5.set nx.1 (.lst (nx.2++[d])))):W (ev aq aj F (.push o a) J) s P:=by
 refine W.bd (h.imp λx s1 h=>W.bd (h.imp λ_ s2 h=>W.bd (h.imp λy s3 h=>W.bd (h.imp λd s4 h=>W.bd (h.imp λnx s5 h=>?_)))));rw[if_pos h.1];exact W.bd (Qt (W.ret h.2))
end
theorem Xy{s:S}{o:SO}:(s++[o])[s.length]?=some o:=by simp
theorem Y{P R:Prop}(k:R)(h:Bx R->P:=by
 intro k
 repeat (first|with_reducible first
   |refine Kbb (by with_unfolding_all rfl) ?_|refine Kbc (by with_unfolding_all rfl) ?_|refine Kba (by with_unfolding_all rfl) ?_|refine W.pv (by with_unfolding_all rfl) ?_|refine Xr (by with_unfolding_all rfl) ?_|refine KaZ (by with_unfolding_all rfl) ?_|refine KaY (by with_unfolding_all rfl) ?_
   |refine WS.cons ?_|refine WS.nil ?_|refine Kbo ?_|refine Kbm ?_|refine Kbn ?_|refine Xm ?_|refine Xn ?_|refine Xo ?_|refine Kbl ?_|refine Kbk ?_|refine Kbh ?_|refine Kbd ?_|refine Kbe ?_|refine Kbj ?_|refine WS.wV ?_|refine WS.Qu ?_|refine WS.Ka (by with_unfolding_all rfl) ?_|refine WS.GD (by with_unfolding_all rfl) ?_|refine sG.mk (by with_unfolding_all rfl) ?_
   |refine Xl ?_|refine Xk ?_|refine W.eC ?_|refine W.eV (by with_unfolding_all rfl) ?_|refine Xi ?_|refine Xj ?_|refine KaJ ?_|refine KaE ?_|refine KaF ?_|refine Kay ?_|refine KaG ?_|refine KaD ?_|refine W.oW ?_|refine W.uU ?_|refine W.push ?_|refine KaI ?_|refine KaB ?_|refine KaS ?_|refine KaT ?_|refine KaO ?_|refine KaN ?_|refine KaP ?_|refine Xu ?_|refine Kak ?_|refine Kal ?_|refine W.wV ?_|refine W.Qu ?_|refine W.Ka (by with_unfolding_all rfl) ?_|refine W.GD (by with_unfolding_all rfl) ?_
   |refine Ka3 ?_|refine Ka4 ?_|refine Ka1 ?_|refine Xf (by with_unfolding_all rfl) ?_|refine Xf Xy ?_|refine Qq ?_|refine Xg ?_|refine W.dat ?_|refine W.bool ?_|refine W.int ?_|refine W.cH (by with_unfolding_all rfl) ?_|refine W.cH Xy ?_|refine Qt ?_|refine Ka6 ?_|refine KaK ?_|refine W.iY ?_|refine W.qL ?_|refine Ka5 ?_|refine KaR ?_|refine KaQ ?_
   |refine fO (by first|(with_unfolding_all rfl)|exact zmL (by first|(left;constructor<;>lia)|(right;constructor<;>lia))|exact zl7 (by lia)|exact zlm (by lia)|exact zgN (by lia)|exact zl8 (by decide)) ?_|refine Gy (by with_unfolding_all rfl) ?_
   |refine W.ret ?_|refine W.bd ?_
   | (dsimp only))
 all_goals exact k.o):P:=h ⟨k⟩
def lx(p q:Int×Int):Prop:=p.1<q.1\/p.1=q.1/\p.2<q.2
noncomputable def bR(n:Int)(ps:List (Int×Int)):D:=.tup [.int n,.tup (ps.map fG)]
structure Web(n:Int)(ps:List (Int×Int)):Prop where
 h1:1<=n
 h8:n<=8
 tie:∀p∈ps,0<=p.1/\p.1<p.2/\p.2<n
 inc:ps.Pairwise lx
 len:(ps.length:Int)<=7*n
theorem ziI(h:∀x∈xs,x=.bl true):dF xs=some (List.replicate xs.length true):=by
 induction xs with
 |nil=>rfl
 |cons x r ih=>
  rw[h x (by simp)];show Option.map _ (dF r)=_;rw[ih λy hy=>h y (by simp[hy])];rfl
theorem Qy(h:∀x∈xs,x=.bl true):prim .all [.fl xs]=some (.dat (.bl true)):=by
 show Option.map _ (dF xs)=_;rw[ziI h];simp
theorem zmi(h:lx p q):ltI [p.1,p.2] [q.1,q.2]=true:=by
 simp only[ltI];rcases h with h|⟨h,h2⟩
 ·rw[if_neg (by lia)];simp[h]
 ·rw[if_pos h,if_neg (by lia)];simp[h2]
theorem Qz(xs:List D):cut xs (some 1) none=xs.drop 1:=by
 unfold cut;rw[HT.rm];rw[show (some 1:Option Int)=some ((1:Nat):Int) from rfl,HT.uH];cases xs with
 |nil=>rfl
 |cons x r=>simp
theorem Xz:∀{ps:List (Int×Int)},ps.Pairwise lx->∀x∈List.zipWith (λ(p q:D)=>D.tup [p,q]) (ps.map fG) ((ps.map fG).drop 1),∃p q,x=.tup [fG p,fG q]/\lx p q
 |[],_,x,hx=>by simp at hx
 |[p],_,x,hx=>by simp at hx
 |p::q::r,h,x,hx=>by
  rw[show (List.map fG (p::q::r)).drop 1=List.map fG (q::r) from rfl] at hx;have e:List.zipWith (λ(p q:D)=>D.tup [p,q]) (List.map fG (p::q::r)) (List.map fG (q::r))=.tup [fG p,fG q]::List.zipWith (λ(p q:D)=>D.tup [p,q]) (List.map fG (q::r)) (List.map fG r):=rfl;rw[e,jd] at hx;rcases hx with rfl|hx
  ·exact⟨p,q,rfl,(zZ.mp h).1 q (by simp)⟩
  ·exact Xz (ps:=q::r) (zZ.mp h).2 x hx
theorem XD:∀(xs:List D) (j i:Nat),(enumFrom j xs)[i]?=xs[i]?.map λx=>.tup [.int ((j+i:Nat):Int),x]
 |[],j,i=>by simp[enumFrom]
 |x::r,j,0=>by simp[enumFrom]
 |x::r,j,i+1=>by
  simp only[enumFrom,zU,XD r (j+1) i];rw[show j+1+i=j+(i+1) by lia]
theorem XH:∀(xs:List D) (j:Nat),(enumFrom j xs).length=xs.length
 |[],j=>rfl
 |x::r,j=>by simp[enumFrom,XH r (j+1)]
theorem zkV{p:Int×Int}:¬lx p p:=by rintro(h|⟨_,h⟩)<;>lia
theorem zgD{ps:List (Int×Int)}(h:ps.Pairwise lx):ps.Nodup:=h.imp λ{p q} h e=>by subst e;exact zkV h
theorem XJ(h:tU xs=some ys):prim .sorted [.fl xs]=some (.nw ys):=by
 show Option.map Rz.nw (tU xs)=_;rw[h];rfl
theorem zgt{es:List Int}(rB:es.length<64)(h:es.Pairwise (·<·)):tU (es.map D.int)=some (es.map D.int):=by
 refine zgJ ?_ (by rw[cU];exact rB) λk hk=>?_
 ·rw[Io]
  left
  rw[Cr,jx];intro x _;rfl
 ·rw[cU] at hk;unfold tR;rw[gU,gU,dj hk,dj (show k<es.length by lia)];have:=HS.mp h k (k+1) (by lia) hk (by lia);simp only[Option.map_some]
  congr 1
  apply pJ
  lia
noncomputable def endOf(i:Int)(p:Int×Int):Option Int:=if p.1=i then some p.2 else if p.2=i then some p.1 else none
noncomputable def bI(i:Int)(ps:List (Int×Int)):List Int:=ps.filterMap (endOf i)
theorem XM(h:Web n ps)(i:Int):(bI i ps).Pairwise (·<·):=by
 have ht:=h.tie;have hi:=h.inc;clear h;unfold bI
 induction ps with
 |nil=>simp
 |cons p r ih=>
  obtain⟨hp,hr⟩:=zZ.mp hi;have ih:=ih (λq hq=>ht q (by simp[hq])) hr;rw[BX]
  split
  ·exact ih
  ·rename_i b eb;refine zZ.mpr ⟨λc hc=>?_,ih⟩;obtain⟨q,hq,eq⟩:=zW.mp hc;have l:=hp q hq;have tp:=ht p (by simp);have tq:=ht q (by simp[hq]);unfold endOf at eb eq;unfold lx at l;split at eb
   ·cases eb;split at eq
    ·cases eq;lia
    ·split at eq
     ·cases eq;lia
     ·cases eq
   ·split at eb
    ·cases eb;split at eq
     ·cases eq;lia
     ·split at eq
      ·cases eq;lia
      ·cases eq
    ·cases eb
theorem XQ(h:Web n ps)(he:e∈bI i ps):0<=e/\e<n:=by
 obtain⟨q,hq,eq⟩:=zW.mp he;have tq:=h.tie q hq;unfold endOf at eq;split at eq
 ·cases eq;lia
 ·split at eq
  ·cases eq;lia
  ·cases eq
theorem zdt:∀{es:List Int} {a n:Int},es.Pairwise (·<·)->(∀e∈es,a<=e/\e<n)->a<=n->(es.length:Int)<=n-a
 |[],a,n,_,_,h=>by simp;lia
 |e::r,a,n,h,hb,ha=>by
  obtain⟨h1,h2⟩:=zZ.mp h;have he:=hb e (by simp);have:=zdt (es:=r) (a:=e+1) (n:=n) h2 (λx hx=>⟨by have:=h1 x hx;lia,(hb x (by simp[hx])).2⟩) (by lia);rw[gD]
  lia
theorem XR{a b:Int}{i:Nat}{x:D}(h:(iV a b)[i]?=some x):x=.int (a+i)/\a+i<b:=by
 unfold iV at h;rw[gU] at h;cases e:(List.range (b-a).toNat)[i]? with
 |none=>rw[e] at h;cases h
 |some j=>
  rw[e] at h;cases h;obtain⟨hl,rfl⟩:=eO.mp e;rw[pI] at hl;rw[List.getElem_range];exact⟨rfl,by lia⟩
theorem X3:(iV a b).length=(b-a).toNat:=by unfold iV;simp
theorem lO(h1 : -1000<=a)(h2:a<=1000):eZ a=true:=by
 unfold eZ;rw[iy (by lia),iy (by lia)];rfl
theorem pD(hl:locs xs=[s.length])(h:W (F (cY 0 xs)) [o] λv s1=>∃d o',v=.d d/\s1=[o']/\P (.d d) (s++[o'])):W (bZ F xs) (s++[o]) P:=by
 refine Qs (n:=s.length) (o:=o) hl (by simp) (h.imp λv s1=>?_);rintro⟨d,o',rfl,rfl,hp⟩;exact⟨d,o',rfl,rfl,by rw[show (s++[o]).set s.length o'=s++[o'] by simp];exact hp⟩
theorem zju{ns:List Int}{lo hi:Option Int}{x:D}(h:x∈cut (ns.map D.int) lo hi):∃n,x=.int n:=by
 have:=List.mem_of_mem_drop (List.mem_of_mem_take h);obtain⟨n,_,rfl⟩:=qz.mp this;exact⟨n,rfl⟩
theorem zjE{ns:List Int}{lo hi:Option Int}:(cut (ns.map D.int) lo hi).length<=ns.length:=by
 unfold cut;rw[Aa,List.length_drop,cU]
 lia
section
variable {aq:Nat->Nat->Bool}{F:Fn}{J:Vs}{s:S}{P:Xv->S->Prop}
end
theorem Ka7(R:Vs->S->Prop)(h:WS (ex aq aj F a J) s λo s'=>∃J',o=.nx J'/\R J' s')(h2:∀J' s',R J' s'->WS (exs aq aj F r J') s' Q):WS (exs aq aj F (.cons a r) J) s Q:=
 WS.cons (h.imp λo s' ⟨J',e,hr⟩=>by subst e;exact h2 J' s' hr)
noncomputable def at'(fs:List Int)(j:Int):Int:=fs.getD j.toNat 0
theorem Kc{fs:List Int}{j:Int}(h0:0<=j)(h:j<fs.length):∃(i:Nat) (hi:i<fs.length),j=i/\at' fs j=fs[i]:=by
 obtain⟨i,rfl⟩:=BP h0;have hi:i<fs.length:=by lia
 refine⟨i,hi,rfl,?_⟩;unfold at';rw[ou,jC,dj hi];rfl
theorem Bs{fs:List Int}{j:Int}(h0:0<=j)(h:j<fs.length):at' fs j∈fs:=by
 obtain⟨i,hi,_,e⟩:=Kc h0 h;rw[e];exact List.getElem_mem _
theorem znO{fs:List Int}{j:Int}(h0:0<=j)(h:j<fs.length):(fs.map D.int)[j.toNat]?=some (.int (at' fs j)):=by
 obtain⟨i,hi,rfl,e⟩:=Kc h0 h;rw[e,ou,gU,dj hi];rfl
theorem zjY{fs gs:List Int}{j:Int}(h0:0<=j)(h:j<fs.length):at' (fs++gs) j=at' fs j:=by
 obtain⟨i,hi,rfl,e⟩:=Kc h0 h;unfold at';rw[ou,jC,jC,m9 hi]
theorem zh4:at' (fs++[x]) fs.length=x:=by
 unfold at';rw[ou,jC,n_ (bJ _)];simp
theorem uc(h0:0<=j)(h:xs[j.toNat]?=some x):prim .ix [.fl xs,.int j]=some (.dat x):=by
 obtain⟨k,rfl⟩:=BP h0;exact GC h
theorem X4(h0:0<=j)(h:xs[j.toNat]?=some x):prim .ix [.tup xs,.int j]=some (.dat x):=uc h0 h
theorem GP(h0:0<=j)(h:j<fs.length):prim .ix [.tup (fs.map .int),.int j]=some (.dat (.int (at' fs j))):=uc h0 (znO h0 h)
noncomputable def cB(k a b:Int):Int:=if k-(if a-b<0 then -(a-b) else a-b)<(if a-b<0 then -(a-b) else a-b) then k-(if a-b<0 then -(a-b) else a-b) else (if a-b<0 then -(a-b) else a-b)
theorem wX(hd:1<=d):d<=cB k a b↔(d<=a-b/\a-b<=k-d)\/(d<=b-a/\b-a<=k-d):=by
 unfold cB
 split<;>split<;>lia
structure dH(n k d:Int)(ps:List (Int×Int))(hs:List Int):Prop where
 len:(hs.length:Int)=n
 lo:∀x∈hs,0<=x/\x<k
 fit:∀p∈ps,d<=cB k (at' hs p.1) (at' hs p.2)
section
variable {aq:Nat->Nat->Bool}{aj:Bool}{F:Bool->Fn}{J:Vs}{s:S}{Q:Out->S->Prop}
end
section
variable {aq:Nat->Nat->Bool}{aj:Bool}{F:Fn}{J:Vs}{s:S}{P:Xv->S->Prop}
end
def Ge(h r:List Int):Prop:=∀j:Nat,j<r.length->(∀i:Nat,i<j->at' h i=at' r i)->at' r j<=at' h j
noncomputable def aL(k d:Int):D:=.tup [.int k,.int d]
noncomputable def zK(k d:Int)(ps:List (Int×Int))(hs:List Int):Bool:=ps.all λp=>decide (d<=cB k (at' hs p.1) (at' hs p.2))
theorem jw:zK k d ps hs=true↔∀p∈ps,d<=cB k (at' hs p.1) (at' hs p.2):=by
 unfold zK;rw[jx];exact⟨λh p hp=>j9 (h p hp),λh p hp=>iy (h p hp)⟩
section
variable {n k d:Int}{ps:List (Int×Int)}{ls:List Int}
end
section
variable {aq:Nat->Nat->Bool}{F:Fn}{J:Vs}{s:S}{P:Xv->S->Prop}
end
theorem ud{α:Type}{l:List α}{f:α->D}:l.filterMap (λx=>some (f x))=l.map f:=by
 rw[<-List.filterMap_eq_map];rfl
theorem QB(I:Nat->Vs->S->Prop)(h0:I 0 J s)(hb:∀i x J s,c[i]?=some x->I i J s->WS (b x J) s λo s'=>(∃J',o=.nx J'/\I (i+1) J' s')\/(∃x,o=.rt x/\Q (.rt x) s'))
  (he:∀J s,I c.length J s->Q (.nx J) s):WS (dh (.fix c) b (c.length+1) 0 J) s Q:=by
 have key:∀n i J s,i+n=c.length->I i J s->WS (dh (.fix c) b (n+1) i J) s Q:=by
  intro n
  induction n with
  |zero=>
   intro i J s hi hI;have e:c[i]?=none:=by rw[oh];lia
   have:i=c.length:=by lia
   subst this;refine⟨_,s,?_,he J s hI⟩;unfold dh;simp only[Src.at,e]
  |succ n ih=>
   intro i J s hi hI;have dD:i<c.length:=by lia
   have e:c[i]?=some c[i]:=dj dD;obtain⟨o,s',eb,hr⟩:=hb i c[i] J s e hI;rcases hr with ⟨J',rfl,Gz⟩|⟨x,rfl,hq⟩
   ·obtain⟨o2,s2,e2,q⟩:=ih (i+1) J' s' (by lia) Gz;refine⟨o2,s2,?_,q⟩;unfold dh;simp only[Src.at,e,eb];exact e2
   ·refine⟨_,s',?_,hq⟩;unfold dh;simp only[Src.at,e,eb]
 exact key c.length 0 J s (by lia) h0
theorem GQ{hs:List Int}{f:Int->Int}{j:Int}(h0:0<=j)(h:j<hs.length):at' (hs.map f) j=f (at' hs j):=by
 obtain⟨i,hi,rfl,e⟩:=Kc h0 h;rw[e];unfold at';rw[ou,jC,gU,dj hi];rfl
theorem zf6{α:Type}(l:List α)(f:α->Bool):dF (l.map λx=>D.bl (f x))=some (l.map f):=by
 induction l with
 |nil=>rfl
 |cons x r ih=>
  show Option.map _ (dF (r.map λx=>D.bl (f x)))=_;rw[ih];rfl
theorem zkP{α:Type}{l:List α}{f:α->Bool}:prim .all [.fl (l.map λx=>D.bl (f x))]=some (.dat (.bl (l.all f))):=by
 show Option.map _ (dF (l.map λx=>D.bl (f x)))=_;rw[zf6];show some (Rz.dat (.bl ((l.map f).all id)))=_;rw[Cr];rfl
section
variable {n m:Int}{ps:List (Int×Int)}
end
end Mi
namespace Mi
open PySem PySem.W PyProof.Rows L2
structure Ord(n:Nat)(lt:Nat->Nat->Option Bool)(le:Nat->Nat->Prop):Prop where
 ans:∀i j,i<n->j<n->(lt i j=some true/\le i j)\/(lt i j=some false/\le j i)
 tr:∀i j k,i<n->j<n->k<n->le i j->le j k->le i k
section
variable {lt:Nat->Nat->Option Bool}{le:Nat->Nat->Prop}{n:Nat}
theorem Ord.rfl'(o:Ord n lt le)(hi:i<n):le i i:=by
 rcases o.ans i i hi hi with ⟨_,e⟩|⟨_,e⟩<;>exact e
def qM(le:Nat->Nat->Prop)(p:Array Nat)(r:Nat):Prop:=∀a b,a<b->b<r->le (p.getD a 0) (p.getD b 0)
def uf(le:Nat->Nat->Prop)(p:Array Nat)(r:Nat):Prop:=∀a b,a<b->b<r->le (p.getD b 0) (p.getD a 0)
def GR(le:Nat->Nat->Prop)(p:Array Nat)(l r:Nat):Prop:=∀a b,l<=a->a<r->l<=b->b<r->le (p.getD a 0) (p.getD b 0)
theorem getD_get?{p q:Array Nat}{i j:Nat}(h:p[i]?=q[j]?):p.getD i 0=q.getD j 0:=by
 have e:∀(x:Array Nat) (k:Nat),x.getD k 0=(x[k]?).getD 0:=by
  intro x k;unfold Array.getD
  split
  ·rename_i h;rw[Array.getElem?_eq_getElem h];rfl
  ·rename_i h;rw[Array.getElem?_eq_none (by lia)];rfl
 rw[e,e,h]
theorem bY.size{p:Array Nat}(h:bY n p):p.size=n:=by have:=h.size_eq;simpa using this
theorem ug{p:Array Nat}{i j k:Nat}(hj:j<=p.size):(kas_rev p i j).getD k 0=if i<=k/\k<j then p.getD (i+j-1-k) 0 else p.getD k 0:=by
 have:=getElem?_mirror_all (xs:=p) (i:=i) hj k;unfold kas_rev
 split
 ·rename_i h;rw[if_pos h] at this;exact getD_get? this
 ·rename_i h;rw[if_neg h] at this;exact getD_get? this
theorem X5{p:Array Nat}{src d k:Nat}(hs:src<p.size)(hd:d<=src):(bubble p src d).getD k 0=if k=src-d then p.getD src 0 else if src-d<k/\k<=src then p.getD (k-1) 0 else p.getD k 0:=by
 have:=getElem?_bubble hs d hd k;by_cases h:k=src-d
 ·rw[if_pos h] at this ⊢;exact getD_get? this
 ·rw[if_neg h] at this ⊢;by_cases h2:src-d<k/\k<=src
  ·rw[if_pos h2] at this ⊢;exact getD_get? this
  ·rw[if_neg h2] at this ⊢;exact getD_get? this
variable (o:Ord n lt le)(hn:0<n)
include o hn
theorem sJ(hi:i<n)(hj:j<n)(h1:le i j->gC lt (k true) P)(h2:le j i->gC lt (k false) P):gC lt (.ask i j k) P:=by
 rcases o.ans i j hi hj with ⟨e,hl⟩|⟨e,hl⟩
 ·obtain⟨a,e1,q⟩:=h1 hl;exact⟨a,by unfold bF;rw[e];exact e1,q⟩
 ·obtain⟨a,e1,q⟩:=h2 hl;exact⟨a,by unfold bF;rw[e];exact e1,q⟩
theorem zgY(hp:bY n p)(hk:1<=k)(h:qM le p k)(hl:le (p.getD (k-1) 0) (p.getD k 0)):qM le p (k+1):=λa b wY hb=>by
 by_cases e:b=k
 ·subst e;by_cases e2:a=b-1
  ·subst e2;exact hl
  ·exact o.tr _ _ _ (hp.lt hn _) (hp.lt hn _) (hp.lt hn _) (h a (b-1) (by lia) (by lia)) hl
 ·exact h a b wY (by lia)
theorem GX(hp:bY n p)(hk:1<=k)(h:uf le p k)(hl:le (p.getD k 0) (p.getD (k-1) 0)):uf le p (k+1):=λa b wY hb=>by
 by_cases e:b=k
 ·subst e;by_cases e2:a=b-1
  ·subst e2;exact hl
  ·exact o.tr _ _ _ (hp.lt hn _) (hp.lt hn _) (hp.lt hn _) hl (h a (b-1) (by lia) (by lia))
 ·exact h a b wY (by lia)
theorem QC(hp:bY n p):∀f k,1<=k->k+f<=n->qM le p k->gC lt (kas_asc p f k) λr=>k<=r/\r<=k+f/\qM le p r/\(r<k+f->le (p.getD r 0) (p.getD (r-1) 0))
 |0,k,_,_,h=>.ret ⟨bJ _,by lia,h,λz=>by lia⟩
 |f+1,k,hk,hkf,h=>sJ o hn (hp.lt hn _) (hp.lt hn _) (λhl=>.ret ⟨bJ _,by lia,h,λ_=>hl⟩) λhl=>by
  obtain⟨r,e,h1,h2,h3,h4⟩:=QC hp f (k+1) (by lia) (by lia) (zgY o hn hp hk h hl);exact⟨r,e,by lia,by lia,h3,λz=>h4 (by lia)⟩
theorem X6(hp:bY n p)(hk:k<=n)(h:uf le p k)(ha:GR le p l k):uf le (kas_rev p l k) k:=λa b wY hb=>by
 have hs:=hp.size;rw[ug (by lia),ug (by lia)];by_cases ca:l<=a/\a<k
 ·rw[if_pos ca,if_pos (by lia)];exact ha _ _ (by lia) (by lia) (by lia) (by lia)
 ·rw[if_neg ca];by_cases cb:l<=b/\b<k
  ·rw[if_pos cb];exact h a _ (by lia) (by lia)
  ·rw[if_neg cb];exact h a b wY hb
theorem Ke:∀f {p:Array Nat} k q,bY n p->1<=k->k+f<=n->q+1<=k->uf le p k->GR le p (k-(q+1)) k->gC lt (kas_desc f p k q) λr=>bY n r.1/\k<=r.2.1/\r.2.1<=k+f/\r.2.2+1<=r.2.1/\uf le r.1 r.2.1/\GR le r.1 (r.2.1-(r.2.2+1)) r.2.1
 |0,p,k,q,hp,_,_,hq,h,ha=>.ret ⟨hp,bJ _,by dsimp only;lia,hq,h,ha⟩
 |f+1,p,k,q,hp,hk,hkf,hq,h,ha=>sJ o hn (hp.lt hn _) (hp.lt hn _) (λhl=>by
   show gC lt (if q>0 then _ else _) _;have hs:=hp.size;have one:∀{x:Array Nat},bY n x->GR le x (k+1-(0+1)) (k+1):=λ{x} hx a b h1 h2 h3 h4=>by
    have:a=k:=by lia
    have:b=k:=by lia
    subst a;subst b;exact o.rfl' (hx.lt hn _)
   split
   ·have hp':=hp.rev (k-(q+1)) k;have h':uf le (kas_rev p (k-(q+1)) k) (k+1):=GX o hn hp' hk (X6 o hn hp (by lia) h ha) (by
     rw[ug (by lia),ug (by lia),if_neg (by lia),if_pos (by lia)];refine o.tr _ _ _ (hp.lt hn _) (hp.lt hn _) (hp.lt hn _) hl (ha _ _ (by lia) (by lia) (by lia) (by lia)))
    obtain⟨r,e,w⟩:=Ke f (k+1) 0 hp' (by lia) (by lia) (by lia) h' (one hp');exact⟨r,e,w.1,by lia,by lia,w.2.2.2⟩
   ·obtain⟨r,e,w⟩:=Ke f (k+1) 0 hp (by lia) (by lia) (by lia) (GX o hn hp hk h hl) (one hp);exact⟨r,e,w.1,by lia,by lia,w.2.2.2⟩) λhl=>sJ o hn (hp.lt hn _) (hp.lt hn _) (λ_=>.ret ⟨hp,bJ _,by dsimp only;lia,hq,h,ha⟩) λrQ=>by
   have hA:GR le p (k+1-(q+1+1)) (k+1):=λa b h1 h2 h3 h4=>by
    have key:∀c,k-(q+1)<=c->c<k->le (p.getD c 0) (p.getD k 0)/\le (p.getD k 0) (p.getD c 0):=λc c1 c2=>
     ⟨o.tr _ _ _ (hp.lt hn _) (hp.lt hn _) (hp.lt hn _) (ha c (k-1) c1 c2 (by lia) (by lia)) hl,o.tr _ _ _ (hp.lt hn _) (hp.lt hn _) (hp.lt hn _) rQ (ha (k-1) c (by lia) (by lia) c1 c2)⟩
    by_cases ea:a=k
    ·by_cases eb:b=k
     ·subst a;subst b;exact o.rfl' (hp.lt hn _)
     ·subst a;exact(key b (by lia) (by lia)).2
    ·by_cases eb:b=k
     ·subst b;exact(key a (by lia) (by lia)).1
     ·exact ha a b (by lia) (by lia) (by lia) (by lia)
   obtain⟨r,e,w⟩:=Ke f (k+1) (q+1) hp (by lia) (by lia) (by lia) (GX o hn hp hk h rQ) hA;exact⟨r,e,w.1,by lia,by lia,w.2.2.2⟩
theorem ziH(hp:bY n p)(hk:k<=n)(h:uf le p k):qM le (kas_rev p 0 k) k:=λa b wY hb=>by
 have hs:=hp.size;rw[ug (by lia),ug (by lia),if_pos (by lia),if_pos (by lia)];exact h _ _ (by lia) (by lia)
theorem X7(hp:bY n p)(hk:1<=k)(GZ:k<=n)(h:uf le p k):gC lt (kas_tail3 k n p) λr=>bY n r.2/\1<=r.1/\r.1<=n/\qM le r.2 r.1:=by
 refine gC.bind (λc hc=>?_) (QC o hn (hp.rev 0 k) (n-k) k hk (by lia) (ziH o hn hp GZ h));exact⟨_,rfl,hp.rev 0 k,by dsimp only;lia,by dsimp only;lia,hc.2.2.1⟩
theorem X8(hp:bY n p)(hk:1<=k)(GZ:k<n)(h:uf le p (k+1)):gC lt (kas_descPart k n p) λr=>bY n r.2/\1<=r.1/\r.1<=n/\qM le r.2 r.1:=by
 refine gC.bind (λr hr=>?_) (Ke o hn (n-(k+1)) (k+1) 0 hp (by lia) (by lia) (by lia) h (λa b h1 h2 h3 h4=>by
  have:a=k:=by lia
  have:b=k:=by lia
  subst a;subst b;exact o.rfl' (hp.lt hn _)))
 obtain⟨w1,w2,w3,w4,w5,w6⟩:=hr
 split
 ·exact X7 o hn (w1.rev _ _) (by lia) (by lia) (X6 o hn w1 (by lia) w5 w6)
 ·exact X7 o hn w1 (by lia) (by lia) w5
theorem zh9(hp:bY n p):gC lt (kas_count n p) λr=>bY n r.2/\1<=r.1/\r.1<=n/\qM le r.2 r.1:=by
 refine gC.bind (λk hk=>?_) (QC o hn hp (n-1) 1 (bJ _) (by lia) (λa b h1 h2=>by lia));obtain⟨k1,k2,k3,k4⟩:=hk;have hs:=hp.size;by_cases e:(k==n)=true
 ·rw[if_pos e];exact .ret ⟨hp,k1,by dsimp only;lia,k3⟩
 ·rw[if_neg e];have GZ:k<n:=by
   have:k≠n:=by simpa using e
   lia
  have hl:=k4 (by lia)
  split
  ·refine sJ o hn (hp.lt hn _) (hp.lt hn _) (λ_=>.ret ⟨hp,k1,by dsimp only;lia,k3⟩) λhz=>?_;have X_:∀a b,a<k->b<k->le (p.getD a 0) (p.getD b 0):=λa b ha hb=>by
    have h1:le (p.getD a 0) (p.getD (k-1) 0):=by
     by_cases q:a=k-1
     ·subst q;exact o.rfl' (hp.lt hn _)
     ·exact k3 a (k-1) (by lia) (by lia)
    have h2:le (p.getD 0 0) (p.getD b 0):=by
     by_cases q:b=0
     ·subst q;exact o.rfl' (hp.lt hn _)
     ·exact k3 0 b (by lia) (by lia)
    exact o.tr _ _ _ (hp.lt hn _) (hp.lt hn _) (hp.lt hn _) (o.tr _ _ _ (hp.lt hn _) (hp.lt hn _) (hp.lt hn _) h1 hz) h2
   refine X8 o hn (hp.rev 0 k) k1 GZ (GX o hn (hp.rev 0 k) k1 (λa b h1 h2=>?_) ?_)
   ·rw[ug (by lia),ug (by lia),if_pos (by lia),if_pos (by lia)];exact X_ _ _ (by lia) (by lia)
   ·rw[ug (by lia),ug (by lia),if_neg (by lia),if_pos (by lia)];exact o.tr _ _ _ (hp.lt hn _) (hp.lt hn _) (hp.lt hn _) hl (X_ _ _ (by lia) (by lia))
  ·have:k=1:=by lia
   subst this;refine X8 o hn hp (bJ _) GZ (GX o hn hp (bJ _) (λa b h1 h2=>by lia) hl)
theorem QD(hp:bY n p)(h:qM le p k):∀f l r,l<=r->r<=k->r-l<=f->(∀a,a<l->le (p.getD a 0) (p.getD k 0))->(∀a,r<=a->a<k->le (p.getD k 0) (p.getD a 0))->gC lt (kas_place p k f l r) λi=>i<=k/\(∀a,a<i->le (p.getD a 0) (p.getD k 0))/\(∀a,i<=a->a<k->le (p.getD k 0) (p.getD a 0))
 |0,l,r,h1,h2,h3,h4,h5=>.ret ⟨by lia,h4,λa z=>h5 a (by lia)⟩
 |f+1,l,r,h1,h2,h3,h4,h5=>by
  unfold kas_place;by_cases e:l>=r
  ·rw[if_pos e];exact .ret ⟨by lia,h4,λa z=>h5 a (by lia)⟩
  ·rw[if_neg e];refine sJ o hn (hp.lt hn _) (hp.lt hn _) (λhl=>?_) λhl=>?_
   ·refine QD hp h f l ((l+r)/2) (by lia) (by lia) (by lia) h4 λa z1 z2=>?_;by_cases q:a=(l+r)/2
    ·subst q;exact hl
    ·exact o.tr _ _ _ (hp.lt hn _) (hp.lt hn _) (hp.lt hn _) hl (h _ a (by lia) z2)
   ·refine QD hp h f ((l+r)/2+1) r (by lia) h2 (by lia) (λa z=>?_) h5;by_cases q:a=(l+r)/2
    ·subst q;exact hl
    ·exact o.tr _ _ _ (hp.lt hn _) (hp.lt hn _) (hp.lt hn _) (h a _ (by lia) (by lia)) hl
theorem Yb:∀f {p:Array Nat} k,bY n p->k+f=n->qM le p k->gC lt (kas_bin f p k) λr=>bY n r/\qM le r n
 |0,p,k,hp,hk,h=>.ret ⟨hp,(show k=n by lia)▸h⟩
 |f+1,p,k,hp,hk,h=>gC.bind (λl hl=>by
   obtain⟨l1,l2,l3⟩:=hl;have hs:=hp.size;refine Yb f (k+1) (hp.bub _ _) (by lia) λa b wY hb=>?_;rw[X5 (by lia) (by lia),X5 (by lia) (by lia),show k-(k-l)=l by lia];by_cases ea:a=l
   ·rw[if_pos ea,if_neg (by lia),if_pos (by lia)];exact l3 (b-1) (by lia) (by lia)
   ·rw[if_neg ea];by_cases ca:l<a/\a<=k
    ·rw[if_pos ca,if_neg (by lia),if_pos (by lia)];exact h _ _ (by lia) (by lia)
    ·rw[if_neg ca];by_cases eb:b=l
     ·rw[if_pos eb];exact l2 a (by lia)
     ·rw[if_neg eb];by_cases cb:l<b/\b<=k
      ·rw[if_pos cb];by_cases q:a=b-1
       ·lia
       ·exact h _ _ (by lia) (by lia)
      ·rw[if_neg cb];exact h _ _ wY (by lia)) (QD o hn hp h k 0 k (by lia) (bJ _) (by lia) (λa z=>by lia) (λa z1 z2=>by lia))
theorem zk7:gC lt (kas_sort n) λp=>bY n p/\qM le p n:=by
 refine gC.bind (λr hr=>?_) (zh9 o hn (.refl _));obtain⟨w1,w2,w3,w4⟩:=hr
 split
 ·rw[Nat.max_eq_left w2];exact Yb o hn _ _ w1 (by lia) w4
 ·have:r.1=n:=by lia
  exact .ret ⟨w1,this▸w4⟩
end
end Mi
namespace Ts
open PySem PySem.SetTable
end Ts
namespace Ts
open Mi PySem PySem.SetTable
end Ts
namespace Ts
open PySem PySem.SetTable
section
variable {prog:Program}{w:World}{A:Around}{E:Value->Shared->Prop}{s:Shared}{S:Addr}{items:List Value}{ts:List (Int×Int)}{L:Ent}{led:Bool}
end
end Ts
namespace Ts
open Mi (wC)
open PySem PySem.SetTable
section
variable {prog:Program}{w:World}{A:Around}{E:Value->Shared->Prop}{s:Shared}{S:Addr}{items:List Value}{ts:List (Int×Int)}{L:Ent}{led:Bool}
end
end Ts
namespace Ts
open PySem PySem.SetTable
section
variable {prog:Program}{w:World}{A:Around}{R:Result->Shared->Prop}{I:Addr}{fp wr:List Addr}{G:Array GenState->Array GenState->Prop}{n:Nat}{P:Nat->Value->Prop}{St:Nat->Shared->Prop}{S:Addr}{items:List Value}{ts:List (Int×Int)}{led:Bool}
end
section
variable {prog:Program}{w:World}{A:Around}{E:Value->Shared->Prop}{s:Shared}
end
section
variable {prog:Program}{w:World}{A:Around}{E:Value->Shared->Prop}{s:Shared}{S:Addr}{items:List Value}{ts:List (Int×Int)}{L:Ent}
end
end Ts
namespace Ts
open PySem PySem.SetTable PySem.Spec PyProof.Rows PySem.W L2
section
variable {prog:Program}{w:World}{A:Around}{E:Value->Shared->Prop}{s:Shared}{S:Addr}{items:List Value}{ts:List (Int×Int)}{L:Ent}
end
end Ts
namespace Mi
open PySem PySem.Spec PyProof.Rows L2 PySem.W Ts
noncomputable def qm(a b:Int×Int):Bool:=decide (a.1<b.1\/a.1=b.1/\a.2<b.2)
noncomputable def G3(us:List (Int×Int))(i j:Nat):Option Bool:=match us[i]?,us[j]? with
 |some a,some b=>some (qm a b)
 |_,_=>none
def Kf(us:List (Int×Int))(i j:Nat):Prop:=qm (us.getD j (0,1)) (us.getD i (0,1))=false
theorem sO{a b:Int×Int}:qm a b=true↔(a.1<b.1\/a.1=b.1/\a.2<b.2):=Ib
theorem QF{a b:Int×Int}:qm a b=false↔¬(a.1<b.1\/a.1=b.1/\a.2<b.2):=Lf
theorem QG(us:List (Int×Int)):Ord us.length (G3 us) (Kf us):=by
 refine⟨λi j hi hj=>?_,λi j k _ _ _ h1 h2=>?_⟩
 ·unfold G3 Kf;rw[dj hi,dj hj,jC,jC,dj hi,dj hj];show (some (qm us[i] us[j])=some true/\qm us[j] us[i]=false)\/(some (qm us[i] us[j])=some false/\qm us[i] us[j]=false);cases e:qm us[i] us[j]
  ·exact .inr ⟨rfl,rfl⟩
  ·refine .inl ⟨rfl,?_⟩;rw[sO] at e;rw[QF]
   lia
 ·unfold Kf at *;rw[QF] at *
  lia
theorem zfC{us:List (Int×Int)}(hn:2<=us.length)(hd:us.Nodup):∃p,bF (G3 us) (kas_sort us.length)=some p/\p.size=us.length/\(∀i∈p.toList,i<us.length)/\(∀x,x∈p.toList.map (λi=>us.getD i (0,1))↔x∈us)/\(p.toList.map λi=>us.getD i (0,1)).Pairwise λa b=>qm a b=true:=by
 obtain⟨p,e,hp,ha⟩:=zk7 (QG us) (by lia);have hs:p.size=us.length:=hp.size;have hm:(p.toList.map λi=>us.getD i (0,1)).Perm us:=by
  have h1:(p.toList.map λi=>us.getD i (0,1)).Perm ((List.range us.length).map λi=>us.getD i (0,1)):=(Array.Perm.toList hp).map _;have h2:((List.range us.length).map λi=>us.getD i (0,1))=us:=by
   apply List.ext_getElem
   ·simp
   ·intro i a b;simp[jC,b]
  rw[h2] at h1;exact h1
 refine⟨p,e,hs,λi hi=>?_,λx=>hm.mem_iff,?_⟩
 ·have:=(Array.Perm.toList hp).mem_iff.mp hi;simpa using this
 ·have nd:(p.toList.map λi=>us.getD i (0,1)).Nodup:=hm.nodup_iff.mpr hd;rw[HS];intro i j hi hj qF;have hne:=HS.mp nd i j hi hj qF;have yM:i<p.size:=by simpa using hi
  have hj':j<p.size:=by simpa using hj
  have hl:=ha i j qF (by lia);unfold Kf at hl;have e1:p.getD i 0=p[i]:=by simp[Array.getD,yM]
  have e2:p.getD j 0=p[j]:=by simp[Array.getD,hj']
  rw[e1,e2] at hl;simp only[List.getElem_map,Array.getElem_toList] at hne ⊢;generalize us.getD p[i] (0,1)=x at *;generalize us.getD p[j] (0,1)=y at *;rw[QF] at hl;rw[sO];obtain⟨x1,x2⟩:=x;obtain⟨y1,y2⟩:=y;simp only[Prod.mk.injEq,ne_eq,not_and] at *
  lia
section
variable {prog:Program}{w:World}{A:Around}{E:Value->Shared->Prop}{s:Shared}{S:Addr}{items:List Value}{ts:List (Int×Int)}{L:Ent}
end
section
variable {X:Cx}
end
section
variable {K:W.Frag}{cA:Cl}{U:Ph}{H:Hp}
end
section
variable {X:Cx}{cA:Cl}{aq:Nat->Nat->Bool}{aj:Bool}{F:Fn}{EX:XS}{e:Expr}{pos pos' p p':Pos}{Xs:Es}{fz:Bool}
end
end Mi
namespace Mi
open PySem PySem.Spec PyProof.Rows L2 PySem.W
section
variable {X:Cx}{a b:Expr}{rest:List Expr}{pos:Pos}{ta tb:TE}
end
section
variable {K:W.Frag}{cA:Cl}{U:Ph}{H:Hp}
theorem zle{d:D}{v:V}{k:Bool}(r:Rv K cA U H d v)(e:uV d=some k):yx K v H k:=by
 cases d with
 |non=>
  cases (show Rep K cA U H .non v from r);cases e;rfl
 |bl c=>
  cases (show Rep K cA U H (.bl c) v from r);cases e;rfl
 |int i=>
  cases (show Rep K cA U H (.int i) v from r);cases e;rfl
 |tup xs=>
  cases (show Rep K cA U H (.tup xs) v from r) with
  |tup t q=>
   cases e;refine .inr (.inl ⟨_,t.iY,?_⟩);cases q<;>rfl
 |fl xs=>
  obtain⟨a,us,rfl,sq,q⟩ : ∃a us,v=.ref a/\cL K H a us/\aB K cA U H xs us:=r;cases e;refine .inl ⟨_,sq,?_⟩;cases q<;>rfl
 |_=>cases e
end
section
variable {X:Cx}{cA:Cl}{aq:Nat->Nat->Bool}{aj:Bool}{F:Fn}{EX:XS}{a b:Expr}{A B:E}{pos p:Pos}{x:Str}{e:Expr}{es:List Expr}{Xs:Es}
noncomputable def sS(sc:Scope)(x:Str):Bool:=match sc.names.lookup x with
 |some k=>zu k
 |none=>false
noncomputable def Kg(sc:Scope)(x:Str):Bool:=match sc.names.lookup x with
 |some .globalImplicit=>true
 |_=>false
theorem QJ{sc:Scope}{x:Str}(h:sS sc x=true):∃k,sc.names.lookup x=some k/\zu k=true:=by
 unfold sS at h;split at h
 ·rename_i k e;exact⟨k,e,h⟩
 ·cases h
theorem Yc{sc:Scope}{x:Str}(h:Kg sc x=true):sc.names.lookup x=some .globalImplicit:=by
 unfold Kg at h;split at h
 ·assumption
 ·cases h
theorem gk(h:Kg X.env.scope x=true:=by kernel_rfl):JK X x .globalImplicit:=⟨Yc h⟩
theorem jl(h:(match X.env.scope.names.lookup x with|some .local=>true|_=>false)=true:=by kernel_rfl):JK X x .local:=by
 split at h
 ·exact⟨by assumption⟩
 ·cases h
theorem jc(h:(match X.env.scope.names.lookup x with|some .cell=>true|_=>false)=true:=by kernel_rfl):JK X x .cell:=by
 split at h
 ·exact⟨by assumption⟩
 ·cases h
theorem zL{scope:Scope}{cl:List (Str×Addr)}{N:List Str}{Cc:Addr}{s3:Shared}{H3:Hp}{fp:List Addr}{ao:List (Addr×Obj)}(h:Kg scope x=true:=by kernel_rfl):JK (X.blk scope cl N Cc s3 H3 fp ao) x .globalImplicit:=Ww (Yc h) rfl
theorem gv(i:Nat)(h:(decide (X.N[i]?=some x)&&sS X.env.scope x&&okN x)=true:=by kernel_rfl):JE X cA aq aj F EX (.Name x pos) (.v i):=by
 rw[gF,gF] at h;obtain⟨k,e,hv⟩:=QJ h.1.2;exact Wx i (j9 h.1.1) ⟨e⟩ hv h.2
theorem cC(i:Nat){scope:Scope}{cl:List (Str×Addr)}{N:List Str}{Cc:Addr}{s3:Shared}{H3:Hp}{fp:List Addr}{ao:List (Addr×Obj)}(h:(decide (N[i]?=some x)&&sS scope x&&okN x)=true:=by kernel_rfl):JE (X.blk scope cl N Cc s3 H3 fp ao) cA aq aj F EX (.Name x pos) (.v i):=by
 rw[gF,gF] at h;obtain⟨k,e,hv⟩:=QJ h.1.2;by_cases hk:k=.free
 ·subst hk;exact znN i (j9 h.1.1) e h.2
 ·exact Wx i (j9 h.1.1) (Ww e (by cases k<;>first|rfl|exact absurd rfl hk)) hv h.2
theorem gc{f k:Nat}{cm:Bool}{st:Stmt}{ps:List Str}(Fo:bT X.prog X.w X.K X.mg X.base (fQ X.prog X.w) cm k (gO X.K x) (fdOf X.K x st) ps (jX X.K cA (F f)))(D:D3 X.K X.mg x st ps)(hr:bB k X.A)(R:JR X EX)(g:JK X x .globalImplicit)(ha:JA X cA aq aj F EX (e::es) Xs)(h:okN x=true:=by kernel_rfl)
  (iQ:cm=true->X.aj=true:=by first|exact λ_=>rfl|exact λz=>nomatch z) (he:aD e=true:=by rfl) (cD:es.all aD=true:=by rfl):JE X cA aq aj F EX (.Call (.Name x p) (e::es) [] pos) (.call f Xs):=
 zjR f Fo iQ hr D.m D.f.kp D.b R g ha h he cD
theorem nd(h:decide X.N.Nodup=true:=by kernel_rfl):X.N.Nodup:=j9 h
end
theorem fJ{P:Program}{w:World}{K:W.Frag}{mg:Str->Option Value}{base:Heap}{cA:Cl}{aq:Nat->Nat->Bool}{T:Nat->Option Df}{x:Str}{st:Stmt}{ps:List Str}{k n:Nat}{cm:Bool}{df:Df}(D:D3 K mg x st ps)(N:List Str)(hT:T n=some df)
  (hb:∀(cdv:Value) (A:Around) (outer:List Env) (s:Shared) (H:Hp) (E:XK),bB k (A.deeper (envOfC x (au st) s.heap.objs.size (gO K x) cdv))->
   JB (fK (fQ P w) P w K mg base N x (au st) (gO K x) cdv A outer s H E cm) cA aq cm (λc=>call aq T k c) (λ_ C dx H'=>E C dx H') (aK st) df.body) (S:cM N ps (au st):=by exact⟨rfl,rfl,rfl,dk,rfl,dk,dk⟩) (hp:df.gM=ps.length:=by rfl) (hm:df.many=N.length:=by rfl) :
  bT P w K mg base (fQ P w) cm (k+1) (gO K x) (fdOf K x st) ps (jX K cA (call aq T (k+1) cm n)):=W2 D.f S hT hp hm hb
end Mi
namespace Mi
open PySem PySem.Spec PyProof.Rows L2
section
variable {K:W.Frag}{cA:Cl}{U:Ph}{H:Hp}{s:S}
theorem Yd{β:Type}{c:Nat}{x:Xv}{v:V}{k:List D->M β}{P:β->S->Ph->Hp->Prop}{Ee:Nat->List D->S->Ph->Hp->Prop}(r:aV K cA U H x v)(h:Run K cA (M.bd (pZ c x) k) U H s P Ee) :
  ∃fs ad dx vs,v=.ref ad/\H ad=some (.ins (cA.b c) dx ((cA.g c).zip vs))/\aB K cA U H fs vs/\Run K cA (k fs) U H s P Ee:=by
 cases r with
 |l _=>exact h.elim
 |d r=>cases r with
  |@ob ad e fs vs q r=>
   have h2:Run K cA (M.bd (if e=c then M.ret fs else M.no) k) U H s P Ee:=h;clear h;by_cases z:e=c
   ·rw[if_pos z] at h2;subst z;obtain⟨_,dx,q1,_⟩:=q;exact⟨fs,ad,dx,vs,rfl,q1,r,h2⟩
   ·rw[if_neg z] at h2;exact h2.elim
  |_=>exact h.elim
theorem Run.qt'{α:Type}{m:M α}{P:α->S->Ph->Hp->Prop}{Ee Ee':Nat->List D->S->Ph->Hp->Prop}(h:Run K cA (M.qt m) U H s P Ee):Run K cA m U H s P Ee':=by
 unfold Run M.qt at *;cases e:m s with
 |none=>rw[e] at h;exact h
 |some r=>
  obtain⟨r,s1⟩:=r;rw[e] at h;cases r with
  |ok a=>exact h
  |er c f=>exact h.elim
theorem Ye:∀{ns:List Str} {vs:List V} {m:Str},m∉ns->(ns.zip vs).lookup m=none
 |[],vs,m,_=>by simp
 |n::ns,[],m,_=>by simp
 |n::ns,v::vs,m,h=>by
  rw[Ca,m_,show (m==n)=false from vM.mpr λe=>h (by simp[e])];exact Ye λz=>h (gQ _ z)
end
structure Ow(K:W.Frag)(cA:Cl)(c:Nat):Prop where
 cl:Cls K (cA.b c)
 nf:∀f∈cA.g c,f9 K (cA.b c) f
 nd:(cA.g c).Nodup
section
variable {X:Cx}{cA:Cl}{aq:Nat->Nat->Bool}{aj:Bool}{F:Fn}{EX:XS}{a e:Expr}{es:List Expr}{A:E}{Xs:Es}{pos apos p:Pos}{x:Str}
theorem Bt{c i:Nat}(o:Ow X.K cA c)(ha:JE X cA aq aj F EX a A)(hi:((cA.g c)[i]?==some x)=true:=by kernel_rfl)(hb:attributeBase a x X.env (eval a X.env)=eval a X.env:=by rfl):JE X cA aq aj F EX (.Attribute a x pos) (.of A c i):=⟨PE.weak (zkM ha.o hb) λZ H Q hh=>un hh λU J s hL hS h=>by
 refine aW hL hS h λy H1 U1 d1 s1 x1 hL1 aJ r1 h1=>?_;obtain⟨fs,ad,dx,vs,rfl,q1,q2,h2⟩:=Yd r1 h1;have hi:(cA.g c)[i]?=some x:=m5.mp hi;cases ef:fs[i]? with
 |none=>rw[ef] at h2;exact h2.elim
 |some d=>
  rw[ef] at h2;obtain⟨v,e1,rv⟩:=q2.get ef;exact⟨ad,_,dx,_,v,rfl,q1,o.cl,o.nf x (fB hi),zeN o.nd hi e1,h2.bC aJ v (.d rv)⟩⟩
theorem Yg:Passes (fQ X.prog X.w) X λ_ _ _=>False:=λao Z H s e s' I h=>by
 obtain⟨_,_,_,_,_,_,_,_,_,_,z⟩:=h;exact z.elim
structure Mt(K:W.Frag)(C:Addr)(m q:Str)(st:Stmt)(ps:List Str)(f:Addr)(fd:FuncData):Prop where
 fn:mQ K m q st f fd
 mt:Meth K C m f
 bd:Binds K fd ps []
theorem vH{c f k:Nat}{cm:Bool}{m q:Str}{st:Stmt}{ps:List Str}{fa:Addr}{fd:FuncData}{pl:Sem Bool}(o:Ow X.K cA c)(D:Mt X.K (cA.b c) m q st ps fa fd)(Fo:bT X.prog X.w X.K X.mg X.base (fQ X.prog X.w) cm k fa fd ps (jX X.K cA (F f)))(hr:bB k X.A)(ha:JE X cA aq aj F EX a A)(hb:JA X cA aq aj F EX (e::es) Xs)
  (hm:decide (m∉cA.g c)=true:=by kernel_rfl) (iQ:cm=true->X.aj=true:=by first|exact λ_=>rfl|exact λz=>nomatch z) (he:aD e=true:=by rfl) (cD:es.all aD=true:=by rfl)
  (ht:eval (.Call (.Attribute a m apos) (e::es) [] pos) X.env=(do
   let ov <-eval a X.env
   standAt apos.atName
   let (f,first) <-holding [ov] (getMethod ov m pl)
   callWith pos f first (backTo pos (starEach (e::es) X.env)) (backToKw pos (keywordEach [] X.env))):=by rfl):JE X cA aq aj F EX (.Call (.Attribute a m apos) (e::es) [] pos) (.cm c f A Xs):=⟨PE.weak (zia (pl:=pl) (lZ:=[]) ha.o o.cl D.mt Fo iQ hr D.bd .nil Yg hb.o (aY he) (bw cD) ht) λZ H Q hh=>un hh λU J s hL hS h=>by
 refine aW hL hS h λy H1 U1 d1 s1 x1 hL1 aJ r1 h1=>?_;obtain⟨fs,ad,dx,vs,rfl,q1,q2,h2⟩:=Yd r1 h1;refine⟨ad,dx,_,rfl,q1,Ye (j9 hm),nU hL1 aJ h2 λus H2 U2 ds s2 x2 hL2 aR r2 h3=>?_⟩;rw[vU];obtain⟨U0,s0,a1,a2,a3⟩:=Wf (EE:=λ_ _ _ _=>False) aR (.cons (r1.mono x2 aJ.lz) r2) (λ_ _ _ _ _ _ z=>z) (h3.qt');refine⟨U0,_,s0,a1,a2,?_⟩;unfold Run at a3 ⊢;split at a3
 ·exact a3
 ·exact λU' H' x r=>(a3 U' H' x r).elim
 ·exact a3⟩
end
noncomputable def Kh(K:W.Frag)(cA:Cl)(c:Nat)(m:List Xv->M Xv):Sp:=λvs H Q _=>∃x dx us U H0 xs s,vs=.ref x::us/\H0 x=none/\H0 dx=none/\dx≠x/\H=upd (upd H0 dx (.own x)) x (.ins (cA.b c) dx [])/\aO K cA U H0 xs us/\aF K cA U H0 s /\
 Run K cA (m (.d .any::xs)) U H0 s (λr _ U' H'=>∀ds ws,r=.d (.tup ds)->aB K cA U' H' ds ws->dZ U' H' x (.ins (cA.b c) dx ((cA.g c).zip ws))->(cA.g c).length=ws.length->Q .non H') (λ_ _ _ _ _=>False)
section
variable {K:W.Frag}{cA:Cl}{U:Ph}{H:Hp}{s:S}
theorem zhi{xs:List Xv}{vs:List V}(h:locs xs=[])(r:aO K cA U H xs vs)(l:List Addr):aO K cA ⟨U.z,l⟩ H xs vs:=by
 induction r with
 |nil=>exact .nil
 |cons a r ih=>cases a with
  |d a=>exact .cons (.d (Rep.zl a l)) (ih h)
  |l a=>cases h
theorem Ext.made{x dx:Addr}{C:Addr}(hx:H x=none)(hd:H dx=none)(hn:dx≠x):Ext U H (U.mark x) (upd (upd H dx (.own x)) x (.ins C dx [])):=by
 have g:bf H (upd (upd H dx (.own x)) x (.ins C dx [])):=(bf.new hd).trans (bf.new (by rw[dO hn.symm];exact hx));exact⟨⟨[],by simp[Ph.mark],by simp⟩,λa z=>.inl z,λa z=>z.imp id λe=>by rw[e];exact hx,λa o h _=>g a o h,λa o h=>⟨o,g a o h⟩⟩
theorem aF.made{x dx:Addr}{C:Addr}(hS:aF K cA U H s)(hx:H x=none)(hd:H dx=none)(hn:dx≠x):aF K cA (U.mark x) (upd (upd H dx (.own x)) x (.ins C dx [])) s:=by
 have xt:=Ext.made (U:=U) (C:=C) hx hd hn;refine⟨hS.len,λn o a e1 e2=>(hS.obj n o a e1 e2).map (λu q=>?_) λ_ _ r=>r.mono xt hS.lz,hS.uniq,λa ha=>.inl (hS.lz a ha),λa z=>?_⟩
 ·have n1:a≠x:=λy=>by rw[y,hx] at q;cases q
  have n2:a≠dx:=λy=>by rw[y,hd] at q;cases q
  rw[dO n1,dO n2];exact q
 ·rcases z with z|z
  ·obtain⟨o,e⟩:=hS.zt a z;exact xt.stay a o e
  ·subst z;exact⟨_,jy⟩
end
section
variable {X:Cx}{cA:Cl}{aq:Nat->Nat->Bool}{aj:Bool}{F:Fn}{EX:XS}{e:Expr}{es:List Expr}{Xs:Es}{pos p:Pos}{x:Str}
theorem znP{c f k:Nat}{cm:Bool}{ps:List Str}{fa:Addr}{fd:FuncData}(M:Mk X.K (cA.b c) fa)(Fo:bT X.prog X.w X.K X.mg X.base (fQ X.prog X.w) cm k fa fd ps (Kh X.K cA c (F f)))(hr:∀us,bB k (X.A.under (.builtin "type.__call__" ⟨.ref (cA.b c)::us,[]⟩)))(hb:Binds X.K fd ps [])(hm:X.mg x=some (.ref (cA.b c)))(hg:JK X x .globalImplicit)
  (ha:JA X cA aq aj F EX (e::es) Xs) (h:okN x=true:=by kernel_rfl) (iQ:cm=true->X.aj=true:=by first|exact λ_=>rfl|exact λz=>nomatch z) (he:aD e=true:=by rfl) (cD:es.all aD=true:=by rfl):JE X cA aq aj F EX (.Call (.Name x p) (e::es) [] pos) (.mk c f Xs):=⟨PE.weak (ziG (lZ:=[]) M Fo iQ hr hg.o hm hb .nil Yg ha.o (rT h).1 (aY he) (bw cD)) λZ H Q hh=>un hh λU J s hL hS h=>
 nU hL hS h λus H1 U1 ds s1 x1 hL1 aJ r1 h1 x dx hx hd hn=>by
  rw[vU];unfold Run O5 at h1;by_cases hl:locs ds=[]
  ·simp only[if_pos hl] at h1;refine⟨x,dx,us,⟨U1.z,[]⟩,H1,ds,[],rfl,hx,hd,hn,rfl,zhi hl r1 [],⟨rfl,(λn o a e=>by simp at e),Af,(λa ha=>by cases ha),aJ.zt⟩,?_⟩;unfold Run;cases e:F f (.d .any::ds) [] with
   |none=>simp only[e] at h1
   |some r=>
    obtain⟨r,s2⟩:=r;simp only[e] at h1;cases r with
    |er c f=>exact h1.elim
    |ok r=>
     intro U' H' xt aR ts ws er rs kp hlen;subst er;have nx:¬U1.z x:=aJ.nz hx;have ne:∀a o,H1 a=some o->a≠x:=λa o q y=>by rw[y,hx] at q;cases q
     have Yh:Ext U1 H1 ⟨λa=>U'.z a/\a≠x,U1.l⟩ H':=by
      refine⟨⟨[],by simp,by simp⟩,λa z=>⟨xt.qK a z,λy=>nx (y▸z)⟩,λa z=>xt.lE a z.1,λa o q _=>xt.frame a o q (by simp),xt.stay⟩
     refine⟨rfl,h1 _ H' Yh ⟨aJ.len,λn o a e1 e2=>(aJ.obj n o a e1 e2).map (λu q=>xt.frame a u q (by simp)) λ_ _ r=>r.mono Yh aJ.lz,aJ.uniq,λa ha=>⟨xt.qK a (aJ.lz a ha),λy=>nx (y▸aJ.lz a ha)⟩,λa z=>aR.zt a z.1⟩ _ (.d (.ob ⟨λz=>z.2 rfl,dx,kp.at_,hlen⟩ (rs.ju (U':=⟨λa=>U'.z a/\a≠x,U1.l⟩) λ_ z=>z.1)))⟩
  ·simp only[if_neg hl] at h1⟩
end
structure vI(X:Cx)(cA:Cl)(aq:Nat->Nat->Bool)(aj:Bool)(F:Fn)(EX:XS)(c:Nat)(body:List Stmt)(is:Es)(ns:List Str):Prop where
 o:oH X body λD Z H=>∃U0 H0 U J s x dx done vs ys,Ext U0 H0 U H/\aX X.K cA U H Z J/\aF X.K cA U H s/\H0 x=none/\Z[0]?=some (some (.ref x))/\dZ U H x (.ins (cA.b c) dx (done.zip vs))/\aO X.K cA U H ys vs/\done.length=vs.length/\done++ns=cA.g c/\done.length+ns.length<=900 /\
  Run X.K cA (M.bd (evs aq aj F is J) λzs=>bW (ys++zs)) U0 H0 s (λes _ U' H'=>∀ws,aB X.K cA U' H' es ws->dZ U' H' x (.ins (cA.b c) dx ((cA.g c).zip ws))->(cA.g c).length=ws.length->D.nx Z H') (eX X.K cA EX Z)
theorem Yi{f:Str}{v:V}:∀{fs:List (Str×V)},f∉fs.map (·.1)->eG f v fs=fs++[(f,v)]
 |[],_=>rfl
 |(g,x)::r,h=>by
  unfold eG;rw[if_neg λe=>h (by simp[e]),Yi λz=>h (gQ _ z)];rfl
theorem aO.out{K:W.Frag}{cA:Cl}{U:Ph}{H H':Hp}(x:cP U H H'):∀{ds:List Xv} {vs:List V},aO K cA U H ds vs->aO K cA U H' ds vs
 |_,_,.nil=>.nil
 |_,_,.cons h r=>.cons (h.out x) (aO.out x r)
theorem aO.app{K:W.Frag}{cA:Cl}{U:Ph}{H:Hp}:∀{ds es:List Xv} {vs us:List V},aO K cA U H ds vs->aO K cA U H es us->aO K cA U H (ds++es) (vs++us)
 |_,_,_,_,.nil,s=>s
 |_,_,_,_,.cons h r,s=>.cons h (aO.app r s)
theorem Run.er{K:W.Frag}{cA:Cl}{U:Ph}{H:Hp}{s:S}{α:Type}{m:M α}{P:α->S->Ph->Hp->Prop}{Ee:Nat->List D->S->Ph->Hp->Prop}(h:Run K cA m U H s P λ_ _ _ _ _=>False):Run K cA m U H s P Ee:=by
 unfold Run at *;split at h
 ·exact h
 ·exact λU' H' x r=>(h U' H' x r).elim
 ·exact h
section
variable {X:Cx}{cA:Cl}{aq:Nat->Nat->Bool}{aj:Bool}{F:Fn}{EX:XS}{c:Nat}{a:Expr}{A:E}{is:Es}{ns:List Str}{body:List Stmt}{f:Str}{pos p p2:Pos}
theorem zkq:vI X cA aq aj F EX c [] .nil []:=⟨λao s Z H D I hh=>Ub ao s Z H D I (by
 obtain⟨U0,H0,U,J,st,x,dx,done,vs,ys,xt,hL,hS,hx,h0,kp,rs,hl,hg,hz,h⟩:=hh;rw[vU] at hg;subst hg;have h2:Run X.K cA (M.bd (bW ys) M.ret) U H st (λes _ U' H'=>∀ws,aB X.K cA U' H' es ws->dZ U' H' x (.ins (cA.b c) dx ((cA.g c).zip ws))->(cA.g c).length=ws.length->D.nx Z H') (eX X.K cA EX Z):=by
  have h3:=h.ext xt;unfold Run at h3 ⊢;have e0:M.bd (evs aq aj F .nil J) (λzs=>bW (ys++zs)) st=bW ys st:=by show bW (ys++[]) st=_;rw[vU]
  rw[e0] at h3;unfold M.bd;cases e1:bW ys st with
  |none=>rw[e1] at h3;exact h3
  |some r=>
   obtain⟨r,s2⟩:=r;rw[e1] at h3;cases r with
   |er c f=>exact h3
   |ok ds=>exact h3
 obtain⟨ds,_,rs2,h4⟩:=O9 rs h2;exact h4.bC hS vs rs2 kp hl)⟩
theorem Kl{j:Nat}(ow:Ow X.K cA c)(ha:JE X cA aq aj F EX a A)(hr:vI X cA aq aj F EX c body is ns)(h0:(decide (X.N[0]?=some ("self" : Str))&&sS X.env.scope "self"&&okN "self")=true:=by kernel_rfl)
  (hs:swapsWith a (some (.Attribute (.Name "self" p) f p2)) pos.line X.env=pure false:=by rfl):vI X cA aq aj F EX c (.Assign [.Attribute (.Name "self" p) f p2] a pos::body) (.cons A is) (f::ns):=by
 rw[gF,gF] at h0;obtain⟨k,e,hv⟩:=QJ h0.1.2;refine⟨λao s Z H D I hh=>Uc (zkt (T8 (i:=0) (j9 h0.1.1) (by cases k<;>first|exact .inl e|exact .inr (.inl e)|exact .inr (.inr e)|cases hv) (rT h0.2).1 (rT h0.2).2.1) ha.o hs) hr.o ao s Z H D I ?_⟩;obtain⟨U0,H0,U,J,st,x,dx,done,vs,ys,xt,hL,hS,hx,Yj,kp,rs,hl,hg,hz,h⟩:=hh;have h:Run X.K cA (M.bd (M.bd (ev aq aj F A J) λy=>M.bd (evs aq aj F is J) λzs=>M.ret (y::zs)) λzs=>bW (ys++zs)) U0 H0 st _ _:=h;simp only[jf] at h;refine⟨U,J,st,hL,hS,(h.bd0 xt).imp λy s1 U1 H1 ⟨x1,aJ,h1⟩ v rv=>?_⟩;have Km:=kp.mono x1;have nf:f∈cA.g c:=by rw[<-hg];simp
 have nd:f∉done:=λz=>by
  have:=ow.nd;rw[<-hg,Ii] at this;exact this.2.2 f z f (by simp) rfl
 have hk:(done.zip vs).map (·.1)=done:=by rw[List.map_fst_zip];lia
 refine⟨.ref x,Yj,x,_,dx,_,rfl,Km.at_,ow.cl,ow.nf f nf,?_,?_⟩
 ·have:(done.zip vs).length<=done.length:=by rw[List.length_zip];lia
  simp at hz
  lia
 rw[Yi (by rw[hk];exact nd)];have ez:done.zip vs++[(f,v)]=(done++[f]).zip (vs++[v]):=by rw[List.zip_append hl];rfl
 rw[ez];have ox:cP U1 H1 (upd H1 x (.ins (cA.b c) dx ((done++[f]).zip (vs++[v])))):=Km.ext.1;refine⟨U0,H0,U1,J,s1,x,dx,done++[f],vs++[v],ys++[y],Ext.keep (vs:=[]) (xt.trans x1) hx,(hL.mono x1 hS.lz).out ox,aJ.keep Km,hx,Yj,Km.ext.2,((rs.mono x1 hS.lz).app (.cons rv .nil)).out ox,by simp[hl],by rw[<-hg,Ih];rfl,by simp at hz ⊢;lia,?_⟩;have h1:Run X.K cA (M.bd (evs aq aj F is J) λzs=>M.bd (M.ret (y::zs)) λzs=>bW (ys++zs)) U0 H0 s1 _ _:=h1;have e2:(λzs=>bW (ys++[y]++zs))=λzs=>M.bd (M.ret (y::zs)) λzs=>bW (ys++zs):=by
  funext zs
  rw[Ih];rfl
 rw[e2];exact h1
end
theorem zgr{K:W.Frag}{cA:Cl}{U:Ph}{H:Hp}{s:S}{α:Type}{m m':M α}{P:α->S->Ph->Hp->Prop}{Ee:Nat->List D->S->Ph->Hp->Prop}(e:m s=m' s)(h:Run K cA m U H s P Ee):Run K cA m' U H s P Ee:=by
 unfold Run at *;rw[<-e];exact h
theorem zfD{aq:Nat->Nat->Bool}{T:Nat->Option Df}{k n m p:Nat}{cm:Bool}{is:Es}{xs:List Xv}{s:S}(hT:T n=some ⟨m,p,.cons (.ret (.tup is)) .nil⟩)(hl:xs.length=p) :
  call aq T (k+1) cm n xs s=M.bd (M.bd (evs aq cm (call aq T k cm) is (xs.map some++List.replicate (m-p) none)) bW) (λds=>M.ret (.d (.tup ds))) s:=by
 unfold call;simp only[hT,if_pos hl];show (match b_ (ofM (M.bd (evs aq cm (call aq T k cm) is _) λvs=>M.bd (bW vs) λds=>M.ret (.d (.tup ds))) _ λx s=>some (.rt x,s)) _ s with|some (.nx _,s')=>_|some (.rt v,s')=>_|some (.er c fs _,s')=>_|_=>none)=_;rw[jf];unfold b_ ofM;cases e:M.bd (evs aq cm (call aq T k cm) is (xs.map some++List.replicate (m-p) none)) (λvs=>M.bd (bW vs) λds=>M.ret (Xv.d (.tup ds))) s with
 |none=>rfl
 |some r=>
  obtain⟨r,s1⟩:=r;cases r<;>rfl
theorem zjz{P:Program}{w:World}{K:W.Frag}{mg:Str->Option Value}{base:Heap}{cA:Cl}{aq:Nat->Nat->Bool}{T:Nat->Option Df}{x qual:Str}{st:Stmt}{f:Addr}{fd:FuncData}{N ps:List Str}{k n c m p:Nat}{cm:Bool}{is:Es}(F:mQ K x qual st f fd)(hT:T n=some ⟨m,p,.cons (.ret (.tup is)) .nil⟩)
  (hb:∀(cdv:Value) (A:Around) (outer:List Env) (s:Shared) (H:Hp) (E:XK),bB k (A.deeper (envOfC qual (au st) s.heap.objs.size f cdv))->
   vI (fK (fQ P w) P w K mg base N qual (au st) f cdv A outer s H E cm) cA aq cm (call aq T k cm) (λ_ C dx H'=>E C dx H') c (aK st) is (cA.g c)) (hg:(cA.g c).length<=900) (S:cM N ps (au st):=by exact⟨rfl,rfl,rfl,dk,rfl,dk,dk⟩) (hp:p=ps.length:=by rfl) (hm:m=N.length:=by rfl) (h0:0<p:=by decide) :
  bT P w K mg base (fQ P w) cm (k+1) f fd ps (Kh K cA c (call aq T (k+1) cm n)):=by
 obtain⟨oc,od,kV,doc,pm,an,cdv,ct,osl,rfl,lk,jz⟩:=F.ex;have hlen:∀{U:Ph} {H:Hp} {s:Mi.S} {xs:List Xv} {P:Xv->Mi.S->Ph->Hp->Prop},Run K cA (call aq T (k+1) cm n (.d .any::xs)) U H s P (λ_ _ _ _ _=>False)->xs.length+1=p:=λ{U H s xs P} h=>by
  unfold call at h;simp only[hT] at h;by_cases hl:(Xv.d D.any::xs).length=p
  ·simpa using hl
  ·rw[if_neg hl] at h;exact h.elim
 refine Uv lk jz S (λvs H Q E ⟨x,dx,us,U,H0,xs,s,e,_,_,_,_,r,_,h⟩=>?_) λA outer s H vs Q E hr ⟨x,dx,us,U,H0,xs,st',e,hx,hd,hn,eH,r,hS,h⟩=>⟨_,(hb cdv A outer s H E (hr.deeper _)).o,?_⟩
 ·have:=hlen h;rw[e,gD,<-r.len,<-hp]
  lia
 ·subst e eH;have hl:=hlen h;have xt:=Ext.made (U:=U) (C:=cA.b c) hx hd hn;refine⟨U,H0,U.mark x,(Xv.d .any::xs).map some++List.replicate (m-p) none,st',x,dx,[],[],[],xt,Ws (.cons (.d (.any x)) (r.mono xt hS.lz)) (by simp;lia) hm,hS.made hx hd hn,hx,rfl,⟨jy,λz=>hS.nz hx (hS.lz x z),.inr rfl⟩,.nil,rfl,rfl,by simpa using hg,?_⟩;have h2:=(zgr (zfD hT (by simpa using hl)) h).bd0 Ext.refl;exact Run.er (Run.imp h2 λds s1 U1 H1 ⟨x1,aJ,h4⟩ ws rs kp hl=>h4 U1 H1 x1 aJ ds ws rfl rs kp hl)
section
variable {prog:Program}{w:World}{A:Around}{E:Value->Shared->Prop}{s:Shared}
theorem zdh{r:Addr}{n:Nat}{lo hi:Int}{t u v:Tok}{Q:List Value->Shared->Prop}(hh:A.handled=none)(hr:IsRange s.heap r lo hi 1 t u v)(hs:Builtin.Range.small lo hi 1=true)(hn:Builtin.Range.rangeSize lo hi 1=n)(hl:n<=65536)
  (q:∀(h':Heap) (tk:Nat) (acc:Array Value),(∀b o,s.heap.get? b=some o->h'.get? b=some o)->ItemsOf (λi v=>∃t,v=.int (lo+i*1) t) acc n->Q acc.toList {s with heap:=h',toks:=tk}):wpAny (model prog w) A (collect (.ref r)) Q E s:=by
 unfold collect;refine aC (wpAny_runValue (Cj F.entry_proto_collect ?_));rw[BW F.plain_proto_collect _];refine aC (m:=newList []) (wpAny_newList (aU ⟨Cq F.plain_list_iadd _,Cj F.entry_list_iadd ?_⟩));rw[BW F.plain_list_iadd _];have fin:∀{r':Result} {s':Shared},(∃h' tk acc c,r'=.ok (.ret (.ref s.heap.objs.size))/\s'={s with heap:=h',toks:=tk}/\h'.get? s.heap.objs.size=some (seqObj "list" acc c)/\(∀b o,s.heap.get? b=some o->h'.get? b=some o)/\ItemsOf (λi v=>∃t,v=.int (lo+i*1) t) acc n)->(match r' with
   |.ok (.ret v)=>wpAny (model prog w) A (match v with
    |.ref a=>do
     match (<-load a).data with
      |.seq xs _=>pure xs.toList
      |_=>unsupported "internal:collect"
    |_=>unsupported "internal:collect") Q E s'
   |.ok _=>False
   |.error e=>E e s'):=λ{r' s'} z=>by
  obtain⟨h',tk,acc,c,rfl,rfl,hS,kp,qp⟩:=z;exact aC (wpAny_load hS (aU (q h' tk acc kp qp)))
 refine lK (wpAny_extend_range (A:=A) (s:={s with heap:=s.heap.push (seqObj "list" #[] 0)}) (R:=λr' s'=>∃h' tk acc c,r'=.ok (.ret (.ref s.heap.objs.size))/\s'={s with heap:=h',toks:=tk}/\h'.get? s.heap.objs.size=some (seqObj "list" acc c)/\(∀b o,s.heap.get? b=some o->h'.get? b=some o)/\ItemsOf (λi v=>∃t,v=.int (lo+i*1) t) acc n)
  hh (cJ _ hr) hs hn (by lia) s.heap.objs.size (.ref s.heap.objs.size) 0 (fC _ rfl) λh' tk acc c kp hS qp=>⟨h',tk,acc,c,rfl,rfl,hS,λb o e=>kp b o (dw (bQ e)) (cJ _ e),qp⟩) (λf s' z=>?_) λe s' z=>?_
 ·cases f with
  |done f=>exact fin z
  |again c'=>exact⟨z.1,Ag z.2 λr s'' hr=>fin hr⟩
 ·obtain⟨_,_,_,_,e,_⟩:=z;cases e
end
theorem zeQ(r:Addr)(lo hi:Int)(t u v:Tok)(n:Nat)(hs:Builtin.Range.small lo hi 1=true)(hn:Builtin.Range.rangeSize lo hi 1=n)(hl:n<=65536):Meets (Builtin.«tuple.__new__» ⟨[.type "tuple",.ref r],[]⟩)
   (λA R s=>A.handled=none/\IsRange s.heap r lo hi 1 t u v/\∀(h':Heap) (tk:Nat) (acc:Array Value),(∀b o,s.heap.get? b=some o->h'.get? b=some o)->ItemsOf (λi v=>∃t,v=.int (lo+i*1) t) acc n->R (.ok (.ret (.ref h'.objs.size))) {s with heap:=h'.push {cls:=.type "tuple",data:=.seq acc},toks:=tk}):=
 .of_wp λprog w A R s h=>by
  obtain⟨hh,hr,h⟩:=h;have hsub:=sub_tuple_self;have hinit:=init_tuple_lookup;have hmh:=madeHere_tuple;have hT:s.TypeIs (.ref r) "range":=⟨_,hr,rfl⟩;have hh1:A.in1.handled=none:=hh
  wp_walk using wpAny_typeOf hT,HW hr,zdh hh1 hr hs hn hl
  intro h' tk acc hk qp;show wpAny _ _ (Builtin.Tuple.tupleExact acc.toList.toArray >>= λv=>ret v) _ _ _;unfold Builtin.Tuple.tupleExact;have e:acc.toList.toArray=acc:=by simp
  rw[e];exact aC (qP (aU ⟨_,rfl,h h' tk acc hk qp⟩) (show acc.size<=sizeLine by rw[qp.1];exact jM hl (by decide)))
section
variable {X:Cx}
theorem zbV{ao:List (Addr×Obj)}{Z:L2.St}{H:Hp}{s:Shared}{Q:VK}{hi:Int}{t u v:Tok}{tk:Nat}(hc:X.aj=true)(I:Inv X ao Z H s)(hk:okR 0 hi=true)
  (q:∀l,H l=none->Q (.ref l) (upd H l (.tup (Bq 0 (hi-0).toNat)))) :
  wpAny (model X.prog X.w) X.A (PySem.call (.type "tuple") [.ref s.heap.objs.size]) (EP X ao Z Q) X.xe {s with heap:=s.heap.push {cls:=.type "range",data:=.fields #[.int 0 t,.int hi u,.int 1 v]},toks:=tk}:=by
 obtain⟨h1,h2,h3,h4,h5⟩:=j9 hk;have en:Builtin.Range.rangeSize 0 hi 1=((hi-0).toNat:Nat):=by rw[rangeSize_one];split<;>lia
 refine callType_new F.called_tuple (by decide) (F.typeCall_tuple_1 _) (F.newCall_tuple_1 _) (λobj=>F.args_object_init_2 obj _) F.entry_tuple_new (zeQ _ 0 hi t u v _ (small_one h1 h2 h3 h4) en h5) ⟨I.ok.hd hc,IsRange.new ..,λh' tk' acc kp ⟨z1,z2⟩=>?_⟩;have hv:Vals (Bq 0 (hi-0).toNat) acc.toList:=by
  have:=zjs (i:=0) (acc:=acc) (n:=(hi-0).toNat) (m:=0) (λk v e=>by
   obtain⟨t,e⟩:=z2 k v (by simpa using e);exact⟨t,by rw[e,Int.mul_one,Nat.zero_add]⟩) (by rw[vN];exact z1)
  simpa [Bq] using this
 have hz:s.heap.objs.size<=h'.objs.size:=vW (bQ (kp _ _ (fC s.heap rfl)));have I':=I.laid (a:=h'.objs.size) (o:=.tup (Bq 0 (hi-0).toNat)) (h':=h'.push {cls:=.type "tuple",data:=.seq acc}) (t':=tk') (λb u q=>cJ _ (kp b u (cJ _ q))) hz (show bH X.prog X.w _ _ _ (.tup (Bq 0 (hi-0).toNat)) from ⟨by
  rw[hv.length,vN,z1];exact jM h5 (by decide),acc.toList,hv,⟨_,fC _ rfl,rfl,0,by simp⟩⟩)
 exact⟨⟨_,fC _ rfl,rfl⟩,.ref h'.objs.size,_,I',rfl,q _ (I.hok.fresh hz)⟩
def G4(vs:List V)(H:Hp)(Q:VK):Prop:=∃j:Int,vs=[.int j]/\okR 0 j=true/\∀l,H l=none->Q (.ref l) (upd H l (.tup (Bq 0 (j-0).toNat)))
theorem zk0{e:Expr}{t:TA}{p p' pos pos':Pos}(hc:X.aj=true)(hg:Gl X "tuple")(hm:X.mg "tuple"=none)(QK:Gl X "range")(QL:X.mg "range"=none)(ha:PA X [e] t)(he:starEach [e] X.env=(false,eval e X.env)::starEach [] X.env:=by rfl) :
  PE X (.Call (.Name "tuple" p) [.Call (.Name "range" p') [e] [] pos'] [] pos) (Ng G4 t):=by
 intro ao s Z H Q I h;refine zX (uz I hg hm J0 ?_);refine xq ?_ rfl rfl;show wpAny _ _ (spliced ((false,eval (.Call (.Name "range" p') [e] [] pos') X.env)::backTo pos (starEach [] X.env))) _ _ s;refine Calls.spliced_cons ?_;refine zX (uz I QK QL boot_range ?_);refine xq (aZ (ha pos' ao s Z H _ I h) λus s1 ⟨vs,H1,I1,r1,q1⟩=>?_) he rfl;obtain⟨j,rfl,hk,q⟩:=q1;cases r1 with
 |cons r rr=>
  cases rr;obtain⟨t,rfl⟩:=r;exact call_range_1 (Calls.spliced_nil (zbV hc I1 hk q))
theorem zlH{e:Expr}{te:TE}(h:PE X e te)(he:∀whole,isTrue e X.env whole=(do let v <-whole;standAt e.pos;holding [v] (truthy v))):PT X e (λZ H Q=>te Z H λx H1=>∃k,yx X.K x H1 k/\Q k H1):=by
 intro ao s Z H Q I hw;exact isTrue_plain (aZ (h ao s Z H _ I hw) λv s1 hx=>dY hx λx H1 I1 r1 q1=>zlP ao s1 Z H1 x v Q I1 r1 q1) (he _)
end
section
variable {K:W.Frag}{cA:Cl}{U:Ph}{H:Hp}
theorem zlQ:bx K cA .Ax G4:=by
 intro U H ds vs Q zt rs o;have o:bG K cA U H (yW ds) Q:=o;unfold yW at o;split at o
 ·rename_i j _;obtain⟨v,rfl,r1⟩:=rs.one;cases (show Rep K cA U H (.int j) v from r1);by_cases hk:okR 0 j=true
  ·rw[if_pos hk] at o;exact⟨j,rfl,hk,λl hl=>o.tup zt (Xe _) hl⟩
  ·rw[if_neg hk] at o;exact o.elim
 ·exact o.elim
end
section
variable {X:Cx}{cA:Cl}{aq:Nat->Nat->Bool}{aj:Bool}{F:Fn}{EX:XS}{a e:Expr}{A:E}{pos pos' p p':Pos}{Xs:Es}{fz:Bool}
theorem zm0(hc:X.aj=true)(hm:X.mg "tuple"=none)(hg:JK X "tuple" .globalImplicit)(QL:X.mg "range"=none)(QK:JK X "range" .globalImplicit)(ha:JA X cA aq aj F EX [e] Xs)(he:aD e=true:=by rfl):JE X cA aq aj F EX (.Call (.Name "tuple" p) [.Call (.Name "range" p') [e] [] pos'] [] pos) (.pr fz .Ax Xs):=⟨PE.weak (zk0 hc hg.o hm QK.o QL ha.o (aY he)) λZ H Q hh=>un hh λU J s hL hS h=>
 nU hL hS h λvs H1 U1 ds s1 x1 hL1 aJ r1 h1=>by
  obtain⟨ds,rs,h3⟩:=tW aJ r1 h1;exact zlQ U1 H1 ds _ _ aJ.zs rs (rG aJ h3)⟩
theorem zmg(ha:JE X cA aq aj F EX a A)(he:wN a=true:=by rfl):JT X cA aq aj F EX a (.Ay A):=⟨PT.weak (zlH ha.o (by cases a<;>first|(intro _;rfl)|cases he)) λZ H Q hh=>un (W6 hh) λU J s hL hS h=>by
 refine aW hL hS h λx H1 U1 d1 s1 x1 hL1 aJ r1 h1=>?_;obtain⟨dd,rv,h2⟩:=JD aJ r1 h1;obtain⟨bb,e,h3⟩:=Jy h2;obtain⟨c,ec,q⟩:=h3.bC aJ _ (.d (.bl bb));cases ec;exact⟨bb,zle rv e,q⟩⟩
end
def gw(h:Heap)(items:Array Value)(rows:List (List Int))(no:List Addr):Prop:=∀i v,items[i]?=some v->∃a xs,v=.ref a/\IsTup h a xs/\IntsAre xs.toList (rows.getD i [])/\a∉no
theorem gw.keep{h h':Heap}{items:Array Value}{rows:List (List Int)}{no:List Addr}(g:gw h items rows no)(k:∀b o,b∉no->h.get? b=some o->h'.get? b=some o):gw h' items rows no:=λi v e=>by
 obtain⟨a,xs,e1,⟨o,e2,r⟩,e3,e4⟩:=g i v e;exact⟨a,xs,e1,⟨o,k a o e4 e2,r⟩,e3,e4⟩
noncomputable abbrev uh(rows:List (List Int))(i j:Nat):Bool:=HT.lexLt (rows.getD i []) (rows.getD j [])
section
variable {prog:Program}{w:World}{A:Around}{R:Result->Shared->Prop}{I S l:Addr}{items:Array Value}{rows:List (List Int)}
theorem zio{s:Shared}{i j:Nat}{u v:Value}{Q:Value->Shared->Prop}{E:Value->Shared->Prop}(hu:A.units<cLine)(g:gw s.heap items rows [I,S])(h1:items[i]?=some u)(h2:items[j]?=some v)(q:Q (.bool (uh rows i j)) s):wpAny (model prog w) A (richCompare .Lt u v) Q E s:=by
 obtain⟨a,xs,rfl,p1,i1,_⟩:=g i u h1;obtain⟨b,ys,rfl,p2,i2,_⟩:=g j v h2;exact HT.jq p1 p2 i1 i2 hu q
theorem zeu(hh:A.handled=none)(hu:A.units+1<cLine)(hlI:l≠I)(hS:S∉[I,l]):∀(k j:Nat) (s:Shared) (vb:Value) (c:Nat),items.size-(j+1)=k->j+1<=items.size->(s.heap.IsListIter I l (j+1)/\s.heap.IsList l items)->items[argBest (uh rows) j]?=some vb->gw s.heap items rows [I,S]->
  s.heap.get? S=some (seqObj "list" #[vb,vb] c)->(∀v h' tk,items[argBest (uh rows) (items.size-1)]?=some v->(∀b o,b∉[I,S]->s.heap.get? b=some o->h'.get? b=some o)->R (.ok (.ret v)) {s with heap:=h',toks:=tk})->
  codeAny (model prog w) A (.builtin "min.loop" ⟨[.ref I,.none,.ref S],[]⟩) R s:=by
 have W:=Walks.list (prog:=prog) (w:=w) (A:=A.in1) hh I l hlI items;have nm:(toString "min"++toString ".loop" : String)="min.loop":=by decide
 have SI:S∉[I]:=λz=>hS (by simp at z;simp[z]);intro k
 induction k with
 |zero=>
  intro j s vb c e1 e2 st hb g oS q;refine Cj F.entry_min_loop ?_;rw[BW xJ _];refine aC (m:=seqItems? (.ref S)) (pK oS rfl ?_);refine aC (m:=tryCatch (pyNext (.ref I)) _) (wpAny_tryCatch (W.done s _ _ ((show j+1=items.size by lia)▸st) λh' tk kp=>?_));refine aC (m:=updateSeq S λ_=>#[]) (wpAny_updateSeq (kp S _ SI oS) rfl (aC (xR (aU (q vb _ tk ?_ λb o hb e=>?_)))))
  ·rw[show items.size-1=j by lia];exact hb
  ·exact(uq _ _ (λz=>hb (by simp[z]))).trans (kp b o (λz=>hb (by simp at z;simp[z])) e)
 |succ k ih=>
  intro j s vb c e1 e2 st hb g oS q;refine Cj F.entry_min_loop ?_;rw[BW xJ _];refine aC (m:=seqItems? (.ref S)) (pK oS rfl ?_);refine aC (m:=tryCatch (pyNext (.ref I)) _) (wpAny_tryCatch (W.item (j+1) s _ _ (by lia) st λv h' tk hP st' kp=>?_));have QM:=kp S _ SI oS;have g':gw h' items rows [I,S]:=g.keep λb o hb e=>kp b o (λz=>hb (by simp at z;simp[z])) e;refine aC (m:=tryCatch (holding [v,v] (richCompare .Lt v vb >>= _)) _) (wpAny_tryCatch (qy (aC (zio (A:=A.in1) (s:={s with heap:=h',toks:=tk}) hu g' hP hb ?_))));refine aC (qy (tu (aC (xR (aU ?_)))));cases e3:uh rows (j+1) (argBest (uh rows) j) with
  |true=>
   simp only[if_true];refine aC (wpAny_updateSeq QM rfl (aC (xR ?_)));rw[nm];have Bu:∀b o,b≠S->h'.get? b=some o->(h'.update S (Obj.mapSeq λ_=>#[v,v])).get? b=some o:=λb o hb e=>(uq _ _ (Ne.symm hb)).trans e;refine aU ⟨Cq xJ _,ih (j+1) _ v _ (by lia) (by lia) (W.frame _ _ _ st' λb hb o e=>Bu b o (λz=>hS (by rw[<-z];exact hb)) e) (by simp only[argBest,e3,if_true];exact hP) (g'.keep λb o hb e=>Bu b o (λz=>hb (by simp[z])) e) (xG _ QM rfl) λv' h2 tk2 G5 G6=>q v' h2 tk2 G5 λb o hb e=>G6 b o hb (Bu b o (λz=>hb (by simp[z])) (kp b o (λz=>hb (by simp at z;simp[z])) e))⟩
  |false=>
   simp only[vQ,qD];refine aC (xR ?_);rw[nm];exact aU ⟨Cq xJ _,ih (j+1) _ vb c (by lia) (by lia) st' (by simp only[argBest,e3,vQ,qD];exact hb) g' QM λv' h2 tk2 G5 G6=>q v' h2 tk2 G5 λb o hb e=>G6 b o hb (kp b o (λz=>hb (by simp at z;simp[z])) e)⟩
theorem zeD{s:Shared}{E:Value->Shared->Prop}{Q:Value->Shared->Prop}(hh:A.handled=none)(hu:A.units+2<cLine)(hl:s.heap.IsList l items)(h0:0<items.size)(g:gw s.heap items rows [])
  (q:∀v h' tk,items[argBest (uh rows) (items.size-1)]?=some v->(∀b o,s.heap.get? b=some o->h'.get? b=some o)->Q v {s with heap:=h',toks:=tk}):wpAny (model prog w) A (PySem.call (.builtin "min") [.ref l]) Q E s:=by
 have nm:(toString "min"++toString ".loop" : String)="min.loop":=by decide
 have dD:l<s.heap.objs.size:=by obtain⟨o,e,_⟩:=hl;exact bQ e
 refine call_function_tree F.kind_min F.plain_min F.entry_min (F.args_min1 _) ?_;refine aC (m:=Builtin.Builtins.bindParams "min" ["key","default"] 0 ⟨[],[]⟩) (wpAny_of_eq (show Builtin.Builtins.bindParams "min" ["key","default"] 0 ⟨[],[]⟩=pure [none,none] from rfl) (aC (aU ?_)));refine aC (Ig hl (aC (qP ?_)));rw[nm];have n1:(s.heap.push {cls:=.type "list_iterator",data:=.fields #[.ref l,.int 0 0]}).objs.size=s.heap.objs.size+1:=tH ..;refine aU ⟨Cq xJ _,?_⟩;refine Cj F.entry_min_loop ?_;rw[BW xJ _];have W:=Walks.list (prog:=prog) (w:=w) (A:=A.in1) hh s.heap.objs.size l (dw dD) items;have oS:((s.heap.push {cls:=.type "list_iterator",data:=.fields #[.ref l,.int 0 0]}).push (seqObj "list" #[] 0)).get? (s.heap.objs.size+1)=some (seqObj "list" #[] 0):=by rw[<-n1];exact fC _ rfl
 have k0:∀b o,s.heap.get? b=some o->((s.heap.push {cls:=.type "list_iterator",data:=.fields #[.ref l,.int 0 0]}).push (seqObj "list" #[] 0)).get? b=some o:=λb o e=>cJ _ (cJ _ e);rw[n1];refine aC (m:=seqItems? (.ref (s.heap.objs.size+1))) (pK oS rfl ?_);refine aC (m:=tryCatch (pyNext (.ref s.heap.objs.size)) _) (wpAny_tryCatch (W.item 0 _ _ _ h0 ⟨⟨_,cJ _ (fC _ rfl),rfl,rfl⟩,hl.at λo e=>k0 l o e⟩ λv h' tk hP st' kp=>?_));have ne1:s.heap.objs.size+1∉[s.heap.objs.size]:=by simp
 refine aC (m:=updateSeq (s.heap.objs.size+1) λ_=>#[v,v]) (wpAny_updateSeq (kp _ _ ne1 oS) rfl ?_);rw[nm];have Bu:∀b o,b≠s.heap.objs.size+1->h'.get? b=some o->(h'.update (s.heap.objs.size+1) (Obj.mapSeq λ_=>#[v,v])).get? b=some o:=λb o hb e=>(uq _ _ (Ne.symm hb)).trans e;have G7:∀b o,s.heap.get? b=some o->(h'.update (s.heap.objs.size+1) (Obj.mapSeq λ_=>#[v,v])).get? b=some o:=λb o e=>Bu b o (dw (tD (bQ e))) (kp b o (by simpa using dw (bQ e)) (k0 b o e));have out:∀b o,s.heap.get? b=some o->b∉[s.heap.objs.size,s.heap.objs.size+1]:=λb o e z=>by
  rcases jd.mp z with z|z
  ·exact absurd z (dw (bQ e))
  ·exact absurd (Cd.mp z) (dw (tD (bQ e)))
 refine aU ⟨Cq xJ _,zeu (A:=A) (rows:=rows) hh (by lia) (dw dD) (λz=>by
  rcases jd.mp z with z|z
  ·exact absurd z (Nat.succ_ne_self _)
  ·exact absurd (Cd.mp z) (uw (tD dD))) _ 0 _ v _ rfl h0 (W.frame _ _ _ st' λb hb o e=>Bu b o (λz=>by
  rcases jd.mp hb with y|y
  ·exact absurd (z.symm.trans y) (Nat.succ_ne_self _)
  ·exact absurd (z.symm.trans (Cd.mp y)) (uw (tD dD))) e) hP ?_ (xG _ (kp _ _ ne1 oS) rfl) λv' h2 tk2 G5 G6=>q v' h2 tk2 G5 λb o e=>G6 b o (out b o e) (G7 b o e)⟩
 intro i u e;obtain⟨a,xs,e1,⟨o,e2,r⟩,e3,_⟩:=g i u e;exact⟨a,xs,e1,⟨o,G7 a o e2,r⟩,e3,out a o e2⟩
end
theorem Yk{x:List Int}{rs:List (List Int)}:∀k,k<=rs.length->(x::rs).getD (argBest (uh (x::rs)) k) []=eU x (rs.take k)
 |0,_=>rfl
 |k+1,hk=>by
  have ih:=Yk (x:=x) (rs:=rs) k (by lia);have app:∀(a b:List (List Int)) (y:List Int),eU y (a++b)=eU (eU y a) b:=λa=>by
   induction a with
   |nil=>intro b y;rfl
   |cons z a ih=>intro b y;exact ih b _
  have ht:rs.take (k+1)=rs.take k++[rs[k]'(by lia)]:=List.take_succ_eq_append_getElem (by lia);have hv:(x::rs).getD (k+1) []=rs[k]'(by lia):=by
   rw[jC,zU,dj (by lia)];rfl
  rw[ht,app,<-ih];show _=(if ltI (rs[k]'(by lia)) _=true then _ else _);rw[argBest.eq_2,Pn];unfold uh;rw[hv]
  split
  ·exact hv
  ·rfl
theorem Yl{K:W.Frag}{cA:Cl}{U:Ph}{H:Hp}:∀{xs:List D} {rs:List (List Int)} {vs:List V},jr xs=some rs->aB K cA U H xs vs->rs.length=vs.length/\∀(i:Nat) v,vs[i]?=some v->∃a,v=.ref a/\TupAt K U H a ((rs.getD i []).map .int)
 |[],rs,vs,h,r=>by cases h;cases r;exact⟨rfl,λi v e=>by simp at e⟩
 |d::xs,rs,vs,h,r=>by
  cases r with
  |cons q r=>cases q with
   |@tup a ys us t ts=>
    unfold jr at h;cases e1:bU ys with
    |none=>simp only[e1] at h;cases h
    |some is=>cases e2:jr xs with
     |none=>simp only[e1,e2] at h;cases h
     |some rr=>
      simp only[e1,e2] at h;cases h;obtain⟨l,k⟩:=Yl e2 r;refine⟨by simp[l],λi v e=>?_⟩;cases i with
      |zero=>
       simp at e;subst e;refine⟨a,rfl,?_⟩;show TupAt K U H a (is.map V.int);rw[<-show _=is.map V.int from JL e1 ts];exact t
      |succ i=>exact k i v (by simpa using e)
   |_=>cases h
section
variable {X:Cx}{cA:Cl}{aq:Nat->Nat->Bool}{aj:Bool}{F:Fn}{EX:XS}{e:Expr}{pos p:Pos}{es:List Expr}{Xs:Es}{fz:Bool}
def sU(K:W.Frag)(vs:List V)(H:Hp)(Q:VK):Prop:=∃(l:Addr) (x:List Int) (rs:List (List Int)) (us:List V),vs=[.ref l]/\cL K H l us/\(x::rs).length=us.length/\(∀(i:Nat) v,us[i]?=some v->∃a,v=.ref a/\fP K H a (((x::rs).getD i []).map V.int))/\∀(i:Nat) a,us[i]?=some (.ref a)->(x::rs).getD i []=eU x rs->Q (.ref a) H
theorem Ym:∀{is:List Int} {us:List Value},Vals (is.map V.int) us->IntsAre us is
 |[],_,.nil=>.nil
 |_::is,_,.cons ⟨t,e⟩ r=>by subst e;exact .cons _ t (Ym r)
theorem zfZ(hc:X.aj=true)(hu:X.A.units+2<cLine):cG X (.builtin "min") (sU X.K):=by
 intro ao s Z H xs us Q I r ⟨l,x,rs,ws,e,hl,hlen,G8,q⟩;subst e;obtain⟨u,rfl,ru⟩:=Vals.one r;cases (show u=Value.ref l from ru);obtain⟨its,rv,pl,hz⟩:=I.list hl;have hL:=rv.length;have hsz:its.toArray.size=rs.length+1:=by rw[fH,<-hL,<-hlen];rfl
 refine zeD (rows:=x::rs) (I.ok.hd hc) hu pl.isList (by lia) (λi v e=>?_) λv h' tk hP hk=>?_
 ·have hi:its[i]?=some v:=by simpa using e
  have dD:i<ws.length:=by rw[hL];exact(eO.mp hi).1
  obtain⟨a,ea,ht⟩:=G8 i _ (dj dD);obtain⟨v',e1,e2⟩:=rv.get (dj dD);rw[hi] at e1;cases e1;rw[ea] at e2;cases (show v=Value.ref a from e2);obtain⟨xs,rx,p,_⟩:=I.tuple ht;exact⟨a,_,rfl,p,by simpa using Ym rx,by simp⟩
 ·rw[hsz,Nat.add_sub_cancel] at hP;have hi:its[argBest (uh (x::rs)) rs.length]?=some v:=by simpa using hP
  have dD:argBest (uh (x::rs)) rs.length<ws.length:=by rw[hL];exact(eO.mp hi).1
  obtain⟨a,ea,ht⟩:=G8 _ _ (dj dD);obtain⟨v',e1,e2⟩:=rv.get (dj dD);rw[hi] at e1;cases e1;rw[ea] at e2;cases (show v=Value.ref a from e2);exact⟨.ref a,H,I.kept (h':=h') (t':=tk) hk,rfl,q _ a ((dj dD).trans (by rw[ea])) (by rw[Yk rs.length (bJ _),Ab])⟩
theorem zh0{K:W.Frag}:bx K cA .pU (sU K):=by
 intro U H ds vs Q zt rs o;have o:bG K cA U H (mK ds) Q:=o;unfold mK at o;split at o
 ·rename_i xs _;obtain⟨v,rfl,rv⟩:=rs.one;obtain⟨a,us,rfl,sq,q⟩ : ∃a us,v=.ref a/\cL K H a us/\aB K cA U H xs us:=rv;split at o
  ·rename_i x r e;obtain⟨l,k⟩:=Yl e q;refine⟨a,x,r,us,rfl,sq,l,λi v ei=>?_,λi b ei hb=>?_⟩
   ·obtain⟨c,e1,e2⟩:=k i v ei;exact⟨c,e1,e2.iY⟩
   ·obtain⟨c,e1,e2⟩:=k i _ ei;cases e1;rw[hb] at e2;have rr:∀is:List Int,aB K cA U H (is.map D.int) (is.map V.int):=λis=>by
     induction is with
     |nil=>exact .nil
     |cons j is ih=>exact .cons (.int j) ih
    exact o.here (.tup e2 (rr _))
  ·exact o.elim
 ·exact o.elim
theorem zj4{k:Nat}(hr:bB k X.A)(hc:X.aj=true)(hm:X.mg "min"=none)(hg:JK X "min" .globalImplicit)(ha:JA X cA aq aj F EX (e::es) Xs)(he:aD e=true:=by rfl)(cD:es.all aD=true:=by rfl):JE X cA aq aj F EX (.Call (.Name "min" p) (e::es) [] pos) (.pr fz .pU Xs):=⟨wH (zfZ hc (by have:=hr.un;lia)) zh0 hg.o hm PyProof.Rows.boot_min ha.o (by decide) (by decide) (aY he) (bw cD)⟩
end
end Mi
namespace Mi
open PySem PySem.Spec PyProof.Rows L2 PySem.W
section
variable {X:Cx}
end
section
variable {K:W.Frag}{cA:Cl}{U:Ph}{H:Hp}
end
end Mi
namespace PySem
open Builtin
end PySem
namespace Mi
open PySem PySem.Spec PyProof.Rows L2 PySem.W
section
variable {K:W.Frag}{cA:Cl}{U:Ph}{H:Hp}
end
section
variable {X:Cx}
end
section
variable {K:W.Frag}{cA:Cl}{U:Ph}{H:Hp}{Q:VK}
end
section
variable {X:Cx}{cA:Cl}{aq:Nat->Nat->Bool}{aj:Bool}{F:Fn}{EX:XS}{e:Expr}{pos p:Pos}{es:List Expr}{Xs:Es}{fz:Bool}
end
section
variable {X:Cx}
end
section
variable {X:Cx}{cA:Cl}{aq:Nat->Nat->Bool}{aj:Bool}{F:Fn}{EX:XS}{o i a:Expr}{O cg A:E}{apos cpos:Pos}
end
noncomputable def gA(K:Frag)(C:Addr)(m:Str):Addr:=match jN K C m with
 |some p=>p.1
 |none=>0
noncomputable def i_(K:Frag)(C:Addr)(m:Str)(st:Stmt):FuncData:=match jN K C m with
 |some p=>p.2
 |none=>Ah m m st
theorem zjr{fd:FuncData}{m q:Str}{st:Stmt}(h:lR fd=Ah m q st):fd=fnOf m q (aP st) (aK st) (au st) .none fd.kwdefaults fd.doc fd.pyModule fd.annotations fd.code fd.closureTuple:=by
 cases fd;unfold lR Ah at h;cases h;rfl
theorem zmM{K:Frag}{C:Addr}{m q:Str}{st:Stmt}(h:(jN K C m).map (λp=>lR p.2)=some (Ah m q st)):mQ K m q st (gA K C m) (i_ K C m st)/\Meth K C m (gA K C m):=by
 cases e:jN K C m with
 |none=>rw[e] at h;cases h
 |some p=>
  rw[e] at h;have hp:lR p.2=Ah m q st:=cj h;have h1:gA K C m=p.1:=by unfold gA;rw[e]
  have h2:i_ K C m st=p.2:=by unfold i_;rw[e]
  rw[h1,h2];unfold jN at e;split at e
  ·rename_i f hf;split at e
   ·rename_i oc od fd sl hl;split at e
    ·rename_i hc;cases e;simp only[gF] at hc;have eq:fd=_:=zjr hp;have qn:fd.qualname=q:=by rw[eq]
     exact⟨⟨⟨oc,od,_,_,_,_,_,_,sl,eq,hl,by rw[<-qn];exact hc.1.1⟩,hc.1.2⟩,hf,hc.2,hc.1.2⟩
    ·cases e
   ·cases e
  ·cases e
structure pF(fs:List (Str×Stmt))(ms:List qU)(xs:List (Nat×Str))(l:Lk)(b:Bd)(K:Frag):Prop where
 i:mW fs ms xs l K
 m:∀p∈b.ms,mQ K p.1 p.2.1 p.2.2 (gA K (dz K b.n) p.1) (i_ K (dz K b.n) p.1 p.2.2)/\Meth K (dz K b.n) p.1 (gA K (dz K b.n) p.1)
 b:vZ K b=true
noncomputable def jY(fs:List (Str×Stmt))(ms:List qU)(xs:List (Nat×Str))(l:Lk)(b:Bd):Hook where
 α:=(List (Option FuncData)×List (Option FuncData)×Bool)×(List (Option FuncData)×Bool)
 obs:=λs=>(kj fs ms xs l s,xV b s)
 val:=λw=>(lU fs ms w,xW b)
 says:=λ_ h=>∃K:Frag,K.In h/\pF fs ms xs l b K
 of:=λw s e=>by
  have e0:kj fs ms xs l s=lU fs ms w:=lQ Prod.fst e;have e4:xV b s=xW b:=lQ Prod.snd e;have e3:(_&&_&&_)=true:=lQ (λx=>x.2.2) e0;rw[gF,gF,jx,jx] at e3;refine⟨bK s.heap,zhb,⟨λp hp=>?_,Kab e3.1.1,λm hm=>?_,e3.1.2,λx hx=>zl3 (e3.2 x hx)⟩,λp hp=>?_,lQ Prod.snd e4⟩
  ·exact zmR (Lw.mp (lQ Prod.fst e0) p hp)
  ·exact zmU (Lw.mp (lQ (λx=>x.2.1) e0) m hm)
  ·exact zmM (Lw.mp (lQ Prod.fst e4) p hp)
 keeps:=λw h h' ⟨K,X,Y⟩ k=>⟨K,X.keeps k,Y⟩
theorem G9{l:OpenLaw}{k:Nat}{q:Program}{loose:List Str}{XP:(Str->Option Value)->Heap->Prop}{fs:List (Str×Stmt)}{ms:List qU}{xs:List (Nat×Str)}{lk:Lk}{b:Bd}{d:DefRec}{x:Str}(hn:l.most=some 63)(Ny:d.params.defaults=[])(hr:bB k callerA)
  (F:∀(w:World) (K:Frag) (mg:Str->Option Value) (fa:Addr) (h:Heap),pF fs ms xs lk b K->K.In h->h.Ns mainGlobals mg->mg d.name=some (.ref fa)->
   ∃fd:FuncData,(∀(s:Shared) (u:Value),BindsTo s fd ⟨[u],[]⟩ [(x,u)])/\∀base:Heap,K.In base->base.Ns mainGlobals mg->bT l.prog w K mg base (fQ l.prog w) true k fa fd [x] (rW K)) :
  WalkO q loose XP (jY fs ms xs lk b).says l.row.toRowW d [] (λf vs=>PySem.call f vs):=by
 refine U7.mC hn Ny λw s₀ s₁ mg mb fa o pm cd doc a vs ns G Y ho hd jz hmg yH hints hlen hg=>?_;obtain⟨K,KX,SY⟩:=Y;obtain⟨fd,hb,hF⟩:=F w K mg fa _ SY KX G.T.g hmg;exact zgv KX G.T.g G.T.b G.T.builtins G.T.nolimit hg yH hints (jM hlen (by decide)) hr hF hb (λH hO hS=>⟨a,ns,rfl,hS,hlen,hO,λ_=>rfl⟩) λH e s' h=>by
  obtain⟨_,_,_,_,_,_,_,_,_,_,z⟩:=h;exact z
section
variable {K:Frag}{b:Bd}
theorem zmO{cA:Cl}(h:vZ K b=true)(hb:cA.b 0=dz K b.n)(hg:cA.g 0=b.fs)(nd:b.fs.Nodup):Ow K cA 0:=by
 unfold vZ at h;simp only[gF,m5,jx] at h;obtain⟨⟨⟨⟨⟨⟨⟨h1,h2⟩,h3⟩,h4⟩,h5⟩,h6⟩,h7⟩,h8⟩:=h;exact⟨by rw[hb];exact⟨h2,h3,h4,h5⟩,λf hf=>by rw[hb];rw[hg] at hf;exact h8 f hf,by rw[hg];exact nd⟩
theorem zl1{f:Addr}(h:vZ K b=true)(m:Meth K (dz K b.n) "__init__" f):Mk K (dz K b.n) f:=by
 unfold vZ at h;simp only[gF,m5,jx] at h;exact⟨h.1.1.2,m.at_,m.fn,h.1.2⟩
theorem zmz{h:Heap}{mg:Str->Option Value}(z:vZ K b=true)(X:K.In h)(G:h.Ns mainGlobals mg):mg b.n=some (.ref (dz K b.n)):=by
 unfold vZ at z;simp only[gF] at z;exact zm1 z.1.1.1.1.1.1.1 X G
end
theorem bB.made{k:Nat}{A:Around}(r:bB (k+1) A)(env:Env)(C:Addr)(us:List Value):bB k ((A.deeper env).under (.builtin "type.__call__" ⟨.ref C::us,[]⟩)):=
 ⟨by have:=r.dp;rw[zeS];show A.depth+1+1+3*k+5<_;lia,by have:=r.un;rw[zer];show A.units+3+1+16*k+200<_;lia,by
  have e:(A.deeper env).guards=some []:=r.gd;rw[<-e];cases h:(A.deeper env).guards<;>simp[Around.under,pushGuards,Code.guards,Code.isGuard,guardIds,h]⟩
section
variable {P:Program}{w:World}{K:Frag}{mg:Str->Option Value}{base:Heap}{cA:Cl}{aq:Nat->Nat->Bool}{T:Nat->Option Df}{x m q:Str}{st:Stmt}{ps:List Str}{k n:Nat}{cm:Bool}{df:Df}{C fa:Addr}{fd:FuncData}
theorem fM(D:Mt K C m q st ps fa fd)(N:List Str)(hT:T n=some df)
  (hb:∀(cdv:Value) (A:Around) (outer:List Env) (s:Shared) (H:Hp) (E:XK),bB k (A.deeper (envOfC q (au st) s.heap.objs.size fa cdv))->
   JB (fK (fQ P w) P w K mg base N q (au st) fa cdv A outer s H E cm) cA aq cm (λc=>call aq T k c) (λ_ C dx H'=>E C dx H') (aK st) df.body) (S:cM N ps (au st):=by exact⟨rfl,rfl,rfl,dk,rfl,dk,dk⟩) (hp:df.gM=ps.length:=by rfl) (hm:df.many=N.length:=by rfl) :
  bT P w K mg base (fQ P w) cm (k+1) fa fd ps (jX K cA (call aq T (k+1) cm n)):=W2 D.fn S hT hp hm hb
theorem zgS{c:Nat}:bT P w K mg base (fQ P w) cm 0 fa fd ps (Kh K cA c (call aq T 0 cm n)):=
 ⟨λvs H Q E ⟨_,_,_,_,_,_,_,_,_,_,_,_,_,_,h⟩=>h.elim,λA outer s H args us vs Q E _ _ _ _ _ ⟨_,_,_,_,_,_,_,_,_,_,_,_,_,_,h⟩=>h.elim⟩
theorem fR(D:D3 K mg x st ps)(N:List Str)(hT:T n=some df)
  (hb:∀(cdv:Value) (A:Around) (outer:List Env) (s:Shared) (H:Hp) (E:XK),bB (k+1) A->
   JB (fK (fQ P w) P w K mg base N x (au st) (gO K x) cdv A outer s H E cm) cA aq cm (λc=>call aq T k c) (λ_ C dx H'=>E C dx H') (aK st) df.body) (S:cM N ps (au st):=by exact⟨rfl,rfl,rfl,dk,rfl,dk,dk⟩) (hp:df.gM=ps.length:=by rfl) (hm:df.many=N.length:=by rfl) :
  bT P w K mg base (fQ P w) cm (k+1) (gO K x) (fdOf K x st) ps (jX K cA (call aq T (k+1) cm n)):=Wu D.f S hT hp hm λcdv A outer s H E hr=>(hb cdv A outer s H E hr).o
theorem QS{p p2:Str}(h:mQ K m q st fa fd/\Meth K C m fa)(hb:∀(kV doc pm:Value) (an:Option Addr) (cdv ct a b:Value),bindArgs (fnOf m q (aP st) (aK st) (au st) .none kV doc pm an cdv ct) ⟨[a,b],[]⟩=pure [(p,a),(p2,b)]:=by intros;rfl):Mt K C m q st [p,p2] fa fd:=⟨h.1,h.2,by
 obtain⟨oc,od,kV,doc,pm,an,cdv,ct,osl,rfl,lk,jz⟩:=h.1.ex;exact rY (hb kV doc pm an cdv ct)⟩
theorem Yn{p p2 p3:Str}(h:mQ K m q st fa fd/\Meth K C m fa)(hb:∀(kV doc pm:Value) (an:Option Addr) (cdv ct a b c:Value),bindArgs (fnOf m q (aP st) (aK st) (au st) .none kV doc pm an cdv ct) ⟨[a,b,c],[]⟩=pure [(p,a),(p2,b),(p3,c)]:=by intros;rfl):Mt K C m q st [p,p2,p3] fa fd:=⟨h.1,h.2,by
 obtain⟨oc,od,kV,doc,pm,an,cdv,ct,osl,rfl,lk,jz⟩:=h.1.ex;exact rZ (hb kV doc pm an cdv ct)⟩
theorem Yo{p p2 p3 p4:Str}(h:mQ K m q st fa fd/\Meth K C m fa)(hb:∀(kV doc pm:Value) (an:Option Addr) (cdv ct a b c d:Value),bindArgs (fnOf m q (aP st) (aK st) (au st) .none kV doc pm an cdv ct) ⟨[a,b,c,d],[]⟩=pure [(p,a),(p2,b),(p3,c),(p4,d)]:=by intros;rfl):Mt K C m q st [p,p2,p3,p4] fa fd:=⟨h.1,h.2,by
 obtain⟨oc,od,kV,doc,pm,an,cdv,ct,osl,rfl,lk,jz⟩:=h.1.ex;exact su (hb kV doc pm an cdv ct)⟩
end
end Mi
namespace Mi
open PySem
end Mi
namespace Mi
open PySem Ts
theorem zmx{ps:List (Int×Int)}(h:ps.Pairwise λa b=>qm a b=true):ps.Pairwise lx:=h.imp λ{a b} e=>sO.mp e
end Mi
namespace Mi
open PySem
end Mi
namespace Mi
open PySem PySem.W L2
theorem G_{a b:Int×Int}:mJ [.int a.1,.int a.2] [.int b.1,.int b.2]=some (qm a b):=by
 unfold qm;simp only[mJ];by_cases h1:a.1=b.1
 ·rw[if_pos h1];by_cases h2:a.2=b.2
  ·rw[if_pos h2]
   congr 1
   simp only[Ad,oA,decide_false]
   symm
   rw[Lf]
   lia
  ·rw[if_neg h2]
   congr 1
   rw[tG]
   lia
 ·rw[if_neg h1]
  congr 1
  rw[tG]
  lia
theorem zik{us:List (Int×Int)}:tR (us.map fG)=G3 us:=by
 funext i j
 unfold tR G3;rw[gU,gU];cases us[i]? with
 |none=>rfl
 |some a=>
  cases us[j]? with
  |none=>rfl
  |some b=>exact G_
theorem zjq{ps:List (Int×Int)}(hl:ps.length<64)(nd:ps.Nodup):∃qs:List (Int×Int),tU (ps.map fG)=some (qs.map fG)/\qs.Pairwise lx/\(∀x,x∈qs↔x∈ps)/\qs.length=ps.length:=by
 have hk:((ps.map fG).all h_||(ps.map fG).all gb)=true:=by
  rw[Io]
  right
  rw[Cr,jx];intro p _;rfl
 unfold tU;rw[if_pos hk];unfold mL;rw[cU,zik];by_cases h2:ps.length<2
 ·rw[if_pos h2];refine⟨ps,rfl,?_,λ_=>Iff.rfl,rfl⟩;cases ps with
  |nil=>exact .nil
  |cons x t=>
   cases t with
   |nil=>exact List.pairwise_singleton ..
   |cons y t=>exact absurd h2 (by simp)
 ·rw[if_neg h2,if_pos hl];obtain⟨p,e,e1,e2,e3,e4⟩:=zfC (us:=ps) (by lia) nd;rw[e];dsimp only;rw[if_pos e1];refine⟨p.toList.map λi=>ps.getD i (0,1),?_,zmx e4,e3,by rw[cU,vN,e1]⟩;rw[qC]
  congr 1
  refine B_ λi hi=>?_;have:=e2 i hi;simp[jC,this]
noncomputable def mY(k d:Int)(ps:List (Int×Int))(hs:List Int):List (Int×Int):=ps.filter λp=>decide (cB k (at' hs p.1) (at' hs p.2)<d)
noncomputable def vJ(k d:Int)(ps:List (Int×Int))(hs:List Int):D:=match mY k d ps hs with
 |[]=>.non
 |p::_=>fG p
theorem sV{k d:Int}{ps:List (Int×Int)}{hs:List Int}:mY k d ps hs=[]↔zK k d ps hs=true:=by
 unfold mY;rw[List.filter_eq_nil_iff,jw]
 constructor
 ·intro h p hp;have:=h p hp;simp at this
  lia
 ·intro h p hp;have:=h p hp;simp
  lia
end Mi
namespace Mi
open PySem
theorem W.c0{F:List Xv->M Xv}{xs:List Xv}{s:S}{e:D}{P:Xv->S->Prop}(h:W (F (cY 0 xs)) [] λv _=>v=.d e)(k:P (.d e) s)(hl:locs xs=[]:=by rfl):W (bZ F xs) s P:=m8 hl (h.imp λ_ _ q=>⟨_,q,k⟩)
theorem W.c1{F:List Xv->M Xv}{xs:List Xv}{s:S}{P:Xv->S->Prop}(h:W (F (cY 0 xs)) [] λv _=>∃d,v=.d d)(k:∀d,P (.d d) s)(hl:locs xs=[]:=by rfl):W (bZ F xs) s P:=m8 hl (h.imp λ_ _ ⟨d,q⟩=>⟨d,q,k d⟩)
section
variable {s:S}{o o' L L':SO}
theorem g1_:(s++[o]++[L])[s.length]?=some o:=by simp
theorem zm4:(s++[o]++[L]).set s.length o'=s++[o']++[L]:=by simp
theorem Kaq{F:List Xv->M Xv}{xs:List Xv}{P:Xv->S->Prop}(hl:locs xs=[s.length])(h:W (F (cY 0 xs)) [o] λv s1=>∃d o',v=.d d/\s1=[o']/\P (.d d) (s++[o']++[L])):W (bZ F xs) (s++[o]++[L]) P:=by
 refine Qs (n:=s.length) (o:=o) hl g1_ (h.imp λv s1=>?_);rintro⟨d,o',rfl,rfl,hp⟩;exact⟨d,o',rfl,rfl,by rw[zm4];exact hp⟩
end
section
variable {n k x y:Int}{r:List Int}
end
section
variable {n m:Int}{ps qs:List (Int×Int)}{x:D}{hs:List Int}
end
section
variable {aq:Nat->Nat->Bool}{F:Fn}{J:Vs}{s:S}{P:Xv->S->Prop}
end
noncomputable abbrev Fr:=List (Option (List Int))
noncomputable def bA:Option (List Int)->D
 |none=>.non
 |some l=>.tup (l.map .int)
noncomputable def cellK:Option (List Int)->Kx
 |none=>.non
 |some l=>.row l
noncomputable def iK(F:Fr):D:=.tup (F.map bA)
theorem QT:∀l:List Int,bU (l.map .int)=some l
 |[]=>rfl
 |i::l=>by show Option.map _ (bU (l.map .int))=_;rw[QT l];rfl
theorem Ko(F:Fr):kOf (iK F)=some (F.map cellK):=by
 show zj (F.map bA)=_
 induction F with
 |nil=>rfl
 |cons c F ih=>
  have e:rD (bA c)=some (cellK c):=by
   cases c with
   |none=>rfl
   |some l=>show Option.map _ (bU (l.map .int))=_;rw[QT];rfl
  simp only[jk,zj,e,ih]
theorem Yp:∀{F G:Fr},F.map cellK=G.map cellK->F=G
 |[],[],_=>rfl
 |[],_::_,h=>by cases h
 |_::_,[],h=>by cases h
 |c::F,e::G,h=>by
  simp only[jk,List.cons.injEq] at h;rw[Yp h.2]
  congr 1
  have h1:=h.1;cases c with
  |none=>cases e with
   |none=>rfl
   |some _=>cases h1
  |some l=>cases e with
   |none=>cases h1
   |some m=>cases h1;rfl
structure Bo(n k:Nat)(es:Nat->List Int)(A:Int->Int->Bool):Prop where
 hn:n<=8
 hk:k<=24
 mem:∀i,i<n->∀e∈es i,0<=e/\e<n/\e≠i
 sym:∀i e:Nat,i<n->e<n->(e:Int)∈es i->(i:Int)∈es e
 len:∀i,i<n->(es i).length<=8
 Yq:∀a b:Int,0<=a->a<k->0<=b->b<k->A a b=A b a
structure Fv(n k:Nat)(F:Fr):Prop where
 len:F.length=n
 lo:∀(i:Nat) L,F[i]?=some (some L)->∀x∈L,0<=x/\x<k
 ll:∀(i:Nat) L,F[i]?=some (some L)->L.length<=24
 so:∀(i:Nat) L,F[i]?=some (some L)->L.Pairwise (·<·)
structure n8(es:Nat->List Int)(A:Int->Int->Bool)(F:Fr)(g:Nat->Int):Prop where
 mem:∀(i:Nat) L,F[i]?=some (some L)->g i∈L
 fit:∀(i e:Nat) L M,F[i]?=some (some L)->F[e]?=some (some M)->(e:Int)∈es i->A (g i) (g e)=true
def Sat(es:Nat->List Int)(A:Int->Int->Bool)(F:Fr):Prop:=∃g,n8 es A F g
noncomputable def fj(f:Int->Bool)(F:Fr)(e:Int):Fr:=F.set e.toNat ((F[e.toNat]?.join).map (·.filter f))
noncomputable def settle(es:Nat->List Int)(A:Int->Int->Bool)(F:Fr)(p:Nat)(x:Int):Fr:=(es p).foldl (fj (A x)) (F.set p none)
theorem Yr{f:Int->Bool}{F:Fr}{e:Int}:(fj f F e).length=F.length:=nq ..
theorem QV{f:Int->Bool}:∀{l:List Int} {F:Fr},(l.foldl (fj f) F).length=F.length
 |[],F=>rfl
 |e::l,F=>by rw[List.foldl_cons,QV,Yr]
theorem zjo{f:Int->Bool}{F:Fr}{e:Int}(h0:0<=e)(i:Nat)(hi:i<F.length):(fj f F e)[i]?=if (i:Int)=e then F[i]?.map (Option.map (·.filter f)) else F[i]?:=by
 unfold fj;by_cases z:(i:Int)=e
 ·have:e.toNat=i:=by lia
  rw[if_pos z,this,vL hi,dj hi];rfl
 ·rw[if_neg z,qx (by lia)]
theorem QW{f:Int->Bool}:∀{l:List Int} {F:Fr} (i:Nat),(∀e∈l,0<=e)->i<F.length->(l.foldl (fj f) F)[i]?=if (i:Int)∈l then F[i]?.map (Option.map (·.filter f)) else F[i]?
 |[],F,i,_,hi=>by simp
 |e::l,F,i,h,hi=>by
  rw[List.foldl_cons,QW i (λx hx=>h x (by simp[hx])) (by rw[Yr];exact hi),zjo (h e (by simp)) i hi];have ff:∀c:Option (Option (List Int)),(c.map (Option.map (·.filter f))).map (Option.map (·.filter f))=c.map (Option.map (·.filter f)):=λc=>by
   cases c with
   |none=>rfl
   |some c=>cases c with
    |none=>rfl
    |some L=>simp
  by_cases a:(i:Int)=e
  ·by_cases b:(i:Int)∈l
   ·rw[if_pos b,if_pos a,if_pos (by simp[b]),ff]
   ·rw[if_neg b,if_pos a,if_pos (by simp[a])]
  ·by_cases b:(i:Int)∈l
   ·rw[if_pos b,if_neg a,if_pos (by simp[b])]
   ·rw[if_neg b,if_neg a,if_neg (by simp[a,b])]
section
variable {n k:Nat}{es:Nat->List Int}{A:Int->Int->Bool}{F:Fr}{p:Nat}{x:Int}{g:Nat->Int}
theorem Ys:(settle es A F p x).length=F.length:=by unfold settle;rw[QV,nq]
theorem Yt(B:Bo n k es A)(hF:F.length=n)(hp:p<n)(i:Nat)(hi:i<n):(settle es A F p x)[i]?=if i=p then some none else if (i:Int)∈es p then F[i]?.map (Option.map (·.filter (A x))) else F[i]?:=by
 unfold settle;rw[QW i (λe he=>(B.mem p hp e he).1) (by rw[nq,hF];exact hi)];by_cases e:i=p
 ·subst e;rw[if_pos rfl,if_neg (λz=>(B.mem i hp _ z).2.2 rfl),vL (by rw[hF];exact hi)]
 ·rw[if_neg e,qx (Ne.symm e)]
theorem pG{i:Nat}{c:Option (List Int)}(hF:F.length=n)(h:F[i]?=some c):i<n:=by rw[<-hF];exact(eO.mp h).1
theorem Kp(B:Bo n k es A)(hF:F.length=n)(hp:p<n){i:Nat}{M:List Int}(h:(settle es A F p x)[i]?=some (some M)):i≠p/\∃L,F[i]?=some (some L)/\M=if (i:Int)∈es p then L.filter (A x) else L:=by
 have hi:i<n:=pG (by rw[Ys];exact hF) h;rw[Yt B hF hp i hi] at h;by_cases e:i=p
 ·rw[if_pos e] at h;cases h
 ·rw[if_neg e] at h;refine⟨e,?_⟩;by_cases m:(i:Int)∈es p
  ·rw[if_pos m] at h;obtain⟨c,e1,e2⟩:=jZ.mp h;cases c with
   |none=>cases e2
   |some L=>cases e2;exact⟨L,e1,by rw[if_pos m]⟩
  ·rw[if_neg m] at h;exact⟨M,h,by rw[if_neg m]⟩
theorem Hg(B:Bo n k es A)(hF:F.length=n)(hp:p<n){i:Nat}{L:List Int}(hi:i≠p)(h:F[i]?=some (some L)):(settle es A F p x)[i]?=some (some (if (i:Int)∈es p then L.filter (A x) else L)):=by
 rw[Yt B hF hp i (pG hF h),if_neg hi,h]
 split<;>rfl
theorem Hj(B:Bo n k es A)(v:Fv n k F)(hp:p<n):Fv n k (settle es A F p x):=by
 refine⟨by rw[Ys];exact v.len,λi M h=>?_,λi M h=>?_,λi M h=>?_⟩<;>obtain⟨_,L,e,rfl⟩:=Kp B v.len hp h
 ·intro y hy;refine v.lo i L e y ?_;split at hy
  ·exact(ur.mp hy).1
  ·exact hy
 ·split
  ·exact jM (List.length_filter_le _ _) (v.ll i L e)
  ·exact v.ll i L e
 ·split
  ·exact(v.so i L e).filter _
  ·exact v.so i L e
theorem Kq(B:Bo n k es A)(v:Fv n k F)(hp:p<n){L:List Int}(hL:F[p]?=some (some L))(s:n8 es A F g):n8 es A (settle es A F p (g p)) g:=by
 refine⟨λi M h=>?_,λi e M N h1 h2 he=>?_⟩
 ·obtain⟨_,L',e,rfl⟩:=Kp B v.len hp h;have:=s.mem i L' e
  split
  ·exact ur.mpr ⟨this,s.fit p i L L' hL e (by assumption)⟩
  ·exact this
 ·obtain⟨_,L',e1,_⟩:=Kp B v.len hp h1;obtain⟨_,L2,e2,_⟩:=Kp B v.len hp h2;exact s.fit i e L' L2 e1 e2 he
theorem Yu(B:Bo n k es A)(v:Fv n k F)(hp:p<n){L:List Int}(hL:F[p]?=some (some L))(hx:x∈L)(s:n8 es A (settle es A F p x) g):n8 es A F λi=>if i=p then x else g i:=by
 have ap:∀(i:Nat) M,i≠p->F[i]?=some (some M)->(i:Int)∈es p->A x (g i)=true/\(0<=g i/\g i<k):=λi M ni h m=>by
  have h2:=Hg (x:=x) B v.len hp ni h;have:=s.mem i _ h2;rw[if_pos m] at this;exact⟨(ur.mp this).2,v.lo i M h _ (ur.mp this).1⟩
 have hxk:=v.lo p L hL x hx;refine⟨λi M h=>?_,λi e M N h1 h2 he=>?_⟩
 ·by_cases z:i=p
  ·subst z;rw[if_pos rfl];rw[hL] at h;cases h;exact hx
  ·rw[if_neg z];have:=s.mem i _ (Hg (x:=x) B v.len hp z h);split at this
   ·exact(ur.mp this).1
   ·exact this
 ·have li:=pG v.len h1;have le:=pG v.len h2;by_cases z:i=p
  ·subst z;have ne:e≠i:=λq=>(B.mem i li _ he).2.2 (by rw[q]);rw[if_pos rfl,if_neg ne];exact(ap e N ne h2 he).1
  ·by_cases y:e=p
   ·subst y;rw[if_neg z,if_pos rfl];have m:=B.sym i e li le he;obtain⟨q1,q2⟩:=ap i M z h1 m;rw[B.Yq _ _ q2.1 q2.2 hxk.1 hxk.2];exact q1
   ·rw[if_neg z,if_neg y];exact s.fit i e _ _ (Hg (x:=x) B v.len hp z h1) (Hg (x:=x) B v.len hp y h2) he
theorem Kr(B:Bo n k es A)(v:Fv n k F)(hp:p<n){L:List Int}(hL:F[p]?=some (some L)):Sat es A F↔∃x∈L,Sat es A (settle es A F p x):=
 ⟨λ⟨g,s⟩=>⟨g p,s.mem p L hL,g,Kq B v hp hL s⟩,λ⟨x,hx,g,s⟩=>⟨_,Yu B v hp hL hx s⟩⟩
noncomputable def cZ(es:Nat->List Int)(F:Fr)(p:Nat):Nat:=((es p).filter λe=>(F[e.toNat]?.join).isSome).length
noncomputable def bnd(es:Nat->List Int)(F:Fr):Fr:=F.mapIdx λi c=>if 0<cZ es F i then c else none
theorem Yv{i:Nat}:(bnd es F)[i]?=F[i]?.map λc=>if 0<cZ es F i then c else none:=by unfold bnd;rw[List.getElem?_mapIdx]
theorem zM{i:Nat}{L:List Int}(h:(bnd es F)[i]?=some (some L)):F[i]?=some (some L)/\0<cZ es F i:=by
 rw[Yv] at h;obtain⟨c,e1,e2⟩:=jZ.mp h;split at e2
 ·subst e2;exact⟨e1,by assumption⟩
 ·cases e2
theorem Yw(v:Fv n k F):Fv n k (bnd es F):=⟨by unfold bnd;rw[List.length_mapIdx];exact v.len,λi L h=>v.lo i L (zM h).1,λi L h=>v.ll i L (zM h).1,λi L h=>v.so i L (zM h).1⟩
theorem Yx{i e:Nat}{L:List Int}(hm:(e:Int)∈es i)(h:F[e]?=some (some L)):0<cZ es F i:=by
 unfold cZ;refine List.length_pos_of_mem (a:=(e:Int)) (ur.mpr ⟨hm,?_⟩);rw[ou,h];rfl
theorem zh6(B:Bo n k es A)(v:Fv n k F)(ne:∀(i:Nat) L,F[i]?=some (some L)->L≠[]):Sat es A (bnd es F)↔Sat es A F:=by
 constructor
 ·rintro⟨g,s⟩;have to:∀(i:Nat) L,F[i]?=some (some L)->0<cZ es F i->(bnd es F)[i]?=some (some L):=λi L h q=>by rw[Yv,h];show some (if _ then _ else _)=_;rw[if_pos q]
  refine⟨λi=>if 0<cZ es F i then g i else ((F[i]?.join).getD []).headD 0,λi L h=>?_,λi e L M h1 h2 he=>?_⟩
  ·by_cases q:0<cZ es F i
   ·rw[if_pos q];exact s.mem i L (to i L h q)
   ·rw[if_neg q,h];show L.headD 0∈L;cases L with
    |nil=>exact absurd rfl (ne i [] h)
    |cons a L=>exact j8
  ·have q1:=Yx he h2;have q2:=Yx (B.sym i e (pG v.len h1) (pG v.len h2) he) h1;rw[if_pos q1,if_pos q2];exact s.fit i e L M (to i L h1 q1) (to e M h2 q2) he
 ·rintro⟨g,s⟩;exact⟨g,λi L h=>s.mem i L (zM h).1,λi e L M h1 h2 he=>s.fit i e L M (zM h1).1 (zM h2).1 he⟩
theorem QX(h:∀(i:Nat) L,F[i]?≠some (some L)):Sat es A F:=⟨λ_=>0,λi L q=>absurd q (h i L),λi _ L _ q=>absurd q (h i L)⟩
theorem zim{i:Nat}(h:F[i]?=some (some [])):¬Sat es A F:=λ⟨g,s⟩=>nomatch s.mem i [] h
noncomputable def fX(k:Nat):List Int:=(List.range k).map λ(i:Nat)=>(i:Int)
theorem dW{k:Nat}{y:Int}:y∈fX k↔0<=y/\y<k:=by
 unfold fX;rw[qz]
 constructor
 ·rintro⟨i,hi,rfl⟩;have:=xO.mp hi;lia
 ·intro h;exact⟨y.toNat,xO.mpr (by lia),by lia⟩
theorem QZ(B:Bo n k es A)(v:Fv n k F)(hp:p<n)(hk:1<=k)(dI:∀t a b:Int,0<=a->a<k->0<=b->b<k->A ((a+t)%k) ((b+t)%k)=A a b)(all:∀(i:Nat) L,F[i]?=some (some L)->L=fX k)(hL:F[p]?=some (some (fX k))):Sat es A F↔Sat es A (settle es A F p 0):=by
 constructor
 ·rintro⟨g,s⟩;have md:∀z:Int,0<=z%(k:Int)/\z%(k:Int)<k:=λz=>⟨xM _ (by lia),z_ _ (by lia)⟩;have s2:n8 es A F λi=>(g i + -(g p))%k:=by
   refine⟨λi L h=>?_,λi e L M h1 h2 he=>?_⟩
   ·rw[all i L h];exact dW.mpr (md _)
   ·have a:=dW.mp (all i L h1▸s.mem i L h1);have b:=dW.mp (all e M h2▸s.mem e M h2);show A ((g i + -(g p))%k) ((g e + -(g p))%k)=true;rw[dI _ _ _ a.1 a.2 b.1 b.2];exact s.fit i e L M h1 h2 he
  have:=Kq B v hp hL s2;have e0:(g p + -(g p))%(k:Int)=0:=by rw[Int.add_right_neg];rfl
  simp only[e0] at this;exact⟨_,this⟩
 ·intro h;exact(Kr B v hp hL).mpr ⟨0,dW.mpr ⟨by lia,by lia⟩,h⟩
noncomputable def unset(F:Fr):Nat:=F.countP Option.isSome
theorem Yy:unset (bnd es F)<=unset F:=by
 unfold unset bnd;generalize cZ es F=f
 induction F generalizing f with
 |nil=>simp
 |cons c F ih=>
  rw[List.mapIdx_cons,Ac,Ac];have:=ih (λi=>f (i+1));have e:(if (if 0<f 0 then c else none).isSome=true then 1 else 0)<=(if c.isSome=true then 1 else 0):=by
   split<;>split<;>simp_all
  lia
theorem zfc{F:Fr}:∀{p:Nat} {L:List Int},F[p]?=some (some L)->unset (F.set p none)+1=unset F:=by
 unfold unset
 induction F with
 |nil=>intro p L h;simp at h
 |cons c F ih=>
  intro p L h;cases p with
  |zero=>simp at h;subst h;simp
  |succ p=>
   have:=ih (p:=p) (L:=L) (by simpa using h);rw[List.set_cons_succ,Ac,Ac]
   lia
theorem zf3{f:Int->Bool}{F:Fr}{e:Int}:unset (fj f F e)<=unset F:=by
 unfold unset fj;generalize e.toNat=j
 induction F generalizing j with
 |nil=>simp
 |cons c F ih=>
  cases j with
  |zero=>cases c<;>simp
  |succ j=>
   rw[List.set_cons_succ,Ac,Ac,zU];have:=ih j
   lia
theorem Yz{f:Int->Bool}:∀{l:List Int} {F:Fr},unset (l.foldl (fj f) F)<=unset F
 |[],F=>bJ _
 |e::l,F=>jM (Yz (l:=l)) zf3
theorem Hl{L:List Int}(h:F[p]?=some (some L)):unset (settle es A F p x)+1<=unset F:=by
 have:=Yz (f:=A x) (l:=es p) (F:=F.set p none);have:=zfc h;unfold settle
 lia
theorem zeU(h:unset F=0)(i:Nat)(L:List Int):F[i]?≠some (some L):=λe=>by
 have:=List.countP_eq_zero.mp h _ (fB e);exact this rfl
def jL(es:Nat->List Int)(A:Int->Int->Bool)(kvs:gY):Prop:=∀F d,bO (F.map cellK) kvs=some d->∃b,d=.bl b/\(b=true↔Sat es A F)
theorem YB{j q:List Kx}{d:D}:∀{kvs:gY},bO j (iU q d kvs)=if j=q then some d else bO j kvs:=by
 intro kvs;unfold iU;have app:∀{r:gY},bO j (r++[(q,d)])=match bO j r with|some e=>some e|none=>if j=q then some d else none:=λ{r}=>by
  induction r with
  |nil=>
   show (if q=j then some d else none)=if j=q then some d else none
   by_cases e:q=j
   ·rw[if_pos e,if_pos e.symm]
   ·rw[if_neg e,if_neg λz=>e z.symm]
  |cons p r ih=>
   rw[List.cons_append];unfold bO;by_cases e:p.1=j
   ·simp[e]
   ·simp only[e,qD];exact ih
 by_cases h:(bO q kvs).isSome=true
 ·rw[if_pos h];by_cases e:j=q
  ·subst e;rw[if_pos rfl]
   induction kvs with
   |nil=>simp[bO] at h
   |cons p r ih=>
    rw[jk];by_cases z:p.1=j
    ·rw[if_pos z];unfold bO;rw[if_pos z]
    ·rw[if_neg z];unfold bO at h ⊢;rw[if_neg z] at h ⊢;exact ih h
  ·rw[if_neg e];clear h
   induction kvs with
   |nil=>rfl
   |cons p r ih=>
    rw[jk];by_cases z:p.1=q
    ·rw[if_pos z];unfold bO;rw[if_neg (λy=>e (y.symm.trans z)),if_neg (λy=>e (y.symm.trans z))];exact ih
    ·rw[if_neg z];unfold bO;by_cases y:p.1=j
     ·rw[if_pos y,if_pos y]
     ·rw[if_neg y,if_neg y];exact ih
 ·rw[if_neg h,app];by_cases e:j=q
  ·subst e;have:bO j kvs=none:=by simpa using h
   simp[this]
  ·rw[if_neg e,if_neg e];cases bO j kvs<;>rfl
theorem zgX{q:List Kx}{d:D}{kvs:gY}:(iU q d kvs).length<=kvs.length+1:=by
 unfold iU
 split
 ·rw[cU];lia
 ·simp
theorem zjB{kvs:gY}{b:Bool}(h:jL es A kvs)(hb:b=true↔Sat es A F):jL es A (iU (F.map cellK) (.bl b) kvs):=λG d e=>by
 rw[YB] at e;by_cases z:G.map cellK=F.map cellK
 ·rw[if_pos z] at e;cases e;rw[Yp z];exact⟨b,rfl,hb⟩
 ·rw[if_neg z] at e;exact h G d e
end
noncomputable def cnt(k:Nat):Nat->Nat
 |0=>1
 |m+1=>1+k*cnt k m
section
variable {aq:Nat->Nat->Bool}{aj:Bool}{F:Fn}{J:Vs}{s:S}{P:Xv->S->Prop}
theorem W.pZ{c:Nat}{fs:List D}{P:List D->S->Prop}(h:P fs s):W (Mi.pZ c (.d (.ob c fs))) s P:=by
 show W (if c=c then M.ret fs else M.no) s P;rw[if_pos rfl];exact W.ret h
theorem W.cm{c f:Nat}{o:E}{xs:Es}{fs:List D}{vs:List Xv}(h1:cW aq o J=some (.d (.ob c fs)))(h2:mX aq xs J=some vs)(k:W (bZ (F f) (.d (.ob c fs)::vs)) s P):W (ev aq aj F (.cm c f o xs) J) s P:=
 W.bd (W.eq (fW o _ h1) (W.bd (W.pZ (W.bd (W.eq (ji xs h2) (W.qt k))))))
theorem W.pX(h:P (.l s.length) (s++[.dct []])):W (ev aq aj F .pX J) s P:=⟨_,_,rfl,h⟩
theorem W.key{x:D}{kx:List Kx}{P:List Kx->S->Prop}(e:kOf x=some kx)(h:P kx s):W (Mi.key (.d x)) s P:=W.opt e h
theorem W.eY{n:Nat}{kvs:gY}{P:Nat×gY->S->Prop}(e:s[n]?=some (.dct kvs))(h:P (n,kvs) s):W (Mi.eY (.l n)) s P:=⟨_,s,by unfold Mi.eY;simp only[e],h⟩
theorem W.yP{b:Bool}{k d:E}{x:D}{n:Nat}{kx:List Kx}{kvs:gY}(h1:cW aq k J=some (.d x))(h2:cW aq d J=some (.l n))(e:kOf x=some kx)(hn:s[n]?=some (.dct kvs))(h:P (.d (.bl ((bO kx kvs).isSome==b))) s):W (ev aq aj F (.yP b k d) J) s P:=
 W.bd (W.eq (fW k _ h1) (W.bd (W.eq (fW d _ h2) (W.bd (W.key e (W.bd (W.eY hn (W.ret h))))))))
theorem W.nM{d k:E}{x v:D}{n:Nat}{kx:List Kx}{kvs:gY}(h1:cW aq d J=some (.l n))(h2:cW aq k J=some (.d x))(e:kOf x=some kx)(hn:s[n]?=some (.dct kvs))(hv:bO kx kvs=some v)(h:P (.d v) s):W (ev aq aj F (.nM d k) J) s P:=
 W.bd (W.eq (fW d _ h1) (W.bd (W.eq (fW k _ h2) (W.bd (W.key e (W.bd (W.eY hn (W.opt (a:=.d v) (by show Option.map _ (bO kx kvs)=_;rw[hv];rfl) h))))))))
theorem W.Ay{a:E}(h:W (ev aq aj F a J) s λx s1=>W (rd x) s1 λd s2=>∃b,uV d=some b/\P (.d (.bl b)) s2):W (ev aq aj F (.Ay a) J) s P:=
 W.bd (h.imp λ_ _ h=>W.bd (h.imp λ_ _ ⟨_,e,h⟩=>W.bd (W.opt e (W.ret h))))
theorem YC{xs:List D}{P:Src×Nat->S->Prop}(h:P (.fix (enumFrom 0 xs),(enumFrom 0 xs).length) s):W (mO (.d (.tup xs))) s P:=⟨_,s,rfl,h⟩
theorem W.mk{c f:Nat}{xs:Es}{vs:List Xv}{ds:List D}(h:W (evs aq aj F xs J) s λus s1=>us=vs/\P (.d (.ob c ds)) s1)(hl:locs vs=[])(k:W (F f (.d .any::vs)) [] λv _=>v=.d (.tup ds)):W (ev aq aj F (.mk c f xs) J) s P:=by
 refine W.bd (h.imp λus s1 ⟨e,hp⟩=>?_);subst e;obtain⟨v,s2,e1,rfl⟩:=k;refine⟨_,s1,?_,hp⟩;unfold O5;rw[if_pos hl];simp only[e1]
end
theorem WS.dput{aq:Nat->Nat->Bool}{aj:Bool}{F:Bool->Fn}{J:Vs}{s:S}{Q:Out->S->Prop}{d k v:E}{x:D}{n:Nat}{kx:List Kx}(h1:cW aq d J=some (.l n))(h2:cW aq k J=some (.d x))(e:kOf x=some kx)
  (h:W (ev aq aj (F aj) v J) s λz s1=>∃w kvs,z=.d w/\s1[n]?=some (.dct kvs)/\kvs.length<sizeLine/\Q (.nx J) (s1.set n (.dct (iU kx w kvs)))):WS (ex aq aj F (.dput d k v) J) s Q:=by
 refine WS.ofM (W.bd (h.imp λz s1 ⟨w,kvs,ez,hn,hl,q⟩=>?_));subst ez;refine W.bd (W.dat (W.bd (W.eq (fW d _ h1) (W.bd (W.eq (fW k _ h2) (W.bd (W.key e (W.bd (W.eY hn ?_)))))))));rw[if_pos hl];exact⟨_,_,rfl,WS.nx q⟩
theorem YD{α:Type}{f:α->D}:∀(l:List α) (j:Nat),enumFrom j (l.map f)=(l.zipIdx j).map λp=>.tup [.int p.2,f p.1]
 |[],j=>rfl
 |a::l,j=>by rw[jk,List.zipIdx_cons,jk,<-YD l (j+1)];rfl
theorem KaW{o:Option Rz}{xs:List D}{s:S}{P:Xv->S->Prop}(e:o=some (.nw xs))(h:P (.l s.length) (s++[.lst xs])):W (bV false o) s P:=by subst e;exact⟨_,_,rfl,h⟩
theorem YF{n:Nat}{j:Int}(h0:0<=j)(h:j<n):L2.pP n j=some j.toNat:=by
 unfold L2.pP;rw[if_pos h0,if_pos h]
theorem zil{n:Nat}{j:Int}(h0:j<0)(h : -(n:Int)<=j):L2.pP n j=some (j+n).toNat:=by
 unfold L2.pP;rw[if_neg (by lia),if_pos h]
theorem zmb{xs:List D}{j:Int}{x:D}(h0:j<0)(h1 : -(xs.length:Int)<=j)(h:xs[(j+xs.length).toNat]?=some x):prim .ix [.fl xs,.int j]=some (.dat x):=by
 show Option.map Rz.dat (L2.oM xs j)=_;have:L2.oM xs j=some x:=by
  unfold L2.oM;rw[zil h0 h1];exact h
 rw[this];rfl
theorem zhm(F:Fr):memD (.tup []) (F.map bA)=some (decide (some []∈F)):=by
 induction F with
 |nil=>rfl
 |cons c F ih=>
  simp only[jk,memD,ih];cases c with
  |none=>simp[bA,cR,kq]
  |some l=>
   cases l with
   |nil=>
    have:cR 50 (bA (some [])) (.tup [])=some true:=rfl;rw[this];simp
   |cons a l=>
    have:cR 50 (bA (some (a::l))) (.tup [])=some false:=rfl;rw[this];simp
theorem zml{f:Bool->Bool}{F:Fr}:Az f [.tup [],iK F]=some (.dat (.bl (f (decide (some []∈F))))):=by
 show Option.map _ (memD (.tup []) (F.map bA))=_;rw[zhm];rfl
theorem YG{k':Nat}:∀(a b:List Int),c7 (cR k') (a.map D.int) (b.map D.int)=some (decide (a=b))
 |[],[]=>by simp[c7]
 |[],_::_=>by simp[c7]
 |_::_,[]=>by simp[c7]
 |x::a,y::b=>by
  have hi:cR k' (.int x) (.int y)=some (x==y):=by cases k'<;>rfl
  simp only[jk,c7,YG a b,hi]
  congr 1
  by_cases e:x=y<;>by_cases e2:a=b<;>simp[e,e2]
theorem Ho{f:Bool->Bool}{a b:List Int}:yS f [.tup (a.map .int),.tup (b.map .int)]=some (.dat (.bl (f (decide (a=b))))):=by
 show Option.map _ (c7 (cR 49) (a.map D.int) (b.map D.int))=_;rw[YG];rfl
theorem YH:∀rs:List (List Int),jr (rs.map λr=>D.tup (r.map .int))=some rs
 |[]=>rfl
 |r::rs=>by simp only[jk,jr,QT,YH rs]
theorem Q0:∀(rs:List (List Int)) (b:List Int),eU b rs=b\/eU b rs∈rs
 |[],b=>.inl rfl
 |x::r,b=>by
  unfold eU
  split
  ·rcases Q0 r x with h|h
   ·rw[h];exact .inr j8
   ·exact .inr (gQ _ h)
  ·rcases Q0 r b with h|h
   ·exact .inl h
   ·exact .inr (gQ _ h)
theorem zlA{rs:List (List Int)}(h:rs≠[]):∃r∈rs,prim .pU [.fl (rs.map λr=>D.tup (r.map .int))]=some (.dat (.tup (r.map .int))):=by
 cases rs with
 |nil=>exact absurd rfl h
 |cons x r=>
  refine⟨eU x r,?_,?_⟩
  ·rcases Q0 r x with h|h
   ·rw[h];exact j8
   ·exact gQ _ h
  ·show mK [.fl ((x::r).map λr=>D.tup (r.map .int))]=_;unfold mK;simp only[YH]
theorem zmZ{n:Nat}(h:n<=65536):prim .Ax [.int n]=some (.dat (.tup ((fX n).map .int))):=by
 show (if okR 0 (n:Int)=true then some (Rz.dat (.tup (Fj 0 ((n:Int)-0).toNat))) else none)=_;rw[if_pos (show okR 0 (n:Int)=true from iy (by lia))];unfold Fj fX;rw[qC,show ((n:Int)-0).toNat=n by lia]
 congr 4
 funext i
 simp
noncomputable def zN(n:Nat)(es:Nat->List Int):List D:=(List.range n).map λi=>.tup ((es i).map .int)
noncomputable def uo(k:Nat)(A:Int->Int->Bool):List D:=(List.range k).map λ(a:Nat)=>.fl ((List.range k).map λ(b:Nat)=>.bl (A a b))
noncomputable def iM(n k:Nat)(es:Nat->List Int)(A:Int->Int->Bool):D:=.ob 0 [.fl (zN n es),.tup ((fX k).map .int),.fl (uo k A),.bl true]
theorem YJ{n:Nat}{es:Nat->List Int}{i:Nat}(h:i<n):(zN n es)[i]?=some (.tup ((es i).map .int)):=by
 unfold zN;rw[gU,BZ h];rfl
theorem zl2{k:Nat}{A:Int->Int->Bool}{a:Int}(h0:0<=a)(h:a<k):(uo k A)[a.toNat]?=some (.fl ((List.range k).map λ(b:Nat)=>.bl (A a b))):=by
 unfold uo;rw[gU,BZ (by lia)];have:((a.toNat:Nat):Int)=a:=by lia
 simp[this]
theorem Q5{k:Nat}{f:Int->Bool}{b:Int}(h0:0<=b)(h:b<k):((List.range k).map λ(b:Nat)=>D.bl (f b))[b.toNat]?=some (.bl (f b)):=by
 rw[gU,BZ (by lia)];have:((b.toNat:Nat):Int)=b:=by lia
 simp[this]
theorem Hq{F:Fr}{i:Nat}{c:Option (List Int)}(h:F[i]?=some c):(F.map bA)[i]?=some (bA c):=by rw[gU,h];rfl
theorem zjt{f:Int->Bool}{F:Fr}{e:Int}:(fj f F e).map bA=(F.map bA).set e.toNat (bA ((F[e.toNat]?.join).map (·.filter f))):=by
 unfold fj;rw[List.map_set]
theorem zgQ{f:Int->Bool}{F:Fr}{e:Int}(h:F[e.toNat]?=some none):fj f F e=F:=by
 unfold fj;rw[h];obtain⟨hl,e2⟩:=eO.mp h;show F.set e.toNat none=F;rw[<-e2,List.set_getElem_self]
theorem YK{α:Type}{p:Int->Bool}(l:List Int):l.filterMap (λy=>if p y=true then some (D.int y) else none)=(l.filter p).map .int:=by
 induction l with
 |nil=>rfl
 |cons a l ih=>
  rw[BX,List.filter_cons];by_cases q:p a=true
  ·simp[q,ih]
  ·simp[q,ih]
noncomputable def tot(k:Nat):Nat->Nat
 |0=>0
 |m+1=>k*cnt k m+tot k m
theorem YL{k:Nat}{L:List Int}(h:L.Pairwise (·<·))(hb:∀x∈L,0<=x/\x<k):L.length<=k:=by
 have key:∀(L:List Int) (a:Int),L.Pairwise (·<·)->(∀x∈L,a<=x/\x<k)->a<=k->(L.length:Int)<=k-a:=by
  intro L
  induction L with
  |nil=>intro a _ _ ha;simp;lia
  |cons x r ih=>
   intro a h hb ha;rw[zZ] at h;have hx:=hb x (by simp);have:=ih (x+1) h.2 (λy hy=>by have:=h.1 y hy;have:=hb y (by simp[hy]);lia) (by lia);rw[gD]
   lia
 have:=key L 0 h hb (by lia)
 lia
noncomputable def cQ(k d:Int)(a b:Int):Bool:=decide (d<=cB k a b)
section
variable {n k d:Int}{ps:List (Int×Int)}{ls:List Int}
theorem YM(hd:1<=d){a b:Int}:cQ k d a b=cQ k d b a:=by
 unfold cQ;rw[tG,wX hd,wX hd]
 lia
theorem YQ(hd:1<=d)(t a b:Int)(a0:0<=a)(ak:a<k)(b0:0<=b)(bk:b<k):cQ k d ((a+t)%k) ((b+t)%k)=cQ k d a b:=by
 unfold cQ;rw[tG,wX hd,wX hd];have e1:=H_ (a+t) k;have e2:=H_ (b+t) k;have u0:=xM (a+t) (b:=k) (by lia);have w0:=xM (b+t) (b:=k) (by lia);have uk:=z_ (a+t) (b:=k) (by lia);have wk:=z_ (b+t) (b:=k) (by lia);generalize (a+t)%k=u at *;generalize (b+t)%k=w at *;generalize (a+t)/k=q1 at *;generalize (b+t)/k=q2 at *;have e3:k*(q1-q2)=(a-b)-(u-w):=by rw[Int.mul_sub];lia
 have c:q1-q2 = -1\/q1-q2=0\/q1-q2=1:=by
  have h1:q1-q2<2:=Int.not_le.mp λz=>by
   have:=Int.mul_le_mul_of_nonneg_left z (show 0<=k by lia)
   lia
  have h2 : -2<q1-q2:=Int.not_le.mp λz=>by
   have:=Int.mul_le_mul_of_nonneg_left z (show 0<=k by lia)
   lia
  lia
 rcases c with c|c|c<;>rw[c] at e3<;>lia
theorem Hr(w:Web n ps){i e:Int}:e∈bI i ps↔(i,e)∈ps\/(e,i)∈ps:=by
 unfold bI;rw[zW]
 constructor
 ·rintro⟨p,hp,h⟩;obtain⟨a,b⟩:=p;unfold endOf at h;dsimp only at h;split at h
  ·cases h;subst_vars;exact .inl hp
  ·split at h
   ·cases h;subst_vars;exact .inr hp
   ·cases h
 ·rintro(hp|hp)
  ·exact⟨_,hp,by simp[endOf]⟩
  ·have:=w.tie _ hp;dsimp only at this;exact⟨_,hp,by unfold endOf;dsimp only;rw[if_neg (by lia),if_pos rfl]⟩
theorem zlS(w:Web n ps)(hd:1<=d)(hk:k<=24):Bo n.toNat k.toNat (λi=>bI i ps) (cQ k d) where
 hn:=by have:=w.h8;lia
 hk:=by lia
 mem:=λi hi e he=>by
  have:=XQ w he;refine⟨this.1,by lia,λz=>?_⟩;subst z;rcases(Hr w).mp he with h|h<;>have:=w.tie _ h<;>dsimp only at this<;>lia
 sym:=λi e _ _ he=>(Hr w).mpr ((Hr w).mp he).symm
 len:=λi hi=>by
  have:=YL (k:=n.toNat) (XM w i) (λx hx=>by have:=XQ w hx;have:=w.h1;lia);have:=w.h8
  lia
 Yq:=λa b _ _ _ _=>YM hd
noncomputable def iw(n k:Int):Fr:=List.replicate n.toNat (some (fX k.toNat))
theorem Hs{i:Nat}{L:List Int}(h:(iw n k)[i]?=some (some L)):i<n.toNat/\L=fX k.toNat:=by
 unfold iw at h;rw[zT] at h;split at h
 ·cases h;exact⟨by assumption,rfl⟩
 ·cases h
theorem Ks{i:Nat}(h:i<n.toNat):(iw n k)[i]?=some (some (fX k.toNat)):=by
 unfold iw;rw[zT,if_pos h]
theorem Ku(hk:k<=24):Fv n.toNat k.toNat (iw n k) where
 len:=by unfold iw;simp
 lo:=λi L h x hx=>by rw[(Hs h).2] at hx;exact dW.mp hx
 ll:=λi L h=>by rw[(Hs h).2];unfold fX;simp;lia
 so:=λi L h=>by
  rw[(Hs h).2];unfold fX;rw[Lx];exact List.pairwise_lt_range.imp (by intro a b h;lia)
theorem YS(w:Web n ps)(hd:1<=d){hs:List Int}(h:dH n k d ps hs):n8 (λi=>bI i ps) (cQ k d) (iw n k) λj=>at' hs j where
 mem:=λi L e=>by
  obtain⟨h1,rfl⟩:=Hs e;have:=h.len;have:=h.lo _ (Bs (fs:=hs) (j:=i) (by lia) (by lia));exact dW.mpr (by lia)
 fit:=λi e L M _ _ he=>by
  rcases(Hr w).mp he with q|q
  ·have:=h.fit _ q;show cQ k d (at' hs i) (at' hs e)=true;unfold cQ;rw[Ib];exact this
  ·have:=h.fit _ q;rw[YM hd];show cQ k d (at' hs e) (at' hs i)=true;unfold cQ;rw[Ib];exact this
theorem zhl(w:Web n ps){hs:List Int}(hl:hs.length=n.toNat)(s:n8 (λi=>bI i ps) (cQ k d) (iw n k) λj=>at' hs j):dH n k d ps hs where
 len:=by have:=w.h1;lia
 lo:=λx hx=>by
  obtain⟨j,hj,e⟩:=vO hx;have:=s.mem j _ (Ks (by lia));have e2:at' hs (j:Int)=x:=by
   unfold at';rw[ou,jC,dj hj,e];rfl
  rw[e2] at this;have:=dW.mp this
  lia
 fit:=λp hp=>by
  have ht:=w.tie p hp;obtain⟨a,b⟩:=p;dsimp only at ht;obtain⟨i,rfl⟩:=BP ht.1;obtain⟨e,rfl⟩:=BP (show 0<=b by lia);have:=s.fit i e _ _ (Ks (by lia)) (Ks (by lia)) ((Hr w).mpr (.inl hp));unfold cQ at this;rw[Ib] at this;exact this
end
theorem Q6{k k2 m m2:Nat}(hk:k<=k2)(hm:m<=m2):cnt k m<=cnt k2 m2:=by
 have h1:∀m,cnt k m<=cnt k2 m:=by
  intro m
  induction m with
  |zero=>exact bJ _
  |succ m ih=>exact Nat.add_le_add_left (Nat.mul_le_mul hk ih) 1
 have h3:∀m,1<=cnt k2 m:=λm=>by cases m<;>unfold cnt<;>lia
 by_cases c:k2=0
 ·subst c;have:k=0:=by lia
  subst this;cases m<;>cases m2<;>simp[cnt]
 ·have h2:∀j,cnt k2 m<=cnt k2 (m+j):=by
   intro j
   induction j with
   |zero=>exact bJ _
   |succ j ih=>
    have:1*cnt k2 (m+j)<=k2*cnt k2 (m+j):=Ia _ (by lia);show _<=1+k2*cnt k2 (m+j)
    lia
  have:=h2 (m2-m);rw[show m+(m2-m)=m2 by lia] at this;exact jM (h1 m) this
theorem YT{k k2 m m2:Nat}(hk:k<=k2)(hm:m<=m2):tot k m<=tot k2 m2:=by
 have h1:∀m,tot k m<=tot k2 m:=by
  intro m
  induction m with
  |zero=>exact bJ _
  |succ m ih=>exact Nat.add_le_add (Nat.mul_le_mul hk (Q6 hk (bJ _))) ih
 have h2:∀j,tot k2 m<=tot k2 (m+j):=by
  intro j
  induction j with
  |zero=>exact bJ _
  |succ j ih=>show _<=k2*cnt k2 (m+j)+tot k2 (m+j);lia
 have:=h2 (m2-m);rw[show m+(m2-m)=m2 by lia] at this;exact jM (h1 m) this
section
variable {n m:Int}{ps:List (Int×Int)}{r h:List Int}{x y:Int}
end
theorem YW(a k:Int) : -(a%k)%k = -a%k:=by
 have e:=H_ a k;have : -(a%k) = -a+k*(a/k):=by lia
 rw[this,K_]
theorem YX(a b k:Int):(a%k+b)%k=(a+b)%k:=by
 have e:=H_ a k;have:a%k+b=(a+b)+k*(-(a/k)):=by rw[Int.mul_neg];lia
 rw[this,K_]
theorem Kv{a k:Int}(h0:0<=a)(h:a<k):a%k=a:=Int.emod_eq_of_lt h0 h
theorem YZ{a k:Int}(h:0<k):0<=a%k/\a%k<k:=⟨xM _ (by lia),z_ _ h⟩
noncomputable def cI(k m:Int)(hs:List Int):List Int:=hs.map λx=>(x+m)%k
noncomputable def eE(k:Int)(hs:List Int):List Int:=hs.map λx=>-x%k
section
variable {n k d m:Int}{ps:List (Int×Int)}{hs:List Int}
theorem Y0(w:Web n ps)(hd:1<=d)(hk:1<=k)(h:dH n k d ps hs):dH n k d ps (cI k m hs) where
 len:=by unfold cI;rw[cU];exact h.len
 lo:=λx hx=>by
  obtain⟨y,_,rfl⟩:=qz.mp hx;exact YZ (by lia)
 fit:=λp hp=>by
  have ht:=w.tie p hp;have hl:=h.len;have a:=h.lo _ (Bs (fs:=hs) (j:=p.1) (by lia) (by lia));have b:=h.lo _ (Bs (fs:=hs) (j:=p.2) (by lia) (by lia));unfold cI;rw[GQ (by lia) (by lia),GQ (by lia) (by lia)];have:=YQ (k:=k) hd m _ _ a.1 a.2 b.1 b.2;unfold cQ at this;rw[tG] at this;exact this.mpr (h.fit p hp)
theorem zis(hd:1<=d){a b:Int}(a0:0<=a)(ak:a<k)(b0:0<=b)(bk:b<k):d<=cB k (-a%k) (-b%k)↔d<=cB k a b:=by
 have key:∀a:Int,0<=a->a<k->(a=0/\-a%k=0)\/-a%k=k-a:=λa h0 h1=>by
  by_cases c:a=0
  ·exact .inl ⟨c,by rw[c];simp⟩
  ·refine .inr ?_;rw[show -a=(k-a)+k*(-1) by lia,K_,Kv (by lia) (by lia)]
 rw[wX hd,wX hd];rcases key a a0 ak with ⟨e1,e2⟩|e1<;>rcases key b b0 bk with ⟨e3,e4⟩|e3<;>lia
theorem zf7(w:Web n ps)(hd:1<=d)(hk:1<=k)(h:dH n k d ps hs):dH n k d ps (eE k hs) where
 len:=by unfold eE;rw[cU];exact h.len
 lo:=λx hx=>by
  obtain⟨y,_,rfl⟩:=qz.mp hx;exact YZ (by lia)
 fit:=λp hp=>by
  have ht:=w.tie p hp;have hl:=h.len;have a:=h.lo _ (Bs (fs:=hs) (j:=p.1) (by lia) (by lia));have b:=h.lo _ (Bs (fs:=hs) (j:=p.2) (by lia) (by lia));unfold eE;rw[GQ (by lia) (by lia),GQ (by lia) (by lia)];exact(zis hd a.1 a.2 b.1 b.2).mpr (h.fit p hp)
theorem zgn(h:∀x∈hs,0<=x/\x<k):cI k (0-m) (cI k m hs)=hs:=by
 unfold cI;rw[qC]
 conv=>rhs;rw[<-List.map_id hs]
 refine B_ λx hx=>?_;show ((x+m)%k+(0-m))%k=x;rw[YX,show x+m+(0-m)=x by lia,Kv (h x hx).1 (h x hx).2]
theorem zfE(h:∀x∈hs,0<=x/\x<k):eE k (eE k hs)=hs:=by
 unfold eE;rw[qC]
 conv=>rhs;rw[<-List.map_id hs]
 refine B_ λx hx=>?_;show -(-x%k)%k=x;rw[YW,Int.neg_neg,Kv (h x hx).1 (h x hx).2]
theorem zeR(h:∀x∈hs,0<=x/\x<k):cI k k hs=hs:=by
 unfold cI
 conv=>rhs;rw[<-List.map_id hs]
 refine B_ λx hx=>?_;show (x+k)%k=x;rw[Int.add_emod_right,Kv (h x hx).1 (h x hx).2]
theorem ze5:eE k (cI k m hs)=cI k (0-m) (eE k hs):=by
 unfold eE cI;rw[qC,qC];refine B_ λx hx=>?_;show -((x+m)%k)%k=(-x%k+(0-m))%k;rw[YW,YX]
 congr 1
 lia
theorem Y4(h:dH n k d ps hs):mY k d ps hs=[]:=sV.mpr (jw.mpr h.fit)
theorem vK:vJ k d ps hs=.non↔mY k d ps hs=[]:=by
 unfold vJ;cases mY k d ps hs with
 |nil=>exact⟨λ_=>rfl,λ_=>rfl⟩
 |cons p r=>exact⟨λz=>(by cases z),λz=>by cases z⟩
theorem Y5:(vJ k d ps hs).mH=decide (mY k d ps hs=[]):=by
 unfold vJ;cases mY k d ps hs with
 |nil=>rfl
 |cons p r=>rfl
theorem zjc(hl:(hs.length:Int)=n)(h:∀x∈hs,0<=x/\x<k)(hc:mY k d ps hs=[]):dH n k d ps hs:=⟨hl,h,jw.mp (sV.mp hc)⟩
theorem ziO(k a b:Int):cB k a b=cB k b a:=by
 unfold cB
 split<;>split<;>(try split)<;>(try split)<;>lia
theorem zgz(hk:0<k)(a:Int):cB k a a=0:=by
 unfold cB
 split<;>(try split)<;>lia
theorem zhn{a b:Int}(a0:0<=a)(ak:a<k)(b0:0<=b)(bk:b<k):0<=2*cB k a b/\2*cB k a b<=k:=by
 unfold cB
 split<;>(try split)<;>lia
theorem zg6{a b:Int}(a0:0<=a)(ak:a<k)(b0:0<=b)(bk:b<k):cB k a b=0↔a=b:=by
 unfold cB
 split<;>(try split)<;>lia
end
end Mi
namespace dM
open PySem Mi
noncomputable def b0:bM:=(.cons (.ret (.and (.oW (.v 0) .int) (.not (.oW (.v 0) .bool)))) .nil)
noncomputable def b1:bM:=(.cons (.ret (.and (.call 0 (Ea (.v 0))) (.uU .le .le (.v 1) (.v 0) (.v 2)))) .nil)
noncomputable def b2:bM:=(.cons (.ret (.and (.oW (.v 0) .tuple) (.pr true .eq (Eb (.pr true .len (Ea (.v 0))) (.v 1))))) .nil)
noncomputable def b3:bM:=(.cons (.iff (.not (.call 2 (Eb (.v 0) (Ci 2)))) (.cons (.ret (.c (.bl false))) .nil) .nil) (.cons (.asg (.tp [1,2]) (.v 0)) (.cons (.ret (.and (.call 1 (Ec (.v 1) (Ci 1) (Ci 24))) (.call 1 (Ec (.v 2) (Ci 1) (.v 1))))) .nil)))
noncomputable def b4:bM:=(.cons (.ex (.call 6 (Ea (.v 0)))) (.cons (.ex (.call 7 (Eb (.v 0) (.v 1)))) (.cons (.ex (.call 7 (Eb (.v 0) (.v 2)))) (.cons (.ret (.call 8 (Ec (.v 0) (.v 1) (.v 2)))) .nil))))
noncomputable def b5:bM:=(.cons (.ret (.call 1 (Ec (.v 1) (Ci 0) (.pr true .aq (Eb (Ei (.v 0) (Ci 0)) (Ci 1)))))) .nil)
noncomputable def b6:bM:=(.cons (.iff (.not (.call 3 (Ea (.v 0)))) (.cons .no .nil) .nil) .nil)
noncomputable def b7:bM:=(.cons (.iff (.not (.call 5 (Eb (.v 0) (.v 1)))) (.cons .no .nil) .nil) .nil)
noncomputable def b8:bM:=(.cons (.asg (.nm 3) (.pr true .abs (Ea (.pr true .aq (Eb (.v 1) (.v 2)))))) (.cons (.ret (.pr true .min2 (Eb (.v 3) (.pr true .aq (Eb (Ei (.v 0) (Ci 0)) (.v 3)))))) .nil))
noncomputable def b9:bM:=(.cons (.iff (.not (.call 2 (Eb (.v 0) (Ci 2)))) (.cons (.ret (.c (.bl false))) .nil) .nil) (.cons (.asg (.tp [1,2]) (.v 0)) (.cons (.iff (.or (.not (.call 10 (Ea (.v 1)))) (.not (.oW (.v 2) .tuple))) (.cons (.ret (.c (.bl false))) .nil) .nil) (.cons (.iff (.not (.pr true .all (Ea (.comp true (.call 12 (Eb (.v 1) (.v 0))) [0] (.seq (.v 2)) [1] 1 .no)))) (.cons (.ret (.c (.bl false))) .nil) .nil) (.cons (.ret (.pr true .all (Ea (.comp true (.pr true .lt (Eb (.v 0) (.v 1))) [0,1] (.zip (.v 2) (.sl true (.v 2) (.yes (Ci 1)) .no)) [] 2 .no)))) .nil)))))
noncomputable def b10:bM:=(.cons (.ret (.call 1 (Ec (.v 0) (Ci 1) (Ci 8)))) .nil)
noncomputable def Q7:bM:=(.cons (.ret (.call 1 (Ec (.v 1) (Ci 0) (.pr true .aq (Eb (.v 0) (Ci 1)))))) .nil)
noncomputable def Q8:bM:=(.cons (.iff (.not (.call 2 (Eb (.v 1) (Ci 2)))) (.cons (.ret (.c (.bl false))) .nil) .nil) (.cons (.asg (.tp [2,3]) (.v 1)) (.cons (.ret (.and (.call 11 (Eb (.v 0) (.v 2))) (.and (.call 11 (Eb (.v 0) (.v 3))) (.pr true .lt (Eb (.v 2) (.v 3)))))) .nil)))
noncomputable def Q9:bM:=(.cons (.iff (.not (.call 9 (Ea (.v 0)))) (.cons .no .nil) .nil) .nil)
noncomputable def Q_:bM:=(.cons (.asg (.nm 2) (.comp true (.ite (.pr true .eq (Eb (.v 0) (.v 2))) (.v 1) (.v 0)) [0,1] (.seq (Ei (.v 0) (Ci 1))) [1] 2 (.yes (.pr true .inn (Eb (.v 2) (.tup (Eb (.v 0) (.v 1)))))))) (.cons (.ret (.pr true .tuple (Ea (.pr true .sorted (Ea (.v 2)))))) .nil))
noncomputable def Ra:bM:=(.cons (.ret (.comp true (.call 14 (Eb (.v 1) (.v 0))) [0] (.rg (Ci 0) (Ei (.v 0) (Ci 0))) [0] 1 .no)) .nil)
noncomputable def Rb:bM:=(.cons (.ex (.call 13 (Ea (.v 0)))) (.cons (.ex (.call 6 (Ea (.v 1)))) (.cons (.ret (.call 22 (Ec (.v 0) (.v 1) (.v 2)))) .nil)))
noncomputable def Rf:bM:=(.cons (.ex (.call 23 (Ec (.v 0) (.v 1) (.v 2)))) (.cons (.ret (.pr true .tuple (Ea (.comp true (.pr true .mod (Eb (.pr true .add (Eb (.v 0) (.v 1))) (Ei (.v 2) (Ci 0)))) [0] (.seq (.v 2)) [3,1] 1 .no)))) .nil))
noncomputable def Rg:bM:=(.cons (.ex (.call 23 (Ec (.v 0) (.v 1) (.v 2)))) (.cons (.ret (.call 20 (Eb (.v 1) (.v 2)))) .nil))
noncomputable def Rh:bM:=(.cons (.ex (.call 13 (Ea (.v 0)))) (.cons (.ex (.call 6 (Ea (.v 1)))) (.cons (.iff (.not (.call 21 (Ec (.v 0) (.v 1) (.v 2)))) (.cons .no .nil) .nil) (.cons (.ret (.call 24 (Ec (.v 0) (.v 1) (.v 2)))) .nil))))
noncomputable def Ri:bM:=(.cons (.ret (.pr true .tuple (Ea (.comp true (.pr true .mod (Eb (.pr true .neg (Ea (.v 0))) (Ei (.v 1) (Ci 0)))) [0] (.seq (.v 1)) [0] 1 .no)))) .nil)
noncomputable def Rj:bM:=(.cons (.ret (.and (.call 2 (Eb (.v 2) (Ei (.v 0) (Ci 0)))) (.pr true .all (Ea (.comp true (.call 5 (Eb (.v 1) (.v 0))) [0] (.seq (.v 2)) [1] 1 .no))))) .nil)
noncomputable def Kw:bM:=(.cons (.ret (.and (.call 21 (Ec (.v 0) (.v 1) (.v 2))) (.pr true .qJ (Ea (.call 24 (Ec (.v 0) (.v 1) (.v 2))))))) .nil)
noncomputable def Rm:bM:=(.cons (.ex (.call 13 (Ea (.v 0)))) (.cons (.ex (.call 6 (Ea (.v 1)))) (.cons (.iff (.not (.call 22 (Ec (.v 0) (.v 1) (.v 2)))) (.cons .no .nil) .nil) .nil)))
noncomputable def Ky:bM:=(.cons (.fr (.tp [3,4]) (.seq (Ei (.v 0) (Ci 1))) (.cons (.iff (.pr true .lt (Eb (.call 8 (Ec (.v 1) (Ei (.v 2) (.v 3)) (Ei (.v 2) (.v 4)))) (Ei (.v 1) (Ci 1)))) (.cons (.ret (.tup (Eb (.v 3) (.v 4)))) .nil) .nil) .nil)) (.cons (.ret (.c .non)) .nil))
noncomputable def Rn:bM:=(.cons (.ret (.tup (.cons (.call 15 (Ea (.v 1))) (Ec (.pr true .Ax (Ea (.pr true .len (Ea (.v 2))))) (.v 2) (.v 3))))) .nil)
noncomputable def Ro:bM:=(.cons (.ret (Ei (Ei (.of (.v 0) 0 2) (.v 1)) (.v 2))) .nil)
noncomputable def Rp:bM:=(.cons (.asg (.nm 4) (.pr false .list (Ea (.v 1)))) (.cons (.asg (.aq (.v 4) (.v 2)) (.c .non)) (.cons (.fr (.nm 5) (.seq (Ei (.of (.v 0) 0 0) (.v 2))) (.cons (.iff (.pr true .pR (Ea (Ei (.v 4) (.v 5)))) (.cons (.asg (.aq (.v 4) (.v 5)) (.pr true .tuple (Ea (.comp true (.v 0) [0] (.seq (Ei (.v 4) (.v 5))) [0,3] 1 (.yes (.cm 0 26 (.v 1) (Eb (.v 2) (.v 0)))))))) .nil) .nil) .nil)) (.cons (.ret (.pr true .tuple (Ea (.v 4)))) .nil))))
noncomputable def Rq:bM:=(.cons (.ret (.pr true .len (Ea (.comp true (.v 0) [0] (.seq (Ei (.of (.v 0) 0 0) (.v 2))) [1] 1 (.yes (.pr true .pR (Ea (Ei (.v 1) (.v 0))))))))) .nil)
noncomputable def Rr:bM:=(.cons (.ret (.pr true .tuple (Ea (.comp true (.ite (.pr true .gt (Eb (.cm 0 28 (.v 2) (Eb (.v 3) (.v 0))) (Ci 0))) (.v 1) (.c .non)) [0,1] (.enum (.v 1)) [0,1] 2 .no)))) .nil)
noncomputable def Rt:bM:=(.cons (.asg (.nm 2) (.lst false .nil)) (.cons (.fr (.tp [3,4]) (.enum (.v 1)) (.cons (.iff (.pr true .pR (Ea (.v 4))) (.cons (.ex (.push (.v 2) (.tup (Ec (.pr true .len (Ea (.v 4))) (.pr true .neg (Ea (.cm 0 28 (.v 0) (Eb (.v 1) (.v 3))))) (.v 3))))) .nil) .nil) .nil)) (.cons (.ret (.ite (.Ay (.v 2)) (Ei (.pr true .pU (Ea (.v 2))) (Ci 2)) (.c .non))) .nil)))
noncomputable def Ru:bM:=(.cons (.ret (.pr true .all (Ea (.comp true (.or (.pr true .qJ (Ea (.v 0))) (.pr true .eq (Eb (.v 0) (.of (.v 1) 0 1)))) [0] (.seq (.v 1)) [0] 1 .no)))) .nil)
noncomputable def Rw:bM:=(.cons (.asg (.tp [2,3]) (.v 1)) (.cons (.asg (.nm 4) (.comp true (.pr true .ge (Eb (.pr true .min2 (Eb (.v 0) (.pr true .aq (Eb (.v 1) (.v 0))))) (.v 2))) [0] (.rg (Ci 0) (.v 2)) [2,3] 1 .no)) (.cons (.ret (.mk 0 25 (Ec (.v 0) (.comp true (.comp true (Ei (.v 1) (.pr true .aq (Eb (.v 2) (.v 0)))) [0] (.rg (Ci 0) (.v 1)) [2,0] 1 .no) [0] (.rg (Ci 0) (.v 2)) [2,4] 1 .no) (.c (.bl true))))) .nil)))
noncomputable def Rx:bM:=(.cons (.ex (.call 13 (Ea (.v 0)))) (.cons (.ex (.call 6 (Ea (.v 1)))) (.cons (.asg (.nm 2) (.call 32 (Eb (.v 0) (.v 1)))) (.cons (.ret (.call 34 (Eb (.v 2) (.comp true (.of (.v 1) 0 1) [0] (.rg (Ci 0) (Ei (.v 0) (Ci 0))) [2] 1 .no)))) .nil))))
noncomputable def Ry:bM:=(.cons (.asg (.nm 2) (.pr true .tuple (Ea (.v 1)))) (.cons (.asg (.nm 3) .pX) (.cons (.iff (.not (.call 36 (Ec (.v 0) (.v 3) (.v 2)))) (.cons (.ret (.c .non)) .nil) .nil) (.cons (.asg (.nm 4) (.lst false .nil)) (.cons (.fr (.nm 5) (.rg (Ci 0) (.pr true .len (Ea (.v 1)))) (.cons (.asg (.nm 6) (.call 35 (.cons (.v 0) (Ec (.v 3) (.v 2) (.v 5))))) (.cons (.asg (.nm 2) (.cm 0 27 (.v 0) (Ec (.v 2) (.v 5) (.v 6)))) (.cons (.ex (.push (.v 4) (.v 6))) .nil)))) (.cons (.ret (.pr true .tuple (Ea (.v 4)))) .nil))))))
noncomputable def Kz:bM:=(.cons (.fr (.nm 4) (.seq (Ei (.v 2) (.v 3))) (.cons (.iff (.call 36 (Ec (.v 0) (.v 1) (.cm 0 27 (.v 0) (Ec (.v 2) (.v 3) (.v 4))))) (.cons (.ret (.v 4)) .nil) .nil) .nil)) (.cons (.ret (.c .non)) .nil))
noncomputable def RB:bM:=(.cons (.iff (.pr true .inn (Eb (.tup .nil) (.v 2))) (.cons (.ret (.c (.bl false))) .nil) .nil) (.cons (.asg (.nm 3) (.cm 0 29 (.v 0) (Ea (.v 2)))) (.cons (.iff (.yP false (.v 3) (.v 1)) (.cons (.dput (.v 1) (.v 3) (.call 37 (Ec (.v 0) (.v 1) (.v 3)))) .nil) .nil) (.cons (.ret (.nM (.v 1) (.v 3))) .nil))))
noncomputable def Ht:bM:=(.cons (.asg (.nm 3) (.cm 0 30 (.v 0) (Ea (.v 2)))) (.cons (.iff (.pr true .qJ (Ea (.v 3))) (.cons (.ret (.c (.bl true))) .nil) .nil) (.cons (.iff (.and (.of (.v 0) 0 3) (.cm 0 31 (.v 0) (Ea (.v 2)))) (.cons (.ret (.call 36 (Ec (.v 0) (.v 1) (.cm 0 27 (.v 0) (Ec (.v 2) (.v 3) (Ci 0)))))) .nil) .nil) (.cons (.ret (.pr true .pR (Ea (.call 35 (.cons (.v 0) (Ec (.v 1) (.v 2) (.v 3))))))) .nil))))
noncomputable def RD:bM:=(.cons (.iff (.pr true .lt (Eb (.v 1) (.pr true .len (Ea (.v 0))))) (.cons (.ret (Ei (.v 0) (.v 1))) .nil) .nil) (.cons (.ret (Ci 0)) .nil))
noncomputable def RG:bM:=(.cons (.asg (.nm 1) (.pr true .max2 (Eb (.v 0) (.pr true .aq (Eb (Ci 0) (.v 0)))))) (.cons (.ret (.lst false (Eb (.v 1) (.pr true .uR (Ea (.pr true .ge (Eb (.v 1) (.pr true .pow (Eb (Ci 10) (Ci 18)))))))))) .nil))
noncomputable def RJ:bM:=(.cons (.iff (.pr true .eq (Eb (Ei (.v 0) (Ci 1)) (Ci 1))) (.cons (.asg (.tp [2,3]) (.pr true .divmod (Eb (Ei (.v 0) (Ci 0)) (.v 1)))) (.cons (.asg (.aq (.v 0) (Ci 0)) (.v 2)) (.cons (.ret (.v 3)) .nil))) .nil) (.cons (.asg (.nm 4) (.pr true .mod (Eb (.pr true .mul (Eb (.pr true .add (Eb (.pr true .mod (Eb (Ei (.v 0) (Ci 0)) (Ci 2147483647))) (Ci 40503))) (Ci 69621))) (Ci 2147483629)))) (.cons (.asg (.nm 4) (.pr true .mod (Eb (.pr true .add (Eb (.pr true .mul (Eb (.v 4) (.v 4))) (Ci 7817))) (Ci 2147483587)))) (.cons (.asg (.aq (.v 0) (Ci 0)) (.pr true .mod (Eb (.pr true .add (Eb (.pr true .mul (Eb (.v 4) (Ci 48271))) (Ci 11))) (Ci 2147483629)))) (.cons (.ret (.pr true .mod (Eb (.pr true .fdiv (Eb (Ei (.v 0) (Ci 0)) (Ci 32))) (.v 1)))) .nil)))))
noncomputable def RK:bM:=(.cons (.ret (Ei (.lst true (.cons (Ci 1) (.cons (Ci 2) (.cons (Ci 3) (.cons (Ci 4) (.cons (Ci 5) (.cons (Ci 6) (.cons (Ci 4) (.cons (Ci 5) (.cons (Ci 3) (Ec (Ci 6) (Ci 7) (Ci 8)))))))))))) (.call 40 (Eb (.v 0) (Ci 12))))) .nil)
noncomputable def RL:bM:=(.cons (.asg (.nm 2) (Ei (.lst true (Ec (Ci 2) (Ci 4) (Ci 6))) (.call 40 (Eb (.v 0) (Ci 3))))) (.cons (.asg (.nm 3) (.lst true .nil)) (.cons (.fr (.nm 4) (.rg (Ci 0) (.v 1)) (.cons (.asg (.nm 3) (.pr true .add (Eb (.v 3) (.comp true (.tup (Eb (.v 1) (.v 0))) [0] (.rg (.pr true .add (Eb (.v 4) (Ci 1))) (.v 1)) [4,0,2] 1 (.yes (.pr true .lt (Eb (.call 40 (Eb (.v 2) (Ci 8))) (.v 3)))))))) .nil)) (.cons (.ret (.tup (Eb (.v 1) (.pr true .tuple (Ea (.pr true .sorted (Ea (.comp true (.tup (Eb (.pr true .aq (Eb (.pr true .aq (Eb (.v 2) (Ci 1))) (.v 1))) (.pr true .aq (Eb (.pr true .aq (Eb (.v 2) (Ci 1))) (.v 0))))) [0,1] (.seq (.v 3)) [1] 2 .no)))))))) .nil))))
noncomputable def RM:bM:=(.cons (.asg (.nm 1) (.lst true (.cons (.tup (Eb (Ci 2) (Ci 1))) (.cons (.tup (Eb (Ci 3) (Ci 1))) (.cons (.tup (Eb (Ci 5) (Ci 2))) (.cons (.tup (Eb (Ci 4) (Ci 1))) (.cons (.tup (Eb (Ci 7) (Ci 3))) (.cons (.tup (Eb (Ci 7) (Ci 2))) (.cons (.tup (Eb (Ci 4) (Ci 2))) (.cons (.tup (Eb (Ci 6) (Ci 2))) (.cons (.tup (Eb (Ci 10) (Ci 4))) (Ec (.tup (Eb (Ci 5) (Ci 1))) (.tup (Eb (Ci 8) (Ci 3))) (.tup (Eb (Ci 3) (Ci 2))))))))))))))) (.cons (.iff (.pr true .eq (Eb (.call 40 (Eb (.v 0) (Ci 6))) (Ci 0))) (.cons (.asg (.nm 2) (.pr true .add (Eb (Ci 1) (.pr true .mod (Eb (.call 40 (Eb (.v 0) (Ci 24))) (Ci 10)))))) (.cons (.ret (.tup (Eb (.v 2) (.pr true .max2 (Eb (Ci 1) (.pr true .fdiv (Eb (.call 40 (Eb (.v 0) (.v 2))) (Ci 2)))))))) .nil)) .nil) (.cons (.ret (Ei (.v 1) (.call 40 (Eb (.v 0) (Ci 12))))) .nil)))
noncomputable def RN:bM:=(.cons (.par 4 5 (.call 17 (.cons (.v 0) (Ec (.v 1) (.v 2) (.v 3)))) (.call 18 (Ec (.v 0) (.v 1) (.v 2)))) (.cons (.iff (.or (.not (.call 16 (Ec (.v 0) (.v 1) (.v 4)))) (.not (.call 16 (Ec (.v 0) (.v 1) (.v 5))))) (.cons (.ret (.c (.bl false))) .nil) .nil) (.cons (.iff (.or (.pr true .ne (Eb (.call 17 (.cons (.v 0) (Ec (.v 1) (.v 4) (.pr true .aq (Eb (Ci 0) (.v 3)))))) (.v 2))) (.pr true .ne (Eb (.call 18 (Ec (.v 0) (.v 1) (.v 5))) (.v 2)))) (.cons (.ret (.c (.bl false))) .nil) .nil) (.cons (.iff (.or (.pr true .ne (Eb (.call 17 (.cons (.v 0) (Ec (.v 1) (.v 2) (Ei (.v 1) (Ci 0))))) (.v 2))) (.pr true .pR (Ea (.call 19 (Ec (.v 0) (.v 1) (.v 4)))))) (.cons (.ret (.c (.bl false))) .nil) .nil) (.cons (.ret (.pr true .eq (Eb (.call 18 (Ec (.v 0) (.v 1) (.v 4))) (.call 17 (.cons (.v 0) (Ec (.v 1) (.v 5) (.pr true .aq (Eb (Ci 0) (.v 3))))))))) .nil)))))
noncomputable def RP:bM:=(.cons (.asg (.nm 3) (.call 4 (Ec (.v 0) (.v 1) (.v 2)))) (.cons (.iff (.or (.pr true .ne (Eb (.call 4 (Ec (.v 0) (.v 2) (.v 1))) (.v 3))) (.pr true .ne (Eb (.call 4 (Ec (.v 0) (.v 1) (.v 1))) (Ci 0)))) (.cons (.ret (.c (.bl false))) .nil) .nil) (.cons (.ret (.and (.uU .le .le (Ci 0) (.pr true .mul (Eb (Ci 2) (.v 3))) (Ei (.v 0) (Ci 0))) (.pr true .eq (Eb (.pr true .eq (Eb (.v 3) (Ci 0))) (.pr true .eq (Eb (.v 1) (.v 2))))))) .nil)))
noncomputable def RQ:bM:=(.cons (.fr (.nm 1) (.seq (.pr true .add (Eb (.lst true (Ea (.call 38 (Eb (.v 0) (Ci 0))))) (.sl true (.v 0) (.yes (Ci 1)) (.yes (Ci 5)))))) (.cons (.asg (.nm 2) (.call 39 (Ea (.v 1)))) (.cons (.asg (.tp [3,4]) (.tup (Eb (.call 42 (Eb (.v 2) (.call 41 (Ea (.v 2))))) (.call 43 (Ea (.v 2)))))) (.cons (.iff (.and (.pr true .eq (Eb (Ei (.v 3) (Ci 0)) (Ci 8))) (.pr true .gt (Eb (Ei (.v 4) (Ci 0)) (Ci 7)))) (.cons (.asg (.nm 4) (.tup (Eb (Ci 7) (Ci 3)))) .nil) .nil) (.cons (.asg (.nm 5) (.pr true .tuple (Ea (.comp true (.call 40 (Eb (.v 1) (Ei (.v 2) (Ci 0)))) [0] (.rg (Ci 0) (Ei (.v 3) (Ci 0))) [2,4] 1 .no)))) (.cons (.iff (.pr true .ne (Eb (.call 16 (Ec (.v 3) (.v 4) (.v 5))) (.pr true .qJ (Ea (.call 19 (Ec (.v 3) (.v 4) (.v 5))))))) (.cons (.ret (.c (.bl false))) .nil) .nil) (.cons (.iff (.not (.call 45 (Ec (.v 4) (.call 40 (Eb (.v 2) (Ei (.v 4) (Ci 0)))) (.call 40 (Eb (.v 2) (Ei (.v 4) (Ci 0))))))) (.cons (.ret (.c (.bl false))) .nil) .nil) (.cons (.asg (.nm 6) (.call 33 (Eb (.v 3) (.v 4)))) (.cons (.iff (.pr true .pR (Ea (.v 6))) (.cons (.asg (.nm 7) (.pr true .aq (Eb (.call 40 (Eb (.v 2) (Ci 60))) (Ci 30)))) (.cons (.iff (.or (.pr true .ne (Eb (Ei (.v 6) (Ci 0)) (Ci 0))) (.not (.call 44 (.cons (.v 3) (Ec (.v 4) (.v 6) (.v 7)))))) (.cons (.ret (.c (.bl false))) .nil) .nil) .nil)) .nil) (.cons (.iff (.and (.pr true .qJ (Ea (.v 6))) (.call 16 (Ec (.v 3) (.v 4) (.v 5)))) (.cons (.ret (.c (.bl false))) .nil) .nil) .nil)))))))))) (.cons (.ret (.c (.bl true))) .nil))
noncomputable def T(n:Nat):Option Df:=([⟨1,1,b0⟩,⟨3,3,b1⟩,⟨2,2,b2⟩,⟨3,1,b3⟩,⟨3,3,b4⟩,⟨2,2,b5⟩,⟨1,1,b6⟩,⟨2,2,b7⟩,⟨4,3,b8⟩,⟨3,1,b9⟩,⟨1,1,b10⟩,⟨2,2,Q7⟩,⟨4,2,Q8⟩,⟨1,1,Q9⟩,⟨3,2,Q_⟩,⟨1,1,Ra⟩,⟨3,3,Rb⟩,⟨4,4,Rf⟩,⟨3,3,Rg⟩,⟨3,3,Rh⟩,⟨2,2,Ri⟩,⟨3,3,Rj⟩,⟨3,3,Kw⟩,⟨3,3,Rm⟩,⟨5,3,Ky⟩,⟨4,4,Rn⟩,⟨3,3,Ro⟩,⟨6,4,Rp⟩,⟨3,3,Rq⟩,⟨2,2,Rr⟩,⟨5,2,Rt⟩,⟨2,2,Ru⟩,⟨5,2,Rw⟩,⟨3,2,Rx⟩,⟨7,2,Ry⟩,⟨5,4,Kz⟩,⟨4,3,RB⟩,⟨4,3,Ht⟩,⟨2,2,RD⟩,⟨2,1,RG⟩,⟨5,2,RJ⟩,⟨1,1,RK⟩,⟨5,2,RL⟩,⟨3,1,RM⟩,⟨6,4,RN⟩,⟨4,3,RP⟩,⟨8,1,RQ⟩]:List Df)[n]?
theorem T_0:T 0=some ⟨1,1,b0⟩:=rfl
theorem T_1:T 1=some ⟨3,3,b1⟩:=rfl
theorem Y6:T 2=some ⟨2,2,b2⟩:=rfl
theorem Y7:T 3=some ⟨3,1,b3⟩:=rfl
theorem Y8:T 4=some ⟨3,3,b4⟩:=rfl
theorem Y9:T 5=some ⟨2,2,b5⟩:=rfl
theorem Y_:T 6=some ⟨1,1,b6⟩:=rfl
theorem Za:T 7=some ⟨2,2,b7⟩:=rfl
theorem T_8:T 8=some ⟨4,3,b8⟩:=rfl
theorem Zb:T 9=some ⟨3,1,b9⟩:=rfl
theorem Zc:T 10=some ⟨1,1,b10⟩:=rfl
theorem Zd:T 11=some ⟨2,2,Q7⟩:=rfl
theorem Ze:T 12=some ⟨4,2,Q8⟩:=rfl
theorem Zf:T 13=some ⟨1,1,Q9⟩:=rfl
theorem Zg:T 14=some ⟨3,2,Q_⟩:=rfl
theorem Zh:T 15=some ⟨1,1,Ra⟩:=rfl
theorem Zi:T 16=some ⟨3,3,Rb⟩:=rfl
theorem Zj:T 17=some ⟨4,4,Rf⟩:=rfl
theorem Zk:T 18=some ⟨3,3,Rg⟩:=rfl
theorem Zm:T 19=some ⟨3,3,Rh⟩:=rfl
theorem Zn:T 20=some ⟨2,2,Ri⟩:=rfl
theorem Zo:T 21=some ⟨3,3,Rj⟩:=rfl
theorem RT:T 22=some ⟨3,3,Kw⟩:=rfl
theorem Zq:T 23=some ⟨3,3,Rm⟩:=rfl
theorem RV:T 24=some ⟨5,3,Ky⟩:=rfl
theorem Zr:T 25=some ⟨4,4,Rn⟩:=rfl
theorem Zu:T 26=some ⟨3,3,Ro⟩:=rfl
theorem Zv:T 27=some ⟨6,4,Rp⟩:=rfl
theorem Zw:T 28=some ⟨3,3,Rq⟩:=rfl
theorem Zx:T 29=some ⟨2,2,Rr⟩:=rfl
theorem Zy:T 30=some ⟨5,2,Rt⟩:=rfl
theorem Zz:T 31=some ⟨2,2,Ru⟩:=rfl
theorem ZC:T 32=some ⟨5,2,Rw⟩:=rfl
theorem ZD:T 33=some ⟨3,2,Rx⟩:=rfl
theorem ZF:T 34=some ⟨7,2,Ry⟩:=rfl
theorem RW:T 35=some ⟨5,4,Kz⟩:=rfl
theorem ZG:T 36=some ⟨4,3,RB⟩:=rfl
theorem KC:T 37=some ⟨4,3,Ht⟩:=rfl
theorem ZJ:T 38=some ⟨2,2,RD⟩:=rfl
theorem ZK:T 39=some ⟨2,1,RG⟩:=rfl
theorem ZL:T 40=some ⟨5,2,RJ⟩:=rfl
theorem ZM:T 41=some ⟨1,1,RK⟩:=rfl
theorem ZP:T 42=some ⟨5,2,RL⟩:=rfl
theorem ZQ:T 43=some ⟨3,1,RM⟩:=rfl
theorem ZR:T 44=some ⟨6,4,RN⟩:=rfl
theorem ZS:T 45=some ⟨4,3,RP⟩:=rfl
theorem ZV:T 46=some ⟨8,1,RQ⟩:=rfl
noncomputable def aq:Nat->Nat->Bool:=λc e=>(let n:=λc=>if c<0 then c else 0;n e==0||n c==n e)
end dM
namespace dM
open PySem PySem.Spec PyProof.Rows L2 Mi
abbrev LK(i:Nat)(x:Str)(k:NameKind):Prop:=(au (top i)).names.lookup x=some k
noncomputable abbrev gI:NameKind:=.globalImplicit
abbrev N9:List Str:=["thing","many","ties"]
abbrev ZW:List Str:=["web","place","ends"]
abbrev ZX:List Str:=["web"]
abbrev Z0:List Str:=["web","ring","hues","steps"]
abbrev Z9:List Str:=["ring","hues"]
abbrev Z_:List Str:=["web","ring","thing"]
abbrev N27:List Str:=["self","free","place","spot","left","end"]
abbrev N28:List Str:=["self","free","place"]
abbrev N29:List Str:=["self","free"]
abbrev N31:List Str:=["self","free"]
abbrev RX:List Str:=["web","ring","k","d","wide"]
abbrev N33:List Str:=["web","ring","board"]
abbrev RZ:List Str:=["_law_pen_here","_law_many","_law_often","_law_ties","_law_one"]
abbrev N46:List Str:=["_law_script","_law_cell_here","_law_pen_here","_law_web_here","_law_ring_here","_law_drawn","_law_first","_law_steps"]
noncomputable def cl(K:W.Frag):Cl:=⟨gZ (lk.L K),λ_=>[],λ_=>dz K "Board",λ_=>["ends","spots","apart","alike"]⟩
structure Top(K:W.Frag)(mg:Str->Option Value):Prop where
 d0:D3 K mg "is_whole" (top 6) ["thing"]
 d1:D3 K mg "is_within" (top 7) ["thing","least","most"]
 d2:D3 K mg "is_row" (top 8) ["thing","many"]
 d3:D3 K mg "is_ring" (top 11) ["thing"]
 d4:D3 K mg "steps_apart" (top 12) ["ring","one","other"]
 d5:D3 K mg "is_spot" (top 13) ["ring","thing"]
 d6:D3 K mg "check_ring" (top 14) ["thing"]
 d7:D3 K mg "check_spot" (top 15) ["ring","thing"]
 d8:D3 K mg "gap_of" (top 16) ["ring","one","other"]
 d9:D3 K mg "is_web" (top 19) ["thing"]
 R0:D3 K mg "is_many" (top 20) ["thing"]
 KD:D3 K mg "is_place" (top 21) ["many","thing"]
 R3:D3 K mg "is_tie" (top 22) ["many","thing"]
 Bv:D3 K mg "check_web" (top 23) ["thing"]
 R4:D3 K mg "tied_to" (top 24) ["web","place"]
 R5:D3 K mg "all_ends" (top 25) ["web"]
 Bw:D3 K mg "hues_hold" (top 27) ["web","ring","thing"]
 BJ:D3 K mg "turned_on" (top 28) ["web","ring","hues","steps"]
 Hu:D3 K mg "mirrored_hues" (top 29) ["web","ring","hues"]
 KH:D3 K mg "first_clash" (top 30) ["web","ring","spots"]
 R6:D3 K mg "mirrored" (top 31) ["ring","hues"]
 KJ:D3 K mg "are_spots" (top 32) ["web","ring","thing"]
 KN:D3 K mg "are_hues" (top 33) ["web","ring","thing"]
 KQ:D3 K mg "check_hues" (top 34) ["web","ring","thing"]
 KR:D3 K mg "clash_of" (top 35) ["web","ring","spots"]
 R7:D3 K mg "ring_board" (top 38) ["web","ring"]
 R8:D3 K mg "first_hues" (top 40) ["web","ring"]
 R9:D3 K mg "first_among" (top 41) ["board","choices"]
 KY:D3 K mg "first_spot" (top 42) ["board","answers","free","place"]
 Hv:D3 K mg "can_settle" (top 43) ["board","answers","free"]
 R_:D3 K mg "search" (top 44) ["board","answers","free"]
 Sd:D3 K mg "_law_cell" (top 46) ["_law_script","_law_k"]
 Sg:D3 K mg "_law_pen" (top 47) ["_law_cell_here"]
 qu:D3 K mg "_law_draw" (top 48) ["_law_pen_here","_law_many"]
 Sh:D3 K mg "_law_size" (top 49) ["_law_pen_here"]
 Sq:D3 K mg "_law_web" (top 50) ["_law_pen_here","_law_many"]
 Ss:D3 K mg "_law_ring" (top 51) ["_law_pen_here"]
 Sv:D3 K mg "_law_hues_right" (top 52) ["_law_web_here","_law_ring_here","_law_hues","_law_steps"]
 Sw:D3 K mg "_law_steps_right" (top 53) ["_law_ring_here","_law_one","_law_other"]
 KZ:D3 K mg "law" (top 54) ["_law_script"]
 gP:∃t,mg "MOST_SPOTS"=some (.int 24 t)
 fZ:∃t,mg "MOST_PLACES"=some (.int 8 t)
 z6:mg "abs"=none
 z8:mg "all"=none
 z2:mg "bool"=none
 z14:mg "divmod"=none
 Sx:mg "enumerate"=none
 z1:mg "int"=none
 z0:mg "isinstance"=none
 z4:mg "len"=none
 z11:mg "list"=none
 Sy:mg "max"=none
 z5:mg "min"=none
 sW:mg "range"=none
 z9:mg "sorted"=none
 z3:mg "tuple"=none
 z7:mg "zip"=none
 ow:Ow K (cl K) 0
 mq:Mk K ((cl K).b 0) (gA K ((cl K).b 0) "__init__")
 mc:mg "Board"=some (.ref ((cl K).b 0))
 SJ:Mt K ((cl K).b 0) "__init__" "Board.__init__" Ai ["self","web","apart","alike"] (gA K ((cl K).b 0) "__init__") (i_ K ((cl K).b 0) "__init__" Ai)
 SM:Mt K ((cl K).b 0) "far_apart" "Board.far_apart" CJ ["self","spot","other"] (gA K ((cl K).b 0) "far_apart") (i_ K ((cl K).b 0) "far_apart" CJ)
 Hw:Mt K ((cl K).b 0) "settled" "Board.settled" Aj ["self","free","place","spot"] (gA K ((cl K).b 0) "settled") (i_ K ((cl K).b 0) "settled" Aj)
 K1:Mt K ((cl K).b 0) "ties_left" "Board.ties_left" Ak ["self","free","place"] (gA K ((cl K).b 0) "ties_left") (i_ K ((cl K).b 0) "ties_left" Ak)
 SN:Mt K ((cl K).b 0) "bound" "Board.bound" Al ["self","free"] (gA K ((cl K).b 0) "bound") (i_ K ((cl K).b 0) "bound" Al)
 SQ:Mt K ((cl K).b 0) "narrowest" "Board.narrowest" CK ["self","free"] (gA K ((cl K).b 0) "narrowest") (i_ K ((cl K).b 0) "narrowest" CK)
 SX:Mt K ((cl K).b 0) "all_free" "Board.all_free" Am ["self","free"] (gA K ((cl K).b 0) "all_free") (i_ K ((cl K).b 0) "all_free" Am)
theorem zkz{K:W.Frag}{h:Heap}{mg:Str->Option Value}(Sb:pF fs ms xs lk bd K)(X:K.In h)(G:h.Ns mainGlobals mg):Top K mg where
 d0:=sE Sb.i X G 0
 d1:=ql Sb.i X G 1
 d2:=qj Sb.i X G 2
 d3:=sE Sb.i X G 3
 d4:=ql Sb.i X G 4
 d5:=qj Sb.i X G 5
 d6:=sE Sb.i X G 6
 d7:=qj Sb.i X G 7
 d8:=ql Sb.i X G 8
 d9:=sE Sb.i X G 9
 R0:=sE Sb.i X G 10
 KD:=qj Sb.i X G 11
 R3:=qj Sb.i X G 12
 Bv:=sE Sb.i X G 13
 R4:=qj Sb.i X G 14
 R5:=sE Sb.i X G 15
 Bw:=ql Sb.i X G 16
 BJ:=Qp Sb.i X G 17
 Hu:=ql Sb.i X G 18
 KH:=ql Sb.i X G 19
 R6:=qj Sb.i X G 20
 KJ:=ql Sb.i X G 21
 KN:=ql Sb.i X G 22
 KQ:=ql Sb.i X G 23
 KR:=ql Sb.i X G 24
 R7:=qj Sb.i X G 25
 R8:=qj Sb.i X G 26
 R9:=qj Sb.i X G 27
 KY:=Qp Sb.i X G 28
 Hv:=ql Sb.i X G 29
 R_:=ql Sb.i X G 30
 Sd:=qj Sb.i X G 31
 Sg:=sE Sb.i X G 32
 qu:=qj Sb.i X G 33
 Sh:=sE Sb.i X G 34
 Sq:=qj Sb.i X G 35
 Ss:=sE Sb.i X G 36
 Sv:=Qp Sb.i X G 37
 Sw:=ql Sb.i X G 38
 KZ:=sE Sb.i X G 39
 gP:=W8 (Sb.i.gd.it ("MOST_SPOTS",24) (mG 0)) X G
 fZ:=W8 (Sb.i.gd.it ("MOST_PLACES",8) (mG 1)) X G
 z6:=nZ (Sb.i.gd.no "abs" (mG 0)) X G
 z8:=nZ (Sb.i.gd.no "all" (mG 1)) X G
 z2:=nZ (Sb.i.gd.no "bool" (mG 2)) X G
 z14:=nZ (Sb.i.gd.no "divmod" (mG 3)) X G
 Sx:=nZ (Sb.i.gd.no "enumerate" (mG 4)) X G
 z1:=nZ (Sb.i.gd.no "int" (mG 5)) X G
 z0:=nZ (Sb.i.gd.no "isinstance" (mG 6)) X G
 z4:=nZ (Sb.i.gd.no "len" (mG 7)) X G
 z11:=nZ (Sb.i.gd.no "list" (mG 8)) X G
 Sy:=nZ (Sb.i.gd.no "max" (mG 9)) X G
 z5:=nZ (Sb.i.gd.no "min" (mG 10)) X G
 sW:=nZ (Sb.i.gd.no "range" (mG 11)) X G
 z9:=nZ (Sb.i.gd.no "sorted" (mG 12)) X G
 z3:=nZ (Sb.i.gd.no "tuple" (mG 13)) X G
 z7:=nZ (Sb.i.gd.no "zip" (mG 14)) X G
 ow:=zmO Sb.b rfl rfl (by decide +kernel)
 mq:=zl1 Sb.b (Sb.m ("__init__","Board.__init__",Ai) (mG 0)).2
 mc:=zmz Sb.b X G
 SJ:=Yo (Sb.m ("__init__","Board.__init__",Ai) (mG 0))
 SM:=Yn (Sb.m ("far_apart","Board.far_apart",CJ) (mG 1))
 Hw:=Yo (Sb.m ("settled","Board.settled",Aj) (mG 2))
 K1:=Yn (Sb.m ("ties_left","Board.ties_left",Ak) (mG 3))
 SN:=QS (Sb.m ("bound","Board.bound",Al) (mG 4))
 SQ:=QS (Sb.m ("narrowest","Board.narrowest",CK) (mG 5))
 SX:=QS (Sb.m ("all_free","Board.all_free",Am) (mG 6))
abbrev FO(P:Program)(w:World)(K:W.Frag)(mg:Str->Option Value)(base:Heap)(k:Nat)(c:Bool)(x:Str)(i:Nat)(ps:List Str)(n:Nat):Prop:=bT P w K mg base (fQ P w) c k (gO K x) (fdOf K x (top i)) ps (jX K (cl K) (call aq T k c n))
abbrev FM(P:Program)(w:World)(K:W.Frag)(mg:Str->Option Value)(base:Heap)(k:Nat)(m:Str)(st:Stmt)(ps:List Str)(sp:Sp):Prop:=bT P w K mg base (fQ P w) true k (gA K ((cl K).b 0) m) (i_ K ((cl K).b 0) m st) ps sp
structure Fs(P:Program)(w:World)(K:W.Frag)(mg:Str->Option Value)(base:Heap)(k:Nat):Prop where
 t0:FO P w K mg base k true "is_whole" 6 ["thing"] 0
 t1:FO P w K mg base k true "is_within" 7 ["thing","least","most"] 1
 t2:FO P w K mg base k true "is_row" 8 ["thing","many"] 2
 t3:FO P w K mg base k true "is_ring" 11 ["thing"] 3
 t4:FO P w K mg base k true "steps_apart" 12 ["ring","one","other"] 4
 t5:FO P w K mg base k true "is_spot" 13 ["ring","thing"] 5
 t6:FO P w K mg base k true "check_ring" 14 ["thing"] 6
 t7:FO P w K mg base k true "check_spot" 15 ["ring","thing"] 7
 t8:FO P w K mg base k true "gap_of" 16 ["ring","one","other"] 8
 t9:FO P w K mg base k true "is_web" 19 ["thing"] 9
 t10:FO P w K mg base k true "is_many" 20 ["thing"] 10
 t11:FO P w K mg base k true "is_place" 21 ["many","thing"] 11
 t12:FO P w K mg base k true "is_tie" 22 ["many","thing"] 12
 Hx:FO P w K mg base k true "check_web" 23 ["thing"] 13
 t14:FO P w K mg base k true "tied_to" 24 ["web","place"] 14
 t15:FO P w K mg base k true "all_ends" 25 ["web"] 15
 Hy:FO P w K mg base k true "hues_hold" 27 ["web","ring","thing"] 16
 Hz:FO P w K mg base k true "turned_on" 28 ["web","ring","hues","steps"] 17
 K3:FO P w K mg base k true "mirrored_hues" 29 ["web","ring","hues"] 18
 S5:FO P w K mg base k true "first_clash" 30 ["web","ring","spots"] 19
 t20:FO P w K mg base k true "mirrored" 31 ["ring","hues"] 20
 S6:FO P w K mg base k true "are_spots" 32 ["web","ring","thing"] 21
 S7:FO P w K mg base k true "are_hues" 33 ["web","ring","thing"] 22
 S8:FO P w K mg base k true "check_hues" 34 ["web","ring","thing"] 23
 S9:FO P w K mg base k true "clash_of" 35 ["web","ring","spots"] 24
 t25:FM P w K mg base k "__init__" Ai ["self","web","apart","alike"] (Kh K (cl K) 0 (call aq T k true 25))
 t26:FM P w K mg base k "far_apart" CJ ["self","spot","other"] (jX K (cl K) (call aq T k true 26))
 K4:FM P w K mg base k "settled" Aj ["self","free","place","spot"] (jX K (cl K) (call aq T k true 27))
 S_:FM P w K mg base k "ties_left" Ak ["self","free","place"] (jX K (cl K) (call aq T k true 28))
 t29:FM P w K mg base k "bound" Al ["self","free"] (jX K (cl K) (call aq T k true 29))
 t30:FM P w K mg base k "narrowest" CK ["self","free"] (jX K (cl K) (call aq T k true 30))
 t31:FM P w K mg base k "all_free" Am ["self","free"] (jX K (cl K) (call aq T k true 31))
 t32:FO P w K mg base k true "ring_board" 38 ["web","ring"] 32
 t33:FO P w K mg base k true "first_hues" 40 ["web","ring"] 33
 t34:FO P w K mg base k true "first_among" 41 ["board","choices"] 34
 Tc:FO P w K mg base k true "first_spot" 42 ["board","answers","free","place"] 35
 K5:FO P w K mg base k true "can_settle" 43 ["board","answers","free"] 36
 t37:FO P w K mg base k true "search" 44 ["board","answers","free"] 37
 t38:FO P w K mg base k true "_law_cell" 46 ["_law_script","_law_k"] 38
 t39:FO P w K mg base k true "_law_pen" 47 ["_law_cell_here"] 39
 qN:FO P w K mg base k true "_law_draw" 48 ["_law_pen_here","_law_many"] 40
 t41:FO P w K mg base k true "_law_size" 49 ["_law_pen_here"] 41
 t42:FO P w K mg base k true "_law_web" 50 ["_law_pen_here","_law_many"] 42
 t43:FO P w K mg base k true "_law_ring" 51 ["_law_pen_here"] 43
 t44:FO P w K mg base k true "_law_hues_right" 52 ["_law_web_here","_law_ring_here","_law_hues","_law_steps"] 44
 t45:FO P w K mg base k true "_law_steps_right" 53 ["_law_ring_here","_law_one","_law_other"] 45
 t46:FO P w K mg base k true "law" 54 ["_law_script"] 46
section
variable {P:Program}{w:World}{K:W.Frag}{mg:Str->Option Value}{base:Heap}{k:Nat}
theorem ziV(Tp:Top K mg)(Fk:Fs P w K mg base k):Fs P w K mg base (k+1) where
 t0:=fJ Tp.d0 ["thing"] T_0 λ_ _ _ _ _ _ hr=>(aG (bN (vp (J5 rfl Tp.z0 gk (gv 0) (J3 rfl Tp.z1 zkS gk dk)) (vo (zmA (J5 rfl Tp.z0 gk (gv 0) (J3 rfl Tp.z2 zie gk dk))))))
 aN)
 t1:=fJ Tp.d1 ["thing","least","most"] T_1 λ_ _ _ _ _ _ hr=>(aG (bN (vp (gc Fk.t0 Tp.d0 hr bD gk (aA (gv 0) aH)) (vo (WQ J2 J2 (gv 1) (gv 0) (gv 2)))))
 aN)
 t2:=fJ Tp.d2 ["thing","many"] Y6 λ_ _ _ _ _ _ hr=>(aG (bN (vp (J5 rfl Tp.z0 gk (gv 0) (J3 rfl Tp.z3 J0 gk dk)) (vo (tZ (tY hr) (zev Tp.z4 gk (aA (gv 0) aH)) (gv 1)))))
 aN)
 t3:=fJ Tp.d3 ["thing","k","d"] Y7 λ_ _ _ _ _ _ hr=>(aG (fV (m6 (jK (gc Fk.t2 Tp.d2 hr bD gk (aA (gv 0) (aA aM aH))))) (aG (bN mU)
 aN) aN)
 (aG (Bp 1 2 rfl rfl nd rfl rfl jl jl rfl rfl (gv 0))
 (aG (bN (vp (gc Fk.t1 Tp.d1 hr bD gk (aA (gv 1) (aA aM (aA (Wy Tp.gP gk dk) aH)))) (vo (gc Fk.t1 Tp.d1 hr bD gk (aA (gv 2) (aA aM (aA (gv 1) aH)))))))
 aN)))
 t4:=fJ Tp.d4 ["ring","one","other"] Y8 λ_ _ _ _ _ _ hr=>(aG (nY (gc Fk.t6 Tp.d6 hr bD gk (aA (gv 0) aH)))
 (aG (nY (gc Fk.t7 Tp.d7 hr bD gk (aA (gv 0) (aA (gv 1) aH))))
 (aG (nY (gc Fk.t7 Tp.d7 hr bD gk (aA (gv 0) (aA (gv 2) aH))))
 (aG (bN (gc Fk.t8 Tp.d8 hr bD gk (aA (gv 0) (aA (gv 1) (aA (gv 2) aH)))))
 aN))))
 t5:=fJ Tp.d5 ["ring","thing"] Y9 λ_ _ _ _ _ _ hr=>(aG (bN (gc Fk.t1 Tp.d1 hr bD gk (aA (gv 1) (aA aM (aA (eN o_ (dR (gv 0) aM) aM) aH)))))
 aN)
 t6:=fJ Tp.d6 ["thing"] Y_ λ_ _ _ _ _ _ hr=>(aG (fV (m6 (jK (gc Fk.t3 Tp.d3 hr bD gk (aA (gv 0) aH)))) (aG Gu
 aN) aN)
 aN)
 t7:=fJ Tp.d7 ["ring","thing"] Za λ_ _ _ _ _ _ hr=>(aG (fV (m6 (jK (gc Fk.t5 Tp.d5 hr bD gk (aA (gv 0) (aA (gv 1) aH))))) (aG Gu
 aN) aN)
 aN)
 t8:=fJ Tp.d8 ["ring","one","other","gap"] T_8 λ_ _ _ _ _ _ hr=>(aG (iH 3 nd rfl jl rfl (zms Tp.z6 gk (aA (eN o_ (gv 1) (gv 2)) aH)))
 (aG (bN (WX rfl Tp.z5 gk (aA (gv 3) (aA (eN o_ (dR (gv 0) aM) (gv 3)) aH))))
 aN))
 t9:=fJ Tp.d9 N9 Zb λ_ _ _ _ _ _ hr=>(aG (fV (m6 (jK (gc Fk.t2 Tp.d2 hr bD gk (aA (gv 0) (aA aM aH))))) (aG (bN mU)
 aN) aN)
 (aG (Bp 1 2 rfl rfl nd rfl rfl jc jl rfl rfl (gv 0))
 (aG (fV (vA (Bk (m6 (jK (gc Fk.t10 Tp.R0 hr bD gk (aA (gv 1) aH)))) (Bj (m6 (jK (J5 rfl Tp.z0 gk (gv 2) (J3 rfl Tp.z3 J0 gk dk))))))) (aG (bN mU)
 aN) aN)
 (aG (fV (m6 (jK (J6 rfl Tp.z8 gk (aA (m7 (au (top 19)) N9 ["tie"] ["many"] [1] rfl rfl rfl (by decide +kernel) (by decide +kernel) (o7 0) (by decide +kernel) (qe (gv 2)) (λ_ _ _ _ _ _=>(pA 0 (by decide +kernel) rfl (by decide +kernel))) (λ_ _ _ _ _ _=>pq) (λ_ _ _ _ _ _=>(gc Fk.t12 Tp.R3 hr Gs zL (aA (cC 1) (aA (cC 0) aH))))) aH)))) (aG (bN mU)
 aN) aN)
 (aG (bN (J6 rfl Tp.z8 gk (aA (m7 (au (top 19)) N9 ["tie","later"] [] [] rfl rfl rfl (by decide +kernel) (by decide +kernel) (Gk 0 1) (by decide +kernel) (zmK Tp.z7 gk (gv 2) (WT (gv 2) (Qd aM) znR)) (λ_ _ _ _ _ _=>(J8 0 1 rfl (by decide +kernel) rfl rfl (by decide +kernel) (by decide +kernel))) (λ_ _ _ _ _ _=>pq) (λ_ _ _ _ _ _=>(tZ (Gm hr) (cC 0) (cC 1)))) aH)))
 aN)))))
 t10:=fJ Tp.R0 ["thing"] Zc λ_ _ _ _ _ _ hr=>(aG (bN (gc Fk.t1 Tp.d1 hr bD gk (aA (gv 0) (aA aM (aA (Wy Tp.fZ gk dk) aH)))))
 aN)
 t11:=fJ Tp.KD ["many","thing"] Zd λ_ _ _ _ _ _ hr=>(aG (bN (gc Fk.t1 Tp.d1 hr bD gk (aA (gv 1) (aA aM (aA (eN o_ (gv 0) aM) aH)))))
 aN)
 t12:=fJ Tp.R3 ["many","thing","one","other"] Ze λ_ _ _ _ _ _ hr=>(aG (fV (m6 (jK (gc Fk.t2 Tp.d2 hr bD gk (aA (gv 1) (aA aM aH))))) (aG (bN mU)
 aN) aN)
 (aG (Bp 2 3 rfl rfl nd rfl rfl jl jl rfl rfl (gv 1))
 (aG (bN (vp (gc Fk.t11 Tp.KD hr bD gk (aA (gv 0) (aA (gv 2) aH))) (vp (gc Fk.t11 Tp.KD hr bD gk (aA (gv 0) (aA (gv 3) aH))) (vo (tZ (Gm hr) (gv 2) (gv 3))))))
 aN)))
 Hx:=fJ Tp.Bv ["thing"] Zf λ_ _ _ _ _ _ hr=>(aG (fV (m6 (jK (gc Fk.t9 Tp.d9 hr bD gk (aA (gv 0) aH)))) (aG Gu
 aN) aN)
 aN)
 t14:=fJ Tp.R4 ZW Zg λ_ _ _ _ _ _ hr=>(aG (zjQ 2 (au (top 24)) ZW ["one","other"] ["place"] [1] nd rfl jl rfl rfl rfl rfl (by decide +kernel) (by decide +kernel) (Gk 0 1) (by decide +kernel) (qe (dR (gv 0) aM)) (λ_ _ _ _ _ _=>(J8 0 1 rfl (by decide +kernel) rfl rfl (by decide +kernel) (by decide +kernel))) (λ_ _ _ _ _ _=>(J7 (lN (WM hr) (cC 2) (jB (aA (cC 0) (aA (cC 1) aH)))))) (λ_ _ _ _ _ _=>(Qc (lN (tY hr) (cC 0) (cC 2)) (cC 1) (cC 0))))
 (aG (bN (t_ Tp.z3 gk (aA (W_ Tp.z9 gk (aA (gv 2) aH)) aH)))
 aN))
 t15:=fJ Tp.R5 ZX Zh λ_ _ _ _ _ _ hr=>(aG (bN (m7 (au (top 25)) ZX ["place"] ["web"] [0] rfl rfl rfl (by decide +kernel) (by decide +kernel) (o7 0) (by decide +kernel) (wQ Tp.sW gk (dR (gv 0) aM)) (λ_ _ _ _ _ _=>(pA 0 (by decide +kernel) rfl (by decide +kernel))) (λ_ _ _ _ _ _=>pq) (λ_ _ _ _ _ _=>(gc Fk.t14 Tp.R4 hr Gs zL (aA (cC 1) (aA (cC 0) aH))))))
 aN)
 Hy:=fJ Tp.Bw ["web","ring","thing"] Zi λ_ _ _ _ _ _ hr=>(aG (nY (gc Fk.Hx Tp.Bv hr bD gk (aA (gv 0) aH)))
 (aG (nY (gc Fk.t6 Tp.d6 hr bD gk (aA (gv 1) aH)))
 (aG (bN (gc Fk.S7 Tp.KN hr bD gk (aA (gv 0) (aA (gv 1) (aA (gv 2) aH)))))
 aN)))
 Hz:=fJ Tp.BJ Z0 Zj λ_ _ _ _ _ _ hr=>(aG (nY (gc Fk.S8 Tp.KQ hr bD gk (aA (gv 0) (aA (gv 1) (aA (gv 2) aH)))))
 (aG (bN (t_ Tp.z3 gk (aA (m7 (au (top 28)) Z0 ["spot"] ["steps","ring"] [3,1] rfl rfl rfl (by decide +kernel) (by decide +kernel) (o7 0) (by decide +kernel) (qe (gv 2)) (λ_ _ _ _ _ _=>(pA 0 (by decide +kernel) rfl (by decide +kernel))) (λ_ _ _ _ _ _=>pq) (λ_ _ _ _ _ _=>(eN wM (eN wL (cC 0) (cC 1)) (dR (cC 2) aM)))) aH)))
 aN))
 K3:=fJ Tp.Hu ["web","ring","hues"] Zk λ_ _ _ _ _ _ hr=>(aG (nY (gc Fk.S8 Tp.KQ hr bD gk (aA (gv 0) (aA (gv 1) (aA (gv 2) aH)))))
 (aG (bN (gc Fk.t20 Tp.R6 hr bD gk (aA (gv 1) (aA (gv 2) aH))))
 aN))
 S5:=fJ Tp.KH ["web","ring","spots"] Zm λ_ _ _ _ _ _ hr=>(aG (nY (gc Fk.Hx Tp.Bv hr bD gk (aA (gv 0) aH)))
 (aG (nY (gc Fk.t6 Tp.d6 hr bD gk (aA (gv 1) aH)))
 (aG (fV (m6 (jK (gc Fk.S6 Tp.KJ hr bD gk (aA (gv 0) (aA (gv 1) (aA (gv 2) aH)))))) (aG Gu
 aN) aN)
 (aG (bN (gc Fk.S9 Tp.KR hr bD gk (aA (gv 0) (aA (gv 1) (aA (gv 2) aH)))))
 aN))))
 t20:=fJ Tp.R6 Z9 Zn λ_ _ _ _ _ _ hr=>(aG (bN (t_ Tp.z3 gk (aA (m7 (au (top 31)) Z9 ["spot"] ["ring"] [0] rfl rfl rfl (by decide +kernel) (by decide +kernel) (o7 0) (by decide +kernel) (qe (gv 1)) (λ_ _ _ _ _ _=>(pA 0 (by decide +kernel) rfl (by decide +kernel))) (λ_ _ _ _ _ _=>pq) (λ_ _ _ _ _ _=>(eN wM (WD (cC 0)) (dR (cC 1) aM)))) aH)))
 aN)
 S6:=fJ Tp.KJ Z_ Zo λ_ _ _ _ _ _ hr=>(aG (bN (vp (gc Fk.t2 Tp.d2 hr bD gk (aA (gv 2) (aA (dR (gv 0) aM) aH))) (vo (J6 rfl Tp.z8 gk (aA (m7 (au (top 32)) Z_ ["spot"] ["ring"] [1] rfl rfl rfl (by decide +kernel) (by decide +kernel) (o7 0) (by decide +kernel) (qe (gv 2)) (λ_ _ _ _ _ _=>(pA 0 (by decide +kernel) rfl (by decide +kernel))) (λ_ _ _ _ _ _=>pq) (λ_ _ _ _ _ _=>(gc Fk.t5 Tp.d5 hr Gs zL (aA (cC 1) (aA (cC 0) aH))))) aH)))))
 aN)
 S7:=fJ Tp.KN ["web","ring","thing"] RT λ_ _ _ _ _ _ hr=>(aG (bN (vp (gc Fk.S6 Tp.KJ hr bD gk (aA (gv 0) (aA (gv 1) (aA (gv 2) aH)))) (vo (P0 (gc Fk.S9 Tp.KR hr bD gk (aA (gv 0) (aA (gv 1) (aA (gv 2) aH))))))))
 aN)
 S8:=fJ Tp.KQ ["web","ring","thing"] Zq λ_ _ _ _ _ _ hr=>(aG (nY (gc Fk.Hx Tp.Bv hr bD gk (aA (gv 0) aH)))
 (aG (nY (gc Fk.t6 Tp.d6 hr bD gk (aA (gv 1) aH)))
 (aG (fV (m6 (jK (gc Fk.S7 Tp.KN hr bD gk (aA (gv 0) (aA (gv 1) (aA (gv 2) aH)))))) (aG Gu
 aN) aN)
 aN)))
 S9:=fJ Tp.KR ["web","ring","spots","one","other"] RV λ_ _ _ _ _ _ hr=>(aG (zE zy rfl rfl (qe (dR (gv 0) aM)) (W0 3 4 rfl rfl nd rfl rfl jl jl rfl rfl) (aG (fV (lN (Gm hr) (gc Fk.t8 Tp.d8 hr bD gk (aA (gv 1) (aA (dR (gv 2) (gv 3)) (aA (dR (gv 2) (gv 4)) aH)))) (dR (gv 1) aM)) (aG (bN (jB (aA (gv 3) (aA (gv 4) aH))))
 aN) aN)
 aN))
 (aG (bN Bh)
 aN))
 t25:=zjz (N:=["self","web","apart","alike"]) Tp.SJ.fn Zr (λ_ _ _ _ _ _ hr=>(Kl (j:=0) Tp.ow (gc Fk.t15 Tp.R5 hr bD gk (aA (gv 1) aH)) (Kl (j:=0) Tp.ow (zm0 rfl Tp.z3 gk Tp.sW gk (aA (zev Tp.z4 gk (aA (gv 2) aH)) aH)) (Kl (j:=0) Tp.ow (gv 2) (Kl (j:=0) Tp.ow (gv 3) zkq))))) (by show (4:Nat)<=900;decide)
 t26:=fM Tp.SM ["self","spot","other"] Zu λ_ _ _ _ _ _ hr=>(aG (bN (dR (dR (Bt Tp.ow (gv 0)) (gv 1)) (gv 2)))
 aN)
 K4:=fM Tp.Hw N27 Zv λ_ _ _ _ _ _ hr=>(aG (iH 4 nd rfl jl rfl (zj6 Tp.z11 gk (aA (gv 1) aH)))
 (aG (J9 (gv 4) (gv 2) Bh)
 (aG (zE zy rfl rfl (qe (dR (Bt Tp.ow (gv 0)) (gv 2))) (Gv 5 nd rfl jl rfl) (aG (fV (Gn (dR (gv 4) (gv 5))) (aG (J9 (gv 4) (gv 5) (t_ Tp.z3 gk (aA (m7 (au (Aj)) N27 ["other"] ["self","spot"] [0,3] rfl rfl rfl (by decide +kernel) (by decide +kernel) (o7 0) (by decide +kernel) (qe (dR (gv 4) (gv 5))) (λ_ _ _ _ _ _=>(pA 0 (by decide +kernel) rfl (by decide +kernel))) (λ_ _ _ _ _ _=>(J7 (jK (vH Tp.ow Tp.SM Fk.t26 hr (cC 1) (aA (cC 2) (aA (cC 0) aH)))))) (λ_ _ _ _ _ _=>(cC 0))) aH)))
 aN) aN)
 aN))
 (aG (bN (t_ Tp.z3 gk (aA (gv 4) aH)))
 aN))))
 S_:=fM Tp.K1 N28 Zw λ_ _ _ _ _ _ hr=>(aG (bN (zev Tp.z4 gk (aA (m7 (au (Ak)) N28 ["end"] ["free"] [1] rfl rfl rfl (by decide +kernel) (by decide +kernel) (o7 0) (by decide +kernel) (qe (dR (Bt Tp.ow (gv 0)) (gv 2))) (λ_ _ _ _ _ _=>(pA 0 (by decide +kernel) rfl (by decide +kernel))) (λ_ _ _ _ _ _=>(J7 (Gn (dR (cC 1) (cC 0))))) (λ_ _ _ _ _ _=>(cC 0))) aH)))
 aN)
 t29:=fM Tp.SN N29 Zx λ_ _ _ _ _ _ hr=>(aG (bN (t_ Tp.z3 gk (aA (m7 (au (Al)) N29 ["place","spots"] ["self","free"] [0,1] rfl rfl rfl (by decide +kernel) (by decide +kernel) (Gk 0 1) (by decide +kernel) (Xb Tp.Sx gk (gv 1)) (λ_ _ _ _ _ _=>(J8 0 1 rfl (by decide +kernel) rfl rfl (by decide +kernel) (by decide +kernel))) (λ_ _ _ _ _ _=>pq) (λ_ _ _ _ _ _=>(Qc (lN WK (vH Tp.ow Tp.K1 Fk.S_ hr (cC 2) (aA (cC 3) (aA (cC 0) aH))) aM) (cC 1) Bh))) aH)))
 aN)
 t30:=fM Tp.SQ ["self","free","ranks","place","spots"] Zy λ_ _ _ _ _ _ hr=>(aG (iH 2 nd rfl jl rfl (wO aH))
 (aG (zE zy rfl rfl (Xb Tp.Sx gk (gv 1)) (W0 3 4 rfl rfl nd rfl rfl jl jl rfl rfl) (aG (fV (Gn (gv 4)) (aG (nY (WY (gv 2) (jB (aA (zev Tp.z4 gk (aA (gv 4) aH)) (aA (WD (vH Tp.ow Tp.K1 Fk.S_ hr (gv 0) (aA (gv 1) (aA (gv 3) aH)))) (aA (gv 3) aH))))))
 aN) aN)
 aN))
 (aG (bN (Qc (zmg (gv 2)) (dR (zj4 hr rfl Tp.z5 gk (aA (gv 2) aH)) aM) Bh))
 aN)))
 t31:=fM Tp.SX N31 Zz λ_ _ _ _ _ _ hr=>(aG (bN (J6 rfl Tp.z8 gk (aA (m7 (au (Am)) N31 ["spots"] ["self"] [0] rfl rfl rfl (by decide +kernel) (by decide +kernel) (o7 0) (by decide +kernel) (qe (gv 1)) (λ_ _ _ _ _ _=>(pA 0 (by decide +kernel) rfl (by decide +kernel))) (λ_ _ _ _ _ _=>pq) (λ_ _ _ _ _ _=>(znQ (P0 (cC 0)) (vo (tZ (tY hr) (cC 0) (Bt Tp.ow (cC 1))))))) aH)))
 aN)
 t32:=fR Tp.R7 RX ZC λ_ _ _ _ _ _ hr=>(aG (Bp 2 3 rfl rfl nd rfl rfl jc jc rfl rfl (gv 1))
 (aG (iH 4 nd rfl jc rfl (m7 (au (top 38)) RX ["gap"] ["k","d"] [2,3] rfl rfl rfl (by decide +kernel) (by decide +kernel) (o7 0) (by decide +kernel) (wQ Tp.sW gk (gv 2)) (λ_ _ _ _ _ _=>(pA 0 (by decide +kernel) rfl (by decide +kernel))) (λ_ _ _ _ _ _=>pq) (λ_ _ _ _ _ _=>(tZ WL (WX rfl Tp.z5 zL (aA (cC 0) (aA (eN o_ (cC 1) (cC 0)) aH))) (cC 2)))))
 (aG (bN (znP Tp.mq Fk.t25 (Mi.bB.made hr _ _) Tp.SJ.bd Tp.mc gk (aA (gv 0) (aA (m7 (au (top 38)) RX ["spot"] ["k","wide"] [2,4] rfl rfl rfl (by decide +kernel) (by decide +kernel) (o7 0) (by decide +kernel) (wQ Tp.sW gk (gv 2)) (λ_ _ _ _ _ _=>(pA 0 (by decide +kernel) rfl (by decide +kernel))) (λ_ _ _ _ _ _=>pq) (λ_ _ _ _ _ _=>(ziM ["spot","k","wide"] ["other"] ["wide","spot"] [2,0] rfl rfl (by decide +kernel) (by decide +kernel) (o7 0) (by decide +kernel) (wQ Tp.sW zL (cC 1)) (λ_ _ _ _ _ _=>(pA 0 (by decide +kernel) rfl (by decide +kernel))) (λ_ _ _ _ _ _=>pq) (λ_ _ _ _ _ _=>(dR (cC 1) (eN o_ (cC 2) (cC 0))))))) (aA mU aH)))))
 aN)))
 t33:=fJ Tp.R8 N33 ZD λ_ _ _ _ _ _ hr=>(aG (nY (gc Fk.Hx Tp.Bv hr bD gk (aA (gv 0) aH)))
 (aG (nY (gc Fk.t6 Tp.d6 hr bD gk (aA (gv 1) aH)))
 (aG (iH 2 nd rfl jc rfl (gc Fk.t32 Tp.R7 hr bD gk (aA (gv 0) (aA (gv 1) aH))))
 (aG (bN (gc Fk.t34 Tp.R9 hr bD gk (aA (gv 2) (aA (m7 (au (top 40)) N33 ["place"] ["board"] [2] rfl rfl rfl (by decide +kernel) (by decide +kernel) (o7 0) (by decide +kernel) (wQ Tp.sW gk (dR (gv 0) aM)) (λ_ _ _ _ _ _=>(pA 0 (by decide +kernel) rfl (by decide +kernel))) (λ_ _ _ _ _ _=>pq) (λ_ _ _ _ _ _=>(Bt Tp.ow (cC 1)))) aH))))
 aN))))
 t34:=fJ Tp.R9 ["board","choices","free","answers","row","place","spot"] ZF λ_ _ _ _ _ _ hr=>(aG (iH 2 nd rfl jl rfl (t_ Tp.z3 gk (aA (gv 1) aH)))
 (aG (iH 3 nd rfl jl rfl zkG)
 (aG (fV (m6 (jK (gc Fk.K5 Tp.Hv hr bD gk (aA (gv 0) (aA (gv 3) (aA (gv 2) aH)))))) (aG (bN Bh)
 aN) aN)
 (aG (iH 4 nd rfl jl rfl (wO aH))
 (aG (zE zy rfl rfl (wQ Tp.sW gk (zev Tp.z4 gk (aA (gv 1) aH))) (Gv 5 nd rfl jl rfl) (aG (iH 6 nd rfl jl rfl (gc Fk.Tc Tp.KY hr bD gk (aA (gv 0) (aA (gv 3) (aA (gv 2) (aA (gv 5) aH))))))
 (aG (iH 2 nd rfl jl rfl (vH Tp.ow Tp.Hw Fk.K4 hr (gv 0) (aA (gv 2) (aA (gv 5) (aA (gv 6) aH)))))
 (aG (nY (WY (gv 4) (gv 6)))
 aN))))
 (aG (bN (t_ Tp.z3 gk (aA (gv 4) aH)))
 aN))))))
 Tc:=fJ Tp.KY ["board","answers","free","place","spot"] RW λ_ _ _ _ _ _ hr=>(aG (zE zy rfl rfl (qe (dR (gv 2) (gv 3))) (Gv 4 nd rfl jl rfl) (aG (fV (jK (gc Fk.K5 Tp.Hv hr bD gk (aA (gv 0) (aA (gv 1) (aA (vH Tp.ow Tp.Hw Fk.K4 hr (gv 0) (aA (gv 2) (aA (gv 3) (aA (gv 4) aH)))) aH))))) (aG (bN (gv 4))
 aN) aN)
 aN))
 (aG (bN Bh)
 aN))
 K5:=fJ Tp.Hv ["board","answers","free","rest"] ZG λ_ _ _ _ _ _ hr=>(aG (fV (lN (WM hr) (jB aH) (gv 2)) (aG (bN mU)
 aN) aN)
 (aG (iH 3 nd rfl jl rfl (vH Tp.ow Tp.SN Fk.t29 hr (gv 0) (aA (gv 2) aH)))
 (aG (fV (zkE hr (gv 3) (gv 1)) (aG (zlc hr (gv 1) (gv 3) (gc Fk.t37 Tp.R_ hr bD gk (aA (gv 0) (aA (gv 1) (aA (gv 3) aH)))))
 aN) aN)
 (aG (bN (zkw hr (gv 1) (gv 3)))
 aN))))
 t37:=fJ Tp.R_ ["board","answers","free","place"] KC λ_ _ _ _ _ _ hr=>(aG (iH 3 nd rfl jl rfl (vH Tp.ow Tp.SQ Fk.t30 hr (gv 0) (aA (gv 2) aH)))
 (aG (fV (WR (gv 3)) (aG (bN mU)
 aN) aN)
 (aG (fV (vA (Qa (jK (Bt Tp.ow (gv 0))) (P_ (jK (vH Tp.ow Tp.SX Fk.t31 hr (gv 0) (aA (gv 2) aH)))))) (aG (bN (gc Fk.K5 Tp.Hv hr bD gk (aA (gv 0) (aA (gv 1) (aA (vH Tp.ow Tp.Hw Fk.K4 hr (gv 0) (aA (gv 2) (aA (gv 3) (aA aM aH)))) aH)))))
 aN) aN)
 (aG (bN (zku (gc Fk.Tc Tp.KY hr bD gk (aA (gv 0) (aA (gv 1) (aA (gv 2) (aA (gv 3) aH)))))))
 aN))))
 t38:=fJ Tp.Sd ["_law_script","_law_k"] ZJ λ_ _ _ _ _ _ hr=>(aG (fV (lN (Gm hr) (gv 1) (zev Tp.z4 gk (aA (gv 0) aH))) (aG (bN (dR (gv 0) (gv 1)))
 aN) aN)
 (aG (bN aM)
 aN))
 t39:=fJ Tp.Sg ["_law_cell_here","_law_left"] ZK λ_ _ _ _ _ _ hr=>(aG (iH 1 nd rfl jl rfl (WW rfl Tp.Sy gk (aA (gv 0) (aA (eN o_ aM (gv 0)) aH))))
 (aG (bN (wO (aA (gv 1) (aA (zlt Tp.z1 gk (aA (tZ WL (gv 1) (eN zmu aM aM)) aH)) aH))))
 aN))
 qN:=fJ Tp.qu ["_law_pen_here","_law_many","_law_left","_law_found","_law_stir"] ZL λ_ _ _ _ _ _ hr=>(aG (fV (lN (tY hr) (dR (gv 0) aM) aM) (aG (Bp 2 3 rfl rfl nd rfl rfl jl jl rfl rfl (zgV Tp.z14 gk (aA (dR (gv 0) aM) (aA (gv 1) aH))))
 (aG (J9 (gv 0) aM (gv 2))
 (aG (bN (gv 3))
 aN))) aN)
 (aG (iH 4 nd rfl jl rfl (eN wM (eN J1 (eN wL (eN wM (dR (gv 0) aM) aM) aM) aM) aM))
 (aG (iH 4 nd rfl jl rfl (eN wM (eN wL (eN J1 (gv 4) (gv 4)) aM) aM))
 (aG (J9 (gv 0) aM (eN wM (eN wL (eN J1 (gv 4) aM) aM) aM))
 (aG (bN (eN wM (eN Wz (dR (gv 0) aM) aM) (gv 1)))
 aN)))))
 t41:=fJ Tp.Sh ["_law_pen_here"] ZM λ_ _ _ _ _ _ hr=>(aG (bN (dR (wO (aA aM (aA aM (aA aM (aA aM (aA aM (aA aM (aA aM (aA aM (aA aM (aA aM (aA aM (aA aM aH))))))))))))) (gc Fk.qN Tp.qu hr bD gk (aA (gv 0) (aA aM aH)))))
 aN)
 t42:=fJ Tp.Sq RZ ZP λ_ _ _ _ _ _ hr=>(aG (iH 2 nd rfl jc rfl (dR (wO (aA aM (aA aM (aA aM aH)))) (gc Fk.qN Tp.qu hr bD gk (aA (gv 0) (aA aM aH)))))
 (aG (iH 3 nd rfl jl rfl (wO aH))
 (aG (zE zy rfl rfl (wQ Tp.sW gk (gv 1)) (Gv 4 nd rfl jc rfl) (aG (iH 3 nd rfl jl rfl (eN wL (gv 3) (m7 (au (top 50)) RZ ["_law_other"] ["_law_one","_law_pen_here","_law_often"] [4,0,2] rfl rfl rfl (by decide +kernel) (by decide +kernel) (o7 0) (by decide +kernel) (znM Tp.sW gk (eN wL (gv 4) aM) (gv 1)) (λ_ _ _ _ _ _=>(pA 0 (by decide +kernel) rfl (by decide +kernel))) (λ_ _ _ _ _ _=>(J7 (lN (Gm hr) (gc Fk.qN Tp.qu hr Gs zL (aA (cC 2) (aA aM aH))) (cC 3)))) (λ_ _ _ _ _ _=>(jB (aA (cC 1) (aA (cC 0) aH)))))))
 aN))
 (aG (bN (jB (aA (gv 1) (aA (t_ Tp.z3 gk (aA (W_ Tp.z9 gk (aA (m7 (au (top 50)) RZ ["_law_one","_law_other"] ["_law_many"] [1] rfl rfl rfl (by decide +kernel) (by decide +kernel) (Gk 0 1) (by decide +kernel) (qe (gv 3)) (λ_ _ _ _ _ _=>(J8 0 1 rfl (by decide +kernel) rfl rfl (by decide +kernel) (by decide +kernel))) (λ_ _ _ _ _ _=>pq) (λ_ _ _ _ _ _=>(jB (aA (eN o_ (eN o_ (cC 2) aM) (cC 1)) (aA (eN o_ (eN o_ (cC 2) aM) (cC 0)) aH))))) aH)) aH)) aH))))
 aN))))
 t43:=fJ Tp.Ss ["_law_pen_here","_law_some","_law_k"] ZQ λ_ _ _ _ _ _ hr=>(aG (iH 1 nd rfl jl rfl (wO (aA (jB (aA aM (aA aM aH))) (aA (jB (aA aM (aA aM aH))) (aA (jB (aA aM (aA aM aH))) (aA (jB (aA aM (aA aM aH))) (aA (jB (aA aM (aA aM aH))) (aA (jB (aA aM (aA aM aH))) (aA (jB (aA aM (aA aM aH))) (aA (jB (aA aM (aA aM aH))) (aA (jB (aA aM (aA aM aH))) (aA (jB (aA aM (aA aM aH))) (aA (jB (aA aM (aA aM aH))) (aA (jB (aA aM (aA aM aH))) aH))))))))))))))
 (aG (fV (lN (tY hr) (gc Fk.qN Tp.qu hr bD gk (aA (gv 0) (aA aM aH))) aM) (aG (iH 2 nd rfl jl rfl (eN wL aM (eN wM (gc Fk.qN Tp.qu hr bD gk (aA (gv 0) (aA aM aH))) aM)))
 (aG (bN (jB (aA (gv 2) (aA (WW rfl Tp.Sy gk (aA aM (aA (eN Wz (gc Fk.qN Tp.qu hr bD gk (aA (gv 0) (aA (gv 2) aH))) aM) aH))) aH))))
 aN)) aN)
 (aG (bN (dR (gv 1) (gc Fk.qN Tp.qu hr bD gk (aA (gv 0) (aA aM aH)))))
 aN)))
 t44:=fJ Tp.Sv ["_law_web_here","_law_ring_here","_law_hues","_law_steps","_law_made","_law_other"] ZR λ_ _ _ _ _ _ hr=>(aG (zmc 4 5 rfl rfl nd rfl rfl (by decide) jl jl (gc Fk.Hz Tp.BJ hr bD gk (aA (gv 0) (aA (gv 1) (aA (gv 2) (aA (gv 3) aH))))) (gc Fk.K3 Tp.Hu hr bD gk (aA (gv 0) (aA (gv 1) (aA (gv 2) aH)))) rfl)
 (aG (fV (vA (Bk (m6 (jK (gc Fk.Hy Tp.Bw hr bD gk (aA (gv 0) (aA (gv 1) (aA (gv 4) aH)))))) (Bj (m6 (jK (gc Fk.Hy Tp.Bw hr bD gk (aA (gv 0) (aA (gv 1) (aA (gv 5) aH))))))))) (aG (bN mU)
 aN) aN)
 (aG (fV (vA (Bk (lN (zx hr) (gc Fk.Hz Tp.BJ hr bD gk (aA (gv 0) (aA (gv 1) (aA (gv 4) (aA (eN o_ aM (gv 3)) aH))))) (gv 2)) (Bj (lN (zx hr) (gc Fk.K3 Tp.Hu hr bD gk (aA (gv 0) (aA (gv 1) (aA (gv 5) aH)))) (gv 2))))) (aG (bN mU)
 aN) aN)
 (aG (fV (vA (Bk (lN (zx hr) (gc Fk.Hz Tp.BJ hr bD gk (aA (gv 0) (aA (gv 1) (aA (gv 2) (aA (dR (gv 1) aM) aH))))) (gv 2)) (Bj (Gn (gc Fk.S5 Tp.KH hr bD gk (aA (gv 0) (aA (gv 1) (aA (gv 4) aH)))))))) (aG (bN mU)
 aN) aN)
 (aG (bN (tZ (tY hr) (gc Fk.K3 Tp.Hu hr bD gk (aA (gv 0) (aA (gv 1) (aA (gv 4) aH)))) (gc Fk.Hz Tp.BJ hr bD gk (aA (gv 0) (aA (gv 1) (aA (gv 5) (aA (eN o_ aM (gv 3)) aH)))))))
 aN)))))
 t45:=fJ Tp.Sw ["_law_ring_here","_law_one","_law_other","_law_there"] ZS λ_ _ _ _ _ _ hr=>(aG (iH 3 nd rfl jl rfl (gc Fk.t4 Tp.d4 hr bD gk (aA (gv 0) (aA (gv 1) (aA (gv 2) aH)))))
 (aG (fV (vA (Bk (lN (zx hr) (gc Fk.t4 Tp.d4 hr bD gk (aA (gv 0) (aA (gv 2) (aA (gv 1) aH)))) (gv 3)) (Bj (lN (zx hr) (gc Fk.t4 Tp.d4 hr bD gk (aA (gv 0) (aA (gv 1) (aA (gv 1) aH)))) aM)))) (aG (bN mU)
 aN) aN)
 (aG (bN (vp (WQ J2 J2 aM (eN J1 aM (gv 3)) (dR (gv 0) aM)) (vo (tZ (tY hr) (tZ (tY hr) (gv 3) aM) (tZ (tY hr) (gv 1) (gv 2))))))
 aN)))
 t46:=fJ Tp.KZ N46 ZV λ_ _ _ _ _ _ hr=>(aG (zE zy rfl rfl (qe (eN wL (wO (aA (gc Fk.t38 Tp.Sd hr bD gk (aA (gv 0) (aA aM aH))) aH)) (WT (gv 0) (Qd aM) (Qd aM)))) (Gv 1 nd rfl jl rfl) (aG (iH 2 nd rfl jc rfl (gc Fk.t39 Tp.Sg hr bD gk (aA (gv 1) aH)))
 (aG (Bp 3 4 rfl rfl nd rfl rfl jl jc rfl rfl (jB (aA (gc Fk.t42 Tp.Sq hr bD gk (aA (gv 2) (aA (gc Fk.t41 Tp.Sh hr bD gk (aA (gv 2) aH)) aH))) (aA (gc Fk.t43 Tp.Ss hr bD gk (aA (gv 2) aH)) aH))))
 (aG (fV (vA (Qa (lN (tY hr) (dR (gv 3) aM) aM) (P_ (lN WK (dR (gv 4) aM) aM)))) (aG (iH 4 nd rfl jc rfl (jB (aA aM (aA aM aH))))
 aN) aN)
 (aG (iH 5 nd rfl jl rfl (t_ Tp.z3 gk (aA (m7 (au (top 54)) N46 ["_law_place"] ["_law_pen_here","_law_ring_here"] [2,4] rfl rfl rfl (by decide +kernel) (by decide +kernel) (o7 0) (by decide +kernel) (wQ Tp.sW gk (dR (gv 3) aM)) (λ_ _ _ _ _ _=>(pA 0 (by decide +kernel) rfl (by decide +kernel))) (λ_ _ _ _ _ _=>pq) (λ_ _ _ _ _ _=>(gc Fk.qN Tp.qu hr Gs zL (aA (cC 1) (aA (dR (cC 2) aM) aH))))) aH)))
 (aG (fV (lN (zx hr) (gc Fk.Hy Tp.Bw hr bD gk (aA (gv 3) (aA (gv 4) (aA (gv 5) aH)))) (P0 (gc Fk.S5 Tp.KH hr bD gk (aA (gv 3) (aA (gv 4) (aA (gv 5) aH)))))) (aG (bN mU)
 aN) aN)
 (aG (fV (m6 (jK (gc Fk.t45 Tp.Sw hr bD gk (aA (gv 4) (aA (gc Fk.qN Tp.qu hr bD gk (aA (gv 2) (aA (dR (gv 4) aM) aH))) (aA (gc Fk.qN Tp.qu hr bD gk (aA (gv 2) (aA (dR (gv 4) aM) aH))) aH)))))) (aG (bN mU)
 aN) aN)
 (aG (iH 6 nd rfl jl rfl (gc Fk.t33 Tp.R8 hr bD gk (aA (gv 3) (aA (gv 4) aH))))
 (aG (fV (Gn (gv 6)) (aG (iH 7 nd rfl jl rfl (eN o_ (gc Fk.qN Tp.qu hr bD gk (aA (gv 2) (aA aM aH))) aM))
 (aG (fV (vA (Bk (lN (zx hr) (dR (gv 6) aM) aM) (Bj (m6 (jK (gc Fk.t44 Tp.Sv hr bD gk (aA (gv 3) (aA (gv 4) (aA (gv 6) (aA (gv 7) aH)))))))))) (aG (bN mU)
 aN) aN)
 aN)) aN)
 (aG (fV (vA (Qa (WR (gv 6)) (P_ (jK (gc Fk.Hy Tp.Bw hr bD gk (aA (gv 3) (aA (gv 4) (aA (gv 5) aH)))))))) (aG (bN mU)
 aN) aN)
 aN))))))))))
 (aG (bN mU)
 aN))
theorem zhS(Tp:Top K mg):∀k,Fs P w K mg base k
 |0=>⟨cT,cT,cT,cT,cT,cT,cT,cT,cT,cT,cT,cT,cT,cT,cT,cT,cT,cT,cT,cT,cT,cT,cT,cT,cT,zgS,cT,cT,cT,cT,cT,cT,cT,cT,cT,cT,cT,cT,cT,cT,cT,cT,cT,cT,cT,cT,cT⟩
 |k+1=>ziV Tp (zhS Tp k)
end
theorem all_mk{l:PySem.W.OpenLaw}{w:World}{K:W.Frag}{h:Heap}{mg:Str->Option Value}{fa:Addr}(hm:∀ns:List Int,ns.length<=63->∃s',call aq T 60 true 46 [.d (.fl (ns.map D.int))] []=some (.ok (.d (.bl true)),s'))
  (S:pF fs ms xs lk bd K) (X:K.In h) (G:h.Ns mainGlobals mg) (Td:mg "law"=some (.ref fa)) :
  ∃fd:FuncData,(∀(s:Shared) (u:Value),BindsTo s fd ⟨[u],[]⟩ [("_law_script",u)])/\∀base:Heap,K.In base->base.Ns mainGlobals mg->bT l.prog w K mg base (fQ l.prog w) true 60 fa fd ["_law_script"] (rW K):=by
 have Tp:Top K mg:=zkz S X G;have e:=Td.symm.trans Tp.KZ.m;cases e;exact⟨_,zF Tp.KZ.f (λ_ _ _ _ _ _ _=>rfl),λbase _ _=>(zhS Tp 60).t46.imp (zi4 hm)⟩
end dM
namespace dM
open PySem Mi
theorem zgC{k:Nat}{n i:Int}{ps:List (Int×Int)}(h:Web n ps):W (call aq T (k+1) true 14 [.d (bR n ps),.d (.int i)]) [] λv s=>v=.d (.tup ((bI i ps).map .int)):=by
 refine W.call Zg rfl ?_;unfold Q_ bR;have hl:(ps.map fG).length<=100:=by rw[cU];have:=h.len;have:=h.h8;lia
 have hs:(100:Nat)<=sizeLine:=by decide
 refine Y ?_;refine pC (l:=ps) (f:=fG) (λp=>(endOf i p).map .int) (by rw[cU] at hl;lia) ?_ (λp hp=>?_) ?_
 ·refine Y ?_;exact⟨rfl,rfl⟩
 ·obtain⟨a,b⟩:=p;refine Y ?_;refine⟨rfl,λhb=>?_,λhb=>?_⟩
  ·refine Y ?_;refine W.ite (λh1=>?_) (λh1=>?_)
   ·refine Y ?_;refine⟨rfl,_,rfl,?_⟩;have h1:a=i:=by simpa using h1
    simp[endOf,h1]
   ·refine Y ?_;refine⟨rfl,_,rfl,?_⟩;simp[m5] at h1 hb;rcases hb with hb|hb
    ·exact absurd hb h1
    ·simp[endOf,h1,hb]
  ·simp[m5] at hb;simp[endOf,hb]
 ·have he:ps.filterMap (λp=>(endOf i p).map D.int)=(bI i ps).map D.int:=by unfold bI;rw[List.map_filterMap]
  rw[he];refine Y ?_;refine Gy (XJ (zgt ?_ (XM h i))) ?_
  ·have:=Ld (endOf i) ps;have:=h.len;have:=h.h8;unfold bI
   lia
  exact Y trivial
section
variable {n k:Nat}{es:Nat->List Int}{A:Int->Int->Bool}{F:Fr}{p:Nat}{x y:Int}
theorem zmX{k':Nat}(hx:0<=x/\x<k)(hy:0<=y/\y<k):W (call aq T (k'+1) true 26 [.d (iM n k es A),.d (.int x),.d (.int y)]) [] λv s=>v=.d (.bl (A x y)):=by
 refine W.call Zu rfl ?_;unfold Ro iM;refine Y ?_;refine fO (uc hx.1 (zl2 hx.1 hx.2)) ?_;refine Y ?_;refine fO (uc hy.1 (Q5 hy.1 hy.2)) ?_;exact Y trivial
theorem HB{k':Nat}(B:Bo n k es A)(v:Fv n k F)(hp:p<n)(hx:0<=x/\x<k):W (call aq T (k'+2) true 27 [.d (iM n k es A),.d (iK F),.d (.int p),.d (.int x)]) [] λv s=>v=.d (iK (settle es A F p x)):=by
 refine W.call Zv rfl ?_;unfold Rp iK;have qO:(100:Nat)<=sizeLine:=by decide
 have hn:=B.hn;have hv:=v.len;have ebo:iM n k es A=.ob 0 [.fl (zN n es),.tup ((fX k).map .int),.fl (uo k A),.bl true]:=rfl;refine Y ?_;refine KaW rfl ?_;refine Y ?_;refine⟨_,YF (by lia) (by rw[cU];lia),?_⟩;refine Y ?_;refine fO (uc (by lia) (YJ (by lia))) ?_;refine Y ?_;refine Br (λi J s=>s=[.lst ((((es p).take i).foldl (fj (A x)) (F.set p none)).map bA)]/\∃a5:Option Xv,J=[some (.d (iM n k es A)),some (.d (.tup (F.map bA))),some (.d (.int p)),some (.d (.int x)),some (.l 0),a5]) ⟨?_,_,rfl⟩ (λi z J s e hI=>?_) (λJ s hI=>?_)
 ·show [SO.lst ((F.map bA).set p .non)]=_;rw[List.take_zero,List.foldl_nil,List.map_set];rfl
 ·obtain⟨rfl,a5,rfl⟩:=hI;rw[gU] at e;cases ei:(es p)[i]? with
  |none=>
   rw[ou,ei] at e;cases e
  |some q=>
   rw[ou,ei] at e;cases e;have hq:=B.mem p hp q (fB ei);have ht:(es p).take (i+1)=(es p).take i++[q]:=by rw[Ir,ei];rfl
   rw[ht,List.foldl_append,List.foldl_cons,List.foldl_nil];have hG:(((es p).take i).foldl (fj (A x)) (F.set p none)).length=n:=by rw[QV,nq,hv]
   have lo:∀L,(((es p).take i).foldl (fj (A x)) (F.set p none))[q.toNat]?=some (some L)->(∀y∈L,0<=y/\y<k)/\L.length<=24:=λL hL=>by
    rw[QW q.toNat (λe he=>(B.mem p hp e (List.mem_of_mem_take he)).1) (by rw[nq];lia),qx (by lia)] at hL;have hz:∀L',F[q.toNat]?=some (some L')->(∀y∈L',0<=y/\y<k)/\L'.length<=24:=λL' h=>⟨v.lo _ L' h,v.ll _ L' h⟩;split at hL
    ·obtain⟨c,e1,e2⟩:=jZ.mp hL;cases c with
     |none=>cases e2
     |some L'=>
      cases e2;exact⟨λy hy=>(hz L' e1).1 y (ur.mp hy).1,jM (List.length_filter_le _ _) (hz L' e1).2⟩
    ·exact hz L hL
   generalize ((es p).take i).foldl (fj (A x)) (F.set p none)=G at hG lo ⊢;obtain⟨c,ec⟩ : ∃c,G[q.toNat]?=some c:=⟨_,dj (by lia)⟩;refine Y ?_;refine fO (uc hq.1 (Hq ec)) ?_;refine Y ?_;cases c with
   |none=>
    refine Y ?_;exact⟨_,rfl,by rw[zgQ ec],_,rfl⟩
   |some L=>
    obtain⟨l1,l2⟩:=lo L ec;refine Y ?_;refine pC (l:=L) (f:=D.int) (λy=>if A x y=true then some (.int y) else none) (by lia) ?_ (λy hy=>?_) ?_
    ·refine Y ?_;refine fO (uc hq.1 (Hq ec)) ?_;show W (src (.d (.tup (L.map .int)))) _ _;refine Y ?_;exact⟨rfl,rfl⟩
    ·refine Y ?_;refine W.cm rfl rfl (W.c0 (zmX hx (l1 y hy)) ?_);refine Y ?_;refine⟨rfl,λhb=>?_,λhb=>?_⟩
     ·refine Y ?_;exact⟨rfl,_,rfl,by rw[if_pos hb]⟩
     ·rw[if_neg (by rw[hb];decide)]
    ·rw[YK (α:=Unit)];refine Y ?_;refine⟨_,YF hq.1 (by rw[cU];lia),?_⟩;refine Y ?_;refine⟨_,rfl,?_,_,rfl⟩;rw[zjt,ec];rfl
 ·obtain⟨rfl,a5,rfl⟩:=hI;rw[cU,ou,Ab];refine Y ?_;rfl
theorem zhz{k':Nat}(B:Bo n k es A)(v:Fv n k F)(hp:p<n):W (call aq T (k'+1) true 28 [.d (iM n k es A),.d (iK F),.d (.int p)]) [] λv s=>v=.d (.int (cZ es F p)):=by
 refine W.call Zw rfl ?_;unfold Rq iK iM;have qO:(100:Nat)<=sizeLine:=by decide
 have hn:=B.hn;have hv:=v.len;have hl:=B.len p hp;refine Y ?_;refine pC (l:=es p) (f:=D.int) (λe=>if ((λe:Int=>(F[e.toNat]?.join).isSome) e)=true then some (.int e) else none) (by lia) ?_ (λe he=>?_) ?_
 ·refine Y ?_;refine fO (uc (by lia) (YJ (by lia))) ?_;rw[ou];refine Y ?_;exact⟨rfl,rfl⟩
 ·have hq:=B.mem p hp e he;obtain⟨c,ec⟩ : ∃c,F[e.toNat]?=some c:=⟨_,dj (by lia)⟩;refine Y ?_;refine fO (uc hq.1 (Hq ec)) ?_;refine Y ?_;have hc:(F[e.toNat]?.join).isSome=c.isSome:=by rw[ec];rfl
  have hd:(!(bA c).mH)=c.isSome:=by cases c<;>rfl
  rw[hd];refine⟨rfl,λhb=>?_,λhb=>?_⟩
  ·refine Y ?_;exact⟨rfl,_,rfl,if_pos (hc.trans hb)⟩
  ·exact if_neg (λz=>by rw[hc.symm.trans z] at hb;cases hb)
 ·rw[YK (α:=Unit)];refine Y ?_;show Xv.d (.int (((((es p).filter _).map D.int).length:Nat):Int))=_;rw[cU];rfl
theorem ziX{k':Nat}(B:Bo n k es A)(v:Fv n k F):W (call aq T (k'+2) true 29 [.d (iM n k es A),.d (iK F)]) [] λv s=>v=.d (iK (bnd es F)):=by
 refine W.call Zx rfl ?_;unfold Rr;have qO:(100:Nat)<=sizeLine:=by decide
 have hn:=B.hn;have hv:=v.len;refine Y ?_;refine pC (l:=F.zipIdx 0) (f:=λq=>.tup [.int q.2,bA q.1]) (λq=>some (bA (if 0<cZ es F q.2 then q.1 else none))) (by rw[List.length_zipIdx];lia) ?_ (λq hq=>?_) ?_
 ·refine Xu ?_;refine Y ?_;refine YC ?_;rw[YD];exact⟨rfl,rfl⟩
 ·obtain⟨c,i⟩:=q;have hi:i<n:=by
   have:=List.mem_zipIdx hq
   lia
  refine Y ?_;refine⟨rfl,λ_=>?_,λhb=>by cases hb⟩;refine Y ?_;refine W.cm rfl rfl (W.c0 (zhz B v hi) ?_);refine Y ?_;refine W.ite (λh1=>?_) (λh1=>?_)
  ·refine Y ?_;have h1:0<cZ es F i:=by simpa using h1
   exact⟨rfl,_,rfl,by rw[if_pos h1]⟩
  ·refine Y ?_;have h1:¬0<cZ es F i:=by simpa using h1
   exact⟨rfl,_,rfl,by rw[if_neg h1];rfl⟩
 ·rw[ud];refine Y ?_;show Xv.d (.tup _)=_;unfold iK bnd;rw[List.mapIdx_eq_zipIdx_map,qC];rfl
end
section
variable {n k:Nat}{es:Nat->List Int}{A:Int->Int->Bool}{F:Fr}{p:Nat}{x y:Int}
theorem Te{k':Nat}(B:Bo n k es A)(v:Fv n k F):W (call aq T (k'+2) true 30 [.d (iM n k es A),.d (iK F)]) [] λv s=>(v=.d .non/\∀(i:Nat) L,F[i]?≠some (some L))\/∃(p:Nat) (L:List Int),v=.d (.int p)/\F[p]?=some (some L):=by
 refine W.call Zy rfl ?_;unfold Rt;have qO:(100:Nat)<=sizeLine:=by decide
 have hn:=B.hn;have hv:=v.len;refine Y ?_;refine YC ?_;refine Br (λi J s=>∃(rs:List (List Int)) (a3 a4:Option Xv),s=[.lst (rs.map λr=>D.tup (r.map .int))]/\J=[some (.d (iM n k es A)),some (.d (iK F)),some (.l 0),a3,a4]/\rs.length<=i/\(∀r∈rs,∃(a b:Int) (p:Nat) (L:List Int),r=[a,b,(p:Int)]/\F[p]?=some (some L))/\(rs=[]->∀j,j<i->∀L,F[j]?≠some (some L))) ⟨[],_,_,rfl,rfl,bJ _,by simp,λ_ j hj=>absurd hj (by lia)⟩ (λi z J s e hI=>?_) (λJ s hI=>?_)
 ·obtain⟨rs,a3,a4,rfl,rfl,hl,h1,h2⟩:=hI;rw[XD,gU] at e;cases ei:F[i]? with
  |none=>rw[ei] at e;cases e
  |some c=>
   rw[ei] at e;cases e;have hi:i<n:=by have:=(eO.mp ei).1;lia
   cases c with
   |none=>
    refine Y ?_;refine⟨_,rfl,rs,_,_,rfl,rfl,by lia,h1,λer j hj L=>?_⟩;by_cases z:j=i
    ·rw[z,ei];exact λq=>by cases q
    ·exact h2 er j (by lia) L
   |some L=>
    refine Y ?_;refine W.cm rfl rfl (W.c0 (zhz (p:=0+i) B v (by lia)) ?_);refine Y ?_;refine⟨by rw[cU];lia,?_⟩;refine Y ?_;refine⟨_,rfl,rs++[[(((L.map D.int).length:Nat):Int),-(cZ es F (0+i):Int),((0+i:Nat):Int)]],_,_,?_,rfl,by simp;lia,λr hr=>?_,λer=>by simp at er⟩
    ·rw[xK];rfl
    ·rcases nj.mp hr with hr|hr
     ·exact h1 r hr
     ·rw[Cd.mp hr];exact⟨_,_,i,L,by rw[Nat.zero_add],ei⟩
 ·obtain⟨rs,a3,a4,rfl,rfl,hl,h1,h2⟩:=hI;rw[XH,cU] at h2;refine Y ?_;refine W.Ay ?_;refine Y ?_;refine⟨_,rfl,?_⟩;by_cases er:rs=[]
  ·subst er;refine Y ?_;refine .inl ⟨rfl,λi L e=>?_⟩;exact h2 rfl i (eO.mp e).1 L e
  ·have et:(!(rs.map λr=>D.tup (r.map .int)).isEmpty)=true:=by
    cases rs with
    |nil=>exact absurd rfl er
    |cons=>rfl
   rw[et];obtain⟨r,hr,em⟩:=zlA er;refine Y ?_;refine fO em ?_;obtain⟨a,b,p,L,rfl,ep⟩:=h1 r hr;refine Y ?_;exact .inr ⟨p,L,rfl,ep⟩
noncomputable def BK(k:Nat):Option (List Int)->Bool
 |none=>true
 |some L=>decide (L=fX k)
theorem zcv{k':Nat}(B:Bo n k es A)(v:Fv n k F):W (call aq T (k'+1) true 31 [.d (iM n k es A),.d (iK F)]) [] λv s=>v=.d (.bl (F.all (BK k))):=by
 refine W.call Zz rfl ?_;unfold Ru;have qO:(100:Nat)<=sizeLine:=by decide
 have hn:=B.hn;have hv:=v.len;refine Y ?_;refine pC (l:=F) (f:=bA) (λc=>some (.bl (BK k c))) (by lia) ?_ (λc hc=>?_) ?_
 ·refine Y ?_;show W (src (.d (.tup (F.map bA)))) _ _;refine Y ?_;exact⟨rfl,rfl⟩
 ·cases c with
  |none=>
   refine Y ?_;refine⟨rfl,λ_=>?_,λhb=>by cases hb⟩;refine Y ?_;exact⟨rfl,_,rfl,rfl⟩
  |some L=>
   refine Y ?_;refine⟨rfl,λ_=>?_,λhb=>by cases hb⟩;refine Y ?_;refine fO (Ho (f:=id)) ?_;exact⟨rfl,_,rfl,rfl⟩
 ·rw[ud];refine Y ?_;refine fO zkP ?_;rfl
end
section
variable {n k d:Int}{ps:List (Int×Int)}
theorem zfe{k':Nat}(h:Web n ps):W (call aq T (k'+2) true 15 [.d (bR n ps)]) [] λv s=>v=.d (.fl (zN n.toNat λi=>bI i ps)):=by
 refine W.call Zh rfl ?_;unfold Ra;have qO:(100:Nat)<=sizeLine:=by decide
 have h1:=h.h1;have h8:=h.h8;refine Y ?_;refine pC (l:=List.range (n-0).toNat) (f:=λ(j:Nat)=>.int (0+j)) (λ(i:Nat)=>some (.tup ((bI i ps).map .int))) (by rw[pI];lia) ?_ (λj hj=>?_) ?_
 ·unfold bR;refine Y ?_;refine⟨by rw[lO (by lia) (by lia),lO (by lia) (by lia)];rfl,?_⟩;exact⟨rfl,rfl⟩
 ·refine Y ?_;refine⟨rfl,λ_=>?_,λhb=>by cases hb⟩;refine Y ?_;refine W.c0 (zgC h) ?_;exact⟨rfl,_,rfl,by rw[show (0:Int)+j=j by lia]⟩
 ·rw[show (List.range (n-0).toNat).filterMap (λ(i:Nat)=>some (D.tup ((bI i ps).map .int)))=zN n.toNat λi=>bI i ps by rw[ud,show n-0=n by lia];rfl];exact Y trivial
theorem zj7{k':Nat}{A:Int->Int->Bool}(h:Web n ps){m:Nat}(hm:m<=24):W (call aq T (k'+3) true 25 [.d .any,.d (bR n ps),.d (.fl (uo m A)),.d (.bl true)]) [] λv s=>v=.d (.tup [.fl (zN n.toNat λi=>bI i ps),.tup ((fX m).map .int),.fl (uo m A),.bl true]):=by
 refine W.call Zr rfl ?_;unfold Rn;refine Y ?_;refine W.c0 (zfe h) ?_;have em:(uo m A).length=m:=by unfold uo;simp
 refine Xl (Xr (ds:=[.int ((uo m A).length:Nat)]) rfl (fO (d:=.tup ((fX m).map .int)) (by rw[em];exact zmZ (by lia)) ?_));exact Y trivial
theorem ziE{k':Nat}(h:Web n ps)(hd:1<=d)(wZ:d<=k)(hk:k<=24):W (call aq T (k'+4) true 32 [.d (bR n ps),.d (aL k d)]) [] λv s=>v=.d (iM n.toNat k.toNat (λi=>bI i ps) (cQ k d)):=by
 refine W.call ZC rfl ?_;unfold Rw aL;have qO:(100:Nat)<=sizeLine:=by decide
 have e0:(k-0).toNat=k.toNat:=by lia
 refine Y ?_;refine pC (l:=List.range (k-0).toNat) (f:=λ(j:Nat)=>.int (0+j)) (λ(j:Nat)=>some (.bl ((λj:Int=>decide (d<=j/\d<=k-j)) j))) (by rw[pI];lia) ?_ (λj hj=>?_) ?_
 ·refine Y ?_;refine⟨by rw[lO (by lia) (by lia),lO (by lia) (by lia)];rfl,?_⟩;exact⟨rfl,rfl⟩
 ·refine Y ?_;refine⟨rfl,λ_=>?_,λhb=>by cases hb⟩;refine Y ?_;refine⟨rfl,_,rfl,?_⟩
  congr 2
  rw[tG]
  split<;>lia
 ·rw[ud,e0];refine Y ?_;refine W.mk (vs:=[.d (bR n ps),.d (.fl (uo k.toNat (cQ k d))),.d (.bl true)]) ?_ rfl (zj7 h (by lia));refine Y ?_;refine pC (l:=List.range (k-0).toNat) (f:=λ(j:Nat)=>.int (0+j)) (λ(a:Nat)=>some (.fl ((List.range k.toNat).map λ(b:Nat)=>.bl (cQ k d a b)))) (by rw[pI];lia) ?_ (λa ha=>?_) ?_
  ·refine Y ?_;refine⟨by rw[lO (by lia) (by lia),lO (by lia) (by lia)];rfl,?_⟩;exact⟨rfl,rfl⟩
  ·have ha:=xO.mp ha;refine Y ?_;refine⟨rfl,λ_=>?_,λhb=>by cases hb⟩;refine Y ?_;refine pC (l:=List.range (k-0).toNat) (f:=λ(j:Nat)=>.int (0+j)) (λ(b:Nat)=>some (.bl (cQ k d a b))) (by rw[pI];lia) ?_ (λb hb=>?_) ?_
   ·refine Y ?_;refine⟨by rw[lO (by lia) (by lia),lO (by lia) (by lia)];rfl,?_⟩;exact⟨rfl,rfl⟩
   ·have hb:=xO.mp hb;refine Y ?_;refine⟨rfl,λ_=>?_,λhb=>by cases hb⟩;refine Y ?_;by_cases c:(0:Int)<=(0+a:Int)-(0+b)
    ·refine fO (uc c (Q5 (f:=λj=>decide (d<=j/\d<=k-j)) c (by lia))) ?_;refine⟨rfl,_,rfl,?_⟩;unfold cQ
     congr 2
     rw[tG,wX hd]
     lia
    ·refine fO (zmb (x:=.bl (decide (d<=a-b+k/\d<=k-(a-b+k)))) (by lia) (by rw[cU,pI];lia) ?_) ?_
     ·rw[cU,pI];refine(Q5 (f:=λj=>decide (d<=j/\d<=k-j)) (by lia) (by lia)).trans ?_
      congr 3
      simp
      lia
     ·refine⟨rfl,_,rfl,?_⟩;unfold cQ
      congr 2
      rw[tG,wX hd]
      lia
   ·rw[ud,e0];refine Y ?_;exact⟨rfl,_,rfl,rfl⟩
  ·rw[ud,e0];refine Y ?_;exact⟨rfl,rfl⟩
end
section
variable {n k:Nat}{es:Nat->List Int}{A:Int->Int->Bool}
def Told(n k:Nat)(es:Nat->List Int)(A:Int->Int->Bool)(f l m c:Nat):Prop:=∀F kvs,Fv n k F->unset F<=m->jL es A kvs->kvs.length+c<sizeLine->
 W (call aq T l true f [.d (iM n k es A),.l 0,.d (iK F)]) [.dct kvs] λv s=>∃b kvs',v=.d (.bl b)/\(b=true↔Sat es A F)/\s=[.dct kvs']/\jL es A kvs'/\kvs'.length<=kvs.length+c
theorem zhV{l m c:Nat}(B:Bo n k es A)(H:Told n k es A 36 (l+2) m c){F:Fr}{p:Nat}{L:List Int}{kvs:gY}(v:Fv n k F)(hu:unset F<=m+1)(hL:F[p]?=some (some L))(ha:jL es A kvs)(hl:kvs.length+k*c<sizeLine) :
  W (call aq T (l+3) true 35 [.d (iM n k es A),.l 0,.d (iK F),.d (.int p)]) [.dct kvs] λv s=>∃kvs',s=[.dct kvs']/\jL es A kvs'/\kvs'.length<=kvs.length+k*c /\
   ((v=.d .non/\∀x∈L,¬Sat es A (settle es A F p x))\/∃x∈L,v=.d (.int x)/\Sat es A (settle es A F p x)/\∀y∈L,y<x->¬Sat es A (settle es A F p y)):=by
 refine W.call RW rfl ?_;unfold Kz;have qO:(100:Nat)<=sizeLine:=by decide
 have hp:=pG v.len hL;have hLk:L.length<=k:=YL (v.so p L hL) (v.lo p L hL);refine Y ?_;refine fO (X4 (by lia) (Hq hL)) ?_;show W (src (.d (.tup (L.map .int)))) _ _;refine Y ?_;refine QB (λi J s=>∃(kvs':gY) (a4:Option Xv),s=[.dct kvs']/\J=[some (.d (iM n k es A)),some (.l 0),some (.d (iK F)),some (.d (.int p)),a4]/\jL es A kvs'/\kvs'.length<=kvs.length+i*c/\∀j y,j<i->L[j]?=some y->¬Sat es A (settle es A F p y)) ⟨kvs,_,rfl,rfl,ha,by lia,λj _ hj=>absurd hj (by lia)⟩ (λi z J s e hI=>?_) (λJ s hI=>?_)
 ·obtain⟨kvs',a4,rfl,rfl,h1,h2,h3⟩:=hI;rw[gU] at e;cases ei:L[i]? with
  |none=>rw[ei] at e;cases e
  |some x=>
   rw[ei] at e;cases e;have hi:i<L.length:=(eO.mp ei).1;have hx:=fB ei;have hc:(i+1)*c<=k*c:=Ia _ (by lia);have oJ:(i+1)*c=i*c+c:=Nat.succ_mul ..;refine Y ?_;refine W.cm rfl rfl (W.c0 (HB B v hp (v.lo p L hL x hx)) ?_);refine Y ?_;have hu2:=Hl (es:=es) (A:=A) (x:=x) hL;refine pD (s:=[]) rfl ((H _ kvs' (Hj B v hp) (by lia) h1 (by lia)).imp λv1 s1=>?_);rintro⟨b,dJ,rfl,hb,rfl,g1,g2⟩;refine⟨_,_,rfl,rfl,?_⟩;refine Y ?_;cases b with
   |true=>
    refine Y ?_;refine .inr ⟨_,rfl,?_⟩;refine⟨dJ,rfl,g1,by lia,.inr ⟨x,hx,rfl,hb.mp rfl,λy hy dD=>?_⟩⟩;obtain⟨j,hj,ej⟩:=vO hy;refine h3 j y ?_ (by rw[dj hj,ej]);obtain⟨_,ex⟩:=eO.mp ei;exact Nat.lt_of_not_le λq=>by
     rcases Nat.lt_or_eq_of_le q with q|q
     ·have:=HS.mp (v.so p L hL) i j hi hj q
      lia
     ·subst q;lia
   |false=>
    refine Y ?_;refine .inl ⟨_,rfl,dJ,_,rfl,rfl,g1,by lia,λj y hj ej=>?_⟩;by_cases q:j=i
    ·subst q;rw[ei] at ej;cases ej;exact λz=>by cases hb.mpr z
    ·exact h3 j y (by lia) ej
 ·obtain⟨kvs',a4,rfl,rfl,h1,h2,h3⟩:=hI;rw[cU] at h2 h3;have hc:L.length*c<=k*c:=Ia _ hLk;refine Y ?_;refine⟨kvs',rfl,h1,by lia,.inl ⟨rfl,λx hx=>?_⟩⟩;obtain⟨j,hj,ej⟩:=vO hx;exact h3 j x hj (by rw[dj hj,ej])
theorem zhe{l:Nat}(B:Bo n k es A):Told n k es A 37 (l+3) 0 0:=by
 intro F kvs v hu ha hl;refine W.call KC rfl ?_;unfold Ht;refine Y ?_;refine W.cm rfl rfl (m8 rfl ((Te B v).imp λx s=>?_));rintro(⟨rfl,hz⟩|⟨p,L,rfl,hL⟩)
 ·refine⟨_,rfl,?_⟩;refine Y ?_;exact⟨true,kvs,rfl,⟨λ_=>QX hz,λ_=>rfl⟩,rfl,ha,by lia⟩
 ·exact absurd hL (zeU (by lia) p L)
theorem zhr{l m c:Nat}(B:Bo n k es A)(lH:1<=k)(dI:∀t a b:Int,0<=a->a<k->0<=b->b<k->A ((a+t)%k) ((b+t)%k)=A a b)(H:∀j,Told n k es A 36 (l+2+j) m c):Told n k es A 37 (l+4) (m+1) (k*c):=by
 intro F kvs v hu ha hl;refine W.call KC rfl ?_;unfold Ht;have hkc:1*c<=k*c:=Ia _ lH;refine Y ?_;refine W.cm rfl rfl (m8 rfl ((Te B v).imp λx s=>?_));rintro(⟨rfl,hz⟩|⟨p,L,rfl,hL⟩)
 ·refine⟨_,rfl,?_⟩;refine Y ?_;exact⟨true,kvs,rfl,⟨λ_=>QX hz,λ_=>rfl⟩,rfl,ha,by lia⟩
 ·refine⟨_,rfl,?_⟩;have hp:=pG v.len hL;refine Y ?_;refine W.cm rfl rfl (W.c0 (zcv B v) ?_);refine Y ?_;cases eb:F.all (BK k) with
  |true=>
   have all:∀(i:Nat) L,F[i]?=some (some L)->L=fX k:=λi L h=>j9 (jx.mp eb _ (fB h));refine Y ?_;refine W.cm rfl rfl (W.c0 (HB B v hp ⟨by lia,by lia⟩) ?_);refine Y ?_;have hu2:=Hl (es:=es) (A:=A) (x:=0) hL;refine pD (s:=[]) rfl ((H 1 _ kvs (Hj B v hp) (by lia) ha (by lia)).imp λv1 s1=>?_);rintro⟨b,dJ,rfl,hb,rfl,g1,g2⟩;refine⟨_,_,rfl,rfl,?_⟩;refine Y ?_;exact⟨b,dJ,rfl,hb.trans (QZ B v hp lH dI all (all p L hL▸hL)).symm,rfl,g1,by lia⟩
  |false=>
   refine Y ?_;refine pD (s:=[]) rfl ((zhV B (H 0) v hu hL ha (by lia)).imp λv1 s1=>?_);rintro⟨dJ,rfl,g1,g2,h⟩;rcases h with ⟨rfl,uI⟩|⟨x,hx,rfl,hs,_⟩
   ·refine⟨_,_,rfl,rfl,?_⟩;refine Y ?_;refine⟨false,dJ,rfl,⟨λz=>(by cases z),λz=>?_⟩,rfl,g1,g2⟩;obtain⟨x,hx,q⟩:=(Kr B v hp hL).mp z;exact absurd q (uI x hx)
   ·refine⟨_,_,rfl,rfl,?_⟩;refine Y ?_;exact⟨true,dJ,rfl,⟨λ_=>(Kr B v hp hL).mpr ⟨x,hx,hs⟩,λ_=>rfl⟩,rfl,g1,g2⟩
theorem zg1{l m c:Nat}(B:Bo n k es A)(lH:1<=k)(dI:∀t a b:Int,0<=a->a<k->0<=b->b<k->A ((a+t)%k) ((b+t)%k)=A a b)(H:Told n k es A 36 (l+3) m c){F:Fr}{kvs:gY}(v:Fv n k F)(hu:unset F<=m+1)(eb:F.all (BK k)=true)(ha:jL es A kvs)(hl:kvs.length+c<sizeLine) :
  W (call aq T (l+4) true 37 [.d (iM n k es A),.l 0,.d (iK F)]) [.dct kvs] λv s=>∃b kvs',v=.d (.bl b)/\(b=true↔Sat es A F)/\s=[.dct kvs']/\jL es A kvs'/\kvs'.length<=kvs.length+c:=by
 refine W.call KC rfl ?_;unfold Ht;refine Y ?_;refine W.cm rfl rfl (m8 rfl ((Te B v).imp λx s=>?_));rintro(⟨rfl,hz⟩|⟨p,L,rfl,hL⟩)
 ·refine⟨_,rfl,?_⟩;refine Y ?_;exact⟨true,kvs,rfl,⟨λ_=>QX hz,λ_=>rfl⟩,rfl,ha,by lia⟩
 ·refine⟨_,rfl,?_⟩;have hp:=pG v.len hL;refine Y ?_;refine W.cm rfl rfl (W.c0 (zcv B v) ?_);refine Y ?_;have all:∀(i:Nat) L,F[i]?=some (some L)->L=fX k:=λi L h=>j9 (jx.mp eb _ (fB h));rw[eb];refine Y ?_;refine W.cm rfl rfl (W.c0 (HB B v hp ⟨by lia,by lia⟩) ?_);refine Y ?_;have hu2:=Hl (es:=es) (A:=A) (x:=0) hL;refine pD (s:=[]) rfl ((H _ kvs (Hj B v hp) (by lia) ha (by lia)).imp λv1 s1=>?_);rintro⟨b,dJ,rfl,hb,rfl,g1,g2⟩;refine⟨_,_,rfl,rfl,?_⟩;refine Y ?_;exact⟨b,dJ,rfl,hb.trans (QZ B v hp lH dI all (all p L hL▸hL)).symm,rfl,g1,by lia⟩
theorem zjI{l c:Nat}(B:Bo n k es A){F:Fr}{kvs:gY}(v:Fv n k F)(ha:jL es A kvs)(hl:kvs.length+(1+c)<sizeLine)(H:W (call aq T (l+3) true 37 [.d (iM n k es A),.l 0,.d (iK (bnd es F))]) [.dct kvs] λv s=>∃b kvs',v=.d (.bl b)/\(b=true↔Sat es A (bnd es F))/\s=[.dct kvs']/\jL es A kvs'/\kvs'.length<=kvs.length+c) :
  W (call aq T (l+4) true 36 [.d (iM n k es A),.l 0,.d (iK F)]) [.dct kvs] λv s=>∃b kvs',v=.d (.bl b)/\(b=true↔Sat es A F)/\s=[.dct kvs']/\jL es A kvs'/\kvs'.length<=kvs.length+(1+c):=by
 refine W.call ZG rfl ?_;unfold RB;refine Y ?_;refine fO (zml (f:=id)) ?_;by_cases e0:some []∈F
 ·rw[iy e0];refine Y ?_;obtain⟨i,hi,ei⟩:=vO e0;refine⟨false,kvs,rfl,⟨λz=>(by cases z),λz=>absurd z (zim (i:=i) (by rw[dj hi,ei]))⟩,rfl,ha,by lia⟩
 ·rw[pJ e0];have ne:∀(i:Nat) L,F[i]?=some (some L)->L≠[]:=λi L h q=>by subst q;exact e0 (fB h)
  have sb:=zh6 B v ne;refine Y ?_;refine W.cm rfl rfl (W.c0 (ziX B v) ?_);refine Y ?_;refine W.yP rfl rfl (Ko _) rfl ?_;cases eg:bO ((bnd es F).map cellK) kvs with
  |some d=>
   obtain⟨b,rfl,hb⟩:=ha _ _ eg;refine Y ?_;refine W.nM rfl rfl (Ko _) rfl eg ?_;refine Y ?_;exact⟨b,kvs,rfl,hb.trans sb,rfl,ha,by lia⟩
  |none=>
   refine Y ?_;refine WS.dput rfl rfl (Ko _) ?_;refine Y ?_;refine pD (s:=[]) rfl (H.imp λv1 s1=>?_);rintro⟨b,dJ,rfl,hb,rfl,g1,g2⟩;refine⟨_,_,rfl,rfl,?_⟩;refine⟨_,dJ,rfl,rfl,by lia,?_⟩;refine Y ?_;refine W.nM (v:=.bl b) rfl rfl (Ko _) rfl (by rw[YB,if_pos rfl]) ?_;refine Y ?_;have:=zgX (q:=(bnd es F).map cellK) (d:=.bl b) (kvs:=dJ);exact⟨b,_,rfl,hb.trans sb,rfl,zjB g1 hb,by lia⟩
theorem zlx{l m c:Nat}(B:Bo n k es A)(H:Told n k es A 37 (l+3) m c):Told n k es A 36 (l+4) m (1+c):=by
 intro F kvs v hu ha hl;have hu2:=Yy (es:=es) (F:=F);exact zjI B v ha hl (H _ kvs (Yw v) (by lia) ha (by lia))
theorem K6(B:Bo n k es A)(lH:1<=k)(dI:∀t a b:Int,0<=a->a<k->0<=b->b<k->A ((a+t)%k) ((b+t)%k)=A a b):∀m j,Told n k es A 36 (3*m+4+j) m (cnt k m)
 |0,j=>by
  rw[show 3*0+4+j=j+4 by lia];exact zlx (c:=0) B (zhe B)
 |m+1,j=>by
  rw[show 3*(m+1)+4+j=(3*m+3+j)+4 by lia];refine zlx B ?_;rw[show 3*m+3+j+3=(3*m+2+j)+4 by lia];refine zhr B lH dI λi=>?_;rw[show 3*m+2+j+2+i=3*m+4+(j+i) by lia];exact K6 B lH dI m (j+i)
theorem zg3{m j:Nat}(B:Bo n k es A)(lH:1<=k)(dI:∀t a b:Int,0<=a->a<k->0<=b->b<k->A ((a+t)%k) ((b+t)%k)=A a b){F:Fr}{kvs:gY}(v:Fv n k F)(hu:unset F<=m+1)(eb:F.all (BK k)=true)(ha:jL es A kvs)(hl:kvs.length+(1+cnt k m)<sizeLine) :
  W (call aq T (3*(m+1)+4+j) true 36 [.d (iM n k es A),.l 0,.d (iK F)]) [.dct kvs] λv s=>∃b kvs',v=.d (.bl b)/\(b=true↔Sat es A F)/\s=[.dct kvs']/\jL es A kvs'/\kvs'.length<=kvs.length+(1+cnt k m):=by
 rw[show 3*(m+1)+4+j=(3*m+3+j)+4 by lia];refine zjI B v ha hl ?_;rw[show 3*m+3+j+3=(3*m+2+j)+4 by lia];have hu2:=Yy (es:=es) (F:=F);refine zg1 B lH dI ?_ (Yw v) (jM hu2 hu) ?_ ha (by lia)
 ·rw[show 3*m+2+j+3=3*m+4+(j+1) by lia];exact K6 B lH dI m (j+1)
 ·refine jx.mpr λc hc=>?_;cases c with
  |none=>rfl
  |some L=>
   obtain⟨i,hi,ei⟩:=vO hc;have:=zM (es:=es) (F:=F) (i:=i) (L:=L) (by rw[dj hi,ei]);exact jx.mp eb _ (fB this.1)
theorem zjM{l m c:Nat}(B:Bo n k es A)(lH:1<=k)(dI:∀t a b:Int,0<=a->a<k->0<=b->b<k->A ((a+t)%k) ((b+t)%k)=A a b)(H:Told n k es A 36 (l+2) m c){F:Fr}{p:Nat}{kvs:gY}(v:Fv n k F)(hu:unset F<=m+1)(all:∀(i:Nat) L,F[i]?=some (some L)->L=fX k)(hL:F[p]?=some (some (fX k)))(qw:Sat es A F)(ha:jL es A kvs)(hl:kvs.length+c<sizeLine) :
  W (call aq T (l+3) true 35 [.d (iM n k es A),.l 0,.d (iK F),.d (.int p)]) [.dct kvs] λv s=>∃kvs',s=[.dct kvs']/\jL es A kvs'/\kvs'.length<=kvs.length+c /\
   ((v=.d .non/\∀x∈fX k,¬Sat es A (settle es A F p x))\/∃x∈fX k,v=.d (.int x)/\Sat es A (settle es A F p x)/\∀y∈fX k,y<x->¬Sat es A (settle es A F p y)):=by
 refine W.call RW rfl ?_;unfold Kz;have hp:=pG v.len hL;have h0:=(QZ B v hp lH dI all hL).mp qw;refine Y ?_;refine fO (X4 (by lia) (Hq hL)) ?_;show W (src (.d (.tup ((fX k).map .int)))) _ _;refine Y ?_;refine QB (λi J s=>i=0/\∃a4:Option Xv,s=[.dct kvs]/\J=[some (.d (iM n k es A)),some (.l 0),some (.d (iK F)),some (.d (.int p)),a4]) ⟨rfl,_,rfl,rfl⟩ (λi z J s e hI=>?_) (λJ s hI=>?_)
 ·obtain⟨rfl,a4,rfl,rfl⟩:=hI;rw[gU] at e;have ei:(fX k)[0]?=some 0:=by unfold fX;rw[gU,BZ (by lia)];rfl
  rw[ei] at e;cases e;have hx:(0:Int)∈fX k:=dW.mpr ⟨by lia,by lia⟩;refine Y ?_;refine W.cm rfl rfl (W.c0 (HB B v hp ⟨by lia,by lia⟩) ?_);refine Y ?_;have hu2:=Hl (es:=es) (A:=A) (x:=0) hL;refine pD (s:=[]) rfl ((H _ kvs (Hj B v hp) (by lia) ha (by lia)).imp λv1 s1=>?_);rintro⟨b,dJ,rfl,hb,rfl,g1,g2⟩;have eb:b=true:=hb.mpr h0;subst eb;refine⟨_,_,rfl,rfl,?_⟩;refine Y ?_;refine .inr ⟨_,rfl,?_⟩;exact⟨dJ,rfl,g1,g2,.inr ⟨0,hx,rfl,h0,λy hy dD=>absurd (dW.mp hy).1 (by lia)⟩⟩
 ·obtain⟨hz,_⟩:=hI;rw[cU] at hz;have:(fX k).length=k:=by unfold fX;simp
  lia
end
section
variable {n k:Nat}{es:Nat->List Int}{A:Int->Int->Bool}
theorem ziR{k':Nat}(B:Bo n k es A)(lH:1<=k)(dI:∀t a b:Int,0<=a->a<k->0<=b->b<k->A ((a+t)%k) ((b+t)%k)=A a b){F0:Fr}(v0:Fv n k F0)(all:∀i,i<n->∃L,F0[i]?=some (some L)){c0 c1:Nat}(hz:c0+c1+tot k (n-1)<sizeLine)
  (Hc:W (call aq T (3*n+4+k') true 36 [.d (iM n k es A),.l 0,.d (iK F0)]) [.dct []] λv s=>∃b kvs',v=.d (.bl b)/\(b=true↔Sat es A F0)/\s=[.dct kvs']/\jL es A kvs'/\kvs'.length<=c0)
  (Hf:∀kvs L,F0[0]?=some (some L)->Sat es A F0->jL es A kvs->kvs.length<=c0->W (call aq T (3*n+1+k'+3) true 35 [.d (iM n k es A),.l 0,.d (iK F0),.d (.int (0:Nat))]) [.dct kvs] λv s=>∃kvs',s=[.dct kvs']/\jL es A kvs'/\kvs'.length<=kvs.length+c1 /\
   ((v=.d .non/\∀x∈L,¬Sat es A (settle es A F0 0 x))\/∃x∈L,v=.d (.int x)/\Sat es A (settle es A F0 0 x)/\∀y∈L,y<x->¬Sat es A (settle es A F0 0 y))) :
  W (call aq T (3*n+5+k') true 34 [.d (iM n k es A),.d (.fl (F0.map bA))]) [] λv s=>(v=.d .non/\¬Sat es A F0)\/∃hs:List Int,v=.d (.tup (hs.map .int))/\hs.length=n/\n8 es A F0 (λj=>at' hs j)/\∀g,n8 es A F0 g->∀j,j<n->(∀t,t<j->g t=at' hs t)->at' hs j<=g j:=by
 have hn:=B.hn;have hl:=v0.len;rw[show 3*n+5+k'=(3*n+4+k')+1 by lia];refine W.call ZF rfl ?_;unfold Ry;have qO:(100:Nat)<=sizeLine:=by decide
 have FW:unset F0<=n:=by unfold unset;rw[<-hl];exact List.countP_le_length
 refine Y ?_;refine W.pX ?_;refine Y ?_;refine pD (s:=[]) rfl (Hc.imp λv1 s1=>?_);rintro⟨b,kvs,rfl,hb,rfl,g1,g2⟩;refine⟨_,_,rfl,rfl,?_⟩;refine Y ?_;cases b with
 |false=>
  refine Y ?_;exact .inl ⟨rfl,λz=>by cases hb.mpr z⟩
 |true=>
  have qw:=hb.mp rfl;refine Y ?_;have HD:((F0.map bA).length:Int)=n:=by rw[cU,hl]
  refine⟨by rw[HD,lO (by lia) (by lia),lO (by lia) (by lia)];rfl,?_⟩;rw[HD];refine Br (c:=(List.range ((n:Int)-0).toNat).map λ(j:Nat)=>.int (0+j)) (λi J s=>∃(kvs':gY) (Fi:Fr) (hs:List Int) (a5 a6:Option Xv),s=[.dct kvs',.lst (hs.map .int)]/\J=[some (.d (iM n k es A)),some (.d (.fl (F0.map bA))),some (.d (iK Fi)),some (.l 0),some (.l 1),a5,a6]/\jL es A kvs'/\(i=0->Fi=F0/\kvs'.length<=c0)/\(1<=i->kvs'.length+tot k (n-i)<=c0+c1+tot k (n-1))/\hs.length=i/\Fv n k Fi/\unset Fi<=n-i/\(∀j,i<=j->j<n->∃L,Fi[j]?=some (some L))/\Sat es A Fi /\
   (∀g,n8 es A Fi g->n8 es A F0 λj=>if j<i then at' hs j else g j)/\(∀g,n8 es A F0 g->(∀t,t<i->g t=at' hs t)->n8 es A Fi g)/\(∀g,n8 es A F0 g->∀j,j<i->(∀t,t<j->g t=at' hs t)->at' hs j<=g j)) ?_ (λi z J s e hI=>?_) (λJ s hI=>?_)
  ·exact⟨kvs,F0,[],_,_,rfl,rfl,g1,λ_=>⟨rfl,g2⟩,λz=>absurd z (by lia),rfl,v0,by lia,λj _ hj=>all j hj,qw,λg s=>by simpa using s,λg s _=>s,λg _ j hj=>absurd hj (by lia)⟩
  ·obtain⟨kvs',Fi,hs,a5,a6,rfl,rfl,i1,i0,i2,i3,i4,i5,i6,i7,i8,i9,K7⟩:=hI;rw[gU] at e;cases ei:(List.range ((n:Int)-0).toNat)[i]? with
   |none=>rw[ei] at e;cases e
   |some j=>
    rw[ei] at e;cases e;obtain⟨hil,ej⟩:=eO.mp ei;rw[List.getElem_range] at ej;rw[pI] at hil;subst ej;obtain⟨L,hL⟩:=i6 i (bJ _) (by lia);have ez:((0:Int)+(i:Nat))=(i:Int):=by lia
    dsimp only;rw[ez];have hp:=pG i4.len hL;obtain⟨m,hm⟩ : ∃m,n-i=m+1:=⟨n-i-1,by lia⟩;rw[hm] at i2 i5;have et:tot k (m+1)=k*cnt k m+tot k m:=rfl;refine Y ?_;have lv:3*n+4+k'=(3*n+1+k')+3:=by lia
    refine Kaq (s:=[]) rfl ?_;rw[lv];have H:Told n k es A 36 (3*n+1+k'+2) m (cnt k m):=by
     rw[show 3*n+1+k'+2=3*m+4+(3*n-3*m+k'-1) by lia];exact K6 B lH dI m _
    obtain⟨c2,oJ,hW⟩ : ∃c2,(kvs'.length+c2+tot k m<=c0+c1+tot k (n-1))/\W (call aq T (3*n+1+k'+3) true 35 [.d (iM n k es A),.l 0,.d (iK Fi),.d (.int i)]) [.dct kvs'] λv s=>∃dJ,s=[.dct dJ]/\jL es A dJ/\dJ.length<=kvs'.length+c2 /\
      ((v=.d .non/\∀x∈L,¬Sat es A (settle es A Fi i x))\/∃x∈L,v=.d (.int x)/\Sat es A (settle es A Fi i x)/\∀y∈L,y<x->¬Sat es A (settle es A Fi i y)):=by
     by_cases c:i=0
     ·subst c;obtain⟨rfl,q⟩:=i0 rfl;have em:n-1=m:=by lia
      rw[em];exact⟨c1,by lia,Hf kvs' L hL qw i1 q⟩
     ·have i2:=i2 (by lia);refine⟨k*cnt k m,by lia,zhV B H i4 i5 hL i1 (by lia)⟩
    clear i2;refine hW.imp λv1 s1=>?_;rintro⟨dJ,rfl,q1,q2,h⟩;rcases h with ⟨rfl,uI⟩|⟨x,hx,rfl,yp,dD⟩
    ·obtain⟨x,hx,q⟩:=(Kr B i4 hp hL).mp i7;exact absurd q (uI x hx)
    ·refine⟨_,_,rfl,rfl,?_⟩;refine Y ?_;refine W.cm rfl rfl (W.c0 (HB (k':=3*n+2+k') B i4 hp (i4.lo i L hL x hx)) ?_);refine Y ?_;refine⟨by rw[cU];lia,?_⟩;refine Y ?_;have ag:∀j:Nat,j<i->at' (hs++[x]) j=at' hs j:=λj hj=>zjY (by lia) (by lia);have ai:at' (hs++[x]) (i:Int)=x:=by rw[<-i3];exact zh4
     refine⟨_,rfl,dJ,settle es A Fi i x,hs++[x],_,_,?_,rfl,q1,λz=>absurd z (by lia),λ_=>by rw[show n-(i+1)=m by lia];lia,by simp[i3],Hj B i4 hp,?_,λj hj hjn=>?_,yp,λg s=>?_,λg s hg=>?_,λg s j hj hg=>?_⟩
     ·rw[xK];rfl
     ·have:=Hl (es:=es) (A:=A) (x:=x) hL
      lia
     ·obtain⟨M,hM⟩:=i6 j (by lia) hjn;exact⟨_,Hg B i4.len hp (by lia) hM⟩
     ·have s2:=i8 _ (Yu B i4 hp hL hx s);refine⟨λj M hM=>?_,λj e M N h1 h2 he=>?_⟩
      ·have:=s2.mem j M hM
       try dsimp only at this ⊢
       by_cases c1:j<i
       ·rw[if_pos c1] at this;rw[if_pos (by lia),ag j c1];exact this
       ·rw[if_neg c1] at this;by_cases c2:j=i
        ·rw[if_pos c2] at this;rw[if_pos (by lia),c2,ai];exact this
        ·rw[if_neg c2] at this;rw[if_neg (by lia)];exact this
      ·have ff:∀j:Nat,(if j<i then at' hs j else if j=i then x else g j)=if j<i+1 then at' (hs++[x]) j else g j:=λj=>by
        by_cases c1:j<i
        ·rw[if_pos c1,if_pos (by lia),ag j c1]
        ·rw[if_neg c1];by_cases c2:j=i
         ·rw[if_pos c2,if_pos (by lia),c2,ai]
         ·rw[if_neg c2,if_neg (by lia)]
       have:=s2.fit j e M N h1 h2 he
       try dsimp only at this ⊢
       rw[<-ff,<-ff];exact this
     ·have s2:=i9 g s λt ht=>by rw[hg t (by lia),ag t ht]
      have s3:=Kq B i4 hp hL s2;rw[hg i (by lia),ai] at s3;exact s3
     ·by_cases c1:j<i
      ·rw[ag j c1];exact K7 g s j c1 λt ht=>by rw[hg t ht,ag t (by lia)]
      ·have:j=i:=by lia
       subst this;rw[ai];have s2:=i9 g s λt ht=>by rw[hg t ht,ag t ht]
       have s3:=Kq B i4 hp hL s2;exact Int.not_lt.mp λq=>dD (g j) (s2.mem j L hL) q ⟨g,s3⟩
  ·obtain⟨kvs',Fi,hs,a5,a6,rfl,rfl,i1,i0,i2,i3,i4,i5,i6,i7,i8,i9,K7⟩:=hI;rw[cU,pI,show ((n:Int)-0).toNat=n by lia] at i3 i8 K7;refine Y ?_;refine .inr ⟨hs,rfl,i3,?_,K7⟩;obtain⟨g,sg⟩:=i7;have s2:=i8 g sg;refine⟨λj M hM=>?_,λj e M N h1 h2 he=>?_⟩
   ·have:=s2.mem j M hM;rw[if_pos (pG hl hM)] at this;exact this
   ·have:=s2.fit j e M N h1 h2 he;rw[if_pos (pG hl h1),if_pos (pG hl h2)] at this;exact this
end
theorem zjk{k:Nat}{i:Int}:W (call aq T (k+1) true 0 [.d (.int i)]) [] λv s=>v=.d (.bl true):=W.eq (a:=.d (.bl true)) (s':=[]) rfl rfl
theorem Tf{k:Nat}{a b:D}:W (call aq T (k+1) true 2 [.d (.tup [a,b]),.d (.int 2)]) [] λv s=>v=.d (.bl true):=W.eq (a:=.d (.bl true)) (s':=[]) rfl rfl
theorem fu{k:Nat}{i a b:Int}:W (call aq T (k+2) true 1 [.d (.int i),.d (.int a),.d (.int b)]) [] λv s=>v=.d (.bl (decide (a<=i/\i<=b))):=by
 refine W.call T_1 rfl ?_;unfold b1;refine Y ?_;refine W.c0 zjk ?_;refine Y ?_;refine W.ite (λh1=>?_) (λh1=>?_)
 ·refine Y ?_;have:=j9 h1;simp[this]
 ·refine Y ?_;simp at h1;have:¬(a<=i/\i<=b):=by lia
  simp[this]
theorem zjO{k:Nat}{i:Int}(h1:1<=i)(h2:i<=8):W (call aq T (k+3) true 10 [.d (.int i)]) [] λv s=>v=.d (.bl true):=by
 refine W.call Zc rfl ?_;unfold b10;refine Y ?_;exact m8 rfl (fu.imp λv s e=>⟨_,e,by rw[iy (And.intro h1 h2)]⟩)
theorem zfF{k:Nat}{n i:Int}:W (call aq T (k+3) true 11 [.d (.int n),.d (.int i)]) [] λv s=>v=.d (.bl (decide (0<=i/\i<n))):=by
 refine W.call Zd rfl ?_;unfold Q7;refine Y ?_;exact m8 rfl (fu.imp λv s e=>⟨_,e,by rw[tG.mpr (show 0<=i/\i<=n-1↔0<=i/\i<n by lia)]⟩)
theorem zmJ{k:Nat}{n:Int}{p:Int×Int}(h:0<=p.1/\p.1<p.2/\p.2<n):W (call aq T (k+4) true 12 [.d (.int n),.d (fG p)]) [] λv s=>v=.d (.bl true):=by
 obtain⟨a,b⟩:=p;obtain⟨h1,h2,h3⟩:=h;unfold fG;dsimp only at h1 h2 h3 ⊢;refine W.call Ze rfl ?_;unfold Q8;refine Y ?_;refine W.c0 Tf ?_;refine Y ?_;refine W.c0 zfF ?_;rw[iy (show 0<=a/\a<n by lia)];refine Y ?_;refine W.c0 zfF ?_;rw[iy (show 0<=b/\b<n by lia)];refine Y ?_;rw[iy h2]
theorem zi3{k:Nat}{n:Int}{ps:List (Int×Int)}(h:Web n ps):W (call aq T (k+5) true 9 [.d (bR n ps)]) [] λv s=>v=.d (.bl true):=by
 refine W.call Zb rfl ?_;unfold b9 bR;have hl:(ps.map fG).length<=100:=by rw[cU];have:=h.len;have:=h.h8;lia
 have hs:(100:Nat)<=sizeLine:=by decide
 refine Y ?_;refine W.c0 Tf ?_;refine Y ?_;refine W.c0 (zjO h.h1 h.h8) ?_;refine Y ?_;refine Xw (c:=ps.map fG) (λ_=>.bl true) (by lia) ?_ (λx hx=>?_) ?_
 ·refine Y ?_;exact⟨rfl,rfl⟩
 ·obtain⟨p,hp,rfl⟩:=qz.mp hx;refine Y ?_;exact m8 rfl ((zmJ (h.tie p hp)).imp λv s e=>⟨_,e,rfl,rfl⟩)
 ·refine Y ?_;refine fO (Qy ?_) ?_
  ·intro x hx;obtain⟨_,_,e⟩:=qz.mp hx;exact e.symm
  refine Y ?_;refine Xw (c:=List.zipWith (λ(p q:D)=>D.tup [p,q]) (ps.map fG) ((ps.map fG).drop 1)) (λ_=>.bl true) (by rw[List.length_zipWith];lia) ?_ (λx hx=>?_) ?_
  ·refine Y ?_;rw[Qz];exact⟨rfl,rfl⟩
  ·obtain⟨p,q,rfl,hpq⟩:=Xz h.inc x hx;refine Y ?_;rw[zmi hpq];exact⟨rfl,rfl⟩
  ·refine Y ?_;refine fO (Qy ?_) ?_
   ·intro x hx;obtain⟨_,_,e⟩:=qz.mp hx;exact e.symm
   rfl
theorem K8{k:Nat}{n:Int}{ps:List (Int×Int)}(h:Web n ps):W (call aq T (k+6) true 13 [.d (bR n ps)]) [] λv s=>∃d,v=.d d:=by
 refine W.call Zf rfl ?_;unfold Q9;refine Y ?_;refine W.c0 (zi3 h) ?_;refine Y ?_;exact⟨_,rfl⟩
theorem zgR{k':Nat}{k d:Int}(hd:1<=d)(wZ:d<=k)(hk:k<=24):W (call aq T (k'+3) true 3 [.d (aL k d)]) [] λv s=>v=.d (.bl true):=by
 refine W.call Y7 rfl ?_;unfold b3 aL;refine Y ?_;refine W.c0 Tf ?_;refine Y ?_;refine W.c0 fu ?_;rw[iy (show 1<=k/\k<=24 by lia)];refine Y ?_;refine W.c0 fu ?_;rw[iy (show 1<=d/\d<=k by lia)]
theorem HF{k':Nat}{k d:Int}(hd:1<=d)(wZ:d<=k)(hk:k<=24):W (call aq T (k'+4) true 6 [.d (aL k d)]) [] λv s=>∃d,v=.d d:=by
 refine W.call Y_ rfl ?_;unfold b6;refine Y ?_;refine W.c0 (zgR hd wZ hk) ?_;refine Y ?_;exact⟨_,rfl⟩
theorem zd3{k':Nat}{k d x:Int}:W (call aq T (k'+3) true 5 [.d (aL k d),.d (.int x)]) [] λv s=>v=.d (.bl (decide (0<=x/\x<k))):=by
 refine W.call Y9 rfl ?_;unfold b5 aL;refine Y ?_;exact m8 rfl (fu.imp λv s e=>⟨_,e,by rw[tG.mpr (show 0<=x/\x<=k-1↔0<=x/\x<k by lia)]⟩)
theorem lJ{k':Nat}{k d a b:Int}:W (call aq T (k'+1) true 8 [.d (aL k d),.d (.int a),.d (.int b)]) [] λv s=>v=.d (.int (cB k a b)):=W.eq (a:=.d (.int (cB k a b))) (s':=[]) rfl rfl
section
variable {n k d:Int}{ps:List (Int×Int)}
theorem zdi{k':Nat}(h:Web n ps)(hd:1<=d)(wZ:d<=k)(hk:k<=24)(hz:1+cnt k.toNat (n.toNat-1)+cnt k.toNat (n.toNat-1)+tot k.toNat (n.toNat-1)<sizeLine):W (call aq T (k'+40) true 33 [.d (bR n ps),.d (aL k d)]) [] λv s=>(v=.d .non/\∀hs,¬dH n k d ps hs)\/∃hs,v=.d (.tup (hs.map .int))/\dH n k d ps hs/\∀g,dH n k d ps g->Ge g hs:=by
 refine W.call ZD rfl ?_;unfold Rx;have qO:(100:Nat)<=sizeLine:=by decide
 have h1:=h.h1;have h8:=h.h8;refine Y ?_;refine W.c1 (K8 h) λ_=>?_;refine Y ?_;refine W.c1 (HF hd wZ hk) λ_=>?_;refine Y ?_;refine W.c0 (ziE h hd wZ hk) ?_;refine Y ?_;refine pC (l:=List.range (n-0).toNat) (f:=λ(j:Nat)=>.int (0+j)) (λ(_:Nat)=>some (bA (some (fX k.toNat)))) (by rw[pI];lia) ?_ (λj hj=>?_) ?_
 ·unfold bR;refine Y ?_;refine⟨by rw[lO (by lia) (by lia),lO (by lia) (by lia)];rfl,?_⟩;exact⟨rfl,rfl⟩
 ·refine Y ?_;refine⟨rfl,λ_=>?_,λhb=>by cases hb⟩;refine Y ?_;exact⟨rfl,_,rfl,rfl⟩
 ·have ef:(List.range (n-0).toNat).filterMap (λ(_:Nat)=>some (bA (some (fX k.toNat))))=(iw n k).map bA:=by
   rw[ud,show n-0=n by lia];unfold iw;rw[List.map_replicate];rw[List.map_const',pI]
  rw[ef];refine Y ?_;have lv:k'+39=3*n.toNat+5+(k'+34-3*n.toNat):=by lia
  refine m8 rfl ?_;show W (Mi.call aq T (k'+39) true _ _) _ _;rw[lv];have B:=zlS h hd hk;have lH:1<=k.toNat:=by lia
  have dI:∀t a b:Int,0<=a->a<(k.toNat:Nat)->0<=b->b<(k.toNat:Nat)->cQ k d ((a+t)%(k.toNat:Nat)) ((b+t)%(k.toNat:Nat))=cQ k d a b:=λt a b a0 ak b0 bk=>by rw[show ((k.toNat:Nat):Int)=k by lia] at *;exact YQ hd t a b a0 ak b0 bk
  obtain⟨m,hm⟩ : ∃m,n.toNat=m+1:=⟨n.toNat-1,by lia⟩;have em:n.toNat-1=m:=by lia
  have FW:unset (iw n k)<=m+1:=by
   have:=(Ku (n:=n) hk).len;rw[<-hm,<-this];exact List.countP_le_length
  have al:∀(i:Nat) L,(iw n k)[i]?=some (some L)->L=fX k.toNat:=λi L e=>(Hs e).2;have eb:(iw n k).all (BK k.toNat)=true:=jx.mpr λc hc=>by rw[List.eq_of_mem_replicate hc];exact iy rfl
  rw[em] at hz;refine(ziR (c0:=1+cnt k.toNat m) (c1:=cnt k.toNat m) B lH dI (Ku hk) (λi hi=>⟨_,Ks hi⟩) (by rw[em];exact hz) ?_ (λkvs L hL qw ha hl=>?_)).imp λv s=>?_
  ·rw[hm];have:=zg3 (m:=m) (j:=k'+34-3*(m+1)) (kvs:=[]) B lH dI (Ku hk) FW eb (λF d e=>by cases e) (by simp;lia);rw[hm] at this;simpa using this
  ·have e:=al 0 L hL;subst e;refine zjM B lH dI ?_ (Ku hk) FW al hL qw ha (by lia);rw[show 3*n.toNat+1+(k'+34-3*n.toNat)+2=3*m+4+(k'+33-3*m) by lia];exact K6 B lH dI m _
  rintro(⟨rfl,uI⟩|⟨hs,rfl,hl,Ti,Py⟩)
  ·refine⟨_,rfl,?_⟩;refine Y ?_;exact .inl ⟨rfl,λhs hh=>uI ⟨_,YS h hd hh⟩⟩
  ·refine⟨_,rfl,?_⟩;refine Y ?_;refine .inr ⟨hs,rfl,zhl h hl Ti,λg hg j hj ha=>?_⟩;exact Py _ (YS h hd hg) j (by lia) ha
end
theorem zjN{k':Nat}{xs:List D}{n:Int}(h:(xs.length:Int)=n):W (call aq T (k'+1) true 2 [.d (.tup xs),.d (.int n)]) [] λv s=>v=.d (.bl true):=by
 refine W.call Y6 rfl ?_;unfold b2;refine Y ?_;simp[h]
section
variable {n k d:Int}{ps:List (Int×Int)}{hs:List Int}
theorem Tj{k':Nat}(hn:n<=8)(hl:(hs.length:Int)=n)(pQ:∀x∈hs,0<=x/\x<k):W (call aq T (k'+4) true 21 [.d (bR n ps),.d (aL k d),.d (.tup (hs.map .int))]) [] λv s=>v=.d (.bl true):=by
 refine W.call Zo rfl ?_;unfold Rj bR;have qO:(100:Nat)<=sizeLine:=by decide
 refine Y ?_;refine W.c0 (zjN (by rw[cU];exact hl)) ?_;refine Y ?_;refine pC (l:=hs) (f:=D.int) (λ_=>some (.bl true)) (by lia) ?_ (λx hx=>?_) ?_
 ·refine Y ?_;exact⟨rfl,rfl⟩
 ·refine Y ?_;refine⟨rfl,λ_=>?_,λhb=>by cases hb⟩;refine Y ?_;refine W.c0 zd3 ?_;rw[iy (pQ x hx)];exact⟨rfl,_,rfl,rfl⟩
 ·refine Y ?_;refine fO (Qy ?_) ?_
  ·intro x hx;obtain⟨_,_,e⟩:=zW.mp hx;exact(cj e).symm
  exact Y trivial
theorem zhX{k':Nat}(h:Web n ps)(hh:dH n k d ps hs):W (call aq T (k'+2) true 24 [.d (bR n ps),.d (aL k d),.d (.tup (hs.map .int))]) [] λv s=>v=.d .non:=by
 refine W.call RV rfl ?_;unfold Ky;have hl:=hh.len;have er:aL k d=.tup [.int k,.int d]:=rfl;refine Y ?_;refine Br (λi J s=>s=[]/\∃(a b:Option Xv),J=[some (.d (bR n ps)),some (.d (aL k d)),some (.d (.tup (hs.map .int))),a,b]) ⟨rfl,_,_,rfl⟩ (λi x J s e hI=>?_) (λJ s hI=>?_)
 ·obtain⟨rfl,a,b,rfl⟩:=hI;have hm:=fB e;obtain⟨p,hp,rfl⟩:=qz.mp hm;have ht:=h.tie p hp;have hf:=hh.fit p hp;obtain⟨a,b⟩:=p;dsimp only at ht hf;refine Y ?_;refine fO (GP (by lia) (by lia)) ?_;refine Y ?_;refine fO (GP (by lia) (by lia)) ?_;refine Y ?_;refine W.c0 lJ ?_;unfold aL;refine Y ?_;rw[pJ (by lia)];refine Y ?_;exact⟨_,rfl,rfl,_,_,rfl⟩
 ·obtain⟨rfl,a,b,rfl⟩:=hI;exact Y trivial
theorem zfK{k':Nat}(h:Web n ps)(hh:dH n k d ps hs):W (call aq T (k'+5) true 22 [.d (bR n ps),.d (aL k d),.d (.tup (hs.map .int))]) [] λv s=>v=.d (.bl true):=by
 refine W.call RT rfl ?_;unfold Kw;refine Y ?_;refine W.c0 (Tj h.h8 hh.len hh.lo) ?_;refine Y ?_;refine W.c0 (zhX h hh) ?_;refine Y ?_;rfl
theorem zcU{k':Nat}(h:Web n ps)(hd:1<=d)(wZ:d<=k)(hk:k<=24)(hh:dH n k d ps hs):W (call aq T (k'+7) true 23 [.d (bR n ps),.d (aL k d),.d (.tup (hs.map .int))]) [] λv s=>∃d,v=.d d:=by
 refine W.call Zq rfl ?_;unfold Rm;refine Y ?_;refine W.c1 (K8 h) λ_=>?_;refine Y ?_;refine W.c1 (HF hd wZ hk) λ_=>?_;refine Y ?_;refine W.c0 (zfK h hh) ?_;refine Y ?_;exact⟨_,rfl⟩
end
section
variable {n k d m:Int}{ps:List (Int×Int)}{hs:List Int}
theorem zei{k':Nat}(h:Web n ps)(hl:(hs.length:Int)=n):W (call aq T (k'+2) true 24 [.d (bR n ps),.d (aL k d),.d (.tup (hs.map .int))]) [] λv s=>v=.d (vJ k d ps hs):=by
 refine W.call RV rfl ?_;unfold Ky;refine Y ?_;refine QB (λi J s=>s=[]/\(∃(a b:Option Xv),J=[some (.d (bR n ps)),some (.d (aL k d)),some (.d (.tup (hs.map .int))),a,b])/\mY k d (ps.take i) hs=[]) ⟨rfl,⟨_,_,rfl⟩,rfl⟩ (λi x J s e hI=>?_) (λJ s hI=>?_)
 ·obtain⟨rfl,⟨a,b,rfl⟩,hI⟩:=hI;rw[gU,jZ] at e;obtain⟨p,ep,rfl⟩:=e;have ht:=h.tie p (fB ep);obtain⟨p1,p2⟩:=p;dsimp only at ht;refine Y ?_;refine fO (GP (by lia) (by lia)) ?_;refine Y ?_;refine fO (GP (by lia) (by lia)) ?_;refine Y ?_;refine W.c0 lJ ?_;unfold aL;refine Y ?_;have et:ps.take (i+1)=ps.take i++[(p1,p2)]:=by rw[Ir,ep];rfl
  have ec:mY k d (ps.take (i+1)) hs=if cB k (at' hs p1) (at' hs p2)<d then [(p1,p2)] else []:=by
   unfold mY at hI ⊢;rw[et,List.filter_append,hI,List.nil_append,List.filter_cons];simp only[List.filter_nil,Ce]
  refine WS.ite (λhb=>?_) (λhb=>?_)
  ·have hb:=j9 hb;rw[if_pos hb] at ec;refine Y ?_;refine .inr ⟨_,rfl,?_⟩;have:mY k d ps hs=(p1,p2)::mY k d (ps.drop (i+1)) hs:=by
    have e1:ps=ps.take (i+1)++ps.drop (i+1):=(List.take_append_drop ..).symm;unfold mY at ec ⊢
    conv=>lhs;rw[e1,List.filter_append,ec]
    rfl
   unfold vJ;rw[this];rfl
  ·have hb:¬cB k (at' hs p1) (at' hs p2)<d:=λz=>hb (iy z);rw[if_neg hb] at ec;refine Y ?_;exact .inl ⟨_,rfl,rfl,⟨_,_,rfl⟩,ec⟩
 ·obtain⟨rfl,⟨a,b,rfl⟩,hI⟩:=hI;rw[cU,Ab] at hI;refine Y ?_;unfold vJ;rw[hI]
theorem Tn{k':Nat}(h:Web n ps)(hr:1<=d/\d<=k/\k<=24)(hl:(hs.length:Int)=n)(pQ:∀x∈hs,0<=x/\x<k):W (call aq T (k'+8) true 16 [.d (bR n ps),.d (aL k d),.d (.tup (hs.map .int))]) [] λv s=>v=.d (.bl (decide (mY k d ps hs=[]))):=by
 have key:∀kk,W (call aq T (kk+5) true 22 [.d (bR n ps),.d (aL k d),.d (.tup (hs.map .int))]) [] λv s=>v=.d (.bl (decide (mY k d ps hs=[]))):=λkk=>by
  refine W.call RT rfl ?_;unfold Kw;refine Y ?_;refine W.c0 (Tj h.h8 hl pQ) ?_;refine Y ?_;refine W.c0 (zei h hl) ?_;refine Y ?_;show Xv.d (.bl (vJ k d ps hs).mH)=_;rw[Y5]
 refine W.call Zi rfl ?_;unfold Rb;refine Y ?_;refine W.c1 (K8 h) λ_=>?_;refine Y ?_;refine W.c1 (HF hr.1 hr.2.1 hr.2.2) λ_=>?_;refine Y ?_;exact m8 rfl ((key _).imp λv s e=>⟨_,e,rfl⟩)
theorem zfd{k':Nat}(h:Web n ps)(hr:1<=d/\d<=k/\k<=24)(hh:dH n k d ps hs):W (call aq T (k'+8) true 16 [.d (bR n ps),.d (aL k d),.d (.tup (hs.map .int))]) [] λv s=>v=.d (.bl true):=by
 have:=Tn (k':=k') h hr hh.len hh.lo;rw[iy (Y4 hh)] at this;exact this
theorem zdW{k':Nat}(h:Web n ps)(hr:1<=d/\d<=k/\k<=24)(hl:(hs.length:Int)=n)(pQ:∀x∈hs,0<=x/\x<k):W (call aq T (k'+8) true 19 [.d (bR n ps),.d (aL k d),.d (.tup (hs.map .int))]) [] λv s=>v=.d (vJ k d ps hs):=by
 refine W.call Zm rfl ?_;unfold Rh;refine Y ?_;refine W.c1 (K8 h) λ_=>?_;refine Y ?_;refine W.c1 (HF hr.1 hr.2.1 hr.2.2) λ_=>?_;refine Y ?_;refine W.c0 (Tj h.h8 hl pQ) ?_;refine Y ?_;exact m8 rfl ((zei h hl).imp λv s e=>⟨_,e,rfl⟩)
theorem K9{k':Nat}(h:Web n ps)(hr:1<=d/\d<=k/\k<=24)(hh:dH n k d ps hs):W (call aq T (k'+9) true 17 [.d (bR n ps),.d (aL k d),.d (.tup (hs.map .int)),.d (.int m)]) [] λv s=>v=.d (.tup ((cI k m hs).map .int)):=by
 refine W.call Zj rfl ?_;unfold Rf;have qO:(1000:Nat)<=sizeLine:=by decide
 have h8:=h.h8;have hl:=hh.len;have er:aL k d=.tup [.int k,.int d]:=rfl;refine Y ?_;refine W.c1 (zcU h hr.1 hr.2.1 hr.2.2 hh) λ_=>?_;refine Y ?_;refine pC (l:=hs) (f:=D.int) (λx=>some (.int ((x+m)%k))) (by lia) ?_ (λx hx=>?_) ?_
 ·refine Y ?_;exact⟨rfl,rfl⟩
 ·refine Y ?_;refine⟨rfl,λ_=>?_,λhb=>by cases hb⟩;refine Y ?_;exact⟨rfl,_,rfl,rfl⟩
 rw[ud];refine Y ?_;unfold cI;rw[qC];rfl
theorem Tq{k':Nat}(h:Web n ps)(hr:1<=d/\d<=k/\k<=24)(hh:dH n k d ps hs):W (call aq T (k'+9) true 18 [.d (bR n ps),.d (aL k d),.d (.tup (hs.map .int))]) [] λv s=>v=.d (.tup ((eE k hs).map .int)):=by
 have qO:(1000:Nat)<=sizeLine:=by decide
 have h8:=h.h8;have hl:=hh.len;have er:aL k d=.tup [.int k,.int d]:=rfl;have key:∀kk,W (call aq T (kk+1) true 20 [.d (aL k d),.d (.tup (hs.map .int))]) [] λv s=>v=.d (.tup ((eE k hs).map .int)):=λkk=>by
  refine W.call Zn rfl ?_;unfold Ri;refine Y ?_;refine pC (l:=hs) (f:=D.int) (λx=>some (.int (-x%k))) (by lia) ?_ (λx hx=>?_) ?_
  ·refine Y ?_;exact⟨rfl,rfl⟩
  ·refine Y ?_;refine⟨rfl,λ_=>?_,λhb=>by cases hb⟩;refine Y ?_;exact⟨rfl,_,rfl,rfl⟩
  rw[ud];refine Y ?_;unfold eE;rw[qC];rfl
 refine W.call Zk rfl ?_;unfold Rg;refine Y ?_;refine W.c1 (zcU h hr.1 hr.2.1 hr.2.2 hh) λ_=>?_;refine Y ?_;exact m8 rfl ((key _).imp λv s e=>⟨_,e,rfl⟩)
theorem Tr{k':Nat}{a b:Int}(hr:1<=d/\d<=k/\k<=24)(ha:0<=a/\a<k)(hb:0<=b/\b<k):W (call aq T (k'+5) true 4 [.d (aL k d),.d (.int a),.d (.int b)]) [] λv s=>v=.d (.int (cB k a b)):=by
 have key:∀kk x,0<=x/\x<k->W (call aq T (kk+4) true 7 [.d (aL k d),.d (.int x)]) [] λv s=>∃d,v=.d d:=λkk x hx=>by
  refine W.call Za rfl ?_;unfold b7;refine Y ?_;refine W.c0 zd3 ?_;rw[iy hx];refine Y ?_;exact⟨_,rfl⟩
 refine W.call Y8 rfl ?_;unfold b4;refine Y ?_;refine W.c1 (HF hr.1 hr.2.1 hr.2.2) λ_=>?_;refine Y ?_;refine W.c1 (key _ a ha) λ_=>?_;refine Y ?_;refine W.c1 (key _ b hb) λ_=>?_;refine Y ?_;exact m8 rfl (lJ.imp λv s e=>⟨_,e,rfl⟩)
end
def pH(o:SO):Prop:=∃a b:Int,o=.lst [.int a,.int b]/\0<=a/\(b=0\/b=1)
theorem HJ{k:Nat}{o:SO}{m:Int}(ho:pH o)(hm:0<m)(hm2:m<1073741824):W (call aq T (k+1) true 40 [.l 0,.d (.int m)]) [o] λv s=>∃d o',v=.d d/\s=[o']/\(∃r:Int,d=.int r/\0<=r/\r<m)/\pH o':=by
 obtain⟨a,b,rfl,ha,hb⟩:=ho;refine W.call ZL rfl ?_;unfold RJ;rcases hb with rfl|rfl
 ·refine Y ?_;exact⟨_,_,rfl,rfl,⟨_,rfl,xM _ (by lia),z_ _ hm⟩,⟨_,_,rfl,xM _ (by decide),.inl rfl⟩⟩
 ·refine Y ?_;exact⟨_,_,rfl,rfl,⟨_,rfl,xM _ (by lia),z_ _ hm⟩,⟨_,_,rfl,Int.ediv_nonneg ha (by lia),.inr rfl⟩⟩
theorem zl9{k:Nat}{n:Int}:W (call aq T (k+1) true 39 [.d (.int n)]) [] λv s=>∃i o,v=.l i/\s[i]?=some o/\pH o:=by
 refine W.call ZK rfl ?_;unfold RG;refine Y ?_;refine⟨0,_,rfl,rfl,⟨_,_,rfl,?_,?_⟩⟩
 ·split<;>lia
 ·have:∀c:Bool,(if c=true then (1:Int) else 0)=0\/(if c=true then (1:Int) else 0)=1:=by intro c;cases c<;>simp
  exact this _
theorem zO{k:Nat}{o:SO}{m:Int}{P:Xv->S->Prop}(ho:pH o)(hm:0<m)(hm2:m<1073741824)(h:∀(r:Nat) o',(r:Int)<m->pH o'->P (.d (.int r)) [o']):W (bZ (call aq T (k+1) true 40) [.l 0,.d (.int m)]) [o] P:=by
 refine Qs (n:=0) (o:=o) rfl rfl ((HJ ho hm hm2).imp λv s=>?_);rintro⟨d,o',rfl,rfl,⟨r,rfl,h0,h1⟩,hp⟩;obtain⟨n,rfl⟩:=BP h0;exact⟨_,_,rfl,rfl,h n o' h1 hp⟩
theorem zlq{k:Nat}{ns:List Int}:W (call aq T (k+1) true 38 [.d (.fl (ns.map D.int)),.d (.int 0)]) [] λv _=>∃n,v=.d (.int n):=by
 refine W.call ZJ rfl ?_;unfold RD;cases ns with
 |nil=>
  refine Y ?_;exact⟨_,rfl⟩
 |cons n r=>
  refine Y ?_;refine WS.ite (λ_=>?_) (λ_=>?_)
  ·refine Y ?_;refine fO (GC (i:=0) (x:=.int n) rfl) ?_;refine Y ?_;exact⟨_,rfl⟩
  ·refine Y ?_;exact⟨_,rfl⟩
theorem zlM{k:Nat}{o:SO}(ho:pH o):W (call aq T (k+2) true 41 [.l 0]) [o] λv s=>∃(n:Nat) (o':SO),v=.d (.int n)/\s=[o']/\(1<=n/\n<=8)/\pH o':=by
 refine W.call ZM rfl ?_;unfold RK;refine Y ?_;refine zO ho (by decide) (by decide) λr o' hr hp=>?_;refine Y ?_;have qb:r<12:=by lia
 refine fO (GC (x:=.int (([1,2,3,4,5,6,4,5,3,6,7,8]:List Nat)[r]'qb:Nat)) ?_) ?_
 ·revert qb;revert r;intro r _ qb;exact match r,qb with
  |0,_=>rfl|1,_=>rfl|2,_=>rfl|3,_=>rfl|4,_=>rfl|5,_=>rfl|6,_=>rfl|7,_=>rfl|8,_=>rfl|9,_=>rfl|10,_=>rfl|11,_=>rfl
  |n+12,h=>absurd h (by lia)
 ·refine Y ?_;refine⟨_,_,rfl,rfl,?_,hp⟩;have key:∀n∈([1,2,3,4,5,6,4,5,3,6,7,8]:List Nat),1<=n/\n<=8:=by decide
  exact key _ (List.getElem_mem _)
theorem zf2{k:Nat}{o:SO}{n:Int}(ho:pH o)(h1:1<=n)(h8:n<=8):W (call aq T (k+2) true 42 [.l 0,.d (.int n)]) [o] λv s=>∃ps o',v=.d (bR n ps)/\s=[o']/\Web n ps/\pH o':=by
 refine W.call ZP rfl ?_;unfold RL;have hs:(100:Nat)<=sizeLine:=by decide
 refine Y ?_;refine zO ho (by decide) (by decide) λr o' hr hp=>?_;refine Y ?_;have qb:r<3:=by lia
 refine fO (GC (x:=.int (([2,4,6]:List Int)[r]'qb)) ?_) ?_
 ·revert qb;revert r;intro r _ qb;exact match r,qb with
  |0,_=>rfl|1,_=>rfl|2,_=>rfl
  |n+3,h=>absurd h (by lia)
 generalize ([2,4,6]:List Int)[r]=often;refine Y ?_;refine⟨by rw[lO (by lia) (by lia),lO (by lia) (by lia)];rfl,?_⟩;refine Br (λ(i:Nat) J s=>∃(ps:List (Int×Int)) (a:Option Xv) (o':SO),J=[some (.l 0),some (.d (.int n)),some (.d (.int often)),some (.d (.fl (ps.map fG))),a]/\s=[o']/\pH o'/\(∀p∈ps,0<=p.1/\p.1<(i:Int)/\p.1<p.2/\p.2<n)/\ps.Pairwise lx/\ps.length<=7*i)
  ⟨[],_,_,rfl,rfl,hp,by simp,by simp,by simp⟩ (λi x J s e hI=>?_) (λJ s hI=>?_)
 ·obtain⟨ps,a,o',rfl,rfl,hp,ht,zP,hlen⟩:=hI;obtain⟨rfl,hi⟩:=XR e;have hi8:i<8:=by lia
  refine Y ?_;refine Xx (c:=iV (0+(i:Int)+1) n) (λ(j:Nat) acc s=>∃(es:List Int) (o':SO),acc=es.map (λe=>fG (0+(i:Int),e))/\es.Pairwise (·<·)/\(∀e∈es,(i:Int)<e/\e<(i:Int)+1+j)/\s=[o']/\pH o') ?_ (λj x acc s e hJ=>?_) (λacc s hJ=>?_)
  ·refine Y ?_;refine⟨by rw[lO (by lia) (by lia),lO (by lia) (by lia)];rfl,?_⟩;exact⟨rfl,[],_,rfl,by simp,by simp,rfl,hp⟩
  ·obtain⟨es,o',rfl,BL,xg,rfl,hp⟩:=hJ;obtain⟨rfl,hj⟩:=XR e;have hel:(es.length:Int)<=(i:Int)+1+j-((i:Int)+1):=zdt BL (λe he=>by have:=xg e he;lia) (by lia);refine Y ?_;refine zO hp (by decide) (by decide) λr o' hr hp=>?_;refine Y ?_;refine⟨λhb=>?_,λhb=>?_⟩
   ·refine Y ?_;refine⟨_,rfl,by rw[cU];lia,es++[0+(i:Int)+1+j],o',?_,?_,?_,rfl,hp⟩
    ·rw[xK];rfl
    ·rw[List.pairwise_append];refine⟨BL,by simp,λa ha b hb=>?_⟩;simp at hb;have:=xg a ha
     lia
    ·intro e he;rcases nj.mp he with he|he
     ·have:=xg e he;lia
     ·simp at he;lia
   ·exact⟨es,o',rfl,BL,λe he=>by have:=xg e he;lia,rfl,hp⟩
  ·obtain⟨es,o',rfl,BL,xg,rfl,hp⟩:=hJ;rw[X3] at xg;have hel:(es.length:Int)<=n-((i:Int)+1):=zdt BL (λe he=>by have:=xg e he;lia) (by lia);refine Y ?_;refine Gy (Xh ?_) ?_
   ·rw[cU,cU];lia
   refine Y ?_;refine⟨_,rfl,ps++es.map (λe=>(0+(i:Int),e)),some (.d (.int (0+(i:Int)))),o',?_,rfl,hp,?_,?_,?_⟩
   ·rw[xK,qC];rfl
   ·intro p hp;rcases nj.mp hp with hp|hp
    ·have:=ht p hp;lia
    ·obtain⟨e,he,rfl⟩:=qz.mp hp;have:=xg e he;dsimp only
     lia
   ·rw[List.pairwise_append,Lx];refine⟨zP,BL.imp λh=>.inr ⟨rfl,h⟩,λp hp q hq=>?_⟩;obtain⟨e,he,rfl⟩:=qz.mp hq;have:=ht p hp;exact .inl (by dsimp only;lia)
   ·rw[mZ,cU];lia
 ·obtain⟨ps,a,o',rfl,rfl,hp,ht,zP,hlen⟩:=hI;rw[X3] at ht hlen;refine Y ?_;refine pC (l:=ps) (f:=fG) (λp=>some (fG (n-1-p.2,n-1-p.1))) (by lia) ?_ (λp hpm=>?_) ?_
  ·refine Y ?_;exact⟨rfl,rfl⟩
  ·obtain⟨p1,p2⟩:=p;refine Y ?_;refine⟨rfl,λ_=>?_,λhb=>by cases hb⟩;refine Y ?_;exact⟨rfl,_,rfl,rfl⟩
  have nd:(ps.map λp=>(n-1-p.2,n-1-p.1)).Nodup:=by
   have:=zgD zP;unfold List.Nodup at this ⊢;rw[Lx];refine this.imp λ{p q} h e=>h ?_;obtain⟨p1,p2⟩:=p;obtain⟨q1,q2⟩:=q;simp only[Prod.mk.injEq] at e ⊢
   lia
  obtain⟨qs,es,wu,wz,hq3⟩:=zjq (by rw[cU];lia) nd;have e2:ps.filterMap (λp=>some (fG (n-1-p.2,n-1-p.1)))=(ps.map λp=>(n-1-p.2,n-1-p.1)).map fG:=by
   rw[ud,qC];rfl
  rw[e2];refine Y ?_;refine Gy (XJ es) ?_;refine Y ?_;rw[cU] at hq3;refine⟨qs,o',rfl,rfl,⟨h1,h8,λp hp=>?_,wu,by lia⟩,hp⟩;obtain⟨q,hq,rfl⟩:=qz.mp ((wz p).mp hp);have:=ht q hq;dsimp only
  lia
noncomputable def dX:List (Int×Int):=[(2,1),(3,1),(5,2),(4,1),(7,3),(7,2),(4,2),(6,2),(10,4),(5,1),(8,3),(3,2)]
theorem zjm{k':Nat}{o:SO}(ho:pH o):W (call aq T (k'+2) true 43 [.l 0]) [o] λv s=>∃(k d:Int) (o':SO),v=.d (aL k d)/\s=[o']/\(1<=d/\d<=k/\k<=10)/\pH o':=by
 refine W.call ZQ rfl ?_;unfold RM;refine Y ?_;refine zO ho (by decide) (by decide) λr o' hr hp=>?_;refine Y ?_;refine WS.ite (λ_=>?_) (λ_=>?_)
 ·refine Y ?_;refine zO hp (by decide) (by decide) λr2 o2 Tt Tv=>?_;refine Y ?_;have hk:1<=1+(r2:Int)%10/\1+(r2:Int)%10<=10:=by lia
  generalize 1+(r2:Int)%10=k at hk;refine zO Tv (by lia) (by lia) λr3 o3 hr3 hp3=>?_;refine Y ?_;refine⟨_,_,_,rfl,rfl,?_,hp3⟩
  split<;>lia
 ·refine Y ?_;refine zO hp (by decide) (by decide) λr2 o2 Tt Tv=>?_;refine Y ?_;have qb:r2<dX.length:=by show r2<12;lia
  refine fO (GC (x:=aL dX[r2].1 dX[r2].2) ?_) ?_
  ·have:(dX.map λp=>aL p.1 p.2)[r2]?=some (aL dX[r2].1 dX[r2].2):=by rw[gU,dj qb];rfl
   exact this
  refine Y ?_;have key:∀p∈dX,1<=p.2/\p.2<=p.1/\p.1<=10:=by decide
  exact⟨_,_,_,rfl,rfl,key _ (List.getElem_mem _),Tv⟩
section
variable {n:Int}{ps:List (Int×Int)}
end
section
variable {n k d m:Int}{ps:List (Int×Int)}{hs:List Int}
theorem zha{k':Nat}(h:Web n ps)(hr:1<=d/\d<=k/\k<=24)(hh:dH n k d ps hs):W (call aq T (k'+10) true 44 [.d (bR n ps),.d (aL k d),.d (.tup (hs.map .int)),.d (.int m)]) [] λv s=>v=.d (.bl true):=by
 have er:aL k d=.tup [.int k,.int d]:=rfl;have ht:=Y0 (m:=m) h hr.1 (by lia) hh;have hm:=zf7 h hr.1 (by lia) hh;refine W.call ZR rfl ?_;unfold RN;refine Y ?_;refine W.c0 (K9 (k':=k') h hr hh) ?_;refine Y ?_;refine W.c0 (Tq (k':=k') h hr hh) ?_;refine Y ?_;refine W.c0 (zfd (k':=k'+1) h hr ht) ?_;refine Y ?_;refine W.c0 (zfd (k':=k'+1) h hr hm) ?_;refine Y ?_;refine W.c0 (K9 (k':=k') (m:=0-m) h hr ht) ?_;refine Y ?_;refine fO (Ho (f:=not)) ?_;rw[iy (zgn hh.lo)];refine Y ?_;refine W.c0 (Tq (k':=k') h hr hm) ?_;refine Y ?_;refine fO (Ho (f:=not)) ?_;rw[iy (zfE hh.lo)];refine Y ?_;refine W.c0 (K9 (k':=k') (m:=k) h hr hh) ?_;refine Y ?_;refine fO (Ho (f:=not)) ?_;rw[iy (zeR hh.lo)];refine Y ?_;refine W.c0 (zdW (k':=k'+1) h hr ht.len ht.lo) ?_;rw[vK.mpr (Y4 ht)];refine Y ?_;refine W.c0 (Tq (k':=k') h hr ht) ?_;refine Y ?_;refine W.c0 (K9 (k':=k') (m:=0-m) h hr hm) ?_;refine Y ?_;refine fO (Ho (f:=id)) ?_;rw[iy ze5];rfl
theorem zgW{k':Nat}{a b:Int}(hr:1<=d/\d<=k/\k<=24)(ha:0<=a/\a<k)(hb:0<=b/\b<k):W (call aq T (k'+6) true 45 [.d (aL k d),.d (.int a),.d (.int b)]) [] λv s=>v=.d (.bl true):=by
 have er:aL k d=.tup [.int k,.int d]:=rfl;refine W.call ZS rfl ?_;unfold RP;refine Y ?_;refine W.c0 (Tr (k':=k') hr ha hb) ?_;refine Y ?_;refine W.c0 (Tr (k':=k') hr hb ha) ?_;rw[ziO k b a];refine Y ?_;refine W.GD (by simp) ?_;refine Y ?_;refine W.c0 (Tr (k':=k') hr ha ha) ?_;rw[zgz (by lia)];refine Y ?_;have g1:=zhn ha.1 ha.2 hb.1 hb.2;have g2:=zg6 ha.1 ha.2 hb.1 hb.2;refine W.Ka (iy g1.1) ?_;refine Y ?_;rw[iy g1.2];refine Y ?_;show Xv.d (.bl (id ((cB k a b==0)==(a==b))))=_
 congr 2
 have e:(cB k a b==0)=(a==b):=by
  by_cases c:a=b
  ·rw[m5.mpr c,m5.mpr (g2.mpr c)]
  ·rw[vM.mpr c,vM.mpr λz=>c (g2.mp z)]
 rw[e];exact xH _
end
theorem small{n k:Int}(h1:1<=n)(hk:1<=k)(h7:n<=8)(aae:k<=10)(h:n=8->k<=7):1+cnt k.toNat (n.toNat-1)+cnt k.toNat (n.toNat-1)+tot k.toNat (n.toNat-1)<sizeLine:=by
 by_cases c:n=8
 ·have:=Q6 (k:=k.toNat) (k2:=7) (m:=n.toNat-1) (m2:=7) (by have:=h c;lia) (by lia);have:=YT (k:=k.toNat) (k2:=7) (m:=n.toNat-1) (m2:=7) (by have:=h c;lia) (by lia);have e:1+cnt 7 7+cnt 7 7+tot 7 7<sizeLine:=by decide
  lia
 ·have:=Q6 (k:=k.toNat) (k2:=10) (m:=n.toNat-1) (m2:=6) (by lia) (by lia);have:=YT (k:=k.toNat) (k2:=10) (m:=n.toNat-1) (m2:=6) (by lia) (by lia);have e:1+cnt 10 6+cnt 10 6+tot 10 6<sizeLine:=by decide
  lia
theorem ziq{n k d:Int}{ps:List (Int×Int)}{hs:List Int}(h:Web n ps)(hd:1<=d)(hk:1<=k)(hh:dH n k d ps hs)(hg:∀g,dH n k d ps g->Ge g hs):at' hs 0=0:=by
 have h1:=h.h1;have hl:=hh.len;have h0:=hh.lo _ (Bs (fs:=hs) (j:=0) (by lia) (by lia));have ht:=Y0 (m:=-(at' hs 0)) h hd hk hh;have:=hg _ ht 0 (by lia) (λi hi=>absurd hi (by lia));have e1:at' hs ((0:Nat):Int)=at' hs 0:=rfl;have e2:at' (cI k (-(at' hs 0)) hs) ((0:Nat):Int)=at' (cI k (-(at' hs 0)) hs) 0:=rfl;rw[e1,e2] at this;unfold cI at this;rw[GQ (by lia) (by lia),show at' hs 0 + -(at' hs 0)=0 by lia] at this;have e3:(0:Int)%k=0:=Int.zero_emod k
 lia
theorem sX(ns:List Int)(hn:ns.length<=63):∃s',call aq T 60 true 46 [.d (.fl (ns.map D.int))] []=some (.ok (.d (.bl true)),s'):=by
 suffices h:W (call aq T 60 true 46 [.d (.fl (ns.map D.int))]) [] λv _=>v=.d (.bl true) by
  obtain⟨v,s',e,rfl⟩:=h;exact⟨s',e⟩
 have hs:(1000:Nat)<=sizeLine:=by decide
 refine W.call (k:=59) ZV rfl ?_;unfold RQ;refine Y ?_;refine m8 rfl ((zlq (k:=58)).imp λv _=>?_);rintro⟨n0,rfl⟩;refine⟨_,rfl,?_⟩;refine Y ?_;refine Gy (Xh ?_) ?_
 ·have:=zjE (ns:=ns) (lo:=some 1) (hi:=some 5);show 1+_<=_
  lia
 refine Y ?_;refine Br (λ_ J s=>∃(a b c d e f g:Option Xv),J=[some (.d (.fl (ns.map D.int))),a,b,c,d,e,f,g]) ⟨_,_,_,_,_,_,_,rfl⟩ (λi x J s hx zQ=>?_) (λJ s zQ=>?_)
 ·obtain⟨m,rfl⟩ : ∃m,x=.int m:=by
   rcases nj.mp (fB hx) with z|z
   ·rcases jd.mp z with rfl|z
    ·exact⟨_,rfl⟩
    ·cases z
   ·exact zju z
  obtain⟨a,b,c,d,e,f,g,rfl⟩:=zQ;refine Y ?_;refine Kan rfl ((zl9 (k:=58)).imp λv s1=>?_);rintro⟨j,o,rfl,hj,hp⟩;refine⟨j,o,rfl,hj,?_⟩;refine Y ?_;refine pD rfl ((zlM (k:=57) hp).imp λv s1=>?_);rintro⟨z,o1,rfl,rfl,⟨hz1,hz8⟩,hp⟩;refine⟨_,_,rfl,rfl,?_⟩;refine Y ?_;refine pD rfl ((zf2 (k:=57) hp (n:=z) (by lia) (by lia)).imp λv s1=>?_);rintro⟨ps,o2,rfl,rfl,hw,hp⟩;refine⟨_,_,rfl,rfl,?_⟩;refine Y ?_;refine pD rfl ((zjm (k':=57) hp).imp λv s1=>?_);rintro⟨kk,dd,o3,rfl,rfl,hr,hp⟩;refine⟨_,_,rfl,rfl,?_⟩;have ew:bR z ps=.tup [.int z,.tup (ps.map fG)]:=rfl;have er:aL kk dd=.tup [.int kk,.int dd]:=rfl;refine Xk (Qq (Qq (Xg (W.dat (sG.mk rfl ?_)))));refine Ka7 (λJ s'=>∃kk dd:Int,(1<=dd/\dd<=kk/\kk<=10)/\((z:Int)=8->kk<=7)/\s'=s++[o3]/\J=[some (.d (.fl (ns.map D.int))),some (.d (.int m)),some (.l s.length),some (.d (bR z ps)),some (.d (aL kk dd)),e,f,g]) ?_ (λJ s' hR=>?_)
  ·refine Y ?_;refine W.ite (λh8=>?_) (λh8=>?_)
   ·refine Y ?_;refine WS.ite (λh7=>?_) (λh7=>?_)
    ·refine Y ?_;exact⟨_,rfl,7,3,by decide,λ_=>by decide,rfl,rfl⟩
    ·refine Y ?_;exact⟨_,rfl,kk,dd,hr,λ_=>by have:¬kk>7:=λz=>h7 (iy z);lia,rfl,rfl⟩
   ·refine Y ?_;exact⟨_,rfl,kk,dd,hr,λz8=>absurd (by simpa using z8) h8,rfl,rfl⟩
  ·clear hr er kk dd;obtain⟨kk,dd,hr,h7,rfl,rfl⟩:=hR;have er:aL kk dd=.tup [.int kk,.int dd]:=rfl;have sY:1<=dd/\dd<=kk/\kk<=24:=by lia
   refine Y ?_;refine Xx (c:=(List.range ((z:Int)-0).toNat).map λ(j:Nat)=>.int (0+j)) (λi acc s'=>∃(o:SO) (ds:List Int),s'=s++[o]/\pH o/\acc=ds.map .int/\ds.length=i/\∀x∈ds,0<=x/\x<kk) ?_ (λi x acc s' e hI=>?_) (λacc s' hI=>?_)
   ·refine Y ?_;refine⟨by rw[lO (by lia) (by lia),lO (by lia) (by lia)];rfl,?_⟩;exact⟨rfl,o3,[],rfl,hp,rfl,rfl,by simp⟩
   ·obtain⟨o,ds,rfl,hp,rfl,hl,pQ⟩:=hI;have hi:=(eO.mp e).1;rw[cU,pI] at hi;refine Y ?_;refine⟨λ_=>?_,λhb=>by cases hb⟩;refine Y ?_;refine pD rfl ((HJ (k:=58) hp (m:=kk) (by lia) (by lia)).imp λv s1=>?_);rintro⟨_,o4,rfl,rfl,⟨r,rfl,Tw,Tz⟩,hp⟩;refine⟨_,_,rfl,rfl,?_⟩;refine⟨_,rfl,by rw[cU];lia,o4,ds++[r],rfl,hp,by rw[xK];rfl,by simp[hl],λx hx=>?_⟩;rcases nj.mp hx with hx|hx
    ·exact pQ x hx
    ·rw[Cd.mp hx];exact⟨Tw,Tz⟩
   obtain⟨o,ds,rfl,hp,rfl,hl,pQ⟩:=hI;rw[cU,pI] at hl;have hl:(ds.length:Int)=z:=by lia
   refine Y ?_;refine W.c0 (Tn (k':=51) hw sY hl pQ) ?_;refine Y ?_;refine W.c0 (zdW (k':=51) hw sY hl pQ) ?_;refine Y ?_;refine WS.GD (by rw[Y5];simp) ?_;refine Y ?_;refine pD rfl ((HJ (k:=58) hp (m:=kk) (by lia) (by lia)).imp λv s1=>?_);rintro⟨_,o4,rfl,rfl,⟨r1,rfl,Tw,Tz⟩,hp⟩;refine⟨_,_,rfl,rfl,?_⟩;refine Y ?_;refine pD rfl ((HJ (k:=58) hp (m:=kk) (by lia) (by lia)).imp λv s1=>?_);rintro⟨_,o5,rfl,rfl,⟨r2,rfl,Tt,hr3⟩,hp⟩;refine⟨_,_,rfl,rfl,?_⟩;refine Y ?_;refine W.c0 (zgW (k':=53) sY ⟨Tw,Tz⟩ ⟨Tt,hr3⟩) ?_;refine Y ?_;refine m8 rfl ((zdi (k':=19) hw hr.1 hr.2.1 (by lia) (small (by lia) (by lia) (by lia) (by lia) h7)).imp λv s1 hv=>?_);rcases hv with ⟨rfl,uI⟩|⟨hf,rfl,hh,hg⟩
   ·refine⟨_,rfl,?_⟩;refine Y ?_;refine W.c0 (Tn (k':=51) hw sY hl pQ) ?_;rw[pJ (λz=>uI ds (zjc hl pQ z))];refine Y ?_;exact⟨_,rfl,_,_,_,_,_,_,_,rfl⟩
   ·refine⟨_,rfl,?_⟩;refine Y ?_;refine pD rfl ((HJ (k:=58) hp (m:=60) (by lia) (by lia)).imp λv s1=>?_);rintro⟨_,o6,rfl,rfl,⟨r3,rfl,hr4,hr5⟩,hp⟩;refine⟨_,_,rfl,rfl,?_⟩;have hfl:=hh.len;refine Y ?_;refine fO (GP (by lia) (by lia)) ?_;rw[ziq hw hr.1 (by lia) hh hg];refine Y ?_;refine W.c0 (zha (k':=49) hw sY hh) ?_;refine Y ?_;exact⟨_,rfl,_,_,_,_,_,_,_,rfl⟩
 ·obtain⟨a,b,c,d,e,f,g,rfl⟩:=zQ;exact Y trivial
end dM
open PySem PySem.W PyProof.Rows
set_option maxRecDepth 100000 in
set_option maxHeartbeats 0 in
theorem PySem.Challenge.cw_ringhues_k07_whole_hues_and_clashes_holds : PySem.Challenge.rw_ringhues_k07_whole_hues_and_clashes.Holds := by
 refine PySem.W.holds_law dM.ws λsaid=>?_;refine holds_open (q:=dM.qv) (loose:=dM.loose) (Xt:=λs=>xlAt dM.qv [] s&&recOk [] s) (XP:=XL dM.qv []) (Yf:=(Mi.jY dM.fs dM.ms dM.xs dM.lk dM.bd).obs) (Ya:=(Mi.jY dM.fs dM.ms dM.xs dM.lk dM.bd).val) (YP:=(Mi.jY dM.fs dM.ms dM.xs dM.lk dM.bd).says) (N:=20000) dM.left (Mi.jY dM.fs dM.ms dM.xs dM.lk dM.bd).of (Mi.jY dM.fs dM.ms dM.xs dM.lk dM.bd).keeps (λs e=>xl_of s (Bool.and_eq_true_iff.mp e).1) XL.keeps (by rfl) (by rfl) (by rfl) (λs e=>recFacts_of (Bool.and_eq_true_iff.mp e).2) (by rfl) (by first|assumption|decide +kernel) (by decide +kernel) ⟨rfl,rfl,rfl,rfl,rfl,by decide +kernel⟩ ?hw ?hc
 case hw=>w_witness2
 case hc=>exact Mi.G9 (l:=PySem.Challenge.rw_ringhues_k07_whole_hues_and_clashes) (x:="_law_script") (k:=60) rfl rfl ⟨by decide,by decide,rfl⟩ (λw K mg fa h S X G Td=>dM.all_mk dM.sX S X G Td)
