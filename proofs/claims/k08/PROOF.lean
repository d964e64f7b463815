import PyProof.Rows.All
import Wide.All
import OpenK.AllK
import PySem.Challenge.RW_ringhues_k08_whole_longer_rings
set_option compiler.extract_closed false
abbrev aC:=@PySem.wpAny_bind
abbrev cG:=@PySem.Heap.get?_push_of_some
abbrev cT:=@List.getElem?_eq_getElem
abbrev dX:=@List.getElem?_eq_some_iff
abbrev aO:=@PySem.wpAny_pure
abbrev bV:=@List.length_map
abbrev cD:=@Option.some.inj
abbrev bI:=@Nat.le_refl
abbrev eZ:=@List.mem_of_getElem?
abbrev jh:=@List.getD_eq_getElem?_getD
abbrev bR:=@PySem.Heap.lt_size
abbrev fj:=@PySem.Heap.get?_push_size
abbrev eG:=@List.size_toArray
abbrev gW:=@List.mem_cons_of_mem
abbrev gY:=@Nat.lt_of_lt_of_le
abbrev gD:=@List.getElem?_map
abbrev fZ:=@List.length_cons
abbrev gA:=@Bool.and_eq_true
abbrev j_:=@Option.map_eq_some_iff
abbrev dJ:=@Nat.ne_of_lt
abbrev nq:=@List.getElem?_append_left
abbrev oE:=@List.getElem?_append_right
abbrev gF:=@decide_eq_true
abbrev ji:=@List.all_eq_true
abbrev oF:=@List.getElem?_eq_none_iff
abbrev gG:=@List.mem_cons
abbrev kh:=@List.mem_cons_self
abbrev jN:=@of_decide_eq_true
abbrev lV:=@List.length_append
abbrev jF:=@decide_eq_false
abbrev uh:=@PyProof.Rows.slot_tuple_getitem
abbrev iU:=@List.map_cons
abbrev m9:=@Int.toNat_natCast
abbrev nu:=@List.length_range
abbrev qx:=@List.getElem?_set_ne
abbrev oG:=@PySem.wpAny_newObj_type
abbrev nA:=@List.lookup_cons
abbrev jO:=@Nat.le_trans
abbrev nD:=@List.mem_append
abbrev sY:=@List.mem_append_right
abbrev nF:=@List.length_set
abbrev jB:=@PySem.wpAny_field
abbrev uo:=@PySem.Heap.get?_update_other
abbrev xK:=@PyProof.Rows.callWith_type1
abbrev vQ:=@PySem.wpAny_callSpecial?_slot
abbrev vR:=@Int.eq_ofNat_of_zero_le
abbrev vU:=@List.getElem?_set_self
abbrev uq:=@Array.length_toList
abbrev pN:=@PySem.wpAny_seqItems
abbrev oH:=@Nat.lt_irrefl
abbrev sZ:=@PySem.wpAny_truthy_bool
abbrev xM:=@List.getElem?_replicate
abbrev tu:=@Nat.lt_succ_of_lt
abbrev xO:=@Option.bind_eq_some_iff
abbrev pO:=@PySem.wpAny_holding
abbrev tD:=@decide_eq_decide
abbrev vV:=@List.getElem_of_mem
abbrev lO:=@PySem.wpAny_mono
abbrev xP:=@PySem.Heap.get?_update_self
abbrev vW:=@PySem.Obj.data_mapFields
abbrev vX:=@Bool.false_eq_true
abbrev Ab:=@List.getElem?_cons_succ
abbrev ur:=@List.length_take
abbrev uw:=@PySem.wpAny_call_entry
abbrev xQ:=@List.filterMap_cons
abbrev tG:=@PySem.Heap.size_push
abbrev ux:=@List.mem_filter
abbrev uy:=@List.nodup_cons
abbrev qy:=@List.mem_map
abbrev xR:=@List.pairwise_cons
abbrev uz:=@List.mem_range
abbrev oJ:=@beq_iff_eq
abbrev vY:=@List.map_append
abbrev Ac:=@beq_eq_false_iff_ne
abbrev vZ:=@List.append_nil
abbrev Ad:=@PySem.mem_of_lookup
abbrev Ae:=@List.replicate_succ
abbrev Ib:=@PySem.F.slot_tuple_iterator_next
abbrev xT:=@List.take_length
abbrev xU:=@PySem.F.plain_min_loop
abbrev Af:=@List.mem_filterMap
abbrev Ag:=@PySem.wpAny_Call_Name_kw
abbrev Cj:=@List.length_replicate
abbrev Ah:=@PySem.wpAny_setField_rec
abbrev Ai:=@decide_eq_true_iff
abbrev Ie:=@List.pairwise_iff_getElem
abbrev lW:=@congrArg
abbrev Cm:=@PySem.Heap.get?_none_of_le
abbrev Cp:=@PySem.Around.under_plainId
abbrev Ig:=@PySem.AutoSeq1.wpAny_loadPart'
abbrev uD:=@Nat.ne_of_gt
abbrev uE:=@List.map_map
abbrev tH:=@PySem.sizeLine_eq
abbrev Cq:=@List.getElem?_range
abbrev Aj:=@beq_self_eq_true
abbrev Ak:=@List.countP_cons
abbrev Cr:=@List.zip_cons_cons
abbrev Cu:=@List.mem_singleton
abbrev Cv:=@Int.emod_lt_of_pos
abbrev v7:=@Nat.le_of_lt
abbrev Al:=@List.length_nil
abbrev Ih:=@PySem.Obj.isFreed_of_fields
abbrev Am:=@List.forIn_cons
abbrev Ao:=@Int.emod_nonneg
abbrev xV:=@List.all_cons
abbrev Cw:=@decide_eq_true_eq
abbrev Ii:=@Nat.mul_le_mul_right
abbrev Aq:=@List.nodup_nil
abbrev Cy:=@List.length_drop
abbrev v8:=@Nat.zero_le
abbrev Lf:=@Option.isSome_iff_exists
abbrev Lg:=@PySem.F.args_tuple_add_2
abbrev Lh:=@List.length_filterMap_le
abbrev Cz:=@PySem.wpAny_passesOwn
abbrev Li:=@PySem.F.entry_tuple_add
abbrev qz:=@if_false
abbrev Lj:=@decide_eq_false_iff_not
abbrev CG:=@PySem.codeAny_builtin
abbrev CJ:=@PySem.wpAny_ite_false
abbrev T3:=@List.take_succ_eq_append_getElem
abbrev Ln:=@PySem.W.cellsFrom_some
abbrev Lp:=@PySem.F.slot_tuple_add
abbrev Lq:=@List.range_succ_eq_map
abbrev Ij:=@PySem.Heap.get?_push_ne
abbrev xW:=@PySem.wpAny_letGo
abbrev Ik:=@PySem.wpAny_pyIter_list
abbrev Il:=@List.append_assoc
abbrev Im:=@List.reverse_cons
abbrev Io:=@List.nodup_append
abbrev CK:=@PySem.wpAny_setField
abbrev CP:=@List.take_succ
abbrev Ar:=@PySem.codeAny_mono
abbrev Lr:=@List.filterMap_append
abbrev Ip:=@Nat.lt_succ_self
abbrev Ir:=@Nat.le_of_not_lt
abbrev Iu:=@PySem.wpAny_isInstance
abbrev Iv:=@List.mem_reverse
abbrev Iw:=@PySem.F.slot_tuple_mul
abbrev Ls:=@PySem.wpAny_updateSeq_pair
abbrev CQ:=@PySem.wpAny_attempt
abbrev CT:=@PySem.plainId_quiet
abbrev Lw:=@PySem.W.plainGet_of
abbrev Iz:=@PySem.F.slot_zip_next
abbrev Lx:=@List.length_reverse
abbrev IK:=@Bool.or_eq_true
abbrev IV:=@List.foldl_cons
abbrev Ly:=@Bool.false_ne_true
abbrev Lz:=@PySem.W.callWith_K
abbrev CV:=@PySem.wpAny_typeOf
abbrev CW:=@List.all_map
abbrev LC:=@Array.forIn_toList
abbrev LQ:=@List.getElem_range
abbrev IW:=@List.forIn_nil
abbrev I8:=@Nat.mul_le_mul
abbrev LR:=@List.getElem?_inj
abbrev L_:=@List.flatten_cons
abbrev Ma:=@List.map_inj_left
abbrev Mf:=@List.pairwise_map
set_option Elab.async false
set_option linter.all false
set_option maxRecDepth 100000
set_option maxHeartbeats 4000000
namespace L2
open PySem PySem.Spec PyProof.Rows PySem.W
noncomputable def subIn(K:W.Frag)(C D:Addr):Bool:=PySem.W.ktsIn K C "BaseException"&&PySem.W.ktsIn K D "BaseException"&&match K.lookup C with
 |some ⟨_,_,.cls cd,_⟩=>cd.mro.contains (.ref D)
 |_=>false
noncomputable def CZ:List Value:=[.type "ValueError",.type "Exception",.type "BaseException",.type "object"]
noncomputable def qQ:List Value->Bool
 |.ref _::r=>qQ r
 |l=>l==CZ
noncomputable def qR(K:Frag)(C fI:Addr):Bool:=match K.lookup C with
 |some ⟨.type "type",_,.cls cd,sl⟩=>(match cd.mro,sl.toList with
  |.ref C'::bm,[_,_,_,_,some (.builtin n),_]=>C'==C&&n=="ValueError.__new__" && !cd.hasDel&&tailIn K CZ bm&&nsOkIn K cd.ns&&nsIn K cd.ns "__init__"==some (some (.ref fI))
  |_,_=>false)
 |_=>false
noncomputable def aP(s:Stmt):Arguments:=match s with
 |.FunctionDef _ a _ _ _ _ _ _ _ _=>a
 |_=>{posonlyargs:=[],args:=[],vararg:=none,kwonlyargs:=[],kw_defaults:=[],kwarg:=none,defaults:=[]}
noncomputable def aK(s:Stmt):List Stmt:=match s with
 |.FunctionDef _ _ b _ _ _ _ _ _ _=>b
 |_=>[]
noncomputable def au(s:Stmt):Scope:=match s with
 |.FunctionDef _ _ _ _ _ _ sc _ _ _=>sc
 |_=>{kind:=.function,names:=[],isGenerator:=false,isCoroutine:=false}
end L2
namespace Mi
open PySem PySem.Spec PyProof.Rows L2 PySem.W
noncomputable def I9(n c:Nat):Nat:=if c<n then c else 0
noncomputable def C_(n c e:Nat):Bool:=I9 n e==0||I9 n c==I9 n e
noncomputable def g_(L:List Addr)(c:Nat):Addr:=L.getD (I9 L.length c) 0
noncomputable def xcB(K:W.Frag)(C:Addr):Bool:=
 PySem.W.findIn K (.ref C) "__getattribute__"==some (some (.builtin "BaseException.__getattribute__"))&&PySem.W.findIn K (.ref C) "__getattr__"==some none&&PySem.W.findIn K (.ref C) "__class__"==some (some (.builtin "object.__class__")) &&
 PySem.W.mroIn K C (.type "BaseException")==some true&&PySem.W.mroIn K C (.type "object")==some true&&(PySem.W.clsIn K C).isSome &&
 PySem.W.specialIn K (.builtin "object.__class__") "__get__"==some (some (.builtin "getset_descriptor.__get__"))&&PySem.W.takesIn K (.builtin "object.__class__")==some true
noncomputable def v9(K:W.Frag)(L:List Addr):Bool:=(List.range L.length).all λc=>xcB K (L.getD c 0)&&PySem.W.kitOne K (.ref (L.getD c 0)) (.type "ValueError")==some true &&
 (List.range L.length).all λe=>PySem.W.kitOne K (.ref (L.getD c 0)) (.ref (L.getD e 0))==some (C_ L.length c e)
noncomputable def subB(K:W.Frag)(L:List Addr)(d:Nat):Bool:=(List.range L.length).all λc=>!(C_ L.length c d)||L2.subIn K (L.getD c 0) (g_ L d)
noncomputable def lX(fd:FuncData):FuncData:={fd with kwdefaults:=.none,doc:=.none,pyModule:=.none,annotations:=none,code:=.none,closureTuple:=.none}
noncomputable def tK(x:Str)(st:Stmt):FuncData:=fnOf x x (aP st) (aK st) (au st) .none .none .none .none none .none .none
noncomputable def xX(K:Frag)(x:Str):Option (Addr×FuncData):=match nsIn K mainGlobals x with
 |some (some (.ref f))=>(match K.lookup f with
  |some ⟨_,_,.func fd,_⟩=>(match codeIn K fd.code x&&keepIn K (.ref f) with
   |true=>some (f,fd)
   |false=>none)
  |_=>none)
 |_=>none
noncomputable def dB(K:Frag)(x:Str):Addr:=match nsIn K mainGlobals x with
 |some (some (.ref C))=>C
 |_=>0
noncomputable def qT(K:Frag)(x:Str):Bool:=match nsIn K mainGlobals x with
 |some (some (.ref _))=>true
 |_=>false
noncomputable def kj(K:Frag)(p:Str×Int):Bool:=match nsIn K mainGlobals p.1 with
 |some (some (.int i _))=>decide (i=p.2)
 |_=>false
noncomputable def oK(K:Frag)(x:Str):Bool:=match nsIn K mainGlobals x with
 |some none=>true
 |_=>false
noncomputable def Dg(K:Frag)(C:Addr):Bool:=excIn K C [.type "ValueError",.type "Exception",.type "BaseException",.type "object"] "ValueError.__new__"
structure Lk where
 Dh:List Str
 wg:List (Str×Int)
 T4:List Str
 T5:List Nat
 T6:List Nat
noncomputable def Lk.L(l:Lk)(K:Frag):List Addr:=l.Dh.map (dB K)
noncomputable def Lk.good(l:Lk)(K:Frag):Bool:=
 l.Dh.all (qT K)&&(l.Dh.isEmpty||v9 K (l.L K))&&l.T5.all (λk=>Dg K (g_ (l.L K) k))&&l.T6.all (λk=>subB K (l.L K) k)&&l.wg.all (kj K)&&l.T4.all (oK K)
noncomputable def oM(h:Heap):List Addr->Frag
 |[]=>[]
 |a::r=>match h.get? a with
  |some o=>(a,o)::oM h r
  |none=>oM h r
noncomputable def dN(s:Stmt):List Stmt:=match s with
 |.ClassDef _ _ _ b _ _ _ _ _ _ _=>b
 |_=>[]
noncomputable def xY(q:Str)(st:Stmt):FuncData:=fnOf "__init__" q (aP st) (aK st) (au st) .none .none .none .none none .none .none
noncomputable def Di(K:Frag)(C:Addr):Option FuncData:=match clsIn K C with
 |some cd=>(match nsIn K cd.ns "__init__" with
  |some (some (.ref f))=>(match K.lookup f with
   |some ⟨.type "function",_,.func fd,_⟩=>(match codeIn K fd.code fd.qualname&&qR K C f&&qQ cd.mro&&cd.hasDict with
    |true=>some fd
    |false=>none)
   |_=>none)
  |_=>none)
 |none=>none
noncomputable def setB(K:Frag)(C:Addr)(fs:List Str):Bool:=findIn K (.ref C) "__setattr__"==some (some (.builtin "object.__setattr__"))&&fs.all (λf=>findIn K (.ref C) f==some none)
noncomputable def I_(K:Frag)(C:Addr)(f:Str):Bool:=findIn K (.ref C) "__getattribute__"==some (some (.builtin "BaseException.__getattribute__"))&&findIn K (.ref C) "__getattr__"==some none&&mroIn K C (.type "BaseException")==some true&&findIn K (.ref C) f==some none&&hasDictIn K C
structure qU where
 c:Nat
 q:Str
 st:Stmt
 fs:List Str
noncomputable def Dj:Nat->List Obj->Frag
 |_,[]=>[]
 |i,o::r=>match o.isFreed with
  |true=>Dj (i+1) r
  |false=>(i,o)::Dj (i+1) r
noncomputable def bK(h:Heap):Frag:=oM h [mainGlobals]++(Dj 0 h.objs.toList).reverse
noncomputable def kE(fs:List (Str×Stmt))(ms:List qU)(xs:List (Nat×Str))(l:Lk)(s:Shared):List (Option FuncData)×List (Option FuncData)×Bool:=
 (fs.map (λp=>(xX (bK s.heap) p.1).map (λq=>lX q.2)),ms.map (λm=>(Di (bK s.heap) (g_ (l.L (bK s.heap)) m.c)).map lX),
  l.good (bK s.heap)&&ms.all (λm=>setB (bK s.heap) (g_ (l.L (bK s.heap)) m.c) m.fs)&&xs.all (λx=>I_ (bK s.heap) (g_ (l.L (bK s.heap)) x.1) x.2))
noncomputable def lY(fs:List (Str×Stmt))(ms:List qU)(w:World):List (Option FuncData)×List (Option FuncData)×Bool:=(fs.map (λp=>some (tK p.1 p.2)),ms.map (λm=>some (xY m.q m.st)),true)
noncomputable def Ja(fs:List (Str×Stmt))(s:Shared):List (Option FuncData):=fs.map (λp=>(xX (bK s.heap) p.1).map (λq=>lX q.2))
noncomputable def T7(ms:List qU)(xs:List (Nat×Str))(l:Lk)(s:Shared):List (Option FuncData)×Bool:=(ms.map (λm=>(Di (bK s.heap) (g_ (l.L (bK s.heap)) m.c)).map lX),
  l.good (bK s.heap)&&ms.all (λm=>setB (bK s.heap) (g_ (l.L (bK s.heap)) m.c) m.fs)&&xs.all (λx=>I_ (bK s.heap) (g_ (l.L (bK s.heap)) x.1) x.2))
theorem ze1{p q:Program}{loose:List Str}{Xt:Shared->Bool}{N:Nat}{fs1 pP:List (Str×Stmt)}{ms:List qU}{xs:List (Nat×Str)}{l:Lk}
  (a:∀w,(openEnds treeTable p w N).map (λs=>openSeen q loose (importedModules p.main.body) Xt true s)=some (openGood q loose))
  (b1:∀w,(openEnds treeTable p w N).map (Ja fs1)=some (fs1.map λp=>some (tK p.1 p.2)))
  (b2:∀w,(openEnds treeTable p w N).map (Ja pP)=some (pP.map λp=>some (tK p.1 p.2)))
  (c:∀w,(openEnds treeTable p w N).map (T7 ms xs l)=some (ms.map (λm=>some (xY m.q m.st)),true)):LeftO p q loose Xt (kE (fs1++pP) ms xs l) (lY (fs1++pP) ms) N:=by
 intro w;have a:=a w;have b1:=b1 w;have b2:=b2 w;have c:=c w;cases e:openEnds treeTable p w N with
 |none=>rw[e] at a;cases a
 |some s=>
  rw[e] at a b1 b2 c;have a:openSeen q loose (importedModules p.main.body) Xt true s=openGood q loose:=cD a;have b1:=cD b1;have b2:=cD b2;have c:=cD c;have c1:=lW Prod.fst c;have c2:=lW Prod.snd c;show some (_,kE (fs1++pP) ms xs l s)=_;rw[a];have:kE (fs1++pP) ms xs l s=lY (fs1++pP) ms w:=by
   unfold kE lY;rw[vY,vY];have b1:List.map _ fs1=List.map _ fs1:=b1;have b2:List.map _ pP=List.map _ pP:=b2;rw[b1,b2];exact Prod.ext rfl (Prod.ext c1 c2)
  rw[this]
structure Bd where
 n:Str
 fs:List Str
 ms:List (Str×Str×Stmt)
noncomputable def jP(K:Frag)(C:Addr)(m:Str):Option (Addr×FuncData):=match findIn K (.ref C) m with
 |some (some (.ref f))=>(match K.lookup f with
  |some ⟨_,_,.func fd,_⟩=>(match codeIn K fd.code fd.qualname&&keepIn K (.ref f)&&isFn K (.ref f) with
   |true=>some (f,fd)
   |false=>none)
  |_=>none)
 |_=>none
noncomputable def Av(m q:Str)(st:Stmt):FuncData:=fnOf m q (aP st) (aK st) (au st) .none .none .none .none none .none .none
noncomputable def wj(K:Frag)(b:Bd):Bool:=qT K b.n&&plainGet K (dB K b.n) Str.empty&&hasDictIn K (dB K b.n)&&plainOver K (dB K b.n)&&findIn K (.ref (dB K b.n)) "__setattr__"==some (some (.builtin "object.__setattr__"))&&makesIn K (dB K b.n)&&keepIn K (.ref (dB K b.n))&&b.fs.all (λf=>findIn K (.ref (dB K b.n)) f==some none)
noncomputable def xZ(b:Bd)(s:Shared):List (Option FuncData)×Bool:=(b.ms.map λp=>(jP (bK s.heap) (dB (bK s.heap) b.n) p.1).map λq=>lX q.2,wj (bK s.heap) b)
noncomputable def yc(b:Bd):List (Option FuncData)×Bool:=(b.ms.map λp=>some (Av p.1 p.2.1 p.2.2),true)
theorem zjo{p q:Program}{loose:List Str}{Xt:Shared->Bool}{N:Nat}{fs:List (Str×Stmt)}{ms:List qU}{xs:List (Nat×Str)}{l:Lk}{b:Bd}(h:LeftO p q loose Xt (kE fs ms xs l) (lY fs ms) N)(e:∀w,(openEnds treeTable p w N).map (xZ b)=some (yc b)) :
  LeftO p q loose Xt (λs=>(kE fs ms xs l s,xZ b s)) (λw=>(lY fs ms w,yc b)) N:=by
 intro w;have h:=h w;have e:=e w;cases z:openEnds treeTable p w N with
 |none=>rw[z] at e;cases e
 |some s=>
  rw[z] at h e;have e:xZ b s=yc b:=cD e;have h:=cD h;have h1:=lW Prod.fst h;have h2:=lW Prod.snd h;show some (_,_,_)=some (_,_,_);rw[e];exact lW some (Prod.ext h1 (Prod.ext h2 rfl))
end Mi
namespace dM
open PySem PySem.Spec PyProof.Rows PySem.W L2 Mi
noncomputable def top(i:Nat):Stmt:=PySem.Challenge.pw_ringhues_k08_whole_longer_rings.main.body.getD i (.Pass ⟨0,0,0,0⟩)
noncomputable def Aw:Stmt:=(dN (top 34)).getD 0 (.Pass ⟨0,0,0,0⟩)
noncomputable def Dk:Stmt:=(dN (top 34)).getD 1 (.Pass ⟨0,0,0,0⟩)
noncomputable def Ax:Stmt:=(dN (top 34)).getD 2 (.Pass ⟨0,0,0,0⟩)
noncomputable def Ay:Stmt:=(dN (top 34)).getD 3 (.Pass ⟨0,0,0,0⟩)
noncomputable def Az:Stmt:=(dN (top 34)).getD 4 (.Pass ⟨0,0,0,0⟩)
noncomputable def Dl:Stmt:=(dN (top 34)).getD 5 (.Pass ⟨0,0,0,0⟩)
noncomputable def A_:Stmt:=(dN (top 34)).getD 6 (.Pass ⟨0,0,0,0⟩)
noncomputable def bd:Bd:=⟨"Board",["ends","spots","apart","alike"],[("__init__","Board.__init__",Aw),("far_apart","Board.far_apart",Dk),("settled","Board.settled",Ax),("ties_left","Board.ties_left",Ay),("bound","Board.bound",Az),("narrowest","Board.narrowest",Dl),("all_free","Board.all_free",A_)]⟩
noncomputable def fs1:List (Str×Stmt):=(("is_whole" : Str),top 6)::(("is_within" : Str),top 7)::(("is_row" : Str),top 8)::(("is_ring" : Str),top 11)::(("is_spot" : Str),top 12)::(("check_ring" : Str),top 13)::(("gap_of" : Str),top 14)::(("is_web" : Str),top 17)::(("web_of" : Str),top 18)::(("ends_of" : Str),top 19)::(("is_many" : Str),top 20)::(("is_place" : Str),top 21)::(("is_tie" : Str),top 22)::(("tie_by" : Str),top 23)::(("check_web" : Str),top 24)::(("check_place" : Str),top 25)::(("tied_to" : Str),top 26)::(("all_ends" : Str),top 27)::[]
noncomputable def pP:List (Str×Stmt):=(("hues_hold" : Str),top 29)::(("are_spots" : Str),top 30)::(("are_hues" : Str),top 31)::(("clash_of" : Str),top 32)::(("ring_board" : Str),top 35)::(("first_hues" : Str),top 37)::(("first_among" : Str),top 38)::(("first_spot" : Str),top 39)::(("can_settle" : Str),top 40)::(("search" : Str),top 41)::(("_law_cell" : Str),top 43)::(("_law_pen" : Str),top 44)::(("_law_draw" : Str),top 45)::(("_law_size" : Str),top 46)::(("_law_web" : Str),top 47)::(("_law_ring" : Str),top 48)::(("_law_right" : Str),top 49)::(("law" : Str),top 50)::[]
noncomputable abbrev fs:List (Str×Stmt):=fs1++pP
noncomputable def lk:Lk:=⟨[],[("MOST_SPOTS",24),("MOST_PLACES",8)],["abs","all","bool","divmod","enumerate","int","isinstance","len","list","max","min","range","sorted","tuple","zip"],[],[]⟩
noncomputable def ms:List qU:=[]
noncomputable def xs:List (Nat×Str):=[]
noncomputable abbrev pv:Program:=PySem.Challenge.pw_ringhues_k08_whole_longer_rings
noncomputable def qv:Program:={pv with main:={pv.main with body:=[pv.main.body.getD 50 (.Pass ⟨0,0,0,0⟩)]}}
noncomputable def loose:List Str:=(["HueError","NoRing","NoPlace","NoWeb","is_whole","is_within","is_row","MOST_SPOTS","is_ring","is_spot","check_ring","gap_of","MOST_PLACES","is_web","web_of","ends_of","is_many","is_place","is_tie","tie_by","check_web","check_place","tied_to","all_ends","hues_hold","are_spots","are_hues","clash_of","Board","ring_board","first_hues","first_among","first_spot","can_settle","search","_law_cell","_law_pen","_law_draw","_law_size","_law_web","_law_ring","_law_right"]:List String).map Str.ofString
theorem zlx(w:World):(openEnds treeTable pv w 20000).map (λs=>openSeen qv loose (importedModules pv.main.body) (λs=>xlAt qv [] s&&recOk [] s) true s)=some (openGood qv loose):=by
 kernel_rfl
theorem zme(w:World):(openEnds treeTable pv w 20000).map (Ja fs1)=some (fs1.map λp=>some (tK p.1 p.2)):=by
 kernel_rfl
theorem zku(w:World):(openEnds treeTable pv w 20000).map (Ja pP)=some (pP.map λp=>some (tK p.1 p.2)):=by
 kernel_rfl
theorem zlf(w:World):(openEnds treeTable pv w 20000).map (T7 ms xs lk)=some (ms.map (λm=>some (xY m.q m.st)),true):=by
 kernel_rfl
theorem ws:PySem.Challenge.rw_ringhues_k08_whole_longer_rings.wellSaid=true:=by
 kernel_rfl
theorem zlC(w:World):(openEnds treeTable pv w 20000).map (xZ bd)=some (yc bd):=by
 kernel_rfl
theorem left:LeftO pv qv loose (λs=>xlAt qv [] s&&recOk [] s) (λs=>(kE fs ms xs lk s,xZ bd s)) (λw=>(lY fs ms w,yc bd)) 20000:=zjo (ze1 zlx zme zku zlf) zlC
end dM
namespace L2
open PySem PySem.Spec PyProof.Rows
theorem dY{α:Sort u}{β:Sort v}{A B C:α->β->Prop}{P:Prop}(h:∃x y,A x y/\B x y/\C x y)(k:∀x y,A x y->B x y->C x y->P):P:=by
 obtain⟨x,y,a,b,c⟩:=h;exact k x y a b c
theorem Mg{α:Sort u}{β:Sort v}{γ:Sort w}{A B:α->β->Prop}{C D:α->β->γ->Prop}{P:Prop}(h:∃x y,A x y/\B x y/\∃z,C x y z/\D x y z)(k:∀x y,A x y->B x y->∀z,C x y z->D x y z->P):P:=by
 obtain⟨x,y,a,b,z,c,d⟩:=h;exact k x y a b z c d
theorem uF{α:Sort u}{A B:α->Prop}{P:Prop}(h:∃x,A x/\B x)(k:∀x,A x->B x->P):P:=by
 obtain⟨x,a,b⟩:=h;exact k x a b
noncomputable abbrev Key:=Sum Int Str
noncomputable def wu:Key->Value->Bool
 |.inl k,v=>Value.isInt k v
 |.inr x,v=>Value.isStrOf x v
noncomputable def Mh(w:World):Key->Int
 |.inl k=>hashInt k
 |.inr x=>hashStr w x
theorem uG:∀{k:Key} {v:Value},wu k v=true->(∃i t,k=Sum.inl i/\v=Value.int i t)\/(∃x t,k=Sum.inr x/\v=Value.str x t)
 |.inl i,v,h=>by
  obtain⟨t,e⟩:=Value.isInt_shape (k:=i) (v:=v) h;exact .inl ⟨i,t,rfl,e⟩
 |.inr x,v,h=>by
  obtain⟨t,e⟩:=Value.isStrOf_shape (x:=x) (v:=v) h;exact .inr ⟨x,t,rfl,e⟩
theorem zkX(a b:Int):decide ((Sum.inl a:Key)=Sum.inl b)=(a==b):=by
 by_cases e:a=b
 ·subst e;simp
 ·have h:¬(Sum.inl a:Key)=Sum.inl b:=λq=>e (Sum.inl.inj q);rw[jF h];exact(Ac.mpr e).symm
theorem zkC(a b:Str):decide ((Sum.inr a:Key)=Sum.inr b)=decide (a=b):=by
 by_cases e:a=b
 ·subst e;simp
 ·have h:¬(Sum.inr a:Key)=Sum.inr b:=λq=>e (Sum.inr.inj q);rw[jF h,jF e]
theorem zmd(a:Int)(b:Str):decide ((Sum.inl a:Key)=Sum.inr b)=false:=jF (λq=>nomatch q)
theorem zkS(a:Str)(b:Int):decide ((Sum.inr a:Key)=Sum.inl b)=false:=jF (λq=>nomatch q)
noncomputable def kI(prog:Program)(w:World):PySem.KeyKind prog w Key where
 is:=wu
 hash:=Mh w
 inj:=λv a b ha hb=>by
  rcases uG ha with ⟨i,t,rfl,rfl⟩|⟨x,t,rfl,rfl⟩
  ·rcases uG hb with ⟨j,u,rfl,e⟩|⟨y,u,rfl,e⟩
   ·injection e with e1 _;rw[e1]
   ·exact nomatch e
  ·rcases uG hb with ⟨j,u,rfl,e⟩|⟨y,u,rfl,e⟩
   ·exact nomatch e
   ·injection e with e1 _;rw[e1]
 byValue:=λk v h=>by
  rcases uG h with ⟨i,t,rfl,rfl⟩|⟨x,t,rfl,rfl⟩<;>rfl
 pyHash:=λhv h=>by
  rcases uG hv with ⟨i,t,rfl,rfl⟩|⟨x,t,rfl,rfl⟩
  ·exact wpAny_pyHash_int h
  ·exact wpAny_pyHash_str h
 eqBool:=λhu hv h=>by
  rcases uG hu with ⟨i,t,rfl,rfl⟩|⟨x,t,rfl,rfl⟩
  ·rcases uG hv with ⟨j,u,rfl,rfl⟩|⟨y,u,rfl,rfl⟩
   ·rw[zkX] at h;exact wpAny_eqBool_int h
   ·rw[zmd] at h;exact SeqAt.EqAt.int_str i t y u _ _ _ _ h
  ·rcases uG hv with ⟨j,u,rfl,rfl⟩|⟨y,u,rfl,rfl⟩
   ·rw[zkS] at h;exact SeqAt.EqAt.str_int x t j u _ _ _ _ h
   ·rw[zkC] at h;exact wpAny_eqBool_str h
 «strs»:=λk x t v h=>by
  rcases uG h with ⟨i,u,rfl,e⟩|⟨y,u,rfl,e⟩
  ·exact nomatch e
  ·injection e with e1 _;subst e1;cases v<;>rfl
inductive V where
 |non|bl (b:Bool)|int (i:Int)|str (x:Str)|yd (b:Array UInt8)|flt (b:UInt64)|ref (a:Addr)|ty (n:String)
 deriving DecidableEq
noncomputable def RelV:V->Value->Prop
 |.non,u=>u=Value.none
 |.bl b,u=>u=Value.bool b
 |.int i,u=>∃t,u=Value.int i t
 |.str x,u=>∃t,u=Value.str x t
 |.yd b,u=>∃t,u=Value.bytes b t
 |.flt b,u=>∃t,u=Value.float b t
 |.ref a,u=>u=Value.ref a
 |.ty n,u=>u=Value.type n
noncomputable abbrev Vals:List V->List Value->Prop:=Paired RelV
theorem Vals.length{xs:List V}{us:List Value}(r:Vals xs us):xs.length=us.length:=Paired.length r
theorem Vals.get:∀{xs:List V} {us:List Value} {i:Nat} {x:V},Vals xs us->xs[i]?=some x->∃u,us[i]?=some u/\RelV x u
 |_,_,_,_,.nil,e=>by simp at e
 |_,_,0,_,.cons r _,e=>by simp at e;subst e;exact⟨_,rfl,r⟩
 |_,_,i+1,x,.cons _ t,e=>by
  obtain⟨u,h1,h2⟩:=Vals.get (i:=i) (x:=x) t (by simpa using e);exact⟨u,by simpa using h1,h2⟩
theorem Vals.set{x:V}{u:Value}(r:RelV x u):∀{xs:List V} {us:List Value} (i:Nat),Vals xs us->Vals (xs.set i x) (us.set i u)
 |_,_,_,.nil=>.nil
 |_,_,0,.cons _ t=>.cons r t
 |_,_,i+1,.cons q t=>.cons q (Vals.set r i t)
theorem Vals.append{xs ys:List V}{us ws:List Value}(h:Vals xs us)(s:Vals ys ws):Vals (xs++ys) (us++ws):=by
 induction h with
 |nil=>exact s
 |cons r _ ih=>exact .cons r ih
theorem Vals.take:∀{xs:List V} {us:List Value} (n:Nat),Vals xs us->Vals (xs.take n) (us.take n)
 |_,_,0,_=>.nil
 |_,_,_+1,.nil=>.nil
 |_,_,n+1,.cons r t=>.cons r (Vals.take n t)
theorem Vals.drop:∀{xs:List V} {us:List Value} (n:Nat),Vals xs us->Vals (xs.drop n) (us.drop n)
 |_,_,0,r=>r
 |_,_,_+1,.nil=>.nil
 |_,_,n+1,.cons _ t=>Vals.drop n t
noncomputable def pQ:Option V->Option Value->Prop
 |some v,some u=>RelV v u
 |none,none=>True
 |_,_=>False
noncomputable def KV{κ:Type}:List (κ×V)->List (κ×Value)->Prop:=Paired λ(p:κ×V) (q:κ×Value)=>p.1=q.1/\RelV p.2 q.2
noncomputable def kV:Key->V
 |.inl i=>.int i
 |.inr x=>.str x
inductive HO where
 |lst (xs:List V)
 |tup (xs:List V)
 |dK (kvs:List (Key×V))|dT (kvs:List (List Key×V))
 |set (S:Int->Bool) (n:Nat)
 |ins (C dx:Addr) (fs:List (Str×V))
 |own (x:Addr)
 |xd (fs:List (Str×V))
 |met (f x:Addr)
 |rng (lo hi:Int)
 |tL (o:Obj) (u:HO)
 |yg (ps:Array Value)
 |ext (U:Heap->Prop)
noncomputable abbrev Hp:=Addr->Option HO
noncomputable def upd(H:Hp)(a:Addr)(o:HO):Hp:=λb=>if b=a then some o else H b
theorem jC{H:Hp}{a:Addr}{o:HO}:upd H a o a=some o:=by unfold upd;rw[if_pos rfl]
theorem dO{H:Hp}{a b:Addr}{o:HO}(h:b≠a):upd H a o b=H b:=by unfold upd;rw[if_neg h]
theorem zij{H:Hp}{a:Addr}{o u:HO}:upd (upd H a o) a u=upd H a u:=by
 funext b;unfold upd;split<;>rfl
theorem Ba{H:Hp}{a b:Addr}{o:HO}(h:H a=some o)(h':H b=none):a≠b:=by
 intro e;subst e;rw[h] at h';cases h'
section
variable (P:Program)(w:World)
noncomputable def bG(H:Hp)(h:Heap)(a:Addr):HO->Prop
 |.lst xs=>xs.length<=sizeLine/\∃(its:List Value) (n:Nat),Vals xs its/\h.get? a=some {cls:=.type "list",data:=.seq its.toArray n}
 |.tup xs=>xs.length<=sizeLine/\∃its:List Value,Vals xs its/\IsTup h a its.toArray
 |.dK kvs=>kvs.length<=sizeLine/\(a==sysModules)=false/\∃vs,KV kvs vs/\h.DictOf (kI P w) a vs
 |.dT kvs=>kvs.length<=sizeLine/\(a==sysModules)=false/\∃xs:List (List Key×Addr×Value),
   Paired (λ(p:List Key×V) (q:List Key×Addr×Value)=>p.1=q.1/\H q.2.1=some (.tup (p.1.map kV))/\RelV p.2 q.2.2) kvs xs /\
   ∃o es ep,h.get? a=some o/\o.ExactDict/\o.data=.dict es ep/\es.toList=xs.map (entryOfKey (tupleKind (kI P w)))/\(xs.map (·.1)).Nodup
 |.set S n=>h.SetOf (intKind P w) a S n
 |.ins C dx fs=>H dx=some (.own a)/\fs.length<=1000/\dx≠a/\h.get? a=some (PySem.W.instObj C dx) /\
   ∃mA,h.Ns1 dx mA/\(∀f,pQ (fs.lookup f) (mA f))/\PySem.Within mA (fs.map (·.1))
 |.own _=>∃o,h.get? a=some o
 |.xd fs=>∃mA,h.Ns1 a mA/\∀f,pQ (fs.lookup f) (mA f)
 |.rng lo hi=>∃t u v,h.get? a=some {cls:=.type "range",data:=.fields #[.int lo t,.int hi u,.int 1 v]}
 |.tL o u=>h.get? a=some o/\bG H h a u
 |.yg ps=>h.get? a=some {cls:=.none,data:=.fields ps}
 |.met f x=>h.get? a=some (PySem.W.methodObj (.ref f) (.ref x))
 |.ext U=>U h/\(∃o,h.get? a=some o)/\∀h1 h2:Heap,U h1->(∀o,h1.get? a=some o->h2.get? a=some o)->U h2
def gZ(H:Hp)(h:Heap):Prop:=∀a o,H a=some o->bG P w H h a o
end
section
variable {P:Program}{w:World}{H H':Hp}{h h':Heap}{a:Addr}{o:HO}
theorem bG.lt(x:bG P w H h a o):a<h.objs.size:=by
 cases o with
 |lst xs=>obtain⟨_,_,_,_,e⟩:=x;exact bR e
 |tup xs=>obtain⟨_,_,_,p⟩:=x;exact p.lt
 |dK kvs=>obtain⟨_,_,_,_,o,_,_,e,_⟩:=x;exact bR e
 |dT kvs=>obtain⟨_,_,_,_,o,_,_,e,_⟩:=x;exact bR e
 |set S n=>obtain⟨o,_,_,_,e,_⟩:=x;exact bR e
 |ins C dx fs=>obtain⟨_,_,_,e,_⟩:=x;exact bR e
 |own y=>obtain⟨_,e⟩:=x;exact bR e
 |xd fs=>obtain⟨_,⟨_,_,_,e,_⟩,_⟩:=x;exact bR e
 |rng lo hi=>obtain⟨_,_,_,e⟩:=x;exact bR e
 |tL ob u=>obtain⟨e,_⟩:=x;exact bR e
 |yg ps=>exact bR (show h.get? a=some _ from x)
 |met f y=>exact bR (show h.get? a=some _ from x)
 |ext U=>obtain⟨_,⟨_,e⟩,_⟩:=x;exact bR e
theorem T8{α β:Type}{F G:α->β->Prop}:∀{l₁:List α} {l₂:List β},Paired F l₁ l₂->(∀a b,F a b->G a b)->Paired G l₁ l₂
 |_,_,.nil,_=>.nil
 |_,_,.cons r t,f=>.cons (f _ _ r) (T8 t f)
theorem bG.stay(x:bG P w H h a o)(k:∀b u,(b=a\/H b=some (.own a))->h.get? b=some u->h'.get? b=some u)
  (ho:∀b,H b=some (.own a)->H' b=some (.own a)) (ht:∀b xs,H b=some (.tup xs)->H' b=some (.tup xs)):bG P w H' h' a o:=by
 induction o with
 |lst xs=>obtain⟨z,its,n,r,e⟩:=x;exact⟨z,its,n,r,k _ _ (.inl rfl) e⟩
 |tup xs=>obtain⟨z,its,r,ob,e,c⟩:=x;exact⟨z,its,r,ob,k _ _ (.inl rfl) e,c⟩
 |dK kvs=>obtain⟨z,y,vs,r,ob,es,ep,e,c⟩:=x;exact⟨z,y,vs,r,ob,es,ep,k _ _ (.inl rfl) e,c⟩
 |dT kvs=>
  obtain⟨z,y,xs,r,ob,es,ep,e,c⟩:=x;exact⟨z,y,xs,T8 r λp q z=>⟨z.1,ht _ _ z.2.1,z.2.2⟩,ob,es,ep,k _ _ (.inl rfl) e,c⟩
 |set S n=>obtain⟨ob,es,ep,t,e,c⟩:=x;exact⟨ob,es,ep,t,k _ _ (.inl rfl) e,c⟩
 |ins C dx fs=>
  obtain⟨d,z,ne,e,mA,⟨od,es,ep,e2,c⟩,r⟩:=x;exact⟨ho _ d,z,ne,k _ _ (.inl rfl) e,mA,⟨od,es,ep,k _ _ (.inr d) e2,c⟩,r⟩
 |own y=>obtain⟨ob,e⟩:=x;exact⟨ob,k _ _ (.inl rfl) e⟩
 |xd fs=>obtain⟨mA,⟨od,es,ep,e,c⟩,r⟩:=x;exact⟨mA,⟨od,es,ep,k _ _ (.inl rfl) e,c⟩,r⟩
 |rng lo hi=>obtain⟨t,u,v,e⟩:=x;exact⟨t,u,v,k _ _ (.inl rfl) e⟩
 |tL ob u ih=>obtain⟨e,q⟩:=x;exact⟨k _ _ (.inl rfl) e,ih q⟩
 |yg ps=>
  have e:h.get? a=some {cls:=.none,data:=.fields ps}:=x;show h'.get? a=some {cls:=.none,data:=.fields ps};exact k a _ (.inl rfl) e
 |met f y=>
  have e:h.get? a=some (PySem.W.methodObj (.ref f) (.ref y)):=x;show h'.get? a=some (PySem.W.methodObj (.ref f) (.ref y));exact k a _ (.inl rfl) e
 |ext U=>obtain⟨p,⟨o,e⟩,st⟩:=x;exact⟨st _ _ p λo q=>k _ _ (.inl rfl) q,⟨o,k _ _ (.inl rfl) e⟩,st⟩
theorem gZ.lt(x:gZ P w H h)(e:H a=some o):a<h.objs.size:=(x a o e).lt
theorem gZ.fresh(x:gZ P w H h)(e:h.objs.size<=a):H a=none:=by
 cases q:H a with
 |none=>rfl
 |some u=>exact absurd (gY (x.lt q) e) (oH _)
theorem gZ.kept(x:gZ P w H h)(k:∀b u,h.get? b=some u->h'.get? b=some u):gZ P w H h':=λa o e=>
 (x a o e).stay (λb u _ q=>k b u q) (λ_ q=>q) λ_ _ q=>q
theorem gZ.laid(x:gZ P w H h)(k:∀b u,h.get? b=some u->h'.get? b=some u)(hp:h.objs.size<=a)(new:bG P w (upd H a o) h' a o):gZ P w (upd H a o) h':=λb u e=>by
 have hn:=x.fresh hp;by_cases hb:b=a
 ·subst hb;rw[jC] at e;cases e;exact new
 ·rw[dO hb] at e;exact(x b u e).stay (λc v _ q=>k c v q) (λc q=>by rw[dO (Ba q hn)];exact q) λc xs q=>by rw[dO (Ba q hn)];exact q
end
def Rd(H:Hp)(a:Addr)(u:HO):Prop:=H a=some u\/∃o,H a=some (.tL o u)
theorem Rd.ok{P:Program}{w:World}{H:Hp}{h:Heap}{a:Addr}{u:HO}(r:Rd H a u)(x:gZ P w H h):bG P w H h a u:=by
 rcases r with r|⟨o,r⟩
 ·exact x a u r
 ·obtain⟨_,q⟩:=x a _ r;exact q
noncomputable def Dm:Option HO->Prop
 |some (.lst _)=>True
 |some (.dK _)=>True
 |some (.dT _)=>True
 |some (.set _ _)=>True
 |some (.ins _ _ _)=>True
 |some (.ext _)=>True
 |_=>False
section
variable {P:Program}{w:World}{H:Hp}{h h':Heap}{x e:Addr}{o':HO}
theorem gZ.write(ok:gZ P w H h)(mu:Dm (H x))(he:e=x\/H e=some (.own x))(k:∀b u,b≠e->h.get? b=some u->h'.get? b=some u)(Bb:∃u,h'.get? e=some u)
  (new:bG P w (upd H x o') h' x o'):gZ P w (upd H x o') h':=λb u q=>by
 have Dn:∀c y,H c=some (.own y)->c≠x:=λc y r z=>by subst z;rw[r] at mu;exact mu
 have Mj:∀c xs,H c=some (.tup xs)->c≠x:=λc xs r z=>by subst z;rw[r] at mu;exact mu
 by_cases hb:b=x
 ·subst hb;rw[jC] at q;cases q;exact new
 ·rw[dO hb] at q;by_cases yh:b=e
  ·have q':H b=some (.own x):=by
    rcases he with z|z
    ·exact absurd (yh.trans z) hb
    ·rw[yh];exact z
   rw[q] at q';cases q';obtain⟨v,hv⟩:=Bb;exact⟨v,by rw[yh];exact hv⟩
  ·refine(ok b u q).stay (λc v hc r=>k c v ?_ r) (λc r=>by rw[dO (Dn c b r)];exact r) λc xs r=>by rw[dO (Mj c xs r)];exact r
   rcases hc with rfl|hc
   ·exact yh
   ·rintro rfl;rcases he with z|z
    ·exact Dn c b hc z
    ·rw[hc] at z;cases z;exact hb rfl
end
structure Un(fs ex:List Addr)(H H':Hp)(h h':Heap):Prop where
 keep:∀b o,h.get? b=some o->H b=none->b∉fs->b∉ex->h'.get? b=some o
 slot:∀b o,h.get? b=some o->H b=none->b∈fs->b∉ex->∃sl,h'.get? b=some {o with slots:=sl}
 free:∀b o,h.get? b=some o->H b=none->b∉ex->H' b=none
 there:∀b o,h.get? b=some o->b∉ex->∃o',h'.get? b=some o'
 tups:∀b xs,H b=some (.tup xs)->H' b=some (.tup xs)
 jG:∀b o u,H b=some (.tL o u)->H' b=some (.tL o u)
 kJ:∀b ps,H b=some (.yg ps)->∃more,H' b=some (.yg (ps++more))
section
variable {fs fs' ex ex':List Addr}{H H1 H2:Hp}{h h1 h2 h':Heap}{a x e:Addr}{o:HO}
theorem Un.any(u:Un fs ex H H1 h h1){b:Addr}{ob:Obj}(q:h.get? b=some ob)(n:H b=none)(hx:b∉ex):∃sl,h1.get? b=some {ob with slots:=sl}:=by
 by_cases hb:b∈fs
 ·exact u.slot b ob q n hb hx
 ·exact⟨ob.slots,u.keep b ob q n hb hx⟩
theorem Un.kept(k:∀b u,h.get? b=some u->h'.get? b=some u):Un fs ex H H h h':=
 ⟨λb ob q _ _ _=>k b ob q,λb ob q _ _ _=>⟨ob.slots,k b ob q⟩,λ_ _ _ n _=>n,λb ob q _=>⟨ob,k b ob q⟩,λ_ _ q=>q,λ_ _ _ q=>q,λ_ ps q=>⟨#[],by rw[q];simp⟩⟩
theorem Un.refl:Un fs ex H H h h:=Un.kept λ_ _ q=>q
theorem Un.laid(k:∀b u,h.get? b=some u->h'.get? b=some u)(hp:h.objs.size<=a)(hn:H a=none):Un fs ex H (upd H a o) h h' where
 keep:=λb u q _ _ _=>k b u q
 slot:=λb u q _ _ _=>⟨u.slots,k b u q⟩
 free:=λb u q n _=>by rw[dO (dJ (gY (bR q) hp))];exact n
 there:=λb u q _=>⟨u,k b u q⟩
 tups:=λb xs q=>by rw[dO (Ba q hn)];exact q
 jG:=λb u xs q=>by rw[dO (Ba q hn)];exact q
 kJ:=λb ps q=>⟨#[],by rw[dO (Ba q hn),q];simp⟩
theorem Un.write(mu:Dm (H x))(he:e=x\/H e=some (.own x))(k:∀b u,b≠e->h.get? b=some u->h'.get? b=some u)(Bb:∃u,h'.get? e=some u):Un fs ex H (upd H x o) h h':=by
 have hx:∀b,H b=none->b≠x:=λb n z=>by subst z;rw[n] at mu;exact mu
 have hb:∀b,H b=none->b≠e:=λb n z=>by
  subst z;rcases he with r|r
  ·exact hx b n r
  ·rw[n] at r;cases r
 have hm:∀b u,H b=some u->¬Dm (some u)->b≠x:=λb u q nm z=>by subst z;rw[q] at mu;exact nm mu
 refine⟨λb u q n _ _=>k b u (hb b n) q,λb u q n _ _=>⟨u.slots,k b u (hb b n) q⟩,λb u q n _=>by rw[dO (hx b n)];exact n,λb u q _=>?_,
  λb xs q=>by rw[dO (hm b _ q λz=>z)];exact q,λb u xs q=>by rw[dO (hm b _ q λz=>z)];exact q,λb ps q=>⟨#[],by rw[dO (hm b _ q λz=>z),q];simp⟩⟩
 by_cases yh:b=e
 ·subst yh;exact Bb
 ·exact⟨u,k b u yh q⟩
end
noncomputable def Jc(h:Heap)(H:Hp):List Addr:=(List.range h.objs.size).filter λa=>(H a).isSome
noncomputable def kO(h:Heap)(H:Hp):Heap:=PySem.W.hideAll h (Jc h H)
theorem zfX(h:Heap)(H:Hp):(kO h H).objs.size=h.objs.size:=PySem.W.hideAll_size _ _
theorem zgZ{h:Heap}{H:Hp}{b:Addr}{o:Obj}(e:h.get? b=some o)(n:H b=none):(kO h H).get? b=some o:=
 PySem.W.hideAll_get _ e λhm=>by
  have q:(H b).isSome=true:=(ux.mp hm).2;rw[n] at q;simp at q
theorem ziu{h:Heap}{H:Hp}{b:Addr}{o:Obj}(e:(kO h H).get? b=some o):h.get? b=some o/\H b=none:=by
 have e':h.get? b=some o:=PySem.W.of_hideAll (Jc h H) e;refine⟨e',?_⟩;cases q:H b with
 |none=>rfl
 |some x=>
  have hm:b∈Jc h H:=ux.mpr ⟨uz.mpr (bR e'),by simp[q]⟩;have z:(kO h H).get? b=none:=PySem.W.hideAll_none (Jc h H) hm;rw[z] at e;cases e
structure Mod(K:W.Frag)(mg:Str->Option Value)(base:Heap):Prop where
 wg:K.In base
 glob:base.Ns mainGlobals mg
 blt:∃mb,base.Ns builtinsNs mb/\∀x:Str,x≠"__name__"->mb x=bootBuiltins x
 nolimit:base.NoLimit
structure Cx where
 prog:Program
 w:World
 K:W.Frag
 mg:Str->Option Value
 base:Heap
 A:Around
 N:List Str
 s₀:Shared
 H₀:Hp
 env:Env
 outer:List Env
 stack:List Env
 ex:List Addr
 fn:Str->Bool
 aj:Bool
 pn:List (Addr×Obj)
 xe:Value->Shared->Prop
noncomputable def frs(l:List Env):List Addr:=l.filterMap (·.frame)
noncomputable abbrev Cx.fs(X:Cx):List Addr:=frs X.outer
def Ml(sc:Scope)(x:Str):Prop:=sc.names.lookup x=some .local\/sc.names.lookup x=some .cell\/sc.names.lookup x=some .free
def Loc(sc:Scope)(x:Str):Prop:=sc.names.lookup x=some .local\/sc.names.lookup x=some .cell
def Look(env:Env)(h:Heap)(m:Str->Option Value)(x:Str)(u:Value):Prop:=
 (env.kindOf x=some .local/\m x=some u)\/((env.kindOf x=some .cell\/env.kindOf x=some .free)/\∃c,env.cells.lookup x=some c/\h.IsCell c (some u))
structure Cx.Ok(X:Cx):Prop where
 mod:Mod X.K X.mg X.base
 kind:X.env.scope.kind=.function
 glob:X.env.globals=mainGlobals
 blt:X.env.builtins=builtinsNs
 above:X.s₀.heap.objs.size<=X.env.locals
 inj:∀x y c,X.env.cells.lookup x=some c->X.env.cells.lookup y=some c->x=y
 has:∀x,(X.env.kindOf x=some .cell\/X.env.kindOf x=some .free)->∃c,X.env.cells.lookup x=some c
 cab:∀x c,X.fn x=true->X.env.cells.lookup x=some c->X.s₀.heap.objs.size<=c
 hd:X.aj=true->X.A.handled=none
 frames:X.A.frames=some X.stack
 stk:X.stack=X.outer\/(X.stack=X.env::X.outer/\X.env.frame=some X.env.locals)
 exf:∀b∈X.ex,b≠X.env.locals/\∀x c,X.env.cells.lookup x=some c->c≠b
 bs:∀b o,X.base.get? b=some o->X.s₀.heap.get? b=some o/\X.H₀ b=none
 yj:X.base.objs.size<=X.s₀.heap.objs.size
 yp:∀b o,X.base.get? b=some o->b∉X.ex
 Dp:∀b∈X.ex,b∉X.fs
 jH:X.s₀.heap.FunFrames X.base X.outer
 Dq:∀b∈X.fs,X.H₀ b=none
structure Inv(X:Cx)(ao:List (Addr×Obj))(Z:List (Option V))(H:Hp)(s:Shared):Prop where
 ok:X.Ok
 os:s.os=X.s₀.os
 bare:AllBare s.gens
 base:Un X.fs X.ex X.H₀ H X.s₀.heap s.heap
 loc:∃m,s.heap.Ns X.env.locals m/\∀(i:Nat) (x:Str) (v:V),X.N[i]?=some x->Z[i]?=some (some v)->Ml X.env.scope x->∃u,RelV v u/\Look X.env s.heap m x u
 cell:∀x c,X.env.cells.lookup x=some c->∃v,s.heap.IsCell c v
 free:H X.env.locals=none
 iD:∀x c,X.env.cells.lookup x=some c->H c=none
 pin:∀p∈X.pn++ao,s.heap.get? p.1=some p.2/\H p.1=none/\p.1≠X.env.locals/\p.1∉X.fs/\∀v,p.2.data≠.cell v
 hok:gZ X.prog X.w H s.heap
 len:Z.length=X.N.length
section
variable {X:Cx}{ao:List (Addr×Obj)}{Z:List (Option V)}{H H':Hp}{s:Shared}{h':Heap}
theorem Cx.Ok.Mp(ok:X.Ok){b:Addr}{o:Obj}(e:X.base.get? b=some o):b∉X.fs:=λhb=>by
 have:=(ok.jH.mem hb).1;rw[e] at this;cases this
theorem Inv.bs(I:Inv X ao Z H s):∀b o,X.base.get? b=some o->s.heap.get? b=some o/\H b=none:=λb o e=>
 ⟨I.base.keep b o (I.ok.bs b o e).1 (I.ok.bs b o e).2 (I.ok.Mp e) (I.ok.yp b o e),I.base.free b o (I.ok.bs b o e).1 (I.ok.bs b o e).2 (I.ok.yp b o e)⟩
theorem Inv.bk(I:Inv X ao Z H s):∀b o,X.base.get? b=some o->s.heap.get? b=some o:=λb o e=>(I.bs b o e).1
theorem Inv.mod(I:Inv X ao Z H s):Mod X.K X.mg X.base:=I.ok.mod
theorem Inv.lZ(I:Inv X ao Z H s):X.K.In s.heap:=I.ok.mod.wg.keeps I.bk
theorem Inv.lt(I:Inv X ao Z H s):X.env.locals<s.heap.objs.size:=let ⟨_,hn,_⟩:=I.loc;hn.lt
theorem Inv.sz(I:Inv X ao Z H s):X.s₀.heap.objs.size<=s.heap.objs.size:=jO I.ok.above (v7 I.lt)
theorem Inv.Mq(I:Inv X ao Z H s){a:Addr}(h:s.heap.objs.size<=a):a∉X.fs:=λhb=>by
 obtain⟨_,o,ho,_⟩:=I.ok.jH.mem hb;exact absurd (gY (bR ho) (jO I.sz h)) (oH _)
theorem Inv.yq(I:Inv X ao Z H s):∀x c,X.env.cells.lookup x=some c->c≠X.env.locals:=λx c e z=>by
 obtain⟨v,o,ho,hd⟩:=I.cell x c e;obtain⟨m,⟨o',es,ep,qW,Dr,_⟩,_⟩:=I.loc;rw[z,qW] at ho;cases ho;rw[Dr] at hd;cases hd
theorem Inv.jH(I:Inv X ao Z H s):s.heap.FunFrames X.base X.outer:=by
 have all:∀(l:List Env),(∀b∈frs l,b∈X.fs)->X.s₀.heap.FunFrames X.base l->s.heap.FunFrames X.base l:=by
  intro l
  induction l with
  |nil=>intro _ _;trivial
  |cons env r ih=>
   intro hs hl;obtain⟨hk,⟨L,o,hf,hn,ho,hd⟩,hr⟩:=hl;have hL:L∈X.fs:=hs L (by unfold frs;rw[xQ,hf];exact kh);obtain⟨sl,e⟩:=I.base.slot L o ho (I.ok.Dq L hL) hL λz=>I.ok.Dp L z hL;exact⟨hk,⟨L,_,hf,hn,e,hd⟩,ih (λb hb=>hs b (by unfold frs;rw[xQ,hf];exact gW _ hb)) hr⟩
 exact all X.outer (λ_ hb=>hb) I.ok.jH
theorem Inv.stack(I:Inv X ao Z H s):s.heap.FunFrames X.base X.stack:=by
 rcases I.ok.stk with e|⟨e,hf⟩
 ·rw[e];exact I.jH
 ·rw[e];obtain⟨m,hn,_⟩:=I.loc;refine .cons (by rw[I.ok.kind];decide) hf hn ?_ I.jH;exact Cm (jO I.ok.yj I.ok.above)
theorem Inv.kW(I:Inv X ao Z H s):∀b∈frs X.stack,b∈X.env.locals::X.fs:=λb hb=>by
 rcases I.ok.stk with e|⟨e,hf⟩
 ·rw[e] at hb;exact gW _ hb
 ·rw[e] at hb;unfold frs at hb;rw[xQ,hf] at hb;exact hb
theorem Inv.kY(I:Inv X ao Z H s):∀b∈frs X.stack,H b=none:=λb hb=>by
 rcases gG.mp (I.kW b hb) with e|hb
 ·rw[e];exact I.free
 ·obtain⟨_,o,ho,_⟩:=I.ok.jH.mem hb;exact I.base.free b o ho (I.ok.Dq b hb) λz=>I.ok.Dp b z hb
theorem Inv.step{g':Array GenState}{t':Nat}{d':Drawn}{ch:List Addr}(I:Inv X ao Z H s)
  (tM:∀b∈ch,(b∈X.ex\/X.s₀.heap.get? b=none)/\b≠X.env.locals/\(∀x c,X.env.cells.lookup x=some c->c≠b)/\∀p∈X.pn++ao,p.1≠b)
  (keep:∀b o,b≠X.env.locals->b∉X.fs->b∉ch->s.heap.get? b=some o->H b=none->h'.get? b=some o)
  (slot:∀b o,b≠X.env.locals->b∈X.fs->b∉ch->s.heap.get? b=some o->H b=none->∃sl,h'.get? b=some {o with slots:=sl}) (free:∀b o,b∉ch->s.heap.get? b=some o->H b=none->H' b=none)
  (there:∀b o,b∉ch->s.heap.get? b=some o->∃o',h'.get? b=some o')
  (tups:∀b xs,H b=some (.tup xs)->H' b=some (.tup xs)) (jG:∀b o u,H b=some (.tL o u)->H' b=some (.tL o u)) (kJ:∀b ps,H b=some (.yg ps)->∃more,H' b=some (.yg (ps++more)))
  (ns:∀m,s.heap.Ns X.env.locals m->h'.Ns X.env.locals m) (hok:gZ X.prog X.w H' h') (hg:AllBare g') :
  Inv X ao Z H' {s with heap:=h',gens:=g',drawn:=d',toks:=t'}:=by
 have T9:∀b o,X.s₀.heap.get? b=some o->b≠X.env.locals:=λb o e=>dJ (gY (bR e) I.ok.above);have Jd:∀b o,X.s₀.heap.get? b=some o->b∉X.ex->b∉ch:=λb o e hx hb=>by
  rcases(tM b hb).1 with z|z
  ·exact hx z
  ·rw[e] at z;cases z
 have cellK:∀x c,X.env.cells.lookup x=some c->∀v,s.heap.IsCell c v->h'.IsCell c v:=λx c e v hx=>uF hx λo ho hd=>by
  have Ds:c∉ch:=λz=>(tM c z).2.2.1 x c e rfl;by_cases hc:c∈X.fs
  ·obtain⟨sl,q⟩:=slot c o (I.yq x c e) hc Ds ho (I.iD x c e);exact⟨_,q,hd⟩
  ·exact⟨o,keep c o (I.yq x c e) hc Ds ho (I.iD x c e),hd⟩
 refine⟨I.ok,I.os,hg,⟨λb o e n hb hx=>?_,λb o e n hb hx=>?_,λb o e n hx=>?_,λb o e hx=>?_,λb xs e=>tups b xs (I.base.tups b xs e),λb o xs e=>jG b o xs (I.base.jG b o xs e),λb ps e=>?_⟩,?_,λx c e=>?_,?_,λx c e=>?_,λp hp=>?_,hok,I.len⟩
 ·exact keep b o (T9 b o e) hb (Jd b o e hx) (I.base.keep b o e n hb hx) (I.base.free b o e n hx)
 ·obtain⟨sl,e1⟩:=I.base.slot b o e n hb hx;obtain⟨sl',e2⟩:=slot b _ (T9 b o e) hb (Jd b o e hx) e1 (I.base.free b o e n hx);exact⟨sl',e2⟩
 ·obtain⟨o',e1⟩:=I.base.there b o e hx;exact free b o' (Jd b o e hx) e1 (I.base.free b o e n hx)
 ·obtain⟨o',e1⟩:=I.base.there b o e hx;exact there b o' (Jd b o e hx) e1
 ·obtain⟨m1,e1⟩:=I.base.kJ b ps e;obtain⟨m2,e2⟩:=kJ b _ e1;exact⟨m1++m2,by rw[e2,Array.append_assoc]⟩
 ·obtain⟨m,hn,hl⟩:=I.loc;refine⟨m,ns m hn,λi x v e1 e2 e3=>?_⟩;obtain⟨u,r,l⟩:=hl i x v e1 e2 e3;refine⟨u,r,?_⟩;rcases l with l|⟨k,c,e,z⟩
  ·exact .inl l
  ·exact .inr ⟨k,c,e,cellK x c e _ z⟩
 ·obtain⟨v,z⟩:=I.cell x c e;exact⟨v,cellK x c e v z⟩
 ·obtain⟨m,⟨o,_,_,ho,_⟩,_⟩:=I.loc;exact free _ o (λz=>(tM _ z).2.1 rfl) ho I.free
 ·obtain⟨v,o,ho,hd⟩:=I.cell x c e;exact free c o (λz=>(tM c z).2.2.1 x c e rfl) ho (I.iD x c e)
 ·obtain⟨e,n,ne,nf,d⟩:=I.pin p hp;have Ds:p.1∉ch:=λz=>(tM p.1 z).2.2.2 p hp rfl;exact⟨keep p.1 p.2 ne nf Ds e n,free p.1 p.2 Ds e n,ne,nf,d⟩
theorem Inv.un{t':Nat}(I:Inv X ao Z H s)(u:Un X.fs [] H H' s.heap h')(hok:gZ X.prog X.w H' h'):Inv X ao Z H' {s with heap:=h',toks:=t'}:=by
 obtain⟨m,⟨o,es,ep,ho,r⟩,_⟩:=id I.loc;obtain⟨sl,hL⟩:=u.any ho I.free (by simp);exact I.step (g':=s.gens) (d':=s.drawn) (ch:=[]) (λ_ z=>nomatch z) (λb o _ hb _ e n=>u.keep b o e n hb (by simp)) (λb o _ hb _ e n=>u.slot b o e n hb (by simp)) (λb o _ e n=>u.free b o e n (by simp)) (λb o _ e=>u.there b o e (by simp)) u.tups u.jG u.kJ (λm' hm=>by
  obtain⟨o',es',ep',qW,r'⟩:=hm;rw[ho] at qW;cases qW;exact⟨_,es',ep',hL,r'⟩) hok I.bare
theorem Inv.call{g':Array GenState}{t':Nat}{d':Drawn}{ch:List Addr}(I:Inv X ao Z H s)(u:Un (frs X.stack) ch H H' s.heap h')(hok:gZ X.prog X.w H' h')(hg:AllBare g')
  (tM:∀b∈ch,(b∈X.ex\/X.s₀.heap.get? b=none)/\b≠X.env.locals/\(∀x c,X.env.cells.lookup x=some c->c≠b)/\∀p∈X.pn++ao,p.1≠b) :
  Inv X ao Z H' {s with heap:=h',gens:=g',drawn:=d',toks:=t'}:=by
 obtain⟨m,⟨o,es,ep,ho,r⟩,_⟩:=id I.loc;obtain⟨sl,hL⟩:=u.any ho I.free λz=>(tM _ z).2.1 rfl;exact I.step (ch:=ch) tM (λb o hL hb hc e n=>u.keep b o e n (λz=>(gG.mp (I.kW b z)).elim hL hb) hc) (λb o _ _ hc e n=>u.any e n hc) (λb o hc e n=>u.free b o e n hc) (λb o hc e=>u.there b o e hc) u.tups u.jG u.kJ (λm' hm=>by
  obtain⟨o',es',ep',qW,r'⟩:=hm;rw[ho] at qW;cases qW;exact⟨_,es',ep',hL,r'⟩) hok hg
theorem Inv.turned{t':Nat}{it:Addr}(I:Inv X ao Z H s)(k:∀b o,b≠it->s.heap.get? b=some o->h'.get? b=some o)(hn:H it=none)(hL:it≠X.env.locals)
  (h1:it∈X.ex\/X.s₀.heap.objs.size<=it) (h2:∀x c,X.env.cells.lookup x=some c->c≠it) (h3:∀p∈X.pn++ao,p.1≠it):Inv X ao Z H {s with heap:=h',toks:=t'}:=by
 have wz:∀b u,H b=some u->b≠it:=λb u e z=>by rw[z,hn] at e;cases e
 refine I.step (g':=s.gens) (d':=s.drawn) (ch:=[it]) (λb hb=>?_) (λb o _ _ hc e _=>k b o (λz=>hc (by simp[z])) e) (λb o _ _ hc e _=>⟨o.slots,k b o (λz=>hc (by simp[z])) e⟩) (λ_ _ _ _ n=>n)
  (λb o hc e=>⟨o,k b o (λz=>hc (by simp[z])) e⟩) (λ_ _ e=>e) (λ_ _ _ e=>e) (λb ps e=>⟨#[],by rw[e];simp⟩) (λm hm=>?_) (λb u e=>?_) I.bare
 ·have e:b=it:=by simpa using hb
  subst e;exact⟨h1.imp id λz=>Cm z,hL,h2,h3⟩
 ·obtain⟨o,es,ep,ho,r⟩:=hm;exact⟨o,es,ep,k _ o (Ne.symm hL) ho,r⟩
 ·refine(I.hok b u e).stay (λc v hc q=>k c v ?_ q) (λ_ q=>q) λ_ _ q=>q;rcases hc with z|z
  ·rw[z];exact wz b u e
  ·exact wz c _ z
theorem Inv.tok(I:Inv X ao Z H s)(t:Nat):Inv X ao Z H {s with toks:=t}:=I.un (h':=s.heap) (t':=t) Un.refl I.hok
theorem Inv.kept{t':Nat}(I:Inv X ao Z H s)(k:∀b u,s.heap.get? b=some u->h'.get? b=some u):Inv X ao Z H {s with heap:=h',toks:=t'}:=I.un (Un.kept k) (I.hok.kept k)
theorem Inv.laid{a:Addr}{o:HO}{t':Nat}(I:Inv X ao Z H s)(k:∀b u,s.heap.get? b=some u->h'.get? b=some u)(hp:s.heap.objs.size<=a)(new:bG X.prog X.w (upd H a o) h' a o) :
  Inv X ao Z (upd H a o) {s with heap:=h',toks:=t'}:=I.un (Un.laid k hp (I.hok.fresh hp)) (I.hok.laid k hp new)
theorem Inv.write{x e:Addr}{o:HO}{t':Nat}(I:Inv X ao Z H s)(mu:Dm (H x))(he:e=x\/H e=some (.own x))(k:∀b u,b≠e->s.heap.get? b=some u->h'.get? b=some u)(Bb:∃u,h'.get? e=some u)
  (new:bG X.prog X.w (upd H x o) h' x o):Inv X ao Z (upd H x o) {s with heap:=h',toks:=t'}:=I.un (Un.write mu he k Bb) (I.hok.write mu he k Bb new)
theorem Inv.kZ{iG:List (Addr×Obj)}(I:Inv X ao Z H s)(h:∀p∈iG,s.heap.get? p.1=some p.2/\H p.1=none/\p.1≠X.env.locals/\p.1∉X.fs/\∀v,p.2.data≠.cell v):Inv X iG Z H s:=
 ⟨I.ok,I.os,I.bare,I.base,I.loc,I.cell,I.free,I.iD,λp hp=>(nD.mp hp).elim (λz=>I.pin p (List.mem_append_left _ z)) (h p),I.hok,I.len⟩
theorem T_{N:List Str}(hN:N.Nodup){i j:Nat}{x:Str}(a:N[i]?=some x)(b:N[j]?=some x):i=j:=by
 obtain⟨h1,e1⟩:=dX.mp a;obtain⟨h2,e2⟩:=dX.mp b;exact(List.getElem_inj hN).mp (e1.trans e2.symm)
theorem Ua{M:Model}{A:Around}{E:Value->Shared->Prop}{i:Nat}{x:Str}{v:V}{u:Value}{Q:Unit->Shared->Prop}(I:Inv X ao Z H s)(hN:X.N.Nodup)(hi:X.N[i]?=some x)(hx:Loc X.env.scope x)(r:RelV v u)
  (h:∀s',Inv X ao (Z.set i (some v)) H s'->(∃a,Heap.SameBut a s.heap s'.heap/\(a=X.env.locals\/X.env.cells.lookup x=some a))->Q () s') (hf:X.fn x=true\/X.env.scope.names.lookup x=some .local:=by first|exact .inl rfl|exact .inr rfl|assumption):wpAny M A (storeName X.env x u) Q E s:=by
 obtain⟨m,hn,hl⟩:=id I.loc;have Mr:(X.env.scope.kind==.class||(X.env.scope.kind==.module&&X.env.locals != X.env.globals))=false:=by rw[I.ok.kind];rfl
 have Ub:i<Z.length:=by rw[I.len];exact(dX.mp hi).1
 have yq:=I.yq;have tracked:∀{a:Addr} {h':Heap},(∃o,s.heap.get? a=some o/\H a=none)->Heap.SameBut a s.heap h'->gZ X.prog X.w H h':=λ{a h'} ha hs b ob e=>by
  obtain⟨_,_,oN⟩:=ha;refine(I.hok b ob e).stay (λc w' hc q=>(hs.2 c ?_).trans q) (λ_ q=>q) λ_ _ q=>q;rintro rfl;rcases hc with rfl|hc
  ·rw[oN] at e;cases e
  ·rw[oN] at hc;cases hc
 rcases hx with hk|hk
 ·refine wpAny_storeName_local hk hn (λh' hn' hs=>?_) Mr;obtain⟨oL,_,_,Je,_⟩:=id hn;refine h _ ⟨I.ok,I.os,I.bare,⟨λb o e n hb hx=>?_,λb o e n hb hx=>?_,I.base.free,λb o e hx=>?_,I.base.tups,I.base.jG,I.base.kJ⟩,⟨_,hn',λj y v' e1 e2 e3=>?_⟩,λy c e=>?_,I.free,I.iD,λp hp=>?_,tracked ⟨oL,Je,I.free⟩ hs,by simpa using I.len⟩ ⟨_,hs,.inl rfl⟩
  ·exact(hs.2 b (dJ (gY (bR e) I.ok.above))).trans (I.base.keep b o e n hb hx)
  ·obtain⟨sl,e1⟩:=I.base.slot b o e n hb hx;exact⟨sl,(hs.2 b (dJ (gY (bR e) I.ok.above))).trans e1⟩
  ·obtain⟨o',e1⟩:=I.base.there b o e hx;exact⟨o',(hs.2 b (dJ (gY (bR e) I.ok.above))).trans e1⟩
  ·by_cases hj:j=i
   ·subst hj;rw[hi] at e1;cases e1;rw[vU Ub] at e2;cases e2;exact⟨u,r,.inl ⟨hk,by simp⟩⟩
   ·rw[qx (Ne.symm hj)] at e2;obtain⟨u',r',q⟩:=hl j y v' e1 e2 e3;refine⟨u',r',?_⟩;rcases q with ⟨k,e⟩|⟨k,c,e,z⟩
    ·refine .inl ⟨k,?_⟩;have:y≠x:=λe=>hj (T_ hN e1 (e▸hi));simp[this,e]
    ·exact .inr ⟨k,c,e,z.sameBut hs (yq y c e)⟩
  ·obtain⟨w',z⟩:=I.cell y c e;exact⟨w',z.sameBut hs (yq y c e)⟩
  ·obtain⟨e,n,ne,nf,d⟩:=I.pin p hp;exact⟨(hs.2 p.1 ne).trans e,n,ne,nf,d⟩
 ·have Ms:X.fn x=true:=by
   rcases hf with z|z
   ·exact z
   ·rw[z] at hk;cases hk
  obtain⟨c,hc⟩:=I.ok.has x (.inl hk);obtain⟨w',z⟩:=I.cell x c hc;refine wpAny_storeName_cell I.ok.kind hk hc z (λh' jJ hs=>?_);obtain⟨oc,Uc,Mu⟩:=id z;refine h {s with heap:=h'} ⟨I.ok,I.os,I.bare,⟨λb o e n hb hx=>?_,λb o e n hb hx=>?_,I.base.free,λb o e hx=>?_,I.base.tups,I.base.jG,I.base.kJ⟩,⟨m,hn.sameBut hs (Ne.symm (yq x c hc)),λj y v' e1 e2 e3=>?_⟩,λy c' e=>?_,I.free,I.iD,λp hp=>?_,tracked ⟨oc,Uc,I.iD x c hc⟩ hs,by simpa using I.len⟩ ⟨c,hs,.inr hc⟩
  ·exact(hs.2 b (dJ (gY (bR e) (I.ok.cab x c Ms hc)))).trans (I.base.keep b o e n hb hx)
  ·obtain⟨sl,e1⟩:=I.base.slot b o e n hb hx;exact⟨sl,(hs.2 b (dJ (gY (bR e) (I.ok.cab x c Ms hc)))).trans e1⟩
  ·obtain⟨o',e1⟩:=I.base.there b o e hx;exact⟨o',(hs.2 b (dJ (gY (bR e) (I.ok.cab x c Ms hc)))).trans e1⟩
  ·by_cases hj:j=i
   ·subst hj;rw[hi] at e1;cases e1;rw[vU Ub] at e2;cases e2;exact⟨u,r,.inr ⟨.inl hk,c,hc,jJ⟩⟩
   ·rw[qx (Ne.symm hj)] at e2;obtain⟨u',r',q⟩:=hl j y v' e1 e2 e3;refine⟨u',r',?_⟩;rcases q with q|⟨k,c',e,z'⟩
    ·exact .inl q
    ·refine .inr ⟨k,c',e,z'.sameBut hs ?_⟩;rintro rfl;exact hj (T_ hN e1 (I.ok.inj _ _ _ e hc▸hi))
  ·by_cases Ud:c'=c
   ·subst Ud;exact⟨_,jJ⟩
   ·obtain⟨w2,z2⟩:=I.cell y c' e;exact⟨w2,z2.sameBut hs Ud⟩
  ·obtain⟨e,n,ne,nf,d⟩:=I.pin p hp;refine⟨(hs.2 p.1 ?_).trans e,n,ne,nf,d⟩;intro q;rw[q,Uc] at e;have q':oc=p.2:=cD e;exact d w' (by rw[<-q'];exact Mu)
theorem Ue{M:Model}{A:Around}{E:Value->Shared->Prop}{i:Nat}{x:Str}{v:V}{u:Value}{Q:Unit->Shared->Prop}(I:Inv X ao Z H s)(hN:X.N.Nodup)(hi:X.N[i]?=some x)(hx:Loc X.env.scope x)(r:RelV v u)
  (h:∀s',Inv X ao (Z.set i (some v)) H s'->Q () s') (hf:X.fn x=true\/X.env.scope.names.lookup x=some .local:=by first|exact .inl rfl|exact .inr rfl|assumption):wpAny M A (storeName X.env x u) Q E s:=
 Ua I hN hi hx r (λs' I' _=>h s' I') hf
theorem Inv.call'{s':Shared}{ch:List Addr}(I:Inv X ao Z H s)(ho:s'.os=s.os)(u:Un (frs X.stack) ch H H' s.heap s'.heap)(hok:gZ X.prog X.w H' s'.heap)(hg:AllBare s'.gens)
  (tM:∀b∈ch,(b∈X.ex\/X.s₀.heap.get? b=none)/\b≠X.env.locals/\(∀x c,X.env.cells.lookup x=some c->c≠b)/\∀p∈X.pn++ao,p.1≠b):Inv X ao Z H' s':=by
 obtain⟨h',g',d',t',o'⟩:=s';have e:o'=s.os:=ho;subst e;exact I.call (g':=g') (t':=t') (d':=d') u hok hg tM
end
noncomputable abbrev XK:=Value->Option Addr->Hp->Prop
noncomputable abbrev St:=List (Option V)
noncomputable abbrev VK:=V->Hp->Prop
noncomputable abbrev TE:=St->Hp->VK->Prop
noncomputable abbrev TT:=St->Hp->(Bool->Hp->Prop)->Prop
noncomputable abbrev TA:=St->Hp->(List V->Hp->Prop)->Prop
structure Ends where
 nx:St->Hp->Prop
 rt:VK
 bk:St->Hp->Prop:=λ_ _=>False
 ct:St->Hp->Prop:=λ_ _=>False
noncomputable abbrev TS:=Ends->St->Hp->Prop
def EP(X:Cx)(ao:List (Addr×Obj))(Z:St)(Q:VK)(u:Value)(s':Shared):Prop:=∃v H',Inv X ao Z H' s'/\RelV v u/\Q v H'
def TP(X:Cx)(ao:List (Addr×Obj))(Z:St)(Q:Bool->Hp->Prop)(b:Bool)(s':Shared):Prop:=∃H',Inv X ao Z H' s'/\Q b H'
def AP(X:Cx)(ao:List (Addr×Obj))(Z:St)(Q:List V->Hp->Prop)(us:List Value)(s':Shared):Prop:=∃vs H',Inv X ao Z H' s'/\Vals vs us/\Q vs H'
def SP(X:Cx)(ao:List (Addr×Obj))(D:Ends)(f:Flow)(s':Shared):Prop:=
 match f with
 |.next=>∃Z' H',Inv X ao Z' H' s'/\D.nx Z' H'
 |.brk=>∃Z' H',Inv X ao Z' H' s'/\D.bk Z' H'
 |.cont=>∃Z' H',Inv X ao Z' H' s'/\D.ct Z' H'
 |.ret u=>∃v Z' H',Inv X ao Z' H' s'/\RelV v u/\D.rt v H'
def PE(X:Cx)(e:Expr)(t:TE):Prop:=
 ∀(ao:List (Addr×Obj)) (s:Shared) (Z:St) (H:Hp) (Q:VK),Inv X ao Z H s->t Z H Q->wpAny (model X.prog X.w) X.A (eval e X.env) (EP X ao Z Q) X.xe s
def PT(X:Cx)(e:Expr)(t:TT):Prop:=
 ∀(ao:List (Addr×Obj)) (s:Shared) (Z:St) (H:Hp) (Q:Bool->Hp->Prop),Inv X ao Z H s->t Z H Q->wpAny (model X.prog X.w) X.A (isTrue e X.env (eval e X.env)) (TP X ao Z Q) X.xe s
def PW(X:Cx)(e:Expr)(t:TT):Prop:=
 ∀(whole:Sem Value) (ao:List (Addr×Obj)) (s:Shared) (Z:St) (H:Hp) (Q:Bool->Hp->Prop),Inv X ao Z H s->t Z H Q->wpAny (model X.prog X.w) X.A (isTrue e X.env whole) (TP X ao Z Q) X.xe s
theorem Kac{X:Cx}{e:Expr}{t:TT}(h:PW X e t):PT X e t:=h _
def PA(X:Cx)(es:List Expr)(t:TA):Prop:=
 ∀(pos:Pos) (ao:List (Addr×Obj)) (s:Shared) (Z:St) (H:Hp) (Q:List V->Hp->Prop),Inv X ao Z H s->t Z H Q->wpAny (model X.prog X.w) X.A (spliced (backTo pos (starEach es X.env))) (AP X ao Z Q) X.xe s
def PS(X:Cx)(st:Stmt)(t:TS):Prop:=
 ∀(ao:List (Addr×Obj)) (s:Shared) (Z:St) (H:Hp) (D:Ends),Inv X ao Z H s->t D Z H->wpAny (model X.prog X.w) X.A (exec st X.env) (SP X ao D) X.xe s
def oO(X:Cx)(st:List Stmt)(t:TS):Prop:=
 ∀(ao:List (Addr×Obj)) (s:Shared) (Z:St) (H:Hp) (D:Ends),Inv X ao Z H s->t D Z H->wpAny (model X.prog X.w) X.A (execs st X.env) (SP X ao D) X.xe s
theorem aZ{α:Type}{t:Sem α}{Q Q':α->Shared->Prop}{M:Model}{A:Around}{E:Value->Shared->Prop}{s:Shared}(h:wpAny M A t Q E s)(hQ:∀a s,Q a s->Q' a s):wpAny M A t Q' E s:=lO h hQ λ_ _ x=>x
section
variable {X:Cx}
noncomputable def Mv(i:Nat):TE:=λZ H Q=>∃v,Z[i]?=some (some v)/\Q v H
noncomputable def tC(v:V):TE:=λ_ H Q=>Q v H
theorem Ug{i:Nat}{x:Str}{pos:Pos}(hN:X.N[i]?=some x)(hv:Ml X.env.scope x)(hd:(x==("__debug__" : Str))=false:=by decide)(jD:(x==("__classdict__" : Str))=false:=by decide):PE X (.Name x pos) (Mv i):=by
 intro ao s Z H Q I h;obtain⟨v,e,h⟩:=h;obtain⟨m,hn,hl⟩:=I.loc;obtain⟨u,r,l⟩:=hl i x v hN e hv;have fin:EP X ao Z Q u s:=⟨v,H,I,r,h⟩;rcases l with ⟨hk,hm⟩|⟨hk,c,hc,wA⟩
 ·exact wpAny_Name (wpAny_loadName_local I.ok.kind hk hn hm fin) hd
 ·rcases hk with hk|hk
  ·exact wpAny_Name (wpAny_loadName_cell I.ok.kind hk hc wA fin) hd
  ·exact wpAny_Name (wpAny_loadName_free I.ok.kind hk hc wA fin jD) hd
theorem Uh{i j pos}:PE X (.Constant (.int i) j pos) (tC (.int i)):=λ_ _ _ H _ I h=>wpAny_Constant_int ⟨.int i,H,I.tok _,⟨_,rfl⟩,h⟩
theorem zmT{b j pos}:PE X (.Constant (.bool b) j pos) (tC (.bl b)):=λ_ _ _ H _ I h=>Constant_bool ⟨.bl b,H,I,rfl,h⟩
theorem zkL{j pos}:PE X (.Constant .none j pos) (tC .non):=λ_ _ _ H _ I h=>Constant_none ⟨.non,H,I,rfl,h⟩
def Gl(X:Cx)(x:Str):Prop:=X.env.kindOf x=some .globalImplicit
theorem Mw{E:Value->Shared->Prop}{ao:List (Addr×Obj)}{s:Shared}{Z:St}{H:Hp}{x:Str}{u:Value}{pos:Pos}{Q:Value->Shared->Prop}(I:Inv X ao Z H s)(hg:Gl X x)(hm:X.mg x=some u)(h:Q u s)
  (hd:(x==("__debug__" : Str))=false:=by decide):wpAny (model X.prog X.w) X.A (eval (.Name x pos) X.env) Q E s:=
 Calls.Name_function_global I.ok.kind hg (Calls.loadGlobal_global (by rw[I.ok.glob];exact I.mod.glob.keeps I.bk) hm h) hd
theorem uH{E:Value->Shared->Prop}{ao:List (Addr×Obj)}{s:Shared}{Z:St}{H:Hp}{x:Str}{u:Value}{pos:Pos}{Q:Value->Shared->Prop}(I:Inv X ao Z H s)(hg:Gl X x)(hm:X.mg x=none)(hv:bootBuiltins x=some u)(h:Q u s)
  (hn:x≠"__name__":=by decide) (hd:(x==("__debug__" : Str))=false:=by decide):wpAny (model X.prog X.w) X.A (eval (.Name x pos) X.env) Q E s:=by
 obtain⟨mb,h1,h2⟩:=I.mod.blt;exact Calls.Name_function_global I.ok.kind hg (Calls.loadGlobal_builtin (by rw[I.ok.glob];exact I.mod.glob.keeps I.bk) hm (by rw[I.ok.blt];exact h1.keeps I.bk) ((h2 x hn).trans hv) h) hd
theorem ziV{x:Str}{v:V}{u:Value}{pos:Pos}(hg:Gl X x)(hm:X.mg x=some u)(r:RelV v u)(hd:(x==("__debug__" : Str))=false:=by decide):PE X (.Name x pos) (tC v):=
 λ_ _ _ H _ I h=>Mw I hg hm ⟨v,H,I,r,h⟩ hd
variable {a b:Expr}{ta tb:TE}{pos:Pos}
def PC(X:Cx)(op:CmpOp)(a b:Expr)(t:TE):Prop:=
 ∀(ao:List (Addr×Obj)) (s:Shared) (Z:St) (H:Hp) (Q:VK),Inv X ao Z H s->t Z H Q->
  wpAny (model X.prog X.w) X.A (eval a X.env) (λv s₁=>wpAny (model X.prog X.w) X.A (eval b X.env) (λu s₂=>wpAny (model X.prog X.w) X.A (compareOp op v u) (EP X ao Z Q) X.xe s₂) X.xe s₁) X.xe s
theorem mj(b:Expr){op:CmpOp}(h:op≠.In)(h2:op≠.NotIn):behindInMarks op b=false:=by
 have e1:(op==CmpOp.In)=false:=by cases op<;>first|rfl|exact absurd rfl h
 have e2:(op==CmpOp.NotIn)=false:=by cases op<;>first|rfl|exact absurd rfl h2
 cases b<;>simp[behindInMarks,e1,e2]
noncomputable def Mx(ta:TE):TE:=λZ H Q=>ta Z H λx H1=>Q (.bl (decide (x=.non))) H1
noncomputable def Dt(ta:TE):TE:=λZ H Q=>ta Z H λx H1=>Q (.bl (!decide (x=.non))) H1
theorem RelV.mz{x:V}{v:Value}(r:RelV x v):(v==Value.none)=decide (x=.non):=by
 cases x with
 |non=>cases r;rfl
 |bl _=>cases r;rfl
 |int _=>obtain⟨t,rfl⟩:=r;rfl
 |str _=>obtain⟨t,rfl⟩:=r;rfl
 |yd _=>obtain⟨t,rfl⟩:=r;rfl
 |flt _=>obtain⟨t,rfl⟩:=r;rfl
 |ref _=>cases r;rfl
 |ty _=>cases r;rfl
theorem Ui{j pos'}(ha:PE X a ta):PC X .Is a (.Constant .none j pos') (Mx ta):=by
 intro ao s Z H Q I h;refine aZ (ha ao s Z H _ I h) λv s1 hx=>dY hx λx H1 I1 r1 q1=>?_;exact Constant_none (is_none_gen ⟨.bl _,H1,I1,by rw[r1.mz];rfl,q1⟩)
theorem Uj{j pos'}(ha:PE X a ta):PC X .IsNot a (.Constant .none j pos') (Dt ta):=by
 intro ao s Z H Q I h;refine aZ (ha ao s Z H _ I h) λv s1 hx=>dY hx λx H1 I1 r1 q1=>?_;exact Constant_none (isnot_none_gen ⟨.bl _,H1,I1,by rw[r1.mz];rfl,q1⟩)
noncomputable def tB(t:TE):TT:=λZ H Q=>t Z H λx H1=>∃c,x=.bl c/\Q c H1
theorem Uk{op:CmpOp}{t:TE}(h:PC X op a b t)(h1:behindInMarks op b=false:=by first|exact mj _ (by decide) (by decide)|rfl):PE X (.Compare a [op] [b] pos) t:=λao s Z H Q I hw=>wpAny_Compare1 (h ao s Z H Q I hw) h1
theorem Mz{op:CmpOp}{t:TE}(h:PC X op a b t)(h1:behindInMarks op b=false:=by first|exact mj _ (by decide) (by decide)|rfl):PT X (.Compare a [op] [b] pos) (tB t):=by
 intro ao s Z H Q I hw;refine wpAny_isTrue_Compare1 (aZ (h ao s Z H _ I hw) λv s1 h1=>aZ h1 λu s2 h2=>aZ h2 λc s3 hx=>dY hx λx H1 I1 r1 q1=>?_) h1;obtain⟨d,rfl,q⟩:=q1;cases r1;exact sZ ⟨H1,I1,q⟩
theorem zkQ{e:Expr}{t:TE}(h:PE X e t)(he:∀whole,isTrue e X.env whole=(do let v <-whole;standAt e.pos;holding [v] (truthy v)):=by intro _;rfl):PT X e (tB t):=by
 intro ao s Z H Q I hw;refine isTrue_plain (aZ (h ao s Z H _ I hw) λv s1 hx=>dY hx λx H1 I1 r1 q1=>?_) (he _);obtain⟨d,rfl,q⟩:=q1;cases r1;exact sZ ⟨H1,I1,q⟩
variable {tA Jf:TT}{rest:List Expr}
noncomputable def MF(t u:TT):TT:=λZ H Q=>t Z H λc H1=>if c=true then u Z H1 Q else Q false H1
noncomputable def tOr(t u:TT):TT:=λZ H Q=>t Z H λc H1=>if c=true then Q true H1 else u Z H1 Q
noncomputable def MJ(t:TT):TT:=λZ H Q=>t Z H λc H1=>Q (!c) H1
theorem zjg(ha:PT X a tA):PW X (.BoolOp .And [a] pos) tA:=by
 intro wh ao s Z H Q I h;refine isTrue_and (aZ (ha ao s Z H Q I h) λc s1 e=>?_);cases c with
 |true=>exact isTrue_and_nil e
 |false=>exact e
theorem zlY(ha:PT X a tA):PW X (.BoolOp .Or [a] pos) tA:=by
 intro wh ao s Z H Q I h;refine isTrue_or (aZ (ha ao s Z H Q I h) λc s1 e=>?_);cases c with
 |false=>exact isTrue_or_nil e
 |true=>exact e
theorem zkT(ha:PT X a tA)(hb:PW X (.BoolOp .And (b::rest) pos) Jf):PW X (.BoolOp .And (a::b::rest) pos) (MF tA Jf):=by
 intro wh ao s Z H Q I h;refine isTrue_and (aZ (ha ao s Z H _ I h) λc s1 hx=>uF hx λH1 I1 q1=>?_);cases c with
 |true=>exact hb wh ao s1 Z H1 Q I1 q1
 |false=>exact⟨H1,I1,q1⟩
theorem zmp(ha:PT X a tA)(hb:PW X (.BoolOp .Or (b::rest) pos) Jf):PW X (.BoolOp .Or (a::b::rest) pos) (tOr tA Jf):=by
 intro wh ao s Z H Q I h;refine isTrue_or (aZ (ha ao s Z H _ I h) λc s1 hx=>uF hx λH1 I1 q1=>?_);cases c with
 |true=>exact⟨H1,I1,q1⟩
 |false=>exact hb wh ao s1 Z H1 Q I1 q1
theorem zkE(ha:PT X a tA):PT X (.UnaryOp .Not a pos) (MJ tA):=by
 intro ao s Z H Q I h;exact isTrue_not (ha ao s Z H (λc H1=>Q (!c) H1) I h)
noncomputable def Du(ta tb:TE):TE:=λZ H Q=>ta Z H λx H1=>∃c,x=.bl c/\if c=true then tb Z H1 Q else Q (.bl false) H1
noncomputable def MK(ta tb:TE):TE:=λZ H Q=>ta Z H λx H1=>∃c,x=.bl c/\if c=true then Q (.bl true) H1 else tb Z H1 Q
noncomputable def Dv(ta:TE):TE:=λZ H Q=>ta Z H λx H1=>∃c,x=.bl c/\Q (.bl (!c)) H1
theorem zko{op}{t:TE}(h:PE X a t):PE X (.BoolOp op [a] pos) t:=λao s Z H Q I hw=>BoolOp_one (h ao s Z H Q I hw)
theorem zj9(ha:PE X a ta)(hb:PE X (.BoolOp .And (b::rest) pos) tb):PE X (.BoolOp .And (a::b::rest) pos) (Du ta tb):=by
 intro ao s Z H Q I h;refine BoolOp_and (aZ (ha ao s Z H _ I h) λv s1 hx=>dY hx λx H1 I1 r1 q1=>?_);obtain⟨c,rfl,q1⟩:=q1;cases r1;refine sZ ?_;cases c with
 |true=>exact hb ao s1 Z H1 Q I1 q1
 |false=>exact⟨.bl false,H1,I1,rfl,q1⟩
theorem zmB(ha:PE X a ta)(hb:PE X (.BoolOp .Or (b::rest) pos) tb):PE X (.BoolOp .Or (a::b::rest) pos) (MK ta tb):=by
 intro ao s Z H Q I h;refine BoolOp_or (aZ (ha ao s Z H _ I h) λv s1 hx=>dY hx λx H1 I1 r1 q1=>?_);obtain⟨c,rfl,q1⟩:=q1;cases r1;refine sZ ?_;cases c with
 |false=>exact hb ao s1 Z H1 Q I1 q1
 |true=>exact⟨.bl true,H1,I1,rfl,q1⟩
theorem zlc(ha:PE X a ta):PE X (.UnaryOp .Not a pos) (Dv ta):=by
 intro ao s Z H Q I h;refine UnaryOp_ (aZ (ha ao s Z H _ I h) λv s1 hx=>dY hx λx H1 I1 r1 q1=>?_);obtain⟨c,rfl,q1⟩:=q1;cases r1;exact not_of (sZ ⟨.bl (!c),H1,I1,rfl,q1⟩)
noncomputable def tIf(t:TT)(ta tb:TE):TE:=λZ H Q=>t Z H λc H1=>if c=true then ta Z H1 Q else tb Z H1 Q
theorem zg1{c:Expr}(hc:PT X c tA)(ha:PE X a ta)(hb:PE X b tb):PE X (.IfExp c a b pos) (tIf tA ta tb):=by
 intro ao s Z H Q I h;refine wpAny_IfExp (aZ (hc ao s Z H _ I h) λd s1 hx=>uF hx λH1 I1 q1=>?_);cases d with
 |true=>exact ha ao s1 Z H1 Q I1 q1
 |false=>exact hb ao s1 Z H1 Q I1 q1
end
def cM(K:W.Frag)(H:Hp)(a:Addr)(xs:List V):Prop:=
 Rd H a (.lst xs) \/
  ∃(o:Obj) (its:Array Value) (n:Nat),K.lookup a=some o/\o.cls=.type "list"/\o.dict=none/\o.data=.seq its n/\its.size<=sizeLine/\Vals xs its.toList
def fu(K:W.Frag)(H:Hp)(a:Addr)(xs:List V):Prop:=
 Rd H a (.tup xs) \/
  ∃(o:Obj) (its:Array Value) (n:Nat),K.lookup a=some o/\o.cls=.type "tuple"/\o.data=.seq its n/\its.size<=sizeLine/\Vals xs its.toList
noncomputable def MN:Value->Option V
 |.none=>some .non
 |.bool b=>some (.bl b)
 |.int i _=>some (.int i)
 |.str x _=>some (.str x)
 |.bytes b _=>some (.yd b)
 |.float b _=>some (.flt b)
 |.ref a=>some (.ref a)
 |.type n=>some (.ty n)
 |_=>none
theorem RelV.abs{x:V}{u:Value}(r:RelV x u):MN u=some x:=by
 cases x with
 |non=>cases r;rfl
 |bl _=>cases r;rfl
 |int _=>obtain⟨t,rfl⟩:=r;rfl
 |str _=>obtain⟨t,rfl⟩:=r;rfl
 |yd _=>obtain⟨t,rfl⟩:=r;rfl
 |flt _=>obtain⟨t,rfl⟩:=r;rfl
 |ref _=>cases r;rfl
 |ty _=>cases r;rfl
theorem RelV.inj{x y:V}{u:Value}(r:RelV x u)(q:RelV y u):x=y:=cD (r.abs.symm.trans q.abs)
theorem Vals.inj{xs ys:List V}{us:List Value}(h:Vals xs us)(h':Vals ys us):xs=ys:=by
 induction h generalizing ys with
 |nil=>cases h';rfl
 |cons r _ ih=>
  cases h' with
  |cons r' t'=>rw[r.inj r',ih t']
section
variable {X:Cx}{ao:List (Addr×Obj)}{Z:St}{H:Hp}{s:Shared}{a:Addr}{xs ys:List V}
theorem cM.of{K:W.Frag}(h:H a=some (.lst xs)):cM K H a xs:=.inl (.inl h)
theorem Inv.list(I:Inv X ao Z H s)(h:cM X.K H a xs):∃its:List Value,Vals xs its/\PlainL s.heap a its.toArray/\xs.length<=sizeLine:=by
 rcases h with h|⟨o,its,n,hk,hc,hd,hs,hz,r⟩
 ·obtain⟨z,its,n,r,e⟩:=h.ok I.hok;exact⟨its,r,⟨_,n,e,rfl,rfl,rfl⟩,z⟩
 ·refine⟨its.toList,r,⟨o,n,I.lZ a o hk,hc,hd,by simpa using hs⟩,?_⟩;have e:=r.length;simp only[uq] at e
  lia
theorem Inv.tuple(I:Inv X ao Z H s)(h:fu X.K H a xs):∃its:List Value,Vals xs its/\IsTup s.heap a its.toArray/\xs.length<=sizeLine:=by
 rcases h with h|⟨o,its,n,hk,hc,hs,hz,r⟩
 ·obtain⟨z,its,r,p⟩:=h.ok I.hok;exact⟨its,r,p,z⟩
 ·refine⟨its.toList,r,⟨o,I.lZ a o hk,hc,n,by simpa using hs⟩,?_⟩;have e:=r.length;simp only[uq] at e
  lia
theorem Inv.mC(I:Inv X ao Z H s)(h:cM X.K H a xs)(h':cM X.K H a ys):xs=ys:=by
 obtain⟨its,r,⟨o,n,e,_,_,d⟩,_⟩:=I.list h;obtain⟨its',r',⟨o',n',e',_,_,d'⟩,_⟩:=I.list h';rw[e] at e';cases e';rw[d] at d';injection d' with d1 _;have:its=its':=by simpa using lW Array.toList d1
 subst this;exact r.inj r'
theorem Inv.jQ(I:Inv X ao Z H s)(h:fu X.K H a xs)(h':fu X.K H a ys):xs=ys:=by
 obtain⟨its,r,⟨o,e,_,n,d⟩,_⟩:=I.tuple h;obtain⟨its',r',⟨o',e',_,n',d'⟩,_⟩:=I.tuple h';rw[e] at e';cases e';rw[d] at d';injection d' with d1 _;have:its=its':=by simpa using lW Array.toList d1
 subst this;exact r.inj r'
end
section
variable {X:Cx}{ao:List (Addr×Obj)}{Z:St}{H:Hp}{s:Shared}{E:Value->Shared->Prop}
end
section
variable {X:Cx}{st:Stmt}{rest:List Stmt}{t u:TS}{e:Expr}{te:TE}{pos:Pos}
noncomputable def Dw:TS:=λD Z H=>D.nx Z H
noncomputable def MP(t u:TS):TS:=λD Z H=>t {D with nx:=u D} Z H
theorem Ul:oO X [] Dw:=λ_ _ Z H _ I h=>wpAny_execs_nil ⟨Z,H,I,h⟩
theorem Um(h1:PS X st t)(h2:oO X rest u):oO X (st::rest) (MP t u):=by
 intro ao s Z H D I h;refine wpAny_execs_cons (aZ (h1 ao s Z H {D with nx:=u D} I h) λf s1 q=>?_);cases f with
 |next=>
  obtain⟨Z',H',I',q⟩:=q;exact h2 ao s1 Z' H' D I' q
 |ret v=>exact q
 |brk=>exact q
 |cont=>exact q
theorem Inv.quiet{ao:List (Addr×Obj)}{Z:St}{H:Hp}{s:Shared}(I:Inv X ao Z H s):interactive X.env=false:=by simp[interactive,I.ok.kind]
noncomputable def Dy(te:TE):TS:=λD Z H=>te Z H λ_ H1=>D.nx Z H1
theorem zjs(he:PE X e te)(hs:swapsWith e none pos.line X.env=pure false:=by rfl):PS X (.Expr e pos) (Dy te):=by
 intro ao s Z H D I h;exact wpAny_Expr_any (aZ (he ao s Z H _ I h) λv s1 hx=>dY hx λx H1 I1 r1 q1=>⟨Z,H1,I1,q1⟩) I.quiet hs
noncomputable def M4(te:TE):TS:=λD Z H=>te Z H D.rt
theorem zlj(he:PE X e te):PS X (.Return (some e) pos) (M4 te):=by
 intro ao s Z H D I h;exact wpAny_Return_some (aZ (he ao s Z H _ I h) λv s1 hx=>dY hx λx H1 I1 r1 q1=>⟨x,Z,H1,I1,r1,q1⟩)
noncomputable def M5(c:TT)(t u:TS):TS:=λD Z H=>c Z H λb H1=>if b=true then t D Z H1 else u D Z H1
theorem zni{c:Expr}{a b:List Stmt}{tc:TT}(hc:PT X c tc)(ha:oO X a t)(hb:oO X b u):PS X (.If c a b pos) (M5 tc t u):=by
 intro ao s Z H D I h;refine wpAny_If (aZ (hc ao s Z H _ I h) λd s1 hx=>uF hx λH1 I1 q1=>?_);cases d with
 |true=>exact ha ao s1 Z H1 D I1 q1
 |false=>exact hb ao s1 Z H1 D I1 q1
end
noncomputable abbrev TG:=V->St->Hp->(St->Hp->Prop)->Prop
noncomputable abbrev yr:=List V->St->Hp->(St->Hp->Prop)->Prop
def PG(X:Cx)(target:Expr)(t:TG):Prop:=
 ∀(ao:List (Addr×Obj)) (s:Shared) (Z:St) (H:Hp) (v:V) (u:Value) (Q:St->Hp->Prop),Inv X ao Z H s->RelV v u->t v Z H Q->
  wpAny (model X.prog X.w) X.A (assign target X.env u) (λ_ s'=>∃Z' H',Inv X ao Z' H' s'/\Q Z' H') X.xe s
def Jg(X:Cx)(ts:List Expr)(t:yr):Prop:=
 ∀(ao:List (Addr×Obj)) (s:Shared) (Z:St) (H:Hp) (vs:List V) (us:List Value) (Q:St->Hp->Prop),Inv X ao Z H s->Vals vs us->t vs Z H Q->
  wpAny (model X.prog X.w) X.A (assignInOrder ((assignEach ts X.env).map (·.2)) us) (λ_ s'=>∃Z' H',Inv X ao Z' H' s'/\Q Z' H') X.xe s
noncomputable abbrev yt:=V->V->V->Hp->(Hp->Prop)->Prop
def Dz(X:Cx)(t:yt):Prop:=
 ∀(ao:List (Addr×Obj)) (s:Shared) (Z:St) (H:Hp) (o i v:V) (ov iv u:Value) (Q:Hp->Prop),Inv X ao Z H s->RelV o ov->RelV i iv->RelV v u->t o i v H Q->
  wpAny (model X.prog X.w) X.A (setItem ov iv u) (λ_ s'=>∃H',Inv X ao Z H' s'/\Q H') X.xe s
section
variable {X:Cx}{pos:Pos}
noncomputable def dD(i:Nat):TG:=λv Z H Q=>Q (Z.set i (some v)) H
theorem Jh{i:Nat}{x:Str}(hN:X.N.Nodup)(hi:X.N[i]?=some x)(hx:Loc X.env.scope x)(hf:X.fn x=true\/X.env.scope.names.lookup x=some .local:=by first|exact .inl rfl|exact .inr rfl|assumption):PG X (.Name x pos) (dD i):=by
 intro ao s Z H v u Q I r h;exact wpAny_assign_Name (Ue I hN hi hx r (λs' I'=>⟨_,H,I',h⟩) hf)
noncomputable def qX:yr:=λvs Z H Q=>vs=[]/\Q Z H
noncomputable def gH(t:TG)(u:yr):yr:=λvs Z H Q=>∃v r,vs=v::r/\t v Z H λZ' H'=>u r Z' H' Q
theorem zjL:Jg X [] qX:=by
 intro ao s Z H vs us Q I r h;obtain⟨e,h⟩:=h;subst e;cases r;exact assignInOrder_nil ⟨Z,H,I,h⟩
theorem Uo{e:Expr}{es:List Expr}{t:TG}{u:yr}(h1:PG X e t)(h2:Jg X es u)
  (hs:(assignEach (e::es) X.env).map (·.2)=assign e X.env::(assignEach es X.env).map (·.2):=by rfl):Jg X (e::es) (gH t u):=by
 intro ao s Z H vs us Q I r h;obtain⟨v,vr,e1,h⟩:=h;subst e1;cases r with
 |cons r rr=>
  rw[hs];refine assignInOrder_cons (aZ (h1 ao s Z H _ _ _ I r h) λ_ s1 ⟨Z1,H1,I1,q1⟩=>?_);exact h2 ao s1 Z1 H1 _ _ Q I1 rr q1
noncomputable def qY(K:W.Frag)(n:Nat)(t:yr):TG:=λv Z H Q=>∃a xs,v=.ref a/\fu K H a xs/\xs.length=n/\t xs Z H Q
theorem zl5{es:List Expr}{k:Nat}{t:yr}{n:Nat}(hc:X.aj=true)(h:Jg X es t)
  (hn:(assignEach es X.env).length=n:=by rfl) (yu:(assignEach es X.env).findIdx? (·.1)=none:=by rfl):PG X (.Tuple es k pos) (qY X.K n t):=by
 intro ao s Z H v u Q I r hw;obtain⟨a,xs,e1,hq,hl,hw⟩:=hw;subst e1;cases r;obtain⟨its,rv,ht,hz⟩:=I.tuple hq;refine assign_Tuple_tuple (I.ok.hd hc) ht (by simp[hn,<-hl,rv.length]) yu λh' hx=>?_;have I1:Inv X ao Z H {s with heap:=h'}:=I.kept (t':=s.toks) λb o e=>hx b o (dJ (bR e)) e;exact h ao _ Z H xs _ Q I1 (by simpa using rv) hw
noncomputable def M6(to ti:TE)(t:yt):TG:=λv Z H Q=>to Z H λo H1=>ti Z H1 λi H2=>t o i v H2 λH3=>Q Z H3
theorem zkx{o i:Expr}{to ti:TE}{t:yt}(ho:PE X o to)(hi:PE X i ti)(hs:Dz X t)
  (ha:∀v,assign (.Subscript o i pos) X.env v=(do
   let ov <-holding [v] (eval o X.env)
   let iv <-holding [v,ov] (eval i X.env)
   standAt pos
   holding [v,ov,iv] (setItem ov iv v)
   release [v,ov,iv] []):=by intro _;rfl):PG X (.Subscript o i pos) (M6 to ti t):=by
 intro ao s Z H v u Q I r h;rw[ha];refine aC (pO (aZ (ho ao s Z H _ I h) λov s1 hx=>dY hx λx H1 I1 r1 q1=>?_));refine aC (pO (aZ (hi ao s1 Z H1 _ I1 q1) λiv s2 hx=>dY hx λy H2 I2 r2 q2=>?_));refine aC (wpAny_standAt (aC (pO (aZ (hs ao s2 Z H2 x y v ov iv u _ I2 r1 r2 r q2) λ_ s3 hx=>uF hx λH3 I3 q3=>?_))));exact wpAny_release ⟨Z,H3,I3,q3⟩
noncomputable def yw(te:TE)(g:TG):TS:=λD Z H=>te Z H λx H1=>g x Z H1 D.nx
theorem Uq{tg e:Expr}{te:TE}{g:TG}(he:PE X e te)(hg:PG X tg g)(hs:swapsWithSole [tg] e pos.line X.env=pure false:=by rfl)(hw:swappedStores [tg] e X.env=pure none:=by rfl)
  (h1:(assignEach [tg] X.env).map (·.2)=[assign tg X.env]:=by rfl):PS X (.Assign [tg] e pos) (yw te g):=by
 intro ao s Z H D I h;refine wpAny_Assign_stores (aZ (he ao s Z H _ I h) λv s1 hx=>dY hx λx H1 I1 r1 q1=>?_) hs hw;rw[h1];exact aZ (hg ao s1 Z H1 x v _ I1 r1 q1) λ_ s2 q=>q
theorem zlr{i:Nat}{x:Str}{e:Expr}{te:TE}{pos':Pos}(hN:X.N.Nodup)(hi:X.N[i]?=some x)(hx:Loc X.env.scope x)(he:PE X e te)(hs:swapsWith e (some (.Name x pos')) pos.line X.env=pure false:=by rfl)(hf:X.fn x=true\/X.env.scope.names.lookup x=some .local:=by first|exact .inl rfl|exact .inr rfl|assumption) :
  PS X (.Assign [.Name x pos'] e pos) (yw te (dD i)):=by
 intro ao s Z H D I h;refine wpAny_Assign_Name (aZ (he ao s Z H _ I h) λv s1 ⟨y,H1,I1,r1,q1⟩=>?_) hs;exact Ue I1 hN hi hx r1 (λs2 I2=>⟨_,H1,I2,q1⟩) hf
end
section
variable {X:Cx}{pos:Pos}
end
structure It where
 go:Nat->Hp->Prop
 yx:Nat->Hp->V->Hp->Prop
 stop:Nat->Hp->Prop
def h_(X:Cx)(ao:List (Addr×Obj))(H:Hp)(b:Addr):Prop:=
 H b=none/\b≠X.env.locals/\b∉X.fs/\(b∈X.ex\/X.s₀.heap.objs.size<=b)/\(∀x c,X.env.cells.lookup x=some c->c≠b)/\∀p∈X.pn++ao,p.1≠b
theorem Inv.qZ{X:Cx}{ao:List (Addr×Obj)}{Z:St}{H H':Hp}{s:Shared}{b:Addr}(I:Inv X ao Z H s)(hb:s.heap.objs.size<=b)(hn:H' b=none):h_ X ao H' b:=by
 refine⟨hn,uD (gY I.lt hb),I.Mq hb,.inr (jO I.sz hb),λx c e z=>?_,λp hp z=>?_⟩
 ·obtain⟨v,q⟩:=I.cell x c e;exact absurd (gY q.lt (by rw[z];exact hb)) (oH _)
 ·exact absurd (gY (bR (I.pin p hp).1) (by rw[z];exact hb)) (oH _)
structure Turn(P:Program)(w:World)(K:W.Frag)(tg:Expr)(cF:It)(fp:List Addr)(it:Addr)(tn:Nat->Heap->Prop):Prop where
 mem:it∈fp
 obj:∀i h,tn i h->∀b∈fp,∃o,h.get? b=some o/\∀v,o.data≠.cell v
 keep:∀i h h',tn i h->(∀b∈fp,∀o,h.get? b=some o->h'.get? b=some o)->tn i h'
 item:∀(X:Cx),X.prog=P->X.w=w->X.K=K->X.aj=true->∀(i:Nat) (ao:List (Addr×Obj)) (s:Shared) (Z:St) (H:Hp) (E:Value->Shared->Prop),Inv X ao Z H s->(∀b∈fp,h_ X ao H b)->tn i s.heap->cF.go i H->
  wpAny (model P w) X.A (pyNext (.ref it)) (λr s1=>∃u,r=some u /\
   wpAny (model P w) X.A (letOwnedTupleGo tg (.ref it) u) (λ_ s2=>∃x H',Inv X ao Z H' s2/\RelV x u/\cF.yx i H x H'/\tn (i+1) s2.heap/\∀b∈fp,H' b=none) E s1) E s
 done:∀(X:Cx),X.prog=P->X.w=w->X.K=K->X.aj=true->∀(i:Nat) (ao:List (Addr×Obj)) (s:Shared) (Z:St) (H:Hp) (E:Value->Shared->Prop),Inv X ao Z H s->(∀b∈fp,h_ X ao H b)->tn i s.heap->cF.stop i H->
  wpAny (model P w) X.A (pyNext (.ref it)) (λr s1=>r=none/\Inv X ao Z H s1) E s
 self:∀(A:Around) (i:Nat) (s:Shared) (Q:Value->Shared->Prop) (E:Value->Shared->Prop),tn i s.heap->Q (.ref it) s->wpAny (model P w) A (pyIter (.ref it)) Q E s
noncomputable abbrev TI:=St->Hp->(It->Hp->Prop)->Prop
def PIE(X:Cx)(ao:List (Addr×Obj))(Z:St)(tg:Expr)(R:It->Hp->Prop)(itv:Value)(s2:Shared):Prop:=
 ∃(it:Addr) (fp:List Addr) (tn:Nat->Heap->Prop) (cF:It) (H':Hp),itv=.ref it/\Inv X ao Z H' s2/\Turn X.prog X.w X.K tg cF fp it tn/\tn 0 s2.heap/\(∀b∈fp,h_ X ao H' b)/\R cF H'
def PI(X:Cx)(tg iter:Expr)(wi:TI):Prop:=
 ∀(ao:List (Addr×Obj)) (s:Shared) (Z:St) (H:Hp) (R:It->Hp->Prop),Inv X ao Z H s->wi Z H R->
  wpAny (model X.prog X.w) X.A (eval iter X.env) (λv s1=>wpAny (model X.prog X.w) X.A (pyIter v) (PIE X ao Z tg R) X.xe s1) X.xe s
theorem M7{M:Model}{A:Around}{E:Value->Shared->Prop}{s:Shared}{tg:Expr}{it:Addr}{u:Value}{o:Obj}{n:String}{vs:Array Value}{Q:Unit->Shared->Prop}(ho:s.heap.get? it=some o)(hc:o.cls=.type n)(hd:o.data=.fields vs)
  (hn:["enumerate","zip","dict_itemiterator","dict_reverseitemiterator","odict_iterator","itertools.zip_longest","itertools.pairwise"].contains n=false) (hQ:Q () s):wpAny M A (letOwnedTupleGo tg (.ref it) u) Q E s:=by
 unfold letOwnedTupleGo;cases tg<;>first
  |exact aO hQ
  | (cases u<;>first
    |exact aO hQ
    | (refine aC (wpAny_load ho ?_)
       rw[hc,hd];show wpAny M A (if (["enumerate","zip","dict_itemiterator","dict_reverseitemiterator","odict_iterator","itertools.zip_longest","itertools.pairwise"].contains n&&vs[0]?==some (rawInt _))=true then _ else _) Q E s;rw[if_neg (by intro h;rw[hn,Bool.false_and] at h;cases h)];exact aO hQ))
noncomputable def Ji(K:W.Frag)(a:Addr):It:=
 ⟨λi H=>∃xs x,cM K H a xs/\xs[i]?=some x,λi H x H'=>H'=H/\∀xs,cM K H a xs->xs[i]?=some x,λi H=>∃xs,cM K H a xs/\xs.length<=i⟩
noncomputable def M8(K:W.Frag)(a:Addr):It:=
 ⟨λi H=>∃xs x,fu K H a xs/\xs[i]?=some x,λi H x H'=>H'=H/\∀xs,fu K H a xs->xs[i]?=some x,λi H=>∃xs,fu K H a xs/\xs.length<=i⟩
noncomputable def DG(lo:Int)(n:Nat):It:=⟨λi _=>i<n,λi H x H'=>H'=H/\x=.int (lo+i),λi _=>n<=i⟩
theorem zgb{P:Program}{w:World}{K:W.Frag}{tg:Expr}(a it:Addr):Turn P w K tg (Ji K a) [it] it (λi h=>h.IsListIter it a i) where
 mem:=by simp
 obj:=λi h st b hb=>by
  have e:b=it:=by simpa using hb
  subst e;obtain⟨o,e,c,d⟩:=st;exact⟨o,e,λv z=>by rw[d] at z;cases z⟩
 keep:=λi h h' st k=>st.at λo e=>k it (by simp) o e
 item:=by
  intro X hP hw hK hc i ao s Z H E I hf st hg;subst hP hw hK;obtain⟨xs,x,hq,hx⟩:=hg;obtain⟨its,rv,p,hz⟩:=I.list hq;obtain⟨u,hu,ru⟩:=rv.get hx;obtain⟨f0,f1,f2,f3,f4,f5⟩:=hf it (by simp);refine wpAny_pyNext_list_item st p.isList (x:=u) (by simpa using hu) λh' st' sb=>?_;have I1:Inv X ao Z H {s with heap:=h'}:=I.turned (t':=s.toks) (λb o hb e=>(sb.2 b hb).trans e) f0 f1 f3 f4 f5;obtain⟨o,e,c,d⟩:=id st';exact⟨u,rfl,M7 (s:={s with heap:=h'}) e c d (by decide) ⟨x,H,I1,ru,⟨rfl,λys hy=>by rw[I.mC hy hq];exact hx⟩,st',λb hb=>(hf b hb).1⟩⟩
 done:=by
  intro X hP hw hK hc i ao s Z H E I hf st hg;subst hP hw hK;obtain⟨xs,hq,hx⟩:=hg;obtain⟨its,rv,p,hz⟩:=I.list hq;obtain⟨f0,f1,f2,f3,f4,f5⟩:=hf it (by simp);have hl:=rv.length;exact wpAny_pyNext_list_end (I.ok.hd hc) st p.isList (by simp;lia) λh' eb=>⟨rfl,I.turned (t':=s.toks) (λb o hb e=>eb b o hb e) f0 f1 f3 f4 f5⟩
 self:=λ_ _ _ _ _ st h=>wpAny_pyIter_listiter st h
theorem zeQ{P:Program}{w:World}{K:W.Frag}{tg:Expr}(a it:Addr):Turn P w K tg (M8 K a) [it] it (λi h=>h.IsTupleIter it a i) where
 mem:=by simp
 obj:=λi h st b hb=>by
  have e:b=it:=by simpa using hb
  subst e;obtain⟨o,e,c,d⟩:=st;exact⟨o,e,λv z=>by rw[d] at z;cases z⟩
 keep:=λi h h' st k=>st.at λo e=>k it (by simp) o e
 item:=by
  intro X hP hw hK hc i ao s Z H E I hf st hg;subst hP hw hK;obtain⟨xs,x,hq,hx⟩:=hg;obtain⟨its,rv,p,hz⟩:=I.tuple hq;obtain⟨u,hu,ru⟩:=rv.get hx;obtain⟨f0,f1,f2,f3,f4,f5⟩:=hf it (by simp);refine wpAny_pyNext_tuple_item st (show s.heap.IsTuple a its.toArray from p) (x:=u) (by simpa using hu) λh' st' sb=>?_;have I1:Inv X ao Z H {s with heap:=h'}:=I.turned (t':=s.toks) (λb o hb e=>(sb.2 b hb).trans e) f0 f1 f3 f4 f5;obtain⟨o,e,c,d⟩:=id st';exact⟨u,rfl,M7 (s:={s with heap:=h'}) e c d (by decide) ⟨x,H,I1,ru,⟨rfl,λys hy=>by rw[I.jQ hy hq];exact hx⟩,st',λb hb=>(hf b hb).1⟩⟩
 done:=by
  intro X hP hw hK hc i ao s Z H E I hf st hg;subst hP hw hK;obtain⟨xs,hq,hx⟩:=hg;obtain⟨its,rv,p,hz⟩:=I.tuple hq;obtain⟨f0,f1,f2,f3,f4,f5⟩:=hf it (by simp);have hl:=rv.length;exact wpAny_pyNext_tuple_end (I.ok.hd hc) st (show s.heap.IsTuple a its.toArray from p) (by simp;lia) λh' eb=>⟨rfl,I.turned (t':=s.toks) (λb o hb e=>eb b o hb e) f0 f1 f3 f4 f5⟩
 self:=λ_ _ _ _ _ st h=>wpAny_pyIter_tupleiter st h
theorem ze0{P:Program}{w:World}{K:W.Frag}{tg:Expr}(it:Addr)(lo:Int)(n:Nat):Turn P w K tg (DG lo n) [it] it (λi h=>IsRangeIter h it (lo+(i:Nat)*1) ((n:Int)-(i:Nat)) 1) where
 mem:=by simp
 obj:=λi h st b hb=>by
  have e:b=it:=by simpa using hb
  subst e;exact⟨_,st,λv z=>by
   have z':Data.fields _=Data.cell v:=z;cases z'⟩
 keep:=λi h h' st k=>k it (by simp) _ st
 item:=by
  intro X hP hw hK hc i ao s Z H E I hf st hg;subst hP hw hK;obtain⟨f0,f1,f2,f3,f4,f5⟩:=hf it (by simp);have W:=Walks.range (prog:=X.prog) (w:=X.w) (I.ok.hd hc) it lo 1 n;refine W.item i s _ _ hg st λv h' tk hv st' kk=>?_;obtain⟨t,rfl⟩:=hv;have I1:Inv X ao Z H {s with heap:=h',toks:=tk}:=I.turned (λb o hb e=>kk b o (by simpa using hb) e) f0 f1 f3 f4 f5;refine⟨_,rfl,M7 (s:={s with heap:=h',toks:=tk}) (n:="range_iterator") st' rfl rfl (by decide) ⟨.int (lo+i),H,I1,⟨t,?_⟩,⟨rfl,rfl⟩,st',λb hb=>(hf b hb).1⟩⟩;rw[Int.mul_one]
 done:=by
  intro X hP hw hK hc i ao s Z H E I hf st hg;subst hP hw hK;obtain⟨f0,f1,f2,f3,f4,f5⟩:=hf it (by simp);exact wpAny_pyNext_range_end (I.ok.hd hc) st (by have:n<=i:=hg;lia) λh' eb=>⟨rfl,I.turned (t':=s.toks) (λb o hb e=>eb b o hb e) f0 f1 f3 f4 f5⟩
 self:=λ_ _ _ _ _ st h=>wpAny_pyIter_rangeiter st h
section
variable {X:Cx}{tg:Expr}
theorem zev{ao:List (Addr×Obj)}{Z:St}{H:Hp}{s:Shared}{R:It->Hp->Prop}{E:Value->Shared->Prop}{lo hi:Int}{t u v:Tok}{tk:Nat}(I:Inv X ao Z H s)(h1 : -(2^62)<=lo)(h2:lo<2^62)(h3 : -(2^62)<=hi)(h4:hi<2^62)
  (q:R (DG lo (hi-lo).toNat) H):wpAny (model X.prog X.w) X.A (pyIter (.ref s.heap.objs.size)) (PIE X ao Z tg R) E {s with heap:=s.heap.push {cls:=.type "range",data:=.fields #[.int lo t,.int hi u,.int 1 v]},toks:=tk}:=by
 refine wpAny_pyIter_range (IsRange.new ..) (small_one h1 h2 h3 h4) ?_;have I1:Inv X ao Z H {s with heap:=s.heap.push {cls:=.type "range",data:=.fields #[.int lo t,.int hi u,.int 1 v]},toks:=tk}:=I.kept λb o e=>cG _ e;refine⟨(s.heap.push {cls:=.type "range",data:=.fields #[.int lo t,.int hi u,.int 1 v]}).objs.size,[(s.heap.push {cls:=.type "range",data:=.fields #[.int lo t,.int hi u,.int 1 v]}).objs.size],_,_,H,rfl,
  I1.kept (t':=tk) λb o e=>cG _ e,ze0 _ lo (hi-lo).toNat,?_,λb hb=>?_,q⟩
 ·have e1:lo+((0:Nat):Int)*1=lo:=by simp
  have e2:(((hi-lo).toNat:Nat):Int)-((0:Nat):Int)=Builtin.Range.rangeSize lo hi 1:=by rw[rangeSize_one];split<;>lia
  show IsRangeIter _ _ (lo+((0:Nat):Int)*1) ((((hi-lo).toNat:Nat):Int)-((0:Nat):Int)) 1;rw[e1,e2];exact fj _ rfl
 ·have e:b=(s.heap.push {cls:=.type "range",data:=.fields #[.int lo t,.int hi u,.int 1 v]}).objs.size:=by simpa using hb
  subst e;exact I1.qZ (bI _) (I1.hok.fresh (bI _))
noncomputable def DK(ta:TA):TI:=λZ H R=>ta Z H λvs H1=>∃j:Int,vs=[.int j]/\-(2^62)<=j/\j<2^62/\R (DG 0 j.toNat) H1
noncomputable def DN(ta:TA):TI:=λZ H R=>ta Z H λvs H1=>∃i j:Int,vs=[.int i,.int j]/\(-(2^62)<=i/\i<2^62/\-(2^62)<=j/\j<2^62)/\R (DG i (j-i).toNat) H1
theorem zga{a:Expr}{ta:TA}{p pos:Pos}(hg:Gl X "range")(hm:X.mg "range"=none)(ha:PA X [a] ta)(hs:starEach [a] X.env=[(false,eval a X.env)]:=by rfl):PI X tg (.Call (.Name "range" p) [a] [] pos) (DK ta):=by
 intro ao s Z H R I h;refine Call_ (uH I hg hm boot_range (xK (aZ (ha pos ao s Z H _ I h) λus s1 hx=>dY hx λvs H1 I1 r1 q1=>?_) hs rfl));obtain⟨j,e,q1,q2,q⟩:=q1;subst e;cases r1 with
 |cons r rr=>
  cases rr;obtain⟨t,rfl⟩:=r;exact call_range_1 (zev I1 (by lia) (by lia) q1 q2 (by simpa using q))
theorem zfl{a b:Expr}{ta:TA}{p pos:Pos}(hg:Gl X "range")(hm:X.mg "range"=none)(ha:PA X [a,b] ta)(hs:starEach [a,b] X.env=[(false,eval a X.env),(false,eval b X.env)]:=by rfl)(uI:starEach [b] X.env=[(false,eval b X.env)]:=by rfl) :
  PI X tg (.Call (.Name "range" p) [a,b] [] pos) (DN ta):=by
 intro ao s Z H R I h;refine Call_ (uH I hg hm boot_range (xK (aZ (ha pos ao s Z H _ I h) λus s1 hx=>dY hx λvs H1 I1 r1 q1=>?_) (by rw[hs,uI]) (by rw[uI];rfl)));obtain⟨i,j,e,⟨q1,q2,q3,q4⟩,q⟩:=q1;subst e;cases r1 with
 |cons r rr=>
  cases rr with
  |cons r' rr=>
   cases rr;obtain⟨t,rfl⟩:=r;obtain⟨t',rfl⟩:=r';exact call_range_2 (zev I1 q1 q2 q3 q4 q)
noncomputable def M9(wi:TI)(g:TG)(tb:TS):TS:=λD Z H=>wi Z H λcF H1=>∃W:Nat->Nat->St->Hp->Prop,(∃m,W 0 m Z H1)/\∀i m Z H,W i m Z H->
 (cF.stop i H/\D.nx Z H)\/(cF.go i H/\∃N:St->Hp->Prop,(∀Z' H',N Z' H'->∃m',m'<m/\W (i+1) m' Z' H')/\∀x H',cF.yx i H x H'->g x Z H' λZ2 H2=>tb {D with nx:=N,ct:=N,bk:=D.nx} Z2 H2)
noncomputable def jr(fp:List Addr)(h:Heap):List (Addr×Obj):=fp.filterMap λb=>(h.get? b).map λo=>(b,o)
theorem Jj{fp:List Addr}{h:Heap}{b:Addr}{o:Obj}(hb:b∈fp)(e:h.get? b=some o):(b,o)∈jr fp h:=Af.mpr ⟨b,hb,by rw[e];rfl⟩
theorem zf3{fp:List Addr}{h:Heap}{p:Addr×Obj}(hp:p∈jr fp h):p.1∈fp/\h.get? p.1=some p.2:=by
 obtain⟨b,hb,e⟩:=Af.mp hp;cases q:h.get? b with
 |none=>rw[q] at e;cases e
 |some o=>
  rw[q] at e;have e':(b,o)=p:=cD e;subst e';exact⟨hb,q⟩
theorem Inv.pinned{ao:List (Addr×Obj)}{Z:St}{H:Hp}{s:Shared}{fp:List Addr}(I:Inv X ao Z H s)(hf:∀b∈fp,h_ X ao H b)(ho:∀b∈fp,∃o,s.heap.get? b=some o/\∀v,o.data≠.cell v):Inv X (ao++jr fp s.heap) Z H s:=
 I.kZ λp hp=>(nD.mp hp).elim (λz=>I.pin p (sY _ z)) λz=>by
  obtain⟨hb,e⟩:=zf3 z;obtain⟨f0,f1,f2,_⟩:=hf p.1 hb;obtain⟨o,e',d⟩:=ho p.1 hb;rw[e] at e';cases e';exact⟨e,f0,f1,f2,d⟩
theorem Inv.gJ{ao pl:List (Addr×Obj)}{Z:St}{H:Hp}{s:Shared}(I:Inv X (ao++pl) Z H s):Inv X ao Z H s:=I.kZ λp hp=>I.pin p (sY _ (List.mem_append_left _ hp))
theorem zlq{iter:Expr}{body:List Stmt}{wi:TI}{g:TG}{tb:TS}{pos:Pos}(hp:PassesOwn (model X.prog X.w) X.A X.env X.xe)(hc:X.aj=true)(hi:PI X tg iter wi)(hg:PG X tg g)(hb:oO X body tb)
  (hs:∀x,foldedSetIterable iter X.env x=pure x:=by intro _;rfl):PS X (.For tg iter body [] pos) (M9 wi g tb):=by
 intro ao s Z H D I h;refine wpAny_For (aZ (hi ao s Z H _ I h) λv s1 h1=>aZ h1 λitv s2 h2=>?_) hs;obtain⟨it,fp,tn,cF,H2,e,I2,T,st2,f2,W,⟨m0,w0⟩,turn⟩:=h2;subst e;have stat:∀{H':Hp},(∀b∈fp,H' b=none)->∀b∈fp,h_ X ao H' b:=λhn b hb=>⟨hn b hb,(f2 b hb).2⟩;refine codeAny_forLoop_any (λn s'=>∃i Z' H',Inv X ao Z' H' s'/\tn i s'.heap/\(∀b∈fp,H' b=none)/\W i n Z' H') ?_ m0 ⟨0,Z,H2,I2,st2,λb hb=>(f2 b hb).1,w0⟩;rintro n s3 ⟨i,Z3,H3,I3,st3,Ur,w3⟩;rcases turn i n Z3 H3 w3 with ⟨stop,qn⟩|⟨go,N,hN,step⟩
 ·refine Cz hp (aZ (T.done X rfl rfl rfl hc i ao s3 Z3 H3 X.xe I3 (stat Ur) st3 stop) λr s4 ⟨hr,I4⟩=>?_);subst hr;exact wpAny_execs_nil ⟨Z3,H3,I4,qn⟩
 ·refine Cz hp (aZ (T.item X rfl rfl rfl hc i ao s3 Z3 H3 X.xe I3 (stat Ur) st3 go) λr s4 hx=>uF hx λu hr h4=>?_);subst hr;refine Cz hp (aZ h4 λ_ s5 ⟨x,H5,I5,r5,y5,Bc,Jk⟩=>?_);have I5':=I5.pinned (stat Jk) (T.obj _ _ Bc);refine Cz hp (aZ (hg _ s5 Z3 H5 x u _ I5' r5 (step x H5 y5)) λ_ s6 ⟨Z6,H6,I6,q6⟩=>?_);refine Cz hp (aZ (hb _ s6 Z6 H6 _ I6 q6) λf s7 q7=>?_);have again:∀{Z7:St} {H7:Hp},Inv X (ao++jr fp s5.heap) Z7 H7 s7->N Z7 H7->∃m,m<n/\∃i Z' H',Inv X ao Z' H' s7/\tn i s7.heap/\(∀b∈fp,H' b=none)/\W i m Z' H':=λ{Z7 H7} I7 n7=>by
   obtain⟨m',hm,w7⟩:=hN Z7 H7 n7;refine⟨m',hm,i+1,Z7,H7,I7.gJ,T.keep _ _ _ Bc λb hb o e=>(I7.pin (b,o) (sY _ (sY _ (Jj hb e)))).1,λb hb=>?_,w7⟩;obtain⟨o,e,d⟩:=T.obj _ _ Bc b hb;exact(I7.pin (b,o) (sY _ (sY _ (Jj hb e)))).2.1
  cases f with
  |next=>obtain⟨Z7,H7,I7,n7⟩:=q7;exact again I7 n7
  |cont=>obtain⟨Z7,H7,I7,n7⟩:=q7;exact again I7 n7
  |brk=>obtain⟨Z7,H7,I7,q7⟩:=q7;exact⟨Z7,H7,I7.gJ,q7⟩
  |ret v=>obtain⟨x7,Z7,H7,I7,r7,q7⟩:=q7;exact⟨x7,Z7,H7,I7.gJ,r7,q7⟩
end
noncomputable abbrev R2:=V->V->Hp->VK->Prop
def dZ(X:Cx)(f:Value->Value->Sem Value)(r:R2):Prop:=
 ∀(ao:List (Addr×Obj)) (s:Shared) (Z:St) (H:Hp) (x y:V) (v u:Value) (Q:VK),Inv X ao Z H s->RelV x v->RelV y u->r x y H Q->
  wpAny (model X.prog X.w) X.A (f v u) (EP X ao Z Q) X.xe s
def Jl(X:Cx)(f:Value->Sem Value)(r:V->Hp->VK->Prop):Prop:=
 ∀(ao:List (Addr×Obj)) (s:Shared) (Z:St) (H:Hp) (x:V) (v:Value) (Q:VK),Inv X ao Z H s->RelV x v->r x H Q->
  wpAny (model X.prog X.w) X.A (f v) (EP X ao Z Q) X.xe s
def cJ(X:Cx)(f:Value)(r:List V->Hp->VK->Prop):Prop:=
 ∀(ao:List (Addr×Obj)) (s:Shared) (Z:St) (H:Hp) (xs:List V) (us:List Value) (Q:VK),Inv X ao Z H s->Vals xs us->r xs H Q->
  wpAny (model X.prog X.w) X.A (call f us) (EP X ao Z Q) X.xe s
def M_(X:Cx)(r:V->Hp->(Bool->Hp->Prop)->Prop):Prop:=
 ∀(ao:List (Addr×Obj)) (s:Shared) (Z:St) (H:Hp) (x:V) (v:Value) (Q:Bool->Hp->Prop),Inv X ao Z H s->RelV x v->r x H Q->
  wpAny (model X.prog X.w) X.A (truthy v) (TP X ao Z Q) X.xe s
noncomputable def Jm(r:R2)(ta tb:TE):TE:=λZ H Q=>ta Z H λx H1=>tb Z H1 λy H2=>r x y H2 Q
noncomputable def tUn(r:V->Hp->VK->Prop)(ta:TE):TE:=λZ H Q=>ta Z H λx H1=>r x H1 Q
noncomputable def rI(C:Int->Int->Prop)(g:Int->Int->V):R2:=λx y H Q=>∃i j,x=.int i/\y=.int j/\C i j/\Q (g i j) H
noncomputable def nG(g:Int->Int->V):R2:=λx y H Q=>∃i j,x=.int i/\y=.int j/\Q (g i j) H
noncomputable def rU(g:Int->V):V->Hp->VK->Prop:=λx H Q=>∃i,x=.int i/\Q (g i) H
section
variable {X:Cx}{a b c:Expr}{ta tb tc:TE}{pos:Pos}
theorem yC(ha:PE X a ta)(hb:PE X b tb){ao:List (Addr×Obj)}{s:Shared}{Z:St}{H:Hp}{R:V->V->Hp->Prop}(I:Inv X ao Z H s)
  (h:ta Z H λx H1=>tb Z H1 λy H2=>R x y H2) {Q:Value->Shared->Prop} {f:Value->Value->Sem Value}
  (hf:∀v u s2 x y H2,Inv X ao Z H2 s2->RelV x v->RelV y u->R x y H2->wpAny (model X.prog X.w) X.A (f v u) Q X.xe s2) :
  wpAny (model X.prog X.w) X.A (eval a X.env) (λv s₁=>wpAny (model X.prog X.w) X.A (eval b X.env) (λu s₂=>wpAny (model X.prog X.w) X.A (f v u) Q X.xe s₂) X.xe s₁) X.xe s:=by
 refine aZ (ha ao s Z H _ I h) λv s1 hx=>dY hx λx H1 I1 r1 q1=>?_;refine aZ (hb ao s1 Z H1 _ I1 q1) λu s2 hx=>dY hx λy H2 I2 r2 q2=>?_;exact hf v u s2 x y H2 I2 r1 r2 q2
theorem znk{op:Operator}{r:R2}(ho:dZ X (binaryOp op) r)(ha:PE X a ta)(hb:PE X b tb):PE X (.BinOp a op b pos) (Jm r ta tb):=by
 intro ao s Z H Q I h;exact wpAny_BinOp (yC ha hb I h λv u s2 x y H2 I2 rx ry q=>ho ao s2 Z H2 x y v u Q I2 rx ry q)
theorem Us{op:UnaryOp}{r:V->Hp->VK->Prop}(ho:Jl X (unaryOp op) r)(ha:PE X a ta):PE X (.UnaryOp op a pos) (tUn r ta):=by
 intro ao s Z H Q I h;exact UnaryOp_ (aZ (ha ao s Z H _ I h) λv s1 hx=>dY hx λx H1 I1 r1 q1=>ho ao s1 Z H1 x v Q I1 r1 q1)
theorem Jo{f:Value->Value->Sem Value}{C:Int->Int->Prop}{g:Int->Int->Int}
  (rule:∀(i j:Int) (t u:Tok) (s:Shared) (Q:Value->Shared->Prop) (E:Value->Shared->Prop),C i j->Q (.int (g i j) s.toks) {s with toks:=s.toks+1}->wpAny (model X.prog X.w) X.A (f (.int i t) (.int j u)) Q E s) :
  dZ X f (rI C λi j=>.int (g i j)):=by
 intro ao s Z H x y v u Q I rx ry h;obtain⟨i,j,rfl,rfl,hc,q⟩:=h;obtain⟨t,rfl⟩:=rx;obtain⟨t',rfl⟩:=ry;exact rule i j t t' s _ _ hc ⟨.int (g i j),H,I.tok _,⟨_,rfl⟩,q⟩
theorem DP{f:Value->Value->Sem Value}{g:Int->Int->Int}
  (rule:∀(i j:Int) (t u:Tok) (s:Shared) (Q:Value->Shared->Prop) (E:Value->Shared->Prop),Q (.int (g i j) s.toks) {s with toks:=s.toks+1}->wpAny (model X.prog X.w) X.A (f (.int i t) (.int j u)) Q E s) :
  dZ X f (nG λi j=>.int (g i j)):=by
 intro ao s Z H x y v u Q I rx ry h;obtain⟨i,j,rfl,rfl,q⟩:=h;obtain⟨t,rfl⟩:=rx;obtain⟨t',rfl⟩:=ry;exact rule i j t t' s _ _ ⟨.int (g i j),H,I.tok _,⟨_,rfl⟩,q⟩
theorem uJ{f:Value->Value->Sem Value}{g:Int->Int->Bool}
  (rule:∀(i j:Int) (t u:Tok) (s:Shared) (Q:Value->Shared->Prop) (E:Value->Shared->Prop),Q (.bool (g i j)) s->wpAny (model X.prog X.w) X.A (f (.int i t) (.int j u)) Q E s) :
  dZ X f (nG λi j=>.bl (g i j)):=by
 intro ao s Z H x y v u Q I rx ry h;obtain⟨i,j,rfl,rfl,q⟩:=h;obtain⟨t,rfl⟩:=rx;obtain⟨t',rfl⟩:=ry;exact rule i j t t' s _ _ ⟨.bl (g i j),H,I,rfl,q⟩
def uK(i j:Int):Prop:=0<j/\j<1073741824
def DQ(i j:Int):Prop:=0<=j/\j<=1000000/\i.natAbs<2^64
def uL(i j:Int):Prop:=(-(2^64)<i/\i<2^64)\/(-(2^64)<j/\j<2^64)
theorem uL.ok{i j:Int}(h:uL i j):IntMulOk i j:=by
 rcases h with ⟨h1,h2⟩|⟨h1,h2⟩
 ·exact .of_left (intBits_le_64 h1 h2)
 ·exact .of_right (intBits_le_64 h1 h2)
theorem yD:dZ X (binaryOp .Add) (nG λi j=>.int (i+j)):=DP λ_ _ _ _ _ _ _ q=>add_int q
theorem zl9:dZ X (binaryOp .Sub) (nG λi j=>.int (i-j)):=DP λ_ _ _ _ _ _ _ q=>sub_int q
theorem zkV:dZ X (binaryOp .Mult) (rI uL λi j=>.int (i*j)):=Jo λ_ _ _ _ _ _ _ hc q=>mul_int q hc.ok
theorem zi9:dZ X (binaryOp .FloorDiv) (rI uK λi j=>.int (i/j)):=Jo λi j _ _ _ _ _ hc q=>by
 have h1:(0:Int)<j:=hc.1;have h2:j<1073741824:=hc.2;exact floordiv_int (by lia) (by rw[Int.fdiv_eq_ediv_of_nonneg i (by lia)];exact q) (.inl (PyProof.noPylong_small (by lia)))
theorem zj3:dZ X (binaryOp .Mod) (rI (λ_ j=>0<j) λi j=>.int (i%j)):=Jo λi j _ _ _ _ _ hc q=>by
 have h1:(0:Int)<j:=hc;exact mod_int' (by lia) (by rw[Int.fmod_eq_emod_of_nonneg i (by lia)];exact q)
theorem zkz:dZ X (binaryOp .Pow) (rI DQ λi j=>.int (i^j.toNat)):=Jo λ_ _ _ _ _ _ _ hc q=>pow_int_small hc.1 hc.2.1 hc.2.2 q
theorem unI{f:Value->Sem Value}{g:Int->Int}
  (rule:∀(i:Int) (t:Tok) (s:Shared) (Q:Value->Shared->Prop) (E:Value->Shared->Prop),Q (.int (g i) s.toks) {s with toks:=s.toks+1}->wpAny (model X.prog X.w) X.A (f (.int i t)) Q E s) :
  Jl X f (rU λi=>.int (g i)):=by
 intro ao s Z H x v Q I rx h;obtain⟨i,rfl,q⟩:=h;obtain⟨t,rfl⟩:=rx;exact rule i t s _ _ ⟨.int (g i),H,I.tok _,⟨_,rfl⟩,q⟩
theorem Ut:Jl X (unaryOp .USub) (rU λi=>.int (-i)):=unI λ_ _ _ _ _ q=>neg_int q
end
section
variable {X:Cx}{a b c:Expr}{ta tb tc:TE}{pos:Pos}
theorem DR:dZ X (compareOp .Lt) (nG λi j=>.bl (decide (i<j))):=uJ λ_ _ _ _ _ _ _ q=>lt_int q
theorem zmm:dZ X (compareOp .LtE) (nG λi j=>.bl (decide (i<=j))):=uJ λ_ _ _ _ _ _ _ q=>le_int q
theorem zmZ:dZ X (compareOp .Gt) (nG λi j=>.bl (decide (j<i))):=uJ λ_ _ _ _ _ _ _ q=>gt_int q
theorem zmN:dZ X (compareOp .GtE) (nG λi j=>.bl (decide (j<=i))):=uJ λ_ _ _ _ _ _ _ q=>ge_int q
theorem dZ.or{f:Value->Value->Sem Value}{r r':R2}(h:dZ X f r)(h':dZ X f r'):dZ X f (λx y H Q=>r x y H Q\/r' x y H Q):=by
 intro ao s Z H x y v u Q I rx ry q;rcases q with q|q
 ·exact h ao s Z H x y v u Q I rx ry q
 ·exact h' ao s Z H x y v u Q I rx ry q
theorem ziA{op:CmpOp}{r:R2}(ho:dZ X (compareOp op) r)(ha:PE X a ta)(hb:PE X b tb)(hm:behindInMarks op b=false):PE X (.Compare a [op] [b] pos) (Jm r ta tb):=by
 intro ao s Z H Q I h;exact wpAny_Compare1 (yC ha hb I h λv u s2 x y H2 I2 rx ry q=>ho ao s2 Z H2 x y v u Q I2 rx ry q) hm
noncomputable def DW(t:TE):TT:=λZ H Q=>t Z H λx H'=>∃k,x=.bl k/\Q k H'
theorem zi4{op:CmpOp}{r:R2}(ho:dZ X (compareOp op) r)(ha:PE X a ta)(hb:PE X b tb)(hm:behindInMarks op b=false):PT X (.Compare a [op] [b] pos) (DW (Jm r ta tb)):=by
 intro ao s Z H Q I h;refine wpAny_isTrue_Compare1 (aZ (ha ao s Z H _ I h) λv s1 hx=>dY hx λx H1 I1 r1 q1=>aZ (hb ao s1 Z H1 _ I1 q1) λu s2 hx=>dY hx λy H2 I2 r2 q2=>
  aZ (ho ao s2 Z H2 x y v u _ I2 r1 r2 q2) λc s3 hx=>Mg hx λz H3 I3 r3 k e q3=>?_) hm
 subst e;cases r3;exact sZ ⟨H3,I3,q3⟩
noncomputable def yE(r r':R2)(ta tb tc:TE):TE:=λZ H Q=>ta Z H λx H1=>tb Z H1 λy H2=>r x y H2 λz H3=>∃k,z=.bl k /\
 (if k=true then tc Z H3 λw' H4=>r' y w' H4 Q else Q (.bl false) H3)
theorem zgE{op op':CmpOp}{r r':R2}(ho:dZ X (compareOp op) r)(qW:dZ X (compareOp op') r')(ha:PE X a ta)(hb:PE X b tb)(hc:PE X c tc)
  (hm:lastMarks [op,op'] [b,c]=false:=by with_unfolding_all rfl):PE X (.Compare a [op,op'] [b,c] pos) (yE r r' ta tb tc):=by
 intro ao s Z H Q I h;refine Compare_chain (aZ (ha ao s Z H _ I h) λv s1 hx=>dY hx λx H1 I1 r1 q1=>chain_link (aZ (hb ao s1 Z H1 _ I1 q1) λu s2 hx=>dY hx λy H2 I2 r2 q2=>
  aZ (ho ao s2 Z H2 x y v u _ I2 r1 r2 q2) λd s3 hx=>Mg hx λz H3 I3 r3 k e q3=>?_)) hm
 subst e;cases r3;refine sZ ?_;cases k with
 |false=>exact ite_ff ⟨.bl false,H3,I3,rfl,q3⟩
 |true=>exact ite_tt (chain_last (aZ (hc ao s3 Z H3 _ I3 q3) λw' s4 hx=>dY hx λz' H4 I4 r4 q4=>qW ao s4 Z H4 y z' u w' Q I4 r2 r4 q4))
def yF(K:W.Frag)(x:V)(H:Hp)(k:Bool):Prop:=
 match x with
 |.non=>k=false
 |.bl b=>k=b
 |.int i=>k=(i != 0)
 |.str y=>y.length<=sizeLine/\k=((y.length:Int) != 0)
 |.yd y=>y.size<=sizeLine/\k=((y.size:Int) != 0)
 |.ref p=>(∃xs,cM K H p xs/\k = !xs.isEmpty)\/(∃xs,fu K H p xs/\k = !xs.isEmpty)\/∃kvs,H p=some (.dK kvs)/\k = !kvs.isEmpty
 |_=>False
theorem zeN{κ:Type}{kvs:List (κ×V)}{vs:List (κ×Value)}(r:KV kvs vs):(!vs.isEmpty) = !kvs.isEmpty:=by
 cases r<;>rfl
theorem Uu{xs:List V}{its:List Value}(r:Vals xs its):(!its.toArray.isEmpty) = !xs.isEmpty:=by
 cases r<;>simp
theorem iu:(sizeLine:Nat)<2^63:=by rw[tH];decide
theorem zls:M_ X (λx H Q=>∃k,yF X.K x H k/\Q k H):=by
 intro ao s Z H x v Q I rx h;obtain⟨k,e,q⟩:=h;have hl:=iu;have hs:sizeLine=16777216:=tH;cases x with
 |non=>
  cases rx;have e':k=false:=e;subst e';exact truthy_none ⟨H,I,q⟩
 |bl b=>
  cases rx;have e':k=b:=e;subst e';exact sZ ⟨H,I,q⟩
 |int i=>
  obtain⟨t,rfl⟩:=rx;have e':k=(i != 0):=e;subst e';exact PySem.P.truthy_int ⟨H,I,q⟩
 |str y=>
  obtain⟨t,rfl⟩:=rx;obtain⟨hy,e'⟩ : y.length<=sizeLine/\k=((y.length:Int) != 0):=e;subst e';exact PySem.P.truthy_str (by lia) ⟨H,I.tok _,q⟩
 |yd y=>
  obtain⟨t,rfl⟩:=rx;obtain⟨hy,e'⟩ : y.size<=sizeLine/\k=((y.size:Int) != 0):=e;subst e';exact PySem.W.truthy_bytes (by lia) ⟨H,I.tok _,q⟩
 |ref p=>
  cases rx;have e':(∃xs,cM X.K H p xs/\k = !xs.isEmpty)\/(∃xs,fu X.K H p xs/\k = !xs.isEmpty)\/∃kvs,H p=some (.dK kvs)/\k = !kvs.isEmpty:=e;rcases e' with ⟨xs,hx,e'⟩|⟨xs,hx,e'⟩|⟨kvs,hx,e'⟩
  ·subst e';obtain⟨its,r,pl,hz⟩:=I.list hx;have hlen:=r.length;exact wpAny_truthy_list pl.isList (by simp only[eG];lia) ⟨H,I.tok _,by rw[Uu r];exact q⟩
  ·subst e';obtain⟨its,r,pl,hz⟩:=I.tuple hx;have hlen:=r.length;exact truthy_tuple pl (by simp only[eG];lia) ⟨H,I.tok _,by rw[Uu r];exact q⟩
  ·subst e';obtain⟨hz,hS,vs,r,m⟩ : kvs.length<=sizeLine/\(p==sysModules)=false/\∃vs,KV kvs vs/\s.heap.DictOf (kI X.prog X.w) p vs:=I.hok p _ hx;have hlen:kvs.length=vs.length:=Paired.length r;exact wpAny_truthy_dict hS m (by lia) ⟨H,I.tok _,by rw[zeN r];exact q⟩
 |_=>exact(show False from e).elim
theorem zeT:dZ X (binaryOp .Add) (λx y H Q=>∃i j,x=.str i/\y=.str j/\i.length+j.length<=sizeLine/\Q (.str (i++j)) H):=by
 intro ao s Z H x y v u Q I rx ry h;obtain⟨i,j,rfl,rfl,hz,q⟩:=h;obtain⟨t,rfl⟩:=rx;obtain⟨t',rfl⟩:=ry;exact add_str (λt' tk=>⟨.str (i++j),H,I.tok _,⟨_,rfl⟩,q⟩) hz
theorem vals1{x:V}{us:List Value}(r:Vals [x] us):∃u,us=[u]/\RelV x u:=by
 cases r with
 |cons r1 r2=>cases r2;exact⟨_,rfl,r1⟩
theorem vals2{x y:V}{us:List Value}(r:Vals [x,y] us):∃u w',us=[u,w']/\RelV x u/\RelV y w':=by
 cases r with
 |cons r1 r2=>
  cases r2 with
  |cons r3 r4=>cases r4;exact⟨_,_,rfl,r1,r3⟩
theorem zgU:cJ X (.builtin "abs") (λxs H Q=>∃i,xs=[.int i]/\Q (.int (if i<0 then -i else i)) H):=by
 intro ao s Z H xs us Q I r h;obtain⟨i,rfl,q⟩:=h;obtain⟨u,rfl,t,rfl⟩:=vals1 r;exact call_abs_int λu tk=>⟨.int (if i<0 then -i else i),H,I.tok _,⟨_,rfl⟩,q⟩
theorem zfO(hc:X.aj=true):cJ X (.builtin "max") (λxs H Q=>∃i j,xs=[.int i,.int j]/\Q (.int (if j>i then j else i)) H):=by
 intro ao s Z H xs us Q I r h;obtain⟨i,j,rfl,q⟩:=h;obtain⟨u,w',rfl,⟨t,rfl⟩,⟨t',rfl⟩⟩:=vals2 r;refine max_two_ints (I.ok.hd hc) λh' tk k=>⟨_,H,I.kept k,?_,q⟩;by_cases hj:j>i
 ·rw[if_pos hj,if_pos hj];exact⟨_,rfl⟩
 ·rw[if_neg hj,if_neg hj];exact⟨_,rfl⟩
theorem zge(hc:X.aj=true):cJ X (.builtin "min") (λxs H Q=>∃i j,xs=[.int i,.int j]/\Q (.int (if j<i then j else i)) H):=by
 intro ao s Z H xs us Q I r h;obtain⟨i,j,rfl,q⟩:=h;obtain⟨u,w',rfl,⟨t,rfl⟩,⟨t',rfl⟩⟩:=vals2 r;refine min_two_ints (I.ok.hd hc) λh' tk k=>⟨_,H,I.kept k,?_,q⟩;by_cases hj:j<i
 ·rw[if_pos hj,if_pos hj];exact⟨_,rfl⟩
 ·rw[if_neg hj,if_neg hj];exact⟨_,rfl⟩
theorem zgl:cJ X (.type "int") (λxs H Q=>(∃i,xs=[.int i]/\Q (.int i) H)\/∃k,xs=[.bl k]/\Q (.int (if k then 1 else 0)) H):=by
 intro ao s Z H xs us Q I r h;rcases h with ⟨i,rfl,q⟩|⟨k,rfl,q⟩
 ·obtain⟨u,rfl,t,rfl⟩:=vals1 r;exact call_int_int ⟨.int i,H,I,⟨_,rfl⟩,q⟩
 ·obtain⟨u,rfl,r1⟩:=vals1 r;cases r1;exact call_int_bool ⟨.int (if k then 1 else 0),H,I.tok _,⟨_,rfl⟩,q⟩
theorem zdj:cJ X (.builtin "divmod") (λxs H Q=>∃i j,xs=[.int i,.int j]/\uK i j/\∀p,H p=none->Q (.ref p) (upd H p (.tup [.int (i/j),.int (i%j)]))):=by
 intro ao s Z H xs us Q I r h;obtain⟨i,j,rfl,⟨h1,h2⟩,q⟩:=h;obtain⟨u,w',rfl,⟨t,rfl⟩,⟨t',rfl⟩⟩:=vals2 r;refine divmod_int (by lia) ?_ (.inl (PyProof.noPylong_small (by lia)));rw[Int.fdiv_eq_ediv_of_nonneg i (by lia),Int.fmod_eq_emod_of_nonneg i (by lia)];have hn:H s.heap.objs.size=none:=I.hok.fresh (bI _);refine⟨.ref s.heap.objs.size,_,?_,rfl,q _ hn⟩;refine I.laid (λb o e=>cG _ e) (bI _) ⟨by simp only[fZ,Al];rw[tH];decide,[.int (i/j) s.toks,.int (i%j) (s.toks+1)],.cons ⟨_,rfl⟩ (.cons ⟨_,rfl⟩ .nil),?_⟩;exact⟨_,fj s.heap rfl,rfl,0,rfl⟩
end
structure nH(h:Heap)(x dx C:Addr)(mA:Str->Option Value):Prop where
 obj:h.get? x=some (PySem.W.instObj C dx)
 ns:h.Ns1 dx mA
 ne:dx≠x
theorem zfm{h:Heap}{dx:Addr}{mA:Str->Option Value}(n:h.Ns1 dx mA):∃od,h.get? dx=some od/\∀name,PySem.W.lookIn name od=some (mA name):=by
 obtain⟨o,es,ep,ho,hd,hk,_,hm⟩:=n;refine⟨o,ho,λname=>?_⟩;have e:=hm name;unfold nsFind findBy at e;rw[<-Array.find?_toList] at e;unfold PySem.W.lookIn;rw[hd];dsimp only
 split
 ·rename_i y q;rw[q] at e;exact lW some e
 ·rename_i q;rw[q] at e;have a:es.toList.any (·.refKey)=false:=by
   rw[List.any_eq_false];intro y hy;obtain⟨z,t,Nb⟩:=hk y (Array.mem_toList_iff.mp hy);simp[DictEntry.refKey,Nb]
  have a':¬es.toList.any (·.refKey)=true:=by rw[a];exact Ly
  rw[if_neg a'];exact lW some e
theorem nH.look{h:Heap}{x dx C:Addr}{mA:Str->Option Value}(I:nH h x dx C mA):∃od,PySem.W.InstAt h x (PySem.W.instObj C dx) C (some od)/\∀name,PySem.W.lookIn name od=some (mA name):=
 let ⟨od,ho,hl⟩:=zfm I.ns
 ⟨od,⟨I.obj,rfl,rfl,ho⟩,hl⟩
section
variable {prog:Program}{w:World}{A:Around}{E:Value->Shared->Prop}{s:Shared}{K:W.Frag}{x dx C f:Addr}{mA:Str->Option Value}{name:Str}{v:Value}
theorem zjH{expr:Bool}{Q:Value->Shared->Prop}(X:K.In s.heap)(I:nH s.heap x dx C mA)(hg:PySem.W.plainGet K C name=true)(hh:PySem.W.hasDictIn K C=true)
  (ha:PySem.W.findIn K (.ref C) name=some none) (hv:mA name=some v) (Nf:PySem.W.handedIn v=true) (h:Q v {s with toks:=s.toks+1}) :
  wpAny (model prog w) A (getAttr (.ref x) name expr) Q E s:=by
 obtain⟨od,cF,hl⟩:=I.look;exact PySem.W.get_value X cF (Lw hg).1 (PySem.W.findObj_own hh ha rfl (by rw[hl,hv])) Nf h
theorem zg4{pl:Sem Bool}{Q:Value×List Value->Shared->Prop}(X:K.In s.heap)(I:nH s.heap x dx C mA)(hg:PySem.W.plainGet K C name=true)
  (hf:PySem.W.findIn K (.ref C) name=some (some (.ref f))) (ht:PySem.W.isFn K (.ref f)=true) (hv:mA name=none) (h:Q (.ref f,[.ref x]) s) :
  wpAny (model prog w) A (getMethod (.ref x) name pl) Q E s:=by
 obtain⟨od,cF,hl⟩:=I.look;exact PySem.W.method_fn X cF (Lw hg).1 (Lw hg).2 hf (oJ.mp ht) (by show (PySem.W.lookIn name od).map (·.isSome)=some false;rw[hl,hv];rfl) h
theorem zib{ns:List Str}{Q:Unit->Shared->Prop}(X:K.In s.heap)(I:nH s.heap x dx C mA)
  (hs:PySem.W.findIn K (.ref C) "__setattr__"=some (some (.builtin "object.__setattr__"))) (hp:PySem.W.plainOver K C=true) (ht:PySem.W.takerIn K C name=some none) (hh:PySem.W.hasDictIn K C=true)
  (hw:PySem.Within mA ns) (hsz:ns.length<=sizeLine)
  (h:∀h',nH h' x dx C (λy=>if y=name then some v else mA y)->Heap.SameBut dx s.heap h'->Q () {s with heap:=h',toks:=s.toks+2}) :
  wpAny (model prog w) A (setAttr (.ref x) name v) Q E s:=by
 obtain⟨od,cF,hl⟩:=I.look;refine PySem.W.set_plain X cF hs (PySem.W.osa_open (s:={s with toks:=s.toks+1}) (r:=none) X cF hp ht λb=>?_);obtain⟨cd,hc,Dr⟩:=PySem.W.any_some hh;have hx:s.heap.get? x=some ⟨.ref C,some dx,.plain,#[]⟩:=I.obj;refine aC (aO (aC (aC (wpAny_loadPart hx (aC (PySem.W.Looks.here (s:={s with toks:=s.toks+1}) (PySem.W.looks_clsIn X hc) ?_))))));rw[Dr];refine aO (a:=some dx) (aC (aO (aC ?_)));refine wpAny_nsSet1 (s:={s with toks:=s.toks+1}) I.ns λh' Uv uI=>?_;obtain⟨oD,esD,epD,hoD,hdD,hcD⟩:=Uv.count (PySem.Within.cons name v hw);refine aC (wpAny_lookBehind hoD (by rw[hdD];exact pastItsLine_dict (jO hcD (by rw[fZ];lia))) ?_);exact aO (h _ ⟨(uI.2 _ (Ne.symm I.ne)).trans I.obj,Uv,I.ne⟩ uI)
theorem zgW{R:Result->Shared->Prop}{vs:List Value}{kw:List (Str×Value)}(X:K.In s.heap)(hm:PySem.W.makesIn K C=true)
  (hi:PySem.W.findIn K (.ref C) "__init__"=some (some (.ref f))) (hf:PySem.W.typeIn K (.ref f)=some (.type "function"))
  (h:codeAny (model prog w) (A.under (.builtin "type.__call__" ⟨.ref C::vs,kw⟩)) (.call (.ref f) ⟨.ref (s.heap.objs.size+1)::vs,kw⟩) (PySem.W.InitBack (s.heap.objs.size+1) R)
   {s with heap:=(s.heap.push PySem.W.emptyDict).push (PySem.W.instObj C s.heap.objs.size)}) :
  codeAny (model prog w) A (.call (.ref C) ⟨vs,kw⟩) R s:=by
 obtain⟨hh,g,d,t,os⟩:=s;exact PySem.W.make_core (PySem.W.makes_of X hm) (PySem.W.looks_findIn X hi) (λself=>PySem.W.bind_fn X self hf) (.inl rfl) h
end
noncomputable def eF(f:Str)(v:V):List (Str×V)->List (Str×V)
 |[]=>[(f,v)]
 |(g,x)::r=>if g=f then (g,v)::r else (g,x)::eF f v r
theorem Uw(f g:Str)(v:V):∀fs:List (Str×V),(eF f v fs).lookup g=if g=f then some v else fs.lookup g
 |[]=>by
  show List.lookup g [(f,v)]=_;by_cases h:g=f
  ·have hb:(g==f)=true:=oJ.mpr h;simp only[List.lookup,hb,if_pos h]
  ·have hb:(g==f)=false:=Ac.mpr h;simp only[List.lookup,hb,if_neg h]
 |(k,x)::r=>by
  have ih:=Uw f g v r;rw[show eF f v ((k,x)::r)=(if k=f then (k,v)::r else (k,x)::eF f v r) from rfl];by_cases hk:k=f
  ·rw[if_pos hk];by_cases h:g=k
   ·have hb:(g==k)=true:=oJ.mpr h;simp only[List.lookup,hb,if_pos (h.trans hk)]
   ·have hb:(g==k)=false:=Ac.mpr h;simp only[List.lookup,hb,if_neg (λe:g=f=>h (e.trans hk.symm))]
  ·rw[if_neg hk];by_cases h:g=k
   ·have hb:(g==k)=true:=oJ.mpr h;simp only[List.lookup,hb,if_neg (λe:g=f=>hk (h.symm.trans e))]
   ·have hb:(g==k)=false:=Ac.mpr h;simp only[List.lookup,hb];exact ih
theorem Ng(f:Str)(v:V):∀fs:List (Str×V),f∈(eF f v fs).map (·.1)/\∀g,g∈fs.map (·.1)->g∈(eF f v fs).map (·.1)
 |[]=>⟨by simp[eF],λg h=>by simp at h⟩
 |(k,x)::r=>by
  obtain⟨i1,i2⟩:=Ng f v r;rw[show eF f v ((k,x)::r)=(if k=f then (k,v)::r else (k,x)::eF f v r) from rfl];by_cases hk:k=f
  ·rw[if_pos hk];subst hk;exact⟨by simp,λg h=>by simpa using h⟩
  ·rw[if_neg hk];refine⟨?_,λg h=>?_⟩
   ·rw[iU];exact gW _ i1
   ·rw[iU] at h ⊢;rcases gG.mp h with e|e
    ·exact gG.mpr (.inl e)
    ·exact gW _ (i2 g e)
theorem Ux(f:Str)(v:V):∀fs:List (Str×V),(eF f v fs).length<=fs.length+1
 |[]=>by simp[eF]
 |(k,x)::r=>by
  have ih:=Ux f v r;rw[show eF f v ((k,x)::r)=(if k=f then (k,v)::r else (k,x)::eF f v r) from rfl];by_cases hk:k=f
  ·rw[if_pos hk,fZ,fZ];lia
  ·rw[if_neg hk,fZ,fZ];lia
theorem Kaf{v:V}{o:Option Value}(r:pQ (some v) o):∃u,o=some u/\RelV v u:=by
 cases o with
 |none=>exact(show False from r).elim
 |some u=>exact⟨u,rfl,r⟩
theorem Kae{o:Option Value}(r:pQ none o):o=none:=by
 cases o with
 |none=>rfl
 |some u=>exact(show False from r).elim
theorem zfx{v:V}{u:Value}(r:RelV v u):PySem.W.handedIn u=true:=by
 cases v with
 |non=>cases (show u=Value.none from r);rfl
 |bl b=>cases (show u=Value.bool b from r);rfl
 |int i=>obtain⟨t,e⟩:=(show ∃t,u=Value.int i t from r);cases e;rfl
 |str x=>obtain⟨t,e⟩:=(show ∃t,u=Value.str x t from r);cases e;rfl
 |yd b=>obtain⟨t,e⟩:=(show ∃t,u=Value.bytes b t from r);cases e;rfl
 |flt b=>obtain⟨t,e⟩:=(show ∃t,u=Value.float b t from r);cases e;rfl
 |ref a=>cases (show u=Value.ref a from r);rfl
 |ty n=>cases (show u=Value.type n from r);rfl
section
variable {P:Program}{w:World}{H H':Hp}{h h':Heap}{a C dx:Addr}{fs fs':List (Str×V)}
theorem Nh(hok:gZ P w H h)(e:H a=some (.ins C dx fs)):∃mA,nH h a dx C mA/\(∀f,pQ (fs.lookup f) (mA f))/\PySem.Within mA (fs.map (·.1))/\fs.length<=1000/\H dx=some (.own a):=by
 obtain⟨d,z,ne,ob,mA,n,r,q⟩:=(show bG P w H h a (.ins C dx fs) from hok a _ e);exact⟨mA,⟨ob,n,ne⟩,r,q,z,d⟩
end
structure Cls(K:W.Frag)(C:Addr):Prop where
 pg:PySem.W.plainGet K C Str.empty=true
 hd:PySem.W.hasDictIn K C=true
 po:PySem.W.plainOver K C=true
 sa:PySem.W.findIn K (.ref C) "__setattr__"=some (some (.builtin "object.__setattr__"))
theorem Cls.get{K:W.Frag}{C:Addr}(c:Cls K C)(f:Str):PySem.W.plainGet K C f=true:=c.pg
def f9(K:W.Frag)(C:Addr)(f:Str):Prop:=PySem.W.findIn K (.ref C) f=some none
theorem f9.taker{K:W.Frag}{C:Addr}{f:Str}(n:f9 K C f):PySem.W.takerIn K C f=some none:=by
 unfold PySem.W.takerIn;rw[show PySem.W.findIn K (.ref C) f=some none from n];rfl
structure Meth(K:W.Frag)(C:Addr)(m:Str)(f:Addr):Prop where
 at_:PySem.W.findIn K (.ref C) m=some (some (.ref f))
 fn:PySem.W.isFn K (.ref f)=true
 kp:PySem.W.keepIn K (.ref f)=true
section
variable {X:Cx}{ao:List (Addr×Obj)}{Z:St}{H:Hp}{s:Shared}{a C dx:Addr}{fs:List (Str×V)}{f:Str}{v:V}{A:Around}{E:Value->Shared->Prop}
theorem zfa{b:Bool}{Q:Value->Shared->Prop}(I:Inv X ao Z H s)(e:H a=some (.ins C dx fs))(c:Cls X.K C)(n:f9 X.K C f)(l:fs.lookup f=some v)
  (h:∀u s',Inv X ao Z H s'->RelV v u->Q u s'):wpAny (model X.prog X.w) A (getAttr (.ref a) f b) Q E s:=by
 obtain⟨mA,O,r,_,_,_⟩:=Nh I.hok e;obtain⟨u,hu,ru⟩:=Kaf (v:=v) (o:=mA f) (by rw[<-l];exact r f);exact zjH I.lZ O (c.get f) c.hd n hu (zfx ru) (h u _ (I.tok _) ru)
theorem zeS{m:Str}{g:Addr}{pl:Sem Bool}{Q:Value×List Value->Shared->Prop}(I:Inv X ao Z H s)(e:H a=some (.ins C dx fs))(c:Cls X.K C)(k:Meth X.K C m g)(l:fs.lookup m=none)
  (h:Q (.ref g,[.ref a]) s):wpAny (model X.prog X.w) A (getMethod (.ref a) m pl) Q E s:=by
 obtain⟨mA,O,r,_,_,_⟩:=Nh I.hok e;have hn:mA m=none:=Kae (by rw[<-l];exact r m);exact zg4 I.lZ O (c.get m) k.at_ k.fn hn h
theorem zeY{y:V}{u:Value}{Q:Unit->Shared->Prop}(I:Inv X ao Z H s)(e:H a=some (.ins C dx fs))(c:Cls X.K C)(n:f9 X.K C f)(hl:fs.length<1000)(ry:RelV y u)
  (h:∀s',Inv X ao Z (upd H a (.ins C dx (eF f y fs))) s'->Q () s'):wpAny (model X.prog X.w) A (setAttr (.ref a) f u) Q E s:=by
 obtain⟨mA,O,r,wi,_,ho⟩:=Nh I.hok e;have hz:(fs.map (·.1)).length<=sizeLine:=by rw[bV,tH];lia
 refine zib I.lZ O c.sa c.po n.taker c.hd wi hz λh' O' sb=>h _ ?_;have hd:∃o,h'.get? dx=some o:=let ⟨o,_,_,e',_⟩:=O'.ns;⟨o,e'⟩;refine I.write (x:=a) (e:=dx) (by rw[e];exact True.intro) (.inr ho) (λb q hb z=>(sb.2 b hb).trans z) hd ?_;refine⟨by rw[dO O.ne];exact ho,?_,O.ne,O'.obj,_,O'.ns,λg=>?_,λg hg=>?_⟩
 ·have:=Ux f y fs;lia
 ·show pQ ((eF f y fs).lookup g) (if g=f then some u else mA g);rw[Uw];by_cases q:g=f
  ·rw[if_pos q,if_pos q];exact ry
  ·rw[if_neg q,if_neg q];exact r g
 ·by_cases q:g=f
  ·rw[q];exact(Ng f y fs).1
  ·refine(Ng f y fs).2 g (wi g λz=>hg ?_);show (if g=f then some u else mA g)=none;rw[if_neg q];exact z
theorem Inv.made(I:Inv X ao Z H s):Inv X ao Z (upd (upd H s.heap.objs.size (.own (s.heap.objs.size+1))) (s.heap.objs.size+1) (.ins C s.heap.objs.size []))
  {s with heap:=(s.heap.push PySem.W.emptyDict).push (PySem.W.instObj C s.heap.objs.size)}:=by
 have e1:(s.heap.push PySem.W.emptyDict).get? s.heap.objs.size=some PySem.W.emptyDict:=fj s.heap rfl;have e2:((s.heap.push PySem.W.emptyDict).push (PySem.W.instObj C s.heap.objs.size)).get? (s.heap.objs.size+1)=some (PySem.W.instObj C s.heap.objs.size):=by
  have:=fj (s.heap.push PySem.W.emptyDict) (o:=PySem.W.instObj C s.heap.objs.size) rfl
  rwa [tG] at this
 have e3:(s.heap.push PySem.W.emptyDict).Ns s.heap.objs.size (λ_=>none):=⟨PySem.W.emptyDict,#[],_,e1,rfl,(λe he=>absurd he (by simp)),λ_=>rfl⟩;have I1:=I.laid (a:=s.heap.objs.size) (o:=.own (s.heap.objs.size+1)) (h':=s.heap.push PySem.W.emptyDict) (t':=s.toks) (λb u q=>cG _ q) (bI _) ⟨_,e1⟩;refine I1.laid (a:=s.heap.objs.size+1) (o:=.ins C s.heap.objs.size []) (t':=s.toks) (λb u q=>cG _ q) (Nat.le_of_eq (tG _ _)) ?_;have ne:s.heap.objs.size≠s.heap.objs.size+1:=dJ (Ip _);refine⟨by rw[dO ne,jC],v8 _,ne,e2,λ_=>none,(Heap.Ns1.of_empty e3).at λo q=>cG _ q,λ_=>True.intro,λy hy=>absurd rfl hy⟩
theorem ziv{prog:Program}{w:World}{env:Env}{e:Expr}{f:Str}{pos:Pos}{s:Shared}{Q:Value->Shared->Prop}(hb:attributeBase e f env (eval e env)=eval e env)
  (h:wpAny (model prog w) A (eval e env) (λo s₁=>wpAny (model prog w) A (getAttr o f true) Q E s₁) E s):wpAny (model prog w) A (eval (.Attribute e f pos) env) Q E s:=
 Attribute_any_ h (by rw[arm_eval_Attribute,hb])
end
noncomputable def Ni(K:W.Frag)(ta:TE)(f:Str):TE:=λZ H Q=>ta Z H λx H1=>∃a C dx fs v,x=.ref a/\H1 a=some (.ins C dx fs)/\Cls K C/\f9 K C f/\fs.lookup f=some v/\Q v H1
noncomputable def Nj(K:W.Frag)(ta tv:TE)(f:Str):TS:=λD Z H=>tv Z H λy H1=>ta Z H1 λx H2=>∃a C dx fs,x=.ref a/\H2 a=some (.ins C dx fs)/\Cls K C/\f9 K C f/\fs.length<1000 /\
 D.nx Z (upd H2 a (.ins C dx (eF f y fs)))
section
variable {X:Cx}{o e value:Expr}{f:Str}{pos pos' tpos:Pos}{ta tv:TE}
theorem zlN(he:PE X e ta)(hb:attributeBase e f X.env (eval e X.env)=eval e X.env):PE X (.Attribute e f pos) (Ni X.K ta f):=by
 intro ao s Z H Q I h;refine ziv hb (aZ (he ao s Z H _ I h) λu s1 ⟨x,H1,I1,rx,a,C,dx,fs,v,ex,ea,c,n,l,q⟩=>?_);subst ex;obtain rfl:u=Value.ref a:=rx;exact zfa I1 ea c n l λu' s2 I2 ru=>⟨v,H1,I2,ru,q⟩
theorem zl1(ha:PE X o ta)(hv:PE X value tv)(hs:swapsWith value (some (.Attribute o f pos')) pos.line X.env=pure false):PS X (.Assign [.Attribute o f pos'] value pos) (Nj X.K ta tv f):=by
 intro ao s Z H D I h;refine plainObj_wpAny_Assign_Attribute (aZ (hv ao s Z H _ I h) λu s1 hx=>dY hx λy H1 I1 ry q=>aZ (ha ao s1 Z H1 _ I1 q) λov s2 ⟨x,H2,I2,rx,a,C,dx,fs,ex,ea,c,n,l,q2⟩=>?_) hs;subst ex;obtain rfl:ov=Value.ref a:=rx;exact zeY I2 ea c n l ry λs3 I3=>⟨Z,_,I3,q2⟩
end
section
variable {X:Cx}{ao:List (Addr×Obj)}{Z:St}{H:Hp}{s:Shared}{A:Around}{E:Value->Shared->Prop}{Q:Value->Shared->Prop}{c:Value}{b:Bool}
end
structure bD(k:Nat)(A:Around):Prop where
 dp:A.depth+3*k+5<recursionLimit
 un:A.units+16*k+200<cLine
 gd:A.guards=some []
theorem bD.deeper{k:Nat}{A:Around}(r:bD (k+1) A)(env:Env):bD k (A.deeper env):=
 ⟨by have:=r.dp;show A.depth+1+3*k+5<_;lia,by have:=r.un;show A.units+3+16*k+200<_;lia,r.gd⟩
theorem ze8{A:Around}{C:Addr}{us:List Value}{kw:List (Str×Value)}:(A.under (.builtin "type.__call__" ⟨.ref C::us,kw⟩)).depth=A.depth+1:=by
 first|rfl|simp[Around.under,Code.weight,Code.isCreation,Code.isGuard,Code.isCaller,Code.frames,Code.isFrame,guardIds]
theorem zeI{A:Around}{C:Addr}{us:List Value}{kw:List (Str×Value)}:(A.under (.builtin "type.__call__" ⟨.ref C::us,kw⟩)).units=A.units+1:=by
 first|rfl|simp[Around.under,Code.cUnits,Code.frames,Code.isFrame]
theorem bD.depth{k:Nat}{A:Around}(r:bD k A):A.depth<recursionLimit:=by have:=r.dp;lia
noncomputable def Nk:TA:=λ_ H Q=>Q [] H
noncomputable def DX(ta:TE)(tr:TA):TA:=λZ H Q=>ta Z H λx H1=>tr Z H1 λxs H2=>Q (x::xs) H2
section
variable {X:Cx}{e:Expr}{es:List Expr}{te:TE}{t:TA}{pos:Pos}
theorem yG:PA X [] Nk:=λ_ _ _ _ H Q I h=>Calls.spliced_nil ⟨[],H,I,.nil,h⟩
theorem tO(ha:PE X e te)(hr:PA X es t)(hs:starEach (e::es) X.env=(false,eval e X.env)::starEach es X.env:=by rfl):PA X (e::es) (DX te t):=by
 intro pos ao s Z H Q I h;rw[hs];show wpAny _ _ (spliced ((false,eval e X.env)::backTo pos (starEach es X.env))) _ _ s;refine Calls.spliced_cons (aZ (ha ao s Z H _ I h) λu s1 hx=>dY hx λx H1 I1 r1 q1=>?_);exact aZ (hr pos ao s1 Z H1 _ I1 q1) λus s2 hx=>dY hx λxs H2 I2 r2 q2=>⟨x::xs,H2,I2,.cons r1 r2,q2⟩
noncomputable def Nm(t:TA):TE:=λZ H Q=>t Z H λxs H1=>xs.length<=sizeLine/\∀p,H1 p=none->Q (.ref p) (upd H1 p (.tup xs))
noncomputable def Np(t:TA):TE:=λZ H Q=>t Z H λxs H1=>xs.length<=sizeLine/\∀p,H1 p=none->Q (.ref p) (upd H1 p (.lst xs))
theorem zlZ{x1}(h:PA X es t):PE X (.Tuple es x1 pos) (Nm t):=by
 intro ao s Z H Q I hq;refine wpAny_Tuple_spliced (aZ (h pos ao s Z H _ I hq) λus s1 ⟨xs,H1,I1,r,z,q⟩=>⟨by rw[<-r.length];exact z,?_⟩);have hf:H1 s1.heap.objs.size=none:=I1.hok.fresh (bI _);refine⟨.ref s1.heap.objs.size,upd H1 s1.heap.objs.size (.tup xs),I1.laid (t':=s1.toks) (λb u e=>cG _ e) (bI _) ?_,rfl,q _ hf⟩;exact⟨z,us,r,⟨_,fj _ rfl,rfl,_,rfl⟩⟩
theorem zl0(h:PA X es t):PE X (.List es pos) (Np t):=by
 intro ao s Z H Q I hq;refine wpAny_List_spliced (aZ (h pos ao s Z H _ I hq) λus s1 ⟨xs,H1,I1,r,z,q⟩=>⟨by rw[<-r.length];exact z,?_⟩);have hf:H1 s1.heap.objs.size=none:=I1.hok.fresh (bI _);refine⟨.ref s1.heap.objs.size,upd H1 s1.heap.objs.size (.lst xs),I1.laid (t':=s1.toks) (λb u e=>cG _ e) (bI _) ?_,rfl,q _ hf⟩;exact⟨z,us,0,r,fj _ rfl⟩
end
noncomputable abbrev Sp:=List V->Hp->VK->XK->Prop
noncomputable abbrev qC:=List Env->Hp->Shared->XK->Value->Shared->Prop
structure nJ(P:Program)(w:World)(K:W.Frag)(mg:Str->Option Value)(base:Heap)(A:Around)(outer:List Env)(s:Shared)(H:Hp):Prop where
 frames:A.frames=some outer
 mod:Mod K mg base
 bs:∀b o,base.get? b=some o->s.heap.get? b=some o/\H b=none
 yj:base.objs.size<=s.heap.objs.size
 jH:s.heap.FunFrames base outer
 Dq:∀b∈frs outer,H b=none
 hok:gZ P w H s.heap
 bare:AllBare s.gens
def CE(outer:List Env)(P:Program)(w:World)(H:Hp)(s:Shared)(Q:VK)(u:Value)(s':Shared):Prop:=
 ∃v H',s'.os=s.os/\AllBare s'.gens/\Un (frs outer) [] H H' s.heap s'.heap/\gZ P w H' s'.heap/\RelV v u/\Q v H'
def CR(CX:qC)(outer:List Env)(P:Program)(w:World)(H:Hp)(s:Shared)(Q:VK)(E:XK)(r:Result)(s':Shared):Prop:=
 match r with
 |.ok (.ret u)=>CE outer P w H s Q u s'
 |.ok _=>False
 |.error e=>CX outer H s E e s'
structure bW(P:Program)(w:World)(K:W.Frag)(mg:Str->Option Value)(base:Heap)(CX:qC)(cm:Bool)(k:Nat)(f:Addr)(fd:FuncData)(ps:List Str)(sp:Sp):Prop where
 len:∀vs H Q E,sp vs H Q E->vs.length=ps.length
 run:∀(A:Around) (outer:List Env) (s:Shared) (H:Hp) (args:Args) (us:List Value) (vs:List V) (Q:VK) (E:XK),(cm=true->A.handled=none)->bD k A->nJ P w K mg base A outer s H->BindsTo s fd args (ps.zip us)->Vals vs us->sp vs H Q E->
  codeAny (model P w) A (.call (.ref f) args) (CR CX outer P w H s Q E) s
theorem bW.imp{P:Program}{w:World}{K:W.Frag}{mg:Str->Option Value}{base:Heap}{CX:qC}{cm:Bool}{k:Nat}{f:Addr}{fd:FuncData}{ps:List Str}{sp Uy:Sp}(F:bW P w K mg base CX cm k f fd ps sp)
  (h:∀vs H Q E,Uy vs H Q E->sp vs H Q E):bW P w K mg base CX cm k f fd ps Uy:=
 ⟨λvs H Q E q=>F.len vs H Q E (h _ _ _ _ q),λA outer s H args us vs Q E iV hr he hb hv hs=>F.run A outer s H args us vs Q E iV hr he hb hv (h _ _ _ _ hs)⟩
theorem nJ.make{P:Program}{w:World}{K:W.Frag}{mg:Str->Option Value}{base:Heap}{A:Around}{outer:List Env}{s:Shared}{H:Hp}(e:nJ P w K mg base A outer s H)(C:Addr)(us:List Value)(kw:List (Str×Value)) :
  nJ P w K mg base (A.under (.builtin "type.__call__" ⟨.ref C::us,kw⟩)) outer s H:=⟨by first|exact e.frames|(simpa [Around.under,Code.envs,Code.isFrame,pushEnvs] using e.frames),e.mod,e.bs,e.yj,e.jH,e.Dq,e.hok,e.bare⟩
section
variable {X:Cx}{ao:List (Addr×Obj)}{Z:St}{H:Hp}{s s':Shared}
theorem Inv.env0(I:Inv X ao Z H s):nJ X.prog X.w X.K X.mg X.base X.A X.stack s H:=
 ⟨I.ok.frames,I.ok.mod,I.bs,jO I.ok.yj I.sz,I.stack,I.kY,I.hok,I.bare⟩
theorem Inv.after{Q:VK}{u:Value}(I:Inv X ao Z H s)(h:CE X.stack X.prog X.w H s Q u s'):EP X ao Z Q u s':=by
 obtain⟨v,H',os,bare,un,hok,r,q⟩:=h;obtain⟨hh,g,d,t,os'⟩:=s';obtain rfl:os'=s.os:=os;exact⟨v,H',I.call (h':=hh) (g':=g) (d':=d) (t':=t) (ch:=[]) un hok bare (λb z=>absurd z (by simp)),r,q⟩
end
noncomputable def DY(C:Addr)(m:Str)(sp:Sp)(mD:List V)(E:XK)(ta:TE)(t:TA):TE:=λZ H Q=>ta Z H λx H1=>∃a dx fs,x=.ref a/\H1 a=some (.ins C dx fs)/\fs.lookup m=none /\
 t Z H1 λvs H2=>sp (x::(vs++mD)) H2 Q E
noncomputable def D_(C:Addr)(sp:Sp)(mD:List V)(E:XK)(t:TA):TE:=λZ H Q=>t Z H λvs H1=>∀x dx,H1 x=none->H1 dx=none->dx≠x->
 sp (.ref x::(vs++mD)) (upd (upd H1 dx (.own x)) x (.ins C dx [])) (λv H2=>v=.non/\Q (.ref x) H2) E
def Binds(K:W.Frag)(fd:FuncData)(ps:List Str)(ds:List Value):Prop:=
 ∀(s:Shared) (us:List Value),K.In s.heap->(us++ds).length=ps.length->BindsTo s fd ⟨us,[]⟩ (ps.zip (us++ds))
theorem Binds.all{K:W.Frag}{fd:FuncData}{ps:List Str}(h:∀us:List Value,us.length=ps.length->bindArgs fd ⟨us,[]⟩=pure (ps.zip us)):Binds K fd ps []:=λs us _ hl=>by
 rw[vZ] at hl ⊢;exact .of_eq (h us hl)
def Passes(CX:qC)(X:Cx)(E:XK):Prop:=∀(ao:List (Addr×Obj)) (Z:St) (H:Hp) (s:Shared) (e:Value) (s':Shared),Inv X ao Z H s->CX X.stack H s E e s'->X.xe e s'
section
variable {X:Cx}{CX:qC}{cm:Bool}{k:Nat}{f C:Addr}{fd:FuncData}{ps:List Str}{sp:Sp}{mD:List V}{ds:List Value}{E:XK}{x m:Str}{p pos apos:Pos}{e o:Expr}{es:List Expr}{ta:TE}{t:TA}
theorem zkd{ao:List (Addr×Obj)}{Z:St}{H:Hp}{s:Shared}{Q:VK}{us:List Value}{vs:List V}(F:bW X.prog X.w X.K X.mg X.base CX cm k f fd ps sp)(iV:cm=true->X.aj=true)(hr:bD k X.A)(hb:Binds X.K fd ps ds)(hd:Vals mD ds)(hx:Passes CX X E)
  (I:Inv X ao Z H s) (r:Vals vs us) (h:sp (vs++mD) H Q E):wpAny (model X.prog X.w) X.A (call (.ref f) us) (EP X ao Z Q) X.xe s:=by
 have r2:Vals (vs++mD) (us++ds):=r.append hd;have hl:(us++ds).length=ps.length:=by rw[<-r2.length];exact F.len _ _ _ _ h
 refine wpAny_call (Ar (F.run X.A X.stack s H ⟨us,[]⟩ (us++ds) (vs++mD) Q E (λz=>I.ok.hd (iV z)) hr I.env0 (hb s us I.lZ hl) r2 h) λr s' hq=>?_);cases r with
 |error e=>exact hx ao Z H s e s' I hq
 |ok fl=>
  cases fl with
  |ret u=>exact I.after hq
  |next=>exact False.elim hq
  |brk=>exact False.elim hq
  |cont=>exact False.elim hq
theorem ziw{pl:Sem Bool}(he:PE X o ta)(c:Cls X.K C)(hm:Meth X.K C m f)(F:bW X.prog X.w X.K X.mg X.base CX cm k f fd ps sp)(iV:cm=true->X.aj=true)(hr:bD k X.A)(hb:Binds X.K fd ps ds)(hd:Vals mD ds)(hx:Passes CX X E)(ha:PA X (e::es) t)
  (yu:starEach (e::es) X.env=(false,eval e X.env)::starEach es X.env:=by rfl) (hpl:(backTo pos (starEach es X.env)).any (·.1)=false:=by rfl)
  (ht:eval (.Call (.Attribute o m apos) (e::es) [] pos) X.env=(do
   let ov <-eval o X.env
   standAt apos.atName
   let (f,first) <-holding [ov] (getMethod ov m pl)
   callWith pos f first (backTo pos (starEach (e::es) X.env)) (backToKw pos (keywordEach [] X.env))):=by rfl) :
  PE X (.Call (.Attribute o m apos) (e::es) [] pos) (DY C m sp mD E ta t):=by
 intro ao s Z H Q I h;refine PySem.W.methodCall_KW (pl:=pl) (aZ (he ao s Z H _ I h) λu s1 ⟨x,H1,I1,rx,a,dx,fs,ex,ea,l,q⟩=>?_) ht;subst ex;obtain rfl:u=Value.ref a:=rx;refine zeS I1 ea c hm l ?_;refine Lz (first:=[.ref a]) (h₀:=X.base) I.ok.mod.wg hm.kp (aZ (ha pos ao s1 Z H1 _ I1 q) λus s2 ⟨vs,H2,I2,r,q2⟩=>⟨I2.lZ,?_⟩) yu hpl;exact zkd (us:=.ref a::us) (vs:=.ref a::vs) F iV hr hb hd hx I2 (.cons rfl r) q2
structure Mk(K:W.Frag)(C f:Addr):Prop where
 makes:PySem.W.makesIn K C=true
 init:PySem.W.findIn K (.ref C) "__init__"=some (some (.ref f))
 fn:PySem.W.isFn K (.ref f)=true
 kp:PySem.W.keepIn K (.ref C)=true
theorem zgO{ao:List (Addr×Obj)}{Z:St}{H:Hp}{s:Shared}{Q:VK}{us:List Value}{vs:List V}(M:Mk X.K C f)(F:bW X.prog X.w X.K X.mg X.base CX cm k f fd ps sp)(iV:cm=true->X.aj=true)(hr:∀us,bD k (X.A.under (.builtin "type.__call__" ⟨.ref C::us,[]⟩)))(hb:Binds X.K fd ps ds)(hd:Vals mD ds)
  (hx:Passes CX X E) (I:Inv X ao Z H s) (r:Vals vs us)
  (h:∀x dx,H x=none->H dx=none->dx≠x->sp (.ref x::(vs++mD)) (upd (upd H dx (.own x)) x (.ins C dx [])) (λv H2=>v=.non/\Q (.ref x) H2) E) :
  wpAny (model X.prog X.w) X.A (call (.ref C) us) (EP X ao Z Q) X.xe s:=by
 have hq:=h (s.heap.objs.size+1) s.heap.objs.size (I.hok.fresh (Nat.le_succ _)) (I.hok.fresh (bI _)) (dJ (Ip _));have I2:=Inv.made (C:=C) I;have r2:Vals (V.ref (s.heap.objs.size+1)::(vs++mD)) (Value.ref (s.heap.objs.size+1)::(us++ds)):=.cons rfl (r.append hd);have hl:(Value.ref (s.heap.objs.size+1)::us++ds).length=ps.length:=by
  have e:=r2.length;rw[F.len _ _ _ _ hq] at e;exact e.symm
 refine wpAny_call (zgW (f:=f) I.lZ M.makes M.init (oJ.mp M.fn) (Ar (F.run _ X.stack _ _ ⟨Value.ref (s.heap.objs.size+1)::us,[]⟩ (Value.ref (s.heap.objs.size+1)::(us++ds)) _ _ E (λz=>I.ok.hd (iV z)) (hr us)
  (I2.env0.make C us []) (hb _ (Value.ref (s.heap.objs.size+1)::us) I2.lZ hl) r2 hq) λr s' Ed=>?_))
 cases r with
 |error e=>exact hx ao Z _ _ e s' I2 Ed
 |ok fl=>
  cases fl with
  |ret u=>
   obtain⟨v,H',I3,rv,ev,q3⟩:=I2.after Ed;subst ev;exact⟨rv,⟨V.ref (s.heap.objs.size+1),H',I3,rfl,q3⟩⟩
  |next=>exact False.elim Ed
  |brk=>exact False.elim Ed
  |cont=>exact False.elim Ed
theorem zim(M:Mk X.K C f)(F:bW X.prog X.w X.K X.mg X.base CX cm k f fd ps sp)(iV:cm=true->X.aj=true)(hr:∀us,bD k (X.A.under (.builtin "type.__call__" ⟨.ref C::us,[]⟩)))(hg:Gl X x)(hm:X.mg x=some (.ref C))(hb:Binds X.K fd ps ds)(hd:Vals mD ds)(hx:Passes CX X E)
  (ha:PA X (e::es) t) (pR:(x==("__debug__" : Str))=false:=by decide) (he:starEach (e::es) X.env=(false,eval e X.env)::starEach es X.env:=by rfl) (hpl:(backTo pos (starEach es X.env)).any (·.1)=false:=by rfl) :
  PE X (.Call (.Name x p) (e::es) [] pos) (D_ C sp mD E t):=by
 intro ao s Z H Q I h;refine Ag (Mw I hg hm ?_ pR);refine Lz (h₀:=X.base) I.ok.mod.wg M.kp (aZ (ha pos ao s Z H _ I h) λus s1 ⟨vs,H1,I1,r,q⟩=>⟨I1.lZ,?_⟩) he hpl;exact zgO M F iV hr hb hd hx I1 r q
end
section
variable {X:Cx}{CX:qC}{cm:Bool}{k:Nat}{f C:Addr}{fd:FuncData}{ps ks:List Str}{sp:Sp}{E:XK}{x m:Str}{p pos apos kpos:Pos}{e o:Expr}{es:List Expr}{kws:List Keyword}{te ta:TE}{t tk:TA}{nm:Option Str}
variable {g:List Value->List Value->List Value}{gV:List V->List V->List V}
end
structure cN(N P:List Str)(sc:Scope):Prop where
 kind:sc.kind=.function
 co:sc.isCoroutine=false
 gen:sc.isGenerator=false
 nd:N.Nodup
 pre:N.take P.length=P
 par:∀x∈P,sc.names.lookup x=some .local\/sc.names.lookup x=some .cell
 yH:∀y∈sc.names,y.2≠.free
theorem Uz{kindOf:Str->Option NameKind}{x:Str}:∀{binds:List (Str×Value)} {m:Str->Option Value},(∀v,(x,v)∉binds)->bindL kindOf binds m x=m x
 |[],_,_=>rfl
 |(n,v)::r,m,h=>by
  unfold bindL;rw[Uz λw hw=>h w (gW _ hw)]
  split
  ·have:x≠n:=by rintro rfl;exact h v kh
   simp[this]
  ·rfl
theorem UG{kindOf:Str->Option NameKind}{x:Str}:∀{binds:List (Str×Value)} {m:Str->Option Value},(∀v,(x,v)∉binds)->bindC kindOf binds m x=m x
 |[],_,_=>rfl
 |(n,v)::r,m,h=>by
  unfold bindC;rw[UG λw hw=>h w (gW _ hw)]
  split
  ·rfl
  ·have:x≠n:=by rintro rfl;exact h v kh
   simp[this]
theorem UJ{kindOf:Str->Option NameKind}{x:Str}{v:Value}:∀{P:List Str} {vs:List Value} {i:Nat} {m:Str->Option Value},P.Nodup->P[i]?=some x->vs[i]?=some v->kindOf x=some .local->
  bindL kindOf (P.zip vs) m x=some v
 |[],_,_,_,_,h,_,_=>by simp at h
 |_::_,[],_,_,_,_,h,_=>by simp at h
 |p::P,w::vs,0,m,nd,h1,h2,hk=>by
  simp at h1 h2;subst h1;subst h2;show bindL kindOf ((p,w)::P.zip vs) m p=_;unfold bindL;rw[Uz λv hv=>(uy.mp nd).1 (List.of_mem_zip hv).1,if_pos hk];simp
 |p::P,w::vs,i+1,m,nd,h1,h2,hk=>by
  show bindL kindOf ((p,w)::P.zip vs) m x=_;unfold bindL;exact UJ (i:=i) (uy.mp nd).2 (by simpa using h1) (by simpa using h2) hk
theorem UL{kindOf:Str->Option NameKind}{x:Str}{v:Value}:∀{P:List Str} {vs:List Value} {i:Nat} {m:Str->Option Value},P.Nodup->P[i]?=some x->vs[i]?=some v->kindOf x≠some .local->
  bindC kindOf (P.zip vs) m x=some v
 |[],_,_,_,_,h,_,_=>by simp at h
 |_::_,[],_,_,_,_,h,_=>by simp at h
 |p::P,w::vs,0,m,nd,h1,h2,hk=>by
  simp at h1 h2;subst h1;subst h2;show bindC kindOf ((p,w)::P.zip vs) m p=_;unfold bindC;rw[UG λv hv=>(uy.mp nd).1 (List.of_mem_zip hv).1,if_neg hk];simp
 |p::P,w::vs,i+1,m,nd,h1,h2,hk=>by
  show bindC kindOf ((p,w)::P.zip vs) m x=_;unfold bindC;exact UL (i:=i) (uy.mp nd).2 (by simpa using h1) (by simpa using h2) hk
noncomputable def start(N:List Str)(vs:List V):St:=vs.map some++List.replicate (N.length-vs.length) none
noncomputable def fD(CX:qC)(P:Program)(w:World)(K:W.Frag)(mg:Str->Option Value)(base:Heap)(N:List Str)(qual:Str)(scope:Scope)(f:Addr)(cd:Value)(A:Around)(outer:List Env)(s:Shared)(H:Hp)(E:XK)(cm:Bool):Cx where
 prog:=P
 w:=w
 K:=K
 mg:=mg
 base:=base
 A:=A.deeper (envOfC qual scope s.heap.objs.size f cd)
 N:=N
 s₀:=s
 H₀:=H
 env:=envOfC qual scope s.heap.objs.size f cd
 outer:=outer
 stack:=envOfC qual scope s.heap.objs.size f cd::outer
 ex:=[]
 aj:=cm
 fn:=λ_=>true
 pn:=[]
 xe:=λe s'=>wpAny (model P w) (A.deeper (envOfC qual scope s.heap.objs.size f cd)) (leaving (envOfC qual scope s.heap.objs.size f cd) e) (λ_ s''=>CX outer H s E e s'') (λe' s''=>CX outer H s E e' s'') s'
theorem UW{sc:Scope}{n:Nat}{x:Str}(h:sc.names.lookup x=some .cell):∃c,(cellsFrom n sc.names []).lookup x=some c:=by
 have q:=Ln sc.names n [] (.inl h);exact Lf.mp q
theorem zf4{CX:qC}{P:Program}{w:World}{K:W.Frag}{mg:Str->Option Value}{base:Heap}{N ps:List Str}{qual:Str}{scope:Scope}{f:Addr}{cd:Value}{A:Around}{outer:List Env}{s s1:Shared}{H:Hp}{E:XK}{us:List Value}{vs:List V}
  {cm:Bool} (S:cN N ps scope) (hd:cm=true->A.handled=none) (e0:nJ P w K mg base A outer s H) (hl:vs.length=ps.length) (r:Vals vs us)
  (x:InCallC s s.heap.objs.size (bindL (envOfC qual scope s.heap.objs.size f cd).kindOf (ps.zip us) λ_=>none) (cellsFrom (s.heap.objs.size+1) scope.names []) (bindC (envOfC qual scope s.heap.objs.size f cd).kindOf (ps.zip us) λ_=>none) s1) :
  Inv (fD CX P w K mg base N qual scope f cd A outer s H E cm) [] (start N vs) H s1:=by
 have hpl:ps.length<=N.length:=by have:=lW List.length S.pre;rw[ur] at this;lia
 obtain⟨h1,tk,rfl,hk⟩:=x.done;have Ef:∀b:Addr,b∉(fD CX P w K mg base N qual scope f cd A outer s H E cm).ex:=λb z=>absurd (show b∈([]:List Addr) from z) (by simp);refine⟨⟨e0.mod,S.kind,rfl,rfl,bI _,λy z c h1 h2=>?_,λy hy=>?_,λy c _ h=>?_,hd,Around.frames_deeper e0.frames,.inr ⟨rfl,rfl⟩,λb z=>absurd z (Ef b),e0.bs,e0.yj,λb _ _=>Ef b,λb z=>absurd z (Ef b),e0.jH,e0.Dq⟩,
  rfl,e0.bare,Un.kept hk,⟨_,x.toInCall.ns,λi y v h1 h2 h3=>?_⟩,λy c h=>⟨_,x.cell y c h⟩,e0.hok.fresh (bI _),λy c h=>?_,λp hp=>absurd (show p∈([]:List (Addr×Obj)) from hp) (by simp),e0.hok.kept hk,?_⟩
 ·exact name_of_addr x.apart (Ad h1) (Ad h2)
 ·have hy:scope.names.lookup y=some .cell\/scope.names.lookup y=some .free:=hy;rcases hy with hy|hy
  ·exact UW hy
  ·exact absurd rfl (S.yH _ (Ad hy))
 ·exact v7 (x.above y c (Ad h))
 ·have hi:i<vs.length:=by
   unfold start at h2;by_cases hi:i<vs.length
   ·exact hi
   ·rw[oE (by simpa using hi)] at h2;rw[xM] at h2;split at h2<;>cases h2
  have ha:vs[i]?=some v:=by
   unfold start at h2;rw[nq (by simpa using hi),gD] at h2;cases e:vs[i]? with
   |none=>rw[e] at h2;cases h2
   |some a=>rw[e] at h2;cases h2;rfl
  obtain⟨u,hu,rv⟩:=r.get ha;have hp:ps[i]?=some y:=by
   rw[<-S.pre,List.getElem?_take_of_lt (by lia)];exact h1
  have U6:ps.Nodup:=by rw[<-S.pre];exact S.nd.sublist (List.take_sublist _ _)
  refine⟨u,rv,?_⟩;rcases S.par y (eZ hp) with k|k
  ·exact .inl ⟨k,UJ U6 hp hu k⟩
  ·obtain⟨c,e⟩:=UW (n:=s.heap.objs.size+1) k;refine .inr ⟨.inl k,c,e,?_⟩;have q:=x.cell y c e;rw[UL U6 hp hu (by show scope.names.lookup y≠_;rw[k];decide)] at q;exact q
 ·exact e0.hok.fresh (v7 (x.above y c (Ad h)))
 ·unfold start;show _=N.length;rw[lV,bV,Cj]
  lia
theorem U7{CX:qC}{cm:Bool}{P:Program}{w:World}{K:W.Frag}{mg:Str->Option Value}{base:Heap}{k:Nat}{f:Addr}{name qual:Str}{params:Arguments}{body:List Stmt}{scope:Scope}{dV kV doc pm cdv ct oc:Value}{an od:Option Addr}
  {osl:Array (Option Value)} {N ps:List Str} {sp:Sp} (lk:K.lookup f=some ⟨oc,od,.func (PySem.W.fnOf name qual params body scope dV kV doc pm an cdv ct),osl⟩) (jD:PySem.W.codeIn K cdv qual=true) (S:cN N ps scope)
  (len:∀vs H Q E,sp vs H Q E->vs.length=ps.length)
  (Eh:∀(A:Around) (outer:List Env) (s:Shared) (H:Hp) (vs:List V) (Q:VK) (E:XK),bD (k+1) A->sp vs H Q E->
   ∃t,oO (fD CX P w K mg base N qual scope f cdv A outer s H E cm) body t/\t {nx:=λ_ H'=>Q .non H',rt:=Q} (start N vs) H) :
  bW P w K mg base CX cm (k+1) f (PySem.W.fnOf name qual params body scope dV kV doc pm an cdv ct) ps sp:=by
 refine⟨len,λA outer s H args us vs Q E iV hr e0 hb r Jp=>?_⟩;have hl:=len _ _ _ _ Jp;have KX:K.In s.heap:=e0.mod.wg.keeps λb o e=>(e0.bs b o e).1;have lim:s.heap.NoLimit:=e0.mod.nolimit.keeps λb o e=>(e0.bs b o e).1;have Ej:∀y∈ps.zip us,scope.names.lookup y.1=some .local\/(scope.names.lookup y.1=some .cell/\((cellsFrom (s.heap.objs.size+1) scope.names []).lookup y.1).isSome=true):=λ⟨n,v⟩ hy=>by
  rcases S.par n (List.of_mem_zip hy).1 with q|q
  ·exact .inl q
  ·exact .inr ⟨q,Ln _ _ _ (.inl q)⟩
 refine codeAny_call_function hr.depth (KX _ _ lk) rfl S.co S.gen rfl (PySem.W.codeRec_of KX jD) (hb _ _ _ _ ?_);refine wpAny_newFunctionEnv_cells S.kind Ej λenv he s1 x=>?_;subst he;refine⟨lim.keeps x.toInCall.keep,codeAny_func ?_⟩;obtain⟨t,ht,hq⟩:=Eh A outer s H vs Q E hr Jp;have I:Inv (fD CX P w K mg base N qual scope f cdv A outer s H E cm) [] (start N vs) H s1:=zf4 S iV e0 hl r x;refine lO (ht [] s1 (start N vs) H _ I hq) (λfl s' hs=>?_) λe s' hs=>hs;have fin:∀{Z':St} {H':Hp} {v:V} {u:Value},Inv (fD CX P w K mg base N qual scope f cdv A outer s H E cm) [] Z' H' s'->RelV v u->Q v H'->CE outer P w H s Q u s':=
  λ{Z' H' v u} cF rv q=>⟨v,H',cF.os,cF.bare,cF.base,cF.hok,rv,q⟩
 cases fl with
 |ret u=>
  obtain⟨v,Z',H',cF,rv,q⟩:=hs;exact fin cF rv q
 |next=>
  obtain⟨Z',H',cF,q⟩:=hs;exact fin (v:=V.non) (u:=Value.none) cF rfl q
 |brk=>
  obtain⟨_,_,_,q⟩:=hs;exact False.elim q
 |cont=>
  obtain⟨_,_,_,q⟩:=hs;exact False.elim q
section
variable {X:Cx}{x:Str}{p pos:Pos}{e:Expr}{es:List Expr}{t:TA}{id T:String}{r:List V->Hp->VK->Prop}
noncomputable def Nq(r:List V->Hp->VK->Prop)(t:TA):TE:=λZ H Q=>t Z H λvs H1=>r vs H1 Q
theorem U8(hc:cJ X (.builtin id) r)(hg:Gl X x)(hm:X.mg x=none)(hv:bootBuiltins x=some (.builtin id))(ha:PA X (e::es) t)(hn:x≠"__name__":=by decide)(pR:(x==("__debug__" : Str))=false:=by decide)
  (he:starEach (e::es) X.env=(false,eval e X.env)::starEach es X.env:=by rfl) (hpl:(backTo pos (starEach es X.env)).any (·.1)=false:=by rfl):PE X (.Call (.Name x p) (e::es) [] pos) (Nq r t):=by
 intro ao s Z H Q I h;refine Ag (uH I hg hm hv ?_ hn pR);exact PyProof.Rows.callWith_builtin1 (aZ (ha pos ao s Z H _ I h) λus s1 hx=>dY hx λvs H1 I1 r1 q1=>hc ao s1 Z H1 vs us Q I1 r1 q1) he hpl
theorem zfD(hc:cJ X (.type T) r)(hg:Gl X x)(hm:X.mg x=none)(hv:bootBuiltins x=some (.type T))(ha:PA X (e::es) t)(hn:x≠"__name__":=by decide)(pR:(x==("__debug__" : Str))=false:=by decide)
  (he:starEach (e::es) X.env=(false,eval e X.env)::starEach es X.env:=by rfl) (hpl:(backTo pos (starEach es X.env)).any (·.1)=false:=by rfl):PE X (.Call (.Name x p) (e::es) [] pos) (Nq r t):=by
 intro ao s Z H Q I h;refine Ag (uH I hg hm hv ?_ hn pR);exact xK (aZ (ha pos ao s Z H _ I h) λus s1 hx=>dY hx λvs H1 I1 r1 q1=>hc ao s1 Z H1 vs us Q I1 r1 q1) he hpl
end
end L2
namespace HT
open PySem PyProof.Rows
noncomputable def lexLt:List Int->List Int->Bool
 |[],[]=>false
 |[],_::_=>true
 |_::_,[]=>false
 |x::xs,y::ys=>if x=y then lexLt xs ys else decide (x<y)
theorem jt(x y:Int)(xs ys:List Int):lexLt (x::xs) (y::ys)=if x=y then lexLt xs ys else decide (x<y):=rfl
theorem zcw:lexLt [] []=false:=rfl
theorem zb0(y:Int)(ys:List Int):lexLt [] (y::ys)=true:=rfl
theorem zb2(x:Int)(xs:List Int):lexLt (x::xs) []=false:=rfl
theorem zht(A:Around)(s:Shared)(a:Int)(t:Tok)(c:Int)(u:Tok):∃e,SeqAt.EqAt A s (.int a t) (.int c u) e/\(e=true↔a=c):=
 ⟨(a==c),SeqAt.EqAt.int_int a t c u,by simp⟩
theorem zgD(A:Around)(s:Shared)(a:Int)(t:Tok)(c:Int)(u:Tok)(prog:Program)(w:World)(E:Value->Shared->Prop)(Q:Value->Shared->Prop)(h:Q (.bool (decide (a<c))) s) :
  wpAny (model prog w) A (richCompare .Lt (.int a t) (.int c u)) Q E s:=
 (PyProof.Rows.lt_int h:wpAny (model prog w) A (compareOp .Lt (.int a t) (.int c u)) Q E s)
section
open PySem.SeqAt
open PySem.AutoSeq1 (wpAny_loadPart')
open PySem.MeetsSeq PySem.MeetsSeq2 PySem.MeetsSeq3
theorem zcr(l b:Addr)(items items2:Array Value)(n n2:Nat)(dd dd2:Option Addr)(sl sl2:Array (Option Value))(ns ms:List Int)(hi:IntsAre items.toList ns)(hj:IntsAre items2.toList ms) :
  Meets (Builtin.«tuple.__lt__» ⟨[.ref l,.ref b],[]⟩)
   (λ_ R s=>s.heap.get? l=some {cls:=.type "tuple",dict:=dd,data:=.seq items n,slots:=sl}/\s.heap.get? b=some {cls:=.type "tuple",dict:=dd2,data:=.seq items2 n2,slots:=sl2} /\
    R (.ok (.ret (.bool (lexLt ns ms)))) s):=
 .of_wp λprog w A R s h=>by
  obtain⟨hp,g,d,tk,os⟩:=s;obtain⟨hl,hb,h⟩:=h;have f2:=AutoSeq1.sub_tuple_tuple;have z1:items.size=ns.length:=by rw[<-hi.length];simp
  have z2:items2.size=ms.length:=by rw[<-hj.length];simp
  wp_walk using wpAny_loadPart' hl,wpAny_loadPart' hb,wpAny_forIn_list _ (λrest b s'=>b.1=none/\s'=⟨hp,g,d,tk,os⟩/\∃(vs ws:List Value) (ns' Bf:List Int),rest=vs.zip ws /\
   IntsAre vs ns'/\IntsAre ws Bf/\ns'.length+items2.size=Bf.length+items.size/\R (.ok (.ret (.bool (lexLt ns' Bf)))) ⟨hp,g,d,tk,os⟩) _
  case turn=>
   rintro⟨y,x⟩ rest b s' ⟨hb',rfl,vs,ws,ns',Bf,hz,Nr,Jq,hlen,hR⟩;cases Nr with
   |nil=>rw[List.zip_nil_left] at hz;cases hz
   |cons a t Nt=>
    cases Jq with
    |nil=>rw[List.zip_nil_right] at hz;cases hz
    |cons c u Nu=>
     rw[Cr] at hz;injection hz with hyx Ek;injection hyx with hy hx;subst hy hx;rw[jt] at hR;simp only[fZ] at hlen;obtain⟨e,he,El⟩:=zht A.in1 ⟨hp,g,d,tk,os⟩ a t c u;refine aC (he prog w _ _ ?_);cases e with
     |true=>
      rw[if_pos (El.mp rfl)] at hR
      wp_walk
      exact⟨rfl,rfl,_,_,_,_,Ek,Nt,Nu,by lia,hR⟩
     |false=>
      rw[if_neg (λq=>absurd (El.mpr q) Ly)] at hR;have hri:=zgD A.in1 ⟨hp,g,d,tk,os⟩ a t c u prog w
      wp_walk using hri
      exact⟨_,rfl,by simpa using hR⟩
  case fin=>
   rintro⟨b1,b2⟩ s' ⟨hb',rfl,vs,ws,ns',Bf,hz,Nr,Jq,hlen,hR⟩;simp only at hb';subst hb';have hv:lexLt ns' Bf=decide (items.size<items2.size):=by
    cases Nr with
    |nil=>
     cases Jq with
     |nil=>
      simp only[Al] at hlen;rw[zcw];exact(jF (by lia)).symm
     |cons c u hw=>
      simp only[Al,fZ] at hlen;rw[zb0];exact(gF (by lia)).symm
    |cons a t hv=>
     cases Jq with
     |nil=>
      simp only[Al,fZ] at hlen;rw[zb2];exact(jF (by lia)).symm
     |cons c u hw=>
      rw[Cr] at hz;cases hz
   rw[hv] at hR
   wp_walk
   exact⟨_,rfl,by simpa [Builtin.Tuple.tupleCompareSizes] using hR⟩
  case h=>
   exact⟨rfl,rfl,items.toList,items2.toList,ns,ms,rfl,hi,hj,by lia,h⟩
end
section
variable {prog:Program}{w:World}{A:Around}{E:Value->Shared->Prop}{s:Shared}
theorem ju{l b:Addr}{items items2:Array Value}{ns ms:List Int}{Q:Value->Shared->Prop}(hl:IsTup s.heap l items)(hb:IsTup s.heap b items2)(hi:IntsAre items.toList ns)(hj:IntsAre items2.toList ms)
  (hu:A.units<cLine) (h:Q (.bool (lexLt ns ms)) s):wpAny (model prog w) A (compareOp .Lt (.ref l) (.ref b)) Q E s:=by
 obtain⟨⟨cls,dd,data,sl⟩,ho,hc,n,hd⟩:=id hl;obtain⟨⟨cls2,dd2,data2,sl2⟩,nM,oR,n2,hd2⟩:=id hb;simp only at hc hd oR hd2;subst hc hd oR hd2;exact richCompare_meets_room (op:=.Lt) ⟨_,ho,rfl⟩ ⟨_,nM,rfl⟩ PySem.F.slot_tuple_lt PySem.F.entry_tuple_lt (PySem.F.args_tuple_lt_2 _ _) (zcr l b items items2 n n2 dd dd2 sl sl2 ns ms hi hj)
  ⟨ho,nM,show Value.bool (lexLt ns ms)≠Value.notImplemented/\Q (.bool (lexLt ns ms)) s from ⟨(λx=>nomatch x),h⟩⟩ hu
theorem uM{t b:Addr}{vs ws:List Value}{Q:Value->Shared->Prop}(ht:IsTup s.heap t vs.toArray)(hb:IsTup s.heap b ws.toArray)(hv:vs≠[])
  (h1:ws=[]->Q (.ref t) s) (h2:ws≠[]->Q (.ref s.heap.objs.size) {s with heap:=s.heap.push {cls:=.type "tuple",data:=.seq (vs++ws).toArray}})
  (hsz:vs.length+ws.length<=sizeLine):wpAny (model prog w) A (binaryOp .Add (.ref t) (.ref b)) Q E s:=by
 obtain⟨⟨cls,dd,data,sl⟩,ho,hc,n,hd⟩:=id ht;obtain⟨⟨cls2,dd2,data2,sl2⟩,nM,oR,n2,hd2⟩:=id hb;simp only at hc hd oR hd2;subst hc hd oR hd2;have e:vs.toArray++ws.toArray=(vs++ws).toArray:=by simp
 by_cases hw:ws=[]
 ·exact concat_meets ⟨_,ho,rfl⟩ ⟨_,nM,rfl⟩ noFill_tuple_add seq_tuple_add Lp Li (Lg _ _)
   (tuple_addW1 t b vs.toArray ws.toArray n n2 dd dd2 sl sl2 (by simpa using hv) (by simp[hw])) ⟨ho,nM,h1 hw⟩
 ·refine concat_meets ⟨_,ho,rfl⟩ ⟨_,nM,rfl⟩ noFill_tuple_add seq_tuple_add Lp Li (Lg _ _)
   (tuple_addW2 t b vs.toArray ws.toArray n n2 dd dd2 sl sl2 (by simpa using hv) (by simpa using hw) (by rw[eG,eG];exact hsz)) ⟨ho,nM,?_⟩
  rw[e];exact h2 hw
noncomputable def bL(n d:Nat):Option Int->Nat
 |none=>d
 |some v=>if v<0 then (v+(n:Int)).toNat else min v.toNat n
theorem jw(n d:Nat):bL n d none=d:=rfl
theorem k_(n d k:Nat):bL n d (some (k:Int))=min k n:=by
 show (if (k:Int)<0 then ((k:Int)+(n:Int)).toNat else min (k:Int).toNat n)=min k n;rw[if_neg (by lia),m9]
theorem zlm(n d:Nat)(hd:d<=n)(o:Option Int):bL n d o<=n:=by
 cases o with
 |none=>exact hd
 |some v=>
  show (if v<0 then (v+(n:Int)).toNat else min v.toNat n)<=n;by_cases hv:v<0
  ·rw[if_pos hv];lia
  ·rw[if_neg hv];exact Nat.min_le_right _ _
theorem U9(v:Int)(n d:Nat):(if v<0 then max (v+(n:Int)) 0 else min v (n:Int))=((bL n d (some v):Nat):Int):=by
 show (if v<0 then max (v+(n:Int)) 0 else min v (n:Int))=(((if v<0 then (v+(n:Int)).toNat else min v.toNat n):Nat):Int);by_cases hv:v<0
 ·simp only[if_pos hv];lia
 ·simp only[if_neg hv];lia
theorem ze9(lo hi:Option Int)(n:Nat):Builtin.Slice.sliceAdjust lo hi 1 (n:Int)=(((bL n 0 lo:Nat):Int),((bL n n hi:Nat):Int)):=by
 have h1:¬((1:Int)<0):=by lia
 unfold Builtin.Slice.sliceAdjust;simp only[h1,qz];refine Prod.ext ?_ ?_
 ·cases lo with
  |none=>rfl
  |some v=>exact U9 v n 0
 ·cases hi with
  |none=>rfl
  |some v=>exact U9 v n n
theorem zeM(i j:Nat):Builtin.Slice.slicePlaces (i:Int) (j:Int) 1=j-i:=by
 unfold Builtin.Slice.slicePlaces;have h1:(1:Int)>0:=by lia
 simp only[h1,if_true,Int.ediv_one]
 split<;>lia
theorem Nv{v:Value}{o:Option Int}{Q:Option Int->Shared->Prop}(p:IsPart v o)(h:Q o s):wpAny (model prog w) A (Builtin.Slice.slicePartIndex v) Q E s:=by
 cases p with
 |none=>exact slicePart_none h
 |int i t=>exact slicePart_int h
theorem U_{sl:Addr}{vl vu:Value}{lo hi:Option Int}{n:Nat}{Q:Int×Int×Nat->Shared->Prop}(hs:s.heap.IsSliceOf sl vl vu .none)(pl:IsPart vl lo)(pu:IsPart vu hi)
  (h:Q (((bL n 0 lo:Nat):Int),1,bL n n hi-bL n 0 lo) s):wpAny (model prog w) A (Builtin.Slice.sliceApplied (.ref sl) (pure (n:Int))) Q E s:=by
 obtain⟨os,pU,yI,tQ⟩:=id hs;unfold Builtin.Slice.sliceApplied Builtin.Slice.sliceFields;refine aC (aC (jB pU tQ (x:=vl) rfl (aC (jB pU tQ (x:=vu) rfl (aC (jB pU tQ (x:=.none) rfl (aO ?_)))))));refine aC (slicePart_none ?_);show wpAny _ _ (if ((1:Int)==0)=true then _ else _) _ _ s;rw[if_neg (by decide)];refine aC (Nv pl (aC (Nv pu (aC (aO ?_)))));show wpAny _ _ (match Builtin.Slice.sliceAdjust lo hi 1 (n:Int) with|(lo,hi)=>pure (lo,(1:Int),Builtin.Slice.slicePlaces lo hi 1)) _ _ s;rw[ze9 lo hi n];show wpAny _ _ (pure (((bL n 0 lo:Nat):Int),(1:Int),Builtin.Slice.slicePlaces ((bL n 0 lo:Nat):Int) ((bL n n hi:Nat):Int) 1)) _ _ s;rw[zeM];exact aO h
theorem zgJ(xs:Array Value)(i k:Nat):((List.range k).filterMap λ(m:Nat)=>xs[((i:Int)+(m:Int)*1).toNat]?).toArray=((xs.toList.drop i).take k).toArray:=by
 have e:(λ(m:Nat)=>xs[((i:Int)+(m:Int)*1).toNat]?)=λm=>xs[i+m]?:=by
  funext m
  have:((i:Int)+(m:Int)*1).toNat=i+m:=by lia
  rw[this]
 rw[e];have:=pick_run xs i k;rw[List.filterMap_map] at this;have e2:((λx=>xs[x]?)∘λx=>i+x)=λm=>xs[i+m]?:=rfl;rw[e2] at this;rw[this]
theorem gK{t sl:Addr}{items:Array Value}{vl vu:Value}{lo hi:Option Int}{Q:Value->Shared->Prop}(ht:IsTup s.heap t items)(hs:s.heap.IsSliceOf sl vl vu .none)(pl:IsPart vl lo)(pu:IsPart vu hi)
  (hw:¬(bL items.size 0 lo=0/\bL items.size items.size hi=items.size))
  (h:Q (.ref s.heap.objs.size) {s with heap:=s.heap.push {cls:=.type "tuple",data:=.seq ((items.toList.drop (bL items.size 0 lo)).take (bL items.size items.size hi-bL items.size 0 lo)).toArray}})
  (hsz:items.size<=sizeLine):wpAny (model prog w) A (getItem (.ref t) (.ref sl)) Q E s:=by
 have gM:sizeOk (.seq ((items.toList.drop (bL items.size 0 lo)).take (bL items.size items.size hi-bL items.size 0 lo)).toArray):=by
  show ((items.toList.drop (bL items.size 0 lo)).take (bL items.size items.size hi-bL items.size 0 lo)).toArray.size<=sizeLine;rw[eG,ur,Cy,uq]
  lia
 have hj:bL items.size items.size hi<=items.size:=zlm _ _ (bI _) hi;obtain⟨os,pU,yI,tQ⟩:=id hs;have Em:s.TypeIs (.ref sl) "slice":=⟨os,pU,yI⟩;unfold getItem
 try with_reducible refine pO ?_
 first|refine aC (aO ?_)|skip
 refine aC (wpAny_sequenceKey ht.typeIs (by decide) ?_);refine aC (vQ (name:=Str.ofString "__getitem__") ht.typeIs uh
  (uw uh ht.typeIs entry_tuple_getitem ?_ (args_tuple_getitem _ _)))
 show wpAny _ _ (Builtin.Tuple.tupleItemsOf (.ref t) >>= _) _ _ s;refine aC (tupleItemsOf_ ht ?_);refine aC (CV Em ?_);rw[if_pos (by decide)];refine aC (U_ hs pl pu ?_);have tR:¬((((bL items.size 0 lo:Nat):Int)==0&&(1:Int)==1&&(bL items.size items.size hi-bL items.size 0 lo)==items.size)=true):=by
  intro q;rw[gA,gA] at q;have q1:((bL items.size 0 lo:Nat):Int)=0:=eq_of_beq q.1.1;have q2:bL items.size items.size hi-bL items.size 0 lo=items.size:=eq_of_beq q.2;exact hw ⟨by lia,by lia⟩
 show wpAny _ _ (if (((bL items.size 0 lo:Nat):Int)==0&&(1:Int)==1&&(bL items.size items.size hi-bL items.size 0 lo)==items.size)=true then _ else _) _ _ s;rw[if_neg tR,zgJ]
 first
  |exact aC (m:=Builtin.Tuple.tupleExact _) (oG (aO ⟨_,rfl,aO h⟩) gM)
  |exact aC (m:=Builtin.Tuple.tupleExact _) (oG (aC (aO (aO ⟨_,rfl,aO h⟩))) gM)
  |exact aC (aC (m:=Builtin.Tuple.tupleExact _) (oG (aO (aO ⟨_,rfl,aO h⟩)) gM))
  |exact aC (aC (m:=Builtin.Tuple.tupleExact _) (oG (aO ⟨_,rfl,aO h⟩) gM))
end
end HT
namespace L2
open PySem PySem.Spec PyProof.Rows
noncomputable abbrev TO:=St->Hp->(Option Int->Hp->Prop)->Prop
def PO(X:Cx)(e:Option Expr)(t:TO):Prop:=
 ∀(ao:List (Addr×Obj)) (s:Shared) (Z:St) (H:Hp) (Q:Option Int->Hp->Prop),Inv X ao Z H s->t Z H Q->
  wpAny (model X.prog X.w) X.A (evalPart e X.env) (λu s'=>∃o H',Inv X ao Z H' s'/\IsPart u o/\Q o H') X.xe s
noncomputable def uN:TO:=λ_ H Q=>Q none H
noncomputable def En(t:TE):TO:=λZ H Q=>t Z H λx H1=>∃i,x=.int i/\Q (some i) H1
theorem Va{ns:List Int}:∀{us:List Value},Vals (ns.map V.int) us->IntsAre us ns:=by
 induction ns with
 |nil=>intro us r;rw[List.map_nil] at r;cases r;exact .nil
 |cons n ns ih=>
  intro us r;rw[iU] at r;cases r with
  |cons r1 r2=>
   obtain⟨t,e⟩:=r1;subst e;exact .cons n t (ih r2)
section
variable {X:Cx}{e:Expr}{te:TE}{lo hi:Option Expr}{tl th:TO}{pos p2:Pos}
theorem ziq:PO X none uN:=by
 intro ao s Z H Q I h;rw[evalPart_none];exact aO ⟨none,H,I,.none,h⟩
theorem ziU(h:PE X e te):PO X (some e) (En te):=by
 intro ao s Z H Q I hw;rw[evalPart_some];refine aZ (h ao s Z H _ I hw) λu s1 hx=>dY hx λx H1 I1 r1 q1=>?_;obtain⟨i,rfl,q⟩:=q1;obtain⟨t,rfl⟩:=r1;exact⟨some i,H1,I1,.int i t,q⟩
def uO(X:Cx)(r:V->Option Int->Option Int->Hp->VK->Prop):Prop:=
 ∀(ao:List (Addr×Obj)) (s:Shared) (Z:St) (H:Hp) (x:V) (v vl vu:Value) (lo hi:Option Int) (sl:Addr) (Q:VK),Inv X ao Z H s->RelV x v->s.heap.IsSliceOf sl vl vu .none->IsPart vl lo->IsPart vu hi->r x lo hi H Q->
  ∃T id,typeLookup (.type T) "__getitem__"=pure (some (.builtin id))/\s.TypeIs v T/\wpAny (model X.prog X.w) X.A (getItem v (.ref sl)) (EP X ao Z Q) X.xe s
theorem uO.or{r r':V->Option Int->Option Int->Hp->VK->Prop}(h:uO X r)(h':uO X r'):uO X (λx lo hi H Q=>r x lo hi H Q\/r' x lo hi H Q):=by
 intro ao s Z H x v vl vu lo hi sl Q I rx hs pl pu q;rcases q with q|q
 ·exact h ao s Z H x v vl vu lo hi sl Q I rx hs pl pu q
 ·exact h' ao s Z H x v vl vu lo hi sl Q I rx hs pl pu q
noncomputable def tSl(r:V->Option Int->Option Int->Hp->VK->Prop)(te:TE)(tl th:TO):TE:=λZ H Q=>te Z H λx H1=>tl Z H1 λl H2=>th Z H2 λu H3=>r x l u H3 Q
theorem zgR{r:V->Option Int->Option Int->Hp->VK->Prop}(hr:uO X r)(he:PE X e te)(hl:PO X lo tl)(hu:PO X hi th):PE X (.Subscript e (.Slice lo hi none p2) pos) (tSl r te tl th):=by
 intro ao s Z H Q I h;refine Subscript_ (aZ (he ao s Z H _ I h) λv s1 hx=>dY hx λx H1 I1 r1 q1=>?_);refine wpAny_Slice (aZ (hl ao s1 Z H1 _ I1 q1) λvl s2 hx=>dY hx λl H2 I2 pl q2=>aZ (hu ao s2 Z H2 _ I2 q2) λvu s3 hx=>dY hx λu H3 I3 pu q3=>?_);rw[evalPart_none];refine aO ?_;have I4:Inv X ao Z H3 {s3 with heap:=s3.heap.push {cls:=.type "slice",data:=.fields #[vl,vu,.none]}}:=I3.kept (t':=s3.toks) λb ob q=>cG _ q;obtain⟨T,id,hT,ht,hg⟩:=hr ao {s3 with heap:=s3.heap.push {cls:=.type "slice",data:=.fields #[vl,vu,.none]}} Z H3 x v vl vu l u s3.heap.objs.size Q I4 r1 (Heap.IsSliceOf.new ..) pl pu q3;show wpAny (model X.prog X.w) X.A (subscriptTail e (.Slice lo hi none p2) v (.ref s3.heap.objs.size)) (EP X ao Z Q) X.xe {s3 with heap:=s3.heap.push {cls:=.type "slice",data:=.fields #[vl,vu,.none]}};exact tail_any (ops:=[.ref s3.heap.objs.size,v]) ht hT hg (by with_unfolding_all rfl)
noncomputable def lg(xs:List V)(lo hi:Option Int):List V:=(xs.drop (HT.bL xs.length 0 lo)).take (HT.bL xs.length xs.length hi-HT.bL xs.length 0 lo)
theorem Vb(xs:List V)(lo hi:Option Int):(lg xs lo hi).length<=xs.length:=by
 unfold lg;rw[ur,Cy]
 lia
noncomputable def Ny(K:W.Frag):V->Option Int->Option Int->Hp->VK->Prop:=λx lo hi H Q=>∃a xs,x=.ref a/\fu K H a xs /\
 ¬(HT.bL xs.length 0 lo=0/\HT.bL xs.length xs.length hi=xs.length)/\∀p,H p=none->Q (.ref p) (upd H p (.tup (lg xs lo hi)))
theorem zma:uO X (Ny X.K):=by
 intro ao s Z H x v vl vu lo hi sl Q I rx hs pl pu h;obtain⟨a,xs,rfl,hx,hw,q⟩:=h;cases rx;obtain⟨its,r,ht,hz⟩:=I.tuple hx;have hlen:its.toArray.size=xs.length:=by rw[eG];exact r.length.symm
 refine⟨"tuple",_,uh.lookup,ht.typeIs,?_⟩;refine HT.gK ht hs pl pu (by rw[hlen];exact hw) ?_ (by rw[hlen];exact hz);rw[hlen];refine⟨.ref s.heap.objs.size,_,I.laid (t':=s.toks) (o:=.tup (lg xs lo hi)) (λb ob q=>cG _ q) (bI _) ?_,rfl,q _ (I.hok.fresh (bI _))⟩;exact⟨jO (Vb xs lo hi) hz,_,(r.drop (HT.bL xs.length 0 lo)).take (HT.bL xs.length xs.length hi-HT.bL xs.length 0 lo),IsTup.new _ _⟩
noncomputable def Ep(K:W.Frag):R2:=λx y H Q=>∃a b ns ms,x=.ref a/\y=.ref b/\fu K H a (ns.map V.int)/\fu K H b (ms.map V.int)/\Q (.bl (HT.lexLt ns ms)) H
theorem zkt(hu:X.A.units<cLine):dZ X (compareOp .Lt) (Ep X.K):=by
 intro ao s Z H x y v u Q I rx ry h;obtain⟨a,b,ns,ms,rfl,rfl,ha,hb,q⟩:=h;cases rx;cases ry;obtain⟨its,r1,p1,_⟩:=I.tuple ha;obtain⟨its2,r2,p2,_⟩:=I.tuple hb;have i1:IntsAre its.toArray.toList ns:=Va r1;have i2:IntsAre its2.toArray.toList ms:=Va r2;exact HT.ju p1 p2 i1 i2 hu ⟨.bl (HT.lexLt ns ms),H,I,rfl,q⟩
theorem Vals.lq{xs:List V}{us:List Value}(r:Vals xs us):us=[]↔xs=[]:=by
 cases r with
 |nil=>simp
 |cons _ _=>simp
end
noncomputable def pW(n:Nat)(i:Int):Option Nat:=if 0<=i then (if i<n then some i.toNat else none) else if -(n:Int)<=i then some (i+n).toNat else none
noncomputable def oU{α:Type}(xs:List α)(i:Int):Option α:=(pW xs.length i).bind λj=>xs[j]?
theorem Vc{n:Nat}{i:Int}{j:Nat}(h:pW n i=some j):seqIndex? i n=some j/\j<n/\-(n:Int)<=i/\i<n:=by
 unfold pW at h;by_cases h0:0<=i
 ·rw[if_pos h0] at h;by_cases h1:i<n
  ·rw[if_pos h1] at h;have e:i.toNat=j:=cD h;exact⟨by rw[seqIndex_of h0 h1,e],by lia,by lia,h1⟩
  ·rw[if_neg h1] at h;cases h
 ·rw[if_neg h0] at h;by_cases h1 : -(n:Int)<=i
  ·rw[if_pos h1] at h;have e:(i+n).toNat=j:=cD h;exact⟨by rw[seqIndex_neg (by lia) h1,e],by lia,h1,by lia⟩
  ·rw[if_neg h1] at h;cases h
theorem Nz{α:Type}{xs:List α}{i:Int}{v:α}(h:oU xs i=some v):∃j,seqIndex? i xs.length=some j/\xs[j]?=some v/\j<xs.length/\-(xs.length:Int)<=i/\i<xs.length:=by
 unfold oU at h;cases e:pW xs.length i with
 |none=>rw[e] at h;cases h
 |some j=>
  rw[e] at h;obtain⟨h1,h2,h3,h4⟩:=Vc e;exact⟨j,h1,h,h2,h3,h4⟩
def oV(b:Expr):Prop:=∀o i,subscripted b false o i=operate [o,i] (getItem o i)
def uP(X:Cx)(r:R2):Prop:=
 ∀(value slice:Expr) (ao:List (Addr×Obj)) (s:Shared) (Z:St) (H:Hp) (x y:V) (v u:Value) (Q:VK),Inv X ao Z H s->RelV x v->RelV y u->r x y H Q->
  subscripted slice false v u=operate [v,u] (getItem v u)->wpAny (model X.prog X.w) X.A (subscriptTail value slice v u) (EP X ao Z Q) X.xe s
def MtR(X:Cx)(id:String)(r:V->List V->Hp->VK->Prop):Prop:=
 ∀(ao:List (Addr×Obj)) (s:Shared) (Z:St) (H:Hp) (x:V) (xs:List V) (v:Value) (us:List Value) (Q:VK),Inv X ao Z H s->RelV x v->Vals xs us->r x xs H Q->
  wpAny (model X.prog X.w) X.A (call (.builtin id) (v::us)) (EP X ao Z Q) X.xe s
section
variable {X:Cx}{a b:Expr}{ta tb:TE}{pos:Pos}
theorem uP.or{r r':R2}(h:uP X r)(h':uP X r'):uP X (λx y H Q=>r x y H Q\/r' x y H Q):=by
 intro value slice ao s Z H x y v u Q I rx ry q hs;rcases q with q|q
 ·exact h value slice ao s Z H x y v u Q I rx ry q hs
 ·exact h' value slice ao s Z H x y v u Q I rx ry q hs
theorem zmn{r:R2}(hr:uP X r)(ha:PE X a ta)(hb:PE X b tb)(hs:oV b):PE X (.Subscript a b pos) (Jm r ta tb):=by
 intro ao s Z H Q I h;exact Subscript_ (yC ha hb I h λv u s2 x y H2 I2 rx ry q=>hr a b ao s2 Z H2 x y v u Q I2 rx ry q (hs _ _))
noncomputable def Er(K:W.Frag):R2:=λx y H Q=>∃p xs i v,x=.ref p/\y=.int i/\cM K H p xs/\oU xs i=some v/\Q v H
noncomputable def Et(K:W.Frag):R2:=λx y H Q=>∃p xs i v,x=.ref p/\y=.int i/\fu K H p xs/\oU xs i=some v/\Q v H
noncomputable def Eu:R2:=λx y H Q=>∃z i c,x=.str z/\y=.int i/\z.length<=sizeLine/\oU z.cps.toList i=some c/\Q (.str ⟨#[c]⟩) H
theorem uQ:uP X (Er X.K):=by
 intro value slice ao s Z H x y v u Q I rx ry h hs;obtain⟨p,xs,i,z,rfl,rfl,hq,he,q⟩:=h;cases rx;obtain⟨t,rfl⟩:=ry;obtain⟨its,r,pl,hz⟩:=I.list hq;obtain⟨j,h1,h2,h3,h4,h5⟩:=Nz he;obtain⟨w,ew,lu⟩:=r.get h2;have hl:=r.length;have hn:=iu;have fin:EP X ao Z Q w s:=⟨z,H,I,lu,q⟩;by_cases h0:0<=i
 ·have hj:i.toNat=j:=by
   rw[seqIndex_of h0 h5] at h1;exact cD h1
  exact item_listR pl.isList h0 (by lia) (by rw[hj];simpa using ew) fin hs
 ·have hj:(i+(its.toArray.size:Int)).toNat=j:=by
   rw[seqIndex_neg (by lia) h4] at h1;rw[eG,<-hl];exact cD h1
  exact subscriptTail_builtinR (x:=w) pl.isList.typeIs slot_list_getitem.lookup
   (wpAny_getItem_list_neg (Q:=λr s'=>r=w/\EP X ao Z Q r s') pl.isList (by lia) (by rw[eG]<;>lia) (by lia) (by rw[hj];simpa using ew) ⟨rfl,fin⟩) hs
theorem yJ:uP X (Et X.K):=by
 intro value slice ao s Z H x y v u Q I rx ry h hs;obtain⟨p,xs,i,z,rfl,rfl,hq,he,q⟩:=h;cases rx;obtain⟨t,rfl⟩:=ry;obtain⟨its,r,pl,hz⟩:=I.tuple hq;obtain⟨j,h1,h2,h3,h4,h5⟩:=Nz he;obtain⟨w,ew,lu⟩:=r.get h2;have hl:=r.length;have hn:=iu;have fin:EP X ao Z Q w s:=⟨z,H,I,lu,q⟩;exact subscriptTail_builtinR (x:=w) pl.typeIs slot_tuple_getitem.lookup
  (getItem_tuple (j:=j) (Q:=λr s'=>r=w/\EP X ao Z Q r s') pl (by lia) (by lia) (by rw[eG,<-hl];exact h1) (by simpa using ew) ⟨rfl,fin⟩) hs
theorem zlM:uP X Eu:=by
 intro value slice ao s Z H x y v u Q I rx ry h hs;obtain⟨z,i,c,rfl,rfl,hz,he,q⟩:=h;obtain⟨t,rfl⟩:=rx;obtain⟨t',rfl⟩:=ry;obtain⟨j,h1,h2,h3,h4,h5⟩:=Nz he;have hl:z.cps.toList.length=z.length:=by simp[Str.length]
 rw[hl] at h1 h4 h5;have hn:=iu;exact tail_any (typeIs_str s z t) slot_str_getitem.lookup (getItem_str (c:=c) (by
  have e1:decide (i < -(2^63:Int))=false:=jF (by lia);have e2:decide (i>=2^63)=false:=jF (by lia);rw[e1,e2,Bool.or_false]) (by rw[h1];simpa using h2) ⟨.str ⟨#[c]⟩,H,I.tok _,⟨_,rfl⟩,q⟩) hs
noncomputable def NK(K:W.Frag):R2:=λx y H Q=>Er K x y H Q\/Et K x y H Q\/Eu x y H Q
theorem zkG:uP X (NK X.K):=uQ.or (yJ.or zlM)
theorem zeK(its:List Value)(n j:Nat)(u:Value):Obj.mapSeq (·.setIfInBounds j u) {cls:=.type "list",data:=.seq its.toArray n}={cls:=.type "list",data:=.seq (its.set j u).toArray n}:=by
 simp[Obj.mapSeq]
theorem Inv.lst{ao:List (Addr×Obj)}{Z:St}{H:Hp}{s:Shared}{p:Addr}{xs:List V}(I:Inv X ao Z H s)(h:H p=some (.lst xs)) :
  ∃(its:List Value) (n:Nat),Vals xs its/\s.heap.get? p=some {cls:=.type "list",data:=.seq its.toArray n}/\xs.length<=sizeLine:=by
 obtain⟨z,its,n,r,e⟩:=I.hok p _ h;exact⟨its,n,r,e,z⟩
theorem Inv.yK{ao:List (Addr×Obj)}{Z:St}{H:Hp}{s:Shared}{p:Addr}{xs ys:List V}{its its':List Value}{n n':Nat}{f:Obj->Obj}(I:Inv X ao Z H s)(h:H p=some (.lst xs))
  (ho:s.heap.get? p=some {cls:=.type "list",data:=.seq its.toArray n}) (hf:f {cls:=.type "list",data:=.seq its.toArray n}={cls:=.type "list",data:=.seq its'.toArray n'}) (r:Vals ys its') (hz:ys.length<=sizeLine) (t:Nat) :
  Inv X ao Z (upd H p (.lst ys)) {s with heap:=s.heap.update p f,toks:=t}:=by
 have e:(s.heap.update p f).get? p=some {cls:=.type "list",data:=.seq its'.toArray n'}:=by
  rw[xP f ho (by rw[hf]<;>rfl),hf]
 refine I.write (x:=p) (e:=p) (by rw[h];trivial) (.inl rfl) (λb u hb q=>(uo _ _ (Ne.symm hb)).trans q) ⟨_,e⟩ ?_;exact⟨hz,its',n',r,e⟩
noncomputable def Ew:V->V->V->Hp->(Hp->Prop)->Prop:=λo i v H Q=>∃p xs k j,o=.ref p/\i=.int k/\H p=some (.lst xs)/\pW xs.length k=some j/\Q (upd H p (.lst (xs.set j v)))
theorem zg7:Dz X Ew:=by
 intro ao s Z H o i v ov iv u Q I ro ri rv h;obtain⟨p,xs,k,j,rfl,rfl,hp,hj,q⟩:=h;cases ro;obtain⟨t,rfl⟩:=ri;obtain⟨its,n,r,ho,hz⟩:=I.lst hp;obtain⟨h1,h2,h3,h4⟩:=Vc hj;have hl:=r.length;have hn:=iu;have I':Inv X ao Z (upd H p (.lst (xs.set j v))) {s with heap:=s.heap.update p (Obj.mapSeq (·.setIfInBounds j u))}:=
  I.yK hp ho (zeK its n j u) (r.set rv j) (by rw[nF];exact hz) s.toks
 by_cases h0:0<=k
 ·have hk:k.toNat=j:=by
   rw[seqIndex_of h0 h4] at h1;exact cD h1
  exact PySem.W.ki_setAt ho h0 (by lia) (by rw[eG,<-hl];exact h4) (by rw[hk];exact⟨_,I',q⟩)
 ·have hk:(k+(its.toArray.size:Int)).toNat=j:=by
   rw[seqIndex_neg (by lia) h3] at h1;rw[eG,<-hl];exact cD h1
  exact PySem.W.ki_setBack ho (by lia) (by rw[eG,<-hl];exact h3) (by lia) (by rw[hk];exact⟨_,I',q⟩)
theorem zcZ(lo hi:Option Int)(n:Nat):(sliceBounds lo hi none n).1=((HT.bL n 0 lo:Nat):Int)/\(sliceBounds lo hi none n).2.1=((HT.bL n n hi:Nat):Int)/\(sliceBounds lo hi none n).2.2=1:=by
 refine⟨?_,?_,rfl⟩
 ·cases lo with
  |none=>simp[sliceBounds,HT.bL]
  |some i=>
   simp only[sliceBounds,HT.bL,Option.getD_none,show (1:Int)>0 by decide,if_true];by_cases h:i<0
   ·simp only[h,if_true]<;>lia
   ·simp only[h,qz]<;>lia
 ·cases hi with
  |none=>simp[sliceBounds,HT.bL]
  |some i=>
   simp only[sliceBounds,HT.bL,Option.getD_none,show (1:Int)>0 by decide,if_true];by_cases h:i<0
   ·simp only[h,if_true]<;>lia
   ·simp only[h,qz]<;>lia
theorem zcA(its:List Value)(lo hi:Option Int):slicePick its.toArray lo hi none=((its.drop (HT.bL its.length 0 lo)).take (HT.bL its.length its.length hi-HT.bL its.length 0 lo)).toArray:=by
 obtain⟨h1,h2,h3⟩:=zcZ lo hi its.toArray.size;unfold slicePick;rw[h1,h2,h3];simp only[sliceRange_one,pick_run,eG]<;>rfl
noncomputable def Ey(K:W.Frag):V->Option Int->Option Int->Hp->VK->Prop:=λx lo hi H Q=>∃a xs,x=.ref a/\cM K H a xs/\∀p,H p=none->Q (.ref p) (upd H p (.lst (lg xs lo hi)))
theorem uR:uO X (Ey X.K):=by
 intro ao s Z H x v vl vu lo hi sl Q I rx hs pl pu h;obtain⟨a,xs,rfl,hx,q⟩:=h;cases rx;obtain⟨its,r,ht,hz⟩:=I.list hx;have hlen:=r.length;refine⟨"list",_,slot_list_getitem.lookup,ht.isList.typeIs,?_⟩;refine wpAny_getItem_list_slice ht.isList hs pl pu .none (by simp) ?_ (by rw[eG]<;>lia);rw[zcA,<-hlen];refine⟨.ref s.heap.objs.size,_,I.laid (t':=s.toks) (o:=.lst (lg xs lo hi)) (λb ob q=>cG _ q) (bI _) ?_,rfl,q _ (I.hok.fresh (bI _))⟩;exact⟨jO (Vb xs lo hi) hz,_,0,(r.drop (HT.bL xs.length 0 lo)).take (HT.bL xs.length xs.length hi-HT.bL xs.length 0 lo),fj _ rfl⟩
theorem zc6:cJ X (.builtin "len") (λxs H Q=>∃p ys,xs=[.ref p]/\(cM X.K H p ys\/fu X.K H p ys)/\Q (.int ys.length) H):=by
 intro ao s Z H xs us Q I r h;obtain⟨p,ys,rfl,hq,q⟩:=h;obtain⟨u,rfl,rx⟩:=vals1 r;cases rx;have hn:=iu;rcases hq with hq|hq
 ·obtain⟨its,r',pl,hz⟩:=I.list hq;have hlen:=r'.length;exact Calls.call_len_list pl.isList (by simp only[eG]<;>lia) ⟨.int ys.length,H,I.tok _,⟨s.toks+1,by rw[eG,hlen]⟩,q⟩
 ·obtain⟨its,r',pl,hz⟩:=I.tuple hq;have hlen:=r'.length;exact len_tuple pl (by simp only[eG]<;>lia) ⟨.int ys.length,H,I.tok _,⟨s.toks+1,by rw[eG,hlen]⟩,q⟩
theorem zdb:cJ X (.type "list") (λxs H Q=>∃p ys,xs=[.ref p]/\(cM X.K H p ys\/fu X.K H p ys)/\∀l,H l=none->Q (.ref l) (upd H l (.lst ys))):=by
 intro ao s Z H xs us Q I r h;obtain⟨p,ys,rfl,hq,q⟩:=h;obtain⟨u,rfl,rx⟩:=vals1 r;cases rx;have fin:∀(its:List Value),Vals ys its->ys.length<=sizeLine->∀(h':Heap) (c':Nat),(∀b o',s.heap.get? b=some o'->h'.get? b=some o')->
   h'.get? s.heap.objs.size=some {cls:=.type "list",dict:=none,data:=.seq its.toArray c',slots:=#[]}->EP X ao Z Q (.ref s.heap.objs.size) {s with heap:=h'}:=λits r' hz h' c' kp e=>
  ⟨.ref s.heap.objs.size,_,I.laid (t':=s.toks) kp (bI _) (show bG X.prog X.w _ h' _ (.lst ys) from ⟨hz,its,c',r',e⟩),rfl,q _ (I.hok.fresh (bI _))⟩
 rcases hq with hq|hq
 ·obtain⟨its,r',pl,hz⟩:=I.list hq;have hlen:=r'.length;obtain⟨o,ho,hc,n,hd⟩:=pl.isList;exact call_list_seq p (.inl rfl) ho hc hd (λh' c' kp e=>fin its r' hz h' c' kp e) (by simp only[eG]<;>lia)
 ·obtain⟨its,r',pl,hz⟩:=I.tuple hq;have hlen:=r'.length;obtain⟨o,ho,hc,n,hd⟩:=pl;exact call_list_seq p (.inr rfl) ho hc hd (λh' c' kp e=>fin its r' hz h' c' kp e) (by simp only[eG]<;>lia)
theorem zcg:cJ X (.type "tuple") (λxs H Q=>∃p ys,xs=[.ref p]/\((cM X.K H p ys/\∀l,H l=none->Q (.ref l) (upd H l (.tup ys)))\/(fu X.K H p ys/\Q (.ref p) H))):=by
 intro ao s Z H xs us Q I r h;obtain⟨p,ys,rfl,h⟩:=h;obtain⟨u,rfl,rx⟩:=vals1 r;cases rx;rcases h with ⟨hq,q⟩|⟨hq,q⟩
 ·obtain⟨its,r',pl,hz⟩:=I.list hq;have hlen:=r'.length;refine call_tuple_list pl.isList (λh' kp=>?_) (by simp only[eG]<;>lia);have I1:Inv X ao Z H {s with heap:=h'}:=I.kept (t':=s.toks) kp;have I2:Inv X ao Z (upd H h'.objs.size (.tup ys)) {s with heap:=h'.push {cls:=.type "tuple",data:=.seq its.toArray}}:=
   I1.laid (t':=s.toks) (λb o e=>cG _ e) (bI _) (show bG X.prog X.w _ _ _ (.tup ys) from ⟨hz,its,r',IsTup.new _ _⟩)
  exact⟨.ref h'.objs.size,_,I2,rfl,q _ (I1.hok.fresh (bI _))⟩
 ·obtain⟨its,r',pl,hz⟩:=I.tuple hq;exact call_tuple_same pl ⟨.ref p,H,I,rfl,q⟩
def Vd(K:W.Frag)(T:String)(x:V)(H:Hp):Prop:=match x with
 |.str _=>T="str"
 |.int _=>T="int"
 |.ref p=>(T="list"/\∃xs,cM K H p xs)\/(T="tuple"/\∃o,K.lookup p=some o/\o.cls=.type "tuple"/\o.dict=none) \/
   (T="dict"/\((∃kvs,H p=some (.dK kvs))\/∃kvs,H p=some (.dT kvs)))\/(T="set"/\∃S n,H p=some (.set S n))
 |_=>False
theorem zlu{ao:List (Addr×Obj)}{Z:St}{H:Hp}{s:Shared}{T:String}{x:V}{v:Value}(I:Inv X ao Z H s)(r:RelV x v)(ty:Vd X.K T x H) :
  s.TypeIs v T/\∀a,v=.ref a->∃ob,s.heap.get? a=some ob/\ob.dict=none:=by
 cases x with
 |str z=>
  obtain⟨t,rfl⟩:=r;cases (show T="str" from ty);exact⟨typeIs_str s z t,λ_ e=>nomatch e⟩
 |int i=>
  obtain⟨t,rfl⟩:=r;cases (show T="int" from ty);exact⟨typeIs_int s i t,λ_ e=>nomatch e⟩
 |ref p=>
  cases r;rcases ty with ⟨rfl,xs,hq⟩|⟨rfl,o,hk,hc,hd⟩|⟨rfl,hk⟩|⟨rfl,S,n,hk⟩
  ·obtain⟨its,_,pl,_⟩:=I.list hq;refine⟨pl.isList.typeIs,λa e=>?_⟩;cases e;obtain⟨o,n,e,c,hd,_⟩:=pl;exact⟨o,e,hd⟩
  ·refine⟨⟨o,I.lZ p o hk,hc⟩,λa e=>?_⟩;cases e;exact⟨o,I.lZ _ o hk,hd⟩
  ·have z:∃o,s.heap.get? p=some o/\o.ExactDict:=by
    rcases hk with ⟨kvs,hk⟩|⟨kvs,hk⟩
    ·obtain⟨_,_,_,_,o,_,_,e,ex,_⟩:=I.hok p _ hk;exact⟨o,e,ex⟩
    ·obtain⟨_,_,_,_,o,_,_,e,ex,_⟩:=I.hok p _ hk;exact⟨o,e,ex⟩
   obtain⟨o,e,ex⟩:=z;refine⟨⟨o,e,ex.1⟩,λa e2=>?_⟩;cases e2;exact⟨o,e,ex.2.1⟩
  ·obtain⟨o,_,_,_,e,ex,_⟩:=I.hok p _ hk;refine⟨⟨o,e,ex.1⟩,λa e2=>?_⟩;cases e2;exact⟨o,e,ex.2.1⟩
 |_=>exact False.elim ty
noncomputable def tBM(K:W.Frag)(T:String)(r:V->List V->Hp->VK->Prop)(to:TE)(t:TA):TE:=λZ H Q=>to Z H λx H1=>Vd K T x H1/\t Z H1 λxs H2=>r x xs H2 Q
variable {o e:Expr}{es:List Expr}{to:TE}{t:TA}{name:Str}{apos cpos:Pos}{T id:String}{r:V->List V->Hp->VK->Prop}
theorem zm9(pa:PlainAttrs T)(slot:Slot T name id)(hty:typeOf (.builtin id)=pure (.type "method_descriptor"))(hm:MtR X id r)(ho:PE X o to)(ha:PA X (e::es) t)
  (mF:attributeBase o name X.env (eval o X.env)=eval o X.env:=by rfl)
  (yL:((backTo cpos (starEach (e::es) X.env)).all (λx=>!x.1)&&(backToKw cpos (keywordEach [] X.env)).all (λx=>x.1.isSome)
  &&decide ((e::es).length+([]:List Keyword).length+(if ([]:List Keyword).isEmpty then 0 else 1)<30))=true:=by rfl)
  (mH:(apos.endLine==cpos.line)=true:=by rfl) (hs:starEach (e::es) X.env=(false,eval e X.env)::starEach es X.env:=by rfl) (nO:(backTo cpos (starEach es X.env)).any (·.1)=false:=by rfl) :
  PE X (.Call (.Attribute o name apos) (e::es) [] cpos) (tBM X.K T r to t):=by
 intro ao s Z H Q I h;refine wpAny_Call_method_late mF yL mH rfl (aZ (ho ao s Z H _ I h) λv s1 ⟨x,H1,I1,r1,ty,q1⟩=>?_);obtain⟨h1,h2⟩:=zlu I1 r1 ty;refine⟨T,id,pa,slot,hty,h1,h2,?_⟩;have hA:=ha cpos ao s1 Z H1 _ I1 q1;rw[hs] at hA ⊢;refine Calls.callWith_builtin (by show (false||(backTo cpos (starEach es X.env)).any (·.1))=false;rw[nO]<;>rfl) (Calls.evalArgs_plain ?_);exact aZ hA λus s2 hx=>dY hx λvs H2 I2 r2 q2=>hm ao s2 Z H2 x vs v us Q I2 r1 r2 q2
end
def MtM(X:Cx)(id:String)(r:V->List V->Hp->VK->Prop):Prop:=
 ∀(ao:List (Addr×Obj)) (s:Shared) (Z:St) (H:Hp) (x:V) (xs:List V) (v:Value) (us:List Value) (Q:VK),Inv X ao Z H s->RelV x v->Vals xs us->r x xs H Q->
  wpAny (model X.prog X.w) X.A (call (.builtin id) (v::us)) (EP X ao Z Q) X.xe s
theorem Vals.one{x:V}{us:List Value}(h:Vals [x] us):∃u,us=[u]/\RelV x u:=by
 cases h with
 |cons r t=>cases t;exact⟨_,rfl,r⟩
theorem Vals.two{x y:V}{us:List Value}(h:Vals [x,y] us):∃u v,us=[u,v]/\RelV x u/\RelV y v:=by
 cases h with
 |cons r t=>
  obtain⟨v,rfl,q⟩:=Vals.one t;exact⟨_,_,rfl,r,q⟩
section
variable {X:Cx}{ao:List (Addr×Obj)}{Z:St}{H:Hp}{s:Shared}{l b:Addr}{xs ys zs:List V}
theorem Inv.NP{its its':List Value}{n:Nat}{f:Array Value->Array Value}{t':Nat}(I:Inv X ao Z H s)(hH:H l=some (.lst xs))
  (e:s.heap.get? l=some {cls:=.type "list",data:=.seq its.toArray n}) (hf:f its.toArray=its'.toArray) (hv:Vals ys its') (hz:ys.length<=sizeLine) :
  Inv X ao Z (upd H l (.lst ys)) {s with heap:=s.heap.update l (Obj.mapSeq f),toks:=t'}:=by
 have q:=PySem.IsL.update e f;rw[hf] at q;refine I.write (x:=l) (e:=l) (by rw[hH];exact trivial) (.inl rfl) (λb' u hb hu=>(uo s.heap (Obj.mapSeq f) (Ne.symm hb)).trans hu) ⟨_,q⟩ ?_;exact⟨hz,its',_,hv,q⟩
theorem Inv.NQ{its:List Value}{t':Nat}(I:Inv X ao Z H s)(hv:Vals ys its)(hz:ys.length<=sizeLine) :
  Inv X ao Z (upd H s.heap.objs.size (.lst ys)) {s with heap:=s.heap.push {cls:=.type "list",data:=.seq its.toArray},toks:=t'}:=
 I.laid (λ_ _ q=>cG _ q) (bI _) ⟨hz,its,0,hv,fj _ rfl⟩
theorem Inv.fresh(I:Inv X ao Z H s):H s.heap.objs.size=none:=I.hok.fresh (bI _)
theorem Inv.NT(I:Inv X ao Z H s)(hH:H l=some (.lst xs)):xs.length<=sizeLine/\∃(its:List Value) (n:Nat),Vals xs its/\xs.length=its.length/\s.heap.get? l=some {cls:=.type "list",data:=.seq its.toArray n}:=by
 obtain⟨z,its,n,r,e⟩:=I.hok l _ hH;exact⟨z,its,n,r,r.length,e⟩
end
section
variable {X:Cx}
noncomputable def uU:V->List V->Hp->VK->Prop:=λx vs H Q=>∃l xs y,x=.ref l/\vs=[y]/\H l=some (.lst xs)/\xs.length<sizeLine/\Q .non (upd H l (.lst (xs++[y])))
theorem Ve:MtM X "list.append" uU:=by
 intro ao s Z H x vs v us Q I rx rv h;obtain⟨l,xs,y,rfl,rfl,hH,hz,q⟩:=h;cases rx;obtain⟨u,rfl,ru⟩:=rv.one;obtain⟨z,its,n,r,hl,e⟩:=I.NT hH;refine call_meets F.slot_list_append ⟨_,e,rfl⟩ F.entry_list_append (F.args_list_append_2 _ _) (PySem.list_append l its.toArray n u (by rw[eG];lia)) ⟨e,?_⟩;refine⟨.non,_,I.NP (its':=its++[u]) hH e (by simp) (r.append (.cons ru .nil)) ?_,rfl,q⟩;rw[lV,List.length_singleton]
 lia
end
section
variable {prog:Program}{w:World}{A:Around}{E:Value->Shared->Prop}{s:Shared}
set_option maxRecDepth 100000 in
end
section
variable {X:Cx}
end
end L2
namespace Vf
open PySem PySem.W PySem.Calls PyProof.Rows
theorem zbz{P:Params}{h:Heap}:∀(ns:List Int) (vs:List Value),WellAll P h vs (ns.map WData.int)->IntsAre vs ns:=by
 intro ns
 induction ns with
 |nil=>
  intro vs w;rw[List.map_nil] at w;cases w;exact .nil
 |cons n ns ih=>
  intro vs w;rw[iU] at w;cases w with
  |cons a b=>
   cases a;exact .cons _ _ (ih _ b)
theorem zff{l:OpenLaw}{n:Nat}(hn:l.most=some n){P:Params}{h:Heap}{args:List WData}{vals:List Value}
  (hpre:l.row.toRowW.claim.pre args=true) (NZ:WellAll P h vals args) :
  ∃a vs ns,vals=[Value.ref a]/\args=[WData.list (ns.map WData.int)]/\h.get? a=some {cls:=.type "list",data:=.seq vs.toArray}/\IntsAre vs ns/\ns.length<=n:=by
 have hsh:WShape.hasAll [] args [.list .int]=true:=(pre_splitW hpre).1;have hc:l.pre.holds [] {args:=args}=true:=(pre_splitW hpre).2;obtain⟨d,r,rfl,h1,h2⟩:=hasAllW_cons hsh;obtain rfl:=hasAllW_nil h2;obtain⟨xs,rfl,h3⟩:=hasW_list h1;obtain⟨ns,rfl⟩:=items_int h3;have hlen:ns.length<=n:=by
  unfold OpenLaw.pre at hc;have h4:(WTm.not (.lt (.lit (.int (n:Int))) (.len (.arg 0)))).holds [] {args:=[.list (ns.map .int)]}=true:=by
   have h4:=(holds_andW hc).1;rw[hn] at h4;exact h4
  have h5:=condW_of h4 (w_not (w_lt w_lit (w_len_list (w_arg rfl))));rw[bV] at h5;refine Ir λq=>?_;have q':(n:Int)<((ns.length:Nat):Int):=by lia
  first
   |(rw[gF q'] at h5;exact absurd h5 (by decide))
   |(simp at h5;lia)
 cases NZ with
 |cons w1 w2=>
  cases w2;cases w1 with
  |list ho nP=>exact⟨_,_,ns,rfl,rfl,ho,zbz ns _ nP,hlen⟩
theorem zfn(l:OpenLaw)(args:List WData):l.row.toRowW.claim.post args (.bool true) args=true:=
 postW_of (r:=l.row.toRowW) (X:=(true==true))
  (show WShape.has [] (.bool true) .bool=true by first|rfl|decide|simp[WShape.has,WShape.arms,WShape.armsAll])
  (show (WTm.eq .res (.lit (.bool true))).value [] {args:=args,res:=some (.bool true),after:=args}=some (.bool (true==true)) from w_eq_bool (w_res rfl) w_lit) rfl
theorem mJ{l:OpenLaw}{n:Nat}{q:Program}{loose:List Str}{XP:(Str->Option Value)->Heap->Prop}{YP:World->Heap->Prop}{d:DefRec}
  (hn:l.most=some n) (N5:d.params.defaults=[])
  (call:∀(w:World) (s₀ s₁:Shared) (mg mb:Str->Option Value) (fa:Addr) (o:Obj) (pm cd doc:Value) (a:Addr) (vs:List Value) (ns:List Int),
   Ground q loose [] XP w s₀ mg mb s₁.heap->YP w s₁.heap->
   s₁.heap.get? fa=some o->o.data=.func (docDef d.name d.params d.body d.scope pm cd doc)->s₁.heap.CodeRec cd d.name->mg d.name=some (.ref fa)->
   s₁.heap.get? a=some {cls:=.type "list",data:=.seq vs.toArray}->IntsAre vs ns->ns.length<=n->s₁.gens=#[]->
   codeAny (model l.prog w) callerA (.call (.ref fa) ⟨[.ref a],[]⟩) (λr s'=>r=.ok (.ret (.bool true))/\OldK s₁.heap s'.heap/\s'.os=s₁.os/\AllBare s'.gens) s₁) :
  WalkO q loose XP YP l.row.toRowW d [] (λf vs=>PySem.call f vs):=by
 intro w s₀ s₁ mg mb G Y fa o pm cd doc dV kV ho hd jD hD hmg hg args vals as hpre aac hrd NZ wB;obtain rfl:dV=.none:=Dflts.none hD N5;obtain rfl:kV=.none:=Dflts.noKw hD;obtain⟨a,vs,ns,rfl,rfl,yM,hints,hlen⟩:=zff hn hpre NZ;refine enter_call (Ar (call w s₀ s₁ mg mb fa o pm cd doc a vs ns G Y ho (fd_plain hd) jD hmg yM hints hlen hg) λr s' hq=>?_);obtain⟨rfl,h2,h3,h4⟩:=hq;exact⟨.inl ⟨.bool true,.bool true,[],rfl,λ_=>rfl,.bool true,zfn l _,λ_=>⟨List.Pairwise.nil,λ_ hm=>(nomatch hm)⟩⟩,h2,h3,h4⟩
section
variable {prog:Program}{w:World}{A:Around}{E:Value->Shared->Prop}{s:Shared}{K:Frag}
end
end Vf
namespace L2
open PySem PySem.Spec PyProof.Rows
theorem Vg:∀{vs:List Value} {ns:List Int},IntsAre vs ns->Vals (ns.map V.int) vs
 |_,_,.nil=>.nil
 |_,_,.cons n t h=>.cons ⟨t,rfl⟩ (Vg h)
def Only(H:Hp):Prop:=∀b,H b=none\/∃o xs,H b=some (.tL o (.lst xs))
theorem zg2{P:Program}{w:World}{K:W.Frag}{mg mb:Str->Option Value}{CX:qC}{k:Nat}{fa a:Addr}{fd:FuncData}{x:Str}{sp:Sp}{s₁:Shared}{vs:List Value}{ns:List Int}
  (KX:K.In s₁.heap) (Vh:s₁.heap.Ns mainGlobals mg) (hb:s₁.heap.Ns builtinsNs mb) (hbb:∀x:Str,x≠"__name__"->mb x=bootBuiltins x) (N6:s₁.heap.NoLimit) (hg:s₁.gens=#[])
  (ha:s₁.heap.get? a=some {cls:=.type "list",data:=.seq vs.toArray}) (hi:IntsAre vs ns) (hl:ns.length<=sizeLine) (hr:bD k callerA)
  (F:∀base:Heap,K.In base->base.Ns mainGlobals mg->bW P w K mg base CX true k fa fd [x] sp) (Ez:∀(s:Shared) (u:Value),BindsTo s fd ⟨[u],[]⟩ [(x,u)])
  (Jp:∀H:Hp,Only H->cM K H a (ns.map V.int)->sp [.ref a] H (λv _=>v=.bl true) λ_ _ _=>False)
  (hCX:∀H e s',CX [] H s₁ (λ_ _ _=>False) e s'->False) :
  codeAny (model P w) callerA (.call (.ref fa) ⟨[.ref a],[]⟩) (λr s'=>r=.ok (.ret (.bool true))/\OldK s₁.heap s'.heap/\s'.os=s₁.os/\AllBare s'.gens) s₁:=by
 have rv:=Vg hi;have lenV:=hi.length;have core:∀H:Hp,Only H->cM K H a (ns.map V.int)->gZ P w H s₁.heap->(∀b,H b≠none->b=a)->(H a≠none->K.lookup a=none)->
   codeAny (model P w) callerA (.call (.ref fa) ⟨[.ref a],[]⟩) (λr s'=>r=.ok (.ret (.bool true))/\OldK s₁.heap s'.heap/\s'.os=s₁.os/\AllBare s'.gens) s₁:=by
  intro H hO hS hok hA hK;have oW:∀{b:Addr} {o:Obj},s₁.heap.get? b=some o->H b=none->(kO s₁.heap H).get? b=some o:=λe n=>zgZ e n;have Ef:∀{b:Addr} {o:Obj} {es:Array DictEntry} {ep:Nat},s₁.heap.get? b=some o->o.data=.dict es ep->H b=none:=λ{b o es ep} e d=>by
   cases q:H b with
   |none=>rfl
   |some u=>
    have e':b=a:=hA b (by rw[q];simp);subst e';rw[ha] at e;cases e;have d':Data.seq vs.toArray _=Data.dict es ep:=d;cases d'
  have Jr:∀{b:Addr} {m:Str->Option Value},s₁.heap.Ns b m->(kO s₁.heap H).Ns b m:=λ{b m} ⟨o,es,ep,e,d,r⟩=>⟨o,es,ep,oW e (Ef e d),d,r⟩;have Vi:K.In (kO s₁.heap H):=λb o e=>oW (KX b o e) (by
   cases q:H b with
   |none=>rfl
   |some u=>
    have e':b=a:=hA b (by rw[q];simp);subst e';rw[hK (by rw[q];simp)] at e;cases e)
  have hM:Mod K mg (kO s₁.heap H):=⟨Vi,Jr Vh,⟨mb,Jr hb,hbb⟩,let ⟨mc,h1,h2⟩:=N6;⟨mc,Jr h1,h2⟩⟩;have e0:nJ P w K mg (kO s₁.heap H) callerA [] s₁ H:=⟨rfl,hM,λb o e=>ziu e,Nat.le_of_eq (zfX _ _),trivial,λb hb=>absurd (show b∈([]:List Addr) from hb) (by simp),hok,.of_eq hg⟩;refine Ar ((F _ Vi (Jr Vh)).run callerA [] s₁ H ⟨[.ref a],[]⟩ [.ref a] [.ref a] _ _ (λ_=>rfl) hr e0 (Ez s₁ (.ref a)) (.cons rfl .nil) (Jp H hO hS)) λr s' h=>?_;cases r with
  |error e=>exact(hCX H e s' h).elim
  |ok fl=>
   cases fl with
   |next=>exact False.elim h
   |brk=>exact False.elim h
   |cont=>exact False.elim h
   |ret u=>
    obtain⟨v,H',os,bare,un,N8,r',q⟩:=h;have q':v=.bl true:=q;subst q';obtain rfl:u=Value.bool true:=r';refine⟨rfl,OldK.of_keep λb o e=>?_,os,bare⟩;cases q:H b with
    |none=>exact un.keep b o e q (by intro z;exact absurd (show b∈([]:List Addr) from z) (by simp)) (by simp)
    |some u=>
     rcases hO b with z|⟨ob,xs,z⟩
     ·rw[q] at z;cases z
     ·have z2:=un.jG b ob _ z;obtain⟨e1,_⟩:=hok b _ z;obtain⟨e2,_⟩:=N8 b _ z2;rw[e] at e1;cases e1;exact e2
 cases hk:K.lookup a with
 |some o=>
  have e:=KX a o hk;rw[ha] at e;cases e;refine core (λ_=>none) (λ_=>.inl rfl) (.inr ⟨_,vs.toArray,_,hk,rfl,rfl,rfl,by rw[eG,lenV];exact hl,by simpa using rv⟩) (λb u z=>by have z':(none:Option HO)=some u:=z;cases z') (λb z=>absurd rfl z) λz=>absurd rfl z
 |none=>
  refine core (λb=>if b=a then some (.tL {cls:=.type "list",data:=.seq vs.toArray} (.lst (ns.map V.int))) else none) (λb=>?_) (.inl (.inr ⟨{cls:=.type "list",data:=.seq vs.toArray},if_pos rfl⟩)) (λb u z=>?_) (λb z=>?_) λ_=>hk
  ·by_cases hb:b=a
   ·exact .inr ⟨_,_,if_pos hb⟩
   ·exact .inl (if_neg hb)
  ·by_cases hb:b=a
   ·have z':=(if_pos hb).symm.trans z;cases z';subst hb;exact⟨ha,by rw[bV];exact hl,vs,_,rv,ha⟩
   ·have z':=(if_neg hb).symm.trans z;cases z'
  ·by_cases hb:b=a
   ·exact hb
   ·exact absurd (if_neg hb) z
def N_(h0:Heap)(H:Hp)(h:Heap)(e:Addr)(hd:Value):Prop:=
 hd=.none\/∃T oT ts,hd=.ref T/\h0.get? T=none/\H T=none/\T≠e/\h.get? T=some oT/\oT.data=.fields ts/\ts[3]?=some .none
structure Exc(h0:Heap)(H:Hp)(h:Heap)(e C:Addr)(dx:Option Addr):Prop where
 new:h0.get? e=none
 un:H e=none
 ob:∃oe vs hd,h.get? e=some oe/\oe.cls=.ref C/\oe.dict=dx/\oe.data=.fields vs/\vs[1]?=some hd/\N_ h0 H h e hd
structure Oa(h0:Heap)(H:Hp)(fr:List Addr)(h h':Heap)(ch:List Addr):Prop where
 rec_:∀b∈ch,h0.get? b=none/\H b=none/\∃o vs,h.get? b=some o/\o.data=.fields vs
 keep:∀b o,h.get? b=some o->b∉fr->b∉ch->h'.get? b=some o
 slot:∀b o,h.get? b=some o->b∈fr->∃sl,h'.get? b=some {o with slots:=sl}
 there:∀b o,h.get? b=some o->∃o',h'.get? b=some o'
noncomputable def q_(head:Value)(L:Addr)(pl:List Value):Obj:=
 {cls:=.type "traceback",dict:=none,data:=.fields ([head,.ref L,.none,rawInt L,.none]++(if pl.isEmpty then List.replicate 6 Value.none else pl)).toArray}
theorem Vj(o:Obj)(f:Array Value->Array Value):(o.mapFields f).dict=o.dict:=by
 obtain⟨c,d,dt,sl⟩:=o;cases dt<;>rfl
theorem Vk(o:Obj)(f:Array Value->Array Value):(o.mapFields f).cls=o.cls:=by
 obtain⟨c,d,dt,sl⟩:=o;cases dt<;>rfl
section
variable {M:Model}{A:Around}{E:Value->Shared->Prop}{s:Shared}{base h0:Heap}{env:Env}{outer:List Env}{L e C:Addr}{dx:Option Addr}{H:Hp}{Q:Unit->Shared->Prop}
theorem Vl(qD:A.frames=some (env::outer))(hl:s.heap.FunFrames base (env::outer))(hf:env.frame=some L)
  (he:s.heap.get? e=some oe) (hd:oe.data=.fields vs) (hsz:1<vs.size)
  (k:∀h' T oT ts,s.heap.objs.size<=T->(∀b o,s.heap.get? b=some o->b∉frs (env::outer)->b≠e->h'.get? b=some o)->(∀b o,s.heap.get? b=some o->b∈frs (env::outer)->∃sl,h'.get? b=some {o with slots:=sl})->
   h'.get? e=some (oe.mapFields (·.setIfInBounds 1 (.ref T)))->h'.get? T=some oT->oT.data=.fields ts->3<ts.size->ts[3]?=some (rawInt L)->Q () {s with heap:=h'}) :
  wpAny M A (do let a <-frameOf env;let pl <-entryPlaceOf L hn;let b <-EntryCells.newEntry head a .none (rawInt L) .none pl;setField (.ref e) 1 b) Q E s:=by
 have EY:e∉frs (env::outer):=λhm=>by
  obtain⟨_,o,ho,hx⟩:=hl.mem hm;rw[he] at ho;cases ho;exact hx vs hd
 refine aC (wpAny_frameOf_fun qD hl hf λh₁ sl₁=>?_);refine aC (wpAny_entryPlaceOf λpl hpl=>?_);unfold EntryCells.newEntry newFields;refine aC (oG ?_ (hpl.sizeOk5 _ _ _ _ _));have e1:h₁.get? e=some oe:=(sl₁.2.1 e EY).trans he;have e2:(h₁.push (q_ head L pl)).get? e=some oe:=cG _ e1;refine CK e2 hd hsz ?_;have ne:h₁.objs.size≠e:=uD (bR e1);have d3:=vW hd (·.setIfInBounds 1 (Value.ref h₁.objs.size));have kp:∀b o,h₁.get? b=some o->b≠e->((h₁.push (q_ head L pl)).update e (Obj.mapFields (·.setIfInBounds 1 (Value.ref h₁.objs.size)))).get? b=some o:=λb o q n=>by
  rw[uo _ _ n.symm];exact cG _ q
 refine k _ h₁.objs.size (q_ head L pl) _ (by rw[sl₁.1];exact bI _) (λb o q n1 n2=>kp b o ((sl₁.2.1 b n1).trans q) n2) (λb o q m=>?_) (xP _ e2 (Ih d3)) ?_ rfl ?_ ?_
 ·obtain⟨sl,z⟩:=sl₁.2.2 b o q;exact⟨sl,kp b _ z λy=>EY (y▸m)⟩
 ·rw[uo _ _ ne.symm];exact fj _ rfl
 ·simp only[eG,lV,fZ,Al]<;>lia
 ·first
   |(simp;done)
   |(rcases hpl with rfl|⟨_,_,_,_,_,_,_,rfl⟩<;>simp)
theorem zhy(qD:A.frames=some (env::outer))(hl:s.heap.FunFrames base (env::outer))(hf:env.frame=some L)(x:Exc h0 H s.heap e C dx)
  (k:∀h' T oT oe ts vs ch,Oa h0 H (frs (env::outer)) s.heap h' ch->s.heap.objs.size<=T->h'.get? e=some oe->oe.cls=.ref C->oe.dict=dx->oe.data=.fields vs->vs[1]?=some (.ref T)->h'.get? T=some oT->oT.data=.fields ts->
   3<ts.size->ts[3]?=some (rawInt L)->Q () {s with heap:=h'}):wpAny M A (noteFrame (.ref e) env) Q E s:=by
 obtain⟨oe,vs,hd,he,hc,Js,pX,h1,tb⟩:=x.ob;have hsz:1<vs.size:=(Array.getElem?_eq_some_iff.mp h1).1;have EY:∀b o ws,s.heap.get? b=some o->o.data=.fields ws->b∉frs (env::outer):=λb o ws q d hm=>by
  obtain⟨_,o',ho,hx⟩:=hl.mem hm;rw[q] at ho;cases ho;exact hx ws d
 unfold noteFrame;simp only[hf];refine aC (jB he pX h1 ?_);rcases tb with rfl|⟨T,oT,ts,rfl,nT,uT,neT,gT,dT,h3⟩
 ·rw[if_neg (by decide)];refine Vl qD hl hf he pX hsz λh' T oT ts lt kp sl ge gT dT z3 z4=>?_;refine k h' T oT _ ts _ [e] ⟨λb hb=>?_,λb o q n1 n2=>kp b o q n1 λz=>n2 (by rw[z];exact .head _),sl,λb o q=>?_⟩ lt ge ((Vk _ _).trans hc) ((Vj _ _).trans Js) (vW pX _) (by simp[hsz]) gT dT z3 z4
  ·obtain rfl:b=e:=by simpa using hb
   exact⟨x.new,x.un,oe,vs,he,pX⟩
  ·by_cases z:b=e
   ·subst z;exact⟨_,ge⟩
   ·by_cases m:b∈frs (env::outer)
    ·obtain⟨w,q'⟩:=sl b o q m;exact⟨_,q'⟩
    ·exact⟨o,kp b o q m z⟩
 ·rw[if_pos (show (Value.ref T != Value.none)=true from by simp)];refine aC (jB gT dT h3 ?_);rw[if_neg (show ¬((Value.none==rawInt L)=true) from by simp[rawInt])];have z3:3<ts.size:=(Array.getElem?_eq_some_iff.mp h3).1;refine aC (CK gT dT z3 ?_);have oth:∀b,b≠T->(s.heap.update T (Obj.mapFields (·.setIfInBounds 3 Value.none))).get? b=s.heap.get? b:=λb n=>uo _ _ n.symm;have hl':(s.heap.update T (Obj.mapFields (·.setIfInBounds 3 Value.none))).FunFrames base (env::outer):=hl.of_keeps λb o q nd=>⟨o,(oth b λz=>by subst z;rw[gT] at q;cases q;exact nd ts dT).trans q,rfl⟩;have sT:(s.heap.update T (Obj.mapFields (·.setIfInBounds 3 Value.none))).get? T=some (oT.mapFields (·.setIfInBounds 3 Value.none)):=xP _ gT (Ih (vW dT _));refine Vl qD hl' hf ((oth e neT.symm).trans he) pX hsz λh' T' oT' ts' lt kp sl ge gT' dT' z3' z4'=>?_;have lt':s.heap.objs.size<=T':=by
   have:=lt;simp only[Heap.size_after_update] at this;exact this
  refine k h' T' oT' _ ts' _ [e,T] ⟨λb hb=>?_,λb o q n1 n2=>kp b o ((oth b λz=>n2 (by simp[z])).trans q) n1 λz=>n2 (by simp[z]),λb o q m=>?_,λb o q=>?_⟩ lt' ge ((Vk _ _).trans hc) ((Vj _ _).trans Js) (vW pX _) (by simp[hsz]) gT' dT' z3' z4'
  ·have hb':b=e\/b=T:=by simpa using hb
   rcases hb' with rfl|rfl
   ·exact⟨x.new,x.un,oe,vs,he,pX⟩
   ·exact⟨nT,uT,oT,ts,gT,dT⟩
  ·exact sl b o ((oth b λz=>by subst z;exact EY b o ts q (by rw[gT] at q;cases q;exact dT) m).trans q) m
  ·by_cases z:b=e
   ·subst z;exact⟨_,ge⟩
   ·by_cases y:b=T
    ·subst y;exact⟨_,kp b _ sT (EY b oT ts gT dT) z⟩
    ·by_cases m:b∈frs (env::outer)
     ·obtain⟨w,q'⟩:=sl b o ((oth b y).trans q) m;exact⟨_,q'⟩
     ·exact⟨o,kp b o ((oth b y).trans q) m z⟩
theorem zhf(he:s.heap.get? e=some oe)(hd:oe.data=.fields vs)(h1:vs[1]?=some (.ref T))(gT:s.heap.get? T=some oT)(dT:oT.data=.fields ts)(z3:3<ts.size)
  (k:∀h',(∀b o,b≠T->s.heap.get? b=some o->h'.get? b=some o)->h'.get? T=some (oT.mapFields (·.setIfInBounds 3 Value.none))->Q () {s with heap:=h'}):wpAny M A (setFlight (.ref e) none) Q E s:=by
 unfold setFlight;refine aC (jB he hd h1 ?_);rw[if_pos (show (Value.ref T != Value.none)=true from by simp)];exact CK gT dT z3 (k _ (λb o n q=>(uo _ _ n.symm).trans q) (xP _ gT (Ih (vW dT _))))
theorem zfW(qD:A.frames=some (env::outer))(hl:s.heap.FunFrames base (env::outer))(hf:env.frame=some L)(x:Exc h0 H s.heap e C dx)
  (oN:∀b,s.heap.objs.size<=b->H b=none) (h0s:∀b o,h0.get? b=some o->∃o',s.heap.get? b=some o')
  (k:∀h' ch,Oa h0 H (frs (env::outer)) s.heap h' ch->Exc h0 H h' e C dx->Q () {s with heap:=h'}) :
  wpAny M A (noteFrame (.ref e) env) (λ_ s₁=>wpAny M A (setFlight (.ref e) none) Q E s₁) E s:=by
 have ele:∃o,s.heap.get? e=some o:=let ⟨oe,_,_,he,_⟩:=x.ob;⟨oe,he⟩;refine zhy qD hl hf x λh' T oT oe ts vs ch t lt ge hc Js pX h1 gT dT z3 z4=>?_;have neT:T≠e:=λz=>by
  obtain⟨o,q⟩:=ele;exact absurd (gY (bR q) (z▸lt)) (oH _)
 refine zhf (s:={s with heap:=h'}) ge pX h1 gT dT z3 λh2 kp gT2=>?_;have nT:∀b o,s.heap.get? b=some o->b≠T:=λb o q z=>absurd (gY (bR q) (z▸lt)) (oH _);refine k h2 ch ⟨t.rec_,λb o q n1 n2=>kp b o (nT b o q) (t.keep b o q n1 n2),λb o q m=>?_,λb o q=>?_⟩ ⟨x.new,x.un,oe,vs,.ref T,kp e oe neT.symm ge,hc,Js,pX,h1,.inr ⟨T,_,_,rfl,?_,oN T lt,neT,gT2,vW dT _,by simp[z3]⟩⟩
 ·obtain⟨sl,q'⟩:=t.slot b o q m;exact⟨sl,kp b _ (nT b o q) q'⟩
 ·obtain⟨o',q'⟩:=t.there b o q;exact⟨o',kp b o' (nT b o q) q'⟩
 ·cases z:h0.get? T with
  |none=>rfl
  |some o=>
   obtain⟨o',q⟩:=h0s T o z;exact absurd rfl (nT T o' q)
end
noncomputable abbrev XS:=St->Value->Option Addr->Hp->Prop
def Sub(h0 h:Heap):Prop:=∀b o,h0.get? b=some o->∃o',h.get? b=some o'
theorem Sub.none{h0 h:Heap}(x:Sub h0 h){b:Addr}(e:h.get? b=none):h0.get? b=none:=by
 cases q:h0.get? b with
 |none=>rfl
 |some o=>
  obtain⟨o',z⟩:=x b o q;rw[e] at z;cases z
theorem Exc.older{h0 h1:Heap}{H:Hp}{h:Heap}{e C:Addr}{dx:Option Addr}(x:Exc h1 H h e C dx)(y:Sub h0 h1):Exc h0 H h e C dx:=by
 obtain⟨oe,vs,hd,a,b,c,d,f,tb⟩:=x.ob;refine⟨y.none x.new,x.un,oe,vs,hd,a,b,c,d,f,?_⟩;rcases tb with z|⟨T,oT,ts,z1,z2,z3⟩
 ·exact .inl z
 ·exact .inr ⟨T,oT,ts,z1,y.none z2,z3⟩
section
variable {X:Cx}{ao:List (Addr×Obj)}{Z:St}{H:Hp}{s:Shared}{h0 h':Heap}{ch fr:List Addr}
theorem gZ.tbd{P:Program}{w:World}{h:Heap}(x:gZ P w H h)(t:Oa h0 H fr h h' ch)(hf:∀b∈fr,H b=none):gZ P w H h':=λa o e=>by
 have st:∀b u,(b=a\/H b=some (.own a))->h.get? b=some u->h'.get? b=some u:=λb u z q=>by
  have nb:H b≠none:=by
   rcases z with z|z
   ·rw[z,e];simp
   ·rw[z];simp
  exact t.keep b u q (λm=>nb (hf b m)) λm=>nb (t.rec_ b m).2.1
 exact(x a o e).stay st (λ_ z=>z) λ_ _ z=>z
end
def Raises(X:Cx)(EX:XS):Prop:=
 ∀(ao:List (Addr×Obj)) (Z:St) (H:Hp) (s:Shared) (h0:Heap) (e C:Addr) (dx:Option Addr),Inv X ao Z H s->(∀b o,X.s₀.heap.get? b=some o->b∉X.ex->∃o',h0.get? b=some o')->
  (∀p∈X.pn++ao,∃o,h0.get? p.1=some o)->Sub h0 s.heap->Exc h0 H s.heap e C dx->EX Z (.ref C) dx H->X.xe (.ref e) s
noncomputable def fL(P:Program)(w:World):qC:=λouter H s E e s'=>
 ∃(a C:Addr) (dx:Option Addr) (H':Hp),e=.ref a/\s'.os=s.os/\AllBare s'.gens/\Un (frs outer) [] H H' s.heap s'.heap/\gZ P w H' s'.heap/\Exc s.heap H' s'.heap a C dx/\E (.ref C) dx H'
theorem zeW{P:Program}{w:World}{K:W.Frag}{mg:Str->Option Value}{base:Heap}{N:List Str}{qual:Str}{scope:Scope}{f:Addr}{cd:Value}{A:Around}{outer:List Env}{s:Shared}{H:Hp}{E:XK}{cm:Bool} :
  Raises (fD (fL P w) P w K mg base N qual scope f cd A outer s H E cm) (λ_ C dx H'=>E C dx H'):=by
 intro ao Z H1 s1 h0 e C dx I hs hp h01 x ex;have I0:Inv (fD (fL P w) P w K mg base N qual scope f cd A outer s H E cm) [] Z H1 s1:=I.kZ λp z=>absurd z (by simp);show wpAny (model P w) (A.deeper (envOfC qual scope s.heap.objs.size f cd)) (leaving (envOfC qual scope s.heap.objs.size f cd) (.ref e)) _ _ s1;unfold leaving;have hsub:Sub s.heap h0:=λb o q=>hs b o q (by show b∉([]:List Addr);simp);refine aC (zfW (base:=base) (outer:=outer) (L:=s.heap.objs.size) I0.ok.frames I0.stack rfl x (λb z=>I0.hok.fresh z) h01 λh' ch t x'=>?_);have fin:∀b o,s.heap.get? b=some o->b∉ch:=λb o q m=>by
  have z:=hsub.none (t.rec_ b m).1;rw[q] at z;cases z
 have nL:∀b o,s.heap.get? b=some o->b∉frs outer->b∉frs (envOfC qual scope s.heap.objs.size f cd::outer):=λb o q n m=>by
  have m':b∈s.heap.objs.size::frs outer:=m;rcases gG.mp m' with z|z
  ·exact absurd (bR q) (by rw[z];exact oH _)
  ·exact n z
 refine⟨e,C,dx,H1,rfl,I0.os,I0.bare,⟨λb o q n hb _=>?_,λb o q n hb _=>?_,λb o q n _=>I0.base.free b o q n (by show b∉([]:List Addr);simp),λb o q _=>?_,I0.base.tups,I0.base.jG,I0.base.kJ⟩,I0.hok.tbd t I0.kY,x'.older hsub,ex⟩
 ·exact t.keep b o (I0.base.keep b o q n hb (by show b∉([]:List Addr);simp)) (nL b o q hb) (fin b o q)
 ·obtain⟨sl,q1⟩:=I0.base.slot b o q n hb (by show b∉([]:List Addr);simp);obtain⟨sl',q2⟩:=t.slot b _ q1 (show b∈s.heap.objs.size::frs outer from gW _ hb);exact⟨sl',q2⟩
 ·obtain⟨o',q1⟩:=I0.base.there b o q (by show b∉([]:List Addr);simp);exact t.there b o' q1
section
variable {X:Cx}{cm:Bool}{k:Nat}{f C:Addr}{fd:FuncData}{ps:List Str}{sp:Sp}{EX:XS}{x m:Str}{p pos apos:Pos}{e o:Expr}{es:List Expr}{ta:TE}{t:TA}
theorem Raises.pass(R:Raises X EX)(I:Inv X ao Z H s)(h:fL X.prog X.w X.stack H s (EX Z) v s'):X.xe v s':=by
 obtain⟨a,C,dx,H',rfl,os,bare,un,hok,x,q⟩:=h;have aq:Sub s.heap s'.heap:=λb o z=>un.there b o z (by simp);refine R ao Z H' s' s.heap a C dx (I.call' os un hok bare λb z=>absurd z (by simp)) (λb o z n=>I.base.there b o z n) (λp hp=>?_) aq x q;exact⟨p.2,(I.pin p hp).1⟩
noncomputable def yN(sp:Sp)(EX:XS)(t:TA):TE:=λZ H Q=>t Z H λvs H1=>sp vs H1 Q (EX Z)
theorem zi1(F:bW X.prog X.w X.K X.mg X.base (fL X.prog X.w) cm k f fd ps sp)(iV:cm=true->X.aj=true)(hr:bD k X.A)(hb:Binds X.K fd ps [])(R:Raises X EX)
  (I:Inv X ao Z H s) (r:Vals vs us) (h:sp vs H Q (EX Z)):wpAny (model X.prog X.w) X.A (call (.ref f) us) (EP X ao Z Q) X.xe s:=by
 have hl:us.length=ps.length:=by rw[<-r.length];exact F.len _ _ _ _ h
 have hb':=hb s us I.lZ (by rw[vZ];exact hl);rw[vZ] at hb';refine wpAny_call (Ar (F.run X.A X.stack s H ⟨us,[]⟩ us vs Q (EX Z) (λz=>I.ok.hd (iV z)) hr I.env0 hb' r h) λr s' hq=>?_);cases r with
 |error v=>exact R.pass I hq
 |ok fl=>
  cases fl with
  |ret u=>exact I.after hq
  |next=>exact False.elim hq
  |brk=>exact False.elim hq
  |cont=>exact False.elim hq
theorem zhu(F:bW X.prog X.w X.K X.mg X.base (fL X.prog X.w) cm k f fd ps sp)(iV:cm=true->X.aj=true)(hr:bD k X.A)(hg:Gl X x)(hm:X.mg x=some (.ref f))(hk:PySem.W.keepIn X.K (.ref f)=true)(hb:Binds X.K fd ps [])(R:Raises X EX)
  (ha:PA X (e::es) t) (pR:(x==("__debug__" : Str))=false:=by decide) (he:starEach (e::es) X.env=(false,eval e X.env)::starEach es X.env:=by rfl) (hpl:(backTo pos (starEach es X.env)).any (·.1)=false:=by rfl) :
  PE X (.Call (.Name x p) (e::es) [] pos) (yN sp EX t):=by
 intro ao s Z H Q I h;refine Ag (Mw I hg hm ?_ pR);exact Lz (h₀:=X.base) I.ok.mod.wg hk (aZ (ha pos ao s Z H _ I h) λus s1 ⟨vs,H1,I1,r,q⟩=>⟨I1.lZ,zi1 F iV hr hb R I1 r q⟩) he hpl
end
noncomputable def uV(a C:Addr)(dx:Option Addr):HO:=.ext λh=>∃oe vs,h.get? a=some oe/\oe.cls=.ref C/\oe.dict=dx/\oe.data=.fields vs
section
variable {X:Cx}{ao:List (Addr×Obj)}{Z:St}{H:Hp}{s:Shared}{e:Addr}{o:HO}
end
section
variable {X:Cx}{x n:Str}{np Ob pos:Pos}{b₀:Stmt}{body suite:List Stmt}{Dc:Addr}{i:Nat}{tb:XS->TS}{th:TS}
end
end L2
namespace L2
open PySem PySem.Spec PyProof.Rows PySem.W Builtin.ObjectAttr
section
variable {prog:Program}{w:World}{A:Around}{E:Value->Shared->Prop}{s:Shared}{K:Frag}{x C:Addr}{ox:Obj}{od:Option Obj}{name:Str}{tk:Tok}
theorem zi8(XI:K.In s.heap)(I:InstAt s.heap x ox C od)(hf:findObj K C od name=some r)
  (h:match r with|.value v=>Q (.done (.ret v)) s|.bind g a=>wpAny (model prog w) A (call g [a,.ref x,.ref C]) (λv s'=>Q (.done (.ret v)) s') E s|.missing=>False) :
  wpAny (model prog w) A (Builtin.«object.__getattribute__» ⟨[.ref x,.str name tk],[]⟩) Q E s:=by
 obtain⟨hh,g,d,t,os⟩:=s;have L0:=I.type (M:=model prog w);have L1:=looks_find (M:=model prog w) XI I hf;unfold Builtin.«object.__getattribute__»;refine aC (wpAny_of_eq (a:=(Value.ref x,[Value.str name tk])) (by rfl) ?_);refine aC (wpAny_of_eq (a:=name) (by rfl) ?_);refine aC (L0.at (aC (L1.at ?_)));cases r with
 |value v=>exact aO h
 |bind g a=>
  show wpAny _ _ (holding [a] (call g [a,.ref x,.ref C]) >>= ret) _ _ _;exact aC (pO (lO h (λv s' z=>aO z) λ_ _ z=>z))
 |missing=>exact h.elim
theorem zfz(XI:K.In s.heap)(I:InstAt s.heap x ox C od)(hb:mroIn K C (.type "BaseException")=some true)(hf:findObj K C od name=some r)
  (h:match r with|.value v=>R (.ok (.ret v)) s|.bind g a=>wpAny (model prog w) A.in1 (call g [a,.ref x,.ref C]) (λv s'=>R (.ok (.ret v)) s') (λe s'=>R (.error e) s') s|.missing=>False) :
  codeAny (model prog w) A (.call (.builtin "BaseException.__getattribute__") ⟨[.ref x,.str name tk],[]⟩) R s:=by
 have hk:builtinKind "BaseException.__getattribute__"=some .slot:=by decide +kernel
 have yO:splitId "BaseException.__getattribute__"=some ("BaseException","__getattribute__"):=by decide +kernel
 have ha:=F.args_bexc_ga (.ref x) (.str name tk);refine codeAny_call_builtin F.attr_ValueError.ga.plain F.entry_bexc_ga ?_;have fin:wpAny (model prog w) A.in1 (Builtin.«object.__getattribute__» ⟨[.ref x,.str name tk],[]⟩) (λfin s'=>match fin with|.done f=>R (.ok f) s'|.again c'=>c'.quiet=true/\codeAny (model prog w) A c' R s') (λe s'=>R (.error e) s') s:=by
  refine zi8 XI I hf ?_;cases r with
  |value v=>exact h
  |bind g a=>exact h
  |missing=>exact h.elim
 have chk:∀Q:Unit->Shared->Prop,Q () s->wpAny (model prog w) A.in1 (checkBuiltinCall "BaseException.__getattribute__" ⟨[.ref x,.str name tk],[]⟩) Q (λe s'=>R (.error e) s') s:=λQ hq=>by
  obtain⟨hh,g,d,t,os⟩:=s;have L0:=I.type (M:=model prog w);have L1:=looks_mroIn (M:=model prog w) XI hb;have LI:Looks (model prog w) hh (isInstance (.ref x) (.type "BaseException")) true:=L0.andThen L1;simp only[checkBuiltinCall,hk,yO];refine aC ?_
  repeat (first|with_reducible exact hq|with_reducible refine LI.at ?_|wp_step)
 exact chk _ fin
theorem bexc_get?(XI:K.In s.heap)(I:InstAt s.heap x ox C od)(hb:mroIn K C (.type "BaseException")=some true)(hga:findIn K (.ref C) "__getattribute__"=some (some (.builtin "BaseException.__getattribute__")))
  (hgn:findIn K (.ref C) "__getattr__"=some none) (hf:findObj K C od name=some r)
  (h:match r with|.value v=>wpAny (model prog w) A (handedOut v) (λu s'=>Q (some u) s') (λ_ _=>False) {s with toks:=s.toks+1}|.bind g a=>wpAny (model prog w) A.in1 (call g [a,.ref x,.ref C]) (λv s'=>wpAny (model prog w) A (handedOut v) (λu s''=>Q (some u) s'') (λ_ _=>False) s') (λ_ _=>False) {s with toks:=s.toks+1}|.missing=>False) :
  wpAny (model prog w) A (getAttr? (.ref x) name) Q E s:=by
 obtain⟨hh,g,d,t,os⟩:=s;have L0:=I.type (M:=model prog w);have L1:=looks_findIn (M:=model prog w) XI hga;have L2:=looks_findIn (M:=model prog w) XI hgn;have Jt:(Value.builtin "BaseException.__getattribute__"==Value.builtin "object.__getattribute__")=false:=by decide +kernel
 unfold getAttr? getAttrBy? getAttrBy;refine aC (wpAny_mkText (aC (CQ (pO (aC (L0.at (aC (L1.at ?_))))))));show wpAny _ _ (if (onTheHeap (.ref C)&&(Value.builtin "BaseException.__getattribute__"==Value.builtin "object.__getattribute__"))=true then _ else getAttrByItsOwn _ _ _ _ _ _) _ _ _;rw[Jt,Bool.and_false,if_neg (by decide)];unfold getAttrByItsOwn hookBefore callGetattribute boundAndCalled;refine aC (L2.at ?_);refine aC (CQ (pO (aC (wpAny_of_eq (F.attr_ValueError.ga.bind (.ref x)) ?_))));refine wpAny_call (zfz XI I hb hf ?_);cases r with
 |value v=>exact lO h (λv s'' hv=>aO hv) (λ_ _ z=>z.elim)
 |bind g a=>exact lO h (λv s' hv=>lO hv (λu s'' z=>aO z) λ_ _ z=>z.elim) (λ_ _ z=>z.elim)
 |missing=>exact h.elim
end
structure XC(K:Frag)(C:Addr):Prop where
 ga:findIn K (.ref C) "__getattribute__"=some (some (.builtin "BaseException.__getattribute__"))
 gn:findIn K (.ref C) "__getattr__"=some none
 cl:findIn K (.ref C) "__class__"=some (some (.builtin "object.__class__"))
 mb:mroIn K C (.type "BaseException")=some true
 mo:mroIn K C (.type "object")=some true
 cd:(clsIn K C).isSome=true
 dg:specialIn K (.builtin "object.__class__") "__get__"=some (some (.builtin "getset_descriptor.__get__"))
 dt:takesIn K (.builtin "object.__class__")=some true
theorem zft{K:Frag}{C:Addr}{od:Option Obj}{name:Str}{a g:Value}(hc:(clsIn K C).isSome=true)(ha:findIn K (.ref C) name=some (some a))(hg:specialIn K a "__get__"=some (some g))(ht:takesIn K a=some true):findObj K C od name=some (.bind g a):=by
 obtain⟨cd,z⟩:=Lf.mp hc;simp only[findObj,z,ha,hg,ht,Option.bind_some]
theorem Vm{K:Frag}{e C:Addr}(c:XC K C):KitX K (.ref e) (.ref C) (λh=>∃ox od,InstAt h e ox C od) where
 ty:=λ_ _ _ ⟨_,_,I⟩=>I.type
 it:=λ_ _ XI _=>by
  have q:=c.cd;unfold clsIn at q;split at q
  ·rename_i c' d' cd' sl' lk;intro A' Q' E' s' k z;unfold isType loadHead;exact aC (wpAny_loadPart (k _ _ (XI _ _ lk)) (aO z))
  ·cases q
 ne:=λh tp dd its n sl XI htp=>by
  refine Bool.eq_false_iff.mpr λz=>?_;have ee:C=tp:=Value.ref.inj (oJ.mp z);subst ee;have q:=c.cd;unfold clsIn at q;split at q
  ·rename_i c' d' cd' sl' lk;have y:=(XI _ _ lk).symm.trans htp;cases y
  ·cases q
 ca:=λ{prog w A E Q s} XI ⟨ox,od,I⟩ k=>by
  have hf:findObj K C od "__class__"=some (.bind (.builtin "getset_descriptor.__get__") (.builtin "object.__class__")):=zft c.cd c.cl c.dg c.dt;refine bexc_get? XI I c.mb c.ga c.gn hf ?_;exact wpAny_call (class_get (s:={s with toks:=s.toks+1}) (ox:=ox) (od:=od) XI I c.mo (handed_on rfl k))
end L2
namespace L2
open PySem PySem.Spec PyProof.Rows
theorem zeH:∀(names:List (Str×NameKind)) (cs:List (Str×Addr)),(∀x∈names,x.2=.free->∃c,env.cells.lookup x.1=some c)->(∀x c,cs.lookup x=some c->env.cells.lookup x=some c)->
  ∃cl,(forIn names cs λx r=>(do
    if x.2==.free then
     let a <-cellOf env x.1
     pure (ForInStep.yield ((x.1,a)::r))
    else pure (ForInStep.yield r)):Sem (List (Str×Addr)))=pure cl/\(∀x c,cl.lookup x=some c->env.cells.lookup x=some c)/\(∀x c,cs.lookup x=some c->cl.lookup x=some c)/\∀x∈names,x.2=.free->∃c,cl.lookup x.1=some c:=by
 intro names
 induction names with
 |nil=>intro cs _ h;exact⟨cs,rfl,h,λ_ _ q=>q,λx z=>nomatch z⟩
 |cons y r ih=>
  intro cs h1 h2;obtain⟨n,k⟩:=y;by_cases hk:k=.free
  ·subst hk;obtain⟨c,hc⟩:=h1 (n,.free) kh rfl;have hc:env.cells.lookup n=some c:=hc;have h3:∀x d,((n,c)::cs).lookup x=some d->env.cells.lookup x=some d:=λx d q=>by
    rw[nA] at q;by_cases z:x=n
    ·subst z;simp at q;subst q;exact hc
    ·have z':(x==n)=false:=by simpa using z
     rw[z'] at q;exact h2 x d q
   obtain⟨cl,e,a,b,d⟩:=ih ((n,c)::cs) (λx z=>h1 x (gW _ z)) h3;have hco:cellOf env n=pure c:=by
    unfold cellOf;rw[hc]
   refine⟨cl,?_,a,λx q z=>?_,λx z q=>?_⟩
   ·rw[Am];simp only[Aj,if_true,hco];exact e
   ·by_cases y:x=n
    ·subst y;have z1:=h2 x q z;rw[hc] at z1;cases z1;exact b x c (by simp)
    ·have y':(x==n)=false:=by simpa using y
     exact b x q (by rw[nA,y'];exact z)
   ·rcases gG.mp z with z|z
    ·subst z;exact⟨c,b n c (by simp)⟩
    ·exact d x z q
  ·have hb:(k==NameKind.free)=false:=by simpa using hk
   obtain⟨cl,e,a,b,d⟩:=ih cs (λx z=>h1 x (gW _ z)) h2;refine⟨cl,?_,a,b,λx z q=>?_⟩
   ·rw[Am];simp only[hb,vX,qz];exact e
   ·rcases gG.mp z with z|z
    ·subst z;exact absurd q hk
    ·exact d x z q
theorem zeV(h:∀x∈scope.names,x.2=.free->∃c,env.cells.lookup x.1=some c):∃cl,closureFor scope env=pure cl/\(∀x c,cl.lookup x=some c->env.cells.lookup x=some c)/\∀x∈scope.names,x.2=.free->∃c,cl.lookup x.1=some c:=by
 obtain⟨cl,e,a,_,d⟩:=zeH scope.names [] h (λx c q=>by cases q);refine⟨cl,?_,a,d⟩;unfold closureFor;have e':=e;simp only[pure_bind,bind_pure] at e' ⊢;exact e'
theorem Oc{env:Env}{k:NameKind}:∀{names:List (Str×NameKind)} {x:Str},(names.map λ(n,k)=>if (k==NameKind.free&&env.scope.kind==.function&&env.kindOf n==some .cell) then (n,NameKind.cell) else (n,k)).lookup x=some k->
  names.lookup x=some k\/(k=.cell/\names.lookup x=some .free)
 |[],x,h=>by simp at h
 |(n,q)::r,x,h=>by
  rw[iU,nA] at h;rw[nA];have hd:∀c:Bool,(if c=true then (n,NameKind.cell) else (n,q)).1=n:=λc=>by cases c<;>rfl
  rw[hd] at h;by_cases z:x=n
  ·subst z;simp only[Aj] at h ⊢;split at h
   ·rename_i y;simp only[gA,oJ] at y;cases h;exact .inr ⟨rfl,by rw[y.1.1]⟩
   ·cases h;exact .inl rfl
  ·have z':(x==n)=false:=by simpa using z
   simp only[z'] at h ⊢;exact Oc h
theorem Ju{env:Env}:∀{names:List (Str×NameKind)} {x:Str},names.lookup x=some .free->
  (names.map λ(n,k)=>if (k==NameKind.free&&env.scope.kind==.function&&env.kindOf n==some .cell) then (n,NameKind.cell) else (n,k)).lookup x=some .cell \/
  (names.map λ(n,k)=>if (k==NameKind.free&&env.scope.kind==.function&&env.kindOf n==some .cell) then (n,NameKind.cell) else (n,k)).lookup x=some .free
 |[],x,h=>by simp at h
 |(n,q)::r,x,h=>by
  rw[nA] at h;rw[iU,nA];have hd:∀c:Bool,(if c=true then (n,NameKind.cell) else (n,q)).1=n:=λc=>by cases c<;>rfl
  rw[hd];by_cases z:x=n
  ·subst z;simp only[Aj] at h ⊢;cases h
   split
   ·exact .inl rfl
   ·exact .inr rfl
  ·have z':(x==n)=false:=by simpa using z
   simp only[z'] at h ⊢;exact Ju h
structure mK(n:Nat)(h1:Heap)(names:List (Str×NameKind))(cl jk:List (Str×Addr)):Prop where
 d1:∀x c,jk.lookup x=some c->(cl.lookup x=some c/\(x,NameKind.cell)∉names)\/((x,NameKind.cell)∈names/\n<c/\h1.IsCell c none)
 d2:∀x y c,n<c->jk.lookup x=some c->jk.lookup y=some c->x=y
 d3:∀x,names.lookup x=some .cell->∃c,jk.lookup x=some c
 d4:∀x c,(x,NameKind.cell)∉names->cl.lookup x=some c->jk.lookup x=some c
theorem cc:(NameKind.cell==NameKind.cell)=true:=by decide
theorem E_:∀(names:List (Str×NameKind)) (h:Heap) (b:Addr) (o:Obj),h.get? b=some o->(pushCells h names).get? b=some o
 |[],h,b,o,e=>e
 |(x,k)::r,h,b,o,e=>by
  rw[pushCells]
  split
  ·exact E_ r _ b o (cG _ e)
  ·exact E_ r h b o e
theorem Od:∀(names:List (Str×NameKind)) (h:Heap) (acc:List (Str×Addr)) (x:Str) (c:Addr),(cellsFrom h.objs.size names acc).lookup x=some c->
  (acc.lookup x=some c/\(x,NameKind.cell)∉names)\/((x,NameKind.cell)∈names/\h.objs.size<=c/\(pushCells h names).IsCell c none)
 |[],h,acc,x,c,e=>.inl ⟨e,by simp⟩
 |(y,k)::r,h,acc,x,c,e=>by
  rw[cellsFrom] at e;rw[pushCells];by_cases hk:k=.cell
  ·subst hk;rw[if_pos cc] at e ⊢;have sz:(h.push {cls:=Value.type "cell",data:=Data.cell none}).objs.size=h.objs.size+1:=by unfold Heap.push;simp
   rw[<-sz] at e;rcases Od r _ _ x c e with ⟨a,b⟩|⟨a,b,d⟩
   ·rw[nA] at a;by_cases z:x=y
    ·subst z;simp at a;subst a;exact .inr ⟨kh,bI _,_,E_ r _ _ _ (fj _ rfl),rfl⟩
    ·have z':(x==y)=false:=by simpa using z
     rw[z'] at a;exact .inl ⟨a,by simp[z,b]⟩
   ·exact .inr ⟨gW _ a,by lia,d⟩
  ·have hb:(k==NameKind.cell)=false:=by simpa using hk
   rw[if_neg (by rw[hb];decide)] at e ⊢;rcases Od r _ _ x c e with ⟨a,b⟩|⟨a,b,d⟩
   ·exact .inl ⟨a,by simp[b];intro _ q;exact hk q.symm⟩
   ·exact .inr ⟨gW _ a,b,d⟩
theorem Oe:∀(names:List (Str×NameKind)) (n:Nat) (acc:List (Str×Addr)) (x y:Str) (c:Addr),(∀u v,acc.lookup u=some c->acc.lookup v=some c->u=v)->(∀u a,acc.lookup u=some a->a<n\/a≠c)->(cellsFrom n names acc).lookup x=some c->(cellsFrom n names acc).lookup y=some c->x=y
 |[],n,acc,x,y,c,h,_,e1,e2=>h x y e1 e2
 |(z,k)::r,n,acc,x,y,c,h,hl,e1,e2=>by
  rw[cellsFrom] at e1 e2;by_cases hk:k=.cell
  ·subst hk;rw[if_pos cc] at e1 e2;refine Oe r (n+1) _ x y c (λu v a b=>?_) (λu a q=>?_) e1 e2
   ·rw[nA] at a b;by_cases u1:u=z
    ·by_cases v1:v=z
     ·rw[u1,v1]
     ·have v':(v==z)=false:=by simpa using v1
      subst u1;simp at a;rw[v'] at b;subst a;have b:acc.lookup v=some n:=b;rcases hl v n b with q|q
      ·exact absurd q (oH _)
      ·exact absurd rfl q
    ·have u':(u==z)=false:=by simpa using u1
     rw[u'] at a;have a:acc.lookup u=some c:=a;by_cases v1:v=z
     ·subst v1;simp at b;subst b;rcases hl u n a with q|q
      ·exact absurd q (oH _)
      ·exact absurd rfl q
     ·have v':(v==z)=false:=by simpa using v1
      rw[v'] at b;exact h u v a b
   ·rw[nA] at q;by_cases u1:u=z
    ·subst u1;simp at q;subst q;exact .inl (Ip _)
    ·have u':(u==z)=false:=by simpa using u1
     rw[u'] at q;exact(hl u a q).imp (λq=>tu q) id
  ·have hb:(k==NameKind.cell)=false:=by simpa using hk
   rw[if_neg (by rw[hb];decide)] at e1 e2;exact Oe r n acc x y c h hl e1 e2
theorem Og:∀(names:List (Str×NameKind)) (n:Nat) (acc:List (Str×Addr)) (x:Str) (c:Addr),(x,NameKind.cell)∉names->acc.lookup x=some c->(cellsFrom n names acc).lookup x=some c
 |[],n,acc,x,c,_,e=>e
 |(z,k)::r,n,acc,x,c,h,e=>by
  rw[cellsFrom];have hr:(x,NameKind.cell)∉r:=λq=>h (gW _ q);by_cases hk:k=.cell
  ·subst hk;rw[if_pos cc];refine Og r (n+1) _ x c hr ?_;have:x≠z:=λq=>h (by rw[q];exact kh);have z':(x==z)=false:=by simpa using this
   rw[nA,z'];exact e
  ·have hb:(k==NameKind.cell)=false:=by simpa using hk
   rw[if_neg (by rw[hb];decide)];exact Og r n acc x c hr e
theorem Oh:∀(names:List (Str×NameKind)) (acc:List (Str×Addr)) (s:Shared) (Q:List (Str×Addr)->Shared->Prop),
  Q (cellsFrom s.heap.objs.size names acc) {s with heap:=pushCells s.heap names}->
  wpAny M A (forIn names acc λx (cells:List (Str×Addr))=>match x with
   |(name,kind)=>if (kind==NameKind.cell)=true then do
     let a <-alloc {cls:=Value.type "cell",data:=Data.cell none}
     pure (ForInStep.yield ((name,a)::cells))
    else pure (ForInStep.yield cells)) Q E s
 |[],acc,s,Q,h=>by
  rw[IW];exact aO h
 |(z,k)::r,acc,s,Q,h=>by
  rw[Am];rw[cellsFrom,pushCells] at h;by_cases hk:k=.cell
  ·subst hk;rw[if_pos cc,if_pos cc] at h;refine aC ?_;dsimp only;rw[if_pos cc];refine aC (wpAny_alloc (aO ?_));refine Oh r _ _ Q ?_;have sz:(s.heap.push {cls:=Value.type "cell",data:=Data.cell none}).objs.size=s.heap.objs.size+1:=by unfold Heap.push;simp
   rw[sz];exact h
  ·have hb:(k==NameKind.cell)=false:=by simpa using hk
   rw[if_neg (by rw[hb];decide),if_neg (by rw[hb];decide)] at h;refine aC ?_;dsimp only;rw[if_neg (by rw[hb];decide)];exact aO (Oh r _ _ Q h)
theorem zfB(old:∀x c,cl.lookup x=some c->c<s.heap.objs.size)(inj:∀x y c,cl.lookup x=some c->cl.lookup y=some c->x=y)
  (h:∀h1 jk,h1.Ns s.heap.objs.size (λ_=>none)->(∀b o,s.heap.get? b=some o->h1.get? b=some o)->mK s.heap.objs.size h1 scope.names cl jk->Q {scope:=scope,locals:=s.heap.objs.size,globals:=globals,cells:=jk,qual:=qual,func:=none,code:=env.code,frame:=env.frame,builtins:=env.builtins} {s with heap:=h1}) :
  wpAny M A (newFunctionEnv scope globals cl [] qual none .none (some env)) Q E s:=by
 unfold newFunctionEnv;refine aC (wpAny_alloc ?_);refine aC ?_;refine Oh scope.names cl _ _ ?_;dsimp only;rw[IW];refine aC (aO (aO ?_));have sz:(s.heap.push {cls:=Value.type (if (some env).isSome=true then "dict" else "frame"),data:=Data.dict #[]}).objs.size=s.heap.objs.size+1:=by unfold Heap.push;simp
 refine h _ _ ?_ (λb o e=>E_ _ _ _ _ (cG _ e)) ⟨λx c e=>?_,λx y c hc e1 e2=>?_,λx e=>?_,λx c hx e=>Og _ _ _ x c hx e⟩
 ·refine⟨_,#[],_,E_ _ _ _ _ (fj _ rfl),rfl,?_,λ_=>rfl⟩;intro e he;simp at he
 ·rcases Od _ _ _ x c e with ⟨a,b⟩|⟨a,b,d⟩
  ·exact .inl ⟨a,b⟩
  ·rw[sz] at b;exact .inr ⟨a,by lia,d⟩
 ·exact Oe _ _ _ x y c (λu v a b=>inj u v c a b) (λu a q=>.inl (by rw[sz];exact tu (old u a q))) e1 e2
 ·have:=Ln scope.names (s.heap.push {cls:=Value.type (if (some env).isSome=true then "dict" else "frame"),data:=Data.dict #[]}).objs.size cl (.inl e);exact Lf.mp this
noncomputable def Cx.blk(X:Cx)(scope:Scope)(cl:List (Str×Addr))(N:List Str)(C:Addr)(s3:Shared)(H3:Hp)(fp:List Addr)(ao:List (Addr×Obj)):Cx where
 prog:=X.prog
 w:=X.w
 K:=X.K
 mg:=X.mg
 base:=X.base
 A:=X.A
 N:=N
 s₀:=s3
 H₀:=H3
 env:=compEnvC scope cl C X.env
 outer:=X.stack
 stack:=X.stack
 ex:=fp
 fn:=λx=>scope.names.lookup x==some .cell
 aj:=X.aj
 pn:=X.pn++ao
 xe:=λ_ _=>False
structure cY(sc scope:Scope):Prop where
 kind:scope.kind=.function
 Vn:∀y∈scope.names,y.2=.cell->scope.names.lookup y.1=some .cell
 free:∀y∈scope.names,y.2=.free->sc.names.lookup y.1=some .cell\/sc.names.lookup y.1=some .free
 loc:∀y∈scope.names,y.2=.local->scope.names.lookup y.1=some .local
section
variable {X:Cx}{ao:List (Addr×Obj)}{Z:St}{H:Hp}{s:Shared}{scope:Scope}{cl:List (Str×Addr)}{N:List Str}{fp:List Addr}{ZY:St}
theorem zjl{h1:Heap}{t:Nat}{jk:List (Str×Addr)}(I:Inv X ao Z H s)(B:cY X.env.scope scope)(c1:∀x c,cl.lookup x=some c->X.env.cells.lookup x=some c)(c2:∀x∈scope.names,x.2=.free->∃c,cl.lookup x.1=some c)
  (f:∀b∈fp,h_ X ao H b) (fo:∀b∈fp,∃o,s.heap.get? b=some o) (hn:h1.Ns s.heap.objs.size (λ_=>none)) (kp:∀b o,s.heap.get? b=some o->h1.get? b=some o) (CN:mK s.heap.objs.size h1 scope.names cl jk)
  (hl:ZY.length=N.length) (hZ:∀(i:Nat) (x:Str) (v:V),N[i]?=some x->ZY[i]?=some (some v)->scope.names.lookup x=some .free/\∃j:Nat,X.N[j]?=some x/\Z[j]?=some (some v)) :
  Inv (X.blk scope jk N s.heap.objs.size s H fp ao) [] ZY H {s with heap:=h1,toks:=t}:=by
 have lt:∀b o,s.heap.get? b=some o->b≠s.heap.objs.size:=λb o q=>dJ (bR q);have Vo:∀b,b≠X.env.locals->b∉X.fs->b∉frs X.stack:=λb a c z=>(gG.mp (I.kW b z)).elim a c;have mem_of:∀x k,scope.names.lookup x=some k->(x,k)∈scope.names:=λx k q=>Ad q;have old:∀x c,cl.lookup x=some c->c<s.heap.objs.size:=λx c q=>by
  obtain⟨v,o,q1,q2⟩:=I.cell x c (c1 x c q);exact bR q1
 have Vp:∀x,scope.names.lookup x=some .free->(x,NameKind.cell)∉scope.names:=λx q z=>by
  have:=B.Vn _ z rfl;have this:scope.names.lookup x=some .cell:=this;rw[q] at this;cases this
 refine⟨⟨I.ok.mod,B.kind,I.ok.glob,I.ok.blt,bI _,λx y c a b=>?_,λx hx=>?_,λx c z q=>?_,I.ok.hd,I.ok.frames,.inl rfl,λb hb=>?_,I.bs,jO I.ok.yj I.sz,λb o q hb=>?_,λb hb=>Vo b (f b hb).2.1 (f b hb).2.2.1,I.stack,I.kY⟩,
  rfl,I.bare,Un.kept kp,⟨_,hn,λi x v e1 e2 e3=>?_⟩,λx c q=>?_,I.hok.fresh (bI _),λx c q=>?_,λp hp=>?_,I.hok.kept kp,hl⟩
 ·by_cases hc:s.heap.objs.size<c
  ·exact CN.d2 x y c hc a b
  ·rcases CN.d1 x c a with ⟨a1,_⟩|⟨_,a1,_⟩
   ·rcases CN.d1 y c b with ⟨b1,_⟩|⟨_,b1,_⟩
    ·exact I.ok.inj x y c (c1 x c a1) (c1 y c b1)
    ·exact absurd b1 hc
   ·exact absurd a1 hc
 ·have hx:(relabel scope X.env).names.lookup x=some .cell\/(relabel scope X.env).names.lookup x=some .free:=hx;have fr:scope.names.lookup x=some .cell\/scope.names.lookup x=some .free:=by
   rcases hx with hx|hx
   ·rcases Oc hx with z|⟨_,z⟩
    ·exact .inl z
    ·exact .inr z
   ·rcases Oc hx with z|⟨z,_⟩
    ·exact .inr z
    ·cases z
  rcases fr with fr|fr
  ·exact CN.d3 x fr
  ·obtain⟨c,hc⟩:=c2 (x,.free) (mem_of x _ fr) rfl;exact⟨c,CN.d4 x c (Vp x fr) hc⟩
 ·rcases CN.d1 x c q with ⟨_,q1⟩|⟨_,q1,_⟩
  ·have z:(scope.names.lookup x==some NameKind.cell)=true:=z;exact absurd (mem_of x _ (by simpa using z)) q1
  ·exact v7 q1
 ·obtain⟨o,q⟩:=fo b hb;refine⟨lt b o q,λx c z=>?_⟩;rcases CN.d1 x c z with ⟨q1,_⟩|⟨_,q1,_⟩
  ·exact(f b hb).2.2.2.2.1 x c (c1 x c q1)
  ·exact λe=>absurd (bR q) (by rw[<-e];exact Nat.not_lt.mpr (v7 q1))
 ·obtain⟨_,_,_,z,_⟩:=f b hb;rcases z with z|z
  ·exact I.ok.yp b o q z
  ·exact absurd (gY (bR q) (jO I.ok.yj z)) (oH _)
 ·obtain⟨fr,j,hj,hv⟩:=hZ i x v e1 e2;have hk:=B.free (x,.free) (mem_of x _ fr) rfl;obtain⟨m,hm,hlk⟩:=I.loc;obtain⟨u,r,l⟩:=hlk j x v hj hv (hk.elim (λz=>.inr (.inl z)) λz=>.inr (.inr z));obtain⟨c',jJ⟩:=c2 (x,.free) (mem_of x _ fr) rfl;have jJ:cl.lookup x=some c':=jJ;refine⟨u,r,.inr ⟨Ju fr,c',CN.d4 x c' (Vp x fr) jJ,?_⟩⟩;rcases l with ⟨k1,_⟩|⟨_,c,k2,oc,k3,k4⟩
  ·have k1:X.env.scope.names.lookup x=some .local:=k1;rcases hk with hk|hk
   ·have hk:X.env.scope.names.lookup x=some .cell:=hk;rw[k1] at hk;cases hk
   ·have hk:X.env.scope.names.lookup x=some .free:=hk;rw[k1] at hk;cases hk
  ·have e:=c1 x c' jJ;rw[k2] at e;cases e;exact⟨oc,kp _ oc k3,k4⟩
 ·rcases CN.d1 x c q with ⟨q1,_⟩|⟨_,_,q1⟩
  ·obtain⟨v,o,q1,q2⟩:=I.cell x c (c1 x c q1);exact⟨v,o,kp c o q1,q2⟩
  ·exact⟨none,q1⟩
 ·rcases CN.d1 x c q with ⟨q1,_⟩|⟨_,q1,_⟩
  ·exact I.iD x c (c1 x c q1)
  ·exact I.hok.fresh (v7 q1)
 ·have hp:p∈X.pn++ao:=by
   have z:p∈(X.pn++ao)++[]:=hp;simpa using z
  obtain⟨a1,a2,a3,a4,a5⟩:=I.pin p hp;exact⟨kp _ _ a1,a2,lt _ _ a1,Vo _ a3 a4,a5⟩
theorem zdl(I:Inv X ao Z H s)(f:∀b∈fp,h_ X ao H b)(cF:Inv (X.blk scope cl N s.heap.objs.size s H fp ao) [] Z' H' s'):Inv X ao Z H' s':=
 I.call' (ch:=fp) cF.os cF.base cF.hok cF.bare λb hb=>by
  obtain⟨_,a2,_,a4,a5,a6⟩:=f b hb;exact⟨a4.imp id λz=>Cm z,a2,a5,a6⟩
theorem Vq{Z':St}{H':Hp}{s':Shared}{h2:Heap}{C:Addr}(cF:Inv X ao Z H' s')(hC:X.s₀.heap.objs.size<=C)(n1:H' C=none)(n2:C≠X.env.locals)(n3:∀x c,X.env.cells.lookup x=some c->c≠C)(n4:∀p∈X.pn++ao,p.1≠C)
  (sb:Heap.SameBut C s'.heap h2):Inv X ao Z H' {s' with heap:=h2}:=
 cF.turned (t':=s'.toks) (λb o z q=>(sb.2 b z).trans q) n1 n2 (.inr hC) n3 n4
end
noncomputable abbrev oX(ifs:List Expr)(env:Env):Sem Bool:=forIn ifs true λc r=>if r=true then do let ok <-isTrue c env (eval c env);pure (ForInStep.yield ok) else pure (ForInStep.yield r)
theorem zf8{prog:Program}{w:World}{A:Around}{R:Result->Shared->Prop}{s:Shared}{elt target iter:Expr}{ifs:List Expr}{scope:Scope}{pos:Pos}{it acc:Value}{env:Env}(V:Nat->Shared->Prop)
  (turn:∀n s,V n s->wpAny (model prog w) A (pyNext it) (λr s₁=>match r with
   |none=>R (.ok .next) s₁
   |some v=>wpAny (model prog w) A (letOwnedTupleGo target it v) (λ_ s₂=>wpAny (model prog w) A (assign target env v) (λ_ s₃=>
     wpAny (model prog w) A (oX ifs env) (λok s₄=>
      if ok=true then wpAny (model prog w) A (eval elt env) (λx s₅=>wpAny (model prog w) A (call (.builtin "list.append") [acc,x]) (λ_ s₆=>∃m,m<n/\V m s₆) (λ_ _=>False) s₅) (λ_ _=>False) s₄
      else ∃m,m<n/\V m s₄) (λ_ _=>False) s₃) (λ_ _=>False) s₂) (λ_ _=>False) s₁) (λ_ _=>False) s)
  (n:Nat) (h:V n s):codeAny (model prog w) A (.compLoop (.ListComp elt [⟨target,iter,ifs,0⟩] scope pos) 0 it acc env) R s:=by
 refine codeAny_loop rfl V (λn s hV=>?_) n h;show wpAny _ A ((compTurn (.ListComp elt [⟨target,iter,ifs,0⟩] scope pos) 0 it acc env).onRaise (λx=>do noteFrame x env;theTreesLotGoes x)) _ _ s;refine wpAny_noted ?_;rw[compTurn_list];refine aC (wpAny_standAt (aC (lO (turn n s hV) (λr s₁ h₁=>?_) λ_ _ z=>z.elim)));cases r with
 |none=>exact aO h₁
 |some v=>
  refine aC (lO h₁ (λ_ s₂ h₂=>?_) λ_ _ z=>z.elim);refine aC (lO h₂ (λ_ s₃ h₃=>aC (lO h₃ (λok s₄ h₄=>?_) λ_ _ z=>z.elim)) λ_ _ z=>z.elim);cases ok with
  |true=>
   simp only[if_true] at h₄ ⊢;exact aC (aC (lO h₄ (λx s₅ h₅=>aC (lO h₅ (λ_ s₆ h₆=>aO (aO ⟨rfl,h₆⟩)) λ_ _ z=>z.elim)) λ_ _ z=>z.elim))
  |false=>
   simp only[vX,qz] at h₄ ⊢;exact aO ⟨rfl,h₄⟩
def Jv(X:Cx)(ifs:List Expr)(t:TT):Prop:=
 ∀(ao:List (Addr×Obj)) (s:Shared) (Z:St) (H:Hp) (Q:Bool->Hp->Prop),Inv X ao Z H s->t Z H Q->wpAny (model X.prog X.w) X.A (oX ifs X.env) (TP X ao Z Q) X.xe s
noncomputable def Oi:TT:=λ_ H Q=>Q true H
theorem ziY:Jv X [] Oi:=λ_ _ _ H _ I h=>wpAny_tests_nil ⟨H,I,h⟩
theorem zjx(h:PT X c t):Jv X [c] t:=λao s Z H Q I hq=>wpAny_tests_one (h ao s Z H Q I hq)
def Fb(ZY:St->St)(g:TG)(tt:TT)(te:TE)(cF:It)(Z:St)(H:Hp)(Q:VK):Prop:=∀D,H D=none->∃W:Nat->Nat->St->Hp->Prop,(∃m,W 0 m (ZY Z) (upd H D (.lst [])))/\∀i m Z' H',W i m Z' H'->
 (cF.stop i H'/\Q (.ref D) H')\/(cF.go i H'/\∃N:St->Hp->Prop,(∀Z2 H2,N Z2 H2->∃m',m'<m/\W (i+1) m' Z2 H2)/\∀x H2,cF.yx i H' x H2->g x Z' H2 λZ3 H3=>tt Z3 H3 λok H4=>
  if ok=true then te Z3 H4 λy H5=>∃ys,H5 D=some (.lst ys)/\ys.length<sizeLine/\N Z3 (upd H5 D (.lst (ys++[y]))) else N Z3 H4)
section
variable {X:Cx}{elt tg iter:Expr}{ifs:List Expr}{scope:Scope}{pos:Pos}{N:List Str}{ZY:St->St}{wi:TI}{g:TG}{tt:TT}{te:TE}
structure Parts(X:Cx)(elt tg:Expr)(ifs:List Expr)(scope:Scope)(N:List Str)(g:TG)(tt:TT)(te:TE):Prop where
 tgt:∀cl C s3 H3 fp ao,PG (X.blk scope cl N C s3 H3 fp ao) tg g
 tst:∀cl C s3 H3 fp ao,Jv (X.blk scope cl N C s3 H3 fp ao) ifs tt
 el:∀cl C s3 H3 fp ao,PE (X.blk scope cl N C s3 H3 fp ao) elt te
theorem Vr(hc:X.aj=true)(B:cY X.env.scope scope)(P:Parts X elt tg ifs scope N g tt te)(hl:∀Z,(ZY Z).length=N.length)
  (hZ:∀(Z:St) (i:Nat) (x:Str) (v:V),N[i]?=some x->(ZY Z)[i]?=some (some v)->scope.names.lookup x=some .free/\∃j:Nat,X.N[j]?=some x/\Z[j]?=some (some v))
  {ao:List (Addr×Obj)} {s:Shared} {Z:St} {H:Hp} {Q:VK} {it:Addr} {fp:List Addr} {tn:Nat->Heap->Prop} {cF:It} (I:Inv X ao Z H s) (T:Turn X.prog X.w X.K tg cF fp it tn) (st:tn 0 s.heap) (f:∀b∈fp,h_ X ao H b) (h:Fb ZY g tt te cF Z H Q)
  {cl:List (Str×Addr)} (c1:∀x c,cl.lookup x=some c->X.env.cells.lookup x=some c) (c2:∀x∈scope.names,x.2=.free->∃c,cl.lookup x.1=some c) {R:Value->Addr->Result->Shared->Prop} {E:Value->Shared->Prop}
  (k:∀D C s' H',Inv X ao Z H' s'->X.s₀.heap.objs.size<=C->H' C=none->C≠X.env.locals->(∀x c,X.env.cells.lookup x=some c->c≠C)->(∀p∈X.pn++ao,p.1≠C)->(∃m,s'.heap.Ns C m)->Q (.ref D) H'->R (.ref D) C (.ok .next) s') :
  wpAny (model X.prog X.w) X.A (newList []) (λacc s₃=>wpAny (model X.prog X.w) X.A (newFunctionEnv scope X.env.globals cl [] X.env.qual none .none (some X.env)) (λcenv s₄=>
   codeAny (model X.prog X.w) X.A (.compStart (.ListComp elt [⟨tg,iter,ifs,0⟩] scope pos) 0 (.ref it) acc {cenv with scope:=relabel scope X.env}) (R acc cenv.locals) s₄) E s₃) E s:=by
 refine oG ?_;have hD:H s.heap.objs.size=none:=I.hok.fresh (bI _);have I3:Inv X ao Z (upd H s.heap.objs.size (.lst [])) {s with heap:=s.heap.push {cls:=.type "list",dict:=none,data:=.seq ([]:List Value).toArray}}:=
  I.laid (t':=s.toks) (λb u q=>cG _ q) (bI _) ⟨v8 _,[],0,.nil,fj _ rfl⟩
 have f3:∀b∈fp,h_ X ao (upd H s.heap.objs.size (.lst [])) b:=λb hb=>by
  obtain⟨a1,a2⟩:=f b hb;obtain⟨o,q,_⟩:=T.obj 0 _ st b hb;exact⟨by rw[dO (dJ (bR q))];exact a1,a2⟩
 have st3:tn 0 (s.heap.push {cls:=.type "list",dict:=none,data:=.seq ([]:List Value).toArray}):=T.keep _ _ _ st λb hb o q=>cG _ q;obtain⟨W,⟨m0,w0⟩,turn⟩:=h s.heap.objs.size hD;generalize Oj:({s with heap:=s.heap.push {cls:=.type "list",dict:=none,data:=.seq ([]:List Value).toArray}}:Shared)=s3 at *;have yP:tn 0 s3.heap:=by rw[<-Oj];exact st3
 generalize hH3:upd H s.heap.objs.size (.lst [])=H3 at *;refine zfB (λx c q=>by obtain⟨v,o,q1,_⟩:=I3.cell x c (c1 x c q);exact bR q1) (λx y c a b=>I3.ok.inj x y c (c1 x c a) (c1 y c b)) λh1 jk hn kp CN=>?_;have Ol:Inv (X.blk scope jk N s3.heap.objs.size s3 H3 fp ao) [] (ZY Z) H3 {s3 with heap:=h1}:=
  zjl (t:=s3.toks) I3 B c1 c2 f3 (λb hb=>let ⟨o,q,_⟩:=T.obj 0 _ yP b hb;⟨o,q⟩) hn kp CN (hl Z) (hZ Z)
 have Vt:tn 0 h1:=T.keep _ _ _ yP λb hb o q=>kp b o q;have fY:∀{H':Hp},(∀b∈fp,H' b=none)->∀b∈fp,h_ (X.blk scope jk N s3.heap.objs.size s3 H3 fp ao) [] H' b:=λ{H'} z b hb=>by
  obtain⟨a1,a2,a3,a4,a5,a6⟩:=f3 b hb;obtain⟨o,q,_⟩:=T.obj 0 _ yP b hb;refine⟨z b hb,dJ (bR q),λy=>(gG.mp (I3.kW b y)).elim a2 a3,.inl hb,λx c y=>?_,λp hp=>a6 p ?_⟩
  ·rcases CN.d1 x c y with ⟨q1,_⟩|⟨_,q1,_⟩
   ·exact a5 x c (c1 x c q1)
   ·exact λe=>absurd (bR q) (by rw[<-e];exact Nat.not_lt.mpr (v7 q1))
  have y:p∈(X.pn++ao)++[]:=hp;simpa using y
 have loop:codeAny (model X.prog X.w) X.A (.compLoop (.ListComp elt [⟨tg,iter,ifs,0⟩] scope pos) 0 (.ref it) (.ref s.heap.objs.size) (compEnvC scope jk s3.heap.objs.size X.env)) (R (.ref s.heap.objs.size) s3.heap.objs.size) {s3 with heap:=h1}:=by
  refine zf8 (λn s'=>∃i Z' H',Inv (X.blk scope jk N s3.heap.objs.size s3 H3 fp ao) [] Z' H' s'/\tn i s'.heap/\(∀b∈fp,H' b=none)/\W i n Z' H') ?_ m0 ⟨0,ZY Z,H3,Ol,Vt,λb hb=>(f3 b hb).1,w0⟩;rintro n s5 ⟨i,Z5,H5,uW,Bc,Jk,w5⟩;rcases turn i n Z5 H5 w5 with ⟨stop,q⟩|⟨go,Nx,hN,step⟩
  ·refine aZ (T.done (X.blk scope jk N s3.heap.objs.size s3 H3 fp ao) rfl rfl rfl hc i [] s5 Z5 H5 _ uW (fY Jk) Bc stop) λr s6 ⟨hr,yQ⟩=>?_;subst hr;have JX:=zdl I3 f3 yQ;refine k s.heap.objs.size s3.heap.objs.size s6 H5 JX I3.sz yQ.free (uD I3.lt) (λx c y z=>?_) (λp hp z=>?_) ?_ q
   ·obtain⟨v,qc⟩:=I3.cell x c y;exact absurd qc.lt (by rw[z];exact oH _)
   ·exact absurd (bR (I3.pin p hp).1) (by rw[z];exact oH _)
   ·obtain⟨m,hm,_⟩:=yQ.loc;exact⟨m,hm⟩
  ·refine aZ (T.item (X.blk scope jk N s3.heap.objs.size s3 H3 fp ao) rfl rfl rfl hc i [] s5 Z5 H5 _ uW (fY Jk) Bc go) λr s6 hx=>uF hx λu hr h6=>?_;subst hr;refine aZ h6 λ_ s7 ⟨x,H7,Om,r7,y7,Oo,fr7⟩=>?_;have Fd:=Om.pinned (fY fr7) (T.obj _ _ Oo);refine aZ (P.tgt jk s3.heap.objs.size s3 H3 fp ao _ s7 Z5 H7 x u _ Fd r7 (step x H7 y7)) λ_ s8 ⟨Z8,H8,Oq,q8⟩=>?_;refine aZ (P.tst jk s3.heap.objs.size s3 H3 fp ao _ s8 Z8 H8 _ Oq q8) λok s9 hx=>uF hx λH9 Fe q9=>?_;have again:∀{H':Hp} {s':Shared},Inv (X.blk scope jk N s3.heap.objs.size s3 H3 fp ao) ([]++jr fp s7.heap) Z8 H' s'->Nx Z8 H'->∃m,m<n/\∃i Z' H',Inv (X.blk scope jk N s3.heap.objs.size s3 H3 fp ao) [] Z' H' s'/\tn i s'.heap/\(∀b∈fp,H' b=none)/\W i m Z' H':=λ{H' s'} nQ n'=>by
    obtain⟨m',hm,w'⟩:=hN Z8 H' n';refine⟨m',hm,i+1,Z8,H',nQ.gJ,T.keep _ _ _ Oo λb hb o e=>(nQ.pin (b,o) (sY _ (sY _ (Jj hb e)))).1,λb hb=>?_,w'⟩;obtain⟨o,e,d⟩:=T.obj _ _ Oo b hb;exact(nQ.pin (b,o) (sY _ (sY _ (Jj hb e)))).2.1
   cases ok with
   |false=>
    rw[if_neg (by decide)] at q9 ⊢;exact again Fe q9
   |true=>
    rw[if_pos rfl] at q9 ⊢;refine aZ (P.el jk s3.heap.objs.size s3 H3 fp ao _ s9 Z8 H9 _ Fe q9) λv s10 ⟨y,H10,Fg,r10,ys,Ot,hz,q10⟩=>?_;refine aZ (Ve (X:=(X.blk scope jk N s3.heap.objs.size s3 H3 fp ao)) _ s10 Z8 H10 (.ref s.heap.objs.size) [y] (.ref s.heap.objs.size) [v] (λ_ H'=>Nx Z8 H') Fg rfl (.cons r10 .nil) ⟨s.heap.objs.size,ys,y,rfl,rfl,Ot,hz,q10⟩) λ_ s11 hx=>dY hx λ_ H11 Fj _ q11=>again Fj q11
 exact codeAny_compStart_list loop (T.self _ 0 _ _ _ Vt loop)
end
noncomputable def rm(wi:TI)(ZY:St->St)(g:TG)(tt:TT)(te:TE):TE:=λZ H Q=>wi Z H λcF H1=>Fb ZY g tt te cF Z H1 Q
section
variable {X:Cx}{elt tg iter:Expr}{ifs:List Expr}{scope:Scope}{pos spos py:Pos}{N:List Str}{ZY:St->St}{wi:TI}{g:TG}{tt:TT}{te:TE}{i:Nat}{y:Str}
theorem Vu(I:Inv X ao Z H s)(B:cY X.env.scope scope):∃cl,closureFor scope X.env=pure cl/\(∀x c,cl.lookup x=some c->X.env.cells.lookup x=some c)/\∀x∈scope.names,x.2=.free->∃c,cl.lookup x.1=some c:=
 zeV λx hx hf=>I.ok.has x.1 (B.free x hx hf)
theorem zix(hc:X.aj=true)(B:cY X.env.scope scope)(hi:PI X tg iter wi)(P:Parts X elt tg ifs scope N g tt te)(hl:∀Z,(ZY Z).length=N.length)
  (hZ:∀(Z:St) (i:Nat) (x:Str) (v:V),N[i]?=some x->(ZY Z)[i]?=some (some v)->scope.names.lookup x=some .free/\∃j:Nat,X.N[j]?=some x/\Z[j]?=some (some v))
  (hs:∀x,foldedSetIterable iter X.env x=pure x:=by intro _;rfl):PE X (.ListComp elt [⟨tg,iter,ifs,0⟩] scope pos) (rm wi ZY g tt te):=by
 intro ao s Z H Q I h;obtain⟨cl,Bg,c1,c2⟩:=Vu I B;rw[eval_ListComp];refine wpAny_comprehension_free (use:=none) rfl hs Bg B.kind B.loc (aZ (hi ao s Z H _ I h) λxv s1 h1=>aZ h1 λitv s2 h2=>?_);obtain⟨it,fp,tn,cF,H2,e,I2,T,st2,f2,hq⟩:=h2;subst e;exact Vr hc B P hl hZ I2 T st2 f2 hq c1 c2 (R:=λacc C=>compPost (model X.prog X.w) X.A X.xe none (EP X ao Z Q) acc C) λD C s' H' nQ a b c d e ⟨m,hm⟩ q=>⟨m,hm,λh' sb=>⟨.ref D,H',Vq (Z':=Z) nQ a b c d e sb,rfl,q⟩⟩
theorem zeX(hc:X.aj=true)(hN:X.N.Nodup)(wC:X.N[i]?=some y)(hx:Loc X.env.scope y)(hf:X.fn y=true\/X.env.scope.names.lookup y=some .local)(B:cY X.env.scope scope)(hi:PI X tg iter wi)(P:Parts X elt tg ifs scope N g tt te)(hl:∀Z,(ZY Z).length=N.length)
  (hZ:∀(Z:St) (i:Nat) (x:Str) (v:V),N[i]?=some x->(ZY Z)[i]?=some (some v)->scope.names.lookup x=some .free/\∃j:Nat,X.N[j]?=some x/\Z[j]?=some (some v))
  (Fl:swapsWith (.ListComp elt [⟨tg,iter,ifs,0⟩] scope pos) (some (.Name y py)) spos.line X.env=pure true) (hs:∀x,foldedSetIterable iter X.env x=pure x:=by intro _;rfl) :
  PS X (.Assign [.Name y py] (.ListComp elt [⟨tg,iter,ifs,0⟩] scope pos) spos) (yw (rm wi ZY g tt te) (dD i)):=by
 intro ao s Z H D I h;obtain⟨cl,Bg,c1,c2⟩:=Vu I B;rw[exec_Assign_Name_used _ _ _ _ Fl];refine aC (wpAny_standAt (aC ?_));show wpAny _ X.A (do let _ <-comprehension (.ListComp elt [⟨tg,iter,ifs,0⟩] scope pos) scope X.env _ (newList []) false (eval iter X.env) (some (assign (.Name y py) X.env))) _ _ s;refine aC (wpAny_comprehension_free (use:=some (assign (.Name y py) X.env)) rfl hs Bg B.kind B.loc (aZ (hi ao s Z H _ I h) λxv s1 h1=>aZ h1 λitv s2 h2=>?_));obtain⟨it,fp,tn,cF,H2,e,I2,T,st2,f2,hq⟩:=h2;subst e;refine Vr hc B P hl hZ I2 T st2 f2 hq c1 c2 (R:=λacc C=>compPost (model X.prog X.w) X.A X.xe (some (assign (.Name y py) X.env)) _ acc C) λD' C s' H' nQ a b c d e ⟨m,hm⟩ q=>?_;show wpAny _ _ (assign (.Name y py) X.env (.ref D')) _ _ s';refine wpAny_assign_Name (Ua (v:=.ref D') nQ hN wC hx rfl (λs5 uW ⟨ad,sb,had⟩=>?_) hf);have nC:C≠ad:=by
  rcases had with z|z
  ·rw[z];exact c
  ·exact(d y ad z).symm
 obtain⟨ol,es,ep,e1,r1⟩:=hm;refine⟨m,⟨ol,es,ep,(sb.2 C nC).trans e1,r1⟩,λh' sb'=>aO (aO ⟨_,H',Vq (Z':=Z) uW a b c d e sb',q⟩)⟩
end
section
variable {X:Cx}{elt tg iter tg₂ iter₂:Expr}{ifs₂:List Expr}{scope:Scope}{pos spos py:Pos}{N:List Str}{ZY:St->St}{wi wi₂:TI}{g g₁:TG}{tt:TT}{te:TE}{i:Nat}{y:Str}
end
end L2
namespace L2
open PySem PySem.Spec PyProof.Rows PySem.W
noncomputable def bF{α:Type}(lt:Nat->Nat->Option Bool):KasT α->Option α
 |.ret a=>some a
 |.ask i j k=>match lt i j with
  |some b=>bF lt (k b)
  |none=>none
theorem Vv{α:Type}{lt:Nat->Nat->Option Bool}{cmp:Nat->Nat->(Bool->Shared->Prop)->Shared->Prop}{Q:α->Shared->Prop}{s:Shared}(hc:∀i j b C,lt i j=some b->C b s->cmp i j C s){a:α}(q:Q a s):∀{t:KasT α},bF lt t=some a->t.kasWp cmp Q s
 |.ret a',h=>by
  unfold bF at h;cases h;exact q
 |.ask i j k,h=>by
  unfold bF at h;cases e:lt i j with
  |none=>rw[e] at h;cases h
  |some b=>
   rw[e] at h;exact hc i j b _ e (Vv hc q h)
noncomputable def iW(vs:List Value)(p:Array Nat):Array Value:=if vs.length<2 then vs.toArray else List.toArray (p.toList.map λi=>vs.getD i Value.none)
section
variable {prog:Program}{w:World}{A:Around}{E:Value->Shared->Prop}{s:Shared}{κ:SortKind}{lt:Nat->Nat->Option Bool}{p:Array Nat}
theorem zcI{a:Addr}{vs:List Value}{n:Nat}{P:PySem.Fin->Shared->Prop}(ho:s.heap.get? a=some (seqObj "list" vs.toArray n))(rz:vs.length<64)
  (hk:2<=vs.length->∀(s':Shared) (Q:SortKind->Shared->Prop),(∀b o,b≠a->s.heap.get? b=some o->s'.heap.get? b=some o)->Q κ s'->wpAny (model prog w) A (keyKind' vs.toArray) Q E s')
  (dh:2<=vs.length->∀(s':Shared) i j b C,(∀b o,b≠a->s.heap.get? b=some o->s'.heap.get? b=some o)->lt i j=some b->C b s'->kas_ask prog w A κ vs i j C s') (hr:2<=vs.length->bF lt (kas_sort vs.length)=some p) (Ou:2<=vs.length->p.size=vs.length)
  (h:P (.done (.ret .none)) {s with heap:=sortedHeap s.heap a vs (iW vs p)}) :
  wpAny (model prog w) A (Builtin.«list.sort» ⟨[.ref a],[]⟩) P E s:=by
 rw[list_sort_plain];have ha:a<s.heap.objs.size:=bR ho;refine aC (listItems_at ho rfl ?_);refine aC (listUpdate_at ho rfl ?_ (by rw[eG,tH];lia) (v8 _));obtain⟨e1,Jw⟩ : ∃e1,(s.heap.update a (Obj.mapSeq λ_=>#[])).get? a=some (seqObj "list" #[] e1):=⟨_,get?_update_seq ho (λ_=>#[])⟩;refine aC (seqEpoch_at Jw rfl ?_);refine aC (wpAny_newTuple ?_ (by show vs.length<=_;rw[tH];lia));refine aC (wpAny_newList ?_ (v8 _));refine pO ?_;have keep:∀b o,b≠a->s.heap.get? b=some o->(((s.heap.update a (Obj.mapSeq λ_=>(#[]:Array Value))).push (seqObj "tuple" vs.toArray 0)).push (seqObj "list" #[] 0)).get? b=some o:=λb o nb e=>
  cG _ (cG _ ((Heap.get?_update_ne _ _ _ _ nb).trans e))
 have Jx:(((s.heap.update a (Obj.mapSeq λ_=>(#[]:Array Value))).push (seqObj "tuple" vs.toArray 0)).push (seqObj "list" #[] 0)).get? a=some (seqObj "list" #[] e1):=by
  rw[Ij _ _ _ (by rw[size_push',Heap.size_update];exact dJ (tu ha)),Ij _ _ _ (by rw[Heap.size_update];exact dJ ha)];exact Jw
 show wpAny (model prog w) A _ P E {s with heap:=((s.heap.update a (Obj.mapSeq λ_=>#[])).push (seqObj "tuple" vs.toArray 0)).push (seqObj "list" #[] 0)};dsimp only;have hsz:vs.toArray.size=vs.length:=by simp
 by_cases h2:vs.toArray.size<2
 ·rw[if_pos h2,if_pos h2];refine aC (aO ?_);rw[StateT.run_pure];refine aC (aO ?_);dsimp only;refine aC (seqEpoch_at Jx rfl ?_);refine aC (listUpdate_at Jx rfl ?_ (v8 _) (by rw[Array.size_map];show (pairsOf vs).size<=_;rw[pairsOf_size,tH];lia));simp only[bne_self_eq_false,vX,qz];have e:((vs.toArray.zip vs.toArray).map (·.2))=iW vs p:=by
   unfold iW;rw[if_pos (by rw[hsz] at h2;exact h2)];apply Array.toList_inj.mp;simp[List.map_snd_zip]
  refine aO ?_;have h':=h;rw[<-e] at h';exact h'
 ·rw[if_neg h2,if_neg h2];have mL:2<=vs.length:=by lia
  refine aC (hk mL _ _ keep ?_);refine aC (lO (kat_run (κ:=κ) (ks:=vs) (vs:=vs) (G:=λp' s'=>p'=p/\s'={s with heap:=((s.heap.update a (Obj.mapSeq λ_=>#[])).push (seqObj "tuple" vs.toArray 0)).push (seqObj "list" #[] 0)})
   (Q:=λst' s'=>arrOf st'=p.map (kas_item (vs.toArray.zip vs.toArray))/\failedOf st'=none/\s'={s with heap:=((s.heap.update a (Obj.mapSeq λ_=>#[])).push (seqObj "tuple" vs.toArray 0)).push (seqObj "list" #[] 0)})
   rfl mL rz (λp' st' s' a1 a2 a3 a4=>⟨by rw[a2,a4.1],a3,a4.2⟩) (Vv (λi j b C hl hC=>dh mL _ i j b C keep hl hC) ⟨rfl,rfl⟩ (hr mL))) ?_ λ_ _ e=>e)
  rintro⟨⟨⟩,st'⟩ s' ⟨Jy,hf,rfl⟩;dsimp only;have hout:=kat_snds (ks:=vs) (vs:=vs) rfl Jy;have e:List.toArray (p.toList.map λi=>vs.getD i Value.none)=iW vs p:=by
   unfold iW;rw[if_neg (by lia)]
  rw[hout,e];have hso:(iW vs p).size=vs.length:=by rw[<-e,eG,bV,uq,Ou mL]
  refine aC (seqEpoch_at Jx rfl ?_);refine aC (listUpdate_at Jx rfl ?_ (v8 _) (by rw[hso,tH];lia));rw[hf];simp only[bne_self_eq_false,vX,qz];exact aO h
theorem Ov(hl:s.heap.IsList l vs.toArray)(rz:vs.length<64)
  (hk:2<=vs.length->∀(s':Shared) (Q:SortKind->Shared->Prop) E,(∀b o,s.heap.get? b=some o->s'.heap.get? b=some o)->Q κ s'->wpAny (model prog w) A.in1.in1 (keyKind' vs.toArray) Q E s')
  (dh:2<=vs.length->∀(s':Shared) i j b C,(∀b o,s.heap.get? b=some o->s'.heap.get? b=some o)->lt i j=some b->C b s'->kas_ask prog w A.in1.in1 κ vs i j C s') (hr:2<=vs.length->bF lt (kas_sort vs.length)=some p) (Ou:2<=vs.length->p.size=vs.length)
  (h:Q (.ref (s.heap.objs.size+1)) {s with heap:=sortedAll s.heap vs (iW vs p)}) :
  wpAny (model prog w) A (call (.builtin "sorted") [.ref l]) Q E s:=by
 refine Calls.call_function_entry kind_sorted plain_sorted entry_sorted (args_sorted1 _) ?_;unfold Builtin.«sorted»;refine aC (m:=checkCount "sorted" 1 1 _) (aO ?_);refine aC (collect_list hl ?_ (by rw[tH];lia));refine aC (wpAny_newList ?_ (by rw[tH];lia));have hsz:((s.heap.push (seqObj "list" #[] 0)).update s.heap.objs.size (Obj.mapSeq (·++vs.toArray))).objs.size=s.heap.objs.size+1:=by
  rw[Heap.size_update,size_push']
 have Je:(((s.heap.push (seqObj "list" #[] 0)).update s.heap.objs.size (Obj.mapSeq (·++vs.toArray))).push (seqObj "list" vs.toArray 0)).get? (s.heap.objs.size+1)=some (seqObj "list" vs.toArray 0):=by
  rw[<-hsz];exact fj _ rfl
 have keep:∀b o,s.heap.get? b=some o->(((s.heap.push (seqObj "list" #[] 0)).update s.heap.objs.size (Obj.mapSeq (·++vs.toArray))).push (seqObj "list" vs.toArray 0)).get? b=some o:=λb o q=>by
  have dh:b<s.heap.objs.size:=bR q;rw[Ij _ _ _ (by rw[hsz];exact dJ (tu dh)),Heap.get?_update_ne _ _ _ _ (dJ dh),Ij _ _ _ (dJ dh)];exact q
 show wpAny _ _ _ _ _ {s with heap:=((s.heap.push (seqObj "list" #[] 0)).update s.heap.objs.size (Obj.mapSeq (·++vs.toArray))).push (seqObj "list" vs.toArray 0)};rw[hsz];have nn:∀b o,s.heap.get? b=some o->b≠s.heap.objs.size+1:=λb o e=>dJ (tu (bR e));refine aC (pO (uw slot_list_sort ⟨_,Je,rfl⟩ entry_list_sort (zcI (κ:=κ) (lt:=lt) (p:=p) Je rz (λh2 s' Q' k q=>hk h2 s' Q' _ (λb o e=>k b o (nn b o e) (keep b o e)) q) (λh2 s' i j b C k e q=>dh h2 s' i j b C (λb o e=>k b o (nn b o e) (keep b o e)) e q) hr Ou ⟨_,rfl,?_⟩) (args_list_sort _)));exact aO ⟨_,rfl,h⟩
end
noncomputable def jK:List V->List V->Option Bool
 |[],ys=>some (decide (0<ys.length))
 |_::_,[]=>some false
 |.int x::xs,.int y::ys=>if x=y then jK xs ys else some (decide (x<y))
 |_::_,_::_=>none
theorem zla{prog:Program}{w:World}{A:Around}{s:Shared}{fin:Bool}{C:Bool->Shared->Prop}{b:Bool}:∀{us ws:List V} {its jts:List Value} {i:Nat},Vals us its->Vals ws jts->jK us ws=some b->fin=decide (us.length<ws.length)->C b s->KatLex prog w A true fin C (its.zip jts) i s:=by
 intro us ws its jts i r1
 induction r1 generalizing ws jts i with
 |nil=>
  intro _ h hf hc;rw[List.zip_nil_left];unfold jK at h;cases h;rw[hf];exact kat_nil hc
 |@cons x u us its rx ri ih=>
  intro r2 h hf hc;cases r2 with
  |nil=>
   rw[List.zip_nil_right];unfold jK at h;cases h;rw[hf];exact kat_nil (by simpa using hc)
  |@cons y v ws jts ry rj=>
   rw[Cr];cases x with
   |int a=>
    cases y with
    |int c=>
     obtain⟨t,rfl⟩:=rx;obtain⟨t',rfl⟩:=ry;unfold jK at h;refine kat_cons (wpAny_eqBool_int ?_);by_cases e:a=c
     ·rw[if_pos e] at h;subst e;rw[Aj];exact kat_yes (ih rj h (by rw[hf];simp) hc)
     ·rw[if_neg e] at h;cases h;rw[show (a==c)=false by simpa using e];refine kat_no ?_;by_cases hi:i=0
      ·subst hi;exact oneLt_int hc
      ·rw[show (true&&i==0)=false by simpa using hi];exact kat_one _ _ (wpAny_lt_int hc)
    |_=>cases h
   |_=>cases y<;>cases h
def rA(K:W.Frag)(H:Hp)(ys:List V)(lt:Nat->Nat->Option Bool):Prop:=
 ((∀v∈ys,∃i,v=V.int i)/\∀i j b,lt i j=some b->∃x y,ys[i]?=some (.int x)/\ys[j]?=some (.int y)/\b=decide (x<y)) \/
 ((∀v∈ys,∃a i r,v=.ref a/\fu K H a (.int i::r))/\∀i j b,lt i j=some b->∃a c us ws,ys[i]?=some (.ref a)/\ys[j]?=some (.ref c)/\fu K H a us/\fu K H c ws/\jK us ws=some b)
noncomputable def jL(ys:List V)(p:Array Nat):List V:=if ys.length<2 then ys else p.toList.map λi=>ys.getD i .non
theorem Vw(r:Vals ys its):∀l:List Nat,Vals (l.map λi=>ys.getD i .non) (l.map λi=>its.getD i Value.none)
 |[]=>.nil
 |i::l=>by
  refine .cons ?_ (Vw r l);cases e:ys[i]? with
  |some y=>
   obtain⟨u,e1,e2⟩:=r.get e;show RelV (ys.getD i .non) (its.getD i Value.none);rw[jh,jh,e,e1];exact e2
  |none=>
   have e1:its[i]?=none:=by rw[oF] at e ⊢;rw[<-r.length];exact e
   show RelV (ys.getD i .non) (its.getD i Value.none);rw[jh,jh,e,e1];rfl
theorem zhp{ys:List V}{its:List Value}(r:Vals ys its)(p:Array Nat):Vals (jL ys p) (iW its p).toList:=by
 unfold jL iW;rw[r.length];by_cases h:its.length<2
 ·rw[if_pos h,if_pos h];exact r
 ·rw[if_neg h,if_neg h];exact Vw r p.toList
theorem zhd{ys:List V}{its:List Value}(r:Vals ys its):∀u∈its,∃v∈ys,RelV v u:=by
 induction r with
 |nil=>intro u hu;cases hu
 |cons h t ih=>
  intro u hu;rcases gG.mp hu with rfl|hu
  ·exact⟨_,kh,h⟩
  ·obtain⟨v,a,b⟩:=ih u hu;exact⟨v,gW _ a,b⟩
section
variable {X:Cx}
theorem zfY{prog:Program}{w:World}{A:Around}{E:Value->Shared->Prop}{s:Shared}{its:List Value}{Q:SortKind->Shared->Prop}(h2:2<=its.length)(hi:∀u∈its,∃i t,u=Value.int i t)(q:Q oneType' s):wpAny (model prog w) A (keyKind' its.toArray) Q E s:=
 kas_kind (T:=.type "int") h2 (λv hv=>by obtain⟨i,t,rfl⟩:=hi v hv;exact .of_pure rfl) (by decide) (by decide) q
theorem zig{K:W.Frag}{ao:List (Addr×Obj)}{s:Shared}{Z:St}{H:Hp}(I:Inv X ao Z H s){h':Heap}(k:∀b o,s.heap.get? b=some o->h'.get? b=some o):∀{ys:List V} {its:List Value},Vals ys its->(∀v∈ys,∃a i r,v=.ref a/\fu X.K H a (.int i::r))->∃fs:List Value,fs.length=its.length/\(∀f∈fs,∃i t,f=Value.int i t)/\KatTups h' its fs:=by
 intro ys its r0
 induction r0 with
 |nil=>exact λ_=>⟨[],rfl,(λf hf=>by cases hf),trivial⟩
 |@cons v u ys its r rs ih=>
  intro h;obtain⟨a,i,r',rfl,hq⟩:=h _ kh;obtain⟨fs,l,hf,kt⟩:=ih λv hv=>h v (gW _ hv);obtain⟨its',rv,⟨o,ho,hc,n,hd⟩,_⟩:=I.tuple hq;cases (show u=Value.ref a from r);cases rv with
  |cons ri rr=>
   obtain⟨t,rfl⟩:=ri;refine⟨Value.int i t::fs,by simp[l],λf hf'=>?_,KatTups.cons (k _ _ ho) hc hd (by simp) kt⟩;rcases gG.mp hf' with rfl|z
   ·exact⟨i,t,rfl⟩
   ·exact hf f z
theorem zgc{prog:Program}{w:World}{A:Around}{E:Value->Shared->Prop}{s:Shared}{its fs:List Value}{Q:SortKind->Shared->Prop}(h2:2<=its.length)(hl:fs.length=its.length)(hi:∀u∈fs,∃i t,u=Value.int i t)(kt:KatTups s.heap its fs)(q:Q (tuples' true) s):wpAny (model prog w) A (keyKind' its.toArray) Q E s:=
 kat_kind (T:=.type "int") kt (by lia) (λv hv=>by obtain⟨i,t,rfl⟩:=hi v hv;exact .of_pure rfl) (by decide) q
theorem Jz{its:List Value}{i:Nat}{u:Value}(h:its[i]?=some u):its.getD i Value.none=u:=by rw[jh,h];rfl
theorem zdD:cJ X (.builtin "sorted") (λxs H Q=>∃l ys lt p,xs=[.ref l]/\cM X.K H l ys/\ys.length<64/\(2<=ys.length->rA X.K H ys lt/\bF lt (kas_sort ys.length)=some p/\p.size=ys.length)/\∀r,H r=none->Q (.ref r) (upd H r (.lst (jL ys p)))):=by
 intro ao s Z H xs us Q I r h;obtain⟨l,ys,lt,p,rfl,hq,rz,hs,q⟩:=h;obtain⟨u,rfl,rx⟩:=vals1 r;cases rx;obtain⟨its,rv,pl,hz⟩:=I.list hq;have hlen:=rv.length;have fin:EP X ao Z Q (.ref (s.heap.objs.size+1)) {s with heap:=sortedAll s.heap its (iW its p)}:=by
  obtain⟨e,he⟩:=sortedAll_at s.heap its (iW its p);have hn:H (s.heap.objs.size+1)=none:=I.hok.fresh (Nat.le_succ _);refine⟨.ref (s.heap.objs.size+1),_,I.laid (t':=s.toks) (λb u q=>sortedAll_old q) (Nat.le_succ _) (show bG X.prog X.w _ _ _ (.lst (jL ys p)) from ⟨?_,(iW its p).toList,e,zhp rv p,by rw[Array.toArray_toList];exact he⟩),rfl,q _ hn⟩;unfold jL;by_cases h2:ys.length<2
  ·rw[if_pos h2];exact hz
  ·rw[if_neg h2,bV,uq,(hs (by lia)).2.2];exact hz
 by_cases h2:2<=ys.length
 ·obtain⟨hS,hr,hp⟩:=hs h2;rcases hS with ⟨hI,dh⟩|⟨hT,dh⟩
  ·refine Ov (κ:=oneType') (lt:=lt) (p:=p) pl.isList (by lia) (λmL s' Q' E' k q'=>zfY mL (λu hu=>?_) q') (λ_ s' i j b C k e hC=>?_) (λ_=>by rw[<-hlen];exact hr) (λ_=>by lia) fin
   ·obtain⟨v,hv,rr⟩:=zhd rv u hu;obtain⟨i,rfl⟩:=hI v hv;obtain⟨t,rfl⟩:=rr;exact⟨i,t,rfl⟩
   ·obtain⟨x,y,e1,e2,rfl⟩:=dh i j b e;obtain⟨u1,f1,g1⟩:=rv.get e1;obtain⟨u2,f2,g2⟩:=rv.get e2;obtain⟨t1,rfl⟩:=g1;obtain⟨t2,rfl⟩:=g2;show wpAny _ _ (keyLt' oneType' (its.getD i Value.none) (its.getD j Value.none)) C _ s';rw[Jz f1,Jz f2];exact kat_lt_int hC
  ·refine Ov (κ:=tuples' true) (lt:=lt) (p:=p) pl.isList (by lia) (λmL s' Q' E' k q'=>?_) (λ_ s' i j b C k e hC=>?_) (λ_=>by rw[<-hlen];exact hr) (λ_=>by lia) fin
   ·obtain⟨fs,l1,hf,kt⟩:=zig (K:=X.K) I k rv hT;exact zgc mL l1 hf kt q'
   ·obtain⟨a,c,us,ws,e1,e2,q1,q2,e3⟩:=dh i j b e;obtain⟨u1,f1,g1⟩:=rv.get e1;obtain⟨u2,f2,g2⟩:=rv.get e2;cases (show u1=Value.ref a from g1);cases (show u2=Value.ref c from g2);obtain⟨i1,r1,⟨o1,Jw,hc1,n1,hd1⟩,_⟩:=I.tuple q1;obtain⟨i2,r2,⟨o2,nM,oR,n2,hd2⟩,_⟩:=I.tuple q2;show wpAny _ _ (keyLt' (tuples' true) (its.getD i Value.none) (its.getD j Value.none)) C _ s';rw[Jz f1,Jz f2];refine kat_lt (k _ _ Jw) hd1 (k _ _ nM) hd2 (zla r1 r2 e3 ?_ hC);rw[r1.length,r2.length];simp
 ·exact Ov (κ:=oneType') (lt:=lt) (p:=p) pl.isList (by lia) (λmL=>absurd mL (by lia)) (λmL=>absurd mL (by lia)) (λmL=>absurd mL (by lia)) (λmL=>absurd mL (by lia)) fin
end
end L2
namespace L2
open PySem PySem.Spec PyProof.Rows PySem.W PySem.Calls PySem.Builtin PySem.Builtin.ObjectAttr
section
variable {prog:Program}{w:World}{A:Around}{R:Result->Shared->Prop}{E:Value->Shared->Prop}{s:Shared}{K:W.Frag}{x C:Addr}{ox:Obj}{cd:ClassData}{name:Str}{v:Value}{mA:Str->Option Value}{ns:List Str}
end
end L2
namespace L2
open PySem PySem.Spec PyProof.Rows PySem.W PySem.Calls
section
variable {prog:Program}{w:World}{K:W.Frag}{C e:Addr}{cd:ClassData}{env:Env}{m:Str->Option Value}{A:Around}{E:Value->Shared->Prop}{sf:Str}
end
end L2
namespace PySem
open Sem (wp)
section
variable {prog:Program}{w:World}{A:Around}{E:Value->Shared->Prop}{h:Heap}{g:Array GenState}{d:Drawn}{t:Nat}{os:OsState}
variable {nm q:Str}{C N:Addr}{bs bm bmB:List Value}{Ox:Bool}{sn:List Str}{aq:List Value}{ab:Bool}{col:Option Bool}{dd:Option Addr}{k0 k1 k2 k3 k5:Option Value}{B Bn newId nid initId inN:String}{bmN:List Value}
end
section
variable {prog:Program}{w:World}{A:Around}{E:Value->Shared->Prop}{s:Shared}{env:Env}
variable {nm q:Str}{C N:Addr}{bs bm bmB:List Value}{Ox:Bool}{sn:List Str}{aq:List Value}{ab:Bool}{col:Option Bool}{dd:Option Addr}{k0 k1 k2 k3 k5:Option Value}{B Bn newId nid initId inN:String}{bmN:List Value}
end
end PySem
namespace L2
open PySem PySem.Spec PyProof.Rows PySem.W PySem.Calls
theorem Vx{α:Type}:∀{l:List (Str×α)} {f:Str} {u:α},(l.map (·.1)).Nodup->(f,u)∈l->l.lookup f=some u
 |(g,v)::r,f,u,hn,hm=>by
  rw[iU,uy] at hn;rw[nA];rcases gG.mp hm with e|hm
  ·cases e;simp
  ·have:f≠g:=λz=>hn.1 (by rw[<-z];exact qy.mpr ⟨(f,u),hm,rfl⟩);rw[show (f==g)=false by simpa using this];exact Vx hn.2 hm
theorem zih{α:Type}{fs:List Str}{us:List α}{i:Nat}{f:Str}{u:α}(h1:fs[i]?=some f)(h2:us[i]?=some u):(f,u)∈fs.zip us:=by
 refine eZ (i:=i) ?_;exact(List.getElem?_zip_eq_some (z:=(f,u))).mpr ⟨h1,h2⟩
section
variable {X:Cx}{EX:XS}{C:Addr}{ar:Arguments}{bd:List Stmt}{sc:Scope}{fs:List Str}{t:TA}{x:Str}{p apos pos:Pos}{e:Expr}{es:List Expr}
end
section
variable {prog:Program}{w:World}{A:Around}{E:Value->Shared->Prop}{s:Shared}{K:Frag}{x C:Addr}{ox:Obj}{od:Option Obj}{name:Str}
end
structure XF(K:Frag)(C:Addr)(f:Str):Prop where
 ga:findIn K (.ref C) "__getattribute__"=some (some (.builtin "BaseException.__getattribute__"))
 gn:findIn K (.ref C) "__getattr__"=some none
 mb:mroIn K C (.type "BaseException")=some true
 no:findIn K (.ref C) f=some none
 hd:hasDictIn K C=true
section
variable {X:Cx}{e:Expr}{f:Str}{pos:Pos}{ta:TE}
end
end L2
namespace L2
open PySem PySem.Spec PyProof.Rows
section
variable {X:Cx}{ao:List (Addr×Obj)}{Z:St}{H:Hp}{s:Shared}{h':Heap}
theorem Inv.jR{t':Nat}{ch:List Addr}{a:Addr}{o:HO}(I:Inv X ao Z H s)(k:∀b u,b∉ch->s.heap.get? b=some u->h'.get? b=some u)(hf:∀b∈ch,h_ X ao H b)(ha:s.heap.objs.size<=a)(new:bG X.prog X.w (upd H a o) h' a o) :
  Inv X ao Z (upd H a o) {s with heap:=h',toks:=t'}:=by
 have wz:∀b u,H b=some u->b∉ch:=λb u e z=>by rw[(hf b z).1] at e;cases e
 have hn:H a=none:=I.hok.fresh ha;have na:∀b u,H b=some u->b≠a:=λb u e z=>by rw[z,hn] at e;cases e
 have la:∀b u,s.heap.get? b=some u->b≠a:=λb u e=>dJ (gY (bR e) ha);refine I.step (g':=s.gens) (d':=s.drawn) (ch:=ch) (λb hb=>?_) (λb o _ _ hc e _=>k b o hc e) (λb o _ _ hc e _=>⟨o.slots,k b o hc e⟩) (λb o' _ e n=>by rw[dO (la b o' e)];exact n)
  (λb o hc e=>⟨o,k b o hc e⟩) (λb xs e=>by rw[dO (na b _ e)];exact e) (λb o u e=>by rw[dO (na b _ e)];exact e) (λb ps e=>⟨#[],by rw[dO (na b _ e),e];simp⟩) (λm hm=>?_) (λb u e=>?_) I.bare
 ·obtain⟨f0,f1,f2,f3,f4,f5⟩:=hf b hb;exact⟨f3.imp id λz=>Cm z,f1,f4,f5⟩
 ·obtain⟨o,es,ep,ho,r⟩:=hm;exact⟨o,es,ep,k _ o (λz=>(hf _ z).2.1 rfl) ho,r⟩
 ·by_cases z:b=a
  ·subst z;rw[jC] at e;cases e;exact new
  ·rw[dO z] at e;refine(I.hok b u e).stay (λc v hc q=>k c v ?_ q) (λc q=>by rw[dO (na c _ q)];exact q) λc _ q=>by rw[dO (na c _ q)];exact q
   rcases hc with y|y
   ·rw[y];exact wz b u e
   ·exact wz c _ y
theorem Inv.oY{t':Nat}{ch:List Addr}(I:Inv X ao Z H s)(k:∀b u,b∉ch->s.heap.get? b=some u->h'.get? b=some u)(hf:∀b∈ch,h_ X ao H b):Inv X ao Z H {s with heap:=h',toks:=t'}:=by
 have wz:∀b u,H b=some u->b∉ch:=λb u e z=>by rw[(hf b z).1] at e;cases e
 refine I.step (g':=s.gens) (d':=s.drawn) (ch:=ch) (λb hb=>?_) (λb o _ _ hc e _=>k b o hc e) (λb o _ _ hc e _=>⟨o.slots,k b o hc e⟩) (λ_ _ _ _ n=>n)
  (λb o hc e=>⟨o,k b o hc e⟩) (λ_ _ e=>e) (λ_ _ _ e=>e) (λb ps e=>⟨#[],by rw[e];simp⟩) (λm hm=>?_) (λb u e=>?_) I.bare
 ·obtain⟨f0,f1,f2,f3,f4,f5⟩:=hf b hb;exact⟨f3.imp id λz=>Cm z,f1,f4,f5⟩
 ·obtain⟨o,es,ep,ho,r⟩:=hm;exact⟨o,es,ep,k _ o (λz=>(hf _ z).2.1 rfl) ho,r⟩
 ·refine(I.hok b u e).stay (λc v hc q=>k c v ?_ q) (λ_ q=>q) λ_ _ q=>q;rcases hc with y|y
  ·rw[y];exact wz b u e
  ·exact wz c _ y
end
structure jT(prog:Program)(w:World)(it src:Addr)(st:Nat->Heap->Prop)(its:Array Value):Prop where
 item:∀(A:Around) (E:Value->Shared->Prop) (s:Shared) (i:Nat) (x:Value) (Q:Value->Shared->Prop),st i s.heap->its[i]?=some x->(∀h',st (i+1) h'->Heap.SameBut it s.heap h'->Q x {s with heap:=h'})->wpAny (model prog w) A (Builtin.SmallTypes.nextOf (.ref it)) Q E s
 fin:∀(A:Around) (E:Value->Shared->Prop) (s:Shared) (i:Nat) (Q:Value->Shared->Prop),A.handled=none->st i s.heap->its[i]?=none->(∀h' e,Heap.ExtBut it s.heap h'->(∃o,h'.get? e=some o/\o.cls=.type "StopIteration")->E (.ref e) {s with heap:=h'})->wpAny (model prog w) A (Builtin.SmallTypes.nextOf (.ref it)) Q E s
 keep:∀i h h',st i h->(∀b o,b=it\/b=src->h.get? b=some o->h'.get? b=some o)->st i h'
theorem jT.list(hne:l≠it):jT prog w it l (λi h=>h.IsListIter it l i/\h.IsList l its) its where
 item:=λA E s i x Q ⟨h1,h2⟩ hx q=>wpAny_nextOf_list_item h1 h2 hx λh' a sb=>q h' ⟨a,h2.at λo e=>(sb.2 l hne).trans e⟩ sb
 fin:=λA E s i Q hh ⟨h1,h2⟩ hx q=>wpAny_nextOf_list_end hh h1 h2 hx q
 keep:=λi h h' ⟨h1,h2⟩ k=>⟨h1.at λo e=>k it o (.inl rfl) e,h2.at λo e=>k l o (.inr rfl) e⟩
theorem Vy(l:Addr):¬((Value.ref l==Value.none)=true):=λz=>by cases (show false=true from z)
theorem IsTupleIter.at'{h h':Heap}{it l:Addr}{i:Nat}(x:h.IsTupleIter it l i)(k:∀o,h.get? it=some o->h'.get? it=some o):h'.IsTupleIter it l i:=by
 obtain⟨o,e,r⟩:=x;exact⟨o,k o e,r⟩
theorem IsTuple.at'{h h':Heap}{l:Addr}{xs:Array Value}(x:h.IsTuple l xs)(k:∀o,h.get? l=some o->h'.get? l=some o):h'.IsTuple l xs:=by
 obtain⟨o,e,r⟩:=x;exact⟨o,k o e,r⟩
section
variable {prog:Program}{w:World}{A:Around}{E:Value->Shared->Prop}{s:Shared}{it l:Addr}{i:Nat}{its:Array Value}
theorem ze3{x:Value}{Q:Value->Shared->Prop}(hi:s.heap.IsTupleIter it l i)(hl:s.heap.IsTuple l its)(hx:its[i]?=some x)(q:∀h',h'.IsTupleIter it l (i+1)->Heap.SameBut it s.heap h'->Q x {s with heap:=h'}) :
  wpAny (model prog w) A (Builtin.SmallTypes.nextOf (.ref it)) Q E s:=by
 obtain⟨oi,ei,ci,di⟩:=id hi;obtain⟨ol,el,_,nl,dl⟩:=hl;unfold Builtin.SmallTypes.nextOf;refine aC (vQ (name:=Str.ofString "__next__") hi.typeIs Ib (uw Ib hi.typeIs F.entry_tuple_iterator_next ?_ (F.args_tuple_iterator_next_1 _)));show wpAny _ A.in1 (field (.ref it) 0 >>= _) _ E s;refine aC (jB ei di (x:=.ref l) rfl ?_);show wpAny _ A.in1 (if (Value.ref l==Value.none)=true then _ else _) _ E s;rw[if_neg (Vy l)];show wpAny _ A.in1 (field (.ref it) 1 >>= _) _ E s;refine aC (jB ei di (x:=.int i 0) rfl ?_);show wpAny _ A.in1 (seqItems? (.ref l) >>= _) _ E s;refine aC (pN el dl ?_);simp only[m9,hx];refine aC (CK ei di (by simp) (aO ⟨x,rfl,aO (q _ ⟨_,xP _ ei (Ih (vW di _)),(Obj.cls_mapFields ..).trans ci,?_⟩ (Heap.SameBut.update ..))⟩));rw[vW di];simp[rawInt]
theorem zgu{Q:Value->Shared->Prop}(hh:A.handled=none)(hi:s.heap.IsTupleIter it l i)(hl:s.heap.IsTuple l its)(hx:its[i]?=none)(q:∀h' e,Heap.ExtBut it s.heap h'->(∃o,h'.get? e=some o/\o.cls=.type "StopIteration")->E (.ref e) {s with heap:=h'}) :
  wpAny (model prog w) A (Builtin.SmallTypes.nextOf (.ref it)) Q E s:=by
 obtain⟨oi,ei,ci,di⟩:=id hi;obtain⟨ol,el,_,nl,dl⟩:=hl;unfold Builtin.SmallTypes.nextOf;refine aC (vQ (name:=Str.ofString "__next__") hi.typeIs Ib (uw Ib hi.typeIs F.entry_tuple_iterator_next ?_ (F.args_tuple_iterator_next_1 _)));show wpAny _ A.in1 (field (.ref it) 0 >>= _) _ E s;refine aC (jB ei di (x:=.ref l) rfl ?_);show wpAny _ A.in1 (if (Value.ref l==Value.none)=true then _ else _) _ E s;rw[if_neg (Vy l)];show wpAny _ A.in1 (field (.ref it) 1 >>= _) _ E s;refine aC (jB ei di (x:=.int i 0) rfl ?_);show wpAny _ A.in1 (seqItems? (.ref l) >>= _) _ E s;refine aC (pN el dl ?_);simp only[m9,hx];refine aC (wpAny_rule (aC (CK ei di (by simp) ?_)));show wpAny _ A.in1 (newExc (.type "StopIteration") [] >>= _) _ E _;refine aC ?_;simp only[newExc,newTuple];refine aC (oG (aC (m:=firstArgMember _ _) (wpAny_of_eq (a:=Value.none) (by first|rfl|(simp only[firstArgMember];rfl)) (oG ?_ (by size_fits)))) (by size_fits));simp only[raiseNew];refine aC (wpAny_handled ?_);rw[show A.in1.handled=none from hh];exact aC (aO (wpAny_throw (q _ _ (((Heap.SameBut.update ..).extBut.push _).push _) ⟨_,fj _ rfl,rfl⟩)))
end
theorem jT.tuple{prog:Program}{w:World}{it l:Addr}{its:Array Value}(hne:l≠it):jT prog w it l (λi h=>h.IsTupleIter it l i/\h.IsTuple l its) its where
 item:=λA E s i x Q ⟨h1,h2⟩ hx q=>ze3 h1 h2 hx λh' a sb=>q h' ⟨a,IsTuple.at' h2 λo e=>(sb.2 l hne).trans e⟩ sb
 fin:=λA E s i Q hh ⟨h1,h2⟩ hx q=>zgu hh h1 h2 hx q
 keep:=λi h h' ⟨h1,h2⟩ k=>⟨IsTupleIter.at' h1 λo e=>k it o (.inl rfl) e,IsTuple.at' h2 λo e=>k l o (.inr rfl) e⟩
structure lA(z TI TO i1 i2 l1 l2:Addr):Prop where
 zs:z≠TI/\z≠TO/\z≠i1/\z≠i2/\z≠l1/\z≠l2
 os:TO≠TI/\TO≠i1/\TO≠i2/\TO≠l1/\TO≠l2
 is:TI≠i1/\TI≠i2/\i1≠i2/\i1≠l1/\i1≠l2/\i2≠l1/\i2≠l2
section
variable {prog:Program}{w:World}{A:Around}{E:Value->Shared->Prop}{s:Shared}{z TI TO i1 i2 l1 l2:Addr}{st1 st2:Nat->Heap->Prop}{xs ys:Array Value}{k:Nat}{a b:Value}
theorem zhb(N1:jT prog w i1 l1 st1 xs)(N2:jT prog w i2 l2 st2 ys)(D:lA z TI TO i1 i2 l1 l2)(hz:IsZip s.heap z TI TO .none)(Oz:IsPair s.heap TI (.ref i1) (.ref i2))(OD:IsPair s.heap TO a b)
  (h1:st1 k s.heap) (h2:st2 k s.heap) (hx:xs[k]?=some x) (hy:ys[k]?=some y)
  (q:∀h',IsZip h' z TI TO (rawInt s.heap.objs.size)->IsPair h' TO x y->st1 (k+1) h'->st2 (k+1) h'->IsPair h' s.heap.objs.size x y->h'.objs.size=s.heap.objs.size+1->(∀c o,c≠z->c≠TO->c≠i1->c≠i2->s.heap.get? c=some o->h'.get? c=some o)->Q (some (.ref s.heap.objs.size)) {s with heap:=h'}) :
  wpAny (model prog w) A (pyNext (.ref z)) Q E s:=by
 obtain⟨⟨z1,z2,z3,z4,z5,z6⟩,⟨t1,t2,t3,t4,t5⟩,⟨j1,j2,j3,j4,j5,j6,j7⟩⟩:=D;have hT:s.TypeIs (.ref z) "zip":=⟨_,hz,rfl⟩;unfold pyNext;refine aC (CQ (vQ (name:=Str.ofString "__next__") hT Iz (uw Iz hT F.entry_zip_next ?_ (F.args_zip_next_1 _))));show wpAny _ A.in1 (field (.ref z) 2 >>= _) _ _ s;refine aC (jB hz rfl (x:=.bool false) rfl ?_);show wpAny _ A.in1 (field (.ref z) 3 >>= _) _ _ s;refine aC (jB hz rfl (x:=.ref TI) rfl (aC (pN Oz rfl ?_)));show wpAny _ A.in1 (Builtin.SmallTypes.ownedTupleIsFree (.ref z) >>= _) _ _ s;refine aC ?_;unfold Builtin.SmallTypes.ownedTupleIsFree;refine aC (jB hz rfl (x:=.none) rfl (aO ?_));simp only[if_true];refine aC (wpAny_rule (aC (jB hz rfl (x:=.ref TO) rfl (aC (Ah hz (by simp) λha za sa=>aC ?_)))))
 replace za:IsZip ha z TI TO .ellipsis:=za
 simp only[List.zipIdx_cons,List.zipIdx_nil,Am,IW];refine aC (aC (wpAny_onRaise ?_));show wpAny _ A.in1 (Builtin.SmallTypes.nextOf (.ref i1) >>= _) _ _ _;refine aC (N1.item _ _ {s with heap:=ha} k x _ (N1.keep _ _ _ h1 λc o hc e=>sa.extBut c o (by rcases hc with rfl|rfl;exact z3.symm;exact z5.symm) e) hx λhb Vz sb=>aO ?_);have tb:IsPair hb TO a b:=sb.extBut _ _ t2 (sa.extBut _ _ z2.symm OD);refine aC (pN tb rfl (aC (Ls tb λhc tc sc=>aC (xW (aO ?_)))))
 replace tc:IsPair hc TO x b:=tc
 refine aC (aC (wpAny_onRaise ?_));show wpAny _ A.in1 (Builtin.SmallTypes.nextOf (.ref i2) >>= _) _ _ _;have k2:st2 k hc:=N2.keep _ _ _ h2 λc o jJ e=>by
  rcases jJ with rfl|rfl
  ·exact sc.extBut _ _ t3.symm (sb.extBut _ _ j3.symm (sa.extBut _ _ z4.symm e))
  ·exact sc.extBut _ _ t5.symm (sb.extBut _ _ j5.symm (sa.extBut _ _ z6.symm e))
 have k1:st1 (k+1) hc:=N1.keep _ _ _ Vz λc o jJ e=>by
  rcases jJ with rfl|rfl
  ·exact sc.extBut _ _ t2.symm e
  ·exact sc.extBut _ _ t4.symm e
 refine aC (N2.item _ _ {s with heap:=hc} k y _ k2 hy λhd sd2 sd=>aO ?_);have td:IsPair hd TO x b:=sd.extBut _ _ t3 tc;refine aC (pN td rfl (aC (Ls td λhe te se=>aC (xW (aO (aO ?_))))))
 replace te:IsPair he TO x y:=te
 refine aC (pN te rfl (aC (wpAny_newTuple ?_)));have size:he.objs.size=s.heap.objs.size:=by rw[se.1,sd.1,sc.1,sb.1,sa.1]
 have ze:IsZip he z TI TO .ellipsis:=se.extBut _ _ z2 (sd.extBut _ _ z4 (sc.extBut _ _ z2 (sb.extBut _ _ z3 za)));have kept:∀c o,c≠z->c≠TO->c≠i1->c≠i2->s.heap.get? c=some o->he.get? c=some o:=λc o c1 c2 c3 c4 e=>se.extBut _ _ c2 (sd.extBut _ _ c4 (sc.extBut _ _ c2 (sb.extBut _ _ c3 (sa.extBut _ _ c1 e))));have e1:st1 (k+1) he:=N1.keep _ _ _ k1 λc o jJ e=>by
  rcases jJ with rfl|rfl
  ·exact se.extBut _ _ t2.symm (sd.extBut _ _ j3 e)
  ·exact se.extBut _ _ t4.symm (sd.extBut _ _ j6.symm e)
 have e2:st2 (k+1) he:=N2.keep _ _ _ sd2 λc o jJ e=>by
  rcases jJ with rfl|rfl
  ·exact se.extBut _ _ t3.symm e
  ·exact se.extBut _ _ t5.symm e
 show wpAny _ A.in1 (Builtin.SmallTypes.ownedTupleHandOut (.ref z) (.ref he.objs.size) >>= _) _ _ _;refine aC ?_;unfold Builtin.SmallTypes.ownedTupleHandOut;have zf:IsZip (he.push {cls:=.type "tuple",data:=.seq #[x,y]}) z TI TO .ellipsis:=cG _ ze;refine aC (Ah zf (by simp) λhg zg sg=>Ah zg (by simp) λhh zh sh=>aO ⟨_,rfl,aO ?_⟩)
 replace zh:IsZip hh z TI TO (rawInt he.objs.size):=zh
 have up:∀c o,c≠z->he.get? c=some o->hh.get? c=some o:=λc o c1 e=>sh.extBut _ _ c1 (sg.extBut _ _ c1 (cG _ e));have lz:z<he.objs.size:=bR ze;have tn:IsPair hh he.objs.size x y:=sh.extBut _ _ (uD lz) (sg.extBut _ _ (uD lz) (fj _ rfl));have sz:hh.objs.size=he.objs.size+1:=by rw[sh.1,sg.1,tG]
 rw[size] at zh tn sz;show Q (some (.ref he.objs.size)) _;rw[size];exact q hh zh (up _ _ z2.symm te) (N1.keep _ _ _ e1 λc o jJ e=>up c o (by rcases jJ with rfl|rfl;exact z3.symm;exact z5.symm) e) (N2.keep _ _ _ e2 λc o jJ e=>up c o (by rcases jJ with rfl|rfl;exact z4.symm;exact z6.symm) e) tn sz λc o c1 c2 c3 c4 e=>up c o c1 (kept c o c1 c2 c3 c4 e)
theorem zjc(hn:A.handled=none)(N1:jT prog w i1 l1 st1 xs)(N2:jT prog w i2 l2 st2 ys)(D:lA z TI TO i1 i2 l1 l2)(hz:IsZip s.heap z TI TO .none)(Oz:IsPair s.heap TI (.ref i1) (.ref i2))(OD:IsPair s.heap TO a b)
  (h1:st1 k s.heap) (h2:st2 k s.heap) (hx:xs[k]?=none\/ys[k]?=none) (q:∀h',(∀c o,c≠z->c≠TO->c≠i1->c≠i2->s.heap.get? c=some o->h'.get? c=some o)->Q none {s with heap:=h'}):wpAny (model prog w) A (pyNext (.ref z)) Q E s:=by
 obtain⟨⟨z1,z2,z3,z4,z5,z6⟩,⟨t1,t2,t3,t4,t5⟩,⟨j1,j2,j3,j4,j5,j6,j7⟩⟩:=D;have hT:s.TypeIs (.ref z) "zip":=⟨_,hz,rfl⟩;have stop:∀(h':Heap) (e:Addr),(∀c o,c≠z->c≠TO->c≠i1->c≠i2->s.heap.get? c=some o->h'.get? c=some o)->(∃o,h'.get? e=some o/\o.cls=.type "StopIteration")->
   wpAny (model prog w) A (do if <-isInstance (.ref e) (.type "StopIteration") then pure none else throw (.ref e):Sem (Option Value)) Q E {s with heap:=h'}:=λh' e kp ⟨o,ho,hc⟩=>
  aC (Iu (T:="StopIteration") (b:=true) ⟨o,ho,hc⟩ isSubtype_stop (aO (q h' kp)))
 unfold pyNext;refine aC (CQ (vQ (name:=Str.ofString "__next__") hT Iz (uw Iz hT F.entry_zip_next ?_ (F.args_zip_next_1 _))));show wpAny _ A.in1 (field (.ref z) 2 >>= _) _ _ s;refine aC (jB hz rfl (x:=.bool false) rfl ?_);show wpAny _ A.in1 (field (.ref z) 3 >>= _) _ _ s;refine aC (jB hz rfl (x:=.ref TI) rfl (aC (pN Oz rfl ?_)));show wpAny _ A.in1 (Builtin.SmallTypes.ownedTupleIsFree (.ref z) >>= _) _ _ s;refine aC ?_;unfold Builtin.SmallTypes.ownedTupleIsFree;refine aC (jB hz rfl (x:=.none) rfl (aO ?_));simp only[if_true];refine aC (wpAny_rule (aC (jB hz rfl (x:=.ref TO) rfl (aC (Ah hz (by simp) λha za sa=>aC ?_)))))
 replace za:IsZip ha z TI TO .ellipsis:=za
 simp only[List.zipIdx_cons,List.zipIdx_nil,Am,IW];refine aC (aC (wpAny_onRaise ?_));show wpAny _ A.in1 (Builtin.SmallTypes.nextOf (.ref i1) >>= _) _ _ _;have ka:st1 k ha:=N1.keep _ _ _ h1 λc o hc e=>sa.extBut c o (by rcases hc with rfl|rfl;exact z3.symm;exact z5.symm) e;cases ex:xs[k]? with
 |none=>
  refine aC (N1.fin _ _ {s with heap:=ha} k _ hn ka ex λhb e sb se=>?_);obtain⟨oe,ho,hc⟩:=se;have zb:IsZip hb z TI TO .ellipsis:=sb _ _ z3 za;have ne:e≠z:=λy=>by subst y;rw[zb] at ho;cases ho;simp at hc
  exact Ah zb (by simp) λhd _ sd=>stop hd e (λc o c1 _ c3 _ y=>sd.extBut _ _ c1 (sb _ _ c3 (sa.extBut _ _ c1 y))) ⟨oe,sd.extBut _ _ ne ho,hc⟩
 |some x=>
  have ey:ys[k]?=none:=by
   rcases hx with y|y
   ·rw[ex] at y;cases y
   ·exact y
  refine aC (N1.item _ _ {s with heap:=ha} k x _ ka ex λhb Vz sb=>aO ?_);have tb:IsPair hb TO a b:=sb.extBut _ _ t2 (sa.extBut _ _ z2.symm OD);refine aC (pN tb rfl (aC (Ls tb λhc tc sc=>aC (xW (aO ?_)))));refine aC (aC (wpAny_onRaise ?_));show wpAny _ A.in1 (Builtin.SmallTypes.nextOf (.ref i2) >>= _) _ _ _;have k2:st2 k hc:=N2.keep _ _ _ h2 λc o jJ e=>by
   rcases jJ with rfl|rfl
   ·exact sc.extBut _ _ t3.symm (sb.extBut _ _ j3.symm (sa.extBut _ _ z4.symm e))
   ·exact sc.extBut _ _ t5.symm (sb.extBut _ _ j5.symm (sa.extBut _ _ z6.symm e))
  refine aC (N2.fin _ _ {s with heap:=hc} k _ hn k2 ey λhd e sd se=>?_);obtain⟨oe,ho,Bg⟩:=se;have zd:IsZip hd z TI TO .ellipsis:=sd _ _ z4 (sc.extBut _ _ z2 (sb.extBut _ _ z3 za));have ne:e≠z:=λy=>by subst y;rw[zd] at ho;cases ho;simp at Bg
  exact Ah zd (by simp) λhf _ sf=>stop hf e (λc o c1 c2 c3 c4 y=>sf.extBut _ _ c1 (sd _ _ c4 (sc.extBut _ _ c2 (sb.extBut _ _ c3 (sa.extBut _ _ c1 y))))) ⟨oe,sf.extBut _ _ ne ho,Bg⟩
end
noncomputable def Ck:Bool->Heap->Addr->Array Value->Prop
 |true,h,l,xs=>h.IsList l xs
 |false,h,l,xs=>h.IsTuple l xs
noncomputable def Rk:Bool->Addr->Addr->Nat->Heap->Prop
 |true,it,l,i,h=>h.IsListIter it l i
 |false,it,l,i,h=>h.IsTupleIter it l i
noncomputable def Sk:Bool->W.Frag->Hp->Addr->List V->Prop
 |true,K,H,l,xs=>cM K H l xs
 |false,K,H,l,xs=>fu K H l xs
noncomputable def fB:Bool->Addr->Obj
 |true,l=>{cls:=.type "list_iterator",data:=.fields #[.ref l,.int 0 0]}
 |false,l=>{cls:=.type "tuple_iterator",data:=.fields #[.ref l,.int 0 0]}
theorem jT.of(kd:Bool)(hne:l≠it):jT prog w it l (λi h=>Rk kd it l i h/\Ck kd h l its) its:=by
 cases kd
 ·exact jT.tuple hne
 ·exact jT.list hne
theorem Ck.keep(x:Ck kd h l xs)(k:∀o,h.get? l=some o->h'.get? l=some o):Ck kd h' l xs:=by
 cases kd
 ·exact IsTuple.at' x k
 ·exact Heap.IsList.at x k
theorem Rk.keep(x:Rk kd it l i h)(k:∀o,h.get? it=some o->h'.get? it=some o):Rk kd it l i h':=by
 cases kd
 ·exact IsTupleIter.at' x k
 ·exact Heap.IsListIter.at x k
theorem Rk.obj(x:Rk kd it l i h):∃o,h.get? it=some o/\∀v,o.data≠.cell v:=by
 cases kd
 ·obtain⟨o,e,c,d⟩:=x;exact⟨o,e,λv z=>by rw[d] at z;cases z⟩
 ·obtain⟨o,e,c,d⟩:=x;exact⟨o,e,λv z=>by rw[d] at z;cases z⟩
theorem Ck.lt(x:Ck kd h l xs):l<h.objs.size:=by
 cases kd
 ·obtain⟨o,e,_⟩:=x;exact bR e
 ·obtain⟨o,e,_⟩:=x;exact bR e
section
variable {prog:Program}{w:World}{A:Around}{E:Value->Shared->Prop}{s:Shared}
theorem JD(c:Ck kd s.heap l xs)(q:Q (.ref s.heap.objs.size) {s with heap:=s.heap.push (fB kd l)}):wpAny (model prog w) A (pyIter (.ref l)) Q E s:=by
 cases kd
 ·exact wpAny_pyIter_tuple c q
 ·exact Ik c q
end
noncomputable def zH(h:Heap)(k1 k2:Bool)(l1 l2:Addr):Heap:=((((h.push (fB k1 l1)).push (fB k2 l2)).push {cls:=.type "tuple",data:=.seq #[.ref h.objs.size,.ref (h.push (fB k1 l1)).objs.size]}).push {cls:=.type "tuple",data:=.seq #[.none,.none]}).push
 {cls:=.type "zip",data:=.fields #[.none,.bool false,.bool false,.ref ((h.push (fB k1 l1)).push (fB k2 l2)).objs.size,.ref (((h.push (fB k1 l1)).push (fB k2 l2)).push {cls:=.type "tuple",data:=.seq #[.ref h.objs.size,.ref (h.push (fB k1 l1)).objs.size]}).objs.size]}
theorem zgI(k1 k2:Bool)(l1 l2:Addr)(xs ys:Array Value):Meets (Builtin.«zip.__new__» ⟨[.type "zip",.ref l1,.ref l2],[]⟩) (λ_ R s=>Ck k1 s.heap l1 xs/\Ck k2 s.heap l2 ys /\
   R (.ok (.ret (.ref ((((s.heap.push (fB k1 l1)).push (fB k2 l2)).push {cls:=.type "tuple",data:=.seq #[.ref s.heap.objs.size,.ref (s.heap.push (fB k1 l1)).objs.size]}).push {cls:=.type "tuple",data:=.seq #[.none,.none]}).objs.size))) {s with heap:=zH s.heap k1 k2 l1 l2}):=
 .of_wp λprog w A R s h=>by
  obtain⟨hp,g,d,tk,os⟩:=s;obtain⟨c1,c2,h⟩:=h;have hsub:=sub_zip;have C1:Ck k1 (Shared.heap ⟨hp,g,d,tk,os⟩) l1 xs:=c1;have C2:Ck k2 (Shared.heap ⟨hp.push (fB k1 l1),g,d,tk,os⟩) l2 ys:=c2.keep λo e=>cG _ e
  wp_walk using JD C1,JD C2
  exact⟨_,rfl,h⟩
section
variable {prog:Program}{w:World}{A:Around}{E:Value->Shared->Prop}{s:Shared}
theorem zir(c1:Ck k1 s.heap l1 xs)(c2:Ck k2 s.heap l2 ys)
  (h:∀h',IsZip h' (s.heap.objs.size+4) (s.heap.objs.size+2) (s.heap.objs.size+3) .none->IsPair h' (s.heap.objs.size+2) (.ref s.heap.objs.size) (.ref (s.heap.objs.size+1))->IsPair h' (s.heap.objs.size+3) .none .none->
   Rk k1 s.heap.objs.size l1 0 h'->Rk k2 (s.heap.objs.size+1) l2 0 h'->(∀c o,s.heap.get? c=some o->h'.get? c=some o)->Q (.ref (s.heap.objs.size+4)) {s with heap:=h'}) :
  wpAny (model prog w) A (call (.type "zip") [.ref l1,.ref l2]) Q E s:=by
 refine callType_new F.called_zip (by decide) (F.typeCall_zip_2 _ _) (F.newCall_zip_2 _ _) (λobj=>F.args_object_init_3 obj _ _) F.entry_zip_new (zgI k1 k2 l1 l2 xs ys) ⟨c1,c2,?_⟩;have n1:(s.heap.push (fB k1 l1)).objs.size=s.heap.objs.size+1:=tG ..;have n2:((s.heap.push (fB k1 l1)).push (fB k2 l2)).objs.size=s.heap.objs.size+2:=by rw[tG,n1]
 have fr:∀kd l,(fB kd l).isFreed=false:=λkd l=>by cases kd<;>rfl
 have rk:∀{h:Heap} {a:Addr} {kd:Bool} {l:Addr},h.get? a=some (fB kd l)->Rk kd a l 0 h:=λ{h a kd l} e=>by
  cases kd
  ·exact⟨_,e,rfl,rfl⟩
  ·exact⟨_,e,rfl,rfl⟩
 have o1:(s.heap.push (fB k1 l1)).get? s.heap.objs.size=some (fB k1 l1):=fj _ (fr _ _);have o2:((s.heap.push (fB k1 l1)).push (fB k2 l2)).get? (s.heap.objs.size+1)=some (fB k2 l2):=by
  have:=fj (s.heap.push (fB k1 l1)) (o:=fB k2 l2) (fr _ _);rw[n1] at this;exact this
 generalize hA:(s.heap.push (fB k1 l1)).push (fB k2 l2)=JF at *;have eH:zH s.heap k1 k2 l1 l2=((JF.push {cls:=.type "tuple",data:=.seq #[.ref s.heap.objs.size,.ref (s.heap.objs.size+1)]}).push {cls:=.type "tuple",data:=.seq #[.none,.none]}).push {cls:=.type "zip",data:=.fields #[.none,.bool false,.bool false,.ref (s.heap.objs.size+2),.ref (s.heap.objs.size+3)]}:=by
  unfold zH;rw[hA,n1,n2,tG,n2]
 have n3:(JF.push {cls:=.type "tuple",data:=.seq #[.ref s.heap.objs.size,.ref (s.heap.objs.size+1)]}).objs.size=s.heap.objs.size+3:=by rw[tG,n2]
 have n4:((JF.push {cls:=.type "tuple",data:=.seq #[.ref s.heap.objs.size,.ref (s.heap.objs.size+1)]}).push {cls:=.type "tuple",data:=.seq #[.none,.none]}).objs.size=s.heap.objs.size+4:=by rw[tG,n3]
 rw[n1,n4];have g5:(zH s.heap k1 k2 l1 l2).get? (s.heap.objs.size+4)=some {cls:=.type "zip",data:=.fields #[.none,.bool false,.bool false,.ref (s.heap.objs.size+2),.ref (s.heap.objs.size+3)]}:=by
  rw[eH,<-n4];exact fj _ rfl
 have g4:(zH s.heap k1 k2 l1 l2).get? (s.heap.objs.size+3)=some {cls:=.type "tuple",data:=.seq #[.none,.none]}:=by
  rw[eH,<-n3];exact cG _ (fj _ rfl)
 have g3:(zH s.heap k1 k2 l1 l2).get? (s.heap.objs.size+2)=some {cls:=.type "tuple",data:=.seq #[.ref s.heap.objs.size,.ref (s.heap.objs.size+1)]}:=by
  rw[eH,<-n2];exact cG _ (cG _ (fj _ rfl))
 have up:∀c o,JF.get? c=some o->(zH s.heap k1 k2 l1 l2).get? c=some o:=λc o e=>by rw[eH];exact cG _ (cG _ (cG _ e))
 refine⟨⟨_,g5,rfl⟩,h _ g5 g3 g4 (rk (up _ _ ?_)) (rk (up _ _ o2)) λc o e=>up _ _ ?_⟩
 ·rw[<-hA];exact cG _ o1
 ·rw[<-hA];exact cG _ (cG _ e)
end
noncomputable def OJ(K:W.Frag)(k1 k2:Bool)(l1 l2:Addr):It:=
 ⟨λi H=>∃xs ys x y,Sk k1 K H l1 xs/\Sk k2 K H l2 ys/\xs[i]?=some x/\ys[i]?=some y,
  λi H v H'=>∃a x y,H a=none/\v=.ref a/\H'=upd H a (.tup [x,y])/\(∀xs,Sk k1 K H l1 xs->xs[i]?=some x)/\∀ys,Sk k2 K H l2 ys->ys[i]?=some y,
  λi H=>∃xs ys,Sk k1 K H l1 xs/\Sk k2 K H l2 ys/\(xs.length<=i\/ys.length<=i)⟩
section
variable {X:Cx}{ao:List (Addr×Obj)}{Z:St}{H:Hp}{s:Shared}{kd:Bool}{l:Addr}{xs ys:List V}
theorem Inv.row(I:Inv X ao Z H s)(h:Sk kd X.K H l xs):∃its:List Value,Vals xs its/\Ck kd s.heap l its.toArray:=by
 cases kd
 ·obtain⟨its,rv,p,hz⟩:=I.tuple h;exact⟨its,rv,p⟩
 ·obtain⟨its,rv,p,hz⟩:=I.list h;exact⟨its,rv,p.isList⟩
theorem Inv.lB(I:Inv X ao Z H s)(h:Sk kd X.K H l xs)(h':Sk kd X.K H l ys):xs=ys:=by
 cases kd
 ·exact I.jQ h h'
 ·exact I.mC h h'
end
theorem zgN{P:Program}{w:World}{K:W.Frag}{elts:List Expr}{kk:Nat}{pos:Pos}{k1 k2:Bool}{l1 l2 z TI TO i1 i2:Addr}(D:lA z TI TO i1 i2 l1 l2) :
  Turn P w K (.Tuple elts kk pos) (OJ K k1 k2 l1 l2) [z,TI,TO,i1,i2] z (λi h=>IsZip h z TI TO .none/\IsPair h TI (.ref i1) (.ref i2)/\(∃a b,IsPair h TO a b)/\Rk k1 i1 l1 i h/\Rk k2 i2 l2 i h) where
 mem:=by simp
 obj:=λi h ⟨a1,a2,⟨p,q,a3⟩,a4,a5⟩ b hb=>by
  have:b=z\/b=TI\/b=TO\/b=i1\/b=i2:=by simpa using hb
  rcases this with rfl|rfl|rfl|rfl|rfl
  ·exact⟨_,a1,λv y=>by cases y⟩
  ·exact⟨_,a2,λv y=>by cases y⟩
  ·exact⟨_,a3,λv y=>by cases y⟩
  ·exact a4.obj
  ·exact a5.obj
 keep:=λi h h' ⟨a1,a2,⟨p,q,a3⟩,a4,a5⟩ k=>⟨k z (by simp) _ a1,k TI (by simp) _ a2,⟨p,q,k TO (by simp) _ a3⟩,a4.keep λo e=>k i1 (by simp) o e,a5.keep λo e=>k i2 (by simp) o e⟩
 item:=by
  intro X hP hw hK hc i ao s Z H E I hf ⟨a1,a2,⟨p,q,a3⟩,a4,a5⟩ hg;subst hP hw hK;obtain⟨xs,ys,x,y,wD,wF,hx,hy⟩:=hg;obtain⟨VB,JL,c1⟩:=I.row wD;obtain⟨Fp,JM,c2⟩:=I.row wF;obtain⟨u,hu,ru⟩:=JL.get hx;obtain⟨v,hv,rv⟩:=JM.get hy;have D':=D;obtain⟨⟨z1,z2,z3,z4,z5,z6⟩,⟨t1,t2,t3,t4,t5⟩,⟨j1,j2,j3,j4,j5,j6,j7⟩⟩:=D';refine zhb (jT.of k1 j4.symm) (jT.of k2 j7.symm) D a1 a2 a3 ⟨a4,c1⟩ ⟨a5,c2⟩ (x:=u) (y:=v) (by simpa using hu) (by simpa using hv) λh1 b1 b2 b3 b4 b5 b6 kp=>?_;refine⟨_,rfl,wpAny_letOwnedTupleGo_zip (s:={s with heap:=h1}) b1 λh2 e2 sb=>?_⟩;have O1:IsPair h2 s.heap.objs.size u v:=(sb.2 _ (uD (bR a1))).trans b5;have kk:∀b o,b∉[z,TI,TO,i1,i2]->s.heap.get? b=some o->h2.get? b=some o:=λb o hb e=>(sb.2 b λy=>hb (by simp[y])).trans (kp b o (λy=>hb (by simp[y])) (λy=>hb (by simp[y])) (λy=>hb (by simp[y])) (λy=>hb (by simp[y])) e);have I2:=I.jR (t':=s.toks) (a:=s.heap.objs.size) (o:=.tup [x,y]) kk (λb hb=>hf b hb) (bI _) (show bG X.prog X.w _ h2 _ (.tup [x,y]) from ⟨by show 2<=sizeLine;decide,[u,v],.cons ru (.cons rv .nil),⟨_,O1,rfl,_,rfl⟩⟩);have hn:H s.heap.objs.size=none:=I.hok.fresh (bI _);refine⟨.ref s.heap.objs.size,_,I2,rfl,⟨_,x,y,hn,rfl,rfl,λzs hz=>by rw[I.lB hz wD];exact hx,λzs hz=>by rw[I.lB hz wF];exact hy⟩,⟨e2,(sb.2 _ z1.symm).trans (kp _ _ z1.symm t1.symm j1 j2 a2),⟨_,_,(sb.2 _ z2.symm).trans b2⟩,b3.1.keep λo e=>(sb.2 _ z3.symm).trans e,b4.1.keep λo e=>(sb.2 _ z4.symm).trans e⟩,λb hb=>?_⟩;have nb:b≠s.heap.objs.size:=by
   have:b=z\/b=TI\/b=TO\/b=i1\/b=i2:=by simpa using hb
   rcases this with rfl|rfl|rfl|rfl|rfl
   ·exact dJ (bR a1)
   ·exact dJ (bR a2)
   ·exact dJ (bR a3)
   ·obtain⟨o,e,_⟩:=a4.obj;exact dJ (bR e)
   ·obtain⟨o,e,_⟩:=a5.obj;exact dJ (bR e)
  rw[dO nb];exact(hf b hb).1
 done:=by
  intro X hP hw hK hc i ao s Z H E I hf ⟨a1,a2,⟨p,q,a3⟩,a4,a5⟩ hg;subst hP hw hK;obtain⟨xs,ys,wD,wF,hx⟩:=hg;obtain⟨VB,JL,c1⟩:=I.row wD;obtain⟨Fp,JM,c2⟩:=I.row wF;have n1:=JL.length;have n2:=JM.length;refine zjc (I.ok.hd hc) (jT.of k1 D.is.2.2.2.1.symm) (jT.of k2 D.is.2.2.2.2.2.2.symm) D a1 a2 a3 ⟨a4,c1⟩ ⟨a5,c2⟩ ?_ λh' kp=>⟨rfl,I.oY (t':=s.toks) (ch:=[z,TI,TO,i1,i2]) (λb o hb e=>kp b o (λy=>hb (by simp[y])) (λy=>hb (by simp[y])) (λy=>hb (by simp[y])) (λy=>hb (by simp[y])) e) λb hb=>hf b hb⟩;rcases hx with y|y
  ·exact .inl (by simp;lia)
  ·exact .inr (by simp;lia)
 self:=λ_ _ _ _ _ ⟨a1,_⟩ h=>wpAny_pyIter_zip a1 h
section
variable {X:Cx}
noncomputable def O2(K:W.Frag)(ta:TA):TI:=λZ H R=>ta Z H λvs H1=>∃k1 k2 l1 l2 xs ys,vs=[.ref l1,.ref l2]/\Sk k1 K H1 l1 xs/\Sk k2 K H1 l2 ys/\R (OJ K k1 k2 l1 l2) H1
theorem zhq:bootBuiltins "zip"=some (.type "zip"):=by decide +kernel
theorem zlb{a b:Expr}{ta:TA}{p pos tpos:Pos}{elts:List Expr}{kk:Nat}(hg:Gl X "zip")(hm:X.mg "zip"=none)(ha:PA X [a,b] ta)(hs:starEach [a,b] X.env=[(false,eval a X.env),(false,eval b X.env)]:=by rfl)(uI:starEach [b] X.env=[(false,eval b X.env)]:=by rfl) :
  PI X (.Tuple elts kk tpos) (.Call (.Name "zip" p) [a,b] [] pos) (O2 X.K ta):=by
 intro ao s Z H R I h;refine Call_ (uH I hg hm zhq (xK (aZ (ha pos ao s Z H _ I h) λus s1 ⟨vs,H1,I1,r1,q1⟩=>?_) (by rw[hs,uI]) (by rw[uI];rfl)));obtain⟨k1,k2,l1,l2,xs,ys,e,wD,wF,q⟩:=q1;subst e;cases r1 with
 |cons r rr=>
  cases rr with
  |cons r' rr=>
   cases rr;cases r;cases r';obtain⟨VB,JL,c1⟩:=I1.row wD;obtain⟨Fp,JM,c2⟩:=I1.row wF;have m1:=c1.lt;have m2:=c2.lt;refine zir c1 c2 λh' b1 b2 b3 b4 b5 kp=>?_;refine wpAny_pyIter_zip b1 ?_;have ne:∀{u v:Nat},u<v->u≠v:=λh=>dJ h;have D:lA (s1.heap.objs.size+4) (s1.heap.objs.size+2) (s1.heap.objs.size+3) s1.heap.objs.size (s1.heap.objs.size+1) l1 l2:=
    ⟨⟨(ne (by lia)).symm,(ne (by lia)).symm,(ne (by lia)).symm,(ne (by lia)).symm,(ne (gY m1 (by lia))).symm,(ne (gY m2 (by lia))).symm⟩,
     ⟨(ne (by lia)).symm,(ne (by lia)).symm,(ne (by lia)).symm,(ne (gY m1 (by lia))).symm,(ne (gY m2 (by lia))).symm⟩,
     ⟨(ne (by lia)).symm,(ne (by lia)).symm,ne (by lia),(ne m1).symm,(ne m2).symm,(ne (gY m1 (by lia))).symm,(ne (gY m2 (by lia))).symm⟩⟩
   refine⟨s1.heap.objs.size+4,[s1.heap.objs.size+4,s1.heap.objs.size+2,s1.heap.objs.size+3,s1.heap.objs.size,s1.heap.objs.size+1],_,_,H1,rfl,I1.kept (t':=s1.toks) kp,zgN D,⟨b1,b2,⟨_,_,b3⟩,b4,b5⟩,λb hb=>?_,q⟩;have:s1.heap.objs.size<=b:=by
    have:b=s1.heap.objs.size+4\/b=s1.heap.objs.size+2\/b=s1.heap.objs.size+3\/b=s1.heap.objs.size\/b=s1.heap.objs.size+1:=by simpa using hb
    rcases this with rfl|rfl|rfl|rfl|rfl<;>lia
   exact I1.qZ this (I1.hok.fresh this)
end
noncomputable def Ite(K:W.Frag)(kd:Bool)(l:Addr):It:=
 ⟨λi H=>∃xs x,Sk kd K H l xs/\xs[i]?=some x,λi H v H'=>∃a x,H a=none/\v=.ref a/\H'=upd H a (.tup [.int i,x])/\∀xs,Sk kd K H l xs->xs[i]?=some x,λi H=>∃xs,Sk kd K H l xs/\xs.length<=i⟩
theorem yR{prog:Program}{w:World}{A:Around}(hh:A.handled=none)(kd:Bool){it l:Addr}(hne:l≠it)(its:Array Value):Draws prog w A it [it,l] its.size (λi v=>its[i]?=some v) (λi h=>Rk kd it l i h/\Ck kd h l its) where
 live:=λ_ _ st=>let ⟨o,e,_⟩:=st.1.obj;⟨o,e⟩
 frame:=λ_ _ _ st k=>⟨st.1.keep λo e=>k it (by simp) o e,st.2.keep λo e=>k l (by simp) o e⟩
 item:=λi s Q E hi st q=>(jT.of kd hne).item A E s i its[i] Q st (by simp[hi]) λh' a b=>q _ h' s.toks (by simp[hi]) a b
 done:=λs Q E st q=>(jT.of kd hne).fin A E s its.size Q hh st (by simp) q
theorem zgC(kd:Bool)(l:Addr)(xs:Array Value):Meets (Builtin.«enumerate.__new__» ⟨[.type "enumerate",.ref l],[]⟩) (λ_ R s=>Ck kd s.heap l xs /\
   R (.ok (.ret (.ref (s.heap.push (fB kd l)).objs.size))) {s with heap:=(s.heap.push (fB kd l)).push {cls:=.type "enumerate",data:=.fields #[.none,.bool false,.ref s.heap.objs.size,rawInt 0,.none,.none]}}):=
 .of_wp λprog w A R s h=>by
  obtain⟨hp,g,d,tk,os⟩:=s;obtain⟨c1,h⟩:=h;have hsub:=sub_enumerate;have C1:Ck kd (Shared.heap ⟨hp,g,d,tk,os⟩) l xs:=c1;obtain⟨ol,el⟩ : ∃o,hp.get? l=some o:=by
   cases kd
   ·obtain⟨o,e,_⟩:=c1;exact⟨o,e⟩
   ·obtain⟨o,e,_⟩:=c1;exact⟨o,e⟩
  wp_walk using Ig el
  refine wpAny_stack_any λst=>aO ?_
  split
  ·rename_i c _ _ _ _ _;cases (c==Value.type "enumerate")<;>(wp_walk using Ig el,JD C1;exact⟨_,rfl,h⟩)
  ·wp_walk using Ig el,JD C1
   exact⟨_,rfl,h⟩
theorem zhh{prog:Program}{w:World}{A:Around}{E:Value->Shared->Prop}{s:Shared}{e it l:Addr}{its:Array Value}{st:Nat->Heap->Prop}{i:Nat}{old:Value}{Q:Option Value->Shared->Prop}(hh:A.handled=none)(N:jT prog w it l st its)(he:IsEnum s.heap e it i old)(yu:st i s.heap)(hx:its[i]?=none)
  (q:∀h',Heap.ExtBut it s.heap h'->Q none {s with heap:=h'}):wpAny (model prog w) A (pyNext (.ref e)) Q E s:=by
 have ty:s.TypeIs (.ref e) "enumerate":=⟨_,he,rfl⟩;have body:∀{E':Value->Shared->Prop},(∀h' x,Heap.ExtBut it s.heap h'->(∃o,h'.get? x=some o/\o.cls=.type "StopIteration")->E' (.ref x) {s with heap:=h'})->wpAny (model prog w) A.in1 (Builtin.«enumerate.__next__» ⟨[.ref e],[]⟩) (λ_ _=>False) E' s:=λk=>by
  show wpAny _ A.in1 (field (.ref e) 2 >>= _) _ _ _;exact aC (jB he rfl (x:=.ref it) rfl (aC (N.fin A.in1 _ s i _ hh yu hx k)))
 unfold pyNext;refine aC (CQ (vQ (name:=Str.ofString "__next__") ty F.slot_enumerate_next (uw F.slot_enumerate_next ty F.entry_enumerate_next (lO (body λh' x a b=>?_) (λ_ _ z=>z.elim) λ_ _ z=>z) (F.args_enumerate_next_1 _))));obtain⟨o,a1,a2⟩:=b;exact aC (Iu (T:="StopIteration") (b:=true) ⟨o,a1,a2⟩ isSubtype_stop (aO (q h' a)))
theorem zf7{P:Program}{w:World}{K:W.Frag}{elts:List Expr}{kk:Nat}{pos:Pos}{kd:Bool}{l e it:Addr}(O4:e≠it)(VD:l≠it)(hle:l≠e) :
  Turn P w K (.Tuple elts kk pos) (Ite K kd l) [e,it] e (λi h=>(∃old,IsEnum h e it i old)/\Rk kd it l i h) where
 mem:=by simp
 obj:=λi h ⟨⟨old,he⟩,st⟩ b hb=>by
  have:b=e\/b=it:=by simpa using hb
  rcases this with rfl|rfl
  ·exact⟨_,he,λv z=>by cases z⟩
  ·exact st.obj
 keep:=λi h h' ⟨⟨old,he⟩,st⟩ k=>⟨⟨old,k e (by simp) _ he⟩,st.keep λo e=>k it (by simp) o e⟩
 item:=by
  intro X hP hw hK hc i ao s Z H E I hf ⟨⟨old,he⟩,st⟩ hg;subst hP hw hK;obtain⟨xs,x,hq,hx⟩:=hg;obtain⟨its,rv,p⟩:=I.row hq;obtain⟨u,hu,ru⟩:=rv.get hx;have dh:i<its.toArray.size:=by simpa using (dX.mp hu).1
  refine wpAny_pyNext_enum_itemD (yR (A:=X.A.in1) (I.ok.hd hc) kd VD its.toArray) he ⟨st,p⟩ dh O4 (by simp[O4,hle.symm]) λu' h1 tk hP ho O5 hT hsz hk=>?_;have eu:u'=u:=by
   have:its[i]?=some u':=by simpa using hP
   rw[hu] at this;cases this;rfl
  subst eu;refine⟨_,rfl,wpAny_letOwnedTupleGo_enum (s:={s with heap:=h1,toks:=tk+1}) ho λh2 he2 sb=>?_⟩;have O1:h2.get? s.heap.objs.size=some {cls:=.type "tuple",data:=.seq #[.int i tk,u']}:=(sb.2 _ (uD (bR he))).trans hT;have kk:∀b o,b∉[e,it]->s.heap.get? b=some o->h2.get? b=some o:=λb o hb q=>(sb.2 b λz=>hb (by simp[z])).trans (hk b o (λz=>hb (by simp[z])) (λz=>hb (by simp[z])) q);have I2:=I.jR (t':=tk+1) (a:=s.heap.objs.size) (o:=.tup [.int i,x]) kk (λb hb=>hf b hb) (bI _) (show bG X.prog X.w _ h2 _ (.tup [.int i,x]) from ⟨by show 2<=sizeLine;decide,[.int i tk,u'],.cons ⟨_,rfl⟩ (.cons ru .nil),⟨_,O1,rfl,_,rfl⟩⟩);have hn:H s.heap.objs.size=none:=I.hok.fresh (bI _);refine⟨.ref s.heap.objs.size,_,I2,rfl,⟨_,x,hn,rfl,rfl,λys hy=>by rw[I.lB hy hq];exact hx⟩,⟨⟨_,by simpa using he2⟩,O5.1.keep λo q=>(sb.2 it O4.symm).trans q⟩,λb hb=>?_⟩;have nb:b≠s.heap.objs.size:=by
   have:b=e\/b=it:=by simpa using hb
   rcases this with rfl|rfl
   ·exact dJ (bR he)
   ·obtain⟨o,q,_⟩:=st.obj;exact dJ (bR q)
  rw[dO nb];exact(hf b hb).1
 done:=by
  intro X hP hw hK hc i ao s Z H E I hf ⟨⟨old,he⟩,st⟩ hg;subst hP hw hK;obtain⟨xs,hq,hx⟩:=hg;obtain⟨its,rv,p⟩:=I.row hq;have hl:=rv.length;exact zhh (I.ok.hd hc) (jT.of kd VD) he ⟨st,p⟩ (by simp;lia) λh' eb=>⟨rfl,I.oY (t':=s.toks) (ch:=[e,it]) (λb o hb q=>eb b o (λz=>hb (by simp[z])) q) λb hb=>hf b hb⟩
 self:=λ_ _ _ _ _ ⟨⟨old,he⟩,_⟩ h=>wpAny_pyIter_enum he h
section
variable {X:Cx}
noncomputable def Fq(K:W.Frag)(ta:TA):TI:=λZ H R=>ta Z H λvs H1=>∃kd l xs,vs=[.ref l]/\Sk kd K H1 l xs/\R (Ite K kd l) H1
theorem zfo:bootBuiltins "enumerate"=some (.type "enumerate"):=by decide +kernel
theorem zjM{a:Expr}{ta:TA}{p pos tpos:Pos}{elts:List Expr}{kk:Nat}(hg:Gl X "enumerate")(hm:X.mg "enumerate"=none)(ha:PA X [a] ta)(hs:starEach [a] X.env=[(false,eval a X.env)]:=by rfl):PI X (.Tuple elts kk tpos) (.Call (.Name "enumerate" p) [a] [] pos) (Fq X.K ta):=by
 intro ao s Z H R I h;refine Call_ (uH I hg hm zfo (xK (aZ (ha pos ao s Z H _ I h) λus s1 ⟨vs,H1,I1,r1,q1⟩=>?_) hs rfl));obtain⟨kd,l,xs,e,hq,q⟩:=q1;subst e;cases r1 with
 |cons r rr=>
  cases rr;cases r;obtain⟨its,rv,p⟩:=I1.row hq;have hl:l<s1.heap.objs.size:=p.lt;refine callType_new F.called_enumerate (by decide) (F.typeCall_enumerate_1 _) (F.newCall_enumerate_1 _) (λobj=>F.args_object_init_2 obj _) F.entry_enumerate_new (zgC kd l its.toArray) ⟨p,?_⟩;have n1:(s1.heap.push (fB kd l)).objs.size=s1.heap.objs.size+1:=tG ..;have he:IsEnum ((s1.heap.push (fB kd l)).push {cls:=.type "enumerate",data:=.fields #[.none,.bool false,.ref s1.heap.objs.size,rawInt 0,.none,.none]}) (s1.heap.objs.size+1) s1.heap.objs.size 0 .none:=by
   have:=fj (s1.heap.push (fB kd l)) (o:={cls:=.type "enumerate",data:=.fields #[.none,.bool false,.ref s1.heap.objs.size,rawInt 0,.none,.none]}) rfl;rw[n1] at this;exact this
  show _/\_;rw[n1];refine⟨⟨_,he,rfl⟩,wpAny_pyIter_enum (s:={s1 with heap:=(s1.heap.push (fB kd l)).push {cls:=.type "enumerate",data:=.fields #[.none,.bool false,.ref s1.heap.objs.size,rawInt 0,.none,.none]}}) he ?_⟩;have rk:Rk kd s1.heap.objs.size l 0 ((s1.heap.push (fB kd l)).push {cls:=.type "enumerate",data:=.fields #[.none,.bool false,.ref s1.heap.objs.size,rawInt 0,.none,.none]}):=by
   cases kd
   ·exact⟨_,cG _ (fj _ rfl),rfl,rfl⟩
   ·exact⟨_,cG _ (fj _ rfl),rfl,rfl⟩
  refine⟨s1.heap.objs.size+1,[s1.heap.objs.size+1,s1.heap.objs.size],_,_,H1,rfl,I1.kept (t':=s1.toks) λb o x=>cG _ (cG _ x),zf7 (kd:=kd) (l:=l) (Nat.succ_ne_self _) (dJ hl) (dJ (tu hl)),⟨⟨_,he⟩,rk⟩,λb hb=>?_,q⟩;have:s1.heap.objs.size<=b:=by
   have:b=s1.heap.objs.size+1\/b=s1.heap.objs.size:=by simpa using hb
   rcases this with rfl|rfl
   ·exact Nat.le_succ _
   ·exact bI _
  exact I1.qZ this (I1.hok.fresh this)
end
end L2
set_option genSizeOf false
set_option genInjectivity false
namespace Mi
open PySem
inductive D where
 |non|bl (b:Bool)|int (i:Int)|str (s:Str)|tup (xs:List D)|fl (xs:List D)|fd (ks vs:List D)|exc (c:Nat) (fs:List D)|ob (c:Nat) (fs:List D)|any
inductive Xv where
 |d (x:D)|l (n:Nat)
inductive Kx where
 |non|int (i:Int)|row (is:List Int)
deriving DecidableEq
inductive SO where
 |lst (xs:List D)
 |dct (kvs:List (List Kx×D))
noncomputable abbrev S:=List SO
inductive Rs (α:Type) where
 |ok (a:α)|er (c:Nat) (fs:List D)
noncomputable abbrev M(α:Type):=S->Option (Rs α×S)
noncomputable def M.ret{α:Type}(a:α):M α:=λs=>some (.ok a,s)
noncomputable def M.bd{α β:Type}(m:M α)(k:α->M β):M β:=λs=>match m s with
 |some (.ok a,s')=>k a s'
 |some (.er c f,s')=>some (.er c f,s')
 |none=>none
noncomputable def M.qt{α:Type}(m:M α):M α:=λs=>match m s with
 |some (.ok a,s')=>some (.ok a,s')
 |_=>none
noncomputable def M.no{α:Type}:M α:=λ_=>none
noncomputable def M.opt{α:Type}:Option α->M α
 |some a=>M.ret a
 |none=>M.no
inductive Rz where
 |dat (d:D)|nw (xs:List D)
inductive Pr where
 |add|aq|mul|fdiv|mod|pow|neg
 |eq|ne|lt|le|gt|ge|inn|nin
 |rB|qF
 |len|abs|max2|min2|Ft|Fw|pY|Bh|uX|divmod|all|sum|list|tuple|sorted|oZ|yS|str1
 |ix|rev|VF|Fx|mult|wG
 |count|index|repr
inductive Kd where
 |int|bool|str|tuple|list|dict|cls (c:Nat)|pZ
mutual
inductive E where
 |c (d:D)
 |v (i:Nat)
 |pr (fz:Bool) (p:Pr) (xs:Es)
 |wH (p q:Pr) (a b c:E)
 |ch3 (p q r:Pr) (a b c d:E)
 |and (a b:E)
 |or (a b:E)
 |not (a:E)
 |ite (c a b:E)
 |tup (xs:Es)
 |lst (fz:Bool) (xs:Es)
 |Fy (k:Str) (i:Int)
 |call (f:Nat) (xs:Es)
 |o7 (a:E) (k:Kd)
 |sl (fz:Bool) (a:E) (lo hi:Eo)
 |meth (fz:Bool) (p:Pr) (k:Kd) (o:E) (xs:Es)
 |push (o a:E)
 |pop (o:E)
 |comp (fz:Bool) (elt:E) (tg:List Nat) (it:Wk) (fr:List Nat) (many:Nat) (cond:Eo)
 |Fz (fz:Bool) (elt:E) (tg:List Nat) (it:Wk) (VG:List Nat) (Fp:Wk) (fr:List Nat) (many:Nat) (cond:Eo)
 |fld (o:E) (cs:List Nat) (i:Nat)
 |of (o:E) (c i:Nat)
 |mk (c f:Nat) (xs:Es)
 |cm (c f:Nat) (o:E) (xs:Es)
 |p7
 |yU (b:Bool) (k d:E)
 |nR (d k:E)
 |Bj (a:E)
 |FJ (fz:Bool) (a:E) (b:E)
 |orv (a b:E)
 |ins (o i a:E)
 |no
inductive Wk where
 |seq (e:E)
 |rg (a b:E)
 |zip (a b:E)
 |enum (a:E)
 |rrg (a:E)
inductive Es where
 |nil
 |cons (a:E) (r:Es)
inductive Eo where
 |no
 |yes (a:E)
end
noncomputable abbrev Ea(a:E):Es:=.cons a .nil
noncomputable abbrev Eb(a b:E):Es:=.cons a (.cons b .nil)
noncomputable abbrev Ec(a b c:E):Es:=.cons a (.cons b (.cons c .nil))
noncomputable abbrev Ei(a b:E):E:=.pr true .ix (.cons a (.cons b .nil))
noncomputable abbrev Ci(i:Int):E:=.c (.int i)
noncomputable def Es.len:Es->Nat
 |.nil=>0
 |.cons _ r=>r.len+1
inductive Tg where
 |nm (i:Nat)
 |tp (is:List Nat)
 |aq (o i:E)
mutual
inductive St where
 |pass
 |ex (e:E)
 |asg (t:Tg) (e:E)
 |par (i j:Nat) (a b:E)
 |aug (i:Nat) (e:E)
 |ret (e:E)
 |rise (c:Nat) (kp:Bool) (xs:Es)
 |iff (c:E) (t e:bU)
 |wh (c:E) (b:bU)
 |fr (t:Tg) (w:Wk) (b:bU)
 |O6 (b:bU) (d:Nat) (i:Nat) (h:bU)
 |dput (d k v:E)
 |no
inductive bU where
 |nil
 |cons (a:St) (r:bU)
end
noncomputable def b_(eq:D->D->Option Bool):List D->List D->Option Bool
 |[],[]=>some true
 |[],_::_=>some false
 |_::_,[]=>some false
 |x::xs,y::ys=>match eq x y,b_ eq xs ys with
  |some a,some b=>some (a&&b)
  |_,_=>none
noncomputable def kq:D->Option Nat
 |.non=>some 0
 |.bl _=>some 1
 |.int _=>some 1
 |.str _=>some 2
 |.tup _=>some 3
 |.fl _=>some 4
 |_=>none
noncomputable def bZ:Nat->D->D->Option Bool
 |n+1,.tup xs,.tup ys=>b_ (bZ n) xs ys
 |n+1,.fl xs,.fl ys=>b_ (bZ n) xs ys
 |_,.non,.non=>some true
 |_,.bl a,.bl b=>some (a==b)
 |_,.int a,.int b=>some (a==b)
 |_,.str a,.str b=>some (a==b)
 |_,.bl a,.int b=>some ((if a then 1 else 0)==b)
 |_,.int a,.bl b=>some (a==(if b then 1 else 0))
 |_,a,b=>match kq a,kq b with
  |some i,some j=>if i=j then none else some false
  |_,_=>none
noncomputable def bY:List D->Option (List Int)
 |[]=>some []
 |.int i::r=>(bY r).map (i::·)
 |_=>none
noncomputable def ltI:List Int->List Int->Bool
 |_,[]=>false
 |[],_::_=>true
 |x::xs,y::ys=>if x=y then ltI xs ys else decide (x<y)
noncomputable def dF:List D->Option (List Bool)
 |[]=>some []
 |.bl b::r=>(dF r).map (b::·)
 |_=>none
noncomputable def cut{α:Type}(xs:List α)(lo hi:Option Int):List α:=(xs.drop (HT.bL xs.length 0 lo)).take (HT.bL xs.length xs.length hi-HT.bL xs.length 0 lo)
noncomputable def lC:D->Option (List D)
 |.tup xs=>some xs
 |.fl xs=>some xs
 |_=>none
noncomputable def cutD(x:D)(lo hi:Option Int):Option Rz:=match x with
 |.tup xs=>some (.dat (.tup (cut xs lo hi)))
 |.fl xs=>some (.nw (cut xs lo hi))
 |_=>none
noncomputable def memD(d:D):List D->Option Bool
 |[]=>some false
 |x::r=>match bZ 50 x d,memD d r with
  |some a,some b=>some (a||b)
  |_,_=>none
noncomputable def yV:Kd->D->Bool
 |.list,.fl _=>true
 |.str,.str _=>true
 |.dict,.fd _ _=>true
 |_,_=>false
noncomputable def cO(f:Int->Int->Option D):List D->Option Rz
 |[.int i,.int j]=>(f i j).map .dat
 |_=>none
noncomputable def o8(f:Int->D):List D->Option Rz
 |[.int i]=>some (.dat (f i))
 |_=>none
noncomputable def p8(f:List D->Option Rz):List D->Option Rz
 |[a]=>(lC a).bind f
 |_=>none
noncomputable def yW:List D->Option Rz
 |[.int i,.int j]=>some (.dat (.int (i+j)))
 |[.tup xs,.tup ys]=>if xs.length+ys.length<=sizeLine then some (.dat (.tup (xs++ys))) else none
 |[.fl xs,.fl ys]=>if xs.length+ys.length<=sizeLine then some (.nw (xs++ys)) else none
 |[.str x,.str y]=>if x.length+y.length<=sizeLine then some (.dat (.str (x++y))) else none
 |_=>none
noncomputable def FN:List D->Option Rz
 |[.int i,.int j]=>some (.dat (.bl (decide (i<j))))
 |[.tup xs,.tup ys]=>match bY xs,bY ys with
  |some a,some b=>some (.dat (.bl (ltI a b)))
  |_,_=>none
 |_=>none
noncomputable def wI(f:Bool->Bool):List D->Option Rz
 |[a,b]=>(bZ 50 a b).map λk=>.dat (.bl (f k))
 |_=>none
noncomputable def yX(f:Bool->Bool):List D->Option Rz
 |[a,b]=>((lC b).bind (memD a)).map λk=>.dat (.bl (f k))
 |_=>none
noncomputable def D.mO:D->Bool
 |.non=>true
 |_=>false
noncomputable def yZ(f:Bool->Bool):List D->Option Rz
 |[a]=>some (.dat (.bl (f a.mO)))
 |_=>none
noncomputable def FP:List D->Option Rz
 |[.int i]=>some (.dat (.int i))
 |[.bl k]=>some (.dat (.int (if k then 1 else 0)))
 |_=>none
noncomputable def zc:List D->Option Rz
 |[.fl xs]=>(dF xs).map λbs=>.dat (.bl (bs.all id))
 |_=>none
noncomputable def lD:List D->Option (List Int)
 |[]=>some []
 |.int i::r=>(lD r).map (i::·)
 |_=>none
noncomputable def best(bt:Int->Int->Bool)(i:Int)(is:List Int):Int:=is.foldl (λm j=>if bt j m then j else m) i
noncomputable def FQ(bt:Int->Int->Bool):Option (List Int)->Option Rz
 |some (i::is)=>some (.dat (.int (best bt i is)))
 |_=>none
noncomputable def wJ(bt:Int->Int->Bool):List D->Option Rz
 |[a]=>(lC a).bind λxs=>FQ bt (lD xs)
 |_=>none
noncomputable def okR(i j:Int):Bool:=decide (-(2^62)<=i/\i<2^62/\-(2^62)<=j/\j<2^62/\(j-i).toNat<=65536)
noncomputable def FT(i:Int)(n:Nat):List D:=(List.range n).map λk=>.int (i+(k:Nat))
noncomputable def O7:List D->Option Rz
 |[.int j]=>if okR 0 j then some (.nw (FT 0 (j-0).toNat)) else none
 |[.int i,.int j]=>if okR i j then some (.nw (FT i (j-i).toNat)) else none
 |_=>none
noncomputable def zj:List D->Option Rz
 |[.int j]=>if okR 0 j then some (.dat (.tup (FT 0 (j-0).toNat))) else none
 |_=>none
noncomputable def nU:List D->Option Rz
 |[a]=>(lC a).map λxs=>.dat (.tup xs)
 |_=>none
noncomputable def O8:List D->Option Rz
 |[a,.int i]=>((lC a).bind λxs=>L2.oU xs i).map .dat
 |_=>none
noncomputable def mQ:List D->List D->Option Bool
 |[],ys=>some (decide (0<ys.length))
 |_::_,[]=>some false
 |.int x::xs,.int y::ys=>if x=y then mQ xs ys else some (decide (x<y))
 |_::_,_::_=>none
noncomputable def tU(xs:List D)(i j:Nat):Option Bool:=match xs[i]?,xs[j]? with
 |some (.int x),some (.int y)=>some (decide (x<y))
 |some (.tup us),some (.tup ws)=>mQ us ws
 |_,_=>none
noncomputable def eN(b:List Int):List (List Int)->List Int
 |[]=>b
 |x::r=>eN (if ltI x b=true then x else b) r
noncomputable def jx:List D->Option (List (List Int))
 |[]=>some []
 |.tup xs::r=>match bY xs,jx r with
  |some a,some b=>some (a::b)
  |_,_=>none
 |_=>none
noncomputable def mR:List D->Option Rz
 |[.fl xs]=>match jx xs with
  |some (x::r)=>some (.dat (.tup ((eN x r).map .int)))
  |_=>none
 |_=>none
noncomputable def iw:D->Bool
 |.int _=>true
 |_=>false
noncomputable def gb:D->Bool
 |.tup (.int _::_)=>true
 |_=>false
noncomputable def mU(lt:Nat->Nat->Option Bool)(xs:List D):Option (List D):=if xs.length<2 then some xs else if xs.length<64 then (match L2.bF lt (PySem.W.kas_sort xs.length) with
  |some p=>if p.size=xs.length then some (p.toList.map λi=>xs.getD i .non) else none
  |none=>none) else none
noncomputable def qG(xs:List D):Option (List D):=if xs.all iw||xs.all gb then mU (tU xs) xs else none
noncomputable def lE:List D->Option Rz
 |[.fl xs]=>(qG xs).map .nw
 |_=>none
noncomputable def ltK(ks:List Int)(i j:Nat):Option Bool:=match ks[i]?,ks[j]? with
 |some x,some y=>some (decide (x<y))
 |_,_=>none
noncomputable def zm:List D->Option Rz
 |[.tup xs]=>some (.dat (.tup xs.reverse))
 |_=>none
noncomputable def zp:List D->Option Rz
 |[.fl xs,.bl b]=>(dF xs).map λbs=>.dat (.int (bs.count b))
 |_=>none
noncomputable def zu:List D->Option Rz
 |[.fl xs,.bl b]=>((dF xs).bind λbs=>bs.idxOf? b).map λ(i:Nat)=>.dat (.int i)
 |_=>none
noncomputable def O9:List D->Option Rz
 |[.int i]=>if i.natAbs<2^62 then some (.dat (.str (Str.ofString (toString i)))) else none
 |_=>none
noncomputable def O_(f:D->Option PyData):List D->Option (List PyData)
 |[]=>some []
 |x::r=>match f x,O_ f r with
  |some a,some b=>some (a::b)
  |_,_=>none
noncomputable def pd:Nat->D->Option PyData
 |n+1,.tup xs=>(O_ (pd n) xs).map .tuple
 |n+1,.fl xs=>(O_ (pd n) xs).map .list
 |_,.non=>some .none
 |_,.bl b=>some (.bool b)
 |_,.int i=>some (.int i)
 |_,.str x=>some (.str x)
 |_,_=>none
noncomputable def pdT:D->Option PyData
 |.fd [.str k] [.int i]=>some (.dict [(.str k,.int i)])
 |x=>pd 40 x
noncomputable def shw(d:PyData):Option Rz:=if d.showable=true/\d.shown.length<=sizeLine then some (.dat (.str d.shown)) else none
noncomputable def FW:List D->Option Rz
 |[x]=>(pdT x).bind shw
 |_=>none
noncomputable def wK:List (Int×Int):=[(0,1),(0,2),(0,3),(0,4),(0,5),(0,6),(0,7),(1,2),(1,3),(1,4),(1,5),(1,6),(1,7),(2,3),(2,4),(2,5),(2,6),(2,7),(3,4),(3,5),(3,6),(3,7),(4,5),(4,6),(4,7),(5,6),(5,7),(6,7)]
noncomputable def ss(ts:List (Int×Int)):List (Int×Int):=wK.filter λt=>ts.contains t
noncomputable def Pa:D->Option (Int×Int)
 |.tup [.int a,.int b]=>if 0<=a/\a<b/\b<8 then some (a,b) else none
 |_=>none
noncomputable def wL:List D->Option (List (Int×Int))
 |[]=>some []
 |x::r=>match Pa x,wL r with
  |some a,some b=>some (a::b)
  |_,_=>none
noncomputable def pSs:List D->Option Rz
 |[.tup xs]=>(wL xs).map λts=>.nw ((ss ts).map λp=>.tup [.int p.1,.int p.2])
 |_=>none
noncomputable def FZ(is:List Int):Bool:=decide (is.length<=1000)&&is.all λi=>decide (-1000000<=i/\i<=1000000)
noncomputable def Pb(is:List Int):Option Rz:=match FZ is with
 |true=>some (.dat (.int is.sum))
 |false=>none
noncomputable def Pg:List D->Option Rz
 |[a]=>(lC a).bind λxs=>(lD xs).bind Pb
 |_=>none
noncomputable def lF:List Int->List Int
 |[]=>[]
 |x::r=>if r.contains x then lF r else x::lF r
noncomputable def Ga:List D->Option Rz
 |[.tup xs]=>(lD xs).map λis=>.dat (.int (lF is).length)
 |_=>none
noncomputable def rep{α:Type}(xs:List α)(n:Nat):List α:=(List.replicate n xs).flatten
noncomputable def Gb:List D->Option Rz
 |[.fl xs,.int n]=>if 0<=n/\n<=1000/\xs.length<=1000 then some (.nw (rep xs n.toNat)) else none
 |_=>none
noncomputable def zx:List D->Option Rz
 |[.tup xs]=>if xs.all iw=true then (qG xs).map .nw else none
 |_=>none
noncomputable def wM:List D->Option Rz
 |[.tup xs,.int n]=>if 1<=n/\n<=1000/\1<=xs.length/\xs.length<=1000 then some (.dat (.tup (rep xs n.toNat))) else none
 |_=>none
noncomputable def uY:D->Option Bool
 |.non=>some false
 |.bl b=>some b
 |.int i=>some (i != 0)
 |.tup xs=>some (!xs.isEmpty)
 |.fl xs=>some (!xs.isEmpty)
 |_=>none
noncomputable def prim:Pr->List D->Option Rz
 |.add=>yW
 |.aq=>cO λi j=>some (.int (i-j))
 |.mul=>cO λi j=>if (-(2^64)<i/\i<2^64)\/(-(2^64)<j/\j<2^64) then some (.int (i*j)) else none
 |.fdiv=>cO λi j=>if 0<j/\j<1073741824 then some (.int (i/j)) else none
 |.mod=>cO λi j=>if 0<j then some (.int (i%j)) else none
 |.pow=>cO λi j=>if 0<=j/\j<=1000000/\i.natAbs<2^64 then some (.int (i^j.toNat)) else none
 |.neg=>o8 λi=>.int (-i)
 |.eq=>wI id
 |.ne=>wI not
 |.lt=>FN
 |.le=>cO λi j=>some (.bl (decide (i<=j)))
 |.gt=>cO λi j=>some (.bl (decide (j<i)))
 |.ge=>cO λi j=>some (.bl (decide (j<=i)))
 |.inn=>yX id
 |.nin=>yX not
 |.rB=>yZ id
 |.qF=>yZ not
 |.len=>p8 λxs=>some (.dat (.int xs.length))
 |.abs=>o8 λi=>.int (if i<0 then -i else i)
 |.max2=>cO λi j=>some (.int (if j>i then j else i))
 |.min2=>cO λi j=>some (.int (if j<i then j else i))
 |.uX=>FP
 |.divmod=>cO λi j=>if 0<j/\j<1073741824 then some (.tup [.int (i/j),.int (i%j)]) else none
 |.all=>zc
 |.VF=>O7
 |.Ft=>wJ λa b=>decide (a>b)
 |.Fw=>wJ λa b=>decide (a<b)
 |.pY=>mR
 |.Bh=>zj
 |.list=>p8 λxs=>some (.nw xs)
 |.tuple=>nU
 |.ix=>O8
 |.rev=>zm
 |.sorted=>lE
 |.oZ=>pSs
 |.Fx=>Gb
 |.mult=>wM
 |.wG=>zx
 |.sum=>Pg
 |.yS=>Ga
 |.count=>zp
 |.index=>zu
 |.repr=>FW
 |.str1=>O9
noncomputable def jU(aq:Nat->Nat->Bool):D->Kd->Option Bool
 |.exc c _,.cls e=>some (aq c e)
 |.exc _ _,.pZ=>some true
 |.exc _ _,_=>none
 |.ob _ _,_=>none
 |.any,_=>none
 |_,.cls _=>none
 |_,.pZ=>none
 |.bl _,.bool=>some true
 |.bl _,.int=>some true
 |.bl _,_=>some false
 |.int _,.int=>some true
 |.int _,_=>some false
 |.non,_=>some false
 |.str _,.str=>some true
 |.str _,_=>some false
 |.tup _,.tuple=>some true
 |.tup _,_=>some false
 |.fl _,.list=>some true
 |.fl _,_=>some false
 |.fd _ _,.dict=>some true
 |.fd _ _,_=>some false
noncomputable def rd(x:Xv):M D:=λs=>match x with
 |.d v=>some (.ok v,s)
 |.l n=>match s[n]? with
  |some (.lst xs)=>some (.ok (.fl xs),s)
  |_=>none
noncomputable def fO:List Xv->M (List D)
 |[]=>M.ret []
 |x::r=>M.bd (rd x) λd=>M.bd (fO r) λds=>M.ret (d::ds)
noncomputable def dat(x:Xv):M D:=match x with
 |.d v=>M.ret v
 |.l _=>M.no
noncomputable def cg:List Xv->M (List D)
 |[]=>M.ret []
 |x::r=>M.bd (dat x) λd=>M.bd (cg r) λds=>M.ret (d::ds)
noncomputable def bool(x:Xv):M Bool:=match x with
 |.d (.bl b)=>M.ret b
 |_=>M.no
noncomputable def int(x:Xv):M Int:=match x with
 |.d (.int b)=>M.ret b
 |_=>M.no
noncomputable def newL(fz:Bool)(xs:List D):M Xv:=match fz with
 |true=>M.ret (.d (.fl xs))
 |false=>λs=>some (.ok (.l s.length),s++[.lst xs])
noncomputable def bT(fz:Bool)(o:Option Rz):M Xv:=match o with
 |some (.dat d)=>M.ret (.d d)
 |some (.nw xs)=>newL fz xs
 |none=>M.no
noncomputable def cL(x:Xv):M (Nat×List D):=λs=>match x with
 |.l n=>match s[n]? with
  |some (.lst xs)=>some (.ok (n,xs),s)
  |_=>none
 |_=>none
noncomputable def putL(n:Nat)(xs:List D):M Unit:=λs=>some (.ok (),s.set n (.lst xs))
noncomputable def rC:D->Option Kx
 |.non=>some .non
 |.int i=>some (.int i)
 |.tup xs=>(bY xs).map .row
 |_=>none
noncomputable def zy:List D->Option (List Kx)
 |[]=>some []
 |x::r=>match rC x,zy r with
  |some a,some b=>some (a::b)
  |_,_=>none
noncomputable def kOf:D->Option (List Kx)
 |.tup xs=>zy xs
 |_=>none
noncomputable abbrev g8:=List (List Kx×D)
noncomputable def bO(k:List Kx):g8->Option D
 |[]=>none
 |p::r=>if p.1=k then some p.2 else bO k r
noncomputable def iY(k:List Kx)(d:D)(r:g8):g8:=if (bO k r).isSome=true then r.map λp=>if p.1=k then (p.1,d) else p else r++[(k,d)]
noncomputable def eO(x:Xv):M (Nat×g8):=λs=>match x with
 |.l n=>match s[n]? with
  |some (.dct kvs)=>some (.ok (n,kvs),s)
  |_=>none
 |_=>none
noncomputable def putD(n:Nat)(kvs:g8):M Unit:=λs=>some (.ok (),s.set n (.dct kvs))
noncomputable def key(x:Xv):M (List Kx):=match x with
 |.d v=>M.opt (kOf v)
 |.l _=>M.no
noncomputable def enumFrom:Nat->List D->List D
 |_,[]=>[]
 |i,x::r=>.tup [.int i,x]::enumFrom (i+1) r
inductive Src where
 |fix (xs:List D)|live (n:Nat)|jV (n:Nat)
noncomputable def Src.at(c:Src)(i:Nat)(s:S):Option (Option D):=match c with
 |.fix xs=>some xs[i]?
 |.live n=>match s[n]? with
  |some (.lst xs)=>some xs[i]?
  |_=>none
 |.jV n=>match s[n]? with
  |some (.lst xs)=>some (xs[i]?.map λx=>.tup [.int i,x])
  |_=>none
noncomputable def mV(x:Xv):M (Src×Nat):=λs=>match x with
 |.d (.tup xs)=>some (.ok (.fix (enumFrom 0 xs),(enumFrom 0 xs).length),s)
 |.d (.fl xs)=>some (.ok (.fix (enumFrom 0 xs),(enumFrom 0 xs).length),s)
 |.l n=>match s[n]? with
  |some (.lst xs)=>some (.ok (.jV n,xs.length),s)
  |_=>none
 |_=>none
noncomputable def src(x:Xv):M (Src×Nat):=λs=>match x with
 |.d (.tup xs)=>some (.ok (.fix xs,xs.length),s)
 |.d (.fl xs)=>some (.ok (.fix xs,xs.length),s)
 |.l n=>match s[n]? with
  |some (.lst xs)=>some (.ok (.live n,xs.length),s)
  |_=>none
 |_=>none
noncomputable def nW(x:Xv):M (List D):=match x with
 |.d (.tup xs)=>M.ret xs
 |.d (.fl xs)=>M.ret xs
 |_=>M.no
noncomputable def iZ(a b:Int):List D:=(List.range (b-a).toNat).map λ(i:Nat)=>.int (a+i)
noncomputable def eU(a:Int):Bool:=decide (-(2^62)<a)&&decide (a<2^62)
noncomputable def walk(c:Src)(f:D->List D->M (List D)):Nat->Nat->List D->M (List D)
 |0,_,_=>M.no
 |k+1,i,acc=>λs=>match c.at i s with
  |none=>none
  |some none=>some (.ok acc,s)
  |some (some x)=>M.bd (f x acc) (λacc'=>walk c f k (i+1) acc') s
noncomputable def wN(f:D->M Xv):List D->M (List Int)
 |[]=>M.ret []
 |x::r=>M.bd (M.qt (f x)) λy=>M.bd (int y) λk=>M.bd (wN f r) λks=>M.ret (k::ks)
noncomputable abbrev Vs:=List (Option Xv)
noncomputable abbrev Fn:=Nat->List Xv->M Xv
noncomputable def locs:List Xv->List Nat
 |[]=>[]
 |.d _::r=>locs r
 |.l n::r=>n::locs r
noncomputable def cZ:Nat->List Xv->List Xv
 |_,[]=>[]
 |k,.d v::r=>.d v::cZ k r
 |k,.l _::r=>.l k::cZ (k+1) r
noncomputable def i_(s:S):List Nat->Option S
 |[]=>some []
 |n::r=>match s[n]?,i_ s r with
  |some o,some q=>some (o::q)
  |_,_=>none
noncomputable def cP(s:S):List Nat->S->S
 |n::r,o::q=>cP (s.set n o) r q
 |_,_=>s
noncomputable def cB(F:List Xv->M Xv)(xs:List Xv):M Xv:=λs=>
 if (locs xs).Nodup then match i_ s (locs xs) with
  |none=>none
  |some s0=>match F (cZ 0 xs) s0 with
   |none=>none
   |some (.er c fs,s1)=>some (.er c fs,cP s (locs xs) s1)
   |some (.ok (.d v),s1)=>some (.ok (.d v),cP s (locs xs) s1)
   |some (.ok (.l n),s1)=>match (locs xs)[n]? with
    |some m=>some (.ok (.l m),cP s (locs xs) s1)
    |none=>match s1[n]? with
     |some o=>some (.ok (.l s.length),cP s (locs xs) s1++[o])
     |none=>none
 else none
noncomputable def Pj(F:List Xv->M Xv)(c:Nat)(vs:List Xv):M Xv:=λs=>
 if locs vs=[] then match F (.d .any::vs) [] with
  |some (.ok (.d (.tup ds)),_)=>some (.ok (.d (.ob c ds)),s)
  |_=>none
 else none
noncomputable def qb(c:Nat)(x:Xv):M (List D):=match x with
 |.d (.ob e fs)=>if e=c then M.ret fs else M.no
 |_=>M.no
noncomputable def gj{α:Type}:List Nat->List α->List (Option α)->Option (List (Option α))
 |[],[],J=>some J
 |i::is,d::ds,J=>gj is ds (J.set i (some d))
 |_,_,_=>none
noncomputable def jW:D->Option (List D)
 |.tup xs=>some xs
 |_=>none
noncomputable def gO(tg:List Nat)(x:D)(J:Vs):Option Vs:=match tg with
 |[i]=>some (J.set i (some (.d x)))
 |is=>(jW x).bind λds=>gj is (ds.map .d) J
noncomputable def blk(many:Nat)(fr:List Nat)(J:Vs):Vs:=List.replicate many none++fr.map λj=>J[j]?.join
section
variable (aq:Nat->Nat->Bool)(aj:Bool)(F:Fn)
mutual
noncomputable def ev:E->Vs->M Xv
 |.c d,_=>M.ret (.d d)
 |.v i,J=>M.opt (J[i]?.join)
 |.pr fz p xs,J=>M.bd (evs xs J) λvs=>M.bd (fO vs) λds=>bT fz (prim p ds)
 |.wH p q a b c,J=>M.bd (ev a J) λx=>M.bd (ev b J) λy=>M.bd (fO [x,y]) λds=>M.bd (bT true (prim p ds)) λt=>M.bd (bool t) λk=>
   if k=true then M.bd (ev c J) λz=>M.bd (fO [y,z]) λds=>bT true (prim q ds) else M.ret (.d (.bl false))
 |.ch3 p q r a b c d,J=>M.bd (ev a J) λx=>M.bd (ev b J) λy=>M.bd (fO [x,y]) λds=>M.bd (bT true (prim p ds)) λt=>M.bd (bool t) λk=>
   if k=true then M.bd (ev c J) λz=>M.bd (fO [y,z]) λds=>M.bd (bT true (prim q ds)) λt=>M.bd (bool t) λk2=>
    if k2=true then M.bd (ev d J) λw=>M.bd (fO [z,w]) λds=>bT true (prim r ds) else M.ret (.d (.bl false))
   else M.ret (.d (.bl false))
 |.and a b,J=>M.bd (ev a J) λx=>M.bd (bool x) λk=>if k=true then ev b J else M.ret (.d (.bl false))
 |.or a b,J=>M.bd (ev a J) λx=>M.bd (bool x) λk=>if k=true then M.ret (.d (.bl true)) else ev b J
 |.not a,J=>M.bd (ev a J) λx=>M.bd (bool x) λk=>M.ret (.d (.bl (!k)))
 |.ite c a b,J=>M.bd (ev c J) λx=>M.bd (bool x) λk=>if k=true then ev a J else ev b J
 |.tup xs,J=>M.bd (evs xs J) λvs=>M.bd (cg vs) λds=>M.ret (.d (.tup ds))
 |.lst fz xs,J=>M.bd (evs xs J) λvs=>M.bd (cg vs) λds=>newL fz ds
 |.Fy k i,_=>M.ret (.d (.fd [.str k] [.int i]))
 |.call f xs,J=>M.bd (evs xs J) λvs=>cB (F f) vs
 |.o7 a k,J=>M.bd (ev a J) λx=>M.bd (rd x) λd=>M.bd (M.opt (jU aq d k)) λb=>M.ret (.d (.bl b))
 |.sl fz a lo hi,J=>M.bd (ev a J) λx=>M.bd (uZ lo J) λl=>M.bd (uZ hi J) λh=>M.bd (rd x) λd=>bT fz (cutD d l h)
 |.meth fz p k o xs,J=>M.bd (ev o J) λx=>M.bd (rd x) λd=>if yV k d=true then M.bd (evs xs J) λys=>M.bd (fO (x::ys)) λds=>bT fz (prim p ds) else M.no
 |.push o a,J=>M.bd (ev o J) λx=>M.bd (cL x) λ_=>M.bd (ev a J) λy=>M.bd (dat y) λd=>M.bd (cL x) λnx=>if nx.2.length<sizeLine then M.bd (putL nx.1 (nx.2++[d])) λ_=>M.ret (.d .non) else M.no
 |.pop o,J=>M.bd (ev o J) λx=>M.bd (cL x) λnx=>match nx.2.getLast? with
   |some d=>M.bd (putL nx.1 nx.2.dropLast) λ_=>M.ret (.d d)
   |none=>M.no
 |.comp fz elt tg it fr many cond,J=>if aj=true then M.bd (lQ it J) λcn=>
   M.bd (walk cn.1 (λd acc=>M.bd (M.opt (gO tg d (blk many fr J))) λJ'=>M.bd (M.qt (qd cond J')) λok=>
    if ok=true then M.bd (M.qt (ev elt J')) λy=>M.bd (dat y) λe=>if acc.length<sizeLine then M.ret (acc++[e]) else M.no else M.ret acc) (cn.2+1) 0 []) λxs=>newL fz xs
  else M.no
 |.Fz fz elt tg it VG Fp fr many cond,J=>if aj=true then M.bd (lQ it J) λcn=>
   M.bd (walk cn.1 (λd acc=>M.bd (M.opt (gO tg d (blk many fr J))) λJ'=>M.bd (M.qt (lQ Fp J')) λVH=>
    walk VH.1 (λd2 acc=>M.bd (M.opt (gO VG d2 J')) λVJ=>M.bd (M.qt (qd cond VJ)) λok=>
     if ok=true then M.bd (M.qt (ev elt VJ)) λy=>M.bd (dat y) λe=>if acc.length<sizeLine then M.ret (acc++[e]) else M.no else M.ret acc) (VH.2+1) 0 acc) (cn.2+1) 0 []) λxs=>newL fz xs
  else M.no
 |.fld o cs i,J=>M.bd (ev o J) λx=>match x with
   |.d (.exc c fs)=>if cs.contains c=true then M.opt (fs[i]?.map .d) else M.no
   |_=>M.no
 |.of o c i,J=>M.bd (ev o J) λx=>M.bd (qb c x) λfs=>M.opt (fs[i]?.map .d)
 |.mk c f xs,J=>M.bd (evs xs J) λvs=>Pj (F f) c vs
 |.cm c f o xs,J=>M.bd (ev o J) λx=>M.bd (qb c x) λ_=>M.bd (evs xs J) λvs=>M.qt (cB (F f) (x::vs))
 |.p7,_=>λs=>some (.ok (.l s.length),s++[.dct []])
 |.yU b k d,J=>M.bd (ev k J) λx=>M.bd (ev d J) λy=>M.bd (key x) λkx=>M.bd (eO y) λnk=>M.ret (.d (.bl ((bO kx nk.2).isSome==b)))
 |.nR d k,J=>M.bd (ev d J) λy=>M.bd (ev k J) λx=>M.bd (key x) λkx=>M.bd (eO y) λnk=>M.opt ((bO kx nk.2).map .d)
 |.Bj a,J=>M.bd (ev a J) λx=>M.bd (rd x) λd=>M.bd (M.opt (uY d)) λk=>M.ret (.d (.bl k))
 |.FJ fz a b,J=>if aj=true then M.bd (ev a J) λx=>match x with
   |.d (.fl xs)=>M.bd (wN (λd=>ev b [some (.d d)]) xs) λks=>M.bd (M.opt (mU (ltK ks) xs)) λys=>newL fz ys
   |_=>M.no else M.no
 |.orv a b,J=>M.bd (ev a J) λx=>M.bd (rd x) λd=>M.bd (M.opt (uY d)) λk=>if k=true then M.ret x else ev b J
 |.ins o i a,J=>M.bd (ev o J) λx=>M.bd (cL x) λ_=>M.bd (ev i J) λz=>M.bd (int z) λj=>M.bd (ev a J) λy=>M.bd (dat y) λd=>M.bd (cL x) λnx=>if 0<=j/\j<=nx.2.length/\nx.2.length<sizeLine then M.bd (putL nx.1 (nx.2.take j.toNat++d::nx.2.drop j.toNat)) λ_=>M.ret (.d .non) else M.no
 |.no,_=>M.no
noncomputable def lQ:Wk->Vs->M (Src×Nat)
 |.seq e,J=>M.bd (ev e J) src
 |.rg a b,J=>M.bd (ev a J) λx=>M.bd (ev b J) λy=>M.bd (int x) λi=>M.bd (int y) λj=>if eU i&&eU j then M.ret (.fix (iZ i j),(iZ i j).length) else M.no
 |.zip a b,J=>M.bd (ev a J) λx=>M.bd (ev b J) λy=>M.bd (nW x) λxs=>M.bd (nW y) λys=>M.ret (.fix (List.zipWith (λp q=>.tup [p,q]) xs ys),(List.zipWith (λ(p q:D)=>D.tup [p,q]) xs ys).length)
 |.enum a,J=>M.bd (ev a J) mV
 |.rrg a,J=>M.bd (ev a J) λx=>M.bd (int x) λi=>if eU i then M.ret (.fix (iZ 0 i).reverse,(iZ 0 i).length) else M.no
noncomputable def uZ:Eo->Vs->M (Option Int)
 |.no,_=>M.ret none
 |.yes a,J=>M.bd (ev a J) λx=>M.bd (int x) λi=>M.ret (some i)
noncomputable def qd:Eo->Vs->M Bool
 |.no,_=>M.ret true
 |.yes a,J=>M.bd (ev a J) bool
noncomputable def evs:Es->Vs->M (List Xv)
 |.nil,_=>M.ret []
 |.cons a r,J=>M.bd (ev a J) λx=>M.bd (evs r J) λxs=>M.ret (x::xs)
end
end
inductive Out where
 |nx (J:Vs)|rt (x:Xv)|bk (J:Vs)|ct (J:Vs)|er (c:Nat) (fs:List D) (J:Vs)
noncomputable abbrev MS:=S->Option (Out×S)
noncomputable def ofM{α:Type}(m:M α)(J:Vs)(k:α->MS):MS:=λs=>match m s with
 |some (.ok a,s')=>k a s'
 |some (.er c fs,s')=>some (.er c fs J,s')
 |none=>none
noncomputable def cC(m:MS)(k:Vs->MS):MS:=λs=>match m s with
 |some (.nx J,s')=>k J s'
 |r=>r
section
variable (aq:Nat->Nat->Bool)
noncomputable def store(aj:Bool)(F:Fn)(t:Tg)(x:Xv)(J:Vs):MS:=match t with
 |.nm i=>λs=>some (.nx (J.set i (some x)),s)
 |.tp is=>if aj=true then ofM (M.bd (dat x) λd=>M.opt ((jW d).bind λds=>gj is (ds.map .d) J)) J (λJ' s=>some (.nx J',s)) else λ_=>none
 |.aq o i=>ofM (M.bd (dat x) λd=>M.bd (ev aq aj F o J) λy=>M.bd (ev aq aj F i J) λz=>M.bd (int z) λj=>M.bd (cL y) λnx=>
   match L2.pW nx.2.length j with
   |some q=>putL nx.1 (nx.2.set q d)
   |none=>M.no) J (λ_ s=>some (.nx J,s))
noncomputable def nY(c:Vs->M Bool)(b:Vs->MS):Nat->Vs->MS
 |0,_=>λ_=>none
 |k+1,J=>ofM (c J) J λok=>if ok=true then λs=>match b J s with
   |some (.nx J',s')=>nY c b k J' s'
   |some (.ct J',s')=>nY c b k J' s'
   |some (.bk J',s')=>some (.nx J',s')
   |r=>r
  else λs=>some (.nx J,s)
noncomputable def dj(c:Src)(b:D->Vs->MS):Nat->Nat->Vs->MS
 |0,_,_=>λ_=>none
 |k+1,i,J=>λs=>match c.at i s with
  |none=>none
  |some none=>some (.nx J,s)
  |some (some d)=>match b d J s with
   |some (.nx J',s')=>dj c b k (i+1) J' s'
   |some (.ct J',s')=>dj c b k (i+1) J' s'
   |some (.bk J',s')=>some (.nx J',s')
   |r=>r
noncomputable def goes(i:Nat):Out->Out
 |.nx J=>.nx (J.set i none)
 |.bk J=>.bk (J.set i none)
 |.ct J=>.ct (J.set i none)
 |r=>r
noncomputable def Gd:Nat:=1000000000000
mutual
noncomputable def ex(aj:Bool)(F:Bool->Fn):St->Vs->MS
 |.pass,J=>λs=>some (.nx J,s)
 |.ex e,J=>ofM (ev aq aj (F aj) e J) J λ_ s=>some (.nx J,s)
 |.asg t e,J=>ofM (ev aq aj (F aj) e J) J λx=>store aq aj (F aj) t x J
 |.par i j a b,J=>if aj=true then ofM (M.bd (ev aq aj (F aj) a J) λx=>M.bd (ev aq aj (F aj) b J) λy=>M.ret (x,y)) J λxy s=>some (.nx ((J.set i (some xy.1)).set j (some xy.2)),s) else λ_=>none
 |.aug i e,J=>ofM (M.bd (M.opt (J[i]?.join)) λx=>M.bd (ev aq aj (F aj) e J) λy=>M.bd (int x) λp=>M.bd (int y) λq=>M.ret (p+q)) J λr s=>some (.nx (J.set i (some (.d (.int r)))),s)
 |.ret e,J=>ofM (ev aq aj (F aj) e J) J λx s=>some (.rt x,s)
 |.rise c kp xs,J=>if aj=true then ofM (M.bd (evs aq aj (F aj) xs J) cg) J λds s=>some (.er c (if kp=true then ds else []) J,s) else λ_=>none
 |.iff c t e,J=>ofM (M.bd (ev aq aj (F aj) c J) bool) J λb=>if b=true then exs aj F t J else exs aj F e J
 |.wh c b,J=>nY (λJ=>M.bd (ev aq aj (F aj) c J) bool) (λJ=>exs aj F b J) Gd J
 |.fr t w b,J=>if aj=true then ofM (lQ aq aj (F aj) w J) J λcn=>dj cn.1 (λd J=>cC (store aq aj (F aj) t (.d d) J) λJ'=>exs aj F b J') (cn.2+1) 0 J else λ_=>none
 |.O6 b d i h,J=>if aj=true then λs=>match exs aj F b J s with
   |some (.er c fs J',s')=>if aq c d=true then (match exs false F h (J'.set i (some (.d (.exc c fs)))) s' with
    |some (r,s'')=>(match r with
     |.er _ _ _=>none
     |r=>some (goes i r,s''))
    |none=>none) else none
   |r=>r
  else λ_=>none
 |.dput d k v,J=>ofM (M.bd (ev aq aj (F aj) v J) λz=>M.bd (dat z) λw=>M.bd (ev aq aj (F aj) d J) λy=>M.bd (ev aq aj (F aj) k J) λx=>M.bd (key x) λkx=>M.bd (eO y) λnk=>if nk.2.length<sizeLine then putD nk.1 (iY kx w nk.2) else M.no) J (λ_ s=>some (.nx J,s))
 |.no,_=>λ_=>none
noncomputable def exs(aj:Bool)(F:Bool->Fn):bU->Vs->MS
 |.nil,J=>λs=>some (.nx J,s)
 |.cons a r,J=>cC (ex aj F a J) λJ'=>exs aj F r J'
end
structure Df where
 many:Nat
 gP:Nat
 body:bU
noncomputable def call(T:Nat->Option Df):Nat->Bool->Fn
 |0,_,_,_=>M.no
 |k+1,aj,f,xs=>match T f with
  |none=>M.no
  |some d=>if xs.length=d.gP then λs=>match exs aq aj (λc=>call T k c) d.body (xs.map some++List.replicate (d.many-d.gP) none) s with
    |some (.nx _,s')=>some (.ok (.d .non),s')
    |some (.rt v,s')=>some (.ok v,s')
    |some (.er c fs _,s')=>some (.er c fs,s')
    |_=>none
   else M.no
end
end Mi
namespace Mi
open PySem L2
structure Ph where
 z:Addr->Prop
 l:List Addr
structure Cl where
 a:Nat->Addr
 f:Nat->List Str
 b:Nat->Addr
 g:Nat->List Str
section
variable (K:W.Frag)(cA:Cl)
def KT(a:Addr)(vs:List V):Prop:=fu K (λ_=>none) a vs
def KL(a:Addr)(vs:List V):Prop:=cM K (λ_=>none) a vs
def TupAt(U:Ph)(H:Hp)(a:Addr)(vs:List V):Prop:=(Rd H a (.tup vs)/\¬U.z a)\/KT K a vs
def LstAt(U:Ph)(H:Hp)(a:Addr)(vs:List V):Prop:=(Rd H a (.lst vs)/\¬U.z a)\/KL K a vs
def ExcAt(U:Ph)(H:Hp)(a:Addr)(c:Nat)(vs:List V):Prop:=¬U.z a/\((cA.f c=[]/\vs=[]/\H a=some (uV a (cA.a c) none))\/∃dx,H a=some (uV a (cA.a c) (some dx))/\¬U.z dx/\H dx=some (.xd ((cA.f c).zip vs))/\(cA.f c).length=vs.length)
def nZ(U:Ph)(H:Hp)(a:Addr)(c:Nat)(vs:List V):Prop:=¬U.z a/\∃dx,H a=some (.ins (cA.b c) dx ((cA.g c).zip vs))/\(cA.g c).length=vs.length
mutual
inductive Rep (U:Ph) (H:Hp):D->V->Prop where
 |non:Rep U H .non .non
 |bl (b:Bool):Rep U H (.bl b) (.bl b)
 |int (i:Int):Rep U H (.int i) (.int i)
 |str (x:Str):Rep U H (.str x) (.str x)
 |tup {a:Addr} {xs:List D} {vs:List V} (h:TupAt K U H a vs) (r:aB U H xs vs):Rep U H (.tup xs) (.ref a)
 |fl {a:Addr} {xs:List D} {vs:List V} (h:LstAt K U H a vs) (r:aB U H xs vs):Rep U H (.fl xs) (.ref a)
 |fd {a:Addr} {k:Str} {i:Int} (h:H a=some (.dK [(.inr k,.int i)])) (n:¬U.z a):Rep U H (.fd [.str k] [.int i]) (.ref a)
 |exc {a:Addr} {c:Nat} {xs:List D} {vs:List V} (h:ExcAt cA U H a c vs) (r:aB U H xs vs):Rep U H (.exc c xs) (.ref a)
 |ob {a:Addr} {c:Nat} {xs:List D} {vs:List V} (h:nZ cA U H a c vs) (r:aB U H xs vs):Rep U H (.ob c xs) (.ref a)
 |any (a:Addr):Rep U H .any (.ref a)
inductive aB (U:Ph) (H:Hp):List D->List V->Prop where
 |nil:aB U H [] []
 |cons {d:D} {v:V} {ds:List D} {vs:List V} (h:Rep U H d v) (r:aB U H ds vs):aB U H (d::ds) (v::vs)
end
inductive aV (U:Ph) (H:Hp):Xv->V->Prop where
 |d {x:D} {v:V} (h:Rep K cA U H x v):aV U H (.d x) v
 |l {n:Nat} {a:Addr} (h:U.l[n]?=some a):aV U H (.l n) (.ref a)
inductive aN (U:Ph) (H:Hp):List Xv->List V->Prop where
 |nil:aN U H [] []
 |cons {d:Xv} {v:V} {ds:List Xv} {vs:List V} (h:aV K cA U H d v) (r:aN U H ds vs):aN U H (d::ds) (v::vs)
noncomputable def Pk:Kx->Int
 |.non=>reduceHash 0xFCA86420
 |.int i=>hashInt i
 |.row is=>reduceHash (Builtin.Tuple.tupleHashOf (is.map hashInt))
noncomputable def o9(k:List Kx):Int:=reduceHash (Builtin.Tuple.tupleHashOf (k.map Pk))
noncomputable def qe:Kx->D
 |.non=>.non
 |.int i=>.int i
 |.row is=>.tup (is.map .int)
noncomputable def iy(k:List Kx):D:=.tup (k.map qe)
noncomputable abbrev lG:=List (List Kx×Addr×Value)
noncomputable def rD(a:Addr)(xs:lG):HO:=.ext λh=>(a==sysModules)=false/\xs.length<=sizeLine/\∃o es ep,h.get? a=some o/\o.ExactDict/\o.data=.dict es ep/\es.toList=xs.map (λx=>⟨o9 x.1,.ref x.2.1,x.2.2⟩)/\(xs.map (·.1)).Nodup
inductive iH (U:Ph) (H:Hp):g8->lG->Prop where
 |nil:iH U H [] []
 |cons {k:List Kx} {d:D} {ka:Addr} {u:Value} {v:V} {r:g8} {xs:lG} (hk:Rep K cA U H (iy k) (.ref ka)) (hu:RelV v u) (hv:Rep K cA U H d v) (q:iH U H r xs):iH U H ((k,d)::r) ((k,ka,u)::xs)
noncomputable def jE(U:Ph)(H:Hp)(a:Addr):SO->Prop
 |.lst xs=>∃vs,H a=some (.lst vs)/\aB K cA U H xs vs
 |.dct kvs=>∃xs,H a=some (rD a xs)/\iH K cA U H kvs xs
structure aF(U:Ph)(H:Hp)(s:S):Prop where
 len:U.l.length=s.length
 obj:∀(n:Nat) o a,s[n]?=some o->U.l[n]?=some a->jE K cA U H a o
 uniq:U.l.Nodup
 lz:∀a∈U.l,U.z a
 zt:∀a,U.z a->∃o,H a=some o
structure Ext(U:Ph)(H:Hp)(U':Ph)(H':Hp):Prop where
 more:∃r,U'.l=U.l++r/\∀b∈r,H b=none
 qH:∀a,U.z a->U'.z a
 lH:∀a,U'.z a->U.z a\/H a=none
 frame:∀a o,H a=some o->a∉U.l->H' a=some o
 stay:∀a o,H a=some o->∃o',H' a=some o'
def aX(U:Ph)(H:Hp)(Z:L2.St)(J:Vs):Prop:=Z.length=J.length/\∀(i:Nat) (x:Xv),J[i]?=some (some x)->∃v,Z[i]?=some (some v)/\aV K cA U H x v
end
section
variable {K:W.Frag}{cA:Cl}{U U' Pn:Ph}{H H' Gf:Hp}{s:S}{Z:L2.St}{J:Vs}
theorem Ext.refl:Ext U H U H:=⟨⟨[],by simp,by simp⟩,λ_ h=>h,λ_ h=>.inl h,λ_ _ h _=>h,λ_ o h=>⟨o,h⟩⟩
theorem Ext.jX(x:Ext U H U' H'){a:Addr}(h:H' a=none):H a=none:=by
 cases e:H a with
 |none=>rfl
 |some o=>obtain⟨o',q⟩:=x.stay a o e;rw[h] at q;cases q
theorem Ext.trans(x:Ext U H U' H')(y:Ext U' H' Pn Gf):Ext U H Pn Gf:=by
 obtain⟨r,e,hr⟩:=x.more;obtain⟨r',e',qg⟩:=y.more;refine⟨⟨r++r',by rw[e',e,Il],λb hb=>?_⟩,λa h=>y.qH a (x.qH a h),λa h=>?_,λa o h n=>y.frame a o (x.frame a o h n) ?_,λa o h=>?_⟩
 ·rcases nD.mp hb with z|z
  ·exact hr b z
  ·exact x.jX (qg b z)
 ·rcases y.lH a h with z|z
  ·exact x.lH a z
  ·exact .inr (x.jX z)
 ·rw[e];intro z;rcases nD.mp z with z|z
  ·exact n z
  ·rw[hr a z] at h;cases h
 ·obtain⟨o',q⟩:=x.stay a o h;exact y.stay a o' q
theorem Ext.get(x:Ext U H U' H'){n:Nat}{a:Addr}(h:U.l[n]?=some a):U'.l[n]?=some a:=by
 obtain⟨r,e,_⟩:=x.more;rw[e,nq (dX.mp h).1];exact h
theorem Ext.out(x:Ext U H U' H')(hz:∀a∈U.l,U.z a){a:Addr}{o:HO}(h:H a=some o)(n:¬U.z a):H' a=some o/\¬U'.z a:=
 ⟨x.frame a o h λz=>n (hz a z),λz=>by
  rcases x.lH a z with y|y
  ·exact n y
  ·rw[h] at y;cases y⟩
theorem TupAt.mono(x:Ext U H U' H')(hz:∀a∈U.l,U.z a){a:Addr}{vs:List V}(h:TupAt K U H a vs):TupAt K U' H' a vs:=by
 rcases h with ⟨h|⟨o,h⟩,n⟩|h
 ·obtain⟨p,q⟩:=x.out hz h n;exact .inl ⟨.inl p,q⟩
 ·obtain⟨p,q⟩:=x.out hz h n;exact .inl ⟨.inr ⟨o,p⟩,q⟩
 ·exact .inr h
theorem LstAt.mono(x:Ext U H U' H')(hz:∀a∈U.l,U.z a){a:Addr}{vs:List V}(h:LstAt K U H a vs):LstAt K U' H' a vs:=by
 rcases h with ⟨h|⟨o,h⟩,n⟩|h
 ·obtain⟨p,q⟩:=x.out hz h n;exact .inl ⟨.inl p,q⟩
 ·obtain⟨p,q⟩:=x.out hz h n;exact .inl ⟨.inr ⟨o,p⟩,q⟩
 ·exact .inr h
theorem ExcAt.mono(x:Ext U H U' H')(hz:∀a∈U.l,U.z a){a:Addr}{c:Nat}{vs:List V}(h:ExcAt cA U H a c vs):ExcAt cA U' H' a c vs:=by
 obtain⟨n,⟨e1,e2,h⟩|⟨dx,h,n2,h2,h3⟩⟩:=h
 ·obtain⟨p,q⟩:=x.out hz h n;exact⟨q,.inl ⟨e1,e2,p⟩⟩
 ·obtain⟨p,q⟩:=x.out hz h n;obtain⟨p2,q2⟩:=x.out hz h2 n2;exact⟨q,.inr ⟨dx,p,q2,p2,h3⟩⟩
theorem nZ.mono(x:Ext U H U' H')(hz:∀a∈U.l,U.z a){a:Addr}{c:Nat}{vs:List V}(h:nZ cA U H a c vs):nZ cA U' H' a c vs:=by
 obtain⟨n,dx,h,h3⟩:=h;obtain⟨p,q⟩:=x.out hz h n;exact⟨q,dx,p,h3⟩
theorem Rep.mono(x:Ext U H U' H')(hz:∀a∈U.l,U.z a){d:D}{v:V}(h:Rep K cA U H d v):Rep K cA U' H' d v:=
 Rep.rec (motive_1:=λd v _=>Rep K cA U' H' d v) (motive_2:=λd v _=>aB K cA U' H' d v) .non .bl .int .str (λh _ i=>.tup (h.mono x hz) i) (λh _ i=>.fl (h.mono x hz) i) (λh n=>.fd (x.out hz h n).1 (x.out hz h n).2) (λh _ i=>.exc (h.mono x hz) i) (λh _ i=>.ob (h.mono x hz) i) .any .nil (λ_ _ i j=>.cons i j) h
theorem aB.mono(x:Ext U H U' H')(hz:∀a∈U.l,U.z a){d:List D}{v:List V}(h:aB K cA U H d v):aB K cA U' H' d v:=
 aB.rec (motive_1:=λd v _=>Rep K cA U' H' d v) (motive_2:=λd v _=>aB K cA U' H' d v) .non .bl .int .str (λh _ i=>.tup (h.mono x hz) i) (λh _ i=>.fl (h.mono x hz) i) (λh n=>.fd (x.out hz h n).1 (x.out hz h n).2) (λh _ i=>.exc (h.mono x hz) i) (λh _ i=>.ob (h.mono x hz) i) .any .nil (λ_ _ i j=>.cons i j) h
theorem aB.map(m:∀d v,Rep K cA U H d v->Rep K cA U' H' d v):∀{d:List D} {v:List V},aB K cA U H d v->aB K cA U' H' d v
 |_,_,.nil=>.nil
 |_,_,.cons h r=>.cons (m _ _ h) (aB.map m r)
theorem iH.map(m:∀d v,Rep K cA U H d v->Rep K cA U' H' d v){d:g8}{v:lG}(h:iH K cA U H d v):iH K cA U' H' d v:=by
 induction h with
 |nil=>exact .nil
 |cons a b c _ ih=>exact .cons (m _ _ a) b (m _ _ c) ih
theorem jE.map{a:Addr}{o:SO}(h:jE K cA U H a o)(e:∀u,H a=some u->H' a=some u)(m:∀d v,Rep K cA U H d v->Rep K cA U' H' d v):jE K cA U' H' a o:=by
 cases o with
 |lst xs=>obtain⟨vs,q,r⟩:=h;exact⟨vs,e _ q,r.map m⟩
 |dct xs=>obtain⟨vs,q,r⟩:=h;exact⟨vs,e _ q,r.map m⟩
theorem aV.mono(x:Ext U H U' H')(hz:∀a∈U.l,U.z a){d:Xv}{v:V}(h:aV K cA U H d v):aV K cA U' H' d v:=by
 cases h with
 |d h=>exact .d (h.mono x hz)
 |l h=>exact .l (x.get h)
theorem aN.mono(x:Ext U H U' H')(hz:∀a∈U.l,U.z a):∀{ds:List Xv} {vs:List V},aN K cA U H ds vs->aN K cA U' H' ds vs
 |_,_,.nil=>.nil
 |_,_,.cons h r=>.cons (h.mono x hz) (aN.mono x hz r)
theorem aX.mono(x:Ext U H U' H')(hz:∀a∈U.l,U.z a)(h:aX K cA U H Z J):aX K cA U' H' Z J:=⟨h.1,λi d e=>let ⟨v,a,b⟩:=h.2 i d e;⟨v,a,b.mono x hz⟩⟩
theorem aB.len:∀{ds:List D} {vs:List V},aB K cA U H ds vs->ds.length=vs.length
 |_,_,.nil=>rfl
 |_,_,.cons _ r=>by rw[fZ,fZ,aB.len r]
theorem aN.len:∀{ds:List Xv} {vs:List V},aN K cA U H ds vs->ds.length=vs.length
 |_,_,.nil=>rfl
 |_,_,.cons _ r=>by rw[fZ,fZ,aN.len r]
theorem aB.get:∀{ds:List D} {vs:List V} {i:Nat} {d:D},aB K cA U H ds vs->ds[i]?=some d->∃v,vs[i]?=some v/\Rep K cA U H d v
 |_,_,_,_,.nil,e=>by simp at e
 |_,_,0,_,.cons h _,e=>by simp at e;subst e;exact⟨_,rfl,h⟩
 |_,_,i+1,d,.cons _ r,e=>by
  obtain⟨v,a,b⟩:=aB.get (i:=i) (d:=d) r (by simpa using e);exact⟨v,by simpa using a,b⟩
theorem aN.get:∀{ds:List Xv} {vs:List V} {i:Nat} {d:Xv},aN K cA U H ds vs->ds[i]?=some d->∃v,vs[i]?=some v/\aV K cA U H d v
 |_,_,_,_,.nil,e=>by simp at e
 |_,_,0,_,.cons h _,e=>by simp at e;subst e;exact⟨_,rfl,h⟩
 |_,_,i+1,d,.cons _ r,e=>by
  obtain⟨v,a,b⟩:=aN.get (i:=i) (d:=d) r (by simpa using e);exact⟨v,by simpa using a,b⟩
theorem aB.none:∀{ds:List D} {vs:List V} {i:Nat},aB K cA U H ds vs->ds[i]?=none->vs[i]?=none:=λ{ds vs i} r e=>by
 have:=r.len;have h2:ds.length<=i:=oF.mp e;exact oF.mpr (by lia)
theorem aB.app:∀{ds es:List D} {vs us:List V},aB K cA U H ds vs->aB K cA U H es us->aB K cA U H (ds++es) (vs++us)
 |_,_,_,_,.nil,s=>s
 |_,_,_,_,.cons h r,s=>.cons h (aB.app r s)
theorem aB.take:∀{ds:List D} {vs:List V} (n:Nat),aB K cA U H ds vs->aB K cA U H (ds.take n) (vs.take n)
 |_,_,0,_=>by simp;exact .nil
 |_,_,n+1,.nil=>by simp;exact .nil
 |_,_,n+1,.cons h r=>by simp only[List.take_succ_cons];exact .cons h (aB.take n r)
theorem aB.drop:∀{ds:List D} {vs:List V} (n:Nat),aB K cA U H ds vs->aB K cA U H (ds.drop n) (vs.drop n)
 |_,_,0,r=>r
 |_,_,n+1,.nil=>by simp;exact .nil
 |_,_,n+1,.cons _ r=>by simp only[List.drop_succ_cons];exact aB.drop n r
theorem aB.set{d:D}{v:V}(h:Rep K cA U H d v):∀{ds:List D} {vs:List V} (i:Nat),aB K cA U H ds vs->aB K cA U H (ds.set i d) (vs.set i v)
 |_,_,_,.nil=>.nil
 |_,_,0,.cons _ r=>.cons h r
 |_,_,i+1,.cons q r=>.cons q (aB.set h i r)
theorem aB.rev:∀{ds:List D} {vs:List V},aB K cA U H ds vs->aB K cA U H ds.reverse vs.reverse
 |_,_,.nil=>.nil
 |_,_,.cons h r=>by rw[Im,Im];exact(aB.rev r).app (.cons h .nil)
theorem aB.cut{ds:List D}{vs:List V}{l h:Option Int}(r:aB K cA U H ds vs):aB K cA U H (Mi.cut ds l h) (lg vs l h):=by
 unfold Mi.cut lg;rw[<-r.len];exact(r.drop _).take _
def bf(H H':Hp):Prop:=∀a o,H a=some o->H' a=some o
theorem bf.refl:bf H H:=λ_ _ h=>h
theorem bf.trans(x:bf H H')(y:bf H' Gf):bf H Gf:=λa o h=>y a o (x a o h)
theorem bf.new{p:Addr}{o:HO}(hp:H p=none):bf H (upd H p o):=λa u h=>by rw[dO (Ba h hp)];exact h
theorem bf.ext(g:bf H H'):Ext U H U H':=⟨⟨[],by simp,by simp⟩,λ_ h=>h,λ_ h=>.inl h,λa o h _=>g a o h,λa o h=>⟨o,g a o h⟩⟩
theorem jE.grow{a:Addr}{o:SO}(g:bf H H')(hz:∀a∈U.l,U.z a)(h:jE K cA U H a o):jE K cA U H' a o:=h.map (g _) λ_ _ r=>r.mono g.ext hz
theorem aF.grow(g:bf H H')(h:aF K cA U H s):aF K cA U H' s:=
 ⟨h.len,λn o a e1 e2=>(h.obj n o a e1 e2).grow g h.lz,h.uniq,h.lz,λa z=>let ⟨o,e⟩:=h.zt a z;⟨o,g _ _ e⟩⟩
theorem aF.nz(h:aF K cA U H s){p:Addr}(hp:H p=none):¬U.z p:=λz=>by obtain⟨o,e⟩:=h.zt p z;rw[hp] at e;cases e
noncomputable def Ph.add(U:Ph)(p:Addr):Ph:=⟨λa=>U.z a\/a=p,U.l++[p]⟩
theorem Ext.add{p:Addr}{o:HO}(hp:H p=none):Ext U H (U.add p) (upd H p o):=
 ⟨⟨[p],rfl,by simpa using hp⟩,λ_ h=>.inl h,λa h=>h.imp id λe=>by rw[e];exact hp,λa u h _=>bf.new hp a u h,λa u h=>⟨u,bf.new hp a u h⟩⟩
theorem aF.Gg{p:Addr}{so:SO}{ho:HO}(h:aF K cA U H s)(hp:H p=none)(hr:jE K cA (U.add p) (upd H p ho) p so):aF K cA (U.add p) (upd H p ho) (s++[so]):=by
 have pn:p∉U.l:=λz=>h.nz hp (h.lz p z);refine⟨by show (U.l++[p]).length=_;rw[lV,lV,h.len];rfl,λn o a e1 e2=>?_,?_,λa ha=>?_,λa ha=>?_⟩
 ·have e2:(U.l++[p])[n]?=some a:=e2;by_cases hn:n<s.length
  ·rw[nq hn] at e1;rw[nq (by rw[h.len];exact hn)] at e2;exact(h.obj n o a e1 e2).map (bf.new hp _) λ_ _ r=>r.mono (Ext.add hp) h.lz
  ·have hl:n=s.length:=by
    have z:=(dX.mp e1).1;rw[lV] at z;simp at z
    lia
   subst hl;rw[oE (bI _)] at e1;rw[oE (by rw[h.len];exact bI _)] at e2;simp at e1;simp[h.len] at e2;subst e1 e2;exact hr
 ·show (U.l++[p]).Nodup;rw[Io];refine⟨h.uniq,by simp,λa ha b hb e=>?_⟩;simp at hb;subst hb e;exact pn ha
 ·have ha:a∈U.l++[p]:=ha;rcases nD.mp ha with z|z
  ·exact .inl (h.lz a z)
  ·simp at z;exact .inr z
 ·rcases ha with z|z
  ·obtain⟨o,e⟩:=h.zt a z;exact⟨o,bf.new hp _ _ e⟩
  ·subst z;exact⟨_,jC⟩
theorem aF.add{p:Addr}{xs:List D}{vs:List V}(h:aF K cA U H s)(hp:H p=none)(r:aB K cA U H xs vs):aF K cA (U.add p) (upd H p (.lst vs)) (s++[.lst xs]):=h.Gg hp ⟨vs,jC,r.mono (Ext.add hp) h.lz⟩
theorem Ext.write{n:Nat}{p:Addr}{o:HO}(hp:U.l[n]?=some p)(hv:∃u,H p=some u):Ext U H U (upd H p o):=by
 have hm:p∈U.l:=eZ hp;refine⟨⟨[],by simp,by simp⟩,λ_ h=>h,λ_ h=>.inl h,λa u h n=>by
  have ne:a≠p:=λe=>n (by rw[e];exact hm);rw[dO ne];exact h,λa u h=>?_⟩
 by_cases e:a=p
 ·subst e;exact⟨o,jC⟩
 ·exact⟨u,by rw[dO e];exact h⟩
theorem aF.rE{n:Nat}{p:Addr}{so:SO}{ho:HO}(h:aF K cA U H s)(hl:n<s.length)(hp:U.l[n]?=some p)(hr:jE K cA U (upd H p ho) p so):aF K cA U (upd H p ho) (s.set n so):=by
 have hv:=h.zt p (h.lz p (eZ hp));have x:Ext U H U (upd H p ho):=Ext.write hp hv;refine⟨by rw[nF];exact h.len,λm o a e1 e2=>?_,h.uniq,h.lz,λa ha=>?_⟩
 ·by_cases hm:n=m
  ·subst hm;rw[vU hl] at e1;cases e1;rw[hp] at e2;cases e2;exact hr
  ·rw[qx hm] at e1;have ne:a≠p:=λy=>by
    subst y;exact hm ((LR (dX.mp hp).1 h.uniq).mp (hp.trans e2.symm))
   exact(h.obj m o a e1 e2).map (λ_ q=>by rw[dO ne];exact q) λ_ _ r=>r.mono x h.lz
 ·obtain⟨o,e⟩:=h.zt a ha;obtain⟨o',e'⟩:=x.stay a o e;exact⟨o',e'⟩
theorem aF.write{n:Nat}{p:Addr}{xs ys:List D}{us:List V}(h:aF K cA U H s)(hn:s[n]?=some (.lst xs))(hp:U.l[n]?=some p)(r:aB K cA U H ys us):aF K cA U (upd H p (.lst us)) (s.set n (.lst ys)):=
 h.rE (dX.mp hn).1 hp ⟨us,jC,r.mono (Ext.write hp (h.zt p (h.lz p (eZ hp)))) h.lz⟩
theorem aX.set{i:Nat}{d:Xv}{v:V}(hL:aX K cA U H Z J)(r:aV K cA U H d v):aX K cA U H (Z.set i (some v)) (J.set i (some d)):=by
 refine⟨by rw[nF,nF];exact hL.1,λj e h=>?_⟩;by_cases Bk:i=j
 ·subst Bk;by_cases hl:i<J.length
  ·rw[vU hl] at h;cases h;exact⟨v,by rw[vU (by rw[hL.1];exact hl)],r⟩
  ·rw[List.getElem?_eq_none (by rw[nF];lia)] at h;cases h
 ·rw[qx Bk] at h;obtain⟨u,a,b⟩:=hL.2 j e h;exact⟨u,by rw[qx Bk];exact a,b⟩
theorem TupAt.iz{a:Addr}{vs:List V}(h:TupAt K U H a vs):fu K H a vs:=by
 rcases h with ⟨h,_⟩|(h|h)
 ·exact .inl h
 ·rcases h with h|⟨o,h⟩<;>cases h
 ·exact .inr h
theorem LstAt.qI{a:Addr}{vs:List V}(h:LstAt K U H a vs):cM K H a vs:=by
 rcases h with ⟨h,_⟩|(h|h)
 ·exact .inl h
 ·rcases h with h|⟨o,h⟩<;>cases h
 ·exact .inr h
theorem TupAt.new{p:Addr}{vs:List V}(hz:¬U.z p):TupAt K U (upd H p (.tup vs)) p vs:=.inl ⟨.inl jC,hz⟩
theorem LstAt.new{p:Addr}{vs:List V}(hz:¬U.z p):LstAt K U (upd H p (.lst vs)) p vs:=.inl ⟨.inl jC,hz⟩
end
end Mi
namespace Mi
open PySem PySem.Spec PyProof.Rows L2
theorem un{α β γ:Type}{A B C:α->β->γ->Prop}{R:Prop}(h:∃a b c,A a b c/\B a b c/\C a b c)(f:∀a b c,A a b c->B a b c->C a b c->R):R:=by
 obtain⟨a,b,c,x,y,z⟩:=h;exact f a b c x y z
section
variable (K:W.Frag)(cA:Cl)
def Run{α:Type}(m:M α)(U:Ph)(H:Hp)(s:S)(P:α->S->Ph->Hp->Prop)(Ee:Nat->List D->S->Ph->Hp->Prop):Prop:=
 match m s with
 |some (.ok a,s')=>∀U' H',Ext U H U' H'->aF K cA U' H' s'->P a s' U' H'
 |some (.er c f,s')=>∀U' H',Ext U H U' H'->aF K cA U' H' s'->Ee c f s' U' H'
 |none=>False
def jy(U:Ph)(H:Hp)(c:Nat)(fs:List D)(dx:Option Addr):Prop:=
 (cA.f c=[]/\fs=[]/\dx=none)\/∃d vs,dx=some d/\¬U.z d/\H d=some (.xd ((cA.f c).zip vs))/\(cA.f c).length=vs.length/\aB K cA U H fs vs
noncomputable def eX(EX:XS)(Z:L2.St):Nat->List D->S->Ph->Hp->Prop:=λc fs _ U' H'=>∀dx,jy K cA U' H' c fs dx->EX Z (.ref (cA.a c)) dx H'
noncomputable def tE(EX:XS)(m:Vs->M Xv):TE:=λZ H Q=>∃U J s,aX K cA U H Z J/\aF K cA U H s/\Run K cA (m J) U H s (λd _ U' H'=>∀v,aV K cA U' H' d v->Q v H') (eX K cA EX Z)
noncomputable def Pq(EX:XS)(m:Vs->M (List Xv)):TA:=λZ H Q=>∃U J s,aX K cA U H Z J/\aF K cA U H s/\Run K cA (m J) U H s (λd _ U' H'=>∀v,aN K cA U' H' d v->Q v H') (eX K cA EX Z)
noncomputable def tV(EX:XS)(m:Vs->M Bool):TT:=λZ H Q=>∃U J s,aX K cA U H Z J/\aF K cA U H s/\Run K cA (m J) U H s (λd _ U' H'=>Q d H') (eX K cA EX Z)
def Rv(U:Ph)(H:Hp)(d:D)(v:V):Prop:=match d with
 |.fl xs=>∃a vs,v=.ref a/\cM K H a vs/\aB K cA U H xs vs
 |d=>Rep K cA U H d v
inductive u5 (U:Ph) (H:Hp):List D->List V->Prop where
 |nil:u5 U H [] []
 |cons {d:D} {v:V} {ds:List D} {vs:List V} (h:Rv K cA U H d v) (r:u5 U H ds vs):u5 U H (d::ds) (v::vs)
def bw(U:Ph)(H:Hp)(o:Option Rz)(Q:VK):Prop:=match o with
 |none=>False
 |some (.dat d)=>∀H' v,bf H H'->Rep K cA U H' d v->Q v H'
 |some (.nw xs)=>∀p vs,H p=none->aB K cA U H xs vs->Q (.ref p) (upd H p (.lst vs))
structure Zt(U:Ph)(H:Hp):Prop where
 lz:∀a∈U.l,U.z a
 zt:∀a,U.z a->∃o,H a=some o
def bx(p:Pr)(r:List V->Hp->VK->Prop):Prop:=∀(U:Ph) (H:Hp) (ds:List D) (vs:List V) (Q:VK),Zt U H->u5 K cA U H ds vs->bw K cA U H (prim p ds) Q->r vs H Q
end
section
variable {K:W.Frag}{cA:Cl}{U U':Ph}{H H':Hp}{s:S}{Z:L2.St}{J:Vs}{EX:XS}
theorem aF.zs(h:aF K cA U H s):Zt U H:=⟨h.lz,h.zt⟩
theorem Zt.nz(h:Zt U H)(hp:H p=none):¬U.z p:=λz=>by obtain⟨o,e⟩:=h.zt p z;rw[hp] at e;cases e
theorem Rep.rv{d:D}{v:V}(h:Rep K cA U H d v):Rv K cA U H d v:=by
 cases h with
 |fl h r=>exact⟨_,_,rfl,h.qI,r⟩
 |non=>exact .non
 |bl b=>exact .bl b
 |int b=>exact .int b
 |str b=>exact .str b
 |tup h r=>exact .tup h r
 |fd h n=>exact .fd h n
 |exc h r=>exact .exc h r
 |ob h r=>exact .ob h r
 |any v=>exact .any v
theorem Run.bd{α β:Type}{m:M α}{k:α->M β}{P:β->S->Ph->Hp->Prop}{Ee:Nat->List D->S->Ph->Hp->Prop}(h:Run K cA (M.bd m k) U H s P Ee):Run K cA m U H s (λa s1 U1 H1=>Ext U H U1 H1/\aF K cA U1 H1 s1/\Run K cA (k a) U1 H1 s1 P Ee) Ee:=by
 unfold Run M.bd at *;cases e:m s with
 |none=>rw[e] at h;exact h
 |some r=>
  obtain⟨r,s1⟩:=r;rw[e] at h;cases r with
  |er c f=>exact h
  |ok a=>
   intro U1 H1 x1 r1;refine⟨x1,r1,?_⟩;dsimp only at h ⊢;cases e2:k a s1 with
   |none=>rw[e2] at h;exact h
   |some q=>
    obtain⟨q,s2⟩:=q;rw[e2] at h;cases q with
    |ok b=>exact λU2 H2 x2 r2=>h U2 H2 (x1.trans x2) r2
    |er c f=>exact λU2 H2 x2 r2=>h U2 H2 (x1.trans x2) r2
theorem Run.imp{α:Type}{m:M α}{P P':α->S->Ph->Hp->Prop}{Ee:Nat->List D->S->Ph->Hp->Prop}(h:Run K cA m U H s P Ee)(f:∀a s' U' H',P a s' U' H'->P' a s' U' H'):Run K cA m U H s P' Ee:=by
 unfold Run at *;split at h
 ·exact λU' H' x r=>f _ _ _ _ (h U' H' x r)
 ·exact h
 ·exact h
theorem Run.ext(x:Ext U H U' H')(h:Run K cA m U H s P Ee):Run K cA m U' H' s P Ee:=by
 unfold Run at *;split at h
 ·exact λU2 H2 y r=>h U2 H2 (x.trans y) r
 ·exact λU2 H2 y r=>h U2 H2 (x.trans y) r
 ·exact h.elim
theorem Run.bH{α:Type}{a:α}{P:α->S->Ph->Hp->Prop}{Ee:Nat->List D->S->Ph->Hp->Prop}(r:aF K cA U H s)(h:Run K cA (M.ret a) U H s P Ee):P a s U H:=h U H Ext.refl r
theorem Run.opt{α:Type}{o:Option α}{P:α->S->Ph->Hp->Prop}{Ee:Nat->List D->S->Ph->Hp->Prop}(r:aF K cA U H s)(h:Run K cA (M.opt o) U H s P Ee):∃a,o=some a/\P a s U H:=by
 cases o with
 |none=>exact h.elim
 |some a=>exact⟨a,rfl,h U H Ext.refl r⟩
theorem JV(h:Run K cA (M.bd (M.opt o) k) U H s P Ee):∃a,o=some a/\Run K cA (k a) U H s P Ee:=by
 cases o with
 |none=>exact h.elim
 |some a=>exact⟨a,rfl,h⟩
theorem Gh{β:Type}{x:Xv}{v:V}{k:Bool->M β}{P:β->S->Ph->Hp->Prop}{Ee:Nat->List D->S->Ph->Hp->Prop}(r:aV K cA U H x v)(h:Run K cA (M.bd (bool x) k) U H s P Ee):∃b,x=.d (.bl b)/\v=.bl b/\Run K cA (k b) U H s P Ee:=by
 cases r with
 |l _=>exact h.elim
 |d r=>cases r with
  |bl b=>exact⟨b,rfl,rfl,h⟩
  |_=>exact h.elim
theorem Gi(r:aV K cA U H x v)(h:Run K cA (M.bd (int x) k) U H s P Ee):∃b,x=.d (.int b)/\v=.int b/\Run K cA (k b) U H s P Ee:=by
 cases r with
 |l _=>exact h.elim
 |d r=>cases r with
  |int b=>exact⟨b,rfl,rfl,h⟩
  |_=>exact h.elim
theorem JZ(r:aV K cA U H x v)(h:Run K cA (M.bd (dat x) k) U H s P Ee):∃d,x=.d d/\Rep K cA U H d v/\Run K cA (k d) U H s P Ee:=by
 cases r with
 |l _=>exact h.elim
 |d r=>exact⟨_,rfl,r,h⟩
theorem Pu:∀{xs:List Xv} {vs:List V} {k:List D->M β} {P:β->S->Ph->Hp->Prop} {Ee:Nat->List D->S->Ph->Hp->Prop},aN K cA U H xs vs->Run K cA (M.bd (cg xs) k) U H s P Ee->∃ds,xs=ds.map .d/\aB K cA U H ds vs/\Run K cA (k ds) U H s P Ee:=by
 intro xs
 induction xs with
 |nil=>intro vs k P Ee r h;cases r;exact⟨[],rfl,.nil,h⟩
 |cons x xs ih=>
  intro vs k P Ee r h;cases r with
  |cons a r=>
   cases a with
   |l _=>exact h.elim
   |@d y v a=>
    have h2:Run K cA (M.bd (cg xs) λds=>k (y::ds)) U H s P Ee:=by
     unfold Run M.bd cg dat at h;unfold Run M.bd;simp only[M.bd,M.ret] at h;cases e:cg xs s with
     |none=>simp only[e] at h
     |some q=>
      obtain⟨q,s1⟩:=q;simp only[e] at h;cases q with
      |ok ds=>exact h
      |er c f=>exact h
    obtain⟨ds,e,rs,h3⟩:=ih r h2;exact⟨y::ds,by rw[e];rfl,.cons a rs,h3⟩
theorem J0(hS:aF K cA U H s)(r:aV K cA U H x v)(h:Run K cA (M.bd (rd x) k) U H s P Ee):∃d,Rv K cA U H d v/\Run K cA (k d) U H s P Ee:=by
 cases r with
 |d r=>exact⟨_,r.rv,h⟩
 |@l n a hl=>
  unfold Run M.bd rd at h;dsimp only at h;cases e:s[n]? with
  |none=>rw[e] at h;exact h.elim
  |some o=>
   rw[e] at h;cases o with
   |lst xs=>
    obtain⟨vs,q1,q2⟩:=hS.obj n _ _ e hl;exact⟨.fl xs,⟨a,vs,rfl,cM.of q1,q2⟩,h⟩
   |_=>exact h.elim
theorem jd{α β γ:Type}(m:M α)(f:α->M β)(g:β->M γ):M.bd (M.bd m f) g=M.bd m λx=>M.bd (f x) g:=by
 funext s
 unfold M.bd;cases m s with
 |none=>rfl
 |some r=>
  obtain⟨r,s1⟩:=r;cases r<;>rfl
theorem rF{β:Type}:∀{xs:List Xv} {vs:List V} {k:List D->M β} {P:β->S->Ph->Hp->Prop} {Ee:Nat->List D->S->Ph->Hp->Prop},aF K cA U H s->aN K cA U H xs vs->Run K cA (M.bd (fO xs) k) U H s P Ee->∃ds,u5 K cA U H ds vs/\Run K cA (k ds) U H s P Ee:=by
 intro xs
 induction xs with
 |nil=>intro vs k P Ee hS r h;cases r;exact⟨[],.nil,h⟩
 |cons x xs ih=>
  intro vs k P Ee hS r h;cases r with
  |cons a r=>
   have h2:Run K cA (M.bd (rd x) λd=>M.bd (fO xs) λds=>k (d::ds)) U H s P Ee:=by
    have e:M.bd (fO (x::xs)) k=M.bd (rd x) λd=>M.bd (fO xs) λds=>k (d::ds):=by
     show M.bd (M.bd (rd x) λd=>M.bd (fO xs) λds=>M.ret (d::ds)) k=_;rw[jd]
     congr 1
     funext d
     rw[jd];rfl
    rw[e] at h;exact h
   obtain⟨d,rd,h3⟩:=J0 hS a h2;obtain⟨ds,rs,h4⟩:=ih hS r h3;exact⟨d::ds,.cons rd rs,h4⟩
theorem qJ{fz:Bool}{o:Option Rz}{Q:VK}{Ee:Nat->List D->S->Ph->Hp->Prop}(hS:aF K cA U H s)(h:Run K cA (bT fz o) U H s (λx _ U' H'=>∀v,aV K cA U' H' x v->Q v H') Ee):bw K cA U H o Q:=by
 cases o with
 |none=>exact h.elim
 |some z=>
  cases z with
  |dat d=>exact λH' v g r=>h U H' g.ext (hS.grow g) v (.d r)
  |nw xs=>
   intro p vs hp r;cases fz with
   |true=>exact h U _ (bf.new hp).ext (hS.grow (bf.new hp)) _ (.d (.fl (LstAt.new (hS.nz hp)) (r.mono (bf.new hp).ext hS.lz)))
   |false=>exact h (U.add p) _ (Ext.add hp) (hS.add hp r) _ (.l (by show (U.l++[p])[s.length]?=_;rw[<-hS.len];simp))
theorem zhn{fz:Bool}{xs:List D}{Q:VK}{Ee:Nat->List D->S->Ph->Hp->Prop}(hS:aF K cA U H s)(h:Run K cA (newL fz xs) U H s (λx _ U' H'=>∀v,aV K cA U' H' x v->Q v H') Ee):∀p vs,H p=none->aB K cA U H xs vs->Q (.ref p) (upd H p (.lst vs)):=
 qJ (o:=some (.nw xs)) hS h
theorem aW{β:Type}{ma:Vs->M Xv}{k:Xv->M β}{P:β->S->Ph->Hp->Prop}(hL:aX K cA U H Z J)(hS:aF K cA U H s)(h:Run K cA (M.bd (ma J) k) U H s P (eX K cA EX Z)){Q:VK}
  (f:∀x H1 U1 d s1,Ext U H U1 H1->aX K cA U1 H1 Z J->aF K cA U1 H1 s1->aV K cA U1 H1 d x->Run K cA (k d) U1 H1 s1 P (eX K cA EX Z)->Q x H1):tE K cA EX ma Z H Q:=
 ⟨U,J,s,hL,hS,h.bd.imp λd s1 U1 H1 ⟨x1,r1,h1⟩ v rv=>f v H1 U1 d s1 x1 (hL.mono x1 hS.lz) r1 rv h1⟩
theorem n6{β:Type}{ma:Vs->M (List Xv)}{k:List Xv->M β}{P:β->S->Ph->Hp->Prop}(hL:aX K cA U H Z J)(hS:aF K cA U H s)(h:Run K cA (M.bd (ma J) k) U H s P (eX K cA EX Z)){Q:List V->Hp->Prop}
  (f:∀x H1 U1 d s1,Ext U H U1 H1->aX K cA U1 H1 Z J->aF K cA U1 H1 s1->aN K cA U1 H1 d x->Run K cA (k d) U1 H1 s1 P (eX K cA EX Z)->Q x H1):Pq K cA EX ma Z H Q:=
 ⟨U,J,s,hL,hS,h.bd.imp λd s1 U1 H1 ⟨x1,r1,h1⟩ v rv=>f v H1 U1 d s1 x1 (hL.mono x1 hS.lz) r1 rv h1⟩
theorem u6(hL:aX K cA U H Z J)(hS:aF K cA U H s)(h:Run K cA (M.bd (ma J) k) U H s P (eX K cA EX Z))
  (f:∀b H1 U1 s1,Ext U H U1 H1->aX K cA U1 H1 Z J->aF K cA U1 H1 s1->Run K cA (k b) U1 H1 s1 P (eX K cA EX Z)->Q b H1):tV K cA EX ma Z H Q:=
 ⟨U,J,s,hL,hS,h.bd.imp λd s1 U1 H1 ⟨x1,r1,h1⟩=>f d H1 U1 s1 x1 (hL.mono x1 hS.lz) r1 h1⟩
end
section
variable (X:Cx)(cA:Cl)(aq:Nat->Nat->Bool)(aj:Bool)(F:Fn)(EX:XS)
def SE(e:Expr)(m:E):Prop:=PE X e (tE X.K cA EX (ev aq aj F m))
def SA(es:List Expr)(m:Es):Prop:=PA X es (Pq X.K cA EX (evs aq aj F m))
def ST(e:Expr)(m:E):Prop:=PT X e (tV X.K cA EX (λJ=>M.bd (ev aq aj F m J) bool))
def SW(e:Expr)(m:E):Prop:=PW X e (tV X.K cA EX (λJ=>M.bd (ev aq aj F m J) bool))
end
section
variable {X:Cx}{cA:Cl}{aq:Nat->Nat->Bool}{aj:Bool}{F:Fn}{EX:XS}{a b c d e:Expr}{A B C Dd E':E}{pos:Pos}{es:List Expr}{Xs:Es}{fz:Bool}{p:Pr}
theorem PE.weak{t t':TE}(h:PE X e t)(f:∀Z H Q,t' Z H Q->t Z H Q):PE X e t':=λao s Z H Q I q=>h ao s Z H Q I (f Z H Q q)
theorem PT.weak{t t':TT}(h:PT X e t)(f:∀Z H Q,t' Z H Q->t Z H Q):PT X e t':=λao s Z H Q I q=>h ao s Z H Q I (f Z H Q q)
theorem PW.weak{t t':TT}(h:PW X e t)(f:∀Z H Q,t' Z H Q->t Z H Q):PW X e t':=λwh ao s Z H Q I q=>h wh ao s Z H Q I (f Z H Q q)
theorem PA.weak{t t':TA}(h:PA X es t)(f:∀Z H Q,t' Z H Q->t Z H Q):PA X es t':=λp ao s Z H Q I q=>h p ao s Z H Q I (f Z H Q q)
theorem zk1{i j p}:SE X cA aq aj F EX (.Constant (.int i) j p) (.c (.int i)):=PE.weak Uh λZ H Q hh=>un hh λU J s hL hS h=>h.bH hS _ (.d (.int i))
theorem zmP{i j p}:SE X cA aq aj F EX (.Constant (.bool i) j p) (.c (.bl i)):=PE.weak zmT λZ H Q hh=>un hh λU J s hL hS h=>h.bH hS _ (.d (.bl i))
theorem zlG{j p}:SE X cA aq aj F EX (.Constant .none j p) (.c .non):=PE.weak zkL λZ H Q hh=>un hh λU J s hL hS h=>h.bH hS _ (.d .non)
theorem Px{α:Type}{o:Option (Option α)}{x:α}(h:o.join=some x):o=some (some x):=by
 cases o with
 |none=>cases h
 |some y=>cases y with
  |none=>cases h
  |some z=>cases h;rfl
theorem VL(i:Nat){x:Str}(hN:X.N[i]?=some x:=by rfl)(hv:Ml X.env.scope x:=by first|exact Or.inl rfl|exact Or.inr (Or.inl rfl)|exact Or.inr (Or.inr rfl))(hd:(x==("__debug__" : Str))=false:=by decide)
  (jD:(x==("__classdict__" : Str))=false:=by decide):SE X cA aq aj F EX (.Name x pos) (.v i):=PE.weak (Ug hN hv hd jD) λZ H Q hh=>un hh λU J s hL hS h=>by
 obtain⟨dd,e1,q⟩:=Run.opt hS h;obtain⟨v,q1,q2⟩:=hL.2 i dd (Px e1);exact⟨v,q1,q v q2⟩
theorem zja{x:Str}{i:Int}{t:Tok}(hg:Gl X x)(hm:X.mg x=some (.int i t))(hd:(x==("__debug__" : Str))=false:=by decide):SE X cA aq aj F EX (.Name x pos) (.c (.int i)):=PE.weak (ziV (v:=.int i) hg hm ⟨t,rfl⟩ hd) λZ H Q hh=>un hh λU J s hL hS h=>h.bH hS _ (.d (.int i))
theorem zkO:SA X cA aq aj F EX [] .nil:=PA.weak yG λZ H Q hh=>un hh λU J s hL hS h=>h.bH hS _ .nil
theorem ziI(ha:SE X cA aq aj F EX a A)(hr:SA X cA aq aj F EX es Xs)(hs:starEach (a::es) X.env=(false,eval a X.env)::starEach es X.env:=by rfl):SA X cA aq aj F EX (a::es) (.cons A Xs):=PA.weak (tO ha hr hs) λZ H Q hh=>un hh λU J s hL hS h=>by
 refine aW hL hS h λx H1 U1 d1 s1 x1 hL1 aJ r1 h1=>n6 hL1 aJ h1 λys H2 U2 d2 s2 x2 hL2 aU r2 h2=>h2.bH aU _ (.cons (r1.mono x2 aJ.lz) r2)
theorem J1{U U1 U2:Ph}{H1 H2:Hp}{s1 s2:S}{d1 d2:Xv}{x y:V}{Q:VK}{Ee:Nat->List D->S->Ph->Hp->Prop}(x2:Ext U1 H1 U2 H2)(aJ:aF X.K cA U1 H1 s1)(aU:aF X.K cA U2 H2 s2)(r1:aV X.K cA U1 H1 d1 x)(r2:aV X.K cA U2 H2 d2 y)
  (h:Run X.K cA (M.bd (fO [d1,d2]) λds=>bT fz (prim p ds)) U2 H2 s2 (λx _ U' H'=>∀v,aV X.K cA U' H' x v->Q v H') Ee) {r:List V->Hp->VK->Prop} (hp:bx X.K cA p r):r [x,y] H2 Q:=by
 obtain⟨ds,rs,h2⟩:=rF aU (.cons (r1.mono x2 aJ.lz) (.cons r2 .nil)) h;exact hp U2 H2 ds _ Q aU.zs rs (qJ aU h2)
noncomputable def r2(r:R2):List V->Hp->VK->Prop:=λvs H Q=>∃x y,vs=[x,y]/\r x y H Q
theorem Bl{r:R2}{x y:V}{H:Hp}{Q:VK}(h:r2 r [x,y] H Q):r x y H Q:=by
 obtain⟨_,_,e,q⟩:=h;cases e;exact q
theorem zkw{op:Operator}{r:R2}(ho:dZ X (binaryOp op) r)(hp:bx X.K cA p (r2 r))(ha:SE X cA aq aj F EX a A)(hb:SE X cA aq aj F EX b B):SE X cA aq aj F EX (.BinOp a op b pos) (.pr fz p (.cons A (.cons B .nil))):=PE.weak (znk ho ha hb) λZ H Q hh=>un hh λU J s hL hS h=>by
 have h:Run X.K cA (M.bd (M.bd (ev aq aj F A J) λx=>M.bd (M.bd (ev aq aj F B J) λy=>M.bd (M.ret []) λz=>M.ret (y::z)) λys=>M.ret (x::ys)) λvs=>M.bd (fO vs) λds=>bT fz (prim p ds)) U H s _ _:=h;simp only[jd] at h;refine aW hL hS h λx H1 U1 d1 s1 x1 hL1 aJ r1 h1=>aW hL1 aJ h1 λy H2 U2 d2 s2 x2 hL2 aU r2' h2=>?_;exact Bl (J1 (fz:=fz) (U:=U) x2 aJ aU r1 r2' h2 hp)
theorem zlW{op:CmpOp}{r:R2}(ho:dZ X (compareOp op) r)(hp:bx X.K cA p (r2 r))(ha:SE X cA aq aj F EX a A)(hb:SE X cA aq aj F EX b B)(hm:behindInMarks op b=false):SE X cA aq aj F EX (.Compare a [op] [b] pos) (.pr true p (.cons A (.cons B .nil))):=PE.weak (ziA ho ha hb hm) λZ H Q hh=>un hh λU J s hL hS h=>by
 have h:Run X.K cA (M.bd (M.bd (ev aq aj F A J) λx=>M.bd (M.bd (ev aq aj F B J) λy=>M.bd (M.ret []) λz=>M.ret (y::z)) λys=>M.ret (x::ys)) λvs=>M.bd (fO vs) λds=>bT true (prim p ds)) U H s _ _:=h;simp only[jd] at h;refine aW hL hS h λx H1 U1 d1 s1 x1 hL1 aJ r1 h1=>aW hL1 aJ h1 λy H2 U2 d2 s2 x2 hL2 aU r2' h2=>?_;exact Bl (J1 (fz:=true) (U:=U) x2 aJ aU r1 r2' h2 hp)
theorem iT{A B:Prop}(h:A):if true=true then A else B:=by rw[if_pos rfl];exact h
theorem iF{A B:Prop}(h:B):if false=true then A else B:=by rw[if_neg Ly];exact h
theorem zj8{op:CmpOp}{r:R2}(ho:dZ X (compareOp op) r)(hp:bx X.K cA p (r2 r))(ha:SE X cA aq aj F EX a A)(hb:SE X cA aq aj F EX b B)(hm:behindInMarks op b=false):ST X cA aq aj F EX (.Compare a [op] [b] pos) (.pr true p (.cons A (.cons B .nil))):=PT.weak (zi4 ho ha hb hm) λZ H Q hh=>un hh λU J s hL hS h=>by
 have h:Run X.K cA (M.bd (M.bd (M.bd (ev aq aj F A J) λx=>M.bd (M.bd (ev aq aj F B J) λy=>M.bd (M.ret []) λz=>M.ret (y::z)) λys=>M.ret (x::ys)) λvs=>M.bd (fO vs) λds=>bT true (prim p ds)) bool) U H s _ _:=h;simp only[jd] at h;refine aW hL hS h λx H1 U1 d1 s1 x1 hL1 aJ r1 h1=>aW hL1 aJ h1 λy H2 U2 d2 s2 x2 hL2 aU r2' h2=>?_;obtain⟨ds,rs,h3⟩:=rF aU (.cons (r1.mono x2 aJ.lz) (.cons r2' .nil)) h2;refine Bl (hp U2 H2 ds _ _ aU.zs rs (qJ (Ee:=eX X.K cA EX Z) aU (h3.bd.imp λt s3 U3 H3 ⟨x3,jY,h4⟩ v rv=>?_)));cases rv with
 |l _=>exact h4.elim
 |d rv=>cases rv with
  |bl k=>exact⟨k,rfl,h4 U3 H3 Ext.refl jY⟩
  |_=>exact h4.elim
theorem zlK{op op':CmpOp}{r r':R2}{q:Pr}(ho:dZ X (compareOp op) r)(hp:bx X.K cA p (r2 r))(qW:dZ X (compareOp op') r')(hp':bx X.K cA q (r2 r'))(ha:SE X cA aq aj F EX a A)(hb:SE X cA aq aj F EX b B)(hc:SE X cA aq aj F EX c C)(hm:lastMarks [op,op'] [b,c]=false:=by with_unfolding_all rfl) :
  SE X cA aq aj F EX (.Compare a [op,op'] [b,c] pos) (.wH p q A B C):=PE.weak (zgE ho qW ha hb hc hm) λZ H Q hh=>un hh λU J s hL hS h=>by
 refine aW hL hS h λx H1 U1 d1 s1 x1 hL1 aJ r1 h1=>aW hL1 aJ h1 λy H2 U2 d2 s2 x2 hL2 aU r2' h2=>?_;obtain⟨ds,rs,h3⟩:=rF aU (.cons (r1.mono x2 aJ.lz) (.cons r2' .nil)) h2;refine Bl (hp U2 H2 ds _ _ aU.zs rs (qJ (Ee:=eX X.K cA EX Z) aU (h3.bd.imp λt s3 U3 H3 ⟨x3,jY,h4⟩ v rv=>?_)));obtain⟨k,_,e,h5⟩:=Gh rv h4;refine⟨k,e,?_⟩;cases k with
 |false=>exact iF (h5.bH jY _ (.d (.bl _)))
 |true=>
  have u9:=hL2.mono x3 aU.lz;refine iT (aW u9 jY h5 λz H4 U4 d4 s4 x4 hL4 wO r4 h6=>?_);exact Bl (J1 (fz:=true) (U:=U) x4 jY wO (r2'.mono x3 aU.lz) r4 h6 hp')
theorem zk9(ha:SE X cA aq aj F EX a A):SE X cA aq aj F EX (.UnaryOp .Not a pos) (.not A):=PE.weak (zlc ha) λZ H Q hh=>un hh λU J s hL hS h=>by
 refine aW hL hS h λx H1 U1 d1 s1 x1 hL1 aJ r1 h1=>?_;obtain⟨i,_,e,h3⟩:=Gh r1 h1;exact⟨i,e,h3.bH aJ _ (.d (.bl _))⟩
theorem zki{op}(ha:SE X cA aq aj F EX a A):SE X cA aq aj F EX (.BoolOp op [a] pos) A:=zko ha
theorem zks{rest:List Expr}(ha:SE X cA aq aj F EX a A)(hb:SE X cA aq aj F EX (.BoolOp .And (b::rest) pos) B):SE X cA aq aj F EX (.BoolOp .And (a::b::rest) pos) (.and A B):=PE.weak (zj9 ha hb) λZ H Q hh=>un hh λU J s hL hS h=>by
 refine aW hL hS h λx H1 U1 d1 s1 x1 hL1 aJ r1 h1=>?_;obtain⟨i,_,e,h3⟩:=Gh r1 h1;refine⟨i,e,?_⟩;cases i with
 |true=>exact iT ⟨U1,J,s1,hL1,aJ,h3⟩
 |false=>exact iF (h3.bH aJ _ (.d (.bl _)))
theorem zno{rest:List Expr}(ha:SE X cA aq aj F EX a A)(hb:SE X cA aq aj F EX (.BoolOp .Or (b::rest) pos) B):SE X cA aq aj F EX (.BoolOp .Or (a::b::rest) pos) (.or A B):=PE.weak (zmB ha hb) λZ H Q hh=>un hh λU J s hL hS h=>by
 refine aW hL hS h λx H1 U1 d1 s1 x1 hL1 aJ r1 h1=>?_;obtain⟨i,_,e,h3⟩:=Gh r1 h1;refine⟨i,e,?_⟩;cases i with
 |true=>exact iT (h3.bH aJ _ (.d (.bl _)))
 |false=>exact iF ⟨U1,J,s1,hL1,aJ,h3⟩
end
section
variable {X:Cx}{cA:Cl}{aq:Nat->Nat->Bool}{aj:Bool}{F:Fn}{EX:XS}{a b c d e o:Expr}{A B C Dd E' O:E}{pos pp p2 apos:Pos}{es:List Expr}{Xs:Es}{fz:Bool}{p:Pr}{x:Str}
theorem zjW(ha:SE X cA aq aj F EX a A)(he:∀whole,isTrue a X.env whole=(do let v <-whole;standAt a.pos;holding [v] (truthy v)):=by intro _;rfl):ST X cA aq aj F EX a A:=PT.weak (zkQ ha he) λZ H Q hh=>un hh λU J s hL hS h=>by
 refine aW hL hS h λx H1 U1 d1 s1 x1 hL1 aJ r1 h1=>?_;have h1:Run X.K cA (M.bd (bool d1) M.ret) U1 H1 s1 (λd _ U' H'=>Q d H') (eX X.K cA EX Z):=by
  cases d1 with
  |l n=>exact h1
  |d v=>cases v<;>exact h1
 obtain⟨k,_,e,q⟩:=Gh r1 h1;exact⟨k,e,q.bH aJ⟩
theorem zg6{m:M Xv}{g:Bool->Bool}:M.bd (M.bd m λx=>M.bd (bool x) λk=>M.ret (Xv.d (.bl (g k)))) bool=M.bd (M.bd m bool) λk=>M.ret (g k):=by
 rw[jd,jd]
 congr 1
 funext x
 rw[jd];rfl
theorem zlD(ha:ST X cA aq aj F EX a A):ST X cA aq aj F EX (.UnaryOp .Not a pos) (.not A):=PT.weak (zkE ha) λZ H Q hh=>un hh λU J s hL hS h=>by
 have h:Run X.K cA (M.bd (M.bd (ev aq aj F A J) λx=>M.bd (bool x) λk=>M.ret (Xv.d (.bl (!k)))) bool) U H s _ _:=h;rw[zg6 (g:=λk=>!k)] at h;exact u6 hL hS h λk H1 U1 s1 x1 hL1 aJ h1=>h1.bH aJ
theorem ziz(ha:ST X cA aq aj F EX a A):SW X cA aq aj F EX (.BoolOp .And [a] pos) A:=zjg ha
theorem zl7(ha:ST X cA aq aj F EX a A):SW X cA aq aj F EX (.BoolOp .Or [a] pos) A:=zlY ha
theorem VN{m:M Xv}{k:Bool->M Xv}:M.bd (M.bd m λx=>M.bd (bool x) k) bool=M.bd (M.bd m bool) λb=>M.bd (k b) bool:=by
 rw[jd,jd]
 congr 1
 funext x
 rw[jd]
theorem zke{rest:List Expr}(ha:ST X cA aq aj F EX a A)(hb:SW X cA aq aj F EX (.BoolOp .And (b::rest) pos) B):SW X cA aq aj F EX (.BoolOp .And (a::b::rest) pos) (.and A B):=PW.weak (zkT ha hb) λZ H Q hh=>un hh λU J s hL hS h=>by
 have h:Run X.K cA (M.bd (M.bd (ev aq aj F A J) λx=>M.bd (bool x) λk=>if k=true then ev aq aj F B J else M.ret (Xv.d (.bl false))) bool) U H s _ _:=h;rw[VN] at h;refine u6 hL hS h λk H1 U1 s1 x1 hL1 aJ h3=>?_;cases k with
 |true=>exact iT ⟨U1,J,s1,hL1,aJ,h3⟩
 |false=>exact iF (Run.bH aJ (a:=false) h3)
theorem zmJ{rest:List Expr}(ha:ST X cA aq aj F EX a A)(hb:SW X cA aq aj F EX (.BoolOp .Or (b::rest) pos) B):SW X cA aq aj F EX (.BoolOp .Or (a::b::rest) pos) (.or A B):=PW.weak (zmp ha hb) λZ H Q hh=>un hh λU J s hL hS h=>by
 have h:Run X.K cA (M.bd (M.bd (ev aq aj F A J) λx=>M.bd (bool x) λk=>if k=true then M.ret (Xv.d (.bl true)) else ev aq aj F B J) bool) U H s _ _:=h;rw[VN] at h;refine u6 hL hS h λk H1 U1 s1 x1 hL1 aJ h3=>?_;cases k with
 |true=>exact iT (Run.bH aJ (a:=true) h3)
 |false=>exact iF ⟨U1,J,s1,hL1,aJ,h3⟩
theorem zn8(h:SW X cA aq aj F EX a A):ST X cA aq aj F EX a A:=Kac h
theorem ziP:(M.bd m λx=>M.bd (bool x) k)=M.bd (M.bd m bool) k:=by rw[jd]
theorem zj7(hc:ST X cA aq aj F EX c C)(ha:SE X cA aq aj F EX a A)(hb:SE X cA aq aj F EX b B):SE X cA aq aj F EX (.IfExp c a b pos) (.ite C A B):=PE.weak (zg1 hc ha hb) λZ H Q hh=>un hh λU J s hL hS h=>by
 have h:Run X.K cA (M.bd (ev aq aj F C J) λx=>M.bd (bool x) λk=>if k=true then ev aq aj F A J else ev aq aj F B J) U H s _ _:=h;rw[ziP] at h;refine u6 hL hS h λk H1 U1 s1 x1 hL1 aJ h3=>?_;cases k with
 |true=>exact iT ⟨U1,J,s1,hL1,aJ,h3⟩
 |false=>exact iF ⟨U1,J,s1,hL1,aJ,h3⟩
theorem VP:∀(Xs:Es) (J:Vs) (s:S) (ds:List Xv) (s':S),evs aq aj F Xs J s=some (.ok ds,s')->ds.length=Es.len Xs
 |.nil,J,s,ds,s',h=>by cases h;rfl
 |.cons a r,J,s,ds,s',h=>by
  have h:M.bd (ev aq aj F a J) (λx=>M.bd (evs aq aj F r J) λxs=>M.ret (x::xs)) s=some (.ok ds,s'):=h;unfold M.bd at h;cases e1:ev aq aj F a J s with
  |none=>rw[e1] at h;cases h
  |some q=>
   obtain⟨q,s1⟩:=q;rw[e1] at h;cases q with
   |er c f=>cases h
   |ok d=>
    dsimp only at h;cases e2:evs aq aj F r J s1 with
    |none=>rw[e2] at h;cases h
    |some q=>
     obtain⟨q,s2⟩:=q;rw[e2] at h;cases q with
     |er c f=>cases h
     |ok ds'=>
      cases h;rw[fZ,VP r J s1 ds' _ e2];rfl
theorem Gj{β:Type}{K:W.Frag}{U:Ph}{H:Hp}{s:S}{Z:L2.St}{J:Vs}{k:List Xv->M β}{P:β->S->Ph->Hp->Prop}(hL:aX K cA U H Z J)(hS:aF K cA U H s)(h:Run K cA (M.bd (evs aq aj F Xs J) k) U H s P (eX K cA EX Z)){Q:List V->Hp->Prop}
  (f:∀x H1 U1 d s1,d.length=Es.len Xs->Ext U H U1 H1->aX K cA U1 H1 Z J->aF K cA U1 H1 s1->aN K cA U1 H1 d x->Run K cA (k d) U1 H1 s1 P (eX K cA EX Z)->Q x H1):Pq K cA EX (evs aq aj F Xs) Z H Q:=by
 refine⟨U,J,s,hL,hS,?_⟩;have h2:=h.bd;unfold Run at h2 ⊢;cases e:evs aq aj F Xs J s with
 |none=>rw[e] at h2;exact h2
 |some r=>
  obtain⟨r,s1⟩:=r;rw[e] at h2;cases r with
  |er c f=>exact h2
  |ok ds=>
   intro U1 H1 x1 r1 v rv;obtain⟨_,_,h3⟩:=h2 U1 H1 x1 r1;exact f v H1 U1 ds s1 (VP Xs J s ds s1 e) x1 (hL.mono x1 hS.lz) r1 rv h3
theorem zkU{k}(ha:SA X cA aq aj F EX es Xs)(hz:Es.len Xs<=sizeLine):SE X cA aq aj F EX (.Tuple es k pos) (.tup Xs):=PE.weak (zlZ ha) λZ H Q hh=>un hh λU J s hL hS h=>by
 refine Gj hL hS h λvs H1 U1 xs s1 hl x1 hL1 aJ rv h1=>?_;obtain⟨ds,e,rs,h2⟩:=Pu rv h1;refine⟨by rw[<-rv.len,hl];exact hz,λp hp=>?_⟩;exact h2 U1 (upd H1 p (.tup vs)) (bf.new hp).ext (aJ.grow (bf.new hp)) _ (.d (.tup (TupAt.new (aJ.nz hp)) (rs.mono (bf.new hp).ext aJ.lz)))
theorem zlL(ha:SA X cA aq aj F EX es Xs)(hz:Es.len Xs<=sizeLine):SE X cA aq aj F EX (.List es pos) (.lst fz Xs):=PE.weak (zl0 ha) λZ H Q hh=>un hh λU J s hL hS h=>by
 refine Gj hL hS h λvs H1 U1 xs s1 hl x1 hL1 aJ rv h1=>?_;obtain⟨ds,e,rs,h2⟩:=Pu rv h1;exact⟨by rw[<-rv.len,hl];exact hz,λp hp=>zhn aJ h2 p vs hp rs⟩
theorem wQ{id:String}{r:List V->Hp->VK->Prop}(hc:cJ X (.builtin id) r)(hp:bx X.K cA p r)
  (hg:Gl X x) (hm:X.mg x=none) (hv:bootBuiltins x=some (.builtin id)) (ha:SA X cA aq aj F EX (e::es) Xs) (hn:x≠"__name__":=by decide) (pR:(x==("__debug__" : Str))=false:=by decide)
  (he:starEach (e::es) X.env=(false,eval e X.env)::starEach es X.env:=by rfl) (hpl:(backTo pos (starEach es X.env)).any (·.1)=false:=by rfl):SE X cA aq aj F EX (.Call (.Name x pp) (e::es) [] pos) (.pr fz p Xs):=PE.weak (U8 hc hg hm hv ha hn pR he hpl) λZ H Q hh=>un hh λU J s hL hS h=>
 n6 hL hS h λvs H1 U1 ds s1 x1 hL1 aJ r1 h1=>by
  obtain⟨ds,rs,h3⟩:=rF aJ r1 h1;exact hp U1 H1 ds _ _ aJ.zs rs (qJ aJ h3)
theorem Py{id:String}{r:List V->Hp->VK->Prop}(hc:cJ X (.type id) r)(hp:bx X.K cA p r)
  (hg:Gl X x) (hm:X.mg x=none) (hv:bootBuiltins x=some (.type id)) (ha:SA X cA aq aj F EX (e::es) Xs) (hn:x≠"__name__":=by decide) (pR:(x==("__debug__" : Str))=false:=by decide)
  (he:starEach (e::es) X.env=(false,eval e X.env)::starEach es X.env:=by rfl) (hpl:(backTo pos (starEach es X.env)).any (·.1)=false:=by rfl):SE X cA aq aj F EX (.Call (.Name x pp) (e::es) [] pos) (.pr fz p Xs):=PE.weak (zfD hc hg hm hv ha hn pR he hpl) λZ H Q hh=>un hh λU J s hL hS h=>
 n6 hL hS h λvs H1 U1 ds s1 x1 hL1 aJ r1 h1=>by
  obtain⟨ds,rs,h3⟩:=rF aJ r1 h1;exact hp U1 H1 ds _ _ aJ.zs rs (qJ aJ h3)
theorem zm1(hp:bx X.K cA p (r2 (NK X.K)))(ha:SE X cA aq aj F EX a A)(hb:SE X cA aq aj F EX b B)(hs:oV b:=by intro _ _;rfl):SE X cA aq aj F EX (.Subscript a b pos) (.pr true p (.cons A (.cons B .nil))):=PE.weak (zmn zkG ha hb hs) λZ H Q hh=>un hh λU J s hL hS h=>by
 have h:Run X.K cA (M.bd (M.bd (ev aq aj F A J) λx=>M.bd (M.bd (ev aq aj F B J) λy=>M.bd (M.ret []) λz=>M.ret (y::z)) λys=>M.ret (x::ys)) λvs=>M.bd (fO vs) λds=>bT true (prim p ds)) U H s _ _:=h;simp only[jd] at h;refine aW hL hS h λx H1 U1 d1 s1 x1 hL1 aJ r1 h1=>aW hL1 aJ h1 λy H2 U2 d2 s2 x2 hL2 aU r2' h2=>?_;exact Bl (J1 (fz:=true) (U:=U) x2 aJ aU r1 r2' h2 hp)
theorem zmQ(ho:Jl X (unaryOp op) r)(hp:bx X.K cA p (λvs H Q=>∃x,vs=[x]/\r x H Q))(ha:SE X cA aq aj F EX a A):SE X cA aq aj F EX (.UnaryOp op a pos) (.pr true p (.cons A .nil)):=PE.weak (Us ho ha) λZ H Q hh=>un hh λU J s hL hS h=>by
 have h:Run X.K cA (M.bd (M.bd (ev aq aj F A J) λx=>M.bd (M.ret []) λz=>M.ret (x::z)) λvs=>M.bd (fO vs) λds=>bT true (prim p ds)) U H s _ _:=h;simp only[jd] at h;refine aW hL hS h λx H1 U1 d1 s1 x1 hL1 aJ r1 h1=>?_;obtain⟨ds,rs,h3⟩:=rF aJ (.cons r1 .nil) h1;obtain⟨_,e,q⟩:=hp U1 H1 ds _ _ aJ.zs rs (qJ aJ h3);cases e;exact q
theorem zkJ{j p'}(ha:SE X cA aq aj F EX a A):SE X cA aq aj F EX (.Compare a [.Is] [.Constant .none j p'] pos) (.pr true .rB (.cons A .nil)):=PE.weak (Uk (Ui ha)) λZ H Q hh=>un hh λU J s hL hS h=>by
 have h:Run X.K cA (M.bd (M.bd (ev aq aj F A J) λx=>M.bd (M.ret []) λz=>M.ret (x::z)) λvs=>M.bd (fO vs) λds=>bT true (prim .rB ds)) U H s _ _:=h;simp only[jd] at h;refine aW hL hS h λx H1 U1 d1 s1 x1 hL1 aJ r1 h1=>?_;obtain⟨ds,rs,h3⟩:=rF aJ (.cons r1 .nil) h1;cases rs with
 |cons r rs=>cases rs with
  |nil=>
   rename_i d;have h4:=qJ aJ h3;have q:=h4 H1 _ bf.refl (.bl _);cases d<;>first
    |(obtain⟨_,_,rfl,_,_⟩:=r;exact q)
    |(cases (show Rep _ _ _ _ _ x from r)<;>exact q)
theorem ziK{j p'}(ha:SE X cA aq aj F EX a A):SE X cA aq aj F EX (.Compare a [.IsNot] [.Constant .none j p'] pos) (.pr true .qF (.cons A .nil)):=PE.weak (Uk (Uj ha)) λZ H Q hh=>un hh λU J s hL hS h=>by
 have h:Run X.K cA (M.bd (M.bd (ev aq aj F A J) λx=>M.bd (M.ret []) λz=>M.ret (x::z)) λvs=>M.bd (fO vs) λds=>bT true (prim .qF ds)) U H s _ _:=h;simp only[jd] at h;refine aW hL hS h λx H1 U1 d1 s1 x1 hL1 aJ r1 h1=>?_;obtain⟨ds,rs,h3⟩:=rF aJ (.cons r1 .nil) h1;cases rs with
 |cons r rs=>cases rs with
  |nil=>
   rename_i d;have h4:=qJ aJ h3;have q:=h4 H1 _ bf.refl (.bl _);cases d<;>first
    |(obtain⟨_,_,rfl,_,_⟩:=r;exact q)
    |(cases (show Rep _ _ _ _ _ x from r)<;>exact q)
theorem VR(q:Pr)(hq:prim q=yZ f)(hh:tV X.K cA EX (λJ=>M.bd (ev aq aj F (.pr true q (.cons A .nil)) J) bool) Z H Q):tE X.K cA EX (ev aq aj F A) Z H λx H1=>Q (f (decide (x=.non))) H1:=un hh λU J s hL hS h=>by
 have h:Run X.K cA (M.bd (M.bd (M.bd (ev aq aj F A J) λx=>M.bd (M.ret []) λz=>M.ret (x::z)) λvs=>M.bd (fO vs) λds=>bT true (prim q ds)) bool) U H s _ _:=h;simp only[jd] at h;refine aW hL hS h λx H1 U1 d1 s1 x1 hL1 aJ r1 h1=>?_;obtain⟨ds,rs,h3⟩:=rF aJ (.cons r1 .nil) h1;cases rs with
 |cons r rs=>cases rs with
  |nil=>
   rename_i d;rw[hq] at h3;have h4:Run X.K cA (M.bd (M.ret (Xv.d (.bl (f d.mO)))) bool) U1 H1 s1 (λd _ U' H'=>Q d H') (eX X.K cA EX Z):=h3;have q:=h4 U1 H1 Ext.refl aJ;cases d<;>first
    |(obtain⟨_,_,rfl,_,_⟩:=r;exact q)
    |(cases (show Rep _ _ _ _ _ x from r)<;>exact q)
theorem zky{j p'}(ha:SE X cA aq aj F EX a A):ST X cA aq aj F EX (.Compare a [.Is] [.Constant .none j p'] pos) (.pr true .rB (.cons A .nil)):=PT.weak (Mz (Ui ha)) λZ H Q hh=>by
 have:=VR .rB (f:=id) rfl hh;obtain⟨U,J,s,a,b,c⟩:=this;exact⟨U,J,s,a,b,c.imp λd s' U' H' k v rv=>⟨_,rfl,k v rv⟩⟩
theorem zjC{j p'}(ha:SE X cA aq aj F EX a A):ST X cA aq aj F EX (.Compare a [.IsNot] [.Constant .none j p'] pos) (.pr true .qF (.cons A .nil)):=PT.weak (Mz (Uj ha)) λZ H Q hh=>by
 have:=VR .qF (f:=not) rfl hh;obtain⟨U,J,s,a,b,c⟩:=this;exact⟨U,J,s,a,b,c.imp λd s' U' H' k v rv=>⟨_,rfl,k v rv⟩⟩
theorem zgL{K:W.Frag}{U:Ph}{H:Hp}{s:S}{x:Xv}{v:V}{Q:Bool->Hp->Prop}{Ee:Nat->List D->S->Ph->Hp->Prop}(hS:aF K cA U H s)(r:aV K cA U H x v)(h:Run K cA (bool x) U H s (λd _ U' H'=>Q d H') Ee):∃k,v=.bl k/\Q k H:=by
 cases r with
 |l _=>exact h.elim
 |d rv=>cases rv with
  |bl k=>exact⟨k,rfl,h U H Ext.refl hS⟩
  |_=>exact h.elim
end
mutual
inductive Is (h:Heap):D->Value->Prop where
 |non:Is h .non .none
 |bl (b:Bool):Is h (.bl b) (.bool b)
 |int (i:Int) (t:Tok):Is h (.int i) (.int i t)
 |str (x:Str) (t:Tok):Is h (.str x) (.str x t)
 |tup {a:Addr} {xs:List D} {its:List Value} (p:h.IsTuple a its.toArray) (r:je h xs its):Is h (.tup xs) (.ref a)
 |fl {a:Addr} {xs:List D} {its:List Value} (p:h.IsList a its.toArray) (r:je h xs its):Is h (.fl xs) (.ref a)
 |oth {d:D} {u:Value} (k:kq d=none):Is h d u
inductive je (h:Heap):List D->List Value->Prop where
 |nil:je h [] []
 |cons {d:D} {u:Value} {ds:List D} {us:List Value} (a:Is h d u) (r:je h ds us):je h (d::ds) (u::us)
end
section
variable {X:Cx}{cA:Cl}{ao:List (Addr×Obj)}{Z:L2.St}{H:Hp}{s:Shared}{U:Ph}{h:Heap}
theorem Pz(I:Inv X ao Z H s){ds:List D}{vs:List V}{us:List Value}(h:aB X.K cA U H ds vs)(r:Vals vs us):je s.heap ds us:=
 aB.rec (motive_1:=λd v _=>∀{u:Value},RelV v u->Is s.heap d u) (motive_2:=λd v _=>∀{u:List Value},Vals v u->je s.heap d u) (λr=>by cases r;exact .non) (λb _ r=>by cases r;exact .bl b) (λi _ r=>by obtain⟨t,rfl⟩:=r;exact .int i t) (λi _ r=>by obtain⟨t,rfl⟩:=r;exact .str i t)
 (λh _ ih _ r=>by
  cases r;obtain⟨its,rv,ht,_⟩:=I.tuple h.iz;exact .tup ht (ih rv))
 (λh _ ih _ r=>by
  cases r;obtain⟨its,rv,ht,_⟩:=I.list h.qI;exact .fl ht.isList (ih rv))
 (λ_ _ _ _=>.oth rfl) (λ_ _ _ _ _=>.oth rfl) (λ_ _ _ _ _=>.oth rfl) (λ_ _ _=>.oth rfl)
 (λr=>by cases r;exact .nil)
 (λ_ _ i j _ r=>by
  cases r with
  |cons a b=>exact .cons (i a) (j b)) h r
theorem qj(I:Inv X ao Z H s){d:D}{v:V}{u:Value}(h:Rep X.K cA U H d v)(r:RelV v u):Is s.heap d u:=by
 cases h with
 |non=>cases r;exact .non
 |bl b=>cases r;exact .bl b
 |int i=>obtain⟨t,rfl⟩:=r;exact .int i t
 |str i=>obtain⟨t,rfl⟩:=r;exact .str i t
 |tup h q=>
  cases r;obtain⟨its,rv,ht,_⟩:=I.tuple h.iz;exact .tup ht (Pz I q rv)
 |fl h q=>
  cases r;obtain⟨its,rv,ht,_⟩:=I.list h.qI;exact .fl ht.isList (Pz I q rv)
 |fd _ _=>exact .oth rfl
 |exc _ _=>exact .oth rfl
 |ob _ _=>exact .oth rfl
 |any _=>exact .oth rfl
theorem Bm(I:Inv X ao Z H s){d:D}{v:V}{u:Value}(q:Rv X.K cA U H d v)(r:RelV v u):Is s.heap d u:=by
 cases d with
 |fl xs=>
  obtain⟨a,vs,rfl,sq,rs⟩:=q;cases r;obtain⟨its,rv,ht,_⟩:=I.list sq;exact .fl ht.isList (Pz I rs rv)
 |non=>exact qj I q r
 |bl b=>exact qj I q r
 |int b=>exact qj I q r
 |str b=>exact qj I q r
 |tup b=>exact qj I q r
 |fd b c=>exact qj I q r
 |exc b c=>exact qj I q r
 |ob b c=>exact qj I q r
 |any=>exact qj I q r
theorem je.len:∀{ds:List D} {us:List Value},je h ds us->ds.length=us.length
 |_,_,.nil=>rfl
 |_,_,.cons _ r=>by rw[fZ,fZ,je.len r]
theorem je.get:∀{ds:List D} {us:List Value} {i:Nat} {d:D},je h ds us->ds[i]?=some d->∃u,us[i]?=some u/\Is h d u
 |_,_,_,_,.nil,e=>by simp at e
 |_,_,0,_,.cons h _,e=>by simp at e;subst e;exact⟨_,rfl,h⟩
 |_,_,i+1,d,.cons _ r,e=>by
  obtain⟨v,a,b⟩:=je.get (i:=i) (d:=d) r (by simpa using e);exact⟨v,by simpa using a,b⟩
theorem V0{a:Addr}{is js:Array Value}(p:h.IsTuple a is)(q:h.IsTuple a js):is=js:=by
 obtain⟨o,e,c,n,d⟩:=p;obtain⟨o',e',c',n',d'⟩:=q;rw[e] at e';cases e';rw[d] at d';cases d';rfl
theorem V1{a:Addr}{is js:Array Value}(p:h.IsList a is)(q:h.IsList a js):is=js:=by
 obtain⟨o,e,c,n,d⟩:=p;obtain⟨o',e',c',n',d'⟩:=q;rw[e] at e';cases e';rw[d] at d';cases d';rfl
theorem tW{a:Addr}{is js:Array Value}(p:h.IsList a is)(q:h.IsTuple a js):False:=by
 obtain⟨o,e,c,n,d⟩:=p;obtain⟨o',e',c',n',d'⟩:=q;rw[e] at e';cases e';rw[c] at c';exact absurd c' (by simp)
theorem Gk{eq:D->D->Option Bool}:∀{xs ys:List D} {b:Bool},b_ eq xs ys=some b->∃e:Nat->Bool,(∀(j:Nat) x y,xs[j]?=some x->ys[j]?=some y->eq x y=some (e j))/\b=((List.range (min xs.length ys.length)).all e&&xs.length==ys.length)
 |[],[],b,h=>by cases h;exact⟨λ_=>true,λj x y q=>by simp at q,by simp⟩
 |[],y::ys,b,h=>by cases h;exact⟨λ_=>true,λj x y q=>by simp at q,by simp⟩
 |x::xs,[],b,h=>by cases h;exact⟨λ_=>true,λj x y q r=>by simp at r,by simp⟩
 |x::xs,y::ys,b,h=>by
  simp only[b_] at h;cases e1:eq x y with
  |none=>rw[e1] at h;cases h
  |some a=>
   cases e2:b_ eq xs ys with
   |none=>rw[e1,e2] at h;cases h
   |some c=>
    rw[e1,e2] at h;cases h;obtain⟨e,h1,h2⟩:=Gk e2;refine⟨λj=>match j with|0=>a|j+1=>e j,λj p q r1 r2=>?_,?_⟩
    ·cases j with
     |zero=>
      simp at r1 r2;subst r1 r2;exact e1
     |succ j=>exact h1 j p q (by simpa using r1) (by simpa using r2)
    ·rw[h2];simp only[fZ,Nat.succ_min_succ,Lq,xV,CW,Function.comp_def];rw[Bool.and_assoc]
     congr 2
     simp
theorem iI{n:Nat}{d e:D}(k:kq d=none):bZ n d e=none:=by
 cases n<;>cases d<;>first|cases k;done|(cases e<;>rfl)
theorem gB{n:Nat}{d e:D}(k:kq e=none):bZ n d e=none:=by
 cases n<;>cases e<;>first|cases k;done|(cases d<;>rfl)
theorem PB:∀(n:Nat) {d1 d2:D} {u:Value} {b:Bool},Is h d1 u->Is h d2 u->bZ n d1 d2=some b->b=true:=by
 intro n;have rows:∀(n:Nat),(∀{d1 d2:D} {u:Value} {b:Bool},Is h d1 u->Is h d2 u->bZ n d1 d2=some b->b=true)->∀{xs ys:List D} {is js:List Value} {b:Bool},je h xs is->je h ys js->is.toArray=js.toArray->b_ (bZ n) xs ys=some b->b=true:=by
  intro n ih xs ys is js b q1 q2 e hd;have e:is=js:=by simpa using e
  subst e;obtain⟨e,a1,a2⟩:=Gk (eq:=bZ n) hd;rw[a2];have hl:_=_:=q1.len.trans q2.len.symm;rw[gA];refine⟨ji.mpr λj hj=>?_,by rw[hl];simp⟩;have hj:=uz.mp hj;obtain⟨x,hx⟩ : ∃x,_=some x:=⟨_,cT (gY hj (Nat.min_le_left _ _))⟩;obtain⟨y,hy⟩ : ∃y,_=some y:=⟨_,cT (gY hj (Nat.min_le_right _ _))⟩;obtain⟨v1,e1,p1⟩:=q1.get hx;obtain⟨v2,e2,p2⟩:=q2.get hy;rw[e1] at e2;cases e2;exact ih p1 p2 (a1 j x y hx hy)
 induction n with
 |zero=>
  intro d1 d2 u b r1 r2 hd;cases r1 with
  |oth k=>rw[iI k] at hd;cases hd
  |non=>cases r2 with
   |oth k=>rw[gB k] at hd;cases hd
   |non=>cases hd;rfl
  |bl x=>cases r2 with
   |oth k=>rw[gB k] at hd;cases hd
   |bl y=>cases hd;simp
  |int x t=>cases r2 with
   |oth k=>rw[gB k] at hd;cases hd
   |int y=>cases hd;simp
  |str x t=>cases r2 with
   |oth k=>rw[gB k] at hd;cases hd
   |str y=>cases hd;simp
  |tup p q=>cases r2 with
   |oth k=>rw[gB k] at hd;cases hd
   |tup p2 q2=>cases hd
   |fl p2 q2=>exact(tW p2 p).elim
  |fl p q=>cases r2 with
   |oth k=>rw[gB k] at hd;cases hd
   |fl p2 q2=>cases hd
   |tup p2 q2=>exact(tW p p2).elim
 |succ n ih=>
  intro d1 d2 u b r1 r2 hd;cases r1 with
  |oth k=>rw[iI k] at hd;cases hd
  |non=>cases r2 with
   |oth k=>rw[gB k] at hd;cases hd
   |non=>cases hd;rfl
  |bl x=>cases r2 with
   |oth k=>rw[gB k] at hd;cases hd
   |bl y=>cases hd;simp
  |int x t=>cases r2 with
   |oth k=>rw[gB k] at hd;cases hd
   |int y=>cases hd;simp
  |str x t=>cases r2 with
   |oth k=>rw[gB k] at hd;cases hd
   |str y=>cases hd;simp
  |tup p q=>cases r2 with
   |oth k=>rw[gB k] at hd;cases hd
   |tup p2 q2=>exact rows n ih q q2 (V0 p p2) hd
   |fl p2 q2=>exact(tW p2 p).elim
  |fl p q=>cases r2 with
   |oth k=>rw[gB k] at hd;cases hd
   |fl p2 q2=>exact rows n ih q q2 (V1 p p2) hd
   |tup p2 q2=>exact(tW p p2).elim
theorem parts{n:Nat}{A:Around}{xs ys:List D}{is js:List Value}{b:Bool}(r1:je s.heap xs is)(r2:je s.heap ys js)(hd:b_ (bZ n) xs ys=some b)
  (ih:∀{d1 d2:D} {u1 u2:Value} {b:Bool},Is s.heap d1 u1->Is s.heap d2 u2->bZ n d1 d2=some b->SeqAt.EqAt A s u1 u2 b) :
  ∃e:Nat->Bool,(∀j (h1:j<is.toArray.size) (h2:j<js.toArray.size),SeqAt.EqAt A s is.toArray[j] js.toArray[j] (e j))/\b=((List.range (min is.toArray.size js.toArray.size)).all e&&is.toArray.size==js.toArray.size):=by
 obtain⟨e,a1,a2⟩:=Gk hd;have z1:=r1.len;have z2:=r2.len;refine⟨e,λj h1 h2=>?_,by simp only[eG,<-z1,<-z2];exact a2⟩;simp only[eG] at h1 h2;obtain⟨x,hx⟩ : ∃x,xs[j]?=some x:=⟨_,cT (by rw[z1];exact h1)⟩;obtain⟨y,hy⟩ : ∃y,ys[j]?=some y:=⟨_,cT (by rw[z2];exact h2)⟩;obtain⟨u,f1,g1⟩:=r1.get hx;obtain⟨u',f2,g2⟩:=r2.get hy;have k1:is.toArray[j]=u:=by
  have:=dX.mp f1;simpa using this.2
 have k2:js.toArray[j]=u':=by
  have:=dX.mp f2;simpa using this.2
 rw[k1,k2];exact ih g1 g2 (a1 j x y hx hy)
theorem V2{A:Around}{l m:Addr}{is js:Array Value}{e:Nat->Bool}{b:Bool}(p1:s.heap.IsList l is)(p2:s.heap.IsList m js)(hu:A.units<cLine)(he:∀j (h1:j<is.size) (h2:j<js.size),SeqAt.EqAt A.in1 s is[j] js[j] (e j))(hb:b=((List.range (min is.size js.size)).all e&&is.size==js.size)):SeqAt.RcAt A s (.ref l) (.ref m) b:=by
 by_cases hz:is.size=js.size
 ·have:b=(List.range is.size).all e:=by rw[hb,hz];simp
  rw[this];exact SeqAt.RcAt.lists p1 p2 hz hu he
 ·have PJ:(is.size != js.size)=true:=by simpa using hz
  have:b=false:=by rw[hb];simp[hz]
  rw[this];exact SeqAt.RcAt.lists_lengths p1 p2 PJ hu
theorem zgg{A:Around}{l m:Addr}{is js:Array Value}{e:Nat->Bool}{b:Bool}(p1:s.heap.IsList l is)(p2:s.heap.IsList m js)(hu:A.units<cLine)(he:∀j (h1:j<is.size) (h2:j<js.size),SeqAt.EqAt A.in1 s is[j] js[j] (e j))(hb:b=((List.range (min is.size js.size)).all e&&is.size==js.size)):SeqAt.RcNeAt A s (.ref l) (.ref m) (!b):=by
 by_cases hz:is.size=js.size
 ·have:b=(List.range is.size).all e:=by rw[hb,hz];simp
  rw[this];exact SeqAt.RcNeAt.lists p1 p2 hz hu he
 ·have PJ:(is.size != js.size)=true:=by simpa using hz
  have:b=false:=by rw[hb];simp[hz]
  rw[this];exact SeqAt.RcNeAt.lists_lengths p1 p2 PJ hu
open SeqAt in
theorem Gm:∀(n:Nat) {A:Around} {d1 d2:D} {u1 u2:Value} {b:Bool},A.units+n<cLine->Is s.heap d1 u1->Is s.heap d2 u2->bZ n d1 d2=some b->SeqAt.EqAt A s u1 u2 b:=by
 intro n
 induction n with
 |zero=>
  intro A d1 d2 u1 u2 b hu r1 r2 hd;have hu:A.units<cLine:=by lia
  cases r1 with
  |oth k=>rw[iI k] at hd;cases hd
  |non=>cases r2 with
   |oth k=>rw[gB k] at hd;cases hd
   |non=>cases hd;exact EqAt.same _
   |bl y=>cases hd;exact EqAt.none_bool _
   |int y t=>cases hd;exact EqAt.none_int _ _
   |str y t=>cases hd;exact EqAt.none_str _ _
   |tup p q=>cases hd;exact EqAt.none_tuple p hu
   |fl p q=>cases hd;exact EqAt.none_list p hu
  |bl x=>cases r2 with
   |oth k=>rw[gB k] at hd;cases hd
   |non=>cases hd;exact EqAt.bool_none _
   |bl y=>cases hd;exact EqAt.bool_bool _ _
   |int y t=>cases hd;exact EqAt.bool_int _ _ _
   |str y t=>cases hd;exact EqAt.bool_str _ _ _
   |tup p q=>cases hd;exact EqAt.bool_tuple _ p hu
   |fl p q=>cases hd;exact EqAt.bool_list _ p hu
  |int x t=>cases r2 with
   |oth k=>rw[gB k] at hd;cases hd
   |non=>cases hd;exact EqAt.int_none _ _
   |bl y=>cases hd;exact EqAt.int_bool _ _ _
   |int y t=>cases hd;exact EqAt.int_int _ _ _ _
   |str y t=>cases hd;exact EqAt.int_str _ _ _ _
   |tup p q=>cases hd;exact EqAt.int_tuple _ _ p hu
   |fl p q=>cases hd;exact EqAt.int_list _ _ p hu
  |str x t=>cases r2 with
   |oth k=>rw[gB k] at hd;cases hd
   |non=>cases hd;exact EqAt.str_none _ _
   |bl y=>cases hd;exact EqAt.str_bool _ _ _
   |int y t=>cases hd;exact EqAt.str_int _ _ _ _
   |str y t=>cases hd;exact EqAt.str_str _ _ _ _
   |tup p q=>cases hd;exact EqAt.str_tuple _ _ p hu
   |fl p q=>cases hd;exact EqAt.str_list _ _ p hu
  |tup p q=>cases r2 with
   |oth k=>rw[gB k] at hd;cases hd
   |non=>cases hd;exact EqAt.tuple_none p hu
   |bl y=>cases hd;exact EqAt.tuple_bool _ p hu
   |int y t=>cases hd;exact EqAt.tuple_int _ _ p hu
   |str y t=>cases hd;exact EqAt.tuple_str _ _ p hu
   |tup p2 q2=>cases hd
   |fl p2 q2=>cases hd;exact EqAt.tuple_list p p2 hu
  |fl p q=>cases r2 with
   |oth k=>rw[gB k] at hd;cases hd
   |non=>cases hd;exact EqAt.list_none p hu
   |bl y=>cases hd;exact EqAt.list_bool _ p hu
   |int y t=>cases hd;exact EqAt.list_int _ _ p hu
   |str y t=>cases hd;exact EqAt.list_str _ _ p hu
   |tup p2 q2=>cases hd;exact EqAt.list_tuple p p2 hu
   |fl p2 q2=>cases hd
 |succ n ih=>
  intro A d1 d2 u1 u2 b Gn r1 r2 hd;have hu:A.units<cLine:=by lia
  have iJ:A.in1.units+n<cLine:=by show A.units+1+n<cLine;lia
  cases r1 with
  |oth k=>rw[iI k] at hd;cases hd
  |non=>cases r2 with
   |oth k=>rw[gB k] at hd;cases hd
   |non=>cases hd;exact EqAt.same _
   |bl y=>cases hd;exact EqAt.none_bool _
   |int y t=>cases hd;exact EqAt.none_int _ _
   |str y t=>cases hd;exact EqAt.none_str _ _
   |tup p q=>cases hd;exact EqAt.none_tuple p hu
   |fl p q=>cases hd;exact EqAt.none_list p hu
  |bl x=>cases r2 with
   |oth k=>rw[gB k] at hd;cases hd
   |non=>cases hd;exact EqAt.bool_none _
   |bl y=>cases hd;exact EqAt.bool_bool _ _
   |int y t=>cases hd;exact EqAt.bool_int _ _ _
   |str y t=>cases hd;exact EqAt.bool_str _ _ _
   |tup p q=>cases hd;exact EqAt.bool_tuple _ p hu
   |fl p q=>cases hd;exact EqAt.bool_list _ p hu
  |int x t=>cases r2 with
   |oth k=>rw[gB k] at hd;cases hd
   |non=>cases hd;exact EqAt.int_none _ _
   |bl y=>cases hd;exact EqAt.int_bool _ _ _
   |int y t=>cases hd;exact EqAt.int_int _ _ _ _
   |str y t=>cases hd;exact EqAt.int_str _ _ _ _
   |tup p q=>cases hd;exact EqAt.int_tuple _ _ p hu
   |fl p q=>cases hd;exact EqAt.int_list _ _ p hu
  |str x t=>cases r2 with
   |oth k=>rw[gB k] at hd;cases hd
   |non=>cases hd;exact EqAt.str_none _ _
   |bl y=>cases hd;exact EqAt.str_bool _ _ _
   |int y t=>cases hd;exact EqAt.str_int _ _ _ _
   |str y t=>cases hd;exact EqAt.str_str _ _ _ _
   |tup p q=>cases hd;exact EqAt.str_tuple _ _ p hu
   |fl p q=>cases hd;exact EqAt.str_list _ _ p hu
  |@tup a1 xs is p q=>cases r2 with
   |oth k=>rw[gB k] at hd;cases hd
   |non=>cases hd;exact EqAt.tuple_none p hu
   |bl y=>cases hd;exact EqAt.tuple_bool _ p hu
   |int y t=>cases hd;exact EqAt.tuple_int _ _ p hu
   |str y t=>cases hd;exact EqAt.tuple_str _ _ p hu
   |@tup a2 ys js p2 q2=>
    by_cases ea:a1=a2
    ·subst ea;have:=PB (n+1) (.tup p q) (.tup p2 q2) hd;subst this;exact EqAt.same _
    ·obtain⟨e,he,hb⟩:=parts (A:=A.in1) q q2 hd λa b c=>ih iJ a b c;rw[hb];exact EqAt.of_refs ea (RcAt.tuples p p2 hu he)
   |fl p2 q2=>cases hd;exact EqAt.tuple_list p p2 hu
  |@fl a1 xs is p q=>cases r2 with
   |oth k=>rw[gB k] at hd;cases hd
   |non=>cases hd;exact EqAt.list_none p hu
   |bl y=>cases hd;exact EqAt.list_bool _ p hu
   |int y t=>cases hd;exact EqAt.list_int _ _ p hu
   |str y t=>cases hd;exact EqAt.list_str _ _ p hu
   |tup p2 q2=>cases hd;exact EqAt.list_tuple p p2 hu
   |@fl a2 ys js p2 q2=>
    by_cases ea:a1=a2
    ·subst ea;have:=PB (n+1) (.fl p q) (.fl p2 q2) hd;subst this;exact EqAt.same _
    ·obtain⟨e,he,hb⟩:=parts (A:=A.in1) q q2 hd λa b c=>ih iJ a b c;exact EqAt.of_refs ea (V2 p p2 hu he hb)
end
section
variable {X:Cx}{cA:Cl}{ao:List (Addr×Obj)}{Z:L2.St}{H:Hp}{s:Shared}{U:Ph}{h:Heap}
open SeqAt in
theorem V3(Gn:A.units+(n+1)<cLine)(r1:Is s.heap d1 u1)(r2:Is s.heap d2 u2)(hd:bZ (n+1) d1 d2=some b):RcAt A s u1 u2 b/\RcNeAt A s u1 u2 (!b):=by
 have hu:A.units<cLine:=by lia
 have iJ:A.in1.units+n<cLine:=by show A.units+1+n<cLine;lia
 cases r1 with
 |oth k=>rw[iI k] at hd;cases hd
 |non=>cases r2 with
  |oth k=>rw[gB k] at hd;cases hd
  |non=>cases hd;exact⟨RcAt.none_none,RcNeAt.none_none⟩
  |bl y=>cases hd;exact⟨RcAt.none_bool _,RcNeAt.none_bool _⟩
  |int y t=>cases hd;exact⟨RcAt.none_int _ _,RcNeAt.none_int _ _⟩
  |str y t=>cases hd;exact⟨RcAt.none_str _ _,RcNeAt.none_str _ _⟩
  |tup p q=>cases hd;exact⟨RcAt.none_tuple p hu,RcNeAt.none_tuple p hu⟩
  |fl p q=>cases hd;exact⟨RcAt.none_list p hu,RcNeAt.none_list p hu⟩
 |bl x=>cases r2 with
  |oth k=>rw[gB k] at hd;cases hd
  |non=>cases hd;exact⟨RcAt.bool_none _,RcNeAt.bool_none _⟩
  |bl y=>cases hd;exact⟨RcAt.bool_bool _ _,RcNeAt.bool_bool _ _⟩
  |int y t=>cases hd;exact⟨RcAt.bool_int _ _ _,RcNeAt.bool_int _ _ _⟩
  |str y t=>cases hd;exact⟨RcAt.bool_str _ _ _,RcNeAt.bool_str _ _ _⟩
  |tup p q=>cases hd;exact⟨RcAt.bool_tuple _ p hu,RcNeAt.bool_tuple _ p hu⟩
  |fl p q=>cases hd;exact⟨RcAt.bool_list _ p hu,RcNeAt.bool_list _ p hu⟩
 |int x t=>cases r2 with
  |oth k=>rw[gB k] at hd;cases hd
  |non=>cases hd;exact⟨RcAt.int_none _ _,RcNeAt.int_none _ _⟩
  |bl y=>cases hd;exact⟨RcAt.int_bool _ _ _,RcNeAt.int_bool _ _ _⟩
  |int y t=>cases hd;exact⟨RcAt.int_int _ _ _ _,RcNeAt.int_int _ _ _ _⟩
  |str y t=>cases hd;exact⟨RcAt.int_str _ _ _ _,RcNeAt.int_str _ _ _ _⟩
  |tup p q=>cases hd;exact⟨RcAt.int_tuple _ _ p hu,RcNeAt.int_tuple _ _ p hu⟩
  |fl p q=>cases hd;exact⟨RcAt.int_list _ _ p hu,RcNeAt.int_list _ _ p hu⟩
 |str x t=>cases r2 with
  |oth k=>rw[gB k] at hd;cases hd
  |non=>cases hd;exact⟨RcAt.str_none _ _,RcNeAt.str_none _ _⟩
  |bl y=>cases hd;exact⟨RcAt.str_bool _ _ _,RcNeAt.str_bool _ _ _⟩
  |int y t=>cases hd;exact⟨RcAt.str_int _ _ _ _,RcNeAt.str_int _ _ _ _⟩
  |str y t=>cases hd;exact⟨RcAt.str_str _ _ _ _,RcNeAt.str_str _ _ _ _⟩
  |tup p q=>cases hd;exact⟨RcAt.str_tuple _ _ p hu,RcNeAt.str_tuple _ _ p hu⟩
  |fl p q=>cases hd;exact⟨RcAt.str_list _ _ p hu,RcNeAt.str_list _ _ p hu⟩
 |@tup a1 xs is p q=>cases r2 with
  |oth k=>rw[gB k] at hd;cases hd
  |non=>cases hd;exact⟨RcAt.tuple_none p hu,RcNeAt.tuple_none p hu⟩
  |bl y=>cases hd;exact⟨RcAt.tuple_bool _ p hu,RcNeAt.tuple_bool _ p hu⟩
  |int y t=>cases hd;exact⟨RcAt.tuple_int _ _ p hu,RcNeAt.tuple_int _ _ p hu⟩
  |str y t=>cases hd;exact⟨RcAt.tuple_str _ _ p hu,RcNeAt.tuple_str _ _ p hu⟩
  |@tup a2 ys js p2 q2=>
   obtain⟨e,he,hb⟩:=parts (A:=A.in1) q q2 hd λa b c=>Gm n iJ a b c;rw[hb];exact⟨RcAt.tuples p p2 hu he,RcNeAt.tuples p p2 hu he⟩
  |fl p2 q2=>cases hd;exact⟨RcAt.tuple_list p p2 hu,RcNeAt.tuple_list p p2 hu⟩
 |@fl a1 xs is p q=>cases r2 with
  |oth k=>rw[gB k] at hd;cases hd
  |non=>cases hd;exact⟨RcAt.list_none p hu,RcNeAt.list_none p hu⟩
  |bl y=>cases hd;exact⟨RcAt.list_bool _ p hu,RcNeAt.list_bool _ p hu⟩
  |int y t=>cases hd;exact⟨RcAt.list_int _ _ p hu,RcNeAt.list_int _ _ p hu⟩
  |str y t=>cases hd;exact⟨RcAt.list_str _ _ p hu,RcNeAt.list_str _ _ p hu⟩
  |tup p2 q2=>cases hd;exact⟨RcAt.list_tuple p p2 hu,RcNeAt.list_tuple p p2 hu⟩
  |@fl a2 ys js p2 q2=>
   obtain⟨e,he,hb⟩:=parts (A:=A.in1) q q2 hd λa b c=>Gm n iJ a b c;exact⟨V2 p p2 hu he hb,zgg p p2 hu he hb⟩
noncomputable def u_(K:W.Frag)(cA:Cl)(f:Bool->Bool):R2:=λx y H Q=>∃U d1 d2 b,Rv K cA U H d1 x/\Rv K cA U H d2 y/\bZ 50 d1 d2=some b/\Q (.bl (f b)) H
theorem zld(hu:X.A.units+60<cLine):dZ X (compareOp .Eq) (u_ X.K cA id):=by
 intro ao s Z H x y v u Q I rx ry ⟨U,d1,d2,b,r1,r2,hd,q⟩;exact(V3 (n:=49) (by lia) (Bm I r1 rx) (Bm I r2 ry) hd).1 X.prog X.w X.xe _ ⟨.bl b,H,I,rfl,q⟩
theorem zj5(hu:X.A.units+60<cLine):dZ X (compareOp .NotEq) (u_ X.K cA not):=by
 intro ao s Z H x y v u Q I rx ry ⟨U,d1,d2,b,r1,r2,hd,q⟩;exact(V3 (n:=49) (by lia) (Bm I r1 rx) (Bm I r2 ry) hd).2 X.prog X.w X.xe _ ⟨.bl (!b),H,I,rfl,q⟩
theorem zjy:∀(n:Nat) {d d' x:D} {u:Value} {b b':Bool},Is h d u->Is h d' u->bZ n d x=some b->bZ n d' x=some b'->b=b':=by
 intro n;have flat:∀{d d' x:D} {u:Value} {b b':Bool},Is h d u->Is h d' u->(∀xs xs',d=.tup xs->d'=.tup xs'->False)->(∀xs xs',d=.fl xs->d'=.fl xs'->False)->bZ n d x=some b->bZ n d' x=some b'->b=b':=by
  intro d d' x u b b' r1 r2 n1 n2 h1 h2;cases r1 with
  |oth k=>rw[iI k] at h1;cases h1
  |non=>cases r2 with
   |oth k=>rw[iI k] at h2;cases h2
   |non=>rw[h1] at h2;exact cD h2
  |bl y=>cases r2 with
   |oth k=>rw[iI k] at h2;cases h2
   |bl=>rw[h1] at h2;exact cD h2
  |int y=>cases r2 with
   |oth k=>rw[iI k] at h2;cases h2
   |int=>rw[h1] at h2;exact cD h2
  |str y=>cases r2 with
   |oth k=>rw[iI k] at h2;cases h2
   |str=>rw[h1] at h2;exact cD h2
  |tup p q=>cases r2 with
   |oth k=>rw[iI k] at h2;cases h2
   |tup=>exact(n1 _ _ rfl rfl).elim
   |fl p2 q2=>exact(tW p2 p).elim
  |fl p q=>cases r2 with
   |oth k=>rw[iI k] at h2;cases h2
   |fl=>exact(n2 _ _ rfl rfl).elim
   |tup p2 q2=>exact(tW p p2).elim
 have tn:∀{n:Nat} {xs xs':List D} {x:D},(∀ys,x=.tup ys->False)->bZ n (.tup xs) x=bZ n (.tup xs') x:=λ{n xs xs' x} hx=>by
  cases n<;>cases x<;>first|rfl|exact(hx _ rfl).elim
 have ln:∀{n:Nat} {xs xs':List D} {x:D},(∀ys,x=.fl ys->False)->bZ n (.fl xs) x=bZ n (.fl xs') x:=λ{n xs xs' x} hx=>by
  cases n<;>cases x<;>first|rfl|exact(hx _ rfl).elim
 clear flat
 induction n with
 |zero=>
  intro d d' x u b b' r1 r2 h1 h2;cases r1 with
  |oth k=>rw[iI k] at h1;cases h1
  |non=>cases r2 with
   |oth k=>rw[iI k] at h2;cases h2
   |non=>rw[h1] at h2;exact cD h2
  |bl y=>cases r2 with
   |oth k=>rw[iI k] at h2;cases h2
   |bl=>rw[h1] at h2;exact cD h2
  |int y=>cases r2 with
   |oth k=>rw[iI k] at h2;cases h2
   |int=>rw[h1] at h2;exact cD h2
  |str y=>cases r2 with
   |oth k=>rw[iI k] at h2;cases h2
   |str=>rw[h1] at h2;exact cD h2
  |tup p q=>cases r2 with
   |oth k=>rw[iI k] at h2;cases h2
   |tup p2 q2=>
    cases x with
    |tup ys=>cases h1
    |_=>rw[tn (by intro ys z;cases z),h2] at h1;exact(cD h1).symm
   |fl p2 q2=>exact(tW p2 p).elim
  |fl p q=>cases r2 with
   |oth k=>rw[iI k] at h2;cases h2
   |fl p2 q2=>
    cases x with
    |fl ys=>cases h1
    |_=>rw[ln (by intro ys z;cases z),h2] at h1;exact(cD h1).symm
   |tup p2 q2=>exact(tW p p2).elim
 |succ n ih=>
  intro d d' x u b b' r1 r2 h1 h2;have rows:∀{xs xs' ys:List D} {is js:List Value} {b b':Bool},je h xs is->je h xs' js->is.toArray=js.toArray->b_ (bZ n) xs ys=some b->b_ (bZ n) xs' ys=some b'->b=b':=by
   intro xs xs' ys is js b b' q1 q2 e h1 h2;have e:is=js:=by simpa using e
   subst e;obtain⟨e1,a1,b1⟩:=Gk h1;obtain⟨e2,a2,b2⟩:=Gk h2;have hl:xs.length=xs'.length:=q1.len.trans q2.len.symm;rw[b1,b2,hl]
   congr 1
   rw[Bool.eq_iff_iff,ji,ji];have key:∀j∈List.range (min xs'.length ys.length),e1 j=e2 j:=λj hj=>by
    have hj:=uz.mp hj;obtain⟨x1,V4⟩ : ∃x,xs[j]?=some x:=⟨_,cT (by rw[hl];exact gY hj (Nat.min_le_left _ _))⟩;obtain⟨x2,Jt⟩ : ∃x,xs'[j]?=some x:=⟨_,cT (gY hj (Nat.min_le_left _ _))⟩;obtain⟨y,hy⟩ : ∃y,ys[j]?=some y:=⟨_,cT (gY hj (Nat.min_le_right _ _))⟩;obtain⟨v1,f1,p1⟩:=q1.get V4;obtain⟨v2,f2,p2⟩:=q2.get Jt;rw[f1] at f2;cases f2;exact ih p1 p2 (a1 j x1 y V4 hy) (a2 j x2 y Jt hy)
   exact⟨λz j hj=>by rw[<-key j hj];exact z j hj,λz j hj=>by rw[key j hj];exact z j hj⟩
  cases r1 with
  |oth k=>rw[iI k] at h1;cases h1
  |non=>cases r2 with
   |oth k=>rw[iI k] at h2;cases h2
   |non=>rw[h1] at h2;exact cD h2
  |bl y=>cases r2 with
   |oth k=>rw[iI k] at h2;cases h2
   |bl=>rw[h1] at h2;exact cD h2
  |int y=>cases r2 with
   |oth k=>rw[iI k] at h2;cases h2
   |int=>rw[h1] at h2;exact cD h2
  |str y=>cases r2 with
   |oth k=>rw[iI k] at h2;cases h2
   |str=>rw[h1] at h2;exact cD h2
  |tup p q=>cases r2 with
   |oth k=>rw[iI k] at h2;cases h2
   |tup p2 q2=>
    cases x with
    |tup ys=>exact rows q q2 (V0 p p2) h1 h2
    |_=>rw[tn (by intro ys z;cases z),h2] at h1;exact(cD h1).symm
   |fl p2 q2=>exact(tW p2 p).elim
  |fl p q=>cases r2 with
   |oth k=>rw[iI k] at h2;cases h2
   |fl p2 q2=>
    cases x with
    |fl ys=>exact rows q q2 (V1 p p2) h1 h2
    |_=>rw[ln (by intro ys z;cases z),h2] at h1;exact(cD h1).symm
   |tup p2 q2=>exact(tW p p2).elim
theorem V5:∀{xs:List D} {b:Bool},memD x xs=some b->∀d∈xs,∃k,bZ 50 d x=some k
 |[],_,_,d,hd=>by cases hd
 |y::xs,b,h,d,hd=>by
  unfold memD at h;cases e1:bZ 50 y x with
  |none=>simp only[e1] at h;cases h
  |some a=>
   cases e2:memD x xs with
   |none=>simp only[e1,e2] at h;cases h
   |some c=>
    rcases gG.mp hd with rfl|hd
    ·exact⟨a,e1⟩
    ·exact V5 e2 d hd
theorem V6:∀{xs:List D} {us:List Value} {b:Bool},memD x xs=some b->je h xs us->∃e:Value->Bool,(∀u∈us,∃d,Is h d u/\bZ 50 d x=some (e u))/\us.any e=b:=by
 intro xs us b hm r;have ex:∀u∈us,∃d k,Is h d u/\bZ 50 d x=some k:=by
  intro u hu;obtain⟨i,hi,e⟩:=vV hu;have hl:=r.len;obtain⟨d,hd⟩ : ∃d,xs[i]?=some d:=⟨_,cT (by lia)⟩;obtain⟨u',e1,q⟩:=r.get hd;rw[cT hi,e] at e1;cases e1;obtain⟨k,hk⟩:=V5 hm d (eZ hd);exact⟨d,k,q,hk⟩
 refine⟨λu=>by classical exact if z:∃k,∃d,Is h d u/\bZ 50 d x=some k then z.choose else false,λu hu=>?_,?_⟩
 ·obtain⟨d,k,q,hk⟩:=ex u hu;have z:∃k,∃d,Is h d u/\bZ 50 d x=some k:=⟨k,d,q,hk⟩;dsimp only;rw[dif_pos z];exact z.choose_spec
 ·clear ex;have key:∀(xs:List D) (us:List Value) (b:Bool),memD x xs=some b->je h xs us->us.any (λu=>by classical exact if z:∃k,∃d,Is h d u/\bZ 50 d x=some k then z.choose else false)=b:=by
   intro xs
   induction xs with
   |nil=>intro us b hm r;cases r;cases hm;rfl
   |cons d ds ih=>
    intro us b hm r;cases r with
    |@cons _ u _ us a r=>
     unfold memD at hm;cases e1:bZ 50 d x with
     |none=>simp only[e1] at hm;cases hm
     |some k=>
      cases e2:memD x ds with
      |none=>simp only[e1,e2] at hm;cases hm
      |some c=>
       simp only[e1,e2] at hm;cases hm;rw[List.any_cons];have z:∃k,∃d,Is h d u/\bZ 50 d x=some k:=⟨k,d,a,e1⟩;have hk:z.choose=k:=by
        obtain⟨d',q,Dr⟩:=z.choose_spec;exact zjy 50 q a Dr e1
       rw[dif_pos z,hk,ih us c e2 r]
  exact key xs us b hm r
noncomputable def Gp(K:W.Frag)(cA:Cl)(f:Bool->Bool):R2:=λx y H Q=>∃U d1 d2 xs b,Rv K cA U H d1 x/\Rv K cA U H d2 y/\lC d2=some xs/\memD d1 xs=some b/\Q (.bl (f b)) H
theorem zkn(hu:X.A.units+60<cLine):dZ X (compareOp .In) (Gp X.K cA id):=by
 intro ao s Z H x y v u Q I rx ry ⟨U,d1,d2,xs,b,r1,r2,hq,hm,q⟩;have iJ:X.A.in1.units+50<cLine:=by show X.A.units+1+50<cLine;lia
 have i1:=Bm I r1 rx;cases Bm I r2 ry with
 |tup p r=>
  cases hq;obtain⟨e,he,hb⟩:=V6 hm r;refine SeqAt.in_tupleAt e p (λw hw=>?_) ⟨.bl b,H,I,by rw[<-hb];simp[L2.RelV],q⟩;obtain⟨d,q1,q2⟩:=he w (by simpa using hw);exact Gm 50 iJ q1 i1 q2
 |fl p r=>
  cases hq;obtain⟨e,he,hb⟩:=V6 hm r;refine SeqAt.in_listAt e p (λw hw=>?_) ⟨.bl b,H,I,by rw[<-hb];simp[L2.RelV],q⟩;obtain⟨d,q1,q2⟩:=he w (by simpa using hw);exact Gm 50 iJ q1 i1 q2
 |oth k=>cases d2<;>cases hq<;>cases k
 |_=>cases hq
end
end Mi
namespace HT
open PySem PyProof.Rows
section
variable {prog:Program}{w:World}{A:Around}{E:Value->Shared->Prop}{s:Shared}
theorem rG{t b:Addr}{vs ws:List Value}{Q:Value->Shared->Prop}(ht:IsTup s.heap t vs.toArray)(hb:IsTup s.heap b ws.toArray)(hv:vs=[])
  (h1:Q (.ref b) s):wpAny (model prog w) A (binaryOp .Add (.ref t) (.ref b)) Q E s:=by
 obtain⟨⟨cls,dd,data,sl⟩,ho,hc,n,hd⟩:=id ht;obtain⟨⟨cls2,dd2,data2,sl2⟩,nM,oR,n2,hd2⟩:=id hb;simp only at hc hd oR hd2;subst hc hd oR hd2;exact concat_meets ⟨_,ho,rfl⟩ ⟨_,nM,rfl⟩ noFill_tuple_add seq_tuple_add Lp Li (Lg _ _)
   (tuple_addW0 t b vs.toArray ws.toArray n n2 dd dd2 sl sl2 (by simp[hv])) ⟨ho,nM,h1⟩
theorem fG{t sl:Addr}{items:Array Value}{vl vu:Value}{lo hi:Option Int}{Q:Value->Shared->Prop}(ht:IsTup s.heap t items)(hs:s.heap.IsSliceOf sl vl vu .none)(pl:IsPart vl lo)(pu:IsPart vu hi)
  (hw:bL items.size 0 lo=0/\bL items.size items.size hi=items.size) (h:Q (.ref t) s):wpAny (model prog w) A (getItem (.ref t) (.ref sl)) Q E s:=by
 obtain⟨os,pU,yI,tQ⟩:=id hs;have Em:s.TypeIs (.ref sl) "slice":=⟨os,pU,yI⟩;unfold getItem
 try with_reducible refine pO ?_
 first|refine aC (aO ?_)|skip
 refine aC (wpAny_sequenceKey ht.typeIs (by decide) ?_);refine aC (vQ (name:=Str.ofString "__getitem__") ht.typeIs uh
  (uw uh ht.typeIs entry_tuple_getitem ?_ (args_tuple_getitem _ _)))
 show wpAny _ _ (Builtin.Tuple.tupleItemsOf (.ref t) >>= _) _ _ s;refine aC (tupleItemsOf_ ht ?_);refine aC (CV Em ?_);rw[if_pos (by decide)];refine aC (U_ hs pl pu ?_);have PK:(((bL items.size 0 lo:Nat):Int)==0&&(1:Int)==1&&(bL items.size items.size hi-bL items.size 0 lo)==items.size)=true:=by
  rw[hw.1,hw.2];simp
 show wpAny _ _ (if (((bL items.size 0 lo:Nat):Int)==0&&(1:Int)==1&&(bL items.size items.size hi-bL items.size 0 lo)==items.size)=true then _ else _) _ _ s;rw[if_pos PK];refine aC ?_;unfold Builtin.Tuple.tupleIsExact;refine aC (CV ht.typeIs ?_);refine aO ?_;rw[if_pos (by decide)];refine aC (wpAny_rule ?_);exact aO ⟨_,rfl,aO h⟩
theorem zbY{i:Int}{t:Tok}{Q:Option Int->Shared->Prop}(h:Q (some i) s):wpAny (model prog w) A (Builtin.Slice.slicePartIndex (.int i t)) Q E s:=Nv (.int i t) h
theorem zbk{sl:Addr}{t:Tok}{n:Nat}{Q:Int×Int×Nat->Shared->Prop}(hs:s.heap.IsSliceOf sl .none .none (.int (-1) t))
  (h:Q ((n:Int)-1,-1,n) s):wpAny (model prog w) A (Builtin.Slice.sliceApplied (.ref sl) (pure (n:Int))) Q E s:=by
 obtain⟨os,pU,yI,tQ⟩:=id hs;unfold Builtin.Slice.sliceApplied Builtin.Slice.sliceFields;refine aC (aC (jB pU tQ (x:=.none) rfl (aC (jB pU tQ (x:=.none) rfl (aC (jB pU tQ (x:=.int (-1) t) rfl (aO ?_)))))));refine aC (zbY ?_);show wpAny _ _ (if ((-1:Int)==0)=true then _ else _) _ _ s;rw[if_neg (by decide)];refine aC (slicePart_none (aC (slicePart_none (aC (aO ?_)))));show wpAny _ _ (pure ((n:Int)-1,(-1:Int),Builtin.Slice.slicePlaces ((n:Int)-1) (-1) (-1))) _ _ s;have e:Builtin.Slice.slicePlaces ((n:Int)-1) (-1) (-1)=n:=by
  unfold Builtin.Slice.slicePlaces;rw[if_neg (by decide)];by_cases hn:n=0
  ·subst hn;rfl
  ·rw[if_pos (by lia)];have:(-(-1:Int))=1:=rfl;rw[this,Int.ediv_one]
   lia
 rw[e];exact aO h
theorem zgw(xs:Array Value):((List.range xs.size).filterMap λ(m:Nat)=>xs[(((xs.size:Int)-1)+(m:Int) * -1).toNat]?).toArray=xs.toList.reverse.toArray:=by
 have e:∀n,n<=xs.size->(List.range n).filterMap (λ(m:Nat)=>xs[(((xs.size:Int)-1)+(m:Int) * -1).toNat]?)=(xs.toList.reverse).take n:=by
  intro n
  induction n with
  |zero=>intro _;simp
  |succ n ih=>
   intro hn;have dh:n<xs.toList.reverse.length:=by simp;lia
   rw[List.range_succ,Lr,ih (by lia),T3 dh]
   congr 1
   have:(((xs.size:Int)-1)+(n:Int) * -1).toNat=xs.size-1-n:=by lia
   simp only[xQ,List.filterMap_nil,this];rw[Array.getElem?_eq_getElem (by lia)];simp[List.getElem_reverse]
 rw[e xs.size (bI _),List.take_of_length_le (by simp)]
theorem gQ(ht:IsTup s.heap t items)(hs:s.heap.IsSliceOf sl .none .none (.int (-1) tk))
  (h:Q (.ref s.heap.objs.size) {s with heap:=s.heap.push {cls:=.type "tuple",data:=.seq items.toList.reverse.toArray}})
  (hsz:items.size<=sizeLine):wpAny (model prog w) A (getItem (.ref t) (.ref sl)) Q E s:=by
 have gM:sizeOk (.seq items.toList.reverse.toArray):=by
  show items.toList.reverse.toArray.size<=sizeLine;simpa using hsz
 obtain⟨os,pU,yI,tQ⟩:=id hs;have Em:s.TypeIs (.ref sl) "slice":=⟨os,pU,yI⟩;unfold getItem
 try with_reducible refine pO ?_
 first|refine aC (aO ?_)|skip
 refine aC (wpAny_sequenceKey ht.typeIs (by decide) ?_);refine aC (vQ (name:=Str.ofString "__getitem__") ht.typeIs uh
  (uw uh ht.typeIs entry_tuple_getitem ?_ (args_tuple_getitem _ _)))
 show wpAny _ _ (Builtin.Tuple.tupleItemsOf (.ref t) >>= _) _ _ s;refine aC (tupleItemsOf_ ht ?_);refine aC (CV Em ?_);rw[if_pos (by decide)];refine aC (zbk hs ?_);show wpAny _ _ (if (((items.size:Int)-1)==0&&(-1:Int)==1&&items.size==items.size)=true then _ else _) _ _ s;rw[if_neg (by simp),zgw]
 first
  |exact aC (m:=Builtin.Tuple.tupleExact _) (oG (aO ⟨_,rfl,aO h⟩) gM)
  |exact aC (m:=Builtin.Tuple.tupleExact _) (oG (aC (aO (aO ⟨_,rfl,aO h⟩))) gM)
  |exact aC (aC (m:=Builtin.Tuple.tupleExact _) (oG (aO (aO ⟨_,rfl,aO h⟩)) gM))
  |exact aC (aC (m:=Builtin.Tuple.tupleExact _) (oG (aO ⟨_,rfl,aO h⟩) gM))
end
end HT
namespace L2
open PySem PySem.Spec PyProof.Rows
section
variable {X:Cx}{e:Expr}{te:TE}{pos p2:Pos}
noncomputable def rH(K:W.Frag):R2:=λx y H Q=>∃a b xs ys,x=.ref a/\y=.ref b/\fu K H a xs/\fu K H b ys/\xs.length+ys.length<=sizeLine /\
 (xs=[]->Q (.ref b) H)/\(ys=[]->Q (.ref a) H)/\∀p,H p=none->Q (.ref p) (upd H p (.tup (xs++ys)))
theorem rJ:dZ X (binaryOp .Add) (rH X.K):=by
 intro ao s Z H x y v u Q I rx ry h;obtain⟨a,b,xs,ys,rfl,rfl,ha,hb,hz,q0,q1,q2⟩:=h;cases rx;cases ry;obtain⟨its,r1,p1,_⟩:=I.tuple ha;obtain⟨its2,r2,p2,_⟩:=I.tuple hb;by_cases hx:xs=[]
 ·exact HT.rG p1 p2 (r1.lq.mpr hx) ⟨.ref b,H,I,rfl,q0 hx⟩
 ·refine HT.uM p1 p2 (λz=>hx (r1.lq.mp z)) (λz=>⟨.ref a,H,I,rfl,q1 (r2.lq.mp z)⟩) (λz=>?_) (by rw[<-r1.length,<-r2.length];exact hz);refine⟨.ref s.heap.objs.size,_,I.laid (t':=s.toks) (o:=.tup (xs++ys)) (λb ob q=>cG _ q) (bI _) ?_,rfl,q2 _ (I.hok.fresh (bI _))⟩;exact⟨by rw[lV];exact hz,_,r1.append r2,IsTup.new _ _⟩
noncomputable def wR(K:W.Frag):V->Option Int->Option Int->Hp->VK->Prop:=λx lo hi H Q=>∃a xs,x=.ref a/\fu K H a xs /\
 ((HT.bL xs.length 0 lo=0/\HT.bL xs.length xs.length hi=xs.length)->Q (.ref a) H)/\∀p,H p=none->Q (.ref p) (upd H p (.tup (lg xs lo hi)))
theorem zjE:uO X (wR X.K):=by
 intro ao s Z H x v vl vu lo hi sl Q I rx hs pl pu h;obtain⟨a,xs,rfl,hx,hw,q⟩:=h;by_cases hz:HT.bL xs.length 0 lo=0/\HT.bL xs.length xs.length hi=xs.length
 ·cases rx;obtain⟨its,r,ht,_⟩:=I.tuple hx;have hlen:its.toArray.size=xs.length:=by rw[eG];exact r.length.symm
  refine⟨"tuple",_,uh.lookup,ht.typeIs,?_⟩;exact HT.fG ht hs pl pu (by rw[hlen];exact hz) ⟨.ref a,H,I,rfl,hw hz⟩
 ·exact zma ao s Z H (.ref a) v vl vu lo hi sl Q I rx hs pl pu ⟨a,xs,rfl,hx,hz,q⟩
theorem zkq(he:PE X e te):PE X (.Subscript e (.Slice none none (some (.UnaryOp .USub (.Constant (.int 1) j p3) p4)) p2) pos) (λZ H Q=>te Z H λx H1=>∃a xs,x=.ref a/\fu X.K H1 a xs/\∀p,H1 p=none->Q (.ref p) (upd H1 p (.tup xs.reverse))):=by
 intro ao s Z H Q I h;refine Subscript_ (aZ (he ao s Z H _ I h) λv s1 ⟨x,H1,I1,r1,a,xs,ex,hx,q⟩=>?_);subst ex;cases r1;refine wpAny_Slice ?_;rw[evalPart_none];refine aO (aO ?_);rw[evalPart_some];refine aZ (Us (r:=rU λi=>.int (-i)) Ut Uh ao s1 Z H1 (λv H'=>v=.int (-1)/\H'=H1) I1 ⟨1,rfl,rfl,rfl⟩) λu s2 ⟨z,H2,I2,r2,ez,eH⟩=>?_;subst ez eH;obtain⟨t,rfl⟩:=r2;obtain⟨its,r,ht,hz⟩:=I2.tuple hx;have I4:Inv X ao Z H2 {s2 with heap:=s2.heap.push {cls:=.type "slice",data:=.fields #[.none,.none,.int (-1) t]}}:=I2.kept (t':=s2.toks) λb ob q=>cG _ q;obtain⟨its,r,ht,hz⟩:=I4.tuple hx;have hlen:its.toArray.size=xs.length:=by rw[eG];exact r.length.symm
 show wpAny (model X.prog X.w) X.A (subscriptTail e (.Slice none none (some (.UnaryOp .USub (.Constant (.int 1) j p3) p4)) p2) (.ref a) (.ref s2.heap.objs.size)) (EP X ao Z Q) X.xe {s2 with heap:=s2.heap.push {cls:=.type "slice",data:=.fields #[.none,.none,.int (-1) t]}};refine tail_any (ops:=[.ref a,.ref s2.heap.objs.size]) ht.typeIs uh.lookup (HT.gQ ht (Heap.IsSliceOf.new ..) ?_ (by rw[hlen];exact hz)) (by with_unfolding_all rfl);refine⟨.ref _,_,I4.laid (t':=s2.toks) (o:=.tup xs.reverse) (λb ob q=>cG _ q) (bI _) ?_,rfl,q _ (I4.hok.fresh (bI _))⟩;refine⟨by rw[Lx];exact hz,_,?_,IsTup.new _ _⟩;have rv:∀{xs:List V} {us:List Value},Vals xs us->Vals xs.reverse us.reverse:=λ{xs us} r=>by
  induction r with
  |nil=>exact .nil
  |cons a b ih=>rw[Im,Im];exact ih.append (.cons a .nil)
 simpa using rv r
end
section
variable {X:Cx}
noncomputable def wU(K:W.Frag):R2:=λx y H Q=>∃l b xs zs,x=.ref l/\y=.ref b/\cM K H l xs/\cM K H b zs/\xs.length+zs.length<=sizeLine/\∀p,H p=none->Q (.ref p) (upd H p (.lst (xs++zs)))
theorem vd:dZ X (binaryOp .Add) (wU X.K):=by
 intro ao s Z H x y v u Q I rx ry h;obtain⟨l,b,xs,zs,rfl,rfl,hH,hB,hz,q⟩:=h;cases rx;cases ry;obtain⟨its,r,pl,_⟩:=I.list hH;obtain⟨its2,r2,pl2,_⟩:=I.list hB;obtain⟨⟨cls,dd,data,sl⟩,ho,hc,n,hd⟩:=pl.isList;obtain⟨⟨cls2,dd2,data2,sl2⟩,nM,oR,n2,hd2⟩:=pl2.isList;simp only at hc hd oR hd2;subst hc hd oR hd2;refine concat_meets ⟨_,ho,rfl⟩ ⟨_,nM,rfl⟩ noFill_list_add seq_list_add PySem.F.slot_list_add PySem.F.entry_list_add (PySem.F.args_list_add_2 _ _) (list_addW l b its.toArray its2.toArray n n2 dd dd2 sl sl2 (by rw[eG,eG,<-r.length,<-r2.length];exact hz)) ⟨ho,nM,?_⟩;have ea:its.toArray++its2.toArray=(its++its2).toArray:=by simp
 rw[ea];exact⟨.ref _,_,I.NQ (t':=s.toks) (r.append r2) (by rw[lV];omega),rfl,q _ I.fresh⟩
noncomputable def o_(K:W.Frag):R2:=λx y H Q=>nG (λi j=>.int (i+j)) x y H Q\/wU K x y H Q\/rH K x y H Q\/∃i j,x=.str i/\y=.str j/\i.length+j.length<=sizeLine/\Q (.str (i++j)) H
theorem zgi:dZ X (binaryOp .Add) (o_ X.K):=yD.or (vd.or (rJ.or zeT))
end
end L2
namespace Mi
open PySem PySem.Spec PyProof.Rows L2
section
variable {K:W.Frag}{cA:Cl}{U:Ph}{H:Hp}{Q:VK}{p:Pr}
theorem bw.some'{o:Option Rz}(h:bw K cA U H o Q):∃z,o=some z:=by
 cases o with
 |none=>exact h.elim
 |some z=>exact⟨z,rfl⟩
theorem bw.of{o:Option Rz}{z:Rz}(h:bw K cA U H o Q)(e:o=some z):bw K cA U H (some z) Q:=e▸h
theorem bw.here{d:D}{v:V}(h:bw K cA U H (some (.dat d)) Q)(r:Rep K cA U H d v):Q v H:=h H v bf.refl r
theorem bw.tup{xs:List D}{vs:List V}{a:Addr}(h:bw K cA U H (some (.dat (.tup xs))) Q)(z:Zt U H)(r:aB K cA U H xs vs)(hp:H a=none):Q (.ref a) (upd H a (.tup vs)):=
 h _ _ (bf.new hp) (.tup (TupAt.new (z.nz hp)) (r.mono (bf.new hp).ext z.lz))
theorem u5.two{ds:List D}{vs:List V}{d d':D}(h:u5 K cA U H [d,d'] vs):∃v v',vs=[v,v']/\Rv K cA U H d v/\Rv K cA U H d' v':=by
 cases h with
 |cons a r=>cases r with
  |cons b r=>cases r;exact⟨_,_,rfl,a,b⟩
theorem u5.one(h:u5 K cA U H [d] vs):∃v,vs=[v]/\Rv K cA U H d v:=by
 cases h with
 |cons a r=>cases r;exact⟨_,rfl,a⟩
theorem Rv.int{i:Int}{v:V}(h:Rv K cA U H (.int i) v):v=.int i:=by cases (show Rep K cA U H (.int i) v from h);rfl
theorem Rv.bl{i:Bool}{v:V}(h:Rv K cA U H (.bl i) v):v=.bl i:=by cases (show Rep K cA U H (.bl i) v from h);rfl
theorem Rv.str{i:Str}{v:V}(h:Rv K cA U H (.str i) v):v=.str i:=by cases (show Rep K cA U H (.str i) v from h);rfl
theorem Rv.tup{xs:List D}{v:V}(h:Rv K cA U H (.tup xs) v):∃a vs,v=.ref a/\TupAt K U H a vs/\aB K cA U H xs vs:=by
 cases (show Rep K cA U H (.tup xs) v from h) with
 |tup a r=>exact⟨_,_,rfl,a,r⟩
theorem Rv.sq{d:D}{xs:List D}{v:V}(h:Rv K cA U H d v)(e:lC d=some xs):∃a vs,v=.ref a/\(cM K H a vs\/fu K H a vs)/\aB K cA U H xs vs:=by
 cases d with
 |tup ys=>
  cases e;obtain⟨a,vs,e,t,r⟩:=Rv.tup h;exact⟨a,vs,e,.inr t.iz,r⟩
 |fl ys=>
  cases e;obtain⟨a,vs,e,l,r⟩:=h;exact⟨a,vs,e,.inl l,r⟩
 |_=>cases e
theorem V7{f:Int->Int->Option D}{ds:List D}{z:Rz}(h:cO f ds=some z):∃i j d,ds=[.int i,.int j]/\f i j=some d/\z=.dat d:=by
 cases ds with
 |nil=>cases h
 |cons a t=>
 cases a with
 |int i=>
  cases t with
  |nil=>cases h
  |cons b t=>
  cases b with
  |int j=>
   cases t with
   |cons _ _=>cases h
   |nil=>
    obtain⟨d,e1,e2⟩:=j_.mp h;exact⟨_,_,d,rfl,e1,e2.symm⟩
  |_=>cases h
 |_=>cases h
theorem Gq{f:Int->Int->Option D}(hp:prim p=cO f){C:Int->Int->Prop}{g:Int->Int->V}(hf:∀i j d,f i j=some d->C i j/\∀U H,Rep K cA U H d (g i j)):bx K cA p (r2 (rI C g)):=by
 intro U H ds vs Q zt rs o;rw[hp] at o;obtain⟨z,e⟩:=o.some';obtain⟨i,j,d,rfl,e1,rfl⟩:=V7 e;obtain⟨c,r⟩:=hf i j d e1;obtain⟨v,v',rfl,r1,r2⟩:=rs.two (ds:=[]);rw[r1.int,r2.int];exact⟨_,_,rfl,i,j,rfl,rfl,c,(o.of e).here (r U H)⟩
theorem Bp{f:Int->Int->D}(hp:prim p=cO λi j=>some (f i j)){g:Int->Int->V}(hf:∀i j U H,Rep K cA U H (f i j) (g i j)):bx K cA p (r2 (nG g)):=by
 intro U H ds vs Q zt rs o;obtain⟨x,y,e,i,j,a,b,_,q⟩:=Gq (K:=K) (cA:=cA) (C:=λ_ _=>True) hp (λi j d e=>⟨trivial,λU H=>by cases e;exact hf i j U H⟩) U H ds vs Q zt rs o;exact⟨x,y,e,i,j,a,b,q⟩
theorem Gs{α:Type}{c:Prop}[Decidable c]{x y:α}(h:(if c then some x else none)=some y):c/\y=x:=by
 split at h
 ·rename_i z;cases h;exact⟨z,rfl⟩
 ·cases h
theorem zmb:bx K cA .aq (r2 (nG λi j=>.int (i-j))):=Bp (f:=λi j=>.int (i-j)) rfl λi j _ _=>.int _
theorem zlz:bx K cA .mul (r2 (rI uL λi j=>.int (i*j))):=Gq rfl λi j d e=>by obtain⟨c,rfl⟩:=Gs e;exact⟨c,λ_ _=>.int _⟩
theorem ziG:bx K cA .fdiv (r2 (rI uK λi j=>.int (i/j))):=Gq rfl λi j d e=>by obtain⟨c,rfl⟩:=Gs e;exact⟨c,λ_ _=>.int _⟩
theorem zl8:bx K cA .mod (r2 (rI (λ_ j=>0<j) λi j=>.int (i%j))):=Gq rfl λi j d e=>by obtain⟨c,rfl⟩:=Gs e;exact⟨c,λ_ _=>.int _⟩
theorem zlJ:bx K cA .pow (r2 (rI DQ λi j=>.int (i^j.toNat))):=Gq rfl λi j d e=>by obtain⟨c,rfl⟩:=Gs e;exact⟨c,λ_ _=>.int _⟩
theorem zmM:bx K cA .le (r2 (nG λi j=>.bl (decide (i<=j)))):=Bp (f:=λi j=>.bl (decide (i<=j))) rfl λi j _ _=>.bl _
theorem zmy:bx K cA .gt (r2 (nG λi j=>.bl (decide (j<i)))):=Bp (f:=λi j=>.bl (decide (j<i))) rfl λi j _ _=>.bl _
theorem zm6:bx K cA .ge (r2 (nG λi j=>.bl (decide (j<=i)))):=Bp (f:=λi j=>.bl (decide (j<=i))) rfl λi j _ _=>.bl _
theorem zlO:bx K cA .neg (λvs H Q=>∃x,vs=[x]/\rU (λi=>.int (-i)) x H Q):=by
 intro U H ds vs Q zt rs o;obtain⟨z,e⟩:=o.some';have e:o8 (λi=>.int (-i)) ds=some z:=e;cases ds with
 |nil=>cases e
 |cons a t=>
 cases a with
 |int i=>
  cases t with
  |cons _ _=>cases e
  |nil=>
   cases e;obtain⟨v,rfl,r1⟩:=rs.one;exact⟨_,rfl,_,r1.int,bw.here (o.of rfl) (.int _)⟩
 |_=>cases e
theorem zmw:bx K cA .eq (r2 (u_ K cA id)):=by
 intro U H ds vs Q zt rs o;obtain⟨z,e⟩:=o.some';have e:wI id ds=some z:=e;unfold wI at e;split at e
 ·obtain⟨b,e1,e2⟩:=j_.mp e;obtain⟨v,v',rfl,r1,r2⟩:=rs.two (ds:=[]);subst e2;exact⟨_,_,rfl,U,_,_,b,r1,r2,e1,(o.of e).here (.bl _)⟩
 ·cases e
theorem zmI:bx K cA .ne (r2 (u_ K cA not)):=by
 intro U H ds vs Q zt rs o;obtain⟨z,e⟩:=o.some';have e:wI not ds=some z:=e;unfold wI at e;split at e
 ·obtain⟨b,e1,e2⟩:=j_.mp e;obtain⟨v,v',rfl,r1,r2⟩:=rs.two (ds:=[]);subst e2;exact⟨_,_,rfl,U,_,_,b,r1,r2,e1,(o.of e).here (.bl _)⟩
 ·cases e
theorem zie{f:Bool->Bool}{ds:List D}{z:Rz}(h:yX f ds=some z):∃a b xs k,ds=[a,b]/\lC b=some xs/\memD a xs=some k/\z=.dat (.bl (f k)):=by
 unfold yX at h;split at h
 ·obtain⟨k,e1,e2⟩:=j_.mp h;obtain⟨xs,e3,e4⟩:=xO.mp e1;exact⟨_,_,xs,k,rfl,e3,e4,e2.symm⟩
 ·cases h
theorem zmv:bx K cA .inn (r2 (Gp K cA id)):=by
 intro U H ds vs Q zt rs o;obtain⟨z,e⟩:=o.some';obtain⟨a,b,xs,k,rfl,e1,e2,rfl⟩:=zie (show yX id ds=some z from e);obtain⟨v,v',rfl,r1,r2⟩:=rs.two (ds:=[]);exact⟨_,_,rfl,U,_,_,xs,k,r1,r2,e1,e2,(o.of e).here (.bl _)⟩
theorem J2:∀{xs:List D} {ns:List Int} {vs:List V},bY xs=some ns->aB K cA U H xs vs->vs=ns.map V.int
 |[],ns,vs,h,r=>by cases h;cases r;rfl
 |d::xs,ns,vs,h,r=>by
  cases d with
  |int i=>
   simp only[bY,j_] at h;obtain⟨ns',h1,rfl⟩:=h;cases r with
   |cons a r=>cases a;rw[J2 h1 r];rfl
  |_=>simp[bY] at h
theorem PL:∀(a b:List Int),ltI a b=HT.lexLt a b
 |_,[]=>by cases ‹List Int›<;>rfl
 |[],_::_=>rfl
 |x::xs,y::ys=>by
  unfold ltI;rw[PL xs ys,HT.jt]
theorem zmF:bx K cA .lt (r2 λx y H Q=>nG (λi j=>.bl (decide (i<j))) x y H Q\/Ep K x y H Q):=by
 intro U H ds vs Q zt rs o;obtain⟨z,e⟩:=o.some';have e:FN ds=some z:=e;unfold FN at e;split at e
 ·cases e;obtain⟨v,v',rfl,r1,r2⟩:=rs.two (ds:=[]);exact⟨_,_,rfl,.inl ⟨_,_,r1.int,r2.int,bw.here (o.of rfl) (.bl _)⟩⟩
 ·split at e
  ·rename_i a b h1 h2;cases e;obtain⟨v,v',rfl,r1,r2⟩:=rs.two (ds:=[]);obtain⟨p,us,rfl,t1,q1⟩:=r1.tup;obtain⟨p',us',rfl,t2,q2⟩:=r2.tup;have o2:bw K cA U H (some (.dat (.bl (ltI a b)))) Q:=by
    have o3:bw K cA U H (FN [.tup _,.tup _]) Q:=o;unfold FN at o3;simp only[h1,h2] at o3;exact o3
   refine⟨_,_,rfl,.inr ⟨p,p',a,b,rfl,rfl,by rw[<-J2 h1 q1];exact t1.iz,by rw[<-J2 h2 q2];exact t2.iz,?_⟩⟩;rw[<-PL];exact o2.here (.bl _)
  ·cases e
 ·cases e
theorem zkI:bx K cA .add (r2 (o_ K)):=by
 intro U H ds vs Q zt rs o;have o:bw K cA U H (yW ds) Q:=o;cases ds with
 |nil=>exact False.elim o
 |cons a t=>
 cases a with
 |int i=>
  cases t with
  |nil=>exact False.elim o
  |cons b t=>
  cases b with
  |int j=>
   cases t with
   |cons _ _=>exact False.elim o
   |nil=>
    obtain⟨v,v',rfl,r1,r2⟩:=rs.two (ds:=[]);exact⟨_,_,rfl,.inl ⟨_,_,r1.int,r2.int,bw.here o (.int _)⟩⟩
  |_=>exact False.elim o
 |tup xs=>
  cases t with
  |nil=>exact False.elim o
  |cons b t=>
  cases b with
  |tup ys=>
   cases t with
   |cons _ _=>exact False.elim o
   |nil=>
    obtain⟨v,v',rfl,r1,r2⟩:=rs.two (ds:=[]);obtain⟨p,us,rfl,t1,q1⟩:=r1.tup;obtain⟨p',us',rfl,t2,q2⟩:=r2.tup;have o:bw K cA U H (if xs.length+ys.length<=sizeLine then some (.dat (.tup (xs++ys))) else none) Q:=o;by_cases hz:xs.length+ys.length<=sizeLine
    ·rw[if_pos hz] at o;refine⟨_,_,rfl,.inr (.inr (.inl ⟨p,p',us,us',rfl,rfl,t1.iz,t2.iz,by rw[<-q1.len,<-q2.len];exact hz,λe=>?_,λe=>?_,λa ha=>o.tup zt (q1.app q2) ha⟩))⟩
     ·subst e;cases q1;exact o.here (.tup t2 q2)
     ·subst e;cases q2;rw[vZ] at o;exact o.here (.tup t1 q1)
    ·rw[if_neg hz] at o;exact o.elim
  |_=>exact False.elim o
 |fl xs=>
  cases t with
  |nil=>exact False.elim o
  |cons b t=>
  cases b with
  |fl ys=>
   cases t with
   |cons _ _=>exact False.elim o
   |nil=>
    obtain⟨v,v',rfl,⟨p,us,rfl,t1,q1⟩,⟨p',us',rfl,t2,q2⟩⟩:=rs.two (ds:=[]);have o:bw K cA U H (if xs.length+ys.length<=sizeLine then some (.nw (xs++ys)) else none) Q:=o;by_cases hz:xs.length+ys.length<=sizeLine
    ·rw[if_pos hz] at o;exact⟨_,_,rfl,.inr (.inl ⟨p,p',us,us',rfl,rfl,t1,t2,by rw[<-q1.len,<-q2.len];exact hz,λa ha=>o a _ ha (q1.app q2)⟩)⟩
    ·rw[if_neg hz] at o;exact o.elim
  |_=>exact False.elim o
 |str x=>
  cases t with
  |nil=>exact False.elim o
  |cons b t=>
  cases b with
  |str y=>
   cases t with
   |cons _ _=>exact False.elim o
   |nil=>
    obtain⟨v,v',rfl,r1,r2⟩:=rs.two (ds:=[]);have o:bw K cA U H (if x.length+y.length<=sizeLine then some (.dat (.str (x++y))) else none) Q:=o;by_cases hz:x.length+y.length<=sizeLine
    ·rw[if_pos hz] at o;exact⟨_,_,rfl,.inr (.inr (.inr ⟨_,_,r1.str,r2.str,hz,o.here (.str _)⟩))⟩
    ·rw[if_neg hz] at o;exact o.elim
  |_=>exact False.elim o
 |_=>exact False.elim o
theorem zjZ:bx K cA .len (λxs H Q=>∃p ys,xs=[.ref p]/\(cM K H p ys\/fu K H p ys)/\Q (.int ys.length) H):=by
 intro U H ds vs Q zt rs o;have o:bw K cA U H (p8 (λxs=>some (.dat (.int xs.length))) ds) Q:=o;unfold p8 at o;split at o
 ·obtain⟨v,rfl,r1⟩:=rs.one;obtain⟨z,e⟩:=o.some';obtain⟨xs,e1,e2⟩:=xO.mp e;obtain⟨a,us,rfl,sq,q⟩:=r1.sq e1;cases e2;refine⟨a,us,rfl,sq,?_⟩;rw[<-q.len];exact(o.of e).here (.int _)
 ·exact o.elim
theorem ziD:bx K cA .list (λxs H Q=>∃p ys,xs=[.ref p]/\(cM K H p ys\/fu K H p ys)/\∀l,H l=none->Q (.ref l) (upd H l (.lst ys))):=by
 intro U H ds vs Q zt rs o;have o:bw K cA U H (p8 (λxs=>some (.nw xs)) ds) Q:=o;unfold p8 at o;split at o
 ·obtain⟨v,rfl,r1⟩:=rs.one;obtain⟨z,e⟩:=o.some';obtain⟨xs,e1,e2⟩:=xO.mp e;obtain⟨a,us,rfl,sq,q⟩:=r1.sq e1;cases e2;exact⟨a,us,rfl,sq,λl hl=>(o.of e) l us hl q⟩
 ·exact o.elim
theorem zgG:bx K cA .tuple (λxs H Q=>∃p ys,xs=[.ref p]/\((cM K H p ys/\∀l,H l=none->Q (.ref l) (upd H l (.tup ys)))\/(fu K H p ys/\Q (.ref p) H))):=by
 intro U H ds vs Q zt rs o;have o:bw K cA U H (nU ds) Q:=o;unfold nU at o;split at o
 ·rename_i d _;obtain⟨v,rfl,r1⟩:=rs.one;cases d with
  |tup xs=>
   obtain⟨a,us,rfl,t,q⟩:=r1.tup;exact⟨a,us,rfl,.inr ⟨t.iz,bw.here o (.tup t q)⟩⟩
  |fl xs=>
   obtain⟨a,us,rfl,t,q⟩:=r1;exact⟨a,us,rfl,.inl ⟨t,λl hl=>bw.tup o zt q hl⟩⟩
  |_=>exact o.elim
 ·exact o.elim
theorem zk2:bx K cA .abs (λxs H Q=>∃i,xs=[.int i]/\Q (.int (if i<0 then -i else i)) H):=by
 intro U H ds vs Q zt rs o;have o:bw K cA U H (o8 (λi=>.int (if i<0 then -i else i)) ds) Q:=o;cases ds with
 |nil=>exact False.elim o
 |cons a t=>
 cases a with
 |int i=>
  cases t with
  |cons _ _=>exact False.elim o
  |nil=>
   obtain⟨v,rfl,r1⟩:=rs.one;rw[r1.int];exact⟨_,rfl,bw.here o (.int _)⟩
 |_=>exact False.elim o
theorem zif:bx K cA .uX (λxs H Q=>(∃i,xs=[.int i]/\Q (.int i) H)\/∃k,xs=[.bl k]/\Q (.int (if k then 1 else 0)) H):=by
 intro U H ds vs Q zt rs o;have o:bw K cA U H (FP ds) Q:=o;cases ds with
 |nil=>exact False.elim o
 |cons a t=>
 cases a with
 |int i=>
  cases t with
  |cons _ _=>exact False.elim o
  |nil=>
   obtain⟨v,rfl,r1⟩:=rs.one;rw[r1.int];exact .inl ⟨_,rfl,bw.here o (.int _)⟩
 |bl k=>
  cases t with
  |cons _ _=>exact False.elim o
  |nil=>
   obtain⟨v,rfl,r1⟩:=rs.one;rw[r1.bl];exact .inr ⟨_,rfl,bw.here o (.int _)⟩
 |_=>exact False.elim o
theorem zis:bx K cA .max2 (λxs H Q=>∃i j,xs=[.int i,.int j]/\Q (.int (if j>i then j else i)) H):=by
 intro U H ds vs Q zt rs o;obtain⟨x,y,e,i,j,rfl,rfl,q⟩:=Bp (K:=K) (cA:=cA) (p:=.max2) (f:=λi j=>.int (if j>i then j else i)) rfl (λi j _ _=>.int _) U H ds vs Q zt rs o;exact⟨i,j,e,q⟩
theorem ziJ:bx K cA .min2 (λxs H Q=>∃i j,xs=[.int i,.int j]/\Q (.int (if j<i then j else i)) H):=by
 intro U H ds vs Q zt rs o;obtain⟨x,y,e,i,j,rfl,rfl,q⟩:=Bp (K:=K) (cA:=cA) (p:=.min2) (f:=λi j=>.int (if j<i then j else i)) rfl (λi j _ _=>.int _) U H ds vs Q zt rs o;exact⟨i,j,e,q⟩
theorem zfC:bx K cA .divmod (λxs H Q=>∃i j,xs=[.int i,.int j]/\uK i j/\∀p,H p=none->Q (.ref p) (upd H p (.tup [.int (i/j),.int (i%j)]))):=by
 intro U H ds vs Q zt rs o;have o:bw K cA U H (cO (λi j=>if 0<j/\j<1073741824 then some (.tup [.int (i/j),.int (i%j)]) else none) ds) Q:=o;obtain⟨z,e⟩:=o.some';obtain⟨i,j,d,rfl,e1,rfl⟩:=V7 e;obtain⟨c,rfl⟩:=Gs e1;obtain⟨v,v',rfl,r1,r2⟩:=rs.two (ds:=[]);rw[r1.int,r2.int];exact⟨i,j,rfl,c,λp hp=>(o.of e).tup zt (.cons (.int _) (.cons (.int _) .nil)) hp⟩
theorem V8:∀{xs:List D} {bs:List Bool} {vs:List V},dF xs=some bs->aB K cA U H xs vs->vs=bs.map V.bl
 |[],bs,vs,h,r=>by cases h;cases r;rfl
 |d::xs,bs,vs,h,r=>by
  cases d with
  |bl b=>
   simp only[dF,j_] at h;obtain⟨bs',h1,rfl⟩:=h;cases r with
   |cons q r=>cases q;rw[V8 h1 r];rfl
  |_=>simp[dF] at h
theorem zmA:bx K cA .ix (r2 (NK K)):=by
 intro U H ds vs Q zt rs o;have o:bw K cA U H (O8 ds) Q:=o;unfold O8 at o;split at o
 ·rename_i d i _;obtain⟨v,v',rfl,r1,r2⟩:=rs.two (ds:=[]);obtain⟨z,e⟩:=o.some';obtain⟨y,e1,e2⟩:=j_.mp e;obtain⟨xs,e3,e4⟩:=xO.mp e1;obtain⟨a,us,rfl,sq,q⟩:=r1.sq e3;have key:∃w,L2.oU us i=some w/\Rep K cA U H y w:=by
   unfold L2.oU at *;rw[<-q.len];obtain⟨j,h1,h2⟩:=xO.mp e4;obtain⟨w,h3,h4⟩:=q.get h2;exact⟨w,by rw[h1];exact h3,h4⟩
  obtain⟨w,hw,lu⟩:=key;subst e2;have q':=(o.of e).here lu;rcases sq with sq|sq
  ·exact⟨_,_,rfl,.inl ⟨a,us,i,w,rfl,r2.int,sq,hw,q'⟩⟩
  ·exact⟨_,_,rfl,.inr (.inl ⟨a,us,i,w,rfl,r2.int,sq,hw,q'⟩)⟩
 ·exact o.elim
noncomputable def V9(K:W.Frag):V->Option Int->Option Int->Hp->VK->Prop:=λx lo hi H Q=>Ey K x lo hi H Q\/wR K x lo hi H Q
theorem zlv:uO X (V9 X.K):=uR.or zjE
theorem zjS{d:D}{lo hi:Option Int}{v:V}(zt:Zt U H)(r:Rv K cA U H d v)(o:bw K cA U H (cutD d lo hi) Q):V9 K v lo hi H Q:=by
 cases d with
 |tup xs=>
  obtain⟨a,us,rfl,t,q⟩:=r.tup;refine .inr ⟨a,us,rfl,t.iz,λe=>?_,λp hp=>bw.tup o zt q.cut hp⟩;have hc:cut xs lo hi=xs:=by
   unfold cut;rw[q.len,e.1,e.2,List.drop_zero,Nat.sub_zero,<-q.len,xT]
  have o:bw K cA U H (some (.dat (.tup (cut xs lo hi)))) Q:=o;rw[hc] at o;exact o.here (.tup t q)
 |fl xs=>
  obtain⟨a,us,rfl,t,q⟩:=r;exact .inl ⟨a,us,rfl,t,λp hp=>o p _ hp q.cut⟩
 |_=>exact o.elim
end
end Mi
namespace L2
open PySem PySem.Spec PyProof.Rows
section
variable {κ:Type}[DecidableEq κ]
end
section
variable {P:Program}{w:World}{H:Hp}{h:Heap}{a:Addr}
end
section
variable {X:Cx}{ao:List (Addr×Obj)}{Z:St}{H:Hp}{s:Shared}{a:Addr}{y v:V}{u r:Value}{o:Option V}{A:Around}{E:Value->Shared->Prop}
theorem Inv.big(I:Inv X ao Z H s):sysModules<s.heap.objs.size:=by
 have h:mainGlobals<s.heap.objs.size:=(I.mod.glob.keeps I.bk).lt;exact Nat.lt_trans (by decide) h
theorem zjF(I:Inv X ao Z H s)(mu:Dm (H a))(hs:Heap.SameBut a s.heap h')(he:∃q,h'.get? a=some q)(new:bG X.prog X.w (upd H a ob) h' a ob) :
  Inv X ao Z (upd H a ob) {s with heap:=h',toks:=t'}:=
 I.write (x:=a) (e:=a) mu (.inl rfl) (λb q hb z=>(hs.2 b hb).trans z) he new
end
section
variable {X:Cx}{ao:List (Addr×Obj)}{Z:St}{H:Hp}{s:Shared}{a:Addr}{kvs:List (Key×V)}{k:Key}{u:Value}{A:Around}{E:Value->Shared->Prop}
end
def zA(i:Expr):Prop:=∀ov iv,subscripted i false ov iv=operate [ov,iv] (getItem ov iv)
theorem zjn{prog:Program}{w:World}{A:Around}{E:Value->Shared->Prop}{s:Shared}{env:Env}{value slice:Expr}{pos:Pos}{T id:String}{Q:Value->Shared->Prop}
  (hl:typeLookup (.type T) "__getitem__"=pure (some (.builtin id))) (hs:zA slice)
  (h:wpAny (model prog w) A (eval value env) (λo s₁=>wpAny (model prog w) A (eval slice env) (λi s₂=>s₂.TypeIs o T/\wpAny (model prog w) A (getItem o i) Q E s₂) E s₁) E s) :
  wpAny (model prog w) A (eval (.Subscript value slice pos) env) Q E s:=by
 refine Subscript_ (lO h (λo s₁ h₁=>lO h₁ (λi s₂ h₂=>?_) λ_ _ x=>x) λ_ _ x=>x);obtain⟨hT,h₂⟩:=h₂;unfold subscriptTail;refine aC ?_;rw[getitemInPython_of_ne hT.not_modules];refine aC (wpAny_specialOf hT hl ?_);have fin:wpAny (model prog w) A (subscripted slice false o i) (λr s₃=>wpAny (model prog w) A (letTemporaryGo value o r >>= λ_=>pure r) Q E s₃) E s₂:=by
  rw[hs o i];exact wpAny_operating (lO h₂ (λr s₃ h₃=>aC (wpAny_letTemporaryGo (aO h₃))) λ_ _ x=>x)
 first
  |exact aO (aC fin)
  |exact aC (aO (aC fin))
  |exact aC fin
section
variable {X:Cx}{o i e value:Expr}{pos pos' tpos:Pos}{td ty tv:TE}
end
section
variable {X:Cx}{pos:Pos}
end
section
variable {X:Cx}{ao:List (Addr×Obj)}{Z:St}{H:Hp}{s:Shared}{a:Addr}{y d:V}{u r:Value}{o:Option V}{A:Around}{E:Value->Shared->Prop}
end
section
variable {X:Cx}{o e f:Expr}{apos cpos:Pos}{td ty tx:TE}
end
section
variable {X:Cx}{ao:List (Addr×Obj)}{Z:St}{H:Hp}{s:Shared}{a:Addr}{kvs:List (Key×V)}{A:Around}{E:Value->Shared->Prop}
end
section
variable {X:Cx}{ao:List (Addr×Obj)}{Z:St}{H:Hp}{s:Shared}{a:Addr}{y:V}{u:Value}{A:Around}{E:Value->Shared->Prop}
end
end L2
namespace Mi
open PySem PySem.Spec PyProof.Rows L2
section
variable {X:Cx}{cA:Cl}{aq:Nat->Nat->Bool}{aj:Bool}{F:Fn}{EX:XS}{a b c d e o:Expr}{A B C Dd E' O:E}{pos pp p2 apos cpos:Pos}{es:List Expr}{Xs:Es}{fz:Bool}{p:Pr}{x:Str}{U:Ph}{H:Hp}{s:S}{lo hi:Option Expr}{Lo Hi:Eo}
def Gu(X:Cx)(cA:Cl)(aq:Nat->Nat->Bool)(aj:Bool)(F:Fn)(EX:XS)(oe:Option Expr)(m:Eo):Prop:=
 PO X oe (λZ H Q=>∃U J s,aX X.K cA U H Z J/\aF X.K cA U H s/\Run X.K cA (uZ aq aj F m J) U H s (λi _ U' H'=>Q i H') (eX X.K cA EX Z))
theorem PO.weak{oe:Option Expr}{t t':TO}(h:PO X oe t)(f:∀Z H Q,t' Z H Q->t Z H Q):PO X oe t':=by
 intro ao s Z H Q I q;exact h ao s Z H Q I (f Z H Q q)
theorem znc:Gu X cA aq aj F EX none .no:=PO.weak ziq λZ H Q hh=>un hh λU J s hL hS h=>h.bH hS
theorem zkN(ha:SE X cA aq aj F EX a A):Gu X cA aq aj F EX (some a) (.yes A):=PO.weak (ziU ha) λZ H Q hh=>un hh λU J s hL hS h=>by
 refine aW hL hS h λx H1 U1 d1 s1 x1 hL1 aJ r1 h1=>?_;obtain⟨i,_,e,h3⟩:=Gi r1 h1;exact⟨i,e,h3.bH aJ⟩
theorem Gv{β:Type}{Z:L2.St}{J:Vs}{m:Eo}{k:Option Int->M β}{P:β->S->Ph->Hp->Prop}(hL:aX X.K cA U H Z J)(hS:aF X.K cA U H s)(h:Run X.K cA (M.bd (uZ aq aj F m J) k) U H s P (eX X.K cA EX Z)){Q:Option Int->Hp->Prop}
  (f:∀i H1 U1 s1,Ext U H U1 H1->aX X.K cA U1 H1 Z J->aF X.K cA U1 H1 s1->Run X.K cA (k i) U1 H1 s1 P (eX X.K cA EX Z)->Q i H1) :
  ∃U J s,aX X.K cA U H Z J/\aF X.K cA U H s/\Run X.K cA (uZ aq aj F m J) U H s (λi _ U' H'=>Q i H') (eX X.K cA EX Z):=
 ⟨U,J,s,hL,hS,h.bd.imp λi s1 U1 H1 ⟨x1,r1,h1⟩=>f i H1 U1 s1 x1 (hL.mono x1 hS.lz) r1 h1⟩
theorem zmW(ha:SE X cA aq aj F EX a A)(hl:Gu X cA aq aj F EX lo Lo)(hh:Gu X cA aq aj F EX hi Hi):SE X cA aq aj F EX (.Subscript a (.Slice lo hi none p2) pos) (.sl fz A Lo Hi):=PE.weak (zgR zlv ha hl hh) λZ H Q hh=>un hh λU J s hL hS h=>by
 refine aW hL hS h λx H1 U1 d1 s1 x1 hL1 aJ r1 h1=>Gv hL1 aJ h1 λl H2 U2 s2 x2 hL2 aU h2=>Gv hL2 aU h2 λu H3 U3 s3 x3 u9 jY h3=>?_;obtain⟨dd,rv,h4⟩:=J0 jY ((r1.mono x2 aJ.lz).mono x3 aU.lz) h3;exact zjS jY.zs rv (qJ jY h4)
theorem zkk(ha:SE X cA aq aj F EX a A):SE X cA aq aj F EX (.Subscript a (.Slice none none (some (.UnaryOp .USub (.Constant (.int 1) j p3) p4)) p2) pos) (.pr true .rev (.cons A .nil)):=PE.weak (zkq ha) λZ H Q hh=>un hh λU J s hL hS h=>by
 have h:Run X.K cA (M.bd (M.bd (ev aq aj F A J) λx=>M.bd (M.ret []) λz=>M.ret (x::z)) λvs=>M.bd (fO vs) λds=>bT true (prim .rev ds)) U H s _ _:=h;simp only[jd] at h;refine aW hL hS h λx H1 U1 d1 s1 x1 hL1 aJ r1 h1=>?_;obtain⟨ds,rs,h3⟩:=rF aJ (.cons r1 .nil) h1;have o:bw X.K cA U1 H1 (zm ds) Q:=qJ aJ h3;unfold zm at o;split at o
 ·obtain⟨v,e,r⟩:=rs.one;cases e;obtain⟨ad,us,e2,t,q⟩:=r.tup;subst e2;exact⟨ad,us,rfl,t.iz,λp hp=>bw.tup o aJ.zs q.rev hp⟩
 ·exact o.elim
theorem V_:∀bs:List Bool,(List.range bs.length).all (λi=>(bs[i]?).getD false)=bs.all id
 |[]=>rfl
 |b::r=>by
  rw[fZ,Lq,xV,CW,xV];have:=V_ r;simp only[Function.comp_def,Ab,List.getElem?_cons_zero,Option.getD_some,id];rw[this]
theorem zfh(hc:X.aj=true):cJ X (.builtin "all") (λxs H Q=>∃(p:Addr) (bs:List Bool),xs=[.ref p]/\cM X.K H p (bs.map V.bl)/\Q (.bl (bs.all id)) H):=by
 intro ao s Z H xs us Q I r ⟨p,bs,e,hp,q⟩;subst e;obtain⟨u,rfl,ru⟩:=Vals.one r;cases (show u=Value.ref p from ru);obtain⟨its,rv,pl,hz⟩:=I.list hp;have hl:s.heap.IsList p its.toArray:=pl.isList;have hpn:p≠s.heap.objs.size:=by
  obtain⟨o,hg,_⟩:=hl;exact dJ (bR hg)
 refine call_all_walk (Ik hl ?_);refine⟨_,_,_,_,_,_,λi=>(bs[i]?).getD false,rfl,Walks.list (A:=X.A.in1) (I.ok.hd hc) _ p hpn its.toArray,⟨⟨_,fj _ rfl,rfl,rfl⟩,hl.push _⟩,?_,λh' tk hk=>?_⟩
 ·intro i v s' Q' E' hP hQ;have hi:its[i]?=some v:=by simpa using hP
  have hb:∃b,bs[i]?=some b:=by
   have dh:i<its.length:=(dX.mp hi).1;have z:=rv.length;rw[bV] at z;exact⟨_,cT (by lia)⟩
  obtain⟨b,hb⟩:=hb;obtain⟨u,e1,e2⟩:=rv.get (i:=i) (x:=V.bl b) (by rw[gD,hb];rfl);rw[hi] at e1;cases e1;cases (show v=Value.bool b from e2);have hQ:Q' ((bs[i]?).getD false) s':=hQ;rw[hb] at hQ;exact sZ hQ
 ·have ez:(List.range its.toArray.size).all (λi=>(bs[i]?).getD false)=bs.all id:=by
   have z:=rv.length;rw[bV] at z;rw[eG,<-z];exact V_ bs
  rw[ez];refine⟨.bl (bs.all id),H,I.kept (h':=h') (t':=tk) (old_kept hk),rfl,q⟩
theorem zjY{K:W.Frag}:bx K cA .all (λxs H Q=>∃(p:Addr) (bs:List Bool),xs=[.ref p]/\cM K H p (bs.map V.bl)/\Q (.bl (bs.all id)) H):=by
 intro U H ds vs Q zt rs o;have o:bw K cA U H (zc ds) Q:=o;unfold zc at o;split at o
 ·obtain⟨v,rfl,⟨ad,us,rfl,l,q⟩⟩:=rs.one;obtain⟨z,e⟩:=o.some';obtain⟨bs,e1,e2⟩:=j_.mp e;subst e2;exact⟨ad,bs,rfl,by rw[<-V8 e1 q];exact l,(o.of e).here (.bl _)⟩
 ·exact o.elim
noncomputable def J3:Kd->String->Bool
 |.int,"int"=>true
 |.int,"bool"=>true
 |.bool,"bool"=>true
 |.str,"str"=>true
 |.tuple,"tuple"=>true
 |.list,"list"=>true
 |.dict,"dict"=>true
 |_,_=>false
noncomputable def rK:Kd->Option Value
 |.int=>some (.type "int")
 |.bool=>some (.type "bool")
 |.str=>some (.type "str")
 |.tuple=>some (.type "tuple")
 |.list=>some (.type "list")
 |.dict=>some (.type "dict")
 |_=>none
theorem zj4{K:W.Frag}{k:Kd}{cu:Value}(h:rK k=some cu){T:String}(hT:T∈["NoneType","bool","int","str","tuple","list","dict"]):PySem.W.kitOne K (.type T) cu=some (J3 k T):=by
 simp only[gG,List.mem_nil_iff,or_false] at hT;cases k<;>simp only[rK] at h<;>cases h<;>rcases hT with rfl|rfl|rfl|rfl|rfl|rfl|rfl<;>rfl
structure Gw(K:W.Frag)(cA:Cl)(aq:Nat->Nat->Bool):Prop where
 xc:∀c,XC K (cA.a c)
 aq:∀c e,PySem.W.kitOne K (.ref (cA.a c)) (.ref (cA.a e))=some (aq c e)
 pZ:∀c,PySem.W.kitOne K (.ref (cA.a c)) (.type "ValueError")=some true
noncomputable def Bq(cA:Cl):Kd->V
 |.cls e=>.ref (cA.a e)
 |.pZ=>.ty "ValueError"
 |.int=>.ty "int"
 |.bool=>.ty "bool"
 |.str=>.ty "str"
 |.tuple=>.ty "tuple"
 |.list=>.ty "list"
 |.dict=>.ty "dict"
theorem zg9(Cs:rK k=none->Gw X.K cA aq) :
  cJ X (.builtin "isinstance") (λxs H Q=>∃U d v bb,xs=[v,Bq cA k]/\Rv X.K cA U H d v/\jU aq d k=some bb/\Q (.bl bb) H):=by
 intro ao sh Z H xs us Q I r ⟨U,d,v,bb,e,rd,hi,q⟩;subst e;obtain⟨u,w,rfl,ru,PN⟩:=Vals.two r;have rM:∀tk,EP X ao Z Q (.bool bb) {sh with toks:=tk}:=λtk=>⟨.bl bb,H,I.tok tk,rfl,q⟩;have bt:∀{T:String} {Hh:Heap->Prop},PySem.W.KitX X.K u (.type T) Hh->Hh sh.heap->T∈["NoneType","bool","int","str","tuple","list","dict"]->u≠Value.builtin "__main__.__loader__#opaque"->(∃cu,rK k=some cu/\w=cu/\J3 k T=bb)->wpAny (model X.prog X.w) X.A (PySem.call (.builtin "isinstance") [u,w]) (EP X ao Z Q) X.xe sh:=λ{T Hh} zzZ hh hT hx ⟨cu,h1,h2,h3⟩=>by
  subst h2 h3;exact PySem.W.kia_one zzZ I.lZ hh (zj4 h1 hT) hx rM
 have wv:∀cu,rK k=some cu->w=cu:=λcu h=>by
  cases k<;>simp only[rK] at h<;>cases h<;>exact PN
 have fin:∀T,jU aq d k=(match rK k with|some _=>some (J3 k T)|none=>none)->∃cu,rK k=some cu/\w=cu/\J3 k T=bb:=λT h=>by
  rw[hi] at h;cases z:rK k with
  |none=>rw[z] at h;cases h
  |some cu=>rw[z] at h;cases h;exact⟨cu,rfl,wv cu z,rfl⟩
 cases d with
 |non=>
  cases (show Rep X.K cA U H .non v from rd);cases (show u=Value.none from ru);exact bt PySem.W.kitx_none trivial (by simp) (λz=>nomatch z) (fin "NoneType" (by cases k<;>rfl))
 |bl b=>
  cases rd.bl;cases (show u=Value.bool b from ru);exact bt PySem.W.kitx_bool trivial (by simp) (λz=>nomatch z) (fin "bool" (by cases k<;>rfl))
 |int i=>
  cases rd.int;obtain⟨t,z⟩:=(show ∃t,u=Value.int i t from ru);cases z;exact bt PySem.W.kitx_int trivial (by simp) (λz=>nomatch z) (fin "int" (by cases k<;>rfl))
 |str y=>
  cases rd.str;obtain⟨t,z⟩:=(show ∃t,u=Value.str y t from ru);cases z;exact bt PySem.W.kitx_str trivial (by simp) (λz=>nomatch z) (fin "str" (by cases k<;>rfl))
 |tup xs=>
  obtain⟨ad,vs,rfl,h1,h2⟩:=rd.tup;cases (show u=Value.ref ad from ru);obtain⟨its,_,ht,_⟩:=I.tuple h1.iz;obtain⟨o,q1,q2,_⟩:=ht;exact bt PySem.W.kitx_tuple ⟨o,q1,q2⟩ (by simp) (λz=>nomatch z) (fin "tuple" (by cases k<;>rfl))
 |fl xs=>
  obtain⟨ad,vs,rfl,h1,h2⟩:=rd;cases (show u=Value.ref ad from ru);obtain⟨its,_,ht,_⟩:=I.list h1;obtain⟨o,q1,q2,_⟩:=ht.isList;exact bt PySem.W.kitx_list ⟨o,q1,q2⟩ (by simp) (λz=>nomatch z) (fin "list" (by cases k<;>rfl))
 |fd ks vs=>
  cases (show Rep X.K cA U H (.fd ks vs) v from rd) with
  |@fd ad kk ii q1 n=>
   cases (show u=Value.ref ad from ru);obtain⟨_,_,vs,_,o,es',ep,g1,g2,_⟩:=(show bG X.prog X.w H sh.heap ad (.dK [(.inr kk,.int ii)]) from I.hok ad _ q1);exact bt PySem.W.kitx_dict ⟨o,g1,g2.1⟩ (by simp) (λz=>nomatch z) (fin "dict" (by cases k<;>rfl))
 |ob c fs=>cases k<;>cases hi
 |any=>cases k<;>cases hi
 |exc c fs=>
  cases (show Rep X.K cA U H (.exc c fs) v from rd) with
  |@exc ad _ _ vs hx rs=>
   cases (show u=Value.ref ad from ru);have hI:∃ox od,PySem.W.InstAt sh.heap ad ox (cA.a c) od:=by
    obtain⟨_,⟨_,_,hx⟩|⟨dx,hx,_,hd,_⟩⟩:=hx
    ·obtain⟨⟨oe,vs,g1,g2,g3,g4⟩,_⟩:=(show bG X.prog X.w H sh.heap ad (uV ad (cA.a c) none) from I.hok ad _ hx);exact⟨oe,none,g1,g2,by unfold PySem.W.notCls;rw[g4],by rw[g3];trivial⟩
    ·obtain⟨⟨oe,vs,g1,g2,g3,g4⟩,_⟩:=(show bG X.prog X.w H sh.heap ad (uV ad (cA.a c) (some dx)) from I.hok ad _ hx);obtain⟨mA,⟨od,es,ep,e1,c1⟩,_⟩:=(show bG X.prog X.w H sh.heap dx (.xd _) from I.hok dx _ hd);exact⟨oe,some od,g1,g2,by unfold PySem.W.notCls;rw[g4],by rw[g3];exact e1⟩
   cases k with
   |cls e=>
    cases (show w=Value.ref (cA.a e) from PN);have z:some (aq c e)=some bb:=hi;cases z;exact PySem.W.kia_one (Vm ((Cs rfl).xc c)) I.lZ hI ((Cs rfl).aq c e) (λz=>nomatch z) rM
   |pZ=>
    cases (show w=Value.type "ValueError" from PN);have z:some true=some bb:=hi;cases z;exact PySem.W.kia_one (Vm ((Cs rfl).xc c)) I.lZ hI ((Cs rfl).pZ c) (λz=>nomatch z) rM
   |_=>cases hi
theorem zlp(Cs:rK k=none->Gw X.K cA aq)(hg:Gl X "isinstance")(hm:X.mg "isinstance"=none)(ha:SE X cA aq aj F EX a A)(hk:PE X kx (tC (Bq cA k)))(h1:starEach [a,kx] X.env=(false,eval a X.env)::starEach [kx] X.env:=by rfl)(h2:starEach [kx] X.env=(false,eval kx X.env)::starEach [] X.env:=by rfl)
  (hpl:(backTo pos (starEach [kx] X.env)).any (·.1)=false:=by rfl):SE X cA aq aj F EX (.Call (.Name "isinstance" pp) [a,kx] [] pos) (.o7 A k):=PE.weak (U8 (zg9 (cA:=cA) (k:=k) Cs) hg hm PyProof.Rows.boot_isinstance (tO ha (tO hk yG h2) h1) (by decide) (by decide) h1 hpl) λZ H Q hh=>un hh λU J s hL hS h=>
 aW hL hS h λv H1 U1 d s1 x1 hL1 aJ r1 h1=>by
  show ∃U d' v' bb,[v,Bq cA k]=[v',Bq cA k]/\_;obtain⟨dd,rv,h2⟩:=J0 aJ r1 h1;obtain⟨bb,e,h3⟩:=JV h2;exact⟨U1,dd,v,bb,rfl,rv,e,h3.bH aJ _ (.d (.bl bb))⟩
end
theorem Wa(n:Nat):∀is js:List Int,b_ (bZ n) (is.map .int) (js.map .int)=some (decide (is=js))
 |[],[]=>rfl
 |[],_::_=>rfl
 |_::_,[]=>rfl
 |i::is,j::js=>by
  have e:bZ n (.int i) (.int j)=some (i==j):=by cases n<;>rfl
  simp only[iU,b_,Wa n is js,e]
  congr 1
  by_cases h:i=j
  ·subst h;by_cases h2:is=js<;>simp[h2]
  ·simp[h]
theorem zk7{a b:Kx}:bZ 2 (qe a) (qe b)=some (decide (a=b)):=by
 cases a with
 |non=>cases b<;>rfl
 |int i=>cases b with
  |int j=>
   show some (i==j)=_;by_cases h:i=j
   ·subst h;simp
   ·have hn:¬Kx.int i=Kx.int j:=λz=>h (by cases z;rfl);simp[h,hn]
  |_=>rfl
 |row is=>cases b with
  |row js=>
   show b_ (bZ 1) (is.map .int) (js.map .int)=_;rw[Wa];by_cases h:is=js
   ·subst h;simp
   ·have hn:¬Kx.row is=Kx.row js:=λz=>h (by cases z;rfl);simp[h,hn]
  |_=>rfl
theorem Wb{x y:List Kx}:bZ 3 (iy x) (iy y)=some (decide (x=y)):=by
 show b_ (bZ 2) (x.map qe) (y.map qe)=_
 induction x generalizing y with
 |nil=>cases y<;>rfl
 |cons a x ih=>cases y with
  |nil=>rfl
  |cons b y=>
   simp only[iU,b_,ih,zk7]
   congr 1
   by_cases h:a=b
   ·subst h;by_cases h2:x=y<;>simp[h2]
   ·simp[h]
theorem Wc:∀{xs:List D} {is:List Int},bY xs=some is->xs=is.map .int
 |[],is,h=>by cases h;rfl
 |x::r,is,h=>by
  cases x with
  |int i=>
   simp only[bY,j_] at h;obtain⟨js,h1,rfl⟩:=h;rw[Wc h1];rfl
  |_=>cases h
theorem ziC{d:D}{k:Kx}(h:rC d=some k):d=qe k:=by
 cases d with
 |non=>cases h;rfl
 |int i=>cases h;rfl
 |tup xs=>
  simp only[rC,j_] at h;obtain⟨js,h1,rfl⟩:=h;rw[Wc h1];rfl
 |_=>cases h
theorem Wd:∀{xs:List D} {k:List Kx},zy xs=some k->xs=k.map qe
 |[],k,h=>by cases h;rfl
 |x::r,k,h=>by
  unfold zy at h;cases e1:rC x with
  |none=>simp only[e1] at h;cases h
  |some a=>cases e2:zy r with
   |none=>simp only[e1,e2] at h;cases h
   |some b=>
    simp only[e1,e2] at h;cases h;rw[ziC e1,Wd e2];rfl
theorem zly{d:D}{k:List Kx}(h:kOf d=some k):d=iy k:=by
 cases d with
 |tup xs=>show D.tup xs=.tup _;rw[Wd h]
 |_=>cases h
noncomputable def Wf:Kx->Nat
 |.row is=>is.length+1
 |_=>1
noncomputable def rN:List Kx->Nat
 |[]=>0
 |x::r=>Wf x+rN r
section
variable {prog:Program}{w:World}{A:Around}{E:Value->Shared->Prop}{s:Shared}{h h':Heap}
theorem Wg:∀{is:List Int} {us:List Value},je h (is.map .int) us->ItemsAre (intKind prog w) is us
 |[],us,r=>by cases r;exact .nil
 |i::is,us,r=>by
  cases r with
  |cons a r=>cases a with
   |int i t=>exact .cons (by simp[intKind,Value.isInt]) (Wg r)
   |oth k=>cases k
theorem rO{is:List Int}{a:Value}(x:Is h (.tup (is.map .int)) a):∃b,a=.ref b/\IsTupleKey (intKind prog w) h is b:=by
 cases x with
 |tup p r=>
  obtain⟨o,e,c,n,d⟩:=p;exact⟨_,rfl,o,_,n,e,c,d,by simpa using Wg r⟩
 |oth k=>cases k
theorem zjO{x:Kx}{u:Value}{Q:Int->Shared->Prop}(hu:A.units<cLine)(hx:Is s.heap (qe x) u)(q:Q (Pk x) {s with toks:=s.toks+Wf x}):wpAny (model prog w) A (pyHash u) Q E s:=by
 cases x with
 |non=>
  cases hx with
  |non=>exact PySem.W.pyHash_slot (T:="NoneType") rfl F.slot_NoneType_hash F.entry_NoneType_hash (F.args_NoneType_hash_1 _) (beq_builtin_none _) (.inr hu) (aC (aO (aC (wpAny_mkInt (aO ⟨_,_,rfl,q⟩)))))
  |oth k=>cases k
 |int i=>
  cases hx with
  |int i t=>exact wpAny_pyHash_int q
  |oth k=>cases k
 |row is=>
  obtain⟨b,rfl,k⟩:=rO (prog:=prog) (w:=w) hx;exact wpAny_pyHash_tuple hu k q
theorem Wh{k:List Kx}:∀{r:List Kx} {us:List Value} {b:Array Int} {s:Shared} {Q:Array Int->Shared->Prop},A.units<cLine->je s.heap (r.map qe) us->(∀b':Array Int,b'.toList=b.toList++r.map Pk->Q b' {s with toks:=s.toks+rN r})->
  wpAny (model prog w) A (forIn us b λx r=>do let h <-pyHash x;pure PUnit.unit;pure (ForInStep.yield (r.push h))) Q E s
 |[],us,b,s,Q,hu,x,q=>by cases x;exact aO (q b (by simp))
 |a::r,us,b,s,Q,hu,x,q=>by
  cases x with
  |cons x1 x2=>
   rw[Am];refine aC (aC (zjO hu x1 (aC (aO (aO ?_)))));refine Wh (k:=k) hu x2 λb' e=>?_;have:=q b' (by simp[e]);simpa [rN,Nat.add_assoc] using this
theorem zgB{k:List Kx}{a:Addr}{Q:Int->Shared->Prop}(hu:A.units+1<cLine)(hk:Is s.heap (iy k) (.ref a))(q:Q (o9 k) {s with toks:=s.toks+(rN k+1)}):wpAny (model prog w) A (pyHash (.ref a)) Q E s:=by
 cases hk with
 |oth k=>cases k
 |tup p r=>
  obtain⟨o,e,c,n,d⟩:=p;refine PySem.W.pyHash_slot (T:="tuple") ⟨_,e,c⟩ F.slot_tuple_hash F.entry_tuple_hash (F.args_tuple_hash_1 _) (beq_builtin_none _) (.inr (by lia)) ?_;show wpAny _ _ (Builtin.Tuple.tupleItemsOf (.ref a) >>= _) _ _ s;refine aC (wpAny_tupleItemsOf e d (aC ?_));rw[<-LC];refine Wh (A:=A.in1) (k:=k) (show A.units+1<cLine from hu) (by simpa using r) λb hb=>?_;show wpAny _ _ (retInt (Builtin.Tuple.tupleHashOf b.toList)) _ _ _;rw[hb];exact aC (wpAny_mkInt (aO ⟨_,_,rfl,by simpa [Nat.add_assoc,o9] using q⟩))
theorem zg8(ht:∀a xs,h.IsTuple a xs->h'.IsTuple a xs)(hl:∀a xs,h.IsList a xs->h'.IsList a xs){d:D}{u:Value}(x:Is h d u):Is h' d u:=
 Is.rec (motive_1:=λd u _=>Is h' d u) (motive_2:=λd u _=>je h' d u) .non .bl .int .str (λp _ r=>.tup (ht _ _ p) r) (λp _ r=>.fl (hl _ _ p) r) (λk=>.oth k) .nil (λ_ _ a r=>.cons a r) x
theorem zgS:∀{n:Nat} {x:Kx} {u:Value} {Q:Bool->Shared->Prop},Is s.heap (qe x) u->Q true s->wpAny (model prog w) A (eqIsQuiet (n+1) u) Q E s:=by
 intro n x u Q hx q;cases x with
 |non=>
  cases hx with
  |non=>rw[eqIsQuiet_byValue _ rfl];exact aO q
  |oth k=>cases k
 |int i=>
  cases hx with
  |int i t=>rw[eqIsQuiet_byValue _ rfl];exact aO q
  |oth k=>cases k
 |row is=>
  obtain⟨b,rfl,k⟩:=rO (prog:=prog) (w:=w) hx;have ty:=k.typeIs;obtain⟨o,items,m,ho,_,hd,hi⟩:=k;unfold eqIsQuiet;refine aC (wpAny_specialOf ty F.slot_tuple_eq.lookup ?_);show wpAny _ A (isInstance (.ref b) (.type "tuple") >>= _) Q E s;refine aC (Iu ty isSubtype_tuple_tuple ?_);simp only[Bool.not_true,vX,qz];refine aC (pN ho hd (aC ?_));show wpAny _ A (forIn items _ _) _ E s;rw[<-LC];refine wpAny_forIn_list _ (λl r t=>r.1=none/\t=s/\∀v∈l,carriedByValue v=true) _ (λv l r t z=>?_) (λr t z=>?_) _ _ ⟨rfl,rfl,hi.byValue⟩
  ·obtain⟨_,rfl,nP⟩:=z;rw[eqIsQuiet_byValue _ (nP v kh)];exact aC (aO (aO ⟨rfl,rfl,λy hy=>nP y (gW _ hy)⟩))
  ·obtain⟨r1,r2⟩:=r;obtain⟨z1,rfl,_⟩:=z;cases z1;exact aO q
theorem zfE{k:List Kx}{a:Addr}{Q:Bool->Shared->Prop}(hk:Is s.heap (iy k) (.ref a))(q:Q true s):wpAny (model prog w) A (eqIsQuiet 8 (.ref a)) Q E s:=by
 cases hk with
 |oth k=>cases k
 |@tup _ _ its p r=>
  obtain⟨o,ho,c,n,hd⟩:=p;unfold eqIsQuiet;refine aC (wpAny_specialOf ⟨_,ho,c⟩ F.slot_tuple_eq.lookup ?_);show wpAny _ A (isInstance (.ref a) (.type "tuple") >>= _) Q E s;refine aC (Iu ⟨_,ho,c⟩ isSubtype_tuple_tuple ?_);simp only[Bool.not_true,vX,qz];refine aC (pN ho hd (aC ?_));show wpAny _ A (forIn its.toArray _ _) _ E s;rw[<-LC];refine wpAny_forIn_list _ (λl r t=>r.1=none/\t=s/\∀v∈l,∃x,Is s.heap (qe x) v) _ (λv l r t z=>?_) (λr t z=>?_) _ _ ⟨rfl,rfl,?_⟩
  ·obtain⟨_,rfl,nP⟩:=z;obtain⟨x,hx⟩:=nP v kh;exact aC (zgS (n:=6) hx (aO ⟨rfl,rfl,λy hy=>nP y (gW _ hy)⟩))
  ·obtain⟨r1,r2⟩:=r;obtain⟨z1,rfl,_⟩:=z;cases z1;exact aO q
  ·intro v hv;have:∀{ks:List Kx} {us:List Value},je s.heap (ks.map qe) us->∀v∈us,∃x,Is s.heap (qe x) v:=λ{ks}=>by
    induction ks with
    |nil=>intro us r v hv;cases r;cases hv
    |cons y ks ih=>
     intro us r v hv;cases r with
     |cons a r=>
      rcases gG.mp hv with rfl|hv
      ·exact⟨y,a⟩
      ·exact ih r v hv
   exact this r v (by simpa using hv)
end
noncomputable def jm(prog:Program)(w:World):HeapKind prog w (List Kx) where
 is:=λh k a=>Is h (iy k) (.ref a)
 hash:=o9
 draws:=λk=>rN k+1
 room:=λA=>A.units+4<cLine
 inj:=λx y=>jN (PB 3 x y Wb)
 keeps:=λ{h h' k a d o es ep} x ho hd hs=>zg8 (λb xs ⟨q,e,c,n,z⟩=>⟨q,(hs.2 b λy=>by subst y;rw[ho] at e;cases e;rw[hd] at z;cases z).trans e,c,n,z⟩) (λb xs ⟨q,e,c,n,z⟩=>⟨q,(hs.2 b λy=>by subst y;rw[ho] at e;cases e;rw[hd] at z;cases z).trans e,c,n,z⟩) x
 pyHash:=λhu hk q=>zgB (by lia) hk q
 eqBool:=λ{A E s x y a b Q} hu hx hy q=>Gm 3 (show A.units+3<cLine by lia) hx hy Wb _ _ _ _ q
 quiet:=λhk q=>zfE hk q
section
variable {K:W.Frag}{cA:Cl}{U U':Ph}{H H':Hp}{s:S}
theorem TupAt.jz(e:∀a,U'.z a->U.z a){a:Addr}{vs:List V}(h:TupAt K U H a vs):TupAt K U' H a vs:=h.imp (λ⟨p,n⟩=>⟨p,λz=>n (e a z)⟩) id
theorem LstAt.jz(e:∀a,U'.z a->U.z a){a:Addr}{vs:List V}(h:LstAt K U H a vs):LstAt K U' H a vs:=h.imp (λ⟨p,n⟩=>⟨p,λz=>n (e a z)⟩) id
theorem ExcAt.jz(e:∀a,U'.z a->U.z a){a:Addr}{c:Nat}{vs:List V}(h:ExcAt cA U H a c vs):ExcAt cA U' H a c vs:=
 ⟨λz=>h.1 (e a z),h.2.imp id λ⟨dx,p,n,q,l⟩=>⟨dx,p,λz=>n (e dx z),q,l⟩⟩
theorem nZ.jz(e:∀a,U'.z a->U.z a){a:Addr}{c:Nat}{vs:List V}(h:nZ cA U H a c vs):nZ cA U' H a c vs:=⟨λz=>h.1 (e a z),h.2⟩
theorem Rep.jz(e:∀a,U'.z a->U.z a){d:D}{v:V}(h:Rep K cA U H d v):Rep K cA U' H d v:=
 Rep.rec (motive_1:=λd v _=>Rep K cA U' H d v) (motive_2:=λd v _=>aB K cA U' H d v) .non .bl .int .str (λh _ i=>.tup (h.jz e) i) (λh _ i=>.fl (h.jz e) i) (λh n=>.fd h (λz=>n (e _ z))) (λh _ i=>.exc (h.jz e) i) (λh _ i=>.ob (h.jz e) i) .any .nil (λ_ _ i j=>.cons i j) h
theorem aB.jz(e:∀a,U'.z a->U.z a){d:List D}{v:List V}(h:aB K cA U H d v):aB K cA U' H d v:=
 aB.rec (motive_1:=λd v _=>Rep K cA U' H d v) (motive_2:=λd v _=>aB K cA U' H d v) .non .bl .int .str (λh _ i=>.tup (h.jz e) i) (λh _ i=>.fl (h.jz e) i) (λh n=>.fd h (λz=>n (e _ z))) (λh _ i=>.exc (h.jz e) i) (λh _ i=>.ob (h.jz e) i) .any .nil (λ_ _ i j=>.cons i j) h
theorem jE.jz(e:∀a,U'.z a->U.z a){a:Addr}{o:SO}(h:jE K cA U H a o):jE K cA U' H a o:=h.map (λ_ q=>q) λ_ _ r=>r.jz e
theorem Rep.zl{d:D}{v:V}(h:Rep K cA U H d v)(l:List Addr):Rep K cA ⟨U.z,l⟩ H d v:=Rep.jz (U:=U) (U':=⟨U.z,l⟩) (λ_ z=>z) h
theorem aB.zl{d:List D}{v:List V}(h:aB K cA U H d v)(l:List Addr):aB K cA ⟨U.z,l⟩ H d v:=aB.jz (U:=U) (U':=⟨U.z,l⟩) (λ_ z=>z) h
theorem jE.zl{a:Addr}{o:SO}(h:jE K cA U H a o)(l:List Addr):jE K cA ⟨U.z,l⟩ H a o:=jE.jz (U:=U) (U':=⟨U.z,l⟩) (λ_ z=>z) h
noncomputable def adr(l:List Addr):List Nat->List Addr
 |[]=>[]
 |n::r=>match l[n]? with
  |some a=>a::adr l r
  |none=>adr l r
theorem Br{l:List Addr}:∀{ns:List Nat} {a:Addr},a∈adr l ns->∃n∈ns,l[n]?=some a
 |[],a,h=>by cases h
 |n::r,a,h=>by
  unfold adr at h;cases e:l[n]? with
  |none=>
   simp only[e] at h;obtain⟨m,h1,h2⟩:=Br h;exact⟨m,gW _ h1,h2⟩
  |some b=>
   simp only[e] at h;rcases gG.mp h with rfl|h
   ·exact⟨n,kh,e⟩
   ·obtain⟨m,h1,h2⟩:=Br h;exact⟨m,gW _ h1,h2⟩
theorem Wi{s:S}:∀{ns:List Nat} {s0:S} {i n:Nat},i_ s ns=some s0->ns[i]?=some n->s0[i]?=s[n]?/\∃o,s[n]?=some o
 |[],s0,i,n,h,e=>by simp at e
 |m::r,s0,i,n,h,e=>by
  unfold i_ at h;cases e1:s[m]? with
  |none=>simp only[e1] at h;cases h
  |some o=>
   cases e2:i_ s r with
   |none=>simp only[e1,e2] at h;cases h
   |some q=>
    simp only[e1,e2] at h;cases h;cases i with
    |zero=>simp at e;subst e;exact⟨by simp[e1],o,e1⟩
    |succ i=>simpa using Wi e2 (by simpa using e)
theorem Wj{s:S}:∀{ns:List Nat} {s0:S},i_ s ns=some s0->s0.length=ns.length
 |[],s0,h=>by cases h;rfl
 |m::r,s0,h=>by
  unfold i_ at h;cases e1:s[m]? with
  |none=>simp only[e1] at h;cases h
  |some o=>
   cases e2:i_ s r with
   |none=>simp only[e1,e2] at h;cases h
   |some q=>
    simp only[e1,e2] at h;cases h;rw[fZ,fZ,Wj e2]
theorem Gx{l:List Addr}:∀{ns:List Nat} {i n:Nat},(∀n∈ns,∃a,l[n]?=some a)->ns[i]?=some n->(adr l ns)[i]?=l[n]?
 |[],i,n,_,e=>by simp at e
 |m::r,i,n,h,e=>by
  obtain⟨a,ha⟩:=h m kh;unfold adr;simp only[ha];cases i with
  |zero=>simp at e;subst e;simp[ha]
  |succ i=>simpa using Gx (λn hn=>h n (gW _ hn)) (by simpa using e)
theorem Gy{l:List Addr}:∀{ns:List Nat},(∀n∈ns,∃a,l[n]?=some a)->(adr l ns).length=ns.length
 |[],_=>rfl
 |m::r,h=>by
  obtain⟨a,ha⟩:=h m kh;unfold adr;simp only[ha];rw[fZ,fZ,Gy (λn hn=>h n (gW _ hn))]
theorem Wm{l:List Addr}(hl:l.Nodup):∀{ns:List Nat},ns.Nodup->(∀n∈ns,∃a,l[n]?=some a)->(adr l ns).Nodup
 |[],_,_=>Aq
 |m::r,hn,h=>by
  obtain⟨a,ha⟩:=h m kh;unfold adr;simp only[ha];obtain⟨h1,h2⟩:=uy.mp hn;refine uy.mpr ⟨λz=>?_,Wm hl h2 (λn hn=>h n (gW _ hn))⟩;obtain⟨n,q1,q2⟩:=Br z;have:m=n:=(LR (dX.mp ha).1 hl).mp (ha.trans q2.symm);exact h1 (this▸q1)
theorem Bs{s:S}:∀{ns:List Nat} {s1:S},(cP s ns s1).length=s.length
 |[],s1=>by cases s1<;>rfl
 |n::r,[]=>rfl
 |n::r,o::q=>by
  show (cP (s.set n o) r q).length=_;rw[Bs,nF]
theorem PX{s:S}:∀{ns:List Nat} {s1:S} {m:Nat},m∉ns->(cP s ns s1)[m]?=s[m]?
 |[],s1,m,_=>by cases s1<;>rfl
 |n::r,[],m,_=>rfl
 |n::r,o::q,m,h=>by
  show (cP (s.set n o) r q)[m]?=_;rw[PX (λz=>h (gW _ z)),qx (λz=>h (by rw[z];exact kh))]
theorem Wn{s:S}:∀{ns:List Nat} {s1:S} {i m:Nat} {o:SO},ns.Nodup->ns[i]?=some m->s1[i]?=some o->m<s.length->(cP s ns s1)[m]?=some o
 |[],s1,i,m,o,_,e,_,_=>by simp at e
 |n::r,[],i,m,o,_,_,e,_=>by simp at e
 |n::r,q::qs,i,m,o,hn,e1,e2,hm=>by
  show (cP (s.set n q) r qs)[m]?=_;obtain⟨h1,h2⟩:=uy.mp hn;cases i with
  |zero=>
   simp at e1 e2;subst e1 e2;rw[PX h1,vU hm]
  |succ i=>exact Wn h2 (by simpa using e1) (by simpa using e2) (by rw[nF];exact hm)
theorem zfG:∀{xs:List Xv} {vs:List V} (l0:List Addr) (z:Addr->Prop) (k:Nat),aN K cA U H xs vs->U.z=z->(∀i n,(locs xs)[i]?=some n->l0[k+i]?=U.l[n]?)->aN K cA ⟨z,l0⟩ H (cZ k xs) vs
 :=by
 intro xs vs l0 z k r0
 induction r0 generalizing k with
 |nil=>exact λ_ _=>.nil
 |@cons x v xs vs a q ih=>
  intro ez h;cases a with
  |d a=>exact .cons (.d (a.jz λb hb=>by rw[ez];exact hb)) (ih k ez h)
  |@l n a' a=>
   refine .cons (.l ?_) (ih (k+1) ez λi m e=>?_)
   ·have:=h 0 n rfl;rw[Nat.add_zero] at this;show l0[k]?=_;rw[this];exact a
   ·have:=h (i+1) m (by simpa [locs] using e);rw[<-this]
    congr 1
    lia
theorem zeB:∀{xs:List Xv} {vs:List V},aN K cA U H xs vs->∀n∈locs xs,∃a,U.l[n]?=some a
 :=by
 intro xs vs r0
 induction r0 with
 |nil=>exact λn h=>by cases h
 |cons a q ih=>
  intro n h;cases a with
  |d a=>exact ih n h
  |l a=>
   rcases gG.mp h with rfl|h
   ·exact⟨_,a⟩
   ·exact ih n h
theorem Wo{xs:List Xv}{U1:Ph}{s0 s1:S}(hS:aF K cA U H s)(hn:(locs xs).Nodup)(ht:∀n∈locs xs,∃a,U.l[n]?=some a)(x:Ext ⟨U.z,adr U.l (locs xs)⟩ H U1 H')(r1:aF K cA U1 H' s1) :
  Ext U H ⟨U1.z,U.l⟩ H'/\aF K cA ⟨U1.z,U.l⟩ H' (cP s (locs xs) s1):=by
 have aq:∀a∈adr U.l (locs xs),a∈U.l:=λa ha=>by obtain⟨n,_,q⟩:=Br ha;exact eZ q
 obtain⟨r,er,hr⟩:=x.more;have er:U1.l=adr U.l (locs xs)++r:=er;refine⟨⟨⟨[],by simp,by simp⟩,λa h=>x.qH a h,λa h=>x.lH a h,λa o h n=>x.frame a o h λz=>n (aq a z),x.stay⟩,?_⟩;refine⟨by rw[Bs];exact hS.len,λn o a e1 e2=>?_,hS.uniq,λa ha=>x.qH a (hS.lz a ha),r1.zt⟩;have e2:U.l[n]?=some a:=e2;by_cases iJ:n∈locs xs
 ·obtain⟨i,hi,ei⟩:=vV iJ;have ei:(locs xs)[i]?=some n:=by rw[cT hi,ei]
  have ha:(adr U.l (locs xs))[i]?=some a:=by rw[Gx ht ei];exact e2
  have J5:U1.l[i]?=some a:=by rw[er,nq (dX.mp ha).1];exact ha
  have dh:i<s1.length:=by rw[<-r1.len];exact(dX.mp J5).1
  have hb:=Wn (s:=s) (s1:=s1) hn ei (cT dh) (by rw[<-hS.len];exact(dX.mp e2).1);rw[hb] at e1;cases e1;exact jE.zl (r1.obj i _ a (cT dh) J5) _
 ·rw[PX iJ] at e1;have P0:a∉adr U.l (locs xs):=λz=>by
   obtain⟨m,q1,q2⟩:=Br z;have:n=m:=(LR (dX.mp e2).1 hS.uniq).mp (e2.trans q2.symm);exact iJ (this▸q1)
  exact(hS.obj n o a e1 e2).map (λ_ q=>x.frame a _ q P0) λ_ _ r=>Rep.zl ((Rep.zl r _).mono x λa ha=>hS.lz a (aq a ha)) _
theorem Wq{F:List Xv->M Xv}{xs:List Xv}{vs:List V}{Q:VK}{EE:Nat->List D->Ph->Hp->Prop}(hS:aF K cA U H s)(r:aN K cA U H xs vs)
  (hE:∀c fs U1 U2 H',U1.z=U2.z->EE c fs U1 H'->EE c fs U2 H')
  (h:Run K cA (cB F xs) U H s (λx _ U' H'=>∀v,aV K cA U' H' x v->Q v H') (λc fs _ U' H'=>EE c fs U' H')) :
  ∃U0 s0,aN K cA U0 H (cZ 0 xs) vs/\aF K cA U0 H s0/\Run K cA (F (cZ 0 xs)) U0 H s0 (λx _ U' H'=>∀v,aV K cA U' H' x v->Q v H') (λc fs _ U' H'=>EE c fs U' H'):=by
 unfold Run cB at h;by_cases hn:(locs xs).Nodup
 ·simp only[if_pos hn] at h;have ht:=zeB r;have aq:∀a∈adr U.l (locs xs),a∈U.l:=λa ha=>by obtain⟨n,_,q⟩:=Br ha;exact eZ q
  cases e0:i_ s (locs xs) with
  |none=>simp only[e0] at h
  |some s0=>
   simp only[e0] at h;refine⟨⟨U.z,adr U.l (locs xs)⟩,s0,zfG _ _ 0 r rfl (λi n e=>by rw[Nat.zero_add];exact Gx ht e),?_,?_⟩
   ·refine⟨by rw[Wj e0];exact Gy ht,λi o a e1 e2=>?_,Wm hS.uniq hn ht,λa ha=>hS.lz a (aq a ha),hS.zt⟩;have e2:(adr U.l (locs xs))[i]?=some a:=e2;have hi:i<(locs xs).length:=by rw[<-Gy ht];exact(dX.mp e2).1
    have ei:(locs xs)[i]?=some ((locs xs)[i]):=cT hi;rw[Gx ht ei] at e2;rw[(Wi e0 ei).1] at e1;exact jE.zl (hS.obj _ o a e1 e2) _
   ·unfold Run;cases e1:F (cZ 0 xs) s0 with
    |none=>simp only[e1] at h
    |some q=>
     obtain⟨q,s1⟩:=q;simp only[e1] at h;cases q with
     |er c fs=>
      intro U1 H' x r1;obtain⟨x2,r2⟩:=Wo (s0:=s0) hS hn ht x r1;exact hE c fs ⟨U1.z,U.l⟩ U1 H' rfl (h ⟨U1.z,U.l⟩ H' x2 r2)
     |ok y=>
      intro U1 H' x r1 v rv;obtain⟨x2,r2⟩:=Wo (s0:=s0) hS hn ht x r1;cases y with
      |d w=>
       cases rv with
       |d rv=>exact h ⟨U1.z,U.l⟩ H' x2 r2 v (.d (Rep.zl rv _))
      |l n=>
       cases rv with
       |@l _ a hl=>
        obtain⟨rr,er,hr⟩:=x.more;have er:U1.l=adr U.l (locs xs)++rr:=er;cases em:(locs xs)[n]? with
        |some m=>
         simp only[em] at h;refine h _ H' x2 r2 _ (.l ?_);show U.l[m]?=some a;have ha:(adr U.l (locs xs))[n]?=U.l[m]?:=Gx ht em;have dh:n<(adr U.l (locs xs)).length:=by rw[Gy ht];exact(dX.mp em).1
         rw[er,nq dh] at hl;rw[<-ha];exact hl
        |none=>
         simp only[em] at h;have P_:(adr U.l (locs xs)).length<=n:=by rw[Gy ht];exact oF.mp em
         have Jy:a∈rr:=by
          rw[er,oE P_] at hl;exact eZ hl
         have P0:a∉U.l:=λz=>by
          obtain⟨o,eo⟩:=hS.zt a (hS.lz a z);rw[hr a Jy] at eo;cases eo
         cases eo:s1[n]? with
         |none=>simp only[eo] at h
         |some o=>
          simp only[eo] at h;have ho:=r1.obj n o a eo hl;refine h ⟨U1.z,U.l++[a]⟩ H' ⟨⟨[a],rfl,by simpa using hr a Jy⟩,x2.qH,x2.lH,x2.frame,x2.stay⟩ ?_ _ (.l (by show (U.l++[a])[s.length]?=_;rw[<-hS.len];simp));refine⟨by show (U.l++[a]).length=_;rw[lV,lV,Bs,hS.len];rfl,λm o' a' e1 e2=>?_,?_,λb hb=>?_,r1.zt⟩
          ·have e2:(U.l++[a])[m]?=some a':=e2;by_cases hm:m<s.length
           ·rw[nq (by rw[Bs];exact hm)] at e1;rw[nq (by rw[hS.len];exact hm)] at e2;exact jE.zl (r2.obj m o' a' e1 e2) _
           ·have rP:m=s.length:=by
             have z:=(dX.mp e2).1;rw[lV,hS.len] at z;simp at z
             lia
            subst rP;rw[oE (by rw[Bs];exact bI _)] at e1;rw[oE (by rw[hS.len];exact bI _)] at e2;simp[Bs] at e1;simp[hS.len] at e2;subst e1 e2;exact jE.zl ho _
          ·show (U.l++[a]).Nodup;rw[Io];refine⟨hS.uniq,by simp,λb hb c hc e=>?_⟩;simp at hc;subst hc e;exact P0 hb
          ·have hb:b∈U.l++[a]:=hb;rcases nD.mp hb with z|z
           ·exact x2.qH b (hS.lz b z)
           ·simp at z;subst z;exact r1.lz _ (eZ hl)
 ·simp only[if_neg hn] at h
end
section
variable {X:Cx}{cA:Cl}{aq:Nat->Nat->Bool}{aj:Bool}{F:Fn}{EX:XS}{a b c d e o:Expr}{A B C Dd E' O:E}{pos pp p2 apos cpos:Pos}{es:List Expr}{Xs:Es}{fz:Bool}{p:Pr}{x:Str}{U:Ph}{H:Hp}{s:S}
theorem Qa{K:W.Frag}{β:Type}{x:Xv}{v:V}{k:Nat×List D->M β}{P:β->S->Ph->Hp->Prop}{Ee:Nat->List D->S->Ph->Hp->Prop}(hS:aF K cA U H s)(r:aV K cA U H x v)(h:Run K cA (M.bd (cL x) k) U H s P Ee) :
  ∃n ad xs vs,x=.l n/\v=.ref ad/\s[n]?=some (.lst xs)/\U.l[n]?=some ad/\H ad=some (.lst vs)/\aB K cA U H xs vs/\Run K cA (k (n,xs)) U H s P Ee:=by
 cases r with
 |d _=>exact h.elim
 |@l n ad hl=>
  unfold Run M.bd cL at h;dsimp only at h;cases e:s[n]? with
  |none=>rw[e] at h;exact h.elim
  |some o=>
   rw[e] at h;cases o with
   |lst xs=>
    obtain⟨vs,q1,q2⟩:=hS.obj n _ _ e hl;exact⟨n,ad,xs,vs,rfl,rfl,e,hl,q1,q2,h⟩
   |_=>exact h.elim
theorem zjR(ho:SE X cA aq aj F EX o O)(ha:SE X cA aq aj F EX a A)
  (mF:attributeBase o "append" X.env (eval o X.env)=eval o X.env:=by rfl)
  (yL:((backTo cpos (starEach [a] X.env)).all (λx=>!x.1)&&(backToKw cpos (keywordEach [] X.env)).all (λx=>x.1.isSome)
  &&decide ([a].length+([]:List Keyword).length+(if ([]:List Keyword).isEmpty then 0 else 1)<30))=true:=by rfl)
  (mH:(apos.endLine==cpos.line)=true:=by rfl) (hs:starEach [a] X.env=(false,eval a X.env)::starEach [] X.env:=by rfl) (nO:(backTo cpos (starEach [] X.env)).any (·.1)=false:=by rfl) :
  SE X cA aq aj F EX (.Call (.Attribute o "append" apos) [a] [] cpos) (.push O A):=PE.weak (zm9 PySem.F.plainAttrs_list PySem.F.slot_list_append PySem.F.type_list_append Ve ho (tO ha yG hs) mF yL mH hs nO) λZ H Q hh=>un hh λU J s hL hS h=>by
 refine aW hL hS h λx H1 U1 d1 s1 x1 hL1 aJ r1 h1=>?_;obtain⟨n,ad,xs,vs,rfl,rfl,e1,f1,g1,q1,h2⟩:=Qa aJ r1 h1;refine⟨.inl ⟨rfl,vs,cM.of g1⟩,aW hL1 aJ h2 λy H2 U2 d2 s2 x2 hL2 aU r2 h3=>?_⟩;obtain⟨dd,_,rd,h4⟩:=JZ r2 h3;obtain⟨n',ad',ys,us,en,ea,e2,f2,g2,q2,h5⟩:=Qa aU (r1.mono x2 aJ.lz) h4;cases en;cases ea;by_cases hz:ys.length<sizeLine
 ·have h5:Run X.K cA (M.bd (putL n (ys++[dd])) λ_=>M.ret (Xv.d .non)) U2 H2 s2 (λd _ U' H'=>∀v,aV X.K cA U' H' d v->Q v H') (eX X.K cA EX Z):=by
   have h6:Run X.K cA (if ys.length<sizeLine then M.bd (putL n (ys++[dd])) λ_=>M.ret (Xv.d .non) else M.no) U2 H2 s2 (λd _ U' H'=>∀v,aV X.K cA U' H' d v->Q v H') (eX X.K cA EX Z):=h5;rw[if_pos hz] at h6;exact h6
  refine⟨ad,us,y,rfl,rfl,g2,by rw[<-q2.len];exact hz,?_⟩;exact h5 U2 _ (Ext.write f2 ⟨_,g2⟩) (aU.write e2 f2 (q2.app (.cons rd .nil))) _ (.d .non)
 ·have h6:Run X.K cA (if ys.length<sizeLine then M.bd (putL n (ys++[dd])) λ_=>M.ret (Xv.d .non) else M.no) U2 H2 s2 (λd _ U' H'=>∀v,aV X.K cA U' H' d v->Q v H') (eX X.K cA EX Z):=h5;rw[if_neg hz] at h6;exact h6.elim
noncomputable def jZ(K:W.Frag)(cA:Cl)(m:List Xv->M Xv):Sp:=λvs H Q E=>∃U xs s,aN K cA U H xs vs/\aF K cA U H s/\Run K cA (m xs) U H s (λd _ U' H'=>∀v,aV K cA U' H' d v->Q v H') (λc fs _ U' H'=>∀dx,jy K cA U' H' c fs dx->E (.ref (cA.a c)) dx H')
theorem zik{K:W.Frag}{U1 U2:Ph}{c:Nat}{fs:List D}{dx:Option Addr}(e:U1.z=U2.z)(h:jy K cA U2 H c fs dx):jy K cA U1 H c fs dx:=h.imp id λ⟨d,vs,a,b,c,l,r⟩=>⟨d,vs,a,by rw[e];exact b,c,l,r.jz λ_ z=>by rw[<-e];exact z⟩
theorem zjA{cm:Bool}{k f:Nat}{fa:Addr}{fd:FuncData}{ps:List Str}(Fo:bW X.prog X.w X.K X.mg X.base (fL X.prog X.w) cm k fa fd ps (jZ X.K cA (F f)))(iV:cm=true->X.aj=true)(hr:bD k X.A)(hg:Gl X x)(hm:X.mg x=some (.ref fa))(hk:PySem.W.keepIn X.K (.ref fa)=true)(hb:Binds X.K fd ps [])(R:Raises X EX)
  (ha:SA X cA aq aj F EX (e::es) Xs) (pR:(x==("__debug__" : Str))=false:=by decide) (he:starEach (e::es) X.env=(false,eval e X.env)::starEach es X.env:=by rfl) (hpl:(backTo pos (starEach es X.env)).any (·.1)=false:=by rfl) :
  SE X cA aq aj F EX (.Call (.Name x pp) (e::es) [] pos) (.call f Xs):=PE.weak (zhu Fo iV hr hg hm hk hb R ha pR he hpl) λZ H Q hh=>un hh λU J s hL hS h=>
 n6 hL hS h λvs H1 U1 ds s1 x1 hL1 aJ r1 h1=>by
  obtain⟨U0,s0,a1,a2,a3⟩:=Wq (EE:=λc fs U' H'=>∀dx,jy X.K cA U' H' c fs dx->EX Z (.ref (cA.a c)) dx H') aJ r1 (λc fs U1 U2 H' ez z dx q=>z dx (zik ez q)) h1;exact⟨U0,_,s0,a1,a2,a3⟩
end
section
variable {K:W.Frag}{cA:Cl}{U U':Ph}{H H':Hp}{s:S}
def cQ(U:Ph)(H H':Hp):Prop:=∀a o,H a=some o->¬U.z a->H' a=some o
mutual
theorem Rep.out(x:cQ U H H'):∀{d:D} {v:V},Rep K cA U H d v->Rep K cA U H' d v
 |_,_,.non=>.non
 |_,_,.bl b=>.bl b
 |_,_,.int i=>.int i
 |_,_,.str z=>.str z
 |_,_,.tup h r=>.tup (h.imp (λ⟨p,n⟩=>⟨p.imp (λq=>x _ _ q n) λ⟨o,q⟩=>⟨o,x _ _ q n⟩,n⟩) id) (aB.out x r)
 |_,_,.fl h r=>.fl (h.imp (λ⟨p,n⟩=>⟨p.imp (λq=>x _ _ q n) λ⟨o,q⟩=>⟨o,x _ _ q n⟩,n⟩) id) (aB.out x r)
 |_,_,.fd h n=>.fd (x _ _ h n) n
 |_,_,.exc h r=>.exc ⟨h.1,h.2.imp (λ⟨a,b,q⟩=>⟨a,b,x _ _ q h.1⟩) λ⟨dx,p,n,q,l⟩=>⟨dx,x _ _ p h.1,n,x _ _ q n,l⟩⟩ (aB.out x r)
 |_,_,.any v=>.any v
 |_,_,.ob h r=>.ob ⟨h.1,let ⟨dx,p,l⟩:=h.2;⟨dx,x _ _ p h.1,l⟩⟩ (aB.out x r)
theorem aB.out(x:cQ U H H'):∀{ds:List D} {vs:List V},aB K cA U H ds vs->aB K cA U H' ds vs
 |_,_,.nil=>.nil
 |_,_,.cons h r=>.cons (Rep.out x h) (aB.out x r)
end
theorem aV.out(x:cQ U H H'){d:Xv}{v:V}(h:aV K cA U H d v):aV K cA U H' d v:=by
 cases h with
 |d h=>exact .d (h.out x)
 |l h=>exact .l h
theorem aX.out(x:cQ U H H')(h:aX K cA U H Z J):aX K cA U H' Z J:=⟨h.1,λi d e=>let ⟨v,a,b⟩:=h.2 i d e;⟨v,a,b.out x⟩⟩
theorem cQ.refl:cQ U H H:=λa o e _=>e
structure jo(K:W.Frag)(cA:Cl)(c:Src)(U:Ph)(H:Hp)(cF:L2.It):Prop where
 stop:∀U' H₁ H' s' i,Ext U H U' H₁->cQ U' H₁ H'->aF K cA U' H' s'->c.at i s'=some none->cF.stop i H'
 go:∀U' H₁ H' s' i x,Ext U H U' H₁->cQ U' H₁ H'->aF K cA U' H' s'->c.at i s'=some (some x)->cF.go i H'
 yx:∀U' H₁ H' s' i x v H2,Ext U H U' H₁->cQ U' H₁ H'->aF K cA U' H' s'->c.at i s'=some (some x)->cF.yx i H' v H2->bf H' H2/\Rep K cA U' H2 x v
theorem LstAt.later(hz:∀a∈U.l,U.z a)(h:LstAt K U H a vs)(x:Ext U H U' H₁)(o:cQ U' H₁ H'):LstAt K U' H' a vs:=
 (h.mono x hz).imp (λ⟨p,n⟩=>⟨p.imp (λq=>o _ _ q n) λ⟨w,q⟩=>⟨w,o _ _ q n⟩,n⟩) id
theorem TupAt.later(hz:∀a∈U.l,U.z a)(h:TupAt K U H a vs)(x:Ext U H U' H₁)(o:cQ U' H₁ H'):TupAt K U' H' a vs:=
 (h.mono x hz).imp (λ⟨p,n⟩=>⟨p.imp (λq=>o _ _ q n) λ⟨w,q⟩=>⟨w,o _ _ q n⟩,n⟩) id
theorem jo.list(hz:∀a∈U.l,U.z a)(h:LstAt K U H a vs)(r:aB K cA U H xs vs):jo K cA (.fix xs) U H (Ji K a):=by
 refine⟨λU' H₁ H' s' i x o hS e=>⟨vs,(h.later hz x o).qI,?_⟩,λU' H₁ H' s' i d x o hS e=>?_,λU' H₁ H' s' i d v H2 x o hS e y=>?_⟩
 ·have e:xs[i]?=none:=cD e;exact oF.mp ((r.mono x hz).none e)
 ·have e:xs[i]?=some d:=cD e;obtain⟨v,q,_⟩:=r.get e;exact⟨vs,v,(h.later hz x o).qI,q⟩
 ·have e:xs[i]?=some d:=cD e;obtain⟨rfl,y⟩:=y;obtain⟨w,q,lu⟩:=((r.mono x hz).out o).get e;have:=y vs (h.later hz x o).qI;rw[q] at this;cases this;exact⟨bf.refl,lu⟩
theorem jo.tuple(hz:∀a∈U.l,U.z a)(h:TupAt K U H a vs)(r:aB K cA U H xs vs):jo K cA (.fix xs) U H (M8 K a):=by
 refine⟨λU' H₁ H' s' i x o hS e=>⟨vs,(h.later hz x o).iz,?_⟩,λU' H₁ H' s' i d x o hS e=>?_,λU' H₁ H' s' i d v H2 x o hS e y=>?_⟩
 ·have e:xs[i]?=none:=cD e;exact oF.mp ((r.mono x hz).none e)
 ·have e:xs[i]?=some d:=cD e;obtain⟨v,q,_⟩:=r.get e;exact⟨vs,v,(h.later hz x o).iz,q⟩
 ·have e:xs[i]?=some d:=cD e;obtain⟨rfl,y⟩:=y;obtain⟨w,q,lu⟩:=((r.mono x hz).out o).get e;have:=y vs (h.later hz x o).iz;rw[q] at this;cases this;exact⟨bf.refl,lu⟩
theorem Qc(h:(Src.live n).at i s=some o):∃xs,s[n]?=some (.lst xs)/\xs[i]?=o:=by
 unfold Src.at at h;dsimp only at h;cases e:s[n]? with
 |none=>rw[e] at h;cases h
 |some ob=>
  rw[e] at h;cases ob with
  |lst xs=>exact⟨xs,rfl,cD h⟩
  |_=>cases h
theorem jo.live(h:U.l[n]?=some a):jo K cA (.live n) U H (Ji K a):=by
 refine⟨λU' H₁ H' s' i x o hS e=>?_,λU' H₁ H' s' i d x o hS e=>?_,λU' H₁ H' s' i d v H2 x o hS e y=>?_⟩
 ·obtain⟨xs,e1,e2⟩:=Qc e;obtain⟨vs,q1,q2⟩:=hS.obj n _ a e1 (x.get h);exact⟨vs,cM.of q1,oF.mp (q2.none e2)⟩
 ·obtain⟨xs,e1,e2⟩:=Qc e;obtain⟨vs,q1,q2⟩:=hS.obj n _ a e1 (x.get h);obtain⟨v,q3,_⟩:=q2.get e2;exact⟨vs,v,cM.of q1,q3⟩
 ·obtain⟨xs,e1,e2⟩:=Qc e;obtain⟨vs,q1,q2⟩:=hS.obj n _ a e1 (x.get h);obtain⟨w,q3,lu⟩:=q2.get e2;obtain⟨rfl,y⟩:=y;have:=y vs (cM.of q1);rw[q3] at this;cases this;exact⟨bf.refl,lu⟩
theorem Qd:(iZ a b)[i]?=if i<(b-a).toNat then some (.int (a+i)) else none:=by
 unfold iZ;rw[gD,List.getElem?_range']
where
 List.getElem?_range' {n i:Nat}:Option.map (λ(i:Nat)=>D.int (a+i)) (List.range n)[i]?=if i<n then some (.int (a+i)) else none:=by
  by_cases h:i<n
  ·rw[if_pos h,Cq h];rfl
  ·rw[if_neg h,List.getElem?_eq_none (by simp;lia)];rfl
theorem jo.range{a b:Int}:jo K cA (.fix (iZ a b)) U H (DG a (b-a).toNat):=by
 refine⟨λU' H₁ H' s' i x o hS e=>?_,λU' H₁ H' s' i d x o hS e=>?_,λU' H₁ H' s' i d v H2 x o hS e y=>?_⟩
 ·have e:(iZ a b)[i]?=none:=cD e;rw[Qd] at e;split at e
  ·cases e
  ·exact Ir (by assumption)
 ·have e:(iZ a b)[i]?=some d:=cD e;rw[Qd] at e;split at e
  ·assumption
  ·cases e
 ·have e:(iZ a b)[i]?=some d:=cD e;rw[Qd] at e;split at e
  ·cases e;obtain⟨rfl,rfl⟩:=y;exact⟨bf.refl,.int _⟩
  ·cases e
end
noncomputable def Qe(K:W.Frag)(te:TE):TI:=λZ H R=>te Z H λv H1=>∃a,v=.ref a/\(((∃xs,cM K H1 a xs)/\R (Ji K a) H1)\/((∃xs,fu K H1 a xs)/\R (M8 K a) H1))
theorem zli(he:PE X l te):PI X tg l (Qe X.K te):=by
 intro ao s Z H R I h;refine aZ (he ao s Z H _ I h) λv s1 hx=>Mg hx λx H1 I1 r1 a e q=>?_;subst e;cases r1;rcases q with ⟨⟨xs,hq⟩,q⟩|⟨⟨xs,hq⟩,q⟩
 ·obtain⟨its,rv,p,hz⟩:=I1.list hq;refine Ik p.isList ?_;refine⟨s1.heap.objs.size,[s1.heap.objs.size],_,_,H1,rfl,I1.kept (t':=s1.toks) λb o e=>cG _ e,zgb a _,⟨_,fj _ rfl,rfl,rfl⟩,λb hb=>?_,q⟩;have e:b=s1.heap.objs.size:=by simpa using hb
  subst e;exact I1.qZ (bI _) (I1.hok.fresh (bI _))
 ·obtain⟨its,rv,p,hz⟩:=I1.tuple hq;refine wpAny_pyIter_tuple (show s1.heap.IsTuple a its.toArray from p) ?_;refine⟨s1.heap.objs.size,[s1.heap.objs.size],_,_,H1,rfl,I1.kept (t':=s1.toks) λb o e=>cG _ e,zeQ a _,⟨_,fj _ rfl,rfl,rfl⟩,λb hb=>?_,q⟩;have e:b=s1.heap.objs.size:=by simpa using hb
  subst e;exact I1.qZ (bI _) (I1.hok.fresh (bI _))
section
variable {X:Cx}{cA:Cl}{aq:Nat->Nat->Bool}{aj:Bool}{F:Fn}{EX:XS}{a b tg:Expr}{A B:E}{pos pp:Pos}
noncomputable def tI(K:W.Frag)(cA:Cl)(EX:XS)(m:Vs->M (Src×Nat)):TI:=λZ H R=>∃U J s,aX K cA U H Z J/\aF K cA U H s/\Run K cA (m J) U H s (λcn _ U1 H1=>∀cF,jo K cA cn.1 U1 H1 cF->R cF H1) (eX K cA EX Z)
def SI(X:Cx)(cA:Cl)(aq:Nat->Nat->Bool)(aj:Bool)(F:Fn)(EX:XS)(tg iter:Expr)(w:Wk):Prop:=PI X tg iter (tI X.K cA EX (lQ aq aj F w))
theorem PI.weak{iter:Expr}{t t':TI}(h:PI X tg iter t)(f:∀Z H Q,t' Z H Q->t Z H Q):PI X tg iter t':=λao s Z H Q I q=>h ao s Z H Q I (f Z H Q q)
theorem zlF(ha:SE X cA aq aj F EX a A):SI X cA aq aj F EX tg a (.seq A):=PI.weak (zli ha) λZ H R hh=>un hh λU J s hL hS h=>by
 refine aW hL hS h λv H1 U1 d s1 x1 hL1 aJ r1 h1=>?_;cases r1 with
 |@l n ad hl=>
  unfold Run src at h1;dsimp only at h1;cases e:s1[n]? with
  |none=>rw[e] at h1;exact h1.elim
  |some o=>
   rw[e] at h1;cases o with
   |lst xs=>
    obtain⟨vs,q1,q2⟩:=aJ.obj n _ _ e hl;exact⟨ad,rfl,.inl ⟨⟨vs,cM.of q1⟩,h1 U1 H1 Ext.refl aJ _ (jo.live hl)⟩⟩
   |_=>exact h1.elim
 |d r1=>
  cases r1 with
  |tup q r=>exact⟨_,rfl,.inr ⟨⟨_,q.iz⟩,h1 U1 H1 Ext.refl aJ _ (jo.tuple aJ.lz q r)⟩⟩
  |fl q r=>exact⟨_,rfl,.inl ⟨⟨_,q.qI⟩,h1 U1 H1 Ext.refl aJ _ (jo.list aJ.lz q r)⟩⟩
  |_=>exact h1.elim
theorem Wr{i:Int}(h:eU i=true) : -(2^62)<=i/\i<2^62:=by
 unfold eU at h;rw[gA,Cw,Cw] at h;exact⟨by lia,h.2⟩
theorem Ws{K:W.Frag}{U:Ph}{H:Hp}{s:S}{i j:Int}{P:Src×Nat->S->Ph->Hp->Prop}{Ee:Nat->List D->S->Ph->Hp->Prop}(hS:aF K cA U H s)(h:Run K cA (if (eU i&&eU j)=true then M.ret (Src.fix (iZ i j),(iZ i j).length) else M.no) U H s P Ee):(-(2^62)<=i/\i<2^62/\-(2^62)<=j/\j<2^62)/\P (.fix (iZ i j),(iZ i j).length) s U H:=by
 by_cases hk:(eU i&&eU j)=true
 ·rw[if_pos hk] at h;rw[gA] at hk;obtain⟨a,b⟩:=Wr hk.1;obtain⟨c,d⟩:=Wr hk.2;exact⟨⟨a,b,c,d⟩,h.bH hS⟩
 ·rw[if_neg hk] at h;exact h.elim
theorem zmo(n8:Gl X "range")(hmg:X.mg "range"=none)(ha:SE X cA aq aj F EX a A)(hb:SE X cA aq aj F EX b B)(h1:starEach [a,b] X.env=(false,eval a X.env)::starEach [b] X.env)(h2:starEach [b] X.env=(false,eval b X.env)::starEach [] X.env) :
  SI X cA aq aj F EX tg (.Call (.Name "range" pp) [a,b] [] pos) (.rg A B):=PI.weak (zfl n8 hmg (tO ha (tO hb yG h2) h1) (by rw[h1,h2];rfl) (by rw[h2];rfl)) λZ H R hh=>un hh λU J s hL hS h=>by
 refine aW hL hS h λx H1 U1 d1 s1 x1 hL1 aJ r1 h1=>aW hL1 aJ h1 λy H2 U2 d2 s2 x2 hL2 aU r2 h2=>?_;obtain⟨i,_,e1,h3⟩:=Gi (r1.mono x2 aJ.lz) h2;obtain⟨j,_,e2,h4⟩:=Gi r2 h3;obtain⟨hz,q⟩:=Ws aU h4;subst e1 e2;exact⟨i,j,rfl,hz,q _ jo.range⟩
theorem zlw(n8:Gl X "range")(hmg:X.mg "range"=none)(hb:SE X cA aq aj F EX b B)(h2:starEach [b] X.env=(false,eval b X.env)::starEach [] X.env) :
  SI X cA aq aj F EX tg (.Call (.Name "range" pp) [b] [] pos) (.rg (.c (.int 0)) B):=PI.weak (zga n8 hmg (tO hb yG h2) (by rw[h2];rfl)) λZ H R hh=>un hh λU J s hL hS h=>by
 have h:Run X.K cA (M.bd (ev aq aj F B J) λy=>M.bd (int (.d (.int 0))) λi=>M.bd (int y) λj=>if (eU i&&eU j)=true then M.ret (Src.fix (iZ i j),(iZ i j).length) else M.no) U H s _ _:=h;refine aW hL hS h λy H2 U2 d2 s2 x2 hL2 aU r2 h2=>?_;obtain⟨j,_,e2,h4⟩:=Gi r2 (show Run X.K cA (M.bd (int d2) λj=>if (eU 0&&eU j)=true then M.ret (Src.fix (iZ 0 j),(iZ 0 j).length) else M.no) U2 H2 s2 _ _ from h2);obtain⟨hz,q⟩:=Ws aU h4;subst e2;refine⟨j,rfl,hz.2.2.1,hz.2.2.2,q _ ?_⟩;have:=jo.range (K:=X.K) (cA:=cA) (U:=U2) (H:=H2) (a:=0) (b:=j);rw[Int.sub_zero] at this;exact this
end
section
variable {K:W.Frag}{cA:Cl}{U U' U0:Ph}{H H' H0:Hp}{s:S}
theorem Run.bd0(x:Ext U0 H0 U H)(h:Run K cA (M.bd m k) U0 H0 s P Ee) :
  Run K cA m U H s (λa s1 U1 H1=>Ext U H U1 H1/\aF K cA U1 H1 s1/\Run K cA (k a) U0 H0 s1 P Ee) Ee:=by
 unfold Run M.bd at *;cases e:m s with
 |none=>rw[e] at h;exact h
 |some r=>
  obtain⟨r,s1⟩:=r;rw[e] at h;cases r with
  |er c f=>exact λU1 H1 x1 r1=>h U1 H1 (x.trans x1) r1
  |ok a=>exact λU1 H1 x1 r1=>⟨x1,r1,h⟩
theorem Wt{α β:Type}{m:M α}{k:α->M β}{P:β->S->Ph->Hp->Prop}{Ee Ee':Nat->List D->S->Ph->Hp->Prop}(x:Ext U0 H0 U H)(h:Run K cA (M.bd (M.qt m) k) U0 H0 s P Ee) :
  Run K cA m U H s (λa s1 U1 H1=>Ext U H U1 H1/\aF K cA U1 H1 s1/\Run K cA (k a) U0 H0 s1 P Ee) Ee':=by
 have h2:=h.bd0 x;unfold Run at h2 ⊢;unfold M.qt at h2;cases e:m s with
 |none=>rw[e] at h2;exact h2
 |some r=>
  obtain⟨r,s1⟩:=r;rw[e] at h2;cases r with
  |ok a=>exact h2
  |er c f=>exact h2.elim
theorem zk3{α β:Type}{m m':M α}{k:α->M β}{P:β->S->Ph->Hp->Prop}{Ee:Nat->List D->S->Ph->Hp->Prop}(e:m s=m' s)(h:Run K cA (M.bd m k) U H s P Ee):Run K cA (M.bd m' k) U H s P Ee:=by
 unfold Run M.bd at *;rw[<-e];exact h
end
section
variable {X:Cx}{cA:Cl}{aq:Nat->Nat->Bool}{aj:Bool}{F:Fn}{EX:XS}{elt iter tg:Expr}{A B:E}{pos p:Pos}{ifs:List Expr}{scope:Scope}{N:List Str}{cond:Eo}{fr cU:List Nat}{many:Nat}{fz:Bool}{w:Wk}
def Gz(X:Cx)(cA:Cl)(aq:Nat->Nat->Bool)(aj:Bool)(F:Fn)(EX:XS)(ifs:List Expr)(m:Eo):Prop:=Jv X ifs (tV X.K cA EX (qd aq aj F m))
theorem zkH:Gz X cA aq aj F EX [] .no:=λao s Z H Q I ⟨U,J,st,hL,hS,h⟩=>ziY ao s Z H Q I (h.bH hS)
theorem zit(h:ST X cA aq aj F EX c C):Gz X cA aq aj F EX [c] (.yes C):=zjx h
structure lJ(K:W.Frag)(cA:Cl)(g:TG)(cU:List Nat):Prop where
 run:∀(U:Ph) (H:Hp) (s:S) (Z:L2.St) (J J':Vs) (d:D) (v:V) (Q:L2.St->Hp->Prop),aX K cA U H Z J->aF K cA U H s->Rep K cA U H d v->gO cU d J=some J'->
  (∀Z',aX K cA U H Z' J'->Z'.length=Z.length->(∀i,i∉cU->Z'[i]?=Z[i]?)->Q Z' H)->g v Z H Q
theorem pq{K:W.Frag}(i:Nat):lJ K cA (dD i) [i] where
 run:=λU H s Z J J' d v Q hL hS r e k=>by
  cases e;exact k _ (hL.set (.d r)) (nF ..) λj hj=>qx (by simpa using λz=>hj (by simp[z]))
theorem GC{K:W.Frag}(i j:Nat):lJ K cA (qY K 2 (gH (dD i) (gH (dD j) qX))) [i,j] where
 run:=λU H s Z J J' d v Q hL hS r e k=>by
  have e:(jW d).bind (λds=>gj [i,j] (ds.map Xv.d) J)=some J':=e;obtain⟨ds,e1,e2⟩:=xO.mp e;cases r with
  |@tup ad xs vs h1 h2=>
   have e1:xs=ds:=cD e1;subst e1;cases h2 with
   |nil=>cases e2
   |cons r1 t1=>
    cases t1 with
    |nil=>cases e2
    |cons r2 t2=>
     cases t2 with
     |nil=>
      have e2:=cD e2;subst e2;refine⟨ad,_,rfl,h1.iz,rfl,_,_,rfl,_,_,rfl,rfl,k _ ((hL.set (.d r1)).set (.d r2)) (by rw[nF,nF]) λm hm=>?_⟩;rw[qx (λz=>hm (by simp[z])),qx (λz=>hm (by simp[z]))]
     |cons r3 t3=>cases e2
  |_=>cases e1
noncomputable def cH(many:Nat)(fr:List Nat)(Z:L2.St):L2.St:=List.replicate many none++fr.map λj=>(Z[j]?).join
theorem zjq{U:Ph}{H:Hp}{Z:L2.St}{J:Vs}(hL:aX X.K cA U H Z J){Z':L2.St}(hl:Z'.length=many+fr.length)(hf:∀(i:Nat) j v,fr[i]?=some j->Z[j]?=some (some v)->Z'[many+i]?=some (some v)):aX X.K cA U H Z' (blk many fr J):=by
 refine⟨by unfold blk;simp[hl],λi d e=>?_⟩;unfold blk at e;by_cases hi:i<many
 ·rw[nq (by simpa using hi),xM,if_pos hi] at e;cases e
 ·rw[oE (by simpa using Ir hi),Cj,gD] at e;cases z:fr[i-many]? with
  |none=>rw[z] at e;cases e
  |some j=>
   rw[z] at e;have e3:J[j]?.join=some d:=by simpa using e
   obtain⟨v,q1,q2⟩:=hL.2 j d (Px e3);refine⟨v,?_,q2⟩;have:=hf (i-many) j v z q1;rw[show many+(i-many)=i by omega] at this;exact this
structure eE(U:Ph)(H:Hp)(Dd:Addr)(o:HO):Prop where
 at_:H Dd=some o
 nl:Dd∉U.l
 z:U.z Dd
abbrev Keep(U:Ph)(H:Hp)(Dd:Addr)(vs:List V):Prop:=eE U H Dd (.lst vs)
theorem eE.mono{U U':Ph}{H H':Hp}{Dd:Addr}{o:HO}(x:Ext U H U' H')(k:eE U H Dd o):eE U' H' Dd o:=by
 refine⟨x.frame _ _ k.at_ k.nl,λz=>?_,x.qH _ k.z⟩;obtain⟨r,er,hr⟩:=x.more;rw[er] at z;rcases nD.mp z with z|z
 ·exact k.nl z
 ·have:=hr _ z;rw[k.at_] at this;cases this
theorem eE.ext{U:Ph}{H:Hp}{Dd:Addr}{o u:HO}(k:eE U H Dd o):(∀a o,H a=some o->¬U.z a->(upd H Dd u) a=some o)/\eE U (upd H Dd u) Dd u:=
 ⟨λa o e n=>by rw[dO (λz=>n (by rw[z];exact k.z))];exact e,jC,k.nl,k.z⟩
end
section
variable {K:W.Frag}{cA:Cl}{U U':Ph}{H H':Hp}
theorem aF.keep{s:S}{Dd:Addr}{o u:HO}(h:aF K cA U H s)(k:eE U H Dd o):aF K cA U (upd H Dd u) s:=by
 have x:cQ U H (upd H Dd u):=k.ext.1;refine⟨h.len,λn o a e1 e2=>?_,h.uniq,h.lz,λa z=>?_⟩
 ·have na:a≠Dd:=λy=>k.nl (by rw[<-y];exact eZ e2);exact(h.obj n o a e1 e2).map (λ_ q=>by rw[dO na];exact q) λ_ _ r=>r.out x
 ·by_cases e:a=Dd
  ·subst e;exact⟨_,jC⟩
  ·obtain⟨o,q⟩:=h.zt a z;exact⟨o,by rw[dO e];exact q⟩
theorem Ext.keep{U1:Ph}{H1:Hp}{Dd:Addr}{vs:List V}{u:HO}(x:Ext U1 H1 U H)(hD:H1 Dd=none):Ext U1 H1 U (upd H Dd u):=by
 refine⟨x.more,x.qH,x.lH,λa o h n=>?_,λa o h=>?_⟩
 ·rw[dO (λz=>by rw[z,hD] at h;cases h)];exact x.frame a o h n
 ·rw[dO (λz=>by rw[z,hD] at h;cases h)];exact x.stay a o h
theorem zfu{U1:Ph}{H1:Hp}{s':S}{fz:Bool}{acc:List D}{vs:List V}{Dd:Addr}{Q:VK}{Ee:Nat->List D->S->Ph->Hp->Prop}(h:Run K cA (newL fz acc) U1 H1 s' (λd _ U' H'=>∀v,aV K cA U' H' d v->Q v H') Ee)
  (x2:Ext U1 H1 U' H') (hD:H1 Dd=none) (nz:¬U1.z Dd) (aU:aF K cA U' H' s') (k:Keep U' H' Dd vs) (wV:aB K cA U' H' acc vs):Q (.ref Dd) H':=by
 cases fz with
 |true=>
  have zq:∀a,(λa=>U'.z a/\a≠Dd) a->U'.z a:=λa z=>z.1;refine h ⟨λa=>U'.z a/\a≠Dd,U'.l⟩ H' ⟨x2.more,λa z=>⟨x2.qH a z,λe=>nz (by rw[<-e];exact z)⟩,λa z=>x2.lH a z.1,x2.frame,x2.stay⟩ ?_ _ (.d (.fl (.inl ⟨.inl k.at_,λz=>z.2 rfl⟩) (aB.jz (U:=U') zq wV)));refine⟨aU.len,λn o a e1 e2=>jE.jz (U:=U') zq (aU.obj n o a e1 e2),aU.uniq,λa ha=>⟨aU.lz a ha,λe=>k.nl (by rw[<-e];exact ha)⟩,λa z=>aU.zt a z.1⟩
 |false=>
  obtain⟨r,er,hr⟩:=x2.more;refine h ⟨U'.z,U'.l++[Dd]⟩ H' ⟨⟨r++[Dd],by show U'.l++[Dd]=_;rw[er,Il],λb hb=>?_⟩,x2.qH,x2.lH,x2.frame,x2.stay⟩ ?_ _ (.l (by show (U'.l++[Dd])[s'.length]?=_;rw[<-aU.len];simp))
  ·rcases nD.mp hb with z|z
   ·exact hr b z
   ·simp at z;subst z;exact hD
  ·refine⟨by show (U'.l++[Dd]).length=_;rw[lV,lV,aU.len];rfl,λm o' a' e1 e2=>?_,?_,λb hb=>?_,aU.zt⟩
   ·have e2:(U'.l++[Dd])[m]?=some a':=e2;by_cases hm:m<s'.length
    ·rw[nq hm] at e1;rw[nq (by rw[aU.len];exact hm)] at e2;exact jE.zl (aU.obj m o' a' e1 e2) _
    ·have rP:m=s'.length:=by
      have z:=(dX.mp e2).1;rw[lV,aU.len] at z;simp at z;omega
     subst rP;rw[oE (bI _)] at e1;rw[oE (by rw[aU.len];exact bI _)] at e2;simp at e1;simp[aU.len] at e2;subst e1 e2;exact⟨vs,k.at_,aB.zl wV _⟩
   ·show (U'.l++[Dd]).Nodup;rw[Io];refine⟨aU.uniq,by simp,λb hb c hc e=>?_⟩;simp at hc;subst hc e;exact k.nl hb
   ·have hb:b∈U'.l++[Dd]:=hb;rcases nD.mp hb with z|z
    ·exact aU.lz b z
    ·simp at z;subst z;exact k.z
noncomputable def Ph.mark(U:Ph)(p:Addr):Ph:=⟨λa=>U.z a\/a=p,U.l⟩
theorem zeD{s:S}{p:Addr}(hS:aF K cA U H s)(hp:H p=none):Ext U H (U.mark p) (upd H p (.lst []))/\aF K cA (U.mark p) (upd H p (.lst [])) s/\Keep (U.mark p) (upd H p (.lst [])) p []:=by
 have g:=bf.new (o:=.lst []) hp;have nz:=hS.nz hp;refine⟨⟨⟨[],by simp[Ph.mark],by simp⟩,λa z=>.inl z,λa z=>z.imp id λe=>by rw[e];exact hp,λa o h _=>g a o h,λa o h=>⟨o,g a o h⟩⟩,⟨hS.len,λn o a e1 e2=>?_,hS.uniq,λa ha=>.inl (hS.lz a ha),λa z=>?_⟩,jC,λz=>nz (hS.lz p z),.inr rfl⟩
 ·have x:Ext U H (U.mark p) (upd H p (.lst [])):=⟨⟨[],by simp[Ph.mark],by simp⟩,λa z=>.inl z,λa z=>z.imp id λe=>by rw[e];exact hp,λa o h _=>g a o h,λa o h=>⟨o,g a o h⟩⟩;exact(hS.obj n o a e1 e2).map (g _) λ_ _ r=>r.mono x hS.lz
 ·rcases z with z|z
  ·obtain⟨o,e⟩:=hS.zt a z;exact⟨o,g _ _ e⟩
  ·subst z;exact⟨_,jC⟩
end
section
variable {X:Cx}{cA:Cl}{aq:Nat->Nat->Bool}{aj:Bool}{F:Fn}{EX:XS}{elt iter tg:Expr}{A B:E}{pos p:Pos}{ifs:List Expr}{scope:Scope}{N:List Str}{cond:Eo}{fr cU:List Nat}{many:Nat}{fz:Bool}{w:Wk}
noncomputable abbrev fP(aq:Nat->Nat->Bool)(aj:Bool)(F:Fn)(B:E)(cond:Eo)(cU:List Nat)(Jb:Vs):D->List D->M (List D):=λd acc=>M.bd (M.opt (gO cU d Jb)) λJ'=>M.bd (M.qt (qd aq aj F cond J')) λok=>
    if ok=true then M.bd (M.qt (ev aq aj F B J')) λy=>M.bd (dat y) λe=>if acc.length<sizeLine then M.ret (acc++[e]) else M.no else M.ret acc
theorem Wu{H:Hp}{a:Addr}{o:HO}(h:H a=some o):upd H a o=H:=funext λb=>by
 by_cases z:b=a
 ·subst z;rw[jC,h]
 ·rw[dO z]
theorem zgA{K:W.Frag}{g:TG}{U1 U':Ph}{H1 H2:Hp}{s':S}{Z':L2.St}{Jb:Vs}{Dd:Addr}{acc:List D}{vs:List V}{xi:D}{v:V}{β:Type}{kk:List D->M β}{P:β->S->Ph->Hp->Prop}{Ee:Nat->List D->S->Ph->Hp->Prop}(hT:lJ K cA g cU)(iJ:∀i∈cU,i<many)
  (hD:H1 Dd=none) (x2:Ext U1 H1 U' H2) (hL2:aX K cA U' H2 Z' Jb) (aU:aF K cA U' H2 s') (kp:Keep U' H2 Dd vs) (wV:aB K cA U' H2 acc vs) (rx:Rep K cA U' H2 xi v)
  (h:Run K cA (M.bd (fP aq aj F B cond cU Jb xi acc) kk) U1 H1 s' P Ee) {Nn:L2.St->Hp->Prop}
  (hN:∀Z3 H3 U3 s3 vf J6,Z3.length=Z'.length->(∀i,many<=i->Z3[i]?=Z'[i]?)->Ext U1 H1 U3 H3->Ext U' H2 U3 (upd H3 Dd (.lst vs))->aF K cA U3 H3 s3->Keep U3 H3 Dd J6->aB K cA U3 H3 vf J6->Run K cA (kk vf) U1 H1 s3 P Ee->Nn Z3 H3) :
  g v Z' H2 λZ3 H3=>tV K cA (λ_ _ _ _=>False) (qd aq aj F cond) Z3 H3 λok H4=>
   if ok=true then tE K cA (λ_ _ _ _=>False) (ev aq aj F B) Z3 H4 λy H5=>∃ys,H5 Dd=some (.lst ys)/\ys.length<sizeLine/\Nn Z3 (upd H5 Dd (.lst (ys++[y]))) else Nn Z3 H4:=by
 unfold fP at h;rw[jd] at h;obtain⟨J',e1,h1⟩:=JV h;refine hT.run U' H2 s' Z' Jb J' xi v _ hL2 aU rx e1 λZ3 u9 Wv hf3=>?_;rw[jd] at h1;have kf:∀i,many<=i->Z3[i]?=Z'[i]?:=λi hi=>hf3 i λz=>absurd (iJ i z) (Nat.not_lt.mpr hi);refine⟨U',J',s',u9,aU,(Wt x2 h1).imp λok s4 U4 H4 ⟨x4,wO,h6⟩=>?_⟩;cases ok with
 |false=>
  refine iF (hN Z3 H4 U4 s4 acc vs Wv kf (x2.trans x4) (by rw[Wu (kp.mono x4).at_];exact x4) wO (kp.mono x4) (wV.mono x4 aU.lz) ?_);rw[if_neg (by decide)] at h6;exact h6
 |true=>
  rw[if_pos rfl,jd] at h6;refine iT ⟨U4,J',s4,u9.mono x4 aU.lz,wO,(Wt (x2.trans x4) h6).imp λy s5 U5 H5 ⟨x5,hS5,h7⟩ u ru=>?_⟩;rw[jd] at h7;have k5:=(kp.mono x4).mono x5;have r5:=(wV.mono x4 aU.lz).mono x5 wO.lz;have x15:=(x2.trans x4).trans x5;obtain⟨dd,ey,rd,h8⟩ : ∃d,y=.d d/\Rep K cA U5 H5 d u/\Run K cA (M.bd (if acc.length<sizeLine then M.ret (acc++[d]) else M.no) kk) U1 H1 s5 P Ee:=by
   cases ru with
   |l _=>exact h7.elim
   |d r=>exact⟨_,rfl,r,h7⟩
  by_cases hz:acc.length<sizeLine
  ·rw[if_pos hz] at h8;refine⟨vs,k5.at_,by rw[<-r5.len];exact hz,?_⟩;have ox:cQ U5 H5 (upd H5 Dd (.lst (vs++[u]))):=k5.ext.1;exact hN Z3 _ U5 s5 (acc++[dd]) (vs++[u]) Wv kf (Ext.keep (vs:=vs) x15 hD) (by rw[zij,Wu k5.at_];exact x4.trans x5) (hS5.keep k5) k5.ext.2 ((r5.app (.cons rd .nil)).out ox) h8
  ·rw[if_neg hz] at h8;exact h8.elim
theorem Ww{g:TG}{iter':Expr}(hT:lJ X.K cA g cU)(iJ:∀i∈cU,i<many){Z:L2.St}{H:Hp}{Q:VK}(hh:tE X.K cA EX (ev aq aj F (.comp fz B cU w fr many cond)) Z H Q) :
  rm (tI X.K cA EX (lQ aq aj F w)) (cH many fr) g (tV X.K cA (λ_ _ _ _=>False) (qd aq aj F cond)) (tE X.K cA (λ_ _ _ _=>False) (ev aq aj F B)) Z H Q:=un hh λU J s hL hS h=>by
 by_cases fH:aj=true
 ·have h:Run X.K cA (if aj=true then M.bd (lQ aq aj F w J) λcn=>M.bd (walk cn.1 (fP aq aj F B cond cU (blk many fr J)) (cn.2+1) 0 []) λxs=>newL fz xs else M.no) U H s (λd _ U' H'=>∀v,aV X.K cA U' H' d v->Q v H') (eX X.K cA EX Z):=h;rw[if_pos fH] at h;refine⟨U,J,s,hL,hS,h.bd.imp λcn s1 U1 H1 ⟨x1,aJ,h1⟩ cF hJ=>?_⟩;have hL1:=hL.mono x1 hS.lz;obtain⟨c,n⟩:=cn;dsimp only at h1 hJ;intro Dd hD;obtain⟨x0,hS0,k0⟩:=zeD aJ hD;have Qf:∀{Z':L2.St},(Z'.length=many+fr.length/\∀i,many<=i->Z'[i]?=(cH many fr Z)[i]?)->∀{U' H'},Ext U1 H1 U' H'->aX X.K cA U' H' Z' (blk many fr J):=λ{Z'} hZ {U' H'} x=>zjq (hL1.mono x aJ.lz) hZ.1 λi j v e1 e2=>by
   rw[hZ.2 _ (by omega)];unfold cH;rw[oE (by simp),Cj,gD,show many+i-many=i by omega,e1];simp[e2]
  refine⟨λi m Z' H'=>m=n+1-i/\(Z'.length=many+fr.length/\∀i,many<=i->Z'[i]?=(cH many fr Z)[i]?)/\∃U' s' acc vs,Ext U1 H1 U' H'/\aF X.K cA U' H' s'/\Keep U' H' Dd vs/\aB X.K cA U' H' acc vs /\
   Run X.K cA (M.bd (walk c (fP aq aj F B cond cU (blk many fr J)) (n+1-i) i acc) λxs=>newL fz xs) U1 H1 s' (λd _ U' H'=>∀v,aV X.K cA U' H' d v->Q v H') (eX X.K cA EX Z),⟨n+1,rfl,⟨by simp[cH],λi _=>rfl⟩,U1.mark Dd,s1,[],[],x0,hS0,k0,.nil,h1⟩,?_⟩
  rintro i m Z' H' ⟨rfl,hZ,U',s',acc,vs,x2,aU,kp,wV,h3⟩;have hL2:=Qf hZ x2;cases ek:n+1-i with
  |zero=>rw[ek] at h3;exact h3.elim
  |succ k=>
   rw[ek] at h3;cases ei:c.at i s' with
   |none=>
    exfalso
    unfold Run M.bd walk at h3;simp only[ei] at h3
   |some oi=>
    cases oi with
    |none=>
     refine .inl ⟨hJ.stop U' H' H' s' i x2 cQ.refl aU ei,?_⟩;have h4:Run X.K cA (newL fz acc) U1 H1 s' (λd _ U' H'=>∀v,aV X.K cA U' H' d v->Q v H') (eX X.K cA EX Z):=by
      unfold Run M.bd walk at h3;simp only[ei] at h3;exact h3
     exact zfu h4 x2 hD (aJ.nz hD) aU kp wV
    |some xi=>
     refine .inr ⟨hJ.go U' H' H' s' i xi x2 cQ.refl aU ei,λZ2 H2=>(Z2.length=many+fr.length/\∀i,many<=i->Z2[i]?=(cH many fr Z)[i]?)/\∃U' s' acc vs,Ext U1 H1 U' H2/\aF X.K cA U' H2 s'/\Keep U' H2 Dd vs/\aB X.K cA U' H2 acc vs /\
      Run X.K cA (M.bd (walk c (fP aq aj F B cond cU (blk many fr J)) k (i+1) acc) λxs=>newL fz xs) U1 H1 s' (λd _ U' H'=>∀v,aV X.K cA U' H' d v->Q v H') (eX X.K cA EX Z),λZ2 H2 hn=>⟨k,by omega,by omega,hn.1,?_⟩,λv H2 hy=>?_⟩
     ·have:n+1-(i+1)=k:=by omega
      rw[this];exact hn.2
     ·obtain⟨gr,rx⟩:=hJ.yx U' H' H' s' i xi v H2 x2 cQ.refl aU ei hy;have h4:Run X.K cA (M.bd (fP aq aj F B cond cU (blk many fr J) xi acc) λacc'=>M.bd (walk c (fP aq aj F B cond cU (blk many fr J)) k (i+1) acc') λxs=>newL fz xs) U1 H1 s' (λd _ U' H'=>∀v,aV X.K cA U' H' d v->Q v H') (eX X.K cA EX Z):=by
       have h5:=zk3 (m':=M.bd (fP aq aj F B cond cU (blk many fr J) xi acc) λacc'=>walk c (fP aq aj F B cond cU (blk many fr J)) k (i+1) acc') (by rw[walk];simp only[ei]) h3;rw[jd] at h5;exact h5
      exact zgA hT iJ hD (x2.trans gr.ext) (hL2.mono gr.ext aU.lz) (aU.grow gr) (kp.mono gr.ext) (wV.mono gr.ext aU.lz) rx h4 λZ3 H3 U3 s3 vf J6 l3 f3 x3 _ jY k3 r3 h6=>⟨⟨l3.trans hZ.1,λi hi=>(f3 i hi).trans (hZ.2 i hi)⟩,U3,s3,vf,J6,x3,jY,k3,r3,h6⟩
 ·have h:Run X.K cA (if aj=true then M.bd (lQ aq aj F w J) λcn=>M.bd (walk cn.1 (fP aq aj F B cond cU (blk many fr J)) (cn.2+1) 0 []) λxs=>newL fz xs else M.no) U H s (λd _ U' H'=>∀v,aV X.K cA U' H' d v->Q v H') (eX X.K cA EX Z):=h;rw[if_neg fH] at h;exact h.elim
theorem Wx{XN:List Str}(qD:∀(i:Nat) (y:Str) (j:Nat),N[many+i]?=some y->fr[i]?=some j->scope.names.lookup y=some .free/\XN[j]?=some y)(Z:L2.St)(i:Nat)(x:Str)(v:V)(e1:N[i]?=some x)(e2:(cH many fr Z)[i]?=some (some v)):scope.names.lookup x=some .free/\∃j:Nat,XN[j]?=some x/\Z[j]?=some (some v):=by
 unfold cH at e2;by_cases hi:i<many
 ·rw[nq (by simpa using hi),xM,if_pos hi] at e2;cases e2
 ·rw[oE (by simpa using Ir hi),Cj,gD] at e2;cases z:fr[i-many]? with
  |none=>rw[z] at e2;cases e2
  |some j=>
   rw[z] at e2;have e3:(Z[j]?).join=some v:=by simpa using e2
   obtain⟨a1,a2⟩:=qD (i-many) x j (by rw[show many+(i-many)=i by omega];exact e1) z;exact⟨a1,j,a2,Px e3⟩
theorem Wy{g:TG}(hc:X.aj=true)(B':cY X.env.scope scope)(hi:SI X cA aq aj F EX tg iter w)(hN:N.length=many+fr.length)
  (qD:∀(i:Nat) (y:Str) (j:Nat),N[many+i]?=some y->fr[i]?=some j->scope.names.lookup y=some .free/\X.N[j]?=some y)
  (hg:∀cl C s3 H3 fp ao,PG (X.blk scope cl N C s3 H3 fp ao) tg g) (hT:lJ X.K cA g cU) (iJ:∀i∈cU,i<many)
  (ht:∀cl C s3 H3 fp ao,Gz (X.blk scope cl N C s3 H3 fp ao) cA aq aj F (λ_ _ _ _=>False) ifs cond) (he:∀cl C s3 H3 fp ao,SE (X.blk scope cl N C s3 H3 fp ao) cA aq aj F (λ_ _ _ _=>False) elt B)
  (hs:∀x,foldedSetIterable iter X.env x=pure x:=by intro _;rfl):SE X cA aq aj F EX (.ListComp elt [⟨tg,iter,ifs,0⟩] scope pos) (.comp fz B cU w fr many cond):=
 PE.weak (zix hc B' hi (⟨hg,ht,he⟩ : Parts X elt tg ifs scope N g (tV X.K cA (λ_ _ _ _=>False) (qd aq aj F cond)) (tE X.K cA (λ_ _ _ _=>False) (ev aq aj F B))) (ZY:=cH many fr) (λZ=>by simp[cH,hN]) (λZ i x v e1 e2=>Wx qD Z i x v e1 e2) hs) λZ H Q hh=>Ww (iter':=iter) hT iJ hh
end
section
variable (K:W.Frag)(cA:Cl)
def aR(m:MS)(U:Ph)(H:Hp)(s:S)(D:Ends)(EX:XS):Prop:=match m s with
 |some (.nx J,s')=>∀U' H' Z',Ext U H U' H'->aF K cA U' H' s'->aX K cA U' H' Z' J->D.nx Z' H'
 |some (.bk J,s')=>∀U' H' Z',Ext U H U' H'->aF K cA U' H' s'->aX K cA U' H' Z' J->D.bk Z' H'
 |some (.ct J,s')=>∀U' H' Z',Ext U H U' H'->aF K cA U' H' s'->aX K cA U' H' Z' J->D.ct Z' H'
 |some (.rt d,s')=>∀U' H' v,Ext U H U' H'->aF K cA U' H' s'->aV K cA U' H' d v->D.rt v H'
 |some (.er c fs J,s')=>∀U' H' Z',Ext U H U' H'->aF K cA U' H' s'->aX K cA U' H' Z' J->∀dx,jy K cA U' H' c fs dx->EX Z' (.ref (cA.a c)) dx H'
 |none=>False
noncomputable def tS(EX:XS)(m:Vs->MS):TS:=λD Z H=>∃U J s,aX K cA U H Z J/\aF K cA U H s/\aR K cA (m J) U H s D EX
end
section
variable {K:W.Frag}{cA:Cl}{U U':Ph}{H H':Hp}{s:S}{Z:L2.St}{J:Vs}{EX:XS}{D:Ends}
theorem aR.ext{m:MS}(x:Ext U H U' H')(h:aR K cA m U H s D EX):aR K cA m U' H' s D EX:=by
 unfold aR at *;split at h<;>first
  |exact λU2 H2 a y r l=>h U2 H2 a (x.trans y) r l
  |exact h.elim
theorem aR.ofM{α:Type}{m:M α}{k:α->MS}(hL:aX K cA U H Z J)(hz:∀a∈U.l,U.z a)(h:aR K cA (ofM m J k) U H s D EX):Run K cA m U H s (λa s1 U1 H1=>Ext U H U1 H1/\aF K cA U1 H1 s1/\aR K cA (k a) U1 H1 s1 D EX) (eX K cA EX Z):=by
 unfold aR Mi.ofM at h;unfold Run;cases e:m s with
 |none=>rw[e] at h;exact h
 |some r=>
  obtain⟨r,s1⟩:=r;rw[e] at h;cases r with
  |er c fs=>exact λU1 H1 x r=>h U1 H1 Z x r (hL.mono x hz)
  |ok a=>
   intro U1 H1 x r;refine⟨x,r,?_⟩;have h2:aR K cA (k a) U H s1 D EX:=h;exact h2.ext x
theorem aR.then_(h:aR K cA (cC m k) U H s D EX):aR K cA m U H s {D with nx:=λZ' H'=>∃U' J' s',aX K cA U' H' Z' J'/\aF K cA U' H' s'/\aR K cA (k J') U' H' s' D EX} EX:=by
 unfold aR cC at h;unfold aR;cases e:m s with
 |none=>rw[e] at h;exact h
 |some r=>
  obtain⟨r,s1⟩:=r;rw[e] at h;cases r with
  |nx J=>
   intro U1 H1 Z1 x r l;have h2:aR K cA (k J) U H s1 D EX:=h;exact⟨U1,J,s1,l,r,h2.ext x⟩
  |bk J=>exact h
  |ct J=>exact h
  |rt d=>exact h
  |er c fs J=>exact h
end
section
variable (X:Cx)(cA:Cl)(aq:Nat->Nat->Bool)(aj:Bool)(F:Bool->Fn)(EX:XS)
def SS(st:Stmt)(m:St):Prop:=PS X st (tS X.K cA EX (ex aq aj F m))
def vg(st:List Stmt)(m:bU):Prop:=oO X st (tS X.K cA EX (exs aq aj F m))
end
section
variable {X:Cx}{cA:Cl}{aq:Nat->Nat->Bool}{aj:Bool}{F:Bool->Fn}{EX:XS}{a b c d e:Expr}{A B C:E}{pos p p2:Pos}{st:Stmt}{sts body orelse:List Stmt}{m:St}{ms mb me mh:bU}{es:List Expr}{Xs:Es}{x y n:Str}{i j:Nat}
theorem PS.weak{t t':TS}(h:PS X st t)(f:∀D Z H,t' D Z H->t D Z H):PS X st t':=λao s Z H D I q=>h ao s Z H D I (f D Z H q)
theorem oO.weak{t t':TS}(h:oO X sts t)(f:∀D Z H,t' D Z H->t D Z H):oO X sts t':=λao s Z H D I q=>h ao s Z H D I (f D Z H q)
theorem znl:SS X cA aq aj F EX st .no:=λ_ _ _ _ _ _ ⟨_,_,_,_,_,h⟩=>h.elim
theorem zi0:vg X cA aq aj F EX [] .nil:=oO.weak Ul λD Z H hh=>un hh λU J s hL hS h=>h U H Z Ext.refl hS hL
theorem zgF(h1:SS X cA aq aj F EX st m)(h2:vg X cA aq aj F EX sts ms):vg X cA aq aj F EX (st::sts) (.cons m ms):=oO.weak (Um h1 h2) λD Z H hh=>un hh λU J s hL hS h=>by
 have h:aR X.K cA (cC (ex aq aj F m J) λJ'=>exs aq aj F ms J') U H s D EX:=h;exact⟨U,J,s,hL,hS,h.then_⟩
theorem zmE(ha:SE X cA aq aj (F aj) EX a A)(hs:swapsWith a none pos.line X.env=pure false:=by rfl):SS X cA aq aj F EX (.Expr a pos) (.ex A):=PS.weak (zjs ha hs) λD Z H hh=>un hh λU J s hL hS h=>
 ⟨U,J,s,hL,hS,(aR.ofM hL hS.lz h).imp λd s1 U1 H1 ⟨x1,aJ,h1⟩ v rv=>h1 U1 H1 Z Ext.refl aJ (hL.mono x1 hS.lz)⟩
theorem zlH(ha:SE X cA aq aj (F aj) EX a A):SS X cA aq aj F EX (.Return (some a) pos) (.ret A):=PS.weak (zlj ha) λD Z H hh=>un hh λU J s hL hS h=>
 ⟨U,J,s,hL,hS,(aR.ofM hL hS.lz h).imp λd s1 U1 H1 ⟨x1,aJ,h1⟩ v rv=>h1 U1 H1 v Ext.refl aJ rv⟩
theorem zj2(hN:X.N.Nodup)(hi:X.N[i]?=some x)(hx:Loc X.env.scope x)(ha:SE X cA aq aj (F aj) EX a A)(hs:swapsWith a (some (.Name x p)) pos.line X.env=pure false:=by rfl)(hf:X.fn x=true\/X.env.scope.names.lookup x=some .local:=by first|exact .inl rfl|exact .inr rfl) :
  SS X cA aq aj F EX (.Assign [.Name x p] a pos) (.asg (.nm i) A):=PS.weak (zlr hN hi hx ha hs hf) λD Z H hh=>un hh λU J s hL hS h=>
 ⟨U,J,s,hL,hS,(aR.ofM hL hS.lz h).imp λd s1 U1 H1 ⟨x1,aJ,h1⟩ v rv=>h1 U1 H1 _ Ext.refl aJ ((hL.mono x1 hS.lz).set rv)⟩
theorem Qg{k}(hc:X.aj=true)(hN:X.N.Nodup)(hi:X.N[i]?=some x)(hj:X.N[j]?=some y)(hx:Loc X.env.scope x)(hy:Loc X.env.scope y)(vh:X.fn x=true\/X.env.scope.names.lookup x=some .local)(vm:X.fn y=true\/X.env.scope.names.lookup y=some .local) :
  PG X (.Tuple [.Name x px,.Name y py] k pos) (qY X.K 2 (gH (dD i) (gH (dD j) qX))):=zl5 hc (Uo (Jh hN hi hx vh) (Uo (Jh hN hj hy vm) zjL))
theorem Wz{K:W.Frag}{U:Ph}{H:Hp}{s:S}{J:Vs}{Z:L2.St}{D:Ends}{d:Xv}{v:V}(fH:aj=true)(hL:aX K cA U H Z J)(hS:aF K cA U H s)(rv:aV K cA U H d v)(h:aR K cA (store aq aj (F aj) (.tp [i,j]) d J) U H s D EX):qY K 2 (gH (dD i) (gH (dD j) qX)) v Z H D.nx:=by
 have h:aR K cA (if aj=true then ofM (M.bd (dat d) λd=>M.opt ((jW d).bind λds=>gj [i,j] (ds.map Xv.d) J)) J (λJ' s=>some (Out.nx J',s)) else λ_=>none) U H s D EX:=h;rw[if_pos fH] at h;obtain⟨dd,e0,rd,h1⟩:=JZ rv (aR.ofM hL hS.lz h);obtain⟨J',e,_,aJ,h2⟩:=Run.opt hS h1;refine(GC i j).run U H s Z J J' dd v _ hL hS rd e λZ' hL' _ _=>h2 U H Z' Ext.refl hS hL'
theorem zjJ{k}(hc:X.aj=true)(fH:aj=true)(hN:X.N.Nodup)(hi:X.N[i]?=some x)(hj:X.N[j]?=some y)(hx:Loc X.env.scope x)(hy:Loc X.env.scope y)(vh:X.fn x=true\/X.env.scope.names.lookup x=some .local)(vm:X.fn y=true\/X.env.scope.names.lookup y=some .local)(ha:SE X cA aq aj (F aj) EX a A)
  (hs:swapsWithSole [.Tuple [.Name x px,.Name y py] k pt] a pos.line X.env=pure false:=by rfl) (hw:swappedStores [.Tuple [.Name x px,.Name y py] k pt] a X.env=pure none:=by rfl)
  (h1:(assignEach [.Tuple [.Name x px,.Name y py] k pt] X.env).map (·.2)=[assign (.Tuple [.Name x px,.Name y py] k pt) X.env]:=by rfl) :
  SS X cA aq aj F EX (.Assign [.Tuple [.Name x px,.Name y py] k pt] a pos) (.asg (.tp [i,j]) A):=PS.weak (Uq ha (Qg hc hN hi hj hx hy vh vm) hs hw h1) λD Z H hh=>un hh λU J s hL hS h=>
 ⟨U,J,s,hL,hS,(aR.ofM hL hS.lz h).imp λd s1 U1 H1 ⟨x1,aJ,h1⟩ v rv=>Wz fH (hL.mono x1 hS.lz) aJ rv h1⟩
theorem zln(hO:SE X cA aq aj (F aj) EX oo O)(hI:SE X cA aq aj (F aj) EX ii I')(ha:SE X cA aq aj (F aj) EX a A)
  (Qh:∀v,assign (.Subscript oo ii p) X.env v=(do
   let ov <-holding [v] (eval oo X.env)
   let iv <-holding [v,ov] (eval ii X.env)
   standAt p
   holding [v,ov,iv] (setItem ov iv v)
   release [v,ov,iv] []):=by intro _;rfl) (hs:swapsWithSole [.Subscript oo ii p] a pos.line X.env=pure false:=by rfl) (hw:swappedStores [.Subscript oo ii p] a X.env=pure none:=by rfl)
  (h1:(assignEach [.Subscript oo ii p] X.env).map (·.2)=[assign (.Subscript oo ii p) X.env]:=by rfl) :
  SS X cA aq aj F EX (.Assign [.Subscript oo ii p] a pos) (.asg (.aq O I') A):=PS.weak (Uq ha (zkx hO hI zg7 Qh) hs hw h1) λD Z H hh=>un hh λU J s hL hS h=>by
 refine⟨U,J,s,hL,hS,(aR.ofM hL hS.lz h).imp λd s1 U1 H1 ⟨x1,aJ,h1⟩ v rv=>?_⟩;obtain⟨dd,e0,rd,h2⟩:=JZ rv (aR.ofM (hL.mono x1 hS.lz) aJ.lz h1);refine aW (hL.mono x1 hS.lz) aJ h2 λxo H2 U2 d2 s2 x2 hL2 aU r2 h3=>aW hL2 aU h3 λyi H3 U3 d3 s3 x3 u9 jY r3 h4=>?_;obtain⟨k,_,ek,h5⟩:=Gi r3 h4;obtain⟨n,ad,xs,vs,_,ea,e1,f1,g1,q1,h6⟩:=Qa jY (r2.mono x3 aU.lz) h5;subst ek ea;cases ej:L2.pW xs.length k with
 |none=>simp only[ej] at h6;exact h6.elim
 |some jj=>
  simp only[ej] at h6;refine⟨ad,vs,k,jj,rfl,rfl,g1,by rw[<-q1.len];exact ej,?_⟩;have rv3:=(rd.mono x2 aJ.lz).mono x3 aU.lz;have wO:=jY.write e1 f1 (q1.set rv3 jj);have x4:Ext U3 H3 U3 (upd H3 ad (.lst (vs.set jj v))):=Ext.write f1 ⟨_,g1⟩;obtain⟨_,_,h8⟩:=h6 U3 _ x4 wO;exact h8 U3 _ Z Ext.refl wO (u9.mono x4 jY.lz)
theorem zm2(hc:ST X cA aq aj (F aj) EX c C)(ht:vg X cA aq aj F EX body mb)(he:vg X cA aq aj F EX orelse me):SS X cA aq aj F EX (.If c body orelse pos) (.iff C mb me):=PS.weak (zni hc ht he) λD Z H hh=>un hh λU J s hL hS h=>by
 refine⟨U,J,s,hL,hS,(aR.ofM hL hS.lz h).imp λk s1 U1 H1 ⟨x1,aJ,h1⟩=>?_⟩;cases k with
 |true=>exact iT ⟨U1,J,s1,hL.mono x1 hS.lz,aJ,h1⟩
 |false=>exact iF ⟨U1,J,s1,hL.mono x1 hS.lz,aJ,h1⟩
theorem zjI{g:TG}{elt iter tg:Expr}{ifs:List Expr}{scope:Scope}{N:List Str}{cond:Eo}{fr cU:List Nat}{many:Nat}{fz:Bool}{w:Wk}{spos py:Pos}(hc:X.aj=true)(vo:X.N.Nodup)(wC:X.N[i]?=some y)(hx:Loc X.env.scope y)(hf:X.fn y=true\/X.env.scope.names.lookup y=some .local)(B':cY X.env.scope scope)(hi:SI X cA aq aj (F aj) EX tg iter w)(hN:N.length=many+fr.length)
  (qD:∀(i:Nat) (y:Str) (j:Nat),N[many+i]?=some y->fr[i]?=some j->scope.names.lookup y=some .free/\X.N[j]?=some y)
  (hg:∀cl C s3 H3 fp ao,PG (X.blk scope cl N C s3 H3 fp ao) tg g) (hT:lJ X.K cA g cU) (iJ:∀i∈cU,i<many)
  (ht:∀cl C s3 H3 fp ao,Gz (X.blk scope cl N C s3 H3 fp ao) cA aq aj (F aj) (λ_ _ _ _=>False) ifs cond) (he:∀cl C s3 H3 fp ao,SE (X.blk scope cl N C s3 H3 fp ao) cA aq aj (F aj) (λ_ _ _ _=>False) elt B)
  (Fl:swapsWith (.ListComp elt [⟨tg,iter,ifs,0⟩] scope pos) (some (.Name y py)) spos.line X.env=pure true) (hs:∀x,foldedSetIterable iter X.env x=pure x:=by intro _;rfl) :
  SS X cA aq aj F EX (.Assign [.Name y py] (.ListComp elt [⟨tg,iter,ifs,0⟩] scope pos) spos) (.asg (.nm i) (.comp fz B cU w fr many cond)):=
 PS.weak (zeX hc vo wC hx hf B' hi (⟨hg,ht,he⟩ : Parts X elt tg ifs scope N g (tV X.K cA (λ_ _ _ _=>False) (qd aq aj (F aj) cond)) (tE X.K cA (λ_ _ _ _=>False) (ev aq aj (F aj) B))) (ZY:=cH many fr) (λZ=>by simp[cH,hN]) (λZ i x v e1 e2=>Wx qD Z i x v e1 e2) Fl hs) λD Z H hh=>un hh λU J s hL hS h=>
  Ww (iter':=iter) hT iJ ⟨U,J,s,hL,hS,(aR.ofM hL hS.lz h).imp λd s1 U1 H1 ⟨x1,aJ,h1⟩ v rv=>h1 U1 H1 _ Ext.refl aJ ((hL.mono x1 hS.lz).set rv)⟩
noncomputable def pA(m:MS)(kN:Vs->MS):MS:=λs=>match m s with
 |some (.nx J',s')=>kN J' s'
 |some (.ct J',s')=>kN J' s'
 |some (.bk J',s')=>some (.nx J',s')
 |r=>r
theorem Kah{K:W.Frag}{U:Ph}{H:Hp}{s:S}{D:Ends}{m:MS}{kN:Vs->MS}{N:L2.St->Hp->Prop}(hN:∀U' J' s' Z' H',Ext U H U' H'->aX K cA U' H' Z' J'->aF K cA U' H' s'->aR K cA (kN J') U' H' s' D EX->N Z' H')(h:aR K cA (pA m kN) U H s D EX) :
  aR K cA m U H s {D with nx:=N,ct:=N,bk:=D.nx} EX:=by
 unfold aR pA at h;unfold aR;cases e:m s with
 |none=>rw[e] at h;exact h
 |some r=>
  obtain⟨r,s1⟩:=r;rw[e] at h;cases r with
  |nx J'=>
   intro U1 H1 Z1 x r l;have h2:aR K cA (kN J') U H s1 D EX:=h;exact hN U1 J' s1 Z1 H1 x l r (h2.ext x)
  |ct J'=>
   intro U1 H1 Z1 x r l;have h2:aR K cA (kN J') U H s1 D EX:=h;exact hN U1 J' s1 Z1 H1 x l r (h2.ext x)
  |bk J'=>exact h
  |rt d=>exact h
  |er c fs J'=>exact h
def SG(X:Cx)(cA:Cl)(aq:Nat->Nat->Bool)(aj:Bool)(F:Bool->Fn)(EX:XS)(tg:Expr)(t:Tg):Prop:=∃g:TG,PG X tg g/\∀(U:Ph) (H:Hp) (s:S) (Z:L2.St) (J:Vs) (d:Xv) (v:V) (D:Ends),aX X.K cA U H Z J->aF X.K cA U H s->aV X.K cA U H d v->
 aR X.K cA (store aq aj (F aj) t d J) U H s D EX->g v Z H D.nx
theorem zi3(hN:X.N.Nodup)(hi:X.N[i]?=some x)(hx:Loc X.env.scope x)(hf:X.fn x=true\/X.env.scope.names.lookup x=some .local:=by first|exact .inl rfl|exact .inr rfl):SG X cA aq aj F EX (.Name x pos) (.nm i):=
 ⟨_,Jh hN hi hx hf,λU H s Z J d v D hL hS r h=>h U H _ Ext.refl hS (hL.set r)⟩
theorem zia{k}(hc:X.aj=true)(fH:aj=true)(hN:X.N.Nodup)(hi:X.N[i]?=some x)(hj:X.N[j]?=some y)(hx:Loc X.env.scope x)(hy:Loc X.env.scope y)(vh:X.fn x=true\/X.env.scope.names.lookup x=some .local)(vm:X.fn y=true\/X.env.scope.names.lookup y=some .local) :
  SG X cA aq aj F EX (.Tuple [.Name x px,.Name y py] k pos) (.tp [i,j]):=
 ⟨_,Qg hc hN hi hj hx hy vh vm,λU H s Z J d v D hL hS r h=>Wz fH hL hS r h⟩
theorem zk0(hp:PassesOwn (model X.prog X.w) X.A X.env X.xe)(hc:X.aj=true)(fH:aj=true)(ha:SI X cA aq aj (F aj) EX tg a w)(hg:SG X cA aq aj F EX tg t)(hb:vg X cA aq aj F EX body mb)
  (hs:∀x,foldedSetIterable a X.env x=pure x:=by intro _;rfl):SS X cA aq aj F EX (.For tg a body [] pos) (.fr t w mb):=by
 obtain⟨g,hG,hg⟩:=hg;refine PS.weak (zlq hp hc ha hG hb hs) λD Z H hh=>un hh λU J s hL hS h=>?_;have h:aR X.K cA (if aj=true then ofM (lQ aq aj (F aj) w J) J λcn=>dj cn.1 (λd J=>cC (store aq aj (F aj) t (.d d) J) λJ'=>exs aq aj F mb J') (cn.2+1) 0 J else λ_=>none) U H s D EX:=h;rw[if_pos fH] at h;refine⟨U,J,s,hL,hS,(aR.ofM hL hS.lz h).imp λcn s1 U1 H1 ⟨x1,aJ,h1⟩ cF hJ=>?_⟩;have hL1:=hL.mono x1 hS.lz;obtain⟨c,n⟩:=cn;dsimp only at h1 hJ;refine⟨λi m Z' H'=>∃U' J' s',Ext U1 H1 U' H'/\aX X.K cA U' H' Z' J'/\aF X.K cA U' H' s'/\aR X.K cA (dj c (λd J=>cC (store aq aj (F aj) t (.d d) J) λJ'=>exs aq aj F mb J') m i J') U' H' s' D EX,⟨n+1,U1,J,s1,Ext.refl,hL1,aJ,h1⟩,?_⟩;rintro i m Z' H' ⟨U',J',s',x2,hL2,aU,h4⟩;cases m with
 |zero=>exact h4.elim
 |succ m=>
  cases ei:c.at i s' with
  |none=>
   exfalso
   unfold aR dj at h4;simp only[ei] at h4
  |some oi=>
   cases oi with
   |none=>
    refine .inl ⟨hJ.stop U' H' H' s' i x2 cQ.refl aU ei,?_⟩;unfold aR dj at h4;simp only[ei] at h4;exact h4 U' H' Z' Ext.refl aU hL2
   |some xi=>
    refine .inr ⟨hJ.go U' H' H' s' i xi x2 cQ.refl aU ei,_,λZ3 H3 z=>⟨m,Ip m,z⟩,λv H3 hy=>?_⟩;obtain⟨gr,rx⟩:=hJ.yx U' H' H' s' i xi v H3 x2 cQ.refl aU ei hy;have h5:aR X.K cA (pA (cC (store aq aj (F aj) t (.d xi) J') λJ'=>exs aq aj F mb J') (dj c (λd J=>cC (store aq aj (F aj) t (.d d) J) λJ'=>exs aq aj F mb J') m (i+1))) U' H' s' D EX:=by
     unfold aR at h4 ⊢;have e:dj c (λd J=>cC (store aq aj (F aj) t (.d d) J) λJ'=>exs aq aj F mb J') (m+1) i J' s'=pA (cC (store aq aj (F aj) t (.d xi) J') λJ'=>exs aq aj F mb J') (dj c (λd J=>cC (store aq aj (F aj) t (.d d) J) λJ'=>exs aq aj F mb J') m (i+1)) s':=by
      rw[dj];simp only[ei];rfl
     rw[e] at h4;exact h4
    exact hg U' H3 s' Z' J' (.d xi) v _ (hL2.mono gr.ext aU.lz) (aU.grow gr) (.d rx) (aR.then_ (Kah (λU4 J4 s4 Z4 H4 x4 l4 r4 q4=>⟨U4,J4,s4,(x2.trans gr.ext).trans x4,l4,r4,q4⟩) (h5.ext gr.ext)))
end
end Mi
namespace L2
open PySem PySem.Spec PyProof.Rows
structure mW(K:W.Frag)(x qual:Str)(st:Stmt)(f:Addr)(fd:FuncData):Prop where
 ex:∃(oc:Value) (od:Option Addr) (kV doc pm:Value) (an:Option Addr) (cdv ct:Value) (osl:Array (Option Value)),
  fd=PySem.W.fnOf x qual (aP st) (aK st) (au st) .none kV doc pm an cdv ct/\K.lookup f=some ⟨oc,od,.func fd,osl⟩/\PySem.W.codeIn K cdv qual=true
 kp:PySem.W.keepIn K (.ref f)=true
section
variable {P:Program}{w:World}{K:W.Frag}{mg:Str->Option Value}{base:Heap}
end
end L2
namespace Mi
open PySem PySem.Spec PyProof.Rows L2
section
variable {P:Program}{w:World}{K:W.Frag}{mg:Str->Option Value}{base:Heap}{cA:Cl}{aq:Nat->Nat->Bool}{T:Nat->Option Df}
theorem WD{U:Ph}{H:Hp}{N:List Str}{ds:List Xv}{vs:List V}{m p:Nat}(r:aN K cA U H ds vs)(hp:p=ds.length)(hm:m=N.length):aX K cA U H (L2.start N vs) (ds.map some++List.replicate (m-p) none):=by
 subst hp hm;unfold L2.start;have hl:=r.len;refine⟨by simp[hl],λi d e=>?_⟩;by_cases hi:i<ds.length
 ·rw[nq (by simpa using hi),gD] at e;cases z:ds[i]? with
  |none=>rw[z] at e;cases e
  |some x=>
   rw[z] at e;cases e;obtain⟨v,a,b⟩:=r.get z;exact⟨v,by rw[nq (by simp;lia),gD,a];rfl,b⟩
 ·rw[oE (by simpa using hi),xM] at e;split at e<;>cases e
theorem WK{U:Ph}{H:Hp}{s:S}{ds:List Xv}{k n:Nat}{cm:Bool}{df:Df}{Q:VK}{E:XK}(hT:T n=some df)
  (h:Run K cA (call aq T (k+1) cm n ds) U H s (λd _ U' H'=>∀v,aV K cA U' H' d v->Q v H') (λc fs _ U' H'=>∀dx,jy K cA U' H' c fs dx->E (.ref (cA.a c)) dx H')) :
  ds.length=df.gP/\aR K cA (exs aq cm (λc=>call aq T k c) df.body (ds.map some++List.replicate (df.many-df.gP) none)) U H s {nx:=λ_ H'=>Q .non H',rt:=Q} (λ_ C dx H'=>E C dx H'):=by
 unfold call at h;simp only[hT] at h;by_cases hl:ds.length=df.gP
 ·refine⟨hl,?_⟩;rw[if_pos hl] at h;unfold Run at h;unfold aR;cases e:exs aq cm (λc=>call aq T k c) df.body (ds.map some++List.replicate (df.many-df.gP) none) s with
  |none=>simp only[e] at h
  |some r=>
   obtain⟨r,s1⟩:=r;simp only[e] at h;cases r with
   |nx J=>exact λU' H' Z' x r l=>h U' H' x r _ (.d .non)
   |rt d=>exact λU' H' v x r rv=>h U' H' x r v rv
   |er c fs J=>exact λU' H' Z' x r l=>h U' H' x r
   |bk J=>exact h.elim
   |ct J=>exact h.elim
 ·rw[if_neg hl] at h;exact h.elim
theorem dz:bW P w K mg base (fL P w) cm 0 f fd ps (jZ K cA (call aq T 0 cm n)):=
 ⟨λvs H Q E ⟨_,_,_,_,_,h⟩=>h.elim,λA outer s H args us vs Q E _ _ _ _ _ ⟨_,_,_,_,_,h⟩=>h.elim⟩
theorem WL{x qual:Str}{st:Stmt}{f:Addr}{fd:FuncData}{N ps:List Str}{k n:Nat}{cm:Bool}{df:Df}(F:mW K x qual st f fd)(S:cN N ps (au st))(hT:T n=some df)(hp:df.gP=ps.length)(hm:df.many=N.length)
  (hb:∀(cdv:Value) (A:Around) (outer:List Env) (s:Shared) (H:Hp) (E:XK),bD (k+1) A->
   vg (fD (fL P w) P w K mg base N qual (au st) f cdv A outer s H E cm) cA aq cm (λc=>call aq T k c) (λ_ C dx H'=>E C dx H') (aK st) df.body) :
  bW P w K mg base (fL P w) cm (k+1) f fd ps (jZ K cA (call aq T (k+1) cm n)):=by
 obtain⟨oc,od,kV,doc,pm,an,cdv,ct,osl,rfl,lk,jD⟩:=F.ex;refine U7 lk jD S (λvs H Q E ⟨U,ds,s,r,hS,h⟩=>?_) λA outer s H vs Q E hr ⟨U,ds,st',r,hS,h⟩=>?_
 ·rw[<-r.len,(WK hT h).1,hp]
 ·obtain⟨hl,h2⟩:=WK hT h;exact⟨_,hb cdv A outer s H E hr,U,_,st',WD r hl.symm hm,hS,h2⟩
theorem zl2{x qual:Str}{st:Stmt}{f:Addr}{fd:FuncData}{N ps:List Str}{k n:Nat}{cm:Bool}{df:Df}(F:mW K x qual st f fd)(S:cN N ps (au st))(hT:T n=some df)(hp:df.gP=ps.length)(hm:df.many=N.length)
  (hb:∀(cdv:Value) (A:Around) (outer:List Env) (s:Shared) (H:Hp) (E:XK),bD k (A.deeper (envOfC qual (au st) s.heap.objs.size f cdv))->
   vg (fD (fL P w) P w K mg base N qual (au st) f cdv A outer s H E cm) cA aq cm (λc=>call aq T k c) (λ_ C dx H'=>E C dx H') (aK st) df.body) :
  bW P w K mg base (fL P w) cm (k+1) f fd ps (jZ K cA (call aq T (k+1) cm n)):=WL F S hT hp hm λcdv A outer s H E hr=>hb cdv A outer s H E (hr.deeper _)
end
theorem zkf{K:W.Frag}{cA:Cl}{m:List Xv->M Xv}{H:Hp}{a:Addr}{ns:List Int}(hq:cM K H a (ns.map V.int))(hm:∃s',m [.d (.fl (ns.map D.int))] []=some (.ok (.d (.bl true)),s')) :
  jZ K cA m [.ref a] H (λv _=>v=.bl true) λ_ _ _=>False:=by
 have rs:∀(l:List Int) U,aB K cA U H (l.map D.int) (l.map V.int):=λl U=>by
  induction l with
  |nil=>exact .nil
  |cons i l ih=>exact .cons (.int i) ih
 have hl:LstAt K ⟨λ_=>False,[]⟩ H a (ns.map V.int):=by
  rcases hq with h|h
  ·exact .inl ⟨h,λz=>z⟩
  ·exact .inr (.inr h)
 refine⟨⟨λ_=>False,[]⟩,[.d (.fl (ns.map D.int))],[],.cons (.d (.fl hl (rs ns _))) .nil,⟨rfl,(λn o b e1 e2=>by simp at e1),Aq,(λb hb=>by cases hb),(λb z=>False.elim z)⟩,?_⟩;obtain⟨s',e⟩:=hm;unfold Run;rw[e];intro U' H' _ _ v rv;cases rv with
 |d rv=>cases rv;rfl
theorem zfw:Raises X (λ_ _ _ _=>False):=λ_ _ _ _ _ _ _ _ _ _ _ _ _ z=>z.elim
theorem vp(r:bD k A):A.units+60<cLine:=by have:=r.un;lia
noncomputable def aD:Expr->Bool
 |.Starred _ _=>false
 |_=>true
theorem bB(h:aD e=true):starEach (e::es) env=(false,eval e env)::starEach es env:=by
 cases e<;>first|rfl|cases h
theorem bA:∀{es:List Expr} {env:Env} {pos:Pos},es.all aD=true->(backTo pos (starEach es env)).any (·.1)=false
 |[],_,_,_=>rfl
 |e::es,env,pos,h=>by
  rw[xV,gA] at h;rw[bB h.1];show (false||(backTo pos (starEach es env)).any (·.1))=false;rw[bA h.2];rfl
theorem pB:∀{es:List Expr} {env:Env} {pos:Pos},es.all aD=true->(backTo pos (starEach es env)).all (λx=>!x.1)=true
 |[],_,_,_=>rfl
 |e::es,env,pos,h=>by
  rw[xV,gA] at h;rw[bB h.1];show (true&&(backTo pos (starEach es env)).all (λx=>!x.1))=true;rw[pB h.2];rfl
theorem vq(h1:aD e=true)(h2:es.all aD=true)(h3:decide (es.length<28)=true):((backTo pos (starEach (e::es) env)).all (λx=>!x.1)&&(backToKw pos (keywordEach [] env)).all (λx=>x.1.isSome)&&decide ((e::es).length+([]:List Keyword).length+(if ([]:List Keyword).isEmpty then 0 else 1)<30))=true:=by
 rw[pB (es:=e::es) (by rw[xV,h1,h2];rfl)];have:=jN h3;have z:(e::es).length+([]:List Keyword).length+(if ([]:List Keyword).isEmpty then 0 else 1)<30:=by
  show es.length+1+0+0<30
  lia
 rw[gF z];rfl
noncomputable def rQ(sc scope:Scope):Bool:=(match scope.kind with|.function=>true|_=>false)&&scope.names.all λy=>match y.2 with
 |.cell=>(match scope.names.lookup y.1 with|some .cell=>true|_=>false)
 |.free=>(match sc.names.lookup y.1 with|some .cell=>true|some .free=>true|_=>false)
 |.local=>(match scope.names.lookup y.1 with|some .local=>true|_=>false)
 |_=>true
theorem cY.of(h:rQ sc scope=true):cY sc scope:=by
 unfold rQ at h;rw[gA,ji] at h;obtain⟨h1,h2⟩:=h;refine⟨?_,λy hy z=>?_,λy hy z=>?_,λy hy z=>?_⟩
 ·split at h1
  ·assumption
  ·cases h1
 ·have:=h2 y hy;rw[z] at this;dsimp only at this;split at this
  ·assumption
  ·cases this
 ·have:=h2 y hy;rw[z] at this;dsimp only at this;split at this
  ·exact .inl (by assumption)
  ·exact .inr (by assumption)
  ·cases this
 ·have:=h2 y hy;rw[z] at this;dsimp only at this;split at this
  ·assumption
  ·cases this
noncomputable def frB(scope:Scope)(XN:List Str):List Str->List Nat->Bool
 |y::N,j::fr=>(match scope.names.lookup y with|some .free=>true|_=>false)&&decide (XN[j]?=some y)&&frB scope XN N fr
 |[],[]=>true
 |_,_=>false
theorem WM:∀{N:List Str} {fr:List Nat},frB scope XN N fr=true->N.length=fr.length/\∀(i:Nat) (y:Str) (j:Nat),N[i]?=some y->fr[i]?=some j->scope.names.lookup y=some .free/\XN[j]?=some y
 |[],[],_=>⟨rfl,λi y j h=>by simp at h⟩
 |[],_::_,h=>by cases h
 |_::_,[],h=>by cases h
 |y::N,j::fr,h=>by
  unfold frB at h;rw[gA,gA,Cw] at h;obtain⟨⟨h1,h2⟩,h3⟩:=h;obtain⟨l,q⟩:=WM h3;refine⟨by simp[l],λi z m e1 e2=>?_⟩;cases i with
  |zero=>
   simp at e1 e2;subst e1 e2;refine⟨?_,h2⟩;split at h1
   ·assumption
   ·cases h1
  |succ i=>exact q i z m (by simpa using e1) (by simpa using e2)
noncomputable def okN(x:Str):Bool:=!(x==("__debug__" : Str)) && !(x==("__classdict__" : Str)) && !decide (x="__name__")
theorem rR(h:okN x=true):(x==("__debug__" : Str))=false/\(x==("__classdict__" : Str))=false/\x≠"__name__":=by
 unfold okN at h;simp only[gA,Bool.not_eq_true',Lj] at h;exact⟨h.1.1,h.1.2,h.2⟩
theorem J7{env:Env}{k:NameKind}(hk:k≠.free):∀{names:List (Str×NameKind)} {x:Str},names.lookup x=some k->
  (names.map λ(n,k)=>if (k==NameKind.free&&env.scope.kind==.function&&env.kindOf n==some .cell) then (n,NameKind.cell) else (n,k)).lookup x=some k
 |[],x,h=>by simp at h
 |(n,q)::r,x,h=>by
  rw[nA] at h;rw[iU,nA];have hd:∀c:Bool,(if c=true then (n,NameKind.cell) else (n,q)).1=n:=λc=>by cases c<;>rfl
  rw[hd];by_cases z:x=n
  ·subst z;simp only[Aj] at h ⊢;cases h
   split
   ·rename_i y;simp only[gA,oJ] at y;exact absurd y.1.1 hk
   ·rfl
  ·have z':(x==n)=false:=by simpa using z
   simp only[z'] at h ⊢;exact J7 hk h
noncomputable def rT(K:W.Frag):Sp:=λvs H Q _=>∃(a:Addr) (ns:List Int),vs=[.ref a]/\cM K H a (ns.map V.int)/\ns.length<=63/\Only H/\∀H',Q (.bl true) H'
theorem zjm{K:W.Frag}{cA:Cl}{m:List Xv->M Xv}(hm:∀ns:List Int,ns.length<=63->∃s',m [.d (.fl (ns.map D.int))] []=some (.ok (.d (.bl true)),s'))(vs:List V)(H:Hp)(Q:VK)(E:XK)(h:rT K vs H Q E):jZ K cA m vs H Q E:=by
 obtain⟨a,ns,rfl,hq,hl,hO,k⟩:=h;obtain⟨U,ds,s,r1,r2,h⟩:=zkf (cA:=cA) (m:=m) hq (hm ns hl);refine⟨U,ds,s,r1,r2,?_⟩;unfold Run at h ⊢;split at h
 ·intro U' H' x r v rv;rw[h U' H' x r v rv];exact k H'
 ·exact λU' H' x r dx q=>(h U' H' x r dx q).elim
 ·exact h
theorem zB{K:W.Frag}{fd:FuncData}{p:Str}(h:∀a,bindArgs fd ⟨[a],[]⟩=pure [(p,a)]):Binds K fd [p] []:=.all λus hl=>by
 cases us with
 |nil=>cases hl
 |cons a r=>cases r with
  |nil=>exact h a
  |cons b r=>cases hl
theorem rW{K:W.Frag}{fd:FuncData}{p q:Str}(h:∀a b,bindArgs fd ⟨[a,b],[]⟩=pure [(p,a),(q,b)]):Binds K fd [p,q] []:=.all λus hl=>by
 cases us with
 |nil=>cases hl
 |cons a r=>cases r with
  |nil=>cases hl
  |cons b r=>cases r with
   |nil=>exact h a b
   |cons c r=>cases hl
theorem rY{K:W.Frag}{fd:FuncData}{p q t:Str}(h:∀a b c,bindArgs fd ⟨[a,b,c],[]⟩=pure [(p,a),(q,b),(t,c)]):Binds K fd [p,q,t] []:=.all λus hl=>by
 cases us with
 |nil=>cases hl
 |cons a r=>cases r with
  |nil=>cases hl
  |cons b r=>cases r with
   |nil=>cases hl
   |cons c r=>cases r with
    |nil=>exact h a b c
    |cons d r=>cases hl
theorem rZ{K:W.Frag}{fd:FuncData}{p q t u:Str}(h:∀a b c d,bindArgs fd ⟨[a,b,c,d],[]⟩=pure [(p,a),(q,b),(t,c),(u,d)]):Binds K fd [p,q,t,u] []:=.all λus hl=>by
 cases us with
 |nil=>cases hl
 |cons a r=>cases r with
  |nil=>cases hl
  |cons b r=>cases r with
   |nil=>cases hl
   |cons c r=>cases r with
    |nil=>cases hl
    |cons d r=>cases r with
     |nil=>exact h a b c d
     |cons e r=>cases hl
theorem zkZ:bootBuiltins "int"=some (.type "int"):=by decide +kernel
theorem ziZ:bootBuiltins "bool"=some (.type "bool"):=by decide +kernel
theorem J8:bootBuiltins "tuple"=some (.type "tuple"):=by decide +kernel
theorem ziF:bootBuiltins "list"=some (.type "list"):=by decide +kernel
structure JE(X:Cx)(cA:Cl)(aq:Nat->Nat->Bool)(aj:Bool)(F:Fn)(EX:XS)(e:Expr)(m:E):Prop where
 o:SE X cA aq aj F EX e m
structure JA(X:Cx)(cA:Cl)(aq:Nat->Nat->Bool)(aj:Bool)(F:Fn)(EX:XS)(e:List Expr)(m:Es):Prop where
 o:SA X cA aq aj F EX e m
structure JT(X:Cx)(cA:Cl)(aq:Nat->Nat->Bool)(aj:Bool)(F:Fn)(EX:XS)(e:Expr)(m:E):Prop where
 o:ST X cA aq aj F EX e m
structure JW(X:Cx)(cA:Cl)(aq:Nat->Nat->Bool)(aj:Bool)(F:Fn)(EX:XS)(e:Expr)(m:E):Prop where
 o:SW X cA aq aj F EX e m
structure JC(X:Cx)(cA:Cl)(aq:Nat->Nat->Bool)(aj:Bool)(F:Fn)(EX:XS)(e:List Expr)(m:Eo):Prop where
 o:Gz X cA aq aj F EX e m
structure JO(X:Cx)(cA:Cl)(aq:Nat->Nat->Bool)(aj:Bool)(F:Fn)(EX:XS)(e:Option Expr)(m:Eo):Prop where
 o:Gu X cA aq aj F EX e m
structure JI(X:Cx)(cA:Cl)(aq:Nat->Nat->Bool)(aj:Bool)(F:Fn)(EX:XS)(tg e:Expr)(m:Wk):Prop where
 o:SI X cA aq aj F EX tg e m
structure JG(X:Cx)(cA:Cl)(aq:Nat->Nat->Bool)(aj:Bool)(F:Bool->Fn)(EX:XS)(e:Expr)(m:Tg):Prop where
 o:SG X cA aq aj F EX e m
structure JS(X:Cx)(cA:Cl)(aq:Nat->Nat->Bool)(aj:Bool)(F:Bool->Fn)(EX:XS)(e:Stmt)(m:St):Prop where
 o:SS X cA aq aj F EX e m
structure JB(X:Cx)(cA:Cl)(aq:Nat->Nat->Bool)(aj:Bool)(F:Bool->Fn)(EX:XS)(e:List Stmt)(m:bU):Prop where
 o:vg X cA aq aj F EX e m
structure JK(X:Cx)(x:Str)(k:NameKind):Prop where
 o:X.env.scope.names.lookup x=some k
structure JP(X:Cx)(cA:Cl)(op:CmpOp)(p:Pr):Prop where
 o:∃r,dZ X (compareOp op) r/\bx X.K cA p (r2 r)
structure JQ(X:Cx)(cA:Cl)(op:Operator)(p:Pr):Prop where
 o:∃r,dZ X (binaryOp op) r/\bx X.K cA p (r2 r)
structure JN(X:Cx)(cA:Cl)(kx:Expr)(k:Kd):Prop where
 o:PE X kx (tC (Bq cA k))
structure JR(X:Cx)(EX:XS):Prop where
 o:Raises X EX
structure JH(X:Cx):Prop where
 o:PassesOwn (model X.prog X.w) X.A X.env X.xe
structure JY(X:Cx)(tg:Expr)(g:TG):Prop where
 o:PG X tg g
noncomputable def mX:NameKind->Bool
 |.local=>true
 |.cell=>true
 |_=>false
noncomputable def zE:NameKind->Bool
 |.local=>true
 |.cell=>true
 |.free=>true
 |_=>false
section
variable {X:Cx}{cA:Cl}{aq:Nat->Nat->Bool}{aj:Bool}{F:Fn}{EX:XS}{a b c d e:Expr}{A B C Dd E':E}{pos p p2 apos:Pos}{es:List Expr}{Xs:Es}{x y:Str}{k k':NameKind}{q q1 q2 q3:Pr}{fz:Bool}
theorem WQ(h:scope.names.lookup x=some k)(hk:(match k with|.free=>false|_=>true)=true):JK (X.blk scope cl N Cc s3 H3 fp ao) x k:=
 ⟨J7 (by intro z;subst z;cases hk) h⟩
theorem WR(i:Nat)(hN:X.N[i]?=some x)(h:JK X x k)(hv:zE k=true)(hd:okN x=true):JE X cA aq aj F EX (.Name x pos) (.v i):=
 ⟨VL i hN (by cases k<;>first|exact .inl h.o|exact .inr (.inl h.o)|exact .inr (.inr h.o)|cases hv) (rR hd).1 (rR hd).2.1⟩
theorem zn6(i:Nat)(hN:N[i]?=some x)(h:scope.names.lookup x=some .free)(hd:okN x=true):JE (X.blk scope cl N Cc s3 H3 fp ao) cA aq aj F EX (.Name x pos) (.v i):=
 ⟨VL i hN (.inr (Ju h)) (rR hd).1 (rR hd).2.1⟩
theorem aL{i j p}:JE X cA aq aj F EX (.Constant (.int i) j p) (.c (.int i)):=⟨zk1⟩
theorem lR{i j p}:JE X cA aq aj F EX (.Constant (.bool i) j p) (.c (.bl i)):=⟨zmP⟩
theorem zF{j p}:JE X cA aq aj F EX (.Constant .none j p) (.c .non):=⟨zlG⟩
theorem WT(h:∃t,X.mg x=some (.int i t))(hg:JK X x .globalImplicit)(hd:okN x=true):JE X cA aq aj F EX (.Name x pos) (.c (.int i)):=by
 obtain⟨t,h⟩:=h;exact⟨zja hg.o h (rR hd).1⟩
theorem qK:JQ X cA .Add .add:=⟨_,zgi,zkI⟩
theorem qL:JQ X cA .Sub .aq:=⟨_,zl9,zmb⟩
theorem zG:JQ X cA .Mult .mul:=⟨_,zkV,zlz⟩
theorem WW:JQ X cA .FloorDiv .fdiv:=⟨_,zi9,ziG⟩
theorem Bt:JQ X cA .Mod .mod:=⟨_,zj3,zl8⟩
theorem zml:JQ X cA .Pow .pow:=⟨_,zkz,zlJ⟩
theorem dG(h:JQ X cA op q)(ha:JE X cA aq aj F EX a A)(hb:JE X cA aq aj F EX b B):JE X cA aq aj F EX (.BinOp a op b pos) (.pr fz q (.cons A (.cons B .nil))):=by
 obtain⟨r,h1,h2⟩:=h.o;exact⟨zkw h1 h2 ha.o hb.o⟩
theorem znq(ha:JE X cA aq aj F EX a A):JE X cA aq aj F EX (.UnaryOp .USub a pos) (.pr true .neg (.cons A .nil)):=⟨zmQ Ut zlO ha.o⟩
theorem zmG(ha:JE X cA aq aj F EX a A):JE X cA aq aj F EX (.UnaryOp .Not a pos) (.not A):=⟨zk9 ha.o⟩
theorem wW{op}(ha:JE X cA aq aj F EX a A):JE X cA aq aj F EX (.BoolOp op [a] pos) A:=⟨zki ha.o⟩
theorem wX{rest:List Expr}(ha:JE X cA aq aj F EX a A)(hb:JE X cA aq aj F EX (.BoolOp .And (b::rest) pos) B):JE X cA aq aj F EX (.BoolOp .And (a::b::rest) pos) (.and A B):=⟨zks ha.o hb.o⟩
theorem zn4{rest:List Expr}(ha:JE X cA aq aj F EX a A)(hb:JE X cA aq aj F EX (.BoolOp .Or (b::rest) pos) B):JE X cA aq aj F EX (.BoolOp .Or (a::b::rest) pos) (.or A B):=⟨zno ha.o hb.o⟩
theorem Bu{k:Nat}(hr:bD k X.A):JP X cA .Eq .eq:=⟨_,zld (vp hr),zmw⟩
theorem J9{k:Nat}(hr:bD k X.A):JP X cA .NotEq .ne:=⟨_,zj5 (vp hr),zmI⟩
theorem Bv{k:Nat}(hr:bD k X.A):JP X cA .Lt .lt:=⟨_,DR.or (zkt (by have:=vp hr;lia)),zmF⟩
theorem WX:JP X cA .LtE .le:=⟨_,zmm,zmM⟩
theorem Qi:JP X cA .Gt .gt:=⟨_,zmZ,zmy⟩
theorem WY:JP X cA .GtE .ge:=⟨_,zmN,zm6⟩
theorem Qj{k:Nat}(hr:bD k X.A):JP X cA .In .inn:=⟨_,zkn (vp hr),zmv⟩
noncomputable def mY:Expr->Bool
 |.Set _ _ _=>false
 |_=>true
theorem vA(h:mY b=true):behindInMarks op b=false:=by cases b<;>first|rfl|cases h
theorem Bw(ho:JP X cA op q)(ha:JE X cA aq aj F EX a A)(hb:JE X cA aq aj F EX b B)(h1:mY b=true:=by rfl):JE X cA aq aj F EX (.Compare a [op] [b] pos) (.pr true q (.cons A (.cons B .nil))):=by
 obtain⟨r,h2,h3⟩:=ho.o;exact⟨zlW h2 h3 ha.o hb.o (vA h1)⟩
theorem lU(ho:JP X cA op q)(ha:JE X cA aq aj F EX a A)(hb:JE X cA aq aj F EX b B)(h1:mY b=true:=by rfl):JT X cA aq aj F EX (.Compare a [op] [b] pos) (.pr true q (.cons A (.cons B .nil))):=by
 obtain⟨r,h2,h3⟩:=ho.o;exact⟨zj8 h2 h3 ha.o hb.o (vA h1)⟩
theorem zm5(h1:JP X cA op q1)(h2:JP X cA op' q2)(ha:JE X cA aq aj F EX a A)(hb:JE X cA aq aj F EX b B)(hc:JE X cA aq aj F EX c C)(hm:mY c=true:=by rfl):JE X cA aq aj F EX (.Compare a [op,op'] [b,c] pos) (.wH q1 q2 A B C):=by
 obtain⟨r,h3,h4⟩:=h1.o;obtain⟨r',h5,h6⟩:=h2.o;exact⟨zlK h3 h4 h5 h6 ha.o hb.o hc.o (vA hm)⟩
theorem W0{j p}(ha:JE X cA aq aj F EX a A):JE X cA aq aj F EX (.Compare a [.Is] [.Constant .none j p] pos) (.pr true .rB (.cons A .nil)):=⟨zkJ ha.o⟩
theorem zkM{j p}(ha:JE X cA aq aj F EX a A):JE X cA aq aj F EX (.Compare a [.IsNot] [.Constant .none j p] pos) (.pr true .qF (.cons A .nil)):=⟨ziK ha.o⟩
theorem W2{j p}(ha:JE X cA aq aj F EX a A):JT X cA aq aj F EX (.Compare a [.Is] [.Constant .none j p] pos) (.pr true .rB (.cons A .nil)):=⟨zky ha.o⟩
theorem J_{j p}(ha:JE X cA aq aj F EX a A):JT X cA aq aj F EX (.Compare a [.IsNot] [.Constant .none j p] pos) (.pr true .qF (.cons A .nil)):=⟨zjC ha.o⟩
noncomputable def wY:Expr->Bool
 |.Call _ _ _ _=>true
 |.Name _ _=>true
 |.Subscript _ _ _=>true
 |.Attribute _ _ _=>true
 |_=>false
theorem jf(ha:JE X cA aq aj F EX a A)(he:wY a=true:=by rfl):JT X cA aq aj F EX a A:=⟨zjW ha.o (by cases a<;>first|(intro _;rfl)|cases he)⟩
theorem mZ(ha:JT X cA aq aj F EX a A):JT X cA aq aj F EX (.UnaryOp .Not a pos) (.not A):=⟨zlD ha.o⟩
theorem zJ(ha:JT X cA aq aj F EX a A):JW X cA aq aj F EX (.BoolOp .And [a] pos) A:=⟨ziz ha.o⟩
theorem Qk(ha:JT X cA aq aj F EX a A):JW X cA aq aj F EX (.BoolOp .Or [a] pos) A:=⟨zl7 ha.o⟩
theorem zK{rest:List Expr}(ha:JT X cA aq aj F EX a A)(hb:JW X cA aq aj F EX (.BoolOp .And (b::rest) pos) B):JW X cA aq aj F EX (.BoolOp .And (a::b::rest) pos) (.and A B):=⟨zke ha.o hb.o⟩
theorem Ql{rest:List Expr}(ha:JT X cA aq aj F EX a A)(hb:JW X cA aq aj F EX (.BoolOp .Or (b::rest) pos) B):JW X cA aq aj F EX (.BoolOp .Or (a::b::rest) pos) (.or A B):=⟨zmJ ha.o hb.o⟩
theorem tX(h:JW X cA aq aj F EX a A):JT X cA aq aj F EX a A:=⟨zn8 h.o⟩
theorem Qm(hc:JT X cA aq aj F EX c C)(ha:JE X cA aq aj F EX a A)(hb:JE X cA aq aj F EX b B):JE X cA aq aj F EX (.IfExp c a b pos) (.ite C A B):=⟨zj7 hc.o ha.o hb.o⟩
theorem aH:JA X cA aq aj F EX [] .nil:=⟨zkO⟩
theorem aA(ha:JE X cA aq aj F EX a A)(hr:JA X cA aq aj F EX es Xs)(hs:aD a=true:=by rfl):JA X cA aq aj F EX (a::es) (.cons A Xs):=⟨ziI ha.o hr.o (bB hs)⟩
theorem fK{k}(ha:JA X cA aq aj F EX es Xs)(hz:decide (Es.len Xs<=sizeLine)=true:=by rfl):JE X cA aq aj F EX (.Tuple es k pos) (.tup Xs):=⟨zkU ha.o (jN hz)⟩
theorem vB(ha:JA X cA aq aj F EX es Xs)(hz:decide (Es.len Xs<=sizeLine)=true:=by rfl):JE X cA aq aj F EX (.List es pos) (.lst fz Xs):=⟨zlL ha.o (jN hz)⟩
noncomputable def su:Expr->Bool
 |.Constant _ _ _=>true
 |.Name _ _=>true
 |.Call _ _ _ _=>true
 |.BinOp _ _ _ _=>true
 |.UnaryOp _ _ _=>true
 |.Subscript _ _ _=>true
 |.IfExp _ _ _ _=>true
 |.Attribute _ _ _=>true
 |.Compare _ _ _ _=>true
 |.BoolOp _ _ _=>true
 |_=>false
theorem cV(ha:JE X cA aq aj F EX a A)(hb:JE X cA aq aj F EX b B)(hs:su b=true:=by rfl):JE X cA aq aj F EX (.Subscript a b pos) (.pr true .ix (.cons A (.cons B .nil))):=⟨zm1 zmA ha.o hb.o (by cases b<;>first|(intro _ _;rfl)|cases hs)⟩
theorem Qn:JO X cA aq aj F EX none .no:=⟨znc⟩
theorem GD(ha:JE X cA aq aj F EX a A):JO X cA aq aj F EX (some a) (.yes A):=⟨zkN ha.o⟩
theorem Ka{lo hi:Option Expr}{Lo Hi:Eo}(ha:JE X cA aq aj F EX a A)(hl:JO X cA aq aj F EX lo Lo)(hh:JO X cA aq aj F EX hi Hi):JE X cA aq aj F EX (.Subscript a (.Slice lo hi none p2) pos) (.sl fz A Lo Hi):=⟨zmW ha.o hl.o hh.o⟩
theorem Kc(ha:JE X cA aq aj F EX a A):JE X cA aq aj F EX (.Subscript a (.Slice none none (some (.UnaryOp .USub (.Constant (.int 1) j p3) p4)) p2) pos) (.pr true .rev (.cons A .nil)):=⟨zkk ha.o⟩
theorem zmc(f:Nat){cm:Bool}{k:Nat}{fa:Addr}{fd:FuncData}{ps:List Str}(Fo:bW X.prog X.w X.K X.mg X.base (fL X.prog X.w) cm k fa fd ps (jZ X.K cA (F f)))(iV:cm=true->X.aj=true)(hr:bD k X.A)(hm:X.mg x=some (.ref fa))(hk:PySem.W.keepIn X.K (.ref fa)=true)(hb:Binds X.K fd ps [])(R:JR X EX)(hg:JK X x .globalImplicit)
  (ha:JA X cA aq aj F EX (e::es) Xs) (hd:okN x=true) (he:aD e=true:=by rfl) (hpl:es.all aD=true:=by rfl) :
  JE X cA aq aj F EX (.Call (.Name x p) (e::es) [] pos) (.call f Xs):=⟨zjA Fo iV hr hg.o hm hk hb R.o ha.o (rR hd).1 (bB he) (bA hpl)⟩
theorem Ke(hv:Bq cA kd=.ty T)(hm:X.mg x=none)(hb:bootBuiltins x=some (.type T))(hg:JK X x .globalImplicit)(hd:okN x=true):JN X cA (.Name x pos) kd:=⟨λao s Z H Q I h=>by
 rw[hv] at h;exact uH I hg.o hm hb ⟨.ty T,H,I,rfl,h⟩ (rR hd).2.2 (rR hd).1⟩
theorem Kf(h0:(rK kd).isSome=true)(hm:X.mg "isinstance"=none)(hg:JK X "isinstance" .globalImplicit)(ha:JE X cA aq aj F EX a A)(hk:JN X cA kx kd)(h1:aD a=true:=by rfl)(h2:aD kx=true:=by rfl):JE X cA aq aj F EX (.Call (.Name "isinstance" p) [a,kx] [] pos) (.o7 A kd):=
 ⟨zlp (λz=>by rw[z] at h0;cases h0) hg.o hm ha.o hk.o (bB h1) (bB h2) (bA (by rw[xV,h2];rfl))⟩
theorem vC(hm:X.mg "len"=none)(hg:JK X "len" .globalImplicit)(ha:JA X cA aq aj F EX (e::es) Xs)(he:aD e=true:=by rfl)(hpl:es.all aD=true:=by rfl):JE X cA aq aj F EX (.Call (.Name "len" p) (e::es) [] pos) (.pr fz .len Xs):=⟨wQ zc6 zjZ hg.o hm PySem.boot_len ha.o (by decide) (by decide) (bB he) (bA hpl)⟩
theorem znm(hm:X.mg "abs"=none)(hg:JK X "abs" .globalImplicit)(ha:JA X cA aq aj F EX (e::es) Xs)(he:aD e=true:=by rfl)(hpl:es.all aD=true:=by rfl):JE X cA aq aj F EX (.Call (.Name "abs" p) (e::es) [] pos) (.pr fz .abs Xs):=⟨wQ zgU zk2 hg.o hm PyProof.Rows.boot_abs ha.o (by decide) (by decide) (bB he) (bA hpl)⟩
theorem W3(hc:X.aj=true)(hm:X.mg "max"=none)(hg:JK X "max" .globalImplicit)(ha:JA X cA aq aj F EX (e::es) Xs)(he:aD e=true:=by rfl)(hpl:es.all aD=true:=by rfl):JE X cA aq aj F EX (.Call (.Name "max" p) (e::es) [] pos) (.pr fz .max2 Xs):=⟨wQ (zfO hc) zis hg.o hm PyProof.Rows.boot_max ha.o (by decide) (by decide) (bB he) (bA hpl)⟩
theorem W4(hc:X.aj=true)(hm:X.mg "min"=none)(hg:JK X "min" .globalImplicit)(ha:JA X cA aq aj F EX (e::es) Xs)(he:aD e=true:=by rfl)(hpl:es.all aD=true:=by rfl):JE X cA aq aj F EX (.Call (.Name "min" p) (e::es) [] pos) (.pr fz .min2 Xs):=⟨wQ (zge hc) ziJ hg.o hm PyProof.Rows.boot_min ha.o (by decide) (by decide) (bB he) (bA hpl)⟩
theorem zl6(hm:X.mg "int"=none)(hg:JK X "int" .globalImplicit)(ha:JA X cA aq aj F EX (e::es) Xs)(he:aD e=true:=by rfl)(hpl:es.all aD=true:=by rfl):JE X cA aq aj F EX (.Call (.Name "int" p) (e::es) [] pos) (.pr fz .uX Xs):=⟨Py zgl zif hg.o hm PyProof.Rows.boot_int ha.o (by decide) (by decide) (bB he) (bA hpl)⟩
theorem zhw(hm:X.mg "divmod"=none)(hg:JK X "divmod" .globalImplicit)(ha:JA X cA aq aj F EX (e::es) Xs)(he:aD e=true:=by rfl)(hpl:es.all aD=true:=by rfl):JE X cA aq aj F EX (.Call (.Name "divmod" p) (e::es) [] pos) (.pr fz .divmod Xs):=⟨wQ zdj zfC hg.o hm PyProof.Rows.boot_divmod ha.o (by decide) (by decide) (bB he) (bA hpl)⟩
theorem Kg(hc:X.aj=true)(hm:X.mg "all"=none)(hg:JK X "all" .globalImplicit)(ha:JA X cA aq aj F EX (e::es) Xs)(he:aD e=true:=by rfl)(hpl:es.all aD=true:=by rfl):JE X cA aq aj F EX (.Call (.Name "all" p) (e::es) [] pos) (.pr fz .all Xs):=⟨wQ (zfh hc) zjY hg.o hm PyProof.Rows.boot_all ha.o (by decide) (by decide) (bB he) (bA hpl)⟩
theorem zlP(hm:X.mg "list"=none)(hg:JK X "list" .globalImplicit)(ha:JA X cA aq aj F EX (e::es) Xs)(he:aD e=true:=by rfl)(hpl:es.all aD=true:=by rfl):JE X cA aq aj F EX (.Call (.Name "list" p) (e::es) [] pos) (.pr fz .list Xs):=⟨Py zdb ziD hg.o hm ziF ha.o (by decide) (by decide) (bB he) (bA hpl)⟩
theorem tY(hm:X.mg "tuple"=none)(hg:JK X "tuple" .globalImplicit)(ha:JA X cA aq aj F EX (e::es) Xs)(he:aD e=true:=by rfl)(hpl:es.all aD=true:=by rfl):JE X cA aq aj F EX (.Call (.Name "tuple" p) (e::es) [] pos) (.pr fz .tuple Xs):=⟨Py zcg zgG hg.o hm J8 ha.o (by decide) (by decide) (bB he) (bA hpl)⟩
theorem Qo(ho:JE X cA aq aj F EX a A)(hb:JE X cA aq aj F EX b B)(mF:attributeBase a "append" X.env (eval a X.env)=eval a X.env:=by rfl)(mH:(apos.endLine==pos.line)=true:=by rfl)(hs:aD b=true:=by rfl) :
  JE X cA aq aj F EX (.Call (.Attribute a "append" apos) [b] [] pos) (.push A B):=⟨zjR ho.o hb.o mF (vq hs rfl rfl) mH (bB hs) rfl⟩
theorem pC:JC X cA aq aj F EX [] .no:=⟨zkH⟩
theorem Kh(h:JT X cA aq aj F EX c C):JC X cA aq aj F EX [c] (.yes C):=⟨zit h.o⟩
theorem ql(ha:JE X cA aq aj F EX a A):JI X cA aq aj F EX tg a (.seq A):=⟨zlF ha.o⟩
theorem zn9(hmg:X.mg "range"=none)(n8:JK X "range" .globalImplicit)(ha:JE X cA aq aj F EX a A)(hb:JE X cA aq aj F EX b B)(h1:aD a=true:=by rfl)(h2:aD b=true:=by rfl):JI X cA aq aj F EX tg (.Call (.Name "range" p) [a,b] [] pos) (.rg A B):=⟨zmo n8.o hmg ha.o hb.o (bB h1) (bB h2)⟩
theorem vD(hmg:X.mg "range"=none)(n8:JK X "range" .globalImplicit)(hb:JE X cA aq aj F EX b B)(h2:aD b=true:=by rfl):JI X cA aq aj F EX tg (.Call (.Name "range" p) [b] [] pos) (.rg (.c (.int 0)) B):=⟨zlw n8.o hmg hb.o (bB h2)⟩
noncomputable def GF(scope:Scope)(x:Str):Bool:=match scope.names.lookup x with
 |some .local=>true
 |some .cell=>true
 |_=>false
theorem BJ(h:GF scope x=true):Loc (X.blk scope cl N Cc s3 H3 fp ao).env.scope x/\((X.blk scope cl N Cc s3 H3 fp ao).fn x=true\/(X.blk scope cl N Cc s3 H3 fp ao).env.scope.names.lookup x=some .local):=by
 unfold GF at h;split at h
 ·rename_i z;exact⟨.inl (lookup_relabel_local z),.inr (lookup_relabel_local z)⟩
 ·rename_i z;exact⟨.inr (J7 (by intro y;cases y) z),.inl (by show (scope.names.lookup x==some NameKind.cell)=true;rw[z];rfl)⟩
 ·cases h
theorem pD(i:Nat)(GJ:N.Nodup)(hi:N[i]?=some x)(hl:GF scope x=true):JY (X.blk scope cl N Cc s3 H3 fp ao) (.Name x tp) (dD i):=
 ⟨Jh GJ hi (BJ hl).1 (BJ hl).2⟩
theorem Kl(i j:Nat)(hc:X.aj=true)(GJ:N.Nodup)(hi:N[i]?=some x)(hj:N[j]?=some y)(hl:GF scope x=true)(rP:GF scope y=true):JY (X.blk scope cl N Cc s3 H3 fp ao) (.Tuple [.Name x px,.Name y py] kt tp) (qY X.K 2 (gH (dD i) (gH (dD j) qX))):=
 ⟨Qg (X:=X.blk scope cl N Cc s3 H3 fp ao) hc GJ hi hj (BJ hl).1 (BJ rP).1 (BJ hl).2 (BJ rP).2⟩
theorem BK{scope:Scope}{XN:List Str}{M0 N:List Str}{fr:List Nat}(h:frB scope XN N fr=true):(M0++N).length=M0.length+fr.length/\∀(i:Nat) (y:Str) (j:Nat),(M0++N)[M0.length+i]?=some y->fr[i]?=some j->scope.names.lookup y=some .free/\XN[j]?=some y:=by
 obtain⟨l,q⟩:=WM h;refine⟨by rw[lV,l],λi y j e1 e2=>q i y j ?_ e2⟩;rw[oE (by lia)] at e1;rw[show M0.length+i-M0.length=i by lia] at e1;exact e1
theorem m_{elt iter tg:Expr}{ifs:List Expr}{scope:Scope}{cond:Eo}{cU:List Nat}{g:TG}{w:Wk}(sc:Scope)(XN M0 N:List Str)(fr:List Nat)(hc:X.aj=true)(Qp:X.env.scope=sc)(vo:X.N=XN)(hB:rQ sc scope=true)(hf:frB scope XN N fr=true)(hT:lJ X.K cA g cU)(iJ:cU.all (λi=>decide (i<M0.length))=true)
  (hi:JI X cA aq aj F EX tg iter w) (hg:∀cl C s3 H3 fp ao,JY (X.blk scope cl (M0++N) C s3 H3 fp ao) tg g)
  (ht:∀cl C s3 H3 fp ao,JC (X.blk scope cl (M0++N) C s3 H3 fp ao) cA aq aj F (λ_ _ _ _=>False) ifs cond) (he:∀cl C s3 H3 fp ao,JE (X.blk scope cl (M0++N) C s3 H3 fp ao) cA aq aj F (λ_ _ _ _=>False) elt B)
  (hs:∀x,foldedSetIterable iter X.env x=pure x:=by intro _;rfl):JE X cA aq aj F EX (.ListComp elt [⟨tg,iter,ifs,0⟩] scope pos) (.comp fz B cU w fr M0.length cond):=
 ⟨Wy hc (cY.of (Qp▸hB)) hi.o (BK (vo▸hf)).1 (BK (vo▸hf)).2 (λa b c d e f=>(hg a b c d e f).o) hT (λi hi=>jN (ji.mp iJ i hi)) (λa b c d e f=>(ht a b c d e f).o) (λa b c d e f=>(he a b c d e f).o) hs⟩
theorem Kaa{scope dR:Scope}{env:Env}(h:cY scope dR):cY (relabel scope env) dR:=⟨h.kind,h.Vn,λy hy z=>by
 rcases h.free y hy z with q|q
 ·exact .inl (J7 (by intro y;cases y) q)
 ·exact Ju q,h.loc⟩
theorem zi2{elt iter tg:Expr}{ifs:List Expr}{scope dR:Scope}{cond:Eo}{cU:List Nat}{g:TG}{w:Wk}{cl:List (Str×Addr)}{wZ:List Str}{Cc:Addr}{s3:Shared}{H3:Hp}{fp:List Addr}{ao:List (Addr×Obj)}(XN M0 N:List Str)(fr:List Nat)(hc:X.aj=true)(vo:wZ=XN)(hB:rQ scope dR=true)(hf:frB dR XN N fr=true)(hT:lJ X.K cA g cU)(iJ:cU.all (λi=>decide (i<M0.length))=true)
  (hi:JI (X.blk scope cl wZ Cc s3 H3 fp ao) cA aq aj F EX tg iter w) (hg:∀cl2 C s3' GK fp' iG,JY ((X.blk scope cl wZ Cc s3 H3 fp ao).blk dR cl2 (M0++N) C s3' GK fp' iG) tg g)
  (ht:∀cl2 C s3' GK fp' iG,JC ((X.blk scope cl wZ Cc s3 H3 fp ao).blk dR cl2 (M0++N) C s3' GK fp' iG) cA aq aj F (λ_ _ _ _=>False) ifs cond) (he:∀cl2 C s3' GK fp' iG,JE ((X.blk scope cl wZ Cc s3 H3 fp ao).blk dR cl2 (M0++N) C s3' GK fp' iG) cA aq aj F (λ_ _ _ _=>False) elt B)
  (hs:∀x,foldedSetIterable iter (X.blk scope cl wZ Cc s3 H3 fp ao).env x=pure x:=by intro _;rfl):JE (X.blk scope cl wZ Cc s3 H3 fp ao) cA aq aj F EX (.ListComp elt [⟨tg,iter,ifs,0⟩] dR pos) (.comp fz B cU w fr M0.length cond):=by
 subst vo;exact⟨Wy (X:=X.blk scope cl wZ Cc s3 H3 fp ao) hc (Kaa (cY.of hB)) hi.o (BK hf).1 (BK hf).2 (λa b c d e f=>(hg a b c d e f).o) hT (λi hi=>jN (ji.mp iJ i hi)) (λa b c d e f=>(ht a b c d e f).o) (λa b c d e f=>(he a b c d e f).o) hs⟩
theorem GP:JR X (λ_ _ _ _=>False):=⟨zfw⟩
theorem bM{P:Program}{w:World}{K:W.Frag}{mg:Str->Option Value}{base:Heap}{N:List Str}{qual:Str}{scope:Scope}{f:Addr}{cd:Value}{A:Around}{outer:List Env}{s:Shared}{H:Hp}{E:XK}{cm:Bool} :
  JR (fD (fL P w) P w K mg base N qual scope f cd A outer s H E cm) (λ_ C dx H'=>E C dx H'):=⟨zeW⟩
theorem vG{CX:qC}{P:Program}{w:World}{K:W.Frag}{mg:Str->Option Value}{base:Heap}{N:List Str}{qual:Str}{scope:Scope}{f:Addr}{cd:Value}{A:Around}{outer:List Env}{s:Shared}{H:Hp}{E:XK}{cm:Bool} :
  JH (fD CX P w K mg base N qual scope f cd A outer s H E cm):=⟨PassesOwn.leaving⟩
end
section
variable {X:Cx}{cA:Cl}{aq:Nat->Nat->Bool}{aj:Bool}{F:Bool->Fn}{EX:XS}{a b c d e:Expr}{A B C:E}{pos p p2:Pos}{st:Stmt}{sts body orelse:List Stmt}{m:St}{ms mb me mh:bU}{es:List Expr}{Xs:Es}{x y n:Str}{k k':NameKind}
theorem zL(h:JK X x k)(hv:mX k=true):Loc X.env.scope x:=by cases k<;>first|exact .inl h.o|exact .inr h.o|cases hv
theorem zM(h:JK X x k)(hv:X.fn x=true\/k=.local):X.fn x=true\/X.env.scope.names.lookup x=some .local:=by
 rcases hv with hv|hv
 ·exact .inl hv
 ·subst hv;exact .inr h.o
theorem aM:JB X cA aq aj F EX [] .nil:=⟨zi0⟩
theorem aG(h1:JS X cA aq aj F EX st m)(h2:JB X cA aq aj F EX sts ms):JB X cA aq aj F EX (st::sts) (.cons m ms):=⟨zgF h1.o h2.o⟩
theorem GQ:JS X cA aq aj F EX st .no:=⟨znl⟩
theorem vH(ha:JE X cA aq aj (F aj) EX a A)(hs:swapsWith a none pos.line X.env=pure false:=by rfl):JS X cA aq aj F EX (.Expr a pos) (.ex A):=⟨zmE ha.o hs⟩
theorem bQ(ha:JE X cA aq aj (F aj) EX a A):JS X cA aq aj F EX (.Return (some a) pos) (.ret A):=⟨zlH ha.o⟩
theorem fQ(i:Nat)(hN:X.N.Nodup)(hi:X.N[i]?=some x)(hx:JK X x k)(hl:mX k=true)(ha:JE X cA aq aj (F aj) EX a A)(hs:swapsWith a (some (.Name x p)) pos.line X.env=pure false:=by rfl)(hf:X.fn x=true\/k=.local:=by first|exact .inl rfl|exact .inr rfl):JS X cA aq aj F EX (.Assign [.Name x p] a pos) (.asg (.nm i) A):=
 ⟨zj2 hN hi (zL hx hl) ha.o hs (zM hx hf)⟩
theorem zkj{elt iter tg:Expr}{ifs:List Expr}{scope:Scope}{cond:Eo}{cU:List Nat}{g:TG}{w:Wk}{fz:Bool}{py spos:Pos}(i:Nat)(sc:Scope)(XN M0 N:List Str)(fr:List Nat)(hN:X.N.Nodup)(wC:X.N[i]?=some y)(hx:JK X y k)(hl:mX k=true)(hc:X.aj=true)(Qp:X.env.scope=sc)(vo:X.N=XN)(hB:rQ sc scope=true)(hf:frB scope XN N fr=true)(hT:lJ X.K cA g cU)(iJ:cU.all (λi=>decide (i<M0.length))=true)
  (hi:JI X cA aq aj (F aj) EX tg iter w) (hg:∀cl C s3 H3 fp ao,JY (X.blk scope cl (M0++N) C s3 H3 fp ao) tg g)
  (ht:∀cl C s3 H3 fp ao,JC (X.blk scope cl (M0++N) C s3 H3 fp ao) cA aq aj (F aj) (λ_ _ _ _=>False) ifs cond) (he:∀cl C s3 H3 fp ao,JE (X.blk scope cl (M0++N) C s3 H3 fp ao) cA aq aj (F aj) (λ_ _ _ _=>False) elt B)
  (Fl:swapsWith (.ListComp elt [⟨tg,iter,ifs,0⟩] scope pos) (some (.Name y py)) spos.line X.env=pure true:=by rfl) (hff:X.fn y=true\/k=.local:=by first|exact .inl rfl|exact .inr rfl) (hs:∀x,foldedSetIterable iter X.env x=pure x:=by intro _;rfl) :
  JS X cA aq aj F EX (.Assign [.Name y py] (.ListComp elt [⟨tg,iter,ifs,0⟩] scope pos) spos) (.asg (.nm i) (.comp fz B cU w fr M0.length cond)):=
 ⟨zjI hc hN wC (zL hx hl) (zM hx hff) (cY.of (Qp▸hB)) hi.o (BK (vo▸hf)).1 (BK (vo▸hf)).2 (λa b c d e f=>(hg a b c d e f).o) hT (λi hi=>jN (ji.mp iJ i hi)) (λa b c d e f=>(ht a b c d e f).o) (λa b c d e f=>(he a b c d e f).o) Fl hs⟩
theorem zN(i j:Nat){k0}(hc:X.aj=true)(fH:aj=true)(hN:X.N.Nodup)(hi:X.N[i]?=some x)(hj:X.N[j]?=some y)(hx:JK X x k)(hy:JK X y k')(Qq:mX k=true)(Qs:mX k'=true)(ha:JE X cA aq aj (F aj) EX a A)
  (vh:X.fn x=true\/k=.local:=by first|exact .inl rfl|exact .inr rfl) (vm:X.fn y=true\/k'=.local:=by first|exact .inl rfl|exact .inr rfl)
  (hs:swapsWithSole [.Tuple [.Name x px,.Name y py] k0 pt] a pos.line X.env=pure false:=by rfl) (hw:swappedStores [.Tuple [.Name x px,.Name y py] k0 pt] a X.env=pure none:=by rfl) (h1:(assignEach [.Tuple [.Name x px,.Name y py] k0 pt] X.env).map (·.2)=[assign (.Tuple [.Name x px,.Name y py] k0 pt) X.env]:=by rfl) :
  JS X cA aq aj F EX (.Assign [.Tuple [.Name x px,.Name y py] k0 pt] a pos) (.asg (.tp [i,j]) A):=⟨zjJ hc fH hN hi hj (zL hx Qq) (zL hy Qs) (zM hx vh) (zM hy vm) ha.o hs hw h1⟩
theorem Km(hO:JE X cA aq aj (F aj) EX oo O)(hI:JE X cA aq aj (F aj) EX ii I')(ha:JE X cA aq aj (F aj) EX a A)
  (Qh:∀v,assign (.Subscript oo ii p) X.env v=(do
   let obj <-holding [v] (eval oo X.env)
   let at_ <-holding [v,obj] (eval ii X.env)
   standAt p
   holding [v,obj,at_] (setItem obj at_ v)
   release [v,obj,at_] []):=by intro _;rfl) (hs:swapsWithSole [.Subscript oo ii p] a pos.line X.env=pure false:=by rfl) (hw:swappedStores [.Subscript oo ii p] a X.env=pure none:=by rfl)
  (h1:(assignEach [.Subscript oo ii p] X.env).map (·.2)=[assign (.Subscript oo ii p) X.env]:=by rfl):JS X cA aq aj F EX (.Assign [.Subscript oo ii p] a pos) (.asg (.aq O I') A):=⟨zln hO.o hI.o ha.o Qh hs hw h1⟩
theorem fC(hc:JT X cA aq aj (F aj) EX c C)(ht:JB X cA aq aj F EX body mb)(he:JB X cA aq aj F EX orelse me):JS X cA aq aj F EX (.If c body orelse pos) (.iff C mb me):=⟨zm2 hc.o ht.o he.o⟩
theorem BL(i:Nat)(hN:X.N.Nodup)(hi:X.N[i]?=some x)(hx:JK X x k)(hl:mX k=true)(hf:X.fn x=true\/k=.local:=by first|exact .inl rfl|exact .inr rfl):JG X cA aq aj F EX (.Name x pos) (.nm i):=⟨zi3 hN hi (zL hx hl) (zM hx hf)⟩
theorem Qt(i j:Nat){k0}(hc:X.aj=true)(fH:aj=true)(hN:X.N.Nodup)(hi:X.N[i]?=some x)(hj:X.N[j]?=some y)(hx:JK X x k)(hy:JK X y k')(Qq:mX k=true)(Qs:mX k'=true)(vh:X.fn x=true\/k=.local:=by first|exact .inl rfl|exact .inr rfl)(vm:X.fn y=true\/k'=.local:=by first|exact .inl rfl|exact .inr rfl) :
  JG X cA aq aj F EX (.Tuple [.Name x px,.Name y py] k0 pos) (.tp [i,j]):=⟨zia hc fH hN hi hj (zL hx Qq) (zL hy Qs) (zM hx vh) (zM hy vm)⟩
theorem vI(hp:JH X)(hc:X.aj=true)(fH:aj=true)(ha:JI X cA aq aj (F aj) EX tg a w)(hg:JG X cA aq aj F EX tg t)(hb:JB X cA aq aj F EX body mb)(hs:∀x,foldedSetIterable a X.env x=pure x:=by intro _;rfl):JS X cA aq aj F EX (.For tg a body [] pos) (.fr t w mb):=
 ⟨zk0 hp.o hc fH ha.o hg.o hb.o hs⟩
end
theorem W5{P:Program}{w:World}{K:W.Frag}{mg:Str->Option Value}{base:Heap}{cA:Cl}{aq:Nat->Nat->Bool}{T:Nat->Option Df}{x qual:Str}{st:Stmt}{f:Addr}{fd:FuncData}{N ps:List Str}{k n:Nat}{cm:Bool}{df:Df}(F:mW K x qual st f fd)(S:cN N ps (au st))(hT:T n=some df)(hp:df.gP=ps.length)(hm:df.many=N.length)
  (hb:∀(cdv:Value) (A:Around) (outer:List Env) (s:Shared) (H:Hp) (E:XK),bD k (A.deeper (envOfC qual (au st) s.heap.objs.size f cdv))->
   JB (fD (fL P w) P w K mg base N qual (au st) f cdv A outer s H E cm) cA aq cm (λc=>call aq T k c) (λ_ C dx H'=>E C dx H') (aK st) df.body) :
  bW P w K mg base (fL P w) cm (k+1) f fd ps (jZ K cA (call aq T (k+1) cm n)):=zl2 F S hT hp hm λcdv A outer s H E hr=>(hb cdv A outer s H E hr).o
section
variable {K:W.Frag}{cA:Cl}{U:Ph}{H:Hp}{kvs:g8}{xs:lG}{k:List Kx}
theorem iH.len(r:iH K cA U H kvs xs):kvs.length=xs.length:=by
 induction r with
 |nil=>rfl
 |cons _ _ _ _ ih=>rw[fZ,fZ,ih]
theorem ziO{j:List Kx}{a:Addr}{u:Value}{r:lG}:atKey ((j,a,u)::r) k=if j=k then some (a,u) else atKey r k:=by
 unfold atKey;rw[List.find?_cons];by_cases e:j=k
 ·simp[e]
 ·simp[e]
theorem iH.at(r:iH K cA U H kvs xs):(bO k kvs=none/\atKey xs k=none)\/∃d p v,bO k kvs=some d/\atKey xs k=some p/\RelV v p.2/\Rep K cA U H d v:=by
 induction r with
 |nil=>exact .inl ⟨rfl,rfl⟩
 |@cons j d ka u v r xs hk hu hv q ih=>
  rw[ziO];unfold bO;by_cases e:j=k
  ·rw[if_pos e,if_pos e];exact .inr ⟨d,(ka,u),v,rfl,rfl,hu,hv⟩
  ·rw[if_neg e,if_neg e];exact ih
theorem iH.isSome(r:iH K cA U H kvs xs):(atKey xs k).isSome=(bO k kvs).isSome:=by
 rcases r.at (k:=k) with ⟨a,b⟩|⟨d,p,v,a,b,_⟩<;>rw[a,b]<;>rfl
theorem iH.app{kvs':g8}{xs':lG}(r:iH K cA U H kvs xs)(r':iH K cA U H kvs' xs'):iH K cA U H (kvs++kvs') (xs++xs'):=by
 induction r with
 |nil=>exact r'
 |cons a b c _ ih=>exact .cons a b c ih
theorem iH.put{ka:Addr}{u:Value}{v:V}{d:D}(r:iH K cA U H kvs xs)(hk:Rep K cA U H (iy k) (.ref ka))(hu:RelV v u)(hv:Rep K cA U H d v):iH K cA U H (iY k d kvs) (storedH xs k ka u):=by
 unfold iY storedH;rw[r.isSome];by_cases e:(bO k kvs).isSome=true
 ·rw[if_pos e,if_pos e];clear e
  induction r with
  |nil=>exact .nil
  |@cons j d' W6 u' v' r xs W7 hu' Nf q ih=>
   rw[iU,iU];show iH K cA U H ((if j=k then (j,d) else (j,d'))::_) ((if j=k then (j,W6,u) else (j,W6,u'))::_);by_cases e:j=k
   ·rw[if_pos e,if_pos e];exact .cons W7 hu hv ih
   ·rw[if_neg e,if_neg e];exact .cons W7 hu' Nf ih
 ·rw[if_neg e,if_neg e];exact r.app (.cons hk hu hv .nil)
end
section
variable {X:Cx}{cA:Cl}{ao:List (Addr×Obj)}{Z:L2.St}{H:Hp}{s:Shared}{U:Ph}{a:Addr}{kvs:g8}{xs:lG}{k:List Kx}{y v:V}{u:Value}{A:Around}{E:Value->Shared->Prop}
theorem Qu(I:Inv X ao Z H s)(e:H a=some (rD a xs))(r:iH X.K cA U H kvs xs):(a==sysModules)=false/\xs.length<=sizeLine/\s.heap.DictOfH (jm X.prog X.w) a xs:=by
 have z:=(I.hok a _ e).1;obtain⟨h1,h2,o,es,ep,h3,h4,h5,h6,h7⟩:=z;refine⟨h1,h2,o,es,ep,h3,h4,h5,h6,?_,h7⟩;clear h2 h6 h7 e
 induction r with
 |nil=>exact λx hx=>nomatch hx
 |cons hk hu hv q ih=>exact List.forall_mem_cons.mpr ⟨qj I hk rfl,ih⟩
theorem Qv{d:D}(hk:Rep X.K cA U H (iy k) y):∃b,y=.ref b:=by cases hk;exact⟨_,rfl⟩
noncomputable def tGx(K:W.Frag)(cA:Cl)(td ty:TE):TE:=λZ H Q=>td Z H λx H1=>ty Z H1 λy H2=>∃a U kvs xs k d,x=.ref a/\H2 a=some (rD a xs)/\iH K cA U H2 kvs xs/\Rep K cA U H2 (iy k) y/\bO k kvs=some d/\∀v,Rep K cA U H2 d v->Q v H2
noncomputable def W8(K:W.Frag)(cA:Cl)(f:Bool->Bool)(ty td:TE):TE:=λZ H Q=>ty Z H λy H1=>td Z H1 λx H2=>∃a U kvs xs k,x=.ref a/\H2 a=some (rD a xs)/\iH K cA U H2 kvs xs/\Rep K cA U H2 (iy k) y/\Q (.bl (f (bO k kvs).isSome)) H2
noncomputable def sPx(K:W.Frag)(cA:Cl)(td ty tv:TE):TS:=λD Z H=>tv Z H λv H1=>td Z H1 λx H2=>ty Z H2 λy H3=>∃a b U kvs xs k d,x=.ref a/\H3 a=some (rD a xs)/\iH K cA U H3 kvs xs/\y=.ref b/\Rep K cA U H3 (iy k) y/\Rep K cA U H3 d v/\kvs.length<sizeLine /\
 ∀u,RelV v u->D.nx Z (upd H3 a (rD a (storedH xs k b u)))
variable {o i value:Expr}{pos pos':Pos}{td ty tv:TE}
theorem znb(hu:X.A.units+5<cLine)(ho:PE X o td)(hi:PE X i ty)(hs:zA i):PE X (.Subscript o i pos) (tGx X.K cA td ty):=by
 intro ao s Z H Q I h;refine zjn PySem.F.slot_dict_getitem.lookup hs (aZ (ho ao s Z H _ I h) λu s1 hx=>dY hx λx H1 I1 rx q1=>aZ (hi ao s1 Z H1 _ I1 q1) λiv s2 ⟨y,H2,I2,ry,a,U,kvs,xs,k,d,ex,ea,rr,rk,g,q2⟩=>?_);subst ex;obtain rfl:u=Value.ref a:=rx;obtain⟨b,rfl⟩:=Qv (d:=d) rk;obtain rfl:iv=Value.ref b:=ry;obtain⟨z1,z2,dd⟩:=Qu I2 ea rr;rcases rr.at (k:=k) with ⟨z,_⟩|⟨d',p,v,z,hp,rv,rd⟩
 ·rw[g] at z;cases z
 ·rw[g] at z;cases z;exact⟨dd.typeIs,wpAny_getItem_heap (knd:=jm X.prog X.w) (show X.A.units+1+4<cLine by lia) (qj I2 rk rfl) dd hp ⟨v,H2,I2.tok _,rv,q2 v rd⟩⟩
theorem zj1(hu:X.A.units+5<cLine)(hi:PE X i ty)(ho:PE X o td):PC X .NotIn i o (W8 X.K cA not ty td):=by
 intro ao s Z H Q I h;refine aZ (hi ao s Z H _ I h) λiv s1 hx=>dY hx λy H1 I1 ry q1=>aZ (ho ao s1 Z H1 _ I1 q1) λu s2 ⟨x,H2,I2,rx,a,U,kvs,xs,k,ex,ea,rr,rk,q2⟩=>?_;subst ex;obtain rfl:u=Value.ref a:=rx;obtain⟨b,rfl⟩:=Qv (d:=.non) rk;obtain rfl:iv=Value.ref b:=ry;obtain⟨z1,z2,dd⟩:=Qu I2 ea rr;exact wpAny_notIn_heap (knd:=jm X.prog X.w) (show X.A.units+1+4<cLine by lia) (qj I2 rk rfl) z1 dd ⟨_,H2,I2.tok _,by rw[rr.isSome];rfl,q2⟩
theorem zeZ{xs:lG}{b:Addr}{u:Value}:(storedH xs k b u).length<=xs.length+1:=by
 unfold storedH
 split
 ·rw[bV];lia
 ·simp
theorem zmr(hu:X.A.units+5<cLine)(ho:PE X o td)(hi:PE X i ty)(hv:PE X value tv)(hs:swapsWith value (some (.Subscript o i pos')) pos.line X.env=pure false):PS X (.Assign [.Subscript o i pos'] value pos) (sPx X.K cA td ty tv):=by
 intro ao s Z H D I h;refine wpAny_Assign_Subscript (aZ (hv ao s Z H _ I h) λr s1 hx=>dY hx λv H1 I1 rv q1=>aZ (ho ao s1 Z H1 _ I1 q1) λu s2 hx=>dY hx λx H2 I2 rx q2=>aZ (hi ao s2 Z H2 _ I2 q2) λiv s3 ⟨y,H3,I3,ry,a,b,U,kvs,xs,k,d,ex,ea,rr,ey,rk,rd,hl,q3⟩=>?_) hs;subst ex ey;obtain rfl:u=Value.ref a:=rx;obtain rfl:iv=Value.ref b:=ry;obtain⟨z1,z2,dd⟩:=Qu I3 ea rr;have rP:xs.length+1<=sizeLine:=by rw[<-rr.len];exact hl
 refine wpAny_setItem_heap (knd:=jm X.prog X.w) (hsz:=z2) (show X.A.units+1+4<cLine by lia) (qj I3 rk rfl) dd λh' dd' hs'=>⟨Z,_,?_,q3 r rv⟩;obtain⟨q,es,ep,hq,h2,h3,h4,_,h5⟩:=dd';exact zjF I3 (by rw[ea];exact True.intro) hs' ⟨q,hq⟩ ⟨⟨z1,jO zeZ rP,q,es,ep,hq,h2,h3,h4,h5⟩,⟨q,hq⟩,λh1 h2 ⟨a1,a2,o,es,ep,a3,a4⟩ kp=>⟨a1,a2,o,es,ep,kp o a3,a4⟩⟩
theorem zm3:PE X (.Dict [] [] pos) (λ_ H Q=>∀p,H p=none->Q (.ref p) (upd H p (rD p []))):=λao s Z H Q I h=>
 wpAny_Dict_empty ⟨.ref s.heap.objs.size,_,I.laid (a:=s.heap.objs.size) (o:=rD s.heap.objs.size []) (t':=s.toks) (λ_ _ q=>cG _ q) (bI _)
  ⟨⟨Ac.mpr (Ne.symm (dJ I.big)),v8 _,_,#[],0,fj _ rfl,⟨rfl,rfl,rfl⟩,rfl,rfl,Aq⟩,⟨_,fj _ rfl⟩,λh1 h2 ⟨a1,a2,o,es,ep,a3,a4⟩ kp=>⟨a1,a2,o,es,ep,kp o a3,a4⟩⟩,rfl,h _ (I.hok.fresh (bI _))⟩
end
section
variable {X:Cx}{cA:Cl}{aq:Nat->Nat->Bool}{aj:Bool}{F:Fn}{EX:XS}{a b:Expr}{A B:E}{pos p:Pos}{K:W.Frag}{U:Ph}{H:Hp}{s:S}
theorem Qw{β:Type}{x:Xv}{v:V}{k:List Kx->M β}{P:β->S->Ph->Hp->Prop}{Ee:Nat->List D->S->Ph->Hp->Prop}(r:aV K cA U H x v)(h:Run K cA (M.bd (key x) k) U H s P Ee):∃kx,Rep K cA U H (iy kx) v/\Run K cA (k kx) U H s P Ee:=by
 cases r with
 |l _=>exact h.elim
 |@d y _ r=>
  obtain⟨kx,e,h2⟩:=JV (o:=kOf y) h;rw[zly e] at r;exact⟨kx,r,h2⟩
theorem Qx{β:Type}{x:Xv}{v:V}{k:Nat×g8->M β}{P:β->S->Ph->Hp->Prop}{Ee:Nat->List D->S->Ph->Hp->Prop}(hS:aF K cA U H s)(r:aV K cA U H x v)(h:Run K cA (M.bd (eO x) k) U H s P Ee) :
  ∃n ad kvs xs,x=.l n/\v=.ref ad/\s[n]?=some (.dct kvs)/\U.l[n]?=some ad/\H ad=some (rD ad xs)/\iH K cA U H kvs xs/\Run K cA (k (n,kvs)) U H s P Ee:=by
 cases r with
 |d _=>exact h.elim
 |@l n ad hl=>
  unfold Run M.bd eO at h;dsimp only at h;cases e:s[n]? with
  |none=>rw[e] at h;exact h.elim
  |some o=>
   rw[e] at h;cases o with
   |dct kvs=>
    obtain⟨xs,q1,q2⟩:=hS.obj n _ _ e hl;exact⟨n,ad,kvs,xs,rfl,rfl,e,hl,q1,q2,h⟩
   |_=>exact h.elim
theorem zlk{k:Nat}(hr:bD k X.A)(ha:JE X cA aq aj F EX a A)(hb:JE X cA aq aj F EX b B)(hs:zA b:=by exact λ_ _=>rfl):JE X cA aq aj F EX (.Subscript a b pos) (.nR A B):=⟨PE.weak (znb (cA:=cA) (by have:=hr.un;lia) ha.o hb.o hs) λZ H Q hh=>un hh λU J s hL hS h=>by
 refine aW hL hS h λx H1 U1 d1 s1 x1 hL1 aJ r1 h1=>aW hL1 aJ h1 λy H2 U2 d2 s2 x2 hL2 aU r2 h2=>?_;obtain⟨kx,rk,h3⟩:=Qw r2 h2;obtain⟨n,ad,kvs,xs,_,rfl,e1,e2,e3,rr,h4⟩:=Qx aU (r1.mono x2 aJ.lz) h3;have h4:Run X.K cA (M.opt ((bO kx kvs).map Xv.d)) U2 H2 s2 (λd _ U' H'=>∀v,aV X.K cA U' H' d v->Q v H') (eX X.K cA EX Z):=h4;cases e:bO kx kvs with
 |none=>rw[e] at h4;exact h4.elim
 |some d=>
  rw[e] at h4;exact⟨ad,U2,kvs,xs,kx,d,rfl,e3,rr,rk,e,λv rv=>h4.bH aU v (.d rv)⟩⟩
theorem zju{b':Bool}{Z:L2.St}{Q:VK}(f:Bool->Bool)(hf:∀c,f c=(c==b'))(hh:tE X.K cA EX (ev aq aj F (.yU b' A B)) Z H Q):W8 X.K cA f (tE X.K cA EX (ev aq aj F A)) (tE X.K cA EX (ev aq aj F B)) Z H Q:=un hh λU J s hL hS h=>by
 refine aW hL hS h λx H1 U1 d1 s1 x1 hL1 aJ r1 h1=>aW hL1 aJ h1 λy H2 U2 d2 s2 x2 hL2 aU r2 h2=>?_;obtain⟨kx,rk,h3⟩:=Qw (r1.mono x2 aJ.lz) h2;obtain⟨n,ad,kvs,xs,_,rfl,e1,e2,e3,rr,h4⟩:=Qx aU r2 h3;refine⟨ad,U2,kvs,xs,kx,rfl,e3,rr,rk,?_⟩;rw[hf];exact h4.bH aU _ (.d (.bl _))
theorem W9{m:Vs->M Xv}{Z:L2.St}{Q:Bool->Hp->Prop}(hh:tV K cA EX (λJ=>M.bd (m J) bool) Z H Q):tE K cA EX m Z H λx H1=>∃c,x=.bl c/\Q c H1:=un hh λU J s hL hS h=>
 ⟨U,J,s,hL,hS,h.bd.imp λd s1 U1 H1 ⟨_,r1,h1⟩ v rv=>zgL r1 rv h1⟩
theorem zkc{k:Nat}(hr:bD k X.A)(ha:JE X cA aq aj F EX a A)(hb:JE X cA aq aj F EX b B)(h1:mY b=true:=by rfl):JT X cA aq aj F EX (.Compare a [.NotIn] [b] pos) (.yU false A B):=⟨PT.weak (Mz (zj1 (cA:=cA) (by have:=hr.un;lia) ha.o hb.o) (vA h1)) λZ H Q hh=>zju not (λc=>by cases c<;>rfl) (W9 hh)⟩
theorem zlT:JE X cA aq aj F EX (.Dict [] [] pos) .p7:=⟨PE.weak zm3 λZ H Q hh=>un hh λU J s hL hS h p hp=>
 h (U.add p) _ (Ext.add hp) (hS.Gg hp ⟨[],jC,.nil⟩) _ (.l (by show (U.l++[p])[s.length]?=_;rw[<-hS.len];simp))⟩
end
section
variable {X:Cx}{cA:Cl}{aq:Nat->Nat->Bool}{aj:Bool}{F:Bool->Fn}{EX:XS}{a oo ii:Expr}{A O I':E}{pos p:Pos}
theorem zkB{k:Nat}(hr:bD k X.A)(hO:JE X cA aq aj (F aj) EX oo O)(hI:JE X cA aq aj (F aj) EX ii I')(ha:JE X cA aq aj (F aj) EX a A)(hs:swapsWith a (some (.Subscript oo ii p)) pos.line X.env=pure false:=by rfl) :
  JS X cA aq aj F EX (.Assign [.Subscript oo ii p] a pos) (.dput O I' A):=⟨PS.weak (zmr (cA:=cA) (by have:=hr.un;lia) hO.o hI.o ha.o hs) λD Z H hh=>un hh λU J s hL hS h=>by
 refine aW hL hS (aR.ofM hL hS.lz h) λz H1 U1 d1 s1 x1 hL1 aJ r1 h1=>?_;obtain⟨w,_,lu,h2⟩:=JZ r1 h1;refine aW hL1 aJ h2 λx H2 U2 d2 s2 x2 hL2 aU r2 h3=>aW hL2 aU h3 λy H3 U3 d3 s3 x3 u9 jY r3 h4=>?_;obtain⟨kx,rk,h5⟩:=Qw r3 h4;obtain⟨n,ad,kvs,xs,_,rfl,e1,e2,e3,rr,h6⟩:=Qx jY (r2.mono x3 aU.lz) h5;obtain⟨b,rfl⟩:=Qv (X:=X) (d:=.non) rk;have W_:=(lu.mono x2 aJ.lz).mono x3 aU.lz;by_cases hz:kvs.length<sizeLine
 ·refine⟨ad,b,U3,kvs,xs,kx,w,rfl,e3,rr,rfl,rk,W_,hz,λu ru=>?_⟩;have h6:Run X.K cA (if kvs.length<sizeLine then putD n (iY kx w kvs) else M.no) U3 H3 s3 _ _:=h6;rw[if_pos hz] at h6;have x4:Ext U3 H3 U3 (upd H3 ad (rD ad (storedH xs kx b u))):=Ext.write e2 ⟨_,e3⟩;have rS:=jY.rE (so:=.dct (iY kx w kvs)) (ho:=rD ad (storedH xs kx b u)) (dX.mp e1).1 e2 ⟨_,jC,(rr.put rk ru W_).map λ_ _ r=>r.mono x4 jY.lz⟩;obtain⟨x5,r5,h7⟩:=h6 U3 _ x4 rS;exact h7 U3 _ Z Ext.refl rS (u9.mono x4 jY.lz)
 ·have h6:Run X.K cA (if kvs.length<sizeLine then putD n (iY kx w kvs) else M.no) U3 H3 s3 _ _:=h6;rw[if_neg hz] at h6;exact h6.elim⟩
end
end Mi
namespace Mi
open PySem PySem.Spec PyProof.Rows L2 PySem.W
theorem zkl{fd:FuncData}{x:Str}{st:Stmt}(h:lX fd=tK x st):fd=fnOf x x (aP st) (aK st) (au st) .none fd.kwdefaults fd.doc fd.pyModule fd.annotations fd.code fd.closureTuple:=by
 cases fd;unfold lX tK at h;cases h;rfl
noncomputable def gR(K:Frag)(x:Str):Addr:=match xX K x with
 |some p=>p.1
 |none=>0
noncomputable def fdOf(K:Frag)(x:Str)(st:Stmt):FuncData:=match xX K x with
 |some p=>p.2
 |none=>tK x st
structure FnAt(K:Frag)(x:Str)(st:Stmt):Prop where
 ns:nsIn K mainGlobals x=some (some (.ref (gR K x)))
 fn:mW K x x st (gR K x) (fdOf K x st)
theorem znp{K:Frag}{x:Str}{st:Stmt}(h:(xX K x).map (λp=>lX p.2)=some (tK x st)):FnAt K x st:=by
 cases e:xX K x with
 |none=>rw[e] at h;cases h
 |some p=>
  rw[e] at h;have hp:lX p.2=tK x st:=cD h;have h1:gR K x=p.1:=by unfold gR;rw[e]
  have h2:fdOf K x st=p.2:=by unfold fdOf;rw[e]
  unfold xX at e;split at e
  ·rename_i f hf;split at e
   ·rename_i oc od fd sl hl;split at e
    ·rename_i hc;cases e;rw[gA] at hc;refine⟨by rw[h1];exact hf,?_⟩;rw[h1,h2];exact⟨⟨oc,od,_,_,_,_,_,_,sl,zkl hp,hl,hc.1⟩,hc.2⟩
    ·cases e
   ·cases e
  ·cases e
theorem FnAt.m{K:Frag}{x:Str}{st:Stmt}(F:FnAt K x st){h:Heap}{mg:Str->Option Value}(X:K.In h)(G:h.Ns mainGlobals mg):mg x=some (.ref (gR K x)):=mg_of X G F.ns
theorem zna{K:Frag}{x:Str}(h:qT K x=true){hp:Heap}{mg:Str->Option Value}(X:K.In hp)(G:hp.Ns mainGlobals mg):mg x=some (.ref (dB K x)):=by
 refine mg_of X G ?_;unfold qT at h;unfold dB;split at h
 ·rename_i C e;rw[e]
 ·cases h
theorem Xa{K:Frag}{x:Str}{i:Int}(h:kj K (x,i)=true){hp:Heap}{mg:Str->Option Value}(X:K.In hp)(G:hp.Ns mainGlobals mg):∃t,mg x=some (.int i t):=by
 unfold kj at h;split at h
 ·rename_i j t e;rw[Cw] at h;subst h;exact⟨t,mg_of X G e⟩
 ·cases h
theorem n_{K:Frag}{x:Str}(h:oK K x=true){hp:Heap}{mg:Str->Option Value}(X:K.In hp)(G:hp.Ns mainGlobals mg):mg x=none:=by
 refine mg_none_of X G ?_;unfold oK at h;split at h
 ·rename_i e;exact e
 ·cases h
structure xg(l:Lk)(K:Frag):Prop where
 cl:∀x∈l.Dh,qT K x=true
 cs:l.Dh.isEmpty=true\/v9 K (l.L K)=true
 ra:∀k∈l.T5,Dg K (g_ (l.L K) k)=true
 ca:∀k∈l.T6,subB K (l.L K) k=true
 it:∀p∈l.wg,kj K p=true
 no:∀x∈l.T4,oK K x=true
theorem Kab{l:Lk}{K:Frag}(h:l.good K=true):xg l K:=by
 unfold Lk.good at h;simp only[gA,IK,ji] at h;obtain⟨⟨⟨⟨⟨h1,h2⟩,h3⟩,h4⟩,h5⟩,h6⟩:=h;exact⟨h1,h2,h3,h4,h5,h6⟩
theorem vJ{K:Frag}{x:Str}{st:Stmt}{f:Addr}{fd:FuncData}{p:Str}(F:mW K x x st f fd)(h:∀(kV doc pm:Value) (an:Option Addr) (cdv ct a:Value),bindArgs (fnOf x x (aP st) (aK st) (au st) .none kV doc pm an cdv ct) ⟨[a],[]⟩=pure [(p,a)]):Binds K fd [p] []:=by
 obtain⟨oc,od,kV,doc,pm,an,cdv,ct,osl,rfl,lk,jD⟩:=F.ex;exact zB (h kV doc pm an cdv ct)
theorem vK{K:Frag}{x:Str}{st:Stmt}{f:Addr}{fd:FuncData}{p q:Str}(F:mW K x x st f fd)(h:∀(kV doc pm:Value) (an:Option Addr) (cdv ct a b:Value),bindArgs (fnOf x x (aP st) (aK st) (au st) .none kV doc pm an cdv ct) ⟨[a,b],[]⟩=pure [(p,a),(q,b)]):Binds K fd [p,q] []:=by
 obtain⟨oc,od,kV,doc,pm,an,cdv,ct,osl,rfl,lk,jD⟩:=F.ex;exact rW (h kV doc pm an cdv ct)
theorem vL{K:Frag}{x:Str}{st:Stmt}{f:Addr}{fd:FuncData}{p q t:Str}(F:mW K x x st f fd)(h:∀(kV doc pm:Value) (an:Option Addr) (cdv ct a b c:Value),bindArgs (fnOf x x (aP st) (aK st) (au st) .none kV doc pm an cdv ct) ⟨[a,b,c],[]⟩=pure [(p,a),(q,b),(t,c)]):Binds K fd [p,q,t] []:=by
 obtain⟨oc,od,kV,doc,pm,an,cdv,ct,osl,rfl,lk,jD⟩:=F.ex;exact rY (h kV doc pm an cdv ct)
theorem vM{K:Frag}{x:Str}{st:Stmt}{f:Addr}{fd:FuncData}{p q t u:Str}(F:mW K x x st f fd)(h:∀(kV doc pm:Value) (an:Option Addr) (cdv ct a b c d:Value),bindArgs (fnOf x x (aP st) (aK st) (au st) .none kV doc pm an cdv ct) ⟨[a,b,c,d],[]⟩=pure [(p,a),(q,b),(t,c),(u,d)]):Binds K fd [p,q,t,u] []:=by
 obtain⟨oc,od,kV,doc,pm,an,cdv,ct,osl,rfl,lk,jD⟩:=F.ex;exact rZ (h kV doc pm an cdv ct)
theorem zO{K:Frag}{x:Str}{st:Stmt}{f:Addr}{fd:FuncData}{p:Str}(F:mW K x x st f fd)(h:∀(kV doc pm:Value) (an:Option Addr) (cdv ct a:Value),bindArgs (fnOf x x (aP st) (aK st) (au st) .none kV doc pm an cdv ct) ⟨[a],[]⟩=pure [(p,a)]):∀(s:Shared) (u:Value),BindsTo s fd ⟨[u],[]⟩ [(p,u)]:=by
 obtain⟨oc,od,kV,doc,pm,an,cdv,ct,osl,rfl,lk,jD⟩:=F.ex;exact λs u=>.of_eq (h kV doc pm an cdv ct u)
end Mi
namespace Mi
open PySem PySem.Spec PyProof.Rows L2
section
variable {K:W.Frag}{cA:Cl}{U U' Pn:Ph}{H H' Gf:Hp}{s:S}
end
section
variable {X:Cx}{cA:Cl}{aq:Nat->Nat->Bool}{aj:Bool}{F:Fn}{EX:XS}{elt iter tg iter₂ tg₂:Expr}{A B:E}{pos p:Pos}{ifs:List Expr}{scope:Scope}{N:List Str}{cond:Eo}{fr cU cU₂:List Nat}{many:Nat}{fz:Bool}{w w₂:Wk}
end
section
variable {X:Cx}{cA:Cl}{aq:Nat->Nat->Bool}{aj:Bool}{F:Bool->Fn}{EX:XS}{elt iter tg iter₂ tg₂:Expr}{A B:E}{pos p:Pos}{ifs:List Expr}{scope:Scope}{N:List Str}{cond:Eo}{fr cU cU₂:List Nat}{many:Nat}{fz:Bool}{w w₂:Wk}{i:Nat}{y:Str}
end
section
variable {X:Cx}{cA:Cl}{aq:Nat->Nat->Bool}{aj:Bool}{F:Fn}{EX:XS}{elt iter tg iter₂ tg₂:Expr}{A B:E}{pos p:Pos}{ifs:List Expr}{scope:Scope}{N:List Str}{cond:Eo}{fr cU cU₂:List Nat}{many:Nat}{fz:Bool}{w w₂:Wk}{i:Nat}{y:Str}
end
section
variable {K:W.Frag}{cA:Cl}{U:Ph}{H:Hp}
theorem aB.GR(r:aB K cA U H xs ys):∀l:List Nat,aB K cA U H (l.map λi=>xs.getD i .non) (l.map λi=>ys.getD i .non)
 |[]=>.nil
 |i::l=>by
  refine .cons ?_ (aB.GR r l);show Rep K cA U H (xs.getD i .non) (ys.getD i .non);cases e:xs[i]? with
  |some x=>
   obtain⟨u,e1,e2⟩:=r.get e;rw[jh,jh,e,e1];exact e2
  |none=>
   have e1:ys[i]?=Option.none:=r.none e;rw[jh,jh,e,e1];exact .non
theorem aB.mem(r:aB K cA U H xs ys):∀v∈ys,∃d∈xs,Rep K cA U H d v:=by
 intro v hv;obtain⟨i,hi,e⟩:=vV hv;have e':ys[i]?=some v:=by rw[cT hi,e]
 cases ex:xs[i]? with
 |none=>rw[r.none ex] at e';cases e'
 |some d=>
  obtain⟨u,e1,e2⟩:=r.get ex;rw[e1] at e';cases e';exact⟨d,eZ ex,e2⟩
theorem Xb:∀{us ws:List D} {xs ys:List V},aB K cA U H us xs->aB K cA U H ws ys->∀{b:Bool},mQ us ws=some b->jK xs ys=some b
 |[],ws,_,ys,r1,r2,b,h=>by
  cases r1;unfold mQ at h;unfold jK;rw[<-r2.len];exact h
 |_::_,[],_,_,r1,r2,b,h=>by
  cases r2;cases r1;unfold mQ at h;unfold jK;exact h
 |x::us,y::ws,_,_,r1,r2,b,h=>by
  cases r1 with
  |cons a1 b1=>
   cases r2 with
   |cons a2 b2=>
    unfold mQ at h;split at h
    ·rename_i z;cases z
    ·rename_i z;cases z
    ·rename_i p ps q qs e1 e2;cases e1;cases e2;cases a1;cases a2;unfold jK;by_cases e:p=q
     ·rw[if_pos e] at h ⊢;exact Xb b1 b2 h
     ·rw[if_neg e] at h ⊢;exact h
    ·cases h
theorem zho(r:aB K cA U H xs ys)(h:(xs.all iw||xs.all gb)=true):rA K H ys (tU xs):=by
 rw[IK] at h;rcases h with h|h
 ·left
  rw[ji] at h;refine⟨λv hv=>?_,λi j b e=>?_⟩
  ·obtain⟨d,hd,q⟩:=r.mem v hv;have:=h d hd;cases q<;>first|exact⟨_,rfl⟩|cases this
  ·unfold tU at e;cases e1:xs[i]? with
   |none=>rw[e1] at e;cases e
   |some d1=>
    cases e2:xs[j]? with
    |none=>rw[e1,e2] at e;cases d1<;>cases e
    |some d2=>
     have h1:=h d1 (eZ e1);have h2:=h d2 (eZ e2);rw[e1,e2] at e;obtain⟨v1,a1,b1⟩:=r.get e1;obtain⟨v2,a2,b2⟩:=r.get e2;cases d1<;>first|cases h1|skip
     cases d2<;>first|cases h2|skip
     cases b1;cases b2;cases e;exact⟨_,_,a1,a2,rfl⟩
 ·right
  rw[ji] at h;refine⟨λv hv=>?_,λi j b e=>?_⟩
  ·obtain⟨d,hd,q⟩:=r.mem v hv;have:=h d hd;unfold gb at this;split at this
   ·cases q with
    |tup t r'=>
     cases r' with
     |cons a1 b1=>
      cases a1;exact⟨_,_,_,rfl,t.iz⟩
   ·cases this
  ·unfold tU at e;cases e1:xs[i]? with
   |none=>rw[e1] at e;cases e
   |some d1=>
    cases e2:xs[j]? with
    |none=>rw[e1,e2] at e;cases d1<;>cases e
    |some d2=>
     have h1:=h d1 (eZ e1);have h2:=h d2 (eZ e2);rw[e1,e2] at e;obtain⟨v1,a1,b1⟩:=r.get e1;obtain⟨v2,a2,b2⟩:=r.get e2;unfold gb at h1 h2;split at h1
     ·split at h2
      ·cases b1 with
       |tup t1 r1=>
        cases b2 with
        |tup t2 r2=>exact⟨_,_,_,_,a1,a2,t1.iz,t2.iz,Xb r1 r2 e⟩
      ·cases h2
     ·cases h1
theorem zgp:bx K cA .sorted (λxs H Q=>∃l ys lt p,xs=[.ref l]/\cM K H l ys/\ys.length<64/\(2<=ys.length->rA K H ys lt/\bF lt (PySem.W.kas_sort ys.length)=some p/\p.size=ys.length)/\∀r,H r=none->Q (.ref r) (upd H r (.lst (jL ys p)))):=by
 intro U H ds vs Q zt rs o;have o:bw K cA U H (lE ds) Q:=o;unfold lE at o;split at o
 ·rename_i xs _;obtain⟨v,rfl,r1⟩:=rs.one;obtain⟨z,e⟩:=o.some';obtain⟨zs,e1,e2⟩:=j_.mp e;subst e2;obtain⟨a,us,rfl,sq,q⟩ : ∃a us,v=.ref a/\cM K H a us/\aB K cA U H xs us:=r1;have hl:=q.len;unfold qG at e1;by_cases hk:(xs.all iw||xs.all gb)=true
  ·rw[if_pos hk] at e1;unfold mU at e1;by_cases h2:xs.length<2
   ·rw[if_pos h2] at e1;cases e1;refine⟨a,us,λ_ _=>none,#[],rfl,sq,by lia,λz=>absurd z (by lia),λr hr=>?_⟩;have:jL us #[]=us:=by unfold jL;rw[if_pos (by lia)]
    rw[this];exact(o.of e) r us hr q
   ·rw[if_neg h2] at e1;by_cases rz:xs.length<64
    ·rw[if_pos rz] at e1;cases ek:bF (tU xs) (PySem.W.kas_sort xs.length) with
     |none=>rw[ek] at e1;cases e1
     |some p=>
      rw[ek] at e1;dsimp only at e1;by_cases hp:p.size=xs.length
      ·rw[if_pos hp] at e1;cases e1;refine⟨a,us,tU xs,p,rfl,sq,by lia,λ_=>⟨zho q hk,by rw[<-hl];exact ek,by lia⟩,λr hr=>?_⟩;have:jL us p=p.toList.map λi=>us.getD i .non:=by unfold jL;rw[if_neg (by lia)]
       rw[this];exact(o.of e) r _ hr (q.GR p.toList)
      ·rw[if_neg hp] at e1;cases e1
    ·rw[if_neg rz] at e1;cases e1
  ·rw[if_neg hk] at e1;cases e1
 ·exact o.elim
end
section
variable {X:Cx}{cA:Cl}{aq:Nat->Nat->Bool}{aj:Bool}{F:Fn}{EX:XS}{e:Expr}{pos p:Pos}{es:List Expr}{Xs:Es}{fz:Bool}
theorem zdk:bootBuiltins "sorted"=some (.builtin "sorted"):=by decide +kernel
theorem Qy(hm:X.mg "sorted"=none)(hg:JK X "sorted" .globalImplicit)(ha:JA X cA aq aj F EX (e::es) Xs)(he:aD e=true:=by rfl)(hpl:es.all aD=true:=by rfl):JE X cA aq aj F EX (.Call (.Name "sorted" p) (e::es) [] pos) (.pr fz .sorted Xs):=⟨wQ zdD zgp hg.o hm zdk ha.o (by decide) (by decide) (bB he) (bA hpl)⟩
end
section
variable {K:W.Frag}{cA:Cl}{U:Ph}{H:Hp}
theorem Ko:∀{xs:List D} {k i:Nat},(enumFrom k xs)[i]?=(xs[i]?).map λd=>.tup [.int ((k+i:Nat):Int),d]
 |[],k,i=>by simp[enumFrom]
 |x::r,k,0=>by simp[enumFrom]
 |x::r,k,i+1=>by
  unfold enumFrom;rw[Ab,Ab,Ko]
  congr 1
  funext d
  rw[show k+1+i=k+(i+1) by lia]
noncomputable def qm(K:W.Frag)(U:Ph)(H:Hp):Bool->Addr->List V->Prop
 |true,a,vs=>LstAt K U H a vs
 |false,a,vs=>TupAt K U H a vs
theorem qm.sk{kd:Bool}{a:Addr}{vs:List V}(h:qm K U H kd a vs):Sk kd K H a vs:=by
 cases kd
 ·exact TupAt.iz h
 ·exact LstAt.qI h
theorem qm.later{U':Ph}{H₁ H':Hp}{kd:Bool}{a:Addr}{vs:List V}(hz:∀a∈U.l,U.z a)(h:qm K U H kd a vs)(x:Ext U H U' H₁)(o:cQ U' H₁ H'):qm K U' H' kd a vs:=by
 cases kd
 ·exact TupAt.later hz h x o
 ·exact LstAt.later hz h x o
theorem jo.enum{kd:Bool}{l:Addr}{xs:List D}{vs:List V}(hz:∀a∈U.l,U.z a)(h:qm K U H kd l vs)(r:aB K cA U H xs vs):jo K cA (.fix (enumFrom 0 xs)) U H (Ite K kd l):=by
 refine⟨λU' H₁ H' s' i x o hS e=>⟨vs,(h.later hz x o).sk,?_⟩,λU' H₁ H' s' i d x o hS e=>?_,λU' H₁ H' s' i d v H2 x o hS e y=>?_⟩
 ·have e:(enumFrom 0 xs)[i]?=none:=cD e;rw[Ko,Option.map_eq_none_iff] at e;exact oF.mp ((r.mono x hz).none e)
 ·have e:(enumFrom 0 xs)[i]?=some d:=cD e;rw[Ko] at e;obtain⟨d',e',_⟩:=j_.mp e;obtain⟨v,q,_⟩:=r.get e';exact⟨vs,v,(h.later hz x o).sk,q⟩
 ·have e:(enumFrom 0 xs)[i]?=some d:=cD e;rw[Ko] at e;obtain⟨d',e',rfl⟩:=j_.mp e;obtain⟨a,u,hn,rfl,rfl,hu⟩:=y;obtain⟨w,q,lu⟩:=((r.mono x hz).out o).get e';have:=hu vs (h.later hz x o).sk;rw[q] at this;cases this;have g:bf H' (upd H' a (.tup [.int i,u])):=bf.new hn;refine⟨g,?_⟩;rw[show ((0+i:Nat):Int)=(i:Int) by simp];exact .tup (.inl ⟨.inl jC,hS.nz hn⟩) (.cons (.int _) (.cons (lu.mono g.ext hS.lz) .nil))
theorem Qz(h:(Src.jV n).at i s=some o):∃xs,s[n]?=some (.lst xs)/\(xs[i]?.map λx=>D.tup [.int i,x])=o:=by
 unfold Src.at at h;dsimp only at h;cases e:s[n]? with
 |none=>rw[e] at h;cases h
 |some ob=>
  rw[e] at h;cases ob with
  |lst xs=>exact⟨xs,rfl,cD h⟩
  |_=>cases h
theorem jo.jV{a:Addr}{n:Nat}(h:U.l[n]?=some a):jo K cA (.jV n) U H (Ite K true a):=by
 refine⟨λU' H₁ H' s' i x o hS e=>?_,λU' H₁ H' s' i d x o hS e=>?_,λU' H₁ H' s' i d v H2 x o hS e y=>?_⟩
 ·obtain⟨xs,e1,e2⟩:=Qz e;rw[Option.map_eq_none_iff] at e2;obtain⟨vs,q1,q2⟩:=hS.obj n _ a e1 (x.get h);exact⟨vs,cM.of q1,oF.mp (q2.none e2)⟩
 ·obtain⟨xs,e1,e2⟩:=Qz e;obtain⟨d',e',_⟩:=j_.mp e2;obtain⟨vs,q1,q2⟩:=hS.obj n _ a e1 (x.get h);obtain⟨v,q3,_⟩:=q2.get e';exact⟨vs,v,cM.of q1,q3⟩
 ·obtain⟨xs,e1,e2⟩:=Qz e;obtain⟨d',e',rfl⟩:=j_.mp e2;obtain⟨vs,q1,q2⟩:=hS.obj n _ a e1 (x.get h);obtain⟨w,q3,lu⟩:=q2.get e';obtain⟨b,u,hn,rfl,rfl,hu⟩:=y;have:=hu vs (cM.of q1);rw[q3] at this;cases this;have g:bf H' (upd H' b (.tup [.int i,w])):=bf.new hn;exact⟨g,.tup (.inl ⟨.inl jC,hS.nz hn⟩) (.cons (.int _) (.cons (lu.mono g.ext hS.lz) .nil))⟩
end
section
variable {X:Cx}{cA:Cl}{aq:Nat->Nat->Bool}{aj:Bool}{F:Fn}{EX:XS}{a b:Expr}{A B:E}{pos pp tpos:Pos}{elts:List Expr}{kk:Nat}
theorem zjw(n8:Gl X "enumerate")(hmg:X.mg "enumerate"=none)(hb:SE X cA aq aj F EX b B)(h2:starEach [b] X.env=(false,eval b X.env)::starEach [] X.env) :
  SI X cA aq aj F EX (.Tuple elts kk tpos) (.Call (.Name "enumerate" pp) [b] [] pos) (.enum B):=PI.weak (zjM n8 hmg (tO hb yG h2) (by rw[h2];rfl)) λZ H R hh=>un hh λU J s hL hS h=>by
 refine aW hL hS h λy H2 U2 d2 s2 x2 hL2 aU r2 h2=>?_;cases r2 with
 |@l n ad hl=>
  unfold Run mV at h2;dsimp only at h2;cases e:s2[n]? with
  |none=>rw[e] at h2;exact h2.elim
  |some o=>
   rw[e] at h2;cases o with
   |lst xs=>
    obtain⟨vs,q1,q2⟩:=aU.obj n _ _ e hl;exact⟨true,_,_,rfl,cM.of q1,h2 U2 H2 Ext.refl aU _ (jo.jV hl)⟩
   |_=>exact h2.elim
 |d r2=>
  cases r2 with
  |fl q r=>exact⟨true,_,_,rfl,q.qI,h2 U2 H2 Ext.refl aU _ (jo.enum (kd:=true) aU.lz q r)⟩
  |tup q r=>exact⟨false,_,_,rfl,q.iz,h2 U2 H2 Ext.refl aU _ (jo.enum (kd:=false) aU.lz q r)⟩
  |_=>exact h2.elim
theorem Xc:∀(ns:List Str) (vs:List V),((ns.zip vs).map (·.1)).Sublist ns
 |[],vs=>by simp
 |n::ns,[]=>by simp
 |n::ns,v::vs=>by
  rw[Cr,iU];exact(Xc ns vs).cons₂ n
theorem zeU:∀{ns:List Str} {vs:List V} {i:Nat} {x:Str} {v:V},ns.Nodup->ns[i]?=some x->vs[i]?=some v->(ns.zip vs).lookup x=some v
 |ns,vs,i,x,v,hn,h1,h2=>by
  refine Vx ?_ (zih h1 h2);exact List.Sublist.nodup (Xc ns vs) hn
end
section
variable {X:Cx}{cA:Cl}{aq:Nat->Nat->Bool}{aj:Bool}{F:Bool->Fn}{EX:XS}{e:Expr}{es:List Expr}{Xs:Es}{pos p:Pos}{x:Str}
end
section
variable {X:Cx}{cA:Cl}{aq:Nat->Nat->Bool}{aj:Bool}{F:Fn}{EX:XS}{a b:Expr}{A B:E}{pos p tpos:Pos}{elts:List Expr}{kk:Nat}
theorem QB(hmg:X.mg "enumerate"=none)(n8:JK X "enumerate" .globalImplicit)(hb:JE X cA aq aj F EX b B)(h2:aD b=true:=by rfl):JI X cA aq aj F EX (.Tuple elts kk tpos) (.Call (.Name "enumerate" p) [b] [] pos) (.enum B):=⟨zjw n8.o hmg hb.o (bB h2)⟩
end
end Mi
namespace Mi
open PySem PySem.Spec PyProof.Rows L2 PySem.W
theorem zjz{fd:FuncData}{q:Str}{st:Stmt}(h:lX fd=xY q st):fd=fnOf "__init__" q (aP st) (aK st) (au st) .none fd.kwdefaults fd.doc fd.pyModule fd.annotations fd.code fd.closureTuple:=by
 cases fd;unfold lX xY at h;cases h;rfl
structure GX(K:Frag)(C:Addr)(q:Str)(st:Stmt):Prop where
 ex:∃(fI:Addr) (od:Option Addr) (kV doc pm:Value) (an:Option Addr) (cdv ct:Value) (osl:Array (Option Value)) (cd:ClassData),
  K.lookup fI=some ⟨.type "function",od,.func (fnOf "__init__" q (aP st) (aK st) (au st) .none kV doc pm an cdv ct),osl⟩/\codeIn K cdv q=true/\qR K C fI=true/\clsIn K C=some cd/\qQ cd.mro=true/\cd.hasDict=true
theorem znn{K:Frag}{C:Addr}{q:Str}{st:Stmt}(h:(Di K C).map lX=some (xY q st)):GX K C q st:=by
 cases e:Di K C with
 |none=>rw[e] at h;cases h
 |some fd=>
  rw[e] at h;have hp:lX fd=xY q st:=cD h;unfold Di at e;split at e
  ·rename_i cd jD;split at e
   ·rename_i f hf;split at e
    ·rename_i od fd' sl hl;split at e
     ·rename_i hc;cases e;simp only[gA] at hc;obtain⟨⟨⟨c1,c2⟩,c3⟩,c4⟩:=hc;have eq:=zjz hp;have qn:fd.qualname=q:=by rw[eq]
      refine⟨⟨f,od,fd.kwdefaults,fd.doc,fd.pyModule,fd.annotations,fd.code,fd.closureTuple,sl,cd,?_,by rw[<-qn];exact c1,c2,jD,c3,c4⟩⟩;rw[<-eq];exact hl
     ·cases e
    ·cases e
   ·cases e
  ·cases e
theorem znd{K:Frag}{C:Addr}{f:Str}(h:I_ K C f=true):XF K C f:=by
 unfold I_ at h;simp only[gA,oJ] at h;obtain⟨⟨⟨⟨h1,h2⟩,h3⟩,h4⟩,h5⟩:=h;exact⟨h1,h2,h3,h4,h5⟩
structure m5(fs:List (Str×Stmt))(ms:List qU)(xs:List (Nat×Str))(l:Lk)(K:Frag):Prop where
 fn:∀p∈fs,FnAt K p.1 p.2
 gd:xg l K
 mi:∀m∈ms,GX K (g_ (l.L K) m.c) m.q m.st
 se:∀m∈ms,setB K (g_ (l.L K) m.c) m.fs=true
 xf:∀x∈xs,XF K (g_ (l.L K) x.1) x.2
theorem QC{a:Nat}{o:Obj}:∀{l:List Obj} {i:Nat},((a:Addr),o)∈Dj i l->i<=a/\l[a-i]?=some o/\o.isFreed=false
 |[],i,h=>by cases h
 |p::r,i,h=>by
  unfold Dj at h;split at h
  ·obtain⟨h1,h2,h3⟩:=QC h;refine⟨by lia,?_,h3⟩;rw[show a-i=(a-(i+1))+1 by lia];exact h2
  ·rename_i hf;rcases gG.mp h with e|h
   ·cases e;exact⟨bI _,by simp,hf⟩
   ·obtain⟨h1,h2,h3⟩:=QC h;refine⟨by lia,?_,h3⟩;rw[show a-i=(a-(i+1))+1 by lia];exact h2
theorem Xd:∀{K:Frag},K.lookup a=some o->(a,o)∈K
 |[],h=>by cases h
 |(b,p)::r,h=>by
  rw[nA] at h;by_cases e:a=b
  ·subst e;simp only[Aj] at h;cases h;exact kh
  ·rw[show (a==b)=false by simpa using e] at h;exact gW _ (Xd h)
theorem zhe:(bK h).In h:=λa o e=>by
 have hm:=Xd e;unfold bK at hm;rcases nD.mp hm with z|z
 ·unfold oM at z;split at z
  ·rename_i p hp;rcases gG.mp z with e|z
   ·cases e;exact hp
   ·cases z
  ·cases z
 ·obtain⟨_,h2,h3⟩:=QC (Iv.mp z);rw[Heap.get?_some_iff];refine⟨?_,h3⟩;have:h.objs.toList[a]?=some o:=by simpa using h2
  simpa using this
end Mi
namespace Mi
open PySem PySem.Spec PyProof.Rows L2
section
variable {K:W.Frag}{cA:Cl}{U:Ph}{H:Hp}
noncomputable def iK(K:W.Frag)(U:Ph)(H:Hp):Bool->Addr->List V->Prop
 |true,a,vs=>LstAt K U H a vs
 |false,a,vs=>TupAt K U H a vs
theorem iK.sk{kd:Bool}{a:Addr}{vs:List V}(h:iK K U H kd a vs):Sk kd K H a vs:=by
 cases kd
 ·exact TupAt.iz h
 ·exact LstAt.qI h
theorem iK.later{kd:Bool}{a:Addr}{vs:List V}{U':Ph}{H₁ H':Hp}(hz:∀a∈U.l,U.z a)(h:iK K U H kd a vs)(x:Ext U H U' H₁)(o:cQ U' H₁ H'):iK K U' H' kd a vs:=by
 cases kd
 ·exact TupAt.later hz h x o
 ·exact LstAt.later hz h x o
theorem QD{xs ys:List D}{i:Nat}:(List.zipWith (λp q=>D.tup [p,q]) xs ys)[i]?=match xs[i]?,ys[i]? with
  |some p,some q=>some (.tup [p,q])
  |_,_=>none:=by
 rw[List.getElem?_zipWith];cases xs[i]?<;>cases ys[i]?<;>rfl
theorem jo.zip{k1 k2:Bool}{l1 l2:Addr}{xs ys:List D}{us vs:List V}(hz:∀a∈U.l,U.z a)(h1:iK K U H k1 l1 us)(h2:iK K U H k2 l2 vs)(r1:aB K cA U H xs us)(r2:aB K cA U H ys vs):jo K cA (.fix (List.zipWith (λp q=>D.tup [p,q]) xs ys)) U H (OJ K k1 k2 l1 l2):=by
 refine⟨λU' H₁ H' s' i x o hS e=>?_,λU' H₁ H' s' i d x o hS e=>?_,λU' H₁ H' s' i d v H2 x o hS e y=>?_⟩
 ·have e:(List.zipWith (λp q=>D.tup [p,q]) xs ys)[i]?=none:=cD e;rw[QD] at e;refine⟨us,vs,(h1.later hz x o).sk,(h2.later hz x o).sk,?_⟩;cases ex:xs[i]? with
  |none=>exact .inl (oF.mp (r1.none ex))
  |some p=>
   cases ey:ys[i]? with
   |none=>exact .inr (oF.mp (r2.none ey))
   |some q=>rw[ex,ey] at e;cases e
 ·have e:(List.zipWith (λp q=>D.tup [p,q]) xs ys)[i]?=some d:=cD e;rw[QD] at e;cases ex:xs[i]? with
  |none=>rw[ex] at e;cases e
  |some p=>
   cases ey:ys[i]? with
   |none=>rw[ex,ey] at e;cases e
   |some q=>
    obtain⟨u,q1,_⟩:=r1.get ex;obtain⟨v,q2,_⟩:=r2.get ey;exact⟨us,vs,u,v,(h1.later hz x o).sk,(h2.later hz x o).sk,q1,q2⟩
 ·have e:(List.zipWith (λp q=>D.tup [p,q]) xs ys)[i]?=some d:=cD e;rw[QD] at e;cases ex:xs[i]? with
  |none=>rw[ex] at e;cases e
  |some p=>
   cases ey:ys[i]? with
   |none=>rw[ex,ey] at e;cases e
   |some q=>
    rw[ex,ey] at e;cases e;obtain⟨a,u,w,hn,rfl,rfl,hu,hw⟩:=y;obtain⟨u',q1,ru⟩:=((r1.mono x hz).out o).get ex;obtain⟨w',q2,lu⟩:=((r2.mono x hz).out o).get ey;have e1:=hu us (h1.later hz x o).sk;have e2:=hw vs (h2.later hz x o).sk;rw[q1] at e1;rw[q2] at e2;cases e1;cases e2;have g:bf H' (upd H' a (.tup [u,w])):=bf.new hn;exact⟨g,.tup (.inl ⟨.inl jC,hS.nz hn⟩) (.cons (ru.mono g.ext hS.lz) (.cons (lu.mono g.ext hS.lz) .nil))⟩
theorem Xe(r:aV K cA U H x v)(h:Run K cA (M.bd (nW x) k) U H s P Ee) :
  ∃xs kd a vs,v=.ref a/\iK K U H kd a vs/\aB K cA U H xs vs/\Run K cA (k xs) U H s P Ee:=by
 cases r with
 |l _=>exact h.elim
 |d r=>
  cases r with
  |tup q r=>exact⟨_,false,_,_,rfl,q,r,h⟩
  |fl q r=>exact⟨_,true,_,_,rfl,q,r,h⟩
  |_=>exact h.elim
end
section
variable {X:Cx}{cA:Cl}{aq:Nat->Nat->Bool}{aj:Bool}{F:Fn}{EX:XS}{a b:Expr}{A B:E}{pos pp tpos:Pos}{elts:List Expr}{kk:Nat}
theorem zk5(n8:Gl X "zip")(hmg:X.mg "zip"=none)(ha:SE X cA aq aj F EX a A)(hb:SE X cA aq aj F EX b B)(h1:starEach [a,b] X.env=(false,eval a X.env)::starEach [b] X.env)(h2:starEach [b] X.env=(false,eval b X.env)::starEach [] X.env) :
  SI X cA aq aj F EX (.Tuple elts kk tpos) (.Call (.Name "zip" pp) [a,b] [] pos) (.zip A B):=PI.weak (zlb n8 hmg (tO ha (tO hb yG h2) h1) (by rw[h1,h2];rfl) (by rw[h2];rfl)) λZ H R hh=>un hh λU J s hL hS h=>by
 refine aW hL hS h λx H1 U1 d1 s1 x1 hL1 aJ r1 h1=>aW hL1 aJ h1 λy H2 U2 d2 s2 x2 hL2 aU r2 h2=>?_;obtain⟨xs,k1,l1,us,e1,q1,p1,h3⟩:=Xe (r1.mono x2 aJ.lz) h2;obtain⟨ys,k2,l2,vs,e2,q2,p2,h4⟩:=Xe r2 h3;subst e1 e2;exact⟨k1,k2,l1,l2,us,vs,rfl,q1.sk,q2.sk,(h4.bH aU) _ (jo.zip aU.lz q1 q2 p1 p2)⟩
theorem zms(hmg:X.mg "zip"=none)(n8:JK X "zip" .globalImplicit)(ha:JE X cA aq aj F EX a A)(hb:JE X cA aq aj F EX b B)(h1:aD a=true:=by rfl)(h2:aD b=true:=by rfl):JI X cA aq aj F EX (.Tuple elts kk tpos) (.Call (.Name "zip" p) [a,b] [] pos) (.zip A B):=⟨zk5 n8.o hmg ha.o hb.o (bB h1) (bB h2)⟩
end
section
variable {K:W.Frag}{cA:Cl}{U:Ph}{H:Hp}
end
section
variable {X:Cx}
end
section
variable {X:Cx}{cA:Cl}{aq:Nat->Nat->Bool}{aj:Bool}{F:Fn}{EX:XS}{e:Expr}{pos p:Pos}{es:List Expr}{Xs:Es}{fz:Bool}
end
noncomputable def BP(i:Int)(n:Nat):List V:=(List.range n).map λk=>.int (i+(k:Nat))
theorem zji{i:Int}{acc:Array Value}:∀{n m:Nat},(∀k v,acc.toList[k]?=some (v:Value)->∃t,v=Value.int (i+((m+k:Nat):Int)) t)->acc.toList.length=n->Vals ((List.range n).map λk=>V.int (i+((m+k:Nat):Int))) acc.toList:=by
 generalize acc.toList=l
 induction l with
 |nil=>intro n m _ e;subst e;exact .nil
 |cons v l ih=>
  intro n m h e;subst e;rw[fZ,Lq,iU,uE];refine .cons (h 0 v rfl) ?_;have:=ih (n:=l.length) (m:=m+1) (λk v e=>by
   have:=h (k+1) v e;rw[show m+1+k=m+(k+1) by lia];exact this) rfl
  have e:((λk=>V.int (i+((m+k:Nat):Int)))∘Nat.succ)=λk=>V.int (i+((m+1+k:Nat):Int)):=by
   funext k
   show V.int (i+((m+(k+1):Nat):Int))=_;rw[show m+(k+1)=m+1+k by lia]
  rw[e];exact this
section
variable {X:Cx}
end
section
variable {K:W.Frag}{cA:Cl}{U:Ph}{H:Hp}
theorem Xf:∀l:List Nat,aB K cA U H (l.map λk=>D.int (i+(k:Nat))) (l.map λk=>V.int (i+(k:Nat)))
 |[]=>.nil
 |_::l=>.cons (.int _) (Xf l)
end
section
variable {X:Cx}{cA:Cl}{aq:Nat->Nat->Bool}{aj:Bool}{F:Fn}{EX:XS}{e:Expr}{pos pos' p p':Pos}{es:List Expr}{Xs:Es}{fz:Bool}
end
end Mi
namespace Mi
open PySem PySem.Spec PyProof.Rows L2 PySem.W
structure D3(K:Frag)(mg:Str->Option Value)(x:Str)(st:Stmt)(ps:List Str):Prop where
 f:mW K x x st (gR K x) (fdOf K x st)
 m:mg x=some (.ref (gR K x))
 b:Binds K (fdOf K x st) ps []
theorem dk{p:Prop}(h:p:=by decide +kernel):p:=h
section
variable {fs:List (Str×Stmt)}{ms:List qU}{xs:List (Nat×Str)}{lk:Lk}{K:Frag}{h:Heap}{mg:Str->Option Value}{x:Str}{st:Stmt}
theorem sy(S:m5 fs ms xs lk K)(X:K.In h)(G:h.Ns mainGlobals mg)(j:Nat)(hj:fs[j]?=some (x,st):=by rfl)(hb:∀(kV doc pm:Value) (an:Option Addr) (cdv ct a:Value),bindArgs (fnOf x x (aP st) (aK st) (au st) .none kV doc pm an cdv ct) ⟨[a],[]⟩=pure [(p,a)]:=by intros;rfl):D3 K mg x st [p]:=have F:=S.fn (x,st) (eZ hj);⟨F.fn,F.m X G,vJ F.fn hb⟩
theorem oh(S:m5 fs ms xs lk K)(X:K.In h)(G:h.Ns mainGlobals mg)(j:Nat)(hj:fs[j]?=some (x,st):=by rfl)(hb:∀(kV doc pm:Value) (an:Option Addr) (cdv ct a b:Value),bindArgs (fnOf x x (aP st) (aK st) (au st) .none kV doc pm an cdv ct) ⟨[a,b],[]⟩=pure [(p,a),(q,b)]:=by intros;rfl):D3 K mg x st [p,q]:=have F:=S.fn (x,st) (eZ hj);⟨F.fn,F.m X G,vK F.fn hb⟩
theorem xq(S:m5 fs ms xs lk K)(X:K.In h)(G:h.Ns mainGlobals mg)(j:Nat)(hj:fs[j]?=some (x,st):=by rfl)(hb:∀(kV doc pm:Value) (an:Option Addr) (cdv ct a b c:Value),bindArgs (fnOf x x (aP st) (aK st) (au st) .none kV doc pm an cdv ct) ⟨[a,b,c],[]⟩=pure [(p,a),(q,b),(t,c)]:=by intros;rfl):D3 K mg x st [p,q,t]:=have F:=S.fn (x,st) (eZ hj);⟨F.fn,F.m X G,vL F.fn hb⟩
theorem Xg(S:m5 fs ms xs lk K)(X:K.In h)(G:h.Ns mainGlobals mg)(j:Nat)(hj:fs[j]?=some (x,st):=by rfl)(hb:∀(kV doc pm:Value) (an:Option Addr) (cdv ct a b c d:Value),bindArgs (fnOf x x (aP st) (aK st) (au st) .none kV doc pm an cdv ct) ⟨[a,b,c,d],[]⟩=pure [(p,a),(q,b),(t,c),(u,d)]:=by intros;rfl):D3 K mg x st [p,q,t,u]:=have F:=S.fn (x,st) (eZ hj);⟨F.fn,F.m X G,vM F.fn hb⟩
theorem mG{α:Type}{l:List α}{a:α}(j:Nat)(h:l[j]?=some a:=by rfl):a∈l:=eZ h
end
end Mi
namespace Mi
open PySem PySem.Spec PyProof.Rows L2
section
variable {X:Cx}{cA:Cl}
end
section
variable {X:Cx}{cA:Cl}{aq:Nat->Nat->Bool}{aj:Bool}{F:Fn}{EX:XS}{e:Expr}{pos p:Pos}{es:List Expr}{Xs:Es}{fz:Bool}
end
end Mi
namespace Mi
open PySem
def W{α:Type}(m:M α)(s:S)(P:α->S->Prop):Prop:=∃a s',m s=some (.ok a,s')/\P a s'
def WS(m:MS)(s:S)(Q:Out->S->Prop):Prop:=∃o s',m s=some (o,s')/\Q o s'
section
variable {α β:Type}{m:M α}{k:α->M β}{s:S}{P:α->S->Prop}{R:β->S->Prop}
theorem W.bd(h:W m s λa s'=>W (k a) s' R):W (M.bd m k) s R:=by
 obtain⟨a,s',e,b,s2,e2,r⟩:=h;exact⟨b,s2,by unfold M.bd;rw[e];exact e2,r⟩
theorem W.ret{a:α}(h:P a s):W (M.ret a) s P:=⟨a,s,rfl,h⟩
theorem W.qt(h:W m s P):W (M.qt m) s P:=by
 obtain⟨a,s',e,p⟩:=h;exact⟨a,s',by unfold M.qt;rw[e],p⟩
theorem W.opt(e:o=some a)(h:P a s):W (M.opt o) s P:=by subst e;exact⟨a,s,rfl,h⟩
theorem W.imp{P':α->S->Prop}(h:W m s P)(f:∀a s',P a s'->P' a s'):W m s P':=let ⟨a,s',e,p⟩:=h;⟨a,s',e,f a s' p⟩
theorem W.eq(e:m s=some (.ok a,s'))(p:P a s'):W m s P:=⟨a,s',e,p⟩
theorem Ka1{d:D}{P:D->S->Prop}(h:P d s):W (rd (.d d)) s P:=⟨d,s,rfl,h⟩
theorem Xh{n:Nat}{xs:List D}{P:D->S->Prop}(e:s[n]?=some (.lst xs))(h:P (.fl xs) s):W (rd (.l n)) s P:=⟨.fl xs,s,by unfold rd;simp only[e],h⟩
theorem Ka4{P:List D->S->Prop}(h:P [] s):W (fO []) s P:=⟨[],s,rfl,h⟩
theorem Ka3{x:Xv}{r:List Xv}{P:List D->S->Prop}(h:W (rd x) s λd s1=>W (fO r) s1 λds s2=>P (d::ds) s2):W (fO (x::r)) s P:=W.bd (h.imp λd s1 h1=>W.bd (h1.imp λds s2 h2=>W.ret h2))
theorem Xi{P:List D->S->Prop}(h:P [] s):W (cg []) s P:=⟨[],s,rfl,h⟩
theorem QF{d:D}{r:List Xv}{P:List D->S->Prop}(h:W (cg r) s λds s2=>P (d::ds) s2):W (cg (.d d::r)) s P:=W.bd (W.ret (W.bd (h.imp λds s2 h2=>W.ret h2)))
theorem W.dat{x:D}{P:D->S->Prop}(h:P x s):W (dat (.d x)) s P:=⟨x,s,rfl,h⟩
theorem W.bool{b:Bool}{P:Bool->S->Prop}(h:P b s):W (bool (.d (.bl b))) s P:=⟨b,s,rfl,h⟩
theorem W.int{b:Int}{P:Int->S->Prop}(h:P b s):W (int (.d (.int b))) s P:=⟨b,s,rfl,h⟩
theorem fU{fz:Bool}{o:Option Rz}{d:D}{P:Xv->S->Prop}(e:o=some (.dat d))(h:P (.d d) s):W (bT fz o) s P:=by subst e;exact⟨_,s,rfl,h⟩
theorem BR{o:Option Rz}{xs:List D}{P:Xv->S->Prop}(e:o=some (.nw xs))(h:P (.d (.fl xs)) s):W (bT true o) s P:=by subst e;exact⟨_,s,rfl,h⟩
theorem KaR{xs:List D}{P:Xv->S->Prop}(h:P (.d (.fl xs)) s):W (newL true xs) s P:=⟨_,s,rfl,h⟩
theorem KaQ{xs:List D}{P:Xv->S->Prop}(h:P (.l s.length) (s++[.lst xs])):W (newL false xs) s P:=⟨_,_,rfl,h⟩
theorem nj{F:List Xv->M Xv}{xs:List Xv}{P:Xv->S->Prop}(hl:locs xs=[])(h:W (F (cZ 0 xs)) [] λv _=>∃d,v=.d d/\P (.d d) s):W (cB F xs) s P:=by
 obtain⟨v,s1,e,d,rfl,p⟩:=h;refine⟨.d d,s,?_,p⟩;unfold cB;rw[hl,if_pos Aq];simp only[i_,e,cP]
theorem Kan{F:List Xv->M Xv}{xs:List Xv}{P:Xv->S->Prop}(hl:locs xs=[])(h:W (F (cZ 0 xs)) [] λv s1=>∃n o,v=.l n/\s1[n]?=some o/\P (.l s.length) (s++[o])):W (cB F xs) s P:=by
 obtain⟨v,s1,e,n,o,rfl,eo,p⟩:=h;refine⟨.l s.length,s++[o],?_,p⟩;unfold cB;rw[hl,if_pos Aq];simp only[i_,e,cP,List.getElem?_nil,eo]
theorem QG{F:List Xv->M Xv}{xs:List Xv}{n:Nat}{o:SO}{P:Xv->S->Prop}(hl:locs xs=[n])(ho:s[n]?=some o)(h:W (F (cZ 0 xs)) [o] λv s1=>∃d o',v=.d d/\s1=[o']/\P (.d d) (s.set n o')):W (cB F xs) s P:=by
 obtain⟨v,s1,e,d,o',rfl,rfl,p⟩:=h;refine⟨.d d,s.set n o',?_,p⟩;unfold cB;rw[hl,if_pos (by simp)];simp only[i_,ho,e,cP]
end
section
variable {s:S}{Q:Out->S->Prop}
theorem WS.ofM(h:W m s λa s'=>WS (k a) s' Q):WS (Mi.ofM m J k) s Q:=by
 obtain⟨a,s',e,o,s2,e2,q⟩:=h;exact⟨o,s2,by unfold Mi.ofM;rw[e];exact e2,q⟩
theorem WS.nx(h:Q (.nx J) s):WS (λs=>some (.nx J,s)) s Q:=⟨_,s,rfl,h⟩
theorem WS.rt(h:Q (.rt x) s):WS (λs=>some (.rt x,s)) s Q:=⟨_,s,rfl,h⟩
theorem WS.imp(h:WS m s Q)(f:∀o s',Q o s'->Q' o s'):WS m s Q':=let ⟨a,s',e,p⟩:=h;⟨a,s',e,f a s' p⟩
end
theorem W.call(hT:T f=some d)(hl:xs.length=d.gP)
  (h:WS (exs aq aj (λc=>Mi.call aq T k c) d.body (xs.map some++List.replicate (d.many-d.gP) none)) s λo s'=>match o with|.nx _=>P (.d .non) s'|.rt v=>P v s'|_=>False):W (Mi.call aq T (k+1) aj f xs) s P:=by
 obtain⟨o,s',e,q⟩:=h;unfold Mi.call;simp only[hT,if_pos hl];unfold W;simp only[e];cases o with
 |nx J=>exact⟨_,_,rfl,q⟩
 |rt v=>exact⟨_,_,rfl,q⟩
 |bk J=>exact q.elim
 |ct J=>exact q.elim
 |er c fs J=>exact q.elim
theorem zP(I:Nat->Vs->S->Prop)(h0:I 0 J s)(hb:∀i x J s,c[i]?=some x->I i J s->WS (b x J) s λo s'=>∃J',o=.nx J'/\I (i+1) J' s')
  (he:∀J s,I c.length J s->Q (.nx J) s):WS (dj (.fix c) b (c.length+1) 0 J) s Q:=by
 have key:∀n i J s,i+n=c.length->I i J s->WS (dj (.fix c) b (n+1) i J) s Q:=by
  intro n
  induction n with
  |zero=>
   intro i J s hi hI;have e:c[i]?=none:=by rw[oF];lia
   have:i=c.length:=by lia
   subst this;refine⟨_,s,?_,he J s hI⟩;unfold dj;simp only[Src.at,e]
  |succ n ih=>
   intro i J s hi hI;have dh:i<c.length:=by lia
   have e:c[i]?=some c[i]:=cT dh;obtain⟨o,s',eb,J',rfl,GZ⟩:=hb i c[i] J s e hI;obtain⟨o2,s2,e2,q⟩:=ih (i+1) J' s' (by lia) GZ;refine⟨o2,s2,?_,q⟩;unfold dj;simp only[Src.at,e,eb];exact e2
 exact key c.length 0 J s (by lia) h0
theorem znh{i j:Int}(h:(-(2^64)<i/\i<2^64)\/(-(2^64)<j/\j<2^64)):prim .mul [.int i,.int j]=some (.dat (.int (i*j))):=by
 show Option.map _ (if _ then _ else _)=_;rw[if_pos h];rfl
theorem znf{i j:Int}(h:0<j):prim .mod [.int i,.int j]=some (.dat (.int (i%j))):=by
 show Option.map _ (if _ then _ else _)=_;rw[if_pos h];rfl
theorem zkF{i j:Int}(h:0<j/\j<1073741824):prim .fdiv [.int i,.int j]=some (.dat (.int (i/j))):=by
 show Option.map _ (if _ then _ else _)=_;rw[if_pos h];rfl
theorem zg0{i j:Int}(h:0<j/\j<1073741824):prim .divmod [.int i,.int j]=some (.dat (.tup [.int (i/j),.int (i%j)])):=by
 show Option.map _ (if _ then _ else _)=_;rw[if_pos h];rfl
theorem zmS{i j:Int}(h:0<=j/\j<=1000000/\i.natAbs<2^64):prim .pow [.int i,.int j]=some (.dat (.int (i^j.toNat))):=by
 show Option.map _ (if _ then _ else _)=_;rw[if_pos h];rfl
theorem G3{xs:List D}{i:Nat}{x:D}(h:xs[i]?=some x):prim .ix [.fl xs,.int i]=some (.dat x):=by
 show Option.map Rz.dat (L2.oU xs i)=_;have:L2.oU xs (i:Int)=some x:=by
  unfold L2.oU L2.pW;have hl:i<xs.length:=(dX.mp h).1;simp[hl];exact(dX.mp h).2
 rw[this];rfl
theorem Xj(h:xs.length+ys.length<=sizeLine):prim .add [.fl xs,.fl ys]=some (.nw (xs++ys)):=by
 show (if _ then _ else _)=_;rw[if_pos h]
theorem W.ite[Decidable c](h1:c->W m1 s P)(h2:¬c->W m2 s P):W (if c then m1 else m2) s P:=by
 by_cases h:c
 ·rw[if_pos h];exact h1 h
 ·rw[if_neg h];exact h2 h
theorem WS.ite[Decidable c](h1:c->WS m1 s P)(h2:¬c->WS m2 s P):WS (if c then m1 else m2) s P:=by
 by_cases h:c
 ·rw[if_pos h];exact h1 h
 ·rw[if_neg h];exact h2 h
theorem QJ{n:Nat}{xs:List D}{s:S}{P:Unit->S->Prop}(h:P () (s.set n (.lst xs))):W (putL n xs) s P:=⟨_,_,rfl,h⟩
theorem W.cL{n:Nat}{xs:List D}{s:S}{P:Nat×List D->S->Prop}(e:s[n]?=some (.lst xs))(h:P (n,xs) s):W (cL (.l n)) s P:=⟨_,s,by unfold Mi.cL;simp only[e],h⟩
theorem Ka6{xs:List D}{s:S}{P:Src×Nat->S->Prop}(h:P (.fix xs,xs.length) s):W (src (.d (.tup xs))) s P:=⟨_,s,rfl,h⟩
theorem Ka5{xs:List D}{s:S}{P:Src×Nat->S->Prop}(h:P (.fix xs,xs.length) s):W (src (.d (.fl xs))) s P:=⟨_,s,rfl,h⟩
theorem WS.nil{aq:Nat->Nat->Bool}{aj:Bool}{F:Bool->Fn}{J:Vs}{s:S}{Q:Out->S->Prop}(h:Q (.nx J) s):WS (exs aq aj F .nil J) s Q:=⟨_,s,rfl,h⟩
theorem WS.cons{aq:Nat->Nat->Bool}{aj:Bool}{F:Bool->Fn}{a:St}{r:bU}{J:Vs}{s:S}{Q:Out->S->Prop}(h:WS (ex aq aj F a J) s λo s'=>match o with|.nx J'=>WS (exs aq aj F r J') s' Q|.rt x=>Q (.rt x) s'|_=>False):WS (exs aq aj F (.cons a r) J) s Q:=by
 obtain⟨o,s',e,q⟩:=h;unfold WS exs Mi.cC;rw[e];cases o with
 |nx J'=>exact q
 |rt x=>exact⟨_,_,rfl,q⟩
 |bk _=>exact q.elim
 |ct _=>exact q.elim
 |er _ _ _=>exact q.elim
def sE{α:Type}(o:Option α)(P:α->Prop):Prop:=∃a,o=some a/\P a
theorem sE.mk{α:Type}{o:Option α}{P:α->Prop}{a:α}(e:o=some a)(h:P a):sE o P:=⟨a,e,h⟩
section
variable {aq:Nat->Nat->Bool}{aj:Bool}{F:Fn}{J:Vs}{s:S}{P:Xv->S->Prop}
theorem W.eC{d:D}(h:P (.d d) s):W (ev aq aj F (.c d) J) s P:=W.ret h
theorem W.eV{i:Nat}{x:Xv}(e:J[i]?.join=some x)(h:P x s):W (ev aq aj F (.v i) J) s P:=W.opt e h
theorem Xk{fz:Bool}{p:Pr}{xs:Es}(h:W (evs aq aj F xs J) s λvs s1=>W (fO vs) s1 λds s2=>W (bT fz (prim p ds)) s2 P):W (ev aq aj F (.pr fz p xs) J) s P:=W.bd (h.imp λ_ _ h=>W.bd h)
theorem Kay{a b:E}(h:W (ev aq aj F a J) s λx s1=>W (Mi.bool x) s1 λk s2=>W (if k=true then ev aq aj F b J else M.ret (.d (.bl false))) s2 P):W (ev aq aj F (.and a b) J) s P:=W.bd (h.imp λ_ _ h=>W.bd h)
theorem KaG{a b:E}(h:W (ev aq aj F a J) s λx s1=>W (Mi.bool x) s1 λk s2=>W (if k=true then M.ret (.d (.bl true)) else ev aq aj F b J) s2 P):W (ev aq aj F (.or a b) J) s P:=W.bd (h.imp λ_ _ h=>W.bd h)
theorem KaF{a:E}(h:W (ev aq aj F a J) s λx s1=>W (Mi.bool x) s1 λk s2=>P (.d (.bl (!k))) s2):W (ev aq aj F (.not a) J) s P:=W.bd (h.imp λ_ _ h=>W.bd (h.imp λ_ _ h=>W.ret h))
theorem KaJ{xs:Es}(h:W (evs aq aj F xs J) s λvs s1=>W (cg vs) s1 λds s2=>P (.d (.tup ds)) s2):W (ev aq aj F (.tup xs) J) s P:=W.bd (h.imp λ_ _ h=>W.bd (h.imp λ_ _ h=>W.ret h))
theorem KaE{fz:Bool}{xs:Es}(h:W (evs aq aj F xs J) s λvs s1=>W (cg vs) s1 λds s2=>W (newL fz ds) s2 P):W (ev aq aj F (.lst fz xs) J) s P:=W.bd (h.imp λ_ _ h=>W.bd h)
theorem KaB{k:Str}{i:Int}(h:P (.d (.fd [.str k] [.int i])) s):W (ev aq aj F (.Fy k i) J) s P:=W.ret h
theorem Xl{f:Nat}{xs:Es}(h:W (evs aq aj F xs J) s λvs s1=>W (cB (F f) vs) s1 P):W (ev aq aj F (.call f xs) J) s P:=W.bd h
theorem KaI{fz:Bool}{a:E}{lo hi:Eo}(h:W (ev aq aj F a J) s λx s1=>W (uZ aq aj F lo J) s1 λl s2=>W (uZ aq aj F hi J) s2 λu s3=>W (rd x) s3 λd s4=>W (bT fz (cutD d l u)) s4 P):W (ev aq aj F (.sl fz a lo hi) J) s P:=W.bd (h.imp λ_ _ h=>W.bd (h.imp λ_ _ h=>W.bd (h.imp λ_ _ h=>W.bd h)))
theorem KaS{P:Option Int->S->Prop}(h:P none s):W (uZ aq aj F .no J) s P:=W.ret h
theorem KaT{a:E}{P:Option Int->S->Prop}(h:W (ev aq aj F a J) s λx s1=>W (Mi.int x) s1 λi s2=>P (some i) s2):W (uZ aq aj F (.yes a) J) s P:=W.bd (h.imp λ_ _ h=>W.bd (h.imp λ_ _ h=>W.ret h))
theorem Xm{P:List Xv->S->Prop}(h:P [] s):W (evs aq aj F .nil J) s P:=W.ret h
theorem Xn{a:E}{r:Es}{P:List Xv->S->Prop}(h:W (ev aq aj F a J) s λx s1=>W (evs aq aj F r J) s1 λxs s2=>P (x::xs) s2):W (evs aq aj F (.cons a r) J) s P:=W.bd (h.imp λ_ _ h=>W.bd (h.imp λ_ _ h=>W.ret h))
theorem KaO{a:E}{P:Src×Nat->S->Prop}(h:W (ev aq aj F a J) s λx s1=>W (src x) s1 P):W (lQ aq aj F (.seq a) J) s P:=W.bd h
end
section
variable {aq:Nat->Nat->Bool}{aj:Bool}{F:Bool->Fn}{J:Vs}{s:S}{Q:Out->S->Prop}
theorem WS.QK{b:Bool}{m1 m2:MS}(e:b=true)(h:WS m1 s Q):WS (if b=true then m1 else m2) s Q:=by rw[if_pos e];exact h
theorem WS.Kp{b:Bool}{m1 m2:MS}(e:b=false)(h:WS m2 s Q):WS (if b=true then m1 else m2) s Q:=by rw[if_neg (by rw[e];decide)];exact h
theorem WS.xr{m1 m2:MS}(h:WS m1 s Q):WS (if true=true then m1 else m2) s Q:=by rw[if_pos rfl];exact h
theorem WS.QL{m1 m2:MS}(h:WS m2 s Q):WS (if false=true then m1 else m2) s Q:=by rw[if_neg (by decide)];exact h
theorem Kbd{e:E}(h:W (ev aq aj (F aj) e J) s λ_ s1=>Q (.nx J) s1):WS (ex aq aj F (.ex e) J) s Q:=WS.ofM (h.imp λ_ _ h=>WS.nx h)
theorem Xo{i:Nat}{e:E}(h:W (ev aq aj (F aj) e J) s λx s1=>Q (.nx (J.set i (some x))) s1):WS (ex aq aj F (.asg (.nm i) e) J) s Q:=WS.ofM (h.imp λ_ _ h=>WS.nx h)
theorem Kbl{is:List Nat}{e:E}(h:W (ev aq true (F true) e J) s λx s1=>W (dat x) s1 λd s2=>sE ((jW d).bind λds=>gj is (ds.map .d) J) λJ'=>Q (.nx J') s2):WS (ex aq true F (.asg (.tp is) e) J) s Q:=by
 refine WS.ofM (h.imp λx s1 h=>?_);exact WS.xr (m2:=λ_=>none) (WS.ofM (W.bd (h.imp λd s2 ⟨J',e,q⟩=>W.opt e (WS.nx q))))
theorem Kbk{o i e:E}(h:W (ev aq aj (F aj) e J) s λx s1=>W (dat x) s1 λd s2=>W (ev aq aj (F aj) o J) s2 λy s3=>W (ev aq aj (F aj) i J) s3 λz s4=>W (Mi.int z) s4 λj s5=>W (cL y) s5 λnx s6=>sE (L2.pW nx.2.length j) λq=>Q (.nx J) (s6.set nx.1 (.lst (nx.2.set q d)))):WS (ex aq aj F (.asg (.aq o i) e) J) s Q:=by
 refine WS.ofM (h.imp λx s1 h=>WS.ofM (W.bd (h.imp λd s2 h=>W.bd (h.imp λy s3 h=>W.bd (h.imp λz s4 h=>W.bd (h.imp λj s5 h=>W.bd (h.imp λnx s6 h=>?_)))))));obtain⟨q,e,h⟩:=h;simp only[e];exact QJ (WS.nx h)
theorem Kbh{i j:Nat}{a b:E}(h:W (ev aq true (F true) a J) s λx s1=>W (ev aq true (F true) b J) s1 λy s2=>Q (.nx ((J.set i (some x)).set j (some y))) s2):WS (ex aq true F (.par i j a b) J) s Q:=by
 exact WS.xr (m2:=λ_=>none) (WS.ofM (W.bd (h.imp λx s1 h=>W.bd (h.imp λy s2 h=>W.ret (WS.nx h)))))
theorem Xp{e:E}(h:W (ev aq aj (F aj) e J) s λx s1=>Q (.rt x) s1):WS (ex aq aj F (.ret e) J) s Q:=WS.ofM (h.imp λ_ _ h=>WS.rt h)
theorem Xq{c:E}{t e:bU}(h:W (ev aq aj (F aj) c J) s λx s1=>W (Mi.bool x) s1 λb s2=>WS (if b=true then exs aq aj F t J else exs aq aj F e J) s2 Q):WS (ex aq aj F (.iff c t e) J) s Q:=WS.ofM (W.bd h)
theorem Kbe{t:Tg}{w:Wk}{b:bU}(h:W (lQ aq true (F true) w J) s λcn s1=>WS (dj cn.1 (λd J=>Mi.cC (store aq true (F true) t (.d d) J) λJ'=>exs aq true F b J') (cn.2+1) 0 J) s1 Q):WS (ex aq true F (.fr t w b) J) s Q:=by
 exact WS.xr (m2:=λ_=>none) (WS.ofM h)
end
theorem W.QK{α:Type}{b:Bool}{m1 m2:M α}{s:S}{P:α->S->Prop}(e:b=true)(h:W m1 s P):W (if b=true then m1 else m2) s P:=by rw[if_pos e];exact h
theorem W.Kp{α:Type}{b:Bool}{m1 m2:M α}{s:S}{P:α->S->Prop}(e:b=false)(h:W m2 s P):W (if b=true then m1 else m2) s P:=by rw[if_neg (by rw[e];decide)];exact h
theorem W.xr{α:Type}{m1 m2:M α}{s:S}{P:α->S->Prop}(h:W m1 s P):W (if true=true then m1 else m2) s P:=by rw[if_pos rfl];exact h
theorem W.QL{α:Type}{m1 m2:M α}{s:S}{P:α->S->Prop}(h:W m2 s P):W (if false=true then m1 else m2) s P:=by rw[if_neg (by decide)];exact h
structure Bx(R:Prop):Prop where
 o:R
end Mi
namespace Mi
open PySem PySem.W PyProof.Rows L2
abbrev cj(n:Nat)(p:Array Nat):Prop:=p.Perm (List.range n).toArray
theorem cj.lt(h:cj n p)(hn:0<n)(i:Nat):p.getD i 0<n:=by
 by_cases hi:i<p.size
 ·have e:p.getD i 0=p[i]:=by simp[Array.getD,hi]
  rw[e];have hm:p[i]∈(List.range n).toArray:=h.mem_iff.mp (Array.getElem_mem hi);simpa using hm
 ·have e:p.getD i 0=0:=by simp[Array.getD,hi]
  rw[e];exact hn
theorem cj.rev(h:cj n p)(i j:Nat):cj n (kas_rev p i j):=(mirror_perm p i j _).trans h
theorem cj.bub(h:cj n p)(i j:Nat):cj n (bubble p i j):=(bubble_perm p i j).trans h
def gC{α:Type}(lt:Nat->Nat->Option Bool)(t:KasT α)(P:α->Prop):Prop:=∃a,bF lt t=some a/\P a
section
variable {α β:Type}{lt:Nat->Nat->Option Bool}{n:Nat}
theorem gC.ret(h:P a):gC lt (.ret a) P:=⟨a,rfl,h⟩
theorem gC.bind(hf:∀a,P a->gC lt (f a) R):∀{t:KasT α},gC lt t P->gC lt (t.bind f) R
 |.ret a,⟨a',e,h⟩=>by cases e;exact hf _ h
 |.ask i j k,⟨a',e,h⟩=>by
  unfold bF at e;cases el:lt i j with
  |none=>rw[el] at e;cases e
  |some b=>
   rw[el] at e;obtain⟨c,e1,h1⟩:=gC.bind hf (t:=k b) ⟨a',e,h⟩;refine⟨c,?_,h1⟩;show bF lt (.ask i j λb=>(k b).bind f)=some c;unfold bF;rw[el];exact e1
def Tot(n:Nat)(lt:Nat->Nat->Option Bool):Prop:=∀i j,i<n->j<n->∃b,lt i j=some b
variable (ht:Tot n lt)(hn:0<n)
include ht hn
end
section
variable {lt:Nat->Nat->Option Bool}{n:Nat}
theorem Xr(h:∀k,1<=k->k<n->lt (p.getD k 0) (p.getD (k-1) 0)=some false):∀f k,1<=k->k+f=n->gC lt (kas_asc p f k) λr=>r=n
 |0,k,h1,e=>.ret (by lia)
 |f+1,k,h1,e=>by
  obtain⟨a,e1,e2⟩:=Xr h f (k+1) (by lia) (by lia);refine⟨a,?_,e2⟩;unfold kas_asc bF;rw[h k h1 (by lia)];exact e1
theorem Xu(hk:k<n):(List.range n).toArray.getD k 0=k:=by
 simp[Array.getD,hk]
theorem zgq(hn:0<n)(h:∀k,k+1<n->lt (k+1) k=some false):bF lt (kas_sort n)=some (List.range n).toArray:=by
 have h1:gC lt (kas_asc (List.range n).toArray (n-1) 1) λr=>r=n:=Xr (λk a b=>by
  rw[Xu b,Xu (by lia)];have:=h (k-1) (by lia)
  rwa [show k-1+1=k by lia] at this) _ _ (bI _) (by lia)
 have h2:gC lt (kas_count n (List.range n).toArray) λr=>r=(n,(List.range n).toArray):=by
  refine gC.bind (λr hr=>?_) h1;subst hr;rw[if_pos (by simp)];exact .ret rfl
 have h3:gC lt (kas_sort n) λr=>r=(List.range n).toArray:=by
  refine gC.bind (λr hr=>?_) h2;subst hr;rw[if_neg (oH _)];exact .ret rfl
 obtain⟨a,e,rfl⟩:=h3;exact e
end
theorem zg5(hk:(xs.all iw||xs.all gb)=true)(rz:xs.length<64)(h:∀k,k+1<xs.length->tU xs (k+1) k=some false):qG xs=some xs:=by
 unfold qG;rw[if_pos hk];unfold mU;by_cases h2:xs.length<2
 ·rw[if_pos h2]
 ·rw[if_neg h2,if_pos rz,zgq (by lia) h];dsimp only;rw[if_pos (by simp)]
  congr 1
  apply List.ext_getElem
  ·simp
  ·intro i a b;simp[jh,b]
noncomputable def bN(p:Int×Int):D:=.tup [.int p.1,.int p.2]
end Mi
namespace Mi
open PySem
theorem W.walk{c:List D}{f:D->List D->M (List D)}{s:S}{acc:List D}{P:List D->S->Prop}(I:Nat->List D->S->Prop)(h0:I 0 acc s)(hb:∀i x acc s,c[i]?=some x->I i acc s->W (f x acc) s λa s'=>I (i+1) a s')
  (he:∀acc s,I c.length acc s->P acc s):W (Mi.walk (.fix c) f (c.length+1) 0 acc) s P:=by
 have key:∀n i acc s,i+n=c.length->I i acc s->W (Mi.walk (.fix c) f (n+1) i acc) s P:=by
  intro n
  induction n with
  |zero=>
   intro i acc s hi hI;have e:c[i]?=none:=by rw[oF];lia
   have:i=c.length:=by lia
   subst this;refine⟨acc,s,?_,he acc s hI⟩;unfold Mi.walk;simp only[Src.at,e]
  |succ n ih=>
   intro i acc s hi hI;have dh:i<c.length:=by lia
   have e:c[i]?=some c[i]:=cT dh;obtain⟨a,s',eb,GZ⟩:=hb i c[i] acc s e hI;obtain⟨a2,s2,e2,q⟩:=ih (i+1) a s' (by lia) GZ;refine⟨a2,s2,?_,q⟩;unfold Mi.walk;simp only[Src.at,e,M.bd,eb];exact e2
 exact key c.length 0 acc s (by lia) h0
section
variable {aq:Nat->Nat->Bool}{F:Fn}{J:Vs}{s:S}{P:Xv->S->Prop}
theorem Kar{fz:Bool}{elt:E}{tg:List Nat}{it:Wk}{fr:List Nat}{many:Nat}{cond:Eo}{c:List D}(g:D->Option D)(hc:c.length<=sizeLine)
  (hw:W (lQ aq true F it J) s λcn s1=>cn=(.fix c,c.length)/\s1=s)
  (hb:∀x∈c,∃J',gO tg x (blk many fr J)=some J'/\W (qd aq true F cond J') s λb s1=>s1=s/\(if b=true then W (ev aq true F elt J') s λy s2=>s2=s/\∃d,y=.d d/\g x=some d else g x=none))
  (h:W (newL fz (c.filterMap g)) s P):W (ev aq true F (.comp fz elt tg it fr many cond) J) s P:=by
 change W (_root_.ite (true=true) _ _) s P
 rw[if_pos rfl];refine W.bd (hw.imp λcn s1=>?_);rintro⟨rfl,rfl⟩;refine W.bd ?_;refine W.walk (c:=c) (λi acc s'=>s'=s1/\acc=(c.take i).filterMap g) ⟨rfl,rfl⟩ (λi x acc s' e hI=>?_) (λacc s' hI=>?_)
 ·obtain⟨rfl,rfl⟩:=hI;have hi:i<c.length:=(dX.mp e).1;have ht:c.take (i+1)=c.take i++[x]:=by rw[CP,e];rfl
  have hl:((c.take i).filterMap g).length<sizeLine:=Nat.lt_of_le_of_lt (Lh _ _) (by rw[ur];lia);obtain⟨J',e1,h1⟩:=hb x (eZ e);refine W.bd (W.opt e1 ?_);refine W.bd (W.qt (h1.imp λb s2=>?_));rintro⟨rfl,h2⟩;rw[ht,Lr];cases b
  ·rw[if_neg (by decide)] at h2 ⊢;refine W.ret ⟨rfl,?_⟩;simp[h2]
  ·rw[if_pos rfl] at h2 ⊢;refine W.bd (W.qt (h2.imp λy s3=>?_));rintro⟨rfl,d,rfl,eg⟩;refine W.bd (W.dat ?_);rw[if_pos hl];refine W.ret ⟨rfl,?_⟩;simp[eg]
 ·obtain⟨rfl,rfl⟩:=hI;rw[xT];exact h
end
section
variable {aq:Nat->Nat->Bool}{aj:Bool}{F:Fn}{J:Vs}{s:S}{P:Xv->S->Prop}
theorem KaC(h:W (ev aq aj F a J) s λx s1=>W (rd x) s1 λd s2=>∃b,jU aq d k=some b/\P (.d (.bl b)) s2):W (ev aq aj F (.o7 a k) J) s P:=
 W.bd (h.imp λ_ _ h=>W.bd (h.imp λ_ _ ⟨_,e,h⟩=>W.bd (W.opt e (W.ret h))))
theorem KaA(h:W (ev aq aj F a J) s λx s1=>W (ev aq aj F b J) s1 λy s2=>W (fO [x,y]) s2 λds s3=>W (bT true (prim p ds)) s3 λt s4=>W (Mi.bool t) s4 λk s5=>
  W (if k=true then M.bd (ev aq aj F c J) λz=>M.bd (fO [y,z]) λds=>bT true (prim q ds) else M.ret (.d (.bl false))) s5 P):W (ev aq aj F (.wH p q a b c) J) s P:=
 W.bd (h.imp λ_ _ h=>W.bd (h.imp λ_ _ h=>W.bd (h.imp λ_ _ h=>W.bd (h.imp λ_ _ h=>W.bd h))))
end
noncomputable def G4(fz:Bool):Option Rz->Option Xv
 |some (.dat d)=>some (.d d)
 |some (.nw ys)=>match fz with
  |true=>some (.d (.fl ys))
  |false=>none
 |none=>none
noncomputable def addQ:D->D->Option Rz
 |.int i,.int j=>some (.dat (.int (i+j)))
 |_,_=>none
noncomputable def xu:List D->Option Rz
 |a::r=>match r with
  |b::r=>match r with
   |[]=>addQ a b
   |_::_=>none
  |[]=>none
 |[]=>none
noncomputable def quick:Pr->Bool
 |.pY=>false|.Bh=>false|.mul=>false|.fdiv=>false|.mod=>false|.pow=>false|.divmod=>false|.sorted=>false|.oZ=>false|.Fx=>false|.mult=>false|.wG=>false|.repr=>false|.str1=>false|.VF=>false|.Ft=>false|.Fw=>false
 |_=>true
noncomputable def pF(p:Pr)(ds:List D):Option Rz:=match p with
 |.add=>xu ds
 |p=>match quick p with
  |true=>prim p ds
  |false=>none
theorem G5{ds:List D}{r:Rz}(h:xu ds=some r):yW ds=some r:=by
 cases ds with
 |nil=>cases h
 |cons a t=>cases t with
  |nil=>cases h
  |cons b t=>cases t with
   |cons _ _=>cases h
   |nil=>cases a with
    |int i=>cases b with
     |int j=>exact h
     |_=>cases h
    |_=>cases h
theorem zQ{p:Pr}{ds:List D}{r:Rz}(h:pF p ds=some r):prim p ds=some r:=by
 cases p with
 |add=>exact G5 h
 |_=>first|exact h|cases h
noncomputable def QM(fz:Bool)(ds:List D):Option Xv:=match fz with
 |true=>some (.d (.fl ds))
 |false=>none
noncomputable def G6:Xv->Option D
 |.d x=>some x
 |.l _=>none
noncomputable def obP(c:Nat):Xv->Option (List D)
 |.d (.ob e fs)=>if e=c then some fs else none
 |_=>none
noncomputable def notP:Xv->Option Xv
 |.d (.bl b)=>some (.d (.bl (!b)))
 |_=>none
noncomputable def QS(r:Option Xv):Xv->Option Xv
 |.d (.bl true)=>r
 |.d (.bl false)=>some (.d (.bl false))
 |_=>none
noncomputable def orP(r:Option Xv):Xv->Option Xv
 |.d (.bl true)=>some (.d (.bl true))
 |.d (.bl false)=>r
 |_=>none
section
variable (aq:Nat->Nat->Bool)
mutual
noncomputable def cW:E->Vs->Option Xv
 |.c d,_=>some (.d d)
 |.v i,J=>J[i]?.join
 |.pr fz p xs,J=>(ou xs J).bind λds=>G4 fz (pF p ds)
 |.tup xs,J=>(ou xs J).bind λds=>some (.d (.tup ds))
 |.lst fz xs,J=>(ou xs J).bind λds=>QM fz ds
 |.not a,J=>(cW a J).bind notP
 |.and a b,J=>(cW a J).bind (QS (cW b J))
 |.or a b,J=>(cW a J).bind (orP (cW b J))
 |.o7 a k,J=>(cW a J).bind λx=>(G6 x).bind λd=>(jU aq d k).bind λb=>some (.d (.bl b))
 |.of o c i,J=>(cW o J).bind λx=>(obP c x).bind λfs=>fs[i]?.map .d
 |_,_=>none
noncomputable def ou:Es->Vs->Option (List D)
 |.nil,_=>some []
 |.cons a r,J=>(cW a J).bind λx=>(G6 x).bind λd=>(ou r J).bind λds=>some (d::ds)
end
noncomputable def m6:Es->Vs->Option (List Xv)
 |.nil,_=>some []
 |.cons a r,J=>(cW aq a J).bind λx=>(m6 r J).bind λxs=>some (x::xs)
end
theorem lK{α β:Type}{o:Option α}{f:α->Option β}{b:β}(h:o.bind f=some b):∃a,o=some a/\f a=some b:=xO.mp h
theorem iM{α β:Type}{m:M α}{k:α->M β}{s s':S}{a:α}(e:m s=some (.ok a,s')):M.bd m k s=k a s':=by
 show (match m s with|some (.ok a,s')=>k a s'|some (.er c f,s')=>some (.er c f,s')|none=>none)=_;rw[e]
theorem zR(s:S):∀ds:List D,fO (ds.map .d) s=some (.ok ds,s)
 |[]=>rfl
 |d::r=>(iM (s':=s) (a:=d) rfl).trans ((iM (zR s r)).trans rfl)
theorem sG(s:S):∀ds:List D,cg (ds.map .d) s=some (.ok ds,s)
 |[]=>rfl
 |d::r=>(iM (s':=s) (a:=d) rfl).trans ((iM (sG s r)).trans rfl)
theorem QT{fz:Bool}{p:Pr}{ds:List D}{x:Xv}{s:S}(h:G4 fz (pF p ds)=some x):bT fz (prim p ds) s=some (.ok x,s):=by
 cases o:pF p ds with
 |none=>rw[o] at h;cases h
 |some r=>
  rw[o] at h;rw[zQ o];cases r with
  |dat d=>cases h;rfl
  |nw ys=>cases fz with
   |true=>cases h;rfl
   |false=>cases h
section
variable {aq:Nat->Nat->Bool}{aj:Bool}{F:Fn}{J:Vs}{s:S}
theorem fV(e:E):∀x:Xv,cW aq e J=some x->ev aq aj F e J s=some (.ok x,s):=by
 refine E.rec (motive_1:=λe=>∀x:Xv,cW aq e J=some x->ev aq aj F e J s=some (.ok x,s)) (motive_2:=λ_=>True) (motive_3:=λxs=>∀ds:List D,ou aq xs J=some ds->evs aq aj F xs J s=some (.ok (ds.map .d),s)) (motive_4:=λ_=>True)
  ?c ?v ?pr (λ_ _ _ _ _ _ _ _ _ h=>nomatch h) (λ_ _ _ _ _ _ _ _ _ _ _ _ h=>nomatch h) ?and ?or ?not (λ_ _ _ _ _ _ _ h=>nomatch h) ?tup ?lst (λ_ _ _ h=>nomatch h) (λ_ _ _ _ h=>nomatch h) ?o7 (λ_ _ _ _ _ _ _ _ h=>nomatch h) (λ_ _ _ _ _ _ _ _ h=>nomatch h) (λ_ _ _ _ _ h=>nomatch h) (λ_ _ _ h=>nomatch h)
  (λ_ _ _ _ _ _ _ _ _ _ _ h=>nomatch h) (λ_ _ _ _ _ _ _ _ _ _ _ _ _ _ h=>nomatch h) (λ_ _ _ _ _ h=>nomatch h) ?of (λ_ _ _ _ _ h=>nomatch h) (λ_ _ _ _ _ _ _ h=>nomatch h) (λ_ h=>nomatch h) (λ_ _ _ _ _ _ h=>nomatch h) (λ_ _ _ _ _ h=>nomatch h) (λ_ _ _ h=>nomatch h) (λ_ _ _ _ _ _ h=>nomatch h) (λ_ _ _ _ _ h=>nomatch h) (λ_ _ _ _ _ _ _ h=>nomatch h) (λ_ h=>nomatch h)
  (λ_ _=>trivial) (λ_ _ _ _=>trivial) (λ_ _ _ _=>trivial) (λ_ _=>trivial) (λ_ _=>trivial) ?nil ?cons trivial (λ_ _=>trivial) e
 case c=>intro d x h;cases h;rfl
 case v=>intro i x h;exact(show M.opt (J[i]?.join) s=_ from by rw[show J[i]?.join=some x from h];rfl)
 case pr=>
  intro fz p xs ih x h;obtain⟨ds,e1,e2⟩:=lK h;exact(iM (ih _ e1)).trans ((iM (zR s ds)).trans (QT e2))
 case tup=>
  intro xs ih x h;obtain⟨ds,e1,e2⟩:=lK h;cases e2;exact(iM (ih _ e1)).trans ((iM (sG s ds)).trans rfl)
 case lst=>
  intro fz xs ih x h;obtain⟨ds,e1,e2⟩:=lK h;cases fz with
  |false=>cases e2
  |true=>cases e2;exact(iM (ih _ e1)).trans ((iM (sG s ds)).trans rfl)
 case not=>
  intro a ih x h;obtain⟨y,e1,e2⟩:=lK h;cases y with
  |l n=>cases e2
  |d y=>cases y with
   |bl b=>cases e2;exact(iM (ih _ e1)).trans rfl
   |_=>cases e2
 case and=>
  intro a b ih ih2 x h;obtain⟨y,e1,e2⟩:=lK h;cases y with
  |l n=>cases e2
  |d y=>cases y with
   |bl b=>cases b with
    |true=>exact(iM (ih _ e1)).trans (ih2 _ e2)
    |false=>cases e2;exact(iM (ih _ e1)).trans rfl
   |_=>cases e2
 case or=>
  intro a b ih ih2 x h;obtain⟨y,e1,e2⟩:=lK h;cases y with
  |l n=>cases e2
  |d y=>cases y with
   |bl b=>cases b with
    |true=>cases e2;exact(iM (ih _ e1)).trans rfl
    |false=>exact(iM (ih _ e1)).trans (ih2 _ e2)
   |_=>cases e2
 case o7=>
  intro a k ih x h;obtain⟨y,e1,e2⟩:=lK h;cases y with
  |l n=>cases e2
  |d y=>
   obtain⟨d,e3,e4⟩:=lK e2;cases e3;obtain⟨b,e5,e6⟩:=lK e4;cases e6;refine(iM (ih _ e1)).trans ((iM (s':=s) (a:=y) rfl).trans ((iM (s':=s) (a:=b) ?_).trans rfl));rw[e5];rfl
 case of=>
  intro o c i ih x h;obtain⟨y,e1,e2⟩:=lK h;obtain⟨fs,e3,e4⟩:=lK e2;refine(iM (ih _ e1)).trans ((iM (s':=s) (a:=fs) ?_).trans ?_)
  ·cases y with
   |l n=>cases e3
   |d y=>cases y with
    |ob e gs=>
     have e3:(if e=c then some gs else none)=some fs:=e3;show (if e=c then M.ret gs else M.no) s=_;split at e3
     ·rename_i h;cases e3;rw[if_pos h];rfl
     ·cases e3
    |_=>cases e3
  ·show M.opt (fs[i]?.map Xv.d) s=_;rw[e4];rfl
 case nil=>intro ds h;cases h;rfl
 case cons=>
  intro a r ih ih2 ds h;obtain⟨y,e1,e2⟩:=lK h;cases y with
  |l n=>cases e2
  |d y=>
   obtain⟨d,e3,e4⟩:=lK e2;cases e3;obtain⟨rs,e5,e6⟩:=lK e4;cases e6;exact(iM (ih _ e1)).trans ((iM (ih2 _ e5)).trans rfl)
theorem sH:∀(xs:Es) (ds:List D),ou aq xs J=some ds->evs aq aj F xs J s=some (.ok (ds.map .d),s)
 |.nil,ds,h=>by cases h;rfl
 |.cons a r,ds,h=>by
  obtain⟨y,e1,e2⟩:=lK h;cases y with
  |l n=>cases e2
  |d y=>
   obtain⟨d,e3,e4⟩:=lK e2;cases e3;obtain⟨rs,e5,e6⟩:=lK e4;cases e6;exact(iM (fV a _ e1)).trans ((iM (sH r _ e5)).trans rfl)
theorem jq:∀(xs:Es) {vs:List Xv},m6 aq xs J=some vs->evs aq aj F xs J s=some (.ok vs,s)
 |.nil,vs,h=>by cases h;rfl
 |.cons a r,vs,h=>by
  obtain⟨y,e1,e2⟩:=lK h;obtain⟨ys,e3,e4⟩:=lK e2;cases e4;exact(iM (fV a _ e1)).trans ((iM (jq r e3)).trans rfl)
variable {P:Xv->S->Prop}
theorem W.pv{e:E}{x:Xv}(h:cW aq e J=some x)(k:P x s):W (ev aq aj F e J) s P:=W.eq (fV e _ h) k
theorem KaZ{f:Nat}{xs:Es}{vs:List Xv}(h:m6 aq xs J=some vs)(k:W (cB (F f) vs) s P):W (ev aq aj F (.call f xs) J) s P:=Xl (W.eq (jq xs h) k)
theorem Xw{fz:Bool}{p:Pr}{xs:Es}{ds:List D}(h:ou aq xs J=some ds)(k:W (bT fz (prim p ds)) s P):W (ev aq aj F (.pr fz p xs) J) s P:=Xk (W.eq (sH xs _ h) (W.eq (zR s ds) k))
theorem KaY{xs:Es}{vs:List Xv}{P:List Xv->S->Prop}(h:m6 aq xs J=some vs)(k:P vs s):W (evs aq aj F xs J) s P:=W.eq (jq xs h) k
end
section
variable {aq:Nat->Nat->Bool}{aj:Bool}{F:Bool->Fn}{J:Vs}{s:S}{Q:Out->S->Prop}{e:E}{r:bU}
theorem Kbb{i:Nat}{x:Xv}(h:cW aq e J=some x)(k:WS (exs aq aj F r (J.set i (some x))) s Q):WS (exs aq aj F (.cons (.asg (.nm i) e) r) J) s Q:=WS.cons (Xo (W.pv h k))
theorem Kbc{x:Xv}(h:cW aq e J=some x)(k:Q (.rt x) s):WS (exs aq aj F (.cons (.ret e) r) J) s Q:=WS.cons (Xp (W.pv h k))
theorem Kba{b:Bool}{t u:bU}(h:cW aq e J=some (.d (.bl b)))(k:WS (if b=true then exs aq aj F t J else exs aq aj F u J) s λo s'=>match o with|.nx J'=>WS (exs aq aj F r J') s' Q|.rt x=>Q (.rt x) s'|_=>False):WS (exs aq aj F (.cons (.iff e t u) r) J) s Q:=WS.cons (Xq (W.pv h (W.bool k)))
end
section
variable {α β:Type}{m:M α}{k:α->M β}{s:S}{c:Nat}{fs:List D}
end
section
variable {aq:Nat->Nat->Bool}{aj:Bool}{F:Bool->Fn}{J:Vs}{s:S}{Q:Out->S->Prop}{c:Nat}{fs:List D}
theorem Kbj{c:Nat}{kp:Bool}{xs:Es}(h:W (evs aq true (F true) xs J) s λvs s1=>W (cg vs) s1 λds s2=>Q (.er c (if kp=true then ds else []) J) s2):WS (ex aq true F (.rise c kp xs) J) s Q:=by
 refine WS.xr (m2:=λ_=>none) (WS.ofM (W.bd (h.imp λvs s1 h=>h.imp λds s2 h=>?_)));exact⟨_,s2,rfl,h⟩
theorem Kbo{m:MS}{k:Vs->MS}(h:WS m s λo s'=>match o with|.nx J'=>WS (k J') s' Q|.rt x=>Q (.rt x) s'|_=>False):WS (Mi.cC m k) s Q:=by
 obtain⟨o,s',e,q⟩:=h;unfold WS Mi.cC;rw[e];cases o with
 |nx J'=>exact q
 |rt x=>exact⟨_,_,rfl,q⟩
 |bk _=>exact q.elim
 |ct _=>exact q.elim
 |er _ _ _=>exact q.elim
theorem Kbm{F:Fn}{i:Nat}{x:Xv}(h:Q (.nx (J.set i (some x))) s):WS (store aq aj F (.nm i) x J) s Q:=⟨_,s,rfl,h⟩
theorem Kbn{F:Fn}{is:List Nat}{d:D}(h:sE ((jW d).bind λds=>gj is (ds.map .d) J) λJ'=>Q (.nx J') s):WS (store aq true F (.tp is) (.d d) J) s Q:=by
 obtain⟨J',e,q⟩:=h;exact WS.xr (m2:=λ_=>none) (WS.ofM (W.bd (W.dat (W.opt e (WS.nx q)))))
end
section
variable {aq:Nat->Nat->Bool}{aj:Bool}{F:Fn}{J:Vs}{s:S}{P:Xv->S->Prop}
theorem W.o7{a:E}{k:Kd}(h:W (ev aq aj F a J) s λx s1=>W (rd x) s1 λd s2=>sE (jU aq d k) λb=>P (.d (.bl b)) s2):W (ev aq aj F (.o7 a k) J) s P:=KaC h
theorem W.wH{p q:Pr}{a b c:E}(h:W (ev aq aj F a J) s λx s1=>W (ev aq aj F b J) s1 λy s2=>W (fO [x,y]) s2 λds s3=>W (bT true (prim p ds)) s3 λt s4=>W (Mi.bool t) s4 λk s5=>
  W (if k=true then M.bd (ev aq aj F c J) λz=>M.bd (fO [y,z]) λds=>bT true (prim q ds) else M.ret (.d (.bl false))) s5 P):W (ev aq aj F (.wH p q a b c) J) s P:=KaA h
theorem KaD{c a b:E}(h:W (ev aq aj F c J) s λx s1=>W (Mi.bool x) s1 λk s2=>W (if k=true then ev aq aj F a J else ev aq aj F b J) s2 P):W (ev aq aj F (.ite c a b) J) s P:=W.bd (h.imp λ_ _ h=>W.bd h)
theorem Xx{a:E}{P:Src×Nat->S->Prop}(h:W (ev aq aj F a J) s λx s1=>W (mV x) s1 P):W (lQ aq aj F (.enum a) J) s P:=W.bd h
theorem KaK{xs:List D}{P:Src×Nat->S->Prop}(h:P (.fix (enumFrom 0 xs),(enumFrom 0 xs).length) s):W (mV (.d (.fl xs))) s P:=⟨_,s,rfl,h⟩
theorem KaN{a b:E}{P:Src×Nat->S->Prop}(h:W (ev aq aj F a J) s λx s1=>W (ev aq aj F b J) s1 λy s2=>W (Mi.int x) s2 λi s3=>W (Mi.int y) s3 λj s4=>(eU i&&eU j)=true/\P (.fix (iZ i j),(iZ i j).length) s4):W (lQ aq aj F (.rg a b) J) s P:=by
 refine W.bd (h.imp λx s1 h=>W.bd (h.imp λy s2 h=>W.bd (h.imp λi s3 h=>W.bd (h.imp λj s4 h=>?_))));rw[if_pos h.1];exact W.ret h.2
theorem KaP{a b:E}{P:Src×Nat->S->Prop}(h:W (ev aq aj F a J) s λx s1=>W (ev aq aj F b J) s1 λy s2=>W (nW x) s2 λxs s3=>W (nW y) s3 λys s4=>P (.fix (List.zipWith (λp q=>.tup [p,q]) xs ys),(List.zipWith (λ(p q:D)=>D.tup [p,q]) xs ys).length) s4):W (lQ aq aj F (.zip a b) J) s P:=
 W.bd (h.imp λx s1 h=>W.bd (h.imp λy s2 h=>W.bd (h.imp λxs s3 h=>W.bd (h.imp λys s4 h=>W.ret h))))
theorem W.iz{xs:List D}{P:List D->S->Prop}(h:P xs s):W (nW (.d (.tup xs))) s P:=W.ret h
theorem W.qI{xs:List D}{P:List D->S->Prop}(h:P xs s):W (nW (.d (.fl xs))) s P:=W.ret h
theorem Kak{P:Bool->S->Prop}(h:P true s):W (qd aq aj F .no J) s P:=W.ret h
theorem Kal{a:E}{P:Bool->S->Prop}(h:W (ev aq aj F a J) s λx s1=>W (Mi.bool x) s1 P):W (qd aq aj F (.yes a) J) s P:=W.bd h
theorem Xy(g:D->D)(hc:c.length<=sizeLine)
  (hw:W (lQ aq true F it J) s λcn s1=>cn=(.fix c,c.length)/\s1=s)
  (hb:∀x∈c,sE (gO tg x (blk many fr J)) λJ'=>W (ev aq true F elt J') s λy s2=>s2=s/\y=.d (g x))
  (h:W (newL fz (c.map g)) s P):W (ev aq true F (.comp fz elt tg it fr many .no) J) s P:=by
 refine Kar (c:=c) (λx=>some (g x)) hc hw (λx hx=>?_) ?_
 ·obtain⟨J',e,h1⟩:=hb x hx;refine⟨J',e,W.ret ⟨rfl,?_⟩⟩;rw[if_pos rfl];exact h1.imp λy s2 ⟨a,b⟩=>⟨a,_,b,rfl⟩
 ·rw[show c.filterMap (λx=>some (g x))=c.map g by rw[<-List.filterMap_eq_map];rfl];exact h
theorem pG{α:Type}{f:α->D}{l:List α}{fz:Bool}{elt:E}{tg:List Nat}{it:Wk}{fr:List Nat}{many:Nat}{cond:Eo}(g:α->Option D)(hc:l.length<=sizeLine)
  (hw:W (lQ aq true F it J) s λcn s1=>cn=(.fix (l.map f),(l.map f).length)/\s1=s)
  (hb:∀x∈l,sE (gO tg (f x) (blk many fr J)) λJ'=>W (qd aq true F cond J') s λb s1=>s1=s/\(b=true->W (ev aq true F elt J') s λy s2=>s2=s/\∃d,y=.d d/\g x=some d)/\(b=false->g x=none))
  (h:W (newL fz (l.filterMap g)) s P):W (ev aq true F (.comp fz elt tg it fr many cond) J) s P:=by
 change W (_root_.ite (true=true) _ _) s P
 rw[if_pos rfl];refine W.bd (hw.imp λcn s1=>?_);rintro⟨rfl,rfl⟩;refine W.bd ?_;refine W.walk (c:=l.map f) (λi acc s'=>s'=s1/\acc=(l.take i).filterMap g) ⟨rfl,rfl⟩ (λi x acc s' e hI=>?_) (λacc s' hI=>?_)
 ·obtain⟨rfl,rfl⟩:=hI;rw[gD] at e;cases el:l[i]? with
  |none=>rw[el] at e;cases e
  |some y=>
   rw[el] at e;cases e;have hi:i<l.length:=(dX.mp el).1;have ht:l.take (i+1)=l.take i++[y]:=by rw[CP,el];rfl
   have hl:((l.take i).filterMap g).length<sizeLine:=Nat.lt_of_le_of_lt (Lh _ _) (by rw[ur];lia);obtain⟨J',e1,h1⟩:=hb y (eZ el);refine W.bd (W.opt e1 ?_);refine W.bd (W.qt (h1.imp λb s2=>?_));rintro⟨rfl,h2,h3⟩;rw[ht,Lr];cases b
   ·rw[if_neg (by decide)];refine W.ret ⟨rfl,?_⟩;simp[h3 rfl]
   ·rw[if_pos rfl];refine W.bd (W.qt ((h2 rfl).imp λy s3=>?_));rintro⟨rfl,d,rfl,eg⟩;refine W.bd (W.dat ?_);rw[if_pos hl];refine W.ret ⟨rfl,?_⟩;simp[eg]
 ·obtain⟨rfl,rfl⟩:=hI;rw[bV,xT];exact h
theorem Xz{c:List D}{fz:Bool}{elt:E}{tg:List Nat}{it:Wk}{fr:List Nat}{many:Nat}{cond:Eo}(I:Nat->List D->S->Prop)
  (hw:W (lQ aq true F it J) s λcn s1=>cn=(.fix c,c.length)/\I 0 [] s1)
  (hb:∀i x acc s,c[i]?=some x->I i acc s->sE (gO tg x (blk many fr J)) λJ'=>W (qd aq true F cond J') s λb s1=>(b=true->W (ev aq true F elt J') s1 λy s2=>∃d,y=.d d/\acc.length<sizeLine/\I (i+1) (acc++[d]) s2)/\(b=false->I (i+1) acc s1))
  (h:∀acc s,I c.length acc s->W (newL fz acc) s P):W (ev aq true F (.comp fz elt tg it fr many cond) J) s P:=by
 change W (_root_.ite (true=true) _ _) s P
 rw[if_pos rfl];refine W.bd (hw.imp λcn s1=>?_);rintro⟨rfl,h0⟩;refine W.bd ?_;refine W.walk (c:=c) I h0 (λi x acc s' e hI=>?_) (λacc s' hI=>h acc s' hI);obtain⟨J',e1,h1⟩:=hb i x acc s' e hI;refine W.bd (W.opt e1 ?_);refine W.bd (W.qt (h1.imp λb s2=>?_));rintro⟨h2,h3⟩;cases b
 ·rw[if_neg (by decide)];exact W.ret (h3 rfl)
 ·rw[if_pos rfl];refine W.bd (W.qt ((h2 rfl).imp λy s3=>?_));rintro⟨d,rfl,hl,hi⟩;refine W.bd (W.dat ?_);rw[if_pos hl];exact W.ret hi
theorem W.push{o a:E}(h:W (ev aq aj F o J) s λx s1=>W (Mi.cL x) s1 λ_ s2=>W (ev aq aj F a J) s2 λy s3=>W (Mi.dat y) s3 λd s4=>W (Mi.cL x) s4 λnx s5=>nx.2.length<sizeLine/\P (.d .non) (s5.set nx.1 (.lst (nx.2++[d])))):W (ev aq aj F (.push o a) J) s P:=by
 refine W.bd (h.imp λx s1 h=>W.bd (h.imp λ_ s2 h=>W.bd (h.imp λy s3 h=>W.bd (h.imp λd s4 h=>W.bd (h.imp λnx s5 h=>?_)))));rw[if_pos h.1];exact W.bd (QJ (W.ret h.2))
end
theorem XD{s:S}{o:SO}:(s++[o])[s.length]?=some o:=by simp
theorem Y{P R:Prop}(k:R)(h:Bx R->P:=by
 intro k
 repeat (first|with_reducible first
   |refine Kbb (by with_unfolding_all rfl) ?_|refine Kbc (by with_unfolding_all rfl) ?_|refine Kba (by with_unfolding_all rfl) ?_|refine W.pv (by with_unfolding_all rfl) ?_|refine Xw (by with_unfolding_all rfl) ?_|refine KaZ (by with_unfolding_all rfl) ?_|refine KaY (by with_unfolding_all rfl) ?_
   |refine WS.cons ?_|refine WS.nil ?_|refine Kbo ?_|refine Kbm ?_|refine Kbn ?_|refine Xo ?_|refine Xp ?_|refine Xq ?_|refine Kbl ?_|refine Kbk ?_|refine Kbh ?_|refine Kbd ?_|refine Kbe ?_|refine Kbj ?_|refine WS.xr ?_|refine WS.QL ?_|refine WS.QK (by with_unfolding_all rfl) ?_|refine WS.Kp (by with_unfolding_all rfl) ?_|refine sE.mk (by with_unfolding_all rfl) ?_
   |refine Xn ?_|refine Xm ?_|refine W.eC ?_|refine W.eV (by with_unfolding_all rfl) ?_|refine Xk ?_|refine Xl ?_|refine KaJ ?_|refine KaE ?_|refine KaF ?_|refine Kay ?_|refine KaG ?_|refine KaD ?_|refine W.o7 ?_|refine W.wH ?_|refine W.push ?_|refine KaI ?_|refine KaB ?_|refine KaS ?_|refine KaT ?_|refine KaO ?_|refine KaN ?_|refine KaP ?_|refine Xx ?_|refine Kak ?_|refine Kal ?_|refine W.xr ?_|refine W.QL ?_|refine W.QK (by with_unfolding_all rfl) ?_|refine W.Kp (by with_unfolding_all rfl) ?_
   |refine Ka3 ?_|refine Ka4 ?_|refine Ka1 ?_|refine Xh (by with_unfolding_all rfl) ?_|refine Xh XD ?_|refine QF ?_|refine Xi ?_|refine W.dat ?_|refine W.bool ?_|refine W.int ?_|refine W.cL (by with_unfolding_all rfl) ?_|refine W.cL XD ?_|refine QJ ?_|refine Ka6 ?_|refine KaK ?_|refine W.iz ?_|refine W.qI ?_|refine Ka5 ?_|refine KaR ?_|refine KaQ ?_
   |refine fU (by first|(with_unfolding_all rfl)|exact znh (by first|(left;constructor<;>lia)|(right;constructor<;>lia))|exact znf (by lia)|exact zkF (by lia)|exact zg0 (by lia)|exact zmS (by decide)) ?_|refine BR (by with_unfolding_all rfl) ?_
   |refine W.ret ?_|refine W.bd ?_
   | (dsimp only))
 all_goals exact k.o):P:=h ⟨k⟩
def lx(p q:Int×Int):Prop:=p.1<q.1\/p.1=q.1/\p.2<q.2
noncomputable def bJ(n:Int)(ps:List (Int×Int)):D:=.tup [.int n,.tup (ps.map bN)]
structure Web(n:Int)(ps:List (Int×Int)):Prop where
 h1:1<=n
 h8:n<=8
 tie:∀p∈ps,0<=p.1/\p.1<p.2/\p.2<n
 inc:ps.Pairwise lx
 len:(ps.length:Int)<=7*n
theorem zh8(h:∀x∈xs,x=.bl true):dF xs=some (List.replicate xs.length true):=by
 induction xs with
 |nil=>rfl
 |cons x r ih=>
  rw[h x (by simp)];show Option.map _ (dF r)=_;rw[ih λy hy=>h y (by simp[hy])];rfl
theorem QV(h:∀x∈xs,x=.bl true):prim .all [.fl xs]=some (.dat (.bl true)):=by
 show Option.map _ (dF xs)=_;rw[zh8 h];simp
theorem XH(p q:Int×Int):bZ (k+1) (bN p) (bN q)=some (decide (p=q)):=by
 show b_ (bZ k) [.int p.1,.int p.2] [.int q.1,.int q.2]=_;have hi:∀a b:Int,bZ k (.int a) (.int b)=some (a==b):=by intro a b;cases k<;>rfl
 simp only[b_,hi];obtain⟨a,b⟩:=p;obtain⟨c,d⟩:=q;by_cases h1:a=c
 ·by_cases h2:b=d
  ·simp[h1,h2]
  ·simp[h1,h2]
 ·simp[h1]
theorem ziR(ps:List (Int×Int)):b_ (bZ (k+1)) (ps.map bN) (ps.map bN)=some true:=by
 induction ps with
 |nil=>rfl
 |cons p r ih=>simp only[iU,b_,ih,XH];simp
theorem zjK:bZ 50 (bJ n ps) (bJ n ps)=some true:=by
 show b_ (bZ 49) [.int n,.tup (ps.map bN)] [.int n,.tup (ps.map bN)]=_;have h1:bZ 49 (.int n) (.int n)=some (n==n):=rfl;have h2:bZ 49 (.tup (ps.map bN)) (.tup (ps.map bN))=b_ (bZ 48) (ps.map bN) (ps.map bN):=rfl;simp only[b_,h1,h2,ziR];simp
theorem zlo(p:Int×Int)(ps:List (Int×Int)):memD (bN p) (ps.map bN)=some (decide (p∈ps)):=by
 induction ps with
 |nil=>rfl
 |cons q r ih=>
  simp only[iU,memD,ih,XH]
  congr 1
  rw[<-Bool.decide_or];apply tD.mpr;rw[gG]
  constructor
  ·rintro(h|h)
   ·exact .inl h.symm
   ·exact .inr h
  ·rintro(h|h)
   ·exact .inl h.symm
   ·exact .inr h
theorem znr{f:Bool->Bool}{p:Int×Int}{ps:List (Int×Int)}:yX f [bN p,.fl (ps.map bN)]=some (.dat (.bl (f (decide (p∈ps))))):=by
 show Option.map _ (memD (bN p) (ps.map bN))=_;rw[zlo];rfl
theorem zmR(h:lx p q):ltI [p.1,p.2] [q.1,q.2]=true:=by
 simp only[ltI];rcases h with h|⟨h,h2⟩
 ·rw[if_neg (by lia)];simp[h]
 ·rw[if_pos h,if_neg (by lia)];simp[h2]
theorem QW(xs:List D):cut xs (some 1) none=xs.drop 1:=by
 unfold cut;rw[HT.jw];rw[show (some 1:Option Int)=some ((1:Nat):Int) from rfl,HT.k_];cases xs with
 |nil=>rfl
 |cons x r=>simp
theorem XJ:∀{ps:List (Int×Int)},ps.Pairwise lx->∀x∈List.zipWith (λ(p q:D)=>D.tup [p,q]) (ps.map bN) ((ps.map bN).drop 1),∃p q,x=.tup [bN p,bN q]/\lx p q
 |[],_,x,hx=>by simp at hx
 |[p],_,x,hx=>by simp at hx
 |p::q::r,h,x,hx=>by
  rw[show (List.map bN (p::q::r)).drop 1=List.map bN (q::r) from rfl] at hx;have e:List.zipWith (λ(p q:D)=>D.tup [p,q]) (List.map bN (p::q::r)) (List.map bN (q::r))=.tup [bN p,bN q]::List.zipWith (λ(p q:D)=>D.tup [p,q]) (List.map bN (q::r)) (List.map bN r):=rfl;rw[e,gG] at hx;rcases hx with rfl|hx
  ·exact⟨p,q,rfl,(xR.mp h).1 q (by simp)⟩
  ·exact XJ (ps:=q::r) (xR.mp h).2 x hx
theorem QX:∀(xs:List D) (j i:Nat),(enumFrom j xs)[i]?=xs[i]?.map λx=>.tup [.int ((j+i:Nat):Int),x]
 |[],j,i=>by simp[enumFrom]
 |x::r,j,0=>by simp[enumFrom]
 |x::r,j,i+1=>by
  simp only[enumFrom,Ab,QX r (j+1) i];rw[show j+1+i=j+(i+1) by lia]
theorem QZ:∀(xs:List D) (j:Nat),(enumFrom j xs).length=xs.length
 |[],j=>rfl
 |x::r,j=>by simp[enumFrom,QZ r (j+1)]
theorem Q0{p:Int×Int}:¬lx p p:=by rintro(h|⟨_,h⟩)<;>lia
theorem Q5{ps:List (Int×Int)}(h:ps.Pairwise lx):ps.Nodup:=h.imp λ{p q} h e=>by subst e;exact Q0 h
theorem Q6(h:qG xs=some ys):prim .sorted [.fl xs]=some (.nw ys):=by
 show Option.map Rz.nw (qG xs)=_;rw[h];rfl
theorem zgV{es:List Int}(rz:es.length<64)(h:es.Pairwise (·<·)):qG (es.map D.int)=some (es.map D.int):=by
 refine zg5 ?_ (by rw[bV];exact rz) λk hk=>?_
 ·rw[IK]
  left
  rw[CW,ji];intro x _;rfl
 ·rw[bV] at hk;unfold tU;rw[gD,gD,cT hk,cT (show k<es.length by lia)];have:=Ie.mp h k (k+1) (by lia) hk (by lia);simp only[Option.map_some]
  congr 1
  apply jF
  lia
noncomputable def endOf(i:Int)(p:Int×Int):Option Int:=if p.1=i then some p.2 else if p.2=i then some p.1 else none
noncomputable def aQ(i:Int)(ps:List (Int×Int)):List Int:=ps.filterMap (endOf i)
theorem XM(h:Web n ps)(i:Int):(aQ i ps).Pairwise (·<·):=by
 have ht:=h.tie;have hi:=h.inc;clear h;unfold aQ
 induction ps with
 |nil=>simp
 |cons p r ih=>
  obtain⟨hp,hr⟩:=xR.mp hi;have ih:=ih (λq hq=>ht q (by simp[hq])) hr;rw[xQ]
  split
  ·exact ih
  ·rename_i b eb;refine xR.mpr ⟨λc hc=>?_,ih⟩;obtain⟨q,hq,eq⟩:=Af.mp hc;have l:=hp q hq;have tp:=ht p (by simp);have tq:=ht q (by simp[hq]);unfold endOf at eb eq;unfold lx at l;split at eb
   ·cases eb;split at eq
    ·cases eq;lia
    ·split at eq
     ·cases eq;lia
     ·cases eq
   ·split at eb
    ·cases eb;split at eq
     ·cases eq;lia
     ·split at eq
      ·cases eq;lia
      ·cases eq
    ·cases eb
theorem XQ(h:Web n ps)(he:e∈aQ i ps):0<=e/\e<n:=by
 obtain⟨q,hq,eq⟩:=Af.mp he;have tq:=h.tie q hq;unfold endOf at eq;split at eq
 ·cases eq;lia
 ·split at eq
  ·cases eq;lia
  ·cases eq
theorem Q7:∀{es:List Int} {a n:Int},es.Pairwise (·<·)->(∀e∈es,a<=e/\e<n)->a<=n->(es.length:Int)<=n-a
 |[],a,n,_,_,h=>by simp;lia
 |e::r,a,n,h,hb,ha=>by
  obtain⟨h1,h2⟩:=xR.mp h;have he:=hb e (by simp);have:=Q7 (es:=r) (a:=e+1) (n:=n) h2 (λx hx=>⟨by have:=h1 x hx;lia,(hb x (by simp[hx])).2⟩) (by lia);rw[fZ]
  lia
theorem XR{a b:Int}{i:Nat}{x:D}(h:(iZ a b)[i]?=some x):x=.int (a+i)/\a+i<b:=by
 unfold iZ at h;rw[gD] at h;cases e:(List.range (b-a).toNat)[i]? with
 |none=>rw[e] at h;cases h
 |some j=>
  rw[e] at h;cases h;obtain⟨hl,rfl⟩:=dX.mp e;rw[nu] at hl;rw[LQ];exact⟨rfl,by lia⟩
theorem X3:(iZ a b).length=(b-a).toNat:=by unfold iZ;simp
theorem j8(h1 : -1000<=a)(h2:a<=1000):eU a=true:=by
 unfold eU;rw[gF (by lia),gF (by lia)];rfl
theorem pH(hl:locs xs=[s.length])(h:W (F (cZ 0 xs)) [o] λv s1=>∃d o',v=.d d/\s1=[o']/\P (.d d) (s++[o'])):W (cB F xs) (s++[o]) P:=by
 refine QG (n:=s.length) (o:=o) hl (by simp) (h.imp λv s1=>?_);rintro⟨d,o',rfl,rfl,hp⟩;exact⟨d,o',rfl,rfl,by rw[show (s++[o]).set s.length o'=s++[o'] by simp];exact hp⟩
theorem ziB{ns:List Int}{lo hi:Option Int}{x:D}(h:x∈cut (ns.map D.int) lo hi):∃n,x=.int n:=by
 have:=List.mem_of_mem_drop (List.mem_of_mem_take h);obtain⟨n,_,rfl⟩:=qy.mp this;exact⟨n,rfl⟩
theorem zh9{ns:List Int}{lo hi:Option Int}:(cut (ns.map D.int) lo hi).length<=ns.length:=by
 unfold cut;rw[ur,Cy,bV]
 lia
noncomputable def norm(p:Int×Int):Int×Int:=if p.1<p.2 then p else (p.2,p.1)
theorem X4{α:Type}[DecidableEq α]:∀{l m:List α},l.Nodup->(∀x∈l,x∈m)->l.length<=m.length
 |[],m,_,_=>v8 _
 |x::r,m,h,hm=>by
  obtain⟨h1,h2⟩:=uy.mp h;have hx:x∈m:=hm x (by simp);have:=X4 (l:=r) (m:=m.erase x) h2 λy hy=>(List.mem_erase_of_ne (λe=>by subst e;exact h1 hy)).mpr (hm y (by simp[hy]));rw[List.length_erase_of_mem hx] at this;have:=List.length_pos_of_mem hx;rw[fZ]
  lia
noncomputable def sI:List (Int×Int):=[(0,1),(0,2),(0,3),(0,4),(0,5),(0,6),(0,7),(1,2),(1,3),(1,4),(1,5),(1,6),(1,7),(2,3),(2,4),(2,5),(2,6),(2,7),(3,4),(3,5),(3,6),(3,7),(4,5),(4,6),(4,7),(5,6),(5,7),(6,7)]
theorem zfT{n:Int}{ps:List (Int×Int)}(h8:n<=8)(ht:∀p∈ps,0<=p.1/\p.1<p.2/\p.2<n)(nd:ps.Nodup):ps.length<=28:=by
 have:ps.length<=sI.length:=X4 nd λp hp=>by
  obtain⟨a,b⟩:=p;have h:=ht _ hp;dsimp only at h;obtain⟨x,rfl⟩:=vR h.1;obtain⟨y,rfl⟩:=vR (show 0<=b by lia);have key:((List.range 8).all λx=>(List.range 8).all λy=>!decide (x<y)||sI.contains (((x:Nat):Int),((y:Nat):Int)))=true:=by decide
  have k1:=ji.mp (ji.mp key x (uz.mpr (by lia))) y (uz.mpr (by lia));rw[gF (show x<y by lia)] at k1;exact List.contains_iff_mem.mp (by simpa using k1)
 exact this
section
variable {aq:Nat->Nat->Bool}{F:Fn}{J:Vs}{s:S}{P:Xv->S->Prop}
end
theorem X5(R:Vs->S->Prop)(h:WS (ex aq aj F a J) s λo s'=>∃J',o=.nx J'/\R J' s')(h2:∀J' s',R J' s'->WS (exs aq aj F r J') s' Q):WS (exs aq aj F (.cons a r) J) s Q:=
 WS.cons (h.imp λo s' ⟨J',e,hr⟩=>by subst e;exact h2 J' s' hr)
noncomputable def at'(fs:List Int)(j:Int):Int:=fs.getD j.toNat 0
theorem Kq{fs:List Int}{j:Int}(h0:0<=j)(h:j<fs.length):∃(i:Nat) (hi:i<fs.length),j=i/\at' fs j=fs[i]:=by
 obtain⟨i,rfl⟩:=vR h0;have hi:i<fs.length:=by lia
 refine⟨i,hi,rfl,?_⟩;unfold at';rw[m9,jh,cT hi];rfl
theorem X6{fs:List Int}{j:Int}(h0:0<=j)(h:j<fs.length):at' fs j∈fs:=by
 obtain⟨i,hi,_,e⟩:=Kq h0 h;rw[e];exact List.getElem_mem _
theorem zn5{fs:List Int}{j:Int}(h0:0<=j)(h:j<fs.length):(fs.map D.int)[j.toNat]?=some (.int (at' fs j)):=by
 obtain⟨i,hi,rfl,e⟩:=Kq h0 h;rw[e,m9,gD,cT hi];rfl
theorem zlg{fs gs:List Int}{j:Int}(h0:0<=j)(h:j<fs.length):at' (fs++gs) j=at' fs j:=by
 obtain⟨i,hi,rfl,e⟩:=Kq h0 h;unfold at';rw[m9,jh,jh,nq hi]
theorem ziS:at' (fs++[x]) fs.length=x:=by
 unfold at';rw[m9,jh,oE (bI _)];simp
theorem tZ(h0:0<=j)(h:xs[j.toNat]?=some x):prim .ix [.fl xs,.int j]=some (.dat x):=by
 obtain⟨k,rfl⟩:=vR h0;exact G3 h
theorem X7(h0:0<=j)(h:xs[j.toNat]?=some x):prim .ix [.tup xs,.int j]=some (.dat x):=tZ h0 h
theorem X8(h0:0<=j)(h:j<fs.length):prim .ix [.tup (fs.map .int),.int j]=some (.dat (.int (at' fs j))):=tZ h0 (zn5 h0 h)
noncomputable def jA(k a b:Int):Int:=if k-(if a-b<0 then -(a-b) else a-b)<(if a-b<0 then -(a-b) else a-b) then k-(if a-b<0 then -(a-b) else a-b) else (if a-b<0 then -(a-b) else a-b)
theorem qM(hd:1<=d):d<=jA k a b↔(d<=a-b/\a-b<=k-d)\/(d<=b-a/\b-a<=k-d):=by
 unfold jA
 split<;>split<;>lia
structure dw(n k d:Int)(ps:List (Int×Int))(hs:List Int):Prop where
 len:(hs.length:Int)=n
 lo:∀x∈hs,0<=x/\x<k
 fit:∀p∈ps,d<=jA k (at' hs p.1) (at' hs p.2)
section
variable {aq:Nat->Nat->Bool}{aj:Bool}{F:Bool->Fn}{J:Vs}{s:S}{Q:Out->S->Prop}
end
section
variable {aq:Nat->Nat->Bool}{aj:Bool}{F:Fn}{J:Vs}{s:S}{P:Xv->S->Prop}
end
def Ge(h r:List Int):Prop:=∀j:Nat,j<r.length->(∀i:Nat,i<j->at' h i=at' r i)->at' r j<=at' h j
theorem zhz(xs:List D):bZ 50 (.tup xs) (.tup [])=some (decide (xs=[])):=by
 cases xs with
 |nil=>rfl
 |cons x r=>rfl
theorem zmz:wI f [.tup xs,.tup []]=some (.dat (.bl (f (decide (xs=[]))))):=by
 show Option.map _ (bZ 50 (.tup xs) (.tup []))=_;rw[zhz];rfl
noncomputable def aY(k d:Int):D:=.tup [.int k,.int d]
noncomputable def zT(k d:Int)(ps:List (Int×Int))(hs:List Int):Bool:=ps.all λp=>decide (d<=jA k (at' hs p.1) (at' hs p.2))
theorem m7:zT k d ps hs=true↔∀p∈ps,d<=jA k (at' hs p.1) (at' hs p.2):=by
 unfold zT;rw[ji];exact⟨λh p hp=>jN (h p hp),λh p hp=>gF (h p hp)⟩
section
variable {n k d:Int}{ps:List (Int×Int)}{ls:List Int}
end
section
variable {aq:Nat->Nat->Bool}{F:Fn}{J:Vs}{s:S}{P:Xv->S->Prop}
end
theorem t_{α:Type}{l:List α}{f:α->D}:l.filterMap (λx=>some (f x))=l.map f:=by
 rw[<-List.filterMap_eq_map];rfl
theorem Q8(I:Nat->Vs->S->Prop)(h0:I 0 J s)(hb:∀i x J s,c[i]?=some x->I i J s->WS (b x J) s λo s'=>(∃J',o=.nx J'/\I (i+1) J' s')\/(∃x,o=.rt x/\Q (.rt x) s'))
  (he:∀J s,I c.length J s->Q (.nx J) s):WS (dj (.fix c) b (c.length+1) 0 J) s Q:=by
 have key:∀n i J s,i+n=c.length->I i J s->WS (dj (.fix c) b (n+1) i J) s Q:=by
  intro n
  induction n with
  |zero=>
   intro i J s hi hI;have e:c[i]?=none:=by rw[oF];lia
   have:i=c.length:=by lia
   subst this;refine⟨_,s,?_,he J s hI⟩;unfold dj;simp only[Src.at,e]
  |succ n ih=>
   intro i J s hi hI;have dh:i<c.length:=by lia
   have e:c[i]?=some c[i]:=cT dh;obtain⟨o,s',eb,hr⟩:=hb i c[i] J s e hI;rcases hr with ⟨J',rfl,GZ⟩|⟨x,rfl,hq⟩
   ·obtain⟨o2,s2,e2,q⟩:=ih (i+1) J' s' (by lia) GZ;refine⟨o2,s2,?_,q⟩;unfold dj;simp only[Src.at,e,eb];exact e2
   ·refine⟨_,s',?_,hq⟩;unfold dj;simp only[Src.at,e,eb]
 exact key c.length 0 J s (by lia) h0
theorem X_{hs:List Int}{f:Int->Int}{j:Int}(h0:0<=j)(h:j<hs.length):at' (hs.map f) j=f (at' hs j):=by
 obtain⟨i,hi,rfl,e⟩:=Kq h0 h;rw[e];unfold at';rw[m9,jh,gD,cT hi];rfl
theorem G7{xs:List D}{i:Nat}(h:i<=xs.length):cut xs none (some (i:Int))=xs.take i:=by
 unfold cut;rw[HT.jw,HT.k_,Nat.min_eq_left h];simp
theorem vN{xs:List D}{i:Nat}(h:i<=xs.length):cut xs (some (i:Int)) none=xs.drop i:=by
 unfold cut;rw[HT.jw,HT.k_,Nat.min_eq_left h];rw[List.take_of_length_le];rw[Cy]
 lia
theorem zlt(h:xs.length+ys.length<=sizeLine):prim .add [.tup xs,.tup ys]=some (.dat (.tup (xs++ys))):=by
 show (if _ then _ else _)=_;rw[if_pos h]
theorem zgk{α:Type}(l:List α)(f:α->Bool):dF (l.map λx=>D.bl (f x))=some (l.map f):=by
 induction l with
 |nil=>rfl
 |cons x r ih=>
  show Option.map _ (dF (r.map λx=>D.bl (f x)))=_;rw[ih];rfl
theorem zkh{α:Type}{l:List α}{f:α->Bool}:prim .all [.fl (l.map λx=>D.bl (f x))]=some (.dat (.bl (l.all f))):=by
 show Option.map _ (dF (l.map λx=>D.bl (f x)))=_;rw[zgk];show some (Rz.dat (.bl ((l.map f).all id)))=_;rw[CW];rfl
section
variable {n m:Int}{ps:List (Int×Int)}
end
end Mi
namespace Mi
open PySem PySem.W PyProof.Rows L2
structure Ord(n:Nat)(lt:Nat->Nat->Option Bool)(le:Nat->Nat->Prop):Prop where
 ans:∀i j,i<n->j<n->(lt i j=some true/\le i j)\/(lt i j=some false/\le j i)
 tr:∀i j k,i<n->j<n->k<n->le i j->le j k->le i k
section
variable {lt:Nat->Nat->Option Bool}{le:Nat->Nat->Prop}{n:Nat}
theorem Ord.rfl'(o:Ord n lt le)(hi:i<n):le i i:=by
 rcases o.ans i i hi hi with ⟨_,e⟩|⟨_,e⟩<;>exact e
def qN(le:Nat->Nat->Prop)(p:Array Nat)(r:Nat):Prop:=∀a b,a<b->b<r->le (p.getD a 0) (p.getD b 0)
def uc(le:Nat->Nat->Prop)(p:Array Nat)(r:Nat):Prop:=∀a b,a<b->b<r->le (p.getD b 0) (p.getD a 0)
def G8(le:Nat->Nat->Prop)(p:Array Nat)(l r:Nat):Prop:=∀a b,l<=a->a<r->l<=b->b<r->le (p.getD a 0) (p.getD b 0)
theorem getD_get?{p q:Array Nat}{i j:Nat}(h:p[i]?=q[j]?):p.getD i 0=q.getD j 0:=by
 have e:∀(x:Array Nat) (k:Nat),x.getD k 0=(x[k]?).getD 0:=by
  intro x k;unfold Array.getD
  split
  ·rename_i h;rw[Array.getElem?_eq_getElem h];rfl
  ·rename_i h;rw[Array.getElem?_eq_none (by lia)];rfl
 rw[e,e,h]
theorem cj.size{p:Array Nat}(h:cj n p):p.size=n:=by have:=h.size_eq;simpa using this
theorem ud{p:Array Nat}{i j k:Nat}(hj:j<=p.size):(kas_rev p i j).getD k 0=if i<=k/\k<j then p.getD (i+j-1-k) 0 else p.getD k 0:=by
 have:=getElem?_mirror_all (xs:=p) (i:=i) hj k;unfold kas_rev
 split
 ·rename_i h;rw[if_pos h] at this;exact getD_get? this
 ·rename_i h;rw[if_neg h] at this;exact getD_get? this
theorem Yb{p:Array Nat}{src d k:Nat}(hs:src<p.size)(hd:d<=src):(bubble p src d).getD k 0=if k=src-d then p.getD src 0 else if src-d<k/\k<=src then p.getD (k-1) 0 else p.getD k 0:=by
 have:=getElem?_bubble hs d hd k;by_cases h:k=src-d
 ·rw[if_pos h] at this ⊢;exact getD_get? this
 ·rw[if_neg h] at this ⊢;by_cases h2:src-d<k/\k<=src
  ·rw[if_pos h2] at this ⊢;exact getD_get? this
  ·rw[if_neg h2] at this ⊢;exact getD_get? this
variable (o:Ord n lt le)(hn:0<n)
include o hn
theorem sJ(hi:i<n)(hj:j<n)(h1:le i j->gC lt (k true) P)(h2:le j i->gC lt (k false) P):gC lt (.ask i j k) P:=by
 rcases o.ans i j hi hj with ⟨e,hl⟩|⟨e,hl⟩
 ·obtain⟨a,e1,q⟩:=h1 hl;exact⟨a,by unfold bF;rw[e];exact e1,q⟩
 ·obtain⟨a,e1,q⟩:=h2 hl;exact⟨a,by unfold bF;rw[e];exact e1,q⟩
theorem zgK(hp:cj n p)(hk:1<=k)(h:qN le p k)(hl:le (p.getD (k-1) 0) (p.getD k 0)):qN le p (k+1):=λa b xG hb=>by
 by_cases e:b=k
 ·subst e;by_cases e2:a=b-1
  ·subst e2;exact hl
  ·exact o.tr _ _ _ (hp.lt hn _) (hp.lt hn _) (hp.lt hn _) (h a (b-1) (by lia) (by lia)) hl
 ·exact h a b xG (by lia)
theorem G9(hp:cj n p)(hk:1<=k)(h:uc le p k)(hl:le (p.getD k 0) (p.getD (k-1) 0)):uc le p (k+1):=λa b xG hb=>by
 by_cases e:b=k
 ·subst e;by_cases e2:a=b-1
  ·subst e2;exact hl
  ·exact o.tr _ _ _ (hp.lt hn _) (hp.lt hn _) (hp.lt hn _) hl (h a (b-1) (by lia) (by lia))
 ·exact h a b xG (by lia)
theorem Q9(hp:cj n p):∀f k,1<=k->k+f<=n->qN le p k->gC lt (kas_asc p f k) λr=>k<=r/\r<=k+f/\qN le p r/\(r<k+f->le (p.getD r 0) (p.getD (r-1) 0))
 |0,k,_,_,h=>.ret ⟨bI _,by lia,h,λz=>by lia⟩
 |f+1,k,hk,hkf,h=>sJ o hn (hp.lt hn _) (hp.lt hn _) (λhl=>.ret ⟨bI _,by lia,h,λ_=>hl⟩) λhl=>by
  obtain⟨r,e,h1,h2,h3,h4⟩:=Q9 hp f (k+1) (by lia) (by lia) (zgK o hn hp hk h hl);exact⟨r,e,by lia,by lia,h3,λz=>h4 (by lia)⟩
theorem Yc(hp:cj n p)(hk:k<=n)(h:uc le p k)(ha:G8 le p l k):uc le (kas_rev p l k) k:=λa b xG hb=>by
 have hs:=hp.size;rw[ud (by lia),ud (by lia)];by_cases ca:l<=a/\a<k
 ·rw[if_pos ca,if_pos (by lia)];exact ha _ _ (by lia) (by lia) (by lia) (by lia)
 ·rw[if_neg ca];by_cases cb:l<=b/\b<k
  ·rw[if_pos cb];exact h a _ (by lia) (by lia)
  ·rw[if_neg cb];exact h a b xG hb
theorem Kr:∀f {p:Array Nat} k q,cj n p->1<=k->k+f<=n->q+1<=k->uc le p k->G8 le p (k-(q+1)) k->gC lt (kas_desc f p k q) λr=>cj n r.1/\k<=r.2.1/\r.2.1<=k+f/\r.2.2+1<=r.2.1/\uc le r.1 r.2.1/\G8 le r.1 (r.2.1-(r.2.2+1)) r.2.1
 |0,p,k,q,hp,_,_,hq,h,ha=>.ret ⟨hp,bI _,by dsimp only;lia,hq,h,ha⟩
 |f+1,p,k,q,hp,hk,hkf,hq,h,ha=>sJ o hn (hp.lt hn _) (hp.lt hn _) (λhl=>by
   show gC lt (if q>0 then _ else _) _;have hs:=hp.size;have one:∀{x:Array Nat},cj n x->G8 le x (k+1-(0+1)) (k+1):=λ{x} hx a b h1 h2 h3 h4=>by
    have:a=k:=by lia
    have:b=k:=by lia
    subst a;subst b;exact o.rfl' (hx.lt hn _)
   split
   ·have hp':=hp.rev (k-(q+1)) k;have h':uc le (kas_rev p (k-(q+1)) k) (k+1):=G9 o hn hp' hk (Yc o hn hp (by lia) h ha) (by
     rw[ud (by lia),ud (by lia),if_neg (by lia),if_pos (by lia)];refine o.tr _ _ _ (hp.lt hn _) (hp.lt hn _) (hp.lt hn _) hl (ha _ _ (by lia) (by lia) (by lia) (by lia)))
    obtain⟨r,e,w⟩:=Kr f (k+1) 0 hp' (by lia) (by lia) (by lia) h' (one hp');exact⟨r,e,w.1,by lia,by lia,w.2.2.2⟩
   ·obtain⟨r,e,w⟩:=Kr f (k+1) 0 hp (by lia) (by lia) (by lia) (G9 o hn hp hk h hl) (one hp);exact⟨r,e,w.1,by lia,by lia,w.2.2.2⟩) λhl=>sJ o hn (hp.lt hn _) (hp.lt hn _) (λ_=>.ret ⟨hp,bI _,by dsimp only;lia,hq,h,ha⟩) λrP=>by
   have hA:G8 le p (k+1-(q+1+1)) (k+1):=λa b h1 h2 h3 h4=>by
    have key:∀c,k-(q+1)<=c->c<k->le (p.getD c 0) (p.getD k 0)/\le (p.getD k 0) (p.getD c 0):=λc c1 c2=>
     ⟨o.tr _ _ _ (hp.lt hn _) (hp.lt hn _) (hp.lt hn _) (ha c (k-1) c1 c2 (by lia) (by lia)) hl,o.tr _ _ _ (hp.lt hn _) (hp.lt hn _) (hp.lt hn _) rP (ha (k-1) c (by lia) (by lia) c1 c2)⟩
    by_cases ea:a=k
    ·by_cases eb:b=k
     ·subst a;subst b;exact o.rfl' (hp.lt hn _)
     ·subst a;exact(key b (by lia) (by lia)).2
    ·by_cases eb:b=k
     ·subst b;exact(key a (by lia) (by lia)).1
     ·exact ha a b (by lia) (by lia) (by lia) (by lia)
   obtain⟨r,e,w⟩:=Kr f (k+1) (q+1) hp (by lia) (by lia) (by lia) (G9 o hn hp hk h rP) hA;exact⟨r,e,w.1,by lia,by lia,w.2.2.2⟩
theorem zii(hp:cj n p)(hk:k<=n)(h:uc le p k):qN le (kas_rev p 0 k) k:=λa b xG hb=>by
 have hs:=hp.size;rw[ud (by lia),ud (by lia),if_pos (by lia),if_pos (by lia)];exact h _ _ (by lia) (by lia)
theorem Yd(hp:cj n p)(hk:1<=k)(G_:k<=n)(h:uc le p k):gC lt (kas_tail3 k n p) λr=>cj n r.2/\1<=r.1/\r.1<=n/\qN le r.2 r.1:=by
 refine gC.bind (λc hc=>?_) (Q9 o hn (hp.rev 0 k) (n-k) k hk (by lia) (zii o hn hp G_ h));exact⟨_,rfl,hp.rev 0 k,by dsimp only;lia,by dsimp only;lia,hc.2.2.1⟩
theorem Ye(hp:cj n p)(hk:1<=k)(G_:k<n)(h:uc le p (k+1)):gC lt (kas_descPart k n p) λr=>cj n r.2/\1<=r.1/\r.1<=n/\qN le r.2 r.1:=by
 refine gC.bind (λr hr=>?_) (Kr o hn (n-(k+1)) (k+1) 0 hp (by lia) (by lia) (by lia) h (λa b h1 h2 h3 h4=>by
  have:a=k:=by lia
  have:b=k:=by lia
  subst a;subst b;exact o.rfl' (hp.lt hn _)))
 obtain⟨w1,w2,w3,w4,w5,w6⟩:=hr
 split
 ·exact Yd o hn (w1.rev _ _) (by lia) (by lia) (Yc o hn w1 (by lia) w5 w6)
 ·exact Yd o hn w1 (by lia) (by lia) w5
theorem zjb(hp:cj n p):gC lt (kas_count n p) λr=>cj n r.2/\1<=r.1/\r.1<=n/\qN le r.2 r.1:=by
 refine gC.bind (λk hk=>?_) (Q9 o hn hp (n-1) 1 (bI _) (by lia) (λa b h1 h2=>by lia));obtain⟨k1,k2,k3,k4⟩:=hk;have hs:=hp.size;by_cases e:(k==n)=true
 ·rw[if_pos e];exact .ret ⟨hp,k1,by dsimp only;lia,k3⟩
 ·rw[if_neg e];have G_:k<n:=by
   have:k≠n:=by simpa using e
   lia
  have hl:=k4 (by lia)
  split
  ·refine sJ o hn (hp.lt hn _) (hp.lt hn _) (λ_=>.ret ⟨hp,k1,by dsimp only;lia,k3⟩) λhz=>?_;have Yg:∀a b,a<k->b<k->le (p.getD a 0) (p.getD b 0):=λa b ha hb=>by
    have h1:le (p.getD a 0) (p.getD (k-1) 0):=by
     by_cases q:a=k-1
     ·subst q;exact o.rfl' (hp.lt hn _)
     ·exact k3 a (k-1) (by lia) (by lia)
    have h2:le (p.getD 0 0) (p.getD b 0):=by
     by_cases q:b=0
     ·subst q;exact o.rfl' (hp.lt hn _)
     ·exact k3 0 b (by lia) (by lia)
    exact o.tr _ _ _ (hp.lt hn _) (hp.lt hn _) (hp.lt hn _) (o.tr _ _ _ (hp.lt hn _) (hp.lt hn _) (hp.lt hn _) h1 hz) h2
   refine Ye o hn (hp.rev 0 k) k1 G_ (G9 o hn (hp.rev 0 k) k1 (λa b h1 h2=>?_) ?_)
   ·rw[ud (by lia),ud (by lia),if_pos (by lia),if_pos (by lia)];exact Yg _ _ (by lia) (by lia)
   ·rw[ud (by lia),ud (by lia),if_neg (by lia),if_pos (by lia)];exact o.tr _ _ _ (hp.lt hn _) (hp.lt hn _) (hp.lt hn _) hl (Yg _ _ (by lia) (by lia))
  ·have:k=1:=by lia
   subst this;refine Ye o hn hp (bI _) G_ (G9 o hn hp (bI _) (λa b h1 h2=>by lia) hl)
theorem Q_(hp:cj n p)(h:qN le p k):∀f l r,l<=r->r<=k->r-l<=f->(∀a,a<l->le (p.getD a 0) (p.getD k 0))->(∀a,r<=a->a<k->le (p.getD k 0) (p.getD a 0))->gC lt (kas_place p k f l r) λi=>i<=k/\(∀a,a<i->le (p.getD a 0) (p.getD k 0))/\(∀a,i<=a->a<k->le (p.getD k 0) (p.getD a 0))
 |0,l,r,h1,h2,h3,h4,h5=>.ret ⟨by lia,h4,λa z=>h5 a (by lia)⟩
 |f+1,l,r,h1,h2,h3,h4,h5=>by
  unfold kas_place;by_cases e:l>=r
  ·rw[if_pos e];exact .ret ⟨by lia,h4,λa z=>h5 a (by lia)⟩
  ·rw[if_neg e];refine sJ o hn (hp.lt hn _) (hp.lt hn _) (λhl=>?_) λhl=>?_
   ·refine Q_ hp h f l ((l+r)/2) (by lia) (by lia) (by lia) h4 λa z1 z2=>?_;by_cases q:a=(l+r)/2
    ·subst q;exact hl
    ·exact o.tr _ _ _ (hp.lt hn _) (hp.lt hn _) (hp.lt hn _) hl (h _ a (by lia) z2)
   ·refine Q_ hp h f ((l+r)/2+1) r (by lia) h2 (by lia) (λa z=>?_) h5;by_cases q:a=(l+r)/2
    ·subst q;exact hl
    ·exact o.tr _ _ _ (hp.lt hn _) (hp.lt hn _) (hp.lt hn _) (h a _ (by lia) (by lia)) hl
theorem Yh:∀f {p:Array Nat} k,cj n p->k+f=n->qN le p k->gC lt (kas_bin f p k) λr=>cj n r/\qN le r n
 |0,p,k,hp,hk,h=>.ret ⟨hp,(show k=n by lia)▸h⟩
 |f+1,p,k,hp,hk,h=>gC.bind (λl hl=>by
   obtain⟨l1,l2,l3⟩:=hl;have hs:=hp.size;refine Yh f (k+1) (hp.bub _ _) (by lia) λa b xG hb=>?_;rw[Yb (by lia) (by lia),Yb (by lia) (by lia),show k-(k-l)=l by lia];by_cases ea:a=l
   ·rw[if_pos ea,if_neg (by lia),if_pos (by lia)];exact l3 (b-1) (by lia) (by lia)
   ·rw[if_neg ea];by_cases ca:l<a/\a<=k
    ·rw[if_pos ca,if_neg (by lia),if_pos (by lia)];exact h _ _ (by lia) (by lia)
    ·rw[if_neg ca];by_cases eb:b=l
     ·rw[if_pos eb];exact l2 a (by lia)
     ·rw[if_neg eb];by_cases cb:l<b/\b<=k
      ·rw[if_pos cb];by_cases q:a=b-1
       ·lia
       ·exact h _ _ (by lia) (by lia)
      ·rw[if_neg cb];exact h _ _ xG (by lia)) (Q_ o hn hp h k 0 k (by lia) (bI _) (by lia) (λa z=>by lia) (λa z1 z2=>by lia))
theorem zkK:gC lt (kas_sort n) λp=>cj n p/\qN le p n:=by
 refine gC.bind (λr hr=>?_) (zjb o hn (.refl _));obtain⟨w1,w2,w3,w4⟩:=hr
 split
 ·rw[Nat.max_eq_left w2];exact Yh o hn _ _ w1 (by lia) w4
 ·have:r.1=n:=by lia
  exact .ret ⟨w1,this▸w4⟩
end
end Mi
namespace Ts
open PySem PySem.SetTable
end Ts
namespace Ts
open Mi PySem PySem.SetTable
end Ts
namespace Ts
open PySem PySem.SetTable
section
variable {prog:Program}{w:World}{A:Around}{E:Value->Shared->Prop}{s:Shared}{S:Addr}{items:List Value}{ts:List (Int×Int)}{L:Ent}{led:Bool}
end
end Ts
namespace Ts
open Mi (wK)
open PySem PySem.SetTable
section
variable {prog:Program}{w:World}{A:Around}{E:Value->Shared->Prop}{s:Shared}{S:Addr}{items:List Value}{ts:List (Int×Int)}{L:Ent}{led:Bool}
end
end Ts
namespace Ts
open PySem PySem.SetTable
section
variable {prog:Program}{w:World}{A:Around}{R:Result->Shared->Prop}{I:Addr}{fp wr:List Addr}{G:Array GenState->Array GenState->Prop}{n:Nat}{P:Nat->Value->Prop}{St:Nat->Shared->Prop}{S:Addr}{items:List Value}{ts:List (Int×Int)}{led:Bool}
end
section
variable {prog:Program}{w:World}{A:Around}{E:Value->Shared->Prop}{s:Shared}
end
section
variable {prog:Program}{w:World}{A:Around}{E:Value->Shared->Prop}{s:Shared}{S:Addr}{items:List Value}{ts:List (Int×Int)}{L:Ent}
end
end Ts
namespace Ts
open PySem PySem.SetTable PySem.Spec PyProof.Rows PySem.W L2
section
variable {prog:Program}{w:World}{A:Around}{E:Value->Shared->Prop}{s:Shared}{S:Addr}{items:List Value}{ts:List (Int×Int)}{L:Ent}
end
end Ts
namespace Mi
open PySem PySem.Spec PyProof.Rows L2 PySem.W Ts
noncomputable def qp(a b:Int×Int):Bool:=decide (a.1<b.1\/a.1=b.1/\a.2<b.2)
noncomputable def Hg(us:List (Int×Int))(i j:Nat):Option Bool:=match us[i]?,us[j]? with
 |some a,some b=>some (qp a b)
 |_,_=>none
def Ks(us:List (Int×Int))(i j:Nat):Prop:=qp (us.getD j (0,1)) (us.getD i (0,1))=false
theorem sO{a b:Int×Int}:qp a b=true↔(a.1<b.1\/a.1=b.1/\a.2<b.2):=Ai
theorem Ra{a b:Int×Int}:qp a b=false↔¬(a.1<b.1\/a.1=b.1/\a.2<b.2):=Lj
theorem Rb(us:List (Int×Int)):Ord us.length (Hg us) (Ks us):=by
 refine⟨λi j hi hj=>?_,λi j k _ _ _ h1 h2=>?_⟩
 ·unfold Hg Ks;rw[cT hi,cT hj,jh,jh,cT hi,cT hj];show (some (qp us[i] us[j])=some true/\qp us[j] us[i]=false)\/(some (qp us[i] us[j])=some false/\qp us[i] us[j]=false);cases e:qp us[i] us[j]
  ·exact .inr ⟨rfl,rfl⟩
  ·refine .inl ⟨rfl,?_⟩;rw[sO] at e;rw[Ra]
   lia
 ·unfold Ks at *;rw[Ra] at *
  lia
theorem zfA{us:List (Int×Int)}(hn:2<=us.length)(hd:us.Nodup):∃p,bF (Hg us) (kas_sort us.length)=some p/\p.size=us.length/\(∀i∈p.toList,i<us.length)/\(∀x,x∈p.toList.map (λi=>us.getD i (0,1))↔x∈us)/\(p.toList.map λi=>us.getD i (0,1)).Pairwise λa b=>qp a b=true:=by
 obtain⟨p,e,hp,ha⟩:=zkK (Rb us) (by lia);have hs:p.size=us.length:=hp.size;have hm:(p.toList.map λi=>us.getD i (0,1)).Perm us:=by
  have h1:(p.toList.map λi=>us.getD i (0,1)).Perm ((List.range us.length).map λi=>us.getD i (0,1)):=(Array.Perm.toList hp).map _;have h2:((List.range us.length).map λi=>us.getD i (0,1))=us:=by
   apply List.ext_getElem
   ·simp
   ·intro i a b;simp[jh,b]
  rw[h2] at h1;exact h1
 refine⟨p,e,hs,λi hi=>?_,λx=>hm.mem_iff,?_⟩
 ·have:=(Array.Perm.toList hp).mem_iff.mp hi;simpa using this
 ·have nd:(p.toList.map λi=>us.getD i (0,1)).Nodup:=hm.nodup_iff.mpr hd;rw[Ie];intro i j hi hj Bk;have hne:=Ie.mp nd i j hi hj Bk;have wC:i<p.size:=by simpa using hi
  have hj':j<p.size:=by simpa using hj
  have hl:=ha i j Bk (by lia);unfold Ks at hl;have e1:p.getD i 0=p[i]:=by simp[Array.getD,wC]
  have e2:p.getD j 0=p[j]:=by simp[Array.getD,hj']
  rw[e1,e2] at hl;simp only[List.getElem_map,Array.getElem_toList] at hne ⊢;generalize us.getD p[i] (0,1)=x at *;generalize us.getD p[j] (0,1)=y at *;rw[Ra] at hl;rw[sO];obtain⟨x1,x2⟩:=x;obtain⟨y1,y2⟩:=y;simp only[Prod.mk.injEq,ne_eq,not_and] at *
  lia
section
variable {prog:Program}{w:World}{A:Around}{E:Value->Shared->Prop}{s:Shared}{S:Addr}{items:List Value}{ts:List (Int×Int)}{L:Ent}
end
section
variable {X:Cx}
end
section
variable {K:W.Frag}{cA:Cl}{U:Ph}{H:Hp}
end
section
variable {X:Cx}{cA:Cl}{aq:Nat->Nat->Bool}{aj:Bool}{F:Fn}{EX:XS}{e:Expr}{pos pos' p p':Pos}{Xs:Es}{fz:Bool}
end
end Mi
namespace Mi
open PySem PySem.Spec PyProof.Rows L2 PySem.W
section
variable {X:Cx}{a b:Expr}{rest:List Expr}{pos:Pos}{ta tb:TE}
end
section
variable {K:W.Frag}{cA:Cl}{U:Ph}{H:Hp}
theorem zl3{d:D}{v:V}{k:Bool}(r:Rv K cA U H d v)(e:uY d=some k):yF K v H k:=by
 cases d with
 |non=>
  cases (show Rep K cA U H .non v from r);cases e;rfl
 |bl c=>
  cases (show Rep K cA U H (.bl c) v from r);cases e;rfl
 |int i=>
  cases (show Rep K cA U H (.int i) v from r);cases e;rfl
 |tup xs=>
  cases (show Rep K cA U H (.tup xs) v from r) with
  |tup t q=>
   cases e;refine .inr (.inl ⟨_,t.iz,?_⟩);cases q<;>rfl
 |fl xs=>
  obtain⟨a,us,rfl,sq,q⟩ : ∃a us,v=.ref a/\cM K H a us/\aB K cA U H xs us:=r;cases e;refine .inl ⟨_,sq,?_⟩;cases q<;>rfl
 |_=>cases e
end
section
variable {X:Cx}{cA:Cl}{aq:Nat->Nat->Bool}{aj:Bool}{F:Fn}{EX:XS}{a b:Expr}{A B:E}{pos p:Pos}{x:Str}{e:Expr}{es:List Expr}{Xs:Es}
noncomputable def sS(sc:Scope)(x:Str):Bool:=match sc.names.lookup x with
 |some k=>zE k
 |none=>false
noncomputable def Ku(sc:Scope)(x:Str):Bool:=match sc.names.lookup x with
 |some .globalImplicit=>true
 |_=>false
theorem zdt{sc:Scope}{x:Str}(h:sS sc x=true):∃k,sc.names.lookup x=some k/\zE k=true:=by
 unfold sS at h;split at h
 ·rename_i k e;exact⟨k,e,h⟩
 ·cases h
theorem Yi{sc:Scope}{x:Str}(h:Ku sc x=true):sc.names.lookup x=some .globalImplicit:=by
 unfold Ku at h;split at h
 ·assumption
 ·cases h
theorem gk(h:Ku X.env.scope x=true:=by kernel_rfl):JK X x .globalImplicit:=⟨Yi h⟩
theorem jl(h:(match X.env.scope.names.lookup x with|some .local=>true|_=>false)=true:=by kernel_rfl):JK X x .local:=by
 split at h
 ·exact⟨by assumption⟩
 ·cases h
theorem jc(h:(match X.env.scope.names.lookup x with|some .cell=>true|_=>false)=true:=by kernel_rfl):JK X x .cell:=by
 split at h
 ·exact⟨by assumption⟩
 ·cases h
theorem zU{scope:Scope}{cl:List (Str×Addr)}{N:List Str}{Cc:Addr}{s3:Shared}{H3:Hp}{fp:List Addr}{ao:List (Addr×Obj)}(h:Ku scope x=true:=by kernel_rfl):JK (X.blk scope cl N Cc s3 H3 fp ao) x .globalImplicit:=WQ (Yi h) rfl
theorem gv(i:Nat)(h:(decide (X.N[i]?=some x)&&sS X.env.scope x&&okN x)=true:=by kernel_rfl):JE X cA aq aj F EX (.Name x pos) (.v i):=by
 rw[gA,gA] at h;obtain⟨k,e,hv⟩:=zdt h.1.2;exact WR i (jN h.1.1) ⟨e⟩ hv h.2
theorem cI(i:Nat){scope:Scope}{cl:List (Str×Addr)}{N:List Str}{Cc:Addr}{s3:Shared}{H3:Hp}{fp:List Addr}{ao:List (Addr×Obj)}(h:(decide (N[i]?=some x)&&sS scope x&&okN x)=true:=by kernel_rfl):JE (X.blk scope cl N Cc s3 H3 fp ao) cA aq aj F EX (.Name x pos) (.v i):=by
 rw[gA,gA] at h;obtain⟨k,e,hv⟩:=zdt h.1.2;by_cases hk:k=.free
 ·subst hk;exact zn6 i (jN h.1.1) e h.2
 ·exact WR i (jN h.1.1) (WQ e (by cases k<;>first|rfl|exact absurd rfl hk)) hv h.2
theorem gc{f k:Nat}{cm:Bool}{st:Stmt}{ps:List Str}(Fo:bW X.prog X.w X.K X.mg X.base (fL X.prog X.w) cm k (gR X.K x) (fdOf X.K x st) ps (jZ X.K cA (F f)))(D:D3 X.K X.mg x st ps)(hr:bD k X.A)(R:JR X EX)(g:JK X x .globalImplicit)(ha:JA X cA aq aj F EX (e::es) Xs)(h:okN x=true:=by kernel_rfl)
  (iV:cm=true->X.aj=true:=by first|exact λ_=>rfl|exact λz=>nomatch z) (he:aD e=true:=by rfl) (hpl:es.all aD=true:=by rfl):JE X cA aq aj F EX (.Call (.Name x p) (e::es) [] pos) (.call f Xs):=
 zmc f Fo iV hr D.m D.f.kp D.b R g ha h he hpl
theorem nd(h:decide X.N.Nodup=true:=by kernel_rfl):X.N.Nodup:=jN h
end
theorem fJ{P:Program}{w:World}{K:W.Frag}{mg:Str->Option Value}{base:Heap}{cA:Cl}{aq:Nat->Nat->Bool}{T:Nat->Option Df}{x:Str}{st:Stmt}{ps:List Str}{k n:Nat}{cm:Bool}{df:Df}(D:D3 K mg x st ps)(N:List Str)(hT:T n=some df)
  (hb:∀(cdv:Value) (A:Around) (outer:List Env) (s:Shared) (H:Hp) (E:XK),bD k (A.deeper (envOfC x (au st) s.heap.objs.size (gR K x) cdv))->
   JB (fD (fL P w) P w K mg base N x (au st) (gR K x) cdv A outer s H E cm) cA aq cm (λc=>call aq T k c) (λ_ C dx H'=>E C dx H') (aK st) df.body) (S:cN N ps (au st):=by exact⟨rfl,rfl,rfl,dk,rfl,dk,dk⟩) (hp:df.gP=ps.length:=by rfl) (hm:df.many=N.length:=by rfl) :
  bW P w K mg base (fL P w) cm (k+1) (gR K x) (fdOf K x st) ps (jZ K cA (call aq T (k+1) cm n)):=W5 D.f S hT hp hm hb
end Mi
namespace Mi
open PySem PySem.Spec PyProof.Rows L2
section
variable {K:W.Frag}{cA:Cl}{U:Ph}{H:Hp}{s:S}
theorem Yj{β:Type}{c:Nat}{x:Xv}{v:V}{k:List D->M β}{P:β->S->Ph->Hp->Prop}{Ee:Nat->List D->S->Ph->Hp->Prop}(r:aV K cA U H x v)(h:Run K cA (M.bd (qb c x) k) U H s P Ee) :
  ∃fs ad dx vs,v=.ref ad/\H ad=some (.ins (cA.b c) dx ((cA.g c).zip vs))/\aB K cA U H fs vs/\Run K cA (k fs) U H s P Ee:=by
 cases r with
 |l _=>exact h.elim
 |d r=>cases r with
  |@ob ad e fs vs q r=>
   have h2:Run K cA (M.bd (if e=c then M.ret fs else M.no) k) U H s P Ee:=h;clear h;by_cases z:e=c
   ·rw[if_pos z] at h2;subst z;obtain⟨_,dx,q1,_⟩:=q;exact⟨fs,ad,dx,vs,rfl,q1,r,h2⟩
   ·rw[if_neg z] at h2;exact h2.elim
  |_=>exact h.elim
theorem Run.qt'{α:Type}{m:M α}{P:α->S->Ph->Hp->Prop}{Ee Ee':Nat->List D->S->Ph->Hp->Prop}(h:Run K cA (M.qt m) U H s P Ee):Run K cA m U H s P Ee':=by
 unfold Run M.qt at *;cases e:m s with
 |none=>rw[e] at h;exact h
 |some r=>
  obtain⟨r,s1⟩:=r;rw[e] at h;cases r with
  |ok a=>exact h
  |er c f=>exact h.elim
theorem Yk:∀{ns:List Str} {vs:List V} {m:Str},m∉ns->(ns.zip vs).lookup m=none
 |[],vs,m,_=>by simp
 |n::ns,[],m,_=>by simp
 |n::ns,v::vs,m,h=>by
  rw[Cr,nA,show (m==n)=false from Ac.mpr λe=>h (by simp[e])];exact Yk λz=>h (gW _ z)
end
structure Ow(K:W.Frag)(cA:Cl)(c:Nat):Prop where
 cl:Cls K (cA.b c)
 nf:∀f∈cA.g c,f9 K (cA.b c) f
 nd:(cA.g c).Nodup
section
variable {X:Cx}{cA:Cl}{aq:Nat->Nat->Bool}{aj:Bool}{F:Fn}{EX:XS}{a e:Expr}{es:List Expr}{A:E}{Xs:Es}{pos apos p:Pos}{x:Str}
theorem BW{c i:Nat}(o:Ow X.K cA c)(ha:JE X cA aq aj F EX a A)(hi:((cA.g c)[i]?==some x)=true:=by kernel_rfl)(hb:attributeBase a x X.env (eval a X.env)=eval a X.env:=by rfl):JE X cA aq aj F EX (.Attribute a x pos) (.of A c i):=⟨PE.weak (zlN ha.o hb) λZ H Q hh=>un hh λU J s hL hS h=>by
 refine aW hL hS h λy H1 U1 d1 s1 x1 hL1 aJ r1 h1=>?_;obtain⟨fs,ad,dx,vs,rfl,q1,q2,h2⟩:=Yj r1 h1;have hi:(cA.g c)[i]?=some x:=oJ.mp hi;cases ef:fs[i]? with
 |none=>rw[ef] at h2;exact h2.elim
 |some d=>
  rw[ef] at h2;obtain⟨v,e1,rv⟩:=q2.get ef;exact⟨ad,_,dx,_,v,rfl,q1,o.cl,o.nf x (eZ hi),zeU o.nd hi e1,h2.bH aJ v (.d rv)⟩⟩
theorem Yl:Passes (fL X.prog X.w) X λ_ _ _=>False:=λao Z H s e s' I h=>by
 obtain⟨_,_,_,_,_,_,_,_,_,_,z⟩:=h;exact z.elim
structure Mt(K:W.Frag)(C:Addr)(m q:Str)(st:Stmt)(ps:List Str)(f:Addr)(fd:FuncData):Prop where
 fn:mW K m q st f fd
 mt:Meth K C m f
 bd:Binds K fd ps []
theorem vO{c f k:Nat}{cm:Bool}{m q:Str}{st:Stmt}{ps:List Str}{fa:Addr}{fd:FuncData}{pl:Sem Bool}(o:Ow X.K cA c)(D:Mt X.K (cA.b c) m q st ps fa fd)(Fo:bW X.prog X.w X.K X.mg X.base (fL X.prog X.w) cm k fa fd ps (jZ X.K cA (F f)))(hr:bD k X.A)(ha:JE X cA aq aj F EX a A)(hb:JA X cA aq aj F EX (e::es) Xs)
  (hm:decide (m∉cA.g c)=true:=by kernel_rfl) (iV:cm=true->X.aj=true:=by first|exact λ_=>rfl|exact λz=>nomatch z) (he:aD e=true:=by rfl) (hpl:es.all aD=true:=by rfl)
  (ht:eval (.Call (.Attribute a m apos) (e::es) [] pos) X.env=(do
   let ov <-eval a X.env
   standAt apos.atName
   let (f,first) <-holding [ov] (getMethod ov m pl)
   callWith pos f first (backTo pos (starEach (e::es) X.env)) (backToKw pos (keywordEach [] X.env))):=by rfl):JE X cA aq aj F EX (.Call (.Attribute a m apos) (e::es) [] pos) (.cm c f A Xs):=⟨PE.weak (ziw (pl:=pl) (mD:=[]) ha.o o.cl D.mt Fo iV hr D.bd .nil Yl hb.o (bB he) (bA hpl) ht) λZ H Q hh=>un hh λU J s hL hS h=>by
 refine aW hL hS h λy H1 U1 d1 s1 x1 hL1 aJ r1 h1=>?_;obtain⟨fs,ad,dx,vs,rfl,q1,q2,h2⟩:=Yj r1 h1;refine⟨ad,dx,_,rfl,q1,Yk (jN hm),n6 hL1 aJ h2 λus H2 U2 ds s2 x2 hL2 aU r2 h3=>?_⟩;rw[vZ];obtain⟨U0,s0,a1,a2,a3⟩:=Wq (EE:=λ_ _ _ _=>False) aU (.cons (r1.mono x2 aJ.lz) r2) (λ_ _ _ _ _ _ z=>z) (h3.qt');refine⟨U0,_,s0,a1,a2,?_⟩;unfold Run at a3 ⊢;split at a3
 ·exact a3
 ·exact λU' H' x r=>(a3 U' H' x r).elim
 ·exact a3⟩
end
noncomputable def Kv(K:W.Frag)(cA:Cl)(c:Nat)(m:List Xv->M Xv):Sp:=λvs H Q _=>∃x dx us U H0 xs s,vs=.ref x::us/\H0 x=none/\H0 dx=none/\dx≠x/\H=upd (upd H0 dx (.own x)) x (.ins (cA.b c) dx [])/\aN K cA U H0 xs us/\aF K cA U H0 s /\
 Run K cA (m (.d .any::xs)) U H0 s (λr _ U' H'=>∀ds ws,r=.d (.tup ds)->aB K cA U' H' ds ws->eE U' H' x (.ins (cA.b c) dx ((cA.g c).zip ws))->(cA.g c).length=ws.length->Q .non H') (λ_ _ _ _ _=>False)
section
variable {K:W.Frag}{cA:Cl}{U:Ph}{H:Hp}{s:S}
theorem zhi{xs:List Xv}{vs:List V}(h:locs xs=[])(r:aN K cA U H xs vs)(l:List Addr):aN K cA ⟨U.z,l⟩ H xs vs:=by
 induction r with
 |nil=>exact .nil
 |cons a r ih=>cases a with
  |d a=>exact .cons (.d (Rep.zl a l)) (ih h)
  |l a=>cases h
theorem Ext.made{x dx:Addr}{C:Addr}(hx:H x=none)(hd:H dx=none)(hn:dx≠x):Ext U H (U.mark x) (upd (upd H dx (.own x)) x (.ins C dx [])):=by
 have g:bf H (upd (upd H dx (.own x)) x (.ins C dx [])):=(bf.new hd).trans (bf.new (by rw[dO hn.symm];exact hx));exact⟨⟨[],by simp[Ph.mark],by simp⟩,λa z=>.inl z,λa z=>z.imp id λe=>by rw[e];exact hx,λa o h _=>g a o h,λa o h=>⟨o,g a o h⟩⟩
theorem aF.made{x dx:Addr}{C:Addr}(hS:aF K cA U H s)(hx:H x=none)(hd:H dx=none)(hn:dx≠x):aF K cA (U.mark x) (upd (upd H dx (.own x)) x (.ins C dx [])) s:=by
 have xt:=Ext.made (U:=U) (C:=C) hx hd hn;refine⟨hS.len,λn o a e1 e2=>(hS.obj n o a e1 e2).map (λu q=>?_) λ_ _ r=>r.mono xt hS.lz,hS.uniq,λa ha=>.inl (hS.lz a ha),λa z=>?_⟩
 ·have n1:a≠x:=λy=>by rw[y,hx] at q;cases q
  have n2:a≠dx:=λy=>by rw[y,hd] at q;cases q
  rw[dO n1,dO n2];exact q
 ·rcases z with z|z
  ·obtain⟨o,e⟩:=hS.zt a z;exact xt.stay a o e
  ·subst z;exact⟨_,jC⟩
end
section
variable {X:Cx}{cA:Cl}{aq:Nat->Nat->Bool}{aj:Bool}{F:Fn}{EX:XS}{e:Expr}{es:List Expr}{Xs:Es}{pos p:Pos}{x:Str}
theorem zn7{c f k:Nat}{cm:Bool}{ps:List Str}{fa:Addr}{fd:FuncData}(M:Mk X.K (cA.b c) fa)(Fo:bW X.prog X.w X.K X.mg X.base (fL X.prog X.w) cm k fa fd ps (Kv X.K cA c (F f)))(hr:∀us,bD k (X.A.under (.builtin "type.__call__" ⟨.ref (cA.b c)::us,[]⟩)))(hb:Binds X.K fd ps [])(hm:X.mg x=some (.ref (cA.b c)))(hg:JK X x .globalImplicit)
  (ha:JA X cA aq aj F EX (e::es) Xs) (h:okN x=true:=by kernel_rfl) (iV:cm=true->X.aj=true:=by first|exact λ_=>rfl|exact λz=>nomatch z) (he:aD e=true:=by rfl) (hpl:es.all aD=true:=by rfl):JE X cA aq aj F EX (.Call (.Name x p) (e::es) [] pos) (.mk c f Xs):=⟨PE.weak (zim (mD:=[]) M Fo iV hr hg.o hm hb .nil Yl ha.o (rR h).1 (bB he) (bA hpl)) λZ H Q hh=>un hh λU J s hL hS h=>
 n6 hL hS h λus H1 U1 ds s1 x1 hL1 aJ r1 h1 x dx hx hd hn=>by
  rw[vZ];unfold Run Pj at h1;by_cases hl:locs ds=[]
  ·simp only[if_pos hl] at h1;refine⟨x,dx,us,⟨U1.z,[]⟩,H1,ds,[],rfl,hx,hd,hn,rfl,zhi hl r1 [],⟨rfl,(λn o a e=>by simp at e),Aq,(λa ha=>by cases ha),aJ.zt⟩,?_⟩;unfold Run;cases e:F f (.d .any::ds) [] with
   |none=>simp only[e] at h1
   |some r=>
    obtain⟨r,s2⟩:=r;simp only[e] at h1;cases r with
    |er c f=>exact h1.elim
    |ok r=>
     intro U' H' xt aU ts ws er rs kp hlen;subst er;have nx:¬U1.z x:=aJ.nz hx;have ne:∀a o,H1 a=some o->a≠x:=λa o q y=>by rw[y,hx] at q;cases q
     have Ym:Ext U1 H1 ⟨λa=>U'.z a/\a≠x,U1.l⟩ H':=by
      refine⟨⟨[],by simp,by simp⟩,λa z=>⟨xt.qH a z,λy=>nx (y▸z)⟩,λa z=>xt.lH a z.1,λa o q _=>xt.frame a o q (by simp),xt.stay⟩
     refine⟨rfl,h1 _ H' Ym ⟨aJ.len,λn o a e1 e2=>(aJ.obj n o a e1 e2).map (λu q=>xt.frame a u q (by simp)) λ_ _ r=>r.mono Ym aJ.lz,aJ.uniq,λa ha=>⟨xt.qH a (aJ.lz a ha),λy=>nx (y▸aJ.lz a ha)⟩,λa z=>aU.zt a z.1⟩ _ (.d (.ob ⟨λz=>z.2 rfl,dx,kp.at_,hlen⟩ (rs.jz (U':=⟨λa=>U'.z a/\a≠x,U1.l⟩) λ_ z=>z.1)))⟩
  ·simp only[if_neg hl] at h1⟩
end
structure vP(X:Cx)(cA:Cl)(aq:Nat->Nat->Bool)(aj:Bool)(F:Fn)(EX:XS)(c:Nat)(body:List Stmt)(is:Es)(ns:List Str):Prop where
 o:oO X body λD Z H=>∃U0 H0 U J s x dx done vs ys,Ext U0 H0 U H/\aX X.K cA U H Z J/\aF X.K cA U H s/\H0 x=none/\Z[0]?=some (some (.ref x))/\eE U H x (.ins (cA.b c) dx (done.zip vs))/\aN X.K cA U H ys vs/\done.length=vs.length/\done++ns=cA.g c/\done.length+ns.length<=900 /\
  Run X.K cA (M.bd (evs aq aj F is J) λzs=>cg (ys++zs)) U0 H0 s (λes _ U' H'=>∀ws,aB X.K cA U' H' es ws->eE U' H' x (.ins (cA.b c) dx ((cA.g c).zip ws))->(cA.g c).length=ws.length->D.nx Z H') (eX X.K cA EX Z)
theorem Yn{f:Str}{v:V}:∀{fs:List (Str×V)},f∉fs.map (·.1)->eF f v fs=fs++[(f,v)]
 |[],_=>rfl
 |(g,x)::r,h=>by
  unfold eF;rw[if_neg λe=>h (by simp[e]),Yn λz=>h (gW _ z)];rfl
theorem aN.out{K:W.Frag}{cA:Cl}{U:Ph}{H H':Hp}(x:cQ U H H'):∀{ds:List Xv} {vs:List V},aN K cA U H ds vs->aN K cA U H' ds vs
 |_,_,.nil=>.nil
 |_,_,.cons h r=>.cons (h.out x) (aN.out x r)
theorem aN.app{K:W.Frag}{cA:Cl}{U:Ph}{H:Hp}:∀{ds es:List Xv} {vs us:List V},aN K cA U H ds vs->aN K cA U H es us->aN K cA U H (ds++es) (vs++us)
 |_,_,_,_,.nil,s=>s
 |_,_,_,_,.cons h r,s=>.cons h (aN.app r s)
theorem Run.er{K:W.Frag}{cA:Cl}{U:Ph}{H:Hp}{s:S}{α:Type}{m:M α}{P:α->S->Ph->Hp->Prop}{Ee:Nat->List D->S->Ph->Hp->Prop}(h:Run K cA m U H s P λ_ _ _ _ _=>False):Run K cA m U H s P Ee:=by
 unfold Run at *;split at h
 ·exact h
 ·exact λU' H' x r=>(h U' H' x r).elim
 ·exact h
section
variable {X:Cx}{cA:Cl}{aq:Nat->Nat->Bool}{aj:Bool}{F:Fn}{EX:XS}{c:Nat}{a:Expr}{A:E}{is:Es}{ns:List Str}{body:List Stmt}{f:Str}{pos p p2:Pos}
theorem zkv:vP X cA aq aj F EX c [] .nil []:=⟨λao s Z H D I hh=>Ul ao s Z H D I (by
 obtain⟨U0,H0,U,J,st,x,dx,done,vs,ys,xt,hL,hS,hx,h0,kp,rs,hl,hg,hz,h⟩:=hh;rw[vZ] at hg;subst hg;have h2:Run X.K cA (M.bd (cg ys) M.ret) U H st (λes _ U' H'=>∀ws,aB X.K cA U' H' es ws->eE U' H' x (.ins (cA.b c) dx ((cA.g c).zip ws))->(cA.g c).length=ws.length->D.nx Z H') (eX X.K cA EX Z):=by
  have h3:=h.ext xt;unfold Run at h3 ⊢;have e0:M.bd (evs aq aj F .nil J) (λzs=>cg (ys++zs)) st=cg ys st:=by show cg (ys++[]) st=_;rw[vZ]
  rw[e0] at h3;unfold M.bd;cases e1:cg ys st with
  |none=>rw[e1] at h3;exact h3
  |some r=>
   obtain⟨r,s2⟩:=r;rw[e1] at h3;cases r with
   |er c f=>exact h3
   |ok ds=>exact h3
 obtain⟨ds,_,rs2,h4⟩:=Pu rs h2;exact h4.bH hS vs rs2 kp hl)⟩
theorem Kw{j:Nat}(ow:Ow X.K cA c)(ha:JE X cA aq aj F EX a A)(hr:vP X cA aq aj F EX c body is ns)(h0:(decide (X.N[0]?=some ("self" : Str))&&sS X.env.scope "self"&&okN "self")=true:=by kernel_rfl)
  (hs:swapsWith a (some (.Attribute (.Name "self" p) f p2)) pos.line X.env=pure false:=by rfl):vP X cA aq aj F EX c (.Assign [.Attribute (.Name "self" p) f p2] a pos::body) (.cons A is) (f::ns):=by
 rw[gA,gA] at h0;obtain⟨k,e,hv⟩:=zdt h0.1.2;refine⟨λao s Z H D I hh=>Um (zl1 (Ug (i:=0) (jN h0.1.1) (by cases k<;>first|exact .inl e|exact .inr (.inl e)|exact .inr (.inr e)|cases hv) (rR h0.2).1 (rR h0.2).2.1) ha.o hs) hr.o ao s Z H D I ?_⟩;obtain⟨U0,H0,U,J,st,x,dx,done,vs,ys,xt,hL,hS,hx,Yo,kp,rs,hl,hg,hz,h⟩:=hh;have h:Run X.K cA (M.bd (M.bd (ev aq aj F A J) λy=>M.bd (evs aq aj F is J) λzs=>M.ret (y::zs)) λzs=>cg (ys++zs)) U0 H0 st _ _:=h;simp only[jd] at h;refine⟨U,J,st,hL,hS,(h.bd0 xt).imp λy s1 U1 H1 ⟨x1,aJ,h1⟩ v rv=>?_⟩;have Ky:=kp.mono x1;have nf:f∈cA.g c:=by rw[<-hg];simp
 have nd:f∉done:=λz=>by
  have:=ow.nd;rw[<-hg,Io] at this;exact this.2.2 f z f (by simp) rfl
 have hk:(done.zip vs).map (·.1)=done:=by rw[List.map_fst_zip];lia
 refine⟨.ref x,Yo,x,_,dx,_,rfl,Ky.at_,ow.cl,ow.nf f nf,?_,?_⟩
 ·have:(done.zip vs).length<=done.length:=by rw[List.length_zip];lia
  simp at hz
  lia
 rw[Yn (by rw[hk];exact nd)];have ez:done.zip vs++[(f,v)]=(done++[f]).zip (vs++[v]):=by rw[List.zip_append hl];rfl
 rw[ez];have ox:cQ U1 H1 (upd H1 x (.ins (cA.b c) dx ((done++[f]).zip (vs++[v])))):=Ky.ext.1;refine⟨U0,H0,U1,J,s1,x,dx,done++[f],vs++[v],ys++[y],Ext.keep (vs:=[]) (xt.trans x1) hx,(hL.mono x1 hS.lz).out ox,aJ.keep Ky,hx,Yo,Ky.ext.2,((rs.mono x1 hS.lz).app (.cons rv .nil)).out ox,by simp[hl],by rw[<-hg,Il];rfl,by simp at hz ⊢;lia,?_⟩;have h1:Run X.K cA (M.bd (evs aq aj F is J) λzs=>M.bd (M.ret (y::zs)) λzs=>cg (ys++zs)) U0 H0 s1 _ _:=h1;have e2:(λzs=>cg (ys++[y]++zs))=λzs=>M.bd (M.ret (y::zs)) λzs=>cg (ys++zs):=by
  funext zs
  rw[Il];rfl
 rw[e2];exact h1
end
theorem zhv{K:W.Frag}{cA:Cl}{U:Ph}{H:Hp}{s:S}{α:Type}{m m':M α}{P:α->S->Ph->Hp->Prop}{Ee:Nat->List D->S->Ph->Hp->Prop}(e:m s=m' s)(h:Run K cA m U H s P Ee):Run K cA m' U H s P Ee:=by
 unfold Run at *;rw[<-e];exact h
theorem zf1{aq:Nat->Nat->Bool}{T:Nat->Option Df}{k n m p:Nat}{cm:Bool}{is:Es}{xs:List Xv}{s:S}(hT:T n=some ⟨m,p,.cons (.ret (.tup is)) .nil⟩)(hl:xs.length=p) :
  call aq T (k+1) cm n xs s=M.bd (M.bd (evs aq cm (call aq T k cm) is (xs.map some++List.replicate (m-p) none)) cg) (λds=>M.ret (.d (.tup ds))) s:=by
 unfold call;simp only[hT,if_pos hl];show (match cC (ofM (M.bd (evs aq cm (call aq T k cm) is _) λvs=>M.bd (cg vs) λds=>M.ret (.d (.tup ds))) _ λx s=>some (.rt x,s)) _ s with|some (.nx _,s')=>_|some (.rt v,s')=>_|some (.er c fs _,s')=>_|_=>none)=_;rw[jd];unfold cC ofM;cases e:M.bd (evs aq cm (call aq T k cm) is (xs.map some++List.replicate (m-p) none)) (λvs=>M.bd (cg vs) λds=>M.ret (Xv.d (.tup ds))) s with
 |none=>rfl
 |some r=>
  obtain⟨r,s1⟩:=r;cases r<;>rfl
theorem zil{P:Program}{w:World}{K:W.Frag}{mg:Str->Option Value}{base:Heap}{cA:Cl}{aq:Nat->Nat->Bool}{T:Nat->Option Df}{x qual:Str}{st:Stmt}{f:Addr}{fd:FuncData}{N ps:List Str}{k n c m p:Nat}{cm:Bool}{is:Es}(F:mW K x qual st f fd)(hT:T n=some ⟨m,p,.cons (.ret (.tup is)) .nil⟩)
  (hb:∀(cdv:Value) (A:Around) (outer:List Env) (s:Shared) (H:Hp) (E:XK),bD k (A.deeper (envOfC qual (au st) s.heap.objs.size f cdv))->
   vP (fD (fL P w) P w K mg base N qual (au st) f cdv A outer s H E cm) cA aq cm (call aq T k cm) (λ_ C dx H'=>E C dx H') c (aK st) is (cA.g c)) (hg:(cA.g c).length<=900) (S:cN N ps (au st):=by exact⟨rfl,rfl,rfl,dk,rfl,dk,dk⟩) (hp:p=ps.length:=by rfl) (hm:m=N.length:=by rfl) (h0:0<p:=by decide) :
  bW P w K mg base (fL P w) cm (k+1) f fd ps (Kv K cA c (call aq T (k+1) cm n)):=by
 obtain⟨oc,od,kV,doc,pm,an,cdv,ct,osl,rfl,lk,jD⟩:=F.ex;have hlen:∀{U:Ph} {H:Hp} {s:Mi.S} {xs:List Xv} {P:Xv->Mi.S->Ph->Hp->Prop},Run K cA (call aq T (k+1) cm n (.d .any::xs)) U H s P (λ_ _ _ _ _=>False)->xs.length+1=p:=λ{U H s xs P} h=>by
  unfold call at h;simp only[hT] at h;by_cases hl:(Xv.d D.any::xs).length=p
  ·simpa using hl
  ·rw[if_neg hl] at h;exact h.elim
 refine U7 lk jD S (λvs H Q E ⟨x,dx,us,U,H0,xs,s,e,_,_,_,_,r,_,h⟩=>?_) λA outer s H vs Q E hr ⟨x,dx,us,U,H0,xs,st',e,hx,hd,hn,eH,r,hS,h⟩=>⟨_,(hb cdv A outer s H E (hr.deeper _)).o,?_⟩
 ·have:=hlen h;rw[e,fZ,<-r.len,<-hp]
  lia
 ·subst e eH;have hl:=hlen h;have xt:=Ext.made (U:=U) (C:=cA.b c) hx hd hn;refine⟨U,H0,U.mark x,(Xv.d .any::xs).map some++List.replicate (m-p) none,st',x,dx,[],[],[],xt,WD (.cons (.d (.any x)) (r.mono xt hS.lz)) (by simp;lia) hm,hS.made hx hd hn,hx,rfl,⟨jC,λz=>hS.nz hx (hS.lz x z),.inr rfl⟩,.nil,rfl,rfl,by simpa using hg,?_⟩;have h2:=(zhv (zf1 hT (by simpa using hl)) h).bd0 Ext.refl;exact Run.er (Run.imp h2 λds s1 U1 H1 ⟨x1,aJ,h4⟩ ws rs kp hl=>h4 U1 H1 x1 aJ ds ws rfl rs kp hl)
section
variable {prog:Program}{w:World}{A:Around}{E:Value->Shared->Prop}{s:Shared}
theorem zdu{r:Addr}{n:Nat}{lo hi:Int}{t u v:Tok}{Q:List Value->Shared->Prop}(hh:A.handled=none)(hr:IsRange s.heap r lo hi 1 t u v)(hs:Builtin.Range.small lo hi 1=true)(hn:Builtin.Range.rangeSize lo hi 1=n)(hl:n<=65536)
  (q:∀(h':Heap) (tk:Nat) (acc:Array Value),(∀b o,s.heap.get? b=some o->h'.get? b=some o)->ItemsOf (λi v=>∃t,v=.int (lo+i*1) t) acc n->Q acc.toList {s with heap:=h',toks:=tk}):wpAny (model prog w) A (collect (.ref r)) Q E s:=by
 unfold collect;refine aC (wpAny_runValue (CG F.entry_proto_collect ?_));rw[Cp F.plain_proto_collect _];refine aC (m:=newList []) (wpAny_newList (aO ⟨CT F.plain_list_iadd _,CG F.entry_list_iadd ?_⟩));rw[Cp F.plain_list_iadd _];have fin:∀{r':Result} {s':Shared},(∃h' tk acc c,r'=.ok (.ret (.ref s.heap.objs.size))/\s'={s with heap:=h',toks:=tk}/\h'.get? s.heap.objs.size=some (seqObj "list" acc c)/\(∀b o,s.heap.get? b=some o->h'.get? b=some o)/\ItemsOf (λi v=>∃t,v=.int (lo+i*1) t) acc n)->(match r' with
   |.ok (.ret v)=>wpAny (model prog w) A (match v with
    |.ref a=>do
     match (<-load a).data with
      |.seq xs _=>pure xs.toList
      |_=>unsupported "internal:collect"
    |_=>unsupported "internal:collect") Q E s'
   |.ok _=>False
   |.error e=>E e s'):=λ{r' s'} z=>by
  obtain⟨h',tk,acc,c,rfl,rfl,hS,kp,qu⟩:=z;exact aC (wpAny_load hS (aO (q h' tk acc kp qu)))
 refine lO (wpAny_extend_range (A:=A) (s:={s with heap:=s.heap.push (seqObj "list" #[] 0)}) (R:=λr' s'=>∃h' tk acc c,r'=.ok (.ret (.ref s.heap.objs.size))/\s'={s with heap:=h',toks:=tk}/\h'.get? s.heap.objs.size=some (seqObj "list" acc c)/\(∀b o,s.heap.get? b=some o->h'.get? b=some o)/\ItemsOf (λi v=>∃t,v=.int (lo+i*1) t) acc n)
  hh (cG _ hr) hs hn (by lia) s.heap.objs.size (.ref s.heap.objs.size) 0 (fj _ rfl) λh' tk acc c kp hS qu=>⟨h',tk,acc,c,rfl,rfl,hS,λb o e=>kp b o (dJ (bR e)) (cG _ e),qu⟩) (λf s' z=>?_) λe s' z=>?_
 ·cases f with
  |done f=>exact fin z
  |again c'=>exact⟨z.1,Ar z.2 λr s'' hr=>fin hr⟩
 ·obtain⟨_,_,_,_,e,_⟩:=z;cases e
end
theorem zeR(r:Addr)(lo hi:Int)(t u v:Tok)(n:Nat)(hs:Builtin.Range.small lo hi 1=true)(hn:Builtin.Range.rangeSize lo hi 1=n)(hl:n<=65536):Meets (Builtin.«tuple.__new__» ⟨[.type "tuple",.ref r],[]⟩)
   (λA R s=>A.handled=none/\IsRange s.heap r lo hi 1 t u v/\∀(h':Heap) (tk:Nat) (acc:Array Value),(∀b o,s.heap.get? b=some o->h'.get? b=some o)->ItemsOf (λi v=>∃t,v=.int (lo+i*1) t) acc n->R (.ok (.ret (.ref h'.objs.size))) {s with heap:=h'.push {cls:=.type "tuple",data:=.seq acc},toks:=tk}):=
 .of_wp λprog w A R s h=>by
  obtain⟨hh,hr,h⟩:=h;have hsub:=sub_tuple_self;have hinit:=init_tuple_lookup;have hmh:=madeHere_tuple;have hT:s.TypeIs (.ref r) "range":=⟨_,hr,rfl⟩;have hh1:A.in1.handled=none:=hh
  wp_walk using CV hT,Ig hr,zdu hh1 hr hs hn hl
  intro h' tk acc hk qu;show wpAny _ _ (Builtin.Tuple.tupleExact acc.toList.toArray >>= λv=>ret v) _ _ _;unfold Builtin.Tuple.tupleExact;have e:acc.toList.toArray=acc:=by simp
  rw[e];exact aC (oG (aO ⟨_,rfl,h h' tk acc hk qu⟩) (show acc.size<=sizeLine by rw[qu.1];exact jO hl (by decide)))
section
variable {X:Cx}
theorem zbZ{ao:List (Addr×Obj)}{Z:L2.St}{H:Hp}{s:Shared}{Q:VK}{hi:Int}{t u v:Tok}{tk:Nat}(hc:X.aj=true)(I:Inv X ao Z H s)(hk:okR 0 hi=true)
  (q:∀l,H l=none->Q (.ref l) (upd H l (.tup (BP 0 (hi-0).toNat)))) :
  wpAny (model X.prog X.w) X.A (PySem.call (.type "tuple") [.ref s.heap.objs.size]) (EP X ao Z Q) X.xe {s with heap:=s.heap.push {cls:=.type "range",data:=.fields #[.int 0 t,.int hi u,.int 1 v]},toks:=tk}:=by
 obtain⟨h1,h2,h3,h4,h5⟩:=jN hk;have en:Builtin.Range.rangeSize 0 hi 1=((hi-0).toNat:Nat):=by rw[rangeSize_one];split<;>lia
 refine callType_new F.called_tuple (by decide) (F.typeCall_tuple_1 _) (F.newCall_tuple_1 _) (λobj=>F.args_object_init_2 obj _) F.entry_tuple_new (zeR _ 0 hi t u v _ (small_one h1 h2 h3 h4) en h5) ⟨I.ok.hd hc,IsRange.new ..,λh' tk' acc kp ⟨z1,z2⟩=>?_⟩;have hv:Vals (BP 0 (hi-0).toNat) acc.toList:=by
  have:=zji (i:=0) (acc:=acc) (n:=(hi-0).toNat) (m:=0) (λk v e=>by
   obtain⟨t,e⟩:=z2 k v (by simpa using e);exact⟨t,by rw[e,Int.mul_one,Nat.zero_add]⟩) (by rw[uq];exact z1)
  simpa [BP] using this
 have hz:s.heap.objs.size<=h'.objs.size:=v7 (bR (kp _ _ (fj s.heap rfl)));have I':=I.laid (a:=h'.objs.size) (o:=.tup (BP 0 (hi-0).toNat)) (h':=h'.push {cls:=.type "tuple",data:=.seq acc}) (t':=tk') (λb u q=>cG _ (kp b u (cG _ q))) hz (show bG X.prog X.w _ _ _ (.tup (BP 0 (hi-0).toNat)) from ⟨by
  rw[hv.length,uq,z1];exact jO h5 (by decide),acc.toList,hv,⟨_,fj _ rfl,rfl,0,by simp⟩⟩)
 exact⟨⟨_,fj _ rfl,rfl⟩,.ref h'.objs.size,_,I',rfl,q _ (I.hok.fresh hz)⟩
def Hj(vs:List V)(H:Hp)(Q:VK):Prop:=∃j:Int,vs=[.int j]/\okR 0 j=true/\∀l,H l=none->Q (.ref l) (upd H l (.tup (BP 0 (j-0).toNat)))
theorem zlh{e:Expr}{t:TA}{p p' pos pos':Pos}(hc:X.aj=true)(hg:Gl X "tuple")(hm:X.mg "tuple"=none)(Rf:Gl X "range")(Rg:X.mg "range"=none)(ha:PA X [e] t)(he:starEach [e] X.env=(false,eval e X.env)::starEach [] X.env:=by rfl) :
  PE X (.Call (.Name "tuple" p) [.Call (.Name "range" p') [e] [] pos'] [] pos) (Nq Hj t):=by
 intro ao s Z H Q I h;refine Ag (uH I hg hm J8 ?_);refine xK ?_ rfl rfl;show wpAny _ _ (spliced ((false,eval (.Call (.Name "range" p') [e] [] pos') X.env)::backTo pos (starEach [] X.env))) _ _ s;refine Calls.spliced_cons ?_;refine Ag (uH I Rf Rg boot_range ?_);refine xK (aZ (ha pos' ao s Z H _ I h) λus s1 ⟨vs,H1,I1,r1,q1⟩=>?_) he rfl;obtain⟨j,rfl,hk,q⟩:=q1;cases r1 with
 |cons r rr=>
  cases rr;obtain⟨t,rfl⟩:=r;exact call_range_1 (Calls.spliced_nil (zbZ hc I1 hk q))
theorem zkg{e:Expr}{te:TE}(h:PE X e te)(he:∀whole,isTrue e X.env whole=(do let v <-whole;standAt e.pos;holding [v] (truthy v))):PT X e (λZ H Q=>te Z H λx H1=>∃k,yF X.K x H1 k/\Q k H1):=by
 intro ao s Z H Q I hw;exact isTrue_plain (aZ (h ao s Z H _ I hw) λv s1 hx=>dY hx λx H1 I1 r1 q1=>zls ao s1 Z H1 x v Q I1 r1 q1) (he _)
end
section
variable {K:W.Frag}{cA:Cl}{U:Ph}{H:Hp}
theorem zkR:bx K cA .Bh Hj:=by
 intro U H ds vs Q zt rs o;have o:bw K cA U H (zj ds) Q:=o;unfold zj at o;split at o
 ·rename_i j _;obtain⟨v,rfl,r1⟩:=rs.one;cases (show Rep K cA U H (.int j) v from r1);by_cases hk:okR 0 j=true
  ·rw[if_pos hk] at o;exact⟨j,rfl,hk,λl hl=>o.tup zt (Xf _) hl⟩
  ·rw[if_neg hk] at o;exact o.elim
 ·exact o.elim
end
section
variable {X:Cx}{cA:Cl}{aq:Nat->Nat->Bool}{aj:Bool}{F:Fn}{EX:XS}{a e:Expr}{A:E}{pos pos' p p':Pos}{Xs:Es}{fz:Bool}
theorem zne(hc:X.aj=true)(hm:X.mg "tuple"=none)(hg:JK X "tuple" .globalImplicit)(Rg:X.mg "range"=none)(Rf:JK X "range" .globalImplicit)(ha:JA X cA aq aj F EX [e] Xs)(he:aD e=true:=by rfl):JE X cA aq aj F EX (.Call (.Name "tuple" p) [.Call (.Name "range" p') [e] [] pos'] [] pos) (.pr fz .Bh Xs):=⟨PE.weak (zlh hc hg.o hm Rf.o Rg ha.o (bB he)) λZ H Q hh=>un hh λU J s hL hS h=>
 n6 hL hS h λvs H1 U1 ds s1 x1 hL1 aJ r1 h1=>by
  obtain⟨ds,rs,h3⟩:=rF aJ r1 h1;exact zkR U1 H1 ds _ _ aJ.zs rs (qJ aJ h3)⟩
theorem zmO(ha:JE X cA aq aj F EX a A)(he:wY a=true:=by rfl):JT X cA aq aj F EX a (.Bj A):=⟨PT.weak (zkg ha.o (by cases a<;>first|(intro _;rfl)|cases he)) λZ H Q hh=>un (W9 hh) λU J s hL hS h=>by
 refine aW hL hS h λx H1 U1 d1 s1 x1 hL1 aJ r1 h1=>?_;obtain⟨dd,rv,h2⟩:=J0 aJ r1 h1;obtain⟨bb,e,h3⟩:=JV h2;obtain⟨c,ec,q⟩:=h3.bH aJ _ (.d (.bl bb));cases ec;exact⟨bb,zl3 rv e,q⟩⟩
end
def gq(h:Heap)(items:Array Value)(rows:List (List Int))(no:List Addr):Prop:=∀i v,items[i]?=some v->∃a xs,v=.ref a/\IsTup h a xs/\IntsAre xs.toList (rows.getD i [])/\a∉no
theorem gq.keep{h h':Heap}{items:Array Value}{rows:List (List Int)}{no:List Addr}(g:gq h items rows no)(k:∀b o,b∉no->h.get? b=some o->h'.get? b=some o):gq h' items rows no:=λi v e=>by
 obtain⟨a,xs,e1,⟨o,e2,r⟩,e3,e4⟩:=g i v e;exact⟨a,xs,e1,⟨o,k a o e4 e2,r⟩,e3,e4⟩
noncomputable abbrev uf(rows:List (List Int))(i j:Nat):Bool:=HT.lexLt (rows.getD i []) (rows.getD j [])
section
variable {prog:Program}{w:World}{A:Around}{R:Result->Shared->Prop}{I S l:Addr}{items:Array Value}{rows:List (List Int)}
theorem zjN{s:Shared}{i j:Nat}{u v:Value}{Q:Value->Shared->Prop}{E:Value->Shared->Prop}(hu:A.units<cLine)(g:gq s.heap items rows [I,S])(h1:items[i]?=some u)(h2:items[j]?=some v)(q:Q (.bool (uf rows i j)) s):wpAny (model prog w) A (richCompare .Lt u v) Q E s:=by
 obtain⟨a,xs,rfl,p1,i1,_⟩:=g i u h1;obtain⟨b,ys,rfl,p2,i2,_⟩:=g j v h2;exact HT.ju p1 p2 i1 i2 hu q
theorem zeJ(hh:A.handled=none)(hu:A.units+1<cLine)(hlI:l≠I)(hS:S∉[I,l]):∀(k j:Nat) (s:Shared) (vb:Value) (c:Nat),items.size-(j+1)=k->j+1<=items.size->(s.heap.IsListIter I l (j+1)/\s.heap.IsList l items)->items[argBest (uf rows) j]?=some vb->gq s.heap items rows [I,S]->
  s.heap.get? S=some (seqObj "list" #[vb,vb] c)->(∀v h' tk,items[argBest (uf rows) (items.size-1)]?=some v->(∀b o,b∉[I,S]->s.heap.get? b=some o->h'.get? b=some o)->R (.ok (.ret v)) {s with heap:=h',toks:=tk})->
  codeAny (model prog w) A (.builtin "min.loop" ⟨[.ref I,.none,.ref S],[]⟩) R s:=by
 have W:=Walks.list (prog:=prog) (w:=w) (A:=A.in1) hh I l hlI items;have nm:(toString "min"++toString ".loop" : String)="min.loop":=by decide
 have SI:S∉[I]:=λz=>hS (by simp at z;simp[z]);intro k
 induction k with
 |zero=>
  intro j s vb c e1 e2 st hb g oS q;refine CG F.entry_min_loop ?_;rw[Cp xU _];refine aC (m:=seqItems? (.ref S)) (pN oS rfl ?_);refine aC (m:=tryCatch (pyNext (.ref I)) _) (wpAny_tryCatch (W.done s _ _ ((show j+1=items.size by lia)▸st) λh' tk kp=>?_));refine aC (m:=updateSeq S λ_=>#[]) (wpAny_updateSeq (kp S _ SI oS) rfl (aC (xW (aO (q vb _ tk ?_ λb o hb e=>?_)))))
  ·rw[show items.size-1=j by lia];exact hb
  ·exact(uo _ _ (λz=>hb (by simp[z]))).trans (kp b o (λz=>hb (by simp at z;simp[z])) e)
 |succ k ih=>
  intro j s vb c e1 e2 st hb g oS q;refine CG F.entry_min_loop ?_;rw[Cp xU _];refine aC (m:=seqItems? (.ref S)) (pN oS rfl ?_);refine aC (m:=tryCatch (pyNext (.ref I)) _) (wpAny_tryCatch (W.item (j+1) s _ _ (by lia) st λv h' tk hP st' kp=>?_));have Rh:=kp S _ SI oS;have g':gq h' items rows [I,S]:=g.keep λb o hb e=>kp b o (λz=>hb (by simp at z;simp[z])) e;refine aC (m:=tryCatch (holding [v,v] (richCompare .Lt v vb >>= _)) _) (wpAny_tryCatch (pO (aC (zjN (A:=A.in1) (s:={s with heap:=h',toks:=tk}) hu g' hP hb ?_))));refine aC (pO (sZ (aC (xW (aO ?_)))));cases e3:uf rows (j+1) (argBest (uf rows) j) with
  |true=>
   simp only[if_true];refine aC (wpAny_updateSeq Rh rfl (aC (xW ?_)));rw[nm];have BX:∀b o,b≠S->h'.get? b=some o->(h'.update S (Obj.mapSeq λ_=>#[v,v])).get? b=some o:=λb o hb e=>(uo _ _ (Ne.symm hb)).trans e;refine aO ⟨CT xU _,ih (j+1) _ v _ (by lia) (by lia) (W.frame _ _ _ st' λb hb o e=>BX b o (λz=>hS (by rw[<-z];exact hb)) e) (by simp only[argBest,e3,if_true];exact hP) (g'.keep λb o hb e=>BX b o (λz=>hb (by simp[z])) e) (xP _ Rh rfl) λv' h2 tk2 Hl Ho=>q v' h2 tk2 Hl λb o hb e=>Ho b o hb (BX b o (λz=>hb (by simp[z])) (kp b o (λz=>hb (by simp at z;simp[z])) e))⟩
  |false=>
   simp only[vX,qz];refine aC (xW ?_);rw[nm];exact aO ⟨CT xU _,ih (j+1) _ vb c (by lia) (by lia) st' (by simp only[argBest,e3,vX,qz];exact hb) g' Rh λv' h2 tk2 Hl Ho=>q v' h2 tk2 Hl λb o hb e=>Ho b o hb (kp b o (λz=>hb (by simp at z;simp[z])) e)⟩
theorem ze4{s:Shared}{E:Value->Shared->Prop}{Q:Value->Shared->Prop}(hh:A.handled=none)(hu:A.units+2<cLine)(hl:s.heap.IsList l items)(h0:0<items.size)(g:gq s.heap items rows [])
  (q:∀v h' tk,items[argBest (uf rows) (items.size-1)]?=some v->(∀b o,s.heap.get? b=some o->h'.get? b=some o)->Q v {s with heap:=h',toks:=tk}):wpAny (model prog w) A (PySem.call (.builtin "min") [.ref l]) Q E s:=by
 have nm:(toString "min"++toString ".loop" : String)="min.loop":=by decide
 have dh:l<s.heap.objs.size:=by obtain⟨o,e,_⟩:=hl;exact bR e
 refine call_function_tree F.kind_min F.plain_min F.entry_min (F.args_min1 _) ?_;refine aC (m:=Builtin.Builtins.bindParams "min" ["key","default"] 0 ⟨[],[]⟩) (wpAny_of_eq (show Builtin.Builtins.bindParams "min" ["key","default"] 0 ⟨[],[]⟩=pure [none,none] from rfl) (aC (aO ?_)));refine aC (Ik hl (aC (oG ?_)));rw[nm];have n1:(s.heap.push {cls:=.type "list_iterator",data:=.fields #[.ref l,.int 0 0]}).objs.size=s.heap.objs.size+1:=tG ..;refine aO ⟨CT xU _,?_⟩;refine CG F.entry_min_loop ?_;rw[Cp xU _];have W:=Walks.list (prog:=prog) (w:=w) (A:=A.in1) hh s.heap.objs.size l (dJ dh) items;have oS:((s.heap.push {cls:=.type "list_iterator",data:=.fields #[.ref l,.int 0 0]}).push (seqObj "list" #[] 0)).get? (s.heap.objs.size+1)=some (seqObj "list" #[] 0):=by rw[<-n1];exact fj _ rfl
 have k0:∀b o,s.heap.get? b=some o->((s.heap.push {cls:=.type "list_iterator",data:=.fields #[.ref l,.int 0 0]}).push (seqObj "list" #[] 0)).get? b=some o:=λb o e=>cG _ (cG _ e);rw[n1];refine aC (m:=seqItems? (.ref (s.heap.objs.size+1))) (pN oS rfl ?_);refine aC (m:=tryCatch (pyNext (.ref s.heap.objs.size)) _) (wpAny_tryCatch (W.item 0 _ _ _ h0 ⟨⟨_,cG _ (fj _ rfl),rfl,rfl⟩,hl.at λo e=>k0 l o e⟩ λv h' tk hP st' kp=>?_));have ne1:s.heap.objs.size+1∉[s.heap.objs.size]:=by simp
 refine aC (m:=updateSeq (s.heap.objs.size+1) λ_=>#[v,v]) (wpAny_updateSeq (kp _ _ ne1 oS) rfl ?_);rw[nm];have BX:∀b o,b≠s.heap.objs.size+1->h'.get? b=some o->(h'.update (s.heap.objs.size+1) (Obj.mapSeq λ_=>#[v,v])).get? b=some o:=λb o hb e=>(uo _ _ (Ne.symm hb)).trans e;have Hq:∀b o,s.heap.get? b=some o->(h'.update (s.heap.objs.size+1) (Obj.mapSeq λ_=>#[v,v])).get? b=some o:=λb o e=>BX b o (dJ (tu (bR e))) (kp b o (by simpa using dJ (bR e)) (k0 b o e));have out:∀b o,s.heap.get? b=some o->b∉[s.heap.objs.size,s.heap.objs.size+1]:=λb o e z=>by
  rcases gG.mp z with z|z
  ·exact absurd z (dJ (bR e))
  ·exact absurd (Cu.mp z) (dJ (tu (bR e)))
 refine aO ⟨CT xU _,zeJ (A:=A) (rows:=rows) hh (by lia) (dJ dh) (λz=>by
  rcases gG.mp z with z|z
  ·exact absurd z (Nat.succ_ne_self _)
  ·exact absurd (Cu.mp z) (uD (tu dh))) _ 0 _ v _ rfl h0 (W.frame _ _ _ st' λb hb o e=>BX b o (λz=>by
  rcases gG.mp hb with y|y
  ·exact absurd (z.symm.trans y) (Nat.succ_ne_self _)
  ·exact absurd (z.symm.trans (Cu.mp y)) (uD (tu dh))) e) hP ?_ (xP _ (kp _ _ ne1 oS) rfl) λv' h2 tk2 Hl Ho=>q v' h2 tk2 Hl λb o e=>Ho b o (out b o e) (Hq b o e)⟩
 intro i u e;obtain⟨a,xs,e1,⟨o,e2,r⟩,e3,_⟩:=g i u e;exact⟨a,xs,e1,⟨o,Hq a o e2,r⟩,e3,out a o e2⟩
end
theorem Yp{x:List Int}{rs:List (List Int)}:∀k,k<=rs.length->(x::rs).getD (argBest (uf (x::rs)) k) []=eN x (rs.take k)
 |0,_=>rfl
 |k+1,hk=>by
  have ih:=Yp (x:=x) (rs:=rs) k (by lia);have app:∀(a b:List (List Int)) (y:List Int),eN y (a++b)=eN (eN y a) b:=λa=>by
   induction a with
   |nil=>intro b y;rfl
   |cons z a ih=>intro b y;exact ih b _
  have ht:rs.take (k+1)=rs.take k++[rs[k]'(by lia)]:=T3 (by lia);have hv:(x::rs).getD (k+1) []=rs[k]'(by lia):=by
   rw[jh,Ab,cT (by lia)];rfl
  rw[ht,app,<-ih];show _=(if ltI (rs[k]'(by lia)) _=true then _ else _);rw[argBest.eq_2,PL];unfold uf;rw[hv]
  split
  ·exact hv
  ·rfl
theorem Yq{K:W.Frag}{cA:Cl}{U:Ph}{H:Hp}:∀{xs:List D} {rs:List (List Int)} {vs:List V},jx xs=some rs->aB K cA U H xs vs->rs.length=vs.length/\∀(i:Nat) v,vs[i]?=some v->∃a,v=.ref a/\TupAt K U H a ((rs.getD i []).map .int)
 |[],rs,vs,h,r=>by cases h;cases r;exact⟨rfl,λi v e=>by simp at e⟩
 |d::xs,rs,vs,h,r=>by
  cases r with
  |cons q r=>cases q with
   |@tup a ys us t ts=>
    unfold jx at h;cases e1:bY ys with
    |none=>simp only[e1] at h;cases h
    |some is=>cases e2:jx xs with
     |none=>simp only[e1,e2] at h;cases h
     |some rr=>
      simp only[e1,e2] at h;cases h;obtain⟨l,k⟩:=Yq e2 r;refine⟨by simp[l],λi v e=>?_⟩;cases i with
      |zero=>
       simp at e;subst e;refine⟨a,rfl,?_⟩;show TupAt K U H a (is.map V.int);rw[<-show _=is.map V.int from J2 e1 ts];exact t
      |succ i=>exact k i v (by simpa using e)
   |_=>cases h
section
variable {X:Cx}{cA:Cl}{aq:Nat->Nat->Bool}{aj:Bool}{F:Fn}{EX:XS}{e:Expr}{pos p:Pos}{es:List Expr}{Xs:Es}{fz:Bool}
def sU(K:W.Frag)(vs:List V)(H:Hp)(Q:VK):Prop:=∃(l:Addr) (x:List Int) (rs:List (List Int)) (us:List V),vs=[.ref l]/\cM K H l us/\(x::rs).length=us.length/\(∀(i:Nat) v,us[i]?=some v->∃a,v=.ref a/\fu K H a (((x::rs).getD i []).map V.int))/\∀(i:Nat) a,us[i]?=some (.ref a)->(x::rs).getD i []=eN x rs->Q (.ref a) H
theorem Yr:∀{is:List Int} {us:List Value},Vals (is.map V.int) us->IntsAre us is
 |[],_,.nil=>.nil
 |_::is,_,.cons ⟨t,e⟩ r=>by subst e;exact .cons _ t (Yr r)
theorem zfF(hc:X.aj=true)(hu:X.A.units+2<cLine):cJ X (.builtin "min") (sU X.K):=by
 intro ao s Z H xs us Q I r ⟨l,x,rs,ws,e,hl,hlen,Hr,q⟩;subst e;obtain⟨u,rfl,ru⟩:=Vals.one r;cases (show u=Value.ref l from ru);obtain⟨its,rv,pl,hz⟩:=I.list hl;have hL:=rv.length;have hsz:its.toArray.size=rs.length+1:=by rw[eG,<-hL,<-hlen];rfl
 refine ze4 (rows:=x::rs) (I.ok.hd hc) hu pl.isList (by lia) (λi v e=>?_) λv h' tk hP hk=>?_
 ·have hi:its[i]?=some v:=by simpa using e
  have dh:i<ws.length:=by rw[hL];exact(dX.mp hi).1
  obtain⟨a,ea,ht⟩:=Hr i _ (cT dh);obtain⟨v',e1,e2⟩:=rv.get (cT dh);rw[hi] at e1;cases e1;rw[ea] at e2;cases (show v=Value.ref a from e2);obtain⟨xs,rx,p,_⟩:=I.tuple ht;exact⟨a,_,rfl,p,by simpa using Yr rx,by simp⟩
 ·rw[hsz,Nat.add_sub_cancel] at hP;have hi:its[argBest (uf (x::rs)) rs.length]?=some v:=by simpa using hP
  have dh:argBest (uf (x::rs)) rs.length<ws.length:=by rw[hL];exact(dX.mp hi).1
  obtain⟨a,ea,ht⟩:=Hr _ _ (cT dh);obtain⟨v',e1,e2⟩:=rv.get (cT dh);rw[hi] at e1;cases e1;rw[ea] at e2;cases (show v=Value.ref a from e2);exact⟨.ref a,H,I.kept (h':=h') (t':=tk) hk,rfl,q _ a ((cT dh).trans (by rw[ea])) (by rw[Yp rs.length (bI _),xT])⟩
theorem zjP{K:W.Frag}:bx K cA .pY (sU K):=by
 intro U H ds vs Q zt rs o;have o:bw K cA U H (mR ds) Q:=o;unfold mR at o;split at o
 ·rename_i xs _;obtain⟨v,rfl,rv⟩:=rs.one;obtain⟨a,us,rfl,sq,q⟩ : ∃a us,v=.ref a/\cM K H a us/\aB K cA U H xs us:=rv;split at o
  ·rename_i x r e;obtain⟨l,k⟩:=Yq e q;refine⟨a,x,r,us,rfl,sq,l,λi v ei=>?_,λi b ei hb=>?_⟩
   ·obtain⟨c,e1,e2⟩:=k i v ei;exact⟨c,e1,e2.iz⟩
   ·obtain⟨c,e1,e2⟩:=k i _ ei;cases e1;rw[hb] at e2;have rr:∀is:List Int,aB K cA U H (is.map D.int) (is.map V.int):=λis=>by
     induction is with
     |nil=>exact .nil
     |cons j is ih=>exact .cons (.int j) ih
    exact o.here (.tup e2 (rr _))
  ·exact o.elim
 ·exact o.elim
theorem zkr{k:Nat}(hr:bD k X.A)(hc:X.aj=true)(hm:X.mg "min"=none)(hg:JK X "min" .globalImplicit)(ha:JA X cA aq aj F EX (e::es) Xs)(he:aD e=true:=by rfl)(hpl:es.all aD=true:=by rfl):JE X cA aq aj F EX (.Call (.Name "min" p) (e::es) [] pos) (.pr fz .pY Xs):=⟨wQ (zfF hc (by have:=hr.un;lia)) zjP hg.o hm PyProof.Rows.boot_min ha.o (by decide) (by decide) (bB he) (bA hpl)⟩
end
end Mi
namespace Mi
open PySem PySem.Spec PyProof.Rows L2 PySem.W
theorem iB(its:List Value):∀(n:Nat) (acc:Array Value),(List.replicate n its.toArray).foldl (λx y=>x++y) acc=acc++(rep its n).toArray
 |0,acc=>by simp[rep]
 |n+1,acc=>by
  rw[Ae,IV,iB its n];simp[rep,Ae]
theorem pI{α:Type}(xs:List α)(n:Nat):(rep xs n).length=n*xs.length:=by
 unfold rep
 induction n with
 |zero=>simp
 |succ n ih=>rw[Ae,L_,lV,ih,Nat.succ_mul];lia
theorem Hs{α:Type}(xs:List α)(n:Nat):rep xs (n+1)=xs++rep xs n:=by
 unfold rep;rw[Ae,L_]
theorem Ys{ys:List V}{its:List Value}(r:Vals ys its):∀n,Vals (rep ys n) (rep its n)
 |0=>.nil
 |n+1=>by
  rw[Hs,Hs];have key:∀{as:List V} {bs:List Value},Vals as bs->∀{cs:List V} {ds:List Value},Vals cs ds->Vals (as++cs) (bs++ds):=by
   intro as bs h
   induction h with
   |nil=>intro cs ds h2;exact h2
   |cons a _ ih=>intro cs ds h2;exact .cons a (ih h2)
  exact key r (Ys r n)
section
variable {X:Cx}
end
section
variable {K:W.Frag}{cA:Cl}{U:Ph}{H:Hp}
theorem Yt{as:List D}{bs:List V}(h:aB K cA U H as bs){cs:List D}{ds:List V}(h2:aB K cA U H cs ds):aB K cA U H (as++cs) (bs++ds):=by
 match as,bs,h with
 |_,_,.nil=>exact h2
 |_,_,.cons a r=>exact .cons a (Yt r h2)
theorem Yu{xs:List D}{ys:List V}(r:aB K cA U H xs ys):∀n,aB K cA U H (rep xs n) (rep ys n)
 |0=>.nil
 |n+1=>by
  rw[Hs,Hs];exact Yt r (Yu r n)
end
end Mi
namespace PySem
open Builtin
theorem zbl:fillsNumberSlot (.type "tuple") "mul"=pure false:=
 fillsNumberSlot_seq (id:="tuple.__mul__") (r:=some (.builtin "tuple.__rmul__")) Iw.lookup (by decide +kernel) F.slot_tuple_rmul.lookup (by decide +kernel)
theorem zc1:seqRepeat? (.type "tuple")=pure (some (.builtin "tuple.__mul__")):=by
 unfold seqRepeat?;rw[seqSlot_of (T:="tuple") (name:="__mul__") (id:="tuple.__mul__") Iw.lookup (by decide +kernel),seqSlot_of (T:="tuple") (name:="__rmul__") (id:="tuple.__rmul__") F.slot_tuple_rmul.lookup (by decide +kernel)];rfl
theorem zby(a:Int)(t:Tok)(l:Addr)(items:Array Value)(n:Nat)(d:Option Addr)(sl:Array (Option Value)) :
  Meets (Builtin.«int.__rmul__» ⟨[.int a t,.ref l],[]⟩) (λ_ R s=>s.heap.get? l=some {cls:=.type "tuple",dict:=d,data:=.seq items n,slots:=sl}/\R (.ok (.ret Value.notImplemented)) s):=
 .of_wp λprog w A R s h=>by obtain⟨hp,g,d,tk,os⟩:=s;obtain⟨hl,h⟩:=h;wp_walk;exact⟨_,rfl,h⟩
theorem zck(l:Addr)(items:Array Value)(n:Nat)(d:Option Addr)(sl:Array (Option Value))(u:Tok) :
  Meets (Builtin.«tuple.__mul__» ⟨[.ref l,.int 1 u],[]⟩) (λ_ R s=>s.heap.get? l=some {cls:=.type "tuple",dict:=d,data:=.seq items n,slots:=sl}/\R (.ok (.ret (Value.ref l))) s):=
 .of_wp λprog w A R s h=>by
  obtain⟨hp,g,d,tk,os⟩:=s;obtain⟨hl,h⟩:=h
  wp_walk
  exact⟨_,rfl,h⟩
theorem zcC(l:Addr)(items:Array Value)(n:Nat)(d:Option Addr)(sl:Array (Option Value))(x:Int)(u:Tok)(h2:2<=x)(h3:x<=1000)(he:items.isEmpty=false)(hs:items.size<=1000) :
  Meets (Builtin.«tuple.__mul__» ⟨[.ref l,.int x u],[]⟩) (λ_ R s=>s.heap.get? l=some {cls:=.type "tuple",dict:=d,data:=.seq items n,slots:=sl}/\R (.ok (.ret (Value.ref s.heap.objs.size))) {s with heap:=s.heap.push {cls:=Value.type "tuple",data:=Data.seq (List.foldl (λx1 x2=>x1++x2) #[] (List.replicate x.toNat items))},toks:=s.toks}):=
 .of_wp λprog w A R s h=>by
  obtain⟨hp,g,d,tk,os⟩:=s;obtain⟨hl,h⟩:=h;have h1:(x==1)=false:=by simpa using show ¬x=1 by lia
  have hb:(decide (x < -(2^63))||decide (x>=2^63))=false:=by rw[jF (by lia),jF (by lia)];rfl
  have hm:(items.size:Int)*x<=1000000:=Int.le_trans (Int.mul_le_mul (show (items.size:Int)<=1000 by lia) h3 (by lia) (by lia)) (by decide);have uI:(1000000:Int)<=(sizeLine:Int):=by decide
  have hz:(List.foldl (λx1 x2=>x1++x2) #[] (List.replicate x.toNat items)).size<=1000000:=by
   have:=Mi.iB items.toList x.toNat #[];simp only[Array.toArray_toList] at this;rw[this];simp only[Array.size_append,eG,Mi.pI,uq];have:=I8 (show x.toNat<=1000 by lia) hs;simp
   lia
  have Oj:(1000000:Nat)<=sizeLine:=by decide
  have nt:∀{b:Bool},b=false->decide (b=true)=false:=λ{b} e=>by rw[e];rfl
  wp_walk
  refine CJ (nt hb) ?_
  wp_walk
  refine CJ (nt (b:=decide (x<=0)||items.isEmpty) (by rw[he,jF (by lia)];rfl)) ?_
  wp_walk
  refine CJ (jF (by lia)) ?_
  wp_walk
  refine CJ (nt (b:=Builtin.Tuple.tupleTooMany (items.size*x)) (jF (by lia))) ?_
  wp_walk
  refine CJ (jF (by lia)) ?_
  wp_walk
  exact⟨_,rfl,h⟩
end PySem
namespace Mi
open PySem PySem.Spec PyProof.Rows L2 PySem.W
noncomputable def xH(K:W.Frag):R2:=λx y H Q=>∃l ys n,x=.ref l/\fu K H l ys/\y=.int n/\(1<=n/\n<=1000/\1<=ys.length/\ys.length<=1000)/\(n=1->Q (.ref l) H)/\∀p,H p=none->Q (.ref p) (upd H p (.tup (rep ys n.toNat)))
theorem zjG{X:Cx}:dZ X (binaryOp .Mult) (xH X.K):=by
 intro ao s Z H x y v u Q I rx ry h;obtain⟨l,ys,n,rfl,hq,rfl,⟨h0,h1,hl1,hl⟩,q1,q⟩:=h;cases (show v=Value.ref l from rx);obtain⟨t,rfl⟩:=ry;obtain⟨its,rv,⟨o,e,hc,c,pX⟩,hz⟩:=I.tuple hq;obtain⟨ocls,odict,odata,oslots⟩:=o;simp only at hc pX;subst hc pX;have hlen:=rv.length;refine wpAny_binaryOp_repeat_ref (T:="tuple") («U»:="int") (by decide) ⟨_,e,rfl⟩ (λ_=>rfl) zbl F.fills_int_mul F.slot_int_rmul zc1 int_index ?_;refine call_meets F.slot_int_rmul rfl F.entry_int_rmul (F.args_int_rmul_2 _ _) (zby n t l its.toArray c odict oslots) ⟨e,rfl,⟨_,e,rfl⟩,?_⟩;by_cases hn:n=1
 ·subst hn;exact call_meets Iw ⟨_,e,rfl⟩ F.entry_tuple_mul (F.args_tuple_mul_2 _ _) (zck l its.toArray c odict oslots t) ⟨e,⟨.ref l,H,I,rfl,q1 rfl⟩⟩
 ·have hne:its≠[]:=λz=>by rw[z] at hlen;have:ys.length=0:=hlen;lia
  refine call_meets Iw ⟨_,e,rfl⟩ F.entry_tuple_mul (F.args_tuple_mul_2 _ _) (zcC l its.toArray c odict oslots n t (by lia) h1 (by simpa using hne) (by rw[eG,<-hlen];exact hl)) ⟨e,?_⟩;have hn:H s.heap.objs.size=none:=I.hok.fresh (bI _);have ea:(List.replicate n.toNat its.toArray).foldl (λx y=>x++y) #[]=(rep its n.toNat).toArray:=by
   rw[iB];simp
  refine⟨.ref s.heap.objs.size,_,I.laid (a:=s.heap.objs.size) (o:=.tup (rep ys n.toNat)) (t':=s.toks) (λb w q=>cG _ q) (bI _) ?_,rfl,q _ hn⟩;refine⟨?_,_,Ys rv n.toNat,?_⟩
  ·rw[pI];have:=I8 (show n.toNat<=1000 by lia) hl;have Oj:(1000000:Nat)<=sizeLine:=by decide
   lia
  ·rw[ea];exact IsTup.new _ _
section
variable {K:W.Frag}{cA:Cl}{U:Ph}{H:Hp}
theorem ziH:bx K cA .mult (r2 (xH K)):=by
 intro U H ds vs Q zt rs o;have o:bw K cA U H (wM ds) Q:=o;cases ds with
 |nil=>exact False.elim o
 |cons a t=>cases a with
  |tup xs=>cases t with
   |nil=>exact False.elim o
   |cons b t=>cases b with
    |int n=>cases t with
     |cons _ _=>exact False.elim o
     |nil=>
      obtain⟨v,v',rfl,r1,r2⟩:=rs.two (ds:=[]);rw[r2.int];obtain⟨a,us,rfl,ta,q⟩:=r1.tup;have hl:=q.len;have o:bw K cA U H (if 1<=n/\n<=1000/\1<=xs.length/\xs.length<=1000 then some (.dat (.tup (rep xs n.toNat))) else none) Q:=o;by_cases hk:1<=n/\n<=1000/\1<=xs.length/\xs.length<=1000
      ·rw[if_pos hk] at o;refine⟨_,_,rfl,a,us,n,rfl,ta.iz,rfl,⟨hk.1,hk.2.1,by lia,by lia⟩,λe=>?_,λp hp=>o.tup zt (Yu q _) hp⟩;subst e;have e1:rep xs (1:Int).toNat=xs:=by show rep xs (0+1)=xs;rw[Hs];simp[rep]
       rw[e1] at o;exact o.here (.tup ta q)
      ·rw[if_neg hk] at o;exact o.elim
    |_=>exact False.elim o
  |_=>exact False.elim o
end
theorem zk8{X:Cx}{cA:Cl}:JQ X cA .Mult .mult:=⟨_,zjG,ziH⟩
section
variable {X:Cx}
end
section
variable {K:W.Frag}{cA:Cl}{U:Ph}{H:Hp}{Q:VK}
end
section
variable {X:Cx}{cA:Cl}{aq:Nat->Nat->Bool}{aj:Bool}{F:Fn}{EX:XS}{e:Expr}{pos p:Pos}{es:List Expr}{Xs:Es}{fz:Bool}
end
section
variable {X:Cx}
end
section
variable {X:Cx}{cA:Cl}{aq:Nat->Nat->Bool}{aj:Bool}{F:Fn}{EX:XS}{o i a:Expr}{O cF A:E}{apos cpos:Pos}
end
noncomputable def gw(K:Frag)(C:Addr)(m:Str):Addr:=match jP K C m with
 |some p=>p.1
 |none=>0
noncomputable def jg(K:Frag)(C:Addr)(m:Str)(st:Stmt):FuncData:=match jP K C m with
 |some p=>p.2
 |none=>Av m m st
theorem ziQ{fd:FuncData}{m q:Str}{st:Stmt}(h:lX fd=Av m q st):fd=fnOf m q (aP st) (aK st) (au st) .none fd.kwdefaults fd.doc fd.pyModule fd.annotations fd.code fd.closureTuple:=by
 cases fd;unfold lX Av at h;cases h;rfl
theorem zmu{K:Frag}{C:Addr}{m q:Str}{st:Stmt}(h:(jP K C m).map (λp=>lX p.2)=some (Av m q st)):mW K m q st (gw K C m) (jg K C m st)/\Meth K C m (gw K C m):=by
 cases e:jP K C m with
 |none=>rw[e] at h;cases h
 |some p=>
  rw[e] at h;have hp:lX p.2=Av m q st:=cD h;have h1:gw K C m=p.1:=by unfold gw;rw[e]
  have h2:jg K C m st=p.2:=by unfold jg;rw[e]
  rw[h1,h2];unfold jP at e;split at e
  ·rename_i f hf;split at e
   ·rename_i oc od fd sl hl;split at e
    ·rename_i hc;cases e;simp only[gA] at hc;have eq:fd=_:=ziQ hp;have qn:fd.qualname=q:=by rw[eq]
     exact⟨⟨⟨oc,od,_,_,_,_,_,_,sl,eq,hl,by rw[<-qn];exact hc.1.1⟩,hc.1.2⟩,hf,hc.2,hc.1.2⟩
    ·cases e
   ·cases e
  ·cases e
structure pJ(fs:List (Str×Stmt))(ms:List qU)(xs:List (Nat×Str))(l:Lk)(b:Bd)(K:Frag):Prop where
 i:m5 fs ms xs l K
 m:∀p∈b.ms,mW K p.1 p.2.1 p.2.2 (gw K (dB K b.n) p.1) (jg K (dB K b.n) p.1 p.2.2)/\Meth K (dB K b.n) p.1 (gw K (dB K b.n) p.1)
 b:wj K b=true
noncomputable def j9(fs:List (Str×Stmt))(ms:List qU)(xs:List (Nat×Str))(l:Lk)(b:Bd):Hook where
 α:=(List (Option FuncData)×List (Option FuncData)×Bool)×(List (Option FuncData)×Bool)
 obs:=λs=>(kE fs ms xs l s,xZ b s)
 val:=λw=>(lY fs ms w,yc b)
 says:=λ_ h=>∃K:Frag,K.In h/\pJ fs ms xs l b K
 of:=λw s e=>by
  have e0:kE fs ms xs l s=lY fs ms w:=lW Prod.fst e;have e4:xZ b s=yc b:=lW Prod.snd e;have e3:(_&&_&&_)=true:=lW (λx=>x.2.2) e0;rw[gA,gA,ji,ji] at e3;refine⟨bK s.heap,zhe,⟨λp hp=>?_,Kab e3.1.1,λm hm=>?_,e3.1.2,λx hx=>znd (e3.2 x hx)⟩,λp hp=>?_,lW Prod.snd e4⟩
  ·exact znp (Ma.mp (lW Prod.fst e0) p hp)
  ·exact znn (Ma.mp (lW (λx=>x.2.1) e0) m hm)
  ·exact zmu (Ma.mp (lW Prod.fst e4) p hp)
 keeps:=λw h h' ⟨K,X,Y⟩ k=>⟨K,X.keeps k,Y⟩
theorem Ht{l:OpenLaw}{k:Nat}{q:Program}{loose:List Str}{XP:(Str->Option Value)->Heap->Prop}{fs:List (Str×Stmt)}{ms:List qU}{xs:List (Nat×Str)}{lk:Lk}{b:Bd}{d:DefRec}{x:Str}(hn:l.most=some 63)(N5:d.params.defaults=[])(hr:bD k callerA)
  (F:∀(w:World) (K:Frag) (mg:Str->Option Value) (fa:Addr) (h:Heap),pJ fs ms xs lk b K->K.In h->h.Ns mainGlobals mg->mg d.name=some (.ref fa)->
   ∃fd:FuncData,(∀(s:Shared) (u:Value),BindsTo s fd ⟨[u],[]⟩ [(x,u)])/\∀base:Heap,K.In base->base.Ns mainGlobals mg->bW l.prog w K mg base (fL l.prog w) true k fa fd [x] (rT K)) :
  WalkO q loose XP (j9 fs ms xs lk b).says l.row.toRowW d [] (λf vs=>PySem.call f vs):=by
 refine Vf.mJ hn N5 λw s₀ s₁ mg mb fa o pm cd doc a vs ns G Y ho hd jD hmg yM hints hlen hg=>?_;obtain⟨K,KX,SY⟩:=Y;obtain⟨fd,hb,hF⟩:=F w K mg fa _ SY KX G.T.g hmg;exact zg2 KX G.T.g G.T.b G.T.builtins G.T.nolimit hg yM hints (jO hlen (by decide)) hr hF hb (λH hO hS=>⟨a,ns,rfl,hS,hlen,hO,λ_=>rfl⟩) λH e s' h=>by
  obtain⟨_,_,_,_,_,_,_,_,_,_,z⟩:=h;exact z
section
variable {K:Frag}{b:Bd}
theorem zmH{cA:Cl}(h:wj K b=true)(hb:cA.b 0=dB K b.n)(hg:cA.g 0=b.fs)(nd:b.fs.Nodup):Ow K cA 0:=by
 unfold wj at h;simp only[gA,oJ,ji] at h;obtain⟨⟨⟨⟨⟨⟨⟨h1,h2⟩,h3⟩,h4⟩,h5⟩,h6⟩,h7⟩,h8⟩:=h;exact⟨by rw[hb];exact⟨h2,h3,h4,h5⟩,λf hf=>by rw[hb];rw[hg] at hf;exact h8 f hf,by rw[hg];exact nd⟩
theorem zm7{f:Addr}(h:wj K b=true)(m:Meth K (dB K b.n) "__init__" f):Mk K (dB K b.n) f:=by
 unfold wj at h;simp only[gA,oJ,ji] at h;exact⟨h.1.1.2,m.at_,m.fn,h.1.2⟩
theorem zmK{h:Heap}{mg:Str->Option Value}(z:wj K b=true)(X:K.In h)(G:h.Ns mainGlobals mg):mg b.n=some (.ref (dB K b.n)):=by
 unfold wj at z;simp only[gA] at z;exact zna z.1.1.1.1.1.1.1 X G
end
theorem bD.made{k:Nat}{A:Around}(r:bD (k+1) A)(env:Env)(C:Addr)(us:List Value):bD k ((A.deeper env).under (.builtin "type.__call__" ⟨.ref C::us,[]⟩)):=
 ⟨by have:=r.dp;rw[ze8];show A.depth+1+1+3*k+5<_;lia,by have:=r.un;rw[zeI];show A.units+3+1+16*k+200<_;lia,by
  have e:(A.deeper env).guards=some []:=r.gd;rw[<-e];cases h:(A.deeper env).guards<;>simp[Around.under,pushGuards,Code.guards,Code.isGuard,guardIds,h]⟩
section
variable {P:Program}{w:World}{K:Frag}{mg:Str->Option Value}{base:Heap}{cA:Cl}{aq:Nat->Nat->Bool}{T:Nat->Option Df}{x m q:Str}{st:Stmt}{ps:List Str}{k n:Nat}{cm:Bool}{df:Df}{C fa:Addr}{fd:FuncData}
theorem fM(D:Mt K C m q st ps fa fd)(N:List Str)(hT:T n=some df)
  (hb:∀(cdv:Value) (A:Around) (outer:List Env) (s:Shared) (H:Hp) (E:XK),bD k (A.deeper (envOfC q (au st) s.heap.objs.size fa cdv))->
   JB (fD (fL P w) P w K mg base N q (au st) fa cdv A outer s H E cm) cA aq cm (λc=>call aq T k c) (λ_ C dx H'=>E C dx H') (aK st) df.body) (S:cN N ps (au st):=by exact⟨rfl,rfl,rfl,dk,rfl,dk,dk⟩) (hp:df.gP=ps.length:=by rfl) (hm:df.many=N.length:=by rfl) :
  bW P w K mg base (fL P w) cm (k+1) fa fd ps (jZ K cA (call aq T (k+1) cm n)):=W5 D.fn S hT hp hm hb
theorem zhj{c:Nat}:bW P w K mg base (fL P w) cm 0 fa fd ps (Kv K cA c (call aq T 0 cm n)):=
 ⟨λvs H Q E ⟨_,_,_,_,_,_,_,_,_,_,_,_,_,_,h⟩=>h.elim,λA outer s H args us vs Q E _ _ _ _ _ ⟨_,_,_,_,_,_,_,_,_,_,_,_,_,_,h⟩=>h.elim⟩
theorem fR(D:D3 K mg x st ps)(N:List Str)(hT:T n=some df)
  (hb:∀(cdv:Value) (A:Around) (outer:List Env) (s:Shared) (H:Hp) (E:XK),bD (k+1) A->
   JB (fD (fL P w) P w K mg base N x (au st) (gR K x) cdv A outer s H E cm) cA aq cm (λc=>call aq T k c) (λ_ C dx H'=>E C dx H') (aK st) df.body) (S:cN N ps (au st):=by exact⟨rfl,rfl,rfl,dk,rfl,dk,dk⟩) (hp:df.gP=ps.length:=by rfl) (hm:df.many=N.length:=by rfl) :
  bW P w K mg base (fL P w) cm (k+1) (gR K x) (fdOf K x st) ps (jZ K cA (call aq T (k+1) cm n)):=WL D.f S hT hp hm λcdv A outer s H E hr=>(hb cdv A outer s H E hr).o
theorem Ri{p p2:Str}(h:mW K m q st fa fd/\Meth K C m fa)(hb:∀(kV doc pm:Value) (an:Option Addr) (cdv ct a b:Value),bindArgs (fnOf m q (aP st) (aK st) (au st) .none kV doc pm an cdv ct) ⟨[a,b],[]⟩=pure [(p,a),(p2,b)]:=by intros;rfl):Mt K C m q st [p,p2] fa fd:=⟨h.1,h.2,by
 obtain⟨oc,od,kV,doc,pm,an,cdv,ct,osl,rfl,lk,jD⟩:=h.1.ex;exact rW (hb kV doc pm an cdv ct)⟩
theorem Yv{p p2 p3:Str}(h:mW K m q st fa fd/\Meth K C m fa)(hb:∀(kV doc pm:Value) (an:Option Addr) (cdv ct a b c:Value),bindArgs (fnOf m q (aP st) (aK st) (au st) .none kV doc pm an cdv ct) ⟨[a,b,c],[]⟩=pure [(p,a),(p2,b),(p3,c)]:=by intros;rfl):Mt K C m q st [p,p2,p3] fa fd:=⟨h.1,h.2,by
 obtain⟨oc,od,kV,doc,pm,an,cdv,ct,osl,rfl,lk,jD⟩:=h.1.ex;exact rY (hb kV doc pm an cdv ct)⟩
theorem Yw{p p2 p3 p4:Str}(h:mW K m q st fa fd/\Meth K C m fa)(hb:∀(kV doc pm:Value) (an:Option Addr) (cdv ct a b c d:Value),bindArgs (fnOf m q (aP st) (aK st) (au st) .none kV doc pm an cdv ct) ⟨[a,b,c,d],[]⟩=pure [(p,a),(p2,b),(p3,c),(p4,d)]:=by intros;rfl):Mt K C m q st [p,p2,p3,p4] fa fd:=⟨h.1,h.2,by
 obtain⟨oc,od,kV,doc,pm,an,cdv,ct,osl,rfl,lk,jD⟩:=h.1.ex;exact rZ (hb kV doc pm an cdv ct)⟩
end
end Mi
namespace Mi
open PySem
end Mi
namespace Mi
open PySem Ts
theorem zmC{ps:List (Int×Int)}(h:ps.Pairwise λa b=>qp a b=true):ps.Pairwise lx:=h.imp λ{a b} e=>sO.mp e
end Mi
namespace Mi
open PySem
end Mi
namespace Mi
open PySem PySem.W L2
theorem Hu{a b:Int×Int}:mQ [.int a.1,.int a.2] [.int b.1,.int b.2]=some (qp a b):=by
 unfold qp;simp only[mQ];by_cases h1:a.1=b.1
 ·rw[if_pos h1];by_cases h2:a.2=b.2
  ·rw[if_pos h2]
   congr 1
   simp only[Al,oH,decide_false]
   symm
   rw[Lj]
   lia
  ·rw[if_neg h2]
   congr 1
   rw[tD]
   lia
 ·rw[if_neg h1]
  congr 1
  rw[tD]
  lia
theorem ziT{us:List (Int×Int)}:tU (us.map bN)=Hg us:=by
 funext i j
 unfold tU Hg;rw[gD,gD];cases us[i]? with
 |none=>rfl
 |some a=>
  cases us[j]? with
  |none=>rfl
  |some b=>exact Hu
theorem Yx{ps:List (Int×Int)}(hl:ps.length<64)(nd:ps.Nodup):∃qs:List (Int×Int),qG (ps.map bN)=some (qs.map bN)/\qs.Pairwise lx/\(∀x,x∈qs↔x∈ps)/\qs.length=ps.length:=by
 have hk:((ps.map bN).all iw||(ps.map bN).all gb)=true:=by
  rw[IK]
  right
  rw[CW,ji];intro p _;rfl
 unfold qG;rw[if_pos hk];unfold mU;rw[bV,ziT];by_cases h2:ps.length<2
 ·rw[if_pos h2];refine⟨ps,rfl,?_,λ_=>Iff.rfl,rfl⟩;cases ps with
  |nil=>exact .nil
  |cons x t=>
   cases t with
   |nil=>exact List.pairwise_singleton ..
   |cons y t=>exact absurd h2 (by simp)
 ·rw[if_neg h2,if_pos hl];obtain⟨p,e,e1,e2,e3,e4⟩:=zfA (us:=ps) (by lia) nd;rw[e];dsimp only;rw[if_pos e1];refine⟨p.toList.map λi=>ps.getD i (0,1),?_,zmC e4,e3,by rw[bV,uq,e1]⟩;rw[uE]
  congr 1
  refine List.map_congr_left λi hi=>?_;have:=e2 i hi;simp[jh,this]
noncomputable def pK(k d:Int)(ps:List (Int×Int))(hs:List Int):List (Int×Int):=ps.filter λp=>decide (jA k (at' hs p.1) (at' hs p.2)<d)
noncomputable def BZ(k d:Int)(ps:List (Int×Int))(hs:List Int):D:=match pK k d ps hs with
 |[]=>.non
 |p::_=>bN p
theorem zV{k d:Int}{ps:List (Int×Int)}{hs:List Int}:pK k d ps hs=[]↔zT k d ps hs=true:=by
 unfold pK;rw[List.filter_eq_nil_iff,m7]
 constructor
 ·intro h p hp;have:=h p hp;simp at this
  lia
 ·intro h p hp;have:=h p hp;simp
  lia
end Mi
namespace Mi
open PySem
theorem W.c0{F:List Xv->M Xv}{xs:List Xv}{s:S}{e:D}{P:Xv->S->Prop}(h:W (F (cZ 0 xs)) [] λv _=>v=.d e)(k:P (.d e) s)(hl:locs xs=[]:=by rfl):W (cB F xs) s P:=nj hl (h.imp λ_ _ q=>⟨_,q,k⟩)
theorem W.c1{F:List Xv->M Xv}{xs:List Xv}{s:S}{P:Xv->S->Prop}(h:W (F (cZ 0 xs)) [] λv _=>∃d,v=.d d)(k:∀d,P (.d d) s)(hl:locs xs=[]:=by rfl):W (cB F xs) s P:=nj hl (h.imp λ_ _ ⟨d,q⟩=>⟨d,q,k d⟩)
section
variable {s:S}{o o' L L':SO}
theorem g1_:(s++[o]++[L])[s.length]?=some o:=by simp
theorem zmU:(s++[o]++[L]).set s.length o'=s++[o']++[L]:=by simp
theorem Kaq{F:List Xv->M Xv}{xs:List Xv}{P:Xv->S->Prop}(hl:locs xs=[s.length])(h:W (F (cZ 0 xs)) [o] λv s1=>∃d o',v=.d d/\s1=[o']/\P (.d d) (s++[o']++[L])):W (cB F xs) (s++[o]++[L]) P:=by
 refine QG (n:=s.length) (o:=o) hl g1_ (h.imp λv s1=>?_);rintro⟨d,o',rfl,rfl,hp⟩;exact⟨d,o',rfl,rfl,by rw[zmU];exact hp⟩
end
section
variable {n k x y:Int}{r:List Int}
end
section
variable {n m:Int}{ps qs:List (Int×Int)}{x:D}{hs:List Int}
end
theorem zlB{n:Int}(h:1<=n/\n<=1000):prim .mult [.tup [.int 0],.int n]=some (.dat (.tup ((List.replicate n.toNat (0:Int)).map .int))):=by
 show (if _ then _ else _)=_;rw[if_pos ⟨h.1,h.2,by decide,by decide⟩];have:∀k:Nat,rep [D.int 0] k=(List.replicate k (0:Int)).map .int:=λk=>by
  unfold rep
  induction k with
  |zero=>rfl
  |succ k ih=>rw[Ae,L_,ih,Ae];rfl
 rw[this]
section
variable {aq:Nat->Nat->Bool}{F:Fn}{J:Vs}{s:S}{P:Xv->S->Prop}
end
noncomputable abbrev Fr:=List (Option (List Int))
noncomputable def bC:Option (List Int)->D
 |none=>.non
 |some l=>.tup (l.map .int)
noncomputable def cellK:Option (List Int)->Kx
 |none=>.non
 |some l=>.row l
noncomputable def iQ(F:Fr):D:=.tup (F.map bC)
theorem Rj:∀l:List Int,bY (l.map .int)=some l
 |[]=>rfl
 |i::l=>by show Option.map _ (bY (l.map .int))=_;rw[Rj l];rfl
theorem Kz(F:Fr):kOf (iQ F)=some (F.map cellK):=by
 show zy (F.map bC)=_
 induction F with
 |nil=>rfl
 |cons c F ih=>
  have e:rC (bC c)=some (cellK c):=by
   cases c with
   |none=>rfl
   |some l=>show Option.map _ (bY (l.map .int))=_;rw[Rj];rfl
  simp only[iU,zy,e,ih]
theorem Yy:∀{F G:Fr},F.map cellK=G.map cellK->F=G
 |[],[],_=>rfl
 |[],_::_,h=>by cases h
 |_::_,[],h=>by cases h
 |c::F,e::G,h=>by
  simp only[iU,List.cons.injEq] at h;rw[Yy h.2]
  congr 1
  have h1:=h.1;cases c with
  |none=>cases e with
   |none=>rfl
   |some _=>cases h1
  |some l=>cases e with
   |none=>cases h1
   |some m=>cases h1;rfl
structure Bo(n k:Nat)(es:Nat->List Int)(A:Int->Int->Bool):Prop where
 hn:n<=8
 hk:k<=24
 mem:∀i,i<n->∀e∈es i,0<=e/\e<n/\e≠i
 sym:∀i e:Nat,i<n->e<n->(e:Int)∈es i->(i:Int)∈es e
 len:∀i,i<n->(es i).length<=8
 Yz:∀a b:Int,0<=a->a<k->0<=b->b<k->A a b=A b a
structure Fv(n k:Nat)(F:Fr):Prop where
 len:F.length=n
 lo:∀(i:Nat) L,F[i]?=some (some L)->∀x∈L,0<=x/\x<k
 ll:∀(i:Nat) L,F[i]?=some (some L)->L.length<=24
 so:∀(i:Nat) L,F[i]?=some (some L)->L.Pairwise (·<·)
structure oA(es:Nat->List Int)(A:Int->Int->Bool)(F:Fr)(g:Nat->Int):Prop where
 mem:∀(i:Nat) L,F[i]?=some (some L)->g i∈L
 fit:∀(i e:Nat) L M,F[i]?=some (some L)->F[e]?=some (some M)->(e:Int)∈es i->A (g i) (g e)=true
def Sat(es:Nat->List Int)(A:Int->Int->Bool)(F:Fr):Prop:=∃g,oA es A F g
noncomputable def eY(f:Int->Bool)(F:Fr)(e:Int):Fr:=F.set e.toNat ((F[e.toNat]?.join).map (·.filter f))
noncomputable def settle(es:Nat->List Int)(A:Int->Int->Bool)(F:Fr)(p:Nat)(x:Int):Fr:=(es p).foldl (eY (A x)) (F.set p none)
theorem YB{f:Int->Bool}{F:Fr}{e:Int}:(eY f F e).length=F.length:=nF ..
theorem Rm{f:Int->Bool}:∀{l:List Int} {F:Fr},(l.foldl (eY f) F).length=F.length
 |[],F=>rfl
 |e::l,F=>by rw[IV,Rm,YB]
theorem zjD{f:Int->Bool}{F:Fr}{e:Int}(h0:0<=e)(i:Nat)(hi:i<F.length):(eY f F e)[i]?=if (i:Int)=e then F[i]?.map (Option.map (·.filter f)) else F[i]?:=by
 unfold eY;by_cases z:(i:Int)=e
 ·have:e.toNat=i:=by lia
  rw[if_pos z,this,vU hi,cT hi];rfl
 ·rw[if_neg z,qx (by lia)]
theorem Rn{f:Int->Bool}:∀{l:List Int} {F:Fr} (i:Nat),(∀e∈l,0<=e)->i<F.length->(l.foldl (eY f) F)[i]?=if (i:Int)∈l then F[i]?.map (Option.map (·.filter f)) else F[i]?
 |[],F,i,_,hi=>by simp
 |e::l,F,i,h,hi=>by
  rw[IV,Rn i (λx hx=>h x (by simp[hx])) (by rw[YB];exact hi),zjD (h e (by simp)) i hi];have ff:∀c:Option (Option (List Int)),(c.map (Option.map (·.filter f))).map (Option.map (·.filter f))=c.map (Option.map (·.filter f)):=λc=>by
   cases c with
   |none=>rfl
   |some c=>cases c with
    |none=>rfl
    |some L=>simp
  by_cases a:(i:Int)=e
  ·by_cases b:(i:Int)∈l
   ·rw[if_pos b,if_pos a,if_pos (by simp[b]),ff]
   ·rw[if_neg b,if_pos a,if_pos (by simp[a])]
  ·by_cases b:(i:Int)∈l
   ·rw[if_pos b,if_neg a,if_pos (by simp[b])]
   ·rw[if_neg b,if_neg a,if_neg (by simp[a,b])]
section
variable {n k:Nat}{es:Nat->List Int}{A:Int->Int->Bool}{F:Fr}{p:Nat}{x:Int}{g:Nat->Int}
theorem YC:(settle es A F p x).length=F.length:=by unfold settle;rw[Rm,nF]
theorem YD(B:Bo n k es A)(hF:F.length=n)(hp:p<n)(i:Nat)(hi:i<n):(settle es A F p x)[i]?=if i=p then some none else if (i:Int)∈es p then F[i]?.map (Option.map (·.filter (A x))) else F[i]?:=by
 unfold settle;rw[Rn i (λe he=>(B.mem p hp e he).1) (by rw[nF,hF];exact hi)];by_cases e:i=p
 ·subst e;rw[if_pos rfl,if_neg (λz=>(B.mem i hp _ z).2.2 rfl),vU (by rw[hF];exact hi)]
 ·rw[if_neg e,qx (Ne.symm e)]
theorem pL{i:Nat}{c:Option (List Int)}(hF:F.length=n)(h:F[i]?=some c):i<n:=by rw[<-hF];exact(dX.mp h).1
theorem KC(B:Bo n k es A)(hF:F.length=n)(hp:p<n){i:Nat}{M:List Int}(h:(settle es A F p x)[i]?=some (some M)):i≠p/\∃L,F[i]?=some (some L)/\M=if (i:Int)∈es p then L.filter (A x) else L:=by
 have hi:i<n:=pL (by rw[YC];exact hF) h;rw[YD B hF hp i hi] at h;by_cases e:i=p
 ·rw[if_pos e] at h;cases h
 ·rw[if_neg e] at h;refine⟨e,?_⟩;by_cases m:(i:Int)∈es p
  ·rw[if_pos m] at h;obtain⟨c,e1,e2⟩:=j_.mp h;cases c with
   |none=>cases e2
   |some L=>cases e2;exact⟨L,e1,by rw[if_pos m]⟩
  ·rw[if_neg m] at h;exact⟨M,h,by rw[if_neg m]⟩
theorem Hv(B:Bo n k es A)(hF:F.length=n)(hp:p<n){i:Nat}{L:List Int}(hi:i≠p)(h:F[i]?=some (some L)):(settle es A F p x)[i]?=some (some (if (i:Int)∈es p then L.filter (A x) else L)):=by
 rw[YD B hF hp i (pL hF h),if_neg hi,h]
 split<;>rfl
theorem Hw(B:Bo n k es A)(v:Fv n k F)(hp:p<n):Fv n k (settle es A F p x):=by
 refine⟨by rw[YC];exact v.len,λi M h=>?_,λi M h=>?_,λi M h=>?_⟩<;>obtain⟨_,L,e,rfl⟩:=KC B v.len hp h
 ·intro y hy;refine v.lo i L e y ?_;split at hy
  ·exact(ux.mp hy).1
  ·exact hy
 ·split
  ·exact jO (List.length_filter_le _ _) (v.ll i L e)
  ·exact v.ll i L e
 ·split
  ·exact(v.so i L e).filter _
  ·exact v.so i L e
theorem KD(B:Bo n k es A)(v:Fv n k F)(hp:p<n){L:List Int}(hL:F[p]?=some (some L))(s:oA es A F g):oA es A (settle es A F p (g p)) g:=by
 refine⟨λi M h=>?_,λi e M N h1 h2 he=>?_⟩
 ·obtain⟨_,L',e,rfl⟩:=KC B v.len hp h;have:=s.mem i L' e
  split
  ·exact ux.mpr ⟨this,s.fit p i L L' hL e (by assumption)⟩
  ·exact this
 ·obtain⟨_,L',e1,_⟩:=KC B v.len hp h1;obtain⟨_,L2,e2,_⟩:=KC B v.len hp h2;exact s.fit i e L' L2 e1 e2 he
theorem YF(B:Bo n k es A)(v:Fv n k F)(hp:p<n){L:List Int}(hL:F[p]?=some (some L))(hx:x∈L)(s:oA es A (settle es A F p x) g):oA es A F λi=>if i=p then x else g i:=by
 have ap:∀(i:Nat) M,i≠p->F[i]?=some (some M)->(i:Int)∈es p->A x (g i)=true/\(0<=g i/\g i<k):=λi M ni h m=>by
  have h2:=Hv (x:=x) B v.len hp ni h;have:=s.mem i _ h2;rw[if_pos m] at this;exact⟨(ux.mp this).2,v.lo i M h _ (ux.mp this).1⟩
 have hxk:=v.lo p L hL x hx;refine⟨λi M h=>?_,λi e M N h1 h2 he=>?_⟩
 ·by_cases z:i=p
  ·subst z;rw[if_pos rfl];rw[hL] at h;cases h;exact hx
  ·rw[if_neg z];have:=s.mem i _ (Hv (x:=x) B v.len hp z h);split at this
   ·exact(ux.mp this).1
   ·exact this
 ·have li:=pL v.len h1;have le:=pL v.len h2;by_cases z:i=p
  ·subst z;have ne:e≠i:=λq=>(B.mem i li _ he).2.2 (by rw[q]);rw[if_pos rfl,if_neg ne];exact(ap e N ne h2 he).1
  ·by_cases y:e=p
   ·subst y;rw[if_neg z,if_pos rfl];have m:=B.sym i e li le he;obtain⟨q1,q2⟩:=ap i M z h1 m;rw[B.Yz _ _ q2.1 q2.2 hxk.1 hxk.2];exact q1
   ·rw[if_neg z,if_neg y];exact s.fit i e _ _ (Hv (x:=x) B v.len hp z h1) (Hv (x:=x) B v.len hp y h2) he
theorem KH(B:Bo n k es A)(v:Fv n k F)(hp:p<n){L:List Int}(hL:F[p]?=some (some L)):Sat es A F↔∃x∈L,Sat es A (settle es A F p x):=
 ⟨λ⟨g,s⟩=>⟨g p,s.mem p L hL,g,KD B v hp hL s⟩,λ⟨x,hx,g,s⟩=>⟨_,YF B v hp hL hx s⟩⟩
noncomputable def c7(es:Nat->List Int)(F:Fr)(p:Nat):Nat:=((es p).filter λe=>(F[e.toNat]?.join).isSome).length
noncomputable def bnd(es:Nat->List Int)(F:Fr):Fr:=F.mapIdx λi c=>if 0<c7 es F i then c else none
theorem YG{i:Nat}:(bnd es F)[i]?=F[i]?.map λc=>if 0<c7 es F i then c else none:=by unfold bnd;rw[List.getElem?_mapIdx]
theorem zW{i:Nat}{L:List Int}(h:(bnd es F)[i]?=some (some L)):F[i]?=some (some L)/\0<c7 es F i:=by
 rw[YG] at h;obtain⟨c,e1,e2⟩:=j_.mp h;split at e2
 ·subst e2;exact⟨e1,by assumption⟩
 ·cases e2
theorem YH(v:Fv n k F):Fv n k (bnd es F):=⟨by unfold bnd;rw[List.length_mapIdx];exact v.len,λi L h=>v.lo i L (zW h).1,λi L h=>v.ll i L (zW h).1,λi L h=>v.so i L (zW h).1⟩
theorem YJ{i e:Nat}{L:List Int}(hm:(e:Int)∈es i)(h:F[e]?=some (some L)):0<c7 es F i:=by
 unfold c7;refine List.length_pos_of_mem (a:=(e:Int)) (ux.mpr ⟨hm,?_⟩);rw[m9,h];rfl
theorem zjh(B:Bo n k es A)(v:Fv n k F)(ne:∀(i:Nat) L,F[i]?=some (some L)->L≠[]):Sat es A (bnd es F)↔Sat es A F:=by
 constructor
 ·rintro⟨g,s⟩;have to:∀(i:Nat) L,F[i]?=some (some L)->0<c7 es F i->(bnd es F)[i]?=some (some L):=λi L h q=>by rw[YG,h];show some (if _ then _ else _)=_;rw[if_pos q]
  refine⟨λi=>if 0<c7 es F i then g i else ((F[i]?.join).getD []).headD 0,λi L h=>?_,λi e L M h1 h2 he=>?_⟩
  ·by_cases q:0<c7 es F i
   ·rw[if_pos q];exact s.mem i L (to i L h q)
   ·rw[if_neg q,h];show L.headD 0∈L;cases L with
    |nil=>exact absurd rfl (ne i [] h)
    |cons a L=>exact kh
  ·have q1:=YJ he h2;have q2:=YJ (B.sym i e (pL v.len h1) (pL v.len h2) he) h1;rw[if_pos q1,if_pos q2];exact s.fit i e L M (to i L h1 q1) (to e M h2 q2) he
 ·rintro⟨g,s⟩;exact⟨g,λi L h=>s.mem i L (zW h).1,λi e L M h1 h2 he=>s.fit i e L M (zW h1).1 (zW h2).1 he⟩
theorem Ro(h:∀(i:Nat) L,F[i]?≠some (some L)):Sat es A F:=⟨λ_=>0,λi L q=>absurd q (h i L),λi _ L _ q=>absurd q (h i L)⟩
theorem ziM{i:Nat}(h:F[i]?=some (some [])):¬Sat es A F:=λ⟨g,s⟩=>nomatch s.mem i [] h
noncomputable def fW(k:Nat):List Int:=(List.range k).map λ(i:Nat)=>(i:Int)
theorem dU{k:Nat}{y:Int}:y∈fW k↔0<=y/\y<k:=by
 unfold fW;rw[qy]
 constructor
 ·rintro⟨i,hi,rfl⟩;have:=uz.mp hi;lia
 ·intro h;exact⟨y.toNat,uz.mpr (by lia),by lia⟩
theorem Rp(B:Bo n k es A)(v:Fv n k F)(hp:p<n)(hk:1<=k)(dH:∀t a b:Int,0<=a->a<k->0<=b->b<k->A ((a+t)%k) ((b+t)%k)=A a b)(all:∀(i:Nat) L,F[i]?=some (some L)->L=fW k)(hL:F[p]?=some (some (fW k))):Sat es A F↔Sat es A (settle es A F p 0):=by
 constructor
 ·rintro⟨g,s⟩;have md:∀z:Int,0<=z%(k:Int)/\z%(k:Int)<k:=λz=>⟨Ao _ (by lia),Cv _ (by lia)⟩;have s2:oA es A F λi=>(g i + -(g p))%k:=by
   refine⟨λi L h=>?_,λi e L M h1 h2 he=>?_⟩
   ·rw[all i L h];exact dU.mpr (md _)
   ·have a:=dU.mp (all i L h1▸s.mem i L h1);have b:=dU.mp (all e M h2▸s.mem e M h2);show A ((g i + -(g p))%k) ((g e + -(g p))%k)=true;rw[dH _ _ _ a.1 a.2 b.1 b.2];exact s.fit i e L M h1 h2 he
  have:=KD B v hp hL s2;have e0:(g p + -(g p))%(k:Int)=0:=by rw[Int.add_right_neg];rfl
  simp only[e0] at this;exact⟨_,this⟩
 ·intro h;exact(KH B v hp hL).mpr ⟨0,dU.mpr ⟨by lia,by lia⟩,h⟩
noncomputable def unset(F:Fr):Nat:=F.countP Option.isSome
theorem YK:unset (bnd es F)<=unset F:=by
 unfold unset bnd;generalize c7 es F=f
 induction F generalizing f with
 |nil=>simp
 |cons c F ih=>
  rw[List.mapIdx_cons,Ak,Ak];have:=ih (λi=>f (i+1));have e:(if (if 0<f 0 then c else none).isSome=true then 1 else 0)<=(if c.isSome=true then 1 else 0):=by
   split<;>split<;>simp_all
  lia
theorem zfH{F:Fr}:∀{p:Nat} {L:List Int},F[p]?=some (some L)->unset (F.set p none)+1=unset F:=by
 unfold unset
 induction F with
 |nil=>intro p L h;simp at h
 |cons c F ih=>
  intro p L h;cases p with
  |zero=>simp at h;subst h;simp
  |succ p=>
   have:=ih (p:=p) (L:=L) (by simpa using h);rw[List.set_cons_succ,Ak,Ak]
   lia
theorem zgm{f:Int->Bool}{F:Fr}{e:Int}:unset (eY f F e)<=unset F:=by
 unfold unset eY;generalize e.toNat=j
 induction F generalizing j with
 |nil=>simp
 |cons c F ih=>
  cases j with
  |zero=>cases c<;>simp
  |succ j=>
   rw[List.set_cons_succ,Ak,Ak,Ab];have:=ih j
   lia
theorem YL{f:Int->Bool}:∀{l:List Int} {F:Fr},unset (l.foldl (eY f) F)<=unset F
 |[],F=>bI _
 |e::l,F=>jO (YL (l:=l)) zgm
theorem Hx{L:List Int}(h:F[p]?=some (some L)):unset (settle es A F p x)+1<=unset F:=by
 have:=YL (f:=A x) (l:=es p) (F:=F.set p none);have:=zfH h;unfold settle
 lia
theorem zeF(h:unset F=0)(i:Nat)(L:List Int):F[i]?≠some (some L):=λe=>by
 have:=List.countP_eq_zero.mp h _ (eZ e);exact this rfl
def jM(es:Nat->List Int)(A:Int->Int->Bool)(kvs:g8):Prop:=∀F d,bO (F.map cellK) kvs=some d->∃b,d=.bl b/\(b=true↔Sat es A F)
theorem YM{j q:List Kx}{d:D}:∀{kvs:g8},bO j (iY q d kvs)=if j=q then some d else bO j kvs:=by
 intro kvs;unfold iY;have app:∀{r:g8},bO j (r++[(q,d)])=match bO j r with|some e=>some e|none=>if j=q then some d else none:=λ{r}=>by
  induction r with
  |nil=>
   show (if q=j then some d else none)=if j=q then some d else none
   by_cases e:q=j
   ·rw[if_pos e,if_pos e.symm]
   ·rw[if_neg e,if_neg λz=>e z.symm]
  |cons p r ih=>
   rw[List.cons_append];unfold bO;by_cases e:p.1=j
   ·simp[e]
   ·simp only[e,qz];exact ih
 by_cases h:(bO q kvs).isSome=true
 ·rw[if_pos h];by_cases e:j=q
  ·subst e;rw[if_pos rfl]
   induction kvs with
   |nil=>simp[bO] at h
   |cons p r ih=>
    rw[iU];by_cases z:p.1=j
    ·rw[if_pos z];unfold bO;rw[if_pos z]
    ·rw[if_neg z];unfold bO at h ⊢;rw[if_neg z] at h ⊢;exact ih h
  ·rw[if_neg e];clear h
   induction kvs with
   |nil=>rfl
   |cons p r ih=>
    rw[iU];by_cases z:p.1=q
    ·rw[if_pos z];unfold bO;rw[if_neg (λy=>e (y.symm.trans z)),if_neg (λy=>e (y.symm.trans z))];exact ih
    ·rw[if_neg z];unfold bO;by_cases y:p.1=j
     ·rw[if_pos y,if_pos y]
     ·rw[if_neg y,if_neg y];exact ih
 ·rw[if_neg h,app];by_cases e:j=q
  ·subst e;have:bO j kvs=none:=by simpa using h
   simp[this]
  ·rw[if_neg e,if_neg e];cases bO j kvs<;>rfl
theorem zg3{q:List Kx}{d:D}{kvs:g8}:(iY q d kvs).length<=kvs.length+1:=by
 unfold iY
 split
 ·rw[bV];lia
 ·simp
theorem zi6{kvs:g8}{b:Bool}(h:jM es A kvs)(hb:b=true↔Sat es A F):jM es A (iY (F.map cellK) (.bl b) kvs):=λG d e=>by
 rw[YM] at e;by_cases z:G.map cellK=F.map cellK
 ·rw[if_pos z] at e;cases e;rw[Yy z];exact⟨b,rfl,hb⟩
 ·rw[if_neg z] at e;exact h G d e
end
noncomputable def cnt(k:Nat):Nat->Nat
 |0=>1
 |m+1=>1+k*cnt k m
section
variable {aq:Nat->Nat->Bool}{aj:Bool}{F:Fn}{J:Vs}{s:S}{P:Xv->S->Prop}
theorem W.qb{c:Nat}{fs:List D}{P:List D->S->Prop}(h:P fs s):W (Mi.qb c (.d (.ob c fs))) s P:=by
 show W (if c=c then M.ret fs else M.no) s P;rw[if_pos rfl];exact W.ret h
theorem W.cm{c f:Nat}{o:E}{xs:Es}{fs:List D}{vs:List Xv}(h1:cW aq o J=some (.d (.ob c fs)))(h2:m6 aq xs J=some vs)(k:W (cB (F f) (.d (.ob c fs)::vs)) s P):W (ev aq aj F (.cm c f o xs) J) s P:=
 W.bd (W.eq (fV o _ h1) (W.bd (W.qb (W.bd (W.eq (jq xs h2) (W.qt k))))))
theorem W.p7(h:P (.l s.length) (s++[.dct []])):W (ev aq aj F .p7 J) s P:=⟨_,_,rfl,h⟩
theorem W.key{x:D}{kx:List Kx}{P:List Kx->S->Prop}(e:kOf x=some kx)(h:P kx s):W (Mi.key (.d x)) s P:=W.opt e h
theorem W.eO{n:Nat}{kvs:g8}{P:Nat×g8->S->Prop}(e:s[n]?=some (.dct kvs))(h:P (n,kvs) s):W (Mi.eO (.l n)) s P:=⟨_,s,by unfold Mi.eO;simp only[e],h⟩
theorem W.yU{b:Bool}{k d:E}{x:D}{n:Nat}{kx:List Kx}{kvs:g8}(h1:cW aq k J=some (.d x))(h2:cW aq d J=some (.l n))(e:kOf x=some kx)(hn:s[n]?=some (.dct kvs))(h:P (.d (.bl ((bO kx kvs).isSome==b))) s):W (ev aq aj F (.yU b k d) J) s P:=
 W.bd (W.eq (fV k _ h1) (W.bd (W.eq (fV d _ h2) (W.bd (W.key e (W.bd (W.eO hn (W.ret h))))))))
theorem W.nR{d k:E}{x v:D}{n:Nat}{kx:List Kx}{kvs:g8}(h1:cW aq d J=some (.l n))(h2:cW aq k J=some (.d x))(e:kOf x=some kx)(hn:s[n]?=some (.dct kvs))(hv:bO kx kvs=some v)(h:P (.d v) s):W (ev aq aj F (.nR d k) J) s P:=
 W.bd (W.eq (fV d _ h1) (W.bd (W.eq (fV k _ h2) (W.bd (W.key e (W.bd (W.eO hn (W.opt (a:=.d v) (by show Option.map _ (bO kx kvs)=_;rw[hv];rfl) h))))))))
theorem W.Bj{a:E}(h:W (ev aq aj F a J) s λx s1=>W (rd x) s1 λd s2=>∃b,uY d=some b/\P (.d (.bl b)) s2):W (ev aq aj F (.Bj a) J) s P:=
 W.bd (h.imp λ_ _ h=>W.bd (h.imp λ_ _ ⟨_,e,h⟩=>W.bd (W.opt e (W.ret h))))
theorem YQ{xs:List D}{P:Src×Nat->S->Prop}(h:P (.fix (enumFrom 0 xs),(enumFrom 0 xs).length) s):W (mV (.d (.tup xs))) s P:=⟨_,s,rfl,h⟩
theorem W.mk{c f:Nat}{xs:Es}{vs:List Xv}{ds:List D}(h:W (evs aq aj F xs J) s λus s1=>us=vs/\P (.d (.ob c ds)) s1)(hl:locs vs=[])(k:W (F f (.d .any::vs)) [] λv _=>v=.d (.tup ds)):W (ev aq aj F (.mk c f xs) J) s P:=by
 refine W.bd (h.imp λus s1 ⟨e,hp⟩=>?_);subst e;obtain⟨v,s2,e1,rfl⟩:=k;refine⟨_,s1,?_,hp⟩;unfold Pj;rw[if_pos hl];simp only[e1]
end
theorem WS.dput{aq:Nat->Nat->Bool}{aj:Bool}{F:Bool->Fn}{J:Vs}{s:S}{Q:Out->S->Prop}{d k v:E}{x:D}{n:Nat}{kx:List Kx}(h1:cW aq d J=some (.l n))(h2:cW aq k J=some (.d x))(e:kOf x=some kx)
  (h:W (ev aq aj (F aj) v J) s λz s1=>∃w kvs,z=.d w/\s1[n]?=some (.dct kvs)/\kvs.length<sizeLine/\Q (.nx J) (s1.set n (.dct (iY kx w kvs)))):WS (ex aq aj F (.dput d k v) J) s Q:=by
 refine WS.ofM (W.bd (h.imp λz s1 ⟨w,kvs,ez,hn,hl,q⟩=>?_));subst ez;refine W.bd (W.dat (W.bd (W.eq (fV d _ h1) (W.bd (W.eq (fV k _ h2) (W.bd (W.key e (W.bd (W.eO hn ?_)))))))));rw[if_pos hl];exact⟨_,_,rfl,WS.nx q⟩
theorem YS{α:Type}{f:α->D}:∀(l:List α) (j:Nat),enumFrom j (l.map f)=(l.zipIdx j).map λp=>.tup [.int p.2,f p.1]
 |[],j=>rfl
 |a::l,j=>by rw[iU,List.zipIdx_cons,iU,<-YS l (j+1)];rfl
theorem KaW{o:Option Rz}{xs:List D}{s:S}{P:Xv->S->Prop}(e:o=some (.nw xs))(h:P (.l s.length) (s++[.lst xs])):W (bT false o) s P:=by subst e;exact⟨_,_,rfl,h⟩
theorem YT{n:Nat}{j:Int}(h0:0<=j)(h:j<n):L2.pW n j=some j.toNat:=by
 unfold L2.pW;rw[if_pos h0,if_pos h]
theorem zje{n:Nat}{j:Int}(h0:j<0)(h : -(n:Int)<=j):L2.pW n j=some (j+n).toNat:=by
 unfold L2.pW;rw[if_neg (by lia),if_pos h]
theorem zmq{xs:List D}{j:Int}{x:D}(h0:j<0)(h1 : -(xs.length:Int)<=j)(h:xs[(j+xs.length).toNat]?=some x):prim .ix [.fl xs,.int j]=some (.dat x):=by
 show Option.map Rz.dat (L2.oU xs j)=_;have:L2.oU xs j=some x:=by
  unfold L2.oU;rw[zje h0 h1];exact h
 rw[this];rfl
theorem zgM(F:Fr):memD (.tup []) (F.map bC)=some (decide (some []∈F)):=by
 induction F with
 |nil=>rfl
 |cons c F ih=>
  simp only[iU,memD,ih];cases c with
  |none=>simp[bC,bZ,kq]
  |some l=>
   cases l with
   |nil=>
    have:bZ 50 (bC (some [])) (.tup [])=some true:=rfl;rw[this];simp
   |cons a l=>
    have:bZ 50 (bC (some (a::l))) (.tup [])=some false:=rfl;rw[this];simp
theorem zmD{f:Bool->Bool}{F:Fr}:yX f [.tup [],iQ F]=some (.dat (.bl (f (decide (some []∈F))))):=by
 show Option.map _ (memD (.tup []) (F.map bC))=_;rw[zgM];rfl
theorem YW{k':Nat}:∀(a b:List Int),b_ (bZ k') (a.map D.int) (b.map D.int)=some (decide (a=b))
 |[],[]=>by simp[b_]
 |[],_::_=>by simp[b_]
 |_::_,[]=>by simp[b_]
 |x::a,y::b=>by
  have hi:bZ k' (.int x) (.int y)=some (x==y):=by cases k'<;>rfl
  simp only[iU,b_,YW a b,hi]
  congr 1
  by_cases e:x=y<;>by_cases e2:a=b<;>simp[e,e2]
theorem YX{f:Bool->Bool}{a b:List Int}:wI f [.tup (a.map .int),.tup (b.map .int)]=some (.dat (.bl (f (decide (a=b))))):=by
 show Option.map _ (b_ (bZ 49) (a.map D.int) (b.map D.int))=_;rw[YW];rfl
theorem YZ:∀rs:List (List Int),jx (rs.map λr=>D.tup (r.map .int))=some rs
 |[]=>rfl
 |r::rs=>by simp only[iU,jx,Rj,YZ rs]
theorem Rq:∀(rs:List (List Int)) (b:List Int),eN b rs=b\/eN b rs∈rs
 |[],b=>.inl rfl
 |x::r,b=>by
  unfold eN
  split
  ·rcases Rq r x with h|h
   ·rw[h];exact .inr kh
   ·exact .inr (gW _ h)
  ·rcases Rq r b with h|h
   ·exact .inl h
   ·exact .inr (gW _ h)
theorem zlU{rs:List (List Int)}(h:rs≠[]):∃r∈rs,prim .pY [.fl (rs.map λr=>D.tup (r.map .int))]=some (.dat (.tup (r.map .int))):=by
 cases rs with
 |nil=>exact absurd rfl h
 |cons x r=>
  refine⟨eN x r,?_,?_⟩
  ·rcases Rq r x with h|h
   ·rw[h];exact kh
   ·exact gW _ h
  ·show mR [.fl ((x::r).map λr=>D.tup (r.map .int))]=_;unfold mR;simp only[YZ]
theorem zmY{n:Nat}(h:n<=65536):prim .Bh [.int n]=some (.dat (.tup ((fW n).map .int))):=by
 show (if okR 0 (n:Int)=true then some (Rz.dat (.tup (FT 0 ((n:Int)-0).toNat))) else none)=_;rw[if_pos (show okR 0 (n:Int)=true from gF (by lia))];unfold FT fW;rw[uE,show ((n:Int)-0).toNat=n by lia]
 congr 4
 funext i
 simp
noncomputable def zX(n:Nat)(es:Nat->List Int):List D:=(List.range n).map λi=>.tup ((es i).map .int)
noncomputable def ug(k:Nat)(A:Int->Int->Bool):List D:=(List.range k).map λ(a:Nat)=>.fl ((List.range k).map λ(b:Nat)=>.bl (A a b))
noncomputable def iR(n k:Nat)(es:Nat->List Int)(A:Int->Int->Bool):D:=.ob 0 [.fl (zX n es),.tup ((fW k).map .int),.fl (ug k A),.bl true]
theorem Y0{n:Nat}{es:Nat->List Int}{i:Nat}(h:i<n):(zX n es)[i]?=some (.tup ((es i).map .int)):=by
 unfold zX;rw[gD,Cq h];rfl
theorem zmV{k:Nat}{A:Int->Int->Bool}{a:Int}(h0:0<=a)(h:a<k):(ug k A)[a.toNat]?=some (.fl ((List.range k).map λ(b:Nat)=>.bl (A a b))):=by
 unfold ug;rw[gD,Cq (by lia)];have:((a.toNat:Nat):Int)=a:=by lia
 simp[this]
theorem Rr{k:Nat}{f:Int->Bool}{b:Int}(h0:0<=b)(h:b<k):((List.range k).map λ(b:Nat)=>D.bl (f b))[b.toNat]?=some (.bl (f b)):=by
 rw[gD,Cq (by lia)];have:((b.toNat:Nat):Int)=b:=by lia
 simp[this]
theorem Hy{F:Fr}{i:Nat}{c:Option (List Int)}(h:F[i]?=some c):(F.map bC)[i]?=some (bC c):=by rw[gD,h];rfl
theorem zio{f:Int->Bool}{F:Fr}{e:Int}:(eY f F e).map bC=(F.map bC).set e.toNat (bC ((F[e.toNat]?.join).map (·.filter f))):=by
 unfold eY;rw[List.map_set]
theorem zgX{f:Int->Bool}{F:Fr}{e:Int}(h:F[e.toNat]?=some none):eY f F e=F:=by
 unfold eY;rw[h];obtain⟨hl,e2⟩:=dX.mp h;show F.set e.toNat none=F;rw[<-e2,List.set_getElem_self]
theorem Y4{α:Type}{p:Int->Bool}(l:List Int):l.filterMap (λy=>if p y=true then some (D.int y) else none)=(l.filter p).map .int:=by
 induction l with
 |nil=>rfl
 |cons a l ih=>
  rw[xQ,List.filter_cons];by_cases q:p a=true
  ·simp[q,ih]
  ·simp[q,ih]
noncomputable def tot(k:Nat):Nat->Nat
 |0=>0
 |m+1=>k*cnt k m+tot k m
theorem Y5{k:Nat}{L:List Int}(h:L.Pairwise (·<·))(hb:∀x∈L,0<=x/\x<k):L.length<=k:=by
 have key:∀(L:List Int) (a:Int),L.Pairwise (·<·)->(∀x∈L,a<=x/\x<k)->a<=k->(L.length:Int)<=k-a:=by
  intro L
  induction L with
  |nil=>intro a _ _ ha;simp;lia
  |cons x r ih=>
   intro a h hb ha;rw[xR] at h;have hx:=hb x (by simp);have:=ih (x+1) h.2 (λy hy=>by have:=h.1 y hy;have:=hb y (by simp[hy]);lia) (by lia);rw[fZ]
   lia
 have:=key L 0 h hb (by lia)
 lia
noncomputable def cX(k d:Int)(a b:Int):Bool:=decide (d<=jA k a b)
section
variable {n k d:Int}{ps:List (Int×Int)}{ls:List Int}
theorem Y6(hd:1<=d){a b:Int}:cX k d a b=cX k d b a:=by
 unfold cX;rw[tD,qM hd,qM hd]
 lia
theorem ziy(hd:1<=d)(t a b:Int)(a0:0<=a)(ak:a<k)(b0:0<=b)(bk:b<k):cX k d ((a+t)%k) ((b+t)%k)=cX k d a b:=by
 unfold cX;rw[tD,qM hd,qM hd];have e1:=Int.emod_add_mul_ediv (a+t) k;have e2:=Int.emod_add_mul_ediv (b+t) k;have u0:=Ao (a+t) (b:=k) (by lia);have w0:=Ao (b+t) (b:=k) (by lia);have uk:=Cv (a+t) (b:=k) (by lia);have wk:=Cv (b+t) (b:=k) (by lia);generalize (a+t)%k=u at *;generalize (b+t)%k=w at *;generalize (a+t)/k=q1 at *;generalize (b+t)/k=q2 at *;have e3:k*(q1-q2)=(a-b)-(u-w):=by rw[Int.mul_sub];lia
 have c:q1-q2 = -1\/q1-q2=0\/q1-q2=1:=by
  have h1:q1-q2<2:=Int.not_le.mp λz=>by
   have:=Int.mul_le_mul_of_nonneg_left z (show 0<=k by lia)
   lia
  have h2 : -2<q1-q2:=Int.not_le.mp λz=>by
   have:=Int.mul_le_mul_of_nonneg_left z (show 0<=k by lia)
   lia
  lia
 rcases c with c|c|c<;>rw[c] at e3<;>lia
theorem Hz(w:Web n ps){i e:Int}:e∈aQ i ps↔(i,e)∈ps\/(e,i)∈ps:=by
 unfold aQ;rw[Af]
 constructor
 ·rintro⟨p,hp,h⟩;obtain⟨a,b⟩:=p;unfold endOf at h;dsimp only at h;split at h
  ·cases h;subst_vars;exact .inl hp
  ·split at h
   ·cases h;subst_vars;exact .inr hp
   ·cases h
 ·rintro(hp|hp)
  ·exact⟨_,hp,by simp[endOf]⟩
  ·have:=w.tie _ hp;dsimp only at this;exact⟨_,hp,by unfold endOf;dsimp only;rw[if_neg (by lia),if_pos rfl]⟩
theorem zlS(w:Web n ps)(hd:1<=d)(hk:k<=24):Bo n.toNat k.toNat (λi=>aQ i ps) (cX k d) where
 hn:=by have:=w.h8;lia
 hk:=by lia
 mem:=λi hi e he=>by
  have:=XQ w he;refine⟨this.1,by lia,λz=>?_⟩;subst z;rcases(Hz w).mp he with h|h<;>have:=w.tie _ h<;>dsimp only at this<;>lia
 sym:=λi e _ _ he=>(Hz w).mpr ((Hz w).mp he).symm
 len:=λi hi=>by
  have:=Y5 (k:=n.toNat) (XM w i) (λx hx=>by have:=XQ w hx;have:=w.h1;lia);have:=w.h8
  lia
 Yz:=λa b _ _ _ _=>Y6 hd
noncomputable def iC(n k:Int):Fr:=List.replicate n.toNat (some (fW k.toNat))
theorem HB{i:Nat}{L:List Int}(h:(iC n k)[i]?=some (some L)):i<n.toNat/\L=fW k.toNat:=by
 unfold iC at h;rw[xM] at h;split at h
 ·cases h;exact⟨by assumption,rfl⟩
 ·cases h
theorem KJ{i:Nat}(h:i<n.toNat):(iC n k)[i]?=some (some (fW k.toNat)):=by
 unfold iC;rw[xM,if_pos h]
theorem KN(hk:k<=24):Fv n.toNat k.toNat (iC n k) where
 len:=by unfold iC;simp
 lo:=λi L h x hx=>by rw[(HB h).2] at hx;exact dU.mp hx
 ll:=λi L h=>by rw[(HB h).2];unfold fW;simp;lia
 so:=λi L h=>by
  rw[(HB h).2];unfold fW;rw[Mf];exact List.pairwise_lt_range.imp (by intro a b h;lia)
theorem Y7(w:Web n ps)(hd:1<=d){hs:List Int}(h:dw n k d ps hs):oA (λi=>aQ i ps) (cX k d) (iC n k) λj=>at' hs j where
 mem:=λi L e=>by
  obtain⟨h1,rfl⟩:=HB e;have:=h.len;have:=h.lo _ (X6 (fs:=hs) (j:=i) (by lia) (by lia));exact dU.mpr (by lia)
 fit:=λi e L M _ _ he=>by
  rcases(Hz w).mp he with q|q
  ·have:=h.fit _ q;show cX k d (at' hs i) (at' hs e)=true;unfold cX;rw[Ai];exact this
  ·have:=h.fit _ q;rw[Y6 hd];show cX k d (at' hs e) (at' hs i)=true;unfold cX;rw[Ai];exact this
theorem zhx(w:Web n ps){hs:List Int}(hl:hs.length=n.toNat)(s:oA (λi=>aQ i ps) (cX k d) (iC n k) λj=>at' hs j):dw n k d ps hs where
 len:=by have:=w.h1;lia
 lo:=λx hx=>by
  obtain⟨j,hj,e⟩:=vV hx;have:=s.mem j _ (KJ (by lia));have e2:at' hs (j:Int)=x:=by
   unfold at';rw[m9,jh,cT hj,e];rfl
  rw[e2] at this;have:=dU.mp this
  lia
 fit:=λp hp=>by
  have ht:=w.tie p hp;obtain⟨a,b⟩:=p;dsimp only at ht;obtain⟨i,rfl⟩:=vR ht.1;obtain⟨e,rfl⟩:=vR (show 0<=b by lia);have:=s.fit i e _ _ (KJ (by lia)) (KJ (by lia)) ((Hz w).mpr (.inl hp));unfold cX at this;rw[Ai] at this;exact this
theorem ziW{g h:List Int}(hl:g.length=h.length)(a:Ge g h)(b:Ge h g):g=h:=by
 have key:∀j:Nat,j<h.length->at' g j=at' h j:=by
  intro j
  induction j using Nat.strongRecOn with
  |_ j ih=>
   intro hj;have h1:=a j hj λi hi=>ih i hi (by lia);have h2:=b j (by lia) λi hi=>(ih i hi (by lia)).symm
   lia
 refine List.ext_getElem hl λj h1 h2=>?_;have:=key j h2;unfold at' at this;rw[m9,jh,jh,cT h1,cT h2] at this;exact this
end
theorem Rt{k k2 m m2:Nat}(hk:k<=k2)(hm:m<=m2):cnt k m<=cnt k2 m2:=by
 have h1:∀m,cnt k m<=cnt k2 m:=by
  intro m
  induction m with
  |zero=>exact bI _
  |succ m ih=>exact Nat.add_le_add_left (I8 hk ih) 1
 have h3:∀m,1<=cnt k2 m:=λm=>by cases m<;>unfold cnt<;>lia
 by_cases c:k2=0
 ·subst c;have:k=0:=by lia
  subst this;cases m<;>cases m2<;>simp[cnt]
 ·have h2:∀j,cnt k2 m<=cnt k2 (m+j):=by
   intro j
   induction j with
   |zero=>exact bI _
   |succ j ih=>
    have:1*cnt k2 (m+j)<=k2*cnt k2 (m+j):=Ii _ (by lia);show _<=1+k2*cnt k2 (m+j)
    lia
  have:=h2 (m2-m);rw[show m+(m2-m)=m2 by lia] at this;exact jO (h1 m) this
theorem Y8{k k2 m m2:Nat}(hk:k<=k2)(hm:m<=m2):tot k m<=tot k2 m2:=by
 have h1:∀m,tot k m<=tot k2 m:=by
  intro m
  induction m with
  |zero=>exact bI _
  |succ m ih=>exact Nat.add_le_add (I8 hk (Rt hk (bI _))) ih
 have h2:∀j,tot k2 m<=tot k2 (m+j):=by
  intro j
  induction j with
  |zero=>exact bI _
  |succ j ih=>show _<=k2*cnt k2 (m+j)+tot k2 (m+j);lia
 have:=h2 (m2-m);rw[show m+(m2-m)=m2 by lia] at this;exact jO (h1 m) this
section
variable {n m:Int}{ps:List (Int×Int)}{r h:List Int}{x y:Int}
end
section
variable {n k d m:Int}{ps:List (Int×Int)}{hs:List Int}
theorem zjv(h:dw n k d ps hs):pK k d ps hs=[]:=zV.mpr (m7.mpr h.fit)
theorem zlV:(BZ k d ps hs).mO=decide (pK k d ps hs=[]):=by
 unfold BZ;cases pK k d ps hs with
 |nil=>rfl
 |cons p r=>rfl
end
section
variable {n k d q:Int}{ps qs:List (Int×Int)}{hs:List Int}
theorem Y9:∀{a b:List (Int×Int)},a.Pairwise lx->b.Pairwise lx->(∀x,x∈a↔x∈b)->a=b
 |[],[],_,_,_=>rfl
 |[],y::b,_,_,h=>absurd ((h y).mpr (by simp)) (by simp)
 |x::a,[],_,_,h=>absurd ((h x).mp (by simp)) (by simp)
 |x::a,y::b,ha,hb,h=>by
  rw[xR] at ha hb;have e:x=y:=by
   rcases gG.mp ((h x).mp (by simp)) with e|e
   ·exact e
   ·rcases gG.mp ((h y).mpr (by simp)) with e2|e2
    ·exact e2.symm
    ·have h1:=hb.1 x e;have h2:=ha.1 y e2;unfold lx at h1 h2
     lia
  subst e;rw[Y9 ha.2 hb.2 λz=>?_]
  constructor
  ·intro hz;rcases gG.mp ((h z).mp (by simp[hz])) with e|e
   ·subst e;exact absurd (ha.1 z hz) Q0
   ·exact e
  ·intro hz;rcases gG.mp ((h z).mpr (by simp[hz])) with e|e
   ·subst e;exact absurd (hb.1 z hz) Q0
   ·exact e
theorem ziX(w:Web n ps)(s:qs.Sublist ps):Web n qs:=⟨w.h1,w.h8,λp hp=>w.tie p (s.subset hp),w.inc.sublist s,by have:=s.length_le;have:=w.len;lia⟩
theorem zhl(h:dw n k d ps hs)(s:qs.Sublist ps):dw n k d qs hs:=⟨h.len,h.lo,λp hp=>h.fit p (s.subset hp)⟩
theorem zfP(hd:1<=d)(h:dw n k d ps hs):dw n (k+1) d ps hs:=⟨h.len,λx hx=>by have:=h.lo x hx;lia,λp hp=>by
 have:=(qM hd).mp (h.fit p hp);rw[qM hd]
 lia⟩
theorem zgo(hd:1<d)(h:dw n k d ps hs):dw n k (d-1) ps hs:=⟨h.len,h.lo,λp hp=>by
 have:=(qM (by lia)).mp (h.fit p hp);rw[qM (by lia)]
 lia⟩
theorem zeE(w:Web n ps)(hd:1<=d)(hq:q=2\/q=3)(h:dw n k d ps hs):dw n (q*k) (q*d) ps (hs.map λx=>q*x) where
 len:=by rw[bV];exact h.len
 lo:=λx hx=>by
  obtain⟨y,hy,rfl⟩:=qy.mp hx;have:=h.lo y hy;rcases hq with rfl|rfl<;>lia
 fit:=λp hp=>by
  have ht:=w.tie p hp;have hl:=h.len;rw[X_ (by lia) (by lia),X_ (by lia) (by lia)];have:=(qM hd).mp (h.fit p hp);rcases hq with rfl|rfl<;>rw[qM (by lia)]<;>lia
noncomputable def lM(ps:List (Int×Int)):Nat->Nat
 |0=>0
 |i+1=>lM ps i+(aQ i ps).length
theorem Y_{p:Int×Int}(h0:0<=p.1)(h1:p.1<p.2):∀m:Nat,lM (p::ps) m=lM ps m+(if p.1<m then 1 else 0)+(if p.2<m then 1 else 0)
 |0=>by
  rw[if_neg (by lia),if_neg (by lia)];rfl
 |m+1=>by
  have e:(aQ (m:Int) (p::ps)).length=(aQ (m:Int) ps).length+(if p.1=m then 1 else 0)+(if p.2=m then 1 else 0):=by
   unfold aQ;rw[xQ];unfold endOf;by_cases c1:p.1=m
   ·rw[if_pos c1,if_pos c1,if_neg (by lia)];simp
   ·rw[if_neg c1,if_neg c1];by_cases c2:p.2=m
    ·rw[if_pos c2,if_pos c2];simp
    ·rw[if_neg c2,if_neg c2];simp
  show lM (p::ps) m+(aQ (m:Int) (p::ps)).length=lM ps m+(aQ (m:Int) ps).length+_+_;rw[Y_ h0 h1 m,e];have ex:∀a:Int,(if a<((m+1:Nat):Int) then 1 else 0:Nat)=(if a<m then 1 else 0)+(if a=m then 1 else 0):=λa=>by
   by_cases x:a<m
   ·rw[if_pos (by lia),if_pos x,if_neg (by lia)]
   ·by_cases y:a=m
    ·rw[if_pos (by lia),if_neg x,if_pos y]
    ·rw[if_neg (by lia),if_neg x,if_neg y]
  rw[ex,ex]
  lia
theorem Za:∀{ps:List (Int×Int)},(∀p∈ps,0<=p.1/\p.1<p.2/\p.2<n)->lM ps n.toNat=2*ps.length
 |[],_=>by
  have:∀m,lM [] m=0:=λm=>by
   induction m with
   |zero=>rfl
   |succ m ih=>show lM [] m+0=0;lia
  exact this _
 |p::r,h=>by
  have hp:=h p (by simp);rw[Y_ hp.1 hp.2.1,Za λq hq=>h q (by simp[hq]),if_pos (by lia),if_pos (by lia),fZ]
  lia
theorem Zb(h1:1<=n)(hk:1<=k):dw n k d [] (List.replicate n.toNat 0):=⟨by simp;lia,λx hx=>by rw[List.eq_of_mem_replicate hx];lia,λp hp=>by cases hp⟩
theorem zka{m:Nat}{j:Nat}:at' (List.replicate m 0) j=0:=by
 unfold at';rw[m9,jh,xM]
 split<;>rfl
theorem ze7(h1:1<=n)(hk:1<=k)(hh:dw n k d [] hs)(hg:∀g,dw n k d [] g->Ge g hs):hs=List.replicate n.toNat 0:=by
 refine ziW (by have:=hh.len;simp;lia) (λj hj ha=>?_) (hg _ (Zb h1 hk));rw[zka];rw[Cj] at hj;exact(hh.lo _ (X6 (by lia) (by have:=hh.len;lia))).1
theorem Zc(w:Web n ps):(ps.reverse.map λp=>(p.2,p.1)).map norm=ps.reverse:=by
 rw[uE]
 conv=>rhs;rw[<-List.map_id ps.reverse]
 refine List.map_congr_left λp hp=>?_;have:=w.tie p (Iv.mp hp);show norm (p.2,p.1)=p;unfold norm;rw[if_neg (by dsimp only;lia)]
theorem zjt(w:Web n ps):qG (ps.reverse.map bN)=some (ps.map bN):=by
 have hl:=w.len;have h8:=w.h8;obtain⟨qs,e,e1,e2,_⟩:=Yx (ps:=ps.reverse) (by rw[Lx];lia) (List.pairwise_reverse.mpr ((Q5 w.inc).imp λh e=>h e.symm));rw[e,Y9 e1 w.inc λx=>by rw[e2];exact Iv]
end
end Mi
namespace dM
open PySem Mi
noncomputable def b0:bU:=(.cons (.ret (.and (.o7 (.v 0) .int) (.not (.o7 (.v 0) .bool)))) .nil)
noncomputable def b1:bU:=(.cons (.ret (.and (.call 0 (Ea (.v 0))) (.wH .le .le (.v 1) (.v 0) (.v 2)))) .nil)
noncomputable def b2:bU:=(.cons (.ret (.and (.o7 (.v 0) .tuple) (.pr true .eq (Eb (.pr true .len (Ea (.v 0))) (.v 1))))) .nil)
noncomputable def b3:bU:=(.cons (.iff (.not (.call 2 (Eb (.v 0) (Ci 2)))) (.cons (.ret (.c (.bl false))) .nil) .nil) (.cons (.asg (.tp [1,2]) (.v 0)) (.cons (.ret (.and (.call 1 (Ec (.v 1) (Ci 1) (Ci 24))) (.call 1 (Ec (.v 2) (Ci 1) (.v 1))))) .nil)))
noncomputable def b4:bU:=(.cons (.ret (.call 1 (Ec (.v 1) (Ci 0) (.pr true .aq (Eb (Ei (.v 0) (Ci 0)) (Ci 1)))))) .nil)
noncomputable def b5:bU:=(.cons (.iff (.not (.call 3 (Ea (.v 0)))) (.cons .no .nil) .nil) .nil)
noncomputable def b6:bU:=(.cons (.asg (.nm 3) (.pr true .abs (Ea (.pr true .aq (Eb (.v 1) (.v 2)))))) (.cons (.ret (.pr true .min2 (Eb (.v 3) (.pr true .aq (Eb (Ei (.v 0) (Ci 0)) (.v 3)))))) .nil))
noncomputable def b7:bU:=(.cons (.iff (.not (.call 2 (Eb (.v 0) (Ci 2)))) (.cons (.ret (.c (.bl false))) .nil) .nil) (.cons (.asg (.tp [1,2]) (.v 0)) (.cons (.iff (.or (.not (.call 10 (Ea (.v 1)))) (.not (.o7 (.v 2) .tuple))) (.cons (.ret (.c (.bl false))) .nil) .nil) (.cons (.iff (.not (.pr true .all (Ea (.comp true (.call 12 (Eb (.v 1) (.v 0))) [0] (.seq (.v 2)) [1] 1 .no)))) (.cons (.ret (.c (.bl false))) .nil) .nil) (.cons (.ret (.pr true .all (Ea (.comp true (.pr true .lt (Eb (.v 0) (.v 1))) [0,1] (.zip (.v 2) (.sl true (.v 2) (.yes (Ci 1)) .no)) [] 2 .no)))) .nil)))))
noncomputable def b8:bU:=(.cons (.iff (.not (.call 10 (Ea (.v 0)))) (.cons .no .nil) .nil) (.cons (.asg (.nm 2) (.lst false .nil)) (.cons (.fr (.tp [3,4]) (.enum (.v 1)) (.cons (.asg (.nm 5) (.call 13 (Eb (.v 0) (.v 4)))) (.cons (.iff (.or (.pr true .rB (Ea (.v 5))) (.pr true .inn (Eb (.v 5) (.v 2)))) (.cons .no .nil) .nil) (.cons (.ex (.push (.v 2) (.v 5))) .nil)))) (.cons (.ret (.tup (Eb (.v 0) (.pr true .tuple (Ea (.pr true .sorted (Ea (.v 2)))))))) .nil))))
noncomputable def b9:bU:=(.cons (.ex (.call 14 (Ea (.v 0)))) (.cons (.ex (.call 15 (Eb (.v 0) (.v 1)))) (.cons (.ret (.call 16 (Eb (.v 0) (.v 1)))) .nil)))
noncomputable def b10:bU:=(.cons (.ret (.call 1 (Ec (.v 0) (Ci 1) (Ci 8)))) .nil)
noncomputable def Ru:bU:=(.cons (.ret (.call 1 (Ec (.v 1) (Ci 0) (.pr true .aq (Eb (.v 0) (Ci 1)))))) .nil)
noncomputable def KQ:bU:=(.cons (.iff (.not (.call 2 (Eb (.v 1) (Ci 2)))) (.cons (.ret (.c (.bl false))) .nil) .nil) (.cons (.asg (.tp [2,3]) (.v 1)) (.cons (.ret (.and (.call 11 (Eb (.v 0) (.v 2))) (.and (.call 11 (Eb (.v 0) (.v 3))) (.pr true .lt (Eb (.v 2) (.v 3)))))) .nil)))
noncomputable def Rw:bU:=(.cons (.iff (.call 12 (Eb (.v 0) (.v 1))) (.cons (.ret (.v 1)) .nil) .nil) (.cons (.iff (.and (.call 2 (Eb (.v 1) (Ci 2))) (.call 12 (Eb (.v 0) (.pr true .rev (Ea (.v 1)))))) (.cons (.ret (.pr true .rev (Ea (.v 1)))) .nil) .nil) (.cons (.ret (.c .non)) .nil)))
noncomputable def Rx:bU:=(.cons (.iff (.not (.call 7 (Ea (.v 0)))) (.cons .no .nil) .nil) .nil)
noncomputable def Ry:bU:=(.cons (.iff (.not (.call 11 (Eb (Ei (.v 0) (Ci 0)) (.v 1)))) (.cons .no .nil) .nil) .nil)
noncomputable def RB:bU:=(.cons (.asg (.nm 2) (.comp true (.ite (.pr true .eq (Eb (.v 0) (.v 2))) (.v 1) (.v 0)) [0,1] (.seq (Ei (.v 0) (Ci 1))) [1] 2 (.yes (.pr true .inn (Eb (.v 2) (.tup (Eb (.v 0) (.v 1)))))))) (.cons (.ret (.pr true .tuple (Ea (.pr true .sorted (Ea (.v 2)))))) .nil))
noncomputable def RD:bU:=(.cons (.ret (.comp true (.call 16 (Eb (.v 1) (.v 0))) [0] (.rg (Ci 0) (Ei (.v 0) (Ci 0))) [0] 1 .no)) .nil)
noncomputable def RG:bU:=(.cons (.ex (.call 14 (Ea (.v 0)))) (.cons (.ex (.call 5 (Ea (.v 1)))) (.cons (.ret (.call 20 (Ec (.v 0) (.v 1) (.v 2)))) .nil)))
noncomputable def RJ:bU:=(.cons (.ret (.and (.call 2 (Eb (.v 2) (Ei (.v 0) (Ci 0)))) (.pr true .all (Ea (.comp true (.call 4 (Eb (.v 1) (.v 0))) [0] (.seq (.v 2)) [1] 1 .no))))) .nil)
noncomputable def RK:bU:=(.cons (.ret (.and (.call 19 (Ec (.v 0) (.v 1) (.v 2))) (.pr true .rB (Ea (.call 21 (Ec (.v 0) (.v 1) (.v 2))))))) .nil)
noncomputable def RL:bU:=(.cons (.fr (.tp [3,4]) (.seq (Ei (.v 0) (Ci 1))) (.cons (.iff (.pr true .lt (Eb (.call 6 (Ec (.v 1) (Ei (.v 2) (.v 3)) (Ei (.v 2) (.v 4)))) (Ei (.v 1) (Ci 1)))) (.cons (.ret (.tup (Eb (.v 3) (.v 4)))) .nil) .nil) .nil)) (.cons (.ret (.c .non)) .nil))
noncomputable def RM:bU:=(.cons (.ret (.tup (.cons (.call 17 (Ea (.v 1))) (Ec (.pr true .Bh (Ea (.pr true .len (Ea (.v 2))))) (.v 2) (.v 3))))) .nil)
noncomputable def RN:bU:=(.cons (.ret (Ei (Ei (.of (.v 0) 0 2) (.v 1)) (.v 2))) .nil)
noncomputable def RP:bU:=(.cons (.asg (.nm 4) (.pr false .list (Ea (.v 1)))) (.cons (.asg (.aq (.v 4) (.v 2)) (.c .non)) (.cons (.fr (.nm 5) (.seq (Ei (.of (.v 0) 0 0) (.v 2))) (.cons (.iff (.pr true .qF (Ea (Ei (.v 4) (.v 5)))) (.cons (.asg (.aq (.v 4) (.v 5)) (.pr true .tuple (Ea (.comp true (.v 0) [0] (.seq (Ei (.v 4) (.v 5))) [0,3] 1 (.yes (.cm 0 23 (.v 1) (Eb (.v 2) (.v 0)))))))) .nil) .nil) .nil)) (.cons (.ret (.pr true .tuple (Ea (.v 4)))) .nil))))
noncomputable def RQ:bU:=(.cons (.ret (.pr true .len (Ea (.comp true (.v 0) [0] (.seq (Ei (.of (.v 0) 0 0) (.v 2))) [1] 1 (.yes (.pr true .qF (Ea (Ei (.v 1) (.v 0))))))))) .nil)
noncomputable def RT:bU:=(.cons (.ret (.pr true .tuple (Ea (.comp true (.ite (.pr true .gt (Eb (.cm 0 25 (.v 2) (Eb (.v 3) (.v 0))) (Ci 0))) (.v 1) (.c .non)) [0,1] (.enum (.v 1)) [0,1] 2 .no)))) .nil)
noncomputable def RV:bU:=(.cons (.asg (.nm 2) (.lst false .nil)) (.cons (.fr (.tp [3,4]) (.enum (.v 1)) (.cons (.iff (.pr true .qF (Ea (.v 4))) (.cons (.ex (.push (.v 2) (.tup (Ec (.pr true .len (Ea (.v 4))) (.pr true .neg (Ea (.cm 0 25 (.v 0) (Eb (.v 1) (.v 3))))) (.v 3))))) .nil) .nil) .nil)) (.cons (.ret (.ite (.Bj (.v 2)) (Ei (.pr true .pY (Ea (.v 2))) (Ci 2)) (.c .non))) .nil)))
noncomputable def RW:bU:=(.cons (.ret (.pr true .all (Ea (.comp true (.or (.pr true .rB (Ea (.v 0))) (.pr true .eq (Eb (.v 0) (.of (.v 1) 0 1)))) [0] (.seq (.v 1)) [0] 1 .no)))) .nil)
noncomputable def RX:bU:=(.cons (.asg (.tp [2,3]) (.v 1)) (.cons (.asg (.nm 4) (.comp true (.pr true .ge (Eb (.pr true .min2 (Eb (.v 0) (.pr true .aq (Eb (.v 1) (.v 0))))) (.v 2))) [0] (.rg (Ci 0) (.v 2)) [2,3] 1 .no)) (.cons (.ret (.mk 0 22 (Ec (.v 0) (.comp true (.comp true (Ei (.v 1) (.pr true .aq (Eb (.v 2) (.v 0)))) [0] (.rg (Ci 0) (.v 1)) [2,0] 1 .no) [0] (.rg (Ci 0) (.v 2)) [2,4] 1 .no) (.c (.bl true))))) .nil)))
noncomputable def RZ:bU:=(.cons (.ex (.call 14 (Ea (.v 0)))) (.cons (.ex (.call 5 (Ea (.v 1)))) (.cons (.asg (.nm 2) (.call 29 (Eb (.v 0) (.v 1)))) (.cons (.ret (.call 31 (Eb (.v 2) (.comp true (.of (.v 1) 0 1) [0] (.rg (Ci 0) (Ei (.v 0) (Ci 0))) [2] 1 .no)))) .nil))))
noncomputable def R0:bU:=(.cons (.asg (.nm 2) (.pr true .tuple (Ea (.v 1)))) (.cons (.asg (.nm 3) .p7) (.cons (.iff (.not (.call 33 (Ec (.v 0) (.v 3) (.v 2)))) (.cons (.ret (.c .non)) .nil) .nil) (.cons (.asg (.nm 4) (.lst false .nil)) (.cons (.fr (.nm 5) (.rg (Ci 0) (.pr true .len (Ea (.v 1)))) (.cons (.asg (.nm 6) (.call 32 (.cons (.v 0) (Ec (.v 3) (.v 2) (.v 5))))) (.cons (.asg (.nm 2) (.cm 0 24 (.v 0) (Ec (.v 2) (.v 5) (.v 6)))) (.cons (.ex (.push (.v 4) (.v 6))) .nil)))) (.cons (.ret (.pr true .tuple (Ea (.v 4)))) .nil))))))
noncomputable def KR:bU:=(.cons (.fr (.nm 4) (.seq (Ei (.v 2) (.v 3))) (.cons (.iff (.call 33 (Ec (.v 0) (.v 1) (.cm 0 24 (.v 0) (Ec (.v 2) (.v 3) (.v 4))))) (.cons (.ret (.v 4)) .nil) .nil) .nil)) (.cons (.ret (.c .non)) .nil))
noncomputable def R3:bU:=(.cons (.iff (.pr true .inn (Eb (.tup .nil) (.v 2))) (.cons (.ret (.c (.bl false))) .nil) .nil) (.cons (.asg (.nm 3) (.cm 0 26 (.v 0) (Ea (.v 2)))) (.cons (.iff (.yU false (.v 3) (.v 1)) (.cons (.dput (.v 1) (.v 3) (.call 34 (Ec (.v 0) (.v 1) (.v 3)))) .nil) .nil) (.cons (.ret (.nR (.v 1) (.v 3))) .nil))))
noncomputable def HD:bU:=(.cons (.asg (.nm 3) (.cm 0 27 (.v 0) (Ea (.v 2)))) (.cons (.iff (.pr true .rB (Ea (.v 3))) (.cons (.ret (.c (.bl true))) .nil) .nil) (.cons (.iff (.and (.of (.v 0) 0 3) (.cm 0 28 (.v 0) (Ea (.v 2)))) (.cons (.ret (.call 33 (Ec (.v 0) (.v 1) (.cm 0 24 (.v 0) (Ec (.v 2) (.v 3) (Ci 0)))))) .nil) .nil) (.cons (.ret (.pr true .qF (Ea (.call 32 (.cons (.v 0) (Ec (.v 1) (.v 2) (.v 3))))))) .nil))))
noncomputable def R4:bU:=(.cons (.iff (.pr true .lt (Eb (.v 1) (.pr true .len (Ea (.v 0))))) (.cons (.ret (Ei (.v 0) (.v 1))) .nil) .nil) (.cons (.ret (Ci 0)) .nil))
noncomputable def R5:bU:=(.cons (.asg (.nm 1) (.pr true .max2 (Eb (.v 0) (.pr true .aq (Eb (Ci 0) (.v 0)))))) (.cons (.ret (.lst false (Eb (.v 1) (.pr true .uX (Ea (.pr true .ge (Eb (.v 1) (.pr true .pow (Eb (Ci 10) (Ci 18)))))))))) .nil))
noncomputable def R6:bU:=(.cons (.iff (.pr true .eq (Eb (Ei (.v 0) (Ci 1)) (Ci 1))) (.cons (.asg (.tp [2,3]) (.pr true .divmod (Eb (Ei (.v 0) (Ci 0)) (.v 1)))) (.cons (.asg (.aq (.v 0) (Ci 0)) (.v 2)) (.cons (.ret (.v 3)) .nil))) .nil) (.cons (.asg (.nm 4) (.pr true .mod (Eb (.pr true .mul (Eb (.pr true .add (Eb (.pr true .mod (Eb (Ei (.v 0) (Ci 0)) (Ci 2147483647))) (Ci 40503))) (Ci 69621))) (Ci 2147483629)))) (.cons (.asg (.nm 4) (.pr true .mod (Eb (.pr true .add (Eb (.pr true .mul (Eb (.v 4) (.v 4))) (Ci 7817))) (Ci 2147483587)))) (.cons (.asg (.aq (.v 0) (Ci 0)) (.pr true .mod (Eb (.pr true .add (Eb (.pr true .mul (Eb (.v 4) (Ci 48271))) (Ci 11))) (Ci 2147483629)))) (.cons (.ret (.pr true .mod (Eb (.pr true .fdiv (Eb (Ei (.v 0) (Ci 0)) (Ci 32))) (.v 1)))) .nil)))))
noncomputable def R7:bU:=(.cons (.ret (Ei (.lst true (.cons (Ci 1) (.cons (Ci 2) (.cons (Ci 3) (.cons (Ci 4) (.cons (Ci 5) (.cons (Ci 6) (.cons (Ci 4) (.cons (Ci 5) (.cons (Ci 3) (Ec (Ci 6) (Ci 7) (Ci 8)))))))))))) (.call 37 (Eb (.v 0) (Ci 12))))) .nil)
noncomputable def R8:bU:=(.cons (.asg (.nm 2) (Ei (.lst true (Ec (Ci 2) (Ci 4) (Ci 6))) (.call 37 (Eb (.v 0) (Ci 3))))) (.cons (.asg (.nm 3) (.lst true .nil)) (.cons (.fr (.nm 4) (.rg (Ci 0) (.v 1)) (.cons (.asg (.nm 3) (.pr true .add (Eb (.v 3) (.comp true (.tup (Eb (.v 1) (.v 0))) [0] (.rg (.pr true .add (Eb (.v 4) (Ci 1))) (.v 1)) [4,0,2] 1 (.yes (.pr true .lt (Eb (.call 37 (Eb (.v 2) (Ci 8))) (.v 3)))))))) .nil)) (.cons (.ret (.tup (Eb (.v 1) (.pr true .tuple (Ea (.pr true .sorted (Ea (.comp true (.tup (Eb (.pr true .aq (Eb (.pr true .aq (Eb (.v 2) (Ci 1))) (.v 1))) (.pr true .aq (Eb (.pr true .aq (Eb (.v 2) (Ci 1))) (.v 0))))) [0,1] (.seq (.v 3)) [1] 2 .no)))))))) .nil))))
noncomputable def R9:bU:=(.cons (.asg (.nm 1) (.lst true (.cons (.tup (Eb (Ci 2) (Ci 1))) (.cons (.tup (Eb (Ci 3) (Ci 1))) (.cons (.tup (Eb (Ci 5) (Ci 2))) (.cons (.tup (Eb (Ci 4) (Ci 1))) (.cons (.tup (Eb (Ci 7) (Ci 3))) (.cons (.tup (Eb (Ci 7) (Ci 2))) (.cons (.tup (Eb (Ci 4) (Ci 2))) (.cons (.tup (Eb (Ci 6) (Ci 2))) (.cons (.tup (Eb (Ci 10) (Ci 4))) (Ec (.tup (Eb (Ci 5) (Ci 1))) (.tup (Eb (Ci 8) (Ci 3))) (.tup (Eb (Ci 3) (Ci 2))))))))))))))) (.cons (.iff (.pr true .eq (Eb (.call 37 (Eb (.v 0) (Ci 6))) (Ci 0))) (.cons (.asg (.nm 2) (.pr true .add (Eb (Ci 1) (.pr true .mod (Eb (.call 37 (Eb (.v 0) (Ci 24))) (Ci 10)))))) (.cons (.ret (.tup (Eb (.v 2) (.pr true .max2 (Eb (Ci 1) (.pr true .fdiv (Eb (.call 37 (Eb (.v 0) (.v 2))) (Ci 2)))))))) .nil)) .nil) (.cons (.ret (Ei (.v 1) (.call 37 (Eb (.v 0) (Ci 12))))) .nil)))
noncomputable def R_:bU:=(.cons (.asg (.tp [4,5]) (.v 2)) (.cons (.iff (.and (.pr true .lt (Eb (.v 4) (Ci 24))) (.not (.call 18 (Ec (.v 1) (.tup (Eb (.pr true .add (Eb (.v 4) (Ci 1))) (.v 5))) (.v 3))))) (.cons (.ret (.c (.bl false))) .nil) .nil) (.cons (.iff (.and (.pr true .gt (Eb (.v 5) (Ci 1))) (.not (.call 18 (Ec (.v 1) (.tup (Eb (.v 4) (.pr true .aq (Eb (.v 5) (Ci 1))))) (.v 3))))) (.cons (.ret (.c (.bl false))) .nil) .nil) (.cons (.asg (.nm 6) (.pr true .add (Eb (Ci 2) (.call 37 (Eb (.v 0) (Ci 2)))))) (.cons (.asg (.nm 7) (.tup (Eb (.pr true .mul (Eb (.v 6) (.v 4))) (.pr true .mul (Eb (.v 6) (.v 5)))))) (.cons (.iff (.and (.call 3 (Ea (.v 7))) (.not (.call 18 (Ec (.v 1) (.v 7) (.pr true .tuple (Ea (.comp true (.pr true .mul (Eb (.v 1) (.v 0))) [0] (.seq (.v 3)) [6] 1 .no))))))) (.cons (.ret (.c (.bl false))) .nil) .nil) (.cons (.iff (.pr true .ne (Eb (Ei (.v 1) (Ci 1)) (.tup .nil))) (.cons (.asg (.nm 8) (.call 37 (Eb (.v 0) (.pr true .len (Ea (Ei (.v 1) (Ci 1))))))) (.cons (.asg (.nm 9) (.tup (Eb (Ei (.v 1) (Ci 0)) (.pr true .add (Eb (.sl true (Ei (.v 1) (Ci 1)) .no (.yes (.v 8))) (.sl true (Ei (.v 1) (Ci 1)) (.yes (.pr true .add (Eb (.v 8) (Ci 1)))) .no)))))) (.cons (.iff (.not (.call 18 (Ec (.v 9) (.v 2) (.v 3)))) (.cons (.ret (.c (.bl false))) .nil) .nil) .nil))) .nil) (.cons (.ret (.c (.bl true))) .nil))))))))
noncomputable def Sd:bU:=(.cons (.fr (.nm 1) (.seq (.pr true .add (Eb (.lst true (Ea (.call 35 (Eb (.v 0) (Ci 0))))) (.sl true (.v 0) (.yes (Ci 1)) (.yes (Ci 5)))))) (.cons (.asg (.nm 2) (.call 36 (Ea (.v 1)))) (.cons (.asg (.tp [3,4]) (.tup (Eb (.call 39 (Eb (.v 2) (.call 38 (Ea (.v 2))))) (.call 40 (Ea (.v 2)))))) (.cons (.iff (.and (.pr true .eq (Eb (Ei (.v 3) (Ci 0)) (Ci 8))) (.pr true .gt (Eb (Ei (.v 4) (Ci 0)) (Ci 7)))) (.cons (.asg (.nm 4) (.tup (Eb (Ci 7) (Ci 3)))) .nil) .nil) (.cons (.asg (.nm 5) (.call 30 (Eb (.v 3) (.v 4)))) (.cons (.iff (.and (.pr true .qF (Ea (.v 5))) (.not (.call 41 (.cons (.v 2) (Ec (.v 3) (.v 4) (.v 5)))))) (.cons (.ret (.c (.bl false))) .nil) .nil) (.cons (.asg (.nm 6) (.pr true .tuple (Ea (.comp true (.call 37 (Eb (.v 1) (Ei (.v 2) (Ci 0)))) [0] (.rg (Ci 0) (Ei (.v 3) (Ci 0))) [2,4] 1 .no)))) (.cons (.iff (.or (.not (.call 18 (Ec (.tup (Eb (Ei (.v 3) (Ci 0)) (.tup .nil))) (.v 4) (.v 6)))) (.pr true .ne (Eb (.call 30 (Eb (.tup (Eb (Ei (.v 3) (Ci 0)) (.tup .nil))) (.v 4))) (.pr true .mult (Eb (.tup (Ea (Ci 0))) (Ei (.v 3) (Ci 0))))))) (.cons (.ret (.c (.bl false))) .nil) .nil) (.cons (.iff (.pr true .ne (Eb (.call 8 (Eb (Ei (.v 3) (Ci 0)) (.comp true (.pr true .rev (Ea (.v 0))) [0] (.seq (.pr true .rev (Ea (Ei (.v 3) (Ci 1))))) [] 1 .no))) (.v 3))) (.cons (.ret (.c (.bl false))) .nil) .nil) (.cons (.asg (.nm 7) (Ci 0)) (.cons (.fr (.nm 8) (.rg (Ci 0) (Ei (.v 3) (Ci 0))) (.cons (.asg (.nm 7) (.pr true .add (Eb (.v 7) (.pr true .len (Ea (.call 9 (Eb (.v 3) (.v 8)))))))) .nil)) (.cons (.iff (.pr true .ne (Eb (.v 7) (.pr true .mul (Eb (Ci 2) (.pr true .len (Ea (Ei (.v 3) (Ci 1)))))))) (.cons (.ret (.c (.bl false))) .nil) .nil) .nil)))))))))))) (.cons (.ret (.c (.bl true))) .nil))
noncomputable def T(n:Nat):Option Df:=([⟨1,1,b0⟩,⟨3,3,b1⟩,⟨2,2,b2⟩,⟨3,1,b3⟩,⟨2,2,b4⟩,⟨1,1,b5⟩,⟨4,3,b6⟩,⟨3,1,b7⟩,⟨6,2,b8⟩,⟨2,2,b9⟩,⟨1,1,b10⟩,⟨2,2,Ru⟩,⟨4,2,KQ⟩,⟨2,2,Rw⟩,⟨1,1,Rx⟩,⟨2,2,Ry⟩,⟨3,2,RB⟩,⟨1,1,RD⟩,⟨3,3,RG⟩,⟨3,3,RJ⟩,⟨3,3,RK⟩,⟨5,3,RL⟩,⟨4,4,RM⟩,⟨3,3,RN⟩,⟨6,4,RP⟩,⟨3,3,RQ⟩,⟨2,2,RT⟩,⟨5,2,RV⟩,⟨2,2,RW⟩,⟨5,2,RX⟩,⟨3,2,RZ⟩,⟨7,2,R0⟩,⟨5,4,KR⟩,⟨4,3,R3⟩,⟨4,3,HD⟩,⟨2,2,R4⟩,⟨2,1,R5⟩,⟨5,2,R6⟩,⟨1,1,R7⟩,⟨5,2,R8⟩,⟨3,1,R9⟩,⟨10,4,R_⟩,⟨9,1,Sd⟩]:List Df)[n]?
theorem T_0:T 0=some ⟨1,1,b0⟩:=rfl
theorem T_1:T 1=some ⟨3,3,b1⟩:=rfl
theorem Zd:T 2=some ⟨2,2,b2⟩:=rfl
theorem Sg:T 3=some ⟨3,1,b3⟩:=rfl
theorem Ze:T 4=some ⟨2,2,b4⟩:=rfl
theorem Zf:T 5=some ⟨1,1,b5⟩:=rfl
theorem T_6:T 6=some ⟨4,3,b6⟩:=rfl
theorem Zg:T 7=some ⟨3,1,b7⟩:=rfl
theorem Zh:T 8=some ⟨6,2,b8⟩:=rfl
theorem Zi:T 9=some ⟨2,2,b9⟩:=rfl
theorem Zj:T 10=some ⟨1,1,b10⟩:=rfl
theorem Zk:T 11=some ⟨2,2,Ru⟩:=rfl
theorem Sh:T 12=some ⟨4,2,KQ⟩:=rfl
theorem Zm:T 13=some ⟨2,2,Rw⟩:=rfl
theorem Zn:T 14=some ⟨1,1,Rx⟩:=rfl
theorem Zo:T 15=some ⟨2,2,Ry⟩:=rfl
theorem Zq:T 16=some ⟨3,2,RB⟩:=rfl
theorem Zr:T 17=some ⟨1,1,RD⟩:=rfl
theorem Zu:T 18=some ⟨3,3,RG⟩:=rfl
theorem Zv:T 19=some ⟨3,3,RJ⟩:=rfl
theorem Zw:T 20=some ⟨3,3,RK⟩:=rfl
theorem Zx:T 21=some ⟨5,3,RL⟩:=rfl
theorem Zy:T 22=some ⟨4,4,RM⟩:=rfl
theorem Zz:T 23=some ⟨3,3,RN⟩:=rfl
theorem ZC:T 24=some ⟨6,4,RP⟩:=rfl
theorem ZD:T 25=some ⟨3,3,RQ⟩:=rfl
theorem ZF:T 26=some ⟨2,2,RT⟩:=rfl
theorem ZG:T 27=some ⟨5,2,RV⟩:=rfl
theorem ZJ:T 28=some ⟨2,2,RW⟩:=rfl
theorem ZK:T 29=some ⟨5,2,RX⟩:=rfl
theorem ZL:T 30=some ⟨3,2,RZ⟩:=rfl
theorem ZM:T 31=some ⟨7,2,R0⟩:=rfl
theorem Sq:T 32=some ⟨5,4,KR⟩:=rfl
theorem ZP:T 33=some ⟨4,3,R3⟩:=rfl
theorem KY:T 34=some ⟨4,3,HD⟩:=rfl
theorem ZQ:T 35=some ⟨2,2,R4⟩:=rfl
theorem ZR:T 36=some ⟨2,1,R5⟩:=rfl
theorem ZS:T 37=some ⟨5,2,R6⟩:=rfl
theorem ZV:T 38=some ⟨1,1,R7⟩:=rfl
theorem ZW:T 39=some ⟨5,2,R8⟩:=rfl
theorem ZX:T 40=some ⟨3,1,R9⟩:=rfl
theorem Z0:T 41=some ⟨10,4,R_⟩:=rfl
theorem Z9:T 42=some ⟨9,1,Sd⟩:=rfl
noncomputable def aq:Nat->Nat->Bool:=λc e=>(let n:=λc=>if c<0 then c else 0;n e==0||n c==n e)
end dM
namespace dM
open PySem PySem.Spec PyProof.Rows L2 Mi
abbrev LK(i:Nat)(x:Str)(k:NameKind):Prop:=(au (top i)).names.lookup x=some k
noncomputable abbrev gI:NameKind:=.globalImplicit
abbrev N7:List Str:=["thing","many","ties"]
abbrev Z_:List Str:=["web","place","ends"]
abbrev N17:List Str:=["web"]
abbrev N19:List Str:=["web","ring","thing"]
abbrev N24:List Str:=["self","free","place","spot","left","end"]
abbrev N25:List Str:=["self","free","place"]
abbrev N26:List Str:=["self","free"]
abbrev N28:List Str:=["self","free"]
abbrev Ss:List Str:=["web","ring","k","d","wide"]
abbrev N30:List Str:=["web","ring","board"]
abbrev Sv:List Str:=["_law_pen_here","_law_many","_law_often","_law_ties","_law_one"]
abbrev N41:List Str:=["_law_pen_here","_law_web_here","_law_ring_here","_law_hues","_law_k","_law_d","_law_often","_law_wide","_law_at","_law_fewer"]
abbrev Sw:List Str:=["_law_script","_law_cell_here","_law_pen_here","_law_web_here","_law_ring_here","_law_hues","_law_drawn","_law_there","_law_place"]
noncomputable def cl(K:W.Frag):Cl:=⟨g_ (lk.L K),λ_=>[],λ_=>dB K "Board",λ_=>["ends","spots","apart","alike"]⟩
structure Top(K:W.Frag)(mg:Str->Option Value):Prop where
 d0:D3 K mg "is_whole" (top 6) ["thing"]
 d1:D3 K mg "is_within" (top 7) ["thing","least","most"]
 d2:D3 K mg "is_row" (top 8) ["thing","many"]
 d3:D3 K mg "is_ring" (top 11) ["thing"]
 d4:D3 K mg "is_spot" (top 12) ["ring","thing"]
 d5:D3 K mg "check_ring" (top 13) ["thing"]
 d6:D3 K mg "gap_of" (top 14) ["ring","one","other"]
 d7:D3 K mg "is_web" (top 17) ["thing"]
 d8:D3 K mg "web_of" (top 18) ["many","things"]
 d9:D3 K mg "ends_of" (top 19) ["web","place"]
 KZ:D3 K mg "is_many" (top 20) ["thing"]
 HF:D3 K mg "is_place" (top 21) ["many","thing"]
 HJ:D3 K mg "is_tie" (top 22) ["many","thing"]
 Sx:D3 K mg "tie_by" (top 23) ["many","thing"]
 HN:D3 K mg "check_web" (top 24) ["thing"]
 Sy:D3 K mg "check_place" (top 25) ["web","thing"]
 K1:D3 K mg "tied_to" (top 26) ["web","place"]
 SJ:D3 K mg "all_ends" (top 27) ["web"]
 zY:D3 K mg "hues_hold" (top 29) ["web","ring","thing"]
 SM:D3 K mg "are_spots" (top 30) ["web","ring","thing"]
 SN:D3 K mg "are_hues" (top 31) ["web","ring","thing"]
 SQ:D3 K mg "clash_of" (top 32) ["web","ring","spots"]
 SX:D3 K mg "ring_board" (top 35) ["web","ring"]
 K3:D3 K mg "first_hues" (top 37) ["web","ring"]
 S5:D3 K mg "first_among" (top 38) ["board","choices"]
 K4:D3 K mg "first_spot" (top 39) ["board","answers","free","place"]
 HS:D3 K mg "can_settle" (top 40) ["board","answers","free"]
 S6:D3 K mg "search" (top 41) ["board","answers","free"]
 S7:D3 K mg "_law_cell" (top 43) ["_law_script","_law_k"]
 S8:D3 K mg "_law_pen" (top 44) ["_law_cell_here"]
 qO:D3 K mg "_law_draw" (top 45) ["_law_pen_here","_law_many"]
 S9:D3 K mg "_law_size" (top 46) ["_law_pen_here"]
 S_:D3 K mg "_law_web" (top 47) ["_law_pen_here","_law_many"]
 Tc:D3 K mg "_law_ring" (top 48) ["_law_pen_here"]
 Td:D3 K mg "_law_right" (top 49) ["_law_pen_here","_law_web_here","_law_ring_here","_law_hues"]
 K5:D3 K mg "law" (top 50) ["_law_script"]
 gU:∃t,mg "MOST_SPOTS"=some (.int 24 t)
 fX:∃t,mg "MOST_PLACES"=some (.int 8 t)
 z6:mg "abs"=none
 z8:mg "all"=none
 z2:mg "bool"=none
 z14:mg "divmod"=none
 K6:mg "enumerate"=none
 z1:mg "int"=none
 z0:mg "isinstance"=none
 z4:mg "len"=none
 z12:mg "list"=none
 Te:mg "max"=none
 z5:mg "min"=none
 qP:mg "range"=none
 z9:mg "sorted"=none
 z3:mg "tuple"=none
 z7:mg "zip"=none
 ow:Ow K (cl K) 0
 mq:Mk K ((cl K).b 0) (gw K ((cl K).b 0) "__init__")
 mc:mg "Board"=some (.ref ((cl K).b 0))
 Tf:Mt K ((cl K).b 0) "__init__" "Board.__init__" Aw ["self","web","apart","alike"] (gw K ((cl K).b 0) "__init__") (jg K ((cl K).b 0) "__init__" Aw)
 Ti:Mt K ((cl K).b 0) "far_apart" "Board.far_apart" Dk ["self","spot","other"] (gw K ((cl K).b 0) "far_apart") (jg K ((cl K).b 0) "far_apart" Dk)
 HW:Mt K ((cl K).b 0) "settled" "Board.settled" Ax ["self","free","place","spot"] (gw K ((cl K).b 0) "settled") (jg K ((cl K).b 0) "settled" Ax)
 K7:Mt K ((cl K).b 0) "ties_left" "Board.ties_left" Ay ["self","free","place"] (gw K ((cl K).b 0) "ties_left") (jg K ((cl K).b 0) "ties_left" Ay)
 Tj:Mt K ((cl K).b 0) "bound" "Board.bound" Az ["self","free"] (gw K ((cl K).b 0) "bound") (jg K ((cl K).b 0) "bound" Az)
 Tn:Mt K ((cl K).b 0) "narrowest" "Board.narrowest" Dl ["self","free"] (gw K ((cl K).b 0) "narrowest") (jg K ((cl K).b 0) "narrowest" Dl)
 Tq:Mt K ((cl K).b 0) "all_free" "Board.all_free" A_ ["self","free"] (gw K ((cl K).b 0) "all_free") (jg K ((cl K).b 0) "all_free" A_)
theorem zlE{K:W.Frag}{h:Heap}{mg:Str->Option Value}(Sb:pJ fs ms xs lk bd K)(X:K.In h)(G:h.Ns mainGlobals mg):Top K mg where
 d0:=sy Sb.i X G 0
 d1:=xq Sb.i X G 1
 d2:=oh Sb.i X G 2
 d3:=sy Sb.i X G 3
 d4:=oh Sb.i X G 4
 d5:=sy Sb.i X G 5
 d6:=xq Sb.i X G 6
 d7:=sy Sb.i X G 7
 d8:=oh Sb.i X G 8
 d9:=oh Sb.i X G 9
 KZ:=sy Sb.i X G 10
 HF:=oh Sb.i X G 11
 HJ:=oh Sb.i X G 12
 Sx:=oh Sb.i X G 13
 HN:=sy Sb.i X G 14
 Sy:=oh Sb.i X G 15
 K1:=oh Sb.i X G 16
 SJ:=sy Sb.i X G 17
 zY:=xq Sb.i X G 18
 SM:=xq Sb.i X G 19
 SN:=xq Sb.i X G 20
 SQ:=xq Sb.i X G 21
 SX:=oh Sb.i X G 22
 K3:=oh Sb.i X G 23
 S5:=oh Sb.i X G 24
 K4:=Xg Sb.i X G 25
 HS:=xq Sb.i X G 26
 S6:=xq Sb.i X G 27
 S7:=oh Sb.i X G 28
 S8:=sy Sb.i X G 29
 qO:=oh Sb.i X G 30
 S9:=sy Sb.i X G 31
 S_:=oh Sb.i X G 32
 Tc:=sy Sb.i X G 33
 Td:=Xg Sb.i X G 34
 K5:=sy Sb.i X G 35
 gU:=Xa (Sb.i.gd.it ("MOST_SPOTS",24) (mG 0)) X G
 fX:=Xa (Sb.i.gd.it ("MOST_PLACES",8) (mG 1)) X G
 z6:=n_ (Sb.i.gd.no "abs" (mG 0)) X G
 z8:=n_ (Sb.i.gd.no "all" (mG 1)) X G
 z2:=n_ (Sb.i.gd.no "bool" (mG 2)) X G
 z14:=n_ (Sb.i.gd.no "divmod" (mG 3)) X G
 K6:=n_ (Sb.i.gd.no "enumerate" (mG 4)) X G
 z1:=n_ (Sb.i.gd.no "int" (mG 5)) X G
 z0:=n_ (Sb.i.gd.no "isinstance" (mG 6)) X G
 z4:=n_ (Sb.i.gd.no "len" (mG 7)) X G
 z12:=n_ (Sb.i.gd.no "list" (mG 8)) X G
 Te:=n_ (Sb.i.gd.no "max" (mG 9)) X G
 z5:=n_ (Sb.i.gd.no "min" (mG 10)) X G
 qP:=n_ (Sb.i.gd.no "range" (mG 11)) X G
 z9:=n_ (Sb.i.gd.no "sorted" (mG 12)) X G
 z3:=n_ (Sb.i.gd.no "tuple" (mG 13)) X G
 z7:=n_ (Sb.i.gd.no "zip" (mG 14)) X G
 ow:=zmH Sb.b rfl rfl (by decide +kernel)
 mq:=zm7 Sb.b (Sb.m ("__init__","Board.__init__",Aw) (mG 0)).2
 mc:=zmK Sb.b X G
 Tf:=Yw (Sb.m ("__init__","Board.__init__",Aw) (mG 0))
 Ti:=Yv (Sb.m ("far_apart","Board.far_apart",Dk) (mG 1))
 HW:=Yw (Sb.m ("settled","Board.settled",Ax) (mG 2))
 K7:=Yv (Sb.m ("ties_left","Board.ties_left",Ay) (mG 3))
 Tj:=Ri (Sb.m ("bound","Board.bound",Az) (mG 4))
 Tn:=Ri (Sb.m ("narrowest","Board.narrowest",Dl) (mG 5))
 Tq:=Ri (Sb.m ("all_free","Board.all_free",A_) (mG 6))
abbrev FO(P:Program)(w:World)(K:W.Frag)(mg:Str->Option Value)(base:Heap)(k:Nat)(c:Bool)(x:Str)(i:Nat)(ps:List Str)(n:Nat):Prop:=bW P w K mg base (fL P w) c k (gR K x) (fdOf K x (top i)) ps (jZ K (cl K) (call aq T k c n))
abbrev FM(P:Program)(w:World)(K:W.Frag)(mg:Str->Option Value)(base:Heap)(k:Nat)(m:Str)(st:Stmt)(ps:List Str)(sp:Sp):Prop:=bW P w K mg base (fL P w) true k (gw K ((cl K).b 0) m) (jg K ((cl K).b 0) m st) ps sp
structure Fs(P:Program)(w:World)(K:W.Frag)(mg:Str->Option Value)(base:Heap)(k:Nat):Prop where
 t0:FO P w K mg base k true "is_whole" 6 ["thing"] 0
 t1:FO P w K mg base k true "is_within" 7 ["thing","least","most"] 1
 t2:FO P w K mg base k true "is_row" 8 ["thing","many"] 2
 t3:FO P w K mg base k true "is_ring" 11 ["thing"] 3
 t4:FO P w K mg base k true "is_spot" 12 ["ring","thing"] 4
 t5:FO P w K mg base k true "check_ring" 13 ["thing"] 5
 t6:FO P w K mg base k true "gap_of" 14 ["ring","one","other"] 6
 t7:FO P w K mg base k true "is_web" 17 ["thing"] 7
 t8:FO P w K mg base k true "web_of" 18 ["many","things"] 8
 t9:FO P w K mg base k true "ends_of" 19 ["web","place"] 9
 t10:FO P w K mg base k true "is_many" 20 ["thing"] 10
 t11:FO P w K mg base k true "is_place" 21 ["many","thing"] 11
 K8:FO P w K mg base k true "is_tie" 22 ["many","thing"] 12
 t13:FO P w K mg base k true "tie_by" 23 ["many","thing"] 13
 K9:FO P w K mg base k true "check_web" 24 ["thing"] 14
 t15:FO P w K mg base k true "check_place" 25 ["web","thing"] 15
 Tr:FO P w K mg base k true "tied_to" 26 ["web","place"] 16
 t17:FO P w K mg base k true "all_ends" 27 ["web"] 17
 B_:FO P w K mg base k true "hues_hold" 29 ["web","ring","thing"] 18
 t19:FO P w K mg base k true "are_spots" 30 ["web","ring","thing"] 19
 t20:FO P w K mg base k true "are_hues" 31 ["web","ring","thing"] 20
 t21:FO P w K mg base k true "clash_of" 32 ["web","ring","spots"] 21
 t22:FM P w K mg base k "__init__" Aw ["self","web","apart","alike"] (Kv K (cl K) 0 (call aq T k true 22))
 t23:FM P w K mg base k "far_apart" Dk ["self","spot","other"] (jZ K (cl K) (call aq T k true 23))
 K_:FM P w K mg base k "settled" Ax ["self","free","place","spot"] (jZ K (cl K) (call aq T k true 24))
 Tt:FM P w K mg base k "ties_left" Ay ["self","free","place"] (jZ K (cl K) (call aq T k true 25))
 t26:FM P w K mg base k "bound" Az ["self","free"] (jZ K (cl K) (call aq T k true 26))
 t27:FM P w K mg base k "narrowest" Dl ["self","free"] (jZ K (cl K) (call aq T k true 27))
 t28:FM P w K mg base k "all_free" A_ ["self","free"] (jZ K (cl K) (call aq T k true 28))
 t29:FO P w K mg base k true "ring_board" 35 ["web","ring"] 29
 Tv:FO P w K mg base k true "first_hues" 37 ["web","ring"] 30
 t31:FO P w K mg base k true "first_among" 38 ["board","choices"] 31
 Tw:FO P w K mg base k true "first_spot" 39 ["board","answers","free","place"] 32
 La:FO P w K mg base k true "can_settle" 40 ["board","answers","free"] 33
 t34:FO P w K mg base k true "search" 41 ["board","answers","free"] 34
 t35:FO P w K mg base k true "_law_cell" 43 ["_law_script","_law_k"] 35
 t36:FO P w K mg base k true "_law_pen" 44 ["_law_cell_here"] 36
 sV:FO P w K mg base k true "_law_draw" 45 ["_law_pen_here","_law_many"] 37
 t38:FO P w K mg base k true "_law_size" 46 ["_law_pen_here"] 38
 t39:FO P w K mg base k true "_law_web" 47 ["_law_pen_here","_law_many"] 39
 t40:FO P w K mg base k true "_law_ring" 48 ["_law_pen_here"] 40
 t41:FO P w K mg base k true "_law_right" 49 ["_law_pen_here","_law_web_here","_law_ring_here","_law_hues"] 41
 t42:FO P w K mg base k true "law" 50 ["_law_script"] 42
section
variable {P:Program}{w:World}{K:W.Frag}{mg:Str->Option Value}{base:Heap}{k:Nat}
theorem zjd(Tp:Top K mg)(Fk:Fs P w K mg base k):Fs P w K mg base (k+1) where
 t0:=fJ Tp.d0 ["thing"] T_0 λ_ _ _ _ _ _ hr=>(aG (bQ (wX (Kf rfl Tp.z0 gk (gv 0) (Ke rfl Tp.z1 zkZ gk dk)) (wW (zmG (Kf rfl Tp.z0 gk (gv 0) (Ke rfl Tp.z2 ziZ gk dk))))))
 aM)
 t1:=fJ Tp.d1 ["thing","least","most"] T_1 λ_ _ _ _ _ _ hr=>(aG (bQ (wX (gc Fk.t0 Tp.d0 hr bM gk (aA (gv 0) aH)) (wW (zm5 WX WX (gv 1) (gv 0) (gv 2)))))
 aM)
 t2:=fJ Tp.d2 ["thing","many"] Zd λ_ _ _ _ _ _ hr=>(aG (bQ (wX (Kf rfl Tp.z0 gk (gv 0) (Ke rfl Tp.z3 J8 gk dk)) (wW (Bw (Bu hr) (vC Tp.z4 gk (aA (gv 0) aH)) (gv 1)))))
 aM)
 t3:=fJ Tp.d3 ["thing","k","d"] Sg λ_ _ _ _ _ _ hr=>(aG (fC (mZ (jf (gc Fk.t2 Tp.d2 hr bM gk (aA (gv 0) (aA aL aH))))) (aG (bQ lR)
 aM) aM)
 (aG (zN 1 2 rfl rfl nd rfl rfl jl jl rfl rfl (gv 0))
 (aG (bQ (wX (gc Fk.t1 Tp.d1 hr bM gk (aA (gv 1) (aA aL (aA (WT Tp.gU gk dk) aH)))) (wW (gc Fk.t1 Tp.d1 hr bM gk (aA (gv 2) (aA aL (aA (gv 1) aH)))))))
 aM)))
 t4:=fJ Tp.d4 ["ring","thing"] Ze λ_ _ _ _ _ _ hr=>(aG (bQ (gc Fk.t1 Tp.d1 hr bM gk (aA (gv 1) (aA aL (aA (dG qL (cV (gv 0) aL) aL) aH)))))
 aM)
 t5:=fJ Tp.d5 ["thing"] Zf λ_ _ _ _ _ _ hr=>(aG (fC (mZ (jf (gc Fk.t3 Tp.d3 hr bM gk (aA (gv 0) aH)))) (aG GQ
 aM) aM)
 aM)
 t6:=fJ Tp.d6 ["ring","one","other","gap"] T_6 λ_ _ _ _ _ _ hr=>(aG (fQ 3 nd rfl jl rfl (znm Tp.z6 gk (aA (dG qL (gv 1) (gv 2)) aH)))
 (aG (bQ (W4 rfl Tp.z5 gk (aA (gv 3) (aA (dG qL (cV (gv 0) aL) (gv 3)) aH))))
 aM))
 t7:=fJ Tp.d7 N7 Zg λ_ _ _ _ _ _ hr=>(aG (fC (mZ (jf (gc Fk.t2 Tp.d2 hr bM gk (aA (gv 0) (aA aL aH))))) (aG (bQ lR)
 aM) aM)
 (aG (zN 1 2 rfl rfl nd rfl rfl jc jl rfl rfl (gv 0))
 (aG (fC (tX (Ql (mZ (jf (gc Fk.t10 Tp.KZ hr bM gk (aA (gv 1) aH)))) (Qk (mZ (jf (Kf rfl Tp.z0 gk (gv 2) (Ke rfl Tp.z3 J8 gk dk))))))) (aG (bQ lR)
 aM) aM)
 (aG (fC (mZ (jf (Kg rfl Tp.z8 gk (aA (m_ (au (top 17)) N7 ["tie"] ["many"] [1] rfl rfl rfl (by decide +kernel) (by decide +kernel) (pq 0) (by decide +kernel) (ql (gv 2)) (λ_ _ _ _ _ _=>(pD 0 (by decide +kernel) rfl (by decide +kernel))) (λ_ _ _ _ _ _=>pC) (λ_ _ _ _ _ _=>(gc Fk.K8 Tp.HJ hr GP zU (aA (cI 1) (aA (cI 0) aH))))) aH)))) (aG (bQ lR)
 aM) aM)
 (aG (bQ (Kg rfl Tp.z8 gk (aA (m_ (au (top 17)) N7 ["tie","later"] [] [] rfl rfl rfl (by decide +kernel) (by decide +kernel) (GC 0 1) (by decide +kernel) (zms Tp.z7 gk (gv 2) (Ka (gv 2) (GD aL) Qn)) (λ_ _ _ _ _ _=>(Kl 0 1 rfl (by decide +kernel) rfl rfl (by decide +kernel) (by decide +kernel))) (λ_ _ _ _ _ _=>pC) (λ_ _ _ _ _ _=>(Bw (Bv hr) (cI 0) (cI 1)))) aH)))
 aM)))))
 t8:=fJ Tp.d8 ["many","things","ties","at","thing","tie"] Zh λ_ _ _ _ _ _ hr=>(aG (fC (mZ (jf (gc Fk.t10 Tp.KZ hr bM gk (aA (gv 0) aH)))) (aG GQ
 aM) aM)
 (aG (fQ 2 nd rfl jl rfl (vB aH))
 (aG (vI vG rfl rfl (QB Tp.K6 gk (gv 1)) (Qt 3 4 rfl rfl nd rfl rfl jl jl rfl rfl) (aG (fQ 5 nd rfl jl rfl (gc Fk.t13 Tp.Sx hr bM gk (aA (gv 0) (aA (gv 4) aH))))
 (aG (fC (tX (Ql (W2 (gv 5)) (Qk (lU (Qj hr) (gv 5) (gv 2))))) (aG GQ
 aM) aM)
 (aG (vH (Qo (gv 2) (gv 5)))
 aM))))
 (aG (bQ (fK (aA (gv 0) (aA (tY Tp.z3 gk (aA (Qy Tp.z9 gk (aA (gv 2) aH)) aH)) aH))))
 aM))))
 t9:=fJ Tp.d9 ["web","place"] Zi λ_ _ _ _ _ _ hr=>(aG (vH (gc Fk.K9 Tp.HN hr bM gk (aA (gv 0) aH)))
 (aG (vH (gc Fk.t15 Tp.Sy hr bM gk (aA (gv 0) (aA (gv 1) aH))))
 (aG (bQ (gc Fk.Tr Tp.K1 hr bM gk (aA (gv 0) (aA (gv 1) aH))))
 aM)))
 t10:=fJ Tp.KZ ["thing"] Zj λ_ _ _ _ _ _ hr=>(aG (bQ (gc Fk.t1 Tp.d1 hr bM gk (aA (gv 0) (aA aL (aA (WT Tp.fX gk dk) aH)))))
 aM)
 t11:=fJ Tp.HF ["many","thing"] Zk λ_ _ _ _ _ _ hr=>(aG (bQ (gc Fk.t1 Tp.d1 hr bM gk (aA (gv 1) (aA aL (aA (dG qL (gv 0) aL) aH)))))
 aM)
 K8:=fJ Tp.HJ ["many","thing","one","other"] Sh λ_ _ _ _ _ _ hr=>(aG (fC (mZ (jf (gc Fk.t2 Tp.d2 hr bM gk (aA (gv 1) (aA aL aH))))) (aG (bQ lR)
 aM) aM)
 (aG (zN 2 3 rfl rfl nd rfl rfl jl jl rfl rfl (gv 1))
 (aG (bQ (wX (gc Fk.t11 Tp.HF hr bM gk (aA (gv 0) (aA (gv 2) aH))) (wX (gc Fk.t11 Tp.HF hr bM gk (aA (gv 0) (aA (gv 3) aH))) (wW (Bw (Bv hr) (gv 2) (gv 3))))))
 aM)))
 t13:=fJ Tp.Sx ["many","thing"] Zm λ_ _ _ _ _ _ hr=>(aG (fC (jf (gc Fk.K8 Tp.HJ hr bM gk (aA (gv 0) (aA (gv 1) aH)))) (aG (bQ (gv 1))
 aM) aM)
 (aG (fC (tX (zK (jf (gc Fk.t2 Tp.d2 hr bM gk (aA (gv 1) (aA aL aH)))) (zJ (jf (gc Fk.K8 Tp.HJ hr bM gk (aA (gv 0) (aA (Kc (gv 1)) aH))))))) (aG (bQ (Kc (gv 1)))
 aM) aM)
 (aG (bQ zF)
 aM)))
 K9:=fJ Tp.HN ["thing"] Zn λ_ _ _ _ _ _ hr=>(aG (fC (mZ (jf (gc Fk.t7 Tp.d7 hr bM gk (aA (gv 0) aH)))) (aG GQ
 aM) aM)
 aM)
 t15:=fJ Tp.Sy ["web","thing"] Zo λ_ _ _ _ _ _ hr=>(aG (fC (mZ (jf (gc Fk.t11 Tp.HF hr bM gk (aA (cV (gv 0) aL) (aA (gv 1) aH))))) (aG GQ
 aM) aM)
 aM)
 Tr:=fJ Tp.K1 Z_ Zq λ_ _ _ _ _ _ hr=>(aG (zkj 2 (au (top 26)) Z_ ["one","other"] ["place"] [1] nd rfl jl rfl rfl rfl rfl (by decide +kernel) (by decide +kernel) (GC 0 1) (by decide +kernel) (ql (cV (gv 0) aL)) (λ_ _ _ _ _ _=>(Kl 0 1 rfl (by decide +kernel) rfl rfl (by decide +kernel) (by decide +kernel))) (λ_ _ _ _ _ _=>(Kh (lU (Qj hr) (cI 2) (fK (aA (cI 0) (aA (cI 1) aH)))))) (λ_ _ _ _ _ _=>(Qm (lU (Bu hr) (cI 0) (cI 2)) (cI 1) (cI 0))))
 (aG (bQ (tY Tp.z3 gk (aA (Qy Tp.z9 gk (aA (gv 2) aH)) aH)))
 aM))
 t17:=fJ Tp.SJ N17 Zr λ_ _ _ _ _ _ hr=>(aG (bQ (m_ (au (top 27)) N17 ["place"] ["web"] [0] rfl rfl rfl (by decide +kernel) (by decide +kernel) (pq 0) (by decide +kernel) (vD Tp.qP gk (cV (gv 0) aL)) (λ_ _ _ _ _ _=>(pD 0 (by decide +kernel) rfl (by decide +kernel))) (λ_ _ _ _ _ _=>pC) (λ_ _ _ _ _ _=>(gc Fk.Tr Tp.K1 hr GP zU (aA (cI 1) (aA (cI 0) aH))))))
 aM)
 B_:=fJ Tp.zY ["web","ring","thing"] Zu λ_ _ _ _ _ _ hr=>(aG (vH (gc Fk.K9 Tp.HN hr bM gk (aA (gv 0) aH)))
 (aG (vH (gc Fk.t5 Tp.d5 hr bM gk (aA (gv 1) aH)))
 (aG (bQ (gc Fk.t20 Tp.SN hr bM gk (aA (gv 0) (aA (gv 1) (aA (gv 2) aH)))))
 aM)))
 t19:=fJ Tp.SM N19 Zv λ_ _ _ _ _ _ hr=>(aG (bQ (wX (gc Fk.t2 Tp.d2 hr bM gk (aA (gv 2) (aA (cV (gv 0) aL) aH))) (wW (Kg rfl Tp.z8 gk (aA (m_ (au (top 30)) N19 ["spot"] ["ring"] [1] rfl rfl rfl (by decide +kernel) (by decide +kernel) (pq 0) (by decide +kernel) (ql (gv 2)) (λ_ _ _ _ _ _=>(pD 0 (by decide +kernel) rfl (by decide +kernel))) (λ_ _ _ _ _ _=>pC) (λ_ _ _ _ _ _=>(gc Fk.t4 Tp.d4 hr GP zU (aA (cI 1) (aA (cI 0) aH))))) aH)))))
 aM)
 t20:=fJ Tp.SN ["web","ring","thing"] Zw λ_ _ _ _ _ _ hr=>(aG (bQ (wX (gc Fk.t19 Tp.SM hr bM gk (aA (gv 0) (aA (gv 1) (aA (gv 2) aH)))) (wW (W0 (gc Fk.t21 Tp.SQ hr bM gk (aA (gv 0) (aA (gv 1) (aA (gv 2) aH))))))))
 aM)
 t21:=fJ Tp.SQ ["web","ring","spots","one","other"] Zx λ_ _ _ _ _ _ hr=>(aG (vI vG rfl rfl (ql (cV (gv 0) aL)) (Qt 3 4 rfl rfl nd rfl rfl jl jl rfl rfl) (aG (fC (lU (Bv hr) (gc Fk.t6 Tp.d6 hr bM gk (aA (gv 1) (aA (cV (gv 2) (gv 3)) (aA (cV (gv 2) (gv 4)) aH)))) (cV (gv 1) aL)) (aG (bQ (fK (aA (gv 3) (aA (gv 4) aH))))
 aM) aM)
 aM))
 (aG (bQ zF)
 aM))
 t22:=zil (N:=["self","web","apart","alike"]) Tp.Tf.fn Zy (λ_ _ _ _ _ _ hr=>(Kw (j:=0) Tp.ow (gc Fk.t17 Tp.SJ hr bM gk (aA (gv 1) aH)) (Kw (j:=0) Tp.ow (zne rfl Tp.z3 gk Tp.qP gk (aA (vC Tp.z4 gk (aA (gv 2) aH)) aH)) (Kw (j:=0) Tp.ow (gv 2) (Kw (j:=0) Tp.ow (gv 3) zkv))))) (by show (4:Nat)<=900;decide)
 t23:=fM Tp.Ti ["self","spot","other"] Zz λ_ _ _ _ _ _ hr=>(aG (bQ (cV (cV (BW Tp.ow (gv 0)) (gv 1)) (gv 2)))
 aM)
 K_:=fM Tp.HW N24 ZC λ_ _ _ _ _ _ hr=>(aG (fQ 4 nd rfl jl rfl (zlP Tp.z12 gk (aA (gv 1) aH)))
 (aG (Km (gv 4) (gv 2) zF)
 (aG (vI vG rfl rfl (ql (cV (BW Tp.ow (gv 0)) (gv 2))) (BL 5 nd rfl jl rfl) (aG (fC (J_ (cV (gv 4) (gv 5))) (aG (Km (gv 4) (gv 5) (tY Tp.z3 gk (aA (m_ (au (Ax)) N24 ["other"] ["self","spot"] [0,3] rfl rfl rfl (by decide +kernel) (by decide +kernel) (pq 0) (by decide +kernel) (ql (cV (gv 4) (gv 5))) (λ_ _ _ _ _ _=>(pD 0 (by decide +kernel) rfl (by decide +kernel))) (λ_ _ _ _ _ _=>(Kh (jf (vO Tp.ow Tp.Ti Fk.t23 hr (cI 1) (aA (cI 2) (aA (cI 0) aH)))))) (λ_ _ _ _ _ _=>(cI 0))) aH)))
 aM) aM)
 aM))
 (aG (bQ (tY Tp.z3 gk (aA (gv 4) aH)))
 aM))))
 Tt:=fM Tp.K7 N25 ZD λ_ _ _ _ _ _ hr=>(aG (bQ (vC Tp.z4 gk (aA (m_ (au (Ay)) N25 ["end"] ["free"] [1] rfl rfl rfl (by decide +kernel) (by decide +kernel) (pq 0) (by decide +kernel) (ql (cV (BW Tp.ow (gv 0)) (gv 2))) (λ_ _ _ _ _ _=>(pD 0 (by decide +kernel) rfl (by decide +kernel))) (λ_ _ _ _ _ _=>(Kh (J_ (cV (cI 1) (cI 0))))) (λ_ _ _ _ _ _=>(cI 0))) aH)))
 aM)
 t26:=fM Tp.Tj N26 ZF λ_ _ _ _ _ _ hr=>(aG (bQ (tY Tp.z3 gk (aA (m_ (au (Az)) N26 ["place","spots"] ["self","free"] [0,1] rfl rfl rfl (by decide +kernel) (by decide +kernel) (GC 0 1) (by decide +kernel) (QB Tp.K6 gk (gv 1)) (λ_ _ _ _ _ _=>(Kl 0 1 rfl (by decide +kernel) rfl rfl (by decide +kernel) (by decide +kernel))) (λ_ _ _ _ _ _=>pC) (λ_ _ _ _ _ _=>(Qm (lU Qi (vO Tp.ow Tp.K7 Fk.Tt hr (cI 2) (aA (cI 3) (aA (cI 0) aH))) aL) (cI 1) zF))) aH)))
 aM)
 t27:=fM Tp.Tn ["self","free","ranks","place","spots"] ZG λ_ _ _ _ _ _ hr=>(aG (fQ 2 nd rfl jl rfl (vB aH))
 (aG (vI vG rfl rfl (QB Tp.K6 gk (gv 1)) (Qt 3 4 rfl rfl nd rfl rfl jl jl rfl rfl) (aG (fC (J_ (gv 4)) (aG (vH (Qo (gv 2) (fK (aA (vC Tp.z4 gk (aA (gv 4) aH)) (aA (znq (vO Tp.ow Tp.K7 Fk.Tt hr (gv 0) (aA (gv 1) (aA (gv 3) aH)))) (aA (gv 3) aH))))))
 aM) aM)
 aM))
 (aG (bQ (Qm (zmO (gv 2)) (cV (zkr hr rfl Tp.z5 gk (aA (gv 2) aH)) aL) zF))
 aM)))
 t28:=fM Tp.Tq N28 ZJ λ_ _ _ _ _ _ hr=>(aG (bQ (Kg rfl Tp.z8 gk (aA (m_ (au (A_)) N28 ["spots"] ["self"] [0] rfl rfl rfl (by decide +kernel) (by decide +kernel) (pq 0) (by decide +kernel) (ql (gv 1)) (λ_ _ _ _ _ _=>(pD 0 (by decide +kernel) rfl (by decide +kernel))) (λ_ _ _ _ _ _=>pC) (λ_ _ _ _ _ _=>(zn4 (W0 (cI 0)) (wW (Bw (Bu hr) (cI 0) (BW Tp.ow (cI 1))))))) aH)))
 aM)
 t29:=fR Tp.SX Ss ZK λ_ _ _ _ _ _ hr=>(aG (zN 2 3 rfl rfl nd rfl rfl jc jc rfl rfl (gv 1))
 (aG (fQ 4 nd rfl jc rfl (m_ (au (top 35)) Ss ["gap"] ["k","d"] [2,3] rfl rfl rfl (by decide +kernel) (by decide +kernel) (pq 0) (by decide +kernel) (vD Tp.qP gk (gv 2)) (λ_ _ _ _ _ _=>(pD 0 (by decide +kernel) rfl (by decide +kernel))) (λ_ _ _ _ _ _=>pC) (λ_ _ _ _ _ _=>(Bw WY (W4 rfl Tp.z5 zU (aA (cI 0) (aA (dG qL (cI 1) (cI 0)) aH))) (cI 2)))))
 (aG (bQ (zn7 Tp.mq Fk.t22 (Mi.bD.made hr _ _) Tp.Tf.bd Tp.mc gk (aA (gv 0) (aA (m_ (au (top 35)) Ss ["spot"] ["k","wide"] [2,4] rfl rfl rfl (by decide +kernel) (by decide +kernel) (pq 0) (by decide +kernel) (vD Tp.qP gk (gv 2)) (λ_ _ _ _ _ _=>(pD 0 (by decide +kernel) rfl (by decide +kernel))) (λ_ _ _ _ _ _=>pC) (λ_ _ _ _ _ _=>(zi2 ["spot","k","wide"] ["other"] ["wide","spot"] [2,0] rfl rfl (by decide +kernel) (by decide +kernel) (pq 0) (by decide +kernel) (vD Tp.qP zU (cI 1)) (λ_ _ _ _ _ _=>(pD 0 (by decide +kernel) rfl (by decide +kernel))) (λ_ _ _ _ _ _=>pC) (λ_ _ _ _ _ _=>(cV (cI 1) (dG qL (cI 2) (cI 0))))))) (aA lR aH)))))
 aM)))
 Tv:=fJ Tp.K3 N30 ZL λ_ _ _ _ _ _ hr=>(aG (vH (gc Fk.K9 Tp.HN hr bM gk (aA (gv 0) aH)))
 (aG (vH (gc Fk.t5 Tp.d5 hr bM gk (aA (gv 1) aH)))
 (aG (fQ 2 nd rfl jc rfl (gc Fk.t29 Tp.SX hr bM gk (aA (gv 0) (aA (gv 1) aH))))
 (aG (bQ (gc Fk.t31 Tp.S5 hr bM gk (aA (gv 2) (aA (m_ (au (top 37)) N30 ["place"] ["board"] [2] rfl rfl rfl (by decide +kernel) (by decide +kernel) (pq 0) (by decide +kernel) (vD Tp.qP gk (cV (gv 0) aL)) (λ_ _ _ _ _ _=>(pD 0 (by decide +kernel) rfl (by decide +kernel))) (λ_ _ _ _ _ _=>pC) (λ_ _ _ _ _ _=>(BW Tp.ow (cI 1)))) aH))))
 aM))))
 t31:=fJ Tp.S5 ["board","choices","free","answers","row","place","spot"] ZM λ_ _ _ _ _ _ hr=>(aG (fQ 2 nd rfl jl rfl (tY Tp.z3 gk (aA (gv 1) aH)))
 (aG (fQ 3 nd rfl jl rfl zlT)
 (aG (fC (mZ (jf (gc Fk.La Tp.HS hr bM gk (aA (gv 0) (aA (gv 3) (aA (gv 2) aH)))))) (aG (bQ zF)
 aM) aM)
 (aG (fQ 4 nd rfl jl rfl (vB aH))
 (aG (vI vG rfl rfl (vD Tp.qP gk (vC Tp.z4 gk (aA (gv 1) aH))) (BL 5 nd rfl jl rfl) (aG (fQ 6 nd rfl jl rfl (gc Fk.Tw Tp.K4 hr bM gk (aA (gv 0) (aA (gv 3) (aA (gv 2) (aA (gv 5) aH))))))
 (aG (fQ 2 nd rfl jl rfl (vO Tp.ow Tp.HW Fk.K_ hr (gv 0) (aA (gv 2) (aA (gv 5) (aA (gv 6) aH)))))
 (aG (vH (Qo (gv 4) (gv 6)))
 aM))))
 (aG (bQ (tY Tp.z3 gk (aA (gv 4) aH)))
 aM))))))
 Tw:=fJ Tp.K4 ["board","answers","free","place","spot"] Sq λ_ _ _ _ _ _ hr=>(aG (vI vG rfl rfl (ql (cV (gv 2) (gv 3))) (BL 4 nd rfl jl rfl) (aG (fC (jf (gc Fk.La Tp.HS hr bM gk (aA (gv 0) (aA (gv 1) (aA (vO Tp.ow Tp.HW Fk.K_ hr (gv 0) (aA (gv 2) (aA (gv 3) (aA (gv 4) aH)))) aH))))) (aG (bQ (gv 4))
 aM) aM)
 aM))
 (aG (bQ zF)
 aM))
 La:=fJ Tp.HS ["board","answers","free","rest"] ZP λ_ _ _ _ _ _ hr=>(aG (fC (lU (Qj hr) (fK aH) (gv 2)) (aG (bQ lR)
 aM) aM)
 (aG (fQ 3 nd rfl jl rfl (vO Tp.ow Tp.Tj Fk.t26 hr (gv 0) (aA (gv 2) aH)))
 (aG (fC (zkc hr (gv 3) (gv 1)) (aG (zkB hr (gv 1) (gv 3) (gc Fk.t34 Tp.S6 hr bM gk (aA (gv 0) (aA (gv 1) (aA (gv 3) aH)))))
 aM) aM)
 (aG (bQ (zlk hr (gv 1) (gv 3)))
 aM))))
 t34:=fJ Tp.S6 ["board","answers","free","place"] KY λ_ _ _ _ _ _ hr=>(aG (fQ 3 nd rfl jl rfl (vO Tp.ow Tp.Tn Fk.t27 hr (gv 0) (aA (gv 2) aH)))
 (aG (fC (W2 (gv 3)) (aG (bQ lR)
 aM) aM)
 (aG (fC (tX (zK (jf (BW Tp.ow (gv 0))) (zJ (jf (vO Tp.ow Tp.Tq Fk.t28 hr (gv 0) (aA (gv 2) aH)))))) (aG (bQ (gc Fk.La Tp.HS hr bM gk (aA (gv 0) (aA (gv 1) (aA (vO Tp.ow Tp.HW Fk.K_ hr (gv 0) (aA (gv 2) (aA (gv 3) (aA aL aH)))) aH)))))
 aM) aM)
 (aG (bQ (zkM (gc Fk.Tw Tp.K4 hr bM gk (aA (gv 0) (aA (gv 1) (aA (gv 2) (aA (gv 3) aH)))))))
 aM))))
 t35:=fJ Tp.S7 ["_law_script","_law_k"] ZQ λ_ _ _ _ _ _ hr=>(aG (fC (lU (Bv hr) (gv 1) (vC Tp.z4 gk (aA (gv 0) aH))) (aG (bQ (cV (gv 0) (gv 1)))
 aM) aM)
 (aG (bQ aL)
 aM))
 t36:=fJ Tp.S8 ["_law_cell_here","_law_left"] ZR λ_ _ _ _ _ _ hr=>(aG (fQ 1 nd rfl jl rfl (W3 rfl Tp.Te gk (aA (gv 0) (aA (dG qL aL (gv 0)) aH))))
 (aG (bQ (vB (aA (gv 1) (aA (zl6 Tp.z1 gk (aA (Bw WY (gv 1) (dG zml aL aL)) aH)) aH))))
 aM))
 sV:=fJ Tp.qO ["_law_pen_here","_law_many","_law_left","_law_found","_law_stir"] ZS λ_ _ _ _ _ _ hr=>(aG (fC (lU (Bu hr) (cV (gv 0) aL) aL) (aG (zN 2 3 rfl rfl nd rfl rfl jl jl rfl rfl (zhw Tp.z14 gk (aA (cV (gv 0) aL) (aA (gv 1) aH))))
 (aG (Km (gv 0) aL (gv 2))
 (aG (bQ (gv 3))
 aM))) aM)
 (aG (fQ 4 nd rfl jl rfl (dG Bt (dG zG (dG qK (dG Bt (cV (gv 0) aL) aL) aL) aL) aL))
 (aG (fQ 4 nd rfl jl rfl (dG Bt (dG qK (dG zG (gv 4) (gv 4)) aL) aL))
 (aG (Km (gv 0) aL (dG Bt (dG qK (dG zG (gv 4) aL) aL) aL))
 (aG (bQ (dG Bt (dG WW (cV (gv 0) aL) aL) (gv 1)))
 aM)))))
 t38:=fJ Tp.S9 ["_law_pen_here"] ZV λ_ _ _ _ _ _ hr=>(aG (bQ (cV (vB (aA aL (aA aL (aA aL (aA aL (aA aL (aA aL (aA aL (aA aL (aA aL (aA aL (aA aL (aA aL aH))))))))))))) (gc Fk.sV Tp.qO hr bM gk (aA (gv 0) (aA aL aH)))))
 aM)
 t39:=fJ Tp.S_ Sv ZW λ_ _ _ _ _ _ hr=>(aG (fQ 2 nd rfl jc rfl (cV (vB (aA aL (aA aL (aA aL aH)))) (gc Fk.sV Tp.qO hr bM gk (aA (gv 0) (aA aL aH)))))
 (aG (fQ 3 nd rfl jl rfl (vB aH))
 (aG (vI vG rfl rfl (vD Tp.qP gk (gv 1)) (BL 4 nd rfl jc rfl) (aG (fQ 3 nd rfl jl rfl (dG qK (gv 3) (m_ (au (top 47)) Sv ["_law_other"] ["_law_one","_law_pen_here","_law_often"] [4,0,2] rfl rfl rfl (by decide +kernel) (by decide +kernel) (pq 0) (by decide +kernel) (zn9 Tp.qP gk (dG qK (gv 4) aL) (gv 1)) (λ_ _ _ _ _ _=>(pD 0 (by decide +kernel) rfl (by decide +kernel))) (λ_ _ _ _ _ _=>(Kh (lU (Bv hr) (gc Fk.sV Tp.qO hr GP zU (aA (cI 2) (aA aL aH))) (cI 3)))) (λ_ _ _ _ _ _=>(fK (aA (cI 1) (aA (cI 0) aH)))))))
 aM))
 (aG (bQ (fK (aA (gv 1) (aA (tY Tp.z3 gk (aA (Qy Tp.z9 gk (aA (m_ (au (top 47)) Sv ["_law_one","_law_other"] ["_law_many"] [1] rfl rfl rfl (by decide +kernel) (by decide +kernel) (GC 0 1) (by decide +kernel) (ql (gv 3)) (λ_ _ _ _ _ _=>(Kl 0 1 rfl (by decide +kernel) rfl rfl (by decide +kernel) (by decide +kernel))) (λ_ _ _ _ _ _=>pC) (λ_ _ _ _ _ _=>(fK (aA (dG qL (dG qL (cI 2) aL) (cI 1)) (aA (dG qL (dG qL (cI 2) aL) (cI 0)) aH))))) aH)) aH)) aH))))
 aM))))
 t40:=fJ Tp.Tc ["_law_pen_here","_law_some","_law_k"] ZX λ_ _ _ _ _ _ hr=>(aG (fQ 1 nd rfl jl rfl (vB (aA (fK (aA aL (aA aL aH))) (aA (fK (aA aL (aA aL aH))) (aA (fK (aA aL (aA aL aH))) (aA (fK (aA aL (aA aL aH))) (aA (fK (aA aL (aA aL aH))) (aA (fK (aA aL (aA aL aH))) (aA (fK (aA aL (aA aL aH))) (aA (fK (aA aL (aA aL aH))) (aA (fK (aA aL (aA aL aH))) (aA (fK (aA aL (aA aL aH))) (aA (fK (aA aL (aA aL aH))) (aA (fK (aA aL (aA aL aH))) aH))))))))))))))
 (aG (fC (lU (Bu hr) (gc Fk.sV Tp.qO hr bM gk (aA (gv 0) (aA aL aH))) aL) (aG (fQ 2 nd rfl jl rfl (dG qK aL (dG Bt (gc Fk.sV Tp.qO hr bM gk (aA (gv 0) (aA aL aH))) aL)))
 (aG (bQ (fK (aA (gv 2) (aA (W3 rfl Tp.Te gk (aA aL (aA (dG WW (gc Fk.sV Tp.qO hr bM gk (aA (gv 0) (aA (gv 2) aH))) aL) aH))) aH))))
 aM)) aM)
 (aG (bQ (cV (gv 1) (gc Fk.sV Tp.qO hr bM gk (aA (gv 0) (aA aL aH)))))
 aM)))
 t41:=fJ Tp.Td N41 Z0 λ_ _ _ _ _ _ hr=>(aG (zN 4 5 rfl rfl nd rfl rfl jl jl rfl rfl (gv 2))
 (aG (fC (tX (zK (lU (Bv hr) (gv 4) aL) (zJ (mZ (jf (gc Fk.B_ Tp.zY hr bM gk (aA (gv 1) (aA (fK (aA (dG qK (gv 4) aL) (aA (gv 5) aH))) (aA (gv 3) aH))))))))) (aG (bQ lR)
 aM) aM)
 (aG (fC (tX (zK (lU Qi (gv 5) aL) (zJ (mZ (jf (gc Fk.B_ Tp.zY hr bM gk (aA (gv 1) (aA (fK (aA (gv 4) (aA (dG qL (gv 5) aL) aH))) (aA (gv 3) aH))))))))) (aG (bQ lR)
 aM) aM)
 (aG (fQ 6 nd rfl jc rfl (dG qK aL (gc Fk.sV Tp.qO hr bM gk (aA (gv 0) (aA aL aH)))))
 (aG (fQ 7 nd rfl jl rfl (fK (aA (dG zG (gv 6) (gv 4)) (aA (dG zG (gv 6) (gv 5)) aH))))
 (aG (fC (tX (zK (jf (gc Fk.t3 Tp.d3 hr bM gk (aA (gv 7) aH))) (zJ (mZ (jf (gc Fk.B_ Tp.zY hr bM gk (aA (gv 1) (aA (gv 7) (aA (tY Tp.z3 gk (aA (m_ (au (top 49)) N41 ["_law_spot"] ["_law_often"] [6] rfl rfl rfl (by decide +kernel) (by decide +kernel) (pq 0) (by decide +kernel) (ql (gv 3)) (λ_ _ _ _ _ _=>(pD 0 (by decide +kernel) rfl (by decide +kernel))) (λ_ _ _ _ _ _=>pC) (λ_ _ _ _ _ _=>(dG zG (cI 1) (cI 0)))) aH)) aH))))))))) (aG (bQ lR)
 aM) aM)
 (aG (fC (lU (J9 hr) (cV (gv 1) aL) (fK aH)) (aG (fQ 8 nd rfl jl rfl (gc Fk.sV Tp.qO hr bM gk (aA (gv 0) (aA (vC Tp.z4 gk (aA (cV (gv 1) aL) aH)) aH))))
 (aG (fQ 9 nd rfl jl rfl (fK (aA (cV (gv 1) aL) (aA (dG qK (Ka (cV (gv 1) aL) Qn (GD (gv 8))) (Ka (cV (gv 1) aL) (GD (dG qK (gv 8) aL)) Qn)) aH))))
 (aG (fC (mZ (jf (gc Fk.B_ Tp.zY hr bM gk (aA (gv 9) (aA (gv 2) (aA (gv 3) aH)))))) (aG (bQ lR)
 aM) aM)
 aM))) aM)
 (aG (bQ lR)
 aM))))))))
 t42:=fJ Tp.K5 Sw Z9 λ_ _ _ _ _ _ hr=>(aG (vI vG rfl rfl (ql (dG qK (vB (aA (gc Fk.t35 Tp.S7 hr bM gk (aA (gv 0) (aA aL aH))) aH)) (Ka (gv 0) (GD aL) (GD aL)))) (BL 1 nd rfl jl rfl) (aG (fQ 2 nd rfl jc rfl (gc Fk.t36 Tp.S8 hr bM gk (aA (gv 1) aH)))
 (aG (zN 3 4 rfl rfl nd rfl rfl jl jc rfl rfl (fK (aA (gc Fk.t39 Tp.S_ hr bM gk (aA (gv 2) (aA (gc Fk.t38 Tp.S9 hr bM gk (aA (gv 2) aH)) aH))) (aA (gc Fk.t40 Tp.Tc hr bM gk (aA (gv 2) aH)) aH))))
 (aG (fC (tX (zK (lU (Bu hr) (cV (gv 3) aL) aL) (zJ (lU Qi (cV (gv 4) aL) aL)))) (aG (fQ 4 nd rfl jc rfl (fK (aA aL (aA aL aH))))
 aM) aM)
 (aG (fQ 5 nd rfl jl rfl (gc Fk.Tv Tp.K3 hr bM gk (aA (gv 3) (aA (gv 4) aH))))
 (aG (fC (tX (zK (J_ (gv 5)) (zJ (mZ (jf (gc Fk.t41 Tp.Td hr bM gk (aA (gv 2) (aA (gv 3) (aA (gv 4) (aA (gv 5) aH)))))))))) (aG (bQ lR)
 aM) aM)
 (aG (fQ 6 nd rfl jl rfl (tY Tp.z3 gk (aA (m_ (au (top 50)) Sw ["_law_place"] ["_law_pen_here","_law_ring_here"] [2,4] rfl rfl rfl (by decide +kernel) (by decide +kernel) (pq 0) (by decide +kernel) (vD Tp.qP gk (cV (gv 3) aL)) (λ_ _ _ _ _ _=>(pD 0 (by decide +kernel) rfl (by decide +kernel))) (λ_ _ _ _ _ _=>pC) (λ_ _ _ _ _ _=>(gc Fk.sV Tp.qO hr GP zU (aA (cI 1) (aA (cV (cI 2) aL) aH))))) aH)))
 (aG (fC (tX (Ql (mZ (jf (gc Fk.B_ Tp.zY hr bM gk (aA (fK (aA (cV (gv 3) aL) (aA (fK aH) aH))) (aA (gv 4) (aA (gv 6) aH)))))) (Qk (lU (J9 hr) (gc Fk.Tv Tp.K3 hr bM gk (aA (fK (aA (cV (gv 3) aL) (aA (fK aH) aH))) (aA (gv 4) aH))) (dG zk8 (fK (aA aL aH)) (cV (gv 3) aL)))))) (aG (bQ lR)
 aM) aM)
 (aG (fC (lU (J9 hr) (gc Fk.t8 Tp.d8 hr bM gk (aA (cV (gv 3) aL) (aA (m_ (au (top 50)) Sw ["_law_tie"] [] [] rfl rfl rfl (by decide +kernel) (by decide +kernel) (pq 0) (by decide +kernel) (ql (Kc (cV (gv 3) aL))) (λ_ _ _ _ _ _=>(pD 0 (by decide +kernel) rfl (by decide +kernel))) (λ_ _ _ _ _ _=>pC) (λ_ _ _ _ _ _=>(Kc (cI 0)))) aH))) (gv 3)) (aG (bQ lR)
 aM) aM)
 (aG (fQ 7 nd rfl jl rfl aL)
 (aG (vI vG rfl rfl (vD Tp.qP gk (cV (gv 3) aL)) (BL 8 nd rfl jl rfl) (aG (fQ 7 nd rfl jl rfl (dG qK (gv 7) (vC Tp.z4 gk (aA (gc Fk.t9 Tp.d9 hr bM gk (aA (gv 3) (aA (gv 8) aH))) aH))))
 aM))
 (aG (fC (lU (J9 hr) (gv 7) (dG zG aL (vC Tp.z4 gk (aA (cV (gv 3) aL) aH)))) (aG (bQ lR)
 aM) aM)
 aM))))))))))))
 (aG (bQ lR)
 aM))
theorem zh3(Tp:Top K mg):∀k,Fs P w K mg base k
 |0=>⟨dz,dz,dz,dz,dz,dz,dz,dz,dz,dz,dz,dz,dz,dz,dz,dz,dz,dz,dz,dz,dz,dz,zhj,dz,dz,dz,dz,dz,dz,dz,dz,dz,dz,dz,dz,dz,dz,dz,dz,dz,dz,dz,dz⟩
 |k+1=>zjd Tp (zh3 Tp k)
end
theorem all_mk{l:PySem.W.OpenLaw}{w:World}{K:W.Frag}{h:Heap}{mg:Str->Option Value}{fa:Addr}(hm:∀ns:List Int,ns.length<=63->∃s',call aq T 60 true 42 [.d (.fl (ns.map D.int))] []=some (.ok (.d (.bl true)),s'))
  (S:pJ fs ms xs lk bd K) (X:K.In h) (G:h.Ns mainGlobals mg) (Tz:mg "law"=some (.ref fa)) :
  ∃fd:FuncData,(∀(s:Shared) (u:Value),BindsTo s fd ⟨[u],[]⟩ [("_law_script",u)])/\∀base:Heap,K.In base->base.Ns mainGlobals mg->bW l.prog w K mg base (fL l.prog w) true 60 fa fd ["_law_script"] (rT K):=by
 have Tp:Top K mg:=zlE S X G;have e:=Tz.symm.trans Tp.K5.m;cases e;exact⟨_,zO Tp.K5.f (λ_ _ _ _ _ _ _=>rfl),λbase _ _=>(zh3 Tp 60).t42.imp (zjm hm)⟩
end dM
namespace dM
open PySem Mi
theorem zdQ{k:Nat}{n i:Int}{ps:List (Int×Int)}(h:Web n ps):W (call aq T (k+1) true 16 [.d (bJ n ps),.d (.int i)]) [] λv s=>v=.d (.tup ((aQ i ps).map .int)):=by
 refine W.call Zq rfl ?_;unfold RB bJ;have hl:(ps.map bN).length<=100:=by rw[bV];have:=h.len;have:=h.h8;lia
 have hs:(100:Nat)<=sizeLine:=by decide
 refine Y ?_;refine pG (l:=ps) (f:=bN) (λp=>(endOf i p).map .int) (by rw[bV] at hl;lia) ?_ (λp hp=>?_) ?_
 ·refine Y ?_;exact⟨rfl,rfl⟩
 ·obtain⟨a,b⟩:=p;refine Y ?_;refine⟨rfl,λhb=>?_,λhb=>?_⟩
  ·refine Y ?_;refine W.ite (λh1=>?_) (λh1=>?_)
   ·refine Y ?_;refine⟨rfl,_,rfl,?_⟩;have h1:a=i:=by simpa using h1
    simp[endOf,h1]
   ·refine Y ?_;refine⟨rfl,_,rfl,?_⟩;simp[oJ] at h1 hb;rcases hb with hb|hb
    ·exact absurd hb h1
    ·simp[endOf,h1,hb]
  ·simp[oJ] at hb;simp[endOf,hb]
 ·have he:ps.filterMap (λp=>(endOf i p).map D.int)=(aQ i ps).map D.int:=by unfold aQ;rw[List.map_filterMap]
  rw[he];refine Y ?_;refine BR (Q6 (zgV ?_ (XM h i))) ?_
  ·have:=Lh (endOf i) ps;have:=h.len;have:=h.h8;unfold aQ
   lia
  exact Y trivial
section
variable {n k:Nat}{es:Nat->List Int}{A:Int->Int->Bool}{F:Fr}{p:Nat}{x y:Int}
theorem zmk{k':Nat}(hx:0<=x/\x<k)(hy:0<=y/\y<k):W (call aq T (k'+1) true 23 [.d (iR n k es A),.d (.int x),.d (.int y)]) [] λv s=>v=.d (.bl (A x y)):=by
 refine W.call Zz rfl ?_;unfold RN iR;refine Y ?_;refine fU (tZ hx.1 (zmV hx.1 hx.2)) ?_;refine Y ?_;refine fU (tZ hy.1 (Rr hy.1 hy.2)) ?_;exact Y trivial
theorem HX{k':Nat}(B:Bo n k es A)(v:Fv n k F)(hp:p<n)(hx:0<=x/\x<k):W (call aq T (k'+2) true 24 [.d (iR n k es A),.d (iQ F),.d (.int p),.d (.int x)]) [] λv s=>v=.d (iQ (settle es A F p x)):=by
 refine W.call ZC rfl ?_;unfold RP iQ;have sW:(100:Nat)<=sizeLine:=by decide
 have hn:=B.hn;have hv:=v.len;have ebo:iR n k es A=.ob 0 [.fl (zX n es),.tup ((fW k).map .int),.fl (ug k A),.bl true]:=rfl;refine Y ?_;refine KaW rfl ?_;refine Y ?_;refine⟨_,YT (by lia) (by rw[bV];lia),?_⟩;refine Y ?_;refine fU (tZ (by lia) (Y0 (by lia))) ?_;refine Y ?_;refine zP (λi J s=>s=[.lst ((((es p).take i).foldl (eY (A x)) (F.set p none)).map bC)]/\∃a5:Option Xv,J=[some (.d (iR n k es A)),some (.d (.tup (F.map bC))),some (.d (.int p)),some (.d (.int x)),some (.l 0),a5]) ⟨?_,_,rfl⟩ (λi z J s e hI=>?_) (λJ s hI=>?_)
 ·show [SO.lst ((F.map bC).set p .non)]=_;rw[List.take_zero,List.foldl_nil,List.map_set];rfl
 ·obtain⟨rfl,a5,rfl⟩:=hI;rw[gD] at e;cases ei:(es p)[i]? with
  |none=>
   rw[m9,ei] at e;cases e
  |some q=>
   rw[m9,ei] at e;cases e;have hq:=B.mem p hp q (eZ ei);have ht:(es p).take (i+1)=(es p).take i++[q]:=by rw[CP,ei];rfl
   rw[ht,List.foldl_append,IV,List.foldl_nil];have hG:(((es p).take i).foldl (eY (A x)) (F.set p none)).length=n:=by rw[Rm,nF,hv]
   have lo:∀L,(((es p).take i).foldl (eY (A x)) (F.set p none))[q.toNat]?=some (some L)->(∀y∈L,0<=y/\y<k)/\L.length<=24:=λL hL=>by
    rw[Rn q.toNat (λe he=>(B.mem p hp e (List.mem_of_mem_take he)).1) (by rw[nF];lia),qx (by lia)] at hL;have hz:∀L',F[q.toNat]?=some (some L')->(∀y∈L',0<=y/\y<k)/\L'.length<=24:=λL' h=>⟨v.lo _ L' h,v.ll _ L' h⟩;split at hL
    ·obtain⟨c,e1,e2⟩:=j_.mp hL;cases c with
     |none=>cases e2
     |some L'=>
      cases e2;exact⟨λy hy=>(hz L' e1).1 y (ux.mp hy).1,jO (List.length_filter_le _ _) (hz L' e1).2⟩
    ·exact hz L hL
   generalize ((es p).take i).foldl (eY (A x)) (F.set p none)=G at hG lo ⊢;obtain⟨c,ec⟩ : ∃c,G[q.toNat]?=some c:=⟨_,cT (by lia)⟩;refine Y ?_;refine fU (tZ hq.1 (Hy ec)) ?_;refine Y ?_;cases c with
   |none=>
    refine Y ?_;exact⟨_,rfl,by rw[zgX ec],_,rfl⟩
   |some L=>
    obtain⟨l1,l2⟩:=lo L ec;refine Y ?_;refine pG (l:=L) (f:=D.int) (λy=>if A x y=true then some (.int y) else none) (by lia) ?_ (λy hy=>?_) ?_
    ·refine Y ?_;refine fU (tZ hq.1 (Hy ec)) ?_;show W (src (.d (.tup (L.map .int)))) _ _;refine Y ?_;exact⟨rfl,rfl⟩
    ·refine Y ?_;refine W.cm rfl rfl (W.c0 (zmk hx (l1 y hy)) ?_);refine Y ?_;refine⟨rfl,λhb=>?_,λhb=>?_⟩
     ·refine Y ?_;exact⟨rfl,_,rfl,by rw[if_pos hb]⟩
     ·rw[if_neg (by rw[hb];decide)]
    ·rw[Y4 (α:=Unit)];refine Y ?_;refine⟨_,YT hq.1 (by rw[bV];lia),?_⟩;refine Y ?_;refine⟨_,rfl,?_,_,rfl⟩;rw[zio,ec];rfl
 ·obtain⟨rfl,a5,rfl⟩:=hI;rw[bV,m9,xT];refine Y ?_;rfl
theorem zhQ{k':Nat}(B:Bo n k es A)(v:Fv n k F)(hp:p<n):W (call aq T (k'+1) true 25 [.d (iR n k es A),.d (iQ F),.d (.int p)]) [] λv s=>v=.d (.int (c7 es F p)):=by
 refine W.call ZD rfl ?_;unfold RQ iQ iR;have sW:(100:Nat)<=sizeLine:=by decide
 have hn:=B.hn;have hv:=v.len;have hl:=B.len p hp;refine Y ?_;refine pG (l:=es p) (f:=D.int) (λe=>if ((λe:Int=>(F[e.toNat]?.join).isSome) e)=true then some (.int e) else none) (by lia) ?_ (λe he=>?_) ?_
 ·refine Y ?_;refine fU (tZ (by lia) (Y0 (by lia))) ?_;rw[m9];refine Y ?_;exact⟨rfl,rfl⟩
 ·have hq:=B.mem p hp e he;obtain⟨c,ec⟩ : ∃c,F[e.toNat]?=some c:=⟨_,cT (by lia)⟩;refine Y ?_;refine fU (tZ hq.1 (Hy ec)) ?_;refine Y ?_;have hc:(F[e.toNat]?.join).isSome=c.isSome:=by rw[ec];rfl
  have hd:(!(bC c).mO)=c.isSome:=by cases c<;>rfl
  rw[hd];refine⟨rfl,λhb=>?_,λhb=>?_⟩
  ·refine Y ?_;exact⟨rfl,_,rfl,if_pos (hc.trans hb)⟩
  ·exact if_neg (λz=>by rw[hc.symm.trans z] at hb;cases hb)
 ·rw[Y4 (α:=Unit)];refine Y ?_;show Xv.d (.int (((((es p).filter _).map D.int).length:Nat):Int))=_;rw[bV];rfl
theorem zjr{k':Nat}(B:Bo n k es A)(v:Fv n k F):W (call aq T (k'+2) true 26 [.d (iR n k es A),.d (iQ F)]) [] λv s=>v=.d (iQ (bnd es F)):=by
 refine W.call ZF rfl ?_;unfold RT;have sW:(100:Nat)<=sizeLine:=by decide
 have hn:=B.hn;have hv:=v.len;refine Y ?_;refine pG (l:=F.zipIdx 0) (f:=λq=>.tup [.int q.2,bC q.1]) (λq=>some (bC (if 0<c7 es F q.2 then q.1 else none))) (by rw[List.length_zipIdx];lia) ?_ (λq hq=>?_) ?_
 ·refine Xx ?_;refine Y ?_;refine YQ ?_;rw[YS];exact⟨rfl,rfl⟩
 ·obtain⟨c,i⟩:=q;have hi:i<n:=by
   have:=List.mem_zipIdx hq
   lia
  refine Y ?_;refine⟨rfl,λ_=>?_,λhb=>by cases hb⟩;refine Y ?_;refine W.cm rfl rfl (W.c0 (zhQ B v hi) ?_);refine Y ?_;refine W.ite (λh1=>?_) (λh1=>?_)
  ·refine Y ?_;have h1:0<c7 es F i:=by simpa using h1
   exact⟨rfl,_,rfl,by rw[if_pos h1]⟩
  ·refine Y ?_;have h1:¬0<c7 es F i:=by simpa using h1
   exact⟨rfl,_,rfl,by rw[if_neg h1];rfl⟩
 ·rw[t_];refine Y ?_;show Xv.d (.tup _)=_;unfold iQ bnd;rw[List.mapIdx_eq_zipIdx_map,uE];rfl
end
section
variable {n k:Nat}{es:Nat->List Int}{A:Int->Int->Bool}{F:Fr}{p:Nat}{x y:Int}
theorem TF{k':Nat}(B:Bo n k es A)(v:Fv n k F):W (call aq T (k'+2) true 27 [.d (iR n k es A),.d (iQ F)]) [] λv s=>(v=.d .non/\∀(i:Nat) L,F[i]?≠some (some L))\/∃(p:Nat) (L:List Int),v=.d (.int p)/\F[p]?=some (some L):=by
 refine W.call ZG rfl ?_;unfold RV;have sW:(100:Nat)<=sizeLine:=by decide
 have hn:=B.hn;have hv:=v.len;refine Y ?_;refine YQ ?_;refine zP (λi J s=>∃(rs:List (List Int)) (a3 a4:Option Xv),s=[.lst (rs.map λr=>D.tup (r.map .int))]/\J=[some (.d (iR n k es A)),some (.d (iQ F)),some (.l 0),a3,a4]/\rs.length<=i/\(∀r∈rs,∃(a b:Int) (p:Nat) (L:List Int),r=[a,b,(p:Int)]/\F[p]?=some (some L))/\(rs=[]->∀j,j<i->∀L,F[j]?≠some (some L))) ⟨[],_,_,rfl,rfl,bI _,by simp,λ_ j hj=>absurd hj (by lia)⟩ (λi z J s e hI=>?_) (λJ s hI=>?_)
 ·obtain⟨rs,a3,a4,rfl,rfl,hl,h1,h2⟩:=hI;rw[QX,gD] at e;cases ei:F[i]? with
  |none=>rw[ei] at e;cases e
  |some c=>
   rw[ei] at e;cases e;have hi:i<n:=by have:=(dX.mp ei).1;lia
   cases c with
   |none=>
    refine Y ?_;refine⟨_,rfl,rs,_,_,rfl,rfl,by lia,h1,λer j hj L=>?_⟩;by_cases z:j=i
    ·rw[z,ei];exact λq=>by cases q
    ·exact h2 er j (by lia) L
   |some L=>
    refine Y ?_;refine W.cm rfl rfl (W.c0 (zhQ (p:=0+i) B v (by lia)) ?_);refine Y ?_;refine⟨by rw[bV];lia,?_⟩;refine Y ?_;refine⟨_,rfl,rs++[[(((L.map D.int).length:Nat):Int),-(c7 es F (0+i):Int),((0+i:Nat):Int)]],_,_,?_,rfl,by simp;lia,λr hr=>?_,λer=>by simp at er⟩
    ·rw[vY];rfl
    ·rcases nD.mp hr with hr|hr
     ·exact h1 r hr
     ·rw[Cu.mp hr];exact⟨_,_,i,L,by rw[Nat.zero_add],ei⟩
 ·obtain⟨rs,a3,a4,rfl,rfl,hl,h1,h2⟩:=hI;rw[QZ,bV] at h2;refine Y ?_;refine W.Bj ?_;refine Y ?_;refine⟨_,rfl,?_⟩;by_cases er:rs=[]
  ·subst er;refine Y ?_;refine .inl ⟨rfl,λi L e=>?_⟩;exact h2 rfl i (dX.mp e).1 L e
  ·have et:(!(rs.map λr=>D.tup (r.map .int)).isEmpty)=true:=by
    cases rs with
    |nil=>exact absurd rfl er
    |cons=>rfl
   rw[et];obtain⟨r,hr,em⟩:=zlU er;refine Y ?_;refine fU em ?_;obtain⟨a,b,p,L,rfl,ep⟩:=h1 r hr;refine Y ?_;exact .inr ⟨p,L,rfl,ep⟩
noncomputable def Ca(k:Nat):Option (List Int)->Bool
 |none=>true
 |some L=>decide (L=fW k)
theorem zc5{k':Nat}(B:Bo n k es A)(v:Fv n k F):W (call aq T (k'+1) true 28 [.d (iR n k es A),.d (iQ F)]) [] λv s=>v=.d (.bl (F.all (Ca k))):=by
 refine W.call ZJ rfl ?_;unfold RW;have sW:(100:Nat)<=sizeLine:=by decide
 have hn:=B.hn;have hv:=v.len;refine Y ?_;refine pG (l:=F) (f:=bC) (λc=>some (.bl (Ca k c))) (by lia) ?_ (λc hc=>?_) ?_
 ·refine Y ?_;show W (src (.d (.tup (F.map bC)))) _ _;refine Y ?_;exact⟨rfl,rfl⟩
 ·cases c with
  |none=>
   refine Y ?_;refine⟨rfl,λ_=>?_,λhb=>by cases hb⟩;refine Y ?_;exact⟨rfl,_,rfl,rfl⟩
  |some L=>
   refine Y ?_;refine⟨rfl,λ_=>?_,λhb=>by cases hb⟩;refine Y ?_;refine fU (YX (f:=id)) ?_;exact⟨rfl,_,rfl,rfl⟩
 ·rw[t_];refine Y ?_;refine fU zkh ?_;rfl
end
section
variable {n k d:Int}{ps:List (Int×Int)}
theorem zfk{k':Nat}(h:Web n ps):W (call aq T (k'+2) true 17 [.d (bJ n ps)]) [] λv s=>v=.d (.fl (zX n.toNat λi=>aQ i ps)):=by
 refine W.call Zr rfl ?_;unfold RD;have sW:(100:Nat)<=sizeLine:=by decide
 have h1:=h.h1;have h8:=h.h8;refine Y ?_;refine pG (l:=List.range (n-0).toNat) (f:=λ(j:Nat)=>.int (0+j)) (λ(i:Nat)=>some (.tup ((aQ i ps).map .int))) (by rw[nu];lia) ?_ (λj hj=>?_) ?_
 ·unfold bJ;refine Y ?_;refine⟨by rw[j8 (by lia) (by lia),j8 (by lia) (by lia)];rfl,?_⟩;exact⟨rfl,rfl⟩
 ·refine Y ?_;refine⟨rfl,λ_=>?_,λhb=>by cases hb⟩;refine Y ?_;refine W.c0 (zdQ h) ?_;exact⟨rfl,_,rfl,by rw[show (0:Int)+j=j by lia]⟩
 ·rw[show (List.range (n-0).toNat).filterMap (λ(i:Nat)=>some (D.tup ((aQ i ps).map .int)))=zX n.toNat λi=>aQ i ps by rw[t_,show n-0=n by lia];rfl];exact Y trivial
theorem zlA{k':Nat}{A:Int->Int->Bool}(h:Web n ps){m:Nat}(hm:m<=24):W (call aq T (k'+3) true 22 [.d .any,.d (bJ n ps),.d (.fl (ug m A)),.d (.bl true)]) [] λv s=>v=.d (.tup [.fl (zX n.toNat λi=>aQ i ps),.tup ((fW m).map .int),.fl (ug m A),.bl true]):=by
 refine W.call Zy rfl ?_;unfold RM;refine Y ?_;refine W.c0 (zfk h) ?_;have em:(ug m A).length=m:=by unfold ug;simp
 refine Xn (Xw (ds:=[.int ((ug m A).length:Nat)]) rfl (fU (d:=.tup ((fW m).map .int)) (by rw[em];exact zmY (by lia)) ?_));exact Y trivial
theorem ziN{k':Nat}(h:Web n ps)(hd:1<=d)(Cd:d<=k)(hk:k<=24):W (call aq T (k'+4) true 29 [.d (bJ n ps),.d (aY k d)]) [] λv s=>v=.d (iR n.toNat k.toNat (λi=>aQ i ps) (cX k d)):=by
 refine W.call ZK rfl ?_;unfold RX aY;have sW:(100:Nat)<=sizeLine:=by decide
 have e0:(k-0).toNat=k.toNat:=by lia
 refine Y ?_;refine pG (l:=List.range (k-0).toNat) (f:=λ(j:Nat)=>.int (0+j)) (λ(j:Nat)=>some (.bl ((λj:Int=>decide (d<=j/\d<=k-j)) j))) (by rw[nu];lia) ?_ (λj hj=>?_) ?_
 ·refine Y ?_;refine⟨by rw[j8 (by lia) (by lia),j8 (by lia) (by lia)];rfl,?_⟩;exact⟨rfl,rfl⟩
 ·refine Y ?_;refine⟨rfl,λ_=>?_,λhb=>by cases hb⟩;refine Y ?_;refine⟨rfl,_,rfl,?_⟩
  congr 2
  rw[tD]
  split<;>lia
 ·rw[t_,e0];refine Y ?_;refine W.mk (vs:=[.d (bJ n ps),.d (.fl (ug k.toNat (cX k d))),.d (.bl true)]) ?_ rfl (zlA h (by lia));refine Y ?_;refine pG (l:=List.range (k-0).toNat) (f:=λ(j:Nat)=>.int (0+j)) (λ(a:Nat)=>some (.fl ((List.range k.toNat).map λ(b:Nat)=>.bl (cX k d a b)))) (by rw[nu];lia) ?_ (λa ha=>?_) ?_
  ·refine Y ?_;refine⟨by rw[j8 (by lia) (by lia),j8 (by lia) (by lia)];rfl,?_⟩;exact⟨rfl,rfl⟩
  ·have ha:=uz.mp ha;refine Y ?_;refine⟨rfl,λ_=>?_,λhb=>by cases hb⟩;refine Y ?_;refine pG (l:=List.range (k-0).toNat) (f:=λ(j:Nat)=>.int (0+j)) (λ(b:Nat)=>some (.bl (cX k d a b))) (by rw[nu];lia) ?_ (λb hb=>?_) ?_
   ·refine Y ?_;refine⟨by rw[j8 (by lia) (by lia),j8 (by lia) (by lia)];rfl,?_⟩;exact⟨rfl,rfl⟩
   ·have hb:=uz.mp hb;refine Y ?_;refine⟨rfl,λ_=>?_,λhb=>by cases hb⟩;refine Y ?_;by_cases c:(0:Int)<=(0+a:Int)-(0+b)
    ·refine fU (tZ c (Rr (f:=λj=>decide (d<=j/\d<=k-j)) c (by lia))) ?_;refine⟨rfl,_,rfl,?_⟩;unfold cX
     congr 2
     rw[tD,qM hd]
     lia
    ·refine fU (zmq (x:=.bl (decide (d<=a-b+k/\d<=k-(a-b+k)))) (by lia) (by rw[bV,nu];lia) ?_) ?_
     ·rw[bV,nu];refine(Rr (f:=λj=>decide (d<=j/\d<=k-j)) (by lia) (by lia)).trans ?_
      congr 3
      simp
      lia
     ·refine⟨rfl,_,rfl,?_⟩;unfold cX
      congr 2
      rw[tD,qM hd]
      lia
   ·rw[t_,e0];refine Y ?_;exact⟨rfl,_,rfl,rfl⟩
  ·rw[t_,e0];refine Y ?_;exact⟨rfl,rfl⟩
end
section
variable {n k:Nat}{es:Nat->List Int}{A:Int->Int->Bool}
def Told(n k:Nat)(es:Nat->List Int)(A:Int->Int->Bool)(f l m c:Nat):Prop:=∀F kvs,Fv n k F->unset F<=m->jM es A kvs->kvs.length+c<sizeLine->
 W (call aq T l true f [.d (iR n k es A),.l 0,.d (iQ F)]) [.dct kvs] λv s=>∃b kvs',v=.d (.bl b)/\(b=true↔Sat es A F)/\s=[.dct kvs']/\jM es A kvs'/\kvs'.length<=kvs.length+c
theorem zh7{l m c:Nat}(B:Bo n k es A)(H:Told n k es A 33 (l+2) m c){F:Fr}{p:Nat}{L:List Int}{kvs:g8}(v:Fv n k F)(hu:unset F<=m+1)(hL:F[p]?=some (some L))(ha:jM es A kvs)(hl:kvs.length+k*c<sizeLine) :
  W (call aq T (l+3) true 32 [.d (iR n k es A),.l 0,.d (iQ F),.d (.int p)]) [.dct kvs] λv s=>∃kvs',s=[.dct kvs']/\jM es A kvs'/\kvs'.length<=kvs.length+k*c /\
   ((v=.d .non/\∀x∈L,¬Sat es A (settle es A F p x))\/∃x∈L,v=.d (.int x)/\Sat es A (settle es A F p x)/\∀y∈L,y<x->¬Sat es A (settle es A F p y)):=by
 refine W.call Sq rfl ?_;unfold KR;have sW:(100:Nat)<=sizeLine:=by decide
 have hp:=pL v.len hL;have hLk:L.length<=k:=Y5 (v.so p L hL) (v.lo p L hL);refine Y ?_;refine fU (X7 (by lia) (Hy hL)) ?_;show W (src (.d (.tup (L.map .int)))) _ _;refine Y ?_;refine Q8 (λi J s=>∃(kvs':g8) (a4:Option Xv),s=[.dct kvs']/\J=[some (.d (iR n k es A)),some (.l 0),some (.d (iQ F)),some (.d (.int p)),a4]/\jM es A kvs'/\kvs'.length<=kvs.length+i*c/\∀j y,j<i->L[j]?=some y->¬Sat es A (settle es A F p y)) ⟨kvs,_,rfl,rfl,ha,by lia,λj _ hj=>absurd hj (by lia)⟩ (λi z J s e hI=>?_) (λJ s hI=>?_)
 ·obtain⟨kvs',a4,rfl,rfl,h1,h2,h3⟩:=hI;rw[gD] at e;cases ei:L[i]? with
  |none=>rw[ei] at e;cases e
  |some x=>
   rw[ei] at e;cases e;have hi:i<L.length:=(dX.mp ei).1;have hx:=eZ ei;have hc:(i+1)*c<=k*c:=Ii _ (by lia);have oR:(i+1)*c=i*c+c:=Nat.succ_mul ..;refine Y ?_;refine W.cm rfl rfl (W.c0 (HX B v hp (v.lo p L hL x hx)) ?_);refine Y ?_;have hu2:=Hx (es:=es) (A:=A) (x:=x) hL;refine pH (s:=[]) rfl ((H _ kvs' (Hw B v hp) (by lia) h1 (by lia)).imp λv1 s1=>?_);rintro⟨b,dI,rfl,hb,rfl,g1,g2⟩;refine⟨_,_,rfl,rfl,?_⟩;refine Y ?_;cases b with
   |true=>
    refine Y ?_;refine .inr ⟨_,rfl,?_⟩;refine⟨dI,rfl,g1,by lia,.inr ⟨x,hx,rfl,hb.mp rfl,λy hy dh=>?_⟩⟩;obtain⟨j,hj,ej⟩:=vV hy;refine h3 j y ?_ (by rw[cT hj,ej]);obtain⟨_,ex⟩:=dX.mp ei;exact Nat.lt_of_not_le λq=>by
     rcases Nat.lt_or_eq_of_le q with q|q
     ·have:=Ie.mp (v.so p L hL) i j hi hj q
      lia
     ·subst q;lia
   |false=>
    refine Y ?_;refine .inl ⟨_,rfl,dI,_,rfl,rfl,g1,by lia,λj y hj ej=>?_⟩;by_cases q:j=i
    ·subst q;rw[ei] at ej;cases ej;exact λz=>by cases hb.mpr z
    ·exact h3 j y (by lia) ej
 ·obtain⟨kvs',a4,rfl,rfl,h1,h2,h3⟩:=hI;rw[bV] at h2 h3;have hc:L.length*c<=k*c:=Ii _ hLk;refine Y ?_;refine⟨kvs',rfl,h1,by lia,.inl ⟨rfl,λx hx=>?_⟩⟩;obtain⟨j,hj,ej⟩:=vV hx;exact h3 j x hj (by rw[cT hj,ej])
theorem zhc{l:Nat}(B:Bo n k es A):Told n k es A 34 (l+3) 0 0:=by
 intro F kvs v hu ha hl;refine W.call KY rfl ?_;unfold HD;refine Y ?_;refine W.cm rfl rfl (nj rfl ((TF B v).imp λx s=>?_));rintro(⟨rfl,hz⟩|⟨p,L,rfl,hL⟩)
 ·refine⟨_,rfl,?_⟩;refine Y ?_;exact⟨true,kvs,rfl,⟨λ_=>Ro hz,λ_=>rfl⟩,rfl,ha,by lia⟩
 ·exact absurd hL (zeF (by lia) p L)
theorem zhg{l m c:Nat}(B:Bo n k es A)(lN:1<=k)(dH:∀t a b:Int,0<=a->a<k->0<=b->b<k->A ((a+t)%k) ((b+t)%k)=A a b)(H:∀j,Told n k es A 33 (l+2+j) m c):Told n k es A 34 (l+4) (m+1) (k*c):=by
 intro F kvs v hu ha hl;refine W.call KY rfl ?_;unfold HD;have hkc:1*c<=k*c:=Ii _ lN;refine Y ?_;refine W.cm rfl rfl (nj rfl ((TF B v).imp λx s=>?_));rintro(⟨rfl,hz⟩|⟨p,L,rfl,hL⟩)
 ·refine⟨_,rfl,?_⟩;refine Y ?_;exact⟨true,kvs,rfl,⟨λ_=>Ro hz,λ_=>rfl⟩,rfl,ha,by lia⟩
 ·refine⟨_,rfl,?_⟩;have hp:=pL v.len hL;refine Y ?_;refine W.cm rfl rfl (W.c0 (zc5 B v) ?_);refine Y ?_;cases eb:F.all (Ca k) with
  |true=>
   have all:∀(i:Nat) L,F[i]?=some (some L)->L=fW k:=λi L h=>jN (ji.mp eb _ (eZ h));refine Y ?_;refine W.cm rfl rfl (W.c0 (HX B v hp ⟨by lia,by lia⟩) ?_);refine Y ?_;have hu2:=Hx (es:=es) (A:=A) (x:=0) hL;refine pH (s:=[]) rfl ((H 1 _ kvs (Hw B v hp) (by lia) ha (by lia)).imp λv1 s1=>?_);rintro⟨b,dI,rfl,hb,rfl,g1,g2⟩;refine⟨_,_,rfl,rfl,?_⟩;refine Y ?_;exact⟨b,dI,rfl,hb.trans (Rp B v hp lN dH all (all p L hL▸hL)).symm,rfl,g1,by lia⟩
  |false=>
   refine Y ?_;refine pH (s:=[]) rfl ((zh7 B (H 0) v hu hL ha (by lia)).imp λv1 s1=>?_);rintro⟨dI,rfl,g1,g2,h⟩;rcases h with ⟨rfl,tR⟩|⟨x,hx,rfl,hs,_⟩
   ·refine⟨_,_,rfl,rfl,?_⟩;refine Y ?_;refine⟨false,dI,rfl,⟨λz=>(by cases z),λz=>?_⟩,rfl,g1,g2⟩;obtain⟨x,hx,q⟩:=(KH B v hp hL).mp z;exact absurd q (tR x hx)
   ·refine⟨_,_,rfl,rfl,?_⟩;refine Y ?_;exact⟨true,dI,rfl,⟨λ_=>(KH B v hp hL).mpr ⟨x,hx,hs⟩,λ_=>rfl⟩,rfl,g1,g2⟩
theorem zgQ{l m c:Nat}(B:Bo n k es A)(lN:1<=k)(dH:∀t a b:Int,0<=a->a<k->0<=b->b<k->A ((a+t)%k) ((b+t)%k)=A a b)(H:Told n k es A 33 (l+3) m c){F:Fr}{kvs:g8}(v:Fv n k F)(hu:unset F<=m+1)(eb:F.all (Ca k)=true)(ha:jM es A kvs)(hl:kvs.length+c<sizeLine) :
  W (call aq T (l+4) true 34 [.d (iR n k es A),.l 0,.d (iQ F)]) [.dct kvs] λv s=>∃b kvs',v=.d (.bl b)/\(b=true↔Sat es A F)/\s=[.dct kvs']/\jM es A kvs'/\kvs'.length<=kvs.length+c:=by
 refine W.call KY rfl ?_;unfold HD;refine Y ?_;refine W.cm rfl rfl (nj rfl ((TF B v).imp λx s=>?_));rintro(⟨rfl,hz⟩|⟨p,L,rfl,hL⟩)
 ·refine⟨_,rfl,?_⟩;refine Y ?_;exact⟨true,kvs,rfl,⟨λ_=>Ro hz,λ_=>rfl⟩,rfl,ha,by lia⟩
 ·refine⟨_,rfl,?_⟩;have hp:=pL v.len hL;refine Y ?_;refine W.cm rfl rfl (W.c0 (zc5 B v) ?_);refine Y ?_;have all:∀(i:Nat) L,F[i]?=some (some L)->L=fW k:=λi L h=>jN (ji.mp eb _ (eZ h));rw[eb];refine Y ?_;refine W.cm rfl rfl (W.c0 (HX B v hp ⟨by lia,by lia⟩) ?_);refine Y ?_;have hu2:=Hx (es:=es) (A:=A) (x:=0) hL;refine pH (s:=[]) rfl ((H _ kvs (Hw B v hp) (by lia) ha (by lia)).imp λv1 s1=>?_);rintro⟨b,dI,rfl,hb,rfl,g1,g2⟩;refine⟨_,_,rfl,rfl,?_⟩;refine Y ?_;exact⟨b,dI,rfl,hb.trans (Rp B v hp lN dH all (all p L hL▸hL)).symm,rfl,g1,by lia⟩
theorem zkY{l c:Nat}(B:Bo n k es A){F:Fr}{kvs:g8}(v:Fv n k F)(ha:jM es A kvs)(hl:kvs.length+(1+c)<sizeLine)(H:W (call aq T (l+3) true 34 [.d (iR n k es A),.l 0,.d (iQ (bnd es F))]) [.dct kvs] λv s=>∃b kvs',v=.d (.bl b)/\(b=true↔Sat es A (bnd es F))/\s=[.dct kvs']/\jM es A kvs'/\kvs'.length<=kvs.length+c) :
  W (call aq T (l+4) true 33 [.d (iR n k es A),.l 0,.d (iQ F)]) [.dct kvs] λv s=>∃b kvs',v=.d (.bl b)/\(b=true↔Sat es A F)/\s=[.dct kvs']/\jM es A kvs'/\kvs'.length<=kvs.length+(1+c):=by
 refine W.call ZP rfl ?_;unfold R3;refine Y ?_;refine fU (zmD (f:=id)) ?_;by_cases e0:some []∈F
 ·rw[gF e0];refine Y ?_;obtain⟨i,hi,ei⟩:=vV e0;refine⟨false,kvs,rfl,⟨λz=>(by cases z),λz=>absurd z (ziM (i:=i) (by rw[cT hi,ei]))⟩,rfl,ha,by lia⟩
 ·rw[jF e0];have ne:∀(i:Nat) L,F[i]?=some (some L)->L≠[]:=λi L h q=>by subst q;exact e0 (eZ h)
  have sb:=zjh B v ne;refine Y ?_;refine W.cm rfl rfl (W.c0 (zjr B v) ?_);refine Y ?_;refine W.yU rfl rfl (Kz _) rfl ?_;cases eg:bO ((bnd es F).map cellK) kvs with
  |some d=>
   obtain⟨b,rfl,hb⟩:=ha _ _ eg;refine Y ?_;refine W.nR rfl rfl (Kz _) rfl eg ?_;refine Y ?_;exact⟨b,kvs,rfl,hb.trans sb,rfl,ha,by lia⟩
  |none=>
   refine Y ?_;refine WS.dput rfl rfl (Kz _) ?_;refine Y ?_;refine pH (s:=[]) rfl (H.imp λv1 s1=>?_);rintro⟨b,dI,rfl,hb,rfl,g1,g2⟩;refine⟨_,_,rfl,rfl,?_⟩;refine⟨_,dI,rfl,rfl,by lia,?_⟩;refine Y ?_;refine W.nR (v:=.bl b) rfl rfl (Kz _) rfl (by rw[YM,if_pos rfl]) ?_;refine Y ?_;have:=zg3 (q:=(bnd es F).map cellK) (d:=.bl b) (kvs:=dI);exact⟨b,_,rfl,hb.trans sb,rfl,zi6 g1 hb,by lia⟩
theorem zll{l m c:Nat}(B:Bo n k es A)(H:Told n k es A 34 (l+3) m c):Told n k es A 33 (l+4) m (1+c):=by
 intro F kvs v hu ha hl;have hu2:=YK (es:=es) (F:=F);exact zkY B v ha hl (H _ kvs (YH v) (by lia) ha (by lia))
theorem Lb(B:Bo n k es A)(lN:1<=k)(dH:∀t a b:Int,0<=a->a<k->0<=b->b<k->A ((a+t)%k) ((b+t)%k)=A a b):∀m j,Told n k es A 33 (3*m+4+j) m (cnt k m)
 |0,j=>by
  rw[show 3*0+4+j=j+4 by lia];exact zll (c:=0) B (zhc B)
 |m+1,j=>by
  rw[show 3*(m+1)+4+j=(3*m+3+j)+4 by lia];refine zll B ?_;rw[show 3*m+3+j+3=(3*m+2+j)+4 by lia];refine zhg B lN dH λi=>?_;rw[show 3*m+2+j+2+i=3*m+4+(j+i) by lia];exact Lb B lN dH m (j+i)
theorem zhk{m j:Nat}(B:Bo n k es A)(lN:1<=k)(dH:∀t a b:Int,0<=a->a<k->0<=b->b<k->A ((a+t)%k) ((b+t)%k)=A a b){F:Fr}{kvs:g8}(v:Fv n k F)(hu:unset F<=m+1)(eb:F.all (Ca k)=true)(ha:jM es A kvs)(hl:kvs.length+(1+cnt k m)<sizeLine) :
  W (call aq T (3*(m+1)+4+j) true 33 [.d (iR n k es A),.l 0,.d (iQ F)]) [.dct kvs] λv s=>∃b kvs',v=.d (.bl b)/\(b=true↔Sat es A F)/\s=[.dct kvs']/\jM es A kvs'/\kvs'.length<=kvs.length+(1+cnt k m):=by
 rw[show 3*(m+1)+4+j=(3*m+3+j)+4 by lia];refine zkY B v ha hl ?_;rw[show 3*m+3+j+3=(3*m+2+j)+4 by lia];have hu2:=YK (es:=es) (F:=F);refine zgQ B lN dH ?_ (YH v) (jO hu2 hu) ?_ ha (by lia)
 ·rw[show 3*m+2+j+3=3*m+4+(j+1) by lia];exact Lb B lN dH m (j+1)
 ·refine ji.mpr λc hc=>?_;cases c with
  |none=>rfl
  |some L=>
   obtain⟨i,hi,ei⟩:=vV hc;have:=zW (es:=es) (F:=F) (i:=i) (L:=L) (by rw[cT hi,ei]);exact ji.mp eb _ (eZ this.1)
theorem zkP{l m c:Nat}(B:Bo n k es A)(lN:1<=k)(dH:∀t a b:Int,0<=a->a<k->0<=b->b<k->A ((a+t)%k) ((b+t)%k)=A a b)(H:Told n k es A 33 (l+2) m c){F:Fr}{p:Nat}{kvs:g8}(v:Fv n k F)(hu:unset F<=m+1)(all:∀(i:Nat) L,F[i]?=some (some L)->L=fW k)(hL:F[p]?=some (some (fW k)))(qw:Sat es A F)(ha:jM es A kvs)(hl:kvs.length+c<sizeLine) :
  W (call aq T (l+3) true 32 [.d (iR n k es A),.l 0,.d (iQ F),.d (.int p)]) [.dct kvs] λv s=>∃kvs',s=[.dct kvs']/\jM es A kvs'/\kvs'.length<=kvs.length+c /\
   ((v=.d .non/\∀x∈fW k,¬Sat es A (settle es A F p x))\/∃x∈fW k,v=.d (.int x)/\Sat es A (settle es A F p x)/\∀y∈fW k,y<x->¬Sat es A (settle es A F p y)):=by
 refine W.call Sq rfl ?_;unfold KR;have hp:=pL v.len hL;have h0:=(Rp B v hp lN dH all hL).mp qw;refine Y ?_;refine fU (X7 (by lia) (Hy hL)) ?_;show W (src (.d (.tup ((fW k).map .int)))) _ _;refine Y ?_;refine Q8 (λi J s=>i=0/\∃a4:Option Xv,s=[.dct kvs]/\J=[some (.d (iR n k es A)),some (.l 0),some (.d (iQ F)),some (.d (.int p)),a4]) ⟨rfl,_,rfl,rfl⟩ (λi z J s e hI=>?_) (λJ s hI=>?_)
 ·obtain⟨rfl,a4,rfl,rfl⟩:=hI;rw[gD] at e;have ei:(fW k)[0]?=some 0:=by unfold fW;rw[gD,Cq (by lia)];rfl
  rw[ei] at e;cases e;have hx:(0:Int)∈fW k:=dU.mpr ⟨by lia,by lia⟩;refine Y ?_;refine W.cm rfl rfl (W.c0 (HX B v hp ⟨by lia,by lia⟩) ?_);refine Y ?_;have hu2:=Hx (es:=es) (A:=A) (x:=0) hL;refine pH (s:=[]) rfl ((H _ kvs (Hw B v hp) (by lia) ha (by lia)).imp λv1 s1=>?_);rintro⟨b,dI,rfl,hb,rfl,g1,g2⟩;have eb:b=true:=hb.mpr h0;subst eb;refine⟨_,_,rfl,rfl,?_⟩;refine Y ?_;refine .inr ⟨_,rfl,?_⟩;exact⟨dI,rfl,g1,g2,.inr ⟨0,hx,rfl,h0,λy hy dh=>absurd (dU.mp hy).1 (by lia)⟩⟩
 ·obtain⟨hz,_⟩:=hI;rw[bV] at hz;have:(fW k).length=k:=by unfold fW;simp
  lia
end
section
variable {n k:Nat}{es:Nat->List Int}{A:Int->Int->Bool}
theorem zjp{k':Nat}(B:Bo n k es A)(lN:1<=k)(dH:∀t a b:Int,0<=a->a<k->0<=b->b<k->A ((a+t)%k) ((b+t)%k)=A a b){F0:Fr}(v0:Fv n k F0)(all:∀i,i<n->∃L,F0[i]?=some (some L)){c0 c1:Nat}(hz:c0+c1+tot k (n-1)<sizeLine)
  (Hc:W (call aq T (3*n+4+k') true 33 [.d (iR n k es A),.l 0,.d (iQ F0)]) [.dct []] λv s=>∃b kvs',v=.d (.bl b)/\(b=true↔Sat es A F0)/\s=[.dct kvs']/\jM es A kvs'/\kvs'.length<=c0)
  (Hf:∀kvs L,F0[0]?=some (some L)->Sat es A F0->jM es A kvs->kvs.length<=c0->W (call aq T (3*n+1+k'+3) true 32 [.d (iR n k es A),.l 0,.d (iQ F0),.d (.int (0:Nat))]) [.dct kvs] λv s=>∃kvs',s=[.dct kvs']/\jM es A kvs'/\kvs'.length<=kvs.length+c1 /\
   ((v=.d .non/\∀x∈L,¬Sat es A (settle es A F0 0 x))\/∃x∈L,v=.d (.int x)/\Sat es A (settle es A F0 0 x)/\∀y∈L,y<x->¬Sat es A (settle es A F0 0 y))) :
  W (call aq T (3*n+5+k') true 31 [.d (iR n k es A),.d (.fl (F0.map bC))]) [] λv s=>(v=.d .non/\¬Sat es A F0)\/∃hs:List Int,v=.d (.tup (hs.map .int))/\hs.length=n/\oA es A F0 (λj=>at' hs j)/\∀g,oA es A F0 g->∀j,j<n->(∀t,t<j->g t=at' hs t)->at' hs j<=g j:=by
 have hn:=B.hn;have hl:=v0.len;rw[show 3*n+5+k'=(3*n+4+k')+1 by lia];refine W.call ZM rfl ?_;unfold R0;have sW:(100:Nat)<=sizeLine:=by decide
 have Gn:unset F0<=n:=by unfold unset;rw[<-hl];exact List.countP_le_length
 refine Y ?_;refine W.p7 ?_;refine Y ?_;refine pH (s:=[]) rfl (Hc.imp λv1 s1=>?_);rintro⟨b,kvs,rfl,hb,rfl,g1,g2⟩;refine⟨_,_,rfl,rfl,?_⟩;refine Y ?_;cases b with
 |false=>
  refine Y ?_;exact .inl ⟨rfl,λz=>by cases hb.mpr z⟩
 |true=>
  have qw:=hb.mp rfl;refine Y ?_;have HY:((F0.map bC).length:Int)=n:=by rw[bV,hl]
  refine⟨by rw[HY,j8 (by lia) (by lia),j8 (by lia) (by lia)];rfl,?_⟩;rw[HY];refine zP (c:=(List.range ((n:Int)-0).toNat).map λ(j:Nat)=>.int (0+j)) (λi J s=>∃(kvs':g8) (Fi:Fr) (hs:List Int) (a5 a6:Option Xv),s=[.dct kvs',.lst (hs.map .int)]/\J=[some (.d (iR n k es A)),some (.d (.fl (F0.map bC))),some (.d (iQ Fi)),some (.l 0),some (.l 1),a5,a6]/\jM es A kvs'/\(i=0->Fi=F0/\kvs'.length<=c0)/\(1<=i->kvs'.length+tot k (n-i)<=c0+c1+tot k (n-1))/\hs.length=i/\Fv n k Fi/\unset Fi<=n-i/\(∀j,i<=j->j<n->∃L,Fi[j]?=some (some L))/\Sat es A Fi /\
   (∀g,oA es A Fi g->oA es A F0 λj=>if j<i then at' hs j else g j)/\(∀g,oA es A F0 g->(∀t,t<i->g t=at' hs t)->oA es A Fi g)/\(∀g,oA es A F0 g->∀j,j<i->(∀t,t<j->g t=at' hs t)->at' hs j<=g j)) ?_ (λi z J s e hI=>?_) (λJ s hI=>?_)
  ·exact⟨kvs,F0,[],_,_,rfl,rfl,g1,λ_=>⟨rfl,g2⟩,λz=>absurd z (by lia),rfl,v0,by lia,λj _ hj=>all j hj,qw,λg s=>by simpa using s,λg s _=>s,λg _ j hj=>absurd hj (by lia)⟩
  ·obtain⟨kvs',Fi,hs,a5,a6,rfl,rfl,i1,i0,i2,i3,i4,i5,i6,i7,i8,i9,Ld⟩:=hI;rw[gD] at e;cases ei:(List.range ((n:Int)-0).toNat)[i]? with
   |none=>rw[ei] at e;cases e
   |some j=>
    rw[ei] at e;cases e;obtain⟨hil,ej⟩:=dX.mp ei;rw[LQ] at ej;rw[nu] at hil;subst ej;obtain⟨L,hL⟩:=i6 i (bI _) (by lia);have ez:((0:Int)+(i:Nat))=(i:Int):=by lia
    dsimp only;rw[ez];have hp:=pL i4.len hL;obtain⟨m,hm⟩ : ∃m,n-i=m+1:=⟨n-i-1,by lia⟩;rw[hm] at i2 i5;have et:tot k (m+1)=k*cnt k m+tot k m:=rfl;refine Y ?_;have lv:3*n+4+k'=(3*n+1+k')+3:=by lia
    refine Kaq (s:=[]) rfl ?_;rw[lv];have H:Told n k es A 33 (3*n+1+k'+2) m (cnt k m):=by
     rw[show 3*n+1+k'+2=3*m+4+(3*n-3*m+k'-1) by lia];exact Lb B lN dH m _
    obtain⟨c2,oR,hW⟩ : ∃c2,(kvs'.length+c2+tot k m<=c0+c1+tot k (n-1))/\W (call aq T (3*n+1+k'+3) true 32 [.d (iR n k es A),.l 0,.d (iQ Fi),.d (.int i)]) [.dct kvs'] λv s=>∃dI,s=[.dct dI]/\jM es A dI/\dI.length<=kvs'.length+c2 /\
      ((v=.d .non/\∀x∈L,¬Sat es A (settle es A Fi i x))\/∃x∈L,v=.d (.int x)/\Sat es A (settle es A Fi i x)/\∀y∈L,y<x->¬Sat es A (settle es A Fi i y)):=by
     by_cases c:i=0
     ·subst c;obtain⟨rfl,q⟩:=i0 rfl;have em:n-1=m:=by lia
      rw[em];exact⟨c1,by lia,Hf kvs' L hL qw i1 q⟩
     ·have i2:=i2 (by lia);refine⟨k*cnt k m,by lia,zh7 B H i4 i5 hL i1 (by lia)⟩
    clear i2;refine hW.imp λv1 s1=>?_;rintro⟨dI,rfl,q1,q2,h⟩;rcases h with ⟨rfl,tR⟩|⟨x,hx,rfl,yu,dh⟩
    ·obtain⟨x,hx,q⟩:=(KH B i4 hp hL).mp i7;exact absurd q (tR x hx)
    ·refine⟨_,_,rfl,rfl,?_⟩;refine Y ?_;refine W.cm rfl rfl (W.c0 (HX (k':=3*n+2+k') B i4 hp (i4.lo i L hL x hx)) ?_);refine Y ?_;refine⟨by rw[bV];lia,?_⟩;refine Y ?_;have ag:∀j:Nat,j<i->at' (hs++[x]) j=at' hs j:=λj hj=>zlg (by lia) (by lia);have ai:at' (hs++[x]) (i:Int)=x:=by rw[<-i3];exact ziS
     refine⟨_,rfl,dI,settle es A Fi i x,hs++[x],_,_,?_,rfl,q1,λz=>absurd z (by lia),λ_=>by rw[show n-(i+1)=m by lia];lia,by simp[i3],Hw B i4 hp,?_,λj hj hjn=>?_,yu,λg s=>?_,λg s hg=>?_,λg s j hj hg=>?_⟩
     ·rw[vY];rfl
     ·have:=Hx (es:=es) (A:=A) (x:=x) hL
      lia
     ·obtain⟨M,hM⟩:=i6 j (by lia) hjn;exact⟨_,Hv B i4.len hp (by lia) hM⟩
     ·have s2:=i8 _ (YF B i4 hp hL hx s);refine⟨λj M hM=>?_,λj e M N h1 h2 he=>?_⟩
      ·have:=s2.mem j M hM
       try dsimp only at this ⊢
       by_cases c1:j<i
       ·rw[if_pos c1] at this;rw[if_pos (by lia),ag j c1];exact this
       ·rw[if_neg c1] at this;by_cases c2:j=i
        ·rw[if_pos c2] at this;rw[if_pos (by lia),c2,ai];exact this
        ·rw[if_neg c2] at this;rw[if_neg (by lia)];exact this
      ·have ff:∀j:Nat,(if j<i then at' hs j else if j=i then x else g j)=if j<i+1 then at' (hs++[x]) j else g j:=λj=>by
        by_cases c1:j<i
        ·rw[if_pos c1,if_pos (by lia),ag j c1]
        ·rw[if_neg c1];by_cases c2:j=i
         ·rw[if_pos c2,if_pos (by lia),c2,ai]
         ·rw[if_neg c2,if_neg (by lia)]
       have:=s2.fit j e M N h1 h2 he
       try dsimp only at this ⊢
       rw[<-ff,<-ff];exact this
     ·have s2:=i9 g s λt ht=>by rw[hg t (by lia),ag t ht]
      have s3:=KD B i4 hp hL s2;rw[hg i (by lia),ai] at s3;exact s3
     ·by_cases c1:j<i
      ·rw[ag j c1];exact Ld g s j c1 λt ht=>by rw[hg t ht,ag t (by lia)]
      ·have:j=i:=by lia
       subst this;rw[ai];have s2:=i9 g s λt ht=>by rw[hg t ht,ag t ht]
       have s3:=KD B i4 hp hL s2;exact Int.not_lt.mp λq=>dh (g j) (s2.mem j L hL) q ⟨g,s3⟩
  ·obtain⟨kvs',Fi,hs,a5,a6,rfl,rfl,i1,i0,i2,i3,i4,i5,i6,i7,i8,i9,Ld⟩:=hI;rw[bV,nu,show ((n:Int)-0).toNat=n by lia] at i3 i8 Ld;refine Y ?_;refine .inr ⟨hs,rfl,i3,?_,Ld⟩;obtain⟨g,sg⟩:=i7;have s2:=i8 g sg;refine⟨λj M hM=>?_,λj e M N h1 h2 he=>?_⟩
   ·have:=s2.mem j M hM;rw[if_pos (pL hl hM)] at this;exact this
   ·have:=s2.fit j e M N h1 h2 he;rw[if_pos (pL hl h1),if_pos (pL hl h2)] at this;exact this
end
theorem zid{k:Nat}{i:Int}:W (call aq T (k+1) true 0 [.d (.int i)]) [] λv s=>v=.d (.bl true):=W.eq (a:=.d (.bl true)) (s':=[]) rfl rfl
theorem Ce{k:Nat}{a b:D}:W (call aq T (k+1) true 2 [.d (.tup [a,b]),.d (.int 2)]) [] λv s=>v=.d (.bl true):=W.eq (a:=.d (.bl true)) (s':=[]) rfl rfl
theorem cR{k:Nat}{i a b:Int}:W (call aq T (k+2) true 1 [.d (.int i),.d (.int a),.d (.int b)]) [] λv s=>v=.d (.bl (decide (a<=i/\i<=b))):=by
 refine W.call T_1 rfl ?_;unfold b1;refine Y ?_;refine W.c0 zid ?_;refine Y ?_;refine W.ite (λh1=>?_) (λh1=>?_)
 ·refine Y ?_;have:=jN h1;simp[this]
 ·refine Y ?_;simp at h1;have:¬(a<=i/\i<=b):=by lia
  simp[this]
theorem zhA{k:Nat}{i:Int}(h1:1<=i)(h2:i<=8):W (call aq T (k+3) true 10 [.d (.int i)]) [] λv s=>v=.d (.bl true):=by
 refine W.call Zj rfl ?_;unfold b10;refine Y ?_;exact nj rfl (cR.imp λv s e=>⟨_,e,by rw[gF (And.intro h1 h2)]⟩)
theorem H_{k:Nat}{n i:Int}:W (call aq T (k+3) true 11 [.d (.int n),.d (.int i)]) [] λv s=>v=.d (.bl (decide (0<=i/\i<n))):=by
 refine W.call Zk rfl ?_;unfold Ru;refine Y ?_;exact nj rfl (cR.imp λv s e=>⟨_,e,by rw[tD.mpr (show 0<=i/\i<=n-1↔0<=i/\i<n by lia)]⟩)
theorem zmL{k:Nat}{n:Int}{p:Int×Int}(h:0<=p.1/\p.1<p.2/\p.2<n):W (call aq T (k+4) true 12 [.d (.int n),.d (bN p)]) [] λv s=>v=.d (.bl true):=by
 obtain⟨a,b⟩:=p;obtain⟨h1,h2,h3⟩:=h;unfold bN;dsimp only at h1 h2 h3 ⊢;refine W.call Sh rfl ?_;unfold KQ;refine Y ?_;refine W.c0 Ce ?_;refine Y ?_;refine W.c0 H_ ?_;rw[gF (show 0<=a/\a<n by lia)];refine Y ?_;refine W.c0 H_ ?_;rw[gF (show 0<=b/\b<n by lia)];refine Y ?_;rw[gF h2]
theorem zjk{k:Nat}{n:Int}{ps:List (Int×Int)}(h:Web n ps):W (call aq T (k+5) true 7 [.d (bJ n ps)]) [] λv s=>v=.d (.bl true):=by
 refine W.call Zg rfl ?_;unfold b7 bJ;have hl:(ps.map bN).length<=100:=by rw[bV];have:=h.len;have:=h.h8;lia
 have hs:(100:Nat)<=sizeLine:=by decide
 refine Y ?_;refine W.c0 Ce ?_;refine Y ?_;refine W.c0 (zhA h.h1 h.h8) ?_;refine Y ?_;refine Xy (c:=ps.map bN) (λ_=>.bl true) (by lia) ?_ (λx hx=>?_) ?_
 ·refine Y ?_;exact⟨rfl,rfl⟩
 ·obtain⟨p,hp,rfl⟩:=qy.mp hx;refine Y ?_;exact nj rfl ((zmL (h.tie p hp)).imp λv s e=>⟨_,e,rfl,rfl⟩)
 ·refine Y ?_;refine fU (QV ?_) ?_
  ·intro x hx;obtain⟨_,_,e⟩:=qy.mp hx;exact e.symm
  refine Y ?_;refine Xy (c:=List.zipWith (λ(p q:D)=>D.tup [p,q]) (ps.map bN) ((ps.map bN).drop 1)) (λ_=>.bl true) (by rw[List.length_zipWith];lia) ?_ (λx hx=>?_) ?_
  ·refine Y ?_;rw[QW];exact⟨rfl,rfl⟩
  ·obtain⟨p,q,rfl,hpq⟩:=XJ h.inc x hx;refine Y ?_;rw[zmR hpq];exact⟨rfl,rfl⟩
  ·refine Y ?_;refine fU (QV ?_) ?_
   ·intro x hx;obtain⟨_,_,e⟩:=qy.mp hx;exact e.symm
   rfl
theorem TJ{k:Nat}{n:Int}{ps:List (Int×Int)}(h:Web n ps):W (call aq T (k+6) true 14 [.d (bJ n ps)]) [] λv s=>∃d,v=.d d:=by
 refine W.call Zn rfl ?_;unfold Rx;refine Y ?_;refine W.c0 (zjk h) ?_;refine Y ?_;exact⟨_,rfl⟩
theorem zeC{k:Nat}{n i:Int}{ps:List (Int×Int)}(h:0<=i/\i<n):W (call aq T (k+4) true 15 [.d (bJ n ps),.d (.int i)]) [] λv s=>∃d,v=.d d:=by
 refine W.call Zo rfl ?_;unfold Ry bJ;refine Y ?_;refine W.c0 H_ ?_;rw[gF h];refine Y ?_;exact⟨_,rfl⟩
theorem zgy{k':Nat}{k d:Int}(hd:1<=d)(Cd:d<=k)(hk:k<=24):W (call aq T (k'+3) true 3 [.d (aY k d)]) [] λv s=>v=.d (.bl true):=by
 refine W.call Sg rfl ?_;unfold b3 aY;refine Y ?_;refine W.c0 Ce ?_;refine Y ?_;refine W.c0 cR ?_;rw[gF (show 1<=k/\k<=24 by lia)];refine Y ?_;refine W.c0 cR ?_;rw[gF (show 1<=d/\d<=k by lia)]
theorem zcV{k':Nat}{k d:Int}(hd:1<=d)(Cd:d<=k)(hk:k<=24):W (call aq T (k'+4) true 5 [.d (aY k d)]) [] λv s=>∃d,v=.d d:=by
 refine W.call Zf rfl ?_;unfold b5;refine Y ?_;refine W.c0 (zgy hd Cd hk) ?_;refine Y ?_;exact⟨_,rfl⟩
theorem zhr{k':Nat}{k d x:Int}:W (call aq T (k'+3) true 4 [.d (aY k d),.d (.int x)]) [] λv s=>v=.d (.bl (decide (0<=x/\x<k))):=by
 refine W.call Ze rfl ?_;unfold b4 aY;refine Y ?_;exact nj rfl (cR.imp λv s e=>⟨_,e,by rw[tD.mpr (show 0<=x/\x<=k-1↔0<=x/\x<k by lia)]⟩)
theorem zic{k':Nat}{k d a b:Int}:W (call aq T (k'+1) true 6 [.d (aY k d),.d (.int a),.d (.int b)]) [] λv s=>v=.d (.int (jA k a b)):=W.eq (a:=.d (.int (jA k a b))) (s':=[]) rfl rfl
section
variable {n k d:Int}{ps:List (Int×Int)}
theorem zbL{k':Nat}(h:Web n ps)(hd:1<=d)(Cd:d<=k)(hk:k<=24)(hz:1+cnt k.toNat (n.toNat-1)+cnt k.toNat (n.toNat-1)+tot k.toNat (n.toNat-1)<sizeLine):W (call aq T (k'+40) true 30 [.d (bJ n ps),.d (aY k d)]) [] λv s=>(v=.d .non/\∀hs,¬dw n k d ps hs)\/∃hs,v=.d (.tup (hs.map .int))/\dw n k d ps hs/\∀g,dw n k d ps g->Ge g hs:=by
 refine W.call ZL rfl ?_;unfold RZ;have sW:(100:Nat)<=sizeLine:=by decide
 have h1:=h.h1;have h8:=h.h8;refine Y ?_;refine W.c1 (TJ h) λ_=>?_;refine Y ?_;refine W.c1 (zcV hd Cd hk) λ_=>?_;refine Y ?_;refine W.c0 (ziN h hd Cd hk) ?_;refine Y ?_;refine pG (l:=List.range (n-0).toNat) (f:=λ(j:Nat)=>.int (0+j)) (λ(_:Nat)=>some (bC (some (fW k.toNat)))) (by rw[nu];lia) ?_ (λj hj=>?_) ?_
 ·unfold bJ;refine Y ?_;refine⟨by rw[j8 (by lia) (by lia),j8 (by lia) (by lia)];rfl,?_⟩;exact⟨rfl,rfl⟩
 ·refine Y ?_;refine⟨rfl,λ_=>?_,λhb=>by cases hb⟩;refine Y ?_;exact⟨rfl,_,rfl,rfl⟩
 ·have ef:(List.range (n-0).toNat).filterMap (λ(_:Nat)=>some (bC (some (fW k.toNat))))=(iC n k).map bC:=by
   rw[t_,show n-0=n by lia];unfold iC;rw[List.map_replicate];rw[List.map_const',nu]
  rw[ef];refine Y ?_;have lv:k'+39=3*n.toNat+5+(k'+34-3*n.toNat):=by lia
  refine nj rfl ?_;show W (Mi.call aq T (k'+39) true _ _) _ _;rw[lv];have B:=zlS h hd hk;have lN:1<=k.toNat:=by lia
  have dH:∀t a b:Int,0<=a->a<(k.toNat:Nat)->0<=b->b<(k.toNat:Nat)->cX k d ((a+t)%(k.toNat:Nat)) ((b+t)%(k.toNat:Nat))=cX k d a b:=λt a b a0 ak b0 bk=>by rw[show ((k.toNat:Nat):Int)=k by lia] at *;exact ziy hd t a b a0 ak b0 bk
  obtain⟨m,hm⟩ : ∃m,n.toNat=m+1:=⟨n.toNat-1,by lia⟩;have em:n.toNat-1=m:=by lia
  have Gn:unset (iC n k)<=m+1:=by
   have:=(KN (n:=n) hk).len;rw[<-hm,<-this];exact List.countP_le_length
  have al:∀(i:Nat) L,(iC n k)[i]?=some (some L)->L=fW k.toNat:=λi L e=>(HB e).2;have eb:(iC n k).all (Ca k.toNat)=true:=ji.mpr λc hc=>by rw[List.eq_of_mem_replicate hc];exact gF rfl
  rw[em] at hz;refine(zjp (c0:=1+cnt k.toNat m) (c1:=cnt k.toNat m) B lN dH (KN hk) (λi hi=>⟨_,KJ hi⟩) (by rw[em];exact hz) ?_ (λkvs L hL qw ha hl=>?_)).imp λv s=>?_
  ·rw[hm];have:=zhk (m:=m) (j:=k'+34-3*(m+1)) (kvs:=[]) B lN dH (KN hk) Gn eb (λF d e=>by cases e) (by simp;lia);rw[hm] at this;simpa using this
  ·have e:=al 0 L hL;subst e;refine zkP B lN dH ?_ (KN hk) Gn al hL qw ha (by lia);rw[show 3*n.toNat+1+(k'+34-3*n.toNat)+2=3*m+4+(k'+33-3*m) by lia];exact Lb B lN dH m _
  rintro(⟨rfl,tR⟩|⟨hs,rfl,hl,TQ,P_⟩)
  ·refine⟨_,rfl,?_⟩;refine Y ?_;exact .inl ⟨rfl,λhs hh=>tR ⟨_,Y7 h hd hh⟩⟩
  ·refine⟨_,rfl,?_⟩;refine Y ?_;refine .inr ⟨hs,rfl,zhx h hl TQ,λg hg j hj ha=>?_⟩;exact P_ _ (Y7 h hd hg) j (by lia) ha
end
theorem zl4{k':Nat}{xs:List D}{n:Int}(h:(xs.length:Int)=n):W (call aq T (k'+1) true 2 [.d (.tup xs),.d (.int n)]) [] λv s=>v=.d (.bl true):=by
 refine W.call Zd rfl ?_;unfold b2;refine Y ?_;simp[h]
section
variable {n k d:Int}{ps:List (Int×Int)}{hs:List Int}
theorem zeO{k':Nat}(hn:n<=8)(hl:(hs.length:Int)=n)(wB:∀x∈hs,0<=x/\x<k):W (call aq T (k'+4) true 19 [.d (bJ n ps),.d (aY k d),.d (.tup (hs.map .int))]) [] λv s=>v=.d (.bl true):=by
 refine W.call Zv rfl ?_;unfold RJ bJ;have sW:(100:Nat)<=sizeLine:=by decide
 refine Y ?_;refine W.c0 (zl4 (by rw[bV];exact hl)) ?_;refine Y ?_;refine pG (l:=hs) (f:=D.int) (λ_=>some (.bl true)) (by lia) ?_ (λx hx=>?_) ?_
 ·refine Y ?_;exact⟨rfl,rfl⟩
 ·refine Y ?_;refine⟨rfl,λ_=>?_,λhb=>by cases hb⟩;refine Y ?_;refine W.c0 zhr ?_;rw[gF (wB x hx)];exact⟨rfl,_,rfl,rfl⟩
 ·refine Y ?_;refine fU (QV ?_) ?_
  ·intro x hx;obtain⟨_,_,e⟩:=Af.mp hx;exact(cD e).symm
  exact Y trivial
end
section
variable {n k d m:Int}{ps:List (Int×Int)}{hs:List Int}
theorem zgH{k':Nat}(h:Web n ps)(hl:(hs.length:Int)=n):W (call aq T (k'+2) true 21 [.d (bJ n ps),.d (aY k d),.d (.tup (hs.map .int))]) [] λv s=>v=.d (BZ k d ps hs):=by
 refine W.call Zx rfl ?_;unfold RL;refine Y ?_;refine Q8 (λi J s=>s=[]/\(∃(a b:Option Xv),J=[some (.d (bJ n ps)),some (.d (aY k d)),some (.d (.tup (hs.map .int))),a,b])/\pK k d (ps.take i) hs=[]) ⟨rfl,⟨_,_,rfl⟩,rfl⟩ (λi x J s e hI=>?_) (λJ s hI=>?_)
 ·obtain⟨rfl,⟨a,b,rfl⟩,hI⟩:=hI;rw[gD,j_] at e;obtain⟨p,ep,rfl⟩:=e;have ht:=h.tie p (eZ ep);obtain⟨p1,p2⟩:=p;dsimp only at ht;refine Y ?_;refine fU (X8 (by lia) (by lia)) ?_;refine Y ?_;refine fU (X8 (by lia) (by lia)) ?_;refine Y ?_;refine W.c0 zic ?_;unfold aY;refine Y ?_;have et:ps.take (i+1)=ps.take i++[(p1,p2)]:=by rw[CP,ep];rfl
  have ec:pK k d (ps.take (i+1)) hs=if jA k (at' hs p1) (at' hs p2)<d then [(p1,p2)] else []:=by
   unfold pK at hI ⊢;rw[et,List.filter_append,hI,List.nil_append,List.filter_cons];simp only[List.filter_nil,Cw]
  refine WS.ite (λhb=>?_) (λhb=>?_)
  ·have hb:=jN hb;rw[if_pos hb] at ec;refine Y ?_;refine .inr ⟨_,rfl,?_⟩;have:pK k d ps hs=(p1,p2)::pK k d (ps.drop (i+1)) hs:=by
    have e1:ps=ps.take (i+1)++ps.drop (i+1):=(List.take_append_drop ..).symm;unfold pK at ec ⊢
    conv=>lhs;rw[e1,List.filter_append,ec]
    rfl
   unfold BZ;rw[this];rfl
  ·have hb:¬jA k (at' hs p1) (at' hs p2)<d:=λz=>hb (gF z);rw[if_neg hb] at ec;refine Y ?_;exact .inl ⟨_,rfl,rfl,⟨_,_,rfl⟩,ec⟩
 ·obtain⟨rfl,⟨a,b,rfl⟩,hI⟩:=hI;rw[bV,xT] at hI;refine Y ?_;unfold BZ;rw[hI]
theorem zlI{k':Nat}(h:Web n ps)(hr:1<=d/\d<=k/\k<=24)(hl:(hs.length:Int)=n)(wB:∀x∈hs,0<=x/\x<k):W (call aq T (k'+8) true 18 [.d (bJ n ps),.d (aY k d),.d (.tup (hs.map .int))]) [] λv s=>v=.d (.bl (decide (pK k d ps hs=[]))):=by
 have key:∀kk,W (call aq T (kk+5) true 20 [.d (bJ n ps),.d (aY k d),.d (.tup (hs.map .int))]) [] λv s=>v=.d (.bl (decide (pK k d ps hs=[]))):=λkk=>by
  refine W.call Zw rfl ?_;unfold RK;refine Y ?_;refine W.c0 (zeO h.h8 hl wB) ?_;refine Y ?_;refine W.c0 (zgH h hl) ?_;refine Y ?_;show Xv.d (.bl (BZ k d ps hs).mO)=_;rw[zlV]
 refine W.call Zu rfl ?_;unfold RG;refine Y ?_;refine W.c1 (TJ h) λ_=>?_;refine Y ?_;refine W.c1 (zcV hr.1 hr.2.1 hr.2.2) λ_=>?_;refine Y ?_;exact nj rfl ((key _).imp λv s e=>⟨_,e,rfl⟩)
theorem Ia{k':Nat}(h:Web n ps)(hr:1<=d/\d<=k/\k<=24)(hh:dw n k d ps hs):W (call aq T (k'+8) true 18 [.d (bJ n ps),.d (aY k d),.d (.tup (hs.map .int))]) [] λv s=>v=.d (.bl true):=by
 have:=zlI (k':=k') h hr hh.len hh.lo;rw[gF (zjv hh)] at this;exact this
end
def m8(o:SO):Prop:=∃a b:Int,o=.lst [.int a,.int b]/\0<=a/\(b=0\/b=1)
theorem Le{k:Nat}{o:SO}{m:Int}(ho:m8 o)(hm:0<m)(hm2:m<1073741824):W (call aq T (k+1) true 37 [.l 0,.d (.int m)]) [o] λv s=>∃d o',v=.d d/\s=[o']/\(∃r:Int,d=.int r/\0<=r/\r<m)/\m8 o':=by
 obtain⟨a,b,rfl,ha,hb⟩:=ho;refine W.call ZS rfl ?_;unfold R6;rcases hb with rfl|rfl
 ·refine Y ?_;exact⟨_,_,rfl,rfl,⟨_,rfl,Ao _ (by lia),Cv _ hm⟩,⟨_,_,rfl,Ao _ (by decide),.inl rfl⟩⟩
 ·refine Y ?_;exact⟨_,_,rfl,rfl,⟨_,rfl,Ao _ (by lia),Cv _ hm⟩,⟨_,_,rfl,Int.ediv_nonneg ha (by lia),.inr rfl⟩⟩
theorem zm0{k:Nat}{n:Int}:W (call aq T (k+1) true 36 [.d (.int n)]) [] λv s=>∃i o,v=.l i/\s[i]?=some o/\m8 o:=by
 refine W.call ZR rfl ?_;unfold R5;refine Y ?_;refine⟨0,_,rfl,rfl,⟨_,_,rfl,?_,?_⟩⟩
 ·split<;>lia
 ·have:∀c:Bool,(if c=true then (1:Int) else 0)=0\/(if c=true then (1:Int) else 0)=1:=by intro c;cases c<;>simp
  exact this _
theorem zZ{k:Nat}{o:SO}{m:Int}{P:Xv->S->Prop}(ho:m8 o)(hm:0<m)(hm2:m<1073741824)(h:∀(r:Nat) o',(r:Int)<m->m8 o'->P (.d (.int r)) [o']):W (cB (call aq T (k+1) true 37) [.l 0,.d (.int m)]) [o] P:=by
 refine QG (n:=0) (o:=o) rfl rfl ((Le ho hm hm2).imp λv s=>?_);rintro⟨d,o',rfl,rfl,⟨r,rfl,h0,h1⟩,hp⟩;obtain⟨n,rfl⟩:=vR h0;exact⟨_,_,rfl,rfl,h n o' h1 hp⟩
theorem zkp{k:Nat}{ns:List Int}:W (call aq T (k+1) true 35 [.d (.fl (ns.map D.int)),.d (.int 0)]) [] λv _=>∃n,v=.d (.int n):=by
 refine W.call ZQ rfl ?_;unfold R4;cases ns with
 |nil=>
  refine Y ?_;exact⟨_,rfl⟩
 |cons n r=>
  refine Y ?_;refine WS.ite (λ_=>?_) (λ_=>?_)
  ·refine Y ?_;refine fU (G3 (i:=0) (x:=.int n) rfl) ?_;refine Y ?_;exact⟨_,rfl⟩
  ·refine Y ?_;exact⟨_,rfl⟩
theorem zlX{k:Nat}{o:SO}(ho:m8 o):W (call aq T (k+2) true 38 [.l 0]) [o] λv s=>∃(n:Nat) (o':SO),v=.d (.int n)/\s=[o']/\(1<=n/\n<=8)/\m8 o':=by
 refine W.call ZV rfl ?_;unfold R7;refine Y ?_;refine zZ ho (by decide) (by decide) λr o' hr hp=>?_;refine Y ?_;have qg:r<12:=by lia
 refine fU (G3 (x:=.int (([1,2,3,4,5,6,4,5,3,6,7,8]:List Nat)[r]'qg:Nat)) ?_) ?_
 ·revert qg;revert r;intro r _ qg;exact match r,qg with
  |0,_=>rfl|1,_=>rfl|2,_=>rfl|3,_=>rfl|4,_=>rfl|5,_=>rfl|6,_=>rfl|7,_=>rfl|8,_=>rfl|9,_=>rfl|10,_=>rfl|11,_=>rfl
  |n+12,h=>absurd h (by lia)
 ·refine Y ?_;refine⟨_,_,rfl,rfl,?_,hp⟩;have key:∀n∈([1,2,3,4,5,6,4,5,3,6,7,8]:List Nat),1<=n/\n<=8:=by decide
  exact key _ (List.getElem_mem _)
theorem zf9{k:Nat}{o:SO}{n:Int}(ho:m8 o)(h1:1<=n)(h8:n<=8):W (call aq T (k+2) true 39 [.l 0,.d (.int n)]) [o] λv s=>∃ps o',v=.d (bJ n ps)/\s=[o']/\Web n ps/\m8 o':=by
 refine W.call ZW rfl ?_;unfold R8;have hs:(100:Nat)<=sizeLine:=by decide
 refine Y ?_;refine zZ ho (by decide) (by decide) λr o' hr hp=>?_;refine Y ?_;have qg:r<3:=by lia
 refine fU (G3 (x:=.int (([2,4,6]:List Int)[r]'qg)) ?_) ?_
 ·revert qg;revert r;intro r _ qg;exact match r,qg with
  |0,_=>rfl|1,_=>rfl|2,_=>rfl
  |n+3,h=>absurd h (by lia)
 generalize ([2,4,6]:List Int)[r]=often;refine Y ?_;refine⟨by rw[j8 (by lia) (by lia),j8 (by lia) (by lia)];rfl,?_⟩;refine zP (λ(i:Nat) J s=>∃(ps:List (Int×Int)) (a:Option Xv) (o':SO),J=[some (.l 0),some (.d (.int n)),some (.d (.int often)),some (.d (.fl (ps.map bN))),a]/\s=[o']/\m8 o'/\(∀p∈ps,0<=p.1/\p.1<(i:Int)/\p.1<p.2/\p.2<n)/\ps.Pairwise lx/\ps.length<=7*i)
  ⟨[],_,_,rfl,rfl,hp,by simp,by simp,by simp⟩ (λi x J s e hI=>?_) (λJ s hI=>?_)
 ·obtain⟨ps,a,o',rfl,rfl,hp,ht,z_,hlen⟩:=hI;obtain⟨rfl,hi⟩:=XR e;have hi8:i<8:=by lia
  refine Y ?_;refine Xz (c:=iZ (0+(i:Int)+1) n) (λ(j:Nat) acc s=>∃(es:List Int) (o':SO),acc=es.map (λe=>bN (0+(i:Int),e))/\es.Pairwise (·<·)/\(∀e∈es,(i:Int)<e/\e<(i:Int)+1+j)/\s=[o']/\m8 o') ?_ (λj x acc s e hJ=>?_) (λacc s hJ=>?_)
  ·refine Y ?_;refine⟨by rw[j8 (by lia) (by lia),j8 (by lia) (by lia)];rfl,?_⟩;exact⟨rfl,[],_,rfl,by simp,by simp,rfl,hp⟩
  ·obtain⟨es,o',rfl,Cg,xJ,rfl,hp⟩:=hJ;obtain⟨rfl,hj⟩:=XR e;have hel:(es.length:Int)<=(i:Int)+1+j-((i:Int)+1):=Q7 Cg (λe he=>by have:=xJ e he;lia) (by lia);refine Y ?_;refine zZ hp (by decide) (by decide) λr o' hr hp=>?_;refine Y ?_;refine⟨λhb=>?_,λhb=>?_⟩
   ·refine Y ?_;refine⟨_,rfl,by rw[bV];lia,es++[0+(i:Int)+1+j],o',?_,?_,?_,rfl,hp⟩
    ·rw[vY];rfl
    ·rw[List.pairwise_append];refine⟨Cg,by simp,λa ha b hb=>?_⟩;simp at hb;have:=xJ a ha
     lia
    ·intro e he;rcases nD.mp he with he|he
     ·have:=xJ e he;lia
     ·simp at he;lia
   ·exact⟨es,o',rfl,Cg,λe he=>by have:=xJ e he;lia,rfl,hp⟩
  ·obtain⟨es,o',rfl,Cg,xJ,rfl,hp⟩:=hJ;rw[X3] at xJ;have hel:(es.length:Int)<=n-((i:Int)+1):=Q7 Cg (λe he=>by have:=xJ e he;lia) (by lia);refine Y ?_;refine BR (Xj ?_) ?_
   ·rw[bV,bV];lia
   refine Y ?_;refine⟨_,rfl,ps++es.map (λe=>(0+(i:Int),e)),some (.d (.int (0+(i:Int)))),o',?_,rfl,hp,?_,?_,?_⟩
   ·rw[vY,uE];rfl
   ·intro p hp;rcases nD.mp hp with hp|hp
    ·have:=ht p hp;lia
    ·obtain⟨e,he,rfl⟩:=qy.mp hp;have:=xJ e he;dsimp only
     lia
   ·rw[List.pairwise_append,Mf];refine⟨z_,Cg.imp λh=>.inr ⟨rfl,h⟩,λp hp q hq=>?_⟩;obtain⟨e,he,rfl⟩:=qy.mp hq;have:=ht p hp;exact .inl (by dsimp only;lia)
   ·rw[lV,bV];lia
 ·obtain⟨ps,a,o',rfl,rfl,hp,ht,z_,hlen⟩:=hI;rw[X3] at ht hlen;refine Y ?_;refine pG (l:=ps) (f:=bN) (λp=>some (bN (n-1-p.2,n-1-p.1))) (by lia) ?_ (λp hpm=>?_) ?_
  ·refine Y ?_;exact⟨rfl,rfl⟩
  ·obtain⟨p1,p2⟩:=p;refine Y ?_;refine⟨rfl,λ_=>?_,λhb=>by cases hb⟩;refine Y ?_;exact⟨rfl,_,rfl,rfl⟩
  have nd:(ps.map λp=>(n-1-p.2,n-1-p.1)).Nodup:=by
   have:=Q5 z_;unfold List.Nodup at this ⊢;rw[Mf];refine this.imp λ{p q} h e=>h ?_;obtain⟨p1,p2⟩:=p;obtain⟨q1,q2⟩:=q;simp only[Prod.mk.injEq] at e ⊢
   lia
  obtain⟨qs,es,wD,wF,hq3⟩:=Yx (by rw[bV];lia) nd;have e2:ps.filterMap (λp=>some (bN (n-1-p.2,n-1-p.1)))=(ps.map λp=>(n-1-p.2,n-1-p.1)).map bN:=by
   rw[t_,uE];rfl
  rw[e2];refine Y ?_;refine BR (Q6 es) ?_;refine Y ?_;rw[bV] at hq3;refine⟨qs,o',rfl,rfl,⟨h1,h8,λp hp=>?_,wD,by lia⟩,hp⟩;obtain⟨q,hq,rfl⟩:=qy.mp ((wF p).mp hp);have:=ht q hq;dsimp only
  lia
noncomputable def dW:List (Int×Int):=[(2,1),(3,1),(5,2),(4,1),(7,3),(7,2),(4,2),(6,2),(10,4),(5,1),(8,3),(3,2)]
theorem ziE{k':Nat}{o:SO}(ho:m8 o):W (call aq T (k'+2) true 40 [.l 0]) [o] λv s=>∃(k d:Int) (o':SO),v=.d (aY k d)/\s=[o']/\(1<=d/\d<=k/\k<=10)/\m8 o':=by
 refine W.call ZX rfl ?_;unfold R9;refine Y ?_;refine zZ ho (by decide) (by decide) λr o' hr hp=>?_;refine Y ?_;refine WS.ite (λ_=>?_) (λ_=>?_)
 ·refine Y ?_;refine zZ hp (by decide) (by decide) λr2 o2 hr2 TV=>?_;refine Y ?_;have hk:1<=1+(r2:Int)%10/\1+(r2:Int)%10<=10:=by lia
  generalize 1+(r2:Int)%10=k at hk;refine zZ TV (by lia) (by lia) λr3 o3 hr3 hp3=>?_;refine Y ?_;refine⟨_,_,_,rfl,rfl,?_,hp3⟩
  split<;>lia
 ·refine Y ?_;refine zZ hp (by decide) (by decide) λr2 o2 hr2 TV=>?_;refine Y ?_;have qg:r2<dW.length:=by show r2<12;lia
  refine fU (G3 (x:=aY dW[r2].1 dW[r2].2) ?_) ?_
  ·have:(dW.map λp=>aY p.1 p.2)[r2]?=some (aY dW[r2].1 dW[r2].2):=by rw[gD,cT qg];rfl
   exact this
  refine Y ?_;have key:∀p∈dW,1<=p.2/\p.2<=p.1/\p.1<=10:=by decide
  exact⟨_,_,_,rfl,rfl,key _ (List.getElem_mem _),TV⟩
section
variable {n:Int}{ps:List (Int×Int)}
end
theorem zh0{k:Nat}{n a b:Int}(ha:0<=a/\a<n)(hb:0<=b/\b<n):W (call aq T (k+4) true 12 [.d (.int n),.d (.tup [.int a,.int b])]) [] λv s=>v=.d (.bl (decide (a<b))):=by
 refine W.call Sh rfl ?_;unfold KQ;refine Y ?_;refine W.c0 Ce ?_;refine Y ?_;refine W.c0 H_ ?_;rw[gF ha];refine Y ?_;refine W.c0 H_ ?_;rw[gF hb];exact Y trivial
theorem zgz{k:Nat}{n:Int}{p:Int×Int}(ha:0<=p.1/\p.1<n)(hb:0<=p.2/\p.2<n)(hne:p.1≠p.2):W (call aq T (k+5) true 13 [.d (.int n),.d (bN p)]) [] λv s=>v=.d (bN (norm p)):=by
 obtain⟨a,b⟩:=p;dsimp only at ha hb hne;refine W.call Zm rfl ?_;unfold Rw norm;refine Y ?_;refine W.c0 (zh0 ha hb) ?_;refine W.bool ?_;by_cases h:a<b
 ·rw[gF h,if_pos h];exact Y trivial
 ·rw[jF h,if_neg h];refine Y ?_;refine W.c0 Ce ?_;refine Y ?_;refine W.c0 (zh0 hb ha) ?_;refine W.bool ?_;rw[gF (show b<a by lia)];refine Y ?_;rfl
theorem zhm{k:Nat}{n:Int}{us qs:List (Int×Int)}(h1:1<=n)(h8:n<=8)(ht:∀p∈us,(0<=p.1/\p.1<n)/\(0<=p.2/\p.2<n)/\p.1≠p.2)(nd:(us.map norm).Nodup)(hs:qG ((us.map norm).map bN)=some (qs.map bN)):W (call aq T (k+6) true 8 [.d (.int n),.d (.fl (us.map bN))]) [] λv s=>v=.d (bJ n qs):=by
 have hl:us.length<=28:=by
  have:=zfT h8 (ps:=us.map norm) (λp hp=>by
   obtain⟨q,hq,rfl⟩:=qy.mp hp;have:=ht q hq;unfold norm
   split<;>((try dsimp only);lia)) nd
  rwa [bV] at this
 refine W.call Zh rfl ?_;unfold b8;refine Y ?_;refine W.c0 (zhA h1 h8) ?_;refine Y ?_;refine zP (λi J s=>(∃a b c,J=[some (.d (.int n)),some (.d (.fl (us.map bN))),some (.l 0),a,b,c])/\s=[.lst (((us.take i).map norm).map bN)]) ⟨⟨_,_,_,rfl⟩,rfl⟩ (λi x J s e hI=>?_) (λJ s hI=>?_)
 ·obtain⟨⟨a,b,c,rfl⟩,rfl⟩:=hI;rw[QX,gD] at e;cases ep:us[i]? with
  |none=>rw[ep] at e;cases e
  |some p=>
   rw[ep] at e;cases e;have hp:=eZ ep;have hi:i<us.length:=(dX.mp ep).1;refine Y ?_;refine W.c0 (zgz (ht p hp).1 (ht p hp).2.1 (ht p hp).2.2) ?_;refine Y ?_;have hni:norm p∉(us.take i).map norm:=by
    intro hm;rw[List.map_take] at hm;obtain⟨j,hj,ej⟩:=List.mem_iff_getElem.mp hm;rw[ur] at hj;rw[List.getElem_take] at ej;have wC:i<(us.map norm).length:=by rw[bV];exact hi
    have e2:(us.map norm)[i]=norm p:=by
     rw[List.getElem_map];have:=cT hi;rw[ep] at this;rw[<-cD this]
    have:=(List.getElem_inj nd).mp (ej.trans e2.symm)
    lia
   refine fU (znr (f:=id)) ?_;rw[jF hni];refine Y ?_;refine⟨?_,?_⟩
   ·rw[bV,bV,ur];have:(64:Nat)<=sizeLine:=by decide
    lia
   refine Y ?_;refine⟨_,rfl,⟨_,_,_,rfl⟩,?_⟩;rw[CP,ep];simp
 ·obtain⟨⟨a,b,c,rfl⟩,rfl⟩:=hI;rw[QZ,bV,xT];refine Y ?_;refine BR (Q6 hs) ?_;refine Y ?_;rfl
theorem small{n k:Int}(h1:1<=n)(hk:1<=k)(h7:n<=8)(aad:k<=10)(h:n=8->k<=7):1+cnt k.toNat (n.toNat-1)+cnt k.toNat (n.toNat-1)+tot k.toNat (n.toNat-1)<sizeLine:=by
 by_cases c:n=8
 ·have:=Rt (k:=k.toNat) (k2:=7) (m:=n.toNat-1) (m2:=7) (by have:=h c;lia) (by lia);have:=Y8 (k:=k.toNat) (k2:=7) (m:=n.toNat-1) (m2:=7) (by have:=h c;lia) (by lia);have e:1+cnt 7 7+cnt 7 7+tot 7 7<sizeLine:=by decide
  lia
 ·have:=Rt (k:=k.toNat) (k2:=10) (m:=n.toNat-1) (m2:=6) (by lia) (by lia);have:=Y8 (k:=k.toNat) (k2:=10) (m:=n.toNat-1) (m2:=6) (by lia) (by lia);have e:1+cnt 10 6+cnt 10 6+tot 10 6<sizeLine:=by decide
  lia
theorem zi5{k':Nat}{k d:Int}:W (call aq T (k'+3) true 3 [.d (aY k d)]) [] λv s=>v=.d (.bl (decide (1<=k/\k<=24)&&decide (1<=d/\d<=k))):=by
 refine W.call Sg rfl ?_;unfold b3 aY;refine Y ?_;refine W.c0 Ce ?_;refine Y ?_;refine W.c0 cR ?_;by_cases c:1<=k/\k<=24
 ·rw[gF c];refine Y ?_;exact nj rfl (cR.imp λv s e=>⟨_,e,rfl⟩)
 ·rw[jF c];refine Y ?_;rfl
section
variable {n k d:Int}{ps:List (Int×Int)}{hs:List Int}
theorem zlQ{k':Nat}{i:Int}(h:Web n ps)(hi:0<=i/\i<n):W (call aq T (k'+7) true 9 [.d (bJ n ps),.d (.int i)]) [] λv s=>v=.d (.tup ((aQ i ps).map .int)):=by
 refine W.call Zi rfl ?_;unfold b9;refine Y ?_;refine W.c1 (TJ h) λ_=>?_;refine Y ?_;refine W.c1 (zeC hi) λ_=>?_;refine Y ?_;exact nj rfl ((zdQ h).imp λv s e=>⟨_,e,rfl⟩)
theorem zjj{k':Nat}{o:SO}(ho:m8 o)(h:Web n ps)(hr:1<=d/\d<=k/\k<=10)(hh:dw n k d ps hs):W (call aq T (k'+9) true 41 [.l 0,.d (bJ n ps),.d (aY k d),.d (.tup (hs.map .int))]) [o] λv s=>∃x o',v=.d x/\s=[o']/\x=.bl true/\m8 o':=by
 refine W.call Z0 rfl ?_;unfold R_ aY;have sW:(100:Nat)<=sizeLine:=by decide
 have h8:=h.h8;have hl:=hh.len;have hpl:=h.len;refine Y ?_;rw[gF (show k<24 by lia)];refine Y ?_;refine W.c0 (Ia (k':=k') (k:=k+1) h (by lia) (zfP hr.1 hh)) ?_;refine Y ?_;refine W.imp (P:=λx s1=>x=.d (.bl false)/\s1=[o]) ?_ λx s1 hx=>?_
 ·refine W.ite (λc=>?_) (λc=>?_)
  ·have c:=jN c;refine Y ?_;refine W.c0 (Ia (k':=k') (d:=d-1) h (by lia) (zgo c hh)) ?_;refine Y ?_;exact⟨rfl,rfl⟩
  ·refine Y ?_;exact⟨rfl,rfl⟩
 obtain⟨rfl,rfl⟩:=hx;refine Y ?_;refine pH (s:=[]) rfl ((Le (k:=k'+7) ho (m:=2) (by lia) (by lia)).imp λv s1=>?_);rintro⟨_,o1,rfl,rfl,⟨r,rfl,hr0,hr1⟩,hp⟩;refine⟨_,_,rfl,rfl,?_⟩;have hq:2+r=2\/2+r=3:=by lia
 refine Y ?_;generalize 2+r=q at hq ⊢;refine W.c0 (zi5 (k:=q*k) (d:=q*d)) ?_;refine Y ?_;refine W.imp (P:=λx s1=>x=.d (.bl false)/\s1=[o1]) ?_ λx s1 hx=>?_
 ·refine W.ite (λc=>?_) (λc=>?_)
  ·rw[gA,Ai,Ai] at c;refine Y ?_;refine pG (l:=hs) (f:=D.int) (λx=>some (.int (q*x))) (by lia) ?_ (λx hx=>?_) ?_
   ·refine Y ?_;exact⟨rfl,rfl⟩
   ·refine Y ?_;refine⟨rfl,λ_=>?_,λhb=>by cases hb⟩;refine Y ?_;exact⟨rfl,_,rfl,rfl⟩
   rw[t_,show hs.map (λx=>D.int (q*x))=(hs.map λx=>q*x).map .int by rw[uE];rfl];refine Y ?_;refine W.c0 (Ia (k':=k') (k:=q*k) (d:=q*d) h (by lia) (zeE h hr.1 hq hh)) ?_;refine Y ?_;exact⟨rfl,rfl⟩
  ·refine Y ?_;exact⟨rfl,rfl⟩
 obtain⟨rfl,rfl⟩:=hx;unfold bJ;refine Y ?_;refine fU (zmz (f:=not)) ?_;by_cases c:ps=[]
 ·rw[gF (List.map_eq_nil_iff.mpr c)];refine Y ?_;exact⟨_,_,rfl,rfl,rfl,hp⟩
 ·rw[jF (λz=>c (List.map_eq_nil_iff.mp z))];have Ob:0<ps.length:=List.length_pos_iff.mpr c;refine Y ?_;refine pH (s:=[]) rfl ((Le (k:=k'+7) hp (m:=((ps.map bN).length:Nat)) (by rw[bV];lia) (by rw[bV];lia)).imp λv s1=>?_);rintro⟨_,o2,rfl,rfl,⟨a,rfl,ha0,J5⟩,hp⟩;refine⟨_,_,rfl,rfl,?_⟩;rw[bV] at J5;obtain⟨t,rfl⟩:=vR ha0;refine Y ?_;rw[G7 (by rw[bV];lia),show (t:Int)+1=((t+1:Nat):Int) by lia,vN (by rw[bV];lia)];have sl:(ps.take t++ps.drop (t+1)).Sublist ps:=by rw[<-List.eraseIdx_eq_take_drop_succ];exact List.eraseIdx_sublist ..
  refine fU (d:=.tup ((ps.take t++ps.drop (t+1)).map bN)) ?_ ?_
  ·rw[vY,List.map_take,List.map_drop];refine zlt ?_;rw[ur,Cy,bV]
   lia
  refine Y ?_;refine W.c0 (Ia (k':=k') (ziX h sl) (by lia) (zhl hh sl)) ?_;refine Y ?_;exact⟨_,_,rfl,rfl,rfl,hp⟩
end
theorem sX(ns:List Int)(hn:ns.length<=63):∃s',call aq T 60 true 42 [.d (.fl (ns.map D.int))] []=some (.ok (.d (.bl true)),s'):=by
 suffices h:W (call aq T 60 true 42 [.d (.fl (ns.map D.int))]) [] λv _=>v=.d (.bl true) by
  obtain⟨v,s',e,rfl⟩:=h;exact⟨s',e⟩
 have hs:(1000:Nat)<=sizeLine:=by decide
 refine W.call (k:=59) Z9 rfl ?_;unfold Sd;refine Y ?_;refine nj rfl ((zkp (k:=58)).imp λv _=>?_);rintro⟨n0,rfl⟩;refine⟨_,rfl,?_⟩;refine Y ?_;refine BR (Xj ?_) ?_
 ·have:=zh9 (ns:=ns) (lo:=some 1) (hi:=some 5);show 1+_<=_
  lia
 refine Y ?_;refine zP (λ_ J s=>∃(a b c d e f g h:Option Xv),J=[some (.d (.fl (ns.map D.int))),a,b,c,d,e,f,g,h]) ⟨_,_,_,_,_,_,_,_,rfl⟩ (λi x J s hx Aa=>?_) (λJ s Aa=>?_)
 ·obtain⟨m,rfl⟩ : ∃m,x=.int m:=by
   rcases nD.mp (eZ hx) with z|z
   ·rcases gG.mp z with rfl|z
    ·exact⟨_,rfl⟩
    ·cases z
   ·exact ziB z
  obtain⟨a,b,c,d,e,f,g,h',rfl⟩:=Aa;refine Y ?_;refine Kan rfl ((zm0 (k:=58)).imp λv s1=>?_);rintro⟨j,o,rfl,hj,hp⟩;refine⟨j,o,rfl,hj,?_⟩;refine Y ?_;refine pH rfl ((zlX (k:=57) hp).imp λv s1=>?_);rintro⟨z,o1,rfl,rfl,⟨hz1,hz8⟩,hp⟩;refine⟨_,_,rfl,rfl,?_⟩;refine Y ?_;refine pH rfl ((zf9 (k:=57) hp (n:=z) (by lia) (by lia)).imp λv s1=>?_);rintro⟨ps,o2,rfl,rfl,hw,hp⟩;refine⟨_,_,rfl,rfl,?_⟩;refine Y ?_;refine pH rfl ((ziE (k':=57) hp).imp λv s1=>?_);rintro⟨kk,dd,o3,rfl,rfl,hr,hp⟩;refine⟨_,_,rfl,rfl,?_⟩;have ew:bJ z ps=.tup [.int z,.tup (ps.map bN)]:=rfl;have er:aY kk dd=.tup [.int kk,.int dd]:=rfl;refine Xm (QF (QF (Xi (W.dat (sE.mk rfl ?_)))));refine X5 (λJ s'=>∃kk dd:Int,(1<=dd/\dd<=kk/\kk<=10)/\((z:Int)=8->kk<=7)/\s'=s++[o3]/\J=[some (.d (.fl (ns.map D.int))),some (.d (.int m)),some (.l s.length),some (.d (bJ z ps)),some (.d (aY kk dd)),e,f,g,h']) ?_ (λJ s' hR=>?_)
  ·refine Y ?_;refine W.ite (λh8=>?_) (λh8=>?_)
   ·refine Y ?_;refine WS.ite (λh7=>?_) (λh7=>?_)
    ·refine Y ?_;exact⟨_,rfl,7,3,by decide,λ_=>by decide,rfl,rfl⟩
    ·refine Y ?_;exact⟨_,rfl,kk,dd,hr,λ_=>by have:¬kk>7:=λz=>h7 (gF z);lia,rfl,rfl⟩
   ·refine Y ?_;exact⟨_,rfl,kk,dd,hr,λz8=>absurd (by simpa using z8) h8,rfl,rfl⟩
  clear hr er kk dd;obtain⟨kk,dd,hr,h7,rfl,rfl⟩:=hR;have er:aY kk dd=.tup [.int kk,.int dd]:=rfl;have TX:1<=dd/\dd<=kk/\kk<=24:=by lia
  have w0:Web z []:=⟨hw.h1,hw.h8,by simp,by simp,by simp;lia⟩;have hsm:=small (n:=z) (k:=kk) (by lia) (by lia) (by lia) (by lia) h7;refine Y ?_;refine nj rfl ((zbL (k':=19) hw hr.1 hr.2.1 (by lia) hsm).imp λv s1 hv=>?_);refine(show ∃fd,v=.d fd/\(fd=.non\/∃hs,fd=.tup (hs.map .int)/\dw z kk dd ps hs) by
   rcases hv with ⟨rfl,tR⟩|⟨hf,rfl,hh,hg⟩
   ·exact⟨_,rfl,.inl rfl⟩
   ·exact⟨_,rfl,.inr ⟨hf,rfl,hh⟩⟩).elim λfd TY=>?_
  obtain⟨rfl,TY⟩:=TY;clear hv;refine⟨_,rfl,?_⟩;refine X5 (λJ s'=>∃o4,m8 o4/\s'=s++[o4]/\J=[some (.d (.fl (ns.map D.int))),some (.d (.int m)),some (.l s.length),some (.d (bJ z ps)),some (.d (aY kk dd)),some (.d fd),f,g,h']) ?_ (λJ s' hR=>?_)
  ·rcases TY with rfl|⟨hf,rfl,hh⟩
   ·refine Y ?_;exact⟨_,rfl,o3,hp,rfl,rfl⟩
   ·refine Y ?_;refine pH rfl ((zjj (k':=50) hp hw hr hh).imp λv s1=>?_);rintro⟨_,o4,rfl,rfl,rfl,hp⟩;refine⟨_,_,rfl,rfl,?_⟩;refine Y ?_;exact⟨_,rfl,o4,hp,rfl,rfl⟩
  obtain⟨o4,hp,rfl,rfl⟩:=hR;refine Y ?_;refine Xz (c:=(List.range ((z:Int)-0).toNat).map λ(j:Nat)=>.int (0+j)) (λi acc s'=>∃(o:SO) (ds:List Int),s'=s++[o]/\m8 o/\acc=ds.map .int/\ds.length=i/\∀x∈ds,0<=x/\x<kk) ?_ (λi x acc s' e hI=>?_) (λacc s' hI=>?_)
  ·refine Y ?_;refine⟨by rw[j8 (by lia) (by lia),j8 (by lia) (by lia)];rfl,?_⟩;exact⟨rfl,o4,[],rfl,hp,rfl,rfl,by simp⟩
  ·obtain⟨o,ds,rfl,hp,rfl,hl,wB⟩:=hI;have hi:=(dX.mp e).1;rw[bV,nu] at hi;refine Y ?_;refine⟨λ_=>?_,λhb=>by cases hb⟩;refine Y ?_;refine pH rfl ((Le (k:=58) hp (m:=kk) (by lia) (by lia)).imp λv s1=>?_);rintro⟨_,o4,rfl,rfl,⟨r,rfl,hr0,hr1⟩,hp⟩;refine⟨_,_,rfl,rfl,?_⟩;refine⟨_,rfl,by rw[bV];lia,o4,ds++[r],rfl,hp,by rw[vY];rfl,by simp[hl],λx hx=>?_⟩;rcases nD.mp hx with hx|hx
   ·exact wB x hx
   ·rw[Cu.mp hx];exact⟨hr0,hr1⟩
  obtain⟨o,ds,rfl,hp,rfl,hl,wB⟩:=hI;rw[bV,nu] at hl;have hl:(ds.length:Int)=z:=by lia
  refine Y ?_;have hz0:dw z kk dd [] ds:=⟨hl,wB,λp hp=>by cases hp⟩;have e0:D.tup [.int z,.tup []]=bJ z []:=rfl;rw[e0];refine W.c0 (Ia (k':=51) w0 TX hz0) ?_;refine Y ?_;rw[e0];refine nj rfl ((zbL (k':=19) w0 hr.1 hr.2.1 (by lia) hsm).imp λv s1 hv=>?_);rcases hv with ⟨rfl,tR⟩|⟨hf,rfl,hh,hg⟩
  ·exact absurd (Zb (by lia) (by lia)) (tR _)
  refine⟨_,rfl,?_⟩;have ef:=ze7 (by lia) (by lia) hh hg;refine Y ?_;refine fU (zlB (n:=z) (by lia)) ?_;refine Y ?_;refine fU (YX (f:=not)) ?_;rw[gF ef];refine Y ?_;have hpl:=hw.len;refine pG (l:=ps.reverse) (f:=bN) (λp=>some (bN (p.2,p.1))) (by rw[Lx];lia) ?_ (λp hp=>?_) ?_
  ·refine Y ?_;exact⟨by rw[List.map_reverse],rfl⟩
  ·obtain⟨p1,p2⟩:=p;refine Y ?_;refine⟨rfl,λ_=>?_,λhb=>by cases hb⟩;refine Y ?_;exact⟨rfl,_,rfl,rfl⟩
  rw[t_,show ps.reverse.map (λp=>bN (p.2,p.1))=(ps.reverse.map λp=>(p.2,p.1)).map bN by rw[uE];rfl];refine Y ?_;have GJ:((ps.reverse.map λp=>(p.2,p.1)).map norm).Nodup:=by
   rw[Zc hw];exact List.pairwise_reverse.mpr ((Q5 hw.inc).imp λh e=>h e.symm)
  refine W.c0 (zhm (k:=53) (qs:=ps) hw.h1 hw.h8 (λp hp=>?_) GJ (by rw[Zc hw];exact zjt hw)) ?_
  ·obtain⟨q,hq,rfl⟩:=qy.mp hp;have:=hw.tie q (Iv.mp hq);dsimp only
   lia
  refine Y ?_;refine fU (d:=.bl false) (by show Option.map _ (bZ 50 (bJ z ps) (bJ z ps))=_;rw[zjK];rfl) ?_;refine Y ?_;refine⟨by rw[j8 (by lia) (by lia),j8 (by lia) (by lia)];rfl,?_⟩;refine zP (c:=(List.range ((z:Int)-0).toNat).map λ(j:Nat)=>.int (0+j)) (λi J _=>∃a8,J=[some (.d (.fl (ns.map D.int))),some (.d (.int m)),some (.l s.length),some (.d (bJ z ps)),some (.d (aY kk dd)),some (.d fd),some (.d (.tup (ds.map .int))),some (.d (.int (lM ps i))),a8]) ⟨_,rfl⟩ (λi x J s1 e hI=>?_) (λJ s1 hI=>?_)
  ·obtain⟨a8,rfl⟩:=hI;obtain⟨hi,e⟩:=dX.mp e;rw[List.getElem_map,LQ] at e;rw[bV,nu] at hi;subst e;refine Y ?_;refine W.c0 (zlQ (k':=52) hw (by lia)) ?_;refine Y ?_;rw[bV,show (0:Int)+(i:Nat)=(i:Int) by lia];exact⟨_,rfl,_,rfl⟩
  ·obtain⟨a8,rfl⟩:=hI;rw[bV,nu,show ((z:Int)-0).toNat=(z:Int).toNat by lia,Za hw.tie];refine Y ?_;refine WS.Kp ?_ ?_
   ·rw[bV];simp
   refine Y ?_;exact⟨_,rfl,_,_,_,_,_,_,_,_,rfl⟩
 ·obtain⟨a,b,c,d,e,f,g,h',rfl⟩:=Aa;exact Y trivial
end dM
open PySem PySem.W PyProof.Rows
set_option maxRecDepth 100000 in
set_option maxHeartbeats 0 in
theorem PySem.Challenge.cw_ringhues_k08_whole_longer_rings_holds : PySem.Challenge.rw_ringhues_k08_whole_longer_rings.Holds := by
 refine PySem.W.holds_law dM.ws λsaid=>?_;refine holds_open (q:=dM.qv) (loose:=dM.loose) (Xt:=λs=>xlAt dM.qv [] s&&recOk [] s) (XP:=XL dM.qv []) (Yf:=(Mi.j9 dM.fs dM.ms dM.xs dM.lk dM.bd).obs) (Ya:=(Mi.j9 dM.fs dM.ms dM.xs dM.lk dM.bd).val) (YP:=(Mi.j9 dM.fs dM.ms dM.xs dM.lk dM.bd).says) (N:=20000) dM.left (Mi.j9 dM.fs dM.ms dM.xs dM.lk dM.bd).of (Mi.j9 dM.fs dM.ms dM.xs dM.lk dM.bd).keeps (λs e=>xl_of s (Bool.and_eq_true_iff.mp e).1) XL.keeps (by rfl) (by rfl) (by rfl) (λs e=>recFacts_of (Bool.and_eq_true_iff.mp e).2) (by rfl) (by first|assumption|decide +kernel) (by decide +kernel) ⟨rfl,rfl,rfl,rfl,rfl,by decide +kernel⟩ ?hw ?hc
 case hw=>w_witness2
 case hc=>exact Mi.Ht (l:=PySem.Challenge.rw_ringhues_k08_whole_longer_rings) (x:="_law_script") (k:=60) rfl rfl ⟨by decide,by decide,rfl⟩ (λw K mg fa h S X G Tz=>dM.all_mk dM.sX S X G Tz)
