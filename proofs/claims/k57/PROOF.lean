import PyProof.Rows.All
import Wide.All
import KE.KIsAll
import KE.KSortTup
import KE.KTryDeep
import KE.KFromBytes
import KE.KDictOf
import Wide.FinOn
import PySem.Challenge.RW_ringhues_k57_whole_counts_and_maps
set_option compiler.extract_closed false
abbrev aB:=@PySem.wpAny_bind
abbrev cM:=@PySem.Heap.get?_push_of_some
abbrev dO:=@List.getElem?_eq_getElem
abbrev aN:=@PySem.wpAny_pure
abbrev eO:=@List.getElem?_eq_some_iff
abbrev cL:=@Option.some.inj
abbrev bZ:=@PySem.Heap.lt_size
abbrev cR:=@List.length_map
abbrev fX:=@List.mem_of_getElem?
abbrev fL:=@PySem.Heap.get?_push_size
abbrev b_:=@Nat.le_refl
abbrev h_:=@List.mem_cons_of_mem
abbrev kW:=@List.getD_eq_getElem?_getD
abbrev fu:=@List.all_eq_true
abbrev fZ:=@List.size_toArray
abbrev gF:=@of_decide_eq_true
abbrev f9:=@List.length_cons
abbrev iM:=@Nat.lt_of_lt_of_le
abbrev iu:=@List.getElem?_map
abbrev gQ:=@Bool.and_eq_true
abbrev dN:=@Nat.ne_of_lt
abbrev gq:=@decide_eq_true
abbrev lV:=@Option.map_eq_some_iff
abbrev oX:=@List.getElem?_append_left
abbrev o8:=@List.getElem?_append_right
abbrev m_:=@List.mem_append_right
abbrev gG:=@List.map_cons
abbrev qm:=@List.getElem?_eq_none_iff
abbrev lC:=@List.mem_cons_self
abbrev lD:=@List.length_append
abbrev jK:=@List.mem_filter
abbrev iU:=@List.mem_cons
abbrev nj:=@Int.toNat_natCast
abbrev vV:=@PyProof.Rows.slot_tuple_getitem
abbrev qp:=@List.getElem?_set_ne
abbrev nG:=@List.length_range
abbrev gH:=@PySem.wpAny_mono
abbrev o9:=@PySem.wpAny_newObj_type
abbrev j8:=@Nat.le_trans
abbrev o_:=@List.lookup_cons
abbrev qZ:=@List.mem_singleton
abbrev oY:=@List.mem_append
abbrev pq:=@List.map_append
abbrev pA:=@List.length_set
abbrev vW:=@Int.eq_ofNat_of_zero_le
abbrev j9:=@PySem.wpAny_field
abbrev vX:=@PySem.Heap.get?_update_other
abbrev q_:=@decide_eq_decide
abbrev zx:=@PyProof.Rows.callWith_type1
abbrev xZ:=@PySem.wpAny_callSpecial?_slot
abbrev rm:=@decide_eq_false
abbrev yc:=@List.getElem?_set_self
abbrev pB:=@Nat.lt_irrefl
abbrev u6:=@Bool.false_eq_true
abbrev vY:=@List.getElem_of_mem
abbrev rz:=@PySem.wpAny_seqItems
abbrev u9:=@PySem.wpAny_truthy_bool
abbrev qu:=@PySem.wpAny_holding
abbrev zy:=@List.getElem?_replicate
abbrev u_:=@Nat.lt_succ_of_lt
abbrev zA:=@Option.bind_eq_some_iff
abbrev vd:=@List.flatMap_cons
abbrev pC:=@List.mem_map
abbrev zB:=@PySem.Heap.get?_update_self
abbrev yd:=@PySem.Obj.data_mapFields
abbrev Cv:=@List.getElem?_cons_succ
abbrev vZ:=@PySem.wpAny_call_entry
abbrev zE:=@beq_eq_false_iff_ne
abbrev zF:=@List.filterMap_cons
abbrev zG:=@Array.length_toList
abbrev vf:=@List.mem_range
abbrev vg:=@PySem.Heap.size_push
abbrev v7:=@List.append_nil
abbrev v8:=@List.nodup_cons
abbrev zJ:=@List.mem_filterMap
abbrev pD:=@beq_iff_eq
abbrev Fg:=@List.length_filterMap_le
abbrev zK:=@decide_eq_true_iff
abbrev yg:=@List.length_take
abbrev Cw:=@Nat.mul_le_mul_right
abbrev Cy:=@PySem.mem_of_lookup
abbrev Cz:=@List.getElem?_range
abbrev lW:=@congrArg
abbrev J7:=@PySem.F.slot_tuple_iterator_next
abbrev zL:=@beq_self_eq_true
abbrev zM:=@List.take_length
abbrev zN:=@PySem.F.plain_min_loop
abbrev v9:=@PySem.wpAny_standAt
abbrev vh:=@Nat.ne_of_gt
abbrev CG:=@PySem.wpAny_Call_Name_kw
abbrev Fj:=@List.length_replicate
abbrev CJ:=@PySem.wpAny_setField_rec
abbrev Fl:=@List.filterMap_append
abbrev CK:=@List.pairwise_cons
abbrev CP:=@Int.emod_lt_of_pos
abbrev Fp:=@PySem.Heap.get?_none_of_le
abbrev Fq:=@PySem.Around.under_plainId
abbrev zO:=@PySem.wpAny_passesOwn
abbrev J8:=@PySem.wpAny_comprehension_free
abbrev J9:=@PySem.AutoSeq1.wpAny_loadPart'
abbrev CQ:=@List.append_assoc
abbrev zP:=@Int.emod_nonneg
abbrev wg:=@Nat.le_of_lt
abbrev wj:=@List.map_map
abbrev vm:=@PySem.sizeLine_eq
abbrev CT:=@List.countP_cons
abbrev Ft:=@Bool.false_ne_true
abbrev Fw:=@List.zip_cons_cons
abbrev CV:=@List.length_nil
abbrev wu:=@Nat.zero_le
abbrev J_:=@PySem.Obj.isFreed_of_fields
abbrev CW:=@List.forIn_cons
abbrev Ka:=@List.length_filter_le
abbrev qw:=@if_false
abbrev zQ:=@List.all_cons
abbrev Fx:=@decide_eq_true_eq
abbrev CZ:=@List.nodup_nil
abbrev Fy:=@Nat.lt_succ_self
abbrev Fz:=@List.filter_cons
abbrev zR:=@PySem.codeAny_mono
abbrev NT:=@Option.isSome_iff_exists
abbrev NZ:=@PySem.F.args_tuple_add_2
abbrev N5:=@PySem.F.entry_tuple_add
abbrev FJ:=@PySem.codeAny_builtin
abbrev V1:=@List.take_succ_eq_append_getElem
abbrev N6:=@PySem.W.cellsFrom_some
abbrev N7:=@PySem.F.slot_tuple_add
abbrev N8:=@List.range_succ_eq_map
abbrev N_:=@List.length_pos_of_mem
abbrev Kc:=@PySem.Heap.get?_push_ne
abbrev zT:=@PySem.wpAny_letGo
abbrev Ke:=@PySem.wpAny_pyIter_list
abbrev Kf:=@List.reverse_cons
abbrev Kg:=@List.nodup_append
abbrev Kh:=@List.pairwise_map
abbrev FN:=@PySem.wpAny_setField
abbrev FP:=@List.take_succ
abbrev Oa:=@Int.emod_add_mul_ediv
abbrev Ob:=@List.countP_le_length
abbrev Kl:=@Nat.le_of_not_lt
abbrev Km:=@PySem.wpAny_isInstance
abbrev Oc:=@PySem.wpAny_updateSeq_pair
abbrev FQ:=@PySem.wpAny_attempt
abbrev FT:=@PySem.plainId_quiet
abbrev Od:=@PySem.W.plainGet_of
abbrev C_:=@PySem.wpAny_of_eq
abbrev Ko:=@PySem.F.slot_zip_next
abbrev Kp:=@List.range_succ
abbrev Oe:=@PySem.W.callWith_K
abbrev FW:=@PySem.wpAny_typeOf
abbrev Og:=@Array.forIn_toList
abbrev Oh:=@List.getElem_range
abbrev FZ:=@Nat.succ_mul
abbrev Kq:=@List.forIn_nil
abbrev Kr:=@Nat.mul_le_mul
abbrev Dg:=@Nat.not_lt
abbrev Dh:=@PySem.wpAny_rule
abbrev Oi:=@List.getElem?_inj
abbrev Oj:=@List.map_inj_left
abbrev Ol:=@List.Sublist.refl
set_option Elab.async false
set_option linter.all false
set_option maxRecDepth 100000
set_option maxHeartbeats 4000000
namespace L2
open PySem PySem.Spec PyProof.Rows PySem.W
noncomputable def subIn(K:W.Frag)(C D:Addr):Bool:=PySem.W.ktsIn K C "BaseException"&&PySem.W.ktsIn K D "BaseException"&&match K.lookup C with
 |some ⟨_,_,.cls cd,_⟩=>cd.mro.contains (.ref D)
 |_=>false
noncomputable def Ga:List Value:=[.type "ValueError",.type "Exception",.type "BaseException",.type "object"]
noncomputable def sW:List Value->Bool
 |.ref _::r=>sW r
 |l=>l==Ga
noncomputable def sX(K:Frag)(C fI:Addr):Bool:=match K.lookup C with
 |some ⟨.type "type",_,.cls cd,sl⟩=>(match cd.mro,sl.toList with
  |.ref C'::bm,[_,_,_,_,some (.builtin n),_]=>C'==C&&n=="ValueError.__new__" && !cd.hasDel&&tailIn K Ga bm&&nsOkIn K cd.ns&&nsIn K cd.ns "__init__"==some (some (.ref fI))
  |_,_=>false)
 |_=>false
noncomputable def aY(s:Stmt):Arguments:=match s with
 |.FunctionDef _ a _ _ _ _ _ _ _ _=>a
 |_=>{posonlyargs:=[],args:=[],vararg:=none,kwonlyargs:=[],kw_defaults:=[],kwarg:=none,defaults:=[]}
noncomputable def aK(s:Stmt):List Stmt:=match s with
 |.FunctionDef _ _ b _ _ _ _ _ _ _=>b
 |_=>[]
noncomputable def au(s:Stmt):Scope:=match s with
 |.FunctionDef _ _ _ _ _ _ sc _ _ _=>sc
 |_=>{kind:=.function,names:=[],isGenerator:=false,isCoroutine:=false}
end L2
namespace Mi
open PySem PySem.Spec PyProof.Rows L2 PySem.W
noncomputable def Ks(n c:Nat):Nat:=if c<n then c else 0
noncomputable def Gb(n c e:Nat):Bool:=Ks n e==0||Ks n c==Ks n e
noncomputable def iV(L:List Addr)(c:Nat):Addr:=L.getD (Ks L.length c) 0
noncomputable def xcB(K:W.Frag)(C:Addr):Bool:=
 PySem.W.findIn K (.ref C) "__getattribute__"==some (some (.builtin "BaseException.__getattribute__"))&&PySem.W.findIn K (.ref C) "__getattr__"==some none&&PySem.W.findIn K (.ref C) "__class__"==some (some (.builtin "object.__class__")) &&
 PySem.W.mroIn K C (.type "BaseException")==some true&&PySem.W.mroIn K C (.type "object")==some true&&(PySem.W.clsIn K C).isSome &&
 PySem.W.specialIn K (.builtin "object.__class__") "__get__"==some (some (.builtin "getset_descriptor.__get__"))&&PySem.W.takesIn K (.builtin "object.__class__")==some true
noncomputable def yh(K:W.Frag)(L:List Addr):Bool:=(List.range L.length).all λc=>xcB K (L.getD c 0)&&PySem.W.kitOne K (.ref (L.getD c 0)) (.type "ValueError")==some true &&
 (List.range L.length).all λe=>PySem.W.kitOne K (.ref (L.getD c 0)) (.ref (L.getD e 0))==some (Gb L.length c e)
noncomputable def subB(K:W.Frag)(L:List Addr)(d:Nat):Bool:=(List.range L.length).all λc=>!(Gb L.length c d)||L2.subIn K (L.getD c 0) (iV L d)
noncomputable def nH(fd:FuncData):FuncData:={fd with kwdefaults:=.none,doc:=.none,pyModule:=.none,annotations:=none,code:=.none,closureTuple:=.none}
noncomputable def vo(x:Str)(st:Stmt):FuncData:=fnOf x x (aY st) (aK st) (au st) .none .none .none .none none .none .none
noncomputable def zU(K:Frag)(x:Str):Option (Addr×FuncData):=match nsIn K mainGlobals x with
 |some (some (.ref f))=>(match K.lookup f with
  |some ⟨_,_,.func fd,_⟩=>(match codeIn K fd.code x&&keepIn K (.ref f) with
   |true=>some (f,fd)
   |false=>none)
  |_=>none)
 |_=>none
noncomputable def dR(K:Frag)(x:Str):Addr:=match nsIn K mainGlobals x with
 |some (some (.ref C))=>C
 |_=>0
noncomputable def sY(K:Frag)(x:Str):Bool:=match nsIn K mainGlobals x with
 |some (some (.ref _))=>true
 |_=>false
noncomputable def lX(K:Frag)(p:Str×Int):Bool:=match nsIn K mainGlobals p.1 with
 |some (some (.int i _))=>decide (i=p.2)
 |_=>false
noncomputable def qx(K:Frag)(x:Str):Bool:=match nsIn K mainGlobals x with
 |some none=>true
 |_=>false
noncomputable def Gd(K:Frag)(C:Addr):Bool:=excIn K C [.type "ValueError",.type "Exception",.type "BaseException",.type "object"] "ValueError.__new__"
structure Lk where
 Gf:List Str
 yj:List (Str×Int)
 V2:List Str
 V3:List Nat
 V4:List Nat
noncomputable def Lk.L(l:Lk)(K:Frag):List Addr:=l.Gf.map (dR K)
noncomputable def Lk.good(l:Lk)(K:Frag):Bool:=
 l.Gf.all (sY K)&&(l.Gf.isEmpty||yh K (l.L K))&&l.V3.all (λk=>Gd K (iV (l.L K) k))&&l.V4.all (λk=>subB K (l.L K) k)&&l.yj.all (lX K)&&l.V2.all (qx K)
noncomputable def qy(h:Heap):List Addr->Frag
 |[]=>[]
 |a::r=>match h.get? a with
  |some o=>(a,o)::qy h r
  |none=>qy h r
noncomputable def dZ(s:Stmt):List Stmt:=match s with
 |.ClassDef _ _ _ b _ _ _ _ _ _ _=>b
 |_=>[]
noncomputable def zV(q:Str)(st:Stmt):FuncData:=fnOf "__init__" q (aY st) (aK st) (au st) .none .none .none .none none .none .none
noncomputable def Gg(K:Frag)(C:Addr):Option FuncData:=match clsIn K C with
 |some cd=>(match nsIn K cd.ns "__init__" with
  |some (some (.ref f))=>(match K.lookup f with
   |some ⟨.type "function",_,.func fd,_⟩=>(match codeIn K fd.code fd.qualname&&sX K C f&&sW cd.mro&&cd.hasDict with
    |true=>some fd
    |false=>none)
   |_=>none)
  |_=>none)
 |none=>none
noncomputable def setB(K:Frag)(C:Addr)(fs:List Str):Bool:=findIn K (.ref C) "__setattr__"==some (some (.builtin "object.__setattr__"))&&fs.all (λf=>findIn K (.ref C) f==some none)
noncomputable def Ku(K:Frag)(C:Addr)(f:Str):Bool:=findIn K (.ref C) "__getattribute__"==some (some (.builtin "BaseException.__getattribute__"))&&findIn K (.ref C) "__getattr__"==some none&&mroIn K C (.type "BaseException")==some true&&findIn K (.ref C) f==some none&&hasDictIn K C
structure sZ where
 c:Nat
 q:Str
 st:Stmt
 fs:List Str
noncomputable def Gh:Nat->List Obj->Frag
 |_,[]=>[]
 |i,o::r=>match o.isFreed with
  |true=>Gh (i+1) r
  |false=>(i,o)::Gh (i+1) r
noncomputable def bT(h:Heap):Frag:=qy h [mainGlobals]++(Gh 0 h.objs.toList).reverse
noncomputable def lY(fs:List (Str×Stmt))(ms:List sZ)(xs:List (Nat×Str))(l:Lk)(s:Shared):List (Option FuncData)×List (Option FuncData)×Bool:=
 (fs.map (λp=>(zU (bT s.heap) p.1).map (λq=>nH q.2)),ms.map (λm=>(Gg (bT s.heap) (iV (l.L (bT s.heap)) m.c)).map nH),
  l.good (bT s.heap)&&ms.all (λm=>setB (bT s.heap) (iV (l.L (bT s.heap)) m.c) m.fs)&&xs.all (λx=>Ku (bT s.heap) (iV (l.L (bT s.heap)) x.1) x.2))
noncomputable def nJ(fs:List (Str×Stmt))(ms:List sZ)(w:World):List (Option FuncData)×List (Option FuncData)×Bool:=(fs.map (λp=>some (vo p.1 p.2)),ms.map (λm=>some (zV m.q m.st)),true)
noncomputable def Kv(fs:List (Str×Stmt))(s:Shared):List (Option FuncData):=fs.map (λp=>(zU (bT s.heap) p.1).map (λq=>nH q.2))
noncomputable def V5(ms:List sZ)(xs:List (Nat×Str))(l:Lk)(s:Shared):List (Option FuncData)×Bool:=(ms.map (λm=>(Gg (bT s.heap) (iV (l.L (bT s.heap)) m.c)).map nH),
  l.good (bT s.heap)&&ms.all (λm=>setB (bT s.heap) (iV (l.L (bT s.heap)) m.c) m.fs)&&xs.all (λx=>Ku (bT s.heap) (iV (l.L (bT s.heap)) x.1) x.2))
theorem zeZ{p q:Program}{loose:List Str}{Xt:Shared->Bool}{N:Nat}{fs1 rA:List (Str×Stmt)}{ms:List sZ}{xs:List (Nat×Str)}{l:Lk}
  (a:∀w,(openEnds treeTable p w N).map (λs=>openSeen q loose (importedModules p.main.body) Xt true s)=some (openGood q loose))
  (b1:∀w,(openEnds treeTable p w N).map (Kv fs1)=some (fs1.map λp=>some (vo p.1 p.2)))
  (b2:∀w,(openEnds treeTable p w N).map (Kv rA)=some (rA.map λp=>some (vo p.1 p.2)))
  (c:∀w,(openEnds treeTable p w N).map (V5 ms xs l)=some (ms.map (λm=>some (zV m.q m.st)),true)):LeftO p q loose Xt (lY (fs1++rA) ms xs l) (nJ (fs1++rA) ms) N:=by
 intro w;have a:=a w;have b1:=b1 w;have b2:=b2 w;have c:=c w;cases e:openEnds treeTable p w N with
 |none=>rw[e] at a;cases a
 |some s=>
  rw[e] at a b1 b2 c;have a:openSeen q loose (importedModules p.main.body) Xt true s=openGood q loose:=cL a;have b1:=cL b1;have b2:=cL b2;have c:=cL c;have c1:=lW Prod.fst c;have c2:=lW Prod.snd c;show some (_,lY (fs1++rA) ms xs l s)=_;rw[a];have:lY (fs1++rA) ms xs l s=nJ (fs1++rA) ms w:=by
   unfold lY nJ;rw[pq,pq];have b1:List.map _ fs1=List.map _ fs1:=b1;have b2:List.map _ rA=List.map _ rA:=b2;rw[b1,b2];exact Prod.ext rfl (Prod.ext c1 c2)
  rw[this]
structure Bd where
 n:Str
 fs:List Str
 ms:List (Str×Str×Stmt)
noncomputable def lE(K:Frag)(C:Addr)(m:Str):Option (Addr×FuncData):=match findIn K (.ref C) m with
 |some (some (.ref f))=>(match K.lookup f with
  |some ⟨_,_,.func fd,_⟩=>(match codeIn K fd.code fd.qualname&&keepIn K (.ref f)&&isFn K (.ref f) with
   |true=>some (f,fd)
   |false=>none)
  |_=>none)
 |_=>none
noncomputable def Di(m q:Str)(st:Stmt):FuncData:=fnOf m q (aY st) (aK st) (au st) .none .none .none .none none .none .none
noncomputable def yp(K:Frag)(b:Bd):Bool:=sY K b.n&&plainGet K (dR K b.n) Str.empty&&hasDictIn K (dR K b.n)&&plainOver K (dR K b.n)&&findIn K (.ref (dR K b.n)) "__setattr__"==some (some (.builtin "object.__setattr__"))&&makesIn K (dR K b.n)&&keepIn K (.ref (dR K b.n))&&b.fs.all (λf=>findIn K (.ref (dR K b.n)) f==some none)
noncomputable def zW(b:Bd)(s:Shared):List (Option FuncData)×Bool:=(b.ms.map λp=>(lE (bT s.heap) (dR (bT s.heap) b.n) p.1).map λq=>nH q.2,yp (bT s.heap) b)
noncomputable def zX(b:Bd):List (Option FuncData)×Bool:=(b.ms.map λp=>some (Di p.1 p.2.1 p.2.2),true)
theorem zjQ{p q:Program}{loose:List Str}{Xt:Shared->Bool}{N:Nat}{fs:List (Str×Stmt)}{ms:List sZ}{xs:List (Nat×Str)}{l:Lk}{b:Bd}(h:LeftO p q loose Xt (lY fs ms xs l) (nJ fs ms) N)(e:∀w,(openEnds treeTable p w N).map (zW b)=some (zX b)) :
  LeftO p q loose Xt (λs=>(lY fs ms xs l s,zW b s)) (λw=>(nJ fs ms w,zX b)) N:=by
 intro w;have h:=h w;have e:=e w;cases z:openEnds treeTable p w N with
 |none=>rw[z] at e;cases e
 |some s=>
  rw[z] at h e;have e:zW b s=zX b:=cL e;have h:=cL h;have h1:=lW Prod.fst h;have h2:=lW Prod.snd h;show some (_,_,_)=some (_,_,_);rw[e];exact lW some (Prod.ext h1 (Prod.ext h2 rfl))
end Mi
namespace dX
open PySem PySem.Spec PyProof.Rows PySem.W L2 Mi
noncomputable def top(i:Nat):Stmt:=PySem.Challenge.pw_ringhues_k57_whole_counts_and_maps.main.body.getD i (.Pass ⟨0,0,0,0⟩)
noncomputable def Dj:Stmt:=(dZ (top 24)).getD 0 (.Pass ⟨0,0,0,0⟩)
noncomputable def Gi:Stmt:=(dZ (top 24)).getD 1 (.Pass ⟨0,0,0,0⟩)
noncomputable def Dk:Stmt:=(dZ (top 24)).getD 2 (.Pass ⟨0,0,0,0⟩)
noncomputable def Dl:Stmt:=(dZ (top 24)).getD 3 (.Pass ⟨0,0,0,0⟩)
noncomputable def Dm:Stmt:=(dZ (top 24)).getD 4 (.Pass ⟨0,0,0,0⟩)
noncomputable def Gj:Stmt:=(dZ (top 24)).getD 5 (.Pass ⟨0,0,0,0⟩)
noncomputable def Dn:Stmt:=(dZ (top 24)).getD 6 (.Pass ⟨0,0,0,0⟩)
noncomputable def bd:Bd:=⟨"Board",["ends","spots","apart","alike"],[("__init__","Board.__init__",Dj),("far_apart","Board.far_apart",Gi),("settled","Board.settled",Dk),("ties_left","Board.ties_left",Dl),("bound","Board.bound",Dm),("narrowest","Board.narrowest",Gj),("all_free","Board.all_free",Dn)]⟩
noncomputable def fs1:List (Str×Stmt):=(("is_whole" : Str),top 6)::(("is_within" : Str),top 7)::(("is_row" : Str),top 8)::(("check_most" : Str),top 9)::(("is_web" : Str),top 12)::(("web_of" : Str),top 13)::(("is_many" : Str),top 14)::(("is_place" : Str),top 15)::(("is_tie" : Str),top 16)::(("tie_by" : Str),top 17)::(("check_web" : Str),top 18)::(("are_tied" : Str),top 19)::(("all_pairs" : Str),top 20)::(("tied_to" : Str),top 21)::(("all_ends" : Str),top 22)::(("ring_board" : Str),top 25)::(("map_board" : Str),top 26)::(("is_ring" : Str),top 29)::(("check_ring" : Str),top 30)::(("gap_of" : Str),top 31)::(("hues_many" : Str),top 36)::(("fixed_many" : Str),top 37)::[]
noncomputable def rA:List (Str×Stmt):=(("all_fixed" : Str),top 38)::(("check_few" : Str),top 39)::(("fixed_rows" : Str),top 40)::(("is_free" : Str),top 41)::(("first_hues" : Str),top 43)::(("first_among" : Str),top 44)::(("first_spot" : Str),top 45)::(("can_settle" : Str),top 46)::(("search" : Str),top 47)::(("map_holds" : Str),top 49)::(("first_map" : Str),top 50)::(("has_room" : Str),top 52)::(("fewest_plain" : Str),top 54)::(("ring_web" : Str),top 56)::(("_law_cell" : Str),top 58)::(("_law_pen" : Str),top 59)::(("_law_draw" : Str),top 60)::(("_law_web" : Str),top 61)::(("_law_small_ring" : Str),top 62)::(("_law_all_tied" : Str),top 63)::(("_law_right" : Str),top 64)::(("law" : Str),top 65)::[]
noncomputable abbrev fs:List (Str×Stmt):=fs1++rA
noncomputable def lk:Lk:=⟨[],[("MOST_PLACES",8),("MOST_SPOTS",24),("FEW_PLACES",6),("FEW_SPOTS",8),("MOST_TOLD",300)],["abs","all","bool","divmod","enumerate","int","isinstance","len","list","max","min","range","sorted","tuple","zip"],[],[]⟩
noncomputable def ms:List sZ:=[]
noncomputable def xs:List (Nat×Str):=[]
noncomputable abbrev pv:Program:=PySem.Challenge.pw_ringhues_k57_whole_counts_and_maps
noncomputable def qv:Program:={pv with main:={pv.main with body:=[pv.main.body.getD 65 (.Pass ⟨0,0,0,0⟩)]}}
noncomputable def loose:List Str:=(["HueError","NoRing","NoWeb","TooGreat","is_whole","is_within","is_row","check_most","MOST_PLACES","is_web","web_of","is_many","is_place","is_tie","tie_by","check_web","are_tied","all_pairs","tied_to","all_ends","Board","ring_board","map_board","MOST_SPOTS","is_ring","check_ring","gap_of","FEW_PLACES","FEW_SPOTS","MOST_TOLD","hues_many","fixed_many","all_fixed","check_few","fixed_rows","is_free","first_hues","first_among","first_spot","can_settle","search","map_holds","first_map","has_room","fewest_plain","ring_web","_law_cell","_law_pen","_law_draw","_law_web","_law_small_ring","_law_all_tied","_law_right"]:List String).map Str.ofString
theorem zle(w:World):(openEnds treeTable pv w 20000).map (λs=>openSeen qv loose (importedModules pv.main.body) (λs=>xlAt qv [] s&&recOk [] s) true s)=some (openGood qv loose):=by
 kernel_rfl
theorem zll(w:World):(openEnds treeTable pv w 20000).map (Kv fs1)=some (fs1.map λp=>some (vo p.1 p.2)):=by
 kernel_rfl
theorem zma(w:World):(openEnds treeTable pv w 20000).map (Kv rA)=some (rA.map λp=>some (vo p.1 p.2)):=by
 kernel_rfl
theorem zmH(w:World):(openEnds treeTable pv w 20000).map (V5 ms xs lk)=some (ms.map (λm=>some (zV m.q m.st)),true):=by
 kernel_rfl
theorem ws:PySem.Challenge.rw_ringhues_k57_whole_counts_and_maps.wellSaid=true:=by
 kernel_rfl
theorem zlf(w:World):(openEnds treeTable pv w 20000).map (zW bd)=some (zX bd):=by
 kernel_rfl
theorem left:LeftO pv qv loose (λs=>xlAt qv [] s&&recOk [] s) (λs=>(lY fs ms xs lk s,zW bd s)) (λw=>(nJ fs ms w,zX bd)) 20000:=zjQ (zeZ zle zll zma zmH) zlf
end dX
namespace L2
open PySem PySem.Spec PyProof.Rows
theorem eU{α:Sort u}{β:Sort v}{A B C:α->β->Prop}{P:Prop}(h:∃x y,A x y/\B x y/\C x y)(k:∀x y,A x y->B x y->C x y->P):P:=by
 obtain⟨x,y,a,b,c⟩:=h;exact k x y a b c
theorem Om{α:Sort u}{β:Sort v}{γ:Sort w}{A B:α->β->Prop}{C D:α->β->γ->Prop}{P:Prop}(h:∃x y,A x y/\B x y/\∃z,C x y z/\D x y z)(k:∀x y,A x y->B x y->∀z,C x y z->D x y z->P):P:=by
 obtain⟨x,y,a,b,z,c,d⟩:=h;exact k x y a b z c d
theorem vp{α:Sort u}{A B:α->Prop}{P:Prop}(h:∃x,A x/\B x)(k:∀x,A x->B x->P):P:=by
 obtain⟨x,a,b⟩:=h;exact k x a b
noncomputable abbrev Key:=Sum Int Str
noncomputable def yq:Key->Value->Bool
 |.inl k,v=>Value.isInt k v
 |.inr x,v=>Value.isStrOf x v
noncomputable def Oo(w:World):Key->Int
 |.inl k=>hashInt k
 |.inr x=>hashStr w x
theorem wz:∀{k:Key} {v:Value},yq k v=true->(∃i t,k=Sum.inl i/\v=Value.int i t)\/(∃x t,k=Sum.inr x/\v=Value.str x t)
 |.inl i,v,h=>by
  obtain⟨t,e⟩:=Value.isInt_shape (k:=i) (v:=v) h;exact .inl ⟨i,t,rfl,e⟩
 |.inr x,v,h=>by
  obtain⟨t,e⟩:=Value.isStrOf_shape (x:=x) (v:=v) h;exact .inr ⟨x,t,rfl,e⟩
theorem zlQ(a b:Int):decide ((Sum.inl a:Key)=Sum.inl b)=(a==b):=by
 by_cases e:a=b
 ·subst e;simp
 ·have h:¬(Sum.inl a:Key)=Sum.inl b:=λq=>e (Sum.inl.inj q);rw[rm h];exact(zE.mpr e).symm
theorem zkF(a b:Str):decide ((Sum.inr a:Key)=Sum.inr b)=decide (a=b):=by
 by_cases e:a=b
 ·subst e;simp
 ·have h:¬(Sum.inr a:Key)=Sum.inr b:=λq=>e (Sum.inr.inj q);rw[rm h,rm e]
theorem zkV(a:Int)(b:Str):decide ((Sum.inl a:Key)=Sum.inr b)=false:=rm (λq=>nomatch q)
theorem zks(a:Str)(b:Int):decide ((Sum.inr a:Key)=Sum.inl b)=false:=rm (λq=>nomatch q)
noncomputable def lZ(prog:Program)(w:World):PySem.KeyKind prog w Key where
 is:=yq
 hash:=Oo w
 inj:=λv a b ha hb=>by
  rcases wz ha with ⟨i,t,rfl,rfl⟩|⟨x,t,rfl,rfl⟩
  ·rcases wz hb with ⟨j,u,rfl,e⟩|⟨y,u,rfl,e⟩
   ·injection e with e1 _;rw[e1]
   ·exact nomatch e
  ·rcases wz hb with ⟨j,u,rfl,e⟩|⟨y,u,rfl,e⟩
   ·exact nomatch e
   ·injection e with e1 _;rw[e1]
 byValue:=λk v h=>by
  rcases wz h with ⟨i,t,rfl,rfl⟩|⟨x,t,rfl,rfl⟩<;>rfl
 pyHash:=λhv h=>by
  rcases wz hv with ⟨i,t,rfl,rfl⟩|⟨x,t,rfl,rfl⟩
  ·exact wpAny_pyHash_int h
  ·exact wpAny_pyHash_str h
 eqBool:=λhu hv h=>by
  rcases wz hu with ⟨i,t,rfl,rfl⟩|⟨x,t,rfl,rfl⟩
  ·rcases wz hv with ⟨j,u,rfl,rfl⟩|⟨y,u,rfl,rfl⟩
   ·rw[zlQ] at h;exact wpAny_eqBool_int h
   ·rw[zkV] at h;exact SeqAt.EqAt.int_str i t y u _ _ _ _ h
  ·rcases wz hv with ⟨j,u,rfl,rfl⟩|⟨y,u,rfl,rfl⟩
   ·rw[zks] at h;exact SeqAt.EqAt.str_int x t j u _ _ _ _ h
   ·rw[zkF] at h;exact wpAny_eqBool_str h
 «strs»:=λk x t v h=>by
  rcases wz h with ⟨i,u,rfl,e⟩|⟨y,u,rfl,e⟩
  ·exact nomatch e
  ·injection e with e1 _;subst e1;cases v<;>rfl
inductive V where
 |non|bl (b:Bool)|int (i:Int)|str (x:Str)|zY (b:Array UInt8)|flt (b:UInt64)|ref (a:Addr)|ty (n:String)
 deriving DecidableEq
noncomputable def RelV:V->Value->Prop
 |.non,u=>u=Value.none
 |.bl b,u=>u=Value.bool b
 |.int i,u=>∃t,u=Value.int i t
 |.str x,u=>∃t,u=Value.str x t
 |.zY b,u=>∃t,u=Value.bytes b t
 |.flt b,u=>∃t,u=Value.float b t
 |.ref a,u=>u=Value.ref a
 |.ty n,u=>u=Value.type n
noncomputable abbrev Vals:List V->List Value->Prop:=Paired RelV
theorem Vals.length{xs:List V}{us:List Value}(r:Vals xs us):xs.length=us.length:=Paired.length r
theorem Vals.get:∀{xs:List V} {us:List Value} {i:Nat} {x:V},Vals xs us->xs[i]?=some x->∃u,us[i]?=some u/\RelV x u
 |_,_,_,_,.nil,e=>by simp at e
 |_,_,0,_,.cons r _,e=>by simp at e;subst e;exact⟨_,rfl,r⟩
 |_,_,i+1,x,.cons _ t,e=>by
  obtain⟨u,h1,h2⟩:=Vals.get (i:=i) (x:=x) t (by simpa using e);exact⟨u,by simpa using h1,h2⟩
theorem Vals.set{x:V}{u:Value}(r:RelV x u):∀{xs:List V} {us:List Value} (i:Nat),Vals xs us->Vals (xs.set i x) (us.set i u)
 |_,_,_,.nil=>.nil
 |_,_,0,.cons _ t=>.cons r t
 |_,_,i+1,.cons q t=>.cons q (Vals.set r i t)
theorem Vals.append{xs ys:List V}{us ws:List Value}(h:Vals xs us)(s:Vals ys ws):Vals (xs++ys) (us++ws):=by
 induction h with
 |nil=>exact s
 |cons r _ ih=>exact .cons r ih
theorem Vals.take:∀{xs:List V} {us:List Value} (n:Nat),Vals xs us->Vals (xs.take n) (us.take n)
 |_,_,0,_=>.nil
 |_,_,_+1,.nil=>.nil
 |_,_,n+1,.cons r t=>.cons r (Vals.take n t)
theorem Vals.drop:∀{xs:List V} {us:List Value} (n:Nat),Vals xs us->Vals (xs.drop n) (us.drop n)
 |_,_,0,r=>r
 |_,_,_+1,.nil=>.nil
 |_,_,n+1,.cons _ t=>Vals.drop n t
noncomputable def rB:Option V->Option Value->Prop
 |some v,some u=>RelV v u
 |none,none=>True
 |_,_=>False
noncomputable def KV{κ:Type}:List (κ×V)->List (κ×Value)->Prop:=Paired λ(p:κ×V) (q:κ×Value)=>p.1=q.1/\RelV p.2 q.2
noncomputable def kV:Key->V
 |.inl i=>.int i
 |.inr x=>.str x
inductive HO where
 |lst (xs:List V)
 |tup (xs:List V)
 |dK (kvs:List (Key×V))|dT (kvs:List (List Key×V))
 |set (S:Int->Bool) (n:Nat)
 |ins (C dx:Addr) (fs:List (Str×V))
 |own (x:Addr)
 |xd (fs:List (Str×V))
 |met (f x:Addr)
 |rng (lo hi:Int)
 |vq (o:Obj) (u:HO)
 |zZ (ps:Array Value)
 |ext (U:Heap->Prop)
noncomputable abbrev Hp:=Addr->Option HO
noncomputable def upd(H:Hp)(a:Addr)(o:HO):Hp:=λb=>if b=a then some o else H b
theorem jF{H:Hp}{a:Addr}{o:HO}:upd H a o a=some o:=by unfold upd;rw[if_pos rfl]
theorem cW{H:Hp}{a b:Addr}{o:HO}(h:b≠a):upd H a o b=H b:=by unfold upd;rw[if_neg h]
theorem V6{H:Hp}{a:Addr}{o u:HO}:upd (upd H a o) a u=upd H a u:=by
 funext b;unfold upd;split<;>rfl
theorem Dp{H:Hp}{a b:Addr}{o:HO}(h:H a=some o)(h':H b=none):a≠b:=by
 intro e;subst e;rw[h] at h';cases h'
section
variable (P:Program)(w:World)
noncomputable def bM(H:Hp)(h:Heap)(a:Addr):HO->Prop
 |.lst xs=>xs.length<=sizeLine/\∃(its:List Value) (n:Nat),Vals xs its/\h.get? a=some {cls:=.type "list",data:=.seq its.toArray n}
 |.tup xs=>xs.length<=sizeLine/\∃its:List Value,Vals xs its/\IsTup h a its.toArray
 |.dK kvs=>kvs.length<=sizeLine/\(a==sysModules)=false/\∃vs,KV kvs vs/\h.DictOf (lZ P w) a vs
 |.dT kvs=>kvs.length<=sizeLine/\(a==sysModules)=false/\∃xs:List (List Key×Addr×Value),
   Paired (λ(p:List Key×V) (q:List Key×Addr×Value)=>p.1=q.1/\H q.2.1=some (.tup (p.1.map kV))/\RelV p.2 q.2.2) kvs xs /\
   ∃o es ep,h.get? a=some o/\o.ExactDict/\o.data=.dict es ep/\es.toList=xs.map (entryOfKey (tupleKind (lZ P w)))/\(xs.map (·.1)).Nodup
 |.set S n=>h.SetOf (intKind P w) a S n
 |.ins C dx fs=>H dx=some (.own a)/\fs.length<=1000/\dx≠a/\h.get? a=some (PySem.W.instObj C dx) /\
   ∃mA,h.Ns1 dx mA/\(∀f,rB (fs.lookup f) (mA f))/\PySem.Within mA (fs.map (·.1))
 |.own _=>∃o,h.get? a=some o
 |.xd fs=>∃mA,h.Ns1 a mA/\∀f,rB (fs.lookup f) (mA f)
 |.rng lo hi=>∃t u v,h.get? a=some {cls:=.type "range",data:=.fields #[.int lo t,.int hi u,.int 1 v]}
 |.vq o u=>h.get? a=some o/\bM H h a u
 |.zZ ps=>h.get? a=some {cls:=.none,data:=.fields ps}
 |.met f x=>h.get? a=some (PySem.W.methodObj (.ref f) (.ref x))
 |.ext U=>U h/\(∃o,h.get? a=some o)/\∀h1 h2:Heap,U h1->(∀o,h1.get? a=some o->h2.get? a=some o)->U h2
def iQ(H:Hp)(h:Heap):Prop:=∀a o,H a=some o->bM P w H h a o
end
section
variable {P:Program}{w:World}{H H':Hp}{h h':Heap}{a:Addr}{o:HO}
theorem bM.lt(x:bM P w H h a o):a<h.objs.size:=by
 cases o with
 |lst xs=>obtain⟨_,_,_,_,e⟩:=x;exact bZ e
 |tup xs=>obtain⟨_,_,_,p⟩:=x;exact p.lt
 |dK kvs=>obtain⟨_,_,_,_,o,_,_,e,_⟩:=x;exact bZ e
 |dT kvs=>obtain⟨_,_,_,_,o,_,_,e,_⟩:=x;exact bZ e
 |set S n=>obtain⟨o,_,_,_,e,_⟩:=x;exact bZ e
 |ins C dx fs=>obtain⟨_,_,_,e,_⟩:=x;exact bZ e
 |own y=>obtain⟨_,e⟩:=x;exact bZ e
 |xd fs=>obtain⟨_,⟨_,_,_,e,_⟩,_⟩:=x;exact bZ e
 |rng lo hi=>obtain⟨_,_,_,e⟩:=x;exact bZ e
 |vq ob u=>obtain⟨e,_⟩:=x;exact bZ e
 |zZ ps=>exact bZ (show h.get? a=some _ from x)
 |met f y=>exact bZ (show h.get? a=some _ from x)
 |ext U=>obtain⟨_,⟨_,e⟩,_⟩:=x;exact bZ e
theorem V7{α β:Type}{F G:α->β->Prop}:∀{l₁:List α} {l₂:List β},Paired F l₁ l₂->(∀a b,F a b->G a b)->Paired G l₁ l₂
 |_,_,.nil,_=>.nil
 |_,_,.cons r t,f=>.cons (f _ _ r) (V7 t f)
theorem bM.stay(x:bM P w H h a o)(k:∀b u,(b=a\/H b=some (.own a))->h.get? b=some u->h'.get? b=some u)
  (ho:∀b,H b=some (.own a)->H' b=some (.own a)) (ht:∀b xs,H b=some (.tup xs)->H' b=some (.tup xs)):bM P w H' h' a o:=by
 induction o with
 |lst xs=>obtain⟨z,its,n,r,e⟩:=x;exact⟨z,its,n,r,k _ _ (.inl rfl) e⟩
 |tup xs=>obtain⟨z,its,r,ob,e,c⟩:=x;exact⟨z,its,r,ob,k _ _ (.inl rfl) e,c⟩
 |dK kvs=>obtain⟨z,y,vs,r,ob,es,ep,e,c⟩:=x;exact⟨z,y,vs,r,ob,es,ep,k _ _ (.inl rfl) e,c⟩
 |dT kvs=>
  obtain⟨z,y,xs,r,ob,es,ep,e,c⟩:=x;exact⟨z,y,xs,V7 r λp q z=>⟨z.1,ht _ _ z.2.1,z.2.2⟩,ob,es,ep,k _ _ (.inl rfl) e,c⟩
 |set S n=>obtain⟨ob,es,ep,t,e,c⟩:=x;exact⟨ob,es,ep,t,k _ _ (.inl rfl) e,c⟩
 |ins C dx fs=>
  obtain⟨d,z,ne,e,mA,⟨od,es,ep,e2,c⟩,r⟩:=x;exact⟨ho _ d,z,ne,k _ _ (.inl rfl) e,mA,⟨od,es,ep,k _ _ (.inr d) e2,c⟩,r⟩
 |own y=>obtain⟨ob,e⟩:=x;exact⟨ob,k _ _ (.inl rfl) e⟩
 |xd fs=>obtain⟨mA,⟨od,es,ep,e,c⟩,r⟩:=x;exact⟨mA,⟨od,es,ep,k _ _ (.inl rfl) e,c⟩,r⟩
 |rng lo hi=>obtain⟨t,u,v,e⟩:=x;exact⟨t,u,v,k _ _ (.inl rfl) e⟩
 |vq ob u ih=>obtain⟨e,q⟩:=x;exact⟨k _ _ (.inl rfl) e,ih q⟩
 |zZ ps=>
  have e:h.get? a=some {cls:=.none,data:=.fields ps}:=x;show h'.get? a=some {cls:=.none,data:=.fields ps};exact k a _ (.inl rfl) e
 |met f y=>
  have e:h.get? a=some (PySem.W.methodObj (.ref f) (.ref y)):=x;show h'.get? a=some (PySem.W.methodObj (.ref f) (.ref y));exact k a _ (.inl rfl) e
 |ext U=>obtain⟨p,⟨o,e⟩,st⟩:=x;exact⟨st _ _ p λo q=>k _ _ (.inl rfl) q,⟨o,k _ _ (.inl rfl) e⟩,st⟩
theorem iQ.lt(x:iQ P w H h)(e:H a=some o):a<h.objs.size:=(x a o e).lt
theorem iQ.fresh(x:iQ P w H h)(e:h.objs.size<=a):H a=none:=by
 cases q:H a with
 |none=>rfl
 |some u=>exact absurd (iM (x.lt q) e) (pB _)
theorem iQ.kept(x:iQ P w H h)(k:∀b u,h.get? b=some u->h'.get? b=some u):iQ P w H h':=λa o e=>
 (x a o e).stay (λb u _ q=>k b u q) (λ_ q=>q) λ_ _ q=>q
theorem iQ.laid(x:iQ P w H h)(k:∀b u,h.get? b=some u->h'.get? b=some u)(hp:h.objs.size<=a)(new:bM P w (upd H a o) h' a o):iQ P w (upd H a o) h':=λb u e=>by
 have hn:=x.fresh hp;by_cases hb:b=a
 ·subst hb;rw[jF] at e;cases e;exact new
 ·rw[cW hb] at e;exact(x b u e).stay (λc v _ q=>k c v q) (λc q=>by rw[cW (Dp q hn)];exact q) λc xs q=>by rw[cW (Dp q hn)];exact q
end
def Rd(H:Hp)(a:Addr)(u:HO):Prop:=H a=some u\/∃o,H a=some (.vq o u)
theorem Rd.ok{P:Program}{w:World}{H:Hp}{h:Heap}{a:Addr}{u:HO}(r:Rd H a u)(x:iQ P w H h):bM P w H h a u:=by
 rcases r with r|⟨o,r⟩
 ·exact x a u r
 ·obtain⟨_,q⟩:=x a _ r;exact q
noncomputable def Gk:Option HO->Prop
 |some (.lst _)=>True
 |some (.dK _)=>True
 |some (.dT _)=>True
 |some (.set _ _)=>True
 |some (.ins _ _ _)=>True
 |some (.ext _)=>True
 |_=>False
section
variable {P:Program}{w:World}{H:Hp}{h h':Heap}{x e:Addr}{o':HO}
theorem iQ.write(ok:iQ P w H h)(mu:Gk (H x))(he:e=x\/H e=some (.own x))(k:∀b u,b≠e->h.get? b=some u->h'.get? b=some u)(Dq:∃u,h'.get? e=some u)
  (new:bM P w (upd H x o') h' x o'):iQ P w (upd H x o') h':=λb u q=>by
 have Gm:∀c y,H c=some (.own y)->c≠x:=λc y r z=>by subst z;rw[r] at mu;exact mu
 have Oq:∀c xs,H c=some (.tup xs)->c≠x:=λc xs r z=>by subst z;rw[r] at mu;exact mu
 by_cases hb:b=x
 ·subst hb;rw[jF] at q;cases q;exact new
 ·rw[cW hb] at q;by_cases z_:b=e
  ·have q':H b=some (.own x):=by
    rcases he with z|z
    ·exact absurd (z_.trans z) hb
    ·rw[z_];exact z
   rw[q] at q';cases q';obtain⟨v,hv⟩:=Dq;exact⟨v,by rw[z_];exact hv⟩
  ·refine(ok b u q).stay (λc v hc r=>k c v ?_ r) (λc r=>by rw[cW (Gm c b r)];exact r) λc xs r=>by rw[cW (Oq c xs r)];exact r
   rcases hc with rfl|hc
   ·exact z_
   ·rintro rfl;rcases he with z|z
    ·exact Gm c b hc z
    ·rw[hc] at z;cases z;exact hb rfl
end
structure Un(fs ex:List Addr)(H H':Hp)(h h':Heap):Prop where
 keep:∀b o,h.get? b=some o->H b=none->b∉fs->b∉ex->h'.get? b=some o
 slot:∀b o,h.get? b=some o->H b=none->b∈fs->b∉ex->∃sl,h'.get? b=some {o with slots:=sl}
 free:∀b o,h.get? b=some o->H b=none->b∉ex->H' b=none
 there:∀b o,h.get? b=some o->b∉ex->∃o',h'.get? b=some o'
 tups:∀b xs,H b=some (.tup xs)->H' b=some (.tup xs)
 kY:∀b o u,H b=some (.vq o u)->H' b=some (.vq o u)
 mj:∀b ps,H b=some (.zZ ps)->∃more,H' b=some (.zZ (ps++more))
section
variable {fs fs' ex ex':List Addr}{H H1 H2:Hp}{h h1 h2 h':Heap}{a x e:Addr}{o:HO}
theorem Un.any(u:Un fs ex H H1 h h1){b:Addr}{ob:Obj}(q:h.get? b=some ob)(n:H b=none)(hx:b∉ex):∃sl,h1.get? b=some {ob with slots:=sl}:=by
 by_cases hb:b∈fs
 ·exact u.slot b ob q n hb hx
 ·exact⟨ob.slots,u.keep b ob q n hb hx⟩
theorem Un.kept(k:∀b u,h.get? b=some u->h'.get? b=some u):Un fs ex H H h h':=
 ⟨λb ob q _ _ _=>k b ob q,λb ob q _ _ _=>⟨ob.slots,k b ob q⟩,λ_ _ _ n _=>n,λb ob q _=>⟨ob,k b ob q⟩,λ_ _ q=>q,λ_ _ _ q=>q,λ_ ps q=>⟨#[],by rw[q];simp⟩⟩
theorem Un.refl:Un fs ex H H h h:=Un.kept λ_ _ q=>q
theorem Un.laid(k:∀b u,h.get? b=some u->h'.get? b=some u)(hp:h.objs.size<=a)(hn:H a=none):Un fs ex H (upd H a o) h h' where
 keep:=λb u q _ _ _=>k b u q
 slot:=λb u q _ _ _=>⟨u.slots,k b u q⟩
 free:=λb u q n _=>by rw[cW (dN (iM (bZ q) hp))];exact n
 there:=λb u q _=>⟨u,k b u q⟩
 tups:=λb xs q=>by rw[cW (Dp q hn)];exact q
 kY:=λb u xs q=>by rw[cW (Dp q hn)];exact q
 mj:=λb ps q=>⟨#[],by rw[cW (Dp q hn),q];simp⟩
theorem Un.write(mu:Gk (H x))(he:e=x\/H e=some (.own x))(k:∀b u,b≠e->h.get? b=some u->h'.get? b=some u)(Dq:∃u,h'.get? e=some u):Un fs ex H (upd H x o) h h':=by
 have hx:∀b,H b=none->b≠x:=λb n z=>by subst z;rw[n] at mu;exact mu
 have hb:∀b,H b=none->b≠e:=λb n z=>by
  subst z;rcases he with r|r
  ·exact hx b n r
  ·rw[n] at r;cases r
 have hm:∀b u,H b=some u->¬Gk (some u)->b≠x:=λb u q nm z=>by subst z;rw[q] at mu;exact nm mu
 refine⟨λb u q n _ _=>k b u (hb b n) q,λb u q n _ _=>⟨u.slots,k b u (hb b n) q⟩,λb u q n _=>by rw[cW (hx b n)];exact n,λb u q _=>?_,
  λb xs q=>by rw[cW (hm b _ q λz=>z)];exact q,λb u xs q=>by rw[cW (hm b _ q λz=>z)];exact q,λb ps q=>⟨#[],by rw[cW (hm b _ q λz=>z),q];simp⟩⟩
 by_cases z_:b=e
 ·subst z_;exact Dq
 ·exact⟨u,k b u z_ q⟩
end
noncomputable def Kw(h:Heap)(H:Hp):List Addr:=(List.range h.objs.size).filter λa=>(H a).isSome
noncomputable def mz(h:Heap)(H:Hp):Heap:=PySem.W.hideAll h (Kw h H)
theorem zgD(h:Heap)(H:Hp):(mz h H).objs.size=h.objs.size:=PySem.W.hideAll_size _ _
theorem zhj{h:Heap}{H:Hp}{b:Addr}{o:Obj}(e:h.get? b=some o)(n:H b=none):(mz h H).get? b=some o:=
 PySem.W.hideAll_get _ e λhm=>by
  have q:(H b).isSome=true:=(jK.mp hm).2;rw[n] at q;simp at q
theorem zjS{h:Heap}{H:Hp}{b:Addr}{o:Obj}(e:(mz h H).get? b=some o):h.get? b=some o/\H b=none:=by
 have e':h.get? b=some o:=PySem.W.of_hideAll (Kw h H) e;refine⟨e',?_⟩;cases q:H b with
 |none=>rfl
 |some x=>
  have hm:b∈Kw h H:=jK.mpr ⟨vf.mpr (bZ e'),by simp[q]⟩;have z:(mz h H).get? b=none:=PySem.W.hideAll_none (Kw h H) hm;rw[z] at e;cases e
structure Mod(K:W.Frag)(mg:Str->Option Value)(base:Heap):Prop where
 yj:K.In base
 glob:base.Ns mainGlobals mg
 blt:∃mb,base.Ns builtinsNs mb/\∀x:Str,x≠"__name__"->mb x=bootBuiltins x
 nolimit:base.NoLimit
structure Cx where
 prog:Program
 w:World
 K:W.Frag
 mg:Str->Option Value
 base:Heap
 A:Around
 N:List Str
 s₀:Shared
 H₀:Hp
 env:Env
 outer:List Env
 stack:List Env
 ex:List Addr
 fn:Str->Bool
 aj:Bool
 pn:List (Addr×Obj)
 xe:Value->Shared->Prop
noncomputable def frs(l:List Env):List Addr:=l.filterMap (·.frame)
noncomputable abbrev Cx.fs(X:Cx):List Addr:=frs X.outer
def Ky(sc:Scope)(x:Str):Prop:=sc.names.lookup x=some .local\/sc.names.lookup x=some .cell\/sc.names.lookup x=some .free
def Loc(sc:Scope)(x:Str):Prop:=sc.names.lookup x=some .local\/sc.names.lookup x=some .cell
def Look(env:Env)(h:Heap)(m:Str->Option Value)(x:Str)(u:Value):Prop:=
 (env.kindOf x=some .local/\m x=some u)\/((env.kindOf x=some .cell\/env.kindOf x=some .free)/\∃c,env.cells.lookup x=some c/\h.IsCell c (some u))
structure Cx.Ok(X:Cx):Prop where
 mod:Mod X.K X.mg X.base
 kind:X.env.scope.kind=.function
 glob:X.env.globals=mainGlobals
 blt:X.env.builtins=builtinsNs
 above:X.s₀.heap.objs.size<=X.env.locals
 inj:∀x y c,X.env.cells.lookup x=some c->X.env.cells.lookup y=some c->x=y
 has:∀x,(X.env.kindOf x=some .cell\/X.env.kindOf x=some .free)->∃c,X.env.cells.lookup x=some c
 cab:∀x c,X.fn x=true->X.env.cells.lookup x=some c->X.s₀.heap.objs.size<=c
 hd:X.aj=true->X.A.handled=none
 frames:X.A.frames=some X.stack
 stk:X.stack=X.outer\/(X.stack=X.env::X.outer/\X.env.frame=some X.env.locals)
 exf:∀b∈X.ex,b≠X.env.locals/\∀x c,X.env.cells.lookup x=some c->c≠b
 bs:∀b o,X.base.get? b=some o->X.s₀.heap.get? b=some o/\X.H₀ b=none
 Aa:X.base.objs.size<=X.s₀.heap.objs.size
 Ab:∀b o,X.base.get? b=some o->b∉X.ex
 Gn:∀b∈X.ex,b∉X.fs
 kZ:X.s₀.heap.FunFrames X.base X.outer
 Gp:∀b∈X.fs,X.H₀ b=none
structure Inv(X:Cx)(ao:List (Addr×Obj))(Z:List (Option V))(H:Hp)(s:Shared):Prop where
 ok:X.Ok
 os:s.os=X.s₀.os
 bare:AllBare s.gens
 base:Un X.fs X.ex X.H₀ H X.s₀.heap s.heap
 loc:∃m,s.heap.Ns X.env.locals m/\∀(i:Nat) (x:Str) (v:V),X.N[i]?=some x->Z[i]?=some (some v)->Ky X.env.scope x->∃u,RelV v u/\Look X.env s.heap m x u
 cell:∀x c,X.env.cells.lookup x=some c->∃v,s.heap.IsCell c v
 free:H X.env.locals=none
 je:∀x c,X.env.cells.lookup x=some c->H c=none
 pin:∀p∈X.pn++ao,s.heap.get? p.1=some p.2/\H p.1=none/\p.1≠X.env.locals/\p.1∉X.fs/\∀v,p.2.data≠.cell v
 hok:iQ X.prog X.w H s.heap
 len:Z.length=X.N.length
section
variable {X:Cx}{ao:List (Addr×Obj)}{Z:List (Option V)}{H H':Hp}{s:Shared}{h':Heap}
theorem Cx.Ok.Ot(ok:X.Ok){b:Addr}{o:Obj}(e:X.base.get? b=some o):b∉X.fs:=λhb=>by
 have:=(ok.kZ.mem hb).1;rw[e] at this;cases this
theorem Inv.bs(I:Inv X ao Z H s):∀b o,X.base.get? b=some o->s.heap.get? b=some o/\H b=none:=λb o e=>
 ⟨I.base.keep b o (I.ok.bs b o e).1 (I.ok.bs b o e).2 (I.ok.Ot e) (I.ok.Ab b o e),I.base.free b o (I.ok.bs b o e).1 (I.ok.bs b o e).2 (I.ok.Ab b o e)⟩
theorem Inv.bk(I:Inv X ao Z H s):∀b o,X.base.get? b=some o->s.heap.get? b=some o:=λb o e=>(I.bs b o e).1
theorem Inv.mod(I:Inv X ao Z H s):Mod X.K X.mg X.base:=I.ok.mod
theorem Inv.nM(I:Inv X ao Z H s):X.K.In s.heap:=I.ok.mod.yj.keeps I.bk
theorem Inv.lt(I:Inv X ao Z H s):X.env.locals<s.heap.objs.size:=let ⟨_,hn,_⟩:=I.loc;hn.lt
theorem Inv.sz(I:Inv X ao Z H s):X.s₀.heap.objs.size<=s.heap.objs.size:=j8 I.ok.above (wg I.lt)
theorem Inv.Ou(I:Inv X ao Z H s){a:Addr}(h:s.heap.objs.size<=a):a∉X.fs:=λhb=>by
 obtain⟨_,o,ho,_⟩:=I.ok.kZ.mem hb;exact absurd (iM (bZ ho) (j8 I.sz h)) (pB _)
theorem Inv.Ac(I:Inv X ao Z H s):∀x c,X.env.cells.lookup x=some c->c≠X.env.locals:=λx c e z=>by
 obtain⟨v,o,ho,hd⟩:=I.cell x c e;obtain⟨m,⟨o',es,ep,tu,Gq,_⟩,_⟩:=I.loc;rw[z,tu] at ho;cases ho;rw[Gq] at hd;cases hd
theorem Inv.kZ(I:Inv X ao Z H s):s.heap.FunFrames X.base X.outer:=by
 have all:∀(l:List Env),(∀b∈frs l,b∈X.fs)->X.s₀.heap.FunFrames X.base l->s.heap.FunFrames X.base l:=by
  intro l
  induction l with
  |nil=>intro _ _;trivial
  |cons env r ih=>
   intro hs hl;obtain⟨hk,⟨L,o,hf,hn,ho,hd⟩,hr⟩:=hl;have hL:L∈X.fs:=hs L (by unfold frs;rw[zF,hf];exact lC);obtain⟨sl,e⟩:=I.base.slot L o ho (I.ok.Gp L hL) hL λz=>I.ok.Gn L z hL;exact⟨hk,⟨L,_,hf,hn,e,hd⟩,ih (λb hb=>hs b (by unfold frs;rw[zF,hf];exact h_ _ hb)) hr⟩
 exact all X.outer (λ_ hb=>hb) I.ok.kZ
theorem Inv.stack(I:Inv X ao Z H s):s.heap.FunFrames X.base X.stack:=by
 rcases I.ok.stk with e|⟨e,hf⟩
 ·rw[e];exact I.kZ
 ·rw[e];obtain⟨m,hn,_⟩:=I.loc;refine .cons (by rw[I.ok.kind];decide) hf hn ?_ I.kZ;exact Fp (j8 I.ok.Aa I.ok.above)
theorem Inv.jL(I:Inv X ao Z H s):∀b∈frs X.stack,b∈X.env.locals::X.fs:=λb hb=>by
 rcases I.ok.stk with e|⟨e,hf⟩
 ·rw[e] at hb;exact h_ _ hb
 ·rw[e] at hb;unfold frs at hb;rw[zF,hf] at hb;exact hb
theorem Inv.mC(I:Inv X ao Z H s):∀b∈frs X.stack,H b=none:=λb hb=>by
 rcases iU.mp (I.jL b hb) with e|hb
 ·rw[e];exact I.free
 ·obtain⟨_,o,ho,_⟩:=I.ok.kZ.mem hb;exact I.base.free b o ho (I.ok.Gp b hb) λz=>I.ok.Gn b z hb
theorem Inv.step{g':Array GenState}{t':Nat}{d':Drawn}{ch:List Addr}(I:Inv X ao Z H s)
  (vA:∀b∈ch,(b∈X.ex\/X.s₀.heap.get? b=none)/\b≠X.env.locals/\(∀x c,X.env.cells.lookup x=some c->c≠b)/\∀p∈X.pn++ao,p.1≠b)
  (keep:∀b o,b≠X.env.locals->b∉X.fs->b∉ch->s.heap.get? b=some o->H b=none->h'.get? b=some o)
  (slot:∀b o,b≠X.env.locals->b∈X.fs->b∉ch->s.heap.get? b=some o->H b=none->∃sl,h'.get? b=some {o with slots:=sl}) (free:∀b o,b∉ch->s.heap.get? b=some o->H b=none->H' b=none)
  (there:∀b o,b∉ch->s.heap.get? b=some o->∃o',h'.get? b=some o')
  (tups:∀b xs,H b=some (.tup xs)->H' b=some (.tup xs)) (kY:∀b o u,H b=some (.vq o u)->H' b=some (.vq o u)) (mj:∀b ps,H b=some (.zZ ps)->∃more,H' b=some (.zZ (ps++more)))
  (ns:∀m,s.heap.Ns X.env.locals m->h'.Ns X.env.locals m) (hok:iQ X.prog X.w H' h') (hg:AllBare g') :
  Inv X ao Z H' {s with heap:=h',gens:=g',drawn:=d',toks:=t'}:=by
 have V8:∀b o,X.s₀.heap.get? b=some o->b≠X.env.locals:=λb o e=>dN (iM (bZ e) I.ok.above);have Kz:∀b o,X.s₀.heap.get? b=some o->b∉X.ex->b∉ch:=λb o e hx hb=>by
  rcases(vA b hb).1 with z|z
  ·exact hx z
  ·rw[e] at z;cases z
 have cellK:∀x c,X.env.cells.lookup x=some c->∀v,s.heap.IsCell c v->h'.IsCell c v:=λx c e v hx=>vp hx λo ho hd=>by
  have Gs:c∉ch:=λz=>(vA c z).2.2.1 x c e rfl;by_cases hc:c∈X.fs
  ·obtain⟨sl,q⟩:=slot c o (I.Ac x c e) hc Gs ho (I.je x c e);exact⟨_,q,hd⟩
  ·exact⟨o,keep c o (I.Ac x c e) hc Gs ho (I.je x c e),hd⟩
 refine⟨I.ok,I.os,hg,⟨λb o e n hb hx=>?_,λb o e n hb hx=>?_,λb o e n hx=>?_,λb o e hx=>?_,λb xs e=>tups b xs (I.base.tups b xs e),λb o xs e=>kY b o xs (I.base.kY b o xs e),λb ps e=>?_⟩,?_,λx c e=>?_,?_,λx c e=>?_,λp hp=>?_,hok,I.len⟩
 ·exact keep b o (V8 b o e) hb (Kz b o e hx) (I.base.keep b o e n hb hx) (I.base.free b o e n hx)
 ·obtain⟨sl,e1⟩:=I.base.slot b o e n hb hx;obtain⟨sl',e2⟩:=slot b _ (V8 b o e) hb (Kz b o e hx) e1 (I.base.free b o e n hx);exact⟨sl',e2⟩
 ·obtain⟨o',e1⟩:=I.base.there b o e hx;exact free b o' (Kz b o e hx) e1 (I.base.free b o e n hx)
 ·obtain⟨o',e1⟩:=I.base.there b o e hx;exact there b o' (Kz b o e hx) e1
 ·obtain⟨m1,e1⟩:=I.base.mj b ps e;obtain⟨m2,e2⟩:=mj b _ e1;exact⟨m1++m2,by rw[e2,Array.append_assoc]⟩
 ·obtain⟨m,hn,hl⟩:=I.loc;refine⟨m,ns m hn,λi x v e1 e2 e3=>?_⟩;obtain⟨u,r,l⟩:=hl i x v e1 e2 e3;refine⟨u,r,?_⟩;rcases l with l|⟨k,c,e,z⟩
  ·exact .inl l
  ·exact .inr ⟨k,c,e,cellK x c e _ z⟩
 ·obtain⟨v,z⟩:=I.cell x c e;exact⟨v,cellK x c e v z⟩
 ·obtain⟨m,⟨o,_,_,ho,_⟩,_⟩:=I.loc;exact free _ o (λz=>(vA _ z).2.1 rfl) ho I.free
 ·obtain⟨v,o,ho,hd⟩:=I.cell x c e;exact free c o (λz=>(vA c z).2.2.1 x c e rfl) ho (I.je x c e)
 ·obtain⟨e,n,ne,nf,d⟩:=I.pin p hp;have Gs:p.1∉ch:=λz=>(vA p.1 z).2.2.2 p hp rfl;exact⟨keep p.1 p.2 ne nf Gs e n,free p.1 p.2 Gs e n,ne,nf,d⟩
theorem Inv.un{t':Nat}(I:Inv X ao Z H s)(u:Un X.fs [] H H' s.heap h')(hok:iQ X.prog X.w H' h'):Inv X ao Z H' {s with heap:=h',toks:=t'}:=by
 obtain⟨m,⟨o,es,ep,ho,r⟩,_⟩:=id I.loc;obtain⟨sl,hL⟩:=u.any ho I.free (by simp);exact I.step (g':=s.gens) (d':=s.drawn) (ch:=[]) (λ_ z=>nomatch z) (λb o _ hb _ e n=>u.keep b o e n hb (by simp)) (λb o _ hb _ e n=>u.slot b o e n hb (by simp)) (λb o _ e n=>u.free b o e n (by simp)) (λb o _ e=>u.there b o e (by simp)) u.tups u.kY u.mj (λm' hm=>by
  obtain⟨o',es',ep',tu,r'⟩:=hm;rw[ho] at tu;cases tu;exact⟨_,es',ep',hL,r'⟩) hok I.bare
theorem Inv.call{g':Array GenState}{t':Nat}{d':Drawn}{ch:List Addr}(I:Inv X ao Z H s)(u:Un (frs X.stack) ch H H' s.heap h')(hok:iQ X.prog X.w H' h')(hg:AllBare g')
  (vA:∀b∈ch,(b∈X.ex\/X.s₀.heap.get? b=none)/\b≠X.env.locals/\(∀x c,X.env.cells.lookup x=some c->c≠b)/\∀p∈X.pn++ao,p.1≠b) :
  Inv X ao Z H' {s with heap:=h',gens:=g',drawn:=d',toks:=t'}:=by
 obtain⟨m,⟨o,es,ep,ho,r⟩,_⟩:=id I.loc;obtain⟨sl,hL⟩:=u.any ho I.free λz=>(vA _ z).2.1 rfl;exact I.step (ch:=ch) vA (λb o hL hb hc e n=>u.keep b o e n (λz=>(iU.mp (I.jL b z)).elim hL hb) hc) (λb o _ _ hc e n=>u.any e n hc) (λb o hc e n=>u.free b o e n hc) (λb o hc e=>u.there b o e hc) u.tups u.kY u.mj (λm' hm=>by
  obtain⟨o',es',ep',tu,r'⟩:=hm;rw[ho] at tu;cases tu;exact⟨_,es',ep',hL,r'⟩) hok hg
theorem Inv.turned{t':Nat}{it:Addr}(I:Inv X ao Z H s)(k:∀b o,b≠it->s.heap.get? b=some o->h'.get? b=some o)(hn:H it=none)(hL:it≠X.env.locals)
  (h1:it∈X.ex\/X.s₀.heap.objs.size<=it) (h2:∀x c,X.env.cells.lookup x=some c->c≠it) (h3:∀p∈X.pn++ao,p.1≠it):Inv X ao Z H {s with heap:=h',toks:=t'}:=by
 have yr:∀b u,H b=some u->b≠it:=λb u e z=>by rw[z,hn] at e;cases e
 refine I.step (g':=s.gens) (d':=s.drawn) (ch:=[it]) (λb hb=>?_) (λb o _ _ hc e _=>k b o (λz=>hc (by simp[z])) e) (λb o _ _ hc e _=>⟨o.slots,k b o (λz=>hc (by simp[z])) e⟩) (λ_ _ _ _ n=>n)
  (λb o hc e=>⟨o,k b o (λz=>hc (by simp[z])) e⟩) (λ_ _ e=>e) (λ_ _ _ e=>e) (λb ps e=>⟨#[],by rw[e];simp⟩) (λm hm=>?_) (λb u e=>?_) I.bare
 ·have e:b=it:=by simpa using hb
  subst e;exact⟨h1.imp id λz=>Fp z,hL,h2,h3⟩
 ·obtain⟨o,es,ep,ho,r⟩:=hm;exact⟨o,es,ep,k _ o (Ne.symm hL) ho,r⟩
 ·refine(I.hok b u e).stay (λc v hc q=>k c v ?_ q) (λ_ q=>q) λ_ _ q=>q;rcases hc with z|z
  ·rw[z];exact yr b u e
  ·exact yr c _ z
theorem Inv.tok(I:Inv X ao Z H s)(t:Nat):Inv X ao Z H {s with toks:=t}:=I.un (h':=s.heap) (t':=t) Un.refl I.hok
theorem Inv.kept{t':Nat}(I:Inv X ao Z H s)(k:∀b u,s.heap.get? b=some u->h'.get? b=some u):Inv X ao Z H {s with heap:=h',toks:=t'}:=I.un (Un.kept k) (I.hok.kept k)
theorem Inv.laid{a:Addr}{o:HO}{t':Nat}(I:Inv X ao Z H s)(k:∀b u,s.heap.get? b=some u->h'.get? b=some u)(hp:s.heap.objs.size<=a)(new:bM X.prog X.w (upd H a o) h' a o) :
  Inv X ao Z (upd H a o) {s with heap:=h',toks:=t'}:=I.un (Un.laid k hp (I.hok.fresh hp)) (I.hok.laid k hp new)
theorem Inv.write{x e:Addr}{o:HO}{t':Nat}(I:Inv X ao Z H s)(mu:Gk (H x))(he:e=x\/H e=some (.own x))(k:∀b u,b≠e->s.heap.get? b=some u->h'.get? b=some u)(Dq:∃u,h'.get? e=some u)
  (new:bM X.prog X.w (upd H x o) h' x o):Inv X ao Z (upd H x o) {s with heap:=h',toks:=t'}:=I.un (Un.write mu he k Dq) (I.hok.write mu he k Dq new)
theorem Inv.mD{jf:List (Addr×Obj)}(I:Inv X ao Z H s)(h:∀p∈jf,s.heap.get? p.1=some p.2/\H p.1=none/\p.1≠X.env.locals/\p.1∉X.fs/\∀v,p.2.data≠.cell v):Inv X jf Z H s:=
 ⟨I.ok,I.os,I.bare,I.base,I.loc,I.cell,I.free,I.je,λp hp=>(oY.mp hp).elim (λz=>I.pin p (List.mem_append_left _ z)) (h p),I.hok,I.len⟩
theorem V9{N:List Str}(hN:N.Nodup){i j:Nat}{x:Str}(a:N[i]?=some x)(b:N[j]?=some x):i=j:=by
 obtain⟨h1,e1⟩:=eO.mp a;obtain⟨h2,e2⟩:=eO.mp b;exact(List.getElem_inj hN).mp (e1.trans e2.symm)
theorem Ov{M:Model}{A:Around}{E:Value->Shared->Prop}{i:Nat}{x:Str}{v:V}{u:Value}{Q:Unit->Shared->Prop}(I:Inv X ao Z H s)(hN:X.N.Nodup)(hi:X.N[i]?=some x)(hx:Loc X.env.scope x)(r:RelV v u)
  (h:∀s',Inv X ao (Z.set i (some v)) H s'->(∃a,Heap.SameBut a s.heap s'.heap/\(a=X.env.locals\/X.env.cells.lookup x=some a))->Q () s') (hf:X.fn x=true\/X.env.scope.names.lookup x=some .local:=by first|exact .inl rfl|exact .inr rfl|assumption):wpAny M A (storeName X.env x u) Q E s:=by
 obtain⟨m,hn,hl⟩:=id I.loc;have Ox:(X.env.scope.kind==.class||(X.env.scope.kind==.module&&X.env.locals != X.env.globals))=false:=by rw[I.ok.kind];rfl
 have V_:i<Z.length:=by rw[I.len];exact(eO.mp hi).1
 have Ac:=I.Ac;have tracked:∀{a:Addr} {h':Heap},(∃o,s.heap.get? a=some o/\H a=none)->Heap.SameBut a s.heap h'->iQ X.prog X.w H h':=λ{a h'} ha hs b ob e=>by
  obtain⟨_,_,qz⟩:=ha;refine(I.hok b ob e).stay (λc w' hc q=>(hs.2 c ?_).trans q) (λ_ q=>q) λ_ _ q=>q;rintro rfl;rcases hc with rfl|hc
  ·rw[qz] at e;cases e
  ·rw[qz] at hc;cases hc
 rcases hx with hk|hk
 ·refine wpAny_storeName_local hk hn (λh' hn' hs=>?_) Ox;obtain⟨oL,_,_,KC,_⟩:=id hn;refine h _ ⟨I.ok,I.os,I.bare,⟨λb o e n hb hx=>?_,λb o e n hb hx=>?_,I.base.free,λb o e hx=>?_,I.base.tups,I.base.kY,I.base.mj⟩,⟨_,hn',λj y v' e1 e2 e3=>?_⟩,λy c e=>?_,I.free,I.je,λp hp=>?_,tracked ⟨oL,KC,I.free⟩ hs,by simpa using I.len⟩ ⟨_,hs,.inl rfl⟩
  ·exact(hs.2 b (dN (iM (bZ e) I.ok.above))).trans (I.base.keep b o e n hb hx)
  ·obtain⟨sl,e1⟩:=I.base.slot b o e n hb hx;exact⟨sl,(hs.2 b (dN (iM (bZ e) I.ok.above))).trans e1⟩
  ·obtain⟨o',e1⟩:=I.base.there b o e hx;exact⟨o',(hs.2 b (dN (iM (bZ e) I.ok.above))).trans e1⟩
  ·by_cases hj:j=i
   ·subst hj;rw[hi] at e1;cases e1;rw[yc V_] at e2;cases e2;exact⟨u,r,.inl ⟨hk,by simp⟩⟩
   ·rw[qp (Ne.symm hj)] at e2;obtain⟨u',r',q⟩:=hl j y v' e1 e2 e3;refine⟨u',r',?_⟩;rcases q with ⟨k,e⟩|⟨k,c,e,z⟩
    ·refine .inl ⟨k,?_⟩;have:y≠x:=λe=>hj (V9 hN e1 (e▸hi));simp[this,e]
    ·exact .inr ⟨k,c,e,z.sameBut hs (Ac y c e)⟩
  ·obtain⟨w',z⟩:=I.cell y c e;exact⟨w',z.sameBut hs (Ac y c e)⟩
  ·obtain⟨e,n,ne,nf,d⟩:=I.pin p hp;exact⟨(hs.2 p.1 ne).trans e,n,ne,nf,d⟩
 ·have Oz:X.fn x=true:=by
   rcases hf with z|z
   ·exact z
   ·rw[z] at hk;cases hk
  obtain⟨c,hc⟩:=I.ok.has x (.inl hk);obtain⟨w',z⟩:=I.cell x c hc;refine wpAny_storeName_cell I.ok.kind hk hc z (λh' k_ hs=>?_);obtain⟨oc,Wa,OD⟩:=id z;refine h {s with heap:=h'} ⟨I.ok,I.os,I.bare,⟨λb o e n hb hx=>?_,λb o e n hb hx=>?_,I.base.free,λb o e hx=>?_,I.base.tups,I.base.kY,I.base.mj⟩,⟨m,hn.sameBut hs (Ne.symm (Ac x c hc)),λj y v' e1 e2 e3=>?_⟩,λy c' e=>?_,I.free,I.je,λp hp=>?_,tracked ⟨oc,Wa,I.je x c hc⟩ hs,by simpa using I.len⟩ ⟨c,hs,.inr hc⟩
  ·exact(hs.2 b (dN (iM (bZ e) (I.ok.cab x c Oz hc)))).trans (I.base.keep b o e n hb hx)
  ·obtain⟨sl,e1⟩:=I.base.slot b o e n hb hx;exact⟨sl,(hs.2 b (dN (iM (bZ e) (I.ok.cab x c Oz hc)))).trans e1⟩
  ·obtain⟨o',e1⟩:=I.base.there b o e hx;exact⟨o',(hs.2 b (dN (iM (bZ e) (I.ok.cab x c Oz hc)))).trans e1⟩
  ·by_cases hj:j=i
   ·subst hj;rw[hi] at e1;cases e1;rw[yc V_] at e2;cases e2;exact⟨u,r,.inr ⟨.inl hk,c,hc,k_⟩⟩
   ·rw[qp (Ne.symm hj)] at e2;obtain⟨u',r',q⟩:=hl j y v' e1 e2 e3;refine⟨u',r',?_⟩;rcases q with q|⟨k,c',e,z'⟩
    ·exact .inl q
    ·refine .inr ⟨k,c',e,z'.sameBut hs ?_⟩;rintro rfl;exact hj (V9 hN e1 (I.ok.inj _ _ _ e hc▸hi))
  ·by_cases Wb:c'=c
   ·subst Wb;exact⟨_,k_⟩
   ·obtain⟨w2,z2⟩:=I.cell y c' e;exact⟨w2,z2.sameBut hs Wb⟩
  ·obtain⟨e,n,ne,nf,d⟩:=I.pin p hp;refine⟨(hs.2 p.1 ?_).trans e,n,ne,nf,d⟩;intro q;rw[q,Wa] at e;have q':oc=p.2:=cL e;exact d w' (by rw[<-q'];exact OD)
theorem OJ{M:Model}{A:Around}{E:Value->Shared->Prop}{i:Nat}{x:Str}{v:V}{u:Value}{Q:Unit->Shared->Prop}(I:Inv X ao Z H s)(hN:X.N.Nodup)(hi:X.N[i]?=some x)(hx:Loc X.env.scope x)(r:RelV v u)
  (h:∀s',Inv X ao (Z.set i (some v)) H s'->Q () s') (hf:X.fn x=true\/X.env.scope.names.lookup x=some .local:=by first|exact .inl rfl|exact .inr rfl|assumption):wpAny M A (storeName X.env x u) Q E s:=
 Ov I hN hi hx r (λs' I' _=>h s' I') hf
theorem Inv.call'{s':Shared}{ch:List Addr}(I:Inv X ao Z H s)(ho:s'.os=s.os)(u:Un (frs X.stack) ch H H' s.heap s'.heap)(hok:iQ X.prog X.w H' s'.heap)(hg:AllBare s'.gens)
  (vA:∀b∈ch,(b∈X.ex\/X.s₀.heap.get? b=none)/\b≠X.env.locals/\(∀x c,X.env.cells.lookup x=some c->c≠b)/\∀p∈X.pn++ao,p.1≠b):Inv X ao Z H' s':=by
 obtain⟨h',g',d',t',o'⟩:=s';have e:o'=s.os:=ho;subst e;exact I.call (g':=g') (t':=t') (d':=d') u hok hg vA
end
noncomputable abbrev XK:=Value->Option Addr->Hp->Prop
noncomputable abbrev St:=List (Option V)
noncomputable abbrev VK:=V->Hp->Prop
noncomputable abbrev TE:=St->Hp->VK->Prop
noncomputable abbrev TT:=St->Hp->(Bool->Hp->Prop)->Prop
noncomputable abbrev TA:=St->Hp->(List V->Hp->Prop)->Prop
structure Ends where
 nx:St->Hp->Prop
 rt:VK
 bk:St->Hp->Prop:=λ_ _=>False
 ct:St->Hp->Prop:=λ_ _=>False
noncomputable abbrev TS:=Ends->St->Hp->Prop
def EP(X:Cx)(ao:List (Addr×Obj))(Z:St)(Q:VK)(u:Value)(s':Shared):Prop:=∃v H',Inv X ao Z H' s'/\RelV v u/\Q v H'
def TP(X:Cx)(ao:List (Addr×Obj))(Z:St)(Q:Bool->Hp->Prop)(b:Bool)(s':Shared):Prop:=∃H',Inv X ao Z H' s'/\Q b H'
def AP(X:Cx)(ao:List (Addr×Obj))(Z:St)(Q:List V->Hp->Prop)(us:List Value)(s':Shared):Prop:=∃vs H',Inv X ao Z H' s'/\Vals vs us/\Q vs H'
def SP(X:Cx)(ao:List (Addr×Obj))(D:Ends)(f:Flow)(s':Shared):Prop:=
 match f with
 |.next=>∃Z' H',Inv X ao Z' H' s'/\D.nx Z' H'
 |.brk=>∃Z' H',Inv X ao Z' H' s'/\D.bk Z' H'
 |.cont=>∃Z' H',Inv X ao Z' H' s'/\D.ct Z' H'
 |.ret u=>∃v Z' H',Inv X ao Z' H' s'/\RelV v u/\D.rt v H'
def PE(X:Cx)(e:Expr)(t:TE):Prop:=
 ∀(ao:List (Addr×Obj)) (s:Shared) (Z:St) (H:Hp) (Q:VK),Inv X ao Z H s->t Z H Q->wpAny (model X.prog X.w) X.A (eval e X.env) (EP X ao Z Q) X.xe s
def PT(X:Cx)(e:Expr)(t:TT):Prop:=
 ∀(ao:List (Addr×Obj)) (s:Shared) (Z:St) (H:Hp) (Q:Bool->Hp->Prop),Inv X ao Z H s->t Z H Q->wpAny (model X.prog X.w) X.A (isTrue e X.env (eval e X.env)) (TP X ao Z Q) X.xe s
def PW(X:Cx)(e:Expr)(t:TT):Prop:=
 ∀(whole:Sem Value) (ao:List (Addr×Obj)) (s:Shared) (Z:St) (H:Hp) (Q:Bool->Hp->Prop),Inv X ao Z H s->t Z H Q->wpAny (model X.prog X.w) X.A (isTrue e X.env whole) (TP X ao Z Q) X.xe s
theorem Kac{X:Cx}{e:Expr}{t:TT}(h:PW X e t):PT X e t:=h _
def PA(X:Cx)(es:List Expr)(t:TA):Prop:=
 ∀(pos:Pos) (ao:List (Addr×Obj)) (s:Shared) (Z:St) (H:Hp) (Q:List V->Hp->Prop),Inv X ao Z H s->t Z H Q->wpAny (model X.prog X.w) X.A (spliced (backTo pos (starEach es X.env))) (AP X ao Z Q) X.xe s
def PS(X:Cx)(st:Stmt)(t:TS):Prop:=
 ∀(ao:List (Addr×Obj)) (s:Shared) (Z:St) (H:Hp) (D:Ends),Inv X ao Z H s->t D Z H->wpAny (model X.prog X.w) X.A (exec st X.env) (SP X ao D) X.xe s
def pF(X:Cx)(st:List Stmt)(t:TS):Prop:=
 ∀(ao:List (Addr×Obj)) (s:Shared) (Z:St) (H:Hp) (D:Ends),Inv X ao Z H s->t D Z H->wpAny (model X.prog X.w) X.A (execs st X.env) (SP X ao D) X.xe s
theorem aU{α:Type}{t:Sem α}{Q Q':α->Shared->Prop}{M:Model}{A:Around}{E:Value->Shared->Prop}{s:Shared}(h:wpAny M A t Q E s)(hQ:∀a s,Q a s->Q' a s):wpAny M A t Q' E s:=gH h hQ λ_ _ x=>x
section
variable {X:Cx}
noncomputable def O1(i:Nat):TE:=λZ H Q=>∃v,Z[i]?=some (some v)/\Q v H
noncomputable def tC(v:V):TE:=λ_ H Q=>Q v H
theorem Wc{i:Nat}{x:Str}{pos:Pos}(hN:X.N[i]?=some x)(hv:Ky X.env.scope x)(hd:(x==("__debug__" : Str))=false:=by decide)(j_:(x==("__classdict__" : Str))=false:=by decide):PE X (.Name x pos) (O1 i):=by
 intro ao s Z H Q I h;obtain⟨v,e,h⟩:=h;obtain⟨m,hn,hl⟩:=I.loc;obtain⟨u,r,l⟩:=hl i x v hN e hv;have fin:EP X ao Z Q u s:=⟨v,H,I,r,h⟩;rcases l with ⟨hk,hm⟩|⟨hk,c,hc,qC⟩
 ·exact wpAny_Name (wpAny_loadName_local I.ok.kind hk hn hm fin) hd
 ·rcases hk with hk|hk
  ·exact wpAny_Name (wpAny_loadName_cell I.ok.kind hk hc qC fin) hd
  ·exact wpAny_Name (wpAny_loadName_free I.ok.kind hk hc qC fin j_) hd
theorem Wd{i j pos}:PE X (.Constant (.int i) j pos) (tC (.int i)):=λ_ _ _ H _ I h=>wpAny_Constant_int ⟨.int i,H,I.tok _,⟨_,rfl⟩,h⟩
theorem zns{b j pos}:PE X (.Constant (.bool b) j pos) (tC (.bl b)):=λ_ _ _ H _ I h=>Constant_bool ⟨.bl b,H,I,rfl,h⟩
theorem zmq{j pos}:PE X (.Constant .none j pos) (tC .non):=λ_ _ _ H _ I h=>Constant_none ⟨.non,H,I,rfl,h⟩
def Gl(X:Cx)(x:Str):Prop:=X.env.kindOf x=some .globalImplicit
theorem O2{E:Value->Shared->Prop}{ao:List (Addr×Obj)}{s:Shared}{Z:St}{H:Hp}{x:Str}{u:Value}{pos:Pos}{Q:Value->Shared->Prop}(I:Inv X ao Z H s)(hg:Gl X x)(hm:X.mg x=some u)(h:Q u s)
  (hd:(x==("__debug__" : Str))=false:=by decide):wpAny (model X.prog X.w) X.A (eval (.Name x pos) X.env) Q E s:=
 Calls.Name_function_global I.ok.kind hg (Calls.loadGlobal_global (by rw[I.ok.glob];exact I.mod.glob.keeps I.bk) hm h) hd
theorem wA{E:Value->Shared->Prop}{ao:List (Addr×Obj)}{s:Shared}{Z:St}{H:Hp}{x:Str}{u:Value}{pos:Pos}{Q:Value->Shared->Prop}(I:Inv X ao Z H s)(hg:Gl X x)(hm:X.mg x=none)(hv:bootBuiltins x=some u)(h:Q u s)
  (hn:x≠"__name__":=by decide) (hd:(x==("__debug__" : Str))=false:=by decide):wpAny (model X.prog X.w) X.A (eval (.Name x pos) X.env) Q E s:=by
 obtain⟨mb,h1,h2⟩:=I.mod.blt;exact Calls.Name_function_global I.ok.kind hg (Calls.loadGlobal_builtin (by rw[I.ok.glob];exact I.mod.glob.keeps I.bk) hm (by rw[I.ok.blt];exact h1.keeps I.bk) ((h2 x hn).trans hv) h) hd
theorem zjq{x:Str}{v:V}{u:Value}{pos:Pos}(hg:Gl X x)(hm:X.mg x=some u)(r:RelV v u)(hd:(x==("__debug__" : Str))=false:=by decide):PE X (.Name x pos) (tC v):=
 λ_ _ _ H _ I h=>O2 I hg hm ⟨v,H,I,r,h⟩ hd
variable {a b:Expr}{ta tb:TE}{pos:Pos}
def PC(X:Cx)(op:CmpOp)(a b:Expr)(t:TE):Prop:=
 ∀(ao:List (Addr×Obj)) (s:Shared) (Z:St) (H:Hp) (Q:VK),Inv X ao Z H s->t Z H Q->
  wpAny (model X.prog X.w) X.A (eval a X.env) (λv s₁=>wpAny (model X.prog X.w) X.A (eval b X.env) (λu s₂=>wpAny (model X.prog X.w) X.A (compareOp op v u) (EP X ao Z Q) X.xe s₂) X.xe s₁) X.xe s
theorem nO(b:Expr){op:CmpOp}(h:op≠.In)(h2:op≠.NotIn):behindInMarks op b=false:=by
 have e1:(op==CmpOp.In)=false:=by cases op<;>first|rfl|exact absurd rfl h
 have e2:(op==CmpOp.NotIn)=false:=by cases op<;>first|rfl|exact absurd rfl h2
 cases b<;>simp[behindInMarks,e1,e2]
noncomputable def O4(ta:TE):TE:=λZ H Q=>ta Z H λx H1=>Q (.bl (decide (x=.non))) H1
noncomputable def Gu(ta:TE):TE:=λZ H Q=>ta Z H λx H1=>Q (.bl (!decide (x=.non))) H1
theorem RelV.nP{x:V}{v:Value}(r:RelV x v):(v==Value.none)=decide (x=.non):=by
 cases x with
 |non=>cases r;rfl
 |bl _=>cases r;rfl
 |int _=>obtain⟨t,rfl⟩:=r;rfl
 |str _=>obtain⟨t,rfl⟩:=r;rfl
 |zY _=>obtain⟨t,rfl⟩:=r;rfl
 |flt _=>obtain⟨t,rfl⟩:=r;rfl
 |ref _=>cases r;rfl
 |ty _=>cases r;rfl
theorem Wf{j pos'}(ha:PE X a ta):PC X .Is a (.Constant .none j pos') (O4 ta):=by
 intro ao s Z H Q I h;refine aU (ha ao s Z H _ I h) λv s1 hx=>eU hx λx H1 I1 r1 q1=>?_;exact Constant_none (is_none_gen ⟨.bl _,H1,I1,by rw[r1.nP];rfl,q1⟩)
theorem Wg{j pos'}(ha:PE X a ta):PC X .IsNot a (.Constant .none j pos') (Gu ta):=by
 intro ao s Z H Q I h;refine aU (ha ao s Z H _ I h) λv s1 hx=>eU hx λx H1 I1 r1 q1=>?_;exact Constant_none (isnot_none_gen ⟨.bl _,H1,I1,by rw[r1.nP];rfl,q1⟩)
noncomputable def tB(t:TE):TT:=λZ H Q=>t Z H λx H1=>∃c,x=.bl c/\Q c H1
theorem Wh{op:CmpOp}{t:TE}(h:PC X op a b t)(h1:behindInMarks op b=false:=by first|exact nO _ (by decide) (by decide)|rfl):PE X (.Compare a [op] [b] pos) t:=λao s Z H Q I hw=>wpAny_Compare1 (h ao s Z H Q I hw) h1
theorem O5{op:CmpOp}{t:TE}(h:PC X op a b t)(h1:behindInMarks op b=false:=by first|exact nO _ (by decide) (by decide)|rfl):PT X (.Compare a [op] [b] pos) (tB t):=by
 intro ao s Z H Q I hw;refine wpAny_isTrue_Compare1 (aU (h ao s Z H _ I hw) λv s1 h1=>aU h1 λu s2 h2=>aU h2 λc s3 hx=>eU hx λx H1 I1 r1 q1=>?_) h1;obtain⟨d,rfl,q⟩:=q1;cases r1;exact u9 ⟨H1,I1,q⟩
theorem zkD{e:Expr}{t:TE}(h:PE X e t)(he:∀whole,isTrue e X.env whole=(do let v <-whole;standAt e.pos;holding [v] (truthy v)):=by intro _;rfl):PT X e (tB t):=by
 intro ao s Z H Q I hw;refine isTrue_plain (aU (h ao s Z H _ I hw) λv s1 hx=>eU hx λx H1 I1 r1 q1=>?_) (he _);obtain⟨d,rfl,q⟩:=q1;cases r1;exact u9 ⟨H1,I1,q⟩
variable {tA KD:TT}{rest:List Expr}
noncomputable def O6(t u:TT):TT:=λZ H Q=>t Z H λc H1=>if c=true then u Z H1 Q else Q false H1
noncomputable def tOr(t u:TT):TT:=λZ H Q=>t Z H λc H1=>if c=true then Q true H1 else u Z H1 Q
noncomputable def O7(t:TT):TT:=λZ H Q=>t Z H λc H1=>Q (!c) H1
theorem zj8(ha:PT X a tA):PW X (.BoolOp .And [a] pos) tA:=by
 intro wh ao s Z H Q I h;refine isTrue_and (aU (ha ao s Z H Q I h) λc s1 e=>?_);cases c with
 |true=>exact isTrue_and_nil e
 |false=>exact e
theorem zmN(ha:PT X a tA):PW X (.BoolOp .Or [a] pos) tA:=by
 intro wh ao s Z H Q I h;refine isTrue_or (aU (ha ao s Z H Q I h) λc s1 e=>?_);cases c with
 |false=>exact isTrue_or_nil e
 |true=>exact e
theorem zlI(ha:PT X a tA)(hb:PW X (.BoolOp .And (b::rest) pos) KD):PW X (.BoolOp .And (a::b::rest) pos) (O6 tA KD):=by
 intro wh ao s Z H Q I h;refine isTrue_and (aU (ha ao s Z H _ I h) λc s1 hx=>vp hx λH1 I1 q1=>?_);cases c with
 |true=>exact hb wh ao s1 Z H1 Q I1 q1
 |false=>exact⟨H1,I1,q1⟩
theorem znF(ha:PT X a tA)(hb:PW X (.BoolOp .Or (b::rest) pos) KD):PW X (.BoolOp .Or (a::b::rest) pos) (tOr tA KD):=by
 intro wh ao s Z H Q I h;refine isTrue_or (aU (ha ao s Z H _ I h) λc s1 hx=>vp hx λH1 I1 q1=>?_);cases c with
 |true=>exact⟨H1,I1,q1⟩
 |false=>exact hb wh ao s1 Z H1 Q I1 q1
theorem zkX(ha:PT X a tA):PT X (.UnaryOp .Not a pos) (O7 tA):=by
 intro ao s Z H Q I h;exact isTrue_not (ha ao s Z H (λc H1=>Q (!c) H1) I h)
noncomputable def Gv(ta tb:TE):TE:=λZ H Q=>ta Z H λx H1=>∃c,x=.bl c/\if c=true then tb Z H1 Q else Q (.bl false) H1
noncomputable def O8(ta tb:TE):TE:=λZ H Q=>ta Z H λx H1=>∃c,x=.bl c/\if c=true then Q (.bl true) H1 else tb Z H1 Q
noncomputable def Gw(ta:TE):TE:=λZ H Q=>ta Z H λx H1=>∃c,x=.bl c/\Q (.bl (!c)) H1
theorem zk1{op}{t:TE}(h:PE X a t):PE X (.BoolOp op [a] pos) t:=λao s Z H Q I hw=>BoolOp_one (h ao s Z H Q I hw)
theorem zkL(ha:PE X a ta)(hb:PE X (.BoolOp .And (b::rest) pos) tb):PE X (.BoolOp .And (a::b::rest) pos) (Gv ta tb):=by
 intro ao s Z H Q I h;refine BoolOp_and (aU (ha ao s Z H _ I h) λv s1 hx=>eU hx λx H1 I1 r1 q1=>?_);obtain⟨c,rfl,q1⟩:=q1;cases r1;refine u9 ?_;cases c with
 |true=>exact hb ao s1 Z H1 Q I1 q1
 |false=>exact⟨.bl false,H1,I1,rfl,q1⟩
theorem znS(ha:PE X a ta)(hb:PE X (.BoolOp .Or (b::rest) pos) tb):PE X (.BoolOp .Or (a::b::rest) pos) (O8 ta tb):=by
 intro ao s Z H Q I h;refine BoolOp_or (aU (ha ao s Z H _ I h) λv s1 hx=>eU hx λx H1 I1 r1 q1=>?_);obtain⟨c,rfl,q1⟩:=q1;cases r1;refine u9 ?_;cases c with
 |false=>exact hb ao s1 Z H1 Q I1 q1
 |true=>exact⟨.bl true,H1,I1,rfl,q1⟩
theorem zkN(ha:PE X a ta):PE X (.UnaryOp .Not a pos) (Gw ta):=by
 intro ao s Z H Q I h;refine UnaryOp_ (aU (ha ao s Z H _ I h) λv s1 hx=>eU hx λx H1 I1 r1 q1=>?_);obtain⟨c,rfl,q1⟩:=q1;cases r1;exact not_of (u9 ⟨.bl (!c),H1,I1,rfl,q1⟩)
noncomputable def tIf(t:TT)(ta tb:TE):TE:=λZ H Q=>t Z H λc H1=>if c=true then ta Z H1 Q else tb Z H1 Q
theorem zhk{c:Expr}(hc:PT X c tA)(ha:PE X a ta)(hb:PE X b tb):PE X (.IfExp c a b pos) (tIf tA ta tb):=by
 intro ao s Z H Q I h;refine wpAny_IfExp (aU (hc ao s Z H _ I h) λd s1 hx=>vp hx λH1 I1 q1=>?_);cases d with
 |true=>exact ha ao s1 Z H1 Q I1 q1
 |false=>exact hb ao s1 Z H1 Q I1 q1
end
def cT(K:W.Frag)(H:Hp)(a:Addr)(xs:List V):Prop:=
 Rd H a (.lst xs) \/
  ∃(o:Obj) (its:Array Value) (n:Nat),K.lookup a=some o/\o.cls=.type "list"/\o.dict=none/\o.data=.seq its n/\its.size<=sizeLine/\Vals xs its.toList
def gw(K:W.Frag)(H:Hp)(a:Addr)(xs:List V):Prop:=
 Rd H a (.tup xs) \/
  ∃(o:Obj) (its:Array Value) (n:Nat),K.lookup a=some o/\o.cls=.type "tuple"/\o.data=.seq its n/\its.size<=sizeLine/\Vals xs its.toList
noncomputable def O9:Value->Option V
 |.none=>some .non
 |.bool b=>some (.bl b)
 |.int i _=>some (.int i)
 |.str x _=>some (.str x)
 |.bytes b _=>some (.zY b)
 |.float b _=>some (.flt b)
 |.ref a=>some (.ref a)
 |.type n=>some (.ty n)
 |_=>none
theorem RelV.abs{x:V}{u:Value}(r:RelV x u):O9 u=some x:=by
 cases x with
 |non=>cases r;rfl
 |bl _=>cases r;rfl
 |int _=>obtain⟨t,rfl⟩:=r;rfl
 |str _=>obtain⟨t,rfl⟩:=r;rfl
 |zY _=>obtain⟨t,rfl⟩:=r;rfl
 |flt _=>obtain⟨t,rfl⟩:=r;rfl
 |ref _=>cases r;rfl
 |ty _=>cases r;rfl
theorem RelV.inj{x y:V}{u:Value}(r:RelV x u)(q:RelV y u):x=y:=cL (r.abs.symm.trans q.abs)
theorem Vals.inj{xs ys:List V}{us:List Value}(h:Vals xs us)(h':Vals ys us):xs=ys:=by
 induction h generalizing ys with
 |nil=>cases h';rfl
 |cons r _ ih=>
  cases h' with
  |cons r' t'=>rw[r.inj r',ih t']
section
variable {X:Cx}{ao:List (Addr×Obj)}{Z:St}{H:Hp}{s:Shared}{a:Addr}{xs ys:List V}
theorem cT.of{K:W.Frag}(h:H a=some (.lst xs)):cT K H a xs:=.inl (.inl h)
theorem Inv.list(I:Inv X ao Z H s)(h:cT X.K H a xs):∃its:List Value,Vals xs its/\PlainL s.heap a its.toArray/\xs.length<=sizeLine:=by
 rcases h with h|⟨o,its,n,hk,hc,hd,hs,hz,r⟩
 ·obtain⟨z,its,n,r,e⟩:=h.ok I.hok;exact⟨its,r,⟨_,n,e,rfl,rfl,rfl⟩,z⟩
 ·refine⟨its.toList,r,⟨o,n,I.nM a o hk,hc,hd,by simpa using hs⟩,?_⟩;have e:=r.length;simp only[zG] at e
  lia
theorem Inv.tuple(I:Inv X ao Z H s)(h:gw X.K H a xs):∃its:List Value,Vals xs its/\IsTup s.heap a its.toArray/\xs.length<=sizeLine:=by
 rcases h with h|⟨o,its,n,hk,hc,hs,hz,r⟩
 ·obtain⟨z,its,r,p⟩:=h.ok I.hok;exact⟨its,r,p,z⟩
 ·refine⟨its.toList,r,⟨o,I.nM a o hk,hc,n,by simpa using hs⟩,?_⟩;have e:=r.length;simp only[zG] at e
  lia
theorem Inv.nQ(I:Inv X ao Z H s)(h:cT X.K H a xs)(h':cT X.K H a ys):xs=ys:=by
 obtain⟨its,r,⟨o,n,e,_,_,d⟩,_⟩:=I.list h;obtain⟨its',r',⟨o',n',e',_,_,d'⟩,_⟩:=I.list h';rw[e] at e';cases e';rw[d] at d';injection d' with d1 _;have:its=its':=by simpa using lW Array.toList d1
 subst this;exact r.inj r'
theorem Inv.lF(I:Inv X ao Z H s)(h:gw X.K H a xs)(h':gw X.K H a ys):xs=ys:=by
 obtain⟨its,r,⟨o,e,_,n,d⟩,_⟩:=I.tuple h;obtain⟨its',r',⟨o',e',_,n',d'⟩,_⟩:=I.tuple h';rw[e] at e';cases e';rw[d] at d';injection d' with d1 _;have:its=its':=by simpa using lW Array.toList d1
 subst this;exact r.inj r'
end
section
variable {X:Cx}{ao:List (Addr×Obj)}{Z:St}{H:Hp}{s:Shared}{E:Value->Shared->Prop}
end
section
variable {X:Cx}{st:Stmt}{rest:List Stmt}{t u:TS}{e:Expr}{te:TE}{pos:Pos}
noncomputable def Gx:TS:=λD Z H=>D.nx Z H
noncomputable def O_(t u:TS):TS:=λD Z H=>t {D with nx:=u D} Z H
theorem Wi:pF X [] Gx:=λ_ _ Z H _ I h=>wpAny_execs_nil ⟨Z,H,I,h⟩
theorem Wj(h1:PS X st t)(h2:pF X rest u):pF X (st::rest) (O_ t u):=by
 intro ao s Z H D I h;refine wpAny_execs_cons (aU (h1 ao s Z H {D with nx:=u D} I h) λf s1 q=>?_);cases f with
 |next=>
  obtain⟨Z',H',I',q⟩:=q;exact h2 ao s1 Z' H' D I' q
 |ret v=>exact q
 |brk=>exact q
 |cont=>exact q
theorem Inv.quiet{ao:List (Addr×Obj)}{Z:St}{H:Hp}{s:Shared}(I:Inv X ao Z H s):interactive X.env=false:=by simp[interactive,I.ok.kind]
noncomputable def Gy(te:TE):TS:=λD Z H=>te Z H λ_ H1=>D.nx Z H1
theorem zjN(he:PE X e te)(hs:swapsWith e none pos.line X.env=pure false:=by rfl):PS X (.Expr e pos) (Gy te):=by
 intro ao s Z H D I h;exact wpAny_Expr_any (aU (he ao s Z H _ I h) λv s1 hx=>eU hx λx H1 I1 r1 q1=>⟨Z,H1,I1,q1⟩) I.quiet hs
noncomputable def Pa(te:TE):TS:=λD Z H=>te Z H D.rt
theorem zlR(he:PE X e te):PS X (.Return (some e) pos) (Pa te):=by
 intro ao s Z H D I h;exact wpAny_Return_some (aU (he ao s Z H _ I h) λv s1 hx=>eU hx λx H1 I1 r1 q1=>⟨x,Z,H1,I1,r1,q1⟩)
noncomputable def Pb(c:TT)(t u:TS):TS:=λD Z H=>c Z H λb H1=>if b=true then t D Z H1 else u D Z H1
theorem zn0{c:Expr}{a b:List Stmt}{tc:TT}(hc:PT X c tc)(ha:pF X a t)(hb:pF X b u):PS X (.If c a b pos) (Pb tc t u):=by
 intro ao s Z H D I h;refine wpAny_If (aU (hc ao s Z H _ I h) λd s1 hx=>vp hx λH1 I1 q1=>?_);cases d with
 |true=>exact ha ao s1 Z H1 D I1 q1
 |false=>exact hb ao s1 Z H1 D I1 q1
end
noncomputable abbrev TG:=V->St->Hp->(St->Hp->Prop)->Prop
noncomputable abbrev Ad:=List V->St->Hp->(St->Hp->Prop)->Prop
def PG(X:Cx)(target:Expr)(t:TG):Prop:=
 ∀(ao:List (Addr×Obj)) (s:Shared) (Z:St) (H:Hp) (v:V) (u:Value) (Q:St->Hp->Prop),Inv X ao Z H s->RelV v u->t v Z H Q->
  wpAny (model X.prog X.w) X.A (assign target X.env u) (λ_ s'=>∃Z' H',Inv X ao Z' H' s'/\Q Z' H') X.xe s
def KH(X:Cx)(ts:List Expr)(t:Ad):Prop:=
 ∀(ao:List (Addr×Obj)) (s:Shared) (Z:St) (H:Hp) (vs:List V) (us:List Value) (Q:St->Hp->Prop),Inv X ao Z H s->Vals vs us->t vs Z H Q->
  wpAny (model X.prog X.w) X.A (assignInOrder ((assignEach ts X.env).map (·.2)) us) (λ_ s'=>∃Z' H',Inv X ao Z' H' s'/\Q Z' H') X.xe s
noncomputable abbrev Ae:=V->V->V->Hp->(Hp->Prop)->Prop
def Gz(X:Cx)(t:Ae):Prop:=
 ∀(ao:List (Addr×Obj)) (s:Shared) (Z:St) (H:Hp) (o i v:V) (ov iv u:Value) (Q:Hp->Prop),Inv X ao Z H s->RelV o ov->RelV i iv->RelV v u->t o i v H Q->
  wpAny (model X.prog X.w) X.A (setItem ov iv u) (λ_ s'=>∃H',Inv X ao Z H' s'/\Q H') X.xe s
noncomputable abbrev KJ:=V->V->Hp->VK->Prop
def Wm(X:Cx)(op:Operator)(t:KJ):Prop:=
 ∀(ao:List (Addr×Obj)) (s:Shared) (Z:St) (H:Hp) (x y:V) (v u:Value) (Q:VK),Inv X ao Z H s->RelV x v->RelV y u->t x y H Q->
  wpAny (model X.prog X.w) X.A (inplaceOp op v u) (EP X ao Z Q) X.xe s
section
variable {X:Cx}{pos:Pos}
noncomputable def dz(i:Nat):TG:=λv Z H Q=>Q (Z.set i (some v)) H
theorem KN{i:Nat}{x:Str}(hN:X.N.Nodup)(hi:X.N[i]?=some x)(hx:Loc X.env.scope x)(hf:X.fn x=true\/X.env.scope.names.lookup x=some .local:=by first|exact .inl rfl|exact .inr rfl|assumption):PG X (.Name x pos) (dz i):=by
 intro ao s Z H v u Q I r h;exact wpAny_assign_Name (OJ I hN hi hx r (λs' I'=>⟨_,H,I',h⟩) hf)
noncomputable def tD:Ad:=λvs Z H Q=>vs=[]/\Q Z H
noncomputable def iw(t:TG)(u:Ad):Ad:=λvs Z H Q=>∃v r,vs=v::r/\t v Z H λZ' H'=>u r Z' H' Q
theorem zkl:KH X [] tD:=by
 intro ao s Z H vs us Q I r h;obtain⟨e,h⟩:=h;subst e;cases r;exact assignInOrder_nil ⟨Z,H,I,h⟩
theorem Wn{e:Expr}{es:List Expr}{t:TG}{u:Ad}(h1:PG X e t)(h2:KH X es u)
  (hs:(assignEach (e::es) X.env).map (·.2)=assign e X.env::(assignEach es X.env).map (·.2):=by rfl):KH X (e::es) (iw t u):=by
 intro ao s Z H vs us Q I r h;obtain⟨v,vr,e1,h⟩:=h;subst e1;cases r with
 |cons r rr=>
  rw[hs];refine assignInOrder_cons (aU (h1 ao s Z H _ _ _ I r h) λ_ s1 ⟨Z1,H1,I1,q1⟩=>?_);exact h2 ao s1 Z1 H1 _ _ Q I1 rr q1
noncomputable def tG(K:W.Frag)(n:Nat)(t:Ad):TG:=λv Z H Q=>∃a xs,v=.ref a/\gw K H a xs/\xs.length=n/\t xs Z H Q
theorem zmz{es:List Expr}{k:Nat}{t:Ad}{n:Nat}(hc:X.aj=true)(h:KH X es t)
  (hn:(assignEach es X.env).length=n:=by rfl) (Af:(assignEach es X.env).findIdx? (·.1)=none:=by rfl):PG X (.Tuple es k pos) (tG X.K n t):=by
 intro ao s Z H v u Q I r hw;obtain⟨a,xs,e1,hq,hl,hw⟩:=hw;subst e1;cases r;obtain⟨its,rv,ht,hz⟩:=I.tuple hq;refine assign_Tuple_tuple (I.ok.hd hc) ht (by simp[hn,<-hl,rv.length]) Af λh' hx=>?_;have I1:Inv X ao Z H {s with heap:=h'}:=I.kept (t':=s.toks) λb o e=>hx b o (dN (bZ e)) e;exact h ao _ Z H xs _ Q I1 (by simpa using rv) hw
noncomputable def Pg(to ti:TE)(t:Ae):TG:=λv Z H Q=>to Z H λo H1=>ti Z H1 λi H2=>t o i v H2 λH3=>Q Z H3
theorem zlL{o i:Expr}{to ti:TE}{t:Ae}(ho:PE X o to)(hi:PE X i ti)(hs:Gz X t)
  (ha:∀v,assign (.Subscript o i pos) X.env v=(do
   let ov <-holding [v] (eval o X.env)
   let iv <-holding [v,ov] (eval i X.env)
   standAt pos
   holding [v,ov,iv] (setItem ov iv v)
   release [v,ov,iv] []):=by intro _;rfl):PG X (.Subscript o i pos) (Pg to ti t):=by
 intro ao s Z H v u Q I r h;rw[ha];refine aB (qu (aU (ho ao s Z H _ I h) λov s1 hx=>eU hx λx H1 I1 r1 q1=>?_));refine aB (qu (aU (hi ao s1 Z H1 _ I1 q1) λiv s2 hx=>eU hx λy H2 I2 r2 q2=>?_));refine aB (v9 (aB (qu (aU (hs ao s2 Z H2 x y v ov iv u _ I2 r1 r2 r q2) λ_ s3 hx=>vp hx λH3 I3 q3=>?_))));exact wpAny_release ⟨Z,H3,I3,q3⟩
noncomputable def wB(te:TE)(g:TG):TS:=λD Z H=>te Z H λx H1=>g x Z H1 D.nx
theorem Wo{tg e:Expr}{te:TE}{g:TG}(he:PE X e te)(hg:PG X tg g)(hs:swapsWithSole [tg] e pos.line X.env=pure false:=by rfl)(hw:swappedStores [tg] e X.env=pure none:=by rfl)
  (h1:(assignEach [tg] X.env).map (·.2)=[assign tg X.env]:=by rfl):PS X (.Assign [tg] e pos) (wB te g):=by
 intro ao s Z H D I h;refine wpAny_Assign_stores (aU (he ao s Z H _ I h) λv s1 hx=>eU hx λx H1 I1 r1 q1=>?_) hs hw;rw[h1];exact aU (hg ao s1 Z H1 x v _ I1 r1 q1) λ_ s2 q=>q
theorem zlE{i:Nat}{x:Str}{e:Expr}{te:TE}{pos':Pos}(hN:X.N.Nodup)(hi:X.N[i]?=some x)(hx:Loc X.env.scope x)(he:PE X e te)(hs:swapsWith e (some (.Name x pos')) pos.line X.env=pure false:=by rfl)(hf:X.fn x=true\/X.env.scope.names.lookup x=some .local:=by first|exact .inl rfl|exact .inr rfl|assumption) :
  PS X (.Assign [.Name x pos'] e pos) (wB te (dz i)):=by
 intro ao s Z H D I h;refine wpAny_Assign_Name (aU (he ao s Z H _ I h) λv s1 ⟨y,H1,I1,r1,q1⟩=>?_) hs;exact OJ I1 hN hi hx r1 (λs2 I2=>⟨_,H1,I2,q1⟩) hf
noncomputable def GC(i:Nat)(te:TE)(ti:KJ):TS:=λD Z H=>∃x,Z[i]?=some (some x)/\te Z H λy H1=>ti x y H1 λz H2=>D.nx (Z.set i (some z)) H2
theorem zk3{i:Nat}{x:Str}{e:Expr}{te:TE}{op:Operator}{ti:KJ}{pos':Pos}(hN:X.N.Nodup)(hi:X.N[i]?=some x)(hx:Loc X.env.scope x)(he:PE X e te)(ho:Wm X op ti)(hf:X.fn x=true\/X.env.scope.names.lookup x=some .local:=by first|exact .inl rfl|exact .inr rfl|assumption) :
  PS X (.AugAssign (.Name x pos') op e pos) (GC i te ti):=by
 intro ao s Z H D I h;obtain⟨v,e1,h⟩:=h;obtain⟨m,hn,hl⟩:=I.loc;have vis:Ky X.env.scope x:=by rcases hx with k|k;exact .inl k;exact .inr (.inl k)
 obtain⟨u,r,l⟩:=hl i x v hi e1 vis;refine wpAny_AugAssign_Name ?_;have go:wpAny (model X.prog X.w) X.A (eval e X.env) (λw s₂=>wpAny (model X.prog X.w) X.A (inplaceOp op u w) (λr s₃=>wpAny (model X.prog X.w) X.A (storeName X.env x r) (λ_=>SP X ao D .next) X.xe s₃) X.xe s₂) X.xe s:=by
  refine aU (he ao s Z H _ I h) λw s1 ⟨y,H1,I1,r1,q1⟩=>?_;refine aU (ho ao s1 Z H1 v y u w _ I1 r r1 q1) λz s2 ⟨zv,H2,I2,r2,q2⟩=>?_;exact OJ I2 hN hi hx r2 (λs3 I3=>⟨_,H2,I3,q2⟩) hf
 rcases l with ⟨hk,hm⟩|⟨hk,c,hc,qC⟩
 ·exact wpAny_loadName_local I.ok.kind hk hn hm go
 ·rcases hk with hk|hk
  ·exact wpAny_loadName_cell I.ok.kind hk hc qC go
  ·rcases hx with k|k
   ·have:X.env.scope.names.lookup x=some .free:=hk;rw[k] at this;cases this
   ·have:X.env.scope.names.lookup x=some .free:=hk;rw[k] at this;cases this
noncomputable def Wq(f:Int->Int->Int):KJ:=λx y H Q=>∃i j,x=.int i/\y=.int j/\Q (.int (f i j)) H
theorem zlv:Wm X .Add (Wq λi j=>i+j):=by
 intro ao s Z H x y v u Q I r1 r2 h;obtain⟨i,j,e1,e2,q⟩:=h;subst e1;subst e2;obtain⟨t,rfl⟩:=r1;obtain⟨t',rfl⟩:=r2;exact iadd_int ⟨.int _,H,I.tok _,⟨_,rfl⟩,q⟩
end
section
variable {X:Cx}{pos:Pos}
noncomputable def Ag(c:TT)(tb:TS):TS:=λD Z H=>∃W:Nat->St->Hp->Prop,(∃m,W m Z H)/\∀m Z H,W m Z H->
 c Z H λb H1=>if b=true then ∃N:St->Hp->Prop,(∀Z' H',N Z' H'->∃m',m'<m/\W m' Z' H')/\tb {D with nx:=N,ct:=N,bk:=D.nx} Z H1 else D.nx Z H1
theorem zh5{c:Expr}{body:List Stmt}{tc:TT}{tb:TS}(hp:PassesOwn (model X.prog X.w) X.A X.env X.xe)(hc:PT X c tc)(hb:pF X body tb):PS X (.While c body [] pos) (Ag tc tb):=by
 intro ao s Z H D I h;obtain⟨W,⟨m0,w0⟩,turn⟩:=h;refine wpAny_While (codeAny_whileLoop (λn s'=>∃Z' H',Inv X ao Z' H' s'/\W n Z' H') ?_ m0 ⟨Z,H,I,w0⟩);rintro n s1 ⟨Z1,H1,I1,w1⟩;refine zO hp (aU (hc ao s1 Z1 H1 _ I1 (turn n Z1 H1 w1)) λb s2 hx=>vp hx λH2 I2 q2=>?_);cases b with
 |true=>
  obtain⟨N,hN,q2⟩:=q2;rw[if_pos rfl];refine zO hp (aU (hb ao s2 Z1 H2 _ I2 q2) λf s3 q3=>?_);cases f with
  |next=>
   obtain⟨Z3,H3,I3,n3⟩:=q3;obtain⟨m',hm,w3⟩:=hN Z3 H3 n3;exact⟨m',hm,Z3,H3,I3,w3⟩
  |cont=>
   obtain⟨Z3,H3,I3,n3⟩:=q3;obtain⟨m',hm,w3⟩:=hN Z3 H3 n3;exact⟨m',hm,Z3,H3,I3,w3⟩
  |brk=>exact q3
  |ret v=>exact q3
 |false=>
  rw[if_neg Ft];exact wpAny_execs_nil ⟨Z1,H2,I2,q2⟩
end
structure It where
 go:Nat->Hp->Prop
 tH:Nat->Hp->V->Hp->Prop
 stop:Nat->Hp->Prop
def fB(X:Cx)(ao:List (Addr×Obj))(H:Hp)(b:Addr):Prop:=
 H b=none/\b≠X.env.locals/\b∉X.fs/\(b∈X.ex\/X.s₀.heap.objs.size<=b)/\(∀x c,X.env.cells.lookup x=some c->c≠b)/\∀p∈X.pn++ao,p.1≠b
theorem Inv.tK{X:Cx}{ao:List (Addr×Obj)}{Z:St}{H H':Hp}{s:Shared}{b:Addr}(I:Inv X ao Z H s)(hb:s.heap.objs.size<=b)(hn:H' b=none):fB X ao H' b:=by
 refine⟨hn,vh (iM I.lt hb),I.Ou hb,.inr (j8 I.sz hb),λx c e z=>?_,λp hp z=>?_⟩
 ·obtain⟨v,q⟩:=I.cell x c e;exact absurd (iM q.lt (by rw[z];exact hb)) (pB _)
 ·exact absurd (iM (bZ (I.pin p hp).1) (by rw[z];exact hb)) (pB _)
structure Turn(P:Program)(w:World)(K:W.Frag)(tg:Expr)(bJ:It)(fp:List Addr)(it:Addr)(tn:Nat->Heap->Prop):Prop where
 mem:it∈fp
 obj:∀i h,tn i h->∀b∈fp,∃o,h.get? b=some o/\∀v,o.data≠.cell v
 keep:∀i h h',tn i h->(∀b∈fp,∀o,h.get? b=some o->h'.get? b=some o)->tn i h'
 item:∀(X:Cx),X.prog=P->X.w=w->X.K=K->X.aj=true->∀(i:Nat) (ao:List (Addr×Obj)) (s:Shared) (Z:St) (H:Hp) (E:Value->Shared->Prop),Inv X ao Z H s->(∀b∈fp,fB X ao H b)->tn i s.heap->bJ.go i H->
  wpAny (model P w) X.A (pyNext (.ref it)) (λr s1=>∃u,r=some u /\
   wpAny (model P w) X.A (letOwnedTupleGo tg (.ref it) u) (λ_ s2=>∃x H',Inv X ao Z H' s2/\RelV x u/\bJ.tH i H x H'/\tn (i+1) s2.heap/\∀b∈fp,H' b=none) E s1) E s
 done:∀(X:Cx),X.prog=P->X.w=w->X.K=K->X.aj=true->∀(i:Nat) (ao:List (Addr×Obj)) (s:Shared) (Z:St) (H:Hp) (E:Value->Shared->Prop),Inv X ao Z H s->(∀b∈fp,fB X ao H b)->tn i s.heap->bJ.stop i H->
  wpAny (model P w) X.A (pyNext (.ref it)) (λr s1=>r=none/\Inv X ao Z H s1) E s
 self:∀(A:Around) (i:Nat) (s:Shared) (Q:Value->Shared->Prop) (E:Value->Shared->Prop),tn i s.heap->Q (.ref it) s->wpAny (model P w) A (pyIter (.ref it)) Q E s
noncomputable abbrev TI:=St->Hp->(It->Hp->Prop)->Prop
def PIE(X:Cx)(ao:List (Addr×Obj))(Z:St)(tg:Expr)(R:It->Hp->Prop)(itv:Value)(s2:Shared):Prop:=
 ∃(it:Addr) (fp:List Addr) (tn:Nat->Heap->Prop) (bJ:It) (H':Hp),itv=.ref it/\Inv X ao Z H' s2/\Turn X.prog X.w X.K tg bJ fp it tn/\tn 0 s2.heap/\(∀b∈fp,fB X ao H' b)/\R bJ H'
def PI(X:Cx)(tg iter:Expr)(wi:TI):Prop:=
 ∀(ao:List (Addr×Obj)) (s:Shared) (Z:St) (H:Hp) (R:It->Hp->Prop),Inv X ao Z H s->wi Z H R->
  wpAny (model X.prog X.w) X.A (eval iter X.env) (λv s1=>wpAny (model X.prog X.w) X.A (pyIter v) (PIE X ao Z tg R) X.xe s1) X.xe s
theorem Pj{M:Model}{A:Around}{E:Value->Shared->Prop}{s:Shared}{tg:Expr}{it:Addr}{u:Value}{o:Obj}{n:String}{vs:Array Value}{Q:Unit->Shared->Prop}(ho:s.heap.get? it=some o)(hc:o.cls=.type n)(hd:o.data=.fields vs)
  (hn:["enumerate","zip","dict_itemiterator","dict_reverseitemiterator","odict_iterator","itertools.zip_longest","itertools.pairwise"].contains n=false) (hQ:Q () s):wpAny M A (letOwnedTupleGo tg (.ref it) u) Q E s:=by
 unfold letOwnedTupleGo;cases tg<;>first
  |exact aN hQ
  | (cases u<;>first
    |exact aN hQ
    | (refine aB (wpAny_load ho ?_)
       rw[hc,hd];show wpAny M A (if (["enumerate","zip","dict_itemiterator","dict_reverseitemiterator","odict_iterator","itertools.zip_longest","itertools.pairwise"].contains n&&vs[0]?==some (rawInt _))=true then _ else _) Q E s;rw[if_neg (by intro h;rw[hn,Bool.false_and] at h;cases h)];exact aN hQ))
noncomputable def KQ(K:W.Frag)(a:Addr):It:=
 ⟨λi H=>∃xs x,cT K H a xs/\xs[i]?=some x,λi H x H'=>H'=H/\∀xs,cT K H a xs->xs[i]?=some x,λi H=>∃xs,cT K H a xs/\xs.length<=i⟩
noncomputable def Pk(K:W.Frag)(a:Addr):It:=
 ⟨λi H=>∃xs x,gw K H a xs/\xs[i]?=some x,λi H x H'=>H'=H/\∀xs,gw K H a xs->xs[i]?=some x,λi H=>∃xs,gw K H a xs/\xs.length<=i⟩
noncomputable def GD(lo:Int)(n:Nat):It:=⟨λi _=>i<n,λi H x H'=>H'=H/\x=.int (lo+i),λi _=>n<=i⟩
theorem zgN{P:Program}{w:World}{K:W.Frag}{tg:Expr}(a it:Addr):Turn P w K tg (KQ K a) [it] it (λi h=>h.IsListIter it a i) where
 mem:=by simp
 obj:=λi h st b hb=>by
  have e:b=it:=by simpa using hb
  subst e;obtain⟨o,e,c,d⟩:=st;exact⟨o,e,λv z=>by rw[d] at z;cases z⟩
 keep:=λi h h' st k=>st.at λo e=>k it (by simp) o e
 item:=by
  intro X hP hw hK hc i ao s Z H E I hf st hg;subst hP hw hK;obtain⟨xs,x,hq,hx⟩:=hg;obtain⟨its,rv,p,hz⟩:=I.list hq;obtain⟨u,hu,ru⟩:=rv.get hx;obtain⟨f0,f1,f2,f3,f4,f5⟩:=hf it (by simp);refine wpAny_pyNext_list_item st p.isList (x:=u) (by simpa using hu) λh' st' sb=>?_;have I1:Inv X ao Z H {s with heap:=h'}:=I.turned (t':=s.toks) (λb o hb e=>(sb.2 b hb).trans e) f0 f1 f3 f4 f5;obtain⟨o,e,c,d⟩:=id st';exact⟨u,rfl,Pj (s:={s with heap:=h'}) e c d (by decide) ⟨x,H,I1,ru,⟨rfl,λys hy=>by rw[I.nQ hy hq];exact hx⟩,st',λb hb=>(hf b hb).1⟩⟩
 done:=by
  intro X hP hw hK hc i ao s Z H E I hf st hg;subst hP hw hK;obtain⟨xs,hq,hx⟩:=hg;obtain⟨its,rv,p,hz⟩:=I.list hq;obtain⟨f0,f1,f2,f3,f4,f5⟩:=hf it (by simp);have hl:=rv.length;exact wpAny_pyNext_list_end (I.ok.hd hc) st p.isList (by simp;lia) λh' eb=>⟨rfl,I.turned (t':=s.toks) (λb o hb e=>eb b o hb e) f0 f1 f3 f4 f5⟩
 self:=λ_ _ _ _ _ st h=>wpAny_pyIter_listiter st h
theorem ze8{P:Program}{w:World}{K:W.Frag}{tg:Expr}(a it:Addr):Turn P w K tg (Pk K a) [it] it (λi h=>h.IsTupleIter it a i) where
 mem:=by simp
 obj:=λi h st b hb=>by
  have e:b=it:=by simpa using hb
  subst e;obtain⟨o,e,c,d⟩:=st;exact⟨o,e,λv z=>by rw[d] at z;cases z⟩
 keep:=λi h h' st k=>st.at λo e=>k it (by simp) o e
 item:=by
  intro X hP hw hK hc i ao s Z H E I hf st hg;subst hP hw hK;obtain⟨xs,x,hq,hx⟩:=hg;obtain⟨its,rv,p,hz⟩:=I.tuple hq;obtain⟨u,hu,ru⟩:=rv.get hx;obtain⟨f0,f1,f2,f3,f4,f5⟩:=hf it (by simp);refine wpAny_pyNext_tuple_item st (show s.heap.IsTuple a its.toArray from p) (x:=u) (by simpa using hu) λh' st' sb=>?_;have I1:Inv X ao Z H {s with heap:=h'}:=I.turned (t':=s.toks) (λb o hb e=>(sb.2 b hb).trans e) f0 f1 f3 f4 f5;obtain⟨o,e,c,d⟩:=id st';exact⟨u,rfl,Pj (s:={s with heap:=h'}) e c d (by decide) ⟨x,H,I1,ru,⟨rfl,λys hy=>by rw[I.lF hy hq];exact hx⟩,st',λb hb=>(hf b hb).1⟩⟩
 done:=by
  intro X hP hw hK hc i ao s Z H E I hf st hg;subst hP hw hK;obtain⟨xs,hq,hx⟩:=hg;obtain⟨its,rv,p,hz⟩:=I.tuple hq;obtain⟨f0,f1,f2,f3,f4,f5⟩:=hf it (by simp);have hl:=rv.length;exact wpAny_pyNext_tuple_end (I.ok.hd hc) st (show s.heap.IsTuple a its.toArray from p) (by simp;lia) λh' eb=>⟨rfl,I.turned (t':=s.toks) (λb o hb e=>eb b o hb e) f0 f1 f3 f4 f5⟩
 self:=λ_ _ _ _ _ st h=>wpAny_pyIter_tupleiter st h
theorem zfm{P:Program}{w:World}{K:W.Frag}{tg:Expr}(it:Addr)(lo:Int)(n:Nat):Turn P w K tg (GD lo n) [it] it (λi h=>IsRangeIter h it (lo+(i:Nat)*1) ((n:Int)-(i:Nat)) 1) where
 mem:=by simp
 obj:=λi h st b hb=>by
  have e:b=it:=by simpa using hb
  subst e;exact⟨_,st,λv z=>by
   have z':Data.fields _=Data.cell v:=z;cases z'⟩
 keep:=λi h h' st k=>k it (by simp) _ st
 item:=by
  intro X hP hw hK hc i ao s Z H E I hf st hg;subst hP hw hK;obtain⟨f0,f1,f2,f3,f4,f5⟩:=hf it (by simp);have W:=Walks.range (prog:=X.prog) (w:=X.w) (I.ok.hd hc) it lo 1 n;refine W.item i s _ _ hg st λv h' tk hv st' kk=>?_;obtain⟨t,rfl⟩:=hv;have I1:Inv X ao Z H {s with heap:=h',toks:=tk}:=I.turned (λb o hb e=>kk b o (by simpa using hb) e) f0 f1 f3 f4 f5;refine⟨_,rfl,Pj (s:={s with heap:=h',toks:=tk}) (n:="range_iterator") st' rfl rfl (by decide) ⟨.int (lo+i),H,I1,⟨t,?_⟩,⟨rfl,rfl⟩,st',λb hb=>(hf b hb).1⟩⟩;rw[Int.mul_one]
 done:=by
  intro X hP hw hK hc i ao s Z H E I hf st hg;subst hP hw hK;obtain⟨f0,f1,f2,f3,f4,f5⟩:=hf it (by simp);exact wpAny_pyNext_range_end (I.ok.hd hc) st (by have:n<=i:=hg;lia) λh' eb=>⟨rfl,I.turned (t':=s.toks) (λb o hb e=>eb b o hb e) f0 f1 f3 f4 f5⟩
 self:=λ_ _ _ _ _ st h=>wpAny_pyIter_rangeiter st h
section
variable {X:Cx}{tg:Expr}
theorem Wr{ao:List (Addr×Obj)}{Z:St}{H:Hp}{s:Shared}{R:It->Hp->Prop}{E:Value->Shared->Prop}{lo hi:Int}{t u v:Tok}{tk:Nat}(I:Inv X ao Z H s)(h1 : -(2^62)<=lo)(h2:lo<2^62)(h3 : -(2^62)<=hi)(h4:hi<2^62)
  (q:R (GD lo (hi-lo).toNat) H):wpAny (model X.prog X.w) X.A (pyIter (.ref s.heap.objs.size)) (PIE X ao Z tg R) E {s with heap:=s.heap.push {cls:=.type "range",data:=.fields #[.int lo t,.int hi u,.int 1 v]},toks:=tk}:=by
 refine wpAny_pyIter_range (IsRange.new ..) (small_one h1 h2 h3 h4) ?_;have I1:Inv X ao Z H {s with heap:=s.heap.push {cls:=.type "range",data:=.fields #[.int lo t,.int hi u,.int 1 v]},toks:=tk}:=I.kept λb o e=>cM _ e;refine⟨(s.heap.push {cls:=.type "range",data:=.fields #[.int lo t,.int hi u,.int 1 v]}).objs.size,[(s.heap.push {cls:=.type "range",data:=.fields #[.int lo t,.int hi u,.int 1 v]}).objs.size],_,_,H,rfl,
  I1.kept (t':=tk) λb o e=>cM _ e,zfm _ lo (hi-lo).toNat,?_,λb hb=>?_,q⟩
 ·have e1:lo+((0:Nat):Int)*1=lo:=by simp
  have e2:(((hi-lo).toNat:Nat):Int)-((0:Nat):Int)=Builtin.Range.rangeSize lo hi 1:=by rw[rangeSize_one];split<;>lia
  show IsRangeIter _ _ (lo+((0:Nat):Int)*1) ((((hi-lo).toNat:Nat):Int)-((0:Nat):Int)) 1;rw[e1,e2];exact fL _ rfl
 ·have e:b=(s.heap.push {cls:=.type "range",data:=.fields #[.int lo t,.int hi u,.int 1 v]}).objs.size:=by simpa using hb
  subst e;exact I1.tK (b_ _) (I1.hok.fresh (b_ _))
noncomputable def GF(ta:TA):TI:=λZ H R=>ta Z H λvs H1=>∃j:Int,vs=[.int j]/\-(2^62)<=j/\j<2^62/\R (GD 0 j.toNat) H1
noncomputable def GJ(ta:TA):TI:=λZ H R=>ta Z H λvs H1=>∃i j:Int,vs=[.int i,.int j]/\(-(2^62)<=i/\i<2^62/\-(2^62)<=j/\j<2^62)/\R (GD i (j-i).toNat) H1
theorem zgd{a:Expr}{ta:TA}{p pos:Pos}(hg:Gl X "range")(hm:X.mg "range"=none)(ha:PA X [a] ta)(hs:starEach [a] X.env=[(false,eval a X.env)]:=by rfl):PI X tg (.Call (.Name "range" p) [a] [] pos) (GF ta):=by
 intro ao s Z H R I h;refine Call_ (wA I hg hm boot_range (zx (aU (ha pos ao s Z H _ I h) λus s1 hx=>eU hx λvs H1 I1 r1 q1=>?_) hs rfl));obtain⟨j,e,q1,q2,q⟩:=q1;subst e;cases r1 with
 |cons r rr=>
  cases rr;obtain⟨t,rfl⟩:=r;exact call_range_1 (Wr I1 (by lia) (by lia) q1 q2 (by simpa using q))
theorem zgM{a b:Expr}{ta:TA}{p pos:Pos}(hg:Gl X "range")(hm:X.mg "range"=none)(ha:PA X [a,b] ta)(hs:starEach [a,b] X.env=[(false,eval a X.env),(false,eval b X.env)]:=by rfl)(vB:starEach [b] X.env=[(false,eval b X.env)]:=by rfl) :
  PI X tg (.Call (.Name "range" p) [a,b] [] pos) (GJ ta):=by
 intro ao s Z H R I h;refine Call_ (wA I hg hm boot_range (zx (aU (ha pos ao s Z H _ I h) λus s1 hx=>eU hx λvs H1 I1 r1 q1=>?_) (by rw[hs,vB]) (by rw[vB];rfl)));obtain⟨i,j,e,⟨q1,q2,q3,q4⟩,q⟩:=q1;subst e;cases r1 with
 |cons r rr=>
  cases rr with
  |cons r' rr=>
   cases rr;obtain⟨t,rfl⟩:=r;obtain⟨t',rfl⟩:=r';exact call_range_2 (Wr I1 q1 q2 q3 q4 q)
noncomputable def Pn(wi:TI)(g:TG)(tb:TS):TS:=λD Z H=>wi Z H λbJ H1=>∃W:Nat->Nat->St->Hp->Prop,(∃m,W 0 m Z H1)/\∀i m Z H,W i m Z H->
 (bJ.stop i H/\D.nx Z H)\/(bJ.go i H/\∃N:St->Hp->Prop,(∀Z' H',N Z' H'->∃m',m'<m/\W (i+1) m' Z' H')/\∀x H',bJ.tH i H x H'->g x Z H' λZ2 H2=>tb {D with nx:=N,ct:=N,bk:=D.nx} Z2 H2)
noncomputable def iW(fp:List Addr)(h:Heap):List (Addr×Obj):=fp.filterMap λb=>(h.get? b).map λo=>(b,o)
theorem yt{fp:List Addr}{h:Heap}{b:Addr}{o:Obj}(hb:b∈fp)(e:h.get? b=some o):(b,o)∈iW fp h:=zJ.mpr ⟨b,hb,by rw[e];rfl⟩
theorem zgb{fp:List Addr}{h:Heap}{p:Addr×Obj}(hp:p∈iW fp h):p.1∈fp/\h.get? p.1=some p.2:=by
 obtain⟨b,hb,e⟩:=zJ.mp hp;cases q:h.get? b with
 |none=>rw[q] at e;cases e
 |some o=>
  rw[q] at e;have e':(b,o)=p:=cL e;subst e';exact⟨hb,q⟩
theorem Inv.pinned{ao:List (Addr×Obj)}{Z:St}{H:Hp}{s:Shared}{fp:List Addr}(I:Inv X ao Z H s)(hf:∀b∈fp,fB X ao H b)(ho:∀b∈fp,∃o,s.heap.get? b=some o/\∀v,o.data≠.cell v):Inv X (ao++iW fp s.heap) Z H s:=
 I.mD λp hp=>(oY.mp hp).elim (λz=>I.pin p (m_ _ z)) λz=>by
  obtain⟨hb,e⟩:=zgb z;obtain⟨f0,f1,f2,_⟩:=hf p.1 hb;obtain⟨o,e',d⟩:=ho p.1 hb;rw[e] at e';cases e';exact⟨e,f0,f1,f2,d⟩
theorem Inv.dU{ao pl:List (Addr×Obj)}{Z:St}{H:Hp}{s:Shared}(I:Inv X (ao++pl) Z H s):Inv X ao Z H s:=I.mD λp hp=>I.pin p (m_ _ (List.mem_append_left _ hp))
theorem zkG{iter:Expr}{body:List Stmt}{wi:TI}{g:TG}{tb:TS}{pos:Pos}(hp:PassesOwn (model X.prog X.w) X.A X.env X.xe)(hc:X.aj=true)(hi:PI X tg iter wi)(hg:PG X tg g)(hb:pF X body tb)
  (hs:∀x,foldedSetIterable iter X.env x=pure x:=by intro _;rfl):PS X (.For tg iter body [] pos) (Pn wi g tb):=by
 intro ao s Z H D I h;refine wpAny_For (aU (hi ao s Z H _ I h) λv s1 h1=>aU h1 λitv s2 h2=>?_) hs;obtain⟨it,fp,tn,bJ,H2,e,I2,T,st2,f2,W,⟨m0,w0⟩,turn⟩:=h2;subst e;have stat:∀{H':Hp},(∀b∈fp,H' b=none)->∀b∈fp,fB X ao H' b:=λhn b hb=>⟨hn b hb,(f2 b hb).2⟩;refine codeAny_forLoop_any (λn s'=>∃i Z' H',Inv X ao Z' H' s'/\tn i s'.heap/\(∀b∈fp,H' b=none)/\W i n Z' H') ?_ m0 ⟨0,Z,H2,I2,st2,λb hb=>(f2 b hb).1,w0⟩;rintro n s3 ⟨i,Z3,H3,I3,st3,Ws,w3⟩;rcases turn i n Z3 H3 w3 with ⟨stop,qn⟩|⟨go,N,hN,step⟩
 ·refine zO hp (aU (T.done X rfl rfl rfl hc i ao s3 Z3 H3 X.xe I3 (stat Ws) st3 stop) λr s4 ⟨hr,I4⟩=>?_);subst hr;exact wpAny_execs_nil ⟨Z3,H3,I4,qn⟩
 ·refine zO hp (aU (T.item X rfl rfl rfl hc i ao s3 Z3 H3 X.xe I3 (stat Ws) st3 go) λr s4 hx=>vp hx λu hr h4=>?_);subst hr;refine zO hp (aU h4 λ_ s5 ⟨x,H5,I5,r5,y5,sy,vC⟩=>?_);have I5':=I5.pinned (stat vC) (T.obj _ _ sy);refine zO hp (aU (hg _ s5 Z3 H5 x u _ I5' r5 (step x H5 y5)) λ_ s6 ⟨Z6,H6,I6,q6⟩=>?_);refine zO hp (aU (hb _ s6 Z6 H6 _ I6 q6) λf s7 q7=>?_);have again:∀{Z7:St} {H7:Hp},Inv X (ao++iW fp s5.heap) Z7 H7 s7->N Z7 H7->∃m,m<n/\∃i Z' H',Inv X ao Z' H' s7/\tn i s7.heap/\(∀b∈fp,H' b=none)/\W i m Z' H':=λ{Z7 H7} I7 n7=>by
   obtain⟨m',hm,w7⟩:=hN Z7 H7 n7;refine⟨m',hm,i+1,Z7,H7,I7.dU,T.keep _ _ _ sy λb hb o e=>(I7.pin (b,o) (m_ _ (m_ _ (yt hb e)))).1,λb hb=>?_,w7⟩;obtain⟨o,e,d⟩:=T.obj _ _ sy b hb;exact(I7.pin (b,o) (m_ _ (m_ _ (yt hb e)))).2.1
  cases f with
  |next=>obtain⟨Z7,H7,I7,n7⟩:=q7;exact again I7 n7
  |cont=>obtain⟨Z7,H7,I7,n7⟩:=q7;exact again I7 n7
  |brk=>obtain⟨Z7,H7,I7,q7⟩:=q7;exact⟨Z7,H7,I7.dU,q7⟩
  |ret v=>obtain⟨x7,Z7,H7,I7,r7,q7⟩:=q7;exact⟨x7,Z7,H7,I7.dU,r7,q7⟩
end
noncomputable abbrev R2:=V->V->Hp->VK->Prop
def fC(X:Cx)(f:Value->Value->Sem Value)(r:R2):Prop:=
 ∀(ao:List (Addr×Obj)) (s:Shared) (Z:St) (H:Hp) (x y:V) (v u:Value) (Q:VK),Inv X ao Z H s->RelV x v->RelV y u->r x y H Q->
  wpAny (model X.prog X.w) X.A (f v u) (EP X ao Z Q) X.xe s
def KR(X:Cx)(f:Value->Sem Value)(r:V->Hp->VK->Prop):Prop:=
 ∀(ao:List (Addr×Obj)) (s:Shared) (Z:St) (H:Hp) (x:V) (v:Value) (Q:VK),Inv X ao Z H s->RelV x v->r x H Q->
  wpAny (model X.prog X.w) X.A (f v) (EP X ao Z Q) X.xe s
def cO(X:Cx)(f:Value)(r:List V->Hp->VK->Prop):Prop:=
 ∀(ao:List (Addr×Obj)) (s:Shared) (Z:St) (H:Hp) (xs:List V) (us:List Value) (Q:VK),Inv X ao Z H s->Vals xs us->r xs H Q->
  wpAny (model X.prog X.w) X.A (call f us) (EP X ao Z Q) X.xe s
def Pq(X:Cx)(r:V->Hp->(Bool->Hp->Prop)->Prop):Prop:=
 ∀(ao:List (Addr×Obj)) (s:Shared) (Z:St) (H:Hp) (x:V) (v:Value) (Q:Bool->Hp->Prop),Inv X ao Z H s->RelV x v->r x H Q->
  wpAny (model X.prog X.w) X.A (truthy v) (TP X ao Z Q) X.xe s
noncomputable def KY(r:R2)(ta tb:TE):TE:=λZ H Q=>ta Z H λx H1=>tb Z H1 λy H2=>r x y H2 Q
noncomputable def tUn(r:V->Hp->VK->Prop)(ta:TE):TE:=λZ H Q=>ta Z H λx H1=>r x H1 Q
noncomputable def rI(C:Int->Int->Prop)(g:Int->Int->V):R2:=λx y H Q=>∃i j,x=.int i/\y=.int j/\C i j/\Q (g i j) H
noncomputable def pG(g:Int->Int->V):R2:=λx y H Q=>∃i j,x=.int i/\y=.int j/\Q (g i j) H
noncomputable def rU(g:Int->V):V->Hp->VK->Prop:=λx H Q=>∃i,x=.int i/\Q (g i) H
section
variable {X:Cx}{a b c:Expr}{ta tb tc:TE}{pos:Pos}
theorem Ah(ha:PE X a ta)(hb:PE X b tb){ao:List (Addr×Obj)}{s:Shared}{Z:St}{H:Hp}{R:V->V->Hp->Prop}(I:Inv X ao Z H s)
  (h:ta Z H λx H1=>tb Z H1 λy H2=>R x y H2) {Q:Value->Shared->Prop} {f:Value->Value->Sem Value}
  (hf:∀v u s2 x y H2,Inv X ao Z H2 s2->RelV x v->RelV y u->R x y H2->wpAny (model X.prog X.w) X.A (f v u) Q X.xe s2) :
  wpAny (model X.prog X.w) X.A (eval a X.env) (λv s₁=>wpAny (model X.prog X.w) X.A (eval b X.env) (λu s₂=>wpAny (model X.prog X.w) X.A (f v u) Q X.xe s₂) X.xe s₁) X.xe s:=by
 refine aU (ha ao s Z H _ I h) λv s1 hx=>eU hx λx H1 I1 r1 q1=>?_;refine aU (hb ao s1 Z H1 _ I1 q1) λu s2 hx=>eU hx λy H2 I2 r2 q2=>?_;exact hf v u s2 x y H2 I2 r1 r2 q2
theorem znT{op:Operator}{r:R2}(ho:fC X (binaryOp op) r)(ha:PE X a ta)(hb:PE X b tb):PE X (.BinOp a op b pos) (KY r ta tb):=by
 intro ao s Z H Q I h;exact wpAny_BinOp (Ah ha hb I h λv u s2 x y H2 I2 rx ry q=>ho ao s2 Z H2 x y v u Q I2 rx ry q)
theorem Wt{op:UnaryOp}{r:V->Hp->VK->Prop}(ho:KR X (unaryOp op) r)(ha:PE X a ta):PE X (.UnaryOp op a pos) (tUn r ta):=by
 intro ao s Z H Q I h;exact UnaryOp_ (aU (ha ao s Z H _ I h) λv s1 hx=>eU hx λx H1 I1 r1 q1=>ho ao s1 Z H1 x v Q I1 r1 q1)
theorem KZ{f:Value->Value->Sem Value}{C:Int->Int->Prop}{g:Int->Int->Int}
  (rule:∀(i j:Int) (t u:Tok) (s:Shared) (Q:Value->Shared->Prop) (E:Value->Shared->Prop),C i j->Q (.int (g i j) s.toks) {s with toks:=s.toks+1}->wpAny (model X.prog X.w) X.A (f (.int i t) (.int j u)) Q E s) :
  fC X f (rI C λi j=>.int (g i j)):=by
 intro ao s Z H x y v u Q I rx ry h;obtain⟨i,j,rfl,rfl,hc,q⟩:=h;obtain⟨t,rfl⟩:=rx;obtain⟨t',rfl⟩:=ry;exact rule i j t t' s _ _ hc ⟨.int (g i j),H,I.tok _,⟨_,rfl⟩,q⟩
theorem GK{f:Value->Value->Sem Value}{g:Int->Int->Int}
  (rule:∀(i j:Int) (t u:Tok) (s:Shared) (Q:Value->Shared->Prop) (E:Value->Shared->Prop),Q (.int (g i j) s.toks) {s with toks:=s.toks+1}->wpAny (model X.prog X.w) X.A (f (.int i t) (.int j u)) Q E s) :
  fC X f (pG λi j=>.int (g i j)):=by
 intro ao s Z H x y v u Q I rx ry h;obtain⟨i,j,rfl,rfl,q⟩:=h;obtain⟨t,rfl⟩:=rx;obtain⟨t',rfl⟩:=ry;exact rule i j t t' s _ _ ⟨.int (g i j),H,I.tok _,⟨_,rfl⟩,q⟩
theorem wC{f:Value->Value->Sem Value}{g:Int->Int->Bool}
  (rule:∀(i j:Int) (t u:Tok) (s:Shared) (Q:Value->Shared->Prop) (E:Value->Shared->Prop),Q (.bool (g i j)) s->wpAny (model X.prog X.w) X.A (f (.int i t) (.int j u)) Q E s) :
  fC X f (pG λi j=>.bl (g i j)):=by
 intro ao s Z H x y v u Q I rx ry h;obtain⟨i,j,rfl,rfl,q⟩:=h;obtain⟨t,rfl⟩:=rx;obtain⟨t',rfl⟩:=ry;exact rule i j t t' s _ _ ⟨.bl (g i j),H,I,rfl,q⟩
def wD(i j:Int):Prop:=0<j/\j<1073741824
def GP(i j:Int):Prop:=0<=j/\j<=1000000/\i.natAbs<2^64
def wF(i j:Int):Prop:=(-(2^64)<i/\i<2^64)\/(-(2^64)<j/\j<2^64)
theorem wF.ok{i j:Int}(h:wF i j):IntMulOk i j:=by
 rcases h with ⟨h1,h2⟩|⟨h1,h2⟩
 ·exact .of_left (intBits_le_64 h1 h2)
 ·exact .of_right (intBits_le_64 h1 h2)
theorem Ai:fC X (binaryOp .Add) (pG λi j=>.int (i+j)):=GK λ_ _ _ _ _ _ _ q=>add_int q
theorem zlw:fC X (binaryOp .Sub) (pG λi j=>.int (i-j)):=GK λ_ _ _ _ _ _ _ q=>sub_int q
theorem zk8:fC X (binaryOp .Mult) (rI wF λi j=>.int (i*j)):=KZ λ_ _ _ _ _ _ _ hc q=>mul_int q hc.ok
theorem ziW:fC X (binaryOp .FloorDiv) (rI wD λi j=>.int (i/j)):=KZ λi j _ _ _ _ _ hc q=>by
 have h1:(0:Int)<j:=hc.1;have h2:j<1073741824:=hc.2;exact floordiv_int (by lia) (by rw[Int.fdiv_eq_ediv_of_nonneg i (by lia)];exact q) (.inl (PyProof.noPylong_small (by lia)))
theorem zl9:fC X (binaryOp .Mod) (rI (λ_ j=>0<j) λi j=>.int (i%j)):=KZ λi j _ _ _ _ _ hc q=>by
 have h1:(0:Int)<j:=hc;exact mod_int' (by lia) (by rw[Int.fmod_eq_emod_of_nonneg i (by lia)];exact q)
theorem zmc:fC X (binaryOp .Pow) (rI GP λi j=>.int (i^j.toNat)):=KZ λ_ _ _ _ _ _ _ hc q=>pow_int_small hc.1 hc.2.1 hc.2.2 q
theorem unI{f:Value->Sem Value}{g:Int->Int}
  (rule:∀(i:Int) (t:Tok) (s:Shared) (Q:Value->Shared->Prop) (E:Value->Shared->Prop),Q (.int (g i) s.toks) {s with toks:=s.toks+1}->wpAny (model X.prog X.w) X.A (f (.int i t)) Q E s) :
  KR X f (rU λi=>.int (g i)):=by
 intro ao s Z H x v Q I rx h;obtain⟨i,rfl,q⟩:=h;obtain⟨t,rfl⟩:=rx;exact rule i t s _ _ ⟨.int (g i),H,I.tok _,⟨_,rfl⟩,q⟩
theorem Wu:KR X (unaryOp .USub) (rU λi=>.int (-i)):=unI λ_ _ _ _ _ q=>neg_int q
end
section
variable {X:Cx}{a b c:Expr}{ta tb tc:TE}{pos:Pos}
theorem GQ:fC X (compareOp .Lt) (pG λi j=>.bl (decide (i<j))):=wC λ_ _ _ _ _ _ _ q=>lt_int q
theorem zmY:fC X (compareOp .LtE) (pG λi j=>.bl (decide (i<=j))):=wC λ_ _ _ _ _ _ _ q=>le_int q
theorem znU:fC X (compareOp .Gt) (pG λi j=>.bl (decide (j<i))):=wC λ_ _ _ _ _ _ _ q=>gt_int q
theorem znc:fC X (compareOp .GtE) (pG λi j=>.bl (decide (j<=i))):=wC λ_ _ _ _ _ _ _ q=>ge_int q
theorem fC.or{f:Value->Value->Sem Value}{r r':R2}(h:fC X f r)(h':fC X f r'):fC X f (λx y H Q=>r x y H Q\/r' x y H Q):=by
 intro ao s Z H x y v u Q I rx ry q;rcases q with q|q
 ·exact h ao s Z H x y v u Q I rx ry q
 ·exact h' ao s Z H x y v u Q I rx ry q
theorem zjv{op:CmpOp}{r:R2}(ho:fC X (compareOp op) r)(ha:PE X a ta)(hb:PE X b tb)(hm:behindInMarks op b=false):PE X (.Compare a [op] [b] pos) (KY r ta tb):=by
 intro ao s Z H Q I h;exact wpAny_Compare1 (Ah ha hb I h λv u s2 x y H2 I2 rx ry q=>ho ao s2 Z H2 x y v u Q I2 rx ry q) hm
noncomputable def GR(t:TE):TT:=λZ H Q=>t Z H λx H'=>∃k,x=.bl k/\Q k H'
theorem zjg{op:CmpOp}{r:R2}(ho:fC X (compareOp op) r)(ha:PE X a ta)(hb:PE X b tb)(hm:behindInMarks op b=false):PT X (.Compare a [op] [b] pos) (GR (KY r ta tb)):=by
 intro ao s Z H Q I h;refine wpAny_isTrue_Compare1 (aU (ha ao s Z H _ I h) λv s1 hx=>eU hx λx H1 I1 r1 q1=>aU (hb ao s1 Z H1 _ I1 q1) λu s2 hx=>eU hx λy H2 I2 r2 q2=>
  aU (ho ao s2 Z H2 x y v u _ I2 r1 r2 q2) λc s3 hx=>Om hx λz H3 I3 r3 k e q3=>?_) hm
 subst e;cases r3;exact u9 ⟨H3,I3,q3⟩
noncomputable def Aj(r r':R2)(ta tb tc:TE):TE:=λZ H Q=>ta Z H λx H1=>tb Z H1 λy H2=>r x y H2 λz H3=>∃k,z=.bl k /\
 (if k=true then tc Z H3 λw' H4=>r' y w' H4 Q else Q (.bl false) H3)
theorem zhx{op op':CmpOp}{r r':R2}(ho:fC X (compareOp op) r)(tu:fC X (compareOp op') r')(ha:PE X a ta)(hb:PE X b tb)(hc:PE X c tc)
  (hm:lastMarks [op,op'] [b,c]=false:=by with_unfolding_all rfl):PE X (.Compare a [op,op'] [b,c] pos) (Aj r r' ta tb tc):=by
 intro ao s Z H Q I h;refine Compare_chain (aU (ha ao s Z H _ I h) λv s1 hx=>eU hx λx H1 I1 r1 q1=>chain_link (aU (hb ao s1 Z H1 _ I1 q1) λu s2 hx=>eU hx λy H2 I2 r2 q2=>
  aU (ho ao s2 Z H2 x y v u _ I2 r1 r2 q2) λd s3 hx=>Om hx λz H3 I3 r3 k e q3=>?_)) hm
 subst e;cases r3;refine u9 ?_;cases k with
 |false=>exact ite_ff ⟨.bl false,H3,I3,rfl,q3⟩
 |true=>exact ite_tt (chain_last (aU (hc ao s3 Z H3 _ I3 q3) λw' s4 hx=>eU hx λz' H4 I4 r4 q4=>tu ao s4 Z H4 y z' u w' Q I4 r2 r4 q4))
def Ak(K:W.Frag)(x:V)(H:Hp)(k:Bool):Prop:=
 match x with
 |.non=>k=false
 |.bl b=>k=b
 |.int i=>k=(i != 0)
 |.str y=>y.length<=sizeLine/\k=((y.length:Int) != 0)
 |.zY y=>y.size<=sizeLine/\k=((y.size:Int) != 0)
 |.ref p=>(∃xs,cT K H p xs/\k = !xs.isEmpty)\/(∃xs,gw K H p xs/\k = !xs.isEmpty)\/∃kvs,H p=some (.dK kvs)/\k = !kvs.isEmpty
 |_=>False
theorem zfs{κ:Type}{kvs:List (κ×V)}{vs:List (κ×Value)}(r:KV kvs vs):(!vs.isEmpty) = !kvs.isEmpty:=by
 cases r<;>rfl
theorem Wv{xs:List V}{its:List Value}(r:Vals xs its):(!its.toArray.isEmpty) = !xs.isEmpty:=by
 cases r<;>simp
theorem iY:(sizeLine:Nat)<2^63:=by rw[vm];decide
theorem zlP:Pq X (λx H Q=>∃k,Ak X.K x H k/\Q k H):=by
 intro ao s Z H x v Q I rx h;obtain⟨k,e,q⟩:=h;have hl:=iY;have hs:sizeLine=16777216:=vm;cases x with
 |non=>
  cases rx;have e':k=false:=e;subst e';exact truthy_none ⟨H,I,q⟩
 |bl b=>
  cases rx;have e':k=b:=e;subst e';exact u9 ⟨H,I,q⟩
 |int i=>
  obtain⟨t,rfl⟩:=rx;have e':k=(i != 0):=e;subst e';exact PySem.P.truthy_int ⟨H,I,q⟩
 |str y=>
  obtain⟨t,rfl⟩:=rx;obtain⟨hy,e'⟩ : y.length<=sizeLine/\k=((y.length:Int) != 0):=e;subst e';exact PySem.P.truthy_str (by lia) ⟨H,I.tok _,q⟩
 |zY y=>
  obtain⟨t,rfl⟩:=rx;obtain⟨hy,e'⟩ : y.size<=sizeLine/\k=((y.size:Int) != 0):=e;subst e';exact PySem.W.truthy_bytes (by lia) ⟨H,I.tok _,q⟩
 |ref p=>
  cases rx;have e':(∃xs,cT X.K H p xs/\k = !xs.isEmpty)\/(∃xs,gw X.K H p xs/\k = !xs.isEmpty)\/∃kvs,H p=some (.dK kvs)/\k = !kvs.isEmpty:=e;rcases e' with ⟨xs,hx,e'⟩|⟨xs,hx,e'⟩|⟨kvs,hx,e'⟩
  ·subst e';obtain⟨its,r,pl,hz⟩:=I.list hx;have hlen:=r.length;exact wpAny_truthy_list pl.isList (by simp only[fZ];lia) ⟨H,I.tok _,by rw[Wv r];exact q⟩
  ·subst e';obtain⟨its,r,pl,hz⟩:=I.tuple hx;have hlen:=r.length;exact truthy_tuple pl (by simp only[fZ];lia) ⟨H,I.tok _,by rw[Wv r];exact q⟩
  ·subst e';obtain⟨hz,hS,vs,r,m⟩ : kvs.length<=sizeLine/\(p==sysModules)=false/\∃vs,KV kvs vs/\s.heap.DictOf (lZ X.prog X.w) p vs:=I.hok p _ hx;have hlen:kvs.length=vs.length:=Paired.length r;exact wpAny_truthy_dict hS m (by lia) ⟨H,I.tok _,by rw[zfs r];exact q⟩
 |_=>exact(show False from e).elim
theorem ze9:fC X (binaryOp .Add) (λx y H Q=>∃i j,x=.str i/\y=.str j/\i.length+j.length<=sizeLine/\Q (.str (i++j)) H):=by
 intro ao s Z H x y v u Q I rx ry h;obtain⟨i,j,rfl,rfl,hz,q⟩:=h;obtain⟨t,rfl⟩:=rx;obtain⟨t',rfl⟩:=ry;exact add_str (λt' tk=>⟨.str (i++j),H,I.tok _,⟨_,rfl⟩,q⟩) hz
theorem vals1{x:V}{us:List Value}(r:Vals [x] us):∃u,us=[u]/\RelV x u:=by
 cases r with
 |cons r1 r2=>cases r2;exact⟨_,rfl,r1⟩
theorem vals2{x y:V}{us:List Value}(r:Vals [x,y] us):∃u w',us=[u,w']/\RelV x u/\RelV y w':=by
 cases r with
 |cons r1 r2=>
  cases r2 with
  |cons r3 r4=>cases r4;exact⟨_,_,rfl,r1,r3⟩
theorem zhG:cO X (.builtin "abs") (λxs H Q=>∃i,xs=[.int i]/\Q (.int (if i<0 then -i else i)) H):=by
 intro ao s Z H xs us Q I r h;obtain⟨i,rfl,q⟩:=h;obtain⟨u,rfl,t,rfl⟩:=vals1 r;exact call_abs_int λu tk=>⟨.int (if i<0 then -i else i),H,I.tok _,⟨_,rfl⟩,q⟩
theorem zfC(hc:X.aj=true):cO X (.builtin "max") (λxs H Q=>∃i j,xs=[.int i,.int j]/\Q (.int (if j>i then j else i)) H):=by
 intro ao s Z H xs us Q I r h;obtain⟨i,j,rfl,q⟩:=h;obtain⟨u,w',rfl,⟨t,rfl⟩,⟨t',rfl⟩⟩:=vals2 r;refine max_two_ints (I.ok.hd hc) λh' tk k=>⟨_,H,I.kept k,?_,q⟩;by_cases hj:j>i
 ·rw[if_pos hj,if_pos hj];exact⟨_,rfl⟩
 ·rw[if_neg hj,if_neg hj];exact⟨_,rfl⟩
theorem zf8(hc:X.aj=true):cO X (.builtin "min") (λxs H Q=>∃i j,xs=[.int i,.int j]/\Q (.int (if j<i then j else i)) H):=by
 intro ao s Z H xs us Q I r h;obtain⟨i,j,rfl,q⟩:=h;obtain⟨u,w',rfl,⟨t,rfl⟩,⟨t',rfl⟩⟩:=vals2 r;refine min_two_ints (I.ok.hd hc) λh' tk k=>⟨_,H,I.kept k,?_,q⟩;by_cases hj:j<i
 ·rw[if_pos hj,if_pos hj];exact⟨_,rfl⟩
 ·rw[if_neg hj,if_neg hj];exact⟨_,rfl⟩
theorem zfx:cO X (.type "int") (λxs H Q=>(∃i,xs=[.int i]/\Q (.int i) H)\/∃k,xs=[.bl k]/\Q (.int (if k then 1 else 0)) H):=by
 intro ao s Z H xs us Q I r h;rcases h with ⟨i,rfl,q⟩|⟨k,rfl,q⟩
 ·obtain⟨u,rfl,t,rfl⟩:=vals1 r;exact call_int_int ⟨.int i,H,I,⟨_,rfl⟩,q⟩
 ·obtain⟨u,rfl,r1⟩:=vals1 r;cases r1;exact call_int_bool ⟨.int (if k then 1 else 0),H,I.tok _,⟨_,rfl⟩,q⟩
theorem zd1:cO X (.builtin "divmod") (λxs H Q=>∃i j,xs=[.int i,.int j]/\wD i j/\∀p,H p=none->Q (.ref p) (upd H p (.tup [.int (i/j),.int (i%j)]))):=by
 intro ao s Z H xs us Q I r h;obtain⟨i,j,rfl,⟨h1,h2⟩,q⟩:=h;obtain⟨u,w',rfl,⟨t,rfl⟩,⟨t',rfl⟩⟩:=vals2 r;refine divmod_int (by lia) ?_ (.inl (PyProof.noPylong_small (by lia)));rw[Int.fdiv_eq_ediv_of_nonneg i (by lia),Int.fmod_eq_emod_of_nonneg i (by lia)];have hn:H s.heap.objs.size=none:=I.hok.fresh (b_ _);refine⟨.ref s.heap.objs.size,_,?_,rfl,q _ hn⟩;refine I.laid (λb o e=>cM _ e) (b_ _) ⟨by simp only[f9,CV];rw[vm];decide,[.int (i/j) s.toks,.int (i%j) (s.toks+1)],.cons ⟨_,rfl⟩ (.cons ⟨_,rfl⟩ .nil),?_⟩;exact⟨_,fL s.heap rfl,rfl,0,rfl⟩
end
structure pH(h:Heap)(x dx C:Addr)(mA:Str->Option Value):Prop where
 obj:h.get? x=some (PySem.W.instObj C dx)
 ns:h.Ns1 dx mA
 ne:dx≠x
theorem zgX{h:Heap}{dx:Addr}{mA:Str->Option Value}(n:h.Ns1 dx mA):∃od,h.get? dx=some od/\∀name,PySem.W.lookIn name od=some (mA name):=by
 obtain⟨o,es,ep,ho,hd,hk,_,hm⟩:=n;refine⟨o,ho,λname=>?_⟩;have e:=hm name;unfold nsFind findBy at e;rw[<-Array.find?_toList] at e;unfold PySem.W.lookIn;rw[hd];dsimp only
 split
 ·rename_i y q;rw[q] at e;exact lW some e
 ·rename_i q;rw[q] at e;have a:es.toList.any (·.refKey)=false:=by
   rw[List.any_eq_false];intro y hy;obtain⟨z,t,Pu⟩:=hk y (Array.mem_toList_iff.mp hy);simp[DictEntry.refKey,Pu]
  have a':¬es.toList.any (·.refKey)=true:=by rw[a];exact Ft
  rw[if_neg a'];exact lW some e
theorem pH.look{h:Heap}{x dx C:Addr}{mA:Str->Option Value}(I:pH h x dx C mA):∃od,PySem.W.InstAt h x (PySem.W.instObj C dx) C (some od)/\∀name,PySem.W.lookIn name od=some (mA name):=
 let ⟨od,ho,hl⟩:=zgX I.ns
 ⟨od,⟨I.obj,rfl,rfl,ho⟩,hl⟩
section
variable {prog:Program}{w:World}{A:Around}{E:Value->Shared->Prop}{s:Shared}{K:W.Frag}{x dx C f:Addr}{mA:Str->Option Value}{name:Str}{v:Value}
theorem zjy{expr:Bool}{Q:Value->Shared->Prop}(X:K.In s.heap)(I:pH s.heap x dx C mA)(hg:PySem.W.plainGet K C name=true)(hh:PySem.W.hasDictIn K C=true)
  (ha:PySem.W.findIn K (.ref C) name=some none) (hv:mA name=some v) (Px:PySem.W.handedIn v=true) (h:Q v {s with toks:=s.toks+1}) :
  wpAny (model prog w) A (getAttr (.ref x) name expr) Q E s:=by
 obtain⟨od,bJ,hl⟩:=I.look;exact PySem.W.get_value X bJ (Od hg).1 (PySem.W.findObj_own hh ha rfl (by rw[hl,hv])) Px h
theorem zhs{pl:Sem Bool}{Q:Value×List Value->Shared->Prop}(X:K.In s.heap)(I:pH s.heap x dx C mA)(hg:PySem.W.plainGet K C name=true)
  (hf:PySem.W.findIn K (.ref C) name=some (some (.ref f))) (ht:PySem.W.isFn K (.ref f)=true) (hv:mA name=none) (h:Q (.ref f,[.ref x]) s) :
  wpAny (model prog w) A (getMethod (.ref x) name pl) Q E s:=by
 obtain⟨od,bJ,hl⟩:=I.look;exact PySem.W.method_fn X bJ (Od hg).1 (Od hg).2 hf (pD.mp ht) (by show (PySem.W.lookIn name od).map (·.isSome)=some false;rw[hl,hv];rfl) h
theorem zjU{ns:List Str}{Q:Unit->Shared->Prop}(X:K.In s.heap)(I:pH s.heap x dx C mA)
  (hs:PySem.W.findIn K (.ref C) "__setattr__"=some (some (.builtin "object.__setattr__"))) (hp:PySem.W.plainOver K C=true) (ht:PySem.W.takerIn K C name=some none) (hh:PySem.W.hasDictIn K C=true)
  (hw:PySem.Within mA ns) (hsz:ns.length<=sizeLine)
  (h:∀h',pH h' x dx C (λy=>if y=name then some v else mA y)->Heap.SameBut dx s.heap h'->Q () {s with heap:=h',toks:=s.toks+2}) :
  wpAny (model prog w) A (setAttr (.ref x) name v) Q E s:=by
 obtain⟨od,bJ,hl⟩:=I.look;refine PySem.W.set_plain X bJ hs (PySem.W.osa_open (s:={s with toks:=s.toks+1}) (r:=none) X bJ hp ht λb=>?_);obtain⟨cd,hc,Gq⟩:=PySem.W.any_some hh;have hx:s.heap.get? x=some ⟨.ref C,some dx,.plain,#[]⟩:=I.obj;refine aB (aN (aB (aB (wpAny_loadPart hx (aB (PySem.W.Looks.here (s:={s with toks:=s.toks+1}) (PySem.W.looks_clsIn X hc) ?_))))));rw[Gq];refine aN (a:=some dx) (aB (aN (aB ?_)));refine wpAny_nsSet1 (s:={s with toks:=s.toks+1}) I.ns λh' Ww vB=>?_;obtain⟨oD,esD,epD,hoD,hdD,hcD⟩:=Ww.count (PySem.Within.cons name v hw);refine aB (wpAny_lookBehind hoD (by rw[hdD];exact pastItsLine_dict (j8 hcD (by rw[f9];lia))) ?_);exact aN (h _ ⟨(vB.2 _ (Ne.symm I.ne)).trans I.obj,Ww,I.ne⟩ vB)
theorem zh8{R:Result->Shared->Prop}{vs:List Value}{kw:List (Str×Value)}(X:K.In s.heap)(hm:PySem.W.makesIn K C=true)
  (hi:PySem.W.findIn K (.ref C) "__init__"=some (some (.ref f))) (hf:PySem.W.typeIn K (.ref f)=some (.type "function"))
  (h:codeAny (model prog w) (A.under (.builtin "type.__call__" ⟨.ref C::vs,kw⟩)) (.call (.ref f) ⟨.ref (s.heap.objs.size+1)::vs,kw⟩) (PySem.W.InitBack (s.heap.objs.size+1) R)
   {s with heap:=(s.heap.push PySem.W.emptyDict).push (PySem.W.instObj C s.heap.objs.size)}) :
  codeAny (model prog w) A (.call (.ref C) ⟨vs,kw⟩) R s:=by
 obtain⟨hh,g,d,t,os⟩:=s;exact PySem.W.make_core (PySem.W.makes_of X hm) (PySem.W.looks_findIn X hi) (λself=>PySem.W.bind_fn X self hf) (.inl rfl) h
end
noncomputable def fD(f:Str)(v:V):List (Str×V)->List (Str×V)
 |[]=>[(f,v)]
 |(g,x)::r=>if g=f then (g,v)::r else (g,x)::fD f v r
theorem Wx(f g:Str)(v:V):∀fs:List (Str×V),(fD f v fs).lookup g=if g=f then some v else fs.lookup g
 |[]=>by
  show List.lookup g [(f,v)]=_;by_cases h:g=f
  ·have hb:(g==f)=true:=pD.mpr h;simp only[List.lookup,hb,if_pos h]
  ·have hb:(g==f)=false:=zE.mpr h;simp only[List.lookup,hb,if_neg h]
 |(k,x)::r=>by
  have ih:=Wx f g v r;rw[show fD f v ((k,x)::r)=(if k=f then (k,v)::r else (k,x)::fD f v r) from rfl];by_cases hk:k=f
  ·rw[if_pos hk];by_cases h:g=k
   ·have hb:(g==k)=true:=pD.mpr h;simp only[List.lookup,hb,if_pos (h.trans hk)]
   ·have hb:(g==k)=false:=zE.mpr h;simp only[List.lookup,hb,if_neg (λe:g=f=>h (e.trans hk.symm))]
  ·rw[if_neg hk];by_cases h:g=k
   ·have hb:(g==k)=true:=pD.mpr h;simp only[List.lookup,hb,if_neg (λe:g=f=>hk (h.symm.trans e))]
   ·have hb:(g==k)=false:=zE.mpr h;simp only[List.lookup,hb];exact ih
theorem Py(f:Str)(v:V):∀fs:List (Str×V),f∈(fD f v fs).map (·.1)/\∀g,g∈fs.map (·.1)->g∈(fD f v fs).map (·.1)
 |[]=>⟨by simp[fD],λg h=>by simp at h⟩
 |(k,x)::r=>by
  obtain⟨i1,i2⟩:=Py f v r;rw[show fD f v ((k,x)::r)=(if k=f then (k,v)::r else (k,x)::fD f v r) from rfl];by_cases hk:k=f
  ·rw[if_pos hk];subst hk;exact⟨by simp,λg h=>by simpa using h⟩
  ·rw[if_neg hk];refine⟨?_,λg h=>?_⟩
   ·rw[gG];exact h_ _ i1
   ·rw[gG] at h ⊢;rcases iU.mp h with e|e
    ·exact iU.mpr (.inl e)
    ·exact h_ _ (i2 g e)
theorem Wy(f:Str)(v:V):∀fs:List (Str×V),(fD f v fs).length<=fs.length+1
 |[]=>by simp[fD]
 |(k,x)::r=>by
  have ih:=Wy f v r;rw[show fD f v ((k,x)::r)=(if k=f then (k,v)::r else (k,x)::fD f v r) from rfl];by_cases hk:k=f
  ·rw[if_pos hk,f9,f9];lia
  ·rw[if_neg hk,f9,f9];lia
theorem Kaf{v:V}{o:Option Value}(r:rB (some v) o):∃u,o=some u/\RelV v u:=by
 cases o with
 |none=>exact(show False from r).elim
 |some u=>exact⟨u,rfl,r⟩
theorem Kae{o:Option Value}(r:rB none o):o=none:=by
 cases o with
 |none=>rfl
 |some u=>exact(show False from r).elim
theorem zgu{v:V}{u:Value}(r:RelV v u):PySem.W.handedIn u=true:=by
 cases v with
 |non=>cases (show u=Value.none from r);rfl
 |bl b=>cases (show u=Value.bool b from r);rfl
 |int i=>obtain⟨t,e⟩:=(show ∃t,u=Value.int i t from r);cases e;rfl
 |str x=>obtain⟨t,e⟩:=(show ∃t,u=Value.str x t from r);cases e;rfl
 |zY b=>obtain⟨t,e⟩:=(show ∃t,u=Value.bytes b t from r);cases e;rfl
 |flt b=>obtain⟨t,e⟩:=(show ∃t,u=Value.float b t from r);cases e;rfl
 |ref a=>cases (show u=Value.ref a from r);rfl
 |ty n=>cases (show u=Value.type n from r);rfl
section
variable {P:Program}{w:World}{H H':Hp}{h h':Heap}{a C dx:Addr}{fs fs':List (Str×V)}
theorem Pz(hok:iQ P w H h)(e:H a=some (.ins C dx fs)):∃mA,pH h a dx C mA/\(∀f,rB (fs.lookup f) (mA f))/\PySem.Within mA (fs.map (·.1))/\fs.length<=1000/\H dx=some (.own a):=by
 obtain⟨d,z,ne,ob,mA,n,r,q⟩:=(show bM P w H h a (.ins C dx fs) from hok a _ e);exact⟨mA,⟨ob,n,ne⟩,r,q,z,d⟩
end
structure Cls(K:W.Frag)(C:Addr):Prop where
 pg:PySem.W.plainGet K C Str.empty=true
 hd:PySem.W.hasDictIn K C=true
 po:PySem.W.plainOver K C=true
 sa:PySem.W.findIn K (.ref C) "__setattr__"=some (some (.builtin "object.__setattr__"))
theorem Cls.get{K:W.Frag}{C:Addr}(c:Cls K C)(f:Str):PySem.W.plainGet K C f=true:=c.pg
def gR(K:W.Frag)(C:Addr)(f:Str):Prop:=PySem.W.findIn K (.ref C) f=some none
theorem gR.taker{K:W.Frag}{C:Addr}{f:Str}(n:gR K C f):PySem.W.takerIn K C f=some none:=by
 unfold PySem.W.takerIn;rw[show PySem.W.findIn K (.ref C) f=some none from n];rfl
structure Meth(K:W.Frag)(C:Addr)(m:Str)(f:Addr):Prop where
 at_:PySem.W.findIn K (.ref C) m=some (some (.ref f))
 fn:PySem.W.isFn K (.ref f)=true
 kp:PySem.W.keepIn K (.ref f)=true
section
variable {X:Cx}{ao:List (Addr×Obj)}{Z:St}{H:Hp}{s:Shared}{a C dx:Addr}{fs:List (Str×V)}{f:Str}{v:V}{A:Around}{E:Value->Shared->Prop}
theorem zfd{b:Bool}{Q:Value->Shared->Prop}(I:Inv X ao Z H s)(e:H a=some (.ins C dx fs))(c:Cls X.K C)(n:gR X.K C f)(l:fs.lookup f=some v)
  (h:∀u s',Inv X ao Z H s'->RelV v u->Q u s'):wpAny (model X.prog X.w) A (getAttr (.ref a) f b) Q E s:=by
 obtain⟨mA,O,r,_,_,_⟩:=Pz I.hok e;obtain⟨u,hu,ru⟩:=Kaf (v:=v) (o:=mA f) (by rw[<-l];exact r f);exact zjy I.nM O (c.get f) c.hd n hu (zgu ru) (h u _ (I.tok _) ru)
theorem zeY{m:Str}{g:Addr}{pl:Sem Bool}{Q:Value×List Value->Shared->Prop}(I:Inv X ao Z H s)(e:H a=some (.ins C dx fs))(c:Cls X.K C)(k:Meth X.K C m g)(l:fs.lookup m=none)
  (h:Q (.ref g,[.ref a]) s):wpAny (model X.prog X.w) A (getMethod (.ref a) m pl) Q E s:=by
 obtain⟨mA,O,r,_,_,_⟩:=Pz I.hok e;have hn:mA m=none:=Kae (by rw[<-l];exact r m);exact zhs I.nM O (c.get m) k.at_ k.fn hn h
theorem zfc{y:V}{u:Value}{Q:Unit->Shared->Prop}(I:Inv X ao Z H s)(e:H a=some (.ins C dx fs))(c:Cls X.K C)(n:gR X.K C f)(hl:fs.length<1000)(ry:RelV y u)
  (h:∀s',Inv X ao Z (upd H a (.ins C dx (fD f y fs))) s'->Q () s'):wpAny (model X.prog X.w) A (setAttr (.ref a) f u) Q E s:=by
 obtain⟨mA,O,r,wi,_,ho⟩:=Pz I.hok e;have hz:(fs.map (·.1)).length<=sizeLine:=by rw[cR,vm];lia
 refine zjU I.nM O c.sa c.po n.taker c.hd wi hz λh' O' sb=>h _ ?_;have hd:∃o,h'.get? dx=some o:=let ⟨o,_,_,e',_⟩:=O'.ns;⟨o,e'⟩;refine I.write (x:=a) (e:=dx) (by rw[e];exact True.intro) (.inr ho) (λb q hb z=>(sb.2 b hb).trans z) hd ?_;refine⟨by rw[cW O.ne];exact ho,?_,O.ne,O'.obj,_,O'.ns,λg=>?_,λg hg=>?_⟩
 ·have:=Wy f y fs;lia
 ·show rB ((fD f y fs).lookup g) (if g=f then some u else mA g);rw[Wx];by_cases q:g=f
  ·rw[if_pos q,if_pos q];exact ry
  ·rw[if_neg q,if_neg q];exact r g
 ·by_cases q:g=f
  ·rw[q];exact(Py f y fs).1
  ·refine(Py f y fs).2 g (wi g λz=>hg ?_);show (if g=f then some u else mA g)=none;rw[if_neg q];exact z
theorem Inv.made(I:Inv X ao Z H s):Inv X ao Z (upd (upd H s.heap.objs.size (.own (s.heap.objs.size+1))) (s.heap.objs.size+1) (.ins C s.heap.objs.size []))
  {s with heap:=(s.heap.push PySem.W.emptyDict).push (PySem.W.instObj C s.heap.objs.size)}:=by
 have e1:(s.heap.push PySem.W.emptyDict).get? s.heap.objs.size=some PySem.W.emptyDict:=fL s.heap rfl;have e2:((s.heap.push PySem.W.emptyDict).push (PySem.W.instObj C s.heap.objs.size)).get? (s.heap.objs.size+1)=some (PySem.W.instObj C s.heap.objs.size):=by
  have:=fL (s.heap.push PySem.W.emptyDict) (o:=PySem.W.instObj C s.heap.objs.size) rfl
  rwa [vg] at this
 have e3:(s.heap.push PySem.W.emptyDict).Ns s.heap.objs.size (λ_=>none):=⟨PySem.W.emptyDict,#[],_,e1,rfl,(λe he=>absurd he (by simp)),λ_=>rfl⟩;have I1:=I.laid (a:=s.heap.objs.size) (o:=.own (s.heap.objs.size+1)) (h':=s.heap.push PySem.W.emptyDict) (t':=s.toks) (λb u q=>cM _ q) (b_ _) ⟨_,e1⟩;refine I1.laid (a:=s.heap.objs.size+1) (o:=.ins C s.heap.objs.size []) (t':=s.toks) (λb u q=>cM _ q) (Nat.le_of_eq (vg _ _)) ?_;have ne:s.heap.objs.size≠s.heap.objs.size+1:=dN (Fy _);refine⟨by rw[cW ne,jF],wu _,ne,e2,λ_=>none,(Heap.Ns1.of_empty e3).at λo q=>cM _ q,λ_=>True.intro,λy hy=>absurd rfl hy⟩
theorem zkk{prog:Program}{w:World}{env:Env}{e:Expr}{f:Str}{pos:Pos}{s:Shared}{Q:Value->Shared->Prop}(hb:attributeBase e f env (eval e env)=eval e env)
  (h:wpAny (model prog w) A (eval e env) (λo s₁=>wpAny (model prog w) A (getAttr o f true) Q E s₁) E s):wpAny (model prog w) A (eval (.Attribute e f pos) env) Q E s:=
 Attribute_any_ h (by rw[arm_eval_Attribute,hb])
end
noncomputable def PB(K:W.Frag)(ta:TE)(f:Str):TE:=λZ H Q=>ta Z H λx H1=>∃a C dx fs v,x=.ref a/\H1 a=some (.ins C dx fs)/\Cls K C/\gR K C f/\fs.lookup f=some v/\Q v H1
noncomputable def PJ(K:W.Frag)(ta tv:TE)(f:Str):TS:=λD Z H=>tv Z H λy H1=>ta Z H1 λx H2=>∃a C dx fs,x=.ref a/\H2 a=some (.ins C dx fs)/\Cls K C/\gR K C f/\fs.length<1000 /\
 D.nx Z (upd H2 a (.ins C dx (fD f y fs)))
section
variable {X:Cx}{o e value:Expr}{f:Str}{pos pos' tpos:Pos}{ta tv:TE}
theorem zlk(he:PE X e ta)(hb:attributeBase e f X.env (eval e X.env)=eval e X.env):PE X (.Attribute e f pos) (PB X.K ta f):=by
 intro ao s Z H Q I h;refine zkk hb (aU (he ao s Z H _ I h) λu s1 ⟨x,H1,I1,rx,a,C,dx,fs,v,ex,ea,c,n,l,q⟩=>?_);subst ex;obtain rfl:u=Value.ref a:=rx;exact zfd I1 ea c n l λu' s2 I2 ru=>⟨v,H1,I2,ru,q⟩
theorem zkY(ha:PE X o ta)(hv:PE X value tv)(hs:swapsWith value (some (.Attribute o f pos')) pos.line X.env=pure false):PS X (.Assign [.Attribute o f pos'] value pos) (PJ X.K ta tv f):=by
 intro ao s Z H D I h;refine plainObj_wpAny_Assign_Attribute (aU (hv ao s Z H _ I h) λu s1 hx=>eU hx λy H1 I1 ry q=>aU (ha ao s1 Z H1 _ I1 q) λov s2 ⟨x,H2,I2,rx,a,C,dx,fs,ex,ea,c,n,l,q2⟩=>?_) hs;subst ex;obtain rfl:ov=Value.ref a:=rx;exact zfc I2 ea c n l ry λs3 I3=>⟨Z,_,I3,q2⟩
end
section
variable {X:Cx}{ao:List (Addr×Obj)}{Z:St}{H:Hp}{s:Shared}{A:Around}{E:Value->Shared->Prop}{Q:Value->Shared->Prop}{c:Value}{b:Bool}
end
structure bF(k:Nat)(A:Around):Prop where
 dp:A.depth+3*k+5<recursionLimit
 un:A.units+16*k+200<cLine
 gd:A.guards=some []
theorem bF.deeper{k:Nat}{A:Around}(r:bF (k+1) A)(env:Env):bF k (A.deeper env):=
 ⟨by have:=r.dp;show A.depth+1+3*k+5<_;lia,by have:=r.un;show A.units+3+16*k+200<_;lia,r.gd⟩
theorem ze2{A:Around}{C:Addr}{us:List Value}{kw:List (Str×Value)}:(A.under (.builtin "type.__call__" ⟨.ref C::us,kw⟩)).depth=A.depth+1:=by
 first|rfl|simp[Around.under,Code.weight,Code.isCreation,Code.isGuard,Code.isCaller,Code.frames,Code.isFrame,guardIds]
theorem ze4{A:Around}{C:Addr}{us:List Value}{kw:List (Str×Value)}:(A.under (.builtin "type.__call__" ⟨.ref C::us,kw⟩)).units=A.units+1:=by
 first|rfl|simp[Around.under,Code.cUnits,Code.frames,Code.isFrame]
theorem bF.depth{k:Nat}{A:Around}(r:bF k A):A.depth<recursionLimit:=by have:=r.dp;lia
noncomputable def PK:TA:=λ_ H Q=>Q [] H
noncomputable def GX(ta:TE)(tr:TA):TA:=λZ H Q=>ta Z H λx H1=>tr Z H1 λxs H2=>Q (x::xs) H2
section
variable {X:Cx}{e:Expr}{es:List Expr}{te:TE}{t:TA}{pos:Pos}
theorem Al:PA X [] PK:=λ_ _ _ _ H Q I h=>Calls.spliced_nil ⟨[],H,I,.nil,h⟩
theorem vD(ha:PE X e te)(hr:PA X es t)(hs:starEach (e::es) X.env=(false,eval e X.env)::starEach es X.env:=by rfl):PA X (e::es) (GX te t):=by
 intro pos ao s Z H Q I h;rw[hs];show wpAny _ _ (spliced ((false,eval e X.env)::backTo pos (starEach es X.env))) _ _ s;refine Calls.spliced_cons (aU (ha ao s Z H _ I h) λu s1 hx=>eU hx λx H1 I1 r1 q1=>?_);exact aU (hr pos ao s1 Z H1 _ I1 q1) λus s2 hx=>eU hx λxs H2 I2 r2 q2=>⟨x::xs,H2,I2,.cons r1 r2,q2⟩
noncomputable def PL(t:TA):TE:=λZ H Q=>t Z H λxs H1=>xs.length<=sizeLine/\∀p,H1 p=none->Q (.ref p) (upd H1 p (.tup xs))
noncomputable def PN(t:TA):TE:=λZ H Q=>t Z H λxs H1=>xs.length<=sizeLine/\∀p,H1 p=none->Q (.ref p) (upd H1 p (.lst xs))
theorem zmP{x1}(h:PA X es t):PE X (.Tuple es x1 pos) (PL t):=by
 intro ao s Z H Q I hq;refine wpAny_Tuple_spliced (aU (h pos ao s Z H _ I hq) λus s1 ⟨xs,H1,I1,r,z,q⟩=>⟨by rw[<-r.length];exact z,?_⟩);have hf:H1 s1.heap.objs.size=none:=I1.hok.fresh (b_ _);refine⟨.ref s1.heap.objs.size,upd H1 s1.heap.objs.size (.tup xs),I1.laid (t':=s1.toks) (λb u e=>cM _ e) (b_ _) ?_,rfl,q _ hf⟩;exact⟨z,us,r,⟨_,fL _ rfl,rfl,_,rfl⟩⟩
theorem zmt(h:PA X es t):PE X (.List es pos) (PN t):=by
 intro ao s Z H Q I hq;refine wpAny_List_spliced (aU (h pos ao s Z H _ I hq) λus s1 ⟨xs,H1,I1,r,z,q⟩=>⟨by rw[<-r.length];exact z,?_⟩);have hf:H1 s1.heap.objs.size=none:=I1.hok.fresh (b_ _);refine⟨.ref s1.heap.objs.size,upd H1 s1.heap.objs.size (.lst xs),I1.laid (t':=s1.toks) (λb u e=>cM _ e) (b_ _) ?_,rfl,q _ hf⟩;exact⟨z,us,0,r,fL _ rfl⟩
end
noncomputable abbrev Sp:=List V->Hp->VK->XK->Prop
noncomputable abbrev sE:=List Env->Hp->Shared->XK->Value->Shared->Prop
structure pI(P:Program)(w:World)(K:W.Frag)(mg:Str->Option Value)(base:Heap)(A:Around)(outer:List Env)(s:Shared)(H:Hp):Prop where
 frames:A.frames=some outer
 mod:Mod K mg base
 bs:∀b o,base.get? b=some o->s.heap.get? b=some o/\H b=none
 Aa:base.objs.size<=s.heap.objs.size
 kZ:s.heap.FunFrames base outer
 Gp:∀b∈frs outer,H b=none
 hok:iQ P w H s.heap
 bare:AllBare s.gens
def CE(outer:List Env)(P:Program)(w:World)(H:Hp)(s:Shared)(Q:VK)(u:Value)(s':Shared):Prop:=
 ∃v H',s'.os=s.os/\AllBare s'.gens/\Un (frs outer) [] H H' s.heap s'.heap/\iQ P w H' s'.heap/\RelV v u/\Q v H'
def CR(CX:sE)(outer:List Env)(P:Program)(w:World)(H:Hp)(s:Shared)(Q:VK)(E:XK)(r:Result)(s':Shared):Prop:=
 match r with
 |.ok (.ret u)=>CE outer P w H s Q u s'
 |.ok _=>False
 |.error e=>CX outer H s E e s'
structure cD(P:Program)(w:World)(K:W.Frag)(mg:Str->Option Value)(base:Heap)(CX:sE)(cm:Bool)(k:Nat)(f:Addr)(fd:FuncData)(ps:List Str)(sp:Sp):Prop where
 len:∀vs H Q E,sp vs H Q E->vs.length=ps.length
 run:∀(A:Around) (outer:List Env) (s:Shared) (H:Hp) (args:Args) (us:List Value) (vs:List V) (Q:VK) (E:XK),(cm=true->A.handled=none)->bF k A->pI P w K mg base A outer s H->BindsTo s fd args (ps.zip us)->Vals vs us->sp vs H Q E->
  codeAny (model P w) A (.call (.ref f) args) (CR CX outer P w H s Q E) s
theorem cD.imp{P:Program}{w:World}{K:W.Frag}{mg:Str->Option Value}{base:Heap}{CX:sE}{cm:Bool}{k:Nat}{f:Addr}{fd:FuncData}{ps:List Str}{sp Wz:Sp}(F:cD P w K mg base CX cm k f fd ps sp)
  (h:∀vs H Q E,Wz vs H Q E->sp vs H Q E):cD P w K mg base CX cm k f fd ps Wz:=
 ⟨λvs H Q E q=>F.len vs H Q E (h _ _ _ _ q),λA outer s H args us vs Q E ju hr he hb hv hs=>F.run A outer s H args us vs Q E ju hr he hb hv (h _ _ _ _ hs)⟩
theorem pI.make{P:Program}{w:World}{K:W.Frag}{mg:Str->Option Value}{base:Heap}{A:Around}{outer:List Env}{s:Shared}{H:Hp}(e:pI P w K mg base A outer s H)(C:Addr)(us:List Value)(kw:List (Str×Value)) :
  pI P w K mg base (A.under (.builtin "type.__call__" ⟨.ref C::us,kw⟩)) outer s H:=⟨by first|exact e.frames|(simpa [Around.under,Code.envs,Code.isFrame,pushEnvs] using e.frames),e.mod,e.bs,e.Aa,e.kZ,e.Gp,e.hok,e.bare⟩
section
variable {X:Cx}{ao:List (Addr×Obj)}{Z:St}{H:Hp}{s s':Shared}
theorem Inv.env0(I:Inv X ao Z H s):pI X.prog X.w X.K X.mg X.base X.A X.stack s H:=
 ⟨I.ok.frames,I.ok.mod,I.bs,j8 I.ok.Aa I.sz,I.stack,I.mC,I.hok,I.bare⟩
theorem Inv.after{Q:VK}{u:Value}(I:Inv X ao Z H s)(h:CE X.stack X.prog X.w H s Q u s'):EP X ao Z Q u s':=by
 obtain⟨v,H',os,bare,un,hok,r,q⟩:=h;obtain⟨hh,g,d,t,os'⟩:=s';obtain rfl:os'=s.os:=os;exact⟨v,H',I.call (h':=hh) (g':=g) (d':=d) (t':=t) (ch:=[]) un hok bare (λb z=>absurd z (by simp)),r,q⟩
end
noncomputable def GZ(C:Addr)(m:Str)(sp:Sp)(nR:List V)(E:XK)(ta:TE)(t:TA):TE:=λZ H Q=>ta Z H λx H1=>∃a dx fs,x=.ref a/\H1 a=some (.ins C dx fs)/\fs.lookup m=none /\
 t Z H1 λvs H2=>sp (x::(vs++nR)) H2 Q E
noncomputable def G3(C:Addr)(sp:Sp)(nR:List V)(E:XK)(t:TA):TE:=λZ H Q=>t Z H λvs H1=>∀x dx,H1 x=none->H1 dx=none->dx≠x->
 sp (.ref x::(vs++nR)) (upd (upd H1 dx (.own x)) x (.ins C dx [])) (λv H2=>v=.non/\Q (.ref x) H2) E
def Binds(K:W.Frag)(fd:FuncData)(ps:List Str)(ds:List Value):Prop:=
 ∀(s:Shared) (us:List Value),K.In s.heap->(us++ds).length=ps.length->BindsTo s fd ⟨us,[]⟩ (ps.zip (us++ds))
theorem Binds.all{K:W.Frag}{fd:FuncData}{ps:List Str}(h:∀us:List Value,us.length=ps.length->bindArgs fd ⟨us,[]⟩=pure (ps.zip us)):Binds K fd ps []:=λs us _ hl=>by
 rw[v7] at hl ⊢;exact .of_eq (h us hl)
def Passes(CX:sE)(X:Cx)(E:XK):Prop:=∀(ao:List (Addr×Obj)) (Z:St) (H:Hp) (s:Shared) (e:Value) (s':Shared),Inv X ao Z H s->CX X.stack H s E e s'->X.xe e s'
section
variable {X:Cx}{CX:sE}{cm:Bool}{k:Nat}{f C:Addr}{fd:FuncData}{ps:List Str}{sp:Sp}{nR:List V}{ds:List Value}{E:XK}{x m:Str}{p pos apos:Pos}{e o:Expr}{es:List Expr}{ta:TE}{t:TA}
theorem zkI{ao:List (Addr×Obj)}{Z:St}{H:Hp}{s:Shared}{Q:VK}{us:List Value}{vs:List V}(F:cD X.prog X.w X.K X.mg X.base CX cm k f fd ps sp)(ju:cm=true->X.aj=true)(hr:bF k X.A)(hb:Binds X.K fd ps ds)(hd:Vals nR ds)(hx:Passes CX X E)
  (I:Inv X ao Z H s) (r:Vals vs us) (h:sp (vs++nR) H Q E):wpAny (model X.prog X.w) X.A (call (.ref f) us) (EP X ao Z Q) X.xe s:=by
 have r2:Vals (vs++nR) (us++ds):=r.append hd;have hl:(us++ds).length=ps.length:=by rw[<-r2.length];exact F.len _ _ _ _ h
 refine wpAny_call (zR (F.run X.A X.stack s H ⟨us,[]⟩ (us++ds) (vs++nR) Q E (λz=>I.ok.hd (ju z)) hr I.env0 (hb s us I.nM hl) r2 h) λr s' hq=>?_);cases r with
 |error e=>exact hx ao Z H s e s' I hq
 |ok fl=>
  cases fl with
  |ret u=>exact I.after hq
  |next=>exact False.elim hq
  |brk=>exact False.elim hq
  |cont=>exact False.elim hq
theorem zjI{pl:Sem Bool}(he:PE X o ta)(c:Cls X.K C)(hm:Meth X.K C m f)(F:cD X.prog X.w X.K X.mg X.base CX cm k f fd ps sp)(ju:cm=true->X.aj=true)(hr:bF k X.A)(hb:Binds X.K fd ps ds)(hd:Vals nR ds)(hx:Passes CX X E)(ha:PA X (e::es) t)
  (Af:starEach (e::es) X.env=(false,eval e X.env)::starEach es X.env:=by rfl) (hpl:(backTo pos (starEach es X.env)).any (·.1)=false:=by rfl)
  (ht:eval (.Call (.Attribute o m apos) (e::es) [] pos) X.env=(do
   let ov <-eval o X.env
   standAt apos.atName
   let (f,first) <-holding [ov] (getMethod ov m pl)
   callWith pos f first (backTo pos (starEach (e::es) X.env)) (backToKw pos (keywordEach [] X.env))):=by rfl) :
  PE X (.Call (.Attribute o m apos) (e::es) [] pos) (GZ C m sp nR E ta t):=by
 intro ao s Z H Q I h;refine PySem.W.methodCall_KW (pl:=pl) (aU (he ao s Z H _ I h) λu s1 ⟨x,H1,I1,rx,a,dx,fs,ex,ea,l,q⟩=>?_) ht;subst ex;obtain rfl:u=Value.ref a:=rx;refine zeY I1 ea c hm l ?_;refine Oe (first:=[.ref a]) (h₀:=X.base) I.ok.mod.yj hm.kp (aU (ha pos ao s1 Z H1 _ I1 q) λus s2 ⟨vs,H2,I2,r,q2⟩=>⟨I2.nM,?_⟩) Af hpl;exact zkI (us:=.ref a::us) (vs:=.ref a::vs) F ju hr hb hd hx I2 (.cons rfl r) q2
structure Mk(K:W.Frag)(C f:Addr):Prop where
 makes:PySem.W.makesIn K C=true
 init:PySem.W.findIn K (.ref C) "__init__"=some (some (.ref f))
 fn:PySem.W.isFn K (.ref f)=true
 kp:PySem.W.keepIn K (.ref C)=true
theorem zhb{ao:List (Addr×Obj)}{Z:St}{H:Hp}{s:Shared}{Q:VK}{us:List Value}{vs:List V}(M:Mk X.K C f)(F:cD X.prog X.w X.K X.mg X.base CX cm k f fd ps sp)(ju:cm=true->X.aj=true)(hr:∀us,bF k (X.A.under (.builtin "type.__call__" ⟨.ref C::us,[]⟩)))(hb:Binds X.K fd ps ds)(hd:Vals nR ds)
  (hx:Passes CX X E) (I:Inv X ao Z H s) (r:Vals vs us)
  (h:∀x dx,H x=none->H dx=none->dx≠x->sp (.ref x::(vs++nR)) (upd (upd H dx (.own x)) x (.ins C dx [])) (λv H2=>v=.non/\Q (.ref x) H2) E) :
  wpAny (model X.prog X.w) X.A (call (.ref C) us) (EP X ao Z Q) X.xe s:=by
 have hq:=h (s.heap.objs.size+1) s.heap.objs.size (I.hok.fresh (Nat.le_succ _)) (I.hok.fresh (b_ _)) (dN (Fy _));have I2:=Inv.made (C:=C) I;have r2:Vals (V.ref (s.heap.objs.size+1)::(vs++nR)) (Value.ref (s.heap.objs.size+1)::(us++ds)):=.cons rfl (r.append hd);have hl:(Value.ref (s.heap.objs.size+1)::us++ds).length=ps.length:=by
  have e:=r2.length;rw[F.len _ _ _ _ hq] at e;exact e.symm
 refine wpAny_call (zh8 (f:=f) I.nM M.makes M.init (pD.mp M.fn) (zR (F.run _ X.stack _ _ ⟨Value.ref (s.heap.objs.size+1)::us,[]⟩ (Value.ref (s.heap.objs.size+1)::(us++ds)) _ _ E (λz=>I.ok.hd (ju z)) (hr us)
  (I2.env0.make C us []) (hb _ (Value.ref (s.heap.objs.size+1)::us) I2.nM hl) r2 hq) λr s' G4=>?_))
 cases r with
 |error e=>exact hx ao Z _ _ e s' I2 G4
 |ok fl=>
  cases fl with
  |ret u=>
   obtain⟨v,H',I3,rv,ev,q3⟩:=I2.after G4;subst ev;exact⟨rv,⟨V.ref (s.heap.objs.size+1),H',I3,rfl,q3⟩⟩
  |next=>exact False.elim G4
  |brk=>exact False.elim G4
  |cont=>exact False.elim G4
theorem zjB(M:Mk X.K C f)(F:cD X.prog X.w X.K X.mg X.base CX cm k f fd ps sp)(ju:cm=true->X.aj=true)(hr:∀us,bF k (X.A.under (.builtin "type.__call__" ⟨.ref C::us,[]⟩)))(hg:Gl X x)(hm:X.mg x=some (.ref C))(hb:Binds X.K fd ps ds)(hd:Vals nR ds)(hx:Passes CX X E)
  (ha:PA X (e::es) t) (rC:(x==("__debug__" : Str))=false:=by decide) (he:starEach (e::es) X.env=(false,eval e X.env)::starEach es X.env:=by rfl) (hpl:(backTo pos (starEach es X.env)).any (·.1)=false:=by rfl) :
  PE X (.Call (.Name x p) (e::es) [] pos) (G3 C sp nR E t):=by
 intro ao s Z H Q I h;refine CG (O2 I hg hm ?_ rC);refine Oe (h₀:=X.base) I.ok.mod.yj M.kp (aU (ha pos ao s Z H _ I h) λus s1 ⟨vs,H1,I1,r,q⟩=>⟨I1.nM,?_⟩) he hpl;exact zhb M F ju hr hb hd hx I1 r q
end
section
variable {X:Cx}{CX:sE}{cm:Bool}{k:Nat}{f C:Addr}{fd:FuncData}{ps ks:List Str}{sp:Sp}{E:XK}{x m:Str}{p pos apos kpos:Pos}{e o:Expr}{es:List Expr}{kws:List Keyword}{te ta:TE}{t tk:TA}{nm:Option Str}
variable {g:List Value->List Value->List Value}{gV:List V->List V->List V}
end
structure cU(N P:List Str)(sc:Scope):Prop where
 kind:sc.kind=.function
 co:sc.isCoroutine=false
 gen:sc.isGenerator=false
 nd:N.Nodup
 pre:N.take P.length=P
 par:∀x∈P,sc.names.lookup x=some .local\/sc.names.lookup x=some .cell
 Am:∀y∈sc.names,y.2≠.free
theorem WD{kindOf:Str->Option NameKind}{x:Str}:∀{binds:List (Str×Value)} {m:Str->Option Value},(∀v,(x,v)∉binds)->bindL kindOf binds m x=m x
 |[],_,_=>rfl
 |(n,v)::r,m,h=>by
  unfold bindL;rw[WD λw hw=>h w (h_ _ hw)]
  split
  ·have:x≠n:=by rintro rfl;exact h v lC
   simp[this]
  ·rfl
theorem WK{kindOf:Str->Option NameKind}{x:Str}:∀{binds:List (Str×Value)} {m:Str->Option Value},(∀v,(x,v)∉binds)->bindC kindOf binds m x=m x
 |[],_,_=>rfl
 |(n,v)::r,m,h=>by
  unfold bindC;rw[WK λw hw=>h w (h_ _ hw)]
  split
  ·rfl
  ·have:x≠n:=by rintro rfl;exact h v lC
   simp[this]
theorem WL{kindOf:Str->Option NameKind}{x:Str}{v:Value}:∀{P:List Str} {vs:List Value} {i:Nat} {m:Str->Option Value},P.Nodup->P[i]?=some x->vs[i]?=some v->kindOf x=some .local->
  bindL kindOf (P.zip vs) m x=some v
 |[],_,_,_,_,h,_,_=>by simp at h
 |_::_,[],_,_,_,_,h,_=>by simp at h
 |p::P,w::vs,0,m,nd,h1,h2,hk=>by
  simp at h1 h2;subst h1;subst h2;show bindL kindOf ((p,w)::P.zip vs) m p=_;unfold bindL;rw[WD λv hv=>(v8.mp nd).1 (List.of_mem_zip hv).1,if_pos hk];simp
 |p::P,w::vs,i+1,m,nd,h1,h2,hk=>by
  show bindL kindOf ((p,w)::P.zip vs) m x=_;unfold bindL;exact WL (i:=i) (v8.mp nd).2 (by simpa using h1) (by simpa using h2) hk
theorem WM{kindOf:Str->Option NameKind}{x:Str}{v:Value}:∀{P:List Str} {vs:List Value} {i:Nat} {m:Str->Option Value},P.Nodup->P[i]?=some x->vs[i]?=some v->kindOf x≠some .local->
  bindC kindOf (P.zip vs) m x=some v
 |[],_,_,_,_,h,_,_=>by simp at h
 |_::_,[],_,_,_,_,h,_=>by simp at h
 |p::P,w::vs,0,m,nd,h1,h2,hk=>by
  simp at h1 h2;subst h1;subst h2;show bindC kindOf ((p,w)::P.zip vs) m p=_;unfold bindC;rw[WK λv hv=>(v8.mp nd).1 (List.of_mem_zip hv).1,if_neg hk];simp
 |p::P,w::vs,i+1,m,nd,h1,h2,hk=>by
  show bindC kindOf ((p,w)::P.zip vs) m x=_;unfold bindC;exact WM (i:=i) (v8.mp nd).2 (by simpa using h1) (by simpa using h2) hk
noncomputable def start(N:List Str)(vs:List V):St:=vs.map some++List.replicate (N.length-vs.length) none
noncomputable def gA(CX:sE)(P:Program)(w:World)(K:W.Frag)(mg:Str->Option Value)(base:Heap)(N:List Str)(qual:Str)(scope:Scope)(f:Addr)(cd:Value)(A:Around)(outer:List Env)(s:Shared)(H:Hp)(E:XK)(cm:Bool):Cx where
 prog:=P
 w:=w
 K:=K
 mg:=mg
 base:=base
 A:=A.deeper (envOfC qual scope s.heap.objs.size f cd)
 N:=N
 s₀:=s
 H₀:=H
 env:=envOfC qual scope s.heap.objs.size f cd
 outer:=outer
 stack:=envOfC qual scope s.heap.objs.size f cd::outer
 ex:=[]
 aj:=cm
 fn:=λ_=>true
 pn:=[]
 xe:=λe s'=>wpAny (model P w) (A.deeper (envOfC qual scope s.heap.objs.size f cd)) (leaving (envOfC qual scope s.heap.objs.size f cd) e) (λ_ s''=>CX outer H s E e s'') (λe' s''=>CX outer H s E e' s'') s'
theorem WQ{sc:Scope}{n:Nat}{x:Str}(h:sc.names.lookup x=some .cell):∃c,(cellsFrom n sc.names []).lookup x=some c:=by
 have q:=N6 sc.names n [] (.inl h);exact NT.mp q
theorem zfF{CX:sE}{P:Program}{w:World}{K:W.Frag}{mg:Str->Option Value}{base:Heap}{N ps:List Str}{qual:Str}{scope:Scope}{f:Addr}{cd:Value}{A:Around}{outer:List Env}{s s1:Shared}{H:Hp}{E:XK}{us:List Value}{vs:List V}
  {cm:Bool} (S:cU N ps scope) (hd:cm=true->A.handled=none) (e0:pI P w K mg base A outer s H) (hl:vs.length=ps.length) (r:Vals vs us)
  (x:InCallC s s.heap.objs.size (bindL (envOfC qual scope s.heap.objs.size f cd).kindOf (ps.zip us) λ_=>none) (cellsFrom (s.heap.objs.size+1) scope.names []) (bindC (envOfC qual scope s.heap.objs.size f cd).kindOf (ps.zip us) λ_=>none) s1) :
  Inv (gA CX P w K mg base N qual scope f cd A outer s H E cm) [] (start N vs) H s1:=by
 have hpl:ps.length<=N.length:=by have:=lW List.length S.pre;rw[yg] at this;lia
 obtain⟨h1,tk,rfl,hk⟩:=x.done;have G5:∀b:Addr,b∉(gA CX P w K mg base N qual scope f cd A outer s H E cm).ex:=λb z=>absurd (show b∈([]:List Addr) from z) (by simp);refine⟨⟨e0.mod,S.kind,rfl,rfl,b_ _,λy z c h1 h2=>?_,λy hy=>?_,λy c _ h=>?_,hd,Around.frames_deeper e0.frames,.inr ⟨rfl,rfl⟩,λb z=>absurd z (G5 b),e0.bs,e0.Aa,λb _ _=>G5 b,λb z=>absurd z (G5 b),e0.kZ,e0.Gp⟩,
  rfl,e0.bare,Un.kept hk,⟨_,x.toInCall.ns,λi y v h1 h2 h3=>?_⟩,λy c h=>⟨_,x.cell y c h⟩,e0.hok.fresh (b_ _),λy c h=>?_,λp hp=>absurd (show p∈([]:List (Addr×Obj)) from hp) (by simp),e0.hok.kept hk,?_⟩
 ·exact name_of_addr x.apart (Cy h1) (Cy h2)
 ·have hy:scope.names.lookup y=some .cell\/scope.names.lookup y=some .free:=hy;rcases hy with hy|hy
  ·exact WQ hy
  ·exact absurd rfl (S.Am _ (Cy hy))
 ·exact wg (x.above y c (Cy h))
 ·have hi:i<vs.length:=by
   unfold start at h2;by_cases hi:i<vs.length
   ·exact hi
   ·rw[o8 (by simpa using hi)] at h2;rw[zy] at h2;split at h2<;>cases h2
  have ha:vs[i]?=some v:=by
   unfold start at h2;rw[oX (by simpa using hi),iu] at h2;cases e:vs[i]? with
   |none=>rw[e] at h2;cases h2
   |some a=>rw[e] at h2;cases h2;rfl
  obtain⟨u,hu,rv⟩:=r.get ha;have hp:ps[i]?=some y:=by
   rw[<-S.pre,List.getElem?_take_of_lt (by lia)];exact h1
  have WR:ps.Nodup:=by rw[<-S.pre];exact S.nd.sublist (List.take_sublist _ _)
  refine⟨u,rv,?_⟩;rcases S.par y (fX hp) with k|k
  ·exact .inl ⟨k,WL WR hp hu k⟩
  ·obtain⟨c,e⟩:=WQ (n:=s.heap.objs.size+1) k;refine .inr ⟨.inl k,c,e,?_⟩;have q:=x.cell y c e;rw[WM WR hp hu (by show scope.names.lookup y≠_;rw[k];decide)] at q;exact q
 ·exact e0.hok.fresh (wg (x.above y c (Cy h)))
 ·unfold start;show _=N.length;rw[lD,cR,Fj]
  lia
theorem WT{CX:sE}{cm:Bool}{P:Program}{w:World}{K:W.Frag}{mg:Str->Option Value}{base:Heap}{k:Nat}{f:Addr}{name qual:Str}{params:Arguments}{body:List Stmt}{scope:Scope}{dV kV doc pm cdv ct oc:Value}{an od:Option Addr}
  {osl:Array (Option Value)} {N ps:List Str} {sp:Sp} (lk:K.lookup f=some ⟨oc,od,.func (PySem.W.fnOf name qual params body scope dV kV doc pm an cdv ct),osl⟩) (j_:PySem.W.codeIn K cdv qual=true) (S:cU N ps scope)
  (len:∀vs H Q E,sp vs H Q E->vs.length=ps.length)
  (G6:∀(A:Around) (outer:List Env) (s:Shared) (H:Hp) (vs:List V) (Q:VK) (E:XK),bF (k+1) A->sp vs H Q E->
   ∃t,pF (gA CX P w K mg base N qual scope f cdv A outer s H E cm) body t/\t {nx:=λ_ H'=>Q .non H',rt:=Q} (start N vs) H) :
  cD P w K mg base CX cm (k+1) f (PySem.W.fnOf name qual params body scope dV kV doc pm an cdv ct) ps sp:=by
 refine⟨len,λA outer s H args us vs Q E ju hr e0 hb r K1=>?_⟩;have hl:=len _ _ _ _ K1;have KX:K.In s.heap:=e0.mod.yj.keeps λb o e=>(e0.bs b o e).1;have lim:s.heap.NoLimit:=e0.mod.nolimit.keeps λb o e=>(e0.bs b o e).1;have G7:∀y∈ps.zip us,scope.names.lookup y.1=some .local\/(scope.names.lookup y.1=some .cell/\((cellsFrom (s.heap.objs.size+1) scope.names []).lookup y.1).isSome=true):=λ⟨n,v⟩ hy=>by
  rcases S.par n (List.of_mem_zip hy).1 with q|q
  ·exact .inl q
  ·exact .inr ⟨q,N6 _ _ _ (.inl q)⟩
 refine codeAny_call_function hr.depth (KX _ _ lk) rfl S.co S.gen rfl (PySem.W.codeRec_of KX j_) (hb _ _ _ _ ?_);refine wpAny_newFunctionEnv_cells S.kind G7 λenv he s1 x=>?_;subst he;refine⟨lim.keeps x.toInCall.keep,codeAny_func ?_⟩;obtain⟨t,ht,hq⟩:=G6 A outer s H vs Q E hr K1;have I:Inv (gA CX P w K mg base N qual scope f cdv A outer s H E cm) [] (start N vs) H s1:=zfF S ju e0 hl r x;refine gH (ht [] s1 (start N vs) H _ I hq) (λfl s' hs=>?_) λe s' hs=>hs;have fin:∀{Z':St} {H':Hp} {v:V} {u:Value},Inv (gA CX P w K mg base N qual scope f cdv A outer s H E cm) [] Z' H' s'->RelV v u->Q v H'->CE outer P w H s Q u s':=
  λ{Z' H' v u} bJ rv q=>⟨v,H',bJ.os,bJ.bare,bJ.base,bJ.hok,rv,q⟩
 cases fl with
 |ret u=>
  obtain⟨v,Z',H',bJ,rv,q⟩:=hs;exact fin bJ rv q
 |next=>
  obtain⟨Z',H',bJ,q⟩:=hs;exact fin (v:=V.non) (u:=Value.none) bJ rfl q
 |brk=>
  obtain⟨_,_,_,q⟩:=hs;exact False.elim q
 |cont=>
  obtain⟨_,_,_,q⟩:=hs;exact False.elim q
section
variable {X:Cx}{x:Str}{p pos:Pos}{e:Expr}{es:List Expr}{t:TA}{id T:String}{r:List V->Hp->VK->Prop}
noncomputable def PX(r:List V->Hp->VK->Prop)(t:TA):TE:=λZ H Q=>t Z H λvs H1=>r vs H1 Q
theorem WW(hc:cO X (.builtin id) r)(hg:Gl X x)(hm:X.mg x=none)(hv:bootBuiltins x=some (.builtin id))(ha:PA X (e::es) t)(hn:x≠"__name__":=by decide)(rC:(x==("__debug__" : Str))=false:=by decide)
  (he:starEach (e::es) X.env=(false,eval e X.env)::starEach es X.env:=by rfl) (hpl:(backTo pos (starEach es X.env)).any (·.1)=false:=by rfl):PE X (.Call (.Name x p) (e::es) [] pos) (PX r t):=by
 intro ao s Z H Q I h;refine CG (wA I hg hm hv ?_ hn rC);exact PyProof.Rows.callWith_builtin1 (aU (ha pos ao s Z H _ I h) λus s1 hx=>eU hx λvs H1 I1 r1 q1=>hc ao s1 Z H1 vs us Q I1 r1 q1) he hpl
theorem zfW(hc:cO X (.type T) r)(hg:Gl X x)(hm:X.mg x=none)(hv:bootBuiltins x=some (.type T))(ha:PA X (e::es) t)(hn:x≠"__name__":=by decide)(rC:(x==("__debug__" : Str))=false:=by decide)
  (he:starEach (e::es) X.env=(false,eval e X.env)::starEach es X.env:=by rfl) (hpl:(backTo pos (starEach es X.env)).any (·.1)=false:=by rfl):PE X (.Call (.Name x p) (e::es) [] pos) (PX r t):=by
 intro ao s Z H Q I h;refine CG (wA I hg hm hv ?_ hn rC);exact zx (aU (ha pos ao s Z H _ I h) λus s1 hx=>eU hx λvs H1 I1 r1 q1=>hc ao s1 Z H1 vs us Q I1 r1 q1) he hpl
end
end L2
namespace HT
open PySem PyProof.Rows
noncomputable def lexLt:List Int->List Int->Bool
 |[],[]=>false
 |[],_::_=>true
 |_::_,[]=>false
 |x::xs,y::ys=>if x=y then lexLt xs ys else decide (x<y)
theorem jM(x y:Int)(xs ys:List Int):lexLt (x::xs) (y::ys)=if x=y then lexLt xs ys else decide (x<y):=rfl
theorem zcJ:lexLt [] []=false:=rfl
theorem zcl(y:Int)(ys:List Int):lexLt [] (y::ys)=true:=rfl
theorem zch(x:Int)(xs:List Int):lexLt (x::xs) []=false:=rfl
theorem zg7(A:Around)(s:Shared)(a:Int)(t:Tok)(c:Int)(u:Tok):∃e,SeqAt.EqAt A s (.int a t) (.int c u) e/\(e=true↔a=c):=
 ⟨(a==c),SeqAt.EqAt.int_int a t c u,by simp⟩
theorem zhZ(A:Around)(s:Shared)(a:Int)(t:Tok)(c:Int)(u:Tok)(prog:Program)(w:World)(E:Value->Shared->Prop)(Q:Value->Shared->Prop)(h:Q (.bool (decide (a<c))) s) :
  wpAny (model prog w) A (richCompare .Lt (.int a t) (.int c u)) Q E s:=
 (PyProof.Rows.lt_int h:wpAny (model prog w) A (compareOp .Lt (.int a t) (.int c u)) Q E s)
section
open PySem.SeqAt
open PySem.AutoSeq1 (wpAny_loadPart')
open PySem.MeetsSeq PySem.MeetsSeq2 PySem.MeetsSeq3
theorem zcL(l b:Addr)(items items2:Array Value)(n n2:Nat)(dd dd2:Option Addr)(sl sl2:Array (Option Value))(ns ms:List Int)(hi:IntsAre items.toList ns)(hj:IntsAre items2.toList ms) :
  Meets (Builtin.«tuple.__lt__» ⟨[.ref l,.ref b],[]⟩)
   (λ_ R s=>s.heap.get? l=some {cls:=.type "tuple",dict:=dd,data:=.seq items n,slots:=sl}/\s.heap.get? b=some {cls:=.type "tuple",dict:=dd2,data:=.seq items2 n2,slots:=sl2} /\
    R (.ok (.ret (.bool (lexLt ns ms)))) s):=
 .of_wp λprog w A R s h=>by
  obtain⟨hp,g,d,tk,os⟩:=s;obtain⟨hl,hb,h⟩:=h;have f2:=AutoSeq1.sub_tuple_tuple;have z1:items.size=ns.length:=by rw[<-hi.length];simp
  have z2:items2.size=ms.length:=by rw[<-hj.length];simp
  wp_walk using wpAny_loadPart' hl,wpAny_loadPart' hb,wpAny_forIn_list _ (λrest b s'=>b.1=none/\s'=⟨hp,g,d,tk,os⟩/\∃(vs ws:List Value) (ns' Dr:List Int),rest=vs.zip ws /\
   IntsAre vs ns'/\IntsAre ws Dr/\ns'.length+items2.size=Dr.length+items.size/\R (.ok (.ret (.bool (lexLt ns' Dr)))) ⟨hp,g,d,tk,os⟩) _
  case turn=>
   rintro⟨y,x⟩ rest b s' ⟨hb',rfl,vs,ws,ns',Dr,hz,P0,K3,hlen,hR⟩;cases P0 with
   |nil=>rw[List.zip_nil_left] at hz;cases hz
   |cons a t P_=>
    cases K3 with
    |nil=>rw[List.zip_nil_right] at hz;cases hz
    |cons c u Qa=>
     rw[Fw] at hz;injection hz with hyx G8;injection hyx with hy hx;subst hy hx;rw[jM] at hR;simp only[f9] at hlen;obtain⟨e,he,G9⟩:=zg7 A.in1 ⟨hp,g,d,tk,os⟩ a t c u;refine aB (he prog w _ _ ?_);cases e with
     |true=>
      rw[if_pos (G9.mp rfl)] at hR
      wp_walk
      exact⟨rfl,rfl,_,_,_,_,G8,P_,Qa,by lia,hR⟩
     |false=>
      rw[if_neg (λq=>absurd (G9.mpr q) Ft)] at hR;have hri:=zhZ A.in1 ⟨hp,g,d,tk,os⟩ a t c u prog w
      wp_walk using hri
      exact⟨_,rfl,by simpa using hR⟩
  case fin=>
   rintro⟨b1,b2⟩ s' ⟨hb',rfl,vs,ws,ns',Dr,hz,P0,K3,hlen,hR⟩;simp only at hb';subst hb';have hv:lexLt ns' Dr=decide (items.size<items2.size):=by
    cases P0 with
    |nil=>
     cases K3 with
     |nil=>
      simp only[CV] at hlen;rw[zcJ];exact(rm (by lia)).symm
     |cons c u hw=>
      simp only[CV,f9] at hlen;rw[zcl];exact(gq (by lia)).symm
    |cons a t hv=>
     cases K3 with
     |nil=>
      simp only[CV,f9] at hlen;rw[zch];exact(rm (by lia)).symm
     |cons c u hw=>
      rw[Fw] at hz;cases hz
   rw[hv] at hR
   wp_walk
   exact⟨_,rfl,by simpa [Builtin.Tuple.tupleCompareSizes] using hR⟩
  case h=>
   exact⟨rfl,rfl,items.toList,items2.toList,ns,ms,rfl,hi,hj,by lia,h⟩
end
section
variable {prog:Program}{w:World}{A:Around}{E:Value->Shared->Prop}{s:Shared}
theorem jN{l b:Addr}{items items2:Array Value}{ns ms:List Int}{Q:Value->Shared->Prop}(hl:IsTup s.heap l items)(hb:IsTup s.heap b items2)(hi:IntsAre items.toList ns)(hj:IntsAre items2.toList ms)
  (hu:A.units<cLine) (h:Q (.bool (lexLt ns ms)) s):wpAny (model prog w) A (compareOp .Lt (.ref l) (.ref b)) Q E s:=by
 obtain⟨⟨cls,dd,data,sl⟩,ho,hc,n,hd⟩:=id hl;obtain⟨⟨cls2,dd2,data2,sl2⟩,pJ,qD,n2,hd2⟩:=id hb;simp only at hc hd qD hd2;subst hc hd qD hd2;exact richCompare_meets_room (op:=.Lt) ⟨_,ho,rfl⟩ ⟨_,pJ,rfl⟩ PySem.F.slot_tuple_lt PySem.F.entry_tuple_lt (PySem.F.args_tuple_lt_2 _ _) (zcL l b items items2 n n2 dd dd2 sl sl2 ns ms hi hj)
  ⟨ho,pJ,show Value.bool (lexLt ns ms)≠Value.notImplemented/\Q (.bool (lexLt ns ms)) s from ⟨(λx=>nomatch x),h⟩⟩ hu
theorem wG{t b:Addr}{vs ws:List Value}{Q:Value->Shared->Prop}(ht:IsTup s.heap t vs.toArray)(hb:IsTup s.heap b ws.toArray)(hv:vs≠[])
  (h1:ws=[]->Q (.ref t) s) (h2:ws≠[]->Q (.ref s.heap.objs.size) {s with heap:=s.heap.push {cls:=.type "tuple",data:=.seq (vs++ws).toArray}})
  (hsz:vs.length+ws.length<=sizeLine):wpAny (model prog w) A (binaryOp .Add (.ref t) (.ref b)) Q E s:=by
 obtain⟨⟨cls,dd,data,sl⟩,ho,hc,n,hd⟩:=id ht;obtain⟨⟨cls2,dd2,data2,sl2⟩,pJ,qD,n2,hd2⟩:=id hb;simp only at hc hd qD hd2;subst hc hd qD hd2;have e:vs.toArray++ws.toArray=(vs++ws).toArray:=by simp
 by_cases hw:ws=[]
 ·exact concat_meets ⟨_,ho,rfl⟩ ⟨_,pJ,rfl⟩ noFill_tuple_add seq_tuple_add N7 N5 (NZ _ _)
   (tuple_addW1 t b vs.toArray ws.toArray n n2 dd dd2 sl sl2 (by simpa using hv) (by simp[hw])) ⟨ho,pJ,h1 hw⟩
 ·refine concat_meets ⟨_,ho,rfl⟩ ⟨_,pJ,rfl⟩ noFill_tuple_add seq_tuple_add N7 N5 (NZ _ _)
   (tuple_addW2 t b vs.toArray ws.toArray n n2 dd dd2 sl sl2 (by simpa using hv) (by simpa using hw) (by rw[fZ,fZ];exact hsz)) ⟨ho,pJ,?_⟩
  rw[e];exact h2 hw
noncomputable def bU(n d:Nat):Option Int->Nat
 |none=>d
 |some v=>if v<0 then (v+(n:Int)).toNat else min v.toNat n
theorem tL(n d:Nat):bU n d none=d:=rfl
theorem wH(n d k:Nat):bU n d (some (k:Int))=min k n:=by
 show (if (k:Int)<0 then ((k:Int)+(n:Int)).toNat else min (k:Int).toNat n)=min k n;rw[if_neg (by lia),nj]
theorem zl7(n d:Nat)(hd:d<=n)(o:Option Int):bU n d o<=n:=by
 cases o with
 |none=>exact hd
 |some v=>
  show (if v<0 then (v+(n:Int)).toNat else min v.toNat n)<=n;by_cases hv:v<0
  ·rw[if_pos hv];lia
  ·rw[if_neg hv];exact Nat.min_le_right _ _
theorem WX(v:Int)(n d:Nat):(if v<0 then max (v+(n:Int)) 0 else min v (n:Int))=((bU n d (some v):Nat):Int):=by
 show (if v<0 then max (v+(n:Int)) 0 else min v (n:Int))=(((if v<0 then (v+(n:Int)).toNat else min v.toNat n):Nat):Int);by_cases hv:v<0
 ·simp only[if_pos hv];lia
 ·simp only[if_neg hv];lia
theorem zfp(lo hi:Option Int)(n:Nat):Builtin.Slice.sliceAdjust lo hi 1 (n:Int)=(((bU n 0 lo:Nat):Int),((bU n n hi:Nat):Int)):=by
 have h1:¬((1:Int)<0):=by lia
 unfold Builtin.Slice.sliceAdjust;simp only[h1,qw];refine Prod.ext ?_ ?_
 ·cases lo with
  |none=>rfl
  |some v=>exact WX v n 0
 ·cases hi with
  |none=>rfl
  |some v=>exact WX v n n
theorem ze0(i j:Nat):Builtin.Slice.slicePlaces (i:Int) (j:Int) 1=j-i:=by
 unfold Builtin.Slice.slicePlaces;have h1:(1:Int)>0:=by lia
 simp only[h1,if_true,Int.ediv_one]
 split<;>lia
theorem Qc{v:Value}{o:Option Int}{Q:Option Int->Shared->Prop}(p:IsPart v o)(h:Q o s):wpAny (model prog w) A (Builtin.Slice.slicePartIndex v) Q E s:=by
 cases p with
 |none=>exact slicePart_none h
 |int i t=>exact slicePart_int h
theorem WY{sl:Addr}{vl vu:Value}{lo hi:Option Int}{n:Nat}{Q:Int×Int×Nat->Shared->Prop}(hs:s.heap.IsSliceOf sl vl vu .none)(pl:IsPart vl lo)(pu:IsPart vu hi)
  (h:Q (((bU n 0 lo:Nat):Int),1,bU n n hi-bU n 0 lo) s):wpAny (model prog w) A (Builtin.Slice.sliceApplied (.ref sl) (pure (n:Int))) Q E s:=by
 obtain⟨os,rD,Ao,vG⟩:=id hs;unfold Builtin.Slice.sliceApplied Builtin.Slice.sliceFields;refine aB (aB (j9 rD vG (x:=vl) rfl (aB (j9 rD vG (x:=vu) rfl (aB (j9 rD vG (x:=.none) rfl (aN ?_)))))));refine aB (slicePart_none ?_);show wpAny _ _ (if ((1:Int)==0)=true then _ else _) _ _ s;rw[if_neg (by decide)];refine aB (Qc pl (aB (Qc pu (aB (aN ?_)))));show wpAny _ _ (match Builtin.Slice.sliceAdjust lo hi 1 (n:Int) with|(lo,hi)=>pure (lo,(1:Int),Builtin.Slice.slicePlaces lo hi 1)) _ _ s;rw[zfp lo hi n];show wpAny _ _ (pure (((bU n 0 lo:Nat):Int),(1:Int),Builtin.Slice.slicePlaces ((bU n 0 lo:Nat):Int) ((bU n n hi:Nat):Int) 1)) _ _ s;rw[ze0];exact aN h
theorem zhc(xs:Array Value)(i k:Nat):((List.range k).filterMap λ(m:Nat)=>xs[((i:Int)+(m:Int)*1).toNat]?).toArray=((xs.toList.drop i).take k).toArray:=by
 have e:(λ(m:Nat)=>xs[((i:Int)+(m:Int)*1).toNat]?)=λm=>xs[i+m]?:=by
  funext m
  have:((i:Int)+(m:Int)*1).toNat=i+m:=by lia
  rw[this]
 rw[e];have:=pick_run xs i k;rw[List.filterMap_map] at this;have e2:((λx=>xs[x]?)∘λx=>i+x)=λm=>xs[i+m]?:=rfl;rw[e2] at this;rw[this]
theorem iy{t sl:Addr}{items:Array Value}{vl vu:Value}{lo hi:Option Int}{Q:Value->Shared->Prop}(ht:IsTup s.heap t items)(hs:s.heap.IsSliceOf sl vl vu .none)(pl:IsPart vl lo)(pu:IsPart vu hi)
  (hw:¬(bU items.size 0 lo=0/\bU items.size items.size hi=items.size))
  (h:Q (.ref s.heap.objs.size) {s with heap:=s.heap.push {cls:=.type "tuple",data:=.seq ((items.toList.drop (bU items.size 0 lo)).take (bU items.size items.size hi-bU items.size 0 lo)).toArray}})
  (hsz:items.size<=sizeLine):wpAny (model prog w) A (getItem (.ref t) (.ref sl)) Q E s:=by
 have iz:sizeOk (.seq ((items.toList.drop (bU items.size 0 lo)).take (bU items.size items.size hi-bU items.size 0 lo)).toArray):=by
  show ((items.toList.drop (bU items.size 0 lo)).take (bU items.size items.size hi-bU items.size 0 lo)).toArray.size<=sizeLine;rw[fZ,yg,List.length_drop,zG]
  lia
 have hj:bU items.size items.size hi<=items.size:=zl7 _ _ (b_ _) hi;obtain⟨os,rD,Ao,vG⟩:=id hs;have G_:s.TypeIs (.ref sl) "slice":=⟨os,rD,Ao⟩;unfold getItem
 try with_reducible refine qu ?_
 first|refine aB (aN ?_)|skip
 refine aB (wpAny_sequenceKey ht.typeIs (by decide) ?_);refine aB (xZ (name:=Str.ofString "__getitem__") ht.typeIs vV
  (vZ vV ht.typeIs entry_tuple_getitem ?_ (args_tuple_getitem _ _)))
 show wpAny _ _ (Builtin.Tuple.tupleItemsOf (.ref t) >>= _) _ _ s;refine aB (tupleItemsOf_ ht ?_);refine aB (FW G_ ?_);rw[if_pos (by decide)];refine aB (WY hs pl pu ?_);have mF:¬((((bU items.size 0 lo:Nat):Int)==0&&(1:Int)==1&&(bU items.size items.size hi-bU items.size 0 lo)==items.size)=true):=by
  intro q;rw[gQ,gQ] at q;have q1:((bU items.size 0 lo:Nat):Int)=0:=eq_of_beq q.1.1;have q2:bU items.size items.size hi-bU items.size 0 lo=items.size:=eq_of_beq q.2;exact hw ⟨by lia,by lia⟩
 show wpAny _ _ (if (((bU items.size 0 lo:Nat):Int)==0&&(1:Int)==1&&(bU items.size items.size hi-bU items.size 0 lo)==items.size)=true then _ else _) _ _ s;rw[if_neg mF,zhc]
 first
  |exact aB (m:=Builtin.Tuple.tupleExact _) (o9 (aN ⟨_,rfl,aN h⟩) iz)
  |exact aB (m:=Builtin.Tuple.tupleExact _) (o9 (aB (aN (aN ⟨_,rfl,aN h⟩))) iz)
  |exact aB (aB (m:=Builtin.Tuple.tupleExact _) (o9 (aN (aN ⟨_,rfl,aN h⟩)) iz))
  |exact aB (aB (m:=Builtin.Tuple.tupleExact _) (o9 (aN ⟨_,rfl,aN h⟩) iz))
end
end HT
namespace L2
open PySem PySem.Spec PyProof.Rows
noncomputable abbrev TO:=St->Hp->(Option Int->Hp->Prop)->Prop
def PO(X:Cx)(e:Option Expr)(t:TO):Prop:=
 ∀(ao:List (Addr×Obj)) (s:Shared) (Z:St) (H:Hp) (Q:Option Int->Hp->Prop),Inv X ao Z H s->t Z H Q->
  wpAny (model X.prog X.w) X.A (evalPart e X.env) (λu s'=>∃o H',Inv X ao Z H' s'/\IsPart u o/\Q o H') X.xe s
noncomputable def wI:TO:=λ_ H Q=>Q none H
noncomputable def Hg(t:TE):TO:=λZ H Q=>t Z H λx H1=>∃i,x=.int i/\Q (some i) H1
theorem W0{ns:List Int}:∀{us:List Value},Vals (ns.map V.int) us->IntsAre us ns:=by
 induction ns with
 |nil=>intro us r;rw[List.map_nil] at r;cases r;exact .nil
 |cons n ns ih=>
  intro us r;rw[gG] at r;cases r with
  |cons r1 r2=>
   obtain⟨t,e⟩:=r1;subst e;exact .cons n t (ih r2)
section
variable {X:Cx}{e:Expr}{te:TE}{lo hi:Option Expr}{tl th:TO}{pos p2:Pos}
theorem ziS:PO X none wI:=by
 intro ao s Z H Q I h;rw[evalPart_none];exact aN ⟨none,H,I,.none,h⟩
theorem zjP(h:PE X e te):PO X (some e) (Hg te):=by
 intro ao s Z H Q I hw;rw[evalPart_some];refine aU (h ao s Z H _ I hw) λu s1 hx=>eU hx λx H1 I1 r1 q1=>?_;obtain⟨i,rfl,q⟩:=q1;obtain⟨t,rfl⟩:=r1;exact⟨some i,H1,I1,.int i t,q⟩
def wJ(X:Cx)(r:V->Option Int->Option Int->Hp->VK->Prop):Prop:=
 ∀(ao:List (Addr×Obj)) (s:Shared) (Z:St) (H:Hp) (x:V) (v vl vu:Value) (lo hi:Option Int) (sl:Addr) (Q:VK),Inv X ao Z H s->RelV x v->s.heap.IsSliceOf sl vl vu .none->IsPart vl lo->IsPart vu hi->r x lo hi H Q->
  ∃T id,typeLookup (.type T) "__getitem__"=pure (some (.builtin id))/\s.TypeIs v T/\wpAny (model X.prog X.w) X.A (getItem v (.ref sl)) (EP X ao Z Q) X.xe s
theorem wJ.or{r r':V->Option Int->Option Int->Hp->VK->Prop}(h:wJ X r)(h':wJ X r'):wJ X (λx lo hi H Q=>r x lo hi H Q\/r' x lo hi H Q):=by
 intro ao s Z H x v vl vu lo hi sl Q I rx hs pl pu q;rcases q with q|q
 ·exact h ao s Z H x v vl vu lo hi sl Q I rx hs pl pu q
 ·exact h' ao s Z H x v vl vu lo hi sl Q I rx hs pl pu q
noncomputable def tSl(r:V->Option Int->Option Int->Hp->VK->Prop)(te:TE)(tl th:TO):TE:=λZ H Q=>te Z H λx H1=>tl Z H1 λl H2=>th Z H2 λu H3=>r x l u H3 Q
theorem zif{r:V->Option Int->Option Int->Hp->VK->Prop}(hr:wJ X r)(he:PE X e te)(hl:PO X lo tl)(hu:PO X hi th):PE X (.Subscript e (.Slice lo hi none p2) pos) (tSl r te tl th):=by
 intro ao s Z H Q I h;refine Subscript_ (aU (he ao s Z H _ I h) λv s1 hx=>eU hx λx H1 I1 r1 q1=>?_);refine wpAny_Slice (aU (hl ao s1 Z H1 _ I1 q1) λvl s2 hx=>eU hx λl H2 I2 pl q2=>aU (hu ao s2 Z H2 _ I2 q2) λvu s3 hx=>eU hx λu H3 I3 pu q3=>?_);rw[evalPart_none];refine aN ?_;have I4:Inv X ao Z H3 {s3 with heap:=s3.heap.push {cls:=.type "slice",data:=.fields #[vl,vu,.none]}}:=I3.kept (t':=s3.toks) λb ob q=>cM _ q;obtain⟨T,id,hT,ht,hg⟩:=hr ao {s3 with heap:=s3.heap.push {cls:=.type "slice",data:=.fields #[vl,vu,.none]}} Z H3 x v vl vu l u s3.heap.objs.size Q I4 r1 (Heap.IsSliceOf.new ..) pl pu q3;show wpAny (model X.prog X.w) X.A (subscriptTail e (.Slice lo hi none p2) v (.ref s3.heap.objs.size)) (EP X ao Z Q) X.xe {s3 with heap:=s3.heap.push {cls:=.type "slice",data:=.fields #[vl,vu,.none]}};exact tail_any (ops:=[.ref s3.heap.objs.size,v]) ht hT hg (by with_unfolding_all rfl)
noncomputable def mH(xs:List V)(lo hi:Option Int):List V:=(xs.drop (HT.bU xs.length 0 lo)).take (HT.bU xs.length xs.length hi-HT.bU xs.length 0 lo)
theorem W2(xs:List V)(lo hi:Option Int):(mH xs lo hi).length<=xs.length:=by
 unfold mH;rw[yg,List.length_drop]
 lia
noncomputable def Qd(K:W.Frag):V->Option Int->Option Int->Hp->VK->Prop:=λx lo hi H Q=>∃a xs,x=.ref a/\gw K H a xs /\
 ¬(HT.bU xs.length 0 lo=0/\HT.bU xs.length xs.length hi=xs.length)/\∀p,H p=none->Q (.ref p) (upd H p (.tup (mH xs lo hi)))
theorem zlu:wJ X (Qd X.K):=by
 intro ao s Z H x v vl vu lo hi sl Q I rx hs pl pu h;obtain⟨a,xs,rfl,hx,hw,q⟩:=h;cases rx;obtain⟨its,r,ht,hz⟩:=I.tuple hx;have hlen:its.toArray.size=xs.length:=by rw[fZ];exact r.length.symm
 refine⟨"tuple",_,vV.lookup,ht.typeIs,?_⟩;refine HT.iy ht hs pl pu (by rw[hlen];exact hw) ?_ (by rw[hlen];exact hz);rw[hlen];refine⟨.ref s.heap.objs.size,_,I.laid (t':=s.toks) (o:=.tup (mH xs lo hi)) (λb ob q=>cM _ q) (b_ _) ?_,rfl,q _ (I.hok.fresh (b_ _))⟩;exact⟨j8 (W2 xs lo hi) hz,_,(r.drop (HT.bU xs.length 0 lo)).take (HT.bU xs.length xs.length hi-HT.bU xs.length 0 lo),IsTup.new _ _⟩
noncomputable def Hj(K:W.Frag):R2:=λx y H Q=>∃a b ns ms,x=.ref a/\y=.ref b/\gw K H a (ns.map V.int)/\gw K H b (ms.map V.int)/\Q (.bl (HT.lexLt ns ms)) H
theorem zmk(hu:X.A.units<cLine):fC X (compareOp .Lt) (Hj X.K):=by
 intro ao s Z H x y v u Q I rx ry h;obtain⟨a,b,ns,ms,rfl,rfl,ha,hb,q⟩:=h;cases rx;cases ry;obtain⟨its,r1,p1,_⟩:=I.tuple ha;obtain⟨its2,r2,p2,_⟩:=I.tuple hb;have i1:IntsAre its.toArray.toList ns:=W0 r1;have i2:IntsAre its2.toArray.toList ms:=W0 r2;exact HT.jN p1 p2 i1 i2 hu ⟨.bl (HT.lexLt ns ms),H,I,rfl,q⟩
theorem Vals.mJ{xs:List V}{us:List Value}(r:Vals xs us):us=[]↔xs=[]:=by
 cases r with
 |nil=>simp
 |cons _ _=>simp
end
noncomputable def rE(n:Nat)(i:Int):Option Nat:=if 0<=i then (if i<n then some i.toNat else none) else if -(n:Int)<=i then some (i+n).toNat else none
noncomputable def qF{α:Type}(xs:List α)(i:Int):Option α:=(rE xs.length i).bind λj=>xs[j]?
theorem W3{n:Nat}{i:Int}{j:Nat}(h:rE n i=some j):seqIndex? i n=some j/\j<n/\-(n:Int)<=i/\i<n:=by
 unfold rE at h;by_cases h0:0<=i
 ·rw[if_pos h0] at h;by_cases h1:i<n
  ·rw[if_pos h1] at h;have e:i.toNat=j:=cL h;exact⟨by rw[seqIndex_of h0 h1,e],by lia,by lia,h1⟩
  ·rw[if_neg h1] at h;cases h
 ·rw[if_neg h0] at h;by_cases h1 : -(n:Int)<=i
  ·rw[if_pos h1] at h;have e:(i+n).toNat=j:=cL h;exact⟨by rw[seqIndex_neg (by lia) h1,e],by lia,h1,by lia⟩
  ·rw[if_neg h1] at h;cases h
theorem Qe{α:Type}{xs:List α}{i:Int}{v:α}(h:qF xs i=some v):∃j,seqIndex? i xs.length=some j/\xs[j]?=some v/\j<xs.length/\-(xs.length:Int)<=i/\i<xs.length:=by
 unfold qF at h;cases e:rE xs.length i with
 |none=>rw[e] at h;cases h
 |some j=>
  rw[e] at h;obtain⟨h1,h2,h3,h4⟩:=W3 e;exact⟨j,h1,h,h2,h3,h4⟩
def qG(b:Expr):Prop:=∀o i,subscripted b false o i=operate [o,i] (getItem o i)
def wK(X:Cx)(r:R2):Prop:=
 ∀(value slice:Expr) (ao:List (Addr×Obj)) (s:Shared) (Z:St) (H:Hp) (x y:V) (v u:Value) (Q:VK),Inv X ao Z H s->RelV x v->RelV y u->r x y H Q->
  subscripted slice false v u=operate [v,u] (getItem v u)->wpAny (model X.prog X.w) X.A (subscriptTail value slice v u) (EP X ao Z Q) X.xe s
def MtR(X:Cx)(id:String)(r:V->List V->Hp->VK->Prop):Prop:=
 ∀(ao:List (Addr×Obj)) (s:Shared) (Z:St) (H:Hp) (x:V) (xs:List V) (v:Value) (us:List Value) (Q:VK),Inv X ao Z H s->RelV x v->Vals xs us->r x xs H Q->
  wpAny (model X.prog X.w) X.A (call (.builtin id) (v::us)) (EP X ao Z Q) X.xe s
section
variable {X:Cx}{a b:Expr}{ta tb:TE}{pos:Pos}
theorem wK.or{r r':R2}(h:wK X r)(h':wK X r'):wK X (λx y H Q=>r x y H Q\/r' x y H Q):=by
 intro value slice ao s Z H x y v u Q I rx ry q hs;rcases q with q|q
 ·exact h value slice ao s Z H x y v u Q I rx ry q hs
 ·exact h' value slice ao s Z H x y v u Q I rx ry q hs
theorem znp{r:R2}(hr:wK X r)(ha:PE X a ta)(hb:PE X b tb)(hs:qG b):PE X (.Subscript a b pos) (KY r ta tb):=by
 intro ao s Z H Q I h;exact Subscript_ (Ah ha hb I h λv u s2 x y H2 I2 rx ry q=>hr a b ao s2 Z H2 x y v u Q I2 rx ry q (hs _ _))
noncomputable def Hl(K:W.Frag):R2:=λx y H Q=>∃p xs i v,x=.ref p/\y=.int i/\cT K H p xs/\qF xs i=some v/\Q v H
noncomputable def Ho(K:W.Frag):R2:=λx y H Q=>∃p xs i v,x=.ref p/\y=.int i/\gw K H p xs/\qF xs i=some v/\Q v H
noncomputable def Hq:R2:=λx y H Q=>∃z i c,x=.str z/\y=.int i/\z.length<=sizeLine/\qF z.cps.toList i=some c/\Q (.str ⟨#[c]⟩) H
theorem wL:wK X (Hl X.K):=by
 intro value slice ao s Z H x y v u Q I rx ry h hs;obtain⟨p,xs,i,z,rfl,rfl,hq,he,q⟩:=h;cases rx;obtain⟨t,rfl⟩:=ry;obtain⟨its,r,pl,hz⟩:=I.list hq;obtain⟨j,h1,h2,h3,h4,h5⟩:=Qe he;obtain⟨w,ew,mK⟩:=r.get h2;have hl:=r.length;have hn:=iY;have fin:EP X ao Z Q w s:=⟨z,H,I,mK,q⟩;by_cases h0:0<=i
 ·have hj:i.toNat=j:=by
   rw[seqIndex_of h0 h5] at h1;exact cL h1
  exact item_listR pl.isList h0 (by lia) (by rw[hj];simpa using ew) fin hs
 ·have hj:(i+(its.toArray.size:Int)).toNat=j:=by
   rw[seqIndex_neg (by lia) h4] at h1;rw[fZ,<-hl];exact cL h1
  exact subscriptTail_builtinR (x:=w) pl.isList.typeIs slot_list_getitem.lookup
   (wpAny_getItem_list_neg (Q:=λr s'=>r=w/\EP X ao Z Q r s') pl.isList (by lia) (by rw[fZ]<;>lia) (by lia) (by rw[hj];simpa using ew) ⟨rfl,fin⟩) hs
theorem Aq:wK X (Ho X.K):=by
 intro value slice ao s Z H x y v u Q I rx ry h hs;obtain⟨p,xs,i,z,rfl,rfl,hq,he,q⟩:=h;cases rx;obtain⟨t,rfl⟩:=ry;obtain⟨its,r,pl,hz⟩:=I.tuple hq;obtain⟨j,h1,h2,h3,h4,h5⟩:=Qe he;obtain⟨w,ew,mK⟩:=r.get h2;have hl:=r.length;have hn:=iY;have fin:EP X ao Z Q w s:=⟨z,H,I,mK,q⟩;exact subscriptTail_builtinR (x:=w) pl.typeIs slot_tuple_getitem.lookup
  (getItem_tuple (j:=j) (Q:=λr s'=>r=w/\EP X ao Z Q r s') pl (by lia) (by lia) (by rw[fZ,<-hl];exact h1) (by simpa using ew) ⟨rfl,fin⟩) hs
theorem zlM:wK X Hq:=by
 intro value slice ao s Z H x y v u Q I rx ry h hs;obtain⟨z,i,c,rfl,rfl,hz,he,q⟩:=h;obtain⟨t,rfl⟩:=rx;obtain⟨t',rfl⟩:=ry;obtain⟨j,h1,h2,h3,h4,h5⟩:=Qe he;have hl:z.cps.toList.length=z.length:=by simp[Str.length]
 rw[hl] at h1 h4 h5;have hn:=iY;exact tail_any (typeIs_str s z t) slot_str_getitem.lookup (getItem_str (c:=c) (by
  have e1:decide (i < -(2^63:Int))=false:=rm (by lia);have e2:decide (i>=2^63)=false:=rm (by lia);rw[e1,e2,Bool.or_false]) (by rw[h1];simpa using h2) ⟨.str ⟨#[c]⟩,H,I.tok _,⟨_,rfl⟩,q⟩) hs
noncomputable def Qf(K:W.Frag):R2:=λx y H Q=>Hl K x y H Q\/Ho K x y H Q\/Hq x y H Q
theorem zmh:wK X (Qf X.K):=wL.or (Aq.or zlM)
theorem ze5(its:List Value)(n j:Nat)(u:Value):Obj.mapSeq (·.setIfInBounds j u) {cls:=.type "list",data:=.seq its.toArray n}={cls:=.type "list",data:=.seq (its.set j u).toArray n}:=by
 simp[Obj.mapSeq]
theorem Inv.lst{ao:List (Addr×Obj)}{Z:St}{H:Hp}{s:Shared}{p:Addr}{xs:List V}(I:Inv X ao Z H s)(h:H p=some (.lst xs)) :
  ∃(its:List Value) (n:Nat),Vals xs its/\s.heap.get? p=some {cls:=.type "list",data:=.seq its.toArray n}/\xs.length<=sizeLine:=by
 obtain⟨z,its,n,r,e⟩:=I.hok p _ h;exact⟨its,n,r,e,z⟩
theorem Inv.Ar{ao:List (Addr×Obj)}{Z:St}{H:Hp}{s:Shared}{p:Addr}{xs ys:List V}{its its':List Value}{n n':Nat}{f:Obj->Obj}(I:Inv X ao Z H s)(h:H p=some (.lst xs))
  (ho:s.heap.get? p=some {cls:=.type "list",data:=.seq its.toArray n}) (hf:f {cls:=.type "list",data:=.seq its.toArray n}={cls:=.type "list",data:=.seq its'.toArray n'}) (r:Vals ys its') (hz:ys.length<=sizeLine) (t:Nat) :
  Inv X ao Z (upd H p (.lst ys)) {s with heap:=s.heap.update p f,toks:=t}:=by
 have e:(s.heap.update p f).get? p=some {cls:=.type "list",data:=.seq its'.toArray n'}:=by
  rw[zB f ho (by rw[hf]<;>rfl),hf]
 refine I.write (x:=p) (e:=p) (by rw[h];trivial) (.inl rfl) (λb u hb q=>(vX _ _ (Ne.symm hb)).trans q) ⟨_,e⟩ ?_;exact⟨hz,its',n',r,e⟩
noncomputable def Hr:V->V->V->Hp->(Hp->Prop)->Prop:=λo i v H Q=>∃p xs k j,o=.ref p/\i=.int k/\H p=some (.lst xs)/\rE xs.length k=some j/\Q (upd H p (.lst (xs.set j v)))
theorem zic:Gz X Hr:=by
 intro ao s Z H o i v ov iv u Q I ro ri rv h;obtain⟨p,xs,k,j,rfl,rfl,hp,hj,q⟩:=h;cases ro;obtain⟨t,rfl⟩:=ri;obtain⟨its,n,r,ho,hz⟩:=I.lst hp;obtain⟨h1,h2,h3,h4⟩:=W3 hj;have hl:=r.length;have hn:=iY;have I':Inv X ao Z (upd H p (.lst (xs.set j v))) {s with heap:=s.heap.update p (Obj.mapSeq (·.setIfInBounds j u))}:=
  I.Ar hp ho (ze5 its n j u) (r.set rv j) (by rw[pA];exact hz) s.toks
 by_cases h0:0<=k
 ·have hk:k.toNat=j:=by
   rw[seqIndex_of h0 h4] at h1;exact cL h1
  exact PySem.W.ki_setAt ho h0 (by lia) (by rw[fZ,<-hl];exact h4) (by rw[hk];exact⟨_,I',q⟩)
 ·have hk:(k+(its.toArray.size:Int)).toNat=j:=by
   rw[seqIndex_neg (by lia) h3] at h1;rw[fZ,<-hl];exact cL h1
  exact PySem.W.ki_setBack ho (by lia) (by rw[fZ,<-hl];exact h3) (by lia) (by rw[hk];exact⟨_,I',q⟩)
theorem zdE(lo hi:Option Int)(n:Nat):(sliceBounds lo hi none n).1=((HT.bU n 0 lo:Nat):Int)/\(sliceBounds lo hi none n).2.1=((HT.bU n n hi:Nat):Int)/\(sliceBounds lo hi none n).2.2=1:=by
 refine⟨?_,?_,rfl⟩
 ·cases lo with
  |none=>simp[sliceBounds,HT.bU]
  |some i=>
   simp only[sliceBounds,HT.bU,Option.getD_none,show (1:Int)>0 by decide,if_true];by_cases h:i<0
   ·simp only[h,if_true]<;>lia
   ·simp only[h,qw]<;>lia
 ·cases hi with
  |none=>simp[sliceBounds,HT.bU]
  |some i=>
   simp only[sliceBounds,HT.bU,Option.getD_none,show (1:Int)>0 by decide,if_true];by_cases h:i<0
   ·simp only[h,if_true]<;>lia
   ·simp only[h,qw]<;>lia
theorem zcU(its:List Value)(lo hi:Option Int):slicePick its.toArray lo hi none=((its.drop (HT.bU its.length 0 lo)).take (HT.bU its.length its.length hi-HT.bU its.length 0 lo)).toArray:=by
 obtain⟨h1,h2,h3⟩:=zdE lo hi its.toArray.size;unfold slicePick;rw[h1,h2,h3];simp only[sliceRange_one,pick_run,fZ]<;>rfl
noncomputable def Hs(K:W.Frag):V->Option Int->Option Int->Hp->VK->Prop:=λx lo hi H Q=>∃a xs,x=.ref a/\cT K H a xs/\∀p,H p=none->Q (.ref p) (upd H p (.lst (mH xs lo hi)))
theorem wM:wJ X (Hs X.K):=by
 intro ao s Z H x v vl vu lo hi sl Q I rx hs pl pu h;obtain⟨a,xs,rfl,hx,q⟩:=h;cases rx;obtain⟨its,r,ht,hz⟩:=I.list hx;have hlen:=r.length;refine⟨"list",_,slot_list_getitem.lookup,ht.isList.typeIs,?_⟩;refine wpAny_getItem_list_slice ht.isList hs pl pu .none (by simp) ?_ (by rw[fZ]<;>lia);rw[zcU,<-hlen];refine⟨.ref s.heap.objs.size,_,I.laid (t':=s.toks) (o:=.lst (mH xs lo hi)) (λb ob q=>cM _ q) (b_ _) ?_,rfl,q _ (I.hok.fresh (b_ _))⟩;exact⟨j8 (W2 xs lo hi) hz,_,0,(r.drop (HT.bU xs.length 0 lo)).take (HT.bU xs.length xs.length hi-HT.bU xs.length 0 lo),fL _ rfl⟩
theorem zdD:cO X (.builtin "len") (λxs H Q=>∃p ys,xs=[.ref p]/\(cT X.K H p ys\/gw X.K H p ys)/\Q (.int ys.length) H):=by
 intro ao s Z H xs us Q I r h;obtain⟨p,ys,rfl,hq,q⟩:=h;obtain⟨u,rfl,rx⟩:=vals1 r;cases rx;have hn:=iY;rcases hq with hq|hq
 ·obtain⟨its,r',pl,hz⟩:=I.list hq;have hlen:=r'.length;exact Calls.call_len_list pl.isList (by simp only[fZ]<;>lia) ⟨.int ys.length,H,I.tok _,⟨s.toks+1,by rw[fZ,hlen]⟩,q⟩
 ·obtain⟨its,r',pl,hz⟩:=I.tuple hq;have hlen:=r'.length;exact len_tuple pl (by simp only[fZ]<;>lia) ⟨.int ys.length,H,I.tok _,⟨s.toks+1,by rw[fZ,hlen]⟩,q⟩
theorem zdd:cO X (.type "list") (λxs H Q=>∃p ys,xs=[.ref p]/\(cT X.K H p ys\/gw X.K H p ys)/\∀l,H l=none->Q (.ref l) (upd H l (.lst ys))):=by
 intro ao s Z H xs us Q I r h;obtain⟨p,ys,rfl,hq,q⟩:=h;obtain⟨u,rfl,rx⟩:=vals1 r;cases rx;have fin:∀(its:List Value),Vals ys its->ys.length<=sizeLine->∀(h':Heap) (c':Nat),(∀b o',s.heap.get? b=some o'->h'.get? b=some o')->
   h'.get? s.heap.objs.size=some {cls:=.type "list",dict:=none,data:=.seq its.toArray c',slots:=#[]}->EP X ao Z Q (.ref s.heap.objs.size) {s with heap:=h'}:=λits r' hz h' c' kp e=>
  ⟨.ref s.heap.objs.size,_,I.laid (t':=s.toks) kp (b_ _) (show bM X.prog X.w _ h' _ (.lst ys) from ⟨hz,its,c',r',e⟩),rfl,q _ (I.hok.fresh (b_ _))⟩
 rcases hq with hq|hq
 ·obtain⟨its,r',pl,hz⟩:=I.list hq;have hlen:=r'.length;obtain⟨o,ho,hc,n,hd⟩:=pl.isList;exact call_list_seq p (.inl rfl) ho hc hd (λh' c' kp e=>fin its r' hz h' c' kp e) (by simp only[fZ]<;>lia)
 ·obtain⟨its,r',pl,hz⟩:=I.tuple hq;have hlen:=r'.length;obtain⟨o,ho,hc,n,hd⟩:=pl;exact call_list_seq p (.inr rfl) ho hc hd (λh' c' kp e=>fin its r' hz h' c' kp e) (by simp only[fZ]<;>lia)
theorem zcQ:cO X (.type "tuple") (λxs H Q=>∃p ys,xs=[.ref p]/\((cT X.K H p ys/\∀l,H l=none->Q (.ref l) (upd H l (.tup ys)))\/(gw X.K H p ys/\Q (.ref p) H))):=by
 intro ao s Z H xs us Q I r h;obtain⟨p,ys,rfl,h⟩:=h;obtain⟨u,rfl,rx⟩:=vals1 r;cases rx;rcases h with ⟨hq,q⟩|⟨hq,q⟩
 ·obtain⟨its,r',pl,hz⟩:=I.list hq;have hlen:=r'.length;refine call_tuple_list pl.isList (λh' kp=>?_) (by simp only[fZ]<;>lia);have I1:Inv X ao Z H {s with heap:=h'}:=I.kept (t':=s.toks) kp;have I2:Inv X ao Z (upd H h'.objs.size (.tup ys)) {s with heap:=h'.push {cls:=.type "tuple",data:=.seq its.toArray}}:=
   I1.laid (t':=s.toks) (λb o e=>cM _ e) (b_ _) (show bM X.prog X.w _ _ _ (.tup ys) from ⟨hz,its,r',IsTup.new _ _⟩)
  exact⟨.ref h'.objs.size,_,I2,rfl,q _ (I1.hok.fresh (b_ _))⟩
 ·obtain⟨its,r',pl,hz⟩:=I.tuple hq;exact call_tuple_same pl ⟨.ref p,H,I,rfl,q⟩
def W4(K:W.Frag)(T:String)(x:V)(H:Hp):Prop:=match x with
 |.str _=>T="str"
 |.int _=>T="int"
 |.ref p=>(T="list"/\∃xs,cT K H p xs)\/(T="tuple"/\∃o,K.lookup p=some o/\o.cls=.type "tuple"/\o.dict=none) \/
   (T="dict"/\((∃kvs,H p=some (.dK kvs))\/∃kvs,H p=some (.dT kvs)))\/(T="set"/\∃S n,H p=some (.set S n))
 |_=>False
theorem zlV{ao:List (Addr×Obj)}{Z:St}{H:Hp}{s:Shared}{T:String}{x:V}{v:Value}(I:Inv X ao Z H s)(r:RelV x v)(ty:W4 X.K T x H) :
  s.TypeIs v T/\∀a,v=.ref a->∃ob,s.heap.get? a=some ob/\ob.dict=none:=by
 cases x with
 |str z=>
  obtain⟨t,rfl⟩:=r;cases (show T="str" from ty);exact⟨typeIs_str s z t,λ_ e=>nomatch e⟩
 |int i=>
  obtain⟨t,rfl⟩:=r;cases (show T="int" from ty);exact⟨typeIs_int s i t,λ_ e=>nomatch e⟩
 |ref p=>
  cases r;rcases ty with ⟨rfl,xs,hq⟩|⟨rfl,o,hk,hc,hd⟩|⟨rfl,hk⟩|⟨rfl,S,n,hk⟩
  ·obtain⟨its,_,pl,_⟩:=I.list hq;refine⟨pl.isList.typeIs,λa e=>?_⟩;cases e;obtain⟨o,n,e,c,hd,_⟩:=pl;exact⟨o,e,hd⟩
  ·refine⟨⟨o,I.nM p o hk,hc⟩,λa e=>?_⟩;cases e;exact⟨o,I.nM _ o hk,hd⟩
  ·have z:∃o,s.heap.get? p=some o/\o.ExactDict:=by
    rcases hk with ⟨kvs,hk⟩|⟨kvs,hk⟩
    ·obtain⟨_,_,_,_,o,_,_,e,ex,_⟩:=I.hok p _ hk;exact⟨o,e,ex⟩
    ·obtain⟨_,_,_,_,o,_,_,e,ex,_⟩:=I.hok p _ hk;exact⟨o,e,ex⟩
   obtain⟨o,e,ex⟩:=z;refine⟨⟨o,e,ex.1⟩,λa e2=>?_⟩;cases e2;exact⟨o,e,ex.2.1⟩
  ·obtain⟨o,_,_,_,e,ex,_⟩:=I.hok p _ hk;refine⟨⟨o,e,ex.1⟩,λa e2=>?_⟩;cases e2;exact⟨o,e,ex.2.1⟩
 |_=>exact False.elim ty
noncomputable def tBM(K:W.Frag)(T:String)(r:V->List V->Hp->VK->Prop)(to:TE)(t:TA):TE:=λZ H Q=>to Z H λx H1=>W4 K T x H1/\t Z H1 λxs H2=>r x xs H2 Q
variable {o e:Expr}{es:List Expr}{to:TE}{t:TA}{name:Str}{apos cpos:Pos}{T id:String}{r:V->List V->Hp->VK->Prop}
theorem znJ(pa:PlainAttrs T)(slot:Slot T name id)(hty:typeOf (.builtin id)=pure (.type "method_descriptor"))(hm:MtR X id r)(ho:PE X o to)(ha:PA X (e::es) t)
  (nU:attributeBase o name X.env (eval o X.env)=eval o X.env:=by rfl)
  (Av:((backTo cpos (starEach (e::es) X.env)).all (λx=>!x.1)&&(backToKw cpos (keywordEach [] X.env)).all (λx=>x.1.isSome)
  &&decide ((e::es).length+([]:List Keyword).length+(if ([]:List Keyword).isEmpty then 0 else 1)<30))=true:=by rfl)
  (nW:(apos.endLine==cpos.line)=true:=by rfl) (hs:starEach (e::es) X.env=(false,eval e X.env)::starEach es X.env:=by rfl) (pK:(backTo cpos (starEach es X.env)).any (·.1)=false:=by rfl) :
  PE X (.Call (.Attribute o name apos) (e::es) [] cpos) (tBM X.K T r to t):=by
 intro ao s Z H Q I h;refine wpAny_Call_method_late nU Av nW rfl (aU (ho ao s Z H _ I h) λv s1 ⟨x,H1,I1,r1,ty,q1⟩=>?_);obtain⟨h1,h2⟩:=zlV I1 r1 ty;refine⟨T,id,pa,slot,hty,h1,h2,?_⟩;have hA:=ha cpos ao s1 Z H1 _ I1 q1;rw[hs] at hA ⊢;refine Calls.callWith_builtin (by show (false||(backTo cpos (starEach es X.env)).any (·.1))=false;rw[pK]<;>rfl) (Calls.evalArgs_plain ?_);exact aU hA λus s2 hx=>eU hx λvs H2 I2 r2 q2=>hm ao s2 Z H2 x vs v us Q I2 r1 r2 q2
end
def MtM(X:Cx)(id:String)(r:V->List V->Hp->VK->Prop):Prop:=
 ∀(ao:List (Addr×Obj)) (s:Shared) (Z:St) (H:Hp) (x:V) (xs:List V) (v:Value) (us:List Value) (Q:VK),Inv X ao Z H s->RelV x v->Vals xs us->r x xs H Q->
  wpAny (model X.prog X.w) X.A (call (.builtin id) (v::us)) (EP X ao Z Q) X.xe s
theorem Vals.one{x:V}{us:List Value}(h:Vals [x] us):∃u,us=[u]/\RelV x u:=by
 cases h with
 |cons r t=>cases t;exact⟨_,rfl,r⟩
theorem Vals.two{x y:V}{us:List Value}(h:Vals [x,y] us):∃u v,us=[u,v]/\RelV x u/\RelV y v:=by
 cases h with
 |cons r t=>
  obtain⟨v,rfl,q⟩:=Vals.one t;exact⟨_,_,rfl,r,q⟩
section
variable {X:Cx}{ao:List (Addr×Obj)}{Z:St}{H:Hp}{s:Shared}{l b:Addr}{xs ys zs:List V}
theorem Inv.Qg{its its':List Value}{n:Nat}{f:Array Value->Array Value}{t':Nat}(I:Inv X ao Z H s)(hH:H l=some (.lst xs))
  (e:s.heap.get? l=some {cls:=.type "list",data:=.seq its.toArray n}) (hf:f its.toArray=its'.toArray) (hv:Vals ys its') (hz:ys.length<=sizeLine) :
  Inv X ao Z (upd H l (.lst ys)) {s with heap:=s.heap.update l (Obj.mapSeq f),toks:=t'}:=by
 have q:=PySem.IsL.update e f;rw[hf] at q;refine I.write (x:=l) (e:=l) (by rw[hH];exact trivial) (.inl rfl) (λb' u hb hu=>(vX s.heap (Obj.mapSeq f) (Ne.symm hb)).trans hu) ⟨_,q⟩ ?_;exact⟨hz,its',_,hv,q⟩
theorem Inv.Qh{its:List Value}{t':Nat}(I:Inv X ao Z H s)(hv:Vals ys its)(hz:ys.length<=sizeLine) :
  Inv X ao Z (upd H s.heap.objs.size (.lst ys)) {s with heap:=s.heap.push {cls:=.type "list",data:=.seq its.toArray},toks:=t'}:=
 I.laid (λ_ _ q=>cM _ q) (b_ _) ⟨hz,its,0,hv,fL _ rfl⟩
theorem Inv.fresh(I:Inv X ao Z H s):H s.heap.objs.size=none:=I.hok.fresh (b_ _)
theorem Inv.Qi(I:Inv X ao Z H s)(hH:H l=some (.lst xs)):xs.length<=sizeLine/\∃(its:List Value) (n:Nat),Vals xs its/\xs.length=its.length/\s.heap.get? l=some {cls:=.type "list",data:=.seq its.toArray n}:=by
 obtain⟨z,its,n,r,e⟩:=I.hok l _ hH;exact⟨z,its,n,r,r.length,e⟩
end
section
variable {X:Cx}
noncomputable def wN:V->List V->Hp->VK->Prop:=λx vs H Q=>∃l xs y,x=.ref l/\vs=[y]/\H l=some (.lst xs)/\xs.length<sizeLine/\Q .non (upd H l (.lst (xs++[y])))
theorem Qj:MtM X "list.append" wN:=by
 intro ao s Z H x vs v us Q I rx rv h;obtain⟨l,xs,y,rfl,rfl,hH,hz,q⟩:=h;cases rx;obtain⟨u,rfl,ru⟩:=rv.one;obtain⟨z,its,n,r,hl,e⟩:=I.Qi hH;refine call_meets F.slot_list_append ⟨_,e,rfl⟩ F.entry_list_append (F.args_list_append_2 _ _) (PySem.list_append l its.toArray n u (by rw[fZ];lia)) ⟨e,?_⟩;refine⟨.non,_,I.Qg (its':=its++[u]) hH e (by simp) (r.append (.cons ru .nil)) ?_,rfl,q⟩;rw[lD,List.length_singleton]
 lia
end
section
variable {prog:Program}{w:World}{A:Around}{E:Value->Shared->Prop}{s:Shared}
set_option maxRecDepth 100000 in
end
section
variable {X:Cx}
end
end L2
namespace W5
open PySem PySem.W PySem.Calls PyProof.Rows
theorem zcc{P:Params}{h:Heap}:∀(ns:List Int) (vs:List Value),WellAll P h vs (ns.map WData.int)->IntsAre vs ns:=by
 intro ns
 induction ns with
 |nil=>
  intro vs w;rw[List.map_nil] at w;cases w;exact .nil
 |cons n ns ih=>
  intro vs w;rw[gG] at w;cases w with
  |cons a b=>
   cases a;exact .cons _ _ (ih _ b)
theorem zfu{l:OpenLaw}{n:Nat}(hn:l.most=some n){P:Params}{h:Heap}{args:List WData}{vals:List Value}
  (hpre:l.row.toRowW.claim.pre args=true) (Qk:WellAll P h vals args) :
  ∃a vs ns,vals=[Value.ref a]/\args=[WData.list (ns.map WData.int)]/\h.get? a=some {cls:=.type "list",data:=.seq vs.toArray}/\IntsAre vs ns/\ns.length<=n:=by
 have hsh:WShape.hasAll [] args [.list .int]=true:=(pre_splitW hpre).1;have hc:l.pre.holds [] {args:=args}=true:=(pre_splitW hpre).2;obtain⟨d,r,rfl,h1,h2⟩:=hasAllW_cons hsh;obtain rfl:=hasAllW_nil h2;obtain⟨xs,rfl,h3⟩:=hasW_list h1;obtain⟨ns,rfl⟩:=items_int h3;have hlen:ns.length<=n:=by
  unfold OpenLaw.pre at hc;have h4:(WTm.not (.lt (.lit (.int (n:Int))) (.len (.arg 0)))).holds [] {args:=[.list (ns.map .int)]}=true:=by
   have h4:=(holds_andW hc).1;rw[hn] at h4;exact h4
  have h5:=condW_of h4 (w_not (w_lt w_lit (w_len_list (w_arg rfl))));rw[cR] at h5;refine Kl λq=>?_;have q':(n:Int)<((ns.length:Nat):Int):=by lia
  first
   |(rw[gq q'] at h5;exact absurd h5 (by decide))
   |(simp at h5;lia)
 cases Qk with
 |cons w1 w2=>
  cases w2;cases w1 with
  |list ho pL=>exact⟨_,_,ns,rfl,rfl,ho,zcc ns _ pL,hlen⟩
theorem zfQ(l:OpenLaw)(args:List WData):l.row.toRowW.claim.post args (.bool true) args=true:=
 postW_of (r:=l.row.toRowW) (X:=(true==true))
  (show WShape.has [] (.bool true) .bool=true by first|rfl|decide|simp[WShape.has,WShape.arms,WShape.armsAll])
  (show (WTm.eq .res (.lit (.bool true))).value [] {args:=args,res:=some (.bool true),after:=args}=some (.bool (true==true)) from w_eq_bool (w_res rfl) w_lit) rfl
theorem nY{l:OpenLaw}{n:Nat}{q:Program}{loose:List Str}{XP:(Str->Option Value)->Heap->Prop}{YP:World->Heap->Prop}{d:DefRec}
  (hn:l.most=some n) (Ql:d.params.defaults=[])
  (call:∀(w:World) (s₀ s₁:Shared) (mg mb:Str->Option Value) (fa:Addr) (o:Obj) (pm cd doc:Value) (a:Addr) (vs:List Value) (ns:List Int),
   Ground q loose [] XP w s₀ mg mb s₁.heap->YP w s₁.heap->
   s₁.heap.get? fa=some o->o.data=.func (docDef d.name d.params d.body d.scope pm cd doc)->s₁.heap.CodeRec cd d.name->mg d.name=some (.ref fa)->
   s₁.heap.get? a=some {cls:=.type "list",data:=.seq vs.toArray}->IntsAre vs ns->ns.length<=n->s₁.gens=#[]->
   codeAny (model l.prog w) callerA (.call (.ref fa) ⟨[.ref a],[]⟩) (λr s'=>r=.ok (.ret (.bool true))/\OldK s₁.heap s'.heap/\s'.os=s₁.os/\AllBare s'.gens) s₁) :
  WalkO q loose XP YP l.row.toRowW d [] (λf vs=>PySem.call f vs):=by
 intro w s₀ s₁ mg mb G Y fa o pm cd doc dV kV ho hd j_ hD hmg hg args vals as hpre aad hrd Qk hlo;obtain rfl:dV=.none:=Dflts.none hD Ql;obtain rfl:kV=.none:=Dflts.noKw hD;obtain⟨a,vs,ns,rfl,rfl,Aw,hints,hlen⟩:=zfu hn hpre Qk;refine enter_call (zR (call w s₀ s₁ mg mb fa o pm cd doc a vs ns G Y ho (fd_plain hd) j_ hmg Aw hints hlen hg) λr s' hq=>?_);obtain⟨rfl,h2,h3,h4⟩:=hq;exact⟨.inl ⟨.bool true,.bool true,[],rfl,λ_=>rfl,.bool true,zfQ l _,λ_=>⟨List.Pairwise.nil,λ_ hm=>(nomatch hm)⟩⟩,h2,h3,h4⟩
section
variable {prog:Program}{w:World}{A:Around}{E:Value->Shared->Prop}{s:Shared}{K:Frag}
end
end W5
namespace L2
open PySem PySem.Spec PyProof.Rows
theorem W6:∀{vs:List Value} {ns:List Int},IntsAre vs ns->Vals (ns.map V.int) vs
 |_,_,.nil=>.nil
 |_,_,.cons n t h=>.cons ⟨t,rfl⟩ (W6 h)
def Only(H:Hp):Prop:=∀b,H b=none\/∃o xs,H b=some (.vq o (.lst xs))
theorem zg2{P:Program}{w:World}{K:W.Frag}{mg mb:Str->Option Value}{CX:sE}{k:Nat}{fa a:Addr}{fd:FuncData}{x:Str}{sp:Sp}{s₁:Shared}{vs:List Value}{ns:List Int}
  (KX:K.In s₁.heap) (W7:s₁.heap.Ns mainGlobals mg) (hb:s₁.heap.Ns builtinsNs mb) (hbb:∀x:Str,x≠"__name__"->mb x=bootBuiltins x) (Qm:s₁.heap.NoLimit) (hg:s₁.gens=#[])
  (ha:s₁.heap.get? a=some {cls:=.type "list",data:=.seq vs.toArray}) (hi:IntsAre vs ns) (hl:ns.length<=sizeLine) (hr:bF k callerA)
  (F:∀base:Heap,K.In base->base.Ns mainGlobals mg->cD P w K mg base CX true k fa fd [x] sp) (Ht:∀(s:Shared) (u:Value),BindsTo s fd ⟨[u],[]⟩ [(x,u)])
  (K1:∀H:Hp,Only H->cT K H a (ns.map V.int)->sp [.ref a] H (λv _=>v=.bl true) λ_ _ _=>False)
  (hCX:∀H e s',CX [] H s₁ (λ_ _ _=>False) e s'->False) :
  codeAny (model P w) callerA (.call (.ref fa) ⟨[.ref a],[]⟩) (λr s'=>r=.ok (.ret (.bool true))/\OldK s₁.heap s'.heap/\s'.os=s₁.os/\AllBare s'.gens) s₁:=by
 have rv:=W6 hi;have lenV:=hi.length;have core:∀H:Hp,Only H->cT K H a (ns.map V.int)->iQ P w H s₁.heap->(∀b,H b≠none->b=a)->(H a≠none->K.lookup a=none)->
   codeAny (model P w) callerA (.call (.ref fa) ⟨[.ref a],[]⟩) (λr s'=>r=.ok (.ret (.bool true))/\OldK s₁.heap s'.heap/\s'.os=s₁.os/\AllBare s'.gens) s₁:=by
  intro H hO hS hok hA hK;have qH:∀{b:Addr} {o:Obj},s₁.heap.get? b=some o->H b=none->(mz s₁.heap H).get? b=some o:=λe n=>zhj e n;have G5:∀{b:Addr} {o:Obj} {es:Array DictEntry} {ep:Nat},s₁.heap.get? b=some o->o.data=.dict es ep->H b=none:=λ{b o es ep} e d=>by
   cases q:H b with
   |none=>rfl
   |some u=>
    have e':b=a:=hA b (by rw[q];simp);subst e';rw[ha] at e;cases e;have d':Data.seq vs.toArray _=Data.dict es ep:=d;cases d'
  have K4:∀{b:Addr} {m:Str->Option Value},s₁.heap.Ns b m->(mz s₁.heap H).Ns b m:=λ{b m} ⟨o,es,ep,e,d,r⟩=>⟨o,es,ep,qH e (G5 e d),d,r⟩;have W8:K.In (mz s₁.heap H):=λb o e=>qH (KX b o e) (by
   cases q:H b with
   |none=>rfl
   |some u=>
    have e':b=a:=hA b (by rw[q];simp);subst e';rw[hK (by rw[q];simp)] at e;cases e)
  have hM:Mod K mg (mz s₁.heap H):=⟨W8,K4 W7,⟨mb,K4 hb,hbb⟩,let ⟨mc,h1,h2⟩:=Qm;⟨mc,K4 h1,h2⟩⟩;have e0:pI P w K mg (mz s₁.heap H) callerA [] s₁ H:=⟨rfl,hM,λb o e=>zjS e,Nat.le_of_eq (zgD _ _),trivial,λb hb=>absurd (show b∈([]:List Addr) from hb) (by simp),hok,.of_eq hg⟩;refine zR ((F _ W8 (K4 W7)).run callerA [] s₁ H ⟨[.ref a],[]⟩ [.ref a] [.ref a] _ _ (λ_=>rfl) hr e0 (Ht s₁ (.ref a)) (.cons rfl .nil) (K1 H hO hS)) λr s' h=>?_;cases r with
  |error e=>exact(hCX H e s' h).elim
  |ok fl=>
   cases fl with
   |next=>exact False.elim h
   |brk=>exact False.elim h
   |cont=>exact False.elim h
   |ret u=>
    obtain⟨v,H',os,bare,un,Qn,r',q⟩:=h;have q':v=.bl true:=q;subst q';obtain rfl:u=Value.bool true:=r';refine⟨rfl,OldK.of_keep λb o e=>?_,os,bare⟩;cases q:H b with
    |none=>exact un.keep b o e q (by intro z;exact absurd (show b∈([]:List Addr) from z) (by simp)) (by simp)
    |some u=>
     rcases hO b with z|⟨ob,xs,z⟩
     ·rw[q] at z;cases z
     ·have z2:=un.kY b ob _ z;obtain⟨e1,_⟩:=hok b _ z;obtain⟨e2,_⟩:=Qn b _ z2;rw[e] at e1;cases e1;exact e2
 cases hk:K.lookup a with
 |some o=>
  have e:=KX a o hk;rw[ha] at e;cases e;refine core (λ_=>none) (λ_=>.inl rfl) (.inr ⟨_,vs.toArray,_,hk,rfl,rfl,rfl,by rw[fZ,lenV];exact hl,by simpa using rv⟩) (λb u z=>by have z':(none:Option HO)=some u:=z;cases z') (λb z=>absurd rfl z) λz=>absurd rfl z
 |none=>
  refine core (λb=>if b=a then some (.vq {cls:=.type "list",data:=.seq vs.toArray} (.lst (ns.map V.int))) else none) (λb=>?_) (.inl (.inr ⟨{cls:=.type "list",data:=.seq vs.toArray},if_pos rfl⟩)) (λb u z=>?_) (λb z=>?_) λ_=>hk
  ·by_cases hb:b=a
   ·exact .inr ⟨_,_,if_pos hb⟩
   ·exact .inl (if_neg hb)
  ·by_cases hb:b=a
   ·have z':=(if_pos hb).symm.trans z;cases z';subst hb;exact⟨ha,by rw[cR];exact hl,vs,_,rv,ha⟩
   ·have z':=(if_neg hb).symm.trans z;cases z'
  ·by_cases hb:b=a
   ·exact hb
   ·exact absurd (if_neg hb) z
def Qo(h0:Heap)(H:Hp)(h:Heap)(e:Addr)(hd:Value):Prop:=
 hd=.none\/∃T oT ts,hd=.ref T/\h0.get? T=none/\H T=none/\T≠e/\h.get? T=some oT/\oT.data=.fields ts/\ts[3]?=some .none
structure Exc(h0:Heap)(H:Hp)(h:Heap)(e C:Addr)(dx:Option Addr):Prop where
 new:h0.get? e=none
 un:H e=none
 ob:∃oe vs hd,h.get? e=some oe/\oe.cls=.ref C/\oe.dict=dx/\oe.data=.fields vs/\vs[1]?=some hd/\Qo h0 H h e hd
structure Qp(h0:Heap)(H:Hp)(fr:List Addr)(h h':Heap)(ch:List Addr):Prop where
 rec_:∀b∈ch,h0.get? b=none/\H b=none/\∃o vs,h.get? b=some o/\o.data=.fields vs
 keep:∀b o,h.get? b=some o->b∉fr->b∉ch->h'.get? b=some o
 slot:∀b o,h.get? b=some o->b∈fr->∃sl,h'.get? b=some {o with slots:=sl}
 there:∀b o,h.get? b=some o->∃o',h'.get? b=some o'
noncomputable def tM(head:Value)(L:Addr)(pl:List Value):Obj:=
 {cls:=.type "traceback",dict:=none,data:=.fields ([head,.ref L,.none,rawInt L,.none]++(if pl.isEmpty then List.replicate 6 Value.none else pl)).toArray}
theorem W9(o:Obj)(f:Array Value->Array Value):(o.mapFields f).dict=o.dict:=by
 obtain⟨c,d,dt,sl⟩:=o;cases dt<;>rfl
theorem W_(o:Obj)(f:Array Value->Array Value):(o.mapFields f).cls=o.cls:=by
 obtain⟨c,d,dt,sl⟩:=o;cases dt<;>rfl
section
variable {M:Model}{A:Around}{E:Value->Shared->Prop}{s:Shared}{base h0:Heap}{env:Env}{outer:List Env}{L e C:Addr}{dx:Option Addr}{H:Hp}{Q:Unit->Shared->Prop}
theorem Xa(oZ:A.frames=some (env::outer))(hl:s.heap.FunFrames base (env::outer))(hf:env.frame=some L)
  (he:s.heap.get? e=some oe) (hd:oe.data=.fields vs) (hsz:1<vs.size)
  (k:∀h' T oT ts,s.heap.objs.size<=T->(∀b o,s.heap.get? b=some o->b∉frs (env::outer)->b≠e->h'.get? b=some o)->(∀b o,s.heap.get? b=some o->b∈frs (env::outer)->∃sl,h'.get? b=some {o with slots:=sl})->
   h'.get? e=some (oe.mapFields (·.setIfInBounds 1 (.ref T)))->h'.get? T=some oT->oT.data=.fields ts->3<ts.size->ts[3]?=some (rawInt L)->Q () {s with heap:=h'}) :
  wpAny M A (do let a <-frameOf env;let pl <-entryPlaceOf L hn;let b <-EntryCells.newEntry head a .none (rawInt L) .none pl;setField (.ref e) 1 b) Q E s:=by
 have Hu:e∉frs (env::outer):=λhm=>by
  obtain⟨_,o,ho,hx⟩:=hl.mem hm;rw[he] at ho;cases ho;exact hx vs hd
 refine aB (wpAny_frameOf_fun oZ hl hf λh₁ sl₁=>?_);refine aB (wpAny_entryPlaceOf λpl hpl=>?_);unfold EntryCells.newEntry newFields;refine aB (o9 ?_ (hpl.sizeOk5 _ _ _ _ _));have e1:h₁.get? e=some oe:=(sl₁.2.1 e Hu).trans he;have e2:(h₁.push (tM head L pl)).get? e=some oe:=cM _ e1;refine FN e2 hd hsz ?_;have ne:h₁.objs.size≠e:=vh (bZ e1);have d3:=yd hd (·.setIfInBounds 1 (Value.ref h₁.objs.size));have kp:∀b o,h₁.get? b=some o->b≠e->((h₁.push (tM head L pl)).update e (Obj.mapFields (·.setIfInBounds 1 (Value.ref h₁.objs.size)))).get? b=some o:=λb o q n=>by
  rw[vX _ _ n.symm];exact cM _ q
 refine k _ h₁.objs.size (tM head L pl) _ (by rw[sl₁.1];exact b_ _) (λb o q n1 n2=>kp b o ((sl₁.2.1 b n1).trans q) n2) (λb o q m=>?_) (zB _ e2 (J_ d3)) ?_ rfl ?_ ?_
 ·obtain⟨sl,z⟩:=sl₁.2.2 b o q;exact⟨sl,kp b _ z λy=>Hu (y▸m)⟩
 ·rw[vX _ _ ne.symm];exact fL _ rfl
 ·simp only[fZ,lD,f9,CV]<;>lia
 ·first
   |(simp;done)
   |(rcases hpl with rfl|⟨_,_,_,_,_,_,_,rfl⟩<;>simp)
theorem zie(oZ:A.frames=some (env::outer))(hl:s.heap.FunFrames base (env::outer))(hf:env.frame=some L)(x:Exc h0 H s.heap e C dx)
  (k:∀h' T oT oe ts vs ch,Qp h0 H (frs (env::outer)) s.heap h' ch->s.heap.objs.size<=T->h'.get? e=some oe->oe.cls=.ref C->oe.dict=dx->oe.data=.fields vs->vs[1]?=some (.ref T)->h'.get? T=some oT->oT.data=.fields ts->
   3<ts.size->ts[3]?=some (rawInt L)->Q () {s with heap:=h'}):wpAny M A (noteFrame (.ref e) env) Q E s:=by
 obtain⟨oe,vs,hd,he,hc,K5,vH,h1,tb⟩:=x.ob;have hsz:1<vs.size:=(Array.getElem?_eq_some_iff.mp h1).1;have Hu:∀b o ws,s.heap.get? b=some o->o.data=.fields ws->b∉frs (env::outer):=λb o ws q d hm=>by
  obtain⟨_,o',ho,hx⟩:=hl.mem hm;rw[q] at ho;cases ho;exact hx ws d
 unfold noteFrame;simp only[hf];refine aB (j9 he vH h1 ?_);rcases tb with rfl|⟨T,oT,ts,rfl,nT,uT,neT,gT,dT,h3⟩
 ·rw[if_neg (by decide)];refine Xa oZ hl hf he vH hsz λh' T oT ts lt kp sl ge gT dT z3 z4=>?_;refine k h' T oT _ ts _ [e] ⟨λb hb=>?_,λb o q n1 n2=>kp b o q n1 λz=>n2 (by rw[z];exact .head _),sl,λb o q=>?_⟩ lt ge ((W_ _ _).trans hc) ((W9 _ _).trans K5) (yd vH _) (by simp[hsz]) gT dT z3 z4
  ·obtain rfl:b=e:=by simpa using hb
   exact⟨x.new,x.un,oe,vs,he,vH⟩
  ·by_cases z:b=e
   ·subst z;exact⟨_,ge⟩
   ·by_cases m:b∈frs (env::outer)
    ·obtain⟨w,q'⟩:=sl b o q m;exact⟨_,q'⟩
    ·exact⟨o,kp b o q m z⟩
 ·rw[if_pos (show (Value.ref T != Value.none)=true from by simp)];refine aB (j9 gT dT h3 ?_);rw[if_neg (show ¬((Value.none==rawInt L)=true) from by simp[rawInt])];have z3:3<ts.size:=(Array.getElem?_eq_some_iff.mp h3).1;refine aB (FN gT dT z3 ?_);have oth:∀b,b≠T->(s.heap.update T (Obj.mapFields (·.setIfInBounds 3 Value.none))).get? b=s.heap.get? b:=λb n=>vX _ _ n.symm;have hl':(s.heap.update T (Obj.mapFields (·.setIfInBounds 3 Value.none))).FunFrames base (env::outer):=hl.of_keeps λb o q nd=>⟨o,(oth b λz=>by subst z;rw[gT] at q;cases q;exact nd ts dT).trans q,rfl⟩;have sT:(s.heap.update T (Obj.mapFields (·.setIfInBounds 3 Value.none))).get? T=some (oT.mapFields (·.setIfInBounds 3 Value.none)):=zB _ gT (J_ (yd dT _));refine Xa oZ hl' hf ((oth e neT.symm).trans he) vH hsz λh' T' oT' ts' lt kp sl ge gT' dT' z3' z4'=>?_;have lt':s.heap.objs.size<=T':=by
   have:=lt;simp only[Heap.size_after_update] at this;exact this
  refine k h' T' oT' _ ts' _ [e,T] ⟨λb hb=>?_,λb o q n1 n2=>kp b o ((oth b λz=>n2 (by simp[z])).trans q) n1 λz=>n2 (by simp[z]),λb o q m=>?_,λb o q=>?_⟩ lt' ge ((W_ _ _).trans hc) ((W9 _ _).trans K5) (yd vH _) (by simp[hsz]) gT' dT' z3' z4'
  ·have hb':b=e\/b=T:=by simpa using hb
   rcases hb' with rfl|rfl
   ·exact⟨x.new,x.un,oe,vs,he,vH⟩
   ·exact⟨nT,uT,oT,ts,gT,dT⟩
  ·exact sl b o ((oth b λz=>by subst z;exact Hu b o ts q (by rw[gT] at q;cases q;exact dT) m).trans q) m
  ·by_cases z:b=e
   ·subst z;exact⟨_,ge⟩
   ·by_cases y:b=T
    ·subst y;exact⟨_,kp b _ sT (Hu b oT ts gT dT) z⟩
    ·by_cases m:b∈frs (env::outer)
     ·obtain⟨w,q'⟩:=sl b o ((oth b y).trans q) m;exact⟨_,q'⟩
     ·exact⟨o,kp b o ((oth b y).trans q) m z⟩
theorem zhO(he:s.heap.get? e=some oe)(hd:oe.data=.fields vs)(h1:vs[1]?=some (.ref T))(gT:s.heap.get? T=some oT)(dT:oT.data=.fields ts)(z3:3<ts.size)
  (k:∀h',(∀b o,b≠T->s.heap.get? b=some o->h'.get? b=some o)->h'.get? T=some (oT.mapFields (·.setIfInBounds 3 Value.none))->Q () {s with heap:=h'}):wpAny M A (setFlight (.ref e) none) Q E s:=by
 unfold setFlight;refine aB (j9 he hd h1 ?_);rw[if_pos (show (Value.ref T != Value.none)=true from by simp)];exact FN gT dT z3 (k _ (λb o n q=>(vX _ _ n.symm).trans q) (zB _ gT (J_ (yd dT _))))
theorem zgr(oZ:A.frames=some (env::outer))(hl:s.heap.FunFrames base (env::outer))(hf:env.frame=some L)(x:Exc h0 H s.heap e C dx)
  (qz:∀b,s.heap.objs.size<=b->H b=none) (h0s:∀b o,h0.get? b=some o->∃o',s.heap.get? b=some o')
  (k:∀h' ch,Qp h0 H (frs (env::outer)) s.heap h' ch->Exc h0 H h' e C dx->Q () {s with heap:=h'}) :
  wpAny M A (noteFrame (.ref e) env) (λ_ s₁=>wpAny M A (setFlight (.ref e) none) Q E s₁) E s:=by
 have ele:∃o,s.heap.get? e=some o:=let ⟨oe,_,_,he,_⟩:=x.ob;⟨oe,he⟩;refine zie oZ hl hf x λh' T oT oe ts vs ch t lt ge hc K5 vH h1 gT dT z3 z4=>?_;have neT:T≠e:=λz=>by
  obtain⟨o,q⟩:=ele;exact absurd (iM (bZ q) (z▸lt)) (pB _)
 refine zhO (s:={s with heap:=h'}) ge vH h1 gT dT z3 λh2 kp gT2=>?_;have nT:∀b o,s.heap.get? b=some o->b≠T:=λb o q z=>absurd (iM (bZ q) (z▸lt)) (pB _);refine k h2 ch ⟨t.rec_,λb o q n1 n2=>kp b o (nT b o q) (t.keep b o q n1 n2),λb o q m=>?_,λb o q=>?_⟩ ⟨x.new,x.un,oe,vs,.ref T,kp e oe neT.symm ge,hc,K5,vH,h1,.inr ⟨T,_,_,rfl,?_,qz T lt,neT,gT2,yd dT _,by simp[z3]⟩⟩
 ·obtain⟨sl,q'⟩:=t.slot b o q m;exact⟨sl,kp b _ (nT b o q) q'⟩
 ·obtain⟨o',q'⟩:=t.there b o q;exact⟨o',kp b o' (nT b o q) q'⟩
 ·cases z:h0.get? T with
  |none=>rfl
  |some o=>
   obtain⟨o',q⟩:=h0s T o z;exact absurd rfl (nT T o' q)
end
noncomputable abbrev XS:=St->Value->Option Addr->Hp->Prop
def Sub(h0 h:Heap):Prop:=∀b o,h0.get? b=some o->∃o',h.get? b=some o'
theorem Sub.none{h0 h:Heap}(x:Sub h0 h){b:Addr}(e:h.get? b=none):h0.get? b=none:=by
 cases q:h0.get? b with
 |none=>rfl
 |some o=>
  obtain⟨o',z⟩:=x b o q;rw[e] at z;cases z
theorem Exc.older{h0 h1:Heap}{H:Hp}{h:Heap}{e C:Addr}{dx:Option Addr}(x:Exc h1 H h e C dx)(y:Sub h0 h1):Exc h0 H h e C dx:=by
 obtain⟨oe,vs,hd,a,b,c,d,f,tb⟩:=x.ob;refine⟨y.none x.new,x.un,oe,vs,hd,a,b,c,d,f,?_⟩;rcases tb with z|⟨T,oT,ts,z1,z2,z3⟩
 ·exact .inl z
 ·exact .inr ⟨T,oT,ts,z1,y.none z2,z3⟩
section
variable {X:Cx}{ao:List (Addr×Obj)}{Z:St}{H:Hp}{s:Shared}{h0 h':Heap}{ch fr:List Addr}
theorem iQ.tbd{P:Program}{w:World}{h:Heap}(x:iQ P w H h)(t:Qp h0 H fr h h' ch)(hf:∀b∈fr,H b=none):iQ P w H h':=λa o e=>by
 have st:∀b u,(b=a\/H b=some (.own a))->h.get? b=some u->h'.get? b=some u:=λb u z q=>by
  have nb:H b≠none:=by
   rcases z with z|z
   ·rw[z,e];simp
   ·rw[z];simp
  exact t.keep b u q (λm=>nb (hf b m)) λm=>nb (t.rec_ b m).2.1
 exact(x a o e).stay st (λ_ z=>z) λ_ _ z=>z
end
def Raises(X:Cx)(EX:XS):Prop:=
 ∀(ao:List (Addr×Obj)) (Z:St) (H:Hp) (s:Shared) (h0:Heap) (e C:Addr) (dx:Option Addr),Inv X ao Z H s->(∀b o,X.s₀.heap.get? b=some o->b∉X.ex->∃o',h0.get? b=some o')->
  (∀p∈X.pn++ao,∃o,h0.get? p.1=some o)->Sub h0 s.heap->Exc h0 H s.heap e C dx->EX Z (.ref C) dx H->X.xe (.ref e) s
noncomputable def gJ(P:Program)(w:World):sE:=λouter H s E e s'=>
 ∃(a C:Addr) (dx:Option Addr) (H':Hp),e=.ref a/\s'.os=s.os/\AllBare s'.gens/\Un (frs outer) [] H H' s.heap s'.heap/\iQ P w H' s'.heap/\Exc s.heap H' s'.heap a C dx/\E (.ref C) dx H'
theorem zfg{P:Program}{w:World}{K:W.Frag}{mg:Str->Option Value}{base:Heap}{N:List Str}{qual:Str}{scope:Scope}{f:Addr}{cd:Value}{A:Around}{outer:List Env}{s:Shared}{H:Hp}{E:XK}{cm:Bool} :
  Raises (gA (gJ P w) P w K mg base N qual scope f cd A outer s H E cm) (λ_ C dx H'=>E C dx H'):=by
 intro ao Z H1 s1 h0 e C dx I hs hp h01 x ex;have I0:Inv (gA (gJ P w) P w K mg base N qual scope f cd A outer s H E cm) [] Z H1 s1:=I.mD λp z=>absurd z (by simp);show wpAny (model P w) (A.deeper (envOfC qual scope s.heap.objs.size f cd)) (leaving (envOfC qual scope s.heap.objs.size f cd) (.ref e)) _ _ s1;unfold leaving;have hsub:Sub s.heap h0:=λb o q=>hs b o q (by show b∉([]:List Addr);simp);refine aB (zgr (base:=base) (outer:=outer) (L:=s.heap.objs.size) I0.ok.frames I0.stack rfl x (λb z=>I0.hok.fresh z) h01 λh' ch t x'=>?_);have fin:∀b o,s.heap.get? b=some o->b∉ch:=λb o q m=>by
  have z:=hsub.none (t.rec_ b m).1;rw[q] at z;cases z
 have nL:∀b o,s.heap.get? b=some o->b∉frs outer->b∉frs (envOfC qual scope s.heap.objs.size f cd::outer):=λb o q n m=>by
  have m':b∈s.heap.objs.size::frs outer:=m;rcases iU.mp m' with z|z
  ·exact absurd (bZ q) (by rw[z];exact pB _)
  ·exact n z
 refine⟨e,C,dx,H1,rfl,I0.os,I0.bare,⟨λb o q n hb _=>?_,λb o q n hb _=>?_,λb o q n _=>I0.base.free b o q n (by show b∉([]:List Addr);simp),λb o q _=>?_,I0.base.tups,I0.base.kY,I0.base.mj⟩,I0.hok.tbd t I0.mC,x'.older hsub,ex⟩
 ·exact t.keep b o (I0.base.keep b o q n hb (by show b∉([]:List Addr);simp)) (nL b o q hb) (fin b o q)
 ·obtain⟨sl,q1⟩:=I0.base.slot b o q n hb (by show b∉([]:List Addr);simp);obtain⟨sl',q2⟩:=t.slot b _ q1 (show b∈s.heap.objs.size::frs outer from h_ _ hb);exact⟨sl',q2⟩
 ·obtain⟨o',q1⟩:=I0.base.there b o q (by show b∉([]:List Addr);simp);exact t.there b o' q1
section
variable {X:Cx}{cm:Bool}{k:Nat}{f C:Addr}{fd:FuncData}{ps:List Str}{sp:Sp}{EX:XS}{x m:Str}{p pos apos:Pos}{e o:Expr}{es:List Expr}{ta:TE}{t:TA}
theorem Raises.pass(R:Raises X EX)(I:Inv X ao Z H s)(h:gJ X.prog X.w X.stack H s (EX Z) v s'):X.xe v s':=by
 obtain⟨a,C,dx,H',rfl,os,bare,un,hok,x,q⟩:=h;have aq:Sub s.heap s'.heap:=λb o z=>un.there b o z (by simp);refine R ao Z H' s' s.heap a C dx (I.call' os un hok bare λb z=>absurd z (by simp)) (λb o z n=>I.base.there b o z n) (λp hp=>?_) aq x q;exact⟨p.2,(I.pin p hp).1⟩
noncomputable def Ax(sp:Sp)(EX:XS)(t:TA):TE:=λZ H Q=>t Z H λvs H1=>sp vs H1 Q (EX Z)
theorem zkm(F:cD X.prog X.w X.K X.mg X.base (gJ X.prog X.w) cm k f fd ps sp)(ju:cm=true->X.aj=true)(hr:bF k X.A)(hb:Binds X.K fd ps [])(R:Raises X EX)
  (I:Inv X ao Z H s) (r:Vals vs us) (h:sp vs H Q (EX Z)):wpAny (model X.prog X.w) X.A (call (.ref f) us) (EP X ao Z Q) X.xe s:=by
 have hl:us.length=ps.length:=by rw[<-r.length];exact F.len _ _ _ _ h
 have hb':=hb s us I.nM (by rw[v7];exact hl);rw[v7] at hb';refine wpAny_call (zR (F.run X.A X.stack s H ⟨us,[]⟩ us vs Q (EX Z) (λz=>I.ok.hd (ju z)) hr I.env0 hb' r h) λr s' hq=>?_);cases r with
 |error v=>exact R.pass I hq
 |ok fl=>
  cases fl with
  |ret u=>exact I.after hq
  |next=>exact False.elim hq
  |brk=>exact False.elim hq
  |cont=>exact False.elim hq
theorem zhn(F:cD X.prog X.w X.K X.mg X.base (gJ X.prog X.w) cm k f fd ps sp)(ju:cm=true->X.aj=true)(hr:bF k X.A)(hg:Gl X x)(hm:X.mg x=some (.ref f))(hk:PySem.W.keepIn X.K (.ref f)=true)(hb:Binds X.K fd ps [])(R:Raises X EX)
  (ha:PA X (e::es) t) (rC:(x==("__debug__" : Str))=false:=by decide) (he:starEach (e::es) X.env=(false,eval e X.env)::starEach es X.env:=by rfl) (hpl:(backTo pos (starEach es X.env)).any (·.1)=false:=by rfl) :
  PE X (.Call (.Name x p) (e::es) [] pos) (Ax sp EX t):=by
 intro ao s Z H Q I h;refine CG (O2 I hg hm ?_ rC);exact Oe (h₀:=X.base) I.ok.mod.yj hk (aU (ha pos ao s Z H _ I h) λus s1 ⟨vs,H1,I1,r,q⟩=>⟨I1.nM,zkm F ju hr hb R I1 r q⟩) he hpl
end
noncomputable def wO(a C:Addr)(dx:Option Addr):HO:=.ext λh=>∃oe vs,h.get? a=some oe/\oe.cls=.ref C/\oe.dict=dx/\oe.data=.fields vs
section
variable {X:Cx}{ao:List (Addr×Obj)}{Z:St}{H:Hp}{s:Shared}{e:Addr}{o:HO}
end
section
variable {X:Cx}{x n:Str}{np hpos pos:Pos}{b₀:Stmt}{body suite:List Stmt}{Dc:Addr}{i:Nat}{tb:XS->TS}{th:TS}
end
end L2
namespace L2
open PySem PySem.Spec PyProof.Rows PySem.W Builtin.ObjectAttr
section
variable {prog:Program}{w:World}{A:Around}{E:Value->Shared->Prop}{s:Shared}{K:Frag}{x C:Addr}{ox:Obj}{od:Option Obj}{name:Str}{tk:Tok}
theorem zjO(XI:K.In s.heap)(I:InstAt s.heap x ox C od)(hf:findObj K C od name=some r)
  (h:match r with|.value v=>Q (.done (.ret v)) s|.bind g a=>wpAny (model prog w) A (call g [a,.ref x,.ref C]) (λv s'=>Q (.done (.ret v)) s') E s|.missing=>False) :
  wpAny (model prog w) A (Builtin.«object.__getattribute__» ⟨[.ref x,.str name tk],[]⟩) Q E s:=by
 obtain⟨hh,g,d,t,os⟩:=s;have L0:=I.type (M:=model prog w);have L1:=looks_find (M:=model prog w) XI I hf;unfold Builtin.«object.__getattribute__»;refine aB (C_ (a:=(Value.ref x,[Value.str name tk])) (by rfl) ?_);refine aB (C_ (a:=name) (by rfl) ?_);refine aB (L0.at (aB (L1.at ?_)));cases r with
 |value v=>exact aN h
 |bind g a=>
  show wpAny _ _ (holding [a] (call g [a,.ref x,.ref C]) >>= ret) _ _ _;exact aB (qu (gH h (λv s' z=>aN z) λ_ _ z=>z))
 |missing=>exact h.elim
theorem zfX(XI:K.In s.heap)(I:InstAt s.heap x ox C od)(hb:mroIn K C (.type "BaseException")=some true)(hf:findObj K C od name=some r)
  (h:match r with|.value v=>R (.ok (.ret v)) s|.bind g a=>wpAny (model prog w) A.in1 (call g [a,.ref x,.ref C]) (λv s'=>R (.ok (.ret v)) s') (λe s'=>R (.error e) s') s|.missing=>False) :
  codeAny (model prog w) A (.call (.builtin "BaseException.__getattribute__") ⟨[.ref x,.str name tk],[]⟩) R s:=by
 have hk:builtinKind "BaseException.__getattribute__"=some .slot:=by decide +kernel
 have Ay:splitId "BaseException.__getattribute__"=some ("BaseException","__getattribute__"):=by decide +kernel
 have ha:=F.args_bexc_ga (.ref x) (.str name tk);refine codeAny_call_builtin F.attr_ValueError.ga.plain F.entry_bexc_ga ?_;have fin:wpAny (model prog w) A.in1 (Builtin.«object.__getattribute__» ⟨[.ref x,.str name tk],[]⟩) (λfin s'=>match fin with|.done f=>R (.ok f) s'|.again c'=>c'.quiet=true/\codeAny (model prog w) A c' R s') (λe s'=>R (.error e) s') s:=by
  refine zjO XI I hf ?_;cases r with
  |value v=>exact h
  |bind g a=>exact h
  |missing=>exact h.elim
 have chk:∀Q:Unit->Shared->Prop,Q () s->wpAny (model prog w) A.in1 (checkBuiltinCall "BaseException.__getattribute__" ⟨[.ref x,.str name tk],[]⟩) Q (λe s'=>R (.error e) s') s:=λQ hq=>by
  obtain⟨hh,g,d,t,os⟩:=s;have L0:=I.type (M:=model prog w);have L1:=looks_mroIn (M:=model prog w) XI hb;have LI:Looks (model prog w) hh (isInstance (.ref x) (.type "BaseException")) true:=L0.andThen L1;simp only[checkBuiltinCall,hk,Ay];refine aB ?_
  repeat (first|with_reducible exact hq|with_reducible refine LI.at ?_|wp_step)
 exact chk _ fin
theorem bexc_get?(XI:K.In s.heap)(I:InstAt s.heap x ox C od)(hb:mroIn K C (.type "BaseException")=some true)(hga:findIn K (.ref C) "__getattribute__"=some (some (.builtin "BaseException.__getattribute__")))
  (hgn:findIn K (.ref C) "__getattr__"=some none) (hf:findObj K C od name=some r)
  (h:match r with|.value v=>wpAny (model prog w) A (handedOut v) (λu s'=>Q (some u) s') (λ_ _=>False) {s with toks:=s.toks+1}|.bind g a=>wpAny (model prog w) A.in1 (call g [a,.ref x,.ref C]) (λv s'=>wpAny (model prog w) A (handedOut v) (λu s''=>Q (some u) s'') (λ_ _=>False) s') (λ_ _=>False) {s with toks:=s.toks+1}|.missing=>False) :
  wpAny (model prog w) A (getAttr? (.ref x) name) Q E s:=by
 obtain⟨hh,g,d,t,os⟩:=s;have L0:=I.type (M:=model prog w);have L1:=looks_findIn (M:=model prog w) XI hga;have L2:=looks_findIn (M:=model prog w) XI hgn;have K6:(Value.builtin "BaseException.__getattribute__"==Value.builtin "object.__getattribute__")=false:=by decide +kernel
 unfold getAttr? getAttrBy? getAttrBy;refine aB (wpAny_mkText (aB (FQ (qu (aB (L0.at (aB (L1.at ?_))))))));show wpAny _ _ (if (onTheHeap (.ref C)&&(Value.builtin "BaseException.__getattribute__"==Value.builtin "object.__getattribute__"))=true then _ else getAttrByItsOwn _ _ _ _ _ _) _ _ _;rw[K6,Bool.and_false,if_neg (by decide)];unfold getAttrByItsOwn hookBefore callGetattribute boundAndCalled;refine aB (L2.at ?_);refine aB (FQ (qu (aB (C_ (F.attr_ValueError.ga.bind (.ref x)) ?_))));refine wpAny_call (zfX XI I hb hf ?_);cases r with
 |value v=>exact gH h (λv s'' hv=>aN hv) (λ_ _ z=>z.elim)
 |bind g a=>exact gH h (λv s' hv=>gH hv (λu s'' z=>aN z) λ_ _ z=>z.elim) (λ_ _ z=>z.elim)
 |missing=>exact h.elim
end
structure XC(K:Frag)(C:Addr):Prop where
 ga:findIn K (.ref C) "__getattribute__"=some (some (.builtin "BaseException.__getattribute__"))
 gn:findIn K (.ref C) "__getattr__"=some none
 cl:findIn K (.ref C) "__class__"=some (some (.builtin "object.__class__"))
 mb:mroIn K C (.type "BaseException")=some true
 mo:mroIn K C (.type "object")=some true
 cd:(clsIn K C).isSome=true
 dg:specialIn K (.builtin "object.__class__") "__get__"=some (some (.builtin "getset_descriptor.__get__"))
 dt:takesIn K (.builtin "object.__class__")=some true
theorem zgp{K:Frag}{C:Addr}{od:Option Obj}{name:Str}{a g:Value}(hc:(clsIn K C).isSome=true)(ha:findIn K (.ref C) name=some (some a))(hg:specialIn K a "__get__"=some (some g))(ht:takesIn K a=some true):findObj K C od name=some (.bind g a):=by
 obtain⟨cd,z⟩:=NT.mp hc;simp only[findObj,z,ha,hg,ht,Option.bind_some]
theorem Xb{K:Frag}{e C:Addr}(c:XC K C):KitX K (.ref e) (.ref C) (λh=>∃ox od,InstAt h e ox C od) where
 ty:=λ_ _ _ ⟨_,_,I⟩=>I.type
 it:=λ_ _ XI _=>by
  have q:=c.cd;unfold clsIn at q;split at q
  ·rename_i c' d' cd' sl' lk;intro A' Q' E' s' k z;unfold isType loadHead;exact aB (wpAny_loadPart (k _ _ (XI _ _ lk)) (aN z))
  ·cases q
 ne:=λh tp dd its n sl XI htp=>by
  refine Bool.eq_false_iff.mpr λz=>?_;have ee:C=tp:=Value.ref.inj (pD.mp z);subst ee;have q:=c.cd;unfold clsIn at q;split at q
  ·rename_i c' d' cd' sl' lk;have y:=(XI _ _ lk).symm.trans htp;cases y
  ·cases q
 ca:=λ{prog w A E Q s} XI ⟨ox,od,I⟩ k=>by
  have hf:findObj K C od "__class__"=some (.bind (.builtin "getset_descriptor.__get__") (.builtin "object.__class__")):=zgp c.cd c.cl c.dg c.dt;refine bexc_get? XI I c.mb c.ga c.gn hf ?_;exact wpAny_call (class_get (s:={s with toks:=s.toks+1}) (ox:=ox) (od:=od) XI I c.mo (handed_on rfl k))
end L2
namespace L2
open PySem PySem.Spec PyProof.Rows
theorem zfk:∀(names:List (Str×NameKind)) (cs:List (Str×Addr)),(∀x∈names,x.2=.free->∃c,env.cells.lookup x.1=some c)->(∀x c,cs.lookup x=some c->env.cells.lookup x=some c)->
  ∃cl,(forIn names cs λx r=>(do
    if x.2==.free then
     let a <-cellOf env x.1
     pure (ForInStep.yield ((x.1,a)::r))
    else pure (ForInStep.yield r)):Sem (List (Str×Addr)))=pure cl/\(∀x c,cl.lookup x=some c->env.cells.lookup x=some c)/\(∀x c,cs.lookup x=some c->cl.lookup x=some c)/\∀x∈names,x.2=.free->∃c,cl.lookup x.1=some c:=by
 intro names
 induction names with
 |nil=>intro cs _ h;exact⟨cs,rfl,h,λ_ _ q=>q,λx z=>nomatch z⟩
 |cons y r ih=>
  intro cs h1 h2;obtain⟨n,k⟩:=y;by_cases hk:k=.free
  ·subst hk;obtain⟨c,hc⟩:=h1 (n,.free) lC rfl;have hc:env.cells.lookup n=some c:=hc;have h3:∀x d,((n,c)::cs).lookup x=some d->env.cells.lookup x=some d:=λx d q=>by
    rw[o_] at q;by_cases z:x=n
    ·subst z;simp at q;subst q;exact hc
    ·have z':(x==n)=false:=by simpa using z
     rw[z'] at q;exact h2 x d q
   obtain⟨cl,e,a,b,d⟩:=ih ((n,c)::cs) (λx z=>h1 x (h_ _ z)) h3;have hco:cellOf env n=pure c:=by
    unfold cellOf;rw[hc]
   refine⟨cl,?_,a,λx q z=>?_,λx z q=>?_⟩
   ·rw[CW];simp only[zL,if_true,hco];exact e
   ·by_cases y:x=n
    ·subst y;have z1:=h2 x q z;rw[hc] at z1;cases z1;exact b x c (by simp)
    ·have y':(x==n)=false:=by simpa using y
     exact b x q (by rw[o_,y'];exact z)
   ·rcases iU.mp z with z|z
    ·subst z;exact⟨c,b n c (by simp)⟩
    ·exact d x z q
  ·have hb:(k==NameKind.free)=false:=by simpa using hk
   obtain⟨cl,e,a,b,d⟩:=ih cs (λx z=>h1 x (h_ _ z)) h2;refine⟨cl,?_,a,b,λx z q=>?_⟩
   ·rw[CW];simp only[hb,u6,qw];exact e
   ·rcases iU.mp z with z|z
    ·subst z;exact absurd q hk
    ·exact d x z q
theorem zft(h:∀x∈scope.names,x.2=.free->∃c,env.cells.lookup x.1=some c):∃cl,closureFor scope env=pure cl/\(∀x c,cl.lookup x=some c->env.cells.lookup x=some c)/\∀x∈scope.names,x.2=.free->∃c,cl.lookup x.1=some c:=by
 obtain⟨cl,e,a,_,d⟩:=zfk scope.names [] h (λx c q=>by cases q);refine⟨cl,?_,a,d⟩;unfold closureFor;have e':=e;simp only[pure_bind,bind_pure] at e' ⊢;exact e'
theorem Qq{env:Env}{k:NameKind}:∀{names:List (Str×NameKind)} {x:Str},(names.map λ(n,k)=>if (k==NameKind.free&&env.scope.kind==.function&&env.kindOf n==some .cell) then (n,NameKind.cell) else (n,k)).lookup x=some k->
  names.lookup x=some k\/(k=.cell/\names.lookup x=some .free)
 |[],x,h=>by simp at h
 |(n,q)::r,x,h=>by
  rw[gG,o_] at h;rw[o_];have hd:∀c:Bool,(if c=true then (n,NameKind.cell) else (n,q)).1=n:=λc=>by cases c<;>rfl
  rw[hd] at h;by_cases z:x=n
  ·subst z;simp only[zL] at h ⊢;split at h
   ·rename_i y;simp only[gQ,pD] at y;cases h;exact .inr ⟨rfl,by rw[y.1.1]⟩
   ·cases h;exact .inl rfl
  ·have z':(x==n)=false:=by simpa using z
   simp only[z'] at h ⊢;exact Qq h
theorem K7{env:Env}:∀{names:List (Str×NameKind)} {x:Str},names.lookup x=some .free->
  (names.map λ(n,k)=>if (k==NameKind.free&&env.scope.kind==.function&&env.kindOf n==some .cell) then (n,NameKind.cell) else (n,k)).lookup x=some .cell \/
  (names.map λ(n,k)=>if (k==NameKind.free&&env.scope.kind==.function&&env.kindOf n==some .cell) then (n,NameKind.cell) else (n,k)).lookup x=some .free
 |[],x,h=>by simp at h
 |(n,q)::r,x,h=>by
  rw[o_] at h;rw[gG,o_];have hd:∀c:Bool,(if c=true then (n,NameKind.cell) else (n,q)).1=n:=λc=>by cases c<;>rfl
  rw[hd];by_cases z:x=n
  ·subst z;simp only[zL] at h ⊢;cases h
   split
   ·exact .inl rfl
   ·exact .inr rfl
  ·have z':(x==n)=false:=by simpa using z
   simp only[z'] at h ⊢;exact K7 h
structure nZ(n:Nat)(h1:Heap)(names:List (Str×NameKind))(cl eY:List (Str×Addr)):Prop where
 d1:∀x c,eY.lookup x=some c->(cl.lookup x=some c/\(x,NameKind.cell)∉names)\/((x,NameKind.cell)∈names/\n<c/\h1.IsCell c none)
 d2:∀x y c,n<c->eY.lookup x=some c->eY.lookup y=some c->x=y
 d3:∀x,names.lookup x=some .cell->∃c,eY.lookup x=some c
 d4:∀x c,(x,NameKind.cell)∉names->cl.lookup x=some c->eY.lookup x=some c
theorem cc:(NameKind.cell==NameKind.cell)=true:=by decide
theorem Hv:∀(names:List (Str×NameKind)) (h:Heap) (b:Addr) (o:Obj),h.get? b=some o->(pushCells h names).get? b=some o
 |[],h,b,o,e=>e
 |(x,k)::r,h,b,o,e=>by
  rw[pushCells]
  split
  ·exact Hv r _ b o (cM _ e)
  ·exact Hv r h b o e
theorem Qs:∀(names:List (Str×NameKind)) (h:Heap) (acc:List (Str×Addr)) (x:Str) (c:Addr),(cellsFrom h.objs.size names acc).lookup x=some c->
  (acc.lookup x=some c/\(x,NameKind.cell)∉names)\/((x,NameKind.cell)∈names/\h.objs.size<=c/\(pushCells h names).IsCell c none)
 |[],h,acc,x,c,e=>.inl ⟨e,by simp⟩
 |(y,k)::r,h,acc,x,c,e=>by
  rw[cellsFrom] at e;rw[pushCells];by_cases hk:k=.cell
  ·subst hk;rw[if_pos cc] at e ⊢;have sz:(h.push {cls:=Value.type "cell",data:=Data.cell none}).objs.size=h.objs.size+1:=by unfold Heap.push;simp
   rw[<-sz] at e;rcases Qs r _ _ x c e with ⟨a,b⟩|⟨a,b,d⟩
   ·rw[o_] at a;by_cases z:x=y
    ·subst z;simp at a;subst a;exact .inr ⟨lC,b_ _,_,Hv r _ _ _ (fL _ rfl),rfl⟩
    ·have z':(x==y)=false:=by simpa using z
     rw[z'] at a;exact .inl ⟨a,by simp[z,b]⟩
   ·exact .inr ⟨h_ _ a,by lia,d⟩
  ·have hb:(k==NameKind.cell)=false:=by simpa using hk
   rw[if_neg (by rw[hb];decide)] at e ⊢;rcases Qs r _ _ x c e with ⟨a,b⟩|⟨a,b,d⟩
   ·exact .inl ⟨a,by simp[b];intro _ q;exact hk q.symm⟩
   ·exact .inr ⟨h_ _ a,b,d⟩
theorem Qt:∀(names:List (Str×NameKind)) (n:Nat) (acc:List (Str×Addr)) (x y:Str) (c:Addr),(∀u v,acc.lookup u=some c->acc.lookup v=some c->u=v)->(∀u a,acc.lookup u=some a->a<n\/a≠c)->(cellsFrom n names acc).lookup x=some c->(cellsFrom n names acc).lookup y=some c->x=y
 |[],n,acc,x,y,c,h,_,e1,e2=>h x y e1 e2
 |(z,k)::r,n,acc,x,y,c,h,hl,e1,e2=>by
  rw[cellsFrom] at e1 e2;by_cases hk:k=.cell
  ·subst hk;rw[if_pos cc] at e1 e2;refine Qt r (n+1) _ x y c (λu v a b=>?_) (λu a q=>?_) e1 e2
   ·rw[o_] at a b;by_cases u1:u=z
    ·by_cases v1:v=z
     ·rw[u1,v1]
     ·have v':(v==z)=false:=by simpa using v1
      subst u1;simp at a;rw[v'] at b;subst a;have b:acc.lookup v=some n:=b;rcases hl v n b with q|q
      ·exact absurd q (pB _)
      ·exact absurd rfl q
    ·have u':(u==z)=false:=by simpa using u1
     rw[u'] at a;have a:acc.lookup u=some c:=a;by_cases v1:v=z
     ·subst v1;simp at b;subst b;rcases hl u n a with q|q
      ·exact absurd q (pB _)
      ·exact absurd rfl q
     ·have v':(v==z)=false:=by simpa using v1
      rw[v'] at b;exact h u v a b
   ·rw[o_] at q;by_cases u1:u=z
    ·subst u1;simp at q;subst q;exact .inl (Fy _)
    ·have u':(u==z)=false:=by simpa using u1
     rw[u'] at q;exact(hl u a q).imp (λq=>u_ q) id
  ·have hb:(k==NameKind.cell)=false:=by simpa using hk
   rw[if_neg (by rw[hb];decide)] at e1 e2;exact Qt r n acc x y c h hl e1 e2
theorem Qu:∀(names:List (Str×NameKind)) (n:Nat) (acc:List (Str×Addr)) (x:Str) (c:Addr),(x,NameKind.cell)∉names->acc.lookup x=some c->(cellsFrom n names acc).lookup x=some c
 |[],n,acc,x,c,_,e=>e
 |(z,k)::r,n,acc,x,c,h,e=>by
  rw[cellsFrom];have hr:(x,NameKind.cell)∉r:=λq=>h (h_ _ q);by_cases hk:k=.cell
  ·subst hk;rw[if_pos cc];refine Qu r (n+1) _ x c hr ?_;have:x≠z:=λq=>h (by rw[q];exact lC);have z':(x==z)=false:=by simpa using this
   rw[o_,z'];exact e
  ·have hb:(k==NameKind.cell)=false:=by simpa using hk
   rw[if_neg (by rw[hb];decide)];exact Qu r n acc x c hr e
theorem Qv:∀(names:List (Str×NameKind)) (acc:List (Str×Addr)) (s:Shared) (Q:List (Str×Addr)->Shared->Prop),
  Q (cellsFrom s.heap.objs.size names acc) {s with heap:=pushCells s.heap names}->
  wpAny M A (forIn names acc λx (cells:List (Str×Addr))=>match x with
   |(name,kind)=>if (kind==NameKind.cell)=true then do
     let a <-alloc {cls:=Value.type "cell",data:=Data.cell none}
     pure (ForInStep.yield ((name,a)::cells))
    else pure (ForInStep.yield cells)) Q E s
 |[],acc,s,Q,h=>by
  rw[Kq];exact aN h
 |(z,k)::r,acc,s,Q,h=>by
  rw[CW];rw[cellsFrom,pushCells] at h;by_cases hk:k=.cell
  ·subst hk;rw[if_pos cc,if_pos cc] at h;refine aB ?_;dsimp only;rw[if_pos cc];refine aB (wpAny_alloc (aN ?_));refine Qv r _ _ Q ?_;have sz:(s.heap.push {cls:=Value.type "cell",data:=Data.cell none}).objs.size=s.heap.objs.size+1:=by unfold Heap.push;simp
   rw[sz];exact h
  ·have hb:(k==NameKind.cell)=false:=by simpa using hk
   rw[if_neg (by rw[hb];decide),if_neg (by rw[hb];decide)] at h;refine aB ?_;dsimp only;rw[if_neg (by rw[hb];decide)];exact aN (Qv r _ _ Q h)
theorem Xc(old:∀x c,cl.lookup x=some c->c<s.heap.objs.size)(inj:∀x y c,cl.lookup x=some c->cl.lookup y=some c->x=y)
  (h:∀h1 eY,h1.Ns s.heap.objs.size (λ_=>none)->(∀b o,s.heap.get? b=some o->h1.get? b=some o)->nZ s.heap.objs.size h1 scope.names cl eY->Q {scope:=scope,locals:=s.heap.objs.size,globals:=globals,cells:=eY,qual:=qual,func:=none,code:=env.code,frame:=env.frame,builtins:=env.builtins} {s with heap:=h1}) :
  wpAny M A (newFunctionEnv scope globals cl [] qual none .none (some env)) Q E s:=by
 unfold newFunctionEnv;refine aB (wpAny_alloc ?_);refine aB ?_;refine Qv scope.names cl _ _ ?_;dsimp only;rw[Kq];refine aB (aN (aN ?_));have sz:(s.heap.push {cls:=Value.type (if (some env).isSome=true then "dict" else "frame"),data:=Data.dict #[]}).objs.size=s.heap.objs.size+1:=by unfold Heap.push;simp
 refine h _ _ ?_ (λb o e=>Hv _ _ _ _ (cM _ e)) ⟨λx c e=>?_,λx y c hc e1 e2=>?_,λx e=>?_,λx c hx e=>Qu _ _ _ x c hx e⟩
 ·refine⟨_,#[],_,Hv _ _ _ _ (fL _ rfl),rfl,?_,λ_=>rfl⟩;intro e he;simp at he
 ·rcases Qs _ _ _ x c e with ⟨a,b⟩|⟨a,b,d⟩
  ·exact .inl ⟨a,b⟩
  ·rw[sz] at b;exact .inr ⟨a,by lia,d⟩
 ·exact Qt _ _ _ x y c (λu v a b=>inj u v c a b) (λu a q=>.inl (by rw[sz];exact u_ (old u a q))) e1 e2
 ·have:=N6 scope.names (s.heap.push {cls:=Value.type (if (some env).isSome=true then "dict" else "frame"),data:=Data.dict #[]}).objs.size cl (.inl e);exact NT.mp this
noncomputable def Cx.blk(X:Cx)(scope:Scope)(cl:List (Str×Addr))(N:List Str)(C:Addr)(s3:Shared)(H3:Hp)(fp:List Addr)(ao:List (Addr×Obj)):Cx where
 prog:=X.prog
 w:=X.w
 K:=X.K
 mg:=X.mg
 base:=X.base
 A:=X.A
 N:=N
 s₀:=s3
 H₀:=H3
 env:=compEnvC scope cl C X.env
 outer:=X.stack
 stack:=X.stack
 ex:=fp
 fn:=λx=>scope.names.lookup x==some .cell
 aj:=X.aj
 pn:=X.pn++ao
 xe:=λ_ _=>False
structure cg(sc scope:Scope):Prop where
 kind:scope.kind=.function
 Xd:∀y∈scope.names,y.2=.cell->scope.names.lookup y.1=some .cell
 free:∀y∈scope.names,y.2=.free->sc.names.lookup y.1=some .cell\/sc.names.lookup y.1=some .free
 loc:∀y∈scope.names,y.2=.local->scope.names.lookup y.1=some .local
section
variable {X:Cx}{ao:List (Addr×Obj)}{Z:St}{H:Hp}{s:Shared}{scope:Scope}{cl:List (Str×Addr)}{N:List Str}{fp:List Addr}{ZY:St}
theorem Xe{h1:Heap}{t:Nat}{eY:List (Str×Addr)}(I:Inv X ao Z H s)(B:cg X.env.scope scope)(c1:∀x c,cl.lookup x=some c->X.env.cells.lookup x=some c)(c2:∀x∈scope.names,x.2=.free->∃c,cl.lookup x.1=some c)
  (f:∀b∈fp,fB X ao H b) (fo:∀b∈fp,∃o,s.heap.get? b=some o) (hn:h1.Ns s.heap.objs.size (λ_=>none)) (kp:∀b o,s.heap.get? b=some o->h1.get? b=some o) (CN:nZ s.heap.objs.size h1 scope.names cl eY)
  (hl:ZY.length=N.length) (hZ:∀(i:Nat) (x:Str) (v:V),N[i]?=some x->ZY[i]?=some (some v)->scope.names.lookup x=some .free/\∃j:Nat,X.N[j]?=some x/\Z[j]?=some (some v)) :
  Inv (X.blk scope eY N s.heap.objs.size s H fp ao) [] ZY H {s with heap:=h1,toks:=t}:=by
 have lt:∀b o,s.heap.get? b=some o->b≠s.heap.objs.size:=λb o q=>dN (bZ q);have Xf:∀b,b≠X.env.locals->b∉X.fs->b∉frs X.stack:=λb a c z=>(iU.mp (I.jL b z)).elim a c;have mem_of:∀x k,scope.names.lookup x=some k->(x,k)∈scope.names:=λx k q=>Cy q;have old:∀x c,cl.lookup x=some c->c<s.heap.objs.size:=λx c q=>by
  obtain⟨v,o,q1,q2⟩:=I.cell x c (c1 x c q);exact bZ q1
 have Xg:∀x,scope.names.lookup x=some .free->(x,NameKind.cell)∉scope.names:=λx q z=>by
  have:=B.Xd _ z rfl;have this:scope.names.lookup x=some .cell:=this;rw[q] at this;cases this
 refine⟨⟨I.ok.mod,B.kind,I.ok.glob,I.ok.blt,b_ _,λx y c a b=>?_,λx hx=>?_,λx c z q=>?_,I.ok.hd,I.ok.frames,.inl rfl,λb hb=>?_,I.bs,j8 I.ok.Aa I.sz,λb o q hb=>?_,λb hb=>Xf b (f b hb).2.1 (f b hb).2.2.1,I.stack,I.mC⟩,
  rfl,I.bare,Un.kept kp,⟨_,hn,λi x v e1 e2 e3=>?_⟩,λx c q=>?_,I.hok.fresh (b_ _),λx c q=>?_,λp hp=>?_,I.hok.kept kp,hl⟩
 ·by_cases hc:s.heap.objs.size<c
  ·exact CN.d2 x y c hc a b
  ·rcases CN.d1 x c a with ⟨a1,_⟩|⟨_,a1,_⟩
   ·rcases CN.d1 y c b with ⟨b1,_⟩|⟨_,b1,_⟩
    ·exact I.ok.inj x y c (c1 x c a1) (c1 y c b1)
    ·exact absurd b1 hc
   ·exact absurd a1 hc
 ·have hx:(relabel scope X.env).names.lookup x=some .cell\/(relabel scope X.env).names.lookup x=some .free:=hx;have fr:scope.names.lookup x=some .cell\/scope.names.lookup x=some .free:=by
   rcases hx with hx|hx
   ·rcases Qq hx with z|⟨_,z⟩
    ·exact .inl z
    ·exact .inr z
   ·rcases Qq hx with z|⟨z,_⟩
    ·exact .inr z
    ·cases z
  rcases fr with fr|fr
  ·exact CN.d3 x fr
  ·obtain⟨c,hc⟩:=c2 (x,.free) (mem_of x _ fr) rfl;exact⟨c,CN.d4 x c (Xg x fr) hc⟩
 ·rcases CN.d1 x c q with ⟨_,q1⟩|⟨_,q1,_⟩
  ·have z:(scope.names.lookup x==some NameKind.cell)=true:=z;exact absurd (mem_of x _ (by simpa using z)) q1
  ·exact wg q1
 ·obtain⟨o,q⟩:=fo b hb;refine⟨lt b o q,λx c z=>?_⟩;rcases CN.d1 x c z with ⟨q1,_⟩|⟨_,q1,_⟩
  ·exact(f b hb).2.2.2.2.1 x c (c1 x c q1)
  ·exact λe=>absurd (bZ q) (by rw[<-e];exact Dg.mpr (wg q1))
 ·obtain⟨_,_,_,z,_⟩:=f b hb;rcases z with z|z
  ·exact I.ok.Ab b o q z
  ·exact absurd (iM (bZ q) (j8 I.ok.Aa z)) (pB _)
 ·obtain⟨fr,j,hj,hv⟩:=hZ i x v e1 e2;have hk:=B.free (x,.free) (mem_of x _ fr) rfl;obtain⟨m,hm,hlk⟩:=I.loc;obtain⟨u,r,l⟩:=hlk j x v hj hv (hk.elim (λz=>.inr (.inl z)) λz=>.inr (.inr z));obtain⟨c',k_⟩:=c2 (x,.free) (mem_of x _ fr) rfl;have k_:cl.lookup x=some c':=k_;refine⟨u,r,.inr ⟨K7 fr,c',CN.d4 x c' (Xg x fr) k_,?_⟩⟩;rcases l with ⟨k1,_⟩|⟨_,c,k2,oc,k3,k4⟩
  ·have k1:X.env.scope.names.lookup x=some .local:=k1;rcases hk with hk|hk
   ·have hk:X.env.scope.names.lookup x=some .cell:=hk;rw[k1] at hk;cases hk
   ·have hk:X.env.scope.names.lookup x=some .free:=hk;rw[k1] at hk;cases hk
  ·have e:=c1 x c' k_;rw[k2] at e;cases e;exact⟨oc,kp _ oc k3,k4⟩
 ·rcases CN.d1 x c q with ⟨q1,_⟩|⟨_,_,q1⟩
  ·obtain⟨v,o,q1,q2⟩:=I.cell x c (c1 x c q1);exact⟨v,o,kp c o q1,q2⟩
  ·exact⟨none,q1⟩
 ·rcases CN.d1 x c q with ⟨q1,_⟩|⟨_,q1,_⟩
  ·exact I.je x c (c1 x c q1)
  ·exact I.hok.fresh (wg q1)
 ·have hp:p∈X.pn++ao:=by
   have z:p∈(X.pn++ao)++[]:=hp;simpa using z
  obtain⟨a1,a2,a3,a4,a5⟩:=I.pin p hp;exact⟨kp _ _ a1,a2,lt _ _ a1,Xf _ a3 a4,a5⟩
theorem Xh(I:Inv X ao Z H s)(f:∀b∈fp,fB X ao H b)(bJ:Inv (X.blk scope cl N s.heap.objs.size s H fp ao) [] Z' H' s'):Inv X ao Z H' s':=
 I.call' (ch:=fp) bJ.os bJ.base bJ.hok bJ.bare λb hb=>by
  obtain⟨_,a2,_,a4,a5,a6⟩:=f b hb;exact⟨a4.imp id λz=>Fp z,a2,a5,a6⟩
theorem K8{Z':St}{H':Hp}{s':Shared}{h2:Heap}{C:Addr}(bJ:Inv X ao Z H' s')(hC:X.s₀.heap.objs.size<=C)(n1:H' C=none)(n2:C≠X.env.locals)(n3:∀x c,X.env.cells.lookup x=some c->c≠C)(n4:∀p∈X.pn++ao,p.1≠C)
  (sb:Heap.SameBut C s'.heap h2):Inv X ao Z H' {s' with heap:=h2}:=
 bJ.turned (t':=s'.toks) (λb o z q=>(sb.2 b z).trans q) n1 n2 (.inr hC) n3 n4
end
noncomputable abbrev jG(ifs:List Expr)(env:Env):Sem Bool:=forIn ifs true λc r=>if r=true then do let ok <-isTrue c env (eval c env);pure (ForInStep.yield ok) else pure (ForInStep.yield r)
theorem zfP{prog:Program}{w:World}{A:Around}{R:Result->Shared->Prop}{s:Shared}{elt target iter:Expr}{ifs:List Expr}{scope:Scope}{pos:Pos}{it acc:Value}{env:Env}(V:Nat->Shared->Prop)
  (turn:∀n s,V n s->wpAny (model prog w) A (pyNext it) (λr s₁=>match r with
   |none=>R (.ok .next) s₁
   |some v=>wpAny (model prog w) A (letOwnedTupleGo target it v) (λ_ s₂=>wpAny (model prog w) A (assign target env v) (λ_ s₃=>
     wpAny (model prog w) A (jG ifs env) (λok s₄=>
      if ok=true then wpAny (model prog w) A (eval elt env) (λx s₅=>wpAny (model prog w) A (call (.builtin "list.append") [acc,x]) (λ_ s₆=>∃m,m<n/\V m s₆) (λ_ _=>False) s₅) (λ_ _=>False) s₄
      else ∃m,m<n/\V m s₄) (λ_ _=>False) s₃) (λ_ _=>False) s₂) (λ_ _=>False) s₁) (λ_ _=>False) s)
  (n:Nat) (h:V n s):codeAny (model prog w) A (.compLoop (.ListComp elt [⟨target,iter,ifs,0⟩] scope pos) 0 it acc env) R s:=by
 refine codeAny_loop rfl V (λn s hV=>?_) n h;show wpAny _ A ((compTurn (.ListComp elt [⟨target,iter,ifs,0⟩] scope pos) 0 it acc env).onRaise (λx=>do noteFrame x env;theTreesLotGoes x)) _ _ s;refine wpAny_noted ?_;rw[compTurn_list];refine aB (v9 (aB (gH (turn n s hV) (λr s₁ h₁=>?_) λ_ _ z=>z.elim)));cases r with
 |none=>exact aN h₁
 |some v=>
  refine aB (gH h₁ (λ_ s₂ h₂=>?_) λ_ _ z=>z.elim);refine aB (gH h₂ (λ_ s₃ h₃=>aB (gH h₃ (λok s₄ h₄=>?_) λ_ _ z=>z.elim)) λ_ _ z=>z.elim);cases ok with
  |true=>
   simp only[if_true] at h₄ ⊢;exact aB (aB (gH h₄ (λx s₅ h₅=>aB (gH h₅ (λ_ s₆ h₆=>aN (aN ⟨rfl,h₆⟩)) λ_ _ z=>z.elim)) λ_ _ z=>z.elim))
  |false=>
   simp only[u6,qw] at h₄ ⊢;exact aN ⟨rfl,h₄⟩
def Ds(X:Cx)(ifs:List Expr)(t:TT):Prop:=
 ∀(ao:List (Addr×Obj)) (s:Shared) (Z:St) (H:Hp) (Q:Bool->Hp->Prop),Inv X ao Z H s->t Z H Q->wpAny (model X.prog X.w) X.A (jG ifs X.env) (TP X ao Z Q) X.xe s
noncomputable def Qw:TT:=λ_ H Q=>Q true H
theorem ziY:Ds X [] Qw:=λ_ _ _ H _ I h=>wpAny_tests_nil ⟨H,I,h⟩
theorem zi6(h:PT X c t):Ds X [c] t:=λao s Z H Q I hq=>wpAny_tests_one (h ao s Z H Q I hq)
def Hw(ZY:St->St)(g:TG)(tt:TT)(te:TE)(bJ:It)(Z:St)(H:Hp)(Q:VK):Prop:=∀D,H D=none->∃W:Nat->Nat->St->Hp->Prop,(∃m,W 0 m (ZY Z) (upd H D (.lst [])))/\∀i m Z' H',W i m Z' H'->
 (bJ.stop i H'/\Q (.ref D) H')\/(bJ.go i H'/\∃N:St->Hp->Prop,(∀Z2 H2,N Z2 H2->∃m',m'<m/\W (i+1) m' Z2 H2)/\∀x H2,bJ.tH i H' x H2->g x Z' H2 λZ3 H3=>tt Z3 H3 λok H4=>
  if ok=true then te Z3 H4 λy H5=>∃ys,H5 D=some (.lst ys)/\ys.length<sizeLine/\N Z3 (upd H5 D (.lst (ys++[y]))) else N Z3 H4)
section
variable {X:Cx}{elt tg iter:Expr}{ifs:List Expr}{scope:Scope}{pos:Pos}{N:List Str}{ZY:St->St}{wi:TI}{g:TG}{tt:TT}{te:TE}
structure Parts(X:Cx)(elt tg:Expr)(ifs:List Expr)(scope:Scope)(N:List Str)(g:TG)(tt:TT)(te:TE):Prop where
 tgt:∀cl C s3 H3 fp ao,PG (X.blk scope cl N C s3 H3 fp ao) tg g
 Hx:∀cl C s3 H3 fp ao,Ds (X.blk scope cl N C s3 H3 fp ao) ifs tt
 el:∀cl C s3 H3 fp ao,PE (X.blk scope cl N C s3 H3 fp ao) elt te
theorem Xi(hc:X.aj=true)(B:cg X.env.scope scope)(P:Parts X elt tg ifs scope N g tt te)(hl:∀Z,(ZY Z).length=N.length)
  (hZ:∀(Z:St) (i:Nat) (x:Str) (v:V),N[i]?=some x->(ZY Z)[i]?=some (some v)->scope.names.lookup x=some .free/\∃j:Nat,X.N[j]?=some x/\Z[j]?=some (some v))
  {ao:List (Addr×Obj)} {s:Shared} {Z:St} {H:Hp} {Q:VK} {it:Addr} {fp:List Addr} {tn:Nat->Heap->Prop} {bJ:It} (I:Inv X ao Z H s) (T:Turn X.prog X.w X.K tg bJ fp it tn) (st:tn 0 s.heap) (f:∀b∈fp,fB X ao H b) (h:Hw ZY g tt te bJ Z H Q)
  {cl:List (Str×Addr)} (c1:∀x c,cl.lookup x=some c->X.env.cells.lookup x=some c) (c2:∀x∈scope.names,x.2=.free->∃c,cl.lookup x.1=some c) {R:Value->Addr->Result->Shared->Prop} {E:Value->Shared->Prop}
  (k:∀D C s' H',Inv X ao Z H' s'->X.s₀.heap.objs.size<=C->H' C=none->C≠X.env.locals->(∀x c,X.env.cells.lookup x=some c->c≠C)->(∀p∈X.pn++ao,p.1≠C)->(∃m,s'.heap.Ns C m)->Q (.ref D) H'->R (.ref D) C (.ok .next) s') :
  wpAny (model X.prog X.w) X.A (newList []) (λacc s₃=>wpAny (model X.prog X.w) X.A (newFunctionEnv scope X.env.globals cl [] X.env.qual none .none (some X.env)) (λcenv s₄=>
   codeAny (model X.prog X.w) X.A (.compStart (.ListComp elt [⟨tg,iter,ifs,0⟩] scope pos) 0 (.ref it) acc {cenv with scope:=relabel scope X.env}) (R acc cenv.locals) s₄) E s₃) E s:=by
 refine o9 ?_;have hD:H s.heap.objs.size=none:=I.hok.fresh (b_ _);have I3:Inv X ao Z (upd H s.heap.objs.size (.lst [])) {s with heap:=s.heap.push {cls:=.type "list",dict:=none,data:=.seq ([]:List Value).toArray}}:=
  I.laid (t':=s.toks) (λb u q=>cM _ q) (b_ _) ⟨wu _,[],0,.nil,fL _ rfl⟩
 have f3:∀b∈fp,fB X ao (upd H s.heap.objs.size (.lst [])) b:=λb hb=>by
  obtain⟨a1,a2⟩:=f b hb;obtain⟨o,q,_⟩:=T.obj 0 _ st b hb;exact⟨by rw[cW (dN (bZ q))];exact a1,a2⟩
 have st3:tn 0 (s.heap.push {cls:=.type "list",dict:=none,data:=.seq ([]:List Value).toArray}):=T.keep _ _ _ st λb hb o q=>cM _ q;obtain⟨W,⟨m0,w0⟩,turn⟩:=h s.heap.objs.size hD;generalize Qx:({s with heap:=s.heap.push {cls:=.type "list",dict:=none,data:=.seq ([]:List Value).toArray}}:Shared)=s3 at *;have pN:tn 0 s3.heap:=by rw[<-Qx];exact st3
 generalize hH3:upd H s.heap.objs.size (.lst [])=H3 at *;refine Xc (λx c q=>by obtain⟨v,o,q1,_⟩:=I3.cell x c (c1 x c q);exact bZ q1) (λx y c a b=>I3.ok.inj x y c (c1 x c a) (c1 y c b)) λh1 eY hn kp CN=>?_;have Az:Inv (X.blk scope eY N s3.heap.objs.size s3 H3 fp ao) [] (ZY Z) H3 {s3 with heap:=h1}:=
  Xe (t:=s3.toks) I3 B c1 c2 f3 (λb hb=>let ⟨o,q,_⟩:=T.obj 0 _ pN b hb;⟨o,q⟩) hn kp CN (hl Z) (hZ Z)
 have Hy:tn 0 h1:=T.keep _ _ _ pN λb hb o q=>kp b o q;have fY:∀{H':Hp},(∀b∈fp,H' b=none)->∀b∈fp,fB (X.blk scope eY N s3.heap.objs.size s3 H3 fp ao) [] H' b:=λ{H'} z b hb=>by
  obtain⟨a1,a2,a3,a4,a5,a6⟩:=f3 b hb;obtain⟨o,q,_⟩:=T.obj 0 _ pN b hb;refine⟨z b hb,dN (bZ q),λy=>(iU.mp (I3.jL b y)).elim a2 a3,.inl hb,λx c y=>?_,λp hp=>a6 p ?_⟩
  ·rcases CN.d1 x c y with ⟨q1,_⟩|⟨_,q1,_⟩
   ·exact a5 x c (c1 x c q1)
   ·exact λe=>absurd (bZ q) (by rw[<-e];exact Dg.mpr (wg q1))
  have y:p∈(X.pn++ao)++[]:=hp;simpa using y
 have loop:codeAny (model X.prog X.w) X.A (.compLoop (.ListComp elt [⟨tg,iter,ifs,0⟩] scope pos) 0 (.ref it) (.ref s.heap.objs.size) (compEnvC scope eY s3.heap.objs.size X.env)) (R (.ref s.heap.objs.size) s3.heap.objs.size) {s3 with heap:=h1}:=by
  refine zfP (λn s'=>∃i Z' H',Inv (X.blk scope eY N s3.heap.objs.size s3 H3 fp ao) [] Z' H' s'/\tn i s'.heap/\(∀b∈fp,H' b=none)/\W i n Z' H') ?_ m0 ⟨0,ZY Z,H3,Az,Hy,λb hb=>(f3 b hb).1,w0⟩;rintro n s5 ⟨i,Z5,H5,jw,sy,vC,w5⟩;rcases turn i n Z5 H5 w5 with ⟨stop,q⟩|⟨go,Nx,hN,step⟩
  ·refine aU (T.done (X.blk scope eY N s3.heap.objs.size s3 H3 fp ao) rfl rfl rfl hc i [] s5 Z5 H5 _ jw (fY vC) sy stop) λr s6 ⟨hr,mL⟩=>?_;subst hr;have JX:=Xh I3 f3 mL;refine k s.heap.objs.size s3.heap.objs.size s6 H5 JX I3.sz mL.free (vh I3.lt) (λx c y z=>?_) (λp hp z=>?_) ?_ q
   ·obtain⟨v,qc⟩:=I3.cell x c y;exact absurd qc.lt (by rw[z];exact pB _)
   ·exact absurd (bZ (I3.pin p hp).1) (by rw[z];exact pB _)
   ·obtain⟨m,hm,_⟩:=mL.loc;exact⟨m,hm⟩
  ·refine aU (T.item (X.blk scope eY N s3.heap.objs.size s3 H3 fp ao) rfl rfl rfl hc i [] s5 Z5 H5 _ jw (fY vC) sy go) λr s6 hx=>vp hx λu hr h6=>?_;subst hr;refine aU h6 λ_ s7 ⟨x,H7,tO,r7,y7,tQ,Hz⟩=>?_;have n6:=tO.pinned (fY Hz) (T.obj _ _ tQ);refine aU (P.tgt eY s3.heap.objs.size s3 H3 fp ao _ s7 Z5 H7 x u _ n6 r7 (step x H7 y7)) λ_ s8 ⟨Z8,H8,tR,q8⟩=>?_;refine aU (P.Hx eY s3.heap.objs.size s3 H3 fp ao _ s8 Z8 H8 _ tR q8) λok s9 hx=>vp hx λH9 tU q9=>?_;have again:∀{H':Hp} {s':Shared},Inv (X.blk scope eY N s3.heap.objs.size s3 H3 fp ao) ([]++iW fp s7.heap) Z8 H' s'->Nx Z8 H'->∃m,m<n/\∃i Z' H',Inv (X.blk scope eY N s3.heap.objs.size s3 H3 fp ao) [] Z' H' s'/\tn i s'.heap/\(∀b∈fp,H' b=none)/\W i m Z' H':=λ{H' s'} eE n'=>by
    obtain⟨m',hm,w'⟩:=hN Z8 H' n';refine⟨m',hm,i+1,Z8,H',eE.dU,T.keep _ _ _ tQ λb hb o e=>(eE.pin (b,o) (m_ _ (m_ _ (yt hb e)))).1,λb hb=>?_,w'⟩;obtain⟨o,e,d⟩:=T.obj _ _ tQ b hb;exact(eE.pin (b,o) (m_ _ (m_ _ (yt hb e)))).2.1
   cases ok with
   |false=>
    rw[if_neg (by decide)] at q9 ⊢;exact again tU q9
   |true=>
    rw[if_pos rfl] at q9 ⊢;refine aU (P.el eY s3.heap.objs.size s3 H3 fp ao _ s9 Z8 H9 _ tU q9) λv K9 ⟨y,Qy,tV,r10,ys,A_,hz,Qz⟩=>?_;refine aU (Qj (X:=(X.blk scope eY N s3.heap.objs.size s3 H3 fp ao)) _ K9 Z8 Qy (.ref s.heap.objs.size) [y] (.ref s.heap.objs.size) [v] (λ_ H'=>Nx Z8 H') tV rfl (.cons r10 .nil) ⟨s.heap.objs.size,ys,y,rfl,rfl,A_,hz,Qz⟩) λ_ Xj hx=>eU hx λ_ Xk n8 _ QB=>again n8 QB
 exact codeAny_compStart_list loop (T.self _ 0 _ _ _ Hy loop)
end
noncomputable def tW(wi:TI)(ZY:St->St)(g:TG)(tt:TT)(te:TE):TE:=λZ H Q=>wi Z H λbJ H1=>Hw ZY g tt te bJ Z H1 Q
section
variable {X:Cx}{elt tg iter:Expr}{ifs:List Expr}{scope:Scope}{pos spos py:Pos}{N:List Str}{ZY:St->St}{wi:TI}{g:TG}{tt:TT}{te:TE}{i:Nat}{y:Str}
theorem K_(I:Inv X ao Z H s)(B:cg X.env.scope scope):∃cl,closureFor scope X.env=pure cl/\(∀x c,cl.lookup x=some c->X.env.cells.lookup x=some c)/\∀x∈scope.names,x.2=.free->∃c,cl.lookup x.1=some c:=
 zft λx hx hf=>I.ok.has x.1 (B.free x hx hf)
theorem zi5(hc:X.aj=true)(B:cg X.env.scope scope)(hi:PI X tg iter wi)(P:Parts X elt tg ifs scope N g tt te)(hl:∀Z,(ZY Z).length=N.length)
  (hZ:∀(Z:St) (i:Nat) (x:Str) (v:V),N[i]?=some x->(ZY Z)[i]?=some (some v)->scope.names.lookup x=some .free/\∃j:Nat,X.N[j]?=some x/\Z[j]?=some (some v))
  (hs:∀x,foldedSetIterable iter X.env x=pure x:=by intro _;rfl):PE X (.ListComp elt [⟨tg,iter,ifs,0⟩] scope pos) (tW wi ZY g tt te):=by
 intro ao s Z H Q I h;obtain⟨cl,vI,c1,c2⟩:=K_ I B;rw[eval_ListComp];refine J8 (use:=none) rfl hs vI B.kind B.loc (aU (hi ao s Z H _ I h) λxv s1 h1=>aU h1 λitv s2 h2=>?_);obtain⟨it,fp,tn,bJ,H2,e,I2,T,st2,f2,hq⟩:=h2;subst e;exact Xi hc B P hl hZ I2 T st2 f2 hq c1 c2 (R:=λacc C=>compPost (model X.prog X.w) X.A X.xe none (EP X ao Z Q) acc C) λD C s' H' eE a b c d e ⟨m,hm⟩ q=>⟨m,hm,λh' sb=>⟨.ref D,H',K8 (Z':=Z) eE a b c d e sb,rfl,q⟩⟩
theorem ze1(hc:X.aj=true)(hN:X.N.Nodup)(tX:X.N[i]?=some y)(hx:Loc X.env.scope y)(hf:X.fn y=true\/X.env.scope.names.lookup y=some .local)(B:cg X.env.scope scope)(hi:PI X tg iter wi)(P:Parts X elt tg ifs scope N g tt te)(hl:∀Z,(ZY Z).length=N.length)
  (hZ:∀(Z:St) (i:Nat) (x:Str) (v:V),N[i]?=some x->(ZY Z)[i]?=some (some v)->scope.names.lookup x=some .free/\∃j:Nat,X.N[j]?=some x/\Z[j]?=some (some v))
  (tY:swapsWith (.ListComp elt [⟨tg,iter,ifs,0⟩] scope pos) (some (.Name y py)) spos.line X.env=pure true) (hs:∀x,foldedSetIterable iter X.env x=pure x:=by intro _;rfl) :
  PS X (.Assign [.Name y py] (.ListComp elt [⟨tg,iter,ifs,0⟩] scope pos) spos) (wB (tW wi ZY g tt te) (dz i)):=by
 intro ao s Z H D I h;obtain⟨cl,vI,c1,c2⟩:=K_ I B;rw[exec_Assign_Name_used _ _ _ _ tY];refine aB (v9 (aB ?_));show wpAny _ X.A (do let _ <-comprehension (.ListComp elt [⟨tg,iter,ifs,0⟩] scope pos) scope X.env _ (newList []) false (eval iter X.env) (some (assign (.Name y py) X.env))) _ _ s;refine aB (J8 (use:=some (assign (.Name y py) X.env)) rfl hs vI B.kind B.loc (aU (hi ao s Z H _ I h) λxv s1 h1=>aU h1 λitv s2 h2=>?_));obtain⟨it,fp,tn,bJ,H2,e,I2,T,st2,f2,hq⟩:=h2;subst e;refine Xi hc B P hl hZ I2 T st2 f2 hq c1 c2 (R:=λacc C=>compPost (model X.prog X.w) X.A X.xe (some (assign (.Name y py) X.env)) _ acc C) λD' C s' H' eE a b c d e ⟨m,hm⟩ q=>?_;show wpAny _ _ (assign (.Name y py) X.env (.ref D')) _ _ s';refine wpAny_assign_Name (Ov (v:=.ref D') eE hN tX hx rfl (λs5 jw ⟨ad,sb,QC⟩=>?_) hf);have nC:C≠ad:=by
  rcases QC with z|z
  ·rw[z];exact c
  ·exact(d y ad z).symm
 obtain⟨ol,es,ep,e1,r1⟩:=hm;refine⟨m,⟨ol,es,ep,(sb.2 C nC).trans e1,r1⟩,λh' QD=>aN (aN ⟨_,H',K8 (Z':=Z) jw a b c d e QD,q⟩)⟩
end
theorem zdX(elt target iter:Expr)(ifs:List Expr)(g₁:Comprehension)(scope:Scope)(pos:Pos)(it acc:Value)(env:Env) :
  compTurn (.ListComp elt [g₁,⟨target,iter,ifs,0⟩] scope pos) 1 it acc env=(do
   standAt iter.pos
   match <-pyNext it with
   |none=>pure (.done .next)
   |some v=>
    letOwnedTupleGo target it v
    assign target env v
    let mut ok:=true
    for c in ifs do
     if ok then ok <-isTrue c env (eval c env)
    if ok then
     (do let _ <-call (.builtin "list.append") [acc,<-eval elt env])
    again (.compLoop (.ListComp elt [g₁,⟨target,iter,ifs,0⟩] scope pos) 1 it acc env)):=by rfl
theorem zdI(elt target iter target₂ iter₂:Expr)(ifs ifs₂:List Expr)(scope:Scope)(pos:Pos)(it acc:Value)(env:Env) :
  compTurn (.ListComp elt [⟨target,iter,ifs,0⟩,⟨target₂,iter₂,ifs₂,0⟩] scope pos) 0 it acc env=(do
   standAt iter.pos
   match <-pyNext it with
   |none=>pure (.done .next)
   |some v=>
    letOwnedTupleGo target it v
    assign target env v
    let mut ok:=true
    for c in ifs do
     if ok then ok <-isTrue c env (eval c env)
    if ok then
     let x <-eval iter₂ env
     standAt iter₂.pos
     let x <-foldedSetIterable iter₂ env x
     let _ <-runOwn (.compStart (.ListComp elt [⟨target,iter,ifs,0⟩,⟨target₂,iter₂,ifs₂,0⟩] scope pos) 1 (<-holding [x] (pyIter x)) acc env) env
     again (.compLoop (.ListComp elt [⟨target,iter,ifs,0⟩,⟨target₂,iter₂,ifs₂,0⟩] scope pos) 0 it acc env)
    else
     again (.compLoop (.ListComp elt [⟨target,iter,ifs,0⟩,⟨target₂,iter₂,ifs₂,0⟩] scope pos) 0 it acc env)):=by rfl
theorem zjo(V:Nat->Shared->Prop)
  (turn:∀n s,V n s->wpAny (model prog w) A (pyNext it) (λr s₁=>match r with
   |none=>R (.ok .next) s₁
   |some v=>wpAny (model prog w) A (letOwnedTupleGo target it v) (λ_ s₂=>wpAny (model prog w) A (assign target env v) (λ_ s₃=>
     wpAny (model prog w) A (jG ifs env) (λok s₄=>
      if ok=true then wpAny (model prog w) A (eval elt env) (λx s₅=>wpAny (model prog w) A (call (.builtin "list.append") [acc,x]) (λ_ s₆=>∃m,m<n/\V m s₆) (λ_ _=>False) s₅) (λ_ _=>False) s₄
      else ∃m,m<n/\V m s₄) (λ_ _=>False) s₃) (λ_ _=>False) s₂) (λ_ _=>False) s₁) (λ_ _=>False) s)
  (n:Nat) (h:V n s):codeAny (model prog w) A (.compLoop (.ListComp elt [g₁,⟨target,iter,ifs,0⟩] scope pos) 1 it acc env) R s:=by
 refine codeAny_loop rfl V (λn s hV=>?_) n h;show wpAny _ A ((compTurn (.ListComp elt [g₁,⟨target,iter,ifs,0⟩] scope pos) 1 it acc env).onRaise (λx=>do noteFrame x env;theTreesLotGoes x)) _ _ s;refine wpAny_noted ?_;rw[zdX];refine aB (v9 (aB (gH (turn n s hV) (λr s₁ h₁=>?_) λ_ _ z=>z.elim)));cases r with
 |none=>exact aN h₁
 |some v=>
  refine aB (gH h₁ (λ_ s₂ h₂=>?_) λ_ _ z=>z.elim);refine aB (gH h₂ (λ_ s₃ h₃=>aB (gH h₃ (λok s₄ h₄=>?_) λ_ _ z=>z.elim)) λ_ _ z=>z.elim);cases ok with
  |true=>
   simp only[if_true] at h₄ ⊢;exact aB (aB (gH h₄ (λx s₅ h₅=>aB (gH h₅ (λ_ s₆ h₆=>aN (aN ⟨rfl,h₆⟩)) λ_ _ z=>z.elim)) λ_ _ z=>z.elim))
  |false=>
   simp only[u6,qw] at h₄ ⊢;exact aN ⟨rfl,h₄⟩
theorem zhF{prog:Program}{w:World}{A:Around}{R:Result->Shared->Prop}{s:Shared}{elt target iter target₂ iter₂:Expr}{ifs ifs₂:List Expr}{scope:Scope}{pos:Pos}{it acc:Value}{env:Env}(V:Nat->Shared->Prop)(hs:∀x,foldedSetIterable iter₂ env x=pure x)
  (turn:∀n s,V n s->wpAny (model prog w) A (pyNext it) (λr s₁=>match r with
   |none=>R (.ok .next) s₁
   |some v=>wpAny (model prog w) A (letOwnedTupleGo target it v) (λ_ s₂=>wpAny (model prog w) A (assign target env v) (λ_ s₃=>
     wpAny (model prog w) A (jG ifs env) (λok s₄=>
      if ok=true then wpAny (model prog w) A (eval iter₂ env) (λx s₅=>wpAny (model prog w) A (pyIter x) (λit₂ s₆=>codeAny (model prog w) A (.compStart (.ListComp elt [⟨target,iter,ifs,0⟩,⟨target₂,iter₂,ifs₂,0⟩] scope pos) 1 it₂ acc env) (λr s₇=>r=.ok .next/\∃m,m<n/\V m s₇) s₆) (λ_ _=>False) s₅) (λ_ _=>False) s₄
      else ∃m,m<n/\V m s₄) (λ_ _=>False) s₃) (λ_ _=>False) s₂) (λ_ _=>False) s₁) (λ_ _=>False) s)
  (n:Nat) (h:V n s):codeAny (model prog w) A (.compLoop (.ListComp elt [⟨target,iter,ifs,0⟩,⟨target₂,iter₂,ifs₂,0⟩] scope pos) 0 it acc env) R s:=by
 refine codeAny_loop rfl V (λn s hV=>?_) n h;show wpAny _ A ((compTurn (.ListComp elt [⟨target,iter,ifs,0⟩,⟨target₂,iter₂,ifs₂,0⟩] scope pos) 0 it acc env).onRaise (λx=>do noteFrame x env;theTreesLotGoes x)) _ _ s;refine wpAny_noted ?_;rw[zdI];refine aB (v9 (aB (gH (turn n s hV) (λr s₁ h₁=>?_) λ_ _ z=>z.elim)));cases r with
 |none=>exact aN h₁
 |some v=>
  refine aB (gH h₁ (λ_ s₂ h₂=>?_) λ_ _ z=>z.elim);refine aB (gH h₂ (λ_ s₃ h₃=>aB (gH h₃ (λok s₄ h₄=>?_) λ_ _ z=>z.elim)) λ_ _ z=>z.elim);cases ok with
  |true=>
   simp only[if_true] at h₄ ⊢;refine aB (gH h₄ (λx s₅ h₅=>aB (v9 (aB (C_ (hs x) (aB (qu (gH h₅ (λit₂ s₆ h₆=>aB (wpAny_runOwn (zR h₆ λr s₇ h₇=>?_))) λ_ _ z=>z.elim))))))) λ_ _ z=>z.elim);obtain⟨rfl,h₇⟩:=h₇;exact aN ⟨rfl,h₇⟩
  |false=>
   simp only[u6,qw] at h₄ ⊢;exact aN ⟨rfl,h₄⟩
theorem za7
  (h0:codeAny (model prog w) A (.compLoop (.ListComp elt [g₁,⟨target,iter,ifs,0⟩] scope pos) 1 it acc env) R s)
  (h:wpAny (model prog w) A (pyIter it) (λit' s'=>codeAny (model prog w) A (.compLoop (.ListComp elt [g₁,⟨target,iter,ifs,0⟩] scope pos) 1 it' acc env) R s') (λ_ _=>False) s) :
  codeAny (model prog w) A (.compStart (.ListComp elt [g₁,⟨target,iter,ifs,0⟩] scope pos) 1 it acc env) R s:=by
 refine codeAny_of_tree ?_;show wpAny _ _ ((compStart (.ListComp elt [g₁,⟨target,iter,ifs,0⟩] scope pos) 1 it acc env).onRaise (λx=>do noteFrame x env;standAt theWindowsPlace)) _ _ s;refine wpAny_notedAt ?_;unfold compStart;show wpAny _ _ (ask >>= _) _ _ s;refine aB (wpAny_askSetting (wpAny_ite ?_))
 split
 ·first
   |exact aB (aN (aN (And.intro rfl h0)))
   |exact aN (And.intro rfl h0)
 ·first
   |exact aB (Dh (aB (v9 (aB (gH h (λit' s' h'=>aN (And.intro rfl h')) λ_ _ x=>x.elim)))))
   |(refine aB (Dh ?_);show wpAny _ _ (standAt iter.pos >>= _) _ _ s;exact aB (v9 (aB (gH h (λit' s' h'=>aN (And.intro rfl h')) λ_ _ x=>x.elim))))
def QF(g:TG)(tt:TT)(te:TE)(D:Addr)(bJ:It)(Z:St)(H:Hp)(Nx:St->Hp->Prop):Prop:=∃W:Nat->Nat->St->Hp->Prop,(∃m,W 0 m Z H)/\∀i m Z' H',W i m Z' H'->
 (bJ.stop i H'/\Nx Z' H')\/(bJ.go i H'/\∃N:St->Hp->Prop,(∀Z2 H2,N Z2 H2->∃m',m'<m/\W (i+1) m' Z2 H2)/\∀x H2,bJ.tH i H' x H2->g x Z' H2 λZ3 H3=>tt Z3 H3 λok H4=>
  if ok=true then te Z3 H4 λy H5=>∃ys,H5 D=some (.lst ys)/\ys.length<sizeLine/\N Z3 (upd H5 D (.lst (ys++[y]))) else N Z3 H4)
theorem zi3{Y:Cx}{elt tg iter:Expr}{ifs:List Expr}{g₁:Comprehension}{scope:Scope}{pos:Pos}{g:TG}{tt:TT}{te:TE}(hc:Y.aj=true)(La:Y.xe=λ_ _=>False)(tgt:PG Y tg g)(Hx:Ds Y ifs tt)(el:PE Y elt te)
  {ao:List (Addr×Obj)} {s:Shared} {Z:St} {H:Hp} {D it:Addr} {fp:List Addr} {tn:Nat->Heap->Prop} {bJ:It} {Nx:St->Hp->Prop} (I:Inv Y ao Z H s) (T:Turn Y.prog Y.w Y.K tg bJ fp it tn) (st:tn 0 s.heap) (f:∀b∈fp,fB Y ao H b) (h:QF g tt te D bJ Z H Nx)
  {R:Result->Shared->Prop} (k:∀s' Z' H',Inv Y ao Z' H' s'->Nx Z' H'->R (.ok .next) s') :
  codeAny (model Y.prog Y.w) Y.A (.compStart (.ListComp elt [g₁,⟨tg,iter,ifs,0⟩] scope pos) 1 (.ref it) (.ref D) Y.env) R s:=by
 obtain⟨W,⟨m0,w0⟩,turn⟩:=h;have fY:∀{H':Hp},(∀b∈fp,H' b=none)->∀b∈fp,fB Y ao H' b:=λ{H'} z b hb=>⟨z b hb,(f b hb).2⟩;have loop:codeAny (model Y.prog Y.w) Y.A (.compLoop (.ListComp elt [g₁,⟨tg,iter,ifs,0⟩] scope pos) 1 (.ref it) (.ref D) Y.env) R s:=by
  refine zjo (λn s'=>∃i Z' H',Inv Y ao Z' H' s'/\tn i s'.heap/\(∀b∈fp,H' b=none)/\W i n Z' H') ?_ m0 ⟨0,Z,H,I,st,λb hb=>(f b hb).1,w0⟩;rintro n s5 ⟨i,Z5,H5,jw,sy,vC,w5⟩;rcases turn i n Z5 H5 w5 with ⟨stop,q⟩|⟨go,Nn,hN,step⟩
  ·refine aU (T.done Y rfl rfl rfl hc i ao s5 Z5 H5 _ jw (fY vC) sy stop) λr s6 ⟨hr,mL⟩=>?_;subst hr;exact k s6 Z5 H5 mL q
  ·refine aU (T.item Y rfl rfl rfl hc i ao s5 Z5 H5 _ jw (fY vC) sy go) λr s6 ⟨u,hr,h6⟩=>?_;subst hr;refine aU h6 λ_ s7 ⟨x,H7,tO,r7,y7,tQ,Hz⟩=>?_;have n6:=tO.pinned (fY Hz) (T.obj _ _ tQ);have a1:=tgt _ s7 Z5 H7 x u _ n6 r7 (step x H7 y7);rw[La] at a1;refine aU a1 λ_ s8 ⟨Z8,H8,tR,q8⟩=>?_;have a2:=Hx _ s8 Z8 H8 _ tR q8;rw[La] at a2;refine aU a2 λok s9 ⟨H9,tU,q9⟩=>?_;have again:∀{H':Hp} {s':Shared},Inv Y (ao++iW fp s7.heap) Z8 H' s'->Nn Z8 H'->∃m,m<n/\∃i Z' H',Inv Y ao Z' H' s'/\tn i s'.heap/\(∀b∈fp,H' b=none)/\W i m Z' H':=λ{H' s'} eE n'=>by
    obtain⟨m',hm,w'⟩:=hN Z8 H' n';refine⟨m',hm,i+1,Z8,H',eE.dU,T.keep _ _ _ tQ λb hb o e=>(eE.pin (b,o) (m_ _ (m_ _ (yt hb e)))).1,λb hb=>?_,w'⟩;obtain⟨o,e,d⟩:=T.obj _ _ tQ b hb;exact(eE.pin (b,o) (m_ _ (m_ _ (yt hb e)))).2.1
   cases ok with
   |false=>
    rw[if_neg (by decide)] at q9 ⊢;exact again tU q9
   |true=>
    rw[if_pos rfl] at q9 ⊢;have a3:=el _ s9 Z8 H9 _ tU q9;rw[La] at a3;refine aU a3 λv K9 ⟨y,Qy,tV,r10,ys,A_,hz,Qz⟩=>?_;have a4:=Qj (X:=Y) _ K9 Z8 Qy (.ref D) [y] (.ref D) [v] (λ_ H'=>Nn Z8 H') tV rfl (.cons r10 .nil) ⟨D,ys,y,rfl,rfl,A_,hz,Qz⟩;rw[La] at a4;exact aU a4 λ_ Xj ⟨_,Xk,n8,_,QB⟩=>again n8 QB
 exact za7 loop (T.self _ 0 _ _ _ st loop)
def yu(ZY:St->St)(g₁:TG)(wi₂:TI)(g:TG)(tt:TT)(te:TE)(bJ:It)(Z:St)(H:Hp)(Q:VK):Prop:=∀D,H D=none->∃W:Nat->Nat->St->Hp->Prop,(∃m,W 0 m (ZY Z) (upd H D (.lst [])))/\∀i m Z' H',W i m Z' H'->
 (bJ.stop i H'/\Q (.ref D) H')\/(bJ.go i H'/\∃N:St->Hp->Prop,(∀Z2 H2,N Z2 H2->∃m',m'<m/\W (i+1) m' Z2 H2)/\∀x H2,bJ.tH i H' x H2->g₁ x Z' H2 λZ3 H3=>wi₂ Z3 H3 λbJ₂ H5=>QF g tt te D bJ₂ Z3 H5 N)
section
variable {X:Cx}{elt tg iter tg₂ iter₂:Expr}{ifs₂:List Expr}{scope:Scope}{pos spos py:Pos}{N:List Str}{ZY:St->St}{wi wi₂:TI}{g g₁:TG}{tt:TT}{te:TE}{i:Nat}{y:Str}
structure jO(X:Cx)(elt tg tg₂ iter₂:Expr)(ifs₂:List Expr)(scope:Scope)(N:List Str)(g₁:TG)(wi₂:TI)(g:TG)(tt:TT)(te:TE):Prop where
 tgt₁:∀cl C s3 H3 fp ao,PG (X.blk scope cl N C s3 H3 fp ao) tg g₁
 it:∀cl C s3 H3 fp ao,PI (X.blk scope cl N C s3 H3 fp ao) tg₂ iter₂ wi₂
 tgt:∀cl C s3 H3 fp ao,PG (X.blk scope cl N C s3 H3 fp ao) tg₂ g
 Hx:∀cl C s3 H3 fp ao,Ds (X.blk scope cl N C s3 H3 fp ao) ifs₂ tt
 el:∀cl C s3 H3 fp ao,PE (X.blk scope cl N C s3 H3 fp ao) elt te
theorem Xl(hc:X.aj=true)(B:cg X.env.scope scope)(P:jO X elt tg tg₂ iter₂ ifs₂ scope N g₁ wi₂ g tt te)(hs₂:∀env x,foldedSetIterable iter₂ env x=pure x)(hl:∀Z,(ZY Z).length=N.length)
  (hZ:∀(Z:St) (i:Nat) (x:Str) (v:V),N[i]?=some x->(ZY Z)[i]?=some (some v)->scope.names.lookup x=some .free/\∃j:Nat,X.N[j]?=some x/\Z[j]?=some (some v))
  {ao:List (Addr×Obj)} {s:Shared} {Z:St} {H:Hp} {Q:VK} {it:Addr} {fp:List Addr} {tn:Nat->Heap->Prop} {bJ:It} (I:Inv X ao Z H s) (T:Turn X.prog X.w X.K tg bJ fp it tn) (st:tn 0 s.heap) (f:∀b∈fp,fB X ao H b) (h:yu ZY g₁ wi₂ g tt te bJ Z H Q)
  {cl:List (Str×Addr)} (c1:∀x c,cl.lookup x=some c->X.env.cells.lookup x=some c) (c2:∀x∈scope.names,x.2=.free->∃c,cl.lookup x.1=some c) {R:Value->Addr->Result->Shared->Prop} {E:Value->Shared->Prop}
  (k:∀D C s' H',Inv X ao Z H' s'->X.s₀.heap.objs.size<=C->H' C=none->C≠X.env.locals->(∀x c,X.env.cells.lookup x=some c->c≠C)->(∀p∈X.pn++ao,p.1≠C)->(∃m,s'.heap.Ns C m)->Q (.ref D) H'->R (.ref D) C (.ok .next) s') :
  wpAny (model X.prog X.w) X.A (newList []) (λacc s₃=>wpAny (model X.prog X.w) X.A (newFunctionEnv scope X.env.globals cl [] X.env.qual none .none (some X.env)) (λcenv s₄=>
   codeAny (model X.prog X.w) X.A (.compStart (.ListComp elt [⟨tg,iter,[],0⟩,⟨tg₂,iter₂,ifs₂,0⟩] scope pos) 0 (.ref it) acc {cenv with scope:=relabel scope X.env}) (R acc cenv.locals) s₄) E s₃) E s:=by
 refine o9 ?_;have hD:H s.heap.objs.size=none:=I.hok.fresh (b_ _);have I3:Inv X ao Z (upd H s.heap.objs.size (.lst [])) {s with heap:=s.heap.push {cls:=.type "list",dict:=none,data:=.seq ([]:List Value).toArray}}:=
  I.laid (t':=s.toks) (λb u q=>cM _ q) (b_ _) ⟨wu _,[],0,.nil,fL _ rfl⟩
 have f3:∀b∈fp,fB X ao (upd H s.heap.objs.size (.lst [])) b:=λb hb=>by
  obtain⟨a1,a2⟩:=f b hb;obtain⟨o,q,_⟩:=T.obj 0 _ st b hb;exact⟨by rw[cW (dN (bZ q))];exact a1,a2⟩
 have st3:tn 0 (s.heap.push {cls:=.type "list",dict:=none,data:=.seq ([]:List Value).toArray}):=T.keep _ _ _ st λb hb o q=>cM _ q;obtain⟨W,⟨m0,w0⟩,turn⟩:=h s.heap.objs.size hD;generalize Qx:({s with heap:=s.heap.push {cls:=.type "list",dict:=none,data:=.seq ([]:List Value).toArray}}:Shared)=s3 at *;have pN:tn 0 s3.heap:=by rw[<-Qx];exact st3
 generalize hH3:upd H s.heap.objs.size (.lst [])=H3 at *;refine Xc (λx c q=>by obtain⟨v,o,q1,_⟩:=I3.cell x c (c1 x c q);exact bZ q1) (λx y c a b=>I3.ok.inj x y c (c1 x c a) (c1 y c b)) λh1 eY hn kp CN=>?_;have Az:Inv (X.blk scope eY N s3.heap.objs.size s3 H3 fp ao) [] (ZY Z) H3 {s3 with heap:=h1}:=
  Xe (t:=s3.toks) I3 B c1 c2 f3 (λb hb=>let ⟨o,q,_⟩:=T.obj 0 _ pN b hb;⟨o,q⟩) hn kp CN (hl Z) (hZ Z)
 have Hy:tn 0 h1:=T.keep _ _ _ pN λb hb o q=>kp b o q;have fY:∀{H':Hp},(∀b∈fp,H' b=none)->∀b∈fp,fB (X.blk scope eY N s3.heap.objs.size s3 H3 fp ao) [] H' b:=λ{H'} z b hb=>by
  obtain⟨a1,a2,a3,a4,a5,a6⟩:=f3 b hb;obtain⟨o,q,_⟩:=T.obj 0 _ pN b hb;refine⟨z b hb,dN (bZ q),λy=>(iU.mp (I3.jL b y)).elim a2 a3,.inl hb,λx c y=>?_,λp hp=>a6 p ?_⟩
  ·rcases CN.d1 x c y with ⟨q1,_⟩|⟨_,q1,_⟩
   ·exact a5 x c (c1 x c q1)
   ·exact λe=>absurd (bZ q) (by rw[<-e];exact Dg.mpr (wg q1))
  have y:p∈(X.pn++ao)++[]:=hp;simpa using y
 have loop:codeAny (model X.prog X.w) X.A (.compLoop (.ListComp elt [⟨tg,iter,[],0⟩,⟨tg₂,iter₂,ifs₂,0⟩] scope pos) 0 (.ref it) (.ref s.heap.objs.size) (compEnvC scope eY s3.heap.objs.size X.env)) (R (.ref s.heap.objs.size) s3.heap.objs.size) {s3 with heap:=h1}:=by
  refine zhF (λn s'=>∃i Z' H',Inv (X.blk scope eY N s3.heap.objs.size s3 H3 fp ao) [] Z' H' s'/\tn i s'.heap/\(∀b∈fp,H' b=none)/\W i n Z' H') (hs₂ _) ?_ m0 ⟨0,ZY Z,H3,Az,Hy,λb hb=>(f3 b hb).1,w0⟩;rintro n s5 ⟨i,Z5,H5,jw,sy,vC,w5⟩;rcases turn i n Z5 H5 w5 with ⟨stop,q⟩|⟨go,Nx,hN,step⟩
  ·refine aU (T.done (X.blk scope eY N s3.heap.objs.size s3 H3 fp ao) rfl rfl rfl hc i [] s5 Z5 H5 _ jw (fY vC) sy stop) λr s6 ⟨hr,mL⟩=>?_;subst hr;have JX:=Xh I3 f3 mL;refine k s.heap.objs.size s3.heap.objs.size s6 H5 JX I3.sz mL.free (vh I3.lt) (λx c y z=>?_) (λp hp z=>?_) ?_ q
   ·obtain⟨v,qc⟩:=I3.cell x c y;exact absurd qc.lt (by rw[z];exact pB _)
   ·exact absurd (bZ (I3.pin p hp).1) (by rw[z];exact pB _)
   ·obtain⟨m,hm,_⟩:=mL.loc;exact⟨m,hm⟩
  ·refine aU (T.item (X.blk scope eY N s3.heap.objs.size s3 H3 fp ao) rfl rfl rfl hc i [] s5 Z5 H5 _ jw (fY vC) sy go) λr s6 ⟨u,hr,h6⟩=>?_;subst hr;refine aU h6 λ_ s7 ⟨x,H7,tO,r7,y7,tQ,Hz⟩=>?_;have n6:=tO.pinned (fY Hz) (T.obj _ _ tQ);refine aU (P.tgt₁ eY s3.heap.objs.size s3 H3 fp ao _ s7 Z5 H7 x u _ n6 r7 (step x H7 y7)) λ_ s8 ⟨Z8,H8,tR,q8⟩=>?_;refine aU (wpAny_tests_nil (env:=compEnvC scope eY s3.heap.objs.size X.env) (Q:=λok s'=>ok=true/\s'=s8) ⟨rfl,rfl⟩) λok s9 ⟨e9,e9'⟩=>?_;subst e9 e9';rw[if_pos rfl];refine aU (P.it eY s3.heap.objs.size s3 H3 fp ao _ s9 Z8 H8 _ tR q8) λxv K9 h10=>aU h10 λitv Xj h11=>?_;obtain⟨it₂,fp₂,tn₂,bJ₂,Xk,e11,n8,T₂,st₂,f₂,hq⟩:=h11;subst e11;refine zi3 (Y:=X.blk scope eY N s3.heap.objs.size s3 H3 fp ao) hc rfl (P.tgt eY s3.heap.objs.size s3 H3 fp ao) (P.Hx eY s3.heap.objs.size s3 H3 fp ao) (P.el eY s3.heap.objs.size s3 H3 fp ao) n8 T₂ st₂ f₂ hq λs' Z' H' eE n'=>⟨rfl,?_⟩;obtain⟨m',hm,w'⟩:=hN Z' H' n';refine⟨m',hm,i+1,Z',H',eE.dU,T.keep _ _ _ tQ λb hb o e=>(eE.pin (b,o) (m_ _ (m_ _ (yt hb e)))).1,λb hb=>?_,w'⟩;obtain⟨o,e,d⟩:=T.obj _ _ tQ b hb;exact(eE.pin (b,o) (m_ _ (m_ _ (yt hb e)))).2.1
 exact codeAny_compStart_list loop (T.self _ 0 _ _ _ Hy loop)
noncomputable def pO(wi:TI)(ZY:St->St)(g₁:TG)(wi₂:TI)(g:TG)(tt:TT)(te:TE):TE:=λZ H Q=>wi Z H λbJ H1=>yu ZY g₁ wi₂ g tt te bJ Z H1 Q
theorem zhT(hc:X.aj=true)(B:cg X.env.scope scope)(hi:PI X tg iter wi)(P:jO X elt tg tg₂ iter₂ ifs₂ scope N g₁ wi₂ g tt te)(hs₂:∀env x,foldedSetIterable iter₂ env x=pure x)(hl:∀Z,(ZY Z).length=N.length)
  (hZ:∀(Z:St) (i:Nat) (x:Str) (v:V),N[i]?=some x->(ZY Z)[i]?=some (some v)->scope.names.lookup x=some .free/\∃j:Nat,X.N[j]?=some x/\Z[j]?=some (some v))
  (hs:∀x,foldedSetIterable iter X.env x=pure x:=by intro _;rfl):PE X (.ListComp elt [⟨tg,iter,[],0⟩,⟨tg₂,iter₂,ifs₂,0⟩] scope pos) (pO wi ZY g₁ wi₂ g tt te):=by
 intro ao s Z H Q I h;obtain⟨cl,vI,c1,c2⟩:=K_ I B;rw[eval_ListComp];refine J8 (use:=none) rfl hs vI B.kind B.loc (aU (hi ao s Z H _ I h) λxv s1 h1=>aU h1 λitv s2 h2=>?_);obtain⟨it,fp,tn,bJ,H2,e,I2,T,st2,f2,hq⟩:=h2;subst e;exact Xl hc B P hs₂ hl hZ I2 T st2 f2 hq c1 c2 (R:=λacc C=>compPost (model X.prog X.w) X.A X.xe none (EP X ao Z Q) acc C) λD C s' H' eE a b c d e ⟨m,hm⟩ q=>⟨m,hm,λh' sb=>⟨.ref D,H',K8 (Z':=Z) eE a b c d e sb,rfl,q⟩⟩
theorem zd4(hc:X.aj=true)(hN:X.N.Nodup)(tX:X.N[i]?=some y)(hx:Loc X.env.scope y)(hf:X.fn y=true\/X.env.scope.names.lookup y=some .local)(B:cg X.env.scope scope)(hi:PI X tg iter wi)(P:jO X elt tg tg₂ iter₂ ifs₂ scope N g₁ wi₂ g tt te)(hs₂:∀env x,foldedSetIterable iter₂ env x=pure x)(hl:∀Z,(ZY Z).length=N.length)
  (hZ:∀(Z:St) (i:Nat) (x:Str) (v:V),N[i]?=some x->(ZY Z)[i]?=some (some v)->scope.names.lookup x=some .free/\∃j:Nat,X.N[j]?=some x/\Z[j]?=some (some v))
  (tY:swapsWith (.ListComp elt [⟨tg,iter,[],0⟩,⟨tg₂,iter₂,ifs₂,0⟩] scope pos) (some (.Name y py)) spos.line X.env=pure true) (hs:∀x,foldedSetIterable iter X.env x=pure x:=by intro _;rfl) :
  PS X (.Assign [.Name y py] (.ListComp elt [⟨tg,iter,[],0⟩,⟨tg₂,iter₂,ifs₂,0⟩] scope pos) spos) (wB (pO wi ZY g₁ wi₂ g tt te) (dz i)):=by
 intro ao s Z H D I h;obtain⟨cl,vI,c1,c2⟩:=K_ I B;rw[exec_Assign_Name_used _ _ _ _ tY];refine aB (v9 (aB ?_));show wpAny _ X.A (do let _ <-comprehension (.ListComp elt [⟨tg,iter,[],0⟩,⟨tg₂,iter₂,ifs₂,0⟩] scope pos) scope X.env _ (newList []) false (eval iter X.env) (some (assign (.Name y py) X.env))) _ _ s;refine aB (J8 (use:=some (assign (.Name y py) X.env)) rfl hs vI B.kind B.loc (aU (hi ao s Z H _ I h) λxv s1 h1=>aU h1 λitv s2 h2=>?_));obtain⟨it,fp,tn,bJ,H2,e,I2,T,st2,f2,hq⟩:=h2;subst e;refine Xl hc B P hs₂ hl hZ I2 T st2 f2 hq c1 c2 (R:=λacc C=>compPost (model X.prog X.w) X.A X.xe (some (assign (.Name y py) X.env)) _ acc C) λD' C s' H' eE a b c d e ⟨m,hm⟩ q=>?_;show wpAny _ _ (assign (.Name y py) X.env (.ref D')) _ _ s';refine wpAny_assign_Name (Ov (v:=.ref D') eE hN tX hx rfl (λs5 jw ⟨ad,sb,QC⟩=>?_) hf);have nC:C≠ad:=by
  rcases QC with z|z
  ·rw[z];exact c
  ·exact(d y ad z).symm
 obtain⟨ol,es,ep,e1,r1⟩:=hm;refine⟨m,⟨ol,es,ep,(sb.2 C nC).trans e1,r1⟩,λh' QD=>aN (aN ⟨_,H',K8 (Z':=Z) jw a b c d e QD,q⟩)⟩
end
end L2
namespace L2
open PySem PySem.Spec PyProof.Rows PySem.W
noncomputable def bY{α:Type}(lt:Nat->Nat->Option Bool):KasT α->Option α
 |.ret a=>some a
 |.ask i j k=>match lt i j with
  |some b=>bY lt (k b)
  |none=>none
theorem Xm{α:Type}{lt:Nat->Nat->Option Bool}{cmp:Nat->Nat->(Bool->Shared->Prop)->Shared->Prop}{Q:α->Shared->Prop}{s:Shared}(hc:∀i j b C,lt i j=some b->C b s->cmp i j C s){a:α}(q:Q a s):∀{t:KasT α},bY lt t=some a->t.kasWp cmp Q s
 |.ret a',h=>by
  unfold bY at h;cases h;exact q
 |.ask i j k,h=>by
  unfold bY at h;cases e:lt i j with
  |none=>rw[e] at h;cases h
  |some b=>
   rw[e] at h;exact hc i j b _ e (Xm hc q h)
noncomputable def jx(vs:List Value)(p:Array Nat):Array Value:=if vs.length<2 then vs.toArray else List.toArray (p.toList.map λi=>vs.getD i Value.none)
section
variable {prog:Program}{w:World}{A:Around}{E:Value->Shared->Prop}{s:Shared}{κ:SortKind}{lt:Nat->Nat->Option Bool}{p:Array Nat}
theorem zcW{a:Addr}{vs:List Value}{n:Nat}{P:PySem.Fin->Shared->Prop}(ho:s.heap.get? a=some (seqObj "list" vs.toArray n))(tZ:vs.length<64)
  (hk:2<=vs.length->∀(s':Shared) (Q:SortKind->Shared->Prop),(∀b o,b≠a->s.heap.get? b=some o->s'.heap.get? b=some o)->Q κ s'->wpAny (model prog w) A (keyKind' vs.toArray) Q E s')
  (dF:2<=vs.length->∀(s':Shared) i j b C,(∀b o,b≠a->s.heap.get? b=some o->s'.heap.get? b=some o)->lt i j=some b->C b s'->kas_ask prog w A κ vs i j C s') (hr:2<=vs.length->bY lt (kas_sort vs.length)=some p) (QG:2<=vs.length->p.size=vs.length)
  (h:P (.done (.ret .none)) {s with heap:=sortedHeap s.heap a vs (jx vs p)}) :
  wpAny (model prog w) A (Builtin.«list.sort» ⟨[.ref a],[]⟩) P E s:=by
 rw[list_sort_plain];have ha:a<s.heap.objs.size:=bZ ho;refine aB (listItems_at ho rfl ?_);refine aB (listUpdate_at ho rfl ?_ (by rw[fZ,vm];lia) (wu _));obtain⟨e1,Lb⟩ : ∃e1,(s.heap.update a (Obj.mapSeq λ_=>#[])).get? a=some (seqObj "list" #[] e1):=⟨_,get?_update_seq ho (λ_=>#[])⟩;refine aB (seqEpoch_at Lb rfl ?_);refine aB (wpAny_newTuple ?_ (by show vs.length<=_;rw[vm];lia));refine aB (wpAny_newList ?_ (wu _));refine qu ?_;have keep:∀b o,b≠a->s.heap.get? b=some o->(((s.heap.update a (Obj.mapSeq λ_=>(#[]:Array Value))).push (seqObj "tuple" vs.toArray 0)).push (seqObj "list" #[] 0)).get? b=some o:=λb o nb e=>
  cM _ (cM _ ((Heap.get?_update_ne _ _ _ _ nb).trans e))
 have Ld:(((s.heap.update a (Obj.mapSeq λ_=>(#[]:Array Value))).push (seqObj "tuple" vs.toArray 0)).push (seqObj "list" #[] 0)).get? a=some (seqObj "list" #[] e1):=by
  rw[Kc _ _ _ (by rw[size_push',Heap.size_update];exact dN (u_ ha)),Kc _ _ _ (by rw[Heap.size_update];exact dN ha)];exact Lb
 show wpAny (model prog w) A _ P E {s with heap:=((s.heap.update a (Obj.mapSeq λ_=>#[])).push (seqObj "tuple" vs.toArray 0)).push (seqObj "list" #[] 0)};dsimp only;have hsz:vs.toArray.size=vs.length:=by simp
 by_cases h2:vs.toArray.size<2
 ·rw[if_pos h2,if_pos h2];refine aB (aN ?_);rw[StateT.run_pure];refine aB (aN ?_);dsimp only;refine aB (seqEpoch_at Ld rfl ?_);refine aB (listUpdate_at Ld rfl ?_ (wu _) (by rw[Array.size_map];show (pairsOf vs).size<=_;rw[pairsOf_size,vm];lia));simp only[bne_self_eq_false,u6,qw];have e:((vs.toArray.zip vs.toArray).map (·.2))=jx vs p:=by
   unfold jx;rw[if_pos (by rw[hsz] at h2;exact h2)];apply Array.toList_inj.mp;simp[List.map_snd_zip]
  refine aN ?_;have h':=h;rw[<-e] at h';exact h'
 ·rw[if_neg h2,if_neg h2];have n_:2<=vs.length:=by lia
  refine aB (hk n_ _ _ keep ?_);refine aB (gH (kat_run (κ:=κ) (ks:=vs) (vs:=vs) (G:=λp' s'=>p'=p/\s'={s with heap:=((s.heap.update a (Obj.mapSeq λ_=>#[])).push (seqObj "tuple" vs.toArray 0)).push (seqObj "list" #[] 0)})
   (Q:=λst' s'=>arrOf st'=p.map (kas_item (vs.toArray.zip vs.toArray))/\failedOf st'=none/\s'={s with heap:=((s.heap.update a (Obj.mapSeq λ_=>#[])).push (seqObj "tuple" vs.toArray 0)).push (seqObj "list" #[] 0)})
   rfl n_ tZ (λp' st' s' a1 a2 a3 a4=>⟨by rw[a2,a4.1],a3,a4.2⟩) (Xm (λi j b C hl hC=>dF n_ _ i j b C keep hl hC) ⟨rfl,rfl⟩ (hr n_))) ?_ λ_ _ e=>e)
  rintro⟨⟨⟩,st'⟩ s' ⟨Le,hf,rfl⟩;dsimp only;have hout:=kat_snds (ks:=vs) (vs:=vs) rfl Le;have e:List.toArray (p.toList.map λi=>vs.getD i Value.none)=jx vs p:=by
   unfold jx;rw[if_neg (by lia)]
  rw[hout,e];have hso:(jx vs p).size=vs.length:=by rw[<-e,fZ,cR,zG,QG n_]
  refine aB (seqEpoch_at Ld rfl ?_);refine aB (listUpdate_at Ld rfl ?_ (wu _) (by rw[hso,vm];lia));rw[hf];simp only[bne_self_eq_false,u6,qw];exact aN h
theorem QJ(hl:s.heap.IsList l vs.toArray)(tZ:vs.length<64)
  (hk:2<=vs.length->∀(s':Shared) (Q:SortKind->Shared->Prop) E,(∀b o,s.heap.get? b=some o->s'.heap.get? b=some o)->Q κ s'->wpAny (model prog w) A.in1.in1 (keyKind' vs.toArray) Q E s')
  (dF:2<=vs.length->∀(s':Shared) i j b C,(∀b o,s.heap.get? b=some o->s'.heap.get? b=some o)->lt i j=some b->C b s'->kas_ask prog w A.in1.in1 κ vs i j C s') (hr:2<=vs.length->bY lt (kas_sort vs.length)=some p) (QG:2<=vs.length->p.size=vs.length)
  (h:Q (.ref (s.heap.objs.size+1)) {s with heap:=sortedAll s.heap vs (jx vs p)}) :
  wpAny (model prog w) A (call (.builtin "sorted") [.ref l]) Q E s:=by
 refine Calls.call_function_entry kind_sorted plain_sorted entry_sorted (args_sorted1 _) ?_;unfold Builtin.«sorted»;refine aB (m:=checkCount "sorted" 1 1 _) (aN ?_);refine aB (collect_list hl ?_ (by rw[vm];lia));refine aB (wpAny_newList ?_ (by rw[vm];lia));have hsz:((s.heap.push (seqObj "list" #[] 0)).update s.heap.objs.size (Obj.mapSeq (·++vs.toArray))).objs.size=s.heap.objs.size+1:=by
  rw[Heap.size_update,size_push']
 have KC:(((s.heap.push (seqObj "list" #[] 0)).update s.heap.objs.size (Obj.mapSeq (·++vs.toArray))).push (seqObj "list" vs.toArray 0)).get? (s.heap.objs.size+1)=some (seqObj "list" vs.toArray 0):=by
  rw[<-hsz];exact fL _ rfl
 have keep:∀b o,s.heap.get? b=some o->(((s.heap.push (seqObj "list" #[] 0)).update s.heap.objs.size (Obj.mapSeq (·++vs.toArray))).push (seqObj "list" vs.toArray 0)).get? b=some o:=λb o q=>by
  have dF:b<s.heap.objs.size:=bZ q;rw[Kc _ _ _ (by rw[hsz];exact dN (u_ dF)),Heap.get?_update_ne _ _ _ _ (dN dF),Kc _ _ _ (dN dF)];exact q
 show wpAny _ _ _ _ _ {s with heap:=((s.heap.push (seqObj "list" #[] 0)).update s.heap.objs.size (Obj.mapSeq (·++vs.toArray))).push (seqObj "list" vs.toArray 0)};rw[hsz];have nn:∀b o,s.heap.get? b=some o->b≠s.heap.objs.size+1:=λb o e=>dN (u_ (bZ e));refine aB (qu (vZ slot_list_sort ⟨_,KC,rfl⟩ entry_list_sort (zcW (κ:=κ) (lt:=lt) (p:=p) KC tZ (λh2 s' Q' k q=>hk h2 s' Q' _ (λb o e=>k b o (nn b o e) (keep b o e)) q) (λh2 s' i j b C k e q=>dF h2 s' i j b C (λb o e=>k b o (nn b o e) (keep b o e)) e q) hr QG ⟨_,rfl,?_⟩) (args_list_sort _)));exact aN ⟨_,rfl,h⟩
end
noncomputable def lg:List V->List V->Option Bool
 |[],ys=>some (decide (0<ys.length))
 |_::_,[]=>some false
 |.int x::xs,.int y::ys=>if x=y then lg xs ys else some (decide (x<y))
 |_::_,_::_=>none
theorem zls{prog:Program}{w:World}{A:Around}{s:Shared}{fin:Bool}{C:Bool->Shared->Prop}{b:Bool}:∀{us ws:List V} {its jts:List Value} {i:Nat},Vals us its->Vals ws jts->lg us ws=some b->fin=decide (us.length<ws.length)->C b s->KatLex prog w A true fin C (its.zip jts) i s:=by
 intro us ws its jts i r1
 induction r1 generalizing ws jts i with
 |nil=>
  intro _ h hf hc;rw[List.zip_nil_left];unfold lg at h;cases h;rw[hf];exact kat_nil hc
 |@cons x u us its rx ri ih=>
  intro r2 h hf hc;cases r2 with
  |nil=>
   rw[List.zip_nil_right];unfold lg at h;cases h;rw[hf];exact kat_nil (by simpa using hc)
  |@cons y v ws jts ry rj=>
   rw[Fw];cases x with
   |int a=>
    cases y with
    |int c=>
     obtain⟨t,rfl⟩:=rx;obtain⟨t',rfl⟩:=ry;unfold lg at h;refine kat_cons (wpAny_eqBool_int ?_);by_cases e:a=c
     ·rw[if_pos e] at h;subst e;rw[zL];exact kat_yes (ih rj h (by rw[hf];simp) hc)
     ·rw[if_neg e] at h;cases h;rw[show (a==c)=false by simpa using e];refine kat_no ?_;by_cases hi:i=0
      ·subst hi;exact oneLt_int hc
      ·rw[show (true&&i==0)=false by simpa using hi];exact kat_one _ _ (wpAny_lt_int hc)
    |_=>cases h
   |_=>cases y<;>cases h
def t_(K:W.Frag)(H:Hp)(ys:List V)(lt:Nat->Nat->Option Bool):Prop:=
 ((∀v∈ys,∃i,v=V.int i)/\∀i j b,lt i j=some b->∃x y,ys[i]?=some (.int x)/\ys[j]?=some (.int y)/\b=decide (x<y)) \/
 ((∀v∈ys,∃a i r,v=.ref a/\gw K H a (.int i::r))/\∀i j b,lt i j=some b->∃a c us ws,ys[i]?=some (.ref a)/\ys[j]?=some (.ref c)/\gw K H a us/\gw K H c ws/\lg us ws=some b)
noncomputable def lq(ys:List V)(p:Array Nat):List V:=if ys.length<2 then ys else p.toList.map λi=>ys.getD i .non
theorem Xn(r:Vals ys its):∀l:List Nat,Vals (l.map λi=>ys.getD i .non) (l.map λi=>its.getD i Value.none)
 |[]=>.nil
 |i::l=>by
  refine .cons ?_ (Xn r l);cases e:ys[i]? with
  |some y=>
   obtain⟨u,e1,e2⟩:=r.get e;show RelV (ys.getD i .non) (its.getD i Value.none);rw[kW,kW,e,e1];exact e2
  |none=>
   have e1:its[i]?=none:=by rw[qm] at e ⊢;rw[<-r.length];exact e
   show RelV (ys.getD i .non) (its.getD i Value.none);rw[kW,kW,e,e1];rfl
theorem zia{ys:List V}{its:List Value}(r:Vals ys its)(p:Array Nat):Vals (lq ys p) (jx its p).toList:=by
 unfold lq jx;rw[r.length];by_cases h:its.length<2
 ·rw[if_pos h,if_pos h];exact r
 ·rw[if_neg h,if_neg h];exact Xn r p.toList
theorem zhB{ys:List V}{its:List Value}(r:Vals ys its):∀u∈its,∃v∈ys,RelV v u:=by
 induction r with
 |nil=>intro u hu;cases hu
 |cons h t ih=>
  intro u hu;rcases iU.mp hu with rfl|hu
  ·exact⟨_,lC,h⟩
  ·obtain⟨v,a,b⟩:=ih u hu;exact⟨v,h_ _ a,b⟩
section
variable {X:Cx}
theorem zgy{prog:Program}{w:World}{A:Around}{E:Value->Shared->Prop}{s:Shared}{its:List Value}{Q:SortKind->Shared->Prop}(h2:2<=its.length)(hi:∀u∈its,∃i t,u=Value.int i t)(q:Q oneType' s):wpAny (model prog w) A (keyKind' its.toArray) Q E s:=
 kas_kind (T:=.type "int") h2 (λv hv=>by obtain⟨i,t,rfl⟩:=hi v hv;exact .of_pure rfl) (by decide) (by decide) q
theorem ziU{K:W.Frag}{ao:List (Addr×Obj)}{s:Shared}{Z:St}{H:Hp}(I:Inv X ao Z H s){h':Heap}(k:∀b o,s.heap.get? b=some o->h'.get? b=some o):∀{ys:List V} {its:List Value},Vals ys its->(∀v∈ys,∃a i r,v=.ref a/\gw X.K H a (.int i::r))->∃fs:List Value,fs.length=its.length/\(∀f∈fs,∃i t,f=Value.int i t)/\KatTups h' its fs:=by
 intro ys its r0
 induction r0 with
 |nil=>exact λ_=>⟨[],rfl,(λf hf=>by cases hf),trivial⟩
 |@cons v u ys its r rs ih=>
  intro h;obtain⟨a,i,r',rfl,hq⟩:=h _ lC;obtain⟨fs,l,hf,kt⟩:=ih λv hv=>h v (h_ _ hv);obtain⟨its',rv,⟨o,ho,hc,n,hd⟩,_⟩:=I.tuple hq;cases (show u=Value.ref a from r);cases rv with
  |cons ri rr=>
   obtain⟨t,rfl⟩:=ri;refine⟨Value.int i t::fs,by simp[l],λf hf'=>?_,KatTups.cons (k _ _ ho) hc hd (by simp) kt⟩;rcases iU.mp hf' with rfl|z
   ·exact⟨i,t,rfl⟩
   ·exact hf f z
theorem zgW{prog:Program}{w:World}{A:Around}{E:Value->Shared->Prop}{s:Shared}{its fs:List Value}{Q:SortKind->Shared->Prop}(h2:2<=its.length)(hl:fs.length=its.length)(hi:∀u∈fs,∃i t,u=Value.int i t)(kt:KatTups s.heap its fs)(q:Q (tuples' true) s):wpAny (model prog w) A (keyKind' its.toArray) Q E s:=
 kat_kind (T:=.type "int") kt (by lia) (λv hv=>by obtain⟨i,t,rfl⟩:=hi v hv;exact .of_pure rfl) (by decide) q
theorem Lf{its:List Value}{i:Nat}{u:Value}(h:its[i]?=some u):its.getD i Value.none=u:=by rw[kW,h];rfl
theorem zd3:cO X (.builtin "sorted") (λxs H Q=>∃l ys lt p,xs=[.ref l]/\cT X.K H l ys/\ys.length<64/\(2<=ys.length->t_ X.K H ys lt/\bY lt (kas_sort ys.length)=some p/\p.size=ys.length)/\∀r,H r=none->Q (.ref r) (upd H r (.lst (lq ys p)))):=by
 intro ao s Z H xs us Q I r h;obtain⟨l,ys,lt,p,rfl,hq,tZ,hs,q⟩:=h;obtain⟨u,rfl,rx⟩:=vals1 r;cases rx;obtain⟨its,rv,pl,hz⟩:=I.list hq;have hlen:=rv.length;have fin:EP X ao Z Q (.ref (s.heap.objs.size+1)) {s with heap:=sortedAll s.heap its (jx its p)}:=by
  obtain⟨e,he⟩:=sortedAll_at s.heap its (jx its p);have hn:H (s.heap.objs.size+1)=none:=I.hok.fresh (Nat.le_succ _);refine⟨.ref (s.heap.objs.size+1),_,I.laid (t':=s.toks) (λb u q=>sortedAll_old q) (Nat.le_succ _) (show bM X.prog X.w _ _ _ (.lst (lq ys p)) from ⟨?_,(jx its p).toList,e,zia rv p,by rw[Array.toArray_toList];exact he⟩),rfl,q _ hn⟩;unfold lq;by_cases h2:ys.length<2
  ·rw[if_pos h2];exact hz
  ·rw[if_neg h2,cR,zG,(hs (by lia)).2.2];exact hz
 by_cases h2:2<=ys.length
 ·obtain⟨hS,hr,hp⟩:=hs h2;rcases hS with ⟨hI,dF⟩|⟨hT,dF⟩
  ·refine QJ (κ:=oneType') (lt:=lt) (p:=p) pl.isList (by lia) (λn_ s' Q' E' k q'=>zgy n_ (λu hu=>?_) q') (λ_ s' i j b C k e hC=>?_) (λ_=>by rw[<-hlen];exact hr) (λ_=>by lia) fin
   ·obtain⟨v,hv,rr⟩:=zhB rv u hu;obtain⟨i,rfl⟩:=hI v hv;obtain⟨t,rfl⟩:=rr;exact⟨i,t,rfl⟩
   ·obtain⟨x,y,e1,e2,rfl⟩:=dF i j b e;obtain⟨u1,f1,g1⟩:=rv.get e1;obtain⟨u2,f2,g2⟩:=rv.get e2;obtain⟨t1,rfl⟩:=g1;obtain⟨t2,rfl⟩:=g2;show wpAny _ _ (keyLt' oneType' (its.getD i Value.none) (its.getD j Value.none)) C _ s';rw[Lf f1,Lf f2];exact kat_lt_int hC
  ·refine QJ (κ:=tuples' true) (lt:=lt) (p:=p) pl.isList (by lia) (λn_ s' Q' E' k q'=>?_) (λ_ s' i j b C k e hC=>?_) (λ_=>by rw[<-hlen];exact hr) (λ_=>by lia) fin
   ·obtain⟨fs,l1,hf,kt⟩:=ziU (K:=X.K) I k rv hT;exact zgW n_ l1 hf kt q'
   ·obtain⟨a,c,us,ws,e1,e2,q1,q2,e3⟩:=dF i j b e;obtain⟨u1,f1,g1⟩:=rv.get e1;obtain⟨u2,f2,g2⟩:=rv.get e2;cases (show u1=Value.ref a from g1);cases (show u2=Value.ref c from g2);obtain⟨i1,r1,⟨o1,Lb,hc1,n1,hd1⟩,_⟩:=I.tuple q1;obtain⟨i2,r2,⟨o2,pJ,qD,n2,hd2⟩,_⟩:=I.tuple q2;show wpAny _ _ (keyLt' (tuples' true) (its.getD i Value.none) (its.getD j Value.none)) C _ s';rw[Lf f1,Lf f2];refine kat_lt (k _ _ Lb) hd1 (k _ _ pJ) hd2 (zls r1 r2 e3 ?_ hC);rw[r1.length,r2.length];simp
 ·exact QJ (κ:=oneType') (lt:=lt) (p:=p) pl.isList (by lia) (λn_=>absurd n_ (by lia)) (λn_=>absurd n_ (by lia)) (λn_=>absurd n_ (by lia)) (λn_=>absurd n_ (by lia)) fin
end
end L2
namespace L2
open PySem PySem.Spec PyProof.Rows PySem.W PySem.Calls PySem.Builtin PySem.Builtin.ObjectAttr
section
variable {prog:Program}{w:World}{A:Around}{R:Result->Shared->Prop}{E:Value->Shared->Prop}{s:Shared}{K:W.Frag}{x C:Addr}{ox:Obj}{cd:ClassData}{name:Str}{v:Value}{mA:Str->Option Value}{ns:List Str}
end
end L2
namespace L2
open PySem PySem.Spec PyProof.Rows PySem.W PySem.Calls
section
variable {prog:Program}{w:World}{K:W.Frag}{C e:Addr}{cd:ClassData}{env:Env}{m:Str->Option Value}{A:Around}{E:Value->Shared->Prop}{sf:Str}
end
end L2
namespace PySem
open Sem (wp)
section
variable {prog:Program}{w:World}{A:Around}{E:Value->Shared->Prop}{h:Heap}{g:Array GenState}{d:Drawn}{t:Nat}{os:OsState}
variable {nm q:Str}{C N:Addr}{bs bm bmB:List Value}{QK:Bool}{sn:List Str}{aq:List Value}{ab:Bool}{col:Option Bool}{dd:Option Addr}{k0 k1 k2 k3 k5:Option Value}{B Bn newId nid initId inN:String}{bmN:List Value}
end
section
variable {prog:Program}{w:World}{A:Around}{E:Value->Shared->Prop}{s:Shared}{env:Env}
variable {nm q:Str}{C N:Addr}{bs bm bmB:List Value}{QK:Bool}{sn:List Str}{aq:List Value}{ab:Bool}{col:Option Bool}{dd:Option Addr}{k0 k1 k2 k3 k5:Option Value}{B Bn newId nid initId inN:String}{bmN:List Value}
end
end PySem
namespace L2
open PySem PySem.Spec PyProof.Rows PySem.W PySem.Calls
theorem Xo{α:Type}:∀{l:List (Str×α)} {f:Str} {u:α},(l.map (·.1)).Nodup->(f,u)∈l->l.lookup f=some u
 |(g,v)::r,f,u,hn,hm=>by
  rw[gG,v8] at hn;rw[o_];rcases iU.mp hm with e|hm
  ·cases e;simp
  ·have:f≠g:=λz=>hn.1 (by rw[<-z];exact pC.mpr ⟨(f,u),hm,rfl⟩);rw[show (f==g)=false by simpa using this];exact Xo hn.2 hm
theorem zjT{α:Type}{fs:List Str}{us:List α}{i:Nat}{f:Str}{u:α}(h1:fs[i]?=some f)(h2:us[i]?=some u):(f,u)∈fs.zip us:=by
 refine fX (i:=i) ?_;exact(List.getElem?_zip_eq_some (z:=(f,u))).mpr ⟨h1,h2⟩
section
variable {X:Cx}{EX:XS}{C:Addr}{ar:Arguments}{bd:List Stmt}{sc:Scope}{fs:List Str}{t:TA}{x:Str}{p apos pos:Pos}{e:Expr}{es:List Expr}
end
section
variable {prog:Program}{w:World}{A:Around}{E:Value->Shared->Prop}{s:Shared}{K:Frag}{x C:Addr}{ox:Obj}{od:Option Obj}{name:Str}
end
structure XF(K:Frag)(C:Addr)(f:Str):Prop where
 ga:findIn K (.ref C) "__getattribute__"=some (some (.builtin "BaseException.__getattribute__"))
 gn:findIn K (.ref C) "__getattr__"=some none
 mb:mroIn K C (.type "BaseException")=some true
 no:findIn K (.ref C) f=some none
 hd:hasDictIn K C=true
section
variable {X:Cx}{e:Expr}{f:Str}{pos:Pos}{ta:TE}
end
end L2
namespace L2
open PySem PySem.Spec PyProof.Rows
section
variable {X:Cx}{ao:List (Addr×Obj)}{Z:St}{H:Hp}{s:Shared}{h':Heap}
theorem Inv.lG{t':Nat}{ch:List Addr}{a:Addr}{o:HO}(I:Inv X ao Z H s)(k:∀b u,b∉ch->s.heap.get? b=some u->h'.get? b=some u)(hf:∀b∈ch,fB X ao H b)(ha:s.heap.objs.size<=a)(new:bM X.prog X.w (upd H a o) h' a o) :
  Inv X ao Z (upd H a o) {s with heap:=h',toks:=t'}:=by
 have yr:∀b u,H b=some u->b∉ch:=λb u e z=>by rw[(hf b z).1] at e;cases e
 have hn:H a=none:=I.hok.fresh ha;have na:∀b u,H b=some u->b≠a:=λb u e z=>by rw[z,hn] at e;cases e
 have la:∀b u,s.heap.get? b=some u->b≠a:=λb u e=>dN (iM (bZ e) ha);refine I.step (g':=s.gens) (d':=s.drawn) (ch:=ch) (λb hb=>?_) (λb o _ _ hc e _=>k b o hc e) (λb o _ _ hc e _=>⟨o.slots,k b o hc e⟩) (λb o' _ e n=>by rw[cW (la b o' e)];exact n)
  (λb o hc e=>⟨o,k b o hc e⟩) (λb xs e=>by rw[cW (na b _ e)];exact e) (λb o u e=>by rw[cW (na b _ e)];exact e) (λb ps e=>⟨#[],by rw[cW (na b _ e),e];simp⟩) (λm hm=>?_) (λb u e=>?_) I.bare
 ·obtain⟨f0,f1,f2,f3,f4,f5⟩:=hf b hb;exact⟨f3.imp id λz=>Fp z,f1,f4,f5⟩
 ·obtain⟨o,es,ep,ho,r⟩:=hm;exact⟨o,es,ep,k _ o (λz=>(hf _ z).2.1 rfl) ho,r⟩
 ·by_cases z:b=a
  ·subst z;rw[jF] at e;cases e;exact new
  ·rw[cW z] at e;refine(I.hok b u e).stay (λc v hc q=>k c v ?_ q) (λc q=>by rw[cW (na c _ q)];exact q) λc _ q=>by rw[cW (na c _ q)];exact q
   rcases hc with y|y
   ·rw[y];exact yr b u e
   ·exact yr c _ y
theorem Inv.qI{t':Nat}{ch:List Addr}(I:Inv X ao Z H s)(k:∀b u,b∉ch->s.heap.get? b=some u->h'.get? b=some u)(hf:∀b∈ch,fB X ao H b):Inv X ao Z H {s with heap:=h',toks:=t'}:=by
 have yr:∀b u,H b=some u->b∉ch:=λb u e z=>by rw[(hf b z).1] at e;cases e
 refine I.step (g':=s.gens) (d':=s.drawn) (ch:=ch) (λb hb=>?_) (λb o _ _ hc e _=>k b o hc e) (λb o _ _ hc e _=>⟨o.slots,k b o hc e⟩) (λ_ _ _ _ n=>n)
  (λb o hc e=>⟨o,k b o hc e⟩) (λ_ _ e=>e) (λ_ _ _ e=>e) (λb ps e=>⟨#[],by rw[e];simp⟩) (λm hm=>?_) (λb u e=>?_) I.bare
 ·obtain⟨f0,f1,f2,f3,f4,f5⟩:=hf b hb;exact⟨f3.imp id λz=>Fp z,f1,f4,f5⟩
 ·obtain⟨o,es,ep,ho,r⟩:=hm;exact⟨o,es,ep,k _ o (λz=>(hf _ z).2.1 rfl) ho,r⟩
 ·refine(I.hok b u e).stay (λc v hc q=>k c v ?_ q) (λ_ q=>q) λ_ _ q=>q;rcases hc with y|y
  ·rw[y];exact yr b u e
  ·exact yr c _ y
end
structure lH(prog:Program)(w:World)(it src:Addr)(st:Nat->Heap->Prop)(its:Array Value):Prop where
 item:∀(A:Around) (E:Value->Shared->Prop) (s:Shared) (i:Nat) (x:Value) (Q:Value->Shared->Prop),st i s.heap->its[i]?=some x->(∀h',st (i+1) h'->Heap.SameBut it s.heap h'->Q x {s with heap:=h'})->wpAny (model prog w) A (Builtin.SmallTypes.nextOf (.ref it)) Q E s
 fin:∀(A:Around) (E:Value->Shared->Prop) (s:Shared) (i:Nat) (Q:Value->Shared->Prop),A.handled=none->st i s.heap->its[i]?=none->(∀h' e,Heap.ExtBut it s.heap h'->(∃o,h'.get? e=some o/\o.cls=.type "StopIteration")->E (.ref e) {s with heap:=h'})->wpAny (model prog w) A (Builtin.SmallTypes.nextOf (.ref it)) Q E s
 keep:∀i h h',st i h->(∀b o,b=it\/b=src->h.get? b=some o->h'.get? b=some o)->st i h'
theorem lH.list(nq:l≠it):lH prog w it l (λi h=>h.IsListIter it l i/\h.IsList l its) its where
 item:=λA E s i x Q ⟨h1,h2⟩ hx q=>wpAny_nextOf_list_item h1 h2 hx λh' a sb=>q h' ⟨a,h2.at λo e=>(sb.2 l nq).trans e⟩ sb
 fin:=λA E s i Q hh ⟨h1,h2⟩ hx q=>wpAny_nextOf_list_end hh h1 h2 hx q
 keep:=λi h h' ⟨h1,h2⟩ k=>⟨h1.at λo e=>k it o (.inl rfl) e,h2.at λo e=>k l o (.inr rfl) e⟩
theorem Xp(l:Addr):¬((Value.ref l==Value.none)=true):=λz=>by cases (show false=true from z)
theorem IsTupleIter.at'{h h':Heap}{it l:Addr}{i:Nat}(x:h.IsTupleIter it l i)(k:∀o,h.get? it=some o->h'.get? it=some o):h'.IsTupleIter it l i:=by
 obtain⟨o,e,r⟩:=x;exact⟨o,k o e,r⟩
theorem IsTuple.at'{h h':Heap}{l:Addr}{xs:Array Value}(x:h.IsTuple l xs)(k:∀o,h.get? l=some o->h'.get? l=some o):h'.IsTuple l xs:=by
 obtain⟨o,e,r⟩:=x;exact⟨o,k o e,r⟩
section
variable {prog:Program}{w:World}{A:Around}{E:Value->Shared->Prop}{s:Shared}{it l:Addr}{i:Nat}{its:Array Value}
theorem zfh{x:Value}{Q:Value->Shared->Prop}(hi:s.heap.IsTupleIter it l i)(hl:s.heap.IsTuple l its)(hx:its[i]?=some x)(q:∀h',h'.IsTupleIter it l (i+1)->Heap.SameBut it s.heap h'->Q x {s with heap:=h'}) :
  wpAny (model prog w) A (Builtin.SmallTypes.nextOf (.ref it)) Q E s:=by
 obtain⟨oi,ei,ci,di⟩:=id hi;obtain⟨ol,el,_,nl,dl⟩:=hl;unfold Builtin.SmallTypes.nextOf;refine aB (xZ (name:=Str.ofString "__next__") hi.typeIs J7 (vZ J7 hi.typeIs F.entry_tuple_iterator_next ?_ (F.args_tuple_iterator_next_1 _)));show wpAny _ A.in1 (field (.ref it) 0 >>= _) _ E s;refine aB (j9 ei di (x:=.ref l) rfl ?_);show wpAny _ A.in1 (if (Value.ref l==Value.none)=true then _ else _) _ E s;rw[if_neg (Xp l)];show wpAny _ A.in1 (field (.ref it) 1 >>= _) _ E s;refine aB (j9 ei di (x:=.int i 0) rfl ?_);show wpAny _ A.in1 (seqItems? (.ref l) >>= _) _ E s;refine aB (rz el dl ?_);simp only[nj,hx];refine aB (FN ei di (by simp) (aN ⟨x,rfl,aN (q _ ⟨_,zB _ ei (J_ (yd di _)),(Obj.cls_mapFields ..).trans ci,?_⟩ (Heap.SameBut.update ..))⟩));rw[yd di];simp[rawInt]
theorem zfZ{Q:Value->Shared->Prop}(hh:A.handled=none)(hi:s.heap.IsTupleIter it l i)(hl:s.heap.IsTuple l its)(hx:its[i]?=none)(q:∀h' e,Heap.ExtBut it s.heap h'->(∃o,h'.get? e=some o/\o.cls=.type "StopIteration")->E (.ref e) {s with heap:=h'}) :
  wpAny (model prog w) A (Builtin.SmallTypes.nextOf (.ref it)) Q E s:=by
 obtain⟨oi,ei,ci,di⟩:=id hi;obtain⟨ol,el,_,nl,dl⟩:=hl;unfold Builtin.SmallTypes.nextOf;refine aB (xZ (name:=Str.ofString "__next__") hi.typeIs J7 (vZ J7 hi.typeIs F.entry_tuple_iterator_next ?_ (F.args_tuple_iterator_next_1 _)));show wpAny _ A.in1 (field (.ref it) 0 >>= _) _ E s;refine aB (j9 ei di (x:=.ref l) rfl ?_);show wpAny _ A.in1 (if (Value.ref l==Value.none)=true then _ else _) _ E s;rw[if_neg (Xp l)];show wpAny _ A.in1 (field (.ref it) 1 >>= _) _ E s;refine aB (j9 ei di (x:=.int i 0) rfl ?_);show wpAny _ A.in1 (seqItems? (.ref l) >>= _) _ E s;refine aB (rz el dl ?_);simp only[nj,hx];refine aB (Dh (aB (FN ei di (by simp) ?_)));show wpAny _ A.in1 (newExc (.type "StopIteration") [] >>= _) _ E _;refine aB ?_;simp only[newExc,newTuple];refine aB (o9 (aB (m:=firstArgMember _ _) (C_ (a:=Value.none) (by first|rfl|(simp only[firstArgMember];rfl)) (o9 ?_ (by size_fits)))) (by size_fits));simp only[raiseNew];refine aB (wpAny_handled ?_);rw[show A.in1.handled=none from hh];exact aB (aN (wpAny_throw (q _ _ (((Heap.SameBut.update ..).extBut.push _).push _) ⟨_,fL _ rfl,rfl⟩)))
end
theorem lH.tuple{prog:Program}{w:World}{it l:Addr}{its:Array Value}(nq:l≠it):lH prog w it l (λi h=>h.IsTupleIter it l i/\h.IsTuple l its) its where
 item:=λA E s i x Q ⟨h1,h2⟩ hx q=>zfh h1 h2 hx λh' a sb=>q h' ⟨a,IsTuple.at' h2 λo e=>(sb.2 l nq).trans e⟩ sb
 fin:=λA E s i Q hh ⟨h1,h2⟩ hx q=>zfZ hh h1 h2 hx q
 keep:=λi h h' ⟨h1,h2⟩ k=>⟨IsTupleIter.at' h1 λo e=>k it o (.inl rfl) e,IsTuple.at' h2 λo e=>k l o (.inr rfl) e⟩
structure mO(z TI TO i1 i2 l1 l2:Addr):Prop where
 zs:z≠TI/\z≠TO/\z≠i1/\z≠i2/\z≠l1/\z≠l2
 os:TO≠TI/\TO≠i1/\TO≠i2/\TO≠l1/\TO≠l2
 is:TI≠i1/\TI≠i2/\i1≠i2/\i1≠l1/\i1≠l2/\i2≠l1/\i2≠l2
section
variable {prog:Program}{w:World}{A:Around}{E:Value->Shared->Prop}{s:Shared}{z TI TO i1 i2 l1 l2:Addr}{st1 st2:Nat->Heap->Prop}{xs ys:Array Value}{k:Nat}{a b:Value}
theorem zh6(N1:lH prog w i1 l1 st1 xs)(N2:lH prog w i2 l2 st2 ys)(D:mO z TI TO i1 i2 l1 l2)(hz:IsZip s.heap z TI TO .none)(QL:IsPair s.heap TI (.ref i1) (.ref i2))(QM:IsPair s.heap TO a b)
  (h1:st1 k s.heap) (h2:st2 k s.heap) (hx:xs[k]?=some x) (hy:ys[k]?=some y)
  (q:∀h',IsZip h' z TI TO (rawInt s.heap.objs.size)->IsPair h' TO x y->st1 (k+1) h'->st2 (k+1) h'->IsPair h' s.heap.objs.size x y->h'.objs.size=s.heap.objs.size+1->(∀c o,c≠z->c≠TO->c≠i1->c≠i2->s.heap.get? c=some o->h'.get? c=some o)->Q (some (.ref s.heap.objs.size)) {s with heap:=h'}) :
  wpAny (model prog w) A (pyNext (.ref z)) Q E s:=by
 obtain⟨⟨z1,z2,z3,z4,z5,z6⟩,⟨t1,t2,t3,t4,t5⟩,⟨j1,j2,j3,j4,j5,j6,j7⟩⟩:=D;have hT:s.TypeIs (.ref z) "zip":=⟨_,hz,rfl⟩;unfold pyNext;refine aB (FQ (xZ (name:=Str.ofString "__next__") hT Ko (vZ Ko hT F.entry_zip_next ?_ (F.args_zip_next_1 _))));show wpAny _ A.in1 (field (.ref z) 2 >>= _) _ _ s;refine aB (j9 hz rfl (x:=.bool false) rfl ?_);show wpAny _ A.in1 (field (.ref z) 3 >>= _) _ _ s;refine aB (j9 hz rfl (x:=.ref TI) rfl (aB (rz QL rfl ?_)));show wpAny _ A.in1 (Builtin.SmallTypes.ownedTupleIsFree (.ref z) >>= _) _ _ s;refine aB ?_;unfold Builtin.SmallTypes.ownedTupleIsFree;refine aB (j9 hz rfl (x:=.none) rfl (aN ?_));simp only[if_true];refine aB (Dh (aB (j9 hz rfl (x:=.ref TO) rfl (aB (CJ hz (by simp) λha za sa=>aB ?_)))))
 replace za:IsZip ha z TI TO .ellipsis:=za
 simp only[List.zipIdx_cons,List.zipIdx_nil,CW,Kq];refine aB (aB (wpAny_onRaise ?_));show wpAny _ A.in1 (Builtin.SmallTypes.nextOf (.ref i1) >>= _) _ _ _;refine aB (N1.item _ _ {s with heap:=ha} k x _ (N1.keep _ _ _ h1 λc o hc e=>sa.extBut c o (by rcases hc with rfl|rfl;exact z3.symm;exact z5.symm) e) hx λhb Xq sb=>aN ?_);have tb:IsPair hb TO a b:=sb.extBut _ _ t2 (sa.extBut _ _ z2.symm QM);refine aB (rz tb rfl (aB (Oc tb λhc tc sc=>aB (zT (aN ?_)))))
 replace tc:IsPair hc TO x b:=tc
 refine aB (aB (wpAny_onRaise ?_));show wpAny _ A.in1 (Builtin.SmallTypes.nextOf (.ref i2) >>= _) _ _ _;have k2:st2 k hc:=N2.keep _ _ _ h2 λc o k_ e=>by
  rcases k_ with rfl|rfl
  ·exact sc.extBut _ _ t3.symm (sb.extBut _ _ j3.symm (sa.extBut _ _ z4.symm e))
  ·exact sc.extBut _ _ t5.symm (sb.extBut _ _ j5.symm (sa.extBut _ _ z6.symm e))
 have k1:st1 (k+1) hc:=N1.keep _ _ _ Xq λc o k_ e=>by
  rcases k_ with rfl|rfl
  ·exact sc.extBut _ _ t2.symm e
  ·exact sc.extBut _ _ t4.symm e
 refine aB (N2.item _ _ {s with heap:=hc} k y _ k2 hy λhd sd2 sd=>aN ?_);have td:IsPair hd TO x b:=sd.extBut _ _ t3 tc;refine aB (rz td rfl (aB (Oc td λhe te se=>aB (zT (aN (aN ?_))))))
 replace te:IsPair he TO x y:=te
 refine aB (rz te rfl (aB (wpAny_newTuple ?_)));have size:he.objs.size=s.heap.objs.size:=by rw[se.1,sd.1,sc.1,sb.1,sa.1]
 have ze:IsZip he z TI TO .ellipsis:=se.extBut _ _ z2 (sd.extBut _ _ z4 (sc.extBut _ _ z2 (sb.extBut _ _ z3 za)));have kept:∀c o,c≠z->c≠TO->c≠i1->c≠i2->s.heap.get? c=some o->he.get? c=some o:=λc o c1 c2 c3 c4 e=>se.extBut _ _ c2 (sd.extBut _ _ c4 (sc.extBut _ _ c2 (sb.extBut _ _ c3 (sa.extBut _ _ c1 e))));have e1:st1 (k+1) he:=N1.keep _ _ _ k1 λc o k_ e=>by
  rcases k_ with rfl|rfl
  ·exact se.extBut _ _ t2.symm (sd.extBut _ _ j3 e)
  ·exact se.extBut _ _ t4.symm (sd.extBut _ _ j6.symm e)
 have e2:st2 (k+1) he:=N2.keep _ _ _ sd2 λc o k_ e=>by
  rcases k_ with rfl|rfl
  ·exact se.extBut _ _ t3.symm e
  ·exact se.extBut _ _ t5.symm e
 show wpAny _ A.in1 (Builtin.SmallTypes.ownedTupleHandOut (.ref z) (.ref he.objs.size) >>= _) _ _ _;refine aB ?_;unfold Builtin.SmallTypes.ownedTupleHandOut;have zf:IsZip (he.push {cls:=.type "tuple",data:=.seq #[x,y]}) z TI TO .ellipsis:=cM _ ze;refine aB (CJ zf (by simp) λhg zg sg=>CJ zg (by simp) λhh zh sh=>aN ⟨_,rfl,aN ?_⟩)
 replace zh:IsZip hh z TI TO (rawInt he.objs.size):=zh
 have up:∀c o,c≠z->he.get? c=some o->hh.get? c=some o:=λc o c1 e=>sh.extBut _ _ c1 (sg.extBut _ _ c1 (cM _ e));have lz:z<he.objs.size:=bZ ze;have tn:IsPair hh he.objs.size x y:=sh.extBut _ _ (vh lz) (sg.extBut _ _ (vh lz) (fL _ rfl));have sz:hh.objs.size=he.objs.size+1:=by rw[sh.1,sg.1,vg]
 rw[size] at zh tn sz;show Q (some (.ref he.objs.size)) _;rw[size];exact q hh zh (up _ _ z2.symm te) (N1.keep _ _ _ e1 λc o k_ e=>up c o (by rcases k_ with rfl|rfl;exact z3.symm;exact z5.symm) e) (N2.keep _ _ _ e2 λc o k_ e=>up c o (by rcases k_ with rfl|rfl;exact z4.symm;exact z6.symm) e) tn sz λc o c1 c2 c3 c4 e=>up c o c1 (kept c o c1 c2 c3 c4 e)
theorem zjZ(hn:A.handled=none)(N1:lH prog w i1 l1 st1 xs)(N2:lH prog w i2 l2 st2 ys)(D:mO z TI TO i1 i2 l1 l2)(hz:IsZip s.heap z TI TO .none)(QL:IsPair s.heap TI (.ref i1) (.ref i2))(QM:IsPair s.heap TO a b)
  (h1:st1 k s.heap) (h2:st2 k s.heap) (hx:xs[k]?=none\/ys[k]?=none) (q:∀h',(∀c o,c≠z->c≠TO->c≠i1->c≠i2->s.heap.get? c=some o->h'.get? c=some o)->Q none {s with heap:=h'}):wpAny (model prog w) A (pyNext (.ref z)) Q E s:=by
 obtain⟨⟨z1,z2,z3,z4,z5,z6⟩,⟨t1,t2,t3,t4,t5⟩,⟨j1,j2,j3,j4,j5,j6,j7⟩⟩:=D;have hT:s.TypeIs (.ref z) "zip":=⟨_,hz,rfl⟩;have stop:∀(h':Heap) (e:Addr),(∀c o,c≠z->c≠TO->c≠i1->c≠i2->s.heap.get? c=some o->h'.get? c=some o)->(∃o,h'.get? e=some o/\o.cls=.type "StopIteration")->
   wpAny (model prog w) A (do if <-isInstance (.ref e) (.type "StopIteration") then pure none else throw (.ref e):Sem (Option Value)) Q E {s with heap:=h'}:=λh' e kp ⟨o,ho,hc⟩=>
  aB (Km (T:="StopIteration") (b:=true) ⟨o,ho,hc⟩ isSubtype_stop (aN (q h' kp)))
 unfold pyNext;refine aB (FQ (xZ (name:=Str.ofString "__next__") hT Ko (vZ Ko hT F.entry_zip_next ?_ (F.args_zip_next_1 _))));show wpAny _ A.in1 (field (.ref z) 2 >>= _) _ _ s;refine aB (j9 hz rfl (x:=.bool false) rfl ?_);show wpAny _ A.in1 (field (.ref z) 3 >>= _) _ _ s;refine aB (j9 hz rfl (x:=.ref TI) rfl (aB (rz QL rfl ?_)));show wpAny _ A.in1 (Builtin.SmallTypes.ownedTupleIsFree (.ref z) >>= _) _ _ s;refine aB ?_;unfold Builtin.SmallTypes.ownedTupleIsFree;refine aB (j9 hz rfl (x:=.none) rfl (aN ?_));simp only[if_true];refine aB (Dh (aB (j9 hz rfl (x:=.ref TO) rfl (aB (CJ hz (by simp) λha za sa=>aB ?_)))))
 replace za:IsZip ha z TI TO .ellipsis:=za
 simp only[List.zipIdx_cons,List.zipIdx_nil,CW,Kq];refine aB (aB (wpAny_onRaise ?_));show wpAny _ A.in1 (Builtin.SmallTypes.nextOf (.ref i1) >>= _) _ _ _;have ka:st1 k ha:=N1.keep _ _ _ h1 λc o hc e=>sa.extBut c o (by rcases hc with rfl|rfl;exact z3.symm;exact z5.symm) e;cases ex:xs[k]? with
 |none=>
  refine aB (N1.fin _ _ {s with heap:=ha} k _ hn ka ex λhb e sb se=>?_);obtain⟨oe,ho,hc⟩:=se;have zb:IsZip hb z TI TO .ellipsis:=sb _ _ z3 za;have ne:e≠z:=λy=>by subst y;rw[zb] at ho;cases ho;simp at hc
  exact CJ zb (by simp) λhd _ sd=>stop hd e (λc o c1 _ c3 _ y=>sd.extBut _ _ c1 (sb _ _ c3 (sa.extBut _ _ c1 y))) ⟨oe,sd.extBut _ _ ne ho,hc⟩
 |some x=>
  have ey:ys[k]?=none:=by
   rcases hx with y|y
   ·rw[ex] at y;cases y
   ·exact y
  refine aB (N1.item _ _ {s with heap:=ha} k x _ ka ex λhb Xq sb=>aN ?_);have tb:IsPair hb TO a b:=sb.extBut _ _ t2 (sa.extBut _ _ z2.symm QM);refine aB (rz tb rfl (aB (Oc tb λhc tc sc=>aB (zT (aN ?_)))));refine aB (aB (wpAny_onRaise ?_));show wpAny _ A.in1 (Builtin.SmallTypes.nextOf (.ref i2) >>= _) _ _ _;have k2:st2 k hc:=N2.keep _ _ _ h2 λc o k_ e=>by
   rcases k_ with rfl|rfl
   ·exact sc.extBut _ _ t3.symm (sb.extBut _ _ j3.symm (sa.extBut _ _ z4.symm e))
   ·exact sc.extBut _ _ t5.symm (sb.extBut _ _ j5.symm (sa.extBut _ _ z6.symm e))
  refine aB (N2.fin _ _ {s with heap:=hc} k _ hn k2 ey λhd e sd se=>?_);obtain⟨oe,ho,vI⟩:=se;have zd:IsZip hd z TI TO .ellipsis:=sd _ _ z4 (sc.extBut _ _ z2 (sb.extBut _ _ z3 za));have ne:e≠z:=λy=>by subst y;rw[zd] at ho;cases ho;simp at vI
  exact CJ zd (by simp) λhf _ sf=>stop hf e (λc o c1 c2 c3 c4 y=>sf.extBut _ _ c1 (sd _ _ c4 (sc.extBut _ _ c2 (sb.extBut _ _ c3 (sa.extBut _ _ c1 y))))) ⟨oe,sf.extBut _ _ ne ho,vI⟩
end
noncomputable def Ck:Bool->Heap->Addr->Array Value->Prop
 |true,h,l,xs=>h.IsList l xs
 |false,h,l,xs=>h.IsTuple l xs
noncomputable def Rk:Bool->Addr->Addr->Nat->Heap->Prop
 |true,it,l,i,h=>h.IsListIter it l i
 |false,it,l,i,h=>h.IsTupleIter it l i
noncomputable def Sk:Bool->W.Frag->Hp->Addr->List V->Prop
 |true,K,H,l,xs=>cT K H l xs
 |false,K,H,l,xs=>gw K H l xs
noncomputable def gb:Bool->Addr->Obj
 |true,l=>{cls:=.type "list_iterator",data:=.fields #[.ref l,.int 0 0]}
 |false,l=>{cls:=.type "tuple_iterator",data:=.fields #[.ref l,.int 0 0]}
theorem lH.of(kd:Bool)(nq:l≠it):lH prog w it l (λi h=>Rk kd it l i h/\Ck kd h l its) its:=by
 cases kd
 ·exact lH.tuple nq
 ·exact lH.list nq
theorem Ck.keep(x:Ck kd h l xs)(k:∀o,h.get? l=some o->h'.get? l=some o):Ck kd h' l xs:=by
 cases kd
 ·exact IsTuple.at' x k
 ·exact Heap.IsList.at x k
theorem Rk.keep(x:Rk kd it l i h)(k:∀o,h.get? it=some o->h'.get? it=some o):Rk kd it l i h':=by
 cases kd
 ·exact IsTupleIter.at' x k
 ·exact Heap.IsListIter.at x k
theorem Rk.obj(x:Rk kd it l i h):∃o,h.get? it=some o/\∀v,o.data≠.cell v:=by
 cases kd
 ·obtain⟨o,e,c,d⟩:=x;exact⟨o,e,λv z=>by rw[d] at z;cases z⟩
 ·obtain⟨o,e,c,d⟩:=x;exact⟨o,e,λv z=>by rw[d] at z;cases z⟩
theorem Ck.lt(x:Ck kd h l xs):l<h.objs.size:=by
 cases kd
 ·obtain⟨o,e,_⟩:=x;exact bZ e
 ·obtain⟨o,e,_⟩:=x;exact bZ e
section
variable {prog:Program}{w:World}{A:Around}{E:Value->Shared->Prop}{s:Shared}
theorem Lg(c:Ck kd s.heap l xs)(q:Q (.ref s.heap.objs.size) {s with heap:=s.heap.push (gb kd l)}):wpAny (model prog w) A (pyIter (.ref l)) Q E s:=by
 cases kd
 ·exact wpAny_pyIter_tuple c q
 ·exact Ke c q
end
noncomputable def zH(h:Heap)(k1 k2:Bool)(l1 l2:Addr):Heap:=((((h.push (gb k1 l1)).push (gb k2 l2)).push {cls:=.type "tuple",data:=.seq #[.ref h.objs.size,.ref (h.push (gb k1 l1)).objs.size]}).push {cls:=.type "tuple",data:=.seq #[.none,.none]}).push
 {cls:=.type "zip",data:=.fields #[.none,.bool false,.bool false,.ref ((h.push (gb k1 l1)).push (gb k2 l2)).objs.size,.ref (((h.push (gb k1 l1)).push (gb k2 l2)).push {cls:=.type "tuple",data:=.seq #[.ref h.objs.size,.ref (h.push (gb k1 l1)).objs.size]}).objs.size]}
theorem zh1(k1 k2:Bool)(l1 l2:Addr)(xs ys:Array Value):Meets (Builtin.«zip.__new__» ⟨[.type "zip",.ref l1,.ref l2],[]⟩) (λ_ R s=>Ck k1 s.heap l1 xs/\Ck k2 s.heap l2 ys /\
   R (.ok (.ret (.ref ((((s.heap.push (gb k1 l1)).push (gb k2 l2)).push {cls:=.type "tuple",data:=.seq #[.ref s.heap.objs.size,.ref (s.heap.push (gb k1 l1)).objs.size]}).push {cls:=.type "tuple",data:=.seq #[.none,.none]}).objs.size))) {s with heap:=zH s.heap k1 k2 l1 l2}):=
 .of_wp λprog w A R s h=>by
  obtain⟨hp,g,d,tk,os⟩:=s;obtain⟨c1,c2,h⟩:=h;have hsub:=sub_zip;have C1:Ck k1 (Shared.heap ⟨hp,g,d,tk,os⟩) l1 xs:=c1;have C2:Ck k2 (Shared.heap ⟨hp.push (gb k1 l1),g,d,tk,os⟩) l2 ys:=c2.keep λo e=>cM _ e
  wp_walk using Lg C1,Lg C2
  exact⟨_,rfl,h⟩
section
variable {prog:Program}{w:World}{A:Around}{E:Value->Shared->Prop}{s:Shared}
theorem zjm(c1:Ck k1 s.heap l1 xs)(c2:Ck k2 s.heap l2 ys)
  (h:∀h',IsZip h' (s.heap.objs.size+4) (s.heap.objs.size+2) (s.heap.objs.size+3) .none->IsPair h' (s.heap.objs.size+2) (.ref s.heap.objs.size) (.ref (s.heap.objs.size+1))->IsPair h' (s.heap.objs.size+3) .none .none->
   Rk k1 s.heap.objs.size l1 0 h'->Rk k2 (s.heap.objs.size+1) l2 0 h'->(∀c o,s.heap.get? c=some o->h'.get? c=some o)->Q (.ref (s.heap.objs.size+4)) {s with heap:=h'}) :
  wpAny (model prog w) A (call (.type "zip") [.ref l1,.ref l2]) Q E s:=by
 refine callType_new F.called_zip (by decide) (F.typeCall_zip_2 _ _) (F.newCall_zip_2 _ _) (λobj=>F.args_object_init_3 obj _ _) F.entry_zip_new (zh1 k1 k2 l1 l2 xs ys) ⟨c1,c2,?_⟩;have n1:(s.heap.push (gb k1 l1)).objs.size=s.heap.objs.size+1:=vg ..;have n2:((s.heap.push (gb k1 l1)).push (gb k2 l2)).objs.size=s.heap.objs.size+2:=by rw[vg,n1]
 have fr:∀kd l,(gb kd l).isFreed=false:=λkd l=>by cases kd<;>rfl
 have rk:∀{h:Heap} {a:Addr} {kd:Bool} {l:Addr},h.get? a=some (gb kd l)->Rk kd a l 0 h:=λ{h a kd l} e=>by
  cases kd
  ·exact⟨_,e,rfl,rfl⟩
  ·exact⟨_,e,rfl,rfl⟩
 have o1:(s.heap.push (gb k1 l1)).get? s.heap.objs.size=some (gb k1 l1):=fL _ (fr _ _);have o2:((s.heap.push (gb k1 l1)).push (gb k2 l2)).get? (s.heap.objs.size+1)=some (gb k2 l2):=by
  have:=fL (s.heap.push (gb k1 l1)) (o:=gb k2 l2) (fr _ _);rw[n1] at this;exact this
 generalize hA:(s.heap.push (gb k1 l1)).push (gb k2 l2)=Lh at *;have eH:zH s.heap k1 k2 l1 l2=((Lh.push {cls:=.type "tuple",data:=.seq #[.ref s.heap.objs.size,.ref (s.heap.objs.size+1)]}).push {cls:=.type "tuple",data:=.seq #[.none,.none]}).push {cls:=.type "zip",data:=.fields #[.none,.bool false,.bool false,.ref (s.heap.objs.size+2),.ref (s.heap.objs.size+3)]}:=by
  unfold zH;rw[hA,n1,n2,vg,n2]
 have n3:(Lh.push {cls:=.type "tuple",data:=.seq #[.ref s.heap.objs.size,.ref (s.heap.objs.size+1)]}).objs.size=s.heap.objs.size+3:=by rw[vg,n2]
 have n4:((Lh.push {cls:=.type "tuple",data:=.seq #[.ref s.heap.objs.size,.ref (s.heap.objs.size+1)]}).push {cls:=.type "tuple",data:=.seq #[.none,.none]}).objs.size=s.heap.objs.size+4:=by rw[vg,n3]
 rw[n1,n4];have g5:(zH s.heap k1 k2 l1 l2).get? (s.heap.objs.size+4)=some {cls:=.type "zip",data:=.fields #[.none,.bool false,.bool false,.ref (s.heap.objs.size+2),.ref (s.heap.objs.size+3)]}:=by
  rw[eH,<-n4];exact fL _ rfl
 have g4:(zH s.heap k1 k2 l1 l2).get? (s.heap.objs.size+3)=some {cls:=.type "tuple",data:=.seq #[.none,.none]}:=by
  rw[eH,<-n3];exact cM _ (fL _ rfl)
 have g3:(zH s.heap k1 k2 l1 l2).get? (s.heap.objs.size+2)=some {cls:=.type "tuple",data:=.seq #[.ref s.heap.objs.size,.ref (s.heap.objs.size+1)]}:=by
  rw[eH,<-n2];exact cM _ (cM _ (fL _ rfl))
 have up:∀c o,Lh.get? c=some o->(zH s.heap k1 k2 l1 l2).get? c=some o:=λc o e=>by rw[eH];exact cM _ (cM _ (cM _ e))
 refine⟨⟨_,g5,rfl⟩,h _ g5 g3 g4 (rk (up _ _ ?_)) (rk (up _ _ o2)) λc o e=>up _ _ ?_⟩
 ·rw[<-hA];exact cM _ o1
 ·rw[<-hA];exact cM _ (cM _ e)
end
noncomputable def QS(K:W.Frag)(k1 k2:Bool)(l1 l2:Addr):It:=
 ⟨λi H=>∃xs ys x y,Sk k1 K H l1 xs/\Sk k2 K H l2 ys/\xs[i]?=some x/\ys[i]?=some y,
  λi H v H'=>∃a x y,H a=none/\v=.ref a/\H'=upd H a (.tup [x,y])/\(∀xs,Sk k1 K H l1 xs->xs[i]?=some x)/\∀ys,Sk k2 K H l2 ys->ys[i]?=some y,
  λi H=>∃xs ys,Sk k1 K H l1 xs/\Sk k2 K H l2 ys/\(xs.length<=i\/ys.length<=i)⟩
section
variable {X:Cx}{ao:List (Addr×Obj)}{Z:St}{H:Hp}{s:Shared}{kd:Bool}{l:Addr}{xs ys:List V}
theorem Inv.row(I:Inv X ao Z H s)(h:Sk kd X.K H l xs):∃its:List Value,Vals xs its/\Ck kd s.heap l its.toArray:=by
 cases kd
 ·obtain⟨its,rv,p,hz⟩:=I.tuple h;exact⟨its,rv,p⟩
 ·obtain⟨its,rv,p,hz⟩:=I.list h;exact⟨its,rv,p.isList⟩
theorem Inv.mQ(I:Inv X ao Z H s)(h:Sk kd X.K H l xs)(h':Sk kd X.K H l ys):xs=ys:=by
 cases kd
 ·exact I.lF h h'
 ·exact I.nQ h h'
end
theorem zhX{P:Program}{w:World}{K:W.Frag}{elts:List Expr}{kk:Nat}{pos:Pos}{k1 k2:Bool}{l1 l2 z TI TO i1 i2:Addr}(D:mO z TI TO i1 i2 l1 l2) :
  Turn P w K (.Tuple elts kk pos) (QS K k1 k2 l1 l2) [z,TI,TO,i1,i2] z (λi h=>IsZip h z TI TO .none/\IsPair h TI (.ref i1) (.ref i2)/\(∃a b,IsPair h TO a b)/\Rk k1 i1 l1 i h/\Rk k2 i2 l2 i h) where
 mem:=by simp
 obj:=λi h ⟨a1,a2,⟨p,q,a3⟩,a4,a5⟩ b hb=>by
  have:b=z\/b=TI\/b=TO\/b=i1\/b=i2:=by simpa using hb
  rcases this with rfl|rfl|rfl|rfl|rfl
  ·exact⟨_,a1,λv y=>by cases y⟩
  ·exact⟨_,a2,λv y=>by cases y⟩
  ·exact⟨_,a3,λv y=>by cases y⟩
  ·exact a4.obj
  ·exact a5.obj
 keep:=λi h h' ⟨a1,a2,⟨p,q,a3⟩,a4,a5⟩ k=>⟨k z (by simp) _ a1,k TI (by simp) _ a2,⟨p,q,k TO (by simp) _ a3⟩,a4.keep λo e=>k i1 (by simp) o e,a5.keep λo e=>k i2 (by simp) o e⟩
 item:=by
  intro X hP hw hK hc i ao s Z H E I hf ⟨a1,a2,⟨p,q,a3⟩,a4,a5⟩ hg;subst hP hw hK;obtain⟨xs,ys,x,y,Dt,Du,hx,hy⟩:=hg;obtain⟨Xr,Li,c1⟩:=I.row Dt;obtain⟨yw,Lj,c2⟩:=I.row Du;obtain⟨u,hu,ru⟩:=Li.get hx;obtain⟨v,hv,rv⟩:=Lj.get hy;have D':=D;obtain⟨⟨z1,z2,z3,z4,z5,z6⟩,⟨t1,t2,t3,t4,t5⟩,⟨j1,j2,j3,j4,j5,j6,j7⟩⟩:=D';refine zh6 (lH.of k1 j4.symm) (lH.of k2 j7.symm) D a1 a2 a3 ⟨a4,c1⟩ ⟨a5,c2⟩ (x:=u) (y:=v) (by simpa using hu) (by simpa using hv) λh1 b1 b2 b3 b4 b5 b6 kp=>?_;refine⟨_,rfl,wpAny_letOwnedTupleGo_zip (s:={s with heap:=h1}) b1 λh2 e2 sb=>?_⟩;have QT:IsPair h2 s.heap.objs.size u v:=(sb.2 _ (vh (bZ a1))).trans b5;have kk:∀b o,b∉[z,TI,TO,i1,i2]->s.heap.get? b=some o->h2.get? b=some o:=λb o hb e=>(sb.2 b λy=>hb (by simp[y])).trans (kp b o (λy=>hb (by simp[y])) (λy=>hb (by simp[y])) (λy=>hb (by simp[y])) (λy=>hb (by simp[y])) e);have I2:=I.lG (t':=s.toks) (a:=s.heap.objs.size) (o:=.tup [x,y]) kk (λb hb=>hf b hb) (b_ _) (show bM X.prog X.w _ h2 _ (.tup [x,y]) from ⟨by show 2<=sizeLine;decide,[u,v],.cons ru (.cons rv .nil),⟨_,QT,rfl,_,rfl⟩⟩);have hn:H s.heap.objs.size=none:=I.hok.fresh (b_ _);refine⟨.ref s.heap.objs.size,_,I2,rfl,⟨_,x,y,hn,rfl,rfl,λzs hz=>by rw[I.mQ hz Dt];exact hx,λzs hz=>by rw[I.mQ hz Du];exact hy⟩,⟨e2,(sb.2 _ z1.symm).trans (kp _ _ z1.symm t1.symm j1 j2 a2),⟨_,_,(sb.2 _ z2.symm).trans b2⟩,b3.1.keep λo e=>(sb.2 _ z3.symm).trans e,b4.1.keep λo e=>(sb.2 _ z4.symm).trans e⟩,λb hb=>?_⟩;have nb:b≠s.heap.objs.size:=by
   have:b=z\/b=TI\/b=TO\/b=i1\/b=i2:=by simpa using hb
   rcases this with rfl|rfl|rfl|rfl|rfl
   ·exact dN (bZ a1)
   ·exact dN (bZ a2)
   ·exact dN (bZ a3)
   ·obtain⟨o,e,_⟩:=a4.obj;exact dN (bZ e)
   ·obtain⟨o,e,_⟩:=a5.obj;exact dN (bZ e)
  rw[cW nb];exact(hf b hb).1
 done:=by
  intro X hP hw hK hc i ao s Z H E I hf ⟨a1,a2,⟨p,q,a3⟩,a4,a5⟩ hg;subst hP hw hK;obtain⟨xs,ys,Dt,Du,hx⟩:=hg;obtain⟨Xr,Li,c1⟩:=I.row Dt;obtain⟨yw,Lj,c2⟩:=I.row Du;have n1:=Li.length;have n2:=Lj.length;refine zjZ (I.ok.hd hc) (lH.of k1 D.is.2.2.2.1.symm) (lH.of k2 D.is.2.2.2.2.2.2.symm) D a1 a2 a3 ⟨a4,c1⟩ ⟨a5,c2⟩ ?_ λh' kp=>⟨rfl,I.qI (t':=s.toks) (ch:=[z,TI,TO,i1,i2]) (λb o hb e=>kp b o (λy=>hb (by simp[y])) (λy=>hb (by simp[y])) (λy=>hb (by simp[y])) (λy=>hb (by simp[y])) e) λb hb=>hf b hb⟩;rcases hx with y|y
  ·exact .inl (by simp;lia)
  ·exact .inr (by simp;lia)
 self:=λ_ _ _ _ _ ⟨a1,_⟩ h=>wpAny_pyIter_zip a1 h
section
variable {X:Cx}
noncomputable def QV(K:W.Frag)(ta:TA):TI:=λZ H R=>ta Z H λvs H1=>∃k1 k2 l1 l2 xs ys,vs=[.ref l1,.ref l2]/\Sk k1 K H1 l1 xs/\Sk k2 K H1 l2 ys/\R (QS K k1 k2 l1 l2) H1
theorem zhz:bootBuiltins "zip"=some (.type "zip"):=by decide +kernel
theorem zlN{a b:Expr}{ta:TA}{p pos tpos:Pos}{elts:List Expr}{kk:Nat}(hg:Gl X "zip")(hm:X.mg "zip"=none)(ha:PA X [a,b] ta)(hs:starEach [a,b] X.env=[(false,eval a X.env),(false,eval b X.env)]:=by rfl)(vB:starEach [b] X.env=[(false,eval b X.env)]:=by rfl) :
  PI X (.Tuple elts kk tpos) (.Call (.Name "zip" p) [a,b] [] pos) (QV X.K ta):=by
 intro ao s Z H R I h;refine Call_ (wA I hg hm zhz (zx (aU (ha pos ao s Z H _ I h) λus s1 ⟨vs,H1,I1,r1,q1⟩=>?_) (by rw[hs,vB]) (by rw[vB];rfl)));obtain⟨k1,k2,l1,l2,xs,ys,e,Dt,Du,q⟩:=q1;subst e;cases r1 with
 |cons r rr=>
  cases rr with
  |cons r' rr=>
   cases rr;cases r;cases r';obtain⟨Xr,Li,c1⟩:=I1.row Dt;obtain⟨yw,Lj,c2⟩:=I1.row Du;have m1:=c1.lt;have m2:=c2.lt;refine zjm c1 c2 λh' b1 b2 b3 b4 b5 kp=>?_;refine wpAny_pyIter_zip b1 ?_;have ne:∀{u v:Nat},u<v->u≠v:=λh=>dN h;have D:mO (s1.heap.objs.size+4) (s1.heap.objs.size+2) (s1.heap.objs.size+3) s1.heap.objs.size (s1.heap.objs.size+1) l1 l2:=
    ⟨⟨(ne (by lia)).symm,(ne (by lia)).symm,(ne (by lia)).symm,(ne (by lia)).symm,(ne (iM m1 (by lia))).symm,(ne (iM m2 (by lia))).symm⟩,
     ⟨(ne (by lia)).symm,(ne (by lia)).symm,(ne (by lia)).symm,(ne (iM m1 (by lia))).symm,(ne (iM m2 (by lia))).symm⟩,
     ⟨(ne (by lia)).symm,(ne (by lia)).symm,ne (by lia),(ne m1).symm,(ne m2).symm,(ne (iM m1 (by lia))).symm,(ne (iM m2 (by lia))).symm⟩⟩
   refine⟨s1.heap.objs.size+4,[s1.heap.objs.size+4,s1.heap.objs.size+2,s1.heap.objs.size+3,s1.heap.objs.size,s1.heap.objs.size+1],_,_,H1,rfl,I1.kept (t':=s1.toks) kp,zhX D,⟨b1,b2,⟨_,_,b3⟩,b4,b5⟩,λb hb=>?_,q⟩;have:s1.heap.objs.size<=b:=by
    have:b=s1.heap.objs.size+4\/b=s1.heap.objs.size+2\/b=s1.heap.objs.size+3\/b=s1.heap.objs.size\/b=s1.heap.objs.size+1:=by simpa using hb
    rcases this with rfl|rfl|rfl|rfl|rfl<;>lia
   exact I1.tK this (I1.hok.fresh this)
end
noncomputable def Ite(K:W.Frag)(kd:Bool)(l:Addr):It:=
 ⟨λi H=>∃xs x,Sk kd K H l xs/\xs[i]?=some x,λi H v H'=>∃a x,H a=none/\v=.ref a/\H'=upd H a (.tup [.int i,x])/\∀xs,Sk kd K H l xs->xs[i]?=some x,λi H=>∃xs,Sk kd K H l xs/\xs.length<=i⟩
theorem Ba{prog:Program}{w:World}{A:Around}(hh:A.handled=none)(kd:Bool){it l:Addr}(nq:l≠it)(its:Array Value):Draws prog w A it [it,l] its.size (λi v=>its[i]?=some v) (λi h=>Rk kd it l i h/\Ck kd h l its) where
 live:=λ_ _ st=>let ⟨o,e,_⟩:=st.1.obj;⟨o,e⟩
 frame:=λ_ _ _ st k=>⟨st.1.keep λo e=>k it (by simp) o e,st.2.keep λo e=>k l (by simp) o e⟩
 item:=λi s Q E hi st q=>(lH.of kd nq).item A E s i its[i] Q st (by simp[hi]) λh' a b=>q _ h' s.toks (by simp[hi]) a b
 done:=λs Q E st q=>(lH.of kd nq).fin A E s its.size Q hh st (by simp) q
theorem zh3(kd:Bool)(l:Addr)(xs:Array Value):Meets (Builtin.«enumerate.__new__» ⟨[.type "enumerate",.ref l],[]⟩) (λ_ R s=>Ck kd s.heap l xs /\
   R (.ok (.ret (.ref (s.heap.push (gb kd l)).objs.size))) {s with heap:=(s.heap.push (gb kd l)).push {cls:=.type "enumerate",data:=.fields #[.none,.bool false,.ref s.heap.objs.size,rawInt 0,.none,.none]}}):=
 .of_wp λprog w A R s h=>by
  obtain⟨hp,g,d,tk,os⟩:=s;obtain⟨c1,h⟩:=h;have hsub:=sub_enumerate;have C1:Ck kd (Shared.heap ⟨hp,g,d,tk,os⟩) l xs:=c1;obtain⟨ol,el⟩ : ∃o,hp.get? l=some o:=by
   cases kd
   ·obtain⟨o,e,_⟩:=c1;exact⟨o,e⟩
   ·obtain⟨o,e,_⟩:=c1;exact⟨o,e⟩
  wp_walk using J9 el
  refine wpAny_stack_any λst=>aN ?_
  split
  ·rename_i c _ _ _ _ _;cases (c==Value.type "enumerate")<;>(wp_walk using J9 el,Lg C1;exact⟨_,rfl,h⟩)
  ·wp_walk using J9 el,Lg C1
   exact⟨_,rfl,h⟩
theorem zhE{prog:Program}{w:World}{A:Around}{E:Value->Shared->Prop}{s:Shared}{e it l:Addr}{its:Array Value}{st:Nat->Heap->Prop}{i:Nat}{old:Value}{Q:Option Value->Shared->Prop}(hh:A.handled=none)(N:lH prog w it l st its)(he:IsEnum s.heap e it i old)(Af:st i s.heap)(hx:its[i]?=none)
  (q:∀h',Heap.ExtBut it s.heap h'->Q none {s with heap:=h'}):wpAny (model prog w) A (pyNext (.ref e)) Q E s:=by
 have ty:s.TypeIs (.ref e) "enumerate":=⟨_,he,rfl⟩;have body:∀{E':Value->Shared->Prop},(∀h' x,Heap.ExtBut it s.heap h'->(∃o,h'.get? x=some o/\o.cls=.type "StopIteration")->E' (.ref x) {s with heap:=h'})->wpAny (model prog w) A.in1 (Builtin.«enumerate.__next__» ⟨[.ref e],[]⟩) (λ_ _=>False) E' s:=λk=>by
  show wpAny _ A.in1 (field (.ref e) 2 >>= _) _ _ _;exact aB (j9 he rfl (x:=.ref it) rfl (aB (N.fin A.in1 _ s i _ hh Af hx k)))
 unfold pyNext;refine aB (FQ (xZ (name:=Str.ofString "__next__") ty F.slot_enumerate_next (vZ F.slot_enumerate_next ty F.entry_enumerate_next (gH (body λh' x a b=>?_) (λ_ _ z=>z.elim) λ_ _ z=>z) (F.args_enumerate_next_1 _))));obtain⟨o,a1,a2⟩:=b;exact aB (Km (T:="StopIteration") (b:=true) ⟨o,a1,a2⟩ isSubtype_stop (aN (q h' a)))
theorem zgB{P:Program}{w:World}{K:W.Frag}{elts:List Expr}{kk:Nat}{pos:Pos}{kd:Bool}{l e it:Addr}(QW:e≠it)(Xu:l≠it)(hle:l≠e) :
  Turn P w K (.Tuple elts kk pos) (Ite K kd l) [e,it] e (λi h=>(∃old,IsEnum h e it i old)/\Rk kd it l i h) where
 mem:=by simp
 obj:=λi h ⟨⟨old,he⟩,st⟩ b hb=>by
  have:b=e\/b=it:=by simpa using hb
  rcases this with rfl|rfl
  ·exact⟨_,he,λv z=>by cases z⟩
  ·exact st.obj
 keep:=λi h h' ⟨⟨old,he⟩,st⟩ k=>⟨⟨old,k e (by simp) _ he⟩,st.keep λo e=>k it (by simp) o e⟩
 item:=by
  intro X hP hw hK hc i ao s Z H E I hf ⟨⟨old,he⟩,st⟩ hg;subst hP hw hK;obtain⟨xs,x,hq,hx⟩:=hg;obtain⟨its,rv,p⟩:=I.row hq;obtain⟨u,hu,ru⟩:=rv.get hx;have dF:i<its.toArray.size:=by simpa using (eO.mp hu).1
  refine wpAny_pyNext_enum_itemD (Ba (A:=X.A.in1) (I.ok.hd hc) kd Xu its.toArray) he ⟨st,p⟩ dF QW (by simp[QW,hle.symm]) λu' h1 tk hP ho QX hT hsz hk=>?_;have eu:u'=u:=by
   have:its[i]?=some u':=by simpa using hP
   rw[hu] at this;cases this;rfl
  subst eu;refine⟨_,rfl,wpAny_letOwnedTupleGo_enum (s:={s with heap:=h1,toks:=tk+1}) ho λh2 he2 sb=>?_⟩;have QT:h2.get? s.heap.objs.size=some {cls:=.type "tuple",data:=.seq #[.int i tk,u']}:=(sb.2 _ (vh (bZ he))).trans hT;have kk:∀b o,b∉[e,it]->s.heap.get? b=some o->h2.get? b=some o:=λb o hb q=>(sb.2 b λz=>hb (by simp[z])).trans (hk b o (λz=>hb (by simp[z])) (λz=>hb (by simp[z])) q);have I2:=I.lG (t':=tk+1) (a:=s.heap.objs.size) (o:=.tup [.int i,x]) kk (λb hb=>hf b hb) (b_ _) (show bM X.prog X.w _ h2 _ (.tup [.int i,x]) from ⟨by show 2<=sizeLine;decide,[.int i tk,u'],.cons ⟨_,rfl⟩ (.cons ru .nil),⟨_,QT,rfl,_,rfl⟩⟩);have hn:H s.heap.objs.size=none:=I.hok.fresh (b_ _);refine⟨.ref s.heap.objs.size,_,I2,rfl,⟨_,x,hn,rfl,rfl,λys hy=>by rw[I.mQ hy hq];exact hx⟩,⟨⟨_,by simpa using he2⟩,QX.1.keep λo q=>(sb.2 it QW.symm).trans q⟩,λb hb=>?_⟩;have nb:b≠s.heap.objs.size:=by
   have:b=e\/b=it:=by simpa using hb
   rcases this with rfl|rfl
   ·exact dN (bZ he)
   ·obtain⟨o,q,_⟩:=st.obj;exact dN (bZ q)
  rw[cW nb];exact(hf b hb).1
 done:=by
  intro X hP hw hK hc i ao s Z H E I hf ⟨⟨old,he⟩,st⟩ hg;subst hP hw hK;obtain⟨xs,hq,hx⟩:=hg;obtain⟨its,rv,p⟩:=I.row hq;have hl:=rv.length;exact zhE (I.ok.hd hc) (lH.of kd Xu) he ⟨st,p⟩ (by simp;lia) λh' eb=>⟨rfl,I.qI (t':=s.toks) (ch:=[e,it]) (λb o hb q=>eb b o (λz=>hb (by simp[z])) q) λb hb=>hf b hb⟩
 self:=λ_ _ _ _ _ ⟨⟨old,he⟩,_⟩ h=>wpAny_pyIter_enum he h
section
variable {X:Cx}
noncomputable def HB(K:W.Frag)(ta:TA):TI:=λZ H R=>ta Z H λvs H1=>∃kd l xs,vs=[.ref l]/\Sk kd K H1 l xs/\R (Ite K kd l) H1
theorem zfN:bootBuiltins "enumerate"=some (.type "enumerate"):=by decide +kernel
theorem zko{a:Expr}{ta:TA}{p pos tpos:Pos}{elts:List Expr}{kk:Nat}(hg:Gl X "enumerate")(hm:X.mg "enumerate"=none)(ha:PA X [a] ta)(hs:starEach [a] X.env=[(false,eval a X.env)]:=by rfl):PI X (.Tuple elts kk tpos) (.Call (.Name "enumerate" p) [a] [] pos) (HB X.K ta):=by
 intro ao s Z H R I h;refine Call_ (wA I hg hm zfN (zx (aU (ha pos ao s Z H _ I h) λus s1 ⟨vs,H1,I1,r1,q1⟩=>?_) hs rfl));obtain⟨kd,l,xs,e,hq,q⟩:=q1;subst e;cases r1 with
 |cons r rr=>
  cases rr;cases r;obtain⟨its,rv,p⟩:=I1.row hq;have hl:l<s1.heap.objs.size:=p.lt;refine callType_new F.called_enumerate (by decide) (F.typeCall_enumerate_1 _) (F.newCall_enumerate_1 _) (λobj=>F.args_object_init_2 obj _) F.entry_enumerate_new (zh3 kd l its.toArray) ⟨p,?_⟩;have n1:(s1.heap.push (gb kd l)).objs.size=s1.heap.objs.size+1:=vg ..;have he:IsEnum ((s1.heap.push (gb kd l)).push {cls:=.type "enumerate",data:=.fields #[.none,.bool false,.ref s1.heap.objs.size,rawInt 0,.none,.none]}) (s1.heap.objs.size+1) s1.heap.objs.size 0 .none:=by
   have:=fL (s1.heap.push (gb kd l)) (o:={cls:=.type "enumerate",data:=.fields #[.none,.bool false,.ref s1.heap.objs.size,rawInt 0,.none,.none]}) rfl;rw[n1] at this;exact this
  show _/\_;rw[n1];refine⟨⟨_,he,rfl⟩,wpAny_pyIter_enum (s:={s1 with heap:=(s1.heap.push (gb kd l)).push {cls:=.type "enumerate",data:=.fields #[.none,.bool false,.ref s1.heap.objs.size,rawInt 0,.none,.none]}}) he ?_⟩;have rk:Rk kd s1.heap.objs.size l 0 ((s1.heap.push (gb kd l)).push {cls:=.type "enumerate",data:=.fields #[.none,.bool false,.ref s1.heap.objs.size,rawInt 0,.none,.none]}):=by
   cases kd
   ·exact⟨_,cM _ (fL _ rfl),rfl,rfl⟩
   ·exact⟨_,cM _ (fL _ rfl),rfl,rfl⟩
  refine⟨s1.heap.objs.size+1,[s1.heap.objs.size+1,s1.heap.objs.size],_,_,H1,rfl,I1.kept (t':=s1.toks) λb o x=>cM _ (cM _ x),zgB (kd:=kd) (l:=l) (Nat.succ_ne_self _) (dN hl) (dN (u_ hl)),⟨⟨_,he⟩,rk⟩,λb hb=>?_,q⟩;have:s1.heap.objs.size<=b:=by
   have:b=s1.heap.objs.size+1\/b=s1.heap.objs.size:=by simpa using hb
   rcases this with rfl|rfl
   ·exact Nat.le_succ _
   ·exact b_ _
  exact I1.tK this (I1.hok.fresh this)
end
end L2
set_option genSizeOf false
set_option genInjectivity false
namespace Mi
open PySem
inductive D where
 |non|bl (b:Bool)|int (i:Int)|str (s:Str)|tup (xs:List D)|fl (xs:List D)|fd (ks vs:List D)|exc (c:Nat) (fs:List D)|ob (c:Nat) (fs:List D)|any
inductive Xv where
 |d (x:D)|l (n:Nat)
inductive Kx where
 |non|int (i:Int)|row (is:List Int)
deriving DecidableEq
inductive SO where
 |lst (xs:List D)
 |dct (kvs:List (List Kx×D))
noncomputable abbrev S:=List SO
inductive Rs (α:Type) where
 |ok (a:α)|er (c:Nat) (fs:List D)
noncomputable abbrev M(α:Type):=S->Option (Rs α×S)
noncomputable def M.ret{α:Type}(a:α):M α:=λs=>some (.ok a,s)
noncomputable def M.bd{α β:Type}(m:M α)(k:α->M β):M β:=λs=>match m s with
 |some (.ok a,s')=>k a s'
 |some (.er c f,s')=>some (.er c f,s')
 |none=>none
noncomputable def M.qt{α:Type}(m:M α):M α:=λs=>match m s with
 |some (.ok a,s')=>some (.ok a,s')
 |_=>none
noncomputable def M.no{α:Type}:M α:=λ_=>none
noncomputable def M.opt{α:Type}:Option α->M α
 |some a=>M.ret a
 |none=>M.no
inductive Rz where
 |dat (d:D)|nw (xs:List D)
inductive Pr where
 |add|aq|mul|fdiv|mod|pow|neg
 |eq|ne|lt|le|gt|ge|inn|nin
 |vJ|sG
 |len|abs|max2|min2|HD|HF|rF|Dv|wQ|divmod|all|sum|list|tuple|sorted|qJ|Bb|str1
 |ix|rev|Xw|HJ|mult|yx
 |count|index|repr
inductive Kd where
 |int|bool|str|tuple|list|dict|cls (c:Nat)|rG
mutual
inductive E where
 |c (d:D)
 |v (i:Nat)
 |pr (fz:Bool) (p:Pr) (xs:Es)
 |yC (p q:Pr) (a b c:E)
 |ch3 (p q r:Pr) (a b c d:E)
 |and (a b:E)
 |or (a b:E)
 |not (a:E)
 |ite (c a b:E)
 |tup (xs:Es)
 |lst (fz:Bool) (xs:Es)
 |HN (k:Str) (i:Int)
 |call (f:Nat) (xs:Es)
 |qK (a:E) (k:Kd)
 |sl (fz:Bool) (a:E) (lo hi:Eo)
 |meth (fz:Bool) (p:Pr) (k:Kd) (o:E) (xs:Es)
 |push (o a:E)
 |pop (o:E)
 |comp (fz:Bool) (elt:E) (tg:List Nat) (it:Wk) (fr:List Nat) (many:Nat) (cond:Eo)
 |iB (fz:Bool) (elt:E) (tg:List Nat) (it:Wk) (HS:List Nat) (yw:Wk) (fr:List Nat) (many:Nat) (cond:Eo)
 |fld (o:E) (cs:List Nat) (i:Nat)
 |of (o:E) (c i:Nat)
 |mk (c f:Nat) (xs:Es)
 |cm (c f:Nat) (o:E) (xs:Es)
 |rH
 |Bc (b:Bool) (k d:E)
 |pP (d k:E)
 |Dw (a:E)
 |HW (fz:Bool) (a:E) (b:E)
 |orv (a b:E)
 |ins (o i a:E)
 |no
inductive Wk where
 |seq (e:E)
 |rg (a b:E)
 |zip (a b:E)
 |enum (a:E)
 |rrg (a:E)
inductive Es where
 |nil
 |cons (a:E) (r:Es)
inductive Eo where
 |no
 |yes (a:E)
end
noncomputable abbrev Ea(a:E):Es:=.cons a .nil
noncomputable abbrev Eb(a b:E):Es:=.cons a (.cons b .nil)
noncomputable abbrev Ec(a b c:E):Es:=.cons a (.cons b (.cons c .nil))
noncomputable abbrev Ei(a b:E):E:=.pr true .ix (.cons a (.cons b .nil))
noncomputable abbrev Ci(i:Int):E:=.c (.int i)
noncomputable def Es.len:Es->Nat
 |.nil=>0
 |.cons _ r=>r.len+1
inductive Tg where
 |nm (i:Nat)
 |tp (is:List Nat)
 |aq (o i:E)
mutual
inductive St where
 |pass
 |ex (e:E)
 |asg (t:Tg) (e:E)
 |par (i j:Nat) (a b:E)
 |aug (i:Nat) (e:E)
 |ret (e:E)
 |rise (c:Nat) (kp:Bool) (xs:Es)
 |iff (c:E) (t e:bV)
 |wh (c:E) (b:bV)
 |fr (t:Tg) (w:Wk) (b:bV)
 |QZ (b:bV) (d:Nat) (i:Nat) (h:bV)
 |dput (d k v:E)
 |no
inductive bV where
 |nil
 |cons (a:St) (r:bV)
end
noncomputable def cX(eq:D->D->Option Bool):List D->List D->Option Bool
 |[],[]=>some true
 |[],_::_=>some false
 |_::_,[]=>some false
 |x::xs,y::ys=>match eq x y,cX eq xs ys with
  |some a,some b=>some (a&&b)
  |_,_=>none
noncomputable def kq:D->Option Nat
 |.non=>some 0
 |.bl _=>some 1
 |.int _=>some 1
 |.str _=>some 2
 |.tup _=>some 3
 |.fl _=>some 4
 |_=>none
noncomputable def cN:Nat->D->D->Option Bool
 |n+1,.tup xs,.tup ys=>cX (cN n) xs ys
 |n+1,.fl xs,.fl ys=>cX (cN n) xs ys
 |_,.non,.non=>some true
 |_,.bl a,.bl b=>some (a==b)
 |_,.int a,.int b=>some (a==b)
 |_,.str a,.str b=>some (a==b)
 |_,.bl a,.int b=>some ((if a then 1 else 0)==b)
 |_,.int a,.bl b=>some (a==(if b then 1 else 0))
 |_,a,b=>match kq a,kq b with
  |some i,some j=>if i=j then none else some false
  |_,_=>none
noncomputable def cF:List D->Option (List Int)
 |[]=>some []
 |.int i::r=>(cF r).map (i::·)
 |_=>none
noncomputable def ltI:List Int->List Int->Bool
 |_,[]=>false
 |[],_::_=>true
 |x::xs,y::ys=>if x=y then ltI xs ys else decide (x<y)
noncomputable def dW:List D->Option (List Bool)
 |[]=>some []
 |.bl b::r=>(dW r).map (b::·)
 |_=>none
noncomputable def cut{α:Type}(xs:List α)(lo hi:Option Int):List α:=(xs.drop (HT.bU xs.length 0 lo)).take (HT.bU xs.length xs.length hi-HT.bU xs.length 0 lo)
noncomputable def mR:D->Option (List D)
 |.tup xs=>some xs
 |.fl xs=>some xs
 |_=>none
noncomputable def cutD(x:D)(lo hi:Option Int):Option Rz:=match x with
 |.tup xs=>some (.dat (.tup (cut xs lo hi)))
 |.fl xs=>some (.nw (cut xs lo hi))
 |_=>none
noncomputable def memD(d:D):List D->Option Bool
 |[]=>some false
 |x::r=>match cN 50 x d,memD d r with
  |some a,some b=>some (a||b)
  |_,_=>none
noncomputable def Bf:Kd->D->Bool
 |.list,.fl _=>true
 |.str,.str _=>true
 |.dict,.fd _ _=>true
 |_,_=>false
noncomputable def cY(f:Int->Int->Option D):List D->Option Rz
 |[.int i,.int j]=>(f i j).map .dat
 |_=>none
noncomputable def qL(f:Int->D):List D->Option Rz
 |[.int i]=>some (.dat (f i))
 |_=>none
noncomputable def rJ(f:List D->Option Rz):List D->Option Rz
 |[a]=>(mR a).bind f
 |_=>none
noncomputable def Bg:List D->Option Rz
 |[.int i,.int j]=>some (.dat (.int (i+j)))
 |[.tup xs,.tup ys]=>if xs.length+ys.length<=sizeLine then some (.dat (.tup (xs++ys))) else none
 |[.fl xs,.fl ys]=>if xs.length+ys.length<=sizeLine then some (.nw (xs++ys)) else none
 |[.str x,.str y]=>if x.length+y.length<=sizeLine then some (.dat (.str (x++y))) else none
 |_=>none
noncomputable def HX:List D->Option Rz
 |[.int i,.int j]=>some (.dat (.bl (decide (i<j))))
 |[.tup xs,.tup ys]=>match cF xs,cF ys with
  |some a,some b=>some (.dat (.bl (ltI a b)))
  |_,_=>none
 |_=>none
noncomputable def wR(f:Bool->Bool):List D->Option Rz
 |[a,b]=>(cN 50 a b).map λk=>.dat (.bl (f k))
 |_=>none
noncomputable def yD(f:Bool->Bool):List D->Option Rz
 |[a,b]=>((mR b).bind (memD a)).map λk=>.dat (.bl (f k))
 |_=>none
noncomputable def D.uc:D->Bool
 |.non=>true
 |_=>false
noncomputable def Bh(f:Bool->Bool):List D->Option Rz
 |[a]=>some (.dat (.bl (f a.uc)))
 |_=>none
noncomputable def HY:List D->Option Rz
 |[.int i]=>some (.dat (.int i))
 |[.bl k]=>some (.dat (.int (if k then 1 else 0)))
 |_=>none
noncomputable def Bj:List D->Option Rz
 |[.fl xs]=>(dW xs).map λbs=>.dat (.bl (bs.all id))
 |_=>none
noncomputable def mU:List D->Option (List Int)
 |[]=>some []
 |.int i::r=>(mU r).map (i::·)
 |_=>none
noncomputable def best(bt:Int->Int->Bool)(i:Int)(is:List Int):Int:=is.foldl (λm j=>if bt j m then j else m) i
noncomputable def H_(bt:Int->Int->Bool):Option (List Int)->Option Rz
 |some (i::is)=>some (.dat (.int (best bt i is)))
 |_=>none
noncomputable def yE(bt:Int->Int->Bool):List D->Option Rz
 |[a]=>(mR a).bind λxs=>H_ bt (mU xs)
 |_=>none
noncomputable def okR(i j:Int):Bool:=decide (-(2^62)<=i/\i<2^62/\-(2^62)<=j/\j<2^62/\(j-i).toNat<=65536)
noncomputable def Ia(i:Int)(n:Nat):List D:=(List.range n).map λk=>.int (i+(k:Nat))
noncomputable def Q0:List D->Option Rz
 |[.int j]=>if okR 0 j then some (.nw (Ia 0 (j-0).toNat)) else none
 |[.int i,.int j]=>if okR i j then some (.nw (Ia i (j-i).toNat)) else none
 |_=>none
noncomputable def Bk:List D->Option Rz
 |[.int j]=>if okR 0 j then some (.dat (.tup (Ia 0 (j-0).toNat))) else none
 |_=>none
noncomputable def pQ:List D->Option Rz
 |[a]=>(mR a).map λxs=>.dat (.tup xs)
 |_=>none
noncomputable def Q5:List D->Option Rz
 |[a,.int i]=>((mR a).bind λxs=>L2.qF xs i).map .dat
 |_=>none
noncomputable def rK:List D->List D->Option Bool
 |[],ys=>some (decide (0<ys.length))
 |_::_,[]=>some false
 |.int x::xs,.int y::ys=>if x=y then rK xs ys else some (decide (x<y))
 |_::_,_::_=>none
noncomputable def yF(xs:List D)(i j:Nat):Option Bool:=match xs[i]?,xs[j]? with
 |some (.int x),some (.int y)=>some (decide (x<y))
 |some (.tup us),some (.tup ws)=>rK us ws
 |_,_=>none
noncomputable def fO(b:List Int):List (List Int)->List Int
 |[]=>b
 |x::r=>fO (if ltI x b=true then x else b) r
noncomputable def jP:List D->Option (List (List Int))
 |[]=>some []
 |.tup xs::r=>match cF xs,jP r with
  |some a,some b=>some (a::b)
  |_,_=>none
 |_=>none
noncomputable def oh:List D->Option Rz
 |[.fl xs]=>match jP xs with
  |some (x::r)=>some (.dat (.tup ((fO x r).map .int)))
  |_=>none
 |_=>none
noncomputable def jQ:D->Bool
 |.int _=>true
 |_=>false
noncomputable def iZ:D->Bool
 |.tup (.int _::_)=>true
 |_=>false
noncomputable def qM(lt:Nat->Nat->Option Bool)(xs:List D):Option (List D):=if xs.length<2 then some xs else if xs.length<64 then (match L2.bY lt (PySem.W.kas_sort xs.length) with
  |some p=>if p.size=xs.length then some (p.toList.map λi=>xs.getD i .non) else none
  |none=>none) else none
noncomputable def yG(xs:List D):Option (List D):=if xs.all jQ||xs.all iZ then qM (yF xs) xs else none
noncomputable def mV:List D->Option Rz
 |[.fl xs]=>(yG xs).map .nw
 |_=>none
noncomputable def ltK(ks:List Int)(i j:Nat):Option Bool:=match ks[i]?,ks[j]? with
 |some x,some y=>some (decide (x<y))
 |_,_=>none
noncomputable def Bl:List D->Option Rz
 |[.tup xs]=>some (.dat (.tup xs.reverse))
 |_=>none
noncomputable def Bm:List D->Option Rz
 |[.fl xs,.bl b]=>(dW xs).map λbs=>.dat (.int (bs.count b))
 |_=>none
noncomputable def Bp:List D->Option Rz
 |[.fl xs,.bl b]=>((dW xs).bind λbs=>bs.idxOf? b).map λ(i:Nat)=>.dat (.int i)
 |_=>none
noncomputable def Q6:List D->Option Rz
 |[.int i]=>if i.natAbs<2^62 then some (.dat (.str (Str.ofString (toString i)))) else none
 |_=>none
noncomputable def Q7(f:D->Option PyData):List D->Option (List PyData)
 |[]=>some []
 |x::r=>match f x,Q7 f r with
  |some a,some b=>some (a::b)
  |_,_=>none
noncomputable def pd:Nat->D->Option PyData
 |n+1,.tup xs=>(Q7 (pd n) xs).map .tuple
 |n+1,.fl xs=>(Q7 (pd n) xs).map .list
 |_,.non=>some .none
 |_,.bl b=>some (.bool b)
 |_,.int i=>some (.int i)
 |_,.str x=>some (.str x)
 |_,_=>none
noncomputable def pdT:D->Option PyData
 |.fd [.str k] [.int i]=>some (.dict [(.str k,.int i)])
 |x=>pd 40 x
noncomputable def shw(d:PyData):Option Rz:=if d.showable=true/\d.shown.length<=sizeLine then some (.dat (.str d.shown)) else none
noncomputable def Ib:List D->Option Rz
 |[x]=>(pdT x).bind shw
 |_=>none
noncomputable def yH:List (Int×Int):=[(0,1),(0,2),(0,3),(0,4),(0,5),(0,6),(0,7),(1,2),(1,3),(1,4),(1,5),(1,6),(1,7),(2,3),(2,4),(2,5),(2,6),(2,7),(3,4),(3,5),(3,6),(3,7),(4,5),(4,6),(4,7),(5,6),(5,7),(6,7)]
noncomputable def ss(ts:List (Int×Int)):List (Int×Int):=yH.filter λt=>ts.contains t
noncomputable def Q8:D->Option (Int×Int)
 |.tup [.int a,.int b]=>if 0<=a/\a<b/\b<8 then some (a,b) else none
 |_=>none
noncomputable def yI:List D->Option (List (Int×Int))
 |[]=>some []
 |x::r=>match Q8 x,yI r with
  |some a,some b=>some (a::b)
  |_,_=>none
noncomputable def pSs:List D->Option Rz
 |[.tup xs]=>(yI xs).map λts=>.nw ((ss ts).map λp=>.tup [.int p.1,.int p.2])
 |_=>none
noncomputable def Ie(is:List Int):Bool:=decide (is.length<=1000)&&is.all λi=>decide (-1000000<=i/\i<=1000000)
noncomputable def Q9(is:List Int):Option Rz:=match Ie is with
 |true=>some (.dat (.int is.sum))
 |false=>none
noncomputable def Q_:List D->Option Rz
 |[a]=>(mR a).bind λxs=>(mU xs).bind Q9
 |_=>none
noncomputable def mW:List Int->List Int
 |[]=>[]
 |x::r=>if r.contains x then mW r else x::mW r
noncomputable def Ig:List D->Option Rz
 |[.tup xs]=>(mU xs).map λis=>.dat (.int (mW is).length)
 |_=>none
noncomputable def rep{α:Type}(xs:List α)(n:Nat):List α:=(List.replicate n xs).flatten
noncomputable def Ih:List D->Option Rz
 |[.fl xs,.int n]=>if 0<=n/\n<=1000/\xs.length<=1000 then some (.nw (rep xs n.toNat)) else none
 |_=>none
noncomputable def Bq:List D->Option Rz
 |[.tup xs]=>if xs.all jQ=true then (yG xs).map .nw else none
 |_=>none
noncomputable def Ii:List D->Option Rz
 |[.tup xs,.int n]=>if 1<=n/\n<=1000/\1<=xs.length/\xs.length<=1000 then some (.dat (.tup (rep xs n.toNat))) else none
 |_=>none
noncomputable def wU:D->Option Bool
 |.non=>some false
 |.bl b=>some b
 |.int i=>some (i != 0)
 |.tup xs=>some (!xs.isEmpty)
 |.fl xs=>some (!xs.isEmpty)
 |_=>none
noncomputable def prim:Pr->List D->Option Rz
 |.add=>Bg
 |.aq=>cY λi j=>some (.int (i-j))
 |.mul=>cY λi j=>if (-(2^64)<i/\i<2^64)\/(-(2^64)<j/\j<2^64) then some (.int (i*j)) else none
 |.fdiv=>cY λi j=>if 0<j/\j<1073741824 then some (.int (i/j)) else none
 |.mod=>cY λi j=>if 0<j then some (.int (i%j)) else none
 |.pow=>cY λi j=>if 0<=j/\j<=1000000/\i.natAbs<2^64 then some (.int (i^j.toNat)) else none
 |.neg=>qL λi=>.int (-i)
 |.eq=>wR id
 |.ne=>wR not
 |.lt=>HX
 |.le=>cY λi j=>some (.bl (decide (i<=j)))
 |.gt=>cY λi j=>some (.bl (decide (j<i)))
 |.ge=>cY λi j=>some (.bl (decide (j<=i)))
 |.inn=>yD id
 |.nin=>yD not
 |.vJ=>Bh id
 |.sG=>Bh not
 |.len=>rJ λxs=>some (.dat (.int xs.length))
 |.abs=>qL λi=>.int (if i<0 then -i else i)
 |.max2=>cY λi j=>some (.int (if j>i then j else i))
 |.min2=>cY λi j=>some (.int (if j<i then j else i))
 |.wQ=>HY
 |.divmod=>cY λi j=>if 0<j/\j<1073741824 then some (.tup [.int (i/j),.int (i%j)]) else none
 |.all=>Bj
 |.Xw=>Q0
 |.HD=>yE λa b=>decide (a>b)
 |.HF=>yE λa b=>decide (a<b)
 |.rF=>oh
 |.Dv=>Bk
 |.list=>rJ λxs=>some (.nw xs)
 |.tuple=>pQ
 |.ix=>Q5
 |.rev=>Bl
 |.sorted=>mV
 |.qJ=>pSs
 |.HJ=>Ih
 |.mult=>Ii
 |.yx=>Bq
 |.sum=>Q_
 |.Bb=>Ig
 |.count=>Bm
 |.index=>Bp
 |.repr=>Ib
 |.str1=>Q6
noncomputable def lJ(aq:Nat->Nat->Bool):D->Kd->Option Bool
 |.exc c _,.cls e=>some (aq c e)
 |.exc _ _,.rG=>some true
 |.exc _ _,_=>none
 |.ob _ _,_=>none
 |.any,_=>none
 |_,.cls _=>none
 |_,.rG=>none
 |.bl _,.bool=>some true
 |.bl _,.int=>some true
 |.bl _,_=>some false
 |.int _,.int=>some true
 |.int _,_=>some false
 |.non,_=>some false
 |.str _,.str=>some true
 |.str _,_=>some false
 |.tup _,.tuple=>some true
 |.tup _,_=>some false
 |.fl _,.list=>some true
 |.fl _,_=>some false
 |.fd _ _,.dict=>some true
 |.fd _ _,_=>some false
noncomputable def rd(x:Xv):M D:=λs=>match x with
 |.d v=>some (.ok v,s)
 |.l n=>match s[n]? with
  |some (.lst xs)=>some (.ok (.fl xs),s)
  |_=>none
noncomputable def gK:List Xv->M (List D)
 |[]=>M.ret []
 |x::r=>M.bd (rd x) λd=>M.bd (gK r) λds=>M.ret (d::ds)
noncomputable def dat(x:Xv):M D:=match x with
 |.d v=>M.ret v
 |.l _=>M.no
noncomputable def cG:List Xv->M (List D)
 |[]=>M.ret []
 |x::r=>M.bd (dat x) λd=>M.bd (cG r) λds=>M.ret (d::ds)
noncomputable def bool(x:Xv):M Bool:=match x with
 |.d (.bl b)=>M.ret b
 |_=>M.no
noncomputable def int(x:Xv):M Int:=match x with
 |.d (.int b)=>M.ret b
 |_=>M.no
noncomputable def newL(fz:Bool)(xs:List D):M Xv:=match fz with
 |true=>M.ret (.d (.fl xs))
 |false=>λs=>some (.ok (.l s.length),s++[.lst xs])
noncomputable def cB(fz:Bool)(o:Option Rz):M Xv:=match o with
 |some (.dat d)=>M.ret (.d d)
 |some (.nw xs)=>newL fz xs
 |none=>M.no
noncomputable def cP(x:Xv):M (Nat×List D):=λs=>match x with
 |.l n=>match s[n]? with
  |some (.lst xs)=>some (.ok (n,xs),s)
  |_=>none
 |_=>none
noncomputable def putL(n:Nat)(xs:List D):M Unit:=λs=>some (.ok (),s.set n (.lst xs))
noncomputable def ud:D->Option Kx
 |.non=>some .non
 |.int i=>some (.int i)
 |.tup xs=>(cF xs).map .row
 |_=>none
noncomputable def Br:List D->Option (List Kx)
 |[]=>some []
 |x::r=>match ud x,Br r with
  |some a,some b=>some (a::b)
  |_,_=>none
noncomputable def kOf:D->Option (List Kx)
 |.tup xs=>Br xs
 |_=>none
noncomputable abbrev iR:=List (List Kx×D)
noncomputable def cj(k:List Kx):iR->Option D
 |[]=>none
 |p::r=>if p.1=k then some p.2 else cj k r
noncomputable def jy(k:List Kx)(d:D)(r:iR):iR:=if (cj k r).isSome=true then r.map λp=>if p.1=k then (p.1,d) else p else r++[(k,d)]
noncomputable def fP(x:Xv):M (Nat×iR):=λs=>match x with
 |.l n=>match s[n]? with
  |some (.dct kvs)=>some (.ok (n,kvs),s)
  |_=>none
 |_=>none
noncomputable def putD(n:Nat)(kvs:iR):M Unit:=λs=>some (.ok (),s.set n (.dct kvs))
noncomputable def key(x:Xv):M (List Kx):=match x with
 |.d v=>M.opt (kOf v)
 |.l _=>M.no
noncomputable def enumFrom:Nat->List D->List D
 |_,[]=>[]
 |i,x::r=>.tup [.int i,x]::enumFrom (i+1) r
inductive Src where
 |fix (xs:List D)|live (n:Nat)|lK (n:Nat)
noncomputable def Src.at(c:Src)(i:Nat)(s:S):Option (Option D):=match c with
 |.fix xs=>some xs[i]?
 |.live n=>match s[n]? with
  |some (.lst xs)=>some xs[i]?
  |_=>none
 |.lK n=>match s[n]? with
  |some (.lst xs)=>some (xs[i]?.map λx=>.tup [.int i,x])
  |_=>none
noncomputable def ou(x:Xv):M (Src×Nat):=λs=>match x with
 |.d (.tup xs)=>some (.ok (.fix (enumFrom 0 xs),(enumFrom 0 xs).length),s)
 |.d (.fl xs)=>some (.ok (.fix (enumFrom 0 xs),(enumFrom 0 xs).length),s)
 |.l n=>match s[n]? with
  |some (.lst xs)=>some (.ok (.lK n,xs.length),s)
  |_=>none
 |_=>none
noncomputable def src(x:Xv):M (Src×Nat):=λs=>match x with
 |.d (.tup xs)=>some (.ok (.fix xs,xs.length),s)
 |.d (.fl xs)=>some (.ok (.fix xs,xs.length),s)
 |.l n=>match s[n]? with
  |some (.lst xs)=>some (.ok (.live n,xs.length),s)
  |_=>none
 |_=>none
noncomputable def pR(x:Xv):M (List D):=match x with
 |.d (.tup xs)=>M.ret xs
 |.d (.fl xs)=>M.ret xs
 |_=>M.no
noncomputable def jz(a b:Int):List D:=(List.range (b-a).toNat).map λ(i:Nat)=>.int (a+i)
noncomputable def fQ(a:Int):Bool:=decide (-(2^62)<a)&&decide (a<2^62)
noncomputable def walk(c:Src)(f:D->List D->M (List D)):Nat->Nat->List D->M (List D)
 |0,_,_=>M.no
 |k+1,i,acc=>λs=>match c.at i s with
  |none=>none
  |some none=>some (.ok acc,s)
  |some (some x)=>M.bd (f x acc) (λacc'=>walk c f k (i+1) acc') s
noncomputable def yJ(f:D->M Xv):List D->M (List Int)
 |[]=>M.ret []
 |x::r=>M.bd (M.qt (f x)) λy=>M.bd (int y) λk=>M.bd (yJ f r) λks=>M.ret (k::ks)
noncomputable abbrev Vs:=List (Option Xv)
noncomputable abbrev Fn:=Nat->List Xv->M Xv
noncomputable def locs:List Xv->List Nat
 |[]=>[]
 |.d _::r=>locs r
 |.l n::r=>n::locs r
noncomputable def dB:Nat->List Xv->List Xv
 |_,[]=>[]
 |k,.d v::r=>.d v::dB k r
 |k,.l _::r=>.l k::dB (k+1) r
noncomputable def jA(s:S):List Nat->Option S
 |[]=>some []
 |n::r=>match s[n]?,jA s r with
  |some o,some q=>some (o::q)
  |_,_=>none
noncomputable def cZ(s:S):List Nat->S->S
 |n::r,o::q=>cZ (s.set n o) r q
 |_,_=>s
noncomputable def cI(F:List Xv->M Xv)(xs:List Xv):M Xv:=λs=>
 if (locs xs).Nodup then match jA s (locs xs) with
  |none=>none
  |some s0=>match F (dB 0 xs) s0 with
   |none=>none
   |some (.er c fs,s1)=>some (.er c fs,cZ s (locs xs) s1)
   |some (.ok (.d v),s1)=>some (.ok (.d v),cZ s (locs xs) s1)
   |some (.ok (.l n),s1)=>match (locs xs)[n]? with
    |some m=>some (.ok (.l m),cZ s (locs xs) s1)
    |none=>match s1[n]? with
     |some o=>some (.ok (.l s.length),cZ s (locs xs) s1++[o])
     |none=>none
 else none
noncomputable def Ra(F:List Xv->M Xv)(c:Nat)(vs:List Xv):M Xv:=λs=>
 if locs vs=[] then match F (.d .any::vs) [] with
  |some (.ok (.d (.tup ds)),_)=>some (.ok (.d (.ob c ds)),s)
  |_=>none
 else none
noncomputable def pU(c:Nat)(x:Xv):M (List D):=match x with
 |.d (.ob e fs)=>if e=c then M.ret fs else M.no
 |_=>M.no
noncomputable def fU{α:Type}:List Nat->List α->List (Option α)->Option (List (Option α))
 |[],[],J=>some J
 |i::is,d::ds,J=>fU is ds (J.set i (some d))
 |_,_,_=>none
noncomputable def jR:D->Option (List D)
 |.tup xs=>some xs
 |_=>none
noncomputable def c7(tg:List Nat)(x:D)(J:Vs):Option Vs:=match tg with
 |[i]=>some (J.set i (some (.d x)))
 |is=>(jR x).bind λds=>fU is (ds.map .d) J
noncomputable def blk(many:Nat)(fr:List Nat)(J:Vs):Vs:=List.replicate many none++fr.map λj=>J[j]?.join
section
variable (aq:Nat->Nat->Bool)(aj:Bool)(F:Fn)
mutual
noncomputable def ev:E->Vs->M Xv
 |.c d,_=>M.ret (.d d)
 |.v i,J=>M.opt (J[i]?.join)
 |.pr fz p xs,J=>M.bd (evs xs J) λvs=>M.bd (gK vs) λds=>cB fz (prim p ds)
 |.yC p q a b c,J=>M.bd (ev a J) λx=>M.bd (ev b J) λy=>M.bd (gK [x,y]) λds=>M.bd (cB true (prim p ds)) λt=>M.bd (bool t) λk=>
   if k=true then M.bd (ev c J) λz=>M.bd (gK [y,z]) λds=>cB true (prim q ds) else M.ret (.d (.bl false))
 |.ch3 p q r a b c d,J=>M.bd (ev a J) λx=>M.bd (ev b J) λy=>M.bd (gK [x,y]) λds=>M.bd (cB true (prim p ds)) λt=>M.bd (bool t) λk=>
   if k=true then M.bd (ev c J) λz=>M.bd (gK [y,z]) λds=>M.bd (cB true (prim q ds)) λt=>M.bd (bool t) λk2=>
    if k2=true then M.bd (ev d J) λw=>M.bd (gK [z,w]) λds=>cB true (prim r ds) else M.ret (.d (.bl false))
   else M.ret (.d (.bl false))
 |.and a b,J=>M.bd (ev a J) λx=>M.bd (bool x) λk=>if k=true then ev b J else M.ret (.d (.bl false))
 |.or a b,J=>M.bd (ev a J) λx=>M.bd (bool x) λk=>if k=true then M.ret (.d (.bl true)) else ev b J
 |.not a,J=>M.bd (ev a J) λx=>M.bd (bool x) λk=>M.ret (.d (.bl (!k)))
 |.ite c a b,J=>M.bd (ev c J) λx=>M.bd (bool x) λk=>if k=true then ev a J else ev b J
 |.tup xs,J=>M.bd (evs xs J) λvs=>M.bd (cG vs) λds=>M.ret (.d (.tup ds))
 |.lst fz xs,J=>M.bd (evs xs J) λvs=>M.bd (cG vs) λds=>newL fz ds
 |.HN k i,_=>M.ret (.d (.fd [.str k] [.int i]))
 |.call f xs,J=>M.bd (evs xs J) λvs=>cI (F f) vs
 |.qK a k,J=>M.bd (ev a J) λx=>M.bd (rd x) λd=>M.bd (M.opt (lJ aq d k)) λb=>M.ret (.d (.bl b))
 |.sl fz a lo hi,J=>M.bd (ev a J) λx=>M.bd (wV lo J) λl=>M.bd (wV hi J) λh=>M.bd (rd x) λd=>cB fz (cutD d l h)
 |.meth fz p k o xs,J=>M.bd (ev o J) λx=>M.bd (rd x) λd=>if Bf k d=true then M.bd (evs xs J) λys=>M.bd (gK (x::ys)) λds=>cB fz (prim p ds) else M.no
 |.push o a,J=>M.bd (ev o J) λx=>M.bd (cP x) λ_=>M.bd (ev a J) λy=>M.bd (dat y) λd=>M.bd (cP x) λnx=>if nx.2.length<sizeLine then M.bd (putL nx.1 (nx.2++[d])) λ_=>M.ret (.d .non) else M.no
 |.pop o,J=>M.bd (ev o J) λx=>M.bd (cP x) λnx=>match nx.2.getLast? with
   |some d=>M.bd (putL nx.1 nx.2.dropLast) λ_=>M.ret (.d d)
   |none=>M.no
 |.comp fz elt tg it fr many cond,J=>if aj=true then M.bd (g8 it J) λcn=>
   M.bd (walk cn.1 (λd acc=>M.bd (M.opt (c7 tg d (blk many fr J))) λJ'=>M.bd (M.qt (mX cond J')) λok=>
    if ok=true then M.bd (M.qt (ev elt J')) λy=>M.bd (dat y) λe=>if acc.length<sizeLine then M.ret (acc++[e]) else M.no else M.ret acc) (cn.2+1) 0 []) λxs=>newL fz xs
  else M.no
 |.iB fz elt tg it HS yw fr many cond,J=>if aj=true then M.bd (g8 it J) λcn=>
   M.bd (walk cn.1 (λd acc=>M.bd (M.opt (c7 tg d (blk many fr J))) λJ'=>M.bd (M.qt (g8 yw J')) λpW=>
    walk pW.1 (λd2 acc=>M.bd (M.opt (c7 HS d2 J')) λXx=>M.bd (M.qt (mX cond Xx)) λok=>
     if ok=true then M.bd (M.qt (ev elt Xx)) λy=>M.bd (dat y) λe=>if acc.length<sizeLine then M.ret (acc++[e]) else M.no else M.ret acc) (pW.2+1) 0 acc) (cn.2+1) 0 []) λxs=>newL fz xs
  else M.no
 |.fld o cs i,J=>M.bd (ev o J) λx=>match x with
   |.d (.exc c fs)=>if cs.contains c=true then M.opt (fs[i]?.map .d) else M.no
   |_=>M.no
 |.of o c i,J=>M.bd (ev o J) λx=>M.bd (pU c x) λfs=>M.opt (fs[i]?.map .d)
 |.mk c f xs,J=>M.bd (evs xs J) λvs=>Ra (F f) c vs
 |.cm c f o xs,J=>M.bd (ev o J) λx=>M.bd (pU c x) λ_=>M.bd (evs xs J) λvs=>M.qt (cI (F f) (x::vs))
 |.rH,_=>λs=>some (.ok (.l s.length),s++[.dct []])
 |.Bc b k d,J=>M.bd (ev k J) λx=>M.bd (ev d J) λy=>M.bd (key x) λkx=>M.bd (fP y) λnk=>M.ret (.d (.bl ((cj kx nk.2).isSome==b)))
 |.pP d k,J=>M.bd (ev d J) λy=>M.bd (ev k J) λx=>M.bd (key x) λkx=>M.bd (fP y) λnk=>M.opt ((cj kx nk.2).map .d)
 |.Dw a,J=>M.bd (ev a J) λx=>M.bd (rd x) λd=>M.bd (M.opt (wU d)) λk=>M.ret (.d (.bl k))
 |.HW fz a b,J=>if aj=true then M.bd (ev a J) λx=>match x with
   |.d (.fl xs)=>M.bd (yJ (λd=>ev b [some (.d d)]) xs) λks=>M.bd (M.opt (qM (ltK ks) xs)) λys=>newL fz ys
   |_=>M.no else M.no
 |.orv a b,J=>M.bd (ev a J) λx=>M.bd (rd x) λd=>M.bd (M.opt (wU d)) λk=>if k=true then M.ret x else ev b J
 |.ins o i a,J=>M.bd (ev o J) λx=>M.bd (cP x) λ_=>M.bd (ev i J) λz=>M.bd (int z) λj=>M.bd (ev a J) λy=>M.bd (dat y) λd=>M.bd (cP x) λnx=>if 0<=j/\j<=nx.2.length/\nx.2.length<sizeLine then M.bd (putL nx.1 (nx.2.take j.toNat++d::nx.2.drop j.toNat)) λ_=>M.ret (.d .non) else M.no
 |.no,_=>M.no
noncomputable def g8:Wk->Vs->M (Src×Nat)
 |.seq e,J=>M.bd (ev e J) src
 |.rg a b,J=>M.bd (ev a J) λx=>M.bd (ev b J) λy=>M.bd (int x) λi=>M.bd (int y) λj=>if fQ i&&fQ j then M.ret (.fix (jz i j),(jz i j).length) else M.no
 |.zip a b,J=>M.bd (ev a J) λx=>M.bd (ev b J) λy=>M.bd (pR x) λxs=>M.bd (pR y) λys=>M.ret (.fix (List.zipWith (λp q=>.tup [p,q]) xs ys),(List.zipWith (λ(p q:D)=>D.tup [p,q]) xs ys).length)
 |.enum a,J=>M.bd (ev a J) ou
 |.rrg a,J=>M.bd (ev a J) λx=>M.bd (int x) λi=>if fQ i then M.ret (.fix (jz 0 i).reverse,(jz 0 i).length) else M.no
noncomputable def wV:Eo->Vs->M (Option Int)
 |.no,_=>M.ret none
 |.yes a,J=>M.bd (ev a J) λx=>M.bd (int x) λi=>M.ret (some i)
noncomputable def mX:Eo->Vs->M Bool
 |.no,_=>M.ret true
 |.yes a,J=>M.bd (ev a J) bool
noncomputable def evs:Es->Vs->M (List Xv)
 |.nil,_=>M.ret []
 |.cons a r,J=>M.bd (ev a J) λx=>M.bd (evs r J) λxs=>M.ret (x::xs)
end
end
inductive Out where
 |nx (J:Vs)|rt (x:Xv)|bk (J:Vs)|ct (J:Vs)|er (c:Nat) (fs:List D) (J:Vs)
noncomputable abbrev MS:=S->Option (Out×S)
noncomputable def ofM{α:Type}(m:M α)(J:Vs)(k:α->MS):MS:=λs=>match m s with
 |some (.ok a,s')=>k a s'
 |some (.er c fs,s')=>some (.er c fs J,s')
 |none=>none
noncomputable def cJ(m:MS)(k:Vs->MS):MS:=λs=>match m s with
 |some (.nx J,s')=>k J s'
 |r=>r
section
variable (aq:Nat->Nat->Bool)
noncomputable def store(aj:Bool)(F:Fn)(t:Tg)(x:Xv)(J:Vs):MS:=match t with
 |.nm i=>λs=>some (.nx (J.set i (some x)),s)
 |.tp is=>if aj=true then ofM (M.bd (dat x) λd=>M.opt ((jR d).bind λds=>fU is (ds.map .d) J)) J (λJ' s=>some (.nx J',s)) else λ_=>none
 |.aq o i=>ofM (M.bd (dat x) λd=>M.bd (ev aq aj F o J) λy=>M.bd (ev aq aj F i J) λz=>M.bd (int z) λj=>M.bd (cP y) λnx=>
   match L2.rE nx.2.length j with
   |some q=>putL nx.1 (nx.2.set q d)
   |none=>M.no) J (λ_ s=>some (.nx J,s))
noncomputable def gU(c:Vs->M Bool)(b:Vs->MS):Nat->Vs->MS
 |0,_=>λ_=>none
 |k+1,J=>ofM (c J) J λok=>if ok=true then λs=>match b J s with
   |some (.nx J',s')=>gU c b k J' s'
   |some (.ct J',s')=>gU c b k J' s'
   |some (.bk J',s')=>some (.nx J',s')
   |r=>r
  else λs=>some (.nx J,s)
noncomputable def dG(c:Src)(b:D->Vs->MS):Nat->Nat->Vs->MS
 |0,_,_=>λ_=>none
 |k+1,i,J=>λs=>match c.at i s with
  |none=>none
  |some none=>some (.nx J,s)
  |some (some d)=>match b d J s with
   |some (.nx J',s')=>dG c b k (i+1) J' s'
   |some (.ct J',s')=>dG c b k (i+1) J' s'
   |some (.bk J',s')=>some (.nx J',s')
   |r=>r
noncomputable def goes(i:Nat):Out->Out
 |.nx J=>.nx (J.set i none)
 |.bk J=>.bk (J.set i none)
 |.ct J=>.ct (J.set i none)
 |r=>r
noncomputable def oA:Nat:=1000000000000
mutual
noncomputable def ex(aj:Bool)(F:Bool->Fn):St->Vs->MS
 |.pass,J=>λs=>some (.nx J,s)
 |.ex e,J=>ofM (ev aq aj (F aj) e J) J λ_ s=>some (.nx J,s)
 |.asg t e,J=>ofM (ev aq aj (F aj) e J) J λx=>store aq aj (F aj) t x J
 |.par i j a b,J=>if aj=true then ofM (M.bd (ev aq aj (F aj) a J) λx=>M.bd (ev aq aj (F aj) b J) λy=>M.ret (x,y)) J λxy s=>some (.nx ((J.set i (some xy.1)).set j (some xy.2)),s) else λ_=>none
 |.aug i e,J=>ofM (M.bd (M.opt (J[i]?.join)) λx=>M.bd (ev aq aj (F aj) e J) λy=>M.bd (int x) λp=>M.bd (int y) λq=>M.ret (p+q)) J λr s=>some (.nx (J.set i (some (.d (.int r)))),s)
 |.ret e,J=>ofM (ev aq aj (F aj) e J) J λx s=>some (.rt x,s)
 |.rise c kp xs,J=>if aj=true then ofM (M.bd (evs aq aj (F aj) xs J) cG) J λds s=>some (.er c (if kp=true then ds else []) J,s) else λ_=>none
 |.iff c t e,J=>ofM (M.bd (ev aq aj (F aj) c J) bool) J λb=>if b=true then exs aj F t J else exs aj F e J
 |.wh c b,J=>gU (λJ=>M.bd (ev aq aj (F aj) c J) bool) (λJ=>exs aj F b J) oA J
 |.fr t w b,J=>if aj=true then ofM (g8 aq aj (F aj) w J) J λcn=>dG cn.1 (λd J=>cJ (store aq aj (F aj) t (.d d) J) λJ'=>exs aj F b J') (cn.2+1) 0 J else λ_=>none
 |.QZ b d i h,J=>if aj=true then λs=>match exs aj F b J s with
   |some (.er c fs J',s')=>if aq c d=true then (match exs false F h (J'.set i (some (.d (.exc c fs)))) s' with
    |some (r,s'')=>(match r with
     |.er _ _ _=>none
     |r=>some (goes i r,s''))
    |none=>none) else none
   |r=>r
  else λ_=>none
 |.dput d k v,J=>ofM (M.bd (ev aq aj (F aj) v J) λz=>M.bd (dat z) λw=>M.bd (ev aq aj (F aj) d J) λy=>M.bd (ev aq aj (F aj) k J) λx=>M.bd (key x) λkx=>M.bd (fP y) λnk=>if nk.2.length<sizeLine then putD nk.1 (jy kx w nk.2) else M.no) J (λ_ s=>some (.nx J,s))
 |.no,_=>λ_=>none
noncomputable def exs(aj:Bool)(F:Bool->Fn):bV->Vs->MS
 |.nil,J=>λs=>some (.nx J,s)
 |.cons a r,J=>cJ (ex aj F a J) λJ'=>exs aj F r J'
end
structure Df where
 many:Nat
 iC:Nat
 body:bV
noncomputable def call(T:Nat->Option Df):Nat->Bool->Fn
 |0,_,_,_=>M.no
 |k+1,aj,f,xs=>match T f with
  |none=>M.no
  |some d=>if xs.length=d.iC then λs=>match exs aq aj (λc=>call T k c) d.body (xs.map some++List.replicate (d.many-d.iC) none) s with
    |some (.nx _,s')=>some (.ok (.d .non),s')
    |some (.rt v,s')=>some (.ok v,s')
    |some (.er c fs _,s')=>some (.er c fs,s')
    |_=>none
   else M.no
end
end Mi
namespace Mi
open PySem L2
structure Ph where
 z:Addr->Prop
 l:List Addr
structure Cl where
 a:Nat->Addr
 f:Nat->List Str
 b:Nat->Addr
 g:Nat->List Str
section
variable (K:W.Frag)(cA:Cl)
def KT(a:Addr)(vs:List V):Prop:=gw K (λ_=>none) a vs
def KL(a:Addr)(vs:List V):Prop:=cT K (λ_=>none) a vs
def TupAt(U:Ph)(H:Hp)(a:Addr)(vs:List V):Prop:=(Rd H a (.tup vs)/\¬U.z a)\/KT K a vs
def LstAt(U:Ph)(H:Hp)(a:Addr)(vs:List V):Prop:=(Rd H a (.lst vs)/\¬U.z a)\/KL K a vs
def ExcAt(U:Ph)(H:Hp)(a:Addr)(c:Nat)(vs:List V):Prop:=¬U.z a/\((cA.f c=[]/\vs=[]/\H a=some (wO a (cA.a c) none))\/∃dx,H a=some (wO a (cA.a c) (some dx))/\¬U.z dx/\H dx=some (.xd ((cA.f c).zip vs))/\(cA.f c).length=vs.length)
def pX(U:Ph)(H:Hp)(a:Addr)(c:Nat)(vs:List V):Prop:=¬U.z a/\∃dx,H a=some (.ins (cA.b c) dx ((cA.g c).zip vs))/\(cA.g c).length=vs.length
mutual
inductive Rep (U:Ph) (H:Hp):D->V->Prop where
 |non:Rep U H .non .non
 |bl (b:Bool):Rep U H (.bl b) (.bl b)
 |int (i:Int):Rep U H (.int i) (.int i)
 |str (x:Str):Rep U H (.str x) (.str x)
 |tup {a:Addr} {xs:List D} {vs:List V} (h:TupAt K U H a vs) (r:aC U H xs vs):Rep U H (.tup xs) (.ref a)
 |fl {a:Addr} {xs:List D} {vs:List V} (h:LstAt K U H a vs) (r:aC U H xs vs):Rep U H (.fl xs) (.ref a)
 |fd {a:Addr} {k:Str} {i:Int} (h:H a=some (.dK [(.inr k,.int i)])) (n:¬U.z a):Rep U H (.fd [.str k] [.int i]) (.ref a)
 |exc {a:Addr} {c:Nat} {xs:List D} {vs:List V} (h:ExcAt cA U H a c vs) (r:aC U H xs vs):Rep U H (.exc c xs) (.ref a)
 |ob {a:Addr} {c:Nat} {xs:List D} {vs:List V} (h:pX cA U H a c vs) (r:aC U H xs vs):Rep U H (.ob c xs) (.ref a)
 |any (a:Addr):Rep U H .any (.ref a)
inductive aC (U:Ph) (H:Hp):List D->List V->Prop where
 |nil:aC U H [] []
 |cons {d:D} {v:V} {ds:List D} {vs:List V} (h:Rep U H d v) (r:aC U H ds vs):aC U H (d::ds) (v::vs)
end
inductive aV (U:Ph) (H:Hp):Xv->V->Prop where
 |d {x:D} {v:V} (h:Rep K cA U H x v):aV U H (.d x) v
 |l {n:Nat} {a:Addr} (h:U.l[n]?=some a):aV U H (.l n) (.ref a)
inductive aP (U:Ph) (H:Hp):List Xv->List V->Prop where
 |nil:aP U H [] []
 |cons {d:Xv} {v:V} {ds:List Xv} {vs:List V} (h:aV K cA U H d v) (r:aP U H ds vs):aP U H (d::ds) (v::vs)
noncomputable def Rb:Kx->Int
 |.non=>reduceHash 0xFCA86420
 |.int i=>hashInt i
 |.row is=>reduceHash (Builtin.Tuple.tupleHashOf (is.map hashInt))
noncomputable def qN(k:List Kx):Int:=reduceHash (Builtin.Tuple.tupleHashOf (k.map Rb))
noncomputable def rM:Kx->D
 |.non=>.non
 |.int i=>.int i
 |.row is=>.tup (is.map .int)
noncomputable def i_(k:List Kx):D:=.tup (k.map rM)
noncomputable abbrev mY:=List (List Kx×Addr×Value)
noncomputable def uf(a:Addr)(xs:mY):HO:=.ext λh=>(a==sysModules)=false/\xs.length<=sizeLine/\∃o es ep,h.get? a=some o/\o.ExactDict/\o.data=.dict es ep/\es.toList=xs.map (λx=>⟨qN x.1,.ref x.2.1,x.2.2⟩)/\(xs.map (·.1)).Nodup
inductive jg (U:Ph) (H:Hp):iR->mY->Prop where
 |nil:jg U H [] []
 |cons {k:List Kx} {d:D} {ka:Addr} {u:Value} {v:V} {r:iR} {xs:mY} (hk:Rep K cA U H (i_ k) (.ref ka)) (hu:RelV v u) (hv:Rep K cA U H d v) (q:jg U H r xs):jg U H ((k,d)::r) ((k,ka,u)::xs)
noncomputable def kh(U:Ph)(H:Hp)(a:Addr):SO->Prop
 |.lst xs=>∃vs,H a=some (.lst vs)/\aC K cA U H xs vs
 |.dct kvs=>∃xs,H a=some (uf a xs)/\jg K cA U H kvs xs
structure aD(U:Ph)(H:Hp)(s:S):Prop where
 len:U.l.length=s.length
 obj:∀(n:Nat) o a,s[n]?=some o->U.l[n]?=some a->kh K cA U H a o
 uniq:U.l.Nodup
 lz:∀a∈U.l,U.z a
 zt:∀a,U.z a->∃o,H a=some o
structure Ext(U:Ph)(H:Hp)(U':Ph)(H':Hp):Prop where
 more:∃r,U'.l=U.l++r/\∀b∈r,H b=none
 rN:∀a,U.z a->U'.z a
 lu:∀a,U'.z a->U.z a\/H a=none
 frame:∀a o,H a=some o->a∉U.l->H' a=some o
 stay:∀a o,H a=some o->∃o',H' a=some o'
def aW(U:Ph)(H:Hp)(Z:L2.St)(J:Vs):Prop:=Z.length=J.length/\∀(i:Nat) (x:Xv),J[i]?=some (some x)->∃v,Z[i]?=some (some v)/\aV K cA U H x v
end
section
variable {K:W.Frag}{cA:Cl}{U U' jT:Ph}{H H' mZ:Hp}{s:S}{Z:L2.St}{J:Vs}
theorem Ext.refl:Ext U H U H:=⟨⟨[],by simp,by simp⟩,λ_ h=>h,λ_ h=>.inl h,λ_ _ h _=>h,λ_ o h=>⟨o,h⟩⟩
theorem Ext.lM(x:Ext U H U' H'){a:Addr}(h:H' a=none):H a=none:=by
 cases e:H a with
 |none=>rfl
 |some o=>obtain⟨o',q⟩:=x.stay a o e;rw[h] at q;cases q
theorem Ext.trans(x:Ext U H U' H')(y:Ext U' H' jT mZ):Ext U H jT mZ:=by
 obtain⟨r,e,hr⟩:=x.more;obtain⟨r',e',wW⟩:=y.more;refine⟨⟨r++r',by rw[e',e,CQ],λb hb=>?_⟩,λa h=>y.rN a (x.rN a h),λa h=>?_,λa o h n=>y.frame a o (x.frame a o h n) ?_,λa o h=>?_⟩
 ·rcases oY.mp hb with z|z
  ·exact hr b z
  ·exact x.lM (wW b z)
 ·rcases y.lu a h with z|z
  ·exact x.lu a z
  ·exact .inr (x.lM z)
 ·rw[e];intro z;rcases oY.mp z with z|z
  ·exact n z
  ·rw[hr a z] at h;cases h
 ·obtain⟨o',q⟩:=x.stay a o h;exact y.stay a o' q
theorem Ext.get(x:Ext U H U' H'){n:Nat}{a:Addr}(h:U.l[n]?=some a):U'.l[n]?=some a:=by
 obtain⟨r,e,_⟩:=x.more;rw[e,oX (eO.mp h).1];exact h
theorem Ext.out(x:Ext U H U' H')(hz:∀a∈U.l,U.z a){a:Addr}{o:HO}(h:H a=some o)(n:¬U.z a):H' a=some o/\¬U'.z a:=
 ⟨x.frame a o h λz=>n (hz a z),λz=>by
  rcases x.lu a z with y|y
  ·exact n y
  ·rw[h] at y;cases y⟩
theorem TupAt.mono(x:Ext U H U' H')(hz:∀a∈U.l,U.z a){a:Addr}{vs:List V}(h:TupAt K U H a vs):TupAt K U' H' a vs:=by
 rcases h with ⟨h|⟨o,h⟩,n⟩|h
 ·obtain⟨p,q⟩:=x.out hz h n;exact .inl ⟨.inl p,q⟩
 ·obtain⟨p,q⟩:=x.out hz h n;exact .inl ⟨.inr ⟨o,p⟩,q⟩
 ·exact .inr h
theorem LstAt.mono(x:Ext U H U' H')(hz:∀a∈U.l,U.z a){a:Addr}{vs:List V}(h:LstAt K U H a vs):LstAt K U' H' a vs:=by
 rcases h with ⟨h|⟨o,h⟩,n⟩|h
 ·obtain⟨p,q⟩:=x.out hz h n;exact .inl ⟨.inl p,q⟩
 ·obtain⟨p,q⟩:=x.out hz h n;exact .inl ⟨.inr ⟨o,p⟩,q⟩
 ·exact .inr h
theorem ExcAt.mono(x:Ext U H U' H')(hz:∀a∈U.l,U.z a){a:Addr}{c:Nat}{vs:List V}(h:ExcAt cA U H a c vs):ExcAt cA U' H' a c vs:=by
 obtain⟨n,⟨e1,e2,h⟩|⟨dx,h,n2,h2,h3⟩⟩:=h
 ·obtain⟨p,q⟩:=x.out hz h n;exact⟨q,.inl ⟨e1,e2,p⟩⟩
 ·obtain⟨p,q⟩:=x.out hz h n;obtain⟨p2,q2⟩:=x.out hz h2 n2;exact⟨q,.inr ⟨dx,p,q2,p2,h3⟩⟩
theorem pX.mono(x:Ext U H U' H')(hz:∀a∈U.l,U.z a){a:Addr}{c:Nat}{vs:List V}(h:pX cA U H a c vs):pX cA U' H' a c vs:=by
 obtain⟨n,dx,h,h3⟩:=h;obtain⟨p,q⟩:=x.out hz h n;exact⟨q,dx,p,h3⟩
theorem Rep.mono(x:Ext U H U' H')(hz:∀a∈U.l,U.z a){d:D}{v:V}(h:Rep K cA U H d v):Rep K cA U' H' d v:=
 Rep.rec (motive_1:=λd v _=>Rep K cA U' H' d v) (motive_2:=λd v _=>aC K cA U' H' d v) .non .bl .int .str (λh _ i=>.tup (h.mono x hz) i) (λh _ i=>.fl (h.mono x hz) i) (λh n=>.fd (x.out hz h n).1 (x.out hz h n).2) (λh _ i=>.exc (h.mono x hz) i) (λh _ i=>.ob (h.mono x hz) i) .any .nil (λ_ _ i j=>.cons i j) h
theorem aC.mono(x:Ext U H U' H')(hz:∀a∈U.l,U.z a){d:List D}{v:List V}(h:aC K cA U H d v):aC K cA U' H' d v:=
 aC.rec (motive_1:=λd v _=>Rep K cA U' H' d v) (motive_2:=λd v _=>aC K cA U' H' d v) .non .bl .int .str (λh _ i=>.tup (h.mono x hz) i) (λh _ i=>.fl (h.mono x hz) i) (λh n=>.fd (x.out hz h n).1 (x.out hz h n).2) (λh _ i=>.exc (h.mono x hz) i) (λh _ i=>.ob (h.mono x hz) i) .any .nil (λ_ _ i j=>.cons i j) h
theorem aC.map(m:∀d v,Rep K cA U H d v->Rep K cA U' H' d v):∀{d:List D} {v:List V},aC K cA U H d v->aC K cA U' H' d v
 |_,_,.nil=>.nil
 |_,_,.cons h r=>.cons (m _ _ h) (aC.map m r)
theorem jg.map(m:∀d v,Rep K cA U H d v->Rep K cA U' H' d v){d:iR}{v:mY}(h:jg K cA U H d v):jg K cA U' H' d v:=by
 induction h with
 |nil=>exact .nil
 |cons a b c _ ih=>exact .cons (m _ _ a) b (m _ _ c) ih
theorem kh.map{a:Addr}{o:SO}(h:kh K cA U H a o)(e:∀u,H a=some u->H' a=some u)(m:∀d v,Rep K cA U H d v->Rep K cA U' H' d v):kh K cA U' H' a o:=by
 cases o with
 |lst xs=>obtain⟨vs,q,r⟩:=h;exact⟨vs,e _ q,r.map m⟩
 |dct xs=>obtain⟨vs,q,r⟩:=h;exact⟨vs,e _ q,r.map m⟩
theorem aV.mono(x:Ext U H U' H')(hz:∀a∈U.l,U.z a){d:Xv}{v:V}(h:aV K cA U H d v):aV K cA U' H' d v:=by
 cases h with
 |d h=>exact .d (h.mono x hz)
 |l h=>exact .l (x.get h)
theorem aP.mono(x:Ext U H U' H')(hz:∀a∈U.l,U.z a):∀{ds:List Xv} {vs:List V},aP K cA U H ds vs->aP K cA U' H' ds vs
 |_,_,.nil=>.nil
 |_,_,.cons h r=>.cons (h.mono x hz) (aP.mono x hz r)
theorem aW.mono(x:Ext U H U' H')(hz:∀a∈U.l,U.z a)(h:aW K cA U H Z J):aW K cA U' H' Z J:=⟨h.1,λi d e=>let ⟨v,a,b⟩:=h.2 i d e;⟨v,a,b.mono x hz⟩⟩
theorem aC.len:∀{ds:List D} {vs:List V},aC K cA U H ds vs->ds.length=vs.length
 |_,_,.nil=>rfl
 |_,_,.cons _ r=>by rw[f9,f9,aC.len r]
theorem aP.len:∀{ds:List Xv} {vs:List V},aP K cA U H ds vs->ds.length=vs.length
 |_,_,.nil=>rfl
 |_,_,.cons _ r=>by rw[f9,f9,aP.len r]
theorem aC.get:∀{ds:List D} {vs:List V} {i:Nat} {d:D},aC K cA U H ds vs->ds[i]?=some d->∃v,vs[i]?=some v/\Rep K cA U H d v
 |_,_,_,_,.nil,e=>by simp at e
 |_,_,0,_,.cons h _,e=>by simp at e;subst e;exact⟨_,rfl,h⟩
 |_,_,i+1,d,.cons _ r,e=>by
  obtain⟨v,a,b⟩:=aC.get (i:=i) (d:=d) r (by simpa using e);exact⟨v,by simpa using a,b⟩
theorem aP.get:∀{ds:List Xv} {vs:List V} {i:Nat} {d:Xv},aP K cA U H ds vs->ds[i]?=some d->∃v,vs[i]?=some v/\aV K cA U H d v
 |_,_,_,_,.nil,e=>by simp at e
 |_,_,0,_,.cons h _,e=>by simp at e;subst e;exact⟨_,rfl,h⟩
 |_,_,i+1,d,.cons _ r,e=>by
  obtain⟨v,a,b⟩:=aP.get (i:=i) (d:=d) r (by simpa using e);exact⟨v,by simpa using a,b⟩
theorem aC.none:∀{ds:List D} {vs:List V} {i:Nat},aC K cA U H ds vs->ds[i]?=none->vs[i]?=none:=λ{ds vs i} r e=>by
 have:=r.len;have h2:ds.length<=i:=qm.mp e;exact qm.mpr (by lia)
theorem aC.app:∀{ds es:List D} {vs us:List V},aC K cA U H ds vs->aC K cA U H es us->aC K cA U H (ds++es) (vs++us)
 |_,_,_,_,.nil,s=>s
 |_,_,_,_,.cons h r,s=>.cons h (aC.app r s)
theorem aC.take:∀{ds:List D} {vs:List V} (n:Nat),aC K cA U H ds vs->aC K cA U H (ds.take n) (vs.take n)
 |_,_,0,_=>by simp;exact .nil
 |_,_,n+1,.nil=>by simp;exact .nil
 |_,_,n+1,.cons h r=>by simp only[List.take_succ_cons];exact .cons h (aC.take n r)
theorem aC.drop:∀{ds:List D} {vs:List V} (n:Nat),aC K cA U H ds vs->aC K cA U H (ds.drop n) (vs.drop n)
 |_,_,0,r=>r
 |_,_,n+1,.nil=>by simp;exact .nil
 |_,_,n+1,.cons _ r=>by simp only[List.drop_succ_cons];exact aC.drop n r
theorem aC.set{d:D}{v:V}(h:Rep K cA U H d v):∀{ds:List D} {vs:List V} (i:Nat),aC K cA U H ds vs->aC K cA U H (ds.set i d) (vs.set i v)
 |_,_,_,.nil=>.nil
 |_,_,0,.cons _ r=>.cons h r
 |_,_,i+1,.cons q r=>.cons q (aC.set h i r)
theorem aC.rev:∀{ds:List D} {vs:List V},aC K cA U H ds vs->aC K cA U H ds.reverse vs.reverse
 |_,_,.nil=>.nil
 |_,_,.cons h r=>by rw[Kf,Kf];exact(aC.rev r).app (.cons h .nil)
theorem aC.cut{ds:List D}{vs:List V}{l h:Option Int}(r:aC K cA U H ds vs):aC K cA U H (Mi.cut ds l h) (mH vs l h):=by
 unfold Mi.cut mH;rw[<-r.len];exact(r.drop _).take _
def bB(H H':Hp):Prop:=∀a o,H a=some o->H' a=some o
theorem bB.refl:bB H H:=λ_ _ h=>h
theorem bB.trans(x:bB H H')(y:bB H' mZ):bB H mZ:=λa o h=>y a o (x a o h)
theorem bB.new{p:Addr}{o:HO}(hp:H p=none):bB H (upd H p o):=λa u h=>by rw[cW (Dp h hp)];exact h
theorem bB.ext(g:bB H H'):Ext U H U H':=⟨⟨[],by simp,by simp⟩,λ_ h=>h,λ_ h=>.inl h,λa o h _=>g a o h,λa o h=>⟨o,g a o h⟩⟩
theorem kh.grow{a:Addr}{o:SO}(g:bB H H')(hz:∀a∈U.l,U.z a)(h:kh K cA U H a o):kh K cA U H' a o:=h.map (g _) λ_ _ r=>r.mono g.ext hz
theorem aD.grow(g:bB H H')(h:aD K cA U H s):aD K cA U H' s:=
 ⟨h.len,λn o a e1 e2=>(h.obj n o a e1 e2).grow g h.lz,h.uniq,h.lz,λa z=>let ⟨o,e⟩:=h.zt a z;⟨o,g _ _ e⟩⟩
theorem aD.nz(h:aD K cA U H s){p:Addr}(hp:H p=none):¬U.z p:=λz=>by obtain⟨o,e⟩:=h.zt p z;rw[hp] at e;cases e
noncomputable def Ph.add(U:Ph)(p:Addr):Ph:=⟨λa=>U.z a\/a=p,U.l++[p]⟩
theorem Ext.add{p:Addr}{o:HO}(hp:H p=none):Ext U H (U.add p) (upd H p o):=
 ⟨⟨[p],rfl,by simpa using hp⟩,λ_ h=>.inl h,λa h=>h.imp id λe=>by rw[e];exact hp,λa u h _=>bB.new hp a u h,λa u h=>⟨u,bB.new hp a u h⟩⟩
theorem aD.Ij{p:Addr}{so:SO}{ho:HO}(h:aD K cA U H s)(hp:H p=none)(hr:kh K cA (U.add p) (upd H p ho) p so):aD K cA (U.add p) (upd H p ho) (s++[so]):=by
 have pn:p∉U.l:=λz=>h.nz hp (h.lz p z);refine⟨by show (U.l++[p]).length=_;rw[lD,lD,h.len];rfl,λn o a e1 e2=>?_,?_,λa ha=>?_,λa ha=>?_⟩
 ·have e2:(U.l++[p])[n]?=some a:=e2;by_cases hn:n<s.length
  ·rw[oX hn] at e1;rw[oX (by rw[h.len];exact hn)] at e2;exact(h.obj n o a e1 e2).map (bB.new hp _) λ_ _ r=>r.mono (Ext.add hp) h.lz
  ·have hl:n=s.length:=by
    have z:=(eO.mp e1).1;rw[lD] at z;simp at z
    lia
   subst hl;rw[o8 (b_ _)] at e1;rw[o8 (by rw[h.len];exact b_ _)] at e2;simp at e1;simp[h.len] at e2;subst e1 e2;exact hr
 ·show (U.l++[p]).Nodup;rw[Kg];refine⟨h.uniq,by simp,λa ha b hb e=>?_⟩;simp at hb;subst hb e;exact pn ha
 ·have ha:a∈U.l++[p]:=ha;rcases oY.mp ha with z|z
  ·exact .inl (h.lz a z)
  ·simp at z;exact .inr z
 ·rcases ha with z|z
  ·obtain⟨o,e⟩:=h.zt a z;exact⟨o,bB.new hp _ _ e⟩
  ·subst z;exact⟨_,jF⟩
theorem aD.add{p:Addr}{xs:List D}{vs:List V}(h:aD K cA U H s)(hp:H p=none)(r:aC K cA U H xs vs):aD K cA (U.add p) (upd H p (.lst vs)) (s++[.lst xs]):=h.Ij hp ⟨vs,jF,r.mono (Ext.add hp) h.lz⟩
theorem Ext.write{n:Nat}{p:Addr}{o:HO}(hp:U.l[n]?=some p)(hv:∃u,H p=some u):Ext U H U (upd H p o):=by
 have hm:p∈U.l:=fX hp;refine⟨⟨[],by simp,by simp⟩,λ_ h=>h,λ_ h=>.inl h,λa u h n=>by
  have ne:a≠p:=λe=>n (by rw[e];exact hm);rw[cW ne];exact h,λa u h=>?_⟩
 by_cases e:a=p
 ·subst e;exact⟨o,jF⟩
 ·exact⟨u,by rw[cW e];exact h⟩
theorem aD.ug{n:Nat}{p:Addr}{so:SO}{ho:HO}(h:aD K cA U H s)(hl:n<s.length)(hp:U.l[n]?=some p)(hr:kh K cA U (upd H p ho) p so):aD K cA U (upd H p ho) (s.set n so):=by
 have hv:=h.zt p (h.lz p (fX hp));have x:Ext U H U (upd H p ho):=Ext.write hp hv;refine⟨by rw[pA];exact h.len,λm o a e1 e2=>?_,h.uniq,h.lz,λa ha=>?_⟩
 ·by_cases hm:n=m
  ·subst hm;rw[yc hl] at e1;cases e1;rw[hp] at e2;cases e2;exact hr
  ·rw[qp hm] at e1;have ne:a≠p:=λy=>by
    subst y;exact hm ((Oi (eO.mp hp).1 h.uniq).mp (hp.trans e2.symm))
   exact(h.obj m o a e1 e2).map (λ_ q=>by rw[cW ne];exact q) λ_ _ r=>r.mono x h.lz
 ·obtain⟨o,e⟩:=h.zt a ha;obtain⟨o',e'⟩:=x.stay a o e;exact⟨o',e'⟩
theorem aD.write{n:Nat}{p:Addr}{xs ys:List D}{us:List V}(h:aD K cA U H s)(hn:s[n]?=some (.lst xs))(hp:U.l[n]?=some p)(r:aC K cA U H ys us):aD K cA U (upd H p (.lst us)) (s.set n (.lst ys)):=
 h.ug (eO.mp hn).1 hp ⟨us,jF,r.mono (Ext.write hp (h.zt p (h.lz p (fX hp)))) h.lz⟩
theorem aW.set{i:Nat}{d:Xv}{v:V}(hL:aW K cA U H Z J)(r:aV K cA U H d v):aW K cA U H (Z.set i (some v)) (J.set i (some d)):=by
 refine⟨by rw[pA,pA];exact hL.1,λj e h=>?_⟩;by_cases Rf:i=j
 ·subst Rf;by_cases hl:i<J.length
  ·rw[yc hl] at h;cases h;exact⟨v,by rw[yc (by rw[hL.1];exact hl)],r⟩
  ·rw[List.getElem?_eq_none (by rw[pA];lia)] at h;cases h
 ·rw[qp Rf] at h;obtain⟨u,a,b⟩:=hL.2 j e h;exact⟨u,by rw[qp Rf];exact a,b⟩
theorem TupAt.jh{a:Addr}{vs:List V}(h:TupAt K U H a vs):gw K H a vs:=by
 rcases h with ⟨h,_⟩|(h|h)
 ·exact .inl h
 ·rcases h with h|⟨o,h⟩<;>cases h
 ·exact .inr h
theorem LstAt.sH{a:Addr}{vs:List V}(h:LstAt K U H a vs):cT K H a vs:=by
 rcases h with ⟨h,_⟩|(h|h)
 ·exact .inl h
 ·rcases h with h|⟨o,h⟩<;>cases h
 ·exact .inr h
theorem TupAt.new{p:Addr}{vs:List V}(hz:¬U.z p):TupAt K U (upd H p (.tup vs)) p vs:=.inl ⟨.inl jF,hz⟩
theorem LstAt.new{p:Addr}{vs:List V}(hz:¬U.z p):LstAt K U (upd H p (.lst vs)) p vs:=.inl ⟨.inl jF,hz⟩
end
end Mi
namespace Mi
open PySem PySem.Spec PyProof.Rows L2
theorem un{α β γ:Type}{A B C:α->β->γ->Prop}{R:Prop}(h:∃a b c,A a b c/\B a b c/\C a b c)(f:∀a b c,A a b c->B a b c->C a b c->R):R:=by
 obtain⟨a,b,c,x,y,z⟩:=h;exact f a b c x y z
section
variable (K:W.Frag)(cA:Cl)
def Run{α:Type}(m:M α)(U:Ph)(H:Hp)(s:S)(P:α->S->Ph->Hp->Prop)(Ee:Nat->List D->S->Ph->Hp->Prop):Prop:=
 match m s with
 |some (.ok a,s')=>∀U' H',Ext U H U' H'->aD K cA U' H' s'->P a s' U' H'
 |some (.er c f,s')=>∀U' H',Ext U H U' H'->aD K cA U' H' s'->Ee c f s' U' H'
 |none=>False
def jU(U:Ph)(H:Hp)(c:Nat)(fs:List D)(dx:Option Addr):Prop:=
 (cA.f c=[]/\fs=[]/\dx=none)\/∃d vs,dx=some d/\¬U.z d/\H d=some (.xd ((cA.f c).zip vs))/\(cA.f c).length=vs.length/\aC K cA U H fs vs
noncomputable def eX(EX:XS)(Z:L2.St):Nat->List D->S->Ph->Hp->Prop:=λc fs _ U' H'=>∀dx,jU K cA U' H' c fs dx->EX Z (.ref (cA.a c)) dx H'
noncomputable def tE(EX:XS)(m:Vs->M Xv):TE:=λZ H Q=>∃U J s,aW K cA U H Z J/\aD K cA U H s/\Run K cA (m J) U H s (λd _ U' H'=>∀v,aV K cA U' H' d v->Q v H') (eX K cA EX Z)
noncomputable def Rg(EX:XS)(m:Vs->M (List Xv)):TA:=λZ H Q=>∃U J s,aW K cA U H Z J/\aD K cA U H s/\Run K cA (m J) U H s (λd _ U' H'=>∀v,aP K cA U' H' d v->Q v H') (eX K cA EX Z)
noncomputable def pY(EX:XS)(m:Vs->M Bool):TT:=λZ H Q=>∃U J s,aW K cA U H Z J/\aD K cA U H s/\Run K cA (m J) U H s (λd _ U' H'=>Q d H') (eX K cA EX Z)
def Rv(U:Ph)(H:Hp)(d:D)(v:V):Prop:=match d with
 |.fl xs=>∃a vs,v=.ref a/\cT K H a vs/\aC K cA U H xs vs
 |d=>Rep K cA U H d v
inductive wX (U:Ph) (H:Hp):List D->List V->Prop where
 |nil:wX U H [] []
 |cons {d:D} {v:V} {ds:List D} {vs:List V} (h:Rv K cA U H d v) (r:wX U H ds vs):wX U H (d::ds) (v::vs)
def bG(U:Ph)(H:Hp)(o:Option Rz)(Q:VK):Prop:=match o with
 |none=>False
 |some (.dat d)=>∀H' v,bB H H'->Rep K cA U H' d v->Q v H'
 |some (.nw xs)=>∀p vs,H p=none->aC K cA U H xs vs->Q (.ref p) (upd H p (.lst vs))
structure Zt(U:Ph)(H:Hp):Prop where
 lz:∀a∈U.l,U.z a
 zt:∀a,U.z a->∃o,H a=some o
def bH(p:Pr)(r:List V->Hp->VK->Prop):Prop:=∀(U:Ph) (H:Hp) (ds:List D) (vs:List V) (Q:VK),Zt U H->wX K cA U H ds vs->bG K cA U H (prim p ds) Q->r vs H Q
end
section
variable {K:W.Frag}{cA:Cl}{U U':Ph}{H H':Hp}{s:S}{Z:L2.St}{J:Vs}{EX:XS}
theorem aD.zs(h:aD K cA U H s):Zt U H:=⟨h.lz,h.zt⟩
theorem Zt.nz(h:Zt U H)(hp:H p=none):¬U.z p:=λz=>by obtain⟨o,e⟩:=h.zt p z;rw[hp] at e;cases e
theorem Rep.rv{d:D}{v:V}(h:Rep K cA U H d v):Rv K cA U H d v:=by
 cases h with
 |fl h r=>exact⟨_,_,rfl,h.sH,r⟩
 |non=>exact .non
 |bl b=>exact .bl b
 |int b=>exact .int b
 |str b=>exact .str b
 |tup h r=>exact .tup h r
 |fd h n=>exact .fd h n
 |exc h r=>exact .exc h r
 |ob h r=>exact .ob h r
 |any v=>exact .any v
theorem Run.bd{α β:Type}{m:M α}{k:α->M β}{P:β->S->Ph->Hp->Prop}{Ee:Nat->List D->S->Ph->Hp->Prop}(h:Run K cA (M.bd m k) U H s P Ee):Run K cA m U H s (λa s1 U1 H1=>Ext U H U1 H1/\aD K cA U1 H1 s1/\Run K cA (k a) U1 H1 s1 P Ee) Ee:=by
 unfold Run M.bd at *;cases e:m s with
 |none=>rw[e] at h;exact h
 |some r=>
  obtain⟨r,s1⟩:=r;rw[e] at h;cases r with
  |er c f=>exact h
  |ok a=>
   intro U1 H1 x1 r1;refine⟨x1,r1,?_⟩;dsimp only at h ⊢;cases e2:k a s1 with
   |none=>rw[e2] at h;exact h
   |some q=>
    obtain⟨q,s2⟩:=q;rw[e2] at h;cases q with
    |ok b=>exact λU2 H2 x2 r2=>h U2 H2 (x1.trans x2) r2
    |er c f=>exact λU2 H2 x2 r2=>h U2 H2 (x1.trans x2) r2
theorem Run.imp{α:Type}{m:M α}{P P':α->S->Ph->Hp->Prop}{Ee:Nat->List D->S->Ph->Hp->Prop}(h:Run K cA m U H s P Ee)(f:∀a s' U' H',P a s' U' H'->P' a s' U' H'):Run K cA m U H s P' Ee:=by
 unfold Run at *;split at h
 ·exact λU' H' x r=>f _ _ _ _ (h U' H' x r)
 ·exact h
 ·exact h
theorem Run.ext(x:Ext U H U' H')(h:Run K cA m U H s P Ee):Run K cA m U' H' s P Ee:=by
 unfold Run at *;split at h
 ·exact λU2 H2 y r=>h U2 H2 (x.trans y) r
 ·exact λU2 H2 y r=>h U2 H2 (x.trans y) r
 ·exact h.elim
theorem Run.bL{α:Type}{a:α}{P:α->S->Ph->Hp->Prop}{Ee:Nat->List D->S->Ph->Hp->Prop}(r:aD K cA U H s)(h:Run K cA (M.ret a) U H s P Ee):P a s U H:=h U H Ext.refl r
theorem Run.opt{α:Type}{o:Option α}{P:α->S->Ph->Hp->Prop}{Ee:Nat->List D->S->Ph->Hp->Prop}(r:aD K cA U H s)(h:Run K cA (M.opt o) U H s P Ee):∃a,o=some a/\P a s U H:=by
 cases o with
 |none=>exact h.elim
 |some a=>exact⟨a,rfl,h U H Ext.refl r⟩
theorem Bs(h:Run K cA (M.bd (M.opt o) k) U H s P Ee):∃a,o=some a/\Run K cA (k a) U H s P Ee:=by
 cases o with
 |none=>exact h.elim
 |some a=>exact⟨a,rfl,h⟩
theorem Ik{β:Type}{x:Xv}{v:V}{k:Bool->M β}{P:β->S->Ph->Hp->Prop}{Ee:Nat->List D->S->Ph->Hp->Prop}(r:aV K cA U H x v)(h:Run K cA (M.bd (bool x) k) U H s P Ee):∃b,x=.d (.bl b)/\v=.bl b/\Run K cA (k b) U H s P Ee:=by
 cases r with
 |l _=>exact h.elim
 |d r=>cases r with
  |bl b=>exact⟨b,rfl,rfl,h⟩
  |_=>exact h.elim
theorem Bt(r:aV K cA U H x v)(h:Run K cA (M.bd (int x) k) U H s P Ee):∃b,x=.d (.int b)/\v=.int b/\Run K cA (k b) U H s P Ee:=by
 cases r with
 |l _=>exact h.elim
 |d r=>cases r with
  |int b=>exact⟨b,rfl,rfl,h⟩
  |_=>exact h.elim
theorem Ln(r:aV K cA U H x v)(h:Run K cA (M.bd (dat x) k) U H s P Ee):∃d,x=.d d/\Rep K cA U H d v/\Run K cA (k d) U H s P Ee:=by
 cases r with
 |l _=>exact h.elim
 |d r=>exact⟨_,rfl,r,h⟩
theorem Rh:∀{xs:List Xv} {vs:List V} {k:List D->M β} {P:β->S->Ph->Hp->Prop} {Ee:Nat->List D->S->Ph->Hp->Prop},aP K cA U H xs vs->Run K cA (M.bd (cG xs) k) U H s P Ee->∃ds,xs=ds.map .d/\aC K cA U H ds vs/\Run K cA (k ds) U H s P Ee:=by
 intro xs
 induction xs with
 |nil=>intro vs k P Ee r h;cases r;exact⟨[],rfl,.nil,h⟩
 |cons x xs ih=>
  intro vs k P Ee r h;cases r with
  |cons a r=>
   cases a with
   |l _=>exact h.elim
   |@d y v a=>
    have h2:Run K cA (M.bd (cG xs) λds=>k (y::ds)) U H s P Ee:=by
     unfold Run M.bd cG dat at h;unfold Run M.bd;simp only[M.bd,M.ret] at h;cases e:cG xs s with
     |none=>simp only[e] at h
     |some q=>
      obtain⟨q,s1⟩:=q;simp only[e] at h;cases q with
      |ok ds=>exact h
      |er c f=>exact h
    obtain⟨ds,e,rs,h3⟩:=ih r h2;exact⟨y::ds,by rw[e];rfl,.cons a rs,h3⟩
theorem Lp(hS:aD K cA U H s)(r:aV K cA U H x v)(h:Run K cA (M.bd (rd x) k) U H s P Ee):∃d,Rv K cA U H d v/\Run K cA (k d) U H s P Ee:=by
 cases r with
 |d r=>exact⟨_,r.rv,h⟩
 |@l n a hl=>
  unfold Run M.bd rd at h;dsimp only at h;cases e:s[n]? with
  |none=>rw[e] at h;exact h.elim
  |some o=>
   rw[e] at h;cases o with
   |lst xs=>
    obtain⟨vs,q1,q2⟩:=hS.obj n _ _ e hl;exact⟨.fl xs,⟨a,vs,rfl,cT.of q1,q2⟩,h⟩
   |_=>exact h.elim
theorem gB{α β γ:Type}(m:M α)(f:α->M β)(g:β->M γ):M.bd (M.bd m f) g=M.bd m λx=>M.bd (f x) g:=by
 funext s
 unfold M.bd;cases m s with
 |none=>rfl
 |some r=>
  obtain⟨r,s1⟩:=r;cases r<;>rfl
theorem uh{β:Type}:∀{xs:List Xv} {vs:List V} {k:List D->M β} {P:β->S->Ph->Hp->Prop} {Ee:Nat->List D->S->Ph->Hp->Prop},aD K cA U H s->aP K cA U H xs vs->Run K cA (M.bd (gK xs) k) U H s P Ee->∃ds,wX K cA U H ds vs/\Run K cA (k ds) U H s P Ee:=by
 intro xs
 induction xs with
 |nil=>intro vs k P Ee hS r h;cases r;exact⟨[],.nil,h⟩
 |cons x xs ih=>
  intro vs k P Ee hS r h;cases r with
  |cons a r=>
   have h2:Run K cA (M.bd (rd x) λd=>M.bd (gK xs) λds=>k (d::ds)) U H s P Ee:=by
    have e:M.bd (gK (x::xs)) k=M.bd (rd x) λd=>M.bd (gK xs) λds=>k (d::ds):=by
     show M.bd (M.bd (rd x) λd=>M.bd (gK xs) λds=>M.ret (d::ds)) k=_;rw[gB]
     congr 1
     funext d
     rw[gB];rfl
    rw[e] at h;exact h
   obtain⟨d,rd,h3⟩:=Lp hS a h2;obtain⟨ds,rs,h4⟩:=ih hS r h3;exact⟨d::ds,.cons rd rs,h4⟩
theorem sI{fz:Bool}{o:Option Rz}{Q:VK}{Ee:Nat->List D->S->Ph->Hp->Prop}(hS:aD K cA U H s)(h:Run K cA (cB fz o) U H s (λx _ U' H'=>∀v,aV K cA U' H' x v->Q v H') Ee):bG K cA U H o Q:=by
 cases o with
 |none=>exact h.elim
 |some z=>
  cases z with
  |dat d=>exact λH' v g r=>h U H' g.ext (hS.grow g) v (.d r)
  |nw xs=>
   intro p vs hp r;cases fz with
   |true=>exact h U _ (bB.new hp).ext (hS.grow (bB.new hp)) _ (.d (.fl (LstAt.new (hS.nz hp)) (r.mono (bB.new hp).ext hS.lz)))
   |false=>exact h (U.add p) _ (Ext.add hp) (hS.add hp r) _ (.l (by show (U.l++[p])[s.length]?=_;rw[<-hS.len];simp))
theorem zhI{fz:Bool}{xs:List D}{Q:VK}{Ee:Nat->List D->S->Ph->Hp->Prop}(hS:aD K cA U H s)(h:Run K cA (newL fz xs) U H s (λx _ U' H'=>∀v,aV K cA U' H' x v->Q v H') Ee):∀p vs,H p=none->aC K cA U H xs vs->Q (.ref p) (upd H p (.lst vs)):=
 sI (o:=some (.nw xs)) hS h
theorem aZ{β:Type}{ma:Vs->M Xv}{k:Xv->M β}{P:β->S->Ph->Hp->Prop}(hL:aW K cA U H Z J)(hS:aD K cA U H s)(h:Run K cA (M.bd (ma J) k) U H s P (eX K cA EX Z)){Q:VK}
  (f:∀x H1 U1 d s1,Ext U H U1 H1->aW K cA U1 H1 Z J->aD K cA U1 H1 s1->aV K cA U1 H1 d x->Run K cA (k d) U1 H1 s1 P (eX K cA EX Z)->Q x H1):tE K cA EX ma Z H Q:=
 ⟨U,J,s,hL,hS,h.bd.imp λd s1 U1 H1 ⟨x1,r1,h1⟩ v rv=>f v H1 U1 d s1 x1 (hL.mono x1 hS.lz) r1 rv h1⟩
theorem pZ{β:Type}{ma:Vs->M (List Xv)}{k:List Xv->M β}{P:β->S->Ph->Hp->Prop}(hL:aW K cA U H Z J)(hS:aD K cA U H s)(h:Run K cA (M.bd (ma J) k) U H s P (eX K cA EX Z)){Q:List V->Hp->Prop}
  (f:∀x H1 U1 d s1,Ext U H U1 H1->aW K cA U1 H1 Z J->aD K cA U1 H1 s1->aP K cA U1 H1 d x->Run K cA (k d) U1 H1 s1 P (eX K cA EX Z)->Q x H1):Rg K cA EX ma Z H Q:=
 ⟨U,J,s,hL,hS,h.bd.imp λd s1 U1 H1 ⟨x1,r1,h1⟩ v rv=>f v H1 U1 d s1 x1 (hL.mono x1 hS.lz) r1 rv h1⟩
theorem wY(hL:aW K cA U H Z J)(hS:aD K cA U H s)(h:Run K cA (M.bd (ma J) k) U H s P (eX K cA EX Z))
  (f:∀b H1 U1 s1,Ext U H U1 H1->aW K cA U1 H1 Z J->aD K cA U1 H1 s1->Run K cA (k b) U1 H1 s1 P (eX K cA EX Z)->Q b H1):pY K cA EX ma Z H Q:=
 ⟨U,J,s,hL,hS,h.bd.imp λd s1 U1 H1 ⟨x1,r1,h1⟩=>f d H1 U1 s1 x1 (hL.mono x1 hS.lz) r1 h1⟩
end
section
variable (X:Cx)(cA:Cl)(aq:Nat->Nat->Bool)(aj:Bool)(F:Fn)(EX:XS)
def SE(e:Expr)(m:E):Prop:=PE X e (tE X.K cA EX (ev aq aj F m))
def SA(es:List Expr)(m:Es):Prop:=PA X es (Rg X.K cA EX (evs aq aj F m))
def ST(e:Expr)(m:E):Prop:=PT X e (pY X.K cA EX (λJ=>M.bd (ev aq aj F m J) bool))
def SW(e:Expr)(m:E):Prop:=PW X e (pY X.K cA EX (λJ=>M.bd (ev aq aj F m J) bool))
end
section
variable {X:Cx}{cA:Cl}{aq:Nat->Nat->Bool}{aj:Bool}{F:Fn}{EX:XS}{a b c d e:Expr}{A B C Dd E':E}{pos:Pos}{es:List Expr}{Xs:Es}{fz:Bool}{p:Pr}
theorem PE.weak{t t':TE}(h:PE X e t)(f:∀Z H Q,t' Z H Q->t Z H Q):PE X e t':=λao s Z H Q I q=>h ao s Z H Q I (f Z H Q q)
theorem PT.weak{t t':TT}(h:PT X e t)(f:∀Z H Q,t' Z H Q->t Z H Q):PT X e t':=λao s Z H Q I q=>h ao s Z H Q I (f Z H Q q)
theorem PW.weak{t t':TT}(h:PW X e t)(f:∀Z H Q,t' Z H Q->t Z H Q):PW X e t':=λwh ao s Z H Q I q=>h wh ao s Z H Q I (f Z H Q q)
theorem PA.weak{t t':TA}(h:PA X es t)(f:∀Z H Q,t' Z H Q->t Z H Q):PA X es t':=λp ao s Z H Q I q=>h p ao s Z H Q I (f Z H Q q)
theorem zmK{i j p}:SE X cA aq aj F EX (.Constant (.int i) j p) (.c (.int i)):=PE.weak Wd λZ H Q hh=>un hh λU J s hL hS h=>h.bL hS _ (.d (.int i))
theorem zm3{i j p}:SE X cA aq aj F EX (.Constant (.bool i) j p) (.c (.bl i)):=PE.weak zns λZ H Q hh=>un hh λU J s hL hS h=>h.bL hS _ (.d (.bl i))
theorem zmD{j p}:SE X cA aq aj F EX (.Constant .none j p) (.c .non):=PE.weak zmq λZ H Q hh=>un hh λU J s hL hS h=>h.bL hS _ (.d .non)
theorem Lq{α:Type}{o:Option (Option α)}{x:α}(h:o.join=some x):o=some (some x):=by
 cases o with
 |none=>cases h
 |some y=>cases y with
  |none=>cases h
  |some z=>cases h;rfl
theorem Xy(i:Nat){x:Str}(hN:X.N[i]?=some x:=by rfl)(hv:Ky X.env.scope x:=by first|exact Or.inl rfl|exact Or.inr (Or.inl rfl)|exact Or.inr (Or.inr rfl))(hd:(x==("__debug__" : Str))=false:=by decide)
  (j_:(x==("__classdict__" : Str))=false:=by decide):SE X cA aq aj F EX (.Name x pos) (.v i):=PE.weak (Wc hN hv hd j_) λZ H Q hh=>un hh λU J s hL hS h=>by
 obtain⟨dd,e1,q⟩:=Run.opt hS h;obtain⟨v,q1,q2⟩:=hL.2 i dd (Lq e1);exact⟨v,q1,q v q2⟩
theorem zi9{x:Str}{i:Int}{t:Tok}(hg:Gl X x)(hm:X.mg x=some (.int i t))(hd:(x==("__debug__" : Str))=false:=by decide):SE X cA aq aj F EX (.Name x pos) (.c (.int i)):=PE.weak (zjq (v:=.int i) hg hm ⟨t,rfl⟩ hd) λZ H Q hh=>un hh λU J s hL hS h=>h.bL hS _ (.d (.int i))
theorem zlp:SA X cA aq aj F EX [] .nil:=PA.weak Al λZ H Q hh=>un hh λU J s hL hS h=>h.bL hS _ .nil
theorem zjs(ha:SE X cA aq aj F EX a A)(hr:SA X cA aq aj F EX es Xs)(hs:starEach (a::es) X.env=(false,eval a X.env)::starEach es X.env:=by rfl):SA X cA aq aj F EX (a::es) (.cons A Xs):=PA.weak (vD ha hr hs) λZ H Q hh=>un hh λU J s hL hS h=>by
 refine aZ hL hS h λx H1 U1 d1 s1 x1 hL1 aJ r1 h1=>pZ hL1 aJ h1 λys H2 U2 d2 s2 x2 hL2 aQ r2 h2=>h2.bL aQ _ (.cons (r1.mono x2 aJ.lz) r2)
theorem Lr{U U1 U2:Ph}{H1 H2:Hp}{s1 s2:S}{d1 d2:Xv}{x y:V}{Q:VK}{Ee:Nat->List D->S->Ph->Hp->Prop}(x2:Ext U1 H1 U2 H2)(aJ:aD X.K cA U1 H1 s1)(aQ:aD X.K cA U2 H2 s2)(r1:aV X.K cA U1 H1 d1 x)(r2:aV X.K cA U2 H2 d2 y)
  (h:Run X.K cA (M.bd (gK [d1,d2]) λds=>cB fz (prim p ds)) U2 H2 s2 (λx _ U' H'=>∀v,aV X.K cA U' H' x v->Q v H') Ee) {r:List V->Hp->VK->Prop} (hp:bH X.K cA p r):r [x,y] H2 Q:=by
 obtain⟨ds,rs,h2⟩:=uh aQ (.cons (r1.mono x2 aJ.lz) (.cons r2 .nil)) h;exact hp U2 H2 ds _ Q aQ.zs rs (sI aQ h2)
noncomputable def r2(r:R2):List V->Hp->VK->Prop:=λvs H Q=>∃x y,vs=[x,y]/\r x y H Q
theorem Dy{r:R2}{x y:V}{H:Hp}{Q:VK}(h:r2 r [x,y] H Q):r x y H Q:=by
 obtain⟨_,_,e,q⟩:=h;cases e;exact q
theorem zmi{op:Operator}{r:R2}(ho:fC X (binaryOp op) r)(hp:bH X.K cA p (r2 r))(ha:SE X cA aq aj F EX a A)(hb:SE X cA aq aj F EX b B):SE X cA aq aj F EX (.BinOp a op b pos) (.pr fz p (.cons A (.cons B .nil))):=PE.weak (znT ho ha hb) λZ H Q hh=>un hh λU J s hL hS h=>by
 have h:Run X.K cA (M.bd (M.bd (ev aq aj F A J) λx=>M.bd (M.bd (ev aq aj F B J) λy=>M.bd (M.ret []) λz=>M.ret (y::z)) λys=>M.ret (x::ys)) λvs=>M.bd (gK vs) λds=>cB fz (prim p ds)) U H s _ _:=h;simp only[gB] at h;refine aZ hL hS h λx H1 U1 d1 s1 x1 hL1 aJ r1 h1=>aZ hL1 aJ h1 λy H2 U2 d2 s2 x2 hL2 aQ r2' h2=>?_;exact Dy (Lr (fz:=fz) (U:=U) x2 aJ aQ r1 r2' h2 hp)
theorem zkO{op:CmpOp}{r:R2}(ho:fC X (compareOp op) r)(hp:bH X.K cA p (r2 r))(ha:SE X cA aq aj F EX a A)(hb:SE X cA aq aj F EX b B)(hm:behindInMarks op b=false):SE X cA aq aj F EX (.Compare a [op] [b] pos) (.pr true p (.cons A (.cons B .nil))):=PE.weak (zjv ho ha hb hm) λZ H Q hh=>un hh λU J s hL hS h=>by
 have h:Run X.K cA (M.bd (M.bd (ev aq aj F A J) λx=>M.bd (M.bd (ev aq aj F B J) λy=>M.bd (M.ret []) λz=>M.ret (y::z)) λys=>M.ret (x::ys)) λvs=>M.bd (gK vs) λds=>cB true (prim p ds)) U H s _ _:=h;simp only[gB] at h;refine aZ hL hS h λx H1 U1 d1 s1 x1 hL1 aJ r1 h1=>aZ hL1 aJ h1 λy H2 U2 d2 s2 x2 hL2 aQ r2' h2=>?_;exact Dy (Lr (fz:=true) (U:=U) x2 aJ aQ r1 r2' h2 hp)
theorem iT{A B:Prop}(h:A):if true=true then A else B:=by rw[if_pos rfl];exact h
theorem iF{A B:Prop}(h:B):if false=true then A else B:=by rw[if_neg Ft];exact h
theorem zkP{op:CmpOp}{r:R2}(ho:fC X (compareOp op) r)(hp:bH X.K cA p (r2 r))(ha:SE X cA aq aj F EX a A)(hb:SE X cA aq aj F EX b B)(hm:behindInMarks op b=false):ST X cA aq aj F EX (.Compare a [op] [b] pos) (.pr true p (.cons A (.cons B .nil))):=PT.weak (zjg ho ha hb hm) λZ H Q hh=>un hh λU J s hL hS h=>by
 have h:Run X.K cA (M.bd (M.bd (M.bd (ev aq aj F A J) λx=>M.bd (M.bd (ev aq aj F B J) λy=>M.bd (M.ret []) λz=>M.ret (y::z)) λys=>M.ret (x::ys)) λvs=>M.bd (gK vs) λds=>cB true (prim p ds)) bool) U H s _ _:=h;simp only[gB] at h;refine aZ hL hS h λx H1 U1 d1 s1 x1 hL1 aJ r1 h1=>aZ hL1 aJ h1 λy H2 U2 d2 s2 x2 hL2 aQ r2' h2=>?_;obtain⟨ds,rs,h3⟩:=uh aQ (.cons (r1.mono x2 aJ.lz) (.cons r2' .nil)) h2;refine Dy (hp U2 H2 ds _ _ aQ.zs rs (sI (Ee:=eX X.K cA EX Z) aQ (h3.bd.imp λt s3 U3 H3 ⟨x3,gC,h4⟩ v rv=>?_)));cases rv with
 |l _=>exact h4.elim
 |d rv=>cases rv with
  |bl k=>exact⟨k,rfl,h4 U3 H3 Ext.refl gC⟩
  |_=>exact h4.elim
theorem zmp{op op':CmpOp}{r r':R2}{q:Pr}(ho:fC X (compareOp op) r)(hp:bH X.K cA p (r2 r))(tu:fC X (compareOp op') r')(hp':bH X.K cA q (r2 r'))(ha:SE X cA aq aj F EX a A)(hb:SE X cA aq aj F EX b B)(hc:SE X cA aq aj F EX c C)(hm:lastMarks [op,op'] [b,c]=false:=by with_unfolding_all rfl) :
  SE X cA aq aj F EX (.Compare a [op,op'] [b,c] pos) (.yC p q A B C):=PE.weak (zhx ho tu ha hb hc hm) λZ H Q hh=>un hh λU J s hL hS h=>by
 refine aZ hL hS h λx H1 U1 d1 s1 x1 hL1 aJ r1 h1=>aZ hL1 aJ h1 λy H2 U2 d2 s2 x2 hL2 aQ r2' h2=>?_;obtain⟨ds,rs,h3⟩:=uh aQ (.cons (r1.mono x2 aJ.lz) (.cons r2' .nil)) h2;refine Dy (hp U2 H2 ds _ _ aQ.zs rs (sI (Ee:=eX X.K cA EX Z) aQ (h3.bd.imp λt s3 U3 H3 ⟨x3,gC,h4⟩ v rv=>?_)));obtain⟨k,_,e,h5⟩:=Ik rv h4;refine⟨k,e,?_⟩;cases k with
 |false=>exact iF (h5.bL gC _ (.d (.bl _)))
 |true=>
  have oE:=hL2.mono x3 aQ.lz;refine iT (aZ oE gC h5 λz H4 U4 d4 s4 x4 hL4 qO r4 h6=>?_);exact Dy (Lr (fz:=true) (U:=U) x4 gC qO (r2'.mono x3 aQ.lz) r4 h6 hp')
theorem zmG(ha:SE X cA aq aj F EX a A):SE X cA aq aj F EX (.UnaryOp .Not a pos) (.not A):=PE.weak (zkN ha) λZ H Q hh=>un hh λU J s hL hS h=>by
 refine aZ hL hS h λx H1 U1 d1 s1 x1 hL1 aJ r1 h1=>?_;obtain⟨i,_,e,h3⟩:=Ik r1 h1;exact⟨i,e,h3.bL aJ _ (.d (.bl _))⟩
theorem zmM{op}(ha:SE X cA aq aj F EX a A):SE X cA aq aj F EX (.BoolOp op [a] pos) A:=zk1 ha
theorem zk7{rest:List Expr}(ha:SE X cA aq aj F EX a A)(hb:SE X cA aq aj F EX (.BoolOp .And (b::rest) pos) B):SE X cA aq aj F EX (.BoolOp .And (a::b::rest) pos) (.and A B):=PE.weak (zkL ha hb) λZ H Q hh=>un hh λU J s hL hS h=>by
 refine aZ hL hS h λx H1 U1 d1 s1 x1 hL1 aJ r1 h1=>?_;obtain⟨i,_,e,h3⟩:=Ik r1 h1;refine⟨i,e,?_⟩;cases i with
 |true=>exact iT ⟨U1,J,s1,hL1,aJ,h3⟩
 |false=>exact iF (h3.bL aJ _ (.d (.bl _)))
theorem znb{rest:List Expr}(ha:SE X cA aq aj F EX a A)(hb:SE X cA aq aj F EX (.BoolOp .Or (b::rest) pos) B):SE X cA aq aj F EX (.BoolOp .Or (a::b::rest) pos) (.or A B):=PE.weak (znS ha hb) λZ H Q hh=>un hh λU J s hL hS h=>by
 refine aZ hL hS h λx H1 U1 d1 s1 x1 hL1 aJ r1 h1=>?_;obtain⟨i,_,e,h3⟩:=Ik r1 h1;refine⟨i,e,?_⟩;cases i with
 |true=>exact iT (h3.bL aJ _ (.d (.bl _)))
 |false=>exact iF ⟨U1,J,s1,hL1,aJ,h3⟩
end
section
variable {X:Cx}{cA:Cl}{aq:Nat->Nat->Bool}{aj:Bool}{F:Fn}{EX:XS}{a b c d e o:Expr}{A B C Dd E' O:E}{pos pp p2 apos:Pos}{es:List Expr}{Xs:Es}{fz:Bool}{p:Pr}{x:Str}
theorem zlY(ha:SE X cA aq aj F EX a A)(he:∀whole,isTrue a X.env whole=(do let v <-whole;standAt a.pos;holding [v] (truthy v)):=by intro _;rfl):ST X cA aq aj F EX a A:=PT.weak (zkD ha he) λZ H Q hh=>un hh λU J s hL hS h=>by
 refine aZ hL hS h λx H1 U1 d1 s1 x1 hL1 aJ r1 h1=>?_;have h1:Run X.K cA (M.bd (bool d1) M.ret) U1 H1 s1 (λd _ U' H'=>Q d H') (eX X.K cA EX Z):=by
  cases d1 with
  |l n=>exact h1
  |d v=>cases v<;>exact h1
 obtain⟨k,_,e,q⟩:=Ik r1 h1;exact⟨k,e,q.bL aJ⟩
theorem zg5{m:M Xv}{g:Bool->Bool}:M.bd (M.bd m λx=>M.bd (bool x) λk=>M.ret (Xv.d (.bl (g k)))) bool=M.bd (M.bd m bool) λk=>M.ret (g k):=by
 rw[gB,gB]
 congr 1
 funext x
 rw[gB];rfl
theorem zl2(ha:ST X cA aq aj F EX a A):ST X cA aq aj F EX (.UnaryOp .Not a pos) (.not A):=PT.weak (zkX ha) λZ H Q hh=>un hh λU J s hL hS h=>by
 have h:Run X.K cA (M.bd (M.bd (ev aq aj F A J) λx=>M.bd (bool x) λk=>M.ret (Xv.d (.bl (!k)))) bool) U H s _ _:=h;rw[zg5 (g:=λk=>!k)] at h;exact wY hL hS h λk H1 U1 s1 x1 hL1 aJ h1=>h1.bL aJ
theorem zkj(ha:ST X cA aq aj F EX a A):SW X cA aq aj F EX (.BoolOp .And [a] pos) A:=zj8 ha
theorem zmx(ha:ST X cA aq aj F EX a A):SW X cA aq aj F EX (.BoolOp .Or [a] pos) A:=zmN ha
theorem Xz{m:M Xv}{k:Bool->M Xv}:M.bd (M.bd m λx=>M.bd (bool x) k) bool=M.bd (M.bd m bool) λb=>M.bd (k b) bool:=by
 rw[gB,gB]
 congr 1
 funext x
 rw[gB]
theorem zkw{rest:List Expr}(ha:ST X cA aq aj F EX a A)(hb:SW X cA aq aj F EX (.BoolOp .And (b::rest) pos) B):SW X cA aq aj F EX (.BoolOp .And (a::b::rest) pos) (.and A B):=PW.weak (zlI ha hb) λZ H Q hh=>un hh λU J s hL hS h=>by
 have h:Run X.K cA (M.bd (M.bd (ev aq aj F A J) λx=>M.bd (bool x) λk=>if k=true then ev aq aj F B J else M.ret (Xv.d (.bl false))) bool) U H s _ _:=h;rw[Xz] at h;refine wY hL hS h λk H1 U1 s1 x1 hL1 aJ h3=>?_;cases k with
 |true=>exact iT ⟨U1,J,s1,hL1,aJ,h3⟩
 |false=>exact iF (Run.bL aJ (a:=false) h3)
theorem znv{rest:List Expr}(ha:ST X cA aq aj F EX a A)(hb:SW X cA aq aj F EX (.BoolOp .Or (b::rest) pos) B):SW X cA aq aj F EX (.BoolOp .Or (a::b::rest) pos) (.or A B):=PW.weak (znF ha hb) λZ H Q hh=>un hh λU J s hL hS h=>by
 have h:Run X.K cA (M.bd (M.bd (ev aq aj F A J) λx=>M.bd (bool x) λk=>if k=true then M.ret (Xv.d (.bl true)) else ev aq aj F B J) bool) U H s _ _:=h;rw[Xz] at h;refine wY hL hS h λk H1 U1 s1 x1 hL1 aJ h3=>?_;cases k with
 |true=>exact iT (Run.bL aJ (a:=true) h3)
 |false=>exact iF ⟨U1,J,s1,hL1,aJ,h3⟩
theorem zoO(h:SW X cA aq aj F EX a A):ST X cA aq aj F EX a A:=Kac h
theorem zjW:(M.bd m λx=>M.bd (bool x) k)=M.bd (M.bd m bool) k:=by rw[gB]
theorem zl6(hc:ST X cA aq aj F EX c C)(ha:SE X cA aq aj F EX a A)(hb:SE X cA aq aj F EX b B):SE X cA aq aj F EX (.IfExp c a b pos) (.ite C A B):=PE.weak (zhk hc ha hb) λZ H Q hh=>un hh λU J s hL hS h=>by
 have h:Run X.K cA (M.bd (ev aq aj F C J) λx=>M.bd (bool x) λk=>if k=true then ev aq aj F A J else ev aq aj F B J) U H s _ _:=h;rw[zjW] at h;refine wY hL hS h λk H1 U1 s1 x1 hL1 aJ h3=>?_;cases k with
 |true=>exact iT ⟨U1,J,s1,hL1,aJ,h3⟩
 |false=>exact iF ⟨U1,J,s1,hL1,aJ,h3⟩
theorem XD:∀(Xs:Es) (J:Vs) (s:S) (ds:List Xv) (s':S),evs aq aj F Xs J s=some (.ok ds,s')->ds.length=Es.len Xs
 |.nil,J,s,ds,s',h=>by cases h;rfl
 |.cons a r,J,s,ds,s',h=>by
  have h:M.bd (ev aq aj F a J) (λx=>M.bd (evs aq aj F r J) λxs=>M.ret (x::xs)) s=some (.ok ds,s'):=h;unfold M.bd at h;cases e1:ev aq aj F a J s with
  |none=>rw[e1] at h;cases h
  |some q=>
   obtain⟨q,s1⟩:=q;rw[e1] at h;cases q with
   |er c f=>cases h
   |ok d=>
    dsimp only at h;cases e2:evs aq aj F r J s1 with
    |none=>rw[e2] at h;cases h
    |some q=>
     obtain⟨q,s2⟩:=q;rw[e2] at h;cases q with
     |er c f=>cases h
     |ok ds'=>
      cases h;rw[f9,XD r J s1 ds' _ e2];rfl
theorem Il{β:Type}{K:W.Frag}{U:Ph}{H:Hp}{s:S}{Z:L2.St}{J:Vs}{k:List Xv->M β}{P:β->S->Ph->Hp->Prop}(hL:aW K cA U H Z J)(hS:aD K cA U H s)(h:Run K cA (M.bd (evs aq aj F Xs J) k) U H s P (eX K cA EX Z)){Q:List V->Hp->Prop}
  (f:∀x H1 U1 d s1,d.length=Es.len Xs->Ext U H U1 H1->aW K cA U1 H1 Z J->aD K cA U1 H1 s1->aP K cA U1 H1 d x->Run K cA (k d) U1 H1 s1 P (eX K cA EX Z)->Q x H1):Rg K cA EX (evs aq aj F Xs) Z H Q:=by
 refine⟨U,J,s,hL,hS,?_⟩;have h2:=h.bd;unfold Run at h2 ⊢;cases e:evs aq aj F Xs J s with
 |none=>rw[e] at h2;exact h2
 |some r=>
  obtain⟨r,s1⟩:=r;rw[e] at h2;cases r with
  |er c f=>exact h2
  |ok ds=>
   intro U1 H1 x1 r1 v rv;obtain⟨_,_,h3⟩:=h2 U1 H1 x1 r1;exact f v H1 U1 ds s1 (XD Xs J s ds s1 e) x1 (hL.mono x1 hS.lz) r1 rv h3
theorem zmg{k}(ha:SA X cA aq aj F EX es Xs)(hz:Es.len Xs<=sizeLine):SE X cA aq aj F EX (.Tuple es k pos) (.tup Xs):=PE.weak (zmP ha) λZ H Q hh=>un hh λU J s hL hS h=>by
 refine Il hL hS h λvs H1 U1 xs s1 hl x1 hL1 aJ rv h1=>?_;obtain⟨ds,e,rs,h2⟩:=Rh rv h1;refine⟨by rw[<-rv.len,hl];exact hz,λp hp=>?_⟩;exact h2 U1 (upd H1 p (.tup vs)) (bB.new hp).ext (aJ.grow (bB.new hp)) _ (.d (.tup (TupAt.new (aJ.nz hp)) (rs.mono (bB.new hp).ext aJ.lz)))
theorem zkJ(ha:SA X cA aq aj F EX es Xs)(hz:Es.len Xs<=sizeLine):SE X cA aq aj F EX (.List es pos) (.lst fz Xs):=PE.weak (zmt ha) λZ H Q hh=>un hh λU J s hL hS h=>by
 refine Il hL hS h λvs H1 U1 xs s1 hl x1 hL1 aJ rv h1=>?_;obtain⟨ds,e,rs,h2⟩:=Rh rv h1;exact⟨by rw[<-rv.len,hl];exact hz,λp hp=>zhI aJ h2 p vs hp rs⟩
theorem yK{id:String}{r:List V->Hp->VK->Prop}(hc:cO X (.builtin id) r)(hp:bH X.K cA p r)
  (hg:Gl X x) (hm:X.mg x=none) (hv:bootBuiltins x=some (.builtin id)) (ha:SA X cA aq aj F EX (e::es) Xs) (hn:x≠"__name__":=by decide) (rC:(x==("__debug__" : Str))=false:=by decide)
  (he:starEach (e::es) X.env=(false,eval e X.env)::starEach es X.env:=by rfl) (hpl:(backTo pos (starEach es X.env)).any (·.1)=false:=by rfl):SE X cA aq aj F EX (.Call (.Name x pp) (e::es) [] pos) (.pr fz p Xs):=PE.weak (WW hc hg hm hv ha hn rC he hpl) λZ H Q hh=>un hh λU J s hL hS h=>
 pZ hL hS h λvs H1 U1 ds s1 x1 hL1 aJ r1 h1=>by
  obtain⟨ds,rs,h3⟩:=uh aJ r1 h1;exact hp U1 H1 ds _ _ aJ.zs rs (sI aJ h3)
theorem Ri{id:String}{r:List V->Hp->VK->Prop}(hc:cO X (.type id) r)(hp:bH X.K cA p r)
  (hg:Gl X x) (hm:X.mg x=none) (hv:bootBuiltins x=some (.type id)) (ha:SA X cA aq aj F EX (e::es) Xs) (hn:x≠"__name__":=by decide) (rC:(x==("__debug__" : Str))=false:=by decide)
  (he:starEach (e::es) X.env=(false,eval e X.env)::starEach es X.env:=by rfl) (hpl:(backTo pos (starEach es X.env)).any (·.1)=false:=by rfl):SE X cA aq aj F EX (.Call (.Name x pp) (e::es) [] pos) (.pr fz p Xs):=PE.weak (zfW hc hg hm hv ha hn rC he hpl) λZ H Q hh=>un hh λU J s hL hS h=>
 pZ hL hS h λvs H1 U1 ds s1 x1 hL1 aJ r1 h1=>by
  obtain⟨ds,rs,h3⟩:=uh aJ r1 h1;exact hp U1 H1 ds _ _ aJ.zs rs (sI aJ h3)
theorem znu(hp:bH X.K cA p (r2 (Qf X.K)))(ha:SE X cA aq aj F EX a A)(hb:SE X cA aq aj F EX b B)(hs:qG b:=by intro _ _;rfl):SE X cA aq aj F EX (.Subscript a b pos) (.pr true p (.cons A (.cons B .nil))):=PE.weak (znp zmh ha hb hs) λZ H Q hh=>un hh λU J s hL hS h=>by
 have h:Run X.K cA (M.bd (M.bd (ev aq aj F A J) λx=>M.bd (M.bd (ev aq aj F B J) λy=>M.bd (M.ret []) λz=>M.ret (y::z)) λys=>M.ret (x::ys)) λvs=>M.bd (gK vs) λds=>cB true (prim p ds)) U H s _ _:=h;simp only[gB] at h;refine aZ hL hS h λx H1 U1 d1 s1 x1 hL1 aJ r1 h1=>aZ hL1 aJ h1 λy H2 U2 d2 s2 x2 hL2 aQ r2' h2=>?_;exact Dy (Lr (fz:=true) (U:=U) x2 aJ aQ r1 r2' h2 hp)
theorem znZ(ho:KR X (unaryOp op) r)(hp:bH X.K cA p (λvs H Q=>∃x,vs=[x]/\r x H Q))(ha:SE X cA aq aj F EX a A):SE X cA aq aj F EX (.UnaryOp op a pos) (.pr true p (.cons A .nil)):=PE.weak (Wt ho ha) λZ H Q hh=>un hh λU J s hL hS h=>by
 have h:Run X.K cA (M.bd (M.bd (ev aq aj F A J) λx=>M.bd (M.ret []) λz=>M.ret (x::z)) λvs=>M.bd (gK vs) λds=>cB true (prim p ds)) U H s _ _:=h;simp only[gB] at h;refine aZ hL hS h λx H1 U1 d1 s1 x1 hL1 aJ r1 h1=>?_;obtain⟨ds,rs,h3⟩:=uh aJ (.cons r1 .nil) h1;obtain⟨_,e,q⟩:=hp U1 H1 ds _ _ aJ.zs rs (sI aJ h3);cases e;exact q
theorem zly{j p'}(ha:SE X cA aq aj F EX a A):SE X cA aq aj F EX (.Compare a [.Is] [.Constant .none j p'] pos) (.pr true .vJ (.cons A .nil)):=PE.weak (Wh (Wf ha)) λZ H Q hh=>un hh λU J s hL hS h=>by
 have h:Run X.K cA (M.bd (M.bd (ev aq aj F A J) λx=>M.bd (M.ret []) λz=>M.ret (x::z)) λvs=>M.bd (gK vs) λds=>cB true (prim .vJ ds)) U H s _ _:=h;simp only[gB] at h;refine aZ hL hS h λx H1 U1 d1 s1 x1 hL1 aJ r1 h1=>?_;obtain⟨ds,rs,h3⟩:=uh aJ (.cons r1 .nil) h1;cases rs with
 |cons r rs=>cases rs with
  |nil=>
   rename_i d;have h4:=sI aJ h3;have q:=h4 H1 _ bB.refl (.bl _);cases d<;>first
    |(obtain⟨_,_,rfl,_,_⟩:=r;exact q)
    |(cases (show Rep _ _ _ _ _ x from r)<;>exact q)
theorem zjJ{j p'}(ha:SE X cA aq aj F EX a A):SE X cA aq aj F EX (.Compare a [.IsNot] [.Constant .none j p'] pos) (.pr true .sG (.cons A .nil)):=PE.weak (Wh (Wg ha)) λZ H Q hh=>un hh λU J s hL hS h=>by
 have h:Run X.K cA (M.bd (M.bd (ev aq aj F A J) λx=>M.bd (M.ret []) λz=>M.ret (x::z)) λvs=>M.bd (gK vs) λds=>cB true (prim .sG ds)) U H s _ _:=h;simp only[gB] at h;refine aZ hL hS h λx H1 U1 d1 s1 x1 hL1 aJ r1 h1=>?_;obtain⟨ds,rs,h3⟩:=uh aJ (.cons r1 .nil) h1;cases rs with
 |cons r rs=>cases rs with
  |nil=>
   rename_i d;have h4:=sI aJ h3;have q:=h4 H1 _ bB.refl (.bl _);cases d<;>first
    |(obtain⟨_,_,rfl,_,_⟩:=r;exact q)
    |(cases (show Rep _ _ _ _ _ x from r)<;>exact q)
theorem XH(q:Pr)(hq:prim q=Bh f)(hh:pY X.K cA EX (λJ=>M.bd (ev aq aj F (.pr true q (.cons A .nil)) J) bool) Z H Q):tE X.K cA EX (ev aq aj F A) Z H λx H1=>Q (f (decide (x=.non))) H1:=un hh λU J s hL hS h=>by
 have h:Run X.K cA (M.bd (M.bd (M.bd (ev aq aj F A J) λx=>M.bd (M.ret []) λz=>M.ret (x::z)) λvs=>M.bd (gK vs) λds=>cB true (prim q ds)) bool) U H s _ _:=h;simp only[gB] at h;refine aZ hL hS h λx H1 U1 d1 s1 x1 hL1 aJ r1 h1=>?_;obtain⟨ds,rs,h3⟩:=uh aJ (.cons r1 .nil) h1;cases rs with
 |cons r rs=>cases rs with
  |nil=>
   rename_i d;rw[hq] at h3;have h4:Run X.K cA (M.bd (M.ret (Xv.d (.bl (f d.uc)))) bool) U1 H1 s1 (λd _ U' H'=>Q d H') (eX X.K cA EX Z):=h3;have q:=h4 U1 H1 Ext.refl aJ;cases d<;>first
    |(obtain⟨_,_,rfl,_,_⟩:=r;exact q)
    |(cases (show Rep _ _ _ _ _ x from r)<;>exact q)
theorem zkS{j p'}(ha:SE X cA aq aj F EX a A):ST X cA aq aj F EX (.Compare a [.Is] [.Constant .none j p'] pos) (.pr true .vJ (.cons A .nil)):=PT.weak (O5 (Wf ha)) λZ H Q hh=>by
 have:=XH .vJ (f:=id) rfl hh;obtain⟨U,J,s,a,b,c⟩:=this;exact⟨U,J,s,a,b,c.imp λd s' U' H' k v rv=>⟨_,rfl,k v rv⟩⟩
theorem zjG{j p'}(ha:SE X cA aq aj F EX a A):ST X cA aq aj F EX (.Compare a [.IsNot] [.Constant .none j p'] pos) (.pr true .sG (.cons A .nil)):=PT.weak (O5 (Wg ha)) λZ H Q hh=>by
 have:=XH .sG (f:=not) rfl hh;obtain⟨U,J,s,a,b,c⟩:=this;exact⟨U,J,s,a,b,c.imp λd s' U' H' k v rv=>⟨_,rfl,k v rv⟩⟩
theorem zg0{K:W.Frag}{U:Ph}{H:Hp}{s:S}{x:Xv}{v:V}{Q:Bool->Hp->Prop}{Ee:Nat->List D->S->Ph->Hp->Prop}(hS:aD K cA U H s)(r:aV K cA U H x v)(h:Run K cA (bool x) U H s (λd _ U' H'=>Q d H') Ee):∃k,v=.bl k/\Q k H:=by
 cases r with
 |l _=>exact h.elim
 |d rv=>cases rv with
  |bl k=>exact⟨k,rfl,h U H Ext.refl hS⟩
  |_=>exact h.elim
end
mutual
inductive Is (h:Heap):D->Value->Prop where
 |non:Is h .non .none
 |bl (b:Bool):Is h (.bl b) (.bool b)
 |int (i:Int) (t:Tok):Is h (.int i) (.int i t)
 |str (x:Str) (t:Tok):Is h (.str x) (.str x t)
 |tup {a:Addr} {xs:List D} {its:List Value} (p:h.IsTuple a its.toArray) (r:jB h xs its):Is h (.tup xs) (.ref a)
 |fl {a:Addr} {xs:List D} {its:List Value} (p:h.IsList a its.toArray) (r:jB h xs its):Is h (.fl xs) (.ref a)
 |oth {d:D} {u:Value} (k:kq d=none):Is h d u
inductive jB (h:Heap):List D->List Value->Prop where
 |nil:jB h [] []
 |cons {d:D} {u:Value} {ds:List D} {us:List Value} (a:Is h d u) (r:jB h ds us):jB h (d::ds) (u::us)
end
section
variable {X:Cx}{cA:Cl}{ao:List (Addr×Obj)}{Z:L2.St}{H:Hp}{s:Shared}{U:Ph}{h:Heap}
theorem Rj(I:Inv X ao Z H s){ds:List D}{vs:List V}{us:List Value}(h:aC X.K cA U H ds vs)(r:Vals vs us):jB s.heap ds us:=
 aC.rec (motive_1:=λd v _=>∀{u:Value},RelV v u->Is s.heap d u) (motive_2:=λd v _=>∀{u:List Value},Vals v u->jB s.heap d u) (λr=>by cases r;exact .non) (λb _ r=>by cases r;exact .bl b) (λi _ r=>by obtain⟨t,rfl⟩:=r;exact .int i t) (λi _ r=>by obtain⟨t,rfl⟩:=r;exact .str i t)
 (λh _ ih _ r=>by
  cases r;obtain⟨its,rv,ht,_⟩:=I.tuple h.jh;exact .tup ht (ih rv))
 (λh _ ih _ r=>by
  cases r;obtain⟨its,rv,ht,_⟩:=I.list h.sH;exact .fl ht.isList (ih rv))
 (λ_ _ _ _=>.oth rfl) (λ_ _ _ _ _=>.oth rfl) (λ_ _ _ _ _=>.oth rfl) (λ_ _ _=>.oth rfl)
 (λr=>by cases r;exact .nil)
 (λ_ _ i j _ r=>by
  cases r with
  |cons a b=>exact .cons (i a) (j b)) h r
theorem rO(I:Inv X ao Z H s){d:D}{v:V}{u:Value}(h:Rep X.K cA U H d v)(r:RelV v u):Is s.heap d u:=by
 cases h with
 |non=>cases r;exact .non
 |bl b=>cases r;exact .bl b
 |int i=>obtain⟨t,rfl⟩:=r;exact .int i t
 |str i=>obtain⟨t,rfl⟩:=r;exact .str i t
 |tup h q=>
  cases r;obtain⟨its,rv,ht,_⟩:=I.tuple h.jh;exact .tup ht (Rj I q rv)
 |fl h q=>
  cases r;obtain⟨its,rv,ht,_⟩:=I.list h.sH;exact .fl ht.isList (Rj I q rv)
 |fd _ _=>exact .oth rfl
 |exc _ _=>exact .oth rfl
 |ob _ _=>exact .oth rfl
 |any _=>exact .oth rfl
theorem Dz(I:Inv X ao Z H s){d:D}{v:V}{u:Value}(q:Rv X.K cA U H d v)(r:RelV v u):Is s.heap d u:=by
 cases d with
 |fl xs=>
  obtain⟨a,vs,rfl,sq,rs⟩:=q;cases r;obtain⟨its,rv,ht,_⟩:=I.list sq;exact .fl ht.isList (Rj I rs rv)
 |non=>exact rO I q r
 |bl b=>exact rO I q r
 |int b=>exact rO I q r
 |str b=>exact rO I q r
 |tup b=>exact rO I q r
 |fd b c=>exact rO I q r
 |exc b c=>exact rO I q r
 |ob b c=>exact rO I q r
 |any=>exact rO I q r
theorem jB.len:∀{ds:List D} {us:List Value},jB h ds us->ds.length=us.length
 |_,_,.nil=>rfl
 |_,_,.cons _ r=>by rw[f9,f9,jB.len r]
theorem jB.get:∀{ds:List D} {us:List Value} {i:Nat} {d:D},jB h ds us->ds[i]?=some d->∃u,us[i]?=some u/\Is h d u
 |_,_,_,_,.nil,e=>by simp at e
 |_,_,0,_,.cons h _,e=>by simp at e;subst e;exact⟨_,rfl,h⟩
 |_,_,i+1,d,.cons _ r,e=>by
  obtain⟨v,a,b⟩:=jB.get (i:=i) (d:=d) r (by simpa using e);exact⟨v,by simpa using a,b⟩
theorem XJ{a:Addr}{is js:Array Value}(p:h.IsTuple a is)(q:h.IsTuple a js):is=js:=by
 obtain⟨o,e,c,n,d⟩:=p;obtain⟨o',e',c',n',d'⟩:=q;rw[e] at e';cases e';rw[d] at d';cases d';rfl
theorem XM{a:Addr}{is js:Array Value}(p:h.IsList a is)(q:h.IsList a js):is=js:=by
 obtain⟨o,e,c,n,d⟩:=p;obtain⟨o',e',c',n',d'⟩:=q;rw[e] at e';cases e';rw[d] at d';cases d';rfl
theorem vK{a:Addr}{is js:Array Value}(p:h.IsList a is)(q:h.IsTuple a js):False:=by
 obtain⟨o,e,c,n,d⟩:=p;obtain⟨o',e',c',n',d'⟩:=q;rw[e] at e';cases e';rw[c] at c';exact absurd c' (by simp)
theorem Im{eq:D->D->Option Bool}:∀{xs ys:List D} {b:Bool},cX eq xs ys=some b->∃e:Nat->Bool,(∀(j:Nat) x y,xs[j]?=some x->ys[j]?=some y->eq x y=some (e j))/\b=((List.range (min xs.length ys.length)).all e&&xs.length==ys.length)
 |[],[],b,h=>by cases h;exact⟨λ_=>true,λj x y q=>by simp at q,by simp⟩
 |[],y::ys,b,h=>by cases h;exact⟨λ_=>true,λj x y q=>by simp at q,by simp⟩
 |x::xs,[],b,h=>by cases h;exact⟨λ_=>true,λj x y q r=>by simp at r,by simp⟩
 |x::xs,y::ys,b,h=>by
  simp only[cX] at h;cases e1:eq x y with
  |none=>rw[e1] at h;cases h
  |some a=>
   cases e2:cX eq xs ys with
   |none=>rw[e1,e2] at h;cases h
   |some c=>
    rw[e1,e2] at h;cases h;obtain⟨e,h1,h2⟩:=Im e2;refine⟨λj=>match j with|0=>a|j+1=>e j,λj p q r1 r2=>?_,?_⟩
    ·cases j with
     |zero=>
      simp at r1 r2;subst r1 r2;exact e1
     |succ j=>exact h1 j p q (by simpa using r1) (by simpa using r2)
    ·rw[h2];simp only[f9,Nat.succ_min_succ,N8,zQ,List.all_map,Function.comp_def];rw[Bool.and_assoc]
     congr 2
     simp
theorem ji{n:Nat}{d e:D}(k:kq d=none):cN n d e=none:=by
 cases n<;>cases d<;>first|cases k;done|(cases e<;>rfl)
theorem g_{n:Nat}{d e:D}(k:kq e=none):cN n d e=none:=by
 cases n<;>cases e<;>first|cases k;done|(cases d<;>rfl)
theorem Rm:∀(n:Nat) {d1 d2:D} {u:Value} {b:Bool},Is h d1 u->Is h d2 u->cN n d1 d2=some b->b=true:=by
 intro n;have rows:∀(n:Nat),(∀{d1 d2:D} {u:Value} {b:Bool},Is h d1 u->Is h d2 u->cN n d1 d2=some b->b=true)->∀{xs ys:List D} {is js:List Value} {b:Bool},jB h xs is->jB h ys js->is.toArray=js.toArray->cX (cN n) xs ys=some b->b=true:=by
  intro n ih xs ys is js b q1 q2 e hd;have e:is=js:=by simpa using e
  subst e;obtain⟨e,a1,a2⟩:=Im (eq:=cN n) hd;rw[a2];have hl:_=_:=q1.len.trans q2.len.symm;rw[gQ];refine⟨fu.mpr λj hj=>?_,by rw[hl];simp⟩;have hj:=vf.mp hj;obtain⟨x,hx⟩ : ∃x,_=some x:=⟨_,dO (iM hj (Nat.min_le_left _ _))⟩;obtain⟨y,hy⟩ : ∃y,_=some y:=⟨_,dO (iM hj (Nat.min_le_right _ _))⟩;obtain⟨v1,e1,p1⟩:=q1.get hx;obtain⟨v2,e2,p2⟩:=q2.get hy;rw[e1] at e2;cases e2;exact ih p1 p2 (a1 j x y hx hy)
 induction n with
 |zero=>
  intro d1 d2 u b r1 r2 hd;cases r1 with
  |oth k=>rw[ji k] at hd;cases hd
  |non=>cases r2 with
   |oth k=>rw[g_ k] at hd;cases hd
   |non=>cases hd;rfl
  |bl x=>cases r2 with
   |oth k=>rw[g_ k] at hd;cases hd
   |bl y=>cases hd;simp
  |int x t=>cases r2 with
   |oth k=>rw[g_ k] at hd;cases hd
   |int y=>cases hd;simp
  |str x t=>cases r2 with
   |oth k=>rw[g_ k] at hd;cases hd
   |str y=>cases hd;simp
  |tup p q=>cases r2 with
   |oth k=>rw[g_ k] at hd;cases hd
   |tup p2 q2=>cases hd
   |fl p2 q2=>exact(vK p2 p).elim
  |fl p q=>cases r2 with
   |oth k=>rw[g_ k] at hd;cases hd
   |fl p2 q2=>cases hd
   |tup p2 q2=>exact(vK p p2).elim
 |succ n ih=>
  intro d1 d2 u b r1 r2 hd;cases r1 with
  |oth k=>rw[ji k] at hd;cases hd
  |non=>cases r2 with
   |oth k=>rw[g_ k] at hd;cases hd
   |non=>cases hd;rfl
  |bl x=>cases r2 with
   |oth k=>rw[g_ k] at hd;cases hd
   |bl y=>cases hd;simp
  |int x t=>cases r2 with
   |oth k=>rw[g_ k] at hd;cases hd
   |int y=>cases hd;simp
  |str x t=>cases r2 with
   |oth k=>rw[g_ k] at hd;cases hd
   |str y=>cases hd;simp
  |tup p q=>cases r2 with
   |oth k=>rw[g_ k] at hd;cases hd
   |tup p2 q2=>exact rows n ih q q2 (XJ p p2) hd
   |fl p2 q2=>exact(vK p2 p).elim
  |fl p q=>cases r2 with
   |oth k=>rw[g_ k] at hd;cases hd
   |fl p2 q2=>exact rows n ih q q2 (XM p p2) hd
   |tup p2 q2=>exact(vK p p2).elim
theorem parts{n:Nat}{A:Around}{xs ys:List D}{is js:List Value}{b:Bool}(r1:jB s.heap xs is)(r2:jB s.heap ys js)(hd:cX (cN n) xs ys=some b)
  (ih:∀{d1 d2:D} {u1 u2:Value} {b:Bool},Is s.heap d1 u1->Is s.heap d2 u2->cN n d1 d2=some b->SeqAt.EqAt A s u1 u2 b) :
  ∃e:Nat->Bool,(∀j (h1:j<is.toArray.size) (h2:j<js.toArray.size),SeqAt.EqAt A s is.toArray[j] js.toArray[j] (e j))/\b=((List.range (min is.toArray.size js.toArray.size)).all e&&is.toArray.size==js.toArray.size):=by
 obtain⟨e,a1,a2⟩:=Im hd;have z1:=r1.len;have z2:=r2.len;refine⟨e,λj h1 h2=>?_,by simp only[fZ,<-z1,<-z2];exact a2⟩;simp only[fZ] at h1 h2;obtain⟨x,hx⟩ : ∃x,xs[j]?=some x:=⟨_,dO (by rw[z1];exact h1)⟩;obtain⟨y,hy⟩ : ∃y,ys[j]?=some y:=⟨_,dO (by rw[z2];exact h2)⟩;obtain⟨u,f1,g1⟩:=r1.get hx;obtain⟨u',f2,g2⟩:=r2.get hy;have k1:is.toArray[j]=u:=by
  have:=eO.mp f1;simpa using this.2
 have k2:js.toArray[j]=u':=by
  have:=eO.mp f2;simpa using this.2
 rw[k1,k2];exact ih g1 g2 (a1 j x y hx hy)
theorem XQ{A:Around}{l m:Addr}{is js:Array Value}{e:Nat->Bool}{b:Bool}(p1:s.heap.IsList l is)(p2:s.heap.IsList m js)(hu:A.units<cLine)(he:∀j (h1:j<is.size) (h2:j<js.size),SeqAt.EqAt A.in1 s is[j] js[j] (e j))(hb:b=((List.range (min is.size js.size)).all e&&is.size==js.size)):SeqAt.RcAt A s (.ref l) (.ref m) b:=by
 by_cases hz:is.size=js.size
 ·have:b=(List.range is.size).all e:=by rw[hb,hz];simp
  rw[this];exact SeqAt.RcAt.lists p1 p2 hz hu he
 ·have Rn:(is.size != js.size)=true:=by simpa using hz
  have:b=false:=by rw[hb];simp[hz]
  rw[this];exact SeqAt.RcAt.lists_lengths p1 p2 Rn hu
theorem zfE{A:Around}{l m:Addr}{is js:Array Value}{e:Nat->Bool}{b:Bool}(p1:s.heap.IsList l is)(p2:s.heap.IsList m js)(hu:A.units<cLine)(he:∀j (h1:j<is.size) (h2:j<js.size),SeqAt.EqAt A.in1 s is[j] js[j] (e j))(hb:b=((List.range (min is.size js.size)).all e&&is.size==js.size)):SeqAt.RcNeAt A s (.ref l) (.ref m) (!b):=by
 by_cases hz:is.size=js.size
 ·have:b=(List.range is.size).all e:=by rw[hb,hz];simp
  rw[this];exact SeqAt.RcNeAt.lists p1 p2 hz hu he
 ·have Rn:(is.size != js.size)=true:=by simpa using hz
  have:b=false:=by rw[hb];simp[hz]
  rw[this];exact SeqAt.RcNeAt.lists_lengths p1 p2 Rn hu
open SeqAt in
theorem Io:∀(n:Nat) {A:Around} {d1 d2:D} {u1 u2:Value} {b:Bool},A.units+n<cLine->Is s.heap d1 u1->Is s.heap d2 u2->cN n d1 d2=some b->SeqAt.EqAt A s u1 u2 b:=by
 intro n
 induction n with
 |zero=>
  intro A d1 d2 u1 u2 b hu r1 r2 hd;have hu:A.units<cLine:=by lia
  cases r1 with
  |oth k=>rw[ji k] at hd;cases hd
  |non=>cases r2 with
   |oth k=>rw[g_ k] at hd;cases hd
   |non=>cases hd;exact EqAt.same _
   |bl y=>cases hd;exact EqAt.none_bool _
   |int y t=>cases hd;exact EqAt.none_int _ _
   |str y t=>cases hd;exact EqAt.none_str _ _
   |tup p q=>cases hd;exact EqAt.none_tuple p hu
   |fl p q=>cases hd;exact EqAt.none_list p hu
  |bl x=>cases r2 with
   |oth k=>rw[g_ k] at hd;cases hd
   |non=>cases hd;exact EqAt.bool_none _
   |bl y=>cases hd;exact EqAt.bool_bool _ _
   |int y t=>cases hd;exact EqAt.bool_int _ _ _
   |str y t=>cases hd;exact EqAt.bool_str _ _ _
   |tup p q=>cases hd;exact EqAt.bool_tuple _ p hu
   |fl p q=>cases hd;exact EqAt.bool_list _ p hu
  |int x t=>cases r2 with
   |oth k=>rw[g_ k] at hd;cases hd
   |non=>cases hd;exact EqAt.int_none _ _
   |bl y=>cases hd;exact EqAt.int_bool _ _ _
   |int y t=>cases hd;exact EqAt.int_int _ _ _ _
   |str y t=>cases hd;exact EqAt.int_str _ _ _ _
   |tup p q=>cases hd;exact EqAt.int_tuple _ _ p hu
   |fl p q=>cases hd;exact EqAt.int_list _ _ p hu
  |str x t=>cases r2 with
   |oth k=>rw[g_ k] at hd;cases hd
   |non=>cases hd;exact EqAt.str_none _ _
   |bl y=>cases hd;exact EqAt.str_bool _ _ _
   |int y t=>cases hd;exact EqAt.str_int _ _ _ _
   |str y t=>cases hd;exact EqAt.str_str _ _ _ _
   |tup p q=>cases hd;exact EqAt.str_tuple _ _ p hu
   |fl p q=>cases hd;exact EqAt.str_list _ _ p hu
  |tup p q=>cases r2 with
   |oth k=>rw[g_ k] at hd;cases hd
   |non=>cases hd;exact EqAt.tuple_none p hu
   |bl y=>cases hd;exact EqAt.tuple_bool _ p hu
   |int y t=>cases hd;exact EqAt.tuple_int _ _ p hu
   |str y t=>cases hd;exact EqAt.tuple_str _ _ p hu
   |tup p2 q2=>cases hd
   |fl p2 q2=>cases hd;exact EqAt.tuple_list p p2 hu
  |fl p q=>cases r2 with
   |oth k=>rw[g_ k] at hd;cases hd
   |non=>cases hd;exact EqAt.list_none p hu
   |bl y=>cases hd;exact EqAt.list_bool _ p hu
   |int y t=>cases hd;exact EqAt.list_int _ _ p hu
   |str y t=>cases hd;exact EqAt.list_str _ _ p hu
   |tup p2 q2=>cases hd;exact EqAt.list_tuple p p2 hu
   |fl p2 q2=>cases hd
 |succ n ih=>
  intro A d1 d2 u1 u2 b Bu r1 r2 hd;have hu:A.units<cLine:=by lia
  have cV:A.in1.units+n<cLine:=by show A.units+1+n<cLine;lia
  cases r1 with
  |oth k=>rw[ji k] at hd;cases hd
  |non=>cases r2 with
   |oth k=>rw[g_ k] at hd;cases hd
   |non=>cases hd;exact EqAt.same _
   |bl y=>cases hd;exact EqAt.none_bool _
   |int y t=>cases hd;exact EqAt.none_int _ _
   |str y t=>cases hd;exact EqAt.none_str _ _
   |tup p q=>cases hd;exact EqAt.none_tuple p hu
   |fl p q=>cases hd;exact EqAt.none_list p hu
  |bl x=>cases r2 with
   |oth k=>rw[g_ k] at hd;cases hd
   |non=>cases hd;exact EqAt.bool_none _
   |bl y=>cases hd;exact EqAt.bool_bool _ _
   |int y t=>cases hd;exact EqAt.bool_int _ _ _
   |str y t=>cases hd;exact EqAt.bool_str _ _ _
   |tup p q=>cases hd;exact EqAt.bool_tuple _ p hu
   |fl p q=>cases hd;exact EqAt.bool_list _ p hu
  |int x t=>cases r2 with
   |oth k=>rw[g_ k] at hd;cases hd
   |non=>cases hd;exact EqAt.int_none _ _
   |bl y=>cases hd;exact EqAt.int_bool _ _ _
   |int y t=>cases hd;exact EqAt.int_int _ _ _ _
   |str y t=>cases hd;exact EqAt.int_str _ _ _ _
   |tup p q=>cases hd;exact EqAt.int_tuple _ _ p hu
   |fl p q=>cases hd;exact EqAt.int_list _ _ p hu
  |str x t=>cases r2 with
   |oth k=>rw[g_ k] at hd;cases hd
   |non=>cases hd;exact EqAt.str_none _ _
   |bl y=>cases hd;exact EqAt.str_bool _ _ _
   |int y t=>cases hd;exact EqAt.str_int _ _ _ _
   |str y t=>cases hd;exact EqAt.str_str _ _ _ _
   |tup p q=>cases hd;exact EqAt.str_tuple _ _ p hu
   |fl p q=>cases hd;exact EqAt.str_list _ _ p hu
  |@tup a1 xs is p q=>cases r2 with
   |oth k=>rw[g_ k] at hd;cases hd
   |non=>cases hd;exact EqAt.tuple_none p hu
   |bl y=>cases hd;exact EqAt.tuple_bool _ p hu
   |int y t=>cases hd;exact EqAt.tuple_int _ _ p hu
   |str y t=>cases hd;exact EqAt.tuple_str _ _ p hu
   |@tup a2 ys js p2 q2=>
    by_cases ea:a1=a2
    ·subst ea;have:=Rm (n+1) (.tup p q) (.tup p2 q2) hd;subst this;exact EqAt.same _
    ·obtain⟨e,he,hb⟩:=parts (A:=A.in1) q q2 hd λa b c=>ih cV a b c;rw[hb];exact EqAt.of_refs ea (RcAt.tuples p p2 hu he)
   |fl p2 q2=>cases hd;exact EqAt.tuple_list p p2 hu
  |@fl a1 xs is p q=>cases r2 with
   |oth k=>rw[g_ k] at hd;cases hd
   |non=>cases hd;exact EqAt.list_none p hu
   |bl y=>cases hd;exact EqAt.list_bool _ p hu
   |int y t=>cases hd;exact EqAt.list_int _ _ p hu
   |str y t=>cases hd;exact EqAt.list_str _ _ p hu
   |tup p2 q2=>cases hd;exact EqAt.list_tuple p p2 hu
   |@fl a2 ys js p2 q2=>
    by_cases ea:a1=a2
    ·subst ea;have:=Rm (n+1) (.fl p q) (.fl p2 q2) hd;subst this;exact EqAt.same _
    ·obtain⟨e,he,hb⟩:=parts (A:=A.in1) q q2 hd λa b c=>ih cV a b c;exact EqAt.of_refs ea (XQ p p2 hu he hb)
end
section
variable {X:Cx}{cA:Cl}{ao:List (Addr×Obj)}{Z:L2.St}{H:Hp}{s:Shared}{U:Ph}{h:Heap}
open SeqAt in
theorem XR(Bu:A.units+(n+1)<cLine)(r1:Is s.heap d1 u1)(r2:Is s.heap d2 u2)(hd:cN (n+1) d1 d2=some b):RcAt A s u1 u2 b/\RcNeAt A s u1 u2 (!b):=by
 have hu:A.units<cLine:=by lia
 have cV:A.in1.units+n<cLine:=by show A.units+1+n<cLine;lia
 cases r1 with
 |oth k=>rw[ji k] at hd;cases hd
 |non=>cases r2 with
  |oth k=>rw[g_ k] at hd;cases hd
  |non=>cases hd;exact⟨RcAt.none_none,RcNeAt.none_none⟩
  |bl y=>cases hd;exact⟨RcAt.none_bool _,RcNeAt.none_bool _⟩
  |int y t=>cases hd;exact⟨RcAt.none_int _ _,RcNeAt.none_int _ _⟩
  |str y t=>cases hd;exact⟨RcAt.none_str _ _,RcNeAt.none_str _ _⟩
  |tup p q=>cases hd;exact⟨RcAt.none_tuple p hu,RcNeAt.none_tuple p hu⟩
  |fl p q=>cases hd;exact⟨RcAt.none_list p hu,RcNeAt.none_list p hu⟩
 |bl x=>cases r2 with
  |oth k=>rw[g_ k] at hd;cases hd
  |non=>cases hd;exact⟨RcAt.bool_none _,RcNeAt.bool_none _⟩
  |bl y=>cases hd;exact⟨RcAt.bool_bool _ _,RcNeAt.bool_bool _ _⟩
  |int y t=>cases hd;exact⟨RcAt.bool_int _ _ _,RcNeAt.bool_int _ _ _⟩
  |str y t=>cases hd;exact⟨RcAt.bool_str _ _ _,RcNeAt.bool_str _ _ _⟩
  |tup p q=>cases hd;exact⟨RcAt.bool_tuple _ p hu,RcNeAt.bool_tuple _ p hu⟩
  |fl p q=>cases hd;exact⟨RcAt.bool_list _ p hu,RcNeAt.bool_list _ p hu⟩
 |int x t=>cases r2 with
  |oth k=>rw[g_ k] at hd;cases hd
  |non=>cases hd;exact⟨RcAt.int_none _ _,RcNeAt.int_none _ _⟩
  |bl y=>cases hd;exact⟨RcAt.int_bool _ _ _,RcNeAt.int_bool _ _ _⟩
  |int y t=>cases hd;exact⟨RcAt.int_int _ _ _ _,RcNeAt.int_int _ _ _ _⟩
  |str y t=>cases hd;exact⟨RcAt.int_str _ _ _ _,RcNeAt.int_str _ _ _ _⟩
  |tup p q=>cases hd;exact⟨RcAt.int_tuple _ _ p hu,RcNeAt.int_tuple _ _ p hu⟩
  |fl p q=>cases hd;exact⟨RcAt.int_list _ _ p hu,RcNeAt.int_list _ _ p hu⟩
 |str x t=>cases r2 with
  |oth k=>rw[g_ k] at hd;cases hd
  |non=>cases hd;exact⟨RcAt.str_none _ _,RcNeAt.str_none _ _⟩
  |bl y=>cases hd;exact⟨RcAt.str_bool _ _ _,RcNeAt.str_bool _ _ _⟩
  |int y t=>cases hd;exact⟨RcAt.str_int _ _ _ _,RcNeAt.str_int _ _ _ _⟩
  |str y t=>cases hd;exact⟨RcAt.str_str _ _ _ _,RcNeAt.str_str _ _ _ _⟩
  |tup p q=>cases hd;exact⟨RcAt.str_tuple _ _ p hu,RcNeAt.str_tuple _ _ p hu⟩
  |fl p q=>cases hd;exact⟨RcAt.str_list _ _ p hu,RcNeAt.str_list _ _ p hu⟩
 |@tup a1 xs is p q=>cases r2 with
  |oth k=>rw[g_ k] at hd;cases hd
  |non=>cases hd;exact⟨RcAt.tuple_none p hu,RcNeAt.tuple_none p hu⟩
  |bl y=>cases hd;exact⟨RcAt.tuple_bool _ p hu,RcNeAt.tuple_bool _ p hu⟩
  |int y t=>cases hd;exact⟨RcAt.tuple_int _ _ p hu,RcNeAt.tuple_int _ _ p hu⟩
  |str y t=>cases hd;exact⟨RcAt.tuple_str _ _ p hu,RcNeAt.tuple_str _ _ p hu⟩
  |@tup a2 ys js p2 q2=>
   obtain⟨e,he,hb⟩:=parts (A:=A.in1) q q2 hd λa b c=>Io n cV a b c;rw[hb];exact⟨RcAt.tuples p p2 hu he,RcNeAt.tuples p p2 hu he⟩
  |fl p2 q2=>cases hd;exact⟨RcAt.tuple_list p p2 hu,RcNeAt.tuple_list p p2 hu⟩
 |@fl a1 xs is p q=>cases r2 with
  |oth k=>rw[g_ k] at hd;cases hd
  |non=>cases hd;exact⟨RcAt.list_none p hu,RcNeAt.list_none p hu⟩
  |bl y=>cases hd;exact⟨RcAt.list_bool _ p hu,RcNeAt.list_bool _ p hu⟩
  |int y t=>cases hd;exact⟨RcAt.list_int _ _ p hu,RcNeAt.list_int _ _ p hu⟩
  |str y t=>cases hd;exact⟨RcAt.list_str _ _ p hu,RcNeAt.list_str _ _ p hu⟩
  |tup p2 q2=>cases hd;exact⟨RcAt.list_tuple p p2 hu,RcNeAt.list_tuple p p2 hu⟩
  |@fl a2 ys js p2 q2=>
   obtain⟨e,he,hb⟩:=parts (A:=A.in1) q q2 hd λa b c=>Io n cV a b c;exact⟨XQ p p2 hu he hb,zfE p p2 hu he hb⟩
noncomputable def wZ(K:W.Frag)(cA:Cl)(f:Bool->Bool):R2:=λx y H Q=>∃U d1 d2 b,Rv K cA U H d1 x/\Rv K cA U H d2 y/\cN 50 d1 d2=some b/\Q (.bl (f b)) H
theorem zmI(hu:X.A.units+60<cLine):fC X (compareOp .Eq) (wZ X.K cA id):=by
 intro ao s Z H x y v u Q I rx ry ⟨U,d1,d2,b,r1,r2,hd,q⟩;exact(XR (n:=49) (by lia) (Dz I r1 rx) (Dz I r2 ry) hd).1 X.prog X.w X.xe _ ⟨.bl b,H,I,rfl,q⟩
theorem zmA(hu:X.A.units+60<cLine):fC X (compareOp .NotEq) (wZ X.K cA not):=by
 intro ao s Z H x y v u Q I rx ry ⟨U,d1,d2,b,r1,r2,hd,q⟩;exact(XR (n:=49) (by lia) (Dz I r1 rx) (Dz I r2 ry) hd).2 X.prog X.w X.xe _ ⟨.bl (!b),H,I,rfl,q⟩
theorem zki:∀(n:Nat) {d d' x:D} {u:Value} {b b':Bool},Is h d u->Is h d' u->cN n d x=some b->cN n d' x=some b'->b=b':=by
 intro n;have flat:∀{d d' x:D} {u:Value} {b b':Bool},Is h d u->Is h d' u->(∀xs xs',d=.tup xs->d'=.tup xs'->False)->(∀xs xs',d=.fl xs->d'=.fl xs'->False)->cN n d x=some b->cN n d' x=some b'->b=b':=by
  intro d d' x u b b' r1 r2 n1 n2 h1 h2;cases r1 with
  |oth k=>rw[ji k] at h1;cases h1
  |non=>cases r2 with
   |oth k=>rw[ji k] at h2;cases h2
   |non=>rw[h1] at h2;exact cL h2
  |bl y=>cases r2 with
   |oth k=>rw[ji k] at h2;cases h2
   |bl=>rw[h1] at h2;exact cL h2
  |int y=>cases r2 with
   |oth k=>rw[ji k] at h2;cases h2
   |int=>rw[h1] at h2;exact cL h2
  |str y=>cases r2 with
   |oth k=>rw[ji k] at h2;cases h2
   |str=>rw[h1] at h2;exact cL h2
  |tup p q=>cases r2 with
   |oth k=>rw[ji k] at h2;cases h2
   |tup=>exact(n1 _ _ rfl rfl).elim
   |fl p2 q2=>exact(vK p2 p).elim
  |fl p q=>cases r2 with
   |oth k=>rw[ji k] at h2;cases h2
   |fl=>exact(n2 _ _ rfl rfl).elim
   |tup p2 q2=>exact(vK p p2).elim
 have tn:∀{n:Nat} {xs xs':List D} {x:D},(∀ys,x=.tup ys->False)->cN n (.tup xs) x=cN n (.tup xs') x:=λ{n xs xs' x} hx=>by
  cases n<;>cases x<;>first|rfl|exact(hx _ rfl).elim
 have ln:∀{n:Nat} {xs xs':List D} {x:D},(∀ys,x=.fl ys->False)->cN n (.fl xs) x=cN n (.fl xs') x:=λ{n xs xs' x} hx=>by
  cases n<;>cases x<;>first|rfl|exact(hx _ rfl).elim
 clear flat
 induction n with
 |zero=>
  intro d d' x u b b' r1 r2 h1 h2;cases r1 with
  |oth k=>rw[ji k] at h1;cases h1
  |non=>cases r2 with
   |oth k=>rw[ji k] at h2;cases h2
   |non=>rw[h1] at h2;exact cL h2
  |bl y=>cases r2 with
   |oth k=>rw[ji k] at h2;cases h2
   |bl=>rw[h1] at h2;exact cL h2
  |int y=>cases r2 with
   |oth k=>rw[ji k] at h2;cases h2
   |int=>rw[h1] at h2;exact cL h2
  |str y=>cases r2 with
   |oth k=>rw[ji k] at h2;cases h2
   |str=>rw[h1] at h2;exact cL h2
  |tup p q=>cases r2 with
   |oth k=>rw[ji k] at h2;cases h2
   |tup p2 q2=>
    cases x with
    |tup ys=>cases h1
    |_=>rw[tn (by intro ys z;cases z),h2] at h1;exact(cL h1).symm
   |fl p2 q2=>exact(vK p2 p).elim
  |fl p q=>cases r2 with
   |oth k=>rw[ji k] at h2;cases h2
   |fl p2 q2=>
    cases x with
    |fl ys=>cases h1
    |_=>rw[ln (by intro ys z;cases z),h2] at h1;exact(cL h1).symm
   |tup p2 q2=>exact(vK p p2).elim
 |succ n ih=>
  intro d d' x u b b' r1 r2 h1 h2;have rows:∀{xs xs' ys:List D} {is js:List Value} {b b':Bool},jB h xs is->jB h xs' js->is.toArray=js.toArray->cX (cN n) xs ys=some b->cX (cN n) xs' ys=some b'->b=b':=by
   intro xs xs' ys is js b b' q1 q2 e h1 h2;have e:is=js:=by simpa using e
   subst e;obtain⟨e1,a1,b1⟩:=Im h1;obtain⟨e2,a2,b2⟩:=Im h2;have hl:xs.length=xs'.length:=q1.len.trans q2.len.symm;rw[b1,b2,hl]
   congr 1
   rw[Bool.eq_iff_iff,fu,fu];have key:∀j∈List.range (min xs'.length ys.length),e1 j=e2 j:=λj hj=>by
    have hj:=vf.mp hj;obtain⟨x1,X3⟩ : ∃x,xs[j]?=some x:=⟨_,dO (by rw[hl];exact iM hj (Nat.min_le_left _ _))⟩;obtain⟨x2,K6⟩ : ∃x,xs'[j]?=some x:=⟨_,dO (iM hj (Nat.min_le_left _ _))⟩;obtain⟨y,hy⟩ : ∃y,ys[j]?=some y:=⟨_,dO (iM hj (Nat.min_le_right _ _))⟩;obtain⟨v1,f1,p1⟩:=q1.get X3;obtain⟨v2,f2,p2⟩:=q2.get K6;rw[f1] at f2;cases f2;exact ih p1 p2 (a1 j x1 y X3 hy) (a2 j x2 y K6 hy)
   exact⟨λz j hj=>by rw[<-key j hj];exact z j hj,λz j hj=>by rw[key j hj];exact z j hj⟩
  cases r1 with
  |oth k=>rw[ji k] at h1;cases h1
  |non=>cases r2 with
   |oth k=>rw[ji k] at h2;cases h2
   |non=>rw[h1] at h2;exact cL h2
  |bl y=>cases r2 with
   |oth k=>rw[ji k] at h2;cases h2
   |bl=>rw[h1] at h2;exact cL h2
  |int y=>cases r2 with
   |oth k=>rw[ji k] at h2;cases h2
   |int=>rw[h1] at h2;exact cL h2
  |str y=>cases r2 with
   |oth k=>rw[ji k] at h2;cases h2
   |str=>rw[h1] at h2;exact cL h2
  |tup p q=>cases r2 with
   |oth k=>rw[ji k] at h2;cases h2
   |tup p2 q2=>
    cases x with
    |tup ys=>exact rows q q2 (XJ p p2) h1 h2
    |_=>rw[tn (by intro ys z;cases z),h2] at h1;exact(cL h1).symm
   |fl p2 q2=>exact(vK p2 p).elim
  |fl p q=>cases r2 with
   |oth k=>rw[ji k] at h2;cases h2
   |fl p2 q2=>
    cases x with
    |fl ys=>exact rows q q2 (XM p p2) h1 h2
    |_=>rw[ln (by intro ys z;cases z),h2] at h1;exact(cL h1).symm
   |tup p2 q2=>exact(vK p p2).elim
theorem X4:∀{xs:List D} {b:Bool},memD x xs=some b->∀d∈xs,∃k,cN 50 d x=some k
 |[],_,_,d,hd=>by cases hd
 |y::xs,b,h,d,hd=>by
  unfold memD at h;cases e1:cN 50 y x with
  |none=>simp only[e1] at h;cases h
  |some a=>
   cases e2:memD x xs with
   |none=>simp only[e1,e2] at h;cases h
   |some c=>
    rcases iU.mp hd with rfl|hd
    ·exact⟨a,e1⟩
    ·exact X4 e2 d hd
theorem X5:∀{xs:List D} {us:List Value} {b:Bool},memD x xs=some b->jB h xs us->∃e:Value->Bool,(∀u∈us,∃d,Is h d u/\cN 50 d x=some (e u))/\us.any e=b:=by
 intro xs us b hm r;have ex:∀u∈us,∃d k,Is h d u/\cN 50 d x=some k:=by
  intro u hu;obtain⟨i,hi,e⟩:=vY hu;have hl:=r.len;obtain⟨d,hd⟩ : ∃d,xs[i]?=some d:=⟨_,dO (by lia)⟩;obtain⟨u',e1,q⟩:=r.get hd;rw[dO hi,e] at e1;cases e1;obtain⟨k,hk⟩:=X4 hm d (fX hd);exact⟨d,k,q,hk⟩
 refine⟨λu=>by classical exact if z:∃k,∃d,Is h d u/\cN 50 d x=some k then z.choose else false,λu hu=>?_,?_⟩
 ·obtain⟨d,k,q,hk⟩:=ex u hu;have z:∃k,∃d,Is h d u/\cN 50 d x=some k:=⟨k,d,q,hk⟩;dsimp only;rw[dif_pos z];exact z.choose_spec
 ·clear ex;have key:∀(xs:List D) (us:List Value) (b:Bool),memD x xs=some b->jB h xs us->us.any (λu=>by classical exact if z:∃k,∃d,Is h d u/\cN 50 d x=some k then z.choose else false)=b:=by
   intro xs
   induction xs with
   |nil=>intro us b hm r;cases r;cases hm;rfl
   |cons d ds ih=>
    intro us b hm r;cases r with
    |@cons _ u _ us a r=>
     unfold memD at hm;cases e1:cN 50 d x with
     |none=>simp only[e1] at hm;cases hm
     |some k=>
      cases e2:memD x ds with
      |none=>simp only[e1,e2] at hm;cases hm
      |some c=>
       simp only[e1,e2] at hm;cases hm;rw[List.any_cons];have z:∃k,∃d,Is h d u/\cN 50 d x=some k:=⟨k,d,a,e1⟩;have hk:z.choose=k:=by
        obtain⟨d',q,Gq⟩:=z.choose_spec;exact zki 50 q a Gq e1
       rw[dif_pos z,hk,ih us c e2 r]
  exact key xs us b hm r
noncomputable def Ip(K:W.Frag)(cA:Cl)(f:Bool->Bool):R2:=λx y H Q=>∃U d1 d2 xs b,Rv K cA U H d1 x/\Rv K cA U H d2 y/\mR d2=some xs/\memD d1 xs=some b/\Q (.bl (f b)) H
theorem zmd(hu:X.A.units+60<cLine):fC X (compareOp .In) (Ip X.K cA id):=by
 intro ao s Z H x y v u Q I rx ry ⟨U,d1,d2,xs,b,r1,r2,hq,hm,q⟩;have cV:X.A.in1.units+50<cLine:=by show X.A.units+1+50<cLine;lia
 have i1:=Dz I r1 rx;cases Dz I r2 ry with
 |tup p r=>
  cases hq;obtain⟨e,he,hb⟩:=X5 hm r;refine SeqAt.in_tupleAt e p (λw hw=>?_) ⟨.bl b,H,I,by rw[<-hb];simp[L2.RelV],q⟩;obtain⟨d,q1,q2⟩:=he w (by simpa using hw);exact Io 50 cV q1 i1 q2
 |fl p r=>
  cases hq;obtain⟨e,he,hb⟩:=X5 hm r;refine SeqAt.in_listAt e p (λw hw=>?_) ⟨.bl b,H,I,by rw[<-hb];simp[L2.RelV],q⟩;obtain⟨d,q1,q2⟩:=he w (by simpa using hw);exact Io 50 cV q1 i1 q2
 |oth k=>cases d2<;>cases hq<;>cases k
 |_=>cases hq
end
end Mi
namespace HT
open PySem PyProof.Rows
section
variable {prog:Program}{w:World}{A:Around}{E:Value->Shared->Prop}{s:Shared}
theorem uo{t b:Addr}{vs ws:List Value}{Q:Value->Shared->Prop}(ht:IsTup s.heap t vs.toArray)(hb:IsTup s.heap b ws.toArray)(hv:vs=[])
  (h1:Q (.ref b) s):wpAny (model prog w) A (binaryOp .Add (.ref t) (.ref b)) Q E s:=by
 obtain⟨⟨cls,dd,data,sl⟩,ho,hc,n,hd⟩:=id ht;obtain⟨⟨cls2,dd2,data2,sl2⟩,pJ,qD,n2,hd2⟩:=id hb;simp only at hc hd qD hd2;subst hc hd qD hd2;exact concat_meets ⟨_,ho,rfl⟩ ⟨_,pJ,rfl⟩ noFill_tuple_add seq_tuple_add N7 N5 (NZ _ _)
   (tuple_addW0 t b vs.toArray ws.toArray n n2 dd dd2 sl sl2 (by simp[hv])) ⟨ho,pJ,h1⟩
theorem gD{t sl:Addr}{items:Array Value}{vl vu:Value}{lo hi:Option Int}{Q:Value->Shared->Prop}(ht:IsTup s.heap t items)(hs:s.heap.IsSliceOf sl vl vu .none)(pl:IsPart vl lo)(pu:IsPart vu hi)
  (hw:bU items.size 0 lo=0/\bU items.size items.size hi=items.size) (h:Q (.ref t) s):wpAny (model prog w) A (getItem (.ref t) (.ref sl)) Q E s:=by
 obtain⟨os,rD,Ao,vG⟩:=id hs;have G_:s.TypeIs (.ref sl) "slice":=⟨os,rD,Ao⟩;unfold getItem
 try with_reducible refine qu ?_
 first|refine aB (aN ?_)|skip
 refine aB (wpAny_sequenceKey ht.typeIs (by decide) ?_);refine aB (xZ (name:=Str.ofString "__getitem__") ht.typeIs vV
  (vZ vV ht.typeIs entry_tuple_getitem ?_ (args_tuple_getitem _ _)))
 show wpAny _ _ (Builtin.Tuple.tupleItemsOf (.ref t) >>= _) _ _ s;refine aB (tupleItemsOf_ ht ?_);refine aB (FW G_ ?_);rw[if_pos (by decide)];refine aB (WY hs pl pu ?_);have Ro:(((bU items.size 0 lo:Nat):Int)==0&&(1:Int)==1&&(bU items.size items.size hi-bU items.size 0 lo)==items.size)=true:=by
  rw[hw.1,hw.2];simp
 show wpAny _ _ (if (((bU items.size 0 lo:Nat):Int)==0&&(1:Int)==1&&(bU items.size items.size hi-bU items.size 0 lo)==items.size)=true then _ else _) _ _ s;rw[if_pos Ro];refine aB ?_;unfold Builtin.Tuple.tupleIsExact;refine aB (FW ht.typeIs ?_);refine aN ?_;rw[if_pos (by decide)];refine aB (Dh ?_);exact aN ⟨_,rfl,aN h⟩
theorem zck{i:Int}{t:Tok}{Q:Option Int->Shared->Prop}(h:Q (some i) s):wpAny (model prog w) A (Builtin.Slice.slicePartIndex (.int i t)) Q E s:=Qc (.int i t) h
theorem zbD{sl:Addr}{t:Tok}{n:Nat}{Q:Int×Int×Nat->Shared->Prop}(hs:s.heap.IsSliceOf sl .none .none (.int (-1) t))
  (h:Q ((n:Int)-1,-1,n) s):wpAny (model prog w) A (Builtin.Slice.sliceApplied (.ref sl) (pure (n:Int))) Q E s:=by
 obtain⟨os,rD,Ao,vG⟩:=id hs;unfold Builtin.Slice.sliceApplied Builtin.Slice.sliceFields;refine aB (aB (j9 rD vG (x:=.none) rfl (aB (j9 rD vG (x:=.none) rfl (aB (j9 rD vG (x:=.int (-1) t) rfl (aN ?_)))))));refine aB (zck ?_);show wpAny _ _ (if ((-1:Int)==0)=true then _ else _) _ _ s;rw[if_neg (by decide)];refine aB (slicePart_none (aB (slicePart_none (aB (aN ?_)))));show wpAny _ _ (pure ((n:Int)-1,(-1:Int),Builtin.Slice.slicePlaces ((n:Int)-1) (-1) (-1))) _ _ s;have e:Builtin.Slice.slicePlaces ((n:Int)-1) (-1) (-1)=n:=by
  unfold Builtin.Slice.slicePlaces;rw[if_neg (by decide)];by_cases hn:n=0
  ·subst hn;rfl
  ·rw[if_pos (by lia)];have:(-(-1:Int))=1:=rfl;rw[this,Int.ediv_one]
   lia
 rw[e];exact aN h
theorem zht(xs:Array Value):((List.range xs.size).filterMap λ(m:Nat)=>xs[(((xs.size:Int)-1)+(m:Int) * -1).toNat]?).toArray=xs.toList.reverse.toArray:=by
 have e:∀n,n<=xs.size->(List.range n).filterMap (λ(m:Nat)=>xs[(((xs.size:Int)-1)+(m:Int) * -1).toNat]?)=(xs.toList.reverse).take n:=by
  intro n
  induction n with
  |zero=>intro _;simp
  |succ n ih=>
   intro hn;have dF:n<xs.toList.reverse.length:=by simp;lia
   rw[Kp,Fl,ih (by lia),V1 dF]
   congr 1
   have:(((xs.size:Int)-1)+(n:Int) * -1).toNat=xs.size-1-n:=by lia
   simp only[zF,List.filterMap_nil,this];rw[Array.getElem?_eq_getElem (by lia)];simp[List.getElem_reverse]
 rw[e xs.size (b_ _),List.take_of_length_le (by simp)]
theorem iD(ht:IsTup s.heap t items)(hs:s.heap.IsSliceOf sl .none .none (.int (-1) tk))
  (h:Q (.ref s.heap.objs.size) {s with heap:=s.heap.push {cls:=.type "tuple",data:=.seq items.toList.reverse.toArray}})
  (hsz:items.size<=sizeLine):wpAny (model prog w) A (getItem (.ref t) (.ref sl)) Q E s:=by
 have iz:sizeOk (.seq items.toList.reverse.toArray):=by
  show items.toList.reverse.toArray.size<=sizeLine;simpa using hsz
 obtain⟨os,rD,Ao,vG⟩:=id hs;have G_:s.TypeIs (.ref sl) "slice":=⟨os,rD,Ao⟩;unfold getItem
 try with_reducible refine qu ?_
 first|refine aB (aN ?_)|skip
 refine aB (wpAny_sequenceKey ht.typeIs (by decide) ?_);refine aB (xZ (name:=Str.ofString "__getitem__") ht.typeIs vV
  (vZ vV ht.typeIs entry_tuple_getitem ?_ (args_tuple_getitem _ _)))
 show wpAny _ _ (Builtin.Tuple.tupleItemsOf (.ref t) >>= _) _ _ s;refine aB (tupleItemsOf_ ht ?_);refine aB (FW G_ ?_);rw[if_pos (by decide)];refine aB (zbD hs ?_);show wpAny _ _ (if (((items.size:Int)-1)==0&&(-1:Int)==1&&items.size==items.size)=true then _ else _) _ _ s;rw[if_neg (by simp),zht]
 first
  |exact aB (m:=Builtin.Tuple.tupleExact _) (o9 (aN ⟨_,rfl,aN h⟩) iz)
  |exact aB (m:=Builtin.Tuple.tupleExact _) (o9 (aB (aN (aN ⟨_,rfl,aN h⟩))) iz)
  |exact aB (aB (m:=Builtin.Tuple.tupleExact _) (o9 (aN (aN ⟨_,rfl,aN h⟩)) iz))
  |exact aB (aB (m:=Builtin.Tuple.tupleExact _) (o9 (aN ⟨_,rfl,aN h⟩) iz))
end
end HT
namespace L2
open PySem PySem.Spec PyProof.Rows
section
variable {X:Cx}{e:Expr}{te:TE}{pos p2:Pos}
noncomputable def uq(K:W.Frag):R2:=λx y H Q=>∃a b xs ys,x=.ref a/\y=.ref b/\gw K H a xs/\gw K H b ys/\xs.length+ys.length<=sizeLine /\
 (xs=[]->Q (.ref b) H)/\(ys=[]->Q (.ref a) H)/\∀p,H p=none->Q (.ref p) (upd H p (.tup (xs++ys)))
theorem ur:fC X (binaryOp .Add) (uq X.K):=by
 intro ao s Z H x y v u Q I rx ry h;obtain⟨a,b,xs,ys,rfl,rfl,ha,hb,hz,q0,q1,q2⟩:=h;cases rx;cases ry;obtain⟨its,r1,p1,_⟩:=I.tuple ha;obtain⟨its2,r2,p2,_⟩:=I.tuple hb;by_cases hx:xs=[]
 ·exact HT.uo p1 p2 (r1.mJ.mpr hx) ⟨.ref b,H,I,rfl,q0 hx⟩
 ·refine HT.wG p1 p2 (λz=>hx (r1.mJ.mp z)) (λz=>⟨.ref a,H,I,rfl,q1 (r2.mJ.mp z)⟩) (λz=>?_) (by rw[<-r1.length,<-r2.length];exact hz);refine⟨.ref s.heap.objs.size,_,I.laid (t':=s.toks) (o:=.tup (xs++ys)) (λb ob q=>cM _ q) (b_ _) ?_,rfl,q2 _ (I.hok.fresh (b_ _))⟩;exact⟨by rw[lD];exact hz,_,r1.append r2,IsTup.new _ _⟩
noncomputable def yL(K:W.Frag):V->Option Int->Option Int->Hp->VK->Prop:=λx lo hi H Q=>∃a xs,x=.ref a/\gw K H a xs /\
 ((HT.bU xs.length 0 lo=0/\HT.bU xs.length xs.length hi=xs.length)->Q (.ref a) H)/\∀p,H p=none->Q (.ref p) (upd H p (.tup (mH xs lo hi)))
theorem zjj:wJ X (yL X.K):=by
 intro ao s Z H x v vl vu lo hi sl Q I rx hs pl pu h;obtain⟨a,xs,rfl,hx,hw,q⟩:=h;by_cases hz:HT.bU xs.length 0 lo=0/\HT.bU xs.length xs.length hi=xs.length
 ·cases rx;obtain⟨its,r,ht,_⟩:=I.tuple hx;have hlen:its.toArray.size=xs.length:=by rw[fZ];exact r.length.symm
  refine⟨"tuple",_,vV.lookup,ht.typeIs,?_⟩;exact HT.gD ht hs pl pu (by rw[hlen];exact hz) ⟨.ref a,H,I,rfl,hw hz⟩
 ·exact zlu ao s Z H (.ref a) v vl vu lo hi sl Q I rx hs pl pu ⟨a,xs,rfl,hx,hz,q⟩
theorem zmB(he:PE X e te):PE X (.Subscript e (.Slice none none (some (.UnaryOp .USub (.Constant (.int 1) j p3) p4)) p2) pos) (λZ H Q=>te Z H λx H1=>∃a xs,x=.ref a/\gw X.K H1 a xs/\∀p,H1 p=none->Q (.ref p) (upd H1 p (.tup xs.reverse))):=by
 intro ao s Z H Q I h;refine Subscript_ (aU (he ao s Z H _ I h) λv s1 ⟨x,H1,I1,r1,a,xs,ex,hx,q⟩=>?_);subst ex;cases r1;refine wpAny_Slice ?_;rw[evalPart_none];refine aN (aN ?_);rw[evalPart_some];refine aU (Wt (r:=rU λi=>.int (-i)) Wu Wd ao s1 Z H1 (λv H'=>v=.int (-1)/\H'=H1) I1 ⟨1,rfl,rfl,rfl⟩) λu s2 ⟨z,H2,I2,r2,ez,eH⟩=>?_;subst ez eH;obtain⟨t,rfl⟩:=r2;obtain⟨its,r,ht,hz⟩:=I2.tuple hx;have I4:Inv X ao Z H2 {s2 with heap:=s2.heap.push {cls:=.type "slice",data:=.fields #[.none,.none,.int (-1) t]}}:=I2.kept (t':=s2.toks) λb ob q=>cM _ q;obtain⟨its,r,ht,hz⟩:=I4.tuple hx;have hlen:its.toArray.size=xs.length:=by rw[fZ];exact r.length.symm
 show wpAny (model X.prog X.w) X.A (subscriptTail e (.Slice none none (some (.UnaryOp .USub (.Constant (.int 1) j p3) p4)) p2) (.ref a) (.ref s2.heap.objs.size)) (EP X ao Z Q) X.xe {s2 with heap:=s2.heap.push {cls:=.type "slice",data:=.fields #[.none,.none,.int (-1) t]}};refine tail_any (ops:=[.ref a,.ref s2.heap.objs.size]) ht.typeIs vV.lookup (HT.iD ht (Heap.IsSliceOf.new ..) ?_ (by rw[hlen];exact hz)) (by with_unfolding_all rfl);refine⟨.ref _,_,I4.laid (t':=s2.toks) (o:=.tup xs.reverse) (λb ob q=>cM _ q) (b_ _) ?_,rfl,q _ (I4.hok.fresh (b_ _))⟩;refine⟨by rw[List.length_reverse];exact hz,_,?_,IsTup.new _ _⟩;have rv:∀{xs:List V} {us:List Value},Vals xs us->Vals xs.reverse us.reverse:=λ{xs us} r=>by
  induction r with
  |nil=>exact .nil
  |cons a b ih=>rw[Kf,Kf];exact ih.append (.cons a .nil)
 simpa using rv r
end
section
variable {X:Cx}
noncomputable def yM(K:W.Frag):R2:=λx y H Q=>∃l b xs zs,x=.ref l/\y=.ref b/\cT K H l xs/\cT K H b zs/\xs.length+zs.length<=sizeLine/\∀p,H p=none->Q (.ref p) (upd H p (.lst (xs++zs)))
theorem w6:fC X (binaryOp .Add) (yM X.K):=by
 intro ao s Z H x y v u Q I rx ry h;obtain⟨l,b,xs,zs,rfl,rfl,hH,hB,hz,q⟩:=h;cases rx;cases ry;obtain⟨its,r,pl,_⟩:=I.list hH;obtain⟨its2,r2,pl2,_⟩:=I.list hB;obtain⟨⟨cls,dd,data,sl⟩,ho,hc,n,hd⟩:=pl.isList;obtain⟨⟨cls2,dd2,data2,sl2⟩,pJ,qD,n2,hd2⟩:=pl2.isList;simp only at hc hd qD hd2;subst hc hd qD hd2;refine concat_meets ⟨_,ho,rfl⟩ ⟨_,pJ,rfl⟩ noFill_list_add seq_list_add PySem.F.slot_list_add PySem.F.entry_list_add (PySem.F.args_list_add_2 _ _) (list_addW l b its.toArray its2.toArray n n2 dd dd2 sl sl2 (by rw[fZ,fZ,<-r.length,<-r2.length];exact hz)) ⟨ho,pJ,?_⟩;have ea:its.toArray++its2.toArray=(its++its2).toArray:=by simp
 rw[ea];exact⟨.ref _,_,I.Qh (t':=s.toks) (r.append r2) (by rw[lD];omega),rfl,q _ I.fresh⟩
noncomputable def qP(K:W.Frag):R2:=λx y H Q=>pG (λi j=>.int (i+j)) x y H Q\/yM K x y H Q\/uq K x y H Q\/∃i j,x=.str i/\y=.str j/\i.length+j.length<=sizeLine/\Q (.str (i++j)) H
theorem zfR:fC X (binaryOp .Add) (qP X.K):=Ai.or (w6.or (ur.or ze9))
end
end L2
namespace Mi
open PySem PySem.Spec PyProof.Rows L2
section
variable {K:W.Frag}{cA:Cl}{U:Ph}{H:Hp}{Q:VK}{p:Pr}
theorem bG.some'{o:Option Rz}(h:bG K cA U H o Q):∃z,o=some z:=by
 cases o with
 |none=>exact h.elim
 |some z=>exact⟨z,rfl⟩
theorem bG.of{o:Option Rz}{z:Rz}(h:bG K cA U H o Q)(e:o=some z):bG K cA U H (some z) Q:=e▸h
theorem bG.here{d:D}{v:V}(h:bG K cA U H (some (.dat d)) Q)(r:Rep K cA U H d v):Q v H:=h H v bB.refl r
theorem bG.tup{xs:List D}{vs:List V}{a:Addr}(h:bG K cA U H (some (.dat (.tup xs))) Q)(z:Zt U H)(r:aC K cA U H xs vs)(hp:H a=none):Q (.ref a) (upd H a (.tup vs)):=
 h _ _ (bB.new hp) (.tup (TupAt.new (z.nz hp)) (r.mono (bB.new hp).ext z.lz))
theorem wX.two{ds:List D}{vs:List V}{d d':D}(h:wX K cA U H [d,d'] vs):∃v v',vs=[v,v']/\Rv K cA U H d v/\Rv K cA U H d' v':=by
 cases h with
 |cons a r=>cases r with
  |cons b r=>cases r;exact⟨_,_,rfl,a,b⟩
theorem wX.one(h:wX K cA U H [d] vs):∃v,vs=[v]/\Rv K cA U H d v:=by
 cases h with
 |cons a r=>cases r;exact⟨_,rfl,a⟩
theorem Rv.int{i:Int}{v:V}(h:Rv K cA U H (.int i) v):v=.int i:=by cases (show Rep K cA U H (.int i) v from h);rfl
theorem Rv.bl{i:Bool}{v:V}(h:Rv K cA U H (.bl i) v):v=.bl i:=by cases (show Rep K cA U H (.bl i) v from h);rfl
theorem Rv.str{i:Str}{v:V}(h:Rv K cA U H (.str i) v):v=.str i:=by cases (show Rep K cA U H (.str i) v from h);rfl
theorem Rv.tup{xs:List D}{v:V}(h:Rv K cA U H (.tup xs) v):∃a vs,v=.ref a/\TupAt K U H a vs/\aC K cA U H xs vs:=by
 cases (show Rep K cA U H (.tup xs) v from h) with
 |tup a r=>exact⟨_,_,rfl,a,r⟩
theorem Rv.sq{d:D}{xs:List D}{v:V}(h:Rv K cA U H d v)(e:mR d=some xs):∃a vs,v=.ref a/\(cT K H a vs\/gw K H a vs)/\aC K cA U H xs vs:=by
 cases d with
 |tup ys=>
  cases e;obtain⟨a,vs,e,t,r⟩:=Rv.tup h;exact⟨a,vs,e,.inr t.jh,r⟩
 |fl ys=>
  cases e;obtain⟨a,vs,e,l,r⟩:=h;exact⟨a,vs,e,.inl l,r⟩
 |_=>cases e
theorem X6{f:Int->Int->Option D}{ds:List D}{z:Rz}(h:cY f ds=some z):∃i j d,ds=[.int i,.int j]/\f i j=some d/\z=.dat d:=by
 cases ds with
 |nil=>cases h
 |cons a t=>
 cases a with
 |int i=>
  cases t with
  |nil=>cases h
  |cons b t=>
  cases b with
  |int j=>
   cases t with
   |cons _ _=>cases h
   |nil=>
    obtain⟨d,e1,e2⟩:=lV.mp h;exact⟨_,_,d,rfl,e1,e2.symm⟩
  |_=>cases h
 |_=>cases h
theorem Ir{f:Int->Int->Option D}(hp:prim p=cY f){C:Int->Int->Prop}{g:Int->Int->V}(hf:∀i j d,f i j=some d->C i j/\∀U H,Rep K cA U H d (g i j)):bH K cA p (r2 (rI C g)):=by
 intro U H ds vs Q zt rs o;rw[hp] at o;obtain⟨z,e⟩:=o.some';obtain⟨i,j,d,rfl,e1,rfl⟩:=X6 e;obtain⟨c,r⟩:=hf i j d e1;obtain⟨v,v',rfl,r1,r2⟩:=rs.two (ds:=[]);rw[r1.int,r2.int];exact⟨_,_,rfl,i,j,rfl,rfl,c,(o.of e).here (r U H)⟩
theorem DG{f:Int->Int->D}(hp:prim p=cY λi j=>some (f i j)){g:Int->Int->V}(hf:∀i j U H,Rep K cA U H (f i j) (g i j)):bH K cA p (r2 (pG g)):=by
 intro U H ds vs Q zt rs o;obtain⟨x,y,e,i,j,a,b,_,q⟩:=Ir (K:=K) (cA:=cA) (C:=λ_ _=>True) hp (λi j d e=>⟨trivial,λU H=>by cases e;exact hf i j U H⟩) U H ds vs Q zt rs o;exact⟨x,y,e,i,j,a,b,q⟩
theorem Iu{α:Type}{c:Prop}[Decidable c]{x y:α}(h:(if c then some x else none)=some y):c/\y=x:=by
 split at h
 ·rename_i z;cases h;exact⟨z,rfl⟩
 ·cases h
theorem zmj:bH K cA .aq (r2 (pG λi j=>.int (i-j))):=DG (f:=λi j=>.int (i-j)) rfl λi j _ _=>.int _
theorem zmF:bH K cA .mul (r2 (rI wF λi j=>.int (i*j))):=Ir rfl λi j d e=>by obtain⟨c,rfl⟩:=Iu e;exact⟨c,λ_ _=>.int _⟩
theorem zkn:bH K cA .fdiv (r2 (rI wD λi j=>.int (i/j))):=Ir rfl λi j d e=>by obtain⟨c,rfl⟩:=Iu e;exact⟨c,λ_ _=>.int _⟩
theorem zlX:bH K cA .mod (r2 (rI (λ_ j=>0<j) λi j=>.int (i%j))):=Ir rfl λi j d e=>by obtain⟨c,rfl⟩:=Iu e;exact⟨c,λ_ _=>.int _⟩
theorem zkx:bH K cA .pow (r2 (rI GP λi j=>.int (i^j.toNat))):=Ir rfl λi j d e=>by obtain⟨c,rfl⟩:=Iu e;exact⟨c,λ_ _=>.int _⟩
theorem znh:bH K cA .le (r2 (pG λi j=>.bl (decide (i<=j)))):=DG (f:=λi j=>.bl (decide (i<=j))) rfl λi j _ _=>.bl _
theorem zm7:bH K cA .gt (r2 (pG λi j=>.bl (decide (j<i)))):=DG (f:=λi j=>.bl (decide (j<i))) rfl λi j _ _=>.bl _
theorem znw:bH K cA .ge (r2 (pG λi j=>.bl (decide (j<=i)))):=DG (f:=λi j=>.bl (decide (j<=i))) rfl λi j _ _=>.bl _
theorem zmO:bH K cA .neg (λvs H Q=>∃x,vs=[x]/\rU (λi=>.int (-i)) x H Q):=by
 intro U H ds vs Q zt rs o;obtain⟨z,e⟩:=o.some';have e:qL (λi=>.int (-i)) ds=some z:=e;cases ds with
 |nil=>cases e
 |cons a t=>
 cases a with
 |int i=>
  cases t with
  |cons _ _=>cases e
  |nil=>
   cases e;obtain⟨v,rfl,r1⟩:=rs.one;exact⟨_,rfl,_,r1.int,bG.here (o.of rfl) (.int _)⟩
 |_=>cases e
theorem znB:bH K cA .eq (r2 (wZ K cA id)):=by
 intro U H ds vs Q zt rs o;obtain⟨z,e⟩:=o.some';have e:wR id ds=some z:=e;unfold wR at e;split at e
 ·obtain⟨b,e1,e2⟩:=lV.mp e;obtain⟨v,v',rfl,r1,r2⟩:=rs.two (ds:=[]);subst e2;exact⟨_,_,rfl,U,_,_,b,r1,r2,e1,(o.of e).here (.bl _)⟩
 ·cases e
theorem znm:bH K cA .ne (r2 (wZ K cA not)):=by
 intro U H ds vs Q zt rs o;obtain⟨z,e⟩:=o.some';have e:wR not ds=some z:=e;unfold wR at e;split at e
 ·obtain⟨b,e1,e2⟩:=lV.mp e;obtain⟨v,v',rfl,r1,r2⟩:=rs.two (ds:=[]);subst e2;exact⟨_,_,rfl,U,_,_,b,r1,r2,e1,(o.of e).here (.bl _)⟩
 ·cases e
theorem zjt{f:Bool->Bool}{ds:List D}{z:Rz}(h:yD f ds=some z):∃a b xs k,ds=[a,b]/\mR b=some xs/\memD a xs=some k/\z=.dat (.bl (f k)):=by
 unfold yD at h;split at h
 ·obtain⟨k,e1,e2⟩:=lV.mp h;obtain⟨xs,e3,e4⟩:=zA.mp e1;exact⟨_,_,xs,k,rfl,e3,e4,e2.symm⟩
 ·cases h
theorem znt:bH K cA .inn (r2 (Ip K cA id)):=by
 intro U H ds vs Q zt rs o;obtain⟨z,e⟩:=o.some';obtain⟨a,b,xs,k,rfl,e1,e2,rfl⟩:=zjt (show yD id ds=some z from e);obtain⟨v,v',rfl,r1,r2⟩:=rs.two (ds:=[]);exact⟨_,_,rfl,U,_,_,xs,k,r1,r2,e1,e2,(o.of e).here (.bl _)⟩
theorem Ls:∀{xs:List D} {ns:List Int} {vs:List V},cF xs=some ns->aC K cA U H xs vs->vs=ns.map V.int
 |[],ns,vs,h,r=>by cases h;cases r;rfl
 |d::xs,ns,vs,h,r=>by
  cases d with
  |int i=>
   simp only[cF,lV] at h;obtain⟨ns',h1,rfl⟩:=h;cases r with
   |cons a r=>cases a;rw[Ls h1 r];rfl
  |_=>simp[cF] at h
theorem Rp:∀(a b:List Int),ltI a b=HT.lexLt a b
 |_,[]=>by cases ‹List Int›<;>rfl
 |[],_::_=>rfl
 |x::xs,y::ys=>by
  unfold ltI;rw[Rp xs ys,HT.jM]
theorem znQ:bH K cA .lt (r2 λx y H Q=>pG (λi j=>.bl (decide (i<j))) x y H Q\/Hj K x y H Q):=by
 intro U H ds vs Q zt rs o;obtain⟨z,e⟩:=o.some';have e:HX ds=some z:=e;unfold HX at e;split at e
 ·cases e;obtain⟨v,v',rfl,r1,r2⟩:=rs.two (ds:=[]);exact⟨_,_,rfl,.inl ⟨_,_,r1.int,r2.int,bG.here (o.of rfl) (.bl _)⟩⟩
 ·split at e
  ·rename_i a b h1 h2;cases e;obtain⟨v,v',rfl,r1,r2⟩:=rs.two (ds:=[]);obtain⟨p,us,rfl,t1,q1⟩:=r1.tup;obtain⟨p',us',rfl,t2,q2⟩:=r2.tup;have o2:bG K cA U H (some (.dat (.bl (ltI a b)))) Q:=by
    have o3:bG K cA U H (HX [.tup _,.tup _]) Q:=o;unfold HX at o3;simp only[h1,h2] at o3;exact o3
   refine⟨_,_,rfl,.inr ⟨p,p',a,b,rfl,rfl,by rw[<-Ls h1 q1];exact t1.jh,by rw[<-Ls h2 q2];exact t2.jh,?_⟩⟩;rw[<-Rp];exact o2.here (.bl _)
  ·cases e
 ·cases e
theorem zlF:bH K cA .add (r2 (qP K)):=by
 intro U H ds vs Q zt rs o;have o:bG K cA U H (Bg ds) Q:=o;cases ds with
 |nil=>exact False.elim o
 |cons a t=>
 cases a with
 |int i=>
  cases t with
  |nil=>exact False.elim o
  |cons b t=>
  cases b with
  |int j=>
   cases t with
   |cons _ _=>exact False.elim o
   |nil=>
    obtain⟨v,v',rfl,r1,r2⟩:=rs.two (ds:=[]);exact⟨_,_,rfl,.inl ⟨_,_,r1.int,r2.int,bG.here o (.int _)⟩⟩
  |_=>exact False.elim o
 |tup xs=>
  cases t with
  |nil=>exact False.elim o
  |cons b t=>
  cases b with
  |tup ys=>
   cases t with
   |cons _ _=>exact False.elim o
   |nil=>
    obtain⟨v,v',rfl,r1,r2⟩:=rs.two (ds:=[]);obtain⟨p,us,rfl,t1,q1⟩:=r1.tup;obtain⟨p',us',rfl,t2,q2⟩:=r2.tup;have o:bG K cA U H (if xs.length+ys.length<=sizeLine then some (.dat (.tup (xs++ys))) else none) Q:=o;by_cases hz:xs.length+ys.length<=sizeLine
    ·rw[if_pos hz] at o;refine⟨_,_,rfl,.inr (.inr (.inl ⟨p,p',us,us',rfl,rfl,t1.jh,t2.jh,by rw[<-q1.len,<-q2.len];exact hz,λe=>?_,λe=>?_,λa ha=>o.tup zt (q1.app q2) ha⟩))⟩
     ·subst e;cases q1;exact o.here (.tup t2 q2)
     ·subst e;cases q2;rw[v7] at o;exact o.here (.tup t1 q1)
    ·rw[if_neg hz] at o;exact o.elim
  |_=>exact False.elim o
 |fl xs=>
  cases t with
  |nil=>exact False.elim o
  |cons b t=>
  cases b with
  |fl ys=>
   cases t with
   |cons _ _=>exact False.elim o
   |nil=>
    obtain⟨v,v',rfl,⟨p,us,rfl,t1,q1⟩,⟨p',us',rfl,t2,q2⟩⟩:=rs.two (ds:=[]);have o:bG K cA U H (if xs.length+ys.length<=sizeLine then some (.nw (xs++ys)) else none) Q:=o;by_cases hz:xs.length+ys.length<=sizeLine
    ·rw[if_pos hz] at o;exact⟨_,_,rfl,.inr (.inl ⟨p,p',us,us',rfl,rfl,t1,t2,by rw[<-q1.len,<-q2.len];exact hz,λa ha=>o a _ ha (q1.app q2)⟩)⟩
    ·rw[if_neg hz] at o;exact o.elim
  |_=>exact False.elim o
 |str x=>
  cases t with
  |nil=>exact False.elim o
  |cons b t=>
  cases b with
  |str y=>
   cases t with
   |cons _ _=>exact False.elim o
   |nil=>
    obtain⟨v,v',rfl,r1,r2⟩:=rs.two (ds:=[]);have o:bG K cA U H (if x.length+y.length<=sizeLine then some (.dat (.str (x++y))) else none) Q:=o;by_cases hz:x.length+y.length<=sizeLine
    ·rw[if_pos hz] at o;exact⟨_,_,rfl,.inr (.inr (.inr ⟨_,_,r1.str,r2.str,hz,o.here (.str _)⟩))⟩
    ·rw[if_neg hz] at o;exact o.elim
  |_=>exact False.elim o
 |_=>exact False.elim o
theorem zlT:bH K cA .len (λxs H Q=>∃p ys,xs=[.ref p]/\(cT K H p ys\/gw K H p ys)/\Q (.int ys.length) H):=by
 intro U H ds vs Q zt rs o;have o:bG K cA U H (rJ (λxs=>some (.dat (.int xs.length))) ds) Q:=o;unfold rJ at o;split at o
 ·obtain⟨v,rfl,r1⟩:=rs.one;obtain⟨z,e⟩:=o.some';obtain⟨xs,e1,e2⟩:=zA.mp e;obtain⟨a,us,rfl,sq,q⟩:=r1.sq e1;cases e2;refine⟨a,us,rfl,sq,?_⟩;rw[<-q.len];exact(o.of e).here (.int _)
 ·exact o.elim
theorem zj2:bH K cA .list (λxs H Q=>∃p ys,xs=[.ref p]/\(cT K H p ys\/gw K H p ys)/\∀l,H l=none->Q (.ref l) (upd H l (.lst ys))):=by
 intro U H ds vs Q zt rs o;have o:bG K cA U H (rJ (λxs=>some (.nw xs)) ds) Q:=o;unfold rJ at o;split at o
 ·obtain⟨v,rfl,r1⟩:=rs.one;obtain⟨z,e⟩:=o.some';obtain⟨xs,e1,e2⟩:=zA.mp e;obtain⟨a,us,rfl,sq,q⟩:=r1.sq e1;cases e2;exact⟨a,us,rfl,sq,λl hl=>(o.of e) l us hl q⟩
 ·exact o.elim
theorem zhU:bH K cA .tuple (λxs H Q=>∃p ys,xs=[.ref p]/\((cT K H p ys/\∀l,H l=none->Q (.ref l) (upd H l (.tup ys)))\/(gw K H p ys/\Q (.ref p) H))):=by
 intro U H ds vs Q zt rs o;have o:bG K cA U H (pQ ds) Q:=o;unfold pQ at o;split at o
 ·rename_i d _;obtain⟨v,rfl,r1⟩:=rs.one;cases d with
  |tup xs=>
   obtain⟨a,us,rfl,t,q⟩:=r1.tup;exact⟨a,us,rfl,.inr ⟨t.jh,bG.here o (.tup t q)⟩⟩
  |fl xs=>
   obtain⟨a,us,rfl,t,q⟩:=r1;exact⟨a,us,rfl,.inl ⟨t,λl hl=>bG.tup o zt q hl⟩⟩
  |_=>exact o.elim
 ·exact o.elim
theorem zk9:bH K cA .abs (λxs H Q=>∃i,xs=[.int i]/\Q (.int (if i<0 then -i else i)) H):=by
 intro U H ds vs Q zt rs o;have o:bG K cA U H (qL (λi=>.int (if i<0 then -i else i)) ds) Q:=o;cases ds with
 |nil=>exact False.elim o
 |cons a t=>
 cases a with
 |int i=>
  cases t with
  |cons _ _=>exact False.elim o
  |nil=>
   obtain⟨v,rfl,r1⟩:=rs.one;rw[r1.int];exact⟨_,rfl,bG.here o (.int _)⟩
 |_=>exact False.elim o
theorem zi2:bH K cA .wQ (λxs H Q=>(∃i,xs=[.int i]/\Q (.int i) H)\/∃k,xs=[.bl k]/\Q (.int (if k then 1 else 0)) H):=by
 intro U H ds vs Q zt rs o;have o:bG K cA U H (HY ds) Q:=o;cases ds with
 |nil=>exact False.elim o
 |cons a t=>
 cases a with
 |int i=>
  cases t with
  |cons _ _=>exact False.elim o
  |nil=>
   obtain⟨v,rfl,r1⟩:=rs.one;rw[r1.int];exact .inl ⟨_,rfl,bG.here o (.int _)⟩
 |bl k=>
  cases t with
  |cons _ _=>exact False.elim o
  |nil=>
   obtain⟨v,rfl,r1⟩:=rs.one;rw[r1.bl];exact .inr ⟨_,rfl,bG.here o (.int _)⟩
 |_=>exact False.elim o
theorem ziX:bH K cA .max2 (λxs H Q=>∃i j,xs=[.int i,.int j]/\Q (.int (if j>i then j else i)) H):=by
 intro U H ds vs Q zt rs o;obtain⟨x,y,e,i,j,rfl,rfl,q⟩:=DG (K:=K) (cA:=cA) (p:=.max2) (f:=λi j=>.int (if j>i then j else i)) rfl (λi j _ _=>.int _) U H ds vs Q zt rs o;exact⟨i,j,e,q⟩
theorem zkc:bH K cA .min2 (λxs H Q=>∃i j,xs=[.int i,.int j]/\Q (.int (if j<i then j else i)) H):=by
 intro U H ds vs Q zt rs o;obtain⟨x,y,e,i,j,rfl,rfl,q⟩:=DG (K:=K) (cA:=cA) (p:=.min2) (f:=λi j=>.int (if j<i then j else i)) rfl (λi j _ _=>.int _) U H ds vs Q zt rs o;exact⟨i,j,e,q⟩
theorem zgA:bH K cA .divmod (λxs H Q=>∃i j,xs=[.int i,.int j]/\wD i j/\∀p,H p=none->Q (.ref p) (upd H p (.tup [.int (i/j),.int (i%j)]))):=by
 intro U H ds vs Q zt rs o;have o:bG K cA U H (cY (λi j=>if 0<j/\j<1073741824 then some (.tup [.int (i/j),.int (i%j)]) else none) ds) Q:=o;obtain⟨z,e⟩:=o.some';obtain⟨i,j,d,rfl,e1,rfl⟩:=X6 e;obtain⟨c,rfl⟩:=Iu e1;obtain⟨v,v',rfl,r1,r2⟩:=rs.two (ds:=[]);rw[r1.int,r2.int];exact⟨i,j,rfl,c,λp hp=>(o.of e).tup zt (.cons (.int _) (.cons (.int _) .nil)) hp⟩
theorem X7:∀{xs:List D} {bs:List Bool} {vs:List V},dW xs=some bs->aC K cA U H xs vs->vs=bs.map V.bl
 |[],bs,vs,h,r=>by cases h;cases r;rfl
 |d::xs,bs,vs,h,r=>by
  cases d with
  |bl b=>
   simp only[dW,lV] at h;obtain⟨bs',h1,rfl⟩:=h;cases r with
   |cons q r=>cases q;rw[X7 h1 r];rfl
  |_=>simp[dW] at h
theorem zna:bH K cA .ix (r2 (Qf K)):=by
 intro U H ds vs Q zt rs o;have o:bG K cA U H (Q5 ds) Q:=o;unfold Q5 at o;split at o
 ·rename_i d i _;obtain⟨v,v',rfl,r1,r2⟩:=rs.two (ds:=[]);obtain⟨z,e⟩:=o.some';obtain⟨y,e1,e2⟩:=lV.mp e;obtain⟨xs,e3,e4⟩:=zA.mp e1;obtain⟨a,us,rfl,sq,q⟩:=r1.sq e3;have key:∃w,L2.qF us i=some w/\Rep K cA U H y w:=by
   unfold L2.qF at *;rw[<-q.len];obtain⟨j,h1,h2⟩:=zA.mp e4;obtain⟨w,h3,h4⟩:=q.get h2;exact⟨w,by rw[h1];exact h3,h4⟩
  obtain⟨w,hw,mK⟩:=key;subst e2;have q':=(o.of e).here mK;rcases sq with sq|sq
  ·exact⟨_,_,rfl,.inl ⟨a,us,i,w,rfl,r2.int,sq,hw,q'⟩⟩
  ·exact⟨_,_,rfl,.inr (.inl ⟨a,us,i,w,rfl,r2.int,sq,hw,q'⟩)⟩
 ·exact o.elim
noncomputable def X8(K:W.Frag):V->Option Int->Option Int->Hp->VK->Prop:=λx lo hi H Q=>Hs K x lo hi H Q\/yL K x lo hi H Q
theorem zk4:wJ X (X8 X.K):=wM.or zjj
theorem zjf{d:D}{lo hi:Option Int}{v:V}(zt:Zt U H)(r:Rv K cA U H d v)(o:bG K cA U H (cutD d lo hi) Q):X8 K v lo hi H Q:=by
 cases d with
 |tup xs=>
  obtain⟨a,us,rfl,t,q⟩:=r.tup;refine .inr ⟨a,us,rfl,t.jh,λe=>?_,λp hp=>bG.tup o zt q.cut hp⟩;have hc:cut xs lo hi=xs:=by
   unfold cut;rw[q.len,e.1,e.2,List.drop_zero,Nat.sub_zero,<-q.len,zM]
  have o:bG K cA U H (some (.dat (.tup (cut xs lo hi)))) Q:=o;rw[hc] at o;exact o.here (.tup t q)
 |fl xs=>
  obtain⟨a,us,rfl,t,q⟩:=r;exact .inl ⟨a,us,rfl,t,λp hp=>o p _ hp q.cut⟩
 |_=>exact o.elim
end
end Mi
namespace L2
open PySem PySem.Spec PyProof.Rows
section
variable {κ:Type}[DecidableEq κ]
end
section
variable {P:Program}{w:World}{H:Hp}{h:Heap}{a:Addr}
end
section
variable {X:Cx}{ao:List (Addr×Obj)}{Z:St}{H:Hp}{s:Shared}{a:Addr}{y v:V}{u r:Value}{o:Option V}{A:Around}{E:Value->Shared->Prop}
theorem Inv.big(I:Inv X ao Z H s):sysModules<s.heap.objs.size:=by
 have h:mainGlobals<s.heap.objs.size:=(I.mod.glob.keeps I.bk).lt;exact Nat.lt_trans (by decide) h
theorem zj9(I:Inv X ao Z H s)(mu:Gk (H a))(hs:Heap.SameBut a s.heap h')(he:∃q,h'.get? a=some q)(new:bM X.prog X.w (upd H a ob) h' a ob) :
  Inv X ao Z (upd H a ob) {s with heap:=h',toks:=t'}:=
 I.write (x:=a) (e:=a) mu (.inl rfl) (λb q hb z=>(hs.2 b hb).trans z) he new
end
section
variable {X:Cx}{ao:List (Addr×Obj)}{Z:St}{H:Hp}{s:Shared}{a:Addr}{kvs:List (Key×V)}{k:Key}{u:Value}{A:Around}{E:Value->Shared->Prop}
end
def Bv(i:Expr):Prop:=∀ov iv,subscripted i false ov iv=operate [ov,iv] (getItem ov iv)
theorem zje{prog:Program}{w:World}{A:Around}{E:Value->Shared->Prop}{s:Shared}{env:Env}{value slice:Expr}{pos:Pos}{T id:String}{Q:Value->Shared->Prop}
  (hl:typeLookup (.type T) "__getitem__"=pure (some (.builtin id))) (hs:Bv slice)
  (h:wpAny (model prog w) A (eval value env) (λo s₁=>wpAny (model prog w) A (eval slice env) (λi s₂=>s₂.TypeIs o T/\wpAny (model prog w) A (getItem o i) Q E s₂) E s₁) E s) :
  wpAny (model prog w) A (eval (.Subscript value slice pos) env) Q E s:=by
 refine Subscript_ (gH h (λo s₁ h₁=>gH h₁ (λi s₂ h₂=>?_) λ_ _ x=>x) λ_ _ x=>x);obtain⟨hT,h₂⟩:=h₂;unfold subscriptTail;refine aB ?_;rw[getitemInPython_of_ne hT.not_modules];refine aB (wpAny_specialOf hT hl ?_);have fin:wpAny (model prog w) A (subscripted slice false o i) (λr s₃=>wpAny (model prog w) A (letTemporaryGo value o r >>= λ_=>pure r) Q E s₃) E s₂:=by
  rw[hs o i];exact wpAny_operating (gH h₂ (λr s₃ h₃=>aB (wpAny_letTemporaryGo (aN h₃))) λ_ _ x=>x)
 first
  |exact aN (aB fin)
  |exact aB (aN (aB fin))
  |exact aB fin
section
variable {X:Cx}{o i e value:Expr}{pos pos' tpos:Pos}{td ty tv:TE}
end
section
variable {X:Cx}{pos:Pos}
end
section
variable {X:Cx}{ao:List (Addr×Obj)}{Z:St}{H:Hp}{s:Shared}{a:Addr}{y d:V}{u r:Value}{o:Option V}{A:Around}{E:Value->Shared->Prop}
end
section
variable {X:Cx}{o e f:Expr}{apos cpos:Pos}{td ty tx:TE}
end
section
variable {X:Cx}{ao:List (Addr×Obj)}{Z:St}{H:Hp}{s:Shared}{a:Addr}{kvs:List (Key×V)}{A:Around}{E:Value->Shared->Prop}
end
section
variable {X:Cx}{ao:List (Addr×Obj)}{Z:St}{H:Hp}{s:Shared}{a:Addr}{y:V}{u:Value}{A:Around}{E:Value->Shared->Prop}
end
end L2
namespace Mi
open PySem PySem.Spec PyProof.Rows L2
section
variable {X:Cx}{cA:Cl}{aq:Nat->Nat->Bool}{aj:Bool}{F:Fn}{EX:XS}{a b c d e o:Expr}{A B C Dd E' O:E}{pos pp p2 apos cpos:Pos}{es:List Expr}{Xs:Es}{fz:Bool}{p:Pr}{x:Str}{U:Ph}{H:Hp}{s:S}{lo hi:Option Expr}{Lo Hi:Eo}
def Iv(X:Cx)(cA:Cl)(aq:Nat->Nat->Bool)(aj:Bool)(F:Fn)(EX:XS)(oe:Option Expr)(m:Eo):Prop:=
 PO X oe (λZ H Q=>∃U J s,aW X.K cA U H Z J/\aD X.K cA U H s/\Run X.K cA (wV aq aj F m J) U H s (λi _ U' H'=>Q i H') (eX X.K cA EX Z))
theorem PO.weak{oe:Option Expr}{t t':TO}(h:PO X oe t)(f:∀Z H Q,t' Z H Q->t Z H Q):PO X oe t':=by
 intro ao s Z H Q I q;exact h ao s Z H Q I (f Z H Q q)
theorem znO:Iv X cA aq aj F EX none .no:=PO.weak ziS λZ H Q hh=>un hh λU J s hL hS h=>h.bL hS
theorem zkC(ha:SE X cA aq aj F EX a A):Iv X cA aq aj F EX (some a) (.yes A):=PO.weak (zjP ha) λZ H Q hh=>un hh λU J s hL hS h=>by
 refine aZ hL hS h λx H1 U1 d1 s1 x1 hL1 aJ r1 h1=>?_;obtain⟨i,_,e,h3⟩:=Bt r1 h1;exact⟨i,e,h3.bL aJ⟩
theorem Iw{β:Type}{Z:L2.St}{J:Vs}{m:Eo}{k:Option Int->M β}{P:β->S->Ph->Hp->Prop}(hL:aW X.K cA U H Z J)(hS:aD X.K cA U H s)(h:Run X.K cA (M.bd (wV aq aj F m J) k) U H s P (eX X.K cA EX Z)){Q:Option Int->Hp->Prop}
  (f:∀i H1 U1 s1,Ext U H U1 H1->aW X.K cA U1 H1 Z J->aD X.K cA U1 H1 s1->Run X.K cA (k i) U1 H1 s1 P (eX X.K cA EX Z)->Q i H1) :
  ∃U J s,aW X.K cA U H Z J/\aD X.K cA U H s/\Run X.K cA (wV aq aj F m J) U H s (λi _ U' H'=>Q i H') (eX X.K cA EX Z):=
 ⟨U,J,s,hL,hS,h.bd.imp λi s1 U1 H1 ⟨x1,r1,h1⟩=>f i H1 U1 s1 x1 (hL.mono x1 hS.lz) r1 h1⟩
theorem znD(ha:SE X cA aq aj F EX a A)(hl:Iv X cA aq aj F EX lo Lo)(hh:Iv X cA aq aj F EX hi Hi):SE X cA aq aj F EX (.Subscript a (.Slice lo hi none p2) pos) (.sl fz A Lo Hi):=PE.weak (zif zk4 ha hl hh) λZ H Q hh=>un hh λU J s hL hS h=>by
 refine aZ hL hS h λx H1 U1 d1 s1 x1 hL1 aJ r1 h1=>Iw hL1 aJ h1 λl H2 U2 s2 x2 hL2 aQ h2=>Iw hL2 aQ h2 λu H3 U3 s3 x3 oE gC h3=>?_;obtain⟨dd,rv,h4⟩:=Lp gC ((r1.mono x2 aJ.lz).mono x3 aQ.lz) h3;exact zjf gC.zs rv (sI gC h4)
theorem zl1(ha:SE X cA aq aj F EX a A):SE X cA aq aj F EX (.Subscript a (.Slice none none (some (.UnaryOp .USub (.Constant (.int 1) j p3) p4)) p2) pos) (.pr true .rev (.cons A .nil)):=PE.weak (zmB ha) λZ H Q hh=>un hh λU J s hL hS h=>by
 have h:Run X.K cA (M.bd (M.bd (ev aq aj F A J) λx=>M.bd (M.ret []) λz=>M.ret (x::z)) λvs=>M.bd (gK vs) λds=>cB true (prim .rev ds)) U H s _ _:=h;simp only[gB] at h;refine aZ hL hS h λx H1 U1 d1 s1 x1 hL1 aJ r1 h1=>?_;obtain⟨ds,rs,h3⟩:=uh aJ (.cons r1 .nil) h1;have o:bG X.K cA U1 H1 (Bl ds) Q:=sI aJ h3;unfold Bl at o;split at o
 ·obtain⟨v,e,r⟩:=rs.one;cases e;obtain⟨ad,us,e2,t,q⟩:=r.tup;subst e2;exact⟨ad,us,rfl,t.jh,λp hp=>bG.tup o aJ.zs q.rev hp⟩
 ·exact o.elim
theorem X_:∀bs:List Bool,(List.range bs.length).all (λi=>(bs[i]?).getD false)=bs.all id
 |[]=>rfl
 |b::r=>by
  rw[f9,N8,zQ,List.all_map,zQ];have:=X_ r;simp only[Function.comp_def,Cv,List.getElem?_cons_zero,Option.getD_some,id];rw[this]
theorem zfL(hc:X.aj=true):cO X (.builtin "all") (λxs H Q=>∃(p:Addr) (bs:List Bool),xs=[.ref p]/\cT X.K H p (bs.map V.bl)/\Q (.bl (bs.all id)) H):=by
 intro ao s Z H xs us Q I r ⟨p,bs,e,hp,q⟩;subst e;obtain⟨u,rfl,ru⟩:=Vals.one r;cases (show u=Value.ref p from ru);obtain⟨its,rv,pl,hz⟩:=I.list hp;have hl:s.heap.IsList p its.toArray:=pl.isList;have hpn:p≠s.heap.objs.size:=by
  obtain⟨o,hg,_⟩:=hl;exact dN (bZ hg)
 refine call_all_walk (Ke hl ?_);refine⟨_,_,_,_,_,_,λi=>(bs[i]?).getD false,rfl,Walks.list (A:=X.A.in1) (I.ok.hd hc) _ p hpn its.toArray,⟨⟨_,fL _ rfl,rfl,rfl⟩,hl.push _⟩,?_,λh' tk hk=>?_⟩
 ·intro i v s' Q' E' hP hQ;have hi:its[i]?=some v:=by simpa using hP
  have hb:∃b,bs[i]?=some b:=by
   have dF:i<its.length:=(eO.mp hi).1;have z:=rv.length;rw[cR] at z;exact⟨_,dO (by lia)⟩
  obtain⟨b,hb⟩:=hb;obtain⟨u,e1,e2⟩:=rv.get (i:=i) (x:=V.bl b) (by rw[iu,hb];rfl);rw[hi] at e1;cases e1;cases (show v=Value.bool b from e2);have hQ:Q' ((bs[i]?).getD false) s':=hQ;rw[hb] at hQ;exact u9 hQ
 ·have ez:(List.range its.toArray.size).all (λi=>(bs[i]?).getD false)=bs.all id:=by
   have z:=rv.length;rw[cR] at z;rw[fZ,<-z];exact X_ bs
  rw[ez];refine⟨.bl (bs.all id),H,I.kept (h':=h') (t':=tk) (old_kept hk),rfl,q⟩
theorem zmo{K:W.Frag}:bH K cA .all (λxs H Q=>∃(p:Addr) (bs:List Bool),xs=[.ref p]/\cT K H p (bs.map V.bl)/\Q (.bl (bs.all id)) H):=by
 intro U H ds vs Q zt rs o;have o:bG K cA U H (Bj ds) Q:=o;unfold Bj at o;split at o
 ·obtain⟨v,rfl,⟨ad,us,rfl,l,q⟩⟩:=rs.one;obtain⟨z,e⟩:=o.some';obtain⟨bs,e1,e2⟩:=lV.mp e;subst e2;exact⟨ad,bs,rfl,by rw[<-X7 e1 q];exact l,(o.of e).here (.bl _)⟩
 ·exact o.elim
noncomputable def Lw:Kd->String->Bool
 |.int,"int"=>true
 |.int,"bool"=>true
 |.bool,"bool"=>true
 |.str,"str"=>true
 |.tuple,"tuple"=>true
 |.list,"list"=>true
 |.dict,"dict"=>true
 |_,_=>false
noncomputable def uw:Kd->Option Value
 |.int=>some (.type "int")
 |.bool=>some (.type "bool")
 |.str=>some (.type "str")
 |.tuple=>some (.type "tuple")
 |.list=>some (.type "list")
 |.dict=>some (.type "dict")
 |_=>none
theorem zkK{K:W.Frag}{k:Kd}{cu:Value}(h:uw k=some cu){T:String}(hT:T∈["NoneType","bool","int","str","tuple","list","dict"]):PySem.W.kitOne K (.type T) cu=some (Lw k T):=by
 simp only[iU,List.mem_nil_iff,or_false] at hT;cases k<;>simp only[uw] at h<;>cases h<;>rcases hT with rfl|rfl|rfl|rfl|rfl|rfl|rfl<;>rfl
structure Iz(K:W.Frag)(cA:Cl)(aq:Nat->Nat->Bool):Prop where
 xc:∀c,XC K (cA.a c)
 aq:∀c e,PySem.W.kitOne K (.ref (cA.a c)) (.ref (cA.a e))=some (aq c e)
 rG:∀c,PySem.W.kitOne K (.ref (cA.a c)) (.type "ValueError")=some true
noncomputable def DK(cA:Cl):Kd->V
 |.cls e=>.ref (cA.a e)
 |.rG=>.ty "ValueError"
 |.int=>.ty "int"
 |.bool=>.ty "bool"
 |.str=>.ty "str"
 |.tuple=>.ty "tuple"
 |.list=>.ty "list"
 |.dict=>.ty "dict"
theorem zhN(Cs:uw k=none->Iz X.K cA aq) :
  cO X (.builtin "isinstance") (λxs H Q=>∃U d v bb,xs=[v,DK cA k]/\Rv X.K cA U H d v/\lJ aq d k=some bb/\Q (.bl bb) H):=by
 intro ao sh Z H xs us Q I r ⟨U,d,v,bb,e,rd,hi,q⟩;subst e;obtain⟨u,w,rfl,ru,Rq⟩:=Vals.two r;have ux:∀tk,EP X ao Z Q (.bool bb) {sh with toks:=tk}:=λtk=>⟨.bl bb,H,I.tok tk,rfl,q⟩;have bt:∀{T:String} {Hh:Heap->Prop},PySem.W.KitX X.K u (.type T) Hh->Hh sh.heap->T∈["NoneType","bool","int","str","tuple","list","dict"]->u≠Value.builtin "__main__.__loader__#opaque"->(∃cu,uw k=some cu/\w=cu/\Lw k T=bb)->wpAny (model X.prog X.w) X.A (PySem.call (.builtin "isinstance") [u,w]) (EP X ao Z Q) X.xe sh:=λ{T Hh} zzZ hh hT hx ⟨cu,h1,h2,h3⟩=>by
  subst h2 h3;exact PySem.W.kia_one zzZ I.nM hh (zkK h1 hT) hx ux
 have wv:∀cu,uw k=some cu->w=cu:=λcu h=>by
  cases k<;>simp only[uw] at h<;>cases h<;>exact Rq
 have fin:∀T,lJ aq d k=(match uw k with|some _=>some (Lw k T)|none=>none)->∃cu,uw k=some cu/\w=cu/\Lw k T=bb:=λT h=>by
  rw[hi] at h;cases z:uw k with
  |none=>rw[z] at h;cases h
  |some cu=>rw[z] at h;cases h;exact⟨cu,rfl,wv cu z,rfl⟩
 cases d with
 |non=>
  cases (show Rep X.K cA U H .non v from rd);cases (show u=Value.none from ru);exact bt PySem.W.kitx_none trivial (by simp) (λz=>nomatch z) (fin "NoneType" (by cases k<;>rfl))
 |bl b=>
  cases rd.bl;cases (show u=Value.bool b from ru);exact bt PySem.W.kitx_bool trivial (by simp) (λz=>nomatch z) (fin "bool" (by cases k<;>rfl))
 |int i=>
  cases rd.int;obtain⟨t,z⟩:=(show ∃t,u=Value.int i t from ru);cases z;exact bt PySem.W.kitx_int trivial (by simp) (λz=>nomatch z) (fin "int" (by cases k<;>rfl))
 |str y=>
  cases rd.str;obtain⟨t,z⟩:=(show ∃t,u=Value.str y t from ru);cases z;exact bt PySem.W.kitx_str trivial (by simp) (λz=>nomatch z) (fin "str" (by cases k<;>rfl))
 |tup xs=>
  obtain⟨ad,vs,rfl,h1,h2⟩:=rd.tup;cases (show u=Value.ref ad from ru);obtain⟨its,_,ht,_⟩:=I.tuple h1.jh;obtain⟨o,q1,q2,_⟩:=ht;exact bt PySem.W.kitx_tuple ⟨o,q1,q2⟩ (by simp) (λz=>nomatch z) (fin "tuple" (by cases k<;>rfl))
 |fl xs=>
  obtain⟨ad,vs,rfl,h1,h2⟩:=rd;cases (show u=Value.ref ad from ru);obtain⟨its,_,ht,_⟩:=I.list h1;obtain⟨o,q1,q2,_⟩:=ht.isList;exact bt PySem.W.kitx_list ⟨o,q1,q2⟩ (by simp) (λz=>nomatch z) (fin "list" (by cases k<;>rfl))
 |fd ks vs=>
  cases (show Rep X.K cA U H (.fd ks vs) v from rd) with
  |@fd ad kk ii q1 n=>
   cases (show u=Value.ref ad from ru);obtain⟨_,_,vs,_,o,es',ep,g1,g2,_⟩:=(show bM X.prog X.w H sh.heap ad (.dK [(.inr kk,.int ii)]) from I.hok ad _ q1);exact bt PySem.W.kitx_dict ⟨o,g1,g2.1⟩ (by simp) (λz=>nomatch z) (fin "dict" (by cases k<;>rfl))
 |ob c fs=>cases k<;>cases hi
 |any=>cases k<;>cases hi
 |exc c fs=>
  cases (show Rep X.K cA U H (.exc c fs) v from rd) with
  |@exc ad _ _ vs hx rs=>
   cases (show u=Value.ref ad from ru);have hI:∃ox od,PySem.W.InstAt sh.heap ad ox (cA.a c) od:=by
    obtain⟨_,⟨_,_,hx⟩|⟨dx,hx,_,hd,_⟩⟩:=hx
    ·obtain⟨⟨oe,vs,g1,g2,g3,g4⟩,_⟩:=(show bM X.prog X.w H sh.heap ad (wO ad (cA.a c) none) from I.hok ad _ hx);exact⟨oe,none,g1,g2,by unfold PySem.W.notCls;rw[g4],by rw[g3];trivial⟩
    ·obtain⟨⟨oe,vs,g1,g2,g3,g4⟩,_⟩:=(show bM X.prog X.w H sh.heap ad (wO ad (cA.a c) (some dx)) from I.hok ad _ hx);obtain⟨mA,⟨od,es,ep,e1,c1⟩,_⟩:=(show bM X.prog X.w H sh.heap dx (.xd _) from I.hok dx _ hd);exact⟨oe,some od,g1,g2,by unfold PySem.W.notCls;rw[g4],by rw[g3];exact e1⟩
   cases k with
   |cls e=>
    cases (show w=Value.ref (cA.a e) from Rq);have z:some (aq c e)=some bb:=hi;cases z;exact PySem.W.kia_one (Xb ((Cs rfl).xc c)) I.nM hI ((Cs rfl).aq c e) (λz=>nomatch z) ux
   |rG=>
    cases (show w=Value.type "ValueError" from Rq);have z:some true=some bb:=hi;cases z;exact PySem.W.kia_one (Xb ((Cs rfl).xc c)) I.nM hI ((Cs rfl).rG c) (λz=>nomatch z) ux
   |_=>cases hi
theorem zmL(Cs:uw k=none->Iz X.K cA aq)(hg:Gl X "isinstance")(hm:X.mg "isinstance"=none)(ha:SE X cA aq aj F EX a A)(hk:PE X kx (tC (DK cA k)))(h1:starEach [a,kx] X.env=(false,eval a X.env)::starEach [kx] X.env:=by rfl)(h2:starEach [kx] X.env=(false,eval kx X.env)::starEach [] X.env:=by rfl)
  (hpl:(backTo pos (starEach [kx] X.env)).any (·.1)=false:=by rfl):SE X cA aq aj F EX (.Call (.Name "isinstance" pp) [a,kx] [] pos) (.qK A k):=PE.weak (WW (zhN (cA:=cA) (k:=k) Cs) hg hm PyProof.Rows.boot_isinstance (vD ha (vD hk Al h2) h1) (by decide) (by decide) h1 hpl) λZ H Q hh=>un hh λU J s hL hS h=>
 aZ hL hS h λv H1 U1 d s1 x1 hL1 aJ r1 h1=>by
  show ∃U d' v' bb,[v,DK cA k]=[v',DK cA k]/\_;obtain⟨dd,rv,h2⟩:=Lp aJ r1 h1;obtain⟨bb,e,h3⟩:=Bs h2;exact⟨U1,dd,v,bb,rfl,rv,e,h3.bL aJ _ (.d (.bl bb))⟩
end
theorem Yb(n:Nat):∀is js:List Int,cX (cN n) (is.map .int) (js.map .int)=some (decide (is=js))
 |[],[]=>rfl
 |[],_::_=>rfl
 |_::_,[]=>rfl
 |i::is,j::js=>by
  have e:cN n (.int i) (.int j)=some (i==j):=by cases n<;>rfl
  simp only[gG,cX,Yb n is js,e]
  congr 1
  by_cases h:i=j
  ·subst h;by_cases h2:is=js<;>simp[h2]
  ·simp[h]
theorem zml{a b:Kx}:cN 2 (rM a) (rM b)=some (decide (a=b)):=by
 cases a with
 |non=>cases b<;>rfl
 |int i=>cases b with
  |int j=>
   show some (i==j)=_;by_cases h:i=j
   ·subst h;simp
   ·have hn:¬Kx.int i=Kx.int j:=λz=>h (by cases z;rfl);simp[h,hn]
  |_=>rfl
 |row is=>cases b with
  |row js=>
   show cX (cN 1) (is.map .int) (js.map .int)=_;rw[Yb];by_cases h:is=js
   ·subst h;simp
   ·have hn:¬Kx.row is=Kx.row js:=λz=>h (by cases z;rfl);simp[h,hn]
  |_=>rfl
theorem Yc{x y:List Kx}:cN 3 (i_ x) (i_ y)=some (decide (x=y)):=by
 show cX (cN 2) (x.map rM) (y.map rM)=_
 induction x generalizing y with
 |nil=>cases y<;>rfl
 |cons a x ih=>cases y with
  |nil=>rfl
  |cons b y=>
   simp only[gG,cX,ih,zml]
   congr 1
   by_cases h:a=b
   ·subst h;by_cases h2:x=y<;>simp[h2]
   ·simp[h]
theorem Yd:∀{xs:List D} {is:List Int},cF xs=some is->xs=is.map .int
 |[],is,h=>by cases h;rfl
 |x::r,is,h=>by
  cases x with
  |int i=>
   simp only[cF,lV] at h;obtain⟨js,h1,rfl⟩:=h;rw[Yd h1];rfl
  |_=>cases h
theorem zkf{d:D}{k:Kx}(h:ud d=some k):d=rM k:=by
 cases d with
 |non=>cases h;rfl
 |int i=>cases h;rfl
 |tup xs=>
  simp only[ud,lV] at h;obtain⟨js,h1,rfl⟩:=h;rw[Yd h1];rfl
 |_=>cases h
theorem Ye:∀{xs:List D} {k:List Kx},Br xs=some k->xs=k.map rM
 |[],k,h=>by cases h;rfl
 |x::r,k,h=>by
  unfold Br at h;cases e1:ud x with
  |none=>simp only[e1] at h;cases h
  |some a=>cases e2:Br r with
   |none=>simp only[e1,e2] at h;cases h
   |some b=>
    simp only[e1,e2] at h;cases h;rw[zkf e1,Ye e2];rfl
theorem zlt{d:D}{k:List Kx}(h:kOf d=some k):d=i_ k:=by
 cases d with
 |tup xs=>show D.tup xs=.tup _;rw[Ye h]
 |_=>cases h
noncomputable def Yg:Kx->Nat
 |.row is=>is.length+1
 |_=>1
noncomputable def uy:List Kx->Nat
 |[]=>0
 |x::r=>Yg x+uy r
section
variable {prog:Program}{w:World}{A:Around}{E:Value->Shared->Prop}{s:Shared}{h h':Heap}
theorem Yh:∀{is:List Int} {us:List Value},jB h (is.map .int) us->ItemsAre (intKind prog w) is us
 |[],us,r=>by cases r;exact .nil
 |i::is,us,r=>by
  cases r with
  |cons a r=>cases a with
   |int i t=>exact .cons (by simp[intKind,Value.isInt]) (Yh r)
   |oth k=>cases k
theorem uz{is:List Int}{a:Value}(x:Is h (.tup (is.map .int)) a):∃b,a=.ref b/\IsTupleKey (intKind prog w) h is b:=by
 cases x with
 |tup p r=>
  obtain⟨o,e,c,n,d⟩:=p;exact⟨_,rfl,o,_,n,e,c,d,by simpa using Yh r⟩
 |oth k=>cases k
theorem zkb{x:Kx}{u:Value}{Q:Int->Shared->Prop}(hu:A.units<cLine)(hx:Is s.heap (rM x) u)(q:Q (Rb x) {s with toks:=s.toks+Yg x}):wpAny (model prog w) A (pyHash u) Q E s:=by
 cases x with
 |non=>
  cases hx with
  |non=>exact PySem.W.pyHash_slot (T:="NoneType") rfl F.slot_NoneType_hash F.entry_NoneType_hash (F.args_NoneType_hash_1 _) (beq_builtin_none _) (.inr hu) (aB (aN (aB (wpAny_mkInt (aN ⟨_,_,rfl,q⟩)))))
  |oth k=>cases k
 |int i=>
  cases hx with
  |int i t=>exact wpAny_pyHash_int q
  |oth k=>cases k
 |row is=>
  obtain⟨b,rfl,k⟩:=uz (prog:=prog) (w:=w) hx;exact wpAny_pyHash_tuple hu k q
theorem Yi{k:List Kx}:∀{r:List Kx} {us:List Value} {b:Array Int} {s:Shared} {Q:Array Int->Shared->Prop},A.units<cLine->jB s.heap (r.map rM) us->(∀b':Array Int,b'.toList=b.toList++r.map Rb->Q b' {s with toks:=s.toks+uy r})->
  wpAny (model prog w) A (forIn us b λx r=>do let h <-pyHash x;pure PUnit.unit;pure (ForInStep.yield (r.push h))) Q E s
 |[],us,b,s,Q,hu,x,q=>by cases x;exact aN (q b (by simp))
 |a::r,us,b,s,Q,hu,x,q=>by
  cases x with
  |cons x1 x2=>
   rw[CW];refine aB (aB (zkb hu x1 (aB (aN (aN ?_)))));refine Yi (k:=k) hu x2 λb' e=>?_;have:=q b' (by simp[e]);simpa [uy,Nat.add_assoc] using this
theorem zhl{k:List Kx}{a:Addr}{Q:Int->Shared->Prop}(hu:A.units+1<cLine)(hk:Is s.heap (i_ k) (.ref a))(q:Q (qN k) {s with toks:=s.toks+(uy k+1)}):wpAny (model prog w) A (pyHash (.ref a)) Q E s:=by
 cases hk with
 |oth k=>cases k
 |tup p r=>
  obtain⟨o,e,c,n,d⟩:=p;refine PySem.W.pyHash_slot (T:="tuple") ⟨_,e,c⟩ F.slot_tuple_hash F.entry_tuple_hash (F.args_tuple_hash_1 _) (beq_builtin_none _) (.inr (by lia)) ?_;show wpAny _ _ (Builtin.Tuple.tupleItemsOf (.ref a) >>= _) _ _ s;refine aB (wpAny_tupleItemsOf e d (aB ?_));rw[<-Og];refine Yi (A:=A.in1) (k:=k) (show A.units+1<cLine from hu) (by simpa using r) λb hb=>?_;show wpAny _ _ (retInt (Builtin.Tuple.tupleHashOf b.toList)) _ _ _;rw[hb];exact aB (wpAny_mkInt (aN ⟨_,_,rfl,by simpa [Nat.add_assoc,qN] using q⟩))
theorem zhm(ht:∀a xs,h.IsTuple a xs->h'.IsTuple a xs)(hl:∀a xs,h.IsList a xs->h'.IsList a xs){d:D}{u:Value}(x:Is h d u):Is h' d u:=
 Is.rec (motive_1:=λd u _=>Is h' d u) (motive_2:=λd u _=>jB h' d u) .non .bl .int .str (λp _ r=>.tup (ht _ _ p) r) (λp _ r=>.fl (hl _ _ p) r) (λk=>.oth k) .nil (λ_ _ a r=>.cons a r) x
theorem zhD:∀{n:Nat} {x:Kx} {u:Value} {Q:Bool->Shared->Prop},Is s.heap (rM x) u->Q true s->wpAny (model prog w) A (eqIsQuiet (n+1) u) Q E s:=by
 intro n x u Q hx q;cases x with
 |non=>
  cases hx with
  |non=>rw[eqIsQuiet_byValue _ rfl];exact aN q
  |oth k=>cases k
 |int i=>
  cases hx with
  |int i t=>rw[eqIsQuiet_byValue _ rfl];exact aN q
  |oth k=>cases k
 |row is=>
  obtain⟨b,rfl,k⟩:=uz (prog:=prog) (w:=w) hx;have ty:=k.typeIs;obtain⟨o,items,m,ho,_,hd,hi⟩:=k;unfold eqIsQuiet;refine aB (wpAny_specialOf ty F.slot_tuple_eq.lookup ?_);show wpAny _ A (isInstance (.ref b) (.type "tuple") >>= _) Q E s;refine aB (Km ty isSubtype_tuple_tuple ?_);simp only[Bool.not_true,u6,qw];refine aB (rz ho hd (aB ?_));show wpAny _ A (forIn items _ _) _ E s;rw[<-Og];refine wpAny_forIn_list _ (λl r t=>r.1=none/\t=s/\∀v∈l,carriedByValue v=true) _ (λv l r t z=>?_) (λr t z=>?_) _ _ ⟨rfl,rfl,hi.byValue⟩
  ·obtain⟨_,rfl,pL⟩:=z;rw[eqIsQuiet_byValue _ (pL v lC)];exact aB (aN (aN ⟨rfl,rfl,λy hy=>pL y (h_ _ hy)⟩))
  ·obtain⟨r1,r2⟩:=r;obtain⟨z1,rfl,_⟩:=z;cases z1;exact aN q
theorem zgP{k:List Kx}{a:Addr}{Q:Bool->Shared->Prop}(hk:Is s.heap (i_ k) (.ref a))(q:Q true s):wpAny (model prog w) A (eqIsQuiet 8 (.ref a)) Q E s:=by
 cases hk with
 |oth k=>cases k
 |@tup _ _ its p r=>
  obtain⟨o,ho,c,n,hd⟩:=p;unfold eqIsQuiet;refine aB (wpAny_specialOf ⟨_,ho,c⟩ F.slot_tuple_eq.lookup ?_);show wpAny _ A (isInstance (.ref a) (.type "tuple") >>= _) Q E s;refine aB (Km ⟨_,ho,c⟩ isSubtype_tuple_tuple ?_);simp only[Bool.not_true,u6,qw];refine aB (rz ho hd (aB ?_));show wpAny _ A (forIn its.toArray _ _) _ E s;rw[<-Og];refine wpAny_forIn_list _ (λl r t=>r.1=none/\t=s/\∀v∈l,∃x,Is s.heap (rM x) v) _ (λv l r t z=>?_) (λr t z=>?_) _ _ ⟨rfl,rfl,?_⟩
  ·obtain⟨_,rfl,pL⟩:=z;obtain⟨x,hx⟩:=pL v lC;exact aB (zhD (n:=6) hx (aN ⟨rfl,rfl,λy hy=>pL y (h_ _ hy)⟩))
  ·obtain⟨r1,r2⟩:=r;obtain⟨z1,rfl,_⟩:=z;cases z1;exact aN q
  ·intro v hv;have:∀{ks:List Kx} {us:List Value},jB s.heap (ks.map rM) us->∀v∈us,∃x,Is s.heap (rM x) v:=λ{ks}=>by
    induction ks with
    |nil=>intro us r v hv;cases r;cases hv
    |cons y ks ih=>
     intro us r v hv;cases r with
     |cons a r=>
      rcases iU.mp hv with rfl|hv
      ·exact⟨y,a⟩
      ·exact ih r v hv
   exact this r v (by simpa using hv)
end
noncomputable def jH(prog:Program)(w:World):HeapKind prog w (List Kx) where
 is:=λh k a=>Is h (i_ k) (.ref a)
 hash:=qN
 draws:=λk=>uy k+1
 room:=λA=>A.units+4<cLine
 inj:=λx y=>gF (Rm 3 x y Yc)
 keeps:=λ{h h' k a d o es ep} x ho hd hs=>zhm (λb xs ⟨q,e,c,n,z⟩=>⟨q,(hs.2 b λy=>by subst y;rw[ho] at e;cases e;rw[hd] at z;cases z).trans e,c,n,z⟩) (λb xs ⟨q,e,c,n,z⟩=>⟨q,(hs.2 b λy=>by subst y;rw[ho] at e;cases e;rw[hd] at z;cases z).trans e,c,n,z⟩) x
 pyHash:=λhu hk q=>zhl (by lia) hk q
 eqBool:=λ{A E s x y a b Q} hu hx hy q=>Io 3 (show A.units+3<cLine by lia) hx hy Yc _ _ _ _ q
 quiet:=λhk q=>zgP hk q
section
variable {K:W.Frag}{cA:Cl}{U U':Ph}{H H':Hp}{s:S}
theorem TupAt.jV(e:∀a,U'.z a->U.z a){a:Addr}{vs:List V}(h:TupAt K U H a vs):TupAt K U' H a vs:=h.imp (λ⟨p,n⟩=>⟨p,λz=>n (e a z)⟩) id
theorem LstAt.jV(e:∀a,U'.z a->U.z a){a:Addr}{vs:List V}(h:LstAt K U H a vs):LstAt K U' H a vs:=h.imp (λ⟨p,n⟩=>⟨p,λz=>n (e a z)⟩) id
theorem ExcAt.jV(e:∀a,U'.z a->U.z a){a:Addr}{c:Nat}{vs:List V}(h:ExcAt cA U H a c vs):ExcAt cA U' H a c vs:=
 ⟨λz=>h.1 (e a z),h.2.imp id λ⟨dx,p,n,q,l⟩=>⟨dx,p,λz=>n (e dx z),q,l⟩⟩
theorem pX.jV(e:∀a,U'.z a->U.z a){a:Addr}{c:Nat}{vs:List V}(h:pX cA U H a c vs):pX cA U' H a c vs:=⟨λz=>h.1 (e a z),h.2⟩
theorem Rep.jV(e:∀a,U'.z a->U.z a){d:D}{v:V}(h:Rep K cA U H d v):Rep K cA U' H d v:=
 Rep.rec (motive_1:=λd v _=>Rep K cA U' H d v) (motive_2:=λd v _=>aC K cA U' H d v) .non .bl .int .str (λh _ i=>.tup (h.jV e) i) (λh _ i=>.fl (h.jV e) i) (λh n=>.fd h (λz=>n (e _ z))) (λh _ i=>.exc (h.jV e) i) (λh _ i=>.ob (h.jV e) i) .any .nil (λ_ _ i j=>.cons i j) h
theorem aC.jV(e:∀a,U'.z a->U.z a){d:List D}{v:List V}(h:aC K cA U H d v):aC K cA U' H d v:=
 aC.rec (motive_1:=λd v _=>Rep K cA U' H d v) (motive_2:=λd v _=>aC K cA U' H d v) .non .bl .int .str (λh _ i=>.tup (h.jV e) i) (λh _ i=>.fl (h.jV e) i) (λh n=>.fd h (λz=>n (e _ z))) (λh _ i=>.exc (h.jV e) i) (λh _ i=>.ob (h.jV e) i) .any .nil (λ_ _ i j=>.cons i j) h
theorem kh.jV(e:∀a,U'.z a->U.z a){a:Addr}{o:SO}(h:kh K cA U H a o):kh K cA U' H a o:=h.map (λ_ q=>q) λ_ _ r=>r.jV e
theorem Rep.zl{d:D}{v:V}(h:Rep K cA U H d v)(l:List Addr):Rep K cA ⟨U.z,l⟩ H d v:=Rep.jV (U:=U) (U':=⟨U.z,l⟩) (λ_ z=>z) h
theorem aC.zl{d:List D}{v:List V}(h:aC K cA U H d v)(l:List Addr):aC K cA ⟨U.z,l⟩ H d v:=aC.jV (U:=U) (U':=⟨U.z,l⟩) (λ_ z=>z) h
theorem kh.zl{a:Addr}{o:SO}(h:kh K cA U H a o)(l:List Addr):kh K cA ⟨U.z,l⟩ H a o:=kh.jV (U:=U) (U':=⟨U.z,l⟩) (λ_ z=>z) h
noncomputable def adr(l:List Addr):List Nat->List Addr
 |[]=>[]
 |n::r=>match l[n]? with
  |some a=>a::adr l r
  |none=>adr l r
theorem DN{l:List Addr}:∀{ns:List Nat} {a:Addr},a∈adr l ns->∃n∈ns,l[n]?=some a
 |[],a,h=>by cases h
 |n::r,a,h=>by
  unfold adr at h;cases e:l[n]? with
  |none=>
   simp only[e] at h;obtain⟨m,h1,h2⟩:=DN h;exact⟨m,h_ _ h1,h2⟩
  |some b=>
   simp only[e] at h;rcases iU.mp h with rfl|h
   ·exact⟨n,lC,e⟩
   ·obtain⟨m,h1,h2⟩:=DN h;exact⟨m,h_ _ h1,h2⟩
theorem Yj{s:S}:∀{ns:List Nat} {s0:S} {i n:Nat},jA s ns=some s0->ns[i]?=some n->s0[i]?=s[n]?/\∃o,s[n]?=some o
 |[],s0,i,n,h,e=>by simp at e
 |m::r,s0,i,n,h,e=>by
  unfold jA at h;cases e1:s[m]? with
  |none=>simp only[e1] at h;cases h
  |some o=>
   cases e2:jA s r with
   |none=>simp only[e1,e2] at h;cases h
   |some q=>
    simp only[e1,e2] at h;cases h;cases i with
    |zero=>simp at e;subst e;exact⟨by simp[e1],o,e1⟩
    |succ i=>simpa using Yj e2 (by simpa using e)
theorem Yk{s:S}:∀{ns:List Nat} {s0:S},jA s ns=some s0->s0.length=ns.length
 |[],s0,h=>by cases h;rfl
 |m::r,s0,h=>by
  unfold jA at h;cases e1:s[m]? with
  |none=>simp only[e1] at h;cases h
  |some o=>
   cases e2:jA s r with
   |none=>simp only[e1,e2] at h;cases h
   |some q=>
    simp only[e1,e2] at h;cases h;rw[f9,f9,Yk e2]
theorem IK{l:List Addr}:∀{ns:List Nat} {i n:Nat},(∀n∈ns,∃a,l[n]?=some a)->ns[i]?=some n->(adr l ns)[i]?=l[n]?
 |[],i,n,_,e=>by simp at e
 |m::r,i,n,h,e=>by
  obtain⟨a,ha⟩:=h m lC;unfold adr;simp only[ha];cases i with
  |zero=>simp at e;subst e;simp[ha]
  |succ i=>simpa using IK (λn hn=>h n (h_ _ hn)) (by simpa using e)
theorem IV{l:List Addr}:∀{ns:List Nat},(∀n∈ns,∃a,l[n]?=some a)->(adr l ns).length=ns.length
 |[],_=>rfl
 |m::r,h=>by
  obtain⟨a,ha⟩:=h m lC;unfold adr;simp only[ha];rw[f9,f9,IV (λn hn=>h n (h_ _ hn))]
theorem Yl{l:List Addr}(hl:l.Nodup):∀{ns:List Nat},ns.Nodup->(∀n∈ns,∃a,l[n]?=some a)->(adr l ns).Nodup
 |[],_,_=>CZ
 |m::r,hn,h=>by
  obtain⟨a,ha⟩:=h m lC;unfold adr;simp only[ha];obtain⟨h1,h2⟩:=v8.mp hn;refine v8.mpr ⟨λz=>?_,Yl hl h2 (λn hn=>h n (h_ _ hn))⟩;obtain⟨n,q1,q2⟩:=DN z;have:m=n:=(Oi (eO.mp ha).1 hl).mp (ha.trans q2.symm);exact h1 (this▸q1)
theorem DP{s:S}:∀{ns:List Nat} {s1:S},(cZ s ns s1).length=s.length
 |[],s1=>by cases s1<;>rfl
 |n::r,[]=>rfl
 |n::r,o::q=>by
  show (cZ (s.set n o) r q).length=_;rw[DP,pA]
theorem Rr{s:S}:∀{ns:List Nat} {s1:S} {m:Nat},m∉ns->(cZ s ns s1)[m]?=s[m]?
 |[],s1,m,_=>by cases s1<;>rfl
 |n::r,[],m,_=>rfl
 |n::r,o::q,m,h=>by
  show (cZ (s.set n o) r q)[m]?=_;rw[Rr (λz=>h (h_ _ z)),qp (λz=>h (by rw[z];exact lC))]
theorem Ym{s:S}:∀{ns:List Nat} {s1:S} {i m:Nat} {o:SO},ns.Nodup->ns[i]?=some m->s1[i]?=some o->m<s.length->(cZ s ns s1)[m]?=some o
 |[],s1,i,m,o,_,e,_,_=>by simp at e
 |n::r,[],i,m,o,_,_,e,_=>by simp at e
 |n::r,q::qs,i,m,o,hn,e1,e2,hm=>by
  show (cZ (s.set n q) r qs)[m]?=_;obtain⟨h1,h2⟩:=v8.mp hn;cases i with
  |zero=>
   simp at e1 e2;subst e1 e2;rw[Rr h1,yc hm]
  |succ i=>exact Ym h2 (by simpa using e1) (by simpa using e2) (by rw[pA];exact hm)
theorem zgG:∀{xs:List Xv} {vs:List V} (l0:List Addr) (z:Addr->Prop) (k:Nat),aP K cA U H xs vs->U.z=z->(∀i n,(locs xs)[i]?=some n->l0[k+i]?=U.l[n]?)->aP K cA ⟨z,l0⟩ H (dB k xs) vs
 :=by
 intro xs vs l0 z k r0
 induction r0 generalizing k with
 |nil=>exact λ_ _=>.nil
 |@cons x v xs vs a q ih=>
  intro ez h;cases a with
  |d a=>exact .cons (.d (a.jV λb hb=>by rw[ez];exact hb)) (ih k ez h)
  |@l n a' a=>
   refine .cons (.l ?_) (ih (k+1) ez λi m e=>?_)
   ·have:=h 0 n rfl;rw[Nat.add_zero] at this;show l0[k]?=_;rw[this];exact a
   ·have:=h (i+1) m (by simpa [locs] using e);rw[<-this]
    congr 1
    lia
theorem ze6:∀{xs:List Xv} {vs:List V},aP K cA U H xs vs->∀n∈locs xs,∃a,U.l[n]?=some a
 :=by
 intro xs vs r0
 induction r0 with
 |nil=>exact λn h=>by cases h
 |cons a q ih=>
  intro n h;cases a with
  |d a=>exact ih n h
  |l a=>
   rcases iU.mp h with rfl|h
   ·exact⟨_,a⟩
   ·exact ih n h
theorem Yn{xs:List Xv}{U1:Ph}{s0 s1:S}(hS:aD K cA U H s)(hn:(locs xs).Nodup)(ht:∀n∈locs xs,∃a,U.l[n]?=some a)(x:Ext ⟨U.z,adr U.l (locs xs)⟩ H U1 H')(r1:aD K cA U1 H' s1) :
  Ext U H ⟨U1.z,U.l⟩ H'/\aD K cA ⟨U1.z,U.l⟩ H' (cZ s (locs xs) s1):=by
 have aq:∀a∈adr U.l (locs xs),a∈U.l:=λa ha=>by obtain⟨n,_,q⟩:=DN ha;exact fX q
 obtain⟨r,er,hr⟩:=x.more;have er:U1.l=adr U.l (locs xs)++r:=er;refine⟨⟨⟨[],by simp,by simp⟩,λa h=>x.rN a h,λa h=>x.lu a h,λa o h n=>x.frame a o h λz=>n (aq a z),x.stay⟩,?_⟩;refine⟨by rw[DP];exact hS.len,λn o a e1 e2=>?_,hS.uniq,λa ha=>x.rN a (hS.lz a ha),r1.zt⟩;have e2:U.l[n]?=some a:=e2;by_cases cV:n∈locs xs
 ·obtain⟨i,hi,ei⟩:=vY cV;have ei:(locs xs)[i]?=some n:=by rw[dO hi,ei]
  have ha:(adr U.l (locs xs))[i]?=some a:=by rw[IK ht ei];exact e2
  have Yo:U1.l[i]?=some a:=by rw[er,oX (eO.mp ha).1];exact ha
  have dF:i<s1.length:=by rw[<-r1.len];exact(eO.mp Yo).1
  have hb:=Ym (s:=s) (s1:=s1) hn ei (dO dF) (by rw[<-hS.len];exact(eO.mp e2).1);rw[hb] at e1;cases e1;exact kh.zl (r1.obj i _ a (dO dF) Yo) _
 ·rw[Rr cV] at e1;have Rt:a∉adr U.l (locs xs):=λz=>by
   obtain⟨m,q1,q2⟩:=DN z;have:n=m:=(Oi (eO.mp e2).1 hS.uniq).mp (e2.trans q2.symm);exact cV (this▸q1)
  exact(hS.obj n o a e1 e2).map (λ_ q=>x.frame a _ q Rt) λ_ _ r=>Rep.zl ((Rep.zl r _).mono x λa ha=>hS.lz a (aq a ha)) _
theorem Yp{F:List Xv->M Xv}{xs:List Xv}{vs:List V}{Q:VK}{EE:Nat->List D->Ph->Hp->Prop}(hS:aD K cA U H s)(r:aP K cA U H xs vs)
  (hE:∀c fs U1 U2 H',U1.z=U2.z->EE c fs U1 H'->EE c fs U2 H')
  (h:Run K cA (cI F xs) U H s (λx _ U' H'=>∀v,aV K cA U' H' x v->Q v H') (λc fs _ U' H'=>EE c fs U' H')) :
  ∃U0 s0,aP K cA U0 H (dB 0 xs) vs/\aD K cA U0 H s0/\Run K cA (F (dB 0 xs)) U0 H s0 (λx _ U' H'=>∀v,aV K cA U' H' x v->Q v H') (λc fs _ U' H'=>EE c fs U' H'):=by
 unfold Run cI at h;by_cases hn:(locs xs).Nodup
 ·simp only[if_pos hn] at h;have ht:=ze6 r;have aq:∀a∈adr U.l (locs xs),a∈U.l:=λa ha=>by obtain⟨n,_,q⟩:=DN ha;exact fX q
  cases e0:jA s (locs xs) with
  |none=>simp only[e0] at h
  |some s0=>
   simp only[e0] at h;refine⟨⟨U.z,adr U.l (locs xs)⟩,s0,zgG _ _ 0 r rfl (λi n e=>by rw[Nat.zero_add];exact IK ht e),?_,?_⟩
   ·refine⟨by rw[Yk e0];exact IV ht,λi o a e1 e2=>?_,Yl hS.uniq hn ht,λa ha=>hS.lz a (aq a ha),hS.zt⟩;have e2:(adr U.l (locs xs))[i]?=some a:=e2;have hi:i<(locs xs).length:=by rw[<-IV ht];exact(eO.mp e2).1
    have ei:(locs xs)[i]?=some ((locs xs)[i]):=dO hi;rw[IK ht ei] at e2;rw[(Yj e0 ei).1] at e1;exact kh.zl (hS.obj _ o a e1 e2) _
   ·unfold Run;cases e1:F (dB 0 xs) s0 with
    |none=>simp only[e1] at h
    |some q=>
     obtain⟨q,s1⟩:=q;simp only[e1] at h;cases q with
     |er c fs=>
      intro U1 H' x r1;obtain⟨x2,r2⟩:=Yn (s0:=s0) hS hn ht x r1;exact hE c fs ⟨U1.z,U.l⟩ U1 H' rfl (h ⟨U1.z,U.l⟩ H' x2 r2)
     |ok y=>
      intro U1 H' x r1 v rv;obtain⟨x2,r2⟩:=Yn (s0:=s0) hS hn ht x r1;cases y with
      |d w=>
       cases rv with
       |d rv=>exact h ⟨U1.z,U.l⟩ H' x2 r2 v (.d (Rep.zl rv _))
      |l n=>
       cases rv with
       |@l _ a hl=>
        obtain⟨rr,er,hr⟩:=x.more;have er:U1.l=adr U.l (locs xs)++rr:=er;cases em:(locs xs)[n]? with
        |some m=>
         simp only[em] at h;refine h _ H' x2 r2 _ (.l ?_);show U.l[m]?=some a;have ha:(adr U.l (locs xs))[n]?=U.l[m]?:=IK ht em;have dF:n<(adr U.l (locs xs)).length:=by rw[IV ht];exact(eO.mp em).1
         rw[er,oX dF] at hl;rw[<-ha];exact hl
        |none=>
         simp only[em] at h;have IW:(adr U.l (locs xs)).length<=n:=by rw[IV ht];exact qm.mp em
         have Le:a∈rr:=by
          rw[er,o8 IW] at hl;exact fX hl
         have Rt:a∉U.l:=λz=>by
          obtain⟨o,eo⟩:=hS.zt a (hS.lz a z);rw[hr a Le] at eo;cases eo
         cases eo:s1[n]? with
         |none=>simp only[eo] at h
         |some o=>
          simp only[eo] at h;have ho:=r1.obj n o a eo hl;refine h ⟨U1.z,U.l++[a]⟩ H' ⟨⟨[a],rfl,by simpa using hr a Le⟩,x2.rN,x2.lu,x2.frame,x2.stay⟩ ?_ _ (.l (by show (U.l++[a])[s.length]?=_;rw[<-hS.len];simp));refine⟨by show (U.l++[a]).length=_;rw[lD,lD,DP,hS.len];rfl,λm o' a' e1 e2=>?_,?_,λb hb=>?_,r1.zt⟩
          ·have e2:(U.l++[a])[m]?=some a':=e2;by_cases hm:m<s.length
           ·rw[oX (by rw[DP];exact hm)] at e1;rw[oX (by rw[hS.len];exact hm)] at e2;exact kh.zl (r2.obj m o' a' e1 e2) _
           ·have vL:m=s.length:=by
             have z:=(eO.mp e2).1;rw[lD,hS.len] at z;simp at z
             lia
            subst vL;rw[o8 (by rw[DP];exact b_ _)] at e1;rw[o8 (by rw[hS.len];exact b_ _)] at e2;simp[DP] at e1;simp[hS.len] at e2;subst e1 e2;exact kh.zl ho _
          ·show (U.l++[a]).Nodup;rw[Kg];refine⟨hS.uniq,by simp,λb hb c hc e=>?_⟩;simp at hc;subst hc e;exact Rt hb
          ·have hb:b∈U.l++[a]:=hb;rcases oY.mp hb with z|z
           ·exact x2.rN b (hS.lz b z)
           ·simp at z;subst z;exact r1.lz _ (fX hl)
 ·simp only[if_neg hn] at h
end
section
variable {X:Cx}{cA:Cl}{aq:Nat->Nat->Bool}{aj:Bool}{F:Fn}{EX:XS}{a b c d e o:Expr}{A B C Dd E' O:E}{pos pp p2 apos cpos:Pos}{es:List Expr}{Xs:Es}{fz:Bool}{p:Pr}{x:Str}{U:Ph}{H:Hp}{s:S}
theorem Ru{K:W.Frag}{β:Type}{x:Xv}{v:V}{k:Nat×List D->M β}{P:β->S->Ph->Hp->Prop}{Ee:Nat->List D->S->Ph->Hp->Prop}(hS:aD K cA U H s)(r:aV K cA U H x v)(h:Run K cA (M.bd (cP x) k) U H s P Ee) :
  ∃n ad xs vs,x=.l n/\v=.ref ad/\s[n]?=some (.lst xs)/\U.l[n]?=some ad/\H ad=some (.lst vs)/\aC K cA U H xs vs/\Run K cA (k (n,xs)) U H s P Ee:=by
 cases r with
 |d _=>exact h.elim
 |@l n ad hl=>
  unfold Run M.bd cP at h;dsimp only at h;cases e:s[n]? with
  |none=>rw[e] at h;exact h.elim
  |some o=>
   rw[e] at h;cases o with
   |lst xs=>
    obtain⟨vs,q1,q2⟩:=hS.obj n _ _ e hl;exact⟨n,ad,xs,vs,rfl,rfl,e,hl,q1,q2,h⟩
   |_=>exact h.elim
theorem zjn(ho:SE X cA aq aj F EX o O)(ha:SE X cA aq aj F EX a A)
  (nU:attributeBase o "append" X.env (eval o X.env)=eval o X.env:=by rfl)
  (Av:((backTo cpos (starEach [a] X.env)).all (λx=>!x.1)&&(backToKw cpos (keywordEach [] X.env)).all (λx=>x.1.isSome)
  &&decide ([a].length+([]:List Keyword).length+(if ([]:List Keyword).isEmpty then 0 else 1)<30))=true:=by rfl)
  (nW:(apos.endLine==cpos.line)=true:=by rfl) (hs:starEach [a] X.env=(false,eval a X.env)::starEach [] X.env:=by rfl) (pK:(backTo cpos (starEach [] X.env)).any (·.1)=false:=by rfl) :
  SE X cA aq aj F EX (.Call (.Attribute o "append" apos) [a] [] cpos) (.push O A):=PE.weak (znJ PySem.F.plainAttrs_list PySem.F.slot_list_append PySem.F.type_list_append Qj ho (vD ha Al hs) nU Av nW hs pK) λZ H Q hh=>un hh λU J s hL hS h=>by
 refine aZ hL hS h λx H1 U1 d1 s1 x1 hL1 aJ r1 h1=>?_;obtain⟨n,ad,xs,vs,rfl,rfl,e1,f1,g1,q1,h2⟩:=Ru aJ r1 h1;refine⟨.inl ⟨rfl,vs,cT.of g1⟩,aZ hL1 aJ h2 λy H2 U2 d2 s2 x2 hL2 aQ r2 h3=>?_⟩;obtain⟨dd,_,rd,h4⟩:=Ln r2 h3;obtain⟨n',ad',ys,us,en,ea,e2,f2,g2,q2,h5⟩:=Ru aQ (r1.mono x2 aJ.lz) h4;cases en;cases ea;by_cases hz:ys.length<sizeLine
 ·have h5:Run X.K cA (M.bd (putL n (ys++[dd])) λ_=>M.ret (Xv.d .non)) U2 H2 s2 (λd _ U' H'=>∀v,aV X.K cA U' H' d v->Q v H') (eX X.K cA EX Z):=by
   have h6:Run X.K cA (if ys.length<sizeLine then M.bd (putL n (ys++[dd])) λ_=>M.ret (Xv.d .non) else M.no) U2 H2 s2 (λd _ U' H'=>∀v,aV X.K cA U' H' d v->Q v H') (eX X.K cA EX Z):=h5;rw[if_pos hz] at h6;exact h6
  refine⟨ad,us,y,rfl,rfl,g2,by rw[<-q2.len];exact hz,?_⟩;exact h5 U2 _ (Ext.write f2 ⟨_,g2⟩) (aQ.write e2 f2 (q2.app (.cons rd .nil))) _ (.d .non)
 ·have h6:Run X.K cA (if ys.length<sizeLine then M.bd (putL n (ys++[dd])) λ_=>M.ret (Xv.d .non) else M.no) U2 H2 s2 (λd _ U' H'=>∀v,aV X.K cA U' H' d v->Q v H') (eX X.K cA EX Z):=h5;rw[if_neg hz] at h6;exact h6.elim
noncomputable def lN(K:W.Frag)(cA:Cl)(m:List Xv->M Xv):Sp:=λvs H Q E=>∃U xs s,aP K cA U H xs vs/\aD K cA U H s/\Run K cA (m xs) U H s (λd _ U' H'=>∀v,aV K cA U' H' d v->Q v H') (λc fs _ U' H'=>∀dx,jU K cA U' H' c fs dx->E (.ref (cA.a c)) dx H')
theorem zjM{K:W.Frag}{U1 U2:Ph}{c:Nat}{fs:List D}{dx:Option Addr}(e:U1.z=U2.z)(h:jU K cA U2 H c fs dx):jU K cA U1 H c fs dx:=h.imp id λ⟨d,vs,a,b,c,l,r⟩=>⟨d,vs,a,by rw[e];exact b,c,l,r.jV λ_ z=>by rw[<-e];exact z⟩
theorem ziV{cm:Bool}{k f:Nat}{fa:Addr}{fd:FuncData}{ps:List Str}(Fo:cD X.prog X.w X.K X.mg X.base (gJ X.prog X.w) cm k fa fd ps (lN X.K cA (F f)))(ju:cm=true->X.aj=true)(hr:bF k X.A)(hg:Gl X x)(hm:X.mg x=some (.ref fa))(hk:PySem.W.keepIn X.K (.ref fa)=true)(hb:Binds X.K fd ps [])(R:Raises X EX)
  (ha:SA X cA aq aj F EX (e::es) Xs) (rC:(x==("__debug__" : Str))=false:=by decide) (he:starEach (e::es) X.env=(false,eval e X.env)::starEach es X.env:=by rfl) (hpl:(backTo pos (starEach es X.env)).any (·.1)=false:=by rfl) :
  SE X cA aq aj F EX (.Call (.Name x pp) (e::es) [] pos) (.call f Xs):=PE.weak (zhn Fo ju hr hg hm hk hb R ha rC he hpl) λZ H Q hh=>un hh λU J s hL hS h=>
 pZ hL hS h λvs H1 U1 ds s1 x1 hL1 aJ r1 h1=>by
  obtain⟨U0,s0,a1,a2,a3⟩:=Yp (EE:=λc fs U' H'=>∀dx,jU X.K cA U' H' c fs dx->EX Z (.ref (cA.a c)) dx H') aJ r1 (λc fs U1 U2 H' ez z dx q=>z dx (zjM ez q)) h1;exact⟨U0,_,s0,a1,a2,a3⟩
end
section
variable {K:W.Frag}{cA:Cl}{U U':Ph}{H H':Hp}{s:S}
def cH(U:Ph)(H H':Hp):Prop:=∀a o,H a=some o->¬U.z a->H' a=some o
mutual
theorem Rep.out(x:cH U H H'):∀{d:D} {v:V},Rep K cA U H d v->Rep K cA U H' d v
 |_,_,.non=>.non
 |_,_,.bl b=>.bl b
 |_,_,.int i=>.int i
 |_,_,.str z=>.str z
 |_,_,.tup h r=>.tup (h.imp (λ⟨p,n⟩=>⟨p.imp (λq=>x _ _ q n) λ⟨o,q⟩=>⟨o,x _ _ q n⟩,n⟩) id) (aC.out x r)
 |_,_,.fl h r=>.fl (h.imp (λ⟨p,n⟩=>⟨p.imp (λq=>x _ _ q n) λ⟨o,q⟩=>⟨o,x _ _ q n⟩,n⟩) id) (aC.out x r)
 |_,_,.fd h n=>.fd (x _ _ h n) n
 |_,_,.exc h r=>.exc ⟨h.1,h.2.imp (λ⟨a,b,q⟩=>⟨a,b,x _ _ q h.1⟩) λ⟨dx,p,n,q,l⟩=>⟨dx,x _ _ p h.1,n,x _ _ q n,l⟩⟩ (aC.out x r)
 |_,_,.any v=>.any v
 |_,_,.ob h r=>.ob ⟨h.1,let ⟨dx,p,l⟩:=h.2;⟨dx,x _ _ p h.1,l⟩⟩ (aC.out x r)
theorem aC.out(x:cH U H H'):∀{ds:List D} {vs:List V},aC K cA U H ds vs->aC K cA U H' ds vs
 |_,_,.nil=>.nil
 |_,_,.cons h r=>.cons (Rep.out x h) (aC.out x r)
end
theorem aV.out(x:cH U H H'){d:Xv}{v:V}(h:aV K cA U H d v):aV K cA U H' d v:=by
 cases h with
 |d h=>exact .d (h.out x)
 |l h=>exact .l h
theorem aW.out(x:cH U H H')(h:aW K cA U H Z J):aW K cA U H' Z J:=⟨h.1,λi d e=>let ⟨v,a,b⟩:=h.2 i d e;⟨v,a,b.out x⟩⟩
theorem cH.refl:cH U H H:=λa o e _=>e
structure jC(K:W.Frag)(cA:Cl)(c:Src)(U:Ph)(H:Hp)(bJ:L2.It):Prop where
 stop:∀U' H₁ H' s' i,Ext U H U' H₁->cH U' H₁ H'->aD K cA U' H' s'->c.at i s'=some none->bJ.stop i H'
 go:∀U' H₁ H' s' i x,Ext U H U' H₁->cH U' H₁ H'->aD K cA U' H' s'->c.at i s'=some (some x)->bJ.go i H'
 tH:∀U' H₁ H' s' i x v H2,Ext U H U' H₁->cH U' H₁ H'->aD K cA U' H' s'->c.at i s'=some (some x)->bJ.tH i H' v H2->bB H' H2/\Rep K cA U' H2 x v
theorem LstAt.later(hz:∀a∈U.l,U.z a)(h:LstAt K U H a vs)(x:Ext U H U' H₁)(o:cH U' H₁ H'):LstAt K U' H' a vs:=
 (h.mono x hz).imp (λ⟨p,n⟩=>⟨p.imp (λq=>o _ _ q n) λ⟨w,q⟩=>⟨w,o _ _ q n⟩,n⟩) id
theorem TupAt.later(hz:∀a∈U.l,U.z a)(h:TupAt K U H a vs)(x:Ext U H U' H₁)(o:cH U' H₁ H'):TupAt K U' H' a vs:=
 (h.mono x hz).imp (λ⟨p,n⟩=>⟨p.imp (λq=>o _ _ q n) λ⟨w,q⟩=>⟨w,o _ _ q n⟩,n⟩) id
theorem jC.list(hz:∀a∈U.l,U.z a)(h:LstAt K U H a vs)(r:aC K cA U H xs vs):jC K cA (.fix xs) U H (KQ K a):=by
 refine⟨λU' H₁ H' s' i x o hS e=>⟨vs,(h.later hz x o).sH,?_⟩,λU' H₁ H' s' i d x o hS e=>?_,λU' H₁ H' s' i d v H2 x o hS e y=>?_⟩
 ·have e:xs[i]?=none:=cL e;exact qm.mp ((r.mono x hz).none e)
 ·have e:xs[i]?=some d:=cL e;obtain⟨v,q,_⟩:=r.get e;exact⟨vs,v,(h.later hz x o).sH,q⟩
 ·have e:xs[i]?=some d:=cL e;obtain⟨rfl,y⟩:=y;obtain⟨w,q,mK⟩:=((r.mono x hz).out o).get e;have:=y vs (h.later hz x o).sH;rw[q] at this;cases this;exact⟨bB.refl,mK⟩
theorem jC.tuple(hz:∀a∈U.l,U.z a)(h:TupAt K U H a vs)(r:aC K cA U H xs vs):jC K cA (.fix xs) U H (Pk K a):=by
 refine⟨λU' H₁ H' s' i x o hS e=>⟨vs,(h.later hz x o).jh,?_⟩,λU' H₁ H' s' i d x o hS e=>?_,λU' H₁ H' s' i d v H2 x o hS e y=>?_⟩
 ·have e:xs[i]?=none:=cL e;exact qm.mp ((r.mono x hz).none e)
 ·have e:xs[i]?=some d:=cL e;obtain⟨v,q,_⟩:=r.get e;exact⟨vs,v,(h.later hz x o).jh,q⟩
 ·have e:xs[i]?=some d:=cL e;obtain⟨rfl,y⟩:=y;obtain⟨w,q,mK⟩:=((r.mono x hz).out o).get e;have:=y vs (h.later hz x o).jh;rw[q] at this;cases this;exact⟨bB.refl,mK⟩
theorem Rw(h:(Src.live n).at i s=some o):∃xs,s[n]?=some (.lst xs)/\xs[i]?=o:=by
 unfold Src.at at h;dsimp only at h;cases e:s[n]? with
 |none=>rw[e] at h;cases h
 |some ob=>
  rw[e] at h;cases ob with
  |lst xs=>exact⟨xs,rfl,cL h⟩
  |_=>cases h
theorem jC.live(h:U.l[n]?=some a):jC K cA (.live n) U H (KQ K a):=by
 refine⟨λU' H₁ H' s' i x o hS e=>?_,λU' H₁ H' s' i d x o hS e=>?_,λU' H₁ H' s' i d v H2 x o hS e y=>?_⟩
 ·obtain⟨xs,e1,e2⟩:=Rw e;obtain⟨vs,q1,q2⟩:=hS.obj n _ a e1 (x.get h);exact⟨vs,cT.of q1,qm.mp (q2.none e2)⟩
 ·obtain⟨xs,e1,e2⟩:=Rw e;obtain⟨vs,q1,q2⟩:=hS.obj n _ a e1 (x.get h);obtain⟨v,q3,_⟩:=q2.get e2;exact⟨vs,v,cT.of q1,q3⟩
 ·obtain⟨xs,e1,e2⟩:=Rw e;obtain⟨vs,q1,q2⟩:=hS.obj n _ a e1 (x.get h);obtain⟨w,q3,mK⟩:=q2.get e2;obtain⟨rfl,y⟩:=y;have:=y vs (cT.of q1);rw[q3] at this;cases this;exact⟨bB.refl,mK⟩
theorem Rx:(jz a b)[i]?=if i<(b-a).toNat then some (.int (a+i)) else none:=by
 unfold jz;rw[iu,List.getElem?_range']
where
 List.getElem?_range' {n i:Nat}:Option.map (λ(i:Nat)=>D.int (a+i)) (List.range n)[i]?=if i<n then some (.int (a+i)) else none:=by
  by_cases h:i<n
  ·rw[if_pos h,Cz h];rfl
  ·rw[if_neg h,List.getElem?_eq_none (by simp;lia)];rfl
theorem jC.range{a b:Int}:jC K cA (.fix (jz a b)) U H (GD a (b-a).toNat):=by
 refine⟨λU' H₁ H' s' i x o hS e=>?_,λU' H₁ H' s' i d x o hS e=>?_,λU' H₁ H' s' i d v H2 x o hS e y=>?_⟩
 ·have e:(jz a b)[i]?=none:=cL e;rw[Rx] at e;split at e
  ·cases e
  ·exact Kl (by assumption)
 ·have e:(jz a b)[i]?=some d:=cL e;rw[Rx] at e;split at e
  ·assumption
  ·cases e
 ·have e:(jz a b)[i]?=some d:=cL e;rw[Rx] at e;split at e
  ·cases e;obtain⟨rfl,rfl⟩:=y;exact⟨bB.refl,.int _⟩
  ·cases e
end
noncomputable def Ry(K:W.Frag)(te:TE):TI:=λZ H R=>te Z H λv H1=>∃a,v=.ref a/\(((∃xs,cT K H1 a xs)/\R (KQ K a) H1)\/((∃xs,gw K H1 a xs)/\R (Pk K a) H1))
theorem zkZ(he:PE X l te):PI X tg l (Ry X.K te):=by
 intro ao s Z H R I h;refine aU (he ao s Z H _ I h) λv s1 hx=>Om hx λx H1 I1 r1 a e q=>?_;subst e;cases r1;rcases q with ⟨⟨xs,hq⟩,q⟩|⟨⟨xs,hq⟩,q⟩
 ·obtain⟨its,rv,p,hz⟩:=I1.list hq;refine Ke p.isList ?_;refine⟨s1.heap.objs.size,[s1.heap.objs.size],_,_,H1,rfl,I1.kept (t':=s1.toks) λb o e=>cM _ e,zgN a _,⟨_,fL _ rfl,rfl,rfl⟩,λb hb=>?_,q⟩;have e:b=s1.heap.objs.size:=by simpa using hb
  subst e;exact I1.tK (b_ _) (I1.hok.fresh (b_ _))
 ·obtain⟨its,rv,p,hz⟩:=I1.tuple hq;refine wpAny_pyIter_tuple (show s1.heap.IsTuple a its.toArray from p) ?_;refine⟨s1.heap.objs.size,[s1.heap.objs.size],_,_,H1,rfl,I1.kept (t':=s1.toks) λb o e=>cM _ e,ze8 a _,⟨_,fL _ rfl,rfl,rfl⟩,λb hb=>?_,q⟩;have e:b=s1.heap.objs.size:=by simpa using hb
  subst e;exact I1.tK (b_ _) (I1.hok.fresh (b_ _))
section
variable {X:Cx}{cA:Cl}{aq:Nat->Nat->Bool}{aj:Bool}{F:Fn}{EX:XS}{a b tg:Expr}{A B:E}{pos pp:Pos}
noncomputable def tI(K:W.Frag)(cA:Cl)(EX:XS)(m:Vs->M (Src×Nat)):TI:=λZ H R=>∃U J s,aW K cA U H Z J/\aD K cA U H s/\Run K cA (m J) U H s (λcn _ U1 H1=>∀bJ,jC K cA cn.1 U1 H1 bJ->R bJ H1) (eX K cA EX Z)
def SI(X:Cx)(cA:Cl)(aq:Nat->Nat->Bool)(aj:Bool)(F:Fn)(EX:XS)(tg iter:Expr)(w:Wk):Prop:=PI X tg iter (tI X.K cA EX (g8 aq aj F w))
theorem PI.weak{iter:Expr}{t t':TI}(h:PI X tg iter t)(f:∀Z H Q,t' Z H Q->t Z H Q):PI X tg iter t':=λao s Z H Q I q=>h ao s Z H Q I (f Z H Q q)
theorem zln(ha:SE X cA aq aj F EX a A):SI X cA aq aj F EX tg a (.seq A):=PI.weak (zkZ ha) λZ H R hh=>un hh λU J s hL hS h=>by
 refine aZ hL hS h λv H1 U1 d s1 x1 hL1 aJ r1 h1=>?_;cases r1 with
 |@l n ad hl=>
  unfold Run src at h1;dsimp only at h1;cases e:s1[n]? with
  |none=>rw[e] at h1;exact h1.elim
  |some o=>
   rw[e] at h1;cases o with
   |lst xs=>
    obtain⟨vs,q1,q2⟩:=aJ.obj n _ _ e hl;exact⟨ad,rfl,.inl ⟨⟨vs,cT.of q1⟩,h1 U1 H1 Ext.refl aJ _ (jC.live hl)⟩⟩
   |_=>exact h1.elim
 |d r1=>
  cases r1 with
  |tup q r=>exact⟨_,rfl,.inr ⟨⟨_,q.jh⟩,h1 U1 H1 Ext.refl aJ _ (jC.tuple aJ.lz q r)⟩⟩
  |fl q r=>exact⟨_,rfl,.inl ⟨⟨_,q.sH⟩,h1 U1 H1 Ext.refl aJ _ (jC.list aJ.lz q r)⟩⟩
  |_=>exact h1.elim
theorem Yq{i:Int}(h:fQ i=true) : -(2^62)<=i/\i<2^62:=by
 unfold fQ at h;rw[gQ,Fx,Fx] at h;exact⟨by lia,h.2⟩
theorem Yr{K:W.Frag}{U:Ph}{H:Hp}{s:S}{i j:Int}{P:Src×Nat->S->Ph->Hp->Prop}{Ee:Nat->List D->S->Ph->Hp->Prop}(hS:aD K cA U H s)(h:Run K cA (if (fQ i&&fQ j)=true then M.ret (Src.fix (jz i j),(jz i j).length) else M.no) U H s P Ee):(-(2^62)<=i/\i<2^62/\-(2^62)<=j/\j<2^62)/\P (.fix (jz i j),(jz i j).length) s U H:=by
 by_cases hk:(fQ i&&fQ j)=true
 ·rw[if_pos hk] at h;rw[gQ] at hk;obtain⟨a,b⟩:=Yq hk.1;obtain⟨c,d⟩:=Yq hk.2;exact⟨⟨a,b,c,d⟩,h.bL hS⟩
 ·rw[if_neg hk] at h;exact h.elim
theorem zm5(oF:Gl X "range")(hmg:X.mg "range"=none)(ha:SE X cA aq aj F EX a A)(hb:SE X cA aq aj F EX b B)(h1:starEach [a,b] X.env=(false,eval a X.env)::starEach [b] X.env)(h2:starEach [b] X.env=(false,eval b X.env)::starEach [] X.env) :
  SI X cA aq aj F EX tg (.Call (.Name "range" pp) [a,b] [] pos) (.rg A B):=PI.weak (zgM oF hmg (vD ha (vD hb Al h2) h1) (by rw[h1,h2];rfl) (by rw[h2];rfl)) λZ H R hh=>un hh λU J s hL hS h=>by
 refine aZ hL hS h λx H1 U1 d1 s1 x1 hL1 aJ r1 h1=>aZ hL1 aJ h1 λy H2 U2 d2 s2 x2 hL2 aQ r2 h2=>?_;obtain⟨i,_,e1,h3⟩:=Bt (r1.mono x2 aJ.lz) h2;obtain⟨j,_,e2,h4⟩:=Bt r2 h3;obtain⟨hz,q⟩:=Yr aQ h4;subst e1 e2;exact⟨i,j,rfl,hz,q _ jC.range⟩
theorem zlG(oF:Gl X "range")(hmg:X.mg "range"=none)(hb:SE X cA aq aj F EX b B)(h2:starEach [b] X.env=(false,eval b X.env)::starEach [] X.env) :
  SI X cA aq aj F EX tg (.Call (.Name "range" pp) [b] [] pos) (.rg (.c (.int 0)) B):=PI.weak (zgd oF hmg (vD hb Al h2) (by rw[h2];rfl)) λZ H R hh=>un hh λU J s hL hS h=>by
 have h:Run X.K cA (M.bd (ev aq aj F B J) λy=>M.bd (int (.d (.int 0))) λi=>M.bd (int y) λj=>if (fQ i&&fQ j)=true then M.ret (Src.fix (jz i j),(jz i j).length) else M.no) U H s _ _:=h;refine aZ hL hS h λy H2 U2 d2 s2 x2 hL2 aQ r2 h2=>?_;obtain⟨j,_,e2,h4⟩:=Bt r2 (show Run X.K cA (M.bd (int d2) λj=>if (fQ 0&&fQ j)=true then M.ret (Src.fix (jz 0 j),(jz 0 j).length) else M.no) U2 H2 s2 _ _ from h2);obtain⟨hz,q⟩:=Yr aQ h4;subst e2;refine⟨j,rfl,hz.2.2.1,hz.2.2.2,q _ ?_⟩;have:=jC.range (K:=X.K) (cA:=cA) (U:=U2) (H:=H2) (a:=0) (b:=j);rw[Int.sub_zero] at this;exact this
end
section
variable {K:W.Frag}{cA:Cl}{U U' U0:Ph}{H H' H0:Hp}{s:S}
theorem Run.bd0(x:Ext U0 H0 U H)(h:Run K cA (M.bd m k) U0 H0 s P Ee) :
  Run K cA m U H s (λa s1 U1 H1=>Ext U H U1 H1/\aD K cA U1 H1 s1/\Run K cA (k a) U0 H0 s1 P Ee) Ee:=by
 unfold Run M.bd at *;cases e:m s with
 |none=>rw[e] at h;exact h
 |some r=>
  obtain⟨r,s1⟩:=r;rw[e] at h;cases r with
  |er c f=>exact λU1 H1 x1 r1=>h U1 H1 (x.trans x1) r1
  |ok a=>exact λU1 H1 x1 r1=>⟨x1,r1,h⟩
theorem I8{α β:Type}{m:M α}{k:α->M β}{P:β->S->Ph->Hp->Prop}{Ee Ee':Nat->List D->S->Ph->Hp->Prop}(x:Ext U0 H0 U H)(h:Run K cA (M.bd (M.qt m) k) U0 H0 s P Ee) :
  Run K cA m U H s (λa s1 U1 H1=>Ext U H U1 H1/\aD K cA U1 H1 s1/\Run K cA (k a) U0 H0 s1 P Ee) Ee':=by
 have h2:=h.bd0 x;unfold Run at h2 ⊢;unfold M.qt at h2;cases e:m s with
 |none=>rw[e] at h2;exact h2
 |some r=>
  obtain⟨r,s1⟩:=r;rw[e] at h2;cases r with
  |ok a=>exact h2
  |er c f=>exact h2.elim
theorem RB{α β:Type}{m m':M α}{k:α->M β}{P:β->S->Ph->Hp->Prop}{Ee:Nat->List D->S->Ph->Hp->Prop}(e:m s=m' s)(h:Run K cA (M.bd m k) U H s P Ee):Run K cA (M.bd m' k) U H s P Ee:=by
 unfold Run M.bd at *;rw[<-e];exact h
end
section
variable {X:Cx}{cA:Cl}{aq:Nat->Nat->Bool}{aj:Bool}{F:Fn}{EX:XS}{elt iter tg:Expr}{A B:E}{pos p:Pos}{ifs:List Expr}{scope:Scope}{N:List Str}{cond:Eo}{fr aL:List Nat}{many:Nat}{fz:Bool}{w:Wk}
def Bw(X:Cx)(cA:Cl)(aq:Nat->Nat->Bool)(aj:Bool)(F:Fn)(EX:XS)(ifs:List Expr)(m:Eo):Prop:=Ds X ifs (pY X.K cA EX (mX aq aj F m))
theorem zkz:Bw X cA aq aj F EX [] .no:=λao s Z H Q I ⟨U,J,st,hL,hS,h⟩=>ziY ao s Z H Q I (h.bL hS)
theorem ziN(h:ST X cA aq aj F EX c C):Bw X cA aq aj F EX [c] (.yes C):=zi6 h
structure dH(K:W.Frag)(cA:Cl)(g:TG)(aL:List Nat):Prop where
 run:∀(U:Ph) (H:Hp) (s:S) (Z:L2.St) (J J':Vs) (d:D) (v:V) (Q:L2.St->Hp->Prop),aW K cA U H Z J->aD K cA U H s->Rep K cA U H d v->c7 aL d J=some J'->
  (∀Z',aW K cA U H Z' J'->Z'.length=Z.length->(∀i,i∉aL->Z'[i]?=Z[i]?)->Q Z' H)->g v Z H Q
theorem kj{K:W.Frag}(i:Nat):dH K cA (dz i) [i] where
 run:=λU H s Z J J' d v Q hL hS r e k=>by
  cases e;exact k _ (hL.set (.d r)) (pA ..) λj hj=>qp (by simpa using λz=>hj (by simp[z]))
theorem DQ{K:W.Frag}(i j:Nat):dH K cA (tG K 2 (iw (dz i) (iw (dz j) tD))) [i,j] where
 run:=λU H s Z J J' d v Q hL hS r e k=>by
  have e:(jR d).bind (λds=>fU [i,j] (ds.map Xv.d) J)=some J':=e;obtain⟨ds,e1,e2⟩:=zA.mp e;cases r with
  |@tup ad xs vs h1 h2=>
   have e1:xs=ds:=cL e1;subst e1;cases h2 with
   |nil=>cases e2
   |cons r1 t1=>
    cases t1 with
    |nil=>cases e2
    |cons r2 t2=>
     cases t2 with
     |nil=>
      have e2:=cL e2;subst e2;refine⟨ad,_,rfl,h1.jh,rfl,_,_,rfl,_,_,rfl,rfl,k _ ((hL.set (.d r1)).set (.d r2)) (by rw[pA,pA]) λm hm=>?_⟩;rw[qp (λz=>hm (by simp[z])),qp (λz=>hm (by simp[z]))]
     |cons r3 t3=>cases e2
  |_=>cases e1
noncomputable def bx(many:Nat)(fr:List Nat)(Z:L2.St):L2.St:=List.replicate many none++fr.map λj=>(Z[j]?).join
theorem Ys{U:Ph}{H:Hp}{Z:L2.St}{J:Vs}(hL:aW X.K cA U H Z J){Z':L2.St}(hl:Z'.length=many+fr.length)(hf:∀(i:Nat) j v,fr[i]?=some j->Z[j]?=some (some v)->Z'[many+i]?=some (some v)):aW X.K cA U H Z' (blk many fr J):=by
 refine⟨by unfold blk;simp[hl],λi d e=>?_⟩;unfold blk at e;by_cases hi:i<many
 ·rw[oX (by simpa using hi),zy,if_pos hi] at e;cases e
 ·rw[o8 (by simpa using Kl hi),Fj,iu] at e;cases z:fr[i-many]? with
  |none=>rw[z] at e;cases e
  |some j=>
   rw[z] at e;have e3:J[j]?.join=some d:=by simpa using e
   obtain⟨v,q1,q2⟩:=hL.2 j d (Lq e3);refine⟨v,?_,q2⟩;have:=hf (i-many) j v z q1;rw[show many+(i-many)=i by omega] at this;exact this
structure eZ(U:Ph)(H:Hp)(Dd:Addr)(o:HO):Prop where
 at_:H Dd=some o
 nl:Dd∉U.l
 z:U.z Dd
abbrev Keep(U:Ph)(H:Hp)(Dd:Addr)(vs:List V):Prop:=eZ U H Dd (.lst vs)
theorem eZ.mono{U U':Ph}{H H':Hp}{Dd:Addr}{o:HO}(x:Ext U H U' H')(k:eZ U H Dd o):eZ U' H' Dd o:=by
 refine⟨x.frame _ _ k.at_ k.nl,λz=>?_,x.rN _ k.z⟩;obtain⟨r,er,hr⟩:=x.more;rw[er] at z;rcases oY.mp z with z|z
 ·exact k.nl z
 ·have:=hr _ z;rw[k.at_] at this;cases this
theorem eZ.ext{U:Ph}{H:Hp}{Dd:Addr}{o u:HO}(k:eZ U H Dd o):(∀a o,H a=some o->¬U.z a->(upd H Dd u) a=some o)/\eZ U (upd H Dd u) Dd u:=
 ⟨λa o e n=>by rw[cW (λz=>n (by rw[z];exact k.z))];exact e,jF,k.nl,k.z⟩
end
section
variable {K:W.Frag}{cA:Cl}{U U':Ph}{H H':Hp}
theorem aD.keep{s:S}{Dd:Addr}{o u:HO}(h:aD K cA U H s)(k:eZ U H Dd o):aD K cA U (upd H Dd u) s:=by
 have x:cH U H (upd H Dd u):=k.ext.1;refine⟨h.len,λn o a e1 e2=>?_,h.uniq,h.lz,λa z=>?_⟩
 ·have na:a≠Dd:=λy=>k.nl (by rw[<-y];exact fX e2);exact(h.obj n o a e1 e2).map (λ_ q=>by rw[cW na];exact q) λ_ _ r=>r.out x
 ·by_cases e:a=Dd
  ·subst e;exact⟨_,jF⟩
  ·obtain⟨o,q⟩:=h.zt a z;exact⟨o,by rw[cW e];exact q⟩
theorem Ext.keep{U1:Ph}{H1:Hp}{Dd:Addr}{vs:List V}{u:HO}(x:Ext U1 H1 U H)(hD:H1 Dd=none):Ext U1 H1 U (upd H Dd u):=by
 refine⟨x.more,x.rN,x.lu,λa o h n=>?_,λa o h=>?_⟩
 ·rw[cW (λz=>by rw[z,hD] at h;cases h)];exact x.frame a o h n
 ·rw[cW (λz=>by rw[z,hD] at h;cases h)];exact x.stay a o h
theorem Yt{U1:Ph}{H1:Hp}{s':S}{fz:Bool}{acc:List D}{vs:List V}{Dd:Addr}{Q:VK}{Ee:Nat->List D->S->Ph->Hp->Prop}(h:Run K cA (newL fz acc) U1 H1 s' (λd _ U' H'=>∀v,aV K cA U' H' d v->Q v H') Ee)
  (x2:Ext U1 H1 U' H') (hD:H1 Dd=none) (nz:¬U1.z Dd) (aQ:aD K cA U' H' s') (k:Keep U' H' Dd vs) (o7:aC K cA U' H' acc vs):Q (.ref Dd) H':=by
 cases fz with
 |true=>
  have zq:∀a,(λa=>U'.z a/\a≠Dd) a->U'.z a:=λa z=>z.1;refine h ⟨λa=>U'.z a/\a≠Dd,U'.l⟩ H' ⟨x2.more,λa z=>⟨x2.rN a z,λe=>nz (by rw[<-e];exact z)⟩,λa z=>x2.lu a z.1,x2.frame,x2.stay⟩ ?_ _ (.d (.fl (.inl ⟨.inl k.at_,λz=>z.2 rfl⟩) (aC.jV (U:=U') zq o7)));refine⟨aQ.len,λn o a e1 e2=>kh.jV (U:=U') zq (aQ.obj n o a e1 e2),aQ.uniq,λa ha=>⟨aQ.lz a ha,λe=>k.nl (by rw[<-e];exact ha)⟩,λa z=>aQ.zt a z.1⟩
 |false=>
  obtain⟨r,er,hr⟩:=x2.more;refine h ⟨U'.z,U'.l++[Dd]⟩ H' ⟨⟨r++[Dd],by show U'.l++[Dd]=_;rw[er,CQ],λb hb=>?_⟩,x2.rN,x2.lu,x2.frame,x2.stay⟩ ?_ _ (.l (by show (U'.l++[Dd])[s'.length]?=_;rw[<-aQ.len];simp))
  ·rcases oY.mp hb with z|z
   ·exact hr b z
   ·simp at z;subst z;exact hD
  ·refine⟨by show (U'.l++[Dd]).length=_;rw[lD,lD,aQ.len];rfl,λm o' a' e1 e2=>?_,?_,λb hb=>?_,aQ.zt⟩
   ·have e2:(U'.l++[Dd])[m]?=some a':=e2;by_cases hm:m<s'.length
    ·rw[oX hm] at e1;rw[oX (by rw[aQ.len];exact hm)] at e2;exact kh.zl (aQ.obj m o' a' e1 e2) _
    ·have vL:m=s'.length:=by
      have z:=(eO.mp e2).1;rw[lD,aQ.len] at z;simp at z;omega
     subst vL;rw[o8 (b_ _)] at e1;rw[o8 (by rw[aQ.len];exact b_ _)] at e2;simp at e1;simp[aQ.len] at e2;subst e1 e2;exact⟨vs,k.at_,aC.zl o7 _⟩
   ·show (U'.l++[Dd]).Nodup;rw[Kg];refine⟨aQ.uniq,by simp,λb hb c hc e=>?_⟩;simp at hc;subst hc e;exact k.nl hb
   ·have hb:b∈U'.l++[Dd]:=hb;rcases oY.mp hb with z|z
    ·exact aQ.lz b z
    ·simp at z;subst z;exact k.z
noncomputable def Ph.mark(U:Ph)(p:Addr):Ph:=⟨λa=>U.z a\/a=p,U.l⟩
theorem Yu{s:S}{p:Addr}(hS:aD K cA U H s)(hp:H p=none):Ext U H (U.mark p) (upd H p (.lst []))/\aD K cA (U.mark p) (upd H p (.lst [])) s/\Keep (U.mark p) (upd H p (.lst [])) p []:=by
 have g:=bB.new (o:=.lst []) hp;have nz:=hS.nz hp;refine⟨⟨⟨[],by simp[Ph.mark],by simp⟩,λa z=>.inl z,λa z=>z.imp id λe=>by rw[e];exact hp,λa o h _=>g a o h,λa o h=>⟨o,g a o h⟩⟩,⟨hS.len,λn o a e1 e2=>?_,hS.uniq,λa ha=>.inl (hS.lz a ha),λa z=>?_⟩,jF,λz=>nz (hS.lz p z),.inr rfl⟩
 ·have x:Ext U H (U.mark p) (upd H p (.lst [])):=⟨⟨[],by simp[Ph.mark],by simp⟩,λa z=>.inl z,λa z=>z.imp id λe=>by rw[e];exact hp,λa o h _=>g a o h,λa o h=>⟨o,g a o h⟩⟩;exact(hS.obj n o a e1 e2).map (g _) λ_ _ r=>r.mono x hS.lz
 ·rcases z with z|z
  ·obtain⟨o,e⟩:=hS.zt a z;exact⟨o,g _ _ e⟩
  ·subst z;exact⟨_,jF⟩
end
section
variable {X:Cx}{cA:Cl}{aq:Nat->Nat->Bool}{aj:Bool}{F:Fn}{EX:XS}{elt iter tg:Expr}{A B:E}{pos p:Pos}{ifs:List Expr}{scope:Scope}{N:List Str}{cond:Eo}{fr aL:List Nat}{many:Nat}{fz:Bool}{w:Wk}
noncomputable abbrev bQ(aq:Nat->Nat->Bool)(aj:Bool)(F:Fn)(B:E)(cond:Eo)(aL:List Nat)(Jb:Vs):D->List D->M (List D):=λd acc=>M.bd (M.opt (c7 aL d Jb)) λJ'=>M.bd (M.qt (mX aq aj F cond J')) λok=>
    if ok=true then M.bd (M.qt (ev aq aj F B J')) λy=>M.bd (dat y) λe=>if acc.length<sizeLine then M.ret (acc++[e]) else M.no else M.ret acc
theorem DR{H:Hp}{a:Addr}{o:HO}(h:H a=some o):upd H a o=H:=funext λb=>by
 by_cases z:b=a
 ·subst z;rw[jF,h]
 ·rw[cW z]
theorem zhV{K:W.Frag}{g:TG}{U1 U':Ph}{H1 H2:Hp}{s':S}{Z':L2.St}{Jb:Vs}{Dd:Addr}{acc:List D}{vs:List V}{xi:D}{v:V}{β:Type}{kk:List D->M β}{P:β->S->Ph->Hp->Prop}{Ee:Nat->List D->S->Ph->Hp->Prop}(hT:dH K cA g aL)(cV:∀i∈aL,i<many)
  (hD:H1 Dd=none) (x2:Ext U1 H1 U' H2) (hL2:aW K cA U' H2 Z' Jb) (aQ:aD K cA U' H2 s') (kp:Keep U' H2 Dd vs) (o7:aC K cA U' H2 acc vs) (rx:Rep K cA U' H2 xi v)
  (h:Run K cA (M.bd (bQ aq aj F B cond aL Jb xi acc) kk) U1 H1 s' P Ee) {Nn:L2.St->Hp->Prop}
  (hN:∀Z3 H3 U3 s3 m5 xq,Z3.length=Z'.length->(∀i,many<=i->Z3[i]?=Z'[i]?)->Ext U1 H1 U3 H3->Ext U' H2 U3 (upd H3 Dd (.lst vs))->aD K cA U3 H3 s3->Keep U3 H3 Dd xq->aC K cA U3 H3 m5 xq->Run K cA (kk m5) U1 H1 s3 P Ee->Nn Z3 H3) :
  g v Z' H2 λZ3 H3=>pY K cA (λ_ _ _ _=>False) (mX aq aj F cond) Z3 H3 λok H4=>
   if ok=true then tE K cA (λ_ _ _ _=>False) (ev aq aj F B) Z3 H4 λy H5=>∃ys,H5 Dd=some (.lst ys)/\ys.length<sizeLine/\Nn Z3 (upd H5 Dd (.lst (ys++[y]))) else Nn Z3 H4:=by
 unfold bQ at h;rw[gB] at h;obtain⟨J',e1,h1⟩:=Bs h;refine hT.run U' H2 s' Z' Jb J' xi v _ hL2 aQ rx e1 λZ3 oE BJ DW=>?_;rw[gB] at h1;have kf:∀i,many<=i->Z3[i]?=Z'[i]?:=λi hi=>DW i λz=>absurd (cV i z) (Dg.mpr hi);refine⟨U',J',s',oE,aQ,(I8 x2 h1).imp λok s4 U4 H4 ⟨x4,qO,h6⟩=>?_⟩;cases ok with
 |false=>
  refine iF (hN Z3 H4 U4 s4 acc vs BJ kf (x2.trans x4) (by rw[DR (kp.mono x4).at_];exact x4) qO (kp.mono x4) (o7.mono x4 aQ.lz) ?_);rw[if_neg (by decide)] at h6;exact h6
 |true=>
  rw[if_pos rfl,gB] at h6;refine iT ⟨U4,J',s4,oE.mono x4 aQ.lz,qO,(I8 (x2.trans x4) h6).imp λy s5 U5 H5 ⟨x5,I9,h7⟩ u ru=>?_⟩;rw[gB] at h7;have k5:=(kp.mono x4).mono x5;have r5:=(o7.mono x4 aQ.lz).mono x5 qO.lz;have RD:=(x2.trans x4).trans x5;obtain⟨dd,ey,rd,h8⟩ : ∃d,y=.d d/\Rep K cA U5 H5 d u/\Run K cA (M.bd (if acc.length<sizeLine then M.ret (acc++[d]) else M.no) kk) U1 H1 s5 P Ee:=by
   cases ru with
   |l _=>exact h7.elim
   |d r=>exact⟨_,rfl,r,h7⟩
  by_cases hz:acc.length<sizeLine
  ·rw[if_pos hz] at h8;refine⟨vs,k5.at_,by rw[<-r5.len];exact hz,?_⟩;have ox:cH U5 H5 (upd H5 Dd (.lst (vs++[u]))):=k5.ext.1;exact hN Z3 _ U5 s5 (acc++[dd]) (vs++[u]) BJ kf (Ext.keep (vs:=vs) RD hD) (by rw[V6,DR k5.at_];exact x4.trans x5) (I9.keep k5) k5.ext.2 ((r5.app (.cons rd .nil)).out ox) h8
  ·rw[if_neg hz] at h8;exact h8.elim
theorem Yv{g:TG}{iter':Expr}(hT:dH X.K cA g aL)(cV:∀i∈aL,i<many){Z:L2.St}{H:Hp}{Q:VK}(hh:tE X.K cA EX (ev aq aj F (.comp fz B aL w fr many cond)) Z H Q) :
  tW (tI X.K cA EX (g8 aq aj F w)) (bx many fr) g (pY X.K cA (λ_ _ _ _=>False) (mX aq aj F cond)) (tE X.K cA (λ_ _ _ _=>False) (ev aq aj F B)) Z H Q:=un hh λU J s hL hS h=>by
 by_cases eF:aj=true
 ·have h:Run X.K cA (if aj=true then M.bd (g8 aq aj F w J) λcn=>M.bd (walk cn.1 (bQ aq aj F B cond aL (blk many fr J)) (cn.2+1) 0 []) λxs=>newL fz xs else M.no) U H s (λd _ U' H'=>∀v,aV X.K cA U' H' d v->Q v H') (eX X.K cA EX Z):=h;rw[if_pos eF] at h;refine⟨U,J,s,hL,hS,h.bd.imp λcn s1 U1 H1 ⟨x1,aJ,h1⟩ bJ hJ=>?_⟩;have hL1:=hL.mono x1 hS.lz;obtain⟨c,n⟩:=cn;dsimp only at h1 hJ;intro Dd hD;obtain⟨x0,RG,k0⟩:=Yu aJ hD;have BK:∀{Z':L2.St},(Z'.length=many+fr.length/\∀i,many<=i->Z'[i]?=(bx many fr Z)[i]?)->∀{U' H'},Ext U1 H1 U' H'->aW X.K cA U' H' Z' (blk many fr J):=λ{Z'} hZ {U' H'} x=>Ys (hL1.mono x aJ.lz) hZ.1 λi j v e1 e2=>by
   rw[hZ.2 _ (by omega)];unfold bx;rw[o8 (by simp),Fj,iu,show many+i-many=i by omega,e1];simp[e2]
  refine⟨λi m Z' H'=>m=n+1-i/\(Z'.length=many+fr.length/\∀i,many<=i->Z'[i]?=(bx many fr Z)[i]?)/\∃U' s' acc vs,Ext U1 H1 U' H'/\aD X.K cA U' H' s'/\Keep U' H' Dd vs/\aC X.K cA U' H' acc vs /\
   Run X.K cA (M.bd (walk c (bQ aq aj F B cond aL (blk many fr J)) (n+1-i) i acc) λxs=>newL fz xs) U1 H1 s' (λd _ U' H'=>∀v,aV X.K cA U' H' d v->Q v H') (eX X.K cA EX Z),⟨n+1,rfl,⟨by simp[bx],λi _=>rfl⟩,U1.mark Dd,s1,[],[],x0,RG,k0,.nil,h1⟩,?_⟩
  rintro i m Z' H' ⟨rfl,hZ,U',s',acc,vs,x2,aQ,kp,o7,h3⟩;have hL2:=BK hZ x2;cases ek:n+1-i with
  |zero=>rw[ek] at h3;exact h3.elim
  |succ k=>
   rw[ek] at h3;cases ei:c.at i s' with
   |none=>
    exfalso
    unfold Run M.bd walk at h3;simp only[ei] at h3
   |some oi=>
    cases oi with
    |none=>
     refine .inl ⟨hJ.stop U' H' H' s' i x2 cH.refl aQ ei,?_⟩;have h4:Run X.K cA (newL fz acc) U1 H1 s' (λd _ U' H'=>∀v,aV X.K cA U' H' d v->Q v H') (eX X.K cA EX Z):=by
      unfold Run M.bd walk at h3;simp only[ei] at h3;exact h3
     exact Yt h4 x2 hD (aJ.nz hD) aQ kp o7
    |some xi=>
     refine .inr ⟨hJ.go U' H' H' s' i xi x2 cH.refl aQ ei,λZ2 H2=>(Z2.length=many+fr.length/\∀i,many<=i->Z2[i]?=(bx many fr Z)[i]?)/\∃U' s' acc vs,Ext U1 H1 U' H2/\aD X.K cA U' H2 s'/\Keep U' H2 Dd vs/\aC X.K cA U' H2 acc vs /\
      Run X.K cA (M.bd (walk c (bQ aq aj F B cond aL (blk many fr J)) k (i+1) acc) λxs=>newL fz xs) U1 H1 s' (λd _ U' H'=>∀v,aV X.K cA U' H' d v->Q v H') (eX X.K cA EX Z),λZ2 H2 hn=>⟨k,by omega,by omega,hn.1,?_⟩,λv H2 hy=>?_⟩
     ·have:n+1-(i+1)=k:=by omega
      rw[this];exact hn.2
     ·obtain⟨gr,rx⟩:=hJ.tH U' H' H' s' i xi v H2 x2 cH.refl aQ ei hy;have h4:Run X.K cA (M.bd (bQ aq aj F B cond aL (blk many fr J) xi acc) λacc'=>M.bd (walk c (bQ aq aj F B cond aL (blk many fr J)) k (i+1) acc') λxs=>newL fz xs) U1 H1 s' (λd _ U' H'=>∀v,aV X.K cA U' H' d v->Q v H') (eX X.K cA EX Z):=by
       have h5:=RB (m':=M.bd (bQ aq aj F B cond aL (blk many fr J) xi acc) λacc'=>walk c (bQ aq aj F B cond aL (blk many fr J)) k (i+1) acc') (by rw[walk];simp only[ei]) h3;rw[gB] at h5;exact h5
      exact zhV hT cV hD (x2.trans gr.ext) (hL2.mono gr.ext aQ.lz) (aQ.grow gr) (kp.mono gr.ext) (o7.mono gr.ext aQ.lz) rx h4 λZ3 H3 U3 s3 m5 xq l3 f3 x3 _ gC k3 r3 h6=>⟨⟨l3.trans hZ.1,λi hi=>(f3 i hi).trans (hZ.2 i hi)⟩,U3,s3,m5,xq,x3,gC,k3,r3,h6⟩
 ·have h:Run X.K cA (if aj=true then M.bd (g8 aq aj F w J) λcn=>M.bd (walk cn.1 (bQ aq aj F B cond aL (blk many fr J)) (cn.2+1) 0 []) λxs=>newL fz xs else M.no) U H s (λd _ U' H'=>∀v,aV X.K cA U' H' d v->Q v H') (eX X.K cA EX Z):=h;rw[if_neg eF] at h;exact h.elim
theorem Lx{XN:List Str}(oZ:∀(i:Nat) (y:Str) (j:Nat),N[many+i]?=some y->fr[i]?=some j->scope.names.lookup y=some .free/\XN[j]?=some y)(Z:L2.St)(i:Nat)(x:Str)(v:V)(e1:N[i]?=some x)(e2:(bx many fr Z)[i]?=some (some v)):scope.names.lookup x=some .free/\∃j:Nat,XN[j]?=some x/\Z[j]?=some (some v):=by
 unfold bx at e2;by_cases hi:i<many
 ·rw[oX (by simpa using hi),zy,if_pos hi] at e2;cases e2
 ·rw[o8 (by simpa using Kl hi),Fj,iu] at e2;cases z:fr[i-many]? with
  |none=>rw[z] at e2;cases e2
  |some j=>
   rw[z] at e2;have e3:(Z[j]?).join=some v:=by simpa using e2
   obtain⟨a1,a2⟩:=oZ (i-many) x j (by rw[show many+(i-many)=i by omega];exact e1) z;exact⟨a1,j,a2,Lq e3⟩
theorem Yw{g:TG}(hc:X.aj=true)(B':cg X.env.scope scope)(hi:SI X cA aq aj F EX tg iter w)(hN:N.length=many+fr.length)
  (oZ:∀(i:Nat) (y:Str) (j:Nat),N[many+i]?=some y->fr[i]?=some j->scope.names.lookup y=some .free/\X.N[j]?=some y)
  (hg:∀cl C s3 H3 fp ao,PG (X.blk scope cl N C s3 H3 fp ao) tg g) (hT:dH X.K cA g aL) (cV:∀i∈aL,i<many)
  (ht:∀cl C s3 H3 fp ao,Bw (X.blk scope cl N C s3 H3 fp ao) cA aq aj F (λ_ _ _ _=>False) ifs cond) (he:∀cl C s3 H3 fp ao,SE (X.blk scope cl N C s3 H3 fp ao) cA aq aj F (λ_ _ _ _=>False) elt B)
  (hs:∀x,foldedSetIterable iter X.env x=pure x:=by intro _;rfl):SE X cA aq aj F EX (.ListComp elt [⟨tg,iter,ifs,0⟩] scope pos) (.comp fz B aL w fr many cond):=
 PE.weak (zi5 hc B' hi (⟨hg,ht,he⟩ : Parts X elt tg ifs scope N g (pY X.K cA (λ_ _ _ _=>False) (mX aq aj F cond)) (tE X.K cA (λ_ _ _ _=>False) (ev aq aj F B))) (ZY:=bx many fr) (λZ=>by simp[bx,hN]) (λZ i x v e1 e2=>Lx oZ Z i x v e1 e2) hs) λZ H Q hh=>Yv (iter':=iter) hT cV hh
end
section
variable (K:W.Frag)(cA:Cl)
def aX(m:MS)(U:Ph)(H:Hp)(s:S)(D:Ends)(EX:XS):Prop:=match m s with
 |some (.nx J,s')=>∀U' H' Z',Ext U H U' H'->aD K cA U' H' s'->aW K cA U' H' Z' J->D.nx Z' H'
 |some (.bk J,s')=>∀U' H' Z',Ext U H U' H'->aD K cA U' H' s'->aW K cA U' H' Z' J->D.bk Z' H'
 |some (.ct J,s')=>∀U' H' Z',Ext U H U' H'->aD K cA U' H' s'->aW K cA U' H' Z' J->D.ct Z' H'
 |some (.rt d,s')=>∀U' H' v,Ext U H U' H'->aD K cA U' H' s'->aV K cA U' H' d v->D.rt v H'
 |some (.er c fs J,s')=>∀U' H' Z',Ext U H U' H'->aD K cA U' H' s'->aW K cA U' H' Z' J->∀dx,jU K cA U' H' c fs dx->EX Z' (.ref (cA.a c)) dx H'
 |none=>False
noncomputable def tS(EX:XS)(m:Vs->MS):TS:=λD Z H=>∃U J s,aW K cA U H Z J/\aD K cA U H s/\aX K cA (m J) U H s D EX
end
section
variable {K:W.Frag}{cA:Cl}{U U':Ph}{H H':Hp}{s:S}{Z:L2.St}{J:Vs}{EX:XS}{D:Ends}
theorem aX.ext{m:MS}(x:Ext U H U' H')(h:aX K cA m U H s D EX):aX K cA m U' H' s D EX:=by
 unfold aX at *;split at h<;>first
  |exact λU2 H2 a y r l=>h U2 H2 a (x.trans y) r l
  |exact h.elim
theorem aX.ofM{α:Type}{m:M α}{k:α->MS}(hL:aW K cA U H Z J)(hz:∀a∈U.l,U.z a)(h:aX K cA (ofM m J k) U H s D EX):Run K cA m U H s (λa s1 U1 H1=>Ext U H U1 H1/\aD K cA U1 H1 s1/\aX K cA (k a) U1 H1 s1 D EX) (eX K cA EX Z):=by
 unfold aX Mi.ofM at h;unfold Run;cases e:m s with
 |none=>rw[e] at h;exact h
 |some r=>
  obtain⟨r,s1⟩:=r;rw[e] at h;cases r with
  |er c fs=>exact λU1 H1 x r=>h U1 H1 Z x r (hL.mono x hz)
  |ok a=>
   intro U1 H1 x r;refine⟨x,r,?_⟩;have h2:aX K cA (k a) U H s1 D EX:=h;exact h2.ext x
theorem aX.then_(h:aX K cA (cJ m k) U H s D EX):aX K cA m U H s {D with nx:=λZ' H'=>∃U' J' s',aW K cA U' H' Z' J'/\aD K cA U' H' s'/\aX K cA (k J') U' H' s' D EX} EX:=by
 unfold aX cJ at h;unfold aX;cases e:m s with
 |none=>rw[e] at h;exact h
 |some r=>
  obtain⟨r,s1⟩:=r;rw[e] at h;cases r with
  |nx J=>
   intro U1 H1 Z1 x r l;have h2:aX K cA (k J) U H s1 D EX:=h;exact⟨U1,J,s1,l,r,h2.ext x⟩
  |bk J=>exact h
  |ct J=>exact h
  |rt d=>exact h
  |er c fs J=>exact h
end
section
variable (X:Cx)(cA:Cl)(aq:Nat->Nat->Bool)(aj:Bool)(F:Bool->Fn)(EX:XS)
def SS(st:Stmt)(m:St):Prop:=PS X st (tS X.K cA EX (ex aq aj F m))
def vM(st:List Stmt)(m:bV):Prop:=pF X st (tS X.K cA EX (exs aq aj F m))
end
section
variable {X:Cx}{cA:Cl}{aq:Nat->Nat->Bool}{aj:Bool}{F:Bool->Fn}{EX:XS}{a b c d e:Expr}{A B C:E}{pos p p2:Pos}{st:Stmt}{sts body orelse:List Stmt}{m:St}{ms mb me mh:bV}{es:List Expr}{Xs:Es}{x y n:Str}{i j:Nat}
theorem PS.weak{t t':TS}(h:PS X st t)(f:∀D Z H,t' D Z H->t D Z H):PS X st t':=λao s Z H D I q=>h ao s Z H D I (f D Z H q)
theorem pF.weak{t t':TS}(h:pF X sts t)(f:∀D Z H,t' D Z H->t D Z H):pF X sts t':=λao s Z H D I q=>h ao s Z H D I (f D Z H q)
theorem zne:SS X cA aq aj F EX st .no:=λ_ _ _ _ _ _ ⟨_,_,_,_,_,h⟩=>h.elim
theorem ziO:vM X cA aq aj F EX [] .nil:=pF.weak Wi λD Z H hh=>un hh λU J s hL hS h=>h U H Z Ext.refl hS hL
theorem zh2(h1:SS X cA aq aj F EX st m)(h2:vM X cA aq aj F EX sts ms):vM X cA aq aj F EX (st::sts) (.cons m ms):=pF.weak (Wj h1 h2) λD Z H hh=>un hh λU J s hL hS h=>by
 have h:aX X.K cA (cJ (ex aq aj F m J) λJ'=>exs aq aj F ms J') U H s D EX:=h;exact⟨U,J,s,hL,hS,h.then_⟩
theorem znC(ha:SE X cA aq aj (F aj) EX a A)(hs:swapsWith a none pos.line X.env=pure false:=by rfl):SS X cA aq aj F EX (.Expr a pos) (.ex A):=PS.weak (zjN ha hs) λD Z H hh=>un hh λU J s hL hS h=>
 ⟨U,J,s,hL,hS,(aX.ofM hL hS.lz h).imp λd s1 U1 H1 ⟨x1,aJ,h1⟩ v rv=>h1 U1 H1 Z Ext.refl aJ (hL.mono x1 hS.lz)⟩
theorem zkR(ha:SE X cA aq aj (F aj) EX a A):SS X cA aq aj F EX (.Return (some a) pos) (.ret A):=PS.weak (zlR ha) λD Z H hh=>un hh λU J s hL hS h=>
 ⟨U,J,s,hL,hS,(aX.ofM hL hS.lz h).imp λd s1 U1 H1 ⟨x1,aJ,h1⟩ v rv=>h1 U1 H1 v Ext.refl aJ rv⟩
theorem zkA(hN:X.N.Nodup)(hi:X.N[i]?=some x)(hx:Loc X.env.scope x)(ha:SE X cA aq aj (F aj) EX a A)(hs:swapsWith a (some (.Name x p)) pos.line X.env=pure false:=by rfl)(hf:X.fn x=true\/X.env.scope.names.lookup x=some .local:=by first|exact .inl rfl|exact .inr rfl) :
  SS X cA aq aj F EX (.Assign [.Name x p] a pos) (.asg (.nm i) A):=PS.weak (zlE hN hi hx ha hs hf) λD Z H hh=>un hh λU J s hL hS h=>
 ⟨U,J,s,hL,hS,(aX.ofM hL hS.lz h).imp λd s1 U1 H1 ⟨x1,aJ,h1⟩ v rv=>h1 U1 H1 _ Ext.refl aJ ((hL.mono x1 hS.lz).set rv)⟩
theorem RJ{k}(hc:X.aj=true)(hN:X.N.Nodup)(hi:X.N[i]?=some x)(hj:X.N[j]?=some y)(hx:Loc X.env.scope x)(hy:Loc X.env.scope y)(xr:X.fn x=true\/X.env.scope.names.lookup x=some .local)(xu:X.fn y=true\/X.env.scope.names.lookup y=some .local) :
  PG X (.Tuple [.Name x px,.Name y py] k pos) (tG X.K 2 (iw (dz i) (iw (dz j) tD))):=zmz hc (Wn (KN hN hi hx xr) (Wn (KN hN hj hy xu) zkl))
theorem Yx{K:W.Frag}{U:Ph}{H:Hp}{s:S}{J:Vs}{Z:L2.St}{D:Ends}{d:Xv}{v:V}(eF:aj=true)(hL:aW K cA U H Z J)(hS:aD K cA U H s)(rv:aV K cA U H d v)(h:aX K cA (store aq aj (F aj) (.tp [i,j]) d J) U H s D EX):tG K 2 (iw (dz i) (iw (dz j) tD)) v Z H D.nx:=by
 have h:aX K cA (if aj=true then ofM (M.bd (dat d) λd=>M.opt ((jR d).bind λds=>fU [i,j] (ds.map Xv.d) J)) J (λJ' s=>some (Out.nx J',s)) else λ_=>none) U H s D EX:=h;rw[if_pos eF] at h;obtain⟨dd,e0,rd,h1⟩:=Ln rv (aX.ofM hL hS.lz h);obtain⟨J',e,_,aJ,h2⟩:=Run.opt hS h1;refine(DQ i j).run U H s Z J J' dd v _ hL hS rd e λZ' hL' _ _=>h2 U H Z' Ext.refl hS hL'
theorem zjD{k}(hc:X.aj=true)(eF:aj=true)(hN:X.N.Nodup)(hi:X.N[i]?=some x)(hj:X.N[j]?=some y)(hx:Loc X.env.scope x)(hy:Loc X.env.scope y)(xr:X.fn x=true\/X.env.scope.names.lookup x=some .local)(xu:X.fn y=true\/X.env.scope.names.lookup y=some .local)(ha:SE X cA aq aj (F aj) EX a A)
  (hs:swapsWithSole [.Tuple [.Name x px,.Name y py] k pt] a pos.line X.env=pure false:=by rfl) (hw:swappedStores [.Tuple [.Name x px,.Name y py] k pt] a X.env=pure none:=by rfl)
  (h1:(assignEach [.Tuple [.Name x px,.Name y py] k pt] X.env).map (·.2)=[assign (.Tuple [.Name x px,.Name y py] k pt) X.env]:=by rfl) :
  SS X cA aq aj F EX (.Assign [.Tuple [.Name x px,.Name y py] k pt] a pos) (.asg (.tp [i,j]) A):=PS.weak (Wo ha (RJ hc hN hi hj hx hy xr xu) hs hw h1) λD Z H hh=>un hh λU J s hL hS h=>
 ⟨U,J,s,hL,hS,(aX.ofM hL hS.lz h).imp λd s1 U1 H1 ⟨x1,aJ,h1⟩ v rv=>Yx eF (hL.mono x1 hS.lz) aJ rv h1⟩
theorem zkH(hO:SE X cA aq aj (F aj) EX oo O)(hI:SE X cA aq aj (F aj) EX ii I')(ha:SE X cA aq aj (F aj) EX a A)
  (RK:∀v,assign (.Subscript oo ii p) X.env v=(do
   let ov <-holding [v] (eval oo X.env)
   let iv <-holding [v,ov] (eval ii X.env)
   standAt p
   holding [v,ov,iv] (setItem ov iv v)
   release [v,ov,iv] []):=by intro _;rfl) (hs:swapsWithSole [.Subscript oo ii p] a pos.line X.env=pure false:=by rfl) (hw:swappedStores [.Subscript oo ii p] a X.env=pure none:=by rfl)
  (h1:(assignEach [.Subscript oo ii p] X.env).map (·.2)=[assign (.Subscript oo ii p) X.env]:=by rfl) :
  SS X cA aq aj F EX (.Assign [.Subscript oo ii p] a pos) (.asg (.aq O I') A):=PS.weak (Wo ha (zlL hO hI zic RK) hs hw h1) λD Z H hh=>un hh λU J s hL hS h=>by
 refine⟨U,J,s,hL,hS,(aX.ofM hL hS.lz h).imp λd s1 U1 H1 ⟨x1,aJ,h1⟩ v rv=>?_⟩;obtain⟨dd,e0,rd,h2⟩:=Ln rv (aX.ofM (hL.mono x1 hS.lz) aJ.lz h1);refine aZ (hL.mono x1 hS.lz) aJ h2 λxo H2 U2 d2 s2 x2 hL2 aQ r2 h3=>aZ hL2 aQ h3 λyi H3 U3 d3 s3 x3 oE gC r3 h4=>?_;obtain⟨k,_,ek,h5⟩:=Bt r3 h4;obtain⟨n,ad,xs,vs,_,ea,e1,f1,g1,q1,h6⟩:=Ru gC (r2.mono x3 aQ.lz) h5;subst ek ea;cases ej:L2.rE xs.length k with
 |none=>simp only[ej] at h6;exact h6.elim
 |some jj=>
  simp only[ej] at h6;refine⟨ad,vs,k,jj,rfl,rfl,g1,by rw[<-q1.len];exact ej,?_⟩;have rv3:=(rd.mono x2 aJ.lz).mono x3 aQ.lz;have qO:=gC.write e1 f1 (q1.set rv3 jj);have x4:Ext U3 H3 U3 (upd H3 ad (.lst (vs.set jj v))):=Ext.write f1 ⟨_,g1⟩;obtain⟨_,_,h8⟩:=h6 U3 _ x4 qO;exact h8 U3 _ Z Ext.refl qO (oE.mono x4 gC.lz)
theorem zlr{pos':Pos}(hN:X.N.Nodup)(hi:X.N[i]?=some x)(hx:Loc X.env.scope x)(ha:SE X cA aq aj (F aj) EX a A)(hf:X.fn x=true\/X.env.scope.names.lookup x=some .local)(hr:PS X (.AugAssign (.Name x p) .Add a pos) (GC i (tE X.K cA EX (ev aq aj (F aj) A)) (Wq λi j=>i+j))) :
  SS X cA aq aj F EX (.AugAssign (.Name x p) .Add a pos) (.aug i A):=PS.weak hr λD Z H hh=>un hh λU J s hL hS h=>by
 have h:=aX.ofM hL hS.lz h;obtain⟨xv,e,h1⟩:=Bs h;obtain⟨v,q1,q2⟩:=hL.2 i xv (Lq e);refine⟨v,q1,aZ hL hS h1 λy H1 U1 d1 s1 x1 hL1 aJ r1 h2=>?_⟩;obtain⟨p1,_,e1,h3⟩:=Bt (q2.mono x1 hS.lz) h2;obtain⟨p2,_,e2,h4⟩:=Bt r1 h3;obtain⟨_,_,h5⟩:=h4.bL aJ;exact⟨p1,p2,e1,e2,h5 U1 H1 _ Ext.refl aJ (hL1.set (.d (.int _)))⟩
theorem zm9(hc:ST X cA aq aj (F aj) EX c C)(ht:vM X cA aq aj F EX body mb)(he:vM X cA aq aj F EX orelse me):SS X cA aq aj F EX (.If c body orelse pos) (.iff C mb me):=PS.weak (zn0 hc ht he) λD Z H hh=>un hh λU J s hL hS h=>by
 refine⟨U,J,s,hL,hS,(aX.ofM hL hS.lz h).imp λk s1 U1 H1 ⟨x1,aJ,h1⟩=>?_⟩;cases k with
 |true=>exact iT ⟨U1,J,s1,hL.mono x1 hS.lz,aJ,h1⟩
 |false=>exact iF ⟨U1,J,s1,hL.mono x1 hS.lz,aJ,h1⟩
theorem zjd{g:TG}{elt iter tg:Expr}{ifs:List Expr}{scope:Scope}{N:List Str}{cond:Eo}{fr aL:List Nat}{many:Nat}{fz:Bool}{w:Wk}{spos py:Pos}(hc:X.aj=true)(oG:X.N.Nodup)(tX:X.N[i]?=some y)(hx:Loc X.env.scope y)(hf:X.fn y=true\/X.env.scope.names.lookup y=some .local)(B':cg X.env.scope scope)(hi:SI X cA aq aj (F aj) EX tg iter w)(hN:N.length=many+fr.length)
  (oZ:∀(i:Nat) (y:Str) (j:Nat),N[many+i]?=some y->fr[i]?=some j->scope.names.lookup y=some .free/\X.N[j]?=some y)
  (hg:∀cl C s3 H3 fp ao,PG (X.blk scope cl N C s3 H3 fp ao) tg g) (hT:dH X.K cA g aL) (cV:∀i∈aL,i<many)
  (ht:∀cl C s3 H3 fp ao,Bw (X.blk scope cl N C s3 H3 fp ao) cA aq aj (F aj) (λ_ _ _ _=>False) ifs cond) (he:∀cl C s3 H3 fp ao,SE (X.blk scope cl N C s3 H3 fp ao) cA aq aj (F aj) (λ_ _ _ _=>False) elt B)
  (tY:swapsWith (.ListComp elt [⟨tg,iter,ifs,0⟩] scope pos) (some (.Name y py)) spos.line X.env=pure true) (hs:∀x,foldedSetIterable iter X.env x=pure x:=by intro _;rfl) :
  SS X cA aq aj F EX (.Assign [.Name y py] (.ListComp elt [⟨tg,iter,ifs,0⟩] scope pos) spos) (.asg (.nm i) (.comp fz B aL w fr many cond)):=
 PS.weak (ze1 hc oG tX hx hf B' hi (⟨hg,ht,he⟩ : Parts X elt tg ifs scope N g (pY X.K cA (λ_ _ _ _=>False) (mX aq aj (F aj) cond)) (tE X.K cA (λ_ _ _ _=>False) (ev aq aj (F aj) B))) (ZY:=bx many fr) (λZ=>by simp[bx,hN]) (λZ i x v e1 e2=>Lx oZ Z i x v e1 e2) tY hs) λD Z H hh=>un hh λU J s hL hS h=>
  Yv (iter':=iter) hT cV ⟨U,J,s,hL,hS,(aX.ofM hL hS.lz h).imp λd s1 U1 H1 ⟨x1,aJ,h1⟩ v rv=>h1 U1 H1 _ Ext.refl aJ ((hL.mono x1 hS.lz).set rv)⟩
noncomputable def oH(m:MS)(kN:Vs->MS):MS:=λs=>match m s with
 |some (.nx J',s')=>kN J' s'
 |some (.ct J',s')=>kN J' s'
 |some (.bk J',s')=>some (.nx J',s')
 |r=>r
theorem Yy{K:W.Frag}{U:Ph}{H:Hp}{s:S}{D:Ends}{m:MS}{kN:Vs->MS}{N:L2.St->Hp->Prop}(hN:∀U' J' s' Z' H',Ext U H U' H'->aW K cA U' H' Z' J'->aD K cA U' H' s'->aX K cA (kN J') U' H' s' D EX->N Z' H')(h:aX K cA (oH m kN) U H s D EX) :
  aX K cA m U H s {D with nx:=N,ct:=N,bk:=D.nx} EX:=by
 unfold aX oH at h;unfold aX;cases e:m s with
 |none=>rw[e] at h;exact h
 |some r=>
  obtain⟨r,s1⟩:=r;rw[e] at h;cases r with
  |nx J'=>
   intro U1 H1 Z1 x r l;have h2:aX K cA (kN J') U H s1 D EX:=h;exact hN U1 J' s1 Z1 H1 x l r (h2.ext x)
  |ct J'=>
   intro U1 H1 Z1 x r l;have h2:aX K cA (kN J') U H s1 D EX:=h;exact hN U1 J' s1 Z1 H1 x l r (h2.ext x)
  |bk J'=>exact h
  |rt d=>exact h
  |er c fs J'=>exact h
theorem zhg(hp:PassesOwn (model X.prog X.w) X.A X.env X.xe)(hc:ST X cA aq aj (F aj) EX c C)(hb:vM X cA aq aj F EX body mb):SS X cA aq aj F EX (.While c body [] pos) (.wh C mb):=PS.weak (zh5 hp hc hb) λD Z H hh=>un hh λU J s hL hS h=>by
 refine⟨λm Z H=>∃U J s,aW X.K cA U H Z J/\aD X.K cA U H s/\aX X.K cA (gU (λJ=>M.bd (ev aq aj (F aj) C J) bool) (λJ=>exs aq aj F mb J) m J) U H s D EX,⟨oA,U,J,s,hL,hS,h⟩,?_⟩;rintro m Z H ⟨U,J,s,hL,hS,h⟩;cases m with
 |zero=>exact h.elim
 |succ m=>
  refine⟨U,J,s,hL,hS,(aX.ofM (k:=λok=>if ok=true then oH (exs aq aj F mb J) (gU (λJ=>M.bd (ev aq aj (F aj) C J) bool) (λJ=>exs aq aj F mb J) m) else λs=>some (.nx J,s)) hL hS.lz h).imp λk s1 U1 H1 ⟨x1,aJ,h1⟩=>?_⟩;cases k with
  |true=>
   rw[if_pos rfl] at h1 ⊢;refine⟨_,λZ' H' z=>⟨m,Fy m,z⟩,U1,J,s1,hL.mono x1 hS.lz,aJ,Yy (λU' J' s' Z' H' _ l r q=>?_) h1⟩;exact⟨U',J',s',l,r,q⟩
  |false=>
   rw[if_neg Ft] at h1 ⊢;exact h1 U1 H1 Z Ext.refl aJ (hL.mono x1 hS.lz)
def SG(X:Cx)(cA:Cl)(aq:Nat->Nat->Bool)(aj:Bool)(F:Bool->Fn)(EX:XS)(tg:Expr)(t:Tg):Prop:=∃g:TG,PG X tg g/\∀(U:Ph) (H:Hp) (s:S) (Z:L2.St) (J:Vs) (d:Xv) (v:V) (D:Ends),aW X.K cA U H Z J->aD X.K cA U H s->aV X.K cA U H d v->
 aX X.K cA (store aq aj (F aj) t d J) U H s D EX->g v Z H D.nx
theorem zjp(hN:X.N.Nodup)(hi:X.N[i]?=some x)(hx:Loc X.env.scope x)(hf:X.fn x=true\/X.env.scope.names.lookup x=some .local:=by first|exact .inl rfl|exact .inr rfl):SG X cA aq aj F EX (.Name x pos) (.nm i):=
 ⟨_,KN hN hi hx hf,λU H s Z J d v D hL hS r h=>h U H _ Ext.refl hS (hL.set r)⟩
theorem ziZ{k}(hc:X.aj=true)(eF:aj=true)(hN:X.N.Nodup)(hi:X.N[i]?=some x)(hj:X.N[j]?=some y)(hx:Loc X.env.scope x)(hy:Loc X.env.scope y)(xr:X.fn x=true\/X.env.scope.names.lookup x=some .local)(xu:X.fn y=true\/X.env.scope.names.lookup y=some .local) :
  SG X cA aq aj F EX (.Tuple [.Name x px,.Name y py] k pos) (.tp [i,j]):=
 ⟨_,RJ hc hN hi hj hx hy xr xu,λU H s Z J d v D hL hS r h=>Yx eF hL hS r h⟩
theorem zlO(hp:PassesOwn (model X.prog X.w) X.A X.env X.xe)(hc:X.aj=true)(eF:aj=true)(ha:SI X cA aq aj (F aj) EX tg a w)(hg:SG X cA aq aj F EX tg t)(hb:vM X cA aq aj F EX body mb)
  (hs:∀x,foldedSetIterable a X.env x=pure x:=by intro _;rfl):SS X cA aq aj F EX (.For tg a body [] pos) (.fr t w mb):=by
 obtain⟨g,hG,hg⟩:=hg;refine PS.weak (zkG hp hc ha hG hb hs) λD Z H hh=>un hh λU J s hL hS h=>?_;have h:aX X.K cA (if aj=true then ofM (g8 aq aj (F aj) w J) J λcn=>dG cn.1 (λd J=>cJ (store aq aj (F aj) t (.d d) J) λJ'=>exs aq aj F mb J') (cn.2+1) 0 J else λ_=>none) U H s D EX:=h;rw[if_pos eF] at h;refine⟨U,J,s,hL,hS,(aX.ofM hL hS.lz h).imp λcn s1 U1 H1 ⟨x1,aJ,h1⟩ bJ hJ=>?_⟩;have hL1:=hL.mono x1 hS.lz;obtain⟨c,n⟩:=cn;dsimp only at h1 hJ;refine⟨λi m Z' H'=>∃U' J' s',Ext U1 H1 U' H'/\aW X.K cA U' H' Z' J'/\aD X.K cA U' H' s'/\aX X.K cA (dG c (λd J=>cJ (store aq aj (F aj) t (.d d) J) λJ'=>exs aq aj F mb J') m i J') U' H' s' D EX,⟨n+1,U1,J,s1,Ext.refl,hL1,aJ,h1⟩,?_⟩;rintro i m Z' H' ⟨U',J',s',x2,hL2,aQ,h4⟩;cases m with
 |zero=>exact h4.elim
 |succ m=>
  cases ei:c.at i s' with
  |none=>
   exfalso
   unfold aX dG at h4;simp only[ei] at h4
  |some oi=>
   cases oi with
   |none=>
    refine .inl ⟨hJ.stop U' H' H' s' i x2 cH.refl aQ ei,?_⟩;unfold aX dG at h4;simp only[ei] at h4;exact h4 U' H' Z' Ext.refl aQ hL2
   |some xi=>
    refine .inr ⟨hJ.go U' H' H' s' i xi x2 cH.refl aQ ei,_,λZ3 H3 z=>⟨m,Fy m,z⟩,λv H3 hy=>?_⟩;obtain⟨gr,rx⟩:=hJ.tH U' H' H' s' i xi v H3 x2 cH.refl aQ ei hy;have h5:aX X.K cA (oH (cJ (store aq aj (F aj) t (.d xi) J') λJ'=>exs aq aj F mb J') (dG c (λd J=>cJ (store aq aj (F aj) t (.d d) J) λJ'=>exs aq aj F mb J') m (i+1))) U' H' s' D EX:=by
     unfold aX at h4 ⊢;have e:dG c (λd J=>cJ (store aq aj (F aj) t (.d d) J) λJ'=>exs aq aj F mb J') (m+1) i J' s'=oH (cJ (store aq aj (F aj) t (.d xi) J') λJ'=>exs aq aj F mb J') (dG c (λd J=>cJ (store aq aj (F aj) t (.d d) J) λJ'=>exs aq aj F mb J') m (i+1)) s':=by
      rw[dG];simp only[ei];rfl
     rw[e] at h4;exact h4
    exact hg U' H3 s' Z' J' (.d xi) v _ (hL2.mono gr.ext aQ.lz) (aQ.grow gr) (.d rx) (aX.then_ (Yy (λU4 J4 s4 Z4 H4 x4 l4 r4 q4=>⟨U4,J4,s4,(x2.trans gr.ext).trans x4,l4,r4,q4⟩) (h5.ext gr.ext)))
end
end Mi
namespace L2
open PySem PySem.Spec PyProof.Rows
structure oJ(K:W.Frag)(x qual:Str)(st:Stmt)(f:Addr)(fd:FuncData):Prop where
 ex:∃(oc:Value) (od:Option Addr) (kV doc pm:Value) (an:Option Addr) (cdv ct:Value) (osl:Array (Option Value)),
  fd=PySem.W.fnOf x qual (aY st) (aK st) (au st) .none kV doc pm an cdv ct/\K.lookup f=some ⟨oc,od,.func fd,osl⟩/\PySem.W.codeIn K cdv qual=true
 kp:PySem.W.keepIn K (.ref f)=true
section
variable {P:Program}{w:World}{K:W.Frag}{mg:Str->Option Value}{base:Heap}
end
end L2
namespace Mi
open PySem PySem.Spec PyProof.Rows L2
section
variable {P:Program}{w:World}{K:W.Frag}{mg:Str->Option Value}{base:Heap}{cA:Cl}{aq:Nat->Nat->Bool}{T:Nat->Option Df}
theorem Yz{U:Ph}{H:Hp}{N:List Str}{ds:List Xv}{vs:List V}{m p:Nat}(r:aP K cA U H ds vs)(hp:p=ds.length)(hm:m=N.length):aW K cA U H (L2.start N vs) (ds.map some++List.replicate (m-p) none):=by
 subst hp hm;unfold L2.start;have hl:=r.len;refine⟨by simp[hl],λi d e=>?_⟩;by_cases hi:i<ds.length
 ·rw[oX (by simpa using hi),iu] at e;cases z:ds[i]? with
  |none=>rw[z] at e;cases e
  |some x=>
   rw[z] at e;cases e;obtain⟨v,a,b⟩:=r.get z;exact⟨v,by rw[oX (by simp;lia),iu,a];rfl,b⟩
 ·rw[o8 (by simpa using hi),zy] at e;split at e<;>cases e
theorem YB{U:Ph}{H:Hp}{s:S}{ds:List Xv}{k n:Nat}{cm:Bool}{df:Df}{Q:VK}{E:XK}(hT:T n=some df)
  (h:Run K cA (call aq T (k+1) cm n ds) U H s (λd _ U' H'=>∀v,aV K cA U' H' d v->Q v H') (λc fs _ U' H'=>∀dx,jU K cA U' H' c fs dx->E (.ref (cA.a c)) dx H')) :
  ds.length=df.iC/\aX K cA (exs aq cm (λc=>call aq T k c) df.body (ds.map some++List.replicate (df.many-df.iC) none)) U H s {nx:=λ_ H'=>Q .non H',rt:=Q} (λ_ C dx H'=>E C dx H'):=by
 unfold call at h;simp only[hT] at h;by_cases hl:ds.length=df.iC
 ·refine⟨hl,?_⟩;rw[if_pos hl] at h;unfold Run at h;unfold aX;cases e:exs aq cm (λc=>call aq T k c) df.body (ds.map some++List.replicate (df.many-df.iC) none) s with
  |none=>simp only[e] at h
  |some r=>
   obtain⟨r,s1⟩:=r;simp only[e] at h;cases r with
   |nx J=>exact λU' H' Z' x r l=>h U' H' x r _ (.d .non)
   |rt d=>exact λU' H' v x r rv=>h U' H' x r v rv
   |er c fs J=>exact λU' H' Z' x r l=>h U' H' x r
   |bk J=>exact h.elim
   |ct J=>exact h.elim
 ·rw[if_neg hl] at h;exact h.elim
theorem cQ:cD P w K mg base (gJ P w) cm 0 f fd ps (lN K cA (call aq T 0 cm n)):=
 ⟨λvs H Q E ⟨_,_,_,_,_,h⟩=>h.elim,λA outer s H args us vs Q E _ _ _ _ _ ⟨_,_,_,_,_,h⟩=>h.elim⟩
theorem YC{x qual:Str}{st:Stmt}{f:Addr}{fd:FuncData}{N ps:List Str}{k n:Nat}{cm:Bool}{df:Df}(F:oJ K x qual st f fd)(S:cU N ps (au st))(hT:T n=some df)(hp:df.iC=ps.length)(hm:df.many=N.length)
  (hb:∀(cdv:Value) (A:Around) (outer:List Env) (s:Shared) (H:Hp) (E:XK),bF (k+1) A->
   vM (gA (gJ P w) P w K mg base N qual (au st) f cdv A outer s H E cm) cA aq cm (λc=>call aq T k c) (λ_ C dx H'=>E C dx H') (aK st) df.body) :
  cD P w K mg base (gJ P w) cm (k+1) f fd ps (lN K cA (call aq T (k+1) cm n)):=by
 obtain⟨oc,od,kV,doc,pm,an,cdv,ct,osl,rfl,lk,j_⟩:=F.ex;refine WT lk j_ S (λvs H Q E ⟨U,ds,s,r,hS,h⟩=>?_) λA outer s H vs Q E hr ⟨U,ds,st',r,hS,h⟩=>?_
 ·rw[<-r.len,(YB hT h).1,hp]
 ·obtain⟨hl,h2⟩:=YB hT h;exact⟨_,hb cdv A outer s H E hr,U,_,st',Yz r hl.symm hm,hS,h2⟩
theorem zmr{x qual:Str}{st:Stmt}{f:Addr}{fd:FuncData}{N ps:List Str}{k n:Nat}{cm:Bool}{df:Df}(F:oJ K x qual st f fd)(S:cU N ps (au st))(hT:T n=some df)(hp:df.iC=ps.length)(hm:df.many=N.length)
  (hb:∀(cdv:Value) (A:Around) (outer:List Env) (s:Shared) (H:Hp) (E:XK),bF k (A.deeper (envOfC qual (au st) s.heap.objs.size f cdv))->
   vM (gA (gJ P w) P w K mg base N qual (au st) f cdv A outer s H E cm) cA aq cm (λc=>call aq T k c) (λ_ C dx H'=>E C dx H') (aK st) df.body) :
  cD P w K mg base (gJ P w) cm (k+1) f fd ps (lN K cA (call aq T (k+1) cm n)):=YC F S hT hp hm λcdv A outer s H E hr=>hb cdv A outer s H E (hr.deeper _)
end
theorem zk2{K:W.Frag}{cA:Cl}{m:List Xv->M Xv}{H:Hp}{a:Addr}{ns:List Int}(hq:cT K H a (ns.map V.int))(hm:∃s',m [.d (.fl (ns.map D.int))] []=some (.ok (.d (.bl true)),s')) :
  lN K cA m [.ref a] H (λv _=>v=.bl true) λ_ _ _=>False:=by
 have rs:∀(l:List Int) U,aC K cA U H (l.map D.int) (l.map V.int):=λl U=>by
  induction l with
  |nil=>exact .nil
  |cons i l ih=>exact .cons (.int i) ih
 have hl:LstAt K ⟨λ_=>False,[]⟩ H a (ns.map V.int):=by
  rcases hq with h|h
  ·exact .inl ⟨h,λz=>z⟩
  ·exact .inr (.inr h)
 refine⟨⟨λ_=>False,[]⟩,[.d (.fl (ns.map D.int))],[],.cons (.d (.fl hl (rs ns _))) .nil,⟨rfl,(λn o b e1 e2=>by simp at e1),CZ,(λb hb=>by cases hb),(λb z=>False.elim z)⟩,?_⟩;obtain⟨s',e⟩:=hm;unfold Run;rw[e];intro U' H' _ _ v rv;cases rv with
 |d rv=>cases rv;rfl
theorem zgI:Raises X (λ_ _ _ _=>False):=λ_ _ _ _ _ _ _ _ _ _ _ _ _ z=>z.elim
theorem xG(r:bF k A):A.units+60<cLine:=by have:=r.un;lia
noncomputable def aF:Expr->Bool
 |.Starred _ _=>false
 |_=>true
theorem bI(h:aF e=true):starEach (e::es) env=(false,eval e env)::starEach es env:=by
 cases e<;>first|rfl|cases h
theorem bD:∀{es:List Expr} {env:Env} {pos:Pos},es.all aF=true->(backTo pos (starEach es env)).any (·.1)=false
 |[],_,_,_=>rfl
 |e::es,env,pos,h=>by
  rw[zQ,gQ] at h;rw[bI h.1];show (false||(backTo pos (starEach es env)).any (·.1))=false;rw[bD h.2];rfl
theorem qQ:∀{es:List Expr} {env:Env} {pos:Pos},es.all aF=true->(backTo pos (starEach es env)).all (λx=>!x.1)=true
 |[],_,_,_=>rfl
 |e::es,env,pos,h=>by
  rw[zQ,gQ] at h;rw[bI h.1];show (true&&(backTo pos (starEach es env)).all (λx=>!x.1))=true;rw[qQ h.2];rfl
theorem xH(h1:aF e=true)(h2:es.all aF=true)(h3:decide (es.length<28)=true):((backTo pos (starEach (e::es) env)).all (λx=>!x.1)&&(backToKw pos (keywordEach [] env)).all (λx=>x.1.isSome)&&decide ((e::es).length+([]:List Keyword).length+(if ([]:List Keyword).isEmpty then 0 else 1)<30))=true:=by
 rw[qQ (es:=e::es) (by rw[zQ,h1,h2];rfl)];have:=gF h3;have z:(e::es).length+([]:List Keyword).length+(if ([]:List Keyword).isEmpty then 0 else 1)<30:=by
  show es.length+1+0+0<30
  lia
 rw[gq z];rfl
noncomputable def p7(sc scope:Scope):Bool:=(match scope.kind with|.function=>true|_=>false)&&scope.names.all λy=>match y.2 with
 |.cell=>(match scope.names.lookup y.1 with|some .cell=>true|_=>false)
 |.free=>(match sc.names.lookup y.1 with|some .cell=>true|some .free=>true|_=>false)
 |.local=>(match scope.names.lookup y.1 with|some .local=>true|_=>false)
 |_=>true
theorem cg.of(h:p7 sc scope=true):cg sc scope:=by
 unfold p7 at h;rw[gQ,fu] at h;obtain⟨h1,h2⟩:=h;refine⟨?_,λy hy z=>?_,λy hy z=>?_,λy hy z=>?_⟩
 ·split at h1
  ·assumption
  ·cases h1
 ·have:=h2 y hy;rw[z] at this;dsimp only at this;split at this
  ·assumption
  ·cases this
 ·have:=h2 y hy;rw[z] at this;dsimp only at this;split at this
  ·exact .inl (by assumption)
  ·exact .inr (by assumption)
  ·cases this
 ·have:=h2 y hy;rw[z] at this;dsimp only at this;split at this
  ·assumption
  ·cases this
noncomputable def frB(scope:Scope)(XN:List Str):List Str->List Nat->Bool
 |y::N,j::fr=>(match scope.names.lookup y with|some .free=>true|_=>false)&&decide (XN[j]?=some y)&&frB scope XN N fr
 |[],[]=>true
 |_,_=>false
theorem YD:∀{N:List Str} {fr:List Nat},frB scope XN N fr=true->N.length=fr.length/\∀(i:Nat) (y:Str) (j:Nat),N[i]?=some y->fr[i]?=some j->scope.names.lookup y=some .free/\XN[j]?=some y
 |[],[],_=>⟨rfl,λi y j h=>by simp at h⟩
 |[],_::_,h=>by cases h
 |_::_,[],h=>by cases h
 |y::N,j::fr,h=>by
  unfold frB at h;rw[gQ,gQ,Fx] at h;obtain⟨⟨h1,h2⟩,h3⟩:=h;obtain⟨l,q⟩:=YD h3;refine⟨by simp[l],λi z m e1 e2=>?_⟩;cases i with
  |zero=>
   simp at e1 e2;subst e1 e2;refine⟨?_,h2⟩;split at h1
   ·assumption
   ·cases h1
  |succ i=>exact q i z m (by simpa using e1) (by simpa using e2)
noncomputable def okN(x:Str):Bool:=!(x==("__debug__" : Str)) && !(x==("__classdict__" : Str)) && !decide (x="__name__")
theorem uD(h:okN x=true):(x==("__debug__" : Str))=false/\(x==("__classdict__" : Str))=false/\x≠"__name__":=by
 unfold okN at h;simp only[gQ,Bool.not_eq_true',decide_eq_false_iff_not] at h;exact⟨h.1.1,h.1.2,h.2⟩
theorem Ly{env:Env}{k:NameKind}(hk:k≠.free):∀{names:List (Str×NameKind)} {x:Str},names.lookup x=some k->
  (names.map λ(n,k)=>if (k==NameKind.free&&env.scope.kind==.function&&env.kindOf n==some .cell) then (n,NameKind.cell) else (n,k)).lookup x=some k
 |[],x,h=>by simp at h
 |(n,q)::r,x,h=>by
  rw[o_] at h;rw[gG,o_];have hd:∀c:Bool,(if c=true then (n,NameKind.cell) else (n,q)).1=n:=λc=>by cases c<;>rfl
  rw[hd];by_cases z:x=n
  ·subst z;simp only[zL] at h ⊢;cases h
   split
   ·rename_i y;simp only[gQ,pD] at y;exact absurd y.1.1 hk
   ·rfl
  ·have z':(x==n)=false:=by simpa using z
   simp only[z'] at h ⊢;exact Ly hk h
noncomputable def uE(K:W.Frag):Sp:=λvs H Q _=>∃(a:Addr) (ns:List Int),vs=[.ref a]/\cT K H a (ns.map V.int)/\ns.length<=63/\Only H/\∀H',Q (.bl true) H'
theorem ziQ{K:W.Frag}{cA:Cl}{m:List Xv->M Xv}(hm:∀ns:List Int,ns.length<=63->∃s',m [.d (.fl (ns.map D.int))] []=some (.ok (.d (.bl true)),s'))(vs:List V)(H:Hp)(Q:VK)(E:XK)(h:uE K vs H Q E):lN K cA m vs H Q E:=by
 obtain⟨a,ns,rfl,hq,hl,hO,k⟩:=h;obtain⟨U,ds,s,r1,r2,h⟩:=zk2 (cA:=cA) (m:=m) hq (hm ns hl);refine⟨U,ds,s,r1,r2,?_⟩;unfold Run at h ⊢;split at h
 ·intro U' H' x r v rv;rw[h U' H' x r v rv];exact k H'
 ·exact λU' H' x r dx q=>(h U' H' x r dx q).elim
 ·exact h
theorem BL{K:W.Frag}{fd:FuncData}{p:Str}(h:∀a,bindArgs fd ⟨[a],[]⟩=pure [(p,a)]):Binds K fd [p] []:=.all λus hl=>by
 cases us with
 |nil=>cases hl
 |cons a r=>cases r with
  |nil=>exact h a
  |cons b r=>cases hl
theorem uF{K:W.Frag}{fd:FuncData}{p q:Str}(h:∀a b,bindArgs fd ⟨[a,b],[]⟩=pure [(p,a),(q,b)]):Binds K fd [p,q] []:=.all λus hl=>by
 cases us with
 |nil=>cases hl
 |cons a r=>cases r with
  |nil=>cases hl
  |cons b r=>cases r with
   |nil=>exact h a b
   |cons c r=>cases hl
theorem uG{K:W.Frag}{fd:FuncData}{p q t:Str}(h:∀a b c,bindArgs fd ⟨[a,b,c],[]⟩=pure [(p,a),(q,b),(t,c)]):Binds K fd [p,q,t] []:=.all λus hl=>by
 cases us with
 |nil=>cases hl
 |cons a r=>cases r with
  |nil=>cases hl
  |cons b r=>cases r with
   |nil=>cases hl
   |cons c r=>cases r with
    |nil=>exact h a b c
    |cons d r=>cases hl
theorem uH{K:W.Frag}{fd:FuncData}{p q t u:Str}(h:∀a b c d,bindArgs fd ⟨[a,b,c,d],[]⟩=pure [(p,a),(q,b),(t,c),(u,d)]):Binds K fd [p,q,t,u] []:=.all λus hl=>by
 cases us with
 |nil=>cases hl
 |cons a r=>cases r with
  |nil=>cases hl
  |cons b r=>cases r with
   |nil=>cases hl
   |cons c r=>cases r with
    |nil=>cases hl
    |cons d r=>cases r with
     |nil=>exact h a b c d
     |cons e r=>cases hl
theorem zkQ:bootBuiltins "int"=some (.type "int"):=by decide +kernel
theorem zjz:bootBuiltins "bool"=some (.type "bool"):=by decide +kernel
theorem Lz:bootBuiltins "tuple"=some (.type "tuple"):=by decide +kernel
theorem zi4:bootBuiltins "list"=some (.type "list"):=by decide +kernel
structure JE(X:Cx)(cA:Cl)(aq:Nat->Nat->Bool)(aj:Bool)(F:Fn)(EX:XS)(e:Expr)(m:E):Prop where
 o:SE X cA aq aj F EX e m
structure JA(X:Cx)(cA:Cl)(aq:Nat->Nat->Bool)(aj:Bool)(F:Fn)(EX:XS)(e:List Expr)(m:Es):Prop where
 o:SA X cA aq aj F EX e m
structure JT(X:Cx)(cA:Cl)(aq:Nat->Nat->Bool)(aj:Bool)(F:Fn)(EX:XS)(e:Expr)(m:E):Prop where
 o:ST X cA aq aj F EX e m
structure JW(X:Cx)(cA:Cl)(aq:Nat->Nat->Bool)(aj:Bool)(F:Fn)(EX:XS)(e:Expr)(m:E):Prop where
 o:SW X cA aq aj F EX e m
structure JC(X:Cx)(cA:Cl)(aq:Nat->Nat->Bool)(aj:Bool)(F:Fn)(EX:XS)(e:List Expr)(m:Eo):Prop where
 o:Bw X cA aq aj F EX e m
structure JO(X:Cx)(cA:Cl)(aq:Nat->Nat->Bool)(aj:Bool)(F:Fn)(EX:XS)(e:Option Expr)(m:Eo):Prop where
 o:Iv X cA aq aj F EX e m
structure JI(X:Cx)(cA:Cl)(aq:Nat->Nat->Bool)(aj:Bool)(F:Fn)(EX:XS)(tg e:Expr)(m:Wk):Prop where
 o:SI X cA aq aj F EX tg e m
structure JG(X:Cx)(cA:Cl)(aq:Nat->Nat->Bool)(aj:Bool)(F:Bool->Fn)(EX:XS)(e:Expr)(m:Tg):Prop where
 o:SG X cA aq aj F EX e m
structure JS(X:Cx)(cA:Cl)(aq:Nat->Nat->Bool)(aj:Bool)(F:Bool->Fn)(EX:XS)(e:Stmt)(m:St):Prop where
 o:SS X cA aq aj F EX e m
structure JB(X:Cx)(cA:Cl)(aq:Nat->Nat->Bool)(aj:Bool)(F:Bool->Fn)(EX:XS)(e:List Stmt)(m:bV):Prop where
 o:vM X cA aq aj F EX e m
structure JK(X:Cx)(x:Str)(k:NameKind):Prop where
 o:X.env.scope.names.lookup x=some k
structure JP(X:Cx)(cA:Cl)(op:CmpOp)(p:Pr):Prop where
 o:∃r,fC X (compareOp op) r/\bH X.K cA p (r2 r)
structure JQ(X:Cx)(cA:Cl)(op:Operator)(p:Pr):Prop where
 o:∃r,fC X (binaryOp op) r/\bH X.K cA p (r2 r)
structure JN(X:Cx)(cA:Cl)(kx:Expr)(k:Kd):Prop where
 o:PE X kx (tC (DK cA k))
structure JR(X:Cx)(EX:XS):Prop where
 o:Raises X EX
structure JH(X:Cx):Prop where
 o:PassesOwn (model X.prog X.w) X.A X.env X.xe
structure JY(X:Cx)(tg:Expr)(g:TG):Prop where
 o:PG X tg g
noncomputable def lA:NameKind->Bool
 |.local=>true
 |.cell=>true
 |_=>false
noncomputable def BP:NameKind->Bool
 |.local=>true
 |.cell=>true
 |.free=>true
 |_=>false
section
variable {X:Cx}{cA:Cl}{aq:Nat->Nat->Bool}{aj:Bool}{F:Fn}{EX:XS}{a b c d e:Expr}{A B C Dd E':E}{pos p p2 apos:Pos}{es:List Expr}{Xs:Es}{x y:Str}{k k':NameKind}{q q1 q2 q3:Pr}{fz:Bool}
theorem YF(h:scope.names.lookup x=some k)(hk:(match k with|.free=>false|_=>true)=true):JK (X.blk scope cl N Cc s3 H3 fp ao) x k:=
 ⟨Ly (by intro z;subst z;cases hk) h⟩
theorem YG(i:Nat)(hN:X.N[i]?=some x)(h:JK X x k)(hv:BP k=true)(hd:okN x=true):JE X cA aq aj F EX (.Name x pos) (.v i):=
 ⟨Xy i hN (by cases k<;>first|exact .inl h.o|exact .inr (.inl h.o)|exact .inr (.inr h.o)|cases hv) (uD hd).1 (uD hd).2.1⟩
theorem zoJ(i:Nat)(hN:N[i]?=some x)(h:scope.names.lookup x=some .free)(hd:okN x=true):JE (X.blk scope cl N Cc s3 H3 fp ao) cA aq aj F EX (.Name x pos) (.v i):=
 ⟨Xy i hN (.inr (K7 h)) (uD hd).1 (uD hd).2.1⟩
theorem aR{i j p}:JE X cA aq aj F EX (.Constant (.int i) j p) (.c (.int i)):=⟨zmK⟩
theorem nu{i j p}:JE X cA aq aj F EX (.Constant (.bool i) j p) (.c (.bl i)):=⟨zm3⟩
theorem DX{j p}:JE X cA aq aj F EX (.Constant .none j p) (.c .non):=⟨zmD⟩
theorem DY(h:∃t,X.mg x=some (.int i t))(hg:JK X x .globalImplicit)(hd:okN x=true):JE X cA aq aj F EX (.Name x pos) (.c (.int i)):=by
 obtain⟨t,h⟩:=h;exact⟨zi9 hg.o h (uD hd).1⟩
theorem rP:JQ X cA .Add .add:=⟨_,zfR,zlF⟩
theorem yN:JQ X cA .Sub .aq:=⟨_,zlw,zmj⟩
theorem xJ:JQ X cA .Mult .mul:=⟨_,zk8,zmF⟩
theorem zlj:JQ X cA .FloorDiv .fdiv:=⟨_,ziW,zkn⟩
theorem I_:JQ X cA .Mod .mod:=⟨_,zl9,zlX⟩
theorem zm8:JQ X cA .Pow .pow:=⟨_,zmc,zkx⟩
theorem fG(h:JQ X cA op q)(ha:JE X cA aq aj F EX a A)(hb:JE X cA aq aj F EX b B):JE X cA aq aj F EX (.BinOp a op b pos) (.pr fz q (.cons A (.cons B .nil))):=by
 obtain⟨r,h1,h2⟩:=h.o;exact⟨zmi h1 h2 ha.o hb.o⟩
theorem znx(ha:JE X cA aq aj F EX a A):JE X cA aq aj F EX (.UnaryOp .USub a pos) (.pr true .neg (.cons A .nil)):=⟨znZ Wu zmO ha.o⟩
theorem znW(ha:JE X cA aq aj F EX a A):JE X cA aq aj F EX (.UnaryOp .Not a pos) (.not A):=⟨zmG ha.o⟩
theorem BR{op}(ha:JE X cA aq aj F EX a A):JE X cA aq aj F EX (.BoolOp op [a] pos) A:=⟨zmM ha.o⟩
theorem D_{rest:List Expr}(ha:JE X cA aq aj F EX a A)(hb:JE X cA aq aj F EX (.BoolOp .And (b::rest) pos) B):JE X cA aq aj F EX (.BoolOp .And (a::b::rest) pos) (.and A B):=⟨zk7 ha.o hb.o⟩
theorem YH{rest:List Expr}(ha:JE X cA aq aj F EX a A)(hb:JE X cA aq aj F EX (.BoolOp .Or (b::rest) pos) B):JE X cA aq aj F EX (.BoolOp .Or (a::b::rest) pos) (.or A B):=⟨znb ha.o hb.o⟩
theorem Ed{k:Nat}(hr:bF k X.A):JP X cA .Eq .eq:=⟨_,zmI (xG hr),znB⟩
theorem LC{k:Nat}(hr:bF k X.A):JP X cA .NotEq .ne:=⟨_,zmA (xG hr),znm⟩
theorem xK{k:Nat}(hr:bF k X.A):JP X cA .Lt .lt:=⟨_,GQ.or (zmk (by have:=xG hr;lia)),znQ⟩
theorem YJ:JP X cA .LtE .le:=⟨_,zmY,znh⟩
theorem RL:JP X cA .Gt .gt:=⟨_,znU,zm7⟩
theorem LQ:JP X cA .GtE .ge:=⟨_,znc,znw⟩
theorem Ja{k:Nat}(hr:bF k X.A):JP X cA .In .inn:=⟨_,zmd (xG hr),znt⟩
noncomputable def oK:Expr->Bool
 |.Set _ _ _=>false
 |_=>true
theorem xM(h:oK b=true):behindInMarks op b=false:=by cases b<;>first|rfl|cases h
theorem sJ(ho:JP X cA op q)(ha:JE X cA aq aj F EX a A)(hb:JE X cA aq aj F EX b B)(h1:oK b=true:=by rfl):JE X cA aq aj F EX (.Compare a [op] [b] pos) (.pr true q (.cons A (.cons B .nil))):=by
 obtain⟨r,h2,h3⟩:=ho.o;exact⟨zkO h2 h3 ha.o hb.o (xM h1)⟩
theorem m6(ho:JP X cA op q)(ha:JE X cA aq aj F EX a A)(hb:JE X cA aq aj F EX b B)(h1:oK b=true:=by rfl):JT X cA aq aj F EX (.Compare a [op] [b] pos) (.pr true q (.cons A (.cons B .nil))):=by
 obtain⟨r,h2,h3⟩:=ho.o;exact⟨zkP h2 h3 ha.o hb.o (xM h1)⟩
theorem znq(h1:JP X cA op q1)(h2:JP X cA op' q2)(ha:JE X cA aq aj F EX a A)(hb:JE X cA aq aj F EX b B)(hc:JE X cA aq aj F EX c C)(hm:oK c=true:=by rfl):JE X cA aq aj F EX (.Compare a [op,op'] [b,c] pos) (.yC q1 q2 A B C):=by
 obtain⟨r,h3,h4⟩:=h1.o;obtain⟨r',h5,h6⟩:=h2.o;exact⟨zmp h3 h4 h5 h6 ha.o hb.o hc.o (xM hm)⟩
theorem znA{j p}(ha:JE X cA aq aj F EX a A):JE X cA aq aj F EX (.Compare a [.Is] [.Constant .none j p] pos) (.pr true .vJ (.cons A .nil)):=⟨zly ha.o⟩
theorem YK{j p}(ha:JE X cA aq aj F EX a A):JE X cA aq aj F EX (.Compare a [.IsNot] [.Constant .none j p] pos) (.pr true .sG (.cons A .nil)):=⟨zjJ ha.o⟩
theorem YL{j p}(ha:JE X cA aq aj F EX a A):JT X cA aq aj F EX (.Compare a [.Is] [.Constant .none j p] pos) (.pr true .vJ (.cons A .nil)):=⟨zkS ha.o⟩
theorem RM{j p}(ha:JE X cA aq aj F EX a A):JT X cA aq aj F EX (.Compare a [.IsNot] [.Constant .none j p] pos) (.pr true .sG (.cons A .nil)):=⟨zjG ha.o⟩
noncomputable def yO:Expr->Bool
 |.Call _ _ _ _=>true
 |.Name _ _=>true
 |.Subscript _ _ _=>true
 |.Attribute _ _ _=>true
 |_=>false
theorem jW(ha:JE X cA aq aj F EX a A)(he:yO a=true:=by rfl):JT X cA aq aj F EX a A:=⟨zlY ha.o (by cases a<;>first|(intro _;rfl)|cases he)⟩
theorem p8(ha:JT X cA aq aj F EX a A):JT X cA aq aj F EX (.UnaryOp .Not a pos) (.not A):=⟨zl2 ha.o⟩
theorem RN(ha:JT X cA aq aj F EX a A):JW X cA aq aj F EX (.BoolOp .And [a] pos) A:=⟨zkj ha.o⟩
theorem RP(ha:JT X cA aq aj F EX a A):JW X cA aq aj F EX (.BoolOp .Or [a] pos) A:=⟨zmx ha.o⟩
theorem RQ{rest:List Expr}(ha:JT X cA aq aj F EX a A)(hb:JW X cA aq aj F EX (.BoolOp .And (b::rest) pos) B):JW X cA aq aj F EX (.BoolOp .And (a::b::rest) pos) (.and A B):=⟨zkw ha.o hb.o⟩
theorem RT{rest:List Expr}(ha:JT X cA aq aj F EX a A)(hb:JW X cA aq aj F EX (.BoolOp .Or (b::rest) pos) B):JW X cA aq aj F EX (.BoolOp .Or (a::b::rest) pos) (.or A B):=⟨znv ha.o hb.o⟩
theorem Ef(h:JW X cA aq aj F EX a A):JT X cA aq aj F EX a A:=⟨zoO h.o⟩
theorem RV(hc:JT X cA aq aj F EX c C)(ha:JE X cA aq aj F EX a A)(hb:JE X cA aq aj F EX b B):JE X cA aq aj F EX (.IfExp c a b pos) (.ite C A B):=⟨zl6 hc.o ha.o hb.o⟩
theorem aH:JA X cA aq aj F EX [] .nil:=⟨zlp⟩
theorem aA(ha:JE X cA aq aj F EX a A)(hr:JA X cA aq aj F EX es Xs)(hs:aF a=true:=by rfl):JA X cA aq aj F EX (a::es) (.cons A Xs):=⟨zjs ha.o hr.o (bI hs)⟩
theorem gM{k}(ha:JA X cA aq aj F EX es Xs)(hz:decide (Es.len Xs<=sizeLine)=true:=by rfl):JE X cA aq aj F EX (.Tuple es k pos) (.tup Xs):=⟨zmg ha.o (gF hz)⟩
theorem uI(ha:JA X cA aq aj F EX es Xs)(hz:decide (Es.len Xs<=sizeLine)=true:=by rfl):JE X cA aq aj F EX (.List es pos) (.lst fz Xs):=⟨zkJ ha.o (gF hz)⟩
noncomputable def uJ:Expr->Bool
 |.Constant _ _ _=>true
 |.Name _ _=>true
 |.Call _ _ _ _=>true
 |.BinOp _ _ _ _=>true
 |.UnaryOp _ _ _=>true
 |.Subscript _ _ _=>true
 |.IfExp _ _ _ _=>true
 |.Attribute _ _ _=>true
 |.Compare _ _ _ _=>true
 |.BoolOp _ _ _=>true
 |_=>false
theorem fH(ha:JE X cA aq aj F EX a A)(hb:JE X cA aq aj F EX b B)(hs:uJ b=true:=by rfl):JE X cA aq aj F EX (.Subscript a b pos) (.pr true .ix (.cons A (.cons B .nil))):=⟨znu zna ha.o hb.o (by cases b<;>first|(intro _ _;rfl)|cases hs)⟩
theorem zoK:JO X cA aq aj F EX none .no:=⟨znO⟩
theorem RW(ha:JE X cA aq aj F EX a A):JO X cA aq aj F EX (some a) (.yes A):=⟨zkC ha.o⟩
theorem YM{lo hi:Option Expr}{Lo Hi:Eo}(ha:JE X cA aq aj F EX a A)(hl:JO X cA aq aj F EX lo Lo)(hh:JO X cA aq aj F EX hi Hi):JE X cA aq aj F EX (.Subscript a (.Slice lo hi none p2) pos) (.sl fz A Lo Hi):=⟨znD ha.o hl.o hh.o⟩
theorem YQ(ha:JE X cA aq aj F EX a A):JE X cA aq aj F EX (.Subscript a (.Slice none none (some (.UnaryOp .USub (.Constant (.int 1) j p3) p4)) p2) pos) (.pr true .rev (.cons A .nil)):=⟨zl1 ha.o⟩
theorem zl8(f:Nat){cm:Bool}{k:Nat}{fa:Addr}{fd:FuncData}{ps:List Str}(Fo:cD X.prog X.w X.K X.mg X.base (gJ X.prog X.w) cm k fa fd ps (lN X.K cA (F f)))(ju:cm=true->X.aj=true)(hr:bF k X.A)(hm:X.mg x=some (.ref fa))(hk:PySem.W.keepIn X.K (.ref fa)=true)(hb:Binds X.K fd ps [])(R:JR X EX)(hg:JK X x .globalImplicit)
  (ha:JA X cA aq aj F EX (e::es) Xs) (hd:okN x=true) (he:aF e=true:=by rfl) (hpl:es.all aF=true:=by rfl) :
  JE X cA aq aj F EX (.Call (.Name x p) (e::es) [] pos) (.call f Xs):=⟨ziV Fo ju hr hg.o hm hk hb R.o ha.o (uD hd).1 (bI he) (bD hpl)⟩
theorem LR(hv:DK cA kd=.ty T)(hm:X.mg x=none)(hb:bootBuiltins x=some (.type T))(hg:JK X x .globalImplicit)(hd:okN x=true):JN X cA (.Name x pos) kd:=⟨λao s Z H Q I h=>by
 rw[hv] at h;exact wA I hg.o hm hb ⟨.ty T,H,I,rfl,h⟩ (uD hd).2.2 (uD hd).1⟩
theorem L_(h0:(uw kd).isSome=true)(hm:X.mg "isinstance"=none)(hg:JK X "isinstance" .globalImplicit)(ha:JE X cA aq aj F EX a A)(hk:JN X cA kx kd)(h1:aF a=true:=by rfl)(h2:aF kx=true:=by rfl):JE X cA aq aj F EX (.Call (.Name "isinstance" p) [a,kx] [] pos) (.qK A kd):=
 ⟨zmL (λz=>by rw[z] at h0;cases h0) hg.o hm ha.o hk.o (bI h1) (bI h2) (bD (by rw[zQ,h2];rfl))⟩
theorem yP(hm:X.mg "len"=none)(hg:JK X "len" .globalImplicit)(ha:JA X cA aq aj F EX (e::es) Xs)(he:aF e=true:=by rfl)(hpl:es.all aF=true:=by rfl):JE X cA aq aj F EX (.Call (.Name "len" p) (e::es) [] pos) (.pr fz .len Xs):=⟨yK zdD zlT hg.o hm PySem.boot_len ha.o (by decide) (by decide) (bI he) (bD hpl)⟩
theorem znI(hm:X.mg "abs"=none)(hg:JK X "abs" .globalImplicit)(ha:JA X cA aq aj F EX (e::es) Xs)(he:aF e=true:=by rfl)(hpl:es.all aF=true:=by rfl):JE X cA aq aj F EX (.Call (.Name "abs" p) (e::es) [] pos) (.pr fz .abs Xs):=⟨yK zhG zk9 hg.o hm PyProof.Rows.boot_abs ha.o (by decide) (by decide) (bI he) (bD hpl)⟩
theorem YS(hc:X.aj=true)(hm:X.mg "max"=none)(hg:JK X "max" .globalImplicit)(ha:JA X cA aq aj F EX (e::es) Xs)(he:aF e=true:=by rfl)(hpl:es.all aF=true:=by rfl):JE X cA aq aj F EX (.Call (.Name "max" p) (e::es) [] pos) (.pr fz .max2 Xs):=⟨yK (zfC hc) ziX hg.o hm PyProof.Rows.boot_max ha.o (by decide) (by decide) (bI he) (bD hpl)⟩
theorem YT(hc:X.aj=true)(hm:X.mg "min"=none)(hg:JK X "min" .globalImplicit)(ha:JA X cA aq aj F EX (e::es) Xs)(he:aF e=true:=by rfl)(hpl:es.all aF=true:=by rfl):JE X cA aq aj F EX (.Call (.Name "min" p) (e::es) [] pos) (.pr fz .min2 Xs):=⟨yK (zf8 hc) zkc hg.o hm PyProof.Rows.boot_min ha.o (by decide) (by decide) (bI he) (bD hpl)⟩
theorem zlH(hm:X.mg "int"=none)(hg:JK X "int" .globalImplicit)(ha:JA X cA aq aj F EX (e::es) Xs)(he:aF e=true:=by rfl)(hpl:es.all aF=true:=by rfl):JE X cA aq aj F EX (.Call (.Name "int" p) (e::es) [] pos) (.pr fz .wQ Xs):=⟨Ri zfx zi2 hg.o hm PyProof.Rows.boot_int ha.o (by decide) (by decide) (bI he) (bD hpl)⟩
theorem zho(hm:X.mg "divmod"=none)(hg:JK X "divmod" .globalImplicit)(ha:JA X cA aq aj F EX (e::es) Xs)(he:aF e=true:=by rfl)(hpl:es.all aF=true:=by rfl):JE X cA aq aj F EX (.Call (.Name "divmod" p) (e::es) [] pos) (.pr fz .divmod Xs):=⟨yK zd1 zgA hg.o hm PyProof.Rows.boot_divmod ha.o (by decide) (by decide) (bI he) (bD hpl)⟩
theorem Eh(hc:X.aj=true)(hm:X.mg "all"=none)(hg:JK X "all" .globalImplicit)(ha:JA X cA aq aj F EX (e::es) Xs)(he:aF e=true:=by rfl)(hpl:es.all aF=true:=by rfl):JE X cA aq aj F EX (.Call (.Name "all" p) (e::es) [] pos) (.pr fz .all Xs):=⟨yK (zfL hc) zmo hg.o hm PyProof.Rows.boot_all ha.o (by decide) (by decide) (bI he) (bD hpl)⟩
theorem zlq(hm:X.mg "list"=none)(hg:JK X "list" .globalImplicit)(ha:JA X cA aq aj F EX (e::es) Xs)(he:aF e=true:=by rfl)(hpl:es.all aF=true:=by rfl):JE X cA aq aj F EX (.Call (.Name "list" p) (e::es) [] pos) (.pr fz .list Xs):=⟨Ri zdd zj2 hg.o hm zi4 ha.o (by decide) (by decide) (bI he) (bD hpl)⟩
theorem xO(hm:X.mg "tuple"=none)(hg:JK X "tuple" .globalImplicit)(ha:JA X cA aq aj F EX (e::es) Xs)(he:aF e=true:=by rfl)(hpl:es.all aF=true:=by rfl):JE X cA aq aj F EX (.Call (.Name "tuple" p) (e::es) [] pos) (.pr fz .tuple Xs):=⟨Ri zcQ zhU hg.o hm Lz ha.o (by decide) (by decide) (bI he) (bD hpl)⟩
theorem RX(ho:JE X cA aq aj F EX a A)(hb:JE X cA aq aj F EX b B)(nU:attributeBase a "append" X.env (eval a X.env)=eval a X.env:=by rfl)(nW:(apos.endLine==pos.line)=true:=by rfl)(hs:aF b=true:=by rfl) :
  JE X cA aq aj F EX (.Call (.Attribute a "append" apos) [b] [] pos) (.push A B):=⟨zjn ho.o hb.o nU (xH hs rfl rfl) nW (bI hs) rfl⟩
theorem oM:JC X cA aq aj F EX [] .no:=⟨zkz⟩
theorem yQ(h:JT X cA aq aj F EX c C):JC X cA aq aj F EX [c] (.yes C):=⟨ziN h.o⟩
theorem oN(ha:JE X cA aq aj F EX a A):JI X cA aq aj F EX tg a (.seq A):=⟨zln ha.o⟩
theorem Ma(hmg:X.mg "range"=none)(oF:JK X "range" .globalImplicit)(ha:JE X cA aq aj F EX a A)(hb:JE X cA aq aj F EX b B)(h1:aF a=true:=by rfl)(h2:aF b=true:=by rfl):JI X cA aq aj F EX tg (.Call (.Name "range" p) [a,b] [] pos) (.rg A B):=⟨zm5 oF.o hmg ha.o hb.o (bI h1) (bI h2)⟩
theorem uK(hmg:X.mg "range"=none)(oF:JK X "range" .globalImplicit)(hb:JE X cA aq aj F EX b B)(h2:aF b=true:=by rfl):JI X cA aq aj F EX tg (.Call (.Name "range" p) [b] [] pos) (.rg (.c (.int 0)) B):=⟨zlG oF.o hmg hb.o (bI h2)⟩
noncomputable def Jc(scope:Scope)(x:Str):Bool:=match scope.names.lookup x with
 |some .local=>true
 |some .cell=>true
 |_=>false
theorem Ej(h:Jc scope x=true):Loc (X.blk scope cl N Cc s3 H3 fp ao).env.scope x/\((X.blk scope cl N Cc s3 H3 fp ao).fn x=true\/(X.blk scope cl N Cc s3 H3 fp ao).env.scope.names.lookup x=some .local):=by
 unfold Jc at h;split at h
 ·rename_i z;exact⟨.inl (lookup_relabel_local z),.inr (lookup_relabel_local z)⟩
 ·rename_i z;exact⟨.inr (Ly (by intro y;cases y) z),.inl (by show (scope.names.lookup x==some NameKind.cell)=true;rw[z];rfl)⟩
 ·cases h
theorem kE(i:Nat)(RZ:N.Nodup)(hi:N[i]?=some x)(hl:Jc scope x=true):JY (X.blk scope cl N Cc s3 H3 fp ao) (.Name x tp) (dz i):=
 ⟨KN RZ hi (Ej hl).1 (Ej hl).2⟩
theorem Jd(i j:Nat)(hc:X.aj=true)(RZ:N.Nodup)(hi:N[i]?=some x)(hj:N[j]?=some y)(hl:Jc scope x=true)(vL:Jc scope y=true):JY (X.blk scope cl N Cc s3 H3 fp ao) (.Tuple [.Name x px,.Name y py] kt tp) (tG X.K 2 (iw (dz i) (iw (dz j) tD))):=
 ⟨RJ (X:=X.blk scope cl N Cc s3 H3 fp ao) hc RZ hi hj (Ej hl).1 (Ej vL).1 (Ej hl).2 (Ej vL).2⟩
theorem vN{scope:Scope}{XN:List Str}{M0 N:List Str}{fr:List Nat}(h:frB scope XN N fr=true):(M0++N).length=M0.length+fr.length/\∀(i:Nat) (y:Str) (j:Nat),(M0++N)[M0.length+i]?=some y->fr[i]?=some j->scope.names.lookup y=some .free/\XN[j]?=some y:=by
 obtain⟨l,q⟩:=YD h;refine⟨by rw[lD,l],λi y j e1 e2=>q i y j ?_ e2⟩;rw[o8 (by lia)] at e1;rw[show M0.length+i-M0.length=i by lia] at e1;exact e1
theorem lO{elt iter tg:Expr}{ifs:List Expr}{scope:Scope}{cond:Eo}{aL:List Nat}{g:TG}{w:Wk}(sc:Scope)(XN M0 N:List Str)(fr:List Nat)(hc:X.aj=true)(BW:X.env.scope=sc)(oG:X.N=XN)(hB:p7 sc scope=true)(hf:frB scope XN N fr=true)(hT:dH X.K cA g aL)(cV:aL.all (λi=>decide (i<M0.length))=true)
  (hi:JI X cA aq aj F EX tg iter w) (hg:∀cl C s3 H3 fp ao,JY (X.blk scope cl (M0++N) C s3 H3 fp ao) tg g)
  (ht:∀cl C s3 H3 fp ao,JC (X.blk scope cl (M0++N) C s3 H3 fp ao) cA aq aj F (λ_ _ _ _=>False) ifs cond) (he:∀cl C s3 H3 fp ao,JE (X.blk scope cl (M0++N) C s3 H3 fp ao) cA aq aj F (λ_ _ _ _=>False) elt B)
  (hs:∀x,foldedSetIterable iter X.env x=pure x:=by intro _;rfl):JE X cA aq aj F EX (.ListComp elt [⟨tg,iter,ifs,0⟩] scope pos) (.comp fz B aL w fr M0.length cond):=
 ⟨Yw hc (cg.of (BW▸hB)) hi.o (vN (oG▸hf)).1 (vN (oG▸hf)).2 (λa b c d e f=>(hg a b c d e f).o) hT (λi hi=>gF (fu.mp cV i hi)) (λa b c d e f=>(ht a b c d e f).o) (λa b c d e f=>(he a b c d e f).o) hs⟩
theorem Kaa{scope eG:Scope}{env:Env}(h:cg scope eG):cg (relabel scope env) eG:=⟨h.kind,h.Xd,λy hy z=>by
 rcases h.free y hy z with q|q
 ·exact .inl (Ly (by intro y;cases y) q)
 ·exact K7 q,h.loc⟩
theorem YW{elt iter tg:Expr}{ifs:List Expr}{scope eG:Scope}{cond:Eo}{aL:List Nat}{g:TG}{w:Wk}{cl:List (Str×Addr)}{yR:List Str}{Cc:Addr}{s3:Shared}{H3:Hp}{fp:List Addr}{ao:List (Addr×Obj)}(XN M0 N:List Str)(fr:List Nat)(hc:X.aj=true)(oG:yR=XN)(hB:p7 scope eG=true)(hf:frB eG XN N fr=true)(hT:dH X.K cA g aL)(cV:aL.all (λi=>decide (i<M0.length))=true)
  (hi:JI (X.blk scope cl yR Cc s3 H3 fp ao) cA aq aj F EX tg iter w) (hg:∀cl2 C s3' Je fp' jf,JY ((X.blk scope cl yR Cc s3 H3 fp ao).blk eG cl2 (M0++N) C s3' Je fp' jf) tg g)
  (ht:∀cl2 C s3' Je fp' jf,JC ((X.blk scope cl yR Cc s3 H3 fp ao).blk eG cl2 (M0++N) C s3' Je fp' jf) cA aq aj F (λ_ _ _ _=>False) ifs cond) (he:∀cl2 C s3' Je fp' jf,JE ((X.blk scope cl yR Cc s3 H3 fp ao).blk eG cl2 (M0++N) C s3' Je fp' jf) cA aq aj F (λ_ _ _ _=>False) elt B)
  (hs:∀x,foldedSetIterable iter (X.blk scope cl yR Cc s3 H3 fp ao).env x=pure x:=by intro _;rfl):JE (X.blk scope cl yR Cc s3 H3 fp ao) cA aq aj F EX (.ListComp elt [⟨tg,iter,ifs,0⟩] eG pos) (.comp fz B aL w fr M0.length cond):=by
 subst oG;exact⟨Yw (X:=X.blk scope cl yR Cc s3 H3 fp ao) hc (Kaa (cg.of hB)) hi.o (vN hf).1 (vN hf).2 (λa b c d e f=>(hg a b c d e f).o) hT (λi hi=>gF (fu.mp cV i hi)) (λa b c d e f=>(ht a b c d e f).o) (λa b c d e f=>(he a b c d e f).o) hs⟩
theorem yS:JR X (λ_ _ _ _=>False):=⟨zgI⟩
theorem bN{P:Program}{w:World}{K:W.Frag}{mg:Str->Option Value}{base:Heap}{N:List Str}{qual:Str}{scope:Scope}{f:Addr}{cd:Value}{A:Around}{outer:List Env}{s:Shared}{H:Hp}{E:XK}{cm:Bool} :
  JR (gA (gJ P w) P w K mg base N qual scope f cd A outer s H E cm) (λ_ C dx H'=>E C dx H'):=⟨zfg⟩
theorem vO{CX:sE}{P:Program}{w:World}{K:W.Frag}{mg:Str->Option Value}{base:Heap}{N:List Str}{qual:Str}{scope:Scope}{f:Addr}{cd:Value}{A:Around}{outer:List Env}{s:Shared}{H:Hp}{E:XK}{cm:Bool} :
  JH (gA CX P w K mg base N qual scope f cd A outer s H E cm):=⟨PassesOwn.leaving⟩
end
section
variable {X:Cx}{cA:Cl}{aq:Nat->Nat->Bool}{aj:Bool}{F:Bool->Fn}{EX:XS}{a b c d e:Expr}{A B C:E}{pos p p2:Pos}{st:Stmt}{sts body orelse:List Stmt}{m:St}{ms mb me mh:bV}{es:List Expr}{Xs:Es}{x y n:Str}{k k':NameKind}
theorem vP(h:JK X x k)(hv:lA k=true):Loc X.env.scope x:=by cases k<;>first|exact .inl h.o|exact .inr h.o|cases hv
theorem vQ(h:JK X x k)(hv:X.fn x=true\/k=.local):X.fn x=true\/X.env.scope.names.lookup x=some .local:=by
 rcases hv with hv|hv
 ·exact .inl hv
 ·subst hv;exact .inr h.o
theorem aO:JB X cA aq aj F EX [] .nil:=⟨ziO⟩
theorem aG(h1:JS X cA aq aj F EX st m)(h2:JB X cA aq aj F EX sts ms):JB X cA aq aj F EX (st::sts) (.cons m ms):=⟨zh2 h1.o h2.o⟩
theorem Jf:JS X cA aq aj F EX st .no:=⟨zne⟩
theorem nA(ha:JE X cA aq aj (F aj) EX a A)(hs:swapsWith a none pos.line X.env=pure false:=by rfl):JS X cA aq aj F EX (.Expr a pos) (.ex A):=⟨znC ha.o hs⟩
theorem bW(ha:JE X cA aq aj (F aj) EX a A):JS X cA aq aj F EX (.Return (some a) pos) (.ret A):=⟨zkR ha.o⟩
theorem fK(i:Nat)(hN:X.N.Nodup)(hi:X.N[i]?=some x)(hx:JK X x k)(hl:lA k=true)(ha:JE X cA aq aj (F aj) EX a A)(hs:swapsWith a (some (.Name x p)) pos.line X.env=pure false:=by rfl)(hf:X.fn x=true\/k=.local:=by first|exact .inl rfl|exact .inr rfl):JS X cA aq aj F EX (.Assign [.Name x p] a pos) (.asg (.nm i) A):=
 ⟨zkA hN hi (vP hx hl) ha.o hs (vQ hx hf)⟩
theorem zmb{elt iter tg:Expr}{ifs:List Expr}{scope:Scope}{cond:Eo}{aL:List Nat}{g:TG}{w:Wk}{fz:Bool}{py spos:Pos}(i:Nat)(sc:Scope)(XN M0 N:List Str)(fr:List Nat)(hN:X.N.Nodup)(tX:X.N[i]?=some y)(hx:JK X y k)(hl:lA k=true)(hc:X.aj=true)(BW:X.env.scope=sc)(oG:X.N=XN)(hB:p7 sc scope=true)(hf:frB scope XN N fr=true)(hT:dH X.K cA g aL)(cV:aL.all (λi=>decide (i<M0.length))=true)
  (hi:JI X cA aq aj (F aj) EX tg iter w) (hg:∀cl C s3 H3 fp ao,JY (X.blk scope cl (M0++N) C s3 H3 fp ao) tg g)
  (ht:∀cl C s3 H3 fp ao,JC (X.blk scope cl (M0++N) C s3 H3 fp ao) cA aq aj (F aj) (λ_ _ _ _=>False) ifs cond) (he:∀cl C s3 H3 fp ao,JE (X.blk scope cl (M0++N) C s3 H3 fp ao) cA aq aj (F aj) (λ_ _ _ _=>False) elt B)
  (tY:swapsWith (.ListComp elt [⟨tg,iter,ifs,0⟩] scope pos) (some (.Name y py)) spos.line X.env=pure true:=by rfl) (R0:X.fn y=true\/k=.local:=by first|exact .inl rfl|exact .inr rfl) (hs:∀x,foldedSetIterable iter X.env x=pure x:=by intro _;rfl) :
  JS X cA aq aj F EX (.Assign [.Name y py] (.ListComp elt [⟨tg,iter,ifs,0⟩] scope pos) spos) (.asg (.nm i) (.comp fz B aL w fr M0.length cond)):=
 ⟨zjd hc hN tX (vP hx hl) (vQ hx R0) (cg.of (BW▸hB)) hi.o (vN (oG▸hf)).1 (vN (oG▸hf)).2 (λa b c d e f=>(hg a b c d e f).o) hT (λi hi=>gF (fu.mp cV i hi)) (λa b c d e f=>(ht a b c d e f).o) (λa b c d e f=>(he a b c d e f).o) tY hs⟩
theorem yU(i j:Nat){k0}(hc:X.aj=true)(eF:aj=true)(hN:X.N.Nodup)(hi:X.N[i]?=some x)(hj:X.N[j]?=some y)(hx:JK X x k)(hy:JK X y k')(R3:lA k=true)(R4:lA k'=true)(ha:JE X cA aq aj (F aj) EX a A)
  (xr:X.fn x=true\/k=.local:=by first|exact .inl rfl|exact .inr rfl) (xu:X.fn y=true\/k'=.local:=by first|exact .inl rfl|exact .inr rfl)
  (hs:swapsWithSole [.Tuple [.Name x px,.Name y py] k0 pt] a pos.line X.env=pure false:=by rfl) (hw:swappedStores [.Tuple [.Name x px,.Name y py] k0 pt] a X.env=pure none:=by rfl) (h1:(assignEach [.Tuple [.Name x px,.Name y py] k0 pt] X.env).map (·.2)=[assign (.Tuple [.Name x px,.Name y py] k0 pt) X.env]:=by rfl) :
  JS X cA aq aj F EX (.Assign [.Tuple [.Name x px,.Name y py] k0 pt] a pos) (.asg (.tp [i,j]) A):=⟨zjD hc eF hN hi hj (vP hx R3) (vP hy R4) (vQ hx xr) (vQ hy xu) ha.o hs hw h1⟩
theorem Mf(hO:JE X cA aq aj (F aj) EX oo O)(hI:JE X cA aq aj (F aj) EX ii I')(ha:JE X cA aq aj (F aj) EX a A)
  (RK:∀v,assign (.Subscript oo ii p) X.env v=(do
   let obj <-holding [v] (eval oo X.env)
   let at_ <-holding [v,obj] (eval ii X.env)
   standAt p
   holding [v,obj,at_] (setItem obj at_ v)
   release [v,obj,at_] []):=by intro _;rfl) (hs:swapsWithSole [.Subscript oo ii p] a pos.line X.env=pure false:=by rfl) (hw:swappedStores [.Subscript oo ii p] a X.env=pure none:=by rfl)
  (h1:(assignEach [.Subscript oo ii p] X.env).map (·.2)=[assign (.Subscript oo ii p) X.env]:=by rfl):JS X cA aq aj F EX (.Assign [.Subscript oo ii p] a pos) (.asg (.aq O I') A):=⟨zkH hO.o hI.o ha.o RK hs hw h1⟩
theorem znr(i:Nat)(hN:X.N.Nodup)(hi:X.N[i]?=some x)(hx:JK X x k)(hl:lA k=true)(ha:JE X cA aq aj (F aj) EX a A)(hf:X.fn x=true\/k=.local:=by first|exact .inl rfl|exact .inr rfl)(hd:okN x=true:=by decide +kernel):JS X cA aq aj F EX (.AugAssign (.Name x p) .Add a pos) (.aug i A):=
 ⟨zlr (pos':=pos) hN hi (vP hx hl) ha.o (vQ hx hf) (zk3 hN hi (vP hx hl) ha.o zlv (vQ hx hf))⟩
theorem gW(hc:JT X cA aq aj (F aj) EX c C)(ht:JB X cA aq aj F EX body mb)(he:JB X cA aq aj F EX orelse me):JS X cA aq aj F EX (.If c body orelse pos) (.iff C mb me):=⟨zm9 hc.o ht.o he.o⟩
theorem zjc(hp:JH X)(hc:JT X cA aq aj (F aj) EX c C)(hb:JB X cA aq aj F EX body mb):JS X cA aq aj F EX (.While c body [] pos) (.wh C mb):=⟨zhg hp.o hc.o hb.o⟩
theorem BX(i:Nat)(hN:X.N.Nodup)(hi:X.N[i]?=some x)(hx:JK X x k)(hl:lA k=true)(hf:X.fn x=true\/k=.local:=by first|exact .inl rfl|exact .inr rfl):JG X cA aq aj F EX (.Name x pos) (.nm i):=⟨zjp hN hi (vP hx hl) (vQ hx hf)⟩
theorem YX(i j:Nat){k0}(hc:X.aj=true)(eF:aj=true)(hN:X.N.Nodup)(hi:X.N[i]?=some x)(hj:X.N[j]?=some y)(hx:JK X x k)(hy:JK X y k')(R3:lA k=true)(R4:lA k'=true)(xr:X.fn x=true\/k=.local:=by first|exact .inl rfl|exact .inr rfl)(xu:X.fn y=true\/k'=.local:=by first|exact .inl rfl|exact .inr rfl) :
  JG X cA aq aj F EX (.Tuple [.Name x px,.Name y py] k0 pos) (.tp [i,j]):=⟨ziZ hc eF hN hi hj (vP hx R3) (vP hy R4) (vQ hx xr) (vQ hy xu)⟩
theorem xP(hp:JH X)(hc:X.aj=true)(eF:aj=true)(ha:JI X cA aq aj (F aj) EX tg a w)(hg:JG X cA aq aj F EX tg t)(hb:JB X cA aq aj F EX body mb)(hs:∀x,foldedSetIterable a X.env x=pure x:=by intro _;rfl):JS X cA aq aj F EX (.For tg a body [] pos) (.fr t w mb):=
 ⟨zlO hp.o hc eF ha.o hg.o hb.o hs⟩
end
theorem YZ{P:Program}{w:World}{K:W.Frag}{mg:Str->Option Value}{base:Heap}{cA:Cl}{aq:Nat->Nat->Bool}{T:Nat->Option Df}{x qual:Str}{st:Stmt}{f:Addr}{fd:FuncData}{N ps:List Str}{k n:Nat}{cm:Bool}{df:Df}(F:oJ K x qual st f fd)(S:cU N ps (au st))(hT:T n=some df)(hp:df.iC=ps.length)(hm:df.many=N.length)
  (hb:∀(cdv:Value) (A:Around) (outer:List Env) (s:Shared) (H:Hp) (E:XK),bF k (A.deeper (envOfC qual (au st) s.heap.objs.size f cdv))->
   JB (gA (gJ P w) P w K mg base N qual (au st) f cdv A outer s H E cm) cA aq cm (λc=>call aq T k c) (λ_ C dx H'=>E C dx H') (aK st) df.body) :
  cD P w K mg base (gJ P w) cm (k+1) f fd ps (lN K cA (call aq T (k+1) cm n)):=zmr F S hT hp hm λcdv A outer s H E hr=>(hb cdv A outer s H E hr).o
section
variable {K:W.Frag}{cA:Cl}{U:Ph}{H:Hp}{kvs:iR}{xs:mY}{k:List Kx}
theorem jg.len(r:jg K cA U H kvs xs):kvs.length=xs.length:=by
 induction r with
 |nil=>rfl
 |cons _ _ _ _ ih=>rw[f9,f9,ih]
theorem zjH{j:List Kx}{a:Addr}{u:Value}{r:mY}:atKey ((j,a,u)::r) k=if j=k then some (a,u) else atKey r k:=by
 unfold atKey;rw[List.find?_cons];by_cases e:j=k
 ·simp[e]
 ·simp[e]
theorem jg.at(r:jg K cA U H kvs xs):(cj k kvs=none/\atKey xs k=none)\/∃d p v,cj k kvs=some d/\atKey xs k=some p/\RelV v p.2/\Rep K cA U H d v:=by
 induction r with
 |nil=>exact .inl ⟨rfl,rfl⟩
 |@cons j d ka u v r xs hk hu hv q ih=>
  rw[zjH];unfold cj;by_cases e:j=k
  ·rw[if_pos e,if_pos e];exact .inr ⟨d,(ka,u),v,rfl,rfl,hu,hv⟩
  ·rw[if_neg e,if_neg e];exact ih
theorem jg.isSome(r:jg K cA U H kvs xs):(atKey xs k).isSome=(cj k kvs).isSome:=by
 rcases r.at (k:=k) with ⟨a,b⟩|⟨d,p,v,a,b,_⟩<;>rw[a,b]<;>rfl
theorem jg.app{kvs':iR}{xs':mY}(r:jg K cA U H kvs xs)(r':jg K cA U H kvs' xs'):jg K cA U H (kvs++kvs') (xs++xs'):=by
 induction r with
 |nil=>exact r'
 |cons a b c _ ih=>exact .cons a b c ih
theorem jg.put{ka:Addr}{u:Value}{v:V}{d:D}(r:jg K cA U H kvs xs)(hk:Rep K cA U H (i_ k) (.ref ka))(hu:RelV v u)(hv:Rep K cA U H d v):jg K cA U H (jy k d kvs) (storedH xs k ka u):=by
 unfold jy storedH;rw[r.isSome];by_cases e:(cj k kvs).isSome=true
 ·rw[if_pos e,if_pos e];clear e
  induction r with
  |nil=>exact .nil
  |@cons j d' Y0 u' v' r xs Y4 hu' Px q ih=>
   rw[gG,gG];show jg K cA U H ((if j=k then (j,d) else (j,d'))::_) ((if j=k then (j,Y0,u) else (j,Y0,u'))::_);by_cases e:j=k
   ·rw[if_pos e,if_pos e];exact .cons Y4 hu hv ih
   ·rw[if_neg e,if_neg e];exact .cons Y4 hu' Px ih
 ·rw[if_neg e,if_neg e];exact r.app (.cons hk hu hv .nil)
end
section
variable {X:Cx}{cA:Cl}{ao:List (Addr×Obj)}{Z:L2.St}{H:Hp}{s:Shared}{U:Ph}{a:Addr}{kvs:iR}{xs:mY}{k:List Kx}{y v:V}{u:Value}{A:Around}{E:Value->Shared->Prop}
theorem R5(I:Inv X ao Z H s)(e:H a=some (uf a xs))(r:jg X.K cA U H kvs xs):(a==sysModules)=false/\xs.length<=sizeLine/\s.heap.DictOfH (jH X.prog X.w) a xs:=by
 have z:=(I.hok a _ e).1;obtain⟨h1,h2,o,es,ep,h3,h4,h5,h6,h7⟩:=z;refine⟨h1,h2,o,es,ep,h3,h4,h5,h6,?_,h7⟩;clear h2 h6 h7 e
 induction r with
 |nil=>exact λx hx=>nomatch hx
 |cons hk hu hv q ih=>exact List.forall_mem_cons.mpr ⟨rO I hk rfl,ih⟩
theorem R6{d:D}(hk:Rep X.K cA U H (i_ k) y):∃b,y=.ref b:=by cases hk;exact⟨_,rfl⟩
noncomputable def tGx(K:W.Frag)(cA:Cl)(td ty:TE):TE:=λZ H Q=>td Z H λx H1=>ty Z H1 λy H2=>∃a U kvs xs k d,x=.ref a/\H2 a=some (uf a xs)/\jg K cA U H2 kvs xs/\Rep K cA U H2 (i_ k) y/\cj k kvs=some d/\∀v,Rep K cA U H2 d v->Q v H2
noncomputable def Y5(K:W.Frag)(cA:Cl)(f:Bool->Bool)(ty td:TE):TE:=λZ H Q=>ty Z H λy H1=>td Z H1 λx H2=>∃a U kvs xs k,x=.ref a/\H2 a=some (uf a xs)/\jg K cA U H2 kvs xs/\Rep K cA U H2 (i_ k) y/\Q (.bl (f (cj k kvs).isSome)) H2
noncomputable def sPx(K:W.Frag)(cA:Cl)(td ty tv:TE):TS:=λD Z H=>tv Z H λv H1=>td Z H1 λx H2=>ty Z H2 λy H3=>∃a b U kvs xs k d,x=.ref a/\H3 a=some (uf a xs)/\jg K cA U H3 kvs xs/\y=.ref b/\Rep K cA U H3 (i_ k) y/\Rep K cA U H3 d v/\kvs.length<sizeLine /\
 ∀u,RelV v u->D.nx Z (upd H3 a (uf a (storedH xs k b u)))
variable {o i value:Expr}{pos pos':Pos}{td ty tv:TE}
theorem zm1(hu:X.A.units+5<cLine)(ho:PE X o td)(hi:PE X i ty)(hs:Bv i):PE X (.Subscript o i pos) (tGx X.K cA td ty):=by
 intro ao s Z H Q I h;refine zje PySem.F.slot_dict_getitem.lookup hs (aU (ho ao s Z H _ I h) λu s1 hx=>eU hx λx H1 I1 rx q1=>aU (hi ao s1 Z H1 _ I1 q1) λiv s2 ⟨y,H2,I2,ry,a,U,kvs,xs,k,d,ex,ea,rr,rk,g,q2⟩=>?_);subst ex;obtain rfl:u=Value.ref a:=rx;obtain⟨b,rfl⟩:=R6 (d:=d) rk;obtain rfl:iv=Value.ref b:=ry;obtain⟨z1,z2,dd⟩:=R5 I2 ea rr;rcases rr.at (k:=k) with ⟨z,_⟩|⟨d',p,v,z,hp,rv,rd⟩
 ·rw[g] at z;cases z
 ·rw[g] at z;cases z;exact⟨dd.typeIs,wpAny_getItem_heap (knd:=jH X.prog X.w) (show X.A.units+1+4<cLine by lia) (rO I2 rk rfl) dd hp ⟨v,H2,I2.tok _,rv,q2 v rd⟩⟩
theorem zkE(hu:X.A.units+5<cLine)(hi:PE X i ty)(ho:PE X o td):PC X .NotIn i o (Y5 X.K cA not ty td):=by
 intro ao s Z H Q I h;refine aU (hi ao s Z H _ I h) λiv s1 hx=>eU hx λy H1 I1 ry q1=>aU (ho ao s1 Z H1 _ I1 q1) λu s2 ⟨x,H2,I2,rx,a,U,kvs,xs,k,ex,ea,rr,rk,q2⟩=>?_;subst ex;obtain rfl:u=Value.ref a:=rx;obtain⟨b,rfl⟩:=R6 (d:=.non) rk;obtain rfl:iv=Value.ref b:=ry;obtain⟨z1,z2,dd⟩:=R5 I2 ea rr;exact wpAny_notIn_heap (knd:=jH X.prog X.w) (show X.A.units+1+4<cLine by lia) (rO I2 rk rfl) z1 dd ⟨_,H2,I2.tok _,by rw[rr.isSome];rfl,q2⟩
theorem zfa{xs:mY}{b:Addr}{u:Value}:(storedH xs k b u).length<=xs.length+1:=by
 unfold storedH
 split
 ·rw[cR];lia
 ·simp
theorem znR(hu:X.A.units+5<cLine)(ho:PE X o td)(hi:PE X i ty)(hv:PE X value tv)(hs:swapsWith value (some (.Subscript o i pos')) pos.line X.env=pure false):PS X (.Assign [.Subscript o i pos'] value pos) (sPx X.K cA td ty tv):=by
 intro ao s Z H D I h;refine wpAny_Assign_Subscript (aU (hv ao s Z H _ I h) λr s1 hx=>eU hx λv H1 I1 rv q1=>aU (ho ao s1 Z H1 _ I1 q1) λu s2 hx=>eU hx λx H2 I2 rx q2=>aU (hi ao s2 Z H2 _ I2 q2) λiv s3 ⟨y,H3,I3,ry,a,b,U,kvs,xs,k,d,ex,ea,rr,ey,rk,rd,hl,q3⟩=>?_) hs;subst ex ey;obtain rfl:u=Value.ref a:=rx;obtain rfl:iv=Value.ref b:=ry;obtain⟨z1,z2,dd⟩:=R5 I3 ea rr;have vL:xs.length+1<=sizeLine:=by rw[<-rr.len];exact hl
 refine wpAny_setItem_heap (knd:=jH X.prog X.w) (hsz:=z2) (show X.A.units+1+4<cLine by lia) (rO I3 rk rfl) dd λh' dd' hs'=>⟨Z,_,?_,q3 r rv⟩;obtain⟨q,es,ep,hq,h2,h3,h4,_,h5⟩:=dd';exact zj9 I3 (by rw[ea];exact True.intro) hs' ⟨q,hq⟩ ⟨⟨z1,j8 zfa vL,q,es,ep,hq,h2,h3,h4,h5⟩,⟨q,hq⟩,λh1 h2 ⟨a1,a2,o,es,ep,a3,a4⟩ kp=>⟨a1,a2,o,es,ep,kp o a3,a4⟩⟩
theorem zmX:PE X (.Dict [] [] pos) (λ_ H Q=>∀p,H p=none->Q (.ref p) (upd H p (uf p []))):=λao s Z H Q I h=>
 wpAny_Dict_empty ⟨.ref s.heap.objs.size,_,I.laid (a:=s.heap.objs.size) (o:=uf s.heap.objs.size []) (t':=s.toks) (λ_ _ q=>cM _ q) (b_ _)
  ⟨⟨zE.mpr (Ne.symm (dN I.big)),wu _,_,#[],0,fL _ rfl,⟨rfl,rfl,rfl⟩,rfl,rfl,CZ⟩,⟨_,fL _ rfl⟩,λh1 h2 ⟨a1,a2,o,es,ep,a3,a4⟩ kp=>⟨a1,a2,o,es,ep,kp o a3,a4⟩⟩,rfl,h _ (I.hok.fresh (b_ _))⟩
end
section
variable {X:Cx}{cA:Cl}{aq:Nat->Nat->Bool}{aj:Bool}{F:Fn}{EX:XS}{a b:Expr}{A B:E}{pos p:Pos}{K:W.Frag}{U:Ph}{H:Hp}{s:S}
theorem R7{β:Type}{x:Xv}{v:V}{k:List Kx->M β}{P:β->S->Ph->Hp->Prop}{Ee:Nat->List D->S->Ph->Hp->Prop}(r:aV K cA U H x v)(h:Run K cA (M.bd (key x) k) U H s P Ee):∃kx,Rep K cA U H (i_ kx) v/\Run K cA (k kx) U H s P Ee:=by
 cases r with
 |l _=>exact h.elim
 |@d y _ r=>
  obtain⟨kx,e,h2⟩:=Bs (o:=kOf y) h;rw[zlt e] at r;exact⟨kx,r,h2⟩
theorem R8{β:Type}{x:Xv}{v:V}{k:Nat×iR->M β}{P:β->S->Ph->Hp->Prop}{Ee:Nat->List D->S->Ph->Hp->Prop}(hS:aD K cA U H s)(r:aV K cA U H x v)(h:Run K cA (M.bd (fP x) k) U H s P Ee) :
  ∃n ad kvs xs,x=.l n/\v=.ref ad/\s[n]?=some (.dct kvs)/\U.l[n]?=some ad/\H ad=some (uf ad xs)/\jg K cA U H kvs xs/\Run K cA (k (n,kvs)) U H s P Ee:=by
 cases r with
 |d _=>exact h.elim
 |@l n ad hl=>
  unfold Run M.bd fP at h;dsimp only at h;cases e:s[n]? with
  |none=>rw[e] at h;exact h.elim
  |some o=>
   rw[e] at h;cases o with
   |dct kvs=>
    obtain⟨xs,q1,q2⟩:=hS.obj n _ _ e hl;exact⟨n,ad,kvs,xs,rfl,rfl,e,hl,q1,q2,h⟩
   |_=>exact h.elim
theorem zlh{k:Nat}(hr:bF k X.A)(ha:JE X cA aq aj F EX a A)(hb:JE X cA aq aj F EX b B)(hs:Bv b:=by exact λ_ _=>rfl):JE X cA aq aj F EX (.Subscript a b pos) (.pP A B):=⟨PE.weak (zm1 (cA:=cA) (by have:=hr.un;lia) ha.o hb.o hs) λZ H Q hh=>un hh λU J s hL hS h=>by
 refine aZ hL hS h λx H1 U1 d1 s1 x1 hL1 aJ r1 h1=>aZ hL1 aJ h1 λy H2 U2 d2 s2 x2 hL2 aQ r2 h2=>?_;obtain⟨kx,rk,h3⟩:=R7 r2 h2;obtain⟨n,ad,kvs,xs,_,rfl,e1,e2,e3,rr,h4⟩:=R8 aQ (r1.mono x2 aJ.lz) h3;have h4:Run X.K cA (M.opt ((cj kx kvs).map Xv.d)) U2 H2 s2 (λd _ U' H'=>∀v,aV X.K cA U' H' d v->Q v H') (eX X.K cA EX Z):=h4;cases e:cj kx kvs with
 |none=>rw[e] at h4;exact h4.elim
 |some d=>
  rw[e] at h4;exact⟨ad,U2,kvs,xs,kx,d,rfl,e3,rr,rk,e,λv rv=>h4.bL aQ v (.d rv)⟩⟩
theorem zjY{b':Bool}{Z:L2.St}{Q:VK}(f:Bool->Bool)(hf:∀c,f c=(c==b'))(hh:tE X.K cA EX (ev aq aj F (.Bc b' A B)) Z H Q):Y5 X.K cA f (tE X.K cA EX (ev aq aj F A)) (tE X.K cA EX (ev aq aj F B)) Z H Q:=un hh λU J s hL hS h=>by
 refine aZ hL hS h λx H1 U1 d1 s1 x1 hL1 aJ r1 h1=>aZ hL1 aJ h1 λy H2 U2 d2 s2 x2 hL2 aQ r2 h2=>?_;obtain⟨kx,rk,h3⟩:=R7 (r1.mono x2 aJ.lz) h2;obtain⟨n,ad,kvs,xs,_,rfl,e1,e2,e3,rr,h4⟩:=R8 aQ r2 h3;refine⟨ad,U2,kvs,xs,kx,rfl,e3,rr,rk,?_⟩;rw[hf];exact h4.bL aQ _ (.d (.bl _))
theorem Y6{m:Vs->M Xv}{Z:L2.St}{Q:Bool->Hp->Prop}(hh:pY K cA EX (λJ=>M.bd (m J) bool) Z H Q):tE K cA EX m Z H λx H1=>∃c,x=.bl c/\Q c H1:=un hh λU J s hL hS h=>
 ⟨U,J,s,hL,hS,h.bd.imp λd s1 U1 H1 ⟨_,r1,h1⟩ v rv=>zg0 r1 rv h1⟩
theorem zlg{k:Nat}(hr:bF k X.A)(ha:JE X cA aq aj F EX a A)(hb:JE X cA aq aj F EX b B)(h1:oK b=true:=by rfl):JT X cA aq aj F EX (.Compare a [.NotIn] [b] pos) (.Bc false A B):=⟨PT.weak (O5 (zkE (cA:=cA) (by have:=hr.un;lia) ha.o hb.o) (xM h1)) λZ H Q hh=>zjY not (λc=>by cases c<;>rfl) (Y6 hh)⟩
theorem zlm:JE X cA aq aj F EX (.Dict [] [] pos) .rH:=⟨PE.weak zmX λZ H Q hh=>un hh λU J s hL hS h p hp=>
 h (U.add p) _ (Ext.add hp) (hS.Ij hp ⟨[],jF,.nil⟩) _ (.l (by show (U.l++[p])[s.length]?=_;rw[<-hS.len];simp))⟩
end
section
variable {X:Cx}{cA:Cl}{aq:Nat->Nat->Bool}{aj:Bool}{F:Bool->Fn}{EX:XS}{a oo ii:Expr}{A O I':E}{pos p:Pos}
theorem zku{k:Nat}(hr:bF k X.A)(hO:JE X cA aq aj (F aj) EX oo O)(hI:JE X cA aq aj (F aj) EX ii I')(ha:JE X cA aq aj (F aj) EX a A)(hs:swapsWith a (some (.Subscript oo ii p)) pos.line X.env=pure false:=by rfl) :
  JS X cA aq aj F EX (.Assign [.Subscript oo ii p] a pos) (.dput O I' A):=⟨PS.weak (znR (cA:=cA) (by have:=hr.un;lia) hO.o hI.o ha.o hs) λD Z H hh=>un hh λU J s hL hS h=>by
 refine aZ hL hS (aX.ofM hL hS.lz h) λz H1 U1 d1 s1 x1 hL1 aJ r1 h1=>?_;obtain⟨w,_,mK,h2⟩:=Ln r1 h1;refine aZ hL1 aJ h2 λx H2 U2 d2 s2 x2 hL2 aQ r2 h3=>aZ hL2 aQ h3 λy H3 U3 d3 s3 x3 oE gC r3 h4=>?_;obtain⟨kx,rk,h5⟩:=R7 r3 h4;obtain⟨n,ad,kvs,xs,_,rfl,e1,e2,e3,rr,h6⟩:=R8 gC (r2.mono x3 aQ.lz) h5;obtain⟨b,rfl⟩:=R6 (X:=X) (d:=.non) rk;have Y7:=(mK.mono x2 aJ.lz).mono x3 aQ.lz;by_cases hz:kvs.length<sizeLine
 ·refine⟨ad,b,U3,kvs,xs,kx,w,rfl,e3,rr,rfl,rk,Y7,hz,λu ru=>?_⟩;have h6:Run X.K cA (if kvs.length<sizeLine then putD n (jy kx w kvs) else M.no) U3 H3 s3 _ _:=h6;rw[if_pos hz] at h6;have x4:Ext U3 H3 U3 (upd H3 ad (uf ad (storedH xs kx b u))):=Ext.write e2 ⟨_,e3⟩;have rS:=gC.ug (so:=.dct (jy kx w kvs)) (ho:=uf ad (storedH xs kx b u)) (eO.mp e1).1 e2 ⟨_,jF,(rr.put rk ru Y7).map λ_ _ r=>r.mono x4 gC.lz⟩;obtain⟨x5,r5,h7⟩:=h6 U3 _ x4 rS;exact h7 U3 _ Z Ext.refl rS (oE.mono x4 gC.lz)
 ·have h6:Run X.K cA (if kvs.length<sizeLine then putD n (jy kx w kvs) else M.no) U3 H3 s3 _ _:=h6;rw[if_neg hz] at h6;exact h6.elim⟩
end
end Mi
namespace Mi
open PySem PySem.Spec PyProof.Rows L2 PySem.W
theorem zlD{fd:FuncData}{x:Str}{st:Stmt}(h:nH fd=vo x st):fd=fnOf x x (aY st) (aK st) (au st) .none fd.kwdefaults fd.doc fd.pyModule fd.annotations fd.code fd.closureTuple:=by
 cases fd;unfold nH vo at h;cases h;rfl
noncomputable def iG(K:Frag)(x:Str):Addr:=match zU K x with
 |some p=>p.1
 |none=>0
noncomputable def fdOf(K:Frag)(x:Str)(st:Stmt):FuncData:=match zU K x with
 |some p=>p.2
 |none=>vo x st
structure FnAt(K:Frag)(x:Str)(st:Stmt):Prop where
 ns:nsIn K mainGlobals x=some (some (.ref (iG K x)))
 fn:oJ K x x st (iG K x) (fdOf K x st)
theorem zng{K:Frag}{x:Str}{st:Stmt}(h:(zU K x).map (λp=>nH p.2)=some (vo x st)):FnAt K x st:=by
 cases e:zU K x with
 |none=>rw[e] at h;cases h
 |some p=>
  rw[e] at h;have hp:nH p.2=vo x st:=cL h;have h1:iG K x=p.1:=by unfold iG;rw[e]
  have h2:fdOf K x st=p.2:=by unfold fdOf;rw[e]
  unfold zU at e;split at e
  ·rename_i f hf;split at e
   ·rename_i oc od fd sl hl;split at e
    ·rename_i hc;cases e;rw[gQ] at hc;refine⟨by rw[h1];exact hf,?_⟩;rw[h1,h2];exact⟨⟨oc,od,_,_,_,_,_,_,sl,zlD hp,hl,hc.1⟩,hc.2⟩
    ·cases e
   ·cases e
  ·cases e
theorem FnAt.m{K:Frag}{x:Str}{st:Stmt}(F:FnAt K x st){h:Heap}{mg:Str->Option Value}(X:K.In h)(G:h.Ns mainGlobals mg):mg x=some (.ref (iG K x)):=mg_of X G F.ns
theorem zm6{K:Frag}{x:Str}(h:sY K x=true){hp:Heap}{mg:Str->Option Value}(X:K.In hp)(G:hp.Ns mainGlobals mg):mg x=some (.ref (dR K x)):=by
 refine mg_of X G ?_;unfold sY at h;unfold dR;split at h
 ·rename_i C e;rw[e]
 ·cases h
theorem Jg{K:Frag}{x:Str}{i:Int}(h:lX K (x,i)=true){hp:Heap}{mg:Str->Option Value}(X:K.In hp)(G:hp.Ns mainGlobals mg):∃t,mg x=some (.int i t):=by
 unfold lX at h;split at h
 ·rename_i j t e;rw[Fx] at h;subst h;exact⟨t,mg_of X G e⟩
 ·cases h
theorem qb{K:Frag}{x:Str}(h:qx K x=true){hp:Heap}{mg:Str->Option Value}(X:K.In hp)(G:hp.Ns mainGlobals mg):mg x=none:=by
 refine mg_none_of X G ?_;unfold qx at h;split at h
 ·rename_i e;exact e
 ·cases h
structure yV(l:Lk)(K:Frag):Prop where
 cl:∀x∈l.Gf,sY K x=true
 cs:l.Gf.isEmpty=true\/yh K (l.L K)=true
 ra:∀k∈l.V3,Gd K (iV (l.L K) k)=true
 ca:∀k∈l.V4,subB K (l.L K) k=true
 it:∀p∈l.yj,lX K p=true
 no:∀x∈l.V2,qx K x=true
theorem Kab{l:Lk}{K:Frag}(h:l.good K=true):yV l K:=by
 unfold Lk.good at h;simp only[gQ,Bool.or_eq_true,fu] at h;obtain⟨⟨⟨⟨⟨h1,h2⟩,h3⟩,h4⟩,h5⟩,h6⟩:=h;exact⟨h1,h2,h3,h4,h5,h6⟩
theorem xQ{K:Frag}{x:Str}{st:Stmt}{f:Addr}{fd:FuncData}{p:Str}(F:oJ K x x st f fd)(h:∀(kV doc pm:Value) (an:Option Addr) (cdv ct a:Value),bindArgs (fnOf x x (aY st) (aK st) (au st) .none kV doc pm an cdv ct) ⟨[a],[]⟩=pure [(p,a)]):Binds K fd [p] []:=by
 obtain⟨oc,od,kV,doc,pm,an,cdv,ct,osl,rfl,lk,j_⟩:=F.ex;exact BL (h kV doc pm an cdv ct)
theorem xR{K:Frag}{x:Str}{st:Stmt}{f:Addr}{fd:FuncData}{p q:Str}(F:oJ K x x st f fd)(h:∀(kV doc pm:Value) (an:Option Addr) (cdv ct a b:Value),bindArgs (fnOf x x (aY st) (aK st) (au st) .none kV doc pm an cdv ct) ⟨[a,b],[]⟩=pure [(p,a),(q,b)]):Binds K fd [p,q] []:=by
 obtain⟨oc,od,kV,doc,pm,an,cdv,ct,osl,rfl,lk,j_⟩:=F.ex;exact uF (h kV doc pm an cdv ct)
theorem xT{K:Frag}{x:Str}{st:Stmt}{f:Addr}{fd:FuncData}{p q t:Str}(F:oJ K x x st f fd)(h:∀(kV doc pm:Value) (an:Option Addr) (cdv ct a b c:Value),bindArgs (fnOf x x (aY st) (aK st) (au st) .none kV doc pm an cdv ct) ⟨[a,b,c],[]⟩=pure [(p,a),(q,b),(t,c)]):Binds K fd [p,q,t] []:=by
 obtain⟨oc,od,kV,doc,pm,an,cdv,ct,osl,rfl,lk,j_⟩:=F.ex;exact uG (h kV doc pm an cdv ct)
theorem xU{K:Frag}{x:Str}{st:Stmt}{f:Addr}{fd:FuncData}{p q t u:Str}(F:oJ K x x st f fd)(h:∀(kV doc pm:Value) (an:Option Addr) (cdv ct a b c d:Value),bindArgs (fnOf x x (aY st) (aK st) (au st) .none kV doc pm an cdv ct) ⟨[a,b,c,d],[]⟩=pure [(p,a),(q,b),(t,c),(u,d)]):Binds K fd [p,q,t,u] []:=by
 obtain⟨oc,od,kV,doc,pm,an,cdv,ct,osl,rfl,lk,j_⟩:=F.ex;exact uH (h kV doc pm an cdv ct)
theorem BZ{K:Frag}{x:Str}{st:Stmt}{f:Addr}{fd:FuncData}{p:Str}(F:oJ K x x st f fd)(h:∀(kV doc pm:Value) (an:Option Addr) (cdv ct a:Value),bindArgs (fnOf x x (aY st) (aK st) (au st) .none kV doc pm an cdv ct) ⟨[a],[]⟩=pure [(p,a)]):∀(s:Shared) (u:Value),BindsTo s fd ⟨[u],[]⟩ [(p,u)]:=by
 obtain⟨oc,od,kV,doc,pm,an,cdv,ct,osl,rfl,lk,j_⟩:=F.ex;exact λs u=>.of_eq (h kV doc pm an cdv ct u)
end Mi
namespace Mi
open PySem PySem.Spec PyProof.Rows L2
theorem Y8:∀{is:List Nat} {ds:List α} {J J':List (Option α)},fU is ds J=some J'->∀j,j∉is->J'[j]?=J[j]?
 |[],[],J,J',e,j,_=>by cases e;rfl
 |[],_::_,J,J',e,j,_=>by cases e
 |_::_,[],J,J',e,j,_=>by cases e
 |i::is,d::ds,J,J',e,j,h=>by
  have h1:=Y8 (is:=is) (ds:=ds) e j (λz=>h (h_ _ z));rw[h1,qp (λz=>h (by rw[z];exact lC))]
theorem zhd{tg:List Nat}{x:D}{J J':Vs}(e:c7 tg x J=some J')(j:Nat)(h:j∉tg):J'[j]?=J[j]?:=by
 unfold c7 at e;split at e
 ·cases e;rw[qp (λz=>h (by simp[z]))]
 ·cases ht:jR x with
  |none=>rw[ht] at e;cases e
  |some ds=>rw[ht] at e;exact Y8 e j h
theorem zhw{many:Nat}{fr:List Nat}{J:Vs}{i:Nat}(h:i<many):(blk many fr J)[i]?=some none:=by
 unfold blk;rw[oX (by simpa using h),zy,if_pos h]
section
variable {K:W.Frag}{cA:Cl}{U U' jT:Ph}{H H' mZ:Hp}{s:S}
theorem Ext.put{Dd:Addr}{us vs:List V}(x:Ext U H U' (upd H' Dd (.lst us)))(k:Keep U H Dd us):Ext U (upd H Dd (.lst vs)) U' (upd H' Dd (.lst vs)):=by
 obtain⟨r,er,hr⟩:=x.more;have nD:∀b,H b=none->b≠Dd:=λb e z=>by rw[z,k.at_] at e;cases e
 refine⟨⟨r,er,λb hb=>by rw[cW (nD b (hr b hb))];exact hr b hb⟩,x.rN,λa z=>?_,λa o e n=>?_,λa o e=>?_⟩
 ·rcases x.lu a z with z|z
  ·exact .inl z
  ·exact .inr (by rw[cW (nD a z)];exact z)
 ·by_cases z:a=Dd
  ·subst z;rw[jF] at e ⊢;exact e
  ·rw[cW z] at e ⊢;have:=x.frame a o e n;rw[cW z] at this;exact this
 ·by_cases z:a=Dd
  ·subst z;exact⟨_,jF⟩
  ·rw[cW z] at e ⊢;have:=x.stay a o e;rw[cW z] at this;exact this
theorem aW.slots{Z Z':L2.St}{J:Vs}{is:List Nat}(h:aW K cA U H Z J)(hl:Z'.length=Z.length)(he:∀j,j∉is->Z'[j]?=Z[j]?)(hn:∀i∈is,∀x,J[i]?≠some (some x)):aW K cA U H Z' J:=by
 refine⟨hl.trans h.1,λi x e=>?_⟩;obtain⟨v,a,b⟩:=h.2 i x e;exact⟨v,by rw[he i λz=>hn i z x e];exact a,b⟩
end
section
variable {X:Cx}{cA:Cl}{aq:Nat->Nat->Bool}{aj:Bool}{F:Fn}{EX:XS}{elt iter tg iter₂ tg₂:Expr}{A B:E}{pos p:Pos}{ifs:List Expr}{scope:Scope}{N:List Str}{cond:Eo}{fr aL aL₂:List Nat}{many:Nat}{fz:Bool}{w w₂:Wk}
theorem zjC{K:W.Frag}{g:TG}{U1 U':Ph}{H1 H':Hp}{s':S}{Z3:L2.St}{J':Vs}{Dd:Addr}{acc:List D}{vs:List V}{β:Type}{kk:List D->M β}{P:β->S->Ph->Hp->Prop}{Ee:Nat->List D->S->Ph->Hp->Prop}{c:Src}{n:Nat}{bJ:It}
  (hT:dH K cA g aL) (cV:∀i∈aL,i<many) (mF:∀i∈aL,∀x,J'[i]?≠some (some x)) (hD:H1 Dd=none) (x2:Ext U1 H1 U' H') (hL:aW K cA U' H' Z3 J') (aQ:aD K cA U' H' s') (kp:Keep U' H' Dd vs) (o7:aC K cA U' H' acc vs) (hJ:jC K cA c U' H' bJ)
  (h:Run K cA (M.bd (walk c (bQ aq aj F B cond aL J') (n+1) 0 acc) kk) U1 H1 s' P Ee) {Nn:L2.St->Hp->Prop}
  (hN:∀Z4 H4 U4 s4 Jh Y9,Z4.length=Z3.length->(∀i,i∉aL->Z4[i]?=Z3[i]?)->Ext U1 H1 U4 H4->Ext U' H' U4 (upd H4 Dd (.lst vs))->aD K cA U4 H4 s4->Keep U4 H4 Dd Y9->aC K cA U4 H4 Jh Y9->Run K cA (kk Jh) U1 H1 s4 P Ee->Nn Z4 H4) :
  QF g (pY K cA (λ_ _ _ _=>False) (mX aq aj F cond)) (tE K cA (λ_ _ _ _=>False) (ev aq aj F B)) Dd bJ Z3 H' Nn:=by
 refine⟨λi m Ji mZ=>m=n+1-i/\(Ji.length=Z3.length/\∀j,j∉aL->Ji[j]?=Z3[j]?)/\∃jT s'' gO vs'',Ext U1 H1 jT mZ/\Ext U' H' jT (upd mZ Dd (.lst vs))/\aD K cA jT mZ s''/\Keep jT mZ Dd vs''/\aC K cA jT mZ gO vs'' /\
  Run K cA (M.bd (walk c (bQ aq aj F B cond aL J') (n+1-i) i gO) kk) U1 H1 s'' P Ee,⟨n+1,rfl,⟨rfl,λ_ _=>rfl⟩,U',s',acc,vs,x2,by rw[DR kp.at_];exact Ext.refl,aQ,kp,o7,h⟩,?_⟩
 rintro i m Ji mZ ⟨rfl,hZ,jT,s'',gO,vs'',x3,xb,gC,k3,r3,h3⟩;have ox:cH jT (upd mZ Dd (.lst vs)) mZ:=λa o e nz=>by
  rw[cW (λz=>nz (by rw[z];exact k3.z))] at e;exact e
 have oE:aW K cA jT mZ Ji J':=((hL.mono xb aQ.lz).out ox).slots hZ.1 hZ.2 mF;cases ek:n+1-i with
 |zero=>rw[ek] at h3;exact h3.elim
 |succ k=>
  rw[ek] at h3;cases ei:c.at i s'' with
  |none=>
   exfalso
   unfold Run M.bd walk at h3;simp only[ei] at h3
  |some oi=>
   cases oi with
   |none=>
    refine .inl ⟨hJ.stop jT _ mZ s'' i xb ox gC ei,?_⟩;have h4:Run K cA (kk gO) U1 H1 s'' P Ee:=by
     unfold Run M.bd walk at h3;simp only[ei] at h3;exact h3
    exact hN Ji mZ jT s'' gO vs'' hZ.1 hZ.2 x3 xb gC k3 r3 h4
   |some xi=>
    refine .inr ⟨hJ.go jT _ mZ s'' i xi xb ox gC ei,λZ2 H2=>(Z2.length=Z3.length/\∀j,j∉aL->Z2[j]?=Z3[j]?)/\∃jT s'' gO vs'',Ext U1 H1 jT H2/\Ext U' H' jT (upd H2 Dd (.lst vs))/\aD K cA jT H2 s''/\Keep jT H2 Dd vs''/\aC K cA jT H2 gO vs'' /\
     Run K cA (M.bd (walk c (bQ aq aj F B cond aL J') k (i+1) gO) kk) U1 H1 s'' P Ee,λZ2 H2 hn=>⟨k,by omega,by omega,hn.1,?_⟩,λv H2 hy=>?_⟩
    ·have:n+1-(i+1)=k:=by omega
     rw[this];exact hn.2
    ·obtain⟨gr,rx⟩:=hJ.tH jT _ mZ s'' i xi v H2 xb ox gC ei hy;have h4:Run K cA (M.bd (bQ aq aj F B cond aL J' xi gO) λacc'=>M.bd (walk c (bQ aq aj F B cond aL J') k (i+1) acc') kk) U1 H1 s'' P Ee:=by
      have h5:=RB (m':=M.bd (bQ aq aj F B cond aL J' xi gO) λacc'=>walk c (bQ aq aj F B cond aL J') k (i+1) acc') (by rw[walk];simp only[ei]) h3;rw[gB] at h5;exact h5
     have kg:=k3.mono gr.ext;have xg:Ext U' H' jT (upd H2 Dd (.lst vs)):=xb.trans (Ext.put (us:=vs'') (vs:=vs) (by rw[DR kg.at_];exact gr.ext) k3);refine rQ hT (x3.trans gr.ext) hD (oE.mono gr.ext gC.lz) (gC.grow gr) kg (r3.mono gr.ext gC.lz) rx h4 λZ3' H3 U3 s3 m5 xq l3 f3 x3' xe R9 k3' r3' h6=>⟨⟨l3.trans hZ.1,λj hj=>(f3 j hj).trans (hZ.2 j hj)⟩,U3,s3,m5,xq,x3',xg.trans (Ext.put (us:=vs'') (vs:=vs) xe kg),R9,k3',r3',h6⟩
where
 rQ {K:W.Frag} {g:TG} {U1 U':Ph} {H1 H2:Hp} {s':S} {Z':L2.St} {Jb:Vs} {Dd:Addr} {acc:List D} {vs:List V} {xi:D} {v:V} {β:Type} {kk:List D->M β} {P:β->S->Ph->Hp->Prop} {Ee:Nat->List D->S->Ph->Hp->Prop} (hT:dH K cA g aL)
  (x2:Ext U1 H1 U' H2) (hD:H1 Dd=none) (hL2:aW K cA U' H2 Z' Jb) (aQ:aD K cA U' H2 s') (kp:Keep U' H2 Dd vs) (o7:aC K cA U' H2 acc vs) (rx:Rep K cA U' H2 xi v)
  (h:Run K cA (M.bd (bQ aq aj F B cond aL Jb xi acc) kk) U1 H1 s' P Ee) {Nn:L2.St->Hp->Prop}
  (hN:∀Z3 H3 U3 s3 m5 xq,Z3.length=Z'.length->(∀i,i∉aL->Z3[i]?=Z'[i]?)->Ext U1 H1 U3 H3->Ext U' H2 U3 (upd H3 Dd (.lst vs))->aD K cA U3 H3 s3->Keep U3 H3 Dd xq->aC K cA U3 H3 m5 xq->Run K cA (kk m5) U1 H1 s3 P Ee->Nn Z3 H3) :
  g v Z' H2 λZ3 H3=>pY K cA (λ_ _ _ _=>False) (mX aq aj F cond) Z3 H3 λok H4=>
   if ok=true then tE K cA (λ_ _ _ _=>False) (ev aq aj F B) Z3 H4 λy H5=>∃ys,H5 Dd=some (.lst ys)/\ys.length<sizeLine/\Nn Z3 (upd H5 Dd (.lst (ys++[y]))) else Nn Z3 H4:=by
  unfold bQ at h;rw[gB] at h;obtain⟨J',e1,h1⟩:=Bs h;refine hT.run U' H2 s' Z' Jb J' xi v _ hL2 aQ rx e1 λZ3 oE BJ DW=>?_;rw[gB] at h1;refine⟨U',J',s',oE,aQ,(I8 x2 h1).imp λok s4 U4 H4 ⟨x4,qO,h6⟩=>?_⟩;cases ok with
  |false=>
   refine iF (hN Z3 H4 U4 s4 acc vs BJ DW (x2.trans x4) (by rw[DR (kp.mono x4).at_];exact x4) qO (kp.mono x4) (o7.mono x4 aQ.lz) ?_);rw[if_neg (by decide)] at h6;exact h6
  |true=>
   rw[if_pos rfl,gB] at h6;refine iT ⟨U4,J',s4,oE.mono x4 aQ.lz,qO,(I8 (x2.trans x4) h6).imp λy s5 U5 H5 ⟨x5,I9,h7⟩ u ru=>?_⟩;rw[gB] at h7;have k5:=(kp.mono x4).mono x5;have r5:=(o7.mono x4 aQ.lz).mono x5 qO.lz;have RD:=(x2.trans x4).trans x5;obtain⟨dd,ey,rd,h8⟩ : ∃d,y=.d d/\Rep K cA U5 H5 d u/\Run K cA (M.bd (if acc.length<sizeLine then M.ret (acc++[d]) else M.no) kk) U1 H1 s5 P Ee:=by
    cases ru with
    |l _=>exact h7.elim
    |d r=>exact⟨_,rfl,r,h7⟩
   by_cases hz:acc.length<sizeLine
   ·rw[if_pos hz] at h8;refine⟨vs,k5.at_,by rw[<-r5.len];exact hz,?_⟩;have ox:cH U5 H5 (upd H5 Dd (.lst (vs++[u]))):=k5.ext.1;exact hN Z3 _ U5 s5 (acc++[dd]) (vs++[u]) BJ DW (Ext.keep (vs:=vs) RD hD) (by rw[V6,DR k5.at_];exact x4.trans x5) (I9.keep k5) k5.ext.2 ((r5.app (.cons rd .nil)).out ox) h8
   ·rw[if_neg hz] at h8;exact h8.elim
noncomputable abbrev gP(aq:Nat->Nat->Bool)(aj:Bool)(F:Fn)(B:E)(cond:Eo)(aL aL₂:List Nat)(w₂:Wk)(Jb:Vs):D->List D->M (List D):=λd acc=>M.bd (M.opt (c7 aL d Jb)) λJ'=>M.bd (M.qt (g8 aq aj F w₂ J')) λpW=>
    walk pW.1 (bQ aq aj F B cond aL₂ J') (pW.2+1) 0 acc
theorem Y_{g₁ g:TG}(hT:dH X.K cA g₁ aL)(cV:∀i∈aL,i<many)(hT₂:dH X.K cA g aL₂)(cV₂:∀i∈aL₂,i<many)(uL:∀i∈aL₂,i∉aL){Z:L2.St}{H:Hp}{Q:VK}(hh:tE X.K cA EX (ev aq aj F (.iB fz B aL w aL₂ w₂ fr many cond)) Z H Q) :
  pO (tI X.K cA EX (g8 aq aj F w)) (bx many fr) g₁ (tI X.K cA (λ_ _ _ _=>False) (g8 aq aj F w₂)) g (pY X.K cA (λ_ _ _ _=>False) (mX aq aj F cond)) (tE X.K cA (λ_ _ _ _=>False) (ev aq aj F B)) Z H Q:=un hh λU J s hL hS h=>by
 by_cases eF:aj=true
 ·have h:Run X.K cA (if aj=true then M.bd (g8 aq aj F w J) λcn=>M.bd (walk cn.1 (gP aq aj F B cond aL aL₂ w₂ (blk many fr J)) (cn.2+1) 0 []) λxs=>newL fz xs else M.no) U H s (λd _ U' H'=>∀v,aV X.K cA U' H' d v->Q v H') (eX X.K cA EX Z):=h;rw[if_pos eF] at h;refine⟨U,J,s,hL,hS,h.bd.imp λcn s1 U1 H1 ⟨x1,aJ,h1⟩ bJ hJ=>?_⟩;have hL1:=hL.mono x1 hS.lz;obtain⟨c,n⟩:=cn;dsimp only at h1 hJ;intro Dd hD;obtain⟨x0,RG,k0⟩:=Yu aJ hD;have BK:∀{Z':L2.St},(Z'.length=many+fr.length/\∀i,many<=i->Z'[i]?=(bx many fr Z)[i]?)->∀{U' H'},Ext U1 H1 U' H'->aW X.K cA U' H' Z' (blk many fr J):=λ{Z'} hZ {U' H'} x=>Ys (hL1.mono x aJ.lz) hZ.1 λi j v e1 e2=>by
   rw[hZ.2 _ (by omega)];unfold bx;rw[o8 (by simp),Fj,iu,show many+i-many=i by omega,e1];simp[e2]
  refine⟨λi m Z' H'=>m=n+1-i/\(Z'.length=many+fr.length/\∀i,many<=i->Z'[i]?=(bx many fr Z)[i]?)/\∃U' s' acc vs,Ext U1 H1 U' H'/\aD X.K cA U' H' s'/\Keep U' H' Dd vs/\aC X.K cA U' H' acc vs /\
   Run X.K cA (M.bd (walk c (gP aq aj F B cond aL aL₂ w₂ (blk many fr J)) (n+1-i) i acc) λxs=>newL fz xs) U1 H1 s' (λd _ U' H'=>∀v,aV X.K cA U' H' d v->Q v H') (eX X.K cA EX Z),⟨n+1,rfl,⟨by simp[bx],λi _=>rfl⟩,U1.mark Dd,s1,[],[],x0,RG,k0,.nil,h1⟩,?_⟩
  rintro i m Z' H' ⟨rfl,hZ,U',s',acc,vs,x2,aQ,kp,o7,h3⟩;have hL2:=BK hZ x2;cases ek:n+1-i with
  |zero=>rw[ek] at h3;exact h3.elim
  |succ k=>
   rw[ek] at h3;cases ei:c.at i s' with
   |none=>
    exfalso
    unfold Run M.bd walk at h3;simp only[ei] at h3
   |some oi=>
    cases oi with
    |none=>
     refine .inl ⟨hJ.stop U' H' H' s' i x2 cH.refl aQ ei,?_⟩;have h4:Run X.K cA (newL fz acc) U1 H1 s' (λd _ U' H'=>∀v,aV X.K cA U' H' d v->Q v H') (eX X.K cA EX Z):=by
      unfold Run M.bd walk at h3;simp only[ei] at h3;exact h3
     exact Yt h4 x2 hD (aJ.nz hD) aQ kp o7
    |some xi=>
     refine .inr ⟨hJ.go U' H' H' s' i xi x2 cH.refl aQ ei,λZ2 H2=>(Z2.length=many+fr.length/\∀i,many<=i->Z2[i]?=(bx many fr Z)[i]?)/\∃U' s' acc vs,Ext U1 H1 U' H2/\aD X.K cA U' H2 s'/\Keep U' H2 Dd vs/\aC X.K cA U' H2 acc vs /\
      Run X.K cA (M.bd (walk c (gP aq aj F B cond aL aL₂ w₂ (blk many fr J)) k (i+1) acc) λxs=>newL fz xs) U1 H1 s' (λd _ U' H'=>∀v,aV X.K cA U' H' d v->Q v H') (eX X.K cA EX Z),λZ2 H2 hn=>⟨k,by omega,by omega,hn.1,?_⟩,λv H2 hy=>?_⟩
     ·have:n+1-(i+1)=k:=by omega
      rw[this];exact hn.2
     ·obtain⟨gr,rx⟩:=hJ.tH U' H' H' s' i xi v H2 x2 cH.refl aQ ei hy;have h4:Run X.K cA (M.bd (M.opt (c7 aL xi (blk many fr J))) λJ'=>M.bd (M.qt (g8 aq aj F w₂ J')) λpW=>M.bd (walk pW.1 (bQ aq aj F B cond aL₂ J') (pW.2+1) 0 acc) λacc'=>M.bd (walk c (gP aq aj F B cond aL aL₂ w₂ (blk many fr J)) k (i+1) acc') λxs=>newL fz xs) U1 H1 s' (λd _ U' H'=>∀v,aV X.K cA U' H' d v->Q v H') (eX X.K cA EX Z):=by
       have h5:=RB (m':=M.bd (gP aq aj F B cond aL aL₂ w₂ (blk many fr J) xi acc) λacc'=>walk c (gP aq aj F B cond aL aL₂ w₂ (blk many fr J)) k (i+1) acc') (by rw[walk];simp only[ei]) h3;rw[gB] at h5;unfold gP at h5;rw[gB] at h5;have e:(λJ'=>M.bd (M.bd (M.qt (g8 aq aj F w₂ J')) λpW=>walk pW.1 (bQ aq aj F B cond aL₂ J') (pW.2+1) 0 acc) λacc'=>M.bd (walk c (gP aq aj F B cond aL aL₂ w₂ (blk many fr J)) k (i+1) acc') λxs=>newL fz xs)=λJ'=>M.bd (M.qt (g8 aq aj F w₂ J')) λpW=>M.bd (walk pW.1 (bQ aq aj F B cond aL₂ J') (pW.2+1) 0 acc) λacc'=>M.bd (walk c (gP aq aj F B cond aL aL₂ w₂ (blk many fr J)) k (i+1) acc') λxs=>newL fz xs:=funext λJ'=>gB _ _ _;rw[<-e];exact h5
      obtain⟨J',e1,h6⟩:=Bs h4;have gC:=aQ.grow gr;refine hT.run U' H2 s' Z' _ J' xi v _ (hL2.mono gr.ext aQ.lz) gC rx e1 λZ3 oE BJ DW=>?_;have kg:=kp.mono gr.ext;have rg:=o7.mono gr.ext aQ.lz;have xg:=x2.trans gr.ext;refine⟨U',J',s',oE,gC,(I8 xg h6).imp λpW s4 U4 H4 ⟨x4,qO,h7⟩ bJ₂ hJ₂=>?_⟩;refine zjC (many:=many) hT₂ cV₂ (λi hi x z=>?_) hD (xg.trans x4) (oE.mono x4 gC.lz) qO (kg.mono x4) (rg.mono x4 gC.lz) hJ₂ h7 λZ4 H5 U5 s5 R_ vs5 l5 f5 x5 _ I9 k5 r5 h8=>⟨⟨l5.trans (BJ.trans hZ.1),λi hi=>?_⟩,U5,s5,R_,vs5,x5,I9,k5,r5,h8⟩
      ·rw[zhd e1 i (uL i hi),zhw (cV₂ i hi)] at z;cases z
      ·rw[f5 i λz=>absurd (cV₂ i z) (Dg.mpr hi),DW i λz=>absurd (cV i z) (Dg.mpr hi)];exact hZ.2 i hi
 ·have h:Run X.K cA (if aj=true then M.bd (g8 aq aj F w J) λcn=>M.bd (walk cn.1 (gP aq aj F B cond aL aL₂ w₂ (blk many fr J)) (cn.2+1) 0 []) λxs=>newL fz xs else M.no) U H s (λd _ U' H'=>∀v,aV X.K cA U' H' d v->Q v H') (eX X.K cA EX Z):=h;rw[if_neg eF] at h;exact h.elim
theorem zg8(hc:X.aj=true)(B':cg X.env.scope scope)(hi:SI X cA aq aj F EX tg iter w)(hN:N.length=many+fr.length)
  (oZ:∀(i:Nat) (y:Str) (j:Nat),N[many+i]?=some y->fr[i]?=some j->scope.names.lookup y=some .free/\X.N[j]?=some y)
  (hg₁:∀cl C s3 H3 fp ao,PG (X.blk scope cl N C s3 H3 fp ao) tg g₁) (hT:dH X.K cA g₁ aL) (cV:∀i∈aL,i<many) (hi₂:∀cl C s3 H3 fp ao,SI (X.blk scope cl N C s3 H3 fp ao) cA aq aj F (λ_ _ _ _=>False) tg₂ iter₂ w₂)
  (hg:∀cl C s3 H3 fp ao,PG (X.blk scope cl N C s3 H3 fp ao) tg₂ g) (hT₂:dH X.K cA g aL₂) (cV₂:∀i∈aL₂,i<many) (uL:∀i∈aL₂,i∉aL)
  (ht:∀cl C s3 H3 fp ao,Bw (X.blk scope cl N C s3 H3 fp ao) cA aq aj F (λ_ _ _ _=>False) ifs cond) (he:∀cl C s3 H3 fp ao,SE (X.blk scope cl N C s3 H3 fp ao) cA aq aj F (λ_ _ _ _=>False) elt B)
  (hs₂:∀env x,foldedSetIterable iter₂ env x=pure x) (hs:∀x,foldedSetIterable iter X.env x=pure x:=by intro _;rfl):SE X cA aq aj F EX (.ListComp elt [⟨tg,iter,[],0⟩,⟨tg₂,iter₂,ifs,0⟩] scope pos) (.iB fz B aL w aL₂ w₂ fr many cond):=
 PE.weak (zhT hc B' hi (⟨hg₁,hi₂,hg,ht,he⟩ : jO X elt tg tg₂ iter₂ ifs scope N g₁ (tI X.K cA (λ_ _ _ _=>False) (g8 aq aj F w₂)) g (pY X.K cA (λ_ _ _ _=>False) (mX aq aj F cond)) (tE X.K cA (λ_ _ _ _=>False) (ev aq aj F B))) hs₂ (ZY:=bx many fr) (λZ=>by simp[bx,hN]) (λZ i x v e1 e2=>Lx oZ Z i x v e1 e2) hs) λZ H Q hh=>Y_ hT cV hT₂ cV₂ uL hh
end
section
variable {X:Cx}{cA:Cl}{aq:Nat->Nat->Bool}{aj:Bool}{F:Bool->Fn}{EX:XS}{elt iter tg iter₂ tg₂:Expr}{A B:E}{pos p:Pos}{ifs:List Expr}{scope:Scope}{N:List Str}{cond:Eo}{fr aL aL₂:List Nat}{many:Nat}{fz:Bool}{w w₂:Wk}{i:Nat}{y:Str}
theorem zid(hc:X.aj=true)(oG:X.N.Nodup)(tX:X.N[i]?=some y)(hx:Loc X.env.scope y)(hf:X.fn y=true\/X.env.scope.names.lookup y=some .local)(B':cg X.env.scope scope)(hi:SI X cA aq aj (F aj) EX tg iter w)(hN:N.length=many+fr.length)
  (oZ:∀(i:Nat) (y:Str) (j:Nat),N[many+i]?=some y->fr[i]?=some j->scope.names.lookup y=some .free/\X.N[j]?=some y)
  (hg₁:∀cl C s3 H3 fp ao,PG (X.blk scope cl N C s3 H3 fp ao) tg g₁) (hT:dH X.K cA g₁ aL) (cV:∀i∈aL,i<many) (hi₂:∀cl C s3 H3 fp ao,SI (X.blk scope cl N C s3 H3 fp ao) cA aq aj (F aj) (λ_ _ _ _=>False) tg₂ iter₂ w₂)
  (hg:∀cl C s3 H3 fp ao,PG (X.blk scope cl N C s3 H3 fp ao) tg₂ g) (hT₂:dH X.K cA g aL₂) (cV₂:∀i∈aL₂,i<many) (uL:∀i∈aL₂,i∉aL)
  (ht:∀cl C s3 H3 fp ao,Bw (X.blk scope cl N C s3 H3 fp ao) cA aq aj (F aj) (λ_ _ _ _=>False) ifs cond) (he:∀cl C s3 H3 fp ao,SE (X.blk scope cl N C s3 H3 fp ao) cA aq aj (F aj) (λ_ _ _ _=>False) elt B)
  (tY:swapsWith (.ListComp elt [⟨tg,iter,[],0⟩,⟨tg₂,iter₂,ifs,0⟩] scope pos) (some (.Name y py)) spos.line X.env=pure true)
  (hs₂:∀env x,foldedSetIterable iter₂ env x=pure x) (hs:∀x,foldedSetIterable iter X.env x=pure x:=by intro _;rfl) :
  SS X cA aq aj F EX (.Assign [.Name y py] (.ListComp elt [⟨tg,iter,[],0⟩,⟨tg₂,iter₂,ifs,0⟩] scope pos) spos) (.asg (.nm i) (.iB fz B aL w aL₂ w₂ fr many cond)):=
 PS.weak (zd4 hc oG tX hx hf B' hi (⟨hg₁,hi₂,hg,ht,he⟩ : jO X elt tg tg₂ iter₂ ifs scope N g₁ (tI X.K cA (λ_ _ _ _=>False) (g8 aq aj (F aj) w₂)) g (pY X.K cA (λ_ _ _ _=>False) (mX aq aj (F aj) cond)) (tE X.K cA (λ_ _ _ _=>False) (ev aq aj (F aj) B))) hs₂ (ZY:=bx many fr) (λZ=>by simp[bx,hN]) (λZ i x v e1 e2=>Lx oZ Z i x v e1 e2) tY hs) λD Z H hh=>un hh λU J s hL hS h=>
  Y_ hT cV hT₂ cV₂ uL ⟨U,J,s,hL,hS,(aX.ofM hL hS.lz h).imp λd s1 U1 H1 ⟨x1,aJ,h1⟩ v rv=>h1 U1 H1 _ Ext.refl aJ ((hL.mono x1 hS.lz).set rv)⟩
noncomputable def xV(aL aL₂:List Nat)(m:Nat):Bool:=aL.all (λi=>decide (i<m))&&aL₂.all (λi=>decide (i<m) && !aL.contains i)
theorem Ek(h:xV aL aL₂ m=true):(∀i∈aL,i<m)/\(∀i∈aL₂,i<m)/\∀i∈aL₂,i∉aL:=by
 unfold xV at h;simp only[gQ,fu,Fx,Bool.not_eq_true'] at h;exact⟨h.1,λi hi=>(h.2 i hi).1,λi hi z=>by have:=(h.2 i hi).2;rw[List.contains_iff_mem.mpr z] at this;cases this⟩
noncomputable def qd:Expr->Bool
 |.Call _ _ _ _=>true
 |.Name _ _=>true
 |.BinOp _ _ _ _=>true
 |.Subscript _ _ _=>true
 |.Attribute _ _ _=>true
 |_=>false
theorem Za(h:qd e=true):∀env x,foldedSetIterable e env x=pure x:=by cases e<;>first|(intro _ _;rfl)|cases h
theorem zjr(i:Nat)(sc:Scope)(XN M0 N:List Str)(fr:List Nat)(hN:X.N.Nodup)(tX:X.N[i]?=some y)(hx:JK X y k)(hl:lA k=true)(hc:X.aj=true)(BW:X.env.scope=sc)(oG:X.N=XN)(hB:p7 sc scope=true)(hf:frB scope XN N fr=true)(hT:dH X.K cA g₁ aL)(hT₂:dH X.K cA g aL₂)(cV:xV aL aL₂ M0.length=true)
  (hi:JI X cA aq aj (F aj) EX tg iter w) (hg₁:∀cl C s3 H3 fp ao,JY (X.blk scope cl (M0++N) C s3 H3 fp ao) tg g₁) (hi₂:∀cl C s3 H3 fp ao,JI (X.blk scope cl (M0++N) C s3 H3 fp ao) cA aq aj (F aj) (λ_ _ _ _=>False) tg₂ iter₂ w₂) (hg:∀cl C s3 H3 fp ao,JY (X.blk scope cl (M0++N) C s3 H3 fp ao) tg₂ g)
  (ht:∀cl C s3 H3 fp ao,JC (X.blk scope cl (M0++N) C s3 H3 fp ao) cA aq aj (F aj) (λ_ _ _ _=>False) ifs cond) (he:∀cl C s3 H3 fp ao,JE (X.blk scope cl (M0++N) C s3 H3 fp ao) cA aq aj (F aj) (λ_ _ _ _=>False) elt B)
  (rR:qd iter₂=true:=by rfl) (tY:swapsWith (.ListComp elt [⟨tg,iter,[],0⟩,⟨tg₂,iter₂,ifs,0⟩] scope pos) (some (.Name y py)) spos.line X.env=pure true:=by rfl) (R0:X.fn y=true\/k=.local:=by first|exact .inl rfl|exact .inr rfl) (hs:∀x,foldedSetIterable iter X.env x=pure x:=by intro _;rfl) :
  JS X cA aq aj F EX (.Assign [.Name y py] (.ListComp elt [⟨tg,iter,[],0⟩,⟨tg₂,iter₂,ifs,0⟩] scope pos) spos) (.asg (.nm i) (.iB fz B aL w aL₂ w₂ fr M0.length cond)):=
 ⟨zid hc hN tX (vP hx hl) (vQ hx R0) (cg.of (BW▸hB)) hi.o (vN (oG▸hf)).1 (vN (oG▸hf)).2 (λa b c d e f=>(hg₁ a b c d e f).o) hT (Ek cV).1 (λa b c d e f=>(hi₂ a b c d e f).o) (λa b c d e f=>(hg a b c d e f).o) hT₂ (Ek cV).2.1 (Ek cV).2.2 (λa b c d e f=>(ht a b c d e f).o) (λa b c d e f=>(he a b c d e f).o) tY (Za rR) hs⟩
end
section
variable {X:Cx}{cA:Cl}{aq:Nat->Nat->Bool}{aj:Bool}{F:Fn}{EX:XS}{elt iter tg iter₂ tg₂:Expr}{A B:E}{pos p:Pos}{ifs:List Expr}{scope:Scope}{N:List Str}{cond:Eo}{fr aL aL₂:List Nat}{many:Nat}{fz:Bool}{w w₂:Wk}{i:Nat}{y:Str}
theorem zkd(sc:Scope)(XN M0 N:List Str)(fr:List Nat)(hc:X.aj=true)(BW:X.env.scope=sc)(oG:X.N=XN)(hB:p7 sc scope=true)(hf:frB scope XN N fr=true)(hT:dH X.K cA g₁ aL)(hT₂:dH X.K cA g aL₂)(cV:xV aL aL₂ M0.length=true)
  (hi:JI X cA aq aj F EX tg iter w) (hg₁:∀cl C s3 H3 fp ao,JY (X.blk scope cl (M0++N) C s3 H3 fp ao) tg g₁) (hi₂:∀cl C s3 H3 fp ao,JI (X.blk scope cl (M0++N) C s3 H3 fp ao) cA aq aj F (λ_ _ _ _=>False) tg₂ iter₂ w₂) (hg:∀cl C s3 H3 fp ao,JY (X.blk scope cl (M0++N) C s3 H3 fp ao) tg₂ g)
  (ht:∀cl C s3 H3 fp ao,JC (X.blk scope cl (M0++N) C s3 H3 fp ao) cA aq aj F (λ_ _ _ _=>False) ifs cond) (he:∀cl C s3 H3 fp ao,JE (X.blk scope cl (M0++N) C s3 H3 fp ao) cA aq aj F (λ_ _ _ _=>False) elt B)
  (rR:qd iter₂=true:=by rfl) (hs:∀x,foldedSetIterable iter X.env x=pure x:=by intro _;rfl):JE X cA aq aj F EX (.ListComp elt [⟨tg,iter,[],0⟩,⟨tg₂,iter₂,ifs,0⟩] scope pos) (.iB fz B aL w aL₂ w₂ fr M0.length cond):=
 ⟨zg8 hc (cg.of (BW▸hB)) hi.o (vN (oG▸hf)).1 (vN (oG▸hf)).2 (λa b c d e f=>(hg₁ a b c d e f).o) hT (Ek cV).1 (λa b c d e f=>(hi₂ a b c d e f).o) (λa b c d e f=>(hg a b c d e f).o) hT₂ (Ek cV).2.1 (Ek cV).2.2 (λa b c d e f=>(ht a b c d e f).o) (λa b c d e f=>(he a b c d e f).o) (Za rR) hs⟩
end
section
variable {K:W.Frag}{cA:Cl}{U:Ph}{H:Hp}
theorem aC.Jj(r:aC K cA U H xs ys):∀l:List Nat,aC K cA U H (l.map λi=>xs.getD i .non) (l.map λi=>ys.getD i .non)
 |[]=>.nil
 |i::l=>by
  refine .cons ?_ (aC.Jj r l);show Rep K cA U H (xs.getD i .non) (ys.getD i .non);cases e:xs[i]? with
  |some x=>
   obtain⟨u,e1,e2⟩:=r.get e;rw[kW,kW,e,e1];exact e2
  |none=>
   have e1:ys[i]?=Option.none:=r.none e;rw[kW,kW,e,e1];exact .non
theorem aC.mem(r:aC K cA U H xs ys):∀v∈ys,∃d∈xs,Rep K cA U H d v:=by
 intro v hv;obtain⟨i,hi,e⟩:=vY hv;have e':ys[i]?=some v:=by rw[dO hi,e]
 cases ex:xs[i]? with
 |none=>rw[r.none ex] at e';cases e'
 |some d=>
  obtain⟨u,e1,e2⟩:=r.get ex;rw[e1] at e';cases e';exact⟨d,fX ex,e2⟩
theorem Zb:∀{us ws:List D} {xs ys:List V},aC K cA U H us xs->aC K cA U H ws ys->∀{b:Bool},rK us ws=some b->lg xs ys=some b
 |[],ws,_,ys,r1,r2,b,h=>by
  cases r1;unfold rK at h;unfold lg;rw[<-r2.len];exact h
 |_::_,[],_,_,r1,r2,b,h=>by
  cases r2;cases r1;unfold rK at h;unfold lg;exact h
 |x::us,y::ws,_,_,r1,r2,b,h=>by
  cases r1 with
  |cons a1 b1=>
   cases r2 with
   |cons a2 b2=>
    unfold rK at h;split at h
    ·rename_i z;cases z
    ·rename_i z;cases z
    ·rename_i p ps q qs e1 e2;cases e1;cases e2;cases a1;cases a2;unfold lg;by_cases e:p=q
     ·rw[if_pos e] at h ⊢;exact Zb b1 b2 h
     ·rw[if_neg e] at h ⊢;exact h
    ·cases h
theorem zhS(r:aC K cA U H xs ys)(h:(xs.all jQ||xs.all iZ)=true):t_ K H ys (yF xs):=by
 rw[Bool.or_eq_true] at h;rcases h with h|h
 ·left
  rw[fu] at h;refine⟨λv hv=>?_,λi j b e=>?_⟩
  ·obtain⟨d,hd,q⟩:=r.mem v hv;have:=h d hd;cases q<;>first|exact⟨_,rfl⟩|cases this
  ·unfold yF at e;cases e1:xs[i]? with
   |none=>rw[e1] at e;cases e
   |some d1=>
    cases e2:xs[j]? with
    |none=>rw[e1,e2] at e;cases d1<;>cases e
    |some d2=>
     have h1:=h d1 (fX e1);have h2:=h d2 (fX e2);rw[e1,e2] at e;obtain⟨v1,a1,b1⟩:=r.get e1;obtain⟨v2,a2,b2⟩:=r.get e2;cases d1<;>first|cases h1|skip
     cases d2<;>first|cases h2|skip
     cases b1;cases b2;cases e;exact⟨_,_,a1,a2,rfl⟩
 ·right
  rw[fu] at h;refine⟨λv hv=>?_,λi j b e=>?_⟩
  ·obtain⟨d,hd,q⟩:=r.mem v hv;have:=h d hd;unfold iZ at this;split at this
   ·cases q with
    |tup t r'=>
     cases r' with
     |cons a1 b1=>
      cases a1;exact⟨_,_,_,rfl,t.jh⟩
   ·cases this
  ·unfold yF at e;cases e1:xs[i]? with
   |none=>rw[e1] at e;cases e
   |some d1=>
    cases e2:xs[j]? with
    |none=>rw[e1,e2] at e;cases d1<;>cases e
    |some d2=>
     have h1:=h d1 (fX e1);have h2:=h d2 (fX e2);rw[e1,e2] at e;obtain⟨v1,a1,b1⟩:=r.get e1;obtain⟨v2,a2,b2⟩:=r.get e2;unfold iZ at h1 h2;split at h1
     ·split at h2
      ·cases b1 with
       |tup t1 r1=>
        cases b2 with
        |tup t2 r2=>exact⟨_,_,_,_,a1,a2,t1.jh,t2.jh,Zb r1 r2 e⟩
      ·cases h2
     ·cases h1
theorem zgg:bH K cA .sorted (λxs H Q=>∃l ys lt p,xs=[.ref l]/\cT K H l ys/\ys.length<64/\(2<=ys.length->t_ K H ys lt/\bY lt (PySem.W.kas_sort ys.length)=some p/\p.size=ys.length)/\∀r,H r=none->Q (.ref r) (upd H r (.lst (lq ys p)))):=by
 intro U H ds vs Q zt rs o;have o:bG K cA U H (mV ds) Q:=o;unfold mV at o;split at o
 ·rename_i xs _;obtain⟨v,rfl,r1⟩:=rs.one;obtain⟨z,e⟩:=o.some';obtain⟨zs,e1,e2⟩:=lV.mp e;subst e2;obtain⟨a,us,rfl,sq,q⟩ : ∃a us,v=.ref a/\cT K H a us/\aC K cA U H xs us:=r1;have hl:=q.len;unfold yG at e1;by_cases hk:(xs.all jQ||xs.all iZ)=true
  ·rw[if_pos hk] at e1;unfold qM at e1;by_cases h2:xs.length<2
   ·rw[if_pos h2] at e1;cases e1;refine⟨a,us,λ_ _=>none,#[],rfl,sq,by lia,λz=>absurd z (by lia),λr hr=>?_⟩;have:lq us #[]=us:=by unfold lq;rw[if_pos (by lia)]
    rw[this];exact(o.of e) r us hr q
   ·rw[if_neg h2] at e1;by_cases tZ:xs.length<64
    ·rw[if_pos tZ] at e1;cases ek:bY (yF xs) (PySem.W.kas_sort xs.length) with
     |none=>rw[ek] at e1;cases e1
     |some p=>
      rw[ek] at e1;dsimp only at e1;by_cases hp:p.size=xs.length
      ·rw[if_pos hp] at e1;cases e1;refine⟨a,us,yF xs,p,rfl,sq,by lia,λ_=>⟨zhS q hk,by rw[<-hl];exact ek,by lia⟩,λr hr=>?_⟩;have:lq us p=p.toList.map λi=>us.getD i .non:=by unfold lq;rw[if_neg (by lia)]
       rw[this];exact(o.of e) r _ hr (q.Jj p.toList)
      ·rw[if_neg hp] at e1;cases e1
    ·rw[if_neg tZ] at e1;cases e1
  ·rw[if_neg hk] at e1;cases e1
 ·exact o.elim
end
section
variable {X:Cx}{cA:Cl}{aq:Nat->Nat->Bool}{aj:Bool}{F:Fn}{EX:XS}{e:Expr}{pos p:Pos}{es:List Expr}{Xs:Es}{fz:Bool}
theorem zdP:bootBuiltins "sorted"=some (.builtin "sorted"):=by decide +kernel
theorem Zc(hm:X.mg "sorted"=none)(hg:JK X "sorted" .globalImplicit)(ha:JA X cA aq aj F EX (e::es) Xs)(he:aF e=true:=by rfl)(hpl:es.all aF=true:=by rfl):JE X cA aq aj F EX (.Call (.Name "sorted" p) (e::es) [] pos) (.pr fz .sorted Xs):=⟨yK zd3 zgg hg.o hm zdP ha.o (by decide) (by decide) (bI he) (bD hpl)⟩
end
section
variable {K:W.Frag}{cA:Cl}{U:Ph}{H:Hp}
theorem Mg:∀{xs:List D} {k i:Nat},(enumFrom k xs)[i]?=(xs[i]?).map λd=>.tup [.int ((k+i:Nat):Int),d]
 |[],k,i=>by simp[enumFrom]
 |x::r,k,0=>by simp[enumFrom]
 |x::r,k,i+1=>by
  unfold enumFrom;rw[Cv,Cv,Mg]
  congr 1
  funext d
  rw[show k+1+i=k+(i+1) by lia]
noncomputable def rT(K:W.Frag)(U:Ph)(H:Hp):Bool->Addr->List V->Prop
 |true,a,vs=>LstAt K U H a vs
 |false,a,vs=>TupAt K U H a vs
theorem rT.sk{kd:Bool}{a:Addr}{vs:List V}(h:rT K U H kd a vs):Sk kd K H a vs:=by
 cases kd
 ·exact TupAt.jh h
 ·exact LstAt.sH h
theorem rT.later{U':Ph}{H₁ H':Hp}{kd:Bool}{a:Addr}{vs:List V}(hz:∀a∈U.l,U.z a)(h:rT K U H kd a vs)(x:Ext U H U' H₁)(o:cH U' H₁ H'):rT K U' H' kd a vs:=by
 cases kd
 ·exact TupAt.later hz h x o
 ·exact LstAt.later hz h x o
theorem jC.enum{kd:Bool}{l:Addr}{xs:List D}{vs:List V}(hz:∀a∈U.l,U.z a)(h:rT K U H kd l vs)(r:aC K cA U H xs vs):jC K cA (.fix (enumFrom 0 xs)) U H (Ite K kd l):=by
 refine⟨λU' H₁ H' s' i x o hS e=>⟨vs,(h.later hz x o).sk,?_⟩,λU' H₁ H' s' i d x o hS e=>?_,λU' H₁ H' s' i d v H2 x o hS e y=>?_⟩
 ·have e:(enumFrom 0 xs)[i]?=none:=cL e;rw[Mg,Option.map_eq_none_iff] at e;exact qm.mp ((r.mono x hz).none e)
 ·have e:(enumFrom 0 xs)[i]?=some d:=cL e;rw[Mg] at e;obtain⟨d',e',_⟩:=lV.mp e;obtain⟨v,q,_⟩:=r.get e';exact⟨vs,v,(h.later hz x o).sk,q⟩
 ·have e:(enumFrom 0 xs)[i]?=some d:=cL e;rw[Mg] at e;obtain⟨d',e',rfl⟩:=lV.mp e;obtain⟨a,u,hn,rfl,rfl,hu⟩:=y;obtain⟨w,q,mK⟩:=((r.mono x hz).out o).get e';have:=hu vs (h.later hz x o).sk;rw[q] at this;cases this;have g:bB H' (upd H' a (.tup [.int i,u])):=bB.new hn;refine⟨g,?_⟩;rw[show ((0+i:Nat):Int)=(i:Int) by simp];exact .tup (.inl ⟨.inl jF,hS.nz hn⟩) (.cons (.int _) (.cons (mK.mono g.ext hS.lz) .nil))
theorem Sd(h:(Src.lK n).at i s=some o):∃xs,s[n]?=some (.lst xs)/\(xs[i]?.map λx=>D.tup [.int i,x])=o:=by
 unfold Src.at at h;dsimp only at h;cases e:s[n]? with
 |none=>rw[e] at h;cases h
 |some ob=>
  rw[e] at h;cases ob with
  |lst xs=>exact⟨xs,rfl,cL h⟩
  |_=>cases h
theorem jC.lK{a:Addr}{n:Nat}(h:U.l[n]?=some a):jC K cA (.lK n) U H (Ite K true a):=by
 refine⟨λU' H₁ H' s' i x o hS e=>?_,λU' H₁ H' s' i d x o hS e=>?_,λU' H₁ H' s' i d v H2 x o hS e y=>?_⟩
 ·obtain⟨xs,e1,e2⟩:=Sd e;rw[Option.map_eq_none_iff] at e2;obtain⟨vs,q1,q2⟩:=hS.obj n _ a e1 (x.get h);exact⟨vs,cT.of q1,qm.mp (q2.none e2)⟩
 ·obtain⟨xs,e1,e2⟩:=Sd e;obtain⟨d',e',_⟩:=lV.mp e2;obtain⟨vs,q1,q2⟩:=hS.obj n _ a e1 (x.get h);obtain⟨v,q3,_⟩:=q2.get e';exact⟨vs,v,cT.of q1,q3⟩
 ·obtain⟨xs,e1,e2⟩:=Sd e;obtain⟨d',e',rfl⟩:=lV.mp e2;obtain⟨vs,q1,q2⟩:=hS.obj n _ a e1 (x.get h);obtain⟨w,q3,mK⟩:=q2.get e';obtain⟨b,u,hn,rfl,rfl,hu⟩:=y;have:=hu vs (cT.of q1);rw[q3] at this;cases this;have g:bB H' (upd H' b (.tup [.int i,w])):=bB.new hn;exact⟨g,.tup (.inl ⟨.inl jF,hS.nz hn⟩) (.cons (.int _) (.cons (mK.mono g.ext hS.lz) .nil))⟩
end
section
variable {X:Cx}{cA:Cl}{aq:Nat->Nat->Bool}{aj:Bool}{F:Fn}{EX:XS}{a b:Expr}{A B:E}{pos pp tpos:Pos}{elts:List Expr}{kk:Nat}
theorem zkh(oF:Gl X "enumerate")(hmg:X.mg "enumerate"=none)(hb:SE X cA aq aj F EX b B)(h2:starEach [b] X.env=(false,eval b X.env)::starEach [] X.env) :
  SI X cA aq aj F EX (.Tuple elts kk tpos) (.Call (.Name "enumerate" pp) [b] [] pos) (.enum B):=PI.weak (zko oF hmg (vD hb Al h2) (by rw[h2];rfl)) λZ H R hh=>un hh λU J s hL hS h=>by
 refine aZ hL hS h λy H2 U2 d2 s2 x2 hL2 aQ r2 h2=>?_;cases r2 with
 |@l n ad hl=>
  unfold Run ou at h2;dsimp only at h2;cases e:s2[n]? with
  |none=>rw[e] at h2;exact h2.elim
  |some o=>
   rw[e] at h2;cases o with
   |lst xs=>
    obtain⟨vs,q1,q2⟩:=aQ.obj n _ _ e hl;exact⟨true,_,_,rfl,cT.of q1,h2 U2 H2 Ext.refl aQ _ (jC.lK hl)⟩
   |_=>exact h2.elim
 |d r2=>
  cases r2 with
  |fl q r=>exact⟨true,_,_,rfl,q.sH,h2 U2 H2 Ext.refl aQ _ (jC.enum (kd:=true) aQ.lz q r)⟩
  |tup q r=>exact⟨false,_,_,rfl,q.jh,h2 U2 H2 Ext.refl aQ _ (jC.enum (kd:=false) aQ.lz q r)⟩
  |_=>exact h2.elim
theorem Zd:∀(ns:List Str) (vs:List V),((ns.zip vs).map (·.1)).Sublist ns
 |[],vs=>by simp
 |n::ns,[]=>by simp
 |n::ns,v::vs=>by
  rw[Fw,gG];exact(Zd ns vs).cons₂ n
theorem zfb:∀{ns:List Str} {vs:List V} {i:Nat} {x:Str} {v:V},ns.Nodup->ns[i]?=some x->vs[i]?=some v->(ns.zip vs).lookup x=some v
 |ns,vs,i,x,v,hn,h1,h2=>by
  refine Xo ?_ (zjT h1 h2);exact List.Sublist.nodup (Zd ns vs) hn
end
section
variable {X:Cx}{cA:Cl}{aq:Nat->Nat->Bool}{aj:Bool}{F:Bool->Fn}{EX:XS}{e:Expr}{es:List Expr}{Xs:Es}{pos p:Pos}{x:Str}
end
section
variable {X:Cx}{cA:Cl}{aq:Nat->Nat->Bool}{aj:Bool}{F:Fn}{EX:XS}{a b:Expr}{A B:E}{pos p tpos:Pos}{elts:List Expr}{kk:Nat}
theorem Sg(hmg:X.mg "enumerate"=none)(oF:JK X "enumerate" .globalImplicit)(hb:JE X cA aq aj F EX b B)(h2:aF b=true:=by rfl):JI X cA aq aj F EX (.Tuple elts kk tpos) (.Call (.Name "enumerate" p) [b] [] pos) (.enum B):=⟨zkh oF.o hmg hb.o (bI h2)⟩
end
end Mi
namespace Mi
open PySem PySem.Spec PyProof.Rows L2 PySem.W
theorem zjw{fd:FuncData}{q:Str}{st:Stmt}(h:nH fd=zV q st):fd=fnOf "__init__" q (aY st) (aK st) (au st) .none fd.kwdefaults fd.doc fd.pyModule fd.annotations fd.code fd.closureTuple:=by
 cases fd;unfold nH zV at h;cases h;rfl
structure Jk(K:Frag)(C:Addr)(q:Str)(st:Stmt):Prop where
 ex:∃(fI:Addr) (od:Option Addr) (kV doc pm:Value) (an:Option Addr) (cdv ct:Value) (osl:Array (Option Value)) (cd:ClassData),
  K.lookup fI=some ⟨.type "function",od,.func (fnOf "__init__" q (aY st) (aK st) (au st) .none kV doc pm an cdv ct),osl⟩/\codeIn K cdv q=true/\sX K C fI=true/\clsIn K C=some cd/\sW cd.mro=true/\cd.hasDict=true
theorem zm2{K:Frag}{C:Addr}{q:Str}{st:Stmt}(h:(Gg K C).map nH=some (zV q st)):Jk K C q st:=by
 cases e:Gg K C with
 |none=>rw[e] at h;cases h
 |some fd=>
  rw[e] at h;have hp:nH fd=zV q st:=cL h;unfold Gg at e;split at e
  ·rename_i cd j_;split at e
   ·rename_i f hf;split at e
    ·rename_i od fd' sl hl;split at e
     ·rename_i hc;cases e;simp only[gQ] at hc;obtain⟨⟨⟨c1,c2⟩,c3⟩,c4⟩:=hc;have eq:=zjw hp;have qn:fd.qualname=q:=by rw[eq]
      refine⟨⟨f,od,fd.kwdefaults,fd.doc,fd.pyModule,fd.annotations,fd.code,fd.closureTuple,sl,cd,?_,by rw[<-qn];exact c1,c2,j_,c3,c4⟩⟩;rw[<-eq];exact hl
     ·cases e
    ·cases e
   ·cases e
  ·cases e
theorem znK{K:Frag}{C:Addr}{f:Str}(h:Ku K C f=true):XF K C f:=by
 unfold Ku at h;simp only[gQ,pD] at h;obtain⟨⟨⟨⟨h1,h2⟩,h3⟩,h4⟩,h5⟩:=h;exact⟨h1,h2,h3,h4,h5⟩
structure oO(fs:List (Str×Stmt))(ms:List sZ)(xs:List (Nat×Str))(l:Lk)(K:Frag):Prop where
 fn:∀p∈fs,FnAt K p.1 p.2
 gd:yV l K
 mi:∀m∈ms,Jk K (iV (l.L K) m.c) m.q m.st
 se:∀m∈ms,setB K (iV (l.L K) m.c) m.fs=true
 xf:∀x∈xs,XF K (iV (l.L K) x.1) x.2
theorem Sh{a:Nat}{o:Obj}:∀{l:List Obj} {i:Nat},((a:Addr),o)∈Gh i l->i<=a/\l[a-i]?=some o/\o.isFreed=false
 |[],i,h=>by cases h
 |p::r,i,h=>by
  unfold Gh at h;split at h
  ·obtain⟨h1,h2,h3⟩:=Sh h;refine⟨by lia,?_,h3⟩;rw[show a-i=(a-(i+1))+1 by lia];exact h2
  ·rename_i hf;rcases iU.mp h with e|h
   ·cases e;exact⟨b_ _,by simp,hf⟩
   ·obtain⟨h1,h2,h3⟩:=Sh h;refine⟨by lia,?_,h3⟩;rw[show a-i=(a-(i+1))+1 by lia];exact h2
theorem Ze:∀{K:Frag},K.lookup a=some o->(a,o)∈K
 |[],h=>by cases h
 |(b,p)::r,h=>by
  rw[o_] at h;by_cases e:a=b
  ·subst e;simp only[zL] at h;cases h;exact lC
  ·rw[show (a==b)=false by simpa using e] at h;exact h_ _ (Ze h)
theorem zhr:(bT h).In h:=λa o e=>by
 have hm:=Ze e;unfold bT at hm;rcases oY.mp hm with z|z
 ·unfold qy at z;split at z
  ·rename_i p hp;rcases iU.mp z with e|z
   ·cases e;exact hp
   ·cases z
  ·cases z
 ·obtain⟨_,h2,h3⟩:=Sh (List.mem_reverse.mp z);rw[Heap.get?_some_iff];refine⟨?_,h3⟩;have:h.objs.toList[a]?=some o:=by simpa using h2
  simpa using this
end Mi
namespace Mi
open PySem PySem.Spec PyProof.Rows L2
section
variable {K:W.Frag}{cA:Cl}{U:Ph}{H:Hp}
noncomputable def jk(K:W.Frag)(U:Ph)(H:Hp):Bool->Addr->List V->Prop
 |true,a,vs=>LstAt K U H a vs
 |false,a,vs=>TupAt K U H a vs
theorem jk.sk{kd:Bool}{a:Addr}{vs:List V}(h:jk K U H kd a vs):Sk kd K H a vs:=by
 cases kd
 ·exact TupAt.jh h
 ·exact LstAt.sH h
theorem jk.later{kd:Bool}{a:Addr}{vs:List V}{U':Ph}{H₁ H':Hp}(hz:∀a∈U.l,U.z a)(h:jk K U H kd a vs)(x:Ext U H U' H₁)(o:cH U' H₁ H'):jk K U' H' kd a vs:=by
 cases kd
 ·exact TupAt.later hz h x o
 ·exact LstAt.later hz h x o
theorem Sq{xs ys:List D}{i:Nat}:(List.zipWith (λp q=>D.tup [p,q]) xs ys)[i]?=match xs[i]?,ys[i]? with
  |some p,some q=>some (.tup [p,q])
  |_,_=>none:=by
 rw[List.getElem?_zipWith];cases xs[i]?<;>cases ys[i]?<;>rfl
theorem jC.zip{k1 k2:Bool}{l1 l2:Addr}{xs ys:List D}{us vs:List V}(hz:∀a∈U.l,U.z a)(h1:jk K U H k1 l1 us)(h2:jk K U H k2 l2 vs)(r1:aC K cA U H xs us)(r2:aC K cA U H ys vs):jC K cA (.fix (List.zipWith (λp q=>D.tup [p,q]) xs ys)) U H (QS K k1 k2 l1 l2):=by
 refine⟨λU' H₁ H' s' i x o hS e=>?_,λU' H₁ H' s' i d x o hS e=>?_,λU' H₁ H' s' i d v H2 x o hS e y=>?_⟩
 ·have e:(List.zipWith (λp q=>D.tup [p,q]) xs ys)[i]?=none:=cL e;rw[Sq] at e;refine⟨us,vs,(h1.later hz x o).sk,(h2.later hz x o).sk,?_⟩;cases ex:xs[i]? with
  |none=>exact .inl (qm.mp (r1.none ex))
  |some p=>
   cases ey:ys[i]? with
   |none=>exact .inr (qm.mp (r2.none ey))
   |some q=>rw[ex,ey] at e;cases e
 ·have e:(List.zipWith (λp q=>D.tup [p,q]) xs ys)[i]?=some d:=cL e;rw[Sq] at e;cases ex:xs[i]? with
  |none=>rw[ex] at e;cases e
  |some p=>
   cases ey:ys[i]? with
   |none=>rw[ex,ey] at e;cases e
   |some q=>
    obtain⟨u,q1,_⟩:=r1.get ex;obtain⟨v,q2,_⟩:=r2.get ey;exact⟨us,vs,u,v,(h1.later hz x o).sk,(h2.later hz x o).sk,q1,q2⟩
 ·have e:(List.zipWith (λp q=>D.tup [p,q]) xs ys)[i]?=some d:=cL e;rw[Sq] at e;cases ex:xs[i]? with
  |none=>rw[ex] at e;cases e
  |some p=>
   cases ey:ys[i]? with
   |none=>rw[ex,ey] at e;cases e
   |some q=>
    rw[ex,ey] at e;cases e;obtain⟨a,u,w,hn,rfl,rfl,hu,hw⟩:=y;obtain⟨u',q1,ru⟩:=((r1.mono x hz).out o).get ex;obtain⟨w',q2,mK⟩:=((r2.mono x hz).out o).get ey;have e1:=hu us (h1.later hz x o).sk;have e2:=hw vs (h2.later hz x o).sk;rw[q1] at e1;rw[q2] at e2;cases e1;cases e2;have g:bB H' (upd H' a (.tup [u,w])):=bB.new hn;exact⟨g,.tup (.inl ⟨.inl jF,hS.nz hn⟩) (.cons (ru.mono g.ext hS.lz) (.cons (mK.mono g.ext hS.lz) .nil))⟩
theorem Zf(r:aV K cA U H x v)(h:Run K cA (M.bd (pR x) k) U H s P Ee) :
  ∃xs kd a vs,v=.ref a/\jk K U H kd a vs/\aC K cA U H xs vs/\Run K cA (k xs) U H s P Ee:=by
 cases r with
 |l _=>exact h.elim
 |d r=>
  cases r with
  |tup q r=>exact⟨_,false,_,_,rfl,q,r,h⟩
  |fl q r=>exact⟨_,true,_,_,rfl,q,r,h⟩
  |_=>exact h.elim
end
section
variable {X:Cx}{cA:Cl}{aq:Nat->Nat->Bool}{aj:Bool}{F:Fn}{EX:XS}{a b:Expr}{A B:E}{pos pp tpos:Pos}{elts:List Expr}{kk:Nat}
theorem zkU(oF:Gl X "zip")(hmg:X.mg "zip"=none)(ha:SE X cA aq aj F EX a A)(hb:SE X cA aq aj F EX b B)(h1:starEach [a,b] X.env=(false,eval a X.env)::starEach [b] X.env)(h2:starEach [b] X.env=(false,eval b X.env)::starEach [] X.env) :
  SI X cA aq aj F EX (.Tuple elts kk tpos) (.Call (.Name "zip" pp) [a,b] [] pos) (.zip A B):=PI.weak (zlN oF hmg (vD ha (vD hb Al h2) h1) (by rw[h1,h2];rfl) (by rw[h2];rfl)) λZ H R hh=>un hh λU J s hL hS h=>by
 refine aZ hL hS h λx H1 U1 d1 s1 x1 hL1 aJ r1 h1=>aZ hL1 aJ h1 λy H2 U2 d2 s2 x2 hL2 aQ r2 h2=>?_;obtain⟨xs,k1,l1,us,e1,q1,p1,h3⟩:=Zf (r1.mono x2 aJ.lz) h2;obtain⟨ys,k2,l2,vs,e2,q2,p2,h4⟩:=Zf r2 h3;subst e1 e2;exact⟨k1,k2,l1,l2,us,vs,rfl,q1.sk,q2.sk,(h4.bL aQ) _ (jC.zip aQ.lz q1 q2 p1 p2)⟩
theorem zno(hmg:X.mg "zip"=none)(oF:JK X "zip" .globalImplicit)(ha:JE X cA aq aj F EX a A)(hb:JE X cA aq aj F EX b B)(h1:aF a=true:=by rfl)(h2:aF b=true:=by rfl):JI X cA aq aj F EX (.Tuple elts kk tpos) (.Call (.Name "zip" p) [a,b] [] pos) (.zip A B):=⟨zkU oF.o hmg ha.o hb.o (bI h1) (bI h2)⟩
end
section
variable {K:W.Frag}{cA:Cl}{U:Ph}{H:Hp}
end
section
variable {X:Cx}
end
section
variable {X:Cx}{cA:Cl}{aq:Nat->Nat->Bool}{aj:Bool}{F:Fn}{EX:XS}{e:Expr}{pos p:Pos}{es:List Expr}{Xs:Es}{fz:Bool}
end
noncomputable def El(i:Int)(n:Nat):List V:=(List.range n).map λk=>.int (i+(k:Nat))
theorem zi8{i:Int}{acc:Array Value}:∀{n m:Nat},(∀k v,acc.toList[k]?=some (v:Value)->∃t,v=Value.int (i+((m+k:Nat):Int)) t)->acc.toList.length=n->Vals ((List.range n).map λk=>V.int (i+((m+k:Nat):Int))) acc.toList:=by
 generalize acc.toList=l
 induction l with
 |nil=>intro n m _ e;subst e;exact .nil
 |cons v l ih=>
  intro n m h e;subst e;rw[f9,N8,gG,wj];refine .cons (h 0 v rfl) ?_;have:=ih (n:=l.length) (m:=m+1) (λk v e=>by
   have:=h (k+1) v e;rw[show m+1+k=m+(k+1) by lia];exact this) rfl
  have e:((λk=>V.int (i+((m+k:Nat):Int)))∘Nat.succ)=λk=>V.int (i+((m+1+k:Nat):Int)):=by
   funext k
   show V.int (i+((m+(k+1):Nat):Int))=_;rw[show m+(k+1)=m+1+k by lia]
  rw[e];exact this
section
variable {X:Cx}
end
section
variable {K:W.Frag}{cA:Cl}{U:Ph}{H:Hp}
theorem Zg:∀l:List Nat,aC K cA U H (l.map λk=>D.int (i+(k:Nat))) (l.map λk=>V.int (i+(k:Nat)))
 |[]=>.nil
 |_::l=>.cons (.int _) (Zg l)
end
section
variable {X:Cx}{cA:Cl}{aq:Nat->Nat->Bool}{aj:Bool}{F:Fn}{EX:XS}{e:Expr}{pos pos' p p':Pos}{es:List Expr}{Xs:Es}{fz:Bool}
end
end Mi
namespace Mi
open PySem PySem.Spec PyProof.Rows L2 PySem.W
structure D3(K:Frag)(mg:Str->Option Value)(x:Str)(st:Stmt)(ps:List Str):Prop where
 f:oJ K x x st (iG K x) (fdOf K x st)
 m:mg x=some (.ref (iG K x))
 b:Binds K (fdOf K x st) ps []
theorem dk{p:Prop}(h:p:=by decide +kernel):p:=h
section
variable {fs:List (Str×Stmt)}{ms:List sZ}{xs:List (Nat×Str)}{lk:Lk}{K:Frag}{h:Heap}{mg:Str->Option Value}{x:Str}{st:Stmt}
theorem qR(S:oO fs ms xs lk K)(X:K.In h)(G:h.Ns mainGlobals mg)(j:Nat)(hj:fs[j]?=some (x,st):=by rfl)(hb:∀(kV doc pm:Value) (an:Option Addr) (cdv ct a:Value),bindArgs (fnOf x x (aY st) (aK st) (au st) .none kV doc pm an cdv ct) ⟨[a],[]⟩=pure [(p,a)]:=by intros;rfl):D3 K mg x st [p]:=have F:=S.fn (x,st) (fX hj);⟨F.fn,F.m X G,xQ F.fn hb⟩
theorem kI(S:oO fs ms xs lk K)(X:K.In h)(G:h.Ns mainGlobals mg)(j:Nat)(hj:fs[j]?=some (x,st):=by rfl)(hb:∀(kV doc pm:Value) (an:Option Addr) (cdv ct a b:Value),bindArgs (fnOf x x (aY st) (aK st) (au st) .none kV doc pm an cdv ct) ⟨[a,b],[]⟩=pure [(p,a),(q,b)]:=by intros;rfl):D3 K mg x st [p,q]:=have F:=S.fn (x,st) (fX hj);⟨F.fn,F.m X G,xR F.fn hb⟩
theorem Em(S:oO fs ms xs lk K)(X:K.In h)(G:h.Ns mainGlobals mg)(j:Nat)(hj:fs[j]?=some (x,st):=by rfl)(hb:∀(kV doc pm:Value) (an:Option Addr) (cdv ct a b c:Value),bindArgs (fnOf x x (aY st) (aK st) (au st) .none kV doc pm an cdv ct) ⟨[a,b,c],[]⟩=pure [(p,a),(q,b),(t,c)]:=by intros;rfl):D3 K mg x st [p,q,t]:=have F:=S.fn (x,st) (fX hj);⟨F.fn,F.m X G,xT F.fn hb⟩
theorem Zh(S:oO fs ms xs lk K)(X:K.In h)(G:h.Ns mainGlobals mg)(j:Nat)(hj:fs[j]?=some (x,st):=by rfl)(hb:∀(kV doc pm:Value) (an:Option Addr) (cdv ct a b c d:Value),bindArgs (fnOf x x (aY st) (aK st) (au st) .none kV doc pm an cdv ct) ⟨[a,b,c,d],[]⟩=pure [(p,a),(q,b),(t,c),(u,d)]:=by intros;rfl):D3 K mg x st [p,q,t,u]:=have F:=S.fn (x,st) (fX hj);⟨F.fn,F.m X G,xU F.fn hb⟩
theorem mG{α:Type}{l:List α}{a:α}(j:Nat)(h:l[j]?=some a:=by rfl):a∈l:=fX h
end
end Mi
namespace Mi
open PySem PySem.Spec PyProof.Rows L2
section
variable {X:Cx}{cA:Cl}
end
section
variable {X:Cx}{cA:Cl}{aq:Nat->Nat->Bool}{aj:Bool}{F:Fn}{EX:XS}{e:Expr}{pos p:Pos}{es:List Expr}{Xs:Es}{fz:Bool}
end
end Mi
namespace Mi
open PySem
def W{α:Type}(m:M α)(s:S)(P:α->S->Prop):Prop:=∃a s',m s=some (.ok a,s')/\P a s'
def WS(m:MS)(s:S)(Q:Out->S->Prop):Prop:=∃o s',m s=some (o,s')/\Q o s'
section
variable {α β:Type}{m:M α}{k:α->M β}{s:S}{P:α->S->Prop}{R:β->S->Prop}
theorem W.bd(h:W m s λa s'=>W (k a) s' R):W (M.bd m k) s R:=by
 obtain⟨a,s',e,b,s2,e2,r⟩:=h;exact⟨b,s2,by unfold M.bd;rw[e];exact e2,r⟩
theorem W.ret{a:α}(h:P a s):W (M.ret a) s P:=⟨a,s,rfl,h⟩
theorem W.qt(h:W m s P):W (M.qt m) s P:=by
 obtain⟨a,s',e,p⟩:=h;exact⟨a,s',by unfold M.qt;rw[e],p⟩
theorem W.opt(e:o=some a)(h:P a s):W (M.opt o) s P:=by subst e;exact⟨a,s,rfl,h⟩
theorem W.imp{P':α->S->Prop}(h:W m s P)(f:∀a s',P a s'->P' a s'):W m s P':=let ⟨a,s',e,p⟩:=h;⟨a,s',e,f a s' p⟩
theorem W.eq(e:m s=some (.ok a,s'))(p:P a s'):W m s P:=⟨a,s',e,p⟩
theorem Ka2{d:D}{P:D->S->Prop}(h:P d s):W (rd (.d d)) s P:=⟨d,s,rfl,h⟩
theorem Zi{n:Nat}{xs:List D}{P:D->S->Prop}(e:s[n]?=some (.lst xs))(h:P (.fl xs) s):W (rd (.l n)) s P:=⟨.fl xs,s,by unfold rd;simp only[e],h⟩
theorem Ka5{P:List D->S->Prop}(h:P [] s):W (gK []) s P:=⟨[],s,rfl,h⟩
theorem Ka4{x:Xv}{r:List Xv}{P:List D->S->Prop}(h:W (rd x) s λd s1=>W (gK r) s1 λds s2=>P (d::ds) s2):W (gK (x::r)) s P:=W.bd (h.imp λd s1 h1=>W.bd (h1.imp λds s2 h2=>W.ret h2))
theorem Kax{P:List D->S->Prop}(h:P [] s):W (cG []) s P:=⟨[],s,rfl,h⟩
theorem Kaw{d:D}{r:List Xv}{P:List D->S->Prop}(h:W (cG r) s λds s2=>P (d::ds) s2):W (cG (.d d::r)) s P:=W.bd (W.ret (W.bd (h.imp λds s2 h2=>W.ret h2)))
theorem W.dat{x:D}{P:D->S->Prop}(h:P x s):W (dat (.d x)) s P:=⟨x,s,rfl,h⟩
theorem W.bool{b:Bool}{P:Bool->S->Prop}(h:P b s):W (bool (.d (.bl b))) s P:=⟨b,s,rfl,h⟩
theorem W.int{b:Int}{P:Int->S->Prop}(h:P b s):W (int (.d (.int b))) s P:=⟨b,s,rfl,h⟩
theorem gj{fz:Bool}{o:Option Rz}{d:D}{P:Xv->S->Prop}(e:o=some (.dat d))(h:P (.d d) s):W (cB fz o) s P:=by subst e;exact⟨_,s,rfl,h⟩
theorem Mh{o:Option Rz}{xs:List D}{P:Xv->S->Prop}(e:o=some (.nw xs))(h:P (.d (.fl xs)) s):W (cB true o) s P:=by subst e;exact⟨_,s,rfl,h⟩
theorem KaS{xs:List D}{P:Xv->S->Prop}(h:P (.d (.fl xs)) s):W (newL true xs) s P:=⟨_,s,rfl,h⟩
theorem KaR{xs:List D}{P:Xv->S->Prop}(h:P (.l s.length) (s++[.lst xs])):W (newL false xs) s P:=⟨_,_,rfl,h⟩
theorem rW{F:List Xv->M Xv}{xs:List Xv}{P:Xv->S->Prop}(hl:locs xs=[])(h:W (F (dB 0 xs)) [] λv _=>∃d,v=.d d/\P (.d d) s):W (cI F xs) s P:=by
 obtain⟨v,s1,e,d,rfl,p⟩:=h;refine⟨.d d,s,?_,p⟩;unfold cI;rw[hl,if_pos CZ];simp only[jA,e,cZ]
theorem Kan{F:List Xv->M Xv}{xs:List Xv}{P:Xv->S->Prop}(hl:locs xs=[])(h:W (F (dB 0 xs)) [] λv s1=>∃n o,v=.l n/\s1[n]?=some o/\P (.l s.length) (s++[o])):W (cI F xs) s P:=by
 obtain⟨v,s1,e,n,o,rfl,eo,p⟩:=h;refine⟨.l s.length,s++[o],?_,p⟩;unfold cI;rw[hl,if_pos CZ];simp only[jA,e,cZ,List.getElem?_nil,eo]
theorem Ss{F:List Xv->M Xv}{xs:List Xv}{n:Nat}{o:SO}{P:Xv->S->Prop}(hl:locs xs=[n])(ho:s[n]?=some o)(h:W (F (dB 0 xs)) [o] λv s1=>∃d o',v=.d d/\s1=[o']/\P (.d d) (s.set n o')):W (cI F xs) s P:=by
 obtain⟨v,s1,e,d,o',rfl,rfl,p⟩:=h;refine⟨.d d,s.set n o',?_,p⟩;unfold cI;rw[hl,if_pos (by simp)];simp only[jA,ho,e,cZ]
end
section
variable {s:S}{Q:Out->S->Prop}
theorem WS.ofM(h:W m s λa s'=>WS (k a) s' Q):WS (Mi.ofM m J k) s Q:=by
 obtain⟨a,s',e,o,s2,e2,q⟩:=h;exact⟨o,s2,by unfold Mi.ofM;rw[e];exact e2,q⟩
theorem WS.nx(h:Q (.nx J) s):WS (λs=>some (.nx J,s)) s Q:=⟨_,s,rfl,h⟩
theorem WS.rt(h:Q (.rt x) s):WS (λs=>some (.rt x,s)) s Q:=⟨_,s,rfl,h⟩
theorem WS.imp(h:WS m s Q)(f:∀o s',Q o s'->Q' o s'):WS m s Q':=let ⟨a,s',e,p⟩:=h;⟨a,s',e,f a s' p⟩
end
theorem W.call(hT:T f=some d)(hl:xs.length=d.iC)
  (h:WS (exs aq aj (λc=>Mi.call aq T k c) d.body (xs.map some++List.replicate (d.many-d.iC) none)) s λo s'=>match o with|.nx _=>P (.d .non) s'|.rt v=>P v s'|_=>False):W (Mi.call aq T (k+1) aj f xs) s P:=by
 obtain⟨o,s',e,q⟩:=h;unfold Mi.call;simp only[hT,if_pos hl];unfold W;simp only[e];cases o with
 |nx J=>exact⟨_,_,rfl,q⟩
 |rt v=>exact⟨_,_,rfl,q⟩
 |bk J=>exact q.elim
 |ct J=>exact q.elim
 |er c fs J=>exact q.elim
theorem En(I:Nat->Vs->S->Prop)(h0:I 0 J s)(hb:∀i x J s,c[i]?=some x->I i J s->WS (b x J) s λo s'=>∃J',o=.nx J'/\I (i+1) J' s')
  (he:∀J s,I c.length J s->Q (.nx J) s):WS (dG (.fix c) b (c.length+1) 0 J) s Q:=by
 have key:∀n i J s,i+n=c.length->I i J s->WS (dG (.fix c) b (n+1) i J) s Q:=by
  intro n
  induction n with
  |zero=>
   intro i J s hi hI;have e:c[i]?=none:=by rw[qm];lia
   have:i=c.length:=by lia
   subst this;refine⟨_,s,?_,he J s hI⟩;unfold dG;simp only[Src.at,e]
  |succ n ih=>
   intro i J s hi hI;have dF:i<c.length:=by lia
   have e:c[i]?=some c[i]:=dO dF;obtain⟨o,s',eb,J',rfl,B_⟩:=hb i c[i] J s e hI;obtain⟨o2,s2,e2,q⟩:=ih (i+1) J' s' (by lia) B_;refine⟨o2,s2,?_,q⟩;unfold dG;simp only[Src.at,e,eb];exact e2
 exact key c.length 0 J s (by lia) h0
theorem znn{i j:Int}(h:(-(2^64)<i/\i<2^64)\/(-(2^64)<j/\j<2^64)):prim .mul [.int i,.int j]=some (.dat (.int (i*j))):=by
 show Option.map _ (if _ then _ else _)=_;rw[if_pos h];rfl
theorem zm0{i j:Int}(h:0<j):prim .mod [.int i,.int j]=some (.dat (.int (i%j))):=by
 show Option.map _ (if _ then _ else _)=_;rw[if_pos h];rfl
theorem zmy{i j:Int}(h:0<j/\j<1073741824):prim .fdiv [.int i,.int j]=some (.dat (.int (i/j))):=by
 show Option.map _ (if _ then _ else _)=_;rw[if_pos h];rfl
theorem zhv{i j:Int}(h:0<j/\j<1073741824):prim .divmod [.int i,.int j]=some (.dat (.tup [.int (i/j),.int (i%j)])):=by
 show Option.map _ (if _ then _ else _)=_;rw[if_pos h];rfl
theorem zmZ{i j:Int}(h:0<=j/\j<=1000000/\i.natAbs<2^64):prim .pow [.int i,.int j]=some (.dat (.int (i^j.toNat))):=by
 show Option.map _ (if _ then _ else _)=_;rw[if_pos h];rfl
theorem Mj{xs:List D}{i:Nat}{x:D}(h:xs[i]?=some x):prim .ix [.fl xs,.int i]=some (.dat x):=by
 show Option.map Rz.dat (L2.qF xs i)=_;have:L2.qF xs (i:Int)=some x:=by
  unfold L2.qF L2.rE;have hl:i<xs.length:=(eO.mp h).1;simp[hl];exact(eO.mp h).2
 rw[this];rfl
theorem Zj(h:xs.length+ys.length<=sizeLine):prim .add [.fl xs,.fl ys]=some (.nw (xs++ys)):=by
 show (if _ then _ else _)=_;rw[if_pos h]
theorem W.ite[Decidable c](h1:c->W m1 s P)(h2:¬c->W m2 s P):W (if c then m1 else m2) s P:=by
 by_cases h:c
 ·rw[if_pos h];exact h1 h
 ·rw[if_neg h];exact h2 h
theorem WS.ite[Decidable c](h1:c->WS m1 s P)(h2:¬c->WS m2 s P):WS (if c then m1 else m2) s P:=by
 by_cases h:c
 ·rw[if_pos h];exact h1 h
 ·rw[if_neg h];exact h2 h
theorem Sv{n:Nat}{xs:List D}{s:S}{P:Unit->S->Prop}(h:P () (s.set n (.lst xs))):W (putL n xs) s P:=⟨_,_,rfl,h⟩
theorem W.cP{n:Nat}{xs:List D}{s:S}{P:Nat×List D->S->Prop}(e:s[n]?=some (.lst xs))(h:P (n,xs) s):W (cP (.l n)) s P:=⟨_,s,by unfold Mi.cP;simp only[e],h⟩
theorem Ka7{xs:List D}{s:S}{P:Src×Nat->S->Prop}(h:P (.fix xs,xs.length) s):W (src (.d (.tup xs))) s P:=⟨_,s,rfl,h⟩
theorem Ka6{xs:List D}{s:S}{P:Src×Nat->S->Prop}(h:P (.fix xs,xs.length) s):W (src (.d (.fl xs))) s P:=⟨_,s,rfl,h⟩
theorem WS.nil{aq:Nat->Nat->Bool}{aj:Bool}{F:Bool->Fn}{J:Vs}{s:S}{Q:Out->S->Prop}(h:Q (.nx J) s):WS (exs aq aj F .nil J) s Q:=⟨_,s,rfl,h⟩
theorem WS.cons{aq:Nat->Nat->Bool}{aj:Bool}{F:Bool->Fn}{a:St}{r:bV}{J:Vs}{s:S}{Q:Out->S->Prop}(h:WS (ex aq aj F a J) s λo s'=>match o with|.nx J'=>WS (exs aq aj F r J') s' Q|.rt x=>Q (.rt x) s'|_=>False):WS (exs aq aj F (.cons a r) J) s Q:=by
 obtain⟨o,s',e,q⟩:=h;unfold WS exs Mi.cJ;rw[e];cases o with
 |nx J'=>exact q
 |rt x=>exact⟨_,_,rfl,q⟩
 |bk _=>exact q.elim
 |ct _=>exact q.elim
 |er _ _ _=>exact q.elim
def sO{α:Type}(o:Option α)(P:α->Prop):Prop:=∃a,o=some a/\P a
theorem sO.mk{α:Type}{o:Option α}{P:α->Prop}{a:α}(e:o=some a)(h:P a):sO o P:=⟨a,e,h⟩
section
variable {aq:Nat->Nat->Bool}{aj:Bool}{F:Fn}{J:Vs}{s:S}{P:Xv->S->Prop}
theorem W.eC{d:D}(h:P (.d d) s):W (ev aq aj F (.c d) J) s P:=W.ret h
theorem W.eV{i:Nat}{x:Xv}(e:J[i]?.join=some x)(h:P x s):W (ev aq aj F (.v i) J) s P:=W.opt e h
theorem Zk{fz:Bool}{p:Pr}{xs:Es}(h:W (evs aq aj F xs J) s λvs s1=>W (gK vs) s1 λds s2=>W (cB fz (prim p ds)) s2 P):W (ev aq aj F (.pr fz p xs) J) s P:=W.bd (h.imp λ_ _ h=>W.bd h)
theorem Kaz{a b:E}(h:W (ev aq aj F a J) s λx s1=>W (Mi.bool x) s1 λk s2=>W (if k=true then ev aq aj F b J else M.ret (.d (.bl false))) s2 P):W (ev aq aj F (.and a b) J) s P:=W.bd (h.imp λ_ _ h=>W.bd h)
theorem KaH{a b:E}(h:W (ev aq aj F a J) s λx s1=>W (Mi.bool x) s1 λk s2=>W (if k=true then M.ret (.d (.bl true)) else ev aq aj F b J) s2 P):W (ev aq aj F (.or a b) J) s P:=W.bd (h.imp λ_ _ h=>W.bd h)
theorem KaG{a:E}(h:W (ev aq aj F a J) s λx s1=>W (Mi.bool x) s1 λk s2=>P (.d (.bl (!k))) s2):W (ev aq aj F (.not a) J) s P:=W.bd (h.imp λ_ _ h=>W.bd (h.imp λ_ _ h=>W.ret h))
theorem KaK{xs:Es}(h:W (evs aq aj F xs J) s λvs s1=>W (cG vs) s1 λds s2=>P (.d (.tup ds)) s2):W (ev aq aj F (.tup xs) J) s P:=W.bd (h.imp λ_ _ h=>W.bd (h.imp λ_ _ h=>W.ret h))
theorem KaF{fz:Bool}{xs:Es}(h:W (evs aq aj F xs J) s λvs s1=>W (cG vs) s1 λds s2=>W (newL fz ds) s2 P):W (ev aq aj F (.lst fz xs) J) s P:=W.bd (h.imp λ_ _ h=>W.bd h)
theorem KaC{k:Str}{i:Int}(h:P (.d (.fd [.str k] [.int i])) s):W (ev aq aj F (.HN k i) J) s P:=W.ret h
theorem Zm{f:Nat}{xs:Es}(h:W (evs aq aj F xs J) s λvs s1=>W (cI (F f) vs) s1 P):W (ev aq aj F (.call f xs) J) s P:=W.bd h
theorem KaJ{fz:Bool}{a:E}{lo hi:Eo}(h:W (ev aq aj F a J) s λx s1=>W (wV aq aj F lo J) s1 λl s2=>W (wV aq aj F hi J) s2 λu s3=>W (rd x) s3 λd s4=>W (cB fz (cutD d l u)) s4 P):W (ev aq aj F (.sl fz a lo hi) J) s P:=W.bd (h.imp λ_ _ h=>W.bd (h.imp λ_ _ h=>W.bd (h.imp λ_ _ h=>W.bd h)))
theorem KaT{P:Option Int->S->Prop}(h:P none s):W (wV aq aj F .no J) s P:=W.ret h
theorem KaU{a:E}{P:Option Int->S->Prop}(h:W (ev aq aj F a J) s λx s1=>W (Mi.int x) s1 λi s2=>P (some i) s2):W (wV aq aj F (.yes a) J) s P:=W.bd (h.imp λ_ _ h=>W.bd (h.imp λ_ _ h=>W.ret h))
theorem Kaj{P:List Xv->S->Prop}(h:P [] s):W (evs aq aj F .nil J) s P:=W.ret h
theorem Zn{a:E}{r:Es}{P:List Xv->S->Prop}(h:W (ev aq aj F a J) s λx s1=>W (evs aq aj F r J) s1 λxs s2=>P (x::xs) s2):W (evs aq aj F (.cons a r) J) s P:=W.bd (h.imp λ_ _ h=>W.bd (h.imp λ_ _ h=>W.ret h))
theorem KaP{a:E}{P:Src×Nat->S->Prop}(h:W (ev aq aj F a J) s λx s1=>W (src x) s1 P):W (g8 aq aj F (.seq a) J) s P:=W.bd h
end
section
variable {aq:Nat->Nat->Bool}{aj:Bool}{F:Bool->Fn}{J:Vs}{s:S}{Q:Out->S->Prop}
theorem WS.Sw{b:Bool}{m1 m2:MS}(e:b=true)(h:WS m1 s Q):WS (if b=true then m1 else m2) s Q:=by rw[if_pos e];exact h
theorem WS.Ep{b:Bool}{m1 m2:MS}(e:b=false)(h:WS m2 s Q):WS (if b=true then m1 else m2) s Q:=by rw[if_neg (by rw[e];decide)];exact h
theorem WS.yW{m1 m2:MS}(h:WS m1 s Q):WS (if true=true then m1 else m2) s Q:=by rw[if_pos rfl];exact h
theorem WS.Sx{m1 m2:MS}(h:WS m2 s Q):WS (if false=true then m1 else m2) s Q:=by rw[if_neg (by decide)];exact h
theorem Kbd{e:E}(h:W (ev aq aj (F aj) e J) s λ_ s1=>Q (.nx J) s1):WS (ex aq aj F (.ex e) J) s Q:=WS.ofM (h.imp λ_ _ h=>WS.nx h)
theorem Zo{i:Nat}{e:E}(h:W (ev aq aj (F aj) e J) s λx s1=>Q (.nx (J.set i (some x))) s1):WS (ex aq aj F (.asg (.nm i) e) J) s Q:=WS.ofM (h.imp λ_ _ h=>WS.nx h)
theorem Kbl{is:List Nat}{e:E}(h:W (ev aq true (F true) e J) s λx s1=>W (dat x) s1 λd s2=>sO ((jR d).bind λds=>fU is (ds.map .d) J) λJ'=>Q (.nx J') s2):WS (ex aq true F (.asg (.tp is) e) J) s Q:=by
 refine WS.ofM (h.imp λx s1 h=>?_);exact WS.yW (m2:=λ_=>none) (WS.ofM (W.bd (h.imp λd s2 ⟨J',e,q⟩=>W.opt e (WS.nx q))))
theorem Kbk{o i e:E}(h:W (ev aq aj (F aj) e J) s λx s1=>W (dat x) s1 λd s2=>W (ev aq aj (F aj) o J) s2 λy s3=>W (ev aq aj (F aj) i J) s3 λz s4=>W (Mi.int z) s4 λj s5=>W (cP y) s5 λnx s6=>sO (L2.rE nx.2.length j) λq=>Q (.nx J) (s6.set nx.1 (.lst (nx.2.set q d)))):WS (ex aq aj F (.asg (.aq o i) e) J) s Q:=by
 refine WS.ofM (h.imp λx s1 h=>WS.ofM (W.bd (h.imp λd s2 h=>W.bd (h.imp λy s3 h=>W.bd (h.imp λz s4 h=>W.bd (h.imp λj s5 h=>W.bd (h.imp λnx s6 h=>?_)))))));obtain⟨q,e,h⟩:=h;simp only[e];exact Sv (WS.nx h)
theorem Kbh{i j:Nat}{a b:E}(h:W (ev aq true (F true) a J) s λx s1=>W (ev aq true (F true) b J) s1 λy s2=>Q (.nx ((J.set i (some x)).set j (some y))) s2):WS (ex aq true F (.par i j a b) J) s Q:=by
 exact WS.yW (m2:=λ_=>none) (WS.ofM (W.bd (h.imp λx s1 h=>W.bd (h.imp λy s2 h=>W.ret (WS.nx h)))))
theorem Zq{e:E}(h:W (ev aq aj (F aj) e J) s λx s1=>Q (.rt x) s1):WS (ex aq aj F (.ret e) J) s Q:=WS.ofM (h.imp λ_ _ h=>WS.rt h)
theorem Zr{c:E}{t e:bV}(h:W (ev aq aj (F aj) c J) s λx s1=>W (Mi.bool x) s1 λb s2=>WS (if b=true then exs aq aj F t J else exs aq aj F e J) s2 Q):WS (ex aq aj F (.iff c t e) J) s Q:=WS.ofM (W.bd h)
theorem Kbe{t:Tg}{w:Wk}{b:bV}(h:W (g8 aq true (F true) w J) s λcn s1=>WS (dG cn.1 (λd J=>Mi.cJ (store aq true (F true) t (.d d) J) λJ'=>exs aq true F b J') (cn.2+1) 0 J) s1 Q):WS (ex aq true F (.fr t w b) J) s Q:=by
 exact WS.yW (m2:=λ_=>none) (WS.ofM h)
end
theorem W.Sw{α:Type}{b:Bool}{m1 m2:M α}{s:S}{P:α->S->Prop}(e:b=true)(h:W m1 s P):W (if b=true then m1 else m2) s P:=by rw[if_pos e];exact h
theorem W.Ep{α:Type}{b:Bool}{m1 m2:M α}{s:S}{P:α->S->Prop}(e:b=false)(h:W m2 s P):W (if b=true then m1 else m2) s P:=by rw[if_neg (by rw[e];decide)];exact h
theorem W.yW{α:Type}{m1 m2:M α}{s:S}{P:α->S->Prop}(h:W m1 s P):W (if true=true then m1 else m2) s P:=by rw[if_pos rfl];exact h
theorem W.Sx{α:Type}{m1 m2:M α}{s:S}{P:α->S->Prop}(h:W m2 s P):W (if false=true then m1 else m2) s P:=by rw[if_neg (by decide)];exact h
structure Bx(R:Prop):Prop where
 o:R
end Mi
namespace Mi
open PySem PySem.W PyProof.Rows L2
def rY{α:Type}(lt:Nat->Nat->Option Bool)(t:KasT α)(P:α->Prop):Prop:=∃a,bY lt t=some a/\P a
section
variable {α β:Type}{lt:Nat->Nat->Option Bool}{n:Nat}
theorem rY.ret(h:P a):rY lt (.ret a) P:=⟨a,rfl,h⟩
theorem rY.bind(hf:∀a,P a->rY lt (f a) R):∀{t:KasT α},rY lt t P->rY lt (t.bind f) R
 |.ret a,⟨a',e,h⟩=>by cases e;exact hf _ h
 |.ask i j k,⟨a',e,h⟩=>by
  unfold bY at e;cases el:lt i j with
  |none=>rw[el] at e;cases e
  |some b=>
   rw[el] at e;obtain⟨c,e1,h1⟩:=rY.bind hf (t:=k b) ⟨a',e,h⟩;refine⟨c,?_,h1⟩;show bY lt (.ask i j λb=>(k b).bind f)=some c;unfold bY;rw[el];exact e1
def Tot(n:Nat)(lt:Nat->Nat->Option Bool):Prop:=∀i j,i<n->j<n->∃b,lt i j=some b
variable (ht:Tot n lt)(hn:0<n)
include ht hn
end
section
variable {lt:Nat->Nat->Option Bool}{n:Nat}
theorem Zu(h:∀k,1<=k->k<n->lt (p.getD k 0) (p.getD (k-1) 0)=some false):∀f k,1<=k->k+f=n->rY lt (kas_asc p f k) λr=>r=n
 |0,k,h1,e=>.ret (by lia)
 |f+1,k,h1,e=>by
  obtain⟨a,e1,e2⟩:=Zu h f (k+1) (by lia) (by lia);refine⟨a,?_,e2⟩;unfold kas_asc bY;rw[h k h1 (by lia)];exact e1
theorem Zv(hk:k<n):(List.range n).toArray.getD k 0=k:=by
 simp[Array.getD,hk]
theorem zfT(hn:0<n)(h:∀k,k+1<n->lt (k+1) k=some false):bY lt (kas_sort n)=some (List.range n).toArray:=by
 have h1:rY lt (kas_asc (List.range n).toArray (n-1) 1) λr=>r=n:=Zu (λk a b=>by
  rw[Zv b,Zv (by lia)];have:=h (k-1) (by lia)
  rwa [show k-1+1=k by lia] at this) _ _ (b_ _) (by lia)
 have h2:rY lt (kas_count n (List.range n).toArray) λr=>r=(n,(List.range n).toArray):=by
  refine rY.bind (λr hr=>?_) h1;subst hr;rw[if_pos (by simp)];exact .ret rfl
 have h3:rY lt (kas_sort n) λr=>r=(List.range n).toArray:=by
  refine rY.bind (λr hr=>?_) h2;subst hr;rw[if_neg (pB _)];exact .ret rfl
 obtain⟨a,e,rfl⟩:=h3;exact e
end
theorem zhp(hk:(xs.all jQ||xs.all iZ)=true)(tZ:xs.length<64)(h:∀k,k+1<xs.length->yF xs (k+1) k=some false):yG xs=some xs:=by
 unfold yG;rw[if_pos hk];unfold qM;by_cases h2:xs.length<2
 ·rw[if_pos h2]
 ·rw[if_neg h2,if_pos tZ,zfT (by lia) h];dsimp only;rw[if_pos (by simp)]
  congr 1
  apply List.ext_getElem
  ·simp
  ·intro i a b;simp[kW,b]
noncomputable def dY(p:Int×Int):D:=.tup [.int p.1,.int p.2]
end Mi
namespace Mi
open PySem
theorem W.walk{c:List D}{f:D->List D->M (List D)}{s:S}{acc:List D}{P:List D->S->Prop}(I:Nat->List D->S->Prop)(h0:I 0 acc s)(hb:∀i x acc s,c[i]?=some x->I i acc s->W (f x acc) s λa s'=>I (i+1) a s')
  (he:∀acc s,I c.length acc s->P acc s):W (Mi.walk (.fix c) f (c.length+1) 0 acc) s P:=by
 have key:∀n i acc s,i+n=c.length->I i acc s->W (Mi.walk (.fix c) f (n+1) i acc) s P:=by
  intro n
  induction n with
  |zero=>
   intro i acc s hi hI;have e:c[i]?=none:=by rw[qm];lia
   have:i=c.length:=by lia
   subst this;refine⟨acc,s,?_,he acc s hI⟩;unfold Mi.walk;simp only[Src.at,e]
  |succ n ih=>
   intro i acc s hi hI;have dF:i<c.length:=by lia
   have e:c[i]?=some c[i]:=dO dF;obtain⟨a,s',eb,B_⟩:=hb i c[i] acc s e hI;obtain⟨a2,s2,e2,q⟩:=ih (i+1) a s' (by lia) B_;refine⟨a2,s2,?_,q⟩;unfold Mi.walk;simp only[Src.at,e,M.bd,eb];exact e2
 exact key c.length 0 acc s (by lia) h0
section
variable {aq:Nat->Nat->Bool}{F:Fn}{J:Vs}{s:S}{P:Xv->S->Prop}
theorem Kas{fz:Bool}{elt:E}{tg:List Nat}{it:Wk}{fr:List Nat}{many:Nat}{cond:Eo}{c:List D}(g:D->Option D)(hc:c.length<=sizeLine)
  (hw:W (g8 aq true F it J) s λcn s1=>cn=(.fix c,c.length)/\s1=s)
  (hb:∀x∈c,∃J',c7 tg x (blk many fr J)=some J'/\W (mX aq true F cond J') s λb s1=>s1=s/\(if b=true then W (ev aq true F elt J') s λy s2=>s2=s/\∃d,y=.d d/\g x=some d else g x=none))
  (h:W (newL fz (c.filterMap g)) s P):W (ev aq true F (.comp fz elt tg it fr many cond) J) s P:=by
 change W (_root_.ite (true=true) _ _) s P
 rw[if_pos rfl];refine W.bd (hw.imp λcn s1=>?_);rintro⟨rfl,rfl⟩;refine W.bd ?_;refine W.walk (c:=c) (λi acc s'=>s'=s1/\acc=(c.take i).filterMap g) ⟨rfl,rfl⟩ (λi x acc s' e hI=>?_) (λacc s' hI=>?_)
 ·obtain⟨rfl,rfl⟩:=hI;have hi:i<c.length:=(eO.mp e).1;have ht:c.take (i+1)=c.take i++[x]:=by rw[FP,e];rfl
  have hl:((c.take i).filterMap g).length<sizeLine:=Nat.lt_of_le_of_lt (Fg _ _) (by rw[yg];lia);obtain⟨J',e1,h1⟩:=hb x (fX e);refine W.bd (W.opt e1 ?_);refine W.bd (W.qt (h1.imp λb s2=>?_));rintro⟨rfl,h2⟩;rw[ht,Fl];cases b
  ·rw[if_neg (by decide)] at h2 ⊢;refine W.ret ⟨rfl,?_⟩;simp[h2]
  ·rw[if_pos rfl] at h2 ⊢;refine W.bd (W.qt (h2.imp λy s3=>?_));rintro⟨rfl,d,rfl,eg⟩;refine W.bd (W.dat ?_);rw[if_pos hl];refine W.ret ⟨rfl,?_⟩;simp[eg]
 ·obtain⟨rfl,rfl⟩:=hI;rw[zM];exact h
end
section
variable {aq:Nat->Nat->Bool}{aj:Bool}{F:Fn}{J:Vs}{s:S}{P:Xv->S->Prop}
theorem KaD(h:W (ev aq aj F a J) s λx s1=>W (rd x) s1 λd s2=>∃b,lJ aq d k=some b/\P (.d (.bl b)) s2):W (ev aq aj F (.qK a k) J) s P:=
 W.bd (h.imp λ_ _ h=>W.bd (h.imp λ_ _ ⟨_,e,h⟩=>W.bd (W.opt e (W.ret h))))
theorem KaB(h:W (ev aq aj F a J) s λx s1=>W (ev aq aj F b J) s1 λy s2=>W (gK [x,y]) s2 λds s3=>W (cB true (prim p ds)) s3 λt s4=>W (Mi.bool t) s4 λk s5=>
  W (if k=true then M.bd (ev aq aj F c J) λz=>M.bd (gK [y,z]) λds=>cB true (prim q ds) else M.ret (.d (.bl false))) s5 P):W (ev aq aj F (.yC p q a b c) J) s P:=
 W.bd (h.imp λ_ _ h=>W.bd (h.imp λ_ _ h=>W.bd (h.imp λ_ _ h=>W.bd (h.imp λ_ _ h=>W.bd h))))
end
noncomputable def Jl(fz:Bool):Option Rz->Option Xv
 |some (.dat d)=>some (.d d)
 |some (.nw ys)=>match fz with
  |true=>some (.d (.fl ys))
  |false=>none
 |none=>none
noncomputable def addQ:D->D->Option Rz
 |.int i,.int j=>some (.dat (.int (i+j)))
 |_,_=>none
noncomputable def yX:List D->Option Rz
 |a::r=>match r with
  |b::r=>match r with
   |[]=>addQ a b
   |_::_=>none
  |[]=>none
 |[]=>none
noncomputable def quick:Pr->Bool
 |.rF=>false|.Dv=>false|.mul=>false|.fdiv=>false|.mod=>false|.pow=>false|.divmod=>false|.sorted=>false|.qJ=>false|.HJ=>false|.mult=>false|.yx=>false|.repr=>false|.str1=>false|.Xw=>false|.HD=>false|.HF=>false
 |_=>true
noncomputable def qT(p:Pr)(ds:List D):Option Rz:=match p with
 |.add=>yX ds
 |p=>match quick p with
  |true=>prim p ds
  |false=>none
theorem Jm{ds:List D}{r:Rz}(h:yX ds=some r):Bg ds=some r:=by
 cases ds with
 |nil=>cases h
 |cons a t=>cases t with
  |nil=>cases h
  |cons b t=>cases t with
   |cons _ _=>cases h
   |nil=>cases a with
    |int i=>cases b with
     |int j=>exact h
     |_=>cases h
    |_=>cases h
theorem Ca{p:Pr}{ds:List D}{r:Rz}(h:qT p ds=some r):prim p ds=some r:=by
 cases p with
 |add=>exact Jm h
 |_=>first|exact h|cases h
noncomputable def Sy(fz:Bool)(ds:List D):Option Xv:=match fz with
 |true=>some (.d (.fl ds))
 |false=>none
noncomputable def Jo:Xv->Option D
 |.d x=>some x
 |.l _=>none
noncomputable def obP(c:Nat):Xv->Option (List D)
 |.d (.ob e fs)=>if e=c then some fs else none
 |_=>none
noncomputable def notP:Xv->Option Xv
 |.d (.bl b)=>some (.d (.bl (!b)))
 |_=>none
noncomputable def SJ(r:Option Xv):Xv->Option Xv
 |.d (.bl true)=>r
 |.d (.bl false)=>some (.d (.bl false))
 |_=>none
noncomputable def orP(r:Option Xv):Xv->Option Xv
 |.d (.bl true)=>some (.d (.bl true))
 |.d (.bl false)=>r
 |_=>none
section
variable (aq:Nat->Nat->Bool)
mutual
noncomputable def dh:E->Vs->Option Xv
 |.c d,_=>some (.d d)
 |.v i,J=>J[i]?.join
 |.pr fz p xs,J=>(qe xs J).bind λds=>Jl fz (qT p ds)
 |.tup xs,J=>(qe xs J).bind λds=>some (.d (.tup ds))
 |.lst fz xs,J=>(qe xs J).bind λds=>Sy fz ds
 |.not a,J=>(dh a J).bind notP
 |.and a b,J=>(dh a J).bind (SJ (dh b J))
 |.or a b,J=>(dh a J).bind (orP (dh b J))
 |.qK a k,J=>(dh a J).bind λx=>(Jo x).bind λd=>(lJ aq d k).bind λb=>some (.d (.bl b))
 |.of o c i,J=>(dh o J).bind λx=>(obP c x).bind λfs=>fs[i]?.map .d
 |_,_=>none
noncomputable def qe:Es->Vs->Option (List D)
 |.nil,_=>some []
 |.cons a r,J=>(dh a J).bind λx=>(Jo x).bind λd=>(qe r J).bind λds=>some (d::ds)
end
noncomputable def oR:Es->Vs->Option (List Xv)
 |.nil,_=>some []
 |.cons a r,J=>(dh aq a J).bind λx=>(oR r J).bind λxs=>some (x::xs)
end
theorem m7{α β:Type}{o:Option α}{f:α->Option β}{b:β}(h:o.bind f=some b):∃a,o=some a/\f a=some b:=zA.mp h
theorem jm{α β:Type}{m:M α}{k:α->M β}{s s':S}{a:α}(e:m s=some (.ok a,s')):M.bd m k s=k a s':=by
 show (match m s with|some (.ok a,s')=>k a s'|some (.er c f,s')=>some (.er c f,s')|none=>none)=_;rw[e]
theorem Cd(s:S):∀ds:List D,gK (ds.map .d) s=some (.ok ds,s)
 |[]=>rfl
 |d::r=>(jm (s':=s) (a:=d) rfl).trans ((jm (Cd s r)).trans rfl)
theorem uM(s:S):∀ds:List D,cG (ds.map .d) s=some (.ok ds,s)
 |[]=>rfl
 |d::r=>(jm (s':=s) (a:=d) rfl).trans ((jm (uM s r)).trans rfl)
theorem SM{fz:Bool}{p:Pr}{ds:List D}{x:Xv}{s:S}(h:Jl fz (qT p ds)=some x):cB fz (prim p ds) s=some (.ok x,s):=by
 cases o:qT p ds with
 |none=>rw[o] at h;cases h
 |some r=>
  rw[o] at h;rw[Ca o];cases r with
  |dat d=>cases h;rfl
  |nw ys=>cases fz with
   |true=>cases h;rfl
   |false=>cases h
section
variable {aq:Nat->Nat->Bool}{aj:Bool}{F:Fn}{J:Vs}{s:S}
theorem fj(e:E):∀x:Xv,dh aq e J=some x->ev aq aj F e J s=some (.ok x,s):=by
 refine E.rec (motive_1:=λe=>∀x:Xv,dh aq e J=some x->ev aq aj F e J s=some (.ok x,s)) (motive_2:=λ_=>True) (motive_3:=λxs=>∀ds:List D,qe aq xs J=some ds->evs aq aj F xs J s=some (.ok (ds.map .d),s)) (motive_4:=λ_=>True)
  ?c ?v ?pr (λ_ _ _ _ _ _ _ _ _ h=>nomatch h) (λ_ _ _ _ _ _ _ _ _ _ _ _ h=>nomatch h) ?and ?or ?not (λ_ _ _ _ _ _ _ h=>nomatch h) ?tup ?lst (λ_ _ _ h=>nomatch h) (λ_ _ _ _ h=>nomatch h) ?qK (λ_ _ _ _ _ _ _ _ h=>nomatch h) (λ_ _ _ _ _ _ _ _ h=>nomatch h) (λ_ _ _ _ _ h=>nomatch h) (λ_ _ _ h=>nomatch h)
  (λ_ _ _ _ _ _ _ _ _ _ _ h=>nomatch h) (λ_ _ _ _ _ _ _ _ _ _ _ _ _ _ h=>nomatch h) (λ_ _ _ _ _ h=>nomatch h) ?of (λ_ _ _ _ _ h=>nomatch h) (λ_ _ _ _ _ _ _ h=>nomatch h) (λ_ h=>nomatch h) (λ_ _ _ _ _ _ h=>nomatch h) (λ_ _ _ _ _ h=>nomatch h) (λ_ _ _ h=>nomatch h) (λ_ _ _ _ _ _ h=>nomatch h) (λ_ _ _ _ _ h=>nomatch h) (λ_ _ _ _ _ _ _ h=>nomatch h) (λ_ h=>nomatch h)
  (λ_ _=>trivial) (λ_ _ _ _=>trivial) (λ_ _ _ _=>trivial) (λ_ _=>trivial) (λ_ _=>trivial) ?nil ?cons trivial (λ_ _=>trivial) e
 case c=>intro d x h;cases h;rfl
 case v=>intro i x h;exact(show M.opt (J[i]?.join) s=_ from by rw[show J[i]?.join=some x from h];rfl)
 case pr=>
  intro fz p xs ih x h;obtain⟨ds,e1,e2⟩:=m7 h;exact(jm (ih _ e1)).trans ((jm (Cd s ds)).trans (SM e2))
 case tup=>
  intro xs ih x h;obtain⟨ds,e1,e2⟩:=m7 h;cases e2;exact(jm (ih _ e1)).trans ((jm (uM s ds)).trans rfl)
 case lst=>
  intro fz xs ih x h;obtain⟨ds,e1,e2⟩:=m7 h;cases fz with
  |false=>cases e2
  |true=>cases e2;exact(jm (ih _ e1)).trans ((jm (uM s ds)).trans rfl)
 case not=>
  intro a ih x h;obtain⟨y,e1,e2⟩:=m7 h;cases y with
  |l n=>cases e2
  |d y=>cases y with
   |bl b=>cases e2;exact(jm (ih _ e1)).trans rfl
   |_=>cases e2
 case and=>
  intro a b ih ih2 x h;obtain⟨y,e1,e2⟩:=m7 h;cases y with
  |l n=>cases e2
  |d y=>cases y with
   |bl b=>cases b with
    |true=>exact(jm (ih _ e1)).trans (ih2 _ e2)
    |false=>cases e2;exact(jm (ih _ e1)).trans rfl
   |_=>cases e2
 case or=>
  intro a b ih ih2 x h;obtain⟨y,e1,e2⟩:=m7 h;cases y with
  |l n=>cases e2
  |d y=>cases y with
   |bl b=>cases b with
    |true=>cases e2;exact(jm (ih _ e1)).trans rfl
    |false=>exact(jm (ih _ e1)).trans (ih2 _ e2)
   |_=>cases e2
 case qK=>
  intro a k ih x h;obtain⟨y,e1,e2⟩:=m7 h;cases y with
  |l n=>cases e2
  |d y=>
   obtain⟨d,e3,e4⟩:=m7 e2;cases e3;obtain⟨b,e5,e6⟩:=m7 e4;cases e6;refine(jm (ih _ e1)).trans ((jm (s':=s) (a:=y) rfl).trans ((jm (s':=s) (a:=b) ?_).trans rfl));rw[e5];rfl
 case of=>
  intro o c i ih x h;obtain⟨y,e1,e2⟩:=m7 h;obtain⟨fs,e3,e4⟩:=m7 e2;refine(jm (ih _ e1)).trans ((jm (s':=s) (a:=fs) ?_).trans ?_)
  ·cases y with
   |l n=>cases e3
   |d y=>cases y with
    |ob e gs=>
     have e3:(if e=c then some gs else none)=some fs:=e3;show (if e=c then M.ret gs else M.no) s=_;split at e3
     ·rename_i h;cases e3;rw[if_pos h];rfl
     ·cases e3
    |_=>cases e3
  ·show M.opt (fs[i]?.map Xv.d) s=_;rw[e4];rfl
 case nil=>intro ds h;cases h;rfl
 case cons=>
  intro a r ih ih2 ds h;obtain⟨y,e1,e2⟩:=m7 h;cases y with
  |l n=>cases e2
  |d y=>
   obtain⟨d,e3,e4⟩:=m7 e2;cases e3;obtain⟨rs,e5,e6⟩:=m7 e4;cases e6;exact(jm (ih _ e1)).trans ((jm (ih2 _ e5)).trans rfl)
theorem uN:∀(xs:Es) (ds:List D),qe aq xs J=some ds->evs aq aj F xs J s=some (.ok (ds.map .d),s)
 |.nil,ds,h=>by cases h;rfl
 |.cons a r,ds,h=>by
  obtain⟨y,e1,e2⟩:=m7 h;cases y with
  |l n=>cases e2
  |d y=>
   obtain⟨d,e3,e4⟩:=m7 e2;cases e3;obtain⟨rs,e5,e6⟩:=m7 e4;cases e6;exact(jm (fj a _ e1)).trans ((jm (uN r _ e5)).trans rfl)
theorem jJ:∀(xs:Es) {vs:List Xv},oR aq xs J=some vs->evs aq aj F xs J s=some (.ok vs,s)
 |.nil,vs,h=>by cases h;rfl
 |.cons a r,vs,h=>by
  obtain⟨y,e1,e2⟩:=m7 h;obtain⟨ys,e3,e4⟩:=m7 e2;cases e4;exact(jm (fj a _ e1)).trans ((jm (jJ r e3)).trans rfl)
variable {P:Xv->S->Prop}
theorem W.pv{e:E}{x:Xv}(h:dh aq e J=some x)(k:P x s):W (ev aq aj F e J) s P:=W.eq (fj e _ h) k
theorem Ka0{f:Nat}{xs:Es}{vs:List Xv}(h:oR aq xs J=some vs)(k:W (cI (F f) vs) s P):W (ev aq aj F (.call f xs) J) s P:=Zm (W.eq (jJ xs h) k)
theorem Zw{fz:Bool}{p:Pr}{xs:Es}{ds:List D}(h:qe aq xs J=some ds)(k:W (cB fz (prim p ds)) s P):W (ev aq aj F (.pr fz p xs) J) s P:=Zk (W.eq (uN xs _ h) (W.eq (Cd s ds) k))
theorem KaZ{xs:Es}{vs:List Xv}{P:List Xv->S->Prop}(h:oR aq xs J=some vs)(k:P vs s):W (evs aq aj F xs J) s P:=W.eq (jJ xs h) k
end
section
variable {aq:Nat->Nat->Bool}{aj:Bool}{F:Bool->Fn}{J:Vs}{s:S}{Q:Out->S->Prop}{e:E}{r:bV}
theorem Kbb{i:Nat}{x:Xv}(h:dh aq e J=some x)(k:WS (exs aq aj F r (J.set i (some x))) s Q):WS (exs aq aj F (.cons (.asg (.nm i) e) r) J) s Q:=WS.cons (Zo (W.pv h k))
theorem Kbc{x:Xv}(h:dh aq e J=some x)(k:Q (.rt x) s):WS (exs aq aj F (.cons (.ret e) r) J) s Q:=WS.cons (Zq (W.pv h k))
theorem Kba{b:Bool}{t u:bV}(h:dh aq e J=some (.d (.bl b)))(k:WS (if b=true then exs aq aj F t J else exs aq aj F u J) s λo s'=>match o with|.nx J'=>WS (exs aq aj F r J') s' Q|.rt x=>Q (.rt x) s'|_=>False):WS (exs aq aj F (.cons (.iff e t u) r) J) s Q:=WS.cons (Zr (W.pv h (W.bool k)))
end
section
variable {α β:Type}{m:M α}{k:α->M β}{s:S}{c:Nat}{fs:List D}
end
section
variable {aq:Nat->Nat->Bool}{aj:Bool}{F:Bool->Fn}{J:Vs}{s:S}{Q:Out->S->Prop}{c:Nat}{fs:List D}
theorem Kbj{c:Nat}{kp:Bool}{xs:Es}(h:W (evs aq true (F true) xs J) s λvs s1=>W (cG vs) s1 λds s2=>Q (.er c (if kp=true then ds else []) J) s2):WS (ex aq true F (.rise c kp xs) J) s Q:=by
 refine WS.yW (m2:=λ_=>none) (WS.ofM (W.bd (h.imp λvs s1 h=>h.imp λds s2 h=>?_)));exact⟨_,s2,rfl,h⟩
theorem Kbo{m:MS}{k:Vs->MS}(h:WS m s λo s'=>match o with|.nx J'=>WS (k J') s' Q|.rt x=>Q (.rt x) s'|_=>False):WS (Mi.cJ m k) s Q:=by
 obtain⟨o,s',e,q⟩:=h;unfold WS Mi.cJ;rw[e];cases o with
 |nx J'=>exact q
 |rt x=>exact⟨_,_,rfl,q⟩
 |bk _=>exact q.elim
 |ct _=>exact q.elim
 |er _ _ _=>exact q.elim
theorem Kbm{F:Fn}{i:Nat}{x:Xv}(h:Q (.nx (J.set i (some x))) s):WS (store aq aj F (.nm i) x J) s Q:=⟨_,s,rfl,h⟩
theorem Kbn{F:Fn}{is:List Nat}{d:D}(h:sO ((jR d).bind λds=>fU is (ds.map .d) J) λJ'=>Q (.nx J') s):WS (store aq true F (.tp is) (.d d) J) s Q:=by
 obtain⟨J',e,q⟩:=h;exact WS.yW (m2:=λ_=>none) (WS.ofM (W.bd (W.dat (W.opt e (WS.nx q)))))
end
section
variable {aq:Nat->Nat->Bool}{aj:Bool}{F:Fn}{J:Vs}{s:S}{P:Xv->S->Prop}
theorem W.qK{a:E}{k:Kd}(h:W (ev aq aj F a J) s λx s1=>W (rd x) s1 λd s2=>sO (lJ aq d k) λb=>P (.d (.bl b)) s2):W (ev aq aj F (.qK a k) J) s P:=KaD h
theorem W.yC{p q:Pr}{a b c:E}(h:W (ev aq aj F a J) s λx s1=>W (ev aq aj F b J) s1 λy s2=>W (gK [x,y]) s2 λds s3=>W (cB true (prim p ds)) s3 λt s4=>W (Mi.bool t) s4 λk s5=>
  W (if k=true then M.bd (ev aq aj F c J) λz=>M.bd (gK [y,z]) λds=>cB true (prim q ds) else M.ret (.d (.bl false))) s5 P):W (ev aq aj F (.yC p q a b c) J) s P:=KaB h
theorem KaE{c a b:E}(h:W (ev aq aj F c J) s λx s1=>W (Mi.bool x) s1 λk s2=>W (if k=true then ev aq aj F a J else ev aq aj F b J) s2 P):W (ev aq aj F (.ite c a b) J) s P:=W.bd (h.imp λ_ _ h=>W.bd h)
theorem Zx{a:E}{P:Src×Nat->S->Prop}(h:W (ev aq aj F a J) s λx s1=>W (ou x) s1 P):W (g8 aq aj F (.enum a) J) s P:=W.bd h
theorem KaL{xs:List D}{P:Src×Nat->S->Prop}(h:P (.fix (enumFrom 0 xs),(enumFrom 0 xs).length) s):W (ou (.d (.fl xs))) s P:=⟨_,s,rfl,h⟩
theorem KaO{a b:E}{P:Src×Nat->S->Prop}(h:W (ev aq aj F a J) s λx s1=>W (ev aq aj F b J) s1 λy s2=>W (Mi.int x) s2 λi s3=>W (Mi.int y) s3 λj s4=>(fQ i&&fQ j)=true/\P (.fix (jz i j),(jz i j).length) s4):W (g8 aq aj F (.rg a b) J) s P:=by
 refine W.bd (h.imp λx s1 h=>W.bd (h.imp λy s2 h=>W.bd (h.imp λi s3 h=>W.bd (h.imp λj s4 h=>?_))));rw[if_pos h.1];exact W.ret h.2
theorem KaQ{a b:E}{P:Src×Nat->S->Prop}(h:W (ev aq aj F a J) s λx s1=>W (ev aq aj F b J) s1 λy s2=>W (pR x) s2 λxs s3=>W (pR y) s3 λys s4=>P (.fix (List.zipWith (λp q=>.tup [p,q]) xs ys),(List.zipWith (λ(p q:D)=>D.tup [p,q]) xs ys).length) s4):W (g8 aq aj F (.zip a b) J) s P:=
 W.bd (h.imp λx s1 h=>W.bd (h.imp λy s2 h=>W.bd (h.imp λxs s3 h=>W.bd (h.imp λys s4 h=>W.ret h))))
theorem W.jh{xs:List D}{P:List D->S->Prop}(h:P xs s):W (pR (.d (.tup xs))) s P:=W.ret h
theorem W.sH{xs:List D}{P:List D->S->Prop}(h:P xs s):W (pR (.d (.fl xs))) s P:=W.ret h
theorem Kak{P:Bool->S->Prop}(h:P true s):W (mX aq aj F .no J) s P:=W.ret h
theorem Kal{a:E}{P:Bool->S->Prop}(h:W (ev aq aj F a J) s λx s1=>W (Mi.bool x) s1 P):W (mX aq aj F (.yes a) J) s P:=W.bd h
theorem Zy(g:D->D)(hc:c.length<=sizeLine)
  (hw:W (g8 aq true F it J) s λcn s1=>cn=(.fix c,c.length)/\s1=s)
  (hb:∀x∈c,sO (c7 tg x (blk many fr J)) λJ'=>W (ev aq true F elt J') s λy s2=>s2=s/\y=.d (g x))
  (h:W (newL fz (c.map g)) s P):W (ev aq true F (.comp fz elt tg it fr many .no) J) s P:=by
 refine Kas (c:=c) (λx=>some (g x)) hc hw (λx hx=>?_) ?_
 ·obtain⟨J',e,h1⟩:=hb x hx;refine⟨J',e,W.ret ⟨rfl,?_⟩⟩;rw[if_pos rfl];exact h1.imp λy s2 ⟨a,b⟩=>⟨a,_,b,rfl⟩
 ·rw[show c.filterMap (λx=>some (g x))=c.map g by rw[<-List.filterMap_eq_map];rfl];exact h
theorem nF{α:Type}{f:α->D}{l:List α}{fz:Bool}{elt:E}{tg:List Nat}{it:Wk}{fr:List Nat}{many:Nat}{cond:Eo}(g:α->Option D)(hc:l.length<=sizeLine)
  (hw:W (g8 aq true F it J) s λcn s1=>cn=(.fix (l.map f),(l.map f).length)/\s1=s)
  (hb:∀x∈l,sO (c7 tg (f x) (blk many fr J)) λJ'=>W (mX aq true F cond J') s λb s1=>s1=s/\(b=true->W (ev aq true F elt J') s λy s2=>s2=s/\∃d,y=.d d/\g x=some d)/\(b=false->g x=none))
  (h:W (newL fz (l.filterMap g)) s P):W (ev aq true F (.comp fz elt tg it fr many cond) J) s P:=by
 change W (_root_.ite (true=true) _ _) s P
 rw[if_pos rfl];refine W.bd (hw.imp λcn s1=>?_);rintro⟨rfl,rfl⟩;refine W.bd ?_;refine W.walk (c:=l.map f) (λi acc s'=>s'=s1/\acc=(l.take i).filterMap g) ⟨rfl,rfl⟩ (λi x acc s' e hI=>?_) (λacc s' hI=>?_)
 ·obtain⟨rfl,rfl⟩:=hI;rw[iu] at e;cases el:l[i]? with
  |none=>rw[el] at e;cases e
  |some y=>
   rw[el] at e;cases e;have hi:i<l.length:=(eO.mp el).1;have ht:l.take (i+1)=l.take i++[y]:=by rw[FP,el];rfl
   have hl:((l.take i).filterMap g).length<sizeLine:=Nat.lt_of_le_of_lt (Fg _ _) (by rw[yg];lia);obtain⟨J',e1,h1⟩:=hb y (fX el);refine W.bd (W.opt e1 ?_);refine W.bd (W.qt (h1.imp λb s2=>?_));rintro⟨rfl,h2,h3⟩;rw[ht,Fl];cases b
   ·rw[if_neg (by decide)];refine W.ret ⟨rfl,?_⟩;simp[h3 rfl]
   ·rw[if_pos rfl];refine W.bd (W.qt ((h2 rfl).imp λy s3=>?_));rintro⟨rfl,d,rfl,eg⟩;refine W.bd (W.dat ?_);rw[if_pos hl];refine W.ret ⟨rfl,?_⟩;simp[eg]
 ·obtain⟨rfl,rfl⟩:=hI;rw[cR,zM];exact h
theorem Kat{c:List D}{fz:Bool}{elt:E}{tg:List Nat}{it:Wk}{fr:List Nat}{many:Nat}{cond:Eo}(I:Nat->List D->S->Prop)
  (hw:W (g8 aq true F it J) s λcn s1=>cn=(.fix c,c.length)/\I 0 [] s1)
  (hb:∀i x acc s,c[i]?=some x->I i acc s->sO (c7 tg x (blk many fr J)) λJ'=>W (mX aq true F cond J') s λb s1=>(b=true->W (ev aq true F elt J') s1 λy s2=>∃d,y=.d d/\acc.length<sizeLine/\I (i+1) (acc++[d]) s2)/\(b=false->I (i+1) acc s1))
  (h:∀acc s,I c.length acc s->W (newL fz acc) s P):W (ev aq true F (.comp fz elt tg it fr many cond) J) s P:=by
 change W (_root_.ite (true=true) _ _) s P
 rw[if_pos rfl];refine W.bd (hw.imp λcn s1=>?_);rintro⟨rfl,h0⟩;refine W.bd ?_;refine W.walk (c:=c) I h0 (λi x acc s' e hI=>?_) (λacc s' hI=>h acc s' hI);obtain⟨J',e1,h1⟩:=hb i x acc s' e hI;refine W.bd (W.opt e1 ?_);refine W.bd (W.qt (h1.imp λb s2=>?_));rintro⟨h2,h3⟩;cases b
 ·rw[if_neg (by decide)];exact W.ret (h3 rfl)
 ·rw[if_pos rfl];refine W.bd (W.qt ((h2 rfl).imp λy s3=>?_));rintro⟨d,rfl,hl,hi⟩;refine W.bd (W.dat ?_);rw[if_pos hl];exact W.ret hi
theorem W.push{o a:E}(h:W (ev aq aj F o J) s λx s1=>W (Mi.cP x) s1 λ_ s2=>W (ev aq aj F a J) s2 λy s3=>W (Mi.dat y) s3 λd s4=>W (Mi.cP x) s4 λnx s5=>nx.2.length<sizeLine/\P (.d .non) (s5.set nx.1 (.lst (nx.2++[d])))):W (ev aq aj F (.push o a) J) s P:=by
 refine W.bd (h.imp λx s1 h=>W.bd (h.imp λ_ s2 h=>W.bd (h.imp λy s3 h=>W.bd (h.imp λd s4 h=>W.bd (h.imp λnx s5 h=>?_)))));rw[if_pos h.1];exact W.bd (Sv (W.ret h.2))
end
theorem Zz{s:S}{o:SO}:(s++[o])[s.length]?=some o:=by simp
theorem Y{P R:Prop}(k:R)(h:Bx R->P:=by
 intro k
 repeat (first|with_reducible first
   |refine Kbb (by with_unfolding_all rfl) ?_|refine Kbc (by with_unfolding_all rfl) ?_|refine Kba (by with_unfolding_all rfl) ?_|refine W.pv (by with_unfolding_all rfl) ?_|refine Zw (by with_unfolding_all rfl) ?_|refine Ka0 (by with_unfolding_all rfl) ?_|refine KaZ (by with_unfolding_all rfl) ?_
   |refine WS.cons ?_|refine WS.nil ?_|refine Kbo ?_|refine Kbm ?_|refine Kbn ?_|refine Zo ?_|refine Zq ?_|refine Zr ?_|refine Kbl ?_|refine Kbk ?_|refine Kbh ?_|refine Kbd ?_|refine Kbe ?_|refine Kbj ?_|refine WS.yW ?_|refine WS.Sx ?_|refine WS.Sw (by with_unfolding_all rfl) ?_|refine WS.Ep (by with_unfolding_all rfl) ?_|refine sO.mk (by with_unfolding_all rfl) ?_
   |refine Zn ?_|refine Kaj ?_|refine W.eC ?_|refine W.eV (by with_unfolding_all rfl) ?_|refine Zk ?_|refine Zm ?_|refine KaK ?_|refine KaF ?_|refine KaG ?_|refine Kaz ?_|refine KaH ?_|refine KaE ?_|refine W.qK ?_|refine W.yC ?_|refine W.push ?_|refine KaJ ?_|refine KaC ?_|refine KaT ?_|refine KaU ?_|refine KaP ?_|refine KaO ?_|refine KaQ ?_|refine Zx ?_|refine Kak ?_|refine Kal ?_|refine W.yW ?_|refine W.Sx ?_|refine W.Sw (by with_unfolding_all rfl) ?_|refine W.Ep (by with_unfolding_all rfl) ?_
   |refine Ka4 ?_|refine Ka5 ?_|refine Ka2 ?_|refine Zi (by with_unfolding_all rfl) ?_|refine Zi Zz ?_|refine Kaw ?_|refine Kax ?_|refine W.dat ?_|refine W.bool ?_|refine W.int ?_|refine W.cP (by with_unfolding_all rfl) ?_|refine W.cP Zz ?_|refine Sv ?_|refine Ka7 ?_|refine KaL ?_|refine W.jh ?_|refine W.sH ?_|refine Ka6 ?_|refine KaS ?_|refine KaR ?_
   |refine gj (by first|(with_unfolding_all rfl)|exact znn (by first|(left;constructor<;>lia)|(right;constructor<;>lia))|exact zm0 (by lia)|exact zmy (by lia)|exact zhv (by lia)|exact zmZ (by decide)) ?_|refine Mh (by with_unfolding_all rfl) ?_
   |refine W.ret ?_|refine W.bd ?_
   | (dsimp only))
 all_goals exact k.o):P:=h ⟨k⟩
def lx(p q:Int×Int):Prop:=p.1<q.1\/p.1=q.1/\p.2<q.2
noncomputable def bA(n:Int)(ps:List (Int×Int)):D:=.tup [.int n,.tup (ps.map dY)]
structure Web(n:Int)(ps:List (Int×Int)):Prop where
 h1:1<=n
 h8:n<=8
 tie:∀p∈ps,0<=p.1/\p.1<p.2/\p.2<n
 inc:ps.Pairwise lx
 len:(ps.length:Int)<=7*n
theorem zj6(h:∀x∈xs,x=.bl true):dW xs=some (List.replicate xs.length true):=by
 induction xs with
 |nil=>rfl
 |cons x r ih=>
  rw[h x (by simp)];show Option.map _ (dW r)=_;rw[ih λy hy=>h y (by simp[hy])];rfl
theorem Ml(h:∀x∈xs,x=.bl true):prim .all [.fl xs]=some (.dat (.bl true)):=by
 show Option.map _ (dW xs)=_;rw[zj6 h];simp
theorem zl0(p q:Int×Int):cN (k+1) (dY p) (dY q)=some (decide (p=q)):=by
 show cX (cN k) [.int p.1,.int p.2] [.int q.1,.int q.2]=_;have hi:∀a b:Int,cN k (.int a) (.int b)=some (a==b):=by intro a b;cases k<;>rfl
 simp only[cX,hi];obtain⟨a,b⟩:=p;obtain⟨c,d⟩:=q;by_cases h1:a=c
 ·by_cases h2:b=d
  ·simp[h1,h2]
  ·simp[h1,h2]
 ·simp[h1]
theorem zlx(p:Int×Int)(ps:List (Int×Int)):memD (dY p) (ps.map dY)=some (decide (p∈ps)):=by
 induction ps with
 |nil=>rfl
 |cons q r ih=>
  simp only[gG,memD,ih,zl0]
  congr 1
  rw[<-Bool.decide_or];apply q_.mpr;rw[iU]
  constructor
  ·rintro(h|h)
   ·exact .inl h.symm
   ·exact .inr h
  ·rintro(h|h)
   ·exact .inl h.symm
   ·exact .inr h
theorem zm4{f:Bool->Bool}{p:Int×Int}{ps:List (Int×Int)}:yD f [dY p,.tup (ps.map dY)]=some (.dat (.bl (f (decide (p∈ps))))):=by
 show Option.map _ (memD (dY p) (ps.map dY))=_;rw[zlx];rfl
theorem znd(h:lx p q):ltI [p.1,p.2] [q.1,q.2]=true:=by
 simp only[ltI];rcases h with h|⟨h,h2⟩
 ·rw[if_neg (by lia)];simp[h]
 ·rw[if_pos h,if_neg (by lia)];simp[h2]
theorem SN(xs:List D):cut xs (some 1) none=xs.drop 1:=by
 unfold cut;rw[HT.tL];rw[show (some 1:Option Int)=some ((1:Nat):Int) from rfl,HT.wH];cases xs with
 |nil=>rfl
 |cons x r=>simp
theorem ZC:∀{ps:List (Int×Int)},ps.Pairwise lx->∀x∈List.zipWith (λ(p q:D)=>D.tup [p,q]) (ps.map dY) ((ps.map dY).drop 1),∃p q,x=.tup [dY p,dY q]/\lx p q
 |[],_,x,hx=>by simp at hx
 |[p],_,x,hx=>by simp at hx
 |p::q::r,h,x,hx=>by
  rw[show (List.map dY (p::q::r)).drop 1=List.map dY (q::r) from rfl] at hx;have e:List.zipWith (λ(p q:D)=>D.tup [p,q]) (List.map dY (p::q::r)) (List.map dY (q::r))=.tup [dY p,dY q]::List.zipWith (λ(p q:D)=>D.tup [p,q]) (List.map dY (q::r)) (List.map dY r):=rfl;rw[e,iU] at hx;rcases hx with rfl|hx
  ·exact⟨p,q,rfl,(CK.mp h).1 q (by simp)⟩
  ·exact ZC (ps:=q::r) (CK.mp h).2 x hx
theorem ZD:∀(xs:List D) (j i:Nat),(enumFrom j xs)[i]?=xs[i]?.map λx=>.tup [.int ((j+i:Nat):Int),x]
 |[],j,i=>by simp[enumFrom]
 |x::r,j,0=>by simp[enumFrom]
 |x::r,j,i+1=>by
  simp only[enumFrom,Cv,ZD r (j+1) i];rw[show j+1+i=j+(i+1) by lia]
theorem ZF:∀(xs:List D) (j:Nat),(enumFrom j xs).length=xs.length
 |[],j=>rfl
 |x::r,j=>by simp[enumFrom,ZF r (j+1)]
theorem zla{p:Int×Int}:¬lx p p:=by rintro(h|⟨_,h⟩)<;>lia
theorem zhi{ps:List (Int×Int)}(h:ps.Pairwise lx):ps.Nodup:=h.imp λ{p q} h e=>by subst e;exact zla h
theorem zfY(h:yG xs=some ys):prim .sorted [.fl xs]=some (.nw ys):=by
 show Option.map Rz.nw (yG xs)=_;rw[h];rfl
theorem zh0{es:List Int}(tZ:es.length<64)(h:es.Pairwise (·<·)):yG (es.map D.int)=some (es.map D.int):=by
 refine zhp ?_ (by rw[cR];exact tZ) λk hk=>?_
 ·rw[Bool.or_eq_true]
  left
  rw[List.all_map,fu];intro x _;rfl
 ·rw[cR] at hk;unfold yF;rw[iu,iu,dO hk,dO (show k<es.length by lia)];have:=List.pairwise_iff_getElem.mp h k (k+1) (by lia) hk (by lia);simp only[Option.map_some]
  congr 1
  apply rm
  lia
noncomputable def endOf(i:Int)(p:Int×Int):Option Int:=if p.1=i then some p.2 else if p.2=i then some p.1 else none
noncomputable def aM(i:Int)(ps:List (Int×Int)):List Int:=ps.filterMap (endOf i)
theorem Jp(h:Web n ps)(i:Int):(aM i ps).Pairwise (·<·):=by
 have ht:=h.tie;have hi:=h.inc;clear h;unfold aM
 induction ps with
 |nil=>simp
 |cons p r ih=>
  obtain⟨hp,hr⟩:=CK.mp hi;have ih:=ih (λq hq=>ht q (by simp[hq])) hr;rw[zF]
  split
  ·exact ih
  ·rename_i b eb;refine CK.mpr ⟨λc hc=>?_,ih⟩;obtain⟨q,hq,eq⟩:=zJ.mp hc;have l:=hp q hq;have tp:=ht p (by simp);have tq:=ht q (by simp[hq]);unfold endOf at eb eq;unfold lx at l;split at eb
   ·cases eb;split at eq
    ·cases eq;lia
    ·split at eq
     ·cases eq;lia
     ·cases eq
   ·split at eb
    ·cases eb;split at eq
     ·cases eq;lia
     ·split at eq
      ·cases eq;lia
      ·cases eq
    ·cases eb
theorem Er(h:Web n ps)(he:e∈aM i ps):0<=e/\e<n:=by
 obtain⟨q,hq,eq⟩:=zJ.mp he;have tq:=h.tie q hq;unfold endOf at eq;split at eq
 ·cases eq;lia
 ·split at eq
  ·cases eq;lia
  ·cases eq
theorem SQ:∀{es:List Int} {a n:Int},es.Pairwise (·<·)->(∀e∈es,a<=e/\e<n)->a<=n->(es.length:Int)<=n-a
 |[],a,n,_,_,h=>by simp;lia
 |e::r,a,n,h,hb,ha=>by
  obtain⟨h1,h2⟩:=CK.mp h;have he:=hb e (by simp);have:=SQ (es:=r) (a:=e+1) (n:=n) h2 (λx hx=>⟨by have:=h1 x hx;lia,(hb x (by simp[hx])).2⟩) (by lia);rw[f9]
  lia
theorem ZG{a b:Int}{i:Nat}{x:D}(h:(jz a b)[i]?=some x):x=.int (a+i)/\a+i<b:=by
 unfold jz at h;rw[iu] at h;cases e:(List.range (b-a).toNat)[i]? with
 |none=>rw[e] at h;cases h
 |some j=>
  rw[e] at h;cases h;obtain⟨hl,rfl⟩:=eO.mp e;rw[nG] at hl;rw[Oh];exact⟨rfl,by lia⟩
theorem ZJ:(jz a b).length=(b-a).toNat:=by unfold jz;simp
theorem kJ(h1 : -1000<=a)(h2:a<=1000):fQ a=true:=by
 unfold fQ;rw[gq (by lia),gq (by lia)];rfl
theorem sS(hl:locs xs=[s.length])(h:W (F (dB 0 xs)) [o] λv s1=>∃d o',v=.d d/\s1=[o']/\P (.d d) (s++[o'])):W (cI F xs) (s++[o]) P:=by
 refine Ss (n:=s.length) (o:=o) hl (by simp) (h.imp λv s1=>?_);rintro⟨d,o',rfl,rfl,hp⟩;exact⟨d,o',rfl,rfl,by rw[show (s++[o]).set s.length o'=s++[o'] by simp];exact hp⟩
theorem zj0{ns:List Int}{lo hi:Option Int}{x:D}(h:x∈cut (ns.map D.int) lo hi):∃n,x=.int n:=by
 have:=List.mem_of_mem_drop (List.mem_of_mem_take h);obtain⟨n,_,rfl⟩:=pC.mp this;exact⟨n,rfl⟩
theorem zjV{ns:List Int}{lo hi:Option Int}:(cut (ns.map D.int) lo hi).length<=ns.length:=by
 unfold cut;rw[yg,List.length_drop,cR]
 lia
noncomputable def norm(p:Int×Int):Int×Int:=if p.1<p.2 then p else (p.2,p.1)
theorem ZK{α:Type}[DecidableEq α]:∀{l m:List α},l.Nodup->(∀x∈l,x∈m)->l.length<=m.length
 |[],m,_,_=>wu _
 |x::r,m,h,hm=>by
  obtain⟨h1,h2⟩:=v8.mp h;have hx:x∈m:=hm x (by simp);have:=ZK (l:=r) (m:=m.erase x) h2 λy hy=>(List.mem_erase_of_ne (λe=>by subst e;exact h1 hy)).mpr (hm y (by simp[hy]));rw[List.length_erase_of_mem hx] at this;have:=N_ hx;rw[f9]
  lia
noncomputable def dI:List (Int×Int):=[(0,1),(0,2),(0,3),(0,4),(0,5),(0,6),(0,7),(1,2),(1,3),(1,4),(1,5),(1,6),(1,7),(2,3),(2,4),(2,5),(2,6),(2,7),(3,4),(3,5),(3,6),(3,7),(4,5),(4,6),(4,7),(5,6),(5,7),(6,7)]
section
variable {aq:Nat->Nat->Bool}{F:Fn}{J:Vs}{s:S}{P:Xv->S->Prop}
end
noncomputable def at'(fs:List Int)(j:Int):Int:=fs.getD j.toNat 0
theorem Mp{fs:List Int}{j:Int}(h0:0<=j)(h:j<fs.length):∃(i:Nat) (hi:i<fs.length),j=i/\at' fs j=fs[i]:=by
 obtain⟨i,rfl⟩:=vW h0;have hi:i<fs.length:=by lia
 refine⟨i,hi,rfl,?_⟩;unfold at';rw[nj,kW,dO hi];rfl
theorem rZ{fs:List Int}{j:Int}(h0:0<=j)(h:j<fs.length):at' fs j∈fs:=by
 obtain⟨i,hi,_,e⟩:=Mp h0 h;rw[e];exact List.getElem_mem _
theorem zoM{fs:List Int}{j:Int}(h0:0<=j)(h:j<fs.length):(fs.map D.int)[j.toNat]?=some (.int (at' fs j)):=by
 obtain⟨i,hi,rfl,e⟩:=Mp h0 h;rw[e,nj,iu,dO hi];rfl
theorem yZ{fs gs:List Int}{j:Int}(h0:0<=j)(h:j<fs.length):at' (fs++gs) j=at' fs j:=by
 obtain⟨i,hi,rfl,e⟩:=Mp h0 h;unfold at';rw[nj,kW,kW,oX hi]
theorem SX:at' (fs++[x]) fs.length=x:=by
 unfold at';rw[nj,kW,o8 (b_ _)];simp
theorem uO(h0:0<=j)(h:xs[j.toNat]?=some x):prim .ix [.fl xs,.int j]=some (.dat x):=by
 obtain⟨k,rfl⟩:=vW h0;exact Mj h
theorem ZL(h0:0<=j)(h:xs[j.toNat]?=some x):prim .ix [.tup xs,.int j]=some (.dat x):=uO h0 h
theorem S5(h0:0<=j)(h:j<fs.length):prim .ix [.tup (fs.map .int),.int j]=some (.dat (.int (at' fs j))):=uO h0 (zoM h0 h)
noncomputable def jD(k a b:Int):Int:=if k-(if a-b<0 then -(a-b) else a-b)<(if a-b<0 then -(a-b) else a-b) then k-(if a-b<0 then -(a-b) else a-b) else (if a-b<0 then -(a-b) else a-b)
theorem sU(hd:1<=d):d<=jD k a b↔(d<=a-b/\a-b<=k-d)\/(d<=b-a/\b-a<=k-d):=by
 unfold jD
 split<;>split<;>lia
theorem zjE(j:Int)(ls:List Int):memD (.int j) (ls.map .int)=some (decide (j∈ls)):=by
 induction ls with
 |nil=>rfl
 |cons q r ih=>
  have hi:cN 50 (.int q) (.int j)=some (q==j):=rfl;simp only[gG,memD,ih,hi]
  congr 1
  by_cases h:q=j
  ·subst h;simp
  ·have h2:¬j=q:=λe=>h e.symm;simp[h,h2]
structure iH(n k d:Int)(ps:List (Int×Int))(hs:List Int):Prop where
 len:(hs.length:Int)=n
 lo:∀x∈hs,0<=x/\x<k
 fit:∀p∈ps,d<=jD k (at' hs p.1) (at' hs p.2)
section
variable {aq:Nat->Nat->Bool}{aj:Bool}{F:Bool->Fn}{J:Vs}{s:S}{Q:Out->S->Prop}
theorem WS.wh(I:Nat->Vs->S->Prop)(hm:m<oA)(h0:I m J s)
  (step:∀m J s,I m J s->W (ev aq aj (F aj) c J) s λx s1=>W (Mi.bool x) s1 λk s2=>(k=true->WS (exs aq aj F b J) s2 λo s3=>(∃J' m',o=.nx J'/\m'<m/\I m' J' s3)\/(∃x,o=.rt x/\Q (.rt x) s3))/\(k=false->Q (.nx J) s2)):WS (ex aq aj F (.wh c b) J) s Q:=by
 have key:∀n m J s,m<n->I m J s->WS (gU (λJ=>M.bd (ev aq aj (F aj) c J) Mi.bool) (λJ=>exs aq aj F b J) n J) s Q:=by
  intro n
  induction n with
  |zero=>intro m J s h;exact absurd h (Nat.not_lt_zero _)
  |succ n ih=>
   intro m J s hmn hI;obtain⟨x,s1,e1,k,s2,e2,hk⟩:=step m J s hI;unfold gU;refine WS.ofM (W.bd ⟨x,s1,e1,k,s2,e2,?_⟩);cases k with
   |false=>exact⟨_,s2,by rw[if_neg (by decide)],hk.2 rfl⟩
   |true=>
    obtain⟨o,s3,e3,hr⟩:=hk.1 rfl;rcases hr with ⟨J',m',rfl,Mq,B_⟩|⟨x,rfl,hq⟩
    ·obtain⟨o2,s4,e4,q⟩:=ih m' J' s3 (by lia) B_;exact⟨o2,s4,by rw[if_pos rfl,e3];exact e4,q⟩
    ·exact⟨_,s3,by rw[if_pos rfl,e3],hq⟩
 exact key oA m J s hm h0
end
section
variable {aq:Nat->Nat->Bool}{aj:Bool}{F:Fn}{J:Vs}{s:S}{P:Xv->S->Prop}
end
def Ge(h r:List Int):Prop:=∀j:Nat,j<r.length->(∀i:Nat,i<j->at' h i=at' r i)->at' r j<=at' h j
theorem zlC{m:Nat}{f:Nat->Int}{j:Int}(h0:0<=j)(h:j<m):at' ((List.range m).map f) j=f j.toNat:=by
 unfold at';rw[kW,iu,Cz (by lia)];rfl
theorem zj7(xs:List D):cN 50 (.fl xs) (.fl [])=some (decide (xs=[])):=by
 cases xs with
 |nil=>rfl
 |cons x r=>rfl
theorem znL:wR f [.fl xs,.fl []]=some (.dat (.bl (f (decide (xs=[]))))):=by
 show Option.map _ (cN 50 (.fl xs) (.fl []))=_;rw[zj7];rfl
theorem zky{f:Bool->Bool}{j:Int}{ls:List Int}:yD f [.int j,.tup (ls.map .int)]=some (.dat (.bl (f (decide (j∈ls))))):=by
 show Option.map _ (memD (.int j) (ls.map .int))=_;rw[zjE];rfl
noncomputable def bO(k d:Int):D:=.tup [.int k,.int d]
section
variable {n k d:Int}{ps:List (Int×Int)}{ls:List Int}
end
section
variable {aq:Nat->Nat->Bool}{F:Fn}{J:Vs}{s:S}{P:Xv->S->Prop}
end
theorem uP{α:Type}{l:List α}{f:α->D}:l.filterMap (λx=>some (f x))=l.map f:=by
 rw[<-List.filterMap_eq_map];rfl
theorem ZM(I:Nat->Vs->S->Prop)(h0:I 0 J s)(hb:∀i x J s,c[i]?=some x->I i J s->WS (b x J) s λo s'=>(∃J',o=.nx J'/\I (i+1) J' s')\/(∃x,o=.rt x/\Q (.rt x) s'))
  (he:∀J s,I c.length J s->Q (.nx J) s):WS (dG (.fix c) b (c.length+1) 0 J) s Q:=by
 have key:∀n i J s,i+n=c.length->I i J s->WS (dG (.fix c) b (n+1) i J) s Q:=by
  intro n
  induction n with
  |zero=>
   intro i J s hi hI;have e:c[i]?=none:=by rw[qm];lia
   have:i=c.length:=by lia
   subst this;refine⟨_,s,?_,he J s hI⟩;unfold dG;simp only[Src.at,e]
  |succ n ih=>
   intro i J s hi hI;have dF:i<c.length:=by lia
   have e:c[i]?=some c[i]:=dO dF;obtain⟨o,s',eb,hr⟩:=hb i c[i] J s e hI;rcases hr with ⟨J',rfl,B_⟩|⟨x,rfl,hq⟩
   ·obtain⟨o2,s2,e2,q⟩:=ih (i+1) J' s' (by lia) B_;refine⟨o2,s2,?_,q⟩;unfold dG;simp only[Src.at,e,eb];exact e2
   ·refine⟨_,s',?_,hq⟩;unfold dG;simp only[Src.at,e,eb]
 exact key c.length 0 J s (by lia) h0
noncomputable def lQ(n:Nat):List Int:=(List.range n).map λ(k:Nat)=>(k:Int)
theorem Mr{n:Nat}{j:Int}(h0:0<=j)(h:j<n):at' (lQ n) j=j:=by
 unfold lQ;rw[zlC h0 h]
 lia
theorem ZP{n K:Int}{ps:List (Int×Int)}(w:Web n ps)(hK:n<=K):iH n K 1 ps (lQ n.toNat) where
 len:=by have:=w.h1;unfold lQ;simp;lia
 lo:=λx hx=>by
  unfold lQ at hx;obtain⟨i,hi,rfl⟩:=pC.mp hx;have:=vf.mp hi
  lia
 fit:=λp hp=>by
  have ht:=w.tie p hp;rw[Mr (by lia) (by lia),Mr (by lia) (by lia),sU (by lia)]
  lia
theorem Et{hs:List Int}{f:Int->Int}{j:Int}(h0:0<=j)(h:j<hs.length):at' (hs.map f) j=f (at' hs j):=by
 obtain⟨i,hi,rfl,e⟩:=Mp h0 h;rw[e];unfold at';rw[nj,kW,iu,dO hi];rfl
theorem zkv(h:xs.length+ys.length<=sizeLine):prim .add [.tup xs,.tup ys]=some (.dat (.tup (xs++ys))):=by
 show (if _ then _ else _)=_;rw[if_pos h]
theorem zfI{α:Type}(l:List α)(f:α->Bool):dW (l.map λx=>D.bl (f x))=some (l.map f):=by
 induction l with
 |nil=>rfl
 |cons x r ih=>
  show Option.map _ (dW (r.map λx=>D.bl (f x)))=_;rw[ih];rfl
theorem ZQ{α:Type}{l:List α}{f:α->Bool}:prim .all [.fl (l.map λx=>D.bl (f x))]=some (.dat (.bl (l.all f))):=by
 show Option.map _ (dW (l.map λx=>D.bl (f x)))=_;rw[zfI];show some (Rz.dat (.bl ((l.map f).all id)))=_;rw[List.all_map];rfl
section
variable {n m:Int}{ps:List (Int×Int)}
structure fV(n m:Int)(ps:List (Int×Int))(h:List Int):Prop where
 len:(h.length:Int)=n
 lo:∀x∈h,0<=x/\x<m
 ne:∀p∈ps,at' h p.1≠at' h p.2
theorem zhQ(w:Web n ps):fV n n ps (lQ n.toNat) where
 len:=(ZP w (Int.le_refl n)).len
 lo:=(ZP w (Int.le_refl n)).lo
 ne:=λp hp=>by
  have ht:=w.tie p hp;rw[Mr (by lia) (by lia),Mr (by lia) (by lia)]
  lia
end
end Mi
namespace Mi
open PySem PySem.W PyProof.Rows L2
structure Ord(n:Nat)(lt:Nat->Nat->Option Bool)(le:Nat->Nat->Prop):Prop where
 ans:∀i j,i<n->j<n->(lt i j=some true/\le i j)\/(lt i j=some false/\le j i)
 tr:∀i j k,i<n->j<n->k<n->le i j->le j k->le i k
section
variable {lt:Nat->Nat->Option Bool}{le:Nat->Nat->Prop}{n:Nat}
variable (o:Ord n lt le)(hn:0<n)
include o hn
end
end Mi
namespace Ts
open PySem PySem.SetTable
end Ts
namespace Ts
open Mi PySem PySem.SetTable
end Ts
namespace Ts
open PySem PySem.SetTable
section
variable {prog:Program}{w:World}{A:Around}{E:Value->Shared->Prop}{s:Shared}{S:Addr}{items:List Value}{ts:List (Int×Int)}{L:Ent}{led:Bool}
end
end Ts
namespace Ts
open Mi (yH)
open PySem PySem.SetTable
section
variable {prog:Program}{w:World}{A:Around}{E:Value->Shared->Prop}{s:Shared}{S:Addr}{items:List Value}{ts:List (Int×Int)}{L:Ent}{led:Bool}
end
end Ts
namespace Ts
open PySem PySem.SetTable
section
variable {prog:Program}{w:World}{A:Around}{R:Result->Shared->Prop}{I:Addr}{fp wr:List Addr}{G:Array GenState->Array GenState->Prop}{n:Nat}{P:Nat->Value->Prop}{St:Nat->Shared->Prop}{S:Addr}{items:List Value}{ts:List (Int×Int)}{led:Bool}
end
section
variable {prog:Program}{w:World}{A:Around}{E:Value->Shared->Prop}{s:Shared}
end
section
variable {prog:Program}{w:World}{A:Around}{E:Value->Shared->Prop}{s:Shared}{S:Addr}{items:List Value}{ts:List (Int×Int)}{L:Ent}
end
end Ts
namespace Ts
open PySem PySem.SetTable PySem.Spec PyProof.Rows PySem.W L2
section
variable {prog:Program}{w:World}{A:Around}{E:Value->Shared->Prop}{s:Shared}{S:Addr}{items:List Value}{ts:List (Int×Int)}{L:Ent}
end
end Ts
namespace Mi
open PySem PySem.Spec PyProof.Rows L2 PySem.W Ts
section
variable {prog:Program}{w:World}{A:Around}{E:Value->Shared->Prop}{s:Shared}{S:Addr}{items:List Value}{ts:List (Int×Int)}{L:Ent}
end
section
variable {X:Cx}
end
section
variable {K:W.Frag}{cA:Cl}{U:Ph}{H:Hp}
end
section
variable {X:Cx}{cA:Cl}{aq:Nat->Nat->Bool}{aj:Bool}{F:Fn}{EX:XS}{e:Expr}{pos pos' p p':Pos}{Xs:Es}{fz:Bool}
end
end Mi
namespace Mi
open PySem PySem.Spec PyProof.Rows L2 PySem.W
section
variable {X:Cx}{a b:Expr}{rest:List Expr}{pos:Pos}{ta tb:TE}
end
section
variable {K:W.Frag}{cA:Cl}{U:Ph}{H:Hp}
theorem zms{d:D}{v:V}{k:Bool}(r:Rv K cA U H d v)(e:wU d=some k):Ak K v H k:=by
 cases d with
 |non=>
  cases (show Rep K cA U H .non v from r);cases e;rfl
 |bl c=>
  cases (show Rep K cA U H (.bl c) v from r);cases e;rfl
 |int i=>
  cases (show Rep K cA U H (.int i) v from r);cases e;rfl
 |tup xs=>
  cases (show Rep K cA U H (.tup xs) v from r) with
  |tup t q=>
   cases e;refine .inr (.inl ⟨_,t.jh,?_⟩);cases q<;>rfl
 |fl xs=>
  obtain⟨a,us,rfl,sq,q⟩ : ∃a us,v=.ref a/\cT K H a us/\aC K cA U H xs us:=r;cases e;refine .inl ⟨_,sq,?_⟩;cases q<;>rfl
 |_=>cases e
end
section
variable {X:Cx}{cA:Cl}{aq:Nat->Nat->Bool}{aj:Bool}{F:Fn}{EX:XS}{a b:Expr}{A B:E}{pos p:Pos}{x:Str}{e:Expr}{es:List Expr}{Xs:Es}
noncomputable def uQ(sc:Scope)(x:Str):Bool:=match sc.names.lookup x with
 |some k=>BP k
 |none=>false
noncomputable def Ms(sc:Scope)(x:Str):Bool:=match sc.names.lookup x with
 |some .globalImplicit=>true
 |_=>false
theorem S6{sc:Scope}{x:Str}(h:uQ sc x=true):∃k,sc.names.lookup x=some k/\BP k=true:=by
 unfold uQ at h;split at h
 ·rename_i k e;exact⟨k,e,h⟩
 ·cases h
theorem ZR{sc:Scope}{x:Str}(h:Ms sc x=true):sc.names.lookup x=some .globalImplicit:=by
 unfold Ms at h;split at h
 ·assumption
 ·cases h
theorem gk(h:Ms X.env.scope x=true:=by kernel_rfl):JK X x .globalImplicit:=⟨ZR h⟩
theorem jl(h:(match X.env.scope.names.lookup x with|some .local=>true|_=>false)=true:=by kernel_rfl):JK X x .local:=by
 split at h
 ·exact⟨by assumption⟩
 ·cases h
theorem jc(h:(match X.env.scope.names.lookup x with|some .cell=>true|_=>false)=true:=by kernel_rfl):JK X x .cell:=by
 split at h
 ·exact⟨by assumption⟩
 ·cases h
theorem sV{scope:Scope}{cl:List (Str×Addr)}{N:List Str}{Cc:Addr}{s3:Shared}{H3:Hp}{fp:List Addr}{ao:List (Addr×Obj)}(h:Ms scope x=true:=by kernel_rfl):JK (X.blk scope cl N Cc s3 H3 fp ao) x .globalImplicit:=YF (ZR h) rfl
theorem gv(i:Nat)(h:(decide (X.N[i]?=some x)&&uQ X.env.scope x&&okN x)=true:=by kernel_rfl):JE X cA aq aj F EX (.Name x pos) (.v i):=by
 rw[gQ,gQ] at h;obtain⟨k,e,hv⟩:=S6 h.1.2;exact YG i (gF h.1.1) ⟨e⟩ hv h.2
theorem bK(i:Nat){scope:Scope}{cl:List (Str×Addr)}{N:List Str}{Cc:Addr}{s3:Shared}{H3:Hp}{fp:List Addr}{ao:List (Addr×Obj)}(h:(decide (N[i]?=some x)&&uQ scope x&&okN x)=true:=by kernel_rfl):JE (X.blk scope cl N Cc s3 H3 fp ao) cA aq aj F EX (.Name x pos) (.v i):=by
 rw[gQ,gQ] at h;obtain⟨k,e,hv⟩:=S6 h.1.2;by_cases hk:k=.free
 ·subst hk;exact zoJ i (gF h.1.1) e h.2
 ·exact YG i (gF h.1.1) (YF e (by cases k<;>first|rfl|exact absurd rfl hk)) hv h.2
theorem gc{f k:Nat}{cm:Bool}{st:Stmt}{ps:List Str}(Fo:cD X.prog X.w X.K X.mg X.base (gJ X.prog X.w) cm k (iG X.K x) (fdOf X.K x st) ps (lN X.K cA (F f)))(D:D3 X.K X.mg x st ps)(hr:bF k X.A)(R:JR X EX)(g:JK X x .globalImplicit)(ha:JA X cA aq aj F EX (e::es) Xs)(h:okN x=true:=by kernel_rfl)
  (ju:cm=true->X.aj=true:=by first|exact λ_=>rfl|exact λz=>nomatch z) (he:aF e=true:=by rfl) (hpl:es.all aF=true:=by rfl):JE X cA aq aj F EX (.Call (.Name x p) (e::es) [] pos) (.call f Xs):=
 zl8 f Fo ju hr D.m D.f.kp D.b R g ha h he hpl
theorem nd(h:decide X.N.Nodup=true:=by kernel_rfl):X.N.Nodup:=gF h
end
theorem fJ{P:Program}{w:World}{K:W.Frag}{mg:Str->Option Value}{base:Heap}{cA:Cl}{aq:Nat->Nat->Bool}{T:Nat->Option Df}{x:Str}{st:Stmt}{ps:List Str}{k n:Nat}{cm:Bool}{df:Df}(D:D3 K mg x st ps)(N:List Str)(hT:T n=some df)
  (hb:∀(cdv:Value) (A:Around) (outer:List Env) (s:Shared) (H:Hp) (E:XK),bF k (A.deeper (envOfC x (au st) s.heap.objs.size (iG K x) cdv))->
   JB (gA (gJ P w) P w K mg base N x (au st) (iG K x) cdv A outer s H E cm) cA aq cm (λc=>call aq T k c) (λ_ C dx H'=>E C dx H') (aK st) df.body) (S:cU N ps (au st):=by exact⟨rfl,rfl,rfl,dk,rfl,dk,dk⟩) (hp:df.iC=ps.length:=by rfl) (hm:df.many=N.length:=by rfl) :
  cD P w K mg base (gJ P w) cm (k+1) (iG K x) (fdOf K x st) ps (lN K cA (call aq T (k+1) cm n)):=YZ D.f S hT hp hm hb
end Mi
namespace Mi
open PySem PySem.Spec PyProof.Rows L2
section
variable {K:W.Frag}{cA:Cl}{U:Ph}{H:Hp}{s:S}
theorem ZS{β:Type}{c:Nat}{x:Xv}{v:V}{k:List D->M β}{P:β->S->Ph->Hp->Prop}{Ee:Nat->List D->S->Ph->Hp->Prop}(r:aV K cA U H x v)(h:Run K cA (M.bd (pU c x) k) U H s P Ee) :
  ∃fs ad dx vs,v=.ref ad/\H ad=some (.ins (cA.b c) dx ((cA.g c).zip vs))/\aC K cA U H fs vs/\Run K cA (k fs) U H s P Ee:=by
 cases r with
 |l _=>exact h.elim
 |d r=>cases r with
  |@ob ad e fs vs q r=>
   have h2:Run K cA (M.bd (if e=c then M.ret fs else M.no) k) U H s P Ee:=h;clear h;by_cases z:e=c
   ·rw[if_pos z] at h2;subst z;obtain⟨_,dx,q1,_⟩:=q;exact⟨fs,ad,dx,vs,rfl,q1,r,h2⟩
   ·rw[if_neg z] at h2;exact h2.elim
  |_=>exact h.elim
theorem Run.qt'{α:Type}{m:M α}{P:α->S->Ph->Hp->Prop}{Ee Ee':Nat->List D->S->Ph->Hp->Prop}(h:Run K cA (M.qt m) U H s P Ee):Run K cA m U H s P Ee':=by
 unfold Run M.qt at *;cases e:m s with
 |none=>rw[e] at h;exact h
 |some r=>
  obtain⟨r,s1⟩:=r;rw[e] at h;cases r with
  |ok a=>exact h
  |er c f=>exact h.elim
theorem ZV:∀{ns:List Str} {vs:List V} {m:Str},m∉ns->(ns.zip vs).lookup m=none
 |[],vs,m,_=>by simp
 |n::ns,[],m,_=>by simp
 |n::ns,v::vs,m,h=>by
  rw[Fw,o_,show (m==n)=false from zE.mpr λe=>h (by simp[e])];exact ZV λz=>h (h_ _ z)
end
structure Ow(K:W.Frag)(cA:Cl)(c:Nat):Prop where
 cl:Cls K (cA.b c)
 nf:∀f∈cA.g c,gR K (cA.b c) f
 nd:(cA.g c).Nodup
section
variable {X:Cx}{cA:Cl}{aq:Nat->Nat->Bool}{aj:Bool}{F:Fn}{EX:XS}{a e:Expr}{es:List Expr}{A:E}{Xs:Es}{pos apos p:Pos}{x:Str}
theorem xW{c i:Nat}(o:Ow X.K cA c)(ha:JE X cA aq aj F EX a A)(hi:((cA.g c)[i]?==some x)=true:=by kernel_rfl)(hb:attributeBase a x X.env (eval a X.env)=eval a X.env:=by rfl):JE X cA aq aj F EX (.Attribute a x pos) (.of A c i):=⟨PE.weak (zlk ha.o hb) λZ H Q hh=>un hh λU J s hL hS h=>by
 refine aZ hL hS h λy H1 U1 d1 s1 x1 hL1 aJ r1 h1=>?_;obtain⟨fs,ad,dx,vs,rfl,q1,q2,h2⟩:=ZS r1 h1;have hi:(cA.g c)[i]?=some x:=pD.mp hi;cases ef:fs[i]? with
 |none=>rw[ef] at h2;exact h2.elim
 |some d=>
  rw[ef] at h2;obtain⟨v,e1,rv⟩:=q2.get ef;exact⟨ad,_,dx,_,v,rfl,q1,o.cl,o.nf x (fX hi),zfb o.nd hi e1,h2.bL aJ v (.d rv)⟩⟩
theorem ZW:Passes (gJ X.prog X.w) X λ_ _ _=>False:=λao Z H s e s' I h=>by
 obtain⟨_,_,_,_,_,_,_,_,_,_,z⟩:=h;exact z.elim
structure Mt(K:W.Frag)(C:Addr)(m q:Str)(st:Stmt)(ps:List Str)(f:Addr)(fd:FuncData):Prop where
 fn:oJ K m q st f fd
 mt:Meth K C m f
 bd:Binds K fd ps []
theorem vR{c f k:Nat}{cm:Bool}{m q:Str}{st:Stmt}{ps:List Str}{fa:Addr}{fd:FuncData}{pl:Sem Bool}(o:Ow X.K cA c)(D:Mt X.K (cA.b c) m q st ps fa fd)(Fo:cD X.prog X.w X.K X.mg X.base (gJ X.prog X.w) cm k fa fd ps (lN X.K cA (F f)))(hr:bF k X.A)(ha:JE X cA aq aj F EX a A)(hb:JA X cA aq aj F EX (e::es) Xs)
  (hm:decide (m∉cA.g c)=true:=by kernel_rfl) (ju:cm=true->X.aj=true:=by first|exact λ_=>rfl|exact λz=>nomatch z) (he:aF e=true:=by rfl) (hpl:es.all aF=true:=by rfl)
  (ht:eval (.Call (.Attribute a m apos) (e::es) [] pos) X.env=(do
   let ov <-eval a X.env
   standAt apos.atName
   let (f,first) <-holding [ov] (getMethod ov m pl)
   callWith pos f first (backTo pos (starEach (e::es) X.env)) (backToKw pos (keywordEach [] X.env))):=by rfl):JE X cA aq aj F EX (.Call (.Attribute a m apos) (e::es) [] pos) (.cm c f A Xs):=⟨PE.weak (zjI (pl:=pl) (nR:=[]) ha.o o.cl D.mt Fo ju hr D.bd .nil ZW hb.o (bI he) (bD hpl) ht) λZ H Q hh=>un hh λU J s hL hS h=>by
 refine aZ hL hS h λy H1 U1 d1 s1 x1 hL1 aJ r1 h1=>?_;obtain⟨fs,ad,dx,vs,rfl,q1,q2,h2⟩:=ZS r1 h1;refine⟨ad,dx,_,rfl,q1,ZV (gF hm),pZ hL1 aJ h2 λus H2 U2 ds s2 x2 hL2 aQ r2 h3=>?_⟩;rw[v7];obtain⟨U0,s0,a1,a2,a3⟩:=Yp (EE:=λ_ _ _ _=>False) aQ (.cons (r1.mono x2 aJ.lz) r2) (λ_ _ _ _ _ _ z=>z) (h3.qt');refine⟨U0,_,s0,a1,a2,?_⟩;unfold Run at a3 ⊢;split at a3
 ·exact a3
 ·exact λU' H' x r=>(a3 U' H' x r).elim
 ·exact a3⟩
end
noncomputable def Mu(K:W.Frag)(cA:Cl)(c:Nat)(m:List Xv->M Xv):Sp:=λvs H Q _=>∃x dx us U H0 xs s,vs=.ref x::us/\H0 x=none/\H0 dx=none/\dx≠x/\H=upd (upd H0 dx (.own x)) x (.ins (cA.b c) dx [])/\aP K cA U H0 xs us/\aD K cA U H0 s /\
 Run K cA (m (.d .any::xs)) U H0 s (λr _ U' H'=>∀ds ws,r=.d (.tup ds)->aC K cA U' H' ds ws->eZ U' H' x (.ins (cA.b c) dx ((cA.g c).zip ws))->(cA.g c).length=ws.length->Q .non H') (λ_ _ _ _ _=>False)
section
variable {K:W.Frag}{cA:Cl}{U:Ph}{H:Hp}{s:S}
theorem zhe{xs:List Xv}{vs:List V}(h:locs xs=[])(r:aP K cA U H xs vs)(l:List Addr):aP K cA ⟨U.z,l⟩ H xs vs:=by
 induction r with
 |nil=>exact .nil
 |cons a r ih=>cases a with
  |d a=>exact .cons (.d (Rep.zl a l)) (ih h)
  |l a=>cases h
theorem Ext.made{x dx:Addr}{C:Addr}(hx:H x=none)(hd:H dx=none)(hn:dx≠x):Ext U H (U.mark x) (upd (upd H dx (.own x)) x (.ins C dx [])):=by
 have g:bB H (upd (upd H dx (.own x)) x (.ins C dx [])):=(bB.new hd).trans (bB.new (by rw[cW hn.symm];exact hx));exact⟨⟨[],by simp[Ph.mark],by simp⟩,λa z=>.inl z,λa z=>z.imp id λe=>by rw[e];exact hx,λa o h _=>g a o h,λa o h=>⟨o,g a o h⟩⟩
theorem aD.made{x dx:Addr}{C:Addr}(hS:aD K cA U H s)(hx:H x=none)(hd:H dx=none)(hn:dx≠x):aD K cA (U.mark x) (upd (upd H dx (.own x)) x (.ins C dx [])) s:=by
 have xt:=Ext.made (U:=U) (C:=C) hx hd hn;refine⟨hS.len,λn o a e1 e2=>(hS.obj n o a e1 e2).map (λu q=>?_) λ_ _ r=>r.mono xt hS.lz,hS.uniq,λa ha=>.inl (hS.lz a ha),λa z=>?_⟩
 ·have n1:a≠x:=λy=>by rw[y,hx] at q;cases q
  have n2:a≠dx:=λy=>by rw[y,hd] at q;cases q
  rw[cW n1,cW n2];exact q
 ·rcases z with z|z
  ·obtain⟨o,e⟩:=hS.zt a z;exact xt.stay a o e
  ·subst z;exact⟨_,jF⟩
end
section
variable {X:Cx}{cA:Cl}{aq:Nat->Nat->Bool}{aj:Bool}{F:Fn}{EX:XS}{e:Expr}{es:List Expr}{Xs:Es}{pos p:Pos}{x:Str}
theorem ZX{c f k:Nat}{cm:Bool}{ps:List Str}{fa:Addr}{fd:FuncData}(M:Mk X.K (cA.b c) fa)(Fo:cD X.prog X.w X.K X.mg X.base (gJ X.prog X.w) cm k fa fd ps (Mu X.K cA c (F f)))(hr:∀us,bF k (X.A.under (.builtin "type.__call__" ⟨.ref (cA.b c)::us,[]⟩)))(hb:Binds X.K fd ps [])(hm:X.mg x=some (.ref (cA.b c)))(hg:JK X x .globalImplicit)
  (ha:JA X cA aq aj F EX (e::es) Xs) (h:okN x=true:=by kernel_rfl) (ju:cm=true->X.aj=true:=by first|exact λ_=>rfl|exact λz=>nomatch z) (he:aF e=true:=by rfl) (hpl:es.all aF=true:=by rfl):JE X cA aq aj F EX (.Call (.Name x p) (e::es) [] pos) (.mk c f Xs):=⟨PE.weak (zjB (nR:=[]) M Fo ju hr hg.o hm hb .nil ZW ha.o (uD h).1 (bI he) (bD hpl)) λZ H Q hh=>un hh λU J s hL hS h=>
 pZ hL hS h λus H1 U1 ds s1 x1 hL1 aJ r1 h1 x dx hx hd hn=>by
  rw[v7];unfold Run Ra at h1;by_cases hl:locs ds=[]
  ·simp only[if_pos hl] at h1;refine⟨x,dx,us,⟨U1.z,[]⟩,H1,ds,[],rfl,hx,hd,hn,rfl,zhe hl r1 [],⟨rfl,(λn o a e=>by simp at e),CZ,(λa ha=>by cases ha),aJ.zt⟩,?_⟩;unfold Run;cases e:F f (.d .any::ds) [] with
   |none=>simp only[e] at h1
   |some r=>
    obtain⟨r,s2⟩:=r;simp only[e] at h1;cases r with
    |er c f=>exact h1.elim
    |ok r=>
     intro U' H' xt aQ ts ws er rs kp hlen;subst er;have nx:¬U1.z x:=aJ.nz hx;have ne:∀a o,H1 a=some o->a≠x:=λa o q y=>by rw[y,hx] at q;cases q
     have Z0:Ext U1 H1 ⟨λa=>U'.z a/\a≠x,U1.l⟩ H':=by
      refine⟨⟨[],by simp,by simp⟩,λa z=>⟨xt.rN a z,λy=>nx (y▸z)⟩,λa z=>xt.lu a z.1,λa o q _=>xt.frame a o q (by simp),xt.stay⟩
     refine⟨rfl,h1 _ H' Z0 ⟨aJ.len,λn o a e1 e2=>(aJ.obj n o a e1 e2).map (λu q=>xt.frame a u q (by simp)) λ_ _ r=>r.mono Z0 aJ.lz,aJ.uniq,λa ha=>⟨xt.rN a (aJ.lz a ha),λy=>nx (y▸aJ.lz a ha)⟩,λa z=>aQ.zt a z.1⟩ _ (.d (.ob ⟨λz=>z.2 rfl,dx,kp.at_,hlen⟩ (rs.jV (U':=⟨λa=>U'.z a/\a≠x,U1.l⟩) λ_ z=>z.1)))⟩
  ·simp only[if_neg hl] at h1⟩
end
structure xX(X:Cx)(cA:Cl)(aq:Nat->Nat->Bool)(aj:Bool)(F:Fn)(EX:XS)(c:Nat)(body:List Stmt)(is:Es)(ns:List Str):Prop where
 o:pF X body λD Z H=>∃U0 H0 U J s x dx done vs ys,Ext U0 H0 U H/\aW X.K cA U H Z J/\aD X.K cA U H s/\H0 x=none/\Z[0]?=some (some (.ref x))/\eZ U H x (.ins (cA.b c) dx (done.zip vs))/\aP X.K cA U H ys vs/\done.length=vs.length/\done++ns=cA.g c/\done.length+ns.length<=900 /\
  Run X.K cA (M.bd (evs aq aj F is J) λzs=>cG (ys++zs)) U0 H0 s (λes _ U' H'=>∀ws,aC X.K cA U' H' es ws->eZ U' H' x (.ins (cA.b c) dx ((cA.g c).zip ws))->(cA.g c).length=ws.length->D.nx Z H') (eX X.K cA EX Z)
theorem Z9{f:Str}{v:V}:∀{fs:List (Str×V)},f∉fs.map (·.1)->fD f v fs=fs++[(f,v)]
 |[],_=>rfl
 |(g,x)::r,h=>by
  unfold fD;rw[if_neg λe=>h (by simp[e]),Z9 λz=>h (h_ _ z)];rfl
theorem aP.out{K:W.Frag}{cA:Cl}{U:Ph}{H H':Hp}(x:cH U H H'):∀{ds:List Xv} {vs:List V},aP K cA U H ds vs->aP K cA U H' ds vs
 |_,_,.nil=>.nil
 |_,_,.cons h r=>.cons (h.out x) (aP.out x r)
theorem aP.app{K:W.Frag}{cA:Cl}{U:Ph}{H:Hp}:∀{ds es:List Xv} {vs us:List V},aP K cA U H ds vs->aP K cA U H es us->aP K cA U H (ds++es) (vs++us)
 |_,_,_,_,.nil,s=>s
 |_,_,_,_,.cons h r,s=>.cons h (aP.app r s)
theorem Run.er{K:W.Frag}{cA:Cl}{U:Ph}{H:Hp}{s:S}{α:Type}{m:M α}{P:α->S->Ph->Hp->Prop}{Ee:Nat->List D->S->Ph->Hp->Prop}(h:Run K cA m U H s P λ_ _ _ _ _=>False):Run K cA m U H s P Ee:=by
 unfold Run at *;split at h
 ·exact h
 ·exact λU' H' x r=>(h U' H' x r).elim
 ·exact h
section
variable {X:Cx}{cA:Cl}{aq:Nat->Nat->Bool}{aj:Bool}{F:Fn}{EX:XS}{c:Nat}{a:Expr}{A:E}{is:Es}{ns:List Str}{body:List Stmt}{f:Str}{pos p p2:Pos}
theorem zmJ:xX X cA aq aj F EX c [] .nil []:=⟨λao s Z H D I hh=>Wi ao s Z H D I (by
 obtain⟨U0,H0,U,J,st,x,dx,done,vs,ys,xt,hL,hS,hx,h0,kp,rs,hl,hg,hz,h⟩:=hh;rw[v7] at hg;subst hg;have h2:Run X.K cA (M.bd (cG ys) M.ret) U H st (λes _ U' H'=>∀ws,aC X.K cA U' H' es ws->eZ U' H' x (.ins (cA.b c) dx ((cA.g c).zip ws))->(cA.g c).length=ws.length->D.nx Z H') (eX X.K cA EX Z):=by
  have h3:=h.ext xt;unfold Run at h3 ⊢;have e0:M.bd (evs aq aj F .nil J) (λzs=>cG (ys++zs)) st=cG ys st:=by show cG (ys++[]) st=_;rw[v7]
  rw[e0] at h3;unfold M.bd;cases e1:cG ys st with
  |none=>rw[e1] at h3;exact h3
  |some r=>
   obtain⟨r,s2⟩:=r;rw[e1] at h3;cases r with
   |er c f=>exact h3
   |ok ds=>exact h3
 obtain⟨ds,_,rs2,h4⟩:=Rh rs h2;exact h4.bL hS vs rs2 kp hl)⟩
theorem Mv{j:Nat}(ow:Ow X.K cA c)(ha:JE X cA aq aj F EX a A)(hr:xX X cA aq aj F EX c body is ns)(h0:(decide (X.N[0]?=some ("self" : Str))&&uQ X.env.scope "self"&&okN "self")=true:=by kernel_rfl)
  (hs:swapsWith a (some (.Attribute (.Name "self" p) f p2)) pos.line X.env=pure false:=by rfl):xX X cA aq aj F EX c (.Assign [.Attribute (.Name "self" p) f p2] a pos::body) (.cons A is) (f::ns):=by
 rw[gQ,gQ] at h0;obtain⟨k,e,hv⟩:=S6 h0.1.2;refine⟨λao s Z H D I hh=>Wj (zkY (Wc (i:=0) (gF h0.1.1) (by cases k<;>first|exact .inl e|exact .inr (.inl e)|exact .inr (.inr e)|cases hv) (uD h0.2).1 (uD h0.2).2.1) ha.o hs) hr.o ao s Z H D I ?_⟩;obtain⟨U0,H0,U,J,st,x,dx,done,vs,ys,xt,hL,hS,hx,Z_,kp,rs,hl,hg,hz,h⟩:=hh;have h:Run X.K cA (M.bd (M.bd (ev aq aj F A J) λy=>M.bd (evs aq aj F is J) λzs=>M.ret (y::zs)) λzs=>cG (ys++zs)) U0 H0 st _ _:=h;simp only[gB] at h;refine⟨U,J,st,hL,hS,(h.bd0 xt).imp λy s1 U1 H1 ⟨x1,aJ,h1⟩ v rv=>?_⟩;have Mw:=kp.mono x1;have nf:f∈cA.g c:=by rw[<-hg];simp
 have nd:f∉done:=λz=>by
  have:=ow.nd;rw[<-hg,Kg] at this;exact this.2.2 f z f (by simp) rfl
 have hk:(done.zip vs).map (·.1)=done:=by rw[List.map_fst_zip];lia
 refine⟨.ref x,Z_,x,_,dx,_,rfl,Mw.at_,ow.cl,ow.nf f nf,?_,?_⟩
 ·have:(done.zip vs).length<=done.length:=by rw[List.length_zip];lia
  simp at hz
  lia
 rw[Z9 (by rw[hk];exact nd)];have ez:done.zip vs++[(f,v)]=(done++[f]).zip (vs++[v]):=by rw[List.zip_append hl];rfl
 rw[ez];have ox:cH U1 H1 (upd H1 x (.ins (cA.b c) dx ((done++[f]).zip (vs++[v])))):=Mw.ext.1;refine⟨U0,H0,U1,J,s1,x,dx,done++[f],vs++[v],ys++[y],Ext.keep (vs:=[]) (xt.trans x1) hx,(hL.mono x1 hS.lz).out ox,aJ.keep Mw,hx,Z_,Mw.ext.2,((rs.mono x1 hS.lz).app (.cons rv .nil)).out ox,by simp[hl],by rw[<-hg,CQ];rfl,by simp at hz ⊢;lia,?_⟩;have h1:Run X.K cA (M.bd (evs aq aj F is J) λzs=>M.bd (M.ret (y::zs)) λzs=>cG (ys++zs)) U0 H0 s1 _ _:=h1;have e2:(λzs=>cG (ys++[y]++zs))=λzs=>M.bd (M.ret (y::zs)) λzs=>cG (ys++zs):=by
  funext zs
  rw[CQ];rfl
 rw[e2];exact h1
end
theorem zhH{K:W.Frag}{cA:Cl}{U:Ph}{H:Hp}{s:S}{α:Type}{m m':M α}{P:α->S->Ph->Hp->Prop}{Ee:Nat->List D->S->Ph->Hp->Prop}(e:m s=m' s)(h:Run K cA m U H s P Ee):Run K cA m' U H s P Ee:=by
 unfold Run at *;rw[<-e];exact h
theorem zf6{aq:Nat->Nat->Bool}{T:Nat->Option Df}{k n m p:Nat}{cm:Bool}{is:Es}{xs:List Xv}{s:S}(hT:T n=some ⟨m,p,.cons (.ret (.tup is)) .nil⟩)(hl:xs.length=p) :
  call aq T (k+1) cm n xs s=M.bd (M.bd (evs aq cm (call aq T k cm) is (xs.map some++List.replicate (m-p) none)) cG) (λds=>M.ret (.d (.tup ds))) s:=by
 unfold call;simp only[hT,if_pos hl];show (match cJ (ofM (M.bd (evs aq cm (call aq T k cm) is _) λvs=>M.bd (cG vs) λds=>M.ret (.d (.tup ds))) _ λx s=>some (.rt x,s)) _ s with|some (.nx _,s')=>_|some (.rt v,s')=>_|some (.er c fs _,s')=>_|_=>none)=_;rw[gB];unfold cJ ofM;cases e:M.bd (evs aq cm (call aq T k cm) is (xs.map some++List.replicate (m-p) none)) (λvs=>M.bd (cG vs) λds=>M.ret (Xv.d (.tup ds))) s with
 |none=>rfl
 |some r=>
  obtain⟨r,s1⟩:=r;cases r<;>rfl
theorem zj1{P:Program}{w:World}{K:W.Frag}{mg:Str->Option Value}{base:Heap}{cA:Cl}{aq:Nat->Nat->Bool}{T:Nat->Option Df}{x qual:Str}{st:Stmt}{f:Addr}{fd:FuncData}{N ps:List Str}{k n c m p:Nat}{cm:Bool}{is:Es}(F:oJ K x qual st f fd)(hT:T n=some ⟨m,p,.cons (.ret (.tup is)) .nil⟩)
  (hb:∀(cdv:Value) (A:Around) (outer:List Env) (s:Shared) (H:Hp) (E:XK),bF k (A.deeper (envOfC qual (au st) s.heap.objs.size f cdv))->
   xX (gA (gJ P w) P w K mg base N qual (au st) f cdv A outer s H E cm) cA aq cm (call aq T k cm) (λ_ C dx H'=>E C dx H') c (aK st) is (cA.g c)) (hg:(cA.g c).length<=900) (S:cU N ps (au st):=by exact⟨rfl,rfl,rfl,dk,rfl,dk,dk⟩) (hp:p=ps.length:=by rfl) (hm:m=N.length:=by rfl) (h0:0<p:=by decide) :
  cD P w K mg base (gJ P w) cm (k+1) f fd ps (Mu K cA c (call aq T (k+1) cm n)):=by
 obtain⟨oc,od,kV,doc,pm,an,cdv,ct,osl,rfl,lk,j_⟩:=F.ex;have hlen:∀{U:Ph} {H:Hp} {s:Mi.S} {xs:List Xv} {P:Xv->Mi.S->Ph->Hp->Prop},Run K cA (call aq T (k+1) cm n (.d .any::xs)) U H s P (λ_ _ _ _ _=>False)->xs.length+1=p:=λ{U H s xs P} h=>by
  unfold call at h;simp only[hT] at h;by_cases hl:(Xv.d D.any::xs).length=p
  ·simpa using hl
  ·rw[if_neg hl] at h;exact h.elim
 refine WT lk j_ S (λvs H Q E ⟨x,dx,us,U,H0,xs,s,e,_,_,_,_,r,_,h⟩=>?_) λA outer s H vs Q E hr ⟨x,dx,us,U,H0,xs,st',e,hx,hd,hn,eH,r,hS,h⟩=>⟨_,(hb cdv A outer s H E (hr.deeper _)).o,?_⟩
 ·have:=hlen h;rw[e,f9,<-r.len,<-hp]
  lia
 ·subst e eH;have hl:=hlen h;have xt:=Ext.made (U:=U) (C:=cA.b c) hx hd hn;refine⟨U,H0,U.mark x,(Xv.d .any::xs).map some++List.replicate (m-p) none,st',x,dx,[],[],[],xt,Yz (.cons (.d (.any x)) (r.mono xt hS.lz)) (by simp;lia) hm,hS.made hx hd hn,hx,rfl,⟨jF,λz=>hS.nz hx (hS.lz x z),.inr rfl⟩,.nil,rfl,rfl,by simpa using hg,?_⟩;have h2:=(zhH (zf6 hT (by simpa using hl)) h).bd0 Ext.refl;exact Run.er (Run.imp h2 λds s1 U1 H1 ⟨x1,aJ,h4⟩ ws rs kp hl=>h4 U1 H1 x1 aJ ds ws rfl rs kp hl)
section
variable {prog:Program}{w:World}{A:Around}{E:Value->Shared->Prop}{s:Shared}
theorem zdV{r:Addr}{n:Nat}{lo hi:Int}{t u v:Tok}{Q:List Value->Shared->Prop}(hh:A.handled=none)(hr:IsRange s.heap r lo hi 1 t u v)(hs:Builtin.Range.small lo hi 1=true)(hn:Builtin.Range.rangeSize lo hi 1=n)(hl:n<=65536)
  (q:∀(h':Heap) (tk:Nat) (acc:Array Value),(∀b o,s.heap.get? b=some o->h'.get? b=some o)->ItemsOf (λi v=>∃t,v=.int (lo+i*1) t) acc n->Q acc.toList {s with heap:=h',toks:=tk}):wpAny (model prog w) A (collect (.ref r)) Q E s:=by
 unfold collect;refine aB (wpAny_runValue (FJ F.entry_proto_collect ?_));rw[Fq F.plain_proto_collect _];refine aB (m:=newList []) (wpAny_newList (aN ⟨FT F.plain_list_iadd _,FJ F.entry_list_iadd ?_⟩));rw[Fq F.plain_list_iadd _];have fin:∀{r':Result} {s':Shared},(∃h' tk acc c,r'=.ok (.ret (.ref s.heap.objs.size))/\s'={s with heap:=h',toks:=tk}/\h'.get? s.heap.objs.size=some (seqObj "list" acc c)/\(∀b o,s.heap.get? b=some o->h'.get? b=some o)/\ItemsOf (λi v=>∃t,v=.int (lo+i*1) t) acc n)->(match r' with
   |.ok (.ret v)=>wpAny (model prog w) A (match v with
    |.ref a=>do
     match (<-load a).data with
      |.seq xs _=>pure xs.toList
      |_=>unsupported "internal:collect"
    |_=>unsupported "internal:collect") Q E s'
   |.ok _=>False
   |.error e=>E e s'):=λ{r' s'} z=>by
  obtain⟨h',tk,acc,c,rfl,rfl,hS,kp,su⟩:=z;exact aB (wpAny_load hS (aN (q h' tk acc kp su)))
 refine gH (wpAny_extend_range (A:=A) (s:={s with heap:=s.heap.push (seqObj "list" #[] 0)}) (R:=λr' s'=>∃h' tk acc c,r'=.ok (.ret (.ref s.heap.objs.size))/\s'={s with heap:=h',toks:=tk}/\h'.get? s.heap.objs.size=some (seqObj "list" acc c)/\(∀b o,s.heap.get? b=some o->h'.get? b=some o)/\ItemsOf (λi v=>∃t,v=.int (lo+i*1) t) acc n)
  hh (cM _ hr) hs hn (by lia) s.heap.objs.size (.ref s.heap.objs.size) 0 (fL _ rfl) λh' tk acc c kp hS su=>⟨h',tk,acc,c,rfl,rfl,hS,λb o e=>kp b o (dN (bZ e)) (cM _ e),su⟩) (λf s' z=>?_) λe s' z=>?_
 ·cases f with
  |done f=>exact fin z
  |again c'=>exact⟨z.1,zR z.2 λr s'' hr=>fin hr⟩
 ·obtain⟨_,_,_,_,e,_⟩:=z;cases e
end
theorem zfi(r:Addr)(lo hi:Int)(t u v:Tok)(n:Nat)(hs:Builtin.Range.small lo hi 1=true)(hn:Builtin.Range.rangeSize lo hi 1=n)(hl:n<=65536):Meets (Builtin.«tuple.__new__» ⟨[.type "tuple",.ref r],[]⟩)
   (λA R s=>A.handled=none/\IsRange s.heap r lo hi 1 t u v/\∀(h':Heap) (tk:Nat) (acc:Array Value),(∀b o,s.heap.get? b=some o->h'.get? b=some o)->ItemsOf (λi v=>∃t,v=.int (lo+i*1) t) acc n->R (.ok (.ret (.ref h'.objs.size))) {s with heap:=h'.push {cls:=.type "tuple",data:=.seq acc},toks:=tk}):=
 .of_wp λprog w A R s h=>by
  obtain⟨hh,hr,h⟩:=h;have hsub:=sub_tuple_self;have hinit:=init_tuple_lookup;have hmh:=madeHere_tuple;have hT:s.TypeIs (.ref r) "range":=⟨_,hr,rfl⟩;have hh1:A.in1.handled=none:=hh
  wp_walk using FW hT,J9 hr,zdV hh1 hr hs hn hl
  intro h' tk acc hk su;show wpAny _ _ (Builtin.Tuple.tupleExact acc.toList.toArray >>= λv=>ret v) _ _ _;unfold Builtin.Tuple.tupleExact;have e:acc.toList.toArray=acc:=by simp
  rw[e];exact aB (o9 (aN ⟨_,rfl,h h' tk acc hk su⟩) (show acc.size<=sizeLine by rw[su.1];exact j8 hl (by decide)))
section
variable {X:Cx}
theorem zci{ao:List (Addr×Obj)}{Z:L2.St}{H:Hp}{s:Shared}{Q:VK}{hi:Int}{t u v:Tok}{tk:Nat}(hc:X.aj=true)(I:Inv X ao Z H s)(hk:okR 0 hi=true)
  (q:∀l,H l=none->Q (.ref l) (upd H l (.tup (El 0 (hi-0).toNat)))) :
  wpAny (model X.prog X.w) X.A (PySem.call (.type "tuple") [.ref s.heap.objs.size]) (EP X ao Z Q) X.xe {s with heap:=s.heap.push {cls:=.type "range",data:=.fields #[.int 0 t,.int hi u,.int 1 v]},toks:=tk}:=by
 obtain⟨h1,h2,h3,h4,h5⟩:=gF hk;have en:Builtin.Range.rangeSize 0 hi 1=((hi-0).toNat:Nat):=by rw[rangeSize_one];split<;>lia
 refine callType_new F.called_tuple (by decide) (F.typeCall_tuple_1 _) (F.newCall_tuple_1 _) (λobj=>F.args_object_init_2 obj _) F.entry_tuple_new (zfi _ 0 hi t u v _ (small_one h1 h2 h3 h4) en h5) ⟨I.ok.hd hc,IsRange.new ..,λh' tk' acc kp ⟨z1,z2⟩=>?_⟩;have hv:Vals (El 0 (hi-0).toNat) acc.toList:=by
  have:=zi8 (i:=0) (acc:=acc) (n:=(hi-0).toNat) (m:=0) (λk v e=>by
   obtain⟨t,e⟩:=z2 k v (by simpa using e);exact⟨t,by rw[e,Int.mul_one,Nat.zero_add]⟩) (by rw[zG];exact z1)
  simpa [El] using this
 have hz:s.heap.objs.size<=h'.objs.size:=wg (bZ (kp _ _ (fL s.heap rfl)));have I':=I.laid (a:=h'.objs.size) (o:=.tup (El 0 (hi-0).toNat)) (h':=h'.push {cls:=.type "tuple",data:=.seq acc}) (t':=tk') (λb u q=>cM _ (kp b u (cM _ q))) hz (show bM X.prog X.w _ _ _ (.tup (El 0 (hi-0).toNat)) from ⟨by
  rw[hv.length,zG,z1];exact j8 h5 (by decide),acc.toList,hv,⟨_,fL _ rfl,rfl,0,by simp⟩⟩)
 exact⟨⟨_,fL _ rfl,rfl⟩,.ref h'.objs.size,_,I',rfl,q _ (I.hok.fresh hz)⟩
def Jq(vs:List V)(H:Hp)(Q:VK):Prop:=∃j:Int,vs=[.int j]/\okR 0 j=true/\∀l,H l=none->Q (.ref l) (upd H l (.tup (El 0 (j-0).toNat)))
theorem zlW{e:Expr}{t:TA}{p p' pos pos':Pos}(hc:X.aj=true)(hg:Gl X "tuple")(hm:X.mg "tuple"=none)(S7:Gl X "range")(Mq:X.mg "range"=none)(ha:PA X [e] t)(he:starEach [e] X.env=(false,eval e X.env)::starEach [] X.env:=by rfl) :
  PE X (.Call (.Name "tuple" p) [.Call (.Name "range" p') [e] [] pos'] [] pos) (PX Jq t):=by
 intro ao s Z H Q I h;refine CG (wA I hg hm Lz ?_);refine zx ?_ rfl rfl;show wpAny _ _ (spliced ((false,eval (.Call (.Name "range" p') [e] [] pos') X.env)::backTo pos (starEach [] X.env))) _ _ s;refine Calls.spliced_cons ?_;refine CG (wA I S7 Mq boot_range ?_);refine zx (aU (ha pos' ao s Z H _ I h) λus s1 ⟨vs,H1,I1,r1,q1⟩=>?_) he rfl;obtain⟨j,rfl,hk,q⟩:=q1;cases r1 with
 |cons r rr=>
  cases rr;obtain⟨t,rfl⟩:=r;exact call_range_1 (Calls.spliced_nil (zci hc I1 hk q))
theorem zlc{e:Expr}{te:TE}(h:PE X e te)(he:∀whole,isTrue e X.env whole=(do let v <-whole;standAt e.pos;holding [v] (truthy v))):PT X e (λZ H Q=>te Z H λx H1=>∃k,Ak X.K x H1 k/\Q k H1):=by
 intro ao s Z H Q I hw;exact isTrue_plain (aU (h ao s Z H _ I hw) λv s1 hx=>eU hx λx H1 I1 r1 q1=>zlP ao s1 Z H1 x v Q I1 r1 q1) (he _)
end
section
variable {K:W.Frag}{cA:Cl}{U:Ph}{H:Hp}
theorem zlJ:bH K cA .Dv Jq:=by
 intro U H ds vs Q zt rs o;have o:bG K cA U H (Bk ds) Q:=o;unfold Bk at o;split at o
 ·rename_i j _;obtain⟨v,rfl,r1⟩:=rs.one;cases (show Rep K cA U H (.int j) v from r1);by_cases hk:okR 0 j=true
  ·rw[if_pos hk] at o;exact⟨j,rfl,hk,λl hl=>o.tup zt (Zg _) hl⟩
  ·rw[if_neg hk] at o;exact o.elim
 ·exact o.elim
end
section
variable {X:Cx}{cA:Cl}{aq:Nat->Nat->Bool}{aj:Bool}{F:Fn}{EX:XS}{a e:Expr}{A:E}{pos pos' p p':Pos}{Xs:Es}{fz:Bool}
theorem znE(hc:X.aj=true)(hm:X.mg "tuple"=none)(hg:JK X "tuple" .globalImplicit)(Mq:X.mg "range"=none)(S7:JK X "range" .globalImplicit)(ha:JA X cA aq aj F EX [e] Xs)(he:aF e=true:=by rfl):JE X cA aq aj F EX (.Call (.Name "tuple" p) [.Call (.Name "range" p') [e] [] pos'] [] pos) (.pr fz .Dv Xs):=⟨PE.weak (zlW hc hg.o hm S7.o Mq ha.o (bI he)) λZ H Q hh=>un hh λU J s hL hS h=>
 pZ hL hS h λvs H1 U1 ds s1 x1 hL1 aJ r1 h1=>by
  obtain⟨ds,rs,h3⟩:=uh aJ r1 h1;exact zlJ U1 H1 ds _ _ aJ.zs rs (sI aJ h3)⟩
theorem znV(ha:JE X cA aq aj F EX a A)(he:yO a=true:=by rfl):JT X cA aq aj F EX a (.Dw A):=⟨PT.weak (zlc ha.o (by cases a<;>first|(intro _;rfl)|cases he)) λZ H Q hh=>un (Y6 hh) λU J s hL hS h=>by
 refine aZ hL hS h λx H1 U1 d1 s1 x1 hL1 aJ r1 h1=>?_;obtain⟨dd,rv,h2⟩:=Lp aJ r1 h1;obtain⟨bb,e,h3⟩:=Bs h2;obtain⟨c,ec,q⟩:=h3.bL aJ _ (.d (.bl bb));cases ec;exact⟨bb,zms rv e,q⟩⟩
end
def gY(h:Heap)(items:Array Value)(rows:List (List Int))(no:List Addr):Prop:=∀i v,items[i]?=some v->∃a xs,v=.ref a/\IsTup h a xs/\IntsAre xs.toList (rows.getD i [])/\a∉no
theorem gY.keep{h h':Heap}{items:Array Value}{rows:List (List Int)}{no:List Addr}(g:gY h items rows no)(k:∀b o,b∉no->h.get? b=some o->h'.get? b=some o):gY h' items rows no:=λi v e=>by
 obtain⟨a,xs,e1,⟨o,e2,r⟩,e3,e4⟩:=g i v e;exact⟨a,xs,e1,⟨o,k a o e4 e2,r⟩,e3,e4⟩
noncomputable abbrev vU(rows:List (List Int))(i j:Nat):Bool:=HT.lexLt (rows.getD i []) (rows.getD j [])
section
variable {prog:Program}{w:World}{A:Around}{R:Result->Shared->Prop}{I S l:Addr}{items:Array Value}{rows:List (List Int)}
theorem zjR{s:Shared}{i j:Nat}{u v:Value}{Q:Value->Shared->Prop}{E:Value->Shared->Prop}(hu:A.units<cLine)(g:gY s.heap items rows [I,S])(h1:items[i]?=some u)(h2:items[j]?=some v)(q:Q (.bool (vU rows i j)) s):wpAny (model prog w) A (richCompare .Lt u v) Q E s:=by
 obtain⟨a,xs,rfl,p1,i1,_⟩:=g i u h1;obtain⟨b,ys,rfl,p2,i2,_⟩:=g j v h2;exact HT.jN p1 p2 i1 i2 hu q
theorem zfn(hh:A.handled=none)(hu:A.units+1<cLine)(hlI:l≠I)(hS:S∉[I,l]):∀(k j:Nat) (s:Shared) (vb:Value) (c:Nat),items.size-(j+1)=k->j+1<=items.size->(s.heap.IsListIter I l (j+1)/\s.heap.IsList l items)->items[argBest (vU rows) j]?=some vb->gY s.heap items rows [I,S]->
  s.heap.get? S=some (seqObj "list" #[vb,vb] c)->(∀v h' tk,items[argBest (vU rows) (items.size-1)]?=some v->(∀b o,b∉[I,S]->s.heap.get? b=some o->h'.get? b=some o)->R (.ok (.ret v)) {s with heap:=h',toks:=tk})->
  codeAny (model prog w) A (.builtin "min.loop" ⟨[.ref I,.none,.ref S],[]⟩) R s:=by
 have W:=Walks.list (prog:=prog) (w:=w) (A:=A.in1) hh I l hlI items;have nm:(toString "min"++toString ".loop" : String)="min.loop":=by decide
 have SI:S∉[I]:=λz=>hS (by simp at z;simp[z]);intro k
 induction k with
 |zero=>
  intro j s vb c e1 e2 st hb g oS q;refine FJ F.entry_min_loop ?_;rw[Fq zN _];refine aB (m:=seqItems? (.ref S)) (rz oS rfl ?_);refine aB (m:=tryCatch (pyNext (.ref I)) _) (wpAny_tryCatch (W.done s _ _ ((show j+1=items.size by lia)▸st) λh' tk kp=>?_));refine aB (m:=updateSeq S λ_=>#[]) (wpAny_updateSeq (kp S _ SI oS) rfl (aB (zT (aN (q vb _ tk ?_ λb o hb e=>?_)))))
  ·rw[show items.size-1=j by lia];exact hb
  ·exact(vX _ _ (λz=>hb (by simp[z]))).trans (kp b o (λz=>hb (by simp at z;simp[z])) e)
 |succ k ih=>
  intro j s vb c e1 e2 st hb g oS q;refine FJ F.entry_min_loop ?_;rw[Fq zN _];refine aB (m:=seqItems? (.ref S)) (rz oS rfl ?_);refine aB (m:=tryCatch (pyNext (.ref I)) _) (wpAny_tryCatch (W.item (j+1) s _ _ (by lia) st λv h' tk hP st' kp=>?_));have S8:=kp S _ SI oS;have g':gY h' items rows [I,S]:=g.keep λb o hb e=>kp b o (λz=>hb (by simp at z;simp[z])) e;refine aB (m:=tryCatch (holding [v,v] (richCompare .Lt v vb >>= _)) _) (wpAny_tryCatch (qu (aB (zjR (A:=A.in1) (s:={s with heap:=h',toks:=tk}) hu g' hP hb ?_))));refine aB (qu (u9 (aB (zT (aN ?_)))));cases e3:vU rows (j+1) (argBest (vU rows) j) with
  |true=>
   simp only[if_true];refine aB (wpAny_updateSeq S8 rfl (aB (zT ?_)));rw[nm];have Eu:∀b o,b≠S->h'.get? b=some o->(h'.update S (Obj.mapSeq λ_=>#[v,v])).get? b=some o:=λb o hb e=>(vX _ _ (Ne.symm hb)).trans e;refine aN ⟨FT zN _,ih (j+1) _ v _ (by lia) (by lia) (W.frame _ _ _ st' λb hb o e=>Eu b o (λz=>hS (by rw[<-z];exact hb)) e) (by simp only[argBest,e3,if_true];exact hP) (g'.keep λb o hb e=>Eu b o (λz=>hb (by simp[z])) e) (zB _ S8 rfl) λv' h2 tk2 Jr Js=>q v' h2 tk2 Jr λb o hb e=>Js b o hb (Eu b o (λz=>hb (by simp[z])) (kp b o (λz=>hb (by simp at z;simp[z])) e))⟩
  |false=>
   simp only[u6,qw];refine aB (zT ?_);rw[nm];exact aN ⟨FT zN _,ih (j+1) _ vb c (by lia) (by lia) st' (by simp only[argBest,e3,u6,qw];exact hb) g' S8 λv' h2 tk2 Jr Js=>q v' h2 tk2 Jr λb o hb e=>Js b o hb (kp b o (λz=>hb (by simp at z;simp[z])) e)⟩
theorem zfe{s:Shared}{E:Value->Shared->Prop}{Q:Value->Shared->Prop}(hh:A.handled=none)(hu:A.units+2<cLine)(hl:s.heap.IsList l items)(h0:0<items.size)(g:gY s.heap items rows [])
  (q:∀v h' tk,items[argBest (vU rows) (items.size-1)]?=some v->(∀b o,s.heap.get? b=some o->h'.get? b=some o)->Q v {s with heap:=h',toks:=tk}):wpAny (model prog w) A (PySem.call (.builtin "min") [.ref l]) Q E s:=by
 have nm:(toString "min"++toString ".loop" : String)="min.loop":=by decide
 have dF:l<s.heap.objs.size:=by obtain⟨o,e,_⟩:=hl;exact bZ e
 refine call_function_tree F.kind_min F.plain_min F.entry_min (F.args_min1 _) ?_;refine aB (m:=Builtin.Builtins.bindParams "min" ["key","default"] 0 ⟨[],[]⟩) (C_ (show Builtin.Builtins.bindParams "min" ["key","default"] 0 ⟨[],[]⟩=pure [none,none] from rfl) (aB (aN ?_)));refine aB (Ke hl (aB (o9 ?_)));rw[nm];have n1:(s.heap.push {cls:=.type "list_iterator",data:=.fields #[.ref l,.int 0 0]}).objs.size=s.heap.objs.size+1:=vg ..;refine aN ⟨FT zN _,?_⟩;refine FJ F.entry_min_loop ?_;rw[Fq zN _];have W:=Walks.list (prog:=prog) (w:=w) (A:=A.in1) hh s.heap.objs.size l (dN dF) items;have oS:((s.heap.push {cls:=.type "list_iterator",data:=.fields #[.ref l,.int 0 0]}).push (seqObj "list" #[] 0)).get? (s.heap.objs.size+1)=some (seqObj "list" #[] 0):=by rw[<-n1];exact fL _ rfl
 have k0:∀b o,s.heap.get? b=some o->((s.heap.push {cls:=.type "list_iterator",data:=.fields #[.ref l,.int 0 0]}).push (seqObj "list" #[] 0)).get? b=some o:=λb o e=>cM _ (cM _ e);rw[n1];refine aB (m:=seqItems? (.ref (s.heap.objs.size+1))) (rz oS rfl ?_);refine aB (m:=tryCatch (pyNext (.ref s.heap.objs.size)) _) (wpAny_tryCatch (W.item 0 _ _ _ h0 ⟨⟨_,cM _ (fL _ rfl),rfl,rfl⟩,hl.at λo e=>k0 l o e⟩ λv h' tk hP st' kp=>?_));have ne1:s.heap.objs.size+1∉[s.heap.objs.size]:=by simp
 refine aB (m:=updateSeq (s.heap.objs.size+1) λ_=>#[v,v]) (wpAny_updateSeq (kp _ _ ne1 oS) rfl ?_);rw[nm];have Eu:∀b o,b≠s.heap.objs.size+1->h'.get? b=some o->(h'.update (s.heap.objs.size+1) (Obj.mapSeq λ_=>#[v,v])).get? b=some o:=λb o hb e=>(vX _ _ (Ne.symm hb)).trans e;have Jt:∀b o,s.heap.get? b=some o->(h'.update (s.heap.objs.size+1) (Obj.mapSeq λ_=>#[v,v])).get? b=some o:=λb o e=>Eu b o (dN (u_ (bZ e))) (kp b o (by simpa using dN (bZ e)) (k0 b o e));have out:∀b o,s.heap.get? b=some o->b∉[s.heap.objs.size,s.heap.objs.size+1]:=λb o e z=>by
  rcases iU.mp z with z|z
  ·exact absurd z (dN (bZ e))
  ·exact absurd (qZ.mp z) (dN (u_ (bZ e)))
 refine aN ⟨FT zN _,zfn (A:=A) (rows:=rows) hh (by lia) (dN dF) (λz=>by
  rcases iU.mp z with z|z
  ·exact absurd z (Nat.succ_ne_self _)
  ·exact absurd (qZ.mp z) (vh (u_ dF))) _ 0 _ v _ rfl h0 (W.frame _ _ _ st' λb hb o e=>Eu b o (λz=>by
  rcases iU.mp hb with y|y
  ·exact absurd (z.symm.trans y) (Nat.succ_ne_self _)
  ·exact absurd (z.symm.trans (qZ.mp y)) (vh (u_ dF))) e) hP ?_ (zB _ (kp _ _ ne1 oS) rfl) λv' h2 tk2 Jr Js=>q v' h2 tk2 Jr λb o e=>Js b o (out b o e) (Jt b o e)⟩
 intro i u e;obtain⟨a,xs,e1,⟨o,e2,r⟩,e3,_⟩:=g i u e;exact⟨a,xs,e1,⟨o,Jt a o e2,r⟩,e3,out a o e2⟩
end
theorem zd7{x:List Int}{rs:List (List Int)}:∀k,k<=rs.length->(x::rs).getD (argBest (vU (x::rs)) k) []=fO x (rs.take k)
 |0,_=>rfl
 |k+1,hk=>by
  have ih:=zd7 (x:=x) (rs:=rs) k (by lia);have app:∀(a b:List (List Int)) (y:List Int),fO y (a++b)=fO (fO y a) b:=λa=>by
   induction a with
   |nil=>intro b y;rfl
   |cons z a ih=>intro b y;exact ih b _
  have ht:rs.take (k+1)=rs.take k++[rs[k]'(by lia)]:=V1 (by lia);have hv:(x::rs).getD (k+1) []=rs[k]'(by lia):=by
   rw[kW,Cv,dO (by lia)];rfl
  rw[ht,app,<-ih];show _=(if ltI (rs[k]'(by lia)) _=true then _ else _);rw[argBest.eq_2,Rp];unfold vU;rw[hv]
  split
  ·exact hv
  ·rfl
theorem zcx{K:W.Frag}{cA:Cl}{U:Ph}{H:Hp}:∀{xs:List D} {rs:List (List Int)} {vs:List V},jP xs=some rs->aC K cA U H xs vs->rs.length=vs.length/\∀(i:Nat) v,vs[i]?=some v->∃a,v=.ref a/\TupAt K U H a ((rs.getD i []).map .int)
 |[],rs,vs,h,r=>by cases h;cases r;exact⟨rfl,λi v e=>by simp at e⟩
 |d::xs,rs,vs,h,r=>by
  cases r with
  |cons q r=>cases q with
   |@tup a ys us t ts=>
    unfold jP at h;cases e1:cF ys with
    |none=>simp only[e1] at h;cases h
    |some is=>cases e2:jP xs with
     |none=>simp only[e1,e2] at h;cases h
     |some rr=>
      simp only[e1,e2] at h;cases h;obtain⟨l,k⟩:=zcx e2 r;refine⟨by simp[l],λi v e=>?_⟩;cases i with
      |zero=>
       simp at e;subst e;refine⟨a,rfl,?_⟩;show TupAt K U H a (is.map V.int);rw[<-show _=is.map V.int from Ls e1 ts];exact t
      |succ i=>exact k i v (by simpa using e)
   |_=>cases h
section
variable {X:Cx}{cA:Cl}{aq:Nat->Nat->Bool}{aj:Bool}{F:Fn}{EX:XS}{e:Expr}{pos p:Pos}{es:List Expr}{Xs:Es}{fz:Bool}
def uR(K:W.Frag)(vs:List V)(H:Hp)(Q:VK):Prop:=∃(l:Addr) (x:List Int) (rs:List (List Int)) (us:List V),vs=[.ref l]/\cT K H l us/\(x::rs).length=us.length/\(∀(i:Nat) v,us[i]?=some v->∃a,v=.ref a/\gw K H a (((x::rs).getD i []).map V.int))/\∀(i:Nat) a,us[i]?=some (.ref a)->(x::rs).getD i []=fO x rs->Q (.ref a) H
theorem zfO:∀{is:List Int} {us:List Value},Vals (is.map V.int) us->IntsAre us is
 |[],_,.nil=>.nil
 |_::is,_,.cons ⟨t,e⟩ r=>by subst e;exact .cons _ t (zfO r)
theorem zgz(hc:X.aj=true)(hu:X.A.units+2<cLine):cO X (.builtin "min") (uR X.K):=by
 intro ao s Z H xs us Q I r ⟨l,x,rs,ws,e,hl,hlen,uU,q⟩;subst e;obtain⟨u,rfl,ru⟩:=Vals.one r;cases (show u=Value.ref l from ru);obtain⟨its,rv,pl,hz⟩:=I.list hl;have hL:=rv.length;have hsz:its.toArray.size=rs.length+1:=by rw[fZ,<-hL,<-hlen];rfl
 refine zfe (rows:=x::rs) (I.ok.hd hc) hu pl.isList (by lia) (λi v e=>?_) λv h' tk hP hk=>?_
 ·have hi:its[i]?=some v:=by simpa using e
  have dF:i<ws.length:=by rw[hL];exact(eO.mp hi).1
  obtain⟨a,ea,ht⟩:=uU i _ (dO dF);obtain⟨v',e1,e2⟩:=rv.get (dO dF);rw[hi] at e1;cases e1;rw[ea] at e2;cases (show v=Value.ref a from e2);obtain⟨xs,rx,p,_⟩:=I.tuple ht;exact⟨a,_,rfl,p,by simpa using zfO rx,by simp⟩
 ·rw[hsz,Nat.add_sub_cancel] at hP;have hi:its[argBest (vU (x::rs)) rs.length]?=some v:=by simpa using hP
  have dF:argBest (vU (x::rs)) rs.length<ws.length:=by rw[hL];exact(eO.mp hi).1
  obtain⟨a,ea,ht⟩:=uU _ _ (dO dF);obtain⟨v',e1,e2⟩:=rv.get (dO dF);rw[hi] at e1;cases e1;rw[ea] at e2;cases (show v=Value.ref a from e2);exact⟨.ref a,H,I.kept (h':=h') (t':=tk) hk,rfl,q _ a ((dO dF).trans (by rw[ea])) (by rw[zd7 rs.length (b_ _),zM])⟩
theorem zjK{K:W.Frag}:bH K cA .rF (uR K):=by
 intro U H ds vs Q zt rs o;have o:bG K cA U H (oh ds) Q:=o;unfold oh at o;split at o
 ·rename_i xs _;obtain⟨v,rfl,rv⟩:=rs.one;obtain⟨a,us,rfl,sq,q⟩ : ∃a us,v=.ref a/\cT K H a us/\aC K cA U H xs us:=rv;split at o
  ·rename_i x r e;obtain⟨l,k⟩:=zcx e q;refine⟨a,x,r,us,rfl,sq,l,λi v ei=>?_,λi b ei hb=>?_⟩
   ·obtain⟨c,e1,e2⟩:=k i v ei;exact⟨c,e1,e2.jh⟩
   ·obtain⟨c,e1,e2⟩:=k i _ ei;cases e1;rw[hb] at e2;have rr:∀is:List Int,aC K cA U H (is.map D.int) (is.map V.int):=λis=>by
     induction is with
     |nil=>exact .nil
     |cons j is ih=>exact .cons (.int j) ih
    exact o.here (.tup e2 (rr _))
  ·exact o.elim
 ·exact o.elim
theorem zmm{k:Nat}(hr:bF k X.A)(hc:X.aj=true)(hm:X.mg "min"=none)(hg:JK X "min" .globalImplicit)(ha:JA X cA aq aj F EX (e::es) Xs)(he:aF e=true:=by rfl)(hpl:es.all aF=true:=by rfl):JE X cA aq aj F EX (.Call (.Name "min" p) (e::es) [] pos) (.pr fz .rF Xs):=⟨yK (zgz hc (by have:=hr.un;lia)) zjK hg.o hm PyProof.Rows.boot_min ha.o (by decide) (by decide) (bI he) (bD hpl)⟩
end
end Mi
namespace Mi
open PySem PySem.Spec PyProof.Rows L2 PySem.W
section
variable {X:Cx}
end
section
variable {K:W.Frag}{cA:Cl}{U:Ph}{H:Hp}
end
end Mi
namespace PySem
open Builtin
end PySem
namespace Mi
open PySem PySem.Spec PyProof.Rows L2 PySem.W
section
variable {K:W.Frag}{cA:Cl}{U:Ph}{H:Hp}
end
section
variable {X:Cx}
end
section
variable {K:W.Frag}{cA:Cl}{U:Ph}{H:Hp}{Q:VK}
end
section
variable {X:Cx}{cA:Cl}{aq:Nat->Nat->Bool}{aj:Bool}{F:Fn}{EX:XS}{e:Expr}{pos p:Pos}{es:List Expr}{Xs:Es}{fz:Bool}
end
section
variable {X:Cx}
end
section
variable {X:Cx}{cA:Cl}{aq:Nat->Nat->Bool}{aj:Bool}{F:Fn}{EX:XS}{o i a:Expr}{O bJ A:E}{apos cpos:Pos}
end
noncomputable def gZ(K:Frag)(C:Addr)(m:Str):Addr:=match lE K C m with
 |some p=>p.1
 |none=>0
noncomputable def jE(K:Frag)(C:Addr)(m:Str)(st:Stmt):FuncData:=match lE K C m with
 |some p=>p.2
 |none=>Di m m st
theorem zke{fd:FuncData}{m q:Str}{st:Stmt}(h:nH fd=Di m q st):fd=fnOf m q (aY st) (aK st) (au st) .none fd.kwdefaults fd.doc fd.pyModule fd.annotations fd.code fd.closureTuple:=by
 cases fd;unfold nH Di at h;cases h;rfl
theorem znG{K:Frag}{C:Addr}{m q:Str}{st:Stmt}(h:(lE K C m).map (λp=>nH p.2)=some (Di m q st)):oJ K m q st (gZ K C m) (jE K C m st)/\Meth K C m (gZ K C m):=by
 cases e:lE K C m with
 |none=>rw[e] at h;cases h
 |some p=>
  rw[e] at h;have hp:nH p.2=Di m q st:=cL h;have h1:gZ K C m=p.1:=by unfold gZ;rw[e]
  have h2:jE K C m st=p.2:=by unfold jE;rw[e]
  rw[h1,h2];unfold lE at e;split at e
  ·rename_i f hf;split at e
   ·rename_i oc od fd sl hl;split at e
    ·rename_i hc;cases e;simp only[gQ] at hc;have eq:fd=_:=zke hp;have qn:fd.qualname=q:=by rw[eq]
     exact⟨⟨⟨oc,od,_,_,_,_,_,_,sl,eq,hl,by rw[<-qn];exact hc.1.1⟩,hc.1.2⟩,hf,hc.2,hc.1.2⟩
    ·cases e
   ·cases e
  ·cases e
structure qU(fs:List (Str×Stmt))(ms:List sZ)(xs:List (Nat×Str))(l:Lk)(b:Bd)(K:Frag):Prop where
 i:oO fs ms xs l K
 m:∀p∈b.ms,oJ K p.1 p.2.1 p.2.2 (gZ K (dR K b.n) p.1) (jE K (dR K b.n) p.1 p.2.2)/\Meth K (dR K b.n) p.1 (gZ K (dR K b.n) p.1)
 b:yp K b=true
noncomputable def lR(fs:List (Str×Stmt))(ms:List sZ)(xs:List (Nat×Str))(l:Lk)(b:Bd):Hook where
 α:=(List (Option FuncData)×List (Option FuncData)×Bool)×(List (Option FuncData)×Bool)
 obs:=λs=>(lY fs ms xs l s,zW b s)
 val:=λw=>(nJ fs ms w,zX b)
 says:=λ_ h=>∃K:Frag,K.In h/\qU fs ms xs l b K
 of:=λw s e=>by
  have e0:lY fs ms xs l s=nJ fs ms w:=lW Prod.fst e;have e4:zW b s=zX b:=lW Prod.snd e;have e3:(_&&_&&_)=true:=lW (λx=>x.2.2) e0;rw[gQ,gQ,fu,fu] at e3;refine⟨bT s.heap,zhr,⟨λp hp=>?_,Kab e3.1.1,λm hm=>?_,e3.1.2,λx hx=>znK (e3.2 x hx)⟩,λp hp=>?_,lW Prod.snd e4⟩
  ·exact zng (Oj.mp (lW Prod.fst e0) p hp)
  ·exact zm2 (Oj.mp (lW (λx=>x.2.1) e0) m hm)
  ·exact znG (Oj.mp (lW Prod.fst e4) p hp)
 keeps:=λw h h' ⟨K,X,Y⟩ k=>⟨K,X.keeps k,Y⟩
theorem Ju{l:OpenLaw}{k:Nat}{q:Program}{loose:List Str}{XP:(Str->Option Value)->Heap->Prop}{fs:List (Str×Stmt)}{ms:List sZ}{xs:List (Nat×Str)}{lk:Lk}{b:Bd}{d:DefRec}{x:Str}(hn:l.most=some 63)(Ql:d.params.defaults=[])(hr:bF k callerA)
  (F:∀(w:World) (K:Frag) (mg:Str->Option Value) (fa:Addr) (h:Heap),qU fs ms xs lk b K->K.In h->h.Ns mainGlobals mg->mg d.name=some (.ref fa)->
   ∃fd:FuncData,(∀(s:Shared) (u:Value),BindsTo s fd ⟨[u],[]⟩ [(x,u)])/\∀base:Heap,K.In base->base.Ns mainGlobals mg->cD l.prog w K mg base (gJ l.prog w) true k fa fd [x] (uE K)) :
  WalkO q loose XP (lR fs ms xs lk b).says l.row.toRowW d [] (λf vs=>PySem.call f vs):=by
 refine W5.nY hn Ql λw s₀ s₁ mg mb fa o pm cd doc a vs ns G Y ho hd j_ hmg Aw hints hlen hg=>?_;obtain⟨K,KX,SY⟩:=Y;obtain⟨fd,hb,hF⟩:=F w K mg fa _ SY KX G.T.g hmg;exact zg2 KX G.T.g G.T.b G.T.builtins G.T.nolimit hg Aw hints (j8 hlen (by decide)) hr hF hb (λH hO hS=>⟨a,ns,rfl,hS,hlen,hO,λ_=>rfl⟩) λH e s' h=>by
  obtain⟨_,_,_,_,_,_,_,_,_,_,z⟩:=h;exact z
section
variable {K:Frag}{b:Bd}
theorem zni{cA:Cl}(h:yp K b=true)(hb:cA.b 0=dR K b.n)(hg:cA.g 0=b.fs)(nd:b.fs.Nodup):Ow K cA 0:=by
 unfold yp at h;simp only[gQ,pD,fu] at h;obtain⟨⟨⟨⟨⟨⟨⟨h1,h2⟩,h3⟩,h4⟩,h5⟩,h6⟩,h7⟩,h8⟩:=h;exact⟨by rw[hb];exact⟨h2,h3,h4,h5⟩,λf hf=>by rw[hb];rw[hg] at hf;exact h8 f hf,by rw[hg];exact nd⟩
theorem zny{f:Addr}(h:yp K b=true)(m:Meth K (dR K b.n) "__init__" f):Mk K (dR K b.n) f:=by
 unfold yp at h;simp only[gQ,pD,fu] at h;exact⟨h.1.1.2,m.at_,m.fn,h.1.2⟩
theorem znH{h:Heap}{mg:Str->Option Value}(z:yp K b=true)(X:K.In h)(G:h.Ns mainGlobals mg):mg b.n=some (.ref (dR K b.n)):=by
 unfold yp at z;simp only[gQ] at z;exact zm6 z.1.1.1.1.1.1.1 X G
end
theorem bF.made{k:Nat}{A:Around}(r:bF (k+1) A)(env:Env)(C:Addr)(us:List Value):bF k ((A.deeper env).under (.builtin "type.__call__" ⟨.ref C::us,[]⟩)):=
 ⟨by have:=r.dp;rw[ze2];show A.depth+1+1+3*k+5<_;lia,by have:=r.un;rw[ze4];show A.units+3+1+16*k+200<_;lia,by
  have e:(A.deeper env).guards=some []:=r.gd;rw[<-e];cases h:(A.deeper env).guards<;>simp[Around.under,pushGuards,Code.guards,Code.isGuard,guardIds,h]⟩
section
variable {P:Program}{w:World}{K:Frag}{mg:Str->Option Value}{base:Heap}{cA:Cl}{aq:Nat->Nat->Bool}{T:Nat->Option Df}{x m q:Str}{st:Stmt}{ps:List Str}{k n:Nat}{cm:Bool}{df:Df}{C fa:Addr}{fd:FuncData}
theorem fM(D:Mt K C m q st ps fa fd)(N:List Str)(hT:T n=some df)
  (hb:∀(cdv:Value) (A:Around) (outer:List Env) (s:Shared) (H:Hp) (E:XK),bF k (A.deeper (envOfC q (au st) s.heap.objs.size fa cdv))->
   JB (gA (gJ P w) P w K mg base N q (au st) fa cdv A outer s H E cm) cA aq cm (λc=>call aq T k c) (λ_ C dx H'=>E C dx H') (aK st) df.body) (S:cU N ps (au st):=by exact⟨rfl,rfl,rfl,dk,rfl,dk,dk⟩) (hp:df.iC=ps.length:=by rfl) (hm:df.many=N.length:=by rfl) :
  cD P w K mg base (gJ P w) cm (k+1) fa fd ps (lN K cA (call aq T (k+1) cm n)):=YZ D.fn S hT hp hm hb
theorem zg4{c:Nat}:cD P w K mg base (gJ P w) cm 0 fa fd ps (Mu K cA c (call aq T 0 cm n)):=
 ⟨λvs H Q E ⟨_,_,_,_,_,_,_,_,_,_,_,_,_,_,h⟩=>h.elim,λA outer s H args us vs Q E _ _ _ _ _ ⟨_,_,_,_,_,_,_,_,_,_,_,_,_,_,h⟩=>h.elim⟩
theorem fR(D:D3 K mg x st ps)(N:List Str)(hT:T n=some df)
  (hb:∀(cdv:Value) (A:Around) (outer:List Env) (s:Shared) (H:Hp) (E:XK),bF (k+1) A->
   JB (gA (gJ P w) P w K mg base N x (au st) (iG K x) cdv A outer s H E cm) cA aq cm (λc=>call aq T k c) (λ_ C dx H'=>E C dx H') (aK st) df.body) (S:cU N ps (au st):=by exact⟨rfl,rfl,rfl,dk,rfl,dk,dk⟩) (hp:df.iC=ps.length:=by rfl) (hm:df.many=N.length:=by rfl) :
  cD P w K mg base (gJ P w) cm (k+1) (iG K x) (fdOf K x st) ps (lN K cA (call aq T (k+1) cm n)):=YC D.f S hT hp hm λcdv A outer s H E hr=>(hb cdv A outer s H E hr).o
theorem S9{p p2:Str}(h:oJ K m q st fa fd/\Meth K C m fa)(hb:∀(kV doc pm:Value) (an:Option Addr) (cdv ct a b:Value),bindArgs (fnOf m q (aY st) (aK st) (au st) .none kV doc pm an cdv ct) ⟨[a,b],[]⟩=pure [(p,a),(p2,b)]:=by intros;rfl):Mt K C m q st [p,p2] fa fd:=⟨h.1,h.2,by
 obtain⟨oc,od,kV,doc,pm,an,cdv,ct,osl,rfl,lk,j_⟩:=h.1.ex;exact uF (hb kV doc pm an cdv ct)⟩
theorem zn7{p p2 p3:Str}(h:oJ K m q st fa fd/\Meth K C m fa)(hb:∀(kV doc pm:Value) (an:Option Addr) (cdv ct a b c:Value),bindArgs (fnOf m q (aY st) (aK st) (au st) .none kV doc pm an cdv ct) ⟨[a,b,c],[]⟩=pure [(p,a),(p2,b),(p3,c)]:=by intros;rfl):Mt K C m q st [p,p2,p3] fa fd:=⟨h.1,h.2,by
 obtain⟨oc,od,kV,doc,pm,an,cdv,ct,osl,rfl,lk,j_⟩:=h.1.ex;exact uG (hb kV doc pm an cdv ct)⟩
theorem zoo{p p2 p3 p4:Str}(h:oJ K m q st fa fd/\Meth K C m fa)(hb:∀(kV doc pm:Value) (an:Option Addr) (cdv ct a b c d:Value),bindArgs (fnOf m q (aY st) (aK st) (au st) .none kV doc pm an cdv ct) ⟨[a,b,c,d],[]⟩=pure [(p,a),(p2,b),(p3,c),(p4,d)]:=by intros;rfl):Mt K C m q st [p,p2,p3,p4] fa fd:=⟨h.1,h.2,by
 obtain⟨oc,od,kV,doc,pm,an,cdv,ct,osl,rfl,lk,j_⟩:=h.1.ex;exact uH (hb kV doc pm an cdv ct)⟩
end
end Mi
namespace Mi
open PySem
theorem Ce{α:Type}{l:List α}{g:α->Option D}:l.filterMap g=[]↔∀x∈l,g x=none:=by
 rw[List.filterMap_eq_nil_iff]
end Mi
namespace Mi
open PySem Ts
theorem zdr{α:Type}{q:α->Bool}:∀l:List α,l.length=(l.filter q).length+(l.filter λx=>!q x).length
 |[]=>rfl
 |x::l=>by
  have:=zdr (q:=q) l;simp only[Fz];cases q x<;>simp<;>lia
theorem zlS{ps:List (Int×Int)}{n:Int}(h1:1<=n)(h8:n<=8)(ht:∀p∈ps,0<=p.1/\p.1<p.2/\p.2<n)(hi:ps.Pairwise lx):(ps.length:Int)<=7*n:=by
 have key:∀m:Nat,∀qs:List (Int×Int),(∀p∈qs,0<=p.1/\p.1<(m:Int)/\p.1<p.2/\p.2<n)->qs.Nodup->(qs.length:Int)<=7*m:=by
  intro m
  induction m with
  |zero=>
   intro qs hq _;cases qs with
   |nil=>simp
   |cons p r=>have:=hq p (by simp);lia
  |succ m ih=>
   intro qs hq nd;have h1:=ih (qs.filter λp=>decide (p.1<(m:Int))) (λp hp=>by
    obtain⟨a,b⟩:=jK.mp hp;have:=hq p a;have:=gF b
    lia) (nd.filter _)
   have h2:(qs.filter λp=>!decide (p.1<(m:Int))).length<=(([1,2,3,4,5,6,7]:List Int).map λx=>((m:Int),x)).length:=ZK (nd.filter _) (λp hp=>by
    obtain⟨a,b⟩:=jK.mp hp;have:=hq p a;have b:¬p.1<(m:Int):=by simpa using b
    obtain⟨p1,p2⟩:=p;dsimp only at *;have e:p1=(m:Int):=by lia
    subst e;refine pC.mpr ⟨p2,?_,rfl⟩;have:p2=1\/p2=2\/p2=3\/p2=4\/p2=5\/p2=6\/p2=7:=by lia
    simpa using this)
   have h3:=zdr (q:=λp=>decide (p.1<(m:Int))) qs;simp only[cR,f9,CV] at h2
   lia
 have:=key n.toNat ps (λp hp=>by have:=ht p hp;lia) (zhi hi)
 lia
end Mi
namespace Mi
open PySem
end Mi
namespace Mi
open PySem PySem.W L2
end Mi
namespace Mi
open PySem
theorem W.c0{F:List Xv->M Xv}{xs:List Xv}{s:S}{e:D}{P:Xv->S->Prop}(h:W (F (dB 0 xs)) [] λv _=>v=.d e)(k:P (.d e) s)(hl:locs xs=[]:=by rfl):W (cI F xs) s P:=rW hl (h.imp λ_ _ q=>⟨_,q,k⟩)
theorem W.c1{F:List Xv->M Xv}{xs:List Xv}{s:S}{P:Xv->S->Prop}(h:W (F (dB 0 xs)) [] λv _=>∃d,v=.d d)(k:∀d,P (.d d) s)(hl:locs xs=[]:=by rfl):W (cI F xs) s P:=rW hl (h.imp λ_ _ ⟨d,q⟩=>⟨d,q,k d⟩)
section
variable {s:S}{o o' L L':SO}
theorem g1_:(s++[o]++[L])[s.length]?=some o:=by simp
theorem znP:(s++[o]++[L]).set s.length o'=s++[o']++[L]:=by simp
theorem Kaq{F:List Xv->M Xv}{xs:List Xv}{P:Xv->S->Prop}(hl:locs xs=[s.length])(h:W (F (dB 0 xs)) [o] λv s1=>∃d o',v=.d d/\s1=[o']/\P (.d d) (s++[o']++[L])):W (cI F xs) (s++[o]++[L]) P:=by
 refine Ss (n:=s.length) (o:=o) hl g1_ (h.imp λv s1=>?_);rintro⟨d,o',rfl,rfl,hp⟩;exact⟨d,o',rfl,rfl,by rw[znP];exact hp⟩
end
section
variable {n k x y:Int}{r:List Int}
end
section
variable {n m:Int}{ps qs:List (Int×Int)}{x:D}{hs:List Int}
end
section
variable {aq:Nat->Nat->Bool}{F:Fn}{J:Vs}{s:S}{P:Xv->S->Prop}
end
noncomputable abbrev Fr:=List (Option (List Int))
noncomputable def bf:Option (List Int)->D
 |none=>.non
 |some l=>.tup (l.map .int)
noncomputable def cellK:Option (List Int)->Kx
 |none=>.non
 |some l=>.row l
noncomputable def jo(F:Fr):D:=.tup (F.map bf)
theorem S_:∀l:List Int,cF (l.map .int)=some l
 |[]=>rfl
 |i::l=>by show Option.map _ (cF (l.map .int))=_;rw[S_ l];rfl
theorem Mx(F:Fr):kOf (jo F)=some (F.map cellK):=by
 show Br (F.map bf)=_
 induction F with
 |nil=>rfl
 |cons c F ih=>
  have e:ud (bf c)=some (cellK c):=by
   cases c with
   |none=>rfl
   |some l=>show Option.map _ (cF (l.map .int))=_;rw[S_];rfl
  simp only[gG,Br,e,ih]
theorem zf7:∀{F G:Fr},F.map cellK=G.map cellK->F=G
 |[],[],_=>rfl
 |[],_::_,h=>by cases h
 |_::_,[],h=>by cases h
 |c::F,e::G,h=>by
  simp only[gG,List.cons.injEq] at h;rw[zf7 h.2]
  congr 1
  have h1:=h.1;cases c with
  |none=>cases e with
   |none=>rfl
   |some _=>cases h1
  |some l=>cases e with
   |none=>cases h1
   |some m=>cases h1;rfl
structure Bo(n k:Nat)(es:Nat->List Int)(A:Int->Int->Bool):Prop where
 hn:n<=8
 hk:k<=24
 mem:∀i,i<n->∀e∈es i,0<=e/\e<n/\e≠i
 sym:∀i e:Nat,i<n->e<n->(e:Int)∈es i->(i:Int)∈es e
 len:∀i,i<n->(es i).length<=8
 Tc:∀a b:Int,0<=a->a<k->0<=b->b<k->A a b=A b a
structure Fv(n k:Nat)(F:Fr):Prop where
 len:F.length=n
 lo:∀(i:Nat) L,F[i]?=some (some L)->∀x∈L,0<=x/\x<k
 ll:∀(i:Nat) L,F[i]?=some (some L)->L.length<=24
 so:∀(i:Nat) L,F[i]?=some (some L)->L.Pairwise (·<·)
structure oU(es:Nat->List Int)(A:Int->Int->Bool)(F:Fr)(g:Nat->Int):Prop where
 mem:∀(i:Nat) L,F[i]?=some (some L)->g i∈L
 fit:∀(i e:Nat) L M,F[i]?=some (some L)->F[e]?=some (some M)->(e:Int)∈es i->A (g i) (g e)=true
def Sat(es:Nat->List Int)(A:Int->Int->Bool)(F:Fr):Prop:=∃g,oU es A F g
noncomputable def fW(f:Int->Bool)(F:Fr)(e:Int):Fr:=F.set e.toNat ((F[e.toNat]?.join).map (·.filter f))
noncomputable def settle(es:Nat->List Int)(A:Int->Int->Bool)(F:Fr)(p:Nat)(x:Int):Fr:=(es p).foldl (fW (A x)) (F.set p none)
theorem zes{f:Int->Bool}{F:Fr}{e:Int}:(fW f F e).length=F.length:=pA ..
theorem Td{f:Int->Bool}:∀{l:List Int} {F:Fr},(l.foldl (fW f) F).length=F.length
 |[],F=>rfl
 |e::l,F=>by rw[List.foldl_cons,Td,zes]
theorem zji{f:Int->Bool}{F:Fr}{e:Int}(h0:0<=e)(i:Nat)(hi:i<F.length):(fW f F e)[i]?=if (i:Int)=e then F[i]?.map (Option.map (·.filter f)) else F[i]?:=by
 unfold fW;by_cases z:(i:Int)=e
 ·have:e.toNat=i:=by lia
  rw[if_pos z,this,yc hi,dO hi];rfl
 ·rw[if_neg z,qp (by lia)]
theorem Te{f:Int->Bool}:∀{l:List Int} {F:Fr} (i:Nat),(∀e∈l,0<=e)->i<F.length->(l.foldl (fW f) F)[i]?=if (i:Int)∈l then F[i]?.map (Option.map (·.filter f)) else F[i]?
 |[],F,i,_,hi=>by simp
 |e::l,F,i,h,hi=>by
  rw[List.foldl_cons,Te i (λx hx=>h x (by simp[hx])) (by rw[zes];exact hi),zji (h e (by simp)) i hi];have ff:∀c:Option (Option (List Int)),(c.map (Option.map (·.filter f))).map (Option.map (·.filter f))=c.map (Option.map (·.filter f)):=λc=>by
   cases c with
   |none=>rfl
   |some c=>cases c with
    |none=>rfl
    |some L=>simp
  by_cases a:(i:Int)=e
  ·by_cases b:(i:Int)∈l
   ·rw[if_pos b,if_pos a,if_pos (by simp[b]),ff]
   ·rw[if_neg b,if_pos a,if_pos (by simp[a])]
  ·by_cases b:(i:Int)∈l
   ·rw[if_pos b,if_neg a,if_pos (by simp[b])]
   ·rw[if_neg b,if_neg a,if_neg (by simp[a,b])]
section
variable {n k:Nat}{es:Nat->List Int}{A:Int->Int->Bool}{F:Fr}{p:Nat}{x:Int}{g:Nat->Int}
theorem zcz:(settle es A F p x).length=F.length:=by unfold settle;rw[Td,pA]
theorem zds(B:Bo n k es A)(hF:F.length=n)(hp:p<n)(i:Nat)(hi:i<n):(settle es A F p x)[i]?=if i=p then some none else if (i:Int)∈es p then F[i]?.map (Option.map (·.filter (A x))) else F[i]?:=by
 unfold settle;rw[Te i (λe he=>(B.mem p hp e he).1) (by rw[pA,hF];exact hi)];by_cases e:i=p
 ·subst e;rw[if_pos rfl,if_neg (λz=>(B.mem i hp _ z).2.2 rfl),yc (by rw[hF];exact hi)]
 ·rw[if_neg e,qp (Ne.symm e)]
theorem qW{i:Nat}{c:Option (List Int)}(hF:F.length=n)(h:F[i]?=some c):i<n:=by rw[<-hF];exact(eO.mp h).1
theorem Mz(B:Bo n k es A)(hF:F.length=n)(hp:p<n){i:Nat}{M:List Int}(h:(settle es A F p x)[i]?=some (some M)):i≠p/\∃L,F[i]?=some (some L)/\M=if (i:Int)∈es p then L.filter (A x) else L:=by
 have hi:i<n:=qW (by rw[zcz];exact hF) h;rw[zds B hF hp i hi] at h;by_cases e:i=p
 ·rw[if_pos e] at h;cases h
 ·rw[if_neg e] at h;refine⟨e,?_⟩;by_cases m:(i:Int)∈es p
  ·rw[if_pos m] at h;obtain⟨c,e1,e2⟩:=lV.mp h;cases c with
   |none=>cases e2
   |some L=>cases e2;exact⟨L,e1,by rw[if_pos m]⟩
  ·rw[if_neg m] at h;exact⟨M,h,by rw[if_neg m]⟩
theorem Jv(B:Bo n k es A)(hF:F.length=n)(hp:p<n){i:Nat}{L:List Int}(hi:i≠p)(h:F[i]?=some (some L)):(settle es A F p x)[i]?=some (some (if (i:Int)∈es p then L.filter (A x) else L)):=by
 rw[zds B hF hp i (qW hF h),if_neg hi,h]
 split<;>rfl
theorem Jw(B:Bo n k es A)(v:Fv n k F)(hp:p<n):Fv n k (settle es A F p x):=by
 refine⟨by rw[zcz];exact v.len,λi M h=>?_,λi M h=>?_,λi M h=>?_⟩<;>obtain⟨_,L,e,rfl⟩:=Mz B v.len hp h
 ·intro y hy;refine v.lo i L e y ?_;split at hy
  ·exact(jK.mp hy).1
  ·exact hy
 ·split
  ·exact j8 (Ka _ _) (v.ll i L e)
  ·exact v.ll i L e
 ·split
  ·exact(v.so i L e).filter _
  ·exact v.so i L e
theorem MF(B:Bo n k es A)(v:Fv n k F)(hp:p<n){L:List Int}(hL:F[p]?=some (some L))(s:oU es A F g):oU es A (settle es A F p (g p)) g:=by
 refine⟨λi M h=>?_,λi e M N h1 h2 he=>?_⟩
 ·obtain⟨_,L',e,rfl⟩:=Mz B v.len hp h;have:=s.mem i L' e
  split
  ·exact jK.mpr ⟨this,s.fit p i L L' hL e (by assumption)⟩
  ·exact this
 ·obtain⟨_,L',e1,_⟩:=Mz B v.len hp h1;obtain⟨_,L2,e2,_⟩:=Mz B v.len hp h2;exact s.fit i e L' L2 e1 e2 he
theorem zel(B:Bo n k es A)(v:Fv n k F)(hp:p<n){L:List Int}(hL:F[p]?=some (some L))(hx:x∈L)(s:oU es A (settle es A F p x) g):oU es A F λi=>if i=p then x else g i:=by
 have ap:∀(i:Nat) M,i≠p->F[i]?=some (some M)->(i:Int)∈es p->A x (g i)=true/\(0<=g i/\g i<k):=λi M ni h m=>by
  have h2:=Jv (x:=x) B v.len hp ni h;have:=s.mem i _ h2;rw[if_pos m] at this;exact⟨(jK.mp this).2,v.lo i M h _ (jK.mp this).1⟩
 have hxk:=v.lo p L hL x hx;refine⟨λi M h=>?_,λi e M N h1 h2 he=>?_⟩
 ·by_cases z:i=p
  ·subst z;rw[if_pos rfl];rw[hL] at h;cases h;exact hx
  ·rw[if_neg z];have:=s.mem i _ (Jv (x:=x) B v.len hp z h);split at this
   ·exact(jK.mp this).1
   ·exact this
 ·have li:=qW v.len h1;have le:=qW v.len h2;by_cases z:i=p
  ·subst z;have ne:e≠i:=λq=>(B.mem i li _ he).2.2 (by rw[q]);rw[if_pos rfl,if_neg ne];exact(ap e N ne h2 he).1
  ·by_cases y:e=p
   ·subst y;rw[if_neg z,if_pos rfl];have m:=B.sym i e li le he;obtain⟨q1,q2⟩:=ap i M z h1 m;rw[B.Tc _ _ q2.1 q2.2 hxk.1 hxk.2];exact q1
   ·rw[if_neg z,if_neg y];exact s.fit i e _ _ (Jv (x:=x) B v.len hp z h1) (Jv (x:=x) B v.len hp y h2) he
theorem Ew(B:Bo n k es A)(v:Fv n k F)(hp:p<n){L:List Int}(hL:F[p]?=some (some L)):Sat es A F↔∃x∈L,Sat es A (settle es A F p x):=
 ⟨λ⟨g,s⟩=>⟨g p,s.mem p L hL,g,MF B v hp hL s⟩,λ⟨x,hx,g,s⟩=>⟨_,zel B v hp hL hx s⟩⟩
noncomputable def dD(es:Nat->List Int)(F:Fr)(p:Nat):Nat:=((es p).filter λe=>(F[e.toNat]?.join).isSome).length
noncomputable def bnd(es:Nat->List Int)(F:Fr):Fr:=F.mapIdx λi c=>if 0<dD es F i then c else none
theorem ziE{i:Nat}:(bnd es F)[i]?=F[i]?.map λc=>if 0<dD es F i then c else none:=by unfold bnd;rw[List.getElem?_mapIdx]
theorem Cg{i:Nat}{L:List Int}(h:(bnd es F)[i]?=some (some L)):F[i]?=some (some L)/\0<dD es F i:=by
 rw[ziE] at h;obtain⟨c,e1,e2⟩:=lV.mp h;split at e2
 ·subst e2;exact⟨e1,by assumption⟩
 ·cases e2
theorem zio(v:Fv n k F):Fv n k (bnd es F):=⟨by unfold bnd;rw[List.length_mapIdx];exact v.len,λi L h=>v.lo i L (Cg h).1,λi L h=>v.ll i L (Cg h).1,λi L h=>v.so i L (Cg h).1⟩
theorem zeL{i e:Nat}{L:List Int}(hm:(e:Int)∈es i)(h:F[e]?=some (some L)):0<dD es F i:=by
 unfold dD;refine N_ (a:=(e:Int)) (jK.mpr ⟨hm,?_⟩);rw[nj,h];rfl
theorem zi7(B:Bo n k es A)(v:Fv n k F)(ne:∀(i:Nat) L,F[i]?=some (some L)->L≠[]):Sat es A (bnd es F)↔Sat es A F:=by
 constructor
 ·rintro⟨g,s⟩;have to:∀(i:Nat) L,F[i]?=some (some L)->0<dD es F i->(bnd es F)[i]?=some (some L):=λi L h q=>by rw[ziE,h];show some (if _ then _ else _)=_;rw[if_pos q]
  refine⟨λi=>if 0<dD es F i then g i else ((F[i]?.join).getD []).headD 0,λi L h=>?_,λi e L M h1 h2 he=>?_⟩
  ·by_cases q:0<dD es F i
   ·rw[if_pos q];exact s.mem i L (to i L h q)
   ·rw[if_neg q,h];show L.headD 0∈L;cases L with
    |nil=>exact absurd rfl (ne i [] h)
    |cons a L=>exact lC
  ·have q1:=zeL he h2;have q2:=zeL (B.sym i e (qW v.len h1) (qW v.len h2) he) h1;rw[if_pos q1,if_pos q2];exact s.fit i e L M (to i L h1 q1) (to e M h2 q2) he
 ·rintro⟨g,s⟩;exact⟨g,λi L h=>s.mem i L (Cg h).1,λi e L M h1 h2 he=>s.fit i e L M (Cg h1).1 (Cg h2).1 he⟩
theorem Tf(h:∀(i:Nat) L,F[i]?≠some (some L)):Sat es A F:=⟨λ_=>0,λi L q=>absurd q (h i L),λi _ L _ q=>absurd q (h i L)⟩
theorem zkg{i:Nat}(h:F[i]?=some (some [])):¬Sat es A F:=λ⟨g,s⟩=>nomatch s.mem i [] h
noncomputable def cC(k:Nat):List Int:=(List.range k).map λ(i:Nat)=>(i:Int)
theorem bC{k:Nat}{y:Int}:y∈cC k↔0<=y/\y<k:=by
 unfold cC;rw[pC]
 constructor
 ·rintro⟨i,hi,rfl⟩;have:=vf.mp hi;lia
 ·intro h;exact⟨y.toNat,vf.mpr (by lia),by lia⟩
theorem Ti(B:Bo n k es A)(v:Fv n k F)(hp:p<n)(hk:1<=k)(dw:∀t a b:Int,0<=a->a<k->0<=b->b<k->A ((a+t)%k) ((b+t)%k)=A a b)(all:∀(i:Nat) L,F[i]?=some (some L)->L=cC k)(hL:F[p]?=some (some (cC k))):Sat es A F↔Sat es A (settle es A F p 0):=by
 constructor
 ·rintro⟨g,s⟩;have md:∀z:Int,0<=z%(k:Int)/\z%(k:Int)<k:=λz=>⟨zP _ (by lia),CP _ (by lia)⟩;have s2:oU es A F λi=>(g i + -(g p))%k:=by
   refine⟨λi L h=>?_,λi e L M h1 h2 he=>?_⟩
   ·rw[all i L h];exact bC.mpr (md _)
   ·have a:=bC.mp (all i L h1▸s.mem i L h1);have b:=bC.mp (all e M h2▸s.mem e M h2);show A ((g i + -(g p))%k) ((g e + -(g p))%k)=true;rw[dw _ _ _ a.1 a.2 b.1 b.2];exact s.fit i e L M h1 h2 he
  have:=MF B v hp hL s2;have e0:(g p + -(g p))%(k:Int)=0:=by rw[Int.add_right_neg];rfl
  simp only[e0] at this;exact⟨_,this⟩
 ·intro h;exact(Ew B v hp hL).mpr ⟨0,bC.mpr ⟨by lia,by lia⟩,h⟩
noncomputable def unset(F:Fr):Nat:=F.countP Option.isSome
theorem zdu:unset (bnd es F)<=unset F:=by
 unfold unset bnd;generalize dD es F=f
 induction F generalizing f with
 |nil=>simp
 |cons c F ih=>
  rw[List.mapIdx_cons,CT,CT];have:=ih (λi=>f (i+1));have e:(if (if 0<f 0 then c else none).isSome=true then 1 else 0)<=(if c.isSome=true then 1 else 0):=by
   split<;>split<;>simp_all
  lia
theorem zf9{F:Fr}:∀{p:Nat} {L:List Int},F[p]?=some (some L)->unset (F.set p none)+1=unset F:=by
 unfold unset
 induction F with
 |nil=>intro p L h;simp at h
 |cons c F ih=>
  intro p L h;cases p with
  |zero=>simp at h;subst h;simp
  |succ p=>
   have:=ih (p:=p) (L:=L) (by simpa using h);rw[List.set_cons_succ,CT,CT]
   lia
theorem zgk{f:Int->Bool}{F:Fr}{e:Int}:unset (fW f F e)<=unset F:=by
 unfold unset fW;generalize e.toNat=j
 induction F generalizing j with
 |nil=>simp
 |cons c F ih=>
  cases j with
  |zero=>cases c<;>simp
  |succ j=>
   rw[List.set_cons_succ,CT,CT,Cv];have:=ih j
   lia
theorem zcy{f:Int->Bool}:∀{l:List Int} {F:Fr},unset (l.foldl (fW f) F)<=unset F
 |[],F=>b_ _
 |e::l,F=>j8 (zcy (l:=l)) zgk
theorem Jx{L:List Int}(h:F[p]?=some (some L)):unset (settle es A F p x)+1<=unset F:=by
 have:=zcy (f:=A x) (l:=es p) (F:=F.set p none);have:=zf9 h;unfold settle
 lia
theorem ze7(h:unset F=0)(i:Nat)(L:List Int):F[i]?≠some (some L):=λe=>by
 have:=List.countP_eq_zero.mp h _ (fX e);exact this rfl
def lB(es:Nat->List Int)(A:Int->Int->Bool)(kvs:iR):Prop:=∀F d,cj (F.map cellK) kvs=some d->∃b,d=.bl b/\(b=true↔Sat es A F)
theorem zee{j q:List Kx}{d:D}:∀{kvs:iR},cj j (jy q d kvs)=if j=q then some d else cj j kvs:=by
 intro kvs;unfold jy;have app:∀{r:iR},cj j (r++[(q,d)])=match cj j r with|some e=>some e|none=>if j=q then some d else none:=λ{r}=>by
  induction r with
  |nil=>
   show (if q=j then some d else none)=if j=q then some d else none
   by_cases e:q=j
   ·rw[if_pos e,if_pos e.symm]
   ·rw[if_neg e,if_neg λz=>e z.symm]
  |cons p r ih=>
   rw[List.cons_append];unfold cj;by_cases e:p.1=j
   ·simp[e]
   ·simp only[e,qw];exact ih
 by_cases h:(cj q kvs).isSome=true
 ·rw[if_pos h];by_cases e:j=q
  ·subst e;rw[if_pos rfl]
   induction kvs with
   |nil=>simp[cj] at h
   |cons p r ih=>
    rw[gG];by_cases z:p.1=j
    ·rw[if_pos z];unfold cj;rw[if_pos z]
    ·rw[if_neg z];unfold cj at h ⊢;rw[if_neg z] at h ⊢;exact ih h
  ·rw[if_neg e];clear h
   induction kvs with
   |nil=>rfl
   |cons p r ih=>
    rw[gG];by_cases z:p.1=q
    ·rw[if_pos z];unfold cj;rw[if_neg (λy=>e (y.symm.trans z)),if_neg (λy=>e (y.symm.trans z))];exact ih
    ·rw[if_neg z];unfold cj;by_cases y:p.1=j
     ·rw[if_pos y,if_pos y]
     ·rw[if_neg y,if_neg y];exact ih
 ·rw[if_neg h,app];by_cases e:j=q
  ·subst e;have:cj j kvs=none:=by simpa using h
   simp[this]
  ·rw[if_neg e,if_neg e];cases cj j kvs<;>rfl
theorem zg1{q:List Kx}{d:D}{kvs:iR}:(jy q d kvs).length<=kvs.length+1:=by
 unfold jy
 split
 ·rw[cR];lia
 ·simp
theorem ziR{kvs:iR}{b:Bool}(h:lB es A kvs)(hb:b=true↔Sat es A F):lB es A (jy (F.map cellK) (.bl b) kvs):=λG d e=>by
 rw[zee] at e;by_cases z:G.map cellK=F.map cellK
 ·rw[if_pos z] at e;cases e;rw[zf7 z];exact⟨b,rfl,hb⟩
 ·rw[if_neg z] at e;exact h G d e
end
noncomputable def cnt(k:Nat):Nat->Nat
 |0=>1
 |m+1=>1+k*cnt k m
section
variable {aq:Nat->Nat->Bool}{aj:Bool}{F:Fn}{J:Vs}{s:S}{P:Xv->S->Prop}
theorem W.pU{c:Nat}{fs:List D}{P:List D->S->Prop}(h:P fs s):W (Mi.pU c (.d (.ob c fs))) s P:=by
 show W (if c=c then M.ret fs else M.no) s P;rw[if_pos rfl];exact W.ret h
theorem W.cm{c f:Nat}{o:E}{xs:Es}{fs:List D}{vs:List Xv}(h1:dh aq o J=some (.d (.ob c fs)))(h2:oR aq xs J=some vs)(k:W (cI (F f) (.d (.ob c fs)::vs)) s P):W (ev aq aj F (.cm c f o xs) J) s P:=
 W.bd (W.eq (fj o _ h1) (W.bd (W.pU (W.bd (W.eq (jJ xs h2) (W.qt k))))))
theorem W.rH(h:P (.l s.length) (s++[.dct []])):W (ev aq aj F .rH J) s P:=⟨_,_,rfl,h⟩
theorem W.key{x:D}{kx:List Kx}{P:List Kx->S->Prop}(e:kOf x=some kx)(h:P kx s):W (Mi.key (.d x)) s P:=W.opt e h
theorem W.fP{n:Nat}{kvs:iR}{P:Nat×iR->S->Prop}(e:s[n]?=some (.dct kvs))(h:P (n,kvs) s):W (Mi.fP (.l n)) s P:=⟨_,s,by unfold Mi.fP;simp only[e],h⟩
theorem W.Bc{b:Bool}{k d:E}{x:D}{n:Nat}{kx:List Kx}{kvs:iR}(h1:dh aq k J=some (.d x))(h2:dh aq d J=some (.l n))(e:kOf x=some kx)(hn:s[n]?=some (.dct kvs))(h:P (.d (.bl ((cj kx kvs).isSome==b))) s):W (ev aq aj F (.Bc b k d) J) s P:=
 W.bd (W.eq (fj k _ h1) (W.bd (W.eq (fj d _ h2) (W.bd (W.key e (W.bd (W.fP hn (W.ret h))))))))
theorem W.pP{d k:E}{x v:D}{n:Nat}{kx:List Kx}{kvs:iR}(h1:dh aq d J=some (.l n))(h2:dh aq k J=some (.d x))(e:kOf x=some kx)(hn:s[n]?=some (.dct kvs))(hv:cj kx kvs=some v)(h:P (.d v) s):W (ev aq aj F (.pP d k) J) s P:=
 W.bd (W.eq (fj d _ h1) (W.bd (W.eq (fj k _ h2) (W.bd (W.key e (W.bd (W.fP hn (W.opt (a:=.d v) (by show Option.map _ (cj kx kvs)=_;rw[hv];rfl) h))))))))
theorem W.Dw{a:E}(h:W (ev aq aj F a J) s λx s1=>W (rd x) s1 λd s2=>∃b,wU d=some b/\P (.d (.bl b)) s2):W (ev aq aj F (.Dw a) J) s P:=
 W.bd (h.imp λ_ _ h=>W.bd (h.imp λ_ _ ⟨_,e,h⟩=>W.bd (W.opt e (W.ret h))))
theorem KaM{xs:List D}{P:Src×Nat->S->Prop}(h:P (.fix (enumFrom 0 xs),(enumFrom 0 xs).length) s):W (ou (.d (.tup xs))) s P:=⟨_,s,rfl,h⟩
theorem W.mk{c f:Nat}{xs:Es}{vs:List Xv}{ds:List D}(h:W (evs aq aj F xs J) s λus s1=>us=vs/\P (.d (.ob c ds)) s1)(hl:locs vs=[])(k:W (F f (.d .any::vs)) [] λv _=>v=.d (.tup ds)):W (ev aq aj F (.mk c f xs) J) s P:=by
 refine W.bd (h.imp λus s1 ⟨e,hp⟩=>?_);subst e;obtain⟨v,s2,e1,rfl⟩:=k;refine⟨_,s1,?_,hp⟩;unfold Ra;rw[if_pos hl];simp only[e1]
end
theorem WS.dput{aq:Nat->Nat->Bool}{aj:Bool}{F:Bool->Fn}{J:Vs}{s:S}{Q:Out->S->Prop}{d k v:E}{x:D}{n:Nat}{kx:List Kx}(h1:dh aq d J=some (.l n))(h2:dh aq k J=some (.d x))(e:kOf x=some kx)
  (h:W (ev aq aj (F aj) v J) s λz s1=>∃w kvs,z=.d w/\s1[n]?=some (.dct kvs)/\kvs.length<sizeLine/\Q (.nx J) (s1.set n (.dct (jy kx w kvs)))):WS (ex aq aj F (.dput d k v) J) s Q:=by
 refine WS.ofM (W.bd (h.imp λz s1 ⟨w,kvs,ez,hn,hl,q⟩=>?_));subst ez;refine W.bd (W.dat (W.bd (W.eq (fj d _ h1) (W.bd (W.eq (fj k _ h2) (W.bd (W.key e (W.bd (W.fP hn ?_)))))))));rw[if_pos hl];exact⟨_,_,rfl,WS.nx q⟩
theorem zbC{α:Type}{f:α->D}:∀(l:List α) (j:Nat),enumFrom j (l.map f)=(l.zipIdx j).map λp=>.tup [.int p.2,f p.1]
 |[],j=>rfl
 |a::l,j=>by rw[gG,List.zipIdx_cons,gG,<-zbC l (j+1)];rfl
theorem KaX{o:Option Rz}{xs:List D}{s:S}{P:Xv->S->Prop}(e:o=some (.nw xs))(h:P (.l s.length) (s++[.lst xs])):W (cB false o) s P:=by subst e;exact⟨_,_,rfl,h⟩
theorem ziK{n:Nat}{j:Int}(h0:0<=j)(h:j<n):L2.rE n j=some j.toNat:=by
 unfold L2.rE;rw[if_pos h0,if_pos h]
theorem zjb{n:Nat}{j:Int}(h0:j<0)(h : -(n:Int)<=j):L2.rE n j=some (j+n).toNat:=by
 unfold L2.rE;rw[if_neg (by lia),if_pos h]
theorem zmW{xs:List D}{j:Int}{x:D}(h0:j<0)(h1 : -(xs.length:Int)<=j)(h:xs[(j+xs.length).toNat]?=some x):prim .ix [.fl xs,.int j]=some (.dat x):=by
 show Option.map Rz.dat (L2.qF xs j)=_;have:L2.qF xs j=some x:=by
  unfold L2.qF;rw[zjb h0 h1];exact h
 rw[this];rfl
theorem zhf(F:Fr):memD (.tup []) (F.map bf)=some (decide (some []∈F)):=by
 induction F with
 |nil=>rfl
 |cons c F ih=>
  simp only[gG,memD,ih];cases c with
  |none=>simp[bf,cN,kq]
  |some l=>
   cases l with
   |nil=>
    have:cN 50 (bf (some [])) (.tup [])=some true:=rfl;rw[this];simp
   |cons a l=>
    have:cN 50 (bf (some (a::l))) (.tup [])=some false:=rfl;rw[this];simp
theorem znl{f:Bool->Bool}{F:Fr}:yD f [.tup [],jo F]=some (.dat (.bl (f (decide (some []∈F))))):=by
 show Option.map _ (memD (.tup []) (F.map bf))=_;rw[zhf];rfl
theorem zgv{k':Nat}:∀(a b:List Int),cX (cN k') (a.map D.int) (b.map D.int)=some (decide (a=b))
 |[],[]=>by simp[cX]
 |[],_::_=>by simp[cX]
 |_::_,[]=>by simp[cX]
 |x::a,y::b=>by
  have hi:cN k' (.int x) (.int y)=some (x==y):=by cases k'<;>rfl
  simp only[gG,cX,zgv a b,hi]
  congr 1
  by_cases e:x=y<;>by_cases e2:a=b<;>simp[e,e2]
theorem zl4{f:Bool->Bool}{a b:List Int}:wR f [.tup (a.map .int),.tup (b.map .int)]=some (.dat (.bl (f (decide (a=b))))):=by
 show Option.map _ (cX (cN 49) (a.map D.int) (b.map D.int))=_;rw[zgv];rfl
theorem zdp:∀rs:List (List Int),jP (rs.map λr=>D.tup (r.map .int))=some rs
 |[]=>rfl
 |r::rs=>by simp only[gG,jP,S_,zdp rs]
theorem Tj:∀(rs:List (List Int)) (b:List Int),fO b rs=b\/fO b rs∈rs
 |[],b=>.inl rfl
 |x::r,b=>by
  unfold fO
  split
  ·rcases Tj r x with h|h
   ·rw[h];exact .inr lC
   ·exact .inr (h_ _ h)
  ·rcases Tj r b with h|h
   ·exact .inl h
   ·exact .inr (h_ _ h)
theorem zk6{rs:List (List Int)}(h:rs≠[]):∃r∈rs,prim .rF [.fl (rs.map λr=>D.tup (r.map .int))]=some (.dat (.tup (r.map .int))):=by
 cases rs with
 |nil=>exact absurd rfl h
 |cons x r=>
  refine⟨fO x r,?_,?_⟩
  ·rcases Tj r x with h|h
   ·rw[h];exact lC
   ·exact h_ _ h
  ·show oh [.fl ((x::r).map λr=>D.tup (r.map .int))]=_;unfold oh;simp only[zdp]
theorem znX{n:Nat}(h:n<=65536):prim .Dv [.int n]=some (.dat (.tup ((cC n).map .int))):=by
 show (if okR 0 (n:Int)=true then some (Rz.dat (.tup (Ia 0 ((n:Int)-0).toNat))) else none)=_;rw[if_pos (show okR 0 (n:Int)=true from gq (by lia))];unfold Ia cC;rw[wj,show ((n:Int)-0).toNat=n by lia]
 congr 4
 funext i
 simp
noncomputable def Cj(n:Nat)(es:Nat->List Int):List D:=(List.range n).map λi=>.tup ((es i).map .int)
noncomputable def uV(k:Nat)(A:Int->Int->Bool):List D:=(List.range k).map λ(a:Nat)=>.fl ((List.range k).map λ(b:Nat)=>.bl (A a b))
noncomputable def jd(al:Bool)(n k:Nat)(es:Nat->List Int)(A:Int->Int->Bool):D:=.ob 0 [.fl (Cj n es),.tup ((cC k).map .int),.fl (uV k A),.bl al]
noncomputable abbrev Tn(n k:Nat)(es:Nat->List Int)(A:Int->Int->Bool):D:=jd true n k es A
theorem Tq{n:Nat}{es:Nat->List Int}{i:Nat}(h:i<n):(Cj n es)[i]?=some (.tup ((es i).map .int)):=by
 unfold Cj;rw[iu,Cz h];rfl
theorem znz{k:Nat}{A:Int->Int->Bool}{a:Int}(h0:0<=a)(h:a<k):(uV k A)[a.toNat]?=some (.fl ((List.range k).map λ(b:Nat)=>.bl (A a b))):=by
 unfold uV;rw[iu,Cz (by lia)];have:((a.toNat:Nat):Int)=a:=by lia
 simp[this]
theorem Tr{k:Nat}{f:Int->Bool}{b:Int}(h0:0<=b)(h:b<k):((List.range k).map λ(b:Nat)=>D.bl (f b))[b.toNat]?=some (.bl (f b)):=by
 rw[iu,Cz (by lia)];have:((b.toNat:Nat):Int)=b:=by lia
 simp[this]
theorem Jy{F:Fr}{i:Nat}{c:Option (List Int)}(h:F[i]?=some c):(F.map bf)[i]?=some (bf c):=by rw[iu,h];rfl
theorem ziT{f:Int->Bool}{F:Fr}{e:Int}:(fW f F e).map bf=(F.map bf).set e.toNat (bf ((F[e.toNat]?.join).map (·.filter f))):=by
 unfold fW;rw[List.map_set]
theorem zg6{f:Int->Bool}{F:Fr}{e:Int}(h:F[e.toNat]?=some none):fW f F e=F:=by
 unfold fW;rw[h];obtain⟨hl,e2⟩:=eO.mp h;show F.set e.toNat none=F;rw[<-e2,List.set_getElem_self]
theorem Tt{α:Type}{p:Int->Bool}(l:List Int):l.filterMap (λy=>if p y=true then some (D.int y) else none)=(l.filter p).map .int:=by
 induction l with
 |nil=>rfl
 |cons a l ih=>
  rw[zF,Fz];by_cases q:p a=true
  ·simp[q,ih]
  ·simp[q,ih]
noncomputable def tot(k:Nat):Nat->Nat
 |0=>0
 |m+1=>k*cnt k m+tot k m
theorem zdt{k:Nat}{L:List Int}(h:L.Pairwise (·<·))(hb:∀x∈L,0<=x/\x<k):L.length<=k:=by
 have key:∀(L:List Int) (a:Int),L.Pairwise (·<·)->(∀x∈L,a<=x/\x<k)->a<=k->(L.length:Int)<=k-a:=by
  intro L
  induction L with
  |nil=>intro a _ _ ha;simp;lia
  |cons x r ih=>
   intro a h hb ha;rw[CK] at h;have hx:=hb x (by simp);have:=ih (x+1) h.2 (λy hy=>by have:=h.1 y hy;have:=hb y (by simp[hy]);lia) (by lia);rw[f9]
   lia
 have:=key L 0 h hb (by lia)
 lia
noncomputable def bR(k d:Int)(a b:Int):Bool:=decide (d<=jD k a b)
section
variable {n k d:Int}{ps:List (Int×Int)}{ls:List Int}
theorem MJ(hd:1<=d){a b:Int}:bR k d a b=bR k d b a:=by
 unfold bR;rw[q_,sU hd,sU hd]
 lia
theorem MK(hd:1<=d)(t a b:Int)(a0:0<=a)(ak:a<k)(b0:0<=b)(bk:b<k):bR k d ((a+t)%k) ((b+t)%k)=bR k d a b:=by
 unfold bR;rw[q_,sU hd,sU hd];have e1:=Oa (a+t) k;have e2:=Oa (b+t) k;have u0:=zP (a+t) (b:=k) (by lia);have w0:=zP (b+t) (b:=k) (by lia);have uk:=CP (a+t) (b:=k) (by lia);have wk:=CP (b+t) (b:=k) (by lia);generalize (a+t)%k=u at *;generalize (b+t)%k=w at *;generalize (a+t)/k=q1 at *;generalize (b+t)/k=q2 at *;have e3:k*(q1-q2)=(a-b)-(u-w):=by rw[Int.mul_sub];lia
 have c:q1-q2 = -1\/q1-q2=0\/q1-q2=1:=by
  have h1:q1-q2<2:=Int.not_le.mp λz=>by
   have:=Int.mul_le_mul_of_nonneg_left z (show 0<=k by lia)
   lia
  have h2 : -2<q1-q2:=Int.not_le.mp λz=>by
   have:=Int.mul_le_mul_of_nonneg_left z (show 0<=k by lia)
   lia
  lia
 rcases c with c|c|c<;>rw[c] at e3<;>lia
theorem qg(w:Web n ps){i e:Int}:e∈aM i ps↔(i,e)∈ps\/(e,i)∈ps:=by
 unfold aM;rw[zJ]
 constructor
 ·rintro⟨p,hp,h⟩;obtain⟨a,b⟩:=p;unfold endOf at h;dsimp only at h;split at h
  ·cases h;subst_vars;exact .inl hp
  ·split at h
   ·cases h;subst_vars;exact .inr hp
   ·cases h
 ·rintro(hp|hp)
  ·exact⟨_,hp,by simp[endOf]⟩
  ·have:=w.tie _ hp;dsimp only at this;exact⟨_,hp,by unfold endOf;dsimp only;rw[if_neg (by lia),if_pos rfl]⟩
theorem zkB(w:Web n ps)(hd:1<=d)(hk:k<=24):Bo n.toNat k.toNat (λi=>aM i ps) (bR k d) where
 hn:=by have:=w.h8;lia
 hk:=by lia
 mem:=λi hi e he=>by
  have:=Er w he;refine⟨this.1,by lia,λz=>?_⟩;subst z;rcases(qg w).mp he with h|h<;>have:=w.tie _ h<;>dsimp only at this<;>lia
 sym:=λi e _ _ he=>(qg w).mpr ((qg w).mp he).symm
 len:=λi hi=>by
  have:=zdt (k:=n.toNat) (Jp w i) (λx hx=>by have:=Er w hx;have:=w.h1;lia);have:=w.h8
  lia
 Tc:=λa b _ _ _ _=>MJ hd
noncomputable def eN(n k:Int):Fr:=List.replicate n.toNat (some (cC k.toNat))
theorem zc{i:Nat}{L:List Int}(h:(eN n k)[i]?=some (some L)):i<n.toNat/\L=cC k.toNat:=by
 unfold eN at h;rw[zy] at h;split at h
 ·cases h;exact⟨by assumption,rfl⟩
 ·cases h
theorem zj{i:Nat}(h:i<n.toNat):(eN n k)[i]?=some (some (cC k.toNat)):=by
 unfold eN;rw[zy,if_pos h]
theorem Jz(hk:k<=24):Fv n.toNat k.toNat (eN n k) where
 len:=by unfold eN;simp
 lo:=λi L h x hx=>by rw[(zc h).2] at hx;exact bC.mp hx
 ll:=λi L h=>by rw[(zc h).2];unfold cC;simp;lia
 so:=λi L h=>by
  rw[(zc h).2];unfold cC;rw[Kh];exact List.pairwise_lt_range.imp (by intro a b h;lia)
theorem zev(w:Web n ps)(hd:1<=d){hs:List Int}(h:iH n k d ps hs):oU (λi=>aM i ps) (bR k d) (eN n k) λj=>at' hs j where
 mem:=λi L e=>by
  obtain⟨h1,rfl⟩:=zc e;have:=h.len;have:=h.lo _ (rZ (fs:=hs) (j:=i) (by lia) (by lia));exact bC.mpr (by lia)
 fit:=λi e L M _ _ he=>by
  rcases(qg w).mp he with q|q
  ·have:=h.fit _ q;show bR k d (at' hs i) (at' hs e)=true;unfold bR;rw[zK];exact this
  ·have:=h.fit _ q;rw[MJ hd];show bR k d (at' hs e) (at' hs i)=true;unfold bR;rw[zK];exact this
theorem zhA(w:Web n ps){hs:List Int}(hl:hs.length=n.toNat)(s:oU (λi=>aM i ps) (bR k d) (eN n k) λj=>at' hs j):iH n k d ps hs where
 len:=by have:=w.h1;lia
 lo:=λx hx=>by
  obtain⟨j,hj,e⟩:=vY hx;have:=s.mem j _ (zj (by lia));have e2:at' hs (j:Int)=x:=by
   unfold at';rw[nj,kW,dO hj,e];rfl
  rw[e2] at this;have:=bC.mp this
  lia
 fit:=λp hp=>by
  have ht:=w.tie p hp;obtain⟨a,b⟩:=p;dsimp only at ht;obtain⟨i,rfl⟩:=vW ht.1;obtain⟨e,rfl⟩:=vW (show 0<=b by lia);have:=s.fit i e _ _ (zj (by lia)) (zj (by lia)) ((qg w).mpr (.inl hp));unfold bR at this;rw[zK] at this;exact this
theorem zi1{g h:List Int}(hl:g.length=h.length)(a:Ge g h)(b:Ge h g):g=h:=by
 have key:∀j:Nat,j<h.length->at' g j=at' h j:=by
  intro j
  induction j using Nat.strongRecOn with
  |_ j ih=>
   intro hj;have h1:=a j hj λi hi=>ih i hi (by lia);have h2:=b j (by lia) λi hi=>(ih i hi (by lia)).symm
   lia
 refine List.ext_getElem hl λj h1 h2=>?_;have:=key j h2;unfold at' at this;rw[nj,kW,kW,dO h1,dO h2] at this;exact this
end
theorem MN{k k2 m m2:Nat}(hk:k<=k2)(hm:m<=m2):cnt k m<=cnt k2 m2:=by
 have h1:∀m,cnt k m<=cnt k2 m:=by
  intro m
  induction m with
  |zero=>exact b_ _
  |succ m ih=>exact Nat.add_le_add_left (Kr hk ih) 1
 have h3:∀m,1<=cnt k2 m:=λm=>by cases m<;>unfold cnt<;>lia
 by_cases c:k2=0
 ·subst c;have:k=0:=by lia
  subst this;cases m<;>cases m2<;>simp[cnt]
 ·have h2:∀j,cnt k2 m<=cnt k2 (m+j):=by
   intro j
   induction j with
   |zero=>exact b_ _
   |succ j ih=>
    have:1*cnt k2 (m+j)<=k2*cnt k2 (m+j):=Cw _ (by lia);show _<=1+k2*cnt k2 (m+j)
    lia
  have:=h2 (m2-m);rw[show m+(m2-m)=m2 by lia] at this;exact j8 (h1 m) this
theorem zek{k k2 m m2:Nat}(hk:k<=k2)(hm:m<=m2):tot k m<=tot k2 m2:=by
 have h1:∀m,tot k m<=tot k2 m:=by
  intro m
  induction m with
  |zero=>exact b_ _
  |succ m ih=>exact Nat.add_le_add (Kr hk (MN hk (b_ _))) ih
 have h2:∀j,tot k2 m<=tot k2 (m+j):=by
  intro j
  induction j with
  |zero=>exact b_ _
  |succ j ih=>show _<=k2*cnt k2 (m+j)+tot k2 (m+j);lia
 have:=h2 (m2-m);rw[show m+(m2-m)=m2 by lia] at this;exact j8 (h1 m) this
section
variable {n m:Int}{ps:List (Int×Int)}{r h:List Int}{x y:Int}
theorem MP(w:Web n ps):fV n m ps h↔iH n m 1 ps h:=by
 have lo:∀(l:(h.length:Int)=n) (q:∀x∈h,0<=x/\x<m),∀p∈ps,(0<=at' h p.1/\at' h p.1<m)/\0<=at' h p.2/\at' h p.2<m:=λl q p hp=>by
  have ht:=w.tie p hp;exact⟨q _ (rZ (by lia) (by lia)),q _ (rZ (by lia) (by lia))⟩
 constructor
 ·intro g;refine⟨g.len,g.lo,λp hp=>?_⟩;have a:=lo g.len g.lo p hp;have b:=g.ne p hp;rw[sU (by lia)]
  lia
 ·intro g;refine⟨g.len,g.lo,λp hp=>?_⟩;have a:=lo g.len g.lo p hp;have b:=(sU (by lia)).mp (g.fit p hp)
  lia
end
theorem WS.aug{aq:Nat->Nat->Bool}{aj:Bool}{F:Bool->Fn}{J:Vs}{s:S}{Q:Out->S->Prop}{i:Nat}{e:E}{p q:Int}(h1:J[i]?.join=some (.d (.int p)))(h2:dh aq e J=some (.d (.int q)))(h:Q (.nx (J.set i (some (.d (.int (p+q)))))) s):WS (ex aq aj F (.aug i e) J) s Q:=
 WS.ofM (W.bd (W.opt h1 (W.bd (W.eq (fj e _ h2) (W.bd (W.int (W.bd (W.int (W.ret (WS.nx h))))))))))
theorem Tv(a b k:Int):(a%k+b)%k=(a+b)%k:=by
 have e:=Oa a k;have:a%k+b=(a+b)+k*(-(a/k)):=by rw[Int.mul_neg];lia
 rw[this,Int.add_mul_emod_self_left]
theorem M4{a k:Int}(h0:0<=a)(h:a<k):a%k=a:=Int.emod_eq_of_lt h0 h
theorem Tw{a k:Int}(h:0<k):0<=a%k/\a%k<k:=⟨zP _ (by lia),CP _ h⟩
noncomputable def bw(k m:Int)(hs:List Int):List Int:=hs.map λx=>(x+m)%k
section
variable {n k d m:Int}{ps:List (Int×Int)}{hs:List Int}
theorem zgV(w:Web n ps)(hd:1<=d)(hk:1<=k)(h:iH n k d ps hs):iH n k d ps (bw k m hs) where
 len:=by unfold bw;rw[cR];exact h.len
 lo:=λx hx=>by
  obtain⟨y,_,rfl⟩:=pC.mp hx;exact Tw (by lia)
 fit:=λp hp=>by
  have ht:=w.tie p hp;have hl:=h.len;have a:=h.lo _ (rZ (fs:=hs) (j:=p.1) (by lia) (by lia));have b:=h.lo _ (rZ (fs:=hs) (j:=p.2) (by lia) (by lia));unfold bw;rw[Et (by lia) (by lia),Et (by lia) (by lia)];have:=MK (k:=k) hd m _ _ a.1 a.2 b.1 b.2;unfold bR at this;rw[q_] at this;exact this.mpr (h.fit p hp)
theorem zgi(k a b:Int):jD k a b=jD k b a:=by
 unfold jD
 split<;>split<;>(try split)<;>(try split)<;>lia
end
section
variable {n k d q:Int}{ps qs:List (Int×Int)}{hs:List Int}
end
section
variable {n k d:Int}{ps:List (Int×Int)}{ks:List (Option Int)}{r:List Int}{x y:Int}
end
section
variable {n k d:Int}{ps:List (Int×Int)}
noncomputable def kO(k d:Int)(ps:List (Int×Int))(r:List Int)(x:Int):Bool:=ps.all λp=>decide (p.2=(r.length:Int)->d<=jD k (at' r p.1) x)
noncomputable def nextR(k d:Int)(ps:List (Int×Int))(r:List Int):List (List Int):=((cC k.toNat).filter (kO k d ps r)).map λx=>r++[x]
noncomputable def grow(k d:Int)(ps:List (Int×Int))(rows:List (List Int)):List (List Int):=rows.flatMap (nextR k d ps)
noncomputable def grows(k d:Int)(ps:List (Int×Int))(rows:List (List Int)):Nat->List (List Int)
 |0=>rows
 |i+1=>grow k d ps (grows k d ps rows i)
theorem jX{rows:List (List Int)}{h:List Int}:h∈grow k d ps rows↔∃r∈rows,∃x:Int,(0<=x/\x<(k.toNat:Nat))/\kO k d ps r x=true/\h=r++[x]:=by
 unfold grow nextR;rw[List.mem_flatMap]
 constructor
 ·rintro⟨r,hr,hh⟩;obtain⟨x,hx,rfl⟩:=pC.mp hh;obtain⟨h1,h2⟩:=jK.mp hx;exact⟨r,hr,x,bC.mp h1,h2,rfl⟩
 ·rintro⟨r,hr,x,h1,h2,rfl⟩;exact⟨r,hr,pC.mpr ⟨x,jK.mpr ⟨bC.mpr h1,h2⟩,rfl⟩⟩
structure Pre(k d:Int)(ps:List (Int×Int))(i:Nat)(r:List Int):Prop where
 len:r.length=i
 lo:∀x∈r,0<=x/\x<k
 fit:∀p∈ps,p.2<i->d<=jD k (at' r p.1) (at' r p.2)
theorem zhW(w:Web n ps)(hk:1<=k){i:Nat}{rows:List (List Int)}(P:List Int->Prop)(hP:∀r x,i≠0->r.length=i->(P (r++[x])↔P r))(h0:i≠0)(h:∀r,r∈rows↔Pre k d ps i r/\P r):∀r,r∈grow k d ps rows↔Pre k d ps (i+1) r/\P r:=by
 intro g;rw[jX]
 constructor
 ·rintro⟨r,hr,x,hx,ok,rfl⟩;obtain⟨hp,hq⟩:=(h r).mp hr;have hl:=hp.len;refine⟨⟨by simp[hl],λy hy=>?_,λp rR vL=>?_⟩,(hP r x h0 hl).mpr hq⟩
  ·rcases oY.mp hy with hy|hy
   ·exact hp.lo y hy
   ·have:y=x:=qZ.mp hy
    lia
  ·have ht:=w.tie p rR;by_cases c:p.2<i
   ·rw[yZ (by lia) (by lia),yZ (by lia) (by lia)];exact hp.fit p rR c
   ·have e:p.2=(r.length:Int):=by lia
    have:=gF (fu.mp ok p rR) e;rw[e,SX,yZ (by lia) (by lia)];exact this
 ·rintro⟨hp,hq⟩;have hl:=hp.len;have nq:g≠[]:=λe=>by rw[e] at hl;simp at hl
  obtain⟨r,x,rfl⟩ : ∃r x,g=r++[x]:=⟨g.dropLast,g.getLast nq,(List.dropLast_concat_getLast nq).symm⟩;have hrl:r.length=i:=by simpa using hl
  have hx:=hp.lo x (by simp);refine⟨r,(h r).mpr ⟨⟨hrl,λy hy=>hp.lo y (by simp[hy]),λp rR vL=>?_⟩,(hP r x h0 hrl).mp hq⟩,x,by lia,fu.mpr λp rR=>gq λe=>?_,rfl⟩
  ·have ht:=w.tie p rR;have:=hp.fit p rR (by lia)
   rwa [yZ (by lia) (by lia),yZ (by lia) (by lia)] at this
  ·have ht:=w.tie p rR;have:=hp.fit p rR (by lia)
   rwa [e,SX,yZ (by lia) (by lia)] at this
theorem zfo(w:Web n ps):grow k d ps [[]]=(cC k.toNat).map λx=>[x]:=by
 unfold grow nextR;rw[vd,List.flatMap_nil,v7];have:(cC k.toNat).filter (kO k d ps [])=cC k.toNat:=by
  refine List.filter_eq_self.mpr λx _=>fu.mpr λp hp=>gq λe=>?_;have:=w.tie p hp;simp at e
  lia
 rw[this];rfl
theorem zf0(w:Web n ps)(hd:1<=d){r:List Int}(hr:∀x∈r,0<=x/\x<k)(t x:Int)(hx:0<=x/\x<k):kO k d ps (bw k t r) ((x+t)%k)=kO k d ps r x:=by
 unfold kO;rw[Bool.eq_iff_iff,fu,fu];have key:∀p∈ps,(p.2=((bw k t r).length:Int)->d<=jD k (at' (bw k t r) p.1) ((x+t)%k))↔(p.2=(r.length:Int)->d<=jD k (at' r p.1) x):=λp hp=>by
  have ht:=w.tie p hp;have el:(bw k t r).length=r.length:=by unfold bw;rw[cR]
  rw[el]
  constructor
  ·intro h e;have:=h e;unfold bw at this;rw[Et (by lia) (by lia)] at this;have a:=hr _ (rZ (fs:=r) (j:=p.1) (by lia) (by lia));have f:=MK (k:=k) hd t _ _ a.1 a.2 hx.1 hx.2;unfold bR at f;rw[q_] at f;exact f.mp this
  ·intro h e;have:=h e;unfold bw;rw[Et (by lia) (by lia)];have a:=hr _ (rZ (fs:=r) (j:=p.1) (by lia) (by lia));have f:=MK (k:=k) hd t _ _ a.1 a.2 hx.1 hx.2;unfold bR at f;rw[q_] at f;exact f.mpr this
 constructor
 ·intro h p hp;exact gq ((key p hp).mp (gF (h p hp)))
 ·intro h p hp;exact gq ((key p hp).mpr (gF (h p hp)))
theorem oV{k:Nat}:(cC k).Nodup:=by
 unfold cC;exact Kh.mpr (List.nodup_range.imp λh e=>h (by lia))
theorem zfU(w:Web n ps)(hd:1<=d)(hk:1<=k){r:List Int}(hr:∀x∈r,0<=x/\x<k)(t:Int):((nextR k d ps r).map (bw k t)).Perm (nextR k d ps (bw k t r)):=by
 unfold nextR;have e1:(((cC k.toNat).filter (kO k d ps r)).map λx=>r++[x]).map (bw k t)=((((cC k.toNat).filter (kO k d ps r)).map λx=>(x+t)%k).map λx=>bw k t r++[x]):=by
  rw[wj,wj];refine List.map_congr_left λx _=>?_;show bw k t (r++[x])=bw k t r++[(x+t)%k];unfold bw;rw[pq];rfl
 rw[e1];refine List.Perm.map _ ?_;have inj:∀a b:Int,0<=a->a<k->0<=b->b<k->(a+t)%k=(b+t)%k->a=b:=λa b a0 a1 b0 b1 e=>by
  have h1:((a+t)%k + -t)%k=a:=by rw[Tv,show a+t + -t=a by lia,M4 a0 a1]
  have h2:((b+t)%k + -t)%k=b:=by rw[Tv,show b+t + -t=b by lia,M4 b0 b1]
  rw[<-h1,<-h2,e]
 refine(List.perm_ext_iff_of_nodup ?_ (oV.filter _)).mpr λy=>?_
 ·refine Kh.mpr (List.Pairwise.imp_of_mem (λ{a b} ha hb h e=>?_) (oV.filter (kO k d ps r)));have a1:=bC.mp (jK.mp ha).1;have b1:=bC.mp (jK.mp hb).1;exact h (inj a b (by lia) (by lia) (by lia) (by lia) e)
 ·constructor
  ·intro hy;obtain⟨x,hx,rfl⟩:=pC.mp hy;obtain⟨h1,h2⟩:=jK.mp hx;have h1:=bC.mp h1;have:=Tw (a:=x+t) (k:=k) (by lia);exact jK.mpr ⟨bC.mpr (by lia),by rw[zf0 w hd hr t x (by lia)];exact h2⟩
  ·intro hy;obtain⟨h1,h2⟩:=jK.mp hy;have h1:=bC.mp h1;have hm:=Tw (a:=y + -t) (k:=k) (by lia);have ey:((y + -t)%k+t)%k=y:=by rw[Tv,show y + -t+t=y by lia,M4 (by lia) (by lia)]
   refine pC.mpr ⟨(y + -t)%k,jK.mpr ⟨bC.mpr (by lia),?_⟩,ey⟩;rw[<-zf0 w hd hr t _ hm,ey];exact h2
theorem zka(hk:1<=k){rows:List (List Int)}(h:∀r∈rows,∀x∈r,0<=x/\x<k):∀r∈grow k d ps rows,∀x∈r,0<=x/\x<k:=λr hr x hx=>by
 obtain⟨q,hq,y,hy,_,rfl⟩:=jX.mp hr;rcases oY.mp hx with hx|hx
 ·exact h q hq x hx
 ·have:x=y:=qZ.mp hx
  lia
theorem zdf(w:Web n ps)(hd:1<=d)(hk:1<=k)(t:Int):∀{rows:List (List Int)},(∀r∈rows,∀x∈r,0<=x/\x<k)->((grow k d ps rows).map (bw k t)).Perm (grow k d ps (rows.map (bw k t)))
 |[],_=>List.Perm.refl _
 |r::rows,h=>by
  have e1:grow k d ps (r::rows)=nextR k d ps r++grow k d ps rows:=by unfold grow;rw[vd]
  have e2:grow k d ps ((r::rows).map (bw k t))=nextR k d ps (bw k t r)++grow k d ps (rows.map (bw k t)):=by unfold grow;rw[gG,vd]
  rw[e1,e2,pq];exact(zfU w hd hk (h r (by simp)) t).append (zdf w hd hk t λq hq=>h q (by simp[hq]))
theorem Tz(w:Web n ps)(hd:1<=d)(hk:1<=k)(t:Int){rows:List (List Int)}(h:∀r∈rows,∀x∈r,0<=x/\x<k):∀m,(∀r∈grows k d ps rows m,∀x∈r,0<=x/\x<k)/\((grows k d ps rows m).map (bw k t)).Perm (grows k d ps (rows.map (bw k t)) m)
 |0=>⟨h,List.Perm.refl _⟩
 |m+1=>by
  obtain⟨h1,h2⟩:=Tz w hd hk t h m;refine⟨zka hk h1,?_⟩;show ((grow k d ps (grows k d ps rows m)).map (bw k t)).Perm (grow k d ps (grows k d ps (rows.map (bw k t)) m));refine(zdf w hd hk t h1).trans ?_;unfold grow;exact List.Perm.flatMap_right _ h2
theorem zdm{a b:List (List Int)}:∀m,grows k d ps (a++b) m=grows k d ps a m++grows k d ps b m
 |0=>rfl
 |m+1=>by
  show grow k d ps (grows k d ps (a++b) m)=grow k d ps (grows k d ps a m)++grow k d ps (grows k d ps b m);rw[zdm m];unfold grow;rw[List.flatMap_append]
theorem zc6:∀m,grows k d ps [] m=[]
 |0=>rfl
 |m+1=>by show grow k d ps (grows k d ps [] m)=[];rw[zc6 m];rfl
theorem zcw{rows:List (List Int)}:∀m,grows k d ps rows (m+1)=grows k d ps (grow k d ps rows) m
 |0=>rfl
 |m+1=>by
  show grow k d ps (grows k d ps rows (m+1))=grow k d ps (grows k d ps (grow k d ps rows) m);rw[zcw m]
theorem zca(w:Web n ps)(hd:1<=d)(hk:1<=k)(m:Nat):(grows k d ps [[]] (m+1)).length=k.toNat*(grows k d ps [[0]] m).length:=by
 rw[zcw,zfo w];have one:∀x:Int,0<=x->x<k->(grows k d ps [[x]] m).length=(grows k d ps [[0]] m).length:=λx h0 h1=>by
  have:=(Tz w hd hk x (rows:=[[0]]) (λr hr y hy=>by
   rw[qZ.mp hr] at hy;have:y=0:=qZ.mp hy
   lia) m).2.length_eq
  rw[cR] at this;rw[this];have e:[[(0:Int)]].map (bw k x)=[[x]]:=by
   unfold bw;simp[M4 h0 h1]
  rw[e]
 have all:∀l:List Int,(∀x∈l,0<=x/\x<k)->(grows k d ps (l.map λx=>[x]) m).length=l.length*(grows k d ps [[0]] m).length:=λl=>by
  induction l with
  |nil=>intro _;rw[List.map_nil,zc6];simp
  |cons x l ih=>
   intro h;rw[gG,show [x]::l.map (λx=>[x])=[[x]]++l.map (λx=>[x]) from rfl,zdm,lD,one x (h x (by simp)).1 (h x (by simp)).2,ih λy hy=>h y (by simp[hy]),f9,FZ]
   lia
 rw[all _ λx hx=>by have:=bC.mp hx;lia]
 congr 1
 unfold cC;simp
end
section
variable {aq:Nat->Nat->Bool}{F:Fn}{J:Vs}{s:S}{P:Xv->S->Prop}
theorem Kar{α β:Type}{f:α->D}{l:List α}{f2:β->D}{l2:List β}{fz:Bool}{elt:E}{tg HS:List Nat}{it yw:Wk}{fr:List Nat}{many:Nat}{cond:Eo}(g:α->β->Option D)(hc:l.length*l2.length<=sizeLine)
  (hw:W (g8 aq true F it J) s λcn s1=>cn=(.fix (l.map f),(l.map f).length)/\s1=s)
  (hb:∀x∈l,sO (c7 tg (f x) (blk many fr J)) λJ'=>(W (g8 aq true F yw J') s λcn s1=>cn=(.fix (l2.map f2),(l2.map f2).length)/\s1=s)/\∀y∈l2,sO (c7 HS (f2 y) J') λJ2=>W (mX aq true F cond J2) s λb s1=>s1=s/\(b=true->W (ev aq true F elt J2) s λv s2=>s2=s/\∃d,v=.d d/\g x y=some d)/\(b=false->g x y=none))
  (h:W (newL fz (l.flatMap λx=>l2.filterMap (g x))) s P):W (ev aq true F (.iB fz elt tg it HS yw fr many cond) J) s P:=by
 change W (_root_.ite (true=true) _ _) s P
 rw[if_pos rfl];refine W.bd (hw.imp λcn s1=>?_);rintro⟨rfl,rfl⟩;refine W.bd ?_;refine W.walk (c:=l.map f) (λi acc s'=>s'=s1/\acc=(l.take i).flatMap λx=>l2.filterMap (g x)) ⟨rfl,rfl⟩ (λi x acc s' e hI=>?_) (λacc s' hI=>?_)
 ·obtain⟨rfl,rfl⟩:=hI;rw[iu] at e;cases el:l[i]? with
  |none=>rw[el] at e;cases e
  |some y=>
   rw[el] at e;cases e;have hi:i<l.length:=(eO.mp el).1;have ht:l.take (i+1)=l.take i++[y]:=by rw[FP,el];rfl
   have hl0:∀m:List α,(m.flatMap λx=>l2.filterMap (g x)).length<=m.length*l2.length:=by
    intro m
    induction m with
    |nil=>simp
    |cons a r ih=>
     have:=Fg (g a) l2;simp only[vd,lD,f9];rw[FZ]
     lia
   have hl1:(l.take i).length*l2.length+l2.length<=sizeLine:=by
    have:(l.take i).length+1<=l.length:=by rw[yg];lia
    have:=Cw l2.length this;rw[FZ] at this
    lia
   obtain⟨J',e1,hw2,TF⟩:=hb y (fX el);refine W.bd (W.opt e1 ?_);refine W.bd (W.qt (hw2.imp λcn s2=>?_));rintro⟨rfl,rfl⟩;refine W.walk (c:=l2.map f2) (λj acc s'=>s'=s2/\acc=((l.take i).flatMap λx=>l2.filterMap (g x))++(l2.take j).filterMap (g y)) ⟨rfl,by simp⟩ (λj x acc s' e hI=>?_) (λacc s' hI=>?_)
   ·obtain⟨rfl,rfl⟩:=hI;rw[iu] at e;cases el2:l2[j]? with
    |none=>rw[el2] at e;cases e
    |some z=>
     rw[el2] at e;cases e;have hj:j<l2.length:=(eO.mp el2).1;have ht2:l2.take (j+1)=l2.take j++[z]:=by rw[FP,el2];rfl
     obtain⟨J2,e2,hv⟩:=TF z (fX el2);refine W.bd (W.opt e2 ?_);refine W.bd (W.qt (hv.imp λb s3=>?_));rintro⟨rfl,h1,h2⟩;cases b
     ·rw[if_neg (by decide)];refine W.ret ⟨rfl,?_⟩;rw[ht2,Fl];simp[h2 rfl]
     ·rw[if_pos rfl];refine W.bd (W.qt ((h1 rfl).imp λv s4=>?_));rintro⟨rfl,d,rfl,eg⟩;refine W.bd (W.dat ?_);have q1:=hl0 (l.take i);have q2:=Fg (g y) (l2.take j);rw[yg (i:=j)] at q2;rw[if_pos (by rw[lD];lia)];refine W.ret ⟨rfl,?_⟩;rw[ht2,Fl,CQ];simp[eg]
   ·obtain⟨rfl,rfl⟩:=hI;refine⟨rfl,?_⟩;rw[cR,zM,ht,List.flatMap_append];simp
 ·obtain⟨rfl,rfl⟩:=hI;rw[cR,zM];exact h
end
section
variable {n k d:Int}{ps:List (Int×Int)}
noncomputable def jY(r:List Int):D:=.tup (r.map .int)
noncomputable def xY(ps:List (Int×Int))(i:Nat):List Int:=(aM i ps).filter λe=>decide (e<(i:Int))
theorem TJ(w:Web n ps){i:Nat}{e:Int}:e∈xY ps i↔(e,(i:Int))∈ps:=by
 unfold xY;rw[jK,qg w]
 constructor
 ·rintro⟨h|h,q⟩
  ·have:=w.tie _ h;have q:=gF q;dsimp only at this
   lia
  ·exact h
 ·intro h;have:=w.tie _ h;dsimp only at this;exact⟨.inr h,gq (by lia)⟩
theorem zju(w:Web n ps)(hd:1<=d){r:List Int}{x:Int}:((xY ps r.length).all λe=>bR k d x (at' r e))=kO k d ps r x:=by
 unfold kO;rw[Bool.eq_iff_iff,fu,fu]
 constructor
 ·intro h p hp;refine gq λe=>?_;obtain⟨a,b⟩:=p;dsimp only at e ⊢;subst e;have:=h a ((TJ w).mpr hp);rw[MJ hd] at this;unfold bR at this;rw[zK] at this;exact this
 ·intro h e he;have hp:=(TJ w).mp he;have:=gF (h _ hp) rfl;rw[MJ hd];unfold bR;rw[zK];exact this
theorem zc8{m:Nat}:(grows k d ps [[0]] m).length<=k.toNat^m:=by
 induction m with
 |zero=>simp[grows]
 |succ m ih=>
  show (grow k d ps (grows k d ps [[0]] m)).length<=_;have:∀rows:List (List Int),(grow k d ps rows).length<=rows.length*k.toNat:=λrows=>by
   unfold grow
   induction rows with
   |nil=>simp
   |cons r rows ih2=>
    have e:(nextR k d ps r).length<=k.toNat:=by
     unfold nextR;rw[cR];refine j8 (Ka _ _) ?_;unfold cC;simp
    rw[vd,lD,f9,FZ]
    lia
  have h1:=this (grows k d ps [[0]] m);rw[Nat.pow_succ];exact j8 h1 (Cw _ ih)
theorem zgS{m:Nat}:∀r∈grows k d ps [[0]] m,r.length=m+1:=by
 induction m with
 |zero=>intro r hr;rw[qZ.mp hr];rfl
 |succ m ih=>
  intro r hr;obtain⟨q,hq,x,_,_,rfl⟩:=jX.mp hr;simp[ih q hq]
end
section
variable {n k m:Int}{ps qs:List (Int×Int)}{A:Int->Int->Bool}
structure oW(n k:Int)(A:Int->Int->Bool)(ps:List (Int×Int))(hs:List Int):Prop where
 len:(hs.length:Int)=n
 lo:∀x∈hs,0<=x/\x<k
 fit:∀p∈ps,A (at' hs p.1) (at' hs p.2)=true
theorem zmw(w:Web n ps)(hk:k<=24)(hA:∀a b:Int,0<=a->a<(k.toNat:Nat)->0<=b->b<(k.toNat:Nat)->A a b=A b a):Bo n.toNat k.toNat (λi=>aM i ps) A where
 hn:=by have:=w.h8;lia
 hk:=by lia
 mem:=λi hi e he=>by
  have:=Er w he;refine⟨this.1,by lia,λz=>?_⟩;subst z;rcases(qg w).mp he with h|h<;>have:=w.tie _ h<;>dsimp only at this<;>lia
 sym:=λi e _ _ he=>(qg w).mpr ((qg w).mp he).symm
 len:=λi hi=>by
  have:=zdt (k:=n.toNat) (Jp w i) (λx hx=>by have:=Er w hx;have:=w.h1;lia);have:=w.h8
  lia
 Tc:=hA
theorem zfB(w:Web n ps)(hA:∀a b:Int,0<=a->a<(k.toNat:Nat)->0<=b->b<(k.toNat:Nat)->A a b=A b a){hs:List Int}(h:oW n k A ps hs):oU (λi=>aM i ps) A (eN n k) λj=>at' hs j:=by
 have hl:=h.len;have lo:∀j:Nat,j<n.toNat->0<=at' hs j/\at' hs j<(k.toNat:Nat):=λj hj=>by
  have:=h.lo _ (rZ (fs:=hs) (j:=j) (by lia) (by lia))
  lia
 refine⟨λi L e=>?_,λi e L M h1 h2 he=>?_⟩
 ·obtain⟨q,rfl⟩:=zc e;exact bC.mpr (lo i q)
 ·have l1:=lo i (zc h1).1;have l2:=lo e (zc h2).1;rcases(qg w).mp he with q|q
  ·exact h.fit _ q
  ·have:=h.fit _ q;dsimp only at this ⊢;rw[hA _ _ l1.1 l1.2 l2.1 l2.2];exact this
theorem zjh(w:Web n ps){hs:List Int}(hl:hs.length=n.toNat)(s:oU (λi=>aM i ps) A (eN n k) λj=>at' hs j):oW n k A ps hs where
 len:=by have:=w.h1;lia
 lo:=λx hx=>by
  obtain⟨j,hj,e⟩:=vY hx;have:=s.mem j _ (zj (by lia));have e2:at' hs (j:Int)=x:=by
   unfold at';rw[nj,kW,dO hj,e];rfl
  rw[e2] at this;have:=bC.mp this
  lia
 fit:=λp hp=>by
  have ht:=w.tie p hp;obtain⟨a,b⟩:=p;dsimp only at ht;obtain⟨i,rfl⟩:=vW ht.1;obtain⟨e,rfl⟩:=vW (show 0<=b by lia);exact s.fit i e _ _ (zj (by lia)) (zj (by lia)) ((qg w).mpr (.inl hp))
noncomputable def m9(qs:List (Int×Int))(a b:Int):Bool:=decide (b∈aM a qs)
theorem zlb(w:Web m qs){a b:Int}:m9 qs a b=m9 qs b a:=by
 unfold m9;rw[q_,qg w,qg w];exact Or.comm
end
section
variable {n k d:Int}{ps:List (Int×Int)}
theorem M5(w:Web n ps)(hk:1<=k):∀(m:Nat) r,r∈grows k d ps [[0]] m↔Pre k d ps (m+1) r/\at' r 0=0
 |0,r=>by
  show r∈[[0]]↔_;rw[qZ]
  constructor
  ·rintro rfl;refine⟨⟨rfl,λx hx=>by rw[qZ.mp hx];lia,λp hp hl=>?_⟩,rfl⟩;have:=w.tie p hp
   lia
  ·rintro⟨h,e⟩;have hl:=h.len
   match r,hl with
   |[x],_=>
    have:at' [x] 0=x:=rfl;rw[this] at e;rw[e]
 |m+1,r=>zhW w hk (λr=>at' r 0=0) (λr x h0 hl=>by rw[yZ (by lia) (by lia)]) (by lia) (M5 w hk m) r
theorem TQ(w:Web n ps){h:List Int}:(iH n k d ps h/\at' h 0=0)↔Pre k d ps (n.toNat-1+1) h/\at' h 0=0:=by
 have h1:=w.h1
 constructor
 ·rintro⟨q,e⟩;exact⟨⟨by have:=q.len;lia,q.lo,λp hp _=>q.fit p hp⟩,e⟩
 ·rintro⟨q,e⟩;exact⟨⟨by have:=q.len;lia,q.lo,λp hp=>q.fit p hp (by have:=w.tie p hp;lia)⟩,e⟩
theorem zeJ(w:Web n ps)(hd:1<=d)(hk:1<=k):0<(grows k d ps [[]] n.toNat).length↔∃h,iH n k d ps h:=by
 have h1:=w.h1;have e:=zca w hd hk (n.toNat-1);rw[show n.toNat-1+1=n.toNat by lia] at e;rw[e]
 constructor
 ·intro h;have:0<(grows k d ps [[0]] (n.toNat-1)).length:=Nat.pos_of_mul_pos_left h;obtain⟨r,hr⟩:=List.exists_mem_of_length_pos this;exact⟨r,((TQ w).mpr ((M5 w hk _ r).mp hr)).1⟩
 ·rintro⟨h,hh⟩;have hl:=hh.len;have ht:=zgV (m:=-(at' h 0)) w hd hk hh;have e0:at' (bw k (-(at' h 0)) h) 0=0:=by
   unfold bw;rw[Et (by lia) (by lia),show at' h 0 + -(at' h 0)=0 by lia];exact Int.zero_emod k
  have:=(M5 w hk _ _).mpr ((TQ w).mp ⟨ht,e0⟩);exact Nat.mul_pos (by lia) (N_ this)
noncomputable def dbl(r:List Int):List Int:=r.map λx=>2*x
theorem M6{α β:Type}{f:α->β}{p:α->Bool}{q:β->Bool}(h:∀x,p x=true->q (f x)=true):∀l:List α,((l.filter p).map f).Sublist ((l.map f).filter q)
 |[]=>.slnil
 |a::l=>by
  rw[Fz,gG,Fz];by_cases c:p a=true
  ·rw[if_pos c,if_pos (h a c),gG];exact(M6 h l).cons_cons _
  ·rw[if_neg c]
   split
   ·exact(M6 h l).cons _
   ·exact M6 h l
theorem zik:∀j:Nat,((cC j).map λx=>2*x).Sublist (cC (2*j))
 |0=>Ol _
 |j+1=>by
  have e1:cC (j+1)=cC j++[(j:Int)]:=by unfold cC;rw[Kp,pq];rfl
  have e2:cC (2*(j+1))=cC (2*j)++[((2*j:Nat):Int),((2*j+1:Nat):Int)]:=by
   unfold cC;rw[show 2*(j+1)=2*j+1+1 by lia,Kp,Kp,pq,pq,CQ];rfl
  rw[e1,e2,pq];refine(zik j).append ?_;rw[gG,List.map_nil,show (2:Int)*j=((2*j:Nat):Int) by lia];exact(List.nil_sublist _).cons_cons _
theorem zmC(w:Web n ps)(hd:1<=d){r:List Int}{x:Int}(h:kO k d ps r x=true):kO (2*k) (2*d) ps (dbl r) (2*x)=true:=by
 refine fu.mpr λp hp=>gq λe=>?_;have ht:=w.tie p hp;have el:(dbl r).length=r.length:=by unfold dbl;rw[cR]
 rw[el] at e;have:=gF (fu.mp h p hp) e;unfold dbl;rw[Et (by lia) (by lia),sU (by lia)];have:=(sU hd).mp this
 lia
theorem zhh(w:Web n ps)(hd:1<=d)(hk:1<=k)(r:List Int):((nextR k d ps r).map dbl).Sublist (nextR (2*k) (2*d) ps (dbl r)):=by
 unfold nextR;have e1:(((cC k.toNat).filter (kO k d ps r)).map λx=>r++[x]).map dbl=((((cC k.toNat).filter (kO k d ps r)).map λx=>2*x).map λx=>dbl r++[x]):=by
  rw[wj,wj];refine List.map_congr_left λx _=>?_;show dbl (r++[x])=dbl r++[2*x];unfold dbl;rw[pq];rfl
 rw[e1];refine List.Sublist.map _ ?_;have s1:=M6 (f:=λx:Int=>2*x) (p:=kO k d ps r) (q:=kO (2*k) (2*d) ps (dbl r)) (λx hx=>zmC w hd hx) (cC k.toNat);have s2:=(zik k.toNat).filter (kO (2*k) (2*d) ps (dbl r));rw[show 2*k.toNat=(2*k).toNat by lia] at s2;exact s1.trans s2
theorem zeR(w:Web n ps)(hd:1<=d)(hk:1<=k):∀rows:List (List Int),((grow k d ps rows).map dbl).Sublist (grow (2*k) (2*d) ps (rows.map dbl))
 |[]=>.slnil
 |r::rows=>by
  have e1:grow k d ps (r::rows)=nextR k d ps r++grow k d ps rows:=by unfold grow;rw[vd]
  have e2:grow (2*k) (2*d) ps ((r::rows).map dbl)=nextR (2*k) (2*d) ps (dbl r)++grow (2*k) (2*d) ps (rows.map dbl):=by unfold grow;rw[gG,vd]
  rw[e1,e2,pq];exact(zhh w hd hk r).append (zeR w hd hk rows)
theorem zhY{a b:List (List Int)}(h:a.Sublist b):(grow k d ps a).Sublist (grow k d ps b):=by
 unfold grow
 induction h with
 |slnil=>exact .slnil
 |cons x _ ih=>rw[vd];exact ih.trans (List.sublist_append_right _ _)
 |cons_cons x _ ih=>rw[vd,vd];exact(Ol _).append ih
theorem zhR(w:Web n ps)(hd:1<=d)(hk:1<=k)(m:Nat):(grows k d ps [[]] m).length<=(grows (2*k) (2*d) ps [[]] m).length:=by
 have key:∀m,((grows k d ps [[]] m).map dbl).Sublist (grows (2*k) (2*d) ps [[]] m):=by
  intro m
  induction m with
  |zero=>exact Ol _
  |succ m ih=>exact(zeR w hd hk _).trans (zhY ih)
 have:=(key m).length_le
 rwa [cR] at this
end
end Mi
namespace dX
open PySem Mi
noncomputable def b0:bV:=(.cons (.ret (.and (.qK (.v 0) .int) (.not (.qK (.v 0) .bool)))) .nil)
noncomputable def b1:bV:=(.cons (.ret (.and (.call 0 (Ea (.v 0))) (.yC .le .le (.v 1) (.v 0) (.v 2)))) .nil)
noncomputable def b2:bV:=(.cons (.ret (.and (.qK (.v 0) .tuple) (.pr true .eq (Eb (.pr true .len (Ea (.v 0))) (.v 1))))) .nil)
noncomputable def b3:bV:=(.cons (.iff (.pr true .gt (Eb (.v 0) (.v 1))) (.cons .no .nil) .nil) .nil)
noncomputable def b4:bV:=(.cons (.iff (.not (.call 2 (Eb (.v 0) (Ci 2)))) (.cons (.ret (.c (.bl false))) .nil) .nil) (.cons (.asg (.tp [1,2]) (.v 0)) (.cons (.iff (.or (.not (.call 6 (Ea (.v 1)))) (.not (.qK (.v 2) .tuple))) (.cons (.ret (.c (.bl false))) .nil) .nil) (.cons (.iff (.not (.pr true .all (Ea (.comp true (.call 8 (Eb (.v 1) (.v 0))) [0] (.seq (.v 2)) [1] 1 .no)))) (.cons (.ret (.c (.bl false))) .nil) .nil) (.cons (.ret (.pr true .all (Ea (.comp true (.pr true .lt (Eb (.v 0) (.v 1))) [0,1] (.zip (.v 2) (.sl true (.v 2) (.yes (Ci 1)) .no)) [] 2 .no)))) .nil)))))
noncomputable def b5:bV:=(.cons (.iff (.not (.call 6 (Ea (.v 0)))) (.cons .no .nil) .nil) (.cons (.asg (.nm 2) (.lst false .nil)) (.cons (.fr (.tp [3,4]) (.enum (.v 1)) (.cons (.asg (.nm 5) (.call 9 (Eb (.v 0) (.v 4)))) (.cons (.iff (.or (.pr true .vJ (Ea (.v 5))) (.pr true .inn (Eb (.v 5) (.v 2)))) (.cons .no .nil) .nil) (.cons (.ex (.push (.v 2) (.v 5))) .nil)))) (.cons (.ret (.tup (Eb (.v 0) (.pr true .tuple (Ea (.pr true .sorted (Ea (.v 2)))))))) .nil))))
noncomputable def b6:bV:=(.cons (.ret (.call 1 (Ec (.v 0) (Ci 1) (Ci 8)))) .nil)
noncomputable def b7:bV:=(.cons (.ret (.call 1 (Ec (.v 1) (Ci 0) (.pr true .aq (Eb (.v 0) (Ci 1)))))) .nil)
noncomputable def b8:bV:=(.cons (.iff (.not (.call 2 (Eb (.v 1) (Ci 2)))) (.cons (.ret (.c (.bl false))) .nil) .nil) (.cons (.asg (.tp [2,3]) (.v 1)) (.cons (.ret (.and (.call 7 (Eb (.v 0) (.v 2))) (.and (.call 7 (Eb (.v 0) (.v 3))) (.pr true .lt (Eb (.v 2) (.v 3)))))) .nil)))
noncomputable def b9:bV:=(.cons (.iff (.call 8 (Eb (.v 0) (.v 1))) (.cons (.ret (.v 1)) .nil) .nil) (.cons (.iff (.and (.call 2 (Eb (.v 1) (Ci 2))) (.call 8 (Eb (.v 0) (.pr true .rev (Ea (.v 1)))))) (.cons (.ret (.pr true .rev (Ea (.v 1)))) .nil) .nil) (.cons (.ret (.c .non)) .nil)))
noncomputable def b10:bV:=(.cons (.iff (.not (.call 4 (Ea (.v 0)))) (.cons .no .nil) .nil) .nil)
noncomputable def TV:bV:=(.cons (.ret (.pr true .inn (Eb (.call 9 (Eb (Ei (.v 0) (Ci 0)) (.tup (Eb (.v 1) (.v 2))))) (Ei (.v 0) (Ci 1))))) .nil)
noncomputable def b12:bV:=(.cons (.ret (.iB true (.tup (Eb (.v 0) (.v 1))) [0] (.rg (Ci 0) (.v 0)) [1] (.rg (.pr true .add (Eb (.v 0) (Ci 1))) (.v 2)) [0] 2 .no)) .nil)
noncomputable def TX:bV:=(.cons (.asg (.nm 2) (.comp true (.ite (.pr true .eq (Eb (.v 0) (.v 2))) (.v 1) (.v 0)) [0,1] (.seq (Ei (.v 0) (Ci 1))) [1] 2 (.yes (.pr true .inn (Eb (.v 2) (.tup (Eb (.v 0) (.v 1)))))))) (.cons (.ret (.pr true .tuple (Ea (.pr true .sorted (Ea (.v 2)))))) .nil))
noncomputable def TY:bV:=(.cons (.ret (.comp true (.call 13 (Eb (.v 1) (.v 0))) [0] (.rg (Ci 0) (Ei (.v 0) (Ci 0))) [0] 1 .no)) .nil)
noncomputable def T3:bV:=(.cons (.ret (.tup (.cons (.call 14 (Ea (.v 1))) (Ec (.pr true .Dv (Ea (.pr true .len (Ea (.v 2))))) (.v 2) (.v 3))))) .nil)
noncomputable def T4:bV:=(.cons (.ret (Ei (Ei (.of (.v 0) 0 2) (.v 1)) (.v 2))) .nil)
noncomputable def T5:bV:=(.cons (.asg (.nm 4) (.pr false .list (Ea (.v 1)))) (.cons (.asg (.aq (.v 4) (.v 2)) (.c .non)) (.cons (.fr (.nm 5) (.seq (Ei (.of (.v 0) 0 0) (.v 2))) (.cons (.iff (.pr true .sG (Ea (Ei (.v 4) (.v 5)))) (.cons (.asg (.aq (.v 4) (.v 5)) (.pr true .tuple (Ea (.comp true (.v 0) [0] (.seq (Ei (.v 4) (.v 5))) [0,3] 1 (.yes (.cm 0 16 (.v 1) (Eb (.v 2) (.v 0)))))))) .nil) .nil) .nil)) (.cons (.ret (.pr true .tuple (Ea (.v 4)))) .nil))))
noncomputable def T6:bV:=(.cons (.ret (.pr true .len (Ea (.comp true (.v 0) [0] (.seq (Ei (.of (.v 0) 0 0) (.v 2))) [1] 1 (.yes (.pr true .sG (Ea (Ei (.v 1) (.v 0))))))))) .nil)
noncomputable def T7:bV:=(.cons (.ret (.pr true .tuple (Ea (.comp true (.ite (.pr true .gt (Eb (.cm 0 18 (.v 2) (Eb (.v 3) (.v 0))) (Ci 0))) (.v 1) (.c .non)) [0,1] (.enum (.v 1)) [0,1] 2 .no)))) .nil)
noncomputable def T8:bV:=(.cons (.asg (.nm 2) (.lst false .nil)) (.cons (.fr (.tp [3,4]) (.enum (.v 1)) (.cons (.iff (.pr true .sG (Ea (.v 4))) (.cons (.ex (.push (.v 2) (.tup (Ec (.pr true .len (Ea (.v 4))) (.pr true .neg (Ea (.cm 0 18 (.v 0) (Eb (.v 1) (.v 3))))) (.v 3))))) .nil) .nil) .nil)) (.cons (.ret (.ite (.Dw (.v 2)) (Ei (.pr true .rF (Ea (.v 2))) (Ci 2)) (.c .non))) .nil)))
noncomputable def T9:bV:=(.cons (.ret (.pr true .all (Ea (.comp true (.or (.pr true .vJ (Ea (.v 0))) (.pr true .eq (Eb (.v 0) (.of (.v 1) 0 1)))) [0] (.seq (.v 1)) [0] 1 .no)))) .nil)
noncomputable def T_:bV:=(.cons (.asg (.tp [2,3]) (.v 1)) (.cons (.asg (.nm 4) (.comp true (.pr true .ge (Eb (.pr true .min2 (Eb (.v 0) (.pr true .aq (Eb (.v 1) (.v 0))))) (.v 2))) [0] (.rg (Ci 0) (.v 2)) [2,3] 1 .no)) (.cons (.ret (.mk 0 15 (Ec (.v 0) (.comp true (.comp true (Ei (.v 1) (.pr true .aq (Eb (.v 2) (.v 0)))) [0] (.rg (Ci 0) (.v 1)) [2,0] 1 .no) [0] (.rg (Ci 0) (.v 2)) [2,4] 1 .no) (.c (.bl true))))) .nil)))
noncomputable def Ua:bV:=(.cons (.ret (.mk 0 15 (Ec (.v 0) (.comp true (.comp true (.pr true .inn (Eb (.v 0) (.v 1))) [0] (.rg (Ci 0) (Ei (.v 1) (Ci 0))) [0] 1 .no) [0] (.seq (.call 14 (Ea (.v 1)))) [1] 1 .no) (.c (.bl false))))) .nil)
noncomputable def Ub:bV:=(.cons (.iff (.not (.call 2 (Eb (.v 0) (Ci 2)))) (.cons (.ret (.c (.bl false))) .nil) .nil) (.cons (.asg (.tp [1,2]) (.v 0)) (.cons (.ret (.and (.call 1 (Ec (.v 1) (Ci 1) (Ci 24))) (.call 1 (Ec (.v 2) (Ci 1) (.v 1))))) .nil)))
noncomputable def Uc:bV:=(.cons (.iff (.not (.call 24 (Ea (.v 0)))) (.cons .no .nil) .nil) .nil)
noncomputable def b26:bV:=(.cons (.asg (.nm 3) (.pr true .abs (Ea (.pr true .aq (Eb (.v 1) (.v 2)))))) (.cons (.ret (.pr true .min2 (Eb (.v 3) (.pr true .aq (Eb (Ei (.v 0) (Ci 0)) (.v 3)))))) .nil))
noncomputable def Ud:bV:=(.cons (.asg (.nm 2) (.call 28 (Eb (.v 0) (.v 1)))) (.cons (.ret (.pr true .mul (Eb (Ei (.v 1) (Ci 0)) (.v 2)))) .nil))
noncomputable def Ue:bV:=(.cons (.ex (.call 30 (Eb (.v 0) (.v 1)))) (.cons (.ret (.pr true .len (Ea (.call 31 (Eb (.v 0) (.v 1)))))) .nil))
noncomputable def Ug:bV:=(.cons (.ex (.call 30 (Eb (.v 0) (.v 1)))) (.cons (.asg (.nm 2) (.call 31 (Eb (.v 0) (.v 1)))) (.cons (.ex (.call 3 (Eb (.pr true .len (Ea (.v 2))) (Ci 300)))) (.cons (.ret (.v 2)) .nil))))
noncomputable def Uh:bV:=(.cons (.ex (.call 10 (Ea (.v 0)))) (.cons (.ex (.call 25 (Ea (.v 1)))) (.cons (.ex (.call 3 (Eb (Ei (.v 0) (Ci 0)) (Ci 6)))) (.cons (.ex (.call 3 (Eb (Ei (.v 1) (Ci 0)) (Ci 8)))) .nil))))
noncomputable def Ui:bV:=(.cons (.asg (.nm 2) (.call 22 (Eb (.v 0) (.v 1)))) (.cons (.asg (.nm 3) (.lst true (Ea (.tup (Ea (Ci 0)))))) (.cons (.fr (.nm 4) (.rg (Ci 1) (Ei (.v 0) (Ci 0))) (.cons (.asg (.nm 5) (.comp true (.v 0) [0] (.seq (Ei (.of (.v 2) 0 0) (.v 4))) [4] 1 (.yes (.pr true .lt (Eb (.v 0) (.v 1)))))) (.cons (.asg (.nm 3) (.iB true (.pr true .add (Eb (.v 0) (.tup (Ea (.v 1))))) [0] (.seq (.v 3)) [1] (.seq (.of (.v 2) 0 1)) [2,5] 2 (.yes (.call 32 (.cons (.v 2) (Ec (.v 0) (.v 3) (.v 1))))))) .nil))) (.cons (.ret (.v 3)) .nil))))
noncomputable def Uj:bV:=(.cons (.ret (.pr true .all (Ea (.comp true (.cm 0 16 (.v 1) (Eb (.v 2) (Ei (.v 3) (.v 0)))) [0] (.seq (.v 2)) [0,3,1] 1 .no)))) .nil)
noncomputable def Uk:bV:=(.cons (.ex (.call 10 (Ea (.v 0)))) (.cons (.ex (.call 25 (Ea (.v 1)))) (.cons (.asg (.nm 2) (.call 22 (Eb (.v 0) (.v 1)))) (.cons (.ret (.call 34 (Eb (.v 2) (.comp true (.of (.v 1) 0 1) [0] (.rg (Ci 0) (Ei (.v 0) (Ci 0))) [2] 1 .no)))) .nil))))
noncomputable def Ul:bV:=(.cons (.asg (.nm 2) (.pr true .tuple (Ea (.v 1)))) (.cons (.asg (.nm 3) .rH) (.cons (.iff (.not (.call 36 (Ec (.v 0) (.v 3) (.v 2)))) (.cons (.ret (.c .non)) .nil) .nil) (.cons (.asg (.nm 4) (.lst false .nil)) (.cons (.fr (.nm 5) (.rg (Ci 0) (.pr true .len (Ea (.v 1)))) (.cons (.asg (.nm 6) (.call 35 (.cons (.v 0) (Ec (.v 3) (.v 2) (.v 5))))) (.cons (.asg (.nm 2) (.cm 0 17 (.v 0) (Ec (.v 2) (.v 5) (.v 6)))) (.cons (.ex (.push (.v 4) (.v 6))) .nil)))) (.cons (.ret (.pr true .tuple (Ea (.v 4)))) .nil))))))
noncomputable def M7:bV:=(.cons (.fr (.nm 4) (.seq (Ei (.v 2) (.v 3))) (.cons (.iff (.call 36 (Ec (.v 0) (.v 1) (.cm 0 17 (.v 0) (Ec (.v 2) (.v 3) (.v 4))))) (.cons (.ret (.v 4)) .nil) .nil) .nil)) (.cons (.ret (.c .non)) .nil))
noncomputable def Um:bV:=(.cons (.iff (.pr true .inn (Eb (.tup .nil) (.v 2))) (.cons (.ret (.c (.bl false))) .nil) .nil) (.cons (.asg (.nm 3) (.cm 0 19 (.v 0) (Ea (.v 2)))) (.cons (.iff (.Bc false (.v 3) (.v 1)) (.cons (.dput (.v 1) (.v 3) (.call 37 (Ec (.v 0) (.v 1) (.v 3)))) .nil) .nil) (.cons (.ret (.pP (.v 1) (.v 3))) .nil))))
noncomputable def JD:bV:=(.cons (.asg (.nm 3) (.cm 0 20 (.v 0) (Ea (.v 2)))) (.cons (.iff (.pr true .vJ (Ea (.v 3))) (.cons (.ret (.c (.bl true))) .nil) .nil) (.cons (.iff (.and (.of (.v 0) 0 3) (.cm 0 21 (.v 0) (Ea (.v 2)))) (.cons (.ret (.call 36 (Ec (.v 0) (.v 1) (.cm 0 17 (.v 0) (Ec (.v 2) (.v 3) (Ci 0)))))) .nil) .nil) (.cons (.ret (.pr true .sG (Ea (.call 35 (.cons (.v 0) (Ec (.v 1) (.v 2) (.v 3))))))) .nil))))
noncomputable def Uo:bV:=(.cons (.ex (.call 10 (Ea (.v 0)))) (.cons (.ex (.call 10 (Ea (.v 1)))) (.cons (.iff (.or (.not (.call 2 (Eb (.v 2) (Ei (.v 0) (Ci 0))))) (.not (.pr true .all (Ea (.comp true (.call 7 (Eb (Ei (.v 1) (Ci 0)) (.v 0))) [0] (.seq (.v 2)) [1] 1 .no))))) (.cons (.ret (.c (.bl false))) .nil) .nil) (.cons (.ret (.pr true .all (Ea (.comp true (.call 11 (Ec (.v 2) (Ei (.v 3) (.v 0)) (Ei (.v 3) (.v 1)))) [0,1] (.seq (Ei (.v 0) (Ci 1))) [1,2] 2 .no)))) .nil))))
noncomputable def Uq:bV:=(.cons (.ex (.call 10 (Ea (.v 0)))) (.cons (.ex (.call 10 (Ea (.v 1)))) (.cons (.asg (.nm 2) (.call 23 (Eb (.v 0) (.v 1)))) (.cons (.ret (.call 34 (Eb (.v 2) (.comp true (.of (.v 1) 0 1) [0] (.rg (Ci 0) (Ei (.v 0) (Ci 0))) [2] 1 .no)))) .nil))))
noncomputable def Ur:bV:=(.cons (.ret (.pr true .sG (Ea (.call 33 (Eb (.v 0) (.v 1)))))) .nil)
noncomputable def Us:bV:=(.cons (.asg (.nm 1) (Ci 1)) (.cons (.wh (.not (.call 40 (Eb (.v 0) (.tup (Eb (.v 1) (Ci 1)))))) (.cons (.aug 1 (Ci 1)) .nil)) (.cons (.ret (.v 1)) .nil)))
noncomputable def b42:bV:=(.cons (.ex (.call 25 (Ea (.v 0)))) (.cons (.asg (.tp [1,2]) (.v 0)) (.cons (.ex (.call 3 (Eb (.v 1) (Ci 8)))) (.cons (.ret (.call 5 (Eb (.v 1) (.comp true (.tup (Eb (.v 0) (.v 1))) [0,1] (.seq (.call 12 (Ea (.v 1)))) [0,2] 2 (.yes (.pr true .ge (Eb (.call 26 (Ec (.v 2) (.v 0) (.v 1))) (.v 3)))))))) .nil))))
noncomputable def Ut:bV:=(.cons (.iff (.pr true .lt (Eb (.v 1) (.pr true .len (Ea (.v 0))))) (.cons (.ret (Ei (.v 0) (.v 1))) .nil) .nil) (.cons (.ret (Ci 0)) .nil))
noncomputable def Uu:bV:=(.cons (.asg (.nm 1) (.pr true .max2 (Eb (.v 0) (.pr true .aq (Eb (Ci 0) (.v 0)))))) (.cons (.ret (.lst false (Eb (.v 1) (.pr true .wQ (Ea (.pr true .ge (Eb (.v 1) (.pr true .pow (Eb (Ci 10) (Ci 18)))))))))) .nil))
noncomputable def Uv:bV:=(.cons (.iff (.pr true .eq (Eb (Ei (.v 0) (Ci 1)) (Ci 1))) (.cons (.asg (.tp [2,3]) (.pr true .divmod (Eb (Ei (.v 0) (Ci 0)) (.v 1)))) (.cons (.asg (.aq (.v 0) (Ci 0)) (.v 2)) (.cons (.ret (.v 3)) .nil))) .nil) (.cons (.asg (.nm 4) (.pr true .mod (Eb (.pr true .mul (Eb (.pr true .add (Eb (.pr true .mod (Eb (Ei (.v 0) (Ci 0)) (Ci 2147483647))) (Ci 40503))) (Ci 69621))) (Ci 2147483629)))) (.cons (.asg (.nm 4) (.pr true .mod (Eb (.pr true .add (Eb (.pr true .mul (Eb (.v 4) (.v 4))) (Ci 7817))) (Ci 2147483587)))) (.cons (.asg (.aq (.v 0) (Ci 0)) (.pr true .mod (Eb (.pr true .add (Eb (.pr true .mul (Eb (.v 4) (Ci 48271))) (Ci 11))) (Ci 2147483629)))) (.cons (.ret (.pr true .mod (Eb (.pr true .fdiv (Eb (Ei (.v 0) (Ci 0)) (Ci 32))) (.v 1)))) .nil)))))
noncomputable def Uw:bV:=(.cons (.asg (.nm 2) (Ei (.lst true (Ec (Ci 2) (Ci 4) (Ci 6))) (.call 45 (Eb (.v 0) (Ci 3))))) (.cons (.asg (.nm 3) (.lst true .nil)) (.cons (.fr (.nm 4) (.rg (Ci 0) (.v 1)) (.cons (.asg (.nm 3) (.pr true .add (Eb (.v 3) (.comp true (.tup (Eb (.v 1) (.v 0))) [0] (.rg (.pr true .add (Eb (.v 4) (Ci 1))) (.v 1)) [4,0,2] 1 (.yes (.pr true .lt (Eb (.call 45 (Eb (.v 2) (Ci 8))) (.v 3)))))))) .nil)) (.cons (.ret (.tup (Eb (.v 1) (.pr true .tuple (Ea (.v 3)))))) .nil))))
noncomputable def Ux:bV:=(.cons (.asg (.nm 1) (.lst true (.cons (.tup (Eb (Ci 2) (Ci 1))) (.cons (.tup (Eb (Ci 3) (Ci 1))) (.cons (.tup (Eb (Ci 4) (Ci 1))) (.cons (.tup (Eb (Ci 5) (Ci 2))) (.cons (.tup (Eb (Ci 5) (Ci 1))) (.cons (.tup (Eb (Ci 4) (Ci 2))) (.cons (.tup (Eb (Ci 6) (Ci 2))) (.cons (.tup (Eb (Ci 7) (Ci 3))) (.cons (.tup (Eb (Ci 7) (Ci 2))) (Ec (.tup (Eb (Ci 8) (Ci 3))) (.tup (Eb (Ci 3) (Ci 2))) (.tup (Eb (Ci 1) (Ci 1))))))))))))))) (.cons (.ret (Ei (.v 1) (.call 45 (Eb (.v 0) (Ci 12))))) .nil))
noncomputable def b48:bV:=(.cons (.asg (.nm 1) (.lst true .nil)) (.cons (.fr (.nm 2) (.rg (Ci 0) (.v 0)) (.cons (.asg (.nm 1) (.pr true .add (Eb (.v 1) (.comp true (.tup (Eb (.v 1) (.v 0))) [0] (.rg (.pr true .add (Eb (.v 2) (Ci 1))) (.v 0)) [2] 1 .no)))) .nil)) (.cons (.ret (.tup (Eb (.v 0) (.pr true .tuple (Ea (.v 1)))))) .nil)))
noncomputable def Uy:bV:=(.cons (.asg (.tp [2,3]) (.v 1)) (.cons (.asg (.nm 4) (.call 42 (Ea (.v 1)))) (.cons (.iff (.pr true .lt (Eb (.call 28 (Eb (.v 0) (.v 1))) (Ci 301))) (.cons (.iff (.pr true .ne (Eb (.comp true (.v 0) [0] (.seq (.call 29 (Eb (.v 0) (.v 1)))) [0,4] 1 (.yes (.not (.call 38 (Ec (.v 1) (.v 2) (.v 0)))))) (.lst true .nil))) (.cons (.ret (.c (.bl false))) .nil) .nil) .nil) .nil) (.cons (.iff (.pr true .ne (Eb (.call 39 (Eb (.v 0) (.v 4))) (.call 33 (Eb (.v 0) (.v 1))))) (.cons (.ret (.c (.bl false))) .nil) .nil) (.cons (.iff (.and (.pr true .lt (Eb (.v 2) (Ci 5))) (.pr true .lt (Eb (.call 27 (Eb (.v 0) (.tup (Eb (.pr true .mul (Eb (Ci 2) (.v 2))) (.pr true .mul (Eb (Ci 2) (.v 3))))))) (.call 27 (Eb (.v 0) (.v 1)))))) (.cons (.ret (.c (.bl false))) .nil) .nil) (.cons (.asg (.nm 5) (.call 41 (Ea (.v 0)))) (.cons (.iff (.pr true .eq (Eb (.call 27 (Eb (.v 0) (.tup (Eb (.v 5) (Ci 1))))) (Ci 0))) (.cons (.ret (.c (.bl false))) .nil) .nil) (.cons (.ret (.or (.pr true .lt (Eb (.v 5) (Ci 2))) (.pr true .eq (Eb (.call 27 (Eb (.v 0) (.tup (Eb (.pr true .aq (Eb (.v 5) (Ci 1))) (Ci 1))))) (Ci 0))))) .nil))))))))
noncomputable def Uz:bV:=(.cons (.fr (.nm 1) (.seq (.pr true .add (Eb (.lst true (Ea (.call 43 (Eb (.v 0) (Ci 0))))) (.sl true (.v 0) (.yes (Ci 1)) (.yes (Ci 3)))))) (.cons (.asg (.nm 2) (.call 44 (Ea (.v 1)))) (.cons (.asg (.nm 3) (.call 47 (Ea (.v 2)))) (.cons (.iff (.not (.call 49 (Eb (.call 46 (Eb (.v 2) (.pr true .add (Eb (Ci 1) (.call 45 (Eb (.v 2) (Ci 4))))))) (.v 3)))) (.cons (.ret (.c (.bl false))) .nil) .nil) (.cons (.asg (.tp [4,5]) (.v 3)) (.cons (.iff (.pr true .ne (Eb (.call 27 (Eb (.tup (Eb (Ci 2) (.tup (Ea (.tup (Eb (Ci 0) (Ci 1))))))) (.v 3))) (.pr true .mul (Eb (.v 4) (.pr true .max2 (Eb (Ci 0) (.pr true .add (Eb (.pr true .aq (Eb (.v 4) (.pr true .mul (Eb (Ci 2) (.v 5))))) (Ci 1))))))))) (.cons (.ret (.c (.bl false))) .nil) .nil) (.cons (.asg (.nm 6) (.pr true .add (Eb (Ci 2) (.call 45 (Eb (.v 2) (Ci 4)))))) (.cons (.asg (.nm 7) (.call 27 (Eb (.call 48 (Ea (.v 6))) (.v 3)))) (.cons (.iff (.pr true .ne (Eb (.pr true .gt (Eb (.v 7) (Ci 0))) (.pr true .ge (Eb (.v 4) (.pr true .mul (Eb (.v 6) (.v 5))))))) (.cons (.ret (.c (.bl false))) .nil) .nil) .nil))))))))) (.cons (.ret (.c (.bl true))) .nil))
noncomputable def T(n:Nat):Option Df:=([⟨1,1,b0⟩,⟨3,3,b1⟩,⟨2,2,b2⟩,⟨2,2,b3⟩,⟨3,1,b4⟩,⟨6,2,b5⟩,⟨1,1,b6⟩,⟨2,2,b7⟩,⟨4,2,b8⟩,⟨2,2,b9⟩,⟨1,1,b10⟩,⟨3,3,TV⟩,⟨1,1,b12⟩,⟨3,2,TX⟩,⟨1,1,TY⟩,⟨4,4,T3⟩,⟨3,3,T4⟩,⟨6,4,T5⟩,⟨3,3,T6⟩,⟨2,2,T7⟩,⟨5,2,T8⟩,⟨2,2,T9⟩,⟨5,2,T_⟩,⟨2,2,Ua⟩,⟨3,1,Ub⟩,⟨1,1,Uc⟩,⟨4,3,b26⟩,⟨3,2,Ud⟩,⟨2,2,Ue⟩,⟨3,2,Ug⟩,⟨2,2,Uh⟩,⟨6,2,Ui⟩,⟨4,4,Uj⟩,⟨3,2,Uk⟩,⟨7,2,Ul⟩,⟨5,4,M7⟩,⟨4,3,Um⟩,⟨4,3,JD⟩,⟨3,3,Uo⟩,⟨3,2,Uq⟩,⟨2,2,Ur⟩,⟨2,1,Us⟩,⟨3,1,b42⟩,⟨2,2,Ut⟩,⟨2,1,Uu⟩,⟨5,2,Uv⟩,⟨5,2,Uw⟩,⟨2,1,Ux⟩,⟨3,1,b48⟩,⟨6,2,Uy⟩,⟨8,1,Uz⟩]:List Df)[n]?
theorem T_0:T 0=some ⟨1,1,b0⟩:=rfl
theorem T_1:T 1=some ⟨3,3,b1⟩:=rfl
theorem T_2:T 2=some ⟨2,2,b2⟩:=rfl
theorem T_3:T 3=some ⟨2,2,b3⟩:=rfl
theorem T_4:T 4=some ⟨3,1,b4⟩:=rfl
theorem T_5:T 5=some ⟨6,2,b5⟩:=rfl
theorem T_6:T 6=some ⟨1,1,b6⟩:=rfl
theorem T_7:T 7=some ⟨2,2,b7⟩:=rfl
theorem UG:T 8=some ⟨4,2,b8⟩:=rfl
theorem T_9:T 9=some ⟨2,2,b9⟩:=rfl
theorem zor:T 10=some ⟨1,1,b10⟩:=rfl
theorem zoy:T 11=some ⟨3,3,TV⟩:=rfl
theorem zoN:T 12=some ⟨1,1,b12⟩:=rfl
theorem zop:T 13=some ⟨3,2,TX⟩:=rfl
theorem zoE:T 14=some ⟨1,1,TY⟩:=rfl
theorem zoC:T 15=some ⟨4,4,T3⟩:=rfl
theorem zn5:T 16=some ⟨3,3,T4⟩:=rfl
theorem zot:T 17=some ⟨6,4,T5⟩:=rfl
theorem zoq:T 18=some ⟨3,3,T6⟩:=rfl
theorem zoI:T 19=some ⟨2,2,T7⟩:=rfl
theorem zol:T 20=some ⟨5,2,T8⟩:=rfl
theorem zn1:T 21=some ⟨2,2,T9⟩:=rfl
theorem zof:T 22=some ⟨5,2,T_⟩:=rfl
theorem zoe:T 23=some ⟨2,2,Ua⟩:=rfl
theorem zov:T 24=some ⟨3,1,Ub⟩:=rfl
theorem zoj:T 25=some ⟨1,1,Uc⟩:=rfl
theorem zoQ:T 26=some ⟨4,3,b26⟩:=rfl
theorem zoz:T 27=some ⟨3,2,Ud⟩:=rfl
theorem zoB:T 28=some ⟨2,2,Ue⟩:=rfl
theorem zoH:T 29=some ⟨3,2,Ug⟩:=rfl
theorem zoF:T 30=some ⟨2,2,Uh⟩:=rfl
theorem zoi:T 31=some ⟨6,2,Ui⟩:=rfl
theorem zoh:T 32=some ⟨4,4,Uj⟩:=rfl
theorem zob:T 33=some ⟨3,2,Uk⟩:=rfl
theorem zox:T 34=some ⟨7,2,Ul⟩:=rfl
theorem UJ:T 35=some ⟨5,4,M7⟩:=rfl
theorem zn2:T 36=some ⟨4,3,Um⟩:=rfl
theorem M8:T 37=some ⟨4,3,JD⟩:=rfl
theorem zok:T 38=some ⟨3,3,Uo⟩:=rfl
theorem zom:T 39=some ⟨3,2,Uq⟩:=rfl
theorem zoc:T 40=some ⟨2,2,Ur⟩:=rfl
theorem zoG:T 41=some ⟨2,1,Us⟩:=rfl
theorem zoP:T 42=some ⟨3,1,b42⟩:=rfl
theorem zog:T 43=some ⟨2,2,Ut⟩:=rfl
theorem zn9:T 44=some ⟨2,1,Uu⟩:=rfl
theorem zn6:T 45=some ⟨5,2,Uv⟩:=rfl
theorem zn8:T 46=some ⟨5,2,Uw⟩:=rfl
theorem zou:T 47=some ⟨2,1,Ux⟩:=rfl
theorem zoL:T 48=some ⟨3,1,b48⟩:=rfl
theorem zon:T 49=some ⟨6,2,Uy⟩:=rfl
theorem zn3:T 50=some ⟨8,1,Uz⟩:=rfl
noncomputable def aq:Nat->Nat->Bool:=λc e=>(let n:=λc=>if c<0 then c else 0;n e==0||n c==n e)
end dX
namespace dX
open PySem PySem.Spec PyProof.Rows L2 Mi
abbrev LK(i:Nat)(x:Str)(k:NameKind):Prop:=(au (top i)).names.lookup x=some k
noncomputable abbrev gI:NameKind:=.globalImplicit
abbrev N4:List Str:=["thing","many","ties"]
abbrev N12:List Str:=["many"]
abbrev N13:List Str:=["web","place","ends"]
abbrev N14:List Str:=["web"]
abbrev N17:List Str:=["self","free","place","spot","left","end"]
abbrev N18:List Str:=["self","free","place"]
abbrev N19:List Str:=["self","free"]
abbrev N21:List Str:=["self","free"]
abbrev UL:List Str:=["web","ring","k","d","wide"]
abbrev N23:List Str:=["web","other"]
abbrev UW:List Str:=["web","ring","board","rows","place","ahead"]
abbrev N32:List Str:=["board","row","ahead","spot"]
abbrev N33:List Str:=["web","ring","board"]
abbrev U6:List Str:=["web","other","thing"]
abbrev N39:List Str:=["web","other","board"]
abbrev N42:List Str:=["ring","k","d"]
abbrev N46:List Str:=["_law_pen_here","_law_many","_law_often","_law_ties","_law_one"]
abbrev N48:List Str:=["_law_many","_law_ties","_law_one"]
abbrev N49:List Str:=["_law_web_here","_law_ring","_law_k","_law_d","_law_there","_law_few"]
noncomputable def cl(K:W.Frag):Cl:=⟨iV (lk.L K),λ_=>[],λ_=>dR K "Board",λ_=>["ends","spots","apart","alike"]⟩
structure Top(K:W.Frag)(mg:Str->Option Value):Prop where
 d0:D3 K mg "is_whole" (top 6) ["thing"]
 d1:D3 K mg "is_within" (top 7) ["thing","least","most"]
 d2:D3 K mg "is_row" (top 8) ["thing","many"]
 d3:D3 K mg "check_most" (top 9) ["many","most"]
 d4:D3 K mg "is_web" (top 12) ["thing"]
 d5:D3 K mg "web_of" (top 13) ["many","things"]
 d6:D3 K mg "is_many" (top 14) ["thing"]
 d7:D3 K mg "is_place" (top 15) ["many","thing"]
 d8:D3 K mg "is_tie" (top 16) ["many","thing"]
 d9:D3 K mg "tie_by" (top 17) ["many","thing"]
 zm:D3 K mg "check_web" (top 18) ["thing"]
 U7:D3 K mg "are_tied" (top 19) ["web","one","other"]
 U8:D3 K mg "all_pairs" (top 20) ["many"]
 U9:D3 K mg "tied_to" (top 21) ["web","place"]
 M9:D3 K mg "all_ends" (top 22) ["web"]
 M_:D3 K mg "ring_board" (top 25) ["web","ring"]
 U_:D3 K mg "map_board" (top 26) ["web","other"]
 Va:D3 K mg "is_ring" (top 29) ["thing"]
 JF:D3 K mg "check_ring" (top 30) ["thing"]
 Vb:D3 K mg "gap_of" (top 31) ["ring","one","other"]
 zp:D3 K mg "hues_many" (top 36) ["web","ring"]
 Nb:D3 K mg "fixed_many" (top 37) ["web","ring"]
 Vc:D3 K mg "all_fixed" (top 38) ["web","ring"]
 Nf:D3 K mg "check_few" (top 39) ["web","ring"]
 Ng:D3 K mg "fixed_rows" (top 40) ["web","ring"]
 Vd:D3 K mg "is_free" (top 41) ["board","row","ahead","spot"]
 Nh:D3 K mg "first_hues" (top 43) ["web","ring"]
 Ni:D3 K mg "first_among" (top 44) ["board","choices"]
 Nj:D3 K mg "first_spot" (top 45) ["board","answers","free","place"]
 JL:D3 K mg "can_settle" (top 46) ["board","answers","free"]
 Ve:D3 K mg "search" (top 47) ["board","answers","free"]
 Vf:D3 K mg "map_holds" (top 49) ["web","other","thing"]
 Vg:D3 K mg "first_map" (top 50) ["web","other"]
 Vh:D3 K mg "has_room" (top 52) ["web","ring"]
 Vi:D3 K mg "fewest_plain" (top 54) ["web"]
 Vj:D3 K mg "ring_web" (top 56) ["ring"]
 Vk:D3 K mg "_law_cell" (top 58) ["_law_script","_law_k"]
 Vl:D3 K mg "_law_pen" (top 59) ["_law_cell_here"]
 Cm:D3 K mg "_law_draw" (top 60) ["_law_pen_here","_law_many"]
 Vm:D3 K mg "_law_web" (top 61) ["_law_pen_here","_law_many"]
 Vn:D3 K mg "_law_small_ring" (top 62) ["_law_pen_here"]
 Vo:D3 K mg "_law_all_tied" (top 63) ["_law_many"]
 Vp:D3 K mg "_law_right" (top 64) ["_law_web_here","_law_ring"]
 Nk:D3 K mg "law" (top 65) ["_law_script"]
 dJ:∃t,mg "MOST_PLACES"=some (.int 8 t)
 iI:∃t,mg "MOST_SPOTS"=some (.int 24 t)
 iJ:∃t,mg "FEW_PLACES"=some (.int 6 t)
 jq:∃t,mg "FEW_SPOTS"=some (.int 8 t)
 jr:∃t,mg "MOST_TOLD"=some (.int 300 t)
 z12:mg "abs"=none
 z6:mg "all"=none
 z2:mg "bool"=none
 z14:mg "divmod"=none
 z8:mg "enumerate"=none
 z1:mg "int"=none
 z0:mg "isinstance"=none
 z4:mg "len"=none
 z10:mg "list"=none
 Vq:mg "max"=none
 Nm:mg "min"=none
 z9:mg "range"=none
 z7:mg "sorted"=none
 z3:mg "tuple"=none
 z5:mg "zip"=none
 ow:Ow K (cl K) 0
 mq:Mk K ((cl K).b 0) (gZ K ((cl K).b 0) "__init__")
 mc:mg "Board"=some (.ref ((cl K).b 0))
 Np:Mt K ((cl K).b 0) "__init__" "Board.__init__" Dj ["self","web","apart","alike"] (gZ K ((cl K).b 0) "__init__") (jE K ((cl K).b 0) "__init__" Dj)
 Nq:Mt K ((cl K).b 0) "far_apart" "Board.far_apart" Gi ["self","spot","other"] (gZ K ((cl K).b 0) "far_apart") (jE K ((cl K).b 0) "far_apart" Gi)
 JM:Mt K ((cl K).b 0) "settled" "Board.settled" Dk ["self","free","place","spot"] (gZ K ((cl K).b 0) "settled") (jE K ((cl K).b 0) "settled" Dk)
 Nr:Mt K ((cl K).b 0) "ties_left" "Board.ties_left" Dl ["self","free","place"] (gZ K ((cl K).b 0) "ties_left") (jE K ((cl K).b 0) "ties_left" Dl)
 Vr:Mt K ((cl K).b 0) "bound" "Board.bound" Dm ["self","free"] (gZ K ((cl K).b 0) "bound") (jE K ((cl K).b 0) "bound" Dm)
 Vt:Mt K ((cl K).b 0) "narrowest" "Board.narrowest" Gj ["self","free"] (gZ K ((cl K).b 0) "narrowest") (jE K ((cl K).b 0) "narrowest" Gj)
 Vu:Mt K ((cl K).b 0) "all_free" "Board.all_free" Dn ["self","free"] (gZ K ((cl K).b 0) "all_free") (jE K ((cl K).b 0) "all_free" Dn)
theorem zlZ{K:W.Frag}{h:Heap}{mg:Str->Option Value}(Sb:qU fs ms xs lk bd K)(X:K.In h)(G:h.Ns mainGlobals mg):Top K mg where
 d0:=qR Sb.i X G 0
 d1:=Em Sb.i X G 1
 d2:=kI Sb.i X G 2
 d3:=kI Sb.i X G 3
 d4:=qR Sb.i X G 4
 d5:=kI Sb.i X G 5
 d6:=qR Sb.i X G 6
 d7:=kI Sb.i X G 7
 d8:=kI Sb.i X G 8
 d9:=kI Sb.i X G 9
 zm:=qR Sb.i X G 10
 U7:=Em Sb.i X G 11
 U8:=qR Sb.i X G 12
 U9:=kI Sb.i X G 13
 M9:=qR Sb.i X G 14
 M_:=kI Sb.i X G 15
 U_:=kI Sb.i X G 16
 Va:=qR Sb.i X G 17
 JF:=qR Sb.i X G 18
 Vb:=Em Sb.i X G 19
 zp:=kI Sb.i X G 20
 Nb:=kI Sb.i X G 21
 Vc:=kI Sb.i X G 22
 Nf:=kI Sb.i X G 23
 Ng:=kI Sb.i X G 24
 Vd:=Zh Sb.i X G 25
 Nh:=kI Sb.i X G 26
 Ni:=kI Sb.i X G 27
 Nj:=Zh Sb.i X G 28
 JL:=Em Sb.i X G 29
 Ve:=Em Sb.i X G 30
 Vf:=Em Sb.i X G 31
 Vg:=kI Sb.i X G 32
 Vh:=kI Sb.i X G 33
 Vi:=qR Sb.i X G 34
 Vj:=qR Sb.i X G 35
 Vk:=kI Sb.i X G 36
 Vl:=qR Sb.i X G 37
 Cm:=kI Sb.i X G 38
 Vm:=kI Sb.i X G 39
 Vn:=qR Sb.i X G 40
 Vo:=qR Sb.i X G 41
 Vp:=kI Sb.i X G 42
 Nk:=qR Sb.i X G 43
 dJ:=Jg (Sb.i.gd.it ("MOST_PLACES",8) (mG 0)) X G
 iI:=Jg (Sb.i.gd.it ("MOST_SPOTS",24) (mG 1)) X G
 iJ:=Jg (Sb.i.gd.it ("FEW_PLACES",6) (mG 2)) X G
 jq:=Jg (Sb.i.gd.it ("FEW_SPOTS",8) (mG 3)) X G
 jr:=Jg (Sb.i.gd.it ("MOST_TOLD",300) (mG 4)) X G
 z12:=qb (Sb.i.gd.no "abs" (mG 0)) X G
 z6:=qb (Sb.i.gd.no "all" (mG 1)) X G
 z2:=qb (Sb.i.gd.no "bool" (mG 2)) X G
 z14:=qb (Sb.i.gd.no "divmod" (mG 3)) X G
 z8:=qb (Sb.i.gd.no "enumerate" (mG 4)) X G
 z1:=qb (Sb.i.gd.no "int" (mG 5)) X G
 z0:=qb (Sb.i.gd.no "isinstance" (mG 6)) X G
 z4:=qb (Sb.i.gd.no "len" (mG 7)) X G
 z10:=qb (Sb.i.gd.no "list" (mG 8)) X G
 Vq:=qb (Sb.i.gd.no "max" (mG 9)) X G
 Nm:=qb (Sb.i.gd.no "min" (mG 10)) X G
 z9:=qb (Sb.i.gd.no "range" (mG 11)) X G
 z7:=qb (Sb.i.gd.no "sorted" (mG 12)) X G
 z3:=qb (Sb.i.gd.no "tuple" (mG 13)) X G
 z5:=qb (Sb.i.gd.no "zip" (mG 14)) X G
 ow:=zni Sb.b rfl rfl (by decide +kernel)
 mq:=zny Sb.b (Sb.m ("__init__","Board.__init__",Dj) (mG 0)).2
 mc:=znH Sb.b X G
 Np:=zoo (Sb.m ("__init__","Board.__init__",Dj) (mG 0))
 Nq:=zn7 (Sb.m ("far_apart","Board.far_apart",Gi) (mG 1))
 JM:=zoo (Sb.m ("settled","Board.settled",Dk) (mG 2))
 Nr:=zn7 (Sb.m ("ties_left","Board.ties_left",Dl) (mG 3))
 Vr:=S9 (Sb.m ("bound","Board.bound",Dm) (mG 4))
 Vt:=S9 (Sb.m ("narrowest","Board.narrowest",Gj) (mG 5))
 Vu:=S9 (Sb.m ("all_free","Board.all_free",Dn) (mG 6))
abbrev FO(P:Program)(w:World)(K:W.Frag)(mg:Str->Option Value)(base:Heap)(k:Nat)(c:Bool)(x:Str)(i:Nat)(ps:List Str)(n:Nat):Prop:=cD P w K mg base (gJ P w) c k (iG K x) (fdOf K x (top i)) ps (lN K (cl K) (call aq T k c n))
abbrev FM(P:Program)(w:World)(K:W.Frag)(mg:Str->Option Value)(base:Heap)(k:Nat)(m:Str)(st:Stmt)(ps:List Str)(sp:Sp):Prop:=cD P w K mg base (gJ P w) true k (gZ K ((cl K).b 0) m) (jE K ((cl K).b 0) m st) ps sp
structure Fs(P:Program)(w:World)(K:W.Frag)(mg:Str->Option Value)(base:Heap)(k:Nat):Prop where
 t0:FO P w K mg base k true "is_whole" 6 ["thing"] 0
 t1:FO P w K mg base k true "is_within" 7 ["thing","least","most"] 1
 t2:FO P w K mg base k true "is_row" 8 ["thing","many"] 2
 t3:FO P w K mg base k true "check_most" 9 ["many","most"] 3
 t4:FO P w K mg base k true "is_web" 12 ["thing"] 4
 t5:FO P w K mg base k true "web_of" 13 ["many","things"] 5
 t6:FO P w K mg base k true "is_many" 14 ["thing"] 6
 t7:FO P w K mg base k true "is_place" 15 ["many","thing"] 7
 t8:FO P w K mg base k true "is_tie" 16 ["many","thing"] 8
 t9:FO P w K mg base k true "tie_by" 17 ["many","thing"] 9
 t10:FO P w K mg base k true "check_web" 18 ["thing"] 10
 t11:FO P w K mg base k true "are_tied" 19 ["web","one","other"] 11
 t12:FO P w K mg base k true "all_pairs" 20 ["many"] 12
 t13:FO P w K mg base k true "tied_to" 21 ["web","place"] 13
 Vv:FO P w K mg base k true "all_ends" 22 ["web"] 14
 Vw:FM P w K mg base k "__init__" Dj ["self","web","apart","alike"] (Mu K (cl K) 0 (call aq T k true 15))
 Vx:FM P w K mg base k "far_apart" Gi ["self","spot","other"] (lN K (cl K) (call aq T k true 16))
 Nt:FM P w K mg base k "settled" Dk ["self","free","place","spot"] (lN K (cl K) (call aq T k true 17))
 Vy:FM P w K mg base k "ties_left" Dl ["self","free","place"] (lN K (cl K) (call aq T k true 18))
 t19:FM P w K mg base k "bound" Dm ["self","free"] (lN K (cl K) (call aq T k true 19))
 t20:FM P w K mg base k "narrowest" Gj ["self","free"] (lN K (cl K) (call aq T k true 20))
 t21:FM P w K mg base k "all_free" Dn ["self","free"] (lN K (cl K) (call aq T k true 21))
 Vz:FO P w K mg base k true "ring_board" 25 ["web","ring"] 22
 t23:FO P w K mg base k true "map_board" 26 ["web","other"] 23
 t24:FO P w K mg base k true "is_ring" 29 ["thing"] 24
 Nu:FO P w K mg base k true "check_ring" 30 ["thing"] 25
 t26:FO P w K mg base k true "gap_of" 31 ["ring","one","other"] 26
 Cp:FO P w K mg base k true "hues_many" 36 ["web","ring"] 27
 VB:FO P w K mg base k true "fixed_many" 37 ["web","ring"] 28
 t29:FO P w K mg base k true "all_fixed" 38 ["web","ring"] 29
 VD:FO P w K mg base k true "check_few" 39 ["web","ring"] 30
 VF:FO P w K mg base k true "fixed_rows" 40 ["web","ring"] 31
 t32:FO P w K mg base k true "is_free" 41 ["board","row","ahead","spot"] 32
 VG:FO P w K mg base k true "first_hues" 43 ["web","ring"] 33
 VH:FO P w K mg base k true "first_among" 44 ["board","choices"] 34
 VJ:FO P w K mg base k true "first_spot" 45 ["board","answers","free","place"] 35
 Nv:FO P w K mg base k true "can_settle" 46 ["board","answers","free"] 36
 t37:FO P w K mg base k true "search" 47 ["board","answers","free"] 37
 t38:FO P w K mg base k true "map_holds" 49 ["web","other","thing"] 38
 t39:FO P w K mg base k true "first_map" 50 ["web","other"] 39
 t40:FO P w K mg base k true "has_room" 52 ["web","ring"] 40
 t41:FO P w K mg base k true "fewest_plain" 54 ["web"] 41
 t42:FO P w K mg base k true "ring_web" 56 ["ring"] 42
 t43:FO P w K mg base k true "_law_cell" 58 ["_law_script","_law_k"] 43
 t44:FO P w K mg base k true "_law_pen" 59 ["_law_cell_here"] 44
 Ey:FO P w K mg base k true "_law_draw" 60 ["_law_pen_here","_law_many"] 45
 t46:FO P w K mg base k true "_law_web" 61 ["_law_pen_here","_law_many"] 46
 t47:FO P w K mg base k true "_law_small_ring" 62 ["_law_pen_here"] 47
 t48:FO P w K mg base k true "_law_all_tied" 63 ["_law_many"] 48
 t49:FO P w K mg base k true "_law_right" 64 ["_law_web_here","_law_ring"] 49
 t50:FO P w K mg base k true "law" 65 ["_law_script"] 50
section
variable {P:Program}{w:World}{K:W.Frag}{mg:Str->Option Value}{base:Heap}{k:Nat}
theorem zjL(Tp:Top K mg)(Fk:Fs P w K mg base k):Fs P w K mg base (k+1) where
 t0:=fJ Tp.d0 ["thing"] T_0 λ_ _ _ _ _ _ hr=>(aG (bW (D_ (L_ rfl Tp.z0 gk (gv 0) (LR rfl Tp.z1 zkQ gk dk)) (BR (znW (L_ rfl Tp.z0 gk (gv 0) (LR rfl Tp.z2 zjz gk dk))))))
 aO)
 t1:=fJ Tp.d1 ["thing","least","most"] T_1 λ_ _ _ _ _ _ hr=>(aG (bW (D_ (gc Fk.t0 Tp.d0 hr bN gk (aA (gv 0) aH)) (BR (znq YJ YJ (gv 1) (gv 0) (gv 2)))))
 aO)
 t2:=fJ Tp.d2 ["thing","many"] T_2 λ_ _ _ _ _ _ hr=>(aG (bW (D_ (L_ rfl Tp.z0 gk (gv 0) (LR rfl Tp.z3 Lz gk dk)) (BR (sJ (Ed hr) (yP Tp.z4 gk (aA (gv 0) aH)) (gv 1)))))
 aO)
 t3:=fJ Tp.d3 ["many","most"] T_3 λ_ _ _ _ _ _ hr=>(aG (gW (m6 RL (gv 0) (gv 1)) (aG Jf
 aO) aO)
 aO)
 t4:=fJ Tp.d4 N4 T_4 λ_ _ _ _ _ _ hr=>(aG (gW (p8 (jW (gc Fk.t2 Tp.d2 hr bN gk (aA (gv 0) (aA aR aH))))) (aG (bW nu)
 aO) aO)
 (aG (yU 1 2 rfl rfl nd rfl rfl jc jl rfl rfl (gv 0))
 (aG (gW (Ef (RT (p8 (jW (gc Fk.t6 Tp.d6 hr bN gk (aA (gv 1) aH)))) (RP (p8 (jW (L_ rfl Tp.z0 gk (gv 2) (LR rfl Tp.z3 Lz gk dk))))))) (aG (bW nu)
 aO) aO)
 (aG (gW (p8 (jW (Eh rfl Tp.z6 gk (aA (lO (au (top 12)) N4 ["tie"] ["many"] [1] rfl rfl rfl (by decide +kernel) (by decide +kernel) (kj 0) (by decide +kernel) (oN (gv 2)) (λ_ _ _ _ _ _=>(kE 0 (by decide +kernel) rfl (by decide +kernel))) (λ_ _ _ _ _ _=>oM) (λ_ _ _ _ _ _=>(gc Fk.t8 Tp.d8 hr yS sV (aA (bK 1) (aA (bK 0) aH))))) aH)))) (aG (bW nu)
 aO) aO)
 (aG (bW (Eh rfl Tp.z6 gk (aA (lO (au (top 12)) N4 ["tie","later"] [] [] rfl rfl rfl (by decide +kernel) (by decide +kernel) (DQ 0 1) (by decide +kernel) (zno Tp.z5 gk (gv 2) (YM (gv 2) (RW aR) zoK)) (λ_ _ _ _ _ _=>(Jd 0 1 rfl (by decide +kernel) rfl rfl (by decide +kernel) (by decide +kernel))) (λ_ _ _ _ _ _=>oM) (λ_ _ _ _ _ _=>(sJ (xK hr) (bK 0) (bK 1)))) aH)))
 aO)))))
 t5:=fJ Tp.d5 ["many","things","ties","at","thing","tie"] T_5 λ_ _ _ _ _ _ hr=>(aG (gW (p8 (jW (gc Fk.t6 Tp.d6 hr bN gk (aA (gv 0) aH)))) (aG Jf
 aO) aO)
 (aG (fK 2 nd rfl jl rfl (uI aH))
 (aG (xP vO rfl rfl (Sg Tp.z8 gk (gv 1)) (YX 3 4 rfl rfl nd rfl rfl jl jl rfl rfl) (aG (fK 5 nd rfl jl rfl (gc Fk.t9 Tp.d9 hr bN gk (aA (gv 0) (aA (gv 4) aH))))
 (aG (gW (Ef (RT (YL (gv 5)) (RP (m6 (Ja hr) (gv 5) (gv 2))))) (aG Jf
 aO) aO)
 (aG (nA (RX (gv 2) (gv 5)))
 aO))))
 (aG (bW (gM (aA (gv 0) (aA (xO Tp.z3 gk (aA (Zc Tp.z7 gk (aA (gv 2) aH)) aH)) aH))))
 aO))))
 t6:=fJ Tp.d6 ["thing"] T_6 λ_ _ _ _ _ _ hr=>(aG (bW (gc Fk.t1 Tp.d1 hr bN gk (aA (gv 0) (aA aR (aA (DY Tp.dJ gk dk) aH)))))
 aO)
 t7:=fJ Tp.d7 ["many","thing"] T_7 λ_ _ _ _ _ _ hr=>(aG (bW (gc Fk.t1 Tp.d1 hr bN gk (aA (gv 1) (aA aR (aA (fG yN (gv 0) aR) aH)))))
 aO)
 t8:=fJ Tp.d8 ["many","thing","one","other"] UG λ_ _ _ _ _ _ hr=>(aG (gW (p8 (jW (gc Fk.t2 Tp.d2 hr bN gk (aA (gv 1) (aA aR aH))))) (aG (bW nu)
 aO) aO)
 (aG (yU 2 3 rfl rfl nd rfl rfl jl jl rfl rfl (gv 1))
 (aG (bW (D_ (gc Fk.t7 Tp.d7 hr bN gk (aA (gv 0) (aA (gv 2) aH))) (D_ (gc Fk.t7 Tp.d7 hr bN gk (aA (gv 0) (aA (gv 3) aH))) (BR (sJ (xK hr) (gv 2) (gv 3))))))
 aO)))
 t9:=fJ Tp.d9 ["many","thing"] T_9 λ_ _ _ _ _ _ hr=>(aG (gW (jW (gc Fk.t8 Tp.d8 hr bN gk (aA (gv 0) (aA (gv 1) aH)))) (aG (bW (gv 1))
 aO) aO)
 (aG (gW (Ef (RQ (jW (gc Fk.t2 Tp.d2 hr bN gk (aA (gv 1) (aA aR aH)))) (RN (jW (gc Fk.t8 Tp.d8 hr bN gk (aA (gv 0) (aA (YQ (gv 1)) aH))))))) (aG (bW (YQ (gv 1)))
 aO) aO)
 (aG (bW DX)
 aO)))
 t10:=fJ Tp.zm ["thing"] zor λ_ _ _ _ _ _ hr=>(aG (gW (p8 (jW (gc Fk.t4 Tp.d4 hr bN gk (aA (gv 0) aH)))) (aG Jf
 aO) aO)
 aO)
 t11:=fJ Tp.U7 ["web","one","other"] zoy λ_ _ _ _ _ _ hr=>(aG (bW (sJ (Ja hr) (gc Fk.t9 Tp.d9 hr bN gk (aA (fH (gv 0) aR) (aA (gM (aA (gv 1) (aA (gv 2) aH))) aH))) (fH (gv 0) aR)))
 aO)
 t12:=fJ Tp.U8 N12 zoN λ_ _ _ _ _ _ hr=>(aG (bW (zkd (au (top 20)) N12 ["one","other"] ["many"] [0] rfl rfl rfl (by decide +kernel) (by decide +kernel) (kj 0) (kj 1) (by decide +kernel) (uK Tp.z9 gk (gv 0)) (λ_ _ _ _ _ _=>(kE 0 (by decide +kernel) rfl (by decide +kernel))) (λ_ _ _ _ _ _=>(Ma Tp.z9 sV (fG rP (bK 0) aR) (bK 2))) (λ_ _ _ _ _ _=>(kE 1 (by decide +kernel) rfl (by decide +kernel))) (λ_ _ _ _ _ _=>oM) (λ_ _ _ _ _ _=>(gM (aA (bK 0) (aA (bK 1) aH))))))
 aO)
 t13:=fJ Tp.U9 N13 zop λ_ _ _ _ _ _ hr=>(aG (zmb 2 (au (top 21)) N13 ["one","other"] ["place"] [1] nd rfl jl rfl rfl rfl rfl (by decide +kernel) (by decide +kernel) (DQ 0 1) (by decide +kernel) (oN (fH (gv 0) aR)) (λ_ _ _ _ _ _=>(Jd 0 1 rfl (by decide +kernel) rfl rfl (by decide +kernel) (by decide +kernel))) (λ_ _ _ _ _ _=>(yQ (m6 (Ja hr) (bK 2) (gM (aA (bK 0) (aA (bK 1) aH)))))) (λ_ _ _ _ _ _=>(RV (m6 (Ed hr) (bK 0) (bK 2)) (bK 1) (bK 0))))
 (aG (bW (xO Tp.z3 gk (aA (Zc Tp.z7 gk (aA (gv 2) aH)) aH)))
 aO))
 Vv:=fJ Tp.M9 N14 zoE λ_ _ _ _ _ _ hr=>(aG (bW (lO (au (top 22)) N14 ["place"] ["web"] [0] rfl rfl rfl (by decide +kernel) (by decide +kernel) (kj 0) (by decide +kernel) (uK Tp.z9 gk (fH (gv 0) aR)) (λ_ _ _ _ _ _=>(kE 0 (by decide +kernel) rfl (by decide +kernel))) (λ_ _ _ _ _ _=>oM) (λ_ _ _ _ _ _=>(gc Fk.t13 Tp.U9 hr yS sV (aA (bK 1) (aA (bK 0) aH))))))
 aO)
 Vw:=zj1 (N:=["self","web","apart","alike"]) Tp.Np.fn zoC (λ_ _ _ _ _ _ hr=>(Mv (j:=0) Tp.ow (gc Fk.Vv Tp.M9 hr bN gk (aA (gv 1) aH)) (Mv (j:=0) Tp.ow (znE rfl Tp.z3 gk Tp.z9 gk (aA (yP Tp.z4 gk (aA (gv 2) aH)) aH)) (Mv (j:=0) Tp.ow (gv 2) (Mv (j:=0) Tp.ow (gv 3) zmJ))))) (by show (4:Nat)<=900;decide)
 Vx:=fM Tp.Nq ["self","spot","other"] zn5 λ_ _ _ _ _ _ hr=>(aG (bW (fH (fH (xW Tp.ow (gv 0)) (gv 1)) (gv 2)))
 aO)
 Nt:=fM Tp.JM N17 zot λ_ _ _ _ _ _ hr=>(aG (fK 4 nd rfl jl rfl (zlq Tp.z10 gk (aA (gv 1) aH)))
 (aG (Mf (gv 4) (gv 2) DX)
 (aG (xP vO rfl rfl (oN (fH (xW Tp.ow (gv 0)) (gv 2))) (BX 5 nd rfl jl rfl) (aG (gW (RM (fH (gv 4) (gv 5))) (aG (Mf (gv 4) (gv 5) (xO Tp.z3 gk (aA (lO (au (Dk)) N17 ["other"] ["self","spot"] [0,3] rfl rfl rfl (by decide +kernel) (by decide +kernel) (kj 0) (by decide +kernel) (oN (fH (gv 4) (gv 5))) (λ_ _ _ _ _ _=>(kE 0 (by decide +kernel) rfl (by decide +kernel))) (λ_ _ _ _ _ _=>(yQ (jW (vR Tp.ow Tp.Nq Fk.Vx hr (bK 1) (aA (bK 2) (aA (bK 0) aH)))))) (λ_ _ _ _ _ _=>(bK 0))) aH)))
 aO) aO)
 aO))
 (aG (bW (xO Tp.z3 gk (aA (gv 4) aH)))
 aO))))
 Vy:=fM Tp.Nr N18 zoq λ_ _ _ _ _ _ hr=>(aG (bW (yP Tp.z4 gk (aA (lO (au (Dl)) N18 ["end"] ["free"] [1] rfl rfl rfl (by decide +kernel) (by decide +kernel) (kj 0) (by decide +kernel) (oN (fH (xW Tp.ow (gv 0)) (gv 2))) (λ_ _ _ _ _ _=>(kE 0 (by decide +kernel) rfl (by decide +kernel))) (λ_ _ _ _ _ _=>(yQ (RM (fH (bK 1) (bK 0))))) (λ_ _ _ _ _ _=>(bK 0))) aH)))
 aO)
 t19:=fM Tp.Vr N19 zoI λ_ _ _ _ _ _ hr=>(aG (bW (xO Tp.z3 gk (aA (lO (au (Dm)) N19 ["place","spots"] ["self","free"] [0,1] rfl rfl rfl (by decide +kernel) (by decide +kernel) (DQ 0 1) (by decide +kernel) (Sg Tp.z8 gk (gv 1)) (λ_ _ _ _ _ _=>(Jd 0 1 rfl (by decide +kernel) rfl rfl (by decide +kernel) (by decide +kernel))) (λ_ _ _ _ _ _=>oM) (λ_ _ _ _ _ _=>(RV (m6 RL (vR Tp.ow Tp.Nr Fk.Vy hr (bK 2) (aA (bK 3) (aA (bK 0) aH))) aR) (bK 1) DX))) aH)))
 aO)
 t20:=fM Tp.Vt ["self","free","ranks","place","spots"] zol λ_ _ _ _ _ _ hr=>(aG (fK 2 nd rfl jl rfl (uI aH))
 (aG (xP vO rfl rfl (Sg Tp.z8 gk (gv 1)) (YX 3 4 rfl rfl nd rfl rfl jl jl rfl rfl) (aG (gW (RM (gv 4)) (aG (nA (RX (gv 2) (gM (aA (yP Tp.z4 gk (aA (gv 4) aH)) (aA (znx (vR Tp.ow Tp.Nr Fk.Vy hr (gv 0) (aA (gv 1) (aA (gv 3) aH)))) (aA (gv 3) aH))))))
 aO) aO)
 aO))
 (aG (bW (RV (znV (gv 2)) (fH (zmm hr rfl Tp.Nm gk (aA (gv 2) aH)) aR) DX))
 aO)))
 t21:=fM Tp.Vu N21 zn1 λ_ _ _ _ _ _ hr=>(aG (bW (Eh rfl Tp.z6 gk (aA (lO (au (Dn)) N21 ["spots"] ["self"] [0] rfl rfl rfl (by decide +kernel) (by decide +kernel) (kj 0) (by decide +kernel) (oN (gv 1)) (λ_ _ _ _ _ _=>(kE 0 (by decide +kernel) rfl (by decide +kernel))) (λ_ _ _ _ _ _=>oM) (λ_ _ _ _ _ _=>(YH (znA (bK 0)) (BR (sJ (Ed hr) (bK 0) (xW Tp.ow (bK 1))))))) aH)))
 aO)
 Vz:=fR Tp.M_ UL zof λ_ _ _ _ _ _ hr=>(aG (yU 2 3 rfl rfl nd rfl rfl jc jc rfl rfl (gv 1))
 (aG (fK 4 nd rfl jc rfl (lO (au (top 25)) UL ["gap"] ["k","d"] [2,3] rfl rfl rfl (by decide +kernel) (by decide +kernel) (kj 0) (by decide +kernel) (uK Tp.z9 gk (gv 2)) (λ_ _ _ _ _ _=>(kE 0 (by decide +kernel) rfl (by decide +kernel))) (λ_ _ _ _ _ _=>oM) (λ_ _ _ _ _ _=>(sJ LQ (YT rfl Tp.Nm sV (aA (bK 0) (aA (fG yN (bK 1) (bK 0)) aH))) (bK 2)))))
 (aG (bW (ZX Tp.mq Fk.Vw (Mi.bF.made hr _ _) Tp.Np.bd Tp.mc gk (aA (gv 0) (aA (lO (au (top 25)) UL ["spot"] ["k","wide"] [2,4] rfl rfl rfl (by decide +kernel) (by decide +kernel) (kj 0) (by decide +kernel) (uK Tp.z9 gk (gv 2)) (λ_ _ _ _ _ _=>(kE 0 (by decide +kernel) rfl (by decide +kernel))) (λ_ _ _ _ _ _=>oM) (λ_ _ _ _ _ _=>(YW ["spot","k","wide"] ["other"] ["wide","spot"] [2,0] rfl rfl (by decide +kernel) (by decide +kernel) (kj 0) (by decide +kernel) (uK Tp.z9 sV (bK 1)) (λ_ _ _ _ _ _=>(kE 0 (by decide +kernel) rfl (by decide +kernel))) (λ_ _ _ _ _ _=>oM) (λ_ _ _ _ _ _=>(fH (bK 1) (fG yN (bK 2) (bK 0))))))) (aA nu aH)))))
 aO)))
 t23:=fR Tp.U_ N23 zoe λ_ _ _ _ _ _ hr=>(aG (bW (ZX Tp.mq Fk.Vw (Mi.bF.made hr _ _) Tp.Np.bd Tp.mc gk (aA (gv 0) (aA (lO (au (top 26)) N23 ["ends"] ["other"] [1] rfl rfl rfl (by decide +kernel) (by decide +kernel) (kj 0) (by decide +kernel) (oN (gc Fk.Vv Tp.M9 (hr.deeper _) bN gk (aA (gv 1) aH))) (λ_ _ _ _ _ _=>(kE 0 (by decide +kernel) rfl (by decide +kernel))) (λ_ _ _ _ _ _=>oM) (λ_ _ _ _ _ _=>(YW ["ends","other"] ["place"] ["ends"] [0] rfl rfl (by decide +kernel) (by decide +kernel) (kj 0) (by decide +kernel) (uK Tp.z9 sV (fH (bK 1) aR)) (λ_ _ _ _ _ _=>(kE 0 (by decide +kernel) rfl (by decide +kernel))) (λ_ _ _ _ _ _=>oM) (λ_ _ _ _ _ _=>(sJ (Ja (hr.deeper _)) (bK 0) (bK 1)))))) (aA nu aH)))))
 aO)
 t24:=fJ Tp.Va ["thing","k","d"] zov λ_ _ _ _ _ _ hr=>(aG (gW (p8 (jW (gc Fk.t2 Tp.d2 hr bN gk (aA (gv 0) (aA aR aH))))) (aG (bW nu)
 aO) aO)
 (aG (yU 1 2 rfl rfl nd rfl rfl jl jl rfl rfl (gv 0))
 (aG (bW (D_ (gc Fk.t1 Tp.d1 hr bN gk (aA (gv 1) (aA aR (aA (DY Tp.iI gk dk) aH)))) (BR (gc Fk.t1 Tp.d1 hr bN gk (aA (gv 2) (aA aR (aA (gv 1) aH)))))))
 aO)))
 Nu:=fJ Tp.JF ["thing"] zoj λ_ _ _ _ _ _ hr=>(aG (gW (p8 (jW (gc Fk.t24 Tp.Va hr bN gk (aA (gv 0) aH)))) (aG Jf
 aO) aO)
 aO)
 t26:=fJ Tp.Vb ["ring","one","other","gap"] zoQ λ_ _ _ _ _ _ hr=>(aG (fK 3 nd rfl jl rfl (znI Tp.z12 gk (aA (fG yN (gv 1) (gv 2)) aH)))
 (aG (bW (YT rfl Tp.Nm gk (aA (gv 3) (aA (fG yN (fH (gv 0) aR) (gv 3)) aH))))
 aO))
 Cp:=fJ Tp.zp ["web","ring","many"] zoz λ_ _ _ _ _ _ hr=>(aG (fK 2 nd rfl jl rfl (gc Fk.VB Tp.Nb hr bN gk (aA (gv 0) (aA (gv 1) aH))))
 (aG (bW (fG xJ (fH (gv 1) aR) (gv 2)))
 aO))
 VB:=fJ Tp.Nb ["web","ring"] zoB λ_ _ _ _ _ _ hr=>(aG (nA (gc Fk.VD Tp.Nf hr bN gk (aA (gv 0) (aA (gv 1) aH))))
 (aG (bW (yP Tp.z4 gk (aA (gc Fk.VF Tp.Ng hr bN gk (aA (gv 0) (aA (gv 1) aH))) aH)))
 aO))
 t29:=fJ Tp.Vc ["web","ring","rows"] zoH λ_ _ _ _ _ _ hr=>(aG (nA (gc Fk.VD Tp.Nf hr bN gk (aA (gv 0) (aA (gv 1) aH))))
 (aG (fK 2 nd rfl jl rfl (gc Fk.VF Tp.Ng hr bN gk (aA (gv 0) (aA (gv 1) aH))))
 (aG (nA (gc Fk.t3 Tp.d3 hr bN gk (aA (yP Tp.z4 gk (aA (gv 2) aH)) (aA (DY Tp.jr gk dk) aH))))
 (aG (bW (gv 2))
 aO))))
 VD:=fJ Tp.Nf ["web","ring"] zoF λ_ _ _ _ _ _ hr=>(aG (nA (gc Fk.t10 Tp.zm hr bN gk (aA (gv 0) aH)))
 (aG (nA (gc Fk.Nu Tp.JF hr bN gk (aA (gv 1) aH)))
 (aG (nA (gc Fk.t3 Tp.d3 hr bN gk (aA (fH (gv 0) aR) (aA (DY Tp.iJ gk dk) aH))))
 (aG (nA (gc Fk.t3 Tp.d3 hr bN gk (aA (fH (gv 1) aR) (aA (DY Tp.jq gk dk) aH))))
 aO))))
 VF:=fJ Tp.Ng UW zoi λ_ _ _ _ _ _ hr=>(aG (fK 2 nd rfl jc rfl (gc Fk.Vz Tp.M_ hr bN gk (aA (gv 0) (aA (gv 1) aH))))
 (aG (fK 3 nd rfl jl rfl (uI (aA (gM (aA aR aH)) aH)))
 (aG (xP vO rfl rfl (Ma Tp.z9 gk aR (fH (gv 0) aR)) (BX 4 nd rfl jc rfl) (aG (fK 5 nd rfl jc rfl (lO (au (top 40)) UW ["end"] ["place"] [4] rfl rfl rfl (by decide +kernel) (by decide +kernel) (kj 0) (by decide +kernel) (oN (fH (xW Tp.ow (gv 2)) (gv 4))) (λ_ _ _ _ _ _=>(kE 0 (by decide +kernel) rfl (by decide +kernel))) (λ_ _ _ _ _ _=>(yQ (m6 (xK hr) (bK 0) (bK 1)))) (λ_ _ _ _ _ _=>(bK 0))))
 (aG (zjr 3 (au (top 40)) UW ["row","spot"] ["board","ahead"] [2,5] nd rfl jl rfl rfl rfl rfl (by decide +kernel) (by decide +kernel) (kj 0) (kj 1) (by decide +kernel) (oN (gv 3)) (λ_ _ _ _ _ _=>(kE 0 (by decide +kernel) rfl (by decide +kernel))) (λ_ _ _ _ _ _=>(oN (xW Tp.ow (bK 2)))) (λ_ _ _ _ _ _=>(kE 1 (by decide +kernel) rfl (by decide +kernel))) (λ_ _ _ _ _ _=>(yQ (jW (gc Fk.t32 Tp.Vd hr yS sV (aA (bK 2) (aA (bK 0) (aA (bK 3) (aA (bK 1) aH)))))))) (λ_ _ _ _ _ _=>(fG rP (bK 0) (gM (aA (bK 1) aH)))))
 aO)))
 (aG (bW (gv 3))
 aO))))
 t32:=fJ Tp.Vd N32 zoh λ_ _ _ _ _ _ hr=>(aG (bW (Eh rfl Tp.z6 gk (aA (lO (au (top 41)) N32 ["place"] ["board","spot","row"] [0,3,1] rfl rfl rfl (by decide +kernel) (by decide +kernel) (kj 0) (by decide +kernel) (oN (gv 2)) (λ_ _ _ _ _ _=>(kE 0 (by decide +kernel) rfl (by decide +kernel))) (λ_ _ _ _ _ _=>oM) (λ_ _ _ _ _ _=>(vR Tp.ow Tp.Nq Fk.Vx hr (bK 1) (aA (bK 2) (aA (fH (bK 3) (bK 0)) aH))))) aH)))
 aO)
 VG:=fJ Tp.Nh N33 zob λ_ _ _ _ _ _ hr=>(aG (nA (gc Fk.t10 Tp.zm hr bN gk (aA (gv 0) aH)))
 (aG (nA (gc Fk.Nu Tp.JF hr bN gk (aA (gv 1) aH)))
 (aG (fK 2 nd rfl jc rfl (gc Fk.Vz Tp.M_ hr bN gk (aA (gv 0) (aA (gv 1) aH))))
 (aG (bW (gc Fk.VH Tp.Ni hr bN gk (aA (gv 2) (aA (lO (au (top 43)) N33 ["place"] ["board"] [2] rfl rfl rfl (by decide +kernel) (by decide +kernel) (kj 0) (by decide +kernel) (uK Tp.z9 gk (fH (gv 0) aR)) (λ_ _ _ _ _ _=>(kE 0 (by decide +kernel) rfl (by decide +kernel))) (λ_ _ _ _ _ _=>oM) (λ_ _ _ _ _ _=>(xW Tp.ow (bK 1)))) aH))))
 aO))))
 VH:=fJ Tp.Ni ["board","choices","free","answers","row","place","spot"] zox λ_ _ _ _ _ _ hr=>(aG (fK 2 nd rfl jl rfl (xO Tp.z3 gk (aA (gv 1) aH)))
 (aG (fK 3 nd rfl jl rfl zlm)
 (aG (gW (p8 (jW (gc Fk.Nv Tp.JL hr bN gk (aA (gv 0) (aA (gv 3) (aA (gv 2) aH)))))) (aG (bW DX)
 aO) aO)
 (aG (fK 4 nd rfl jl rfl (uI aH))
 (aG (xP vO rfl rfl (uK Tp.z9 gk (yP Tp.z4 gk (aA (gv 1) aH))) (BX 5 nd rfl jl rfl) (aG (fK 6 nd rfl jl rfl (gc Fk.VJ Tp.Nj hr bN gk (aA (gv 0) (aA (gv 3) (aA (gv 2) (aA (gv 5) aH))))))
 (aG (fK 2 nd rfl jl rfl (vR Tp.ow Tp.JM Fk.Nt hr (gv 0) (aA (gv 2) (aA (gv 5) (aA (gv 6) aH)))))
 (aG (nA (RX (gv 4) (gv 6)))
 aO))))
 (aG (bW (xO Tp.z3 gk (aA (gv 4) aH)))
 aO))))))
 VJ:=fJ Tp.Nj ["board","answers","free","place","spot"] UJ λ_ _ _ _ _ _ hr=>(aG (xP vO rfl rfl (oN (fH (gv 2) (gv 3))) (BX 4 nd rfl jl rfl) (aG (gW (jW (gc Fk.Nv Tp.JL hr bN gk (aA (gv 0) (aA (gv 1) (aA (vR Tp.ow Tp.JM Fk.Nt hr (gv 0) (aA (gv 2) (aA (gv 3) (aA (gv 4) aH)))) aH))))) (aG (bW (gv 4))
 aO) aO)
 aO))
 (aG (bW DX)
 aO))
 Nv:=fJ Tp.JL ["board","answers","free","rest"] zn2 λ_ _ _ _ _ _ hr=>(aG (gW (m6 (Ja hr) (gM aH) (gv 2)) (aG (bW nu)
 aO) aO)
 (aG (fK 3 nd rfl jl rfl (vR Tp.ow Tp.Vr Fk.t19 hr (gv 0) (aA (gv 2) aH)))
 (aG (gW (zlg hr (gv 3) (gv 1)) (aG (zku hr (gv 1) (gv 3) (gc Fk.t37 Tp.Ve hr bN gk (aA (gv 0) (aA (gv 1) (aA (gv 3) aH)))))
 aO) aO)
 (aG (bW (zlh hr (gv 1) (gv 3)))
 aO))))
 t37:=fJ Tp.Ve ["board","answers","free","place"] M8 λ_ _ _ _ _ _ hr=>(aG (fK 3 nd rfl jl rfl (vR Tp.ow Tp.Vt Fk.t20 hr (gv 0) (aA (gv 2) aH)))
 (aG (gW (YL (gv 3)) (aG (bW nu)
 aO) aO)
 (aG (gW (Ef (RQ (jW (xW Tp.ow (gv 0))) (RN (jW (vR Tp.ow Tp.Vu Fk.t21 hr (gv 0) (aA (gv 2) aH)))))) (aG (bW (gc Fk.Nv Tp.JL hr bN gk (aA (gv 0) (aA (gv 1) (aA (vR Tp.ow Tp.JM Fk.Nt hr (gv 0) (aA (gv 2) (aA (gv 3) (aA aR aH)))) aH)))))
 aO) aO)
 (aG (bW (YK (gc Fk.VJ Tp.Nj hr bN gk (aA (gv 0) (aA (gv 1) (aA (gv 2) (aA (gv 3) aH)))))))
 aO))))
 t38:=fJ Tp.Vf U6 zok λ_ _ _ _ _ _ hr=>(aG (nA (gc Fk.t10 Tp.zm hr bN gk (aA (gv 0) aH)))
 (aG (nA (gc Fk.t10 Tp.zm hr bN gk (aA (gv 1) aH)))
 (aG (gW (Ef (RT (p8 (jW (gc Fk.t2 Tp.d2 hr bN gk (aA (gv 2) (aA (fH (gv 0) aR) aH))))) (RP (p8 (jW (Eh rfl Tp.z6 gk (aA (lO (au (top 49)) U6 ["place"] ["other"] [1] rfl rfl rfl (by decide +kernel) (by decide +kernel) (kj 0) (by decide +kernel) (oN (gv 2)) (λ_ _ _ _ _ _=>(kE 0 (by decide +kernel) rfl (by decide +kernel))) (λ_ _ _ _ _ _=>oM) (λ_ _ _ _ _ _=>(gc Fk.t7 Tp.d7 hr yS sV (aA (fH (bK 1) aR) (aA (bK 0) aH))))) aH))))))) (aG (bW nu)
 aO) aO)
 (aG (bW (Eh rfl Tp.z6 gk (aA (lO (au (top 49)) U6 ["i","j"] ["other","thing"] [1,2] rfl rfl rfl (by decide +kernel) (by decide +kernel) (DQ 0 1) (by decide +kernel) (oN (fH (gv 0) aR)) (λ_ _ _ _ _ _=>(Jd 0 1 rfl (by decide +kernel) rfl rfl (by decide +kernel) (by decide +kernel))) (λ_ _ _ _ _ _=>oM) (λ_ _ _ _ _ _=>(gc Fk.t11 Tp.U7 hr yS sV (aA (bK 2) (aA (fH (bK 3) (bK 0)) (aA (fH (bK 3) (bK 1)) aH)))))) aH)))
 aO))))
 t39:=fJ Tp.Vg N39 zom λ_ _ _ _ _ _ hr=>(aG (nA (gc Fk.t10 Tp.zm hr bN gk (aA (gv 0) aH)))
 (aG (nA (gc Fk.t10 Tp.zm hr bN gk (aA (gv 1) aH)))
 (aG (fK 2 nd rfl jc rfl (gc Fk.t23 Tp.U_ hr bN gk (aA (gv 0) (aA (gv 1) aH))))
 (aG (bW (gc Fk.VH Tp.Ni hr bN gk (aA (gv 2) (aA (lO (au (top 50)) N39 ["place"] ["board"] [2] rfl rfl rfl (by decide +kernel) (by decide +kernel) (kj 0) (by decide +kernel) (uK Tp.z9 gk (fH (gv 0) aR)) (λ_ _ _ _ _ _=>(kE 0 (by decide +kernel) rfl (by decide +kernel))) (λ_ _ _ _ _ _=>oM) (λ_ _ _ _ _ _=>(xW Tp.ow (bK 1)))) aH))))
 aO))))
 t40:=fJ Tp.Vh ["web","ring"] zoc λ_ _ _ _ _ _ hr=>(aG (bW (YK (gc Fk.VG Tp.Nh hr bN gk (aA (gv 0) (aA (gv 1) aH)))))
 aO)
 t41:=fJ Tp.Vi ["web","many"] zoG λ_ _ _ _ _ _ hr=>(aG (fK 1 nd rfl jl rfl aR)
 (aG (zjc vO (p8 (jW (gc Fk.t40 Tp.Vh hr bN gk (aA (gv 0) (aA (gM (aA (gv 1) (aA aR aH))) aH))))) (aG (znr 1 nd rfl jl rfl aR)
 aO))
 (aG (bW (gv 1))
 aO)))
 t42:=fJ Tp.Vj N42 zoP λ_ _ _ _ _ _ hr=>(aG (nA (gc Fk.Nu Tp.JF hr bN gk (aA (gv 0) aH)))
 (aG (yU 1 2 rfl rfl nd rfl rfl jl jc rfl rfl (gv 0))
 (aG (nA (gc Fk.t3 Tp.d3 hr bN gk (aA (gv 1) (aA (DY Tp.dJ gk dk) aH))))
 (aG (bW (gc Fk.t5 Tp.d5 hr bN gk (aA (gv 1) (aA (lO (au (top 56)) N42 ["one","other"] ["ring","d"] [0,2] rfl rfl rfl (by decide +kernel) (by decide +kernel) (DQ 0 1) (by decide +kernel) (oN (gc Fk.t12 Tp.U8 hr bN gk (aA (gv 1) aH))) (λ_ _ _ _ _ _=>(Jd 0 1 rfl (by decide +kernel) rfl rfl (by decide +kernel) (by decide +kernel))) (λ_ _ _ _ _ _=>(yQ (m6 LQ (gc Fk.t26 Tp.Vb hr yS sV (aA (bK 2) (aA (bK 0) (aA (bK 1) aH)))) (bK 3)))) (λ_ _ _ _ _ _=>(gM (aA (bK 0) (aA (bK 1) aH))))) aH))))
 aO))))
 t43:=fJ Tp.Vk ["_law_script","_law_k"] zog λ_ _ _ _ _ _ hr=>(aG (gW (m6 (xK hr) (gv 1) (yP Tp.z4 gk (aA (gv 0) aH))) (aG (bW (fH (gv 0) (gv 1)))
 aO) aO)
 (aG (bW aR)
 aO))
 t44:=fJ Tp.Vl ["_law_cell_here","_law_left"] zn9 λ_ _ _ _ _ _ hr=>(aG (fK 1 nd rfl jl rfl (YS rfl Tp.Vq gk (aA (gv 0) (aA (fG yN aR (gv 0)) aH))))
 (aG (bW (uI (aA (gv 1) (aA (zlH Tp.z1 gk (aA (sJ LQ (gv 1) (fG zm8 aR aR)) aH)) aH))))
 aO))
 Ey:=fJ Tp.Cm ["_law_pen_here","_law_many","_law_left","_law_found","_law_stir"] zn6 λ_ _ _ _ _ _ hr=>(aG (gW (m6 (Ed hr) (fH (gv 0) aR) aR) (aG (yU 2 3 rfl rfl nd rfl rfl jl jl rfl rfl (zho Tp.z14 gk (aA (fH (gv 0) aR) (aA (gv 1) aH))))
 (aG (Mf (gv 0) aR (gv 2))
 (aG (bW (gv 3))
 aO))) aO)
 (aG (fK 4 nd rfl jl rfl (fG I_ (fG xJ (fG rP (fG I_ (fH (gv 0) aR) aR) aR) aR) aR))
 (aG (fK 4 nd rfl jl rfl (fG I_ (fG rP (fG xJ (gv 4) (gv 4)) aR) aR))
 (aG (Mf (gv 0) aR (fG I_ (fG rP (fG xJ (gv 4) aR) aR) aR))
 (aG (bW (fG I_ (fG zlj (fH (gv 0) aR) aR) (gv 1)))
 aO)))))
 t46:=fJ Tp.Vm N46 zn8 λ_ _ _ _ _ _ hr=>(aG (fK 2 nd rfl jc rfl (fH (uI (aA aR (aA aR (aA aR aH)))) (gc Fk.Ey Tp.Cm hr bN gk (aA (gv 0) (aA aR aH)))))
 (aG (fK 3 nd rfl jl rfl (uI aH))
 (aG (xP vO rfl rfl (uK Tp.z9 gk (gv 1)) (BX 4 nd rfl jc rfl) (aG (fK 3 nd rfl jl rfl (fG rP (gv 3) (lO (au (top 61)) N46 ["_law_other"] ["_law_one","_law_pen_here","_law_often"] [4,0,2] rfl rfl rfl (by decide +kernel) (by decide +kernel) (kj 0) (by decide +kernel) (Ma Tp.z9 gk (fG rP (gv 4) aR) (gv 1)) (λ_ _ _ _ _ _=>(kE 0 (by decide +kernel) rfl (by decide +kernel))) (λ_ _ _ _ _ _=>(yQ (m6 (xK hr) (gc Fk.Ey Tp.Cm hr yS sV (aA (bK 2) (aA aR aH))) (bK 3)))) (λ_ _ _ _ _ _=>(gM (aA (bK 1) (aA (bK 0) aH)))))))
 aO))
 (aG (bW (gM (aA (gv 1) (aA (xO Tp.z3 gk (aA (gv 3) aH)) aH))))
 aO))))
 t47:=fJ Tp.Vn ["_law_pen_here","_law_some"] zou λ_ _ _ _ _ _ hr=>(aG (fK 1 nd rfl jl rfl (uI (aA (gM (aA aR (aA aR aH))) (aA (gM (aA aR (aA aR aH))) (aA (gM (aA aR (aA aR aH))) (aA (gM (aA aR (aA aR aH))) (aA (gM (aA aR (aA aR aH))) (aA (gM (aA aR (aA aR aH))) (aA (gM (aA aR (aA aR aH))) (aA (gM (aA aR (aA aR aH))) (aA (gM (aA aR (aA aR aH))) (aA (gM (aA aR (aA aR aH))) (aA (gM (aA aR (aA aR aH))) (aA (gM (aA aR (aA aR aH))) aH))))))))))))))
 (aG (bW (fH (gv 1) (gc Fk.Ey Tp.Cm hr bN gk (aA (gv 0) (aA aR aH)))))
 aO))
 t48:=fJ Tp.Vo N48 zoL λ_ _ _ _ _ _ hr=>(aG (fK 1 nd rfl jl rfl (uI aH))
 (aG (xP vO rfl rfl (uK Tp.z9 gk (gv 0)) (BX 2 nd rfl jc rfl) (aG (fK 1 nd rfl jl rfl (fG rP (gv 1) (lO (au (top 63)) N48 ["_law_other"] ["_law_one"] [2] rfl rfl rfl (by decide +kernel) (by decide +kernel) (kj 0) (by decide +kernel) (Ma Tp.z9 gk (fG rP (gv 2) aR) (gv 0)) (λ_ _ _ _ _ _=>(kE 0 (by decide +kernel) rfl (by decide +kernel))) (λ_ _ _ _ _ _=>oM) (λ_ _ _ _ _ _=>(gM (aA (bK 1) (aA (bK 0) aH)))))))
 aO))
 (aG (bW (gM (aA (gv 0) (aA (xO Tp.z3 gk (aA (gv 1) aH)) aH))))
 aO)))
 t49:=fJ Tp.Vp N49 zon λ_ _ _ _ _ _ hr=>(aG (yU 2 3 rfl rfl nd rfl rfl jl jl rfl rfl (gv 1))
 (aG (fK 4 nd rfl jc rfl (gc Fk.t42 Tp.Vj hr bN gk (aA (gv 1) aH)))
 (aG (gW (m6 (xK hr) (gc Fk.VB Tp.Nb hr bN gk (aA (gv 0) (aA (gv 1) aH))) aR) (aG (gW (m6 (LC hr) (lO (au (top 64)) N49 ["_law_row"] ["_law_web_here","_law_there"] [0,4] rfl rfl rfl (by decide +kernel) (by decide +kernel) (kj 0) (by decide +kernel) (oN (gc Fk.t29 Tp.Vc hr bN gk (aA (gv 0) (aA (gv 1) aH)))) (λ_ _ _ _ _ _=>(kE 0 (by decide +kernel) rfl (by decide +kernel))) (λ_ _ _ _ _ _=>(yQ (p8 (jW (gc Fk.t38 Tp.Vf hr yS sV (aA (bK 1) (aA (bK 2) (aA (bK 0) aH)))))))) (λ_ _ _ _ _ _=>(bK 0))) (uI aH)) (aG (bW nu)
 aO) aO)
 aO) aO)
 (aG (gW (m6 (LC hr) (gc Fk.t39 Tp.Vg hr bN gk (aA (gv 0) (aA (gv 4) aH))) (gc Fk.VG Tp.Nh hr bN gk (aA (gv 0) (aA (gv 1) aH)))) (aG (bW nu)
 aO) aO)
 (aG (gW (Ef (RQ (m6 (xK hr) (gv 2) aR) (RN (m6 (xK hr) (gc Fk.Cp Tp.zp hr bN gk (aA (gv 0) (aA (gM (aA (fG xJ aR (gv 2)) (aA (fG xJ aR (gv 3)) aH))) aH))) (gc Fk.Cp Tp.zp hr bN gk (aA (gv 0) (aA (gv 1) aH))))))) (aG (bW nu)
 aO) aO)
 (aG (fK 5 nd rfl jl rfl (gc Fk.t41 Tp.Vi hr bN gk (aA (gv 0) aH)))
 (aG (gW (m6 (Ed hr) (gc Fk.Cp Tp.zp hr bN gk (aA (gv 0) (aA (gM (aA (gv 5) (aA aR aH))) aH))) aR) (aG (bW nu)
 aO) aO)
 (aG (bW (YH (sJ (xK hr) (gv 5) aR) (BR (sJ (Ed hr) (gc Fk.Cp Tp.zp hr bN gk (aA (gv 0) (aA (gM (aA (fG yN (gv 5) aR) (aA aR aH))) aH))) aR))))
 aO))))))))
 t50:=fJ Tp.Nk ["_law_script","_law_cell_here","_law_pen_here","_law_ring","_law_k","_law_d","_law_many","_law_found"] zn3 λ_ _ _ _ _ _ hr=>(aG (xP vO rfl rfl (oN (fG rP (uI (aA (gc Fk.t43 Tp.Vk hr bN gk (aA (gv 0) (aA aR aH))) aH)) (YM (gv 0) (RW aR) (RW aR)))) (BX 1 nd rfl jl rfl) (aG (fK 2 nd rfl jl rfl (gc Fk.t44 Tp.Vl hr bN gk (aA (gv 1) aH)))
 (aG (fK 3 nd rfl jl rfl (gc Fk.t47 Tp.Vn hr bN gk (aA (gv 2) aH)))
 (aG (gW (p8 (jW (gc Fk.t49 Tp.Vp hr bN gk (aA (gc Fk.t46 Tp.Vm hr bN gk (aA (gv 2) (aA (fG rP aR (gc Fk.Ey Tp.Cm hr bN gk (aA (gv 2) (aA aR aH)))) aH))) (aA (gv 3) aH))))) (aG (bW nu)
 aO) aO)
 (aG (yU 4 5 rfl rfl nd rfl rfl jl jl rfl rfl (gv 3))
 (aG (gW (m6 (LC hr) (gc Fk.Cp Tp.zp hr bN gk (aA (gM (aA aR (aA (gM (aA (gM (aA aR (aA aR aH))) aH)) aH))) (aA (gv 3) aH))) (fG xJ (gv 4) (YS rfl Tp.Vq gk (aA aR (aA (fG rP (fG yN (gv 4) (fG xJ aR (gv 5))) aR) aH))))) (aG (bW nu)
 aO) aO)
 (aG (fK 6 nd rfl jl rfl (fG rP aR (gc Fk.Ey Tp.Cm hr bN gk (aA (gv 2) (aA aR aH)))))
 (aG (fK 7 nd rfl jl rfl (gc Fk.Cp Tp.zp hr bN gk (aA (gc Fk.t48 Tp.Vo hr bN gk (aA (gv 6) aH)) (aA (gv 3) aH))))
 (aG (gW (m6 (LC hr) (sJ RL (gv 7) aR) (sJ LQ (gv 4) (fG xJ (gv 6) (gv 5)))) (aG (bW nu)
 aO) aO)
 aO)))))))))
 (aG (bW nu)
 aO))
theorem zim(Tp:Top K mg):∀k,Fs P w K mg base k
 |0=>⟨cQ,cQ,cQ,cQ,cQ,cQ,cQ,cQ,cQ,cQ,cQ,cQ,cQ,cQ,cQ,zg4,cQ,cQ,cQ,cQ,cQ,cQ,cQ,cQ,cQ,cQ,cQ,cQ,cQ,cQ,cQ,cQ,cQ,cQ,cQ,cQ,cQ,cQ,cQ,cQ,cQ,cQ,cQ,cQ,cQ,cQ,cQ,cQ,cQ,cQ,cQ⟩
 |k+1=>zjL Tp (zim Tp k)
end
theorem all_mk{l:PySem.W.OpenLaw}{w:World}{K:W.Frag}{h:Heap}{mg:Str->Option Value}{fa:Addr}(hm:∀ns:List Int,ns.length<=63->∃s',call aq T 60 true 50 [.d (.fl (ns.map D.int))] []=some (.ok (.d (.bl true)),s'))
  (S:qU fs ms xs lk bd K) (X:K.In h) (G:h.Ns mainGlobals mg) (VL:mg "law"=some (.ref fa)) :
  ∃fd:FuncData,(∀(s:Shared) (u:Value),BindsTo s fd ⟨[u],[]⟩ [("_law_script",u)])/\∀base:Heap,K.In base->base.Ns mainGlobals mg->cD l.prog w K mg base (gJ l.prog w) true 60 fa fd ["_law_script"] (uE K):=by
 have Tp:Top K mg:=zlZ S X G;have e:=VL.symm.trans Tp.Nk.m;cases e;exact⟨_,BZ Tp.Nk.f (λ_ _ _ _ _ _ _=>rfl),λbase _ _=>(zim Tp 60).t50.imp (ziQ hm)⟩
end dX
namespace dX
open PySem Mi
section
variable {al:Bool}{n k:Nat}{es:Nat->List Int}{A:Int->Int->Bool}{F:Fr}{p:Nat}{x y:Int}
theorem zld{k':Nat}(hx:0<=x/\x<k)(hy:0<=y/\y<k):W (call aq T (k'+1) true 16 [.d (jd al n k es A),.d (.int x),.d (.int y)]) [] λv s=>v=.d (.bl (A x y)):=by
 refine W.call zn5 rfl ?_;unfold T4 jd;refine Y ?_;refine gj (uO hx.1 (znz hx.1 hx.2)) ?_;refine Y ?_;refine gj (uO hy.1 (Tr hy.1 hy.2)) ?_;exact Y trivial
theorem JV{k':Nat}(B:Bo n k es A)(v:Fv n k F)(hp:p<n)(hx:0<=x/\x<k):W (call aq T (k'+2) true 17 [.d (jd al n k es A),.d (jo F),.d (.int p),.d (.int x)]) [] λv s=>v=.d (jo (settle es A F p x)):=by
 refine W.call zot rfl ?_;unfold T5 jo;have qj:(100:Nat)<=sizeLine:=by decide
 have hn:=B.hn;have hv:=v.len;have ebo:jd al n k es A=.ob 0 [.fl (Cj n es),.tup ((cC k).map .int),.fl (uV k A),.bl al]:=rfl;refine Y ?_;refine KaX rfl ?_;refine Y ?_;refine⟨_,ziK (by lia) (by rw[cR];lia),?_⟩;refine Y ?_;refine gj (uO (by lia) (Tq (by lia))) ?_;refine Y ?_;refine En (λi J s=>s=[.lst ((((es p).take i).foldl (fW (A x)) (F.set p none)).map bf)]/\∃a5:Option Xv,J=[some (.d (jd al n k es A)),some (.d (.tup (F.map bf))),some (.d (.int p)),some (.d (.int x)),some (.l 0),a5]) ⟨?_,_,rfl⟩ (λi z J s e hI=>?_) (λJ s hI=>?_)
 ·show [SO.lst ((F.map bf).set p .non)]=_;rw[List.take_zero,List.foldl_nil,List.map_set];rfl
 ·obtain⟨rfl,a5,rfl⟩:=hI;rw[iu] at e;cases ei:(es p)[i]? with
  |none=>
   rw[nj,ei] at e;cases e
  |some q=>
   rw[nj,ei] at e;cases e;have hq:=B.mem p hp q (fX ei);have ht:(es p).take (i+1)=(es p).take i++[q]:=by rw[FP,ei];rfl
   rw[ht,List.foldl_append,List.foldl_cons,List.foldl_nil];have hG:(((es p).take i).foldl (fW (A x)) (F.set p none)).length=n:=by rw[Td,pA,hv]
   have lo:∀L,(((es p).take i).foldl (fW (A x)) (F.set p none))[q.toNat]?=some (some L)->(∀y∈L,0<=y/\y<k)/\L.length<=24:=λL hL=>by
    rw[Te q.toNat (λe he=>(B.mem p hp e (List.mem_of_mem_take he)).1) (by rw[pA];lia),qp (by lia)] at hL;have hz:∀L',F[q.toNat]?=some (some L')->(∀y∈L',0<=y/\y<k)/\L'.length<=24:=λL' h=>⟨v.lo _ L' h,v.ll _ L' h⟩;split at hL
    ·obtain⟨c,e1,e2⟩:=lV.mp hL;cases c with
     |none=>cases e2
     |some L'=>
      cases e2;exact⟨λy hy=>(hz L' e1).1 y (jK.mp hy).1,j8 (Ka _ _) (hz L' e1).2⟩
    ·exact hz L hL
   generalize ((es p).take i).foldl (fW (A x)) (F.set p none)=G at hG lo ⊢;obtain⟨c,ec⟩ : ∃c,G[q.toNat]?=some c:=⟨_,dO (by lia)⟩;refine Y ?_;refine gj (uO hq.1 (Jy ec)) ?_;refine Y ?_;cases c with
   |none=>
    refine Y ?_;exact⟨_,rfl,by rw[zg6 ec],_,rfl⟩
   |some L=>
    obtain⟨l1,l2⟩:=lo L ec;refine Y ?_;refine nF (l:=L) (f:=D.int) (λy=>if A x y=true then some (.int y) else none) (by lia) ?_ (λy hy=>?_) ?_
    ·refine Y ?_;refine gj (uO hq.1 (Jy ec)) ?_;show W (src (.d (.tup (L.map .int)))) _ _;refine Y ?_;exact⟨rfl,rfl⟩
    ·refine Y ?_;refine W.cm rfl rfl (W.c0 (zld hx (l1 y hy)) ?_);refine Y ?_;refine⟨rfl,λhb=>?_,λhb=>?_⟩
     ·refine Y ?_;exact⟨rfl,_,rfl,by rw[if_pos hb]⟩
     ·rw[if_neg (by rw[hb];decide)]
    ·rw[Tt (α:=Unit)];refine Y ?_;refine⟨_,ziK hq.1 (by rw[cR];lia),?_⟩;refine Y ?_;refine⟨_,rfl,?_,_,rfl⟩;rw[ziT,ec];rfl
 ·obtain⟨rfl,a5,rfl⟩:=hI;rw[cR,nj,zM];refine Y ?_;rfl
theorem zil{k':Nat}(B:Bo n k es A)(v:Fv n k F)(hp:p<n):W (call aq T (k'+1) true 18 [.d (jd al n k es A),.d (jo F),.d (.int p)]) [] λv s=>v=.d (.int (dD es F p)):=by
 refine W.call zoq rfl ?_;unfold T6 jo jd;have qj:(100:Nat)<=sizeLine:=by decide
 have hn:=B.hn;have hv:=v.len;have hl:=B.len p hp;refine Y ?_;refine nF (l:=es p) (f:=D.int) (λe=>if ((λe:Int=>(F[e.toNat]?.join).isSome) e)=true then some (.int e) else none) (by lia) ?_ (λe he=>?_) ?_
 ·refine Y ?_;refine gj (uO (by lia) (Tq (by lia))) ?_;rw[nj];refine Y ?_;exact⟨rfl,rfl⟩
 ·have hq:=B.mem p hp e he;obtain⟨c,ec⟩ : ∃c,F[e.toNat]?=some c:=⟨_,dO (by lia)⟩;refine Y ?_;refine gj (uO hq.1 (Jy ec)) ?_;refine Y ?_;have hc:(F[e.toNat]?.join).isSome=c.isSome:=by rw[ec];rfl
  have hd:(!(bf c).uc)=c.isSome:=by cases c<;>rfl
  rw[hd];refine⟨rfl,λhb=>?_,λhb=>?_⟩
  ·refine Y ?_;exact⟨rfl,_,rfl,if_pos (hc.trans hb)⟩
  ·exact if_neg (λz=>by rw[hc.symm.trans z] at hb;cases hb)
 ·rw[Tt (α:=Unit)];refine Y ?_;show Xv.d (.int (((((es p).filter _).map D.int).length:Nat):Int))=_;rw[cR];rfl
theorem zj4{k':Nat}(B:Bo n k es A)(v:Fv n k F):W (call aq T (k'+2) true 19 [.d (jd al n k es A),.d (jo F)]) [] λv s=>v=.d (jo (bnd es F)):=by
 refine W.call zoI rfl ?_;unfold T7;have qj:(100:Nat)<=sizeLine:=by decide
 have hn:=B.hn;have hv:=v.len;refine Y ?_;refine nF (l:=F.zipIdx 0) (f:=λq=>.tup [.int q.2,bf q.1]) (λq=>some (bf (if 0<dD es F q.2 then q.1 else none))) (by rw[List.length_zipIdx];lia) ?_ (λq hq=>?_) ?_
 ·refine Zx ?_;refine Y ?_;refine KaM ?_;rw[zbC];exact⟨rfl,rfl⟩
 ·obtain⟨c,i⟩:=q;have hi:i<n:=by
   have:=List.mem_zipIdx hq
   lia
  refine Y ?_;refine⟨rfl,λ_=>?_,λhb=>by cases hb⟩;refine Y ?_;refine W.cm rfl rfl (W.c0 (zil B v hi) ?_);refine Y ?_;refine W.ite (λh1=>?_) (λh1=>?_)
  ·refine Y ?_;have h1:0<dD es F i:=by simpa using h1
   exact⟨rfl,_,rfl,by rw[if_pos h1]⟩
  ·refine Y ?_;have h1:¬0<dD es F i:=by simpa using h1
   exact⟨rfl,_,rfl,by rw[if_neg h1];rfl⟩
 ·rw[uP];refine Y ?_;show Xv.d (.tup _)=_;unfold jo bnd;rw[List.mapIdx_eq_zipIdx_map,wj];rfl
end
theorem zh4{k:Nat}{n i:Int}{ps:List (Int×Int)}(h:Web n ps):W (call aq T (k+1) true 13 [.d (bA n ps),.d (.int i)]) [] λv s=>v=.d (.tup ((aM i ps).map .int)):=by
 refine W.call zop rfl ?_;unfold TX bA;have hl:(ps.map dY).length<=100:=by rw[cR];have:=h.len;have:=h.h8;lia
 have hs:(100:Nat)<=sizeLine:=by decide
 refine Y ?_;refine nF (l:=ps) (f:=dY) (λp=>(endOf i p).map .int) (by rw[cR] at hl;lia) ?_ (λp hp=>?_) ?_
 ·refine Y ?_;exact⟨rfl,rfl⟩
 ·obtain⟨a,b⟩:=p;refine Y ?_;refine⟨rfl,λhb=>?_,λhb=>?_⟩
  ·refine Y ?_;refine W.ite (λh1=>?_) (λh1=>?_)
   ·refine Y ?_;refine⟨rfl,_,rfl,?_⟩;have h1:a=i:=by simpa using h1
    simp[endOf,h1]
   ·refine Y ?_;refine⟨rfl,_,rfl,?_⟩;simp[pD] at h1 hb;rcases hb with hb|hb
    ·exact absurd hb h1
    ·simp[endOf,h1,hb]
  ·simp[pD] at hb;simp[endOf,hb]
 ·have he:ps.filterMap (λp=>(endOf i p).map D.int)=(aM i ps).map D.int:=by unfold aM;rw[List.map_filterMap]
  rw[he];refine Y ?_;refine Mh (zfY (zh0 ?_ (Jp h i))) ?_
  ·have:=Fg (endOf i) ps;have:=h.len;have:=h.h8;unfold aM
   lia
  exact Y trivial
section
variable {al:Bool}{n k:Nat}{es:Nat->List Int}{A:Int->Int->Bool}{F:Fr}{p:Nat}{x y:Int}
theorem VN{k':Nat}(B:Bo n k es A)(v:Fv n k F):W (call aq T (k'+2) true 20 [.d (jd al n k es A),.d (jo F)]) [] λv s=>(v=.d .non/\∀(i:Nat) L,F[i]?≠some (some L))\/∃(p:Nat) (L:List Int),v=.d (.int p)/\F[p]?=some (some L):=by
 refine W.call zol rfl ?_;unfold T8;have qj:(100:Nat)<=sizeLine:=by decide
 have hn:=B.hn;have hv:=v.len;refine Y ?_;refine KaM ?_;refine En (λi J s=>∃(rs:List (List Int)) (a3 a4:Option Xv),s=[.lst (rs.map λr=>D.tup (r.map .int))]/\J=[some (.d (jd al n k es A)),some (.d (jo F)),some (.l 0),a3,a4]/\rs.length<=i/\(∀r∈rs,∃(a b:Int) (p:Nat) (L:List Int),r=[a,b,(p:Int)]/\F[p]?=some (some L))/\(rs=[]->∀j,j<i->∀L,F[j]?≠some (some L))) ⟨[],_,_,rfl,rfl,b_ _,by simp,λ_ j hj=>absurd hj (by lia)⟩ (λi z J s e hI=>?_) (λJ s hI=>?_)
 ·obtain⟨rs,a3,a4,rfl,rfl,hl,h1,h2⟩:=hI;rw[ZD,iu] at e;cases ei:F[i]? with
  |none=>rw[ei] at e;cases e
  |some c=>
   rw[ei] at e;cases e;have hi:i<n:=by have:=(eO.mp ei).1;lia
   cases c with
   |none=>
    refine Y ?_;refine⟨_,rfl,rs,_,_,rfl,rfl,by lia,h1,λer j hj L=>?_⟩;by_cases z:j=i
    ·rw[z,ei];exact λq=>by cases q
    ·exact h2 er j (by lia) L
   |some L=>
    refine Y ?_;refine W.cm rfl rfl (W.c0 (zil (p:=0+i) B v (by lia)) ?_);refine Y ?_;refine⟨by rw[cR];lia,?_⟩;refine Y ?_;refine⟨_,rfl,rs++[[(((L.map D.int).length:Nat):Int),-(dD es F (0+i):Int),((0+i:Nat):Int)]],_,_,?_,rfl,by simp;lia,λr hr=>?_,λer=>by simp at er⟩
    ·rw[pq];rfl
    ·rcases oY.mp hr with hr|hr
     ·exact h1 r hr
     ·rw[qZ.mp hr];exact⟨_,_,i,L,by rw[Nat.zero_add],ei⟩
 ·obtain⟨rs,a3,a4,rfl,rfl,hl,h1,h2⟩:=hI;rw[ZF,cR] at h2;refine Y ?_;refine W.Dw ?_;refine Y ?_;refine⟨_,rfl,?_⟩;by_cases er:rs=[]
  ·subst er;refine Y ?_;refine .inl ⟨rfl,λi L e=>?_⟩;exact h2 rfl i (eO.mp e).1 L e
  ·have et:(!(rs.map λr=>D.tup (r.map .int)).isEmpty)=true:=by
    cases rs with
    |nil=>exact absurd rfl er
    |cons=>rfl
   rw[et];obtain⟨r,hr,em⟩:=zk6 er;refine Y ?_;refine gj em ?_;obtain⟨a,b,p,L,rfl,ep⟩:=h1 r hr;refine Y ?_;exact .inr ⟨p,L,rfl,ep⟩
noncomputable def Ez(k:Nat):Option (List Int)->Bool
 |none=>true
 |some L=>decide (L=cC k)
theorem zdo{k':Nat}(B:Bo n k es A)(v:Fv n k F):W (call aq T (k'+1) true 21 [.d (jd al n k es A),.d (jo F)]) [] λv s=>v=.d (.bl (F.all (Ez k))):=by
 refine W.call zn1 rfl ?_;unfold T9;have qj:(100:Nat)<=sizeLine:=by decide
 have hn:=B.hn;have hv:=v.len;refine Y ?_;refine nF (l:=F) (f:=bf) (λc=>some (.bl (Ez k c))) (by lia) ?_ (λc hc=>?_) ?_
 ·refine Y ?_;show W (src (.d (.tup (F.map bf)))) _ _;refine Y ?_;exact⟨rfl,rfl⟩
 ·cases c with
  |none=>
   refine Y ?_;refine⟨rfl,λ_=>?_,λhb=>by cases hb⟩;refine Y ?_;exact⟨rfl,_,rfl,rfl⟩
  |some L=>
   refine Y ?_;refine⟨rfl,λ_=>?_,λhb=>by cases hb⟩;refine Y ?_;refine gj (zl4 (f:=id)) ?_;exact⟨rfl,_,rfl,rfl⟩
 ·rw[uP];refine Y ?_;refine gj ZQ ?_;rfl
end
section
variable {n k d:Int}{ps:List (Int×Int)}
theorem zdi{k':Nat}(h:Web n ps):W (call aq T (k'+2) true 14 [.d (bA n ps)]) [] λv s=>v=.d (.fl (Cj n.toNat λi=>aM i ps)):=by
 refine W.call zoE rfl ?_;unfold TY;have qj:(100:Nat)<=sizeLine:=by decide
 have h1:=h.h1;have h8:=h.h8;refine Y ?_;refine nF (l:=List.range (n-0).toNat) (f:=λ(j:Nat)=>.int (0+j)) (λ(i:Nat)=>some (.tup ((aM i ps).map .int))) (by rw[nG];lia) ?_ (λj hj=>?_) ?_
 ·unfold bA;refine Y ?_;refine⟨by rw[kJ (by lia) (by lia),kJ (by lia) (by lia)];rfl,?_⟩;exact⟨rfl,rfl⟩
 ·refine Y ?_;refine⟨rfl,λ_=>?_,λhb=>by cases hb⟩;refine Y ?_;refine W.c0 (zh4 h) ?_;exact⟨rfl,_,rfl,by rw[show (0:Int)+j=j by lia]⟩
 ·rw[show (List.range (n-0).toNat).filterMap (λ(i:Nat)=>some (D.tup ((aM i ps).map .int)))=Cj n.toNat λi=>aM i ps by rw[uP,show n-0=n by lia];rfl];exact Y trivial
theorem ziq{k':Nat}{al:Bool}{A:Int->Int->Bool}(h:Web n ps){m:Nat}(hm:m<=24):W (call aq T (k'+3) true 15 [.d .any,.d (bA n ps),.d (.fl (uV m A)),.d (.bl al)]) [] λv s=>v=.d (.tup [.fl (Cj n.toNat λi=>aM i ps),.tup ((cC m).map .int),.fl (uV m A),.bl al]):=by
 refine W.call zoC rfl ?_;unfold T3;refine Y ?_;refine W.c0 (zdi h) ?_;have em:(uV m A).length=m:=by unfold uV;simp
 refine Zn (Zw (ds:=[.int ((uV m A).length:Nat)]) rfl (gj (d:=.tup ((cC m).map .int)) (by rw[em];exact znX (by lia)) ?_));exact Y trivial
theorem zgK{k':Nat}(h:Web n ps)(hd:1<=d)(EY:d<=k)(hk:k<=24):W (call aq T (k'+4) true 22 [.d (bA n ps),.d (bO k d)]) [] λv s=>v=.d (Tn n.toNat k.toNat (λi=>aM i ps) (bR k d)):=by
 refine W.call zof rfl ?_;unfold T_ bO;have qj:(100:Nat)<=sizeLine:=by decide
 have e0:(k-0).toNat=k.toNat:=by lia
 refine Y ?_;refine nF (l:=List.range (k-0).toNat) (f:=λ(j:Nat)=>.int (0+j)) (λ(j:Nat)=>some (.bl ((λj:Int=>decide (d<=j/\d<=k-j)) j))) (by rw[nG];lia) ?_ (λj hj=>?_) ?_
 ·refine Y ?_;refine⟨by rw[kJ (by lia) (by lia),kJ (by lia) (by lia)];rfl,?_⟩;exact⟨rfl,rfl⟩
 ·refine Y ?_;refine⟨rfl,λ_=>?_,λhb=>by cases hb⟩;refine Y ?_;refine⟨rfl,_,rfl,?_⟩
  congr 2
  rw[q_]
  split<;>lia
 ·rw[uP,e0];refine Y ?_;refine W.mk (vs:=[.d (bA n ps),.d (.fl (uV k.toNat (bR k d))),.d (.bl true)]) ?_ rfl (ziq h (by lia));refine Y ?_;refine nF (l:=List.range (k-0).toNat) (f:=λ(j:Nat)=>.int (0+j)) (λ(a:Nat)=>some (.fl ((List.range k.toNat).map λ(b:Nat)=>.bl (bR k d a b)))) (by rw[nG];lia) ?_ (λa ha=>?_) ?_
  ·refine Y ?_;refine⟨by rw[kJ (by lia) (by lia),kJ (by lia) (by lia)];rfl,?_⟩;exact⟨rfl,rfl⟩
  ·have ha:=vf.mp ha;refine Y ?_;refine⟨rfl,λ_=>?_,λhb=>by cases hb⟩;refine Y ?_;refine nF (l:=List.range (k-0).toNat) (f:=λ(j:Nat)=>.int (0+j)) (λ(b:Nat)=>some (.bl (bR k d a b))) (by rw[nG];lia) ?_ (λb hb=>?_) ?_
   ·refine Y ?_;refine⟨by rw[kJ (by lia) (by lia),kJ (by lia) (by lia)];rfl,?_⟩;exact⟨rfl,rfl⟩
   ·have hb:=vf.mp hb;refine Y ?_;refine⟨rfl,λ_=>?_,λhb=>by cases hb⟩;refine Y ?_;by_cases c:(0:Int)<=(0+a:Int)-(0+b)
    ·refine gj (uO c (Tr (f:=λj=>decide (d<=j/\d<=k-j)) c (by lia))) ?_;refine⟨rfl,_,rfl,?_⟩;unfold bR
     congr 2
     rw[q_,sU hd]
     lia
    ·refine gj (zmW (x:=.bl (decide (d<=a-b+k/\d<=k-(a-b+k)))) (by lia) (by rw[cR,nG];lia) ?_) ?_
     ·rw[cR,nG];refine(Tr (f:=λj=>decide (d<=j/\d<=k-j)) (by lia) (by lia)).trans ?_
      congr 3
      simp
      lia
     ·refine⟨rfl,_,rfl,?_⟩;unfold bR
      congr 2
      rw[q_,sU hd]
      lia
   ·rw[uP,e0];refine Y ?_;exact⟨rfl,_,rfl,rfl⟩
  ·rw[uP,e0];refine Y ?_;exact⟨rfl,rfl⟩
end
theorem zj5{k:Nat}{i:Int}:W (call aq T (k+1) true 0 [.d (.int i)]) [] λv s=>v=.d (.bl true):=W.eq (a:=.d (.bl true)) (s':=[]) rfl rfl
theorem JZ{k:Nat}{a b:D}:W (call aq T (k+1) true 2 [.d (.tup [a,b]),.d (.int 2)]) [] λv s=>v=.d (.bl true):=W.eq (a:=.d (.bl true)) (s':=[]) rfl rfl
theorem iK{k:Nat}{i a b:Int}:W (call aq T (k+2) true 1 [.d (.int i),.d (.int a),.d (.int b)]) [] λv s=>v=.d (.bl (decide (a<=i/\i<=b))):=by
 refine W.call T_1 rfl ?_;unfold b1;refine Y ?_;refine W.c0 zj5 ?_;refine Y ?_;refine W.ite (λh1=>?_) (λh1=>?_)
 ·refine Y ?_;have:=gF h1;simp[this]
 ·refine Y ?_;simp at h1;have:¬(a<=i/\i<=b):=by lia
  simp[this]
theorem zl3{k:Nat}{i:Int}(h1:1<=i)(h2:i<=8):W (call aq T (k+3) true 6 [.d (.int i)]) [] λv s=>v=.d (.bl true):=by
 refine W.call T_6 rfl ?_;unfold b6;refine Y ?_;exact rW rfl (iK.imp λv s e=>⟨_,e,by rw[gq (And.intro h1 h2)]⟩)
theorem J0{k:Nat}{n i:Int}:W (call aq T (k+3) true 7 [.d (.int n),.d (.int i)]) [] λv s=>v=.d (.bl (decide (0<=i/\i<n))):=by
 refine W.call T_7 rfl ?_;unfold b7;refine Y ?_;exact rW rfl (iK.imp λv s e=>⟨_,e,by rw[q_.mpr (show 0<=i/\i<=n-1↔0<=i/\i<n by lia)]⟩)
theorem znf{k:Nat}{n:Int}{p:Int×Int}(h:0<=p.1/\p.1<p.2/\p.2<n):W (call aq T (k+4) true 8 [.d (.int n),.d (dY p)]) [] λv s=>v=.d (.bl true):=by
 obtain⟨a,b⟩:=p;obtain⟨h1,h2,h3⟩:=h;unfold dY;dsimp only at h1 h2 h3 ⊢;refine W.call UG rfl ?_;unfold b8;refine Y ?_;refine W.c0 JZ ?_;refine Y ?_;refine W.c0 J0 ?_;rw[gq (show 0<=a/\a<n by lia)];refine Y ?_;refine W.c0 J0 ?_;rw[gq (show 0<=b/\b<n by lia)];refine Y ?_;rw[gq h2]
theorem zi0{k:Nat}{n:Int}{ps:List (Int×Int)}(h:Web n ps):W (call aq T (k+5) true 4 [.d (bA n ps)]) [] λv s=>v=.d (.bl true):=by
 refine W.call T_4 rfl ?_;unfold b4 bA;have hl:(ps.map dY).length<=100:=by rw[cR];have:=h.len;have:=h.h8;lia
 have hs:(100:Nat)<=sizeLine:=by decide
 refine Y ?_;refine W.c0 JZ ?_;refine Y ?_;refine W.c0 (zl3 h.h1 h.h8) ?_;refine Y ?_;refine Zy (c:=ps.map dY) (λ_=>.bl true) (by lia) ?_ (λx hx=>?_) ?_
 ·refine Y ?_;exact⟨rfl,rfl⟩
 ·obtain⟨p,hp,rfl⟩:=pC.mp hx;refine Y ?_;exact rW rfl ((znf (h.tie p hp)).imp λv s e=>⟨_,e,rfl,rfl⟩)
 ·refine Y ?_;refine gj (Ml ?_) ?_
  ·intro x hx;obtain⟨_,_,e⟩:=pC.mp hx;exact e.symm
  refine Y ?_;refine Zy (c:=List.zipWith (λ(p q:D)=>D.tup [p,q]) (ps.map dY) ((ps.map dY).drop 1)) (λ_=>.bl true) (by rw[List.length_zipWith];lia) ?_ (λx hx=>?_) ?_
  ·refine Y ?_;rw[SN];exact⟨rfl,rfl⟩
  ·obtain⟨p,q,rfl,hpq⟩:=ZC h.inc x hx;refine Y ?_;rw[znd hpq];exact⟨rfl,rfl⟩
  ·refine Y ?_;refine gj (Ml ?_) ?_
   ·intro x hx;obtain⟨_,_,e⟩:=pC.mp hx;exact e.symm
   rfl
theorem E_{k:Nat}{n:Int}{ps:List (Int×Int)}(h:Web n ps):W (call aq T (k+6) true 10 [.d (bA n ps)]) [] λv s=>∃d,v=.d d:=by
 refine W.call zor rfl ?_;unfold b10;refine Y ?_;refine W.c0 (zi0 h) ?_;refine Y ?_;exact⟨_,rfl⟩
theorem zhC{k':Nat}{k d:Int}(hd:1<=d)(EY:d<=k)(hk:k<=24):W (call aq T (k'+3) true 24 [.d (bO k d)]) [] λv s=>v=.d (.bl true):=by
 refine W.call zov rfl ?_;unfold Ub bO;refine Y ?_;refine W.c0 JZ ?_;refine Y ?_;refine W.c0 iK ?_;rw[gq (show 1<=k/\k<=24 by lia)];refine Y ?_;refine W.c0 iK ?_;rw[gq (show 1<=d/\d<=k by lia)]
theorem zdc{k':Nat}{k d:Int}(hd:1<=d)(EY:d<=k)(hk:k<=24):W (call aq T (k'+4) true 25 [.d (bO k d)]) [] λv s=>∃d,v=.d d:=by
 refine W.call zoj rfl ?_;unfold Uc;refine Y ?_;refine W.c0 (zhC hd EY hk) ?_;refine Y ?_;exact⟨_,rfl⟩
section
variable {al:Bool}{n k:Nat}{es:Nat->List Int}{A:Int->Int->Bool}
def Told(al:Bool)(n k:Nat)(es:Nat->List Int)(A:Int->Int->Bool)(f l m c:Nat):Prop:=∀F kvs,Fv n k F->unset F<=m->lB es A kvs->kvs.length+c<sizeLine->
 W (call aq T l true f [.d (jd al n k es A),.l 0,.d (jo F)]) [.dct kvs] λv s=>∃b kvs',v=.d (.bl b)/\(b=true↔Sat es A F)/\s=[.dct kvs']/\lB es A kvs'/\kvs'.length<=kvs.length+c
theorem Ny{l m c:Nat}(B:Bo n k es A)(H:Told al n k es A 36 (l+2) m c){F:Fr}{p:Nat}{L:List Int}{kvs:iR}(v:Fv n k F)(hu:unset F<=m+1)(hL:F[p]?=some (some L))(ha:lB es A kvs)(hl:kvs.length+k*c<sizeLine) :
  W (call aq T (l+3) true 35 [.d (jd al n k es A),.l 0,.d (jo F),.d (.int p)]) [.dct kvs] λv s=>∃kvs',s=[.dct kvs']/\lB es A kvs'/\kvs'.length<=kvs.length+k*c /\
   ((v=.d .non/\∀x∈L,¬Sat es A (settle es A F p x))\/∃x∈L,v=.d (.int x)/\Sat es A (settle es A F p x)/\∀y∈L,y<x->¬Sat es A (settle es A F p y)):=by
 refine W.call UJ rfl ?_;unfold M7;have qj:(100:Nat)<=sizeLine:=by decide
 have hp:=qW v.len hL;have hLk:L.length<=k:=zdt (v.so p L hL) (v.lo p L hL);refine Y ?_;refine gj (ZL (by lia) (Jy hL)) ?_;show W (src (.d (.tup (L.map .int)))) _ _;refine Y ?_;refine ZM (λi J s=>∃(kvs':iR) (a4:Option Xv),s=[.dct kvs']/\J=[some (.d (jd al n k es A)),some (.l 0),some (.d (jo F)),some (.d (.int p)),a4]/\lB es A kvs'/\kvs'.length<=kvs.length+i*c/\∀j y,j<i->L[j]?=some y->¬Sat es A (settle es A F p y)) ⟨kvs,_,rfl,rfl,ha,by lia,λj _ hj=>absurd hj (by lia)⟩ (λi z J s e hI=>?_) (λJ s hI=>?_)
 ·obtain⟨kvs',a4,rfl,rfl,h1,h2,h3⟩:=hI;rw[iu] at e;cases ei:L[i]? with
  |none=>rw[ei] at e;cases e
  |some x=>
   rw[ei] at e;cases e;have hi:i<L.length:=(eO.mp ei).1;have hx:=fX ei;have hc:(i+1)*c<=k*c:=Cw _ (by lia);have qD:(i+1)*c=i*c+c:=FZ ..;refine Y ?_;refine W.cm rfl rfl (W.c0 (JV B v hp (v.lo p L hL x hx)) ?_);refine Y ?_;have hu2:=Jx (es:=es) (A:=A) (x:=x) hL;refine sS (s:=[]) rfl ((H _ kvs' (Jw B v hp) (by lia) h1 (by lia)).imp λv1 s1=>?_);rintro⟨b,dj,rfl,hb,rfl,g1,g2⟩;refine⟨_,_,rfl,rfl,?_⟩;refine Y ?_;cases b with
   |true=>
    refine Y ?_;refine .inr ⟨_,rfl,?_⟩;refine⟨dj,rfl,g1,by lia,.inr ⟨x,hx,rfl,hb.mp rfl,λy hy dF=>?_⟩⟩;obtain⟨j,hj,ej⟩:=vY hy;refine h3 j y ?_ (by rw[dO hj,ej]);obtain⟨_,ex⟩:=eO.mp ei;exact Nat.lt_of_not_le λq=>by
     rcases Nat.lt_or_eq_of_le q with q|q
     ·have:=List.pairwise_iff_getElem.mp (v.so p L hL) i j hi hj q
      lia
     ·subst q;lia
   |false=>
    refine Y ?_;refine .inl ⟨_,rfl,dj,_,rfl,rfl,g1,by lia,λj y hj ej=>?_⟩;by_cases q:j=i
    ·subst q;rw[ei] at ej;cases ej;exact λz=>by cases hb.mpr z
    ·exact h3 j y (by lia) ej
 ·obtain⟨kvs',a4,rfl,rfl,h1,h2,h3⟩:=hI;rw[cR] at h2 h3;have hc:L.length*c<=k*c:=Cw _ hLk;refine Y ?_;refine⟨kvs',rfl,h1,by lia,.inl ⟨rfl,λx hx=>?_⟩⟩;obtain⟨j,hj,ej⟩:=vY hx;exact h3 j x hj (by rw[dO hj,ej])
theorem zh7{l:Nat}(B:Bo n k es A):Told al n k es A 37 (l+3) 0 0:=by
 intro F kvs v hu ha hl;refine W.call M8 rfl ?_;unfold JD;refine Y ?_;refine W.cm rfl rfl (rW rfl ((VN B v).imp λx s=>?_));rintro(⟨rfl,hz⟩|⟨p,L,rfl,hL⟩)
 ·refine⟨_,rfl,?_⟩;refine Y ?_;exact⟨true,kvs,rfl,⟨λ_=>Tf hz,λ_=>rfl⟩,rfl,ha,by lia⟩
 ·exact absurd hL (ze7 (by lia) p L)
theorem zhq{l m c:Nat}(B:Bo n k es A)(jZ:1<=k)(dw:al=true->∀t a b:Int,0<=a->a<k->0<=b->b<k->A ((a+t)%k) ((b+t)%k)=A a b)(H:∀j,Told al n k es A 36 (l+2+j) m c):Told al n k es A 37 (l+4) (m+1) (k*c):=by
 intro F kvs v hu ha hl;refine W.call M8 rfl ?_;unfold JD;have hkc:1*c<=k*c:=Cw _ jZ;refine Y ?_;refine W.cm rfl rfl (rW rfl ((VN B v).imp λx s=>?_));rintro(⟨rfl,hz⟩|⟨p,L,rfl,hL⟩)
 ·refine⟨_,rfl,?_⟩;refine Y ?_;exact⟨true,kvs,rfl,⟨λ_=>Tf hz,λ_=>rfl⟩,rfl,ha,by lia⟩
 ·refine⟨_,rfl,?_⟩;have hp:=qW v.len hL;cases al with
  |false=>
   refine Y ?_;refine sS (s:=[]) rfl ((Ny B (H 0) v hu hL ha (by lia)).imp λv1 s1=>?_);rintro⟨dj,rfl,g1,g2,h⟩;rcases h with ⟨rfl,mF⟩|⟨x,hx,rfl,hs,_⟩
   ·refine⟨_,_,rfl,rfl,?_⟩;refine Y ?_;refine⟨false,dj,rfl,⟨λz=>(by cases z),λz=>?_⟩,rfl,g1,g2⟩;obtain⟨x,hx,q⟩:=(Ew B v hp hL).mp z;exact absurd q (mF x hx)
   ·refine⟨_,_,rfl,rfl,?_⟩;refine Y ?_;exact⟨true,dj,rfl,⟨λ_=>(Ew B v hp hL).mpr ⟨x,hx,hs⟩,λ_=>rfl⟩,rfl,g1,g2⟩
  |true=>
  have dw:=dw rfl;refine Y ?_;refine W.cm rfl rfl (W.c0 (zdo B v) ?_);refine Y ?_;cases eb:F.all (Ez k) with
  |true=>
   have all:∀(i:Nat) L,F[i]?=some (some L)->L=cC k:=λi L h=>gF (fu.mp eb _ (fX h));refine Y ?_;refine W.cm rfl rfl (W.c0 (JV B v hp ⟨by lia,by lia⟩) ?_);refine Y ?_;have hu2:=Jx (es:=es) (A:=A) (x:=0) hL;refine sS (s:=[]) rfl ((H 1 _ kvs (Jw B v hp) (by lia) ha (by lia)).imp λv1 s1=>?_);rintro⟨b,dj,rfl,hb,rfl,g1,g2⟩;refine⟨_,_,rfl,rfl,?_⟩;refine Y ?_;exact⟨b,dj,rfl,hb.trans (Ti B v hp jZ dw all (all p L hL▸hL)).symm,rfl,g1,by lia⟩
  |false=>
   refine Y ?_;refine sS (s:=[]) rfl ((Ny B (H 0) v hu hL ha (by lia)).imp λv1 s1=>?_);rintro⟨dj,rfl,g1,g2,h⟩;rcases h with ⟨rfl,mF⟩|⟨x,hx,rfl,hs,_⟩
   ·refine⟨_,_,rfl,rfl,?_⟩;refine Y ?_;refine⟨false,dj,rfl,⟨λz=>(by cases z),λz=>?_⟩,rfl,g1,g2⟩;obtain⟨x,hx,q⟩:=(Ew B v hp hL).mp z;exact absurd q (mF x hx)
   ·refine⟨_,_,rfl,rfl,?_⟩;refine Y ?_;exact⟨true,dj,rfl,⟨λ_=>(Ew B v hp hL).mpr ⟨x,hx,hs⟩,λ_=>rfl⟩,rfl,g1,g2⟩
theorem zib{l m c:Nat}(B:Bo n k es A)(jZ:1<=k)(dw:∀t a b:Int,0<=a->a<k->0<=b->b<k->A ((a+t)%k) ((b+t)%k)=A a b)(H:Told true n k es A 36 (l+3) m c){F:Fr}{kvs:iR}(v:Fv n k F)(hu:unset F<=m+1)(eb:F.all (Ez k)=true)(ha:lB es A kvs)(hl:kvs.length+c<sizeLine) :
  W (call aq T (l+4) true 37 [.d (jd true n k es A),.l 0,.d (jo F)]) [.dct kvs] λv s=>∃b kvs',v=.d (.bl b)/\(b=true↔Sat es A F)/\s=[.dct kvs']/\lB es A kvs'/\kvs'.length<=kvs.length+c:=by
 refine W.call M8 rfl ?_;unfold JD;refine Y ?_;refine W.cm rfl rfl (rW rfl ((VN B v).imp λx s=>?_));rintro(⟨rfl,hz⟩|⟨p,L,rfl,hL⟩)
 ·refine⟨_,rfl,?_⟩;refine Y ?_;exact⟨true,kvs,rfl,⟨λ_=>Tf hz,λ_=>rfl⟩,rfl,ha,by lia⟩
 ·refine⟨_,rfl,?_⟩;have hp:=qW v.len hL;refine Y ?_;refine W.cm rfl rfl (W.c0 (zdo B v) ?_);refine Y ?_;have all:∀(i:Nat) L,F[i]?=some (some L)->L=cC k:=λi L h=>gF (fu.mp eb _ (fX h));rw[eb];refine Y ?_;refine W.cm rfl rfl (W.c0 (JV B v hp ⟨by lia,by lia⟩) ?_);refine Y ?_;have hu2:=Jx (es:=es) (A:=A) (x:=0) hL;refine sS (s:=[]) rfl ((H _ kvs (Jw B v hp) (by lia) ha (by lia)).imp λv1 s1=>?_);rintro⟨b,dj,rfl,hb,rfl,g1,g2⟩;refine⟨_,_,rfl,rfl,?_⟩;refine Y ?_;exact⟨b,dj,rfl,hb.trans (Ti B v hp jZ dw all (all p L hL▸hL)).symm,rfl,g1,by lia⟩
theorem zmv{l c:Nat}(B:Bo n k es A){F:Fr}{kvs:iR}(v:Fv n k F)(ha:lB es A kvs)(hl:kvs.length+(1+c)<sizeLine)(H:W (call aq T (l+3) true 37 [.d (jd al n k es A),.l 0,.d (jo (bnd es F))]) [.dct kvs] λv s=>∃b kvs',v=.d (.bl b)/\(b=true↔Sat es A (bnd es F))/\s=[.dct kvs']/\lB es A kvs'/\kvs'.length<=kvs.length+c) :
  W (call aq T (l+4) true 36 [.d (jd al n k es A),.l 0,.d (jo F)]) [.dct kvs] λv s=>∃b kvs',v=.d (.bl b)/\(b=true↔Sat es A F)/\s=[.dct kvs']/\lB es A kvs'/\kvs'.length<=kvs.length+(1+c):=by
 refine W.call zn2 rfl ?_;unfold Um;refine Y ?_;refine gj (znl (f:=id)) ?_;by_cases e0:some []∈F
 ·rw[gq e0];refine Y ?_;obtain⟨i,hi,ei⟩:=vY e0;refine⟨false,kvs,rfl,⟨λz=>(by cases z),λz=>absurd z (zkg (i:=i) (by rw[dO hi,ei]))⟩,rfl,ha,by lia⟩
 ·rw[rm e0];have ne:∀(i:Nat) L,F[i]?=some (some L)->L≠[]:=λi L h q=>by subst q;exact e0 (fX h)
  have sb:=zi7 B v ne;refine Y ?_;refine W.cm rfl rfl (W.c0 (zj4 B v) ?_);refine Y ?_;refine W.Bc rfl rfl (Mx _) rfl ?_;cases eg:cj ((bnd es F).map cellK) kvs with
  |some d=>
   obtain⟨b,rfl,hb⟩:=ha _ _ eg;refine Y ?_;refine W.pP rfl rfl (Mx _) rfl eg ?_;refine Y ?_;exact⟨b,kvs,rfl,hb.trans sb,rfl,ha,by lia⟩
  |none=>
   refine Y ?_;refine WS.dput rfl rfl (Mx _) ?_;refine Y ?_;refine sS (s:=[]) rfl (H.imp λv1 s1=>?_);rintro⟨b,dj,rfl,hb,rfl,g1,g2⟩;refine⟨_,_,rfl,rfl,?_⟩;refine⟨_,dj,rfl,rfl,by lia,?_⟩;refine Y ?_;refine W.pP (v:=.bl b) rfl rfl (Mx _) rfl (by rw[zee,if_pos rfl]) ?_;refine Y ?_;have:=zg1 (q:=(bnd es F).map cellK) (d:=.bl b) (kvs:=dj);exact⟨b,_,rfl,hb.trans sb,rfl,ziR g1 hb,by lia⟩
theorem zlU{l m c:Nat}(B:Bo n k es A)(H:Told al n k es A 37 (l+3) m c):Told al n k es A 36 (l+4) m (1+c):=by
 intro F kvs v hu ha hl;have hu2:=zdu (es:=es) (F:=F);exact zmv B v ha hl (H _ kvs (zio v) (by lia) ha (by lia))
theorem Fb(B:Bo n k es A)(jZ:1<=k)(dw:al=true->∀t a b:Int,0<=a->a<k->0<=b->b<k->A ((a+t)%k) ((b+t)%k)=A a b):∀m j,Told al n k es A 36 (3*m+4+j) m (cnt k m)
 |0,j=>by
  rw[show 3*0+4+j=j+4 by lia];exact zlU (c:=0) B (zh7 B)
 |m+1,j=>by
  rw[show 3*(m+1)+4+j=(3*m+3+j)+4 by lia];refine zlU B ?_;rw[show 3*m+3+j+3=(3*m+2+j)+4 by lia];refine zhq B jZ dw λi=>?_;rw[show 3*m+2+j+2+i=3*m+4+(j+i) by lia];exact Fb B jZ dw m (j+i)
theorem zg9{m j:Nat}(B:Bo n k es A)(jZ:1<=k)(dw:∀t a b:Int,0<=a->a<k->0<=b->b<k->A ((a+t)%k) ((b+t)%k)=A a b){F:Fr}{kvs:iR}(v:Fv n k F)(hu:unset F<=m+1)(eb:F.all (Ez k)=true)(ha:lB es A kvs)(hl:kvs.length+(1+cnt k m)<sizeLine) :
  W (call aq T (3*(m+1)+4+j) true 36 [.d (jd true n k es A),.l 0,.d (jo F)]) [.dct kvs] λv s=>∃b kvs',v=.d (.bl b)/\(b=true↔Sat es A F)/\s=[.dct kvs']/\lB es A kvs'/\kvs'.length<=kvs.length+(1+cnt k m):=by
 rw[show 3*(m+1)+4+j=(3*m+3+j)+4 by lia];refine zmv B v ha hl ?_;rw[show 3*m+3+j+3=(3*m+2+j)+4 by lia];have hu2:=zdu (es:=es) (F:=F);refine zib B jZ dw ?_ (zio v) (j8 hu2 hu) ?_ ha (by lia)
 ·rw[show 3*m+2+j+3=3*m+4+(j+1) by lia];exact Fb B jZ (λ_=>dw) m (j+1)
 ·refine fu.mpr λc hc=>?_;cases c with
  |none=>rfl
  |some L=>
   obtain⟨i,hi,ei⟩:=vY hc;have:=Cg (es:=es) (F:=F) (i:=i) (L:=L) (by rw[dO hi,ei]);exact fu.mp eb _ (fX this.1)
theorem zlK{l m c:Nat}(B:Bo n k es A)(jZ:1<=k)(dw:∀t a b:Int,0<=a->a<k->0<=b->b<k->A ((a+t)%k) ((b+t)%k)=A a b)(H:Told true n k es A 36 (l+2) m c){F:Fr}{p:Nat}{kvs:iR}(v:Fv n k F)(hu:unset F<=m+1)(all:∀(i:Nat) L,F[i]?=some (some L)->L=cC k)(hL:F[p]?=some (some (cC k)))(ql:Sat es A F)(ha:lB es A kvs)(hl:kvs.length+c<sizeLine) :
  W (call aq T (l+3) true 35 [.d (jd true n k es A),.l 0,.d (jo F),.d (.int p)]) [.dct kvs] λv s=>∃kvs',s=[.dct kvs']/\lB es A kvs'/\kvs'.length<=kvs.length+c /\
   ((v=.d .non/\∀x∈cC k,¬Sat es A (settle es A F p x))\/∃x∈cC k,v=.d (.int x)/\Sat es A (settle es A F p x)/\∀y∈cC k,y<x->¬Sat es A (settle es A F p y)):=by
 refine W.call UJ rfl ?_;unfold M7;have hp:=qW v.len hL;have h0:=(Ti B v hp jZ dw all hL).mp ql;refine Y ?_;refine gj (ZL (by lia) (Jy hL)) ?_;show W (src (.d (.tup ((cC k).map .int)))) _ _;refine Y ?_;refine ZM (λi J s=>i=0/\∃a4:Option Xv,s=[.dct kvs]/\J=[some (.d (jd true n k es A)),some (.l 0),some (.d (jo F)),some (.d (.int p)),a4]) ⟨rfl,_,rfl,rfl⟩ (λi z J s e hI=>?_) (λJ s hI=>?_)
 ·obtain⟨rfl,a4,rfl,rfl⟩:=hI;rw[iu] at e;have ei:(cC k)[0]?=some 0:=by unfold cC;rw[iu,Cz (by lia)];rfl
  rw[ei] at e;cases e;have hx:(0:Int)∈cC k:=bC.mpr ⟨by lia,by lia⟩;refine Y ?_;refine W.cm rfl rfl (W.c0 (JV B v hp ⟨by lia,by lia⟩) ?_);refine Y ?_;have hu2:=Jx (es:=es) (A:=A) (x:=0) hL;refine sS (s:=[]) rfl ((H _ kvs (Jw B v hp) (by lia) ha (by lia)).imp λv1 s1=>?_);rintro⟨b,dj,rfl,hb,rfl,g1,g2⟩;have eb:b=true:=hb.mpr h0;subst eb;refine⟨_,_,rfl,rfl,?_⟩;refine Y ?_;refine .inr ⟨_,rfl,?_⟩;exact⟨dj,rfl,g1,g2,.inr ⟨0,hx,rfl,h0,λy hy dF=>absurd (bC.mp hy).1 (by lia)⟩⟩
 ·obtain⟨hz,_⟩:=hI;rw[cR] at hz;have:(cC k).length=k:=by unfold cC;simp
  lia
end
section
variable {al:Bool}{n k:Nat}{es:Nat->List Int}{A:Int->Int->Bool}
theorem zgC{k':Nat}(B:Bo n k es A)(jZ:1<=k)(dw:al=true->∀t a b:Int,0<=a->a<k->0<=b->b<k->A ((a+t)%k) ((b+t)%k)=A a b){F0:Fr}(v0:Fv n k F0)(all:∀i,i<n->∃L,F0[i]?=some (some L)){c0 c1:Nat}(hz:c0+c1+tot k (n-1)<sizeLine)
  (Hc:W (call aq T (3*n+4+k') true 36 [.d (jd al n k es A),.l 0,.d (jo F0)]) [.dct []] λv s=>∃b kvs',v=.d (.bl b)/\(b=true↔Sat es A F0)/\s=[.dct kvs']/\lB es A kvs'/\kvs'.length<=c0)
  (Hf:∀kvs L,F0[0]?=some (some L)->Sat es A F0->lB es A kvs->kvs.length<=c0->W (call aq T (3*n+1+k'+3) true 35 [.d (jd al n k es A),.l 0,.d (jo F0),.d (.int (0:Nat))]) [.dct kvs] λv s=>∃kvs',s=[.dct kvs']/\lB es A kvs'/\kvs'.length<=kvs.length+c1 /\
   ((v=.d .non/\∀x∈L,¬Sat es A (settle es A F0 0 x))\/∃x∈L,v=.d (.int x)/\Sat es A (settle es A F0 0 x)/\∀y∈L,y<x->¬Sat es A (settle es A F0 0 y))) :
  W (call aq T (3*n+5+k') true 34 [.d (jd al n k es A),.d (.fl (F0.map bf))]) [] λv s=>(v=.d .non/\¬Sat es A F0)\/∃hs:List Int,v=.d (.tup (hs.map .int))/\hs.length=n/\oU es A F0 (λj=>at' hs j)/\∀g,oU es A F0 g->∀j,j<n->(∀t,t<j->g t=at' hs t)->at' hs j<=g j:=by
 have hn:=B.hn;have hl:=v0.len;rw[show 3*n+5+k'=(3*n+4+k')+1 by lia];refine W.call zox rfl ?_;unfold Ul;have qj:(100:Nat)<=sizeLine:=by decide
 have Bu:unset F0<=n:=by unfold unset;rw[<-hl];exact Ob
 refine Y ?_;refine W.rH ?_;refine Y ?_;refine sS (s:=[]) rfl (Hc.imp λv1 s1=>?_);rintro⟨b,kvs,rfl,hb,rfl,g1,g2⟩;refine⟨_,_,rfl,rfl,?_⟩;refine Y ?_;cases b with
 |false=>
  refine Y ?_;exact .inl ⟨rfl,λz=>by cases hb.mpr z⟩
 |true=>
  have ql:=hb.mp rfl;refine Y ?_;have J1:((F0.map bf).length:Int)=n:=by rw[cR,hl]
  refine⟨by rw[J1,kJ (by lia) (by lia),kJ (by lia) (by lia)];rfl,?_⟩;rw[J1];refine En (c:=(List.range ((n:Int)-0).toNat).map λ(j:Nat)=>.int (0+j)) (λi J s=>∃(kvs':iR) (Fi:Fr) (hs:List Int) (a5 a6:Option Xv),s=[.dct kvs',.lst (hs.map .int)]/\J=[some (.d (jd al n k es A)),some (.d (.fl (F0.map bf))),some (.d (jo Fi)),some (.l 0),some (.l 1),a5,a6]/\lB es A kvs'/\(i=0->Fi=F0/\kvs'.length<=c0)/\(1<=i->kvs'.length+tot k (n-i)<=c0+c1+tot k (n-1))/\hs.length=i/\Fv n k Fi/\unset Fi<=n-i/\(∀j,i<=j->j<n->∃L,Fi[j]?=some (some L))/\Sat es A Fi /\
   (∀g,oU es A Fi g->oU es A F0 λj=>if j<i then at' hs j else g j)/\(∀g,oU es A F0 g->(∀t,t<i->g t=at' hs t)->oU es A Fi g)/\(∀g,oU es A F0 g->∀j,j<i->(∀t,t<j->g t=at' hs t)->at' hs j<=g j)) ?_ (λi z J s e hI=>?_) (λJ s hI=>?_)
  ·exact⟨kvs,F0,[],_,_,rfl,rfl,g1,λ_=>⟨rfl,g2⟩,λz=>absurd z (by lia),rfl,v0,by lia,λj _ hj=>all j hj,ql,λg s=>by simpa using s,λg s _=>s,λg _ j hj=>absurd hj (by lia)⟩
  ·obtain⟨kvs',Fi,hs,a5,a6,rfl,rfl,i1,i0,i2,i3,i4,i5,i6,i7,i8,i9,Nz⟩:=hI;rw[iu] at e;cases ei:(List.range ((n:Int)-0).toNat)[i]? with
   |none=>rw[ei] at e;cases e
   |some j=>
    rw[ei] at e;cases e;obtain⟨hil,ej⟩:=eO.mp ei;rw[Oh] at ej;rw[nG] at hil;subst ej;obtain⟨L,hL⟩:=i6 i (b_ _) (by lia);have ez:((0:Int)+(i:Nat))=(i:Int):=by lia
    dsimp only;rw[ez];have hp:=qW i4.len hL;obtain⟨m,hm⟩ : ∃m,n-i=m+1:=⟨n-i-1,by lia⟩;rw[hm] at i2 i5;have et:tot k (m+1)=k*cnt k m+tot k m:=rfl;refine Y ?_;have lv:3*n+4+k'=(3*n+1+k')+3:=by lia
    refine Kaq (s:=[]) rfl ?_;rw[lv];have H:Told al n k es A 36 (3*n+1+k'+2) m (cnt k m):=by
     rw[show 3*n+1+k'+2=3*m+4+(3*n-3*m+k'-1) by lia];exact Fb B jZ dw m _
    obtain⟨c2,qD,hW⟩ : ∃c2,(kvs'.length+c2+tot k m<=c0+c1+tot k (n-1))/\W (call aq T (3*n+1+k'+3) true 35 [.d (jd al n k es A),.l 0,.d (jo Fi),.d (.int i)]) [.dct kvs'] λv s=>∃dj,s=[.dct dj]/\lB es A dj/\dj.length<=kvs'.length+c2 /\
      ((v=.d .non/\∀x∈L,¬Sat es A (settle es A Fi i x))\/∃x∈L,v=.d (.int x)/\Sat es A (settle es A Fi i x)/\∀y∈L,y<x->¬Sat es A (settle es A Fi i y)):=by
     by_cases c:i=0
     ·subst c;obtain⟨rfl,q⟩:=i0 rfl;have em:n-1=m:=by lia
      rw[em];exact⟨c1,by lia,Hf kvs' L hL ql i1 q⟩
     ·have i2:=i2 (by lia);refine⟨k*cnt k m,by lia,Ny B H i4 i5 hL i1 (by lia)⟩
    clear i2;refine hW.imp λv1 s1=>?_;rintro⟨dj,rfl,q1,q2,h⟩;rcases h with ⟨rfl,mF⟩|⟨x,hx,rfl,Af,dF⟩
    ·obtain⟨x,hx,q⟩:=(Ew B i4 hp hL).mp i7;exact absurd q (mF x hx)
    ·refine⟨_,_,rfl,rfl,?_⟩;refine Y ?_;refine W.cm rfl rfl (W.c0 (JV (k':=3*n+2+k') B i4 hp (i4.lo i L hL x hx)) ?_);refine Y ?_;refine⟨by rw[cR];lia,?_⟩;refine Y ?_;have ag:∀j:Nat,j<i->at' (hs++[x]) j=at' hs j:=λj hj=>yZ (by lia) (by lia);have ai:at' (hs++[x]) (i:Int)=x:=by rw[<-i3];exact SX
     refine⟨_,rfl,dj,settle es A Fi i x,hs++[x],_,_,?_,rfl,q1,λz=>absurd z (by lia),λ_=>by rw[show n-(i+1)=m by lia];lia,by simp[i3],Jw B i4 hp,?_,λj hj hjn=>?_,Af,λg s=>?_,λg s hg=>?_,λg s j hj hg=>?_⟩
     ·rw[pq];rfl
     ·have:=Jx (es:=es) (A:=A) (x:=x) hL
      lia
     ·obtain⟨M,hM⟩:=i6 j (by lia) hjn;exact⟨_,Jv B i4.len hp (by lia) hM⟩
     ·have s2:=i8 _ (zel B i4 hp hL hx s);refine⟨λj M hM=>?_,λj e M N h1 h2 he=>?_⟩
      ·have:=s2.mem j M hM
       try dsimp only at this ⊢
       by_cases c1:j<i
       ·rw[if_pos c1] at this;rw[if_pos (by lia),ag j c1];exact this
       ·rw[if_neg c1] at this;by_cases c2:j=i
        ·rw[if_pos c2] at this;rw[if_pos (by lia),c2,ai];exact this
        ·rw[if_neg c2] at this;rw[if_neg (by lia)];exact this
      ·have ff:∀j:Nat,(if j<i then at' hs j else if j=i then x else g j)=if j<i+1 then at' (hs++[x]) j else g j:=λj=>by
        by_cases c1:j<i
        ·rw[if_pos c1,if_pos (by lia),ag j c1]
        ·rw[if_neg c1];by_cases c2:j=i
         ·rw[if_pos c2,if_pos (by lia),c2,ai]
         ·rw[if_neg c2,if_neg (by lia)]
       have:=s2.fit j e M N h1 h2 he
       try dsimp only at this ⊢
       rw[<-ff,<-ff];exact this
     ·have s2:=i9 g s λt ht=>by rw[hg t (by lia),ag t ht]
      have s3:=MF B i4 hp hL s2;rw[hg i (by lia),ai] at s3;exact s3
     ·by_cases c1:j<i
      ·rw[ag j c1];exact Nz g s j c1 λt ht=>by rw[hg t ht,ag t (by lia)]
      ·have:j=i:=by lia
       subst this;rw[ai];have s2:=i9 g s λt ht=>by rw[hg t ht,ag t ht]
       have s3:=MF B i4 hp hL s2;exact Int.not_lt.mp λq=>dF (g j) (s2.mem j L hL) q ⟨g,s3⟩
  ·obtain⟨kvs',Fi,hs,a5,a6,rfl,rfl,i1,i0,i2,i3,i4,i5,i6,i7,i8,i9,Nz⟩:=hI;rw[cR,nG,show ((n:Int)-0).toNat=n by lia] at i3 i8 Nz;refine Y ?_;refine .inr ⟨hs,rfl,i3,?_,Nz⟩;obtain⟨g,sg⟩:=i7;have s2:=i8 g sg;refine⟨λj M hM=>?_,λj e M N h1 h2 he=>?_⟩
   ·have:=s2.mem j M hM;rw[if_pos (qW hl hM)] at this;exact this
   ·have:=s2.fit j e M N h1 h2 he;rw[if_pos (qW hl h1),if_pos (qW hl h2)] at this;exact this
end
section
variable {n k d:Int}{ps:List (Int×Int)}
theorem zbQ{k':Nat}(h:Web n ps)(hd:1<=d)(EY:d<=k)(hk:k<=24)(hz:1+cnt k.toNat (n.toNat-1)+cnt k.toNat (n.toNat-1)+tot k.toNat (n.toNat-1)<sizeLine):W (call aq T (k'+40) true 33 [.d (bA n ps),.d (bO k d)]) [] λv s=>(v=.d .non/\∀hs,¬iH n k d ps hs)\/∃hs,v=.d (.tup (hs.map .int))/\iH n k d ps hs/\∀g,iH n k d ps g->Ge g hs:=by
 refine W.call zob rfl ?_;unfold Uk;have qj:(100:Nat)<=sizeLine:=by decide
 have h1:=h.h1;have h8:=h.h8;refine Y ?_;refine W.c1 (E_ h) λ_=>?_;refine Y ?_;refine W.c1 (zdc hd EY hk) λ_=>?_;refine Y ?_;refine W.c0 (zgK h hd EY hk) ?_;refine Y ?_;refine nF (l:=List.range (n-0).toNat) (f:=λ(j:Nat)=>.int (0+j)) (λ(_:Nat)=>some (bf (some (cC k.toNat)))) (by rw[nG];lia) ?_ (λj hj=>?_) ?_
 ·unfold bA;refine Y ?_;refine⟨by rw[kJ (by lia) (by lia),kJ (by lia) (by lia)];rfl,?_⟩;exact⟨rfl,rfl⟩
 ·refine Y ?_;refine⟨rfl,λ_=>?_,λhb=>by cases hb⟩;refine Y ?_;exact⟨rfl,_,rfl,rfl⟩
 ·have ef:(List.range (n-0).toNat).filterMap (λ(_:Nat)=>some (bf (some (cC k.toNat))))=(eN n k).map bf:=by
   rw[uP,show n-0=n by lia];unfold eN;rw[List.map_replicate];rw[List.map_const',nG]
  rw[ef];refine Y ?_;have lv:k'+39=3*n.toNat+5+(k'+34-3*n.toNat):=by lia
  refine rW rfl ?_;show W (Mi.call aq T (k'+39) true _ _) _ _;rw[lv];have B:=zkB h hd hk;have jZ:1<=k.toNat:=by lia
  have dw:∀t a b:Int,0<=a->a<(k.toNat:Nat)->0<=b->b<(k.toNat:Nat)->bR k d ((a+t)%(k.toNat:Nat)) ((b+t)%(k.toNat:Nat))=bR k d a b:=λt a b a0 ak b0 bk=>by rw[show ((k.toNat:Nat):Int)=k by lia] at *;exact MK hd t a b a0 ak b0 bk
  obtain⟨m,hm⟩ : ∃m,n.toNat=m+1:=⟨n.toNat-1,by lia⟩;have em:n.toNat-1=m:=by lia
  have Bu:unset (eN n k)<=m+1:=by
   have:=(Jz (n:=n) hk).len;rw[<-hm,<-this];exact Ob
  have al:∀(i:Nat) L,(eN n k)[i]?=some (some L)->L=cC k.toNat:=λi L e=>(zc e).2;have eb:(eN n k).all (Ez k.toNat)=true:=fu.mpr λc hc=>by rw[List.eq_of_mem_replicate hc];exact gq rfl
  rw[em] at hz;refine(zgC (c0:=1+cnt k.toNat m) (c1:=cnt k.toNat m) B jZ (λ_=>dw) (Jz hk) (λi hi=>⟨_,zj hi⟩) (by rw[em];exact hz) ?_ (λkvs L hL ql ha hl=>?_)).imp λv s=>?_
  ·rw[hm];have:=zg9 (m:=m) (j:=k'+34-3*(m+1)) (kvs:=[]) B jZ dw (Jz hk) Bu eb (λF d e=>by cases e) (by simp;lia);rw[hm] at this;simpa using this
  ·have e:=al 0 L hL;subst e;refine zlK B jZ dw ?_ (Jz hk) Bu al hL ql ha (by lia);rw[show 3*n.toNat+1+(k'+34-3*n.toNat)+2=3*m+4+(k'+33-3*m) by lia];exact Fb B jZ (λ_=>dw) m _
  rintro(⟨rfl,mF⟩|⟨hs,rfl,hl,Cq,IW⟩)
  ·refine⟨_,rfl,?_⟩;refine Y ?_;exact .inl ⟨rfl,λhs hh=>mF ⟨_,zev h hd hh⟩⟩
  ·refine⟨_,rfl,?_⟩;refine Y ?_;refine .inr ⟨hs,rfl,zhA h hl Cq,λg hg j hj ha=>?_⟩;exact IW _ (zev h hd hg) j (by lia) ha
end
section
variable {n m:Int}{ps qs:List (Int×Int)}
theorem zhK{k':Nat}(h:Web n ps)(h2:Web m qs):W (call aq T (k'+4) true 23 [.d (bA n ps),.d (bA m qs)]) [] λv s=>v=.d (jd false n.toNat m.toNat (λi=>aM i ps) (m9 qs)):=by
 refine W.call zoe rfl ?_;unfold Ua;have qj:(100:Nat)<=sizeLine:=by decide
 have h1:=h2.h1;have h8:=h2.h8;have em:bA m qs=.tup [.int m,.tup (qs.map dY)]:=rfl;refine Y ?_;refine W.mk (vs:=[.d (bA n ps),.d (.fl (uV m.toNat (m9 qs))),.d (.bl false)]) ?_ rfl (ziq h (by lia));refine Y ?_;refine nF (l:=List.range m.toNat) (f:=λ(i:Nat)=>.tup ((aM i qs).map .int)) (λ(a:Nat)=>some (.fl ((List.range m.toNat).map λ(b:Nat)=>.bl (m9 qs a b)))) (by rw[nG];lia) ?_ (λa ha=>?_) ?_
 ·refine Y ?_;refine W.c0 (zdi h2) ?_;refine Y ?_;exact⟨rfl,rfl⟩
 ·refine Y ?_;refine⟨rfl,λ_=>?_,λhb=>by cases hb⟩;refine Y ?_;refine nF (l:=List.range (m-0).toNat) (f:=λ(j:Nat)=>.int (0+j)) (λ(b:Nat)=>some (.bl (m9 qs a b))) (by rw[nG];lia) ?_ (λb hb=>?_) ?_
  ·refine Y ?_;refine⟨by rw[kJ (by lia) (by lia),kJ (by lia) (by lia)];rfl,?_⟩;exact⟨rfl,rfl⟩
  ·refine Y ?_;refine⟨rfl,λ_=>?_,λhb=>by cases hb⟩;refine Y ?_;refine gj (zky (f:=id)) ?_;refine⟨rfl,_,rfl,?_⟩;unfold m9;rw[show (0:Int)+(b:Nat)=(b:Int) by lia];rfl
  ·rw[uP,show m-0=m by lia];refine Y ?_;exact⟨rfl,_,rfl,rfl⟩
 ·rw[uP];refine Y ?_;exact⟨rfl,rfl⟩
theorem zcr{k':Nat}(h:Web n ps)(h2:Web m qs)(hz:cnt m.toNat n.toNat+m.toNat*cnt m.toNat (n.toNat-1)+tot m.toNat (n.toNat-1)<sizeLine):W (call aq T (k'+40) true 39 [.d (bA n ps),.d (bA m qs)]) [] λv s=>(v=.d .non/\∀hs,¬oW n m (m9 qs) ps hs)\/∃hs,v=.d (.tup (hs.map .int))/\oW n m (m9 qs) ps hs/\∀g,oW n m (m9 qs) ps g->Ge g hs:=by
 refine W.call zom rfl ?_;unfold Uq;have qj:(100:Nat)<=sizeLine:=by decide
 have h1:=h.h1;have h8:=h.h8;have m1:=h2.h1;have m8:=h2.h8;refine Y ?_;refine W.c1 (E_ h) λ_=>?_;refine Y ?_;refine W.c1 (E_ h2) λ_=>?_;refine Y ?_;refine W.c0 (zhK h h2) ?_;refine Y ?_;refine nF (l:=List.range (n-0).toNat) (f:=λ(j:Nat)=>.int (0+j)) (λ(_:Nat)=>some (bf (some (cC m.toNat)))) (by rw[nG];lia) ?_ (λj hj=>?_) ?_
 ·unfold bA;refine Y ?_;refine⟨by rw[kJ (by lia) (by lia),kJ (by lia) (by lia)];rfl,?_⟩;exact⟨rfl,rfl⟩
 ·refine Y ?_;refine⟨rfl,λ_=>?_,λhb=>by cases hb⟩;refine Y ?_;exact⟨rfl,_,rfl,rfl⟩
 ·have ef:(List.range (n-0).toNat).filterMap (λ(_:Nat)=>some (bf (some (cC m.toNat))))=(eN n m).map bf:=by
   rw[uP,show n-0=n by lia];unfold eN;rw[List.map_replicate];rw[List.map_const',nG]
  rw[ef];refine Y ?_;have lv:k'+39=3*n.toNat+5+(k'+34-3*n.toNat):=by lia
  refine rW rfl ?_;show W (Mi.call aq T (k'+39) true _ _) _ _;rw[lv];have hA:∀a b:Int,0<=a->a<(m.toNat:Nat)->0<=b->b<(m.toNat:Nat)->m9 qs a b=m9 qs b a:=λa b _ _ _ _=>zlb h2;have B:=zmw (k:=m) h (by lia) hA;have jZ:1<=m.toNat:=by lia
  have fv:=Jz (n:=n) (k:=m) (by lia);have Bu:unset (eN n m)<=n.toNat:=by rw[<-fv.len];exact Ob
  obtain⟨q,hq⟩ : ∃q,n.toNat=q+1:=⟨n.toNat-1,by lia⟩;have eq:n.toNat-1=q:=by lia
  rw[eq] at hz;refine(zgC (al:=false) (c0:=cnt m.toNat n.toNat) (c1:=m.toNat*cnt m.toNat q) B jZ (λz=>by cases z) fv (λi hi=>⟨_,zj hi⟩) (by rw[eq];exact hz) ?_ (λkvs L hL ql ha hl=>?_)).imp λv s=>?_
  ·have:=Fb (al:=false) B jZ (λz=>by cases z) n.toNat (k'+34-3*n.toNat) (eN n m) [] fv Bu (λF d e=>by cases e) (by simp;lia);simpa using this
  ·refine Ny (m:=q) B ?_ fv (by lia) hL ha (by lia);rw[show 3*n.toNat+1+(k'+34-3*n.toNat)+2=3*q+4+(k'+33-3*q) by lia];exact Fb B jZ (λz=>by cases z) q _
  rintro(⟨rfl,mF⟩|⟨hs,rfl,hl,Cq,IW⟩)
  ·refine⟨_,rfl,?_⟩;refine Y ?_;exact .inl ⟨rfl,λhs hh=>mF ⟨_,zfB h hA hh⟩⟩
  ·refine⟨_,rfl,?_⟩;refine Y ?_;refine .inr ⟨hs,rfl,zjh h hl Cq,λg hg j hj ha=>?_⟩;exact IW _ (zfB h hA hg) j (by lia) ha
end
theorem ziy{k:Nat}{n a b:Int}(ha:0<=a/\a<n)(hb:0<=b/\b<n):W (call aq T (k+4) true 8 [.d (.int n),.d (.tup [.int a,.int b])]) [] λv s=>v=.d (.bl (decide (a<b))):=by
 refine W.call UG rfl ?_;unfold b8;refine Y ?_;refine W.c0 JZ ?_;refine Y ?_;refine W.c0 J0 ?_;rw[gq ha];refine Y ?_;refine W.c0 J0 ?_;rw[gq hb];exact Y trivial
theorem zhJ{k:Nat}{n:Int}{p:Int×Int}(ha:0<=p.1/\p.1<n)(hb:0<=p.2/\p.2<n)(nq:p.1≠p.2):W (call aq T (k+5) true 9 [.d (.int n),.d (dY p)]) [] λv s=>v=.d (dY (norm p)):=by
 obtain⟨a,b⟩:=p;dsimp only at ha hb nq;refine W.call T_9 rfl ?_;unfold b9 norm;refine Y ?_;refine W.c0 (ziy ha hb) ?_;refine W.bool ?_;by_cases h:a<b
 ·rw[gq h,if_pos h];exact Y trivial
 ·rw[rm h,if_neg h];refine Y ?_;refine W.c0 JZ ?_;refine Y ?_;refine W.c0 (ziy hb ha) ?_;refine W.bool ?_;rw[gq (show b<a by lia)];refine Y ?_;rfl
section
variable {n k d:Int}{ps:List (Int×Int)}
theorem zkM{k':Nat}{r:List Int}{x:Int}(h:Web n ps)(hd:1<=d)(hk:1<=k)(hrn:(r.length:Int)<n)(hr:∀y∈r,0<=y/\y<k)(hx:0<=x/\x<k):W (call aq T (k'+2) true 32 [.d (Tn n.toNat k.toNat (λi=>aM i ps) (bR k d)),.d (.tup (r.map .int)),.d (.fl ((xY ps r.length).map .int)),.d (.int x)]) [] λv s=>v=.d (.bl (kO k d ps r x)):=by
 refine W.call zoh rfl ?_;unfold Uj;have qj:(100:Nat)<=sizeLine:=by decide
 have h8:=h.h8;have hal:(xY ps r.length).length<=8:=by
  unfold xY;have:=Ka (λe=>decide (e<(r.length:Int))) (aM r.length ps);have:=zdt (k:=n.toNat) (Jp h r.length) (λx hx=>by have:=Er h hx;have:=h.h1;lia)
  lia
 refine Y ?_;refine nF (l:=xY ps r.length) (f:=D.int) (λe=>some (.bl (bR k d x (at' r e)))) (by lia) ?_ (λe he=>?_) ?_
 ·refine Y ?_;exact⟨rfl,rfl⟩
 ·have ht:=h.tie _ ((TJ h).mp he);dsimp only at ht;have hy:=hr _ (rZ (fs:=r) (j:=e) (by lia) (by lia));refine Y ?_;refine⟨rfl,λ_=>?_,λhb=>by cases hb⟩;have hix:prim .ix [.tup (r.map .int),.int e]=some (.dat (.int (at' r e))):=S5 (by lia) (by lia);refine W.bd (W.eq (fj (.v 1) _ rfl) (W.bd (W.pU (W.bd ?_))));refine Y ?_;refine gj hix ?_;refine Y ?_;refine W.qt ?_;refine W.c0 (zld (by lia) (by lia)) ?_;exact⟨rfl,_,rfl,rfl⟩
 ·rw[uP];refine Y ?_;refine gj ZQ ?_;rw[zju h hd]
theorem zgU{k':Nat}(h:Web n ps)(hr:1<=d/\d<=k/\k<=8)(h6:n<=6):W (call aq T (k'+5) true 31 [.d (bA n ps),.d (bO k d)]) [] λv s=>v=.d (.fl ((grows k d ps [[0]] (n.toNat-1)).map jY)):=by
 refine W.call zoi rfl ?_;unfold Ui;have qj:(1000000:Nat)<=sizeLine:=by decide
 have h1:=h.h1;have ew:bA n ps=.tup [.int n,.tup (ps.map dY)]:=rfl;refine Y ?_;refine W.c0 (zgK h hr.1 hr.2.1 (by lia)) ?_;refine Y ?_;refine⟨by rw[kJ (by lia) (by lia),kJ (by lia) (by lia)];rfl,?_⟩;refine En (c:=(List.range (n-1).toNat).map λ(j:Nat)=>.int (1+j)) (λi J s=>s=[]/\∃a4 a5:Option Xv,J=[some (.d (bA n ps)),some (.d (bO k d)),some (.d (Tn n.toNat k.toNat (λi=>aM i ps) (bR k d))),some (.d (.fl ((grows k d ps [[0]] i).map jY))),a4,a5]) ⟨rfl,_,_,rfl⟩ (λi z J s e hI=>?_) (λJ s hI=>?_)
 ·obtain⟨rfl,a4,a5,rfl⟩:=hI;obtain⟨hi,e⟩:=eO.mp e;rw[List.getElem_map,Oh] at e;rw[cR,nG] at hi;subst e;have ei:(1:Int)+(i:Nat)=((i+1:Nat):Int):=by lia
  rw[ei];have hel:(aM ((i+1:Nat):Int) ps).length<=8:=by
   have:=zdt (k:=n.toNat) (Jp h ((i+1:Nat):Int)) (λx hx=>by have:=Er h hx;lia)
   lia
  have oF:(grows k d ps [[0]] i).length*(cC k.toNat).length<=sizeLine:=by
   have g1:=zc8 (k:=k) (d:=d) (ps:=ps) (m:=i);have g2:k.toNat^i<=8^i:=Nat.pow_le_pow_left (by lia) _;have g3:(8:Nat)^i<=8^5:=Nat.pow_le_pow_right (by decide) (by lia);have g4:(cC k.toNat).length<=8:=by unfold cC;simp;lia
   have g5:(8:Nat)^5=32768:=by decide
   have:=Kr (show (grows k d ps [[0]] i).length<=32768 by lia) g4
   lia
  refine Y ?_;refine nF (l:=aM ((i+1:Nat):Int) ps) (f:=D.int) (λe=>if decide (e<((i+1:Nat):Int))=true then some (.int e) else none) (by lia) ?_ (λe he=>?_) ?_
  ·refine Y ?_;refine gj (uO (by lia) (Tq (by rw[nj];lia))) ?_;rw[nj];refine Y ?_;exact⟨rfl,rfl⟩
  ·refine Y ?_;refine⟨rfl,λhb=>?_,λhb=>?_⟩
   ·refine Y ?_;exact⟨rfl,_,rfl,by rw[if_pos hb]⟩
   ·rw[if_neg (by rw[hb];decide)]
  ·rw[Tt (α:=Unit)];refine Y ?_;refine Kar (l:=grows k d ps [[0]] i) (f:=jY) (l2:=cC k.toNat) (f2:=D.int) (λr x=>if kO k d ps r x=true then some (jY (r++[x])) else none) oF ?_ (λr hrr=>?_) ?_
   ·refine Y ?_;exact⟨rfl,rfl⟩
   ·have hrl:=zgS r hrr;have hrlo:=(Tz h hr.1 (by lia) 0 (rows:=[[0]]) (λr hr y hy=>by
     rw[qZ.mp hr] at hy;have:y=0:=qZ.mp hy
     lia) i).1 r hrr
    unfold jY;refine Y ?_;refine⟨?_,λx hx=>?_⟩
    ·refine Y ?_;exact⟨rfl,rfl⟩
    ·have hx:=bC.mp hx;refine Y ?_;have ea:(aM ((i+1:Nat):Int) ps).filter (λe=>decide (e<((i+1:Nat):Int)))=xY ps r.length:=by unfold xY;rw[hrl]
     rw[ea];refine W.c0 (zkM (k':=k'+2) h hr.1 (by lia) (by lia) hrlo (by lia)) ?_;refine Y ?_;refine⟨rfl,λhb=>?_,λhb=>?_⟩
     ·refine Y ?_;refine gj (zkv (by rw[cR];show _+1<=_;lia)) ?_;exact⟨rfl,_,rfl,by rw[if_pos hb,pq];rfl⟩
     ·rw[if_neg (by rw[hb];decide)]
   ·have eg:((grows k d ps [[0]] i).flatMap λr=>(cC k.toNat).filterMap λx=>if kO k d ps r x=true then some (jY (r++[x])) else none)=(grows k d ps [[0]] (i+1)).map jY:=by
     show _=(grow k d ps (grows k d ps [[0]] i)).map jY;unfold grow nextR;rw[List.map_flatMap]
     congr 1
     funext r
     rw[wj];generalize cC k.toNat=l
     induction l with
     |nil=>rfl
     |cons a l ih=>
      rw[zF,Fz];by_cases q:kO k d ps r a=true
      ·simp[q,ih]
      ·simp[q,ih]
    rw[eg];refine Y ?_;exact⟨_,rfl,rfl,_,_,rfl⟩
 ·obtain⟨rfl,a4,a5,rfl⟩:=hI;rw[cR,nG,show (n-1).toNat=n.toNat-1 by lia];exact Y trivial
theorem VP{k':Nat}{a b:Int}(h:a<=b):W (call aq T (k'+1) true 3 [.d (.int a),.d (.int b)]) [] λv s=>∃d,v=.d d:=by
 refine W.call T_3 rfl ?_;unfold b3;refine Y ?_;refine WS.ite (λc=>absurd (gF c) (by lia)) (λc=>?_);refine Y ?_;exact⟨_,rfl⟩
theorem zlA{k':Nat}(h:Web n ps)(hr:1<=d/\d<=k/\k<=8)(h6:n<=6):W (call aq T (k'+7) true 30 [.d (bA n ps),.d (bO k d)]) [] λv s=>∃d,v=.d d:=by
 have ew:bA n ps=.tup [.int n,.tup (ps.map dY)]:=rfl;have er:bO k d=.tup [.int k,.int d]:=rfl;refine W.call zoF rfl ?_;unfold Uh;refine Y ?_;refine W.c1 (E_ h) λ_=>?_;refine Y ?_;refine W.c1 (zdc hr.1 hr.2.1 (by lia)) λ_=>?_;refine Y ?_;refine W.c1 (VP h6) λ_=>?_;refine Y ?_;refine W.c1 (VP hr.2.2) λ_=>?_;refine Y ?_;exact⟨_,rfl⟩
theorem zf4{k':Nat}(h:Web n ps)(hr:1<=d/\d<=k/\k<=8)(h6:n<=6):W (call aq T (k'+8) true 28 [.d (bA n ps),.d (bO k d)]) [] λv s=>v=.d (.int ((grows k d ps [[0]] (n.toNat-1)).length:Nat)):=by
 refine W.call zoB rfl ?_;unfold Ue;refine Y ?_;refine W.c1 (zlA h hr h6) λ_=>?_;refine Y ?_;refine W.c0 (zgU (k':=k'+2) h hr h6) ?_;refine Y ?_;rw[cR]
theorem Fd{k':Nat}(h:Web n ps)(hr:1<=d/\d<=k/\k<=8)(h6:n<=6):W (call aq T (k'+9) true 27 [.d (bA n ps),.d (bO k d)]) [] λv s=>v=.d (.int ((grows k d ps [[]] n.toNat).length:Nat)):=by
 have er:bO k d=.tup [.int k,.int d]:=rfl;have h1:=h.h1;refine W.call zoz rfl ?_;unfold Ud;refine Y ?_;refine W.c0 (zf4 h hr h6) ?_;refine Y ?_;have e:=zca h hr.1 (show 1<=k by lia) (n.toNat-1);rw[show n.toNat-1+1=n.toNat by lia] at e;rw[e,Int.natCast_mul,show ((k.toNat:Nat):Int)=k by lia]
end
theorem zk5{k':Nat}{xs:List D}{n:Int}(h:(xs.length:Int)=n):W (call aq T (k'+1) true 2 [.d (.tup xs),.d (.int n)]) [] λv s=>v=.d (.bl true):=by
 refine W.call T_2 rfl ?_;unfold b2;refine Y ?_;simp[h]
section
variable {n m k d:Int}{ps qs:List (Int×Int)}{hs:List Int}
theorem zfD{k':Nat}{a b:Int}(h2:Web m qs)(ha:0<=a/\a<m)(hb:0<=b/\b<m)(ht:m9 qs a b=true):W (call aq T (k'+6) true 11 [.d (bA m qs),.d (.int a),.d (.int b)]) [] λv s=>v=.d (.bl true):=by
 have e:=(qg h2).mp (gF ht);have nq:a≠b:=by rcases e with e|e<;>have:=h2.tie _ e<;>dsimp only at this<;>lia
 have hm:norm (a,b)∈qs:=by
  unfold norm;rcases e with e|e<;>have t:=h2.tie _ e<;>dsimp only at t
  ·rw[if_pos (by dsimp only;lia)];exact e
  ·rw[if_neg (by dsimp only;lia)];exact e
 refine W.call zoy rfl ?_;unfold TV bA;refine Y ?_;refine W.c0 (zhJ (p:=(a,b)) ha hb nq) ?_;refine Y ?_;refine gj (zm4 (f:=id)) ?_;rw[gq hm];rfl
theorem zfr{k':Nat}(h:Web n ps)(h2:Web m qs)(hh:oW n m (m9 qs) ps hs):W (call aq T (k'+7) true 38 [.d (bA n ps),.d (bA m qs),.d (.tup (hs.map .int))]) [] λv s=>v=.d (.bl true):=by
 have qj:(100:Nat)<=sizeLine:=by decide
 have hl:=hh.len;have h8:=h.h8;have hpl:=h.len;have ew:bA n ps=.tup [.int n,.tup (ps.map dY)]:=rfl;have em:bA m qs=.tup [.int m,.tup (qs.map dY)]:=rfl;refine W.call zok rfl ?_;unfold Uo;refine Y ?_;refine W.c1 (E_ h) λ_=>?_;refine Y ?_;refine W.c1 (E_ h2) λ_=>?_;refine Y ?_;refine W.c0 (zk5 (by rw[cR];exact hl)) ?_;refine Y ?_;refine nF (l:=hs) (f:=D.int) (λ_=>some (.bl true)) (by lia) ?_ (λx hx=>?_) ?_
 ·refine Y ?_;exact⟨rfl,rfl⟩
 ·refine Y ?_;refine⟨rfl,λ_=>?_,λhb=>by cases hb⟩;refine Y ?_;refine W.c0 J0 ?_;rw[gq (hh.lo x hx)];exact⟨rfl,_,rfl,rfl⟩
 ·refine Y ?_;refine gj (Ml ?_) ?_
  ·intro x hx;obtain⟨_,_,e⟩:=zJ.mp hx;exact(cL e).symm
  refine Y ?_;refine nF (l:=ps) (f:=dY) (λ_=>some (.bl true)) (by lia) ?_ (λp hp=>?_) ?_
  ·refine Y ?_;exact⟨rfl,rfl⟩
  ·have ht:=h.tie p hp;have hf:=hh.fit p hp;obtain⟨a,b⟩:=p;dsimp only at ht hf;refine Y ?_;refine⟨rfl,λ_=>?_,λhb=>by cases hb⟩;refine Y ?_;refine gj (S5 (by lia) (by lia)) ?_;refine Y ?_;refine gj (S5 (by lia) (by lia)) ?_;refine Y ?_;refine W.c0 (zfD h2 (hh.lo _ (rZ (by lia) (by lia))) (hh.lo _ (rZ (by lia) (by lia))) hf) ?_;exact⟨rfl,_,rfl,rfl⟩
  ·refine Y ?_;refine gj (Ml ?_) ?_
   ·intro x hx;obtain⟨_,_,e⟩:=zJ.mp hx;exact(cL e).symm
   exact Y trivial
theorem ze3{k':Nat}(h:Web n ps)(hr:1<=d/\d<=k/\k<=8)(h6:n<=6)(hm:(grows k d ps [[0]] (n.toNat-1)).length<=300):W (call aq T (k'+8) true 29 [.d (bA n ps),.d (bO k d)]) [] λv s=>v=.d (.fl ((grows k d ps [[0]] (n.toNat-1)).map jY)):=by
 refine W.call zoH rfl ?_;unfold Ug;refine Y ?_;refine W.c1 (zlA h hr h6) λ_=>?_;refine Y ?_;refine W.c0 (zgU (k':=k'+2) h hr h6) ?_;refine Y ?_;refine W.c1 (VP (by rw[cR];lia)) λ_=>?_;exact Y trivial
end
noncomputable def dM:List (Int×Int):=[(2,1),(3,1),(4,1),(5,2),(5,1),(4,2),(6,2),(7,3),(7,2),(8,3),(3,2),(1,1)]
noncomputable def jt(k d:Int):List (Int×Int):=dI.filter λp=>decide (p.2<k/\d<=jD k p.1 p.2)
noncomputable def lU(m:Int):List (Int×Int):=dI.filter λp=>decide (p.2<m)
theorem J3{a b:Int}(h0:0<=a)(h1:a<b)(h2:b<8):(a,b)∈dI:=by
 obtain⟨x,rfl⟩:=vW h0;obtain⟨y,rfl⟩:=vW (show 0<=b by lia);have key:((List.range 8).all λx=>(List.range 8).all λy=>!decide (x<y)||dI.contains (((x:Nat):Int),((y:Nat):Int)))=true:=by decide
 have k1:=fu.mp (fu.mp key x (vf.mpr (by lia))) y (vf.mpr (by lia));rw[gq (show x<y by lia)] at k1;exact List.contains_iff_mem.mp (by simpa using k1)
theorem zh9:∀p∈dI,0<=p.1/\p.1<p.2:=by decide
theorem uW:dI.Pairwise lx:=by unfold dI lx;simp
theorem J5{m:Int}{f:Int×Int->Bool}(h1:1<=m)(h8:m<=8)(hf:∀p,f p=true->p.2<m):Web m (dI.filter f):=by
 have ht:∀p∈dI.filter f,0<=p.1/\p.1<p.2/\p.2<m:=λp hp=>by
  obtain⟨q1,q2⟩:=jK.mp hp;have:=zh9 p q1;exact⟨this.1,this.2,hf p q2⟩
 have hi:(dI.filter f).Pairwise lx:=uW.sublist List.filter_sublist;exact⟨h1,h8,ht,hi,zlS h1 h8 ht hi⟩
theorem zeP{k d:Int}(h1:1<=k)(h8:k<=8):Web k (jt k d):=J5 h1 h8 λp h=>(gF h).1
theorem zhy{m:Int}(h1:1<=m)(h8:m<=8):Web m (lU m):=J5 h1 h8 λp h=>gF h
theorem ziL{k d a b:Int}(hd:1<=d)(h1:1<=k)(h8:k<=8)(a0:0<=a)(ak:a<k)(b0:0<=b)(bk:b<k):m9 (jt k d) a b=bR k d a b:=by
 unfold m9 bR;rw[q_,qg (zeP h1 h8)];unfold jt;rw[jK,jK]
 constructor
 ·rintro(⟨_,h⟩|⟨_,h⟩)
  ·exact(gF h).2
  ·have:=(gF h).2;dsimp only at this;rw[zgi];exact this
 ·intro h;have hg:=(sU hd).mp h;by_cases c:a<b
  ·exact .inl ⟨J3 a0 c (by lia),gq ⟨bk,h⟩⟩
  ·exact .inr ⟨J3 b0 (by lia) (by lia),gq ⟨ak,by rw[zgi];exact h⟩⟩
theorem zeQ{n k d:Int}{ps:List (Int×Int)}{hs:List Int}(w:Web n ps)(hd:1<=d)(h1:1<=k)(h8:k<=8):oW n k (m9 (jt k d)) ps hs↔iH n k d ps hs:=by
 have lo:∀(l:(hs.length:Int)=n) (q:∀x∈hs,0<=x/\x<k),∀p∈ps,(0<=at' hs p.1/\at' hs p.1<k)/\0<=at' hs p.2/\at' hs p.2<k:=λl q p hp=>by
  have ht:=w.tie p hp;exact⟨q _ (rZ (by lia) (by lia)),q _ (rZ (by lia) (by lia))⟩
 constructor
 ·intro g;refine⟨g.len,g.lo,λp hp=>?_⟩;have a:=lo g.len g.lo p hp;have b:=g.fit p hp;rw[ziL hd h1 h8 a.1.1 a.1.2 a.2.1 a.2.2] at b;unfold bR at b
  rwa [zK] at b
 ·intro g;refine⟨g.len,g.lo,λp hp=>?_⟩;have a:=lo g.len g.lo p hp;rw[ziL hd h1 h8 a.1.1 a.1.2 a.2.1 a.2.2];unfold bR;rw[zK];exact g.fit p hp
noncomputable def qX:List D->Option (List (Int×Int))
 |[]=>some []
 |.tup [.int a,.int b]::r=>(qX r).map ((a,b)::·)
 |_=>none
theorem ziM:∀{xs:List D} {ps:List (Int×Int)},qX xs=some ps->xs=ps.map dY
 |[],ps,h=>by cases h;rfl
 |d::r,ps,h=>by
  unfold qX at h;split at h
  ·rename_i e;cases e
  ·rename_i a b r' e;cases e;obtain⟨q,e1,e2⟩:=lV.mp h;subst e2;rw[gG,<-ziM e1];rfl
  ·cases h
noncomputable def isW(m:Int)(ps:List (Int×Int)):Option (Rs Xv×S)->Bool
 |some (.ok (.d (.tup [.int k,.tup xs])),_)=>k==m&&(qX xs==some ps)
 |_=>false
theorem zl5{m:Int}{ps:List (Int×Int)}{c:M Xv}(h:isW m ps (c [])=true):W c [] λv s=>v=.d (bA m ps):=by
 unfold isW at h;split at h
 ·rename_i e;rw[gQ] at h;have h1:=eq_of_beq h.1;have h2:=ziM (eq_of_beq h.2);exact⟨_,_,e,by rw[h1,h2];rfl⟩
 ·cases h
theorem zkT:(dM.all λp=>isW p.1 (jt p.1 p.2) (call aq T 58 true 42 [.d (bO p.1 p.2)] []))=true:=by kernel_rfl
theorem zli:(([2,3,4,5]:List Int).all λm=>isW m (lU m) (call aq T 59 true 48 [.d (.int m)] []))=true:=by kernel_rfl
theorem zj3:(dM.all λp=>((grows p.1 p.2 [(0,1)] [[]] 2).length:Int)==p.1*(if 0<p.1-2*p.2+1 then p.1-2*p.2+1 else 0))=true:=by decide +kernel
theorem zhL:(dM.all λp=>([2,3,4,5]:List Int).all λm=>decide (0<(grows p.1 p.2 (lU m) [[]] m.toNat).length)==decide (m*p.2<=p.1))=true:=by decide +kernel
def uX(o:SO):Prop:=∃a b:Int,o=.lst [.int a,.int b]/\0<=a/\(b=0\/b=1)
theorem VR{k:Nat}{o:SO}{m:Int}(ho:uX o)(hm:0<m)(hm2:m<1073741824):W (call aq T (k+1) true 45 [.l 0,.d (.int m)]) [o] λv s=>∃d o',v=.d d/\s=[o']/\(∃r:Int,d=.int r/\0<=r/\r<m)/\uX o':=by
 obtain⟨a,b,rfl,ha,hb⟩:=ho;refine W.call zn6 rfl ?_;unfold Uv;rcases hb with rfl|rfl
 ·refine Y ?_;exact⟨_,_,rfl,rfl,⟨_,rfl,zP _ (by lia),CP _ hm⟩,⟨_,_,rfl,zP _ (by decide),.inl rfl⟩⟩
 ·refine Y ?_;exact⟨_,_,rfl,rfl,⟨_,rfl,zP _ (by lia),CP _ hm⟩,⟨_,_,rfl,Int.ediv_nonneg ha (by lia),.inr rfl⟩⟩
theorem znk{k:Nat}{n:Int}:W (call aq T (k+1) true 44 [.d (.int n)]) [] λv s=>∃i o,v=.l i/\s[i]?=some o/\uX o:=by
 refine W.call zn9 rfl ?_;unfold Uu;refine Y ?_;refine⟨0,_,rfl,rfl,⟨_,_,rfl,?_,?_⟩⟩
 ·split<;>lia
 ·have:∀c:Bool,(if c=true then (1:Int) else 0)=0\/(if c=true then (1:Int) else 0)=1:=by intro c;cases c<;>simp
  exact this _
theorem V0{k:Nat}{o:SO}{m:Int}{P:Xv->S->Prop}(ho:uX o)(hm:0<m)(hm2:m<1073741824)(h:∀(r:Nat) o',(r:Int)<m->uX o'->P (.d (.int r)) [o']):W (cI (call aq T (k+1) true 45) [.l 0,.d (.int m)]) [o] P:=by
 refine Ss (n:=0) (o:=o) rfl rfl ((VR ho hm hm2).imp λv s=>?_);rintro⟨d,o',rfl,rfl,⟨r,rfl,h0,h1⟩,hp⟩;obtain⟨n,rfl⟩:=vW h0;exact⟨_,_,rfl,rfl,h n o' h1 hp⟩
theorem zmf{k:Nat}{ns:List Int}:W (call aq T (k+1) true 43 [.d (.fl (ns.map D.int)),.d (.int 0)]) [] λv _=>∃n,v=.d (.int n):=by
 refine W.call zog rfl ?_;unfold Ut;cases ns with
 |nil=>
  refine Y ?_;exact⟨_,rfl⟩
 |cons n r=>
  refine Y ?_;refine WS.ite (λ_=>?_) (λ_=>?_)
  ·refine Y ?_;refine gj (Mj (i:=0) (x:=.int n) rfl) ?_;refine Y ?_;exact⟨_,rfl⟩
  ·refine Y ?_;exact⟨_,rfl⟩
theorem zhM{k:Nat}{o:SO}{n:Int}(ho:uX o)(h1:1<=n)(h8:n<=8):W (call aq T (k+2) true 46 [.l 0,.d (.int n)]) [o] λv s=>∃ps o',v=.d (bA n ps)/\s=[o']/\Web n ps/\uX o':=by
 refine W.call zn8 rfl ?_;unfold Uw;have hs:(100:Nat)<=sizeLine:=by decide
 refine Y ?_;refine V0 ho (by decide) (by decide) λr o' hr hp=>?_;refine Y ?_;have wW:r<3:=by lia
 refine gj (Mj (x:=.int (([2,4,6]:List Int)[r]'wW)) ?_) ?_
 ·revert wW;revert r;intro r _ wW;exact match r,wW with
  |0,_=>rfl|1,_=>rfl|2,_=>rfl
  |n+3,h=>absurd h (by lia)
 generalize ([2,4,6]:List Int)[r]=often;refine Y ?_;refine⟨by rw[kJ (by lia) (by lia),kJ (by lia) (by lia)];rfl,?_⟩;refine En (λ(i:Nat) J s=>∃(ps:List (Int×Int)) (a:Option Xv) (o':SO),J=[some (.l 0),some (.d (.int n)),some (.d (.int often)),some (.d (.fl (ps.map dY))),a]/\s=[o']/\uX o'/\(∀p∈ps,0<=p.1/\p.1<(i:Int)/\p.1<p.2/\p.2<n)/\ps.Pairwise lx/\ps.length<=7*i)
  ⟨[],_,_,rfl,rfl,hp,by simp,by simp,by simp⟩ (λi x J s e hI=>?_) (λJ s hI=>?_)
 ·obtain⟨ps,a,o',rfl,rfl,hp,ht,Cr,hlen⟩:=hI;obtain⟨rfl,hi⟩:=ZG e;have hi8:i<8:=by lia
  refine Y ?_;refine Kat (c:=jz (0+(i:Int)+1) n) (λ(j:Nat) acc s=>∃(es:List Int) (o':SO),acc=es.map (λe=>dY (0+(i:Int),e))/\es.Pairwise (·<·)/\(∀e∈es,(i:Int)<e/\e<(i:Int)+1+j)/\s=[o']/\uX o') ?_ (λj x acc s e hJ=>?_) (λacc s hJ=>?_)
  ·refine Y ?_;refine⟨by rw[kJ (by lia) (by lia),kJ (by lia) (by lia)];rfl,?_⟩;exact⟨rfl,[],_,rfl,by simp,by simp,rfl,hp⟩
  ·obtain⟨es,o',rfl,Fe,zu,rfl,hp⟩:=hJ;obtain⟨rfl,hj⟩:=ZG e;have hel:(es.length:Int)<=(i:Int)+1+j-((i:Int)+1):=SQ Fe (λe he=>by have:=zu e he;lia) (by lia);refine Y ?_;refine V0 hp (by decide) (by decide) λr o' hr hp=>?_;refine Y ?_;refine⟨λhb=>?_,λhb=>?_⟩
   ·refine Y ?_;refine⟨_,rfl,by rw[cR];lia,es++[0+(i:Int)+1+j],o',?_,?_,?_,rfl,hp⟩
    ·rw[pq];rfl
    ·rw[List.pairwise_append];refine⟨Fe,by simp,λa ha b hb=>?_⟩;simp at hb;have:=zu a ha
     lia
    ·intro e he;rcases oY.mp he with he|he
     ·have:=zu e he;lia
     ·simp at he;lia
   ·exact⟨es,o',rfl,Fe,λe he=>by have:=zu e he;lia,rfl,hp⟩
  ·obtain⟨es,o',rfl,Fe,zu,rfl,hp⟩:=hJ;rw[ZJ] at zu;have hel:(es.length:Int)<=n-((i:Int)+1):=SQ Fe (λe he=>by have:=zu e he;lia) (by lia);refine Y ?_;refine Mh (Zj ?_) ?_
   ·rw[cR,cR];lia
   refine Y ?_;refine⟨_,rfl,ps++es.map (λe=>(0+(i:Int),e)),some (.d (.int (0+(i:Int)))),o',?_,rfl,hp,?_,?_,?_⟩
   ·rw[pq,wj];rfl
   ·intro p hp;rcases oY.mp hp with hp|hp
    ·have:=ht p hp;lia
    ·obtain⟨e,he,rfl⟩:=pC.mp hp;have:=zu e he;dsimp only
     lia
   ·rw[List.pairwise_append,Kh];refine⟨Cr,Fe.imp λh=>.inr ⟨rfl,h⟩,λp hp q hq=>?_⟩;obtain⟨e,he,rfl⟩:=pC.mp hq;have:=ht p hp;exact .inl (by dsimp only;lia)
   ·rw[lD,cR];lia
 ·obtain⟨ps,a,o',rfl,rfl,hp,ht,Cr,hlen⟩:=hI;rw[ZJ] at ht hlen;refine Y ?_;refine⟨ps,o',rfl,rfl,⟨h1,h8,λp hp=>?_,Cr,by lia⟩,hp⟩;have:=ht p hp
  lia
section
variable {n m:Int}{ps:List (Int×Int)}{row:List Int}
theorem small{n k:Int}(hn:n<=8)(hk:k<=8):1+cnt k.toNat (n.toNat-1)+cnt k.toNat (n.toNat-1)+tot k.toNat (n.toNat-1)<sizeLine:=by
 have:=MN (k:=k.toNat) (k2:=8) (m:=n.toNat-1) (m2:=7) (by lia) (by lia);have:=zek (k:=k.toNat) (k2:=8) (m:=n.toNat-1) (m2:=7) (by lia) (by lia);have e:1+cnt 8 7+cnt 8 7+tot 8 7<sizeLine:=by decide
 lia
theorem zmE{k':Nat}(h:Web n ps)(hm:1<=m/\m<=n):W (call aq T (k'+41) true 40 [.d (bA n ps),.d (bO m 1)]) [] λv s=>∃b:Bool,v=.d (.bl b)/\(b=true↔∃h,fV n m ps h):=by
 have h8:=h.h8;refine W.call zoc rfl ?_;unfold Ur;refine Y ?_;refine rW rfl ((zbQ (k':=k') h (by lia) (by lia) (by lia) (small h8 (by lia))).imp λv s hv=>?_);rcases hv with ⟨rfl,mF⟩|⟨hs,rfl,hh,hg⟩
 ·refine⟨_,rfl,?_⟩;refine Y ?_;exact⟨false,rfl,⟨λz=>(by cases z),λ⟨g,hg⟩=>absurd ((MP h).mp hg) (mF g)⟩⟩
 ·refine⟨_,rfl,?_⟩;refine Y ?_;exact⟨true,rfl,⟨λ_=>⟨hs,(MP h).mpr hh⟩,λ_=>rfl⟩⟩
theorem zhP{k':Nat}(h:Web n ps)(hm:1<=m/\m<=n)(hr:fV n m ps row)(least:∀m',1<=m'->m'<m->∀h,¬fV n m' ps h):W (call aq T (k'+42) true 41 [.d (bA n ps)]) [] λv s=>v=.d (.int m):=by
 have h8:=h.h8;have hwk:oA=1000000000000:=rfl;refine W.call zoG rfl ?_;unfold Us;refine Y ?_;refine WS.wh (λq J s'=>∃j:Int,J=[some (.d (bA n ps)),some (.d (.int j))]/\1<=j/\j<=m/\q=(m-j).toNat) (m:=(m-1).toNat) (by lia) ⟨1,rfl,by lia,by lia,rfl⟩ λq J s' hI=>?_;obtain⟨j,rfl,h1,h2,rfl⟩:=hI;refine Y ?_;refine rW rfl ((zmE (k':=k') (m:=j) h (by lia)).imp λv s hv=>?_);obtain⟨b,rfl,hb⟩:=hv;refine⟨_,rfl,?_⟩;refine Y ?_;refine⟨λe=>?_,λe=>?_⟩
 ·have hj:j<m:=by
   refine Int.not_le.mp λz=>?_;have:j=m:=by lia
   subst this;rw[hb.mpr ⟨row,hr⟩] at e;cases e
  refine Y ?_;refine WS.aug rfl rfl ?_;refine Y ?_;refine .inl ⟨_,(m-(j+1)).toNat,rfl,by lia,j+1,rfl,by lia,by lia,rfl⟩
 ·have TF:b=true:=by cases b<;>simp_all
  obtain⟨g,hg⟩:=hb.mp TF;have:j=m:=by
   rcases Int.lt_or_eq_of_le h2 with z|z
   ·exact absurd hg (least j h1 z g)
   ·exact z
  subst this;exact Y trivial
end
theorem zfq{n:Int}{ps:List (Int×Int)}(w:Web n ps):∃(m:Int) (row:List Int),(1<=m/\m<=n)/\fV n m ps row/\∀m',1<=m'->m'<m->∀h,¬fV n m' ps h:=by
 have h1:=w.h1;have key:∀j:Nat,1<=j->(j:Int)<=n->(∃h,fV n j ps h)->∃(m:Int) (row:List Int),(1<=m/\m<=n)/\fV n m ps row/\∀m',1<=m'->m'<m->∀h,¬fV n m' ps h:=by
  intro j
  induction j using Nat.strongRecOn with
  |_ j ih=>
   intro j1 jn ⟨h,hh⟩;by_cases c:∃i:Nat,i<j/\1<=i/\∃h,fV n i ps h
   ·obtain⟨i,hi,i1,hx⟩:=c;exact ih i hi i1 (by lia) hx
   ·refine⟨j,h,⟨by lia,jn⟩,hh,λm' a b g hg=>c ⟨m'.toNat,by lia,by lia,g,?_⟩⟩;rw[show ((m'.toNat:Nat):Int)=m' by lia];exact hg
 exact key n.toNat (by lia) (by lia) ⟨_,by rw[show ((n.toNat:Nat):Int)=n by lia];exact zhQ w⟩
theorem uY{n k:Int}(h4:n<=4)(hk:k<=8):cnt k.toNat n.toNat+k.toNat*cnt k.toNat (n.toNat-1)+tot k.toNat (n.toNat-1)<sizeLine:=by
 have h1:=MN (k:=k.toNat) (k2:=8) (m:=n.toNat) (m2:=4) (by lia) (by lia);have h2:=MN (k:=k.toNat) (k2:=8) (m:=n.toNat-1) (m2:=3) (by lia) (by lia);have h3:=zek (k:=k.toNat) (k2:=8) (m:=n.toNat-1) (m2:=3) (by lia) (by lia);have h4:k.toNat*cnt k.toNat (n.toNat-1)<=8*cnt 8 3:=Kr (by lia) h2;have e:cnt 8 4+8*cnt 8 3+tot 8 3<sizeLine:=by decide
 lia
theorem zfG:∀p∈dM,1<=p.2/\p.2<=p.1/\p.1<=8:=by decide
theorem zjA{n k d:Int}{ps:List (Int×Int)}(h:Web n ps)(h4:n<=4)(hp:(k,d)∈dM):W (call aq T (58+1) true 49 [.d (bA n ps),.d (bO k d)]) [] λv s=>v=.d (.bl true):=by
 have hr:=zfG _ hp;dsimp only at hr;have h1:=h.h1;have qj:(40000:Nat)<=sizeLine:=by decide
 have hw2:=zeP (k:=k) (d:=d) (by lia) hr.2.2;have hrw:=zl5 (fu.mp zkT _ hp);have aac:(grows k d ps [[0]] (n.toNat-1)).length<=512:=by
  have g1:=zc8 (k:=k) (d:=d) (ps:=ps) (m:=n.toNat-1);have g2:k.toNat^(n.toNat-1)<=8^(n.toNat-1):=Nat.pow_le_pow_left (by lia) _;have g3:(8:Nat)^(n.toNat-1)<=8^3:=Nat.pow_le_pow_right (by decide) (by lia);have g5:(8:Nat)^3=512:=by decide
  lia
 obtain⟨m,row,hm,uU,uZ⟩:=zfq h;refine W.call zon rfl ?_;unfold Uy;have er:bO k d=.tup [.int k,.int d]:=rfl;refine Y ?_;refine W.c0 hrw ?_;refine Y ?_;refine W.c0 (zf4 (k':=50) h hr (by lia)) ?_;refine Y ?_;have J6:∀r∈grows k d ps [[0]] (n.toNat-1),iH n k d ps r:=λr NK=>((TQ h).mpr ((M5 h (by lia) _ r).mp NK)).1;refine WS.imp (Q:=λo s'=>o=.nx [some (.d (bA n ps)),some (.d (bO k d)),some (.d (.int k)),some (.d (.int d)),some (.d (bA k (jt k d))),none]/\s'=[]) ?_ (λo s' hR=>?_)
 ·refine WS.ite (λc=>?_) (λc=>?_)
  ·have c:=gF c;refine Y ?_;refine nF (l:=grows k d ps [[0]] (n.toNat-1)) (f:=jY) (λ_=>none) (by lia) ?_ (λr NK=>?_) ?_
   ·refine Y ?_;refine W.c0 (ze3 (k':=50) h hr (by lia) (by lia)) ?_;refine Y ?_;exact⟨rfl,rfl⟩
   ·unfold jY;refine Y ?_;refine W.c0 (zfr (k':=51) h hw2 ((zeQ h hr.1 (by lia) hr.2.2).mpr (J6 r NK))) ?_;refine Y ?_;refine⟨rfl,?_,λ_=>rfl⟩;intro hb;cases hb
   ·refine Y ?_;refine gj (znL (f:=not)) ?_;rw[gq (Ce.mpr λ_ _=>rfl)];refine Y ?_;exact⟨rfl,rfl⟩
  ·refine Y ?_;exact⟨rfl,rfl⟩
 obtain⟨rfl,rfl⟩:=hR;obtain⟨fd,hm1,hf1,nq⟩ : ∃fd,W (call aq T (18+40) true 39 [.d (bA n ps),.d (bA k (jt k d))]) [] (λv s=>v=.d fd)/\W (call aq T (18+40) true 33 [.d (bA n ps),.d (bO k d)]) [] (λv s=>v=.d fd)/\wR not [fd,fd]=some (.dat (.bl false)):=by
  obtain⟨v,s,e,hv⟩:=zbQ (k':=18) h hr.1 hr.2.1 (by lia) (small (by lia) (by lia));have NP:∀g,oW n k (m9 (jt k d)) ps g↔iH n k d ps g:=λg=>zeQ h hr.1 (by lia) hr.2.2;rcases hv with ⟨rfl,mF⟩|⟨hs,rfl,hh,hg⟩
  ·refine⟨.non,(zcr (k':=18) h hw2 (uY h4 hr.2.2)).imp λv s hv=>?_,⟨_,_,e,rfl⟩,rfl⟩;rcases hv with ⟨rfl,_⟩|⟨hs,rfl,hh,hg⟩
   ·rfl
   ·exact absurd ((NP hs).mp hh) (mF hs)
  ·refine⟨.tup (hs.map .int),(zcr (k':=18) h hw2 (uY h4 hr.2.2)).imp λv s hv=>?_,⟨_,_,e,rfl⟩,by rw[zl4,gq rfl];rfl⟩;rcases hv with ⟨rfl,mF⟩|⟨vB,rfl,NQ,hg2⟩
   ·exact absurd ((NP hs).mpr hh) (mF hs)
   ·have NQ:=(NP vB).mp NQ;rw[zi1 (by have:=hh.len;have:=NQ.len;lia) (hg _ NQ) (hg2 _ ((NP hs).mpr hh))]
 refine Y ?_;refine W.c0 hm1 ?_;refine Y ?_;refine W.c0 hf1 ?_;refine Y ?_;refine gj nq ?_;refine Y ?_;refine W.imp (P:=λx s1=>x=.d (.bl false)/\s1=[]) ?_ λx s1 hx=>?_
 ·refine W.ite (λc=>?_) (λc=>?_)
  ·have c:=gF c;refine Y ?_;refine W.c0 (Fd (k':=49) (k:=2*k) (d:=2*d) h (by lia) (by lia)) ?_;refine Y ?_;refine W.c0 (Fd (k':=49) h hr (by lia)) ?_;refine Y ?_;have:=zhR h hr.1 (show 1<=k by lia) n.toNat;rw[rm (by lia)];exact⟨rfl,rfl⟩
  ·refine Y ?_;exact⟨rfl,rfl⟩
 obtain⟨rfl,rfl⟩:=hx;refine Y ?_;refine W.c0 (zhP (k':=16) h hm uU uZ) ?_;refine Y ?_;refine W.c0 (Fd (k':=49) (k:=m) (d:=1) h (by lia) (by lia)) ?_;have hpos:=(zeJ (k:=m) (d:=1) h (by lia) (by lia)).mpr ⟨row,(MP h).mp uU⟩;refine Y ?_;refine WS.Ep (zE.mpr (show ((grows m 1 ps [[]] n.toNat).length:Int)≠0 by lia)) ?_;refine Y ?_;refine W.ite (λc=>?_) (λc=>?_)
 ·exact Y trivial
 ·have c:¬m<2:=λz=>c (gq z);refine Y ?_;refine W.c0 (Fd (k':=49) (k:=m-1) (d:=1) h (by lia) (by lia)) ?_;have hz:(grows (m-1) 1 ps [[]] n.toNat).length=0:=by
   refine Nat.eq_zero_of_not_pos λz=>?_;obtain⟨g,hg⟩:=(zeJ (k:=m-1) (d:=1) h (by lia) (by lia)).mp z;exact uZ (m-1) (by lia) (by lia) g ((MP h).mpr hg)
  rw[hz];refine Y ?_;rfl
theorem zja{k':Nat}{o:SO}(ho:uX o):W (call aq T (k'+2) true 47 [.l 0]) [o] λv s=>∃(k d:Int) (o':SO),v=.d (bO k d)/\s=[o']/\(k,d)∈dM/\uX o':=by
 refine W.call zou rfl ?_;unfold Ux;refine Y ?_;refine V0 ho (by decide) (by decide) λr o' hr hp=>?_;refine Y ?_;have wW:r<dM.length:=by show r<12;lia
 refine gj (Mj (x:=bO dM[r].1 dM[r].2) (by show (dM.map λp=>bO p.1 p.2)[r]?=_;rw[iu,dO wW];rfl)) ?_;refine Y ?_;exact⟨_,_,_,rfl,rfl,List.getElem_mem wW,hp⟩
theorem u5(ns:List Int)(hn:ns.length<=63):∃s',call aq T 60 true 50 [.d (.fl (ns.map D.int))] []=some (.ok (.d (.bl true)),s'):=by
 suffices h:W (call aq T 60 true 50 [.d (.fl (ns.map D.int))]) [] λv _=>v=.d (.bl true) by
  obtain⟨v,s',e,rfl⟩:=h;exact⟨s',e⟩
 have hs:(1000:Nat)<=sizeLine:=by decide
 refine W.call (k:=59) zn3 rfl ?_;unfold Uz;have w2:Web 2 [(0,1)]:=⟨by lia,by lia,by simp,by simp,by simp⟩;refine Y ?_;refine rW rfl ((zmf (k:=58)).imp λv _=>?_);rintro⟨n0,rfl⟩;refine⟨_,rfl,?_⟩;refine Y ?_;refine Mh (Zj ?_) ?_
 ·have:=zjV (ns:=ns) (lo:=some 1) (hi:=some 3);show 1+_<=_
  lia
 refine Y ?_;refine En (λ_ J s=>∃(a b c d e f g:Option Xv),J=[some (.d (.fl (ns.map D.int))),a,b,c,d,e,f,g]) ⟨_,_,_,_,_,_,_,rfl⟩ (λi x J s hx Cu=>?_) (λJ s Cu=>?_)
 ·obtain⟨m,rfl⟩ : ∃m,x=.int m:=by
   rcases oY.mp (fX hx) with z|z
   ·rcases iU.mp z with rfl|z
    ·exact⟨_,rfl⟩
    ·cases z
   ·exact zj0 z
  obtain⟨a,b,c,d,e,f,g,rfl⟩:=Cu;refine Y ?_;refine Kan rfl ((znk (k:=58)).imp λv s1=>?_);rintro⟨j,o,rfl,hj,hp⟩;refine⟨j,o,rfl,hj,?_⟩;refine Y ?_;refine sS rfl ((zja (k':=57) hp).imp λv s1=>?_);rintro⟨kk,dd,o1,rfl,rfl,qY,hp⟩;refine⟨_,_,rfl,rfl,?_⟩;have hr:=zfG _ qY;dsimp only at hr;have er:bO kk dd=.tup [.int kk,.int dd]:=rfl;refine Y ?_;refine sS rfl ((VR (k:=58) hp (m:=4) (by lia) (by lia)).imp λv s1=>?_);rintro⟨_,o2,rfl,rfl,⟨r,rfl,hr0,hr1⟩,hp⟩;refine⟨_,_,rfl,rfl,?_⟩;refine Y ?_;have hz:1<=1+r/\1+r<=4:=by lia
  generalize 1+r=z at hz ⊢;refine sS rfl ((zhM (k:=57) hp (n:=z) (by lia) (by lia)).imp λv s1=>?_);rintro⟨ps,o3,rfl,rfl,hw,hp⟩;refine⟨_,_,rfl,rfl,?_⟩;refine Y ?_;refine W.c0 (zjA hw hz.2 qY) ?_;refine Y ?_;have h2:=eq_of_beq (fu.mp zj3 _ qY);dsimp only at h2;have e0:D.tup [.int 2,.tup [.tup [.int 0,.int 1]]]=bA 2 [(0,1)]:=rfl;rw[e0];refine W.c0 (Fd (k':=50) w2 hr (by lia)) ?_;refine Y ?_;refine WS.Ep (lW not (pD.mpr h2)) ?_;refine Y ?_;refine sS rfl ((VR (k:=58) hp (m:=4) (by lia) (by lia)).imp λv s1=>?_);rintro⟨_,o4,rfl,rfl,⟨r2,rfl,NK,hr3⟩,hp⟩;refine⟨_,_,rfl,rfl,?_⟩;refine Y ?_;have hu:2+r2∈([2,3,4,5]:List Int):=by
   simp only[iU,List.not_mem_nil,or_false]
   lia
  have hu2:2<=2+r2/\2+r2<=5:=by lia
  generalize 2+r2=u at hu hu2 ⊢;refine W.c0 (zl5 (fu.mp zli u hu)) ?_;refine Y ?_;refine W.c0 (Fd (k':=50) (zhy (by lia) (by lia)) hr (by lia)) ?_;have h3:=eq_of_beq (fu.mp (fu.mp zhL _ qY) u hu);dsimp only at h3;refine Y ?_;refine WS.Ep ?_ ?_
  ·have e1:decide (((grows kk dd (lU u) [[]] u.toNat).length:Int)>0)=decide (0<(grows kk dd (lU u) [[]] u.toNat).length):=by rw[q_];lia
   show (!(decide (((grows kk dd (lU u) [[]] u.toNat).length:Int)>0)==decide (kk>=u*dd)))=false;rw[e1,h3];exact lW not (zL _)
  refine Y ?_;exact⟨_,rfl,_,_,_,_,_,_,_,rfl⟩
 ·obtain⟨a,b,c,d,e,f,g,rfl⟩:=Cu;exact Y trivial
end dX
open PySem PySem.W PyProof.Rows
set_option maxRecDepth 100000 in
set_option maxHeartbeats 0 in
theorem PySem.Challenge.cw_ringhues_k57_whole_counts_and_maps_holds : PySem.Challenge.rw_ringhues_k57_whole_counts_and_maps.Holds := by
 refine PySem.W.holds_law dX.ws λsaid=>?_;refine holds_open (q:=dX.qv) (loose:=dX.loose) (Xt:=λs=>xlAt dX.qv [] s&&recOk [] s) (XP:=XL dX.qv []) (Yf:=(Mi.lR dX.fs dX.ms dX.xs dX.lk dX.bd).obs) (Ya:=(Mi.lR dX.fs dX.ms dX.xs dX.lk dX.bd).val) (YP:=(Mi.lR dX.fs dX.ms dX.xs dX.lk dX.bd).says) (N:=20000) dX.left (Mi.lR dX.fs dX.ms dX.xs dX.lk dX.bd).of (Mi.lR dX.fs dX.ms dX.xs dX.lk dX.bd).keeps (λs e=>xl_of s (Bool.and_eq_true_iff.mp e).1) XL.keeps (by rfl) (by rfl) (by rfl) (λs e=>recFacts_of (Bool.and_eq_true_iff.mp e).2) (by rfl) (by first|assumption|decide +kernel) (by decide +kernel) ⟨rfl,rfl,rfl,rfl,rfl,by decide +kernel⟩ ?hw ?hc
 case hw=>w_witness2
 case hc=>exact Mi.Ju (l:=PySem.Challenge.rw_ringhues_k57_whole_counts_and_maps) (x:="_law_script") (k:=60) rfl rfl ⟨by decide,by decide,rfl⟩ (λw K mg fa h S X G VL=>dX.all_mk dX.u5 S X G VL)
