import PyProof.Rows.All
import Wide.All
import OpenK.AllK
import PySem.Challenge.RW_ringhues_k68_hues_led_by_maps
set_option compiler.extract_closed false
abbrev aA:=@PySem.wpAny_bind
abbrev cG:=@PySem.Heap.get?_push_of_some
abbrev aL:=@PySem.wpAny_pure
abbrev bN:=@List.length_map
abbrev fL:=@List.getElem?_eq_getElem
abbrev cY:=@List.length_append
abbrev cI:=@decide_eq_false
abbrev cU:=@Bool.and_eq_true
abbrev dJ:=@List.size_toArray
abbrev fM:=@List.mem_cons_of_mem
abbrev cP:=@decide_eq_true
abbrev bW:=@PySem.Heap.lt_size
abbrev jy:=@List.getElem?_eq_some_iff
abbrev dM:=@Option.some.inj
abbrev fV:=@List.mem_cons_self
abbrev kj:=@List.getD_eq_getElem?_getD
abbrev dh:=@List.mem_cons
abbrev gb:=@of_decide_eq_true
abbrev cH:=@Nat.le_refl
abbrev fW:=@List.all_eq_true
abbrev g8:=@Nat.lt_of_lt_of_le
abbrev iB:=@PySem.Heap.get?_push_size
abbrev jd:=@List.mem_of_getElem?
abbrev fO:=@List.mem_append
abbrev dH:=@Nat.ne_of_lt
abbrev i_:=@List.getElem?_map
abbrev iC:=@List.length_cons
abbrev jK:=@Bool.false_eq_true
abbrev pH:=@List.getElem?_append_right
abbrev fX:=@List.mem_map
abbrev n_:=@Option.map_eq_some_iff
abbrev qH:=@List.getElem?_append_left
abbrev qI:=@List.getElem?_eq_none_iff
abbrev jW:=@List.map_append
abbrev pX:=@List.mem_append_right
abbrev tV:=@List.pairwise_iff_getElem
abbrev xO:=@PyProof.Rows.slot_tuple_getitem
abbrev jL:=@List.map_cons
abbrev qJ:=@List.mem_append_left
abbrev nU:=@List.lookup_cons
abbrev pI:=@PySem.wpAny_newObj_type
abbrev oh:=@List.not_mem_nil
abbrev lJ:=@PySem.wpAny_holding
abbrev lU:=@List.all_cons
abbrev tW:=@List.getElem?_set_ne
abbrev uH:=@PySem.Heap.get?_update_self
abbrev lK:=@List.map_map
abbrev qK:=@PySem.wpAny_truthy_bool
abbrev pY:=@List.getElem_mem
abbrev wH:=@PySem.Heap.get?_update_other
abbrev jz:=@beq_iff_eq
abbrev rT:=@Nat.lt_succ_of_lt
abbrev nW:=@Nat.lt_irrefl
abbrev pZ:=@List.length_set
abbrev lM:=@PySem.wpAny_field
abbrev uI:=@List.mem_map_of_mem
abbrev jM:=@PySem.wpAny_mono
abbrev Bs:=@List.nodup_iff_pairwise_ne
abbrev zL:=@PySem.wpAny_callSpecial?_slot
abbrev zM:=@Option.bind_eq_some_iff
abbrev rW:=@List.length_nil
abbrev rY:=@List.nodup_cons
abbrev tX:=@PySem.wpAny_call_entry
abbrev tY:=@decide_eq_decide
abbrev uJ:=@List.pairwise_map
abbrev zN:=@List.getElem?_set_self
abbrev xP:=@List.filterMap_cons
abbrev wI:=@Int.toNat_natCast
abbrev zO:=@List.mem_iff_getElem
abbrev p7:=@Nat.le_trans
abbrev xQ:=@PySem.Obj.data_mapFields
abbrev tZ:=@List.mem_range
abbrev t_:=@PySem.Heap.size_push
abbrev jA:=@if_false
abbrev xR:=@PySem.wpAny_setState_of
abbrev G8:=@PyProof.Rows.callWith_type1
abbrev p8:=@Nat.zero_le
abbrev xT:=@List.length_take
abbrev G9:=@Array.getElem?_eq_some_iff
abbrev G_:=@PySem.F.excBase_ValueError
abbrev Bt:=@Array.length_toList
abbrev qL:=@PySem.sizeLine_eq
abbrev Bu:=@PySem.Heap.SameBut.update
abbrev uK:=@PySem.wpAny_standAt
abbrev wJ:=@PySem.wpAny_seqItems
abbrev Hf:=@Array.getElem?_eq_getElem
abbrev xU:=@List.mem_filter
abbrev Bv:=@List.pairwise_cons
abbrev zP:=@beq_self_eq_true
abbrev Fl:=@PySem.Heap.get?_none_of_le
abbrev Hg:=@Int.eq_ofNat_of_zero_le
abbrev Qk:=@PyProof.Rows.F.plain_set_update_loop
abbrev Bw:=@PySem.wpAny_loadPart_at
abbrev Fp:=@PySem.mem_of_lookup
abbrev Fq:=@List.getElem_of_mem
abbrev Ft:=@List.replicate_succ
abbrev MP:=@PySem.F.slot_tuple_iterator_next
abbrev wK:=@Nat.ne_of_gt
abbrev Hj:=@List.length_replicate
abbrev Fv:=@PySem.wpAny_setField_rec
abbrev nY:=@or_false
abbrev Hl:=@List.getElem?_toArray
abbrev xV:=@Bool.not_true
abbrev zQ:=@PySem.wpAny_setField
abbrev Ho:=@PySem.wpAny_loadName_local
abbrev Hq:=@List.pairwise_append
abbrev Fw:=@PySem.Value.isInt_shape
abbrev BJ:=@PySem.wpAny_passesOwn
abbrev Fx:=@bne_self_eq_false
abbrev Fy:=@List.append_assoc
abbrev Fz:=@decide_eq_true_eq
abbrev FJ:=@List.length_range
abbrev M4:=@List.getElem?_replicate
abbrev M5:=@PySem.F.plainAttrs_list
abbrev M6:=@decide_eq_false_iff_not
abbrev Hr:=@List.map_congr_left
abbrev Hs:=@PySem.wpAny_Call_Name_kw
abbrev Ht:=@List.zip_cons_cons
abbrev Hu:=@of_decide_eq_false
abbrev zR:=@Nat.le_of_lt
abbrev FN:=@List.append_nil
abbrev zT:=@PySem.wpAny_typeOf
abbrev M7:=@Array.getElem?_toList
abbrev M8:=@PySem.Obj.isFreed_of_fields
abbrev M9:=@List.getElem?_eq_none
abbrev FP:=@PySem.codeAny_builtin
abbrev zU:=@PySem.F.called_set
abbrev Hv:=@List.nodup_append
abbrev FQ:=@List.nodup_nil
abbrev Xz:=@PyProof.Rows.F.entry_set_update_loop
abbrev rZ:=@congrArg
abbrev Hw:=@List.length_drop
abbrev Hx:=@Nat.le_of_not_lt
abbrev Hy:=@List.filter_cons
abbrev M_:=@PySem.wpAny_isSubtype_exc
abbrev Nb:=@PySem.Heap.get?_update_ne
abbrev Ql:=@Option.isSome_iff_exists
abbrev Qm:=@PySem.F.args_tuple_add_2
abbrev Hz:=@PySem.wpAny_execs_nil
abbrev Nf:=@Bool.false_ne_true
abbrev Qn:=@PySem.F.entry_tuple_add
abbrev HB:=@List.forIn_cons
abbrev Ng:=@PySem.Code.quiet_builtin
abbrev HD:=@PySem.wpAny_ite_false
abbrev Qo:=@PySem.W.cellsFrom_some
abbrev Qp:=@PySem.F.slot_tuple_add
abbrev Qq:=@List.range_succ_eq_map
abbrev Nh:=@Bool.not_eq_true'
abbrev Ni:=@PySem.Heap.get?_push_ne
abbrev Nj:=@List.reverse_cons
abbrev HF:=@Bool.false_and
abbrev Qs:=@Nat.le_of_ble_eq_true
abbrev FT:=@List.all_map
abbrev FW:=@Nat.lt_or_ge
abbrev Qt:=@List.take_append_drop
abbrev Qu:=@List.length_filter_le
abbrev Nk:=@PySem.wpAny_forIn_list
abbrev Nm:=@Nat.lt_succ_self
abbrev Np:=@List.take_length
abbrev Nq:=@PySem.F.slot_tuple_mul
abbrev Qv:=@PySem.Calls.evalArgs_plain
abbrev Qw:=@PySem.codeAny_call_builtin
abbrev Qx:=@PySem.wpAny_updateSeq_pair
abbrev Qy:=@PySem.Around.under_plainId
abbrev HJ:=@PySem.wpAny_attempt
abbrev HN:=@Bool.true_and
abbrev BK:=@PySem.wpAny_Name
abbrev BL:=@PySem.call_meets
abbrev BP:=@PySem.wpAny_call
abbrev Nr:=@List.of_mem_zip
abbrev FZ:=@PySem.wpAny_of_eq
abbrev Nt:=@PySem.F.slot_zip_next
abbrev Qz:=@Nat.mul_le_mul_left
abbrev QB:=@List.mem_filterMap
abbrev HS:=@PySem.codeAny_mono
abbrev QC:=@List.contains_cons
abbrev HW:=@Nat.succ_mul
abbrev QD:=@List.mem_singleton
abbrev QF:=@decide_eq_true_iff
abbrev Nu:=@Bool.and_false
abbrev Nv:=@List.forIn_nil
abbrev Ga:=@PySem.wpAny_rule
abbrev QG:=@List.getElem?_inj
abbrev QJ:=@Nat.lt_trichotomy
abbrev QK:=@List.flatten_cons
abbrev HX:=@Nat.not_lt
set_option Elab.async false
set_option linter.all false
set_option maxRecDepth 100000
set_option maxHeartbeats 4000000
namespace L2
open PySem PySem.Spec PyProof.Rows PySem.W
noncomputable def subIn(K:W.Frag)(C D:Addr):Bool:=PySem.W.ktsIn K C "BaseException"&&PySem.W.ktsIn K D "BaseException"&&match K.lookup C with
 |some ⟨_,_,.cls cd,_⟩=>cd.mro.contains (.ref D)
 |_=>false
noncomputable def su:List Value:=[.type "ValueError",.type "Exception",.type "BaseException",.type "object"]
noncomputable def bH:List Value->Bool
 |.ref _::r=>bH r
 |l=>l==su
noncomputable def kE(K:Frag)(C fI:Addr):Bool:=match K.lookup C with
 |some ⟨.type "type",_,.cls cd,sl⟩=>(match cd.mro,sl.toList with
  |.ref C'::bm,[_,_,_,_,some (.builtin n),_]=>C'==C&&n=="ValueError.__new__" && !cd.hasDel&&tailIn K su bm&&nsOkIn K cd.ns&&nsIn K cd.ns "__init__"==some (some (.ref fI))
  |_,_=>false)
 |_=>false
noncomputable def aW(s:Stmt):Arguments:=match s with
 |.FunctionDef _ a _ _ _ _ _ _ _ _=>a
 |_=>{posonlyargs:=[],args:=[],vararg:=none,kwonlyargs:=[],kw_defaults:=[],kwarg:=none,defaults:=[]}
noncomputable def aN(s:Stmt):List Stmt:=match s with
 |.FunctionDef _ _ b _ _ _ _ _ _ _=>b
 |_=>[]
noncomputable def au(s:Stmt):Scope:=match s with
 |.FunctionDef _ _ _ _ _ _ sc _ _ _=>sc
 |_=>{kind:=.function,names:=[],isGenerator:=false,isCoroutine:=false}
end L2
namespace Mi
open PySem PySem.Spec PyProof.Rows L2 PySem.W
noncomputable def pJ(n c:Nat):Nat:=if c<n then c else 0
noncomputable def kI(n c e:Nat):Bool:=pJ n e==0||pJ n c==pJ n e
noncomputable def eY(L:List Addr)(c:Nat):Addr:=L.getD (pJ L.length c) 0
noncomputable def Ny(K:W.Frag)(C:Addr):Bool:=
 PySem.W.findIn K (.ref C) "__getattribute__"==some (some (.builtin "BaseException.__getattribute__"))&&PySem.W.findIn K (.ref C) "__getattr__"==some none&&PySem.W.findIn K (.ref C) "__class__"==some (some (.builtin "object.__class__")) &&
 PySem.W.mroIn K C (.type "BaseException")==some true&&PySem.W.mroIn K C (.type "object")==some true&&(PySem.W.clsIn K C).isSome &&
 PySem.W.specialIn K (.builtin "object.__class__") "__get__"==some (some (.builtin "getset_descriptor.__get__"))&&PySem.W.takesIn K (.builtin "object.__class__")==some true
noncomputable def qM(K:W.Frag)(L:List Addr):Bool:=(List.range L.length).all λc=>Ny K (L.getD c 0)&&PySem.W.kitOne K (.ref (L.getD c 0)) (.type "ValueError")==some true &&
 (List.range L.length).all λe=>PySem.W.kitOne K (.ref (L.getD c 0)) (.ref (L.getD e 0))==some (kI L.length c e)
noncomputable def subB(K:W.Frag)(L:List Addr)(d:Nat):Bool:=(List.range L.length).all λc=>!(kI L.length c d)||L2.subIn K (L.getD c 0) (eY L d)
noncomputable def uc(fd:FuncData):FuncData:={fd with kwdefaults:=.none,doc:=.none,pyModule:=.none,annotations:=none,code:=.none,closureTuple:=.none}
noncomputable def wL(x:Str)(st:Stmt):FuncData:=fnOf x x (aW st) (aN st) (au st) .none .none .none .none none .none .none
noncomputable def BR(K:Frag)(x:Str):Option (Addr×FuncData):=match nsIn K mainGlobals x with
 |some (some (.ref f))=>(match K.lookup f with
  |some ⟨_,_,.func fd,_⟩=>(match codeIn K fd.code x&&keepIn K (.ref f) with
   |true=>some (f,fd)
   |false=>none)
  |_=>none)
 |_=>none
noncomputable def BW(K:Frag)(x:Str):Addr:=match nsIn K mainGlobals x with
 |some (some (.ref C))=>C
 |_=>0
noncomputable def xW(K:Frag)(x:Str):Bool:=match nsIn K mainGlobals x with
 |some (some (.ref _))=>true
 |_=>false
noncomputable def mL(K:Frag)(p:Str×Int):Bool:=match nsIn K mainGlobals p.1 with
 |some (some (.int i _))=>decide (i=p.2)
 |_=>false
noncomputable def qN(K:Frag)(x:Str):Bool:=match nsIn K mainGlobals x with
 |some none=>true
 |_=>false
noncomputable def HY(K:Frag)(C:Addr):Bool:=excIn K C [.type "ValueError",.type "Exception",.type "BaseException",.type "object"] "ValueError.__new__"
structure Lk where
 H_:List Str
 zV:List (Str×Int)
 XD:List Str
 XH:List Nat
 XJ:List Nat
noncomputable def Lk.L(l:Lk)(K:Frag):List Addr:=l.H_.map (BW K)
noncomputable def Lk.good(l:Lk)(K:Frag):Bool:=
 l.H_.all (xW K)&&(l.H_.isEmpty||qM K (l.L K))&&l.XH.all (λk=>HY K (eY (l.L K) k))&&l.XJ.all (λk=>subB K (l.L K) k)&&l.zV.all (mL K)&&l.XD.all (qN K)
noncomputable def qO(h:Heap):List Addr->Frag
 |[]=>[]
 |a::r=>match h.get? a with
  |some o=>(a,o)::qO h r
  |none=>qO h r
noncomputable def xX(s:Stmt):List Stmt:=match s with
 |.ClassDef _ _ _ b _ _ _ _ _ _ _=>b
 |_=>[]
noncomputable def BX(q:Str)(st:Stmt):FuncData:=fnOf "__init__" q (aW st) (aN st) (au st) .none .none .none .none none .none .none
noncomputable def Ia(K:Frag)(C:Addr):Option FuncData:=match clsIn K C with
 |some cd=>(match nsIn K cd.ns "__init__" with
  |some (some (.ref f))=>(match K.lookup f with
   |some ⟨.type "function",_,.func fd,_⟩=>(match codeIn K fd.code fd.qualname&&kE K C f&&bH cd.mro&&cd.hasDict with
    |true=>some fd
    |false=>none)
   |_=>none)
  |_=>none)
 |none=>none
noncomputable def setB(K:Frag)(C:Addr)(fs:List Str):Bool:=findIn K (.ref C) "__setattr__"==some (some (.builtin "object.__setattr__"))&&fs.all (λf=>findIn K (.ref C) f==some none)
noncomputable def Nz(K:Frag)(C:Addr)(f:Str):Bool:=findIn K (.ref C) "__getattribute__"==some (some (.builtin "BaseException.__getattribute__"))&&findIn K (.ref C) "__getattr__"==some none&&mroIn K C (.type "BaseException")==some true&&findIn K (.ref C) f==some none&&hasDictIn K C
structure xY where
 c:Nat
 q:Str
 st:Stmt
 fs:List Str
noncomputable def Ib:Nat->List Obj->Frag
 |_,[]=>[]
 |i,o::r=>match o.isFreed with
  |true=>Ib (i+1) r
  |false=>(i,o)::Ib (i+1) r
noncomputable def cM(h:Heap):Frag:=qO h [mainGlobals]++(Ib 0 h.objs.toList).reverse
noncomputable def sy(fs:List (Str×Stmt))(ms:List xY)(xs:List (Nat×Str))(l:Lk)(s:Shared):List (Option FuncData)×List (Option FuncData)×Bool:=
 (fs.map (λp=>(BR (cM s.heap) p.1).map (λq=>uc q.2)),ms.map (λm=>(Ia (cM s.heap) (eY (l.L (cM s.heap)) m.c)).map uc),
  l.good (cM s.heap)&&ms.all (λm=>setB (cM s.heap) (eY (l.L (cM s.heap)) m.c) m.fs)&&xs.all (λx=>Nz (cM s.heap) (eY (l.L (cM s.heap)) x.1) x.2))
noncomputable def uL(fs:List (Str×Stmt))(ms:List xY)(w:World):List (Option FuncData)×List (Option FuncData)×Bool:=(fs.map (λp=>some (wL p.1 p.2)),ms.map (λm=>some (BX m.q m.st)),true)
noncomputable def NK(fs:List (Str×Stmt))(s:Shared):List (Option FuncData):=fs.map (λp=>(BR (cM s.heap) p.1).map (λq=>uc q.2))
noncomputable def XM(ms:List xY)(xs:List (Nat×Str))(l:Lk)(s:Shared):List (Option FuncData)×Bool:=(ms.map (λm=>(Ia (cM s.heap) (eY (l.L (cM s.heap)) m.c)).map uc),
  l.good (cM s.heap)&&ms.all (λm=>setB (cM s.heap) (eY (l.L (cM s.heap)) m.c) m.fs)&&xs.all (λx=>Nz (cM s.heap) (eY (l.L (cM s.heap)) x.1) x.2))
theorem zfr{p q:Program}{loose:List Str}{Xt:Shared->Bool}{N:Nat}{fs1 sE:List (Str×Stmt)}{ms:List xY}{xs:List (Nat×Str)}{l:Lk}
  (a:∀w,(openEnds treeTable p w N).map (λs=>openSeen q loose (importedModules p.main.body) Xt true s)=some (openGood q loose))
  (b1:∀w,(openEnds treeTable p w N).map (NK fs1)=some (fs1.map λp=>some (wL p.1 p.2)))
  (b2:∀w,(openEnds treeTable p w N).map (NK sE)=some (sE.map λp=>some (wL p.1 p.2)))
  (c:∀w,(openEnds treeTable p w N).map (XM ms xs l)=some (ms.map (λm=>some (BX m.q m.st)),true)):LeftO p q loose Xt (sy (fs1++sE) ms xs l) (uL (fs1++sE) ms) N:=by
 intro w;have a:=a w;have b1:=b1 w;have b2:=b2 w;have c:=c w;cases e:openEnds treeTable p w N with
 |none=>rw[e] at a;cases a
 |some s=>
  rw[e] at a b1 b2 c;have a:openSeen q loose (importedModules p.main.body) Xt true s=openGood q loose:=dM a;have b1:=dM b1;have b2:=dM b2;have c:=dM c;have c1:=rZ Prod.fst c;have c2:=rZ Prod.snd c;show some (_,sy (fs1++sE) ms xs l s)=_;rw[a];have:sy (fs1++sE) ms xs l s=uL (fs1++sE) ms w:=by
   unfold sy uL;rw[jW,jW];have b1:List.map _ fs1=List.map _ fs1:=b1;have b2:List.map _ sE=List.map _ sE:=b2;rw[b1,b2];exact Prod.ext rfl (Prod.ext c1 c2)
  rw[this]
end Mi
namespace gw
open PySem PySem.Spec PyProof.Rows PySem.W L2 Mi
noncomputable def top(i:Nat):Stmt:=PySem.Challenge.pw_ringhues_k68_hues_led_by_maps.main.body.getD i (.Pass ⟨0,0,0,0⟩)
noncomputable def fs1:List (Str×Stmt):=(("is_whole" : Str),top 14)::(("is_within" : Str),top 15)::(("is_row" : Str),top 16)::(("is_web" : Str),top 19)::(("is_many" : Str),top 20)::(("is_place" : Str),top 21)::(("is_tie" : Str),top 22)::(("tie_by" : Str),top 23)::(("check_web" : Str),top 24)::(("are_tied" : Str),top 25)::(("is_ring" : Str),top 28)::(("is_spot" : Str),top 29)::(("check_ring" : Str),top 30)::(("gap_of" : Str),top 31)::(("are_spots" : Str),top 33)::(("are_hues" : Str),top 34)::(("check_hues" : Str),top 35)::(("clash_of" : Str),top 36)::(("map_holds" : Str),top 38)::(("led_hues" : Str),top 39)::(("_law_cell" : Str),top 41)::[]
noncomputable def sE:List (Str×Stmt):=(("_law_pen" : Str),top 42)::(("_law_draw" : Str),top 43)::(("_law_whole" : Str),top 44)::(("_law_odd" : Str),top 45)::(("_law_kind" : Str),top 46)::(("_law_web" : Str),top 47)::(("_law_is_web" : Str),top 48)::(("_law_ring" : Str),top 49)::(("_law_is_ring" : Str),top 50)::(("_law_apart" : Str),top 51)::(("_law_fit_spots" : Str),top 52)::(("_law_are_spots" : Str),top 53)::(("_law_are_hues" : Str),top 54)::(("_law_first" : Str),top 55)::(("_law_bent_web" : Str),top 56)::(("_law_bent_row" : Str),top 57)::(("_law_bent_ring" : Str),top 58)::(("_law_is_map" : Str),top 59)::(("_law_told" : Str),top 60)::(("_law_word" : Str),top 61)::(("_law_right" : Str),top 62)::(("law" : Str),top 63)::[]
noncomputable abbrev fs:List (Str×Stmt):=fs1++sE
noncomputable def lk:Lk:=⟨["HueError","NoRing","NoHues","NoPlace","NoArrows","NoMap","NoPaper","Apart","NoRow","NoWeb","NoText","TooGreat"],[("MOST_PLACES",8),("MOST_SPOTS",24)],["ValueError","abs","all","bool","divmod","int","isinstance","len","list","max","min","range","set","sorted","str","tuple","zip"],[1,2,5],[0]⟩
noncomputable def qb:Stmt:=(xX (top 10)).getD 0 (.Pass ⟨0,0,0,0⟩)
noncomputable def ms:List xY:=[⟨9,"NoWeb.__init__",qb,["at"]⟩]
noncomputable def xs:List (Nat×Str):=[]
noncomputable abbrev pv:Program:=PySem.Challenge.pw_ringhues_k68_hues_led_by_maps
noncomputable def qv:Program:={pv with main:={pv.main with body:=[pv.main.body.getD 63 (.Pass ⟨0,0,0,0⟩)]}}
noncomputable def loose:List Str:=(["HueError","NoRing","NoHues","NoPlace","NoArrows","NoMap","NoPaper","Apart","NoRow","NoWeb","NoText","TooGreat","is_whole","is_within","is_row","MOST_PLACES","is_web","is_many","is_place","is_tie","tie_by","check_web","are_tied","MOST_SPOTS","is_ring","is_spot","check_ring","gap_of","are_spots","are_hues","check_hues","clash_of","map_holds","led_hues","_law_cell","_law_pen","_law_draw","_law_whole","_law_odd","_law_kind","_law_web","_law_is_web","_law_ring","_law_is_ring","_law_apart","_law_fit_spots","_law_are_spots","_law_are_hues","_law_first","_law_bent_web","_law_bent_row","_law_bent_ring","_law_is_map","_law_told","_law_word","_law_right"]:List String).map Str.ofString
theorem zmw(w:World):(openEnds treeTable pv w 20000).map (λs=>openSeen qv loose (importedModules pv.main.body) (λs=>xlAt qv [] s&&recOk [] s) true s)=some (openGood qv loose):=by
 kernel_rfl
theorem zl8(w:World):(openEnds treeTable pv w 20000).map (NK fs1)=some (fs1.map λp=>some (wL p.1 p.2)):=by
 kernel_rfl
theorem zmD(w:World):(openEnds treeTable pv w 20000).map (NK sE)=some (sE.map λp=>some (wL p.1 p.2)):=by
 kernel_rfl
theorem zmT(w:World):(openEnds treeTable pv w 20000).map (XM ms xs lk)=some (ms.map (λm=>some (BX m.q m.st)),true):=by
 kernel_rfl
theorem ws:PySem.Challenge.rw_ringhues_k68_hues_led_by_maps.wellSaid=true:=by
 kernel_rfl
theorem left:LeftO pv qv loose (λs=>xlAt qv [] s&&recOk [] s) (sy fs ms xs lk) (uL fs ms) 20000:=zfr zmw zl8 zmD zmT
end gw
namespace L2
open PySem PySem.Spec PyProof.Rows
theorem eF{α:Sort u}{β:Sort v}{A B C:α->β->Prop}{P:Prop}(h:∃x y,A x y/\B x y/\C x y)(k:∀x y,A x y->B x y->C x y->P):P:=by
 obtain⟨x,y,a,b,c⟩:=h;exact k x y a b c
theorem wM{α:Sort u}{β:Sort v}{γ:Sort w}{A B:α->β->Prop}{C D:α->β->γ->Prop}{P:Prop}(h:∃x y,A x y/\B x y/\∃z,C x y z/\D x y z)(k:∀x y,A x y->B x y->∀z,C x y z->D x y z->P):P:=by
 obtain⟨x,y,a,b,z,c,d⟩:=h;exact k x y a b z c d
theorem xZ{α:Sort u}{A B:α->Prop}{P:Prop}(h:∃x,A x/\B x)(k:∀x,A x->B x->P):P:=by
 obtain⟨x,a,b⟩:=h;exact k x a b
noncomputable abbrev Key:=Sum Int Str
noncomputable def mj:Key->Value->Bool
 |.inl k,v=>Value.isInt k v
 |.inr x,v=>Value.isStrOf x v
noncomputable def QL(w:World):Key->Int
 |.inl k=>hashInt k
 |.inr x=>hashStr w x
theorem yc:∀{k:Key} {v:Value},mj k v=true->(∃i t,k=Sum.inl i/\v=Value.int i t)\/(∃x t,k=Sum.inr x/\v=Value.str x t)
 |.inl i,v,h=>by
  obtain⟨t,e⟩:=Fw (k:=i) (v:=v) h;exact .inl ⟨i,t,rfl,e⟩
 |.inr x,v,h=>by
  obtain⟨t,e⟩:=Value.isStrOf_shape (x:=x) (v:=v) h;exact .inr ⟨x,t,rfl,e⟩
theorem zgo(i:Int)(t:Tok):mj (.inl i) (.int i t)=true:=by simp[mj,Value.isInt]
theorem zg1(x:Str)(t:Tok):mj (.inr x) (.str x t)=true:=by simp[mj,Value.isStrOf]
theorem zmt(a b:Int):decide ((Sum.inl a:Key)=Sum.inl b)=(a==b):=by
 by_cases e:a=b
 ·subst e;simp
 ·have h:¬(Sum.inl a:Key)=Sum.inl b:=λq=>e (Sum.inl.inj q);rw[cI h];exact(beq_eq_false_iff_ne.mpr e).symm
theorem zmd(a b:Str):decide ((Sum.inr a:Key)=Sum.inr b)=decide (a=b):=by
 by_cases e:a=b
 ·subst e;simp
 ·have h:¬(Sum.inr a:Key)=Sum.inr b:=λq=>e (Sum.inr.inj q);rw[cI h,cI e]
theorem zl7(a:Int)(b:Str):decide ((Sum.inl a:Key)=Sum.inr b)=false:=cI (λq=>nomatch q)
theorem zk4(a:Str)(b:Int):decide ((Sum.inr a:Key)=Sum.inl b)=false:=cI (λq=>nomatch q)
noncomputable def cO(prog:Program)(w:World):PySem.KeyKind prog w Key where
 is:=mj
 hash:=QL w
 inj:=λv a b ha hb=>by
  rcases yc ha with ⟨i,t,rfl,rfl⟩|⟨x,t,rfl,rfl⟩
  ·rcases yc hb with ⟨j,u,rfl,e⟩|⟨y,u,rfl,e⟩
   ·injection e with e1 _;rw[e1]
   ·exact nomatch e
  ·rcases yc hb with ⟨j,u,rfl,e⟩|⟨y,u,rfl,e⟩
   ·exact nomatch e
   ·injection e with e1 _;rw[e1]
 byValue:=λk v h=>by
  rcases yc h with ⟨i,t,rfl,rfl⟩|⟨x,t,rfl,rfl⟩<;>rfl
 pyHash:=λhv h=>by
  rcases yc hv with ⟨i,t,rfl,rfl⟩|⟨x,t,rfl,rfl⟩
  ·exact wpAny_pyHash_int h
  ·exact wpAny_pyHash_str h
 eqBool:=λhu hv h=>by
  rcases yc hu with ⟨i,t,rfl,rfl⟩|⟨x,t,rfl,rfl⟩
  ·rcases yc hv with ⟨j,u,rfl,rfl⟩|⟨y,u,rfl,rfl⟩
   ·rw[zmt] at h;exact wpAny_eqBool_int h
   ·rw[zl7] at h;exact SeqAt.EqAt.int_str i t y u _ _ _ _ h
  ·rcases yc hv with ⟨j,u,rfl,rfl⟩|⟨y,u,rfl,rfl⟩
   ·rw[zk4] at h;exact SeqAt.EqAt.str_int x t j u _ _ _ _ h
   ·rw[zmd] at h;exact wpAny_eqBool_str h
 «strs»:=λk x t v h=>by
  rcases yc h with ⟨i,u,rfl,e⟩|⟨y,u,rfl,e⟩
  ·exact nomatch e
  ·injection e with e1 _;subst e1;cases v<;>rfl
theorem zd9(prog:Program)(w:World)(i:Int)(t:Tok):(cO prog w).is (.inl i) (.int i t)=true:=zgo i t
theorem zep(prog:Program)(w:World)(x:Str)(t:Tok):(cO prog w).is (.inr x) (.str x t)=true:=zg1 x t
inductive V where
 |non|bl (b:Bool)|int (i:Int)|str (x:Str)|Gb (b:Array UInt8)|flt (b:UInt64)|ref (a:Addr)|ty (n:String)
 deriving DecidableEq
noncomputable def RelV:V->Value->Prop
 |.non,u=>u=Value.none
 |.bl b,u=>u=Value.bool b
 |.int i,u=>∃t,u=Value.int i t
 |.str x,u=>∃t,u=Value.str x t
 |.Gb b,u=>∃t,u=Value.bytes b t
 |.flt b,u=>∃t,u=Value.float b t
 |.ref a,u=>u=Value.ref a
 |.ty n,u=>u=Value.type n
noncomputable abbrev Vals:List V->List Value->Prop:=Paired RelV
theorem Vals.length{xs:List V}{us:List Value}(r:Vals xs us):xs.length=us.length:=Paired.length r
theorem Vals.get:∀{xs:List V} {us:List Value} {i:Nat} {x:V},Vals xs us->xs[i]?=some x->∃u,us[i]?=some u/\RelV x u
 |_,_,_,_,.nil,e=>by simp at e
 |_,_,0,_,.cons r _,e=>by simp at e;subst e;exact⟨_,rfl,r⟩
 |_,_,i+1,x,.cons _ t,e=>by
  obtain⟨u,h1,h2⟩:=Vals.get (i:=i) (x:=x) t (by simpa using e);exact⟨u,by simpa using h1,h2⟩
theorem Vals.set{x:V}{u:Value}(r:RelV x u):∀{xs:List V} {us:List Value} (i:Nat),Vals xs us->Vals (xs.set i x) (us.set i u)
 |_,_,_,.nil=>.nil
 |_,_,0,.cons _ t=>.cons r t
 |_,_,i+1,.cons q t=>.cons q (Vals.set r i t)
theorem Vals.append{xs ys:List V}{us ws:List Value}(h:Vals xs us)(s:Vals ys ws):Vals (xs++ys) (us++ws):=by
 induction h with
 |nil=>exact s
 |cons r _ ih=>exact .cons r ih
theorem Vals.take:∀{xs:List V} {us:List Value} (n:Nat),Vals xs us->Vals (xs.take n) (us.take n)
 |_,_,0,_=>.nil
 |_,_,_+1,.nil=>.nil
 |_,_,n+1,.cons r t=>.cons r (Vals.take n t)
theorem Vals.drop:∀{xs:List V} {us:List Value} (n:Nat),Vals xs us->Vals (xs.drop n) (us.drop n)
 |_,_,0,r=>r
 |_,_,_+1,.nil=>.nil
 |_,_,n+1,.cons _ t=>Vals.drop n t
noncomputable def BZ:Option V->Option Value->Prop
 |some v,some u=>RelV v u
 |none,none=>True
 |_,_=>False
noncomputable def KV{κ:Type}:List (κ×V)->List (κ×Value)->Prop:=Paired λ(p:κ×V) (q:κ×Value)=>p.1=q.1/\RelV p.2 q.2
noncomputable def kV:Key->V
 |.inl i=>.int i
 |.inr x=>.str x
inductive HO where
 |lst (xs:List V)
 |tup (xs:List V)
 |dK (kvs:List (Key×V))|dT (kvs:List (List Key×V))
 |set (S:Int->Bool) (n:Nat)
 |ins (C dx:Addr) (fs:List (Str×V))
 |own (x:Addr)
 |xd (fs:List (Str×V))
 |met (f x:Addr)
 |rng (lo hi:Int)
 |uM (o:Obj) (u:HO)
 |zW (ps:Array Value)
 |ext (U:Heap->Prop)
noncomputable abbrev Hp:=Addr->Option HO
noncomputable def upd(H:Hp)(a:Addr)(o:HO):Hp:=λb=>if b=a then some o else H b
theorem lV{H:Hp}{a:Addr}{o:HO}:upd H a o a=some o:=by unfold upd;rw[if_pos rfl]
theorem dW{H:Hp}{a b:Addr}{o:HO}(h:b≠a):upd H a o b=H b:=by unfold upd;rw[if_neg h]
theorem XQ{H:Hp}{a:Addr}{o u:HO}:upd (upd H a o) a u=upd H a u:=by
 funext b;unfold upd;split<;>rfl
theorem Gd{H:Hp}{a b:Addr}{o:HO}(h:H a=some o)(h':H b=none):a≠b:=by
 intro e;subst e;rw[h] at h';cases h'
section
variable (P:Program)(w:World)
noncomputable def aU(H:Hp)(h:Heap)(a:Addr):HO->Prop
 |.lst xs=>xs.length<=sizeLine/\∃(its:List Value) (n:Nat),Vals xs its/\h.get? a=some {cls:=.type "list",data:=.seq its.toArray n}
 |.tup xs=>xs.length<=sizeLine/\∃its:List Value,Vals xs its/\IsTup h a its.toArray
 |.dK kvs=>kvs.length<=sizeLine/\(a==sysModules)=false/\∃vs,KV kvs vs/\h.DictOf (cO P w) a vs
 |.dT kvs=>kvs.length<=sizeLine/\(a==sysModules)=false/\∃xs:List (List Key×Addr×Value),
   Paired (λ(p:List Key×V) (q:List Key×Addr×Value)=>p.1=q.1/\H q.2.1=some (.tup (p.1.map kV))/\RelV p.2 q.2.2) kvs xs /\
   ∃o es ep,h.get? a=some o/\o.ExactDict/\o.data=.dict es ep/\es.toList=xs.map (entryOfKey (tupleKind (cO P w)))/\(xs.map (·.1)).Nodup
 |.set S n=>h.SetOf (intKind P w) a S n
 |.ins C dx fs=>H dx=some (.own a)/\fs.length<=1000/\dx≠a/\h.get? a=some (PySem.W.instObj C dx) /\
   ∃mA,h.Ns1 dx mA/\(∀f,BZ (fs.lookup f) (mA f))/\PySem.Within mA (fs.map (·.1))
 |.own _=>∃o,h.get? a=some o
 |.xd fs=>∃mA,h.Ns1 a mA/\∀f,BZ (fs.lookup f) (mA f)
 |.rng lo hi=>∃t u v,h.get? a=some {cls:=.type "range",data:=.fields #[.int lo t,.int hi u,.int 1 v]}
 |.uM o u=>h.get? a=some o/\aU H h a u
 |.zW ps=>h.get? a=some {cls:=.none,data:=.fields ps}
 |.met f x=>h.get? a=some (PySem.W.methodObj (.ref f) (.ref x))
 |.ext U=>U h/\(∃o,h.get? a=some o)/\∀h1 h2:Heap,U h1->(∀o,h1.get? a=some o->h2.get? a=some o)->U h2
def iy(H:Hp)(h:Heap):Prop:=∀a o,H a=some o->aU P w H h a o
end
section
variable {P:Program}{w:World}{H H':Hp}{h h':Heap}{a:Addr}{o:HO}
theorem aU.lt(x:aU P w H h a o):a<h.objs.size:=by
 cases o with
 |lst xs=>obtain⟨_,_,_,_,e⟩:=x;exact bW e
 |tup xs=>obtain⟨_,_,_,p⟩:=x;exact p.lt
 |dK kvs=>obtain⟨_,_,_,_,o,_,_,e,_⟩:=x;exact bW e
 |dT kvs=>obtain⟨_,_,_,_,o,_,_,e,_⟩:=x;exact bW e
 |set S n=>obtain⟨o,_,_,_,e,_⟩:=x;exact bW e
 |ins C dx fs=>obtain⟨_,_,_,e,_⟩:=x;exact bW e
 |own y=>obtain⟨_,e⟩:=x;exact bW e
 |xd fs=>obtain⟨_,⟨_,_,_,e,_⟩,_⟩:=x;exact bW e
 |rng lo hi=>obtain⟨_,_,_,e⟩:=x;exact bW e
 |uM ob u=>obtain⟨e,_⟩:=x;exact bW e
 |zW ps=>exact bW (show h.get? a=some _ from x)
 |met f y=>exact bW (show h.get? a=some _ from x)
 |ext U=>obtain⟨_,⟨_,e⟩,_⟩:=x;exact bW e
theorem XR{α β:Type}{F G:α->β->Prop}:∀{l₁:List α} {l₂:List β},Paired F l₁ l₂->(∀a b,F a b->G a b)->Paired G l₁ l₂
 |_,_,.nil,_=>.nil
 |_,_,.cons r t,f=>.cons (f _ _ r) (XR t f)
theorem aU.stay(x:aU P w H h a o)(k:∀b u,(b=a\/H b=some (.own a))->h.get? b=some u->h'.get? b=some u)
  (ho:∀b,H b=some (.own a)->H' b=some (.own a)) (ht:∀b xs,H b=some (.tup xs)->H' b=some (.tup xs)):aU P w H' h' a o:=by
 induction o with
 |lst xs=>obtain⟨z,its,n,r,e⟩:=x;exact⟨z,its,n,r,k _ _ (.inl rfl) e⟩
 |tup xs=>obtain⟨z,its,r,ob,e,c⟩:=x;exact⟨z,its,r,ob,k _ _ (.inl rfl) e,c⟩
 |dK kvs=>obtain⟨z,y,vs,r,ob,es,ep,e,c⟩:=x;exact⟨z,y,vs,r,ob,es,ep,k _ _ (.inl rfl) e,c⟩
 |dT kvs=>
  obtain⟨z,y,xs,r,ob,es,ep,e,c⟩:=x;exact⟨z,y,xs,XR r λp q z=>⟨z.1,ht _ _ z.2.1,z.2.2⟩,ob,es,ep,k _ _ (.inl rfl) e,c⟩
 |set S n=>obtain⟨ob,es,ep,t,e,c⟩:=x;exact⟨ob,es,ep,t,k _ _ (.inl rfl) e,c⟩
 |ins C dx fs=>
  obtain⟨d,z,ne,e,mA,⟨od,es,ep,e2,c⟩,r⟩:=x;exact⟨ho _ d,z,ne,k _ _ (.inl rfl) e,mA,⟨od,es,ep,k _ _ (.inr d) e2,c⟩,r⟩
 |own y=>obtain⟨ob,e⟩:=x;exact⟨ob,k _ _ (.inl rfl) e⟩
 |xd fs=>obtain⟨mA,⟨od,es,ep,e,c⟩,r⟩:=x;exact⟨mA,⟨od,es,ep,k _ _ (.inl rfl) e,c⟩,r⟩
 |rng lo hi=>obtain⟨t,u,v,e⟩:=x;exact⟨t,u,v,k _ _ (.inl rfl) e⟩
 |uM ob u ih=>obtain⟨e,q⟩:=x;exact⟨k _ _ (.inl rfl) e,ih q⟩
 |zW ps=>
  have e:h.get? a=some {cls:=.none,data:=.fields ps}:=x;show h'.get? a=some {cls:=.none,data:=.fields ps};exact k a _ (.inl rfl) e
 |met f y=>
  have e:h.get? a=some (PySem.W.methodObj (.ref f) (.ref y)):=x;show h'.get? a=some (PySem.W.methodObj (.ref f) (.ref y));exact k a _ (.inl rfl) e
 |ext U=>obtain⟨p,⟨o,e⟩,st⟩:=x;exact⟨st _ _ p λo q=>k _ _ (.inl rfl) q,⟨o,k _ _ (.inl rfl) e⟩,st⟩
theorem iy.lt(x:iy P w H h)(e:H a=some o):a<h.objs.size:=(x a o e).lt
theorem iy.fresh(x:iy P w H h)(e:h.objs.size<=a):H a=none:=by
 cases q:H a with
 |none=>rfl
 |some u=>exact absurd (g8 (x.lt q) e) (nW _)
theorem iy.kept(x:iy P w H h)(k:∀b u,h.get? b=some u->h'.get? b=some u):iy P w H h':=λa o e=>
 (x a o e).stay (λb u _ q=>k b u q) (λ_ q=>q) λ_ _ q=>q
theorem iy.laid(x:iy P w H h)(k:∀b u,h.get? b=some u->h'.get? b=some u)(hp:h.objs.size<=a)(new:aU P w (upd H a o) h' a o):iy P w (upd H a o) h':=λb u e=>by
 have hn:=x.fresh hp;by_cases hb:b=a
 ·subst hb;rw[lV] at e;cases e;exact new
 ·rw[dW hb] at e;exact(x b u e).stay (λc v _ q=>k c v q) (λc q=>by rw[dW (Gd q hn)];exact q) λc xs q=>by rw[dW (Gd q hn)];exact q
end
def Rd(H:Hp)(a:Addr)(u:HO):Prop:=H a=some u\/∃o,H a=some (.uM o u)
theorem Rd.ok{P:Program}{w:World}{H:Hp}{h:Heap}{a:Addr}{u:HO}(r:Rd H a u)(x:iy P w H h):aU P w H h a u:=by
 rcases r with r|⟨o,r⟩
 ·exact x a u r
 ·obtain⟨_,q⟩:=x a _ r;exact q
noncomputable def Ie:Option HO->Prop
 |some (.lst _)=>True
 |some (.dK _)=>True
 |some (.dT _)=>True
 |some (.set _ _)=>True
 |some (.ins _ _ _)=>True
 |some (.ext _)=>True
 |_=>False
section
variable {P:Program}{w:World}{H:Hp}{h h':Heap}{x e:Addr}{o':HO}
theorem iy.write(ok:iy P w H h)(mu:Ie (H x))(he:e=x\/H e=some (.own x))(k:∀b u,b≠e->h.get? b=some u->h'.get? b=some u)(Ge:∃u,h'.get? e=some u)
  (new:aU P w (upd H x o') h' x o'):iy P w (upd H x o') h':=λb u q=>by
 have Ig:∀c y,H c=some (.own y)->c≠x:=λc y r z=>by subst z;rw[r] at mu;exact mu
 have QM:∀c xs,H c=some (.tup xs)->c≠x:=λc xs r z=>by subst z;rw[r] at mu;exact mu
 by_cases hb:b=x
 ·subst hb;rw[lV] at q;cases q;exact new
 ·rw[dW hb] at q;by_cases B_:b=e
  ·have q':H b=some (.own x):=by
    rcases he with z|z
    ·exact absurd (B_.trans z) hb
    ·rw[B_];exact z
   rw[q] at q';cases q';obtain⟨v,hv⟩:=Ge;exact⟨v,by rw[B_];exact hv⟩
  ·refine(ok b u q).stay (λc v hc r=>k c v ?_ r) (λc r=>by rw[dW (Ig c b r)];exact r) λc xs r=>by rw[dW (QM c xs r)];exact r
   rcases hc with rfl|hc
   ·exact B_
   ·rintro rfl;rcases he with z|z
    ·exact Ig c b hc z
    ·rw[hc] at z;cases z;exact hb rfl
end
structure Un(fs ex:List Addr)(H H':Hp)(h h':Heap):Prop where
 keep:∀b o,h.get? b=some o->H b=none->b∉fs->b∉ex->h'.get? b=some o
 slot:∀b o,h.get? b=some o->H b=none->b∈fs->b∉ex->∃sl,h'.get? b=some {o with slots:=sl}
 free:∀b o,h.get? b=some o->H b=none->b∉ex->H' b=none
 there:∀b o,h.get? b=some o->b∉ex->∃o',h'.get? b=some o'
 tups:∀b xs,H b=some (.tup xs)->H' b=some (.tup xs)
 jN:∀b o u,H b=some (.uM o u)->H' b=some (.uM o u)
 kJ:∀b ps,H b=some (.zW ps)->∃more,H' b=some (.zW (ps++more))
section
variable {fs fs' ex ex':List Addr}{H H1 H2:Hp}{h h1 h2 h':Heap}{a x e:Addr}{o:HO}
theorem Un.any(u:Un fs ex H H1 h h1){b:Addr}{ob:Obj}(q:h.get? b=some ob)(n:H b=none)(hx:b∉ex):∃sl,h1.get? b=some {ob with slots:=sl}:=by
 by_cases hb:b∈fs
 ·exact u.slot b ob q n hb hx
 ·exact⟨ob.slots,u.keep b ob q n hb hx⟩
theorem Un.kept(k:∀b u,h.get? b=some u->h'.get? b=some u):Un fs ex H H h h':=
 ⟨λb ob q _ _ _=>k b ob q,λb ob q _ _ _=>⟨ob.slots,k b ob q⟩,λ_ _ _ n _=>n,λb ob q _=>⟨ob,k b ob q⟩,λ_ _ q=>q,λ_ _ _ q=>q,λ_ ps q=>⟨#[],by rw[q];simp⟩⟩
theorem Un.refl:Un fs ex H H h h:=Un.kept λ_ _ q=>q
theorem Un.laid(k:∀b u,h.get? b=some u->h'.get? b=some u)(hp:h.objs.size<=a)(hn:H a=none):Un fs ex H (upd H a o) h h' where
 keep:=λb u q _ _ _=>k b u q
 slot:=λb u q _ _ _=>⟨u.slots,k b u q⟩
 free:=λb u q n _=>by rw[dW (dH (g8 (bW q) hp))];exact n
 there:=λb u q _=>⟨u,k b u q⟩
 tups:=λb xs q=>by rw[dW (Gd q hn)];exact q
 jN:=λb u xs q=>by rw[dW (Gd q hn)];exact q
 kJ:=λb ps q=>⟨#[],by rw[dW (Gd q hn),q];simp⟩
theorem Un.write(mu:Ie (H x))(he:e=x\/H e=some (.own x))(k:∀b u,b≠e->h.get? b=some u->h'.get? b=some u)(Ge:∃u,h'.get? e=some u):Un fs ex H (upd H x o) h h':=by
 have hx:∀b,H b=none->b≠x:=λb n z=>by subst z;rw[n] at mu;exact mu
 have hb:∀b,H b=none->b≠e:=λb n z=>by
  subst z;rcases he with r|r
  ·exact hx b n r
  ·rw[n] at r;cases r
 have hm:∀b u,H b=some u->¬Ie (some u)->b≠x:=λb u q nm z=>by subst z;rw[q] at mu;exact nm mu
 refine⟨λb u q n _ _=>k b u (hb b n) q,λb u q n _ _=>⟨u.slots,k b u (hb b n) q⟩,λb u q n _=>by rw[dW (hx b n)];exact n,λb u q _=>?_,
  λb xs q=>by rw[dW (hm b _ q λz=>z)];exact q,λb u xs q=>by rw[dW (hm b _ q λz=>z)];exact q,λb ps q=>⟨#[],by rw[dW (hm b _ q λz=>z),q];simp⟩⟩
 by_cases B_:b=e
 ·subst B_;exact Ge
 ·exact⟨u,k b u B_ q⟩
end
noncomputable def NP(h:Heap)(H:Hp):List Addr:=(List.range h.objs.size).filter λa=>(H a).isSome
noncomputable def mO(h:Heap)(H:Hp):Heap:=PySem.W.hideAll h (NP h H)
theorem zgQ(h:Heap)(H:Hp):(mO h H).objs.size=h.objs.size:=PySem.W.hideAll_size _ _
theorem zh2{h:Heap}{H:Hp}{b:Addr}{o:Obj}(e:h.get? b=some o)(n:H b=none):(mO h H).get? b=some o:=
 PySem.W.hideAll_get _ e λhm=>by
  have q:(H b).isSome=true:=(xU.mp hm).2;rw[n] at q;simp at q
theorem zi6{h:Heap}{H:Hp}{b:Addr}{o:Obj}(e:(mO h H).get? b=some o):h.get? b=some o/\H b=none:=by
 have e':h.get? b=some o:=PySem.W.of_hideAll (NP h H) e;refine⟨e',?_⟩;cases q:H b with
 |none=>rfl
 |some x=>
  have hm:b∈NP h H:=xU.mpr ⟨tZ.mpr (bW e'),by simp[q]⟩;have z:(mO h H).get? b=none:=PySem.W.hideAll_none (NP h H) hm;rw[z] at e;cases e
structure Mod(K:W.Frag)(mg:Str->Option Value)(base:Heap):Prop where
 zV:K.In base
 glob:base.Ns mainGlobals mg
 blt:∃mb,base.Ns builtinsNs mb/\∀x:Str,x≠"__name__"->mb x=bootBuiltins x
 nolimit:base.NoLimit
structure Cx where
 prog:Program
 w:World
 K:W.Frag
 mg:Str->Option Value
 base:Heap
 A:Around
 N:List Str
 s₀:Shared
 H₀:Hp
 env:Env
 outer:List Env
 stack:List Env
 ex:List Addr
 fn:Str->Bool
 aj:Bool
 pn:List (Addr×Obj)
 xe:Value->Shared->Prop
noncomputable def frs(l:List Env):List Addr:=l.filterMap (·.frame)
noncomputable abbrev Cx.fs(X:Cx):List Addr:=frs X.outer
def QS(sc:Scope)(x:Str):Prop:=sc.names.lookup x=some .local\/sc.names.lookup x=some .cell\/sc.names.lookup x=some .free
def Loc(sc:Scope)(x:Str):Prop:=sc.names.lookup x=some .local\/sc.names.lookup x=some .cell
def Look(env:Env)(h:Heap)(m:Str->Option Value)(x:Str)(u:Value):Prop:=
 (env.kindOf x=some .local/\m x=some u)\/((env.kindOf x=some .cell\/env.kindOf x=some .free)/\∃c,env.cells.lookup x=some c/\h.IsCell c (some u))
structure Cx.Ok(X:Cx):Prop where
 mod:Mod X.K X.mg X.base
 kind:X.env.scope.kind=.function
 glob:X.env.globals=mainGlobals
 blt:X.env.builtins=builtinsNs
 above:X.s₀.heap.objs.size<=X.env.locals
 inj:∀x y c,X.env.cells.lookup x=some c->X.env.cells.lookup y=some c->x=y
 has:∀x,(X.env.kindOf x=some .cell\/X.env.kindOf x=some .free)->∃c,X.env.cells.lookup x=some c
 cab:∀x c,X.fn x=true->X.env.cells.lookup x=some c->X.s₀.heap.objs.size<=c
 hd:X.aj=true->X.A.handled=none
 frames:X.A.frames=some X.stack
 stk:X.stack=X.outer\/(X.stack=X.env::X.outer/\X.env.frame=some X.env.locals)
 X3:∀b∈X.ex,b≠X.env.locals/\∀x c,X.env.cells.lookup x=some c->c≠b
 bs:∀b o,X.base.get? b=some o->X.s₀.heap.get? b=some o/\X.H₀ b=none
 zX:X.base.objs.size<=X.s₀.heap.objs.size
 uN:∀b o,X.base.get? b=some o->b∉X.ex
 yd:∀b∈X.ex,b∉X.fs
 kO:X.s₀.heap.FunFrames X.base X.outer
 Gf:∀b∈X.fs,X.H₀ b=none
structure Inv(X:Cx)(ak:List (Addr×Obj))(Z:List (Option V))(H:Hp)(s:Shared):Prop where
 ok:X.Ok
 os:s.os=X.s₀.os
 bare:AllBare s.gens
 base:Un X.fs X.ex X.H₀ H X.s₀.heap s.heap
 loc:∃m,s.heap.Ns X.env.locals m/\∀(i:Nat) (x:Str) (v:V),X.N[i]?=some x->Z[i]?=some (some v)->QS X.env.scope x->∃u,RelV v u/\Look X.env s.heap m x u
 cell:∀x c,X.env.cells.lookup x=some c->∃v,s.heap.IsCell c v
 free:H X.env.locals=none
 fP:∀x c,X.env.cells.lookup x=some c->H c=none
 pin:∀p∈X.pn++ak,s.heap.get? p.1=some p.2/\H p.1=none/\p.1≠X.env.locals/\p.1∉X.fs/\∀v,p.2.data≠.cell v
 hok:iy X.prog X.w H s.heap
 len:Z.length=X.N.length
section
variable {X:Cx}{ak:List (Addr×Obj)}{Z:List (Option V)}{H H':Hp}{s:Shared}{h':Heap}
theorem Cx.Ok.QT(ok:X.Ok){b:Addr}{o:Obj}(e:X.base.get? b=some o):b∉X.fs:=λhb=>by
 have:=(ok.kO.mem hb).1;rw[e] at this;cases this
theorem Inv.bs(I:Inv X ak Z H s):∀b o,X.base.get? b=some o->s.heap.get? b=some o/\H b=none:=λb o e=>
 ⟨I.base.keep b o (I.ok.bs b o e).1 (I.ok.bs b o e).2 (I.ok.QT e) (I.ok.uN b o e),I.base.free b o (I.ok.bs b o e).1 (I.ok.bs b o e).2 (I.ok.uN b o e)⟩
theorem Inv.bk(I:Inv X ak Z H s):∀b o,X.base.get? b=some o->s.heap.get? b=some o:=λb o e=>(I.bs b o e).1
theorem Inv.mod(I:Inv X ak Z H s):Mod X.K X.mg X.base:=I.ok.mod
theorem Inv.sG(I:Inv X ak Z H s):X.K.In s.heap:=I.ok.mod.zV.keeps I.bk
theorem Inv.nolimit(I:Inv X ak Z H s):s.heap.NoLimit:=I.ok.mod.nolimit.keeps I.bk
theorem Inv.lt(I:Inv X ak Z H s):X.env.locals<s.heap.objs.size:=let ⟨_,hn,_⟩:=I.loc;hn.lt
theorem Inv.sz(I:Inv X ak Z H s):X.s₀.heap.objs.size<=s.heap.objs.size:=p7 I.ok.above (zR I.lt)
theorem Inv.QV(I:Inv X ak Z H s){a:Addr}(h:s.heap.objs.size<=a):a∉X.fs:=λhb=>by
 obtain⟨_,o,ho,_⟩:=I.ok.kO.mem hb;exact absurd (g8 (bW ho) (p7 I.sz h)) (nW _)
theorem Inv.yg(I:Inv X ak Z H s):∀x c,X.env.cells.lookup x=some c->c≠X.env.locals:=λx c e z=>by
 obtain⟨v,o,ho,hd⟩:=I.cell x c e;obtain⟨m,⟨o',es,ep,kW,Ih,_⟩,_⟩:=I.loc;rw[z,kW] at ho;cases ho;rw[Ih] at hd;cases hd
theorem Inv.kO(I:Inv X ak Z H s):s.heap.FunFrames X.base X.outer:=by
 have all:∀(l:List Env),(∀b∈frs l,b∈X.fs)->X.s₀.heap.FunFrames X.base l->s.heap.FunFrames X.base l:=by
  intro l
  induction l with
  |nil=>intro _ _;trivial
  |cons env r ih=>
   intro hs hl;obtain⟨hk,⟨L,o,hf,hn,ho,hd⟩,hr⟩:=hl;have hL:L∈X.fs:=hs L (by unfold frs;rw[xP,hf];exact fV);obtain⟨sl,e⟩:=I.base.slot L o ho (I.ok.Gf L hL) hL λz=>I.ok.yd L z hL;exact⟨hk,⟨L,_,hf,hn,e,hd⟩,ih (λb hb=>hs b (by unfold frs;rw[xP,hf];exact fM _ hb)) hr⟩
 exact all X.outer (λ_ hb=>hb) I.ok.kO
theorem Inv.stack(I:Inv X ak Z H s):s.heap.FunFrames X.base X.stack:=by
 rcases I.ok.stk with e|⟨e,hf⟩
 ·rw[e];exact I.kO
 ·rw[e];obtain⟨m,hn,_⟩:=I.loc;refine .cons (by rw[I.ok.kind];decide) hf hn ?_ I.kO;exact Fl (p7 I.ok.zX I.ok.above)
theorem Inv.mQ(I:Inv X ak Z H s):∀b∈frs X.stack,b∈X.env.locals::X.fs:=λb hb=>by
 rcases I.ok.stk with e|⟨e,hf⟩
 ·rw[e] at hb;exact fM _ hb
 ·rw[e] at hb;unfold frs at hb;rw[xP,hf] at hb;exact hb
theorem Inv.jX(I:Inv X ak Z H s):∀b∈frs X.stack,H b=none:=λb hb=>by
 rcases dh.mp (I.mQ b hb) with e|hb
 ·rw[e];exact I.free
 ·obtain⟨_,o,ho,_⟩:=I.ok.kO.mem hb;exact I.base.free b o ho (I.ok.Gf b hb) λz=>I.ok.yd b z hb
theorem Inv.step{g':Array GenState}{t':Nat}{d':Drawn}{ch:List Addr}(I:Inv X ak Z H s)
  (wN:∀b∈ch,(b∈X.ex\/X.s₀.heap.get? b=none)/\b≠X.env.locals/\(∀x c,X.env.cells.lookup x=some c->c≠b)/\∀p∈X.pn++ak,p.1≠b)
  (keep:∀b o,b≠X.env.locals->b∉X.fs->b∉ch->s.heap.get? b=some o->H b=none->h'.get? b=some o)
  (slot:∀b o,b≠X.env.locals->b∈X.fs->b∉ch->s.heap.get? b=some o->H b=none->∃sl,h'.get? b=some {o with slots:=sl}) (free:∀b o,b∉ch->s.heap.get? b=some o->H b=none->H' b=none)
  (there:∀b o,b∉ch->s.heap.get? b=some o->∃o',h'.get? b=some o')
  (tups:∀b xs,H b=some (.tup xs)->H' b=some (.tup xs)) (jN:∀b o u,H b=some (.uM o u)->H' b=some (.uM o u)) (kJ:∀b ps,H b=some (.zW ps)->∃more,H' b=some (.zW (ps++more)))
  (ns:∀m,s.heap.Ns X.env.locals m->h'.Ns X.env.locals m) (hok:iy X.prog X.w H' h') (hg:AllBare g') :
  Inv X ak Z H' {s with heap:=h',gens:=g',drawn:=d',toks:=t'}:=by
 have X4:∀b o,X.s₀.heap.get? b=some o->b≠X.env.locals:=λb o e=>dH (g8 (bW e) I.ok.above);have NQ:∀b o,X.s₀.heap.get? b=some o->b∉X.ex->b∉ch:=λb o e hx hb=>by
  rcases(wN b hb).1 with z|z
  ·exact hx z
  ·rw[e] at z;cases z
 have cellK:∀x c,X.env.cells.lookup x=some c->∀v,s.heap.IsCell c v->h'.IsCell c v:=λx c e v hx=>xZ hx λo ho hd=>by
  have Ii:c∉ch:=λz=>(wN c z).2.2.1 x c e rfl;by_cases hc:c∈X.fs
  ·obtain⟨sl,q⟩:=slot c o (I.yg x c e) hc Ii ho (I.fP x c e);exact⟨_,q,hd⟩
  ·exact⟨o,keep c o (I.yg x c e) hc Ii ho (I.fP x c e),hd⟩
 refine⟨I.ok,I.os,hg,⟨λb o e n hb hx=>?_,λb o e n hb hx=>?_,λb o e n hx=>?_,λb o e hx=>?_,λb xs e=>tups b xs (I.base.tups b xs e),λb o xs e=>jN b o xs (I.base.jN b o xs e),λb ps e=>?_⟩,?_,λx c e=>?_,?_,λx c e=>?_,λp hp=>?_,hok,I.len⟩
 ·exact keep b o (X4 b o e) hb (NQ b o e hx) (I.base.keep b o e n hb hx) (I.base.free b o e n hx)
 ·obtain⟨sl,e1⟩:=I.base.slot b o e n hb hx;obtain⟨sl',e2⟩:=slot b _ (X4 b o e) hb (NQ b o e hx) e1 (I.base.free b o e n hx);exact⟨sl',e2⟩
 ·obtain⟨o',e1⟩:=I.base.there b o e hx;exact free b o' (NQ b o e hx) e1 (I.base.free b o e n hx)
 ·obtain⟨o',e1⟩:=I.base.there b o e hx;exact there b o' (NQ b o e hx) e1
 ·obtain⟨m1,e1⟩:=I.base.kJ b ps e;obtain⟨m2,e2⟩:=kJ b _ e1;exact⟨m1++m2,by rw[e2,Array.append_assoc]⟩
 ·obtain⟨m,hn,hl⟩:=I.loc;refine⟨m,ns m hn,λi x v e1 e2 e3=>?_⟩;obtain⟨u,r,l⟩:=hl i x v e1 e2 e3;refine⟨u,r,?_⟩;rcases l with l|⟨k,c,e,z⟩
  ·exact .inl l
  ·exact .inr ⟨k,c,e,cellK x c e _ z⟩
 ·obtain⟨v,z⟩:=I.cell x c e;exact⟨v,cellK x c e v z⟩
 ·obtain⟨m,⟨o,_,_,ho,_⟩,_⟩:=I.loc;exact free _ o (λz=>(wN _ z).2.1 rfl) ho I.free
 ·obtain⟨v,o,ho,hd⟩:=I.cell x c e;exact free c o (λz=>(wN c z).2.2.1 x c e rfl) ho (I.fP x c e)
 ·obtain⟨e,n,ne,nf,d⟩:=I.pin p hp;have Ii:p.1∉ch:=λz=>(wN p.1 z).2.2.2 p hp rfl;exact⟨keep p.1 p.2 ne nf Ii e n,free p.1 p.2 Ii e n,ne,nf,d⟩
theorem Inv.un{t':Nat}(I:Inv X ak Z H s)(u:Un X.fs [] H H' s.heap h')(hok:iy X.prog X.w H' h'):Inv X ak Z H' {s with heap:=h',toks:=t'}:=by
 obtain⟨m,⟨o,es,ep,ho,r⟩,_⟩:=id I.loc;obtain⟨sl,hL⟩:=u.any ho I.free (by simp);exact I.step (g':=s.gens) (d':=s.drawn) (ch:=[]) (λ_ z=>nomatch z) (λb o _ hb _ e n=>u.keep b o e n hb (by simp)) (λb o _ hb _ e n=>u.slot b o e n hb (by simp)) (λb o _ e n=>u.free b o e n (by simp)) (λb o _ e=>u.there b o e (by simp)) u.tups u.jN u.kJ (λm' hm=>by
  obtain⟨o',es',ep',kW,r'⟩:=hm;rw[ho] at kW;cases kW;exact⟨_,es',ep',hL,r'⟩) hok I.bare
theorem Inv.call{g':Array GenState}{t':Nat}{d':Drawn}{ch:List Addr}(I:Inv X ak Z H s)(u:Un (frs X.stack) ch H H' s.heap h')(hok:iy X.prog X.w H' h')(hg:AllBare g')
  (wN:∀b∈ch,(b∈X.ex\/X.s₀.heap.get? b=none)/\b≠X.env.locals/\(∀x c,X.env.cells.lookup x=some c->c≠b)/\∀p∈X.pn++ak,p.1≠b) :
  Inv X ak Z H' {s with heap:=h',gens:=g',drawn:=d',toks:=t'}:=by
 obtain⟨m,⟨o,es,ep,ho,r⟩,_⟩:=id I.loc;obtain⟨sl,hL⟩:=u.any ho I.free λz=>(wN _ z).2.1 rfl;exact I.step (ch:=ch) wN (λb o hL hb hc e n=>u.keep b o e n (λz=>(dh.mp (I.mQ b z)).elim hL hb) hc) (λb o _ _ hc e n=>u.any e n hc) (λb o hc e n=>u.free b o e n hc) (λb o hc e=>u.there b o e hc) u.tups u.jN u.kJ (λm' hm=>by
  obtain⟨o',es',ep',kW,r'⟩:=hm;rw[ho] at kW;cases kW;exact⟨_,es',ep',hL,r'⟩) hok hg
theorem Inv.turned{t':Nat}{it:Addr}(I:Inv X ak Z H s)(k:∀b o,b≠it->s.heap.get? b=some o->h'.get? b=some o)(hn:H it=none)(hL:it≠X.env.locals)
  (h1:it∈X.ex\/X.s₀.heap.objs.size<=it) (h2:∀x c,X.env.cells.lookup x=some c->c≠it) (h3:∀p∈X.pn++ak,p.1≠it):Inv X ak Z H {s with heap:=h',toks:=t'}:=by
 have zY:∀b u,H b=some u->b≠it:=λb u e z=>by rw[z,hn] at e;cases e
 refine I.step (g':=s.gens) (d':=s.drawn) (ch:=[it]) (λb hb=>?_) (λb o _ _ hc e _=>k b o (λz=>hc (by simp[z])) e) (λb o _ _ hc e _=>⟨o.slots,k b o (λz=>hc (by simp[z])) e⟩) (λ_ _ _ _ n=>n)
  (λb o hc e=>⟨o,k b o (λz=>hc (by simp[z])) e⟩) (λ_ _ e=>e) (λ_ _ _ e=>e) (λb ps e=>⟨#[],by rw[e];simp⟩) (λm hm=>?_) (λb u e=>?_) I.bare
 ·have e:b=it:=by simpa using hb
  subst e;exact⟨h1.imp id λz=>Fl z,hL,h2,h3⟩
 ·obtain⟨o,es,ep,ho,r⟩:=hm;exact⟨o,es,ep,k _ o (Ne.symm hL) ho,r⟩
 ·refine(I.hok b u e).stay (λc v hc q=>k c v ?_ q) (λ_ q=>q) λ_ _ q=>q;rcases hc with z|z
  ·rw[z];exact zY b u e
  ·exact zY c _ z
theorem Inv.tok(I:Inv X ak Z H s)(t:Nat):Inv X ak Z H {s with toks:=t}:=I.un (h':=s.heap) (t':=t) Un.refl I.hok
theorem Inv.kept{t':Nat}(I:Inv X ak Z H s)(k:∀b u,s.heap.get? b=some u->h'.get? b=some u):Inv X ak Z H {s with heap:=h',toks:=t'}:=I.un (Un.kept k) (I.hok.kept k)
theorem Inv.laid{a:Addr}{o:HO}{t':Nat}(I:Inv X ak Z H s)(k:∀b u,s.heap.get? b=some u->h'.get? b=some u)(hp:s.heap.objs.size<=a)(new:aU X.prog X.w (upd H a o) h' a o) :
  Inv X ak Z (upd H a o) {s with heap:=h',toks:=t'}:=I.un (Un.laid k hp (I.hok.fresh hp)) (I.hok.laid k hp new)
theorem Inv.write{x e:Addr}{o:HO}{t':Nat}(I:Inv X ak Z H s)(mu:Ie (H x))(he:e=x\/H e=some (.own x))(k:∀b u,b≠e->s.heap.get? b=some u->h'.get? b=some u)(Ge:∃u,h'.get? e=some u)
  (new:aU X.prog X.w (upd H x o) h' x o):Inv X ak Z (upd H x o) {s with heap:=h',toks:=t'}:=I.un (Un.write mu he k Ge) (I.hok.write mu he k Ge new)
theorem Inv.mR{iD:List (Addr×Obj)}(I:Inv X ak Z H s)(h:∀p∈iD,s.heap.get? p.1=some p.2/\H p.1=none/\p.1≠X.env.locals/\p.1∉X.fs/\∀v,p.2.data≠.cell v):Inv X iD Z H s:=
 ⟨I.ok,I.os,I.bare,I.base,I.loc,I.cell,I.free,I.fP,λp hp=>(fO.mp hp).elim (λz=>I.pin p (qJ _ z)) (h p),I.hok,I.len⟩
theorem QW{N:List Str}(hN:N.Nodup){i j:Nat}{x:Str}(a:N[i]?=some x)(b:N[j]?=some x):i=j:=by
 obtain⟨h1,e1⟩:=jy.mp a;obtain⟨h2,e2⟩:=jy.mp b;exact(List.getElem_inj hN).mp (e1.trans e2.symm)
theorem X5{M:Model}{A:Around}{E:Value->Shared->Prop}{i:Nat}{x:Str}{v:V}{u:Value}{Q:Unit->Shared->Prop}(I:Inv X ak Z H s)(hN:X.N.Nodup)(hi:X.N[i]?=some x)(hx:Loc X.env.scope x)(r:RelV v u)
  (h:∀s',Inv X ak (Z.set i (some v)) H s'->(∃a,Heap.SameBut a s.heap s'.heap/\(a=X.env.locals\/X.env.cells.lookup x=some a))->Q () s') (hf:X.fn x=true\/X.env.scope.names.lookup x=some .local:=by first|exact .inl rfl|exact .inr rfl|assumption):wpAny M A (storeName X.env x u) Q E s:=by
 obtain⟨m,hn,hl⟩:=id I.loc;have Cd:(X.env.scope.kind==.class||(X.env.scope.kind==.module&&X.env.locals != X.env.globals))=false:=by rw[I.ok.kind];rfl
 have X6:i<Z.length:=by rw[I.len];exact(jy.mp hi).1
 have yg:=I.yg;have tracked:∀{a:Addr} {h':Heap},(∃o,s.heap.get? a=some o/\H a=none)->Heap.SameBut a s.heap h'->iy X.prog X.w H h':=λ{a h'} ha hs b ob e=>by
  obtain⟨_,_,qP⟩:=ha;refine(I.hok b ob e).stay (λc w' hc q=>(hs.2 c ?_).trans q) (λ_ q=>q) λ_ _ q=>q;rintro rfl;rcases hc with rfl|hc
  ·rw[qP] at e;cases e
  ·rw[qP] at hc;cases hc
 rcases hx with hk|hk
 ·refine wpAny_storeName_local hk hn (λh' yh hs=>?_) Cd;obtain⟨oL,_,_,zZ,_⟩:=id hn;refine h _ ⟨I.ok,I.os,I.bare,⟨λb o e n hb hx=>?_,λb o e n hb hx=>?_,I.base.free,λb o e hx=>?_,I.base.tups,I.base.jN,I.base.kJ⟩,⟨_,yh,λj y v' e1 e2 e3=>?_⟩,λy c e=>?_,I.free,I.fP,λp hp=>?_,tracked ⟨oL,zZ,I.free⟩ hs,by simpa using I.len⟩ ⟨_,hs,.inl rfl⟩
  ·exact(hs.2 b (dH (g8 (bW e) I.ok.above))).trans (I.base.keep b o e n hb hx)
  ·obtain⟨sl,e1⟩:=I.base.slot b o e n hb hx;exact⟨sl,(hs.2 b (dH (g8 (bW e) I.ok.above))).trans e1⟩
  ·obtain⟨o',e1⟩:=I.base.there b o e hx;exact⟨o',(hs.2 b (dH (g8 (bW e) I.ok.above))).trans e1⟩
  ·by_cases hj:j=i
   ·subst hj;rw[hi] at e1;cases e1;rw[zN X6] at e2;cases e2;exact⟨u,r,.inl ⟨hk,by simp⟩⟩
   ·rw[tW (Ne.symm hj)] at e2;obtain⟨u',r',q⟩:=hl j y v' e1 e2 e3;refine⟨u',r',?_⟩;rcases q with ⟨k,e⟩|⟨k,c,e,z⟩
    ·refine .inl ⟨k,?_⟩;have:y≠x:=λe=>hj (QW hN e1 (e▸hi));simp[this,e]
    ·exact .inr ⟨k,c,e,z.sameBut hs (yg y c e)⟩
  ·obtain⟨w',z⟩:=I.cell y c e;exact⟨w',z.sameBut hs (yg y c e)⟩
  ·obtain⟨e,n,ne,nf,d⟩:=I.pin p hp;exact⟨(hs.2 p.1 ne).trans e,n,ne,nf,d⟩
 ·have QX:X.fn x=true:=by
   rcases hf with z|z
   ·exact z
   ·rw[z] at hk;cases hk
  obtain⟨c,hc⟩:=I.ok.has x (.inl hk);obtain⟨w',z⟩:=I.cell x c hc;refine wpAny_storeName_cell I.ok.kind hk hc z (λh' lW hs=>?_);obtain⟨oc,X7,QZ⟩:=id z;refine h {s with heap:=h'} ⟨I.ok,I.os,I.bare,⟨λb o e n hb hx=>?_,λb o e n hb hx=>?_,I.base.free,λb o e hx=>?_,I.base.tups,I.base.jN,I.base.kJ⟩,⟨m,hn.sameBut hs (Ne.symm (yg x c hc)),λj y v' e1 e2 e3=>?_⟩,λy c' e=>?_,I.free,I.fP,λp hp=>?_,tracked ⟨oc,X7,I.fP x c hc⟩ hs,by simpa using I.len⟩ ⟨c,hs,.inr hc⟩
  ·exact(hs.2 b (dH (g8 (bW e) (I.ok.cab x c QX hc)))).trans (I.base.keep b o e n hb hx)
  ·obtain⟨sl,e1⟩:=I.base.slot b o e n hb hx;exact⟨sl,(hs.2 b (dH (g8 (bW e) (I.ok.cab x c QX hc)))).trans e1⟩
  ·obtain⟨o',e1⟩:=I.base.there b o e hx;exact⟨o',(hs.2 b (dH (g8 (bW e) (I.ok.cab x c QX hc)))).trans e1⟩
  ·by_cases hj:j=i
   ·subst hj;rw[hi] at e1;cases e1;rw[zN X6] at e2;cases e2;exact⟨u,r,.inr ⟨.inl hk,c,hc,lW⟩⟩
   ·rw[tW (Ne.symm hj)] at e2;obtain⟨u',r',q⟩:=hl j y v' e1 e2 e3;refine⟨u',r',?_⟩;rcases q with q|⟨k,c',e,z'⟩
    ·exact .inl q
    ·refine .inr ⟨k,c',e,z'.sameBut hs ?_⟩;rintro rfl;exact hj (QW hN e1 (I.ok.inj _ _ _ e hc▸hi))
  ·by_cases X8:c'=c
   ·subst X8;exact⟨_,lW⟩
   ·obtain⟨w2,z2⟩:=I.cell y c' e;exact⟨w2,z2.sameBut hs X8⟩
  ·obtain⟨e,n,ne,nf,d⟩:=I.pin p hp;refine⟨(hs.2 p.1 ?_).trans e,n,ne,nf,d⟩;intro q;rw[q,X7] at e;have q':oc=p.2:=dM e;exact d w' (by rw[<-q'];exact QZ)
theorem Ij{M:Model}{A:Around}{E:Value->Shared->Prop}{i:Nat}{x:Str}{v:V}{u:Value}{Q:Unit->Shared->Prop}(I:Inv X ak Z H s)(hN:X.N.Nodup)(hi:X.N[i]?=some x)(hx:Loc X.env.scope x)(r:RelV v u)
  (h:∀s',Inv X ak (Z.set i (some v)) H s'->Q () s') (hf:X.fn x=true\/X.env.scope.names.lookup x=some .local:=by first|exact .inl rfl|exact .inr rfl|assumption):wpAny M A (storeName X.env x u) Q E s:=
 X5 I hN hi hx r (λs' I' _=>h s' I') hf
theorem Inv.call'{s':Shared}{ch:List Addr}(I:Inv X ak Z H s)(ho:s'.os=s.os)(u:Un (frs X.stack) ch H H' s.heap s'.heap)(hok:iy X.prog X.w H' s'.heap)(hg:AllBare s'.gens)
  (wN:∀b∈ch,(b∈X.ex\/X.s₀.heap.get? b=none)/\b≠X.env.locals/\(∀x c,X.env.cells.lookup x=some c->c≠b)/\∀p∈X.pn++ak,p.1≠b):Inv X ak Z H' s':=by
 obtain⟨h',g',d',t',o'⟩:=s';have e:o'=s.os:=ho;subst e;exact I.call (g':=g') (t':=t') (d':=d') u hok hg wN
end
noncomputable abbrev XK:=Value->Option Addr->Hp->Prop
noncomputable abbrev St:=List (Option V)
noncomputable abbrev VK:=V->Hp->Prop
noncomputable abbrev TE:=St->Hp->VK->Prop
noncomputable abbrev TT:=St->Hp->(Bool->Hp->Prop)->Prop
noncomputable abbrev TA:=St->Hp->(List V->Hp->Prop)->Prop
structure Ends where
 nx:St->Hp->Prop
 rt:VK
 bk:St->Hp->Prop:=λ_ _=>False
 ct:St->Hp->Prop:=λ_ _=>False
noncomputable abbrev TS:=Ends->St->Hp->Prop
def EP(X:Cx)(ak:List (Addr×Obj))(Z:St)(Q:VK)(u:Value)(s':Shared):Prop:=∃v H',Inv X ak Z H' s'/\RelV v u/\Q v H'
def TP(X:Cx)(ak:List (Addr×Obj))(Z:St)(Q:Bool->Hp->Prop)(b:Bool)(s':Shared):Prop:=∃H',Inv X ak Z H' s'/\Q b H'
def AP(X:Cx)(ak:List (Addr×Obj))(Z:St)(Q:List V->Hp->Prop)(us:List Value)(s':Shared):Prop:=∃vs H',Inv X ak Z H' s'/\Vals vs us/\Q vs H'
def SP(X:Cx)(ak:List (Addr×Obj))(D:Ends)(f:Flow)(s':Shared):Prop:=
 match f with
 |.next=>∃Z' H',Inv X ak Z' H' s'/\D.nx Z' H'
 |.brk=>∃Z' H',Inv X ak Z' H' s'/\D.bk Z' H'
 |.cont=>∃Z' H',Inv X ak Z' H' s'/\D.ct Z' H'
 |.ret u=>∃v Z' H',Inv X ak Z' H' s'/\RelV v u/\D.rt v H'
def PE(X:Cx)(e:Expr)(t:TE):Prop:=
 ∀(ak:List (Addr×Obj)) (s:Shared) (Z:St) (H:Hp) (Q:VK),Inv X ak Z H s->t Z H Q->wpAny (model X.prog X.w) X.A (eval e X.env) (EP X ak Z Q) X.xe s
def PT(X:Cx)(e:Expr)(t:TT):Prop:=
 ∀(ak:List (Addr×Obj)) (s:Shared) (Z:St) (H:Hp) (Q:Bool->Hp->Prop),Inv X ak Z H s->t Z H Q->wpAny (model X.prog X.w) X.A (isTrue e X.env (eval e X.env)) (TP X ak Z Q) X.xe s
def PW(X:Cx)(e:Expr)(t:TT):Prop:=
 ∀(whole:Sem Value) (ak:List (Addr×Obj)) (s:Shared) (Z:St) (H:Hp) (Q:Bool->Hp->Prop),Inv X ak Z H s->t Z H Q->wpAny (model X.prog X.w) X.A (isTrue e X.env whole) (TP X ak Z Q) X.xe s
theorem Kac{X:Cx}{e:Expr}{t:TT}(h:PW X e t):PT X e t:=h _
def PA(X:Cx)(es:List Expr)(t:TA):Prop:=
 ∀(pos:Pos) (ak:List (Addr×Obj)) (s:Shared) (Z:St) (H:Hp) (Q:List V->Hp->Prop),Inv X ak Z H s->t Z H Q->wpAny (model X.prog X.w) X.A (spliced (backTo pos (starEach es X.env))) (AP X ak Z Q) X.xe s
def PS(X:Cx)(st:Stmt)(t:TS):Prop:=
 ∀(ak:List (Addr×Obj)) (s:Shared) (Z:St) (H:Hp) (D:Ends),Inv X ak Z H s->t D Z H->wpAny (model X.prog X.w) X.A (exec st X.env) (SP X ak D) X.xe s
def pK(X:Cx)(st:List Stmt)(t:TS):Prop:=
 ∀(ak:List (Addr×Obj)) (s:Shared) (Z:St) (H:Hp) (D:Ends),Inv X ak Z H s->t D Z H->wpAny (model X.prog X.w) X.A (execs st X.env) (SP X ak D) X.xe s
theorem aY{α:Type}{t:Sem α}{Q Q':α->Shared->Prop}{M:Model}{A:Around}{E:Value->Shared->Prop}{s:Shared}(h:wpAny M A t Q E s)(hQ:∀a s,Q a s->Q' a s):wpAny M A t Q' E s:=jM h hQ λ_ _ x=>x
section
variable {X:Cx}
noncomputable def Q0(i:Nat):TE:=λZ H Q=>∃v,Z[i]?=some (some v)/\Q v H
noncomputable def tC(v:V):TE:=λ_ H Q=>Q v H
theorem zlS{i:Nat}{x:Str}{pos:Pos}(hN:X.N[i]?=some x)(hv:QS X.env.scope x)(hd:(x==("__debug__" : Str))=false:=by decide)(mU:(x==("__classdict__" : Str))=false:=by decide):PE X (.Name x pos) (Q0 i):=by
 intro ak s Z H Q I h;obtain⟨v,e,h⟩:=h;obtain⟨m,hn,hl⟩:=I.loc;obtain⟨u,r,l⟩:=hl i x v hN e hv;have fin:EP X ak Z Q u s:=⟨v,H,I,r,h⟩;rcases l with ⟨hk,hm⟩|⟨hk,c,hc,z_⟩
 ·exact BK (Ho I.ok.kind hk hn hm fin) hd
 ·rcases hk with hk|hk
  ·exact BK (wpAny_loadName_cell I.ok.kind hk hc z_ fin) hd
  ·exact BK (wpAny_loadName_free I.ok.kind hk hc z_ fin mU) hd
theorem Q5{i j pos}:PE X (.Constant (.int i) j pos) (tC (.int i)):=λ_ _ _ H _ I h=>wpAny_Constant_int ⟨.int i,H,I.tok _,⟨_,rfl⟩,h⟩
theorem znp{b j pos}:PE X (.Constant (.bool b) j pos) (tC (.bl b)):=λ_ _ _ H _ I h=>Constant_bool ⟨.bl b,H,I,rfl,h⟩
theorem zlZ{j pos}:PE X (.Constant .none j pos) (tC .non):=λ_ _ _ H _ I h=>Constant_none ⟨.non,H,I,rfl,h⟩
theorem X_{x j pos}:PE X (.Constant (.str x) j pos) (tC (.str x)):=λ_ _ _ H _ I h=>Calls.Constant_str ⟨.str x,H,I.tok _,⟨_,rfl⟩,h⟩
def Gl(X:Cx)(x:Str):Prop:=X.env.kindOf x=some .globalImplicit
theorem Ik{E:Value->Shared->Prop}{ak:List (Addr×Obj)}{s:Shared}{Z:St}{H:Hp}{x:Str}{u:Value}{pos:Pos}{Q:Value->Shared->Prop}(I:Inv X ak Z H s)(hg:Gl X x)(hm:X.mg x=some u)(h:Q u s)
  (hd:(x==("__debug__" : Str))=false:=by decide):wpAny (model X.prog X.w) X.A (eval (.Name x pos) X.env) Q E s:=
 Calls.Name_function_global I.ok.kind hg (Calls.loadGlobal_global (by rw[I.ok.glob];exact I.mod.glob.keeps I.bk) hm h) hd
theorem Aa{E:Value->Shared->Prop}{ak:List (Addr×Obj)}{s:Shared}{Z:St}{H:Hp}{x:Str}{u:Value}{pos:Pos}{Q:Value->Shared->Prop}(I:Inv X ak Z H s)(hg:Gl X x)(hm:X.mg x=none)(hv:bootBuiltins x=some u)(h:Q u s)
  (hn:x≠"__name__":=by decide) (hd:(x==("__debug__" : Str))=false:=by decide):wpAny (model X.prog X.w) X.A (eval (.Name x pos) X.env) Q E s:=by
 obtain⟨mb,h1,h2⟩:=I.mod.blt;exact Calls.Name_function_global I.ok.kind hg (Calls.loadGlobal_builtin (by rw[I.ok.glob];exact I.mod.glob.keeps I.bk) hm (by rw[I.ok.blt];exact h1.keeps I.bk) ((h2 x hn).trans hv) h) hd
theorem Yb{x:Str}{v:V}{u:Value}{pos:Pos}(hg:Gl X x)(hm:X.mg x=some u)(r:RelV v u)(hd:(x==("__debug__" : Str))=false:=by decide):PE X (.Name x pos) (tC v):=
 λ_ _ _ H _ I h=>Ik I hg hm ⟨v,H,I,r,h⟩ hd
variable {a b:Expr}{ta tb:TE}{pos:Pos}
def PC(X:Cx)(op:CmpOp)(a b:Expr)(t:TE):Prop:=
 ∀(ak:List (Addr×Obj)) (s:Shared) (Z:St) (H:Hp) (Q:VK),Inv X ak Z H s->t Z H Q->
  wpAny (model X.prog X.w) X.A (eval a X.env) (λv s₁=>wpAny (model X.prog X.w) X.A (eval b X.env) (λu s₂=>wpAny (model X.prog X.w) X.A (compareOp op v u) (EP X ak Z Q) X.xe s₂) X.xe s₁) X.xe s
theorem uO(b:Expr){op:CmpOp}(h:op≠.In)(h2:op≠.NotIn):behindInMarks op b=false:=by
 have e1:(op==CmpOp.In)=false:=by cases op<;>first|rfl|exact absurd rfl h
 have e2:(op==CmpOp.NotIn)=false:=by cases op<;>first|rfl|exact absurd rfl h2
 cases b<;>simp[behindInMarks,e1,e2]
noncomputable def Q6(ta:TE):TE:=λZ H Q=>ta Z H λx H1=>Q (.bl (decide (x=.non))) H1
theorem RelV.uP{x:V}{v:Value}(r:RelV x v):(v==Value.none)=decide (x=.non):=by
 cases x with
 |non=>cases r;rfl
 |bl _=>cases r;rfl
 |int _=>obtain⟨t,rfl⟩:=r;rfl
 |str _=>obtain⟨t,rfl⟩:=r;rfl
 |Gb _=>obtain⟨t,rfl⟩:=r;rfl
 |flt _=>obtain⟨t,rfl⟩:=r;rfl
 |ref _=>cases r;rfl
 |ty _=>cases r;rfl
theorem zme{j pos'}(ha:PE X a ta):PC X .Is a (.Constant .none j pos') (Q6 ta):=by
 intro ak s Z H Q I h;refine aY (ha ak s Z H _ I h) λv s1 hx=>eF hx λx H1 I1 r1 q1=>?_;exact Constant_none (is_none_gen ⟨.bl _,H1,I1,by rw[r1.uP];rfl,q1⟩)
noncomputable def tB(t:TE):TT:=λZ H Q=>t Z H λx H1=>∃c,x=.bl c/\Q c H1
theorem zk2{op:CmpOp}{t:TE}(h:PC X op a b t)(h1:behindInMarks op b=false:=by first|exact uO _ (by decide) (by decide)|rfl):PE X (.Compare a [op] [b] pos) t:=λak s Z H Q I hw=>wpAny_Compare1 (h ak s Z H Q I hw) h1
theorem zlN{e:Expr}{t:TE}(h:PE X e t)(he:∀whole,isTrue e X.env whole=(do let v <-whole;standAt e.pos;holding [v] (truthy v)):=by intro _;rfl):PT X e (tB t):=by
 intro ak s Z H Q I hw;refine isTrue_plain (aY (h ak s Z H _ I hw) λv s1 hx=>eF hx λx H1 I1 r1 q1=>?_) (he _);obtain⟨d,rfl,q⟩:=q1;cases r1;exact qK ⟨H1,I1,q⟩
variable {tA NT:TT}{rest:List Expr}
noncomputable def Q7(t u:TT):TT:=λZ H Q=>t Z H λc H1=>if c=true then u Z H1 Q else Q false H1
noncomputable def tOr(t u:TT):TT:=λZ H Q=>t Z H λc H1=>if c=true then Q true H1 else u Z H1 Q
noncomputable def Q8(t:TT):TT:=λZ H Q=>t Z H λc H1=>Q (!c) H1
theorem zkk(ha:PT X a tA):PW X (.BoolOp .And [a] pos) tA:=by
 intro wh ak s Z H Q I h;refine isTrue_and (aY (ha ak s Z H Q I h) λc s1 e=>?_);cases c with
 |true=>exact isTrue_and_nil e
 |false=>exact e
theorem zmW(ha:PT X a tA):PW X (.BoolOp .Or [a] pos) tA:=by
 intro wh ak s Z H Q I h;refine isTrue_or (aY (ha ak s Z H Q I h) λc s1 e=>?_);cases c with
 |false=>exact isTrue_or_nil e
 |true=>exact e
theorem zkX(ha:PT X a tA)(hb:PW X (.BoolOp .And (b::rest) pos) NT):PW X (.BoolOp .And (a::b::rest) pos) (Q7 tA NT):=by
 intro wh ak s Z H Q I h;refine isTrue_and (aY (ha ak s Z H _ I h) λc s1 hx=>xZ hx λH1 I1 q1=>?_);cases c with
 |true=>exact hb wh ak s1 Z H1 Q I1 q1
 |false=>exact⟨H1,I1,q1⟩
theorem znB(ha:PT X a tA)(hb:PW X (.BoolOp .Or (b::rest) pos) NT):PW X (.BoolOp .Or (a::b::rest) pos) (tOr tA NT):=by
 intro wh ak s Z H Q I h;refine isTrue_or (aY (ha ak s Z H _ I h) λc s1 hx=>xZ hx λH1 I1 q1=>?_);cases c with
 |true=>exact⟨H1,I1,q1⟩
 |false=>exact hb wh ak s1 Z H1 Q I1 q1
theorem zl5(ha:PT X a tA):PT X (.UnaryOp .Not a pos) (Q8 tA):=by
 intro ak s Z H Q I h;exact isTrue_not (ha ak s Z H (λc H1=>Q (!c) H1) I h)
noncomputable def Il(ta tb:TE):TE:=λZ H Q=>ta Z H λx H1=>∃c,x=.bl c/\if c=true then tb Z H1 Q else Q (.bl false) H1
noncomputable def Im(ta:TE):TE:=λZ H Q=>ta Z H λx H1=>∃c,x=.bl c/\Q (.bl (!c)) H1
theorem zmH{op}{t:TE}(h:PE X a t):PE X (.BoolOp op [a] pos) t:=λak s Z H Q I hw=>BoolOp_one (h ak s Z H Q I hw)
theorem zl3(ha:PE X a ta)(hb:PE X (.BoolOp .And (b::rest) pos) tb):PE X (.BoolOp .And (a::b::rest) pos) (Il ta tb):=by
 intro ak s Z H Q I h;refine BoolOp_and (aY (ha ak s Z H _ I h) λv s1 hx=>eF hx λx H1 I1 r1 q1=>?_);obtain⟨c,rfl,q1⟩:=q1;cases r1;refine qK ?_;cases c with
 |true=>exact hb ak s1 Z H1 Q I1 q1
 |false=>exact⟨.bl false,H1,I1,rfl,q1⟩
theorem zlb(ha:PE X a ta):PE X (.UnaryOp .Not a pos) (Im ta):=by
 intro ak s Z H Q I h;refine UnaryOp_ (aY (ha ak s Z H _ I h) λv s1 hx=>eF hx λx H1 I1 r1 q1=>?_);obtain⟨c,rfl,q1⟩:=q1;cases r1;exact not_of (qK ⟨.bl (!c),H1,I1,rfl,q1⟩)
end
def dI(K:W.Frag)(H:Hp)(a:Addr)(xs:List V):Prop:=
 Rd H a (.lst xs) \/
  ∃(o:Obj) (its:Array Value) (n:Nat),K.lookup a=some o/\o.cls=.type "list"/\o.dict=none/\o.data=.seq its n/\its.size<=sizeLine/\Vals xs its.toList
def gj(K:W.Frag)(H:Hp)(a:Addr)(xs:List V):Prop:=
 Rd H a (.tup xs) \/
  ∃(o:Obj) (its:Array Value) (n:Nat),K.lookup a=some o/\o.cls=.type "tuple"/\o.data=.seq its n/\its.size<=sizeLine/\Vals xs its.toList
noncomputable def Q9:Value->Option V
 |.none=>some .non
 |.bool b=>some (.bl b)
 |.int i _=>some (.int i)
 |.str x _=>some (.str x)
 |.bytes b _=>some (.Gb b)
 |.float b _=>some (.flt b)
 |.ref a=>some (.ref a)
 |.type n=>some (.ty n)
 |_=>none
theorem RelV.abs{x:V}{u:Value}(r:RelV x u):Q9 u=some x:=by
 cases x with
 |non=>cases r;rfl
 |bl _=>cases r;rfl
 |int _=>obtain⟨t,rfl⟩:=r;rfl
 |str _=>obtain⟨t,rfl⟩:=r;rfl
 |Gb _=>obtain⟨t,rfl⟩:=r;rfl
 |flt _=>obtain⟨t,rfl⟩:=r;rfl
 |ref _=>cases r;rfl
 |ty _=>cases r;rfl
theorem RelV.inj{x y:V}{u:Value}(r:RelV x u)(q:RelV y u):x=y:=dM (r.abs.symm.trans q.abs)
theorem Vals.inj{xs ys:List V}{us:List Value}(h:Vals xs us)(h':Vals ys us):xs=ys:=by
 induction h generalizing ys with
 |nil=>cases h';rfl
 |cons r _ ih=>
  cases h' with
  |cons r' t'=>rw[r.inj r',ih t']
section
variable {X:Cx}{ak:List (Addr×Obj)}{Z:St}{H:Hp}{s:Shared}{a:Addr}{xs ys:List V}
theorem dI.of{K:W.Frag}(h:H a=some (.lst xs)):dI K H a xs:=.inl (.inl h)
theorem Inv.list(I:Inv X ak Z H s)(h:dI X.K H a xs):∃its:List Value,Vals xs its/\PlainL s.heap a its.toArray/\xs.length<=sizeLine:=by
 rcases h with h|⟨o,its,n,hk,hc,hd,hs,hz,r⟩
 ·obtain⟨z,its,n,r,e⟩:=h.ok I.hok;exact⟨its,r,⟨_,n,e,rfl,rfl,rfl⟩,z⟩
 ·refine⟨its.toList,r,⟨o,n,I.sG a o hk,hc,hd,by simpa using hs⟩,?_⟩;have e:=r.length;simp only[Bt] at e
  lia
theorem Inv.tuple(I:Inv X ak Z H s)(h:gj X.K H a xs):∃its:List Value,Vals xs its/\IsTup s.heap a its.toArray/\xs.length<=sizeLine:=by
 rcases h with h|⟨o,its,n,hk,hc,hs,hz,r⟩
 ·obtain⟨z,its,r,p⟩:=h.ok I.hok;exact⟨its,r,p,z⟩
 ·refine⟨its.toList,r,⟨o,I.sG a o hk,hc,n,by simpa using hs⟩,?_⟩;have e:=r.length;simp only[Bt] at e
  lia
theorem Inv.ou(I:Inv X ak Z H s)(h:dI X.K H a xs)(h':dI X.K H a ys):xs=ys:=by
 obtain⟨its,r,⟨o,n,e,_,_,d⟩,_⟩:=I.list h;obtain⟨its',r',⟨o',n',e',_,_,d'⟩,_⟩:=I.list h';rw[e] at e';cases e';rw[d] at d';injection d' with d1 _;have:its=its':=by simpa using rZ Array.toList d1
 subst this;exact r.inj r'
theorem Inv.mq(I:Inv X ak Z H s)(h:gj X.K H a xs)(h':gj X.K H a ys):xs=ys:=by
 obtain⟨its,r,⟨o,e,_,n,d⟩,_⟩:=I.tuple h;obtain⟨its',r',⟨o',e',_,n',d'⟩,_⟩:=I.tuple h';rw[e] at e';cases e';rw[d] at d';injection d' with d1 _;have:its=its':=by simpa using rZ Array.toList d1
 subst this;exact r.inj r'
end
section
variable {X:Cx}{ak:List (Addr×Obj)}{Z:St}{H:Hp}{s:Shared}{E:Value->Shared->Prop}
end
section
variable {X:Cx}{st:Stmt}{rest:List Stmt}{t u:TS}{e:Expr}{te:TE}{pos:Pos}
noncomputable def Io:TS:=λD Z H=>D.nx Z H
noncomputable def Q_(t u:TS):TS:=λD Z H=>t {D with nx:=u D} Z H
theorem zkB:pK X [] Io:=λ_ _ Z H _ I h=>Hz ⟨Z,H,I,h⟩
theorem zii(h1:PS X st t)(h2:pK X rest u):pK X (st::rest) (Q_ t u):=by
 intro ak s Z H D I h;refine wpAny_execs_cons (aY (h1 ak s Z H {D with nx:=u D} I h) λf s1 q=>?_);cases f with
 |next=>
  obtain⟨Z',H',I',q⟩:=q;exact h2 ak s1 Z' H' D I' q
 |ret v=>exact q
 |brk=>exact q
 |cont=>exact q
theorem Inv.quiet{ak:List (Addr×Obj)}{Z:St}{H:Hp}{s:Shared}(I:Inv X ak Z H s):interactive X.env=false:=by simp[interactive,I.ok.kind]
noncomputable def Ip(te:TE):TS:=λD Z H=>te Z H λ_ H1=>D.nx Z H1
theorem zkC(he:PE X e te)(hs:swapsWith e none pos.line X.env=pure false:=by rfl):PS X (.Expr e pos) (Ip te):=by
 intro ak s Z H D I h;exact wpAny_Expr_any (aY (he ak s Z H _ I h) λv s1 hx=>eF hx λx H1 I1 r1 q1=>⟨Z,H1,I1,q1⟩) I.quiet hs
noncomputable def Ra(te:TE):TS:=λD Z H=>te Z H D.rt
theorem zmP(he:PE X e te):PS X (.Return (some e) pos) (Ra te):=by
 intro ak s Z H D I h;exact wpAny_Return_some (aY (he ak s Z H _ I h) λv s1 hx=>eF hx λx H1 I1 r1 q1=>⟨x,Z,H1,I1,r1,q1⟩)
noncomputable def Rb(c:TT)(t u:TS):TS:=λD Z H=>c Z H λb H1=>if b=true then t D Z H1 else u D Z H1
theorem znE{c:Expr}{a b:List Stmt}{tc:TT}(hc:PT X c tc)(ha:pK X a t)(hb:pK X b u):PS X (.If c a b pos) (Rb tc t u):=by
 intro ak s Z H D I h;refine wpAny_If (aY (hc ak s Z H _ I h) λd s1 hx=>xZ hx λH1 I1 q1=>?_);cases d with
 |true=>exact ha ak s1 Z H1 D I1 q1
 |false=>exact hb ak s1 Z H1 D I1 q1
end
noncomputable abbrev TG:=V->St->Hp->(St->Hp->Prop)->Prop
noncomputable abbrev Ce:=List V->St->Hp->(St->Hp->Prop)->Prop
def PG(X:Cx)(target:Expr)(t:TG):Prop:=
 ∀(ak:List (Addr×Obj)) (s:Shared) (Z:St) (H:Hp) (v:V) (u:Value) (Q:St->Hp->Prop),Inv X ak Z H s->RelV v u->t v Z H Q->
  wpAny (model X.prog X.w) X.A (assign target X.env u) (λ_ s'=>∃Z' H',Inv X ak Z' H' s'/\Q Z' H') X.xe s
def NZ(X:Cx)(ts:List Expr)(t:Ce):Prop:=
 ∀(ak:List (Addr×Obj)) (s:Shared) (Z:St) (H:Hp) (vs:List V) (us:List Value) (Q:St->Hp->Prop),Inv X ak Z H s->Vals vs us->t vs Z H Q->
  wpAny (model X.prog X.w) X.A (assignInOrder ((assignEach ts X.env).map (·.2)) us) (λ_ s'=>∃Z' H',Inv X ak Z' H' s'/\Q Z' H') X.xe s
noncomputable abbrev Cg:=V->V->V->Hp->(Hp->Prop)->Prop
def Ir(X:Cx)(t:Cg):Prop:=
 ∀(ak:List (Addr×Obj)) (s:Shared) (Z:St) (H:Hp) (o i v:V) (ov iv u:Value) (Q:Hp->Prop),Inv X ak Z H s->RelV o ov->RelV i iv->RelV v u->t o i v H Q->
  wpAny (model X.prog X.w) X.A (setItem ov iv u) (λ_ s'=>∃H',Inv X ak Z H' s'/\Q H') X.xe s
section
variable {X:Cx}{pos:Pos}
noncomputable def eZ(i:Nat):TG:=λv Z H Q=>Q (Z.set i (some v)) H
theorem N5{i:Nat}{x:Str}(hN:X.N.Nodup)(hi:X.N[i]?=some x)(hx:Loc X.env.scope x)(hf:X.fn x=true\/X.env.scope.names.lookup x=some .local:=by first|exact .inl rfl|exact .inr rfl|assumption):PG X (.Name x pos) (eZ i):=by
 intro ak s Z H v u Q I r h;exact wpAny_assign_Name (Ij I hN hi hx r (λs' I'=>⟨_,H,I',h⟩) hf)
noncomputable def uQ:Ce:=λvs Z H Q=>vs=[]/\Q Z H
noncomputable def iG(t:TG)(u:Ce):Ce:=λvs Z H Q=>∃v r,vs=v::r/\t v Z H λZ' H'=>u r Z' H' Q
theorem zjF:NZ X [] uQ:=by
 intro ak s Z H vs us Q I r h;obtain⟨e,h⟩:=h;subst e;cases r;exact assignInOrder_nil ⟨Z,H,I,h⟩
theorem Yc{e:Expr}{es:List Expr}{t:TG}{u:Ce}(h1:PG X e t)(h2:NZ X es u)
  (hs:(assignEach (e::es) X.env).map (·.2)=assign e X.env::(assignEach es X.env).map (·.2):=by rfl):NZ X (e::es) (iG t u):=by
 intro ak s Z H vs us Q I r h;obtain⟨v,vr,e1,h⟩:=h;subst e1;cases r with
 |cons r rr=>
  rw[hs];refine assignInOrder_cons (aY (h1 ak s Z H _ _ _ I r h) λ_ s1 ⟨Z1,H1,I1,q1⟩=>?_);exact h2 ak s1 Z1 H1 _ _ Q I1 rr q1
noncomputable def uR(K:W.Frag)(n:Nat)(t:Ce):TG:=λv Z H Q=>∃a xs,v=.ref a/\gj K H a xs/\xs.length=n/\t xs Z H Q
theorem zlm{es:List Expr}{k:Nat}{t:Ce}{n:Nat}(hc:X.aj=true)(h:NZ X es t)
  (hn:(assignEach es X.env).length=n:=by rfl) (qQ:(assignEach es X.env).findIdx? (·.1)=none:=by rfl):PG X (.Tuple es k pos) (uR X.K n t):=by
 intro ak s Z H v u Q I r hw;obtain⟨a,xs,e1,hq,hl,hw⟩:=hw;subst e1;cases r;obtain⟨its,rv,ht,hz⟩:=I.tuple hq;refine assign_Tuple_tuple (I.ok.hd hc) ht (by simp[hn,<-hl,rv.length]) qQ λh' hx=>?_;have I1:Inv X ak Z H {s with heap:=h'}:=I.kept (t':=s.toks) λb o e=>hx b o (dH (bW e)) e;exact h ak _ Z H xs _ Q I1 (by simpa using rv) hw
noncomputable def Rf(to ti:TE)(t:Cg):TG:=λv Z H Q=>to Z H λo H1=>ti Z H1 λi H2=>t o i v H2 λH3=>Q Z H3
theorem zk3{o i:Expr}{to ti:TE}{t:Cg}(ho:PE X o to)(hi:PE X i ti)(hs:Ir X t)
  (ha:∀v,assign (.Subscript o i pos) X.env v=(do
   let ov <-holding [v] (eval o X.env)
   let iv <-holding [v,ov] (eval i X.env)
   standAt pos
   holding [v,ov,iv] (setItem ov iv v)
   release [v,ov,iv] []):=by intro _;rfl):PG X (.Subscript o i pos) (Rf to ti t):=by
 intro ak s Z H v u Q I r h;rw[ha];refine aA (lJ (aY (ho ak s Z H _ I h) λov s1 hx=>eF hx λx H1 I1 r1 q1=>?_));refine aA (lJ (aY (hi ak s1 Z H1 _ I1 q1) λiv s2 hx=>eF hx λy H2 I2 r2 q2=>?_));refine aA (uK (aA (lJ (aY (hs ak s2 Z H2 x y v ov iv u _ I2 r1 r2 r q2) λ_ s3 hx=>xZ hx λH3 I3 q3=>?_))));exact wpAny_release ⟨Z,H3,I3,q3⟩
noncomputable def Cj(te:TE)(g:TG):TS:=λD Z H=>te Z H λx H1=>g x Z H1 D.nx
theorem Yd{tg e:Expr}{te:TE}{g:TG}(he:PE X e te)(hg:PG X tg g)(hs:swapsWithSole [tg] e pos.line X.env=pure false:=by rfl)(hw:swappedStores [tg] e X.env=pure none:=by rfl)
  (h1:(assignEach [tg] X.env).map (·.2)=[assign tg X.env]:=by rfl):PS X (.Assign [tg] e pos) (Cj te g):=by
 intro ak s Z H D I h;refine wpAny_Assign_stores (aY (he ak s Z H _ I h) λv s1 hx=>eF hx λx H1 I1 r1 q1=>?_) hs hw;rw[h1];exact aY (hg ak s1 Z H1 x v _ I1 r1 q1) λ_ s2 q=>q
theorem zlE{i:Nat}{x:Str}{e:Expr}{te:TE}{pos':Pos}(hN:X.N.Nodup)(hi:X.N[i]?=some x)(hx:Loc X.env.scope x)(he:PE X e te)(hs:swapsWith e (some (.Name x pos')) pos.line X.env=pure false:=by rfl)(hf:X.fn x=true\/X.env.scope.names.lookup x=some .local:=by first|exact .inl rfl|exact .inr rfl|assumption) :
  PS X (.Assign [.Name x pos'] e pos) (Cj te (eZ i)):=by
 intro ak s Z H D I h;refine wpAny_Assign_Name (aY (he ak s Z H _ I h) λv s1 ⟨y,H1,I1,r1,q1⟩=>?_) hs;exact Ij I1 hN hi hx r1 (λs2 I2=>⟨_,H1,I2,q1⟩) hf
noncomputable def Rg(i j:Nat)(ta:TA):TS:=λD Z H=>ta Z H λvs H1=>∃v w,vs=[v,w]/\D.nx ((Z.set i (some v)).set j (some w)) H1
theorem zlB{i j:Nat}{x y:Str}{a b:Expr}{ta:TA}{px py pt:Pos}{kt k2 uU}(hc:X.aj=true)(hN:X.N.Nodup)(hi:X.N[i]?=some x)(hj:X.N[j]?=some y)(lN:i≠j)
  (hx:X.env.scope.names.lookup x=some .local) (hy:X.env.scope.names.lookup y=some .local) (ha:PA X [a,b] ta)
  (hw:swappedStores [.Tuple [.Name x px,.Name y py] kt pt] (.Tuple [a,b] k2 uU) X.env=pure (some [x,y]))
  (hs:swapsWithSole [.Tuple [.Name x px,.Name y py] kt pt] (.Tuple [a,b] k2 uU) pos.line X.env=pure false:=by rfl) :
  PS X (.Assign [.Tuple [.Name x px,.Name y py] kt pt] (.Tuple [a,b] k2 uU) pos) (Rg i j ta):=by
 intro ak s Z H D I h;rw[exec_Assign_arm];refine aA (uK ?_);rw[hs];refine aA (aL ?_);rw[if_neg (by decide)];refine aA (Tuple_ (aY (ha _ ak s Z H _ I h) λus s1 ⟨vs,H1,I1,r1,q1⟩=>?_));obtain⟨v,w,e1,q1⟩:=q1;subst e1;obtain⟨u1,u2,rfl,rv,oA⟩ : ∃u1 u2,us=[u1,u2]/\RelV v u1/\RelV w u2:=by
  cases r1 with
  |cons p q=>
   cases q with
   |cons p' q'=>
    cases q';exact⟨_,_,rfl,p,p'⟩
 refine pI ?_ (by show 2<=sizeLine;decide);have I2:Inv X ak Z H1 {s1 with heap:=s1.heap.push {cls:=.type "tuple",data:=.seq [u1,u2].toArray}}:=I1.kept (t':=s1.toks) λb o e=>cG _ e;rw[hw];refine aA (aL ?_);show wpAny (model X.prog X.w) X.A (do rule "assign.swapped-stores";let items <-unpackItems (.ref s1.heap.objs.size) 2 none;assignInOrder [λv=>bindName X.env y v,λv=>bindName X.env x v] items.reverse;pure Flow.next) _ _ _;refine aA (Ga (aA (unpackItems_tuple (items:=#[u1,u2]) (I.ok.hd hc) (IsTup.new s1.heap _) λh' Iu=>?_)));have I3:=I2.kept (h':=h') (t':=s1.toks) λb o e=>Iu b o (dH (bW e)) e;show wpAny _ _ (assignInOrder [λv=>bindName X.env y v,λv=>bindName X.env x v] [u2,u1] >>= λ_=>pure Flow.next) _ _ _;refine aA (assignInOrder_cons (wpAny_bindName (Ij I3 hN hj (.inl hy) oA (λs2 I4=>?_) (.inr hy))));refine assignInOrder_cons (wpAny_bindName (Ij I4 hN hi (.inl hx) rv (λs3 I5=>assignInOrder_nil (aL ?_)) (.inr hx)));rw[List.set_comm _ _ (Ne.symm lN)] at I5;exact⟨_,H1,I5,q1⟩
end
section
variable {X:Cx}{pos:Pos}
noncomputable def Cm(c:TT)(tb:TS):TS:=λD Z H=>∃W:Nat->St->Hp->Prop,(∃m,W m Z H)/\∀m Z H,W m Z H->
 c Z H λb H1=>if b=true then ∃N:St->Hp->Prop,(∀Z' H',N Z' H'->∃m',m'<m/\W m' Z' H')/\tb {D with nx:=N,ct:=N,bk:=D.nx} Z H1 else D.nx Z H1
theorem zhx{c:Expr}{body:List Stmt}{tc:TT}{tb:TS}(hp:PassesOwn (model X.prog X.w) X.A X.env X.xe)(hc:PT X c tc)(hb:pK X body tb):PS X (.While c body [] pos) (Cm tc tb):=by
 intro ak s Z H D I h;obtain⟨W,⟨m0,w0⟩,turn⟩:=h;refine wpAny_While (codeAny_whileLoop (λn s'=>∃Z' H',Inv X ak Z' H' s'/\W n Z' H') ?_ m0 ⟨Z,H,I,w0⟩);rintro n s1 ⟨Z1,H1,I1,w1⟩;refine BJ hp (aY (hc ak s1 Z1 H1 _ I1 (turn n Z1 H1 w1)) λb s2 hx=>xZ hx λH2 I2 q2=>?_);cases b with
 |true=>
  obtain⟨N,hN,q2⟩:=q2;rw[if_pos rfl];refine BJ hp (aY (hb ak s2 Z1 H2 _ I2 q2) λf s3 q3=>?_);cases f with
  |next=>
   obtain⟨Z3,H3,I3,n3⟩:=q3;obtain⟨m',hm,w3⟩:=hN Z3 H3 n3;exact⟨m',hm,Z3,H3,I3,w3⟩
  |cont=>
   obtain⟨Z3,H3,I3,n3⟩:=q3;obtain⟨m',hm,w3⟩:=hN Z3 H3 n3;exact⟨m',hm,Z3,H3,I3,w3⟩
  |brk=>exact q3
  |ret v=>exact q3
 |false=>
  rw[if_neg Nf];exact Hz ⟨Z1,H2,I2,q2⟩
end
structure It where
 go:Nat->Hp->Prop
 Cp:Nat->Hp->V->Hp->Prop
 stop:Nat->Hp->Prop
def je(X:Cx)(ak:List (Addr×Obj))(H:Hp)(b:Addr):Prop:=
 H b=none/\b≠X.env.locals/\b∉X.fs/\(b∈X.ex\/X.s₀.heap.objs.size<=b)/\(∀x c,X.env.cells.lookup x=some c->c≠b)/\∀p∈X.pn++ak,p.1≠b
theorem Inv.yj{X:Cx}{ak:List (Addr×Obj)}{Z:St}{H H':Hp}{s:Shared}{b:Addr}(I:Inv X ak Z H s)(hb:s.heap.objs.size<=b)(hn:H' b=none):je X ak H' b:=by
 refine⟨hn,wK (g8 I.lt hb),I.QV hb,.inr (p7 I.sz hb),λx c e z=>?_,λp hp z=>?_⟩
 ·obtain⟨v,q⟩:=I.cell x c e;exact absurd (g8 q.lt (by rw[z];exact hb)) (nW _)
 ·exact absurd (g8 (bW (I.pin p hp).1) (by rw[z];exact hb)) (nW _)
structure Turn(P:Program)(w:World)(K:W.Frag)(tg:Expr)(cJ:It)(fp:List Addr)(it:Addr)(tn:Nat->Heap->Prop):Prop where
 mem:it∈fp
 obj:∀i h,tn i h->∀b∈fp,∃o,h.get? b=some o/\∀v,o.data≠.cell v
 keep:∀i h h',tn i h->(∀b∈fp,∀o,h.get? b=some o->h'.get? b=some o)->tn i h'
 item:∀(X:Cx),X.prog=P->X.w=w->X.K=K->X.aj=true->∀(i:Nat) (ak:List (Addr×Obj)) (s:Shared) (Z:St) (H:Hp) (E:Value->Shared->Prop),Inv X ak Z H s->(∀b∈fp,je X ak H b)->tn i s.heap->cJ.go i H->
  wpAny (model P w) X.A (pyNext (.ref it)) (λr s1=>∃u,r=some u /\
   wpAny (model P w) X.A (letOwnedTupleGo tg (.ref it) u) (λ_ s2=>∃x H',Inv X ak Z H' s2/\RelV x u/\cJ.Cp i H x H'/\tn (i+1) s2.heap/\∀b∈fp,H' b=none) E s1) E s
 done:∀(X:Cx),X.prog=P->X.w=w->X.K=K->X.aj=true->∀(i:Nat) (ak:List (Addr×Obj)) (s:Shared) (Z:St) (H:Hp) (E:Value->Shared->Prop),Inv X ak Z H s->(∀b∈fp,je X ak H b)->tn i s.heap->cJ.stop i H->
  wpAny (model P w) X.A (pyNext (.ref it)) (λr s1=>r=none/\Inv X ak Z H s1) E s
 self:∀(A:Around) (i:Nat) (s:Shared) (Q:Value->Shared->Prop) (E:Value->Shared->Prop),tn i s.heap->Q (.ref it) s->wpAny (model P w) A (pyIter (.ref it)) Q E s
noncomputable abbrev TI:=St->Hp->(It->Hp->Prop)->Prop
def PIE(X:Cx)(ak:List (Addr×Obj))(Z:St)(tg:Expr)(R:It->Hp->Prop)(itv:Value)(s2:Shared):Prop:=
 ∃(it:Addr) (fp:List Addr) (tn:Nat->Heap->Prop) (cJ:It) (H':Hp),itv=.ref it/\Inv X ak Z H' s2/\Turn X.prog X.w X.K tg cJ fp it tn/\tn 0 s2.heap/\(∀b∈fp,je X ak H' b)/\R cJ H'
def PI(X:Cx)(tg iter:Expr)(wi:TI):Prop:=
 ∀(ak:List (Addr×Obj)) (s:Shared) (Z:St) (H:Hp) (R:It->Hp->Prop),Inv X ak Z H s->wi Z H R->
  wpAny (model X.prog X.w) X.A (eval iter X.env) (λv s1=>wpAny (model X.prog X.w) X.A (pyIter v) (PIE X ak Z tg R) X.xe s1) X.xe s
theorem Rh{M:Model}{A:Around}{E:Value->Shared->Prop}{s:Shared}{tg:Expr}{it:Addr}{u:Value}{o:Obj}{n:String}{vs:Array Value}{Q:Unit->Shared->Prop}(ho:s.heap.get? it=some o)(hc:o.cls=.type n)(hd:o.data=.fields vs)
  (hn:["enumerate","zip","dict_itemiterator","dict_reverseitemiterator","odict_iterator","itertools.zip_longest","itertools.pairwise"].contains n=false) (hQ:Q () s):wpAny M A (letOwnedTupleGo tg (.ref it) u) Q E s:=by
 unfold letOwnedTupleGo;cases tg<;>first
  |exact aL hQ
  | (cases u<;>first
    |exact aL hQ
    | (refine aA (wpAny_load ho ?_)
       rw[hc,hd];show wpAny M A (if (["enumerate","zip","dict_itemiterator","dict_reverseitemiterator","odict_iterator","itertools.zip_longest","itertools.pairwise"].contains n&&vs[0]?==some (rawInt _))=true then _ else _) Q E s;rw[if_neg (by intro h;rw[hn,HF] at h;cases h)];exact aL hQ))
noncomputable def N6(K:W.Frag)(a:Addr):It:=
 ⟨λi H=>∃xs x,dI K H a xs/\xs[i]?=some x,λi H x H'=>H'=H/\∀xs,dI K H a xs->xs[i]?=some x,λi H=>∃xs,dI K H a xs/\xs.length<=i⟩
noncomputable def Ri(K:W.Frag)(a:Addr):It:=
 ⟨λi H=>∃xs x,gj K H a xs/\xs[i]?=some x,λi H x H'=>H'=H/\∀xs,gj K H a xs->xs[i]?=some x,λi H=>∃xs,gj K H a xs/\xs.length<=i⟩
noncomputable def Iv(lo:Int)(n:Nat):It:=⟨λi _=>i<n,λi H x H'=>H'=H/\x=.int (lo+i),λi _=>n<=i⟩
theorem zgJ{P:Program}{w:World}{K:W.Frag}{tg:Expr}(a it:Addr):Turn P w K tg (N6 K a) [it] it (λi h=>h.IsListIter it a i) where
 mem:=by simp
 obj:=λi h st b hb=>by
  have e:b=it:=by simpa using hb
  subst e;obtain⟨o,e,c,d⟩:=st;exact⟨o,e,λv z=>by rw[d] at z;cases z⟩
 keep:=λi h h' st k=>st.at λo e=>k it (by simp) o e
 item:=by
  intro X hP hw hK hc i ak s Z H E I hf st hg;subst hP hw hK;obtain⟨xs,x,hq,hx⟩:=hg;obtain⟨its,rv,p,hz⟩:=I.list hq;obtain⟨u,hu,ru⟩:=rv.get hx;obtain⟨f0,f1,f2,f3,f4,f5⟩:=hf it (by simp);refine wpAny_pyNext_list_item st p.isList (x:=u) (by simpa using hu) λh' st' sb=>?_;have I1:Inv X ak Z H {s with heap:=h'}:=I.turned (t':=s.toks) (λb o hb e=>(sb.2 b hb).trans e) f0 f1 f3 f4 f5;obtain⟨o,e,c,d⟩:=id st';exact⟨u,rfl,Rh (s:={s with heap:=h'}) e c d (by decide) ⟨x,H,I1,ru,⟨rfl,λys hy=>by rw[I.ou hy hq];exact hx⟩,st',λb hb=>(hf b hb).1⟩⟩
 done:=by
  intro X hP hw hK hc i ak s Z H E I hf st hg;subst hP hw hK;obtain⟨xs,hq,hx⟩:=hg;obtain⟨its,rv,p,hz⟩:=I.list hq;obtain⟨f0,f1,f2,f3,f4,f5⟩:=hf it (by simp);have hl:=rv.length;exact wpAny_pyNext_list_end (I.ok.hd hc) st p.isList (by simp;lia) λh' eb=>⟨rfl,I.turned (t':=s.toks) (λb o hb e=>eb b o hb e) f0 f1 f3 f4 f5⟩
 self:=λ_ _ _ _ _ st h=>wpAny_pyIter_listiter st h
theorem zfm{P:Program}{w:World}{K:W.Frag}{tg:Expr}(a it:Addr):Turn P w K tg (Ri K a) [it] it (λi h=>h.IsTupleIter it a i) where
 mem:=by simp
 obj:=λi h st b hb=>by
  have e:b=it:=by simpa using hb
  subst e;obtain⟨o,e,c,d⟩:=st;exact⟨o,e,λv z=>by rw[d] at z;cases z⟩
 keep:=λi h h' st k=>st.at λo e=>k it (by simp) o e
 item:=by
  intro X hP hw hK hc i ak s Z H E I hf st hg;subst hP hw hK;obtain⟨xs,x,hq,hx⟩:=hg;obtain⟨its,rv,p,hz⟩:=I.tuple hq;obtain⟨u,hu,ru⟩:=rv.get hx;obtain⟨f0,f1,f2,f3,f4,f5⟩:=hf it (by simp);refine wpAny_pyNext_tuple_item st (show s.heap.IsTuple a its.toArray from p) (x:=u) (by simpa using hu) λh' st' sb=>?_;have I1:Inv X ak Z H {s with heap:=h'}:=I.turned (t':=s.toks) (λb o hb e=>(sb.2 b hb).trans e) f0 f1 f3 f4 f5;obtain⟨o,e,c,d⟩:=id st';exact⟨u,rfl,Rh (s:={s with heap:=h'}) e c d (by decide) ⟨x,H,I1,ru,⟨rfl,λys hy=>by rw[I.mq hy hq];exact hx⟩,st',λb hb=>(hf b hb).1⟩⟩
 done:=by
  intro X hP hw hK hc i ak s Z H E I hf st hg;subst hP hw hK;obtain⟨xs,hq,hx⟩:=hg;obtain⟨its,rv,p,hz⟩:=I.tuple hq;obtain⟨f0,f1,f2,f3,f4,f5⟩:=hf it (by simp);have hl:=rv.length;exact wpAny_pyNext_tuple_end (I.ok.hd hc) st (show s.heap.IsTuple a its.toArray from p) (by simp;lia) λh' eb=>⟨rfl,I.turned (t':=s.toks) (λb o hb e=>eb b o hb e) f0 f1 f3 f4 f5⟩
 self:=λ_ _ _ _ _ st h=>wpAny_pyIter_tupleiter st h
theorem zfC{P:Program}{w:World}{K:W.Frag}{tg:Expr}(it:Addr)(lo:Int)(n:Nat):Turn P w K tg (Iv lo n) [it] it (λi h=>IsRangeIter h it (lo+(i:Nat)*1) ((n:Int)-(i:Nat)) 1) where
 mem:=by simp
 obj:=λi h st b hb=>by
  have e:b=it:=by simpa using hb
  subst e;exact⟨_,st,λv z=>by
   have z':Data.fields _=Data.cell v:=z;cases z'⟩
 keep:=λi h h' st k=>k it (by simp) _ st
 item:=by
  intro X hP hw hK hc i ak s Z H E I hf st hg;subst hP hw hK;obtain⟨f0,f1,f2,f3,f4,f5⟩:=hf it (by simp);have W:=Walks.range (prog:=X.prog) (w:=X.w) (I.ok.hd hc) it lo 1 n;refine W.item i s _ _ hg st λv h' tk hv st' kk=>?_;obtain⟨t,rfl⟩:=hv;have I1:Inv X ak Z H {s with heap:=h',toks:=tk}:=I.turned (λb o hb e=>kk b o (by simpa using hb) e) f0 f1 f3 f4 f5;refine⟨_,rfl,Rh (s:={s with heap:=h',toks:=tk}) (n:="range_iterator") st' rfl rfl (by decide) ⟨.int (lo+i),H,I1,⟨t,?_⟩,⟨rfl,rfl⟩,st',λb hb=>(hf b hb).1⟩⟩;rw[Int.mul_one]
 done:=by
  intro X hP hw hK hc i ak s Z H E I hf st hg;subst hP hw hK;obtain⟨f0,f1,f2,f3,f4,f5⟩:=hf it (by simp);exact wpAny_pyNext_range_end (I.ok.hd hc) st (by have:n<=i:=hg;lia) λh' eb=>⟨rfl,I.turned (t':=s.toks) (λb o hb e=>eb b o hb e) f0 f1 f3 f4 f5⟩
 self:=λ_ _ _ _ _ st h=>wpAny_pyIter_rangeiter st h
section
variable {X:Cx}{tg:Expr}
theorem Ye{ak:List (Addr×Obj)}{Z:St}{H:Hp}{s:Shared}{R:It->Hp->Prop}{E:Value->Shared->Prop}{lo hi:Int}{t u v:Tok}{tk:Nat}(I:Inv X ak Z H s)(h1 : -(2^62)<=lo)(h2:lo<2^62)(h3 : -(2^62)<=hi)(h4:hi<2^62)
  (q:R (Iv lo (hi-lo).toNat) H):wpAny (model X.prog X.w) X.A (pyIter (.ref s.heap.objs.size)) (PIE X ak Z tg R) E {s with heap:=s.heap.push {cls:=.type "range",data:=.fields #[.int lo t,.int hi u,.int 1 v]},toks:=tk}:=by
 refine wpAny_pyIter_range (IsRange.new ..) (small_one h1 h2 h3 h4) ?_;have I1:Inv X ak Z H {s with heap:=s.heap.push {cls:=.type "range",data:=.fields #[.int lo t,.int hi u,.int 1 v]},toks:=tk}:=I.kept λb o e=>cG _ e;refine⟨(s.heap.push {cls:=.type "range",data:=.fields #[.int lo t,.int hi u,.int 1 v]}).objs.size,[(s.heap.push {cls:=.type "range",data:=.fields #[.int lo t,.int hi u,.int 1 v]}).objs.size],_,_,H,rfl,
  I1.kept (t':=tk) λb o e=>cG _ e,zfC _ lo (hi-lo).toNat,?_,λb hb=>?_,q⟩
 ·have e1:lo+((0:Nat):Int)*1=lo:=by simp
  have e2:(((hi-lo).toNat:Nat):Int)-((0:Nat):Int)=Builtin.Range.rangeSize lo hi 1:=by rw[rangeSize_one];split<;>lia
  show IsRangeIter _ _ (lo+((0:Nat):Int)*1) ((((hi-lo).toNat:Nat):Int)-((0:Nat):Int)) 1;rw[e1,e2];exact iB _ rfl
 ·have e:b=(s.heap.push {cls:=.type "range",data:=.fields #[.int lo t,.int hi u,.int 1 v]}).objs.size:=by simpa using hb
  subst e;exact I1.yj (cH _) (I1.hok.fresh (cH _))
noncomputable def Iw(ta:TA):TI:=λZ H R=>ta Z H λvs H1=>∃j:Int,vs=[.int j]/\-(2^62)<=j/\j<2^62/\R (Iv 0 j.toNat) H1
noncomputable def Iz(ta:TA):TI:=λZ H R=>ta Z H λvs H1=>∃i j:Int,vs=[.int i,.int j]/\(-(2^62)<=i/\i<2^62/\-(2^62)<=j/\j<2^62)/\R (Iv i (j-i).toNat) H1
theorem zf5{a:Expr}{ta:TA}{p pos:Pos}(hg:Gl X "range")(hm:X.mg "range"=none)(ha:PA X [a] ta)(hs:starEach [a] X.env=[(false,eval a X.env)]:=by rfl):PI X tg (.Call (.Name "range" p) [a] [] pos) (Iw ta):=by
 intro ak s Z H R I h;refine Call_ (Aa I hg hm boot_range (G8 (aY (ha pos ak s Z H _ I h) λus s1 hx=>eF hx λvs H1 I1 r1 q1=>?_) hs rfl));obtain⟨j,e,q1,q2,q⟩:=q1;subst e;cases r1 with
 |cons r rr=>
  cases rr;obtain⟨t,rfl⟩:=r;exact call_range_1 (Ye I1 (by lia) (by lia) q1 q2 (by simpa using q))
theorem zgD{a b:Expr}{ta:TA}{p pos:Pos}(hg:Gl X "range")(hm:X.mg "range"=none)(ha:PA X [a,b] ta)(hs:starEach [a,b] X.env=[(false,eval a X.env),(false,eval b X.env)]:=by rfl)(Gg:starEach [b] X.env=[(false,eval b X.env)]:=by rfl) :
  PI X tg (.Call (.Name "range" p) [a,b] [] pos) (Iz ta):=by
 intro ak s Z H R I h;refine Call_ (Aa I hg hm boot_range (G8 (aY (ha pos ak s Z H _ I h) λus s1 hx=>eF hx λvs H1 I1 r1 q1=>?_) (by rw[hs,Gg]) (by rw[Gg];rfl)));obtain⟨i,j,e,⟨q1,q2,q3,q4⟩,q⟩:=q1;subst e;cases r1 with
 |cons r rr=>
  cases rr with
  |cons r' rr=>
   cases rr;obtain⟨t,rfl⟩:=r;obtain⟨t',rfl⟩:=r';exact call_range_2 (Ye I1 q1 q2 q3 q4 q)
noncomputable def Rj(wi:TI)(g:TG)(tb:TS):TS:=λD Z H=>wi Z H λcJ H1=>∃W:Nat->Nat->St->Hp->Prop,(∃m,W 0 m Z H1)/\∀i m Z H,W i m Z H->
 (cJ.stop i H/\D.nx Z H)\/(cJ.go i H/\∃N:St->Hp->Prop,(∀Z' H',N Z' H'->∃m',m'<m/\W (i+1) m' Z' H')/\∀x H',cJ.Cp i H x H'->g x Z H' λZ2 H2=>tb {D with nx:=N,ct:=N,bk:=D.nx} Z2 H2)
noncomputable def kY(fp:List Addr)(h:Heap):List (Addr×Obj):=fp.filterMap λb=>(h.get? b).map λo=>(b,o)
theorem N7{fp:List Addr}{h:Heap}{b:Addr}{o:Obj}(hb:b∈fp)(e:h.get? b=some o):(b,o)∈kY fp h:=QB.mpr ⟨b,hb,by rw[e];rfl⟩
theorem zhs{fp:List Addr}{h:Heap}{p:Addr×Obj}(hp:p∈kY fp h):p.1∈fp/\h.get? p.1=some p.2:=by
 obtain⟨b,hb,e⟩:=QB.mp hp;cases q:h.get? b with
 |none=>rw[q] at e;cases e
 |some o=>
  rw[q] at e;have e':(b,o)=p:=dM e;subst e';exact⟨hb,q⟩
theorem Inv.pinned{ak:List (Addr×Obj)}{Z:St}{H:Hp}{s:Shared}{fp:List Addr}(I:Inv X ak Z H s)(hf:∀b∈fp,je X ak H b)(ho:∀b∈fp,∃o,s.heap.get? b=some o/\∀v,o.data≠.cell v):Inv X (ak++kY fp s.heap) Z H s:=
 I.mR λp hp=>(fO.mp hp).elim (λz=>I.pin p (pX _ z)) λz=>by
  obtain⟨hb,e⟩:=zhs z;obtain⟨f0,f1,f2,_⟩:=hf p.1 hb;obtain⟨o,e',d⟩:=ho p.1 hb;rw[e] at e';cases e';exact⟨e,f0,f1,f2,d⟩
theorem Inv.iH{ak pl:List (Addr×Obj)}{Z:St}{H:Hp}{s:Shared}(I:Inv X (ak++pl) Z H s):Inv X ak Z H s:=I.mR λp hp=>I.pin p (pX _ (qJ _ hp))
theorem zmo{iter:Expr}{body:List Stmt}{wi:TI}{g:TG}{tb:TS}{pos:Pos}(hp:PassesOwn (model X.prog X.w) X.A X.env X.xe)(hc:X.aj=true)(hi:PI X tg iter wi)(hg:PG X tg g)(hb:pK X body tb)
  (hs:∀x,foldedSetIterable iter X.env x=pure x:=by intro _;rfl):PS X (.For tg iter body [] pos) (Rj wi g tb):=by
 intro ak s Z H D I h;refine wpAny_For (aY (hi ak s Z H _ I h) λv s1 h1=>aY h1 λitv s2 h2=>?_) hs;obtain⟨it,fp,tn,cJ,H2,e,I2,T,st2,f2,W,⟨m0,w0⟩,turn⟩:=h2;subst e;have stat:∀{H':Hp},(∀b∈fp,H' b=none)->∀b∈fp,je X ak H' b:=λhn b hb=>⟨hn b hb,(f2 b hb).2⟩;refine codeAny_forLoop_any (λn s'=>∃i Z' H',Inv X ak Z' H' s'/\tn i s'.heap/\(∀b∈fp,H' b=none)/\W i n Z' H') ?_ m0 ⟨0,Z,H2,I2,st2,λb hb=>(f2 b hb).1,w0⟩;rintro n s3 ⟨i,Z3,H3,I3,st3,Yg,w3⟩;rcases turn i n Z3 H3 w3 with ⟨stop,qn⟩|⟨go,N,hN,step⟩
 ·refine BJ hp (aY (T.done X rfl rfl rfl hc i ak s3 Z3 H3 X.xe I3 (stat Yg) st3 stop) λr s4 ⟨hr,I4⟩=>?_);subst hr;exact Hz ⟨Z3,H3,I4,qn⟩
 ·refine BJ hp (aY (T.item X rfl rfl rfl hc i ak s3 Z3 H3 X.xe I3 (stat Yg) st3 go) λr s4 hx=>xZ hx λu hr h4=>?_);subst hr;refine BJ hp (aY h4 λ_ s5 ⟨x,H5,I5,r5,y5,Gh,N8⟩=>?_);have I5':=I5.pinned (stat N8) (T.obj _ _ Gh);refine BJ hp (aY (hg _ s5 Z3 H5 x u _ I5' r5 (step x H5 y5)) λ_ s6 ⟨Z6,H6,I6,q6⟩=>?_);refine BJ hp (aY (hb _ s6 Z6 H6 _ I6 q6) λf s7 q7=>?_);have again:∀{Z7:St} {H7:Hp},Inv X (ak++kY fp s5.heap) Z7 H7 s7->N Z7 H7->∃m,m<n/\∃i Z' H',Inv X ak Z' H' s7/\tn i s7.heap/\(∀b∈fp,H' b=none)/\W i m Z' H':=λ{Z7 H7} I7 n7=>by
   obtain⟨m',hm,w7⟩:=hN Z7 H7 n7;refine⟨m',hm,i+1,Z7,H7,I7.iH,T.keep _ _ _ Gh λb hb o e=>(I7.pin (b,o) (pX _ (pX _ (N7 hb e)))).1,λb hb=>?_,w7⟩;obtain⟨o,e,d⟩:=T.obj _ _ Gh b hb;exact(I7.pin (b,o) (pX _ (pX _ (N7 hb e)))).2.1
  cases f with
  |next=>obtain⟨Z7,H7,I7,n7⟩:=q7;exact again I7 n7
  |cont=>obtain⟨Z7,H7,I7,n7⟩:=q7;exact again I7 n7
  |brk=>obtain⟨Z7,H7,I7,q7⟩:=q7;exact⟨Z7,H7,I7.iH,q7⟩
  |ret v=>obtain⟨x7,Z7,H7,I7,r7,q7⟩:=q7;exact⟨x7,Z7,H7,I7.iH,r7,q7⟩
end
noncomputable abbrev R2:=V->V->Hp->VK->Prop
def cZ(X:Cx)(f:Value->Value->Sem Value)(r:R2):Prop:=
 ∀(ak:List (Addr×Obj)) (s:Shared) (Z:St) (H:Hp) (x y:V) (v u:Value) (Q:VK),Inv X ak Z H s->RelV x v->RelV y u->r x y H Q->
  wpAny (model X.prog X.w) X.A (f v u) (EP X ak Z Q) X.xe s
def N_(X:Cx)(f:Value->Sem Value)(r:V->Hp->VK->Prop):Prop:=
 ∀(ak:List (Addr×Obj)) (s:Shared) (Z:St) (H:Hp) (x:V) (v:Value) (Q:VK),Inv X ak Z H s->RelV x v->r x H Q->
  wpAny (model X.prog X.w) X.A (f v) (EP X ak Z Q) X.xe s
def dB(X:Cx)(f:Value)(r:List V->Hp->VK->Prop):Prop:=
 ∀(ak:List (Addr×Obj)) (s:Shared) (Z:St) (H:Hp) (xs:List V) (us:List Value) (Q:VK),Inv X ak Z H s->Vals xs us->r xs H Q->
  wpAny (model X.prog X.w) X.A (call f us) (EP X ak Z Q) X.xe s
def Rm(X:Cx)(r:V->Hp->(Bool->Hp->Prop)->Prop):Prop:=
 ∀(ak:List (Addr×Obj)) (s:Shared) (Z:St) (H:Hp) (x:V) (v:Value) (Q:Bool->Hp->Prop),Inv X ak Z H s->RelV x v->r x H Q->
  wpAny (model X.prog X.w) X.A (truthy v) (TP X ak Z Q) X.xe s
noncomputable def Oa(r:R2)(ta tb:TE):TE:=λZ H Q=>ta Z H λx H1=>tb Z H1 λy H2=>r x y H2 Q
noncomputable def tUn(r:V->Hp->VK->Prop)(ta:TE):TE:=λZ H Q=>ta Z H λx H1=>r x H1 Q
noncomputable def rI(C:Int->Int->Prop)(g:Int->Int->V):R2:=λx y H Q=>∃i j,x=.int i/\y=.int j/\C i j/\Q (g i j) H
noncomputable def qd(g:Int->Int->V):R2:=λx y H Q=>∃i j,x=.int i/\y=.int j/\Q (g i j) H
noncomputable def rU(g:Int->V):V->Hp->VK->Prop:=λx H Q=>∃i,x=.int i/\Q (g i) H
section
variable {X:Cx}{a b c:Expr}{ta tb tc:TE}{pos:Pos}
theorem Cq(ha:PE X a ta)(hb:PE X b tb){ak:List (Addr×Obj)}{s:Shared}{Z:St}{H:Hp}{R:V->V->Hp->Prop}(I:Inv X ak Z H s)
  (h:ta Z H λx H1=>tb Z H1 λy H2=>R x y H2) {Q:Value->Shared->Prop} {f:Value->Value->Sem Value}
  (hf:∀v u s2 x y H2,Inv X ak Z H2 s2->RelV x v->RelV y u->R x y H2->wpAny (model X.prog X.w) X.A (f v u) Q X.xe s2) :
  wpAny (model X.prog X.w) X.A (eval a X.env) (λv s₁=>wpAny (model X.prog X.w) X.A (eval b X.env) (λu s₂=>wpAny (model X.prog X.w) X.A (f v u) Q X.xe s₂) X.xe s₁) X.xe s:=by
 refine aY (ha ak s Z H _ I h) λv s1 hx=>eF hx λx H1 I1 r1 q1=>?_;refine aY (hb ak s1 Z H1 _ I1 q1) λu s2 hx=>eF hx λy H2 I2 r2 q2=>?_;exact hf v u s2 x y H2 I2 r1 r2 q2
theorem zng{op:Operator}{r:R2}(ho:cZ X (binaryOp op) r)(ha:PE X a ta)(hb:PE X b tb):PE X (.BinOp a op b pos) (Oa r ta tb):=by
 intro ak s Z H Q I h;exact wpAny_BinOp (Cq ha hb I h λv u s2 x y H2 I2 rx ry q=>ho ak s2 Z H2 x y v u Q I2 rx ry q)
theorem Yh{op:UnaryOp}{r:V->Hp->VK->Prop}(ho:N_ X (unaryOp op) r)(ha:PE X a ta):PE X (.UnaryOp op a pos) (tUn r ta):=by
 intro ak s Z H Q I h;exact UnaryOp_ (aY (ha ak s Z H _ I h) λv s1 hx=>eF hx λx H1 I1 r1 q1=>ho ak s1 Z H1 x v Q I1 r1 q1)
theorem Ob{f:Value->Value->Sem Value}{C:Int->Int->Prop}{g:Int->Int->Int}
  (rule:∀(i j:Int) (t u:Tok) (s:Shared) (Q:Value->Shared->Prop) (E:Value->Shared->Prop),C i j->Q (.int (g i j) s.toks) {s with toks:=s.toks+1}->wpAny (model X.prog X.w) X.A (f (.int i t) (.int j u)) Q E s) :
  cZ X f (rI C λi j=>.int (g i j)):=by
 intro ak s Z H x y v u Q I rx ry h;obtain⟨i,j,rfl,rfl,hc,q⟩:=h;obtain⟨t,rfl⟩:=rx;obtain⟨t',rfl⟩:=ry;exact rule i j t t' s _ _ hc ⟨.int (g i j),H,I.tok _,⟨_,rfl⟩,q⟩
theorem IK{f:Value->Value->Sem Value}{g:Int->Int->Int}
  (rule:∀(i j:Int) (t u:Tok) (s:Shared) (Q:Value->Shared->Prop) (E:Value->Shared->Prop),Q (.int (g i j) s.toks) {s with toks:=s.toks+1}->wpAny (model X.prog X.w) X.A (f (.int i t) (.int j u)) Q E s) :
  cZ X f (qd λi j=>.int (g i j)):=by
 intro ak s Z H x y v u Q I rx ry h;obtain⟨i,j,rfl,rfl,q⟩:=h;obtain⟨t,rfl⟩:=rx;obtain⟨t',rfl⟩:=ry;exact rule i j t t' s _ _ ⟨.int (g i j),H,I.tok _,⟨_,rfl⟩,q⟩
theorem yp{f:Value->Value->Sem Value}{g:Int->Int->Bool}
  (rule:∀(i j:Int) (t u:Tok) (s:Shared) (Q:Value->Shared->Prop) (E:Value->Shared->Prop),Q (.bool (g i j)) s->wpAny (model X.prog X.w) X.A (f (.int i t) (.int j u)) Q E s) :
  cZ X f (qd λi j=>.bl (g i j)):=by
 intro ak s Z H x y v u Q I rx ry h;obtain⟨i,j,rfl,rfl,q⟩:=h;obtain⟨t,rfl⟩:=rx;obtain⟨t',rfl⟩:=ry;exact rule i j t t' s _ _ ⟨.bl (g i j),H,I,rfl,q⟩
def yq(i j:Int):Prop:=0<j/\j<1073741824
def IV(i j:Int):Prop:=0<=j/\j<=1000000/\i.natAbs<2^64
def yr(i j:Int):Prop:=(-(2^64)<i/\i<2^64)\/(-(2^64)<j/\j<2^64)
theorem yr.ok{i j:Int}(h:yr i j):IntMulOk i j:=by
 rcases h with ⟨h1,h2⟩|⟨h1,h2⟩
 ·exact .of_left (intBits_le_64 h1 h2)
 ·exact .of_right (intBits_le_64 h1 h2)
theorem Cr:cZ X (binaryOp .Add) (qd λi j=>.int (i+j)):=IK λ_ _ _ _ _ _ _ q=>add_int q
theorem zmr:cZ X (binaryOp .Sub) (qd λi j=>.int (i-j)):=IK λ_ _ _ _ _ _ _ q=>sub_int q
theorem zlG:cZ X (binaryOp .Mult) (rI yr λi j=>.int (i*j)):=Ob λ_ _ _ _ _ _ _ hc q=>mul_int q hc.ok
theorem zki:cZ X (binaryOp .FloorDiv) (rI yq λi j=>.int (i/j)):=Ob λi j _ _ _ _ _ hc q=>by
 have h1:(0:Int)<j:=hc.1;have h2:j<1073741824:=hc.2;exact floordiv_int (by lia) (by rw[Int.fdiv_eq_ediv_of_nonneg i (by lia)];exact q) (.inl (PyProof.noPylong_small (by lia)))
theorem zlx:cZ X (binaryOp .Mod) (rI (λ_ j=>0<j) λi j=>.int (i%j)):=Ob λi j _ _ _ _ _ hc q=>by
 have h1:(0:Int)<j:=hc;exact mod_int' (by lia) (by rw[Int.fmod_eq_emod_of_nonneg i (by lia)];exact q)
theorem zmE:cZ X (binaryOp .Pow) (rI IV λi j=>.int (i^j.toNat)):=Ob λ_ _ _ _ _ _ _ hc q=>pow_int_small hc.1 hc.2.1 hc.2.2 q
theorem unI{f:Value->Sem Value}{g:Int->Int}
  (rule:∀(i:Int) (t:Tok) (s:Shared) (Q:Value->Shared->Prop) (E:Value->Shared->Prop),Q (.int (g i) s.toks) {s with toks:=s.toks+1}->wpAny (model X.prog X.w) X.A (f (.int i t)) Q E s) :
  N_ X f (rU λi=>.int (g i)):=by
 intro ak s Z H x v Q I rx h;obtain⟨i,rfl,q⟩:=h;obtain⟨t,rfl⟩:=rx;exact rule i t s _ _ ⟨.int (g i),H,I.tok _,⟨_,rfl⟩,q⟩
theorem Yi:N_ X (unaryOp .USub) (rU λi=>.int (-i)):=unI λ_ _ _ _ _ q=>neg_int q
end
section
variable {X:Cx}{a b c:Expr}{ta tb tc:TE}{pos:Pos}
theorem IW:cZ X (compareOp .Lt) (qd λi j=>.bl (decide (i<j))):=yp λ_ _ _ _ _ _ _ q=>lt_int q
theorem znM:cZ X (compareOp .LtE) (qd λi j=>.bl (decide (i<=j))):=yp λ_ _ _ _ _ _ _ q=>le_int q
theorem znR:cZ X (compareOp .Gt) (qd λi j=>.bl (decide (j<i))):=yp λ_ _ _ _ _ _ _ q=>gt_int q
theorem znU:cZ X (compareOp .GtE) (qd λi j=>.bl (decide (j<=i))):=yp λ_ _ _ _ _ _ _ q=>ge_int q
theorem cZ.or{f:Value->Value->Sem Value}{r r':R2}(h:cZ X f r)(h':cZ X f r'):cZ X f (λx y H Q=>r x y H Q\/r' x y H Q):=by
 intro ak s Z H x y v u Q I rx ry q;rcases q with q|q
 ·exact h ak s Z H x y v u Q I rx ry q
 ·exact h' ak s Z H x y v u Q I rx ry q
theorem zkq{op:CmpOp}{r:R2}(ho:cZ X (compareOp op) r)(ha:PE X a ta)(hb:PE X b tb)(hm:behindInMarks op b=false):PE X (.Compare a [op] [b] pos) (Oa r ta tb):=by
 intro ak s Z H Q I h;exact wpAny_Compare1 (Cq ha hb I h λv u s2 x y H2 I2 rx ry q=>ho ak s2 Z H2 x y v u Q I2 rx ry q) hm
noncomputable def Ab(t:TE):TT:=λZ H Q=>t Z H λx H'=>∃k,x=.bl k/\Q k H'
theorem zj4{op:CmpOp}{r:R2}(ho:cZ X (compareOp op) r)(ha:PE X a ta)(hb:PE X b tb)(hm:behindInMarks op b=false):PT X (.Compare a [op] [b] pos) (Ab (Oa r ta tb)):=by
 intro ak s Z H Q I h;refine wpAny_isTrue_Compare1 (aY (ha ak s Z H _ I h) λv s1 hx=>eF hx λx H1 I1 r1 q1=>aY (hb ak s1 Z H1 _ I1 q1) λu s2 hx=>eF hx λy H2 I2 r2 q2=>
  aY (ho ak s2 Z H2 x y v u _ I2 r1 r2 q2) λc s3 hx=>wM hx λz H3 I3 r3 k e q3=>?_) hm
 subst e;cases r3;exact qK ⟨H3,I3,q3⟩
noncomputable def uV(r r':R2)(ta tb tc:TE):TE:=λZ H Q=>ta Z H λx H1=>tb Z H1 λy H2=>r x y H2 λz H3=>∃k,z=.bl k /\
 (if k=true then tc Z H3 λw' H4=>r' y w' H4 Q else Q (.bl false) H3)
theorem zib{op op':CmpOp}{r r':R2}(ho:cZ X (compareOp op) r)(kW:cZ X (compareOp op') r')(ha:PE X a ta)(hb:PE X b tb)(hc:PE X c tc)
  (hm:lastMarks [op,op'] [b,c]=false:=by with_unfolding_all rfl):PE X (.Compare a [op,op'] [b,c] pos) (uV r r' ta tb tc):=by
 intro ak s Z H Q I h;refine Compare_chain (aY (ha ak s Z H _ I h) λv s1 hx=>eF hx λx H1 I1 r1 q1=>chain_link (aY (hb ak s1 Z H1 _ I1 q1) λu s2 hx=>eF hx λy H2 I2 r2 q2=>
  aY (ho ak s2 Z H2 x y v u _ I2 r1 r2 q2) λd s3 hx=>wM hx λz H3 I3 r3 k e q3=>?_)) hm
 subst e;cases r3;refine qK ?_;cases k with
 |false=>exact ite_ff ⟨.bl false,H3,I3,rfl,q3⟩
 |true=>exact ite_tt (chain_last (aY (hc ak s3 Z H3 _ I3 q3) λw' s4 hx=>eF hx λz' H4 I4 r4 q4=>kW ak s4 Z H4 y z' u w' Q I4 r2 r4 q4))
theorem ziD{op op':CmpOp}{r r':R2}(ho:cZ X (compareOp op) r)(kW:cZ X (compareOp op') r')(ha:PE X a ta)(hb:PE X b tb)(hc:PE X c tc)
  (hm:lastMarks [op,op'] [b,c]=false:=by with_unfolding_all rfl):PT X (.Compare a [op,op'] [b,c] pos) (Ab (uV r r' ta tb tc)):=by
 intro ak s Z H Q I h;refine isTrue_chain (aY (ha ak s Z H _ I h) λv s1 hx=>eF hx λx H1 I1 r1 q1=>test_link (aY (hb ak s1 Z H1 _ I1 q1) λu s2 hx=>eF hx λy H2 I2 r2 q2=>
  aY (ho ak s2 Z H2 x y v u _ I2 r1 r2 q2) λd s3 hx=>wM hx λz H3 I3 r3 k e q3=>?_)) hm
 subst e;cases r3;refine qK ?_;cases k with
 |false=>
  obtain⟨k',e',q'⟩:=q3;cases e';exact ite_ff ⟨H3,I3,q'⟩
 |true=>
  refine ite_tt (test_last (aY (hc ak s3 Z H3 _ I3 q3) λw' s4 hx=>eF hx λz' H4 I4 r4 q4=>aY (kW ak s4 Z H4 y z' u w' _ I4 r2 r4 q4) λd' s5 hx=>wM hx λz2 H5 I5 r5 k2 e2 q5=>?_));subst e2;cases r5;exact qK ⟨H5,I5,q5⟩
def Cu(K:W.Frag)(x:V)(H:Hp)(k:Bool):Prop:=
 match x with
 |.non=>k=false
 |.bl b=>k=b
 |.int i=>k=(i != 0)
 |.str y=>y.length<=sizeLine/\k=((y.length:Int) != 0)
 |.Gb y=>y.size<=sizeLine/\k=((y.size:Int) != 0)
 |.ref p=>(∃xs,dI K H p xs/\k = !xs.isEmpty)\/(∃xs,gj K H p xs/\k = !xs.isEmpty)\/∃kvs,H p=some (.dK kvs)/\k = !kvs.isEmpty
 |_=>False
theorem zfv{κ:Type}{kvs:List (κ×V)}{vs:List (κ×Value)}(r:KV kvs vs):(!vs.isEmpty) = !kvs.isEmpty:=by
 cases r<;>rfl
theorem Yj{xs:List V}{its:List Value}(r:Vals xs its):(!its.toArray.isEmpty) = !xs.isEmpty:=by
 cases r<;>simp
theorem jf:(sizeLine:Nat)<2^63:=by rw[qL];decide
theorem zk1:Rm X (λx H Q=>∃k,Cu X.K x H k/\Q k H):=by
 intro ak s Z H x v Q I rx h;obtain⟨k,e,q⟩:=h;have hl:=jf;have hs:sizeLine=16777216:=qL;cases x with
 |non=>
  cases rx;have e':k=false:=e;subst e';exact truthy_none ⟨H,I,q⟩
 |bl b=>
  cases rx;have e':k=b:=e;subst e';exact qK ⟨H,I,q⟩
 |int i=>
  obtain⟨t,rfl⟩:=rx;have e':k=(i != 0):=e;subst e';exact PySem.P.truthy_int ⟨H,I,q⟩
 |str y=>
  obtain⟨t,rfl⟩:=rx;obtain⟨hy,e'⟩ : y.length<=sizeLine/\k=((y.length:Int) != 0):=e;subst e';exact PySem.P.truthy_str (by lia) ⟨H,I.tok _,q⟩
 |Gb y=>
  obtain⟨t,rfl⟩:=rx;obtain⟨hy,e'⟩ : y.size<=sizeLine/\k=((y.size:Int) != 0):=e;subst e';exact PySem.W.truthy_bytes (by lia) ⟨H,I.tok _,q⟩
 |ref p=>
  cases rx;have e':(∃xs,dI X.K H p xs/\k = !xs.isEmpty)\/(∃xs,gj X.K H p xs/\k = !xs.isEmpty)\/∃kvs,H p=some (.dK kvs)/\k = !kvs.isEmpty:=e;rcases e' with ⟨xs,hx,e'⟩|⟨xs,hx,e'⟩|⟨kvs,hx,e'⟩
  ·subst e';obtain⟨its,r,pl,hz⟩:=I.list hx;have hlen:=r.length;exact wpAny_truthy_list pl.isList (by simp only[dJ];lia) ⟨H,I.tok _,by rw[Yj r];exact q⟩
  ·subst e';obtain⟨its,r,pl,hz⟩:=I.tuple hx;have hlen:=r.length;exact truthy_tuple pl (by simp only[dJ];lia) ⟨H,I.tok _,by rw[Yj r];exact q⟩
  ·subst e';obtain⟨hz,hS,vs,r,m⟩ : kvs.length<=sizeLine/\(p==sysModules)=false/\∃vs,KV kvs vs/\s.heap.DictOf (cO X.prog X.w) p vs:=I.hok p _ hx;have hlen:kvs.length=vs.length:=Paired.length r;exact wpAny_truthy_dict hS m (by lia) ⟨H,I.tok _,by rw[zfv r];exact q⟩
 |_=>exact(show False from e).elim
theorem zfk:cZ X (binaryOp .Add) (λx y H Q=>∃i j,x=.str i/\y=.str j/\i.length+j.length<=sizeLine/\Q (.str (i++j)) H):=by
 intro ak s Z H x y v u Q I rx ry h;obtain⟨i,j,rfl,rfl,hz,q⟩:=h;obtain⟨t,rfl⟩:=rx;obtain⟨t',rfl⟩:=ry;exact add_str (λt' tk=>⟨.str (i++j),H,I.tok _,⟨_,rfl⟩,q⟩) hz
theorem vals1{x:V}{us:List Value}(r:Vals [x] us):∃u,us=[u]/\RelV x u:=by
 cases r with
 |cons r1 r2=>cases r2;exact⟨_,rfl,r1⟩
theorem vals2{x y:V}{us:List Value}(r:Vals [x,y] us):∃u w',us=[u,w']/\RelV x u/\RelV y w':=by
 cases r with
 |cons r1 r2=>
  cases r2 with
  |cons r3 r4=>cases r4;exact⟨_,_,rfl,r1,r3⟩
theorem ziA:dB X (.builtin "abs") (λxs H Q=>∃i,xs=[.int i]/\Q (.int (if i<0 then -i else i)) H):=by
 intro ak s Z H xs us Q I r h;obtain⟨i,rfl,q⟩:=h;obtain⟨u,rfl,t,rfl⟩:=vals1 r;exact call_abs_int λu tk=>⟨.int (if i<0 then -i else i),H,I.tok _,⟨_,rfl⟩,q⟩
theorem zgq(hc:X.aj=true):dB X (.builtin "max") (λxs H Q=>∃i j,xs=[.int i,.int j]/\Q (.int (if j>i then j else i)) H):=by
 intro ak s Z H xs us Q I r h;obtain⟨i,j,rfl,q⟩:=h;obtain⟨u,w',rfl,⟨t,rfl⟩,⟨t',rfl⟩⟩:=vals2 r;refine max_two_ints (I.ok.hd hc) λh' tk k=>⟨_,H,I.kept k,?_,q⟩;by_cases hj:j>i
 ·rw[if_pos hj,if_pos hj];exact⟨_,rfl⟩
 ·rw[if_neg hj,if_neg hj];exact⟨_,rfl⟩
theorem zhk(hc:X.aj=true):dB X (.builtin "min") (λxs H Q=>∃i j,xs=[.int i,.int j]/\Q (.int (if j<i then j else i)) H):=by
 intro ak s Z H xs us Q I r h;obtain⟨i,j,rfl,q⟩:=h;obtain⟨u,w',rfl,⟨t,rfl⟩,⟨t',rfl⟩⟩:=vals2 r;refine min_two_ints (I.ok.hd hc) λh' tk k=>⟨_,H,I.kept k,?_,q⟩;by_cases hj:j<i
 ·rw[if_pos hj,if_pos hj];exact⟨_,rfl⟩
 ·rw[if_neg hj,if_neg hj];exact⟨_,rfl⟩
theorem zgS:dB X (.type "int") (λxs H Q=>(∃i,xs=[.int i]/\Q (.int i) H)\/∃k,xs=[.bl k]/\Q (.int (if k then 1 else 0)) H):=by
 intro ak s Z H xs us Q I r h;rcases h with ⟨i,rfl,q⟩|⟨k,rfl,q⟩
 ·obtain⟨u,rfl,t,rfl⟩:=vals1 r;exact call_int_int ⟨.int i,H,I,⟨_,rfl⟩,q⟩
 ·obtain⟨u,rfl,r1⟩:=vals1 r;cases r1;exact call_int_bool ⟨.int (if k then 1 else 0),H,I.tok _,⟨_,rfl⟩,q⟩
theorem zeo:dB X (.builtin "divmod") (λxs H Q=>∃i j,xs=[.int i,.int j]/\yq i j/\∀p,H p=none->Q (.ref p) (upd H p (.tup [.int (i/j),.int (i%j)]))):=by
 intro ak s Z H xs us Q I r h;obtain⟨i,j,rfl,⟨h1,h2⟩,q⟩:=h;obtain⟨u,w',rfl,⟨t,rfl⟩,⟨t',rfl⟩⟩:=vals2 r;refine divmod_int (by lia) ?_ (.inl (PyProof.noPylong_small (by lia)));rw[Int.fdiv_eq_ediv_of_nonneg i (by lia),Int.fmod_eq_emod_of_nonneg i (by lia)];have hn:H s.heap.objs.size=none:=I.hok.fresh (cH _);refine⟨.ref s.heap.objs.size,_,?_,rfl,q _ hn⟩;refine I.laid (λb o e=>cG _ e) (cH _) ⟨by simp only[iC,rW];rw[qL];decide,[.int (i/j) s.toks,.int (i%j) (s.toks+1)],.cons ⟨_,rfl⟩ (.cons ⟨_,rfl⟩ .nil),?_⟩;exact⟨_,iB s.heap rfl,rfl,0,rfl⟩
end
section
variable {prog:Program}{w:World}{A:Around}{E:Value->Shared->Prop}{s:Shared}{K:W.Frag}{x dx C f:Addr}{mA:Str->Option Value}{name:Str}{v:Value}
end
section
variable {P:Program}{w:World}{H H':Hp}{h h':Heap}{a C dx:Addr}{fs fs':List (Str×V)}
end
section
variable {X:Cx}{ak:List (Addr×Obj)}{Z:St}{H:Hp}{s:Shared}{a C dx:Addr}{fs:List (Str×V)}{f:Str}{v:V}{A:Around}{E:Value->Shared->Prop}
end
section
variable {X:Cx}{o e value:Expr}{f:Str}{pos pos' tpos:Pos}{ta tv:TE}
end
section
variable {X:Cx}{ak:List (Addr×Obj)}{Z:St}{H:Hp}{s:Shared}{A:Around}{E:Value->Shared->Prop}{Q:Value->Shared->Prop}{c:Value}{b:Bool}
end
structure cD(k:Nat)(A:Around):Prop where
 dp:A.depth+3*k+5<recursionLimit
 un:A.units+16*k+200<cLine
 gd:A.guards=some []
theorem cD.deeper{k:Nat}{A:Around}(r:cD (k+1) A)(env:Env):cD k (A.deeper env):=
 ⟨by have:=r.dp;show A.depth+1+3*k+5<_;lia,by have:=r.un;show A.units+3+16*k+200<_;lia,r.gd⟩
theorem cD.depth{k:Nat}{A:Around}(r:cD k A):A.depth<recursionLimit:=by have:=r.dp;lia
noncomputable def Rn:TA:=λ_ H Q=>Q [] H
noncomputable def I8(ta:TE)(tr:TA):TA:=λZ H Q=>ta Z H λx H1=>tr Z H1 λxs H2=>Q (x::xs) H2
section
variable {X:Cx}{e:Expr}{es:List Expr}{te:TE}{t:TA}{pos:Pos}
theorem Cv:PA X [] Rn:=λ_ _ _ _ H Q I h=>Calls.spliced_nil ⟨[],H,I,.nil,h⟩
theorem uW(ha:PE X e te)(hr:PA X es t)(hs:starEach (e::es) X.env=(false,eval e X.env)::starEach es X.env:=by rfl):PA X (e::es) (I8 te t):=by
 intro pos ak s Z H Q I h;rw[hs];show wpAny _ _ (spliced ((false,eval e X.env)::backTo pos (starEach es X.env))) _ _ s;refine Calls.spliced_cons (aY (ha ak s Z H _ I h) λu s1 hx=>eF hx λx H1 I1 r1 q1=>?_);exact aY (hr pos ak s1 Z H1 _ I1 q1) λus s2 hx=>eF hx λxs H2 I2 r2 q2=>⟨x::xs,H2,I2,.cons r1 r2,q2⟩
noncomputable def Ro(t:TA):TE:=λZ H Q=>t Z H λxs H1=>xs.length<=sizeLine/\∀p,H1 p=none->Q (.ref p) (upd H1 p (.tup xs))
noncomputable def Rp(t:TA):TE:=λZ H Q=>t Z H λxs H1=>xs.length<=sizeLine/\∀p,H1 p=none->Q (.ref p) (upd H1 p (.lst xs))
theorem zmV{x1}(h:PA X es t):PE X (.Tuple es x1 pos) (Ro t):=by
 intro ak s Z H Q I hq;refine wpAny_Tuple_spliced (aY (h pos ak s Z H _ I hq) λus s1 ⟨xs,H1,I1,r,z,q⟩=>⟨by rw[<-r.length];exact z,?_⟩);have hf:H1 s1.heap.objs.size=none:=I1.hok.fresh (cH _);refine⟨.ref s1.heap.objs.size,upd H1 s1.heap.objs.size (.tup xs),I1.laid (t':=s1.toks) (λb u e=>cG _ e) (cH _) ?_,rfl,q _ hf⟩;exact⟨z,us,r,⟨_,iB _ rfl,rfl,_,rfl⟩⟩
theorem zlg(h:PA X es t):PE X (.List es pos) (Rp t):=by
 intro ak s Z H Q I hq;refine wpAny_List_spliced (aY (h pos ak s Z H _ I hq) λus s1 ⟨xs,H1,I1,r,z,q⟩=>⟨by rw[<-r.length];exact z,?_⟩);have hf:H1 s1.heap.objs.size=none:=I1.hok.fresh (cH _);refine⟨.ref s1.heap.objs.size,upd H1 s1.heap.objs.size (.lst xs),I1.laid (t':=s1.toks) (λb u e=>cG _ e) (cH _) ?_,rfl,q _ hf⟩;exact⟨z,us,0,r,iB _ rfl⟩
end
noncomputable abbrev Sp:=List V->Hp->VK->XK->Prop
noncomputable abbrev uX:=List Env->Hp->Shared->XK->Value->Shared->Prop
structure yt(P:Program)(w:World)(K:W.Frag)(mg:Str->Option Value)(base:Heap)(A:Around)(outer:List Env)(s:Shared)(H:Hp):Prop where
 frames:A.frames=some outer
 mod:Mod K mg base
 bs:∀b o,base.get? b=some o->s.heap.get? b=some o/\H b=none
 zX:base.objs.size<=s.heap.objs.size
 kO:s.heap.FunFrames base outer
 Gf:∀b∈frs outer,H b=none
 hok:iy P w H s.heap
 bare:AllBare s.gens
def CE(outer:List Env)(P:Program)(w:World)(H:Hp)(s:Shared)(Q:VK)(u:Value)(s':Shared):Prop:=
 ∃v H',s'.os=s.os/\AllBare s'.gens/\Un (frs outer) [] H H' s.heap s'.heap/\iy P w H' s'.heap/\RelV v u/\Q v H'
def CR(CX:uX)(outer:List Env)(P:Program)(w:World)(H:Hp)(s:Shared)(Q:VK)(E:XK)(r:Result)(s':Shared):Prop:=
 match r with
 |.ok (.ret u)=>CE outer P w H s Q u s'
 |.ok _=>False
 |.error e=>CX outer H s E e s'
structure gA(P:Program)(w:World)(K:W.Frag)(mg:Str->Option Value)(base:Heap)(CX:uX)(cm:Bool)(k:Nat)(f:Addr)(fd:FuncData)(ps:List Str)(sp:Sp):Prop where
 len:∀vs H Q E,sp vs H Q E->vs.length=ps.length
 run:∀(A:Around) (outer:List Env) (s:Shared) (H:Hp) (args:Args) (us:List Value) (vs:List V) (Q:VK) (E:XK),(cm=true->A.handled=none)->cD k A->yt P w K mg base A outer s H->BindsTo s fd args (ps.zip us)->Vals vs us->sp vs H Q E->
  codeAny (model P w) A (.call (.ref f) args) (CR CX outer P w H s Q E) s
theorem gA.imp{P:Program}{w:World}{K:W.Frag}{mg:Str->Option Value}{base:Heap}{CX:uX}{cm:Bool}{k:Nat}{f:Addr}{fd:FuncData}{ps:List Str}{sp Yk:Sp}(F:gA P w K mg base CX cm k f fd ps sp)
  (h:∀vs H Q E,Yk vs H Q E->sp vs H Q E):gA P w K mg base CX cm k f fd ps Yk:=
 ⟨λvs H Q E q=>F.len vs H Q E (h _ _ _ _ q),λA outer s H args us vs Q E sH hr he hb hv hs=>F.run A outer s H args us vs Q E sH hr he hb hv (h _ _ _ _ hs)⟩
section
variable {X:Cx}{ak:List (Addr×Obj)}{Z:St}{H:Hp}{s s':Shared}
theorem Inv.env0(I:Inv X ak Z H s):yt X.prog X.w X.K X.mg X.base X.A X.stack s H:=
 ⟨I.ok.frames,I.ok.mod,I.bs,p7 I.ok.zX I.sz,I.stack,I.jX,I.hok,I.bare⟩
theorem Inv.after{Q:VK}{u:Value}(I:Inv X ak Z H s)(h:CE X.stack X.prog X.w H s Q u s'):EP X ak Z Q u s':=by
 obtain⟨v,H',os,bare,un,hok,r,q⟩:=h;obtain⟨hh,g,d,t,os'⟩:=s';obtain rfl:os'=s.os:=os;exact⟨v,H',I.call (h':=hh) (g':=g) (d':=d) (t':=t) (ch:=[]) un hok bare (λb z=>absurd z (by simp)),r,q⟩
end
def Binds(K:W.Frag)(fd:FuncData)(ps:List Str)(ds:List Value):Prop:=
 ∀(s:Shared) (us:List Value),K.In s.heap->(us++ds).length=ps.length->BindsTo s fd ⟨us,[]⟩ (ps.zip (us++ds))
theorem Binds.all{K:W.Frag}{fd:FuncData}{ps:List Str}(h:∀us:List Value,us.length=ps.length->bindArgs fd ⟨us,[]⟩=pure (ps.zip us)):Binds K fd ps []:=λs us _ hl=>by
 rw[FN] at hl ⊢;exact .of_eq (h us hl)
section
variable {X:Cx}{CX:uX}{cm:Bool}{k:Nat}{f C:Addr}{fd:FuncData}{ps:List Str}{sp:Sp}{dvs:List V}{ds:List Value}{E:XK}{x m:Str}{p pos apos:Pos}{e o:Expr}{es:List Expr}{ta:TE}{t:TA}
end
section
variable {X:Cx}{CX:uX}{cm:Bool}{k:Nat}{f C:Addr}{fd:FuncData}{ps ks:List Str}{sp:Sp}{E:XK}{x m:Str}{p pos apos kpos:Pos}{e o:Expr}{es:List Expr}{kws:List Keyword}{te ta:TE}{t tk:TA}{nm:Option Str}
variable {g:List Value->List Value->List Value}{gV:List V->List V->List V}
end
structure iI(N P:List Str)(sc:Scope):Prop where
 kind:sc.kind=.function
 co:sc.isCoroutine=false
 gen:sc.isGenerator=false
 nd:N.Nodup
 pre:N.take P.length=P
 par:∀x∈P,sc.names.lookup x=some .local\/sc.names.lookup x=some .cell
 Cw:∀y∈sc.names,y.2≠.free
theorem Yl{kindOf:Str->Option NameKind}{x:Str}:∀{binds:List (Str×Value)} {m:Str->Option Value},(∀v,(x,v)∉binds)->bindL kindOf binds m x=m x
 |[],_,_=>rfl
 |(n,v)::r,m,h=>by
  unfold bindL;rw[Yl λw hw=>h w (fM _ hw)]
  split
  ·have:x≠n:=by rintro rfl;exact h v fV
   simp[this]
  ·rfl
theorem Ym{kindOf:Str->Option NameKind}{x:Str}:∀{binds:List (Str×Value)} {m:Str->Option Value},(∀v,(x,v)∉binds)->bindC kindOf binds m x=m x
 |[],_,_=>rfl
 |(n,v)::r,m,h=>by
  unfold bindC;rw[Ym λw hw=>h w (fM _ hw)]
  split
  ·rfl
  ·have:x≠n:=by rintro rfl;exact h v fV
   simp[this]
theorem Yn{kindOf:Str->Option NameKind}{x:Str}{v:Value}:∀{P:List Str} {vs:List Value} {i:Nat} {m:Str->Option Value},P.Nodup->P[i]?=some x->vs[i]?=some v->kindOf x=some .local->
  bindL kindOf (P.zip vs) m x=some v
 |[],_,_,_,_,h,_,_=>by simp at h
 |_::_,[],_,_,_,_,h,_=>by simp at h
 |p::P,w::vs,0,m,nd,h1,h2,hk=>by
  simp at h1 h2;subst h1;subst h2;show bindL kindOf ((p,w)::P.zip vs) m p=_;unfold bindL;rw[Yl λv hv=>(rY.mp nd).1 (Nr hv).1,if_pos hk];simp
 |p::P,w::vs,i+1,m,nd,h1,h2,hk=>by
  show bindL kindOf ((p,w)::P.zip vs) m x=_;unfold bindL;exact Yn (i:=i) (rY.mp nd).2 (by simpa using h1) (by simpa using h2) hk
theorem Yo{kindOf:Str->Option NameKind}{x:Str}{v:Value}:∀{P:List Str} {vs:List Value} {i:Nat} {m:Str->Option Value},P.Nodup->P[i]?=some x->vs[i]?=some v->kindOf x≠some .local->
  bindC kindOf (P.zip vs) m x=some v
 |[],_,_,_,_,h,_,_=>by simp at h
 |_::_,[],_,_,_,_,h,_=>by simp at h
 |p::P,w::vs,0,m,nd,h1,h2,hk=>by
  simp at h1 h2;subst h1;subst h2;show bindC kindOf ((p,w)::P.zip vs) m p=_;unfold bindC;rw[Ym λv hv=>(rY.mp nd).1 (Nr hv).1,if_neg hk];simp
 |p::P,w::vs,i+1,m,nd,h1,h2,hk=>by
  show bindC kindOf ((p,w)::P.zip vs) m x=_;unfold bindC;exact Yo (i:=i) (rY.mp nd).2 (by simpa using h1) (by simpa using h2) hk
noncomputable def start(N:List Str)(vs:List V):St:=vs.map some++List.replicate (N.length-vs.length) none
noncomputable def jO(CX:uX)(P:Program)(w:World)(K:W.Frag)(mg:Str->Option Value)(base:Heap)(N:List Str)(qual:Str)(scope:Scope)(f:Addr)(cd:Value)(A:Around)(outer:List Env)(s:Shared)(H:Hp)(E:XK)(cm:Bool):Cx where
 prog:=P
 w:=w
 K:=K
 mg:=mg
 base:=base
 A:=A.deeper (envOfC qual scope s.heap.objs.size f cd)
 N:=N
 s₀:=s
 H₀:=H
 env:=envOfC qual scope s.heap.objs.size f cd
 outer:=outer
 stack:=envOfC qual scope s.heap.objs.size f cd::outer
 ex:=[]
 aj:=cm
 fn:=λ_=>true
 pn:=[]
 xe:=λe s'=>wpAny (model P w) (A.deeper (envOfC qual scope s.heap.objs.size f cd)) (leaving (envOfC qual scope s.heap.objs.size f cd) e) (λ_ s''=>CX outer H s E e s'') (λe' s''=>CX outer H s E e' s'') s'
theorem Yp{sc:Scope}{n:Nat}{x:Str}(h:sc.names.lookup x=some .cell):∃c,(cellsFrom n sc.names []).lookup x=some c:=by
 have q:=Qo sc.names n [] (.inl h);exact Ql.mp q
theorem zgp{CX:uX}{P:Program}{w:World}{K:W.Frag}{mg:Str->Option Value}{base:Heap}{N ps:List Str}{qual:Str}{scope:Scope}{f:Addr}{cd:Value}{A:Around}{outer:List Env}{s s1:Shared}{H:Hp}{E:XK}{us:List Value}{vs:List V}
  {cm:Bool} (S:iI N ps scope) (hd:cm=true->A.handled=none) (e0:yt P w K mg base A outer s H) (hl:vs.length=ps.length) (r:Vals vs us)
  (x:InCallC s s.heap.objs.size (bindL (envOfC qual scope s.heap.objs.size f cd).kindOf (ps.zip us) λ_=>none) (cellsFrom (s.heap.objs.size+1) scope.names []) (bindC (envOfC qual scope s.heap.objs.size f cd).kindOf (ps.zip us) λ_=>none) s1) :
  Inv (jO CX P w K mg base N qual scope f cd A outer s H E cm) [] (start N vs) H s1:=by
 have bM:ps.length<=N.length:=by have:=rZ List.length S.pre;rw[xT] at this;lia
 obtain⟨h1,tk,rfl,hk⟩:=x.done;have I9:∀b:Addr,b∉(jO CX P w K mg base N qual scope f cd A outer s H E cm).ex:=λb z=>absurd (show b∈([]:List Addr) from z) (by simp);refine⟨⟨e0.mod,S.kind,rfl,rfl,cH _,λy z c h1 h2=>?_,λy hy=>?_,λy c _ h=>?_,hd,Around.frames_deeper e0.frames,.inr ⟨rfl,rfl⟩,λb z=>absurd z (I9 b),e0.bs,e0.zX,λb _ _=>I9 b,λb z=>absurd z (I9 b),e0.kO,e0.Gf⟩,
  rfl,e0.bare,Un.kept hk,⟨_,x.toInCall.ns,λi y v h1 h2 h3=>?_⟩,λy c h=>⟨_,x.cell y c h⟩,e0.hok.fresh (cH _),λy c h=>?_,λp hp=>absurd (show p∈([]:List (Addr×Obj)) from hp) (by simp),e0.hok.kept hk,?_⟩
 ·exact name_of_addr x.apart (Fp h1) (Fp h2)
 ·have hy:scope.names.lookup y=some .cell\/scope.names.lookup y=some .free:=hy;rcases hy with hy|hy
  ·exact Yp hy
  ·exact absurd rfl (S.Cw _ (Fp hy))
 ·exact zR (x.above y c (Fp h))
 ·have hi:i<vs.length:=by
   unfold start at h2;by_cases hi:i<vs.length
   ·exact hi
   ·rw[pH (by simpa using hi)] at h2;rw[M4] at h2;split at h2<;>cases h2
  have ha:vs[i]?=some v:=by
   unfold start at h2;rw[qH (by simpa using hi),i_] at h2;cases e:vs[i]? with
   |none=>rw[e] at h2;cases h2
   |some a=>rw[e] at h2;cases h2;rfl
  obtain⟨u,hu,rv⟩:=r.get ha;have hp:ps[i]?=some y:=by
   rw[<-S.pre,List.getElem?_take_of_lt (by lia)];exact h1
  have Yq:ps.Nodup:=by rw[<-S.pre];exact S.nd.sublist (List.take_sublist _ _)
  refine⟨u,rv,?_⟩;rcases S.par y (jd hp) with k|k
  ·exact .inl ⟨k,Yn Yq hp hu k⟩
  ·obtain⟨c,e⟩:=Yp (n:=s.heap.objs.size+1) k;refine .inr ⟨.inl k,c,e,?_⟩;have q:=x.cell y c e;rw[Yo Yq hp hu (by show scope.names.lookup y≠_;rw[k];decide)] at q;exact q
 ·exact e0.hok.fresh (zR (x.above y c (Fp h)))
 ·unfold start;show _=N.length;rw[cY,bN,Hj]
  lia
theorem zn3{CX:uX}{cm:Bool}{P:Program}{w:World}{K:W.Frag}{mg:Str->Option Value}{base:Heap}{k:Nat}{f:Addr}{name qual:Str}{params:Arguments}{body:List Stmt}{scope:Scope}{dV kV doc pm cdv ct oc:Value}{an od:Option Addr}
  {osl:Array (Option Value)} {N ps:List Str} {sp:Sp} (lk:K.lookup f=some ⟨oc,od,.func (PySem.W.fnOf name qual params body scope dV kV doc pm an cdv ct),osl⟩) (mU:PySem.W.codeIn K cdv qual=true) (S:iI N ps scope)
  (len:∀vs H Q E,sp vs H Q E->vs.length=ps.length)
  (I_:∀(A:Around) (outer:List Env) (s:Shared) (H:Hp) (vs:List V) (Q:VK) (E:XK),cD k (A.deeper (envOfC qual scope s.heap.objs.size f cdv))->sp vs H Q E->
   ∃t,pK (jO CX P w K mg base N qual scope f cdv A outer s H E cm) body t/\t {nx:=λ_ H'=>Q .non H',rt:=Q} (start N vs) H) :
  gA P w K mg base CX cm (k+1) f (PySem.W.fnOf name qual params body scope dV kV doc pm an cdv ct) ps sp:=by
 refine⟨len,λA outer s H args us vs Q E sH hr e0 hb r mV=>?_⟩;have hl:=len _ _ _ _ mV;have KX:K.In s.heap:=e0.mod.zV.keeps λb o e=>(e0.bs b o e).1;have lim:s.heap.NoLimit:=e0.mod.nolimit.keeps λb o e=>(e0.bs b o e).1;have Ja:∀y∈ps.zip us,scope.names.lookup y.1=some .local\/(scope.names.lookup y.1=some .cell/\((cellsFrom (s.heap.objs.size+1) scope.names []).lookup y.1).isSome=true):=λ⟨n,v⟩ hy=>by
  rcases S.par n (Nr hy).1 with q|q
  ·exact .inl q
  ·exact .inr ⟨q,Qo _ _ _ (.inl q)⟩
 refine codeAny_call_function hr.depth (KX _ _ lk) rfl S.co S.gen rfl (PySem.W.codeRec_of KX mU) (hb _ _ _ _ ?_);refine wpAny_newFunctionEnv_cells S.kind Ja λenv he s1 x=>?_;subst he;refine⟨lim.keeps x.toInCall.keep,codeAny_func ?_⟩;obtain⟨t,ht,hq⟩:=I_ A outer s H vs Q E (hr.deeper _) mV;have I:Inv (jO CX P w K mg base N qual scope f cdv A outer s H E cm) [] (start N vs) H s1:=zgp S sH e0 hl r x;refine jM (ht [] s1 (start N vs) H _ I hq) (λfl s' hs=>?_) λe s' hs=>hs;have fin:∀{Z':St} {H':Hp} {v:V} {u:Value},Inv (jO CX P w K mg base N qual scope f cdv A outer s H E cm) [] Z' H' s'->RelV v u->Q v H'->CE outer P w H s Q u s':=
  λ{Z' H' v u} cJ rv q=>⟨v,H',cJ.os,cJ.bare,cJ.base,cJ.hok,rv,q⟩
 cases fl with
 |ret u=>
  obtain⟨v,Z',H',cJ,rv,q⟩:=hs;exact fin cJ rv q
 |next=>
  obtain⟨Z',H',cJ,q⟩:=hs;exact fin (v:=V.non) (u:=Value.none) cJ rfl q
 |brk=>
  obtain⟨_,_,_,q⟩:=hs;exact False.elim q
 |cont=>
  obtain⟨_,_,_,q⟩:=hs;exact False.elim q
section
variable {X:Cx}{x:Str}{p pos:Pos}{e:Expr}{es:List Expr}{t:TA}{id T:String}{r:List V->Hp->VK->Prop}
noncomputable def Rq(r:List V->Hp->VK->Prop)(t:TA):TE:=λZ H Q=>t Z H λvs H1=>r vs H1 Q
theorem Yr(hc:dB X (.builtin id) r)(hg:Gl X x)(hm:X.mg x=none)(hv:bootBuiltins x=some (.builtin id))(ha:PA X (e::es) t)(hn:x≠"__name__":=by decide)(kZ:(x==("__debug__" : Str))=false:=by decide)
  (he:starEach (e::es) X.env=(false,eval e X.env)::starEach es X.env:=by rfl) (bM:(backTo pos (starEach es X.env)).any (·.1)=false:=by rfl):PE X (.Call (.Name x p) (e::es) [] pos) (Rq r t):=by
 intro ak s Z H Q I h;refine Hs (Aa I hg hm hv ?_ hn kZ);exact PyProof.Rows.callWith_builtin1 (aY (ha pos ak s Z H _ I h) λus s1 hx=>eF hx λvs H1 I1 r1 q1=>hc ak s1 Z H1 vs us Q I1 r1 q1) he bM
theorem zfV(hc:dB X (.type T) r)(hg:Gl X x)(hm:X.mg x=none)(hv:bootBuiltins x=some (.type T))(ha:PA X (e::es) t)(hn:x≠"__name__":=by decide)(kZ:(x==("__debug__" : Str))=false:=by decide)
  (he:starEach (e::es) X.env=(false,eval e X.env)::starEach es X.env:=by rfl) (bM:(backTo pos (starEach es X.env)).any (·.1)=false:=by rfl):PE X (.Call (.Name x p) (e::es) [] pos) (Rq r t):=by
 intro ak s Z H Q I h;refine Hs (Aa I hg hm hv ?_ hn kZ);exact G8 (aY (ha pos ak s Z H _ I h) λus s1 hx=>eF hx λvs H1 I1 r1 q1=>hc ak s1 Z H1 vs us Q I1 r1 q1) he bM
end
end L2
namespace HT
open PySem PyProof.Rows
noncomputable def lexLt:List Int->List Int->Bool
 |[],[]=>false
 |[],_::_=>true
 |_::_,[]=>false
 |x::xs,y::ys=>if x=y then lexLt xs ys else decide (x<y)
theorem k_(x y:Int)(xs ys:List Int):lexLt (x::xs) (y::ys)=if x=y then lexLt xs ys else decide (x<y):=rfl
theorem zc5:lexLt [] []=false:=rfl
theorem zcr(y:Int)(ys:List Int):lexLt [] (y::ys)=true:=rfl
theorem zct(x:Int)(xs:List Int):lexLt (x::xs) []=false:=rfl
theorem zhL(A:Around)(s:Shared)(a:Int)(t:Tok)(c:Int)(u:Tok):∃e,SeqAt.EqAt A s (.int a t) (.int c u) e/\(e=true↔a=c):=
 ⟨(a==c),SeqAt.EqAt.int_int a t c u,by simp⟩
theorem ziv(A:Around)(s:Shared)(a:Int)(t:Tok)(c:Int)(u:Tok)(prog:Program)(w:World)(E:Value->Shared->Prop)(Q:Value->Shared->Prop)(h:Q (.bool (decide (a<c))) s) :
  wpAny (model prog w) A (richCompare .Lt (.int a t) (.int c u)) Q E s:=
 (PyProof.Rows.lt_int h:wpAny (model prog w) A (compareOp .Lt (.int a t) (.int c u)) Q E s)
section
open PySem.SeqAt
open PySem.AutoSeq1 (wpAny_loadPart')
open PySem.MeetsSeq PySem.MeetsSeq2 PySem.MeetsSeq3
theorem zcK(l b:Addr)(items items2:Array Value)(n n2:Nat)(dd dd2:Option Addr)(sl sl2:Array (Option Value))(ns ms:List Int)(hi:IntsAre items.toList ns)(hj:IntsAre items2.toList ms) :
  Meets (Builtin.«tuple.__lt__» ⟨[.ref l,.ref b],[]⟩)
   (λ_ R s=>s.heap.get? l=some {cls:=.type "tuple",dict:=dd,data:=.seq items n,slots:=sl}/\s.heap.get? b=some {cls:=.type "tuple",dict:=dd2,data:=.seq items2 n2,slots:=sl2} /\
    R (.ok (.ret (.bool (lexLt ns ms)))) s):=
 .of_wp λprog w A R s h=>by
  obtain⟨hp,g,d,tk,os⟩:=s;obtain⟨hl,hb,h⟩:=h;have f2:=AutoSeq1.sub_tuple_tuple;have z1:items.size=ns.length:=by rw[<-hi.length];simp
  have z2:items2.size=ms.length:=by rw[<-hj.length];simp
  wp_walk using wpAny_loadPart' hl,wpAny_loadPart' hb,Nk _ (λrest b s'=>b.1=none/\s'=⟨hp,g,d,tk,os⟩/\∃(vs ws:List Value) (ns' Gi:List Int),rest=vs.zip ws /\
   IntsAre vs ns'/\IntsAre ws Gi/\ns'.length+items2.size=Gi.length+items.size/\R (.ok (.ret (.bool (lexLt ns' Gi)))) ⟨hp,g,d,tk,os⟩) _
  case turn=>
   rintro⟨y,x⟩ rest b s' ⟨hb',rfl,vs,ws,ns',Gi,hz,Rr,Oc,hlen,hR⟩;cases Rr with
   |nil=>rw[List.zip_nil_left] at hz;cases hz
   |cons a t Rt=>
    cases Oc with
    |nil=>rw[List.zip_nil_right] at hz;cases hz
    |cons c u Ru=>
     rw[Ht] at hz;injection hz with hyx hrest;injection hyx with hy hx;subst hy hx;rw[k_] at hR;simp only[iC] at hlen;obtain⟨e,he,uY⟩:=zhL A.in1 ⟨hp,g,d,tk,os⟩ a t c u;refine aA (he prog w _ _ ?_);cases e with
     |true=>
      rw[if_pos (uY.mp rfl)] at hR
      wp_walk
      exact⟨rfl,rfl,_,_,_,_,hrest,Rt,Ru,by lia,hR⟩
     |false=>
      rw[if_neg (λq=>absurd (uY.mpr q) Nf)] at hR;have hri:=ziv A.in1 ⟨hp,g,d,tk,os⟩ a t c u prog w
      wp_walk using hri
      exact⟨_,rfl,by simpa using hR⟩
  case fin=>
   rintro⟨b1,b2⟩ s' ⟨hb',rfl,vs,ws,ns',Gi,hz,Rr,Oc,hlen,hR⟩;simp only at hb';subst hb';have hv:lexLt ns' Gi=decide (items.size<items2.size):=by
    cases Rr with
    |nil=>
     cases Oc with
     |nil=>
      simp only[rW] at hlen;rw[zc5];exact(cI (by lia)).symm
     |cons c u hw=>
      simp only[rW,iC] at hlen;rw[zcr];exact(cP (by lia)).symm
    |cons a t hv=>
     cases Oc with
     |nil=>
      simp only[rW,iC] at hlen;rw[zct];exact(cI (by lia)).symm
     |cons c u hw=>
      rw[Ht] at hz;cases hz
   rw[hv] at hR
   wp_walk
   exact⟨_,rfl,by simpa [Builtin.Tuple.tupleCompareSizes] using hR⟩
  case h=>
   exact⟨rfl,rfl,items.toList,items2.toList,ns,ms,rfl,hi,hj,by lia,h⟩
end
section
variable {prog:Program}{w:World}{A:Around}{E:Value->Shared->Prop}{s:Shared}
theorem qe{l b:Addr}{items items2:Array Value}{ns ms:List Int}{Q:Value->Shared->Prop}(hl:IsTup s.heap l items)(hb:IsTup s.heap b items2)(hi:IntsAre items.toList ns)(hj:IntsAre items2.toList ms)
  (hu:A.units<cLine) (h:Q (.bool (lexLt ns ms)) s):wpAny (model prog w) A (compareOp .Lt (.ref l) (.ref b)) Q E s:=by
 obtain⟨⟨cls,dd,data,sl⟩,ho,hc,n,hd⟩:=id hl;obtain⟨⟨cls2,dd2,data2,sl2⟩,oE,ud,n2,hd2⟩:=id hb;simp only at hc hd ud hd2;subst hc hd ud hd2;exact richCompare_meets_room (op:=.Lt) ⟨_,ho,rfl⟩ ⟨_,oE,rfl⟩ PySem.F.slot_tuple_lt PySem.F.entry_tuple_lt (PySem.F.args_tuple_lt_2 _ _) (zcK l b items items2 n n2 dd dd2 sl sl2 ns ms hi hj)
  ⟨ho,oE,show Value.bool (lexLt ns ms)≠Value.notImplemented/\Q (.bool (lexLt ns ms)) s from ⟨(λx=>nomatch x),h⟩⟩ hu
theorem yu{t b:Addr}{vs ws:List Value}{Q:Value->Shared->Prop}(ht:IsTup s.heap t vs.toArray)(hb:IsTup s.heap b ws.toArray)(hv:vs≠[])
  (h1:ws=[]->Q (.ref t) s) (h2:ws≠[]->Q (.ref s.heap.objs.size) {s with heap:=s.heap.push {cls:=.type "tuple",data:=.seq (vs++ws).toArray}})
  (jP:vs.length+ws.length<=sizeLine):wpAny (model prog w) A (binaryOp .Add (.ref t) (.ref b)) Q E s:=by
 obtain⟨⟨cls,dd,data,sl⟩,ho,hc,n,hd⟩:=id ht;obtain⟨⟨cls2,dd2,data2,sl2⟩,oE,ud,n2,hd2⟩:=id hb;simp only at hc hd ud hd2;subst hc hd ud hd2;have e:vs.toArray++ws.toArray=(vs++ws).toArray:=by simp
 by_cases hw:ws=[]
 ·exact concat_meets ⟨_,ho,rfl⟩ ⟨_,oE,rfl⟩ noFill_tuple_add seq_tuple_add Qp Qn (Qm _ _)
   (tuple_addW1 t b vs.toArray ws.toArray n n2 dd dd2 sl sl2 (by simpa using hv) (by simp[hw])) ⟨ho,oE,h1 hw⟩
 ·refine concat_meets ⟨_,ho,rfl⟩ ⟨_,oE,rfl⟩ noFill_tuple_add seq_tuple_add Qp Qn (Qm _ _)
   (tuple_addW2 t b vs.toArray ws.toArray n n2 dd dd2 sl sl2 (by simpa using hv) (by simpa using hw) (by rw[dJ,dJ];exact jP)) ⟨ho,oE,?_⟩
  rw[e];exact h2 hw
noncomputable def bY(n d:Nat):Option Int->Nat
 |none=>d
 |some v=>if v<0 then (v+(n:Int)).toNat else min v.toNat n
theorem oF(n d:Nat):bY n d none=d:=rfl
theorem qR(n d k:Nat):bY n d (some (k:Int))=min k n:=by
 show (if (k:Int)<0 then ((k:Int)+(n:Int)).toNat else min (k:Int).toNat n)=min k n;rw[if_neg (by lia),wI]
theorem znc(n d:Nat)(hd:d<=n)(o:Option Int):bY n d o<=n:=by
 cases o with
 |none=>exact hd
 |some v=>
  show (if v<0 then (v+(n:Int)).toNat else min v.toNat n)<=n;by_cases hv:v<0
  ·rw[if_pos hv];lia
  ·rw[if_neg hv];exact Nat.min_le_right _ _
theorem Ys(v:Int)(n d:Nat):(if v<0 then max (v+(n:Int)) 0 else min v (n:Int))=((bY n d (some v):Nat):Int):=by
 show (if v<0 then max (v+(n:Int)) 0 else min v (n:Int))=(((if v<0 then (v+(n:Int)).toNat else min v.toNat n):Nat):Int);by_cases hv:v<0
 ·simp only[if_pos hv];lia
 ·simp only[if_neg hv];lia
theorem zfJ(lo hi:Option Int)(n:Nat):Builtin.Slice.sliceAdjust lo hi 1 (n:Int)=(((bY n 0 lo:Nat):Int),((bY n n hi:Nat):Int)):=by
 have h1:¬((1:Int)<0):=by lia
 unfold Builtin.Slice.sliceAdjust;simp only[h1,jA];refine Prod.ext ?_ ?_
 ·cases lo with
  |none=>rfl
  |some v=>exact Ys v n 0
 ·cases hi with
  |none=>rfl
  |some v=>exact Ys v n n
theorem zfN(i j:Nat):Builtin.Slice.slicePlaces (i:Int) (j:Int) 1=j-i:=by
 unfold Builtin.Slice.slicePlaces;have h1:(1:Int)>0:=by lia
 simp only[h1,if_true,Int.ediv_one]
 split<;>lia
theorem Rw{v:Value}{o:Option Int}{Q:Option Int->Shared->Prop}(p:IsPart v o)(h:Q o s):wpAny (model prog w) A (Builtin.Slice.slicePartIndex v) Q E s:=by
 cases p with
 |none=>exact slicePart_none h
 |int i t=>exact slicePart_int h
theorem Yt{sl:Addr}{vl vu:Value}{lo hi:Option Int}{n:Nat}{Q:Int×Int×Nat->Shared->Prop}(hs:s.heap.IsSliceOf sl vl vu .none)(pl:IsPart vl lo)(pu:IsPart vu hi)
  (h:Q (((bY n 0 lo:Nat):Int),1,bY n n hi-bY n 0 lo) s):wpAny (model prog w) A (Builtin.Slice.sliceApplied (.ref sl) (pure (n:Int))) Q E s:=by
 obtain⟨os,sJ,Cy,wO⟩:=id hs;unfold Builtin.Slice.sliceApplied Builtin.Slice.sliceFields;refine aA (aA (lM sJ wO (x:=vl) rfl (aA (lM sJ wO (x:=vu) rfl (aA (lM sJ wO (x:=.none) rfl (aL ?_)))))));refine aA (slicePart_none ?_);show wpAny _ _ (if ((1:Int)==0)=true then _ else _) _ _ s;rw[if_neg (by decide)];refine aA (Rw pl (aA (Rw pu (aA (aL ?_)))));show wpAny _ _ (match Builtin.Slice.sliceAdjust lo hi 1 (n:Int) with|(lo,hi)=>pure (lo,(1:Int),Builtin.Slice.slicePlaces lo hi 1)) _ _ s;rw[zfJ lo hi n];show wpAny _ _ (pure (((bY n 0 lo:Nat):Int),(1:Int),Builtin.Slice.slicePlaces ((bY n 0 lo:Nat):Int) ((bY n n hi:Nat):Int) 1)) _ _ s;rw[zfN];exact aL h
theorem zih(xs:Array Value)(i k:Nat):((List.range k).filterMap λ(m:Nat)=>xs[((i:Int)+(m:Int)*1).toNat]?).toArray=((xs.toList.drop i).take k).toArray:=by
 have e:(λ(m:Nat)=>xs[((i:Int)+(m:Int)*1).toNat]?)=λm=>xs[i+m]?:=by
  funext m
  have:((i:Int)+(m:Int)*1).toNat=i+m:=by lia
  rw[this]
 rw[e];have:=pick_run xs i k;rw[List.filterMap_map] at this;have e2:((λx=>xs[x]?)∘λx=>i+x)=λm=>xs[i+m]?:=rfl;rw[e2] at this;rw[this]
theorem iJ{t sl:Addr}{items:Array Value}{vl vu:Value}{lo hi:Option Int}{Q:Value->Shared->Prop}(ht:IsTup s.heap t items)(hs:s.heap.IsSliceOf sl vl vu .none)(pl:IsPart vl lo)(pu:IsPart vu hi)
  (hw:¬(bY items.size 0 lo=0/\bY items.size items.size hi=items.size))
  (h:Q (.ref s.heap.objs.size) {s with heap:=s.heap.push {cls:=.type "tuple",data:=.seq ((items.toList.drop (bY items.size 0 lo)).take (bY items.size items.size hi-bY items.size 0 lo)).toArray}})
  (jP:items.size<=sizeLine):wpAny (model prog w) A (getItem (.ref t) (.ref sl)) Q E s:=by
 have iK:sizeOk (.seq ((items.toList.drop (bY items.size 0 lo)).take (bY items.size items.size hi-bY items.size 0 lo)).toArray):=by
  show ((items.toList.drop (bY items.size 0 lo)).take (bY items.size items.size hi-bY items.size 0 lo)).toArray.size<=sizeLine;rw[dJ,xT,Hw,Bt]
  lia
 have hj:bY items.size items.size hi<=items.size:=znc _ _ (cH _) hi;obtain⟨os,sJ,Cy,wO⟩:=id hs;have Jc:s.TypeIs (.ref sl) "slice":=⟨os,sJ,Cy⟩;unfold getItem
 try with_reducible refine lJ ?_
 first|refine aA (aL ?_)|skip
 refine aA (wpAny_sequenceKey ht.typeIs (by decide) ?_);refine aA (zL (name:=Str.ofString "__getitem__") ht.typeIs xO
  (tX xO ht.typeIs entry_tuple_getitem ?_ (args_tuple_getitem _ _)))
 show wpAny _ _ (Builtin.Tuple.tupleItemsOf (.ref t) >>= _) _ _ s;refine aA (tupleItemsOf_ ht ?_);refine aA (zT Jc ?_);rw[if_pos (by decide)];refine aA (Yt hs pl pu ?_);have Rx:¬((((bY items.size 0 lo:Nat):Int)==0&&(1:Int)==1&&(bY items.size items.size hi-bY items.size 0 lo)==items.size)=true):=by
  intro q;rw[cU,cU] at q;have q1:((bY items.size 0 lo:Nat):Int)=0:=eq_of_beq q.1.1;have q2:bY items.size items.size hi-bY items.size 0 lo=items.size:=eq_of_beq q.2;exact hw ⟨by lia,by lia⟩
 show wpAny _ _ (if (((bY items.size 0 lo:Nat):Int)==0&&(1:Int)==1&&(bY items.size items.size hi-bY items.size 0 lo)==items.size)=true then _ else _) _ _ s;rw[if_neg Rx,zih]
 first
  |exact aA (m:=Builtin.Tuple.tupleExact _) (pI (aL ⟨_,rfl,aL h⟩) iK)
  |exact aA (m:=Builtin.Tuple.tupleExact _) (pI (aA (aL (aL ⟨_,rfl,aL h⟩))) iK)
  |exact aA (aA (m:=Builtin.Tuple.tupleExact _) (pI (aL (aL ⟨_,rfl,aL h⟩)) iK))
  |exact aA (aA (m:=Builtin.Tuple.tupleExact _) (pI (aL ⟨_,rfl,aL h⟩) iK))
end
end HT
namespace L2
open PySem PySem.Spec PyProof.Rows
noncomputable abbrev TO:=St->Hp->(Option Int->Hp->Prop)->Prop
def PO(X:Cx)(e:Option Expr)(t:TO):Prop:=
 ∀(ak:List (Addr×Obj)) (s:Shared) (Z:St) (H:Hp) (Q:Option Int->Hp->Prop),Inv X ak Z H s->t Z H Q->
  wpAny (model X.prog X.w) X.A (evalPart e X.env) (λu s'=>∃o H',Inv X ak Z H' s'/\IsPart u o/\Q o H') X.xe s
noncomputable def yw:TO:=λ_ H Q=>Q none H
noncomputable def Jd(t:TE):TO:=λZ H Q=>t Z H λx H1=>∃i,x=.int i/\Q (some i) H1
theorem Yu{ns:List Int}:∀{us:List Value},Vals (ns.map V.int) us->IntsAre us ns:=by
 induction ns with
 |nil=>intro us r;rw[List.map_nil] at r;cases r;exact .nil
 |cons n ns ih=>
  intro us r;rw[jL] at r;cases r with
  |cons r1 r2=>
   obtain⟨t,e⟩:=r1;subst e;exact .cons n t (ih r2)
section
variable {X:Cx}{e:Expr}{te:TE}{lo hi:Option Expr}{tl th:TO}{pos p2:Pos}
theorem zke:PO X none yw:=by
 intro ak s Z H Q I h;rw[evalPart_none];exact aL ⟨none,H,I,.none,h⟩
theorem zjd(h:PE X e te):PO X (some e) (Jd te):=by
 intro ak s Z H Q I hw;rw[evalPart_some];refine aY (h ak s Z H _ I hw) λu s1 hx=>eF hx λx H1 I1 r1 q1=>?_;obtain⟨i,rfl,q⟩:=q1;obtain⟨t,rfl⟩:=r1;exact⟨some i,H1,I1,.int i t,q⟩
def yx(X:Cx)(r:V->Option Int->Option Int->Hp->VK->Prop):Prop:=
 ∀(ak:List (Addr×Obj)) (s:Shared) (Z:St) (H:Hp) (x:V) (v vl vu:Value) (lo hi:Option Int) (sl:Addr) (Q:VK),Inv X ak Z H s->RelV x v->s.heap.IsSliceOf sl vl vu .none->IsPart vl lo->IsPart vu hi->r x lo hi H Q->
  ∃T id,typeLookup (.type T) "__getitem__"=pure (some (.builtin id))/\s.TypeIs v T/\wpAny (model X.prog X.w) X.A (getItem v (.ref sl)) (EP X ak Z Q) X.xe s
theorem yx.or{r r':V->Option Int->Option Int->Hp->VK->Prop}(h:yx X r)(h':yx X r'):yx X (λx lo hi H Q=>r x lo hi H Q\/r' x lo hi H Q):=by
 intro ak s Z H x v vl vu lo hi sl Q I rx hs pl pu q;rcases q with q|q
 ·exact h ak s Z H x v vl vu lo hi sl Q I rx hs pl pu q
 ·exact h' ak s Z H x v vl vu lo hi sl Q I rx hs pl pu q
noncomputable def tSl(r:V->Option Int->Option Int->Hp->VK->Prop)(te:TE)(tl th:TO):TE:=λZ H Q=>te Z H λx H1=>tl Z H1 λl H2=>th Z H2 λu H3=>r x l u H3 Q
theorem zix{r:V->Option Int->Option Int->Hp->VK->Prop}(hr:yx X r)(he:PE X e te)(hl:PO X lo tl)(hu:PO X hi th):PE X (.Subscript e (.Slice lo hi none p2) pos) (tSl r te tl th):=by
 intro ak s Z H Q I h;refine Subscript_ (aY (he ak s Z H _ I h) λv s1 hx=>eF hx λx H1 I1 r1 q1=>?_);refine wpAny_Slice (aY (hl ak s1 Z H1 _ I1 q1) λvl s2 hx=>eF hx λl H2 I2 pl q2=>aY (hu ak s2 Z H2 _ I2 q2) λvu s3 hx=>eF hx λu H3 I3 pu q3=>?_);rw[evalPart_none];refine aL ?_;have I4:Inv X ak Z H3 {s3 with heap:=s3.heap.push {cls:=.type "slice",data:=.fields #[vl,vu,.none]}}:=I3.kept (t':=s3.toks) λb ob q=>cG _ q;obtain⟨T,id,hT,ht,hg⟩:=hr ak {s3 with heap:=s3.heap.push {cls:=.type "slice",data:=.fields #[vl,vu,.none]}} Z H3 x v vl vu l u s3.heap.objs.size Q I4 r1 (Heap.IsSliceOf.new ..) pl pu q3;show wpAny (model X.prog X.w) X.A (subscriptTail e (.Slice lo hi none p2) v (.ref s3.heap.objs.size)) (EP X ak Z Q) X.xe {s3 with heap:=s3.heap.push {cls:=.type "slice",data:=.fields #[vl,vu,.none]}};exact tail_any (ops:=[.ref s3.heap.objs.size,v]) ht hT hg (by with_unfolding_all rfl)
noncomputable def mW(xs:List V)(lo hi:Option Int):List V:=(xs.drop (HT.bY xs.length 0 lo)).take (HT.bY xs.length xs.length hi-HT.bY xs.length 0 lo)
theorem Yv(xs:List V)(lo hi:Option Int):(mW xs lo hi).length<=xs.length:=by
 unfold mW;rw[xT,Hw]
 lia
noncomputable def Ry(K:W.Frag):V->Option Int->Option Int->Hp->VK->Prop:=λx lo hi H Q=>∃a xs,x=.ref a/\gj K H a xs /\
 ¬(HT.bY xs.length 0 lo=0/\HT.bY xs.length xs.length hi=xs.length)/\∀p,H p=none->Q (.ref p) (upd H p (.tup (mW xs lo hi)))
theorem zlP:yx X (Ry X.K):=by
 intro ak s Z H x v vl vu lo hi sl Q I rx hs pl pu h;obtain⟨a,xs,rfl,hx,hw,q⟩:=h;cases rx;obtain⟨its,r,ht,hz⟩:=I.tuple hx;have hlen:its.toArray.size=xs.length:=by rw[dJ];exact r.length.symm
 refine⟨"tuple",_,xO.lookup,ht.typeIs,?_⟩;refine HT.iJ ht hs pl pu (by rw[hlen];exact hw) ?_ (by rw[hlen];exact hz);rw[hlen];refine⟨.ref s.heap.objs.size,_,I.laid (t':=s.toks) (o:=.tup (mW xs lo hi)) (λb ob q=>cG _ q) (cH _) ?_,rfl,q _ (I.hok.fresh (cH _))⟩;exact⟨p7 (Yv xs lo hi) hz,_,(r.drop (HT.bY xs.length 0 lo)).take (HT.bY xs.length xs.length hi-HT.bY xs.length 0 lo),IsTup.new _ _⟩
noncomputable def Je(K:W.Frag):R2:=λx y H Q=>∃a b ns ms,x=.ref a/\y=.ref b/\gj K H a (ns.map V.int)/\gj K H b (ms.map V.int)/\Q (.bl (HT.lexLt ns ms)) H
theorem zlY(hu:X.A.units<cLine):cZ X (compareOp .Lt) (Je X.K):=by
 intro ak s Z H x y v u Q I rx ry h;obtain⟨a,b,ns,ms,rfl,rfl,ha,hb,q⟩:=h;cases rx;cases ry;obtain⟨its,r1,p1,_⟩:=I.tuple ha;obtain⟨its2,r2,p2,_⟩:=I.tuple hb;have i1:IntsAre its.toArray.toList ns:=Yu r1;have i2:IntsAre its2.toArray.toList ms:=Yu r2;exact HT.qe p1 p2 i1 i2 hu ⟨.bl (HT.lexLt ns ms),H,I,rfl,q⟩
theorem Vals.mX{xs:List V}{us:List Value}(r:Vals xs us):us=[]↔xs=[]:=by
 cases r with
 |nil=>simp
 |cons _ _=>simp
end
noncomputable def uf(n:Nat)(i:Int):Option Nat:=if 0<=i then (if i<n then some i.toNat else none) else if -(n:Int)<=i then some (i+n).toNat else none
noncomputable def qT{α:Type}(xs:List α)(i:Int):Option α:=(uf xs.length i).bind λj=>xs[j]?
theorem Yw{n:Nat}{i:Int}{j:Nat}(h:uf n i=some j):seqIndex? i n=some j/\j<n/\-(n:Int)<=i/\i<n:=by
 unfold uf at h;by_cases h0:0<=i
 ·rw[if_pos h0] at h;by_cases h1:i<n
  ·rw[if_pos h1] at h;have e:i.toNat=j:=dM h;exact⟨by rw[seqIndex_of h0 h1,e],by lia,by lia,h1⟩
  ·rw[if_neg h1] at h;cases h
 ·rw[if_neg h0] at h;by_cases h1 : -(n:Int)<=i
  ·rw[if_pos h1] at h;have e:(i+n).toNat=j:=dM h;exact⟨by rw[seqIndex_neg (by lia) h1,e],by lia,h1,by lia⟩
  ·rw[if_neg h1] at h;cases h
theorem RB{α:Type}{xs:List α}{i:Int}{v:α}(h:qT xs i=some v):∃j,seqIndex? i xs.length=some j/\xs[j]?=some v/\j<xs.length/\-(xs.length:Int)<=i/\i<xs.length:=by
 unfold qT at h;cases e:uf xs.length i with
 |none=>rw[e] at h;cases h
 |some j=>
  rw[e] at h;obtain⟨h1,h2,h3,h4⟩:=Yw e;exact⟨j,h1,h,h2,h3,h4⟩
def qU(b:Expr):Prop:=∀o i,subscripted b false o i=operate [o,i] (getItem o i)
def yC(X:Cx)(r:R2):Prop:=
 ∀(value slice:Expr) (ak:List (Addr×Obj)) (s:Shared) (Z:St) (H:Hp) (x y:V) (v u:Value) (Q:VK),Inv X ak Z H s->RelV x v->RelV y u->r x y H Q->
  subscripted slice false v u=operate [v,u] (getItem v u)->wpAny (model X.prog X.w) X.A (subscriptTail value slice v u) (EP X ak Z Q) X.xe s
def Jf(X:Cx)(id:String)(r:V->List V->Hp->VK->Prop):Prop:=
 ∀(ak:List (Addr×Obj)) (s:Shared) (Z:St) (H:Hp) (x:V) (xs:List V) (v:Value) (us:List Value) (Q:VK),Inv X ak Z H s->RelV x v->Vals xs us->r x xs H Q->
  wpAny (model X.prog X.w) X.A (call (.builtin id) (v::us)) (EP X ak Z Q) X.xe s
section
variable {X:Cx}{a b:Expr}{ta tb:TE}{pos:Pos}
theorem yC.or{r r':R2}(h:yC X r)(h':yC X r'):yC X (λx y H Q=>r x y H Q\/r' x y H Q):=by
 intro value slice ak s Z H x y v u Q I rx ry q hs;rcases q with q|q
 ·exact h value slice ak s Z H x y v u Q I rx ry q hs
 ·exact h' value slice ak s Z H x y v u Q I rx ry q hs
theorem znD{r:R2}(hr:yC X r)(ha:PE X a ta)(hb:PE X b tb)(hs:qU b):PE X (.Subscript a b pos) (Oa r ta tb):=by
 intro ak s Z H Q I h;exact Subscript_ (Cq ha hb I h λv u s2 x y H2 I2 rx ry q=>hr a b ak s2 Z H2 x y v u Q I2 rx ry q (hs _ _))
noncomputable def Jg(K:W.Frag):R2:=λx y H Q=>∃p xs i v,x=.ref p/\y=.int i/\dI K H p xs/\qT xs i=some v/\Q v H
noncomputable def Jh(K:W.Frag):R2:=λx y H Q=>∃p xs i v,x=.ref p/\y=.int i/\gj K H p xs/\qT xs i=some v/\Q v H
noncomputable def Ji:R2:=λx y H Q=>∃z i c,x=.str z/\y=.int i/\z.length<=sizeLine/\qT z.cps.toList i=some c/\Q (.str ⟨#[c]⟩) H
theorem yD:yC X (Jg X.K):=by
 intro value slice ak s Z H x y v u Q I rx ry h hs;obtain⟨p,xs,i,z,rfl,rfl,hq,he,q⟩:=h;cases rx;obtain⟨t,rfl⟩:=ry;obtain⟨its,r,pl,hz⟩:=I.list hq;obtain⟨j,h1,h2,h3,h4,h5⟩:=RB he;obtain⟨w,ew,oA⟩:=r.get h2;have hl:=r.length;have hn:=jf;have fin:EP X ak Z Q w s:=⟨z,H,I,oA,q⟩;by_cases h0:0<=i
 ·have hj:i.toNat=j:=by
   rw[seqIndex_of h0 h5] at h1;exact dM h1
  exact item_listR pl.isList h0 (by lia) (by rw[hj];simpa using ew) fin hs
 ·have hj:(i+(its.toArray.size:Int)).toNat=j:=by
   rw[seqIndex_neg (by lia) h4] at h1;rw[dJ,<-hl];exact dM h1
  exact subscriptTail_builtinR (x:=w) pl.isList.typeIs slot_list_getitem.lookup
   (wpAny_getItem_list_neg (Q:=λr s'=>r=w/\EP X ak Z Q r s') pl.isList (by lia) (by rw[dJ]<;>lia) (by lia) (by rw[hj];simpa using ew) ⟨rfl,fin⟩) hs
theorem Cz:yC X (Jh X.K):=by
 intro value slice ak s Z H x y v u Q I rx ry h hs;obtain⟨p,xs,i,z,rfl,rfl,hq,he,q⟩:=h;cases rx;obtain⟨t,rfl⟩:=ry;obtain⟨its,r,pl,hz⟩:=I.tuple hq;obtain⟨j,h1,h2,h3,h4,h5⟩:=RB he;obtain⟨w,ew,oA⟩:=r.get h2;have hl:=r.length;have hn:=jf;have fin:EP X ak Z Q w s:=⟨z,H,I,oA,q⟩;exact subscriptTail_builtinR (x:=w) pl.typeIs slot_tuple_getitem.lookup
  (getItem_tuple (j:=j) (Q:=λr s'=>r=w/\EP X ak Z Q r s') pl (by lia) (by lia) (by rw[dJ,<-hl];exact h1) (by simpa using ew) ⟨rfl,fin⟩) hs
theorem zlz:yC X Ji:=by
 intro value slice ak s Z H x y v u Q I rx ry h hs;obtain⟨z,i,c,rfl,rfl,hz,he,q⟩:=h;obtain⟨t,rfl⟩:=rx;obtain⟨t',rfl⟩:=ry;obtain⟨j,h1,h2,h3,h4,h5⟩:=RB he;have hl:z.cps.toList.length=z.length:=by simp[Str.length]
 rw[hl] at h1 h4 h5;have hn:=jf;exact tail_any (typeIs_str s z t) slot_str_getitem.lookup (getItem_str (c:=c) (by
  have e1:decide (i < -(2^63:Int))=false:=cI (by lia);have e2:decide (i>=2^63)=false:=cI (by lia);rw[e1,e2,Bool.or_false]) (by rw[h1];simpa using h2) ⟨.str ⟨#[c]⟩,H,I.tok _,⟨_,rfl⟩,q⟩) hs
noncomputable def RD(K:W.Frag):R2:=λx y H Q=>Jg K x y H Q\/Jh K x y H Q\/Ji x y H Q
theorem zlM:yC X (RD X.K):=yD.or (Cz.or zlz)
theorem zfA(its:List Value)(n j:Nat)(u:Value):Obj.mapSeq (·.setIfInBounds j u) {cls:=.type "list",data:=.seq its.toArray n}={cls:=.type "list",data:=.seq (its.set j u).toArray n}:=by
 simp[Obj.mapSeq]
theorem Inv.lst{ak:List (Addr×Obj)}{Z:St}{H:Hp}{s:Shared}{p:Addr}{xs:List V}(I:Inv X ak Z H s)(h:H p=some (.lst xs)) :
  ∃(its:List Value) (n:Nat),Vals xs its/\s.heap.get? p=some {cls:=.type "list",data:=.seq its.toArray n}/\xs.length<=sizeLine:=by
 obtain⟨z,its,n,r,e⟩:=I.hok p _ h;exact⟨its,n,r,e,z⟩
theorem Inv.CG{ak:List (Addr×Obj)}{Z:St}{H:Hp}{s:Shared}{p:Addr}{xs ys:List V}{its its':List Value}{n n':Nat}{f:Obj->Obj}(I:Inv X ak Z H s)(h:H p=some (.lst xs))
  (ho:s.heap.get? p=some {cls:=.type "list",data:=.seq its.toArray n}) (hf:f {cls:=.type "list",data:=.seq its.toArray n}={cls:=.type "list",data:=.seq its'.toArray n'}) (r:Vals ys its') (hz:ys.length<=sizeLine) (t:Nat) :
  Inv X ak Z (upd H p (.lst ys)) {s with heap:=s.heap.update p f,toks:=t}:=by
 have e:(s.heap.update p f).get? p=some {cls:=.type "list",data:=.seq its'.toArray n'}:=by
  rw[uH f ho (by rw[hf]<;>rfl),hf]
 refine I.write (x:=p) (e:=p) (by rw[h];trivial) (.inl rfl) (λb u hb q=>(wH _ _ (Ne.symm hb)).trans q) ⟨_,e⟩ ?_;exact⟨hz,its',n',r,e⟩
noncomputable def Jj:V->V->V->Hp->(Hp->Prop)->Prop:=λo i v H Q=>∃p xs k j,o=.ref p/\i=.int k/\H p=some (.lst xs)/\uf xs.length k=some j/\Q (upd H p (.lst (xs.set j v)))
theorem zh5:Ir X Jj:=by
 intro ak s Z H o i v ov iv u Q I ro ri rv h;obtain⟨p,xs,k,j,rfl,rfl,hp,hj,q⟩:=h;cases ro;obtain⟨t,rfl⟩:=ri;obtain⟨its,n,r,ho,hz⟩:=I.lst hp;obtain⟨h1,h2,h3,h4⟩:=Yw hj;have hl:=r.length;have hn:=jf;have I':Inv X ak Z (upd H p (.lst (xs.set j v))) {s with heap:=s.heap.update p (Obj.mapSeq (·.setIfInBounds j u))}:=
  I.CG hp ho (zfA its n j u) (r.set rv j) (by rw[pZ];exact hz) s.toks
 by_cases h0:0<=k
 ·have hk:k.toNat=j:=by
   rw[seqIndex_of h0 h4] at h1;exact dM h1
  exact PySem.W.ki_setAt ho h0 (by lia) (by rw[dJ,<-hl];exact h4) (by rw[hk];exact⟨_,I',q⟩)
 ·have hk:(k+(its.toArray.size:Int)).toNat=j:=by
   rw[seqIndex_neg (by lia) h3] at h1;rw[dJ,<-hl];exact dM h1
  exact PySem.W.ki_setBack ho (by lia) (by rw[dJ,<-hl];exact h3) (by lia) (by rw[hk];exact⟨_,I',q⟩)
theorem zdF(lo hi:Option Int)(n:Nat):(sliceBounds lo hi none n).1=((HT.bY n 0 lo:Nat):Int)/\(sliceBounds lo hi none n).2.1=((HT.bY n n hi:Nat):Int)/\(sliceBounds lo hi none n).2.2=1:=by
 refine⟨?_,?_,rfl⟩
 ·cases lo with
  |none=>simp[sliceBounds,HT.bY]
  |some i=>
   simp only[sliceBounds,HT.bY,Option.getD_none,show (1:Int)>0 by decide,if_true];by_cases h:i<0
   ·simp only[h,if_true]<;>lia
   ·simp only[h,jA]<;>lia
 ·cases hi with
  |none=>simp[sliceBounds,HT.bY]
  |some i=>
   simp only[sliceBounds,HT.bY,Option.getD_none,show (1:Int)>0 by decide,if_true];by_cases h:i<0
   ·simp only[h,if_true]<;>lia
   ·simp only[h,jA]<;>lia
theorem zcZ(its:List Value)(lo hi:Option Int):slicePick its.toArray lo hi none=((its.drop (HT.bY its.length 0 lo)).take (HT.bY its.length its.length hi-HT.bY its.length 0 lo)).toArray:=by
 obtain⟨h1,h2,h3⟩:=zdF lo hi its.toArray.size;unfold slicePick;rw[h1,h2,h3];simp only[sliceRange_one,pick_run,dJ]<;>rfl
noncomputable def Jk(K:W.Frag):V->Option Int->Option Int->Hp->VK->Prop:=λx lo hi H Q=>∃a xs,x=.ref a/\dI K H a xs/\∀p,H p=none->Q (.ref p) (upd H p (.lst (mW xs lo hi)))
theorem yE:yx X (Jk X.K):=by
 intro ak s Z H x v vl vu lo hi sl Q I rx hs pl pu h;obtain⟨a,xs,rfl,hx,q⟩:=h;cases rx;obtain⟨its,r,ht,hz⟩:=I.list hx;have hlen:=r.length;refine⟨"list",_,slot_list_getitem.lookup,ht.isList.typeIs,?_⟩;refine wpAny_getItem_list_slice ht.isList hs pl pu .none (by simp) ?_ (by rw[dJ]<;>lia);rw[zcZ,<-hlen];refine⟨.ref s.heap.objs.size,_,I.laid (t':=s.toks) (o:=.lst (mW xs lo hi)) (λb ob q=>cG _ q) (cH _) ?_,rfl,q _ (I.hok.fresh (cH _))⟩;exact⟨p7 (Yv xs lo hi) hz,_,0,(r.drop (HT.bY xs.length 0 lo)).take (HT.bY xs.length xs.length hi-HT.bY xs.length 0 lo),iB _ rfl⟩
theorem zdQ:dB X (.builtin "len") (λxs H Q=>∃p ys,xs=[.ref p]/\(dI X.K H p ys\/gj X.K H p ys)/\Q (.int ys.length) H):=by
 intro ak s Z H xs us Q I r h;obtain⟨p,ys,rfl,hq,q⟩:=h;obtain⟨u,rfl,rx⟩:=vals1 r;cases rx;have hn:=jf;rcases hq with hq|hq
 ·obtain⟨its,r',pl,hz⟩:=I.list hq;have hlen:=r'.length;exact Calls.call_len_list pl.isList (by simp only[dJ]<;>lia) ⟨.int ys.length,H,I.tok _,⟨s.toks+1,by rw[dJ,hlen]⟩,q⟩
 ·obtain⟨its,r',pl,hz⟩:=I.tuple hq;have hlen:=r'.length;exact len_tuple pl (by simp only[dJ]<;>lia) ⟨.int ys.length,H,I.tok _,⟨s.toks+1,by rw[dJ,hlen]⟩,q⟩
theorem zd2:dB X (.type "list") (λxs H Q=>∃p ys,xs=[.ref p]/\(dI X.K H p ys\/gj X.K H p ys)/\∀l,H l=none->Q (.ref l) (upd H l (.lst ys))):=by
 intro ak s Z H xs us Q I r h;obtain⟨p,ys,rfl,hq,q⟩:=h;obtain⟨u,rfl,rx⟩:=vals1 r;cases rx;have fin:∀(its:List Value),Vals ys its->ys.length<=sizeLine->∀(h':Heap) (c':Nat),(∀b o',s.heap.get? b=some o'->h'.get? b=some o')->
   h'.get? s.heap.objs.size=some {cls:=.type "list",dict:=none,data:=.seq its.toArray c',slots:=#[]}->EP X ak Z Q (.ref s.heap.objs.size) {s with heap:=h'}:=λits r' hz h' c' kp e=>
  ⟨.ref s.heap.objs.size,_,I.laid (t':=s.toks) kp (cH _) (show aU X.prog X.w _ h' _ (.lst ys) from ⟨hz,its,c',r',e⟩),rfl,q _ (I.hok.fresh (cH _))⟩
 rcases hq with hq|hq
 ·obtain⟨its,r',pl,hz⟩:=I.list hq;have hlen:=r'.length;obtain⟨o,ho,hc,n,hd⟩:=pl.isList;exact call_list_seq p (.inl rfl) ho hc hd (λh' c' kp e=>fin its r' hz h' c' kp e) (by simp only[dJ]<;>lia)
 ·obtain⟨its,r',pl,hz⟩:=I.tuple hq;have hlen:=r'.length;obtain⟨o,ho,hc,n,hd⟩:=pl;exact call_list_seq p (.inr rfl) ho hc hd (λh' c' kp e=>fin its r' hz h' c' kp e) (by simp only[dJ]<;>lia)
theorem zdb:dB X (.type "tuple") (λxs H Q=>∃p ys,xs=[.ref p]/\((dI X.K H p ys/\∀l,H l=none->Q (.ref l) (upd H l (.tup ys)))\/(gj X.K H p ys/\Q (.ref p) H))):=by
 intro ak s Z H xs us Q I r h;obtain⟨p,ys,rfl,h⟩:=h;obtain⟨u,rfl,rx⟩:=vals1 r;cases rx;rcases h with ⟨hq,q⟩|⟨hq,q⟩
 ·obtain⟨its,r',pl,hz⟩:=I.list hq;have hlen:=r'.length;refine call_tuple_list pl.isList (λh' kp=>?_) (by simp only[dJ]<;>lia);have I1:Inv X ak Z H {s with heap:=h'}:=I.kept (t':=s.toks) kp;have I2:Inv X ak Z (upd H h'.objs.size (.tup ys)) {s with heap:=h'.push {cls:=.type "tuple",data:=.seq its.toArray}}:=
   I1.laid (t':=s.toks) (λb o e=>cG _ e) (cH _) (show aU X.prog X.w _ _ _ (.tup ys) from ⟨hz,its,r',IsTup.new _ _⟩)
  exact⟨.ref h'.objs.size,_,I2,rfl,q _ (I1.hok.fresh (cH _))⟩
 ·obtain⟨its,r',pl,hz⟩:=I.tuple hq;exact call_tuple_same pl ⟨.ref p,H,I,rfl,q⟩
def Od(K:W.Frag)(T:String)(x:V)(H:Hp):Prop:=match x with
 |.str _=>T="str"
 |.int _=>T="int"
 |.ref p=>(T="list"/\∃xs,dI K H p xs)\/(T="tuple"/\∃o,K.lookup p=some o/\o.cls=.type "tuple"/\o.dict=none) \/
   (T="dict"/\((∃kvs,H p=some (.dK kvs))\/∃kvs,H p=some (.dT kvs)))\/(T="set"/\∃S n,H p=some (.set S n))
 |_=>False
theorem Yx{ak:List (Addr×Obj)}{Z:St}{H:Hp}{s:Shared}{T:String}{x:V}{v:Value}(I:Inv X ak Z H s)(r:RelV x v)(ty:Od X.K T x H) :
  s.TypeIs v T/\∀a,v=.ref a->∃ob,s.heap.get? a=some ob/\ob.dict=none:=by
 cases x with
 |str z=>
  obtain⟨t,rfl⟩:=r;cases (show T="str" from ty);exact⟨typeIs_str s z t,λ_ e=>nomatch e⟩
 |int i=>
  obtain⟨t,rfl⟩:=r;cases (show T="int" from ty);exact⟨typeIs_int s i t,λ_ e=>nomatch e⟩
 |ref p=>
  cases r;rcases ty with ⟨rfl,xs,hq⟩|⟨rfl,o,hk,hc,hd⟩|⟨rfl,hk⟩|⟨rfl,S,n,hk⟩
  ·obtain⟨its,_,pl,_⟩:=I.list hq;refine⟨pl.isList.typeIs,λa e=>?_⟩;cases e;obtain⟨o,n,e,c,hd,_⟩:=pl;exact⟨o,e,hd⟩
  ·refine⟨⟨o,I.sG p o hk,hc⟩,λa e=>?_⟩;cases e;exact⟨o,I.sG _ o hk,hd⟩
  ·have z:∃o,s.heap.get? p=some o/\o.ExactDict:=by
    rcases hk with ⟨kvs,hk⟩|⟨kvs,hk⟩
    ·obtain⟨_,_,_,_,o,_,_,e,ex,_⟩:=I.hok p _ hk;exact⟨o,e,ex⟩
    ·obtain⟨_,_,_,_,o,_,_,e,ex,_⟩:=I.hok p _ hk;exact⟨o,e,ex⟩
   obtain⟨o,e,ex⟩:=z;refine⟨⟨o,e,ex.1⟩,λa e2=>?_⟩;cases e2;exact⟨o,e,ex.2.1⟩
  ·obtain⟨o,_,_,_,e,ex,_⟩:=I.hok p _ hk;refine⟨⟨o,e,ex.1⟩,λa e2=>?_⟩;cases e2;exact⟨o,e,ex.2.1⟩
 |_=>exact False.elim ty
noncomputable def RG(K:W.Frag)(T:String)(r:V->List V->Hp->VK->Prop)(to:TE):TE:=λZ H Q=>to Z H λx H1=>Od K T x H1/\r x [] H1 Q
noncomputable def tBM(K:W.Frag)(T:String)(r:V->List V->Hp->VK->Prop)(to:TE)(t:TA):TE:=λZ H Q=>to Z H λx H1=>Od K T x H1/\t Z H1 λxs H2=>r x xs H2 Q
variable {o e:Expr}{es:List Expr}{to:TE}{t:TA}{name:Str}{apos cpos:Pos}{T id:String}{r:V->List V->Hp->VK->Prop}
theorem zmm(pa:PlainAttrs T)(slot:Slot T name id)(Jl:typeOf (.builtin id)=pure (.type "method_descriptor"))(hm:Jf X id r)(ho:PE X o to)
  (bR:attributeBase o name X.env (eval o X.env)=eval o X.env:=by rfl) (cV:(apos.endLine==cpos.line)=true:=by rfl):PE X (.Call (.Attribute o name apos) [] [] cpos) (RG X.K T r to):=by
 intro ak s Z H Q I h;refine wpAny_Call_method0_late bR cV (aY (ho ak s Z H _ I h) λv s1 ⟨x,H1,I1,r1,ty,q1⟩=>?_);obtain⟨h1,h2⟩:=Yx I1 r1 ty;exact⟨T,id,pa,slot,Jl,h1,h2,Calls.callWith_builtin rfl (PySem.evalArgs_none (hm ak s1 Z H1 x [] v [] Q I1 r1 .nil q1))⟩
theorem Yy(pa:PlainAttrs T)(slot:Slot T name id)(Jl:typeOf (.builtin id)=pure (.type "method_descriptor"))(hm:Jf X id r)(ho:PE X o to)(ha:PA X (e::es) t)
  (bR:attributeBase o name X.env (eval o X.env)=eval o X.env:=by rfl)
  (mY:((backTo cpos (starEach (e::es) X.env)).all (λx=>!x.1)&&(backToKw cpos (keywordEach [] X.env)).all (λx=>x.1.isSome)
  &&decide ((e::es).length+([]:List Keyword).length+(if ([]:List Keyword).isEmpty then 0 else 1)<30))=true:=by rfl)
  (cV:(apos.endLine==cpos.line)=true:=by rfl) (hs:starEach (e::es) X.env=(false,eval e X.env)::starEach es X.env:=by rfl) (cT:(backTo cpos (starEach es X.env)).any (·.1)=false:=by rfl) :
  PE X (.Call (.Attribute o name apos) (e::es) [] cpos) (tBM X.K T r to t):=by
 intro ak s Z H Q I h;refine wpAny_Call_method_late bR mY cV rfl (aY (ho ak s Z H _ I h) λv s1 ⟨x,H1,I1,r1,ty,q1⟩=>?_);obtain⟨h1,h2⟩:=Yx I1 r1 ty;refine⟨T,id,pa,slot,Jl,h1,h2,?_⟩;have hA:=ha cpos ak s1 Z H1 _ I1 q1;rw[hs] at hA ⊢;refine Calls.callWith_builtin (by show (false||(backTo cpos (starEach es X.env)).any (·.1))=false;rw[cT]<;>rfl) (Qv ?_);exact aY hA λus s2 hx=>eF hx λvs H2 I2 r2 q2=>hm ak s2 Z H2 x vs v us Q I2 r1 r2 q2
end
def Yz(X:Cx)(id:String)(r:V->List V->Hp->VK->Prop):Prop:=
 ∀(ak:List (Addr×Obj)) (s:Shared) (Z:St) (H:Hp) (x:V) (xs:List V) (v:Value) (us:List Value) (Q:VK),Inv X ak Z H s->RelV x v->Vals xs us->r x xs H Q->
  wpAny (model X.prog X.w) X.A (call (.builtin id) (v::us)) (EP X ak Z Q) X.xe s
theorem Vals.one{x:V}{us:List Value}(h:Vals [x] us):∃u,us=[u]/\RelV x u:=by
 cases h with
 |cons r t=>cases t;exact⟨_,rfl,r⟩
theorem Vals.two{x y:V}{us:List Value}(h:Vals [x,y] us):∃u v,us=[u,v]/\RelV x u/\RelV y v:=by
 cases h with
 |cons r t=>
  obtain⟨v,rfl,q⟩:=Vals.one t;exact⟨_,_,rfl,r,q⟩
theorem Vals.zero:∀{us:List Value},Vals [] us->us=[]
 |_,.nil=>rfl
theorem Vals.dropLast{xs:List V}{us:List Value}(h:Vals xs us):Vals xs.dropLast us.dropLast:=by
 induction h with
 |nil=>exact .nil
 |cons r t ih=>
  cases t with
  |nil=>exact .nil
  |cons q t'=>exact .cons r ih
theorem zfu{α:Type}(l:List α):l.eraseIdx (l.length-1)=l.dropLast:=by
 induction l with
 |nil=>rfl
 |cons a r ih=>
  cases r with
  |nil=>rfl
  |cons b r=>
   have e:(a::b::r).length-1=((b::r).length-1)+1:=by
    have h1:(a::b::r).length=r.length+2:=rfl;have h2:(b::r).length=r.length+1:=rfl
    lia
   rw[e,List.eraseIdx_cons_succ,ih]
   all_goals rfl
section
variable {X:Cx}{ak:List (Addr×Obj)}{Z:St}{H:Hp}{s:Shared}{l b:Addr}{xs ys zs:List V}
theorem Inv.Jm{its its':List Value}{n:Nat}{f:Array Value->Array Value}{t':Nat}(I:Inv X ak Z H s)(hH:H l=some (.lst xs))
  (e:s.heap.get? l=some {cls:=.type "list",data:=.seq its.toArray n}) (hf:f its.toArray=its'.toArray) (hv:Vals ys its') (hz:ys.length<=sizeLine) :
  Inv X ak Z (upd H l (.lst ys)) {s with heap:=s.heap.update l (Obj.mapSeq f),toks:=t'}:=by
 have q:=PySem.IsL.update e f;rw[hf] at q;refine I.write (x:=l) (e:=l) (by rw[hH];exact trivial) (.inl rfl) (λb' u hb hu=>(wH s.heap (Obj.mapSeq f) (Ne.symm hb)).trans hu) ⟨_,q⟩ ?_;exact⟨hz,its',_,hv,q⟩
theorem Inv.RJ{its:List Value}{t':Nat}(I:Inv X ak Z H s)(hv:Vals ys its)(hz:ys.length<=sizeLine) :
  Inv X ak Z (upd H s.heap.objs.size (.lst ys)) {s with heap:=s.heap.push {cls:=.type "list",data:=.seq its.toArray},toks:=t'}:=
 I.laid (λ_ _ q=>cG _ q) (cH _) ⟨hz,its,0,hv,iB _ rfl⟩
theorem Inv.fresh(I:Inv X ak Z H s):H s.heap.objs.size=none:=I.hok.fresh (cH _)
theorem Inv.Jo(I:Inv X ak Z H s)(hH:H l=some (.lst xs)):xs.length<=sizeLine/\∃(its:List Value) (n:Nat),Vals xs its/\xs.length=its.length/\s.heap.get? l=some {cls:=.type "list",data:=.seq its.toArray n}:=by
 obtain⟨z,its,n,r,e⟩:=I.hok l _ hH;exact⟨z,its,n,r,r.length,e⟩
end
section
variable {X:Cx}
noncomputable def yF:V->List V->Hp->VK->Prop:=λx vs H Q=>∃l xs y,x=.ref l/\vs=[y]/\H l=some (.lst xs)/\xs.length<sizeLine/\Q .non (upd H l (.lst (xs++[y])))
theorem YB:Yz X "list.append" yF:=by
 intro ak s Z H x vs v us Q I rx rv h;obtain⟨l,xs,y,rfl,rfl,hH,hz,q⟩:=h;cases rx;obtain⟨u,rfl,ru⟩:=rv.one;obtain⟨z,its,n,r,hl,e⟩:=I.Jo hH;refine BL F.slot_list_append ⟨_,e,rfl⟩ F.entry_list_append (F.args_list_append_2 _ _) (PySem.list_append l its.toArray n u (by rw[dJ];lia)) ⟨e,?_⟩;refine⟨.non,_,I.Jm (its':=its++[u]) hH e (by simp) (r.append (.cons ru .nil)) ?_,rfl,q⟩;rw[cY,List.length_singleton]
 lia
noncomputable def RK:V->List V->Hp->VK->Prop:=λx vs H Q=>∃l xs y,x=.ref l/\vs=[]/\H l=some (.lst xs)/\xs[xs.length-1]?=some y/\Q y (upd H l (.lst xs.dropLast))
theorem zkR:Yz X "list.pop" RK:=by
 intro ak s Z H x vs v us Q I rx rv h;obtain⟨l,xs,y,rfl,rfl,hH,hy,q⟩:=h;cases rx;have hus:=rv.zero;subst hus;obtain⟨z,its,n,r,hl,e⟩:=I.Jo hH;obtain⟨u,hu,ru⟩:=r.get hy;have hy':its.toArray[its.toArray.size-1]?=some u:=by
  show its.toArray[its.length-1]?=some u;rw[<-M7,<-hl];exact hu
 refine BL F.slot_list_pop ⟨_,e,rfl⟩ F.entry_list_pop (F.args_list_pop_1 _) (MeetsSeq.list_pop_last l its.toArray n u hy' (by rw[dJ];lia)) ⟨e,?_⟩;refine⟨y,_,I.Jm (its':=its.dropLast) hH e ?_ r.dropLast ?_,ru,q⟩
 ·show its.toArray.eraseIdxIfInBounds (its.toArray.size-1)=its.dropLast.toArray;rw[dJ,List.eraseIdxIfInBounds_toArray,zfu]
 ·rw[List.length_dropLast]
  lia
end
section
variable {prog:Program}{w:World}{A:Around}{E:Value->Shared->Prop}{s:Shared}
set_option maxRecDepth 100000 in
end
section
variable {X:Cx}
end
end L2
namespace YC
open PySem PySem.W PySem.Calls PyProof.Rows
theorem zbY{P:Params}{h:Heap}:∀(ns:List Int) (vs:List Value),WellAll P h vs (ns.map WData.int)->IntsAre vs ns:=by
 intro ns
 induction ns with
 |nil=>
  intro vs w;rw[List.map_nil] at w;cases w;exact .nil
 |cons n ns ih=>
  intro vs w;rw[jL] at w;cases w with
  |cons a b=>
   cases a;exact .cons _ _ (ih _ b)
theorem zgu{l:OpenLaw}{n:Nat}(hn:l.most=some n){P:Params}{h:Heap}{args:List WData}{vals:List Value}
  (hpre:l.row.toRowW.claim.pre args=true) (RL:WellAll P h vals args) :
  ∃a vs ns,vals=[Value.ref a]/\args=[WData.list (ns.map WData.int)]/\h.get? a=some {cls:=.type "list",data:=.seq vs.toArray}/\IntsAre vs ns/\ns.length<=n:=by
 have hsh:WShape.hasAll [] args [.list .int]=true:=(pre_splitW hpre).1;have hc:l.pre.holds [] {args:=args}=true:=(pre_splitW hpre).2;obtain⟨d,r,rfl,h1,h2⟩:=hasAllW_cons hsh;obtain rfl:=hasAllW_nil h2;obtain⟨xs,rfl,h3⟩:=hasW_list h1;obtain⟨ns,rfl⟩:=items_int h3;have hlen:ns.length<=n:=by
  unfold OpenLaw.pre at hc;have h4:(WTm.not (.lt (.lit (.int (n:Int))) (.len (.arg 0)))).holds [] {args:=[.list (ns.map .int)]}=true:=by
   have h4:=(holds_andW hc).1;rw[hn] at h4;exact h4
  have h5:=condW_of h4 (w_not (w_lt w_lit (w_len_list (w_arg rfl))));rw[bN] at h5;refine Hx λq=>?_;have q':(n:Int)<((ns.length:Nat):Int):=by lia
  first
   |(rw[cP q'] at h5;exact absurd h5 (by decide))
   |(simp at h5;lia)
 cases RL with
 |cons w1 w2=>
  cases w2;cases w1 with
  |list ho jg=>exact⟨_,_,ns,rfl,rfl,ho,zbY ns _ jg,hlen⟩
theorem zgv(l:OpenLaw)(args:List WData):l.row.toRowW.claim.post args (.bool true) args=true:=
 postW_of (r:=l.row.toRowW) (X:=(true==true))
  (show WShape.has [] (.bool true) .bool=true by first|rfl|decide|simp[WShape.has,WShape.arms,WShape.armsAll])
  (show (WTm.eq .res (.lit (.bool true))).value [] {args:=args,res:=some (.bool true),after:=args}=some (.bool (true==true)) from w_eq_bool (w_res rfl) w_lit) rfl
theorem oG{l:OpenLaw}{n:Nat}{q:Program}{loose:List Str}{XP:(Str->Option Value)->Heap->Prop}{YP:World->Heap->Prop}{d:DefRec}
  (hn:l.most=some n) (RM:d.params.defaults=[])
  (call:∀(w:World) (s₀ s₁:Shared) (mg mb:Str->Option Value) (fa:Addr) (o:Obj) (pm cd doc:Value) (a:Addr) (vs:List Value) (ns:List Int),
   Ground q loose [] XP w s₀ mg mb s₁.heap->YP w s₁.heap->
   s₁.heap.get? fa=some o->o.data=.func (docDef d.name d.params d.body d.scope pm cd doc)->s₁.heap.CodeRec cd d.name->mg d.name=some (.ref fa)->
   s₁.heap.get? a=some {cls:=.type "list",data:=.seq vs.toArray}->IntsAre vs ns->ns.length<=n->s₁.gens=#[]->
   codeAny (model l.prog w) callerA (.call (.ref fa) ⟨[.ref a],[]⟩) (λr s'=>r=.ok (.ret (.bool true))/\OldK s₁.heap s'.heap/\s'.os=s₁.os/\AllBare s'.gens) s₁) :
  WalkO q loose XP YP l.row.toRowW d [] (λf vs=>PySem.call f vs):=by
 intro w s₀ s₁ mg mb G Y fa o pm cd doc dV kV ho hd mU hD hmg hg args vals as hpre aac hrd RL jB;obtain rfl:dV=.none:=Dflts.none hD RM;obtain rfl:kV=.none:=Dflts.noKw hD;obtain⟨a,vs,ns,rfl,rfl,CJ,hints,hlen⟩:=zgu hn hpre RL;refine enter_call (HS (call w s₀ s₁ mg mb fa o pm cd doc a vs ns G Y ho (fd_plain hd) mU hmg CJ hints hlen hg) λr s' hq=>?_);obtain⟨rfl,h2,h3,h4⟩:=hq;exact⟨.inl ⟨.bool true,.bool true,[],rfl,λ_=>rfl,.bool true,zgv l _,λ_=>⟨List.Pairwise.nil,λ_ hm=>(nomatch hm)⟩⟩,h2,h3,h4⟩
section
variable {prog:Program}{w:World}{A:Around}{E:Value->Shared->Prop}{s:Shared}{K:Frag}
end
end YC
namespace L2
open PySem PySem.Spec PyProof.Rows
theorem YD:∀{vs:List Value} {ns:List Int},IntsAre vs ns->Vals (ns.map V.int) vs
 |_,_,.nil=>.nil
 |_,_,.cons n t h=>.cons ⟨t,rfl⟩ (YD h)
def Only(H:Hp):Prop:=∀b,H b=none\/∃o xs,H b=some (.uM o (.lst xs))
theorem zik{P:Program}{w:World}{K:W.Frag}{mg mb:Str->Option Value}{CX:uX}{k:Nat}{fa a:Addr}{fd:FuncData}{x:Str}{sp:Sp}{s₁:Shared}{vs:List Value}{ns:List Int}
  (KX:K.In s₁.heap) (Jp:s₁.heap.Ns mainGlobals mg) (hb:s₁.heap.Ns builtinsNs mb) (hbb:∀x:Str,x≠"__name__"->mb x=bootBuiltins x) (RN:s₁.heap.NoLimit) (hg:s₁.gens=#[])
  (ha:s₁.heap.get? a=some {cls:=.type "list",data:=.seq vs.toArray}) (hi:IntsAre vs ns) (hl:ns.length<=sizeLine) (hr:cD k callerA)
  (F:∀base:Heap,K.In base->base.Ns mainGlobals mg->gA P w K mg base CX true k fa fd [x] sp) (uZ:∀(s:Shared) (u:Value),BindsTo s fd ⟨[u],[]⟩ [(x,u)])
  (mV:∀H:Hp,Only H->dI K H a (ns.map V.int)->sp [.ref a] H (λv _=>v=.bl true) λ_ _ _=>False)
  (hCX:∀H e s',CX [] H s₁ (λ_ _ _=>False) e s'->False) :
  codeAny (model P w) callerA (.call (.ref fa) ⟨[.ref a],[]⟩) (λr s'=>r=.ok (.ret (.bool true))/\OldK s₁.heap s'.heap/\s'.os=s₁.os/\AllBare s'.gens) s₁:=by
 have rv:=YD hi;have lenV:=hi.length;have core:∀H:Hp,Only H->dI K H a (ns.map V.int)->iy P w H s₁.heap->(∀b,H b≠none->b=a)->(H a≠none->K.lookup a=none)->
   codeAny (model P w) callerA (.call (.ref fa) ⟨[.ref a],[]⟩) (λr s'=>r=.ok (.ret (.bool true))/\OldK s₁.heap s'.heap/\s'.os=s₁.os/\AllBare s'.gens) s₁:=by
  intro H hO hS hok hA hK;have qW:∀{b:Addr} {o:Obj},s₁.heap.get? b=some o->H b=none->(mO s₁.heap H).get? b=some o:=λe n=>zh2 e n;have I9:∀{b:Addr} {o:Obj} {es:Array DictEntry} {ep:Nat},s₁.heap.get? b=some o->o.data=.dict es ep->H b=none:=λ{b o es ep} e d=>by
   cases q:H b with
   |none=>rfl
   |some u=>
    have e':b=a:=hA b (by rw[q];simp);subst e';rw[ha] at e;cases e;have d':Data.seq vs.toArray _=Data.dict es ep:=d;cases d'
  have Oe:∀{b:Addr} {m:Str->Option Value},s₁.heap.Ns b m->(mO s₁.heap H).Ns b m:=λ{b m} ⟨o,es,ep,e,d,r⟩=>⟨o,es,ep,qW e (I9 e d),d,r⟩;have YF:K.In (mO s₁.heap H):=λb o e=>qW (KX b o e) (by
   cases q:H b with
   |none=>rfl
   |some u=>
    have e':b=a:=hA b (by rw[q];simp);subst e';rw[hK (by rw[q];simp)] at e;cases e)
  have hM:Mod K mg (mO s₁.heap H):=⟨YF,Oe Jp,⟨mb,Oe hb,hbb⟩,let ⟨mc,h1,h2⟩:=RN;⟨mc,Oe h1,h2⟩⟩;have e0:yt P w K mg (mO s₁.heap H) callerA [] s₁ H:=⟨rfl,hM,λb o e=>zi6 e,Nat.le_of_eq (zgQ _ _),trivial,λb hb=>absurd (show b∈([]:List Addr) from hb) (by simp),hok,.of_eq hg⟩;refine HS ((F _ YF (Oe Jp)).run callerA [] s₁ H ⟨[.ref a],[]⟩ [.ref a] [.ref a] _ _ (λ_=>rfl) hr e0 (uZ s₁ (.ref a)) (.cons rfl .nil) (mV H hO hS)) λr s' h=>?_;cases r with
  |error e=>exact(hCX H e s' h).elim
  |ok fl=>
   cases fl with
   |next=>exact False.elim h
   |brk=>exact False.elim h
   |cont=>exact False.elim h
   |ret u=>
    obtain⟨v,H',os,bare,un,RP,r',q⟩:=h;have q':v=.bl true:=q;subst q';obtain rfl:u=Value.bool true:=r';refine⟨rfl,OldK.of_keep λb o e=>?_,os,bare⟩;cases q:H b with
    |none=>exact un.keep b o e q (by intro z;exact absurd (show b∈([]:List Addr) from z) (by simp)) (by simp)
    |some u=>
     rcases hO b with z|⟨ob,xs,z⟩
     ·rw[q] at z;cases z
     ·have z2:=un.jN b ob _ z;obtain⟨e1,_⟩:=hok b _ z;obtain⟨e2,_⟩:=RP b _ z2;rw[e] at e1;cases e1;exact e2
 cases hk:K.lookup a with
 |some o=>
  have e:=KX a o hk;rw[ha] at e;cases e;refine core (λ_=>none) (λ_=>.inl rfl) (.inr ⟨_,vs.toArray,_,hk,rfl,rfl,rfl,by rw[dJ,lenV];exact hl,by simpa using rv⟩) (λb u z=>by have z':(none:Option HO)=some u:=z;cases z') (λb z=>absurd rfl z) λz=>absurd rfl z
 |none=>
  refine core (λb=>if b=a then some (.uM {cls:=.type "list",data:=.seq vs.toArray} (.lst (ns.map V.int))) else none) (λb=>?_) (.inl (.inr ⟨{cls:=.type "list",data:=.seq vs.toArray},if_pos rfl⟩)) (λb u z=>?_) (λb z=>?_) λ_=>hk
  ·by_cases hb:b=a
   ·exact .inr ⟨_,_,if_pos hb⟩
   ·exact .inl (if_neg hb)
  ·by_cases hb:b=a
   ·have z':=(if_pos hb).symm.trans z;cases z';subst hb;exact⟨ha,by rw[bN];exact hl,vs,_,rv,ha⟩
   ·have z':=(if_neg hb).symm.trans z;cases z'
  ·by_cases hb:b=a
   ·exact hb
   ·exact absurd (if_neg hb) z
def RQ(h0:Heap)(H:Hp)(h:Heap)(e:Addr)(hd:Value):Prop:=
 hd=.none\/∃T oT ts,hd=.ref T/\h0.get? T=none/\H T=none/\T≠e/\h.get? T=some oT/\oT.data=.fields ts/\ts[3]?=some .none
structure Exc(h0:Heap)(H:Hp)(h:Heap)(e C:Addr)(dx:Option Addr):Prop where
 new:h0.get? e=none
 un:H e=none
 ob:∃oe vs hd,h.get? e=some oe/\oe.cls=.ref C/\oe.dict=dx/\oe.data=.fields vs/\vs[1]?=some hd/\RQ h0 H h e hd
structure Jq(h0:Heap)(H:Hp)(fr:List Addr)(h h':Heap)(ch:List Addr):Prop where
 rec_:∀b∈ch,h0.get? b=none/\H b=none/\∃o vs,h.get? b=some o/\o.data=.fields vs
 keep:∀b o,h.get? b=some o->b∉fr->b∉ch->h'.get? b=some o
 slot:∀b o,h.get? b=some o->b∈fr->∃sl,h'.get? b=some {o with slots:=sl}
 there:∀b o,h.get? b=some o->∃o',h'.get? b=some o'
noncomputable def u5(head:Value)(L:Addr)(pl:List Value):Obj:=
 {cls:=.type "traceback",dict:=none,data:=.fields ([head,.ref L,.none,rawInt L,.none]++(if pl.isEmpty then List.replicate 6 Value.none else pl)).toArray}
theorem YG(o:Obj)(f:Array Value->Array Value):(o.mapFields f).dict=o.dict:=by
 obtain⟨c,d,dt,sl⟩:=o;cases dt<;>rfl
theorem YH(o:Obj)(f:Array Value->Array Value):(o.mapFields f).cls=o.cls:=by
 obtain⟨c,d,dt,sl⟩:=o;cases dt<;>rfl
section
variable {M:Model}{A:Around}{E:Value->Shared->Prop}{s:Shared}{base h0:Heap}{env:Env}{outer:List Env}{L e C:Addr}{dx:Option Addr}{H:Hp}{Q:Unit->Shared->Prop}
theorem YJ(hfr:A.frames=some (env::outer))(hl:s.heap.FunFrames base (env::outer))(hf:env.frame=some L)
  (he:s.heap.get? e=some oe) (hd:oe.data=.fields vs) (jP:1<vs.size)
  (k:∀h' T oT ts,s.heap.objs.size<=T->(∀b o,s.heap.get? b=some o->b∉frs (env::outer)->b≠e->h'.get? b=some o)->(∀b o,s.heap.get? b=some o->b∈frs (env::outer)->∃sl,h'.get? b=some {o with slots:=sl})->
   h'.get? e=some (oe.mapFields (·.setIfInBounds 1 (.ref T)))->h'.get? T=some oT->oT.data=.fields ts->3<ts.size->ts[3]?=some (rawInt L)->Q () {s with heap:=h'}) :
  wpAny M A (do let a <-frameOf env;let pl <-entryPlaceOf L hn;let b <-EntryCells.newEntry head a .none (rawInt L) .none pl;setField (.ref e) 1 b) Q E s:=by
 have Jr:e∉frs (env::outer):=λhm=>by
  obtain⟨_,o,ho,hx⟩:=hl.mem hm;rw[he] at ho;cases ho;exact hx vs hd
 refine aA (wpAny_frameOf_fun hfr hl hf λh₁ sl₁=>?_);refine aA (wpAny_entryPlaceOf λpl bM=>?_);unfold EntryCells.newEntry newFields;refine aA (pI ?_ (bM.sizeOk5 _ _ _ _ _));have e1:h₁.get? e=some oe:=(sl₁.2.1 e Jr).trans he;have e2:(h₁.push (u5 head L pl)).get? e=some oe:=cG _ e1;refine zQ e2 hd jP ?_;have ne:h₁.objs.size≠e:=wK (bW e1);have d3:=xQ hd (·.setIfInBounds 1 (Value.ref h₁.objs.size));have kp:∀b o,h₁.get? b=some o->b≠e->((h₁.push (u5 head L pl)).update e (Obj.mapFields (·.setIfInBounds 1 (Value.ref h₁.objs.size)))).get? b=some o:=λb o q n=>by
  rw[wH _ _ n.symm];exact cG _ q
 refine k _ h₁.objs.size (u5 head L pl) _ (by rw[sl₁.1];exact cH _) (λb o q n1 n2=>kp b o ((sl₁.2.1 b n1).trans q) n2) (λb o q m=>?_) (uH _ e2 (M8 d3)) ?_ rfl ?_ ?_
 ·obtain⟨sl,z⟩:=sl₁.2.2 b o q;exact⟨sl,kp b _ z λy=>Jr (y▸m)⟩
 ·rw[wH _ _ ne.symm];exact iB _ rfl
 ·simp only[dJ,cY,iC,rW]<;>lia
 ·first
   |(simp;done)
   |(rcases bM with rfl|⟨_,_,_,_,_,_,_,rfl⟩<;>simp)
theorem zil(hfr:A.frames=some (env::outer))(hl:s.heap.FunFrames base (env::outer))(hf:env.frame=some L)(x:Exc h0 H s.heap e C dx)
  (k:∀h' T oT oe ts vs ch,Jq h0 H (frs (env::outer)) s.heap h' ch->s.heap.objs.size<=T->h'.get? e=some oe->oe.cls=.ref C->oe.dict=dx->oe.data=.fields vs->vs[1]?=some (.ref T)->h'.get? T=some oT->oT.data=.fields ts->
   3<ts.size->ts[3]?=some (rawInt L)->Q () {s with heap:=h'}):wpAny M A (noteFrame (.ref e) env) Q E s:=by
 obtain⟨oe,vs,hd,he,hc,Ac,oH,h1,tb⟩:=x.ob;have jP:1<vs.size:=(G9.mp h1).1;have Jr:∀b o ws,s.heap.get? b=some o->o.data=.fields ws->b∉frs (env::outer):=λb o ws q d hm=>by
  obtain⟨_,o',ho,hx⟩:=hl.mem hm;rw[q] at ho;cases ho;exact hx ws d
 unfold noteFrame;simp only[hf];refine aA (lM he oH h1 ?_);rcases tb with rfl|⟨T,oT,ts,rfl,nT,uT,neT,gT,dT,h3⟩
 ·rw[if_neg (by decide)];refine YJ hfr hl hf he oH jP λh' T oT ts lt kp sl ge gT dT z3 z4=>?_;refine k h' T oT _ ts _ [e] ⟨λb hb=>?_,λb o q n1 n2=>kp b o q n1 λz=>n2 (by rw[z];exact .head _),sl,λb o q=>?_⟩ lt ge ((YH _ _).trans hc) ((YG _ _).trans Ac) (xQ oH _) (by simp[jP]) gT dT z3 z4
  ·obtain rfl:b=e:=by simpa using hb
   exact⟨x.new,x.un,oe,vs,he,oH⟩
  ·by_cases z:b=e
   ·subst z;exact⟨_,ge⟩
   ·by_cases m:b∈frs (env::outer)
    ·obtain⟨w,q'⟩:=sl b o q m;exact⟨_,q'⟩
    ·exact⟨o,kp b o q m z⟩
 ·rw[if_pos (show (Value.ref T != Value.none)=true from by simp)];refine aA (lM gT dT h3 ?_);rw[if_neg (show ¬((Value.none==rawInt L)=true) from by simp[rawInt])];have z3:3<ts.size:=(G9.mp h3).1;refine aA (zQ gT dT z3 ?_);have oth:∀b,b≠T->(s.heap.update T (Obj.mapFields (·.setIfInBounds 3 Value.none))).get? b=s.heap.get? b:=λb n=>wH _ _ n.symm;have CK:(s.heap.update T (Obj.mapFields (·.setIfInBounds 3 Value.none))).FunFrames base (env::outer):=hl.of_keeps λb o q nd=>⟨o,(oth b λz=>by subst z;rw[gT] at q;cases q;exact nd ts dT).trans q,rfl⟩;have sT:(s.heap.update T (Obj.mapFields (·.setIfInBounds 3 Value.none))).get? T=some (oT.mapFields (·.setIfInBounds 3 Value.none)):=uH _ gT (M8 (xQ dT _));refine YJ hfr CK hf ((oth e neT.symm).trans he) oH jP λh' T' oT' ts' lt kp sl ge gT' dT' z3' z4'=>?_;have lt':s.heap.objs.size<=T':=by
   have:=lt;simp only[Heap.size_after_update] at this;exact this
  refine k h' T' oT' _ ts' _ [e,T] ⟨λb hb=>?_,λb o q n1 n2=>kp b o ((oth b λz=>n2 (by simp[z])).trans q) n1 λz=>n2 (by simp[z]),λb o q m=>?_,λb o q=>?_⟩ lt' ge ((YH _ _).trans hc) ((YG _ _).trans Ac) (xQ oH _) (by simp[jP]) gT' dT' z3' z4'
  ·have hb':b=e\/b=T:=by simpa using hb
   rcases hb' with rfl|rfl
   ·exact⟨x.new,x.un,oe,vs,he,oH⟩
   ·exact⟨nT,uT,oT,ts,gT,dT⟩
  ·exact sl b o ((oth b λz=>by subst z;exact Jr b o ts q (by rw[gT] at q;cases q;exact dT) m).trans q) m
  ·by_cases z:b=e
   ·subst z;exact⟨_,ge⟩
   ·by_cases y:b=T
    ·subst y;exact⟨_,kp b _ sT (Jr b oT ts gT dT) z⟩
    ·by_cases m:b∈frs (env::outer)
     ·obtain⟨w,q'⟩:=sl b o ((oth b y).trans q) m;exact⟨_,q'⟩
     ·exact⟨o,kp b o ((oth b y).trans q) m z⟩
theorem YK(he:s.heap.get? e=some oe)(hd:oe.data=.fields vs)(h1:vs[1]?=some (.ref T))(gT:s.heap.get? T=some oT)(dT:oT.data=.fields ts)(z3:3<ts.size)
  (k:∀h',(∀b o,b≠T->s.heap.get? b=some o->h'.get? b=some o)->h'.get? T=some (oT.mapFields (·.setIfInBounds 3 Value.none))->Q () {s with heap:=h'}):wpAny M A (setFlight (.ref e) none) Q E s:=by
 unfold setFlight;refine aA (lM he hd h1 ?_);rw[if_pos (show (Value.ref T != Value.none)=true from by simp)];exact zQ gT dT z3 (k _ (λb o n q=>(wH _ _ n.symm).trans q) (uH _ gT (M8 (xQ dT _))))
theorem YL(hfr:A.frames=some (env::outer))(hl:s.heap.FunFrames base (env::outer))(hf:env.frame=some L)(x:Exc h0 H s.heap e C dx)
  (qP:∀b,s.heap.objs.size<=b->H b=none) (h0s:∀b o,h0.get? b=some o->∃o',s.heap.get? b=some o')
  (k:∀h' ch,Jq h0 H (frs (env::outer)) s.heap h' ch->Exc h0 H h' e C dx->Q () {s with heap:=h'}) :
  wpAny M A (noteFrame (.ref e) env) (λ_ s₁=>wpAny M A (setFlight (.ref e) none) Q E s₁) E s:=by
 have ele:∃o,s.heap.get? e=some o:=let ⟨oe,_,_,he,_⟩:=x.ob;⟨oe,he⟩;refine zil hfr hl hf x λh' T oT oe ts vs ch t lt ge hc Ac oH h1 gT dT z3 z4=>?_;have neT:T≠e:=λz=>by
  obtain⟨o,q⟩:=ele;exact absurd (g8 (bW q) (z▸lt)) (nW _)
 refine YK (s:={s with heap:=h'}) ge oH h1 gT dT z3 λh2 kp gT2=>?_;have nT:∀b o,s.heap.get? b=some o->b≠T:=λb o q z=>absurd (g8 (bW q) (z▸lt)) (nW _);refine k h2 ch ⟨t.rec_,λb o q n1 n2=>kp b o (nT b o q) (t.keep b o q n1 n2),λb o q m=>?_,λb o q=>?_⟩ ⟨x.new,x.un,oe,vs,.ref T,kp e oe neT.symm ge,hc,Ac,oH,h1,.inr ⟨T,_,_,rfl,?_,qP T lt,neT,gT2,xQ dT _,by simp[z3]⟩⟩
 ·obtain⟨sl,q'⟩:=t.slot b o q m;exact⟨sl,kp b _ (nT b o q) q'⟩
 ·obtain⟨o',q'⟩:=t.there b o q;exact⟨o',kp b o' (nT b o q) q'⟩
 ·cases z:h0.get? T with
  |none=>rfl
  |some o=>
   obtain⟨o',q⟩:=h0s T o z;exact absurd rfl (nT T o' q)
end
noncomputable abbrev XS:=St->Value->Option Addr->Hp->Prop
def Sub(h0 h:Heap):Prop:=∀b o,h0.get? b=some o->∃o',h.get? b=some o'
theorem Sub.none{h0 h:Heap}(x:Sub h0 h){b:Addr}(e:h.get? b=none):h0.get? b=none:=by
 cases q:h0.get? b with
 |none=>rfl
 |some o=>
  obtain⟨o',z⟩:=x b o q;rw[e] at z;cases z
theorem Exc.older{h0 h1:Heap}{H:Hp}{h:Heap}{e C:Addr}{dx:Option Addr}(x:Exc h1 H h e C dx)(y:Sub h0 h1):Exc h0 H h e C dx:=by
 obtain⟨oe,vs,hd,a,b,c,d,f,tb⟩:=x.ob;refine⟨y.none x.new,x.un,oe,vs,hd,a,b,c,d,f,?_⟩;rcases tb with z|⟨T,oT,ts,z1,z2,z3⟩
 ·exact .inl z
 ·exact .inr ⟨T,oT,ts,z1,y.none z2,z3⟩
section
variable {X:Cx}{ak:List (Addr×Obj)}{Z:St}{H:Hp}{s:Shared}{h0 h':Heap}{ch fr:List Addr}
theorem iy.Js{P:Program}{w:World}{h:Heap}(x:iy P w H h)(t:Jq h0 H fr h h' ch)(hf:∀b∈fr,H b=none):iy P w H h':=λa o e=>by
 have st:∀b u,(b=a\/H b=some (.own a))->h.get? b=some u->h'.get? b=some u:=λb u z q=>by
  have nb:H b≠none:=by
   rcases z with z|z
   ·rw[z,e];simp
   ·rw[z];simp
  exact t.keep b u q (λm=>nb (hf b m)) λm=>nb (t.rec_ b m).2.1
 exact(x a o e).stay st (λ_ z=>z) λ_ _ z=>z
theorem Inv.Js(I:Inv X ak Z H s)(t:Jq h0 H (frs X.stack) s.heap h' ch)(hs:∀b o,X.s₀.heap.get? b=some o->b∉X.ex->∃o',h0.get? b=some o')(hp:∀p∈X.pn++ak,∃o,h0.get? p.1=some o):Inv X ak Z H {s with heap:=h'}:=by
 refine I.call (g':=s.gens) (d':=s.drawn) (t':=s.toks) (ch:=ch) ⟨λb o q _ n1 n2=>t.keep b o q n1 n2,λb o q _ m _=>t.slot b o q m,λ_ _ _ n _=>n,λb o q _=>t.there b o q,λ_ _ q=>q,λ_ _ _ q=>q,λ_ ps q=>⟨#[],by rw[q];simp⟩⟩ (I.hok.Js t I.jX) I.bare λb hb=>?_;obtain⟨n0,_,o,vs,q,d⟩:=t.rec_ b hb;refine⟨?_,λz=>?_,λx c e z=>?_,λp hq z=>?_⟩
 ·by_cases m:b∈X.ex
  ·exact .inl m
  ·refine .inr ?_;cases z:X.s₀.heap.get? b with
   |none=>rfl
   |some u=>
    obtain⟨o',z'⟩:=hs b u z m;rw[n0] at z';cases z'
 ·subst z;obtain⟨m,⟨ol,es,ep,e1,e2,_⟩,_⟩:=I.loc;rw[q] at e1;cases e1;rw[d] at e2;cases e2
 ·subst z;obtain⟨v,oc,e1,e2⟩:=I.cell x c e;rw[q] at e1;cases e1;rw[d] at e2;cases e2
 ·obtain⟨u,e1⟩:=hp p hq;rw[z,n0] at e1;cases e1
end
def Raises(X:Cx)(EX:XS):Prop:=
 ∀(ak:List (Addr×Obj)) (Z:St) (H:Hp) (s:Shared) (h0:Heap) (e C:Addr) (dx:Option Addr),Inv X ak Z H s->(∀b o,X.s₀.heap.get? b=some o->b∉X.ex->∃o',h0.get? b=some o')->
  (∀p∈X.pn++ak,∃o,h0.get? p.1=some o)->Sub h0 s.heap->Exc h0 H s.heap e C dx->EX Z (.ref C) dx H->X.xe (.ref e) s
noncomputable def mZ(P:Program)(w:World):uX:=λouter H s E e s'=>
 ∃(a C:Addr) (dx:Option Addr) (H':Hp),e=.ref a/\s'.os=s.os/\AllBare s'.gens/\Un (frs outer) [] H H' s.heap s'.heap/\iy P w H' s'.heap/\Exc s.heap H' s'.heap a C dx/\E (.ref C) dx H'
theorem zfH{P:Program}{w:World}{K:W.Frag}{mg:Str->Option Value}{base:Heap}{N:List Str}{qual:Str}{scope:Scope}{f:Addr}{cd:Value}{A:Around}{outer:List Env}{s:Shared}{H:Hp}{E:XK}{cm:Bool} :
  Raises (jO (mZ P w) P w K mg base N qual scope f cd A outer s H E cm) (λ_ C dx H'=>E C dx H'):=by
 intro ak Z H1 s1 h0 e C dx I hs hp h01 x ex;have I0:Inv (jO (mZ P w) P w K mg base N qual scope f cd A outer s H E cm) [] Z H1 s1:=I.mR λp z=>absurd z (by simp);show wpAny (model P w) (A.deeper (envOfC qual scope s.heap.objs.size f cd)) (leaving (envOfC qual scope s.heap.objs.size f cd) (.ref e)) _ _ s1;unfold leaving;have hsub:Sub s.heap h0:=λb o q=>hs b o q (by show b∉([]:List Addr);simp);refine aA (YL (base:=base) (outer:=outer) (L:=s.heap.objs.size) I0.ok.frames I0.stack rfl x (λb z=>I0.hok.fresh z) h01 λh' ch t x'=>?_);have fin:∀b o,s.heap.get? b=some o->b∉ch:=λb o q m=>by
  have z:=hsub.none (t.rec_ b m).1;rw[q] at z;cases z
 have nL:∀b o,s.heap.get? b=some o->b∉frs outer->b∉frs (envOfC qual scope s.heap.objs.size f cd::outer):=λb o q n m=>by
  have m':b∈s.heap.objs.size::frs outer:=m;rcases dh.mp m' with z|z
  ·exact absurd (bW q) (by rw[z];exact nW _)
  ·exact n z
 refine⟨e,C,dx,H1,rfl,I0.os,I0.bare,⟨λb o q n hb _=>?_,λb o q n hb _=>?_,λb o q n _=>I0.base.free b o q n (by show b∉([]:List Addr);simp),λb o q _=>?_,I0.base.tups,I0.base.jN,I0.base.kJ⟩,I0.hok.Js t I0.jX,x'.older hsub,ex⟩
 ·exact t.keep b o (I0.base.keep b o q n hb (by show b∉([]:List Addr);simp)) (nL b o q hb) (fin b o q)
 ·obtain⟨sl,q1⟩:=I0.base.slot b o q n hb (by show b∉([]:List Addr);simp);obtain⟨sl',q2⟩:=t.slot b _ q1 (show b∈s.heap.objs.size::frs outer from fM _ hb);exact⟨sl',q2⟩
 ·obtain⟨o',q1⟩:=I0.base.there b o q (by show b∉([]:List Addr);simp);exact t.there b o' q1
section
variable {X:Cx}{cm:Bool}{k:Nat}{f C:Addr}{fd:FuncData}{ps:List Str}{sp:Sp}{EX:XS}{x m:Str}{p pos apos:Pos}{e o:Expr}{es:List Expr}{ta:TE}{t:TA}
theorem Raises.pass(R:Raises X EX)(I:Inv X ak Z H s)(h:mZ X.prog X.w X.stack H s (EX Z) v s'):X.xe v s':=by
 obtain⟨a,C,dx,H',rfl,os,bare,un,hok,x,q⟩:=h;have ao:Sub s.heap s'.heap:=λb o z=>un.there b o z (by simp);refine R ak Z H' s' s.heap a C dx (I.call' os un hok bare λb z=>absurd z (by simp)) (λb o z n=>I.base.there b o z n) (λp hp=>?_) ao x q;exact⟨p.2,(I.pin p hp).1⟩
noncomputable def CP(sp:Sp)(EX:XS)(t:TA):TE:=λZ H Q=>t Z H λvs H1=>sp vs H1 Q (EX Z)
theorem zkx(F:gA X.prog X.w X.K X.mg X.base (mZ X.prog X.w) cm k f fd ps sp)(sH:cm=true->X.aj=true)(hr:cD k X.A)(hb:Binds X.K fd ps [])(R:Raises X EX)
  (I:Inv X ak Z H s) (r:Vals vs us) (h:sp vs H Q (EX Z)):wpAny (model X.prog X.w) X.A (call (.ref f) us) (EP X ak Z Q) X.xe s:=by
 have hl:us.length=ps.length:=by rw[<-r.length];exact F.len _ _ _ _ h
 have hb':=hb s us I.sG (by rw[FN];exact hl);rw[FN] at hb';refine BP (HS (F.run X.A X.stack s H ⟨us,[]⟩ us vs Q (EX Z) (λz=>I.ok.hd (sH z)) hr I.env0 hb' r h) λr s' hq=>?_);cases r with
 |error v=>exact R.pass I hq
 |ok fl=>
  cases fl with
  |ret u=>exact I.after hq
  |next=>exact False.elim hq
  |brk=>exact False.elim hq
  |cont=>exact False.elim hq
theorem zhJ(F:gA X.prog X.w X.K X.mg X.base (mZ X.prog X.w) cm k f fd ps sp)(sH:cm=true->X.aj=true)(hr:cD k X.A)(hg:Gl X x)(hm:X.mg x=some (.ref f))(hk:PySem.W.keepIn X.K (.ref f)=true)(hb:Binds X.K fd ps [])(R:Raises X EX)
  (ha:PA X (e::es) t) (kZ:(x==("__debug__" : Str))=false:=by decide) (he:starEach (e::es) X.env=(false,eval e X.env)::starEach es X.env:=by rfl) (bM:(backTo pos (starEach es X.env)).any (·.1)=false:=by rfl) :
  PE X (.Call (.Name x p) (e::es) [] pos) (CP sp EX t):=by
 intro ak s Z H Q I h;refine Hs (Ik I hg hm ?_ kZ);exact PySem.W.callWith_K (h₀:=X.base) I.ok.mod.zV hk (aY (ha pos ak s Z H _ I h) λus s1 ⟨vs,H1,I1,r,q⟩=>⟨I1.sG,zkx F sH hr hb R I1 r q⟩) he bM
theorem aU.there{P:Program}{w:World}{H:Hp}{h:Heap}{a:Addr}{o:HO}(x:aU P w H h a o):∃ob,h.get? a=some ob:=by
 cases o with
 |lst xs=>obtain⟨_,_,_,_,q⟩:=x;exact⟨_,q⟩
 |tup xs=>obtain⟨_,_,_,ob,q,_⟩:=x;exact⟨_,q⟩
 |dK kvs=>obtain⟨_,_,_,_,ob,_,_,q,_⟩:=x;exact⟨_,q⟩
 |dT kvs=>obtain⟨_,_,_,_,ob,_,_,q,_⟩:=x;exact⟨_,q⟩
 |set S n=>obtain⟨ob,_,_,_,q,_⟩:=x;exact⟨_,q⟩
 |ins C dx fs=>obtain⟨_,_,_,q,_⟩:=x;exact⟨_,q⟩
 |own y=>exact x
 |xd fs=>obtain⟨_,⟨_,_,_,q,_⟩,_⟩:=x;exact⟨_,q⟩
 |rng lo hi=>obtain⟨_,_,_,q⟩:=x;exact⟨_,q⟩
 |uM ob u=>obtain⟨q,_⟩:=x;exact⟨_,q⟩
 |zW ps=>exact⟨_,(show h.get? a=some _ from x)⟩
 |met f y=>exact⟨_,(show h.get? a=some _ from x)⟩
 |ext U=>obtain⟨_,q,_⟩:=x;exact q
theorem zjU{K:W.Frag}{h:Heap}{C:Addr}{bmB:List Value}{newId:String}(XI:K.In h)(q:PySem.W.excIn K C bmB newId=true) :
  ∃bm N nm qn bs hdct sn ao ab col dd k0 k1 k2 k3 k5 mN,h.get? C=some (excClassObj nm qn C N bs bm hdct sn ao ab col dd k0 k1 k2 k3 k5 newId)/\h.Ns N mN/\mN "__init__"=none/\OwnTail h bmB bm:=by
 unfold PySem.W.excIn at q;split at q
 ·rename_i dd cd sl lk;split at q
  ·rename_i C' bm k0 k1 k2 k3 nw k5 em es;simp only[cU,jz,Nh] at q;obtain⟨⟨⟨⟨⟨rfl,rfl⟩,oJ⟩,tl⟩,Gj⟩,Jt⟩:=q;obtain⟨nm,bs,mro,ns,qn,hd,sn,ao,ab,col,del⟩:=cd;dsimp only at em oJ Gj Jt;subst em oJ;have esl:sl=#[k0,k1,k2,k3,some (.builtin nw),k5]:=by
    obtain⟨ll⟩:=sl;simp only at es;rw[es]
   subst esl;exact⟨bm,ns,nm,qn,bs,hd,sn,ao,ab,col,dd,k0,k1,k2,k3,k5,_,XI _ _ lk,.of_isNs (PySem.W.isNs_of_in XI Gj),PySem.W.nsMap_none_of_in XI Gj Jt,PySem.W.tail_of_in XI tl⟩
  ·cases q
 ·cases q
noncomputable def CQ(EX:XS)(C:Addr)(t:TA):TS:=λ_ Z H=>t Z H λvs H1=>vs.length<=sizeLine/\EX Z (.ref C) none H1
theorem zh7{B Bn newId nid initId inN:String}{bmB bmN:List Value}(Fn:ExcBaseFacts Bn newId inN bmN)(wQ:bmB.contains (.type Bn)=true)(FB:ExcBaseFacts B nid initId bmB)(hc:X.aj=true)(hX:PySem.W.excIn X.K C bmB newId=true)(hg:Gl X x)(hm:X.mg x=some (.ref C))
  (R:Raises X EX) (ha:PA X (e::es) t) (kZ:(x==("__debug__" : Str))=false:=by decide) (he:starEach (e::es) X.env=(false,eval e X.env)::starEach es X.env:=by rfl) (bM:(backTo apos (starEach es X.env)).any (·.1)=false:=by rfl) :
  PS X (.Raise (some (.Call (.Name x p) (e::es) [] apos)) none pos) (CQ EX C t):=by
 intro ak s Z H D I h;obtain⟨bm,N,nm,qn,bs,hdct,sn,ao,ab,col,dd,k0,k1,k2,k3,k5,mN,hC,hN,CT,T⟩:=zjU I.mod.zV hX;refine wpAny_Raise_call_subU (C:=C) (nm:=nm) (q:=qn) (N:=N) (bs:=bs) (bm:=bm) (hdct:=hdct) (sn:=sn) («sub»:=ao) (ab:=ab) (col:=col) (dd:=dd) (k0:=k0) (k1:=k1) (k2:=k2) (k3:=k3) (k5:=k5)
  Fn wQ FB (mN:=mN) (T.hasType FB.hasBase) (I.ok.hd hc) (by rw[he];show (false||(backTo apos (starEach es X.env)).any (·.1))=false;rw[bM];rfl) CT (Ik I hg hm ⟨rfl,?_⟩ kZ)
 have h2:=ha apos ak s Z H _ I h;rw[he] at h2 ⊢;refine Qv (aY h2 λus s2 ⟨vs,H2,I2,r,z,q⟩=>⟨rfl,by rw[<-r.length];exact z,I2.bk _ _ hC,hN.keeps I2.bk,T.keeps I2.bk,λh' a mx=>?_⟩);obtain⟨tt,ge,_,_⟩:=mx.there;have un:H2 a=none:=by
  cases z:H2 a with
  |none=>rfl
  |some u=>
   have lt:=I2.hok.lt z;obtain⟨ob,z'⟩ : ∃ob,s2.heap.get? a=some ob:=by
    have:=I2.hok a u z;exact aU.there this
   rw[mx.new] at z';cases z'
 exact R ak Z H2 _ s2.heap a C none (I2.kept (t':=s2.toks) mx.keeps) (λb ob z n=>I2.base.there b ob z n) (λq hq=>⟨q.2,(I2.pin q hq).1⟩) (λb ob z=>⟨ob,mx.keeps b ob z⟩) ⟨mx.new,un,_,_,_,ge,rfl,rfl,rfl,rfl,.inl rfl⟩ q
end
noncomputable def lg(a C:Addr)(dx:Option Addr):HO:=.ext λh=>∃oe vs,h.get? a=some oe/\oe.cls=.ref C/\oe.dict=dx/\oe.data=.fields vs
theorem zjs(x:Exc h0 H0 h a C dx):aU P w H h a (lg a C dx):=by
 obtain⟨oe,vs,hd,q,c,d,f,_⟩:=x.ob;exact⟨⟨oe,vs,q,c,d,f⟩,⟨oe,q⟩,λh1 h2 ⟨o1,v1,q1,c1,d1,f1⟩ k=>⟨o1,v1,k o1 q1,c1,d1,f1⟩⟩
section
variable {X:Cx}{ak:List (Addr×Obj)}{Z:St}{H:Hp}{s:Shared}{e:Addr}{o:HO}
theorem Inv.track(I:Inv X ak Z H s)(hn:X.s₀.heap.get? e=none)(un:H e=none)(hp:∀p∈X.pn++ak,p.1≠e)(hL:e≠X.env.locals)(hc:∀x c,X.env.cells.lookup x=some c->c≠e)
  (new:aU X.prog X.w (upd H e o) s.heap e o):Inv X ak Z (upd H e o) s:=by
 have ne:∀b u,H b=some u->b≠e:=λb u q z=>by rw[z,un] at q;cases q
 have n0:∀b u,X.s₀.heap.get? b=some u->b≠e:=λb u q z=>by rw[z,hn] at q;cases q
 refine⟨I.ok,I.os,I.bare,⟨I.base.keep,I.base.slot,λb u q n hx=>?_,I.base.there,λb xs q=>?_,λb u v q=>?_,λb ps q=>?_⟩,I.loc,I.cell,?_,λx c q=>?_,λp q=>?_,λb u q=>?_,I.len⟩
 ·rw[dW (n0 b u q)];exact I.base.free b u q n hx
 ·have z:=I.base.tups b xs q;rw[dW (ne b _ z)];exact z
 ·have z:=I.base.jN b u v q;rw[dW (ne b _ z)];exact z
 ·obtain⟨m,z⟩:=I.base.kJ b ps q;exact⟨m,by rw[dW (ne b _ z)];exact z⟩
 ·rw[dW hL.symm];exact I.free
 ·rw[dW (hc x c q)];exact I.fP x c q
 ·obtain⟨a1,a2,a3⟩:=I.pin p q;exact⟨a1,by rw[dW (hp p q)];exact a2,a3⟩
 ·by_cases z:b=e
  ·subst z;rw[lV] at q;cases q;exact new
  ·rw[dW z] at q;exact(I.hok b u q).stay (λ_ _ _ r=>r) (λc r=>by rw[dW (ne c _ r)];exact r) λc xs r=>by rw[dW (ne c _ r)];exact r
noncomputable def Cx.seen(X:Cx)(A:Around)(aj:Bool)(pn:List (Addr×Obj))(E:Value->Shared->Prop):Cx:={X with A:=A,aj:=aj,pn:=pn,xe:=E}
theorem Inv.seen(I:Inv X ak Z H s)(hA:A.frames=X.A.frames)(hc:c=true->A.handled=none)(hp:∀p∈pn++ps,p∈X.pn++ak):Inv (X.seen A c pn E) ps Z H s:=
 ⟨⟨I.ok.mod,I.ok.kind,I.ok.glob,I.ok.blt,I.ok.above,I.ok.inj,I.ok.has,I.ok.cab,hc,hA.trans I.ok.frames,I.ok.stk,I.ok.X3,I.ok.bs,I.ok.zX,I.ok.uN,I.ok.yd,I.ok.kO,I.ok.Gf⟩,I.os,I.bare,I.base,I.loc,I.cell,I.free,I.fP,λp z=>I.pin p (hp p z),I.hok,I.len⟩
theorem Inv.gB(I:Inv (X.seen A c pn E) ps Z H s)(hA:X.A.frames=A.frames)(hc:X.aj=true->X.A.handled=none)(hp:∀p∈X.pn++ak,p∈pn++ps):Inv X ak Z H s:=
 ⟨⟨I.ok.mod,I.ok.kind,I.ok.glob,I.ok.blt,I.ok.above,I.ok.inj,I.ok.has,I.ok.cab,hc,hA.trans I.ok.frames,I.ok.stk,I.ok.X3,I.ok.bs,I.ok.zX,I.ok.uN,I.ok.yd,I.ok.kO,I.ok.Gf⟩,I.os,I.bare,I.base,I.loc,I.cell,I.free,I.fP,λp z=>I.pin p (hp p z),I.hok,I.len⟩
theorem SP.gB(h:SP (X.seen A c pn E) ps D f s)(hA:X.A.frames=A.frames)(hc:X.aj=true->X.A.handled=none)(hp:∀p∈X.pn++ak,p∈pn++ps):SP X ak D f s:=by
 cases f with
 |next=>obtain⟨a,b,cJ,q⟩:=h;exact⟨a,b,cJ.gB hA hc hp,q⟩
 |brk=>obtain⟨a,b,cJ,q⟩:=h;exact⟨a,b,cJ.gB hA hc hp,q⟩
 |cont=>obtain⟨a,b,cJ,q⟩:=h;exact⟨a,b,cJ.gB hA hc hp,q⟩
 |ret u=>obtain⟨v,a,b,cJ,r,q⟩:=h;exact⟨v,a,b,cJ.gB hA hc hp,r,q⟩
theorem Inv.gone(I:Inv X ak Z H s)(hN:X.N.Nodup)(hi:X.N[i]?=some n)(hl:X.env.kindOf n=some .local)(hm:s.heap.Ns X.env.locals m)
  (hn:h'.Ns X.env.locals (λx=>if x=n then v else m x)) (sb:Heap.SameBut X.env.locals s.heap h'):Inv X ak (Z.set i none) H {s with heap:=h',toks:=t'}:=by
 have kp:∀b u,b≠X.env.locals->s.heap.get? b=some u->h'.get? b=some u:=λb u z q=>(sb.2 b z).trans q;have n0:∀b u,X.s₀.heap.get? b=some u->b≠X.env.locals:=λb u q=>dH (g8 (bW q) I.ok.above);have nH:∀b u,H b=some u->b≠X.env.locals:=λb u q z=>by rw[z,I.free] at q;cases q
 refine⟨I.ok,I.os,I.bare,⟨λb u q n hb hx=>kp b u (n0 b u q) (I.base.keep b u q n hb hx),λb u q n hb hx=>?_,I.base.free,λb u q hx=>?_,I.base.tups,I.base.jN,I.base.kJ⟩,⟨_,hn,λj x w e1 e2 e3=>?_⟩,λx c q=>?_,I.free,I.fP,λp q=>?_,λb u q=>?_,by rw[pZ];exact I.len⟩
 ·obtain⟨sl,z⟩:=I.base.slot b u q n hb hx;exact⟨sl,kp b _ (n0 b u q) z⟩
 ·obtain⟨u',z⟩:=I.base.there b u q hx;exact⟨u',kp b u' (n0 b u q) z⟩
 ·have YM:i≠j:=λz=>by
   subst z;by_cases hl:i<Z.length
   ·rw[zN hl] at e2;cases e2
   ·rw[M9 (by rw[pZ];lia)] at e2;cases e2
  rw[tW YM] at e2;obtain⟨m2,hm2,sO⟩:=I.loc;obtain⟨u,r,l⟩:=sO j x w e1 e2 e3;refine⟨u,r,?_⟩;rcases l with ⟨k1,k2⟩|⟨k1,c,k2,oc,k3,k4⟩
  ·refine .inl ⟨k1,?_⟩;have nx:x≠n:=λz=>YM (QW hN (by rw[z] at e1;exact hi) (z▸e1));have em:m=m2:=by
    obtain⟨o1,es1,ep1,g1,d1,t1,f1⟩:=hm;obtain⟨o2,es2,ep2,g2,d2,t2,f2⟩:=hm2;rw[g1] at g2;cases g2;rw[d1] at d2;cases d2
    funext y
    rw[<-f1,<-f2]
   show (if x=n then v else m x)=some u;rw[if_neg nx,em];exact k2
  ·exact .inr ⟨k1,c,k2,oc,kp c oc (I.yg x c k2) k3,k4⟩
 ·obtain⟨u,oc,k3,k4⟩:=I.cell x c q;exact⟨u,oc,kp c oc (I.yg x c q) k3,k4⟩
 ·obtain⟨a1,a2,a3,a4⟩:=I.pin p q;exact⟨kp _ _ a3 a1,a2,a3,a4⟩
 ·exact(I.hok b u q).stay (λc w z r=>kp c w (z.elim (λy=>y▸nH b u q) λy=>nH c _ y) r) (λ_ r=>r) λ_ _ r=>r
end
theorem zio(x:Exc h0 H s.heap e C dx)(hf:∀b∈fr,∀o vs,s.heap.get? b=some o->o.data≠.fields vs)
  (k:∀h' ch,Jq h0 H fr s.heap h' ch->Exc h0 H h' e C dx->Q () {s with heap:=h'}):wpAny M A (setFlight (.ref e) none) Q E s:=by
 obtain⟨oe,vs,hd,he,hc,Ac,oH,h1,tb⟩:=x.ob;rcases tb with rfl|⟨T,oT,ts,rfl,nT,uT,neT,gT,dT,h3⟩
 ·unfold setFlight;refine aA (lM he oH h1 ?_);rw[if_neg (by decide)];exact aL (k s.heap [] {rec_:=(λ_ z=>nomatch z),keep:=(λb o q _ _=>q),slot:=(λb o q _=>⟨o.slots,q⟩),there:=(λb o q=>⟨o,q⟩)} x)
 ·refine YK he oH h1 gT dT (G9.mp h3).1 λh' kp g'=>?_;have z3:3<ts.size:=(G9.mp h3).1;refine k h' [T] ⟨λb z=>?_,λb o q _ n=>kp b o (λz=>n (by simp[z])) q,λb o q m=>?_,λb o q=>?_⟩ ⟨x.new,x.un,oe,vs,.ref T,kp e oe neT.symm he,hc,Ac,oH,h1,.inr ⟨T,_,_,rfl,nT,uT,neT,g',xQ dT _,by simp[z3]⟩⟩
  ·obtain rfl:b=T:=by simpa using z
   exact⟨nT,uT,oT,ts,gT,dT⟩
  ·refine⟨o.slots,kp b o (λz=>?_) q⟩;subst z;rw[gT] at q;cases q;exact hf b m _ ts gT dT
  ·by_cases z:b=T
   ·subst z;exact⟨_,g'⟩
   ·exact⟨o,kp b o z q⟩
theorem zcq{M:Model}{A:Around}{E:Value->Shared->Prop}{K:W.Frag}{h:Heap}{g:Array GenState}{d:Drawn}{t:Nat}{os:OsState}{e C D:Addr}{oe:Obj}{Q:Bool->Shared->Prop}(KI:K.In h)(q:subIn K C D=true)
  (he:h.get? e=some oe) (Cd:oe.cls=.ref C) (hq:Q true ⟨h,g,d,t,os⟩):wpAny M A (excMatches (.ref e) (.ref D)) Q E ⟨h,g,d,t,os⟩:=by
 unfold subIn at q;simp only[cU] at q;obtain⟨⟨q1,q2⟩,q3⟩:=q;obtain⟨nm,qn,N,bs,bm,hdct,sn,ao,ab,col,dd,k0,k1,k2,k3,k5,newId,hC,_,_⟩:=PySem.W.kts_cls KI q1;obtain⟨nm',qn',N',bs',bm',YQ,sn',sub',ab',col',RT,k0',k1',k2',k3',k5',newId',hD,hb',_⟩:=PySem.W.kts_cls KI q2;have m1:(Value.ref C::bm).contains (.ref D)=true:=by
  split at q3
  ·rename_i c0 d0 cd sl lk;have z:=KI _ _ lk;rw[hC] at z;cases z;exact q3
  ·cases q3
 have m2:(Value.ref D::bm').contains (.type "BaseException")=true:=by rw[QC,hb',Bool.or_true]
 have f:=tc_notTuple;unfold excMatches
 repeat (first|(with_reducible refine Bw he ?_;rw[Cd])|with_reducible refine Bw hD ?_|(with_reducible refine M_ hD ?_;rw[m2])|(with_reducible refine M_ hC ?_;rw[m1])|wp_step)
 exact hq
noncomputable def u6(D:Ends)(i:Nat):Ends:={nx:=λZ H=>D.nx (Z.set i none) H,rt:=D.rt,bk:=λZ H=>D.bk (Z.set i none) H,ct:=λZ H=>D.ct (Z.set i none) H}
noncomputable def Ju(K:W.Frag)(Dc:Addr)(i:Nat)(th:TS)(D:Ends):XS:=λZ C dx H=>∃Ca,C=.ref Ca/\subIn K Ca Dc=true/\∀a,H a=none->th (u6 D i) (Z.set i (some (.ref a))) (upd H a (lg a Ca dx))
section
variable {X:Cx}{x n:Str}{np u9 pos:Pos}{b₀:Stmt}{body suite:List Stmt}{Dc:Addr}{i:Nat}{tb:XS->TS}{th:TS}
theorem zk5(hex:X.ex=[])(qQ:X.stack=X.env::X.outer/\X.env.frame=some X.env.locals)(hg:Gl X x)(hm:X.mg x=some (.ref Dc))(hN:X.N.Nodup)(hi:X.N[i]?=some n)(hl:X.env.scope.names.lookup n=some .local)
  (hb:∀(pn:List (Addr×Obj)) (E':Value->Shared->Prop) (ug:XS),Raises (X.seen X.A X.aj pn E') ug->PassesOwn (model X.prog X.w) X.A X.env E'->pK (X.seen X.A X.aj pn E') body (tb ug))
  (hh:∀e:Value,pK (X.seen (X.A.mark (some e)) false X.pn (λ_ _=>False)) (b₀::suite) th) (kZ:(x==("__debug__" : Str))=false:=by decide) :
  PS X (.Try body [.ExceptHandler (some (.Name x np)) (some n) (b₀::suite) u9] [] [] pos) (λD Z H=>tb (Ju X.K Dc i th D) D Z H):=by
 intro ak s Z H D I h;refine wpAny_Try_except ?_;have B:=hb (X.pn++ak) (λe s₁=>wpAny (model X.prog X.w) X.A (noteFrame e X.env) (λ_ s₂=>wpAny (model X.prog X.w) X.A (setFlight e none) (λ_ s₃=>wpAny (model X.prog X.w) X.A (handleBy e X.env [.ExceptHandler (some (.Name x np)) (some n) (b₀::suite) u9]) (SP X ak D) X.xe s₃) X.xe s₂) X.xe s₁) (Ju X.K Dc i th D) ?R PassesOwn.looking [] s Z H D (I.seen rfl I.ok.hd (by intro p z;simpa using z)) h
 case R=>
  intro iD Z' H' s' h0 e C dx cJ hs hp ao xc ⟨Ca,eC,sI,k⟩;cases eC;have I1:Inv X ak Z' H' s':=cJ.gB rfl I.ok.hd (λp z=>qJ _ z);have CV:∀p∈X.pn++ak,∃o,h0.get? p.1=some o:=λp z=>hp p (qJ _ z);show wpAny (model X.prog X.w) X.A (noteFrame (.ref e) X.env) _ X.xe s';refine YL (base:=X.base) (outer:=X.outer) (L:=X.env.locals) (I1.ok.frames.trans (rZ some qQ.1)) (qQ.1▸I1.stack) qQ.2 xc (λb z=>I1.hok.fresh z) ao λh1 ch1 t1 x1=>?_;have I2:=I1.Js (qQ.1▸t1) hs CV;refine wpAny_handleBy_cons (codeAny_handlers_test ?_) (by intro z;cases z);have I2h:Inv (X.seen (X.A.mark (some (.ref e))) false X.pn (λ_ _=>False)) ak Z' H' {s' with heap:=h1}:=I2.seen rfl (λz=>by cases z) (λp z=>z);refine Ik (E:=_) I2h hg hm ?_ kZ;obtain⟨oe,vs,hd,g1,c1,d1,f1,_⟩:=x1.ob;refine zcq I2.sG sI g1 c1 ?_;refine codeAny_handlers_suite_as ?_;have RV:∀b∈frs X.stack,∀o vs,h1.get? b=some o->o.data≠.fields vs:=λb hb o vs q d=>by
   obtain⟨_,o',q',nd⟩:=I2.stack.mem hb;have q'':h1.get? b=some o':=q';rw[q] at q'';cases q'';exact nd vs d
  refine zio (s:={s' with heap:=h1}) (fr:=frs X.stack) x1 RV λh2 sS t2 x2=>?_;have I3:Inv X ak Z' H' {s' with heap:=h2}:=I2.Js t2 hs CV;obtain⟨oe2,vs2,hd2,g2,c2,d2,f2,_⟩:=x2.ob;have ns0:X.s₀.heap.get? e=none:=by
   cases z:X.s₀.heap.get? e with
   |none=>rfl
   |some u=>
    obtain⟨u',z'⟩:=hs e u z (by show e∉X.ex;rw[hex];simp);rw[x2.new] at z';cases z'
  have nL:e≠X.env.locals:=λz=>by
   obtain⟨m,⟨ol,es,ep,e1,e2,_⟩,_⟩:=I3.loc;have e1':h2.get? X.env.locals=some ol:=e1;rw[<-z,g2] at e1';cases e1';rw[f2] at e2;cases e2
  have nC:∀y c,X.env.cells.lookup y=some c->c≠e:=λy c q z=>by
   obtain⟨v,oc,e1,e2⟩:=I3.cell y c q;have e1':h2.get? c=some oc:=e1;rw[z,g2] at e1';cases e1';rw[f2] at e2;cases e2
  have I4:=I3.track (o:=lg e C dx) ns0 x2.un (λp z y=>by
   obtain⟨u,q⟩:=CV p z;rw[y,x2.new] at q;cases q) nL nC (zjs x2)
  have I4h:Inv (X.seen (X.A.mark (some (.ref e))) false X.pn (λ_ _=>False)) ak Z' (upd H' e (lg e C dx)) {s' with heap:=h2}:=I4.seen rfl (λz=>by cases z) (λp z=>z);refine Ij (X:=X.seen (X.A.mark (some (.ref e))) false X.pn (λ_ _=>False)) (v:=.ref e) I4h hN hi (.inl hl) rfl (λs5 I5=>?_) (.inr hl);refine jM (hh (.ref e) ak s5 _ _ (u6 D i) I5 (k e x2.un)) (λf s6 q6=>?_) (λ_ _ z=>z.elim);have hkd:(X.env.scope.kind==.class||(X.env.scope.kind==.module&&X.env.locals != X.env.globals))=false:=by rw[I.ok.kind];rfl
  have fin:∀{Z6:St} {H6:Hp} {Q:Shared->Prop},Inv (X.seen (X.A.mark (some (.ref e))) false X.pn (λ_ _=>False)) ak Z6 H6 s6->(∀s7,Inv X ak (Z6.set i none) H6 s7->Q s7)->
    wpAny (model X.prog X.w) X.A (do bindName X.env n .none;unbindBehindTheSuite X.env n u9) (λ_ s7=>Q s7) X.xe s6:=λ{Z6 H6 Q} jh kq=>by
   have cJ:Inv X ak Z6 H6 s6:=jh.gB rfl I.ok.hd (λp z=>z);obtain⟨m,YS,_⟩:=id cJ.loc;exact wpAny_nameGoes_keeps hl YS hkd λh' v yh sb=>kq _ (cJ.gone hN hi hl YS yh sb)
  cases f with
  |next=>obtain⟨Z6,H6,jh,q⟩:=q6;exact fin jh λs7 m5=>⟨_,_,m5,q⟩
  |brk=>obtain⟨Z6,H6,jh,q⟩:=q6;exact fin jh λs7 m5=>⟨_,_,m5,q⟩
  |cont=>obtain⟨Z6,H6,jh,q⟩:=q6;exact fin jh λs7 m5=>⟨_,_,m5,q⟩
  |ret u=>obtain⟨v,Z6,H6,jh,r,q⟩:=q6;exact fin jh λs7 m5=>⟨v,_,_,m5,r,q⟩
 refine jM B (λf s1 q=>?_) λ_ _ z=>z;have q':SP X ak D f s1:=SP.gB q rfl I.ok.hd (by intro p z;simpa using z);cases f with
 |next=>exact Hz q'
 |brk=>exact q'
 |cont=>exact q'
 |ret u=>exact q'
end
end L2
namespace L2
open PySem PySem.Spec PyProof.Rows PySem.W Builtin.ObjectAttr
section
variable {prog:Program}{w:World}{A:Around}{E:Value->Shared->Prop}{s:Shared}{K:Frag}{x C:Addr}{ox:Obj}{od:Option Obj}{name:Str}{tk:Tok}
theorem zkz(XI:K.In s.heap)(I:InstAt s.heap x ox C od)(hf:findObj K C od name=some r)
  (h:match r with|.value v=>Q (.done (.ret v)) s|.bind g a=>wpAny (model prog w) A (call g [a,.ref x,.ref C]) (λv s'=>Q (.done (.ret v)) s') E s|.missing=>False) :
  wpAny (model prog w) A (Builtin.«object.__getattribute__» ⟨[.ref x,.str name tk],[]⟩) Q E s:=by
 obtain⟨hh,g,d,t,os⟩:=s;have L0:=I.type (M:=model prog w);have L1:=looks_find (M:=model prog w) XI I hf;unfold Builtin.«object.__getattribute__»;refine aA (FZ (a:=(Value.ref x,[Value.str name tk])) (by rfl) ?_);refine aA (FZ (a:=name) (by rfl) ?_);refine aA (L0.at (aA (L1.at ?_)));cases r with
 |value v=>exact aL h
 |bind g a=>
  show wpAny _ _ (holding [a] (call g [a,.ref x,.ref C]) >>= ret) _ _ _;exact aA (lJ (jM h (λv s' z=>aL z) λ_ _ z=>z))
 |missing=>exact h.elim
theorem zf7(XI:K.In s.heap)(I:InstAt s.heap x ox C od)(hb:mroIn K C (.type "BaseException")=some true)(hf:findObj K C od name=some r)
  (h:match r with|.value v=>R (.ok (.ret v)) s|.bind g a=>wpAny (model prog w) A.in1 (call g [a,.ref x,.ref C]) (λv s'=>R (.ok (.ret v)) s') (λe s'=>R (.error e) s') s|.missing=>False) :
  codeAny (model prog w) A (.call (.builtin "BaseException.__getattribute__") ⟨[.ref x,.str name tk],[]⟩) R s:=by
 have hk:builtinKind "BaseException.__getattribute__"=some .slot:=by decide +kernel
 have CW:splitId "BaseException.__getattribute__"=some ("BaseException","__getattribute__"):=by decide +kernel
 have ha:=F.args_bexc_ga (.ref x) (.str name tk);refine Qw F.attr_ValueError.ga.plain F.entry_bexc_ga ?_;have fin:wpAny (model prog w) A.in1 (Builtin.«object.__getattribute__» ⟨[.ref x,.str name tk],[]⟩) (λfin s'=>match fin with|.done f=>R (.ok f) s'|.again c'=>c'.quiet=true/\codeAny (model prog w) A c' R s') (λe s'=>R (.error e) s') s:=by
  refine zkz XI I hf ?_;cases r with
  |value v=>exact h
  |bind g a=>exact h
  |missing=>exact h.elim
 have chk:∀Q:Unit->Shared->Prop,Q () s->wpAny (model prog w) A.in1 (checkBuiltinCall "BaseException.__getattribute__" ⟨[.ref x,.str name tk],[]⟩) Q (λe s'=>R (.error e) s') s:=λQ hq=>by
  obtain⟨hh,g,d,t,os⟩:=s;have L0:=I.type (M:=model prog w);have L1:=looks_mroIn (M:=model prog w) XI hb;have LI:Looks (model prog w) hh (isInstance (.ref x) (.type "BaseException")) true:=L0.andThen L1;simp only[checkBuiltinCall,hk,CW];refine aA ?_
  repeat (first|with_reducible exact hq|with_reducible refine LI.at ?_|wp_step)
 exact chk _ fin
theorem bexc_get?(XI:K.In s.heap)(I:InstAt s.heap x ox C od)(hb:mroIn K C (.type "BaseException")=some true)(hga:findIn K (.ref C) "__getattribute__"=some (some (.builtin "BaseException.__getattribute__")))
  (hgn:findIn K (.ref C) "__getattr__"=some none) (hf:findObj K C od name=some r)
  (h:match r with|.value v=>wpAny (model prog w) A (handedOut v) (λu s'=>Q (some u) s') (λ_ _=>False) {s with toks:=s.toks+1}|.bind g a=>wpAny (model prog w) A.in1 (call g [a,.ref x,.ref C]) (λv s'=>wpAny (model prog w) A (handedOut v) (λu s''=>Q (some u) s'') (λ_ _=>False) s') (λ_ _=>False) {s with toks:=s.toks+1}|.missing=>False) :
  wpAny (model prog w) A (getAttr? (.ref x) name) Q E s:=by
 obtain⟨hh,g,d,t,os⟩:=s;have L0:=I.type (M:=model prog w);have L1:=looks_findIn (M:=model prog w) XI hga;have L2:=looks_findIn (M:=model prog w) XI hgn;have CZ:(Value.builtin "BaseException.__getattribute__"==Value.builtin "object.__getattribute__")=false:=by decide +kernel
 unfold getAttr? getAttrBy? getAttrBy;refine aA (wpAny_mkText (aA (HJ (lJ (aA (L0.at (aA (L1.at ?_))))))));show wpAny _ _ (if (onTheHeap (.ref C)&&(Value.builtin "BaseException.__getattribute__"==Value.builtin "object.__getattribute__"))=true then _ else getAttrByItsOwn _ _ _ _ _ _) _ _ _;rw[CZ,Nu,if_neg (by decide)];unfold getAttrByItsOwn hookBefore callGetattribute boundAndCalled;refine aA (L2.at ?_);refine aA (HJ (lJ (aA (FZ (F.attr_ValueError.ga.bind (.ref x)) ?_))));refine BP (zf7 XI I hb hf ?_);cases r with
 |value v=>exact jM h (λv s'' hv=>aL hv) (λ_ _ z=>z.elim)
 |bind g a=>exact jM h (λv s' hv=>jM hv (λu s'' z=>aL z) λ_ _ z=>z.elim) (λ_ _ z=>z.elim)
 |missing=>exact h.elim
end
structure XC(K:Frag)(C:Addr):Prop where
 ga:findIn K (.ref C) "__getattribute__"=some (some (.builtin "BaseException.__getattribute__"))
 gn:findIn K (.ref C) "__getattr__"=some none
 cl:findIn K (.ref C) "__class__"=some (some (.builtin "object.__class__"))
 mb:mroIn K C (.type "BaseException")=some true
 mo:mroIn K C (.type "object")=some true
 cd:(clsIn K C).isSome=true
 dg:specialIn K (.builtin "object.__class__") "__get__"=some (some (.builtin "getset_descriptor.__get__"))
 dt:takesIn K (.builtin "object.__class__")=some true
theorem zg8{K:Frag}{C:Addr}{od:Option Obj}{name:Str}{a g:Value}(hc:(clsIn K C).isSome=true)(ha:findIn K (.ref C) name=some (some a))(hg:specialIn K a "__get__"=some (some g))(ht:takesIn K a=some true):findObj K C od name=some (.bind g a):=by
 obtain⟨cd,z⟩:=Ql.mp hc;simp only[findObj,z,ha,hg,ht,Option.bind_some]
theorem YT{K:Frag}{e C:Addr}(c:XC K C):KitX K (.ref e) (.ref C) (λh=>∃ox od,InstAt h e ox C od) where
 ty:=λ_ _ _ ⟨_,_,I⟩=>I.type
 it:=λ_ _ XI _=>by
  have q:=c.cd;unfold clsIn at q;split at q
  ·rename_i c' d' cd' sl' lk;intro A' Q' E' s' k z;unfold isType loadHead;exact aA (wpAny_loadPart (k _ _ (XI _ _ lk)) (aL z))
  ·cases q
 ne:=λh tp dd its n sl XI htp=>by
  refine Bool.eq_false_iff.mpr λz=>?_;have ee:C=tp:=Value.ref.inj (jz.mp z);subst ee;have q:=c.cd;unfold clsIn at q;split at q
  ·rename_i c' d' cd' sl' lk;have y:=(XI _ _ lk).symm.trans htp;cases y
  ·cases q
 ca:=λ{prog w A E Q s} XI ⟨ox,od,I⟩ k=>by
  have hf:findObj K C od "__class__"=some (.bind (.builtin "getset_descriptor.__get__") (.builtin "object.__class__")):=zg8 c.cd c.cl c.dg c.dt;refine bexc_get? XI I c.mb c.ga c.gn hf ?_;exact BP (class_get (s:={s with toks:=s.toks+1}) (ox:=ox) (od:=od) XI I c.mo (handed_on rfl k))
end L2
namespace L2
open PySem PySem.Spec PyProof.Rows
theorem zfM:∀(names:List (Str×NameKind)) (cs:List (Str×Addr)),(∀x∈names,x.2=.free->∃c,env.cells.lookup x.1=some c)->(∀x c,cs.lookup x=some c->env.cells.lookup x=some c)->
  ∃cl,(forIn names cs λx r=>(do
    if x.2==.free then
     let a <-cellOf env x.1
     pure (ForInStep.yield ((x.1,a)::r))
    else pure (ForInStep.yield r)):Sem (List (Str×Addr)))=pure cl/\(∀x c,cl.lookup x=some c->env.cells.lookup x=some c)/\(∀x c,cs.lookup x=some c->cl.lookup x=some c)/\∀x∈names,x.2=.free->∃c,cl.lookup x.1=some c:=by
 intro names
 induction names with
 |nil=>intro cs _ h;exact⟨cs,rfl,h,λ_ _ q=>q,λx z=>nomatch z⟩
 |cons y r ih=>
  intro cs h1 h2;obtain⟨n,k⟩:=y;by_cases hk:k=.free
  ·subst hk;obtain⟨c,hc⟩:=h1 (n,.free) fV rfl;have hc:env.cells.lookup n=some c:=hc;have h3:∀x d,((n,c)::cs).lookup x=some d->env.cells.lookup x=some d:=λx d q=>by
    rw[nU] at q;by_cases z:x=n
    ·subst z;simp at q;subst q;exact hc
    ·have z':(x==n)=false:=by simpa using z
     rw[z'] at q;exact h2 x d q
   obtain⟨cl,e,a,b,d⟩:=ih ((n,c)::cs) (λx z=>h1 x (fM _ z)) h3;have hco:cellOf env n=pure c:=by
    unfold cellOf;rw[hc]
   refine⟨cl,?_,a,λx q z=>?_,λx z q=>?_⟩
   ·rw[HB];simp only[zP,if_true,hco];exact e
   ·by_cases y:x=n
    ·subst y;have z1:=h2 x q z;rw[hc] at z1;cases z1;exact b x c (by simp)
    ·have y':(x==n)=false:=by simpa using y
     exact b x q (by rw[nU,y'];exact z)
   ·rcases dh.mp z with z|z
    ·subst z;exact⟨c,b n c (by simp)⟩
    ·exact d x z q
  ·have hb:(k==NameKind.free)=false:=by simpa using hk
   obtain⟨cl,e,a,b,d⟩:=ih cs (λx z=>h1 x (fM _ z)) h2;refine⟨cl,?_,a,b,λx z q=>?_⟩
   ·rw[HB];simp only[hb,jK,jA];exact e
   ·rcases dh.mp z with z|z
    ·subst z;exact absurd q hk
    ·exact d x z q
theorem zfy(h:∀x∈scope.names,x.2=.free->∃c,env.cells.lookup x.1=some c):∃cl,closureFor scope env=pure cl/\(∀x c,cl.lookup x=some c->env.cells.lookup x=some c)/\∀x∈scope.names,x.2=.free->∃c,cl.lookup x.1=some c:=by
 obtain⟨cl,e,a,_,d⟩:=zfM scope.names [] h (λx c q=>by cases q);refine⟨cl,?_,a,d⟩;unfold closureFor;have e':=e;simp only[pure_bind,bind_pure] at e' ⊢;exact e'
theorem RW{env:Env}{k:NameKind}:∀{names:List (Str×NameKind)} {x:Str},(names.map λ(n,k)=>if (k==NameKind.free&&env.scope.kind==.function&&env.kindOf n==some .cell) then (n,NameKind.cell) else (n,k)).lookup x=some k->
  names.lookup x=some k\/(k=.cell/\names.lookup x=some .free)
 |[],x,h=>by simp at h
 |(n,q)::r,x,h=>by
  rw[jL,nU] at h;rw[nU];have hd:∀c:Bool,(if c=true then (n,NameKind.cell) else (n,q)).1=n:=λc=>by cases c<;>rfl
  rw[hd] at h;by_cases z:x=n
  ·subst z;simp only[zP] at h ⊢;split at h
   ·rename_i y;simp only[cU,jz] at y;cases h;exact .inr ⟨rfl,by rw[y.1.1]⟩
   ·cases h;exact .inl rfl
  ·have z':(x==n)=false:=by simpa using z
   simp only[z'] at h ⊢;exact RW h
theorem Og{env:Env}:∀{names:List (Str×NameKind)} {x:Str},names.lookup x=some .free->
  (names.map λ(n,k)=>if (k==NameKind.free&&env.scope.kind==.function&&env.kindOf n==some .cell) then (n,NameKind.cell) else (n,k)).lookup x=some .cell \/
  (names.map λ(n,k)=>if (k==NameKind.free&&env.scope.kind==.function&&env.kindOf n==some .cell) then (n,NameKind.cell) else (n,k)).lookup x=some .free
 |[],x,h=>by simp at h
 |(n,q)::r,x,h=>by
  rw[nU] at h;rw[jL,nU];have hd:∀c:Bool,(if c=true then (n,NameKind.cell) else (n,q)).1=n:=λc=>by cases c<;>rfl
  rw[hd];by_cases z:x=n
  ·subst z;simp only[zP] at h ⊢;cases h
   split
   ·exact .inl rfl
   ·exact .inr rfl
  ·have z':(x==n)=false:=by simpa using z
   simp only[z'] at h ⊢;exact Og h
structure oK(n:Nat)(h1:Heap)(names:List (Str×NameKind))(cl jY:List (Str×Addr)):Prop where
 d1:∀x c,jY.lookup x=some c->(cl.lookup x=some c/\(x,NameKind.cell)∉names)\/((x,NameKind.cell)∈names/\n<c/\h1.IsCell c none)
 d2:∀x y c,n<c->jY.lookup x=some c->jY.lookup y=some c->x=y
 d3:∀x,names.lookup x=some .cell->∃c,jY.lookup x=some c
 d4:∀x c,(x,NameKind.cell)∉names->cl.lookup x=some c->jY.lookup x=some c
theorem cc:(NameKind.cell==NameKind.cell)=true:=by decide
theorem Jv:∀(names:List (Str×NameKind)) (h:Heap) (b:Addr) (o:Obj),h.get? b=some o->(pushCells h names).get? b=some o
 |[],h,b,o,e=>e
 |(x,k)::r,h,b,o,e=>by
  rw[pushCells]
  split
  ·exact Jv r _ b o (cG _ e)
  ·exact Jv r h b o e
theorem RX:∀(names:List (Str×NameKind)) (h:Heap) (acc:List (Str×Addr)) (x:Str) (c:Addr),(cellsFrom h.objs.size names acc).lookup x=some c->
  (acc.lookup x=some c/\(x,NameKind.cell)∉names)\/((x,NameKind.cell)∈names/\h.objs.size<=c/\(pushCells h names).IsCell c none)
 |[],h,acc,x,c,e=>.inl ⟨e,by simp⟩
 |(y,k)::r,h,acc,x,c,e=>by
  rw[cellsFrom] at e;rw[pushCells];by_cases hk:k=.cell
  ·subst hk;rw[if_pos cc] at e ⊢;have sz:(h.push {cls:=Value.type "cell",data:=Data.cell none}).objs.size=h.objs.size+1:=by unfold Heap.push;simp
   rw[<-sz] at e;rcases RX r _ _ x c e with ⟨a,b⟩|⟨a,b,d⟩
   ·rw[nU] at a;by_cases z:x=y
    ·subst z;simp at a;subst a;exact .inr ⟨fV,cH _,_,Jv r _ _ _ (iB _ rfl),rfl⟩
    ·have z':(x==y)=false:=by simpa using z
     rw[z'] at a;exact .inl ⟨a,by simp[z,b]⟩
   ·exact .inr ⟨fM _ a,by lia,d⟩
  ·have hb:(k==NameKind.cell)=false:=by simpa using hk
   rw[if_neg (by rw[hb];decide)] at e ⊢;rcases RX r _ _ x c e with ⟨a,b⟩|⟨a,b,d⟩
   ·exact .inl ⟨a,by simp[b];intro _ q;exact hk q.symm⟩
   ·exact .inr ⟨fM _ a,b,d⟩
theorem RZ:∀(names:List (Str×NameKind)) (n:Nat) (acc:List (Str×Addr)) (x y:Str) (c:Addr),(∀u v,acc.lookup u=some c->acc.lookup v=some c->u=v)->(∀u a,acc.lookup u=some a->a<n\/a≠c)->(cellsFrom n names acc).lookup x=some c->(cellsFrom n names acc).lookup y=some c->x=y
 |[],n,acc,x,y,c,h,_,e1,e2=>h x y e1 e2
 |(z,k)::r,n,acc,x,y,c,h,hl,e1,e2=>by
  rw[cellsFrom] at e1 e2;by_cases hk:k=.cell
  ·subst hk;rw[if_pos cc] at e1 e2;refine RZ r (n+1) _ x y c (λu v a b=>?_) (λu a q=>?_) e1 e2
   ·rw[nU] at a b;by_cases u1:u=z
    ·by_cases v1:v=z
     ·rw[u1,v1]
     ·have v':(v==z)=false:=by simpa using v1
      subst u1;simp at a;rw[v'] at b;subst a;have b:acc.lookup v=some n:=b;rcases hl v n b with q|q
      ·exact absurd q (nW _)
      ·exact absurd rfl q
    ·have u':(u==z)=false:=by simpa using u1
     rw[u'] at a;have a:acc.lookup u=some c:=a;by_cases v1:v=z
     ·subst v1;simp at b;subst b;rcases hl u n a with q|q
      ·exact absurd q (nW _)
      ·exact absurd rfl q
     ·have v':(v==z)=false:=by simpa using v1
      rw[v'] at b;exact h u v a b
   ·rw[nU] at q;by_cases u1:u=z
    ·subst u1;simp at q;subst q;exact .inl (Nm _)
    ·have u':(u==z)=false:=by simpa using u1
     rw[u'] at q;exact(hl u a q).imp (λq=>rT q) id
  ·have hb:(k==NameKind.cell)=false:=by simpa using hk
   rw[if_neg (by rw[hb];decide)] at e1 e2;exact RZ r n acc x y c h hl e1 e2
theorem R0:∀(names:List (Str×NameKind)) (n:Nat) (acc:List (Str×Addr)) (x:Str) (c:Addr),(x,NameKind.cell)∉names->acc.lookup x=some c->(cellsFrom n names acc).lookup x=some c
 |[],n,acc,x,c,_,e=>e
 |(z,k)::r,n,acc,x,c,h,e=>by
  rw[cellsFrom];have hr:(x,NameKind.cell)∉r:=λq=>h (fM _ q);by_cases hk:k=.cell
  ·subst hk;rw[if_pos cc];refine R0 r (n+1) _ x c hr ?_;have:x≠z:=λq=>h (by rw[q];exact fV);have z':(x==z)=false:=by simpa using this
   rw[nU,z'];exact e
  ·have hb:(k==NameKind.cell)=false:=by simpa using hk
   rw[if_neg (by rw[hb];decide)];exact R0 r n acc x c hr e
theorem R3:∀(names:List (Str×NameKind)) (acc:List (Str×Addr)) (s:Shared) (Q:List (Str×Addr)->Shared->Prop),
  Q (cellsFrom s.heap.objs.size names acc) {s with heap:=pushCells s.heap names}->
  wpAny M A (forIn names acc λx (cells:List (Str×Addr))=>match x with
   |(name,kind)=>if (kind==NameKind.cell)=true then do
     let a <-alloc {cls:=Value.type "cell",data:=Data.cell none}
     pure (ForInStep.yield ((name,a)::cells))
    else pure (ForInStep.yield cells)) Q E s
 |[],acc,s,Q,h=>by
  rw[Nv];exact aL h
 |(z,k)::r,acc,s,Q,h=>by
  rw[HB];rw[cellsFrom,pushCells] at h;by_cases hk:k=.cell
  ·subst hk;rw[if_pos cc,if_pos cc] at h;refine aA ?_;dsimp only;rw[if_pos cc];refine aA (wpAny_alloc (aL ?_));refine R3 r _ _ Q ?_;have sz:(s.heap.push {cls:=Value.type "cell",data:=Data.cell none}).objs.size=s.heap.objs.size+1:=by unfold Heap.push;simp
   rw[sz];exact h
  ·have hb:(k==NameKind.cell)=false:=by simpa using hk
   rw[if_neg (by rw[hb];decide),if_neg (by rw[hb];decide)] at h;refine aA ?_;dsimp only;rw[if_neg (by rw[hb];decide)];exact aL (R3 r _ _ Q h)
theorem zgj(old:∀x c,cl.lookup x=some c->c<s.heap.objs.size)(inj:∀x y c,cl.lookup x=some c->cl.lookup y=some c->x=y)
  (h:∀h1 jY,h1.Ns s.heap.objs.size (λ_=>none)->(∀b o,s.heap.get? b=some o->h1.get? b=some o)->oK s.heap.objs.size h1 scope.names cl jY->Q {scope:=scope,locals:=s.heap.objs.size,globals:=globals,cells:=jY,qual:=qual,func:=none,code:=env.code,frame:=env.frame,builtins:=env.builtins} {s with heap:=h1}) :
  wpAny M A (newFunctionEnv scope globals cl [] qual none .none (some env)) Q E s:=by
 unfold newFunctionEnv;refine aA (wpAny_alloc ?_);refine aA ?_;refine R3 scope.names cl _ _ ?_;dsimp only;rw[Nv];refine aA (aL (aL ?_));have sz:(s.heap.push {cls:=Value.type (if (some env).isSome=true then "dict" else "frame"),data:=Data.dict #[]}).objs.size=s.heap.objs.size+1:=by unfold Heap.push;simp
 refine h _ _ ?_ (λb o e=>Jv _ _ _ _ (cG _ e)) ⟨λx c e=>?_,λx y c hc e1 e2=>?_,λx e=>?_,λx c hx e=>R0 _ _ _ x c hx e⟩
 ·refine⟨_,#[],_,Jv _ _ _ _ (iB _ rfl),rfl,?_,λ_=>rfl⟩;intro e he;simp at he
 ·rcases RX _ _ _ x c e with ⟨a,b⟩|⟨a,b,d⟩
  ·exact .inl ⟨a,b⟩
  ·rw[sz] at b;exact .inr ⟨a,by lia,d⟩
 ·exact RZ _ _ _ x y c (λu v a b=>inj u v c a b) (λu a q=>.inl (by rw[sz];exact rT (old u a q))) e1 e2
 ·have:=Qo scope.names (s.heap.push {cls:=Value.type (if (some env).isSome=true then "dict" else "frame"),data:=Data.dict #[]}).objs.size cl (.inl e);exact Ql.mp this
noncomputable def Cx.blk(X:Cx)(scope:Scope)(cl:List (Str×Addr))(N:List Str)(C:Addr)(s3:Shared)(H3:Hp)(fp:List Addr)(ak:List (Addr×Obj)):Cx where
 prog:=X.prog
 w:=X.w
 K:=X.K
 mg:=X.mg
 base:=X.base
 A:=X.A
 N:=N
 s₀:=s3
 H₀:=H3
 env:=compEnvC scope cl C X.env
 outer:=X.stack
 stack:=X.stack
 ex:=fp
 fn:=λx=>scope.names.lookup x==some .cell
 aj:=X.aj
 pn:=X.pn++ak
 xe:=λ_ _=>False
structure dX(sc scope:Scope):Prop where
 kind:scope.kind=.function
 YW:∀y∈scope.names,y.2=.cell->scope.names.lookup y.1=some .cell
 free:∀y∈scope.names,y.2=.free->sc.names.lookup y.1=some .cell\/sc.names.lookup y.1=some .free
 loc:∀y∈scope.names,y.2=.local->scope.names.lookup y.1=some .local
section
variable {X:Cx}{ak:List (Addr×Obj)}{Z:St}{H:Hp}{s:Shared}{scope:Scope}{cl:List (Str×Addr)}{N:List Str}{fp:List Addr}{ZY:St}
theorem zjo{h1:Heap}{t:Nat}{jY:List (Str×Addr)}(I:Inv X ak Z H s)(B:dX X.env.scope scope)(c1:∀x c,cl.lookup x=some c->X.env.cells.lookup x=some c)(c2:∀x∈scope.names,x.2=.free->∃c,cl.lookup x.1=some c)
  (f:∀b∈fp,je X ak H b) (fo:∀b∈fp,∃o,s.heap.get? b=some o) (hn:h1.Ns s.heap.objs.size (λ_=>none)) (kp:∀b o,s.heap.get? b=some o->h1.get? b=some o) (CN:oK s.heap.objs.size h1 scope.names cl jY)
  (hl:ZY.length=N.length) (hZ:∀(i:Nat) (x:Str) (v:V),N[i]?=some x->ZY[i]?=some (some v)->scope.names.lookup x=some .free/\∃j:Nat,X.N[j]?=some x/\Z[j]?=some (some v)) :
  Inv (X.blk scope jY N s.heap.objs.size s H fp ak) [] ZY H {s with heap:=h1,toks:=t}:=by
 have lt:∀b o,s.heap.get? b=some o->b≠s.heap.objs.size:=λb o q=>dH (bW q);have YX:∀b,b≠X.env.locals->b∉X.fs->b∉frs X.stack:=λb a c z=>(dh.mp (I.mQ b z)).elim a c;have mem_of:∀x k,scope.names.lookup x=some k->(x,k)∈scope.names:=λx k q=>Fp q;have old:∀x c,cl.lookup x=some c->c<s.heap.objs.size:=λx c q=>by
  obtain⟨v,o,q1,q2⟩:=I.cell x c (c1 x c q);exact bW q1
 have YZ:∀x,scope.names.lookup x=some .free->(x,NameKind.cell)∉scope.names:=λx q z=>by
  have:=B.YW _ z rfl;have this:scope.names.lookup x=some .cell:=this;rw[q] at this;cases this
 refine⟨⟨I.ok.mod,B.kind,I.ok.glob,I.ok.blt,cH _,λx y c a b=>?_,λx hx=>?_,λx c z q=>?_,I.ok.hd,I.ok.frames,.inl rfl,λb hb=>?_,I.bs,p7 I.ok.zX I.sz,λb o q hb=>?_,λb hb=>YX b (f b hb).2.1 (f b hb).2.2.1,I.stack,I.jX⟩,
  rfl,I.bare,Un.kept kp,⟨_,hn,λi x v e1 e2 e3=>?_⟩,λx c q=>?_,I.hok.fresh (cH _),λx c q=>?_,λp hp=>?_,I.hok.kept kp,hl⟩
 ·by_cases hc:s.heap.objs.size<c
  ·exact CN.d2 x y c hc a b
  ·rcases CN.d1 x c a with ⟨a1,_⟩|⟨_,a1,_⟩
   ·rcases CN.d1 y c b with ⟨b1,_⟩|⟨_,b1,_⟩
    ·exact I.ok.inj x y c (c1 x c a1) (c1 y c b1)
    ·exact absurd b1 hc
   ·exact absurd a1 hc
 ·have hx:(relabel scope X.env).names.lookup x=some .cell\/(relabel scope X.env).names.lookup x=some .free:=hx;have fr:scope.names.lookup x=some .cell\/scope.names.lookup x=some .free:=by
   rcases hx with hx|hx
   ·rcases RW hx with z|⟨_,z⟩
    ·exact .inl z
    ·exact .inr z
   ·rcases RW hx with z|⟨z,_⟩
    ·exact .inr z
    ·cases z
  rcases fr with fr|fr
  ·exact CN.d3 x fr
  ·obtain⟨c,hc⟩:=c2 (x,.free) (mem_of x _ fr) rfl;exact⟨c,CN.d4 x c (YZ x fr) hc⟩
 ·rcases CN.d1 x c q with ⟨_,q1⟩|⟨_,q1,_⟩
  ·have z:(scope.names.lookup x==some NameKind.cell)=true:=z;exact absurd (mem_of x _ (by simpa using z)) q1
  ·exact zR q1
 ·obtain⟨o,q⟩:=fo b hb;refine⟨lt b o q,λx c z=>?_⟩;rcases CN.d1 x c z with ⟨q1,_⟩|⟨_,q1,_⟩
  ·exact(f b hb).2.2.2.2.1 x c (c1 x c q1)
  ·exact λe=>absurd (bW q) (by rw[<-e];exact HX.mpr (zR q1))
 ·obtain⟨_,_,_,z,_⟩:=f b hb;rcases z with z|z
  ·exact I.ok.uN b o q z
  ·exact absurd (g8 (bW q) (p7 I.ok.zX z)) (nW _)
 ·obtain⟨fr,j,hj,hv⟩:=hZ i x v e1 e2;have hk:=B.free (x,.free) (mem_of x _ fr) rfl;obtain⟨m,hm,hlk⟩:=I.loc;obtain⟨u,r,l⟩:=hlk j x v hj hv (hk.elim (λz=>.inr (.inl z)) λz=>.inr (.inr z));obtain⟨c',lW⟩:=c2 (x,.free) (mem_of x _ fr) rfl;have lW:cl.lookup x=some c':=lW;refine⟨u,r,.inr ⟨Og fr,c',CN.d4 x c' (YZ x fr) lW,?_⟩⟩;rcases l with ⟨k1,_⟩|⟨_,c,k2,oc,k3,k4⟩
  ·have k1:X.env.scope.names.lookup x=some .local:=k1;rcases hk with hk|hk
   ·have hk:X.env.scope.names.lookup x=some .cell:=hk;rw[k1] at hk;cases hk
   ·have hk:X.env.scope.names.lookup x=some .free:=hk;rw[k1] at hk;cases hk
  ·have e:=c1 x c' lW;rw[k2] at e;cases e;exact⟨oc,kp _ oc k3,k4⟩
 ·rcases CN.d1 x c q with ⟨q1,_⟩|⟨_,_,q1⟩
  ·obtain⟨v,o,q1,q2⟩:=I.cell x c (c1 x c q1);exact⟨v,o,kp c o q1,q2⟩
  ·exact⟨none,q1⟩
 ·rcases CN.d1 x c q with ⟨q1,_⟩|⟨_,q1,_⟩
  ·exact I.fP x c (c1 x c q1)
  ·exact I.hok.fresh (zR q1)
 ·have hp:p∈X.pn++ak:=by
   have z:p∈(X.pn++ak)++[]:=hp;simpa using z
  obtain⟨a1,a2,a3,a4,a5⟩:=I.pin p hp;exact⟨kp _ _ a1,a2,lt _ _ a1,YX _ a3 a4,a5⟩
theorem zef(I:Inv X ak Z H s)(f:∀b∈fp,je X ak H b)(cJ:Inv (X.blk scope cl N s.heap.objs.size s H fp ak) [] Z' H' s'):Inv X ak Z H' s':=
 I.call' (ch:=fp) cJ.os cJ.base cJ.hok cJ.bare λb hb=>by
  obtain⟨_,a2,_,a4,a5,a6⟩:=f b hb;exact⟨a4.imp id λz=>Fl z,a2,a5,a6⟩
theorem Y0{Z':St}{H':Hp}{s':Shared}{h2:Heap}{C:Addr}(cJ:Inv X ak Z H' s')(hC:X.s₀.heap.objs.size<=C)(n1:H' C=none)(n2:C≠X.env.locals)(n3:∀x c,X.env.cells.lookup x=some c->c≠C)(n4:∀p∈X.pn++ak,p.1≠C)
  (sb:Heap.SameBut C s'.heap h2):Inv X ak Z H' {s' with heap:=h2}:=
 cJ.turned (t':=s'.toks) (λb o z q=>(sb.2 b z).trans q) n1 n2 (.inr hC) n3 n4
end
noncomputable abbrev qX(ifs:List Expr)(env:Env):Sem Bool:=forIn ifs true λc r=>if r=true then do let ok <-isTrue c env (eval c env);pure (ForInStep.yield ok) else pure (ForInStep.yield r)
theorem zgN{prog:Program}{w:World}{A:Around}{R:Result->Shared->Prop}{s:Shared}{elt target iter:Expr}{ifs:List Expr}{scope:Scope}{pos:Pos}{it acc:Value}{env:Env}(V:Nat->Shared->Prop)
  (turn:∀n s,V n s->wpAny (model prog w) A (pyNext it) (λr s₁=>match r with
   |none=>R (.ok .next) s₁
   |some v=>wpAny (model prog w) A (letOwnedTupleGo target it v) (λ_ s₂=>wpAny (model prog w) A (assign target env v) (λ_ s₃=>
     wpAny (model prog w) A (qX ifs env) (λok s₄=>
      if ok=true then wpAny (model prog w) A (eval elt env) (λx s₅=>wpAny (model prog w) A (call (.builtin "list.append") [acc,x]) (λ_ s₆=>∃m,m<n/\V m s₆) (λ_ _=>False) s₅) (λ_ _=>False) s₄
      else ∃m,m<n/\V m s₄) (λ_ _=>False) s₃) (λ_ _=>False) s₂) (λ_ _=>False) s₁) (λ_ _=>False) s)
  (n:Nat) (h:V n s):codeAny (model prog w) A (.compLoop (.ListComp elt [⟨target,iter,ifs,0⟩] scope pos) 0 it acc env) R s:=by
 refine codeAny_loop rfl V (λn s hV=>?_) n h;show wpAny _ A ((compTurn (.ListComp elt [⟨target,iter,ifs,0⟩] scope pos) 0 it acc env).onRaise (λx=>do noteFrame x env;theTreesLotGoes x)) _ _ s;refine wpAny_noted ?_;rw[compTurn_list];refine aA (uK (aA (jM (turn n s hV) (λr s₁ h₁=>?_) λ_ _ z=>z.elim)));cases r with
 |none=>exact aL h₁
 |some v=>
  refine aA (jM h₁ (λ_ s₂ h₂=>?_) λ_ _ z=>z.elim);refine aA (jM h₂ (λ_ s₃ h₃=>aA (jM h₃ (λok s₄ h₄=>?_) λ_ _ z=>z.elim)) λ_ _ z=>z.elim);cases ok with
  |true=>
   simp only[if_true] at h₄ ⊢;exact aA (aA (jM h₄ (λx s₅ h₅=>aA (jM h₅ (λ_ s₆ h₆=>aL (aL ⟨rfl,h₆⟩)) λ_ _ z=>z.elim)) λ_ _ z=>z.elim))
  |false=>
   simp only[jK,jA] at h₄ ⊢;exact aL ⟨rfl,h₄⟩
def Oh(X:Cx)(ifs:List Expr)(t:TT):Prop:=
 ∀(ak:List (Addr×Obj)) (s:Shared) (Z:St) (H:Hp) (Q:Bool->Hp->Prop),Inv X ak Z H s->t Z H Q->wpAny (model X.prog X.w) X.A (qX ifs X.env) (TP X ak Z Q) X.xe s
noncomputable def R4:TT:=λ_ H Q=>Q true H
theorem zjp:Oh X [] R4:=λ_ _ _ H _ I h=>wpAny_tests_nil ⟨H,I,h⟩
theorem zkJ(h:PT X c t):Oh X [c] t:=λak s Z H Q I hq=>wpAny_tests_one (h ak s Z H Q I hq)
def Jw(ZY:St->St)(g:TG)(tt:TT)(te:TE)(cJ:It)(Z:St)(H:Hp)(Q:VK):Prop:=∀D,H D=none->∃W:Nat->Nat->St->Hp->Prop,(∃m,W 0 m (ZY Z) (upd H D (.lst [])))/\∀i m Z' H',W i m Z' H'->
 (cJ.stop i H'/\Q (.ref D) H')\/(cJ.go i H'/\∃N:St->Hp->Prop,(∀Z2 H2,N Z2 H2->∃m',m'<m/\W (i+1) m' Z2 H2)/\∀x H2,cJ.Cp i H' x H2->g x Z' H2 λZ3 H3=>tt Z3 H3 λok H4=>
  if ok=true then te Z3 H4 λy H5=>∃ys,H5 D=some (.lst ys)/\ys.length<sizeLine/\N Z3 (upd H5 D (.lst (ys++[y]))) else N Z3 H4)
section
variable {X:Cx}{elt tg iter:Expr}{ifs:List Expr}{scope:Scope}{pos:Pos}{N:List Str}{ZY:St->St}{wi:TI}{g:TG}{tt:TT}{te:TE}
structure Parts(X:Cx)(elt tg:Expr)(ifs:List Expr)(scope:Scope)(N:List Str)(g:TG)(tt:TT)(te:TE):Prop where
 tgt:∀cl C s3 H3 fp ak,PG (X.blk scope cl N C s3 H3 fp ak) tg g
 tst:∀cl C s3 H3 fp ak,Oh (X.blk scope cl N C s3 H3 fp ak) ifs tt
 el:∀cl C s3 H3 fp ak,PE (X.blk scope cl N C s3 H3 fp ak) elt te
theorem Y4(hc:X.aj=true)(B:dX X.env.scope scope)(P:Parts X elt tg ifs scope N g tt te)(hl:∀Z,(ZY Z).length=N.length)
  (hZ:∀(Z:St) (i:Nat) (x:Str) (v:V),N[i]?=some x->(ZY Z)[i]?=some (some v)->scope.names.lookup x=some .free/\∃j:Nat,X.N[j]?=some x/\Z[j]?=some (some v))
  {ak:List (Addr×Obj)} {s:Shared} {Z:St} {H:Hp} {Q:VK} {it:Addr} {fp:List Addr} {tn:Nat->Heap->Prop} {cJ:It} (I:Inv X ak Z H s) (T:Turn X.prog X.w X.K tg cJ fp it tn) (st:tn 0 s.heap) (f:∀b∈fp,je X ak H b) (h:Jw ZY g tt te cJ Z H Q)
  {cl:List (Str×Addr)} (c1:∀x c,cl.lookup x=some c->X.env.cells.lookup x=some c) (c2:∀x∈scope.names,x.2=.free->∃c,cl.lookup x.1=some c) {R:Value->Addr->Result->Shared->Prop} {E:Value->Shared->Prop}
  (k:∀D C s' H',Inv X ak Z H' s'->X.s₀.heap.objs.size<=C->H' C=none->C≠X.env.locals->(∀x c,X.env.cells.lookup x=some c->c≠C)->(∀p∈X.pn++ak,p.1≠C)->(∃m,s'.heap.Ns C m)->Q (.ref D) H'->R (.ref D) C (.ok .next) s') :
  wpAny (model X.prog X.w) X.A (newList []) (λacc s₃=>wpAny (model X.prog X.w) X.A (newFunctionEnv scope X.env.globals cl [] X.env.qual none .none (some X.env)) (λcenv s₄=>
   codeAny (model X.prog X.w) X.A (.compStart (.ListComp elt [⟨tg,iter,ifs,0⟩] scope pos) 0 (.ref it) acc {cenv with scope:=relabel scope X.env}) (R acc cenv.locals) s₄) E s₃) E s:=by
 refine pI ?_;have hD:H s.heap.objs.size=none:=I.hok.fresh (cH _);have I3:Inv X ak Z (upd H s.heap.objs.size (.lst [])) {s with heap:=s.heap.push {cls:=.type "list",dict:=none,data:=.seq ([]:List Value).toArray}}:=
  I.laid (t':=s.toks) (λb u q=>cG _ q) (cH _) ⟨p8 _,[],0,.nil,iB _ rfl⟩
 have f3:∀b∈fp,je X ak (upd H s.heap.objs.size (.lst [])) b:=λb hb=>by
  obtain⟨a1,a2⟩:=f b hb;obtain⟨o,q,_⟩:=T.obj 0 _ st b hb;exact⟨by rw[dW (dH (bW q))];exact a1,a2⟩
 have st3:tn 0 (s.heap.push {cls:=.type "list",dict:=none,data:=.seq ([]:List Value).toArray}):=T.keep _ _ _ st λb hb o q=>cG _ q;obtain⟨W,⟨m0,w0⟩,turn⟩:=h s.heap.objs.size hD;generalize R5:({s with heap:=s.heap.push {cls:=.type "list",dict:=none,data:=.seq ([]:List Value).toArray}}:Shared)=s3 at *;have C_:tn 0 s3.heap:=by rw[<-R5];exact st3
 generalize hH3:upd H s.heap.objs.size (.lst [])=H3 at *;refine zgj (λx c q=>by obtain⟨v,o,q1,_⟩:=I3.cell x c (c1 x c q);exact bW q1) (λx y c a b=>I3.ok.inj x y c (c1 x c a) (c1 y c b)) λh1 jY hn kp CN=>?_;have R6:Inv (X.blk scope jY N s3.heap.objs.size s3 H3 fp ak) [] (ZY Z) H3 {s3 with heap:=h1}:=
  zjo (t:=s3.toks) I3 B c1 c2 f3 (λb hb=>let ⟨o,q,_⟩:=T.obj 0 _ C_ b hb;⟨o,q⟩) hn kp CN (hl Z) (hZ Z)
 have Y5:tn 0 h1:=T.keep _ _ _ C_ λb hb o q=>kp b o q;have fY:∀{H':Hp},(∀b∈fp,H' b=none)->∀b∈fp,je (X.blk scope jY N s3.heap.objs.size s3 H3 fp ak) [] H' b:=λ{H'} z b hb=>by
  obtain⟨a1,a2,a3,a4,a5,a6⟩:=f3 b hb;obtain⟨o,q,_⟩:=T.obj 0 _ C_ b hb;refine⟨z b hb,dH (bW q),λy=>(dh.mp (I3.mQ b y)).elim a2 a3,.inl hb,λx c y=>?_,λp hp=>a6 p ?_⟩
  ·rcases CN.d1 x c y with ⟨q1,_⟩|⟨_,q1,_⟩
   ·exact a5 x c (c1 x c q1)
   ·exact λe=>absurd (bW q) (by rw[<-e];exact HX.mpr (zR q1))
  have y:p∈(X.pn++ak)++[]:=hp;simpa using y
 have loop:codeAny (model X.prog X.w) X.A (.compLoop (.ListComp elt [⟨tg,iter,ifs,0⟩] scope pos) 0 (.ref it) (.ref s.heap.objs.size) (compEnvC scope jY s3.heap.objs.size X.env)) (R (.ref s.heap.objs.size) s3.heap.objs.size) {s3 with heap:=h1}:=by
  refine zgN (λn s'=>∃i Z' H',Inv (X.blk scope jY N s3.heap.objs.size s3 H3 fp ak) [] Z' H' s'/\tn i s'.heap/\(∀b∈fp,H' b=none)/\W i n Z' H') ?_ m0 ⟨0,ZY Z,H3,R6,Y5,λb hb=>(f3 b hb).1,w0⟩;rintro n s5 ⟨i,Z5,H5,yG,Gh,N8,w5⟩;rcases turn i n Z5 H5 w5 with ⟨stop,q⟩|⟨go,Nx,hN,step⟩
  ·refine aY (T.done (X.blk scope jY N s3.heap.objs.size s3 H3 fp ak) rfl rfl rfl hc i [] s5 Z5 H5 _ yG (fY N8) Gh stop) λr s6 ⟨hr,jh⟩=>?_;subst hr;have JX:=zef I3 f3 jh;refine k s.heap.objs.size s3.heap.objs.size s6 H5 JX I3.sz jh.free (wK I3.lt) (λx c y z=>?_) (λp hp z=>?_) ?_ q
   ·obtain⟨v,qc⟩:=I3.cell x c y;exact absurd qc.lt (by rw[z];exact nW _)
   ·exact absurd (bW (I3.pin p hp).1) (by rw[z];exact nW _)
   ·obtain⟨m,hm,_⟩:=jh.loc;exact⟨m,hm⟩
  ·refine aY (T.item (X.blk scope jY N s3.heap.objs.size s3 H3 fp ak) rfl rfl rfl hc i [] s5 Z5 H5 _ yG (fY N8) Gh go) λr s6 hx=>xZ hx λu hr h6=>?_;subst hr;refine aY h6 λ_ s7 ⟨x,H7,m5,r7,y7,R7,fr7⟩=>?_;have Jx:=m5.pinned (fY fr7) (T.obj _ _ R7);refine aY (P.tgt jY s3.heap.objs.size s3 H3 fp ak _ s7 Z5 H7 x u _ Jx r7 (step x H7 y7)) λ_ s8 ⟨Z8,H8,R8,q8⟩=>?_;refine aY (P.tst jY s3.heap.objs.size s3 H3 fp ak _ s8 Z8 H8 _ R8 q8) λok s9 hx=>xZ hx λH9 Jy q9=>?_;have again:∀{H':Hp} {s':Shared},Inv (X.blk scope jY N s3.heap.objs.size s3 H3 fp ak) ([]++kY fp s7.heap) Z8 H' s'->Nx Z8 H'->∃m,m<n/\∃i Z' H',Inv (X.blk scope jY N s3.heap.objs.size s3 H3 fp ak) [] Z' H' s'/\tn i s'.heap/\(∀b∈fp,H' b=none)/\W i m Z' H':=λ{H' s'} qg n'=>by
    obtain⟨m',hm,w'⟩:=hN Z8 H' n';refine⟨m',hm,i+1,Z8,H',qg.iH,T.keep _ _ _ R7 λb hb o e=>(qg.pin (b,o) (pX _ (pX _ (N7 hb e)))).1,λb hb=>?_,w'⟩;obtain⟨o,e,d⟩:=T.obj _ _ R7 b hb;exact(qg.pin (b,o) (pX _ (pX _ (N7 hb e)))).2.1
   cases ok with
   |false=>
    rw[if_neg (by decide)] at q9 ⊢;exact again Jy q9
   |true=>
    rw[if_pos rfl] at q9 ⊢;refine aY (P.el jY s3.heap.objs.size s3 H3 fp ak _ s9 Z8 H9 _ Jy q9) λv s10 ⟨y,H10,Jz,r10,ys,R9,hz,q10⟩=>?_;refine aY (YB (X:=(X.blk scope jY N s3.heap.objs.size s3 H3 fp ak)) _ s10 Z8 H10 (.ref s.heap.objs.size) [y] (.ref s.heap.objs.size) [v] (λ_ H'=>Nx Z8 H') Jz rfl (.cons r10 .nil) ⟨s.heap.objs.size,ys,y,rfl,rfl,R9,hz,q10⟩) λ_ s11 hx=>eF hx λ_ H11 JD _ q11=>again JD q11
 exact codeAny_compStart_list loop (T.self _ 0 _ _ _ Y5 loop)
end
noncomputable def u_(wi:TI)(ZY:St->St)(g:TG)(tt:TT)(te:TE):TE:=λZ H Q=>wi Z H λcJ H1=>Jw ZY g tt te cJ Z H1 Q
section
variable {X:Cx}{elt tg iter:Expr}{ifs:List Expr}{scope:Scope}{pos spos py:Pos}{N:List Str}{ZY:St->St}{wi:TI}{g:TG}{tt:TT}{te:TE}{i:Nat}{y:Str}
theorem Y6(I:Inv X ak Z H s)(B:dX X.env.scope scope):∃cl,closureFor scope X.env=pure cl/\(∀x c,cl.lookup x=some c->X.env.cells.lookup x=some c)/\∀x∈scope.names,x.2=.free->∃c,cl.lookup x.1=some c:=
 zfy λx hx hf=>I.ok.has x.1 (B.free x hx hf)
theorem zj1(hc:X.aj=true)(B:dX X.env.scope scope)(hi:PI X tg iter wi)(P:Parts X elt tg ifs scope N g tt te)(hl:∀Z,(ZY Z).length=N.length)
  (hZ:∀(Z:St) (i:Nat) (x:Str) (v:V),N[i]?=some x->(ZY Z)[i]?=some (some v)->scope.names.lookup x=some .free/\∃j:Nat,X.N[j]?=some x/\Z[j]?=some (some v))
  (hs:∀x,foldedSetIterable iter X.env x=pure x:=by intro _;rfl):PE X (.ListComp elt [⟨tg,iter,ifs,0⟩] scope pos) (u_ wi ZY g tt te):=by
 intro ak s Z H Q I h;obtain⟨cl,jQ,c1,c2⟩:=Y6 I B;rw[eval_ListComp];refine wpAny_comprehension_free (use:=none) rfl hs jQ B.kind B.loc (aY (hi ak s Z H _ I h) λxv s1 h1=>aY h1 λitv s2 h2=>?_);obtain⟨it,fp,tn,cJ,H2,e,I2,T,st2,f2,hq⟩:=h2;subst e;exact Y4 hc B P hl hZ I2 T st2 f2 hq c1 c2 (R:=λacc C=>compPost (model X.prog X.w) X.A X.xe none (EP X ak Z Q) acc C) λD C s' H' qg a b c d e ⟨m,hm⟩ q=>⟨m,hm,λh' sb=>⟨.ref D,H',Y0 (Z':=Z) qg a b c d e sb,rfl,q⟩⟩
theorem zfx(hc:X.aj=true)(hN:X.N.Nodup)(oM:X.N[i]?=some y)(hx:Loc X.env.scope y)(hf:X.fn y=true\/X.env.scope.names.lookup y=some .local)(B:dX X.env.scope scope)(hi:PI X tg iter wi)(P:Parts X elt tg ifs scope N g tt te)(hl:∀Z,(ZY Z).length=N.length)
  (hZ:∀(Z:St) (i:Nat) (x:Str) (v:V),N[i]?=some x->(ZY Z)[i]?=some (some v)->scope.names.lookup x=some .free/\∃j:Nat,X.N[j]?=some x/\Z[j]?=some (some v))
  (JF:swapsWith (.ListComp elt [⟨tg,iter,ifs,0⟩] scope pos) (some (.Name y py)) spos.line X.env=pure true) (hs:∀x,foldedSetIterable iter X.env x=pure x:=by intro _;rfl) :
  PS X (.Assign [.Name y py] (.ListComp elt [⟨tg,iter,ifs,0⟩] scope pos) spos) (Cj (u_ wi ZY g tt te) (eZ i)):=by
 intro ak s Z H D I h;obtain⟨cl,jQ,c1,c2⟩:=Y6 I B;rw[exec_Assign_Name_used _ _ _ _ JF];refine aA (uK (aA ?_));show wpAny _ X.A (do let _ <-comprehension (.ListComp elt [⟨tg,iter,ifs,0⟩] scope pos) scope X.env _ (newList []) false (eval iter X.env) (some (assign (.Name y py) X.env))) _ _ s;refine aA (wpAny_comprehension_free (use:=some (assign (.Name y py) X.env)) rfl hs jQ B.kind B.loc (aY (hi ak s Z H _ I h) λxv s1 h1=>aY h1 λitv s2 h2=>?_));obtain⟨it,fp,tn,cJ,H2,e,I2,T,st2,f2,hq⟩:=h2;subst e;refine Y4 hc B P hl hZ I2 T st2 f2 hq c1 c2 (R:=λacc C=>compPost (model X.prog X.w) X.A X.xe (some (assign (.Name y py) X.env)) _ acc C) λD' C s' H' qg a b c d e ⟨m,hm⟩ q=>?_;show wpAny _ _ (assign (.Name y py) X.env (.ref D')) _ _ s';refine wpAny_assign_Name (X5 (v:=.ref D') qg hN oM hx rfl (λs5 yG ⟨ad,sb,had⟩=>?_) hf);have nC:C≠ad:=by
  rcases had with z|z
  ·rw[z];exact c
  ·exact(d y ad z).symm
 obtain⟨ol,es,ep,e1,r1⟩:=hm;refine⟨m,⟨ol,es,ep,(sb.2 C nC).trans e1,r1⟩,λh' sb'=>aL (aL ⟨_,H',Y0 (Z':=Z) yG a b c d e sb',q⟩)⟩
end
section
variable {X:Cx}{elt tg iter tg₂ iter₂:Expr}{ifs₂:List Expr}{scope:Scope}{pos spos py:Pos}{N:List Str}{ZY:St->St}{wi wi₂:TI}{g g₁:TG}{tt:TT}{te:TE}{i:Nat}{y:Str}
end
end L2
namespace L2
open PySem PySem.Spec PyProof.Rows PySem.W
noncomputable def aZ{α:Type}(lt:Nat->Nat->Option Bool):KasT α->Option α
 |.ret a=>some a
 |.ask i j k=>match lt i j with
  |some b=>aZ lt (k b)
  |none=>none
theorem Y7{α:Type}{lt:Nat->Nat->Option Bool}{cmp:Nat->Nat->(Bool->Shared->Prop)->Shared->Prop}{Q:α->Shared->Prop}{s:Shared}(hc:∀i j b C,lt i j=some b->C b s->cmp i j C s){a:α}(q:Q a s):∀{t:KasT α},aZ lt t=some a->t.kasWp cmp Q s
 |.ret a',h=>by
  unfold aZ at h;cases h;exact q
 |.ask i j k,h=>by
  unfold aZ at h;cases e:lt i j with
  |none=>rw[e] at h;cases h
  |some b=>
   rw[e] at h;exact hc i j b _ e (Y7 hc q h)
noncomputable def gP(vs:List Value)(p:Array Nat):Array Value:=if vs.length<2 then vs.toArray else List.toArray (p.toList.map λi=>vs.getD i Value.none)
section
variable {prog:Program}{w:World}{A:Around}{E:Value->Shared->Prop}{s:Shared}{κ:SortKind}{lt:Nat->Nat->Option Bool}{p:Array Nat}
theorem Y8{a:Addr}{vs:List Value}{n:Nat}{P:PySem.Fin->Shared->Prop}(ho:s.heap.get? a=some (seqObj "list" vs.toArray n))(yH:vs.length<64)
  (hk:2<=vs.length->∀(s':Shared) (Q:SortKind->Shared->Prop),(∀b o,b≠a->s.heap.get? b=some o->s'.heap.get? b=some o)->Q κ s'->wpAny (model prog w) A (keyKind' vs.toArray) Q E s')
  (hlt:2<=vs.length->∀(s':Shared) i j b C,(∀b o,b≠a->s.heap.get? b=some o->s'.heap.get? b=some o)->lt i j=some b->C b s'->kas_ask prog w A κ vs i j C s') (hr:2<=vs.length->aZ lt (kas_sort vs.length)=some p) (JL:2<=vs.length->p.size=vs.length)
  (h:P (.done (.ret .none)) {s with heap:=sortedHeap s.heap a vs (gP vs p)}) :
  wpAny (model prog w) A (Builtin.«list.sort» ⟨[.ref a],[]⟩) P E s:=by
 rw[list_sort_plain];have ha:a<s.heap.objs.size:=bW ho;refine aA (listItems_at ho rfl ?_);refine aA (listUpdate_at ho rfl ?_ (by rw[dJ,qL];lia) (p8 _));obtain⟨e1,Gk⟩ : ∃e1,(s.heap.update a (Obj.mapSeq λ_=>#[])).get? a=some (seqObj "list" #[] e1):=⟨_,get?_update_seq ho (λ_=>#[])⟩;refine aA (seqEpoch_at Gk rfl ?_);refine aA (wpAny_newTuple ?_ (by show vs.length<=_;rw[qL];lia));refine aA (wpAny_newList ?_ (p8 _));refine lJ ?_;have keep:∀b o,b≠a->s.heap.get? b=some o->(((s.heap.update a (Obj.mapSeq λ_=>(#[]:Array Value))).push (seqObj "tuple" vs.toArray 0)).push (seqObj "list" #[] 0)).get? b=some o:=λb o nb e=>
  cG _ (cG _ ((Nb _ _ _ _ nb).trans e))
 have Oi:(((s.heap.update a (Obj.mapSeq λ_=>(#[]:Array Value))).push (seqObj "tuple" vs.toArray 0)).push (seqObj "list" #[] 0)).get? a=some (seqObj "list" #[] e1):=by
  rw[Ni _ _ _ (by rw[size_push',Heap.size_update];exact dH (rT ha)),Ni _ _ _ (by rw[Heap.size_update];exact dH ha)];exact Gk
 show wpAny (model prog w) A _ P E {s with heap:=((s.heap.update a (Obj.mapSeq λ_=>#[])).push (seqObj "tuple" vs.toArray 0)).push (seqObj "list" #[] 0)};dsimp only;have jP:vs.toArray.size=vs.length:=by simp
 by_cases h2:vs.toArray.size<2
 ·rw[if_pos h2,if_pos h2];refine aA (aL ?_);rw[StateT.run_pure];refine aA (aL ?_);dsimp only;refine aA (seqEpoch_at Oi rfl ?_);refine aA (listUpdate_at Oi rfl ?_ (p8 _) (by rw[Array.size_map];show (pairsOf vs).size<=_;rw[pairsOf_size,qL];lia));simp only[Fx,jK,jA];have e:((vs.toArray.zip vs.toArray).map (·.2))=gP vs p:=by
   unfold gP;rw[if_pos (by rw[jP] at h2;exact h2)];apply Array.toList_inj.mp;simp[List.map_snd_zip]
  refine aL ?_;have h':=h;rw[<-e] at h';exact h'
 ·rw[if_neg h2,if_neg h2];have m6:2<=vs.length:=by lia
  refine aA (hk m6 _ _ keep ?_);refine aA (jM (kat_run (κ:=κ) (ks:=vs) (vs:=vs) (G:=λp' s'=>p'=p/\s'={s with heap:=((s.heap.update a (Obj.mapSeq λ_=>#[])).push (seqObj "tuple" vs.toArray 0)).push (seqObj "list" #[] 0)})
   (Q:=λst' s'=>arrOf st'=p.map (kas_item (vs.toArray.zip vs.toArray))/\failedOf st'=none/\s'={s with heap:=((s.heap.update a (Obj.mapSeq λ_=>#[])).push (seqObj "tuple" vs.toArray 0)).push (seqObj "list" #[] 0)})
   rfl m6 yH (λp' st' s' a1 a2 a3 a4=>⟨by rw[a2,a4.1],a3,a4.2⟩) (Y7 (λi j b C hl hC=>hlt m6 _ i j b C keep hl hC) ⟨rfl,rfl⟩ (hr m6))) ?_ λ_ _ e=>e)
  rintro⟨⟨⟩,st'⟩ s' ⟨Oj,hf,rfl⟩;dsimp only;have hout:=kat_snds (ks:=vs) (vs:=vs) rfl Oj;have e:List.toArray (p.toList.map λi=>vs.getD i Value.none)=gP vs p:=by
   unfold gP;rw[if_neg (by lia)]
  rw[hout,e];have hso:(gP vs p).size=vs.length:=by rw[<-e,dJ,bN,Bt,JL m6]
  refine aA (seqEpoch_at Oi rfl ?_);refine aA (listUpdate_at Oi rfl ?_ (p8 _) (by rw[hso,qL];lia));rw[hf];simp only[Fx,jK,jA];exact aL h
theorem R_(hl:s.heap.IsList l vs.toArray)(yH:vs.length<64)
  (hk:2<=vs.length->∀(s':Shared) (Q:SortKind->Shared->Prop) E,(∀b o,s.heap.get? b=some o->s'.heap.get? b=some o)->Q κ s'->wpAny (model prog w) A.in1.in1 (keyKind' vs.toArray) Q E s')
  (hlt:2<=vs.length->∀(s':Shared) i j b C,(∀b o,s.heap.get? b=some o->s'.heap.get? b=some o)->lt i j=some b->C b s'->kas_ask prog w A.in1.in1 κ vs i j C s') (hr:2<=vs.length->aZ lt (kas_sort vs.length)=some p) (JL:2<=vs.length->p.size=vs.length)
  (h:Q (.ref (s.heap.objs.size+1)) {s with heap:=sortedAll s.heap vs (gP vs p)}) :
  wpAny (model prog w) A (call (.builtin "sorted") [.ref l]) Q E s:=by
 refine Calls.call_function_entry kind_sorted plain_sorted entry_sorted (args_sorted1 _) ?_;unfold Builtin.«sorted»;refine aA (m:=checkCount "sorted" 1 1 _) (aL ?_);refine aA (collect_list hl ?_ (by rw[qL];lia));refine aA (wpAny_newList ?_ (by rw[qL];lia));have jP:((s.heap.push (seqObj "list" #[] 0)).update s.heap.objs.size (Obj.mapSeq (·++vs.toArray))).objs.size=s.heap.objs.size+1:=by
  rw[Heap.size_update,size_push']
 have zZ:(((s.heap.push (seqObj "list" #[] 0)).update s.heap.objs.size (Obj.mapSeq (·++vs.toArray))).push (seqObj "list" vs.toArray 0)).get? (s.heap.objs.size+1)=some (seqObj "list" vs.toArray 0):=by
  rw[<-jP];exact iB _ rfl
 have keep:∀b o,s.heap.get? b=some o->(((s.heap.push (seqObj "list" #[] 0)).update s.heap.objs.size (Obj.mapSeq (·++vs.toArray))).push (seqObj "list" vs.toArray 0)).get? b=some o:=λb o q=>by
  have hlt:b<s.heap.objs.size:=bW q;rw[Ni _ _ _ (by rw[jP];exact dH (rT hlt)),Nb _ _ _ _ (dH hlt),Ni _ _ _ (dH hlt)];exact q
 show wpAny _ _ _ _ _ {s with heap:=((s.heap.push (seqObj "list" #[] 0)).update s.heap.objs.size (Obj.mapSeq (·++vs.toArray))).push (seqObj "list" vs.toArray 0)};rw[jP];have nn:∀b o,s.heap.get? b=some o->b≠s.heap.objs.size+1:=λb o e=>dH (rT (bW e));refine aA (lJ (tX slot_list_sort ⟨_,zZ,rfl⟩ entry_list_sort (Y8 (κ:=κ) (lt:=lt) (p:=p) zZ yH (λh2 s' Q' k q=>hk h2 s' Q' _ (λb o e=>k b o (nn b o e) (keep b o e)) q) (λh2 s' i j b C k e q=>hlt h2 s' i j b C (λb o e=>k b o (nn b o e) (keep b o e)) e q) hr JL ⟨_,rfl,?_⟩) (args_list_sort _)));exact aL ⟨_,rfl,h⟩
end
noncomputable def jR:List V->List V->Option Bool
 |[],ys=>some (decide (0<ys.length))
 |_::_,[]=>some false
 |.int x::xs,.int y::ys=>if x=y then jR xs ys else some (decide (x<y))
 |_::_,_::_=>none
theorem Y9{prog:Program}{w:World}{A:Around}{s:Shared}{fin:Bool}{C:Bool->Shared->Prop}{b:Bool}:∀{us ws:List V} {its jts:List Value} {i:Nat},Vals us its->Vals ws jts->jR us ws=some b->fin=decide (us.length<ws.length)->C b s->KatLex prog w A true fin C (its.zip jts) i s:=by
 intro us ws its jts i r1
 induction r1 generalizing ws jts i with
 |nil=>
  intro _ h hf hc;rw[List.zip_nil_left];unfold jR at h;cases h;rw[hf];exact kat_nil hc
 |@cons x u us its rx ri ih=>
  intro r2 h hf hc;cases r2 with
  |nil=>
   rw[List.zip_nil_right];unfold jR at h;cases h;rw[hf];exact kat_nil (by simpa using hc)
  |@cons y v ws jts ry rj=>
   rw[Ht];cases x with
   |int a=>
    cases y with
    |int c=>
     obtain⟨t,rfl⟩:=rx;obtain⟨t',rfl⟩:=ry;unfold jR at h;refine kat_cons (wpAny_eqBool_int ?_);by_cases e:a=c
     ·rw[if_pos e] at h;subst e;rw[zP];exact kat_yes (ih rj h (by rw[hf];simp) hc)
     ·rw[if_neg e] at h;cases h;rw[show (a==c)=false by simpa using e];refine kat_no ?_;by_cases hi:i=0
      ·subst hi;exact oneLt_int hc
      ·rw[show (true&&i==0)=false by simpa using hi];exact kat_one _ _ (wpAny_lt_int hc)
    |_=>cases h
   |_=>cases y<;>cases h
def vd(K:W.Frag)(H:Hp)(ys:List V)(lt:Nat->Nat->Option Bool):Prop:=
 ((∀v∈ys,∃i,v=V.int i)/\∀i j b,lt i j=some b->∃x y,ys[i]?=some (.int x)/\ys[j]?=some (.int y)/\b=decide (x<y)) \/
 ((∀v∈ys,∃a i r,v=.ref a/\gj K H a (.int i::r))/\∀i j b,lt i j=some b->∃a c us ws,ys[i]?=some (.ref a)/\ys[j]?=some (.ref c)/\gj K H a us/\gj K H c ws/\jR us ws=some b)
noncomputable def lX(ys:List V)(p:Array Nat):List V:=if ys.length<2 then ys else p.toList.map λi=>ys.getD i .non
theorem Sd(r:Vals ys its):∀l:List Nat,Vals (l.map λi=>ys.getD i .non) (l.map λi=>its.getD i Value.none)
 |[]=>.nil
 |i::l=>by
  refine .cons ?_ (Sd r l);cases e:ys[i]? with
  |some y=>
   obtain⟨u,e1,e2⟩:=r.get e;show RelV (ys.getD i .non) (its.getD i Value.none);rw[kj,kj,e,e1];exact e2
  |none=>
   have e1:its[i]?=none:=by rw[qI] at e ⊢;rw[<-r.length];exact e
   show RelV (ys.getD i .non) (its.getD i Value.none);rw[kj,kj,e,e1];rfl
theorem zhA{ys:List V}{its:List Value}(r:Vals ys its)(p:Array Nat):Vals (lX ys p) (gP its p).toList:=by
 unfold lX gP;rw[r.length];by_cases h:its.length<2
 ·rw[if_pos h,if_pos h];exact r
 ·rw[if_neg h,if_neg h];exact Sd r p.toList
theorem zhX{ys:List V}{its:List Value}(r:Vals ys its):∀u∈its,∃v∈ys,RelV v u:=by
 induction r with
 |nil=>intro u hu;cases hu
 |cons h t ih=>
  intro u hu;rcases dh.mp hu with rfl|hu
  ·exact⟨_,fV,h⟩
  ·obtain⟨v,a,b⟩:=ih u hu;exact⟨v,fM _ a,b⟩
section
variable {X:Cx}
theorem zhg{prog:Program}{w:World}{A:Around}{E:Value->Shared->Prop}{s:Shared}{its:List Value}{Q:SortKind->Shared->Prop}(h2:2<=its.length)(hi:∀u∈its,∃i t,u=Value.int i t)(q:Q oneType' s):wpAny (model prog w) A (keyKind' its.toArray) Q E s:=
 kas_kind (T:=.type "int") h2 (λv hv=>by obtain⟨i,t,rfl⟩:=hi v hv;exact .of_pure rfl) (by decide) (by decide) q
theorem zjn{K:W.Frag}{ak:List (Addr×Obj)}{s:Shared}{Z:St}{H:Hp}(I:Inv X ak Z H s){h':Heap}(k:∀b o,s.heap.get? b=some o->h'.get? b=some o):∀{ys:List V} {its:List Value},Vals ys its->(∀v∈ys,∃a i r,v=.ref a/\gj X.K H a (.int i::r))->∃fs:List Value,fs.length=its.length/\(∀f∈fs,∃i t,f=Value.int i t)/\KatTups h' its fs:=by
 intro ys its r0
 induction r0 with
 |nil=>exact λ_=>⟨[],rfl,(λf hf=>by cases hf),trivial⟩
 |@cons v u ys its r rs ih=>
  intro h;obtain⟨a,i,r',rfl,hq⟩:=h _ fV;obtain⟨fs,l,hf,kt⟩:=ih λv hv=>h v (fM _ hv);obtain⟨its',rv,⟨o,ho,hc,n,hd⟩,_⟩:=I.tuple hq;cases (show u=Value.ref a from r);cases rv with
  |cons ri rr=>
   obtain⟨t,rfl⟩:=ri;refine⟨Value.int i t::fs,by simp[l],λf hf'=>?_,KatTups.cons (k _ _ ho) hc hd (by simp) kt⟩;rcases dh.mp hf' with rfl|z
   ·exact⟨i,t,rfl⟩
   ·exact hf f z
theorem Y_{prog:Program}{w:World}{A:Around}{E:Value->Shared->Prop}{s:Shared}{its fs:List Value}{Q:SortKind->Shared->Prop}(h2:2<=its.length)(hl:fs.length=its.length)(hi:∀u∈fs,∃i t,u=Value.int i t)(kt:KatTups s.heap its fs)(q:Q (tuples' true) s):wpAny (model prog w) A (keyKind' its.toArray) Q E s:=
 kat_kind (T:=.type "int") kt (by lia) (λv hv=>by obtain⟨i,t,rfl⟩:=hi v hv;exact .of_pure rfl) (by decide) q
theorem Dg{its:List Value}{i:Nat}{u:Value}(h:its[i]?=some u):its.getD i Value.none=u:=by rw[kj,h];rfl
theorem zea:dB X (.builtin "sorted") (λxs H Q=>∃l ys lt p,xs=[.ref l]/\dI X.K H l ys/\ys.length<64/\(2<=ys.length->vd X.K H ys lt/\aZ lt (kas_sort ys.length)=some p/\p.size=ys.length)/\∀r,H r=none->Q (.ref r) (upd H r (.lst (lX ys p)))):=by
 intro ak s Z H xs us Q I r h;obtain⟨l,ys,lt,p,rfl,hq,yH,hs,q⟩:=h;obtain⟨u,rfl,rx⟩:=vals1 r;cases rx;obtain⟨its,rv,pl,hz⟩:=I.list hq;have hlen:=rv.length;have fin:EP X ak Z Q (.ref (s.heap.objs.size+1)) {s with heap:=sortedAll s.heap its (gP its p)}:=by
  obtain⟨e,he⟩:=sortedAll_at s.heap its (gP its p);have hn:H (s.heap.objs.size+1)=none:=I.hok.fresh (Nat.le_succ _);refine⟨.ref (s.heap.objs.size+1),_,I.laid (t':=s.toks) (λb u q=>sortedAll_old q) (Nat.le_succ _) (show aU X.prog X.w _ _ _ (.lst (lX ys p)) from ⟨?_,(gP its p).toList,e,zhA rv p,by rw[Array.toArray_toList];exact he⟩),rfl,q _ hn⟩;unfold lX;by_cases h2:ys.length<2
  ·rw[if_pos h2];exact hz
  ·rw[if_neg h2,bN,Bt,(hs (by lia)).2.2];exact hz
 by_cases h2:2<=ys.length
 ·obtain⟨hS,hr,hp⟩:=hs h2;rcases hS with ⟨hI,hlt⟩|⟨hT,hlt⟩
  ·refine R_ (κ:=oneType') (lt:=lt) (p:=p) pl.isList (by lia) (λm6 s' Q' E' k q'=>zhg m6 (λu hu=>?_) q') (λ_ s' i j b C k e hC=>?_) (λ_=>by rw[<-hlen];exact hr) (λ_=>by lia) fin
   ·obtain⟨v,hv,rr⟩:=zhX rv u hu;obtain⟨i,rfl⟩:=hI v hv;obtain⟨t,rfl⟩:=rr;exact⟨i,t,rfl⟩
   ·obtain⟨x,y,e1,e2,rfl⟩:=hlt i j b e;obtain⟨u1,f1,g1⟩:=rv.get e1;obtain⟨u2,f2,g2⟩:=rv.get e2;obtain⟨t1,rfl⟩:=g1;obtain⟨t2,rfl⟩:=g2;show wpAny _ _ (keyLt' oneType' (its.getD i Value.none) (its.getD j Value.none)) C _ s';rw[Dg f1,Dg f2];exact kat_lt_int hC
  ·refine R_ (κ:=tuples' true) (lt:=lt) (p:=p) pl.isList (by lia) (λm6 s' Q' E' k q'=>?_) (λ_ s' i j b C k e hC=>?_) (λ_=>by rw[<-hlen];exact hr) (λ_=>by lia) fin
   ·obtain⟨fs,l1,hf,kt⟩:=zjn (K:=X.K) I k rv hT;exact Y_ m6 l1 hf kt q'
   ·obtain⟨a,c,us,ws,e1,e2,q1,q2,e3⟩:=hlt i j b e;obtain⟨u1,f1,g1⟩:=rv.get e1;obtain⟨u2,f2,g2⟩:=rv.get e2;cases (show u1=Value.ref a from g1);cases (show u2=Value.ref c from g2);obtain⟨i1,r1,⟨o1,Gk,hc1,n1,Sg⟩,_⟩:=I.tuple q1;obtain⟨i2,r2,⟨o2,oE,ud,n2,hd2⟩,_⟩:=I.tuple q2;show wpAny _ _ (keyLt' (tuples' true) (its.getD i Value.none) (its.getD j Value.none)) C _ s';rw[Dg f1,Dg f2];refine kat_lt (k _ _ Gk) Sg (k _ _ oE) hd2 (Y9 r1 r2 e3 ?_ hC);rw[r1.length,r2.length];simp
 ·exact R_ (κ:=oneType') (lt:=lt) (p:=p) pl.isList (by lia) (λm6=>absurd m6 (by lia)) (λm6=>absurd m6 (by lia)) (λm6=>absurd m6 (by lia)) (λm6=>absurd m6 (by lia)) fin
end
end L2
namespace L2
open PySem PySem.Spec PyProof.Rows PySem.W PySem.Calls PySem.Builtin PySem.Builtin.ObjectAttr
theorem Za(self:Value):∀{l:List Value},bH l=true->refuseLoop self "__setattr__" l=pure ()
 |.ref c::r,e=>by rw[refuseLoop_ref];exact Za self (by unfold bH at e;exact e)
 |[],e=>by cases e
 |.type n::r,e=>by
  have e':(Value.type n::r)=su:=by unfold bH at e;exact jz.mp e
  rw[e'];exact PySem.F.store_ValueError.passes self
 |.none::r,e=>by unfold bH at e;cases (jz.mp e)
 |.bool _::r,e=>by unfold bH at e;cases (jz.mp e)
 |.int _ _::r,e=>by unfold bH at e;cases (jz.mp e)
 |.str _ _::r,e=>by unfold bH at e;cases (jz.mp e)
 |.bytes _ _::r,e=>by unfold bH at e;cases (jz.mp e)
 |.float _ _::r,e=>by unfold bH at e;cases (jz.mp e)
 |.builtin _::r,e=>by unfold bH at e;cases (jz.mp e)
theorem Zb:∀{l:List Value},bH l=true->l.contains (.type "object")=true
 |.ref c::r,e=>by rw[QC,Zb (l:=r) (by unfold bH at e;exact e),Bool.or_true]
 |[],e=>by cases e
 |.type n::r,e=>by
  have e':(Value.type n::r)=su:=by unfold bH at e;exact jz.mp e
  rw[e']
  decide
 |.none::r,e=>by unfold bH at e;cases (jz.mp e)
 |.bool _::r,e=>by unfold bH at e;cases (jz.mp e)
 |.int _ _::r,e=>by unfold bH at e;cases (jz.mp e)
 |.str _ _::r,e=>by unfold bH at e;cases (jz.mp e)
 |.bytes _ _::r,e=>by unfold bH at e;cases (jz.mp e)
 |.float _ _::r,e=>by unfold bH at e;cases (jz.mp e)
 |.builtin _::r,e=>by unfold bH at e;cases (jz.mp e)
section
variable {prog:Program}{w:World}{A:Around}{R:Result->Shared->Prop}{E:Value->Shared->Prop}{s:Shared}{K:W.Frag}{x C:Addr}{ox:Obj}{cd:ClassData}{name:Str}{v:Value}{mA:Str->Option Value}{ns:List Str}
theorem Ad(hx:h.get? x=some ox)(hc:ox.cls=.ref C):Looks M h (typeOf (.ref x)) (.ref C):=by
 rw[<-hc];exact(Looks.ld hx).andThen .now
theorem Sh(X:K.In s.heap)(hx:s.heap.get? x=some ox)(hc:ox.cls=.ref C)(vf:∀c,ox.data≠.cls c)(jQ:clsIn K C=some cd)(hm:bH cd.mro=true)(vg:cd.hasDict=true)(ht:findIn K (.ref C) name=some none)
  (hd:(ox.dict=none/\∀n,mA n=none)\/∃dx,ox.dict=some dx/\dx≠x/\s.heap.Ns1 dx mA) (hw:Within mA ns) (jP:ns.length<=1000)
  (hq:∀h' tk' d,h'.get? x=some {ox with dict:=some d}->d≠x->h'.Ns1 d (λy=>if y=name then some v else mA y)->((ox.dict=none/\s.heap.objs.size<=d)\/ox.dict=some d)->(∀b o,b≠x->b≠d->s.heap.get? b=some o->h'.get? b=some o)->R (.ok (.ret .none)) {s with heap:=h',toks:=tk'}) :
  codeAny (model prog w) A (.call (.builtin "object.__setattr__") ⟨[.ref x,.str name tk,v],[]⟩) R s:=by
 have SF:=PySem.F.store_object;have ne:cd.mro.isEmpty=false:=by cases q:cd.mro with|nil=>rw[q] at hm;cases hm|cons _ _=>rfl
 have I:Looks (model prog w) s.heap (typeOf (.ref x)) (.ref C):=Ad hx hc;have ao:Looks (model prog w) s.heap (isInstance (.ref x) (.type "object")) true:=I.andThen (looks_mroIn X (by unfold mroIn;rw[jQ,Option.bind_some,if_neg (by rw[ne];decide),Zb hm]));refine Qw SF.slot.plain SF.entry (@check_slot (model prog w) _ _ s "object.__setattr__" "object" "__setattr__" (.ref x) [.str name tk,v] [] _ SF.kind SF.split ao (SF.args (.ref x) (.str name tk) v) ?_);have Ae:Looks (model prog w) s.heap (mroOf (.ref C)) cd.mro:=(looks_clsIn X jQ).andThen .now;rw[osa_eq,refuse_eq];refine aA (aA (I.here (aA (Ae.here ?_))));rw[Za _ hm];refine aL (aA (I.here (aA ((looks_findIn X ht).here (aA (aL ?_))))));obtain⟨oc,odi,oda,osl⟩:=ox;dsimp only at hc hd hq vf;subst hc;refine aA (aL (aA (aA (wpAny_loadPart hx (aA ((looks_clsIn X jQ).here ?_))))));rw[vg];rcases hd with ⟨rfl,hn⟩|⟨dx,rfl,nx,n1⟩
 ·have hfr:=(Heap.get?_some_iff.mp hx).2;have hx₁:(s.heap.push {cls:=.type "dict",data:=.dict #[]}).get? x=some ⟨.ref C,none,oda,osl⟩:=cG _ hx;have Sq:x≠s.heap.objs.size:=dH (bW hx);have key:wpAny (model prog w) A.in1 (do
    let d <-alloc {cls:=Value.type "dict",data:=Data.dict #[]}
    update x λo=>{cls:=o.cls,dict:=some d,data:=o.data,slots:=o.slots}
    dictMade (Value.ref C) x d) (λa s'=>wpAny (model prog w) A.in1 (match a with
    |some d=>storeInDict d (Value.str name tk) name v
    |none=>noDictFor (Value.ref x) (Value.ref C) name (Option.isSome (none:Option Value)))
    (λfin s'=>match fin with
     |Fin.done f=>R (Except.ok f) s'
     |Fin.again c'=>c'.quiet=true/\codeAny (model prog w) A c' R s')
    (λe s'=>R (Except.error e) s') s') (λe s'=>R (Except.error e) s') s:=by
   refine aA (wpAny_alloc' ?_);refine aA (wpAny_update' hx₁ ?_);refine aL (a:=some s.heap.objs.size) ?_;have hgd:((s.heap.push {cls:=.type "dict",data:=.dict #[]}).update x λo=>{cls:=o.cls,dict:=some s.heap.objs.size,data:=o.data,slots:=o.slots}).get? s.heap.objs.size
    =some {cls:=.type "dict",data:=.dict #[]}:=
    (Nb _ _ _ _ Sq.symm).trans (Heap.get?_push_at rfl rfl)
   have wR:((s.heap.push {cls:=.type "dict",data:=.dict #[]}).update x λo=>{cls:=o.cls,dict:=some s.heap.objs.size,data:=o.data,slots:=o.slots}).Ns s.heap.objs.size (λ_=>none):=
    ⟨_,#[],_,hgd,rfl,λe he=>absurd he (by simp),λ_=>rfl⟩
   show wpAny _ _ (storeInDict s.heap.objs.size (.str name tk) name v) _ _ _;unfold storeInDict newKeyGuard;refine aA (aL (aA (wpAny_nsSet1 (Heap.Ns1.of_empty wR) λh' yh hs=>?_)));obtain⟨oD,esD,epD,Ss,Sv,Sw⟩:=yh.count (Within.cons name v Within.nil);refine aA (wpAny_lookBehind Ss (by rw[Sv];exact pastItsLine_dict (p7 Sw (by rw[iC,rW,qL];lia))) ?_);refine aL (hq h' _ s.heap.objs.size ?_ Sq.symm ?_ (.inl ⟨rfl,cH _⟩) λb ob hbx _ hb=>?_)
   ·refine(hs.2 x Sq).trans (uH _ hx₁ ?_);cases oda<;>first|rfl|exact hfr
   ·obtain⟨o',es,ep,e1,e2,e3,eu,e4⟩:=yh;exact⟨o',es,ep,e1,e2,e3,eu,λy=>by rw[e4 y];by_cases hy:y=name<;>simp[hy,hn]⟩
   ·exact(hs.2 b (dH (bW hb))).trans ((Nb _ _ _ _ hbx).trans (cG _ hb))
  cases oda<;>first|exact key|exact absurd rfl (vf _)
 ·refine aL (a:=some dx) ?_;show wpAny _ _ (storeInDict dx (.str name tk) name v) _ _ _;unfold storeInDict newKeyGuard;refine aA (aL (aA (wpAny_nsSet1 n1 λh' yh hs=>?_)));obtain⟨oD,esD,epD,Ss,Sv,Sw⟩:=yh.count (Within.cons name v hw);refine aA (wpAny_lookBehind Ss (by rw[Sv];exact pastItsLine_dict (p7 Sw (by rw[iC,qL];lia))) ?_);exact aL (hq h' _ dx ((hs.2 x nx.symm).trans hx) nx yh (.inr rfl) λb o _ nb e=>(hs.2 b nb).trans e)
theorem JM(X:K.In s.heap)(hx:s.heap.get? x=some ox)(hc:ox.cls=.ref C)(vf:∀c,ox.data≠.cls c)(hs:findIn K (.ref C) "__setattr__"=some (some (.builtin "object.__setattr__")))(jQ:clsIn K C=some cd)(hm:bH cd.mro=true)(vg:cd.hasDict=true)(ht:findIn K (.ref C) name=some none)
  (hd:(ox.dict=none/\∀n,mA n=none)\/∃dx,ox.dict=some dx/\dx≠x/\s.heap.Ns1 dx mA) (hw:Within mA ns) (jP:ns.length<=1000)
  (hq:∀h' tk' d,h'.get? x=some {ox with dict:=some d}->d≠x->h'.Ns1 d (λy=>if y=name then some v else mA y)->((ox.dict=none/\s.heap.objs.size<=d)\/ox.dict=some d)->(∀b o,b≠x->b≠d->s.heap.get? b=some o->h'.get? b=some o)->Q () {s with heap:=h',toks:=tk'}) :
  wpAny (model prog w) A (setAttr (.ref x) name v) Q E s:=by
 refine aA (wpAny_mkText (aA (aA (aA (Ad hx hc _ _ _ _ (λ_ _ e=>e) (looks_findIn X hs _ _ _ _ (λ_ _ e=>e) (lJ ?_)))))));rw[PySem.F.store_object.slot.bind];refine aA (aL (aA (BP (Sh (s:={s with toks:=s.toks+1}) X hx hc vf jQ hm vg ht hd hw jP λh' tk' d a1 a2 a3 a4 a5=>?_))));exact aL (aL (hq h' tk' d a1 a2 a3 a4 a5))
end
end L2
namespace L2
open PySem PySem.Spec PyProof.Rows PySem.W PySem.Calls
noncomputable def yI:Stmt->Option (Str×Str×Str)
 |.Assign [.Attribute (.Name a _) x _] (.Name y _) _=>some (a,x,y)
 |_=>none
theorem zkL{st:Stmt}{t:Str×Str×Str}(h:yI st=some t):∃p1 p2 p3 p4,st=.Assign [.Attribute (.Name t.1 p1) t.2.1 p2] (.Name t.2.2 p3) p4:=by
 unfold yI at h;split at h
 ·cases h;exact⟨_,_,_,_,rfl⟩
 ·cases h
noncomputable def iM(sf:Str):List Stmt->List Str->Bool
 |[],fs=>fs.isEmpty
 |st::rest,fs=>match fs with
  |[]=>false
  |f::fs=>yI st==some (sf,f,f)&&iM sf rest fs
theorem Zc{sf f:Str}{fs:List Str}{body:List Stmt}(h:iM sf body (f::fs)=true):∃p1 p2 p3 p4 rest,body=.Assign [.Attribute (.Name sf p1) f p2] (.Name f p3) p4::rest/\iM sf rest fs=true:=by
 cases body with
 |nil=>cases h
 |cons st rest=>
  have h:(yI st==some (sf,f,f)&&iM sf rest fs)=true:=h;obtain⟨h1,h2⟩:=(cU _ _).mp h;obtain⟨p1,p2,p3,p4,e⟩:=zkL (eq_of_beq h1);exact⟨p1,p2,p3,p4,rest,by rw[e],h2⟩
noncomputable def lq:List (Str×Value)->(Str->Option Value)->Str->Option Value
 |[],m=>m
 |(f,u)::r,m=>lq r (λy=>if y=f then some u else m y)
section
variable {prog:Program}{w:World}{K:W.Frag}{C e:Addr}{cd:ClassData}{env:Env}{m:Str->Option Value}{A:Around}{E:Value->Shared->Prop}{sf:Str}
theorem Zd(hk:env.scope.kind=.function)(oN:m sf=some (.ref e))(m7:env.scope.names.lookup sf=some .local)(JV:(sf==("__debug__" : Str))=false)(vh:findIn K (.ref C) "__setattr__"=some (some (.builtin "object.__setattr__")))(jQ:clsIn K C=some cd)(hm:bH cd.mro=true)(vg:cd.hasDict=true)
  (JZ:∀b o,K.lookup b=some o->b≠e) (hL:env.locals≠e):∀(fs:List Str) (us:List Value) (body:List Stmt) (ox:Obj) (mA:Str->Option Value) (ns:List Str) (s:Shared) (Q:Flow->Shared->Prop),iM sf body fs=true->fs.length=us.length->
  (∀(i:Nat) f u,fs[i]?=some f->us[i]?=some u->m f=some u)->(∀f∈fs,env.scope.names.lookup f=some .local/\(f==("__debug__" : Str))=false/\findIn K (.ref C) f=some none)->
  K.In s.heap->s.heap.Ns env.locals m->s.heap.get? e=some ox->ox.cls=.ref C->(∀c,ox.data≠.cls c)->(∃dx,ox.dict=some dx/\dx≠e/\s.heap.Ns1 dx mA/\dx≠env.locals/\∀b o,K.lookup b=some o->b≠dx)->Within mA ns->ns.length+fs.length<=1000->
  (∀h' tk',h'.get? e=some ox->(∀dx,ox.dict=some dx->h'.Ns1 dx (lq (fs.zip us) mA))->(∀b o,b≠e->(∀dx,ox.dict=some dx->b≠dx)->s.heap.get? b=some o->h'.get? b=some o)->Q .next {s with heap:=h',toks:=tk'})->
  wpAny (model prog w) A (execs body env) Q E s
 |[],us,[],ox,mA,ns,s,Q,hb,hl,hv,hf,X,hN,he,hc,vf,⟨dx,h1,h2,h3,h4,h5⟩,hw,hz,q=>by
  cases us with
  |cons _ _=>cases hl
  |nil=>exact Hz (q s.heap s.toks he (λd hd=>by rw[h1] at hd;cases hd;exact h3) λb o _ _ e=>e)
 |[],us,st::rest,ox,mA,ns,s,Q,hb,_,_,_,_,_,_,_,_,_,_,_,_=>by
  cases hb
 |f::fs,[],body,ox,mA,ns,s,Q,hb,hl,_,_,_,_,_,_,_,_,_,_,_=>by cases hl
 |f::fs,u::us,body,ox,mA,ns,s,Q,hb,hl,hv,hf,X,hN,he,hc,vf,⟨dx,h1,h2,h3,h4,h5⟩,hw,hz,q=>by
  obtain⟨p1,p2,p3,p4,rest,rfl,nZ⟩:=Zc hb;obtain⟨k1,k2,k3⟩:=hf _ fV;have hu:=hv 0 _ _ rfl rfl;refine wpAny_execs_cons ?_;refine plainObj_wpAny_Assign_Attribute ?_ rfl;refine BK (Ho hk k1 hN hu ?_) k2;refine BK (Ho hk m7 hN oN ?_) JV;refine JM (ns:=ns) X he hc vf vh jQ hm vg k3 (.inr ⟨dx,h1,h2,h3⟩) hw (by lia) λh' tk' d a1 a2 a3 a4 a5=>?_;have ed:d=dx:=by
   rcases a4 with ⟨z,_⟩|z
   ·rw[h1] at z;cases z
   ·rw[h1] at z;cases z;rfl
  subst ed;have eo:({ox with dict:=some d}:Obj)=ox:=by rw[<-h1]
  rw[eo] at a1;have X':K.In h':=λb o z=>a5 b o (JZ b o z) (h5 b o z) (X b o z);have Sx:h'.Ns env.locals m:=let ⟨o,es,ep,e1,r⟩:=hN;⟨o,es,ep,a5 _ _ hL h4.symm e1,r⟩;refine Zd hk oN m7 JV vh jQ hm vg JZ hL fs us rest ox _ (f::ns) {s with heap:=h',toks:=tk'} Q nZ (by simpa using hl) (λi f u e1 e2=>hv (i+1) f u (by simpa using e1) (by simpa using e2)) (λf hf'=>hf f (fM _ hf')) X' Sx a1 hc vf ⟨d,h1,h2,a3,h4,h5⟩ (Within.cons f u hw) (by simp at hz ⊢;lia) λm6 tk2 b1 b2 b3=>q m6 tk2 b1 (λdx' Ih=>?_) λb o nb nd e'=>b3 b o nb nd (a5 b o nb (nd d h1) e');exact b2 dx' Ih
theorem zec(hk:env.scope.kind=.function)(oN:m sf=some (.ref e))(m7:env.scope.names.lookup sf=some .local)(JV:(sf==("__debug__" : Str))=false)(vh:findIn K (.ref C) "__setattr__"=some (some (.builtin "object.__setattr__")))(jQ:clsIn K C=some cd)(hm:bH cd.mro=true)(vg:cd.hasDict=true)
  (JZ:∀b o,K.lookup b=some o->b≠e) (hL:env.locals≠e) {f:Str} {fs:List Str} {u:Value} {us:List Value} {body:List Stmt} {ox:Obj} {s:Shared} {Q:Flow->Shared->Prop} (hb:iM sf body (f::fs)=true) (hl:fs.length=us.length) (hz:fs.length<=900)
  (hv:∀(i:Nat) g v,(f::fs)[i]?=some g->(u::us)[i]?=some v->m g=some v) (hf:∀g∈f::fs,env.scope.names.lookup g=some .local/\(g==("__debug__" : Str))=false/\findIn K (.ref C) g=some none)
  (X:K.In s.heap) (hN:s.heap.Ns env.locals m) (he:s.heap.get? e=some ox) (hc:ox.cls=.ref C) (vf:∀c,ox.data≠.cls c) (hd:ox.dict=none)
  (q:∀h' tk' d,s.heap.objs.size<=d->h'.get? e=some {ox with dict:=some d}->h'.Ns1 d (lq ((f::fs).zip (u::us)) λ_=>none)->(∀b o,b≠e->b≠d->s.heap.get? b=some o->h'.get? b=some o)->Q .next {s with heap:=h',toks:=tk'}) :
  wpAny (model prog w) A (execs body env) Q E s:=by
 obtain⟨p1,p2,p3,p4,rest,rfl,nZ⟩:=Zc hb;obtain⟨k1,k2,k3⟩:=hf _ fV;have hu:=hv 0 _ _ rfl rfl;refine wpAny_execs_cons ?_;refine plainObj_wpAny_Assign_Attribute ?_ rfl;refine BK (Ho hk k1 hN hu ?_) k2;refine BK (Ho hk m7 hN oN ?_) JV;refine JM (ns:=[]) (mA:=λ_=>none) X he hc vf vh jQ hm vg k3 (.inl ⟨hd,λ_=>rfl⟩) Within.nil (p8 _) λh' tk' d a1 a2 a3 a4 a5=>?_;have fd:s.heap.objs.size<=d:=by
  rcases a4 with ⟨_,z⟩|z
  ·exact z
  ·rw[hd] at z;cases z
 have nd:∀b o,s.heap.get? b=some o->b≠d:=λb o z=>dH (g8 (bW z) fd);have X':K.In h':=λb o z=>a5 b o (JZ b o z) (nd b o (X b o z)) (X b o z);have Sx:h'.Ns env.locals m:=let ⟨o,es,ep,e1,r⟩:=hN;⟨o,es,ep,a5 _ _ hL (nd _ _ e1) e1,r⟩;have nL:d≠env.locals:=let ⟨o,es,ep,e1,r⟩:=hN;(nd _ _ e1).symm;refine Zd hk oN m7 JV vh jQ hm vg JZ hL fs us rest {ox with dict:=some d} _ [f] {s with heap:=h',toks:=tk'} Q nZ hl (λi g v e1 e2=>hv (i+1) g v (by simpa using e1) (by simpa using e2)) (λg hg=>hf g (fM _ hg)) X' Sx a1 hc vf ⟨d,rfl,a2,a3,nL,λb o z=>nd b o (X b o z)⟩ (Within.cons f u Within.nil) (by simp;lia) λh2 tk2 b1 b2 b3=>q h2 tk2 d fd b1 (b2 d rfl) λb o n1 n2 z=>b3 b o n1 (λdx hx=>by cases hx;exact n2) (a5 b o n1 n2 z)
end
end L2
namespace PySem
open Sem (wp)
section
variable {prog:Program}{w:World}{A:Around}{E:Value->Shared->Prop}{h:Heap}{g:Array GenState}{d:Drawn}{t:Nat}{os:OsState}
variable {nm q:Str}{C N:Addr}{bs bm bmB:List Value}{hdct:Bool}{sn:List Str}{ao:List Value}{ab:Bool}{col:Option Bool}{dd:Option Addr}{k0 k1 k2 k3 k5:Option Value}{B Bn newId nid initId inN:String}{bmN:List Value}
theorem zaR(Fn:ExcBaseFacts Bn newId inN bmN)(wQ:bmB.contains (.type Bn)=true)(F:ExcBaseFacts B nid initId bmB)(T:OwnTail h bmB bm)
  (hC:h.get? C=some (excClassObj nm q C N bs bm hdct sn ao ab col dd k0 k1 k2 k3 k5 newId)) (hn:h.Ns N mN) (hi:mN "__init__"=some (.ref fI))
  (Dh:h.get? fI=some oI) (J0:oI.cls=.type "function")
  (hq:wpAny (model prog w) A (call (.ref fI) (.ref (h.objs.size+1)::rest)) (λr s'=>r=.none/\Q (.done (.ret (.ref (h.objs.size+1)))) s') E
   ⟨(h.push {cls:=.type "tuple",data:=.seq rest.toArray}).push {cls:=.ref C,data:=.fields #[.ref h.objs.size,.none,.none,.none,.bool false,.none]},g,d,t,os⟩) (hrest:rest.length<=sizeLine:=by size_fits) :
  wpAny (model prog w) A (Builtin.«type.__call__» ⟨.ref C::rest,[]⟩) Q E ⟨h,g,d,t,os⟩:=by
 repeat (first|with_reducible refine Bw hC ?_|with_reducible refine wpAny_madeBy_exc hC ?_|wp_step)
 refine codeAny_call_builtin_code (Ng _ Fn.quiet) (wpAny_check_new_subU Fn wQ T hC ?_);refine codeAny_exc_new_subU Fn wQ F T hC ?_ hrest;show wpAny _ _ _ _ _ _;have hC₁:=cG {cls:=.ref C,data:=.fields #[.ref h.objs.size,.none,.none,.none,.bool false,.none]}
  (cG {cls:=.type "tuple",data:=.seq rest.toArray} hC)
 have Dh₁:=cG {cls:=.ref C,data:=.fields #[.ref h.objs.size,.none,.none,.none,.bool false,.none]}
  (cG {cls:=.type "tuple",data:=.seq rest.toArray} Dh)
 have hn₁:((h.push {cls:=.type "tuple",data:=.seq rest.toArray}).push {cls:=.ref C,data:=.fields #[.ref h.objs.size,.none,.none,.none,.bool false,.none]}).Ns N mN:=
  let ⟨o,es,ep,e,r⟩:=hn;⟨o,es,ep,cG _ (cG _ e),r⟩
 have sU:((h.push {cls:=.type "tuple",data:=.seq rest.toArray}).push
   {cls:=.ref C,data:=.fields #[.ref h.objs.size,.none,.none,.none,.bool false,.none]}).get? (h.objs.size+1)=some
   {cls:=.ref C,data:=.fields #[.ref h.objs.size,.none,.none,.none,.bool false,.none]}:=by heap_get
 have hcC:(Value.ref C::bm).contains (.ref C)=true:=by simp
 have T₁:=T.keeps (h':=(h.push {cls:=.type "tuple",data:=.seq rest.toArray}).push {cls:=.ref C,data:=.fields #[.ref h.objs.size,.none,.none,.none,.bool false,.none]})
  λb o e=>cG _ (cG _ e)
 unfold isInstance
 repeat (first|with_reducible refine Bw sU ?_|(with_reducible refine M_ hC₁ ?_;rw[hcC])|wp_step)
 show wpAny _ _ (typeLookup (.ref C) _) _ _ _;refine wpAny_typeLookup_tail hC₁ hn₁ T₁ F.mroIs F.init.lookup ?_;rw[hi];refine lJ (aA ?_);unfold bindSpecial;refine aA (zT (T:="function") ⟨_,Dh₁,J0⟩ ?_);rw[if_pos (by decide)];refine aL (aA (jM hq (λr s' hr=>?_) λ_ _ x=>x));obtain⟨rfl,hQ⟩:=hr
 wp_walk
 exact hQ
theorem zbf(Fn:ExcBaseFacts Bn newId inN bmN)(wQ:bmB.contains (.type Bn)=true)(F:ExcBaseFacts B nid initId bmB)(T:OwnTail h bmB bm)
  (hC:h.get? C=some (excClassObj nm q C N bs bm hdct sn ao ab col dd k0 k1 k2 k3 k5 newId)) (hn:h.Ns N mN) (hi:mN "__init__"=some (.ref fI))
  (Dh:h.get? fI=some oI) (J0:oI.cls=.type "function")
  (hq:wpAny (model prog w) (A.under (.builtin "type.__call__" ⟨.ref C::rest,[]⟩)) (call (.ref fI) (.ref (h.objs.size+1)::rest)) (λr s'=>r=.none/\Q (.ref (h.objs.size+1)) s') E
   ⟨(h.push {cls:=.type "tuple",data:=.seq rest.toArray}).push {cls:=.ref C,data:=.fields #[.ref h.objs.size,.none,.none,.none,.bool false,.none]},g,d,t,os⟩) (hrest:rest.length<=sizeLine:=by size_fits) :
  wpAny (model prog w) A (call (.ref C) rest) Q E ⟨h,g,d,t,os⟩:=by
 have f1:=tc_lookup;have f2:=tc_bind (.ref C);have hT:(⟨h,g,d,t,os⟩ : Shared).TypeIs (.ref C) "type":=⟨_,hC,rfl⟩;refine BP (codeAny_of_tree ?_);show wpAny _ _ (callAny (.ref C) _) _ _ _
 repeat (any_goals (first|assumption|with_reducible refine Bw hC ?_|wp_step))
 refine⟨rfl,?_⟩;refine codeAny_call_builtin_at (Ng _ (by decide +kernel)) entry_typeCall (wpAny_check_type_call_sub hC (zaR (hrest:=hrest) Fn wQ F T hC hn hi Dh J0 ?_));exact hq
end
section
variable {prog:Program}{w:World}{A:Around}{E:Value->Shared->Prop}{s:Shared}{env:Env}
variable {nm q:Str}{C N:Addr}{bs bm bmB:List Value}{hdct:Bool}{sn:List Str}{ao:List Value}{ab:Bool}{col:Option Bool}{dd:Option Addr}{k0 k1 k2 k3 k5:Option Value}{B Bn newId nid initId inN:String}{bmN:List Value}
theorem Sy(bR:bm.contains (.type "BaseException")=true)(hh:A.handled=none)
  (h:wpAny M A x (λv s₁=>∃e t dx,v=.ref e/\s₁.heap.get? C=some (excClassObj nm q C N bs bm hdct sn ao ab col dd k0 k1 k2 k3 k5 newId) /\
   s₁.heap.get? e=some {cls:=.ref C,dict:=dx,data:=.fields #[.ref t,.none,.none,.none,.bool false,.none]}/\E (.ref e) s₁) E s) :
  wpAny M A (raiseStmt env (some x) none) Q E s:=by
 have hcB:(Value.ref C::bm).contains (.type "BaseException")=true:=by rw[QC,bR,Bool.or_true]
 unfold raiseStmt;refine aA (jM h (λv s₁ h₁=>?_) λ_ _ x=>x);obtain⟨e,t,dx,rfl,hC,he,hE⟩:=h₁;obtain⟨hp,g,d,tk,os⟩:=s₁
 repeat (first|with_reducible refine Bw he ?_|with_reducible refine Bw hC ?_|(with_reducible refine M_ hC ?_;rw[hcB])|wp_step)
 exact wpAny_raiseNew_none hh hE
theorem za1(Fn:ExcBaseFacts Bn newId inN bmN)(wQ:bmB.contains (.type Bn)=true)(F:ExcBaseFacts B nid initId bmB){mN:Str->Option Value}{fI:Addr}{oI:Obj}{x:Str}{np cpos pos:Pos}{args:List Expr}{Q:Flow->Shared->Prop}
  (bR:bm.contains (.type "BaseException")=true) (hh:A.handled=none) (cT:(backTo cpos (starEach args env)).any (·.1)=false) (hi:mN "__init__"=some (.ref fI)) (J0:oI.cls=.type "function")
  (h:wpAny (model prog w) A (eval (.Name x np) env) (λf s₁=>f=.ref C/\wpAny (model prog w) A (evalArgs (.ref C) true (backTo cpos (starEach args env)) [])
   (λa s₂=>a.kw=[]/\a.pos.length<=sizeLine/\s₂.heap.get? C=some (excClassObj nm q C N bs bm hdct sn ao ab col dd k0 k1 k2 k3 k5 newId)/\s₂.heap.Ns N mN/\OwnTail s₂.heap bmB bm/\s₂.heap.get? fI=some oI /\
    wpAny (model prog w) (A.under (.builtin "type.__call__" ⟨.ref C::a.pos,[]⟩)) (call (.ref fI) (.ref (s₂.heap.objs.size+1)::a.pos)) (λr s'=>r=.none/\(∃dx t0,s'.heap.get? (s₂.heap.objs.size+1)=some {cls:=.ref C,dict:=dx,data:=.fields #[.ref t0,.none,.none,.none,.bool false,.none]})/\s'.heap.get? C=some (excClassObj nm q C N bs bm hdct sn ao ab col dd k0 k1 k2 k3 k5 newId)/\E (.ref (s₂.heap.objs.size+1)) s') E
     {s₂ with heap:=(s₂.heap.push {cls:=.type "tuple",data:=.seq a.pos.toArray}).push {cls:=.ref C,data:=.fields #[.ref s₂.heap.objs.size,.none,.none,.none,.bool false,.none]}}) E s₁) E s) :
  wpAny (model prog w) A (exec (.Raise (some (.Call (.Name x np) args [] cpos)) none pos) env) Q E s:=by
 rw[arm_exec_Raise]
 first
  |refine aA (uK (Sy (C:=C) (nm:=nm) (q:=q) (N:=N) (bs:=bs) (bm:=bm) (hdct:=hdct) (sn:=sn) (ao:=ao) (ab:=ab) (col:=col) (dd:=dd) (k0:=k0) (k1:=k1) (k2:=k2) (k3:=k3) (k5:=k5) (newId:=newId) bR hh (aA (jM (wpAny_Call_ofName (jM h (λf s₁ h₁=>?_) λ_ _ x=>x)) (λv s₃ h₃=>aA (uK (aL h₃))) λ_ _ x=>x))))
  |(simp only[evalOpt,Option.map];refine aA (uK (Sy (C:=C) (nm:=nm) (q:=q) (N:=N) (bs:=bs) (bm:=bm) (hdct:=hdct) (sn:=sn) (ao:=ao) (ab:=ab) (col:=col) (dd:=dd) (k0:=k0) (k1:=k1) (k2:=k2) (k3:=k3) (k5:=k5) (newId:=newId) bR hh (aA (jM (wpAny_Call_ofName (jM h (λf s₁ h₁=>?_) λ_ _ x=>x)) (λv s₃ h₃=>aA (uK (aL h₃))) λ_ _ x=>x)))))
  |(refine aA (uK (Sy (C:=C) (nm:=nm) (q:=q) (N:=N) (bs:=bs) (bm:=bm) (hdct:=hdct) (sn:=sn) (ao:=ao) (ab:=ab) (col:=col) (dd:=dd) (k0:=k0) (k1:=k1) (k2:=k2) (k3:=k3) (k5:=k5) (newId:=newId) bR hh ?_));refine aA (jM (wpAny_Call_ofName (jM h (λf s₁ h₁=>?_) λ_ _ x=>x)) (λv s₃ h₃=>aA (uK (aL h₃))) λ_ _ x=>x))
 obtain⟨rfl,h₁⟩:=h₁;unfold callWith;refine aA (lJ (jM h₁ (λa s₂ h₂=>aA (uK ?_)) λ_ _ x=>x));obtain⟨apos,akw⟩:=a;obtain⟨hkw,hlen,hC,hn,T,Dh,h₂⟩:=h₂;obtain rfl:akw=[]:=hkw;obtain⟨hp,g,d,tk,os⟩:=s₂;simp only[cT];refine aA (wpAny_keeperOf_exc hC ?_);refine aA (zbf (hrest:=hlen) Fn wQ F T hC hn hi Dh J0 (jM h₂ (λr s' hr=>?_) λ_ _ x=>x));obtain⟨rfl,⟨dx,t0,ht⟩,hC',hE⟩:=hr;exact⟨rfl,aA (lJ (wpAny_point (aL ⟨_,t0,dx,rfl,hC',ht,hE⟩)))⟩
end
end PySem
namespace L2
open PySem PySem.Spec PyProof.Rows PySem.W PySem.Calls
theorem Ze{α:Type}:∀{l:List (Str×α)} {f:Str} {u:α},(l.map (·.1)).Nodup->(f,u)∈l->l.lookup f=some u
 |(g,v)::r,f,u,hn,hm=>by
  rw[jL,rY] at hn;rw[nU];rcases dh.mp hm with e|hm
  ·cases e;simp
  ·have:f≠g:=λz=>hn.1 (by rw[<-z];exact fX.mpr ⟨(f,u),hm,rfl⟩);rw[show (f==g)=false by simpa using this];exact Ze hn.2 hm
theorem zkf{α:Type}{fs:List Str}{us:List α}{i:Nat}{f:Str}{u:α}(h1:fs[i]?=some f)(h2:us[i]?=some u):(f,u)∈fs.zip us:=by
 refine jd (i:=i) ?_;exact(List.getElem?_zip_eq_some (z:=(f,u))).mpr ⟨h1,h2⟩
theorem Zf{α:Type}{fs:List Str}{us:List α}(h:fs.length=us.length):(fs.zip us).map (·.1)=fs:=by
 rw[List.map_fst_zip]
 lia
theorem zfz{α:Type}{fs:List Str}{us:List α}(hn:fs.Nodup)(hl:fs.length=us.length){i:Nat}{f:Str}{u:α}(h1:fs[i]?=some f)(h2:us[i]?=some u):(fs.zip us).reverse.lookup f=some u:=by
 refine Ze ?_ (List.mem_reverse.mpr (zkf h1 h2));rw[List.map_reverse,Zf hl,List.Nodup,List.pairwise_reverse];exact List.Pairwise.imp (λh=>h.symm) hn
theorem Zg:∀{l:List (Str×Value)} {m:Str->Option Value} {f:Str},(l.map (·.1)).Nodup->lq l m f=match l.lookup f with|some u=>some u|none=>m f
 |[],m,f,_=>rfl
 |(g,v)::r,m,f,hn=>by
  rw[jL,rY] at hn;unfold lq;rw[Zg hn.2,nU];by_cases e:f=g
  ·subst e;have:r.lookup f=none:=by
    cases z:r.lookup f with
    |none=>rfl
    |some u=>
     exfalso
     apply hn.1;clear hn
     induction r with
     |nil=>cases z
     |cons p r ih=>
      rw[nU] at z;by_cases e:f=p.1
      ·rw[e];exact fV
      ·rw[show (f==p.1)=false by simpa using e] at z;exact fM _ (ih z)
   rw[this];simp
  ·rw[show (f==g)=false by simpa using e,if_neg e]
theorem zh8{fs:List Str}:∀{vs:List V} {us:List Value},Vals vs us->∀f,BZ ((fs.zip vs).lookup f) ((fs.zip us).lookup f):=by
 induction fs with
 |nil=>intro vs us _ f;exact trivial
 |cons g r ih=>
  intro vs us h f;cases h with
  |nil=>exact trivial
  |cons h t=>
   rw[Ht,Ht,nU,nU];by_cases e:f=g
   ·rw[show (f==g)=true by simpa using e];exact h
   ·rw[show (f==g)=false by simpa using e];exact ih t f
theorem ziz{K:Frag}{h:Heap}{C fI:Addr}(XI:K.In h)(q:kE K C fI=true) :
  ∃bm N nm qn bs hdct sn ao ab col dd k0 k1 k2 k3 k5 mN,h.get? C=some (excClassObj nm qn C N bs bm hdct sn ao ab col dd k0 k1 k2 k3 k5 "ValueError.__new__")/\h.Ns N mN/\mN "__init__"=some (.ref fI)/\OwnTail h su bm:=by
 unfold kE at q;split at q
 ·rename_i dd cd sl lk;split at q
  ·rename_i C' bm k0 k1 k2 k3 nw k5 em es;simp only[cU,jz,Nh] at q;obtain⟨⟨⟨⟨⟨rfl,rfl⟩,oJ⟩,tl⟩,Gj⟩,Jt⟩:=q;obtain⟨nm,bs,mro,ns,qn,hd,sn,ao,ab,col,del⟩:=cd;dsimp only at em oJ Gj Jt;subst em oJ;have esl:sl=#[k0,k1,k2,k3,some (.builtin "ValueError.__new__"),k5]:=by
    obtain⟨ll⟩:=sl;simp only at es;rw[es]
   subst esl;have Zh:h.Ns ns (h.nsMap ns):=.of_isNs (isNs_of_in XI Gj);refine⟨bm,ns,nm,qn,bs,hd,sn,ao,ab,col,dd,k0,k1,k2,k3,k5,_,XI _ _ lk,Zh,?_,tail_of_in XI tl⟩;exact qj XI Zh Jt
  ·cases q
 ·cases q
where
 qj {K:Frag} {h:Heap} {N:Addr} {x:Str} {v:Value} {m:Str->Option Value} (X:K.In h) (G:h.Ns N m) (e:nsIn K N x=some (some v)):m x=some v:=by
  obtain⟨o,es,ep,ho,hd,_,hf⟩:=G;unfold nsIn at e;split at e
  ·rename_i c d es' n' sl q;have:=X _ _ q;rw[ho] at this;cases this;cases hd;rw[<-hf x];split at e
   ·rename_i z;cases e;unfold nsFind findBy;rw[<-Array.find?_toList,z];rfl
   ·split at e<;>cases e
  ·cases e
structure lu(K:Frag)(C:Addr)(ar:Arguments)(bd:List Stmt)(sc:Scope)(fs:List Str):Prop where
 ex:∃(fI:Addr) (od:Option Addr) (kV doc pm:Value) (an:Option Addr) (cdv ct:Value) (osl:Array (Option Value)) (qual:Str) (cd:ClassData),
  K.lookup fI=some ⟨.type "function",od,.func (fnOf "__init__" qual ar bd sc .none kV doc pm an cdv ct),osl⟩/\codeIn K cdv qual=true/\kE K C fI=true/\clsIn K C=some cd/\bH cd.mro=true/\cd.hasDict=true /\
  (∀us:List Value,us.length=fs.length+1->bindArgs (fnOf "__init__" qual ar bd sc .none kV doc pm an cdv ct) ⟨us,[]⟩=pure ((("self" : Str)::fs).zip us))
 set:findIn K (.ref C) "__setattr__"=some (some (.builtin "object.__setattr__"))
 nd:("self"::fs:List Str).Nodup
 ne:fs≠[]
 few:fs.length<=900
 body:iM "self" bd fs=true
 ql:∀x∈sc.names,x.2≠.cell
 loc:∀f∈("self"::fs:List Str),sc.names.lookup f=some .local/\(f==("__debug__" : Str))=false
 fld:∀f∈fs,findIn K (.ref C) f=some none
 co:sc.isCoroutine=false
 gen:sc.isGenerator=false
 kind:sc.kind=.function
section
variable {X:Cx}{EX:XS}{C:Addr}{ar:Arguments}{bd:List Stmt}{sc:Scope}{fs:List Str}{t:TA}{x:Str}{p apos pos:Pos}{e:Expr}{es:List Expr}
noncomputable def yJ(EX:XS)(C:Addr)(fs:List Str)(t:TA):TS:=λ_ Z H=>t Z H λvs H1=>vs.length=fs.length/\vs.length<=sizeLine/\∀d,H1 d=none->EX Z (.ref C) (some d) (upd H1 d (.xd (fs.zip vs)))
theorem zg3{k:Nat}(hr:cD k X.A)(hc:X.aj=true)(IO:lu X.K C ar bd sc fs)(hg:Gl X x)(hm:X.mg x=some (.ref C))
  (R:Raises X EX) (ha:PA X (e::es) t) (kZ:(x==("__debug__" : Str))=false:=by decide) (he:starEach (e::es) X.env=(false,eval e X.env)::starEach es X.env:=by rfl) (bM:(backTo apos (starEach es X.env)).any (·.1)=false:=by rfl) :
  PS X (.Raise (some (.Call (.Name x p) (e::es) [] apos)) none pos) (yJ EX C fs t):=by
 intro ak s Z H D I h;obtain⟨fI,od,kV,doc,pm,an,cdv,ct,osl,qual,cd,lk,mU,hX,jQ,J1,vg,uZ⟩:=IO.ex;obtain⟨bm,N,nm,qn,bs,hdct,sn,ao,ab,col,dd,k0,k1,k2,k3,k5,mN,hC,hN,CT,T⟩:=ziz I.mod.zV hX;refine za1 (C:=C) (nm:=nm) (q:=qn) (N:=N) (bs:=bs) (bm:=bm) (hdct:=hdct) (sn:=sn) (ao:=ao) (ab:=ab) (col:=col) (dd:=dd) (k0:=k0) (k1:=k1) (k2:=k2) (k3:=k3) (k5:=k5) (bmB:=su)
  G_ (by decide +kernel) G_ (mN:=mN) (fI:=fI) (T.hasType G_.hasBase) (I.ok.hd hc) (by rw[he];show (false||(backTo apos (starEach es X.env)).any (·.1))=false;rw[bM];rfl) CT (oI:=⟨.type "function",od,.func (fnOf "__init__" qual ar bd sc .none kV doc pm an cdv ct),osl⟩) rfl (Ik I hg hm ⟨rfl,?_⟩ kZ)
 have h2:=ha apos ak s Z H _ I h;rw[he] at h2 ⊢;refine Qv (aY h2 λus s2 ⟨vs,H2,I2,r,hl,z,q⟩=>⟨rfl,by rw[<-r.length];exact z,I2.bk _ _ hC,hN.keeps I2.bk,T.keeps I2.bk,I2.sG _ _ lk,?_⟩);have Gm:us.length=fs.length:=by rw[<-r.length];exact hl
 dsimp only;generalize hS:({s2 with heap:=(s2.heap.push {cls:=.type "tuple",data:=.seq us.toArray}).push {cls:=.ref C,data:=.fields #[.ref s2.heap.objs.size,.none,.none,.none,.bool false,.none]}}:Shared)=s3;have J3:s3.heap.objs.size=s2.heap.objs.size+2:=by rw[<-hS];simp[t_]
 have vm:∀b o,s2.heap.get? b=some o->s3.heap.get? b=some o:=λb o q=>by rw[<-hS];exact cG _ (cG _ q)
 have he3:s3.heap.get? (s2.heap.objs.size+1)=some {cls:=.ref C,data:=.fields #[.ref s2.heap.objs.size,.none,.none,.none,.bool false,.none]}:=by
  rw[<-hS];have:=iB (s2.heap.push {cls:=.type "tuple",data:=.seq us.toArray}) (o:={cls:=.ref C,data:=.fields #[.ref s2.heap.objs.size,.none,.none,.none,.bool false,.none]}) rfl;rw[t_] at this;exact this
 have SJ:X.K.In s3.heap:=I2.sG.keeps vm;have SM:s3.heap.NoLimit:=I2.nolimit.keeps vm;have nK:∀b o,X.K.lookup b=some o->b≠s2.heap.objs.size+1:=λb o q=>dH (rT (bW (I2.sG b o q)));have hlen:("self"::fs:List Str).length=(Value.ref (s2.heap.objs.size+1)::us).length:=by simp[Gm]
 refine BP (codeAny_call_def (fd:=fnOf "__init__" qual ar bd sc .none kV doc pm an cdv ct) (binds:=(("self" : Str)::fs).zip (Value.ref (s2.heap.objs.size+1)::us)) (by have:=hr.dp;show X.A.depth+(Code.builtin "type.__call__" {pos:=Value.ref C::us}).weight<recursionLimit;have w:(Code.builtin "type.__call__" {pos:=Value.ref C::us}).weight<=1:=(by show (Code.builtin "type.__call__" {pos:=Value.ref C::us}).weight<=1;first|exact cH _|exact p8 _|exact Qs (by kernel_rfl)|(simp[Code.weight,Code.frames,Code.isGuard,Code.isCaller]));lia) (SJ _ _ lk) rfl SM (codeRec_of SJ mU) rfl
  (.of_eq (uZ _ (by simp[Gm]))) IO.ql (λy hy=>(IO.loc y.1 (Nr hy).1).1) (λh₀ Jp SN=>?_) IO.co IO.gen IO.kind)
 obtain⟨f0,fr,rfl⟩ : ∃f0 fr,fs=f0::fr:=by
  cases hfs:fs with
  |nil=>exact absurd hfs IO.ne
  |cons a b=>exact⟨a,b,rfl⟩
 obtain⟨u0,ur,rfl⟩ : ∃u0 ur,us=u0::ur:=by
  cases hus:us with
  |nil=>rw[hus] at Gm;cases Gm
  |cons a b=>exact⟨a,b,rfl⟩
 have get:∀(i:Nat) g v,("self"::f0::fr:List Str)[i]?=some g->(Value.ref (s2.heap.objs.size+1)::u0::ur)[i]?=some v->((("self" : Str)::f0::fr).zip (Value.ref (s2.heap.objs.size+1)::u0::ur)).reverse.lookup g=some v:=λi g v e1 e2=>zfz IO.nd hlen e1 e2;refine zec (K:=X.K) (C:=C) (cd:=cd) (sf:="self") (e:=s2.heap.objs.size+1) (m:=λx=>((("self" : Str)::f0::fr).zip (Value.ref (s2.heap.objs.size+1)::u0::ur)).reverse.lookup x) (fs:=fr) (us:=ur) (ox:={cls:=.ref C,data:=.fields #[.ref s2.heap.objs.size,.none,.none,.none,.bool false,.none]})
  IO.kind (get 0 _ _ rfl rfl) (IO.loc _ fV).1 (IO.loc _ fV).2 IO.set jQ J1 vg nK (wK (by show _<s3.heap.objs.size;rw[J3];lia)) IO.body (by simpa using Gm.symm) (by have:=IO.few;simp at this;lia)
  (λi g v e1 e2=>get (i+1) g v (by simpa using e1) (by simpa using e2)) (λg hg=>⟨(IO.loc g (fM _ hg)).1,(IO.loc g (fM _ hg)).2,IO.fld g hg⟩)
  (SJ.keeps SN) Jp (SN _ _ he3) rfl (λc z=>by cases z) rfl λh' tk' d hd a1 a2 a3=>?_
 have hd3:s3.heap.objs.size<=d:=by
  refine p7 ?_ hd;by_cases z:h₀.objs.size<s3.heap.objs.size
  ·exfalso
   have e1:=Jp.lt;exact absurd (Nat.lt_trans e1 z) (nW _)
  ·exact Hx z
 have m8:∀b o,s2.heap.get? b=some o->h'.get? b=some o:=λb o q=>a3 b o (dH (rT (bW q))) (dH (g8 (bW q) (by rw[J3] at hd3;lia))) (SN _ _ (vm _ _ q));have hne:d≠s2.heap.objs.size+1:=by lia
 have und:H2 d=none:=I2.hok.fresh (by lia);refine⟨rfl,⟨some d,_,a1⟩,m8 _ _ (I2.bk _ _ hC),?_⟩;have new:aU X.prog X.w (upd H2 d (.xd ((f0::fr).zip vs))) h' d (.xd ((f0::fr).zip vs)):=⟨_,a2,λf=>by
  rw[Zg (by rw[Zf Gm.symm];exact(rY.mp IO.nd).2)];have:=zh8 (fs:=f0::fr) r f
  revert this
  cases ((f0::fr).zip (u0::ur)).lookup f<;>exact id⟩
 have I3:Inv X ak Z (upd H2 d (.xd ((f0::fr).zip vs))) {s3 with heap:=h',toks:=tk'}:=by
  have:=I2.laid (t':=tk') m8 (by lia) new;rw[<-hS];exact this
 have une:upd H2 d (.xd ((f0::fr).zip vs)) (s2.heap.objs.size+1)=none:=by
  rw[dW (Ne.symm hne)];exact I2.hok.fresh (Nat.le_succ _)
 refine R ak Z _ _ s2.heap (s2.heap.objs.size+1) C (some d) I3 (λb ob z n=>I2.base.there b ob z n) (λq hq=>⟨q.2,(I2.pin q hq).1⟩) (λb ob z=>⟨ob,m8 b ob z⟩) ⟨Fl (Nat.le_succ _),une,_,_,_,a1,rfl,rfl,rfl,rfl,.inl rfl⟩ (q d und)
end
section
variable {prog:Program}{w:World}{A:Around}{E:Value->Shared->Prop}{s:Shared}{K:Frag}{x C:Addr}{ox:Obj}{od:Option Obj}{name:Str}
end
structure XF(K:Frag)(C:Addr)(f:Str):Prop where
 ga:findIn K (.ref C) "__getattribute__"=some (some (.builtin "BaseException.__getattribute__"))
 gn:findIn K (.ref C) "__getattr__"=some none
 mb:mroIn K C (.type "BaseException")=some true
 no:findIn K (.ref C) f=some none
 hd:hasDictIn K C=true
section
variable {X:Cx}{e:Expr}{f:Str}{pos:Pos}{ta:TE}
end
end L2
namespace L2
open PySem PySem.Spec PyProof.Rows
section
variable {X:Cx}{ak:List (Addr×Obj)}{Z:St}{H:Hp}{s:Shared}{h':Heap}
theorem Inv.sV{t':Nat}{ch:List Addr}{a:Addr}{o:HO}(I:Inv X ak Z H s)(k:∀b u,b∉ch->s.heap.get? b=some u->h'.get? b=some u)(hf:∀b∈ch,je X ak H b)(ha:s.heap.objs.size<=a)(new:aU X.prog X.w (upd H a o) h' a o) :
  Inv X ak Z (upd H a o) {s with heap:=h',toks:=t'}:=by
 have zY:∀b u,H b=some u->b∉ch:=λb u e z=>by rw[(hf b z).1] at e;cases e
 have hn:H a=none:=I.hok.fresh ha;have na:∀b u,H b=some u->b≠a:=λb u e z=>by rw[z,hn] at e;cases e
 have la:∀b u,s.heap.get? b=some u->b≠a:=λb u e=>dH (g8 (bW e) ha);refine I.step (g':=s.gens) (d':=s.drawn) (ch:=ch) (λb hb=>?_) (λb o _ _ hc e _=>k b o hc e) (λb o _ _ hc e _=>⟨o.slots,k b o hc e⟩) (λb o' _ e n=>by rw[dW (la b o' e)];exact n)
  (λb o hc e=>⟨o,k b o hc e⟩) (λb xs e=>by rw[dW (na b _ e)];exact e) (λb o u e=>by rw[dW (na b _ e)];exact e) (λb ps e=>⟨#[],by rw[dW (na b _ e),e];simp⟩) (λm hm=>?_) (λb u e=>?_) I.bare
 ·obtain⟨f0,f1,f2,f3,f4,f5⟩:=hf b hb;exact⟨f3.imp id λz=>Fl z,f1,f4,f5⟩
 ·obtain⟨o,es,ep,ho,r⟩:=hm;exact⟨o,es,ep,k _ o (λz=>(hf _ z).2.1 rfl) ho,r⟩
 ·by_cases z:b=a
  ·subst z;rw[lV] at e;cases e;exact new
  ·rw[dW z] at e;refine(I.hok b u e).stay (λc v hc q=>k c v ?_ q) (λc q=>by rw[dW (na c _ q)];exact q) λc _ q=>by rw[dW (na c _ q)];exact q
   rcases hc with y|y
   ·rw[y];exact zY b u e
   ·exact zY c _ y
theorem Inv.yK{t':Nat}{ch:List Addr}(I:Inv X ak Z H s)(k:∀b u,b∉ch->s.heap.get? b=some u->h'.get? b=some u)(hf:∀b∈ch,je X ak H b):Inv X ak Z H {s with heap:=h',toks:=t'}:=by
 have zY:∀b u,H b=some u->b∉ch:=λb u e z=>by rw[(hf b z).1] at e;cases e
 refine I.step (g':=s.gens) (d':=s.drawn) (ch:=ch) (λb hb=>?_) (λb o _ _ hc e _=>k b o hc e) (λb o _ _ hc e _=>⟨o.slots,k b o hc e⟩) (λ_ _ _ _ n=>n)
  (λb o hc e=>⟨o,k b o hc e⟩) (λ_ _ e=>e) (λ_ _ _ e=>e) (λb ps e=>⟨#[],by rw[e];simp⟩) (λm hm=>?_) (λb u e=>?_) I.bare
 ·obtain⟨f0,f1,f2,f3,f4,f5⟩:=hf b hb;exact⟨f3.imp id λz=>Fl z,f1,f4,f5⟩
 ·obtain⟨o,es,ep,ho,r⟩:=hm;exact⟨o,es,ep,k _ o (λz=>(hf _ z).2.1 rfl) ho,r⟩
 ·refine(I.hok b u e).stay (λc v hc q=>k c v ?_ q) (λ_ q=>q) λ_ _ q=>q;rcases hc with y|y
  ·rw[y];exact zY b u e
  ·exact zY c _ y
end
section
variable {X:Cx}
end
structure pN(prog:Program)(w:World)(it src:Addr)(st:Nat->Heap->Prop)(its:Array Value):Prop where
 item:∀(A:Around) (E:Value->Shared->Prop) (s:Shared) (i:Nat) (x:Value) (Q:Value->Shared->Prop),st i s.heap->its[i]?=some x->(∀h',st (i+1) h'->Heap.SameBut it s.heap h'->Q x {s with heap:=h'})->wpAny (model prog w) A (Builtin.SmallTypes.nextOf (.ref it)) Q E s
 fin:∀(A:Around) (E:Value->Shared->Prop) (s:Shared) (i:Nat) (Q:Value->Shared->Prop),A.handled=none->st i s.heap->its[i]?=none->(∀h' e,Heap.ExtBut it s.heap h'->(∃o,h'.get? e=some o/\o.cls=.type "StopIteration")->E (.ref e) {s with heap:=h'})->wpAny (model prog w) A (Builtin.SmallTypes.nextOf (.ref it)) Q E s
 keep:∀i h h',st i h->(∀b o,b=it\/b=src->h.get? b=some o->h'.get? b=some o)->st i h'
theorem pN.list(hne:l≠it):pN prog w it l (λi h=>h.IsListIter it l i/\h.IsList l its) its where
 item:=λA E s i x Q ⟨h1,h2⟩ hx q=>wpAny_nextOf_list_item h1 h2 hx λh' a sb=>q h' ⟨a,h2.at λo e=>(sb.2 l hne).trans e⟩ sb
 fin:=λA E s i Q hh ⟨h1,h2⟩ hx q=>wpAny_nextOf_list_end hh h1 h2 hx q
 keep:=λi h h' ⟨h1,h2⟩ k=>⟨h1.at λo e=>k it o (.inl rfl) e,h2.at λo e=>k l o (.inr rfl) e⟩
theorem Zi(l:Addr):¬((Value.ref l==Value.none)=true):=λz=>by cases (show false=true from z)
theorem IsTupleIter.at'{h h':Heap}{it l:Addr}{i:Nat}(x:h.IsTupleIter it l i)(k:∀o,h.get? it=some o->h'.get? it=some o):h'.IsTupleIter it l i:=by
 obtain⟨o,e,r⟩:=x;exact⟨o,k o e,r⟩
theorem IsTuple.at'{h h':Heap}{l:Addr}{xs:Array Value}(x:h.IsTuple l xs)(k:∀o,h.get? l=some o->h'.get? l=some o):h'.IsTuple l xs:=by
 obtain⟨o,e,r⟩:=x;exact⟨o,k o e,r⟩
section
variable {prog:Program}{w:World}{A:Around}{E:Value->Shared->Prop}{s:Shared}{it l:Addr}{i:Nat}{its:Array Value}
theorem zfI{x:Value}{Q:Value->Shared->Prop}(hi:s.heap.IsTupleIter it l i)(hl:s.heap.IsTuple l its)(hx:its[i]?=some x)(q:∀h',h'.IsTupleIter it l (i+1)->Heap.SameBut it s.heap h'->Q x {s with heap:=h'}) :
  wpAny (model prog w) A (Builtin.SmallTypes.nextOf (.ref it)) Q E s:=by
 obtain⟨oi,ei,ci,di⟩:=id hi;obtain⟨ol,el,_,nl,dl⟩:=hl;unfold Builtin.SmallTypes.nextOf;refine aA (zL (name:=Str.ofString "__next__") hi.typeIs MP (tX MP hi.typeIs F.entry_tuple_iterator_next ?_ (F.args_tuple_iterator_next_1 _)));show wpAny _ A.in1 (field (.ref it) 0 >>= _) _ E s;refine aA (lM ei di (x:=.ref l) rfl ?_);show wpAny _ A.in1 (if (Value.ref l==Value.none)=true then _ else _) _ E s;rw[if_neg (Zi l)];show wpAny _ A.in1 (field (.ref it) 1 >>= _) _ E s;refine aA (lM ei di (x:=.int i 0) rfl ?_);show wpAny _ A.in1 (seqItems? (.ref l) >>= _) _ E s;refine aA (wJ el dl ?_);simp only[wI,hx];refine aA (zQ ei di (by simp) (aL ⟨x,rfl,aL (q _ ⟨_,uH _ ei (M8 (xQ di _)),(Obj.cls_mapFields ..).trans ci,?_⟩ (Bu ..))⟩));rw[xQ di];simp[rawInt]
theorem zge{Q:Value->Shared->Prop}(hh:A.handled=none)(hi:s.heap.IsTupleIter it l i)(hl:s.heap.IsTuple l its)(hx:its[i]?=none)(q:∀h' e,Heap.ExtBut it s.heap h'->(∃o,h'.get? e=some o/\o.cls=.type "StopIteration")->E (.ref e) {s with heap:=h'}) :
  wpAny (model prog w) A (Builtin.SmallTypes.nextOf (.ref it)) Q E s:=by
 obtain⟨oi,ei,ci,di⟩:=id hi;obtain⟨ol,el,_,nl,dl⟩:=hl;unfold Builtin.SmallTypes.nextOf;refine aA (zL (name:=Str.ofString "__next__") hi.typeIs MP (tX MP hi.typeIs F.entry_tuple_iterator_next ?_ (F.args_tuple_iterator_next_1 _)));show wpAny _ A.in1 (field (.ref it) 0 >>= _) _ E s;refine aA (lM ei di (x:=.ref l) rfl ?_);show wpAny _ A.in1 (if (Value.ref l==Value.none)=true then _ else _) _ E s;rw[if_neg (Zi l)];show wpAny _ A.in1 (field (.ref it) 1 >>= _) _ E s;refine aA (lM ei di (x:=.int i 0) rfl ?_);show wpAny _ A.in1 (seqItems? (.ref l) >>= _) _ E s;refine aA (wJ el dl ?_);simp only[wI,hx];refine aA (Ga (aA (zQ ei di (by simp) ?_)));show wpAny _ A.in1 (newExc (.type "StopIteration") [] >>= _) _ E _;refine aA ?_;simp only[newExc,newTuple];refine aA (pI (aA (m:=firstArgMember _ _) (FZ (a:=Value.none) (by first|rfl|(simp only[firstArgMember];rfl)) (pI ?_ (by size_fits)))) (by size_fits));simp only[raiseNew];refine aA (wpAny_handled ?_);rw[show A.in1.handled=none from hh];exact aA (aL (wpAny_throw (q _ _ (((Bu ..).extBut.push _).push _) ⟨_,iB _ rfl,rfl⟩)))
end
theorem pN.tuple{prog:Program}{w:World}{it l:Addr}{its:Array Value}(hne:l≠it):pN prog w it l (λi h=>h.IsTupleIter it l i/\h.IsTuple l its) its where
 item:=λA E s i x Q ⟨h1,h2⟩ hx q=>zfI h1 h2 hx λh' a sb=>q h' ⟨a,IsTuple.at' h2 λo e=>(sb.2 l hne).trans e⟩ sb
 fin:=λA E s i Q hh ⟨h1,h2⟩ hx q=>zge hh h1 h2 hx q
 keep:=λi h h' ⟨h1,h2⟩ k=>⟨IsTupleIter.at' h1 λo e=>k it o (.inl rfl) e,IsTuple.at' h2 λo e=>k l o (.inr rfl) e⟩
structure m9(z TI TO i1 i2 l1 l2:Addr):Prop where
 zs:z≠TI/\z≠TO/\z≠i1/\z≠i2/\z≠l1/\z≠l2
 os:TO≠TI/\TO≠i1/\TO≠i2/\TO≠l1/\TO≠l2
 is:TI≠i1/\TI≠i2/\i1≠i2/\i1≠l1/\i1≠l2/\i2≠l1/\i2≠l2
section
variable {prog:Program}{w:World}{A:Around}{E:Value->Shared->Prop}{s:Shared}{z TI TO i1 i2 l1 l2:Addr}{st1 st2:Nat->Heap->Prop}{xs ys:Array Value}{k:Nat}{a b:Value}
theorem zh6(N1:pN prog w i1 l1 st1 xs)(N2:pN prog w i2 l2 st2 ys)(D:m9 z TI TO i1 i2 l1 l2)(hz:IsZip s.heap z TI TO .none)(SQ:IsPair s.heap TI (.ref i1) (.ref i2))(SX:IsPair s.heap TO a b)
  (h1:st1 k s.heap) (h2:st2 k s.heap) (hx:xs[k]?=some x) (hy:ys[k]?=some y)
  (q:∀h',IsZip h' z TI TO (rawInt s.heap.objs.size)->IsPair h' TO x y->st1 (k+1) h'->st2 (k+1) h'->IsPair h' s.heap.objs.size x y->h'.objs.size=s.heap.objs.size+1->(∀c o,c≠z->c≠TO->c≠i1->c≠i2->s.heap.get? c=some o->h'.get? c=some o)->Q (some (.ref s.heap.objs.size)) {s with heap:=h'}) :
  wpAny (model prog w) A (pyNext (.ref z)) Q E s:=by
 obtain⟨⟨z1,z2,z3,z4,z5,z6⟩,⟨t1,t2,t3,t4,t5⟩,⟨j1,j2,j3,j4,j5,j6,j7⟩⟩:=D;have hT:s.TypeIs (.ref z) "zip":=⟨_,hz,rfl⟩;unfold pyNext;refine aA (HJ (zL (name:=Str.ofString "__next__") hT Nt (tX Nt hT F.entry_zip_next ?_ (F.args_zip_next_1 _))));show wpAny _ A.in1 (field (.ref z) 2 >>= _) _ _ s;refine aA (lM hz rfl (x:=.bool false) rfl ?_);show wpAny _ A.in1 (field (.ref z) 3 >>= _) _ _ s;refine aA (lM hz rfl (x:=.ref TI) rfl (aA (wJ SQ rfl ?_)));show wpAny _ A.in1 (Builtin.SmallTypes.ownedTupleIsFree (.ref z) >>= _) _ _ s;refine aA ?_;unfold Builtin.SmallTypes.ownedTupleIsFree;refine aA (lM hz rfl (x:=.none) rfl (aL ?_));simp only[if_true];refine aA (Ga (aA (lM hz rfl (x:=.ref TO) rfl (aA (Fv hz (by simp) λha za sa=>aA ?_)))))
 replace za:IsZip ha z TI TO .ellipsis:=za
 simp only[List.zipIdx_cons,List.zipIdx_nil,HB,Nv];refine aA (aA (wpAny_onRaise ?_));show wpAny _ A.in1 (Builtin.SmallTypes.nextOf (.ref i1) >>= _) _ _ _;refine aA (N1.item _ _ {s with heap:=ha} k x _ (N1.keep _ _ _ h1 λc o hc e=>sa.extBut c o (by rcases hc with rfl|rfl;exact z3.symm;exact z5.symm) e) hx λhb Zj sb=>aL ?_);have tb:IsPair hb TO a b:=sb.extBut _ _ t2 (sa.extBut _ _ z2.symm SX);refine aA (wJ tb rfl (aA (Qx tb λhc tc sc=>aA (wpAny_letGo (aL ?_)))))
 replace tc:IsPair hc TO x b:=tc
 refine aA (aA (wpAny_onRaise ?_));show wpAny _ A.in1 (Builtin.SmallTypes.nextOf (.ref i2) >>= _) _ _ _;have k2:st2 k hc:=N2.keep _ _ _ h2 λc o lW e=>by
  rcases lW with rfl|rfl
  ·exact sc.extBut _ _ t3.symm (sb.extBut _ _ j3.symm (sa.extBut _ _ z4.symm e))
  ·exact sc.extBut _ _ t5.symm (sb.extBut _ _ j5.symm (sa.extBut _ _ z6.symm e))
 have k1:st1 (k+1) hc:=N1.keep _ _ _ Zj λc o lW e=>by
  rcases lW with rfl|rfl
  ·exact sc.extBut _ _ t2.symm e
  ·exact sc.extBut _ _ t4.symm e
 refine aA (N2.item _ _ {s with heap:=hc} k y _ k2 hy λhd sd2 sd=>aL ?_);have td:IsPair hd TO x b:=sd.extBut _ _ t3 tc;refine aA (wJ td rfl (aA (Qx td λhe te se=>aA (wpAny_letGo (aL (aL ?_))))))
 replace te:IsPair he TO x y:=te
 refine aA (wJ te rfl (aA (wpAny_newTuple ?_)));have size:he.objs.size=s.heap.objs.size:=by rw[se.1,sd.1,sc.1,sb.1,sa.1]
 have ze:IsZip he z TI TO .ellipsis:=se.extBut _ _ z2 (sd.extBut _ _ z4 (sc.extBut _ _ z2 (sb.extBut _ _ z3 za)));have kept:∀c o,c≠z->c≠TO->c≠i1->c≠i2->s.heap.get? c=some o->he.get? c=some o:=λc o c1 c2 c3 c4 e=>se.extBut _ _ c2 (sd.extBut _ _ c4 (sc.extBut _ _ c2 (sb.extBut _ _ c3 (sa.extBut _ _ c1 e))));have e1:st1 (k+1) he:=N1.keep _ _ _ k1 λc o lW e=>by
  rcases lW with rfl|rfl
  ·exact se.extBut _ _ t2.symm (sd.extBut _ _ j3 e)
  ·exact se.extBut _ _ t4.symm (sd.extBut _ _ j6.symm e)
 have e2:st2 (k+1) he:=N2.keep _ _ _ sd2 λc o lW e=>by
  rcases lW with rfl|rfl
  ·exact se.extBut _ _ t3.symm e
  ·exact se.extBut _ _ t5.symm e
 show wpAny _ A.in1 (Builtin.SmallTypes.ownedTupleHandOut (.ref z) (.ref he.objs.size) >>= _) _ _ _;refine aA ?_;unfold Builtin.SmallTypes.ownedTupleHandOut;have zf:IsZip (he.push {cls:=.type "tuple",data:=.seq #[x,y]}) z TI TO .ellipsis:=cG _ ze;refine aA (Fv zf (by simp) λhg zg sg=>Fv zg (by simp) λhh zh sh=>aL ⟨_,rfl,aL ?_⟩)
 replace zh:IsZip hh z TI TO (rawInt he.objs.size):=zh
 have up:∀c o,c≠z->he.get? c=some o->hh.get? c=some o:=λc o c1 e=>sh.extBut _ _ c1 (sg.extBut _ _ c1 (cG _ e));have lz:z<he.objs.size:=bW ze;have tn:IsPair hh he.objs.size x y:=sh.extBut _ _ (wK lz) (sg.extBut _ _ (wK lz) (iB _ rfl));have sz:hh.objs.size=he.objs.size+1:=by rw[sh.1,sg.1,t_]
 rw[size] at zh tn sz;show Q (some (.ref he.objs.size)) _;rw[size];exact q hh zh (up _ _ z2.symm te) (N1.keep _ _ _ e1 λc o lW e=>up c o (by rcases lW with rfl|rfl;exact z3.symm;exact z5.symm) e) (N2.keep _ _ _ e2 λc o lW e=>up c o (by rcases lW with rfl|rfl;exact z4.symm;exact z6.symm) e) tn sz λc o c1 c2 c3 c4 e=>up c o c1 (kept c o c1 c2 c3 c4 e)
theorem zjg(hn:A.handled=none)(N1:pN prog w i1 l1 st1 xs)(N2:pN prog w i2 l2 st2 ys)(D:m9 z TI TO i1 i2 l1 l2)(hz:IsZip s.heap z TI TO .none)(SQ:IsPair s.heap TI (.ref i1) (.ref i2))(SX:IsPair s.heap TO a b)
  (h1:st1 k s.heap) (h2:st2 k s.heap) (hx:xs[k]?=none\/ys[k]?=none) (q:∀h',(∀c o,c≠z->c≠TO->c≠i1->c≠i2->s.heap.get? c=some o->h'.get? c=some o)->Q none {s with heap:=h'}):wpAny (model prog w) A (pyNext (.ref z)) Q E s:=by
 obtain⟨⟨z1,z2,z3,z4,z5,z6⟩,⟨t1,t2,t3,t4,t5⟩,⟨j1,j2,j3,j4,j5,j6,j7⟩⟩:=D;have hT:s.TypeIs (.ref z) "zip":=⟨_,hz,rfl⟩;have stop:∀(h':Heap) (e:Addr),(∀c o,c≠z->c≠TO->c≠i1->c≠i2->s.heap.get? c=some o->h'.get? c=some o)->(∃o,h'.get? e=some o/\o.cls=.type "StopIteration")->
   wpAny (model prog w) A (do if <-isInstance (.ref e) (.type "StopIteration") then pure none else throw (.ref e):Sem (Option Value)) Q E {s with heap:=h'}:=λh' e kp ⟨o,ho,hc⟩=>
  aA (wpAny_isInstance (T:="StopIteration") (b:=true) ⟨o,ho,hc⟩ isSubtype_stop (aL (q h' kp)))
 unfold pyNext;refine aA (HJ (zL (name:=Str.ofString "__next__") hT Nt (tX Nt hT F.entry_zip_next ?_ (F.args_zip_next_1 _))));show wpAny _ A.in1 (field (.ref z) 2 >>= _) _ _ s;refine aA (lM hz rfl (x:=.bool false) rfl ?_);show wpAny _ A.in1 (field (.ref z) 3 >>= _) _ _ s;refine aA (lM hz rfl (x:=.ref TI) rfl (aA (wJ SQ rfl ?_)));show wpAny _ A.in1 (Builtin.SmallTypes.ownedTupleIsFree (.ref z) >>= _) _ _ s;refine aA ?_;unfold Builtin.SmallTypes.ownedTupleIsFree;refine aA (lM hz rfl (x:=.none) rfl (aL ?_));simp only[if_true];refine aA (Ga (aA (lM hz rfl (x:=.ref TO) rfl (aA (Fv hz (by simp) λha za sa=>aA ?_)))))
 replace za:IsZip ha z TI TO .ellipsis:=za
 simp only[List.zipIdx_cons,List.zipIdx_nil,HB,Nv];refine aA (aA (wpAny_onRaise ?_));show wpAny _ A.in1 (Builtin.SmallTypes.nextOf (.ref i1) >>= _) _ _ _;have ka:st1 k ha:=N1.keep _ _ _ h1 λc o hc e=>sa.extBut c o (by rcases hc with rfl|rfl;exact z3.symm;exact z5.symm) e;cases ex:xs[k]? with
 |none=>
  refine aA (N1.fin _ _ {s with heap:=ha} k _ hn ka ex λhb e sb se=>?_);obtain⟨oe,ho,hc⟩:=se;have zb:IsZip hb z TI TO .ellipsis:=sb _ _ z3 za;have ne:e≠z:=λy=>by subst y;rw[zb] at ho;cases ho;simp at hc
  exact Fv zb (by simp) λhd _ sd=>stop hd e (λc o c1 _ c3 _ y=>sd.extBut _ _ c1 (sb _ _ c3 (sa.extBut _ _ c1 y))) ⟨oe,sd.extBut _ _ ne ho,hc⟩
 |some x=>
  have ey:ys[k]?=none:=by
   rcases hx with y|y
   ·rw[ex] at y;cases y
   ·exact y
  refine aA (N1.item _ _ {s with heap:=ha} k x _ ka ex λhb Zj sb=>aL ?_);have tb:IsPair hb TO a b:=sb.extBut _ _ t2 (sa.extBut _ _ z2.symm SX);refine aA (wJ tb rfl (aA (Qx tb λhc tc sc=>aA (wpAny_letGo (aL ?_)))));refine aA (aA (wpAny_onRaise ?_));show wpAny _ A.in1 (Builtin.SmallTypes.nextOf (.ref i2) >>= _) _ _ _;have k2:st2 k hc:=N2.keep _ _ _ h2 λc o lW e=>by
   rcases lW with rfl|rfl
   ·exact sc.extBut _ _ t3.symm (sb.extBut _ _ j3.symm (sa.extBut _ _ z4.symm e))
   ·exact sc.extBut _ _ t5.symm (sb.extBut _ _ j5.symm (sa.extBut _ _ z6.symm e))
  refine aA (N2.fin _ _ {s with heap:=hc} k _ hn k2 ey λhd e sd se=>?_);obtain⟨oe,ho,jQ⟩:=se;have zd:IsZip hd z TI TO .ellipsis:=sd _ _ z4 (sc.extBut _ _ z2 (sb.extBut _ _ z3 za));have ne:e≠z:=λy=>by subst y;rw[zd] at ho;cases ho;simp at jQ
  exact Fv zd (by simp) λhf _ sf=>stop hf e (λc o c1 c2 c3 c4 y=>sf.extBut _ _ c1 (sd _ _ c4 (sc.extBut _ _ c2 (sb.extBut _ _ c3 (sa.extBut _ _ c1 y))))) ⟨oe,sf.extBut _ _ ne ho,jQ⟩
end
noncomputable def Ck:Bool->Heap->Addr->Array Value->Prop
 |true,h,l,xs=>h.IsList l xs
 |false,h,l,xs=>h.IsTuple l xs
noncomputable def Rk:Bool->Addr->Addr->Nat->Heap->Prop
 |true,it,l,i,h=>h.IsListIter it l i
 |false,it,l,i,h=>h.IsTupleIter it l i
noncomputable def Sk:Bool->W.Frag->Hp->Addr->List V->Prop
 |true,K,H,l,xs=>dI K H l xs
 |false,K,H,l,xs=>gj K H l xs
noncomputable def ji:Bool->Addr->Obj
 |true,l=>{cls:=.type "list_iterator",data:=.fields #[.ref l,.int 0 0]}
 |false,l=>{cls:=.type "tuple_iterator",data:=.fields #[.ref l,.int 0 0]}
theorem pN.of(kd:Bool)(hne:l≠it):pN prog w it l (λi h=>Rk kd it l i h/\Ck kd h l its) its:=by
 cases kd
 ·exact pN.tuple hne
 ·exact pN.list hne
theorem Ck.keep(x:Ck kd h l xs)(k:∀o,h.get? l=some o->h'.get? l=some o):Ck kd h' l xs:=by
 cases kd
 ·exact IsTuple.at' x k
 ·exact Heap.IsList.at x k
theorem Rk.keep(x:Rk kd it l i h)(k:∀o,h.get? it=some o->h'.get? it=some o):Rk kd it l i h':=by
 cases kd
 ·exact IsTupleIter.at' x k
 ·exact Heap.IsListIter.at x k
theorem Rk.obj(x:Rk kd it l i h):∃o,h.get? it=some o/\∀v,o.data≠.cell v:=by
 cases kd
 ·obtain⟨o,e,c,d⟩:=x;exact⟨o,e,λv z=>by rw[d] at z;cases z⟩
 ·obtain⟨o,e,c,d⟩:=x;exact⟨o,e,λv z=>by rw[d] at z;cases z⟩
theorem Ck.lt(x:Ck kd h l xs):l<h.objs.size:=by
 cases kd
 ·obtain⟨o,e,_⟩:=x;exact bW e
 ·obtain⟨o,e,_⟩:=x;exact bW e
section
variable {prog:Program}{w:World}{A:Around}{E:Value->Shared->Prop}{s:Shared}
theorem Zk(c:Ck kd s.heap l xs)(q:Q (.ref s.heap.objs.size) {s with heap:=s.heap.push (ji kd l)}):wpAny (model prog w) A (pyIter (.ref l)) Q E s:=by
 cases kd
 ·exact wpAny_pyIter_tuple c q
 ·exact wpAny_pyIter_list c q
end
noncomputable def zH(h:Heap)(k1 k2:Bool)(l1 l2:Addr):Heap:=((((h.push (ji k1 l1)).push (ji k2 l2)).push {cls:=.type "tuple",data:=.seq #[.ref h.objs.size,.ref (h.push (ji k1 l1)).objs.size]}).push {cls:=.type "tuple",data:=.seq #[.none,.none]}).push
 {cls:=.type "zip",data:=.fields #[.none,.bool false,.bool false,.ref ((h.push (ji k1 l1)).push (ji k2 l2)).objs.size,.ref (((h.push (ji k1 l1)).push (ji k2 l2)).push {cls:=.type "tuple",data:=.seq #[.ref h.objs.size,.ref (h.push (ji k1 l1)).objs.size]}).objs.size]}
theorem zhY(k1 k2:Bool)(l1 l2:Addr)(xs ys:Array Value):Meets (Builtin.«zip.__new__» ⟨[.type "zip",.ref l1,.ref l2],[]⟩) (λ_ R s=>Ck k1 s.heap l1 xs/\Ck k2 s.heap l2 ys /\
   R (.ok (.ret (.ref ((((s.heap.push (ji k1 l1)).push (ji k2 l2)).push {cls:=.type "tuple",data:=.seq #[.ref s.heap.objs.size,.ref (s.heap.push (ji k1 l1)).objs.size]}).push {cls:=.type "tuple",data:=.seq #[.none,.none]}).objs.size))) {s with heap:=zH s.heap k1 k2 l1 l2}):=
 .of_wp λprog w A R s h=>by
  obtain⟨hp,g,d,tk,os⟩:=s;obtain⟨c1,c2,h⟩:=h;have hsub:=sub_zip;have C1:Ck k1 (Shared.heap ⟨hp,g,d,tk,os⟩) l1 xs:=c1;have C2:Ck k2 (Shared.heap ⟨hp.push (ji k1 l1),g,d,tk,os⟩) l2 ys:=c2.keep λo e=>cG _ e
  wp_walk using Zk C1,Zk C2
  exact⟨_,rfl,h⟩
section
variable {prog:Program}{w:World}{A:Around}{E:Value->Shared->Prop}{s:Shared}
theorem zkp(c1:Ck k1 s.heap l1 xs)(c2:Ck k2 s.heap l2 ys)
  (h:∀h',IsZip h' (s.heap.objs.size+4) (s.heap.objs.size+2) (s.heap.objs.size+3) .none->IsPair h' (s.heap.objs.size+2) (.ref s.heap.objs.size) (.ref (s.heap.objs.size+1))->IsPair h' (s.heap.objs.size+3) .none .none->
   Rk k1 s.heap.objs.size l1 0 h'->Rk k2 (s.heap.objs.size+1) l2 0 h'->(∀c o,s.heap.get? c=some o->h'.get? c=some o)->Q (.ref (s.heap.objs.size+4)) {s with heap:=h'}) :
  wpAny (model prog w) A (call (.type "zip") [.ref l1,.ref l2]) Q E s:=by
 refine callType_new F.called_zip (by decide) (F.typeCall_zip_2 _ _) (F.newCall_zip_2 _ _) (λobj=>F.args_object_init_3 obj _ _) F.entry_zip_new (zhY k1 k2 l1 l2 xs ys) ⟨c1,c2,?_⟩;have n1:(s.heap.push (ji k1 l1)).objs.size=s.heap.objs.size+1:=t_ ..;have n2:((s.heap.push (ji k1 l1)).push (ji k2 l2)).objs.size=s.heap.objs.size+2:=by rw[t_,n1]
 have fr:∀kd l,(ji kd l).isFreed=false:=λkd l=>by cases kd<;>rfl
 have rk:∀{h:Heap} {a:Addr} {kd:Bool} {l:Addr},h.get? a=some (ji kd l)->Rk kd a l 0 h:=λ{h a kd l} e=>by
  cases kd
  ·exact⟨_,e,rfl,rfl⟩
  ·exact⟨_,e,rfl,rfl⟩
 have o1:(s.heap.push (ji k1 l1)).get? s.heap.objs.size=some (ji k1 l1):=iB _ (fr _ _);have o2:((s.heap.push (ji k1 l1)).push (ji k2 l2)).get? (s.heap.objs.size+1)=some (ji k2 l2):=by
  have:=iB (s.heap.push (ji k1 l1)) (o:=ji k2 l2) (fr _ _);rw[n1] at this;exact this
 generalize hA:(s.heap.push (ji k1 l1)).push (ji k2 l2)=Ol at *;have eH:zH s.heap k1 k2 l1 l2=((Ol.push {cls:=.type "tuple",data:=.seq #[.ref s.heap.objs.size,.ref (s.heap.objs.size+1)]}).push {cls:=.type "tuple",data:=.seq #[.none,.none]}).push {cls:=.type "zip",data:=.fields #[.none,.bool false,.bool false,.ref (s.heap.objs.size+2),.ref (s.heap.objs.size+3)]}:=by
  unfold zH;rw[hA,n1,n2,t_,n2]
 have n3:(Ol.push {cls:=.type "tuple",data:=.seq #[.ref s.heap.objs.size,.ref (s.heap.objs.size+1)]}).objs.size=s.heap.objs.size+3:=by rw[t_,n2]
 have n4:((Ol.push {cls:=.type "tuple",data:=.seq #[.ref s.heap.objs.size,.ref (s.heap.objs.size+1)]}).push {cls:=.type "tuple",data:=.seq #[.none,.none]}).objs.size=s.heap.objs.size+4:=by rw[t_,n3]
 rw[n1,n4];have g5:(zH s.heap k1 k2 l1 l2).get? (s.heap.objs.size+4)=some {cls:=.type "zip",data:=.fields #[.none,.bool false,.bool false,.ref (s.heap.objs.size+2),.ref (s.heap.objs.size+3)]}:=by
  rw[eH,<-n4];exact iB _ rfl
 have g4:(zH s.heap k1 k2 l1 l2).get? (s.heap.objs.size+3)=some {cls:=.type "tuple",data:=.seq #[.none,.none]}:=by
  rw[eH,<-n3];exact cG _ (iB _ rfl)
 have g3:(zH s.heap k1 k2 l1 l2).get? (s.heap.objs.size+2)=some {cls:=.type "tuple",data:=.seq #[.ref s.heap.objs.size,.ref (s.heap.objs.size+1)]}:=by
  rw[eH,<-n2];exact cG _ (cG _ (iB _ rfl))
 have up:∀c o,Ol.get? c=some o->(zH s.heap k1 k2 l1 l2).get? c=some o:=λc o e=>by rw[eH];exact cG _ (cG _ (cG _ e))
 refine⟨⟨_,g5,rfl⟩,h _ g5 g3 g4 (rk (up _ _ ?_)) (rk (up _ _ o2)) λc o e=>up _ _ ?_⟩
 ·rw[<-hA];exact cG _ o1
 ·rw[<-hA];exact cG _ (cG _ e)
end
noncomputable def S5(K:W.Frag)(k1 k2:Bool)(l1 l2:Addr):It:=
 ⟨λi H=>∃xs ys x y,Sk k1 K H l1 xs/\Sk k2 K H l2 ys/\xs[i]?=some x/\ys[i]?=some y,
  λi H v H'=>∃a x y,H a=none/\v=.ref a/\H'=upd H a (.tup [x,y])/\(∀xs,Sk k1 K H l1 xs->xs[i]?=some x)/\∀ys,Sk k2 K H l2 ys->ys[i]?=some y,
  λi H=>∃xs ys,Sk k1 K H l1 xs/\Sk k2 K H l2 ys/\(xs.length<=i\/ys.length<=i)⟩
section
variable {X:Cx}{ak:List (Addr×Obj)}{Z:St}{H:Hp}{s:Shared}{kd:Bool}{l:Addr}{xs ys:List V}
theorem Inv.row(I:Inv X ak Z H s)(h:Sk kd X.K H l xs):∃its:List Value,Vals xs its/\Ck kd s.heap l its.toArray:=by
 cases kd
 ·obtain⟨its,rv,p,hz⟩:=I.tuple h;exact⟨its,rv,p⟩
 ·obtain⟨its,rv,p,hz⟩:=I.list h;exact⟨its,rv,p.isList⟩
theorem Inv.qY(I:Inv X ak Z H s)(h:Sk kd X.K H l xs)(h':Sk kd X.K H l ys):xs=ys:=by
 cases kd
 ·exact I.mq h h'
 ·exact I.ou h h'
end
theorem zhR{P:Program}{w:World}{K:W.Frag}{elts:List Expr}{kk:Nat}{pos:Pos}{k1 k2:Bool}{l1 l2 z TI TO i1 i2:Addr}(D:m9 z TI TO i1 i2 l1 l2) :
  Turn P w K (.Tuple elts kk pos) (S5 K k1 k2 l1 l2) [z,TI,TO,i1,i2] z (λi h=>IsZip h z TI TO .none/\IsPair h TI (.ref i1) (.ref i2)/\(∃a b,IsPair h TO a b)/\Rk k1 i1 l1 i h/\Rk k2 i2 l2 i h) where
 mem:=by simp
 obj:=λi h ⟨a1,a2,⟨p,q,a3⟩,a4,a5⟩ b hb=>by
  have:b=z\/b=TI\/b=TO\/b=i1\/b=i2:=by simpa using hb
  rcases this with rfl|rfl|rfl|rfl|rfl
  ·exact⟨_,a1,λv y=>by cases y⟩
  ·exact⟨_,a2,λv y=>by cases y⟩
  ·exact⟨_,a3,λv y=>by cases y⟩
  ·exact a4.obj
  ·exact a5.obj
 keep:=λi h h' ⟨a1,a2,⟨p,q,a3⟩,a4,a5⟩ k=>⟨k z (by simp) _ a1,k TI (by simp) _ a2,⟨p,q,k TO (by simp) _ a3⟩,a4.keep λo e=>k i1 (by simp) o e,a5.keep λo e=>k i2 (by simp) o e⟩
 item:=by
  intro X hP hw hK hc i ak s Z H E I hf ⟨a1,a2,⟨p,q,a3⟩,a4,a5⟩ hg;subst hP hw hK;obtain⟨xs,ys,x,y,Gn,Gp,hx,hy⟩:=hg;obtain⟨Zm,Om,c1⟩:=I.row Gn;obtain⟨J5,Oo,c2⟩:=I.row Gp;obtain⟨u,hu,ru⟩:=Om.get hx;obtain⟨v,hv,rv⟩:=Oo.get hy;have D':=D;obtain⟨⟨z1,z2,z3,z4,z5,z6⟩,⟨t1,t2,t3,t4,t5⟩,⟨j1,j2,j3,j4,j5,j6,j7⟩⟩:=D';refine zh6 (pN.of k1 j4.symm) (pN.of k2 j7.symm) D a1 a2 a3 ⟨a4,c1⟩ ⟨a5,c2⟩ (x:=u) (y:=v) (by simpa using hu) (by simpa using hv) λh1 b1 b2 b3 b4 b5 b6 kp=>?_;refine⟨_,rfl,wpAny_letOwnedTupleGo_zip (s:={s with heap:=h1}) b1 λh2 e2 sb=>?_⟩;have hT2:IsPair h2 s.heap.objs.size u v:=(sb.2 _ (wK (bW a1))).trans b5;have kk:∀b o,b∉[z,TI,TO,i1,i2]->s.heap.get? b=some o->h2.get? b=some o:=λb o hb e=>(sb.2 b λy=>hb (by simp[y])).trans (kp b o (λy=>hb (by simp[y])) (λy=>hb (by simp[y])) (λy=>hb (by simp[y])) (λy=>hb (by simp[y])) e);have I2:=I.sV (t':=s.toks) (a:=s.heap.objs.size) (o:=.tup [x,y]) kk (λb hb=>hf b hb) (cH _) (show aU X.prog X.w _ h2 _ (.tup [x,y]) from ⟨by show 2<=sizeLine;decide,[u,v],.cons ru (.cons rv .nil),⟨_,hT2,rfl,_,rfl⟩⟩);have hn:H s.heap.objs.size=none:=I.hok.fresh (cH _);refine⟨.ref s.heap.objs.size,_,I2,rfl,⟨_,x,y,hn,rfl,rfl,λzs hz=>by rw[I.qY hz Gn];exact hx,λzs hz=>by rw[I.qY hz Gp];exact hy⟩,⟨e2,(sb.2 _ z1.symm).trans (kp _ _ z1.symm t1.symm j1 j2 a2),⟨_,_,(sb.2 _ z2.symm).trans b2⟩,b3.1.keep λo e=>(sb.2 _ z3.symm).trans e,b4.1.keep λo e=>(sb.2 _ z4.symm).trans e⟩,λb hb=>?_⟩;have nb:b≠s.heap.objs.size:=by
   have:b=z\/b=TI\/b=TO\/b=i1\/b=i2:=by simpa using hb
   rcases this with rfl|rfl|rfl|rfl|rfl
   ·exact dH (bW a1)
   ·exact dH (bW a2)
   ·exact dH (bW a3)
   ·obtain⟨o,e,_⟩:=a4.obj;exact dH (bW e)
   ·obtain⟨o,e,_⟩:=a5.obj;exact dH (bW e)
  rw[dW nb];exact(hf b hb).1
 done:=by
  intro X hP hw hK hc i ak s Z H E I hf ⟨a1,a2,⟨p,q,a3⟩,a4,a5⟩ hg;subst hP hw hK;obtain⟨xs,ys,Gn,Gp,hx⟩:=hg;obtain⟨Zm,Om,c1⟩:=I.row Gn;obtain⟨J5,Oo,c2⟩:=I.row Gp;have n1:=Om.length;have n2:=Oo.length;refine zjg (I.ok.hd hc) (pN.of k1 D.is.2.2.2.1.symm) (pN.of k2 D.is.2.2.2.2.2.2.symm) D a1 a2 a3 ⟨a4,c1⟩ ⟨a5,c2⟩ ?_ λh' kp=>⟨rfl,I.yK (t':=s.toks) (ch:=[z,TI,TO,i1,i2]) (λb o hb e=>kp b o (λy=>hb (by simp[y])) (λy=>hb (by simp[y])) (λy=>hb (by simp[y])) (λy=>hb (by simp[y])) e) λb hb=>hf b hb⟩;rcases hx with y|y
  ·exact .inl (by simp;lia)
  ·exact .inr (by simp;lia)
 self:=λ_ _ _ _ _ ⟨a1,_⟩ h=>wpAny_pyIter_zip a1 h
section
variable {X:Cx}
noncomputable def S6(K:W.Frag)(ta:TA):TI:=λZ H R=>ta Z H λvs H1=>∃k1 k2 l1 l2 xs ys,vs=[.ref l1,.ref l2]/\Sk k1 K H1 l1 xs/\Sk k2 K H1 l2 ys/\R (S5 K k1 k2 l1 l2) H1
theorem zim:bootBuiltins "zip"=some (.type "zip"):=by decide +kernel
theorem zlo{a b:Expr}{ta:TA}{p pos tpos:Pos}{elts:List Expr}{kk:Nat}(hg:Gl X "zip")(hm:X.mg "zip"=none)(ha:PA X [a,b] ta)(hs:starEach [a,b] X.env=[(false,eval a X.env),(false,eval b X.env)]:=by rfl)(Gg:starEach [b] X.env=[(false,eval b X.env)]:=by rfl) :
  PI X (.Tuple elts kk tpos) (.Call (.Name "zip" p) [a,b] [] pos) (S6 X.K ta):=by
 intro ak s Z H R I h;refine Call_ (Aa I hg hm zim (G8 (aY (ha pos ak s Z H _ I h) λus s1 ⟨vs,H1,I1,r1,q1⟩=>?_) (by rw[hs,Gg]) (by rw[Gg];rfl)));obtain⟨k1,k2,l1,l2,xs,ys,e,Gn,Gp,q⟩:=q1;subst e;cases r1 with
 |cons r rr=>
  cases rr with
  |cons r' rr=>
   cases rr;cases r;cases r';obtain⟨Zm,Om,c1⟩:=I1.row Gn;obtain⟨J5,Oo,c2⟩:=I1.row Gp;have m1:=c1.lt;have m2:=c2.lt;refine zkp c1 c2 λh' b1 b2 b3 b4 b5 kp=>?_;refine wpAny_pyIter_zip b1 ?_;have ne:∀{u v:Nat},u<v->u≠v:=λh=>dH h;have D:m9 (s1.heap.objs.size+4) (s1.heap.objs.size+2) (s1.heap.objs.size+3) s1.heap.objs.size (s1.heap.objs.size+1) l1 l2:=
    ⟨⟨(ne (by lia)).symm,(ne (by lia)).symm,(ne (by lia)).symm,(ne (by lia)).symm,(ne (g8 m1 (by lia))).symm,(ne (g8 m2 (by lia))).symm⟩,
     ⟨(ne (by lia)).symm,(ne (by lia)).symm,(ne (by lia)).symm,(ne (g8 m1 (by lia))).symm,(ne (g8 m2 (by lia))).symm⟩,
     ⟨(ne (by lia)).symm,(ne (by lia)).symm,ne (by lia),(ne m1).symm,(ne m2).symm,(ne (g8 m1 (by lia))).symm,(ne (g8 m2 (by lia))).symm⟩⟩
   refine⟨s1.heap.objs.size+4,[s1.heap.objs.size+4,s1.heap.objs.size+2,s1.heap.objs.size+3,s1.heap.objs.size,s1.heap.objs.size+1],_,_,H1,rfl,I1.kept (t':=s1.toks) kp,zhR D,⟨b1,b2,⟨_,_,b3⟩,b4,b5⟩,λb hb=>?_,q⟩;have:s1.heap.objs.size<=b:=by
    have:b=s1.heap.objs.size+4\/b=s1.heap.objs.size+2\/b=s1.heap.objs.size+3\/b=s1.heap.objs.size\/b=s1.heap.objs.size+1:=by simpa using hb
    rcases this with rfl|rfl|rfl|rfl|rfl<;>lia
   exact I1.yj this (I1.hok.fresh this)
end
end L2
set_option genSizeOf false
set_option genInjectivity false
namespace Mi
open PySem
inductive D where
 |non|bl (b:Bool)|int (i:Int)|str (s:Str)|tup (xs:List D)|fl (xs:List D)|fd (ks vs:List D)|exc (c:Nat) (fs:List D)|ob (c:Nat) (fs:List D)
inductive Xv where
 |d (x:D)|l (n:Nat)
inductive SO where
 |lst (xs:List D)
 |dct (ks vs:List D)
noncomputable abbrev S:=List SO
inductive Rs (α:Type) where
 |ok (a:α)|er (c:Nat) (fs:List D)
noncomputable abbrev M(α:Type):=S->Option (Rs α×S)
noncomputable def M.ret{α:Type}(a:α):M α:=λs=>some (.ok a,s)
noncomputable def M.bd{α β:Type}(m:M α)(k:α->M β):M β:=λs=>match m s with
 |some (.ok a,s')=>k a s'
 |some (.er c f,s')=>some (.er c f,s')
 |none=>none
noncomputable def M.qt{α:Type}(m:M α):M α:=λs=>match m s with
 |some (.ok a,s')=>some (.ok a,s')
 |_=>none
noncomputable def M.no{α:Type}:M α:=λ_=>none
noncomputable def M.opt{α:Type}:Option α->M α
 |some a=>M.ret a
 |none=>M.no
inductive Rz where
 |dat (d:D)|nw (xs:List D)
inductive Pr where
 |add|ao|mul|fdiv|mod|pow|neg
 |eq|ne|lt|le|gt|ge|inn|nin
 |J6|noN
 |len|abs|max2|min2|J7|J8|vo|divmod|all|sum|list|tuple|sorted|fu|Di|str1
 |ix|rev|Zn|J9|mult
 |count|index|repr
inductive Kd where
 |int|bool|str|tuple|list|dict|cls (c:Nat)|qm
mutual
inductive E where
 |c (d:D)
 |v (i:Nat)
 |pr (fz:Bool) (p:Pr) (xs:Es)
 |sS (p q:Pr) (a b c:E)
 |vp (p q r:Pr) (a b c d:E)
 |and (a b:E)
 |or (a b:E)
 |not (a:E)
 |ite (c a b:E)
 |tup (xs:Es)
 |lst (fz:Bool) (xs:Es)
 |vq (k:Str) (i:Int)
 |call (f:Nat) (xs:Es)
 |gQ (a:E) (k:Kd)
 |sl (fz:Bool) (a:E) (lo hi:Eo)
 |meth (fz:Bool) (p:Pr) (k:Kd) (o:E) (xs:Es)
 |push (o a:E)
 |pop (o:E)
 |comp (fz:Bool) (elt:E) (tg:List Nat) (it:Wk) (fr:List Nat) (many:Nat) (cond:Eo)
 |J_ (fz:Bool) (elt:E) (tg:List Nat) (it:Wk) (Zo:List Nat) (J5:Wk) (fr:List Nat) (many:Nat) (cond:Eo)
 |fld (o:E) (cs:List Nat) (i:Nat)
 |mk (c:Nat) (xs:Es)
 |Ka (fz:Bool) (a:E) (b:E)
 |Dj (a b:E)
 |ins (o i a:E)
 |no
inductive Wk where
 |seq (e:E)
 |rg (a b:E)
 |zip (a b:E)
 |enum (a:E)
 |rrg (a:E)
inductive Es where
 |nil
 |cons (a:E) (r:Es)
inductive Eo where
 |no
 |yes (a:E)
end
noncomputable abbrev Ea(a:E):Es:=.cons a .nil
noncomputable abbrev Eb(a b:E):Es:=.cons a (.cons b .nil)
noncomputable abbrev Ec(a b c:E):Es:=.cons a (.cons b (.cons c .nil))
noncomputable abbrev Ei(a b:E):E:=.pr true .ix (.cons a (.cons b .nil))
noncomputable abbrev Ci(i:Int):E:=.c (.int i)
noncomputable def Es.len:Es->Nat
 |.nil=>0
 |.cons _ r=>r.len+1
inductive Tg where
 |nm (i:Nat)
 |tp (is:List Nat)
 |ao (o i:E)
mutual
inductive St where
 |pass
 |ex (e:E)
 |asg (t:Tg) (e:E)
 |par (i j:Nat) (a b:E)
 |aug (i:Nat) (e:E)
 |ret (e:E)
 |rise (c:Nat) (kp:Bool) (xs:Es)
 |iff (c:E) (t e:cL)
 |wh (c:E) (b:cL)
 |fr (t:Tg) (w:Wk) (b:cL)
 |sW (b:cL) (d:Nat) (i:Nat) (h:cL)
 |no
inductive cL where
 |nil
 |cons (a:St) (r:cL)
end
noncomputable def fj(eq:D->D->Option Bool):List D->List D->Option Bool
 |[],[]=>some true
 |[],_::_=>some false
 |_::_,[]=>some false
 |x::xs,y::ys=>match eq x y,fj eq xs ys with
  |some a,some b=>some (a&&b)
  |_,_=>none
noncomputable def kq:D->Option Nat
 |.non=>some 0
 |.bl _=>some 1
 |.int _=>some 1
 |.str _=>some 2
 |.tup _=>some 3
 |.fl _=>some 4
 |_=>none
noncomputable def dD:Nat->D->D->Option Bool
 |n+1,.tup xs,.tup ys=>fj (dD n) xs ys
 |n+1,.fl xs,.fl ys=>fj (dD n) xs ys
 |_,.non,.non=>some true
 |_,.bl a,.bl b=>some (a==b)
 |_,.int a,.int b=>some (a==b)
 |_,.str a,.str b=>some (a==b)
 |_,.bl a,.int b=>some ((if a then 1 else 0)==b)
 |_,.int a,.bl b=>some (a==(if b then 1 else 0))
 |_,a,b=>match kq a,kq b with
  |some i,some j=>if i=j then none else some false
  |_,_=>none
noncomputable def jk:List D->Option (List Int)
 |[]=>some []
 |.int i::r=>(jk r).map (i::·)
 |_=>none
noncomputable def ltI:List Int->List Int->Bool
 |_,[]=>false
 |[],_::_=>true
 |x::xs,y::ys=>if x=y then ltI xs ys else decide (x<y)
noncomputable def gW:List D->Option (List Bool)
 |[]=>some []
 |.bl b::r=>(gW r).map (b::·)
 |_=>none
noncomputable def cut{α:Type}(xs:List α)(lo hi:Option Int):List α:=(xs.drop (HT.bY xs.length 0 lo)).take (HT.bY xs.length xs.length hi-HT.bY xs.length 0 lo)
noncomputable def oO:D->Option (List D)
 |.tup xs=>some xs
 |.fl xs=>some xs
 |_=>none
noncomputable def cutD(x:D)(lo hi:Option Int):Option Rz:=match x with
 |.tup xs=>some (.dat (.tup (cut xs lo hi)))
 |.fl xs=>some (.nw (cut xs lo hi))
 |_=>none
noncomputable def memD(d:D):List D->Option Bool
 |[]=>some false
 |x::r=>match dD 50 x d,memD d r with
  |some a,some b=>some (a||b)
  |_,_=>none
noncomputable def qp:Kd->D->Bool
 |.list,.fl _=>true
 |.str,.str _=>true
 |.dict,.fd _ _=>true
 |_,_=>false
noncomputable def dN(f:Int->Int->Option D):List D->Option Rz
 |[.int i,.int j]=>(f i j).map .dat
 |_=>none
noncomputable def qZ(f:Int->D):List D->Option Rz
 |[.int i]=>some (.dat (f i))
 |_=>none
noncomputable def sX(f:List D->Option Rz):List D->Option Rz
 |[a]=>(oO a).bind f
 |_=>none
noncomputable def Dk:List D->Option Rz
 |[.int i,.int j]=>some (.dat (.int (i+j)))
 |[.tup xs,.tup ys]=>if xs.length+ys.length<=sizeLine then some (.dat (.tup (xs++ys))) else none
 |[.fl xs,.fl ys]=>if xs.length+ys.length<=sizeLine then some (.nw (xs++ys)) else none
 |[.str x,.str y]=>if x.length+y.length<=sizeLine then some (.dat (.str (x++y))) else none
 |_=>none
noncomputable def Kc:List D->Option Rz
 |[.int i,.int j]=>some (.dat (.bl (decide (i<j))))
 |[.tup xs,.tup ys]=>match jk xs,jk ys with
  |some a,some b=>some (.dat (.bl (ltI a b)))
  |_,_=>none
 |_=>none
noncomputable def Af(f:Bool->Bool):List D->Option Rz
 |[a,b]=>(dD 50 a b).map λk=>.dat (.bl (f k))
 |_=>none
noncomputable def Ag(f:Bool->Bool):List D->Option Rz
 |[a,b]=>((oO b).bind (memD a)).map λk=>.dat (.bl (f k))
 |_=>none
noncomputable def D.Ke:D->Bool
 |.non=>true
 |_=>false
noncomputable def Kf(f:Bool->Bool):List D->Option Rz
 |[a]=>some (.dat (.bl (f a.Ke)))
 |_=>none
noncomputable def Kg:List D->Option Rz
 |[.int i]=>some (.dat (.int i))
 |[.bl k]=>some (.dat (.int (if k then 1 else 0)))
 |_=>none
noncomputable def Dl:List D->Option Rz
 |[.fl xs]=>(gW xs).map λbs=>.dat (.bl (bs.all id))
 |_=>none
noncomputable def eG:List D->Option (List Int)
 |[]=>some []
 |.int i::r=>(eG r).map (i::·)
 |_=>none
noncomputable def best(bt:Int->Int->Bool)(i:Int)(is:List Int):Int:=is.foldl (λm j=>if bt j m then j else m) i
noncomputable def Kh(bt:Int->Int->Bool):Option (List Int)->Option Rz
 |some (i::is)=>some (.dat (.int (best bt i is)))
 |_=>none
noncomputable def Ah(bt:Int->Int->Bool):List D->Option Rz
 |[a]=>(oO a).bind λxs=>Kh bt (eG xs)
 |_=>none
noncomputable def okR(i j:Int):Bool:=decide (-(2^62)<=i/\i<2^62/\-(2^62)<=j/\j<2^62/\(j-i).toNat<=65536)
noncomputable def Zq(i:Int)(n:Nat):List D:=(List.range n).map λk=>.int (i+(k:Nat))
noncomputable def S7:List D->Option Rz
 |[.int j]=>if okR 0 j then some (.nw (Zq 0 (j-0).toNat)) else none
 |[.int i,.int j]=>if okR i j then some (.nw (Zq i (j-i).toNat)) else none
 |_=>none
noncomputable def qu:List D->Option Rz
 |[a]=>(oO a).map λxs=>.dat (.tup xs)
 |_=>none
noncomputable def S8:List D->Option Rz
 |[a,.int i]=>((oO a).bind λxs=>L2.qT xs i).map .dat
 |_=>none
noncomputable def oR:List D->List D->Option Bool
 |[],ys=>some (decide (0<ys.length))
 |_::_,[]=>some false
 |.int x::xs,.int y::ys=>if x=y then oR xs ys else some (decide (x<y))
 |_::_,_::_=>none
noncomputable def wU(xs:List D)(i j:Nat):Option Bool:=match xs[i]?,xs[j]? with
 |some (.int x),some (.int y)=>some (decide (x<y))
 |some (.tup us),some (.tup ws)=>oR us ws
 |_,_=>none
noncomputable def m_:D->Bool
 |.int _=>true
 |_=>false
noncomputable def jm:D->Bool
 |.tup (.int _::_)=>true
 |_=>false
noncomputable def q_(lt:Nat->Nat->Option Bool)(xs:List D):Option (List D):=if xs.length<2 then some xs else if xs.length<64 then (match L2.aZ lt (PySem.W.kas_sort xs.length) with
  |some p=>if p.size=xs.length then some (p.toList.map λi=>xs.getD i .non) else none
  |none=>none) else none
noncomputable def yL(xs:List D):Option (List D):=if xs.all m_||xs.all jm then q_ (wU xs) xs else none
noncomputable def ni:List D->Option Rz
 |[.fl xs]=>(yL xs).map .nw
 |_=>none
noncomputable def ltK(ks:List Int)(i j:Nat):Option Bool:=match ks[i]?,ks[j]? with
 |some x,some y=>some (decide (x<y))
 |_,_=>none
noncomputable def Dm:List D->Option Rz
 |[.tup xs]=>some (.dat (.tup xs.reverse))
 |_=>none
noncomputable def qw:List D->Option Rz
 |[.fl xs,.bl b]=>(gW xs).map λbs=>.dat (.int (bs.count b))
 |_=>none
noncomputable def qx:List D->Option Rz
 |[.fl xs,.bl b]=>((gW xs).bind λbs=>bs.idxOf? b).map λ(i:Nat)=>.dat (.int i)
 |_=>none
noncomputable def Dp:List D->Option Rz
 |[.int i]=>if i.natAbs<2^62 then some (.dat (.str (Str.ofString (toString i)))) else none
 |_=>none
noncomputable def S9(f:D->Option PyData):List D->Option (List PyData)
 |[]=>some []
 |x::r=>match f x,S9 f r with
  |some a,some b=>some (a::b)
  |_,_=>none
noncomputable def pd:Nat->D->Option PyData
 |n+1,.tup xs=>(S9 (pd n) xs).map .tuple
 |n+1,.fl xs=>(S9 (pd n) xs).map .list
 |_,.non=>some .none
 |_,.bl b=>some (.bool b)
 |_,.int i=>some (.int i)
 |_,.str x=>some (.str x)
 |_,_=>none
noncomputable def pdT:D->Option PyData
 |.fd [.str k] [.int i]=>some (.dict [(.str k,.int i)])
 |x=>pd 40 x
noncomputable def shw(d:PyData):Option Rz:=if d.showable=true/\d.shown.length<=sizeLine then some (.dat (.str d.shown)) else none
noncomputable def Kl:List D->Option Rz
 |[x]=>(pdT x).bind shw
 |_=>none
noncomputable def iQ:List (Int×Int):=[(0,1),(0,2),(0,3),(0,4),(0,5),(0,6),(0,7),(1,2),(1,3),(1,4),(1,5),(1,6),(1,7),(2,3),(2,4),(2,5),(2,6),(2,7),(3,4),(3,5),(3,6),(3,7),(4,5),(4,6),(4,7),(5,6),(5,7),(6,7)]
noncomputable def ss(ts:List (Int×Int)):List (Int×Int):=iQ.filter λt=>ts.contains t
noncomputable def yM:D->Option (Int×Int)
 |.tup [.int a,.int b]=>if 0<=a/\a<b/\b<8 then some (a,b) else none
 |_=>none
noncomputable def lA:List D->Option (List (Int×Int))
 |[]=>some []
 |x::r=>match yM x,lA r with
  |some a,some b=>some (a::b)
  |_,_=>none
noncomputable def S_:List D->Option Rz
 |[.tup xs]=>(lA xs).map λts=>.nw ((ss ts).map λp=>.tup [.int p.1,.int p.2])
 |_=>none
noncomputable def Tc:List D->Option Rz
 |[.fl xs]=>(eG xs).map λis=>.dat (.int (is.foldl (·+·) 0))
 |_=>none
noncomputable def nj:List Int->List Int
 |[]=>[]
 |x::r=>if r.contains x then nj r else x::nj r
noncomputable def Km:List D->Option Rz
 |[.tup xs]=>(eG xs).map λis=>.dat (.int (nj is).length)
 |_=>none
noncomputable def rep{α:Type}(xs:List α)(n:Nat):List α:=(List.replicate n xs).flatten
noncomputable def Ko:List D->Option Rz
 |[.fl xs,.int n]=>if 0<=n/\n<=1000/\xs.length<=1000 then some (.nw (rep xs n.toNat)) else none
 |_=>none
noncomputable def Ai:List D->Option Rz
 |[.tup xs,.int n]=>if 1<=n/\n<=1000/\1<=xs.length/\xs.length<=1000 then some (.dat (.tup (rep xs n.toNat))) else none
 |_=>none
noncomputable def Dq:D->Option Bool
 |.non=>some false
 |.bl b=>some b
 |.int i=>some (i != 0)
 |.tup xs=>some (!xs.isEmpty)
 |.fl xs=>some (!xs.isEmpty)
 |_=>none
noncomputable def Kp(xs:List D)(i:Int)(d:D):List D:=let j:=(if i<0 then (if i+xs.length<0 then 0 else i+xs.length) else (if i>xs.length then (xs.length:Int) else i)).toNat;xs.take j++d::xs.drop j
noncomputable def prim:Pr->List D->Option Rz
 |.add=>Dk
 |.ao=>dN λi j=>some (.int (i-j))
 |.mul=>dN λi j=>if (-(2^64)<i/\i<2^64)\/(-(2^64)<j/\j<2^64) then some (.int (i*j)) else none
 |.fdiv=>dN λi j=>if 0<j/\j<1073741824 then some (.int (i/j)) else none
 |.mod=>dN λi j=>if 0<j then some (.int (i%j)) else none
 |.pow=>dN λi j=>if 0<=j/\j<=1000000/\i.natAbs<2^64 then some (.int (i^j.toNat)) else none
 |.neg=>qZ λi=>.int (-i)
 |.eq=>Af id
 |.ne=>Af not
 |.lt=>Kc
 |.le=>dN λi j=>some (.bl (decide (i<=j)))
 |.gt=>dN λi j=>some (.bl (decide (j<i)))
 |.ge=>dN λi j=>some (.bl (decide (j<=i)))
 |.inn=>Ag id
 |.nin=>Ag not
 |.J6=>Kf id
 |.noN=>Kf not
 |.len=>sX λxs=>some (.dat (.int xs.length))
 |.abs=>qZ λi=>.int (if i<0 then -i else i)
 |.max2=>dN λi j=>some (.int (if j>i then j else i))
 |.min2=>dN λi j=>some (.int (if j<i then j else i))
 |.vo=>Kg
 |.divmod=>dN λi j=>if 0<j/\j<1073741824 then some (.tup [.int (i/j),.int (i%j)]) else none
 |.all=>Dl
 |.Zn=>S7
 |.J7=>Ah λa b=>decide (a>b)
 |.J8=>Ah λa b=>decide (a<b)
 |.list=>sX λxs=>some (.nw xs)
 |.tuple=>qu
 |.ix=>S8
 |.rev=>Dm
 |.sorted=>ni
 |.fu=>S_
 |.J9=>Ko
 |.mult=>Ai
 |.sum=>Tc
 |.Di=>Km
 |.count=>qw
 |.index=>qx
 |.repr=>Kl
 |.str1=>Dp
noncomputable def mz(ao:Nat->Nat->Bool):D->Kd->Option Bool
 |.exc c _,.cls e=>some (ao c e)
 |.exc _ _,.qm=>some true
 |.exc _ _,_=>none
 |.ob _ _,_=>none
 |_,.cls _=>none
 |_,.qm=>none
 |.bl _,.bool=>some true
 |.bl _,.int=>some true
 |.bl _,_=>some false
 |.int _,.int=>some true
 |.int _,_=>some false
 |.non,_=>some false
 |.str _,.str=>some true
 |.str _,_=>some false
 |.tup _,.tuple=>some true
 |.tup _,_=>some false
 |.fl _,.list=>some true
 |.fl _,_=>some false
 |.fd _ _,.dict=>some true
 |.fd _ _,_=>some false
noncomputable def rd(x:Xv):M D:=λs=>match x with
 |.d v=>some (.ok v,s)
 |.l n=>match s[n]? with
  |some (.lst xs)=>some (.ok (.fl xs),s)
  |_=>none
noncomputable def fQ:List Xv->M (List D)
 |[]=>M.ret []
 |x::r=>M.bd (rd x) λd=>M.bd (fQ r) λds=>M.ret (d::ds)
noncomputable def dat(x:Xv):M D:=match x with
 |.d v=>M.ret v
 |.l _=>M.no
noncomputable def dR:List Xv->M (List D)
 |[]=>M.ret []
 |x::r=>M.bd (dat x) λd=>M.bd (dR r) λds=>M.ret (d::ds)
noncomputable def bool(x:Xv):M Bool:=match x with
 |.d (.bl b)=>M.ret b
 |_=>M.no
noncomputable def int(x:Xv):M Int:=match x with
 |.d (.int b)=>M.ret b
 |_=>M.no
noncomputable def newL(fz:Bool)(xs:List D):M Xv:=match fz with
 |true=>M.ret (.d (.fl xs))
 |false=>λs=>some (.ok (.l s.length),s++[.lst xs])
noncomputable def bT(fz:Bool)(o:Option Rz):M Xv:=match o with
 |some (.dat d)=>M.ret (.d d)
 |some (.nw xs)=>newL fz xs
 |none=>M.no
noncomputable def cW(x:Xv):M (Nat×List D):=λs=>match x with
 |.l n=>match s[n]? with
  |some (.lst xs)=>some (.ok (n,xs),s)
  |_=>none
 |_=>none
noncomputable def putL(n:Nat)(xs:List D):M Unit:=λs=>some (.ok (),s.set n (.lst xs))
noncomputable def enumFrom:Nat->List D->List D
 |_,[]=>[]
 |i,x::r=>.tup [.int i,x]::enumFrom (i+1) r
inductive Src where
 |fix (xs:List D)|live (n:Nat)|Aj (n:Nat)
noncomputable def Src.at(c:Src)(i:Nat)(s:S):Option (Option D):=match c with
 |.fix xs=>some xs[i]?
 |.live n=>match s[n]? with
  |some (.lst xs)=>some xs[i]?
  |_=>none
 |.Aj n=>match s[n]? with
  |some (.lst xs)=>some (xs[i]?.map λx=>.tup [.int i,x])
  |_=>none
noncomputable def vA(x:Xv):M (Src×Nat):=λs=>match x with
 |.d (.fl xs)=>some (.ok (.fix (enumFrom 0 xs),(enumFrom 0 xs).length),s)
 |.l n=>match s[n]? with
  |some (.lst xs)=>some (.ok (.Aj n,xs.length),s)
  |_=>none
 |_=>none
noncomputable def src(x:Xv):M (Src×Nat):=λs=>match x with
 |.d (.tup xs)=>some (.ok (.fix xs,xs.length),s)
 |.d (.fl xs)=>some (.ok (.fix xs,xs.length),s)
 |.l n=>match s[n]? with
  |some (.lst xs)=>some (.ok (.live n,xs.length),s)
  |_=>none
 |_=>none
noncomputable def qy(x:Xv):M (List D):=match x with
 |.d (.tup xs)=>M.ret xs
 |.d (.fl xs)=>M.ret xs
 |_=>M.no
noncomputable def jT(a b:Int):List D:=(List.range (b-a).toNat).map λ(i:Nat)=>.int (a+i)
noncomputable def gC(a:Int):Bool:=decide (-(2^62)<a)&&decide (a<2^62)
noncomputable def walk(c:Src)(f:D->List D->M (List D)):Nat->Nat->List D->M (List D)
 |0,_,_=>M.no
 |k+1,i,acc=>λs=>match c.at i s with
  |none=>none
  |some none=>some (.ok acc,s)
  |some (some x)=>M.bd (f x acc) (λacc'=>walk c f k (i+1) acc') s
noncomputable def Ak(f:D->M Xv):List D->M (List Int)
 |[]=>M.ret []
 |x::r=>M.bd (M.qt (f x)) λy=>M.bd (int y) λk=>M.bd (Ak f r) λks=>M.ret (k::ks)
noncomputable abbrev Vs:=List (Option Xv)
noncomputable abbrev Fn:=Nat->List Xv->M Xv
noncomputable def locs:List Xv->List Nat
 |[]=>[]
 |.d _::r=>locs r
 |.l n::r=>n::locs r
noncomputable def dY:Nat->List Xv->List Xv
 |_,[]=>[]
 |k,.d v::r=>.d v::dY k r
 |k,.l _::r=>.l k::dY (k+1) r
noncomputable def jo(s:S):List Nat->Option S
 |[]=>some []
 |n::r=>match s[n]?,jo s r with
  |some o,some q=>some (o::q)
  |_,_=>none
noncomputable def dF(s:S):List Nat->S->S
 |n::r,o::q=>dF (s.set n o) r q
 |_,_=>s
noncomputable def cR(F:List Xv->M Xv)(xs:List Xv):M Xv:=λs=>
 if (locs xs).Nodup then match jo s (locs xs) with
  |none=>none
  |some s0=>match F (dY 0 xs) s0 with
   |none=>none
   |some (.er c fs,s1)=>some (.er c fs,dF s (locs xs) s1)
   |some (.ok (.d v),s1)=>some (.ok (.d v),dF s (locs xs) s1)
   |some (.ok (.l n),s1)=>match (locs xs)[n]? with
    |some m=>some (.ok (.l m),dF s (locs xs) s1)
    |none=>match s1[n]? with
     |some o=>some (.ok (.l s.length),dF s (locs xs) s1++[o])
     |none=>none
 else none
noncomputable def g_{α:Type}:List Nat->List α->List (Option α)->Option (List (Option α))
 |[],[],J=>some J
 |i::is,d::ds,J=>g_ is ds (J.set i (some d))
 |_,_,_=>none
noncomputable def mC:D->Option (List D)
 |.tup xs=>some xs
 |_=>none
noncomputable def jC(tg:List Nat)(x:D)(J:Vs):Option Vs:=match tg with
 |[i]=>some (J.set i (some (.d x)))
 |is=>(mC x).bind λds=>g_ is (ds.map .d) J
noncomputable def blk(many:Nat)(fr:List Nat)(J:Vs):Vs:=List.replicate many none++fr.map λj=>J[j]?.join
section
variable (ao:Nat->Nat->Bool)(aj:Bool)(F:Fn)
mutual
noncomputable def ev:E->Vs->M Xv
 |.c d,_=>M.ret (.d d)
 |.v i,J=>M.opt (J[i]?.join)
 |.pr fz p xs,J=>M.bd (evs xs J) λvs=>M.bd (fQ vs) λds=>bT fz (prim p ds)
 |.sS p q a b c,J=>M.bd (ev a J) λx=>M.bd (ev b J) λy=>M.bd (fQ [x,y]) λds=>M.bd (bT true (prim p ds)) λt=>M.bd (bool t) λk=>
   if k=true then M.bd (ev c J) λz=>M.bd (fQ [y,z]) λds=>bT true (prim q ds) else M.ret (.d (.bl false))
 |.vp p q r a b c d,J=>M.bd (ev a J) λx=>M.bd (ev b J) λy=>M.bd (fQ [x,y]) λds=>M.bd (bT true (prim p ds)) λt=>M.bd (bool t) λk=>
   if k=true then M.bd (ev c J) λz=>M.bd (fQ [y,z]) λds=>M.bd (bT true (prim q ds)) λt=>M.bd (bool t) λk2=>
    if k2=true then M.bd (ev d J) λw=>M.bd (fQ [z,w]) λds=>bT true (prim r ds) else M.ret (.d (.bl false))
   else M.ret (.d (.bl false))
 |.and a b,J=>M.bd (ev a J) λx=>M.bd (bool x) λk=>if k=true then ev b J else M.ret (.d (.bl false))
 |.or a b,J=>M.bd (ev a J) λx=>M.bd (bool x) λk=>if k=true then M.ret (.d (.bl true)) else ev b J
 |.not a,J=>M.bd (ev a J) λx=>M.bd (bool x) λk=>M.ret (.d (.bl (!k)))
 |.ite c a b,J=>M.bd (ev c J) λx=>M.bd (bool x) λk=>if k=true then ev a J else ev b J
 |.tup xs,J=>M.bd (evs xs J) λvs=>M.bd (dR vs) λds=>M.ret (.d (.tup ds))
 |.lst fz xs,J=>M.bd (evs xs J) λvs=>M.bd (dR vs) λds=>newL fz ds
 |.vq k i,_=>M.ret (.d (.fd [.str k] [.int i]))
 |.call f xs,J=>M.bd (evs xs J) λvs=>cR (F f) vs
 |.gQ a k,J=>M.bd (ev a J) λx=>M.bd (rd x) λd=>M.bd (M.opt (mz ao d k)) λb=>M.ret (.d (.bl b))
 |.sl fz a lo hi,J=>M.bd (ev a J) λx=>M.bd (yN lo J) λl=>M.bd (yN hi J) λh=>M.bd (rd x) λd=>bT fz (cutD d l h)
 |.meth fz p k o xs,J=>M.bd (ev o J) λx=>M.bd (rd x) λd=>if qp k d=true then M.bd (evs xs J) λys=>M.bd (fQ (x::ys)) λds=>bT fz (prim p ds) else M.no
 |.push o a,J=>M.bd (ev o J) λx=>M.bd (cW x) λ_=>M.bd (ev a J) λy=>M.bd (dat y) λd=>M.bd (cW x) λnx=>if nx.2.length<sizeLine then M.bd (putL nx.1 (nx.2++[d])) λ_=>M.ret (.d .non) else M.no
 |.pop o,J=>M.bd (ev o J) λx=>M.bd (cW x) λnx=>match nx.2.getLast? with
   |some d=>M.bd (putL nx.1 nx.2.dropLast) λ_=>M.ret (.d d)
   |none=>M.no
 |.comp fz elt tg it fr many cond,J=>if aj=true then M.bd (oU it J) λcn=>
   M.bd (walk cn.1 (λd acc=>M.bd (M.opt (jC tg d (blk many fr J))) λJ'=>M.bd (M.qt (uh cond J')) λok=>
    if ok=true then M.bd (M.qt (ev elt J')) λy=>M.bd (dat y) λe=>if acc.length<sizeLine then M.ret (acc++[e]) else M.no else M.ret acc) (cn.2+1) 0 []) λxs=>newL fz xs
  else M.no
 |.J_ fz elt tg it Zo J5 fr many cond,J=>if aj=true then M.bd (oU it J) λcn=>
   M.bd (walk cn.1 (λd acc=>M.bd (M.opt (jC tg d (blk many fr J))) λJ'=>M.bd (M.qt (oU J5 J')) λZr=>
    walk Zr.1 (λd2 acc=>M.bd (M.opt (jC Zo d2 J')) λZu=>M.bd (M.qt (uh cond Zu)) λok=>
     if ok=true then M.bd (M.qt (ev elt Zu)) λy=>M.bd (dat y) λe=>if acc.length<sizeLine then M.ret (acc++[e]) else M.no else M.ret acc) (Zr.2+1) 0 acc) (cn.2+1) 0 []) λxs=>newL fz xs
  else M.no
 |.fld o cs i,J=>M.bd (ev o J) λx=>match x with
   |.d (.exc c fs)=>if cs.contains c=true then M.opt (fs[i]?.map .d) else M.no
   |_=>M.no
 |.mk c xs,J=>M.bd (evs xs J) λvs=>M.bd (dR vs) λds=>M.ret (.d (.ob c ds))
 |.Ka fz a b,J=>if aj=true then M.bd (ev a J) λx=>match x with
   |.d (.fl xs)=>M.bd (Ak (λd=>ev b [some (.d d)]) xs) λks=>M.bd (M.opt (q_ (ltK ks) xs)) λys=>newL fz ys
   |_=>M.no else M.no
 |.Dj a b,J=>M.bd (ev a J) λx=>M.bd (rd x) λd=>M.bd (M.opt (Dq d)) λk=>if k=true then M.ret x else ev b J
 |.ins o i a,J=>M.bd (ev o J) λx=>M.bd (cW x) λ_=>M.bd (ev i J) λz=>M.bd (int z) λj=>M.bd (ev a J) λy=>M.bd (dat y) λd=>M.bd (cW x) λnx=>if nx.2.length<sizeLine then M.bd (putL nx.1 (Kp nx.2 j d)) λ_=>M.ret (.d .non) else M.no
 |.no,_=>M.no
noncomputable def oU:Wk->Vs->M (Src×Nat)
 |.seq e,J=>M.bd (ev e J) src
 |.rg a b,J=>M.bd (ev a J) λx=>M.bd (ev b J) λy=>M.bd (int x) λi=>M.bd (int y) λj=>if gC i&&gC j then M.ret (.fix (jT i j),(jT i j).length) else M.no
 |.zip a b,J=>M.bd (ev a J) λx=>M.bd (ev b J) λy=>M.bd (qy x) λxs=>M.bd (qy y) λys=>M.ret (.fix (List.zipWith (λp q=>.tup [p,q]) xs ys),(List.zipWith (λ(p q:D)=>D.tup [p,q]) xs ys).length)
 |.enum a,J=>M.bd (ev a J) vA
 |.rrg a,J=>M.bd (ev a J) λx=>M.bd (int x) λi=>if gC i then M.ret (.fix (jT 0 i).reverse,(jT 0 i).length) else M.no
noncomputable def yN:Eo->Vs->M (Option Int)
 |.no,_=>M.ret none
 |.yes a,J=>M.bd (ev a J) λx=>M.bd (int x) λi=>M.ret (some i)
noncomputable def uh:Eo->Vs->M Bool
 |.no,_=>M.ret true
 |.yes a,J=>M.bd (ev a J) bool
noncomputable def evs:Es->Vs->M (List Xv)
 |.nil,_=>M.ret []
 |.cons a r,J=>M.bd (ev a J) λx=>M.bd (evs r J) λxs=>M.ret (x::xs)
end
end
inductive Out where
 |nx (J:Vs)|rt (x:Xv)|bk (J:Vs)|ct (J:Vs)|er (c:Nat) (fs:List D) (J:Vs)
noncomputable abbrev MS:=S->Option (Out×S)
noncomputable def ofM{α:Type}(m:M α)(J:Vs)(k:α->MS):MS:=λs=>match m s with
 |some (.ok a,s')=>k a s'
 |some (.er c fs,s')=>some (.er c fs J,s')
 |none=>none
noncomputable def cX(m:MS)(k:Vs->MS):MS:=λs=>match m s with
 |some (.nx J,s')=>k J s'
 |r=>r
section
variable (ao:Nat->Nat->Bool)
noncomputable def store(aj:Bool)(F:Fn)(t:Tg)(x:Xv)(J:Vs):MS:=match t with
 |.nm i=>λs=>some (.nx (J.set i (some x)),s)
 |.tp is=>if aj=true then ofM (M.bd (dat x) λd=>M.opt ((mC d).bind λds=>g_ is (ds.map .d) J)) J (λJ' s=>some (.nx J',s)) else λ_=>none
 |.ao o i=>ofM (M.bd (dat x) λd=>M.bd (ev ao aj F o J) λy=>M.bd (ev ao aj F i J) λz=>M.bd (int z) λj=>M.bd (cW y) λnx=>
   match L2.uf nx.2.length j with
   |some q=>putL nx.1 (nx.2.set q d)
   |none=>M.no) J (λ_ s=>some (.nx J,s))
noncomputable def h_(c:Vs->M Bool)(b:Vs->MS):Nat->Vs->MS
 |0,_=>λ_=>none
 |k+1,J=>ofM (c J) J λok=>if ok=true then λs=>match b J s with
   |some (.nx J',s')=>h_ c b k J' s'
   |some (.ct J',s')=>h_ c b k J' s'
   |some (.bk J',s')=>some (.nx J',s')
   |r=>r
  else λs=>some (.nx J,s)
noncomputable def eN(c:Src)(b:D->Vs->MS):Nat->Nat->Vs->MS
 |0,_,_=>λ_=>none
 |k+1,i,J=>λs=>match c.at i s with
  |none=>none
  |some none=>some (.nx J,s)
  |some (some d)=>match b d J s with
   |some (.nx J',s')=>eN c b k (i+1) J' s'
   |some (.ct J',s')=>eN c b k (i+1) J' s'
   |some (.bk J',s')=>some (.nx J',s')
   |r=>r
noncomputable def goes(i:Nat):Out->Out
 |.nx J=>.nx (J.set i none)
 |.bk J=>.bk (J.set i none)
 |.ct J=>.ct (J.set i none)
 |r=>r
noncomputable def oV:Nat:=1000000000000
mutual
noncomputable def ex(aj:Bool)(F:Bool->Fn):St->Vs->MS
 |.pass,J=>λs=>some (.nx J,s)
 |.ex e,J=>ofM (ev ao aj (F aj) e J) J λ_ s=>some (.nx J,s)
 |.asg t e,J=>ofM (ev ao aj (F aj) e J) J λx=>store ao aj (F aj) t x J
 |.par i j a b,J=>if aj=true then ofM (M.bd (ev ao aj (F aj) a J) λx=>M.bd (ev ao aj (F aj) b J) λy=>M.ret (x,y)) J λxy s=>some (.nx ((J.set i (some xy.1)).set j (some xy.2)),s) else λ_=>none
 |.aug i e,J=>ofM (M.bd (M.opt (J[i]?.join)) λx=>M.bd (ev ao aj (F aj) e J) λy=>M.bd (int x) λp=>M.bd (int y) λq=>M.ret (p+q)) J λr s=>some (.nx (J.set i (some (.d (.int r)))),s)
 |.ret e,J=>ofM (ev ao aj (F aj) e J) J λx s=>some (.rt x,s)
 |.rise c kp xs,J=>if aj=true then ofM (M.bd (evs ao aj (F aj) xs J) dR) J λds s=>some (.er c (if kp=true then ds else []) J,s) else λ_=>none
 |.iff c t e,J=>ofM (M.bd (ev ao aj (F aj) c J) bool) J λb=>if b=true then exs aj F t J else exs aj F e J
 |.wh c b,J=>h_ (λJ=>M.bd (ev ao aj (F aj) c J) bool) (λJ=>exs aj F b J) oV J
 |.fr t w b,J=>if aj=true then ofM (oU ao aj (F aj) w J) J λcn=>eN cn.1 (λd J=>cX (store ao aj (F aj) t (.d d) J) λJ'=>exs aj F b J') (cn.2+1) 0 J else λ_=>none
 |.sW b d i h,J=>if aj=true then λs=>match exs aj F b J s with
   |some (.er c fs J',s')=>if ao c d=true then (match exs false F h (J'.set i (some (.d (.exc c fs)))) s' with
    |some (r,s'')=>(match r with
     |.er _ _ _=>none
     |r=>some (goes i r,s''))
    |none=>none) else none
   |r=>r
  else λ_=>none
 |.no,_=>λ_=>none
noncomputable def exs(aj:Bool)(F:Bool->Fn):cL->Vs->MS
 |.nil,J=>λs=>some (.nx J,s)
 |.cons a r,J=>cX (ex aj F a J) λJ'=>exs aj F r J'
end
structure Df where
 many:Nat
 jq:Nat
 body:cL
noncomputable def call(T:Nat->Option Df):Nat->Bool->Fn
 |0,_,_,_=>M.no
 |k+1,aj,f,xs=>match T f with
  |none=>M.no
  |some d=>if xs.length=d.jq then λs=>match exs ao aj (λc=>call T k c) d.body (xs.map some++List.replicate (d.many-d.jq) none) s with
    |some (.nx _,s')=>some (.ok (.d .non),s')
    |some (.rt v,s')=>some (.ok v,s')
    |some (.er c fs _,s')=>some (.er c fs,s')
    |_=>none
   else M.no
end
end Mi
namespace Mi
open PySem L2
structure Ph where
 z:Addr->Prop
 l:List Addr
structure Cl where
 a:Nat->Addr
 f:Nat->List Str
section
variable (K:W.Frag)(cA:Cl)
def KT(a:Addr)(vs:List V):Prop:=gj K (λ_=>none) a vs
def KL(a:Addr)(vs:List V):Prop:=dI K (λ_=>none) a vs
def TupAt(U:Ph)(H:Hp)(a:Addr)(vs:List V):Prop:=(Rd H a (.tup vs)/\¬U.z a)\/KT K a vs
def LstAt(U:Ph)(H:Hp)(a:Addr)(vs:List V):Prop:=(Rd H a (.lst vs)/\¬U.z a)\/KL K a vs
def ExcAt(U:Ph)(H:Hp)(a:Addr)(c:Nat)(vs:List V):Prop:=¬U.z a/\((cA.f c=[]/\vs=[]/\H a=some (lg a (cA.a c) none))\/∃dx,H a=some (lg a (cA.a c) (some dx))/\¬U.z dx/\H dx=some (.xd ((cA.f c).zip vs))/\(cA.f c).length=vs.length)
def qz(U:Ph)(H:Hp)(a:Addr)(c:Nat)(vs:List V):Prop:=¬U.z a/\∃dx,H a=some (.ins (cA.a c) dx ((cA.f c).zip vs))/\(cA.f c).length=vs.length
mutual
inductive Rep (U:Ph) (H:Hp):D->V->Prop where
 |non:Rep U H .non .non
 |bl (b:Bool):Rep U H (.bl b) (.bl b)
 |int (i:Int):Rep U H (.int i) (.int i)
 |str (x:Str):Rep U H (.str x) (.str x)
 |tup {a:Addr} {xs:List D} {vs:List V} (h:TupAt K U H a vs) (r:aD U H xs vs):Rep U H (.tup xs) (.ref a)
 |fl {a:Addr} {xs:List D} {vs:List V} (h:LstAt K U H a vs) (r:aD U H xs vs):Rep U H (.fl xs) (.ref a)
 |fd {a:Addr} {k:Str} {i:Int} (h:H a=some (.dK [(.inr k,.int i)])) (n:¬U.z a):Rep U H (.fd [.str k] [.int i]) (.ref a)
 |exc {a:Addr} {c:Nat} {xs:List D} {vs:List V} (h:ExcAt cA U H a c vs) (r:aD U H xs vs):Rep U H (.exc c xs) (.ref a)
 |ob {a:Addr} {c:Nat} {xs:List D} {vs:List V} (h:qz cA U H a c vs) (r:aD U H xs vs):Rep U H (.ob c xs) (.ref a)
inductive aD (U:Ph) (H:Hp):List D->List V->Prop where
 |nil:aD U H [] []
 |cons {d:D} {v:V} {ds:List D} {vs:List V} (h:Rep U H d v) (r:aD U H ds vs):aD U H (d::ds) (v::vs)
end
inductive bJ (U:Ph) (H:Hp):Xv->V->Prop where
 |d {x:D} {v:V} (h:Rep K cA U H x v):bJ U H (.d x) v
 |l {n:Nat} {a:Addr} (h:U.l[n]?=some a):bJ U H (.l n) (.ref a)
inductive cg (U:Ph) (H:Hp):List Xv->List V->Prop where
 |nil:cg U H [] []
 |cons {d:Xv} {v:V} {ds:List Xv} {vs:List V} (h:bJ K cA U H d v) (r:cg U H ds vs):cg U H (d::ds) (v::vs)
noncomputable def oW(U:Ph)(H:Hp)(a:Addr):SO->Prop
 |.lst xs=>∃vs,H a=some (.lst vs)/\aD K cA U H xs vs
 |.dct _ _=>False
structure aH(U:Ph)(H:Hp)(s:S):Prop where
 len:U.l.length=s.length
 obj:∀(n:Nat) o a,s[n]?=some o->U.l[n]?=some a->oW K cA U H a o
 uniq:U.l.Nodup
 lz:∀a∈U.l,U.z a
 zt:∀a,U.z a->∃o,H a=some o
structure Ext(U:Ph)(H:Hp)(U':Ph)(H':Hp):Prop where
 more:∃r,U'.l=U.l++r/\∀b∈r,H b=none
 wV:∀a,U.z a->U'.z a
 oX:∀a,U'.z a->U.z a\/H a=none
 frame:∀a o,H a=some o->a∉U.l->H' a=some o
 stay:∀a o,H a=some o->∃o',H' a=some o'
def bD(U:Ph)(H:Hp)(Z:L2.St)(J:Vs):Prop:=Z.length=J.length/\∀(i:Nat) (x:Xv),J[i]?=some (some x)->∃v,Z[i]?=some (some v)/\bJ K cA U H x v
end
section
variable {K:W.Frag}{cA:Cl}{U U' Td:Ph}{H H' Te:Hp}{s:S}{Z:L2.St}{J:Vs}
theorem Ext.refl:Ext U H U H:=⟨⟨[],by simp,by simp⟩,λ_ h=>h,λ_ h=>.inl h,λ_ _ h _=>h,λ_ o h=>⟨o,h⟩⟩
theorem Ext.mD(x:Ext U H U' H'){a:Addr}(h:H' a=none):H a=none:=by
 cases e:H a with
 |none=>rfl
 |some o=>obtain⟨o',q⟩:=x.stay a o e;rw[h] at q;cases q
theorem Ext.trans(x:Ext U H U' H')(y:Ext U' H' Td Te):Ext U H Td Te:=by
 obtain⟨r,e,hr⟩:=x.more;obtain⟨r',e',sY⟩:=y.more;refine⟨⟨r++r',by rw[e',e,Fy],λb hb=>?_⟩,λa h=>y.wV a (x.wV a h),λa h=>?_,λa o h n=>y.frame a o (x.frame a o h n) ?_,λa o h=>?_⟩
 ·rcases fO.mp hb with z|z
  ·exact hr b z
  ·exact x.mD (sY b z)
 ·rcases y.oX a h with z|z
  ·exact x.oX a z
  ·exact .inr (x.mD z)
 ·rw[e];intro z;rcases fO.mp z with z|z
  ·exact n z
  ·rw[hr a z] at h;cases h
 ·obtain⟨o',q⟩:=x.stay a o h;exact y.stay a o' q
theorem Ext.get(x:Ext U H U' H'){n:Nat}{a:Addr}(h:U.l[n]?=some a):U'.l[n]?=some a:=by
 obtain⟨r,e,_⟩:=x.more;rw[e,qH (jy.mp h).1];exact h
theorem Ext.out(x:Ext U H U' H')(hz:∀a∈U.l,U.z a){a:Addr}{o:HO}(h:H a=some o)(n:¬U.z a):H' a=some o/\¬U'.z a:=
 ⟨x.frame a o h λz=>n (hz a z),λz=>by
  rcases x.oX a z with y|y
  ·exact n y
  ·rw[h] at y;cases y⟩
theorem TupAt.mono(x:Ext U H U' H')(hz:∀a∈U.l,U.z a){a:Addr}{vs:List V}(h:TupAt K U H a vs):TupAt K U' H' a vs:=by
 rcases h with ⟨h|⟨o,h⟩,n⟩|h
 ·obtain⟨p,q⟩:=x.out hz h n;exact .inl ⟨.inl p,q⟩
 ·obtain⟨p,q⟩:=x.out hz h n;exact .inl ⟨.inr ⟨o,p⟩,q⟩
 ·exact .inr h
theorem LstAt.mono(x:Ext U H U' H')(hz:∀a∈U.l,U.z a){a:Addr}{vs:List V}(h:LstAt K U H a vs):LstAt K U' H' a vs:=by
 rcases h with ⟨h|⟨o,h⟩,n⟩|h
 ·obtain⟨p,q⟩:=x.out hz h n;exact .inl ⟨.inl p,q⟩
 ·obtain⟨p,q⟩:=x.out hz h n;exact .inl ⟨.inr ⟨o,p⟩,q⟩
 ·exact .inr h
theorem ExcAt.mono(x:Ext U H U' H')(hz:∀a∈U.l,U.z a){a:Addr}{c:Nat}{vs:List V}(h:ExcAt cA U H a c vs):ExcAt cA U' H' a c vs:=by
 obtain⟨n,⟨e1,e2,h⟩|⟨dx,h,n2,h2,h3⟩⟩:=h
 ·obtain⟨p,q⟩:=x.out hz h n;exact⟨q,.inl ⟨e1,e2,p⟩⟩
 ·obtain⟨p,q⟩:=x.out hz h n;obtain⟨p2,q2⟩:=x.out hz h2 n2;exact⟨q,.inr ⟨dx,p,q2,p2,h3⟩⟩
theorem qz.mono(x:Ext U H U' H')(hz:∀a∈U.l,U.z a){a:Addr}{c:Nat}{vs:List V}(h:qz cA U H a c vs):qz cA U' H' a c vs:=by
 obtain⟨n,dx,h,h3⟩:=h;obtain⟨p,q⟩:=x.out hz h n;exact⟨q,dx,p,h3⟩
theorem Rep.mono(x:Ext U H U' H')(hz:∀a∈U.l,U.z a){d:D}{v:V}(h:Rep K cA U H d v):Rep K cA U' H' d v:=
 Rep.rec (motive_1:=λd v _=>Rep K cA U' H' d v) (motive_2:=λd v _=>aD K cA U' H' d v) .non .bl .int .str (λh _ i=>.tup (h.mono x hz) i) (λh _ i=>.fl (h.mono x hz) i) (λh n=>.fd (x.out hz h n).1 (x.out hz h n).2) (λh _ i=>.exc (h.mono x hz) i) (λh _ i=>.ob (h.mono x hz) i) .nil (λ_ _ i j=>.cons i j) h
theorem aD.mono(x:Ext U H U' H')(hz:∀a∈U.l,U.z a){d:List D}{v:List V}(h:aD K cA U H d v):aD K cA U' H' d v:=
 aD.rec (motive_1:=λd v _=>Rep K cA U' H' d v) (motive_2:=λd v _=>aD K cA U' H' d v) .non .bl .int .str (λh _ i=>.tup (h.mono x hz) i) (λh _ i=>.fl (h.mono x hz) i) (λh n=>.fd (x.out hz h n).1 (x.out hz h n).2) (λh _ i=>.exc (h.mono x hz) i) (λh _ i=>.ob (h.mono x hz) i) .nil (λ_ _ i j=>.cons i j) h
theorem bJ.mono(x:Ext U H U' H')(hz:∀a∈U.l,U.z a){d:Xv}{v:V}(h:bJ K cA U H d v):bJ K cA U' H' d v:=by
 cases h with
 |d h=>exact .d (h.mono x hz)
 |l h=>exact .l (x.get h)
theorem bD.mono(x:Ext U H U' H')(hz:∀a∈U.l,U.z a)(h:bD K cA U H Z J):bD K cA U' H' Z J:=⟨h.1,λi d e=>let ⟨v,a,b⟩:=h.2 i d e;⟨v,a,b.mono x hz⟩⟩
theorem aD.len:∀{ds:List D} {vs:List V},aD K cA U H ds vs->ds.length=vs.length
 |_,_,.nil=>rfl
 |_,_,.cons _ r=>by rw[iC,iC,aD.len r]
theorem cg.len:∀{ds:List Xv} {vs:List V},cg K cA U H ds vs->ds.length=vs.length
 |_,_,.nil=>rfl
 |_,_,.cons _ r=>by rw[iC,iC,cg.len r]
theorem aD.get:∀{ds:List D} {vs:List V} {i:Nat} {d:D},aD K cA U H ds vs->ds[i]?=some d->∃v,vs[i]?=some v/\Rep K cA U H d v
 |_,_,_,_,.nil,e=>by simp at e
 |_,_,0,_,.cons h _,e=>by simp at e;subst e;exact⟨_,rfl,h⟩
 |_,_,i+1,d,.cons _ r,e=>by
  obtain⟨v,a,b⟩:=aD.get (i:=i) (d:=d) r (by simpa using e);exact⟨v,by simpa using a,b⟩
theorem cg.get:∀{ds:List Xv} {vs:List V} {i:Nat} {d:Xv},cg K cA U H ds vs->ds[i]?=some d->∃v,vs[i]?=some v/\bJ K cA U H d v
 |_,_,_,_,.nil,e=>by simp at e
 |_,_,0,_,.cons h _,e=>by simp at e;subst e;exact⟨_,rfl,h⟩
 |_,_,i+1,d,.cons _ r,e=>by
  obtain⟨v,a,b⟩:=cg.get (i:=i) (d:=d) r (by simpa using e);exact⟨v,by simpa using a,b⟩
theorem aD.none:∀{ds:List D} {vs:List V} {i:Nat},aD K cA U H ds vs->ds[i]?=none->vs[i]?=none:=λ{ds vs i} r e=>by
 have:=r.len;have h2:ds.length<=i:=qI.mp e;exact qI.mpr (by lia)
theorem aD.app:∀{ds es:List D} {vs us:List V},aD K cA U H ds vs->aD K cA U H es us->aD K cA U H (ds++es) (vs++us)
 |_,_,_,_,.nil,s=>s
 |_,_,_,_,.cons h r,s=>.cons h (aD.app r s)
theorem aD.take:∀{ds:List D} {vs:List V} (n:Nat),aD K cA U H ds vs->aD K cA U H (ds.take n) (vs.take n)
 |_,_,0,_=>by simp;exact .nil
 |_,_,n+1,.nil=>by simp;exact .nil
 |_,_,n+1,.cons h r=>by simp only[List.take_succ_cons];exact .cons h (aD.take n r)
theorem aD.drop:∀{ds:List D} {vs:List V} (n:Nat),aD K cA U H ds vs->aD K cA U H (ds.drop n) (vs.drop n)
 |_,_,0,r=>r
 |_,_,n+1,.nil=>by simp;exact .nil
 |_,_,n+1,.cons _ r=>by simp only[List.drop_succ_cons];exact aD.drop n r
theorem aD.set{d:D}{v:V}(h:Rep K cA U H d v):∀{ds:List D} {vs:List V} (i:Nat),aD K cA U H ds vs->aD K cA U H (ds.set i d) (vs.set i v)
 |_,_,_,.nil=>.nil
 |_,_,0,.cons _ r=>.cons h r
 |_,_,i+1,.cons q r=>.cons q (aD.set h i r)
theorem aD.rev:∀{ds:List D} {vs:List V},aD K cA U H ds vs->aD K cA U H ds.reverse vs.reverse
 |_,_,.nil=>.nil
 |_,_,.cons h r=>by rw[Nj,Nj];exact(aD.rev r).app (.cons h .nil)
theorem aD.cut{ds:List D}{vs:List V}{l h:Option Int}(r:aD K cA U H ds vs):aD K cA U H (Mi.cut ds l h) (mW vs l h):=by
 unfold Mi.cut mW;rw[<-r.len];exact(r.drop _).take _
def bO(H H':Hp):Prop:=∀a o,H a=some o->H' a=some o
theorem bO.refl:bO H H:=λ_ _ h=>h
theorem bO.new{p:Addr}{o:HO}(hp:H p=none):bO H (upd H p o):=λa u h=>by rw[dW (Gd h hp)];exact h
theorem bO.ext(g:bO H H'):Ext U H U H':=⟨⟨[],by simp,by simp⟩,λ_ h=>h,λ_ h=>.inl h,λa o h _=>g a o h,λa o h=>⟨o,g a o h⟩⟩
theorem oW.grow{a:Addr}{o:SO}(g:bO H H')(hz:∀a∈U.l,U.z a)(h:oW K cA U H a o):oW K cA U H' a o:=by
 cases o with
 |lst xs=>obtain⟨vs,e,r⟩:=h;exact⟨vs,g _ _ e,r.mono g.ext hz⟩
 |dct _ _=>exact h
theorem aH.grow(g:bO H H')(h:aH K cA U H s):aH K cA U H' s:=
 ⟨h.len,λn o a e1 e2=>(h.obj n o a e1 e2).grow g h.lz,h.uniq,h.lz,λa z=>let ⟨o,e⟩:=h.zt a z;⟨o,g _ _ e⟩⟩
theorem aH.nz(h:aH K cA U H s){p:Addr}(hp:H p=none):¬U.z p:=λz=>by obtain⟨o,e⟩:=h.zt p z;rw[hp] at e;cases e
noncomputable def Ph.add(U:Ph)(p:Addr):Ph:=⟨λa=>U.z a\/a=p,U.l++[p]⟩
theorem Ext.add{p:Addr}{o:HO}(hp:H p=none):Ext U H (U.add p) (upd H p o):=
 ⟨⟨[p],rfl,by simpa using hp⟩,λ_ h=>.inl h,λa h=>h.imp id λe=>by rw[e];exact hp,λa u h _=>bO.new hp a u h,λa u h=>⟨u,bO.new hp a u h⟩⟩
theorem aH.add{p:Addr}{xs:List D}{vs:List V}(h:aH K cA U H s)(hp:H p=none)(r:aD K cA U H xs vs):aH K cA (U.add p) (upd H p (.lst vs)) (s++[.lst xs]):=by
 have pn:p∉U.l:=λz=>h.nz hp (h.lz p z);refine⟨by show (U.l++[p]).length=_;rw[cY,cY,h.len];rfl,λn o a e1 e2=>?_,?_,λa ha=>?_,λa ha=>?_⟩
 ·have e2:(U.l++[p])[n]?=some a:=e2;by_cases hn:n<s.length
  ·rw[qH hn] at e1;rw[qH (by rw[h.len];exact hn)] at e2;have:=h.obj n o a e1 e2;cases o with
   |lst ys=>obtain⟨us,q1,q2⟩:=this;exact⟨us,bO.new hp _ _ q1,q2.mono (Ext.add hp) h.lz⟩
   |dct _ _=>exact this
  ·have hl:n=s.length:=by
    have z:=(jy.mp e1).1;rw[cY] at z;simp at z
    lia
   subst hl;rw[pH (cH _)] at e1;rw[pH (by rw[h.len];exact cH _)] at e2;simp at e1;simp[h.len] at e2;subst e1 e2;exact⟨vs,lV,r.mono (Ext.add hp) h.lz⟩
 ·show (U.l++[p]).Nodup;rw[Hv];refine⟨h.uniq,by simp,λa ha b hb e=>?_⟩;simp at hb;subst hb e;exact pn ha
 ·have ha:a∈U.l++[p]:=ha;rcases fO.mp ha with z|z
  ·exact .inl (h.lz a z)
  ·simp at z;exact .inr z
 ·rcases ha with z|z
  ·obtain⟨o,e⟩:=h.zt a z;exact⟨o,bO.new hp _ _ e⟩
  ·subst z;exact⟨_,lV⟩
theorem Ext.write{n:Nat}{p:Addr}{o:HO}(hp:U.l[n]?=some p)(hv:∃u,H p=some u):Ext U H U (upd H p o):=by
 have hm:p∈U.l:=jd hp;refine⟨⟨[],by simp,by simp⟩,λ_ h=>h,λ_ h=>.inl h,λa u h n=>by
  have ne:a≠p:=λe=>n (by rw[e];exact hm);rw[dW ne];exact h,λa u h=>?_⟩
 by_cases e:a=p
 ·subst e;exact⟨o,lV⟩
 ·exact⟨u,by rw[dW e];exact h⟩
theorem aH.write{n:Nat}{p:Addr}{xs ys:List D}{us:List V}(h:aH K cA U H s)(hn:s[n]?=some (.lst xs))(hp:U.l[n]?=some p)(r:aD K cA U H ys us):aH K cA U (upd H p (.lst us)) (s.set n (.lst ys)):=by
 obtain⟨vs,hv,_⟩:=h.obj n _ p hn hp;have x:Ext U H U (upd H p (.lst us)):=Ext.write hp ⟨_,hv⟩;refine⟨by rw[pZ];exact h.len,λm o a e1 e2=>?_,h.uniq,h.lz,λa ha=>?_⟩
 ·by_cases hm:n=m
  ·subst hm;rw[zN (jy.mp hn).1] at e1;cases e1;rw[hp] at e2;cases e2;exact⟨us,lV,r.mono x h.lz⟩
  ·rw[tW hm] at e1;have ne:a≠p:=λy=>by
    subst y;exact hm ((QG (jy.mp hp).1 h.uniq).mp (hp.trans e2.symm))
   have:=h.obj m o a e1 e2;cases o with
   |lst ys=>obtain⟨us',q1,q2⟩:=this;exact⟨us',by rw[dW ne];exact q1,q2.mono x h.lz⟩
   |dct _ _=>exact this
 ·obtain⟨o,e⟩:=h.zt a ha;obtain⟨o',e'⟩:=x.stay a o e;exact⟨o',e'⟩
theorem bD.set{i:Nat}{d:Xv}{v:V}(hL:bD K cA U H Z J)(r:bJ K cA U H d v):bD K cA U H (Z.set i (some v)) (J.set i (some d)):=by
 refine⟨by rw[pZ,pZ];exact hL.1,λj e h=>?_⟩;by_cases lN:i=j
 ·subst lN;by_cases hl:i<J.length
  ·rw[zN hl] at h;cases h;exact⟨v,by rw[zN (by rw[hL.1];exact hl)],r⟩
  ·rw[M9 (by rw[pZ];lia)] at h;cases h
 ·rw[tW lN] at h;obtain⟨u,a,b⟩:=hL.2 j e h;exact⟨u,by rw[tW lN];exact a,b⟩
theorem bD.unset{i:Nat}(hL:bD K cA U H Z J):bD K cA U H (Z.set i none) (J.set i none):=by
 refine⟨by rw[pZ,pZ];exact hL.1,λj e h=>?_⟩;by_cases lN:i=j
 ·subst lN;by_cases hl:i<J.length
  ·rw[zN hl] at h;cases h
  ·rw[M9 (by rw[pZ];lia)] at h;cases h
 ·rw[tW lN] at h;obtain⟨u,a,b⟩:=hL.2 j e h;exact⟨u,by rw[tW lN];exact a,b⟩
theorem TupAt.jD{a:Addr}{vs:List V}(h:TupAt K U H a vs):gj K H a vs:=by
 rcases h with ⟨h,_⟩|(h|h)
 ·exact .inl h
 ·rcases h with h|⟨o,h⟩<;>cases h
 ·exact .inr h
theorem LstAt.wW{a:Addr}{vs:List V}(h:LstAt K U H a vs):dI K H a vs:=by
 rcases h with ⟨h,_⟩|(h|h)
 ·exact .inl h
 ·rcases h with h|⟨o,h⟩<;>cases h
 ·exact .inr h
theorem TupAt.new{p:Addr}{vs:List V}(hz:¬U.z p):TupAt K U (upd H p (.tup vs)) p vs:=.inl ⟨.inl lV,hz⟩
theorem LstAt.new{p:Addr}{vs:List V}(hz:¬U.z p):LstAt K U (upd H p (.lst vs)) p vs:=.inl ⟨.inl lV,hz⟩
end
end Mi
namespace Mi
open PySem PySem.Spec PyProof.Rows L2
theorem un{α β γ:Type}{A B C:α->β->γ->Prop}{R:Prop}(h:∃a b c,A a b c/\B a b c/\C a b c)(f:∀a b c,A a b c->B a b c->C a b c->R):R:=by
 obtain⟨a,b,c,x,y,z⟩:=h;exact f a b c x y z
section
variable (K:W.Frag)(cA:Cl)
def Run{α:Type}(m:M α)(U:Ph)(H:Hp)(s:S)(P:α->S->Ph->Hp->Prop)(Ee:Nat->List D->S->Ph->Hp->Prop):Prop:=
 match m s with
 |some (.ok a,s')=>∀U' H',Ext U H U' H'->aH K cA U' H' s'->P a s' U' H'
 |some (.er c f,s')=>∀U' H',Ext U H U' H'->aH K cA U' H' s'->Ee c f s' U' H'
 |none=>False
def lB(U:Ph)(H:Hp)(c:Nat)(fs:List D)(dx:Option Addr):Prop:=
 (cA.f c=[]/\fs=[]/\dx=none)\/∃d vs,dx=some d/\¬U.z d/\H d=some (.xd ((cA.f c).zip vs))/\(cA.f c).length=vs.length/\aD K cA U H fs vs
noncomputable def eX(EX:XS)(Z:L2.St):Nat->List D->S->Ph->Hp->Prop:=λc fs _ U' H'=>∀dx,lB K cA U' H' c fs dx->EX Z (.ref (cA.a c)) dx H'
noncomputable def tE(EX:XS)(m:Vs->M Xv):TE:=λZ H Q=>∃U J s,bD K cA U H Z J/\aH K cA U H s/\Run K cA (m J) U H s (λd _ U' H'=>∀v,bJ K cA U' H' d v->Q v H') (eX K cA EX Z)
noncomputable def Tf(EX:XS)(m:Vs->M (List Xv)):TA:=λZ H Q=>∃U J s,bD K cA U H Z J/\aH K cA U H s/\Run K cA (m J) U H s (λd _ U' H'=>∀v,cg K cA U' H' d v->Q v H') (eX K cA EX Z)
noncomputable def Al(EX:XS)(m:Vs->M Bool):TT:=λZ H Q=>∃U J s,bD K cA U H Z J/\aH K cA U H s/\Run K cA (m J) U H s (λd _ U' H'=>Q d H') (eX K cA EX Z)
def Rv(U:Ph)(H:Hp)(d:D)(v:V):Prop:=match d with
 |.fl xs=>∃a vs,v=.ref a/\dI K H a vs/\aD K cA U H xs vs
 |d=>Rep K cA U H d v
inductive yO (U:Ph) (H:Hp):List D->List V->Prop where
 |nil:yO U H [] []
 |cons {d:D} {v:V} {ds:List D} {vs:List V} (h:Rv K cA U H d v) (r:yO U H ds vs):yO U H (d::ds) (v::vs)
def bC(U:Ph)(H:Hp)(o:Option Rz)(Q:VK):Prop:=match o with
 |none=>False
 |some (.dat d)=>∀H' v,bO H H'->Rep K cA U H' d v->Q v H'
 |some (.nw xs)=>∀p vs,H p=none->aD K cA U H xs vs->Q (.ref p) (upd H p (.lst vs))
structure Zt(U:Ph)(H:Hp):Prop where
 lz:∀a∈U.l,U.z a
 zt:∀a,U.z a->∃o,H a=some o
def aQ(p:Pr)(r:List V->Hp->VK->Prop):Prop:=∀(U:Ph) (H:Hp) (ds:List D) (vs:List V) (Q:VK),Zt U H->yO K cA U H ds vs->bC K cA U H (prim p ds) Q->r vs H Q
end
section
variable {K:W.Frag}{cA:Cl}{U U':Ph}{H H':Hp}{s:S}{Z:L2.St}{J:Vs}{EX:XS}
theorem aH.zs(h:aH K cA U H s):Zt U H:=⟨h.lz,h.zt⟩
theorem Zt.nz(h:Zt U H)(hp:H p=none):¬U.z p:=λz=>by obtain⟨o,e⟩:=h.zt p z;rw[hp] at e;cases e
theorem Rep.rv{d:D}{v:V}(h:Rep K cA U H d v):Rv K cA U H d v:=by
 cases h with
 |fl h r=>exact⟨_,_,rfl,h.wW,r⟩
 |non=>exact .non
 |bl b=>exact .bl b
 |int b=>exact .int b
 |str b=>exact .str b
 |tup h r=>exact .tup h r
 |fd h n=>exact .fd h n
 |exc h r=>exact .exc h r
 |ob h r=>exact .ob h r
theorem Run.bd{α β:Type}{m:M α}{k:α->M β}{P:β->S->Ph->Hp->Prop}{Ee:Nat->List D->S->Ph->Hp->Prop}(h:Run K cA (M.bd m k) U H s P Ee):Run K cA m U H s (λa s1 U1 H1=>Ext U H U1 H1/\aH K cA U1 H1 s1/\Run K cA (k a) U1 H1 s1 P Ee) Ee:=by
 unfold Run M.bd at *;cases e:m s with
 |none=>rw[e] at h;exact h
 |some r=>
  obtain⟨r,s1⟩:=r;rw[e] at h;cases r with
  |er c f=>exact h
  |ok a=>
   intro U1 H1 x1 r1;refine⟨x1,r1,?_⟩;dsimp only at h ⊢;cases e2:k a s1 with
   |none=>rw[e2] at h;exact h
   |some q=>
    obtain⟨q,s2⟩:=q;rw[e2] at h;cases q with
    |ok b=>exact λU2 H2 x2 r2=>h U2 H2 (x1.trans x2) r2
    |er c f=>exact λU2 H2 x2 r2=>h U2 H2 (x1.trans x2) r2
theorem Run.imp{α:Type}{m:M α}{P P':α->S->Ph->Hp->Prop}{Ee:Nat->List D->S->Ph->Hp->Prop}(h:Run K cA m U H s P Ee)(f:∀a s' U' H',P a s' U' H'->P' a s' U' H'):Run K cA m U H s P' Ee:=by
 unfold Run at *;split at h
 ·exact λU' H' x r=>f _ _ _ _ (h U' H' x r)
 ·exact h
 ·exact h
theorem Run.bK{α:Type}{a:α}{P:α->S->Ph->Hp->Prop}{Ee:Nat->List D->S->Ph->Hp->Prop}(r:aH K cA U H s)(h:Run K cA (M.ret a) U H s P Ee):P a s U H:=h U H Ext.refl r
theorem Run.opt{α:Type}{o:Option α}{P:α->S->Ph->Hp->Prop}{Ee:Nat->List D->S->Ph->Hp->Prop}(r:aH K cA U H s)(h:Run K cA (M.opt o) U H s P Ee):∃a,o=some a/\P a s U H:=by
 cases o with
 |none=>exact h.elim
 |some a=>exact⟨a,rfl,h U H Ext.refl r⟩
theorem Ti(h:Run K cA (M.bd (M.opt o) k) U H s P Ee):∃a,o=some a/\Run K cA (k a) U H s P Ee:=by
 cases o with
 |none=>exact h.elim
 |some a=>exact⟨a,rfl,h⟩
theorem yP{β:Type}{x:Xv}{v:V}{k:Bool->M β}{P:β->S->Ph->Hp->Prop}{Ee:Nat->List D->S->Ph->Hp->Prop}(r:bJ K cA U H x v)(h:Run K cA (M.bd (bool x) k) U H s P Ee):∃b,x=.d (.bl b)/\v=.bl b/\Run K cA (k b) U H s P Ee:=by
 cases r with
 |l _=>exact h.elim
 |d r=>cases r with
  |bl b=>exact⟨b,rfl,rfl,h⟩
  |_=>exact h.elim
theorem Kq(r:bJ K cA U H x v)(h:Run K cA (M.bd (int x) k) U H s P Ee):∃b,x=.d (.int b)/\v=.int b/\Run K cA (k b) U H s P Ee:=by
 cases r with
 |l _=>exact h.elim
 |d r=>cases r with
  |int b=>exact⟨b,rfl,rfl,h⟩
  |_=>exact h.elim
theorem Tj(r:bJ K cA U H x v)(h:Run K cA (M.bd (dat x) k) U H s P Ee):∃d,x=.d d/\Rep K cA U H d v/\Run K cA (k d) U H s P Ee:=by
 cases r with
 |l _=>exact h.elim
 |d r=>exact⟨_,rfl,r,h⟩
theorem Oq:∀{xs:List Xv} {vs:List V} {k:List D->M β} {P:β->S->Ph->Hp->Prop} {Ee:Nat->List D->S->Ph->Hp->Prop},cg K cA U H xs vs->Run K cA (M.bd (dR xs) k) U H s P Ee->∃ds,xs=ds.map .d/\aD K cA U H ds vs/\Run K cA (k ds) U H s P Ee:=by
 intro xs
 induction xs with
 |nil=>intro vs k P Ee r h;cases r;exact⟨[],rfl,.nil,h⟩
 |cons x xs ih=>
  intro vs k P Ee r h;cases r with
  |cons a r=>
   cases a with
   |l _=>exact h.elim
   |@d y v a=>
    have h2:Run K cA (M.bd (dR xs) λds=>k (y::ds)) U H s P Ee:=by
     unfold Run M.bd dR dat at h;unfold Run M.bd;simp only[M.bd,M.ret] at h;cases e:dR xs s with
     |none=>simp only[e] at h
     |some q=>
      obtain⟨q,s1⟩:=q;simp only[e] at h;cases q with
      |ok ds=>exact h
      |er c f=>exact h
    obtain⟨ds,e,rs,h3⟩:=ih r h2;exact⟨y::ds,by rw[e];rfl,.cons a rs,h3⟩
theorem Kr(hS:aH K cA U H s)(r:bJ K cA U H x v)(h:Run K cA (M.bd (rd x) k) U H s P Ee):∃d,Rv K cA U H d v/\Run K cA (k d) U H s P Ee:=by
 cases r with
 |d r=>exact⟨_,r.rv,h⟩
 |@l n a hl=>
  unfold Run M.bd rd at h;dsimp only at h;cases e:s[n]? with
  |none=>rw[e] at h;exact h.elim
  |some o=>
   rw[e] at h;cases o with
   |lst xs=>
    obtain⟨vs,q1,q2⟩:=hS.obj n _ _ e hl;exact⟨.fl xs,⟨a,vs,rfl,dI.of q1,q2⟩,h⟩
   |dct _ _=>exact h.elim
theorem jU{α β γ:Type}(m:M α)(f:α->M β)(g:β->M γ):M.bd (M.bd m f) g=M.bd m λx=>M.bd (f x) g:=by
 funext s
 unfold M.bd;cases m s with
 |none=>rfl
 |some r=>
  obtain⟨r,s1⟩:=r;cases r<;>rfl
theorem oY{β:Type}:∀{xs:List Xv} {vs:List V} {k:List D->M β} {P:β->S->Ph->Hp->Prop} {Ee:Nat->List D->S->Ph->Hp->Prop},aH K cA U H s->cg K cA U H xs vs->Run K cA (M.bd (fQ xs) k) U H s P Ee->∃ds,yO K cA U H ds vs/\Run K cA (k ds) U H s P Ee:=by
 intro xs
 induction xs with
 |nil=>intro vs k P Ee hS r h;cases r;exact⟨[],.nil,h⟩
 |cons x xs ih=>
  intro vs k P Ee hS r h;cases r with
  |cons a r=>
   have h2:Run K cA (M.bd (rd x) λd=>M.bd (fQ xs) λds=>k (d::ds)) U H s P Ee:=by
    have e:M.bd (fQ (x::xs)) k=M.bd (rd x) λd=>M.bd (fQ xs) λds=>k (d::ds):=by
     show M.bd (M.bd (rd x) λd=>M.bd (fQ xs) λds=>M.ret (d::ds)) k=_;rw[jU]
     congr 1
     funext d
     rw[jU];rfl
    rw[e] at h;exact h
   obtain⟨d,rd,h3⟩:=Kr hS a h2;obtain⟨ds,rs,h4⟩:=ih hS r h3;exact⟨d::ds,.cons rd rs,h4⟩
theorem nq{fz:Bool}{o:Option Rz}{Q:VK}{Ee:Nat->List D->S->Ph->Hp->Prop}(hS:aH K cA U H s)(h:Run K cA (bT fz o) U H s (λx _ U' H'=>∀v,bJ K cA U' H' x v->Q v H') Ee):bC K cA U H o Q:=by
 cases o with
 |none=>exact h.elim
 |some z=>
  cases z with
  |dat d=>exact λH' v g r=>h U H' g.ext (hS.grow g) v (.d r)
  |nw xs=>
   intro p vs hp r;cases fz with
   |true=>exact h U _ (bO.new hp).ext (hS.grow (bO.new hp)) _ (.d (.fl (LstAt.new (hS.nz hp)) (r.mono (bO.new hp).ext hS.lz)))
   |false=>exact h (U.add p) _ (Ext.add hp) (hS.add hp r) _ (.l (by show (U.l++[p])[s.length]?=_;rw[<-hS.len];simp))
theorem zhO{fz:Bool}{xs:List D}{Q:VK}{Ee:Nat->List D->S->Ph->Hp->Prop}(hS:aH K cA U H s)(h:Run K cA (newL fz xs) U H s (λx _ U' H'=>∀v,bJ K cA U' H' x v->Q v H') Ee):∀p vs,H p=none->aD K cA U H xs vs->Q (.ref p) (upd H p (.lst vs)):=
 nq (o:=some (.nw xs)) hS h
theorem bf{β:Type}{ma:Vs->M Xv}{k:Xv->M β}{P:β->S->Ph->Hp->Prop}(hL:bD K cA U H Z J)(hS:aH K cA U H s)(h:Run K cA (M.bd (ma J) k) U H s P (eX K cA EX Z)){Q:VK}
  (f:∀x H1 U1 d s1,Ext U H U1 H1->bD K cA U1 H1 Z J->aH K cA U1 H1 s1->bJ K cA U1 H1 d x->Run K cA (k d) U1 H1 s1 P (eX K cA EX Z)->Q x H1):tE K cA EX ma Z H Q:=
 ⟨U,J,s,hL,hS,h.bd.imp λd s1 U1 H1 ⟨x1,r1,h1⟩ v rv=>f v H1 U1 d s1 x1 (hL.mono x1 hS.lz) r1 rv h1⟩
theorem sZ{β:Type}{ma:Vs->M (List Xv)}{k:List Xv->M β}{P:β->S->Ph->Hp->Prop}(hL:bD K cA U H Z J)(hS:aH K cA U H s)(h:Run K cA (M.bd (ma J) k) U H s P (eX K cA EX Z)){Q:List V->Hp->Prop}
  (f:∀x H1 U1 d s1,Ext U H U1 H1->bD K cA U1 H1 Z J->aH K cA U1 H1 s1->cg K cA U1 H1 d x->Run K cA (k d) U1 H1 s1 P (eX K cA EX Z)->Q x H1):Tf K cA EX ma Z H Q:=
 ⟨U,J,s,hL,hS,h.bd.imp λd s1 U1 H1 ⟨x1,r1,h1⟩ v rv=>f v H1 U1 d s1 x1 (hL.mono x1 hS.lz) r1 rv h1⟩
theorem Dr(hL:bD K cA U H Z J)(hS:aH K cA U H s)(h:Run K cA (M.bd (ma J) k) U H s P (eX K cA EX Z))
  (f:∀b H1 U1 s1,Ext U H U1 H1->bD K cA U1 H1 Z J->aH K cA U1 H1 s1->Run K cA (k b) U1 H1 s1 P (eX K cA EX Z)->Q b H1):Al K cA EX ma Z H Q:=
 ⟨U,J,s,hL,hS,h.bd.imp λd s1 U1 H1 ⟨x1,r1,h1⟩=>f d H1 U1 s1 x1 (hL.mono x1 hS.lz) r1 h1⟩
end
section
variable (X:Cx)(cA:Cl)(ao:Nat->Nat->Bool)(aj:Bool)(F:Fn)(EX:XS)
def SE(e:Expr)(m:E):Prop:=PE X e (tE X.K cA EX (ev ao aj F m))
def SA(es:List Expr)(m:Es):Prop:=PA X es (Tf X.K cA EX (evs ao aj F m))
def ST(e:Expr)(m:E):Prop:=PT X e (Al X.K cA EX (λJ=>M.bd (ev ao aj F m J) bool))
def SW(e:Expr)(m:E):Prop:=PW X e (Al X.K cA EX (λJ=>M.bd (ev ao aj F m J) bool))
end
section
variable {X:Cx}{cA:Cl}{ao:Nat->Nat->Bool}{aj:Bool}{F:Fn}{EX:XS}{a b c d e:Expr}{A B C Dd E':E}{pos:Pos}{es:List Expr}{Xs:Es}{fz:Bool}{p:Pr}
theorem PE.weak{t t':TE}(h:PE X e t)(f:∀Z H Q,t' Z H Q->t Z H Q):PE X e t':=λak s Z H Q I q=>h ak s Z H Q I (f Z H Q q)
theorem PT.weak{t t':TT}(h:PT X e t)(f:∀Z H Q,t' Z H Q->t Z H Q):PT X e t':=λak s Z H Q I q=>h ak s Z H Q I (f Z H Q q)
theorem PW.weak{t t':TT}(h:PW X e t)(f:∀Z H Q,t' Z H Q->t Z H Q):PW X e t':=λwh ak s Z H Q I q=>h wh ak s Z H Q I (f Z H Q q)
theorem PA.weak{t t':TA}(h:PA X es t)(f:∀Z H Q,t' Z H Q->t Z H Q):PA X es t':=λp ak s Z H Q I q=>h p ak s Z H Q I (f Z H Q q)
theorem zlj{i j p}:SE X cA ao aj F EX (.Constant (.int i) j p) (.c (.int i)):=PE.weak Q5 λZ H Q hh=>un hh λU J s hL hS h=>h.bK hS _ (.d (.int i))
theorem znQ{i j p}:SE X cA ao aj F EX (.Constant (.bool i) j p) (.c (.bl i)):=PE.weak znp λZ H Q hh=>un hh λU J s hL hS h=>h.bK hS _ (.d (.bl i))
theorem zmh{j p}:SE X cA ao aj F EX (.Constant .none j p) (.c .non):=PE.weak zlZ λZ H Q hh=>un hh λU J s hL hS h=>h.bK hS _ (.d .non)
theorem zmU{i j p}:SE X cA ao aj F EX (.Constant (.str i) j p) (.c (.str i)):=PE.weak X_ λZ H Q hh=>un hh λU J s hL hS h=>h.bK hS _ (.d (.str i))
theorem Tn{α:Type}{o:Option (Option α)}{x:α}(h:o.join=some x):o=some (some x):=by
 cases o with
 |none=>cases h
 |some y=>cases y with
  |none=>cases h
  |some z=>cases h;rfl
theorem Zv(i:Nat){x:Str}(hN:X.N[i]?=some x:=by rfl)(hv:QS X.env.scope x:=by first|exact Or.inl rfl|exact Or.inr (Or.inl rfl)|exact Or.inr (Or.inr rfl))(hd:(x==("__debug__" : Str))=false:=by decide)
  (mU:(x==("__classdict__" : Str))=false:=by decide):SE X cA ao aj F EX (.Name x pos) (.v i):=PE.weak (zlS hN hv hd mU) λZ H Q hh=>un hh λU J s hL hS h=>by
 obtain⟨dd,e1,q⟩:=Run.opt hS h;obtain⟨v,q1,q2⟩:=hL.2 i dd (Tn e1);exact⟨v,q1,q v q2⟩
theorem zkd{x:Str}{i:Int}{t:Tok}(hg:Gl X x)(hm:X.mg x=some (.int i t))(hd:(x==("__debug__" : Str))=false:=by decide):SE X cA ao aj F EX (.Name x pos) (.c (.int i)):=PE.weak (Yb (v:=.int i) hg hm ⟨t,rfl⟩ hd) λZ H Q hh=>un hh λU J s hL hS h=>h.bK hS _ (.d (.int i))
theorem zmZ:SA X cA ao aj F EX [] .nil:=PA.weak Cv λZ H Q hh=>un hh λU J s hL hS h=>h.bK hS _ .nil
theorem zjX(ha:SE X cA ao aj F EX a A)(hr:SA X cA ao aj F EX es Xs)(hs:starEach (a::es) X.env=(false,eval a X.env)::starEach es X.env:=by rfl):SA X cA ao aj F EX (a::es) (.cons A Xs):=PA.weak (uW ha hr hs) λZ H Q hh=>un hh λU J s hL hS h=>by
 refine bf hL hS h λx H1 U1 d1 s1 x1 hL1 aK r1 h1=>sZ hL1 aK h1 λys H2 U2 d2 s2 x2 hL2 aR r2 h2=>h2.bK aR _ (.cons (r1.mono x2 aK.lz) r2)
theorem Ks{U U1 U2:Ph}{H1 H2:Hp}{s1 s2:S}{d1 d2:Xv}{x y:V}{Q:VK}{Ee:Nat->List D->S->Ph->Hp->Prop}(x2:Ext U1 H1 U2 H2)(aK:aH X.K cA U1 H1 s1)(aR:aH X.K cA U2 H2 s2)(r1:bJ X.K cA U1 H1 d1 x)(r2:bJ X.K cA U2 H2 d2 y)
  (h:Run X.K cA (M.bd (fQ [d1,d2]) λds=>bT fz (prim p ds)) U2 H2 s2 (λx _ U' H'=>∀v,bJ X.K cA U' H' x v->Q v H') Ee) {r:List V->Hp->VK->Prop} (hp:aQ X.K cA p r):r [x,y] H2 Q:=by
 obtain⟨ds,rs,h2⟩:=oY aR (.cons (r1.mono x2 aK.lz) (.cons r2 .nil)) h;exact hp U2 H2 ds _ Q aR.zs rs (nq aR h2)
noncomputable def r2(r:R2):List V->Hp->VK->Prop:=λvs H Q=>∃x y,vs=[x,y]/\r x y H Q
theorem rm{r:R2}{x y:V}{H:Hp}{Q:VK}(h:r2 r [x,y] H Q):r x y H Q:=by
 obtain⟨_,_,e,q⟩:=h;cases e;exact q
theorem zlr{op:Operator}{r:R2}(ho:cZ X (binaryOp op) r)(hp:aQ X.K cA p (r2 r))(ha:SE X cA ao aj F EX a A)(hb:SE X cA ao aj F EX b B):SE X cA ao aj F EX (.BinOp a op b pos) (.pr fz p (.cons A (.cons B .nil))):=PE.weak (zng ho ha hb) λZ H Q hh=>un hh λU J s hL hS h=>by
 have h:Run X.K cA (M.bd (M.bd (ev ao aj F A J) λx=>M.bd (M.bd (ev ao aj F B J) λy=>M.bd (M.ret []) λz=>M.ret (y::z)) λys=>M.ret (x::ys)) λvs=>M.bd (fQ vs) λds=>bT fz (prim p ds)) U H s _ _:=h;simp only[jU] at h;refine bf hL hS h λx H1 U1 d1 s1 x1 hL1 aK r1 h1=>bf hL1 aK h1 λy H2 U2 d2 s2 x2 hL2 aR r2' h2=>?_;exact rm (Ks (fz:=fz) (U:=U) x2 aK aR r1 r2' h2 hp)
theorem zle{op:CmpOp}{r:R2}(ho:cZ X (compareOp op) r)(hp:aQ X.K cA p (r2 r))(ha:SE X cA ao aj F EX a A)(hb:SE X cA ao aj F EX b B)(hm:behindInMarks op b=false):SE X cA ao aj F EX (.Compare a [op] [b] pos) (.pr true p (.cons A (.cons B .nil))):=PE.weak (zkq ho ha hb hm) λZ H Q hh=>un hh λU J s hL hS h=>by
 have h:Run X.K cA (M.bd (M.bd (ev ao aj F A J) λx=>M.bd (M.bd (ev ao aj F B J) λy=>M.bd (M.ret []) λz=>M.ret (y::z)) λys=>M.ret (x::ys)) λvs=>M.bd (fQ vs) λds=>bT true (prim p ds)) U H s _ _:=h;simp only[jU] at h;refine bf hL hS h λx H1 U1 d1 s1 x1 hL1 aK r1 h1=>bf hL1 aK h1 λy H2 U2 d2 s2 x2 hL2 aR r2' h2=>?_;exact rm (Ks (fz:=true) (U:=U) x2 aK aR r1 r2' h2 hp)
theorem iT{A B:Prop}(h:A):if true=true then A else B:=by rw[if_pos rfl];exact h
theorem iF{A B:Prop}(h:B):if false=true then A else B:=by rw[if_neg Nf];exact h
theorem zlO{op:CmpOp}{r:R2}(ho:cZ X (compareOp op) r)(hp:aQ X.K cA p (r2 r))(ha:SE X cA ao aj F EX a A)(hb:SE X cA ao aj F EX b B)(hm:behindInMarks op b=false):ST X cA ao aj F EX (.Compare a [op] [b] pos) (.pr true p (.cons A (.cons B .nil))):=PT.weak (zj4 ho ha hb hm) λZ H Q hh=>un hh λU J s hL hS h=>by
 have h:Run X.K cA (M.bd (M.bd (M.bd (ev ao aj F A J) λx=>M.bd (M.bd (ev ao aj F B J) λy=>M.bd (M.ret []) λz=>M.ret (y::z)) λys=>M.ret (x::ys)) λvs=>M.bd (fQ vs) λds=>bT true (prim p ds)) bool) U H s _ _:=h;simp only[jU] at h;refine bf hL hS h λx H1 U1 d1 s1 x1 hL1 aK r1 h1=>bf hL1 aK h1 λy H2 U2 d2 s2 x2 hL2 aR r2' h2=>?_;obtain⟨ds,rs,h3⟩:=oY aR (.cons (r1.mono x2 aK.lz) (.cons r2' .nil)) h2;refine rm (hp U2 H2 ds _ _ aR.zs rs (nq (Ee:=eX X.K cA EX Z) aR (h3.bd.imp λt s3 U3 H3 ⟨x3,jr,h4⟩ v rv=>?_)));cases rv with
 |l _=>exact h4.elim
 |d rv=>cases rv with
  |bl k=>exact⟨k,rfl,h4 U3 H3 Ext.refl jr⟩
  |_=>exact h4.elim
theorem zm7{op op':CmpOp}{r r':R2}{q:Pr}(ho:cZ X (compareOp op) r)(hp:aQ X.K cA p (r2 r))(kW:cZ X (compareOp op') r')(hp':aQ X.K cA q (r2 r'))(ha:SE X cA ao aj F EX a A)(hb:SE X cA ao aj F EX b B)(hc:SE X cA ao aj F EX c C)(hm:lastMarks [op,op'] [b,c]=false:=by with_unfolding_all rfl) :
  SE X cA ao aj F EX (.Compare a [op,op'] [b,c] pos) (.sS p q A B C):=PE.weak (zib ho kW ha hb hc hm) λZ H Q hh=>un hh λU J s hL hS h=>by
 refine bf hL hS h λx H1 U1 d1 s1 x1 hL1 aK r1 h1=>bf hL1 aK h1 λy H2 U2 d2 s2 x2 hL2 aR r2' h2=>?_;obtain⟨ds,rs,h3⟩:=oY aR (.cons (r1.mono x2 aK.lz) (.cons r2' .nil)) h2;refine rm (hp U2 H2 ds _ _ aR.zs rs (nq (Ee:=eX X.K cA EX Z) aR (h3.bd.imp λt s3 U3 H3 ⟨x3,jr,h4⟩ v rv=>?_)));obtain⟨k,_,e,h5⟩:=yP rv h4;refine⟨k,e,?_⟩;cases k with
 |false=>exact iF (h5.bK jr _ (.d (.bl _)))
 |true=>
  have tu:=hL2.mono x3 aR.lz;refine iT (bf tu jr h5 λz H4 U4 d4 s4 x4 Ku jZ r4 h6=>?_);exact rm (Ks (fz:=true) (U:=U) x4 jr jZ (r2'.mono x3 aR.lz) r4 h6 hp')
theorem zl6{op op' gR:CmpOp}{r r' r'':R2}{q u:Pr}(h1:cZ X (compareOp op) r)(p1:aQ X.K cA p (r2 r))(h2:cZ X (compareOp op') r')(p2:aQ X.K cA q (r2 r'))(h3:cZ X (compareOp gR) r'')(p3:aQ X.K cA u (r2 r''))(ha:SE X cA ao aj F EX a A)(hb:SE X cA ao aj F EX b B)(hc:SE X cA ao aj F EX c C)(hd:SE X cA ao aj F EX d Dd)
  (hm:lastMarks [op,op',gR] [b,c,d]=false:=by with_unfolding_all rfl):SE X cA ao aj F EX (.Compare a [op,op',gR] [b,c,d] pos) (.vp p q u A B C Dd):=by
 have key:PE X (.Compare a [op,op',gR] [b,c,d] pos) (λZ H Q=>tE X.K cA EX (ev ao aj F A) Z H λx H1=>tE X.K cA EX (ev ao aj F B) Z H1 λy H2=>r x y H2 λz H3=>∃k,z=.bl k /\
   (if k=true then tE X.K cA EX (ev ao aj F C) Z H3 λw' H4=>r' y w' H4 λz2 H5=>∃k2,z2=.bl k2/\(if k2=true then tE X.K cA EX (ev ao aj F Dd) Z H5 λw2 H6=>r'' w' w2 H6 Q else Q (.bl false) H5) else Q (.bl false) H3)):=by
  intro ak s Z H Q I h;refine Compare_chain (aY (ha ak s Z H _ I h) λv s1 hx=>eF hx λx H1 I1 r1 q1=>chain_link (aY (hb ak s1 Z H1 _ I1 q1) λu s2 hx=>eF hx λy H2 I2 r2 q2=>
   aY (h1 ak s2 Z H2 x y v u _ I2 r1 r2 q2) λd s3 hx=>wM hx λz H3 I3 r3 k e q3=>?_)) hm
  subst e;cases r3;refine qK ?_;cases k with
  |false=>exact ite_ff ⟨.bl false,H3,I3,rfl,q3⟩
  |true=>
   refine ite_tt (chain_link (aY (hc ak s3 Z H3 _ I3 q3) λw' s4 hx=>eF hx λz' H4 I4 r4 q4=>aY (h2 ak s4 Z H4 y z' u w' _ I4 r2 r4 q4) λd' s5 hx=>wM hx λz2 H5 I5 r5 k2 e2 q5=>?_));subst e2;cases r5;refine qK ?_;cases k2 with
   |false=>exact ite_ff ⟨.bl false,H5,I5,rfl,q5⟩
   |true=>exact ite_tt (chain_last (aY (hd ak s5 Z H5 _ I5 q5) λw2 s6 hx=>eF hx λz3 H6 I6 r6 q6=>h3 ak s6 Z H6 z' z3 w' w2 Q I6 r4 r6 q6))
 refine PE.weak key λZ H Q hh=>un hh λU J s hL hS h=>?_;refine bf hL hS h λx H1 U1 d1 s1 x1 hL1 aK r1 h1=>bf hL1 aK h1 λy H2 U2 d2 s2 x2 hL2 aR r2' h2=>?_;obtain⟨ds,rs,h3⟩:=oY aR (.cons (r1.mono x2 aK.lz) (.cons r2' .nil)) h2;refine rm (p1 U2 H2 ds _ _ aR.zs rs (nq (Ee:=eX X.K cA EX Z) aR (h3.bd.imp λt s3 U3 H3 ⟨x3,jr,h4⟩ v rv=>?_)));obtain⟨k,_,e,h5⟩:=yP rv h4;refine⟨k,e,?_⟩;cases k with
 |false=>exact iF (h5.bK jr _ (.d (.bl _)))
 |true=>
  have tu:=hL2.mono x3 aR.lz;refine iT (bf tu jr h5 λz H4 U4 d4 s4 x4 Ku jZ r4 h6=>?_);obtain⟨ds,rs,h7⟩:=oY jZ (.cons ((r2'.mono x3 aR.lz).mono x4 jr.lz) (.cons r4 .nil)) h6;refine rm (p2 U4 H4 ds _ _ jZ.zs rs (nq (Ee:=eX X.K cA EX Z) jZ (h7.bd.imp λt s5 U5 H5 ⟨x5,vB,h8⟩ v rv=>?_)));obtain⟨k2,_,e,h9⟩:=yP rv h8;refine⟨k2,e,?_⟩;cases k2 with
  |false=>exact iF (h9.bK vB _ (.d (.bl _)))
  |true=>
   have Tq:=Ku.mono x5 jZ.lz;refine iT (bf Tq vB h9 λz H6 U6 d6 s6 x6 hL6 Kv r6 Tr=>?_);exact rm (Ks (fz:=true) (U:=U) x6 vB Kv (r4.mono x5 jZ.lz) r6 Tr p3)
theorem zm8(ha:SE X cA ao aj F EX a A):SE X cA ao aj F EX (.UnaryOp .Not a pos) (.not A):=PE.weak (zlb ha) λZ H Q hh=>un hh λU J s hL hS h=>by
 refine bf hL hS h λx H1 U1 d1 s1 x1 hL1 aK r1 h1=>?_;obtain⟨i,_,e,h3⟩:=yP r1 h1;exact⟨i,e,h3.bK aK _ (.d (.bl _))⟩
theorem zlH{op}(ha:SE X cA ao aj F EX a A):SE X cA ao aj F EX (.BoolOp op [a] pos) A:=zmH ha
theorem zls{rest:List Expr}(ha:SE X cA ao aj F EX a A)(hb:SE X cA ao aj F EX (.BoolOp .And (b::rest) pos) B):SE X cA ao aj F EX (.BoolOp .And (a::b::rest) pos) (.and A B):=PE.weak (zl3 ha hb) λZ H Q hh=>un hh λU J s hL hS h=>by
 refine bf hL hS h λx H1 U1 d1 s1 x1 hL1 aK r1 h1=>?_;obtain⟨i,_,e,h3⟩:=yP r1 h1;refine⟨i,e,?_⟩;cases i with
 |true=>exact iT ⟨U1,J,s1,hL1,aK,h3⟩
 |false=>exact iF (h3.bK aK _ (.d (.bl _)))
end
section
variable {X:Cx}{cA:Cl}{ao:Nat->Nat->Bool}{aj:Bool}{F:Fn}{EX:XS}{a b c d e o:Expr}{A B C Dd E' O:E}{pos pp p2 apos:Pos}{es:List Expr}{Xs:Es}{fz:Bool}{p:Pr}{x:Str}
theorem zmq(ha:SE X cA ao aj F EX a A)(he:∀whole,isTrue a X.env whole=(do let v <-whole;standAt a.pos;holding [v] (truthy v)):=by intro _;rfl):ST X cA ao aj F EX a A:=PT.weak (zlN ha he) λZ H Q hh=>un hh λU J s hL hS h=>by
 refine bf hL hS h λx H1 U1 d1 s1 x1 hL1 aK r1 h1=>?_;have h1:Run X.K cA (M.bd (bool d1) M.ret) U1 H1 s1 (λd _ U' H'=>Q d H') (eX X.K cA EX Z):=by
  cases d1 with
  |l n=>exact h1
  |d v=>cases v<;>exact h1
 obtain⟨k,_,e,q⟩:=yP r1 h1;exact⟨k,e,q.bK aK⟩
theorem zhC{m:M Xv}{g:Bool->Bool}:M.bd (M.bd m λx=>M.bd (bool x) λk=>M.ret (Xv.d (.bl (g k)))) bool=M.bd (M.bd m bool) λk=>M.ret (g k):=by
 rw[jU,jU]
 congr 1
 funext x
 rw[jU];rfl
theorem zlF(ha:ST X cA ao aj F EX a A):ST X cA ao aj F EX (.UnaryOp .Not a pos) (.not A):=PT.weak (zl5 ha) λZ H Q hh=>un hh λU J s hL hS h=>by
 have h:Run X.K cA (M.bd (M.bd (ev ao aj F A J) λx=>M.bd (bool x) λk=>M.ret (Xv.d (.bl (!k)))) bool) U H s _ _:=h;rw[zhC (g:=λk=>!k)] at h;exact Dr hL hS h λk H1 U1 s1 x1 hL1 aK h1=>h1.bK aK
theorem zjj(ha:ST X cA ao aj F EX a A):SW X cA ao aj F EX (.BoolOp .And [a] pos) A:=zkk ha
theorem zk9(ha:ST X cA ao aj F EX a A):SW X cA ao aj F EX (.BoolOp .Or [a] pos) A:=zmW ha
theorem Zw{m:M Xv}{k:Bool->M Xv}:M.bd (M.bd m λx=>M.bd (bool x) k) bool=M.bd (M.bd m bool) λb=>M.bd (k b) bool:=by
 rw[jU,jU]
 congr 1
 funext x
 rw[jU]
theorem zmu{rest:List Expr}(ha:ST X cA ao aj F EX a A)(hb:SW X cA ao aj F EX (.BoolOp .And (b::rest) pos) B):SW X cA ao aj F EX (.BoolOp .And (a::b::rest) pos) (.and A B):=PW.weak (zkX ha hb) λZ H Q hh=>un hh λU J s hL hS h=>by
 have h:Run X.K cA (M.bd (M.bd (ev ao aj F A J) λx=>M.bd (bool x) λk=>if k=true then ev ao aj F B J else M.ret (Xv.d (.bl false))) bool) U H s _ _:=h;rw[Zw] at h;refine Dr hL hS h λk H1 U1 s1 x1 hL1 aK h3=>?_;cases k with
 |true=>exact iT ⟨U1,J,s1,hL1,aK,h3⟩
 |false=>exact iF (Run.bK aK (a:=false) h3)
theorem znk{rest:List Expr}(ha:ST X cA ao aj F EX a A)(hb:SW X cA ao aj F EX (.BoolOp .Or (b::rest) pos) B):SW X cA ao aj F EX (.BoolOp .Or (a::b::rest) pos) (.or A B):=PW.weak (znB ha hb) λZ H Q hh=>un hh λU J s hL hS h=>by
 have h:Run X.K cA (M.bd (M.bd (ev ao aj F A J) λx=>M.bd (bool x) λk=>if k=true then M.ret (Xv.d (.bl true)) else ev ao aj F B J) bool) U H s _ _:=h;rw[Zw] at h;refine Dr hL hS h λk H1 U1 s1 x1 hL1 aK h3=>?_;cases k with
 |true=>exact iT (Run.bK aK (a:=true) h3)
 |false=>exact iF ⟨U1,J,s1,hL1,aK,h3⟩
theorem zoR(h:SW X cA ao aj F EX a A):ST X cA ao aj F EX a A:=Kac h
theorem Zx:∀(Xs:Es) (J:Vs) (s:S) (ds:List Xv) (s':S),evs ao aj F Xs J s=some (.ok ds,s')->ds.length=Es.len Xs
 |.nil,J,s,ds,s',h=>by cases h;rfl
 |.cons a r,J,s,ds,s',h=>by
  have h:M.bd (ev ao aj F a J) (λx=>M.bd (evs ao aj F r J) λxs=>M.ret (x::xs)) s=some (.ok ds,s'):=h;unfold M.bd at h;cases e1:ev ao aj F a J s with
  |none=>rw[e1] at h;cases h
  |some q=>
   obtain⟨q,s1⟩:=q;rw[e1] at h;cases q with
   |er c f=>cases h
   |ok d=>
    dsimp only at h;cases e2:evs ao aj F r J s1 with
    |none=>rw[e2] at h;cases h
    |some q=>
     obtain⟨q,s2⟩:=q;rw[e2] at h;cases q with
     |er c f=>cases h
     |ok ds'=>
      cases h;rw[iC,Zx r J s1 ds' _ e2];rfl
theorem yQ{β:Type}{K:W.Frag}{U:Ph}{H:Hp}{s:S}{Z:L2.St}{J:Vs}{k:List Xv->M β}{P:β->S->Ph->Hp->Prop}(hL:bD K cA U H Z J)(hS:aH K cA U H s)(h:Run K cA (M.bd (evs ao aj F Xs J) k) U H s P (eX K cA EX Z)){Q:List V->Hp->Prop}
  (f:∀x H1 U1 d s1,d.length=Es.len Xs->Ext U H U1 H1->bD K cA U1 H1 Z J->aH K cA U1 H1 s1->cg K cA U1 H1 d x->Run K cA (k d) U1 H1 s1 P (eX K cA EX Z)->Q x H1):Tf K cA EX (evs ao aj F Xs) Z H Q:=by
 refine⟨U,J,s,hL,hS,?_⟩;have h2:=h.bd;unfold Run at h2 ⊢;cases e:evs ao aj F Xs J s with
 |none=>rw[e] at h2;exact h2
 |some r=>
  obtain⟨r,s1⟩:=r;rw[e] at h2;cases r with
  |er c f=>exact h2
  |ok ds=>
   intro U1 H1 x1 r1 v rv;obtain⟨_,_,h3⟩:=h2 U1 H1 x1 r1;exact f v H1 U1 ds s1 (Zx Xs J s ds s1 e) x1 (hL.mono x1 hS.lz) r1 rv h3
theorem zmx{k}(ha:SA X cA ao aj F EX es Xs)(hz:Es.len Xs<=sizeLine):SE X cA ao aj F EX (.Tuple es k pos) (.tup Xs):=PE.weak (zmV ha) λZ H Q hh=>un hh λU J s hL hS h=>by
 refine yQ hL hS h λvs H1 U1 xs s1 hl x1 hL1 aK rv h1=>?_;obtain⟨ds,e,rs,h2⟩:=Oq rv h1;refine⟨by rw[<-rv.len,hl];exact hz,λp hp=>?_⟩;exact h2 U1 (upd H1 p (.tup vs)) (bO.new hp).ext (aK.grow (bO.new hp)) _ (.d (.tup (TupAt.new (aK.nz hp)) (rs.mono (bO.new hp).ext aK.lz)))
theorem zlJ(ha:SA X cA ao aj F EX es Xs)(hz:Es.len Xs<=sizeLine):SE X cA ao aj F EX (.List es pos) (.lst fz Xs):=PE.weak (zlg ha) λZ H Q hh=>un hh λU J s hL hS h=>by
 refine yQ hL hS h λvs H1 U1 xs s1 hl x1 hL1 aK rv h1=>?_;obtain⟨ds,e,rs,h2⟩:=Oq rv h1;exact⟨by rw[<-rv.len,hl];exact hz,λp hp=>zhO aK h2 p vs hp rs⟩
theorem Ds{id:String}{r:List V->Hp->VK->Prop}(hc:dB X (.builtin id) r)(hp:aQ X.K cA p r)
  (hg:Gl X x) (hm:X.mg x=none) (hv:bootBuiltins x=some (.builtin id)) (ha:SA X cA ao aj F EX (e::es) Xs) (hn:x≠"__name__":=by decide) (kZ:(x==("__debug__" : Str))=false:=by decide)
  (he:starEach (e::es) X.env=(false,eval e X.env)::starEach es X.env:=by rfl) (bM:(backTo pos (starEach es X.env)).any (·.1)=false:=by rfl):SE X cA ao aj F EX (.Call (.Name x pp) (e::es) [] pos) (.pr fz p Xs):=PE.weak (Yr hc hg hm hv ha hn kZ he bM) λZ H Q hh=>un hh λU J s hL hS h=>
 sZ hL hS h λvs H1 U1 ds s1 x1 hL1 aK r1 h1=>by
  obtain⟨ds,rs,h3⟩:=oY aK r1 h1;exact hp U1 H1 ds _ _ aK.zs rs (nq aK h3)
theorem Ot{id:String}{r:List V->Hp->VK->Prop}(hc:dB X (.type id) r)(hp:aQ X.K cA p r)
  (hg:Gl X x) (hm:X.mg x=none) (hv:bootBuiltins x=some (.type id)) (ha:SA X cA ao aj F EX (e::es) Xs) (hn:x≠"__name__":=by decide) (kZ:(x==("__debug__" : Str))=false:=by decide)
  (he:starEach (e::es) X.env=(false,eval e X.env)::starEach es X.env:=by rfl) (bM:(backTo pos (starEach es X.env)).any (·.1)=false:=by rfl):SE X cA ao aj F EX (.Call (.Name x pp) (e::es) [] pos) (.pr fz p Xs):=PE.weak (zfV hc hg hm hv ha hn kZ he bM) λZ H Q hh=>un hh λU J s hL hS h=>
 sZ hL hS h λvs H1 U1 ds s1 x1 hL1 aK r1 h1=>by
  obtain⟨ds,rs,h3⟩:=oY aK r1 h1;exact hp U1 H1 ds _ _ aK.zs rs (nq aK h3)
theorem znn(hp:aQ X.K cA p (r2 (RD X.K)))(ha:SE X cA ao aj F EX a A)(hb:SE X cA ao aj F EX b B)(hs:qU b:=by intro _ _;rfl):SE X cA ao aj F EX (.Subscript a b pos) (.pr true p (.cons A (.cons B .nil))):=PE.weak (znD zlM ha hb hs) λZ H Q hh=>un hh λU J s hL hS h=>by
 have h:Run X.K cA (M.bd (M.bd (ev ao aj F A J) λx=>M.bd (M.bd (ev ao aj F B J) λy=>M.bd (M.ret []) λz=>M.ret (y::z)) λys=>M.ret (x::ys)) λvs=>M.bd (fQ vs) λds=>bT true (prim p ds)) U H s _ _:=h;simp only[jU] at h;refine bf hL hS h λx H1 U1 d1 s1 x1 hL1 aK r1 h1=>bf hL1 aK h1 λy H2 U2 d2 s2 x2 hL2 aR r2' h2=>?_;exact rm (Ks (fz:=true) (U:=U) x2 aK aR r1 r2' h2 hp)
theorem zno(ho:N_ X (unaryOp op) r)(hp:aQ X.K cA p (λvs H Q=>∃x,vs=[x]/\r x H Q))(ha:SE X cA ao aj F EX a A):SE X cA ao aj F EX (.UnaryOp op a pos) (.pr true p (.cons A .nil)):=PE.weak (Yh ho ha) λZ H Q hh=>un hh λU J s hL hS h=>by
 have h:Run X.K cA (M.bd (M.bd (ev ao aj F A J) λx=>M.bd (M.ret []) λz=>M.ret (x::z)) λvs=>M.bd (fQ vs) λds=>bT true (prim p ds)) U H s _ _:=h;simp only[jU] at h;refine bf hL hS h λx H1 U1 d1 s1 x1 hL1 aK r1 h1=>?_;obtain⟨ds,rs,h3⟩:=oY aK (.cons r1 .nil) h1;obtain⟨_,e,q⟩:=hp U1 H1 ds _ _ aK.zs rs (nq aK h3);cases e;exact q
theorem zk8{j p'}(ha:SE X cA ao aj F EX a A):SE X cA ao aj F EX (.Compare a [.Is] [.Constant .none j p'] pos) (.pr true .J6 (.cons A .nil)):=PE.weak (zk2 (zme ha)) λZ H Q hh=>un hh λU J s hL hS h=>by
 have h:Run X.K cA (M.bd (M.bd (ev ao aj F A J) λx=>M.bd (M.ret []) λz=>M.ret (x::z)) λvs=>M.bd (fQ vs) λds=>bT true (prim .J6 ds)) U H s _ _:=h;simp only[jU] at h;refine bf hL hS h λx H1 U1 d1 s1 x1 hL1 aK r1 h1=>?_;obtain⟨ds,rs,h3⟩:=oY aK (.cons r1 .nil) h1;cases rs with
 |cons r rs=>cases rs with
  |nil=>
   rename_i d;have h4:=nq aK h3;have q:=h4 H1 _ bO.refl (.bl _);cases d<;>first
    |(obtain⟨_,_,rfl,_,_⟩:=r;exact q)
    |(cases (show Rep _ _ _ _ _ x from r)<;>exact q)
theorem Zy{K:W.Frag}{U:Ph}{H:Hp}{s:S}{x:Xv}{v:V}{Q:Bool->Hp->Prop}{Ee:Nat->List D->S->Ph->Hp->Prop}(hS:aH K cA U H s)(r:bJ K cA U H x v)(h:Run K cA (bool x) U H s (λd _ U' H'=>Q d H') Ee):∃k,v=.bl k/\Q k H:=by
 cases r with
 |l _=>exact h.elim
 |d rv=>cases rv with
  |bl k=>exact⟨k,rfl,h U H Ext.refl hS⟩
  |_=>exact h.elim
theorem Tt{b:Bool}{K:W.Frag}{U:Ph}{H:Hp}{s:S}{Q:Bool->Hp->Prop}{Ee:Nat->List D->S->Ph->Hp->Prop}(hS:aH K cA U H s)(h:Run K cA (M.bd (M.ret (Xv.d (.bl b))) bool) U H s (λd _ U' H'=>Q d H') Ee):Q b H:=h U H Ext.refl hS
theorem zlL{op op':CmpOp}{r r':R2}{q:Pr}(ho:cZ X (compareOp op) r)(hp:aQ X.K cA p (r2 r))(kW:cZ X (compareOp op') r')(hp':aQ X.K cA q (r2 r'))(ha:SE X cA ao aj F EX a A)(hb:SE X cA ao aj F EX b B)(hc:SE X cA ao aj F EX c C)(hm:lastMarks [op,op'] [b,c]=false:=by with_unfolding_all rfl) :
  ST X cA ao aj F EX (.Compare a [op,op'] [b,c] pos) (.sS p q A B C):=PT.weak (ziD ho kW ha hb hc hm) λZ H Q hh=>un hh λU J s hL hS h=>by
 have h:Run X.K cA (M.bd (M.bd (ev ao aj F A J) λx=>M.bd (ev ao aj F B J) λy=>M.bd (fQ [x,y]) λds=>M.bd (bT true (prim p ds)) λt=>M.bd (bool t) λk=>
   if k=true then M.bd (ev ao aj F C J) λz=>M.bd (fQ [y,z]) λds=>bT true (prim q ds) else M.ret (.d (.bl false))) bool) U H s _ _:=h
 simp only[jU] at h;refine bf hL hS h λx H1 U1 d1 s1 x1 hL1 aK r1 h1=>bf hL1 aK h1 λy H2 U2 d2 s2 x2 hL2 aR r2' h2=>?_;obtain⟨ds,rs,h3⟩:=oY aR (.cons (r1.mono x2 aK.lz) (.cons r2' .nil)) h2;refine rm (hp U2 H2 ds _ _ aR.zs rs (nq (Ee:=eX X.K cA EX Z) aR (h3.bd.imp λt s3 U3 H3 ⟨x3,jr,h4⟩ v rv=>?_)));obtain⟨k,_,e,h5⟩:=yP rv h4;refine⟨k,e,?_⟩;cases k with
 |false=>exact iF ⟨false,rfl,Tt jr h5⟩
 |true=>
  have tu:=hL2.mono x3 aR.lz;rw[if_pos rfl] at h5;simp only[jU] at h5;refine iT (bf tu jr h5 λz H4 U4 d4 s4 x4 Ku jZ r4 h6=>?_);obtain⟨ds,rs,h7⟩:=oY jZ (.cons ((r2'.mono x3 aR.lz).mono x4 jr.lz) (.cons r4 .nil)) h6;refine rm (hp' U4 H4 ds _ _ jZ.zs rs (nq (Ee:=eX X.K cA EX Z) jZ (h7.bd.imp λt s5 U5 H5 ⟨x5,vB,h8⟩ v rv=>?_)));exact Zy vB rv h8
theorem zgG{op op' gR:CmpOp}{r r' r'':R2}{ta tb tc td:TE}(h1:cZ X (compareOp op) r)(h2:cZ X (compareOp op') r')(h3:cZ X (compareOp gR) r'')(ha:PE X a ta)(hb:PE X b tb)(hc:PE X c tc)(hd:PE X d td)
  (hm:lastMarks [op,op',gR] [b,c,d]=false:=by with_unfolding_all rfl):PT X (.Compare a [op,op',gR] [b,c,d] pos) (λZ H Q=>ta Z H λx H1=>tb Z H1 λy H2=>r x y H2 λz H3=>∃k,z=.bl k /\
   (if k=true then tc Z H3 λw' H4=>r' y w' H4 λz2 H5=>∃k2,z2=.bl k2/\(if k2=true then td Z H5 λw2 H6=>r'' w' w2 H6 λz3 H7=>∃k3,z3=.bl k3/\Q k3 H7 else Q false H5) else Q false H3)):=by
 intro ak s Z H Q I h;refine isTrue_chain (aY (ha ak s Z H _ I h) λv s1 hx=>eF hx λx H1 I1 r1 q1=>test_link (aY (hb ak s1 Z H1 _ I1 q1) λu s2 hx=>eF hx λy H2 I2 r2 q2=>
  aY (h1 ak s2 Z H2 x y v u _ I2 r1 r2 q2) λd s3 hx=>wM hx λz H3 I3 r3 k e q3=>?_)) hm
 subst e;cases r3;refine qK ?_;cases k with
 |false=>exact ite_ff ⟨H3,I3,q3⟩
 |true=>
  refine ite_tt (test_link (aY (hc ak s3 Z H3 _ I3 q3) λw' s4 hx=>eF hx λz' H4 I4 r4 q4=>aY (h2 ak s4 Z H4 y z' u w' _ I4 r2 r4 q4) λd' s5 hx=>wM hx λz2 H5 I5 r5 k2 e2 q5=>?_));subst e2;cases r5;refine qK ?_;cases k2 with
  |false=>exact ite_ff ⟨H5,I5,q5⟩
  |true=>
   refine ite_tt (test_last (aY (hd ak s5 Z H5 _ I5 q5) λw2 s6 hx=>eF hx λz3 H6 I6 r6 q6=>aY (h3 ak s6 Z H6 z' z3 w' w2 _ I6 r4 r6 q6) λd'' s7 hx=>wM hx λz4 H7 I7 r7 k3 e3 q7=>?_));subst e3;cases r7;exact qK ⟨H7,I7,q7⟩
theorem zmK{op op' gR:CmpOp}{r r' r'':R2}{q u:Pr}(h1:cZ X (compareOp op) r)(p1:aQ X.K cA p (r2 r))(h2:cZ X (compareOp op') r')(p2:aQ X.K cA q (r2 r'))(h3:cZ X (compareOp gR) r'')(p3:aQ X.K cA u (r2 r''))(ha:SE X cA ao aj F EX a A)(hb:SE X cA ao aj F EX b B)(hc:SE X cA ao aj F EX c C)(hd:SE X cA ao aj F EX d Dd)
  (hm:lastMarks [op,op',gR] [b,c,d]=false:=by with_unfolding_all rfl):ST X cA ao aj F EX (.Compare a [op,op',gR] [b,c,d] pos) (.vp p q u A B C Dd):=PT.weak (zgG h1 h2 h3 ha hb hc hd hm) λZ H Q hh=>un hh λU J s hL hS h=>by
 have h:Run X.K cA (M.bd (M.bd (ev ao aj F A J) λx=>M.bd (ev ao aj F B J) λy=>M.bd (fQ [x,y]) λds=>M.bd (bT true (prim p ds)) λt=>M.bd (bool t) λk=>
   if k=true then M.bd (ev ao aj F C J) λz=>M.bd (fQ [y,z]) λds=>M.bd (bT true (prim q ds)) λt=>M.bd (bool t) λk2=>
    if k2=true then M.bd (ev ao aj F Dd J) λw=>M.bd (fQ [z,w]) λds=>bT true (prim u ds) else M.ret (.d (.bl false))
   else M.ret (.d (.bl false))) bool) U H s _ _:=h
 simp only[jU] at h;refine bf hL hS h λx H1 U1 d1 s1 x1 hL1 aK r1 h1=>bf hL1 aK h1 λy H2 U2 d2 s2 x2 hL2 aR r2' h2=>?_;obtain⟨ds,rs,h3⟩:=oY aR (.cons (r1.mono x2 aK.lz) (.cons r2' .nil)) h2;refine rm (p1 U2 H2 ds _ _ aR.zs rs (nq (Ee:=eX X.K cA EX Z) aR (h3.bd.imp λt s3 U3 H3 ⟨x3,jr,h4⟩ v rv=>?_)));obtain⟨k,_,e,h5⟩:=yP rv h4;refine⟨k,e,?_⟩;cases k with
 |false=>exact iF (Tt jr h5)
 |true=>
  have tu:=hL2.mono x3 aR.lz;rw[if_pos rfl] at h5;simp only[jU] at h5;refine iT (bf tu jr h5 λz H4 U4 d4 s4 x4 Ku jZ r4 h6=>?_);obtain⟨ds,rs,h7⟩:=oY jZ (.cons ((r2'.mono x3 aR.lz).mono x4 jr.lz) (.cons r4 .nil)) h6;refine rm (p2 U4 H4 ds _ _ jZ.zs rs (nq (Ee:=eX X.K cA EX Z) jZ (h7.bd.imp λt s5 U5 H5 ⟨x5,vB,h8⟩ v rv=>?_)));obtain⟨k2,_,e,h9⟩:=yP rv h8;refine⟨k2,e,?_⟩;cases k2 with
  |false=>exact iF (Tt vB h9)
  |true=>
   have Tq:=Ku.mono x5 jZ.lz;rw[if_pos rfl] at h9;simp only[jU] at h9;refine iT (bf Tq vB h9 λz H6 U6 d6 s6 x6 hL6 Kv r6 Tr=>?_);obtain⟨ds,rs,h11⟩:=oY Kv (.cons ((r4.mono x5 jZ.lz).mono x6 vB.lz) (.cons r6 .nil)) Tr;refine rm (p3 U6 H6 ds _ _ Kv.zs rs (nq (Ee:=eX X.K cA EX Z) Kv (h11.bd.imp λt s7 U7 H7 ⟨x7,hS7,h12⟩ v rv=>?_)));exact Zy hS7 rv h12
end
mutual
inductive Is (h:Heap):D->Value->Prop where
 |non:Is h .non .none
 |bl (b:Bool):Is h (.bl b) (.bool b)
 |int (i:Int) (t:Tok):Is h (.int i) (.int i t)
 |str (x:Str) (t:Tok):Is h (.str x) (.str x t)
 |tup {a:Addr} {xs:List D} {its:List Value} (p:h.IsTuple a its.toArray) (r:lY h xs its):Is h (.tup xs) (.ref a)
 |fl {a:Addr} {xs:List D} {its:List Value} (p:h.IsList a its.toArray) (r:lY h xs its):Is h (.fl xs) (.ref a)
 |oth {d:D} {u:Value} (k:kq d=none):Is h d u
inductive lY (h:Heap):List D->List Value->Prop where
 |nil:lY h [] []
 |cons {d:D} {u:Value} {ds:List D} {us:List Value} (a:Is h d u) (r:lY h ds us):lY h (d::ds) (u::us)
end
section
variable {X:Cx}{cA:Cl}{ak:List (Addr×Obj)}{Z:L2.St}{H:Hp}{s:Shared}{U:Ph}{h:Heap}
theorem Tv(I:Inv X ak Z H s){ds:List D}{vs:List V}{us:List Value}(h:aD X.K cA U H ds vs)(r:Vals vs us):lY s.heap ds us:=
 aD.rec (motive_1:=λd v _=>∀{u:Value},RelV v u->Is s.heap d u) (motive_2:=λd v _=>∀{u:List Value},Vals v u->lY s.heap d u) (λr=>by cases r;exact .non) (λb _ r=>by cases r;exact .bl b) (λi _ r=>by obtain⟨t,rfl⟩:=r;exact .int i t) (λi _ r=>by obtain⟨t,rfl⟩:=r;exact .str i t)
 (λh _ ih _ r=>by
  cases r;obtain⟨its,rv,ht,_⟩:=I.tuple h.jD;exact .tup ht (ih rv))
 (λh _ ih _ r=>by
  cases r;obtain⟨its,rv,ht,_⟩:=I.list h.wW;exact .fl ht.isList (ih rv))
 (λ_ _ _ _=>.oth rfl) (λ_ _ _ _ _=>.oth rfl) (λ_ _ _ _ _=>.oth rfl)
 (λr=>by cases r;exact .nil)
 (λ_ _ i j _ r=>by
  cases r with
  |cons a b=>exact .cons (i a) (j b)) h r
theorem Am(I:Inv X ak Z H s){d:D}{v:V}{u:Value}(h:Rep X.K cA U H d v)(r:RelV v u):Is s.heap d u:=by
 cases h with
 |non=>cases r;exact .non
 |bl b=>cases r;exact .bl b
 |int i=>obtain⟨t,rfl⟩:=r;exact .int i t
 |str i=>obtain⟨t,rfl⟩:=r;exact .str i t
 |tup h q=>
  cases r;obtain⟨its,rv,ht,_⟩:=I.tuple h.jD;exact .tup ht (Tv I q rv)
 |fl h q=>
  cases r;obtain⟨its,rv,ht,_⟩:=I.list h.wW;exact .fl ht.isList (Tv I q rv)
 |fd _ _=>exact .oth rfl
 |exc _ _=>exact .oth rfl
 |ob _ _=>exact .oth rfl
theorem Ao(I:Inv X ak Z H s){d:D}{v:V}{u:Value}(q:Rv X.K cA U H d v)(r:RelV v u):Is s.heap d u:=by
 cases d with
 |fl xs=>
  obtain⟨a,vs,rfl,sq,rs⟩:=q;cases r;obtain⟨its,rv,ht,_⟩:=I.list sq;exact .fl ht.isList (Tv I rs rv)
 |non=>exact Am I q r
 |bl b=>exact Am I q r
 |int b=>exact Am I q r
 |str b=>exact Am I q r
 |tup b=>exact Am I q r
 |fd b c=>exact Am I q r
 |exc b c=>exact Am I q r
 |ob b c=>exact Am I q r
theorem lY.len:∀{ds:List D} {us:List Value},lY h ds us->ds.length=us.length
 |_,_,.nil=>rfl
 |_,_,.cons _ r=>by rw[iC,iC,lY.len r]
theorem lY.get:∀{ds:List D} {us:List Value} {i:Nat} {d:D},lY h ds us->ds[i]?=some d->∃u,us[i]?=some u/\Is h d u
 |_,_,_,_,.nil,e=>by simp at e
 |_,_,0,_,.cons h _,e=>by simp at e;subst e;exact⟨_,rfl,h⟩
 |_,_,i+1,d,.cons _ r,e=>by
  obtain⟨v,a,b⟩:=lY.get (i:=i) (d:=d) r (by simpa using e);exact⟨v,by simpa using a,b⟩
theorem Zz{a:Addr}{is js:Array Value}(p:h.IsTuple a is)(q:h.IsTuple a js):is=js:=by
 obtain⟨o,e,c,n,d⟩:=p;obtain⟨o',e',c',n',d'⟩:=q;rw[e] at e';cases e';rw[d] at d';cases d';rfl
theorem ZC{a:Addr}{is js:Array Value}(p:h.IsList a is)(q:h.IsList a js):is=js:=by
 obtain⟨o,e,c,n,d⟩:=p;obtain⟨o',e',c',n',d'⟩:=q;rw[e] at e';cases e';rw[d] at d';cases d';rfl
theorem wX{a:Addr}{is js:Array Value}(p:h.IsList a is)(q:h.IsTuple a js):False:=by
 obtain⟨o,e,c,n,d⟩:=p;obtain⟨o',e',c',n',d'⟩:=q;rw[e] at e';cases e';rw[c] at c';exact absurd c' (by simp)
theorem Kw{eq:D->D->Option Bool}:∀{xs ys:List D} {b:Bool},fj eq xs ys=some b->∃e:Nat->Bool,(∀(j:Nat) x y,xs[j]?=some x->ys[j]?=some y->eq x y=some (e j))/\b=((List.range (min xs.length ys.length)).all e&&xs.length==ys.length)
 |[],[],b,h=>by cases h;exact⟨λ_=>true,λj x y q=>by simp at q,by simp⟩
 |[],y::ys,b,h=>by cases h;exact⟨λ_=>true,λj x y q=>by simp at q,by simp⟩
 |x::xs,[],b,h=>by cases h;exact⟨λ_=>true,λj x y q r=>by simp at r,by simp⟩
 |x::xs,y::ys,b,h=>by
  simp only[fj] at h;cases e1:eq x y with
  |none=>rw[e1] at h;cases h
  |some a=>
   cases e2:fj eq xs ys with
   |none=>rw[e1,e2] at h;cases h
   |some c=>
    rw[e1,e2] at h;cases h;obtain⟨e,h1,h2⟩:=Kw e2;refine⟨λj=>match j with|0=>a|j+1=>e j,λj p q r1 r2=>?_,?_⟩
    ·cases j with
     |zero=>
      simp at r1 r2;subst r1 r2;exact e1
     |succ j=>exact h1 j p q (by simpa using r1) (by simpa using r2)
    ·rw[h2];simp only[iC,Nat.succ_min_succ,Qq,lU,FT,Function.comp_def];rw[Bool.and_assoc]
     congr 2
     simp
theorem jE{n:Nat}{d e:D}(k:kq d=none):dD n d e=none:=by
 cases n<;>cases d<;>first|cases k;done|(cases e<;>rfl)
theorem iz{n:Nat}{d e:D}(k:kq e=none):dD n d e=none:=by
 cases n<;>cases e<;>first|cases k;done|(cases d<;>rfl)
theorem ZD:∀(n:Nat) {d1 d2:D} {u:Value} {b:Bool},Is h d1 u->Is h d2 u->dD n d1 d2=some b->b=true:=by
 intro n;have rows:∀(n:Nat),(∀{d1 d2:D} {u:Value} {b:Bool},Is h d1 u->Is h d2 u->dD n d1 d2=some b->b=true)->∀{xs ys:List D} {is js:List Value} {b:Bool},lY h xs is->lY h ys js->is.toArray=js.toArray->fj (dD n) xs ys=some b->b=true:=by
  intro n ih xs ys is js b q1 q2 e hd;have e:is=js:=by simpa using e
  subst e;obtain⟨e,a1,a2⟩:=Kw (eq:=dD n) hd;rw[a2];have hl:_=_:=q1.len.trans q2.len.symm;rw[cU];refine⟨fW.mpr λj hj=>?_,by rw[hl];simp⟩;have hj:=tZ.mp hj;obtain⟨x,hx⟩ : ∃x,_=some x:=⟨_,fL (g8 hj (Nat.min_le_left _ _))⟩;obtain⟨y,hy⟩ : ∃y,_=some y:=⟨_,fL (g8 hj (Nat.min_le_right _ _))⟩;obtain⟨v1,e1,p1⟩:=q1.get hx;obtain⟨v2,e2,p2⟩:=q2.get hy;rw[e1] at e2;cases e2;exact ih p1 p2 (a1 j x y hx hy)
 induction n with
 |zero=>
  intro d1 d2 u b r1 r2 hd;cases r1 with
  |oth k=>rw[jE k] at hd;cases hd
  |non=>cases r2 with
   |oth k=>rw[iz k] at hd;cases hd
   |non=>cases hd;rfl
  |bl x=>cases r2 with
   |oth k=>rw[iz k] at hd;cases hd
   |bl y=>cases hd;simp
  |int x t=>cases r2 with
   |oth k=>rw[iz k] at hd;cases hd
   |int y=>cases hd;simp
  |str x t=>cases r2 with
   |oth k=>rw[iz k] at hd;cases hd
   |str y=>cases hd;simp
  |tup p q=>cases r2 with
   |oth k=>rw[iz k] at hd;cases hd
   |tup p2 q2=>cases hd
   |fl p2 q2=>exact(wX p2 p).elim
  |fl p q=>cases r2 with
   |oth k=>rw[iz k] at hd;cases hd
   |fl p2 q2=>cases hd
   |tup p2 q2=>exact(wX p p2).elim
 |succ n ih=>
  intro d1 d2 u b r1 r2 hd;cases r1 with
  |oth k=>rw[jE k] at hd;cases hd
  |non=>cases r2 with
   |oth k=>rw[iz k] at hd;cases hd
   |non=>cases hd;rfl
  |bl x=>cases r2 with
   |oth k=>rw[iz k] at hd;cases hd
   |bl y=>cases hd;simp
  |int x t=>cases r2 with
   |oth k=>rw[iz k] at hd;cases hd
   |int y=>cases hd;simp
  |str x t=>cases r2 with
   |oth k=>rw[iz k] at hd;cases hd
   |str y=>cases hd;simp
  |tup p q=>cases r2 with
   |oth k=>rw[iz k] at hd;cases hd
   |tup p2 q2=>exact rows n ih q q2 (Zz p p2) hd
   |fl p2 q2=>exact(wX p2 p).elim
  |fl p q=>cases r2 with
   |oth k=>rw[iz k] at hd;cases hd
   |fl p2 q2=>exact rows n ih q q2 (ZC p p2) hd
   |tup p2 q2=>exact(wX p p2).elim
theorem parts{n:Nat}{A:Around}{xs ys:List D}{is js:List Value}{b:Bool}(r1:lY s.heap xs is)(r2:lY s.heap ys js)(hd:fj (dD n) xs ys=some b)
  (ih:∀{d1 d2:D} {u1 u2:Value} {b:Bool},Is s.heap d1 u1->Is s.heap d2 u2->dD n d1 d2=some b->SeqAt.EqAt A s u1 u2 b) :
  ∃e:Nat->Bool,(∀j (h1:j<is.toArray.size) (h2:j<js.toArray.size),SeqAt.EqAt A s is.toArray[j] js.toArray[j] (e j))/\b=((List.range (min is.toArray.size js.toArray.size)).all e&&is.toArray.size==js.toArray.size):=by
 obtain⟨e,a1,a2⟩:=Kw hd;have z1:=r1.len;have z2:=r2.len;refine⟨e,λj h1 h2=>?_,by simp only[dJ,<-z1,<-z2];exact a2⟩;simp only[dJ] at h1 h2;obtain⟨x,hx⟩ : ∃x,xs[j]?=some x:=⟨_,fL (by rw[z1];exact h1)⟩;obtain⟨y,hy⟩ : ∃y,ys[j]?=some y:=⟨_,fL (by rw[z2];exact h2)⟩;obtain⟨u,f1,g1⟩:=r1.get hx;obtain⟨u',f2,g2⟩:=r2.get hy;have k1:is.toArray[j]=u:=by
  have:=jy.mp f1;simpa using this.2
 have k2:js.toArray[j]=u':=by
  have:=jy.mp f2;simpa using this.2
 rw[k1,k2];exact ih g1 g2 (a1 j x y hx hy)
theorem ZF{A:Around}{l m:Addr}{is js:Array Value}{e:Nat->Bool}{b:Bool}(p1:s.heap.IsList l is)(p2:s.heap.IsList m js)(hu:A.units<cLine)(he:∀j (h1:j<is.size) (h2:j<js.size),SeqAt.EqAt A.in1 s is[j] js[j] (e j))(hb:b=((List.range (min is.size js.size)).all e&&is.size==js.size)):SeqAt.RcAt A s (.ref l) (.ref m) b:=by
 by_cases hz:is.size=js.size
 ·have:b=(List.range is.size).all e:=by rw[hb,hz];simp
  rw[this];exact SeqAt.RcAt.lists p1 p2 hz hu he
 ·have Tw:(is.size != js.size)=true:=by simpa using hz
  have:b=false:=by rw[hb];simp[hz]
  rw[this];exact SeqAt.RcAt.lists_lengths p1 p2 Tw hu
theorem zgy{A:Around}{l m:Addr}{is js:Array Value}{e:Nat->Bool}{b:Bool}(p1:s.heap.IsList l is)(p2:s.heap.IsList m js)(hu:A.units<cLine)(he:∀j (h1:j<is.size) (h2:j<js.size),SeqAt.EqAt A.in1 s is[j] js[j] (e j))(hb:b=((List.range (min is.size js.size)).all e&&is.size==js.size)):SeqAt.RcNeAt A s (.ref l) (.ref m) (!b):=by
 by_cases hz:is.size=js.size
 ·have:b=(List.range is.size).all e:=by rw[hb,hz];simp
  rw[this];exact SeqAt.RcNeAt.lists p1 p2 hz hu he
 ·have Tw:(is.size != js.size)=true:=by simpa using hz
  have:b=false:=by rw[hb];simp[hz]
  rw[this];exact SeqAt.RcNeAt.lists_lengths p1 p2 Tw hu
open SeqAt in
theorem Gq:∀(n:Nat) {A:Around} {d1 d2:D} {u1 u2:Value} {b:Bool},A.units+n<cLine->Is s.heap d1 u1->Is s.heap d2 u2->dD n d1 d2=some b->SeqAt.EqAt A s u1 u2 b:=by
 intro n
 induction n with
 |zero=>
  intro A d1 d2 u1 u2 b hu r1 r2 hd;have hu:A.units<cLine:=by lia
  cases r1 with
  |oth k=>rw[jE k] at hd;cases hd
  |non=>cases r2 with
   |oth k=>rw[iz k] at hd;cases hd
   |non=>cases hd;exact EqAt.same _
   |bl y=>cases hd;exact EqAt.none_bool _
   |int y t=>cases hd;exact EqAt.none_int _ _
   |str y t=>cases hd;exact EqAt.none_str _ _
   |tup p q=>cases hd;exact EqAt.none_tuple p hu
   |fl p q=>cases hd;exact EqAt.none_list p hu
  |bl x=>cases r2 with
   |oth k=>rw[iz k] at hd;cases hd
   |non=>cases hd;exact EqAt.bool_none _
   |bl y=>cases hd;exact EqAt.bool_bool _ _
   |int y t=>cases hd;exact EqAt.bool_int _ _ _
   |str y t=>cases hd;exact EqAt.bool_str _ _ _
   |tup p q=>cases hd;exact EqAt.bool_tuple _ p hu
   |fl p q=>cases hd;exact EqAt.bool_list _ p hu
  |int x t=>cases r2 with
   |oth k=>rw[iz k] at hd;cases hd
   |non=>cases hd;exact EqAt.int_none _ _
   |bl y=>cases hd;exact EqAt.int_bool _ _ _
   |int y t=>cases hd;exact EqAt.int_int _ _ _ _
   |str y t=>cases hd;exact EqAt.int_str _ _ _ _
   |tup p q=>cases hd;exact EqAt.int_tuple _ _ p hu
   |fl p q=>cases hd;exact EqAt.int_list _ _ p hu
  |str x t=>cases r2 with
   |oth k=>rw[iz k] at hd;cases hd
   |non=>cases hd;exact EqAt.str_none _ _
   |bl y=>cases hd;exact EqAt.str_bool _ _ _
   |int y t=>cases hd;exact EqAt.str_int _ _ _ _
   |str y t=>cases hd;exact EqAt.str_str _ _ _ _
   |tup p q=>cases hd;exact EqAt.str_tuple _ _ p hu
   |fl p q=>cases hd;exact EqAt.str_list _ _ p hu
  |tup p q=>cases r2 with
   |oth k=>rw[iz k] at hd;cases hd
   |non=>cases hd;exact EqAt.tuple_none p hu
   |bl y=>cases hd;exact EqAt.tuple_bool _ p hu
   |int y t=>cases hd;exact EqAt.tuple_int _ _ p hu
   |str y t=>cases hd;exact EqAt.tuple_str _ _ p hu
   |tup p2 q2=>cases hd
   |fl p2 q2=>cases hd;exact EqAt.tuple_list p p2 hu
  |fl p q=>cases r2 with
   |oth k=>rw[iz k] at hd;cases hd
   |non=>cases hd;exact EqAt.list_none p hu
   |bl y=>cases hd;exact EqAt.list_bool _ p hu
   |int y t=>cases hd;exact EqAt.list_int _ _ p hu
   |str y t=>cases hd;exact EqAt.list_str _ _ p hu
   |tup p2 q2=>cases hd;exact EqAt.list_tuple p p2 hu
   |fl p2 q2=>cases hd
 |succ n ih=>
  intro A d1 d2 u1 u2 b hu0 r1 r2 hd;have hu:A.units<cLine:=by lia
  have gM:A.in1.units+n<cLine:=by show A.units+1+n<cLine;lia
  cases r1 with
  |oth k=>rw[jE k] at hd;cases hd
  |non=>cases r2 with
   |oth k=>rw[iz k] at hd;cases hd
   |non=>cases hd;exact EqAt.same _
   |bl y=>cases hd;exact EqAt.none_bool _
   |int y t=>cases hd;exact EqAt.none_int _ _
   |str y t=>cases hd;exact EqAt.none_str _ _
   |tup p q=>cases hd;exact EqAt.none_tuple p hu
   |fl p q=>cases hd;exact EqAt.none_list p hu
  |bl x=>cases r2 with
   |oth k=>rw[iz k] at hd;cases hd
   |non=>cases hd;exact EqAt.bool_none _
   |bl y=>cases hd;exact EqAt.bool_bool _ _
   |int y t=>cases hd;exact EqAt.bool_int _ _ _
   |str y t=>cases hd;exact EqAt.bool_str _ _ _
   |tup p q=>cases hd;exact EqAt.bool_tuple _ p hu
   |fl p q=>cases hd;exact EqAt.bool_list _ p hu
  |int x t=>cases r2 with
   |oth k=>rw[iz k] at hd;cases hd
   |non=>cases hd;exact EqAt.int_none _ _
   |bl y=>cases hd;exact EqAt.int_bool _ _ _
   |int y t=>cases hd;exact EqAt.int_int _ _ _ _
   |str y t=>cases hd;exact EqAt.int_str _ _ _ _
   |tup p q=>cases hd;exact EqAt.int_tuple _ _ p hu
   |fl p q=>cases hd;exact EqAt.int_list _ _ p hu
  |str x t=>cases r2 with
   |oth k=>rw[iz k] at hd;cases hd
   |non=>cases hd;exact EqAt.str_none _ _
   |bl y=>cases hd;exact EqAt.str_bool _ _ _
   |int y t=>cases hd;exact EqAt.str_int _ _ _ _
   |str y t=>cases hd;exact EqAt.str_str _ _ _ _
   |tup p q=>cases hd;exact EqAt.str_tuple _ _ p hu
   |fl p q=>cases hd;exact EqAt.str_list _ _ p hu
  |@tup a1 xs is p q=>cases r2 with
   |oth k=>rw[iz k] at hd;cases hd
   |non=>cases hd;exact EqAt.tuple_none p hu
   |bl y=>cases hd;exact EqAt.tuple_bool _ p hu
   |int y t=>cases hd;exact EqAt.tuple_int _ _ p hu
   |str y t=>cases hd;exact EqAt.tuple_str _ _ p hu
   |@tup a2 ys js p2 q2=>
    by_cases ea:a1=a2
    ·subst ea;have:=ZD (n+1) (.tup p q) (.tup p2 q2) hd;subst this;exact EqAt.same _
    ·obtain⟨e,he,hb⟩:=parts (A:=A.in1) q q2 hd λa b c=>ih gM a b c;rw[hb];exact EqAt.of_refs ea (RcAt.tuples p p2 hu he)
   |fl p2 q2=>cases hd;exact EqAt.tuple_list p p2 hu
  |@fl a1 xs is p q=>cases r2 with
   |oth k=>rw[iz k] at hd;cases hd
   |non=>cases hd;exact EqAt.list_none p hu
   |bl y=>cases hd;exact EqAt.list_bool _ p hu
   |int y t=>cases hd;exact EqAt.list_int _ _ p hu
   |str y t=>cases hd;exact EqAt.list_str _ _ p hu
   |tup p2 q2=>cases hd;exact EqAt.list_tuple p p2 hu
   |@fl a2 ys js p2 q2=>
    by_cases ea:a1=a2
    ·subst ea;have:=ZD (n+1) (.fl p q) (.fl p2 q2) hd;subst this;exact EqAt.same _
    ·obtain⟨e,he,hb⟩:=parts (A:=A.in1) q q2 hd λa b c=>ih gM a b c;exact EqAt.of_refs ea (ZF p p2 hu he hb)
end
section
variable {X:Cx}{cA:Cl}{ak:List (Addr×Obj)}{Z:L2.St}{H:Hp}{s:Shared}{U:Ph}{h:Heap}
open SeqAt in
theorem ZG(hu0:A.units+(n+1)<cLine)(r1:Is s.heap d1 u1)(r2:Is s.heap d2 u2)(hd:dD (n+1) d1 d2=some b):RcAt A s u1 u2 b/\RcNeAt A s u1 u2 (!b):=by
 have hu:A.units<cLine:=by lia
 have gM:A.in1.units+n<cLine:=by show A.units+1+n<cLine;lia
 cases r1 with
 |oth k=>rw[jE k] at hd;cases hd
 |non=>cases r2 with
  |oth k=>rw[iz k] at hd;cases hd
  |non=>cases hd;exact⟨RcAt.none_none,RcNeAt.none_none⟩
  |bl y=>cases hd;exact⟨RcAt.none_bool _,RcNeAt.none_bool _⟩
  |int y t=>cases hd;exact⟨RcAt.none_int _ _,RcNeAt.none_int _ _⟩
  |str y t=>cases hd;exact⟨RcAt.none_str _ _,RcNeAt.none_str _ _⟩
  |tup p q=>cases hd;exact⟨RcAt.none_tuple p hu,RcNeAt.none_tuple p hu⟩
  |fl p q=>cases hd;exact⟨RcAt.none_list p hu,RcNeAt.none_list p hu⟩
 |bl x=>cases r2 with
  |oth k=>rw[iz k] at hd;cases hd
  |non=>cases hd;exact⟨RcAt.bool_none _,RcNeAt.bool_none _⟩
  |bl y=>cases hd;exact⟨RcAt.bool_bool _ _,RcNeAt.bool_bool _ _⟩
  |int y t=>cases hd;exact⟨RcAt.bool_int _ _ _,RcNeAt.bool_int _ _ _⟩
  |str y t=>cases hd;exact⟨RcAt.bool_str _ _ _,RcNeAt.bool_str _ _ _⟩
  |tup p q=>cases hd;exact⟨RcAt.bool_tuple _ p hu,RcNeAt.bool_tuple _ p hu⟩
  |fl p q=>cases hd;exact⟨RcAt.bool_list _ p hu,RcNeAt.bool_list _ p hu⟩
 |int x t=>cases r2 with
  |oth k=>rw[iz k] at hd;cases hd
  |non=>cases hd;exact⟨RcAt.int_none _ _,RcNeAt.int_none _ _⟩
  |bl y=>cases hd;exact⟨RcAt.int_bool _ _ _,RcNeAt.int_bool _ _ _⟩
  |int y t=>cases hd;exact⟨RcAt.int_int _ _ _ _,RcNeAt.int_int _ _ _ _⟩
  |str y t=>cases hd;exact⟨RcAt.int_str _ _ _ _,RcNeAt.int_str _ _ _ _⟩
  |tup p q=>cases hd;exact⟨RcAt.int_tuple _ _ p hu,RcNeAt.int_tuple _ _ p hu⟩
  |fl p q=>cases hd;exact⟨RcAt.int_list _ _ p hu,RcNeAt.int_list _ _ p hu⟩
 |str x t=>cases r2 with
  |oth k=>rw[iz k] at hd;cases hd
  |non=>cases hd;exact⟨RcAt.str_none _ _,RcNeAt.str_none _ _⟩
  |bl y=>cases hd;exact⟨RcAt.str_bool _ _ _,RcNeAt.str_bool _ _ _⟩
  |int y t=>cases hd;exact⟨RcAt.str_int _ _ _ _,RcNeAt.str_int _ _ _ _⟩
  |str y t=>cases hd;exact⟨RcAt.str_str _ _ _ _,RcNeAt.str_str _ _ _ _⟩
  |tup p q=>cases hd;exact⟨RcAt.str_tuple _ _ p hu,RcNeAt.str_tuple _ _ p hu⟩
  |fl p q=>cases hd;exact⟨RcAt.str_list _ _ p hu,RcNeAt.str_list _ _ p hu⟩
 |@tup a1 xs is p q=>cases r2 with
  |oth k=>rw[iz k] at hd;cases hd
  |non=>cases hd;exact⟨RcAt.tuple_none p hu,RcNeAt.tuple_none p hu⟩
  |bl y=>cases hd;exact⟨RcAt.tuple_bool _ p hu,RcNeAt.tuple_bool _ p hu⟩
  |int y t=>cases hd;exact⟨RcAt.tuple_int _ _ p hu,RcNeAt.tuple_int _ _ p hu⟩
  |str y t=>cases hd;exact⟨RcAt.tuple_str _ _ p hu,RcNeAt.tuple_str _ _ p hu⟩
  |@tup a2 ys js p2 q2=>
   obtain⟨e,he,hb⟩:=parts (A:=A.in1) q q2 hd λa b c=>Gq n gM a b c;rw[hb];exact⟨RcAt.tuples p p2 hu he,RcNeAt.tuples p p2 hu he⟩
  |fl p2 q2=>cases hd;exact⟨RcAt.tuple_list p p2 hu,RcNeAt.tuple_list p p2 hu⟩
 |@fl a1 xs is p q=>cases r2 with
  |oth k=>rw[iz k] at hd;cases hd
  |non=>cases hd;exact⟨RcAt.list_none p hu,RcNeAt.list_none p hu⟩
  |bl y=>cases hd;exact⟨RcAt.list_bool _ p hu,RcNeAt.list_bool _ p hu⟩
  |int y t=>cases hd;exact⟨RcAt.list_int _ _ p hu,RcNeAt.list_int _ _ p hu⟩
  |str y t=>cases hd;exact⟨RcAt.list_str _ _ p hu,RcNeAt.list_str _ _ p hu⟩
  |tup p2 q2=>cases hd;exact⟨RcAt.list_tuple p p2 hu,RcNeAt.list_tuple p p2 hu⟩
  |@fl a2 ys js p2 q2=>
   obtain⟨e,he,hb⟩:=parts (A:=A.in1) q q2 hd λa b c=>Gq n gM a b c;exact⟨ZF p p2 hu he hb,zgy p p2 hu he hb⟩
noncomputable def yR(K:W.Frag)(cA:Cl)(f:Bool->Bool):R2:=λx y H Q=>∃U d1 d2 b,Rv K cA U H d1 x/\Rv K cA U H d2 y/\dD 50 d1 d2=some b/\Q (.bl (f b)) H
theorem zl2(hu:X.A.units+60<cLine):cZ X (compareOp .Eq) (yR X.K cA id):=by
 intro ak s Z H x y v u Q I rx ry ⟨U,d1,d2,b,r1,r2,hd,q⟩;exact(ZG (n:=49) (by lia) (Ao I r1 rx) (Ao I r2 ry) hd).1 X.prog X.w X.xe _ ⟨.bl b,H,I,rfl,q⟩
theorem zmI(hu:X.A.units+60<cLine):cZ X (compareOp .NotEq) (yR X.K cA not):=by
 intro ak s Z H x y v u Q I rx ry ⟨U,d1,d2,b,r1,r2,hd,q⟩;exact(ZG (n:=49) (by lia) (Ao I r1 rx) (Ao I r2 ry) hd).2 X.prog X.w X.xe _ ⟨.bl (!b),H,I,rfl,q⟩
theorem zko:∀(n:Nat) {d d' x:D} {u:Value} {b b':Bool},Is h d u->Is h d' u->dD n d x=some b->dD n d' x=some b'->b=b':=by
 intro n;have flat:∀{d d' x:D} {u:Value} {b b':Bool},Is h d u->Is h d' u->(∀xs xs',d=.tup xs->d'=.tup xs'->False)->(∀xs xs',d=.fl xs->d'=.fl xs'->False)->dD n d x=some b->dD n d' x=some b'->b=b':=by
  intro d d' x u b b' r1 r2 n1 n2 h1 h2;cases r1 with
  |oth k=>rw[jE k] at h1;cases h1
  |non=>cases r2 with
   |oth k=>rw[jE k] at h2;cases h2
   |non=>rw[h1] at h2;exact dM h2
  |bl y=>cases r2 with
   |oth k=>rw[jE k] at h2;cases h2
   |bl=>rw[h1] at h2;exact dM h2
  |int y=>cases r2 with
   |oth k=>rw[jE k] at h2;cases h2
   |int=>rw[h1] at h2;exact dM h2
  |str y=>cases r2 with
   |oth k=>rw[jE k] at h2;cases h2
   |str=>rw[h1] at h2;exact dM h2
  |tup p q=>cases r2 with
   |oth k=>rw[jE k] at h2;cases h2
   |tup=>exact(n1 _ _ rfl rfl).elim
   |fl p2 q2=>exact(wX p2 p).elim
  |fl p q=>cases r2 with
   |oth k=>rw[jE k] at h2;cases h2
   |fl=>exact(n2 _ _ rfl rfl).elim
   |tup p2 q2=>exact(wX p p2).elim
 have tn:∀{n:Nat} {xs xs':List D} {x:D},(∀ys,x=.tup ys->False)->dD n (.tup xs) x=dD n (.tup xs') x:=λ{n xs xs' x} hx=>by
  cases n<;>cases x<;>first|rfl|exact(hx _ rfl).elim
 have ln:∀{n:Nat} {xs xs':List D} {x:D},(∀ys,x=.fl ys->False)->dD n (.fl xs) x=dD n (.fl xs') x:=λ{n xs xs' x} hx=>by
  cases n<;>cases x<;>first|rfl|exact(hx _ rfl).elim
 clear flat
 induction n with
 |zero=>
  intro d d' x u b b' r1 r2 h1 h2;cases r1 with
  |oth k=>rw[jE k] at h1;cases h1
  |non=>cases r2 with
   |oth k=>rw[jE k] at h2;cases h2
   |non=>rw[h1] at h2;exact dM h2
  |bl y=>cases r2 with
   |oth k=>rw[jE k] at h2;cases h2
   |bl=>rw[h1] at h2;exact dM h2
  |int y=>cases r2 with
   |oth k=>rw[jE k] at h2;cases h2
   |int=>rw[h1] at h2;exact dM h2
  |str y=>cases r2 with
   |oth k=>rw[jE k] at h2;cases h2
   |str=>rw[h1] at h2;exact dM h2
  |tup p q=>cases r2 with
   |oth k=>rw[jE k] at h2;cases h2
   |tup p2 q2=>
    cases x with
    |tup ys=>cases h1
    |_=>rw[tn (by intro ys z;cases z),h2] at h1;exact(dM h1).symm
   |fl p2 q2=>exact(wX p2 p).elim
  |fl p q=>cases r2 with
   |oth k=>rw[jE k] at h2;cases h2
   |fl p2 q2=>
    cases x with
    |fl ys=>cases h1
    |_=>rw[ln (by intro ys z;cases z),h2] at h1;exact(dM h1).symm
   |tup p2 q2=>exact(wX p p2).elim
 |succ n ih=>
  intro d d' x u b b' r1 r2 h1 h2;have rows:∀{xs xs' ys:List D} {is js:List Value} {b b':Bool},lY h xs is->lY h xs' js->is.toArray=js.toArray->fj (dD n) xs ys=some b->fj (dD n) xs' ys=some b'->b=b':=by
   intro xs xs' ys is js b b' q1 q2 e h1 h2;have e:is=js:=by simpa using e
   subst e;obtain⟨e1,a1,b1⟩:=Kw h1;obtain⟨e2,a2,b2⟩:=Kw h2;have hl:xs.length=xs'.length:=q1.len.trans q2.len.symm;rw[b1,b2,hl]
   congr 1
   rw[Bool.eq_iff_iff,fW,fW];have key:∀j∈List.range (min xs'.length ys.length),e1 j=e2 j:=λj hj=>by
    have hj:=tZ.mp hj;obtain⟨x1,ZJ⟩ : ∃x,xs[j]?=some x:=⟨_,fL (by rw[hl];exact g8 hj (Nat.min_le_left _ _))⟩;obtain⟨x2,CZ⟩ : ∃x,xs'[j]?=some x:=⟨_,fL (g8 hj (Nat.min_le_left _ _))⟩;obtain⟨y,hy⟩ : ∃y,ys[j]?=some y:=⟨_,fL (g8 hj (Nat.min_le_right _ _))⟩;obtain⟨v1,f1,p1⟩:=q1.get ZJ;obtain⟨v2,f2,p2⟩:=q2.get CZ;rw[f1] at f2;cases f2;exact ih p1 p2 (a1 j x1 y ZJ hy) (a2 j x2 y CZ hy)
   exact⟨λz j hj=>by rw[<-key j hj];exact z j hj,λz j hj=>by rw[key j hj];exact z j hj⟩
  cases r1 with
  |oth k=>rw[jE k] at h1;cases h1
  |non=>cases r2 with
   |oth k=>rw[jE k] at h2;cases h2
   |non=>rw[h1] at h2;exact dM h2
  |bl y=>cases r2 with
   |oth k=>rw[jE k] at h2;cases h2
   |bl=>rw[h1] at h2;exact dM h2
  |int y=>cases r2 with
   |oth k=>rw[jE k] at h2;cases h2
   |int=>rw[h1] at h2;exact dM h2
  |str y=>cases r2 with
   |oth k=>rw[jE k] at h2;cases h2
   |str=>rw[h1] at h2;exact dM h2
  |tup p q=>cases r2 with
   |oth k=>rw[jE k] at h2;cases h2
   |tup p2 q2=>
    cases x with
    |tup ys=>exact rows q q2 (Zz p p2) h1 h2
    |_=>rw[tn (by intro ys z;cases z),h2] at h1;exact(dM h1).symm
   |fl p2 q2=>exact(wX p2 p).elim
  |fl p q=>cases r2 with
   |oth k=>rw[jE k] at h2;cases h2
   |fl p2 q2=>
    cases x with
    |fl ys=>exact rows q q2 (ZC p p2) h1 h2
    |_=>rw[ln (by intro ys z;cases z),h2] at h1;exact(dM h1).symm
   |tup p2 q2=>exact(wX p p2).elim
theorem ZK:∀{xs:List D} {b:Bool},memD x xs=some b->∀d∈xs,∃k,dD 50 d x=some k
 |[],_,_,d,hd=>by cases hd
 |y::xs,b,h,d,hd=>by
  unfold memD at h;cases e1:dD 50 y x with
  |none=>simp only[e1] at h;cases h
  |some a=>
   cases e2:memD x xs with
   |none=>simp only[e1,e2] at h;cases h
   |some c=>
    rcases dh.mp hd with rfl|hd
    ·exact⟨a,e1⟩
    ·exact ZK e2 d hd
theorem Ou:∀{xs:List D} {us:List Value} {b:Bool},memD x xs=some b->lY h xs us->∃e:Value->Bool,(∀u∈us,∃d,Is h d u/\dD 50 d x=some (e u))/\us.any e=b:=by
 intro xs us b hm r;have ex:∀u∈us,∃d k,Is h d u/\dD 50 d x=some k:=by
  intro u hu;obtain⟨i,hi,e⟩:=Fq hu;have hl:=r.len;obtain⟨d,hd⟩ : ∃d,xs[i]?=some d:=⟨_,fL (by lia)⟩;obtain⟨u',e1,q⟩:=r.get hd;rw[fL hi,e] at e1;cases e1;obtain⟨k,hk⟩:=ZK hm d (jd hd);exact⟨d,k,q,hk⟩
 refine⟨λu=>by classical exact if z:∃k,∃d,Is h d u/\dD 50 d x=some k then z.choose else false,λu hu=>?_,?_⟩
 ·obtain⟨d,k,q,hk⟩:=ex u hu;have z:∃k,∃d,Is h d u/\dD 50 d x=some k:=⟨k,d,q,hk⟩;dsimp only;rw[dif_pos z];exact z.choose_spec
 ·clear ex;have key:∀(xs:List D) (us:List Value) (b:Bool),memD x xs=some b->lY h xs us->us.any (λu=>by classical exact if z:∃k,∃d,Is h d u/\dD 50 d x=some k then z.choose else false)=b:=by
   intro xs
   induction xs with
   |nil=>intro us b hm r;cases r;cases hm;rfl
   |cons d ds ih=>
    intro us b hm r;cases r with
    |@cons _ u _ us a r=>
     unfold memD at hm;cases e1:dD 50 d x with
     |none=>simp only[e1] at hm;cases hm
     |some k=>
      cases e2:memD x ds with
      |none=>simp only[e1,e2] at hm;cases hm
      |some c=>
       simp only[e1,e2] at hm;cases hm;rw[List.any_cons];have z:∃k,∃d,Is h d u/\dD 50 d x=some k:=⟨k,d,a,e1⟩;have hk:z.choose=k:=by
        obtain⟨d',q,Ih⟩:=z.choose_spec;exact zko 50 q a Ih e1
       rw[dif_pos z,hk,ih us c e2 r]
  exact key xs us b hm r
noncomputable def yS(K:W.Frag)(cA:Cl)(f:Bool->Bool):R2:=λx y H Q=>∃U d1 d2 xs b,Rv K cA U H d1 x/\Rv K cA U H d2 y/\oO d2=some xs/\memD d1 xs=some b/\Q (.bl (f b)) H
theorem zk6(hu:X.A.units+60<cLine):cZ X (compareOp .In) (yS X.K cA id):=by
 intro ak s Z H x y v u Q I rx ry ⟨U,d1,d2,xs,b,r1,r2,hq,hm,q⟩;have gM:X.A.in1.units+50<cLine:=by show X.A.units+1+50<cLine;lia
 have i1:=Ao I r1 rx;cases Ao I r2 ry with
 |tup p r=>
  cases hq;obtain⟨e,he,hb⟩:=Ou hm r;refine SeqAt.in_tupleAt e p (λw hw=>?_) ⟨.bl b,H,I,by rw[<-hb];simp[L2.RelV],q⟩;obtain⟨d,q1,q2⟩:=he w (by simpa using hw);exact Gq 50 gM q1 i1 q2
 |fl p r=>
  cases hq;obtain⟨e,he,hb⟩:=Ou hm r;refine SeqAt.in_listAt e p (λw hw=>?_) ⟨.bl b,H,I,by rw[<-hb];simp[L2.RelV],q⟩;obtain⟨d,q1,q2⟩:=he w (by simpa using hw);exact Gq 50 gM q1 i1 q2
 |oth k=>cases d2<;>cases hq<;>cases k
 |_=>cases hq
theorem zju(hu:X.A.units+60<cLine):cZ X (compareOp .NotIn) (yS X.K cA not):=by
 intro ak s Z H x y v u Q I rx ry ⟨U,d1,d2,xs,b,r1,r2,hq,hm,q⟩;have gM:X.A.in1.units+50<cLine:=by show X.A.units+1+50<cLine;lia
 have i1:=Ao I r1 rx;cases Ao I r2 ry with
 |tup p r=>
  cases hq;obtain⟨e,he,hb⟩:=Ou hm r;refine SeqAt.notIn_tupleAt e p (λw hw=>?_) ⟨.bl (!b),H,I,by rw[<-hb];simp[L2.RelV],q⟩;obtain⟨d,q1,q2⟩:=he w (by simpa using hw);exact Gq 50 gM q1 i1 q2
 |fl p r=>
  cases hq;obtain⟨e,he,hb⟩:=Ou hm r;refine SeqAt.notIn_listAt e p (λw hw=>?_) ⟨.bl (!b),H,I,by rw[<-hb];simp[L2.RelV],q⟩;obtain⟨d,q1,q2⟩:=he w (by simpa using hw);exact Gq 50 gM q1 i1 q2
 |oth k=>cases d2<;>cases hq<;>cases k
 |_=>cases hq
end
end Mi
namespace HT
open PySem PyProof.Rows
section
variable {prog:Program}{w:World}{A:Around}{E:Value->Shared->Prop}{s:Shared}
theorem vC{t b:Addr}{vs ws:List Value}{Q:Value->Shared->Prop}(ht:IsTup s.heap t vs.toArray)(hb:IsTup s.heap b ws.toArray)(hv:vs=[])
  (h1:Q (.ref b) s):wpAny (model prog w) A (binaryOp .Add (.ref t) (.ref b)) Q E s:=by
 obtain⟨⟨cls,dd,data,sl⟩,ho,hc,n,hd⟩:=id ht;obtain⟨⟨cls2,dd2,data2,sl2⟩,oE,ud,n2,hd2⟩:=id hb;simp only at hc hd ud hd2;subst hc hd ud hd2;exact concat_meets ⟨_,ho,rfl⟩ ⟨_,oE,rfl⟩ noFill_tuple_add seq_tuple_add Qp Qn (Qm _ _)
   (tuple_addW0 t b vs.toArray ws.toArray n n2 dd dd2 sl sl2 (by simp[hv])) ⟨ho,oE,h1⟩
theorem gU{t sl:Addr}{items:Array Value}{vl vu:Value}{lo hi:Option Int}{Q:Value->Shared->Prop}(ht:IsTup s.heap t items)(hs:s.heap.IsSliceOf sl vl vu .none)(pl:IsPart vl lo)(pu:IsPart vu hi)
  (hw:bY items.size 0 lo=0/\bY items.size items.size hi=items.size) (h:Q (.ref t) s):wpAny (model prog w) A (getItem (.ref t) (.ref sl)) Q E s:=by
 obtain⟨os,sJ,Cy,wO⟩:=id hs;have Jc:s.TypeIs (.ref sl) "slice":=⟨os,sJ,Cy⟩;unfold getItem
 try with_reducible refine lJ ?_
 first|refine aA (aL ?_)|skip
 refine aA (wpAny_sequenceKey ht.typeIs (by decide) ?_);refine aA (zL (name:=Str.ofString "__getitem__") ht.typeIs xO
  (tX xO ht.typeIs entry_tuple_getitem ?_ (args_tuple_getitem _ _)))
 show wpAny _ _ (Builtin.Tuple.tupleItemsOf (.ref t) >>= _) _ _ s;refine aA (tupleItemsOf_ ht ?_);refine aA (zT Jc ?_);rw[if_pos (by decide)];refine aA (Yt hs pl pu ?_);have Tz:(((bY items.size 0 lo:Nat):Int)==0&&(1:Int)==1&&(bY items.size items.size hi-bY items.size 0 lo)==items.size)=true:=by
  rw[hw.1,hw.2];simp
 show wpAny _ _ (if (((bY items.size 0 lo:Nat):Int)==0&&(1:Int)==1&&(bY items.size items.size hi-bY items.size 0 lo)==items.size)=true then _ else _) _ _ s;rw[if_pos Tz];refine aA ?_;unfold Builtin.Tuple.tupleIsExact;refine aA (zT ht.typeIs ?_);refine aL ?_;rw[if_pos (by decide)];refine aA (Ga ?_);exact aL ⟨_,rfl,aL h⟩
theorem zcs{i:Int}{t:Tok}{Q:Option Int->Shared->Prop}(h:Q (some i) s):wpAny (model prog w) A (Builtin.Slice.slicePartIndex (.int i t)) Q E s:=Rw (.int i t) h
theorem zbQ{sl:Addr}{t:Tok}{n:Nat}{Q:Int×Int×Nat->Shared->Prop}(hs:s.heap.IsSliceOf sl .none .none (.int (-1) t))
  (h:Q ((n:Int)-1,-1,n) s):wpAny (model prog w) A (Builtin.Slice.sliceApplied (.ref sl) (pure (n:Int))) Q E s:=by
 obtain⟨os,sJ,Cy,wO⟩:=id hs;unfold Builtin.Slice.sliceApplied Builtin.Slice.sliceFields;refine aA (aA (lM sJ wO (x:=.none) rfl (aA (lM sJ wO (x:=.none) rfl (aA (lM sJ wO (x:=.int (-1) t) rfl (aL ?_)))))));refine aA (zcs ?_);show wpAny _ _ (if ((-1:Int)==0)=true then _ else _) _ _ s;rw[if_neg (by decide)];refine aA (slicePart_none (aA (slicePart_none (aA (aL ?_)))));show wpAny _ _ (pure ((n:Int)-1,(-1:Int),Builtin.Slice.slicePlaces ((n:Int)-1) (-1) (-1))) _ _ s;have e:Builtin.Slice.slicePlaces ((n:Int)-1) (-1) (-1)=n:=by
  unfold Builtin.Slice.slicePlaces;rw[if_neg (by decide)];by_cases hn:n=0
  ·subst hn;rfl
  ·rw[if_pos (by lia)];have:(-(-1:Int))=1:=rfl;rw[this,Int.ediv_one]
   lia
 rw[e];exact aL h
theorem zhH(xs:Array Value):((List.range xs.size).filterMap λ(m:Nat)=>xs[(((xs.size:Int)-1)+(m:Int) * -1).toNat]?).toArray=xs.toList.reverse.toArray:=by
 have e:∀n,n<=xs.size->(List.range n).filterMap (λ(m:Nat)=>xs[(((xs.size:Int)-1)+(m:Int) * -1).toNat]?)=(xs.toList.reverse).take n:=by
  intro n
  induction n with
  |zero=>intro _;simp
  |succ n ih=>
   intro hn;have hlt:n<xs.toList.reverse.length:=by simp;lia
   rw[List.range_succ,List.filterMap_append,ih (by lia),List.take_succ_eq_append_getElem hlt]
   congr 1
   have:(((xs.size:Int)-1)+(n:Int) * -1).toNat=xs.size-1-n:=by lia
   simp only[xP,List.filterMap_nil,this];rw[Hf (by lia)];simp[List.getElem_reverse]
 rw[e xs.size (cH _),List.take_of_length_le (by simp)]
theorem iR(ht:IsTup s.heap t items)(hs:s.heap.IsSliceOf sl .none .none (.int (-1) tk))
  (h:Q (.ref s.heap.objs.size) {s with heap:=s.heap.push {cls:=.type "tuple",data:=.seq items.toList.reverse.toArray}})
  (jP:items.size<=sizeLine):wpAny (model prog w) A (getItem (.ref t) (.ref sl)) Q E s:=by
 have iK:sizeOk (.seq items.toList.reverse.toArray):=by
  show items.toList.reverse.toArray.size<=sizeLine;simpa using jP
 obtain⟨os,sJ,Cy,wO⟩:=id hs;have Jc:s.TypeIs (.ref sl) "slice":=⟨os,sJ,Cy⟩;unfold getItem
 try with_reducible refine lJ ?_
 first|refine aA (aL ?_)|skip
 refine aA (wpAny_sequenceKey ht.typeIs (by decide) ?_);refine aA (zL (name:=Str.ofString "__getitem__") ht.typeIs xO
  (tX xO ht.typeIs entry_tuple_getitem ?_ (args_tuple_getitem _ _)))
 show wpAny _ _ (Builtin.Tuple.tupleItemsOf (.ref t) >>= _) _ _ s;refine aA (tupleItemsOf_ ht ?_);refine aA (zT Jc ?_);rw[if_pos (by decide)];refine aA (zbQ hs ?_);show wpAny _ _ (if (((items.size:Int)-1)==0&&(-1:Int)==1&&items.size==items.size)=true then _ else _) _ _ s;rw[if_neg (by simp),zhH]
 first
  |exact aA (m:=Builtin.Tuple.tupleExact _) (pI (aL ⟨_,rfl,aL h⟩) iK)
  |exact aA (m:=Builtin.Tuple.tupleExact _) (pI (aA (aL (aL ⟨_,rfl,aL h⟩))) iK)
  |exact aA (aA (m:=Builtin.Tuple.tupleExact _) (pI (aL (aL ⟨_,rfl,aL h⟩)) iK))
  |exact aA (aA (m:=Builtin.Tuple.tupleExact _) (pI (aL ⟨_,rfl,aL h⟩) iK))
end
end HT
namespace L2
open PySem PySem.Spec PyProof.Rows
section
variable {X:Cx}{e:Expr}{te:TE}{pos p2:Pos}
noncomputable def vD(K:W.Frag):R2:=λx y H Q=>∃a b xs ys,x=.ref a/\y=.ref b/\gj K H a xs/\gj K H b ys/\xs.length+ys.length<=sizeLine /\
 (xs=[]->Q (.ref b) H)/\(ys=[]->Q (.ref a) H)/\∀p,H p=none->Q (.ref p) (upd H p (.tup (xs++ys)))
theorem vG:cZ X (binaryOp .Add) (vD X.K):=by
 intro ak s Z H x y v u Q I rx ry h;obtain⟨a,b,xs,ys,rfl,rfl,ha,hb,hz,q0,q1,q2⟩:=h;cases rx;cases ry;obtain⟨its,r1,p1,_⟩:=I.tuple ha;obtain⟨its2,r2,p2,_⟩:=I.tuple hb;by_cases hx:xs=[]
 ·exact HT.vC p1 p2 (r1.mX.mpr hx) ⟨.ref b,H,I,rfl,q0 hx⟩
 ·refine HT.yu p1 p2 (λz=>hx (r1.mX.mp z)) (λz=>⟨.ref a,H,I,rfl,q1 (r2.mX.mp z)⟩) (λz=>?_) (by rw[<-r1.length,<-r2.length];exact hz);refine⟨.ref s.heap.objs.size,_,I.laid (t':=s.toks) (o:=.tup (xs++ys)) (λb ob q=>cG _ q) (cH _) ?_,rfl,q2 _ (I.hok.fresh (cH _))⟩;exact⟨by rw[cY];exact hz,_,r1.append r2,IsTup.new _ _⟩
noncomputable def Aq(K:W.Frag):V->Option Int->Option Int->Hp->VK->Prop:=λx lo hi H Q=>∃a xs,x=.ref a/\gj K H a xs /\
 ((HT.bY xs.length 0 lo=0/\HT.bY xs.length xs.length hi=xs.length)->Q (.ref a) H)/\∀p,H p=none->Q (.ref p) (upd H p (.tup (mW xs lo hi)))
theorem zjV:yx X (Aq X.K):=by
 intro ak s Z H x v vl vu lo hi sl Q I rx hs pl pu h;obtain⟨a,xs,rfl,hx,hw,q⟩:=h;by_cases hz:HT.bY xs.length 0 lo=0/\HT.bY xs.length xs.length hi=xs.length
 ·cases rx;obtain⟨its,r,ht,_⟩:=I.tuple hx;have hlen:its.toArray.size=xs.length:=by rw[dJ];exact r.length.symm
  refine⟨"tuple",_,xO.lookup,ht.typeIs,?_⟩;exact HT.gU ht hs pl pu (by rw[hlen];exact hz) ⟨.ref a,H,I,rfl,hw hz⟩
 ·exact zlP ak s Z H (.ref a) v vl vu lo hi sl Q I rx hs pl pu ⟨a,xs,rfl,hx,hz,q⟩
theorem zlX(he:PE X e te):PE X (.Subscript e (.Slice none none (some (.UnaryOp .USub (.Constant (.int 1) j p3) p4)) p2) pos) (λZ H Q=>te Z H λx H1=>∃a xs,x=.ref a/\gj X.K H1 a xs/\∀p,H1 p=none->Q (.ref p) (upd H1 p (.tup xs.reverse))):=by
 intro ak s Z H Q I h;refine Subscript_ (aY (he ak s Z H _ I h) λv s1 ⟨x,H1,I1,r1,a,xs,ex,hx,q⟩=>?_);subst ex;cases r1;refine wpAny_Slice ?_;rw[evalPart_none];refine aL (aL ?_);rw[evalPart_some];refine aY (Yh (r:=rU λi=>.int (-i)) Yi Q5 ak s1 Z H1 (λv H'=>v=.int (-1)/\H'=H1) I1 ⟨1,rfl,rfl,rfl⟩) λu s2 ⟨z,H2,I2,r2,ez,eH⟩=>?_;subst ez eH;obtain⟨t,rfl⟩:=r2;obtain⟨its,r,ht,hz⟩:=I2.tuple hx;have I4:Inv X ak Z H2 {s2 with heap:=s2.heap.push {cls:=.type "slice",data:=.fields #[.none,.none,.int (-1) t]}}:=I2.kept (t':=s2.toks) λb ob q=>cG _ q;obtain⟨its,r,ht,hz⟩:=I4.tuple hx;have hlen:its.toArray.size=xs.length:=by rw[dJ];exact r.length.symm
 show wpAny (model X.prog X.w) X.A (subscriptTail e (.Slice none none (some (.UnaryOp .USub (.Constant (.int 1) j p3) p4)) p2) (.ref a) (.ref s2.heap.objs.size)) (EP X ak Z Q) X.xe {s2 with heap:=s2.heap.push {cls:=.type "slice",data:=.fields #[.none,.none,.int (-1) t]}};refine tail_any (ops:=[.ref a,.ref s2.heap.objs.size]) ht.typeIs xO.lookup (HT.iR ht (Heap.IsSliceOf.new ..) ?_ (by rw[hlen];exact hz)) (by with_unfolding_all rfl);refine⟨.ref _,_,I4.laid (t':=s2.toks) (o:=.tup xs.reverse) (λb ob q=>cG _ q) (cH _) ?_,rfl,q _ (I4.hok.fresh (cH _))⟩;refine⟨by rw[List.length_reverse];exact hz,_,?_,IsTup.new _ _⟩;have rv:∀{xs:List V} {us:List Value},Vals xs us->Vals xs.reverse us.reverse:=λ{xs us} r=>by
  induction r with
  |nil=>exact .nil
  |cons a b ih=>rw[Nj,Nj];exact ih.append (.cons a .nil)
 simpa using rv r
end
section
variable {X:Cx}
noncomputable def Ar(K:W.Frag):R2:=λx y H Q=>∃l b xs zs,x=.ref l/\y=.ref b/\dI K H l xs/\dI K H b zs/\xs.length+zs.length<=sizeLine/\∀p,H p=none->Q (.ref p) (upd H p (.lst (xs++zs)))
theorem yU:cZ X (binaryOp .Add) (Ar X.K):=by
 intro ak s Z H x y v u Q I rx ry h;obtain⟨l,b,xs,zs,rfl,rfl,hH,hB,hz,q⟩:=h;cases rx;cases ry;obtain⟨its,r,pl,_⟩:=I.list hH;obtain⟨its2,r2,pl2,_⟩:=I.list hB;obtain⟨⟨cls,dd,data,sl⟩,ho,hc,n,hd⟩:=pl.isList;obtain⟨⟨cls2,dd2,data2,sl2⟩,oE,ud,n2,hd2⟩:=pl2.isList;simp only at hc hd ud hd2;subst hc hd ud hd2;refine concat_meets ⟨_,ho,rfl⟩ ⟨_,oE,rfl⟩ noFill_list_add seq_list_add PySem.F.slot_list_add PySem.F.entry_list_add (PySem.F.args_list_add_2 _ _) (list_addW l b its.toArray its2.toArray n n2 dd dd2 sl sl2 (by rw[dJ,dJ,<-r.length,<-r2.length];exact hz)) ⟨ho,oE,?_⟩;have ea:its.toArray++its2.toArray=(its++its2).toArray:=by simp
 rw[ea];exact⟨.ref _,_,I.RJ (t':=s.toks) (r.append r2) (by rw[cY];omega),rfl,q _ I.fresh⟩
noncomputable def rz(K:W.Frag):R2:=λx y H Q=>qd (λi j=>.int (i+j)) x y H Q\/Ar K x y H Q\/vD K x y H Q\/∃i j,x=.str i/\y=.str j/\i.length+j.length<=sizeLine/\Q (.str (i++j)) H
theorem zgR:cZ X (binaryOp .Add) (rz X.K):=Cr.or (yU.or (vG.or zfk))
end
end L2
namespace Mi
open PySem PySem.Spec PyProof.Rows L2
section
variable {K:W.Frag}{cA:Cl}{U:Ph}{H:Hp}{Q:VK}{p:Pr}
theorem bC.some'{o:Option Rz}(h:bC K cA U H o Q):∃z,o=some z:=by
 cases o with
 |none=>exact h.elim
 |some z=>exact⟨z,rfl⟩
theorem bC.of{o:Option Rz}{z:Rz}(h:bC K cA U H o Q)(e:o=some z):bC K cA U H (some z) Q:=e▸h
theorem bC.here{d:D}{v:V}(h:bC K cA U H (some (.dat d)) Q)(r:Rep K cA U H d v):Q v H:=h H v bO.refl r
theorem bC.tup{xs:List D}{vs:List V}{a:Addr}(h:bC K cA U H (some (.dat (.tup xs))) Q)(z:Zt U H)(r:aD K cA U H xs vs)(hp:H a=none):Q (.ref a) (upd H a (.tup vs)):=
 h _ _ (bO.new hp) (.tup (TupAt.new (z.nz hp)) (r.mono (bO.new hp).ext z.lz))
theorem yO.two{ds:List D}{vs:List V}{d d':D}(h:yO K cA U H [d,d'] vs):∃v v',vs=[v,v']/\Rv K cA U H d v/\Rv K cA U H d' v':=by
 cases h with
 |cons a r=>cases r with
  |cons b r=>cases r;exact⟨_,_,rfl,a,b⟩
theorem yO.one(h:yO K cA U H [d] vs):∃v,vs=[v]/\Rv K cA U H d v:=by
 cases h with
 |cons a r=>cases r;exact⟨_,rfl,a⟩
theorem Rv.int{i:Int}{v:V}(h:Rv K cA U H (.int i) v):v=.int i:=by cases (show Rep K cA U H (.int i) v from h);rfl
theorem Rv.bl{i:Bool}{v:V}(h:Rv K cA U H (.bl i) v):v=.bl i:=by cases (show Rep K cA U H (.bl i) v from h);rfl
theorem Rv.str{i:Str}{v:V}(h:Rv K cA U H (.str i) v):v=.str i:=by cases (show Rep K cA U H (.str i) v from h);rfl
theorem Rv.tup{xs:List D}{v:V}(h:Rv K cA U H (.tup xs) v):∃a vs,v=.ref a/\TupAt K U H a vs/\aD K cA U H xs vs:=by
 cases (show Rep K cA U H (.tup xs) v from h) with
 |tup a r=>exact⟨_,_,rfl,a,r⟩
theorem Rv.sq{d:D}{xs:List D}{v:V}(h:Rv K cA U H d v)(e:oO d=some xs):∃a vs,v=.ref a/\(dI K H a vs\/gj K H a vs)/\aD K cA U H xs vs:=by
 cases d with
 |tup ys=>
  cases e;obtain⟨a,vs,e,t,r⟩:=Rv.tup h;exact⟨a,vs,e,.inr t.jD,r⟩
 |fl ys=>
  cases e;obtain⟨a,vs,e,l,r⟩:=h;exact⟨a,vs,e,.inl l,r⟩
 |_=>cases e
theorem ZL{f:Int->Int->Option D}{ds:List D}{z:Rz}(h:dN f ds=some z):∃i j d,ds=[.int i,.int j]/\f i j=some d/\z=.dat d:=by
 cases ds with
 |nil=>cases h
 |cons a t=>
 cases a with
 |int i=>
  cases t with
  |nil=>cases h
  |cons b t=>
  cases b with
  |int j=>
   cases t with
   |cons _ _=>cases h
   |nil=>
    obtain⟨d,e1,e2⟩:=n_.mp h;exact⟨_,_,d,rfl,e1,e2.symm⟩
  |_=>cases h
 |_=>cases h
theorem Ky{f:Int->Int->Option D}(hp:prim p=dN f){C:Int->Int->Prop}{g:Int->Int->V}(hf:∀i j d,f i j=some d->C i j/\∀U H,Rep K cA U H d (g i j)):aQ K cA p (r2 (rI C g)):=by
 intro U H ds vs Q zt rs o;rw[hp] at o;obtain⟨z,e⟩:=o.some';obtain⟨i,j,d,rfl,e1,rfl⟩:=ZL e;obtain⟨c,r⟩:=hf i j d e1;obtain⟨v,v',rfl,r1,r2⟩:=rs.two (ds:=[]);rw[r1.int,r2.int];exact⟨_,_,rfl,i,j,rfl,rfl,c,(o.of e).here (r U H)⟩
theorem Gs{f:Int->Int->D}(hp:prim p=dN λi j=>some (f i j)){g:Int->Int->V}(hf:∀i j U H,Rep K cA U H (f i j) (g i j)):aQ K cA p (r2 (qd g)):=by
 intro U H ds vs Q zt rs o;obtain⟨x,y,e,i,j,a,b,_,q⟩:=Ky (K:=K) (cA:=cA) (C:=λ_ _=>True) hp (λi j d e=>⟨trivial,λU H=>by cases e;exact hf i j U H⟩) U H ds vs Q zt rs o;exact⟨x,y,e,i,j,a,b,q⟩
theorem Kz{α:Type}{c:Prop}[Decidable c]{x y:α}(h:(if c then some x else none)=some y):c/\y=x:=by
 split at h
 ·rename_i z;cases h;exact⟨z,rfl⟩
 ·cases h
theorem zm1:aQ K cA .ao (r2 (qd λi j=>.int (i-j))):=Gs (f:=λi j=>.int (i-j)) rfl λi j _ _=>.int _
theorem zlV:aQ K cA .mul (r2 (rI yr λi j=>.int (i*j))):=Ky rfl λi j d e=>by obtain⟨c,rfl⟩:=Kz e;exact⟨c,λ_ _=>.int _⟩
theorem zjc:aQ K cA .fdiv (r2 (rI yq λi j=>.int (i/j))):=Ky rfl λi j d e=>by obtain⟨c,rfl⟩:=Kz e;exact⟨c,λ_ _=>.int _⟩
theorem zlk:aQ K cA .mod (r2 (rI (λ_ j=>0<j) λi j=>.int (i%j))):=Ky rfl λi j d e=>by obtain⟨c,rfl⟩:=Kz e;exact⟨c,λ_ _=>.int _⟩
theorem zla:aQ K cA .pow (r2 (rI IV λi j=>.int (i^j.toNat))):=Ky rfl λi j d e=>by obtain⟨c,rfl⟩:=Kz e;exact⟨c,λ_ _=>.int _⟩
theorem znH:aQ K cA .le (r2 (qd λi j=>.bl (decide (i<=j)))):=Gs (f:=λi j=>.bl (decide (i<=j))) rfl λi j _ _=>.bl _
theorem zni:aQ K cA .gt (r2 (qd λi j=>.bl (decide (j<i)))):=Gs (f:=λi j=>.bl (decide (j<i))) rfl λi j _ _=>.bl _
theorem znf:aQ K cA .ge (r2 (qd λi j=>.bl (decide (j<=i)))):=Gs (f:=λi j=>.bl (decide (j<=i))) rfl λi j _ _=>.bl _
theorem zlv:aQ K cA .neg (λvs H Q=>∃x,vs=[x]/\rU (λi=>.int (-i)) x H Q):=by
 intro U H ds vs Q zt rs o;obtain⟨z,e⟩:=o.some';have e:qZ (λi=>.int (-i)) ds=some z:=e;cases ds with
 |nil=>cases e
 |cons a t=>
 cases a with
 |int i=>
  cases t with
  |cons _ _=>cases e
  |nil=>
   cases e;obtain⟨v,rfl,r1⟩:=rs.one;exact⟨_,rfl,_,r1.int,bC.here (o.of rfl) (.int _)⟩
 |_=>cases e
theorem znx:aQ K cA .eq (r2 (yR K cA id)):=by
 intro U H ds vs Q zt rs o;obtain⟨z,e⟩:=o.some';have e:Af id ds=some z:=e;unfold Af at e;split at e
 ·obtain⟨b,e1,e2⟩:=n_.mp e;obtain⟨v,v',rfl,r1,r2⟩:=rs.two (ds:=[]);subst e2;exact⟨_,_,rfl,U,_,_,b,r1,r2,e1,(o.of e).here (.bl _)⟩
 ·cases e
theorem znj:aQ K cA .ne (r2 (yR K cA not)):=by
 intro U H ds vs Q zt rs o;obtain⟨z,e⟩:=o.some';have e:Af not ds=some z:=e;unfold Af at e;split at e
 ·obtain⟨b,e1,e2⟩:=n_.mp e;obtain⟨v,v',rfl,r1,r2⟩:=rs.two (ds:=[]);subst e2;exact⟨_,_,rfl,U,_,_,b,r1,r2,e1,(o.of e).here (.bl _)⟩
 ·cases e
theorem ZM{f:Bool->Bool}{ds:List D}{z:Rz}(h:Ag f ds=some z):∃a b xs k,ds=[a,b]/\oO b=some xs/\memD a xs=some k/\z=.dat (.bl (f k)):=by
 unfold Ag at h;split at h
 ·obtain⟨k,e1,e2⟩:=n_.mp h;obtain⟨xs,e3,e4⟩:=zM.mp e1;exact⟨_,_,xs,k,rfl,e3,e4,e2.symm⟩
 ·cases h
theorem znS:aQ K cA .inn (r2 (yS K cA id)):=by
 intro U H ds vs Q zt rs o;obtain⟨z,e⟩:=o.some';obtain⟨a,b,xs,k,rfl,e1,e2,rfl⟩:=ZM (show Ag id ds=some z from e);obtain⟨v,v',rfl,r1,r2⟩:=rs.two (ds:=[]);exact⟨_,_,rfl,U,_,_,xs,k,r1,r2,e1,e2,(o.of e).here (.bl _)⟩
theorem zk0:aQ K cA .nin (r2 (yS K cA not)):=by
 intro U H ds vs Q zt rs o;obtain⟨z,e⟩:=o.some';obtain⟨a,b,xs,k,rfl,e1,e2,rfl⟩:=ZM (show Ag not ds=some z from e);obtain⟨v,v',rfl,r1,r2⟩:=rs.two (ds:=[]);exact⟨_,_,rfl,U,_,_,xs,k,r1,r2,e1,e2,(o.of e).here (.bl _)⟩
theorem TF:∀{xs:List D} {ns:List Int} {vs:List V},jk xs=some ns->aD K cA U H xs vs->vs=ns.map V.int
 |[],ns,vs,h,r=>by cases h;cases r;rfl
 |d::xs,ns,vs,h,r=>by
  cases d with
  |int i=>
   simp only[jk,n_] at h;obtain⟨ns',h1,rfl⟩:=h;cases r with
   |cons a r=>cases a;rw[TF h1 r];rfl
  |_=>simp[jk] at h
theorem ZP:∀(a b:List Int),ltI a b=HT.lexLt a b
 |_,[]=>by cases ‹List Int›<;>rfl
 |[],_::_=>rfl
 |x::xs,y::ys=>by
  unfold ltI;rw[ZP xs ys,HT.k_]
theorem znV:aQ K cA .lt (r2 λx y H Q=>qd (λi j=>.bl (decide (i<j))) x y H Q\/Je K x y H Q):=by
 intro U H ds vs Q zt rs o;obtain⟨z,e⟩:=o.some';have e:Kc ds=some z:=e;unfold Kc at e;split at e
 ·cases e;obtain⟨v,v',rfl,r1,r2⟩:=rs.two (ds:=[]);exact⟨_,_,rfl,.inl ⟨_,_,r1.int,r2.int,bC.here (o.of rfl) (.bl _)⟩⟩
 ·split at e
  ·rename_i a b h1 h2;cases e;obtain⟨v,v',rfl,r1,r2⟩:=rs.two (ds:=[]);obtain⟨p,us,rfl,t1,q1⟩:=r1.tup;obtain⟨p',us',rfl,t2,q2⟩:=r2.tup;have o2:bC K cA U H (some (.dat (.bl (ltI a b)))) Q:=by
    have o3:bC K cA U H (Kc [.tup _,.tup _]) Q:=o;unfold Kc at o3;simp only[h1,h2] at o3;exact o3
   refine⟨_,_,rfl,.inr ⟨p,p',a,b,rfl,rfl,by rw[<-TF h1 q1];exact t1.jD,by rw[<-TF h2 q2];exact t2.jD,?_⟩⟩;rw[<-ZP];exact o2.here (.bl _)
  ·cases e
 ·cases e
theorem zly:aQ K cA .add (r2 (rz K)):=by
 intro U H ds vs Q zt rs o;have o:bC K cA U H (Dk ds) Q:=o;cases ds with
 |nil=>exact False.elim o
 |cons a t=>
 cases a with
 |int i=>
  cases t with
  |nil=>exact False.elim o
  |cons b t=>
  cases b with
  |int j=>
   cases t with
   |cons _ _=>exact False.elim o
   |nil=>
    obtain⟨v,v',rfl,r1,r2⟩:=rs.two (ds:=[]);exact⟨_,_,rfl,.inl ⟨_,_,r1.int,r2.int,bC.here o (.int _)⟩⟩
  |_=>exact False.elim o
 |tup xs=>
  cases t with
  |nil=>exact False.elim o
  |cons b t=>
  cases b with
  |tup ys=>
   cases t with
   |cons _ _=>exact False.elim o
   |nil=>
    obtain⟨v,v',rfl,r1,r2⟩:=rs.two (ds:=[]);obtain⟨p,us,rfl,t1,q1⟩:=r1.tup;obtain⟨p',us',rfl,t2,q2⟩:=r2.tup;have o:bC K cA U H (if xs.length+ys.length<=sizeLine then some (.dat (.tup (xs++ys))) else none) Q:=o;by_cases hz:xs.length+ys.length<=sizeLine
    ·rw[if_pos hz] at o;refine⟨_,_,rfl,.inr (.inr (.inl ⟨p,p',us,us',rfl,rfl,t1.jD,t2.jD,by rw[<-q1.len,<-q2.len];exact hz,λe=>?_,λe=>?_,λa ha=>o.tup zt (q1.app q2) ha⟩))⟩
     ·subst e;cases q1;exact o.here (.tup t2 q2)
     ·subst e;cases q2;rw[FN] at o;exact o.here (.tup t1 q1)
    ·rw[if_neg hz] at o;exact o.elim
  |_=>exact False.elim o
 |fl xs=>
  cases t with
  |nil=>exact False.elim o
  |cons b t=>
  cases b with
  |fl ys=>
   cases t with
   |cons _ _=>exact False.elim o
   |nil=>
    obtain⟨v,v',rfl,⟨p,us,rfl,t1,q1⟩,⟨p',us',rfl,t2,q2⟩⟩:=rs.two (ds:=[]);have o:bC K cA U H (if xs.length+ys.length<=sizeLine then some (.nw (xs++ys)) else none) Q:=o;by_cases hz:xs.length+ys.length<=sizeLine
    ·rw[if_pos hz] at o;exact⟨_,_,rfl,.inr (.inl ⟨p,p',us,us',rfl,rfl,t1,t2,by rw[<-q1.len,<-q2.len];exact hz,λa ha=>o a _ ha (q1.app q2)⟩)⟩
    ·rw[if_neg hz] at o;exact o.elim
  |_=>exact False.elim o
 |str x=>
  cases t with
  |nil=>exact False.elim o
  |cons b t=>
  cases b with
  |str y=>
   cases t with
   |cons _ _=>exact False.elim o
   |nil=>
    obtain⟨v,v',rfl,r1,r2⟩:=rs.two (ds:=[]);have o:bC K cA U H (if x.length+y.length<=sizeLine then some (.dat (.str (x++y))) else none) Q:=o;by_cases hz:x.length+y.length<=sizeLine
    ·rw[if_pos hz] at o;exact⟨_,_,rfl,.inr (.inr (.inr ⟨_,_,r1.str,r2.str,hz,o.here (.str _)⟩))⟩
    ·rw[if_neg hz] at o;exact o.elim
  |_=>exact False.elim o
 |_=>exact False.elim o
theorem zmF:aQ K cA .len (λxs H Q=>∃p ys,xs=[.ref p]/\(dI K H p ys\/gj K H p ys)/\Q (.int ys.length) H):=by
 intro U H ds vs Q zt rs o;have o:bC K cA U H (sX (λxs=>some (.dat (.int xs.length))) ds) Q:=o;unfold sX at o;split at o
 ·obtain⟨v,rfl,r1⟩:=rs.one;obtain⟨z,e⟩:=o.some';obtain⟨xs,e1,e2⟩:=zM.mp e;obtain⟨a,us,rfl,sq,q⟩:=r1.sq e1;cases e2;refine⟨a,us,rfl,sq,?_⟩;rw[<-q.len];exact(o.of e).here (.int _)
 ·exact o.elim
theorem zi9:aQ K cA .list (λxs H Q=>∃p ys,xs=[.ref p]/\(dI K H p ys\/gj K H p ys)/\∀l,H l=none->Q (.ref l) (upd H l (.lst ys))):=by
 intro U H ds vs Q zt rs o;have o:bC K cA U H (sX (λxs=>some (.nw xs)) ds) Q:=o;unfold sX at o;split at o
 ·obtain⟨v,rfl,r1⟩:=rs.one;obtain⟨z,e⟩:=o.some';obtain⟨xs,e1,e2⟩:=zM.mp e;obtain⟨a,us,rfl,sq,q⟩:=r1.sq e1;cases e2;exact⟨a,us,rfl,sq,λl hl=>(o.of e) l us hl q⟩
 ·exact o.elim
theorem zhD:aQ K cA .tuple (λxs H Q=>∃p ys,xs=[.ref p]/\((dI K H p ys/\∀l,H l=none->Q (.ref l) (upd H l (.tup ys)))\/(gj K H p ys/\Q (.ref p) H))):=by
 intro U H ds vs Q zt rs o;have o:bC K cA U H (qu ds) Q:=o;unfold qu at o;split at o
 ·rename_i d _;obtain⟨v,rfl,r1⟩:=rs.one;cases d with
  |tup xs=>
   obtain⟨a,us,rfl,t,q⟩:=r1.tup;exact⟨a,us,rfl,.inr ⟨t.jD,bC.here o (.tup t q)⟩⟩
  |fl xs=>
   obtain⟨a,us,rfl,t,q⟩:=r1;exact⟨a,us,rfl,.inl ⟨t,λl hl=>bC.tup o zt q hl⟩⟩
  |_=>exact o.elim
 ·exact o.elim
theorem zm2:aQ K cA .abs (λxs H Q=>∃i,xs=[.int i]/\Q (.int (if i<0 then -i else i)) H):=by
 intro U H ds vs Q zt rs o;have o:bC K cA U H (qZ (λi=>.int (if i<0 then -i else i)) ds) Q:=o;cases ds with
 |nil=>exact False.elim o
 |cons a t=>
 cases a with
 |int i=>
  cases t with
  |cons _ _=>exact False.elim o
  |nil=>
   obtain⟨v,rfl,r1⟩:=rs.one;rw[r1.int];exact⟨_,rfl,bC.here o (.int _)⟩
 |_=>exact False.elim o
theorem zjq:aQ K cA .vo (λxs H Q=>(∃i,xs=[.int i]/\Q (.int i) H)\/∃k,xs=[.bl k]/\Q (.int (if k then 1 else 0)) H):=by
 intro U H ds vs Q zt rs o;have o:bC K cA U H (Kg ds) Q:=o;cases ds with
 |nil=>exact False.elim o
 |cons a t=>
 cases a with
 |int i=>
  cases t with
  |cons _ _=>exact False.elim o
  |nil=>
   obtain⟨v,rfl,r1⟩:=rs.one;rw[r1.int];exact .inl ⟨_,rfl,bC.here o (.int _)⟩
 |bl k=>
  cases t with
  |cons _ _=>exact False.elim o
  |nil=>
   obtain⟨v,rfl,r1⟩:=rs.one;rw[r1.bl];exact .inr ⟨_,rfl,bC.here o (.int _)⟩
 |_=>exact False.elim o
theorem zkA:aQ K cA .max2 (λxs H Q=>∃i j,xs=[.int i,.int j]/\Q (.int (if j>i then j else i)) H):=by
 intro U H ds vs Q zt rs o;obtain⟨x,y,e,i,j,rfl,rfl,q⟩:=Gs (K:=K) (cA:=cA) (p:=.max2) (f:=λi j=>.int (if j>i then j else i)) rfl (λi j _ _=>.int _) U H ds vs Q zt rs o;exact⟨i,j,e,q⟩
theorem zkr:aQ K cA .min2 (λxs H Q=>∃i j,xs=[.int i,.int j]/\Q (.int (if j<i then j else i)) H):=by
 intro U H ds vs Q zt rs o;obtain⟨x,y,e,i,j,rfl,rfl,q⟩:=Gs (K:=K) (cA:=cA) (p:=.min2) (f:=λi j=>.int (if j<i then j else i)) rfl (λi j _ _=>.int _) U H ds vs Q zt rs o;exact⟨i,j,e,q⟩
theorem zgl:aQ K cA .divmod (λxs H Q=>∃i j,xs=[.int i,.int j]/\yq i j/\∀p,H p=none->Q (.ref p) (upd H p (.tup [.int (i/j),.int (i%j)]))):=by
 intro U H ds vs Q zt rs o;have o:bC K cA U H (dN (λi j=>if 0<j/\j<1073741824 then some (.tup [.int (i/j),.int (i%j)]) else none) ds) Q:=o;obtain⟨z,e⟩:=o.some';obtain⟨i,j,d,rfl,e1,rfl⟩:=ZL e;obtain⟨c,rfl⟩:=Kz e1;obtain⟨v,v',rfl,r1,r2⟩:=rs.two (ds:=[]);rw[r1.int,r2.int];exact⟨i,j,rfl,c,λp hp=>(o.of e).tup zt (.cons (.int _) (.cons (.int _) .nil)) hp⟩
theorem Ov:∀{xs:List D} {bs:List Bool} {vs:List V},gW xs=some bs->aD K cA U H xs vs->vs=bs.map V.bl
 |[],bs,vs,h,r=>by cases h;cases r;rfl
 |d::xs,bs,vs,h,r=>by
  cases d with
  |bl b=>
   simp only[gW,n_] at h;obtain⟨bs',h1,rfl⟩:=h;cases r with
   |cons q r=>cases q;rw[Ov h1 r];rfl
  |_=>simp[gW] at h
theorem znK:aQ K cA .ix (r2 (RD K)):=by
 intro U H ds vs Q zt rs o;have o:bC K cA U H (S8 ds) Q:=o;unfold S8 at o;split at o
 ·rename_i d i _;obtain⟨v,v',rfl,r1,r2⟩:=rs.two (ds:=[]);obtain⟨z,e⟩:=o.some';obtain⟨y,e1,e2⟩:=n_.mp e;obtain⟨xs,e3,e4⟩:=zM.mp e1;obtain⟨a,us,rfl,sq,q⟩:=r1.sq e3;have key:∃w,L2.qT us i=some w/\Rep K cA U H y w:=by
   unfold L2.qT at *;rw[<-q.len];obtain⟨j,h1,h2⟩:=zM.mp e4;obtain⟨w,h3,h4⟩:=q.get h2;exact⟨w,by rw[h1];exact h3,h4⟩
  obtain⟨w,hw,oA⟩:=key;subst e2;have q':=(o.of e).here oA;rcases sq with sq|sq
  ·exact⟨_,_,rfl,.inl ⟨a,us,i,w,rfl,r2.int,sq,hw,q'⟩⟩
  ·exact⟨_,_,rfl,.inr (.inl ⟨a,us,i,w,rfl,r2.int,sq,hw,q'⟩)⟩
 ·exact o.elim
noncomputable def ZQ(K:W.Frag):V->Option Int->Option Int->Hp->VK->Prop:=λx lo hi H Q=>Jk K x lo hi H Q\/Aq K x lo hi H Q
theorem zkP:yx X (ZQ X.K):=yE.or zjV
theorem zkD{d:D}{lo hi:Option Int}{v:V}(zt:Zt U H)(r:Rv K cA U H d v)(o:bC K cA U H (cutD d lo hi) Q):ZQ K v lo hi H Q:=by
 cases d with
 |tup xs=>
  obtain⟨a,us,rfl,t,q⟩:=r.tup;refine .inr ⟨a,us,rfl,t.jD,λe=>?_,λp hp=>bC.tup o zt q.cut hp⟩;have hc:cut xs lo hi=xs:=by
   unfold cut;rw[q.len,e.1,e.2,List.drop_zero,Nat.sub_zero,<-q.len,Np]
  have o:bC K cA U H (some (.dat (.tup (cut xs lo hi)))) Q:=o;rw[hc] at o;exact o.here (.tup t q)
 |fl xs=>
  obtain⟨a,us,rfl,t,q⟩:=r;exact .inl ⟨a,us,rfl,t,λp hp=>o p _ hp q.cut⟩
 |_=>exact o.elim
end
end Mi
namespace L2
open PySem PySem.Spec PyProof.Rows
section
variable {κ:Type}[DecidableEq κ]
noncomputable def putK(kvs:List (κ×V))(k:κ)(v:V):List (κ×V):=
 if (kvs.any λkv=>decide (kv.1=k))=true then kvs.map (λkv=>if kv.1=k then (kv.1,v) else kv) else kvs++[(k,v)]
theorem zd7(kvs:List (κ×V))(k:κ)(v:V):(putK kvs k v).length<=kvs.length+1:=by
 unfold putK
 split
 ·rw[bN];lia
 ·rw[cY,iC,rW];lia
theorem KV.any(r:KV kvs vs)(k:κ):(kvs.any λkv=>decide (kv.1=k))=vs.any λkv=>decide (kv.1=k):=by
 unfold KV at r
 induction r with
 |nil=>rfl
 |cons h t ih=>rw[List.any_cons,List.any_cons,ih,h.1]
theorem KV.repl(r:KV kvs vs)(k:κ)(ry:RelV y u) :
  KV (kvs.map λkv=>if kv.1=k then (kv.1,y) else kv) (vs.map λkv=>if kv.1=k then (kv.1,u) else kv):=by
 unfold KV at r ⊢
 induction r with
 |nil=>exact .nil
 |@cons p q ps qs h t ih=>
  rw[jL,jL];refine .cons ?_ ih;obtain⟨h1,h2⟩:=h;by_cases e:p.1=k
  ·rw[if_pos e,if_pos (h1.symm.trans e)];exact⟨h1,ry⟩
  ·rw[if_neg e,if_neg (λz=>e (h1.trans z))];exact⟨h1,h2⟩
theorem KV.put(r:KV kvs vs)(k:κ)(ry:RelV y u):KV (putK kvs k y) (stored vs k u):=by
 unfold putK stored;rw[r.any k];by_cases e:(vs.any λkv=>decide (kv.1=k))=true
 ·rw[if_pos e,if_pos e];exact r.repl k ry
 ·rw[if_neg e,if_neg e];exact Paired.snoc r ⟨rfl,ry⟩
end
theorem znP(r:RelV (kV k) u):(cO P w).is k u=true:=by
 cases k with
 |inl i=>obtain⟨t,e⟩:=(show ∃t,u=Value.int i t from r);subst e;exact zd9 P w i t
 |inr x=>obtain⟨t,e⟩:=(show ∃t,u=Value.str x t from r);subst e;exact zep P w x t
section
variable {P:Program}{w:World}{H:Hp}{h:Heap}{a:Addr}
theorem zof(ok:iy P w H h)(e:Rd H a u):aU P w H h a u:=e.ok ok
theorem zn4(ok:iy P w H h)(e:Rd H a (.dK kvs)):kvs.length<=sizeLine/\(a==sysModules)=false/\∃vs,KV kvs vs/\h.DictOf (cO P w) a vs:=
 show aU P w H h a (.dK kvs) from zof ok e
theorem znJ(ok:iy P w H h)(e:H a=some (.dK kvs)):kvs.length<=sizeLine/\(a==sysModules)=false/\∃vs,KV kvs vs/\h.DictOf (cO P w) a vs:=zn4 ok (.inl e)
end
section
variable {X:Cx}{ak:List (Addr×Obj)}{Z:St}{H:Hp}{s:Shared}{a:Addr}{y v:V}{u r:Value}{o:Option V}{A:Around}{E:Value->Shared->Prop}
theorem Inv.big(I:Inv X ak Z H s):sysModules<s.heap.objs.size:=by
 have h:mainGlobals<s.heap.objs.size:=(I.mod.glob.keeps I.bk).lt;exact Nat.lt_trans (by decide) h
theorem zkl(I:Inv X ak Z H s)(mu:Ie (H a))(hs:Heap.SameBut a s.heap h')(he:∃q,h'.get? a=some q)(new:aU X.prog X.w (upd H a ob) h' a ob) :
  Inv X ak Z (upd H a ob) {s with heap:=h',toks:=t'}:=
 I.write (x:=a) (e:=a) mu (.inl rfl) (λb q hb z=>(hs.2 b hb).trans z) he new
theorem zmS(z:kvs.length<=sizeLine)(hd:(a==sysModules)=false)(rel:KV kvs vs)(dd:h'.DictOf (cO P w) a vs) :
  aU P w H' h' a (.dK kvs):=⟨z,hd,vs,rel,dd⟩
end
section
variable {X:Cx}{ak:List (Addr×Obj)}{Z:St}{H:Hp}{s:Shared}{a:Addr}{kvs:List (Key×V)}{k:Key}{u:Value}{A:Around}{E:Value->Shared->Prop}
end
section
variable {X:Cx}{o i e value:Expr}{pos pos' tpos:Pos}{td ty tv:TE}
end
theorem zh9(h:Heap)(hb:sysModules<h.objs.size):aU P w H (h.push {cls:=.type "dict",data:=.dict #[]}) h.objs.size (.dK []):=
 ⟨p8 _,beq_eq_false_iff_ne.mpr (Ne.symm (dH hb)),[],.nil,Heap.DictOf.new h⟩
section
variable {X:Cx}{pos:Pos}
end
noncomputable def qC:List (TE×TE)->St->Hp->(List (V×V)->Hp->Prop)->Prop
 |[],_,H,Q=>Q [] H
 |(tk,tv)::r,Z,H,Q=>tk Z H λx H1=>tv Z H1 λy H2=>qC r Z H2 λps H3=>Q ((x,y)::ps) H3
noncomputable abbrev VV:List (V×V)->List (Value×Value)->Prop:=Paired λp q=>RelV p.1 q.1/\RelV p.2 q.2
def Ow(X:Cx)(pos:Pos)(keys:List (Option Expr))(values:List Expr)(Dt:List (TE×TE)):Prop:=
 ∀(ak:List (Addr×Obj)) (s:Shared) (Z:St) (H:Hp) (Q:List (V×V)->Hp->Prop),Inv X ak Z H s->qC Dt Z H Q->
  wpAny (model X.prog X.w) X.A (evalPairs (pairTrees keys values X.env pos)) (λvs s'=>∃ps H',Inv X ak Z H' s'/\VV ps vs/\Q ps H') X.xe s
theorem zj6:Ow X pos [] [] []:=λak s Z H Q I h=>pairTrees_nil_walk ⟨[],H,I,.nil,h⟩
theorem zhT(hk:PE X k tk)(hv:PE X v tv)(hr:Ow X pos ks vs Dt) :
  Ow X pos (some k::ks) (v::vs) ((tk,tv)::Dt):=λak s Z H Q I h=>
 pairTrees_cons_walk (aY (hk ak s Z H _ I h) λu s1 hx=>eF hx λx H1 I1 rx q1=>aY (hv ak s1 Z H1 _ I1 q1) λw2 s2 hx=>eF hx λy H2 I2 ry q2=>
  aY (hr ak s2 Z H2 _ I2 q2) λws s3 hx=>eF hx λps H3 I3 rel q3=>⟨(x,y)::ps,H3,I3,.cons ⟨rx,ry⟩ rel,q3⟩)
noncomputable def lC(kvs more:List (Key×V)):List (Key×V):=more.foldl (λacc kv=>putK acc kv.1 kv.2) kvs
theorem KV.merge:∀{more:List (Key×V)} {rs:List (Key×Value)} {kvs:List (Key×V)} {vs:List (Key×Value)},KV more rs->KV kvs vs->KV (lC kvs more) (merged vs rs):=by
 intro more rs kvs vs r;unfold KV at r
 induction r generalizing kvs vs with
 |nil=>intro q;exact q
 |@cons p q ps qs h t ih=>
  intro r0;have e:KV (putK kvs p.1 p.2) (stored vs q.1 q.2):=by
   have:=r0.put p.1 h.2;rw[<-h.1];exact this
  exact ih e
theorem ZR:∀(more kvs:List (Key×V)),(lC kvs more).length<=kvs.length+more.length
 |[],kvs=>by show kvs.length<=kvs.length+0;lia
 |p::r,kvs=>by
  have h1:=ZR r (putK kvs p.1 p.2);have h2:=zd7 kvs p.1 p.2;show (lC (putK kvs p.1 p.2) r).length<=_;rw[iC];lia
theorem ZS:∀{kvs:List (Key×V)} {ws:List (Value×Value)},VV (kvs.map λkv=>(kV kv.1,kv.2)) ws->∃rs,Carries (cO P w) ws rs/\KV kvs rs
 |[],_,r=>by rw[List.map_nil] at r;cases r;exact⟨[],True.intro,.nil⟩
 |p::kvs,_,r=>by
  rw[jL] at r;cases r with
  |@cons a b as bs h t=>
   obtain⟨rs,c,q⟩:=ZS (P:=P) (w:=w) t;obtain⟨b1,b2⟩:=b;exact⟨(p.1,b2)::rs,⟨znP h.1,rfl,c⟩,.cons ⟨rfl,h.2⟩ q⟩
noncomputable def KC(Dt:List (TE×TE)):TE:=λZ H Q=>∀p,H p=none->qC Dt Z (upd H p (.dK [])) λps H2=>H2 p=some (.dK [])/\∃kvs:List (Key×V),ps=kvs.map (λkv=>(kV kv.1,kv.2))/\kvs.length<=15/\Q (.ref p) (upd H2 p (.dK (lC [] kvs)))
theorem zjO(h:Ow X pos keys values Dt)(jg:keys.all (·.isSome)=true)(hl:keys.length=values.length)(h0:keys≠[])
  (h15:keys.length<=15):PE X (.Dict keys values pos) (KC Dt):=by
 intro ak s Z H Q I q;have hn:=I.hok.fresh (cH s.heap.objs.size);have I1:=I.laid (a:=s.heap.objs.size) (o:=.dK []) (h':=s.heap.push {cls:=.type "dict",data:=.dict #[]}) (t':=s.toks) (λ_ _ q=>cG _ q) (cH _) (zh9 s.heap I.big);refine wpAny_Dict_walk (knd:=cO X.prog X.w) jg hl h0 h15 (aY (h ak _ Z _ _ I1 (q _ hn)) λws s2 ⟨ps,H2,I2,rel,e,kvs,ep,lk,q2⟩=>?_);subst ep;obtain⟨rs,c,rk⟩:=ZS (P:=X.prog) (w:=X.w) rel;obtain⟨z,hd,vs0,r0,dd⟩:=znJ I2.hok e;cases r0;refine⟨rs,c,dd,λh' RT hs=>⟨.ref s.heap.objs.size,_,?_,rfl,q2⟩⟩;have hz:(lC [] kvs).length<=sizeLine:=by
  have h1:=ZR kvs [];rw[rW] at h1;rw[qL];lia
 have he:∃q,h'.get? s.heap.objs.size=some q:=let ⟨q,_,_,hq,_⟩:=RT;⟨q,hq⟩;exact zkl I2 (by rw[e];exact True.intro) hs he (zmS hz hd (rk.merge .nil) RT)
section
variable {X:Cx}{ak:List (Addr×Obj)}{Z:St}{H:Hp}{s:Shared}{a:Addr}{y d:V}{u r:Value}{o:Option V}{A:Around}{E:Value->Shared->Prop}
end
section
variable {X:Cx}{o e f:Expr}{apos cpos:Pos}{td ty tx:TE}
end
section
variable {X:Cx}{ak:List (Addr×Obj)}{Z:St}{H:Hp}{s:Shared}{a:Addr}{kvs:List (Key×V)}{A:Around}{E:Value->Shared->Prop}
end
section
variable {X:Cx}{ak:List (Addr×Obj)}{Z:St}{H:Hp}{s:Shared}{a:Addr}{y:V}{u:Value}{A:Around}{E:Value->Shared->Prop}
end
end L2
namespace Mi
open PySem PySem.Spec PyProof.Rows L2
section
variable {X:Cx}{cA:Cl}{ao:Nat->Nat->Bool}{aj:Bool}{F:Fn}{EX:XS}{a b c d e o:Expr}{A B C Dd E' O:E}{pos pp p2 apos cpos:Pos}{es:List Expr}{Xs:Es}{fz:Bool}{p:Pr}{x:Str}{U:Ph}{H:Hp}{s:S}{lo hi:Option Expr}{Lo Hi:Eo}
def KD(X:Cx)(cA:Cl)(ao:Nat->Nat->Bool)(aj:Bool)(F:Fn)(EX:XS)(oe:Option Expr)(m:Eo):Prop:=
 PO X oe (λZ H Q=>∃U J s,bD X.K cA U H Z J/\aH X.K cA U H s/\Run X.K cA (yN ao aj F m J) U H s (λi _ U' H'=>Q i H') (eX X.K cA EX Z))
theorem PO.weak{oe:Option Expr}{t t':TO}(h:PO X oe t)(f:∀Z H Q,t' Z H Q->t Z H Q):PO X oe t':=by
 intro ak s Z H Q I q;exact h ak s Z H Q I (f Z H Q q)
theorem znA:KD X cA ao aj F EX none .no:=PO.weak zke λZ H Q hh=>un hh λU J s hL hS h=>h.bK hS
theorem zmO(ha:SE X cA ao aj F EX a A):KD X cA ao aj F EX (some a) (.yes A):=PO.weak (zjd ha) λZ H Q hh=>un hh λU J s hL hS h=>by
 refine bf hL hS h λx H1 U1 d1 s1 x1 hL1 aK r1 h1=>?_;obtain⟨i,_,e,h3⟩:=Kq r1 h1;exact⟨i,e,h3.bK aK⟩
theorem KH{β:Type}{Z:L2.St}{J:Vs}{m:Eo}{k:Option Int->M β}{P:β->S->Ph->Hp->Prop}(hL:bD X.K cA U H Z J)(hS:aH X.K cA U H s)(h:Run X.K cA (M.bd (yN ao aj F m J) k) U H s P (eX X.K cA EX Z)){Q:Option Int->Hp->Prop}
  (f:∀i H1 U1 s1,Ext U H U1 H1->bD X.K cA U1 H1 Z J->aH X.K cA U1 H1 s1->Run X.K cA (k i) U1 H1 s1 P (eX X.K cA EX Z)->Q i H1) :
  ∃U J s,bD X.K cA U H Z J/\aH X.K cA U H s/\Run X.K cA (yN ao aj F m J) U H s (λi _ U' H'=>Q i H') (eX X.K cA EX Z):=
 ⟨U,J,s,hL,hS,h.bd.imp λi s1 U1 H1 ⟨x1,r1,h1⟩=>f i H1 U1 s1 x1 (hL.mono x1 hS.lz) r1 h1⟩
theorem znq(ha:SE X cA ao aj F EX a A)(hl:KD X cA ao aj F EX lo Lo)(hh:KD X cA ao aj F EX hi Hi):SE X cA ao aj F EX (.Subscript a (.Slice lo hi none p2) pos) (.sl fz A Lo Hi):=PE.weak (zix zkP ha hl hh) λZ H Q hh=>un hh λU J s hL hS h=>by
 refine bf hL hS h λx H1 U1 d1 s1 x1 hL1 aK r1 h1=>KH hL1 aK h1 λl H2 U2 s2 x2 hL2 aR h2=>KH hL2 aR h2 λu H3 U3 s3 x3 tu jr h3=>?_;obtain⟨dd,rv,h4⟩:=Kr jr ((r1.mono x2 aK.lz).mono x3 aR.lz) h3;exact zkD jr.zs rv (nq jr h4)
theorem zl1(ha:SE X cA ao aj F EX a A):SE X cA ao aj F EX (.Subscript a (.Slice none none (some (.UnaryOp .USub (.Constant (.int 1) j p3) p4)) p2) pos) (.pr true .rev (.cons A .nil)):=PE.weak (zlX ha) λZ H Q hh=>un hh λU J s hL hS h=>by
 have h:Run X.K cA (M.bd (M.bd (ev ao aj F A J) λx=>M.bd (M.ret []) λz=>M.ret (x::z)) λvs=>M.bd (fQ vs) λds=>bT true (prim .rev ds)) U H s _ _:=h;simp only[jU] at h;refine bf hL hS h λx H1 U1 d1 s1 x1 hL1 aK r1 h1=>?_;obtain⟨ds,rs,h3⟩:=oY aK (.cons r1 .nil) h1;have o:bC X.K cA U1 H1 (Dm ds) Q:=nq aK h3;unfold Dm at o;split at o
 ·obtain⟨v,e,r⟩:=rs.one;cases e;obtain⟨ad,us,e2,t,q⟩:=r.tup;subst e2;exact⟨ad,us,rfl,t.jD,λp hp=>bC.tup o aK.zs q.rev hp⟩
 ·exact o.elim
theorem ZV:∀bs:List Bool,(List.range bs.length).all (λi=>(bs[i]?).getD false)=bs.all id
 |[]=>rfl
 |b::r=>by
  rw[iC,Qq,lU,FT,lU];have:=ZV r;simp only[Function.comp_def,List.getElem?_cons_succ,List.getElem?_cons_zero,Option.getD_some,id];rw[this]
theorem zha(hc:X.aj=true):dB X (.builtin "all") (λxs H Q=>∃(p:Addr) (bs:List Bool),xs=[.ref p]/\dI X.K H p (bs.map V.bl)/\Q (.bl (bs.all id)) H):=by
 intro ak s Z H xs us Q I r ⟨p,bs,e,hp,q⟩;subst e;obtain⟨u,rfl,ru⟩:=Vals.one r;cases (show u=Value.ref p from ru);obtain⟨its,rv,pl,hz⟩:=I.list hp;have hl:s.heap.IsList p its.toArray:=pl.isList;have hpn:p≠s.heap.objs.size:=by
  obtain⟨o,hg,_⟩:=hl;exact dH (bW hg)
 refine call_all_walk (wpAny_pyIter_list hl ?_);refine⟨_,_,_,_,_,_,λi=>(bs[i]?).getD false,rfl,Walks.list (A:=X.A.in1) (I.ok.hd hc) _ p hpn its.toArray,⟨⟨_,iB _ rfl,rfl,rfl⟩,hl.push _⟩,?_,λh' tk hk=>?_⟩
 ·intro i v s' Q' E' hP hQ;have hi:its[i]?=some v:=by simpa using hP
  have hb:∃b,bs[i]?=some b:=by
   have hlt:i<its.length:=(jy.mp hi).1;have z:=rv.length;rw[bN] at z;exact⟨_,fL (by lia)⟩
  obtain⟨b,hb⟩:=hb;obtain⟨u,e1,e2⟩:=rv.get (i:=i) (x:=V.bl b) (by rw[i_,hb];rfl);rw[hi] at e1;cases e1;cases (show v=Value.bool b from e2);have hQ:Q' ((bs[i]?).getD false) s':=hQ;rw[hb] at hQ;exact qK hQ
 ·have ez:(List.range its.toArray.size).all (λi=>(bs[i]?).getD false)=bs.all id:=by
   have z:=rv.length;rw[bN] at z;rw[dJ,<-z];exact ZV bs
  rw[ez];refine⟨.bl (bs.all id),H,I.kept (h':=h') (t':=tk) (old_kept hk),rfl,q⟩
theorem zml{K:W.Frag}:aQ K cA .all (λxs H Q=>∃(p:Addr) (bs:List Bool),xs=[.ref p]/\dI K H p (bs.map V.bl)/\Q (.bl (bs.all id)) H):=by
 intro U H ds vs Q zt rs o;have o:bC K cA U H (Dl ds) Q:=o;unfold Dl at o;split at o
 ·obtain⟨v,rfl,⟨ad,us,rfl,l,q⟩⟩:=rs.one;obtain⟨z,e⟩:=o.some';obtain⟨bs,e1,e2⟩:=n_.mp e;subst e2;exact⟨ad,bs,rfl,by rw[<-Ov e1 q];exact l,(o.of e).here (.bl _)⟩
 ·exact o.elim
noncomputable def Av(k:Bool):Value->Bool
 |.bool c=>c==k
 |_=>false
theorem ZW{A:Around}{sh:Shared}{k:Bool}{bs:List Bool}{its:List Value}(rv:Vals (bs.map V.bl) its):∀y,y∈its.toArray->SeqAt.EqAt A sh y (.bool k) (Av k y):=λy hy=>by
 have hy:y∈its:=by simpa using hy
 obtain⟨i,hi,e⟩:=Fq hy;have hl:=rv.length;rw[bN] at hl;obtain⟨u,e1,e2⟩:=rv.get (i:=i) (x:=V.bl (bs[i]'(by lia))) (by rw[i_,fL (by lia)];rfl);rw[fL hi,e] at e1;cases e1;cases e2;exact SeqAt.EqAt.bool_bool _ _
theorem ZX:∀{bs:List Bool} {its:List Value},Vals (bs.map V.bl) its->its.countP (Av k)=bs.count k
 |[],_,.nil=>rfl
 |b::bs,_,.cons r t=>by
  cases r;rw[List.countP_cons,List.count_cons,ZX t];rfl
theorem zgb:Jf X "list.count" (λx xs H Q=>∃(l:Addr) (bs:List Bool) (b:Bool),x=.ref l/\xs=[.bl b]/\dI X.K H l (bs.map V.bl)/\Q (.int (bs.count b)) H):=by
 intro ak sh Z H x xs v us Q I rx r ⟨l,bs,b,e1,e2,hl,q⟩;subst e1 e2;cases (show v=Value.ref l from rx);obtain⟨u,rfl,ru⟩:=Vals.one r;cases (show u=Value.bool b from ru);obtain⟨its,rv,pl,_⟩:=I.list hl;obtain⟨⟨cls,dd,data,sl⟩,hg,hc,n,hd⟩:=pl.isList;simp only at hc hd;subst hc hd;refine BL PySem.F.slot_list_count ⟨_,hg,rfl⟩ PySem.F.entry_list_count (PySem.F.args_list_count_2 _ _) (SeqAt.list_countAt l its.toArray n dd sl (.bool b) (Av b)) ⟨hg,ZW rv,?_⟩;show EP X ak Z Q (.int _ _) _;refine⟨.int (bs.count b),H,I.tok _,?_,q⟩;rw[show its.toArray.toList=its from rfl,ZX rv];exact⟨_,rfl⟩
theorem Z0:∀{bs:List Bool} {its:List Value} {j:Nat},Vals (bs.map V.bl) its->bs.idxOf? k=some j->∃hj:j<its.length,Av k its[j]=true/\∀m (hm:m<its.length),m<j->Av k its[m]=false
 |[],_,j,.nil,h=>by simp at h
 |b::bs,_,j,.cons r t,h=>by
  cases r;rw[List.idxOf?_cons] at h;by_cases hb:b=k
  ·subst hb;simp at h;subst h;exact⟨Nat.zero_lt_succ _,by simp[Av],λm hm z=>absurd z (Nat.not_lt_zero _)⟩
  ·have hb':(b==k)=false:=by simpa using hb
   rw[hb'] at h;simp at h;obtain⟨j',h1,h2⟩:=h;subst h2;obtain⟨hj,a1,a2⟩:=Z0 t h1;refine⟨by simpa using hj,by simpa using a1,λm hm z=>?_⟩;cases m with
   |zero=>simp[Av,hb']
   |succ m=>simpa using a2 m (by simpa using hm) (by lia)
theorem zf0:Jf X "list.index" (λx xs H Q=>∃(l:Addr) (bs:List Bool) (b:Bool) (j:Nat),x=.ref l/\xs=[.bl b]/\dI X.K H l (bs.map V.bl)/\bs.idxOf? b=some j/\Q (.int j) H):=by
 intro ak sh Z H x xs v us Q I rx r ⟨l,bs,b,j,e1,e2,hl,hj,q⟩;subst e1 e2;cases (show v=Value.ref l from rx);obtain⟨u,rfl,ru⟩:=Vals.one r;cases (show u=Value.bool b from ru);obtain⟨its,rv,pl,hz⟩:=I.list hl;obtain⟨⟨cls,dd,data,sl⟩,hg,hc,n,hd⟩:=pl.isList;simp only at hc hd;subst hc hd;obtain⟨hlt,h1,h2⟩:=Z0 rv hj;have hs:(j:Int)<2^63-1:=by
  have z:=rv.length;rw[qL] at hz
  lia
 refine BL PySem.F.slot_list_index ⟨_,hg,rfl⟩ PySem.F.entry_list_index (PySem.F.args_list_index_2 _ _) (SeqAt.list_indexAt l its.toArray n dd sl (.bool b) (Av b) j (by simpa using hlt) hs (by simpa using h1) (λm hm z=>by simpa using h2 m (by simpa using hm) z)) ⟨hg,ZW rv,?_⟩;exact⟨.int j,H,I.tok _,⟨_,rfl⟩,q⟩
def TJ(K:W.Frag)(cA:Cl)(p:Pr)(r:V->List V->Hp->VK->Prop):Prop:=aQ K cA p (λvs H Q=>∃x xs,vs=x::xs/\r x xs H Q)
theorem ziq{K:W.Frag}:TJ K cA .count (λx xs H Q=>∃(l:Addr) (bs:List Bool) (b:Bool),x=.ref l/\xs=[.bl b]/\dI K H l (bs.map V.bl)/\Q (.int (bs.count b)) H):=by
 intro U H ds vs Q zt rs o;have o:bC K cA U H (qw ds) Q:=o;unfold qw at o;split at o
 ·obtain⟨v,v',rfl,⟨ad,us,rfl,l,q⟩,r2⟩:=rs.two (ds:=[]);obtain⟨z,e⟩:=o.some';obtain⟨bs,e1,e2⟩:=n_.mp e;subst e2;exact⟨_,_,rfl,ad,bs,_,rfl,by rw[r2.bl],by rw[<-Ov e1 q];exact l,(o.of e).here (.int _)⟩
 ·exact o.elim
theorem zhS{K:W.Frag}:TJ K cA .index (λx xs H Q=>∃(l:Addr) (bs:List Bool) (b:Bool) (j:Nat),x=.ref l/\xs=[.bl b]/\dI K H l (bs.map V.bl)/\bs.idxOf? b=some j/\Q (.int j) H):=by
 intro U H ds vs Q zt rs o;have o:bC K cA U H (qx ds) Q:=o;unfold qx at o;split at o
 ·obtain⟨v,v',rfl,⟨ad,us,rfl,l,q⟩,r2⟩:=rs.two (ds:=[]);obtain⟨z,e⟩:=o.some';obtain⟨j,e1,e2⟩:=n_.mp e;obtain⟨bs,e3,e4⟩:=zM.mp e1;subst e2;exact⟨_,_,rfl,ad,bs,_,j,rfl,by rw[r2.bl],by rw[<-Ov e3 q];exact l,e4,(o.of e).here (.int _)⟩
 ·exact o.elim
noncomputable def kdT:Kd->String
 |.list=>"list"
 |.str=>"str"
 |_=>"dict"
theorem zjf{K:W.Frag}{k:Kd}{dd:D}{v:V}(h:qp k dd=true)(r:Rv K cA U H dd v):Od K (kdT k) v H:=by
 cases k<;>cases dd<;>first
  |(cases h;done)
  |(obtain⟨a,vs,rfl,l,_⟩:=r;exact .inl ⟨rfl,vs,l⟩)
  |(rw[r.str];exact rfl)
  |(cases (show Rep K cA U H (.fd _ _) v from r) with|@fd _ _ _ q n=>exact .inr (.inr (.inl ⟨rfl,.inl ⟨_,q⟩⟩)))
theorem Z9{k:Kd}{id:String}{name:Str}{r:V->List V->Hp->VK->Prop}(pa:PlainAttrs (kdT k))(slot:Slot (kdT k) name id)(Jl:typeOf (.builtin id)=pure (.type "method_descriptor"))(hm:Jf X id r)(hr:TJ X.K cA p r)
  (ho:SE X cA ao aj F EX o O) (ha:SA X cA ao aj F EX (e::es) Xs)
  (bR:attributeBase o name X.env (eval o X.env)=eval o X.env:=by rfl)
  (mY:((backTo cpos (starEach (e::es) X.env)).all (λx=>!x.1)&&(backToKw cpos (keywordEach [] X.env)).all (λx=>x.1.isSome)
  &&decide ((e::es).length+([]:List Keyword).length+(if ([]:List Keyword).isEmpty then 0 else 1)<30))=true:=by rfl)
  (cV:(apos.endLine==cpos.line)=true:=by rfl) (hs:starEach (e::es) X.env=(false,eval e X.env)::starEach es X.env:=by rfl) (cT:(backTo cpos (starEach es X.env)).any (·.1)=false:=by rfl) :
  SE X cA ao aj F EX (.Call (.Attribute o name apos) (e::es) [] cpos) (.meth fz p k O Xs):=PE.weak (Yy pa slot Jl hm ho ha bR mY cV hs cT) λZ H Q hh=>un hh λU J s hL hS h=>by
 refine bf hL hS h λx H1 U1 d1 s1 x1 hL1 aK r1 h1=>?_;obtain⟨dd,rv,h2⟩:=Kr aK r1 h1;by_cases hk:qp k dd=true
 ·rw[if_pos hk] at h2;refine⟨zjf hk rv,sZ hL1 aK h2 λys H2 U2 ds s2 x2 hL2 aR r2 h3=>?_⟩;obtain⟨ds,rs,h4⟩:=oY aR (.cons (r1.mono x2 aK.lz) r2) h3;obtain⟨_,_,e,q⟩:=hr U2 H2 ds _ _ aR.zs rs (nq aR h4);cases e;exact q
 ·rw[if_neg hk] at h2;exact h2.elim
noncomputable def Ox:Kd->String->Bool
 |.int,"int"=>true
 |.int,"bool"=>true
 |.bool,"bool"=>true
 |.str,"str"=>true
 |.tuple,"tuple"=>true
 |.list,"list"=>true
 |.dict,"dict"=>true
 |_,_=>false
noncomputable def wY:Kd->Option Value
 |.int=>some (.type "int")
 |.bool=>some (.type "bool")
 |.str=>some (.type "str")
 |.tuple=>some (.type "tuple")
 |.list=>some (.type "list")
 |.dict=>some (.type "dict")
 |_=>none
theorem zmz{K:W.Frag}{k:Kd}{cu:Value}(h:wY k=some cu){T:String}(hT:T∈["NoneType","bool","int","str","tuple","list","dict"]):PySem.W.kitOne K (.type T) cu=some (Ox k T):=by
 simp only[dh,List.mem_nil_iff,nY] at hT;cases k<;>simp only[wY] at h<;>cases h<;>rcases hT with rfl|rfl|rfl|rfl|rfl|rfl|rfl<;>rfl
structure vH(K:W.Frag)(cA:Cl)(ao:Nat->Nat->Bool):Prop where
 xc:∀c,XC K (cA.a c)
 ao:∀c e,PySem.W.kitOne K (.ref (cA.a c)) (.ref (cA.a e))=some (ao c e)
 qm:∀c,PySem.W.kitOne K (.ref (cA.a c)) (.type "ValueError")=some true
noncomputable def Gu(cA:Cl):Kd->V
 |.cls e=>.ref (cA.a e)
 |.qm=>.ty "ValueError"
 |.int=>.ty "int"
 |.bool=>.ty "bool"
 |.str=>.ty "str"
 |.tuple=>.ty "tuple"
 |.list=>.ty "list"
 |.dict=>.ty "dict"
theorem zhM(Cs:wY k=none->vH X.K cA ao) :
  dB X (.builtin "isinstance") (λxs H Q=>∃U d v bb,xs=[v,Gu cA k]/\Rv X.K cA U H d v/\mz ao d k=some bb/\Q (.bl bb) H):=by
 intro ak sh Z H xs us Q I r ⟨U,d,v,bb,e,rd,hi,q⟩;subst e;obtain⟨u,w,rfl,ru,TQ⟩:=Vals.two r;have vI:∀tk,EP X ak Z Q (.bool bb) {sh with toks:=tk}:=λtk=>⟨.bl bb,H,I.tok tk,rfl,q⟩;have bt:∀{T:String} {Hh:Heap->Prop},PySem.W.KitX X.K u (.type T) Hh->Hh sh.heap->T∈["NoneType","bool","int","str","tuple","list","dict"]->u≠Value.builtin "__main__.__loader__#opaque"->(∃cu,wY k=some cu/\w=cu/\Ox k T=bb)->wpAny (model X.prog X.w) X.A (PySem.call (.builtin "isinstance") [u,w]) (EP X ak Z Q) X.xe sh:=λ{T Hh} zzZ hh hT hx ⟨cu,h1,h2,h3⟩=>by
  subst h2 h3;exact PySem.W.kia_one zzZ I.sG hh (zmz h1 hT) hx vI
 have wv:∀cu,wY k=some cu->w=cu:=λcu h=>by
  cases k<;>simp only[wY] at h<;>cases h<;>exact TQ
 have fin:∀T,mz ao d k=(match wY k with|some _=>some (Ox k T)|none=>none)->∃cu,wY k=some cu/\w=cu/\Ox k T=bb:=λT h=>by
  rw[hi] at h;cases z:wY k with
  |none=>rw[z] at h;cases h
  |some cu=>rw[z] at h;cases h;exact⟨cu,rfl,wv cu z,rfl⟩
 cases d with
 |non=>
  cases (show Rep X.K cA U H .non v from rd);cases (show u=Value.none from ru);exact bt PySem.W.kitx_none trivial (by simp) (λz=>nomatch z) (fin "NoneType" (by cases k<;>rfl))
 |bl b=>
  cases rd.bl;cases (show u=Value.bool b from ru);exact bt PySem.W.kitx_bool trivial (by simp) (λz=>nomatch z) (fin "bool" (by cases k<;>rfl))
 |int i=>
  cases rd.int;obtain⟨t,z⟩:=(show ∃t,u=Value.int i t from ru);cases z;exact bt PySem.W.kitx_int trivial (by simp) (λz=>nomatch z) (fin "int" (by cases k<;>rfl))
 |str y=>
  cases rd.str;obtain⟨t,z⟩:=(show ∃t,u=Value.str y t from ru);cases z;exact bt PySem.W.kitx_str trivial (by simp) (λz=>nomatch z) (fin "str" (by cases k<;>rfl))
 |tup xs=>
  obtain⟨ad,vs,rfl,h1,h2⟩:=rd.tup;cases (show u=Value.ref ad from ru);obtain⟨its,_,ht,_⟩:=I.tuple h1.jD;obtain⟨o,q1,q2,_⟩:=ht;exact bt PySem.W.kitx_tuple ⟨o,q1,q2⟩ (by simp) (λz=>nomatch z) (fin "tuple" (by cases k<;>rfl))
 |fl xs=>
  obtain⟨ad,vs,rfl,h1,h2⟩:=rd;cases (show u=Value.ref ad from ru);obtain⟨its,_,ht,_⟩:=I.list h1;obtain⟨o,q1,q2,_⟩:=ht.isList;exact bt PySem.W.kitx_list ⟨o,q1,q2⟩ (by simp) (λz=>nomatch z) (fin "list" (by cases k<;>rfl))
 |fd ks vs=>
  cases (show Rep X.K cA U H (.fd ks vs) v from rd) with
  |@fd ad kk ii q1 n=>
   cases (show u=Value.ref ad from ru);obtain⟨_,_,vs,_,o,es',ep,g1,g2,_⟩:=(show aU X.prog X.w H sh.heap ad (.dK [(.inr kk,.int ii)]) from I.hok ad _ q1);exact bt PySem.W.kitx_dict ⟨o,g1,g2.1⟩ (by simp) (λz=>nomatch z) (fin "dict" (by cases k<;>rfl))
 |ob c fs=>cases k<;>cases hi
 |exc c fs=>
  cases (show Rep X.K cA U H (.exc c fs) v from rd) with
  |@exc ad _ _ vs hx rs=>
   cases (show u=Value.ref ad from ru);have hI:∃ox od,PySem.W.InstAt sh.heap ad ox (cA.a c) od:=by
    obtain⟨_,⟨_,_,hx⟩|⟨dx,hx,_,hd,_⟩⟩:=hx
    ·obtain⟨⟨oe,vs,g1,g2,g3,g4⟩,_⟩:=(show aU X.prog X.w H sh.heap ad (lg ad (cA.a c) none) from I.hok ad _ hx);exact⟨oe,none,g1,g2,by unfold PySem.W.notCls;rw[g4],by rw[g3];trivial⟩
    ·obtain⟨⟨oe,vs,g1,g2,g3,g4⟩,_⟩:=(show aU X.prog X.w H sh.heap ad (lg ad (cA.a c) (some dx)) from I.hok ad _ hx);obtain⟨mA,⟨od,es,ep,e1,c1⟩,_⟩:=(show aU X.prog X.w H sh.heap dx (.xd _) from I.hok dx _ hd);exact⟨oe,some od,g1,g2,by unfold PySem.W.notCls;rw[g4],by rw[g3];exact e1⟩
   cases k with
   |cls e=>
    cases (show w=Value.ref (cA.a e) from TQ);have z:some (ao c e)=some bb:=hi;cases z;exact PySem.W.kia_one (YT ((Cs rfl).xc c)) I.sG hI ((Cs rfl).ao c e) (λz=>nomatch z) vI
   |qm=>
    cases (show w=Value.type "ValueError" from TQ);have z:some true=some bb:=hi;cases z;exact PySem.W.kia_one (YT ((Cs rfl).xc c)) I.sG hI ((Cs rfl).qm c) (λz=>nomatch z) vI
   |_=>cases hi
theorem zlw(Cs:wY k=none->vH X.K cA ao)(hg:Gl X "isinstance")(hm:X.mg "isinstance"=none)(ha:SE X cA ao aj F EX a A)(hk:PE X kx (tC (Gu cA k)))(h1:starEach [a,kx] X.env=(false,eval a X.env)::starEach [kx] X.env:=by rfl)(h2:starEach [kx] X.env=(false,eval kx X.env)::starEach [] X.env:=by rfl)
  (bM:(backTo pos (starEach [kx] X.env)).any (·.1)=false:=by rfl):SE X cA ao aj F EX (.Call (.Name "isinstance" pp) [a,kx] [] pos) (.gQ A k):=PE.weak (Yr (zhM (cA:=cA) (k:=k) Cs) hg hm PyProof.Rows.boot_isinstance (uW ha (uW hk Cv h2) h1) (by decide) (by decide) h1 bM) λZ H Q hh=>un hh λU J s hL hS h=>
 bf hL hS h λv H1 U1 d s1 x1 hL1 aK r1 h1=>by
  show ∃U d' v' bb,[v,Gu cA k]=[v',Gu cA k]/\_;obtain⟨dd,rv,h2⟩:=Kr aK r1 h1;obtain⟨bb,e,h3⟩:=Ti h2;exact⟨U1,dd,v,bb,rfl,rv,e,h3.bK aK _ (.d (.bl bb))⟩
theorem zjN{j p1 j2 p3}:SE X cA ao aj F EX (.Dict [some (.Constant (.str k) j p1)] [.Constant (.int i) j2 p3] pos) (.vq k i):=PE.weak (zjO (zhT X_ Q5 zj6) rfl rfl (by simp) (Qs rfl)) λZ H Q hh=>un hh λU J s hL hS h=>by
 intro p hp;refine⟨lV,[(.inr k,.int i)],rfl,Qs rfl,?_⟩;rw[XQ];exact h U _ (bO.new hp).ext (hS.grow (bO.new hp)) _ (.d (.fd lV (hS.nz hp)))
end
section
variable {K:W.Frag}{cA:Cl}{U U':Ph}{H H':Hp}{s:S}
theorem TupAt.lO(e:∀a,U'.z a->U.z a){a:Addr}{vs:List V}(h:TupAt K U H a vs):TupAt K U' H a vs:=h.imp (λ⟨p,n⟩=>⟨p,λz=>n (e a z)⟩) id
theorem LstAt.lO(e:∀a,U'.z a->U.z a){a:Addr}{vs:List V}(h:LstAt K U H a vs):LstAt K U' H a vs:=h.imp (λ⟨p,n⟩=>⟨p,λz=>n (e a z)⟩) id
theorem ExcAt.lO(e:∀a,U'.z a->U.z a){a:Addr}{c:Nat}{vs:List V}(h:ExcAt cA U H a c vs):ExcAt cA U' H a c vs:=
 ⟨λz=>h.1 (e a z),h.2.imp id λ⟨dx,p,n,q,l⟩=>⟨dx,p,λz=>n (e dx z),q,l⟩⟩
theorem qz.lO(e:∀a,U'.z a->U.z a){a:Addr}{c:Nat}{vs:List V}(h:qz cA U H a c vs):qz cA U' H a c vs:=⟨λz=>h.1 (e a z),h.2⟩
theorem Rep.lO(e:∀a,U'.z a->U.z a){d:D}{v:V}(h:Rep K cA U H d v):Rep K cA U' H d v:=
 Rep.rec (motive_1:=λd v _=>Rep K cA U' H d v) (motive_2:=λd v _=>aD K cA U' H d v) .non .bl .int .str (λh _ i=>.tup (h.lO e) i) (λh _ i=>.fl (h.lO e) i) (λh n=>.fd h (λz=>n (e _ z))) (λh _ i=>.exc (h.lO e) i) (λh _ i=>.ob (h.lO e) i) .nil (λ_ _ i j=>.cons i j) h
theorem aD.lO(e:∀a,U'.z a->U.z a){d:List D}{v:List V}(h:aD K cA U H d v):aD K cA U' H d v:=
 aD.rec (motive_1:=λd v _=>Rep K cA U' H d v) (motive_2:=λd v _=>aD K cA U' H d v) .non .bl .int .str (λh _ i=>.tup (h.lO e) i) (λh _ i=>.fl (h.lO e) i) (λh n=>.fd h (λz=>n (e _ z))) (λh _ i=>.exc (h.lO e) i) (λh _ i=>.ob (h.lO e) i) .nil (λ_ _ i j=>.cons i j) h
theorem oW.lO(e:∀a,U'.z a->U.z a){a:Addr}{o:SO}(h:oW K cA U H a o):oW K cA U' H a o:=by
 cases o with
 |lst xs=>obtain⟨vs,q1,q2⟩:=h;exact⟨vs,q1,q2.lO e⟩
 |dct _ _=>exact h
theorem Rep.zl{d:D}{v:V}(h:Rep K cA U H d v)(l:List Addr):Rep K cA ⟨U.z,l⟩ H d v:=Rep.lO (U:=U) (U':=⟨U.z,l⟩) (λ_ z=>z) h
theorem aD.zl{d:List D}{v:List V}(h:aD K cA U H d v)(l:List Addr):aD K cA ⟨U.z,l⟩ H d v:=aD.lO (U:=U) (U':=⟨U.z,l⟩) (λ_ z=>z) h
theorem oW.zl{a:Addr}{o:SO}(h:oW K cA U H a o)(l:List Addr):oW K cA ⟨U.z,l⟩ H a o:=oW.lO (U:=U) (U':=⟨U.z,l⟩) (λ_ z=>z) h
noncomputable def adr(l:List Addr):List Nat->List Addr
 |[]=>[]
 |n::r=>match l[n]? with
  |some a=>a::adr l r
  |none=>adr l r
theorem Gv{l:List Addr}:∀{ns:List Nat} {a:Addr},a∈adr l ns->∃n∈ns,l[n]?=some a
 |[],a,h=>by cases h
 |n::r,a,h=>by
  unfold adr at h;cases e:l[n]? with
  |none=>
   simp only[e] at h;obtain⟨m,h1,h2⟩:=Gv h;exact⟨m,fM _ h1,h2⟩
  |some b=>
   simp only[e] at h;rcases dh.mp h with rfl|h
   ·exact⟨n,fV,e⟩
   ·obtain⟨m,h1,h2⟩:=Gv h;exact⟨m,fM _ h1,h2⟩
theorem Z_{s:S}:∀{ns:List Nat} {s0:S} {i n:Nat},jo s ns=some s0->ns[i]?=some n->s0[i]?=s[n]?/\∃o,s[n]?=some o
 |[],s0,i,n,h,e=>by simp at e
 |m::r,s0,i,n,h,e=>by
  unfold jo at h;cases e1:s[m]? with
  |none=>simp only[e1] at h;cases h
  |some o=>
   cases e2:jo s r with
   |none=>simp only[e1,e2] at h;cases h
   |some q=>
    simp only[e1,e2] at h;cases h;cases i with
    |zero=>simp at e;subst e;exact⟨by simp[e1],o,e1⟩
    |succ i=>simpa using Z_ e2 (by simpa using e)
theorem zeB{s:S}:∀{ns:List Nat} {s0:S},jo s ns=some s0->s0.length=ns.length
 |[],s0,h=>by cases h;rfl
 |m::r,s0,h=>by
  unfold jo at h;cases e1:s[m]? with
  |none=>simp only[e1] at h;cases h
  |some o=>
   cases e2:jo s r with
   |none=>simp only[e1,e2] at h;cases h
   |some q=>
    simp only[e1,e2] at h;cases h;rw[iC,iC,zeB e2]
theorem KJ{l:List Addr}:∀{ns:List Nat} {i n:Nat},(∀n∈ns,∃a,l[n]?=some a)->ns[i]?=some n->(adr l ns)[i]?=l[n]?
 |[],i,n,_,e=>by simp at e
 |m::r,i,n,h,e=>by
  obtain⟨a,ha⟩:=h m fV;unfold adr;simp only[ha];cases i with
  |zero=>simp at e;subst e;simp[ha]
  |succ i=>simpa using KJ (λn hn=>h n (fM _ hn)) (by simpa using e)
theorem KN{l:List Addr}:∀{ns:List Nat},(∀n∈ns,∃a,l[n]?=some a)->(adr l ns).length=ns.length
 |[],_=>rfl
 |m::r,h=>by
  obtain⟨a,ha⟩:=h m fV;unfold adr;simp only[ha];rw[iC,iC,KN (λn hn=>h n (fM _ hn))]
theorem zdG{l:List Addr}(hl:l.Nodup):∀{ns:List Nat},ns.Nodup->(∀n∈ns,∃a,l[n]?=some a)->(adr l ns).Nodup
 |[],_,_=>FQ
 |m::r,hn,h=>by
  obtain⟨a,ha⟩:=h m fV;unfold adr;simp only[ha];obtain⟨h1,h2⟩:=rY.mp hn;refine rY.mpr ⟨λz=>?_,zdG hl h2 (λn hn=>h n (fM _ hn))⟩;obtain⟨n,q1,q2⟩:=Gv z;have:m=n:=(QG (jy.mp ha).1 hl).mp (ha.trans q2.symm);exact h1 (this▸q1)
theorem Gw{s:S}:∀{ns:List Nat} {s1:S},(dF s ns s1).length=s.length
 |[],s1=>by cases s1<;>rfl
 |n::r,[]=>rfl
 |n::r,o::q=>by
  show (dF (s.set n o) r q).length=_;rw[Gw,pZ]
theorem TX{s:S}:∀{ns:List Nat} {s1:S} {m:Nat},m∉ns->(dF s ns s1)[m]?=s[m]?
 |[],s1,m,_=>by cases s1<;>rfl
 |n::r,[],m,_=>rfl
 |n::r,o::q,m,h=>by
  show (dF (s.set n o) r q)[m]?=_;rw[TX (λz=>h (fM _ z)),tW (λz=>h (by rw[z];exact fV))]
theorem zfg{s:S}:∀{ns:List Nat} {s1:S} {i m:Nat} {o:SO},ns.Nodup->ns[i]?=some m->s1[i]?=some o->m<s.length->(dF s ns s1)[m]?=some o
 |[],s1,i,m,o,_,e,_,_=>by simp at e
 |n::r,[],i,m,o,_,_,e,_=>by simp at e
 |n::r,q::qs,i,m,o,hn,e1,e2,hm=>by
  show (dF (s.set n q) r qs)[m]?=_;obtain⟨h1,h2⟩:=rY.mp hn;cases i with
  |zero=>
   simp at e1 e2;subst e1 e2;rw[TX h1,zN hm]
  |succ i=>exact zfg h2 (by simpa using e1) (by simpa using e2) (by rw[pZ];exact hm)
theorem zgf:∀{xs:List Xv} {vs:List V} (l0:List Addr) (z:Addr->Prop) (k:Nat),cg K cA U H xs vs->U.z=z->(∀i n,(locs xs)[i]?=some n->l0[k+i]?=U.l[n]?)->cg K cA ⟨z,l0⟩ H (dY k xs) vs
 :=by
 intro xs vs l0 z k r0
 induction r0 generalizing k with
 |nil=>exact λ_ _=>.nil
 |@cons x v xs vs a q ih=>
  intro ez h;cases a with
  |d a=>exact .cons (.d (a.lO λb hb=>by rw[ez];exact hb)) (ih k ez h)
  |@l n a' a=>
   refine .cons (.l ?_) (ih (k+1) ez λi m e=>?_)
   ·have:=h 0 n rfl;rw[Nat.add_zero] at this;show l0[k]?=_;rw[this];exact a
   ·have:=h (i+1) m (by simpa [locs] using e);rw[<-this]
    congr 1
    lia
theorem zfL:∀{xs:List Xv} {vs:List V},cg K cA U H xs vs->∀n∈locs xs,∃a,U.l[n]?=some a
 :=by
 intro xs vs r0
 induction r0 with
 |nil=>exact λn h=>by cases h
 |cons a q ih=>
  intro n h;cases a with
  |d a=>exact ih n h
  |l a=>
   rcases dh.mp h with rfl|h
   ·exact⟨_,a⟩
   ·exact ih n h
theorem zdP{xs:List Xv}{U1:Ph}{s0 s1:S}(hS:aH K cA U H s)(hn:(locs xs).Nodup)(ht:∀n∈locs xs,∃a,U.l[n]?=some a)(x:Ext ⟨U.z,adr U.l (locs xs)⟩ H U1 H')(r1:aH K cA U1 H' s1) :
  Ext U H ⟨U1.z,U.l⟩ H'/\aH K cA ⟨U1.z,U.l⟩ H' (dF s (locs xs) s1):=by
 have ao:∀a∈adr U.l (locs xs),a∈U.l:=λa ha=>by obtain⟨n,_,q⟩:=Gv ha;exact jd q
 obtain⟨r,er,hr⟩:=x.more;have er:U1.l=adr U.l (locs xs)++r:=er;refine⟨⟨⟨[],by simp,by simp⟩,λa h=>x.wV a h,λa h=>x.oX a h,λa o h n=>x.frame a o h λz=>n (ao a z),x.stay⟩,?_⟩;refine⟨by rw[Gw];exact hS.len,λn o a e1 e2=>?_,hS.uniq,λa ha=>x.wV a (hS.lz a ha),r1.zt⟩;have e2:U.l[n]?=some a:=e2;by_cases gM:n∈locs xs
 ·obtain⟨i,hi,ei⟩:=Fq gM;have ei:(locs xs)[i]?=some n:=by rw[fL hi,ei]
  have ha:(adr U.l (locs xs))[i]?=some a:=by rw[KJ ht ei];exact e2
  have vJ:U1.l[i]?=some a:=by rw[er,qH (jy.mp ha).1];exact ha
  have hlt:i<s1.length:=by rw[<-r1.len];exact(jy.mp vJ).1
  have hb:=zfg (s:=s) (s1:=s1) hn ei (fL hlt) (by rw[<-hS.len];exact(jy.mp e2).1);rw[hb] at e1;cases e1;exact oW.zl (r1.obj i _ a (fL hlt) vJ) _
 ·rw[TX gM] at e1;have TY:a∉adr U.l (locs xs):=λz=>by
   obtain⟨m,q1,q2⟩:=Gv z;have:n=m:=(QG (jy.mp e2).1 hS.uniq).mp (e2.trans q2.symm);exact gM (this▸q1)
  have:=hS.obj n o a e1 e2;cases o with
  |lst ys=>
   obtain⟨us,q1,q2⟩:=this;refine⟨us,x.frame a _ q1 TY,?_⟩;have q3:aD K cA ⟨U.z,adr U.l (locs xs)⟩ H ys us:=aD.zl q2 _;exact aD.zl (q3.mono x λa ha=>hS.lz a (ao a ha)) _
  |dct _ _=>exact this
theorem zij{F:List Xv->M Xv}{xs:List Xv}{vs:List V}{Q:VK}{EE:Nat->List D->Ph->Hp->Prop}(hS:aH K cA U H s)(r:cg K cA U H xs vs)
  (hE:∀c fs U1 U2 H',U1.z=U2.z->EE c fs U1 H'->EE c fs U2 H')
  (h:Run K cA (cR F xs) U H s (λx _ U' H'=>∀v,bJ K cA U' H' x v->Q v H') (λc fs _ U' H'=>EE c fs U' H')) :
  ∃U0 s0,cg K cA U0 H (dY 0 xs) vs/\aH K cA U0 H s0/\Run K cA (F (dY 0 xs)) U0 H s0 (λx _ U' H'=>∀v,bJ K cA U' H' x v->Q v H') (λc fs _ U' H'=>EE c fs U' H'):=by
 unfold Run cR at h;by_cases hn:(locs xs).Nodup
 ·simp only[if_pos hn] at h;have ht:=zfL r;have ao:∀a∈adr U.l (locs xs),a∈U.l:=λa ha=>by obtain⟨n,_,q⟩:=Gv ha;exact jd q
  cases e0:jo s (locs xs) with
  |none=>simp only[e0] at h
  |some s0=>
   simp only[e0] at h;refine⟨⟨U.z,adr U.l (locs xs)⟩,s0,zgf _ _ 0 r rfl (λi n e=>by rw[Nat.zero_add];exact KJ ht e),?_,?_⟩
   ·refine⟨by rw[zeB e0];exact KN ht,λi o a e1 e2=>?_,zdG hS.uniq hn ht,λa ha=>hS.lz a (ao a ha),hS.zt⟩;have e2:(adr U.l (locs xs))[i]?=some a:=e2;have hi:i<(locs xs).length:=by rw[<-KN ht];exact(jy.mp e2).1
    have ei:(locs xs)[i]?=some ((locs xs)[i]):=fL hi;rw[KJ ht ei] at e2;rw[(Z_ e0 ei).1] at e1;exact oW.zl (hS.obj _ o a e1 e2) _
   ·unfold Run;cases e1:F (dY 0 xs) s0 with
    |none=>simp only[e1] at h
    |some q=>
     obtain⟨q,s1⟩:=q;simp only[e1] at h;cases q with
     |er c fs=>
      intro U1 H' x r1;obtain⟨x2,r2⟩:=zdP (s0:=s0) hS hn ht x r1;exact hE c fs ⟨U1.z,U.l⟩ U1 H' rfl (h ⟨U1.z,U.l⟩ H' x2 r2)
     |ok y=>
      intro U1 H' x r1 v rv;obtain⟨x2,r2⟩:=zdP (s0:=s0) hS hn ht x r1;cases y with
      |d w=>
       cases rv with
       |d rv=>exact h ⟨U1.z,U.l⟩ H' x2 r2 v (.d (Rep.zl rv _))
      |l n=>
       cases rv with
       |@l _ a hl=>
        obtain⟨rr,er,hr⟩:=x.more;have er:U1.l=adr U.l (locs xs)++rr:=er;cases em:(locs xs)[n]? with
        |some m=>
         simp only[em] at h;refine h _ H' x2 r2 _ (.l ?_);show U.l[m]?=some a;have ha:(adr U.l (locs xs))[n]?=U.l[m]?:=KJ ht em;have hlt:n<(adr U.l (locs xs)).length:=by rw[KN ht];exact(jy.mp em).1
         rw[er,qH hlt] at hl;rw[<-ha];exact hl
        |none=>
         simp only[em] at h;have hge:(adr U.l (locs xs)).length<=n:=by rw[KN ht];exact qI.mp em
         have Oj:a∈rr:=by
          rw[er,pH hge] at hl;exact jd hl
         have TY:a∉U.l:=λz=>by
          obtain⟨o,eo⟩:=hS.zt a (hS.lz a z);rw[hr a Oj] at eo;cases eo
         cases eo:s1[n]? with
         |none=>simp only[eo] at h
         |some o=>
          simp only[eo] at h;have ho:=r1.obj n o a eo hl;refine h ⟨U1.z,U.l++[a]⟩ H' ⟨⟨[a],rfl,by simpa using hr a Oj⟩,x2.wV,x2.oX,x2.frame,x2.stay⟩ ?_ _ (.l (by show (U.l++[a])[s.length]?=_;rw[<-hS.len];simp));refine⟨by show (U.l++[a]).length=_;rw[cY,cY,Gw,hS.len];rfl,λm o' a' e1 e2=>?_,?_,λb hb=>?_,r1.zt⟩
          ·have e2:(U.l++[a])[m]?=some a':=e2;by_cases hm:m<s.length
           ·rw[qH (by rw[Gw];exact hm)] at e1;rw[qH (by rw[hS.len];exact hm)] at e2;exact oW.zl (r2.obj m o' a' e1 e2) _
           ·have sO:m=s.length:=by
             have z:=(jy.mp e2).1;rw[cY,hS.len] at z;simp at z
             lia
            subst sO;rw[pH (by rw[Gw];exact cH _)] at e1;rw[pH (by rw[hS.len];exact cH _)] at e2;simp[Gw] at e1;simp[hS.len] at e2;subst e1 e2;exact oW.zl ho _
          ·show (U.l++[a]).Nodup;rw[Hv];refine⟨hS.uniq,by simp,λb hb c hc e=>?_⟩;simp at hc;subst hc e;exact TY hb
          ·have hb:b∈U.l++[a]:=hb;rcases fO.mp hb with z|z
           ·exact x2.wV b (hS.lz b z)
           ·simp at z;subst z;exact r1.lz _ (jd hl)
 ·simp only[if_neg hn] at h
end
section
variable {X:Cx}{cA:Cl}{ao:Nat->Nat->Bool}{aj:Bool}{F:Fn}{EX:XS}{a b c d e o:Expr}{A B C Dd E' O:E}{pos pp p2 apos cpos:Pos}{es:List Expr}{Xs:Es}{fz:Bool}{p:Pr}{x:Str}{U:Ph}{H:Hp}{s:S}
theorem Oz{K:W.Frag}{β:Type}{x:Xv}{v:V}{k:Nat×List D->M β}{P:β->S->Ph->Hp->Prop}{Ee:Nat->List D->S->Ph->Hp->Prop}(hS:aH K cA U H s)(r:bJ K cA U H x v)(h:Run K cA (M.bd (cW x) k) U H s P Ee) :
  ∃n ad xs vs,x=.l n/\v=.ref ad/\s[n]?=some (.lst xs)/\U.l[n]?=some ad/\H ad=some (.lst vs)/\aD K cA U H xs vs/\Run K cA (k (n,xs)) U H s P Ee:=by
 cases r with
 |d _=>exact h.elim
 |@l n ad hl=>
  unfold Run M.bd cW at h;dsimp only at h;cases e:s[n]? with
  |none=>rw[e] at h;exact h.elim
  |some o=>
   rw[e] at h;cases o with
   |lst xs=>
    obtain⟨vs,q1,q2⟩:=hS.obj n _ _ e hl;exact⟨n,ad,xs,vs,rfl,rfl,e,hl,q1,q2,h⟩
   |dct _ _=>exact h.elim
theorem zjI(ho:SE X cA ao aj F EX o O)(ha:SE X cA ao aj F EX a A)
  (bR:attributeBase o "append" X.env (eval o X.env)=eval o X.env:=by rfl)
  (mY:((backTo cpos (starEach [a] X.env)).all (λx=>!x.1)&&(backToKw cpos (keywordEach [] X.env)).all (λx=>x.1.isSome)
  &&decide ([a].length+([]:List Keyword).length+(if ([]:List Keyword).isEmpty then 0 else 1)<30))=true:=by rfl)
  (cV:(apos.endLine==cpos.line)=true:=by rfl) (hs:starEach [a] X.env=(false,eval a X.env)::starEach [] X.env:=by rfl) (cT:(backTo cpos (starEach [] X.env)).any (·.1)=false:=by rfl) :
  SE X cA ao aj F EX (.Call (.Attribute o "append" apos) [a] [] cpos) (.push O A):=PE.weak (Yy M5 PySem.F.slot_list_append PySem.F.type_list_append YB ho (uW ha Cv hs) bR mY cV hs cT) λZ H Q hh=>un hh λU J s hL hS h=>by
 refine bf hL hS h λx H1 U1 d1 s1 x1 hL1 aK r1 h1=>?_;obtain⟨n,ad,xs,vs,rfl,rfl,e1,f1,g1,q1,h2⟩:=Oz aK r1 h1;refine⟨.inl ⟨rfl,vs,dI.of g1⟩,bf hL1 aK h2 λy H2 U2 d2 s2 x2 hL2 aR r2 h3=>?_⟩;obtain⟨dd,_,rd,h4⟩:=Tj r2 h3;obtain⟨n',ad',ys,us,en,ea,e2,f2,g2,q2,h5⟩:=Oz aR (r1.mono x2 aK.lz) h4;cases en;cases ea;by_cases hz:ys.length<sizeLine
 ·have h5:Run X.K cA (M.bd (putL n (ys++[dd])) λ_=>M.ret (Xv.d .non)) U2 H2 s2 (λd _ U' H'=>∀v,bJ X.K cA U' H' d v->Q v H') (eX X.K cA EX Z):=by
   have h6:Run X.K cA (if ys.length<sizeLine then M.bd (putL n (ys++[dd])) λ_=>M.ret (Xv.d .non) else M.no) U2 H2 s2 (λd _ U' H'=>∀v,bJ X.K cA U' H' d v->Q v H') (eX X.K cA EX Z):=h5;rw[if_pos hz] at h6;exact h6
  refine⟨ad,us,y,rfl,rfl,g2,by rw[<-q2.len];exact hz,?_⟩;exact h5 U2 _ (Ext.write f2 ⟨_,g2⟩) (aR.write e2 f2 (q2.app (.cons rd .nil))) _ (.d .non)
 ·have h6:Run X.K cA (if ys.length<sizeLine then M.bd (putL n (ys++[dd])) λ_=>M.ret (Xv.d .non) else M.no) U2 H2 s2 (λd _ U' H'=>∀v,bJ X.K cA U' H' d v->Q v H') (eX X.K cA EX Z):=h5;rw[if_neg hz] at h6;exact h6.elim
theorem zd6{α:Type}{xs:List α}{d:α}(h:xs.getLast?=some d):xs[xs.length-1]?=some d:=by
 rw[List.getLast?_eq_getElem?] at h;exact h
theorem aD.dropLast{K:W.Frag}{ds:List D}{vs:List V}(r:aD K cA U H ds vs):aD K cA U H ds.dropLast vs.dropLast:=by
 rw[List.dropLast_eq_take,List.dropLast_eq_take,r.len];exact r.take _
theorem zmj(ho:SE X cA ao aj F EX o O)(bR:attributeBase o "pop" X.env (eval o X.env)=eval o X.env:=by rfl)(cV:(apos.endLine==cpos.line)=true:=by rfl) :
  SE X cA ao aj F EX (.Call (.Attribute o "pop" apos) [] [] cpos) (.pop O):=PE.weak (zmm M5 PySem.F.slot_list_pop PySem.F.type_list_pop zkR ho bR cV) λZ H Q hh=>un hh λU J s hL hS h=>by
 refine bf hL hS h λx H1 U1 d1 s1 x1 hL1 aK r1 h1=>?_;obtain⟨n,ad,xs,vs,rfl,rfl,e1,f1,g1,q1,h2⟩:=Oz aK r1 h1;refine⟨.inl ⟨rfl,vs,dI.of g1⟩,?_⟩;cases eg:xs.getLast? with
 |none=>simp only[eg] at h2;exact h2.elim
 |some dd=>
  simp only[eg] at h2;obtain⟨w,hw,oA⟩:=q1.get (zd6 eg);rw[q1.len] at hw;refine⟨ad,vs,w,rfl,rfl,g1,hw,?_⟩;have x2:Ext U1 H1 U1 (upd H1 ad (.lst vs.dropLast)):=Ext.write f1 ⟨_,g1⟩;exact h2 U1 _ x2 (aK.write e1 f1 q1.dropLast) _ (.d (oA.mono x2 aK.lz))
noncomputable def wZ(K:W.Frag)(cA:Cl)(m:List Xv->M Xv):Sp:=λvs H Q E=>∃U xs s,cg K cA U H xs vs/\aH K cA U H s/\Run K cA (m xs) U H s (λd _ U' H'=>∀v,bJ K cA U' H' d v->Q v H') (λc fs _ U' H'=>∀dx,lB K cA U' H' c fs dx->E (.ref (cA.a c)) dx H')
theorem zje{K:W.Frag}{U1 U2:Ph}{c:Nat}{fs:List D}{dx:Option Addr}(e:U1.z=U2.z)(h:lB K cA U2 H c fs dx):lB K cA U1 H c fs dx:=h.imp id λ⟨d,vs,a,b,c,l,r⟩=>⟨d,vs,a,by rw[e];exact b,c,l,r.lO λ_ z=>by rw[<-e];exact z⟩
theorem zkm{cm:Bool}{k f:Nat}{fa:Addr}{fd:FuncData}{ps:List Str}(Fo:gA X.prog X.w X.K X.mg X.base (mZ X.prog X.w) cm k fa fd ps (wZ X.K cA (F f)))(sH:cm=true->X.aj=true)(hr:cD k X.A)(hg:Gl X x)(hm:X.mg x=some (.ref fa))(hk:PySem.W.keepIn X.K (.ref fa)=true)(hb:Binds X.K fd ps [])(R:Raises X EX)
  (ha:SA X cA ao aj F EX (e::es) Xs) (kZ:(x==("__debug__" : Str))=false:=by decide) (he:starEach (e::es) X.env=(false,eval e X.env)::starEach es X.env:=by rfl) (bM:(backTo pos (starEach es X.env)).any (·.1)=false:=by rfl) :
  SE X cA ao aj F EX (.Call (.Name x pp) (e::es) [] pos) (.call f Xs):=PE.weak (zhJ Fo sH hr hg hm hk hb R ha kZ he bM) λZ H Q hh=>un hh λU J s hL hS h=>
 sZ hL hS h λvs H1 U1 ds s1 x1 hL1 aK r1 h1=>by
  obtain⟨U0,s0,a1,a2,a3⟩:=zij (EE:=λc fs U' H'=>∀dx,lB X.K cA U' H' c fs dx->EX Z (.ref (cA.a c)) dx H') aK r1 (λc fs U1 U2 H' ez z dx q=>z dx (zje ez q)) h1;exact⟨U0,_,s0,a1,a2,a3⟩
end
section
variable {K:W.Frag}{cA:Cl}{U U':Ph}{H H':Hp}{s:S}
def fZ(U:Ph)(H H':Hp):Prop:=∀a o,H a=some o->¬U.z a->H' a=some o
mutual
theorem Rep.out(x:fZ U H H'):∀{d:D} {v:V},Rep K cA U H d v->Rep K cA U H' d v
 |_,_,.non=>.non
 |_,_,.bl b=>.bl b
 |_,_,.int i=>.int i
 |_,_,.str z=>.str z
 |_,_,.tup h r=>.tup (h.imp (λ⟨p,n⟩=>⟨p.imp (λq=>x _ _ q n) λ⟨o,q⟩=>⟨o,x _ _ q n⟩,n⟩) id) (aD.out x r)
 |_,_,.fl h r=>.fl (h.imp (λ⟨p,n⟩=>⟨p.imp (λq=>x _ _ q n) λ⟨o,q⟩=>⟨o,x _ _ q n⟩,n⟩) id) (aD.out x r)
 |_,_,.fd h n=>.fd (x _ _ h n) n
 |_,_,.exc h r=>.exc ⟨h.1,h.2.imp (λ⟨a,b,q⟩=>⟨a,b,x _ _ q h.1⟩) λ⟨dx,p,n,q,l⟩=>⟨dx,x _ _ p h.1,n,x _ _ q n,l⟩⟩ (aD.out x r)
 |_,_,.ob h r=>.ob ⟨h.1,let ⟨dx,p,l⟩:=h.2;⟨dx,x _ _ p h.1,l⟩⟩ (aD.out x r)
theorem aD.out(x:fZ U H H'):∀{ds:List D} {vs:List V},aD K cA U H ds vs->aD K cA U H' ds vs
 |_,_,.nil=>.nil
 |_,_,.cons h r=>.cons (Rep.out x h) (aD.out x r)
end
theorem fZ.refl:fZ U H H:=λa o e _=>e
structure oZ(K:W.Frag)(cA:Cl)(c:Src)(U:Ph)(H:Hp)(cJ:L2.It):Prop where
 stop:∀U' H₁ H' s' i,Ext U H U' H₁->fZ U' H₁ H'->aH K cA U' H' s'->c.at i s'=some none->cJ.stop i H'
 go:∀U' H₁ H' s' i x,Ext U H U' H₁->fZ U' H₁ H'->aH K cA U' H' s'->c.at i s'=some (some x)->cJ.go i H'
 Cp:∀U' H₁ H' s' i x v H2,Ext U H U' H₁->fZ U' H₁ H'->aH K cA U' H' s'->c.at i s'=some (some x)->cJ.Cp i H' v H2->bO H' H2/\Rep K cA U' H2 x v
theorem LstAt.later(hz:∀a∈U.l,U.z a)(h:LstAt K U H a vs)(x:Ext U H U' H₁)(o:fZ U' H₁ H'):LstAt K U' H' a vs:=
 (h.mono x hz).imp (λ⟨p,n⟩=>⟨p.imp (λq=>o _ _ q n) λ⟨w,q⟩=>⟨w,o _ _ q n⟩,n⟩) id
theorem TupAt.later(hz:∀a∈U.l,U.z a)(h:TupAt K U H a vs)(x:Ext U H U' H₁)(o:fZ U' H₁ H'):TupAt K U' H' a vs:=
 (h.mono x hz).imp (λ⟨p,n⟩=>⟨p.imp (λq=>o _ _ q n) λ⟨w,q⟩=>⟨w,o _ _ q n⟩,n⟩) id
theorem oZ.list(hz:∀a∈U.l,U.z a)(h:LstAt K U H a vs)(r:aD K cA U H xs vs):oZ K cA (.fix xs) U H (N6 K a):=by
 refine⟨λU' H₁ H' s' i x o hS e=>⟨vs,(h.later hz x o).wW,?_⟩,λU' H₁ H' s' i d x o hS e=>?_,λU' H₁ H' s' i d v H2 x o hS e y=>?_⟩
 ·have e:xs[i]?=none:=dM e;exact qI.mp ((r.mono x hz).none e)
 ·have e:xs[i]?=some d:=dM e;obtain⟨v,q,_⟩:=r.get e;exact⟨vs,v,(h.later hz x o).wW,q⟩
 ·have e:xs[i]?=some d:=dM e;obtain⟨rfl,y⟩:=y;obtain⟨w,q,oA⟩:=((r.mono x hz).out o).get e;have:=y vs (h.later hz x o).wW;rw[q] at this;cases this;exact⟨bO.refl,oA⟩
theorem oZ.tuple(hz:∀a∈U.l,U.z a)(h:TupAt K U H a vs)(r:aD K cA U H xs vs):oZ K cA (.fix xs) U H (Ri K a):=by
 refine⟨λU' H₁ H' s' i x o hS e=>⟨vs,(h.later hz x o).jD,?_⟩,λU' H₁ H' s' i d x o hS e=>?_,λU' H₁ H' s' i d v H2 x o hS e y=>?_⟩
 ·have e:xs[i]?=none:=dM e;exact qI.mp ((r.mono x hz).none e)
 ·have e:xs[i]?=some d:=dM e;obtain⟨v,q,_⟩:=r.get e;exact⟨vs,v,(h.later hz x o).jD,q⟩
 ·have e:xs[i]?=some d:=dM e;obtain⟨rfl,y⟩:=y;obtain⟨w,q,oA⟩:=((r.mono x hz).out o).get e;have:=y vs (h.later hz x o).jD;rw[q] at this;cases this;exact⟨bO.refl,oA⟩
theorem T3(h:(Src.live n).at i s=some o):∃xs,s[n]?=some (.lst xs)/\xs[i]?=o:=by
 unfold Src.at at h;dsimp only at h;cases e:s[n]? with
 |none=>rw[e] at h;cases h
 |some ob=>
  rw[e] at h;cases ob with
  |lst xs=>exact⟨xs,rfl,dM h⟩
  |dct _ _=>cases h
theorem oZ.live(h:U.l[n]?=some a):oZ K cA (.live n) U H (N6 K a):=by
 refine⟨λU' H₁ H' s' i x o hS e=>?_,λU' H₁ H' s' i d x o hS e=>?_,λU' H₁ H' s' i d v H2 x o hS e y=>?_⟩
 ·obtain⟨xs,e1,e2⟩:=T3 e;obtain⟨vs,q1,q2⟩:=hS.obj n _ a e1 (x.get h);exact⟨vs,dI.of q1,qI.mp (q2.none e2)⟩
 ·obtain⟨xs,e1,e2⟩:=T3 e;obtain⟨vs,q1,q2⟩:=hS.obj n _ a e1 (x.get h);obtain⟨v,q3,_⟩:=q2.get e2;exact⟨vs,v,dI.of q1,q3⟩
 ·obtain⟨xs,e1,e2⟩:=T3 e;obtain⟨vs,q1,q2⟩:=hS.obj n _ a e1 (x.get h);obtain⟨w,q3,oA⟩:=q2.get e2;obtain⟨rfl,y⟩:=y;have:=y vs (dI.of q1);rw[q3] at this;cases this;exact⟨bO.refl,oA⟩
theorem T4:(jT a b)[i]?=if i<(b-a).toNat then some (.int (a+i)) else none:=by
 unfold jT;rw[i_,List.getElem?_range']
where
 List.getElem?_range' {n i:Nat}:Option.map (λ(i:Nat)=>D.int (a+i)) (List.range n)[i]?=if i<n then some (.int (a+i)) else none:=by
  by_cases h:i<n
  ·rw[if_pos h,List.getElem?_range h];rfl
  ·rw[if_neg h,M9 (by simp;lia)];rfl
theorem oZ.range{a b:Int}:oZ K cA (.fix (jT a b)) U H (Iv a (b-a).toNat):=by
 refine⟨λU' H₁ H' s' i x o hS e=>?_,λU' H₁ H' s' i d x o hS e=>?_,λU' H₁ H' s' i d v H2 x o hS e y=>?_⟩
 ·have e:(jT a b)[i]?=none:=dM e;rw[T4] at e;split at e
  ·cases e
  ·exact Hx (by assumption)
 ·have e:(jT a b)[i]?=some d:=dM e;rw[T4] at e;split at e
  ·assumption
  ·cases e
 ·have e:(jT a b)[i]?=some d:=dM e;rw[T4] at e;split at e
  ·cases e;obtain⟨rfl,rfl⟩:=y;exact⟨bO.refl,.int _⟩
  ·cases e
end
noncomputable def T5(K:W.Frag)(te:TE):TI:=λZ H R=>te Z H λv H1=>∃a,v=.ref a/\(((∃xs,dI K H1 a xs)/\R (N6 K a) H1)\/((∃xs,gj K H1 a xs)/\R (Ri K a) H1))
theorem zmG(he:PE X l te):PI X tg l (T5 X.K te):=by
 intro ak s Z H R I h;refine aY (he ak s Z H _ I h) λv s1 hx=>wM hx λx H1 I1 r1 a e q=>?_;subst e;cases r1;rcases q with ⟨⟨xs,hq⟩,q⟩|⟨⟨xs,hq⟩,q⟩
 ·obtain⟨its,rv,p,hz⟩:=I1.list hq;refine wpAny_pyIter_list p.isList ?_;refine⟨s1.heap.objs.size,[s1.heap.objs.size],_,_,H1,rfl,I1.kept (t':=s1.toks) λb o e=>cG _ e,zgJ a _,⟨_,iB _ rfl,rfl,rfl⟩,λb hb=>?_,q⟩;have e:b=s1.heap.objs.size:=by simpa using hb
  subst e;exact I1.yj (cH _) (I1.hok.fresh (cH _))
 ·obtain⟨its,rv,p,hz⟩:=I1.tuple hq;refine wpAny_pyIter_tuple (show s1.heap.IsTuple a its.toArray from p) ?_;refine⟨s1.heap.objs.size,[s1.heap.objs.size],_,_,H1,rfl,I1.kept (t':=s1.toks) λb o e=>cG _ e,zfm a _,⟨_,iB _ rfl,rfl,rfl⟩,λb hb=>?_,q⟩;have e:b=s1.heap.objs.size:=by simpa using hb
  subst e;exact I1.yj (cH _) (I1.hok.fresh (cH _))
section
variable {X:Cx}{cA:Cl}{ao:Nat->Nat->Bool}{aj:Bool}{F:Fn}{EX:XS}{a b tg:Expr}{A B:E}{pos pp:Pos}
noncomputable def tI(K:W.Frag)(cA:Cl)(EX:XS)(m:Vs->M (Src×Nat)):TI:=λZ H R=>∃U J s,bD K cA U H Z J/\aH K cA U H s/\Run K cA (m J) U H s (λcn _ U1 H1=>∀cJ,oZ K cA cn.1 U1 H1 cJ->R cJ H1) (eX K cA EX Z)
def SI(X:Cx)(cA:Cl)(ao:Nat->Nat->Bool)(aj:Bool)(F:Fn)(EX:XS)(tg iter:Expr)(w:Wk):Prop:=PI X tg iter (tI X.K cA EX (oU ao aj F w))
theorem PI.weak{iter:Expr}{t t':TI}(h:PI X tg iter t)(f:∀Z H Q,t' Z H Q->t Z H Q):PI X tg iter t':=λak s Z H Q I q=>h ak s Z H Q I (f Z H Q q)
theorem zm9(ha:SE X cA ao aj F EX a A):SI X cA ao aj F EX tg a (.seq A):=PI.weak (zmG ha) λZ H R hh=>un hh λU J s hL hS h=>by
 refine bf hL hS h λv H1 U1 d s1 x1 hL1 aK r1 h1=>?_;cases r1 with
 |@l n ad hl=>
  unfold Run src at h1;dsimp only at h1;cases e:s1[n]? with
  |none=>rw[e] at h1;exact h1.elim
  |some o=>
   rw[e] at h1;cases o with
   |lst xs=>
    obtain⟨vs,q1,q2⟩:=aK.obj n _ _ e hl;exact⟨ad,rfl,.inl ⟨⟨vs,dI.of q1⟩,h1 U1 H1 Ext.refl aK _ (oZ.live hl)⟩⟩
   |dct _ _=>exact h1.elim
 |d r1=>
  cases r1 with
  |tup q r=>exact⟨_,rfl,.inr ⟨⟨_,q.jD⟩,h1 U1 H1 Ext.refl aK _ (oZ.tuple aK.lz q r)⟩⟩
  |fl q r=>exact⟨_,rfl,.inl ⟨⟨_,q.wW⟩,h1 U1 H1 Ext.refl aK _ (oZ.list aK.lz q r)⟩⟩
  |_=>exact h1.elim
theorem ze4{i:Int}(h:gC i=true) : -(2^62)<=i/\i<2^62:=by
 unfold gC at h;rw[cU,Fz,Fz] at h;exact⟨by lia,h.2⟩
theorem ziT{K:W.Frag}{U:Ph}{H:Hp}{s:S}{i j:Int}{P:Src×Nat->S->Ph->Hp->Prop}{Ee:Nat->List D->S->Ph->Hp->Prop}(hS:aH K cA U H s)(h:Run K cA (if (gC i&&gC j)=true then M.ret (Src.fix (jT i j),(jT i j).length) else M.no) U H s P Ee):(-(2^62)<=i/\i<2^62/\-(2^62)<=j/\j<2^62)/\P (.fix (jT i j),(jT i j).length) s U H:=by
 by_cases hk:(gC i&&gC j)=true
 ·rw[if_pos hk] at h;rw[cU] at hk;obtain⟨a,b⟩:=ze4 hk.1;obtain⟨c,d⟩:=ze4 hk.2;exact⟨⟨a,b,c,d⟩,h.bK hS⟩
 ·rw[if_neg hk] at h;exact h.elim
theorem zny(vK:Gl X "range")(hmg:X.mg "range"=none)(ha:SE X cA ao aj F EX a A)(hb:SE X cA ao aj F EX b B)(h1:starEach [a,b] X.env=(false,eval a X.env)::starEach [b] X.env)(h2:starEach [b] X.env=(false,eval b X.env)::starEach [] X.env) :
  SI X cA ao aj F EX tg (.Call (.Name "range" pp) [a,b] [] pos) (.rg A B):=PI.weak (zgD vK hmg (uW ha (uW hb Cv h2) h1) (by rw[h1,h2];rfl) (by rw[h2];rfl)) λZ H R hh=>un hh λU J s hL hS h=>by
 refine bf hL hS h λx H1 U1 d1 s1 x1 hL1 aK r1 h1=>bf hL1 aK h1 λy H2 U2 d2 s2 x2 hL2 aR r2 h2=>?_;obtain⟨i,_,e1,h3⟩:=Kq (r1.mono x2 aK.lz) h2;obtain⟨j,_,e2,h4⟩:=Kq r2 h3;obtain⟨hz,q⟩:=ziT aR h4;subst e1 e2;exact⟨i,j,rfl,hz,q _ oZ.range⟩
theorem zlR(vK:Gl X "range")(hmg:X.mg "range"=none)(hb:SE X cA ao aj F EX b B)(h2:starEach [b] X.env=(false,eval b X.env)::starEach [] X.env) :
  SI X cA ao aj F EX tg (.Call (.Name "range" pp) [b] [] pos) (.rg (.c (.int 0)) B):=PI.weak (zf5 vK hmg (uW hb Cv h2) (by rw[h2];rfl)) λZ H R hh=>un hh λU J s hL hS h=>by
 have h:Run X.K cA (M.bd (ev ao aj F B J) λy=>M.bd (int (.d (.int 0))) λi=>M.bd (int y) λj=>if (gC i&&gC j)=true then M.ret (Src.fix (jT i j),(jT i j).length) else M.no) U H s _ _:=h;refine bf hL hS h λy H2 U2 d2 s2 x2 hL2 aR r2 h2=>?_;obtain⟨j,_,e2,h4⟩:=Kq r2 (show Run X.K cA (M.bd (int d2) λj=>if (gC 0&&gC j)=true then M.ret (Src.fix (jT 0 j),(jT 0 j).length) else M.no) U2 H2 s2 _ _ from h2);obtain⟨hz,q⟩:=ziT aR h4;subst e2;refine⟨j,rfl,hz.2.2.1,hz.2.2.2,q _ ?_⟩;have:=oZ.range (K:=X.K) (cA:=cA) (U:=U2) (H:=H2) (a:=0) (b:=j);rw[Int.sub_zero] at this;exact this
end
section
variable {K:W.Frag}{cA:Cl}{U U' U0:Ph}{H H' H0:Hp}{s:S}
theorem Run.bd0(x:Ext U0 H0 U H)(h:Run K cA (M.bd m k) U0 H0 s P Ee) :
  Run K cA m U H s (λa s1 U1 H1=>Ext U H U1 H1/\aH K cA U1 H1 s1/\Run K cA (k a) U0 H0 s1 P Ee) Ee:=by
 unfold Run M.bd at *;cases e:m s with
 |none=>rw[e] at h;exact h
 |some r=>
  obtain⟨r,s1⟩:=r;rw[e] at h;cases r with
  |er c f=>exact λU1 H1 x1 r1=>h U1 H1 (x.trans x1) r1
  |ok a=>exact λU1 H1 x1 r1=>⟨x1,r1,h⟩
theorem zgn{α β:Type}{m:M α}{k:α->M β}{P:β->S->Ph->Hp->Prop}{Ee Ee':Nat->List D->S->Ph->Hp->Prop}(x:Ext U0 H0 U H)(h:Run K cA (M.bd (M.qt m) k) U0 H0 s P Ee) :
  Run K cA m U H s (λa s1 U1 H1=>Ext U H U1 H1/\aH K cA U1 H1 s1/\Run K cA (k a) U0 H0 s1 P Ee) Ee':=by
 have h2:=h.bd0 x;unfold Run at h2 ⊢;unfold M.qt at h2;cases e:m s with
 |none=>rw[e] at h2;exact h2
 |some r=>
  obtain⟨r,s1⟩:=r;rw[e] at h2;cases r with
  |ok a=>exact h2
  |er c f=>exact h2.elim
theorem znd{α β:Type}{m m':M α}{k:α->M β}{P:β->S->Ph->Hp->Prop}{Ee:Nat->List D->S->Ph->Hp->Prop}(e:m s=m' s)(h:Run K cA (M.bd m k) U H s P Ee):Run K cA (M.bd m' k) U H s P Ee:=by
 unfold Run M.bd at *;rw[<-e];exact h
end
section
variable {X:Cx}{cA:Cl}{ao:Nat->Nat->Bool}{aj:Bool}{F:Fn}{EX:XS}{elt iter tg:Expr}{A B:E}{pos p:Pos}{ifs:List Expr}{scope:Scope}{N:List Str}{cond:Eo}{fr dU:List Nat}{many:Nat}{fz:Bool}{w:Wk}
def KQ(X:Cx)(cA:Cl)(ao:Nat->Nat->Bool)(aj:Bool)(F:Fn)(EX:XS)(ifs:List Expr)(m:Eo):Prop:=Oh X ifs (Al X.K cA EX (uh ao aj F m))
theorem zl0:KQ X cA ao aj F EX [] .no:=λak s Z H Q I ⟨U,J,st,hL,hS,h⟩=>zjp ak s Z H Q I (h.bK hS)
theorem zkc(h:ST X cA ao aj F EX c C):KQ X cA ao aj F EX [c] (.yes C):=zkJ h
structure nu(K:W.Frag)(cA:Cl)(g:TG)(dU:List Nat):Prop where
 run:∀(U:Ph) (H:Hp) (s:S) (Z:L2.St) (J J':Vs) (d:D) (v:V) (Q:L2.St->Hp->Prop),bD K cA U H Z J->aH K cA U H s->Rep K cA U H d v->jC dU d J=some J'->
  (∀Z',bD K cA U H Z' J'->Z'.length=Z.length->(∀i,i∉dU->Z'[i]?=Z[i]?)->Q Z' H)->g v Z H Q
theorem nA{K:W.Frag}(i:Nat):nu K cA (eZ i) [i] where
 run:=λU H s Z J J' d v Q hL hS r e k=>by
  cases e;exact k _ (hL.set (.d r)) (pZ ..) λj hj=>tW (by simpa using λz=>hj (by simp[z]))
theorem T6{K:W.Frag}(i j:Nat):nu K cA (uR K 2 (iG (eZ i) (iG (eZ j) uQ))) [i,j] where
 run:=λU H s Z J J' d v Q hL hS r e k=>by
  have e:(mC d).bind (λds=>g_ [i,j] (ds.map Xv.d) J)=some J':=e;obtain⟨ds,e1,e2⟩:=zM.mp e;cases r with
  |@tup ad xs vs h1 h2=>
   have e1:xs=ds:=dM e1;subst e1;cases h2 with
   |nil=>cases e2
   |cons r1 t1=>
    cases t1 with
    |nil=>cases e2
    |cons r2 t2=>
     cases t2 with
     |nil=>
      have e2:=dM e2;subst e2;refine⟨ad,_,rfl,h1.jD,rfl,_,_,rfl,_,_,rfl,rfl,k _ ((hL.set (.d r1)).set (.d r2)) (by rw[pZ,pZ]) λm hm=>?_⟩;rw[tW (λz=>hm (by simp[z])),tW (λz=>hm (by simp[z]))]
     |cons r3 t3=>cases e2
  |_=>cases e1
noncomputable def dj(many:Nat)(fr:List Nat)(Z:L2.St):L2.St:=List.replicate many none++fr.map λj=>(Z[j]?).join
theorem zkh{U:Ph}{H:Hp}{Z:L2.St}{J:Vs}(hL:bD X.K cA U H Z J){Z':L2.St}(hl:Z'.length=many+fr.length)(hf:∀(i:Nat) j v,fr[i]?=some j->Z[j]?=some (some v)->Z'[many+i]?=some (some v)):bD X.K cA U H Z' (blk many fr J):=by
 refine⟨by unfold blk;simp[hl],λi d e=>?_⟩;unfold blk at e;by_cases hi:i<many
 ·rw[qH (by simpa using hi),M4,if_pos hi] at e;cases e
 ·rw[pH (by simpa using Hx hi),Hj,i_] at e;cases z:fr[i-many]? with
  |none=>rw[z] at e;cases e
  |some j=>
   rw[z] at e;have e3:J[j]?.join=some d:=by simpa using e
   obtain⟨v,q1,q2⟩:=hL.2 j d (Tn e3);refine⟨v,?_,q2⟩;have:=hf (i-many) j v z q1;rw[show many+(i-many)=i by omega] at this;exact this
structure Keep(U:Ph)(H:Hp)(Dd:Addr)(vs:List V):Prop where
 at_:H Dd=some (.lst vs)
 nl:Dd∉U.l
 z:U.z Dd
theorem Keep.mono{U U':Ph}{H H':Hp}{Dd:Addr}{vs:List V}(x:Ext U H U' H')(k:Keep U H Dd vs):Keep U' H' Dd vs:=by
 refine⟨x.frame _ _ k.at_ k.nl,λz=>?_,x.wV _ k.z⟩;obtain⟨r,er,hr⟩:=x.more;rw[er] at z;rcases fO.mp z with z|z
 ·exact k.nl z
 ·have:=hr _ z;rw[k.at_] at this;cases this
theorem Keep.ext{U:Ph}{H:Hp}{Dd:Addr}{vs us:List V}(k:Keep U H Dd vs):(∀a o,H a=some o->¬U.z a->(upd H Dd (.lst us)) a=some o)/\Keep U (upd H Dd (.lst us)) Dd us:=
 ⟨λa o e n=>by rw[dW (λz=>n (by rw[z];exact k.z))];exact e,lV,k.nl,k.z⟩
end
section
variable {K:W.Frag}{cA:Cl}{U U':Ph}{H H':Hp}
theorem aH.keep{s:S}{Dd:Addr}{vs us:List V}(h:aH K cA U H s)(k:Keep U H Dd vs):aH K cA U (upd H Dd (.lst us)) s:=by
 have x:fZ U H (upd H Dd (.lst us)):=k.ext.1;refine⟨h.len,λn o a e1 e2=>?_,h.uniq,h.lz,λa z=>?_⟩
 ·have na:a≠Dd:=λy=>k.nl (by rw[<-y];exact jd e2);have:=h.obj n o a e1 e2;cases o with
  |lst ys=>obtain⟨ws,q1,q2⟩:=this;exact⟨ws,by rw[dW na];exact q1,q2.out x⟩
  |dct _ _=>exact this
 ·by_cases e:a=Dd
  ·subst e;exact⟨_,lV⟩
  ·obtain⟨o,q⟩:=h.zt a z;exact⟨o,by rw[dW e];exact q⟩
theorem Ext.keep{U1:Ph}{H1:Hp}{Dd:Addr}{vs us:List V}(x:Ext U1 H1 U H)(hD:H1 Dd=none):Ext U1 H1 U (upd H Dd (.lst us)):=by
 refine⟨x.more,x.wV,x.oX,λa o h n=>?_,λa o h=>?_⟩
 ·rw[dW (λz=>by rw[z,hD] at h;cases h)];exact x.frame a o h n
 ·rw[dW (λz=>by rw[z,hD] at h;cases h)];exact x.stay a o h
theorem zgg{U1:Ph}{H1:Hp}{s':S}{fz:Bool}{acc:List D}{vs:List V}{Dd:Addr}{Q:VK}{Ee:Nat->List D->S->Ph->Hp->Prop}(h:Run K cA (newL fz acc) U1 H1 s' (λd _ U' H'=>∀v,bJ K cA U' H' d v->Q v H') Ee)
  (x2:Ext U1 H1 U' H') (hD:H1 Dd=none) (nz:¬U1.z Dd) (aR:aH K cA U' H' s') (k:Keep U' H' Dd vs) (Aw:aD K cA U' H' acc vs):Q (.ref Dd) H':=by
 cases fz with
 |true=>
  have zq:∀a,(λa=>U'.z a/\a≠Dd) a->U'.z a:=λa z=>z.1;refine h ⟨λa=>U'.z a/\a≠Dd,U'.l⟩ H' ⟨x2.more,λa z=>⟨x2.wV a z,λe=>nz (by rw[<-e];exact z)⟩,λa z=>x2.oX a z.1,x2.frame,x2.stay⟩ ?_ _ (.d (.fl (.inl ⟨.inl k.at_,λz=>z.2 rfl⟩) (aD.lO (U:=U') zq Aw)));refine⟨aR.len,λn o a e1 e2=>oW.lO (U:=U') zq (aR.obj n o a e1 e2),aR.uniq,λa ha=>⟨aR.lz a ha,λe=>k.nl (by rw[<-e];exact ha)⟩,λa z=>aR.zt a z.1⟩
 |false=>
  obtain⟨r,er,hr⟩:=x2.more;refine h ⟨U'.z,U'.l++[Dd]⟩ H' ⟨⟨r++[Dd],by show U'.l++[Dd]=_;rw[er,Fy],λb hb=>?_⟩,x2.wV,x2.oX,x2.frame,x2.stay⟩ ?_ _ (.l (by show (U'.l++[Dd])[s'.length]?=_;rw[<-aR.len];simp))
  ·rcases fO.mp hb with z|z
   ·exact hr b z
   ·simp at z;subst z;exact hD
  ·refine⟨by show (U'.l++[Dd]).length=_;rw[cY,cY,aR.len];rfl,λm o' a' e1 e2=>?_,?_,λb hb=>?_,aR.zt⟩
   ·have e2:(U'.l++[Dd])[m]?=some a':=e2;by_cases hm:m<s'.length
    ·rw[qH hm] at e1;rw[qH (by rw[aR.len];exact hm)] at e2;exact oW.zl (aR.obj m o' a' e1 e2) _
    ·have sO:m=s'.length:=by
      have z:=(jy.mp e2).1;rw[cY,aR.len] at z;simp at z;omega
     subst sO;rw[pH (cH _)] at e1;rw[pH (by rw[aR.len];exact cH _)] at e2;simp at e1;simp[aR.len] at e2;subst e1 e2;exact⟨vs,k.at_,aD.zl Aw _⟩
   ·show (U'.l++[Dd]).Nodup;rw[Hv];refine⟨aR.uniq,by simp,λb hb c hc e=>?_⟩;simp at hc;subst hc e;exact k.nl hb
   ·have hb:b∈U'.l++[Dd]:=hb;rcases fO.mp hb with z|z
    ·exact aR.lz b z
    ·simp at z;subst z;exact k.z
noncomputable def Ph.mark(U:Ph)(p:Addr):Ph:=⟨λa=>U.z a\/a=p,U.l⟩
theorem zfK{s:S}{p:Addr}(hS:aH K cA U H s)(hp:H p=none):Ext U H (U.mark p) (upd H p (.lst []))/\aH K cA (U.mark p) (upd H p (.lst [])) s/\Keep (U.mark p) (upd H p (.lst [])) p []:=by
 have g:=bO.new (o:=.lst []) hp;have nz:=hS.nz hp;refine⟨⟨⟨[],by simp[Ph.mark],by simp⟩,λa z=>.inl z,λa z=>z.imp id λe=>by rw[e];exact hp,λa o h _=>g a o h,λa o h=>⟨o,g a o h⟩⟩,⟨hS.len,λn o a e1 e2=>?_,hS.uniq,λa ha=>.inl (hS.lz a ha),λa z=>?_⟩,lV,λz=>nz (hS.lz p z),.inr rfl⟩
 ·have x:Ext U H (U.mark p) (upd H p (.lst [])):=⟨⟨[],by simp[Ph.mark],by simp⟩,λa z=>.inl z,λa z=>z.imp id λe=>by rw[e];exact hp,λa o h _=>g a o h,λa o h=>⟨o,g a o h⟩⟩;have:=hS.obj n o a e1 e2;cases o with
  |lst ys=>obtain⟨us,q1,q2⟩:=this;exact⟨us,g _ _ q1,q2.mono x hS.lz⟩
  |dct _ _=>exact this
 ·rcases z with z|z
  ·obtain⟨o,e⟩:=hS.zt a z;exact⟨o,g _ _ e⟩
  ·subst z;exact⟨_,lV⟩
end
section
variable {X:Cx}{cA:Cl}{ao:Nat->Nat->Bool}{aj:Bool}{F:Fn}{EX:XS}{elt iter tg:Expr}{A B:E}{pos p:Pos}{ifs:List Expr}{scope:Scope}{N:List Str}{cond:Eo}{fr dU:List Nat}{many:Nat}{fz:Bool}{w:Wk}
noncomputable abbrev gY(ao:Nat->Nat->Bool)(aj:Bool)(F:Fn)(B:E)(cond:Eo)(dU:List Nat)(Jb:Vs):D->List D->M (List D):=λd acc=>M.bd (M.opt (jC dU d Jb)) λJ'=>M.bd (M.qt (uh ao aj F cond J')) λok=>
    if ok=true then M.bd (M.qt (ev ao aj F B J')) λy=>M.bd (dat y) λe=>if acc.length<sizeLine then M.ret (acc++[e]) else M.no else M.ret acc
theorem ziV{H:Hp}{a:Addr}{o:HO}(h:H a=some o):upd H a o=H:=funext λb=>by
 by_cases z:b=a
 ·subst z;rw[lV,h]
 ·rw[dW z]
theorem ziC{K:W.Frag}{g:TG}{U1 U':Ph}{H1 H2:Hp}{s':S}{Z':L2.St}{Jb:Vs}{Dd:Addr}{acc:List D}{vs:List V}{xi:D}{v:V}{β:Type}{kk:List D->M β}{P:β->S->Ph->Hp->Prop}{Ee:Nat->List D->S->Ph->Hp->Prop}(hT:nu K cA g dU)(gM:∀i∈dU,i<many)
  (hD:H1 Dd=none) (x2:Ext U1 H1 U' H2) (hL2:bD K cA U' H2 Z' Jb) (aR:aH K cA U' H2 s') (kp:Keep U' H2 Dd vs) (Aw:aD K cA U' H2 acc vs) (rx:Rep K cA U' H2 xi v)
  (h:Run K cA (M.bd (gY ao aj F B cond dU Jb xi acc) kk) U1 H1 s' P Ee) {Nn:L2.St->Hp->Prop}
  (hN:∀Z3 H3 U3 s3 yV OD,Z3.length=Z'.length->(∀i,many<=i->Z3[i]?=Z'[i]?)->Ext U1 H1 U3 H3->Ext U' H2 U3 (upd H3 Dd (.lst vs))->aH K cA U3 H3 s3->Keep U3 H3 Dd OD->aD K cA U3 H3 yV OD->Run K cA (kk yV) U1 H1 s3 P Ee->Nn Z3 H3) :
  g v Z' H2 λZ3 H3=>Al K cA (λ_ _ _ _=>False) (uh ao aj F cond) Z3 H3 λok H4=>
   if ok=true then tE K cA (λ_ _ _ _=>False) (ev ao aj F B) Z3 H4 λy H5=>∃ys,H5 Dd=some (.lst ys)/\ys.length<sizeLine/\Nn Z3 (upd H5 Dd (.lst (ys++[y]))) else Nn Z3 H4:=by
 unfold gY at h;rw[jU] at h;obtain⟨J',e1,h1⟩:=Ti h;refine hT.run U' H2 s' Z' Jb J' xi v _ hL2 aR rx e1 λZ3 tu hl3 hf3=>?_;rw[jU] at h1;have kf:∀i,many<=i->Z3[i]?=Z'[i]?:=λi hi=>hf3 i λz=>absurd (gM i z) (HX.mpr hi);refine⟨U',J',s',tu,aR,(zgn x2 h1).imp λok s4 U4 H4 ⟨x4,jZ,h6⟩=>?_⟩;cases ok with
 |false=>
  refine iF (hN Z3 H4 U4 s4 acc vs hl3 kf (x2.trans x4) (by rw[ziV (kp.mono x4).at_];exact x4) jZ (kp.mono x4) (Aw.mono x4 aR.lz) ?_);rw[if_neg (by decide)] at h6;exact h6
 |true=>
  rw[if_pos rfl,jU] at h6;refine iT ⟨U4,J',s4,tu.mono x4 aR.lz,jZ,(zgn (x2.trans x4) h6).imp λy s5 U5 H5 ⟨x5,vB,h7⟩ u ru=>?_⟩;rw[jU] at h7;have k5:=(kp.mono x4).mono x5;have r5:=(Aw.mono x4 aR.lz).mono x5 jZ.lz;have x15:=(x2.trans x4).trans x5;obtain⟨dd,ey,rd,h8⟩ : ∃d,y=.d d/\Rep K cA U5 H5 d u/\Run K cA (M.bd (if acc.length<sizeLine then M.ret (acc++[d]) else M.no) kk) U1 H1 s5 P Ee:=by
   cases ru with
   |l _=>exact h7.elim
   |d r=>exact⟨_,rfl,r,h7⟩
  by_cases hz:acc.length<sizeLine
  ·rw[if_pos hz] at h8;refine⟨vs,k5.at_,by rw[<-r5.len];exact hz,?_⟩;have ox:fZ U5 H5 (upd H5 Dd (.lst (vs++[u]))):=k5.ext.1;exact hN Z3 _ U5 s5 (acc++[dd]) (vs++[u]) hl3 kf (Ext.keep (vs:=vs) x15 hD) (by rw[XQ,ziV k5.at_];exact x4.trans x5) (vB.keep k5) k5.ext.2 ((r5.app (.cons rd .nil)).out ox) h8
  ·rw[if_neg hz] at h8;exact h8.elim
theorem zdh{g:TG}{iter':Expr}(hT:nu X.K cA g dU)(gM:∀i∈dU,i<many){Z:L2.St}{H:Hp}{Q:VK}(hh:tE X.K cA EX (ev ao aj F (.comp fz B dU w fr many cond)) Z H Q) :
  u_ (tI X.K cA EX (oU ao aj F w)) (dj many fr) g (Al X.K cA (λ_ _ _ _=>False) (uh ao aj F cond)) (tE X.K cA (λ_ _ _ _=>False) (ev ao aj F B)) Z H Q:=un hh λU J s hL hS h=>by
 by_cases cj:aj=true
 ·have h:Run X.K cA (if aj=true then M.bd (oU ao aj F w J) λcn=>M.bd (walk cn.1 (gY ao aj F B cond dU (blk many fr J)) (cn.2+1) 0 []) λxs=>newL fz xs else M.no) U H s (λd _ U' H'=>∀v,bJ X.K cA U' H' d v->Q v H') (eX X.K cA EX Z):=h;rw[if_pos cj] at h;refine⟨U,J,s,hL,hS,h.bd.imp λcn s1 U1 H1 ⟨x1,aK,h1⟩ cJ hJ=>?_⟩;have hL1:=hL.mono x1 hS.lz;obtain⟨c,n⟩:=cn;dsimp only at h1 hJ;intro Dd hD;obtain⟨x0,T7,k0⟩:=zfK aK hD;have T8:∀{Z':L2.St},(Z'.length=many+fr.length/\∀i,many<=i->Z'[i]?=(dj many fr Z)[i]?)->∀{U' H'},Ext U1 H1 U' H'->bD X.K cA U' H' Z' (blk many fr J):=λ{Z'} hZ {U' H'} x=>zkh (hL1.mono x aK.lz) hZ.1 λi j v e1 e2=>by
   rw[hZ.2 _ (by omega)];unfold dj;rw[pH (by simp),Hj,i_,show many+i-many=i by omega,e1];simp[e2]
  refine⟨λi m Z' H'=>m=n+1-i/\(Z'.length=many+fr.length/\∀i,many<=i->Z'[i]?=(dj many fr Z)[i]?)/\∃U' s' acc vs,Ext U1 H1 U' H'/\aH X.K cA U' H' s'/\Keep U' H' Dd vs/\aD X.K cA U' H' acc vs /\
   Run X.K cA (M.bd (walk c (gY ao aj F B cond dU (blk many fr J)) (n+1-i) i acc) λxs=>newL fz xs) U1 H1 s' (λd _ U' H'=>∀v,bJ X.K cA U' H' d v->Q v H') (eX X.K cA EX Z),⟨n+1,rfl,⟨by simp[dj],λi _=>rfl⟩,U1.mark Dd,s1,[],[],x0,T7,k0,.nil,h1⟩,?_⟩
  rintro i m Z' H' ⟨rfl,hZ,U',s',acc,vs,x2,aR,kp,Aw,h3⟩;have hL2:=T8 hZ x2;cases ek:n+1-i with
  |zero=>rw[ek] at h3;exact h3.elim
  |succ k=>
   rw[ek] at h3;cases ei:c.at i s' with
   |none=>
    exfalso
    unfold Run M.bd walk at h3;simp only[ei] at h3
   |some oi=>
    cases oi with
    |none=>
     refine .inl ⟨hJ.stop U' H' H' s' i x2 fZ.refl aR ei,?_⟩;have h4:Run X.K cA (newL fz acc) U1 H1 s' (λd _ U' H'=>∀v,bJ X.K cA U' H' d v->Q v H') (eX X.K cA EX Z):=by
      unfold Run M.bd walk at h3;simp only[ei] at h3;exact h3
     exact zgg h4 x2 hD (aK.nz hD) aR kp Aw
    |some xi=>
     refine .inr ⟨hJ.go U' H' H' s' i xi x2 fZ.refl aR ei,λZ2 H2=>(Z2.length=many+fr.length/\∀i,many<=i->Z2[i]?=(dj many fr Z)[i]?)/\∃U' s' acc vs,Ext U1 H1 U' H2/\aH X.K cA U' H2 s'/\Keep U' H2 Dd vs/\aD X.K cA U' H2 acc vs /\
      Run X.K cA (M.bd (walk c (gY ao aj F B cond dU (blk many fr J)) k (i+1) acc) λxs=>newL fz xs) U1 H1 s' (λd _ U' H'=>∀v,bJ X.K cA U' H' d v->Q v H') (eX X.K cA EX Z),λZ2 H2 hn=>⟨k,by omega,by omega,hn.1,?_⟩,λv H2 hy=>?_⟩
     ·have:n+1-(i+1)=k:=by omega
      rw[this];exact hn.2
     ·obtain⟨gr,rx⟩:=hJ.Cp U' H' H' s' i xi v H2 x2 fZ.refl aR ei hy;have h4:Run X.K cA (M.bd (gY ao aj F B cond dU (blk many fr J) xi acc) λacc'=>M.bd (walk c (gY ao aj F B cond dU (blk many fr J)) k (i+1) acc') λxs=>newL fz xs) U1 H1 s' (λd _ U' H'=>∀v,bJ X.K cA U' H' d v->Q v H') (eX X.K cA EX Z):=by
       have h5:=znd (m':=M.bd (gY ao aj F B cond dU (blk many fr J) xi acc) λacc'=>walk c (gY ao aj F B cond dU (blk many fr J)) k (i+1) acc') (by rw[walk];simp only[ei]) h3;rw[jU] at h5;exact h5
      exact ziC hT gM hD (x2.trans gr.ext) (hL2.mono gr.ext aR.lz) (aR.grow gr) (kp.mono gr.ext) (Aw.mono gr.ext aR.lz) rx h4 λZ3 H3 U3 s3 yV OD l3 f3 x3 _ jr k3 r3 h6=>⟨⟨l3.trans hZ.1,λi hi=>(f3 i hi).trans (hZ.2 i hi)⟩,U3,s3,yV,OD,x3,jr,k3,r3,h6⟩
 ·have h:Run X.K cA (if aj=true then M.bd (oU ao aj F w J) λcn=>M.bd (walk cn.1 (gY ao aj F B cond dU (blk many fr J)) (cn.2+1) 0 []) λxs=>newL fz xs else M.no) U H s (λd _ U' H'=>∀v,bJ X.K cA U' H' d v->Q v H') (eX X.K cA EX Z):=h;rw[if_neg cj] at h;exact h.elim
theorem zeS{XN:List Str}(hfr:∀(i:Nat) (y:Str) (j:Nat),N[many+i]?=some y->fr[i]?=some j->scope.names.lookup y=some .free/\XN[j]?=some y)(Z:L2.St)(i:Nat)(x:Str)(v:V)(e1:N[i]?=some x)(e2:(dj many fr Z)[i]?=some (some v)):scope.names.lookup x=some .free/\∃j:Nat,XN[j]?=some x/\Z[j]?=some (some v):=by
 unfold dj at e2;by_cases hi:i<many
 ·rw[qH (by simpa using hi),M4,if_pos hi] at e2;cases e2
 ·rw[pH (by simpa using Hx hi),Hj,i_] at e2;cases z:fr[i-many]? with
  |none=>rw[z] at e2;cases e2
  |some j=>
   rw[z] at e2;have e3:(Z[j]?).join=some v:=by simpa using e2
   obtain⟨a1,a2⟩:=hfr (i-many) x j (by rw[show many+(i-many)=i by omega];exact e1) z;exact⟨a1,j,a2,Tn e3⟩
theorem zgF{g:TG}(hc:X.aj=true)(B':dX X.env.scope scope)(hi:SI X cA ao aj F EX tg iter w)(hN:N.length=many+fr.length)
  (hfr:∀(i:Nat) (y:Str) (j:Nat),N[many+i]?=some y->fr[i]?=some j->scope.names.lookup y=some .free/\X.N[j]?=some y)
  (hg:∀cl C s3 H3 fp ak,PG (X.blk scope cl N C s3 H3 fp ak) tg g) (hT:nu X.K cA g dU) (gM:∀i∈dU,i<many)
  (ht:∀cl C s3 H3 fp ak,KQ (X.blk scope cl N C s3 H3 fp ak) cA ao aj F (λ_ _ _ _=>False) ifs cond) (he:∀cl C s3 H3 fp ak,SE (X.blk scope cl N C s3 H3 fp ak) cA ao aj F (λ_ _ _ _=>False) elt B)
  (hs:∀x,foldedSetIterable iter X.env x=pure x:=by intro _;rfl):SE X cA ao aj F EX (.ListComp elt [⟨tg,iter,ifs,0⟩] scope pos) (.comp fz B dU w fr many cond):=
 PE.weak (zj1 hc B' hi (⟨hg,ht,he⟩ : Parts X elt tg ifs scope N g (Al X.K cA (λ_ _ _ _=>False) (uh ao aj F cond)) (tE X.K cA (λ_ _ _ _=>False) (ev ao aj F B))) (ZY:=dj many fr) (λZ=>by simp[dj,hN]) (λZ i x v e1 e2=>zeS hfr Z i x v e1 e2) hs) λZ H Q hh=>zdh (iter':=iter) hT gM hh
end
section
variable (K:W.Frag)(cA:Cl)
def aO(m:MS)(U:Ph)(H:Hp)(s:S)(D:Ends)(EX:XS):Prop:=match m s with
 |some (.nx J,s')=>∀U' H' Z',Ext U H U' H'->aH K cA U' H' s'->bD K cA U' H' Z' J->D.nx Z' H'
 |some (.bk J,s')=>∀U' H' Z',Ext U H U' H'->aH K cA U' H' s'->bD K cA U' H' Z' J->D.bk Z' H'
 |some (.ct J,s')=>∀U' H' Z',Ext U H U' H'->aH K cA U' H' s'->bD K cA U' H' Z' J->D.ct Z' H'
 |some (.rt d,s')=>∀U' H' v,Ext U H U' H'->aH K cA U' H' s'->bJ K cA U' H' d v->D.rt v H'
 |some (.er c fs J,s')=>∀U' H' Z',Ext U H U' H'->aH K cA U' H' s'->bD K cA U' H' Z' J->∀dx,lB K cA U' H' c fs dx->EX Z' (.ref (cA.a c)) dx H'
 |none=>False
noncomputable def tS(EX:XS)(m:Vs->MS):TS:=λD Z H=>∃U J s,bD K cA U H Z J/\aH K cA U H s/\aO K cA (m J) U H s D EX
end
section
variable {K:W.Frag}{cA:Cl}{U U':Ph}{H H':Hp}{s:S}{Z:L2.St}{J:Vs}{EX:XS}{D:Ends}
theorem aO.ext{m:MS}(x:Ext U H U' H')(h:aO K cA m U H s D EX):aO K cA m U' H' s D EX:=by
 unfold aO at *;split at h<;>first
  |exact λU2 H2 a y r l=>h U2 H2 a (x.trans y) r l
  |exact h.elim
theorem aO.ofM{α:Type}{m:M α}{k:α->MS}(hL:bD K cA U H Z J)(hz:∀a∈U.l,U.z a)(h:aO K cA (ofM m J k) U H s D EX):Run K cA m U H s (λa s1 U1 H1=>Ext U H U1 H1/\aH K cA U1 H1 s1/\aO K cA (k a) U1 H1 s1 D EX) (eX K cA EX Z):=by
 unfold aO Mi.ofM at h;unfold Run;cases e:m s with
 |none=>rw[e] at h;exact h
 |some r=>
  obtain⟨r,s1⟩:=r;rw[e] at h;cases r with
  |er c fs=>exact λU1 H1 x r=>h U1 H1 Z x r (hL.mono x hz)
  |ok a=>
   intro U1 H1 x r;refine⟨x,r,?_⟩;have h2:aO K cA (k a) U H s1 D EX:=h;exact h2.ext x
theorem aO.then_(h:aO K cA (cX m k) U H s D EX):aO K cA m U H s {D with nx:=λZ' H'=>∃U' J' s',bD K cA U' H' Z' J'/\aH K cA U' H' s'/\aO K cA (k J') U' H' s' D EX} EX:=by
 unfold aO cX at h;unfold aO;cases e:m s with
 |none=>rw[e] at h;exact h
 |some r=>
  obtain⟨r,s1⟩:=r;rw[e] at h;cases r with
  |nx J=>
   intro U1 H1 Z1 x r l;have h2:aO K cA (k J) U H s1 D EX:=h;exact⟨U1,J,s1,l,r,h2.ext x⟩
  |bk J=>exact h
  |ct J=>exact h
  |rt d=>exact h
  |er c fs J=>exact h
end
section
variable (X:Cx)(cA:Cl)(ao:Nat->Nat->Bool)(aj:Bool)(F:Bool->Fn)(EX:XS)
def SS(st:Stmt)(m:St):Prop:=PS X st (tS X.K cA EX (ex ao aj F m))
def vL(st:List Stmt)(m:cL):Prop:=pK X st (tS X.K cA EX (exs ao aj F m))
end
section
variable {X:Cx}{cA:Cl}{ao:Nat->Nat->Bool}{aj:Bool}{F:Bool->Fn}{EX:XS}{a b c d e:Expr}{A B C:E}{pos p p2:Pos}{st:Stmt}{sts body orelse:List Stmt}{m:St}{ms mb me mh:cL}{es:List Expr}{Xs:Es}{x y n:Str}{i j:Nat}
theorem PS.weak{t t':TS}(h:PS X st t)(f:∀D Z H,t' D Z H->t D Z H):PS X st t':=λak s Z H D I q=>h ak s Z H D I (f D Z H q)
theorem pK.weak{t t':TS}(h:pK X sts t)(f:∀D Z H,t' D Z H->t D Z H):pK X sts t':=λak s Z H D I q=>h ak s Z H D I (f D Z H q)
theorem zkb:vL X cA ao aj F EX [] .nil:=pK.weak zkB λD Z H hh=>un hh λU J s hL hS h=>h U H Z Ext.refl hS hL
theorem zhV(h1:SS X cA ao aj F EX st m)(h2:vL X cA ao aj F EX sts ms):vL X cA ao aj F EX (st::sts) (.cons m ms):=pK.weak (zii h1 h2) λD Z H hh=>un hh λU J s hL hS h=>by
 have h:aO X.K cA (cX (ex ao aj F m J) λJ'=>exs ao aj F ms J') U H s D EX:=h;exact⟨U,J,s,hL,hS,h.then_⟩
theorem znl(ha:SE X cA ao aj (F aj) EX a A)(hs:swapsWith a none pos.line X.env=pure false:=by rfl):SS X cA ao aj F EX (.Expr a pos) (.ex A):=PS.weak (zkC ha hs) λD Z H hh=>un hh λU J s hL hS h=>
 ⟨U,J,s,hL,hS,(aO.ofM hL hS.lz h).imp λd s1 U1 H1 ⟨x1,aK,h1⟩ v rv=>h1 U1 H1 Z Ext.refl aK (hL.mono x1 hS.lz)⟩
theorem zmf(ha:SE X cA ao aj (F aj) EX a A):SS X cA ao aj F EX (.Return (some a) pos) (.ret A):=PS.weak (zmP ha) λD Z H hh=>un hh λU J s hL hS h=>
 ⟨U,J,s,hL,hS,(aO.ofM hL hS.lz h).imp λd s1 U1 H1 ⟨x1,aK,h1⟩ v rv=>h1 U1 H1 v Ext.refl aK rv⟩
theorem zlQ(hN:X.N.Nodup)(hi:X.N[i]?=some x)(hx:Loc X.env.scope x)(ha:SE X cA ao aj (F aj) EX a A)(hs:swapsWith a (some (.Name x p)) pos.line X.env=pure false:=by rfl)(hf:X.fn x=true\/X.env.scope.names.lookup x=some .local:=by first|exact .inl rfl|exact .inr rfl) :
  SS X cA ao aj F EX (.Assign [.Name x p] a pos) (.asg (.nm i) A):=PS.weak (zlE hN hi hx ha hs hf) λD Z H hh=>un hh λU J s hL hS h=>
 ⟨U,J,s,hL,hS,(aO.ofM hL hS.lz h).imp λd s1 U1 H1 ⟨x1,aK,h1⟩ v rv=>h1 U1 H1 _ Ext.refl aK ((hL.mono x1 hS.lz).set rv)⟩
theorem T9{k}(hc:X.aj=true)(hN:X.N.Nodup)(hi:X.N[i]?=some x)(hj:X.N[j]?=some y)(hx:Loc X.env.scope x)(hy:Loc X.env.scope y)(yW:X.fn x=true\/X.env.scope.names.lookup x=some .local)(yX:X.fn y=true\/X.env.scope.names.lookup y=some .local) :
  PG X (.Tuple [.Name x px,.Name y py] k pos) (uR X.K 2 (iG (eZ i) (iG (eZ j) uQ))):=zlm hc (Yc (N5 hN hi hx yW) (Yc (N5 hN hj hy yX) zjF))
theorem zdE{K:W.Frag}{U:Ph}{H:Hp}{s:S}{J:Vs}{Z:L2.St}{D:Ends}{d:Xv}{v:V}(cj:aj=true)(hL:bD K cA U H Z J)(hS:aH K cA U H s)(rv:bJ K cA U H d v)(h:aO K cA (store ao aj (F aj) (.tp [i,j]) d J) U H s D EX):uR K 2 (iG (eZ i) (iG (eZ j) uQ)) v Z H D.nx:=by
 have h:aO K cA (if aj=true then ofM (M.bd (dat d) λd=>M.opt ((mC d).bind λds=>g_ [i,j] (ds.map Xv.d) J)) J (λJ' s=>some (Out.nx J',s)) else λ_=>none) U H s D EX:=h;rw[if_pos cj] at h;obtain⟨dd,e0,rd,h1⟩:=Tj rv (aO.ofM hL hS.lz h);obtain⟨J',e,_,aK,h2⟩:=Run.opt hS h1;refine(T6 i j).run U H s Z J J' dd v _ hL hS rd e λZ' hL' _ _=>h2 U H Z' Ext.refl hS hL'
theorem zj3{k}(hc:X.aj=true)(cj:aj=true)(hN:X.N.Nodup)(hi:X.N[i]?=some x)(hj:X.N[j]?=some y)(hx:Loc X.env.scope x)(hy:Loc X.env.scope y)(yW:X.fn x=true\/X.env.scope.names.lookup x=some .local)(yX:X.fn y=true\/X.env.scope.names.lookup y=some .local)(ha:SE X cA ao aj (F aj) EX a A)
  (hs:swapsWithSole [.Tuple [.Name x px,.Name y py] k pt] a pos.line X.env=pure false:=by rfl) (hw:swappedStores [.Tuple [.Name x px,.Name y py] k pt] a X.env=pure none:=by rfl)
  (h1:(assignEach [.Tuple [.Name x px,.Name y py] k pt] X.env).map (·.2)=[assign (.Tuple [.Name x px,.Name y py] k pt) X.env]:=by rfl) :
  SS X cA ao aj F EX (.Assign [.Tuple [.Name x px,.Name y py] k pt] a pos) (.asg (.tp [i,j]) A):=PS.weak (Yd ha (T9 hc hN hi hj hx hy yW yX) hs hw h1) λD Z H hh=>un hh λU J s hL hS h=>
 ⟨U,J,s,hL,hS,(aO.ofM hL hS.lz h).imp λd s1 U1 H1 ⟨x1,aK,h1⟩ v rv=>zdE cj (hL.mono x1 hS.lz) aK rv h1⟩
theorem zld(hO:SE X cA ao aj (F aj) EX oo O)(hI:SE X cA ao aj (F aj) EX ii I')(ha:SE X cA ao aj (F aj) EX a A)
  (Du:∀v,assign (.Subscript oo ii p) X.env v=(do
   let ov <-holding [v] (eval oo X.env)
   let iv <-holding [v,ov] (eval ii X.env)
   standAt p
   holding [v,ov,iv] (setItem ov iv v)
   release [v,ov,iv] []):=by intro _;rfl) (hs:swapsWithSole [.Subscript oo ii p] a pos.line X.env=pure false:=by rfl) (hw:swappedStores [.Subscript oo ii p] a X.env=pure none:=by rfl)
  (h1:(assignEach [.Subscript oo ii p] X.env).map (·.2)=[assign (.Subscript oo ii p) X.env]:=by rfl) :
  SS X cA ao aj F EX (.Assign [.Subscript oo ii p] a pos) (.asg (.ao O I') A):=PS.weak (Yd ha (zk3 hO hI zh5 Du) hs hw h1) λD Z H hh=>un hh λU J s hL hS h=>by
 refine⟨U,J,s,hL,hS,(aO.ofM hL hS.lz h).imp λd s1 U1 H1 ⟨x1,aK,h1⟩ v rv=>?_⟩;obtain⟨dd,e0,rd,h2⟩:=Tj rv (aO.ofM (hL.mono x1 hS.lz) aK.lz h1);refine bf (hL.mono x1 hS.lz) aK h2 λxo H2 U2 d2 s2 x2 hL2 aR r2 h3=>bf hL2 aR h3 λyi H3 U3 d3 s3 x3 tu jr r3 h4=>?_;obtain⟨k,_,ek,h5⟩:=Kq r3 h4;obtain⟨n,ad,xs,vs,_,ea,e1,f1,g1,q1,h6⟩:=Oz jr (r2.mono x3 aR.lz) h5;subst ek ea;cases ej:L2.uf xs.length k with
 |none=>simp only[ej] at h6;exact h6.elim
 |some jj=>
  simp only[ej] at h6;refine⟨ad,vs,k,jj,rfl,rfl,g1,by rw[<-q1.len];exact ej,?_⟩;have rv3:=(rd.mono x2 aK.lz).mono x3 aR.lz;have jZ:=jr.write e1 f1 (q1.set rv3 jj);have x4:Ext U3 H3 U3 (upd H3 ad (.lst (vs.set jj v))):=Ext.write f1 ⟨_,g1⟩;obtain⟨_,_,h8⟩:=h6 U3 _ x4 jZ;exact h8 U3 _ Z Ext.refl jZ (tu.mono x4 jr.lz)
theorem zlW{kt k2 uU}(hc:X.aj=true)(cj:aj=true)(hN:X.N.Nodup)(hi:X.N[i]?=some x)(hj:X.N[j]?=some y)(lN:i≠j)(hx:X.env.scope.names.lookup x=some .local)(hy:X.env.scope.names.lookup y=some .local)
  (ha:SE X cA ao aj (F aj) EX a A) (hb:SE X cA ao aj (F aj) EX b B) (h1:starEach [a,b] X.env=(false,eval a X.env)::starEach [b] X.env) (h2:starEach [b] X.env=(false,eval b X.env)::starEach [] X.env)
  (hw:swappedStores [.Tuple [.Name x px,.Name y py] kt pt] (.Tuple [a,b] k2 uU) X.env=pure (some [x,y]))
  (hs:swapsWithSole [.Tuple [.Name x px,.Name y py] kt pt] (.Tuple [a,b] k2 uU) pos.line X.env=pure false:=by rfl) :
  SS X cA ao aj F EX (.Assign [.Tuple [.Name x px,.Name y py] kt pt] (.Tuple [a,b] k2 uU) pos) (.par i j A B):=PS.weak (zlB hc hN hi hj lN hx hy (uW ha (uW hb Cv h2) h1) hw hs) λD Z H hh=>un hh λU J s hL hS h=>by
 have h:aO X.K cA (if aj=true then ofM (M.bd (ev ao aj (F aj) A J) λx=>M.bd (ev ao aj (F aj) B J) λy=>M.ret (x,y)) J (λxy s=>some (.nx ((J.set i (some xy.1)).set j (some xy.2)),s)) else λ_=>none) U H s D EX:=h;rw[if_pos cj] at h;refine bf hL hS (aO.ofM hL hS.lz h) λx H1 U1 d1 s1 x1 hL1 aK r1 h1=>bf hL1 aK h1 λy H2 U2 d2 s2 x2 hL2 aR r2 h2=>?_;obtain⟨_,_,h3⟩:=h2.bK aR;exact⟨x,y,rfl,h3 U2 H2 _ Ext.refl aR ((hL2.set (r1.mono x2 aK.lz)).set r2)⟩
theorem znO(hc:ST X cA ao aj (F aj) EX c C)(ht:vL X cA ao aj F EX body mb)(he:vL X cA ao aj F EX orelse me):SS X cA ao aj F EX (.If c body orelse pos) (.iff C mb me):=PS.weak (znE hc ht he) λD Z H hh=>un hh λU J s hL hS h=>by
 refine⟨U,J,s,hL,hS,(aO.ofM hL hS.lz h).imp λk s1 U1 H1 ⟨x1,aK,h1⟩=>?_⟩;cases k with
 |true=>exact iT ⟨U1,J,s1,hL.mono x1 hS.lz,aK,h1⟩
 |false=>exact iF ⟨U1,J,s1,hL.mono x1 hS.lz,aK,h1⟩
theorem zir{cc:Nat}{B' Bn newId nid initId inN:String}{bmB bmN:List Value}{apos:Pos}(hf:cA.f cc=[])(Fn':ExcBaseFacts Bn newId inN bmN)(wQ:bmB.contains (.type Bn)=true)(FB:ExcBaseFacts B' nid initId bmB)(hc:X.aj=true)(cj:aj=true)(hX:PySem.W.excIn X.K (cA.a cc) bmB newId=true)(hg:Gl X x)(hm:X.mg x=some (.ref (cA.a cc)))
  (R:Raises X EX) (ha:SA X cA ao aj (F aj) EX (e::es) Xs) (hz:Es.len Xs<=sizeLine) (kZ:(x==("__debug__" : Str))=false:=by decide) (he:starEach (e::es) X.env=(false,eval e X.env)::starEach es X.env:=by rfl) (bM:(backTo apos (starEach es X.env)).any (·.1)=false:=by rfl) :
  SS X cA ao aj F EX (.Raise (some (.Call (.Name x p) (e::es) [] apos)) none pos) (.rise cc false Xs):=PS.weak (zh7 Fn' wQ FB hc hX hg hm R ha kZ he bM) λD Z H hh=>un hh λU J s hL hS h=>by
 have h:aO X.K cA (if aj=true then ofM (M.bd (evs ao aj (F aj) Xs J) dR) J (λds s=>some (.er cc (if false=true then ds else []) J,s)) else λ_=>none) U H s D EX:=h;rw[if_pos cj] at h;refine yQ hL hS (aO.ofM hL hS.lz h) λvs H1 U1 xs s1 hl x1 hL1 aK rv h1=>?_;have h1:Run X.K cA (M.bd (dR xs) M.ret) U1 H1 s1 (λa s1 U1 H1=>Ext U H U1 H1/\aH X.K cA U1 H1 s1/\aO X.K cA (λs=>some (.er cc (if false=true then a else []) J,s)) U1 H1 s1 D EX) (eX X.K cA EX Z):=by
  unfold Run at h1 ⊢;unfold M.bd;cases e1:dR xs s1 with
  |none=>rw[e1] at h1;exact h1
  |some r=>
   obtain⟨r,s2⟩:=r;rw[e1] at h1;cases r with
   |er c f=>exact h1
   |ok ds=>exact h1
 obtain⟨ds,e1,rs,h2⟩:=Oq rv h1;obtain⟨_,_,h3⟩:=h2.bK aK;exact⟨by rw[<-rv.len,hl];exact hz,h3 U1 H1 Z Ext.refl aK hL1 none (.inl ⟨hf,rfl,rfl⟩)⟩
theorem zkv{g:TG}{elt iter tg:Expr}{ifs:List Expr}{scope:Scope}{N:List Str}{cond:Eo}{fr dU:List Nat}{many:Nat}{fz:Bool}{w:Wk}{spos py:Pos}(hc:X.aj=true)(yZ:X.N.Nodup)(oM:X.N[i]?=some y)(hx:Loc X.env.scope y)(hf:X.fn y=true\/X.env.scope.names.lookup y=some .local)(B':dX X.env.scope scope)(hi:SI X cA ao aj (F aj) EX tg iter w)(hN:N.length=many+fr.length)
  (hfr:∀(i:Nat) (y:Str) (j:Nat),N[many+i]?=some y->fr[i]?=some j->scope.names.lookup y=some .free/\X.N[j]?=some y)
  (hg:∀cl C s3 H3 fp ak,PG (X.blk scope cl N C s3 H3 fp ak) tg g) (hT:nu X.K cA g dU) (gM:∀i∈dU,i<many)
  (ht:∀cl C s3 H3 fp ak,KQ (X.blk scope cl N C s3 H3 fp ak) cA ao aj (F aj) (λ_ _ _ _=>False) ifs cond) (he:∀cl C s3 H3 fp ak,SE (X.blk scope cl N C s3 H3 fp ak) cA ao aj (F aj) (λ_ _ _ _=>False) elt B)
  (JF:swapsWith (.ListComp elt [⟨tg,iter,ifs,0⟩] scope pos) (some (.Name y py)) spos.line X.env=pure true) (hs:∀x,foldedSetIterable iter X.env x=pure x:=by intro _;rfl) :
  SS X cA ao aj F EX (.Assign [.Name y py] (.ListComp elt [⟨tg,iter,ifs,0⟩] scope pos) spos) (.asg (.nm i) (.comp fz B dU w fr many cond)):=
 PS.weak (zfx hc yZ oM hx hf B' hi (⟨hg,ht,he⟩ : Parts X elt tg ifs scope N g (Al X.K cA (λ_ _ _ _=>False) (uh ao aj (F aj) cond)) (tE X.K cA (λ_ _ _ _=>False) (ev ao aj (F aj) B))) (ZY:=dj many fr) (λZ=>by simp[dj,hN]) (λZ i x v e1 e2=>zeS hfr Z i x v e1 e2) JF hs) λD Z H hh=>un hh λU J s hL hS h=>
  zdh (iter':=iter) hT gM ⟨U,J,s,hL,hS,(aO.ofM hL hS.lz h).imp λd s1 U1 H1 ⟨x1,aK,h1⟩ v rv=>h1 U1 H1 _ Ext.refl aK ((hL.mono x1 hS.lz).set rv)⟩
noncomputable def o_(m:MS)(kN:Vs->MS):MS:=λs=>match m s with
 |some (.nx J',s')=>kN J' s'
 |some (.ct J',s')=>kN J' s'
 |some (.bk J',s')=>some (.nx J',s')
 |r=>r
theorem Kaf{K:W.Frag}{U:Ph}{H:Hp}{s:S}{D:Ends}{m:MS}{kN:Vs->MS}{N:L2.St->Hp->Prop}(hN:∀U' J' s' Z' H',Ext U H U' H'->bD K cA U' H' Z' J'->aH K cA U' H' s'->aO K cA (kN J') U' H' s' D EX->N Z' H')(h:aO K cA (o_ m kN) U H s D EX) :
  aO K cA m U H s {D with nx:=N,ct:=N,bk:=D.nx} EX:=by
 unfold aO o_ at h;unfold aO;cases e:m s with
 |none=>rw[e] at h;exact h
 |some r=>
  obtain⟨r,s1⟩:=r;rw[e] at h;cases r with
  |nx J'=>
   intro U1 H1 Z1 x r l;have h2:aO K cA (kN J') U H s1 D EX:=h;exact hN U1 J' s1 Z1 H1 x l r (h2.ext x)
  |ct J'=>
   intro U1 H1 Z1 x r l;have h2:aO K cA (kN J') U H s1 D EX:=h;exact hN U1 J' s1 Z1 H1 x l r (h2.ext x)
  |bk J'=>exact h
  |rt d=>exact h
  |er c fs J'=>exact h
theorem zhw(hp:PassesOwn (model X.prog X.w) X.A X.env X.xe)(hc:ST X cA ao aj (F aj) EX c C)(hb:vL X cA ao aj F EX body mb):SS X cA ao aj F EX (.While c body [] pos) (.wh C mb):=PS.weak (zhx hp hc hb) λD Z H hh=>un hh λU J s hL hS h=>by
 refine⟨λm Z H=>∃U J s,bD X.K cA U H Z J/\aH X.K cA U H s/\aO X.K cA (h_ (λJ=>M.bd (ev ao aj (F aj) C J) bool) (λJ=>exs ao aj F mb J) m J) U H s D EX,⟨oV,U,J,s,hL,hS,h⟩,?_⟩;rintro m Z H ⟨U,J,s,hL,hS,h⟩;cases m with
 |zero=>exact h.elim
 |succ m=>
  refine⟨U,J,s,hL,hS,(aO.ofM (k:=λok=>if ok=true then o_ (exs ao aj F mb J) (h_ (λJ=>M.bd (ev ao aj (F aj) C J) bool) (λJ=>exs ao aj F mb J) m) else λs=>some (.nx J,s)) hL hS.lz h).imp λk s1 U1 H1 ⟨x1,aK,h1⟩=>?_⟩;cases k with
  |true=>
   rw[if_pos rfl] at h1 ⊢;refine⟨_,λZ' H' z=>⟨m,Nm m,z⟩,U1,J,s1,hL.mono x1 hS.lz,aK,Kaf (λU' J' s' Z' H' _ l r q=>?_) h1⟩;exact⟨U',J',s',l,r,q⟩
  |false=>
   rw[if_neg Nf] at h1 ⊢;exact h1 U1 H1 Z Ext.refl aK (hL.mono x1 hS.lz)
def SG(X:Cx)(cA:Cl)(ao:Nat->Nat->Bool)(aj:Bool)(F:Bool->Fn)(EX:XS)(tg:Expr)(t:Tg):Prop:=∃g:TG,PG X tg g/\∀(U:Ph) (H:Hp) (s:S) (Z:L2.St) (J:Vs) (d:Xv) (v:V) (D:Ends),bD X.K cA U H Z J->aH X.K cA U H s->bJ X.K cA U H d v->
 aO X.K cA (store ao aj (F aj) t d J) U H s D EX->g v Z H D.nx
theorem zjJ(hN:X.N.Nodup)(hi:X.N[i]?=some x)(hx:Loc X.env.scope x)(hf:X.fn x=true\/X.env.scope.names.lookup x=some .local:=by first|exact .inl rfl|exact .inr rfl):SG X cA ao aj F EX (.Name x pos) (.nm i):=
 ⟨_,N5 hN hi hx hf,λU H s Z J d v D hL hS r h=>h U H _ Ext.refl hS (hL.set r)⟩
theorem zkH{k}(hc:X.aj=true)(cj:aj=true)(hN:X.N.Nodup)(hi:X.N[i]?=some x)(hj:X.N[j]?=some y)(hx:Loc X.env.scope x)(hy:Loc X.env.scope y)(yW:X.fn x=true\/X.env.scope.names.lookup x=some .local)(yX:X.fn y=true\/X.env.scope.names.lookup y=some .local) :
  SG X cA ao aj F EX (.Tuple [.Name x px,.Name y py] k pos) (.tp [i,j]):=
 ⟨_,T9 hc hN hi hj hx hy yW yX,λU H s Z J d v D hL hS r h=>zdE cj hL hS r h⟩
theorem zlh(hp:PassesOwn (model X.prog X.w) X.A X.env X.xe)(hc:X.aj=true)(cj:aj=true)(ha:SI X cA ao aj (F aj) EX tg a w)(hg:SG X cA ao aj F EX tg t)(hb:vL X cA ao aj F EX body mb)
  (hs:∀x,foldedSetIterable a X.env x=pure x:=by intro _;rfl):SS X cA ao aj F EX (.For tg a body [] pos) (.fr t w mb):=by
 obtain⟨g,hG,hg⟩:=hg;refine PS.weak (zmo hp hc ha hG hb hs) λD Z H hh=>un hh λU J s hL hS h=>?_;have h:aO X.K cA (if aj=true then ofM (oU ao aj (F aj) w J) J λcn=>eN cn.1 (λd J=>cX (store ao aj (F aj) t (.d d) J) λJ'=>exs ao aj F mb J') (cn.2+1) 0 J else λ_=>none) U H s D EX:=h;rw[if_pos cj] at h;refine⟨U,J,s,hL,hS,(aO.ofM hL hS.lz h).imp λcn s1 U1 H1 ⟨x1,aK,h1⟩ cJ hJ=>?_⟩;have hL1:=hL.mono x1 hS.lz;obtain⟨c,n⟩:=cn;dsimp only at h1 hJ;refine⟨λi m Z' H'=>∃U' J' s',Ext U1 H1 U' H'/\bD X.K cA U' H' Z' J'/\aH X.K cA U' H' s'/\aO X.K cA (eN c (λd J=>cX (store ao aj (F aj) t (.d d) J) λJ'=>exs ao aj F mb J') m i J') U' H' s' D EX,⟨n+1,U1,J,s1,Ext.refl,hL1,aK,h1⟩,?_⟩;rintro i m Z' H' ⟨U',J',s',x2,hL2,aR,h4⟩;cases m with
 |zero=>exact h4.elim
 |succ m=>
  cases ei:c.at i s' with
  |none=>
   exfalso
   unfold aO eN at h4;simp only[ei] at h4
  |some oi=>
   cases oi with
   |none=>
    refine .inl ⟨hJ.stop U' H' H' s' i x2 fZ.refl aR ei,?_⟩;unfold aO eN at h4;simp only[ei] at h4;exact h4 U' H' Z' Ext.refl aR hL2
   |some xi=>
    refine .inr ⟨hJ.go U' H' H' s' i xi x2 fZ.refl aR ei,_,λZ3 H3 z=>⟨m,Nm m,z⟩,λv H3 hy=>?_⟩;obtain⟨gr,rx⟩:=hJ.Cp U' H' H' s' i xi v H3 x2 fZ.refl aR ei hy;have h5:aO X.K cA (o_ (cX (store ao aj (F aj) t (.d xi) J') λJ'=>exs ao aj F mb J') (eN c (λd J=>cX (store ao aj (F aj) t (.d d) J) λJ'=>exs ao aj F mb J') m (i+1))) U' H' s' D EX:=by
     unfold aO at h4 ⊢;have e:eN c (λd J=>cX (store ao aj (F aj) t (.d d) J) λJ'=>exs ao aj F mb J') (m+1) i J' s'=o_ (cX (store ao aj (F aj) t (.d xi) J') λJ'=>exs ao aj F mb J') (eN c (λd J=>cX (store ao aj (F aj) t (.d d) J) λJ'=>exs ao aj F mb J') m (i+1)) s':=by
      rw[eN];simp only[ei];rfl
     rw[e] at h4;exact h4
    exact hg U' H3 s' Z' J' (.d xi) v _ (hL2.mono gr.ext aR.lz) (aR.grow gr) (.d rx) (aO.then_ (Kaf (λU4 J4 s4 Z4 H4 x4 l4 r4 q4=>⟨U4,J4,s4,(x2.trans gr.ext).trans x4,l4,r4,q4⟩) (h5.ext gr.ext)))
theorem zmn(cj:aj=true)(hex:X.ex=[])(qQ:X.stack=X.env::X.outer/\X.env.frame=some X.env.locals)(hg:Gl X x)(hm:X.mg x=some (.ref (cA.a dc)))(hN:X.N.Nodup)(hi:X.N[i]?=some n)(hl:X.env.scope.names.lookup n=some .local)
  (hsub:∀c,ao c dc=true->subIn X.K (cA.a c) (cA.a dc)=true)
  (hb:∀(pn:List (Addr×Obj)) (E':Value->Shared->Prop) (ug:XS),Raises (X.seen X.A X.aj pn E') ug->PassesOwn (model X.prog X.w) X.A X.env E'->vL (X.seen X.A X.aj pn E') cA ao aj F ug body mb)
  (hh:∀e:Value,vL (X.seen (X.A.mark (some e)) false X.pn (λ_ _=>False)) cA ao false F (λ_ _ _ _=>False) (b₀::suite) mh) (kZ:(x==("__debug__" : Str))=false:=by decide) :
  SS X cA ao aj F EX (.Try body [.ExceptHandler (some (.Name x np)) (some n) (b₀::suite) u9] [] [] pos) (.sW mb dc i mh):=by
 refine PS.weak (zk5 (tb:=λug=>tS X.K cA ug (exs ao aj F mb)) (th:=tS X.K cA (λ_ _ _ _=>False) (exs ao false F mh)) hex qQ hg hm hN hi hl hb hh kZ) λD Z H hh=>un hh λU J s hL hS h=>?_;refine⟨U,J,s,hL,hS,?_⟩;have h:aO X.K cA (if aj=true then λs=>match exs ao aj F mb J s with
   |some (.er c fs J',s')=>if ao c dc=true then (match exs ao false F mh (J'.set i (some (.d (.exc c fs)))) s' with
    |some (r,s'')=>(match r with
     |.er _ _ _=>none
     |r=>some (goes i r,s''))
    |none=>none) else none
   |r=>r
  else λ_=>none) U H s D EX:=h
 rw[if_pos cj] at h;unfold aO at h ⊢;cases e:exs ao aj F mb J s with
 |none=>simp only[e] at h
 |some r=>
  obtain⟨r,s1⟩:=r;simp only[e] at h;cases r with
  |nx J'=>exact h
  |ct J'=>exact h
  |bk J'=>exact h
  |rt d=>exact h
  |er c fs J'=>
   intro U1 H1 Z1 x1 r1 l1 dx Ac;by_cases Ax:ao c dc=true
   ·simp only[if_pos Ax] at h;refine⟨cA.a c,rfl,hsub c Ax,λad hn=>?_⟩;have gr:bO H1 (upd H1 ad (lg ad (cA.a c) dx)):=bO.new hn;have xe:Ext U1 H1 U1 (upd H1 ad (lg ad (cA.a c) dx)):=gr.ext;have rx:Rep X.K cA U1 (upd H1 ad (lg ad (cA.a c) dx)) (.exc c fs) (.ref ad):=by
     rcases Ac with ⟨e1,e2,e3⟩|⟨d,vs,e3,nz,hd,hl,rs⟩
     ·subst e2 e3;exact .exc ⟨r1.nz hn,.inl ⟨e1,rfl,lV⟩⟩ .nil
     ·subst e3;exact .exc ⟨r1.nz hn,.inr ⟨d,lV,nz,gr _ _ hd,hl⟩⟩ (rs.mono xe r1.lz)
    refine⟨U1,J'.set i (some (.d (.exc c fs))),s1,(l1.mono xe r1.lz).set (.d rx),r1.grow gr,?_⟩;unfold aO;cases e2:exs ao false F mh (J'.set i (some (.d (.exc c fs)))) s1 with
    |none=>rw[e2] at h;exact h
    |some q=>
     obtain⟨q,s2⟩:=q;rw[e2] at h;cases q with
     |er c2 f2 J2=>exact h.elim
     |nx J2=>exact λU2 H2 Z2 x2 r2 l2=>h U2 H2 _ ((x1.trans xe).trans x2) r2 l2.unset
     |bk J2=>exact λU2 H2 Z2 x2 r2 l2=>h U2 H2 _ ((x1.trans xe).trans x2) r2 l2.unset
     |ct J2=>exact λU2 H2 Z2 x2 r2 l2=>h U2 H2 _ ((x1.trans xe).trans x2) r2 l2.unset
     |rt dd=>exact λU2 H2 v x2 r2 rv=>h U2 H2 v ((x1.trans xe).trans x2) r2 rv
   ·simp only[if_neg Ax] at h
end
end Mi
namespace L2
open PySem PySem.Spec PyProof.Rows
structure zc(K:W.Frag)(x qual:Str)(st:Stmt)(f:Addr)(fd:FuncData):Prop where
 ex:∃(oc:Value) (od:Option Addr) (kV doc pm:Value) (an:Option Addr) (cdv ct:Value) (osl:Array (Option Value)),
  fd=PySem.W.fnOf x qual (aW st) (aN st) (au st) .none kV doc pm an cdv ct/\K.lookup f=some ⟨oc,od,.func fd,osl⟩/\PySem.W.codeIn K cdv qual=true
 kp:PySem.W.keepIn K (.ref f)=true
section
variable {P:Program}{w:World}{K:W.Frag}{mg:Str->Option Value}{base:Heap}
end
end L2
namespace Mi
open PySem PySem.Spec PyProof.Rows L2
section
variable {P:Program}{w:World}{K:W.Frag}{mg:Str->Option Value}{base:Heap}{cA:Cl}{ao:Nat->Nat->Bool}{T:Nat->Option Df}
theorem zfD{U:Ph}{H:Hp}{N:List Str}{ds:List Xv}{vs:List V}{m p:Nat}(r:cg K cA U H ds vs)(hp:p=ds.length)(hm:m=N.length):bD K cA U H (L2.start N vs) (ds.map some++List.replicate (m-p) none):=by
 subst hp hm;unfold L2.start;have hl:=r.len;refine⟨by simp[hl],λi d e=>?_⟩;by_cases hi:i<ds.length
 ·rw[qH (by simpa using hi),i_] at e;cases z:ds[i]? with
  |none=>rw[z] at e;cases e
  |some x=>
   rw[z] at e;cases e;obtain⟨v,a,b⟩:=r.get z;exact⟨v,by rw[qH (by simp;lia),i_,a];rfl,b⟩
 ·rw[pH (by simpa using hi),M4] at e;split at e<;>cases e
theorem zeH{U:Ph}{H:Hp}{s:S}{ds:List Xv}{k n:Nat}{cm:Bool}{df:Df}{Q:VK}{E:XK}(hT:T n=some df)
  (h:Run K cA (call ao T (k+1) cm n ds) U H s (λd _ U' H'=>∀v,bJ K cA U' H' d v->Q v H') (λc fs _ U' H'=>∀dx,lB K cA U' H' c fs dx->E (.ref (cA.a c)) dx H')) :
  ds.length=df.jq/\aO K cA (exs ao cm (λc=>call ao T k c) df.body (ds.map some++List.replicate (df.many-df.jq) none)) U H s {nx:=λ_ H'=>Q .non H',rt:=Q} (λ_ C dx H'=>E C dx H'):=by
 unfold call at h;simp only[hT] at h;by_cases hl:ds.length=df.jq
 ·refine⟨hl,?_⟩;rw[if_pos hl] at h;unfold Run at h;unfold aO;cases e:exs ao cm (λc=>call ao T k c) df.body (ds.map some++List.replicate (df.many-df.jq) none) s with
  |none=>simp only[e] at h
  |some r=>
   obtain⟨r,s1⟩:=r;simp only[e] at h;cases r with
   |nx J=>exact λU' H' Z' x r l=>h U' H' x r _ (.d .non)
   |rt d=>exact λU' H' v x r rv=>h U' H' x r v rv
   |er c fs J=>exact λU' H' Z' x r l=>h U' H' x r
   |bk J=>exact h.elim
   |ct J=>exact h.elim
 ·rw[if_neg hl] at h;exact h.elim
theorem eO:gA P w K mg base (mZ P w) cm 0 f fd ps (wZ K cA (call ao T 0 cm n)):=
 ⟨λvs H Q E ⟨_,_,_,_,_,h⟩=>h.elim,λA outer s H args us vs Q E _ _ _ _ _ ⟨_,_,_,_,_,h⟩=>h.elim⟩
theorem zl4{x qual:Str}{st:Stmt}{f:Addr}{fd:FuncData}{N ps:List Str}{k n:Nat}{cm:Bool}{df:Df}(F:zc K x qual st f fd)(S:iI N ps (au st))(hT:T n=some df)(hp:df.jq=ps.length)(hm:df.many=N.length)
  (hb:∀(cdv:Value) (A:Around) (outer:List Env) (s:Shared) (H:Hp) (E:XK),cD k (A.deeper (envOfC qual (au st) s.heap.objs.size f cdv))->
   vL (jO (mZ P w) P w K mg base N qual (au st) f cdv A outer s H E cm) cA ao cm (λc=>call ao T k c) (λ_ C dx H'=>E C dx H') (aN st) df.body) :
  gA P w K mg base (mZ P w) cm (k+1) f fd ps (wZ K cA (call ao T (k+1) cm n)):=by
 obtain⟨oc,od,kV,doc,pm,an,cdv,ct,osl,rfl,lk,mU⟩:=F.ex;refine zn3 lk mU S (λvs H Q E ⟨U,ds,s,r,hS,h⟩=>?_) λA outer s H vs Q E hr ⟨U,ds,st',r,hS,h⟩=>?_
 ·rw[<-r.len,(zeH hT h).1,hp]
 ·obtain⟨hl,h2⟩:=zeH hT h;exact⟨_,hb cdv A outer s H E hr,U,_,st',zfD r hl.symm hm,hS,h2⟩
end
theorem zmN{K:W.Frag}{cA:Cl}{m:List Xv->M Xv}{H:Hp}{a:Addr}{ns:List Int}(hq:dI K H a (ns.map V.int))(hm:∃s',m [.d (.fl (ns.map D.int))] []=some (.ok (.d (.bl true)),s')) :
  wZ K cA m [.ref a] H (λv _=>v=.bl true) λ_ _ _=>False:=by
 have rs:∀(l:List Int) U,aD K cA U H (l.map D.int) (l.map V.int):=λl U=>by
  induction l with
  |nil=>exact .nil
  |cons i l ih=>exact .cons (.int i) ih
 have hl:LstAt K ⟨λ_=>False,[]⟩ H a (ns.map V.int):=by
  rcases hq with h|h
  ·exact .inl ⟨h,λz=>z⟩
  ·exact .inr (.inr h)
 refine⟨⟨λ_=>False,[]⟩,[.d (.fl (ns.map D.int))],[],.cons (.d (.fl hl (rs ns _))) .nil,⟨rfl,(λn o b e1 e2=>by simp at e1),FQ,(λb hb=>by cases hb),(λb z=>False.elim z)⟩,?_⟩;obtain⟨s',e⟩:=hm;unfold Run;rw[e];intro U' H' _ _ v rv;cases rv with
 |d rv=>cases rv;rfl
theorem zgi:Raises X (λ_ _ _ _=>False):=λ_ _ _ _ _ _ _ _ _ _ _ _ _ z=>z.elim
theorem zg0(r:cD k A):cD k (A.mark o):=⟨r.dp,r.un,r.gd⟩
theorem vM(r:cD k A):A.units+60<cLine:=by have:=r.un;lia
noncomputable def aF:Expr->Bool
 |.Starred _ _=>false
 |_=>true
theorem bB(h:aF e=true):starEach (e::es) env=(false,eval e env)::starEach es env:=by
 cases e<;>first|rfl|cases h
theorem aX:∀{es:List Expr} {env:Env} {pos:Pos},es.all aF=true->(backTo pos (starEach es env)).any (·.1)=false
 |[],_,_,_=>rfl
 |e::es,env,pos,h=>by
  rw[lU,cU] at h;rw[bB h.1];show (false||(backTo pos (starEach es env)).any (·.1))=false;rw[aX h.2];rfl
theorem rA:∀{es:List Expr} {env:Env} {pos:Pos},es.all aF=true->(backTo pos (starEach es env)).all (λx=>!x.1)=true
 |[],_,_,_=>rfl
 |e::es,env,pos,h=>by
  rw[lU,cU] at h;rw[bB h.1];show (true&&(backTo pos (starEach es env)).all (λx=>!x.1))=true;rw[rA h.2];rfl
theorem nD(h1:aF e=true)(h2:es.all aF=true)(h3:decide (es.length<28)=true):((backTo pos (starEach (e::es) env)).all (λx=>!x.1)&&(backToKw pos (keywordEach [] env)).all (λx=>x.1.isSome)&&decide ((e::es).length+([]:List Keyword).length+(if ([]:List Keyword).isEmpty then 0 else 1)<30))=true:=by
 rw[rA (es:=e::es) (by rw[lU,h1,h2];rfl)];have:=gb h3;have z:(e::es).length+([]:List Keyword).length+(if ([]:List Keyword).isEmpty then 0 else 1)<30:=by
  show es.length+1+0+0<30
  lia
 rw[cP z];rfl
noncomputable def vN(sc scope:Scope):Bool:=(match scope.kind with|.function=>true|_=>false)&&scope.names.all λy=>match y.2 with
 |.cell=>(match scope.names.lookup y.1 with|some .cell=>true|_=>false)
 |.free=>(match sc.names.lookup y.1 with|some .cell=>true|some .free=>true|_=>false)
 |.local=>(match scope.names.lookup y.1 with|some .local=>true|_=>false)
 |_=>true
theorem dX.of(h:vN sc scope=true):dX sc scope:=by
 unfold vN at h;rw[cU,fW] at h;obtain⟨h1,h2⟩:=h;refine⟨?_,λy hy z=>?_,λy hy z=>?_,λy hy z=>?_⟩
 ·split at h1
  ·assumption
  ·cases h1
 ·have:=h2 y hy;rw[z] at this;dsimp only at this;split at this
  ·assumption
  ·cases this
 ·have:=h2 y hy;rw[z] at this;dsimp only at this;split at this
  ·exact .inl (by assumption)
  ·exact .inr (by assumption)
  ·cases this
 ·have:=h2 y hy;rw[z] at this;dsimp only at this;split at this
  ·assumption
  ·cases this
noncomputable def frB(scope:Scope)(XN:List Str):List Str->List Nat->Bool
 |y::N,j::fr=>(match scope.names.lookup y with|some .free=>true|_=>false)&&decide (XN[j]?=some y)&&frB scope XN N fr
 |[],[]=>true
 |_,_=>false
theorem ziP:∀{N:List Str} {fr:List Nat},frB scope XN N fr=true->N.length=fr.length/\∀(i:Nat) (y:Str) (j:Nat),N[i]?=some y->fr[i]?=some j->scope.names.lookup y=some .free/\XN[j]?=some y
 |[],[],_=>⟨rfl,λi y j h=>by simp at h⟩
 |[],_::_,h=>by cases h
 |_::_,[],h=>by cases h
 |y::N,j::fr,h=>by
  unfold frB at h;rw[cU,cU,Fz] at h;obtain⟨⟨h1,h2⟩,h3⟩:=h;obtain⟨l,q⟩:=ziP h3;refine⟨by simp[l],λi z m e1 e2=>?_⟩;cases i with
  |zero=>
   simp at e1 e2;subst e1 e2;refine⟨?_,h2⟩;split at h1
   ·assumption
   ·cases h1
  |succ i=>exact q i z m (by simpa using e1) (by simpa using e2)
noncomputable def okN(x:Str):Bool:=!(x==("__debug__" : Str)) && !(x==("__classdict__" : Str)) && !decide (x="__name__")
theorem uo(h:okN x=true):(x==("__debug__" : Str))=false/\(x==("__classdict__" : Str))=false/\x≠"__name__":=by
 unfold okN at h;simp only[cU,Nh,M6] at h;exact⟨h.1.1,h.1.2,h.2⟩
theorem OJ{env:Env}{k:NameKind}(hk:k≠.free):∀{names:List (Str×NameKind)} {x:Str},names.lookup x=some k->
  (names.map λ(n,k)=>if (k==NameKind.free&&env.scope.kind==.function&&env.kindOf n==some .cell) then (n,NameKind.cell) else (n,k)).lookup x=some k
 |[],x,h=>by simp at h
 |(n,q)::r,x,h=>by
  rw[nU] at h;rw[jL,nU];have hd:∀c:Bool,(if c=true then (n,NameKind.cell) else (n,q)).1=n:=λc=>by cases c<;>rfl
  rw[hd];by_cases z:x=n
  ·subst z;simp only[zP] at h ⊢;cases h
   split
   ·rename_i y;simp only[cU,jz] at y;exact absurd y.1.1 hk
   ·rfl
  ·have z':(x==n)=false:=by simpa using z
   simp only[z'] at h ⊢;exact OJ hk h
theorem zkT{K:W.Frag}{C:Addr}(h:Ny K C=true):XC K C:=by
 unfold Ny at h;simp only[cU,jz] at h;obtain⟨⟨⟨⟨⟨⟨⟨h1,h2⟩,h3⟩,h4⟩,h5⟩,h6⟩,h7⟩,h8⟩:=h;exact⟨h1,h2,h3,h4,h5,h6,h7,h8⟩
theorem T_{n c:Nat}(hn:0<n):pJ n c<n:=by unfold pJ;split<;>lia
theorem Ua{n c:Nat}(hn:0<n):pJ n (pJ n c)=pJ n c:=by unfold pJ;split<;>simp_all
theorem zj7{n c e:Nat}(hn:0<n):kI n (pJ n c) (pJ n e)=kI n c e:=by unfold kI;rw[Ua hn,Ua hn]
theorem zjT{K:W.Frag}{L:List Addr}{f:Nat->List Str}(hL:0<L.length)(h:qM K L=true):vH K ⟨eY L,f⟩ (kI L.length):=by
 unfold qM at h;rw[fW] at h;have key:∀c,Ny K (eY L c)=true/\PySem.W.kitOne K (.ref (eY L c)) (.type "ValueError")=some true/\∀e,PySem.W.kitOne K (.ref (eY L c)) (.ref (eY L e))=some (kI L.length c e):=λc=>by
  have z:=h (pJ L.length c) (tZ.mpr (T_ hL));simp only[cU,jz,fW] at z;obtain⟨⟨z1,z2⟩,z3⟩:=z;refine⟨z1,z2,λe=>?_⟩;have y:=z3 (pJ L.length e) (tZ.mpr (T_ hL));rw[zj7 hL] at y;exact y
 exact⟨λc=>zkT (key c).1,λc e=>(key c).2.2 e,λc=>(key c).2.1⟩
theorem zjC{K:W.Frag}{L:List Addr}{d:Nat}(hL:0<L.length)(h:subB K L d=true):∀c,kI L.length c d=true->L2.subIn K (eY L c) (eY L d)=true:=λc hc=>by
 unfold subB at h;rw[fW] at h;have z:=h (pJ L.length c) (tZ.mpr (T_ hL));have y:kI L.length (pJ L.length c) d=true:=by
  unfold kI at hc ⊢;rw[Ua hL];exact hc
 rw[y] at z;exact z
noncomputable def vO(K:W.Frag):Sp:=λvs H Q _=>∃(a:Addr) (ns:List Int),vs=[.ref a]/\dI K H a (ns.map V.int)/\ns.length<=63/\Only H/\∀H',Q (.bl true) H'
theorem zjY{K:W.Frag}{cA:Cl}{m:List Xv->M Xv}(hm:∀ns:List Int,ns.length<=63->∃s',m [.d (.fl (ns.map D.int))] []=some (.ok (.d (.bl true)),s'))(vs:List V)(H:Hp)(Q:VK)(E:XK)(h:vO K vs H Q E):wZ K cA m vs H Q E:=by
 obtain⟨a,ns,rfl,hq,hl,hO,k⟩:=h;obtain⟨U,ds,s,r1,r2,h⟩:=zmN (cA:=cA) (m:=m) hq (hm ns hl);refine⟨U,ds,s,r1,r2,?_⟩;unfold Run at h ⊢;split at h
 ·intro U' H' x r v rv;rw[h U' H' x r v rv];exact k H'
 ·exact λU' H' x r dx q=>(h U' H' x r dx q).elim
 ·exact h
theorem Dv{K:W.Frag}{fd:FuncData}{p:Str}(h:∀a,bindArgs fd ⟨[a],[]⟩=pure [(p,a)]):Binds K fd [p] []:=.all λus hl=>by
 cases us with
 |nil=>cases hl
 |cons a r=>cases r with
  |nil=>exact h a
  |cons b r=>cases hl
theorem Dw{K:W.Frag}{fd:FuncData}{p q:Str}(h:∀a b,bindArgs fd ⟨[a,b],[]⟩=pure [(p,a),(q,b)]):Binds K fd [p,q] []:=.all λus hl=>by
 cases us with
 |nil=>cases hl
 |cons a r=>cases r with
  |nil=>cases hl
  |cons b r=>cases r with
   |nil=>exact h a b
   |cons c r=>cases hl
theorem Dy{K:W.Frag}{fd:FuncData}{p q t:Str}(h:∀a b c,bindArgs fd ⟨[a,b,c],[]⟩=pure [(p,a),(q,b),(t,c)]):Binds K fd [p,q,t] []:=.all λus hl=>by
 cases us with
 |nil=>cases hl
 |cons a r=>cases r with
  |nil=>cases hl
  |cons b r=>cases r with
   |nil=>cases hl
   |cons c r=>cases r with
    |nil=>exact h a b c
    |cons d r=>cases hl
theorem zi5:bootBuiltins "int"=some (.type "int"):=by decide +kernel
theorem zgV:bootBuiltins "bool"=some (.type "bool"):=by decide +kernel
theorem Ay:bootBuiltins "tuple"=some (.type "tuple"):=by decide +kernel
theorem zjt:bootBuiltins "list"=some (.type "list"):=by decide +kernel
theorem zc3:bootBuiltins "ValueError"=some (.type "ValueError"):=by decide +kernel
structure JE(X:Cx)(cA:Cl)(ao:Nat->Nat->Bool)(aj:Bool)(F:Fn)(EX:XS)(e:Expr)(m:E):Prop where
 o:SE X cA ao aj F EX e m
structure JA(X:Cx)(cA:Cl)(ao:Nat->Nat->Bool)(aj:Bool)(F:Fn)(EX:XS)(e:List Expr)(m:Es):Prop where
 o:SA X cA ao aj F EX e m
structure JT(X:Cx)(cA:Cl)(ao:Nat->Nat->Bool)(aj:Bool)(F:Fn)(EX:XS)(e:Expr)(m:E):Prop where
 o:ST X cA ao aj F EX e m
structure JW(X:Cx)(cA:Cl)(ao:Nat->Nat->Bool)(aj:Bool)(F:Fn)(EX:XS)(e:Expr)(m:E):Prop where
 o:SW X cA ao aj F EX e m
structure JC(X:Cx)(cA:Cl)(ao:Nat->Nat->Bool)(aj:Bool)(F:Fn)(EX:XS)(e:List Expr)(m:Eo):Prop where
 o:KQ X cA ao aj F EX e m
structure JO(X:Cx)(cA:Cl)(ao:Nat->Nat->Bool)(aj:Bool)(F:Fn)(EX:XS)(e:Option Expr)(m:Eo):Prop where
 o:KD X cA ao aj F EX e m
structure JI(X:Cx)(cA:Cl)(ao:Nat->Nat->Bool)(aj:Bool)(F:Fn)(EX:XS)(tg e:Expr)(m:Wk):Prop where
 o:SI X cA ao aj F EX tg e m
structure JG(X:Cx)(cA:Cl)(ao:Nat->Nat->Bool)(aj:Bool)(F:Bool->Fn)(EX:XS)(e:Expr)(m:Tg):Prop where
 o:SG X cA ao aj F EX e m
structure JS(X:Cx)(cA:Cl)(ao:Nat->Nat->Bool)(aj:Bool)(F:Bool->Fn)(EX:XS)(e:Stmt)(m:St):Prop where
 o:SS X cA ao aj F EX e m
structure JB(X:Cx)(cA:Cl)(ao:Nat->Nat->Bool)(aj:Bool)(F:Bool->Fn)(EX:XS)(e:List Stmt)(m:cL):Prop where
 o:vL X cA ao aj F EX e m
structure JK(X:Cx)(x:Str)(k:NameKind):Prop where
 o:X.env.scope.names.lookup x=some k
structure JP(X:Cx)(cA:Cl)(op:CmpOp)(p:Pr):Prop where
 o:∃r,cZ X (compareOp op) r/\aQ X.K cA p (r2 r)
structure JQ(X:Cx)(cA:Cl)(op:Operator)(p:Pr):Prop where
 o:∃r,cZ X (binaryOp op) r/\aQ X.K cA p (r2 r)
structure JN(X:Cx)(cA:Cl)(kx:Expr)(k:Kd):Prop where
 o:PE X kx (tC (Gu cA k))
structure JR(X:Cx)(EX:XS):Prop where
 o:Raises X EX
structure JH(X:Cx):Prop where
 o:PassesOwn (model X.prog X.w) X.A X.env X.xe
structure JY(X:Cx)(tg:Expr)(g:TG):Prop where
 o:PG X tg g
noncomputable def pq:NameKind->Bool
 |.local=>true
 |.cell=>true
 |_=>false
noncomputable def Dz:NameKind->Bool
 |.local=>true
 |.cell=>true
 |.free=>true
 |_=>false
section
variable {X:Cx}{cA:Cl}{ao:Nat->Nat->Bool}{aj:Bool}{F:Fn}{EX:XS}{a b c d e:Expr}{A B C Dd E':E}{pos p p2 apos:Pos}{es:List Expr}{Xs:Es}{x y:Str}{k k':NameKind}{q q1 q2 q3:Pr}{fz:Bool}
theorem zot(h:scope.names.lookup x=some k)(hk:(match k with|.free=>false|_=>true)=true):JK (X.blk scope cl N Cc s3 H3 fp ak) x k:=
 ⟨OJ (by intro z;subst z;cases hk) h⟩
theorem g_v(i:Nat)(hN:X.N[i]?=some x)(h:JK X x k)(hv:Dz k=true)(hd:okN x=true):JE X cA ao aj F EX (.Name x pos) (.v i):=
 ⟨Zv i hN (by cases k<;>first|exact .inl h.o|exact .inr (.inl h.o)|exact .inr (.inr h.o)|cases hv) (uo hd).1 (uo hd).2.1⟩
theorem zoW(i:Nat)(hN:N[i]?=some x)(h:scope.names.lookup x=some .free)(hd:okN x=true):JE (X.blk scope cl N Cc s3 H3 fp ak) cA ao aj F EX (.Name x pos) (.v i):=
 ⟨Zv i hN (.inr (Og h)) (uo hd).1 (uo hd).2.1⟩
theorem aC{i j p}:JE X cA ao aj F EX (.Constant (.int i) j p) (.c (.int i)):=⟨zlj⟩
theorem gD{i j p}:JE X cA ao aj F EX (.Constant (.bool i) j p) (.c (.bl i)):=⟨znQ⟩
theorem rB{j p}:JE X cA ao aj F EX (.Constant .none j p) (.c .non):=⟨zmh⟩
theorem jt{i j p}:JE X cA ao aj F EX (.Constant (.str i) j p) (.c (.str i)):=⟨zmU⟩
theorem zoD(h:∃t,X.mg x=some (.int i t))(hg:JK X x .globalImplicit)(hd:okN x=true):JE X cA ao aj F EX (.Name x pos) (.c (.int i)):=by
 obtain⟨t,h⟩:=h;exact⟨zkd hg.o h (uo hd).1⟩
theorem fB:JQ X cA .Add .add:=⟨_,zgR,zly⟩
theorem vP:JQ X cA .Sub .ao:=⟨_,zmr,zm1⟩
theorem KR:JQ X cA .Mult .mul:=⟨_,zlG,zlV⟩
theorem ziR:JQ X cA .FloorDiv .fdiv:=⟨_,zki,zjc⟩
theorem Gx:JQ X cA .Mod .mod:=⟨_,zlx,zlk⟩
theorem zln:JQ X cA .Pow .pow:=⟨_,zmE,zla⟩
theorem b_(h:JQ X cA op q)(ha:JE X cA ao aj F EX a A)(hb:JE X cA ao aj F EX b B):JE X cA ao aj F EX (.BinOp a op b pos) (.pr fz q (.cons A (.cons B .nil))):=by
 obtain⟨r,h1,h2⟩:=h.o;exact⟨zlr h1 h2 ha.o hb.o⟩
theorem vQ(ha:JE X cA ao aj F EX a A):JE X cA ao aj F EX (.UnaryOp .USub a pos) (.pr true .neg (.cons A .nil)):=⟨zno Yi zlv ha.o⟩
theorem zmR(ha:JE X cA ao aj F EX a A):JE X cA ao aj F EX (.UnaryOp .Not a pos) (.not A):=⟨zm8 ha.o⟩
theorem vR{op}(ha:JE X cA ao aj F EX a A):JE X cA ao aj F EX (.BoolOp op [a] pos) A:=⟨zlH ha.o⟩
theorem vU{rest:List Expr}(ha:JE X cA ao aj F EX a A)(hb:JE X cA ao aj F EX (.BoolOp .And (b::rest) pos) B):JE X cA ao aj F EX (.BoolOp .And (a::b::rest) pos) (.and A B):=⟨zls ha.o hb.o⟩
theorem rC{k:Nat}(hr:cD k X.A):JP X cA .Eq .eq:=⟨_,zl2 (vM hr),znx⟩
theorem vV{k:Nat}(hr:cD k X.A):JP X cA .NotEq .ne:=⟨_,zmI (vM hr),znj⟩
theorem uq{k:Nat}(hr:cD k X.A):JP X cA .Lt .lt:=⟨_,IW.or (zlY (by have:=vM hr;lia)),znV⟩
theorem zj:JP X cA .LtE .le:=⟨_,znM,znH⟩
theorem zoV:JP X cA .Gt .gt:=⟨_,znR,zni⟩
theorem zoT:JP X cA .GtE .ge:=⟨_,znU,znf⟩
theorem Gy{k:Nat}(hr:cD k X.A):JP X cA .In .inn:=⟨_,zk6 (vM hr),znS⟩
theorem znG{k:Nat}(hr:cD k X.A):JP X cA .NotIn .nin:=⟨_,zju (vM hr),zk0⟩
noncomputable def lD:Expr->Bool
 |.Set _ _ _=>false
 |_=>true
theorem tD(h:lD b=true):behindInMarks op b=false:=by cases b<;>first|rfl|cases h
theorem zm(ho:JP X cA op q)(ha:JE X cA ao aj F EX a A)(hb:JE X cA ao aj F EX b B)(h1:lD b=true:=by rfl):JE X cA ao aj F EX (.Compare a [op] [b] pos) (.pr true q (.cons A (.cons B .nil))):=by
 obtain⟨r,h2,h3⟩:=ho.o;exact⟨zle h2 h3 ha.o hb.o (tD h1)⟩
theorem gO(ho:JP X cA op q)(ha:JE X cA ao aj F EX a A)(hb:JE X cA ao aj F EX b B)(h1:lD b=true:=by rfl):JT X cA ao aj F EX (.Compare a [op] [b] pos) (.pr true q (.cons A (.cons B .nil))):=by
 obtain⟨r,h2,h3⟩:=ho.o;exact⟨zlO h2 h3 ha.o hb.o (tD h1)⟩
theorem zkQ(h1:JP X cA op q1)(h2:JP X cA op' q2)(ha:JE X cA ao aj F EX a A)(hb:JE X cA ao aj F EX b B)(hc:JE X cA ao aj F EX c C)(hm:lD c=true:=by rfl):JE X cA ao aj F EX (.Compare a [op,op'] [b,c] pos) (.sS q1 q2 A B C):=by
 obtain⟨r,h3,h4⟩:=h1.o;obtain⟨r',h5,h6⟩:=h2.o;exact⟨zm7 h3 h4 h5 h6 ha.o hb.o hc.o (tD hm)⟩
theorem zn1(h1:JP X cA op q1)(h2:JP X cA op' q2)(h3:JP X cA gR q3)(ha:JE X cA ao aj F EX a A)(hb:JE X cA ao aj F EX b B)(hc:JE X cA ao aj F EX c C)(hd:JE X cA ao aj F EX d Dd)(hm:lD d=true:=by rfl) :
  JE X cA ao aj F EX (.Compare a [op,op',gR] [b,c,d] pos) (.vp q1 q2 q3 A B C Dd):=by
 obtain⟨r,h4,h5⟩:=h1.o;obtain⟨r',h6,h7⟩:=h2.o;obtain⟨r'',h8,h9⟩:=h3.o;exact⟨zl6 h4 h5 h6 h7 h8 h9 ha.o hb.o hc.o hd.o (tD hm)⟩
theorem znI(h1:JP X cA op q1)(h2:JP X cA op' q2)(ha:JE X cA ao aj F EX a A)(hb:JE X cA ao aj F EX b B)(hc:JE X cA ao aj F EX c C)(hm:lD c=true:=by rfl):JT X cA ao aj F EX (.Compare a [op,op'] [b,c] pos) (.sS q1 q2 A B C):=by
 obtain⟨r,h3,h4⟩:=h1.o;obtain⟨r',h5,h6⟩:=h2.o;exact⟨zlL h3 h4 h5 h6 ha.o hb.o hc.o (tD hm)⟩
theorem zn0(h1:JP X cA op q1)(h2:JP X cA op' q2)(h3:JP X cA gR q3)(ha:JE X cA ao aj F EX a A)(hb:JE X cA ao aj F EX b B)(hc:JE X cA ao aj F EX c C)(hd:JE X cA ao aj F EX d Dd)(hm:lD d=true:=by rfl) :
  JT X cA ao aj F EX (.Compare a [op,op',gR] [b,c,d] pos) (.vp q1 q2 q3 A B C Dd):=by
 obtain⟨r,h4,h5⟩:=h1.o;obtain⟨r',h6,h7⟩:=h2.o;obtain⟨r'',h8,h9⟩:=h3.o;exact⟨zmK h4 h5 h6 h7 h8 h9 ha.o hb.o hc.o hd.o (tD hm)⟩
theorem zoa{j p}(ha:JE X cA ao aj F EX a A):JE X cA ao aj F EX (.Compare a [.Is] [.Constant .none j p] pos) (.pr true .J6 (.cons A .nil)):=⟨zk8 ha.o⟩
noncomputable def KY:Expr->Bool
 |.Call _ _ _ _=>true
 |.Name _ _=>true
 |.Subscript _ _ _=>true
 |.Attribute _ _ _=>true
 |_=>false
theorem fC(ha:JE X cA ao aj F EX a A)(he:KY a=true:=by rfl):JT X cA ao aj F EX a A:=⟨zmq ha.o (by cases a<;>first|(intro _;rfl)|cases he)⟩
theorem fU(ha:JT X cA ao aj F EX a A):JT X cA ao aj F EX (.UnaryOp .Not a pos) (.not A):=⟨zlF ha.o⟩
theorem KZ(ha:JT X cA ao aj F EX a A):JW X cA ao aj F EX (.BoolOp .And [a] pos) A:=⟨zjj ha.o⟩
theorem uw(ha:JT X cA ao aj F EX a A):JW X cA ao aj F EX (.BoolOp .Or [a] pos) A:=⟨zk9 ha.o⟩
theorem K1{rest:List Expr}(ha:JT X cA ao aj F EX a A)(hb:JW X cA ao aj F EX (.BoolOp .And (b::rest) pos) B):JW X cA ao aj F EX (.BoolOp .And (a::b::rest) pos) (.and A B):=⟨zmu ha.o hb.o⟩
theorem pO{rest:List Expr}(ha:JT X cA ao aj F EX a A)(hb:JW X cA ao aj F EX (.BoolOp .Or (b::rest) pos) B):JW X cA ao aj F EX (.BoolOp .Or (a::b::rest) pos) (.or A B):=⟨znk ha.o hb.o⟩
theorem pA(h:JW X cA ao aj F EX a A):JT X cA ao aj F EX a A:=⟨zoR h.o⟩
theorem aB:JA X cA ao aj F EX [] .nil:=⟨zmZ⟩
theorem aq(ha:JE X cA ao aj F EX a A)(hr:JA X cA ao aj F EX es Xs)(hs:aF a=true:=by rfl):JA X cA ao aj F EX (a::es) (.cons A Xs):=⟨zjX ha.o hr.o (bB hs)⟩
theorem bF{k}(ha:JA X cA ao aj F EX es Xs)(hz:decide (Es.len Xs<=sizeLine)=true:=by rfl):JE X cA ao aj F EX (.Tuple es k pos) (.tup Xs):=⟨zmx ha.o (gb hz)⟩
theorem fD(ha:JA X cA ao aj F EX es Xs)(hz:decide (Es.len Xs<=sizeLine)=true:=by rfl):JE X cA ao aj F EX (.List es pos) (.lst fz Xs):=⟨zlJ ha.o (gb hz)⟩
theorem zlK{j p1 j2 p3}{k:Str}{i:Int}:JE X cA ao aj F EX (.Dict [some (.Constant (.str k) j p1)] [.Constant (.int i) j2 p3] pos) (.vq k i):=⟨zjN⟩
noncomputable def vW:Expr->Bool
 |.Constant _ _ _=>true
 |.Name _ _=>true
 |.Call _ _ _ _=>true
 |.BinOp _ _ _ _=>true
 |.UnaryOp _ _ _=>true
 |.Subscript _ _ _=>true
 |.IfExp _ _ _ _=>true
 |.Attribute _ _ _=>true
 |.Compare _ _ _ _=>true
 |.BoolOp _ _ _=>true
 |_=>false
theorem bA(ha:JE X cA ao aj F EX a A)(hb:JE X cA ao aj F EX b B)(hs:vW b=true:=by rfl):JE X cA ao aj F EX (.Subscript a b pos) (.pr true .ix (.cons A (.cons B .nil))):=⟨znn znK ha.o hb.o (by cases b<;>first|(intro _ _;rfl)|cases hs)⟩
theorem ux:JO X cA ao aj F EX none .no:=⟨znA⟩
theorem rD(ha:JE X cA ao aj F EX a A):JO X cA ao aj F EX (some a) (.yes A):=⟨zmO ha.o⟩
theorem tG{lo hi:Option Expr}{Lo Hi:Eo}(ha:JE X cA ao aj F EX a A)(hl:JO X cA ao aj F EX lo Lo)(hh:JO X cA ao aj F EX hi Hi):JE X cA ao aj F EX (.Subscript a (.Slice lo hi none p2) pos) (.sl fz A Lo Hi):=⟨znq ha.o hl.o hh.o⟩
theorem Ub(ha:JE X cA ao aj F EX a A):JE X cA ao aj F EX (.Subscript a (.Slice none none (some (.UnaryOp .USub (.Constant (.int 1) j p3) p4)) p2) pos) (.pr true .rev (.cons A .nil)):=⟨zl1 ha.o⟩
theorem zkS(f:Nat){cm:Bool}{k:Nat}{fa:Addr}{fd:FuncData}{ps:List Str}(Fo:gA X.prog X.w X.K X.mg X.base (mZ X.prog X.w) cm k fa fd ps (wZ X.K cA (F f)))(sH:cm=true->X.aj=true)(hr:cD k X.A)(hm:X.mg x=some (.ref fa))(hk:PySem.W.keepIn X.K (.ref fa)=true)(hb:Binds X.K fd ps [])(R:JR X EX)(hg:JK X x .globalImplicit)
  (ha:JA X cA ao aj F EX (e::es) Xs) (hd:okN x=true) (he:aF e=true:=by rfl) (bM:es.all aF=true:=by rfl) :
  JE X cA ao aj F EX (.Call (.Name x p) (e::es) [] pos) (.call f Xs):=⟨zkm Fo sH hr hg.o hm hk hb R.o ha.o (uo hd).1 (bB he) (aX bM)⟩
theorem vX{c:Nat}(hm:X.mg x=some (.ref (cA.a c)))(hg:JK X x .globalImplicit)(hd:okN x=true):JN X cA (.Name x pos) (.cls c):=⟨Yb hg.o hm rfl (uo hd).1⟩
theorem uy(hv:Gu cA kd=.ty T)(hm:X.mg x=none)(hb:bootBuiltins x=some (.type T))(hg:JK X x .globalImplicit)(hd:okN x=true):JN X cA (.Name x pos) kd:=⟨λak s Z H Q I h=>by
 rw[hv] at h;exact Aa I hg.o hm hb ⟨.ty T,H,I,rfl,h⟩ (uo hd).2.2 (uo hd).1⟩
theorem lE(Cs:vH X.K cA ao)(hm:X.mg "isinstance"=none)(hg:JK X "isinstance" .globalImplicit)(ha:JE X cA ao aj F EX a A)(hk:JN X cA kx kd)(h1:aF a=true:=by rfl)(h2:aF kx=true:=by rfl):JE X cA ao aj F EX (.Call (.Name "isinstance" p) [a,kx] [] pos) (.gQ A kd):=
 ⟨zlw (λ_=>Cs) hg.o hm ha.o hk.o (bB h1) (bB h2) (aX (by rw[lU,h2];rfl))⟩
theorem tH(hm:X.mg "len"=none)(hg:JK X "len" .globalImplicit)(ha:JA X cA ao aj F EX (e::es) Xs)(he:aF e=true:=by rfl)(bM:es.all aF=true:=by rfl):JE X cA ao aj F EX (.Call (.Name "len" p) (e::es) [] pos) (.pr fz .len Xs):=⟨Ds zdQ zmF hg.o hm PySem.boot_len ha.o (by decide) (by decide) (bB he) (aX bM)⟩
theorem zkU(hm:X.mg "abs"=none)(hg:JK X "abs" .globalImplicit)(ha:JA X cA ao aj F EX (e::es) Xs)(he:aF e=true:=by rfl)(bM:es.all aF=true:=by rfl):JE X cA ao aj F EX (.Call (.Name "abs" p) (e::es) [] pos) (.pr fz .abs Xs):=⟨Ds ziA zm2 hg.o hm PyProof.Rows.boot_abs ha.o (by decide) (by decide) (bB he) (aX bM)⟩
theorem ziE(hc:X.aj=true)(hm:X.mg "max"=none)(hg:JK X "max" .globalImplicit)(ha:JA X cA ao aj F EX (e::es) Xs)(he:aF e=true:=by rfl)(bM:es.all aF=true:=by rfl):JE X cA ao aj F EX (.Call (.Name "max" p) (e::es) [] pos) (.pr fz .max2 Xs):=⟨Ds (zgq hc) zkA hg.o hm PyProof.Rows.boot_max ha.o (by decide) (by decide) (bB he) (aX bM)⟩
theorem ziO(hc:X.aj=true)(hm:X.mg "min"=none)(hg:JK X "min" .globalImplicit)(ha:JA X cA ao aj F EX (e::es) Xs)(he:aF e=true:=by rfl)(bM:es.all aF=true:=by rfl):JE X cA ao aj F EX (.Call (.Name "min" p) (e::es) [] pos) (.pr fz .min2 Xs):=⟨Ds (zhk hc) zkr hg.o hm PyProof.Rows.boot_min ha.o (by decide) (by decide) (bB he) (aX bM)⟩
theorem ziK(hm:X.mg "int"=none)(hg:JK X "int" .globalImplicit)(ha:JA X cA ao aj F EX (e::es) Xs)(he:aF e=true:=by rfl)(bM:es.all aF=true:=by rfl):JE X cA ao aj F EX (.Call (.Name "int" p) (e::es) [] pos) (.pr fz .vo Xs):=⟨Ot zgS zjq hg.o hm PyProof.Rows.boot_int ha.o (by decide) (by decide) (bB he) (aX bM)⟩
theorem zhB(hm:X.mg "divmod"=none)(hg:JK X "divmod" .globalImplicit)(ha:JA X cA ao aj F EX (e::es) Xs)(he:aF e=true:=by rfl)(bM:es.all aF=true:=by rfl):JE X cA ao aj F EX (.Call (.Name "divmod" p) (e::es) [] pos) (.pr fz .divmod Xs):=⟨Ds zeo zgl hg.o hm PyProof.Rows.boot_divmod ha.o (by decide) (by decide) (bB he) (aX bM)⟩
theorem Az(hc:X.aj=true)(hm:X.mg "all"=none)(hg:JK X "all" .globalImplicit)(ha:JA X cA ao aj F EX (e::es) Xs)(he:aF e=true:=by rfl)(bM:es.all aF=true:=by rfl):JE X cA ao aj F EX (.Call (.Name "all" p) (e::es) [] pos) (.pr fz .all Xs):=⟨Ds (zha hc) zml hg.o hm PyProof.Rows.boot_all ha.o (by decide) (by decide) (bB he) (aX bM)⟩
theorem Uc(hm:X.mg "list"=none)(hg:JK X "list" .globalImplicit)(ha:JA X cA ao aj F EX (e::es) Xs)(he:aF e=true:=by rfl)(bM:es.all aF=true:=by rfl):JE X cA ao aj F EX (.Call (.Name "list" p) (e::es) [] pos) (.pr fz .list Xs):=⟨Ot zd2 zi9 hg.o hm zjt ha.o (by decide) (by decide) (bB he) (aX bM)⟩
theorem A_(hm:X.mg "tuple"=none)(hg:JK X "tuple" .globalImplicit)(ha:JA X cA ao aj F EX (e::es) Xs)(he:aF e=true:=by rfl)(bM:es.all aF=true:=by rfl):JE X cA ao aj F EX (.Call (.Name "tuple" p) (e::es) [] pos) (.pr fz .tuple Xs):=⟨Ot zdb zhD hg.o hm Ay ha.o (by decide) (by decide) (bB he) (aX bM)⟩
theorem zjR(ho:JE X cA ao aj F EX a A)(ha:JA X cA ao aj F EX (e::es) Xs)(bR:attributeBase a "count" X.env (eval a X.env)=eval a X.env:=by rfl)(mY:decide (es.length<28)=true:=by rfl)(cV:(apos.endLine==pos.line)=true:=by rfl)(hs:aF e=true:=by rfl)(cT:es.all aF=true:=by rfl) :
  JE X cA ao aj F EX (.Call (.Attribute a "count" apos) (e::es) [] pos) (.meth true .count .list A Xs):=⟨Z9 (k:=.list) M5 PySem.F.slot_list_count PySem.F.type_list_count zgb ziq ho.o ha.o bR (nD hs cT mY) cV (bB hs) (aX cT)⟩
theorem zjG(ho:JE X cA ao aj F EX a A)(ha:JA X cA ao aj F EX (e::es) Xs)(bR:attributeBase a "index" X.env (eval a X.env)=eval a X.env:=by rfl)(mY:decide (es.length<28)=true:=by rfl)(cV:(apos.endLine==pos.line)=true:=by rfl)(hs:aF e=true:=by rfl)(cT:es.all aF=true:=by rfl) :
  JE X cA ao aj F EX (.Call (.Attribute a "index" apos) (e::es) [] pos) (.meth true .index .list A Xs):=⟨Z9 (k:=.list) M5 PySem.F.slot_list_index PySem.F.type_list_index zf0 zhS ho.o ha.o bR (nD hs cT mY) cV (bB hs) (aX cT)⟩
theorem zlT(ho:JE X cA ao aj F EX a A)(hb:JE X cA ao aj F EX b B)(bR:attributeBase a "append" X.env (eval a X.env)=eval a X.env:=by rfl)(cV:(apos.endLine==pos.line)=true:=by rfl)(hs:aF b=true:=by rfl) :
  JE X cA ao aj F EX (.Call (.Attribute a "append" apos) [b] [] pos) (.push A B):=⟨zjI ho.o hb.o bR (nD hs rfl rfl) cV (bB hs) rfl⟩
theorem znT(ho:JE X cA ao aj F EX a A)(bR:attributeBase a "pop" X.env (eval a X.env)=eval a X.env:=by rfl)(cV:(apos.endLine==pos.line)=true:=by rfl) :
  JE X cA ao aj F EX (.Call (.Attribute a "pop" apos) [] [] pos) (.pop A):=⟨zmj ho.o bR cV⟩
theorem uz:JC X cA ao aj F EX [] .no:=⟨zl0⟩
theorem zp(h:JT X cA ao aj F EX c C):JC X cA ao aj F EX [c] (.yes C):=⟨zkc h.o⟩
theorem mF(ha:JE X cA ao aj F EX a A):JI X cA ao aj F EX tg a (.seq A):=⟨zm9 ha.o⟩
theorem zoS(hmg:X.mg "range"=none)(vK:JK X "range" .globalImplicit)(ha:JE X cA ao aj F EX a A)(hb:JE X cA ao aj F EX b B)(h1:aF a=true:=by rfl)(h2:aF b=true:=by rfl):JI X cA ao aj F EX tg (.Call (.Name "range" p) [a,b] [] pos) (.rg A B):=⟨zny vK.o hmg ha.o hb.o (bB h1) (bB h2)⟩
theorem Gz(hmg:X.mg "range"=none)(vK:JK X "range" .globalImplicit)(hb:JE X cA ao aj F EX b B)(h2:aF b=true:=by rfl):JI X cA ao aj F EX tg (.Call (.Name "range" p) [b] [] pos) (.rg (.c (.int 0)) B):=⟨zlR vK.o hmg hb.o (bB h2)⟩
noncomputable def K3(scope:Scope)(x:Str):Bool:=match scope.names.lookup x with
 |some .local=>true
 |some .cell=>true
 |_=>false
theorem GC(h:K3 scope x=true):Loc (X.blk scope cl N Cc s3 H3 fp ak).env.scope x/\((X.blk scope cl N Cc s3 H3 fp ak).fn x=true\/(X.blk scope cl N Cc s3 H3 fp ak).env.scope.names.lookup x=some .local):=by
 unfold K3 at h;split at h
 ·rename_i z;exact⟨.inl (lookup_relabel_local z),.inr (lookup_relabel_local z)⟩
 ·rename_i z;exact⟨.inr (OJ (by intro y;cases y) z),.inl (by show (scope.names.lookup x==some NameKind.cell)=true;rw[z];rfl)⟩
 ·cases h
theorem nF(i:Nat)(wR:N.Nodup)(hi:N[i]?=some x)(hl:K3 scope x=true):JY (X.blk scope cl N Cc s3 H3 fp ak) (.Name x tp) (eZ i):=
 ⟨N5 wR hi (GC hl).1 (GC hl).2⟩
theorem zoz(i j:Nat)(hc:X.aj=true)(wR:N.Nodup)(hi:N[i]?=some x)(hj:N[j]?=some y)(hl:K3 scope x=true)(sO:K3 scope y=true):JY (X.blk scope cl N Cc s3 H3 fp ak) (.Tuple [.Name x px,.Name y py] kt tp) (uR X.K 2 (iG (eZ i) (iG (eZ j) uQ))):=
 ⟨T9 (X:=X.blk scope cl N Cc s3 H3 fp ak) hc wR hi hj (GC hl).1 (GC sO).1 (GC hl).2 (GC sO).2⟩
theorem GD{scope:Scope}{XN:List Str}{M0 N:List Str}{fr:List Nat}(h:frB scope XN N fr=true):(M0++N).length=M0.length+fr.length/\∀(i:Nat) (y:Str) (j:Nat),(M0++N)[M0.length+i]?=some y->fr[i]?=some j->scope.names.lookup y=some .free/\XN[j]?=some y:=by
 obtain⟨l,q⟩:=ziP h;refine⟨by rw[cY,l],λi y j e1 e2=>q i y j ?_ e2⟩;rw[pH (by lia)] at e1;rw[show M0.length+i-M0.length=i by lia] at e1;exact e1
theorem pP{elt iter tg:Expr}{ifs:List Expr}{scope:Scope}{cond:Eo}{dU:List Nat}{g:TG}{w:Wk}(sc:Scope)(XN M0 N:List Str)(fr:List Nat)(hc:X.aj=true)(Ud:X.env.scope=sc)(yZ:X.N=XN)(hB:vN sc scope=true)(hf:frB scope XN N fr=true)(hT:nu X.K cA g dU)(gM:dU.all (λi=>decide (i<M0.length))=true)
  (hi:JI X cA ao aj F EX tg iter w) (hg:∀cl C s3 H3 fp ak,JY (X.blk scope cl (M0++N) C s3 H3 fp ak) tg g)
  (ht:∀cl C s3 H3 fp ak,JC (X.blk scope cl (M0++N) C s3 H3 fp ak) cA ao aj F (λ_ _ _ _=>False) ifs cond) (he:∀cl C s3 H3 fp ak,JE (X.blk scope cl (M0++N) C s3 H3 fp ak) cA ao aj F (λ_ _ _ _=>False) elt B)
  (hs:∀x,foldedSetIterable iter X.env x=pure x:=by intro _;rfl):JE X cA ao aj F EX (.ListComp elt [⟨tg,iter,ifs,0⟩] scope pos) (.comp fz B dU w fr M0.length cond):=
 ⟨zgF hc (dX.of (Ud▸hB)) hi.o (GD (yZ▸hf)).1 (GD (yZ▸hf)).2 (λa b c d e f=>(hg a b c d e f).o) hT (λi hi=>gb (fW.mp gM i hi)) (λa b c d e f=>(ht a b c d e f).o) (λa b c d e f=>(he a b c d e f).o) hs⟩
theorem Kaa{scope fG:Scope}{env:Env}(h:dX scope fG):dX (relabel scope env) fG:=⟨h.kind,h.YW,λy hy z=>by
 rcases h.free y hy z with q|q
 ·exact .inl (OJ (by intro y;cases y) q)
 ·exact Og q,h.loc⟩
theorem zka{elt iter tg:Expr}{ifs:List Expr}{scope fG:Scope}{cond:Eo}{dU:List Nat}{g:TG}{w:Wk}{cl:List (Str×Addr)}{Ba:List Str}{Cc:Addr}{s3:Shared}{H3:Hp}{fp:List Addr}{ak:List (Addr×Obj)}(XN M0 N:List Str)(fr:List Nat)(hc:X.aj=true)(yZ:Ba=XN)(hB:vN scope fG=true)(hf:frB fG XN N fr=true)(hT:nu X.K cA g dU)(gM:dU.all (λi=>decide (i<M0.length))=true)
  (hi:JI (X.blk scope cl Ba Cc s3 H3 fp ak) cA ao aj F EX tg iter w) (hg:∀cl2 C s3' K4 fp' iD,JY ((X.blk scope cl Ba Cc s3 H3 fp ak).blk fG cl2 (M0++N) C s3' K4 fp' iD) tg g)
  (ht:∀cl2 C s3' K4 fp' iD,JC ((X.blk scope cl Ba Cc s3 H3 fp ak).blk fG cl2 (M0++N) C s3' K4 fp' iD) cA ao aj F (λ_ _ _ _=>False) ifs cond) (he:∀cl2 C s3' K4 fp' iD,JE ((X.blk scope cl Ba Cc s3 H3 fp ak).blk fG cl2 (M0++N) C s3' K4 fp' iD) cA ao aj F (λ_ _ _ _=>False) elt B)
  (hs:∀x,foldedSetIterable iter (X.blk scope cl Ba Cc s3 H3 fp ak).env x=pure x:=by intro _;rfl):JE (X.blk scope cl Ba Cc s3 H3 fp ak) cA ao aj F EX (.ListComp elt [⟨tg,iter,ifs,0⟩] fG pos) (.comp fz B dU w fr M0.length cond):=by
 subst yZ;exact⟨zgF (X:=X.blk scope cl Ba Cc s3 H3 fp ak) hc (Kaa (dX.of hB)) hi.o (GD hf).1 (GD hf).2 (λa b c d e f=>(hg a b c d e f).o) hT (λi hi=>gb (fW.mp gM i hi)) (λa b c d e f=>(ht a b c d e f).o) (λa b c d e f=>(he a b c d e f).o) hs⟩
theorem uD:JR X (λ_ _ _ _=>False):=⟨zgi⟩
theorem bG{P:Program}{w:World}{K:W.Frag}{mg:Str->Option Value}{base:Heap}{N:List Str}{qual:Str}{scope:Scope}{f:Addr}{cd:Value}{A:Around}{outer:List Env}{s:Shared}{H:Hp}{E:XK}{cm:Bool} :
  JR (jO (mZ P w) P w K mg base N qual scope f cd A outer s H E cm) (λ_ C dx H'=>E C dx H'):=⟨zfH⟩
theorem Bb{CX:uX}{P:Program}{w:World}{K:W.Frag}{mg:Str->Option Value}{base:Heap}{N:List Str}{qual:Str}{scope:Scope}{f:Addr}{cd:Value}{A:Around}{outer:List Env}{s:Shared}{H:Hp}{E:XK}{cm:Bool} :
  JH (jO CX P w K mg base N qual scope f cd A outer s H E cm):=⟨PassesOwn.leaving⟩
end
section
variable {X:Cx}{cA:Cl}{ao:Nat->Nat->Bool}{aj:Bool}{F:Bool->Fn}{EX:XS}{a b c d e:Expr}{A B C:E}{pos p p2:Pos}{st:Stmt}{sts body orelse:List Stmt}{m:St}{ms mb me mh:cL}{es:List Expr}{Xs:Es}{x y n:Str}{k k':NameKind}
theorem DG(h:JK X x k)(hv:pq k=true):Loc X.env.scope x:=by cases k<;>first|exact .inl h.o|exact .inr h.o|cases hv
theorem DK(h:JK X x k)(hv:X.fn x=true\/k=.local):X.fn x=true\/X.env.scope.names.lookup x=some .local:=by
 rcases hv with hv|hv
 ·exact .inl hv
 ·subst hv;exact .inr h.o
theorem aM:JB X cA ao aj F EX [] .nil:=⟨zkb⟩
theorem aG(h1:JS X cA ao aj F EX st m)(h2:JB X cA ao aj F EX sts ms):JB X cA ao aj F EX (st::sts) (.cons m ms):=⟨zhV h1.o h2.o⟩
theorem xg(ha:JE X cA ao aj (F aj) EX a A)(hs:swapsWith a none pos.line X.env=pure false:=by rfl):JS X cA ao aj F EX (.Expr a pos) (.ex A):=⟨znl ha.o hs⟩
theorem bL(ha:JE X cA ao aj (F aj) EX a A):JS X cA ao aj F EX (.Return (some a) pos) (.ret A):=⟨zmf ha.o⟩
theorem gq(i:Nat)(hN:X.N.Nodup)(hi:X.N[i]?=some x)(hx:JK X x k)(hl:pq k=true)(ha:JE X cA ao aj (F aj) EX a A)(hs:swapsWith a (some (.Name x p)) pos.line X.env=pure false:=by rfl)(hf:X.fn x=true\/k=.local:=by first|exact .inl rfl|exact .inr rfl):JS X cA ao aj F EX (.Assign [.Name x p] a pos) (.asg (.nm i) A):=
 ⟨zlQ hN hi (DG hx hl) ha.o hs (DK hx hf)⟩
theorem O1{elt iter tg:Expr}{ifs:List Expr}{scope:Scope}{cond:Eo}{dU:List Nat}{g:TG}{w:Wk}{fz:Bool}{py spos:Pos}(i:Nat)(sc:Scope)(XN M0 N:List Str)(fr:List Nat)(hN:X.N.Nodup)(oM:X.N[i]?=some y)(hx:JK X y k)(hl:pq k=true)(hc:X.aj=true)(Ud:X.env.scope=sc)(yZ:X.N=XN)(hB:vN sc scope=true)(hf:frB scope XN N fr=true)(hT:nu X.K cA g dU)(gM:dU.all (λi=>decide (i<M0.length))=true)
  (hi:JI X cA ao aj (F aj) EX tg iter w) (hg:∀cl C s3 H3 fp ak,JY (X.blk scope cl (M0++N) C s3 H3 fp ak) tg g)
  (ht:∀cl C s3 H3 fp ak,JC (X.blk scope cl (M0++N) C s3 H3 fp ak) cA ao aj (F aj) (λ_ _ _ _=>False) ifs cond) (he:∀cl C s3 H3 fp ak,JE (X.blk scope cl (M0++N) C s3 H3 fp ak) cA ao aj (F aj) (λ_ _ _ _=>False) elt B)
  (JF:swapsWith (.ListComp elt [⟨tg,iter,ifs,0⟩] scope pos) (some (.Name y py)) spos.line X.env=pure true:=by rfl) (hff:X.fn y=true\/k=.local:=by first|exact .inl rfl|exact .inr rfl) (hs:∀x,foldedSetIterable iter X.env x=pure x:=by intro _;rfl) :
  JS X cA ao aj F EX (.Assign [.Name y py] (.ListComp elt [⟨tg,iter,ifs,0⟩] scope pos) spos) (.asg (.nm i) (.comp fz B dU w fr M0.length cond)):=
 ⟨zkv hc hN oM (DG hx hl) (DK hx hff) (dX.of (Ud▸hB)) hi.o (GD (yZ▸hf)).1 (GD (yZ▸hf)).2 (λa b c d e f=>(hg a b c d e f).o) hT (λi hi=>gb (fW.mp gM i hi)) (λa b c d e f=>(ht a b c d e f).o) (λa b c d e f=>(he a b c d e f).o) JF hs⟩
theorem zu(i j:Nat){k0}(hc:X.aj=true)(cj:aj=true)(hN:X.N.Nodup)(hi:X.N[i]?=some x)(hj:X.N[j]?=some y)(hx:JK X x k)(hy:JK X y k')(Ue:pq k=true)(Ug:pq k'=true)(ha:JE X cA ao aj (F aj) EX a A)
  (yW:X.fn x=true\/k=.local:=by first|exact .inl rfl|exact .inr rfl) (yX:X.fn y=true\/k'=.local:=by first|exact .inl rfl|exact .inr rfl)
  (hs:swapsWithSole [.Tuple [.Name x px,.Name y py] k0 pt] a pos.line X.env=pure false:=by rfl) (hw:swappedStores [.Tuple [.Name x px,.Name y py] k0 pt] a X.env=pure none:=by rfl) (h1:(assignEach [.Tuple [.Name x px,.Name y py] k0 pt] X.env).map (·.2)=[assign (.Tuple [.Name x px,.Name y py] k0 pt) X.env]:=by rfl) :
  JS X cA ao aj F EX (.Assign [.Tuple [.Name x px,.Name y py] k0 pt] a pos) (.asg (.tp [i,j]) A):=⟨zj3 hc cj hN hi hj (DG hx Ue) (DG hy Ug) (DK hx yW) (DK hy yX) ha.o hs hw h1⟩
theorem O2(hO:JE X cA ao aj (F aj) EX oo O)(hI:JE X cA ao aj (F aj) EX ii I')(ha:JE X cA ao aj (F aj) EX a A)
  (Du:∀v,assign (.Subscript oo ii p) X.env v=(do
   let obj <-holding [v] (eval oo X.env)
   let at_ <-holding [v,obj] (eval ii X.env)
   standAt p
   holding [v,obj,at_] (setItem obj at_ v)
   release [v,obj,at_] []):=by intro _;rfl) (hs:swapsWithSole [.Subscript oo ii p] a pos.line X.env=pure false:=by rfl) (hw:swappedStores [.Subscript oo ii p] a X.env=pure none:=by rfl)
  (h1:(assignEach [.Subscript oo ii p] X.env).map (·.2)=[assign (.Subscript oo ii p) X.env]:=by rfl):JS X cA ao aj F EX (.Assign [.Subscript oo ii p] a pos) (.asg (.ao O I') A):=⟨zld hO.o hI.o ha.o Du hs hw h1⟩
theorem zns(i j:Nat){kt k2 uU}(hc:X.aj=true)(cj:aj=true)(hN:X.N.Nodup)(hi:X.N[i]?=some x)(hj:X.N[j]?=some y)(lN:i≠j)(hx:JK X x .local)(hy:JK X y .local)
  (ha:JE X cA ao aj (F aj) EX a A) (hb:JE X cA ao aj (F aj) EX b B) (hw:swappedStores [.Tuple [.Name x px,.Name y py] kt pt] (.Tuple [a,b] k2 uU) X.env=pure (some [x,y])) (h1:aF a=true:=by rfl) (h2:aF b=true:=by rfl)
  (hs:swapsWithSole [.Tuple [.Name x px,.Name y py] kt pt] (.Tuple [a,b] k2 uU) pos.line X.env=pure false:=by rfl):JS X cA ao aj F EX (.Assign [.Tuple [.Name x px,.Name y py] kt pt] (.Tuple [a,b] k2 uU) pos) (.par i j A B):=
 ⟨zlW hc cj hN hi hj lN hx.o hy.o ha.o hb.o (bB h1) (bB h2) hw hs⟩
theorem dZ(hc:JT X cA ao aj (F aj) EX c C)(ht:JB X cA ao aj F EX body mb)(he:JB X cA ao aj F EX orelse me):JS X cA ao aj F EX (.If c body orelse pos) (.iff C mb me):=⟨znO hc.o ht.o he.o⟩
theorem zjw(hp:JH X)(hc:JT X cA ao aj (F aj) EX c C)(hb:JB X cA ao aj F EX body mb):JS X cA ao aj F EX (.While c body [] pos) (.wh C mb):=⟨zhw hp.o hc.o hb.o⟩
theorem K5(i:Nat)(hN:X.N.Nodup)(hi:X.N[i]?=some x)(hx:JK X x k)(hl:pq k=true)(hf:X.fn x=true\/k=.local:=by first|exact .inl rfl|exact .inr rfl):JG X cA ao aj F EX (.Name x pos) (.nm i):=⟨zjJ hN hi (DG hx hl) (DK hx hf)⟩
theorem ziF(i j:Nat){k0}(hc:X.aj=true)(cj:aj=true)(hN:X.N.Nodup)(hi:X.N[i]?=some x)(hj:X.N[j]?=some y)(hx:JK X x k)(hy:JK X y k')(Ue:pq k=true)(Ug:pq k'=true)(yW:X.fn x=true\/k=.local:=by first|exact .inl rfl|exact .inr rfl)(yX:X.fn y=true\/k'=.local:=by first|exact .inl rfl|exact .inr rfl) :
  JG X cA ao aj F EX (.Tuple [.Name x px,.Name y py] k0 pos) (.tp [i,j]):=⟨zkH hc cj hN hi hj (DG hx Ue) (DG hy Ug) (DK hx yW) (DK hy yX)⟩
theorem DN(hp:JH X)(hc:X.aj=true)(cj:aj=true)(ha:JI X cA ao aj (F aj) EX tg a w)(hg:JG X cA ao aj F EX tg t)(hb:JB X cA ao aj F EX body mb)(hs:∀x,foldedSetIterable a X.env x=pure x:=by intro _;rfl):JS X cA ao aj F EX (.For tg a body [] pos) (.fr t w mb):=
 ⟨zlh hp.o hc cj ha.o hg.o hb.o hs⟩
theorem Uh{cc:Nat}{apos:Pos}(hf:cA.f cc=[])(hc:X.aj=true)(cj:aj=true)(hX:PySem.W.excIn X.K (cA.a cc) [.type "ValueError",.type "Exception",.type "BaseException",.type "object"] "ValueError.__new__"=true)(hm:X.mg x=some (.ref (cA.a cc)))(hg:JK X x .globalImplicit)
  (R:JR X EX) (ha:JA X cA ao aj (F aj) EX (e::es) Xs) (hd:okN x=true) (hz:decide (Es.len Xs<=sizeLine)=true:=by rfl) (he:aF e=true:=by rfl) (bM:es.all aF=true:=by rfl) :
  JS X cA ao aj F EX (.Raise (some (.Call (.Name x p) (e::es) [] apos)) none pos) (.rise cc false Xs):=⟨zir hf G_ (by decide +kernel) G_ hc cj hX hg.o hm R.o ha.o (gb hz) (uo hd).1 (bB he) (aX bM)⟩
theorem znW(i:Nat)(cj:aj=true)(hex:X.ex=[])(qQ:X.stack=X.env::X.outer/\X.env.frame=some X.env.locals)(hg:JK X x .globalImplicit)(hm:X.mg x=some (.ref (cA.a dc)))(hN:X.N.Nodup)(hi:X.N[i]?=some n)(hl:JK X n .local)
  (hsub:∀c,ao c dc=true->subIn X.K (cA.a c) (cA.a dc)=true)
  (hb:∀(pn:List (Addr×Obj)) (E':Value->Shared->Prop) (ug:XS),JR (X.seen X.A X.aj pn E') ug->JH (X.seen X.A X.aj pn E')->JB (X.seen X.A X.aj pn E') cA ao aj F ug body mb)
  (hh:∀e:Value,JB (X.seen (X.A.mark (some e)) false X.pn (λ_ _=>False)) cA ao false F (λ_ _ _ _=>False) (b₀::suite) mh) (hd:okN x=true) :
  JS X cA ao aj F EX (.Try body [.ExceptHandler (some (.Name x np)) (some n) (b₀::suite) u9] [] [] pos) (.sW mb dc i mh):=
 ⟨zmn cj hex qQ hg.o hm hN hi hl.o hsub (λpn E' ug R H=>(hb pn E' ug ⟨R⟩ ⟨H⟩).o) (λe=>(hh e).o) (uo hd).1⟩
end
theorem zmi{P:Program}{w:World}{K:W.Frag}{mg:Str->Option Value}{base:Heap}{cA:Cl}{ao:Nat->Nat->Bool}{T:Nat->Option Df}{x qual:Str}{st:Stmt}{f:Addr}{fd:FuncData}{N ps:List Str}{k n:Nat}{cm:Bool}{df:Df}(F:zc K x qual st f fd)(S:iI N ps (au st))(hT:T n=some df)(hp:df.jq=ps.length)(hm:df.many=N.length)
  (hb:∀(cdv:Value) (A:Around) (outer:List Env) (s:Shared) (H:Hp) (E:XK),cD k (A.deeper (envOfC qual (au st) s.heap.objs.size f cdv))->
   JB (jO (mZ P w) P w K mg base N qual (au st) f cdv A outer s H E cm) cA ao cm (λc=>call ao T k c) (λ_ C dx H'=>E C dx H') (aN st) df.body) :
  gA P w K mg base (mZ P w) cm (k+1) f fd ps (wZ K cA (call ao T (k+1) cm n)):=zl4 F S hT hp hm λcdv A outer s H E hr=>(hb cdv A outer s H E hr).o
end Mi
namespace Mi
open PySem PySem.Spec PyProof.Rows L2 PySem.W
theorem zlt{fd:FuncData}{x:Str}{st:Stmt}(h:uc fd=wL x st):fd=fnOf x x (aW st) (aN st) (au st) .none fd.kwdefaults fd.doc fd.pyModule fd.annotations fd.code fd.closureTuple:=by
 cases fd;unfold uc wL at h;cases h;rfl
noncomputable def jV(K:Frag)(x:Str):Addr:=match BR K x with
 |some p=>p.1
 |none=>0
noncomputable def fdOf(K:Frag)(x:Str)(st:Stmt):FuncData:=match BR K x with
 |some p=>p.2
 |none=>wL x st
structure FnAt(K:Frag)(x:Str)(st:Stmt):Prop where
 ns:nsIn K mainGlobals x=some (some (.ref (jV K x)))
 fn:zc K x x st (jV K x) (fdOf K x st)
theorem zn8{K:Frag}{x:Str}{st:Stmt}(h:(BR K x).map (λp=>uc p.2)=some (wL x st)):FnAt K x st:=by
 cases e:BR K x with
 |none=>rw[e] at h;cases h
 |some p=>
  rw[e] at h;have hp:uc p.2=wL x st:=dM h;have h1:jV K x=p.1:=by unfold jV;rw[e]
  have h2:fdOf K x st=p.2:=by unfold fdOf;rw[e]
  unfold BR at e;split at e
  ·rename_i f hf;split at e
   ·rename_i oc od fd sl hl;split at e
    ·rename_i hc;cases e;rw[cU] at hc;refine⟨by rw[h1];exact hf,?_⟩;rw[h1,h2];exact⟨⟨oc,od,_,_,_,_,_,_,sl,zlt hp,hl,hc.1⟩,hc.2⟩
    ·cases e
   ·cases e
  ·cases e
theorem FnAt.m{K:Frag}{x:Str}{st:Stmt}(F:FnAt K x st){h:Heap}{mg:Str->Option Value}(X:K.In h)(G:h.Ns mainGlobals mg):mg x=some (.ref (jV K x)):=mg_of X G F.ns
theorem uE{K:Frag}{x:Str}(h:xW K x=true){hp:Heap}{mg:Str->Option Value}(X:K.In hp)(G:hp.Ns mainGlobals mg):mg x=some (.ref (BW K x)):=by
 refine mg_of X G ?_;unfold xW at h;unfold BW;split at h
 ·rename_i C e;rw[e]
 ·cases h
theorem zi3{K:Frag}{x:Str}{i:Int}(h:mL K (x,i)=true){hp:Heap}{mg:Str->Option Value}(X:K.In hp)(G:hp.Ns mainGlobals mg):∃t,mg x=some (.int i t):=by
 unfold mL at h;split at h
 ·rename_i j t e;rw[Fz] at h;subst h;exact⟨t,mg_of X G e⟩
 ·cases h
theorem pB{K:Frag}{x:Str}(h:qN K x=true){hp:Heap}{mg:Str->Option Value}(X:K.In hp)(G:hp.Ns mainGlobals mg):mg x=none:=by
 refine mg_none_of X G ?_;unfold qN at h;split at h
 ·rename_i e;exact e
 ·cases h
structure Bc(l:Lk)(K:Frag):Prop where
 cl:∀x∈l.H_,xW K x=true
 cs:l.H_.isEmpty=true\/qM K (l.L K)=true
 ra:∀k∈l.XH,HY K (eY (l.L K) k)=true
 ca:∀k∈l.XJ,subB K (l.L K) k=true
 it:∀p∈l.zV,mL K p=true
 no:∀x∈l.XD,qN K x=true
theorem Kab{l:Lk}{K:Frag}(h:l.good K=true):Bc l K:=by
 unfold Lk.good at h;simp only[cU,Bool.or_eq_true,fW] at h;obtain⟨⟨⟨⟨⟨h1,h2⟩,h3⟩,h4⟩,h5⟩,h6⟩:=h;exact⟨h1,h2,h3,h4,h5,h6⟩
theorem zx{K:Frag}{x:Str}{st:Stmt}{f:Addr}{fd:FuncData}{p:Str}(F:zc K x x st f fd)(h:∀(kV doc pm:Value) (an:Option Addr) (cdv ct a:Value),bindArgs (fnOf x x (aW st) (aN st) (au st) .none kV doc pm an cdv ct) ⟨[a],[]⟩=pure [(p,a)]):Binds K fd [p] []:=by
 obtain⟨oc,od,kV,doc,pm,an,cdv,ct,osl,rfl,lk,mU⟩:=F.ex;exact Dv (h kV doc pm an cdv ct)
theorem zy{K:Frag}{x:Str}{st:Stmt}{f:Addr}{fd:FuncData}{p q:Str}(F:zc K x x st f fd)(h:∀(kV doc pm:Value) (an:Option Addr) (cdv ct a b:Value),bindArgs (fnOf x x (aW st) (aN st) (au st) .none kV doc pm an cdv ct) ⟨[a,b],[]⟩=pure [(p,a),(q,b)]):Binds K fd [p,q] []:=by
 obtain⟨oc,od,kV,doc,pm,an,cdv,ct,osl,rfl,lk,mU⟩:=F.ex;exact Dw (h kV doc pm an cdv ct)
theorem zA{K:Frag}{x:Str}{st:Stmt}{f:Addr}{fd:FuncData}{p q t:Str}(F:zc K x x st f fd)(h:∀(kV doc pm:Value) (an:Option Addr) (cdv ct a b c:Value),bindArgs (fnOf x x (aW st) (aN st) (au st) .none kV doc pm an cdv ct) ⟨[a,b,c],[]⟩=pure [(p,a),(q,b),(t,c)]):Binds K fd [p,q,t] []:=by
 obtain⟨oc,od,kV,doc,pm,an,cdv,ct,osl,rfl,lk,mU⟩:=F.ex;exact Dy (h kV doc pm an cdv ct)
theorem DP{K:Frag}{x:Str}{st:Stmt}{f:Addr}{fd:FuncData}{p:Str}(F:zc K x x st f fd)(h:∀(kV doc pm:Value) (an:Option Addr) (cdv ct a:Value),bindArgs (fnOf x x (aW st) (aN st) (au st) .none kV doc pm an cdv ct) ⟨[a],[]⟩=pure [(p,a)]):∀(s:Shared) (u:Value),BindsTo s fd ⟨[u],[]⟩ [(p,u)]:=by
 obtain⟨oc,od,kV,doc,pm,an,cdv,ct,osl,rfl,lk,mU⟩:=F.ex;exact λs u=>.of_eq (h kV doc pm an cdv ct u)
end Mi
namespace Mi
open PySem PySem.Spec PyProof.Rows L2
section
variable {K:W.Frag}{cA:Cl}{U U' Td:Ph}{H H' Te:Hp}{s:S}
end
section
variable {X:Cx}{cA:Cl}{ao:Nat->Nat->Bool}{aj:Bool}{F:Fn}{EX:XS}{elt iter tg iter₂ tg₂:Expr}{A B:E}{pos p:Pos}{ifs:List Expr}{scope:Scope}{N:List Str}{cond:Eo}{fr dU dU₂:List Nat}{many:Nat}{fz:Bool}{w w₂:Wk}
end
section
variable {X:Cx}{cA:Cl}{ao:Nat->Nat->Bool}{aj:Bool}{F:Bool->Fn}{EX:XS}{elt iter tg iter₂ tg₂:Expr}{A B:E}{pos p:Pos}{ifs:List Expr}{scope:Scope}{N:List Str}{cond:Eo}{fr dU dU₂:List Nat}{many:Nat}{fz:Bool}{w w₂:Wk}{i:Nat}{y:Str}
end
section
variable {X:Cx}{cA:Cl}{ao:Nat->Nat->Bool}{aj:Bool}{F:Fn}{EX:XS}{elt iter tg iter₂ tg₂:Expr}{A B:E}{pos p:Pos}{ifs:List Expr}{scope:Scope}{N:List Str}{cond:Eo}{fr dU dU₂:List Nat}{many:Nat}{fz:Bool}{w w₂:Wk}{i:Nat}{y:Str}
end
section
variable {K:W.Frag}{cA:Cl}{U:Ph}{H:Hp}
theorem aD.DQ(r:aD K cA U H xs ys):∀l:List Nat,aD K cA U H (l.map λi=>xs.getD i .non) (l.map λi=>ys.getD i .non)
 |[]=>.nil
 |i::l=>by
  refine .cons ?_ (aD.DQ r l);show Rep K cA U H (xs.getD i .non) (ys.getD i .non);cases e:xs[i]? with
  |some x=>
   obtain⟨u,e1,e2⟩:=r.get e;rw[kj,kj,e,e1];exact e2
  |none=>
   have e1:ys[i]?=Option.none:=r.none e;rw[kj,kj,e,e1];exact .non
theorem aD.mem(r:aD K cA U H xs ys):∀v∈ys,∃d∈xs,Rep K cA U H d v:=by
 intro v hv;obtain⟨i,hi,e⟩:=Fq hv;have e':ys[i]?=some v:=by rw[fL hi,e]
 cases ex:xs[i]? with
 |none=>rw[r.none ex] at e';cases e'
 |some d=>
  obtain⟨u,e1,e2⟩:=r.get ex;rw[e1] at e';cases e';exact⟨d,jd ex,e2⟩
theorem zhi:∀{us ws:List D} {xs ys:List V},aD K cA U H us xs->aD K cA U H ws ys->∀{b:Bool},oR us ws=some b->jR xs ys=some b
 |[],ws,_,ys,r1,r2,b,h=>by
  cases r1;unfold oR at h;unfold jR;rw[<-r2.len];exact h
 |_::_,[],_,_,r1,r2,b,h=>by
  cases r2;cases r1;unfold oR at h;unfold jR;exact h
 |x::us,y::ws,_,_,r1,r2,b,h=>by
  cases r1 with
  |cons a1 b1=>
   cases r2 with
   |cons a2 b2=>
    unfold oR at h;split at h
    ·rename_i z;cases z
    ·rename_i z;cases z
    ·rename_i p ps q qs e1 e2;cases e1;cases e2;cases a1;cases a2;unfold jR;by_cases e:p=q
     ·rw[if_pos e] at h ⊢;exact zhi b1 b2 h
     ·rw[if_neg e] at h ⊢;exact h
    ·cases h
theorem zhv(r:aD K cA U H xs ys)(h:(xs.all m_||xs.all jm)=true):vd K H ys (wU xs):=by
 rw[Bool.or_eq_true] at h;rcases h with h|h
 ·left
  rw[fW] at h;refine⟨λv hv=>?_,λi j b e=>?_⟩
  ·obtain⟨d,hd,q⟩:=r.mem v hv;have:=h d hd;cases q<;>first|exact⟨_,rfl⟩|cases this
  ·unfold wU at e;cases e1:xs[i]? with
   |none=>rw[e1] at e;cases e
   |some d1=>
    cases e2:xs[j]? with
    |none=>rw[e1,e2] at e;cases d1<;>cases e
    |some d2=>
     have h1:=h d1 (jd e1);have h2:=h d2 (jd e2);rw[e1,e2] at e;obtain⟨v1,a1,b1⟩:=r.get e1;obtain⟨v2,a2,b2⟩:=r.get e2;cases d1<;>first|cases h1|skip
     cases d2<;>first|cases h2|skip
     cases b1;cases b2;cases e;exact⟨_,_,a1,a2,rfl⟩
 ·right
  rw[fW] at h;refine⟨λv hv=>?_,λi j b e=>?_⟩
  ·obtain⟨d,hd,q⟩:=r.mem v hv;have:=h d hd;unfold jm at this;split at this
   ·cases q with
    |tup t r'=>
     cases r' with
     |cons a1 b1=>
      cases a1;exact⟨_,_,_,rfl,t.jD⟩
   ·cases this
  ·unfold wU at e;cases e1:xs[i]? with
   |none=>rw[e1] at e;cases e
   |some d1=>
    cases e2:xs[j]? with
    |none=>rw[e1,e2] at e;cases d1<;>cases e
    |some d2=>
     have h1:=h d1 (jd e1);have h2:=h d2 (jd e2);rw[e1,e2] at e;obtain⟨v1,a1,b1⟩:=r.get e1;obtain⟨v2,a2,b2⟩:=r.get e2;unfold jm at h1 h2;split at h1
     ·split at h2
      ·cases b1 with
       |tup t1 r1=>
        cases b2 with
        |tup t2 r2=>exact⟨_,_,_,_,a1,a2,t1.jD,t2.jD,zhi r1 r2 e⟩
      ·cases h2
     ·cases h1
theorem zg2:aQ K cA .sorted (λxs H Q=>∃l ys lt p,xs=[.ref l]/\dI K H l ys/\ys.length<64/\(2<=ys.length->vd K H ys lt/\aZ lt (PySem.W.kas_sort ys.length)=some p/\p.size=ys.length)/\∀r,H r=none->Q (.ref r) (upd H r (.lst (lX ys p)))):=by
 intro U H ds vs Q zt rs o;have o:bC K cA U H (ni ds) Q:=o;unfold ni at o;split at o
 ·rename_i xs _;obtain⟨v,rfl,r1⟩:=rs.one;obtain⟨z,e⟩:=o.some';obtain⟨zs,e1,e2⟩:=n_.mp e;subst e2;obtain⟨a,us,rfl,sq,q⟩ : ∃a us,v=.ref a/\dI K H a us/\aD K cA U H xs us:=r1;have hl:=q.len;unfold yL at e1;by_cases hk:(xs.all m_||xs.all jm)=true
  ·rw[if_pos hk] at e1;unfold q_ at e1;by_cases h2:xs.length<2
   ·rw[if_pos h2] at e1;cases e1;refine⟨a,us,λ_ _=>none,#[],rfl,sq,by lia,λz=>absurd z (by lia),λr hr=>?_⟩;have:lX us #[]=us:=by unfold lX;rw[if_pos (by lia)]
    rw[this];exact(o.of e) r us hr q
   ·rw[if_neg h2] at e1;by_cases yH:xs.length<64
    ·rw[if_pos yH] at e1;cases ek:aZ (wU xs) (PySem.W.kas_sort xs.length) with
     |none=>rw[ek] at e1;cases e1
     |some p=>
      rw[ek] at e1;dsimp only at e1;by_cases hp:p.size=xs.length
      ·rw[if_pos hp] at e1;cases e1;refine⟨a,us,wU xs,p,rfl,sq,by lia,λ_=>⟨zhv q hk,by rw[<-hl];exact ek,by lia⟩,λr hr=>?_⟩;have:lX us p=p.toList.map λi=>us.getD i .non:=by unfold lX;rw[if_neg (by lia)]
       rw[this];exact(o.of e) r _ hr (q.DQ p.toList)
      ·rw[if_neg hp] at e1;cases e1
    ·rw[if_neg yH] at e1;cases e1
  ·rw[if_neg hk] at e1;cases e1
 ·exact o.elim
end
section
variable {X:Cx}{cA:Cl}{ao:Nat->Nat->Bool}{aj:Bool}{F:Fn}{EX:XS}{e:Expr}{pos p:Pos}{es:List Expr}{Xs:Es}{fz:Bool}
theorem zb0:bootBuiltins "sorted"=some (.builtin "sorted"):=by decide +kernel
theorem Ui(hm:X.mg "sorted"=none)(hg:JK X "sorted" .globalImplicit)(ha:JA X cA ao aj F EX (e::es) Xs)(he:aF e=true:=by rfl)(bM:es.all aF=true:=by rfl):JE X cA ao aj F EX (.Call (.Name "sorted" p) (e::es) [] pos) (.pr fz .sorted Xs):=⟨Ds zea zg2 hg.o hm zb0 ha.o (by decide) (by decide) (bB he) (aX bM)⟩
end
section
variable {K:W.Frag}{cA:Cl}{U:Ph}{H:Hp}
end
section
variable {X:Cx}{cA:Cl}{ao:Nat->Nat->Bool}{aj:Bool}{F:Fn}{EX:XS}{a b:Expr}{A B:E}{pos pp tpos:Pos}{elts:List Expr}{kk:Nat}
end
section
variable {X:Cx}{cA:Cl}{ao:Nat->Nat->Bool}{aj:Bool}{F:Bool->Fn}{EX:XS}{e:Expr}{es:List Expr}{Xs:Es}{pos p:Pos}{x:Str}
theorem zgY{k cc:Nat}{ar:Arguments}{bd:List Stmt}{sc:Scope}{apos:Pos}(hr:cD k X.A)(hc:X.aj=true)(cj:aj=true)(IO:lu X.K (cA.a cc) ar bd sc (cA.f cc))(hl:Es.len Xs=(cA.f cc).length)(hg:Gl X x)(hm:X.mg x=some (.ref (cA.a cc)))
  (R:Raises X EX) (ha:SA X cA ao aj (F aj) EX (e::es) Xs) (hz:Es.len Xs<=sizeLine) (kZ:(x==("__debug__" : Str))=false:=by decide) (he:starEach (e::es) X.env=(false,eval e X.env)::starEach es X.env:=by rfl) (bM:(backTo apos (starEach es X.env)).any (·.1)=false:=by rfl) :
  SS X cA ao aj F EX (.Raise (some (.Call (.Name x p) (e::es) [] apos)) none pos) (.rise cc true Xs):=PS.weak (zg3 hr hc IO hg hm R ha kZ he bM) λD Z H hh=>un hh λU J s hL hS h=>by
 have h:aO X.K cA (if aj=true then ofM (M.bd (evs ao aj (F aj) Xs J) dR) J (λds s=>some (.er cc (if true=true then ds else []) J,s)) else λ_=>none) U H s D EX:=h;rw[if_pos cj] at h;refine yQ hL hS (aO.ofM hL hS.lz h) λvs H1 U1 xs s1 GF x1 hL1 aK rv h1=>?_;have h1:Run X.K cA (M.bd (dR xs) M.ret) U1 H1 s1 (λa s1 U1 H1=>Ext U H U1 H1/\aH X.K cA U1 H1 s1/\aO X.K cA (λs=>some (.er cc (if true=true then a else []) J,s)) U1 H1 s1 D EX) (eX X.K cA EX Z):=by
  unfold Run at h1 ⊢;unfold M.bd;cases e1:dR xs s1 with
  |none=>rw[e1] at h1;exact h1
  |some r=>
   obtain⟨r,s2⟩:=r;rw[e1] at h1;cases r with
   |er c f=>exact h1
   |ok ds=>exact h1
 obtain⟨ds,e1,rs,h2⟩:=Oq rv h1;obtain⟨_,_,h3⟩:=h2.bK aK;have hvl:vs.length=(cA.f cc).length:=by rw[<-rv.len,GF];exact hl
 refine⟨hvl,by rw[<-rv.len,GF];exact hz,λd hd=>?_⟩;have g:bO H1 (upd H1 d (.xd ((cA.f cc).zip vs))):=bO.new hd;exact h3 U1 _ Z g.ext (aK.grow g) (hL1.mono g.ext aK.lz) (some d) (.inr ⟨d,vs,rfl,aK.nz hd,lV,hvl.symm,rs.mono g.ext aK.lz⟩)
theorem zhy{k cc:Nat}{kk:NameKind}{ar:Arguments}{bd:List Stmt}{sc:Scope}{apos:Pos}(hr:cD k X.A)(hc:X.aj=true)(cj:aj=true)(IO:lu X.K (cA.a cc) ar bd sc (cA.f cc))(hm:X.mg x=some (.ref (cA.a cc)))(hg:JK X x .globalImplicit)
  (R:JR X EX) (ha:JA X cA ao aj (F aj) EX (e::es) Xs) (hd:okN x=true) (hl:decide (Es.len Xs=(cA.f cc).length)=true:=by rfl) (hz:decide (Es.len Xs<=sizeLine)=true:=by rfl) (he:aF e=true:=by rfl) (bM:es.all aF=true:=by rfl) :
  JS X cA ao aj F EX (.Raise (some (.Call (.Name x p) (e::es) [] apos)) none pos) (.rise cc true Xs):=⟨zgY hr hc cj IO (gb hl) hg.o hm R.o ha.o (gb hz) (uo hd).1 (bB he) (aX bM)⟩
end
section
variable {X:Cx}{cA:Cl}{ao:Nat->Nat->Bool}{aj:Bool}{F:Fn}{EX:XS}{a b:Expr}{A B:E}{pos p tpos:Pos}{elts:List Expr}{kk:Nat}
end
end Mi
namespace Mi
open PySem PySem.Spec PyProof.Rows L2 PySem.W
theorem zkI{fd:FuncData}{q:Str}{st:Stmt}(h:uc fd=BX q st):fd=fnOf "__init__" q (aW st) (aN st) (au st) .none fd.kwdefaults fd.doc fd.pyModule fd.annotations fd.code fd.closureTuple:=by
 cases fd;unfold uc BX at h;cases h;rfl
structure DR(K:Frag)(C:Addr)(q:Str)(st:Stmt):Prop where
 ex:∃(fI:Addr) (od:Option Addr) (kV doc pm:Value) (an:Option Addr) (cdv ct:Value) (osl:Array (Option Value)) (cd:ClassData),
  K.lookup fI=some ⟨.type "function",od,.func (fnOf "__init__" q (aW st) (aN st) (au st) .none kV doc pm an cdv ct),osl⟩/\codeIn K cdv q=true/\kE K C fI=true/\clsIn K C=some cd/\bH cd.mro=true/\cd.hasDict=true
theorem znY{K:Frag}{C:Addr}{q:Str}{st:Stmt}(h:(Ia K C).map uc=some (BX q st)):DR K C q st:=by
 cases e:Ia K C with
 |none=>rw[e] at h;cases h
 |some fd=>
  rw[e] at h;have hp:uc fd=BX q st:=dM h;unfold Ia at e;split at e
  ·rename_i cd mU;split at e
   ·rename_i f hf;split at e
    ·rename_i od fd' sl hl;split at e
     ·rename_i hc;cases e;simp only[cU] at hc;obtain⟨⟨⟨c1,c2⟩,c3⟩,c4⟩:=hc;have eq:=zkI hp;have qn:fd.qualname=q:=by rw[eq]
      refine⟨⟨f,od,fd.kwdefaults,fd.doc,fd.pyModule,fd.annotations,fd.code,fd.closureTuple,sl,cd,?_,by rw[<-qn];exact c1,c2,mU,c3,c4⟩⟩;rw[<-eq];exact hl
     ·cases e
    ·cases e
   ·cases e
  ·cases e
structure vY(q:Str)(st:Stmt)(fs:List Str):Prop where
 bind:∀(kV doc pm:Value) (an:Option Addr) (cdv ct:Value) (us:List Value),us.length=fs.length+1->bindArgs (fnOf "__init__" q (aW st) (aN st) (au st) .none kV doc pm an cdv ct) ⟨us,[]⟩=pure (((("self" : Str))::fs).zip us)
 nd:(("self" : Str)::fs).Nodup
 ne:fs≠[]
 few:fs.length<=900
 body:iM "self" (aN st) fs=true
 ql:∀x∈(au st).names,x.2≠.cell
 loc:∀f∈(("self" : Str)::fs),(au st).names.lookup f=some .local/\(f==("__debug__" : Str))=false
 co:(au st).isCoroutine=false
 gen:(au st).isGenerator=false
 kind:(au st).kind=.function
noncomputable def scB(sc:Scope)(fs:List Str):Bool:=sc.names.all (λx=>match x.2 with|.cell=>false|_=>true)&&(("self" : Str)::fs).all (λf=>(match sc.names.lookup f with|some .local=>true|_=>false) && !(f==("__debug__" : Str)))
theorem vY.of{q:Str}{st:Stmt}{fs:List Str}(bind:∀(kV doc pm:Value) (an:Option Addr) (cdv ct:Value) (us:List Value),us.length=fs.length+1->bindArgs (fnOf "__init__" q (aW st) (aN st) (au st) .none kV doc pm an cdv ct) ⟨us,[]⟩=pure (((("self" : Str))::fs).zip us))(nd:(("self" : Str)::fs).Nodup)(ne:fs≠[])(few:fs.length<=900)(body:iM "self" (aN st) fs=true)
  (sc:scB (au st) fs=true) (co:(au st).isCoroutine=false) (gen:(au st).isGenerator=false) (kind:(au st).kind=.function):vY q st fs:=by
 unfold scB at sc;rw[cU,fW,fW] at sc;refine⟨bind,nd,ne,few,body,λx hx z=>?_,λf hf=>?_,co,gen,kind⟩
 ·have:=sc.1 x hx;rw[z] at this;cases this
 ·have:=sc.2 f hf;rw[cU,Nh] at this;refine⟨?_,this.2⟩;have h1:=this.1;split at h1
  ·assumption
  ·cases h1
theorem zj8{K:Frag}{C:Addr}{q:Str}{st:Stmt}{fs:List Str}(a:DR K C q st)(t:vY q st fs)(s:setB K C fs=true):lu K C (aW st) (aN st) (au st) fs:=by
 obtain⟨fI,od,kV,doc,pm,an,cdv,ct,osl,cd,h1,h2,h3,h4,h5,h6⟩:=a.ex;unfold setB at s;rw[cU,jz,fW] at s;exact⟨⟨fI,od,kV,doc,pm,an,cdv,ct,osl,q,cd,h1,h2,h3,h4,h5,h6,λus hl=>t.bind kV doc pm an cdv ct us hl⟩,s.1,t.nd,t.ne,t.few,t.body,t.ql,t.loc,λf hf=>jz.mp (s.2 f hf),t.co,t.gen,t.kind⟩
theorem zog{K:Frag}{C:Addr}{f:Str}(h:Nz K C f=true):XF K C f:=by
 unfold Nz at h;simp only[cU,jz] at h;obtain⟨⟨⟨⟨h1,h2⟩,h3⟩,h4⟩,h5⟩:=h;exact⟨h1,h2,h3,h4,h5⟩
structure jF(fs:List (Str×Stmt))(ms:List xY)(xs:List (Nat×Str))(l:Lk)(K:Frag):Prop where
 fn:∀p∈fs,FnAt K p.1 p.2
 gd:Bc l K
 mi:∀m∈ms,DR K (eY (l.L K) m.c) m.q m.st
 se:∀m∈ms,setB K (eY (l.L K) m.c) m.fs=true
 xf:∀x∈xs,XF K (eY (l.L K) x.1) x.2
theorem Uj{a:Nat}{o:Obj}:∀{l:List Obj} {i:Nat},((a:Addr),o)∈Ib i l->i<=a/\l[a-i]?=some o/\o.isFreed=false
 |[],i,h=>by cases h
 |p::r,i,h=>by
  unfold Ib at h;split at h
  ·obtain⟨h1,h2,h3⟩:=Uj h;refine⟨by lia,?_,h3⟩;rw[show a-i=(a-(i+1))+1 by lia];exact h2
  ·rename_i hf;rcases dh.mp h with e|h
   ·cases e;exact⟨cH _,by simp,hf⟩
   ·obtain⟨h1,h2,h3⟩:=Uj h;refine⟨by lia,?_,h3⟩;rw[show a-i=(a-(i+1))+1 by lia];exact h2
theorem zcB:∀{K:Frag},K.lookup a=some o->(a,o)∈K
 |[],h=>by cases h
 |(b,p)::r,h=>by
  rw[nU] at h;by_cases e:a=b
  ·subst e;simp only[zP] at h;cases h;exact fV
  ·rw[show (a==b)=false by simpa using e] at h;exact fM _ (zcB h)
theorem zhP:(cM h).In h:=λa o e=>by
 have hm:=zcB e;unfold cM at hm;rcases fO.mp hm with z|z
 ·unfold qO at z;split at z
  ·rename_i p hp;rcases dh.mp z with e|z
   ·cases e;exact hp
   ·cases z
  ·cases z
 ·obtain⟨_,h2,h3⟩:=Uj (List.mem_reverse.mp z);rw[Heap.get?_some_iff];refine⟨?_,h3⟩;have:h.objs.toList[a]?=some o:=by simpa using h2
  simpa using this
noncomputable def mH(fs:List (Str×Stmt))(ms:List xY)(xs:List (Nat×Str))(l:Lk):Hook where
 α:=List (Option FuncData)×List (Option FuncData)×Bool
 obs:=sy fs ms xs l
 val:=uL fs ms
 says:=λ_ h=>∃K:Frag,K.In h/\jF fs ms xs l K
 of:=λw s e=>by
  have e3:(_&&_&&_)=true:=rZ (λx=>x.2.2) e;rw[cU,cU,fW,fW] at e3;refine⟨cM s.heap,zhP,⟨λp hp=>?_,Kab e3.1.1,λm hm=>?_,e3.1.2,λx hx=>zog (e3.2 x hx)⟩⟩
  ·have e1:=rZ Prod.fst e;exact zn8 (List.map_inj_left.mp e1 p hp)
  ·have e1:=rZ (λx=>x.2.1) e;exact znY (List.map_inj_left.mp e1 m hm)
 keeps:=λw h h' ⟨K,X,Y⟩ k=>⟨K,X.keeps k,Y⟩
theorem K6{l:OpenLaw}{k:Nat}{q:Program}{loose:List Str}{XP:(Str->Option Value)->Heap->Prop}{fs:List (Str×Stmt)}{ms:List xY}{xs:List (Nat×Str)}{lk:Lk}{d:DefRec}{x:Str}(hn:l.most=some 63)(RM:d.params.defaults=[])(hr:cD k callerA)
  (F:∀(w:World) (K:Frag) (mg:Str->Option Value) (fa:Addr) (h:Heap),jF fs ms xs lk K->K.In h->h.Ns mainGlobals mg->mg d.name=some (.ref fa)->
   ∃fd:FuncData,(∀(s:Shared) (u:Value),BindsTo s fd ⟨[u],[]⟩ [(x,u)])/\∀base:Heap,K.In base->base.Ns mainGlobals mg->gA l.prog w K mg base (mZ l.prog w) true k fa fd [x] (vO K)) :
  WalkO q loose XP (mH fs ms xs lk).says l.row.toRowW d [] (λf vs=>PySem.call f vs):=by
 refine YC.oG hn RM λw s₀ s₁ mg mb fa o pm cd doc a vs ns G Y ho hd mU hmg CJ hints hlen hg=>?_;obtain⟨K,KX,SY⟩:=Y;obtain⟨fd,hb,hF⟩:=F w K mg fa _ SY KX G.T.g hmg;exact zik KX G.T.g G.T.b G.T.builtins G.T.nolimit hg CJ hints (p7 hlen (by decide)) hr hF hb (λH hO hS=>⟨a,ns,rfl,hS,hlen,hO,λ_=>rfl⟩) λH e s' h=>by
  obtain⟨_,_,_,_,_,_,_,_,_,_,z⟩:=h;exact z
theorem bind1{f:List Value->Sem (List (Str×Value))}{a b:Str}(h:∀x y,f [x,y]=pure [(a,x),(b,y)])(us:List Value)(hl:us.length=[b].length+1):f us=pure ([a,b].zip us):=by
 cases us with
 |nil=>cases hl
 |cons x t=>
  cases t with
  |nil=>cases hl
  |cons y t=>
   cases t with
   |nil=>exact h x y
   |cons z t=>cases hl
end Mi
namespace Mi
open PySem PySem.Spec PyProof.Rows L2
section
variable {K:W.Frag}{cA:Cl}{U:Ph}{H:Hp}
noncomputable def jG(K:W.Frag)(U:Ph)(H:Hp):Bool->Addr->List V->Prop
 |true,a,vs=>LstAt K U H a vs
 |false,a,vs=>TupAt K U H a vs
theorem jG.sk{kd:Bool}{a:Addr}{vs:List V}(h:jG K U H kd a vs):Sk kd K H a vs:=by
 cases kd
 ·exact TupAt.jD h
 ·exact LstAt.wW h
theorem jG.later{kd:Bool}{a:Addr}{vs:List V}{U':Ph}{H₁ H':Hp}(hz:∀a∈U.l,U.z a)(h:jG K U H kd a vs)(x:Ext U H U' H₁)(o:fZ U' H₁ H'):jG K U' H' kd a vs:=by
 cases kd
 ·exact TupAt.later hz h x o
 ·exact LstAt.later hz h x o
theorem Uk{xs ys:List D}{i:Nat}:(List.zipWith (λp q=>D.tup [p,q]) xs ys)[i]?=match xs[i]?,ys[i]? with
  |some p,some q=>some (.tup [p,q])
  |_,_=>none:=by
 rw[List.getElem?_zipWith];cases xs[i]?<;>cases ys[i]?<;>rfl
theorem oZ.zip{k1 k2:Bool}{l1 l2:Addr}{xs ys:List D}{us vs:List V}(hz:∀a∈U.l,U.z a)(h1:jG K U H k1 l1 us)(h2:jG K U H k2 l2 vs)(r1:aD K cA U H xs us)(r2:aD K cA U H ys vs):oZ K cA (.fix (List.zipWith (λp q=>D.tup [p,q]) xs ys)) U H (S5 K k1 k2 l1 l2):=by
 refine⟨λU' H₁ H' s' i x o hS e=>?_,λU' H₁ H' s' i d x o hS e=>?_,λU' H₁ H' s' i d v H2 x o hS e y=>?_⟩
 ·have e:(List.zipWith (λp q=>D.tup [p,q]) xs ys)[i]?=none:=dM e;rw[Uk] at e;refine⟨us,vs,(h1.later hz x o).sk,(h2.later hz x o).sk,?_⟩;cases ex:xs[i]? with
  |none=>exact .inl (qI.mp (r1.none ex))
  |some p=>
   cases ey:ys[i]? with
   |none=>exact .inr (qI.mp (r2.none ey))
   |some q=>rw[ex,ey] at e;cases e
 ·have e:(List.zipWith (λp q=>D.tup [p,q]) xs ys)[i]?=some d:=dM e;rw[Uk] at e;cases ex:xs[i]? with
  |none=>rw[ex] at e;cases e
  |some p=>
   cases ey:ys[i]? with
   |none=>rw[ex,ey] at e;cases e
   |some q=>
    obtain⟨u,q1,_⟩:=r1.get ex;obtain⟨v,q2,_⟩:=r2.get ey;exact⟨us,vs,u,v,(h1.later hz x o).sk,(h2.later hz x o).sk,q1,q2⟩
 ·have e:(List.zipWith (λp q=>D.tup [p,q]) xs ys)[i]?=some d:=dM e;rw[Uk] at e;cases ex:xs[i]? with
  |none=>rw[ex] at e;cases e
  |some p=>
   cases ey:ys[i]? with
   |none=>rw[ex,ey] at e;cases e
   |some q=>
    rw[ex,ey] at e;cases e;obtain⟨a,u,w,hn,rfl,rfl,hu,hw⟩:=y;obtain⟨u',q1,ru⟩:=((r1.mono x hz).out o).get ex;obtain⟨w',q2,oA⟩:=((r2.mono x hz).out o).get ey;have e1:=hu us (h1.later hz x o).sk;have e2:=hw vs (h2.later hz x o).sk;rw[q1] at e1;rw[q2] at e2;cases e1;cases e2;have g:bO H' (upd H' a (.tup [u,w])):=bO.new hn;exact⟨g,.tup (.inl ⟨.inl lV,hS.nz hn⟩) (.cons (ru.mono g.ext hS.lz) (.cons (oA.mono g.ext hS.lz) .nil))⟩
theorem zeA(r:bJ K cA U H x v)(h:Run K cA (M.bd (qy x) k) U H s P Ee) :
  ∃xs kd a vs,v=.ref a/\jG K U H kd a vs/\aD K cA U H xs vs/\Run K cA (k xs) U H s P Ee:=by
 cases r with
 |l _=>exact h.elim
 |d r=>
  cases r with
  |tup q r=>exact⟨_,false,_,_,rfl,q,r,h⟩
  |fl q r=>exact⟨_,true,_,_,rfl,q,r,h⟩
  |_=>exact h.elim
end
section
variable {X:Cx}{cA:Cl}{ao:Nat->Nat->Bool}{aj:Bool}{F:Fn}{EX:XS}{a b:Expr}{A B:E}{pos pp tpos:Pos}{elts:List Expr}{kk:Nat}
theorem zlD(vK:Gl X "zip")(hmg:X.mg "zip"=none)(ha:SE X cA ao aj F EX a A)(hb:SE X cA ao aj F EX b B)(h1:starEach [a,b] X.env=(false,eval a X.env)::starEach [b] X.env)(h2:starEach [b] X.env=(false,eval b X.env)::starEach [] X.env) :
  SI X cA ao aj F EX (.Tuple elts kk tpos) (.Call (.Name "zip" pp) [a,b] [] pos) (.zip A B):=PI.weak (zlo vK hmg (uW ha (uW hb Cv h2) h1) (by rw[h1,h2];rfl) (by rw[h2];rfl)) λZ H R hh=>un hh λU J s hL hS h=>by
 refine bf hL hS h λx H1 U1 d1 s1 x1 hL1 aK r1 h1=>bf hL1 aK h1 λy H2 U2 d2 s2 x2 hL2 aR r2 h2=>?_;obtain⟨xs,k1,l1,us,e1,q1,p1,h3⟩:=zeA (r1.mono x2 aK.lz) h2;obtain⟨ys,k2,l2,vs,e2,q2,p2,h4⟩:=zeA r2 h3;subst e1 e2;exact⟨k1,k2,l1,l2,us,vs,rfl,q1.sk,q2.sk,(h4.bK aR) _ (oZ.zip aR.lz q1 q2 p1 p2)⟩
theorem znL(hmg:X.mg "zip"=none)(vK:JK X "zip" .globalImplicit)(ha:JE X cA ao aj F EX a A)(hb:JE X cA ao aj F EX b B)(h1:aF a=true:=by rfl)(h2:aF b=true:=by rfl):JI X cA ao aj F EX (.Tuple elts kk tpos) (.Call (.Name "zip" p) [a,b] [] pos) (.zip A B):=⟨zlD vK.o hmg ha.o hb.o (bB h1) (bB h2)⟩
end
section
variable {K:W.Frag}{cA:Cl}{U:Ph}{H:Hp}
end
section
variable {X:Cx}
end
section
variable {X:Cx}{cA:Cl}{ao:Nat->Nat->Bool}{aj:Bool}{F:Fn}{EX:XS}{e:Expr}{pos p:Pos}{es:List Expr}{Xs:Es}{fz:Bool}
end
section
variable {X:Cx}
end
section
variable {K:W.Frag}{cA:Cl}{U:Ph}{H:Hp}
end
section
variable {X:Cx}{cA:Cl}{ao:Nat->Nat->Bool}{aj:Bool}{F:Fn}{EX:XS}{e:Expr}{pos pos' p p':Pos}{es:List Expr}{Xs:Es}{fz:Bool}
end
end Mi
namespace Mi
open PySem PySem.Spec PyProof.Rows L2 PySem.W
theorem DW{K:W.Frag}{fd:FuncData}{p q t u v:Str}(h:∀a b c d e,bindArgs fd ⟨[a,b,c,d,e],[]⟩=pure [(p,a),(q,b),(t,c),(u,d),(v,e)]):Binds K fd [p,q,t,u,v] []:=.all λus hl=>by
 match us,hl with
 |[a,b,c,d,e],_=>exact h a b c d e
theorem zB{K:Frag}{x:Str}{st:Stmt}{f:Addr}{fd:FuncData}{p q t u v:Str}(F:zc K x x st f fd)(h:∀(kV doc pm:Value) (an:Option Addr) (cdv ct a b c d e:Value),bindArgs (fnOf x x (aW st) (aN st) (au st) .none kV doc pm an cdv ct) ⟨[a,b,c,d,e],[]⟩=pure [(p,a),(q,b),(t,c),(u,d),(v,e)]):Binds K fd [p,q,t,u,v] []:=by
 obtain⟨oc,od,kV,doc,pm,an,cdv,ct,osl,rfl,lk,mU⟩:=F.ex;exact DW (h kV doc pm an cdv ct)
structure D3(K:Frag)(mg:Str->Option Value)(x:Str)(st:Stmt)(ps:List Str):Prop where
 f:zc K x x st (jV K x) (fdOf K x st)
 m:mg x=some (.ref (jV K x))
 b:Binds K (fdOf K x st) ps []
theorem dk{p:Prop}(h:p:=by decide +kernel):p:=h
section
variable {fs:List (Str×Stmt)}{ms:List xY}{xs:List (Nat×Str)}{lk:Lk}{K:Frag}{h:Heap}{mg:Str->Option Value}{x:Str}{st:Stmt}
theorem rE(S:jF fs ms xs lk K)(X:K.In h)(G:h.Ns mainGlobals mg)(j:Nat)(hj:fs[j]?=some (x,st):=by rfl)(hb:∀(kV doc pm:Value) (an:Option Addr) (cdv ct a:Value),bindArgs (fnOf x x (aW st) (aN st) (au st) .none kV doc pm an cdv ct) ⟨[a],[]⟩=pure [(p,a)]:=by intros;rfl):D3 K mg x st [p]:=have F:=S.fn (x,st) (jd hj);⟨F.fn,F.m X G,zx F.fn hb⟩
theorem vZ(S:jF fs ms xs lk K)(X:K.In h)(G:h.Ns mainGlobals mg)(j:Nat)(hj:fs[j]?=some (x,st):=by rfl)(hb:∀(kV doc pm:Value) (an:Option Addr) (cdv ct a b:Value),bindArgs (fnOf x x (aW st) (aN st) (au st) .none kV doc pm an cdv ct) ⟨[a,b],[]⟩=pure [(p,a),(q,b)]:=by intros;rfl):D3 K mg x st [p,q]:=have F:=S.fn (x,st) (jd hj);⟨F.fn,F.m X G,zy F.fn hb⟩
theorem rF(S:jF fs ms xs lk K)(X:K.In h)(G:h.Ns mainGlobals mg)(j:Nat)(hj:fs[j]?=some (x,st):=by rfl)(hb:∀(kV doc pm:Value) (an:Option Addr) (cdv ct a b c:Value),bindArgs (fnOf x x (aW st) (aN st) (au st) .none kV doc pm an cdv ct) ⟨[a,b,c],[]⟩=pure [(p,a),(q,b),(t,c)]:=by intros;rfl):D3 K mg x st [p,q,t]:=have F:=S.fn (x,st) (jd hj);⟨F.fn,F.m X G,zA F.fn hb⟩
theorem O4{p q t u v:Str}(S:jF fs ms xs lk K)(X:K.In h)(G:h.Ns mainGlobals mg)(j:Nat)(hj:fs[j]?=some (x,st):=by rfl)(hb:∀(kV doc pm:Value) (an:Option Addr) (cdv ct a b c d e:Value),bindArgs (fnOf x x (aW st) (aN st) (au st) .none kV doc pm an cdv ct) ⟨[a,b,c,d,e],[]⟩=pure [(p,a),(q,b),(t,c),(u,d),(v,e)]:=by intros;rfl):D3 K mg x st [p,q,t,u,v]:=have F:=S.fn (x,st) (jd hj);⟨F.fn,F.m X G,zB F.fn hb⟩
theorem mG{α:Type}{l:List α}{a:α}(j:Nat)(h:l[j]?=some a:=by rfl):a∈l:=jd h
end
end Mi
namespace Mi
open PySem PySem.Spec PyProof.Rows L2
section
variable {X:Cx}{cA:Cl}
theorem zhm:dB X (.type "str") (λxs H Q=>∃i:Int,xs=[.int i]/\i.natAbs<2^62/\Q (.str (Str.ofString (toString i))) H):=by
 intro ak s Z H xs us Q I r ⟨i,e,hi,q⟩;subst e;obtain⟨u,rfl,t,rfl⟩:=vals1 r;exact str_of_int_fit (N:=4611686018427387904) (by split<;>lia) (Int.le_refl _) λ_=>⟨.str (Str.ofString (toString i)),H,I.tok _,⟨_,rfl⟩,q⟩
theorem zkE:aQ X.K cA .str1 (λxs H Q=>∃i:Int,xs=[.int i]/\i.natAbs<2^62/\Q (.str (Str.ofString (toString i))) H):=by
 intro U H ds vs Q zt rs o;have o:bC X.K cA U H (Dp ds) Q:=o;unfold Dp at o;split at o
 ·rename_i i _;obtain⟨v,rfl,r1⟩:=rs.one;cases r1;by_cases hk:i.natAbs<2^62
  ·rw[if_pos hk] at o;exact⟨i,rfl,hk,(o.of rfl).here (.str _)⟩
  ·rw[if_neg hk] at o;exact o.elim
 ·exact o.elim
end
section
variable {X:Cx}{cA:Cl}{ao:Nat->Nat->Bool}{aj:Bool}{F:Fn}{EX:XS}{e:Expr}{pos p:Pos}{es:List Expr}{Xs:Es}{fz:Bool}
theorem zm3(hm:X.mg "str"=none)(hg:JK X "str" .globalImplicit)(ha:JA X cA ao aj F EX (e::es) Xs)(he:aF e=true:=by rfl)(bM:es.all aF=true:=by rfl):JE X cA ao aj F EX (.Call (.Name "str" p) (e::es) [] pos) (.pr fz .str1 Xs):=⟨Ot zhm zkE hg.o hm PyProof.Rows.boot_str ha.o (by decide) (by decide) (bB he) (aX bM)⟩
end
end Mi
namespace Mi
open PySem
def W{α:Type}(m:M α)(s:S)(P:α->S->Prop):Prop:=∃a s',m s=some (.ok a,s')/\P a s'
def WS(m:MS)(s:S)(Q:Out->S->Prop):Prop:=∃o s',m s=some (o,s')/\Q o s'
section
variable {α β:Type}{m:M α}{k:α->M β}{s:S}{P:α->S->Prop}{R:β->S->Prop}
theorem W.bd(h:W m s λa s'=>W (k a) s' R):W (M.bd m k) s R:=by
 obtain⟨a,s',e,b,s2,e2,r⟩:=h;exact⟨b,s2,by unfold M.bd;rw[e];exact e2,r⟩
theorem W.ret{a:α}(h:P a s):W (M.ret a) s P:=⟨a,s,rfl,h⟩
theorem W.qt(h:W m s P):W (M.qt m) s P:=by
 obtain⟨a,s',e,p⟩:=h;exact⟨a,s',by unfold M.qt;rw[e],p⟩
theorem W.opt(e:o=some a)(h:P a s):W (M.opt o) s P:=by subst e;exact⟨a,s,rfl,h⟩
theorem W.imp{P':α->S->Prop}(h:W m s P)(f:∀a s',P a s'->P' a s'):W m s P':=let ⟨a,s',e,p⟩:=h;⟨a,s',e,f a s' p⟩
theorem W.eq(e:m s=some (.ok a,s'))(p:P a s'):W m s P:=⟨a,s',e,p⟩
theorem Ul{d:D}{P:D->S->Prop}(h:P d s):W (rd (.d d)) s P:=⟨d,s,rfl,h⟩
theorem KaW{n:Nat}{xs:List D}{P:D->S->Prop}(e:s[n]?=some (.lst xs))(h:P (.fl xs) s):W (rd (.l n)) s P:=⟨.fl xs,s,by unfold rd;simp only[e],h⟩
theorem KaY{P:List D->S->Prop}(h:P [] s):W (fQ []) s P:=⟨[],s,rfl,h⟩
theorem KaX{x:Xv}{r:List Xv}{P:List D->S->Prop}(h:W (rd x) s λd s1=>W (fQ r) s1 λds s2=>P (d::ds) s2):W (fQ (x::r)) s P:=W.bd (h.imp λd s1 h1=>W.bd (h1.imp λds s2 h2=>W.ret h2))
theorem Kar{P:List D->S->Prop}(h:P [] s):W (dR []) s P:=⟨[],s,rfl,h⟩
theorem Um{d:D}{r:List Xv}{P:List D->S->Prop}(h:W (dR r) s λds s2=>P (d::ds) s2):W (dR (.d d::r)) s P:=W.bd (W.ret (W.bd (h.imp λds s2 h2=>W.ret h2)))
theorem W.dat{x:D}{P:D->S->Prop}(h:P x s):W (dat (.d x)) s P:=⟨x,s,rfl,h⟩
theorem W.bool{b:Bool}{P:Bool->S->Prop}(h:P b s):W (bool (.d (.bl b))) s P:=⟨b,s,rfl,h⟩
theorem W.int{b:Int}{P:Int->S->Prop}(h:P b s):W (int (.d (.int b))) s P:=⟨b,s,rfl,h⟩
theorem bQ{fz:Bool}{o:Option Rz}{d:D}{P:Xv->S->Prop}(e:o=some (.dat d))(h:P (.d d) s):W (bT fz o) s P:=by subst e;exact⟨_,s,rfl,h⟩
theorem zE{o:Option Rz}{xs:List D}{P:Xv->S->Prop}(e:o=some (.nw xs))(h:P (.d (.fl xs)) s):W (bT true o) s P:=by subst e;exact⟨_,s,rfl,h⟩
theorem KaM{xs:List D}{P:Xv->S->Prop}(h:P (.d (.fl xs)) s):W (newL true xs) s P:=⟨_,s,rfl,h⟩
theorem KaL{xs:List D}{P:Xv->S->Prop}(h:P (.l s.length) (s++[.lst xs])):W (newL false xs) s P:=⟨_,_,rfl,h⟩
theorem W.cB{F:List Xv->M Xv}{xs:List Xv}{P:Xv->S->Prop}(hl:locs xs=[])(h:W (F (dY 0 xs)) [] λv _=>∃d,v=.d d/\P (.d d) s):W (cR F xs) s P:=by
 obtain⟨v,s1,e,d,rfl,p⟩:=h;refine⟨.d d,s,?_,p⟩;unfold cR;rw[hl,if_pos FQ];simp only[jo,e,dF]
theorem Kak{F:List Xv->M Xv}{xs:List Xv}{P:Xv->S->Prop}(hl:locs xs=[])(h:W (F (dY 0 xs)) [] λv s1=>∃n o,v=.l n/\s1[n]?=some o/\P (.l s.length) (s++[o])):W (cR F xs) s P:=by
 obtain⟨v,s1,e,n,o,rfl,eo,p⟩:=h;refine⟨.l s.length,s++[o],?_,p⟩;unfold cR;rw[hl,if_pos FQ];simp only[jo,e,dF,List.getElem?_nil,eo]
theorem Kal{F:List Xv->M Xv}{xs:List Xv}{n:Nat}{o:SO}{P:Xv->S->Prop}(hl:locs xs=[n])(ho:s[n]?=some o)(h:W (F (dY 0 xs)) [o] λv s1=>∃d o',v=.d d/\s1=[o']/\P (.d d) (s.set n o')):W (cR F xs) s P:=by
 obtain⟨v,s1,e,d,o',rfl,rfl,p⟩:=h;refine⟨.d d,s.set n o',?_,p⟩;unfold cR;rw[hl,if_pos (by simp)];simp only[jo,ho,e,dF]
end
section
variable {s:S}{Q:Out->S->Prop}
theorem WS.ofM(h:W m s λa s'=>WS (k a) s' Q):WS (Mi.ofM m J k) s Q:=by
 obtain⟨a,s',e,o,s2,e2,q⟩:=h;exact⟨o,s2,by unfold Mi.ofM;rw[e];exact e2,q⟩
theorem WS.nx(h:Q (.nx J) s):WS (λs=>some (.nx J,s)) s Q:=⟨_,s,rfl,h⟩
theorem WS.rt(h:Q (.rt x) s):WS (λs=>some (.rt x,s)) s Q:=⟨_,s,rfl,h⟩
end
theorem W.call(hT:T f=some d)(hl:xs.length=d.jq)
  (h:WS (exs ao aj (λc=>Mi.call ao T k c) d.body (xs.map some++List.replicate (d.many-d.jq) none)) s λo s'=>match o with|.nx _=>P (.d .non) s'|.rt v=>P v s'|_=>False):W (Mi.call ao T (k+1) aj f xs) s P:=by
 obtain⟨o,s',e,q⟩:=h;unfold Mi.call;simp only[hT,if_pos hl];unfold W;simp only[e];cases o with
 |nx J=>exact⟨_,_,rfl,q⟩
 |rt v=>exact⟨_,_,rfl,q⟩
 |bk J=>exact q.elim
 |ct J=>exact q.elim
 |er c fs J=>exact q.elim
theorem K7(I:Nat->Vs->S->Prop)(h0:I 0 J s)(hb:∀i x J s,c[i]?=some x->I i J s->WS (b x J) s λo s'=>∃J',o=.nx J'/\I (i+1) J' s')
  (he:∀J s,I c.length J s->Q (.nx J) s):WS (eN (.fix c) b (c.length+1) 0 J) s Q:=by
 have key:∀n i J s,i+n=c.length->I i J s->WS (eN (.fix c) b (n+1) i J) s Q:=by
  intro n
  induction n with
  |zero=>
   intro i J s hi hI;have e:c[i]?=none:=by rw[qI];lia
   have:i=c.length:=by lia
   subst this;refine⟨_,s,?_,he J s hI⟩;unfold eN;simp only[Src.at,e]
  |succ n ih=>
   intro i J s hi hI;have hlt:i<c.length:=by lia
   have e:c[i]?=some c[i]:=fL hlt;obtain⟨o,s',eb,J',rfl,DX⟩:=hb i c[i] J s e hI;obtain⟨o2,s2,e2,q⟩:=ih (i+1) J' s' (by lia) DX;refine⟨o2,s2,?_,q⟩;unfold eN;simp only[Src.at,e,eb];exact e2
 exact key c.length 0 J s (by lia) h0
theorem znC{i j:Int}(h:(-(2^64)<i/\i<2^64)\/(-(2^64)<j/\j<2^64)):prim .mul [.int i,.int j]=some (.dat (.int (i*j))):=by
 show Option.map _ (if _ then _ else _)=_;rw[if_pos h];rfl
theorem zoe{i j:Int}(h:0<j):prim .mod [.int i,.int j]=some (.dat (.int (i%j))):=by
 show Option.map _ (if _ then _ else _)=_;rw[if_pos h];rfl
theorem zlf{i j:Int}(h:0<j/\j<1073741824):prim .fdiv [.int i,.int j]=some (.dat (.int (i/j))):=by
 show Option.map _ (if _ then _ else _)=_;rw[if_pos h];rfl
theorem zh3{i j:Int}(h:0<j/\j<1073741824):prim .divmod [.int i,.int j]=some (.dat (.tup [.int (i/j),.int (i%j)])):=by
 show Option.map _ (if _ then _ else _)=_;rw[if_pos h];rfl
theorem zod{i j:Int}(h:0<=j/\j<=1000000/\i.natAbs<2^64):prim .pow [.int i,.int j]=some (.dat (.int (i^j.toNat))):=by
 show Option.map _ (if _ then _ else _)=_;rw[if_pos h];rfl
theorem Bd{xs:List D}{i:Nat}{x:D}(h:xs[i]?=some x):prim .ix [.fl xs,.int i]=some (.dat x):=by
 show Option.map Rz.dat (L2.qT xs i)=_;have:L2.qT xs (i:Int)=some x:=by
  unfold L2.qT L2.uf;have hl:i<xs.length:=(jy.mp h).1;simp[hl];exact(jy.mp h).2
 rw[this];rfl
theorem O5(h:xs.length+ys.length<=sizeLine):prim .add [.fl xs,.fl ys]=some (.nw (xs++ys)):=by
 show (if _ then _ else _)=_;rw[if_pos h]
theorem W.ite[Decidable c](h1:c->W m1 s P)(h2:¬c->W m2 s P):W (if c then m1 else m2) s P:=by
 by_cases h:c
 ·rw[if_pos h];exact h1 h
 ·rw[if_neg h];exact h2 h
theorem WS.ite[Decidable c](h1:c->WS m1 s P)(h2:¬c->WS m2 s P):WS (if c then m1 else m2) s P:=by
 by_cases h:c
 ·rw[if_pos h];exact h1 h
 ·rw[if_neg h];exact h2 h
theorem O6{n:Nat}{xs:List D}{s:S}{P:Unit->S->Prop}(h:P () (s.set n (.lst xs))):W (putL n xs) s P:=⟨_,_,rfl,h⟩
theorem W.cW{n:Nat}{xs:List D}{s:S}{P:Nat×List D->S->Prop}(e:s[n]?=some (.lst xs))(h:P (n,xs) s):W (cW (.l n)) s P:=⟨_,s,by unfold Mi.cW;simp only[e],h⟩
theorem Ka0{xs:List D}{s:S}{P:Src×Nat->S->Prop}(h:P (.fix xs,xs.length) s):W (src (.d (.tup xs))) s P:=⟨_,s,rfl,h⟩
theorem KaZ{xs:List D}{s:S}{P:Src×Nat->S->Prop}(h:P (.fix xs,xs.length) s):W (src (.d (.fl xs))) s P:=⟨_,s,rfl,h⟩
theorem WS.nil{ao:Nat->Nat->Bool}{aj:Bool}{F:Bool->Fn}{J:Vs}{s:S}{Q:Out->S->Prop}(h:Q (.nx J) s):WS (exs ao aj F .nil J) s Q:=⟨_,s,rfl,h⟩
theorem WS.cons{ao:Nat->Nat->Bool}{aj:Bool}{F:Bool->Fn}{a:St}{r:cL}{J:Vs}{s:S}{Q:Out->S->Prop}(h:WS (ex ao aj F a J) s λo s'=>match o with|.nx J'=>WS (exs ao aj F r J') s' Q|.rt x=>Q (.rt x) s'|_=>False):WS (exs ao aj F (.cons a r) J) s Q:=by
 obtain⟨o,s',e,q⟩:=h;unfold WS exs Mi.cX;rw[e];cases o with
 |nx J'=>exact q
 |rt x=>exact⟨_,_,rfl,q⟩
 |bk _=>exact q.elim
 |ct _=>exact q.elim
 |er _ _ _=>exact q.elim
def pQ{α:Type}(o:Option α)(P:α->Prop):Prop:=∃a,o=some a/\P a
theorem pQ.mk{α:Type}{o:Option α}{P:α->Prop}{a:α}(e:o=some a)(h:P a):pQ o P:=⟨a,e,h⟩
section
variable {ao:Nat->Nat->Bool}{aj:Bool}{F:Fn}{J:Vs}{s:S}{P:Xv->S->Prop}
theorem W.eC{d:D}(h:P (.d d) s):W (ev ao aj F (.c d) J) s P:=W.ret h
theorem W.eV{i:Nat}{x:Xv}(e:J[i]?.join=some x)(h:P x s):W (ev ao aj F (.v i) J) s P:=W.opt e h
theorem KaD{fz:Bool}{p:Pr}{xs:Es}(h:W (evs ao aj F xs J) s λvs s1=>W (fQ vs) s1 λds s2=>W (bT fz (prim p ds)) s2 P):W (ev ao aj F (.pr fz p xs) J) s P:=W.bd (h.imp λ_ _ h=>W.bd h)
theorem Kau{a b:E}(h:W (ev ao aj F a J) s λx s1=>W (Mi.bool x) s1 λk s2=>W (if k=true then ev ao aj F b J else M.ret (.d (.bl false))) s2 P):W (ev ao aj F (.and a b) J) s P:=W.bd (h.imp λ_ _ h=>W.bd h)
theorem KaC{a b:E}(h:W (ev ao aj F a J) s λx s1=>W (Mi.bool x) s1 λk s2=>W (if k=true then M.ret (.d (.bl true)) else ev ao aj F b J) s2 P):W (ev ao aj F (.or a b) J) s P:=W.bd (h.imp λ_ _ h=>W.bd h)
theorem KaB{a:E}(h:W (ev ao aj F a J) s λx s1=>W (Mi.bool x) s1 λk s2=>P (.d (.bl (!k))) s2):W (ev ao aj F (.not a) J) s P:=W.bd (h.imp λ_ _ h=>W.bd (h.imp λ_ _ h=>W.ret h))
theorem KaF{xs:Es}(h:W (evs ao aj F xs J) s λvs s1=>W (dR vs) s1 λds s2=>P (.d (.tup ds)) s2):W (ev ao aj F (.tup xs) J) s P:=W.bd (h.imp λ_ _ h=>W.bd (h.imp λ_ _ h=>W.ret h))
theorem KaA{fz:Bool}{xs:Es}(h:W (evs ao aj F xs J) s λvs s1=>W (dR vs) s1 λds s2=>W (newL fz ds) s2 P):W (ev ao aj F (.lst fz xs) J) s P:=W.bd (h.imp λ_ _ h=>W.bd h)
theorem Kax{k:Str}{i:Int}(h:P (.d (.fd [.str k] [.int i])) s):W (ev ao aj F (.vq k i) J) s P:=W.ret h
theorem Kav{f:Nat}{xs:Es}(h:W (evs ao aj F xs J) s λvs s1=>W (cR (F f) vs) s1 P):W (ev ao aj F (.call f xs) J) s P:=W.bd h
theorem KaE{fz:Bool}{a:E}{lo hi:Eo}(h:W (ev ao aj F a J) s λx s1=>W (yN ao aj F lo J) s1 λl s2=>W (yN ao aj F hi J) s2 λu s3=>W (rd x) s3 λd s4=>W (bT fz (cutD d l u)) s4 P):W (ev ao aj F (.sl fz a lo hi) J) s P:=W.bd (h.imp λ_ _ h=>W.bd (h.imp λ_ _ h=>W.bd (h.imp λ_ _ h=>W.bd h)))
theorem KaN{P:Option Int->S->Prop}(h:P none s):W (yN ao aj F .no J) s P:=W.ret h
theorem KaO{a:E}{P:Option Int->S->Prop}(h:W (ev ao aj F a J) s λx s1=>W (Mi.int x) s1 λi s2=>P (some i) s2):W (yN ao aj F (.yes a) J) s P:=W.bd (h.imp λ_ _ h=>W.bd (h.imp λ_ _ h=>W.ret h))
theorem Kah{P:List Xv->S->Prop}(h:P [] s):W (evs ao aj F .nil J) s P:=W.ret h
theorem Kag{a:E}{r:Es}{P:List Xv->S->Prop}(h:W (ev ao aj F a J) s λx s1=>W (evs ao aj F r J) s1 λxs s2=>P (x::xs) s2):W (evs ao aj F (.cons a r) J) s P:=W.bd (h.imp λ_ _ h=>W.bd (h.imp λ_ _ h=>W.ret h))
theorem KaJ{a:E}{P:Src×Nat->S->Prop}(h:W (ev ao aj F a J) s λx s1=>W (src x) s1 P):W (oU ao aj F (.seq a) J) s P:=W.bd h
end
section
variable {ao:Nat->Nat->Bool}{aj:Bool}{F:Bool->Fn}{J:Vs}{s:S}{Q:Out->S->Prop}
theorem WS.K8{b:Bool}{m1 m2:MS}(e:b=true)(h:WS m1 s Q):WS (if b=true then m1 else m2) s Q:=by rw[if_pos e];exact h
theorem WS.GJ{b:Bool}{m1 m2:MS}(e:b=false)(h:WS m2 s Q):WS (if b=true then m1 else m2) s Q:=by rw[if_neg (by rw[e];decide)];exact h
theorem WS.tK{m1 m2:MS}(h:WS m1 s Q):WS (if true=true then m1 else m2) s Q:=by rw[if_pos rfl];exact h
theorem WS.DY{m1 m2:MS}(h:WS m2 s Q):WS (if false=true then m1 else m2) s Q:=by rw[if_neg (by decide)];exact h
theorem Kbc{e:E}(h:W (ev ao aj (F aj) e J) s λ_ s1=>Q (.nx J) s1):WS (ex ao aj F (.ex e) J) s Q:=WS.ofM (h.imp λ_ _ h=>WS.nx h)
theorem Kbf{i:Nat}{e:E}(h:W (ev ao aj (F aj) e J) s λx s1=>Q (.nx (J.set i (some x))) s1):WS (ex ao aj F (.asg (.nm i) e) J) s Q:=WS.ofM (h.imp λ_ _ h=>WS.nx h)
theorem Kbk{is:List Nat}{e:E}(h:W (ev ao true (F true) e J) s λx s1=>W (dat x) s1 λd s2=>pQ ((mC d).bind λds=>g_ is (ds.map .d) J) λJ'=>Q (.nx J') s2):WS (ex ao true F (.asg (.tp is) e) J) s Q:=by
 refine WS.ofM (h.imp λx s1 h=>?_);exact WS.tK (m2:=λ_=>none) (WS.ofM (W.bd (h.imp λd s2 ⟨J',e,q⟩=>W.opt e (WS.nx q))))
theorem Kbj{o i e:E}(h:W (ev ao aj (F aj) e J) s λx s1=>W (dat x) s1 λd s2=>W (ev ao aj (F aj) o J) s2 λy s3=>W (ev ao aj (F aj) i J) s3 λz s4=>W (Mi.int z) s4 λj s5=>W (cW y) s5 λnx s6=>pQ (L2.uf nx.2.length j) λq=>Q (.nx J) (s6.set nx.1 (.lst (nx.2.set q d)))):WS (ex ao aj F (.asg (.ao o i) e) J) s Q:=by
 refine WS.ofM (h.imp λx s1 h=>WS.ofM (W.bd (h.imp λd s2 h=>W.bd (h.imp λy s3 h=>W.bd (h.imp λz s4 h=>W.bd (h.imp λj s5 h=>W.bd (h.imp λnx s6 h=>?_)))))));obtain⟨q,e,h⟩:=h;simp only[e];exact O6 (WS.nx h)
theorem Kbg{i j:Nat}{a b:E}(h:W (ev ao true (F true) a J) s λx s1=>W (ev ao true (F true) b J) s1 λy s2=>Q (.nx ((J.set i (some x)).set j (some y))) s2):WS (ex ao true F (.par i j a b) J) s Q:=by
 exact WS.tK (m2:=λ_=>none) (WS.ofM (W.bd (h.imp λx s1 h=>W.bd (h.imp λy s2 h=>W.ret (WS.nx h)))))
theorem Kbh{e:E}(h:W (ev ao aj (F aj) e J) s λx s1=>Q (.rt x) s1):WS (ex ao aj F (.ret e) J) s Q:=WS.ofM (h.imp λ_ _ h=>WS.rt h)
theorem GK{c:E}{t e:cL}(h:W (ev ao aj (F aj) c J) s λx s1=>W (Mi.bool x) s1 λb s2=>WS (if b=true then exs ao aj F t J else exs ao aj F e J) s2 Q):WS (ex ao aj F (.iff c t e) J) s Q:=WS.ofM (W.bd h)
theorem Kbd{t:Tg}{w:Wk}{b:cL}(h:W (oU ao true (F true) w J) s λcn s1=>WS (eN cn.1 (λd J=>Mi.cX (store ao true (F true) t (.d d) J) λJ'=>exs ao true F b J') (cn.2+1) 0 J) s1 Q):WS (ex ao true F (.fr t w b) J) s Q:=by
 exact WS.tK (m2:=λ_=>none) (WS.ofM h)
end
theorem W.K8{α:Type}{b:Bool}{m1 m2:M α}{s:S}{P:α->S->Prop}(e:b=true)(h:W m1 s P):W (if b=true then m1 else m2) s P:=by rw[if_pos e];exact h
theorem W.GJ{α:Type}{b:Bool}{m1 m2:M α}{s:S}{P:α->S->Prop}(e:b=false)(h:W m2 s P):W (if b=true then m1 else m2) s P:=by rw[if_neg (by rw[e];decide)];exact h
theorem W.tK{α:Type}{m1 m2:M α}{s:S}{P:α->S->Prop}(h:W m1 s P):W (if true=true then m1 else m2) s P:=by rw[if_pos rfl];exact h
theorem W.DY{α:Type}{m1 m2:M α}{s:S}{P:α->S->Prop}(h:W m2 s P):W (if false=true then m1 else m2) s P:=by rw[if_neg (by decide)];exact h
structure Bx(R:Prop):Prop where
 o:R
end Mi
namespace Mi
open PySem PySem.W PyProof.Rows L2
abbrev cQ(n:Nat)(p:Array Nat):Prop:=p.Perm (List.range n).toArray
theorem cQ.lt(h:cQ n p)(hn:0<n)(i:Nat):p.getD i 0<n:=by
 by_cases hi:i<p.size
 ·have e:p.getD i 0=p[i]:=by simp[Array.getD,hi]
  rw[e];have hm:p[i]∈(List.range n).toArray:=h.mem_iff.mp (Array.getElem_mem hi);simpa using hm
 ·have e:p.getD i 0=0:=by simp[Array.getD,hi]
  rw[e];exact hn
theorem cQ.rev(h:cQ n p)(i j:Nat):cQ n (kas_rev p i j):=(mirror_perm p i j _).trans h
theorem cQ.bub(h:cQ n p)(i j:Nat):cQ n (bubble p i j):=(bubble_perm p i j).trans h
def j8{α:Type}(lt:Nat->Nat->Option Bool)(t:KasT α)(P:α->Prop):Prop:=∃a,aZ lt t=some a/\P a
section
variable {α β:Type}{lt:Nat->Nat->Option Bool}{n:Nat}
theorem j8.ret(h:P a):j8 lt (.ret a) P:=⟨a,rfl,h⟩
theorem j8.bind(hf:∀a,P a->j8 lt (f a) R):∀{t:KasT α},j8 lt t P->j8 lt (t.bind f) R
 |.ret a,⟨a',e,h⟩=>by cases e;exact hf _ h
 |.ask i j k,⟨a',e,h⟩=>by
  unfold aZ at e;cases el:lt i j with
  |none=>rw[el] at e;cases e
  |some b=>
   rw[el] at e;obtain⟨c,e1,h1⟩:=j8.bind hf (t:=k b) ⟨a',e,h⟩;refine⟨c,?_,h1⟩;show aZ lt (.ask i j λb=>(k b).bind f)=some c;unfold aZ;rw[el];exact e1
def Tot(n:Nat)(lt:Nat->Nat->Option Bool):Prop:=∀i j,i<n->j<n->∃b,lt i j=some b
variable (ht:Tot n lt)(hn:0<n)
include ht hn
end
section
variable {lt:Nat->Nat->Option Bool}{n:Nat}
end
noncomputable def bI(p:Int×Int):D:=.tup [.int p.1,.int p.2]
end Mi
namespace Mi
open PySem
theorem W.walk{c:List D}{f:D->List D->M (List D)}{s:S}{acc:List D}{P:List D->S->Prop}(I:Nat->List D->S->Prop)(h0:I 0 acc s)(hb:∀i x acc s,c[i]?=some x->I i acc s->W (f x acc) s λa s'=>I (i+1) a s')
  (he:∀acc s,I c.length acc s->P acc s):W (Mi.walk (.fix c) f (c.length+1) 0 acc) s P:=by
 have key:∀n i acc s,i+n=c.length->I i acc s->W (Mi.walk (.fix c) f (n+1) i acc) s P:=by
  intro n
  induction n with
  |zero=>
   intro i acc s hi hI;have e:c[i]?=none:=by rw[qI];lia
   have:i=c.length:=by lia
   subst this;refine⟨acc,s,?_,he acc s hI⟩;unfold Mi.walk;simp only[Src.at,e]
  |succ n ih=>
   intro i acc s hi hI;have hlt:i<c.length:=by lia
   have e:c[i]?=some c[i]:=fL hlt;obtain⟨a,s',eb,DX⟩:=hb i c[i] acc s e hI;obtain⟨a2,s2,e2,q⟩:=ih (i+1) a s' (by lia) DX;refine⟨a2,s2,?_,q⟩;unfold Mi.walk;simp only[Src.at,e,M.bd,eb];exact e2
 exact key c.length 0 acc s (by lia) h0
section
variable {ao:Nat->Nat->Bool}{F:Fn}{J:Vs}{s:S}{P:Xv->S->Prop}
end
section
variable {ao:Nat->Nat->Bool}{aj:Bool}{F:Fn}{J:Vs}{s:S}{P:Xv->S->Prop}
theorem Kay(h:W (ev ao aj F a J) s λx s1=>W (rd x) s1 λd s2=>∃b,mz ao d k=some b/\P (.d (.bl b)) s2):W (ev ao aj F (.gQ a k) J) s P:=
 W.bd (h.imp λ_ _ h=>W.bd (h.imp λ_ _ ⟨_,e,h⟩=>W.bd (W.opt e (W.ret h))))
theorem Kaw(h:W (ev ao aj F a J) s λx s1=>W (ev ao aj F b J) s1 λy s2=>W (fQ [x,y]) s2 λds s3=>W (bT true (prim p ds)) s3 λt s4=>W (Mi.bool t) s4 λk s5=>
  W (if k=true then M.bd (ev ao aj F c J) λz=>M.bd (fQ [y,z]) λds=>bT true (prim q ds) else M.ret (.d (.bl false))) s5 P):W (ev ao aj F (.sS p q a b c) J) s P:=
 W.bd (h.imp λ_ _ h=>W.bd (h.imp λ_ _ h=>W.bd (h.imp λ_ _ h=>W.bd (h.imp λ_ _ h=>W.bd h))))
end
noncomputable def K9(fz:Bool):Option Rz->Option Xv
 |some (.dat d)=>some (.d d)
 |some (.nw ys)=>match fz with
  |true=>some (.d (.fl ys))
  |false=>none
 |none=>none
noncomputable def addQ:D->D->Option Rz
 |.int i,.int j=>some (.dat (.int (i+j)))
 |_,_=>none
noncomputable def Bf:List D->Option Rz
 |a::r=>match r with
  |b::r=>match r with
   |[]=>addQ a b
   |_::_=>none
  |[]=>none
 |[]=>none
noncomputable def quick:Pr->Bool
 |.mul=>false|.fdiv=>false|.mod=>false|.pow=>false|.divmod=>false|.sorted=>false|.fu=>false|.J9=>false|.mult=>false|.repr=>false|.str1=>false|.Zn=>false|.J7=>false|.J8=>false
 |_=>true
noncomputable def rG(p:Pr)(ds:List D):Option Rz:=match p with
 |.add=>Bf ds
 |p=>match quick p with
  |true=>prim p ds
  |false=>none
theorem K_{ds:List D}{r:Rz}(h:Bf ds=some r):Dk ds=some r:=by
 cases ds with
 |nil=>cases h
 |cons a t=>cases t with
  |nil=>cases h
  |cons b t=>cases t with
   |cons _ _=>cases h
   |nil=>cases a with
    |int i=>cases b with
     |int j=>exact h
     |_=>cases h
    |_=>cases h
theorem D_{p:Pr}{ds:List D}{r:Rz}(h:rG p ds=some r):prim p ds=some r:=by
 cases p with
 |add=>exact K_ h
 |_=>first|exact h|cases h
noncomputable def Uo(fz:Bool)(ds:List D):Option Xv:=match fz with
 |true=>some (.d (.fl ds))
 |false=>none
noncomputable def Ld:Xv->Option D
 |.d x=>some x
 |.l _=>none
noncomputable def notP:Xv->Option Xv
 |.d (.bl b)=>some (.d (.bl (!b)))
 |_=>none
noncomputable def Uq(r:Option Xv):Xv->Option Xv
 |.d (.bl true)=>r
 |.d (.bl false)=>some (.d (.bl false))
 |_=>none
noncomputable def orP(r:Option Xv):Xv->Option Xv
 |.d (.bl true)=>some (.d (.bl true))
 |.d (.bl false)=>r
 |_=>none
section
variable (ao:Nat->Nat->Bool)
mutual
noncomputable def iU:E->Vs->Option Xv
 |.c d,_=>some (.d d)
 |.v i,J=>J[i]?.join
 |.pr fz p xs,J=>(qD xs J).bind λds=>K9 fz (rG p ds)
 |.tup xs,J=>(qD xs J).bind λds=>some (.d (.tup ds))
 |.lst fz xs,J=>(qD xs J).bind λds=>Uo fz ds
 |.not a,J=>(iU a J).bind notP
 |.and a b,J=>(iU a J).bind (Uq (iU b J))
 |.or a b,J=>(iU a J).bind (orP (iU b J))
 |.gQ a k,J=>(iU a J).bind λx=>(Ld x).bind λd=>(mz ao d k).bind λb=>some (.d (.bl b))
 |_,_=>none
noncomputable def qD:Es->Vs->Option (List D)
 |.nil,_=>some []
 |.cons a r,J=>(iU a J).bind λx=>(Ld x).bind λd=>(qD r J).bind λds=>some (d::ds)
end
noncomputable def rH:Es->Vs->Option (List Xv)
 |.nil,_=>some []
 |.cons a r,J=>(iU ao a J).bind λx=>(rH r J).bind λxs=>some (x::xs)
end
theorem pC{α β:Type}{o:Option α}{f:α->Option β}{b:β}(h:o.bind f=some b):∃a,o=some a/\f a=some b:=zM.mp h
theorem j9{α β:Type}{m:M α}{k:α->M β}{s s':S}{a:α}(e:m s=some (.ok a,s')):M.bd m k s=k a s':=by
 show (match m s with|some (.ok a,s')=>k a s'|some (.er c f,s')=>some (.er c f,s')|none=>none)=_;rw[e]
theorem Ed(s:S):∀ds:List D,fQ (ds.map .d) s=some (.ok ds,s)
 |[]=>rfl
 |d::r=>(j9 (s':=s) (a:=d) rfl).trans ((j9 (Ed s r)).trans rfl)
theorem v7(s:S):∀ds:List D,dR (ds.map .d) s=some (.ok ds,s)
 |[]=>rfl
 |d::r=>(j9 (s':=s) (a:=d) rfl).trans ((j9 (v7 s r)).trans rfl)
theorem Ur{fz:Bool}{p:Pr}{ds:List D}{x:Xv}{s:S}(h:K9 fz (rG p ds)=some x):bT fz (prim p ds) s=some (.ok x,s):=by
 cases o:rG p ds with
 |none=>rw[o] at h;cases h
 |some r=>
  rw[o] at h;rw[D_ o];cases r with
  |dat d=>cases h;rfl
  |nw ys=>cases fz with
   |true=>cases h;rfl
   |false=>cases h
section
variable {ao:Nat->Nat->Bool}{aj:Bool}{F:Fn}{J:Vs}{s:S}
theorem v8(e:E):∀x:Xv,iU ao e J=some x->ev ao aj F e J s=some (.ok x,s):=by
 refine E.rec (motive_1:=λe=>∀x:Xv,iU ao e J=some x->ev ao aj F e J s=some (.ok x,s)) (motive_2:=λ_=>True) (motive_3:=λxs=>∀ds:List D,qD ao xs J=some ds->evs ao aj F xs J s=some (.ok (ds.map .d),s)) (motive_4:=λ_=>True)
  ?c ?v ?pr (λ_ _ _ _ _ _ _ _ _ h=>nomatch h) (λ_ _ _ _ _ _ _ _ _ _ _ _ h=>nomatch h) ?and ?or ?not (λ_ _ _ _ _ _ _ h=>nomatch h) ?tup ?lst (λ_ _ _ h=>nomatch h) (λ_ _ _ _ h=>nomatch h) ?gQ (λ_ _ _ _ _ _ _ _ h=>nomatch h) (λ_ _ _ _ _ _ _ _ h=>nomatch h) (λ_ _ _ _ _ h=>nomatch h) (λ_ _ _ h=>nomatch h)
  (λ_ _ _ _ _ _ _ _ _ _ _ h=>nomatch h) (λ_ _ _ _ _ _ _ _ _ _ _ _ _ _ h=>nomatch h) (λ_ _ _ _ _ h=>nomatch h) (λ_ _ _ _ h=>nomatch h) (λ_ _ _ _ _ _ h=>nomatch h) (λ_ _ _ _ _ h=>nomatch h) (λ_ _ _ _ _ _ _ h=>nomatch h) (λ_ h=>nomatch h)
  (λ_ _=>trivial) (λ_ _ _ _=>trivial) (λ_ _ _ _=>trivial) (λ_ _=>trivial) (λ_ _=>trivial) ?nil ?cons trivial (λ_ _=>trivial) e
 case c=>intro d x h;cases h;rfl
 case v=>intro i x h;exact(show M.opt (J[i]?.join) s=_ from by rw[show J[i]?.join=some x from h];rfl)
 case pr=>
  intro fz p xs ih x h;obtain⟨ds,e1,e2⟩:=pC h;exact(j9 (ih _ e1)).trans ((j9 (Ed s ds)).trans (Ur e2))
 case tup=>
  intro xs ih x h;obtain⟨ds,e1,e2⟩:=pC h;cases e2;exact(j9 (ih _ e1)).trans ((j9 (v7 s ds)).trans rfl)
 case lst=>
  intro fz xs ih x h;obtain⟨ds,e1,e2⟩:=pC h;cases fz with
  |false=>cases e2
  |true=>cases e2;exact(j9 (ih _ e1)).trans ((j9 (v7 s ds)).trans rfl)
 case not=>
  intro a ih x h;obtain⟨y,e1,e2⟩:=pC h;cases y with
  |l n=>cases e2
  |d y=>cases y with
   |bl b=>cases e2;exact(j9 (ih _ e1)).trans rfl
   |_=>cases e2
 case and=>
  intro a b ih ih2 x h;obtain⟨y,e1,e2⟩:=pC h;cases y with
  |l n=>cases e2
  |d y=>cases y with
   |bl b=>cases b with
    |true=>exact(j9 (ih _ e1)).trans (ih2 _ e2)
    |false=>cases e2;exact(j9 (ih _ e1)).trans rfl
   |_=>cases e2
 case or=>
  intro a b ih ih2 x h;obtain⟨y,e1,e2⟩:=pC h;cases y with
  |l n=>cases e2
  |d y=>cases y with
   |bl b=>cases b with
    |true=>cases e2;exact(j9 (ih _ e1)).trans rfl
    |false=>exact(j9 (ih _ e1)).trans (ih2 _ e2)
   |_=>cases e2
 case gQ=>
  intro a k ih x h;obtain⟨y,e1,e2⟩:=pC h;cases y with
  |l n=>cases e2
  |d y=>
   obtain⟨d,e3,e4⟩:=pC e2;cases e3;obtain⟨b,e5,e6⟩:=pC e4;cases e6;refine(j9 (ih _ e1)).trans ((j9 (s':=s) (a:=y) rfl).trans ((j9 (s':=s) (a:=b) ?_).trans rfl));rw[e5];rfl
 case nil=>intro ds h;cases h;rfl
 case cons=>
  intro a r ih ih2 ds h;obtain⟨y,e1,e2⟩:=pC h;cases y with
  |l n=>cases e2
  |d y=>
   obtain⟨d,e3,e4⟩:=pC e2;cases e3;obtain⟨rs,e5,e6⟩:=pC e4;cases e6;exact(j9 (ih _ e1)).trans ((j9 (ih2 _ e5)).trans rfl)
theorem v9:∀(xs:Es) (ds:List D),qD ao xs J=some ds->evs ao aj F xs J s=some (.ok (ds.map .d),s)
 |.nil,ds,h=>by cases h;rfl
 |.cons a r,ds,h=>by
  obtain⟨y,e1,e2⟩:=pC h;cases y with
  |l n=>cases e2
  |d y=>
   obtain⟨d,e3,e4⟩:=pC e2;cases e3;obtain⟨rs,e5,e6⟩:=pC e4;cases e6;exact(j9 (v8 a _ e1)).trans ((j9 (v9 r _ e5)).trans rfl)
theorem nG:∀(xs:Es) {vs:List Xv},rH ao xs J=some vs->evs ao aj F xs J s=some (.ok vs,s)
 |.nil,vs,h=>by cases h;rfl
 |.cons a r,vs,h=>by
  obtain⟨y,e1,e2⟩:=pC h;obtain⟨ys,e3,e4⟩:=pC e2;cases e4;exact(j9 (v8 a _ e1)).trans ((j9 (nG r e3)).trans rfl)
variable {P:Xv->S->Prop}
theorem W.pv{e:E}{x:Xv}(h:iU ao e J=some x)(k:P x s):W (ev ao aj F e J) s P:=W.eq (v8 e _ h) k
theorem KaT{f:Nat}{xs:Es}{vs:List Xv}(h:rH ao xs J=some vs)(k:W (cR (F f) vs) s P):W (ev ao aj F (.call f xs) J) s P:=Kav (W.eq (nG xs h) k)
theorem KaU{fz:Bool}{p:Pr}{xs:Es}{ds:List D}(h:qD ao xs J=some ds)(k:W (bT fz (prim p ds)) s P):W (ev ao aj F (.pr fz p xs) J) s P:=KaD (W.eq (v9 xs _ h) (W.eq (Ed s ds) k))
theorem KaS{xs:Es}{vs:List Xv}{P:List Xv->S->Prop}(h:rH ao xs J=some vs)(k:P vs s):W (evs ao aj F xs J) s P:=W.eq (nG xs h) k
end
section
variable {ao:Nat->Nat->Bool}{aj:Bool}{F:Bool->Fn}{J:Vs}{s:S}{Q:Out->S->Prop}{e:E}{r:cL}
theorem Ka9{i:Nat}{x:Xv}(h:iU ao e J=some x)(k:WS (exs ao aj F r (J.set i (some x))) s Q):WS (exs ao aj F (.cons (.asg (.nm i) e) r) J) s Q:=WS.cons (Kbf (W.pv h k))
theorem Kba{x:Xv}(h:iU ao e J=some x)(k:Q (.rt x) s):WS (exs ao aj F (.cons (.ret e) r) J) s Q:=WS.cons (Kbh (W.pv h k))
theorem Ka8{b:Bool}{t u:cL}(h:iU ao e J=some (.d (.bl b)))(k:WS (if b=true then exs ao aj F t J else exs ao aj F u J) s λo s'=>match o with|.nx J'=>WS (exs ao aj F r J') s' Q|.rt x=>Q (.rt x) s'|_=>False):WS (exs ao aj F (.cons (.iff e t u) r) J) s Q:=WS.cons (GK (W.pv h (W.bool k)))
end
def WR{α:Type}(m:M α)(s:S)(c:Nat)(fs:List D):Prop:=∃s',m s=some (.er c fs,s')
section
variable {α β:Type}{m:M α}{k:α->M β}{s:S}{c:Nat}{fs:List D}
theorem Us(h:WR m s c fs):WR (M.bd m k) s c fs:=by
 obtain⟨s',e⟩:=h;exact⟨s',by unfold M.bd;rw[e]⟩
theorem GP(h:W m s λa s'=>WR (k a) s' c fs):WR (M.bd m k) s c fs:=by
 obtain⟨a,s',e,s2,e2⟩:=h;exact⟨s2,by unfold M.bd;rw[e];exact e2⟩
theorem WR.cB(hl:locs xs=[])(h:WR (F (dY 0 xs)) [] c fs):WR (cR F xs) s c fs:=by
 obtain⟨s1,e⟩:=h;refine⟨s,?_⟩;unfold cR;rw[hl,if_pos FQ];simp only[jo,e,dF]
end
theorem WR.call(hT:T f=some d)(hl:xs.length=d.jq)
  (h:WS (exs ao aj (λc=>Mi.call ao T k c) d.body (xs.map some++List.replicate (d.many-d.jq) none)) s λo _=>∃J,o=.er c fs J):WR (Mi.call ao T (k+1) aj f xs) s c fs:=by
 obtain⟨o,s',e,J,rfl⟩:=h;unfold Mi.call;simp only[hT,if_pos hl];unfold WR;simp only[e];exact⟨_,rfl⟩
section
variable {ao:Nat->Nat->Bool}{aj:Bool}{F:Bool->Fn}{J:Vs}{s:S}{Q:Out->S->Prop}{c:Nat}{fs:List D}
theorem Ka7(h:WR m s c fs)(q:∀s',Q (.er c fs J) s'):WS (Mi.ofM m J k) s Q:=by
 obtain⟨s',e⟩:=h;exact⟨_,s',by unfold Mi.ofM;rw[e],q s'⟩
theorem tL(h:WS (ex ao aj F a J) s λo s'=>(∃c fs J',o=.er c fs J')/\Q o s'):WS (exs ao aj F (.cons a r) J) s Q:=by
 obtain⟨o,s',e,⟨c,fs,J',rfl⟩,q⟩:=h;exact⟨_,s',by unfold exs Mi.cX;rw[e],q⟩
theorem O7(h:WR (ev ao aj (F aj) e J) s c fs)(q:∀s',Q (.er c fs J) s'):WS (ex ao aj F (.ex e) J) s Q:=Ka7 h q
theorem Kbb(h:WR (ev ao aj (F aj) e J) s c fs)(q:∀s',Q (.er c fs J) s'):WS (ex ao aj F (.ret e) J) s Q:=Ka7 h q
theorem Kbi{c:Nat}{kp:Bool}{xs:Es}(h:W (evs ao true (F true) xs J) s λvs s1=>W (dR vs) s1 λds s2=>Q (.er c (if kp=true then ds else []) J) s2):WS (ex ao true F (.rise c kp xs) J) s Q:=by
 refine WS.tK (m2:=λ_=>none) (WS.ofM (W.bd (h.imp λvs s1 h=>h.imp λds s2 h=>?_)));exact⟨_,s2,rfl,h⟩
theorem Kbn{m:MS}{k:Vs->MS}(h:WS m s λo s'=>match o with|.nx J'=>WS (k J') s' Q|.rt x=>Q (.rt x) s'|_=>False):WS (Mi.cX m k) s Q:=by
 obtain⟨o,s',e,q⟩:=h;unfold WS Mi.cX;rw[e];cases o with
 |nx J'=>exact q
 |rt x=>exact⟨_,_,rfl,q⟩
 |bk _=>exact q.elim
 |ct _=>exact q.elim
 |er _ _ _=>exact q.elim
theorem Kbl{F:Fn}{i:Nat}{x:Xv}(h:Q (.nx (J.set i (some x))) s):WS (store ao aj F (.nm i) x J) s Q:=⟨_,s,rfl,h⟩
theorem Kbm{F:Fn}{is:List Nat}{d:D}(h:pQ ((mC d).bind λds=>g_ is (ds.map .d) J) λJ'=>Q (.nx J') s):WS (store ao true F (.tp is) (.d d) J) s Q:=by
 obtain⟨J',e,q⟩:=h;exact WS.tK (m2:=λ_=>none) (WS.ofM (W.bd (W.dat (W.opt e (WS.nx q)))))
theorem Kbo(hb:WS (exs ao true F b J) s λo s'=>(∃x,o=.rt x)/\Q o s'):WS (ex ao true F (.sW b d i h) J) s Q:=by
 obtain⟨o,s',e,⟨x,rfl⟩,q⟩:=hb;exact⟨_,s',by unfold ex;rw[if_pos rfl];simp only[e],q⟩
theorem Kbp(hb:WS (exs ao true F b J) s λo s'=>∃c fs J',o=.er c fs J'/\ao c d=true/\WS (exs ao false F h (J'.set i (some (.d (.exc c fs))))) s' λr s2=>(∃x,r=.rt x)/\Q r s2):WS (ex ao true F (.sW b d i h) J) s Q:=by
 obtain⟨o,s',e,c,fs,J',rfl,hs,r,s2,e2,⟨x,rfl⟩,q⟩:=hb;exact⟨_,s2,by unfold ex;rw[if_pos rfl];simp only[e,hs,if_true,e2];rfl,q⟩
end
section
variable {ao:Nat->Nat->Bool}{aj:Bool}{F:Fn}{J:Vs}{s:S}{P:Xv->S->Prop}
theorem W.gQ{a:E}{k:Kd}(h:W (ev ao aj F a J) s λx s1=>W (rd x) s1 λd s2=>pQ (mz ao d k) λb=>P (.d (.bl b)) s2):W (ev ao aj F (.gQ a k) J) s P:=Kay h
theorem W.sS{p q:Pr}{a b c:E}(h:W (ev ao aj F a J) s λx s1=>W (ev ao aj F b J) s1 λy s2=>W (fQ [x,y]) s2 λds s3=>W (bT true (prim p ds)) s3 λt s4=>W (Mi.bool t) s4 λk s5=>
  W (if k=true then M.bd (ev ao aj F c J) λz=>M.bd (fQ [y,z]) λds=>bT true (prim q ds) else M.ret (.d (.bl false))) s5 P):W (ev ao aj F (.sS p q a b c) J) s P:=Kaw h
theorem Kaz{c a b:E}(h:W (ev ao aj F c J) s λx s1=>W (Mi.bool x) s1 λk s2=>W (if k=true then ev ao aj F a J else ev ao aj F b J) s2 P):W (ev ao aj F (.ite c a b) J) s P:=W.bd (h.imp λ_ _ h=>W.bd h)
theorem KaH{a:E}{P:Src×Nat->S->Prop}(h:W (ev ao aj F a J) s λx s1=>W (vA x) s1 P):W (oU ao aj F (.enum a) J) s P:=W.bd h
theorem KaG{xs:List D}{P:Src×Nat->S->Prop}(h:P (.fix (enumFrom 0 xs),(enumFrom 0 xs).length) s):W (vA (.d (.fl xs))) s P:=⟨_,s,rfl,h⟩
theorem KaI{a b:E}{P:Src×Nat->S->Prop}(h:W (ev ao aj F a J) s λx s1=>W (ev ao aj F b J) s1 λy s2=>W (Mi.int x) s2 λi s3=>W (Mi.int y) s3 λj s4=>(gC i&&gC j)=true/\P (.fix (jT i j),(jT i j).length) s4):W (oU ao aj F (.rg a b) J) s P:=by
 refine W.bd (h.imp λx s1 h=>W.bd (h.imp λy s2 h=>W.bd (h.imp λi s3 h=>W.bd (h.imp λj s4 h=>?_))));rw[if_pos h.1];exact W.ret h.2
theorem KaK{a b:E}{P:Src×Nat->S->Prop}(h:W (ev ao aj F a J) s λx s1=>W (ev ao aj F b J) s1 λy s2=>W (qy x) s2 λxs s3=>W (qy y) s3 λys s4=>P (.fix (List.zipWith (λp q=>.tup [p,q]) xs ys),(List.zipWith (λ(p q:D)=>D.tup [p,q]) xs ys).length) s4):W (oU ao aj F (.zip a b) J) s P:=
 W.bd (h.imp λx s1 h=>W.bd (h.imp λy s2 h=>W.bd (h.imp λxs s3 h=>W.bd (h.imp λys s4 h=>W.ret h))))
theorem W.jD{xs:List D}{P:List D->S->Prop}(h:P xs s):W (qy (.d (.tup xs))) s P:=W.ret h
theorem W.wW{xs:List D}{P:List D->S->Prop}(h:P xs s):W (qy (.d (.fl xs))) s P:=W.ret h
theorem Kai{P:Bool->S->Prop}(h:P true s):W (uh ao aj F .no J) s P:=W.ret h
theorem Kaj{a:E}{P:Bool->S->Prop}(h:W (ev ao aj F a J) s λx s1=>W (Mi.bool x) s1 P):W (uh ao aj F (.yes a) J) s P:=W.bd h
theorem nJ{α:Type}{f:α->D}{l:List α}{fz:Bool}{elt:E}{tg:List Nat}{it:Wk}{fr:List Nat}{many:Nat}{cond:Eo}(g:α->Option D)(hc:l.length<=sizeLine)
  (hw:W (oU ao true F it J) s λcn s1=>cn=(.fix (l.map f),(l.map f).length)/\s1=s)
  (hb:∀x∈l,pQ (jC tg (f x) (blk many fr J)) λJ'=>W (uh ao true F cond J') s λb s1=>s1=s/\(b=true->W (ev ao true F elt J') s λy s2=>s2=s/\∃d,y=.d d/\g x=some d)/\(b=false->g x=none))
  (h:W (newL fz (l.filterMap g)) s P):W (ev ao true F (.comp fz elt tg it fr many cond) J) s P:=by
 change W (_root_.ite (true=true) _ _) s P
 rw[if_pos rfl];refine W.bd (hw.imp λcn s1=>?_);rintro⟨rfl,rfl⟩;refine W.bd ?_;refine W.walk (c:=l.map f) (λi acc s'=>s'=s1/\acc=(l.take i).filterMap g) ⟨rfl,rfl⟩ (λi x acc s' e hI=>?_) (λacc s' hI=>?_)
 ·obtain⟨rfl,rfl⟩:=hI;rw[i_] at e;cases el:l[i]? with
  |none=>rw[el] at e;cases e
  |some y=>
   rw[el] at e;cases e;have hi:i<l.length:=(jy.mp el).1;have ht:l.take (i+1)=l.take i++[y]:=by rw[List.take_succ,el];rfl
   have hl:((l.take i).filterMap g).length<sizeLine:=Nat.lt_of_le_of_lt (List.length_filterMap_le _ _) (by rw[xT];lia);obtain⟨J',e1,h1⟩:=hb y (jd el);refine W.bd (W.opt e1 ?_);refine W.bd (W.qt (h1.imp λb s2=>?_));rintro⟨rfl,h2,h3⟩;rw[ht,List.filterMap_append];cases b
   ·rw[if_neg (by decide)];refine W.ret ⟨rfl,?_⟩;simp[h3 rfl]
   ·rw[if_pos rfl];refine W.bd (W.qt ((h2 rfl).imp λy s3=>?_));rintro⟨rfl,d,rfl,eg⟩;refine W.bd (W.dat ?_);rw[if_pos hl];refine W.ret ⟨rfl,?_⟩;simp[eg]
 ·obtain⟨rfl,rfl⟩:=hI;rw[bN,Np];exact h
theorem Kan{c:List D}{fz:Bool}{elt:E}{tg:List Nat}{it:Wk}{fr:List Nat}{many:Nat}{cond:Eo}(I:Nat->List D->S->Prop)
  (hw:W (oU ao true F it J) s λcn s1=>cn=(.fix c,c.length)/\I 0 [] s1)
  (hb:∀i x acc s,c[i]?=some x->I i acc s->pQ (jC tg x (blk many fr J)) λJ'=>W (uh ao true F cond J') s λb s1=>(b=true->W (ev ao true F elt J') s1 λy s2=>∃d,y=.d d/\acc.length<sizeLine/\I (i+1) (acc++[d]) s2)/\(b=false->I (i+1) acc s1))
  (h:∀acc s,I c.length acc s->W (newL fz acc) s P):W (ev ao true F (.comp fz elt tg it fr many cond) J) s P:=by
 change W (_root_.ite (true=true) _ _) s P
 rw[if_pos rfl];refine W.bd (hw.imp λcn s1=>?_);rintro⟨rfl,h0⟩;refine W.bd ?_;refine W.walk (c:=c) I h0 (λi x acc s' e hI=>?_) (λacc s' hI=>h acc s' hI);obtain⟨J',e1,h1⟩:=hb i x acc s' e hI;refine W.bd (W.opt e1 ?_);refine W.bd (W.qt (h1.imp λb s2=>?_));rintro⟨h2,h3⟩;cases b
 ·rw[if_neg (by decide)];exact W.ret (h3 rfl)
 ·rw[if_pos rfl];refine W.bd (W.qt ((h2 rfl).imp λy s3=>?_));rintro⟨d,rfl,hl,hi⟩;refine W.bd (W.dat ?_);rw[if_pos hl];exact W.ret hi
theorem W.push{o a:E}(h:W (ev ao aj F o J) s λx s1=>W (Mi.cW x) s1 λ_ s2=>W (ev ao aj F a J) s2 λy s3=>W (Mi.dat y) s3 λd s4=>W (Mi.cW x) s4 λnx s5=>nx.2.length<sizeLine/\P (.d .non) (s5.set nx.1 (.lst (nx.2++[d])))):W (ev ao aj F (.push o a) J) s P:=by
 refine W.bd (h.imp λx s1 h=>W.bd (h.imp λ_ s2 h=>W.bd (h.imp λy s3 h=>W.bd (h.imp λd s4 h=>W.bd (h.imp λnx s5 h=>?_)))));rw[if_pos h.1];exact W.bd (O6 (W.ret h.2))
end
theorem zex{s:S}{o:SO}:(s++[o])[s.length]?=some o:=by simp
theorem Y{P R:Prop}(k:R)(h:Bx R->P:=by
 intro k
 repeat (first|with_reducible first
   |refine Ka9 (by with_unfolding_all rfl) ?_|refine Kba (by with_unfolding_all rfl) ?_|refine Ka8 (by with_unfolding_all rfl) ?_|refine W.pv (by with_unfolding_all rfl) ?_|refine KaU (by with_unfolding_all rfl) ?_|refine KaT (by with_unfolding_all rfl) ?_|refine KaS (by with_unfolding_all rfl) ?_
   |refine WS.cons ?_|refine WS.nil ?_|refine Kbn ?_|refine Kbl ?_|refine Kbm ?_|refine Kbf ?_|refine Kbh ?_|refine GK ?_|refine Kbk ?_|refine Kbj ?_|refine Kbg ?_|refine Kbc ?_|refine Kbd ?_|refine Kbi ?_|refine WS.tK ?_|refine WS.DY ?_|refine WS.K8 (by with_unfolding_all rfl) ?_|refine WS.GJ (by with_unfolding_all rfl) ?_|refine pQ.mk (by with_unfolding_all rfl) ?_
   |refine Kag ?_|refine Kah ?_|refine W.eC ?_|refine W.eV (by with_unfolding_all rfl) ?_|refine KaD ?_|refine Kav ?_|refine KaF ?_|refine KaA ?_|refine KaB ?_|refine Kau ?_|refine KaC ?_|refine Kaz ?_|refine W.gQ ?_|refine W.sS ?_|refine W.push ?_|refine KaE ?_|refine Kax ?_|refine KaN ?_|refine KaO ?_|refine KaJ ?_|refine KaI ?_|refine KaK ?_|refine KaH ?_|refine Kai ?_|refine Kaj ?_|refine W.tK ?_|refine W.DY ?_|refine W.K8 (by with_unfolding_all rfl) ?_|refine W.GJ (by with_unfolding_all rfl) ?_
   |refine KaX ?_|refine KaY ?_|refine Ul ?_|refine KaW (by with_unfolding_all rfl) ?_|refine KaW zex ?_|refine Um ?_|refine Kar ?_|refine W.dat ?_|refine W.bool ?_|refine W.int ?_|refine W.cW (by with_unfolding_all rfl) ?_|refine W.cW zex ?_|refine O6 ?_|refine Ka0 ?_|refine KaG ?_|refine W.jD ?_|refine W.wW ?_|refine KaZ ?_|refine KaM ?_|refine KaL ?_
   |refine bQ (by first|(with_unfolding_all rfl)|exact znC (by first|(left;constructor<;>lia)|(right;constructor<;>lia))|exact zoe (by lia)|exact zlf (by lia)|exact zh3 (by lia)|exact zod (by decide)) ?_|refine zE (by with_unfolding_all rfl) ?_
   |refine W.ret ?_|refine W.bd ?_
   | (dsimp only))
 all_goals exact k.o):P:=h ⟨k⟩
def lx(p q:Int×Int):Prop:=p.1<q.1\/p.1=q.1/\p.2<q.2
noncomputable def bx(n:Int)(ps:List (Int×Int)):D:=.tup [.int n,.tup (ps.map bI)]
structure Web(n:Int)(ps:List (Int×Int)):Prop where
 h1:1<=n
 h8:n<=8
 tie:∀p∈ps,0<=p.1/\p.1<p.2/\p.2<n
 inc:ps.Pairwise lx
 len:(ps.length:Int)<=7*n
theorem ziN(p q:Int×Int):dD (k+1) (bI p) (bI q)=some (decide (p=q)):=by
 show fj (dD k) [.int p.1,.int p.2] [.int q.1,.int q.2]=_;have hi:∀a b:Int,dD k (.int a) (.int b)=some (a==b):=by intro a b;cases k<;>rfl
 simp only[fj,hi];obtain⟨a,b⟩:=p;obtain⟨c,d⟩:=q;by_cases h1:a=c
 ·by_cases h2:b=d
  ·simp[h1,h2]
  ·simp[h1,h2]
 ·simp[h1]
theorem zmM(p:Int×Int)(ps:List (Int×Int)):memD (bI p) (ps.map bI)=some (decide (p∈ps)):=by
 induction ps with
 |nil=>rfl
 |cons q r ih=>
  simp only[jL,memD,ih,ziN]
  congr 1
  rw[<-Bool.decide_or];apply tY.mpr;rw[dh]
  constructor
  ·rintro(h|h)
   ·exact .inl h.symm
   ·exact .inr h
  ·rintro(h|h)
   ·exact .inl h.symm
   ·exact .inr h
theorem GQ{f:Bool->Bool}{p:Int×Int}{ps:List (Int×Int)}:Ag f [bI p,.tup (ps.map bI)]=some (.dat (.bl (f (decide (p∈ps))))):=by
 show Option.map _ (memD (bI p) (ps.map bI))=_;rw[zmM];rfl
theorem Ut(xs:List D):cut xs (some 1) none=xs.drop 1:=by
 unfold cut;rw[HT.oF];rw[show (some 1:Option Int)=some ((1:Nat):Int) from rfl,HT.qR];cases xs with
 |nil=>rfl
 |cons x r=>simp
theorem zms{p:Int×Int}:¬lx p p:=by rintro(h|⟨_,h⟩)<;>lia
theorem zhG{ps:List (Int×Int)}(h:ps.Pairwise lx):ps.Nodup:=h.imp λ{p q} h e=>by subst e;exact zms h
theorem zg7(h:yL xs=some ys):prim .sorted [.fl xs]=some (.nw ys):=by
 show Option.map Rz.nw (yL xs)=_;rw[h];rfl
theorem Uu:∀{es:List Int} {a n:Int},es.Pairwise (·<·)->(∀e∈es,a<=e/\e<n)->a<=n->(es.length:Int)<=n-a
 |[],a,n,_,_,h=>by simp;lia
 |e::r,a,n,h,hb,ha=>by
  obtain⟨h1,h2⟩:=Bv.mp h;have he:=hb e (by simp);have:=Uu (es:=r) (a:=e+1) (n:=n) h2 (λx hx=>⟨by have:=h1 x hx;lia,(hb x (by simp[hx])).2⟩) (by lia);rw[iC]
  lia
theorem Uv{a b:Int}{i:Nat}{x:D}(h:(jT a b)[i]?=some x):x=.int (a+i)/\a+i<b:=by
 unfold jT at h;rw[i_] at h;cases e:(List.range (b-a).toNat)[i]? with
 |none=>rw[e] at h;cases h
 |some j=>
  rw[e] at h;cases h;obtain⟨hl,rfl⟩:=jy.mp e;rw[FJ] at hl;rw[List.getElem_range];exact⟨rfl,by lia⟩
theorem Le:(jT a b).length=(b-a).toNat:=by unfold jT;simp
theorem rJ(h1 : -1000<=a)(h2:a<=1000):gC a=true:=by
 unfold gC;rw[cP (by lia),cP (by lia)];rfl
theorem zF(hl:locs xs=[s.length])(h:W (F (dY 0 xs)) [o] λv s1=>∃d o',v=.d d/\s1=[o']/\P (.d d) (s++[o'])):W (cR F xs) (s++[o]) P:=by
 refine Kal (n:=s.length) (o:=o) hl (by simp) (h.imp λv s1=>?_);rintro⟨d,o',rfl,rfl,hp⟩;exact⟨d,o',rfl,rfl,by rw[show (s++[o]).set s.length o'=s++[o'] by simp];exact hp⟩
theorem zky{ns:List Int}{lo hi:Option Int}{x:D}(h:x∈cut (ns.map D.int) lo hi):∃n,x=.int n:=by
 have:=List.mem_of_mem_drop (List.mem_of_mem_take h);obtain⟨n,_,rfl⟩:=fX.mp this;exact⟨n,rfl⟩
theorem zji{ns:List Int}{lo hi:Option Int}:(cut (ns.map D.int) lo hi).length<=ns.length:=by
 unfold cut;rw[xT,Hw,bN]
 lia
theorem zdi{α:Type}[DecidableEq α]:∀{l m:List α},l.Nodup->(∀x∈l,x∈m)->l.length<=m.length
 |[],m,_,_=>p8 _
 |x::r,m,h,hm=>by
  obtain⟨h1,h2⟩:=rY.mp h;have hx:x∈m:=hm x (by simp);have:=zdi (l:=r) (m:=m.erase x) h2 λy hy=>(List.mem_erase_of_ne (λe=>by subst e;exact h1 hy)).mpr (hm y (by simp[hy]));rw[List.length_erase_of_mem hx] at this;have:=List.length_pos_of_mem hx;rw[iC]
  lia
section
variable {ao:Nat->Nat->Bool}{F:Fn}{J:Vs}{s:S}{P:Xv->S->Prop}
end
theorem zcy(fs:List Int):eG (fs.map D.int)=some fs:=by
 induction fs with
 |nil=>rfl
 |cons a r ih=>
  show Option.map _ (eG (r.map D.int))=_;rw[ih];rfl
noncomputable def at'(fs:List Int)(j:Int):Int:=fs.getD j.toNat 0
theorem Uw{fs:List Int}{j:Int}(h0:0<=j)(h:j<fs.length):∃(i:Nat) (hi:i<fs.length),j=i/\at' fs j=fs[i]:=by
 obtain⟨i,rfl⟩:=Hg h0;have hi:i<fs.length:=by lia
 refine⟨i,hi,rfl,?_⟩;unfold at';rw[wI,kj,fL hi];rfl
theorem zos{fs:List Int}{j:Int}(h0:0<=j)(h:j<fs.length):(fs.map D.int)[j.toNat]?=some (.int (at' fs j)):=by
 obtain⟨i,hi,rfl,e⟩:=Uw h0 h;rw[e,wI,i_,fL hi];rfl
theorem zjW:at' (fs++[x]) fs.length=x:=by
 unfold at';rw[wI,kj,pH (cH _)];simp
theorem Ux(h0:0<=j)(h:xs[j.toNat]?=some x):prim .ix [.fl xs,.int j]=some (.dat x):=by
 obtain⟨k,rfl⟩:=Hg h0;exact Bd h
theorem znv(h0:0<=j)(h:j<fs.length):prim .ix [.fl (fs.map .int),.int j]=some (.dat (.int (at' fs j))):=Ux h0 (zos h0 h)
theorem wg(h0:0<=j)(h:j<fs.length):prim .ix [.tup (fs.map .int),.int j]=some (.dat (.int (at' fs j))):=Ux h0 (zos h0 h)
theorem Uy:L2.uf (n+1) (-1)=some n:=by
 unfold L2.uf;simp
 lia
theorem Ef:prim .ix [.fl (xs++[x]),.int (-1)]=some (.dat x):=by
 show Option.map Rz.dat (L2.qT (xs++[x]) (-1))=_;have:L2.qT (xs++[x]) (-1)=some x:=by
  unfold L2.qT;rw[cY];show (L2.uf (xs.length+1) (-1)).bind _=_;rw[Uy];simp
 rw[this];rfl
noncomputable def fH(k a b:Int):Int:=if k-(if a-b<0 then -(a-b) else a-b)<(if a-b<0 then -(a-b) else a-b) then k-(if a-b<0 then -(a-b) else a-b) else (if a-b<0 then -(a-b) else a-b)
theorem zjm(j:Int)(ls:List Int):memD (.int j) (ls.map .int)=some (decide (j∈ls)):=by
 induction ls with
 |nil=>rfl
 |cons q r ih=>
  have hi:dD 50 (.int q) (.int j)=some (q==j):=rfl;simp only[jL,memD,ih,hi]
  congr 1
  by_cases h:q=j
  ·subst h;simp
  ·have h2:¬j=q:=λe=>h e.symm;simp[h,h2]
structure tM(n k d:Int)(ps:List (Int×Int))(hs:List Int):Prop where
 len:(hs.length:Int)=n
 lo:∀x∈hs,0<=x/\x<k
 fit:∀p∈ps,d<=fH k (at' hs p.1) (at' hs p.2)
section
variable {ao:Nat->Nat->Bool}{aj:Bool}{F:Bool->Fn}{J:Vs}{s:S}{Q:Out->S->Prop}
theorem WS.wh(I:Nat->Vs->S->Prop)(hm:m<oV)(h0:I m J s)
  (step:∀m J s,I m J s->W (ev ao aj (F aj) c J) s λx s1=>W (Mi.bool x) s1 λk s2=>(k=true->WS (exs ao aj F b J) s2 λo s3=>(∃J' m',o=.nx J'/\m'<m/\I m' J' s3)\/(∃x,o=.rt x/\Q (.rt x) s3))/\(k=false->Q (.nx J) s2)):WS (ex ao aj F (.wh c b) J) s Q:=by
 have key:∀n m J s,m<n->I m J s->WS (h_ (λJ=>M.bd (ev ao aj (F aj) c J) Mi.bool) (λJ=>exs ao aj F b J) n J) s Q:=by
  intro n
  induction n with
  |zero=>intro m J s h;exact absurd h (Nat.not_lt_zero _)
  |succ n ih=>
   intro m J s hmn hI;obtain⟨x,s1,e1,k,s2,e2,hk⟩:=step m J s hI;unfold h_;refine WS.ofM (W.bd ⟨x,s1,e1,k,s2,e2,?_⟩);cases k with
   |false=>exact⟨_,s2,by rw[if_neg (by decide)],hk.2 rfl⟩
   |true=>
    obtain⟨o,s3,e3,hr⟩:=hk.1 rfl;rcases hr with ⟨J',m',rfl,Ae,DX⟩|⟨x,rfl,hq⟩
    ·obtain⟨o2,s4,e4,q⟩:=ih m' J' s3 (by lia) DX;exact⟨o2,s4,by rw[if_pos rfl,e3];exact e4,q⟩
    ·exact⟨_,s3,by rw[if_pos rfl,e3],hq⟩
 exact key oV m J s hm h0
end
section
variable {ao:Nat->Nat->Bool}{aj:Bool}{F:Fn}{J:Vs}{s:S}{P:Xv->S->Prop}
theorem W.pop(h:W (ev ao aj F o J) s λv s1=>v=.l n/\s1[n]?=some (.lst (xs++[x]))/\P (.d x) (s1.set n (.lst xs))):W (ev ao aj F (.pop o) J) s P:=by
 refine W.bd (h.imp λv s1 h=>?_);obtain⟨rfl,e,h⟩:=h;refine W.bd (W.cW e ?_);have e1:(xs++[x]).getLast?=some x:=by simp
 have e2:(xs++[x]).dropLast=xs:=by simp
 simp only[e1,e2];exact W.bd (O6 (W.ret h))
end
noncomputable def val(B:Nat):List Int->Nat->Nat
 |[],_=>0
 |x::r,n=>x.toNat*B^(n-1)+val B r (n-1)
theorem Eh(B:Nat):∀(r t:List Int) (n:Nat),val B (r++t) n=val B r n+val B t (n-r.length)
 |[],t,n=>by simp[val]
 |x::r,t,n=>by
  simp only[List.cons_append,val,Eh B r t (n-1),iC];rw[show n-1-r.length=n-(r.length+1) by lia]
  lia
theorem Uz{B:Nat}(hB:0<B):∀{r:List Int} {n:Nat},(∀z∈r,z<B)->r.length<=n->val B r n+B^(n-r.length)<=B^n
 |[],n,_,_=>by simp[val]
 |x::r,n,h,hl=>by
  rw[iC] at hl;have ih:=Uz hB (r:=r) (n:=n-1) (λz hz=>h z (by simp[hz])) (by lia);have hx:x.toNat+1<=B:=by have:=h x (by simp);lia
  simp only[val,iC];rw[show n-(r.length+1)=n-1-r.length by lia];have h2:B^n=B*B^(n-1):=by
   conv=>lhs;rw[show n=n-1+1 by lia]
   rw[Nat.pow_succ,Nat.mul_comm]
  rw[h2];have h3:=Nat.mul_le_mul_right (B^(n-1)) hx;rw[HW] at h3
  lia
noncomputable def left'(B n:Nat)(r:List Int):Nat:=(n+1)*(B^n-val B r n)+(n-r.length)
theorem zf2(h:r.length<n):left' B n (r++[0])<left' B n r:=by
 unfold left';rw[Eh];simp[val]
 lia
theorem zgP{B n a b la lb:Nat}(h:a<b)(hb:b<=B^n)(hl:la<=n)(sO:lb<=n):(n+1)*(B^n-b)+(n-lb)<(n+1)*(B^n-a)+(n-la):=by
 have:B^n-b+1<=B^n-a:=by lia
 have:=Qz (n+1) this;rw[Nat.mul_add] at this
 lia
theorem zhN{B n:Nat}{r:List Int}{x:Int}(h0:0<=x)(hx:x+1<B)(hr:∀z∈r,z<B)(h:r.length<n):left' B n (r++[x+1])<left' B n (r++[x]):=by
 have h1:=Uz (B:=B) (by lia) (r:=r++[x+1]) (n:=n) (λz hz=>by
  rcases fO.mp hz with hz|hz
  ·exact hr z hz
  ·have:z=x+1:=by simpa using hz
   lia) (by rw[cY];simp;lia)
 unfold left';refine zgP ?_ (by lia) (by simp;lia) (by simp;lia);rw[Eh,Eh];simp only[val];rw[show (x+1).toNat=x.toNat+1 by lia,HW];have:0<B^(n-r.length-1):=Nat.pow_pos (by lia)
 lia
theorem zhU{B n:Nat}{r:List Int}{y x:Int}(h0:0<=y)(hy:y+1<B)(hx0:0<=x)(hx:x<B)(hr:∀z∈r,z<B)(h:r.length+1<n):left' B n (r++[y+1])<left' B n (r++[y]++[x]):=by
 have h1:=Uz (B:=B) (by lia) (r:=r++[y+1]) (n:=n) (λz hz=>by
  rcases fO.mp hz with hz|hz
  ·exact hr z hz
  ·have:z=y+1:=by simpa using hz
   lia) (by rw[cY];simp;lia)
 unfold left';refine zgP ?_ (by lia) (by simp;lia) (by simp;lia);rw[Eh,Eh,Eh];simp only[val,cY];rw[show (y+1).toNat=y.toNat+1 by lia,HW];have e1:B^(n-r.length-1)=B*B^(n-(r.length+[y].length)-1):=by
  conv=>lhs;rw[show n-r.length-1=n-(r.length+[y].length)-1+1 by simp;lia]
  rw[Nat.pow_succ,Nat.mul_comm]
 have h2:x.toNat+1<=B:=by lia
 have h3:=Nat.mul_le_mul_right (B^(n-(r.length+[y].length)-1)) h2;rw[HW] at h3;have:0<B^(n-(r.length+[y].length)-1):=Nat.pow_pos (by lia)
 lia
theorem zjS(xs:List D):dD 50 (.fl xs) (.fl [])=some (decide (xs=[])):=by
 cases xs with
 |nil=>rfl
 |cons x r=>rfl
theorem zit(xs:List D):dD 50 (.tup xs) (.tup [])=some (decide (xs=[])):=by
 cases xs with
 |nil=>rfl
 |cons x r=>rfl
theorem Ej:Af f [.fl xs,.fl []]=some (.dat (.bl (f (decide (xs=[]))))):=by
 show Option.map _ (dD 50 (.fl xs) (.fl []))=_;rw[zjS];rfl
theorem zm0:Af f [.tup xs,.tup []]=some (.dat (.bl (f (decide (xs=[]))))):=by
 show Option.map _ (dD 50 (.tup xs) (.tup []))=_;rw[zit];rfl
theorem zmb{f:Bool->Bool}{j:Int}{ls:List Int}:Ag f [.int j,.fl (ls.map .int)]=some (.dat (.bl (f (decide (j∈ls))))):=by
 show Option.map _ (memD (.int j) (ls.map .int))=_;rw[zjm];rfl
noncomputable def aV(k d:Int):D:=.tup [.int k,.int d]
noncomputable def nM(k d:Int)(ps:List (Int×Int))(hs:List Int):Bool:=ps.all λp=>decide (d<=fH k (at' hs p.1) (at' hs p.2))
theorem iV:nM k d ps hs=true↔∀p∈ps,d<=fH k (at' hs p.1) (at' hs p.2):=by
 unfold nM;rw[fW];exact⟨λh p hp=>gb (h p hp),λh p hp=>cP (h p hp)⟩
section
variable {n k d:Int}{ps:List (Int×Int)}{ls:List Int}
end
section
variable {ao:Nat->Nat->Bool}{F:Fn}{J:Vs}{s:S}{P:Xv->S->Prop}
end
theorem wj{α:Type}{l:List α}{f:α->D}:l.filterMap (λx=>some (f x))=l.map f:=by
 rw[<-List.filterMap_eq_map];rfl
theorem zn5{α:Type}{l:List α}{f:α->D}{q:α->Prop}[DecidablePred q]:l.filterMap (λx=>if q x then some (f x) else none)=(l.filter λx=>decide (q x)).map f:=by
 induction l with
 |nil=>rfl
 |cons x r ih=>
  rw[xP,Hy];by_cases e:q x
  ·simp[e,ih]
  ·simp[e,ih]
theorem Ka6(I:Nat->Vs->S->Prop)(h0:I 0 J s)(hb:∀i x J s,c[i]?=some x->I i J s->WS (b x J) s λo s'=>(∃J',o=.nx J'/\I (i+1) J' s')\/(∃x,o=.rt x/\Q (.rt x) s'))
  (he:∀J s,I c.length J s->Q (.nx J) s):WS (eN (.fix c) b (c.length+1) 0 J) s Q:=by
 have key:∀n i J s,i+n=c.length->I i J s->WS (eN (.fix c) b (n+1) i J) s Q:=by
  intro n
  induction n with
  |zero=>
   intro i J s hi hI;have e:c[i]?=none:=by rw[qI];lia
   have:i=c.length:=by lia
   subst this;refine⟨_,s,?_,he J s hI⟩;unfold eN;simp only[Src.at,e]
  |succ n ih=>
   intro i J s hi hI;have hlt:i<c.length:=by lia
   have e:c[i]?=some c[i]:=fL hlt;obtain⟨o,s',eb,hr⟩:=hb i c[i] J s e hI;rcases hr with ⟨J',rfl,DX⟩|⟨x,rfl,hq⟩
   ·obtain⟨o2,s2,e2,q⟩:=ih (i+1) J' s' (by lia) DX;refine⟨o2,s2,?_,q⟩;unfold eN;simp only[Src.at,e,eb];exact e2
   ·refine⟨_,s',?_,hq⟩;unfold eN;simp only[Src.at,e,eb]
 exact key c.length 0 J s (by lia) h0
theorem ziQ{hs:List Int}{f:Int->Int}{j:Int}(h0:0<=j)(h:j<hs.length):at' (hs.map f) j=f (at' hs j):=by
 obtain⟨i,hi,rfl,e⟩:=Uw h0 h;rw[e];unfold at';rw[wI,kj,i_,fL hi];rfl
theorem Lf{xs:List D}{i:Nat}(h:i<=xs.length):cut xs none (some (i:Int))=xs.take i:=by
 unfold cut;rw[HT.oF,HT.qR,Nat.min_eq_left h];simp
theorem tO(h:xs.length+ys.length<=sizeLine):prim .add [.tup xs,.tup ys]=some (.dat (.tup (xs++ys))):=by
 show (if _ then _ else _)=_;rw[if_pos h]
noncomputable def iW:D->Bool
 |.exc _ _=>false
 |.ob _ _=>false
 |_=>true
noncomputable def UG:D->Bool
 |.int _=>true
 |_=>false
noncomputable def eU:D->Bool
 |.tup xs=>xs.all iW
 |d=>iW d
theorem zgm{α:Type}(l:List α)(f:α->Bool):gW (l.map λx=>D.bl (f x))=some (l.map f):=by
 induction l with
 |nil=>rfl
 |cons x r ih=>
  show Option.map _ (gW (r.map λx=>D.bl (f x)))=_;rw[ih];rfl
theorem GR{α:Type}{l:List α}{f:α->Bool}:prim .all [.fl (l.map λx=>D.bl (f x))]=some (.dat (.bl (l.all f))):=by
 show Option.map _ (gW (l.map λx=>D.bl (f x)))=_;rw[zgm];show some (Rz.dat (.bl ((l.map f).all id)))=_;rw[FT];rfl
theorem GX(h:x∈cut xs lo hi):x∈xs:=List.mem_of_mem_drop (List.mem_of_mem_take h)
theorem GZ:(cut xs lo hi).length<=xs.length:=by
 unfold cut;rw[xT,Hw]
 lia
section
variable {n m:Int}{ps:List (Int×Int)}
end
end Mi
namespace Mi
open PySem PySem.W PyProof.Rows L2
structure Ord(n:Nat)(lt:Nat->Nat->Option Bool)(le:Nat->Nat->Prop):Prop where
 ans:∀i j,i<n->j<n->(lt i j=some true/\le i j)\/(lt i j=some false/\le j i)
 tr:∀i j k,i<n->j<n->k<n->le i j->le j k->le i k
section
variable {lt:Nat->Nat->Option Bool}{le:Nat->Nat->Prop}{n:Nat}
theorem Ord.rfl'(o:Ord n lt le)(hi:i<n):le i i:=by
 rcases o.ans i i hi hi with ⟨_,e⟩|⟨_,e⟩<;>exact e
def gF(le:Nat->Nat->Prop)(p:Array Nat)(r:Nat):Prop:=∀a b,a<b->b<r->le (p.getD a 0) (p.getD b 0)
def xq(le:Nat->Nat->Prop)(p:Array Nat)(r:Nat):Prop:=∀a b,a<b->b<r->le (p.getD b 0) (p.getD a 0)
def Lg(le:Nat->Nat->Prop)(p:Array Nat)(l r:Nat):Prop:=∀a b,l<=a->a<r->l<=b->b<r->le (p.getD a 0) (p.getD b 0)
theorem getD_get?{p q:Array Nat}{i j:Nat}(h:p[i]?=q[j]?):p.getD i 0=q.getD j 0:=by
 have e:∀(x:Array Nat) (k:Nat),x.getD k 0=(x[k]?).getD 0:=by
  intro x k;unfold Array.getD
  split
  ·rename_i h;rw[Hf h];rfl
  ·rename_i h;rw[Array.getElem?_eq_none (by lia)];rfl
 rw[e,e,h]
theorem cQ.size{p:Array Nat}(h:cQ n p):p.size=n:=by have:=h.size_eq;simpa using this
theorem xr{p:Array Nat}{i j k:Nat}(hj:j<=p.size):(kas_rev p i j).getD k 0=if i<=k/\k<j then p.getD (i+j-1-k) 0 else p.getD k 0:=by
 have:=getElem?_mirror_all (xs:=p) (i:=i) hj k;unfold kas_rev
 split
 ·rename_i h;rw[if_pos h] at this;exact getD_get? this
 ·rename_i h;rw[if_neg h] at this;exact getD_get? this
theorem ze2{p:Array Nat}{src d k:Nat}(hs:src<p.size)(hd:d<=src):(bubble p src d).getD k 0=if k=src-d then p.getD src 0 else if src-d<k/\k<=src then p.getD (k-1) 0 else p.getD k 0:=by
 have:=getElem?_bubble hs d hd k;by_cases h:k=src-d
 ·rw[if_pos h] at this ⊢;exact getD_get? this
 ·rw[if_neg h] at this ⊢;by_cases h2:src-d<k/\k<=src
  ·rw[if_pos h2] at this ⊢;exact getD_get? this
  ·rw[if_neg h2] at this ⊢;exact getD_get? this
variable (o:Ord n lt le)(hn:0<n)
include o hn
theorem wk(hi:i<n)(hj:j<n)(h1:le i j->j8 lt (k true) P)(h2:le j i->j8 lt (k false) P):j8 lt (.ask i j k) P:=by
 rcases o.ans i j hi hj with ⟨e,hl⟩|⟨e,hl⟩
 ·obtain⟨a,e1,q⟩:=h1 hl;exact⟨a,by unfold aZ;rw[e];exact e1,q⟩
 ·obtain⟨a,e1,q⟩:=h2 hl;exact⟨a,by unfold aZ;rw[e];exact e1,q⟩
theorem zid(hp:cQ n p)(hk:1<=k)(h:gF le p k)(hl:le (p.getD (k-1) 0) (p.getD k 0)):gF le p (k+1):=λa b rK hb=>by
 by_cases e:b=k
 ·subst e;by_cases e2:a=b-1
  ·subst e2;exact hl
  ·exact o.tr _ _ _ (hp.lt hn _) (hp.lt hn _) (hp.lt hn _) (h a (b-1) (by lia) (by lia)) hl
 ·exact h a b rK (by lia)
theorem Lh(hp:cQ n p)(hk:1<=k)(h:xq le p k)(hl:le (p.getD k 0) (p.getD (k-1) 0)):xq le p (k+1):=λa b rK hb=>by
 by_cases e:b=k
 ·subst e;by_cases e2:a=b-1
  ·subst e2;exact hl
  ·exact o.tr _ _ _ (hp.lt hn _) (hp.lt hn _) (hp.lt hn _) hl (h a (b-1) (by lia) (by lia))
 ·exact h a b rK (by lia)
theorem UJ(hp:cQ n p):∀f k,1<=k->k+f<=n->gF le p k->j8 lt (kas_asc p f k) λr=>k<=r/\r<=k+f/\gF le p r/\(r<k+f->le (p.getD r 0) (p.getD (r-1) 0))
 |0,k,_,_,h=>.ret ⟨cH _,by lia,h,λz=>by lia⟩
 |f+1,k,hk,hkf,h=>wk o hn (hp.lt hn _) (hp.lt hn _) (λhl=>.ret ⟨cH _,by lia,h,λ_=>hl⟩) λhl=>by
  obtain⟨r,e,h1,h2,h3,h4⟩:=UJ hp f (k+1) (by lia) (by lia) (zid o hn hp hk h hl);exact⟨r,e,by lia,by lia,h3,λz=>h4 (by lia)⟩
theorem zgt(hp:cQ n p)(hk:k<=n)(h:xq le p k)(ha:Lg le p l k):xq le (kas_rev p l k) k:=λa b rK hb=>by
 have hs:=hp.size;rw[xr (by lia),xr (by lia)];by_cases ca:l<=a/\a<k
 ·rw[if_pos ca,if_pos (by lia)];exact ha _ _ (by lia) (by lia) (by lia) (by lia)
 ·rw[if_neg ca];by_cases cb:l<=b/\b<k
  ·rw[if_pos cb];exact h a _ (by lia) (by lia)
  ·rw[if_neg cb];exact h a b rK hb
theorem O8:∀f {p:Array Nat} k q,cQ n p->1<=k->k+f<=n->q+1<=k->xq le p k->Lg le p (k-(q+1)) k->j8 lt (kas_desc f p k q) λr=>cQ n r.1/\k<=r.2.1/\r.2.1<=k+f/\r.2.2+1<=r.2.1/\xq le r.1 r.2.1/\Lg le r.1 (r.2.1-(r.2.2+1)) r.2.1
 |0,p,k,q,hp,_,_,hq,h,ha=>.ret ⟨hp,cH _,by dsimp only;lia,hq,h,ha⟩
 |f+1,p,k,q,hp,hk,hkf,hq,h,ha=>wk o hn (hp.lt hn _) (hp.lt hn _) (λhl=>by
   show j8 lt (if q>0 then _ else _) _;have hs:=hp.size;have one:∀{x:Array Nat},cQ n x->Lg le x (k+1-(0+1)) (k+1):=λ{x} hx a b h1 h2 h3 h4=>by
    have:a=k:=by lia
    have:b=k:=by lia
    subst a;subst b;exact o.rfl' (hx.lt hn _)
   split
   ·have hp':=hp.rev (k-(q+1)) k;have h':xq le (kas_rev p (k-(q+1)) k) (k+1):=Lh o hn hp' hk (zgt o hn hp (by lia) h ha) (by
     rw[xr (by lia),xr (by lia),if_neg (by lia),if_pos (by lia)];refine o.tr _ _ _ (hp.lt hn _) (hp.lt hn _) (hp.lt hn _) hl (ha _ _ (by lia) (by lia) (by lia) (by lia)))
    obtain⟨r,e,w⟩:=O8 f (k+1) 0 hp' (by lia) (by lia) (by lia) h' (one hp');exact⟨r,e,w.1,by lia,by lia,w.2.2.2⟩
   ·obtain⟨r,e,w⟩:=O8 f (k+1) 0 hp (by lia) (by lia) (by lia) (Lh o hn hp hk h hl) (one hp);exact⟨r,e,w.1,by lia,by lia,w.2.2.2⟩) λhl=>wk o hn (hp.lt hn _) (hp.lt hn _) (λ_=>.ret ⟨hp,cH _,by dsimp only;lia,hq,h,ha⟩) λsO=>by
   have hA:Lg le p (k+1-(q+1+1)) (k+1):=λa b h1 h2 h3 h4=>by
    have key:∀c,k-(q+1)<=c->c<k->le (p.getD c 0) (p.getD k 0)/\le (p.getD k 0) (p.getD c 0):=λc c1 c2=>
     ⟨o.tr _ _ _ (hp.lt hn _) (hp.lt hn _) (hp.lt hn _) (ha c (k-1) c1 c2 (by lia) (by lia)) hl,o.tr _ _ _ (hp.lt hn _) (hp.lt hn _) (hp.lt hn _) sO (ha (k-1) c (by lia) (by lia) c1 c2)⟩
    by_cases ea:a=k
    ·by_cases eb:b=k
     ·subst a;subst b;exact o.rfl' (hp.lt hn _)
     ·subst a;exact(key b (by lia) (by lia)).2
    ·by_cases eb:b=k
     ·subst b;exact(key a (by lia) (by lia)).1
     ·exact ha a b (by lia) (by lia) (by lia) (by lia)
   obtain⟨r,e,w⟩:=O8 f (k+1) (q+1) hp (by lia) (by lia) (by lia) (Lh o hn hp hk h sO) hA;exact⟨r,e,w.1,by lia,by lia,w.2.2.2⟩
theorem zjA(hp:cQ n p)(hk:k<=n)(h:xq le p k):gF le (kas_rev p 0 k) k:=λa b rK hb=>by
 have hs:=hp.size;rw[xr (by lia),xr (by lia),if_pos (by lia),if_pos (by lia)];exact h _ _ (by lia) (by lia)
theorem zht(hp:cQ n p)(hk:1<=k)(Li:k<=n)(h:xq le p k):j8 lt (kas_tail3 k n p) λr=>cQ n r.2/\1<=r.1/\r.1<=n/\gF le r.2 r.1:=by
 refine j8.bind (λc hc=>?_) (UJ o hn (hp.rev 0 k) (n-k) k hk (by lia) (zjA o hn hp Li h));exact⟨_,rfl,hp.rev 0 k,by dsimp only;lia,by dsimp only;lia,hc.2.2.1⟩
theorem zcH(hp:cQ n p)(hk:1<=k)(Li:k<n)(h:xq le p (k+1)):j8 lt (kas_descPart k n p) λr=>cQ n r.2/\1<=r.1/\r.1<=n/\gF le r.2 r.1:=by
 refine j8.bind (λr hr=>?_) (O8 o hn (n-(k+1)) (k+1) 0 hp (by lia) (by lia) (by lia) h (λa b h1 h2 h3 h4=>by
  have:a=k:=by lia
  have:b=k:=by lia
  subst a;subst b;exact o.rfl' (hp.lt hn _)))
 obtain⟨w1,w2,w3,w4,w5,w6⟩:=hr
 split
 ·exact zht o hn (w1.rev _ _) (by lia) (by lia) (zgt o hn w1 (by lia) w5 w6)
 ·exact zht o hn w1 (by lia) (by lia) w5
theorem zkg(hp:cQ n p):j8 lt (kas_count n p) λr=>cQ n r.2/\1<=r.1/\r.1<=n/\gF le r.2 r.1:=by
 refine j8.bind (λk hk=>?_) (UJ o hn hp (n-1) 1 (cH _) (by lia) (λa b h1 h2=>by lia));obtain⟨k1,k2,k3,k4⟩:=hk;have hs:=hp.size;by_cases e:(k==n)=true
 ·rw[if_pos e];exact .ret ⟨hp,k1,by dsimp only;lia,k3⟩
 ·rw[if_neg e];have Li:k<n:=by
   have:k≠n:=by simpa using e
   lia
  have hl:=k4 (by lia)
  split
  ·refine wk o hn (hp.lt hn _) (hp.lt hn _) (λ_=>.ret ⟨hp,k1,by dsimp only;lia,k3⟩) λhz=>?_;have alk:∀a b,a<k->b<k->le (p.getD a 0) (p.getD b 0):=λa b ha hb=>by
    have h1:le (p.getD a 0) (p.getD (k-1) 0):=by
     by_cases q:a=k-1
     ·subst q;exact o.rfl' (hp.lt hn _)
     ·exact k3 a (k-1) (by lia) (by lia)
    have h2:le (p.getD 0 0) (p.getD b 0):=by
     by_cases q:b=0
     ·subst q;exact o.rfl' (hp.lt hn _)
     ·exact k3 0 b (by lia) (by lia)
    exact o.tr _ _ _ (hp.lt hn _) (hp.lt hn _) (hp.lt hn _) (o.tr _ _ _ (hp.lt hn _) (hp.lt hn _) (hp.lt hn _) h1 hz) h2
   refine zcH o hn (hp.rev 0 k) k1 Li (Lh o hn (hp.rev 0 k) k1 (λa b h1 h2=>?_) ?_)
   ·rw[xr (by lia),xr (by lia),if_pos (by lia),if_pos (by lia)];exact alk _ _ (by lia) (by lia)
   ·rw[xr (by lia),xr (by lia),if_neg (by lia),if_pos (by lia)];exact o.tr _ _ _ (hp.lt hn _) (hp.lt hn _) (hp.lt hn _) hl (alk _ _ (by lia) (by lia))
  ·have:k=1:=by lia
   subst this;refine zcH o hn hp (cH _) Li (Lh o hn hp (cH _) (λa b h1 h2=>by lia) hl)
theorem UL(hp:cQ n p)(h:gF le p k):∀f l r,l<=r->r<=k->r-l<=f->(∀a,a<l->le (p.getD a 0) (p.getD k 0))->(∀a,r<=a->a<k->le (p.getD k 0) (p.getD a 0))->j8 lt (kas_place p k f l r) λi=>i<=k/\(∀a,a<i->le (p.getD a 0) (p.getD k 0))/\(∀a,i<=a->a<k->le (p.getD k 0) (p.getD a 0))
 |0,l,r,h1,h2,h3,h4,h5=>.ret ⟨by lia,h4,λa z=>h5 a (by lia)⟩
 |f+1,l,r,h1,h2,h3,h4,h5=>by
  unfold kas_place;by_cases e:l>=r
  ·rw[if_pos e];exact .ret ⟨by lia,h4,λa z=>h5 a (by lia)⟩
  ·rw[if_neg e];refine wk o hn (hp.lt hn _) (hp.lt hn _) (λhl=>?_) λhl=>?_
   ·refine UL hp h f l ((l+r)/2) (by lia) (by lia) (by lia) h4 λa z1 z2=>?_;by_cases q:a=(l+r)/2
    ·subst q;exact hl
    ·exact o.tr _ _ _ (hp.lt hn _) (hp.lt hn _) (hp.lt hn _) hl (h _ a (by lia) z2)
   ·refine UL hp h f ((l+r)/2+1) r (by lia) h2 (by lia) (λa z=>?_) h5;by_cases q:a=(l+r)/2
    ·subst q;exact hl
    ·exact o.tr _ _ _ (hp.lt hn _) (hp.lt hn _) (hp.lt hn _) (h a _ (by lia) (by lia)) hl
theorem zl9:∀f {p:Array Nat} k,cQ n p->k+f=n->gF le p k->j8 lt (kas_bin f p k) λr=>cQ n r/\gF le r n
 |0,p,k,hp,hk,h=>.ret ⟨hp,(show k=n by lia)▸h⟩
 |f+1,p,k,hp,hk,h=>j8.bind (λl hl=>by
   obtain⟨l1,l2,l3⟩:=hl;have hs:=hp.size;refine zl9 f (k+1) (hp.bub _ _) (by lia) λa b rK hb=>?_;rw[ze2 (by lia) (by lia),ze2 (by lia) (by lia),show k-(k-l)=l by lia];by_cases ea:a=l
   ·rw[if_pos ea,if_neg (by lia),if_pos (by lia)];exact l3 (b-1) (by lia) (by lia)
   ·rw[if_neg ea];by_cases ca:l<a/\a<=k
    ·rw[if_pos ca,if_neg (by lia),if_pos (by lia)];exact h _ _ (by lia) (by lia)
    ·rw[if_neg ca];by_cases eb:b=l
     ·rw[if_pos eb];exact l2 a (by lia)
     ·rw[if_neg eb];by_cases cb:l<b/\b<=k
      ·rw[if_pos cb];by_cases q:a=b-1
       ·lia
       ·exact h _ _ (by lia) (by lia)
      ·rw[if_neg cb];exact h _ _ rK (by lia)) (UL o hn hp h k 0 k (by lia) (cH _) (by lia) (λa z=>by lia) (λa z1 z2=>by lia))
theorem zmc:j8 lt (kas_sort n) λp=>cQ n p/\gF le p n:=by
 refine j8.bind (λr hr=>?_) (zkg o hn (.refl _));obtain⟨w1,w2,w3,w4⟩:=hr
 split
 ·rw[Nat.max_eq_left w2];exact zl9 o hn _ _ w1 (by lia) w4
 ·have:r.1=n:=by lia
  exact .ret ⟨w1,this▸w4⟩
end
end Mi
namespace Ts
open PySem PySem.SetTable
theorem UW{ss:List Nat}{j:Nat}(hs:ss.Pairwise (·<·)):∀(fuel lo hi:Nat),hi-lo<=fuel->lo<=hi->hi<=ss.length->(∀i (h:i<ss.length),i<lo->ss[i]<j)->(∀i (h:i<ss.length),hi<=i->j<=ss[i])->
  below.go ss.toArray j fuel lo hi<=ss.length/\(∀i (h:i<ss.length),i<below.go ss.toArray j fuel lo hi->ss[i]<j)/\(∀i (h:i<ss.length),below.go ss.toArray j fuel lo hi<=i->j<=ss[i])
 |0,lo,hi,hf,h1,h2,h3,h4=>by
  unfold below.go;have:lo=hi:=by lia
  subst this;exact⟨h2,h3,h4⟩
 |fuel+1,lo,hi,hf,h1,h2,h3,h4=>by
  unfold below.go;by_cases hlt:lo<hi
  ·rw[if_pos hlt];have hm:(lo+hi)/2<ss.length:=by lia
   have e:ss.toArray.getD ((lo+hi)/2) j=ss[(lo+hi)/2]:=by simp[hm]
   dsimp only;rw[e];by_cases hc:ss[(lo+hi)/2]<j
   ·rw[if_pos hc];refine UW hs fuel _ _ (by lia) (by lia) h2 (λi h oM=>?_) h4;rcases FW i ((lo+hi)/2) with z|z
    ·have:=tV.mp hs i ((lo+hi)/2) h hm z
     lia
    ·have:i=(lo+hi)/2:=by lia
     subst this;exact hc
   ·rw[if_neg hc];refine UW hs fuel _ _ (by lia) (by lia) (by lia) h3 (λi h oM=>?_);rcases FW ((lo+hi)/2) i with z|z
    ·have:=tV.mp hs ((lo+hi)/2) i hm h z
     lia
    ·have:i=(lo+hi)/2:=by lia
     subst this
     lia
  ·rw[if_neg hlt];have:lo=hi:=by lia
   subst this;exact⟨h2,h3,h4⟩
theorem zfp{ss:List Nat}(hs:ss.Pairwise (·<·))(j:Nat):below ss.toArray j<=ss.length/\(∀x∈ss.take (below ss.toArray j),x<j)/\∀x∈ss.drop (below ss.toArray j),j<=x:=by
 obtain⟨h1,h2,h3⟩:=UW (j:=j) hs ss.length 0 ss.length (by lia) (by lia) (cH _) (λi h hi=>by lia) (λi h hi=>by lia);have e:below ss.toArray j=below.go ss.toArray j ss.length 0 ss.length:=by unfold below;rw[dJ]
 rw[e];refine⟨h1,λx hx=>?_,λx hx=>?_⟩
 ·obtain⟨i,hi,rfl⟩:=zO.mp hx;rw[xT] at hi;rw[List.getElem_take];exact h2 i (by lia) (by lia)
 ·obtain⟨i,hi,rfl⟩:=zO.mp hx;rw[Hw] at hi;rw[List.getElem_drop];exact h3 _ (by lia) (by lia)
noncomputable abbrev Ent:=List (Nat×Nat)
def gF(L:Ent):Prop:=(L.map (·.1)).Pairwise (·<·)
theorem U8{L:Ent}(hs:gF L)(j:Nat):∃La Lb,L=La++Lb/\below (L.map (·.1)).toArray j=La.length/\(∀e∈La,e.1<j)/\∀e∈Lb,j<=e.1:=by
 obtain⟨h1,h2,h3⟩:=zfp hs j;generalize below (L.map (·.1)).toArray j=b at h1 h2 h3;rw[bN] at h1;refine⟨L.take b,L.drop b,(Qt b L).symm,by rw[xT];lia,λe he=>h2 _ ?_,λe he=>h3 _ ?_⟩
 ·rw[<-List.map_take];exact uI he
 ·rw[<-List.map_drop];exact uI he
theorem zmk{La Lb:Ent}{e:Nat×Nat}(h:gF (La++e::Lb)):(∀x∈La,x.1<e.1)/\∀x∈Lb,e.1<x.1:=by
 unfold gF at h;rw[jW,jL,Hq] at h;refine⟨λx hx=>h.2.2 _ (uI hx) _ fV,λx hx=>?_⟩;exact(Bv.mp h.2.1).1 _ (uI hx)
theorem zjv{La Lb:Ent}{e:Nat×Nat}(h:gF (La++Lb))(ha:∀x∈La,x.1<e.1)(hb:∀x∈Lb,e.1<x.1):gF (La++e::Lb):=by
 unfold gF at h ⊢;rw[jW,Hq] at h;rw[jW,jL,Hq];refine⟨h.1,Bv.mpr ⟨λx hx=>?_,h.2.1⟩,λx hx y hy=>?_⟩
 ·obtain⟨z,hz,rfl⟩:=fX.mp hx;exact hb z hz
 ·rcases dh.mp hy with rfl|hy
  ·obtain⟨z,hz,rfl⟩:=fX.mp hx;exact ha z hz
  ·exact h.2.2 x hx y hy
theorem zgO{j:Nat}:has #[] j=false:=by unfold has;rfl
theorem zmp{t:SetTable}{L:Ent}(ht:t.place=(L.map (·.1)).toArray)(hd:t.dummies=#[])(hs:gF L)(j:Nat) :
  (∃La k Lb,L=La++(j,k)::Lb/\t.slot j=.live La.length)\/((∀e∈L,e.1≠j)/\t.slot j=.empty):=by
 obtain⟨La,Lb,e,hb,h1,h2⟩:=U8 hs j;have m7:t.slot j=if (L.map (·.1)).toArray[La.length]?==some j then .live La.length else if has t.dummies j then .dummy else .empty:=by
  unfold slot;rw[ht,hb]
 rw[hd,zgO] at m7;have hg:(L.map (·.1)).toArray[La.length]?=(Lb.map (·.1))[0]?:=by
  rw[Hl,e,jW,pH (by simp)];simp
 rw[hg] at m7;cases Lb with
 |nil=>
  right
  refine⟨λx hx=>?_,by rw[m7];rfl⟩;rw[e,FN] at hx;exact dH (h1 x hx)
 |cons x Lb=>
  by_cases hx:x.1=j
  ·left
   refine⟨La,x.2,Lb,by rw[e,<-hx],?_⟩;rw[m7,if_pos (by simp[hx])]
  ·right
   have hgt:j<x.1:=by have:=h2 x fV;lia
   rw[e] at hs;obtain⟨_,a2⟩:=zmk hs;refine⟨λy hy=>?_,by rw[m7,if_neg (by simp[hx])];rfl⟩;rw[e] at hy;rcases fO.mp hy with hy|hy
   ·exact dH (h1 y hy)
   ·rcases dh.mp hy with rfl|hy
    ·exact hx
    ·have:=a2 y hy;lia
theorem zbo{α:Type}(a b:List α)(x:α):insertAt (a++b).toArray a.length x=(a++x::b).toArray:=by
 unfold insertAt;apply Array.toList_inj.mp;simp
theorem znX{t:SetTable}{L:Ent}(ht:t.place=(L.map (·.1)).toArray)(hd:t.dummies=#[])(hs:gF L){j:Nat}(hj:∀e∈L,e.1≠j)(k:Nat) :
  ∃La Lb,L=La++Lb/\t.put j=({t with place:=((La++(j,k)::Lb).map (·.1)).toArray},La.length)/\gF (La++(j,k)::Lb):=by
 obtain⟨La,Lb,e,hb,h1,h2⟩:=U8 hs j;refine⟨La,Lb,e,?_,?_⟩
 ·unfold put;rw[hd,zgO,ht,hb];dsimp only;have:insertAt (L.map (·.1)).toArray La.length j=((La++(j,k)::Lb).map (·.1)).toArray:=by
   rw[e,jW];have:=zbo (La.map (·.1)) (Lb.map (·.1)) j;rw[bN] at this;rw[this,jW,jL]
  rw[this];simp[hd]
 ·rw[e] at hs;exact zjv hs (λx hx=>h1 x hx) (λx hx=>by
   have:=h2 x hx;have:=hj x (by rw[e];exact pX _ hx);show j<x.1
   lia)
noncomputable def f9(m:Nat)(p:Probe):Probe:=
 if p.more>0 then {p with j:=p.j+1,more:=p.more-1} else {p with j:=(leap m p.i p.perturb).1,more:=runEnd m (leap m p.i p.perturb).1-(leap m p.i p.perturb).1,i:=(leap m p.i p.perturb).1,perturb:=(leap m p.i p.perturb).2}
theorem zfq(t:SetTable)(p:Probe):t.advance p=f9 t.mask p:=rfl
noncomputable def xu(m i pt:Nat):Probe:={j:=i,more:=runEnd m i-i,i,perturb:=pt,dummy:=none}
noncomputable def start(m:Nat)(h:Int):Probe:=xu m (bits h%(m+1)) (bits h)
noncomputable def steps(m:Nat):Nat->Probe->List Nat
 |0,_=>[]
 |n+1,p=>p.j::steps m n (f9 m p)
theorem zgw{m:Nat}{p:Probe}(h:p.dummy=none):(f9 m p).dummy=none:=by unfold f9;split<;>exact h
def Taken(hk:Nat->Int)(L:Ent)(h:Int)(pre:List Nat):Prop:=∀x∈pre,∃e∈L,e.1=x/\hk e.2≠h
def uF(hk:Nat->Int)(L:Ent)(h:Int)(js:List Nat)(j:Nat):Prop:=∃pre post,js=pre++j::post/\Taken hk L h pre
theorem zgk{t:SetTable}{L:Ent}{hk:Nat->Int}{hashAt:Nat->Int}{h:Int}(ht:t.place=(L.map (·.1)).toArray)(hd:t.dummies=#[])(hs:gF L)(hH:∀La e Lb,L=La++e::Lb->hashAt La.length=hk e.2) :
  ∀(fuel:Nat) (p:Probe),p.dummy=none->match probe.go t hashAt h fuel p with
   |none=>∀j∈steps t.mask fuel p,∃e∈L,e.1=j
   |some (.empty j d)=>d=none/\(∀e∈L,e.1≠j)/\uF hk L h (steps t.mask fuel p) j
   |some (.candidate j i next)=>∃La k Lb,L=La++(j,k)::Lb/\i=La.length/\hk k=h
 |0,p,hp=>by unfold probe.go;intro j hj;cases hj
 |fuel+1,p,hp=>by
  unfold probe.go;rcases zmp ht hd hs p.j with ⟨La,k,Lb,e,m7⟩|⟨Rx,m7⟩
  ·rw[m7];dsimp only;have hh:hashAt La.length=hk k:=hH La (p.j,k) Lb e;rw[hh];by_cases hc:hk k=h
   ·rw[if_pos (by simpa using hc)];exact⟨La,k,Lb,e,rfl,hc⟩
   ·rw[if_neg (by simpa using hc),zfq];have ih:=zgk ht hd hs hH (h:=h) fuel (f9 t.mask p) (zgw hp);have Ek:(p.j,k)∈L:=by rw[e];simp
    cases hg:probe.go t hashAt h fuel (f9 t.mask p) with
    |none=>
     rw[hg] at ih;intro j hj;rcases dh.mp (show j∈p.j::steps t.mask fuel (f9 t.mask p) from hj) with rfl|hj
     ·exact⟨_,Ek,rfl⟩
     ·exact ih j hj
    |some met=>
     rw[hg] at ih;cases met with
     |empty j d=>
      obtain⟨a1,a2,pre,post,a3,a4⟩:=ih;refine⟨a1,a2,p.j::pre,post,by show p.j::steps t.mask fuel (f9 t.mask p)=_;rw[a3];rfl,λx hx=>?_⟩;rcases dh.mp hx with rfl|hx
      ·exact⟨_,Ek,rfl,hc⟩
      ·exact a4 x hx
     |candidate j i next=>exact ih
  ·rw[m7];exact⟨hp,Rx,[],steps t.mask fuel (f9 t.mask p),rfl,λx hx=>by cases hx⟩
theorem zdl{P:Nat->Prop}{j j':Nat}:∀{pre post pre' post':List Nat},pre++j::post=pre'++j'::post'->(∀x∈pre,P x)->¬P j->(∀x∈pre',P x)->¬P j'->j=j'
 |[],_,[],_,e,_,_,_,_=>by cases e;rfl
 |[],_,x::pre',_,e,_,hj,h',_=>by cases e;exact absurd (h' _ fV) hj
 |x::pre,_,[],_,e,h,_,_,Lj=>by cases e;exact absurd (h _ fV) Lj
 |x::pre,post,y::pre',post',e,h,hj,h',Lj=>by
  injection e with _ e;exact zdl e (λz hz=>h z (fM _ hz)) hj (λz hz=>h' z (fM _ hz)) Lj
structure Tab(hk:Nat->Int)(t:SetTable)(L:Ent):Prop where
 place:t.place=(L.map (·.1)).toArray
 El:t.dummies=#[]
 asc:gF L
 inj:∀e∈L,∀e'∈L,hk e.2=hk e'.2->e=e'
 Ln:∀e∈L,uF hk L (hk e.2) (steps t.mask (10*turns t.mask) (start t.mask (hk e.2))) e.1
def Wide(m c:Nat)(h:Int):Prop:=∃l:List Nat,l.Nodup/\c<=l.length/\∀x∈l,x∈steps m (10*turns m) (start m h)
theorem zie{L:Ent}(h:gF L){e e':Nat×Nat}(he:e∈L)(tQ:e'∈L)(q:e.1=e'.1):e=e':=by
 obtain⟨i,hi,rfl⟩:=zO.mp he;obtain⟨k,hk,rfl⟩:=zO.mp tQ;have hp:=tV.mp h;rcases QJ i k with z|z|z
 ·have:=hp i k (by simpa using hi) (by simpa using hk) z;simp at this;lia
 ·subst z;rfl
 ·have:=hp k i (by simpa using hk) (by simpa using hi) z;simp at this;lia
theorem U9{α:Type}[DecidableEq α]:∀{l m:List α},l.Nodup->l ⊆ m->l.length<=m.length
 |[],_,_,_=>p8 _
 |x::l,m,hn,h=>by
  have hx:x∈m:=h fV;rw[rY] at hn;have ih:=U9 (m:=m.erase x) hn.2 λy hy=>(List.mem_erase_of_ne (λe=>hn.1 (by rw[<-e];exact hy))).mpr (h (fM _ hy));have:=List.length_erase_of_mem hx;have:=List.length_pos_of_mem hx;rw[iC]
  lia
theorem few{L:Ent}{l:List Nat}(hn:l.Nodup)(hl:∀x∈l,∃e∈L,e.1=x):l.length<=L.length:=by
 have h:l ⊆ L.map (·.1):=λx hx=>by obtain⟨e,he,q⟩:=hl x hx;exact fX.mpr ⟨e,he,q⟩
 have:=U9 hn h
 rwa [bN] at this
theorem zhE{t:SetTable}{L:Ent}{hk:Nat->Int}{hashAt:Nat->Int}{h:Int}(T:Tab hk t L)(hH:∀La e Lb,L=La++e::Lb->hashAt La.length=hk e.2){c:Nat}(hw:Wide t.mask c h)(hc:L.length<c) :
  (∃La j k Lb next,t.probe hashAt h (t.probeStart h)=some (.candidate j La.length next)/\L=La++(j,k)::Lb/\hk k=h) \/
  (∃j,t.probe hashAt h (t.probeStart h)=some (.empty j none)/\(∀e∈L,hk e.2≠h)/\(∀e∈L,e.1≠j)/\uF hk L h (steps t.mask (10*turns t.mask) (start t.mask h)) j):=by
 have g:=zgk (h:=h) T.place T.El T.asc hH (10*turns t.mask) (start t.mask h) rfl;have e0:t.probe hashAt h (t.probeStart h)=probe.go t hashAt h (10*turns t.mask) (start t.mask h):=rfl;rw[e0];cases hg:probe.go t hashAt h (10*turns t.mask) (start t.mask h) with
 |none=>
  rw[hg] at g;obtain⟨l,l1,l2,l3⟩:=hw;have:=few l1 λx hx=>g x (l3 x hx)
  lia
 |some met=>
  rw[hg] at g;cases met with
  |candidate j i next=>
   obtain⟨La,k,Lb,a1,rfl,a3⟩:=g;exact .inl ⟨La,j,k,Lb,next,rfl,a1,a3⟩
  |empty j d=>
   obtain⟨rfl,a2,a3⟩:=g;refine .inr ⟨j,rfl,λe he q=>?_,a2,a3⟩;obtain⟨pre,post,b1,b2⟩:=a3;obtain⟨pre',post',c1,c2⟩:=T.Ln e he;rw[q] at c1 c2;have:j=e.1:=zdl (P:=λx=>∃e∈L,e.1=x/\hk e.2≠h) (b1.symm.trans c1) b2 (λ⟨e',h1,h2,_⟩=>a2 e' h1 h2) c2 (λ⟨e',h1,h2,h3⟩=>h3 (by rw[zie T.asc h1 he h2];exact q));exact a2 e he this.symm
theorem Tab.add(T:Tab hk t (La++Lb))(ha:gF (La++(j,k)::Lb))(hn:∀e∈La++Lb,hk e.2≠hk k)(hf:uF hk (La++Lb) (hk k) (steps t.mask (10*turns t.mask) (start t.mask (hk k))) j) :
  Tab hk {t with place:=((La++(j,k)::Lb).map (·.1)).toArray} (La++(j,k)::Lb):=by
 have ao:∀e∈La++Lb,e∈La++(j,k)::Lb:=λe he=>by
  rcases fO.mp he with z|z
  ·exact qJ _ z
  ·exact pX _ (fM _ z)
 have cas:∀e∈La++(j,k)::Lb,e=(j,k)\/e∈La++Lb:=λe he=>by
  rcases fO.mp he with z|z
  ·exact .inr (qJ _ z)
  ·rcases dh.mp z with z|z
   ·exact .inl z
   ·exact .inr (pX _ z)
 have mono:∀{h js x},uF hk (La++Lb) h js x->uF hk (La++(j,k)::Lb) h js x:=λ⟨pre,post,a,b⟩=>⟨pre,post,a,λx hx=>let ⟨e,h1,h2⟩:=b x hx;⟨e,ao e h1,h2⟩⟩;refine⟨rfl,T.El,ha,λe he e' tQ q=>?_,λe he=>?_⟩
 ·rcases cas e he with rfl|z<;>rcases cas e' tQ with rfl|z'
  ·rfl
  ·exact absurd q.symm (hn e' z')
  ·exact absurd q (hn e z)
  ·exact T.inj e z e' z' q
 ·rcases cas e he with rfl|z
  ·exact mono hf
  ·exact mono (T.Ln e z)
noncomputable def rounds(m:Nat):Nat->Nat->Nat->List Nat
 |0,_,_=>[]
 |f+1,i,pt=>(List.range (runEnd m i+1-i)).map (i+·)++rounds m f (leap m i pt).1 (leap m i pt).2
theorem zdN:∀(c f:Nat) (p:Probe),p.more=c->p.dummy=none->steps m (c+1+f) p=(List.range (c+1)).map (p.j+·)++steps m f (xu m (leap m p.i p.perturb).1 (leap m p.i p.perturb).2)
 |0,f,p,hc,hd=>by
  have e:f9 m p=xu m (leap m p.i p.perturb).1 (leap m p.i p.perturb).2:=by
   unfold f9 xu;rw[if_neg (by lia),hd]
  rw[show 0+1+f=f+1 by lia];show p.j::steps m f (f9 m p)=_;rw[e];rfl
 |c+1,f,p,hc,hd=>by
  have e:f9 m p={p with j:=p.j+1,more:=p.more-1}:=by
   unfold f9;rw[if_pos (by lia)]
  rw[show c+1+1+f=(c+1+f)+1 by lia];show p.j::steps m (c+1+f) (f9 m p)=_;rw[e,zdN c f {p with j:=p.j+1,more:=p.more-1} (by show p.more-1=c;lia) hd];rw[Qq (n:=c+1),jL,lK,List.cons_append]
  congr 1
  congr 1
  apply Hr;intro x _;show p.j+1+x=p.j+(x+1)
  lia
theorem zcz:∀(a b:Nat) (p:Probe),∃r,steps m (a+b) p=steps m a p++r
 |0,b,p=>⟨steps m (0+b) p,rfl⟩
 |a+1,b,p=>by
  obtain⟨r,e⟩:=zcz a b (f9 m p);refine⟨r,?_⟩;rw[show a+1+b=(a+b)+1 by lia];show p.j::steps m (a+b) (f9 m p)=p.j::steps m a (f9 m p)++r;rw[e];rfl
theorem zjD:runEnd m i-i=9\/runEnd m i-i=0:=by
 unfold runEnd
 split<;>lia
theorem zlI:i<=runEnd m i:=by
 unfold runEnd
 split<;>lia
theorem U_{m:Nat}:∀(f i pt:Nat),∃post,steps m (10*f) (xu m i pt)=rounds m f i pt++post
 |0,i,pt=>⟨[],rfl⟩
 |f+1,i,pt=>by
  obtain⟨post,e⟩:=U_ (m:=m) f (leap m i pt).1 (leap m i pt).2;obtain⟨r,e2⟩:=zcz (m:=m) (10*f) (9-(runEnd m i-i)) (xu m (leap m i pt).1 (leap m i pt).2);have hr:=zjD (m:=m) (i:=i);have hg:=zlI (m:=m) (i:=i);refine⟨post++r,?_⟩;have h1:10*(f+1)=(runEnd m i-i)+1+(10*f+(9-(runEnd m i-i))):=by lia
  rw[h1,zdN (runEnd m i-i) _ (xu m i pt) rfl rfl];show (List.range (runEnd m i-i+1)).map (i+·)++steps m (10*f+(9-(runEnd m i-i))) (xu m (leap m i pt).1 (leap m i pt).2)=(List.range (runEnd m i+1-i)).map (i+·)++rounds m f (leap m i pt).1 (leap m i pt).2++(post++r);rw[e2,e,show runEnd m i+1-i=runEnd m i-i+1 by lia];simp only[Fy]
theorem Va{m:Nat}:∀(f i pt:Nat),i<=m->∀x∈rounds m f i pt,x<=m
 |0,_,_,_,x,hx=>by cases hx
 |f+1,i,pt,hi,x,hx=>by
  rcases fO.mp (show x∈(List.range (runEnd m i+1-i)).map (i+·)++rounds m f (leap m i pt).1 (leap m i pt).2 from hx) with z|z
  ·obtain⟨k,hk,rfl⟩:=fX.mp z;rw[tZ] at hk;unfold runEnd at hk;split at hk<;>lia
  ·exact Va f _ _ (by show (i*5+1+pt/32)%(m+1)<=m;have:=Nat.mod_lt (i*5+1+pt/32) (show 0<m+1 by lia);lia) x z
theorem zdr{m:Nat}{owner:Array (Option Nat)}:∀(f i pt:Nat),match layClean.free m owner f i pt with
  |none=>∀x∈rounds m f i pt,(owner.getD x (some 0)).isNone=false
  |some j=>∃pre post,rounds m f i pt=pre++j::post/\(owner.getD j (some 0)).isNone=true/\∀x∈pre,(owner.getD x (some 0)).isNone=false
 |0,i,pt=>by unfold layClean.free;intro x hx;cases hx
 |f+1,i,pt=>by
  unfold layClean.free;cases hf:(List.range (runEnd m i+1-i)).find? λk=>(owner.getD (i+k) (some 0)).isNone with
  |some k=>
   dsimp only;obtain⟨h1,as,bs,h2,h3⟩:=List.find?_eq_some_iff_append.mp hf;refine⟨as.map (i+·),bs.map (i+·)++rounds m f (leap m i pt).1 (leap m i pt).2,?_,h1,λx hx=>?_⟩
   ·show (List.range (runEnd m i+1-i)).map (i+·)++_=_;rw[h2];simp
   ·obtain⟨a,ha,rfl⟩:=fX.mp hx;simpa using h3 a ha
  |none=>
   have hn:=List.find?_eq_none.mp hf;have Lp:∀x∈(List.range (runEnd m i+1-i)).map (i+·),(owner.getD x (some 0)).isNone=false:=λx hx=>by
    obtain⟨a,ha,rfl⟩:=fX.mp hx;exact Bool.eq_false_iff.mpr (hn a ha)
   have ih:=zdr (m:=m) (owner:=owner) f (leap m i pt).1 (leap m i pt).2;show match layClean.free m owner f (leap m i pt).1 (leap m i pt).2 with
    |none=>∀x∈rounds m (f+1) i pt,(owner.getD x (some 0)).isNone=false
    |some j=>∃pre post,rounds m (f+1) i pt=pre++j::post/\(owner.getD j (some 0)).isNone=true/\∀x∈pre,(owner.getD x (some 0)).isNone=false
   cases hg:layClean.free m owner f (leap m i pt).1 (leap m i pt).2 with
   |none=>
    rw[hg] at ih;intro x hx;rcases fO.mp (show x∈(List.range (runEnd m i+1-i)).map (i+·)++rounds m f (leap m i pt).1 (leap m i pt).2 from hx) with z|z
    ·exact Lp x z
    ·exact ih x z
   |some j=>
    rw[hg] at ih;obtain⟨pre,post,a1,a2,a3⟩:=ih;refine⟨(List.range (runEnd m i+1-i)).map (i+·)++pre,post,?_,a2,λx hx=>?_⟩
    ·show (List.range (runEnd m i+1-i)).map (i+·)++rounds m f (leap m i pt).1 (leap m i pt).2=_;rw[a1,Fy]
    ·rcases fO.mp hx with z|z
     ·exact Lp x z
     ·exact a3 x z
structure Own(m:Nat)(owner:Array (Option Nat))(O:Ent):Prop where
 size:owner.size=m+1
 at':∀x k,owner[x]?=some (some k)↔(x,k)∈O
theorem Own.yes{m:Nat}{owner:Array (Option Nat)}{O:Ent}(h:Own m owner O){x:Nat}(hx:x<=m)(q:(owner.getD x (some 0)).isNone=false):∃e∈O,e.1=x:=by
 have hs:x<owner.size:=by rw[h.size];lia
 have e:owner.getD x (some 0)=owner[x]:=by simp[hs]
 rw[e] at q;cases hc:owner[x] with
 |none=>rw[hc] at q;cases q
 |some k=>exact⟨(x,k),(h.at' x k).mp (by rw[Hf hs,hc]),rfl⟩
theorem Own.no{m:Nat}{owner:Array (Option Nat)}{O:Ent}(h:Own m owner O){x:Nat}(q:(owner.getD x (some 0)).isNone=true):x<owner.size/\∀e∈O,e.1≠x:=by
 have hs:x<owner.size:=by
  rcases FW x owner.size with z|z
  ·exact z
  ·rw[show owner.getD x (some 0)=some 0 by simp[HX.mpr z]] at q;cases q
 have e:owner.getD x (some 0)=owner[x]:=by simp[hs]
 rw[e] at q;refine⟨hs,λe he z=>?_⟩;have:=(h.at' e.1 e.2).mpr he;rw[z,Hf hs] at this;rw[dM this] at q;cases q
theorem Own.set{m:Nat}{owner:Array (Option Nat)}{O:Ent}(h:Own m owner O){x k:Nat}(hs:x<owner.size)(hn:∀e∈O,e.1≠x):Own m (owner.setIfInBounds x (some k)) (O++[(x,k)]):=by
 refine⟨by rw[Array.size_setIfInBounds];exact h.size,λy l=>?_⟩;rw[Array.getElem?_setIfInBounds];by_cases e:x=y
 ·subst e;rw[if_pos rfl,if_pos hs]
  constructor
  ·intro z;cases z;simp
  ·intro z;rcases fO.mp z with z|z
   ·exact absurd rfl (hn _ z)
   ·simp at z;rw[z]
 ·rw[if_neg e,h.at' y l]
  constructor
  ·exact λz=>qJ _ z
  ·intro z;rcases fO.mp z with z|z
   ·exact z
   ·simp at z;exact absurd z.1.symm e
def gG(m c:Nat)(h:Int):Prop:=∃l:List Nat,l.Nodup/\c<=l.length/\∀x∈l,x∈rounds m (turns m) (bits h%(m+1)) (bits h)
theorem gG.wide(w:gG m c h):Wide m c h:=by
 obtain⟨l,a,b,d⟩:=w;obtain⟨post,e⟩:=U_ (m:=m) (turns m) (bits h%(m+1)) (bits h);refine⟨l,a,b,λx hx=>?_⟩;show x∈steps m (10*turns m) (xu m (bits h%(m+1)) (bits h));rw[e];exact qJ _ (d x hx)
structure Lay(m:Nat)(hk:Nat->Int)(owner:Array (Option Nat))(k:Nat)(O:Ent):Prop where
 own:Own m owner O
 ids:O.map (·.2)=List.range k
 slots:(O.map (·.1)).Nodup
 le:∀e∈O,e.1<=m
 Ln:∀e∈O,uF hk O (hk e.2) (steps m (10*turns m) (start m (hk e.2))) e.1
noncomputable def j_(m:Nat)(acc:Option (Array (Option Nat)×Nat))(h:Int):Option (Array (Option Nat)×Nat):=do
  let (owner,k) <-acc
  let j <-layClean.free m owner (turns m) (bits h%(m+1)) (bits h)
  pure (owner.setIfInBounds j (some k),k+1)
theorem ze6{m c:Nat}{hs:List Int}(hw:∀h∈hs,gG m c h)(hc:hs.length<=c)(hd:hs.Nodup):∀(rest:List Int) (k:Nat) (owner:Array (Option Nat)) (O:Ent),hs.drop k=rest->k<=hs.length->Lay m (λi=>hs.getD i 0) owner k O->
  ∃nO O',rest.foldl (j_ m) (some (owner,k))=some (nO,hs.length)/\Lay m (λi=>hs.getD i 0) nO hs.length O'
 |[],k,owner,O,e,hk,L=>by
  have:hs.length<=k:=List.drop_eq_nil_iff.mp e;have:k=hs.length:=by lia
  subst this;exact⟨owner,O,rfl,L⟩
 |h::rest,k,owner,O,e,hk,L=>by
  have hlt:k<hs.length:=by
   rcases FW k hs.length with z|z
   ·exact z
   ·rw[List.drop_eq_nil_iff.mpr z] at e;cases e
  have e':=e;rw[List.drop_eq_getElem_cons hlt] at e';injection e' with eh er;have hOl:O.length=k:=by have:=rZ List.length L.ids;simpa using this
  have hgk:hs.getD k 0=h:=by rw[<-eh];simp[hlt]
  have hmh:h∈hs:=by rw[<-eh];exact pY _
  have f:=zdr (m:=m) (owner:=owner) (turns m) (bits h%(m+1)) (bits h);have Lq:bits h%(m+1)<=m:=by have:=Nat.mod_lt (bits h) (show 0<m+1 by lia);lia
  have hne:∀e∈O,hs.getD e.2 0≠h:=λx hx q=>by
   have CZ:x.2∈List.range k:=by rw[<-L.ids];exact uI hx
   rw[tZ] at CZ;have g1:hs.getD x.2 0=hs[x.2]:=by simp[show x.2<hs.length by lia]
   rw[g1,<-eh] at q;have:=(Bs.mp hd);exact tV.mp this x.2 k (by lia) hlt CZ q
  cases hg:layClean.free m owner (turns m) (bits h%(m+1)) (bits h) with
  |none=>
   rw[hg] at f;obtain⟨l,l1,l2,l3⟩:=hw h hmh;have:=few (L:=O) l1 λx hx=>L.own.yes (Va _ _ _ Lq x (l3 x hx)) (f x (l3 x hx))
   lia
  |some j=>
   rw[hg] at f;obtain⟨pre,post,a1,a2,a3⟩:=f;obtain⟨Bg,hjn⟩:=L.own.no a2;have hjm:j<=m:=by have:=L.own.size;lia
   have Em:uF (λi=>hs.getD i 0) O h (steps m (10*turns m) (start m h)) j:=by
    obtain⟨post2,e2⟩:=U_ (m:=m) (turns m) (bits h%(m+1)) (bits h);refine⟨pre,post++post2,?_,λx hx=>?_⟩
    ·show steps m (10*turns m) (xu m (bits h%(m+1)) (bits h))=_;rw[e2,a1,Fy,List.cons_append]
    ·obtain⟨e,he,q⟩:=L.own.yes (Va _ _ _ Lq x (by rw[a1];exact qJ _ hx)) (a3 x hx);exact⟨e,he,q,hne e he⟩
   have mono:∀{h js x},uF (λi=>hs.getD i 0) O h js x->uF (λi=>hs.getD i 0) (O++[(j,k)]) h js x:=λ⟨pre,post,a,b⟩=>⟨pre,post,a,λx hx=>let ⟨e,h1,h2⟩:=b x hx;⟨e,qJ _ h1,h2⟩⟩;have L':Lay m (λi=>hs.getD i 0) (owner.setIfInBounds j (some k)) (k+1) (O++[(j,k)]):=by
    refine⟨L.own.set Bg hjn,by rw[jW,L.ids,List.range_succ];rfl,?_,λe he=>?_,λe he=>?_⟩
    ·rw[jW,Hv];refine⟨L.slots,by simp,λa ha b hb=>?_⟩;obtain⟨x,hx,rfl⟩:=fX.mp ha;simp at hb;rw[hb];exact hjn x hx
    ·rcases fO.mp he with z|z
     ·exact L.le e z
     ·simp at z;rw[z];exact hjm
    ·rcases fO.mp he with z|z
     ·exact mono (L.Ln e z)
     ·simp at z;rw[z];show uF _ _ (hs.getD k 0) (steps m (10*turns m) (start m (hs.getD k 0))) j;rw[hgk];exact mono Em
   obtain⟨nO,O',b1,b2⟩:=ze6 hw hc hd rest (k+1) _ _ er hlt L';refine⟨nO,O',?_,b2⟩;rw[List.foldl_cons];have:j_ m (some (owner,k)) h=some (owner.setIfInBounds j (some k),k+1):=by
    unfold j_;show (layClean.free m owner (turns m) (bits h%(m+1)) (bits h)).bind _=_;rw[hg];rfl
   rw[this];exact b1
theorem Vb{m:Nat}:Own m (Array.replicate (m+1) none) []:=⟨by simp,λx k=>by
 constructor
 ·intro h;rw[Array.getElem?_replicate] at h;split at h<;>cases h
 ·intro h;cases h⟩
theorem ziy{m c:Nat}{hs:List Int}(hw:∀h∈hs,gG m c h)(hc:hs.length<=c)(hd:hs.Nodup):∃owner O,layClean m hs.toArray=some owner/\Lay m (λi=>hs.getD i 0) owner hs.length O:=by
 obtain⟨owner,O,a,b⟩:=ze6 hw hc hd hs 0 _ [] rfl (p8 _) ⟨Vb,rfl,by simp,(λe he=>by cases he),λe he=>by cases he⟩;refine⟨owner,O,?_,b⟩;unfold layClean;rw[List.foldl_toArray];show (hs.foldl (j_ m) (some (Array.replicate (m+1) none,0))).map (·.1)=_;rw[a];rfl
noncomputable def dw(m:Nat)(owner:Array (Option Nat)):Ent:=(List.range (m+1)).filterMap λj=>(owner.getD j none).map (j,·)
theorem zhK(h:Own m owner O):e∈dw m owner↔e∈O:=by
 unfold dw;rw[QB]
 constructor
 ·rintro⟨j,hj,q⟩;rw[n_] at q;obtain⟨k,q1,rfl⟩:=q;rw[<-h.at'];rw[tZ] at hj;have hs:j<owner.size:=by rw[h.size];exact hj
  have e:owner.getD j none=owner[j]:=by simp[hs]
  rw[Hf hs,<-e,q1]
 ·intro he;have q:=(h.at' e.1 e.2).mpr he;obtain⟨hs,q2⟩:=G9.mp q;refine⟨e.1,by rw[tZ,<-h.size];exact hs,?_⟩;have e1:owner.getD e.1 none=owner[e.1]:=by simp[hs]
  rw[e1,q2];rfl
theorem zfd{m:Nat}{owner:Array (Option Nat)}:gF (dw m owner):=by
 unfold gF dw;rw[uJ];refine List.Pairwise.filterMap _ (R:=(·<·)) (λa a' hlt b hb b' hb'=>?_) List.pairwise_lt_range;obtain⟨_,_,rfl⟩:=n_.mp hb;obtain⟨_,_,rfl⟩:=n_.mp hb';exact hlt
theorem zf1{m k:Nat}{hk:Nat->Int}{owner:Array (Option Nat)}{O:Ent}(h:Lay m hk owner k O):(dw m owner).Perm O:=by
 refine(List.perm_ext_iff_of_nodup ?_ ?_).mpr λe=>zhK h.own
 ·have:=zfd (m:=m) (owner:=owner);unfold gF at this;rw[uJ] at this;exact Bs.mpr (this.imp λz q=>by rw[q] at z;exact nW _ z)
 ·have:=Bs.mp h.slots;rw[uJ] at this;exact Bs.mpr (this.imp λz q=>z (by rw[q]))
theorem Vc{α:Type}{l:List α}(h:l.Nodup){i j:Nat}(hi:i<l.length)(hj:j<l.length)(e:l[i]=l[j]):i=j:=by
 have p:=tV.mp (Bs.mp h);rcases QJ i j with z|z|z
 ·exact absurd e (p i j hi hj z)
 ·exact z
 ·exact absurd e.symm (p j i hj hi z)
theorem zhF{t:SetTable}{L:Ent}{hk:Nat->Int}(T:Tab hk t L){wanted c:Nat}(hw:∀e∈L,gG (sizeAbove wanted-1) c (hk e.2))(hc:L.length<=c) :
  ∃(ord:List Nat) (L':Ent),t.relaid (L.map λe=>hk e.2).toArray wanted=some ({t with mask:=sizeAbove wanted-1,moves:=t.movedTo (sizeAbove wanted-1),place:=(L'.map (·.1)).toArray},ord.toArray) /\
   ord.length=L.length/\(∀i∈ord,i<L.length)/\L'.map (·.2)=ord.map (λi=>(L.getD i (0,0)).2)/\L'.length=L.length/\(L'.map (·.2)).Perm (L.map (·.2)) /\
   Tab hk {t with mask:=sizeAbove wanted-1,moves:=t.movedTo (sizeAbove wanted-1),place:=(L'.map (·.1)).toArray} L':=by
 generalize hm:sizeAbove wanted-1=m at hw;have wR:(L.map λe=>hk e.2).Nodup:=by
  rw[Bs,uJ];have:=T.asc;unfold gF at this;rw[uJ,tV] at this;rw[tV];intro i j hi hj lN q;have e:=T.inj _ (pY hi) _ (pY hj) q;have:=this i j hi hj lN;rw[e] at this;exact nW _ this
 obtain⟨owner,O,h1,h2⟩:=ziy (m:=m) (c:=c) (hs:=L.map λe=>hk e.2) (λh hh=>by obtain⟨e,he,rfl⟩:=fX.mp hh;exact hw e he) (by rw[bN];exact hc) wR;rw[bN] at h2;have hp:=zf1 h2;have Lr:((dw m owner).map (·.2)).Perm (List.range L.length):=by rw[<-h2.ids];exact hp.map _
 have hlt:∀e∈dw m owner,e.2<L.length:=λe he=>by
  have:=Lr.mem_iff.mp (uI (f:=(·.2)) he);simpa using this
 have O9:∀e∈O,(L.map λe=>hk e.2).getD e.2 0=hk (L.getD e.2 (0,0)).2:=λe he=>by
  have:=hlt e (hp.mem_iff.mpr he);simp[this]
 refine⟨(dw m owner).map (·.2),(dw m owner).map λe=>(e.1,(L.getD e.2 (0,0)).2),?_,?_,?_,?_,?_,?_,?_⟩
 ·unfold relaid laid;rw[hm,h1];show some (_,_)=some (_,_)
  congr 2
  ·rw[lK];show SetTable.mk _ _ _ _ _ _ _=SetTable.mk _ _ _ _ _ _ _;rw[T.El];rfl
 ·rw[bN,hp.length_eq];have:=rZ List.length h2.ids;simpa using this
 ·intro i hi;obtain⟨e,he,rfl⟩:=fX.mp hi;exact hlt e he
 ·rw[lK,lK];rfl
 ·rw[bN,hp.length_eq];have:=rZ List.length h2.ids;simpa using this
 ·rw[lK];have q1:((dw m owner).map ((λx=>x.2)∘λe=>(e.1,(L.getD e.2 (0,0)).2)))=((dw m owner).map (·.2)).map λi=>(L.getD i (0,0)).2:=by rw[lK];rfl
  rw[q1];have q2:L.map (·.2)=(List.range L.length).map λi=>(L.getD i (0,0)).2:=by
   apply List.ext_getElem
   ·simp
   ·intro i hi oM;rw[bN] at hi;simp[hi]
  rw[q2];exact Lr.map _
 ·have Vd:gF ((dw m owner).map λe=>(e.1,(L.getD e.2 (0,0)).2)):=by
   have:=zfd (m:=m) (owner:=owner);unfold gF at this ⊢;rw[lK];exact this
  have Ve:∀e∈O,∀e'∈O,hk (L.getD e.2 (0,0)).2=hk (L.getD e'.2 (0,0)).2->e=e':=λe he e' tQ q=>by
   have a:=hlt e (hp.mem_iff.mpr he);have a':=hlt e' (hp.mem_iff.mpr tQ);rw[<-O9 e he,<-O9 e' tQ] at q;have q':(L.map λe=>hk e.2)[e.2]'(by rw[bN];exact a)=(L.map λe=>hk e.2)[e'.2]'(by rw[bN];exact a'):=by simpa [a,a'] using q
   have e2:e.2=e'.2:=Vc wR _ _ q';have Vf:(O.map (·.2)).Nodup:=by rw[h2.ids];exact List.nodup_range
   obtain⟨i,hi,rfl⟩:=zO.mp he;obtain⟨i',oM,rfl⟩:=zO.mp tQ;have:(O.map (·.2))[i]'(by rw[bN];exact hi)=(O.map (·.2))[i']'(by rw[bN];exact oM):=by simpa using e2
   have:=Vc Vf _ _ this;subst this;rfl
  refine⟨rfl,T.El,Vd,λe he e' tQ q=>?_,λe he=>?_⟩
  ·obtain⟨x,hx,rfl⟩:=fX.mp he;obtain⟨x',Iu,rfl⟩:=fX.mp tQ;rw[Ve x (hp.mem_iff.mp hx) x' (hp.mem_iff.mp Iu) q]
  ·obtain⟨x,hx,rfl⟩:=fX.mp he;have hxO:=hp.mem_iff.mp hx;obtain⟨pre,post,a,b⟩:=h2.Ln x hxO;rw[O9 x hxO] at a b;refine⟨pre,post,a,λy hy=>?_⟩;obtain⟨z,hz,q1,q2⟩:=b y hy;have q2:hk (L.getD z.2 (0,0)).2≠hk (L.getD x.2 (0,0)).2:=by rw[<-O9 z hz];exact q2
   exact⟨(z.1,(L.getD z.2 (0,0)).2),uI (f:=λe=>(e.1,(L.getD e.2 (0,0)).2)) (hp.mem_iff.mpr hz),q1,q2⟩
end Ts
namespace Ts
open Mi PySem PySem.SetTable
noncomputable def hf(p:Int×Int):Int:=reduceHash (Builtin.Tuple.tupleHashOf [hashInt p.1,hashInt p.2])
noncomputable def dd(l:List Nat):List Nat:=l.foldr (λx r=>if r.contains x then r else x::r) []
theorem zmY(h:x∈dd l):x∈l:=by
 induction l with
 |nil=>cases h
 |cons y r ih=>
  have h:x∈(if (dd r).contains y then dd r else y::dd r):=h;split at h
  ·exact fM _ (ih h)
  ·rcases dh.mp h with rfl|h
   ·exact fV
   ·exact fM _ (ih h)
theorem Vg:∀l:List Nat,(dd l).Nodup
 |[]=>FQ
 |y::r=>by
  show (if (dd r).contains y then dd r else y::dd r).Nodup
  split
  ·exact Vg r
  ·rename_i h;exact rY.mpr ⟨by simpa using h,Vg r⟩
theorem zbX:∀(a b i pt:Nat) (x:Nat),x∈rounds m a i pt->x∈rounds m (a+b) i pt
 |0,_,_,_,x,h=>by cases h
 |a+1,b,i,pt,x,h=>by
  rw[show a+1+b=(a+b)+1 by lia];rcases fO.mp (show x∈(List.range (runEnd m i+1-i)).map (i+·)++rounds m a (leap m i pt).1 (leap m i pt).2 from h) with z|z
  ·exact qJ _ z
  ·exact pX _ (zbX a b _ _ x z)
noncomputable def rM(m c f:Nat)(h:Int):Bool:=decide (c<=(dd (rounds m f (bits h%(m+1)) (bits h))).length)
theorem Vh(hf:f<=turns m)(hb:rM m c f h=true):gG m c h:=by
 refine⟨dd (rounds m f (bits h%(m+1)) (bits h)),Vg _,gb hb,λx hx=>?_⟩;have:=zbX f (turns m-f) _ _ x (zmY hx)
 rwa [show f+(turns m-f)=turns m by lia] at this
theorem w28:(iQ.all λp=>rM 7 5 13 (hf p)&&rM 31 19 9 (hf p)&&rM 127 29 5 (hf p))=true:=by decide +kernel
theorem n28:(iQ.map hf).Nodup:=by decide +kernel
def iu(p:Int×Int):Prop:=0<=p.1/\p.1<p.2/\p.2<8
theorem Ls(h:iu p):p∈iQ:=by
 obtain⟨a,b⟩:=p;obtain⟨h1,h2,h3⟩:=h;dsimp only at h1 h2 h3;have ha:a=0\/a=1\/a=2\/a=3\/a=4\/a=5\/a=6:=by lia
 have hb:b=1\/b=2\/b=3\/b=4\/b=5\/b=6\/b=7:=by lia
 rcases ha with rfl|rfl|rfl|rfl|rfl|rfl|rfl<;>rcases hb with rfl|rfl|rfl|rfl|rfl|rfl|rfl<;>first|(exfalso;lia)|decide
theorem Vi(h:iu p):gG 7 5 (hf p)/\gG 31 19 (hf p)/\gG 127 29 (hf p):=by
 have:=fW.mp w28 p (Ls h);rw[cU,cU] at this;exact⟨Vh (by decide) this.1.1,Vh (by decide) this.1.2,Vh (by decide) this.2⟩
theorem zjQ(h:iu p)(h':iu q)(e:hf p=hf q):p=q:=by
 obtain⟨i,hi,rfl⟩:=zO.mp (Ls h);obtain⟨j,hj,rfl⟩:=zO.mp (Ls h');have:(iQ.map hf)[i]'(by rw[bN];exact hi)=(iQ.map hf)[j]'(by rw[bN];exact hj):=by simpa using e
 have:=Vc n28 _ _ this;subst this;rfl
end Ts
namespace Ts
open PySem PySem.SetTable
noncomputable def aP(ts:List (Int×Int))(i:Nat):Int×Int:=ts.getD i (0,1)
noncomputable def bU(ts:List (Int×Int))(i:Nat):Int:=hf (aP ts i)
noncomputable def aJ(items:List Value)(ts:List (Int×Int))(L:Ent):List (Int×Value):=L.map λe=>(bU ts e.2,items.getD e.2 .none)
structure gH(prog:Program)(w:World)(h:Heap)(S:Addr)(items:List Value)(ts:List (Int×Int)):Prop where
 len:ts.length=items.length
 tie:∀i,i<ts.length->iu (aP ts i)
 at':∀i,i<ts.length->∃a,items.getD i .none=.ref a/\a≠S/\IsTupleKey (intKind prog w) h [(aP ts i).1,(aP ts i).2] a
def wu(m n:Nat):Prop:=m=7/\n<=4\/m=31/\n<=18\/m=127/\n<=28
structure gJ(h:Heap)(S:Addr)(items:List Value)(ts:List (Int×Int))(L:Ent)(led:Bool):Prop where
 ob:∃ep t,h.get? S=some {cls:=.type "set",dict:=none,data:=.set (aJ items ts L).toArray ep t}/\Tab (bU ts) t L/\wu t.mask L.length/\t.plain=true/\t.led=led
 idx:∀e∈L,e.2<ts.length
section
variable {prog:Program}{w:World}{A:Around}{E:Value->Shared->Prop}{s:Shared}{S:Addr}{items:List Value}{ts:List (Int×Int)}{L:Ent}{led:Bool}
theorem gH.mono(T:gH prog w h S items ts)(k:∀b o,b≠S->h.get? b=some o->h'.get? b=some o):gH prog w h' S items ts:=
 ⟨T.len,T.tie,λi hi=>let ⟨a,e,n,o,its,m,ho,r⟩:=T.at' i hi;⟨a,e,n,o,its,m,k a o n ho,r⟩⟩
theorem ziY:(aJ items ts (La++e::Lb)).toArray[La.length]?=some (bU ts e.2,items.getD e.2 .none):=by
 rw[Hl];unfold aJ;rw[jW,jL,pH (by simp)];simp
theorem Lw(T:Tab (bU ts) t L)(c:wu t.mask L.length):t.fits (aJ items ts L).toArray.size=true:=by
 unfold SetTable.fits SetTable.fill aJ;rw[T.place,T.El];simp only[dJ,bN,cU,Fz];refine⟨zP _,?_⟩;show L.length+0<=t.mask;rcases c with c|c|c<;>lia
theorem zdX(hk:IsTupleKey (intKind prog w) s.heap [x,y] a)(h:Q true s):wpAny (model prog w) A (hashByValue 8 (.ref a)) Q E s:=by
 have hT:=hk.typeIs;obtain⟨o,its,n,ho,_,hd,hi⟩:=hk;unfold hashByValue;refine aA (wpAny_specialOf hT F.slot_tuple_hash.lookup ?_);show wpAny _ _ (seqItems? (.ref a) >>= _) _ _ s;refine aA (wJ ho hd ?_);refine aA ?_;show wpAny _ _ (forIn its _ _) _ _ s;rw[<-Array.forIn_toList];refine Nk _ (λrest r s'=>r.1=none/\s'=s/\∃ks,ItemsAre (intKind prog w) ks rest) _ ?_ ?_ _ _ ⟨rfl,rfl,_,hi⟩
 ·rintro v rest r s' ⟨hr,rfl,ks,jg⟩;cases jg with
  |@cons k0 _ _ _ hv hrest=>
   obtain⟨t,rfl⟩:=Fw hv;have e:hashByValue 7 (.int k0 t)=pure true:=by unfold hashByValue;rfl
   refine aA ?_;show wpAny _ _ (hashByValue 7 (.int k0 t)) _ _ _;rw[e];refine aL ?_;simp only[xV,jK,jA];exact aL ⟨rfl,rfl,_,hrest⟩
 ·rintro⟨r1,r2⟩ s' ⟨hr,rfl,_⟩;simp only at hr;subst hr;exact aL h
theorem zbl(hk:IsTupleKey (intKind prog w) s.heap [x,y] a)(h:Q false s):wpAny (model prog w) A (ofAClassStatement 8 (.ref a)) Q E s:=by
 have hT:=hk.typeIs;obtain⟨o,its,n,ho,_,hd,hi⟩:=hk;unfold ofAClassStatement;refine aA (zT hT ?_);dsimp only;rw[if_pos (by decide)];refine aA (aL ?_);simp only[xV,jK,jA];refine aA (wJ ho hd ?_);refine aA ?_;show wpAny _ _ (forIn its _ _) _ _ s;rw[<-Array.forIn_toList];refine Nk _ (λrest r s'=>r.1=none/\s'=s/\∃ks,ItemsAre (intKind prog w) ks rest) _ ?_ ?_ _ _ ⟨rfl,rfl,_,hi⟩
 ·rintro v rest r s' ⟨hr,rfl,ks,jg⟩;cases jg with
  |@cons k0 _ _ _ hv hrest=>
   obtain⟨t,rfl⟩:=Fw hv;have e:ofAClassStatement 7 (.int k0 t)=pure false:=by unfold ofAClassStatement;rfl
   refine aA ?_;show wpAny _ _ (ofAClassStatement 7 (.int k0 t)) _ _ _;rw[e];refine aL ?_;simp only[jK,jA];exact aL ⟨rfl,rfl,_,hrest⟩
 ·rintro⟨r1,r2⟩ s' ⟨hr,rfl,_⟩;simp only at hr;subst hr;exact aL h
theorem zdV(hk:IsTupleKey (intKind prog w) s.heap [x,y] a)(hl:∀v∈l,∃b x' y',v=.ref b/\IsTupleKey (intKind prog w) s.heap [x',y'] b)(h:Q false s):wpAny (model prog w) A (searchCouldBeSeen (.ref a) l) Q E s:=by
 unfold searchCouldBeSeen;refine aA ?_;refine Nk _ (λrest r s'=>r.1=none/\s'=s/\∀v∈rest,∃b x' y',v=.ref b/\IsTupleKey (intKind prog w) s.heap [x',y'] b) _ ?_ ?_ _ _ ⟨rfl,rfl,hl⟩
 ·rintro v rest r s' ⟨hr,rfl,jg⟩;obtain⟨b,x',y',rfl,hb⟩:=jg v fV;have hrest:=λu hu=>jg u (fM _ hu);dsimp only
  split
  ·exact aL ⟨rfl,rfl,hrest⟩
  ·refine aA (wpAny_eqIsQuiet_tuple hk ?_);simp only[xV,jK,jA];refine aA (wpAny_eqIsQuiet_tuple hb ?_);simp only[xV,jK,jA];refine aA (zbl hk ?_);simp only[jK,jA];refine aA (zbl hb ?_);simp only[jK,jA];exact aL ⟨rfl,rfl,hrest⟩
 ·rintro⟨r1,r2⟩ s' ⟨hr,rfl,_⟩;simp only at hr;subst hr;exact aL h
theorem zkw(c:wu m n):(m%2==0)=false:=by rcases c with ⟨rfl,_⟩|⟨rfl,_⟩|⟨rfl,_⟩<;>rfl
theorem zhI(c:wu m n)(h:iu p):∃k,Wide m k (hf p)/\n<k:=by
 obtain⟨a,b,d⟩:=Vi h;rcases c with ⟨rfl,_⟩|⟨rfl,_⟩|⟨rfl,_⟩
 ·exact⟨5,a.wide,by lia⟩
 ·exact⟨19,b.wide,by lia⟩
 ·exact⟨29,d.wide,by lia⟩
theorem zcW(hu:A.units<cLine)(T:gH prog w s.heap S items ts)(hS:gJ s.heap S items ts L led)(hk:k<ts.length)(ha:items.getD k .none=.ref a)
  (gM:∀e∈L,aP ts e.2=aP ts k->Q (.there none) s)
  (hout:∀j,(∀e∈L,bU ts e.2≠bU ts k)->(∀e∈L,e.1≠j)->(∀ep t,s.heap.get? S=some {cls:=.type "set",dict:=none,data:=.set (aJ items ts L).toArray ep t}->uF (bU ts) L (bU ts k) (steps t.mask (10*turns t.mask) (start t.mask (bU ts k))) j)->Q (.free j false) s) :
  wpAny (model prog w) A (setSearchFrom S (.ref a) (bU ts k) true (fuel+1) none) Q E s:=by
 obtain⟨⟨ep,t,ho,tb,cap,bM,ju⟩,tR⟩:=hS;have hf':=Lw (items:=items) tb cap;unfold setSearchFrom;refine aA (xR ho rfl hf' ?_);dsimp only;have hgw:t.gaveWay=false:=zkw cap;rw[hgw];simp only[jK,jA];obtain⟨c,hw,hc⟩:=zhI cap (T.tie k hk);have po:=zhE (hashAt:=λi=>((aJ items ts L).toArray[i]?.map (·.1)).getD 0) (h:=bU ts k) tb (λLa e Lb q=>by
  subst q;rw[ziY,Option.map_some,Option.getD_some]) hw hc
 split
 ·rename_i met hq;have En:t.probe (λi=>((aJ items ts L).toArray[i]?.map (·.1)).getD 0) (bU ts k) (t.probeStart (bU ts k))=some met:=hq;rcases po with ⟨La,j,i,Lb,next,e1,e2,e3⟩|⟨j,e1,e2,e3,e4⟩
  ·rw[e1] at En;cases En;dsimp only;have Ek:(j,i)∈L:=by rw[e2];simp
   have hti:aP ts i=aP ts k:=zjQ (T.tie i (tR _ Ek)) (T.tie k hk) e3;have sU:(aJ items ts L).toArray[La.length]?=some (bU ts i,items.getD i .none):=by
    have:=ziY (items:=items) (ts:=ts) (La:=La) (e:=(j,i)) (Lb:=Lb);rw[<-e2] at this;exact this
   obtain⟨b,G3,nZ,hb3⟩:=T.at' i (tR _ Ek);obtain⟨a',vJ,ha2,Ep⟩:=T.at' k hk;rw[ha] at vJ;cases vJ;by_cases hl:t.led=true
   ·rw[hl];simp only[xV,jK,jA];rw[sU];dsimp only;rw[G3];refine aA (lJ (wpAny_eqBool_tuple hu hb3 Ep ?_));rw[hti,cP rfl];refine aA (xR ho rfl hf' ?_);dsimp only;simp only[Bool.and_self,if_true];exact aL (gM _ Ek hti)
   ·rw[show t.led=false by simpa using hl];simp only[Bool.not_false,if_true];refine aA (zdV Ep (λv hv=>?_) ?_)
    ·obtain⟨x,hx,rfl⟩:=fX.mp hv;have Iu:x∈(aJ items ts L):=by
      have:=Array.mem_toList_iff.mp hx;rw[Array.mem_filter] at this;simpa using this.1
     obtain⟨e,he,rfl⟩:=fX.mp Iu;obtain⟨b',c1,_,c3⟩:=T.at' e.2 (tR e he);exact⟨b',_,_,c1,c3⟩
    ·simp only[jK,jA];rw[sU];dsimp only;rw[G3];refine aA (lJ (wpAny_eqBool_tuple hu hb3 Ep ?_));rw[hti,cP rfl];refine aA (xR ho rfl hf' ?_);dsimp only;simp only[Bool.and_self,if_true];exact aL (gM _ Ek hti)
  ·rw[e1] at En;cases En;dsimp only;refine aL (hout j e2 e3 λep' t' kW=>?_);rw[ho] at kW;cases kW;exact e4
 ·rename_i hq;have En:∀met,t.probe (λi=>((aJ items ts L).toArray[i]?.map (·.1)).getD 0) (bU ts k) (t.probeStart (bU ts k))≠some met:=hq;rcases po with ⟨La,j,i,Lb,next,e1,_⟩|⟨j,e1,_⟩
  ·exact absurd e1 (En _)
  ·exact absurd e1 (En _)
end
end Ts
namespace Ts
open Mi (iQ)
open PySem PySem.SetTable
def Lx(ts:List (Int×Int))(L L':Ent)(k:Nat):Prop:=(L'=L/\∃e∈L,aP ts e.2=aP ts k)\/((∀e∈L,aP ts e.2≠aP ts k)/\(L'.map (·.2)).Perm (k::L.map (·.2)))
section
variable {prog:Program}{w:World}{A:Around}{E:Value->Shared->Prop}{s:Shared}{S:Addr}{items:List Value}{ts:List (Int×Int)}{L:Ent}{led:Bool}
theorem Ly{t:SetTable}(T:Tab (bU ts) t L)(ht:∀e∈L,iu (aP ts e.2)):L.length<=28:=by
 have wR:(L.map λe=>bU ts e.2).Nodup:=by
  rw[Bs,uJ];have:=T.asc;unfold gF at this;rw[uJ,tV] at this;rw[tV];intro i j hi hj lN q;have e:=T.inj _ (pY hi) _ (pY hj) q;have:=this i j hi hj lN;rw[e] at this;exact nW _ this
 have:=U9 (m:=iQ.map hf) wR λx hx=>by
  obtain⟨e,he,rfl⟩:=fX.mp hx;exact uI (Ls (ht e he))
 rwa [bN,bN] at this
theorem zg4:∀{l:List α},(∀x∈l,f x=some (g x))->l.filterMap f=l.map g
 |[],_=>rfl
 |x::l,h=>by
  rw[xP,h x fV,jL];rw[zg4 λy hy=>h y (fM _ hy)]
theorem zgx{h:Heap}{es es':Array (Int×Value)}{ep:Nat}{t t':SetTable}(ho:h.get? S=some {cls:=.type "set",dict:=none,data:=.set es ep t}):(h.update S (Obj.putSet es' t')).get? S=some {cls:=.type "set",dict:=none,data:=.set es' (ep+1) t'}:=by
 have:=uH (Obj.putSet es' t') ho (by rw[putSet_of es' t' rfl];rfl);rw[putSet_of es' t' rfl] at this;exact this
theorem zeh{ep:Nat}{t:SetTable}{wanted c:Nat}{Q:Unit->Shared->Prop}(ho:s.heap.get? S=some {cls:=.type "set",dict:=none,data:=.set (aJ items ts L).toArray ep t})(tb:Tab (bU ts) t L)(Vj:t.fits (aJ items ts L).toArray.size=true)
  (hw:∀e∈L,gG (sizeAbove wanted-1) c (bU ts e.2)) (hc:L.length<=c) (hz:sizeAbove wanted<=sizeLine) (hz2:L.length<=sizeLine)
  (h:∀L' t',t'.mask=sizeAbove wanted-1->t'.plain=t.plain->t'.led=t.led->L'.length=L.length->(L'.map (·.2)).Perm (L.map (·.2))->Tab (bU ts) t' L'->Q () {s with heap:=s.heap.update S (Obj.putSet (aJ items ts L').toArray t')}) :
  wpAny (model prog w) A (setRelay S wanted) Q E s:=by
 obtain⟨ord,L',r1,r2,r3,r4,r5,r6,r7⟩:=zhF tb hw hc;unfold setRelay;refine aA (xR ho rfl Vj ?_);dsimp only;rw[if_neg (HX.mpr hz)];have e1:(aJ items ts L).toArray.map (·.1)=(L.map λe=>bU ts e.2).toArray:=by
  unfold aJ;rw[List.map_toArray,lK];rfl
 rw[e1,r1];have e2:ord.toArray.filterMap (λi=>(aJ items ts L).toArray[i]?)=(aJ items ts L').toArray:=by
  have q:aJ items ts L'=ord.map λi=>(bU ts (L.getD i (0,0)).2,items.getD (L.getD i (0,0)).2 .none):=by
   have:aJ items ts L'=(L'.map (·.2)).map λi=>(bU ts i,items.getD i .none):=by unfold aJ;rw[lK];rfl
   rw[this,r4,lK];rfl
  rw[List.filterMap_toArray,q]
  congr 1
  refine zg4 λi hi=>?_;have:=r3 i hi;unfold aJ;simp[this]
 refine aA ?_;show wpAny _ _ (if ((ord.toArray.filterMap (λi=>(aJ items ts L).toArray[i]?)).size != (aJ items ts L).toArray.size)=true then _ else _) _ _ _;rw[e2];have e3:((aJ items ts L').toArray.size != (aJ items ts L).toArray.size)=false:=by
  unfold aJ;simp[r5]
 rw[e3];simp only[jK,jA];refine aL ?_;refine wpAny_storeSet_of ho rfl ?_ (by unfold aJ;simpa [r5] using hz2);exact h L' _ rfl rfl rfl r5 r6 r7
theorem zfB{fuel k:Nat}{a:Addr}{Q:Bool->Shared->Prop}(hu:A.units<cLine)(T:gH prog w s.heap S items ts)(hS:gJ s.heap S items ts L led)(hk:k<ts.length)(ha:items.getD k .none=.ref a)
  (h:∀h' L' b,Heap.SameBut S s.heap h'->gJ h' S items ts L' led->Lx ts L L' k->Q b {s with heap:=h'}) :
  wpAny (model prog w) A (setAddHashedIn S (.ref a) (bU ts k) (fuel+1)) Q E s:=by
 obtain⟨⟨ep,t,ho,tb,cap,bM,ju⟩,tR⟩:=id hS;have hf':=Lw (items:=items) tb cap;have aad:(100:Nat)<=sizeLine:=by decide
 unfold setAddHashedIn;refine aA (xR ho rfl hf' ?_);dsimp only;have hbs:byScan (.ref a) (aJ items ts L).toArray=false:=by simp[byScan,Value.scannable]
 rw[hbs];simp only[jK,jA];refine aA ?_;unfold setSearch;refine zcW (fuel:=99999) hu T hS hk ha (λe he q=>?_) (λj h1 h2 h3=>?_)
 ·exact aL (h s.heap L false (Heap.SameBut.refl S s.heap) hS (.inl ⟨rfl,e,he,q⟩))
 ·have Em:=h3 ep t ho;dsimp only;refine aA (xR ho rfl hf' ?_);dsimp only;obtain⟨La,Lb,e,Lz,Vk⟩:=znX tb.place tb.El tb.asc h2 k;have hlen:(La++(j,k)::Lb).length=L.length+1:=by rw[e];simp;lia
  have tb':=tb;have h1':=h1;have Bh:=Em;rw[e] at tb' h1' Bh;have Bj:=tb'.add Vk h1' Bh;have m1:({t with place:=((La++(j,k)::Lb).map (·.1)).toArray}:SetTable).mask=t.mask:=rfl;have p1:({t with place:=((La++(j,k)::Lb).map (·.1)).toArray}:SetTable).plain=true:=bM;have l1:({t with place:=((La++(j,k)::Lb).map (·.1)).toArray}:SetTable).led=led:=ju;generalize ({t with place:=((La++(j,k)::Lb).map (·.1)).toArray}:SetTable)=t1 at Lz Bj m1 p1 l1;rw[Lz];dsimp only;rw[p1];simp only[if_true];obtain⟨a',vJ,ha2,Ep⟩:=T.at' k hk;rw[ha] at vJ;cases vJ;refine aA (zdX Ep ?_);simp only[if_true];have Vl:insertAt (aJ items ts L).toArray La.length (bU ts k,.ref a)=(aJ items ts (La++(j,k)::Lb)).toArray:=by
   have q:aJ items ts L=(aJ items ts La)++(aJ items ts Lb):=by rw[e];unfold aJ;rw[jW]
   have q2:La.length=(aJ items ts La).length:=by unfold aJ;rw[bN]
   rw[q,q2,zbo];unfold aJ;rw[jW,jL,ha]
  rw[Vl];have hsub:∀x∈La++(j,k)::Lb,x.2<ts.length:=λx hx=>by
   rcases fO.mp hx with z|z
   ·exact tR x (by rw[e];exact qJ _ z)
   ·rcases dh.mp z with rfl|z
    ·exact hk
    ·exact tR x (by rw[e];exact pX _ z)
  have wz:((La++(j,k)::Lb).map (·.2)).Perm (k::L.map (·.2)):=by
   rw[e,jW,jW,jL];exact List.perm_middle
  generalize La++(j,k)::Lb=L1 at hlen Bj hsub wz;have h28:=Ly Bj λx hx=>T.tie x.2 (hsub x hx);have hne:∀x∈L,aP ts x.2≠aP ts k:=λx hx q=>h1 x hx (by unfold bU;rw[q]);have jP:(aJ items ts L1).toArray.size<=sizeLine:=by unfold aJ;rw[dJ,bN,hlen];lia
  refine aA (wpAny_storeSet_of ho rfl ?_ jP);have hg1:=zgx (es':=(aJ items ts L1).toArray) (t':=t1) ho;have wA:t1.fill=L.length+1:=by
   unfold fill;rw[Bj.place,Bj.El,dJ,bN,hlen];rfl
  have xG:(aJ items ts L).toArray.size=L.length:=by unfold aJ;rw[dJ,bN]
  have LC:t1.fits (aJ items ts L1).toArray.size=true:=by
   unfold SetTable.fits;rw[wA,Bj.place];unfold aJ;rw[dJ,dJ,bN,bN,zP,HN];refine cP ?_;rw[m1];rcases cap with c|c|c<;>lia
  have Ax:Heap.SameBut S s.heap (s.heap.update S (Obj.putSet (aJ items ts L1).toArray t1)):=Bu s.heap S _;by_cases rN:t1.tooFull=true
  ·rw[rN];simp only[Bool.not_false,Bool.and_self,if_true];have Er:(L.length+1)*5>=t.mask*3:=by
    have:=rN;unfold tooFull at this;rw[wA,m1] at this;exact gb this
   rw[xG];have LQ:(t.mask=7/\L.length=4)\/(t.mask=31/\L.length=18):=by rcases cap with c|c|c<;>lia
   have LR:∃c,(∀x∈L1,gG (sizeAbove (grown (L.length+1))-1) c (bU ts x.2))/\L.length+1<=c/\wu (sizeAbove (grown (L.length+1))-1) (L.length+1)/\sizeAbove (grown (L.length+1))<=sizeLine:=by
    rcases LQ with ⟨_,q⟩|⟨_,q⟩
    ·rw[q];refine⟨19,λx hx=>?_,by lia,.inr (.inl ⟨by decide,by lia⟩),by decide⟩;rw[show sizeAbove (grown (4+1))-1=31 by decide];exact(Vi (T.tie x.2 (hsub x hx))).2.1
    ·rw[q];refine⟨29,λx hx=>?_,by lia,.inr (.inr ⟨by decide,by lia⟩),by decide⟩;rw[show sizeAbove (grown (18+1))-1=127 by decide];exact(Vi (T.tie x.2 (hsub x hx))).2.2
   obtain⟨c,hw,hc,Et,hz⟩:=LR;refine aA (zeh (s:={s with heap:=s.heap.update S (Obj.putSet (aJ items ts L1).toArray t1)}) hg1 Bj LC hw (by rw[hlen];exact hc) hz (by rw[hlen];lia) λL' t' n1 n2 n3 n4 n5 n6=>?_);refine aL ?_;refine h _ L' true (Ax.trans (Bu _ S _)) ⟨⟨_,t',zgx hg1,n6,by rw[n1,n4,hlen];exact Et,n2.trans p1,n3.trans l1⟩,λx hx=>?_⟩ (.inr ⟨hne,n5.trans wz⟩);have:x.2∈L1.map (·.2):=n5.mem_iff.mp (uI hx);obtain⟨y,hy,q⟩:=fX.mp this;rw[<-q];exact hsub y hy
  ·rw[show t1.tooFull=false by simpa using rN];simp only[Bool.not_false,Nu,jK,jA];have Er:¬(L.length+1)*5>=t.mask*3:=by
    have:=rN;unfold tooFull at this;rw[wA,m1] at this;simpa using this
   have Et:wu t1.mask L1.length:=by
    rw[hlen,m1];rcases cap with ⟨c,_⟩|⟨c,_⟩|⟨c,_⟩
    ·exact .inl ⟨c,by lia⟩
    ·exact .inr (.inl ⟨c,by lia⟩)
    ·exact .inr (.inr ⟨c,by lia⟩)
   refine aL ?_;exact h _ _ true Ax ⟨⟨_,_,hg1,Bj,Et,p1,l1⟩,hsub⟩ (.inr ⟨hne,wz⟩)
end
end Ts
namespace Ts
open PySem PySem.SetTable
def Dn(ts:List (Int×Int))(L:Ent)(i:Nat):Prop:=(∀e∈L,e.2<i)/\∀k,k<i->∃e∈L,aP ts e.2=aP ts k
theorem Dn.Vm{ts:List (Int×Int)}{L L':Ent}{i:Nat}(d:Dn ts L i)(g:Lx ts L L' i):Dn ts L' (i+1):=by
 rcases g with ⟨rfl,e,he,q⟩|⟨hn,hp⟩
 ·refine⟨λx hx=>rT (d.1 x hx),λk hk=>?_⟩;rcases FW k i with z|z
  ·exact d.2 k z
  ·have:k=i:=by lia
   subst this;exact⟨e,he,q⟩
 ·have back:∀k∈i::L.map (·.2),∃e∈L',e.2=k:=λk hk=>by
   obtain⟨e,he,q⟩:=fX.mp (hp.mem_iff.mpr hk);exact⟨e,he,q⟩
  refine⟨λx hx=>?_,λk hk=>?_⟩
  ·rcases dh.mp (hp.mem_iff.mp (uI (f:=(·.2)) hx)) with q|q
   ·lia
   ·obtain⟨y,hy,q⟩:=fX.mp q;have:=d.1 y hy
    lia
  ·rcases FW k i with z|z
   ·obtain⟨e,he,q⟩:=d.2 k z;obtain⟨e',tQ,q'⟩:=back e.2 (fM _ (uI he));exact⟨e',tQ,by rw[q'];exact q⟩
   ·obtain⟨e',tQ,q'⟩:=back i fV;exact⟨e',tQ,by rw[q'];congr 1;lia⟩
theorem zjh{prog:Program}{w:World}{x y:Int}:tupleKeyHash (intKind prog w) [x,y]=hf (x,y):=by unfold tupleKeyHash hf;rfl
section
variable {prog:Program}{w:World}{A:Around}{R:Result->Shared->Prop}{I:Addr}{fp wr:List Addr}{G:Array GenState->Array GenState->Prop}{n:Nat}{P:Nat->Value->Prop}{St:Nat->Shared->Prop}{S:Addr}{items:List Value}{ts:List (Int×Int)}{led:Bool}
theorem gJ.keep{h h':Heap}{L:Ent}(x:gJ h S items ts L led)(k:∀o,h.get? S=some o->h'.get? S=some o):gJ h' S items ts L led:=
 let ⟨⟨ep,t,ho,r⟩,i⟩:=x;⟨⟨ep,t,k _ ho,r⟩,i⟩
theorem gH.keep{h h':Heap}(T:gH prog w h S items ts)(k:∀i a o,i<ts.length->items.getD i .none=.ref a->h.get? a=some o->h'.get? a=some o):gH prog w h' S items ts:=
 ⟨T.len,T.tie,λi hi=>let ⟨a,e,n,o,its,m,ho,r⟩:=T.at' i hi;⟨a,e,n,o,its,m,k i a o hi e ho,r⟩⟩
theorem zjb(W:WalksS prog w A.in1 I fp wr G n P St)(O_:S∉fp)(hn:n=ts.length)(Eu:∀i v,P i v->items.getD i .none=v)(hu:A.in1.units<cLine)(Pa:∀i a,i<ts.length->items.getD i .none=.ref a->a∉wr) :
  ∀(k i:Nat) (s:Shared) (L:Ent),n-i=k->i<=n->St i s->gH prog w s.heap S items ts->gJ s.heap S items ts L led->Dn ts L i->
   (∀s' L',Moved (S::wr) G s s'->gH prog w s'.heap S items ts->gJ s'.heap S items ts L' led->Dn ts L' n->R (.ok (.ret .none)) s')->
   codeAny (model prog w) A (.builtin "set.update.loop" ⟨[.ref S,.ref I],[]⟩) R s:=by
 have hSw:S∉wr:=λh=>O_ (W.«sub» _ h);have hsub:∀b∈wr,b∈S::wr:=λb hb=>fM _ hb;intro k
 induction k with
 |zero=>
  intro i s L hk hi qQ hT hS hD hR;have gM:i=n:=by lia
  subst gM;refine FP Xz ?_;rw[Qy Qk _];show wpAny _ A.in1 (pyNext (.ref I) >>= _) _ _ s;refine aA (W.done s _ _ qQ λs' hm=>?_);show wpAny _ A.in1 (ret Value.none) _ _ s';exact aL (hR s' L (hm.mono hsub) (hT.keep λi a o hi e=>hm.heap a o (Pa i a hi e)) (hS.keep λo=>hm.heap S o hSw) hD)
 |succ k ih=>
  intro i s L hk hi qQ hT hS hD hR;have hlt:i<n:=by lia
  have L_:i<ts.length:=by lia
  refine FP Xz ?_;rw[Qy Qk _];show wpAny _ A.in1 (pyNext (.ref I) >>= _) _ _ s;refine aA (W.item i s _ _ hlt qQ λv s' hP Vn hm=>?_);have hv:=Eu i v hP;have Ew:gH prog w s'.heap S items ts:=hT.keep λi a o hi e=>hm.heap a o (Pa i a hi e);have Ey:gJ s'.heap S items ts L led:=hS.keep λo=>hm.heap S o hSw;obtain⟨a,vJ,ha2,Ep⟩:=Ew.at' i L_;have hva:v=.ref a:=hv.symm.trans vJ;subst hva;show wpAny _ A.in1 (holding [Value.ref a] (setAdd S (.ref a)) >>= _) _ _ s';refine aA (lJ ?_);unfold setAdd;refine lJ ?_;refine aA (wpAny_pyHash_tuple hu Ep ?_);rw[zjh];unfold setAddHashed;refine lJ ?_;refine zfB (fuel:=99999) (k:=i) (s:={s' with toks:=s'.toks+([(aP ts i).1,(aP ts i).2].length+1)}) hu Ew Ey L_ vJ λh' L' b Ax aR hg=>?_;have Ez:∀b o,b≠S->s'.heap.get? b=some o->h'.get? b=some o:=λb o hb e=>by rw[Ax.2 b hb];exact e
  refine aL ⟨plainId_quiet Qk _,ih (i+1) _ L' (by lia) hlt (W.frame _ s' _ _ Vn (Nat.le_add_right _ _) λb hb o e=>Ez b o (λh=>O_ (by rw[<-h];exact hb)) e) (Ew.mono Ez) aR (hD.Vm hg) λs'' L'' Vo Vp Vq Vr=>?_⟩;refine hR s'' L'' (Moved.trans W.gtrans ((hm.mono hsub).then_heap (Nat.le_add_right _ _) λb o hb e=>Ez b o (λh=>hb (by rw[h];exact fV)) e) Vo) Vp Vq Vr
end
section
variable {prog:Program}{w:World}{A:Around}{E:Value->Shared->Prop}{s:Shared}
noncomputable def cC(w:World):Bool:=!w.params.followText "set-order"
theorem zh4(a:Value){Q₁:Value->Shared->Prop}
  (h:Q₁ (.ref s.heap.objs.size) {s with heap:=s.heap.push {cls:=.type "set",dict:=none,data:=.set #[] 0 (.fresh 0 0 (cC w))}}) :
  codeAny (model prog w) A (.call (.builtin "set.__new__") ⟨[.type "set",a],[]⟩) (wants Q₁ E) s:=by
 refine codeAny_of_tree ?_;show wpAny _ A.in1 (do checkBuiltinCall "set.__new__" ⟨[.type "set",a],[]⟩;again (.builtin "set.__new__" ⟨[.type "set",a],[]⟩)) _ _ s;refine aA (FZ (F.newCall_set_1 a) (aL ⟨plainId_quiet F.plain_set_new _,FP F.entry_set_new ?_⟩));rw[Qy F.plain_set_new _];unfold Builtin.«set.__new__» Builtin.Frozenset.newClass;have hsub:=sub_set_self;obtain⟨hp,g,d,tk,os⟩:=s;dsimp only
 wp_walk
 refine wpAny_askSetting (aL ?_);dsimp only;simp only[newObj];refine aA (wpAny_alloc (aL ?_));exact aL h
theorem tab0{hk:Nat->Int}{led:Bool}:Tab hk (.fresh 0 0 led) []:=⟨rfl,rfl,List.Pairwise.nil,(λe he=>by cases he),λe he=>by cases he⟩
theorem zda{l:Addr}{items:List Value}{ts:List (Int×Int)}{Q:Value->Shared->Prop}(hh:A.handled=none)(hu:A.units+8<cLine)(hl:s.heap.IsTuple l items.toArray)(hT:gH prog w s.heap s.heap.objs.size items ts)
  (h:∀(h':Heap) (tk:Nat) (L:Ent),gJ h' s.heap.objs.size items ts L (cC w)->gH prog w h' s.heap.objs.size items ts->Dn ts L ts.length->(∀b o,b<s.heap.objs.size->s.heap.get? b=some o->h'.get? b=some o)->Q (.ref s.heap.objs.size) {s with heap:=h',toks:=tk}) :
  wpAny (model prog w) A (call (.type "set") [.ref l]) Q E s:=by
 obtain⟨c,tl,J1⟩:=zU.mro;have hmade:=zU.made;have hsub:=zU.«sub»;refine BP (codeAny_of_tree ?_);show wpAny _ _ (callAny (.type "set") _) _ _ _;refine aL ⟨Ng _ (by decide +kernel),FP F.entry_type_call ?_⟩;rw[Around.under_plain (weight_type_call_type "set" [.ref l] []) rfl];have h1:=zU.notType;have h2:=zU.canCreate;have hct:=F.typeCall_set_1 (.ref l)
 repeat (any_goals (first|assumption|wp_step))
 refine HS (zh4 (.ref l) (E:=E) (Q₁:=λobj s₁=>obj=.ref s.heap.objs.size/\s₁={s with heap:=s.heap.push {cls:=.type "set",dict:=none,data:=.set #[] 0 (.fresh 0 0 (cC w))}}) ⟨rfl,rfl⟩) λr s₁ hr=>?_;cases r with
 |error e=>exact hr
 |ok fl=>
  cases fl with
  |ret obj=>
   obtain⟨rfl,rfl⟩:=hr;have hS:(s.heap.push {cls:=.type "set",dict:=none,data:=.set #[] 0 (.fresh 0 0 (cC w))}).get? s.heap.objs.size=some {cls:=.type "set",dict:=none,data:=.set #[] 0 (.fresh 0 0 (cC w))}:=iB _ rfl;have hTy:Shared.TypeIs {s with heap:=s.heap.push {cls:=.type "set",dict:=none,data:=.set #[] 0 (.fresh 0 0 (cC w))}} (.ref s.heap.objs.size) "set":=⟨_,hS,rfl⟩;have hli:=zU.init.lookup;have hbi:=zU.init.bind (.ref s.heap.objs.size)
   repeat (any_goals (first|assumption|wp_step))
   refine HS (Qw (R:=wants (λr s₂=>r=.none/\∃h' tk L,s₂={s with heap:=h',toks:=tk}/\gJ h' s.heap.objs.size items ts L (cC w)/\gH prog w h' s.heap.objs.size items ts/\Dn ts L ts.length /\
     (∀b o,b<s.heap.objs.size->s.heap.get? b=some o->h'.get? b=some o)) E) zU.init.plain F.entry_set_init (check_set_init_1 hTy ?_)) λr₂ s₂ hr₂=>?_
   ·obtain⟨ol,hol,jQ,nl,hdl⟩:=id hl;obtain⟨ocls,odict,odata,oslots⟩:=ol;simp only at jQ hdl;subst jQ;subst hdl;have Vt:(s.heap.push {cls:=.type "set",dict:=none,data:=.set #[] 0 (.fresh 0 0 (cC w))}).get? l=some {cls:=.type "tuple",dict:=odict,data:=.seq items.toArray nl,slots:=oslots}:=cG _ hol;have hsls:=F.sub_tuple_set;have hslf:=F.sub_tuple_frozenset;have hne:(Value.type "tuple"==Value.type "dict")=false:=by decide
    have GF:(s.heap.push {cls:=.type "set",dict:=none,data:=.set #[] 0 (.fresh 0 0 (cC w))}).IsTuple l items.toArray:=⟨_,Vt,rfl,nl,rfl⟩;unfold Builtin.«set.__init__» noKeywords Builtin.Frozenset.updateFrom;generalize hPI:pyIter=PI
    wp_walk
    subst hPI;refine wpAny_pyIter_tuple GF ?_;refine aA (wpAny_runValue ?_);have hlS:l<s.heap.objs.size:=bW hol;have hh3:A.in1.in1.in1.handled=none:=by simp[hh]
    have Vu:l≠(s.heap.push {cls:=.type "set",dict:=none,data:=.set #[] 0 (.fresh 0 0 (cC w))}).objs.size:=by
     rw[t_];exact dH (rT hlS)
    have O_:s.heap.objs.size∉[(s.heap.push {cls:=.type "set",dict:=none,data:=.set #[] 0 (.fresh 0 0 (cC w))}).objs.size,l]:=by
     rw[t_];simp only[dh,QD,oh,nY,not_or];exact⟨dH (Nm _),wK hlS⟩
    have Eu:∀(i:Nat) (v:Value),items.toArray[i]?=some v->items.getD i .none=v:=λi v hv=>by
     rw[Hl] at hv;rw[kj,hv];rfl
    have jP:items.toArray.size=ts.length:=by rw[dJ,hT.len]
    have Pa:∀i a,i<ts.length->items.getD i .none=.ref a->a∉[(s.heap.push {cls:=.type "set",dict:=none,data:=.set #[] 0 (.fresh 0 0 (cC w))}).objs.size]:=λi a hi e hm=>by
     obtain⟨a',e1,_,o,its,m,ho,_⟩:=hT.at' i hi;rw[e] at e1;cases e1;have hm:=QD.mp hm;rw[t_] at hm;have hlt:=bW ho;rw[hm] at hlt;exact Nat.not_succ_lt_self hlt
    refine zjb (led:=cC w) (items:=items) (ts:=ts) ((Walks.tuple hh3 _ l Vu items.toArray).toS) O_ jP Eu (by show A.units+1+1+1<cLine;lia) Pa (items.toArray.size-0) 0 _ [] (by lia) (p8 _)
     ⟨⟨_,iB _ rfl,rfl,rfl⟩,(GF.push _)⟩ (hT.mono λb o hb e=>cG _ (cG _ e)) ?T7 ⟨(λe he=>by cases he),λk hk=>by lia⟩ ?hR
    case T7=>
     have sU:((s.heap.push {cls:=.type "set",dict:=none,data:=.set #[] 0 (.fresh 0 0 (cC w))}).push {cls:=.type "tuple_iterator",data:=.fields #[.ref l,.int 0 0]}).get? s.heap.objs.size
      =some {cls:=.type "set",dict:=none,data:=.set #[] 0 (.fresh 0 0 (cC w))}:=cG _ hS
     exact⟨⟨0,_,sU,tab0,.inl ⟨rfl,p8 _⟩,rfl,rfl⟩,λe he=>by cases he⟩
    case hR=>
     intro s' L' hm Ew Ey Vv;obtain⟨h',g',d',tk',os'⟩:=s';have eg:g'=s.gens:=hm.gens;have ed:d'=s.drawn:=hm.drawn;have eo:os'=s.os:=hm.os;subst eg;subst ed;subst eo;show wpAny _ _ _ _ _ _;refine aL ?_;show wpAny _ _ (ret Value.none) _ _ _;refine aL ⟨rfl,h',tk',L',rfl,Ey,Ew,by rw[<-jP];exact Vv,λb o hb e=>?_⟩;have G3:b≠s.heap.objs.size:=dH hb;have nZ:b≠(s.heap.push {cls:=.type "set",dict:=none,data:=.set #[] 0 (.fresh 0 0 (cC w))}).objs.size:=by
      rw[t_];exact dH (rT hb)
     exact hm.heap b o (by simp only[dh,QD,oh,nY,not_or];exact⟨G3,nZ⟩) (cG _ (cG _ e))
   ·cases r₂ with
    |error e=>exact hr₂
    |ok fl₂=>
     cases fl₂ with
     |ret r=>
      obtain⟨rfl,h',tk,L,rfl,Ey,Ew,Vv,Ez⟩:=hr₂
      repeat (any_goals (first|assumption|wp_step))
      exact h _ _ L Ey Ew Vv Ez
     |_=>exact hr₂.elim
  |_=>exact hr.elim
end
theorem dG:Slot "set_iterator" "__next__" "set_iterator.__next__":=
 .of (owner:="set_iterator") (n:="__next__") (by rw[typeLookup_type,builtinLookup_eq_fast];kernel_rfl) (by decide +kernel) (by decide +kernel) (by decide +kernel)
  (by first|exact .inl (by decide +kernel)|exact .inr (by decide +kernel)) (by rw[isSubtype_type];kernel_rfl)
theorem zbM:Slot "set_iterator" "__iter__" "set_iterator.__iter__":=
 .of (owner:="set_iterator") (n:="__iter__") (by rw[typeLookup_type,builtinLookup_eq_fast];kernel_rfl) (by decide +kernel) (by decide +kernel) (by decide +kernel)
  (by first|exact .inl (by decide +kernel)|exact .inr (by decide +kernel)) (by rw[isSubtype_type];kernel_rfl)
theorem zeR:Manifest.owners.lookup (String.ofList ['r','o','t','a','r','e','t','i','_','t','e','s'].reverse)=some Manifest.sig_set_iterator:=by kernel_rfl
theorem zdk(a:Value):argsOk "set_iterator.__next__" ⟨[a],[]⟩:=by
 unfold argsOk;rw[signature?_of (id:="set_iterator.__next__") (n:=['_','_','t','x','e','n','_','_']) (o:=['r','o','t','a','r','e','t','i','_','t','e','s']) (by kernel_rfl) zeR];kernel_rfl
theorem zdq(a:Value):argsOk "set_iterator.__iter__" ⟨[a],[]⟩:=by
 unfold argsOk;rw[signature?_of (id:="set_iterator.__iter__") (n:=['_','_','r','e','t','i','_','_']) (o:=['r','o','t','a','r','e','t','i','_','t','e','s']) (by kernel_rfl) zeR];kernel_rfl
theorem zcV:entryFor table "set_iterator.__next__"=some Builtin.«set_iterator.__next__»:=entryFor_of_tree (by kernel_rfl)
theorem zc6:entryFor table "set_iterator.__iter__"=some Builtin.«dict_keyiterator.__iter__»:=
 entryFor_alias (id':="dict_keyiterator.__iter__") (by kernel_rfl) (by first|rfl|decide +kernel|(unfold String.splitOn;simp +decide [String.splitOnAux])) (by decide +kernel) (by kernel_rfl)
theorem zcp:entryFor table "set.__iter__"=some Builtin.«frozenset.__iter__»:=
 entryFor_alias (id':="frozenset.__iter__") (by kernel_rfl) rfl (by decide +kernel) (by kernel_rfl)
noncomputable def dz(L:Ent):Nat->Nat
 |0=>0
 |k+1=>(L.getD k (0,0)).1+1
theorem zic{L:Ent}(h:gF L){k:Nat}(hk:k<=L.length):below (L.map (·.1)).toArray (dz L k)=k:=by
 obtain⟨La,Lb,e,hb,h1,h2⟩:=U8 h (dz L k);rw[hb];have hp:=tV.mp h;have hll:La.length+Lb.length=L.length:=by rw[e,cY]
 have inA:∀i (hi:i<L.length),i<La.length->L[i].1<dz L k:=λi hi q=>h1 _ (by
  have:L[i]=La[i]:=by
   simp only[e];exact List.getElem_append_left q
  rw[this];exact pY _)
 have inB:∀i (hi:i<L.length),La.length<=i->dz L k<=L[i].1:=λi hi q=>h2 _ (by
  have:L[i]=Lb[i-La.length]'(by lia):=by
   simp only[e];exact List.getElem_append_right q
  rw[this];exact pY _)
 cases k with
 |zero=>
  cases La with
  |nil=>rfl
  |cons x r=>
   have:=h1 x fV;exact absurd this (Nat.not_lt_zero _)
 |succ k=>
  have hs:dz L (k+1)=L[k].1+1:=by
   show (L.getD k (0,0)).1+1=_;simp[show k<L.length by lia]
  rw[hs] at inA inB;rcases QJ La.length (k+1) with z|z|z
  ·have:=inB k (by lia) (by lia)
   lia
  ·exact z
  ·have h3:=inA (k+1) (by lia) z;have h4:=hp k (k+1) (by rw[bN];lia) (by rw[bN];lia) (by lia);rw[List.getElem_map,List.getElem_map] at h4
   lia
theorem zhl{α:Type}(next:Nat->Nat):∀(fuel k:Nat) (left:List α) (out:Array α),left.length<=fuel->(pickOrder.go next fuel k left out).toList.Perm (out.toList++left)
 |0,k,left,out,h=>by
  have:left=[]:=List.length_eq_zero_iff.mp (by lia);subst this;unfold pickOrder.go;rw[FN]
 |fuel+1,k,left,out,h=>by
  unfold pickOrder.go;cases left with
  |nil=>simp
  |cons y r=>
   have hlt:next k%(y::r).length<(y::r).length:=Nat.mod_lt _ (by simp);rw[fL hlt];dsimp only;generalize next k%(y::r).length=i at hlt;refine(zhl next fuel (k+1) _ _ (by rw[List.length_eraseIdx_of_lt hlt];lia)).trans ?_;rw[Array.toList_push,Fy];refine List.Perm.append_left _ ?_;rw[List.eraseIdx_eq_take_drop_succ];have:(y::r)=(y::r).take i++(y::r)[i]::(y::r).drop (i+1):=by
    rw[<-List.drop_eq_getElem_cons hlt,Qt]
   refine List.Perm.trans ?_ (List.Perm.of_eq this.symm);exact(List.perm_middle (l₁:=(y::r).take i)).symm
theorem zg6{α:Type}(next:Nat->Nat)(xs:List α):(pickOrder next xs.toArray).toList.Perm xs:=by
 unfold pickOrder;have:=zhl next xs.toArray.size 0 xs #[] (by simp);simpa using this
section
variable {prog:Program}{w:World}{A:Around}{E:Value->Shared->Prop}{s:Shared}{S:Addr}{items:List Value}{ts:List (Int×Int)}{L:Ent}
noncomputable def bZ(w:World)(S:Addr)(ep:Nat)(es:List (Int×Value)):List (Int×Value):=if w.params.followText "set-order"=true then (pickOrder (w.params.setOrder S ep) es.toArray).toList else es
theorem mJ{ep:Nat}{es:List (Int×Value)}:(bZ w S ep es).Perm es:=by
 unfold bZ
 split
 ·exact zg6 _ _
 ·exact List.Perm.refl _
noncomputable def qF(items:List Value)(ts:List (Int×Int))(L:Ent)(ep:Nat)(t:SetTable):Obj:={cls:=.type "set",dict:=none,data:=.set (aJ items ts L).toArray ep t}
noncomputable def Bk(S:Addr)(slot i n ep:Nat):Obj:={cls:=.type "set_iterator",data:=.fields #[.int slot 0,.int i 0,.ref S,.int n 0,.int ep 0]}
theorem Vw{Q:Bool->Shared->Prop}(h:Q (w.params.followText "set-order") s):wpAny (model prog w) A setsByText Q E s:=by
 unfold setsByText;exact aA (wpAny_askSetting (aL h))
theorem zfw{ep:Nat}{t:SetTable}{Q:Value->Shared->Prop}(ho:s.heap.get? S=some (qF items ts L ep t))(tb:Tab (bU ts) t L)(cap:wu t.mask L.length)(bM:t.plain=true)
  (h:Q (.ref s.heap.objs.size) {s with heap:=s.heap.push (Bk S 0 0 L.length ep)}):wpAny (model prog w) A (pyIter (.ref S)) Q E s:=by
 have hT:s.TypeIs (.ref S) "set":=⟨_,ho,rfl⟩;have hf':=Lw (items:=items) tb cap;refine wpAny_pyIter_slot hT F.slot_set_iter (tX F.slot_set_iter hT zcp ?_ (F.args_set_iter_1 _));unfold Builtin.«frozenset.__iter__» Builtin.Frozenset.slot0 slotArgs;simp only[List.isEmpty_nil,xV,jK,↓reduceIte,bind_assoc,rW,Fx];unfold Builtin.Frozenset.addrOf Builtin.Frozenset.sizeOf;refine aA (aL ?_)
 try dsimp only
 refine aA (aL ?_);refine aA (aA (wpAny_setEntries_of ho rfl hf' (aL ?_)));unfold setDrawn;refine aA (aA (xR ho rfl hf' (aA (Vw (aL ?_)))));have hdr:(!w.params.followText "set-order"&&(!t.plain&&decide ((aJ items ts L).toArray.size>1)))=false:=by rw[bM];simp
 show wpAny _ _ (if (!w.params.followText "set-order"&&(!t.plain&&decide ((aJ items ts L).toArray.size>1)))=true then _ else _) _ _ _;rw[hdr];simp only[jK,jA];refine aA (aL ?_);refine aA (wpAny_setEpoch_of ho rfl hf' ?_);have xG:(aJ items ts L).toArray.size=L.length:=by unfold aJ;rw[dJ,bN]
 rw[xG];refine aA (pI (aL ⟨_,rfl,"set_iterator",_,⟨_,iB _ rfl,rfl⟩,dG.lookup,?_⟩));exact h
theorem Ma{I slot i n ep:Nat}(hit:s.heap.get? I=some (Bk S slot i n ep)):s.TypeIs (.ref I) "set_iterator":=⟨_,hit,rfl⟩
theorem zm4:(aJ items ts L).toArray.size=L.length:=by unfold aJ;rw[dJ,bN]
theorem zcT{ep i:Nat}{t:SetTable}{slot:Nat}{Q:Option (Value×Nat)->Shared->Prop}(ho:s.heap.get? S=some (qF items ts L ep t))(tb:Tab (bU ts) t L)(cap:wu t.mask L.length)(bM:t.plain=true)(ju:t.led=cC w)(hi:i<=L.length)(m7:w.params.followText "set-order"=false->slot=dz L i)
  (h:∀eE,(w.params.followText "set-order"=false->eE=dz L (i+1))->Q ((bZ w S ep (aJ items ts L))[i]?.map λe=>(e.2,eE)) s) :
  wpAny (model prog w) A (setNext S slot i ep) Q E s:=by
 have hf':=Lw (items:=items) tb cap;unfold setNext;refine aA (xR ho rfl hf' ?_);dsimp only;refine aA (Vw ?_);by_cases hb:w.params.followText "set-order"=true
 ·rw[if_pos hb];simp only[Fx,jK,jA];unfold setWalk;refine aA (aA (xR ho rfl hf' (aA (Vw ?_))));rw[if_pos hb];refine aA (wpAny_askSetting (aL ?_));refine aL ?_;have:=h slot (λq=>by rw[hb] at q;cases q);unfold bZ at this;rw[if_pos hb,M7] at this;exact this
 ·have hb':w.params.followText "set-order"=false:=by simpa using hb
  rw[if_neg hb];have hl:t.led=true:=by rw[ju];unfold cC;rw[hb'];rfl
  show wpAny _ _ (if (!t.plain&&decide ((aJ items ts L).toArray.size>1))=true then _ else _) _ _ _;rw[bM];simp only[xV,HF,jK,jA];refine aA ?_;show wpAny _ _ (if (!t.led && !(aJ items ts L).toArray.isEmpty)=true then _ else _) _ _ _;rw[hl];simp only[xV,HF,jK,jA];refine aL ?_;have hbl:below t.place slot=i:=by rw[tb.place,m7 hb'];exact zic tb.asc hi
  rw[hbl];refine aL ?_;have hw:bZ w S ep (aJ items ts L)=aJ items ts L:=by unfold bZ;rw[if_neg hb]
  have:=h (dz L (i+1)) (λ_=>rfl);rw[hw] at this;rw[Hl,tb.place,Hl];cases e:L[i]? with
  |none=>
   have e1:(aJ items ts L)[i]?=none:=by unfold aJ;rw[i_,e];rfl
   rw[e1] at this ⊢;exact this
  |some x=>
   have e1:(aJ items ts L)[i]?=some (bU ts x.2,items.getD x.2 .none):=by unfold aJ;rw[i_,e];rfl
   have e2:(L.map (·.1))[i]?=some x.1:=by rw[i_,e];rfl
   have e3:dz L (i+1)=x.1+1:=by show (L.getD i (0,0)).1+1=_;rw[kj,e];rfl
   rw[e1,e3] at this;rw[e1,e2];exact this
theorem zcG{I ep i:Nat}{t:SetTable}{slot:Nat}{Q:Option Value->Shared->Prop}(hh:A.handled=none)(hit:s.heap.get? I=some (Bk S slot i L.length ep))(ho:s.heap.get? S=some (qF items ts L ep t))(tb:Tab (bU ts) t L)(cap:wu t.mask L.length)(bM:t.plain=true)(ju:t.led=cC w)(hi:i<=L.length)(m7:w.params.followText "set-order"=false->slot=dz L i)
  (h1:∀e h' eE,(bZ w S ep (aJ items ts L))[i]?=some e->h'.get? I=some (Bk S eE (i+1) L.length ep)->(w.params.followText "set-order"=false->eE=dz L (i+1))->Heap.SameBut I s.heap h'->Q (some e.2) {s with heap:=h'})
  (h2:∀h',(bZ w S ep (aJ items ts L))[i]?=none->Heap.ExtBut I s.heap h'->Q none {s with heap:=h'}):wpAny (model prog w) A (pyNext (.ref I)) Q E s:=by
 have hf':=Lw (items:=items) tb cap;unfold pyNext;refine aA (HJ (zL (name:=Str.ofString "__next__") (Ma hit) dG
  (tX dG (Ma hit) zcV ?_ (zdk _))))
 unfold Builtin.«set_iterator.__next__» slotArgs;simp only[List.isEmpty_nil,xV,jK,↓reduceIte,bind_assoc,rW,Fx];refine aA (aL ?_);dsimp only;refine aA (wpAny_fieldsOf hit rfl ?_);dsimp only;refine aA (wpAny_setEntries_of ho rfl hf' ?_);rw[zm4];simp only[Fx,jK,jA];rw[wI,wI,wI];refine aA (zcT ho tb cap bM ju hi m7 λeE hs'=>?_);cases e:(bZ w S ep (aJ items ts L))[i]? with
 |some x=>
  dsimp only[Option.map_some];refine aA (zQ hit rfl (by simp) ?_);have g1:(s.heap.update I (Obj.mapFields (·.setIfInBounds 0 (rawInt eE)))).get? I=some (Bk S eE i L.length ep):=by
   have:=uH (Obj.mapFields (·.setIfInBounds 0 (rawInt eE))) hit rfl;exact this
  refine aA (zQ (s:={s with heap:=s.heap.update I (Obj.mapFields (·.setIfInBounds 0 (rawInt eE)))}) g1 rfl (by simp) ?_);refine aL ⟨_,rfl,aL (h1 x _ eE e ?_ hs' ((Bu ..).trans (Bu ..)))⟩;have:=uH (Obj.mapFields (·.setIfInBounds 1 (rawInt ((i:Int)+1)))) g1 rfl;exact this
 |none=>
  dsimp only[Option.map_none];refine aA (zQ hit rfl (by simp) ?_);show wpAny _ _ (newExc (.type "StopIteration") [] >>= _) _ _ _;refine aA ?_;simp only[newExc,newTuple];refine aA (pI ?_ (by size_fits));refine aA (m:=firstArgMember _ _) (FZ (a:=Value.none) (by first|rfl|(simp only[firstArgMember];rfl)) ?_);refine pI ?_ (by size_fits);simp only[raiseNew];refine aA (wpAny_handled ?_)
  first|rw[show A.in1.handled=none from hh]|rw[hh]
  refine aA (aL (wpAny_throw ?_));refine aA (wpAny_isInstance (T:="StopIteration") (b:=true) ⟨_,iB _ rfl,rfl⟩ isSubtype_stop ?_);exact aL (h2 _ e (((Bu ..).extBut.push _).push _))
end
end Ts
namespace Ts
open PySem PySem.SetTable PySem.Spec PyProof.Rows PySem.W L2
section
variable {prog:Program}{w:World}{A:Around}{E:Value->Shared->Prop}{s:Shared}{S:Addr}{items:List Value}{ts:List (Int×Int)}{L:Ent}
theorem Vx{ep:Nat}:(bZ w S ep (aJ items ts L)).length=L.length:=by
 rw[mJ.length_eq];unfold aJ;rw[bN]
theorem zg9{ep:Nat}{t:SetTable}(hh:A.handled=none)(I:Addr)(hne:S≠I)(tb:Tab (bU ts) t L)(cap:wu t.mask L.length)(bM:t.plain=true)(ju:t.led=cC w) :
  Walks prog w A I [I,S] [I] L.length (λi v=>∃e,(bZ w S ep (aJ items ts L))[i]?=some e/\e.2=v) (λi h=>i<=L.length/\h.get? S=some (qF items ts L ep t)/\∃slot,h.get? I=some (Bk S slot i L.length ep)/\(w.params.followText "set-order"=false->slot=dz L i)) where
 «sub»:=λb hb=>by simp at hb;simp[hb]
 frame:=λ_ _ _ st hk=>let ⟨a,b,slot,c,d⟩:=st;⟨a,hk S (by simp) _ b,slot,hk I (by simp) _ c,d⟩
 item:=λi s Q E hi st hQ=>by
  obtain⟨a,b,slot,c,d⟩:=st;refine zcG hh c b tb cap bM ju a d (λe h' eE e1 e2 e3 e4=>?_) (λh' e1 _=>?_)
  ·exact hQ e.2 h' s.toks ⟨e,e1,rfl⟩ ⟨hi,e4.extBut S _ hne b,eE,e2,e3⟩ λb o hb e=>e4.extBut b o (λh=>hb (by simp[h])) e
  ·have:=qI.mp e1;rw[Vx] at this
   lia
 done:=λs Q E st hQ=>by
  obtain⟨a,b,slot,c,d⟩:=st;refine zcG hh c b tb cap bM ju a d (λe h' eE e1 _ _ _=>?_) (λh' _ e2=>?_)
  ·have:=(jy.mp e1).1;rw[Vx] at this
   lia
  ·exact hQ h' s.toks λb o hb e=>e2 b o (λh=>hb (by simp[h])) e
 self:=λ_ s _ _ st hQ=>by
  obtain⟨a,b,slot,c,d⟩:=st;refine wpAny_pyIter_slot (Ma c) zbM (tX zbM (Ma c) zc6 ?_ (zdq _));show wpAny _ _ (ret (.ref _)) _ _ s;exact aL ⟨_,rfl,"set_iterator",_,Ma c,dG.lookup,hQ⟩
theorem zhZ{ep:Nat}{t:SetTable}{Q:Bool->Shared->Prop}(ho:s.heap.get? S=some (qF items ts L ep t))(h:Q false s):wpAny (model prog w) A (Builtin.List.listLengthHint (.ref S)) Q E s:=by
 unfold Builtin.List.listLengthHint;refine aA (wpAny_specialOf ⟨_,ho,rfl⟩ F.slot_set_len.lookup ?_);generalize hid:("set.__len__" : String)=id0
 wp_delta
 rw[show splitId id0=some ("set","__len__") from by subst hid;decide +kernel];subst hid;refine aA (wpAny_isInstance (T:="set") (b:=true) ⟨_,ho,rfl⟩ (by rw[isSubtype_type];kernel_rfl) ?_);refine wpAny_ite_split (λrK=>absurd rK (by decide)) (λ_=>?_);refine wpAny_ite_split (λ_=>?_) (λrK=>absurd (by decide +kernel) rK);refine aA (zT (T:="set") ⟨_,ho,rfl⟩ ?_);exact aL h
theorem zft{ep:Nat}{acc:Array Value}(h:ItemsOf (λi v=>∃e,(bZ w S ep (aJ items ts L))[i]?=some e/\e.2=v) acc L.length):acc=((bZ w S ep (aJ items ts L)).map (·.2)).toArray:=by
 obtain⟨h1,h2⟩:=h;apply Array.toList_inj.mp;apply List.ext_getElem?;intro i;cases e:acc[i]? with
 |none=>
  have:=Array.getElem?_eq_none_iff.mp e;rw[M7,e]
  symm
  rw[qI,bN,Vx]
  lia
 |some v=>
  obtain⟨x,e1,e2⟩:=h2 i v e;rw[M7,e];show some v=((bZ w S ep (aJ items ts L)).map (·.2))[i]?;rw[i_,e1,<-e2];rfl
theorem zem{ep:Nat}{t:SetTable}{Q:List Value->Shared->Prop}(hh:A.handled=none)(ho:s.heap.get? S=some (qF items ts L ep t))(tb:Tab (bU ts) t L)(cap:wu t.mask L.length)(bM:t.plain=true)(ju:t.led=cC w)
  (h:∀h' tk,(∀b o,s.heap.get? b=some o->h'.get? b=some o)->Q ((bZ w S ep (aJ items ts L)).map (·.2)) {s with heap:=h',toks:=tk}):wpAny (model prog w) A (collect (.ref S)) Q E s:=by
 have hlt:S<s.heap.objs.size:=bW ho;have aae:(100:Nat)<=sizeLine:=by decide
 have hn:L.length<=sizeLine:=by rcases cap with c|c|c<;>lia
 unfold collect;refine aA (wpAny_runValue (FP entry_proto_collect' ?_));show wpAny _ _ (do again (.builtin "list.__iadd__" ⟨[<-newList [],.ref S],[]⟩)) _ _ s;refine aA (wpAny_newList (aL ⟨Ng _ (by decide +kernel),FP entry_list_iadd' ?_⟩));show wpAny _ _ (Builtin.List.listExtendWith (.ref s.heap.objs.size) (.ref S) (.ref s.heap.objs.size)) _ _ {s with heap:=s.heap.push (seqObj "list" #[] 0)};have kW:(s.heap.push (seqObj "list" #[] 0)).get? S=some (qF items ts L ep t):=cG _ ho;unfold Builtin.List.listExtendWith;refine aA (zT (T:="set") ⟨_,kW,rfl⟩ ?_);have h1:Builtin.List.listSameRef (.ref s.heap.objs.size) (.ref S)=false:=by simp[Builtin.List.listSameRef,wK hlt]
 have h2:(Value.type "set"==Value.type "list")=false:=by decide
 have h3:(Value.type "set"==Value.type "tuple")=false:=by decide
 simp only[h1,h2,h3,Bool.or_false,jK,jA];refine aA (zfw kW tb cap bM ?_);refine aA (lJ (zhZ (cG _ kW) ?_));refine wpAny_ite_split (λ_=>?_) (λrK=>absurd (by decide +kernel) rK);refine aA (Ga ?_);refine aA ?_;have hS₁:((s.heap.push (seqObj "list" #[] 0)).push (Bk S 0 0 L.length ep)).get? s.heap.objs.size=some (seqObj "list" #[] 0):=cG _ (iB _ rfl);show wpAny _ _ (updateSeq s.heap.objs.size (·.push .none) >>= λ_=>updateSeq s.heap.objs.size (·.pop)) _ _ _;refine aA (wpAny_updateSeq hS₁ rfl ?_);have hS₂:=uH (Obj.mapSeq (·.push Value.none)) hS₁ rfl;refine wpAny_updateSeq (hz:=by seq_fits) hS₂ rfl ?_;have hS₃:=uH (Obj.mapSeq (·.pop)) hS₂ rfl;have hI:(s.heap.push (seqObj "list" #[] 0)).objs.size=s.heap.objs.size+1:=by rw[size_push']
 refine aL ⟨plainId_quiet F.plain_extend_loop _,?_⟩;have oth:∀b o,b≠s.heap.objs.size->(s.heap.push (seqObj "list" #[] 0)).get? b=some o->((((s.heap.push (seqObj "list" #[] 0)).push (Bk S 0 0 L.length ep)).update s.heap.objs.size (Obj.mapSeq (·.push Value.none))).update s.heap.objs.size (Obj.mapSeq (·.pop))).get? b=some o:=λb o hb e=>
  (wH _ _ (Ne.symm hb)).trans ((wH _ _ (Ne.symm hb)).trans (cG _ e))
 have hne:S≠(s.heap.push (seqObj "list" #[] 0)).objs.size:=by rw[hI];exact dH (rT hlt)
 have CT:s.heap.objs.size≠(s.heap.push (seqObj "list" #[] 0)).objs.size:=by rw[hI];lia
 refine codeAny_extend_loopS ((zg9 (items:=items) (ep:=ep) (by simp[hh]) (s.heap.push (seqObj "list" #[] 0)).objs.size hne tb cap bM ju).toS) hn s.heap.objs.size (by simp only[dh,oh,nY,not_or];exact⟨CT,wK hlt⟩) _ L.length 0 _ #[] _ rfl (p8 _)
  ⟨p8 _,oth S _ (dH hlt) kW,0,(wH _ _ CT).trans ((wH _ _ CT).trans (iB _ rfl)),λ_=>rfl⟩ hS₃ (ItemsOf.nil _) λs' acc' c' hm Ey Vy=>?_
 have ea:=zft Vy;rw[Moved.eq_with hm];show wpAny _ _ _ _ _ _;dsimp only;refine aA (wpAny_load Ey ?_);dsimp only;refine aL ?_;rw[ea];refine h s'.heap s'.toks λb o e=>?_;have hb:b<s.heap.objs.size:=bW e;refine hm.heap b o ?_ (oth b o (dH hb) (cG _ e));simp only[dh,oh,nY,not_or];exact⟨dH hb,by rw[hI];exact dH (rT hb)⟩
theorem zfY{u:Value}{vs:List Value}{κ:SortKind}{lt:Nat->Nat->Option Bool}{p:Array Nat}{Q:Value->Shared->Prop}(Vz:∀(Q':List Value->Shared->Prop) (E':Value->Shared->Prop),(∀h' tk,(∀b o,s.heap.get? b=some o->h'.get? b=some o)->Q' vs {s with heap:=h',toks:=tk})->wpAny (model prog w) A.in1 (collect u) Q' E' s)(yH:vs.length<64)
  (hk:2<=vs.length->∀(s':Shared) (Q:SortKind->Shared->Prop) E,(∀b o,s.heap.get? b=some o->s'.heap.get? b=some o)->Q κ s'->wpAny (model prog w) A.in1.in1 (keyKind' vs.toArray) Q E s')
  (hlt:2<=vs.length->∀(s':Shared) i j b C,(∀b o,s.heap.get? b=some o->s'.heap.get? b=some o)->lt i j=some b->C b s'->kas_ask prog w A.in1.in1 κ vs i j C s') (hr:2<=vs.length->aZ lt (kas_sort vs.length)=some p) (JL:2<=vs.length->p.size=vs.length)
  (h:∀h' tk r e,(∀b o,s.heap.get? b=some o->h'.get? b=some o)->(∀b o,s.heap.get? b=some o->b<r)->h'.get? r=some (seqObj "list" (gP vs p) e)->Q (.ref r) {s with heap:=h',toks:=tk}) :
  wpAny (model prog w) A (call (.builtin "sorted") [u]) Q E s:=by
 refine Calls.call_function_entry kind_sorted plain_sorted entry_sorted (args_sorted1 _) ?_;unfold Builtin.«sorted»;refine aA (m:=checkCount "sorted" 1 1 _) (aL ?_);refine aA (Vz _ _ λh1 tk mK=>?_);refine aA (wpAny_newList ?_ (by rw[qL];lia));have zZ:(h1.push (seqObj "list" vs.toArray 0)).get? h1.objs.size=some (seqObj "list" vs.toArray 0):=iB _ rfl;have keep:∀b o,s.heap.get? b=some o->(h1.push (seqObj "list" vs.toArray 0)).get? b=some o:=λb o q=>cG _ (mK b o q);have nn:∀b o,s.heap.get? b=some o->b≠h1.objs.size:=λb o e=>dH (bW (mK b o e));refine aA (lJ (tX slot_list_sort ⟨_,zZ,rfl⟩ entry_list_sort (Y8 (κ:=κ) (lt:=lt) (p:=p) zZ yH (λh2 s' Q' k q=>hk h2 s' Q' _ (λb o e=>k b o (nn b o e) (keep b o e)) q) (λh2 s' i j b C k e q=>hlt h2 s' i j b C (λb o e=>k b o (nn b o e) (keep b o e)) e q) hr JL ⟨_,rfl,?_⟩) (args_list_sort _)));obtain⟨e,he⟩:=sortedHeap_at (out:=gP vs p) zZ;refine aL ⟨_,rfl,h _ tk _ e (λb o q=>?_) (λb o q=>bW (mK b o q)) he⟩;have hb:=mK b o q;rw[sortedHeap_old (nn b o q) (by rw[size_push'];exact rT (bW hb))];exact keep b o q
end
end Ts
namespace Mi
open PySem PySem.Spec PyProof.Rows L2 PySem.W Ts
theorem zhp{α β:Type}{f:α->β}{l m:List β}(h:l.Perm m):∀{L:List α},m=L.map f->∃L':List α,L'.Perm L/\l=L'.map f:=by
 induction h with
 |nil=>intro L e;exact⟨L,.refl _,e⟩
 |cons x _ ih=>
  intro L e;cases L with
  |nil=>cases e
  |cons a L=>
   injection e with e1 e2;obtain⟨L',p,q⟩:=ih e2;exact⟨a::L',p.cons a,by rw[q,e1];rfl⟩
 |swap x y l=>
  intro L e
  match L,e with
  |a::b::L,e=>
   injection e with e1 e2;injection e2 with e2 e3;exact⟨b::a::L,.swap ..,by rw[e1,e2,e3];rfl⟩
 |trans _ _ ih1 ih2=>
  intro L e;obtain⟨L2,p2,q2⟩:=ih2 e;obtain⟨L1,p1,q1⟩:=ih1 q2;exact⟨L1,p1.trans p2,q1⟩
noncomputable def iY(a b:Int×Int):Bool:=decide (a.1<b.1\/a.1=b.1/\a.2<b.2)
noncomputable def Bl(us:List (Int×Int))(i j:Nat):Option Bool:=match us[i]?,us[j]? with
 |some a,some b=>some (iY a b)
 |_,_=>none
def Pb(us:List (Int×Int))(i j:Nat):Prop:=iY (us.getD j (0,1)) (us.getD i (0,1))=false
theorem lF{a b:Int×Int}:iY a b=true↔(a.1<b.1\/a.1=b.1/\a.2<b.2):=QF
theorem VB{a b:Int×Int}:iY a b=false↔¬(a.1<b.1\/a.1=b.1/\a.2<b.2):=M6
theorem VD(us:List (Int×Int)):Ord us.length (Bl us) (Pb us):=by
 refine⟨λi j hi hj=>?_,λi j k _ _ _ h1 h2=>?_⟩
 ·unfold Bl Pb;rw[fL hi,fL hj,kj,kj,fL hi,fL hj];show (some (iY us[i] us[j])=some true/\iY us[j] us[i]=false)\/(some (iY us[i] us[j])=some false/\iY us[i] us[j]=false);cases e:iY us[i] us[j]
  ·exact .inr ⟨rfl,rfl⟩
  ·refine .inl ⟨rfl,?_⟩;rw[lF] at e;rw[VB]
   lia
 ·unfold Pb at *;rw[VB] at *
  lia
theorem Mf:iQ.Pairwise λa b=>iY a b=true:=by decide +kernel
theorem Pg:∀{l m:List (Int×Int)},(l.Pairwise λa b=>iY a b=true)->(m.Pairwise λa b=>iY a b=true)->(∀x,x∈l↔x∈m)->l=m
 |[],[],_,_,_=>rfl
 |[],b::m,_,_,h=>by have:=(h b).mpr fV;cases this
 |a::l,[],_,_,h=>by have:=(h a).mp fV;cases this
 |a::l,b::m,p,q,h=>by
  obtain⟨p1,p2⟩:=Bv.mp p;obtain⟨q1,q2⟩:=Bv.mp q;have irr:∀x,iY x x=true->False:=λx hx=>by rw[lF] at hx;lia
  have e:a=b:=by
   rcases dh.mp ((h a).mp fV) with z|z
   ·exact z
   ·rcases dh.mp ((h b).mpr fV) with y|y
    ·exact y.symm
    ·have h1:=p1 b y;have h2:=q1 a z;rw[lF] at h1 h2
     lia
  subst e;rw[Pg p2 q2 λx=>⟨λhx=>?_,λhx=>?_⟩]
  ·rcases dh.mp ((h x).mp (fM _ hx)) with z|z
   ·subst z;exact(irr _ (p1 _ hx)).elim
   ·exact z
  ·rcases dh.mp ((h x).mpr (fM _ hx)) with z|z
   ·subst z;exact(irr _ (q1 _ hx)).elim
   ·exact z
theorem ziI{ts:List (Int×Int)}(ht:∀t∈ts,iu t){x:Int×Int}:x∈ss ts↔x∈ts:=by
 unfold ss;rw[xU];exact⟨λh=>by simpa using h.2,λh=>⟨Ls (ht x h),by simpa using h⟩⟩
theorem Pj{ts:List (Int×Int)}:(ss ts).Pairwise λa b=>iY a b=true:=Mf.filter _
theorem zdg{us:List (Int×Int)}(hn:2<=us.length)(hd:us.Nodup):∃p,aZ (Bl us) (kas_sort us.length)=some p/\p.size=us.length/\(∀i∈p.toList,i<us.length)/\(∀x,x∈p.toList.map (λi=>us.getD i (0,1))↔x∈us)/\(p.toList.map λi=>us.getD i (0,1)).Pairwise λa b=>iY a b=true:=by
 obtain⟨p,e,hp,ha⟩:=zmc (VD us) (by lia);have hs:p.size=us.length:=hp.size;have hm:(p.toList.map λi=>us.getD i (0,1)).Perm us:=by
  have h1:(p.toList.map λi=>us.getD i (0,1)).Perm ((List.range us.length).map λi=>us.getD i (0,1)):=(Array.Perm.toList hp).map _;have h2:((List.range us.length).map λi=>us.getD i (0,1))=us:=by
   apply List.ext_getElem
   ·simp
   ·intro i a b;simp[kj,b]
  rw[h2] at h1;exact h1
 refine⟨p,e,hs,λi hi=>?_,λx=>hm.mem_iff,?_⟩
 ·have:=(Array.Perm.toList hp).mem_iff.mp hi;simpa using this
 ·have nd:(p.toList.map λi=>us.getD i (0,1)).Nodup:=hm.nodup_iff.mpr hd;rw[tV];intro i j hi hj lN;have hne:=tV.mp nd i j hi hj lN;have oM:i<p.size:=by simpa using hi
  have Lj:j<p.size:=by simpa using hj
  have hl:=ha i j lN (by lia);unfold Pb at hl;have e1:p.getD i 0=p[i]:=by simp[Array.getD,oM]
  have e2:p.getD j 0=p[j]:=by simp[Array.getD,Lj]
  rw[e1,e2] at hl;simp only[List.getElem_map,Array.getElem_toList] at hne ⊢;generalize us.getD p[i] (0,1)=x at *;generalize us.getD p[j] (0,1)=y at *;rw[VB] at hl;rw[lF];obtain⟨x1,x2⟩:=x;obtain⟨y1,y2⟩:=y;simp only[Prod.mk.injEq,ne_eq,not_and] at *
  lia
section
variable {prog:Program}{w:World}{A:Around}{E:Value->Shared->Prop}{s:Shared}{S:Addr}{items:List Value}{ts:List (Int×Int)}{L:Ent}
theorem zhr{h:Heap}(T:gH prog w h S items ts):∀{js:List Nat},(∀j∈js,j<ts.length)->∃fs:List Value,fs.length=(js.map (items.getD · Value.none)).length/\(∀f∈fs,∃i t,f=Value.int i t)/\KatTups h (js.map (items.getD · Value.none)) fs
 |[],_=>⟨[],rfl,(λf hf=>by cases hf),trivial⟩
 |j::js,hj=>by
  obtain⟨fs,l,hf,kt⟩:=zhr T (js:=js) λj' h'=>hj j' (fM _ h');obtain⟨a,e,_,o,its,n,ho,hc,hd,hi⟩:=T.at' j (hj j fV);obtain⟨its⟩:=its;cases hi with
  |cons hv hr=>
   obtain⟨t,rfl⟩:=Fw hv;refine⟨Value.int (aP ts j).1 t::fs,by simp[l],λf hf'=>?_,?_⟩
   ·rcases dh.mp hf' with rfl|z
    ·exact⟨_,t,rfl⟩
    ·exact hf f z
   ·rw[jL,e];exact KatTups.cons ho hc hd (by simp) kt
theorem VF{a b:Int×Int}:jR [.int a.1,.int a.2] [.int b.1,.int b.2]=some (iY a b):=by
 unfold iY;simp only[jR];by_cases h1:a.1=b.1
 ·rw[if_pos h1];by_cases h2:a.2=b.2
  ·rw[if_pos h2]
   congr 1
   simp only[rW,nW,decide_false]
   symm
   rw[M6]
   lia
  ·rw[if_neg h2]
   congr 1
   rw[tY]
   lia
 ·rw[if_neg h1]
  congr 1
  rw[tY]
  lia
theorem zeN{x y:Int}{its:List Value}(hi:ItemsAre (intKind prog w) [x,y] its):Vals [.int x,.int y] its:=by
 cases hi with
 |cons hv hr=>
  cases hr with
  |cons hv2 Mg=>
   cases Mg;obtain⟨t,rfl⟩:=Fw hv;obtain⟨t',rfl⟩:=Fw hv2;exact .cons ⟨t,rfl⟩ (.cons ⟨t',rfl⟩ .nil)
theorem zhW{l:Addr}{Q:Value->Shared->Prop}(hh:A.handled=none)(hu:A.units+8<cLine)(hl:s.heap.IsTuple l items.toArray)(hT:gH prog w s.heap s.heap.objs.size items ts)
  (h:∀h' tk r e (js:List Nat),(∀b o,s.heap.get? b=some o->h'.get? b=some o)->s.heap.objs.size<=r->js.map (aP ts)=ss ts->(∀j∈js,j<ts.length)->h'.get? r=some (seqObj "list" (js.map (items.getD · Value.none)).toArray e)->Q (.ref r) {s with heap:=h',toks:=tk}) :
  wpAny (model prog w) A (PySem.call (.type "set") [.ref l]) (λv s'=>wpAny (model prog w) A (PySem.call (.builtin "sorted") [v]) Q E s') E s:=by
 refine zda hh hu hl hT λh1 tk1 L hS T1 hD mK=>?_;obtain⟨⟨ep,t,ho,tb,cap,bM,ju⟩,idx⟩:=hS;have k1:∀b o,s.heap.get? b=some o->h1.get? b=some o:=λb o e=>mK b o (bW e) e;obtain⟨L',pL,eL⟩:=zhp (f:=λe:Nat×Nat=>(bU ts e.2,items.getD e.2 Value.none)) (mJ (w:=w) (S:=s.heap.objs.size) (ep:=ep) (es:=aJ items ts L)) (L:=L) rfl;have ev:(bZ w s.heap.objs.size ep (aJ items ts L)).map (·.2)=(L'.map (·.2)).map (items.getD · Value.none):=by
  rw[eL,lK,lK];rfl
 have Bg:∀j∈L'.map (·.2),j<ts.length:=λj hj=>by
  obtain⟨e,he,rfl⟩:=fX.mp hj;exact idx e (pL.mem_iff.mp he)
 have nd:((L'.map (·.2)).map (aP ts)).Nodup:=by
  rw[lK];have:L'.Nodup:=pL.nodup_iff.mpr (by
   have:=tb.asc;unfold Ts.gF at this;rw[uJ] at this;exact this.imp λ{a b} z=>λe=>by subst e;lia)
  unfold List.Nodup;rw[uJ];refine(List.Pairwise.and_mem.mp this).imp λ{a b} z e=>z.2.2 (tb.inj a (pL.mem_iff.mp z.1) b (pL.mem_iff.mp z.2.1) ?_);show hf (aP ts a.2)=hf (aP ts b.2);rw[show aP ts a.2=aP ts b.2 from e]
 have aaf:L.length<=28:=by rcases cap with c|c|c<;>lia
 have hlen:((L'.map (·.2)).map (items.getD · Value.none)).length=L.length:=by rw[bN,bN];exact pL.length_eq
 have wB:((L'.map (·.2)).map (aP ts)).length=L.length:=by rw[bN,bN];exact pL.length_eq
 have t8:∀x∈ts,iu x:=λx hx=>by
  obtain⟨i,hi,rfl⟩:=Fq hx;have:=T1.tie i hi;unfold aP at this;rw[kj,fL hi] at this;exact this
 have VG:∀i,i<ts.length->aP ts i∈ts:=λi hi=>by
  unfold aP;rw[kj,fL hi];exact pY hi
 have hm:∀x,x∈(L'.map (·.2)).map (aP ts)↔x∈ss ts:=λx=>by
  rw[ziI t8];refine⟨λhx=>?_,λhx=>?_⟩
  ·obtain⟨j,hj,rfl⟩:=fX.mp hx;exact VG j (Bg j hj)
  ·obtain⟨i,hi,rfl⟩:=Fq hx;obtain⟨e,he,e2⟩:=hD.2 i hi;refine fX.mpr ⟨e.2,fX.mpr ⟨e,pL.mem_iff.mpr he,rfl⟩,?_⟩;rw[e2];unfold aP;rw[kj,fL hi];rfl
 have fin:∀(p:Array Nat),(2<=L.length->p.size=L.length/\(∀i∈p.toList,i<L.length)/\(∀x,x∈p.toList.map (λi=>((L'.map (·.2)).map (aP ts)).getD i (0,1))↔x∈(L'.map (·.2)).map (aP ts))/\(p.toList.map λi=>((L'.map (·.2)).map (aP ts)).getD i (0,1)).Pairwise λa b=>iY a b=true)->∃js:List Nat,js.map (aP ts)=ss ts/\(∀j∈js,j<ts.length)/\gP ((L'.map (·.2)).map (items.getD · Value.none)) p=(js.map (items.getD · Value.none)).toArray:=λp hp=>by
  unfold gP;by_cases h2:L.length<2
  ·rw[hlen,if_pos h2];refine⟨L'.map (·.2),Pg ?_ Pj hm,Bg,rfl⟩;rw[<-wB] at h2;generalize (L'.map (·.2)).map (aP ts)=us at h2
   match us,h2 with
   |[],_=>exact .nil
   |[x],_=>exact List.pairwise_singleton ..
  ·rw[hlen,if_neg h2];obtain⟨p1,p2,p3,p4⟩:=hp (by lia);have Du:∀i∈p.toList,(L'.map (·.2)).getD i 0∈L'.map (·.2)/\((L'.map (·.2)).map (items.getD · Value.none)).getD i Value.none=items.getD ((L'.map (·.2)).getD i 0) Value.none/\((L'.map (·.2)).map (aP ts)).getD i (0,1)=aP ts ((L'.map (·.2)).getD i 0):=λi hi=>by
    have oM:i<(L'.map (·.2)).length:=by rw[bN,pL.length_eq];exact p2 i hi
    generalize L'.map (·.2)=ks at oM;simp only[kj,i_,fL oM,Option.map_some,Option.getD_some];exact⟨pY oM,trivial,trivial⟩
   refine⟨p.toList.map λi=>(L'.map (·.2)).getD i 0,?_,λj hj=>?_,?_⟩
   ·rw[lK];have:p.toList.map (aP ts∘λi=>(L'.map (·.2)).getD i 0)=p.toList.map λi=>((L'.map (·.2)).map (aP ts)).getD i (0,1):=Hr λi hi=>((Du i hi).2.2).symm;rw[this];exact Pg p4 Pj λx=>(p3 x).trans (hm x)
   ·obtain⟨i,hi,rfl⟩:=fX.mp hj;exact Bg _ (Du i hi).1
   ·exact rZ List.toArray ((Hr λi hi=>(Du i hi).2.1).trans (by rw[lK];rfl))
 obtain⟨p,hr,hp⟩ : ∃p,(2<=L.length->aZ (Bl ((L'.map (·.2)).map (aP ts))) (kas_sort L.length)=some p)/\(2<=L.length->p.size=L.length/\(∀i∈p.toList,i<L.length)/\(∀x,x∈p.toList.map (λi=>((L'.map (·.2)).map (aP ts)).getD i (0,1))↔x∈(L'.map (·.2)).map (aP ts))/\(p.toList.map λi=>((L'.map (·.2)).map (aP ts)).getD i (0,1)).Pairwise λa b=>iY a b=true):=by
  by_cases h2:2<=L.length
  ·obtain⟨p,a,b,c,d,e⟩:=zdg (by rw[wB];exact h2) nd;rw[wB] at a b c;exact⟨p,λ_=>a,λ_=>⟨b,c,d,e⟩⟩
  ·exact⟨#[],λz=>absurd z h2,λz=>absurd z h2⟩
 obtain⟨js,j1,j2,j3⟩:=fin p hp;refine zfY (vs:=(L'.map (·.2)).map (items.getD · Value.none)) (κ:=tuples' true) (lt:=Bl ((L'.map (·.2)).map (aP ts))) (p:=p) (λQ' E' q=>?_) (by lia) (λh2 s' Q' E' k q=>?_) (λh2 s' i j b C k e hC=>?_) (λh2=>by rw[hlen] at h2 ⊢;exact hr h2) (λh2=>by rw[hlen] at h2 ⊢;exact(hp h2).1) (λh' tk r e k hn hg=>?_)
 ·refine zem (by simp[hh]) ho tb cap bM ju λh' tk k=>?_;rw[ev];exact q h' tk k
 ·obtain⟨fs,l1,hf,kt⟩:=zhr (T1.keep λi a o hi e g=>k a o g) Bg;exact Y_ h2 l1 hf kt q
 ·unfold Bl at e;split at e
  ·rename_i a c e1 e2;cases e;rw[i_,n_] at e1 e2;obtain⟨j1,g1,rfl⟩:=e1;obtain⟨j2,g2,rfl⟩:=e2;obtain⟨a1,b1,_,o1,i1,n1,Gk,_,Sg,hi1⟩:=T1.at' j1 (Bg j1 (jd g1));obtain⟨a2,b2,_,o2,i2,n2,oE,_,hd2,hi2⟩:=T1.at' j2 (Bg j2 (jd g2));obtain⟨i1⟩:=i1;obtain⟨i2⟩:=i2;show wpAny _ _ (keyLt' (tuples' true) (((L'.map (·.2)).map (items.getD · Value.none)).getD i Value.none) (((L'.map (·.2)).map (items.getD · Value.none)).getD j Value.none)) C _ s';have f1:((L'.map (·.2)).map (items.getD · Value.none))[i]?=some (.ref a1):=by rw[i_,g1,<-b1];rfl
   have f2:((L'.map (·.2)).map (items.getD · Value.none))[j]?=some (.ref a2):=by rw[i_,g2,<-b2];rfl
   rw[Dg f1,Dg f2];have r1:=zeN hi1;have r2:=zeN hi2;refine kat_lt (k _ _ Gk) Sg (k _ _ oE) hd2 (Y9 r1 r2 VF ?_ hC);have q1:=r1.length;have q2:=r2.length;simp at q1 q2;simp[<-q1,<-q2]
  ·cases e
 ·refine h h' tk r e js (λb o g=>k b o (k1 b o g)) ?_ j1 j2 (by rw[<-j3];exact hg);exact zR (hn _ _ ho)
end
def TV(K:W.Frag)(H:Hp)(ys:List V)(ts:List (Int×Int)):Prop:=ts.length=ys.length/\∀i,i<ts.length->iu (aP ts i)/\∃a,ys[i]?=some (.ref a)/\gj K H a [.int (aP ts i).1,.int (aP ts i).2]
def rSs(K:W.Frag)(vs:List V)(H:Hp)(Q:VK):Prop:=∃l ys ts,vs=[.ref l]/\gj K H l ys/\TV K H ys ts/\∀js:List Nat,js.map (aP ts)=ss ts->(∀j∈js,j<ts.length)->∀r,H r=none->Q (.ref r) (upd H r (.lst (js.map (ys.getD · .non))))
theorem zhQ:bootBuiltins "set"=some (.type "set"):=by decide +kernel
section
variable {X:Cx}
theorem zfF{w:World}{prog:Program}{x y:Int}{its:List Value}(r:Vals [.int x,.int y] its):ItemsAre (intKind prog w) [x,y] its:=by
 cases r with
 |cons a r=>
  cases r with
  |cons b r=>
   cases r;obtain⟨t,rfl⟩:=a;obtain⟨t',rfl⟩:=b;exact .cons (by show Value.isInt x (Value.int x t)=true;simp[Value.isInt]) (.cons (by show Value.isInt y (Value.int y t')=true;simp[Value.isInt]) .nil)
theorem zob{k:Nat}{e:Expr}{t:TA}{p p' pos pos':Pos}(hr:cD k X.A)(hc:X.aj=true)(hg:Gl X "sorted")(hm:X.mg "sorted"=none)(Mh:Gl X "set")(Ae:X.mg "set"=none)(ha:PA X [e] t)
  (he:starEach [e] X.env=(false,eval e X.env)::starEach [] X.env:=by rfl) (bM:(backTo pos' (starEach [] X.env)).any (·.1)=false:=by rfl) :
  PE X (.Call (.Name "sorted" p) [.Call (.Name "set" p') [e] [] pos'] [] pos) (Rq (rSs X.K) t):=by
 intro ak s Z H Q I h;refine Hs (Aa I hg hm zb0 ?_);refine PyProof.Rows.callWith_builtin1 ?_ rfl rfl;show wpAny _ _ (spliced ((false,eval (.Call (.Name "set" p') [e] [] pos') X.env)::backTo pos (starEach [] X.env))) _ _ s;refine Calls.spliced_cons ?_;refine Hs (Aa I Mh Ae zhQ ?_);refine G8 (aY (ha pos' ak s Z H _ I h) λus s1 ⟨vs,H1,I1,r1,q1⟩=>?_) he bM;obtain⟨l,ys,ts,rfl,hq,⟨hl,ht⟩,q⟩:=q1;obtain⟨u,rfl,ru⟩:=vals1 r1;cases ru;obtain⟨its,rv,pl,hz⟩:=I1.tuple hq;have hu:=hr.un;have hT:gH X.prog X.w s1.heap s1.heap.objs.size its ts:=⟨by rw[hl,rv.length],λi hi=>(ht i hi).1,λi hi=>by
  obtain⟨a,e1,e2⟩:=(ht i hi).2;obtain⟨u,e3,e4⟩:=rv.get e1;cases (show u=Value.ref a from e4);obtain⟨its',rv',⟨o,ho,jQ,n,hd⟩,_⟩:=I1.tuple e2;refine⟨a,Dg e3,dH (bW ho),o,its'.toArray,n,ho,jQ,hd,?_⟩;simpa using zfF rv'⟩
 refine aY (zhW (E:=X.xe) (I1.ok.hd hc) (by lia) pl hT λh' tk r e js k sY j1 j2 hg=>?_) λv s' hw=>Calls.spliced_nil hw;have hn:H1 r=none:=I1.hok.fresh sY;have hv:Vals (js.map (ys.getD · .non)) (js.map (its.getD · Value.none)):=Sd rv js;refine⟨.ref r,_,I1.laid (a:=r) (o:=.lst (js.map (ys.getD · .non))) (h':=h') (t':=tk) k sY (show aU X.prog X.w _ h' _ (.lst _) from ⟨?_,_,e,hv,hg⟩),rfl,q js j1 j2 r hn⟩;have:(js.map (aP ts)).length<=28:=by rw[j1];exact p7 (Qu ..) (by decide)
 rw[bN] at this ⊢;exact p7 this (by decide)
end
section
variable {K:W.Frag}{cA:Cl}{U:Ph}{H:Hp}
theorem zj9{d:D}{v:V}{p:Int×Int}(h:yM d=some p)(r:Rep K cA U H d v):d=.tup [.int p.1,.int p.2]/\iu p/\∃a,v=.ref a/\gj K H a [.int p.1,.int p.2]:=by
 unfold yM at h;split at h
 ·rename_i a b;by_cases hk:0<=a/\a<b/\b<8
  ·rw[if_pos hk] at h;cases h;refine⟨rfl,hk,?_⟩;cases r with
   |tup t r=>
    cases r with
    |cons r1 r=>
     cases r with
     |cons r2 r=>
      cases r;cases r1;cases r2;exact⟨_,rfl,t.jD⟩
  ·rw[if_neg hk] at h;cases h
 ·cases h
theorem zdt:∀{xs:List D} {ys:List V} {ts:List (Int×Int)},lA xs=some ts->aD K cA U H xs ys->xs=ts.map (λp=>.tup [.int p.1,.int p.2])/\TV K H ys ts
 |[],_,_,h,r=>by cases h;cases r;exact⟨rfl,rfl,λi hi=>by cases hi⟩
 |x::xs,_,ts,h,r=>by
  unfold lA at h;split at h
  ·rename_i a b e1 e2;cases h;cases r with
   |cons r1 r2=>
    obtain⟨e3,l,q⟩:=zdt e2 r2;obtain⟨e4,t8,a1,rfl,s1⟩:=zj9 e1 r1;refine⟨by rw[e3,e4];rfl,by simp[l],λi hi=>?_⟩;cases i with
    |zero=>exact⟨t8,a1,rfl,s1⟩
    |succ i=>exact q i (by simpa using hi)
  ·cases h
theorem znr:aQ K cA .fu (rSs K):=by
 intro U H ds vs Q zt rs o;have o:bC K cA U H (S_ ds) Q:=o;unfold S_ at o;split at o
 ·rename_i xs _;obtain⟨v,rfl,r1⟩:=rs.one;obtain⟨z,e⟩:=o.some';obtain⟨ts,e1,e2⟩:=n_.mp e;subst e2;have r1:Rep K cA U H (.tup xs) v:=r1;cases r1 with
  |tup t q=>
   obtain⟨e3,tv⟩:=zdt e1 q;refine⟨_,_,ts,rfl,t.jD,tv,λjs j1 j2 r hr=>(o.of e) r _ hr ?_⟩;rw[<-j1,lK];have:js.map ((λp:Int×Int=>D.tup [.int p.1,.int p.2])∘aP ts)=js.map λj=>xs.getD j .non:=Hr λj hj=>by
    have:=j2 j hj;rw[e3];simp[aP,kj,this]
   rw[this];exact q.DQ js
 ·exact o.elim
end
section
variable {X:Cx}{cA:Cl}{ao:Nat->Nat->Bool}{aj:Bool}{F:Fn}{EX:XS}{e:Expr}{pos pos' p p':Pos}{Xs:Es}{fz:Bool}
theorem zn6{k:Nat}(hr:cD k X.A)(hc:X.aj=true)(hg:Gl X "sorted")(hm:X.mg "sorted"=none)(Mh:Gl X "set")(Ae:X.mg "set"=none)(ha:SA X cA ao aj F EX [e] Xs)
  (he:starEach [e] X.env=(false,eval e X.env)::starEach [] X.env) (bM:(backTo pos' (starEach [] X.env)).any (·.1)=false):SE X cA ao aj F EX (.Call (.Name "sorted" p) [.Call (.Name "set" p') [e] [] pos'] [] pos) (.pr fz .fu Xs):=PE.weak (zob hr hc hg hm Mh Ae ha he bM) λZ H Q hh=>un hh λU J s hL hS h=>
 sZ hL hS h λvs H1 U1 ds s1 x1 hL1 aK r1 h1=>by
  obtain⟨ds,rs,h3⟩:=oY aK r1 h1;exact znr U1 H1 ds _ _ aK.zs rs (nq aK h3)
theorem zoP{k:Nat}(hr:cD k X.A)(hc:X.aj=true)(hm:X.mg "sorted"=none)(hg:JK X "sorted" .globalImplicit)(Ae:X.mg "set"=none)(Mh:JK X "set" .globalImplicit)(ha:JA X cA ao aj F EX [e] Xs)(he:aF e=true:=by rfl):JE X cA ao aj F EX (.Call (.Name "sorted" p) [.Call (.Name "set" p') [e] [] pos'] [] pos) (.pr fz .fu Xs):=⟨zn6 hr hc hg.o hm Mh.o Ae ha.o (bB he) (aX rfl)⟩
end
end Mi
namespace Mi
open PySem PySem.Spec PyProof.Rows L2 PySem.W
section
variable {X:Cx}{a b:Expr}{rest:List Expr}{pos:Pos}{ta tb:TE}
noncomputable def VH(K:W.Frag)(ta tb:TE):TE:=λZ H Q=>ta Z H λx H1=>∃k,Cu K x H1 k/\if k=true then Q x H1 else tb Z H1 Q
theorem zna(ha:PE X a ta)(hb:PE X (.BoolOp .Or (b::rest) pos) tb):PE X (.BoolOp .Or (a::b::rest) pos) (VH X.K ta tb):=by
 intro ak s Z H Q I h;refine BoolOp_or (aY (ha ak s Z H _ I h) λv s1 ⟨x,H1,I1,r1,q1⟩=>?_);obtain⟨k,hk,q1⟩:=q1;refine aY (zk1 ak s1 Z H1 x v (λb H2=>b=k/\H2=H1) I1 r1 ⟨k,hk,rfl,rfl⟩) λb s2 ⟨H2,I2,e1,e2⟩=>?_;subst e1;subst e2;cases b with
 |false=>exact hb ak s2 Z H2 Q I2 (by simpa using q1)
 |true=>exact⟨x,H2,I2,r1,by simpa using q1⟩
end
section
variable {K:W.Frag}{cA:Cl}{U:Ph}{H:Hp}
theorem zlp{d:D}{v:V}{k:Bool}(r:Rv K cA U H d v)(e:Dq d=some k):Cu K v H k:=by
 cases d with
 |non=>
  cases (show Rep K cA U H .non v from r);cases e;rfl
 |bl c=>
  cases (show Rep K cA U H (.bl c) v from r);cases e;rfl
 |int i=>
  cases (show Rep K cA U H (.int i) v from r);cases e;rfl
 |tup xs=>
  cases (show Rep K cA U H (.tup xs) v from r) with
  |tup t q=>
   cases e;refine .inr (.inl ⟨_,t.jD,?_⟩);cases q<;>rfl
 |fl xs=>
  obtain⟨a,us,rfl,sq,q⟩ : ∃a us,v=.ref a/\dI K H a us/\aD K cA U H xs us:=r;cases e;refine .inl ⟨_,sq,?_⟩;cases q<;>rfl
 |_=>cases e
end
section
variable {X:Cx}{cA:Cl}{ao:Nat->Nat->Bool}{aj:Bool}{F:Fn}{EX:XS}{a b:Expr}{A B:E}{pos p:Pos}{x:Str}{e:Expr}{es:List Expr}{Xs:Es}
theorem zmy{rest:List Expr}(ha:SE X cA ao aj F EX a A)(hb:SE X cA ao aj F EX (.BoolOp .Or (b::rest) pos) B):SE X cA ao aj F EX (.BoolOp .Or (a::b::rest) pos) (.Dj A B):=PE.weak (zna ha hb) λZ H Q hh=>un hh λU J s hL hS h=>by
 refine bf hL hS h λx H1 U1 d1 s1 x1 hL1 aK r1 h1=>?_;obtain⟨dd,rv,h2⟩:=Kr aK r1 h1;obtain⟨bb,e,h3⟩:=Ti h2;refine⟨bb,zlp rv e,?_⟩;cases bb with
 |true=>exact iT (h3.bK aK _ r1)
 |false=>exact iF ⟨U1,J,s1,hL1,aK,h3⟩
theorem znh{rest:List Expr}(ha:JE X cA ao aj F EX a A)(hb:JE X cA ao aj F EX (.BoolOp .Or (b::rest) pos) B):JE X cA ao aj F EX (.BoolOp .Or (a::b::rest) pos) (.Dj A B):=⟨zmy ha.o hb.o⟩
noncomputable def zG(sc:Scope)(x:Str):Bool:=match sc.names.lookup x with
 |some k=>Dz k
 |none=>false
noncomputable def Pk(sc:Scope)(x:Str):Bool:=match sc.names.lookup x with
 |some .globalImplicit=>true
 |_=>false
theorem zf9{sc:Scope}{x:Str}(h:zG sc x=true):∃k,sc.names.lookup x=some k/\Dz k=true:=by
 unfold zG at h;split at h
 ·rename_i k e;exact⟨k,e,h⟩
 ·cases h
theorem ziX{sc:Scope}{x:Str}(h:Pk sc x=true):sc.names.lookup x=some .globalImplicit:=by
 unfold Pk at h;split at h
 ·assumption
 ·cases h
theorem gk(h:Pk X.env.scope x=true:=by kernel_rfl):JK X x .globalImplicit:=⟨ziX h⟩
theorem jl(h:(match X.env.scope.names.lookup x with|some .local=>true|_=>false)=true:=by kernel_rfl):JK X x .local:=by
 split at h
 ·exact⟨by assumption⟩
 ·cases h
theorem jc(h:(match X.env.scope.names.lookup x with|some .cell=>true|_=>false)=true:=by kernel_rfl):JK X x .cell:=by
 split at h
 ·exact⟨by assumption⟩
 ·cases h
theorem pR{scope:Scope}{cl:List (Str×Addr)}{N:List Str}{Cc:Addr}{s3:Shared}{H3:Hp}{fp:List Addr}{ak:List (Addr×Obj)}(h:Pk scope x=true:=by kernel_rfl):JK (X.blk scope cl N Cc s3 H3 fp ak) x .globalImplicit:=zot (ziX h) rfl
theorem gv(i:Nat)(h:(decide (X.N[i]?=some x)&&zG X.env.scope x&&okN x)=true:=by kernel_rfl):JE X cA ao aj F EX (.Name x pos) (.v i):=by
 rw[cU,cU] at h;obtain⟨k,e,hv⟩:=zf9 h.1.2;exact g_v i (gb h.1.1) ⟨e⟩ hv h.2
theorem bV(i:Nat){scope:Scope}{cl:List (Str×Addr)}{N:List Str}{Cc:Addr}{s3:Shared}{H3:Hp}{fp:List Addr}{ak:List (Addr×Obj)}(h:(decide (N[i]?=some x)&&zG scope x&&okN x)=true:=by kernel_rfl):JE (X.blk scope cl N Cc s3 H3 fp ak) cA ao aj F EX (.Name x pos) (.v i):=by
 rw[cU,cU] at h;obtain⟨k,e,hv⟩:=zf9 h.1.2;by_cases hk:k=.free
 ·subst hk;exact zoW i (gb h.1.1) e h.2
 ·exact g_v i (gb h.1.1) (zot e (by cases k<;>first|rfl|exact absurd rfl hk)) hv h.2
theorem gc{f k:Nat}{cm:Bool}{st:Stmt}{ps:List Str}(Fo:gA X.prog X.w X.K X.mg X.base (mZ X.prog X.w) cm k (jV X.K x) (fdOf X.K x st) ps (wZ X.K cA (F f)))(D:D3 X.K X.mg x st ps)(hr:cD k X.A)(R:JR X EX)(g:JK X x .globalImplicit)(ha:JA X cA ao aj F EX (e::es) Xs)(h:okN x=true:=by kernel_rfl)
  (sH:cm=true->X.aj=true:=by first|exact λ_=>rfl|exact λz=>nomatch z) (he:aF e=true:=by rfl) (bM:es.all aF=true:=by rfl):JE X cA ao aj F EX (.Call (.Name x p) (e::es) [] pos) (.call f Xs):=
 zkS f Fo sH hr D.m D.f.kp D.b R g ha h he bM
theorem nd(h:decide X.N.Nodup=true:=by kernel_rfl):X.N.Nodup:=gb h
end
theorem fJ{P:Program}{w:World}{K:W.Frag}{mg:Str->Option Value}{base:Heap}{cA:Cl}{ao:Nat->Nat->Bool}{T:Nat->Option Df}{x:Str}{st:Stmt}{ps:List Str}{k n:Nat}{cm:Bool}{df:Df}(D:D3 K mg x st ps)(N:List Str)(hT:T n=some df)
  (hb:∀(cdv:Value) (A:Around) (outer:List Env) (s:Shared) (H:Hp) (E:XK),cD k (A.deeper (envOfC x (au st) s.heap.objs.size (jV K x) cdv))->
   JB (jO (mZ P w) P w K mg base N x (au st) (jV K x) cdv A outer s H E cm) cA ao cm (λc=>call ao T k c) (λ_ C dx H'=>E C dx H') (aN st) df.body) (S:iI N ps (au st):=by exact⟨rfl,rfl,rfl,dk,rfl,dk,dk⟩) (hp:df.jq=ps.length:=by rfl) (hm:df.many=N.length:=by rfl) :
  gA P w K mg base (mZ P w) cm (k+1) (jV K x) (fdOf K x st) ps (wZ K cA (call ao T (k+1) cm n)):=zmi D.f S hT hp hm hb
theorem jw(its:List Value):∀(n:Nat) (acc:Array Value),(List.replicate n its.toArray).foldl (λx y=>x++y) acc=acc++(rep its n).toArray
 |0,acc=>by simp[rep]
 |n+1,acc=>by
  rw[Ft,List.foldl_cons,jw its n];simp[rep,Ft]
theorem rO{α:Type}(xs:List α)(n:Nat):(rep xs n).length=n*xs.length:=by
 unfold rep
 induction n with
 |zero=>simp
 |succ n ih=>rw[Ft,QK,cY,ih,HW];lia
theorem Mj{α:Type}(xs:List α)(n:Nat):rep xs (n+1)=xs++rep xs n:=by
 unfold rep;rw[Ft,QK]
theorem zeF{ys:List V}{its:List Value}(r:Vals ys its):∀n,Vals (rep ys n) (rep its n)
 |0=>.nil
 |n+1=>by
  rw[Mj,Mj];have key:∀{as:List V} {bs:List Value},Vals as bs->∀{cs:List V} {ds:List Value},Vals cs ds->Vals (as++cs) (bs++ds):=by
   intro as bs h
   induction h with
   |nil=>intro cs ds h2;exact h2
   |cons a _ ih=>intro cs ds h2;exact .cons a (ih h2)
  exact key r (zeF r n)
section
variable {X:Cx}
end
section
variable {K:W.Frag}{cA:Cl}{U:Ph}{H:Hp}
theorem zeX{as:List D}{bs:List V}(h:aD K cA U H as bs){cs:List D}{ds:List V}(h2:aD K cA U H cs ds):aD K cA U H (as++cs) (bs++ds):=by
 match as,bs,h with
 |_,_,.nil=>exact h2
 |_,_,.cons a r=>exact .cons a (zeX r h2)
theorem zff{xs:List D}{ys:List V}(r:aD K cA U H xs ys):∀n,aD K cA U H (rep xs n) (rep ys n)
 |0=>.nil
 |n+1=>by
  rw[Mj,Mj];exact zeX r (zff r n)
end
end Mi
namespace PySem
open Builtin
theorem zbR:fillsNumberSlot (.type "tuple") "mul"=pure false:=
 fillsNumberSlot_seq (id:="tuple.__mul__") (r:=some (.builtin "tuple.__rmul__")) Nq.lookup (by decide +kernel) F.slot_tuple_rmul.lookup (by decide +kernel)
theorem zdL:seqRepeat? (.type "tuple")=pure (some (.builtin "tuple.__mul__")):=by
 unfold seqRepeat?;rw[seqSlot_of (T:="tuple") (name:="__mul__") (id:="tuple.__mul__") Nq.lookup (by decide +kernel),seqSlot_of (T:="tuple") (name:="__rmul__") (id:="tuple.__rmul__") F.slot_tuple_rmul.lookup (by decide +kernel)];rfl
theorem zch(a:Int)(t:Tok)(l:Addr)(items:Array Value)(n:Nat)(d:Option Addr)(sl:Array (Option Value)) :
  Meets (Builtin.«int.__rmul__» ⟨[.int a t,.ref l],[]⟩) (λ_ R s=>s.heap.get? l=some {cls:=.type "tuple",dict:=d,data:=.seq items n,slots:=sl}/\R (.ok (.ret Value.notImplemented)) s):=
 .of_wp λprog w A R s h=>by obtain⟨hp,g,d,tk,os⟩:=s;obtain⟨hl,h⟩:=h;wp_walk;exact⟨_,rfl,h⟩
theorem zcS(l:Addr)(items:Array Value)(n:Nat)(d:Option Addr)(sl:Array (Option Value))(u:Tok) :
  Meets (Builtin.«tuple.__mul__» ⟨[.ref l,.int 1 u],[]⟩) (λ_ R s=>s.heap.get? l=some {cls:=.type "tuple",dict:=d,data:=.seq items n,slots:=sl}/\R (.ok (.ret (Value.ref l))) s):=
 .of_wp λprog w A R s h=>by
  obtain⟨hp,g,d,tk,os⟩:=s;obtain⟨hl,h⟩:=h
  wp_walk
  exact⟨_,rfl,h⟩
theorem zc0(l:Addr)(items:Array Value)(n:Nat)(d:Option Addr)(sl:Array (Option Value))(x:Int)(u:Tok)(h2:2<=x)(h3:x<=1000)(he:items.isEmpty=false)(hs:items.size<=1000) :
  Meets (Builtin.«tuple.__mul__» ⟨[.ref l,.int x u],[]⟩) (λ_ R s=>s.heap.get? l=some {cls:=.type "tuple",dict:=d,data:=.seq items n,slots:=sl}/\R (.ok (.ret (Value.ref s.heap.objs.size))) {s with heap:=s.heap.push {cls:=Value.type "tuple",data:=Data.seq (List.foldl (λx1 x2=>x1++x2) #[] (List.replicate x.toNat items))},toks:=s.toks}):=
 .of_wp λprog w A R s h=>by
  obtain⟨hp,g,d,tk,os⟩:=s;obtain⟨hl,h⟩:=h;have h1:(x==1)=false:=by simpa using show ¬x=1 by lia
  have hb:(decide (x < -(2^63))||decide (x>=2^63))=false:=by rw[cI (by lia),cI (by lia)];rfl
  have hm:(items.size:Int)*x<=1000000:=Int.le_trans (Int.mul_le_mul (show (items.size:Int)<=1000 by lia) h3 (by lia) (by lia)) (by decide);have Gg:(1000000:Int)<=(sizeLine:Int):=by decide
  have hz:(List.foldl (λx1 x2=>x1++x2) #[] (List.replicate x.toNat items)).size<=1000000:=by
   have:=Mi.jw items.toList x.toNat #[];simp only[Array.toArray_toList] at this;rw[this];simp only[Array.size_append,dJ,Mi.rO,Bt];have:=Nat.mul_le_mul (show x.toNat<=1000 by lia) hs;simp
   lia
  have R5:(1000000:Nat)<=sizeLine:=by decide
  have nt:∀{b:Bool},b=false->decide (b=true)=false:=λ{b} e=>by rw[e];rfl
  wp_walk
  refine HD (nt hb) ?_
  wp_walk
  refine HD (nt (b:=decide (x<=0)||items.isEmpty) (by rw[he,cI (by lia)];rfl)) ?_
  wp_walk
  refine HD (cI (by lia)) ?_
  wp_walk
  refine HD (nt (b:=Builtin.Tuple.tupleTooMany (items.size*x)) (cI (by lia))) ?_
  wp_walk
  refine HD (cI (by lia)) ?_
  wp_walk
  exact⟨_,rfl,h⟩
end PySem
namespace Mi
open PySem PySem.Spec PyProof.Rows L2 PySem.W
noncomputable def Bm(K:W.Frag):R2:=λx y H Q=>∃l ys n,x=.ref l/\gj K H l ys/\y=.int n/\(1<=n/\n<=1000/\1<=ys.length/\ys.length<=1000)/\(n=1->Q (.ref l) H)/\∀p,H p=none->Q (.ref p) (upd H p (.tup (rep ys n.toNat)))
theorem zj5{X:Cx}:cZ X (binaryOp .Mult) (Bm X.K):=by
 intro ak s Z H x y v u Q I rx ry h;obtain⟨l,ys,n,rfl,hq,rfl,⟨h0,h1,GF,hl⟩,q1,q⟩:=h;cases (show v=Value.ref l from rx);obtain⟨t,rfl⟩:=ry;obtain⟨its,rv,⟨o,e,hc,c,oH⟩,hz⟩:=I.tuple hq;obtain⟨ocls,odict,odata,oslots⟩:=o;simp only at hc oH;subst hc oH;have hlen:=rv.length;refine wpAny_binaryOp_repeat_ref (T:="tuple") («U»:="int") (by decide) ⟨_,e,rfl⟩ (λ_=>rfl) zbR F.fills_int_mul F.slot_int_rmul zdL int_index ?_;refine BL F.slot_int_rmul rfl F.entry_int_rmul (F.args_int_rmul_2 _ _) (zch n t l its.toArray c odict oslots) ⟨e,rfl,⟨_,e,rfl⟩,?_⟩;by_cases hn:n=1
 ·subst hn;exact BL Nq ⟨_,e,rfl⟩ F.entry_tuple_mul (F.args_tuple_mul_2 _ _) (zcS l its.toArray c odict oslots t) ⟨e,⟨.ref l,H,I,rfl,q1 rfl⟩⟩
 ·have hne:its≠[]:=λz=>by rw[z] at hlen;have:ys.length=0:=hlen;lia
  refine BL Nq ⟨_,e,rfl⟩ F.entry_tuple_mul (F.args_tuple_mul_2 _ _) (zc0 l its.toArray c odict oslots n t (by lia) h1 (by simpa using hne) (by rw[dJ,<-hlen];exact hl)) ⟨e,?_⟩;have hn:H s.heap.objs.size=none:=I.hok.fresh (cH _);have ea:(List.replicate n.toNat its.toArray).foldl (λx y=>x++y) #[]=(rep its n.toNat).toArray:=by
   rw[jw];simp
  refine⟨.ref s.heap.objs.size,_,I.laid (a:=s.heap.objs.size) (o:=.tup (rep ys n.toNat)) (t':=s.toks) (λb w q=>cG _ q) (cH _) ?_,rfl,q _ hn⟩;refine⟨?_,_,zeF rv n.toNat,?_⟩
  ·rw[rO];have:=Nat.mul_le_mul (show n.toNat<=1000 by lia) hl;have R5:(1000000:Nat)<=sizeLine:=by decide
   lia
  ·rw[ea];exact IsTup.new _ _
section
variable {K:W.Frag}{cA:Cl}{U:Ph}{H:Hp}
theorem zjy:aQ K cA .mult (r2 (Bm K)):=by
 intro U H ds vs Q zt rs o;have o:bC K cA U H (Ai ds) Q:=o;cases ds with
 |nil=>exact False.elim o
 |cons a t=>cases a with
  |tup xs=>cases t with
   |nil=>exact False.elim o
   |cons b t=>cases b with
    |int n=>cases t with
     |cons _ _=>exact False.elim o
     |nil=>
      obtain⟨v,v',rfl,r1,r2⟩:=rs.two (ds:=[]);rw[r2.int];obtain⟨a,us,rfl,ta,q⟩:=r1.tup;have hl:=q.len;have o:bC K cA U H (if 1<=n/\n<=1000/\1<=xs.length/\xs.length<=1000 then some (.dat (.tup (rep xs n.toNat))) else none) Q:=o;by_cases hk:1<=n/\n<=1000/\1<=xs.length/\xs.length<=1000
      ·rw[if_pos hk] at o;refine⟨_,_,rfl,a,us,n,rfl,ta.jD,rfl,⟨hk.1,hk.2.1,by lia,by lia⟩,λe=>?_,λp hp=>o.tup zt (zff q _) hp⟩;subst e;have e1:rep xs (1:Int).toNat=xs:=by show rep xs (0+1)=xs;rw[Mj];simp[rep]
       rw[e1] at o;exact o.here (.tup ta q)
      ·rw[if_neg hk] at o;exact o.elim
    |_=>exact False.elim o
  |_=>exact False.elim o
end
theorem zm5{X:Cx}{cA:Cl}:JQ X cA .Mult .mult:=⟨_,zj5,zjy⟩
end Mi
namespace Mi
open PySem
theorem zlA{r:List Int}{x j:Int}(h0:0<=j)(h:j<(r.length:Int)+1):prim .ix [.fl (r.map .int++[.int x]),.int j]=some (.dat (.int (at' (r++[x]) j))):=by
 have:=znv (fs:=r++[x]) h0 (by rw[cY];simp;lia)
 rwa [jW] at this
theorem lG{α:Type}{l:List α}{g:α->Option D}:l.filterMap g=[]↔∀x∈l,g x=none:=by
 rw[List.filterMap_eq_nil_iff]
end Mi
namespace Mi
open PySem Ts
theorem W.vp{ao:Nat->Nat->Bool}{aj:Bool}{F:Fn}{J:Vs}{s:S}{P:Xv->S->Prop}{p q r:Pr}{a b c d:E}(h:W (ev ao aj F a J) s λx s1=>W (ev ao aj F b J) s1 λy s2=>W (fQ [x,y]) s2 λds s3=>W (bT true (prim p ds)) s3 λt s4=>W (Mi.bool t) s4 λk s5=>
  W (if k=true then M.bd (ev ao aj F c J) λz=>M.bd (fQ [y,z]) λds=>M.bd (bT true (prim q ds)) λt=>M.bd (Mi.bool t) λk2=>if k2=true then M.bd (ev ao aj F d J) λw=>M.bd (fQ [z,w]) λds=>bT true (prim r ds) else M.ret (.d (.bl false)) else M.ret (.d (.bl false))) s5 P):W (ev ao aj F (.vp p q r a b c d) J) s P:=
 W.bd (h.imp λ_ _ h=>W.bd (h.imp λ_ _ h=>W.bd (h.imp λ_ _ h=>W.bd (h.imp λ_ _ h=>W.bd h))))
noncomputable def nP(n:Int):D->Bool
 |.tup xs=>decide ((xs.length:Int)=n)
 |_=>false
noncomputable def kh(a b:Int):D->Bool
 |.int i=>decide (a<=i/\i<=b)
 |_=>false
noncomputable def dO(n:Int):D->Bool
 |.tup [.int a,.int b]=>decide (0<=a/\a<b/\b<n)
 |_=>false
theorem zev{xs:List D}(h:xs.length≠2):nP 2 (.tup xs)=false:=cI (p:=((xs.length:Int)=2)) (by lia)
theorem G4{xs:List D}(h:xs.length=2):∃x y,xs=[x,y]:=by
 match xs,h with
 |[x,y],_=>exact⟨x,y,rfl⟩
theorem zfj{n:Int}{xs:List D}(h:xs.length≠2):dO n (.tup xs)=false:=by
 unfold dO
 split
 ·rename_i e;cases e;exact absurd rfl h
 ·rfl
noncomputable def gK:List D->List (Int×Int)
 |.tup [.int a,.int b]::r=>(a,b)::gK r
 |_::r=>gK r
 |[]=>[]
theorem Pn{n:Int}:∀{ys:List D},ys.all (dO n)=true->ys=(gK ys).map bI/\∀p∈gK ys,0<=p.1/\p.1<p.2/\p.2<n
 |[],_=>⟨rfl,λp hp=>by cases hp⟩
 |y::ys,h=>by
  rw[lU,cU] at h;obtain⟨e,q⟩:=Pn h.2;have h1:=h.1;unfold dO at h1;split at h1
  ·rename_i a b;have:=gb h1;refine⟨?_,λp hp=>?_⟩
   ·show _::ys=bI (a,b)::(gK ys).map bI;rw[<-e];rfl
   ·rcases dh.mp (show p∈(a,b)::gK ys from hp) with rfl|hp
    ·exact this
    ·exact q p hp
  ·cases h1
theorem ze1:∀ps:List (Int×Int),gK (ps.map bI)=ps
 |[]=>rfl
 |p::ps=>by
  show (p.1,p.2)::gK (ps.map bI)=_;rw[ze1 ps]
theorem ziu{n:Int}{ps:List (Int×Int)}(h:∀p∈ps,0<=p.1/\p.1<p.2/\p.2<n):(ps.map bI).all (dO n)=true:=by
 rw[FT,fW];intro p hp;exact cP (h p hp)
noncomputable def jx(ps:List (Int×Int)):Bool:=(ps.zip (ps.drop 1)).all λe=>iY e.1 e.2
theorem lH:∀{ps:List (Int×Int)},jx ps=true↔ps.Pairwise λa b=>iY a b=true
 |[]=>by simp[jx]
 |[p]=>by simp[jx]
 |p::q::r=>by
  have ih:=lH (ps:=q::r);have e:jx (p::q::r)=(iY p q&&jx (q::r)):=rfl;rw[e,cU,ih,Bv (a:=p)]
  constructor
  ·rintro⟨h1,h2⟩;refine⟨λx hx=>?_,h2⟩;rcases dh.mp hx with rfl|hx
   ·exact h1
   ·have:=(Bv.mp h2).1 x hx;rw[lF] at *
    lia
  ·rintro⟨h1,h2⟩;exact⟨h1 q fV,h2⟩
theorem zmX{ps:List (Int×Int)}(h:∀p∈ps,iu p):jx ps=decide (ps=ss ps):=by
 by_cases e:ps=ss ps
 ·rw[cP e,lH,e];exact Pj
 ·rw[cI e];cases ha:jx ps
  ·rfl
  ·exact absurd (Pg (lH.mp ha) Pj λx=>(ziI h).symm) e
theorem zmQ{ps:List (Int×Int)}(h:ps.Pairwise λa b=>iY a b=true):ps.Pairwise lx:=h.imp λ{a b} e=>lF.mp e
theorem zoc{ps:List (Int×Int)}(h:ps.Pairwise lx):ps.Pairwise λa b=>iY a b=true:=h.imp λ{a b} e=>lF.mpr e
noncomputable def jH:D->Bool
 |.tup [.int n,.tup ys]=>decide (1<=n/\n<=8)&&ys.all (dO n)&&jx (gK ys)
 |_=>false
theorem zdS{α:Type}{q:α->Bool}:∀l:List α,l.length=(l.filter q).length+(l.filter λx=>!q x).length
 |[]=>rfl
 |x::l=>by
  have:=zdS (q:=q) l;simp only[Hy];cases q x<;>simp<;>lia
theorem zga{xs:List D}(h:xs.length≠2):jH (.tup xs)=false:=by
 unfold jH
 split
 ·rename_i e;cases e;exact absurd rfl h
 ·rfl
theorem ziZ{ps:List (Int×Int)}{n:Int}(h1:1<=n)(h8:n<=8)(ht:∀p∈ps,0<=p.1/\p.1<p.2/\p.2<n)(hi:ps.Pairwise lx):(ps.length:Int)<=7*n:=by
 have key:∀m:Nat,∀qs:List (Int×Int),(∀p∈qs,0<=p.1/\p.1<(m:Int)/\p.1<p.2/\p.2<n)->qs.Nodup->(qs.length:Int)<=7*m:=by
  intro m
  induction m with
  |zero=>
   intro qs hq _;cases qs with
   |nil=>simp
   |cons p r=>have:=hq p (by simp);lia
  |succ m ih=>
   intro qs hq nd;have h1:=ih (qs.filter λp=>decide (p.1<(m:Int))) (λp hp=>by
    obtain⟨a,b⟩:=xU.mp hp;have:=hq p a;have:=gb b
    lia) (nd.filter _)
   have h2:(qs.filter λp=>!decide (p.1<(m:Int))).length<=(([1,2,3,4,5,6,7]:List Int).map λx=>((m:Int),x)).length:=zdi (nd.filter _) (λp hp=>by
    obtain⟨a,b⟩:=xU.mp hp;have:=hq p a;have b:¬p.1<(m:Int):=by simpa using b
    obtain⟨p1,p2⟩:=p;dsimp only at *;have e:p1=(m:Int):=by lia
    subst e;refine fX.mpr ⟨p2,?_,rfl⟩;have:p2=1\/p2=2\/p2=3\/p2=4\/p2=5\/p2=6\/p2=7:=by lia
    simpa using this)
   have h3:=zdS (q:=λp=>decide (p.1<(m:Int))) qs;simp only[bN,iC,rW] at h2
   lia
 have:=key n.toNat ps (λp hp=>by have:=ht p hp;lia) (zhG hi)
 lia
theorem ziW{d:D}(h:jH d=true):∃n ps,d=bx n ps/\Web n ps:=by
 unfold jH at h;split at h
 ·rename_i n ys;rw[cU,cU] at h;obtain⟨⟨h1,h2⟩,h3⟩:=h;obtain⟨e,ht⟩:=Pn h2;have hn:=gb h1;have hi:=zmQ (lH.mp h3);exact⟨n,gK ys,by unfold bx;rw[<-e],hn.1,hn.2,ht,hi,ziZ hn.1 hn.2 ht hi⟩
 ·cases h
theorem VJ{n:Int}{ps:List (Int×Int)}(h:Web n ps):jH (bx n ps)=true:=by
 show (decide (1<=n/\n<=8)&&(ps.map bI).all (dO n)&&jx (gK (ps.map bI)))=true;rw[ze1,cP (And.intro h.h1 h.h8),ziu h.tie,lH.mpr (zoc h.inc)];rfl
noncomputable def EY:D->Bool
 |.tup ys=>ys.all eU
 |d=>iW d
noncomputable def E_:D->Bool
 |.tup xs=>xs.all EY
 |d=>iW d
def VL(d:D):Prop:=∀x ys,d=.tup [x,.tup ys]->ys.length<=200
theorem zll{ps qs:List (Int×Int)}:List.zipWith (λ(p q:D)=>D.tup [p,q]) (ps.map bI) (qs.map bI)=(ps.zip qs).map λe=>.tup [bI e.1,bI e.2]:=by
 induction ps generalizing qs with
 |nil=>rfl
 |cons p ps ih=>
  cases qs with
  |nil=>rfl
  |cons q qs=>
   show _::List.zipWith (λ(p q:D)=>D.tup [p,q]) (ps.map bI) (qs.map bI)=_::_;rw[ih];rfl
theorem Ml{d:D}(h:eU d=true):iW d=true:=by cases d<;>first|rfl|cases h
theorem zmJ{d:D}(h:EY d=true):iW d=true:=by cases d<;>first|rfl|cases h
theorem zjr{p q:Int×Int}:ltI [p.1,p.2] [q.1,q.2]=iY p q:=by
 simp only[ltI];unfold iY;by_cases h:p.1=q.1
 ·rw[if_pos h];by_cases h2:p.2=q.2
  ·rw[if_pos h2]
   symm
   apply cI
   lia
  ·rw[if_neg h2,tY]
   lia
 ·rw[if_neg h,tY]
  lia
theorem zdI:∀{ps:List (Int×Int)},(∀p∈ps,iu p)->lA (ps.map bI)=some ps
 |[],_=>rfl
 |p::ps,h=>by
  have h1:yM (bI p)=some p:=by
   show (if 0<=p.1/\p.1<p.2/\p.2<8 then some (p.1,p.2) else none)=_;rw[if_pos (show 0<=p.1/\p.1<p.2/\p.2<8 from h p fV)]
  simp only[jL,lA,h1,zdI λq hq=>h q (fM _ hq)]
theorem zoN{ps:List (Int×Int)}(h:∀p∈ps,iu p):prim .fu [.tup (ps.map bI)]=some (.nw ((ss ps).map bI)):=by
 show Option.map _ (lA (ps.map bI))=_;rw[zdI h];rfl
theorem zeY{k:Nat}:∀(ps qs:List (Int×Int)),fj (dD (k+1)) (ps.map bI) (qs.map bI)=some (decide (ps=qs))
 |[],[]=>rfl
 |[],q::qs=>rfl
 |p::ps,[]=>rfl
 |p::ps,q::qs=>by
  simp only[jL,fj,zeY ps qs,ziN];rw[<-Bool.decide_and]
  congr 1
  rw[tY,List.cons_eq_cons]
end Mi
namespace Mi
open PySem
theorem Pq{xs:List D}{r:Nat}(hr:r<xs.length):∃x,prim .ix [.fl xs,.int r]=some (.dat x)/\x∈xs:=⟨xs[r],Bd (fL hr),pY _⟩
theorem znt{i:Int}(h0 : -1000<=i)(h:i<=2000):prim .str1 [.int i]=some (.dat (.str (Str.ofString (toString i)))):=by
 show (if i.natAbs<2^62 then _ else none)=_;rw[if_pos (Nat.lt_of_le_of_lt (show i.natAbs<=2000 by lia) (by decide))]
def pD(d:D):Prop:=EY d=true/\∀ys,d=.tup ys->ys.length<=200
def pU(d:D):Prop:=E_ d=true/\VL d
theorem uG{xs:List D}(h:∀x∈xs,eU x=true)(hl:xs.length<=200):pD (.tup xs):=⟨fW.mpr h,λys e=>by cases e;exact hl⟩
theorem xH{i:Int}:pD (.int i):=⟨rfl,λys e=>by cases e⟩
theorem zhc{ps:List (Int×Int)}:∀x∈ps.map bI,eU x=true:=λx hx=>by obtain⟨p,_,rfl⟩:=fX.mp hx;rfl
theorem zlU{ps:List (Int×Int)}(hl:ps.length<=200):pD (.tup (ps.map bI)):=uG zhc (by rw[bN];exact hl)
theorem Pu{xs:List D}(h:∀x∈xs,pD x):pU (.tup xs):=⟨fW.mpr λx hx=>(h x hx).1,λx ys e=>by
 cases e;exact(h (.tup ys) (by simp)).2 ys rfl⟩
theorem xJ{x y:D}(hx:pD x)(hy:pD y):pU (.tup [x,y]):=Pu λz hz=>by
 simp only[dh,oh,nY] at hz;rcases hz with rfl|rfl
 ·exact hx
 ·exact hy
theorem zmC{n:Int}{ps:List (Int×Int)}(hl:ps.length<=200):pU (bx n ps):=xJ xH (zlU hl)
theorem VN{P:D->Prop}{a b c:List D}(ha:∀x∈a,P x)(hb:∀x∈b,P x)(hc:∀x∈c,P x):∀x∈a++b++c,P x:=λx hx=>by
 rcases fO.mp hx with hx|hx
 ·rcases fO.mp hx with hx|hx
  ·exact ha x hx
  ·exact hb x hx
 ·exact hc x hx
theorem VP{P:D->Prop}{a b:List D}(ha:∀x∈a,P x)(hb:∀x∈b,P x):∀x∈a++b,P x:=λx hx=>by
 rcases fO.mp hx with hx|hx
 ·exact ha x hx
 ·exact hb x hx
end Mi
namespace Mi
open PySem PySem.W L2
theorem Mp{a b:Int×Int}:oR [.int a.1,.int a.2] [.int b.1,.int b.2]=some (iY a b):=by
 unfold iY;simp only[oR];by_cases h1:a.1=b.1
 ·rw[if_pos h1];by_cases h2:a.2=b.2
  ·rw[if_pos h2]
   congr 1
   simp only[rW,nW,decide_false]
   symm
   rw[M6]
   lia
  ·rw[if_neg h2]
   congr 1
   rw[tY]
   lia
 ·rw[if_neg h1]
  congr 1
  rw[tY]
  lia
theorem zjk{us:List (Int×Int)}:wU (us.map bI)=Bl us:=by
 funext i j
 unfold wU Bl;rw[i_,i_];cases us[i]? with
 |none=>rfl
 |some a=>
  cases us[j]? with
  |none=>rfl
  |some b=>exact Mp
theorem zjL{ps:List (Int×Int)}(hl:ps.length<64)(nd:ps.Nodup):∃qs:List (Int×Int),yL (ps.map bI)=some (qs.map bI)/\qs.Pairwise lx/\(∀x,x∈qs↔x∈ps)/\qs.length=ps.length:=by
 have hk:((ps.map bI).all m_||(ps.map bI).all jm)=true:=by
  rw[Bool.or_eq_true]
  right
  rw[FT,fW];intro p _;rfl
 unfold yL;rw[if_pos hk];unfold q_;rw[bN,zjk];by_cases h2:ps.length<2
 ·rw[if_pos h2];refine⟨ps,rfl,?_,λ_=>Iff.rfl,rfl⟩;cases ps with
  |nil=>exact .nil
  |cons x t=>
   cases t with
   |nil=>exact List.pairwise_singleton ..
   |cons y t=>exact absurd h2 (by simp)
 ·rw[if_neg h2,if_pos hl];obtain⟨p,e,e1,e2,e3,e4⟩:=zdg (us:=ps) (by lia) nd;rw[e];dsimp only;rw[if_pos e1];refine⟨p.toList.map λi=>ps.getD i (0,1),?_,zmQ e4,e3,by rw[bN,Bt,e1]⟩;rw[lK]
  congr 1
  refine Hr λi hi=>?_;have:=e2 i hi;simp[kj,this]
noncomputable def rP:D->Bool
 |.tup [.int k,.int d]=>decide (1<=k/\k<=24)&&decide (1<=d/\d<=k)
 |_=>false
theorem zhj{xs:List D}(h:xs.length≠2):rP (.tup xs)=false:=by
 unfold rP
 split
 ·rename_i e;cases e;exact absurd rfl h
 ·rfl
theorem zj0{d:D}(h:rP d=true):∃k e,d=aV k e/\1<=e/\e<=k/\k<=24:=by
 unfold rP at h;split at h
 ·rename_i k e;rw[cU] at h;have h1:=gb h.1;have h2:=gb h.2;exact⟨k,e,rfl,h2.1,h2.2,h1.2⟩
 ·cases h
theorem Mq{k d:Int}(h:1<=d/\d<=k/\k<=24):rP (aV k d)=true:=by
 show (decide (1<=k/\k<=24)&&decide (1<=d/\d<=k))=true;rw[cP (by lia),cP (by lia)];rfl
noncomputable def n8(n k:Int):D->Bool
 |.tup xs=>decide ((xs.length:Int)=n)&&xs.all (kh 0 (k-1))
 |_=>false
theorem zhn{a b:Int}:∀{xs:List D},xs.all (kh a b)=true->∃is:List Int,xs=is.map .int/\∀i∈is,a<=i/\i<=b
 |[],_=>⟨[],rfl,by simp⟩
 |d::r,h=>by
  rw[lU,cU] at h;obtain⟨is,rfl,hi⟩:=zhn h.2;cases d with
  |int i=>exact⟨i::is,rfl,by
    intro j hj;rcases dh.mp hj with rfl|hj
    ·exact gb h.1
    ·exact hi j hj⟩
  |_=>exact absurd h.1 (by simp[kh])
theorem G5{n k:Int}{d:D}(h:n8 n k d=true):∃hs:List Int,d=.tup (hs.map .int)/\(hs.length:Int)=n/\∀x∈hs,0<=x/\x<k:=by
 cases d with
 |tup xs=>
  rw[show n8 n k (.tup xs)=(decide ((xs.length:Int)=n)&&xs.all (kh 0 (k-1))) from rfl,cU] at h;obtain⟨is,rfl,hi⟩:=zhn h.2;have:=gb h.1;rw[bN] at this;exact⟨is,rfl,this,λx hx=>by have:=hi x hx;lia⟩
 |_=>cases h
theorem ze0{n k:Int}{hs:List Int}(hl:(hs.length:Int)=n)(h:∀x∈hs,0<=x/\x<k):n8 n k (.tup (hs.map .int))=true:=by
 rw[show n8 n k (.tup (hs.map D.int))=(decide (((hs.map D.int).length:Int)=n)&&(hs.map D.int).all (kh 0 (k-1))) from rfl,bN,cP hl,HN,FT,fW];intro x hx;have:=h x hx;exact cP (by lia)
noncomputable def xK(k d:Int)(ps:List (Int×Int))(hs:List Int):List (Int×Int):=ps.filter λp=>decide (fH k (at' hs p.1) (at' hs p.2)<d)
noncomputable def Px(k d:Int)(ps:List (Int×Int))(hs:List Int):D:=match xK k d ps hs with
 |[]=>.non
 |p::_=>bI p
theorem wC{k d:Int}{ps:List (Int×Int)}{hs:List Int}:xK k d ps hs=[]↔nM k d ps hs=true:=by
 unfold xK;rw[List.filter_eq_nil_iff,iV]
 constructor
 ·intro h p hp;have:=h p hp;simp at this
  lia
 ·intro h p hp;have:=h p hp;simp
  lia
theorem VR{n k:Int}(h1:1<=n)(h8:n<=8)(hk1:1<=k)(hk:k<=10)(h7:n=8->k<=7):(n.toNat+1)*(k.toNat+1)^n.toNat+n.toNat<1000000000:=by
 have e:n.toNat=1\/n.toNat=2\/n.toNat=3\/n.toNat=4\/n.toNat=5\/n.toNat=6\/n.toNat=7\/n.toNat=8:=by lia
 have Ez:k.toNat+1<=11:=by lia
 have key:∀m:Nat,m<=7->(m+1)*(k.toNat+1)^m+m<1000000000:=λm hm=>by
  have h2:(k.toNat+1)^m<=11^m:=Nat.pow_le_pow_left Ez m;have h3:(m+1)*(k.toNat+1)^m<=(m+1)*11^m:=Qz _ h2;have h4:∀m,m<=7->(m+1)*11^m+m<1000000000:=by decide
  have:=h4 m hm
  lia
 rcases e with e|e|e|e|e|e|e|e
 all_goals first
  |(rw[e];exact key _ (by lia))
  |skip
 have h2:(k.toNat+1)^8<=8^8:=Nat.pow_le_pow_left (by have:=h7 (by lia);lia) 8;rw[e]
 lia
end Mi
namespace Mi
open PySem
theorem W.Dj{ao:Nat->Nat->Bool}{aj:Bool}{F:Fn}{J:Vs}{s:S}{P:Xv->S->Prop}{a b:E}(h:W (ev ao aj F a J) s λx s1=>W (rd x) s1 λd s2=>pQ (Dq d) λk=>W (if k=true then M.ret x else ev ao aj F b J) s2 P):W (ev ao aj F (.Dj a b) J) s P:=
 W.bd (h.imp λ_ _ h=>W.bd (h.imp λd s2 ⟨k,e,h⟩=>W.bd (W.opt e h)))
theorem W.c0{F:List Xv->M Xv}{xs:List Xv}{s:S}{e:D}{P:Xv->S->Prop}(h:W (F (dY 0 xs)) [] λv _=>v=.d e)(k:P (.d e) s)(hl:locs xs=[]:=by rfl):W (cR F xs) s P:=W.cB hl (h.imp λ_ _ q=>⟨_,q,k⟩)
theorem W.c1{F:List Xv->M Xv}{xs:List Xv}{s:S}{P:Xv->S->Prop}(h:W (F (dY 0 xs)) [] λv _=>∃d,v=.d d)(k:∀d,P (.d d) s)(hl:locs xs=[]:=by rfl):W (cR F xs) s P:=W.cB hl (h.imp λ_ _ ⟨d,q⟩=>⟨d,q,k d⟩)
noncomputable def rQ(n k d:Int)(ps:List (Int×Int))(x:D):Bool:=n8 n k x&&(match x with
 |.tup xs=>(match eG xs with
  |some hs=>nM k d ps hs
  |none=>false)
 |_=>false)
theorem V0{n k d:Int}{ps:List (Int×Int)}{x:D}(h:n8 n k x=false):rQ n k d ps x=false:=by
 unfold rQ;rw[h];rfl
theorem Py{n k d:Int}{ps:List (Int×Int)}{hs:List Int}(hl:(hs.length:Int)=n)(h:∀x∈hs,0<=x/\x<k):rQ n k d ps (.tup (hs.map .int))=nM k d ps hs:=by
 unfold rQ;rw[ze0 hl h,HN];show (match eG (hs.map D.int) with|some hs=>nM k d ps hs|none=>false)=_;rw[zcy]
theorem zjz{n k d:Int}{ps:List (Int×Int)}{x:D}(h:rQ n k d ps x=true):∃hs:List Int,x=.tup (hs.map .int)/\tM n k d ps hs:=by
 cases mV:n8 n k x with
 |false=>rw[V0 mV] at h;cases h
 |true=>
  obtain⟨hs,rfl,hl,jB⟩:=G5 mV;rw[Py hl jB] at h;exact⟨hs,rfl,hl,jB,iV.mp h⟩
theorem zgh{n k d:Int}{ps:List (Int×Int)}{hs:List Int}(h:tM n k d ps hs):rQ n k d ps (.tup (hs.map .int))=true:=by
 rw[Py h.len h.lo];exact iV.mpr h.fit
section
variable {s:S}{o o' L L':SO}
end
structure Bo(n k:Int)(r:List Int)(x:Int):Prop where
 lo:∀z∈r,0<=z/\z<k
 x0:0<=x
 xk:x<=k
 len:(r.length:Int)<n
section
variable {n k x y:Int}{r:List Int}
theorem V1(hn:1<=n)(hk:1<=k):Bo n k [] 0:=⟨by simp,by lia,by lia,by simp;lia⟩
theorem zkn(S:Bo n k (r++[y]) x):Bo n k r (y+1):=by
 have h:=S.lo y (by simp);have hl:=S.len;rw[cY] at hl;simp at hl;exact⟨λz hz=>S.lo z (qJ _ hz),by lia,by lia,by lia⟩
theorem zjH(S:Bo n k r x)(hx:x≠k):Bo n k r (x+1):=⟨S.lo,by have:=S.x0;lia,by have:=S.xk;lia,S.len⟩
theorem zif(S:Bo n k r x)(hk:1<=k)(hx:x≠k)(hl:(r.length:Int)+1<n):Bo n k (r++[x]) 0:=⟨λz hz=>by
 rcases fO.mp hz with hz|hz
 ·exact S.lo z hz
 ·have:z=x:=by simpa using hz
  have:=S.x0;have:=S.xk
  lia,by lia,by lia,by rw[cY];simp;lia⟩
end
theorem zf4{k':Nat}(hs:List Int):fj (dD k') (hs.map D.int) (hs.map D.int)=some true:=by
 have hi:∀a:Int,dD k' (.int a) (.int a)=some (a==a):=by intro a;cases k'<;>rfl
 induction hs with
 |nil=>rfl
 |cons x r ih=>simp only[jL,fj,ih,hi];simp
theorem V2{lt:Nat->Nat->Option Bool}{c:Bool}(h:lt 1 0=some c):L2.aZ lt (PySem.W.kas_sort 2)=some (if c=true then #[1,0] else #[0,1]):=by
 change L2.aZ lt (PySem.W.KasT.ask 1 0 _)=_
 unfold L2.aZ;rw[h];cases c
 ·rfl
 ·rfl
noncomputable def jJ(a b:Int):Int×Int:=if b<a then (b,a) else (a,b)
theorem V3{a b:Int}:yL [.int a,.int b]=some [.int (jJ a b).1,.int (jJ a b).2]:=by
 show (match L2.aZ (wU [.int a,.int b]) (PySem.W.kas_sort 2) with
  |some p=>if p.size=2 then some (p.toList.map λi=>[D.int a,D.int b].getD i .non) else none
  |none=>none)=_
 rw[V2 (lt:=wU [.int a,.int b]) (c:=decide (b<a)) rfl];unfold jJ;by_cases h:b<a
 ·rw[cP h,if_pos h];rfl
 ·rw[cI h,if_neg h];rfl
theorem zgH{a b:Int}:prim .sorted [.fl [.int a,.int b]]=some (.nw [.int (jJ a b).1,.int (jJ a b).2]):=by
 show Option.map Rz.nw (yL [.int a,.int b])=_;rw[V3];rfl
noncomputable def Pz(a b:Int):D:=if a<b then bI (a,b) else if b<a then bI (b,a) else .non
theorem zig(ps:List (Int×Int)):memD .non (ps.map bI)=some false:=by
 induction ps with
 |nil=>rfl
 |cons p r ih=>
  simp only[jL,memD,ih];rfl
theorem zmA{n a b:Int}{qs:List (Int×Int)}(h:Web n qs):prim .inn [Pz a b,.tup (qs.map bI)]=some (.dat (.bl (decide (jJ a b∈qs)))):=by
 unfold Pz jJ;by_cases h1:a<b
 ·rw[if_pos h1,if_neg (by lia)];exact GQ (f:=id)
 ·rw[if_neg h1];by_cases h2:b<a
  ·rw[if_pos h2,if_pos h2];exact GQ (f:=id)
  ·rw[if_neg h2,if_neg h2];have hn:(a,b)∉qs:=λz=>by have:=h.tie _ z;dsimp only at this;lia
   show Option.map _ (memD .non (qs.map bI))=_;rw[zig,cI hn];rfl
section
variable {n m:Int}{ps qs:List (Int×Int)}{x:D}{hs:List Int}
noncomputable def iw(n m:Int)(ps qs:List (Int×Int))(x:D):Bool:=n8 n m x&&(match x with
 |.tup xs=>(match eG xs with
  |some hs=>ps.all λp=>decide (jJ (at' hs p.1) (at' hs p.2)∈qs)
  |none=>false)
 |_=>false)
theorem PB(h:n8 n m x=false):iw n m ps qs x=false:=by
 unfold iw;rw[h];rfl
theorem V4(hl:(hs.length:Int)=n)(h:∀x∈hs,0<=x/\x<m):iw n m ps qs (.tup (hs.map .int))=ps.all λp=>decide (jJ (at' hs p.1) (at' hs p.2)∈qs):=by
 unfold iw;rw[ze0 hl h,HN];show (match eG (hs.map D.int) with|some hs=>ps.all λp=>decide (jJ (at' hs p.1) (at' hs p.2)∈qs)|none=>false)=_;rw[zcy]
theorem zmL(h:iw n m ps qs x=true):∃hs:List Int,x=.tup (hs.map .int)/\(hs.length:Int)=n/\(∀x∈hs,0<=x/\x<m)/\∀p∈ps,jJ (at' hs p.1) (at' hs p.2)∈qs:=by
 cases mV:n8 n m x with
 |false=>rw[PB mV] at h;cases h
 |true=>
  obtain⟨hs,rfl,hl,jB⟩:=G5 mV;rw[V4 hl jB,fW] at h;exact⟨hs,rfl,hl,jB,λp hp=>gb (h p hp)⟩
theorem zis{k a b:Int}:fH k a b=fH k b a:=by
 unfold fH
 split<;>split<;>split<;>split<;>lia
theorem V5{us:List Int}{j:Int}(h0:0<=j)(h:j<us.length):at' us j∈us:=by
 obtain⟨i,hi,_,e⟩:=Uw h0 h;rw[e];exact pY _
theorem wD{k d:Int}{us:List Int}(h:Web n ps)(hl:(hs.length:Int)=n)(jB:∀x∈hs,0<=x/\x<m)(hm:∀p∈ps,jJ (at' hs p.1) (at' hs p.2)∈qs)(hh:tM m k d qs us):tM n k d ps (hs.map λj=>at' us j):=by
 have V6:=hh.len;refine⟨by rw[bN];exact hl,λx hx=>?_,λp hp=>?_⟩
 ·obtain⟨j,hj,rfl⟩:=fX.mp hx;have:=jB j hj;exact hh.lo _ (V5 this.1 (by lia))
 ·have ht:=h.tie p hp;rw[ziQ (f:=λj=>at' us j) (by lia) (by lia),ziQ (f:=λj=>at' us j) (by lia) (by lia)];have key:∀a b:Int,jJ a b∈qs->d<=fH k (at' us a) (at' us b):=λa b hq=>by
   unfold jJ at hq;by_cases hc:b<a
   ·rw[if_pos hc] at hq;have:=hh.fit _ hq;dsimp only at this;rw[zis] at this;exact this
   ·rw[if_neg hc] at hq;have:=hh.fit _ hq;dsimp only at this;exact this
  exact key _ _ (hm p hp)
end
theorem zkZ{n:Int}(h:1<=n/\n<=1000):prim .mult [.tup [.int 0],.int n]=some (.dat (.tup ((List.replicate n.toNat (0:Int)).map .int))):=by
 show (if _ then _ else _)=_;rw[if_pos ⟨h.1,h.2,by decide,by decide⟩];have:∀k:Nat,rep [D.int 0] k=(List.replicate k (0:Int)).map .int:=λk=>by
  unfold rep
  induction k with
  |zero=>rfl
  |succ k ih=>rw[Ft,QK,ih,Ft];rfl
 rw[this]
section
variable {ao:Nat->Nat->Bool}{F:Fn}{J:Vs}{s:S}{P:Xv->S->Prop}
theorem Kao{fz:Bool}{elt:E}{tg:List Nat}{it:Wk}{fr:List Nat}{many:Nat}(I:List D->Nat->List D->S->Prop)
  (hw:W (oU ao true F it J) s λcn s1=>∃c,cn=(.fix c,c.length)/\I c 0 [] s1)
  (hb:∀c i x acc s,c[i]?=some x->I c i acc s->pQ (jC tg x (blk many fr J)) λJ'=>W (ev ao true F elt J') s λy s2=>∃d,y=.d d/\acc.length<sizeLine/\I c (i+1) (acc++[d]) s2)
  (h:∀c acc s,I c c.length acc s->W (newL fz acc) s P):W (ev ao true F (.comp fz elt tg it fr many .no) J) s P:=by
 change W (_root_.ite (true=true) _ _) s P
 rw[if_pos rfl];refine W.bd (hw.imp λcn s1=>?_);rintro⟨c,rfl,h0⟩;refine W.bd ?_;refine W.walk (c:=c) (I c) h0 (λi x acc s' e hI=>?_) (λacc s' hI=>h c acc s' hI);obtain⟨J',e1,h1⟩:=hb c i x acc s' e hI;refine W.bd (W.opt e1 ?_);refine W.bd (W.ret ?_);rw[if_pos rfl];refine W.bd (W.qt (h1.imp λy s3=>?_));rintro⟨d,rfl,hl,hi⟩;refine W.bd (W.dat ?_);rw[if_pos hl];exact W.ret hi
end
end Mi
namespace gw
open PySem Mi
noncomputable def b0:cL:=(.cons (.ret (.and (.gQ (.v 0) .int) (.not (.gQ (.v 0) .bool)))) .nil)
noncomputable def b1:cL:=(.cons (.ret (.and (.call 0 (Ea (.v 0))) (.sS .le .le (.v 1) (.v 0) (.v 2)))) .nil)
noncomputable def b2:cL:=(.cons (.ret (.and (.gQ (.v 0) .tuple) (.pr true .eq (Eb (.pr true .len (Ea (.v 0))) (.v 1))))) .nil)
noncomputable def b3:cL:=(.cons (.iff (.not (.call 2 (Eb (.v 0) (Ci 2)))) (.cons (.ret (.c (.bl false))) .nil) .nil) (.cons (.asg (.tp [1,2]) (.v 0)) (.cons (.iff (.or (.not (.call 4 (Ea (.v 1)))) (.not (.gQ (.v 2) .tuple))) (.cons (.ret (.c (.bl false))) .nil) .nil) (.cons (.iff (.not (.pr true .all (Ea (.comp true (.call 6 (Eb (.v 1) (.v 0))) [0] (.seq (.v 2)) [1] 1 .no)))) (.cons (.ret (.c (.bl false))) .nil) .nil) (.cons (.ret (.pr true .all (Ea (.comp true (.pr true .lt (Eb (.v 0) (.v 1))) [0,1] (.zip (.v 2) (.sl true (.v 2) (.yes (Ci 1)) .no)) [] 2 .no)))) .nil)))))
noncomputable def b4:cL:=(.cons (.ret (.call 1 (Ec (.v 0) (Ci 1) (Ci 8)))) .nil)
noncomputable def b5:cL:=(.cons (.ret (.call 1 (Ec (.v 1) (Ci 0) (.pr true .ao (Eb (.v 0) (Ci 1)))))) .nil)
noncomputable def b6:cL:=(.cons (.iff (.not (.call 2 (Eb (.v 1) (Ci 2)))) (.cons (.ret (.c (.bl false))) .nil) .nil) (.cons (.asg (.tp [2,3]) (.v 1)) (.cons (.ret (.and (.call 5 (Eb (.v 0) (.v 2))) (.and (.call 5 (Eb (.v 0) (.v 3))) (.pr true .lt (Eb (.v 2) (.v 3)))))) .nil)))
noncomputable def b7:cL:=(.cons (.iff (.call 6 (Eb (.v 0) (.v 1))) (.cons (.ret (.v 1)) .nil) .nil) (.cons (.iff (.and (.call 2 (Eb (.v 1) (Ci 2))) (.call 6 (Eb (.v 0) (.pr true .rev (Ea (.v 1)))))) (.cons (.ret (.pr true .rev (Ea (.v 1)))) .nil) .nil) (.cons (.ret (.c .non)) .nil)))
noncomputable def b8:cL:=(.cons (.iff (.not (.call 3 (Ea (.v 0)))) (.cons (.rise 9 true (Ea (.pr true .neg (Ea (Ci 1))))) .nil) .nil) .nil)
noncomputable def b9:cL:=(.cons (.ret (.pr true .inn (Eb (.call 7 (Eb (Ei (.v 0) (Ci 0)) (.tup (Eb (.v 1) (.v 2))))) (Ei (.v 0) (Ci 1))))) .nil)
noncomputable def b10:cL:=(.cons (.iff (.not (.call 2 (Eb (.v 0) (Ci 2)))) (.cons (.ret (.c (.bl false))) .nil) .nil) (.cons (.asg (.tp [1,2]) (.v 0)) (.cons (.ret (.and (.call 1 (Ec (.v 1) (Ci 1) (Ci 24))) (.call 1 (Ec (.v 2) (Ci 1) (.v 1))))) .nil)))
noncomputable def V7:cL:=(.cons (.ret (.call 1 (Ec (.v 1) (Ci 0) (.pr true .ao (Eb (Ei (.v 0) (Ci 0)) (Ci 1)))))) .nil)
noncomputable def PJ:cL:=(.cons (.iff (.not (.call 10 (Ea (.v 0)))) (.cons (.rise 1 false (Ea (.c (.str "no ring")))) .nil) .nil) .nil)
noncomputable def b13:cL:=(.cons (.asg (.nm 3) (.pr true .abs (Ea (.pr true .ao (Eb (.v 1) (.v 2)))))) (.cons (.ret (.pr true .min2 (Eb (.v 3) (.pr true .ao (Eb (Ei (.v 0) (Ci 0)) (.v 3)))))) .nil))
noncomputable def V8:cL:=(.cons (.ret (.and (.call 2 (Eb (.v 2) (Ei (.v 0) (Ci 0)))) (.pr true .all (Ea (.comp true (.call 11 (Eb (.v 1) (.v 0))) [0] (.seq (.v 2)) [1] 1 .no))))) .nil)
noncomputable def V9:cL:=(.cons (.ret (.and (.call 14 (Ec (.v 0) (.v 1) (.v 2))) (.pr true .J6 (Ea (.call 17 (Ec (.v 0) (.v 1) (.v 2))))))) .nil)
noncomputable def PK:cL:=(.cons (.ex (.call 8 (Ea (.v 0)))) (.cons (.ex (.call 12 (Ea (.v 1)))) (.cons (.iff (.not (.call 15 (Ec (.v 0) (.v 1) (.v 2)))) (.cons (.rise 2 false (Ea (.c (.str "no hues of the web on the ring")))) .nil) .nil) .nil)))
noncomputable def V_:cL:=(.cons (.fr (.tp [3,4]) (.seq (Ei (.v 0) (Ci 1))) (.cons (.iff (.pr true .lt (Eb (.call 13 (Ec (.v 1) (Ei (.v 2) (.v 3)) (Ei (.v 2) (.v 4)))) (Ei (.v 1) (Ci 1)))) (.cons (.ret (.tup (Eb (.v 3) (.v 4)))) .nil) .nil) .nil)) (.cons (.ret (.c .non)) .nil))
noncomputable def Wa:cL:=(.cons (.ex (.call 8 (Ea (.v 0)))) (.cons (.ex (.call 8 (Ea (.v 1)))) (.cons (.iff (.or (.not (.call 2 (Eb (.v 2) (Ei (.v 0) (Ci 0))))) (.not (.pr true .all (Ea (.comp true (.call 5 (Eb (Ei (.v 1) (Ci 0)) (.v 0))) [0] (.seq (.v 2)) [1] 1 .no))))) (.cons (.ret (.c (.bl false))) .nil) .nil) (.cons (.ret (.pr true .all (Ea (.comp true (.call 9 (Ec (.v 2) (Ei (.v 3) (.v 0)) (Ei (.v 3) (.v 1)))) [0,1] (.seq (Ei (.v 0) (Ci 1))) [1,2] 2 .no)))) .nil))))
noncomputable def Bp:cL:=(.cons (.ex (.call 8 (Ea (.v 0)))) (.cons (.ex (.call 8 (Ea (.v 1)))) (.cons (.ex (.call 12 (Ea (.v 3)))) (.cons (.iff (.not (.call 18 (Ec (.v 0) (.v 1) (.v 2)))) (.cons (.rise 5 false (Ea (.c (.str "no map of the web to the other one")))) .nil) .nil) (.cons (.ex (.call 16 (Ec (.v 1) (.v 3) (.v 4)))) (.cons (.ret (.pr true .tuple (Ea (.comp true (Ei (.v 1) (.v 0)) [0] (.seq (.v 2)) [4] 1 .no)))) .nil))))))
noncomputable def Wb:cL:=(.cons (.iff (.pr true .lt (Eb (.v 1) (.pr true .len (Ea (.v 0))))) (.cons (.ret (Ei (.v 0) (.v 1))) .nil) .nil) (.cons (.ret (Ci 0)) .nil))
noncomputable def Wc:cL:=(.cons (.asg (.nm 1) (.pr true .max2 (Eb (.v 0) (.pr true .ao (Eb (Ci 0) (.v 0)))))) (.cons (.ret (.lst false (Eb (.v 1) (.pr true .vo (Ea (.pr true .ge (Eb (.v 1) (.pr true .pow (Eb (Ci 10) (Ci 18)))))))))) .nil))
noncomputable def Wd:cL:=(.cons (.iff (.pr true .eq (Eb (Ei (.v 0) (Ci 1)) (Ci 1))) (.cons (.asg (.tp [2,3]) (.pr true .divmod (Eb (Ei (.v 0) (Ci 0)) (.v 1)))) (.cons (.asg (.ao (.v 0) (Ci 0)) (.v 2)) (.cons (.ret (.v 3)) .nil))) .nil) (.cons (.asg (.nm 4) (.pr true .mod (Eb (.pr true .mul (Eb (.pr true .add (Eb (.pr true .mod (Eb (Ei (.v 0) (Ci 0)) (Ci 2147483647))) (Ci 40503))) (Ci 69621))) (Ci 2147483629)))) (.cons (.asg (.nm 4) (.pr true .mod (Eb (.pr true .add (Eb (.pr true .mul (Eb (.v 4) (.v 4))) (Ci 7817))) (Ci 2147483587)))) (.cons (.asg (.ao (.v 0) (Ci 0)) (.pr true .mod (Eb (.pr true .add (Eb (.pr true .mul (Eb (.v 4) (Ci 48271))) (Ci 11))) (Ci 2147483629)))) (.cons (.ret (.pr true .mod (Eb (.pr true .fdiv (Eb (Ei (.v 0) (Ci 0)) (Ci 32))) (.v 1)))) .nil)))))
noncomputable def b23:cL:=(.cons (.ret (.and (.gQ (.v 0) .int) (.not (.gQ (.v 0) .bool)))) .nil)
noncomputable def Wf:cL:=(.cons (.asg (.nm 1) (.lst true (.cons (.c .non) (.cons (.c (.bl true)) (.cons (.c (.bl false)) (.cons (.pr true .neg (Ea (Ci 1))) (.cons (.c (.str "1")) (.cons (.c (.str "")) (.cons (.tup .nil) (.cons (.lst true .nil) (.cons (.tup (Ea (Ci 0))) (.cons (.lst true (Ea (Ci 0))) (.cons (.vq "a" 1) (.cons (.tup (Eb (Ci 0) (Ci 1))) (Ec (.pr true .pow (Eb (Ci 10) (Ci 30))) (.tup (Eb (Ci 0) (.tup .nil))) (.tup (Ea (.c (.str "ab"))))))))))))))))))) (.cons (.ret (Ei (.pr true .add (Eb (.v 1) (.lst true (Ea (.tup (Eb (Ci 1) (.tup (Ea (.tup (Eb (Ci 0) (Ci 0))))))))))) (.call 22 (Eb (.v 0) (Ci 16))))) .nil))
noncomputable def b25:cL:=(.cons (.asg (.nm 1) (.lst true (.cons (.gQ (.v 0) (.cls 1)) (Ec (.gQ (.v 0) (.cls 2)) (.gQ (.v 0) (.cls 3)) (.gQ (.v 0) (.cls 4)))))) (.cons (.asg (.nm 1) (.pr true .add (Eb (.v 1) (.lst true (.cons (.gQ (.v 0) (.cls 5)) (Ec (.gQ (.v 0) (.cls 6)) (.gQ (.v 0) (.cls 7)) (.gQ (.v 0) (.cls 8)))))))) (.cons (.asg (.nm 1) (.pr true .add (Eb (.v 1) (.lst true (Ec (.gQ (.v 0) (.cls 9)) (.gQ (.v 0) (.cls 10)) (.gQ (.v 0) (.cls 11))))))) (.cons (.iff (.or (.not (.gQ (.v 0) .qm)) (.pr true .ne (Eb (.meth true .count .list (.v 1) (Ea (.c (.bl true)))) (Ci 1)))) (.cons (.ret (.c (.str "other"))) .nil) .nil) (.cons (.asg (.nm 2) (.lst true (.cons (.c (.str "ring")) (.cons (.c (.str "hues")) (.cons (.c (.str "place")) (.cons (.c (.str "arrows")) (.cons (.c (.str "map")) (.cons (.c (.str "paper")) (.cons (.c (.str "apart")) (.cons (.c (.str "row")) (Ec (.c (.str "web")) (.c (.str "text")) (.c (.str "great"))))))))))))) (.cons (.ret (Ei (.v 2) (.meth true .index .list (.v 1) (Ea (.c (.bl true)))))) .nil))))))
noncomputable def Wg:cL:=(.cons (.asg (.nm 2) (Ei (.lst true (Ec (Ci 2) (Ci 4) (Ci 6))) (.call 22 (Eb (.v 0) (Ci 3))))) (.cons (.asg (.nm 3) (.lst true .nil)) (.cons (.fr (.nm 4) (.rg (Ci 0) (.v 1)) (.cons (.asg (.nm 3) (.pr true .add (Eb (.v 3) (.comp true (.tup (Eb (.v 1) (.v 0))) [0] (.rg (.pr true .add (Eb (.v 4) (Ci 1))) (.v 1)) [4,0,2] 1 (.yes (.pr true .lt (Eb (.call 22 (Eb (.v 2) (Ci 8))) (.v 3)))))))) .nil)) (.cons (.ret (.tup (Eb (.v 1) (.pr true .tuple (Ea (.v 3)))))) .nil))))
noncomputable def Wh:cL:=(.cons (.iff (.or (.not (.gQ (.v 0) .tuple)) (.or (.pr true .ne (Eb (.pr true .len (Ea (.v 0))) (Ci 2))) (.or (.not (.call 23 (Ea (Ei (.v 0) (Ci 0))))) (.not (.sS .le .le (Ci 1) (Ei (.v 0) (Ci 0)) (Ci 8)))))) (.cons (.ret (.c (.bl false))) .nil) .nil) (.cons (.iff (.not (.gQ (Ei (.v 0) (Ci 1)) .tuple)) (.cons (.ret (.c (.bl false))) .nil) .nil) (.cons (.fr (.nm 1) (.seq (Ei (.v 0) (Ci 1))) (.cons (.iff (.or (.not (.gQ (.v 1) .tuple)) (.or (.pr true .ne (Eb (.pr true .len (Ea (.v 1))) (Ci 2))) (.not (.pr true .all (Ea (.comp true (.call 23 (Ea (.v 0))) [0] (.seq (.v 1)) [] 1 .no)))))) (.cons (.ret (.c (.bl false))) .nil) .nil) (.cons (.iff (.not (.vp .le .lt .lt (Ci 0) (Ei (.v 1) (Ci 0)) (Ei (.v 1) (Ci 1)) (Ei (.v 0) (Ci 0)))) (.cons (.ret (.c (.bl false))) .nil) .nil) .nil))) (.cons (.ret (.pr true .eq (Eb (.pr true .list (Ea (Ei (.v 0) (Ci 1)))) (.pr true .fu (Ea (Ei (.v 0) (Ci 1))))))) .nil))))
noncomputable def Wi:cL:=(.cons (.asg (.nm 1) (.lst true (.cons (.tup (Eb (Ci 2) (Ci 1))) (.cons (.tup (Eb (Ci 3) (Ci 1))) (.cons (.tup (Eb (Ci 5) (Ci 2))) (.cons (.tup (Eb (Ci 4) (Ci 1))) (.cons (.tup (Eb (Ci 7) (Ci 3))) (.cons (.tup (Eb (Ci 7) (Ci 2))) (.cons (.tup (Eb (Ci 4) (Ci 2))) (.cons (.tup (Eb (Ci 6) (Ci 2))) (.cons (.tup (Eb (Ci 10) (Ci 4))) (Ec (.tup (Eb (Ci 5) (Ci 1))) (.tup (Eb (Ci 8) (Ci 3))) (.tup (Eb (Ci 3) (Ci 2))))))))))))))) (.cons (.iff (.pr true .eq (Eb (.call 22 (Eb (.v 0) (Ci 6))) (Ci 0))) (.cons (.asg (.nm 2) (.pr true .add (Eb (Ci 1) (.pr true .mod (Eb (.call 22 (Eb (.v 0) (Ci 24))) (Ci 10)))))) (.cons (.ret (.tup (Eb (.v 2) (.pr true .max2 (Eb (Ci 1) (.pr true .fdiv (Eb (.call 22 (Eb (.v 0) (.v 2))) (Ci 2)))))))) .nil)) .nil) (.cons (.ret (Ei (.v 1) (.call 22 (Eb (.v 0) (Ci 12))))) .nil)))
noncomputable def Wj:cL:=(.cons (.iff (.or (.not (.gQ (.v 0) .tuple)) (.or (.pr true .ne (Eb (.pr true .len (Ea (.v 0))) (Ci 2))) (.not (.pr true .all (Ea (.comp true (.call 23 (Ea (.v 0))) [0] (.seq (.v 0)) [] 1 .no)))))) (.cons (.ret (.c (.bl false))) .nil) .nil) (.cons (.ret (.vp .le .le .le (Ci 1) (Ei (.v 0) (Ci 1)) (Ei (.v 0) (Ci 0)) (Ci 24))) .nil))
noncomputable def b30:cL:=(.cons (.asg (.nm 3) (.pr true .abs (Ea (.pr true .ao (Eb (.v 1) (.v 2)))))) (.cons (.ret (.pr true .min2 (Eb (.v 3) (.pr true .ao (Eb (.v 0) (.v 3)))))) .nil))
noncomputable def Wm:cL:=(.cons (.ret (.pr true .eq (Eb (.comp true (.v 0) [0] (.seq (Ei (.v 0) (Ci 1))) [1,2] 1 (.yes (.pr true .lt (Eb (.call 30 (Ec (Ei (.v 1) (Ci 0)) (Ei (.v 2) (Ei (.v 0) (Ci 0))) (Ei (.v 2) (Ei (.v 0) (Ci 1))))) (Ei (.v 1) (Ci 1)))))) (.lst true .nil)))) .nil)
noncomputable def Wn:cL:=(.cons (.iff (.or (.not (.gQ (.v 0) .tuple)) (.pr true .ne (Eb (.pr true .len (Ea (.v 0))) (.v 1)))) (.cons (.ret (.c (.bl false))) .nil) .nil) (.cons (.ret (.pr true .all (Ea (.comp true (.and (.call 23 (Ea (.v 0))) (.sS .le .lt (Ci 0) (.v 0) (.v 1))) [0] (.seq (.v 0)) [2] 1 .no)))) .nil))
noncomputable def Wo:cL:=(.cons (.ret (.and (.call 32 (Ec (.v 2) (Ei (.v 0) (Ci 0)) (Ei (.v 1) (Ci 0)))) (.call 31 (Ec (.v 0) (.v 1) (.v 2))))) .nil)
noncomputable def Wq:cL:=(.cons (.iff (.and (.pr true .ne (Eb (Ei (.v 0) (Ci 1)) (.tup .nil))) (.pr true .lt (Eb (Ei (.v 1) (Ci 0)) (.pr true .mul (Eb (Ci 2) (Ei (.v 1) (Ci 1))))))) (.cons (.ret (.c .non)) .nil) .nil) (.cons (.asg (.nm 2) (.lst true .nil)) (.cons (.fr (.tp [3,4]) (.seq (Ei (.v 0) (Ci 1))) (.cons (.asg (.nm 5) (.comp true (.v 0) [0] (.rg (Ci 0) (Ei (.v 0) (Ci 0))) [3,0,4] 1 (.yes (.and (.pr true .inn (Eb (.tup (Eb (.v 1) (.v 0))) (Ei (.v 2) (Ci 1)))) (.pr true .inn (Eb (.tup (Eb (.v 3) (.v 0))) (Ei (.v 2) (Ci 1)))))))) (.cons (.asg (.nm 2) (.pr true .add (Eb (.v 2) (.v 5)))) .nil))) (.cons (.iff (.and (.pr true .ne (Eb (.v 2) (.lst true .nil))) (.pr true .lt (Eb (Ei (.v 1) (Ci 0)) (.pr true .mul (Eb (Ci 3) (Ei (.v 1) (Ci 1))))))) (.cons (.ret (.c .non)) .nil) .nil) (.cons (.asg (.nm 6) (.comp true (.v 0) [0] (.rg (Ci 0) (Ei (.v 0) (Ci 0))) [0] 1 (.yes (.pr true .eq (Eb (.comp true (.v 0) [0] (.seq (Ei (.v 1) (Ci 1))) [0] 1 (.yes (.pr true .inn (Eb (.v 1) (.v 0))))) (.lst true .nil)))))) (.cons (.asg (.nm 7) (.lst false (Ea (Ci 0)))) (.cons (.wh (.pr true .eq (Eb (Ei (.v 7) (Ci 0)) (Ci 0))) (.cons (.iff (.or (.pr true .eq (Eb (Ei (.v 7) (.pr true .neg (Ea (Ci 1)))) (Ei (.v 1) (Ci 0)))) (.and (.pr true .gt (Eb (Ei (.v 7) (.pr true .neg (Ea (Ci 1)))) (Ci 0))) (.pr true .inn (Eb (.pr true .ao (Eb (.pr true .len (Ea (.v 7))) (Ci 1))) (.v 6))))) (.cons (.ex (.pop (.v 7))) (.cons (.iff (.pr true .eq (Eb (.v 7) (.lst true .nil))) (.cons (.ret (.c .non)) .nil) .nil) (.cons (.asg (.ao (.v 7) (.pr true .neg (Ea (Ci 1)))) (.pr true .add (Eb (Ei (.v 7) (.pr true .neg (Ea (Ci 1)))) (Ci 1)))) .nil))) (.cons (.asg (.nm 8) (.comp true (.v 0) [0] (.seq (Ei (.v 0) (Ci 1))) [7] 1 (.yes (.pr true .eq (Eb (Ei (.v 0) (Ci 1)) (.pr true .ao (Eb (.pr true .len (Ea (.v 1))) (Ci 1)))))))) (.cons (.asg (.nm 9) (.comp true (.v 0) [0] (.seq (.v 8)) [1,7] 1 (.yes (.pr true .lt (Eb (.call 30 (Ec (Ei (.v 1) (Ci 0)) (Ei (.v 2) (Ei (.v 0) (Ci 0))) (Ei (.v 2) (.pr true .neg (Ea (Ci 1)))))) (Ei (.v 1) (Ci 1))))))) (.cons (.iff (.pr true .ne (Eb (.v 9) (.lst true .nil))) (.cons (.asg (.ao (.v 7) (.pr true .neg (Ea (Ci 1)))) (.pr true .add (Eb (Ei (.v 7) (.pr true .neg (Ea (Ci 1)))) (Ci 1)))) .nil) (.cons (.iff (.pr true .eq (Eb (.pr true .len (Ea (.v 7))) (Ei (.v 0) (Ci 0)))) (.cons (.ret (.pr true .tuple (Ea (.v 7)))) .nil) (.cons (.ex (.push (.v 7) (Ci 0))) .nil)) .nil)) .nil)))) .nil)) (.cons (.ret (.c .non)) .nil))))))))
noncomputable def Wr:cL:=(.cons (.asg (.tp [2,3]) (.v 1)) (.cons (.asg (.nm 4) (.call 22 (Eb (.v 0) (.pr true .add (Eb (.pr true .len (Ea (.v 3))) (Ci 1)))))) (.cons (.asg (.nm 5) (.lst true (.cons (.tup (Eb (Ci 0) (Ci 0))) (.cons (.tup (Eb (Ci 1) (Ci 0))) (.cons (.tup (Eb (Ci 0) (.v 2))) (.cons (.tup (Eb (.pr true .neg (Ea (Ci 1))) (Ci 0))) (.cons (.tup (Eb (.c (.bl false)) (.c (.bl true)))) (.cons (.tup (Eb (Ci 0) (.c (.bl true)))) (.cons (.tup (Ea (Ci 0))) (Ec (.tup (Ec (Ci 0) (Ci 1) (Ci 2))) (.lst true (Eb (Ci 0) (Ci 1))) (.c .non))))))))))) (.cons (.asg (.nm 6) (Ei (.v 5) (.call 22 (Eb (.v 0) (Ci 10))))) (.cons (.par 7 8 (.sl true (.v 3) .no (.yes (.v 4))) (.sl true (.v 3) (.yes (.pr true .add (Eb (.v 4) (Ci 1)))) .no)) (.cons (.iff (.pr true .eq (Eb (.call 22 (Eb (.v 0) (Ci 2))) (Ci 0))) (.cons (.asg (.nm 9) (.lst true (.cons (.pr true .add (Eb (.pr true .add (Eb (.v 7) (.tup (Ea (.v 6))))) (.v 8))) (.cons (.pr true .add (Eb (.pr true .add (Eb (.v 7) (.tup (Ea (.v 6))))) (.sl true (.v 3) (.yes (.v 4)) .no))) (Ec (.pr true .rev (Ea (.v 3))) (.pr true .list (Ea (.v 3))) (.pr true .add (Eb (.v 3) (.sl true (.v 3) .no (.yes (Ci 1)))))))))) (.cons (.asg (.nm 9) (.pr true .add (Eb (.v 9) (.lst true (.cons (.pr true .add (Eb (.v 7) (.v 8))) (Ec (.tup (Ea (.v 3))) (.pr true .add (Eb (.sl true (.v 3) (.yes (.v 4)) .no) (.v 7))) (.pr true .add (Eb (.pr true .add (Eb (.v 7) (.tup (Ea (.tup (Eb (Ci 0) (Ci 1))))))) (.sl true (.v 3) (.yes (.v 4)) .no))))))))) (.cons (.ret (.tup (Eb (.v 2) (Ei (.v 9) (.call 22 (Eb (.v 0) (Ci 9))))))) .nil))) .nil) (.cons (.asg (.nm 5) (.lst true (.cons (.tup (Eb (.pr true .add (Eb (.v 2) (Ci 1))) (.v 3))) (.cons (.tup (Eb (.pr true .ao (Eb (.v 2) (Ci 1))) (.v 3))) (.cons (.tup (Eb (.c (.bl true)) (.v 3))) (Ec (.tup (Eb (Ci 9) (.v 3))) (.tup (Eb (Ci 0) (.tup .nil))) (.tup (Eb (.c .non) (.v 3))))))))) (.cons (.asg (.nm 5) (.pr true .add (Eb (.v 5) (.lst true (.cons (.lst true (Eb (.v 2) (.v 3))) (.cons (.tup (Ec (.v 2) (.v 3) (Ci 0))) (.cons (.tup (Ea (.v 2))) (Ec (.tup (Eb (.pr true .str1 (Ea (.v 2))) (.v 3))) (.tup (Eb (.v 3) (.v 2))) (.v 3))))))))) (.cons (.ret (Ei (.v 5) (.call 22 (Eb (.v 0) (Ci 12))))) .nil)))))))))
noncomputable def Ws:cL:=(.cons (.asg (.nm 3) (.call 22 (Eb (.v 0) (.pr true .add (Eb (.pr true .len (Ea (.v 1))) (Ci 1)))))) (.cons (.asg (.nm 4) (Ei (.lst true (.cons (.c (.bl true)) (.cons (.c (.bl false)) (.cons (.c .non) (.cons (.pr true .neg (Ea (Ci 1))) (.cons (.v 2) (Ec (.c (.str "0")) (.tup (Ea (Ci 0))) (.call 22 (Eb (.v 0) (.v 2)))))))))) (.call 22 (Eb (.v 0) (Ci 8))))) (.cons (.asg (.nm 5) (.lst true (.cons (.pr true .add (Eb (.pr true .add (Eb (.sl true (.v 1) .no (.yes (.v 3))) (.tup (Ea (.v 4))))) (.sl true (.v 1) (.yes (.pr true .add (Eb (.v 3) (Ci 1)))) .no))) (.cons (.pr true .add (Eb (.sl true (.v 1) .no (.yes (.v 3))) (.sl true (.v 1) (.yes (.pr true .add (Eb (.v 3) (Ci 1)))) .no))) (.cons (.pr true .add (Eb (.v 1) (.tup (Ea (Ci 0))))) (Ec (.pr true .list (Ea (.v 1))) (.c .non) (.tup (Ea (.v 1))))))))) (.cons (.ret (Ei (.v 5) (Ei (.lst true (.cons (Ci 0) (.cons (Ci 0) (.cons (Ci 0) (.cons (Ci 0) (.cons (Ci 1) (.cons (Ci 2) (Ec (Ci 3) (Ci 4) (Ci 5))))))))) (.call 22 (Eb (.v 0) (Ci 9)))))) .nil))))
noncomputable def Wt:cL:=(.cons (.asg (.tp [2,3]) (.v 1)) (.cons (.asg (.nm 4) (.lst true (.cons (.tup (Eb (.v 2) (.pr true .add (Eb (.v 2) (Ci 1))))) (.cons (.tup (Eb (Ci 0) (Ci 0))) (.cons (.tup (Eb (Ci 25) (Ci 1))) (.cons (.tup (Eb (.v 2) (Ci 0))) (.cons (.tup (Eb (.c (.bl true)) (Ci 1))) (.cons (.tup (Ec (.v 2) (.v 3) (Ci 1))) (Ec (.lst true (Eb (.v 2) (.v 3))) (.tup (Ea (.v 2))) (.c .non)))))))))) (.cons (.ret (Ei (.pr true .add (Eb (.v 4) (.lst true (Ec (.tup (Eb (.v 3) (.v 2))) (.c (.str "5/2")) (.tup (Eb (.pr true .ao (Eb (Ci 0) (.v 2))) (.v 3))))))) (.call 22 (Eb (.v 0) (Ci 12))))) .nil)))
noncomputable def Wu:cL:=(.cons (.iff (.not (.call 32 (Ec (.v 2) (Ei (.v 0) (Ci 0)) (Ei (.v 1) (Ci 0))))) (.cons (.ret (.c (.bl false))) .nil) .nil) (.cons (.ret (.pr true .eq (Eb (.comp true (.v 0) [0] (.seq (Ei (.v 0) (Ci 1))) [2,1] 1 (.yes (.pr true .nin (Eb (.pr true .tuple (Ea (.pr true .sorted (Ea (.lst true (Eb (Ei (.v 1) (Ei (.v 0) (Ci 0))) (Ei (.v 1) (Ei (.v 0) (Ci 1))))))))) (Ei (.v 2) (Ci 1)))))) (.lst true .nil)))) .nil))
noncomputable def PL:cL:=(.cons (.sW (.cons (.ret (.tup (Eb (.c (.str "told")) (.call 19 (.cons (.v 0) (.cons (.v 1) (Ec (.v 2) (.v 3) (.v 4)))))))) .nil) 0 5 (.cons (.ret (.tup (Eb (.call 25 (Ea (.v 5))) (.c .non)))) .nil)) .nil)
noncomputable def Wv:cL:=(.cons (.iff (.or (.not (.call 27 (Ea (.v 0)))) (.not (.call 27 (Ea (.v 1))))) (.cons (.ret (.c (.str "web"))) .nil) .nil) (.cons (.iff (.not (.call 29 (Ea (.v 3)))) (.cons (.ret (.c (.str "ring"))) .nil) .nil) (.cons (.iff (.not (.call 38 (Ec (.v 0) (.v 1) (.v 2)))) (.cons (.ret (.c (.str "map"))) .nil) .nil) (.cons (.ret (Ei (.lst true (Eb (.c (.str "hues")) (.c (.str "told")))) (.pr true .vo (Ea (.call 33 (Ec (.v 1) (.v 3) (.v 4))))))) .nil))))
noncomputable def Ww:cL:=(.cons (.asg (.tp [5,6]) (.call 39 (.cons (.v 0) (.cons (.v 1) (Ec (.v 2) (.v 3) (.v 4)))))) (.cons (.iff (.pr true .ne (Eb (.v 5) (.call 40 (.cons (.v 0) (.cons (.v 1) (Ec (.v 2) (.v 3) (.v 4))))))) (.cons (.ret (.c (.bl false))) .nil) .nil) (.cons (.iff (.pr true .ne (Eb (.v 5) (.c (.str "told")))) (.cons (.ret (.c (.bl true))) .nil) .nil) (.cons (.iff (.or (.pr true .ne (Eb (.v 6) (.pr true .tuple (Ea (.comp true (Ei (.v 1) (.v 0)) [0] (.seq (.v 2)) [4] 1 .no))))) (.not (.call 33 (Ec (.v 0) (.v 3) (.v 6))))) (.cons (.ret (.c (.bl false))) .nil) .nil) (.cons (.ret (.pr true .eq (Eb (.call 39 (.cons (.v 0) (.cons (.v 1) (Ec (.v 2) (.v 3) (.v 4))))) (.tup (Eb (.v 5) (.v 6)))))) .nil)))))
noncomputable def Wx:cL:=(.cons (.asg (.tp [1,2]) (.tup (Eb (.tup (Eb (Ci 2) (.tup (Ea (.tup (Eb (Ci 0) (Ci 1))))))) (.tup (Eb (Ci 3) (.tup (Eb (.tup (Eb (Ci 0) (Ci 1))) (.tup (Eb (Ci 1) (Ci 2)))))))))) (.cons (.iff (.or (.not (.call 41 (.cons (.v 2) (.cons (.v 1) (Ec (.tup (Ec (Ci 0) (Ci 1) (Ci 0))) (.tup (Eb (Ci 2) (Ci 1))) (.tup (Eb (Ci 1) (Ci 0)))))))) (.not (.call 41 (.cons (.v 1) (.cons (.v 2) (Ec (.tup (Eb (Ci 0) (Ci 2))) (.tup (Eb (Ci 2) (Ci 1))) (.tup (Ec (Ci 0) (Ci 1) (Ci 0))))))))) (.cons (.ret (.c (.bl false))) .nil) .nil) (.cons (.fr (.nm 3) (.seq (.pr true .add (Eb (.lst true (Ea (.call 20 (Eb (.v 0) (Ci 0))))) (.sl true (.v 0) (.yes (Ci 1)) (.yes (Ci 4)))))) (.cons (.asg (.nm 4) (.call 21 (Ea (.v 3)))) (.cons (.asg (.tp [5,6]) (.tup (Eb (.call 26 (Eb (.v 4) (.pr true .add (Eb (Ci 1) (.call 22 (Eb (.v 4) (Ci 5))))))) (.call 28 (Ea (.v 4)))))) (.cons (.asg (.nm 7) (.pr true .tuple (Ea (.comp true (.call 22 (Eb (.v 1) (Ei (.v 2) (Ci 0)))) [0] (.rg (Ci 0) (.pr true .add (Eb (Ci 1) (.call 22 (Eb (.v 4) (Ci 5)))))) [4,5] 1 .no)))) (.cons (.asg (.nm 8) (.lst true .nil)) (.cons (.fr (.nm 9) (.rg (Ci 0) (.pr true .len (Ea (.v 7)))) (.cons (.asg (.nm 10) (.comp true (.pr true .tuple (Ea (.pr true .sorted (Ea (.lst true (Eb (.v 0) (Ei (.v 1) (.v 2)))))))) [0] (.seq (.sl true (.v 7) .no (.yes (.v 9)))) [7,9] 1 .no)) (.cons (.asg (.nm 8) (.pr true .add (Eb (.v 8) (.comp true (.tup (Eb (.v 0) (.v 1))) [0] (.rg (Ci 0) (.v 9)) [9,10,5] 1 (.yes (.pr true .inn (Eb (Ei (.v 2) (.v 0)) (Ei (.v 3) (Ci 1))))))))) .nil))) (.cons (.asg (.nm 11) (.tup (Eb (.pr true .len (Ea (.v 7))) (.pr true .tuple (Ea (.pr true .sorted (Ea (.v 8)))))))) (.cons (.asg (.nm 12) (.Dj (.call 34 (Eb (.v 5) (.v 6))) (.pr true .mult (Eb (.tup (Ea (Ci 0))) (Ei (.v 5) (Ci 0)))))) (.cons (.iff (.not (.call 41 (.cons (.v 11) (.cons (.v 5) (Ec (.v 7) (.v 6) (.v 12)))))) (.cons (.ret (.c (.bl false))) .nil) .nil) (.cons (.iff (.not (.call 41 (.cons (.call 35 (Eb (.v 4) (.v 11))) (.cons (.v 5) (Ec (.v 7) (.v 6) (.v 12)))))) (.cons (.ret (.c (.bl false))) .nil) .nil) (.cons (.iff (.not (.call 41 (.cons (.v 11) (.cons (.call 35 (Eb (.v 4) (.v 5))) (Ec (.v 7) (.v 6) (.v 12)))))) (.cons (.ret (.c (.bl false))) .nil) .nil) (.cons (.fr (.nm 13) (.seq (.lst true (Eb (.call 36 (Ec (.v 4) (.v 7) (Ei (.v 5) (Ci 0)))) (.call 24 (Ea (.v 4)))))) (.cons (.iff (.or (.not (.call 41 (.cons (.v 11) (.cons (.v 5) (Ec (.v 13) (.v 6) (.v 12)))))) (.not (.call 41 (.cons (.v 11) (.cons (.v 5) (Ec (.v 13) (.v 6) (.c .non))))))) (.cons (.ret (.c (.bl false))) .nil) .nil) .nil)) (.cons (.iff (.not (.call 41 (.cons (.v 11) (.cons (.v 5) (Ec (.v 7) (.call 37 (Eb (.v 4) (.v 6))) (.v 12)))))) (.cons (.ret (.c (.bl false))) .nil) .nil) (.cons (.iff (.not (.call 41 (.cons (.v 11) (.cons (.v 5) (Ec (.v 7) (.v 6) (.call 36 (Ec (.v 4) (.v 12) (Ei (.v 6) (Ci 0))))))))) (.cons (.ret (.c (.bl false))) .nil) .nil) .nil)))))))))))))) (.cons (.ret (.c (.bl true))) .nil))))
noncomputable def T(n:Nat):Option Df:=([⟨1,1,b0⟩,⟨3,3,b1⟩,⟨2,2,b2⟩,⟨3,1,b3⟩,⟨1,1,b4⟩,⟨2,2,b5⟩,⟨4,2,b6⟩,⟨2,2,b7⟩,⟨1,1,b8⟩,⟨3,3,b9⟩,⟨3,1,b10⟩,⟨2,2,V7⟩,⟨1,1,PJ⟩,⟨4,3,b13⟩,⟨3,3,V8⟩,⟨3,3,V9⟩,⟨3,3,PK⟩,⟨5,3,V_⟩,⟨3,3,Wa⟩,⟨5,5,Bp⟩,⟨2,2,Wb⟩,⟨2,1,Wc⟩,⟨5,2,Wd⟩,⟨1,1,b23⟩,⟨2,1,Wf⟩,⟨3,1,b25⟩,⟨5,2,Wg⟩,⟨2,1,Wh⟩,⟨3,1,Wi⟩,⟨1,1,Wj⟩,⟨4,3,b30⟩,⟨3,3,Wm⟩,⟨3,3,Wn⟩,⟨3,3,Wo⟩,⟨10,2,Wq⟩,⟨10,2,Wr⟩,⟨6,3,Ws⟩,⟨5,2,Wt⟩,⟨3,3,Wu⟩,⟨6,5,PL⟩,⟨5,5,Wv⟩,⟨7,5,Ww⟩,⟨14,1,Wx⟩]:List Df)[n]?
theorem T_0:T 0=some ⟨1,1,b0⟩:=rfl
theorem T_1:T 1=some ⟨3,3,b1⟩:=rfl
theorem T_2:T 2=some ⟨2,2,b2⟩:=rfl
theorem T_3:T 3=some ⟨3,1,b3⟩:=rfl
theorem T_4:T 4=some ⟨1,1,b4⟩:=rfl
theorem Wy:T 5=some ⟨2,2,b5⟩:=rfl
theorem Wz:T 6=some ⟨4,2,b6⟩:=rfl
theorem T_7:T 7=some ⟨2,2,b7⟩:=rfl
theorem WD:T 8=some ⟨1,1,b8⟩:=rfl
theorem T_9:T 9=some ⟨3,3,b9⟩:=rfl
theorem zoq:T 10=some ⟨3,1,b10⟩:=rfl
theorem zom:T 11=some ⟨2,2,V7⟩:=rfl
theorem WK:T 12=some ⟨1,1,PJ⟩:=rfl
theorem zoM:T 13=some ⟨4,3,b13⟩:=rfl
theorem zoy:T 14=some ⟨3,3,V8⟩:=rfl
theorem zoI:T 15=some ⟨3,3,V9⟩:=rfl
theorem WL:T 16=some ⟨3,3,PK⟩:=rfl
theorem zou:T 17=some ⟨5,3,V_⟩:=rfl
theorem zop:T 18=some ⟨3,3,Wa⟩:=rfl
theorem Fb:T 19=some ⟨5,5,Bp⟩:=rfl
theorem zoi:T 20=some ⟨2,2,Wb⟩:=rfl
theorem zol:T 21=some ⟨2,1,Wc⟩:=rfl
theorem zoC:T 22=some ⟨5,2,Wd⟩:=rfl
theorem zoQ:T 23=some ⟨1,1,b23⟩:=rfl
theorem zoF:T 24=some ⟨2,1,Wf⟩:=rfl
theorem zoO:T 25=some ⟨3,1,b25⟩:=rfl
theorem zox:T 26=some ⟨5,2,Wg⟩:=rfl
theorem zoG:T 27=some ⟨2,1,Wh⟩:=rfl
theorem zoL:T 28=some ⟨3,1,Wi⟩:=rfl
theorem zoE:T 29=some ⟨1,1,Wj⟩:=rfl
theorem zoU:T 30=some ⟨4,3,b30⟩:=rfl
theorem zoB:T 31=some ⟨3,3,Wm⟩:=rfl
theorem zoH:T 32=some ⟨3,3,Wn⟩:=rfl
theorem zok:T 33=some ⟨3,3,Wo⟩:=rfl
theorem zow:T 34=some ⟨10,2,Wq⟩:=rfl
theorem zov:T 35=some ⟨10,2,Wr⟩:=rfl
theorem zon:T 36=some ⟨6,3,Ws⟩:=rfl
theorem zoK:T 37=some ⟨5,2,Wt⟩:=rfl
theorem zoh:T 38=some ⟨3,3,Wu⟩:=rfl
theorem WM:T 39=some ⟨6,5,PL⟩:=rfl
theorem zoA:T 40=some ⟨5,5,Wv⟩:=rfl
theorem zoo:T 41=some ⟨7,5,Ww⟩:=rfl
theorem zoJ:T 42=some ⟨14,1,Wx⟩:=rfl
noncomputable def ao:Nat->Nat->Bool:=λc e=>(let n:=λc=>if c<12 then c else 0;n e==0||n c==n e)
end gw
namespace gw
open PySem PySem.Spec PyProof.Rows L2 Mi
abbrev LK(i:Nat)(x:Str)(k:NameKind):Prop:=(au (top i)).names.lookup x=some k
noncomputable abbrev gI:NameKind:=.globalImplicit
theorem zoj:ao=kI 12:=rfl
abbrev N3:List Str:=["thing","many","ties"]
abbrev N14:List Str:=["web","ring","thing"]
abbrev WQ:List Str:=["web","other","thing"]
abbrev N19:List Str:=["web","other","row","ring","hues"]
abbrev N26:List Str:=["_law_pen_here","_law_many","_law_often","_law_ties","_law_one"]
abbrev N27:List Str:=["_law_thing","_law_tie"]
abbrev N29:List Str:=["_law_thing"]
abbrev N31:List Str:=["_law_web_here","_law_ring_here","_law_spots"]
abbrev N32:List Str:=["_law_thing","_law_size","_law_k"]
abbrev Mr:List Str:=["_law_web_here","_law_ring_here","_law_threes","_law_one","_law_other","_law_both_near","_law_loose","_law_row","_law_ties","_law_near"]
abbrev N38:List Str:=["_law_web_here","_law_other","_law_thing"]
abbrev N41:List Str:=["_law_web_here","_law_other","_law_row","_law_ring_here","_law_hues","_law_word_here","_law_found"]
abbrev PN:List Str:=["_law_script","_law_one","_law_two","_law_cell_here","_law_pen_here","_law_other","_law_ring_here","_law_row","_law_ties","_law_high","_law_near","_law_web_here","_law_hues","_law_bad"]
noncomputable def cl(K:W.Frag):Cl:=⟨eY (lk.L K),λc=>(([[],[],[],[],[],[],[],[],[],["at"],["at"],["many","most"]]:List (List Str)).getD c [])⟩
theorem tx9:vY "NoWeb.__init__" qb ["at"]:=vY.of (λ_ _ _ _ _ _ us hl=>bind1 (f:=λus=>bindArgs _ ⟨us,[]⟩) (λ_ _=>rfl) us hl) (by decide +kernel) (by intro z;cases z) (by decide) (by decide +kernel) (by decide +kernel) rfl rfl rfl
structure Top(K:W.Frag)(mg:Str->Option Value):Prop where
 cs:vH K (cl K) ao
 d0:D3 K mg "is_whole" (top 14) ["thing"]
 d1:D3 K mg "is_within" (top 15) ["thing","least","most"]
 d2:D3 K mg "is_row" (top 16) ["thing","many"]
 d3:D3 K mg "is_web" (top 19) ["thing"]
 d4:D3 K mg "is_many" (top 20) ["thing"]
 d5:D3 K mg "is_place" (top 21) ["many","thing"]
 d6:D3 K mg "is_tie" (top 22) ["many","thing"]
 d7:D3 K mg "tie_by" (top 23) ["many","thing"]
 d8:D3 K mg "check_web" (top 24) ["thing"]
 d9:D3 K mg "are_tied" (top 25) ["web","one","other"]
 WT:D3 K mg "is_ring" (top 28) ["thing"]
 WW:D3 K mg "is_spot" (top 29) ["ring","thing"]
 PX:D3 K mg "check_ring" (top 30) ["thing"]
 WX:D3 K mg "gap_of" (top 31) ["ring","one","other"]
 WY:D3 K mg "are_spots" (top 33) ["web","ring","thing"]
 W0:D3 K mg "are_hues" (top 34) ["web","ring","thing"]
 W2:D3 K mg "check_hues" (top 35) ["web","ring","thing"]
 W3:D3 K mg "clash_of" (top 36) ["web","ring","spots"]
 W4:D3 K mg "map_holds" (top 38) ["web","other","thing"]
 W5:D3 K mg "led_hues" (top 39) ["web","other","row","ring","hues"]
 W6:D3 K mg "_law_cell" (top 41) ["_law_script","_law_k"]
 W7:D3 K mg "_law_pen" (top 42) ["_law_cell_here"]
 lQ:D3 K mg "_law_draw" (top 43) ["_law_pen_here","_law_many"]
 G6:D3 K mg "_law_whole" (top 44) ["_law_thing"]
 W8:D3 K mg "_law_odd" (top 45) ["_law_pen_here"]
 W9:D3 K mg "_law_kind" (top 46) ["_law_e"]
 W_:D3 K mg "_law_web" (top 47) ["_law_pen_here","_law_many"]
 P0:D3 K mg "_law_is_web" (top 48) ["_law_thing"]
 Xa:D3 K mg "_law_ring" (top 49) ["_law_pen_here"]
 Xb:D3 K mg "_law_is_ring" (top 50) ["_law_thing"]
 P_:D3 K mg "_law_apart" (top 51) ["_law_k","_law_one","_law_other"]
 Xc:D3 K mg "_law_fit_spots" (top 52) ["_law_web_here","_law_ring_here","_law_spots"]
 Qa:D3 K mg "_law_are_spots" (top 53) ["_law_thing","_law_size","_law_k"]
 Qc:D3 K mg "_law_are_hues" (top 54) ["_law_web_here","_law_ring_here","_law_thing"]
 Xd:D3 K mg "_law_first" (top 55) ["_law_web_here","_law_ring_here"]
 Qd:D3 K mg "_law_bent_web" (top 56) ["_law_pen_here","_law_web_here"]
 Qe:D3 K mg "_law_bent_row" (top 57) ["_law_pen_here","_law_row","_law_k"]
 Xe:D3 K mg "_law_bent_ring" (top 58) ["_law_pen_here","_law_ring_here"]
 Xf:D3 K mg "_law_is_map" (top 59) ["_law_web_here","_law_other","_law_thing"]
 Qf:D3 K mg "_law_told" (top 60) ["_law_web_here","_law_other","_law_row","_law_ring_here","_law_hues"]
 Xg:D3 K mg "_law_word" (top 61) ["_law_web_here","_law_other","_law_row","_law_ring_here","_law_hues"]
 wF:D3 K mg "_law_right" (top 62) ["_law_web_here","_law_other","_law_row","_law_ring_here","_law_hues"]
 Qg:D3 K mg "law" (top 63) ["_law_script"]
 c0:mg "HueError"=some (.ref ((cl K).a 0))
 c1:mg "NoRing"=some (.ref ((cl K).a 1))
 c2:mg "NoHues"=some (.ref ((cl K).a 2))
 c3:mg "NoPlace"=some (.ref ((cl K).a 3))
 c4:mg "NoArrows"=some (.ref ((cl K).a 4))
 c5:mg "NoMap"=some (.ref ((cl K).a 5))
 c6:mg "NoPaper"=some (.ref ((cl K).a 6))
 c7:mg "Apart"=some (.ref ((cl K).a 7))
 c8:mg "NoRow"=some (.ref ((cl K).a 8))
 c9:mg "NoWeb"=some (.ref ((cl K).a 9))
 c10:mg "NoText"=some (.ref ((cl K).a 10))
 c11:mg "TooGreat"=some (.ref ((cl K).a 11))
 x1:PySem.W.excIn K ((cl K).a 1) [.type "ValueError",.type "Exception",.type "BaseException",.type "object"] "ValueError.__new__"=true
 x2:PySem.W.excIn K ((cl K).a 2) [.type "ValueError",.type "Exception",.type "BaseException",.type "object"] "ValueError.__new__"=true
 x5:PySem.W.excIn K ((cl K).a 5) [.type "ValueError",.type "Exception",.type "BaseException",.type "object"] "ValueError.__new__"=true
 i9:lu K ((cl K).a 9) (aW qb) (aN qb) (au qb) ((cl K).f 9)
 s0:∀c,ao c 0=true->subIn K ((cl K).a c) ((cl K).a 0)=true
 gZ:∃t,mg "MOST_PLACES"=some (.int 8 t)
 iZ:∃t,mg "MOST_SPOTS"=some (.int 24 t)
 z11:mg "ValueError"=none
 z8:mg "abs"=none
 z6:mg "all"=none
 z2:mg "bool"=none
 z10:mg "divmod"=none
 z1:mg "int"=none
 z0:mg "isinstance"=none
 z4:mg "len"=none
 Qh:mg "list"=none
 z9:mg "max"=none
 z7:mg "min"=none
 Bq:mg "range"=none
 z15:mg "set"=none
 Ms:mg "sorted"=none
 z16:mg "str"=none
 z3:mg "tuple"=none
 z5:mg "zip"=none
theorem zlq{K:W.Frag}{h:Heap}{mg:Str->Option Value}(S:jF fs ms xs lk K)(X:K.In h)(G:h.Ns mainGlobals mg):Top K mg where
 cs:=by
  rcases S.gd.cs with z|z
  ·cases z
  ·exact zjT (Nat.zero_lt_succ _) z
 d0:=rE S X G 0
 d1:=rF S X G 1
 d2:=vZ S X G 2
 d3:=rE S X G 3
 d4:=rE S X G 4
 d5:=vZ S X G 5
 d6:=vZ S X G 6
 d7:=vZ S X G 7
 d8:=rE S X G 8
 d9:=rF S X G 9
 WT:=rE S X G 10
 WW:=vZ S X G 11
 PX:=rE S X G 12
 WX:=rF S X G 13
 WY:=rF S X G 14
 W0:=rF S X G 15
 W2:=rF S X G 16
 W3:=rF S X G 17
 W4:=rF S X G 18
 W5:=O4 S X G 19
 W6:=vZ S X G 20
 W7:=rE S X G 21
 lQ:=vZ S X G 22
 G6:=rE S X G 23
 W8:=rE S X G 24
 W9:=rE S X G 25
 W_:=vZ S X G 26
 P0:=rE S X G 27
 Xa:=rE S X G 28
 Xb:=rE S X G 29
 P_:=rF S X G 30
 Xc:=rF S X G 31
 Qa:=rF S X G 32
 Qc:=rF S X G 33
 Xd:=vZ S X G 34
 Qd:=vZ S X G 35
 Qe:=rF S X G 36
 Xe:=vZ S X G 37
 Xf:=rF S X G 38
 Qf:=O4 S X G 39
 Xg:=O4 S X G 40
 wF:=O4 S X G 41
 Qg:=rE S X G 42
 c0:=uE (S.gd.cl "HueError" (mG 0)) X G
 c1:=uE (S.gd.cl "NoRing" (mG 1)) X G
 c2:=uE (S.gd.cl "NoHues" (mG 2)) X G
 c3:=uE (S.gd.cl "NoPlace" (mG 3)) X G
 c4:=uE (S.gd.cl "NoArrows" (mG 4)) X G
 c5:=uE (S.gd.cl "NoMap" (mG 5)) X G
 c6:=uE (S.gd.cl "NoPaper" (mG 6)) X G
 c7:=uE (S.gd.cl "Apart" (mG 7)) X G
 c8:=uE (S.gd.cl "NoRow" (mG 8)) X G
 c9:=uE (S.gd.cl "NoWeb" (mG 9)) X G
 c10:=uE (S.gd.cl "NoText" (mG 10)) X G
 c11:=uE (S.gd.cl "TooGreat" (mG 11)) X G
 x1:=S.gd.ra 1 (mG 0)
 x2:=S.gd.ra 2 (mG 1)
 x5:=S.gd.ra 5 (mG 2)
 i9:=zj8 (S.mi ⟨9,"NoWeb.__init__",qb,["at"]⟩ (mG 0)) tx9 (S.se ⟨9,"NoWeb.__init__",qb,["at"]⟩ (mG 0))
 s0:=zjC (L:=lk.L K) (Nat.zero_lt_succ _) (S.gd.ca 0 (mG 0))
 gZ:=zi3 (S.gd.it ("MOST_PLACES",8) (mG 0)) X G
 iZ:=zi3 (S.gd.it ("MOST_SPOTS",24) (mG 1)) X G
 z11:=pB (S.gd.no "ValueError" (mG 0)) X G
 z8:=pB (S.gd.no "abs" (mG 1)) X G
 z6:=pB (S.gd.no "all" (mG 2)) X G
 z2:=pB (S.gd.no "bool" (mG 3)) X G
 z10:=pB (S.gd.no "divmod" (mG 4)) X G
 z1:=pB (S.gd.no "int" (mG 5)) X G
 z0:=pB (S.gd.no "isinstance" (mG 6)) X G
 z4:=pB (S.gd.no "len" (mG 7)) X G
 Qh:=pB (S.gd.no "list" (mG 8)) X G
 z9:=pB (S.gd.no "max" (mG 9)) X G
 z7:=pB (S.gd.no "min" (mG 10)) X G
 Bq:=pB (S.gd.no "range" (mG 11)) X G
 z15:=pB (S.gd.no "set" (mG 12)) X G
 Ms:=pB (S.gd.no "sorted" (mG 13)) X G
 z16:=pB (S.gd.no "str" (mG 14)) X G
 z3:=pB (S.gd.no "tuple" (mG 15)) X G
 z5:=pB (S.gd.no "zip" (mG 16)) X G
abbrev FO(P:Program)(w:World)(K:W.Frag)(mg:Str->Option Value)(base:Heap)(k:Nat)(c:Bool)(x:Str)(i:Nat)(ps:List Str)(n:Nat):Prop:=gA P w K mg base (mZ P w) c k (jV K x) (fdOf K x (top i)) ps (wZ K (cl K) (call ao T k c n))
structure Fs(P:Program)(w:World)(K:W.Frag)(mg:Str->Option Value)(base:Heap)(k:Nat):Prop where
 t0:FO P w K mg base k true "is_whole" 14 ["thing"] 0
 t1:FO P w K mg base k true "is_within" 15 ["thing","least","most"] 1
 t2:FO P w K mg base k true "is_row" 16 ["thing","many"] 2
 t3:FO P w K mg base k true "is_web" 19 ["thing"] 3
 t4:FO P w K mg base k true "is_many" 20 ["thing"] 4
 t5:FO P w K mg base k true "is_place" 21 ["many","thing"] 5
 t6:FO P w K mg base k true "is_tie" 22 ["many","thing"] 6
 t7:FO P w K mg base k true "tie_by" 23 ["many","thing"] 7
 t8:FO P w K mg base k true "check_web" 24 ["thing"] 8
 t9:FO P w K mg base k true "are_tied" 25 ["web","one","other"] 9
 t10:FO P w K mg base k true "is_ring" 28 ["thing"] 10
 t11:FO P w K mg base k true "is_spot" 29 ["ring","thing"] 11
 Xh:FO P w K mg base k true "check_ring" 30 ["thing"] 12
 t13:FO P w K mg base k true "gap_of" 31 ["ring","one","other"] 13
 t14:FO P w K mg base k true "are_spots" 33 ["web","ring","thing"] 14
 t15:FO P w K mg base k true "are_hues" 34 ["web","ring","thing"] 15
 t16:FO P w K mg base k true "check_hues" 35 ["web","ring","thing"] 16
 t17:FO P w K mg base k true "clash_of" 36 ["web","ring","spots"] 17
 t18:FO P w K mg base k true "map_holds" 38 ["web","other","thing"] 18
 t19:FO P w K mg base k true "led_hues" 39 ["web","other","row","ring","hues"] 19
 t20:FO P w K mg base k true "_law_cell" 41 ["_law_script","_law_k"] 20
 t21:FO P w K mg base k true "_law_pen" 42 ["_law_cell_here"] 21
 lZ:FO P w K mg base k true "_law_draw" 43 ["_law_pen_here","_law_many"] 22
 Mt:FO P w K mg base k true "_law_whole" 44 ["_law_thing"] 23
 t24:FO P w K mg base k true "_law_odd" 45 ["_law_pen_here"] 24
 q25:FO P w K mg base k false "_law_kind" 46 ["_law_e"] 25
 t26:FO P w K mg base k true "_law_web" 47 ["_law_pen_here","_law_many"] 26
 Xi:FO P w K mg base k true "_law_is_web" 48 ["_law_thing"] 27
 t28:FO P w K mg base k true "_law_ring" 49 ["_law_pen_here"] 28
 t29:FO P w K mg base k true "_law_is_ring" 50 ["_law_thing"] 29
 Xj:FO P w K mg base k true "_law_apart" 51 ["_law_k","_law_one","_law_other"] 30
 t31:FO P w K mg base k true "_law_fit_spots" 52 ["_law_web_here","_law_ring_here","_law_spots"] 31
 Xk:FO P w K mg base k true "_law_are_spots" 53 ["_law_thing","_law_size","_law_k"] 32
 Xl:FO P w K mg base k true "_law_are_hues" 54 ["_law_web_here","_law_ring_here","_law_thing"] 33
 t34:FO P w K mg base k true "_law_first" 55 ["_law_web_here","_law_ring_here"] 34
 Xm:FO P w K mg base k true "_law_bent_web" 56 ["_law_pen_here","_law_web_here"] 35
 Xn:FO P w K mg base k true "_law_bent_row" 57 ["_law_pen_here","_law_row","_law_k"] 36
 t37:FO P w K mg base k true "_law_bent_ring" 58 ["_law_pen_here","_law_ring_here"] 37
 t38:FO P w K mg base k true "_law_is_map" 59 ["_law_web_here","_law_other","_law_thing"] 38
 Xo:FO P w K mg base k true "_law_told" 60 ["_law_web_here","_law_other","_law_row","_law_ring_here","_law_hues"] 39
 t40:FO P w K mg base k true "_law_word" 61 ["_law_web_here","_law_other","_law_row","_law_ring_here","_law_hues"] 40
 xM:FO P w K mg base k true "_law_right" 62 ["_law_web_here","_law_other","_law_row","_law_ring_here","_law_hues"] 41
 t42:FO P w K mg base k true "law" 63 ["_law_script"] 42
section
variable {P:Program}{w:World}{K:W.Frag}{mg:Str->Option Value}{base:Heap}{k:Nat}
theorem zja(Tp:Top K mg)(Fk:Fs P w K mg base k):Fs P w K mg base (k+1) where
 t0:=fJ Tp.d0 ["thing"] T_0 λ_ _ _ _ _ _ hr=>(aG (bL (vU (lE Tp.cs Tp.z0 gk (gv 0) (uy rfl Tp.z1 zi5 gk dk)) (vR (zmR (lE Tp.cs Tp.z0 gk (gv 0) (uy rfl Tp.z2 zgV gk dk))))))
 aM)
 t1:=fJ Tp.d1 ["thing","least","most"] T_1 λ_ _ _ _ _ _ hr=>(aG (bL (vU (gc Fk.t0 Tp.d0 hr bG gk (aq (gv 0) aB)) (vR (zkQ zj zj (gv 1) (gv 0) (gv 2)))))
 aM)
 t2:=fJ Tp.d2 ["thing","many"] T_2 λ_ _ _ _ _ _ hr=>(aG (bL (vU (lE Tp.cs Tp.z0 gk (gv 0) (uy rfl Tp.z3 Ay gk dk)) (vR (zm (rC hr) (tH Tp.z4 gk (aq (gv 0) aB)) (gv 1)))))
 aM)
 t3:=fJ Tp.d3 N3 T_3 λ_ _ _ _ _ _ hr=>(aG (dZ (fU (fC (gc Fk.t2 Tp.d2 hr bG gk (aq (gv 0) (aq aC aB))))) (aG (bL gD)
 aM) aM)
 (aG (zu 1 2 rfl rfl nd rfl rfl jc jl rfl rfl (gv 0))
 (aG (dZ (pA (pO (fU (fC (gc Fk.t4 Tp.d4 hr bG gk (aq (gv 1) aB)))) (uw (fU (fC (lE Tp.cs Tp.z0 gk (gv 2) (uy rfl Tp.z3 Ay gk dk))))))) (aG (bL gD)
 aM) aM)
 (aG (dZ (fU (fC (Az rfl Tp.z6 gk (aq (pP (au (top 19)) N3 ["tie"] ["many"] [1] rfl rfl rfl (by decide +kernel) (by decide +kernel) (nA 0) (by decide +kernel) (mF (gv 2)) (λ_ _ _ _ _ _=>(nF 0 (by decide +kernel) rfl (by decide +kernel))) (λ_ _ _ _ _ _=>uz) (λ_ _ _ _ _ _=>(gc Fk.t6 Tp.d6 hr uD pR (aq (bV 1) (aq (bV 0) aB))))) aB)))) (aG (bL gD)
 aM) aM)
 (aG (bL (Az rfl Tp.z6 gk (aq (pP (au (top 19)) N3 ["tie","later"] [] [] rfl rfl rfl (by decide +kernel) (by decide +kernel) (T6 0 1) (by decide +kernel) (znL Tp.z5 gk (gv 2) (tG (gv 2) (rD aC) ux)) (λ_ _ _ _ _ _=>(zoz 0 1 rfl (by decide +kernel) rfl rfl (by decide +kernel) (by decide +kernel))) (λ_ _ _ _ _ _=>uz) (λ_ _ _ _ _ _=>(zm (uq hr) (bV 0) (bV 1)))) aB)))
 aM)))))
 t4:=fJ Tp.d4 ["thing"] T_4 λ_ _ _ _ _ _ hr=>(aG (bL (gc Fk.t1 Tp.d1 hr bG gk (aq (gv 0) (aq aC (aq (zoD Tp.gZ gk dk) aB)))))
 aM)
 t5:=fJ Tp.d5 ["many","thing"] Wy λ_ _ _ _ _ _ hr=>(aG (bL (gc Fk.t1 Tp.d1 hr bG gk (aq (gv 1) (aq aC (aq (b_ vP (gv 0) aC) aB)))))
 aM)
 t6:=fJ Tp.d6 ["many","thing","one","other"] Wz λ_ _ _ _ _ _ hr=>(aG (dZ (fU (fC (gc Fk.t2 Tp.d2 hr bG gk (aq (gv 1) (aq aC aB))))) (aG (bL gD)
 aM) aM)
 (aG (zu 2 3 rfl rfl nd rfl rfl jl jl rfl rfl (gv 1))
 (aG (bL (vU (gc Fk.t5 Tp.d5 hr bG gk (aq (gv 0) (aq (gv 2) aB))) (vU (gc Fk.t5 Tp.d5 hr bG gk (aq (gv 0) (aq (gv 3) aB))) (vR (zm (uq hr) (gv 2) (gv 3))))))
 aM)))
 t7:=fJ Tp.d7 ["many","thing"] T_7 λ_ _ _ _ _ _ hr=>(aG (dZ (fC (gc Fk.t6 Tp.d6 hr bG gk (aq (gv 0) (aq (gv 1) aB)))) (aG (bL (gv 1))
 aM) aM)
 (aG (dZ (pA (K1 (fC (gc Fk.t2 Tp.d2 hr bG gk (aq (gv 1) (aq aC aB)))) (KZ (fC (gc Fk.t6 Tp.d6 hr bG gk (aq (gv 0) (aq (Ub (gv 1)) aB))))))) (aG (bL (Ub (gv 1)))
 aM) aM)
 (aG (bL rB)
 aM)))
 t8:=fJ Tp.d8 ["thing"] WD λ_ _ _ _ _ _ hr=>(aG (dZ (fU (fC (gc Fk.t3 Tp.d3 hr bG gk (aq (gv 0) aB)))) (aG (zhy (kk:=.globalImplicit) hr rfl rfl Tp.i9 Tp.c9 gk bG (aq (vQ aC) aB) dk)
 aM) aM)
 aM)
 t9:=fJ Tp.d9 ["web","one","other"] T_9 λ_ _ _ _ _ _ hr=>(aG (bL (zm (Gy hr) (gc Fk.t7 Tp.d7 hr bG gk (aq (bA (gv 0) aC) (aq (bF (aq (gv 1) (aq (gv 2) aB))) aB))) (bA (gv 0) aC)))
 aM)
 t10:=fJ Tp.WT ["thing","k","d"] zoq λ_ _ _ _ _ _ hr=>(aG (dZ (fU (fC (gc Fk.t2 Tp.d2 hr bG gk (aq (gv 0) (aq aC aB))))) (aG (bL gD)
 aM) aM)
 (aG (zu 1 2 rfl rfl nd rfl rfl jl jl rfl rfl (gv 0))
 (aG (bL (vU (gc Fk.t1 Tp.d1 hr bG gk (aq (gv 1) (aq aC (aq (zoD Tp.iZ gk dk) aB)))) (vR (gc Fk.t1 Tp.d1 hr bG gk (aq (gv 2) (aq aC (aq (gv 1) aB)))))))
 aM)))
 t11:=fJ Tp.WW ["ring","thing"] zom λ_ _ _ _ _ _ hr=>(aG (bL (gc Fk.t1 Tp.d1 hr bG gk (aq (gv 1) (aq aC (aq (b_ vP (bA (gv 0) aC) aC) aB)))))
 aM)
 Xh:=fJ Tp.PX ["thing"] WK λ_ _ _ _ _ _ hr=>(aG (dZ (fU (fC (gc Fk.t10 Tp.WT hr bG gk (aq (gv 0) aB)))) (aG (Uh rfl rfl rfl Tp.x1 Tp.c1 gk bG (aq jt aB) dk)
 aM) aM)
 aM)
 t13:=fJ Tp.WX ["ring","one","other","gap"] zoM λ_ _ _ _ _ _ hr=>(aG (gq 3 nd rfl jl rfl (zkU Tp.z8 gk (aq (b_ vP (gv 1) (gv 2)) aB)))
 (aG (bL (ziO rfl Tp.z7 gk (aq (gv 3) (aq (b_ vP (bA (gv 0) aC) (gv 3)) aB))))
 aM))
 t14:=fJ Tp.WY N14 zoy λ_ _ _ _ _ _ hr=>(aG (bL (vU (gc Fk.t2 Tp.d2 hr bG gk (aq (gv 2) (aq (bA (gv 0) aC) aB))) (vR (Az rfl Tp.z6 gk (aq (pP (au (top 33)) N14 ["spot"] ["ring"] [1] rfl rfl rfl (by decide +kernel) (by decide +kernel) (nA 0) (by decide +kernel) (mF (gv 2)) (λ_ _ _ _ _ _=>(nF 0 (by decide +kernel) rfl (by decide +kernel))) (λ_ _ _ _ _ _=>uz) (λ_ _ _ _ _ _=>(gc Fk.t11 Tp.WW hr uD pR (aq (bV 1) (aq (bV 0) aB))))) aB)))))
 aM)
 t15:=fJ Tp.W0 ["web","ring","thing"] zoI λ_ _ _ _ _ _ hr=>(aG (bL (vU (gc Fk.t14 Tp.WY hr bG gk (aq (gv 0) (aq (gv 1) (aq (gv 2) aB)))) (vR (zoa (gc Fk.t17 Tp.W3 hr bG gk (aq (gv 0) (aq (gv 1) (aq (gv 2) aB))))))))
 aM)
 t16:=fJ Tp.W2 ["web","ring","thing"] WL λ_ _ _ _ _ _ hr=>(aG (xg (gc Fk.t8 Tp.d8 hr bG gk (aq (gv 0) aB)))
 (aG (xg (gc Fk.Xh Tp.PX hr bG gk (aq (gv 1) aB)))
 (aG (dZ (fU (fC (gc Fk.t15 Tp.W0 hr bG gk (aq (gv 0) (aq (gv 1) (aq (gv 2) aB)))))) (aG (Uh rfl rfl rfl Tp.x2 Tp.c2 gk bG (aq jt aB) dk)
 aM) aM)
 aM)))
 t17:=fJ Tp.W3 ["web","ring","spots","one","other"] zou λ_ _ _ _ _ _ hr=>(aG (DN Bb rfl rfl (mF (bA (gv 0) aC)) (ziF 3 4 rfl rfl nd rfl rfl jl jl rfl rfl) (aG (dZ (gO (uq hr) (gc Fk.t13 Tp.WX hr bG gk (aq (gv 1) (aq (bA (gv 2) (gv 3)) (aq (bA (gv 2) (gv 4)) aB)))) (bA (gv 1) aC)) (aG (bL (bF (aq (gv 3) (aq (gv 4) aB))))
 aM) aM)
 aM))
 (aG (bL rB)
 aM))
 t18:=fJ Tp.W4 WQ zop λ_ _ _ _ _ _ hr=>(aG (xg (gc Fk.t8 Tp.d8 hr bG gk (aq (gv 0) aB)))
 (aG (xg (gc Fk.t8 Tp.d8 hr bG gk (aq (gv 1) aB)))
 (aG (dZ (pA (pO (fU (fC (gc Fk.t2 Tp.d2 hr bG gk (aq (gv 2) (aq (bA (gv 0) aC) aB))))) (uw (fU (fC (Az rfl Tp.z6 gk (aq (pP (au (top 38)) WQ ["place"] ["other"] [1] rfl rfl rfl (by decide +kernel) (by decide +kernel) (nA 0) (by decide +kernel) (mF (gv 2)) (λ_ _ _ _ _ _=>(nF 0 (by decide +kernel) rfl (by decide +kernel))) (λ_ _ _ _ _ _=>uz) (λ_ _ _ _ _ _=>(gc Fk.t5 Tp.d5 hr uD pR (aq (bA (bV 1) aC) (aq (bV 0) aB))))) aB))))))) (aG (bL gD)
 aM) aM)
 (aG (bL (Az rfl Tp.z6 gk (aq (pP (au (top 38)) WQ ["i","j"] ["other","thing"] [1,2] rfl rfl rfl (by decide +kernel) (by decide +kernel) (T6 0 1) (by decide +kernel) (mF (bA (gv 0) aC)) (λ_ _ _ _ _ _=>(zoz 0 1 rfl (by decide +kernel) rfl rfl (by decide +kernel) (by decide +kernel))) (λ_ _ _ _ _ _=>uz) (λ_ _ _ _ _ _=>(gc Fk.t9 Tp.d9 hr uD pR (aq (bV 2) (aq (bA (bV 3) (bV 0)) (aq (bA (bV 3) (bV 1)) aB)))))) aB)))
 aM))))
 t19:=fJ Tp.W5 N19 Fb λ_ _ _ _ _ _ hr=>(aG (xg (gc Fk.t8 Tp.d8 hr bG gk (aq (gv 0) aB)))
 (aG (xg (gc Fk.t8 Tp.d8 hr bG gk (aq (gv 1) aB)))
 (aG (xg (gc Fk.Xh Tp.PX hr bG gk (aq (gv 3) aB)))
 (aG (dZ (fU (fC (gc Fk.t18 Tp.W4 hr bG gk (aq (gv 0) (aq (gv 1) (aq (gv 2) aB)))))) (aG (Uh rfl rfl rfl Tp.x5 Tp.c5 gk bG (aq jt aB) dk)
 aM) aM)
 (aG (xg (gc Fk.t16 Tp.W2 hr bG gk (aq (gv 1) (aq (gv 3) (aq (gv 4) aB)))))
 (aG (bL (A_ Tp.z3 gk (aq (pP (au (top 39)) N19 ["place"] ["hues"] [4] rfl rfl rfl (by decide +kernel) (by decide +kernel) (nA 0) (by decide +kernel) (mF (gv 2)) (λ_ _ _ _ _ _=>(nF 0 (by decide +kernel) rfl (by decide +kernel))) (λ_ _ _ _ _ _=>uz) (λ_ _ _ _ _ _=>(bA (bV 1) (bV 0)))) aB)))
 aM))))))
 t20:=fJ Tp.W6 ["_law_script","_law_k"] zoi λ_ _ _ _ _ _ hr=>(aG (dZ (gO (uq hr) (gv 1) (tH Tp.z4 gk (aq (gv 0) aB))) (aG (bL (bA (gv 0) (gv 1)))
 aM) aM)
 (aG (bL aC)
 aM))
 t21:=fJ Tp.W7 ["_law_cell_here","_law_left"] zol λ_ _ _ _ _ _ hr=>(aG (gq 1 nd rfl jl rfl (ziE rfl Tp.z9 gk (aq (gv 0) (aq (b_ vP aC (gv 0)) aB))))
 (aG (bL (fD (aq (gv 1) (aq (ziK Tp.z1 gk (aq (zm zoT (gv 1) (b_ zln aC aC)) aB)) aB))))
 aM))
 lZ:=fJ Tp.lQ ["_law_pen_here","_law_many","_law_left","_law_found","_law_stir"] zoC λ_ _ _ _ _ _ hr=>(aG (dZ (gO (rC hr) (bA (gv 0) aC) aC) (aG (zu 2 3 rfl rfl nd rfl rfl jl jl rfl rfl (zhB Tp.z10 gk (aq (bA (gv 0) aC) (aq (gv 1) aB))))
 (aG (O2 (gv 0) aC (gv 2))
 (aG (bL (gv 3))
 aM))) aM)
 (aG (gq 4 nd rfl jl rfl (b_ Gx (b_ KR (b_ fB (b_ Gx (bA (gv 0) aC) aC) aC) aC) aC))
 (aG (gq 4 nd rfl jl rfl (b_ Gx (b_ fB (b_ KR (gv 4) (gv 4)) aC) aC))
 (aG (O2 (gv 0) aC (b_ Gx (b_ fB (b_ KR (gv 4) aC) aC) aC))
 (aG (bL (b_ Gx (b_ ziR (bA (gv 0) aC) aC) (gv 1)))
 aM)))))
 Mt:=fJ Tp.G6 ["_law_thing"] zoQ λ_ _ _ _ _ _ hr=>(aG (bL (vU (lE Tp.cs Tp.z0 gk (gv 0) (uy rfl Tp.z1 zi5 gk dk)) (vR (zmR (lE Tp.cs Tp.z0 gk (gv 0) (uy rfl Tp.z2 zgV gk dk))))))
 aM)
 t24:=fJ Tp.W8 ["_law_pen_here","_law_some"] zoF λ_ _ _ _ _ _ hr=>(aG (gq 1 nd rfl jl rfl (fD (aq rB (aq gD (aq gD (aq (vQ aC) (aq jt (aq jt (aq (bF aB) (aq (fD aB) (aq (bF (aq aC aB)) (aq (fD (aq aC aB)) (aq zlK (aq (bF (aq aC (aq aC aB))) (aq (b_ zln aC aC) (aq (bF (aq aC (aq (bF aB) aB))) (aq (bF (aq jt aB)) aB)))))))))))))))))
 (aG (bL (bA (b_ fB (gv 1) (fD (aq (bF (aq aC (aq (bF (aq (bF (aq aC (aq aC aB))) aB)) aB))) aB))) (gc Fk.lZ Tp.lQ hr bG gk (aq (gv 0) (aq aC aB)))))
 aM))
 q25:=fJ Tp.W9 ["_law_e","_law_marks","_law_words"] zoO λ_ _ _ _ _ _ hr=>(aG (gq 1 nd rfl jl rfl (fD (aq (lE Tp.cs Tp.z0 gk (gv 0) (vX Tp.c1 gk dk)) (aq (lE Tp.cs Tp.z0 gk (gv 0) (vX Tp.c2 gk dk)) (aq (lE Tp.cs Tp.z0 gk (gv 0) (vX Tp.c3 gk dk)) (aq (lE Tp.cs Tp.z0 gk (gv 0) (vX Tp.c4 gk dk)) aB))))))
 (aG (gq 1 nd rfl jl rfl (b_ fB (gv 1) (fD (aq (lE Tp.cs Tp.z0 gk (gv 0) (vX Tp.c5 gk dk)) (aq (lE Tp.cs Tp.z0 gk (gv 0) (vX Tp.c6 gk dk)) (aq (lE Tp.cs Tp.z0 gk (gv 0) (vX Tp.c7 gk dk)) (aq (lE Tp.cs Tp.z0 gk (gv 0) (vX Tp.c8 gk dk)) aB)))))))
 (aG (gq 1 nd rfl jl rfl (b_ fB (gv 1) (fD (aq (lE Tp.cs Tp.z0 gk (gv 0) (vX Tp.c9 gk dk)) (aq (lE Tp.cs Tp.z0 gk (gv 0) (vX Tp.c10 gk dk)) (aq (lE Tp.cs Tp.z0 gk (gv 0) (vX Tp.c11 gk dk)) aB))))))
 (aG (dZ (pA (pO (fU (fC (lE Tp.cs Tp.z0 gk (gv 0) (uy rfl Tp.z11 zc3 gk dk)))) (uw (gO (vV hr) (zjR (gv 1) (aq gD aB)) aC)))) (aG (bL jt)
 aM) aM)
 (aG (gq 2 nd rfl jl rfl (fD (aq jt (aq jt (aq jt (aq jt (aq jt (aq jt (aq jt (aq jt (aq jt (aq jt (aq jt aB)))))))))))))
 (aG (bL (bA (gv 2) (zjG (gv 1) (aq gD aB))))
 aM))))))
 t26:=fJ Tp.W_ N26 zox λ_ _ _ _ _ _ hr=>(aG (gq 2 nd rfl jc rfl (bA (fD (aq aC (aq aC (aq aC aB)))) (gc Fk.lZ Tp.lQ hr bG gk (aq (gv 0) (aq aC aB)))))
 (aG (gq 3 nd rfl jl rfl (fD aB))
 (aG (DN Bb rfl rfl (Gz Tp.Bq gk (gv 1)) (K5 4 nd rfl jc rfl) (aG (gq 3 nd rfl jl rfl (b_ fB (gv 3) (pP (au (top 47)) N26 ["_law_other"] ["_law_one","_law_pen_here","_law_often"] [4,0,2] rfl rfl rfl (by decide +kernel) (by decide +kernel) (nA 0) (by decide +kernel) (zoS Tp.Bq gk (b_ fB (gv 4) aC) (gv 1)) (λ_ _ _ _ _ _=>(nF 0 (by decide +kernel) rfl (by decide +kernel))) (λ_ _ _ _ _ _=>(zp (gO (uq hr) (gc Fk.lZ Tp.lQ hr uD pR (aq (bV 2) (aq aC aB))) (bV 3)))) (λ_ _ _ _ _ _=>(bF (aq (bV 1) (aq (bV 0) aB)))))))
 aM))
 (aG (bL (bF (aq (gv 1) (aq (A_ Tp.z3 gk (aq (gv 3) aB)) aB))))
 aM))))
 Xi:=fJ Tp.P0 N27 zoG λ_ _ _ _ _ _ hr=>(aG (dZ (pA (pO (fU (fC (lE Tp.cs Tp.z0 gk (gv 0) (uy rfl Tp.z3 Ay gk dk)))) (pO (gO (vV hr) (tH Tp.z4 gk (aq (gv 0) aB)) aC) (pO (fU (fC (gc Fk.Mt Tp.G6 hr bG gk (aq (bA (gv 0) aC) aB)))) (uw (fU (znI zj zj aC (bA (gv 0) aC) aC))))))) (aG (bL gD)
 aM) aM)
 (aG (dZ (fU (fC (lE Tp.cs Tp.z0 gk (bA (gv 0) aC) (uy rfl Tp.z3 Ay gk dk)))) (aG (bL gD)
 aM) aM)
 (aG (DN Bb rfl rfl (mF (bA (gv 0) aC)) (K5 1 nd rfl jl rfl) (aG (dZ (pA (pO (fU (fC (lE Tp.cs Tp.z0 gk (gv 1) (uy rfl Tp.z3 Ay gk dk)))) (pO (gO (vV hr) (tH Tp.z4 gk (aq (gv 1) aB)) aC) (uw (fU (fC (Az rfl Tp.z6 gk (aq (pP (au (top 48)) N27 ["_law_place"] [] [] rfl rfl rfl (by decide +kernel) (by decide +kernel) (nA 0) (by decide +kernel) (mF (gv 1)) (λ_ _ _ _ _ _=>(nF 0 (by decide +kernel) rfl (by decide +kernel))) (λ_ _ _ _ _ _=>uz) (λ_ _ _ _ _ _=>(gc Fk.Mt Tp.G6 hr uD pR (aq (bV 0) aB)))) aB)))))))) (aG (bL gD)
 aM) aM)
 (aG (dZ (fU (zn0 zj (uq hr) (uq hr) aC (bA (gv 1) aC) (bA (gv 1) aC) (bA (gv 0) aC))) (aG (bL gD)
 aM) aM)
 aM)))
 (aG (bL (zm (rC hr) (Uc Tp.Qh gk (aq (bA (gv 0) aC) aB)) (zoP hr rfl Tp.Ms gk Tp.z15 gk (aq (bA (gv 0) aC) aB))))
 aM))))
 t28:=fJ Tp.Xa ["_law_pen_here","_law_some","_law_k"] zoL λ_ _ _ _ _ _ hr=>(aG (gq 1 nd rfl jl rfl (fD (aq (bF (aq aC (aq aC aB))) (aq (bF (aq aC (aq aC aB))) (aq (bF (aq aC (aq aC aB))) (aq (bF (aq aC (aq aC aB))) (aq (bF (aq aC (aq aC aB))) (aq (bF (aq aC (aq aC aB))) (aq (bF (aq aC (aq aC aB))) (aq (bF (aq aC (aq aC aB))) (aq (bF (aq aC (aq aC aB))) (aq (bF (aq aC (aq aC aB))) (aq (bF (aq aC (aq aC aB))) (aq (bF (aq aC (aq aC aB))) aB))))))))))))))
 (aG (dZ (gO (rC hr) (gc Fk.lZ Tp.lQ hr bG gk (aq (gv 0) (aq aC aB))) aC) (aG (gq 2 nd rfl jl rfl (b_ fB aC (b_ Gx (gc Fk.lZ Tp.lQ hr bG gk (aq (gv 0) (aq aC aB))) aC)))
 (aG (bL (bF (aq (gv 2) (aq (ziE rfl Tp.z9 gk (aq aC (aq (b_ ziR (gc Fk.lZ Tp.lQ hr bG gk (aq (gv 0) (aq (gv 2) aB))) aC) aB))) aB))))
 aM)) aM)
 (aG (bL (bA (gv 1) (gc Fk.lZ Tp.lQ hr bG gk (aq (gv 0) (aq aC aB)))))
 aM)))
 t29:=fJ Tp.Xb N29 zoE λ_ _ _ _ _ _ hr=>(aG (dZ (pA (pO (fU (fC (lE Tp.cs Tp.z0 gk (gv 0) (uy rfl Tp.z3 Ay gk dk)))) (pO (gO (vV hr) (tH Tp.z4 gk (aq (gv 0) aB)) aC) (uw (fU (fC (Az rfl Tp.z6 gk (aq (pP (au (top 50)) N29 ["_law_one"] [] [] rfl rfl rfl (by decide +kernel) (by decide +kernel) (nA 0) (by decide +kernel) (mF (gv 0)) (λ_ _ _ _ _ _=>(nF 0 (by decide +kernel) rfl (by decide +kernel))) (λ_ _ _ _ _ _=>uz) (λ_ _ _ _ _ _=>(gc Fk.Mt Tp.G6 hr uD pR (aq (bV 0) aB)))) aB)))))))) (aG (bL gD)
 aM) aM)
 (aG (bL (zn1 zj zj zj aC (bA (gv 0) aC) (bA (gv 0) aC) aC))
 aM))
 Xj:=fJ Tp.P_ ["_law_k","_law_one","_law_other","_law_there"] zoU λ_ _ _ _ _ _ hr=>(aG (gq 3 nd rfl jl rfl (zkU Tp.z8 gk (aq (b_ vP (gv 1) (gv 2)) aB)))
 (aG (bL (ziO rfl Tp.z7 gk (aq (gv 3) (aq (b_ vP (gv 0) (gv 3)) aB))))
 aM))
 t31:=fJ Tp.Xc N31 zoB λ_ _ _ _ _ _ hr=>(aG (bL (zm (rC hr) (pP (au (top 52)) N31 ["_law_tie"] ["_law_ring_here","_law_spots"] [1,2] rfl rfl rfl (by decide +kernel) (by decide +kernel) (nA 0) (by decide +kernel) (mF (bA (gv 0) aC)) (λ_ _ _ _ _ _=>(nF 0 (by decide +kernel) rfl (by decide +kernel))) (λ_ _ _ _ _ _=>(zp (gO (uq hr) (gc Fk.Xj Tp.P_ hr uD pR (aq (bA (bV 1) aC) (aq (bA (bV 2) (bA (bV 0) aC)) (aq (bA (bV 2) (bA (bV 0) aC)) aB)))) (bA (bV 1) aC)))) (λ_ _ _ _ _ _=>(bV 0))) (fD aB)))
 aM)
 Xk:=fJ Tp.Qa N32 zoH λ_ _ _ _ _ _ hr=>(aG (dZ (pA (pO (fU (fC (lE Tp.cs Tp.z0 gk (gv 0) (uy rfl Tp.z3 Ay gk dk)))) (uw (gO (vV hr) (tH Tp.z4 gk (aq (gv 0) aB)) (gv 1))))) (aG (bL gD)
 aM) aM)
 (aG (bL (Az rfl Tp.z6 gk (aq (pP (au (top 53)) N32 ["_law_one"] ["_law_k"] [2] rfl rfl rfl (by decide +kernel) (by decide +kernel) (nA 0) (by decide +kernel) (mF (gv 0)) (λ_ _ _ _ _ _=>(nF 0 (by decide +kernel) rfl (by decide +kernel))) (λ_ _ _ _ _ _=>uz) (λ_ _ _ _ _ _=>(vU (gc Fk.Mt Tp.G6 hr uD pR (aq (bV 0) aB)) (vR (zkQ zj (uq hr) aC (bV 0) (bV 1)))))) aB)))
 aM))
 Xl:=fJ Tp.Qc ["_law_web_here","_law_ring_here","_law_thing"] zok λ_ _ _ _ _ _ hr=>(aG (bL (vU (gc Fk.Xk Tp.Qa hr bG gk (aq (gv 2) (aq (bA (gv 0) aC) (aq (bA (gv 1) aC) aB)))) (vR (gc Fk.t31 Tp.Xc hr bG gk (aq (gv 0) (aq (gv 1) (aq (gv 2) aB)))))))
 aM)
 t34:=fJ Tp.Xd Mr zow λ_ _ _ _ _ _ hr=>(aG (dZ (pA (K1 (gO (vV hr) (bA (gv 0) aC) (bF aB)) (KZ (gO (uq hr) (bA (gv 1) aC) (b_ KR aC (bA (gv 1) aC)))))) (aG (bL rB)
 aM) aM)
 (aG (gq 2 nd rfl jl rfl (fD aB))
 (aG (DN Bb rfl rfl (mF (bA (gv 0) aC)) (ziF 3 4 rfl rfl nd rfl rfl jc jc rfl rfl) (aG (O1 5 (au (top 55)) Mr ["_law_place"] ["_law_one","_law_web_here","_law_other"] [3,0,4] nd rfl jl rfl rfl rfl rfl (by decide +kernel) (by decide +kernel) (nA 0) (by decide +kernel) (Gz Tp.Bq gk (bA (gv 0) aC)) (λ_ _ _ _ _ _=>(nF 0 (by decide +kernel) rfl (by decide +kernel))) (λ_ _ _ _ _ _=>(zp (pA (K1 (gO (Gy hr) (bF (aq (bV 1) (aq (bV 0) aB))) (bA (bV 2) aC)) (KZ (gO (Gy hr) (bF (aq (bV 3) (aq (bV 0) aB))) (bA (bV 2) aC))))))) (λ_ _ _ _ _ _=>(bV 0)))
 (aG (gq 2 nd rfl jl rfl (b_ fB (gv 2) (gv 5)))
 aM)))
 (aG (dZ (pA (K1 (gO (vV hr) (gv 2) (fD aB)) (KZ (gO (uq hr) (bA (gv 1) aC) (b_ KR aC (bA (gv 1) aC)))))) (aG (bL rB)
 aM) aM)
 (aG (O1 6 (au (top 55)) Mr ["_law_place"] ["_law_web_here"] [0] nd rfl jl rfl rfl rfl rfl (by decide +kernel) (by decide +kernel) (nA 0) (by decide +kernel) (Gz Tp.Bq gk (bA (gv 0) aC)) (λ_ _ _ _ _ _=>(nF 0 (by decide +kernel) rfl (by decide +kernel))) (λ_ _ _ _ _ _=>(zp (gO (rC hr) (zka ["_law_place","_law_web_here"] ["_law_tie"] ["_law_place"] [0] rfl rfl (by decide +kernel) (by decide +kernel) (nA 0) (by decide +kernel) (mF (bA (bV 1) aC)) (λ_ _ _ _ _ _=>(nF 0 (by decide +kernel) rfl (by decide +kernel))) (λ_ _ _ _ _ _=>(zp (gO (Gy hr) (bV 1) (bV 0)))) (λ_ _ _ _ _ _=>(bV 0))) (fD aB)))) (λ_ _ _ _ _ _=>(bV 0)))
 (aG (gq 7 nd rfl jc rfl (fD (aq aC aB)))
 (aG (zjw Bb (gO (rC hr) (bA (gv 7) aC) aC) (aG (dZ (pA (pO (gO (rC hr) (bA (gv 7) (vQ aC)) (bA (gv 1) aC)) (uw (pA (K1 (gO zoV (bA (gv 7) (vQ aC)) aC) (KZ (gO (Gy hr) (b_ vP (tH Tp.z4 gk (aq (gv 7) aB)) aC) (gv 6)))))))) (aG (xg (znT (gv 7)))
 (aG (dZ (gO (rC hr) (gv 7) (fD aB)) (aG (bL rB)
 aM) aM)
 (aG (O2 (gv 7) (vQ aC) (b_ fB (bA (gv 7) (vQ aC)) aC))
 aM))) (aG (O1 8 (au (top 55)) Mr ["_law_tie"] ["_law_row"] [7] nd rfl jl rfl rfl rfl rfl (by decide +kernel) (by decide +kernel) (nA 0) (by decide +kernel) (mF (bA (gv 0) aC)) (λ_ _ _ _ _ _=>(nF 0 (by decide +kernel) rfl (by decide +kernel))) (λ_ _ _ _ _ _=>(zp (gO (rC hr) (bA (bV 0) aC) (b_ vP (tH Tp.z4 pR (aq (bV 1) aB)) aC)))) (λ_ _ _ _ _ _=>(bV 0)))
 (aG (O1 9 (au (top 55)) Mr ["_law_tie"] ["_law_ring_here","_law_row"] [1,7] nd rfl jl rfl rfl rfl rfl (by decide +kernel) (by decide +kernel) (nA 0) (by decide +kernel) (mF (gv 8)) (λ_ _ _ _ _ _=>(nF 0 (by decide +kernel) rfl (by decide +kernel))) (λ_ _ _ _ _ _=>(zp (gO (uq hr) (gc Fk.Xj Tp.P_ hr uD pR (aq (bA (bV 1) aC) (aq (bA (bV 2) (bA (bV 0) aC)) (aq (bA (bV 2) (vQ aC)) aB)))) (bA (bV 1) aC)))) (λ_ _ _ _ _ _=>(bV 0)))
 (aG (dZ (gO (vV hr) (gv 9) (fD aB)) (aG (O2 (gv 7) (vQ aC) (b_ fB (bA (gv 7) (vQ aC)) aC))
 aM) (aG (dZ (gO (rC hr) (tH Tp.z4 gk (aq (gv 7) aB)) (bA (gv 0) aC)) (aG (bL (A_ Tp.z3 gk (aq (gv 7) aB)))
 aM) (aG (xg (zlT (gv 7) aC))
 aM))
 aM))
 aM))))
 aM))
 (aG (bL rB)
 aM))))))))
 Xm:=fJ Tp.Qd ["_law_pen_here","_law_web_here","_law_many","_law_ties","_law_at","_law_some","_law_odd_here","_law_ahead","_law_behind","_law_rows"] zov λ_ _ _ _ _ _ hr=>(aG (zu 2 3 rfl rfl nd rfl rfl jl jl rfl rfl (gv 1))
 (aG (gq 4 nd rfl jl rfl (gc Fk.lZ Tp.lQ hr bG gk (aq (gv 0) (aq (b_ fB (tH Tp.z4 gk (aq (gv 3) aB)) aC) aB))))
 (aG (gq 5 nd rfl jl rfl (fD (aq (bF (aq aC (aq aC aB))) (aq (bF (aq aC (aq aC aB))) (aq (bF (aq aC (aq (gv 2) aB))) (aq (bF (aq (vQ aC) (aq aC aB))) (aq (bF (aq gD (aq gD aB))) (aq (bF (aq aC (aq gD aB))) (aq (bF (aq aC aB)) (aq (bF (aq aC (aq aC (aq aC aB)))) (aq (fD (aq aC (aq aC aB))) (aq rB aB))))))))))))
 (aG (gq 6 nd rfl jl rfl (bA (gv 5) (gc Fk.lZ Tp.lQ hr bG gk (aq (gv 0) (aq aC aB)))))
 (aG (zns 7 8 rfl rfl nd rfl rfl (by decide) jl jl (tG (gv 3) ux (rD (gv 4))) (tG (gv 3) (rD (b_ fB (gv 4) aC)) ux) rfl)
 (aG (dZ (gO (rC hr) (gc Fk.lZ Tp.lQ hr bG gk (aq (gv 0) (aq aC aB))) aC) (aG (gq 9 nd rfl jl rfl (fD (aq (b_ fB (b_ fB (gv 7) (bF (aq (gv 6) aB))) (gv 8)) (aq (b_ fB (b_ fB (gv 7) (bF (aq (gv 6) aB))) (tG (gv 3) (rD (gv 4)) ux)) (aq (Ub (gv 3)) (aq (Uc Tp.Qh gk (aq (gv 3) aB)) (aq (b_ fB (gv 3) (tG (gv 3) ux (rD aC))) aB)))))))
 (aG (gq 9 nd rfl jl rfl (b_ fB (gv 9) (fD (aq (b_ fB (gv 7) (gv 8)) (aq (bF (aq (gv 3) aB)) (aq (b_ fB (tG (gv 3) (rD (gv 4)) ux) (gv 7)) (aq (b_ fB (b_ fB (gv 7) (bF (aq (bF (aq aC (aq aC aB))) aB))) (tG (gv 3) (rD (gv 4)) ux)) aB)))))))
 (aG (bL (bF (aq (gv 2) (aq (bA (gv 9) (gc Fk.lZ Tp.lQ hr bG gk (aq (gv 0) (aq aC aB)))) aB))))
 aM))) aM)
 (aG (gq 5 nd rfl jl rfl (fD (aq (bF (aq (b_ fB (gv 2) aC) (aq (gv 3) aB))) (aq (bF (aq (b_ vP (gv 2) aC) (aq (gv 3) aB))) (aq (bF (aq gD (aq (gv 3) aB))) (aq (bF (aq aC (aq (gv 3) aB))) (aq (bF (aq aC (aq (bF aB) aB))) (aq (bF (aq rB (aq (gv 3) aB))) aB))))))))
 (aG (gq 5 nd rfl jl rfl (b_ fB (gv 5) (fD (aq (fD (aq (gv 2) (aq (gv 3) aB))) (aq (bF (aq (gv 2) (aq (gv 3) (aq aC aB)))) (aq (bF (aq (gv 2) aB)) (aq (bF (aq (zm3 Tp.z16 gk (aq (gv 2) aB)) (aq (gv 3) aB))) (aq (bF (aq (gv 3) (aq (gv 2) aB))) (aq (gv 3) aB)))))))))
 (aG (bL (bA (gv 5) (gc Fk.lZ Tp.lQ hr bG gk (aq (gv 0) (aq aC aB)))))
 aM)))))))))
 Xn:=fJ Tp.Qe ["_law_pen_here","_law_row","_law_k","_law_at","_law_odd_here","_law_rows"] zon λ_ _ _ _ _ _ hr=>(aG (gq 3 nd rfl jl rfl (gc Fk.lZ Tp.lQ hr bG gk (aq (gv 0) (aq (b_ fB (tH Tp.z4 gk (aq (gv 1) aB)) aC) aB))))
 (aG (gq 4 nd rfl jl rfl (bA (fD (aq gD (aq gD (aq rB (aq (vQ aC) (aq (gv 2) (aq jt (aq (bF (aq aC aB)) (aq (gc Fk.lZ Tp.lQ hr bG gk (aq (gv 0) (aq (gv 2) aB))) aB))))))))) (gc Fk.lZ Tp.lQ hr bG gk (aq (gv 0) (aq aC aB)))))
 (aG (gq 5 nd rfl jl rfl (fD (aq (b_ fB (b_ fB (tG (gv 1) ux (rD (gv 3))) (bF (aq (gv 4) aB))) (tG (gv 1) (rD (b_ fB (gv 3) aC)) ux)) (aq (b_ fB (tG (gv 1) ux (rD (gv 3))) (tG (gv 1) (rD (b_ fB (gv 3) aC)) ux)) (aq (b_ fB (gv 1) (bF (aq aC aB))) (aq (Uc Tp.Qh gk (aq (gv 1) aB)) (aq rB (aq (bF (aq (gv 1) aB)) aB))))))))
 (aG (bL (bA (gv 5) (bA (fD (aq aC (aq aC (aq aC (aq aC (aq aC (aq aC (aq aC (aq aC (aq aC aB)))))))))) (gc Fk.lZ Tp.lQ hr bG gk (aq (gv 0) (aq aC aB))))))
 aM))))
 t37:=fJ Tp.Xe ["_law_pen_here","_law_ring_here","_law_k","_law_d","_law_some"] zoK λ_ _ _ _ _ _ hr=>(aG (zu 2 3 rfl rfl nd rfl rfl jl jl rfl rfl (gv 1))
 (aG (gq 4 nd rfl jl rfl (fD (aq (bF (aq (gv 2) (aq (b_ fB (gv 2) aC) aB))) (aq (bF (aq aC (aq aC aB))) (aq (bF (aq aC (aq aC aB))) (aq (bF (aq (gv 2) (aq aC aB))) (aq (bF (aq gD (aq aC aB))) (aq (bF (aq (gv 2) (aq (gv 3) (aq aC aB)))) (aq (fD (aq (gv 2) (aq (gv 3) aB))) (aq (bF (aq (gv 2) aB)) (aq rB aB)))))))))))
 (aG (bL (bA (b_ fB (gv 4) (fD (aq (bF (aq (gv 3) (aq (gv 2) aB))) (aq jt (aq (bF (aq (b_ vP aC (gv 2)) (aq (gv 3) aB))) aB))))) (gc Fk.lZ Tp.lQ hr bG gk (aq (gv 0) (aq aC aB)))))
 aM)))
 t38:=fJ Tp.Xf N38 zoh λ_ _ _ _ _ _ hr=>(aG (dZ (fU (fC (gc Fk.Xk Tp.Qa hr bG gk (aq (gv 2) (aq (bA (gv 0) aC) (aq (bA (gv 1) aC) aB)))))) (aG (bL gD)
 aM) aM)
 (aG (bL (zm (rC hr) (pP (au (top 59)) N38 ["_law_tie"] ["_law_thing","_law_other"] [2,1] rfl rfl rfl (by decide +kernel) (by decide +kernel) (nA 0) (by decide +kernel) (mF (bA (gv 0) aC)) (λ_ _ _ _ _ _=>(nF 0 (by decide +kernel) rfl (by decide +kernel))) (λ_ _ _ _ _ _=>(zp (gO (znG hr) (A_ Tp.z3 pR (aq (Ui Tp.Ms pR (aq (fD (aq (bA (bV 1) (bA (bV 0) aC)) (aq (bA (bV 1) (bA (bV 0) aC)) aB))) aB)) aB)) (bA (bV 2) aC)))) (λ_ _ _ _ _ _=>(bV 0))) (fD aB)))
 aM))
 Xo:=fJ Tp.Qf ["_law_web_here","_law_other","_law_row","_law_ring_here","_law_hues","_law_e"] WM λ_ _ _ _ _ _ hr=>(aG (znW 5 (dc:=0) rfl rfl ⟨rfl,rfl⟩ gk Tp.c0 nd rfl jl Tp.s0 (λ_ _ _ R' hp'=>(aG (bL (bF (aq jt (aq (gc Fk.t19 Tp.W5 hr R' gk (aq (gv 0) (aq (gv 1) (aq (gv 2) (aq (gv 3) (aq (gv 4) aB)))))) aB))))
 aM)) (λ_=>(aG (bL (bF (aq (gc Fk.q25 Tp.W9 (zg0 hr) uD gk (aq (gv 5) aB)) (aq rB aB))))
 aM)) dk)
 aM)
 t40:=fJ Tp.Xg ["_law_web_here","_law_other","_law_row","_law_ring_here","_law_hues"] zoA λ_ _ _ _ _ _ hr=>(aG (dZ (pA (pO (fU (fC (gc Fk.Xi Tp.P0 hr bG gk (aq (gv 0) aB)))) (uw (fU (fC (gc Fk.Xi Tp.P0 hr bG gk (aq (gv 1) aB))))))) (aG (bL jt)
 aM) aM)
 (aG (dZ (fU (fC (gc Fk.t29 Tp.Xb hr bG gk (aq (gv 3) aB)))) (aG (bL jt)
 aM) aM)
 (aG (dZ (fU (fC (gc Fk.t38 Tp.Xf hr bG gk (aq (gv 0) (aq (gv 1) (aq (gv 2) aB)))))) (aG (bL jt)
 aM) aM)
 (aG (bL (bA (fD (aq jt (aq jt aB))) (ziK Tp.z1 gk (aq (gc Fk.Xl Tp.Qc hr bG gk (aq (gv 1) (aq (gv 3) (aq (gv 4) aB)))) aB))))
 aM))))
 xM:=fJ Tp.wF N41 zoo λ_ _ _ _ _ _ hr=>(aG (zu 5 6 rfl rfl nd rfl rfl jl jl rfl rfl (gc Fk.Xo Tp.Qf hr bG gk (aq (gv 0) (aq (gv 1) (aq (gv 2) (aq (gv 3) (aq (gv 4) aB)))))))
 (aG (dZ (gO (vV hr) (gv 5) (gc Fk.t40 Tp.Xg hr bG gk (aq (gv 0) (aq (gv 1) (aq (gv 2) (aq (gv 3) (aq (gv 4) aB))))))) (aG (bL gD)
 aM) aM)
 (aG (dZ (gO (vV hr) (gv 5) jt) (aG (bL gD)
 aM) aM)
 (aG (dZ (pA (pO (gO (vV hr) (gv 6) (A_ Tp.z3 gk (aq (pP (au (top 62)) N41 ["_law_there"] ["_law_hues"] [4] rfl rfl rfl (by decide +kernel) (by decide +kernel) (nA 0) (by decide +kernel) (mF (gv 2)) (λ_ _ _ _ _ _=>(nF 0 (by decide +kernel) rfl (by decide +kernel))) (λ_ _ _ _ _ _=>uz) (λ_ _ _ _ _ _=>(bA (bV 1) (bV 0)))) aB))) (uw (fU (fC (gc Fk.Xl Tp.Qc hr bG gk (aq (gv 0) (aq (gv 3) (aq (gv 6) aB))))))))) (aG (bL gD)
 aM) aM)
 (aG (bL (zm (rC hr) (gc Fk.Xo Tp.Qf hr bG gk (aq (gv 0) (aq (gv 1) (aq (gv 2) (aq (gv 3) (aq (gv 4) aB)))))) (bF (aq (gv 5) (aq (gv 6) aB)))))
 aM)))))
 t42:=fJ Tp.Qg PN zoJ λ_ _ _ _ _ _ hr=>(aG (zu 1 2 rfl rfl nd rfl rfl jl jl rfl rfl (bF (aq (bF (aq aC (aq (bF (aq (bF (aq aC (aq aC aB))) aB)) aB))) (aq (bF (aq aC (aq (bF (aq (bF (aq aC (aq aC aB))) (aq (bF (aq aC (aq aC aB))) aB))) aB))) aB))))
 (aG (dZ (pA (pO (fU (fC (gc Fk.xM Tp.wF hr bG gk (aq (gv 2) (aq (gv 1) (aq (bF (aq aC (aq aC (aq aC aB)))) (aq (bF (aq aC (aq aC aB))) (aq (bF (aq aC (aq aC aB))) aB)))))))) (uw (fU (fC (gc Fk.xM Tp.wF hr bG gk (aq (gv 1) (aq (gv 2) (aq (bF (aq aC (aq aC aB))) (aq (bF (aq aC (aq aC aB))) (aq (bF (aq aC (aq aC (aq aC aB)))) aB))))))))))) (aG (bL gD)
 aM) aM)
 (aG (DN Bb rfl rfl (mF (b_ fB (fD (aq (gc Fk.t20 Tp.W6 hr bG gk (aq (gv 0) (aq aC aB))) aB)) (tG (gv 0) (rD aC) (rD aC)))) (K5 3 nd rfl jl rfl) (aG (gq 4 nd rfl jc rfl (gc Fk.t21 Tp.W7 hr bG gk (aq (gv 3) aB)))
 (aG (zu 5 6 rfl rfl nd rfl rfl jc jl rfl rfl (bF (aq (gc Fk.t26 Tp.W_ hr bG gk (aq (gv 4) (aq (b_ fB aC (gc Fk.lZ Tp.lQ hr bG gk (aq (gv 4) (aq aC aB)))) aB))) (aq (gc Fk.t28 Tp.Xa hr bG gk (aq (gv 4) aB)) aB))))
 (aG (gq 7 nd rfl jc rfl (A_ Tp.z3 gk (aq (pP (au (top 63)) PN ["_law_place"] ["_law_pen_here","_law_other"] [4,5] rfl rfl rfl (by decide +kernel) (by decide +kernel) (nA 0) (by decide +kernel) (Gz Tp.Bq gk (b_ fB aC (gc Fk.lZ Tp.lQ hr bG gk (aq (gv 4) (aq aC aB))))) (λ_ _ _ _ _ _=>(nF 0 (by decide +kernel) rfl (by decide +kernel))) (λ_ _ _ _ _ _=>uz) (λ_ _ _ _ _ _=>(gc Fk.lZ Tp.lQ hr uD pR (aq (bV 1) (aq (bA (bV 2) aC) aB))))) aB)))
 (aG (gq 8 nd rfl jl rfl (fD aB))
 (aG (DN Bb rfl rfl (Gz Tp.Bq gk (tH Tp.z4 gk (aq (gv 7) aB))) (K5 9 nd rfl jc rfl) (aG (gq 10 nd rfl jc rfl (pP (au (top 63)) PN ["_law_here"] ["_law_row","_law_high"] [7,9] rfl rfl rfl (by decide +kernel) (by decide +kernel) (nA 0) (by decide +kernel) (mF (tG (gv 7) ux (rD (gv 9)))) (λ_ _ _ _ _ _=>(nF 0 (by decide +kernel) rfl (by decide +kernel))) (λ_ _ _ _ _ _=>uz) (λ_ _ _ _ _ _=>(A_ Tp.z3 pR (aq (Ui Tp.Ms pR (aq (fD (aq (bV 0) (aq (bA (bV 1) (bV 2)) aB))) aB)) aB)))))
 (aG (gq 8 nd rfl jl rfl (b_ fB (gv 8) (pP (au (top 63)) PN ["_law_low"] ["_law_high","_law_near","_law_other"] [9,10,5] rfl rfl rfl (by decide +kernel) (by decide +kernel) (nA 0) (by decide +kernel) (Gz Tp.Bq gk (gv 9)) (λ_ _ _ _ _ _=>(nF 0 (by decide +kernel) rfl (by decide +kernel))) (λ_ _ _ _ _ _=>(zp (gO (Gy hr) (bA (bV 2) (bV 0)) (bA (bV 3) aC)))) (λ_ _ _ _ _ _=>(bF (aq (bV 0) (aq (bV 1) aB)))))))
 aM)))
 (aG (gq 11 nd rfl jl rfl (bF (aq (tH Tp.z4 gk (aq (gv 7) aB)) (aq (A_ Tp.z3 gk (aq (Ui Tp.Ms gk (aq (gv 8) aB)) aB)) aB))))
 (aG (gq 12 nd rfl jl rfl (znh (gc Fk.t34 Tp.Xd hr bG gk (aq (gv 5) (aq (gv 6) aB))) (vR (b_ zm5 (bF (aq aC aB)) (bA (gv 5) aC)))))
 (aG (dZ (fU (fC (gc Fk.xM Tp.wF hr bG gk (aq (gv 11) (aq (gv 5) (aq (gv 7) (aq (gv 6) (aq (gv 12) aB)))))))) (aG (bL gD)
 aM) aM)
 (aG (dZ (fU (fC (gc Fk.xM Tp.wF hr bG gk (aq (gc Fk.Xm Tp.Qd hr bG gk (aq (gv 4) (aq (gv 11) aB))) (aq (gv 5) (aq (gv 7) (aq (gv 6) (aq (gv 12) aB)))))))) (aG (bL gD)
 aM) aM)
 (aG (dZ (fU (fC (gc Fk.xM Tp.wF hr bG gk (aq (gv 11) (aq (gc Fk.Xm Tp.Qd hr bG gk (aq (gv 4) (aq (gv 5) aB))) (aq (gv 7) (aq (gv 6) (aq (gv 12) aB)))))))) (aG (bL gD)
 aM) aM)
 (aG (DN Bb rfl rfl (mF (fD (aq (gc Fk.Xn Tp.Qe hr bG gk (aq (gv 4) (aq (gv 7) (aq (bA (gv 5) aC) aB)))) (aq (gc Fk.t24 Tp.W8 hr bG gk (aq (gv 4) aB)) aB)))) (K5 13 nd rfl jl rfl) (aG (dZ (pA (pO (fU (fC (gc Fk.xM Tp.wF hr bG gk (aq (gv 11) (aq (gv 5) (aq (gv 13) (aq (gv 6) (aq (gv 12) aB)))))))) (uw (fU (fC (gc Fk.xM Tp.wF hr bG gk (aq (gv 11) (aq (gv 5) (aq (gv 13) (aq (gv 6) (aq rB aB))))))))))) (aG (bL gD)
 aM) aM)
 aM))
 (aG (dZ (fU (fC (gc Fk.xM Tp.wF hr bG gk (aq (gv 11) (aq (gv 5) (aq (gv 7) (aq (gc Fk.t37 Tp.Xe hr bG gk (aq (gv 4) (aq (gv 6) aB))) (aq (gv 12) aB)))))))) (aG (bL gD)
 aM) aM)
 (aG (dZ (fU (fC (gc Fk.xM Tp.wF hr bG gk (aq (gv 11) (aq (gv 5) (aq (gv 7) (aq (gv 6) (aq (gc Fk.Xn Tp.Qe hr bG gk (aq (gv 4) (aq (gv 12) (aq (bA (gv 6) aC) aB)))) aB)))))))) (aG (bL gD)
 aM) aM)
 aM))))))))))))))
 (aG (bL gD)
 aM))))
theorem zi1(Tp:Top K mg):∀k,Fs P w K mg base k
 |0=>⟨eO,eO,eO,eO,eO,eO,eO,eO,eO,eO,eO,eO,eO,eO,eO,eO,eO,eO,eO,eO,eO,eO,eO,eO,eO,eO,eO,eO,eO,eO,eO,eO,eO,eO,eO,eO,eO,eO,eO,eO,eO,eO,eO⟩
 |k+1=>zja Tp (zi1 Tp k)
end
theorem all_mk{l:PySem.W.OpenLaw}{w:World}{K:W.Frag}{h:Heap}{mg:Str->Option Value}{fa:Addr}(hm:∀ns:List Int,ns.length<=63->∃s',call ao T 60 true 42 [.d (.fl (ns.map D.int))] []=some (.ok (.d (.bl true)),s'))
  (S:jF fs ms xs lk K) (X:K.In h) (G:h.Ns mainGlobals mg) (Xp:mg "law"=some (.ref fa)) :
  ∃fd:FuncData,(∀(s:Shared) (u:Value),BindsTo s fd ⟨[u],[]⟩ [("_law_script",u)])/\∀base:Heap,K.In base->base.Ns mainGlobals mg->gA l.prog w K mg base (mZ l.prog w) true 60 fa fd ["_law_script"] (vO K):=by
 have Tp:Top K mg:=zlq S X G;have e:=Xp.symm.trans Tp.Qg.m;cases e;exact⟨_,DP Tp.Qg.f (λ_ _ _ _ _ _ _=>rfl),λbase _ _=>(zi1 Tp 60).t42.imp (zjY hm)⟩
end gw
namespace gw
open PySem Mi
def lR(o:SO):Prop:=∃a b:Int,o=.lst [.int a,.int b]/\0<=a/\(b=0\/b=1)
theorem ziL{k:Nat}{o:SO}{m:Int}(ho:lR o)(hm:0<m)(hm2:m<1073741824):W (call ao T (k+1) true 22 [.l 0,.d (.int m)]) [o] λv s=>∃d o',v=.d d/\s=[o']/\(∃r:Int,d=.int r/\0<=r/\r<m)/\lR o':=by
 obtain⟨a,b,rfl,ha,hb⟩:=ho;refine W.call zoC rfl ?_;unfold Wd;rcases hb with rfl|rfl
 ·refine Y ?_;exact⟨_,_,rfl,rfl,⟨_,rfl,Int.emod_nonneg _ (by lia),Int.emod_lt_of_pos _ hm⟩,⟨_,_,rfl,Int.emod_nonneg _ (by decide),.inl rfl⟩⟩
 ·refine Y ?_;exact⟨_,_,rfl,rfl,⟨_,rfl,Int.emod_nonneg _ (by lia),Int.emod_lt_of_pos _ hm⟩,⟨_,_,rfl,Int.ediv_nonneg ha (by lia),.inr rfl⟩⟩
theorem znz{k:Nat}{n:Int}:W (call ao T (k+1) true 21 [.d (.int n)]) [] λv s=>∃i o,v=.l i/\s[i]?=some o/\lR o:=by
 refine W.call zol rfl ?_;unfold Wc;refine Y ?_;refine⟨0,_,rfl,rfl,⟨_,_,rfl,?_,?_⟩⟩
 ·split<;>lia
 ·have:∀c:Bool,(if c=true then (1:Int) else 0)=0\/(if c=true then (1:Int) else 0)=1:=by intro c;cases c<;>simp
  exact this _
theorem pF{k:Nat}{o:SO}{m:Int}{P:Xv->S->Prop}(ho:lR o)(hm:0<m)(hm2:m<1073741824)(h:∀(r:Nat) o',(r:Int)<m->lR o'->P (.d (.int r)) [o']):W (cR (call ao T (k+1) true 22) [.l 0,.d (.int m)]) [o] P:=by
 refine Kal (n:=0) (o:=o) rfl rfl ((ziL ho hm hm2).imp λv s=>?_);rintro⟨d,o',rfl,rfl,⟨r,rfl,h0,h1⟩,hp⟩;obtain⟨n,rfl⟩:=Hg h0;exact⟨_,_,rfl,rfl,h n o' h1 hp⟩
theorem zmg{k:Nat}{ns:List Int}:W (call ao T (k+1) true 20 [.d (.fl (ns.map D.int)),.d (.int 0)]) [] λv _=>∃n,v=.d (.int n):=by
 refine W.call zoi rfl ?_;unfold Wb;cases ns with
 |nil=>
  refine Y ?_;exact⟨_,rfl⟩
 |cons n r=>
  refine Y ?_;refine WS.ite (λ_=>?_) (λ_=>?_)
  ·refine Y ?_;refine bQ (Bd (i:=0) (x:=.int n) rfl) ?_;refine Y ?_;exact⟨_,rfl⟩
  ·refine Y ?_;exact⟨_,rfl⟩
theorem zkK{k:Nat}{i:Int}:W (call ao T (k+1) true 0 [.d (.int i)]) [] λv s=>v=.d (.bl true):=W.eq (a:=.d (.bl true)) (s':=[]) rfl rfl
theorem zli{k:Nat}{a b:D}:W (call ao T (k+1) true 2 [.d (.tup [a,b]),.d (.int 2)]) [] λv s=>v=.d (.bl true):=W.eq (a:=.d (.bl true)) (s':=[]) rfl rfl
theorem pG{k:Nat}{i a b:Int}:W (call ao T (k+2) true 1 [.d (.int i),.d (.int a),.d (.int b)]) [] λv s=>v=.d (.bl (decide (a<=i/\i<=b))):=by
 refine W.call T_1 rfl ?_;unfold b1;refine Y ?_;refine W.c0 zkK ?_;refine Y ?_;refine W.ite (λh1=>?_) (λh1=>?_)
 ·refine Y ?_;have:=gb h1;simp[this]
 ·refine Y ?_;simp at h1;have:¬(a<=i/\i<=b):=by lia
  simp[this]
theorem zhq{k:Nat}{n i:Int}:W (call ao T (k+3) true 5 [.d (.int n),.d (.int i)]) [] λv s=>v=.d (.bl (decide (0<=i/\i<n))):=by
 refine W.call Wy rfl ?_;unfold b5;refine Y ?_;exact W.cB rfl (pG.imp λv s e=>⟨_,e,by rw[tY.mpr (show 0<=i/\i<=n-1↔0<=i/\i<n by lia)]⟩)
theorem Qi{k:Nat}{d:D}(h:iW d=true):W (call ao T (k+1) true 23 [.d d]) [] λv s=>v=.d (.bl (UG d)):=by
 cases d with
 |exc _ _=>cases h
 |ob _ _=>cases h
 |_=>exact W.eq (a:=_) (s':=[]) rfl rfl
theorem Mu{k:Nat}{d:D}{n:Int}(h:iW d=true):W (call ao T (k+1) true 2 [.d d,.d (.int n)]) [] λv s=>v=.d (.bl (nP n d)):=by
 cases d with
 |exc _ _=>cases h
 |ob _ _=>cases h
 |tup xs=>
  refine W.call T_2 rfl ?_;unfold b2;refine Y ?_;show Xv.d (D.bl (id (((xs.length:Nat):Int)==n)))=_
  congr 2
 |_=>exact W.eq (a:=_) (s':=[]) rfl rfl
theorem Mv{k:Nat}{d:D}{a b:Int}(h:iW d=true):W (call ao T (k+2) true 1 [.d d,.d (.int a),.d (.int b)]) [] λv s=>v=.d (.bl (kh a b d)):=by
 cases d with
 |exc _ _=>cases h
 |ob _ _=>cases h
 |int i=>exact pG
 |_=>exact W.eq (a:=_) (s':=[]) rfl rfl
theorem Xq{k:Nat}{d:D}{n:Int}(h:iW d=true):W (call ao T (k+3) true 5 [.d (.int n),.d d]) [] λv s=>v=.d (.bl (kh 0 (n-1) d)):=by
 refine W.call Wy rfl ?_;unfold b5;refine Y ?_;exact W.cB rfl ((Mv h).imp λv s e=>⟨_,e,rfl⟩)
theorem zm6{k:Nat}{d:D}(h:iW d=true):W (call ao T (k+3) true 4 [.d d]) [] λv s=>v=.d (.bl (kh 1 8 d)):=by
 refine W.call T_4 rfl ?_;unfold b4;refine Y ?_;exact W.cB rfl ((Mv h).imp λv s e=>⟨_,e,rfl⟩)
theorem znu{k:Nat}{d:D}{n:Int}(h:eU d=true):W (call ao T (k+4) true 6 [.d (.int n),.d d]) [] λv s=>v=.d (.bl (dO n d)):=by
 refine W.call Wz rfl ?_;unfold b6;refine Y ?_;refine W.c0 (Mu (Ml h)) ?_;cases d with
 |tup xs=>
  by_cases h2:xs.length=2
  ·obtain⟨x,y,rfl⟩:=G4 h2;have hx:iW x=true:=by simp only[eU,lU,cU] at h;exact h.1
   have hy:iW y=true:=by simp only[eU,lU,cU] at h;exact h.2.1
   rw[show nP 2 (.tup [x,y])=true from rfl];refine Y ?_;refine W.c0 (Xq hx) ?_;cases x with
   |int a=>
    by_cases ha:0<=a/\a<=n-1
    ·rw[show kh 0 (n-1) (.int a)=true from cP ha];refine Y ?_;refine W.c0 (Xq hy) ?_;cases y with
     |int b=>
      by_cases hb:0<=b/\b<=n-1
      ·rw[show kh 0 (n-1) (.int b)=true from cP hb];refine Y ?_;show Xv.d (.bl (decide (a<b)))=.d (.bl (decide (0<=a/\a<b/\b<n)));rw[tY.mpr (show a<b↔0<=a/\a<b/\b<n by lia)]
      ·rw[show kh 0 (n-1) (.int b)=false from cI hb];refine Y ?_;show Xv.d (.bl false)=.d (.bl (decide (0<=a/\a<b/\b<n)));rw[cI (by lia)]
     |exc _ _=>cases hy
     |ob _ _=>cases hy
     |_=>exact Y rfl
    ·rw[show kh 0 (n-1) (.int a)=false from cI ha];refine Y ?_;show Xv.d (.bl false)=.d (.bl (dO n (.tup [.int a,y])));cases y with
     |int b=>
      show Xv.d (.bl false)=.d (.bl (decide (0<=a/\a<b/\b<n)));rw[cI (by lia)]
     |_=>rfl
   |_=>exact Y rfl
  ·rw[zev h2,zfj h2];exact Y trivial
 |_=>exact Y rfl
theorem zgT{k:Nat}{d:D}(h:E_ d=true)(hl:VL d):W (call ao T (k+5) true 3 [.d d]) [] λv s=>v=.d (.bl (jH d)):=by
 have hs:(200:Nat)<=sizeLine:=by decide
 refine W.call T_3 rfl ?_;unfold b3;refine Y ?_;refine W.c0 (Mu (show iW d=true by cases d<;>first|rfl|cases h)) ?_;cases d with
 |tup xs=>
  by_cases h2:xs.length=2
  ·obtain⟨x,y,rfl⟩:=G4 h2;have hx:EY x=true:=by simp only[E_,lU,cU] at h;exact h.1
   have hy:EY y=true:=by simp only[E_,lU,cU] at h;exact h.2.1
   rw[show nP 2 (.tup [x,y])=true from rfl];refine Y ?_;refine W.c0 (zm6 (zmJ hx)) ?_;cases x with
   |int n=>
    by_cases hn:1<=n/\n<=8
    ·rw[show kh 1 8 (.int n)=true from cP hn];cases y with
     |tup ys=>
      have hyl:=hl _ _ rfl;have hy:∀t∈ys,eU t=true:=fW.mp hy;refine Y ?_;refine nJ (l:=ys) (f:=λx=>x) (λt=>some (.bl (dO n t))) (by lia) ?_ (λt ht=>?_) ?_
      ·refine Y ?_;rw[List.map_id'];exact⟨rfl,rfl⟩
      ·refine Y ?_;refine⟨rfl,λ_=>?_,λhb=>by cases hb⟩;refine Y ?_;exact W.cB rfl ((znu (hy t ht)).imp λv s e=>⟨_,e,rfl,_,rfl,rfl⟩)
      rw[wj];refine Y ?_;refine bQ GR ?_;show _;have ew:jH (.tup [.int n,.tup ys])=(decide (1<=n/\n<=8)&&ys.all (dO n)&&jx (gK ys)):=rfl;rw[ew,cP hn];cases ha:ys.all (dO n)
      ·exact Y rfl
      ·obtain⟨e,ht⟩:=Pn ha;generalize gK ys=ps at e ht;subst e;rw[bN] at hyl;refine Y ?_;refine nJ (l:=ps.zip (ps.drop 1)) (f:=λe=>.tup [bI e.1,bI e.2]) (λe=>some (.bl (iY e.1 e.2))) (by rw[List.length_zip];lia) ?_ (λt ht=>?_) ?_
       ·refine Y ?_;rw[Ut,<-List.map_drop,zll];exact⟨rfl,rfl⟩
       ·refine Y ?_;refine⟨rfl,λ_=>?_,λhb=>by cases hb⟩;refine Y ?_;rw[<-zjr];exact⟨rfl,_,rfl,rfl⟩
       rw[wj];refine Y ?_;refine bQ GR ?_;rfl
     |exc _ _=>cases hy
     |ob _ _=>cases hy
     |_=>exact Y rfl
    ·rw[show kh 1 8 (.int n)=false from cI hn];refine Y ?_;show Xv.d (.bl false)=.d (.bl (jH (.tup [.int n,y])));cases y with
     |tup ys=>
      show Xv.d (.bl false)=.d (.bl (decide (1<=n/\n<=8)&&ys.all (dO n)&&jx (gK ys)));rw[cI hn];rfl
     |_=>rfl
   |_=>exact Y rfl
  ·rw[zev h2,zga h2];exact Y trivial
 |_=>exact Y rfl
theorem zeW{k':Nat}{d:D}(h:eU d=true):W (call ao T (k'+3) true 10 [.d d]) [] λv s=>v=.d (.bl (rP d)):=by
 refine W.call zoq rfl ?_;unfold b10;refine Y ?_;refine W.c0 (Mu (Ml h)) ?_;cases d with
 |tup xs=>
  by_cases h2:xs.length=2
  ·obtain⟨x,y,rfl⟩:=G4 h2;have hx:iW x=true:=by simp only[eU,lU,cU] at h;exact h.1
   have hy:iW y=true:=by simp only[eU,lU,cU] at h;exact h.2.1
   rw[show nP 2 (.tup [x,y])=true from rfl];refine Y ?_;refine W.c0 (Mv hx) ?_;cases x with
   |int a=>
    by_cases ha:1<=a/\a<=24
    ·rw[show kh 1 24 (.int a)=true from cP ha];refine Y ?_;refine W.c0 (Mv hy) ?_;cases y with
     |int b=>
      show Xv.d (.bl (decide (1<=b/\b<=a)))=.d (.bl (decide (1<=a/\a<=24)&&decide (1<=b/\b<=a)));rw[cP ha];rfl
     |exc _ _=>cases hy
     |ob _ _=>cases hy
     |_=>rfl
    ·rw[show kh 1 24 (.int a)=false from cI ha];refine Y ?_;show Xv.d (.bl false)=.d (.bl (rP (.tup [.int a,y])));cases y with
     |int b=>
      show Xv.d (.bl false)=.d (.bl (decide (1<=a/\a<=24)&&decide (1<=b/\b<=a)));rw[cI ha];rfl
     |_=>rfl
   |_=>exact Y rfl
  ·rw[zev h2,zhj h2];exact Y trivial
 |_=>exact Y rfl
theorem zgU{k':Nat}{d:D}(h:eU d=true):W (call ao T (k'+2) true 29 [.d d]) [] λv s=>v=.d (.bl (rP d)):=by
 have hs:(200:Nat)<=sizeLine:=by decide
 refine W.call zoE rfl ?_;unfold Wj;cases d with
 |tup us=>
  by_cases h2:us.length=2
  ·obtain⟨p,q,rfl⟩:=G4 h2;have hp:iW p=true:=by simp only[eU,lU,cU] at h;exact h.1
   have hq:iW q=true:=by simp only[eU,lU,cU] at h;exact h.2.1
   refine Y ?_;refine nJ (l:=[p,q]) (f:=λx=>x) (λt=>some (.bl (UG t))) (by show 2<=_;lia) ?_ (λt ht=>?_) ?_
   ·refine Y ?_;exact⟨rfl,rfl⟩
   ·refine Y ?_;refine⟨rfl,λ_=>?_,λhb=>by cases hb⟩;refine Y ?_;refine W.cB rfl ((Qi (d:=t) ?_).imp λv s e=>⟨_,e,rfl,_,rfl,rfl⟩);simp only[dh,oh,nY] at ht;rcases ht with rfl|rfl
    ·exact hp
    ·exact hq
   rw[wj];refine Y ?_;cases p with
   |int a=>
    cases q with
    |int b=>
     refine Y ?_;refine W.vp ?_;refine Y ?_;rw[show rP (.tup [.int a,.int b])=(decide (1<=a/\a<=24)&&decide (1<=b/\b<=a)) from rfl];by_cases h1:1<=b
     ·rw[cP h1];refine Y ?_;by_cases h3:b<=a
      ·rw[cP h3];refine Y ?_;rw[cP (show 1<=b/\b<=a by lia),Bool.and_true,tY.mpr (show a<=24↔1<=a/\a<=24 by lia)]
      ·rw[cI h3,cI (show ¬(1<=b/\b<=a) by lia),Nu];exact Y trivial
     ·rw[cI h1,cI (show ¬(1<=b/\b<=a) by lia),Nu];exact Y trivial
    |_=>exact Y rfl
   |_=>exact Y rfl
  ·rw[zhj h2];refine Y ?_;refine W.ite (λ_=>?_) (λhb=>?_)
   ·exact Y trivial
   ·exact absurd hb (by simp;lia)
 |exc _ _=>cases h
 |ob _ _=>cases h
 |_=>exact Y rfl
section
variable {n k d:Int}{ps:List (Int×Int)}
theorem ziw{k':Nat}{x:D}(h:iW x=true):W (call ao T (k'+3) true 11 [.d (aV k d),.d x]) [] λv s=>v=.d (.bl (kh 0 (k-1) x)):=by
 refine W.call zom rfl ?_;unfold V7 aV;refine Y ?_;exact W.cB rfl ((Mv h).imp λv s e=>⟨_,e,rfl⟩)
theorem zfG{k':Nat}{x:D}(h:eU x=true)(hl:∀xs,x=.tup xs->xs.length<=200):W (call ao T (k'+4) true 14 [.d (bx n ps),.d (aV k d),.d x]) [] λv s=>v=.d (.bl (n8 n k x)):=by
 have hs:(200:Nat)<=sizeLine:=by decide
 refine W.call zoy rfl ?_;unfold V8 bx;refine Y ?_;refine W.c0 (Mu (Ml h)) ?_;cases x with
 |tup xs=>
  have hx:∀y∈xs,iW y=true:=fW.mp h;have pW:=hl xs rfl;rw[show n8 n k (.tup xs)=(decide ((xs.length:Int)=n)&&xs.all (kh 0 (k-1))) from rfl];by_cases hn:(xs.length:Int)=n
  ·rw[show nP n (.tup xs)=true from cP hn,cP hn];refine Y ?_;refine nJ (l:=xs) (f:=λx=>x) (λt=>some (.bl (kh 0 (k-1) t))) (by lia) ?_ (λt ht=>?_) ?_
   ·refine Y ?_;rw[List.map_id'];exact⟨rfl,rfl⟩
   ·refine Y ?_;refine⟨rfl,λ_=>?_,λhb=>by cases hb⟩;refine Y ?_;exact W.cB rfl ((ziw (hx t ht)).imp λv s e=>⟨_,e,rfl,_,rfl,rfl⟩)
   rw[wj];refine Y ?_;refine bQ GR ?_;rfl
  ·rw[show nP n (.tup xs)=false from cI hn,cI hn,HF];exact Y trivial
 |_=>exact Y rfl
theorem zce{k':Nat}{x:D}(h:eU x=true)(hl:∀xs,x=.tup xs->xs.length<=200):W (call ao T (k'+2) true 32 [.d x,.d (.int n),.d (.int k)]) [] λv s=>v=.d (.bl (n8 n k x)):=by
 have hs:(200:Nat)<=sizeLine:=by decide
 refine W.call zoH rfl ?_;unfold Wn;cases x with
 |tup xs=>
  have hx:∀y∈xs,iW y=true:=fW.mp h;have pW:=hl xs rfl;show WS _ _ _;have es:n8 n k (.tup xs)=(decide ((xs.length:Int)=n)&&xs.all (kh 0 (k-1))):=rfl;rw[es];refine Y ?_;refine WS.ite (λhb=>?_) (λhb=>?_)
  ·refine Y ?_;rw[cI (by simpa using hb)];rfl
  ·refine Y ?_;rw[cP (by simpa using hb)];refine nJ (l:=xs) (f:=λx=>x) (λt=>some (.bl (kh 0 (k-1) t))) (by lia) ?_ (λt ht=>?_) ?_
   ·refine Y ?_;rw[List.map_id'];exact⟨rfl,rfl⟩
   ·refine Y ?_;refine⟨rfl,λ_=>?_,λhb=>by cases hb⟩;refine Y ?_;refine W.c0 (Qi (hx t ht)) ?_;cases t with
    |int i=>
     refine Y ?_;refine W.ite (λh1=>?_) (λh1=>?_)
     ·refine Y ?_;refine⟨rfl,_,rfl,?_⟩;have h1:=gb h1;show some (D.bl (decide (0<=i/\i<=k-1)))=some (.bl (decide (i<k)));rw[tY.mpr (show 0<=i/\i<=k-1↔i<k by lia)]
     ·refine Y ?_;refine⟨rfl,_,rfl,?_⟩;have h1:¬0<=i:=λz=>h1 (cP z);show some (D.bl (decide (0<=i/\i<=k-1)))=some (.bl false);rw[cI (by lia)]
    |_=>
     refine Y ?_;exact⟨rfl,_,rfl,rfl⟩
   rw[wj];refine Y ?_;refine bQ GR ?_;rfl
 |exc _ _=>cases h
 |ob _ _=>cases h
 |_=>exact Y rfl
end
theorem zfc{k:Nat}{d:D}(h:pU d)(hb:jH d=false):WR (call ao T (k+6) true 8 [.d d]) [] 9 [.int (-1)]:=by
 refine WR.call WD rfl ?_;unfold b8;refine tL ?_;refine Y ?_;refine W.c0 (zgT h.1 h.2) ?_;rw[hb];refine W.bool (W.bool (WS.tK (tL ?_)));refine Y ?_;exact⟨⟨_,_,_,rfl⟩,⟨_,_,_,rfl⟩,_,rfl⟩
theorem G7{k:Nat}{d:D}(h:pU d)(hb:jH d=true):W (call ao T (k+6) true 8 [.d d]) [] λv s=>∃d,v=.d d:=by
 refine W.call WD rfl ?_;unfold b8;refine Y ?_;refine W.c0 (zgT h.1 h.2) ?_;rw[hb];refine Y ?_;exact⟨_,rfl⟩
theorem zgd{k:Nat}{d:D}(h:eU d=true)(hb:rP d=false):WR (call ao T (k+4) true 12 [.d d]) [] 1 []:=by
 refine WR.call WK rfl ?_;unfold PJ;refine tL ?_;refine Y ?_;refine W.c0 (zeW h) ?_;rw[hb];refine W.bool (W.bool (WS.tK (tL ?_)));refine Y ?_;exact⟨⟨_,_,_,rfl⟩,⟨_,_,_,rfl⟩,_,rfl⟩
theorem Mw{k:Nat}{d:D}(h:eU d=true)(hb:rP d=true):W (call ao T (k+4) true 12 [.d d]) [] λv s=>∃d,v=.d d:=by
 refine W.call WK rfl ?_;unfold PJ;refine Y ?_;refine W.c0 (zeW h) ?_;rw[hb];refine Y ?_;exact⟨_,rfl⟩
theorem zn9{k':Nat}{k d a b:Int}:W (call ao T (k'+1) true 13 [.d (aV k d),.d (.int a),.d (.int b)]) [] λv s=>v=.d (.int (fH k a b)):=W.eq (a:=.d (.int (fH k a b))) (s':=[]) rfl rfl
section
variable {n k d:Int}{ps:List (Int×Int)}{hs:List Int}
theorem zkt{k':Nat}(h:Web n ps)(hl:(hs.length:Int)=n):W (call ao T (k'+2) true 17 [.d (bx n ps),.d (aV k d),.d (.tup (hs.map .int))]) [] λv s=>v=.d (Px k d ps hs):=by
 refine W.call zou rfl ?_;unfold V_;refine Y ?_;refine Ka6 (λi J s=>s=[]/\(∃(a b:Option Xv),J=[some (.d (bx n ps)),some (.d (aV k d)),some (.d (.tup (hs.map .int))),a,b])/\xK k d (ps.take i) hs=[]) ⟨rfl,⟨_,_,rfl⟩,rfl⟩ (λi x J s e hI=>?_) (λJ s hI=>?_)
 ·obtain⟨rfl,⟨a,b,rfl⟩,hI⟩:=hI;rw[i_,n_] at e;obtain⟨p,ep,rfl⟩:=e;have ht:=h.tie p (jd ep);obtain⟨p1,p2⟩:=p;dsimp only at ht;refine Y ?_;refine bQ (wg (by lia) (by lia)) ?_;refine Y ?_;refine bQ (wg (by lia) (by lia)) ?_;refine Y ?_;refine W.c0 zn9 ?_;unfold aV;refine Y ?_;have et:ps.take (i+1)=ps.take i++[(p1,p2)]:=by rw[List.take_succ,ep];rfl
  have ec:xK k d (ps.take (i+1)) hs=if fH k (at' hs p1) (at' hs p2)<d then [(p1,p2)] else []:=by
   unfold xK at hI ⊢;rw[et,List.filter_append,hI,List.nil_append,Hy];simp only[List.filter_nil,Fz]
  refine WS.ite (λhb=>?_) (λhb=>?_)
  ·have hb:=gb hb;rw[if_pos hb] at ec;refine Y ?_;refine .inr ⟨_,rfl,?_⟩;have:xK k d ps hs=(p1,p2)::xK k d (ps.drop (i+1)) hs:=by
    have e1:ps=ps.take (i+1)++ps.drop (i+1):=(Qt ..).symm;unfold xK at ec ⊢
    conv=>lhs;rw[e1,List.filter_append,ec]
    rfl
   unfold Px;rw[this];rfl
  ·have hb:¬fH k (at' hs p1) (at' hs p2)<d:=λz=>hb (cP z);rw[if_neg hb] at ec;refine Y ?_;exact .inl ⟨_,rfl,rfl,⟨_,_,rfl⟩,ec⟩
 ·obtain⟨rfl,⟨a,b,rfl⟩,hI⟩:=hI;rw[bN,Np] at hI;refine Y ?_;unfold Px;rw[hI]
end
theorem zfZ{k:Nat}{x:Int}:W (call ao T (k+1) false 25 [.d (.exc 9 [.int x])]) [] λv s=>v=.d (.str "web"):=W.eq (a:=.d (.str "web")) (s':=[]) rfl rfl
theorem zjE{k:Nat}:W (call ao T (k+1) false 25 [.d (.exc 1 [])]) [] λv s=>v=.d (.str "ring"):=W.eq (a:=.d (.str "ring")) (s':=[]) rfl rfl
theorem zjl{k:Nat}:W (call ao T (k+1) false 25 [.d (.exc 2 [])]) [] λv s=>v=.d (.str "hues"):=W.eq (a:=.d (.str "hues")) (s':=[]) rfl rfl
theorem zfs{k':Nat}{o:SO}{k d:Int}(ho:lR o):W (call ao T (k'+2) true 37 [.l 0,.d (aV k d)]) [o] λv s=>∃(x:D) (o':SO),v=.d x/\s=[o']/\eU x=true/\lR o':=by
 refine W.call zoK rfl ?_;unfold Wt aV;refine Y ?_;refine pF ho (by decide) (by decide) λr o1 hr hp=>?_;refine Y ?_;obtain⟨x,ex,hx⟩:=Pq (xs:=[.tup [.int k,.int (k+1)],.tup [.int 0,.int 0],.tup [.int 25,.int 1],.tup [.int k,.int 0],.tup [.bl true,.int 1],.tup [.int k,.int d,.int 1],.fl [.int k,.int d],.tup [.int k],.non,.tup [.int d,.int k],.str "5/2",.tup [.int (0-k),.int d]]) (r:=r) (by show r<12;lia);refine bQ ex ?_;refine Y ?_;refine⟨_,_,rfl,rfl,?_,hp⟩;clear ex;simp only[dh,oh,nY] at hx;rcases hx with rfl|rfl|rfl|rfl|rfl|rfl|rfl|rfl|rfl|rfl|rfl|rfl
 all_goals rfl
theorem nQ{n:Int}{ps:List (Int×Int)}(h:Web n ps):pU (bx n ps):=zmC (by have:=h.len;have:=h.h8;lia)
theorem zh0{k:Nat}{o:SO}{n:Int}(ho:lR o)(h1:1<=n)(h8:n<=8):W (call ao T (k+2) true 26 [.l 0,.d (.int n)]) [o] λv s=>∃ps o',v=.d (bx n ps)/\s=[o']/\Web n ps/\lR o':=by
 refine W.call zox rfl ?_;unfold Wg;have hs:(100:Nat)<=sizeLine:=by decide
 refine Y ?_;refine pF ho (by decide) (by decide) λr o' hr hp=>?_;refine Y ?_;have sY:r<3:=by lia
 refine bQ (Bd (x:=.int (([2,4,6]:List Int)[r]'sY)) ?_) ?_
 ·revert sY;revert r;intro r _ sY;exact match r,sY with
  |0,_=>rfl|1,_=>rfl|2,_=>rfl
  |n+3,h=>absurd h (by lia)
 generalize ([2,4,6]:List Int)[r]=often;refine Y ?_;refine⟨by rw[rJ (by lia) (by lia),rJ (by lia) (by lia)];rfl,?_⟩;refine K7 (λ(i:Nat) J s=>∃(ps:List (Int×Int)) (a:Option Xv) (o':SO),J=[some (.l 0),some (.d (.int n)),some (.d (.int often)),some (.d (.fl (ps.map bI))),a]/\s=[o']/\lR o'/\(∀p∈ps,0<=p.1/\p.1<(i:Int)/\p.1<p.2/\p.2<n)/\ps.Pairwise lx/\ps.length<=7*i)
  ⟨[],_,_,rfl,rfl,hp,by simp,by simp,by simp⟩ (λi x J s e hI=>?_) (λJ s hI=>?_)
 ·obtain⟨ps,a,o',rfl,rfl,hp,ht,Fd,hlen⟩:=hI;obtain⟨rfl,hi⟩:=Uv e;have hi8:i<8:=by lia
  refine Y ?_;refine Kan (c:=jT (0+(i:Int)+1) n) (λ(j:Nat) acc s=>∃(es:List Int) (o':SO),acc=es.map (λe=>bI (0+(i:Int),e))/\es.Pairwise (·<·)/\(∀e∈es,(i:Int)<e/\e<(i:Int)+1+j)/\s=[o']/\lR o') ?_ (λj x acc s e hJ=>?_) (λacc s hJ=>?_)
  ·refine Y ?_;refine⟨by rw[rJ (by lia) (by lia),rJ (by lia) (by lia)];rfl,?_⟩;exact⟨rfl,[],_,rfl,by simp,by simp,rfl,hp⟩
  ·obtain⟨es,o',rfl,xG,Br,rfl,hp⟩:=hJ;obtain⟨rfl,hj⟩:=Uv e;have hel:(es.length:Int)<=(i:Int)+1+j-((i:Int)+1):=Uu xG (λe he=>by have:=Br e he;lia) (by lia);refine Y ?_;refine pF hp (by decide) (by decide) λr o' hr hp=>?_;refine Y ?_;refine⟨λhb=>?_,λhb=>?_⟩
   ·refine Y ?_;refine⟨_,rfl,by rw[bN];lia,es++[0+(i:Int)+1+j],o',?_,?_,?_,rfl,hp⟩
    ·rw[jW];rfl
    ·rw[Hq];refine⟨xG,by simp,λa ha b hb=>?_⟩;simp at hb;have:=Br a ha
     lia
    ·intro e he;rcases fO.mp he with he|he
     ·have:=Br e he;lia
     ·simp at he;lia
   ·exact⟨es,o',rfl,xG,λe he=>by have:=Br e he;lia,rfl,hp⟩
  ·obtain⟨es,o',rfl,xG,Br,rfl,hp⟩:=hJ;rw[Le] at Br;have hel:(es.length:Int)<=n-((i:Int)+1):=Uu xG (λe he=>by have:=Br e he;lia) (by lia);refine Y ?_;refine zE (O5 ?_) ?_
   ·rw[bN,bN];lia
   refine Y ?_;refine⟨_,rfl,ps++es.map (λe=>(0+(i:Int),e)),some (.d (.int (0+(i:Int)))),o',?_,rfl,hp,?_,?_,?_⟩
   ·rw[jW,lK];rfl
   ·intro p hp;rcases fO.mp hp with hp|hp
    ·have:=ht p hp;lia
    ·obtain⟨e,he,rfl⟩:=fX.mp hp;have:=Br e he;dsimp only
     lia
   ·rw[Hq,uJ];refine⟨Fd,xG.imp λh=>.inr ⟨rfl,h⟩,λp hp q hq=>?_⟩;obtain⟨e,he,rfl⟩:=fX.mp hq;have:=ht p hp;exact .inl (by dsimp only;lia)
   ·rw[cY,bN];lia
 ·obtain⟨ps,a,o',rfl,rfl,hp,ht,Fd,hlen⟩:=hI;rw[Le] at ht hlen;refine Y ?_;refine⟨ps,o',rfl,rfl,⟨h1,h8,λp hp=>?_,Fd,by lia⟩,hp⟩;have:=ht p hp
  lia
noncomputable def tU:List D:=[.non,.bl true,.bl false,.int (-1),.str "1",.str "",.tup [],.fl [],.tup [.int 0],.fl [.int 0],.fd [.str "a"] [.int 1],.tup [.int 0,.int 1],.int 1000000000000000000000000000000,.tup [.int 0,.tup []],.tup [.str "ab"],.tup [.int 1,.tup [.tup [.int 0,.int 0]]]]
theorem zn7{k:Nat}{o:SO}(ho:lR o):W (call ao T (k+2) true 24 [.l 0]) [o] λv s=>∃d o',v=.d d/\s=[o']/\d∈tU/\lR o':=by
 refine W.call zoF rfl ?_;unfold Wf;refine Y ?_;refine pF ho (by decide) (by decide) λr o' hr hp=>?_;refine Y ?_;have sY:r<tU.length:=by show r<16;lia
 refine bQ (Bd (x:=tU[r]) (fL (l:=tU) sY)) ?_;refine Y ?_;exact⟨_,_,rfl,rfl,pY _,hp⟩
theorem Xr{k:Nat}{s:S}{o:SO}{m:Int}{P:Xv->S->Prop}(ho:lR o)(hm:0<m)(hm2:m<1073741824)(h:∀(r:Nat) o',(r:Int)<m->lR o'->P (.d (.int r)) (s++[o'])):W (cR (call ao T (k+1) true 22) [.l s.length,.d (.int m)]) (s++[o]) P:=by
 refine zF rfl ((ziL ho hm hm2).imp λv s1=>?_);rintro⟨d,o',rfl,rfl,⟨r,rfl,h0,h1⟩,hp⟩;obtain⟨n,rfl⟩:=Hg h0;exact⟨_,_,rfl,rfl,h n o' h1 hp⟩
theorem zeQ{k:Nat}{d:D}(h:E_ d=true)(hl:VL d):W (call ao T (k+2) true 27 [.d d]) [] λv s=>v=.d (.bl (jH d)):=by
 have hs:(200:Nat)<=sizeLine:=by decide
 refine W.call zoG rfl ?_;unfold Wh;cases d with
 |tup xs=>
  by_cases h2:xs.length=2
  ·obtain⟨x,y,rfl⟩:=G4 h2;have hx:EY x=true:=by simp only[E_,lU,cU] at h;exact h.1
   have hy:EY y=true:=by simp only[E_,lU,cU] at h;exact h.2.1
   refine Y ?_;refine W.c0 (Qi (zmJ hx)) ?_;cases x with
   |int n=>
    refine Y ?_;by_cases hn:1<=n/\n<=8
    ·rw[cP hn.1];refine Y ?_;rw[cP hn.2];cases y with
     |tup ys=>
      have hyl:=hl _ _ rfl;have hy:∀t∈ys,eU t=true:=fW.mp hy;have ew:jH (.tup [.int n,.tup ys])=(decide (1<=n/\n<=8)&&ys.all (dO n)&&jx (gK ys)):=rfl;rw[cP hn] at ew;have fl:∀t∈ys,dO n t=false->jH (.tup [.int n,.tup ys])=false:=λt ht e=>by
       rw[ew];have:ys.all (dO n)=false:=by
        cases ha:ys.all (dO n)
        ·rfl
        ·have:=fW.mp ha t ht;rw[e] at this;cases this
       rw[this];rfl
      refine Y ?_;refine Ka6 (λi J s=>s=[]/\(∃a,J=[some (.d (.tup [.int n,.tup ys])),a])/\∀t∈ys.take i,dO n t=true) ⟨rfl,⟨_,rfl⟩,by simp⟩ (λi t J s ht hI=>?_) (λJ s hI=>?_)
      ·obtain⟨rfl,⟨a,rfl⟩,hI⟩:=hI;have htm:=jd ht;have hti:=hy t htm;have hfl:=fl t htm;have nxt:dO n t=true->∀u∈ys.take (i+1),dO n u=true:=λe u hu=>by
        rw[List.take_succ,ht] at hu;rcases fO.mp hu with hu|hu
        ·exact hI u hu
        ·rw[show u=t by simpa using hu];exact e
       cases t with
       |tup us=>
        by_cases h2:us.length=2
        ·obtain⟨p,q,rfl⟩:=G4 h2;have hp:iW p=true:=by simp only[eU,lU,cU] at hti;exact hti.1
         have hq:iW q=true:=by simp only[eU,lU,cU] at hti;exact hti.2.1
         refine Y ?_;refine nJ (l:=[p,q]) (f:=λx=>x) (λt=>some (.bl (UG t))) (by show 2<=_;lia) ?_ (λt ht=>?_) ?_
         ·refine Y ?_;exact⟨rfl,rfl⟩
         ·refine Y ?_;refine⟨rfl,λ_=>?_,λhb=>by cases hb⟩;refine Y ?_;refine W.cB rfl ((Qi (d:=t) ?_).imp λv s e=>⟨_,e,rfl,_,rfl,rfl⟩);simp only[dh,oh,nY] at ht;rcases ht with rfl|rfl
          ·exact hp
          ·exact hq
         rw[wj];refine Y ?_;cases p with
         |int a=>
          cases q with
          |int b=>
           refine Y ?_;refine W.vp ?_;refine Y ?_;have tb:dO n (.tup [.int a,.int b])=decide (0<=a/\a<b/\b<n):=rfl;by_cases h1:0<=a
           ·rw[cP h1];refine Y ?_;by_cases h3:a<b
            ·rw[cP h3];refine Y ?_;by_cases h4:b<n
             ·rw[cP h4];refine Y ?_;exact .inl ⟨_,rfl,rfl,⟨_,rfl⟩,nxt (by rw[tb];exact cP ⟨h1,h3,h4⟩)⟩
             ·rw[cI h4];refine Y ?_;exact .inr ⟨_,rfl,by rw[hfl (by rw[tb];exact cI (by lia))]⟩
            ·rw[cI h3];refine Y ?_;exact .inr ⟨_,rfl,by rw[hfl (by rw[tb];exact cI (by lia))]⟩
           ·rw[cI h1];refine Y ?_;exact .inr ⟨_,rfl,by rw[hfl (by rw[tb];exact cI (by lia))]⟩
          |_=>
           refine Y ?_;exact .inr ⟨_,rfl,by rw[hfl rfl]⟩
         |_=>
          refine Y ?_;exact .inr ⟨_,rfl,by rw[hfl rfl]⟩
        ·refine Y ?_;refine W.ite (λ_=>?_) (λhb=>?_)
         ·refine Y ?_;exact .inr ⟨_,rfl,by rw[hfl (zfj h2)]⟩
         ·exact absurd hb (by simp;lia)
       |exc _ _=>cases hti
       |ob _ _=>cases hti
       |_=>
        refine Y ?_;exact .inr ⟨_,rfl,by rw[hfl rfl]⟩
      ·obtain⟨rfl,⟨a,rfl⟩,hI⟩:=hI;rw[Np] at hI;have ha:ys.all (dO n)=true:=fW.mpr hI;rw[ha] at ew;obtain⟨e,ht⟩:=Pn ha;generalize gK ys=ps at e ht ew;subst e;have t8:∀p∈ps,Ts.iu p:=λp hp=>by have:=ht p hp;exact⟨this.1,this.2.1,by lia⟩
       refine Y ?_;refine zE (zoN t8) ?_;refine Y ?_;refine bQ (d:=.bl (decide (ps=ss ps))) ?_ ?_
       ·show Option.map _ (fj (dD 49) (ps.map bI) ((ss ps).map bI))=_;rw[zeY];rfl
       refine Y ?_;rw[ew,<-zmX t8];rfl
     |exc _ _=>cases hy
     |ob _ _=>cases hy
     |_=>exact Y rfl
    ·have ew:jH (.tup [.int n,y])=false:=by
      cases y with
      |tup ys=>
       show (decide (1<=n/\n<=8)&&ys.all (dO n)&&jx (gK ys))=false;rw[cI hn];rfl
      |_=>rfl
     rw[ew];by_cases h1:1<=n
     ·rw[cP h1];refine Y ?_;rw[cI (show ¬n<=8 by lia)];exact Y trivial
     ·rw[cI h1];exact Y trivial
   |_=>exact Y rfl
  ·rw[zga h2];refine Y ?_;refine W.ite (λ_=>?_) (λhb=>?_)
   ·exact Y trivial
   ·exact absurd hb (by simp;lia)
 |exc _ _=>cases h
 |ob _ _=>cases h
 |_=>exact Y rfl
theorem zds{k':Nat}{o:SO}{n:Int}{ps:List (Int×Int)}(ho:lR o)(h:Web n ps):W (call ao T (k'+2) true 35 [.l 0,.d (bx n ps)]) [o] λv s=>∃(d:D) (o':SO),v=.d d/\s=[o']/\pU d/\lR o':=by
 refine W.call zov rfl ?_;unfold Wr bx;have Fe:(1000:Nat)<=sizeLine:=by decide
 have h1:=h.h1;have h8:=h.h8;have hlen:=h.len;have hml:(ps.map bI).length=ps.length:=bN ..;have hok:=zhc (ps:=ps);have hrw:∀z∈ps.map bI,pD z:=λz hz=>by
  obtain⟨p,_,rfl⟩:=fX.mp hz;exact uG (λx hx=>by
   simp only[dh,oh,nY] at hx;rcases hx with rfl|rfl<;>rfl) (by simp)
 generalize ps.map bI=R at hml hok hrw;refine Y ?_;refine pF ho (by lia) (by lia) λr o1 hr hp=>?_;refine Y ?_;refine pF hp (by decide) (by decide) λr2 o2 Mg hp=>?_;refine Y ?_;obtain⟨x,ex,hx⟩:=Pq (xs:=[.tup [.int 0,.int 0],.tup [.int 1,.int 0],.tup [.int 0,.int n],.tup [.int (-1),.int 0],.tup [.bl false,.bl true],.tup [.int 0,.bl true],.tup [.int 0],.tup [.int 0,.int 1,.int 2],.fl [.int 0,.int 1],.non]) (r:=r2) (by show r2<10;lia);have Mx:eU x=true:=by
  simp only[dh,oh,nY] at hx;rcases hx with rfl|rfl|rfl|rfl|rfl|rfl|rfl|rfl|rfl|rfl
  all_goals rfl
 refine bQ ex ?_;clear ex hx;have l1:=GZ (xs:=R) (lo:=none) (hi:=some (r:Int));have l2:=GZ (xs:=R) (lo:=some ((r:Int)+1)) (hi:=none);have l3:=GZ (xs:=R) (lo:=some (r:Int)) (hi:=none);have l4:=GZ (xs:=R) (lo:=none) (hi:=some 1);have m1:∀y∈cut R none (some (r:Int)),eU y=true:=λy hy=>hok y (GX hy);have m2:∀y∈cut R (some ((r:Int)+1)) none,eU y=true:=λy hy=>hok y (GX hy);have m3:∀y∈cut R (some (r:Int)) none,eU y=true:=λy hy=>hok y (GX hy);have m4:∀y∈cut R none (some 1),eU y=true:=λy hy=>hok y (GX hy);have mx:∀y∈[x],eU y=true:=λy hy=>by rw[show y=x by simpa using hy];exact Mx
 refine Y ?_;refine pF hp (by decide) (by decide) λr3 o3 hr3 hp=>?_;refine Y ?_;refine WS.ite (λ_=>?_) (λ_=>?_)
 ·refine Y ?_;refine bQ (tO (by show _+1<=_;lia)) ?_;refine Y ?_;refine bQ (tO (by rw[cY];show _+1+_<=_;lia)) ?_;refine Y ?_;refine bQ (tO (by show _+1<=_;lia)) ?_;refine Y ?_;refine bQ (tO (by rw[cY];show _+1+_<=_;lia)) ?_;refine Y ?_;refine bQ (tO (by lia)) ?_;refine Y ?_;refine bQ (tO (by lia)) ?_;refine Y ?_;refine bQ (tO (by lia)) ?_;refine Y ?_;refine bQ (tO (by show _+1<=_;lia)) ?_;refine Y ?_;refine bQ (tO (by rw[cY];show _+1+_<=_;lia)) ?_;refine Y ?_;refine pF hp (by decide) (by decide) λr4 o4 hr4 hp=>?_;refine Y ?_;obtain⟨y,ey,hy⟩:=Pq (xs:=[.tup (cut R none (some (r:Int))++[x]++cut R (some ((r:Int)+1)) none),.tup (cut R none (some (r:Int))++[x]++cut R (some (r:Int)) none),.tup R.reverse,.fl R,.tup (R++cut R none (some 1)),.tup (cut R none (some (r:Int))++cut R (some ((r:Int)+1)) none),.tup [.tup R],.tup (cut R (some (r:Int)) none++cut R none (some (r:Int))),.tup (cut R none (some (r:Int))++[.tup [.int 0,.int 1]]++cut R (some (r:Int)) none)]) (r:=r4) (by show r4<9;lia);refine bQ ey ?_;refine Y ?_;refine⟨_,_,rfl,rfl,xJ xH ?_,hp⟩;clear ey;simp only[dh,oh,nY] at hy;rcases hy with rfl|rfl|rfl|rfl|rfl|rfl|rfl|rfl|rfl
  ·exact uG (VN m1 mx m2) (by rw[cY,cY];show _+1+_<=_;lia)
  ·exact uG (VN m1 mx m3) (by rw[cY,cY];show _+1+_<=_;lia)
  ·exact uG (λy hy=>hok y (List.mem_reverse.mp hy)) (by rw[List.length_reverse];lia)
  ·exact⟨rfl,λys e=>by cases e⟩
  ·exact uG (VP hok m4) (by rw[cY];lia)
  ·exact uG (VP m1 m2) (by rw[cY];lia)
  ·exact uG (λy hy=>by rw[show y=.tup R by simpa using hy];exact fW.mpr λz hz=>Ml (hok z hz)) (by simp)
  ·exact uG (VP m3 m1) (by rw[cY];lia)
  ·exact uG (VN m1 (λy hy=>by rw[show y=.tup [.int 0,.int 1] by simpa using hy];rfl) m3) (by rw[cY,cY];show _+1+_<=_;lia)
 ·have rR:pD (.tup R):=uG hok (by lia);refine Y ?_;refine bQ (znt (by lia) (by lia)) ?_;refine Y ?_;refine pF hp (by decide) (by decide) λr4 o4 hr4 hp=>?_;refine Y ?_;obtain⟨y,ey,hy⟩:=Pq (xs:=[.tup [.int (n+1),.tup R],.tup [.int (n-1),.tup R],.tup [.bl true,.tup R],.tup [.int 9,.tup R],.tup [.int 0,.tup []],.tup [.non,.tup R],.fl [.int n,.tup R],.tup [.int n,.tup R,.int 0],.tup [.int n],.tup [.str (Str.ofString (toString n)),.tup R],.tup [.tup R,.int n],.tup R]) (r:=r4) (by show r4<12;lia);refine bQ ey ?_;refine Y ?_;refine⟨_,_,rfl,rfl,?_,hp⟩;clear ey;simp only[dh,oh,nY] at hy;rcases hy with rfl|rfl|rfl|rfl|rfl|rfl|rfl|rfl|rfl|rfl|rfl|rfl
  ·exact xJ xH rR
  ·exact xJ xH rR
  ·exact xJ ⟨rfl,λys e=>by cases e⟩ rR
  ·exact xJ xH rR
  ·exact xJ xH (uG (λx hx=>by cases hx) (by simp))
  ·exact xJ ⟨rfl,λys e=>by cases e⟩ rR
  ·exact⟨rfl,λx ys e=>by cases e⟩
  ·exact Pu λz hz=>by
    simp only[dh,oh,nY] at hz;rcases hz with rfl|rfl|rfl
    ·exact xH
    ·exact rR
    ·exact xH
  ·exact Pu λz hz=>by rw[show z=.int n by simpa using hz];exact xH
  ·exact xJ ⟨rfl,λys e=>by cases e⟩ rR
  ·exact xJ rR xH
  ·exact Pu hrw
theorem zgA{k':Nat}{k a b:Int}:W (call ao T (k'+1) true 30 [.d (.int k),.d (.int a),.d (.int b)]) [] λv s=>v=.d (.int (fH k a b)):=W.eq (a:=.d (.int (fH k a b))) (s':=[]) rfl rfl
theorem Qj{r:List Int}{x:Int}:(((r.map D.int++[D.int x]).length:Nat):Int)=(r.length:Int)+1:=by simp
noncomputable def qG(n:Int)(ps:List (Int×Int)):List Int:=((List.range n.toNat).filter λ(i:Nat)=>ps.all λp=>decide (p.1≠(i:Int)/\p.2≠(i:Int))).map λ(i:Nat)=>(i:Int)
theorem zkG{k':Nat}{n k d:Int}{ps:List (Int×Int)}(h:Web n ps)(hk:1<=k)(hB:(n.toNat+1)*(k.toNat+1)^n.toNat+n.toNat<1000000000)(hd2:d<1000) :
  W (call ao T (k'+2) true 34 [.d (bx n ps),.d (aV k d)]) [] λv s=>v=.d .non\/∃hs:List Int,v=.d (.tup (hs.map .int))/\(hs.length:Int)=n:=by
 refine W.call zow rfl ?_;unfold Wq;have Fe:(1000:Nat)<=sizeLine:=by decide
 have h1:=h.h1;have h8:=h.h8;have hlen:=h.len;have hwk:oV=1000000000000:=rfl;have Fg:ps.map bI=[]↔ps=[]:=List.map_eq_nil_iff;unfold bx aV;by_cases c1:ps≠[]/\k<2*d
 ·refine Y ?_;refine bQ (zm0 (f:=not)) ?_;rw[cI (λe=>c1.1 (Fg.mp e))];refine Y ?_;rw[cP c1.2];refine Y ?_;exact .inl rfl
 refine WS.cons (GK ?_);refine W.imp (P:=λx s1=>x=.d (.bl false)/\s1=[]) ?_ λx s1 hx=>?_
 ·refine Y ?_;refine bQ (zm0 (f:=not)) ?_;by_cases e:ps=[]
  ·rw[cP (Fg.mpr e)];refine Y ?_;exact⟨rfl,rfl⟩
  ·rw[cI (λz=>e (Fg.mp z))];refine Y ?_;rw[cI (λz=>c1 ⟨e,z⟩)];exact⟨rfl,rfl⟩
 obtain⟨rfl,rfl⟩:=hx;refine W.bool (WS.DY ?_);refine Y ?_;refine K7 (λi J s=>s=[]/\∃(ts:List Int) (a3 a4 a5:Option Xv),J=[some (.d (.tup [.int n,.tup (ps.map bI)])),some (.d (.tup [.int k,.int d])),some (.d (.fl (ts.map .int))),a3,a4,a5,none,none,none,none]/\ts.length<=8*i) ⟨rfl,[],_,_,_,rfl,by simp⟩ (λi x J s e hI=>?_) (λJ s hI=>?_)
 ·obtain⟨rfl,ts,a3,a4,a5,rfl,hl⟩:=hI;rw[i_] at e;cases ep:ps[i]? with
  |none=>rw[ep] at e;cases e
  |some p=>
   rw[ep] at e;cases e;obtain⟨a,b⟩:=p;have hp:=jd ep;have hi:i<ps.length:=(jy.mp ep).1;refine Y ?_;refine nJ (l:=List.range (n-0).toNat) (f:=λ(j:Nat)=>.int (0+j)) (λ(j:Nat)=>if (a,0+(j:Int))∈ps/\(b,0+(j:Int))∈ps then some (.int (0+j)) else none) (by rw[FJ];lia) ?_ (λj hj=>?_) ?_
   ·refine Y ?_;refine⟨by rw[rJ (by lia) (by lia),rJ (by lia) (by lia)];rfl,?_⟩;exact⟨rfl,rfl⟩
   ·refine Y ?_;refine bQ (GQ (f:=id) (p:=(a,0+(j:Int)))) ?_;by_cases q1:(a,0+(j:Int))∈ps
    ·rw[cP q1];refine Y ?_;refine bQ (GQ (f:=id) (p:=(b,0+(j:Int)))) ?_;refine Y ?_;refine⟨rfl,λhb=>?_,λhb=>?_⟩
     ·refine Y ?_;exact⟨rfl,_,rfl,by rw[if_pos ⟨q1,gb hb⟩]⟩
     ·rw[if_neg (λz=>absurd z.2 (Hu hb))]
    ·rw[cI q1];refine Y ?_;refine⟨rfl,?_,λ_=>?_⟩
     ·intro hb;cases hb
     ·rw[if_neg (λz=>q1 z.1)]
   ·refine Y ?_;have e1:∀l:List Nat,∃us:List Int,l.filterMap (λ(j:Nat)=>if (a,0+(j:Int))∈ps/\(b,0+(j:Int))∈ps then some (D.int (0+j)) else none)=us.map .int/\us.length<=l.length:=by
     intro l
     induction l with
     |nil=>exact⟨[],rfl,cH _⟩
     |cons j r ih=>
      obtain⟨us,q1,q2⟩:=ih;rw[xP];by_cases z:(a,0+(j:Int))∈ps/\(b,0+(j:Int))∈ps
      ·rw[if_pos z,q1];exact⟨(0+(j:Int))::us,rfl,by simp;lia⟩
      ·rw[if_neg z,q1];exact⟨us,rfl,by simp;lia⟩
    obtain⟨us,q1,q2⟩:=e1 (List.range (n-0).toNat);rw[q1];rw[FJ] at q2;refine zE (O5 ?_) ?_
    ·rw[bN,bN];lia
    refine Y ?_;exact⟨_,rfl,rfl,ts++us,_,_,some (.d (.fl (us.map .int))),by rw[jW];rfl,by rw[cY];lia⟩
 ·obtain⟨rfl,ts,a3,a4,a5,rfl,hl⟩:=hI;have Xu:ts.map D.int=[]↔ts=[]:=List.map_eq_nil_iff;by_cases c2:ts≠[]/\k<3*d
  ·refine Y ?_;refine bQ (Ej (f:=not)) ?_;rw[cI (λe=>c2.1 (Xu.mp e))];refine Y ?_;rw[cP c2.2];refine Y ?_;exact .inl rfl
  refine WS.cons (GK ?_);refine W.imp (P:=λx s1=>x=.d (.bl false)/\s1=[]) ?_ λx s1 hx=>?_
  ·refine Y ?_;refine bQ (Ej (f:=not)) ?_;by_cases e:ts=[]
   ·rw[cP (Xu.mpr e)];refine Y ?_;exact⟨rfl,rfl⟩
   ·rw[cI (λz=>e (Xu.mp z))];refine Y ?_;rw[cI (λz=>c2 ⟨e,z⟩)];exact⟨rfl,rfl⟩
  obtain⟨rfl,rfl⟩:=hx;refine W.bool (WS.DY ?_);refine Y ?_;refine nJ (l:=List.range (n-0).toNat) (f:=λ(j:Nat)=>.int (0+j)) (λ(j:Nat)=>if (ps.all λp=>decide (p.1≠(j:Int)/\p.2≠(j:Int)))=true then some (.int j) else none) (by rw[FJ];lia) ?_ (λj hj=>?_) ?_
  ·refine Y ?_;refine⟨by rw[rJ (by lia) (by lia),rJ (by lia) (by lia)];rfl,?_⟩;exact⟨rfl,rfl⟩
  ·refine Y ?_;refine nJ (l:=ps) (f:=bI) (λp=>if p.1=(j:Int)\/p.2=(j:Int) then some (bI p) else none) (by lia) ?_ (λp hp=>?_) ?_
   ·refine Y ?_;exact⟨rfl,rfl⟩
   ·obtain⟨a,b⟩:=p;refine Y ?_;refine⟨rfl,λhb=>?_,λhb=>?_⟩
    ·refine Y ?_;simp at hb;exact⟨rfl,_,rfl,by rw[if_pos hb]⟩
    ·simp at hb;rw[if_neg (by simp;lia)]
   ·refine Y ?_;refine bQ (Ej (f:=id)) ?_;refine Y ?_;have uY:(ps.filterMap (λp=>if p.1=(j:Int)\/p.2=(j:Int) then some (bI p) else none)=[])↔(ps.all λp=>decide (p.1≠(j:Int)/\p.2≠(j:Int)))=true:=by
     rw[lG,fW]
     constructor
     ·intro h p hp;have:=h p hp;apply cP;split at this
      ·cases this
      ·lia
     ·intro h p hp;have:=gb (h p hp);rw[if_neg (by lia)]
    refine⟨rfl,λhb=>?_,λhb=>?_⟩
    ·refine Y ?_;rw[if_pos (uY.mp (gb hb))];exact⟨rfl,_,rfl,by congr 2;lia⟩
    ·rw[if_neg (λz=>absurd (uY.mpr z) (Hu hb))]
  ·have el:(List.range (n-0).toNat).filterMap (λ(j:Nat)=>if (ps.all λp=>decide (p.1≠(j:Int)/\p.2≠(j:Int)))=true then some (D.int j) else none)=(qG n ps).map .int:=by
    unfold qG;rw[lK,show n-0=n by lia];generalize List.range n.toNat=l
    induction l with
    |nil=>rfl
    |cons j r ih=>
     rw[xP,Hy];cases q:(ps.all λp=>decide (p.1≠(j:Int)/\p.2≠(j:Int)))
     ·simp[ih]
     ·simp[ih]
   rw[el];generalize qG n ps=ls;refine Y ?_;have hB0:left' (k.toNat+1) n.toNat [0]<=(n.toNat+1)*(k.toNat+1)^n.toNat+n.toNat:=by
    unfold left';have:=Qz (n.toNat+1) (Nat.sub_le ((k.toNat+1)^n.toNat) (val (k.toNat+1) [0] n.toNat))
    lia
   refine WS.wh (λm J s=>∃(r:List Int) (x:Int) (a8 a9:Option Xv),J=[some (.d (.tup [.int n,.tup (ps.map bI)])),some (.d (.tup [.int k,.int d])),some (.d (.fl (ts.map .int))),a3,a4,a5,some (.d (.fl (ls.map .int))),some (.l 0),a8,a9]/\s=[.lst (r.map .int++[.int x])]/\Bo n k r x/\m=left' (k.toNat+1) n.toNat (r++[x])) (m:=left' (k.toNat+1) n.toNat [0]) (by lia) ⟨[],0,none,none,rfl,rfl,V1 (by lia) (by lia),rfl⟩ λm J s hI=>?_;obtain⟨r,x,a8,a9,rfl,rfl,St,rfl⟩:=hI;have g1:=St.len;have g2:=St.x0;have g3:=St.xk;have Mz:∀z∈r,z<((k.toNat+1:Nat):Int):=λz hz=>by have:=St.lo z hz;lia
   refine Y ?_;refine bQ (zlA (by lia) (by lia)) ?_;refine Y ?_;refine⟨λh0=>?_,λh0=>?_⟩
   ·have h0:at' (r++[x]) 0=0:=by simpa using h0
    by_cases cA:x=k\/(0<x/\(r.length:Int)∈ls)
    ·-- back
     have hne:r≠[]:=by
      rintro rfl;have:at' ([]++[x]) ((([]:List Int).length:Nat):Int)=x:=zjW;have e0:at' ([]++[x]) 0=x:=this;rw[e0] at h0;rcases cA with e|e
      ·lia
      ·lia
     obtain⟨r',y,rfl⟩ : ∃r' y,r=r'++[y]:=⟨r.dropLast,r.getLast hne,(List.dropLast_concat_getLast hne).symm⟩;have hy:=St.lo y (by simp);have sO:(r'.length:Int)+1<n:=by rw[cY] at g1;simpa using g1
     refine WS.cons (GK ?_);refine W.imp (P:=λv s1=>v=.d (.bl true)/\s1=[.lst ((r'++[y]).map .int++[.int x])]) ?_ λv s1 hv=>?_
     ·refine Y ?_;refine bQ Ef ?_;refine Y ?_;by_cases e:x=k
      ·subst e;refine W.K8 (by simp) ?_;refine Y ?_;exact⟨rfl,rfl⟩
      ·rcases cA with cA|cA
       ·exact absurd cA e
       refine W.GJ (by simp;exact e) ?_;refine Y ?_;refine bQ Ef ?_;refine Y ?_;rw[cP cA.1];refine Y ?_;refine bQ (zmb (f:=id)) ?_;rw[Qj,show ((r'++[y]).length:Int)+1-1=((r'++[y]).length:Int) by lia,cP cA.2];exact⟨rfl,rfl⟩
     obtain⟨rfl,rfl⟩:=hv;refine W.bool (WS.tK ?_);refine WS.cons (Kbc ?_);refine W.pop (n:=0) (xs:=(r'++[y]).map .int) (x:=.int x) ?_;refine Y ?_;refine⟨rfl,rfl,?_⟩;rw[show [SO.lst ((r'++[y]).map D.int++[D.int x])].set 0 (.lst ((r'++[y]).map .int))=[.lst (r'.map .int++[.int y])] by rw[jW];rfl];refine Y ?_;refine bQ (Ej (f:=id)) ?_;rw[cI (by simp)];refine Y ?_;refine bQ Ef ?_;refine Y ?_;refine pQ.mk (a:=r'.length) ?_ ?_
     ·rw[cY,bN];exact Uy
     refine Y ?_;refine .inl ⟨_,left' (k.toNat+1) n.toNat (r'++[y+1]),rfl,?_,r',y+1,a8,a9,rfl,?_,zkn St,rfl⟩
     ·exact zhU hy.1 (by lia) g2 (by lia) (λz hz=>Mz z (qJ _ hz)) (by lia)
     ·have:(r'.map D.int++[D.int y]).set r'.length (.int (y+1))=r'.map .int++[.int (y+1)]:=by
       rw[List.set_append_right _ _ (by simp)];simp
      show [SO.lst ((r'.map D.int++[D.int y]).set r'.length (.int (y+1)))]=_;rw[this]
    ·-- on
     have Xw:x≠k:=λe=>cA (.inl e);refine WS.cons (GK ?_);refine W.imp (P:=λv s1=>v=.d (.bl false)/\s1=[.lst (r.map .int++[.int x])]) ?_ λv s1 hv=>?_
     ·refine Y ?_;refine bQ Ef ?_;refine Y ?_;refine W.GJ (by simp;exact Xw) ?_;refine Y ?_;refine bQ Ef ?_;refine Y ?_;by_cases e:0<x
      ·rw[cP e];refine Y ?_;refine bQ (zmb (f:=id)) ?_;rw[Qj,show (r.length:Int)+1-1=(r.length:Int) by lia,cI (λz=>cA (.inr ⟨e,z⟩))];exact⟨rfl,rfl⟩
      ·rw[cI e];refine Y ?_;exact⟨rfl,rfl⟩
     obtain⟨rfl,rfl⟩:=hv;refine W.bool (WS.DY ?_);refine Y ?_;refine nJ (l:=ps) (f:=bI) (λp=>if p.2=(r.length:Int) then some (bI p) else none) (by lia) ?_ (λp hp=>?_) ?_
     ·refine Y ?_;exact⟨rfl,rfl⟩
     ·obtain⟨a,b⟩:=p;refine Y ?_;rw[Qj,show (r.length:Int)+1-1=(r.length:Int) by lia];refine⟨rfl,λhb=>?_,λhb=>?_⟩
      ·refine Y ?_;exact⟨rfl,_,rfl,by rw[if_pos (by simpa using hb)]⟩
      ·rw[if_neg (by simpa using hb)]
     ·have ef:ps.filterMap (λp=>if p.2=(r.length:Int) then some (bI p) else none)=(ps.filter λp=>decide (p.2=(r.length:Int))).map bI:=by
       generalize ps=l
       induction l with
       |nil=>rfl
       |cons p q ih=>
        rw[xP,Hy];by_cases e:p.2=(r.length:Int)
        ·simp[e,ih]
        ·simp[e,ih]
      rw[ef];have hfl:(ps.filter λp=>decide (p.2=(r.length:Int))).length<=ps.length:=Qu _ _;refine Y ?_;refine nJ (l:=ps.filter λp=>decide (p.2=(r.length:Int))) (f:=bI) (λp=>if fH k (at' (r++[x]) p.1) x<d then some (bI p) else none) (by lia) ?_ (λp hp=>?_) ?_
      ·refine Y ?_;exact⟨rfl,rfl⟩
      ·obtain⟨CV,hp2⟩:=xU.mp hp;have hp2:=gb hp2;have ht:=h.tie p CV;obtain⟨a,b⟩:=p;dsimp only at hp2 ht;refine Y ?_;refine bQ (zlA (by lia) (by lia)) ?_;refine Y ?_;refine bQ Ef ?_;refine Y ?_;refine W.c0 zgA ?_;refine Y ?_;refine⟨rfl,λhb=>?_,λhb=>?_⟩
       ·refine Y ?_;exact⟨rfl,_,rfl,by rw[if_pos (gb hb)]⟩
       ·rw[if_neg (Hu hb)]
      ·refine Y ?_;refine bQ (Ej (f:=not)) ?_;by_cases cN:∃p∈ps,p.2=(r.length:Int)/\fH k (at' (r++[x]) p.1) x<d
       ·rw[cI (λz=>by
         obtain⟨p,hp,e1,e2⟩:=cN;have:=lG.mp z p (xU.mpr ⟨hp,cP e1⟩);rw[if_pos e2] at this;cases this)]
        refine Y ?_;refine bQ Ef ?_;refine Y ?_;refine pQ.mk (a:=r.length) ?_ ?_
        ·rw[cY,bN];exact Uy
        refine Y ?_;refine .inl ⟨_,left' (k.toNat+1) n.toNat (r++[x+1]),rfl,?_,r,x+1,_,_,rfl,?_,zjH St Xw,rfl⟩
        ·exact zhN g2 (by lia) Mz (by lia)
        ·have:(r.map D.int++[D.int x]).set r.length (.int (x+1))=r.map .int++[.int (x+1)]:=by
          rw[List.set_append_right _ _ (by simp)];simp
         show [SO.lst ((r.map D.int++[D.int x]).set r.length (.int (x+1)))]=_;rw[this]
       ·have hN:∀p∈ps,p.2=(r.length:Int)->d<=fH k (at' (r++[x]) p.1) x:=λp hp e=>by
         by_cases z:fH k (at' (r++[x]) p.1) x<d
         ·exact absurd ⟨p,hp,e,z⟩ cN
         ·lia
        rw[cP (lG.mpr λp hp=>by
         obtain⟨CV,hp2⟩:=xU.mp hp;have:=hN p CV (gb hp2);rw[if_neg (by lia)])]
        refine Y ?_;rw[Qj];by_cases cF:(r.length:Int)+1=n
        ·refine WS.K8 (by simp;exact cF) ?_;refine Y ?_;refine .inr ⟨_,rfl,.inr ⟨r++[x],by rw[jW];rfl,by rw[cY];simp;lia⟩⟩
        ·refine WS.GJ (by simp;exact cF) ?_;refine Y ?_;refine⟨by rw[cY,bN];simp;lia,?_⟩;refine Y ?_;refine .inl ⟨_,left' (k.toNat+1) n.toNat (r++[x]++[0]),rfl,zf2 (by rw[cY];simp;lia),r++[x],0,_,_,rfl,?_,zif St hk Xw (by lia),rfl⟩;rw[jW];rfl
   ·have h0:at' (r++[x]) 0≠0:=by simpa using h0
    refine Y ?_;exact .inl rfl
theorem znm{k':Nat}{n k d:Int}{ps:List (Int×Int)}{hs:List Int}(h:Web n ps)(hl:(hs.length:Int)=n):W (call ao T (k'+2) true 31 [.d (bx n ps),.d (aV k d),.d (.tup (hs.map .int))]) [] λv s=>v=.d (.bl (nM k d ps hs)):=by
 refine W.call zoB rfl ?_;unfold Wm bx aV;have Fe:(100:Nat)<=sizeLine:=by decide
 have hlen:=h.len;have h8:=h.h8;refine Y ?_;refine nJ (l:=ps) (f:=bI) (λp=>if d<=fH k (at' hs p.1) (at' hs p.2) then none else some (bI p)) (by lia) ?_ (λp hp=>?_) ?_
 ·refine Y ?_;exact⟨rfl,rfl⟩
 ·obtain⟨a,b⟩:=p;have ht:=h.tie _ hp;dsimp only at ht;refine Y ?_;refine bQ (wg (by lia) (by lia)) ?_;refine Y ?_;refine bQ (wg (by lia) (by lia)) ?_;refine Y ?_;refine W.c0 zgA ?_;refine Y ?_;refine⟨rfl,λhb=>?_,λhb=>?_⟩
  ·refine Y ?_;have hb:=gb hb;exact⟨rfl,_,rfl,by rw[if_neg (by lia)]⟩
  ·have hb:=Hu hb;rw[if_pos (by lia)]
 ·refine Y ?_;refine bQ (Ej (f:=id)) ?_;show Xv.d (D.bl (decide _))=_
  congr 2
  rw[Bool.eq_iff_iff,QF,lG,iV]
  constructor
  ·intro h p hp;have:=h p hp;split at this
   ·assumption
   ·cases this
  ·intro h p hp;rw[if_pos (h p hp)]
theorem ziU{xs:List D}{r:Nat}(hr:r<xs.length):∃x,prim .ix [.fl xs,.int r]=some (.dat x)/\x∈xs:=⟨xs[r],Bd (fL hr),pY _⟩
theorem zjx{xs:List D}{z:Int}(h0:0<=z)(hz:z<xs.length):∃x,prim .ix [.fl xs,.int z]=some (.dat x)/\x∈xs:=by
 obtain⟨r,rfl⟩:=Hg h0;exact ziU (by lia)
theorem zkY{xs:List Int}{r:Nat}{q:Int->Prop}(hb:∀z∈xs,q z)(hr:r<xs.length):∃z:Int,prim .ix [.fl (xs.map .int),.int r]=some (.dat (.int z))/\q z:=
 ⟨xs[r],Bd (by rw[i_,fL hr];rfl),hb _ (pY _)⟩
def nR(d:D):Prop:=eU d=true/\∀xs,d=.tup xs->xs.length<=100
theorem MF{xs:List D}(h:∀x∈xs,iW x=true)(hl:xs.length<=100):nR (.tup xs):=⟨fW.mpr h,λys e=>by cases e;exact hl⟩
theorem zJ{is:List Int}(hl:is.length<=100):nR (.tup (is.map .int)):=MF (λx hx=>by obtain⟨i,_,rfl⟩:=fX.mp hx;rfl) (by rw[bN];exact hl)
theorem zd1{k':Nat}{o:SO}{row:List Int}{kk:Int}(ho:lR o)(hl:row.length<=8)(hk:1<=kk)(hk2:kk<=1000):W (call ao T (k'+2) true 36 [.l 0,.d (.tup (row.map .int)),.d (.int kk)]) [o] λv s=>∃(d:D) (o':SO),v=.d d/\s=[o']/\nR d/\lR o':=by
 refine W.call zon rfl ?_;unfold Ws;have Fe:(100:Nat)<=sizeLine:=by decide
 have hml:(row.map D.int).length=row.length:=bN ..;refine Y ?_;refine pF ho (by lia) (by lia) λr o1 hr hp=>?_;refine Y ?_;refine pF hp (by lia) (by lia) λr2 o2 Mg hp=>?_;refine Y ?_;refine pF hp (by decide) (by decide) λr3 o3 hr3 hp=>?_;refine Y ?_;obtain⟨x,ex,hx⟩:=ziU (xs:=[.bl true,.bl false,.non,.int (-1),.int kk,.str "0",.tup [.int 0],.int r2]) (r:=r3) (by show r3<8;lia);have Mx:iW x=true:=by
  simp only[dh,oh,nY] at hx;rcases hx with rfl|rfl|rfl|rfl|rfl|rfl|rfl|rfl
  all_goals rfl
 refine bQ ex ?_;clear ex hx;have l1:=GZ (xs:=row.map D.int) (lo:=none) (hi:=some (r:Int));have l2:=GZ (xs:=row.map D.int) (lo:=some ((r:Int)+1)) (hi:=none);have m1:∀y∈cut (row.map D.int) none (some (r:Int)),iW y=true:=λy hy=>by obtain⟨i,_,rfl⟩:=fX.mp (GX hy);rfl
 have m2:∀y∈cut (row.map D.int) (some ((r:Int)+1)) none,iW y=true:=λy hy=>by obtain⟨i,_,rfl⟩:=fX.mp (GX hy);rfl
 refine Y ?_;refine bQ (tO (by show _+1<=_;lia)) ?_;refine Y ?_;refine bQ (tO (by rw[cY];show _+1+_<=_;lia)) ?_;refine Y ?_;refine bQ (tO (by lia)) ?_;refine Y ?_;refine bQ (tO (by show _+1<=_;lia)) ?_;refine Y ?_;refine pF hp (by decide) (by decide) λr4 o4 hr4 hp=>?_;refine Y ?_;obtain⟨z,ez,hz⟩:=zkY (xs:=[0,0,0,0,1,2,3,4,5]) (r:=r4) (q:=λz=>0<=z/\z<6) (by decide) (by show r4<9;lia);refine bQ ez ?_;refine Y ?_;obtain⟨y,ey,hy⟩:=zjx (xs:=[.tup (cut (row.map D.int) none (some (r:Int))++[x]++cut (row.map D.int) (some ((r:Int)+1)) none),.tup (cut (row.map D.int) none (some (r:Int))++cut (row.map D.int) (some ((r:Int)+1)) none),.tup (row.map .int++[.int 0]),.fl (row.map .int),.non,.tup [.tup (row.map .int)]]) hz.1 (by show z<6;exact hz.2);refine bQ ey ?_;refine Y ?_;refine⟨_,_,rfl,rfl,?_,hp⟩;have mi:∀y∈row.map D.int,iW y=true:=λy hy=>by obtain⟨i,_,rfl⟩:=fX.mp hy;rfl
 simp only[dh,oh,nY] at hy;rcases hy with rfl|rfl|rfl|rfl|rfl|rfl
 ·refine MF (λy hy=>?_) (by rw[cY,cY];show _+1+_<=_;lia);rcases fO.mp hy with hy|hy
  ·rcases fO.mp hy with hy|hy
   ·exact m1 y hy
   ·have:y=x:=by simpa using hy
    rw[this];exact Mx
  ·exact m2 y hy
 ·refine MF (λy hy=>?_) (by rw[cY];lia);rcases fO.mp hy with hy|hy
  ·exact m1 y hy
  ·exact m2 y hy
 ·refine MF (λy hy=>?_) (by rw[cY];show _+1<=_;lia);rcases fO.mp hy with hy|hy
  ·exact mi y hy
  ·have:y=.int 0:=by simpa using hy
   rw[this];rfl
 ·exact⟨rfl,λxs e=>by cases e⟩
 ·exact⟨rfl,λxs e=>by cases e⟩
 ·exact MF (λy hy=>by rw[show y=.tup (row.map .int) by simpa using hy];rfl) (by simp)
theorem zmv{x:D}(hx:x∈tU):nR x:=by
 simp only[tU,dh,oh,nY] at hx;rcases hx with rfl|rfl|rfl|rfl|rfl|rfl|rfl|rfl|rfl|rfl|rfl|rfl|rfl|rfl|rfl|rfl
 all_goals exact⟨rfl,λxs e=>by cases e<;>decide⟩
noncomputable def fK:List (Int×Int):=[(2,1),(3,1),(5,2),(4,1),(7,3),(7,2),(4,2),(6,2),(10,4),(5,1),(8,3),(3,2)]
theorem zj2{k':Nat}{o:SO}(ho:lR o):W (call ao T (k'+2) true 28 [.l 0]) [o] λv s=>∃(k d:Int) (o':SO),v=.d (aV k d)/\s=[o']/\(1<=d/\d<=k/\k<=10)/\lR o':=by
 refine W.call zoL rfl ?_;unfold Wi;refine Y ?_;refine pF ho (by decide) (by decide) λr o' hr hp=>?_;refine Y ?_;refine WS.ite (λ_=>?_) (λ_=>?_)
 ·refine Y ?_;refine pF hp (by decide) (by decide) λr2 o2 Mg hp2=>?_;refine Y ?_;have hk:1<=1+(r2:Int)%10/\1+(r2:Int)%10<=10:=by lia
  generalize 1+(r2:Int)%10=k at hk;refine pF hp2 (by lia) (by lia) λr3 o3 hr3 hp3=>?_;refine Y ?_;refine⟨_,_,_,rfl,rfl,?_,hp3⟩
  split<;>lia
 ·refine Y ?_;refine pF hp (by decide) (by decide) λr2 o2 Mg hp2=>?_;refine Y ?_;have sY:r2<fK.length:=by show r2<12;lia
  refine bQ (Bd (x:=aV fK[r2].1 fK[r2].2) ?_) ?_
  ·have:(fK.map λp=>aV p.1 p.2)[r2]?=some (aV fK[r2].1 fK[r2].2):=by rw[i_,fL sY];rfl
   exact this
  refine Y ?_;have key:∀p∈fK,1<=p.2/\p.2<=p.1/\p.1<=10:=by decide
  exact⟨_,_,_,rfl,rfl,key _ (pY _),hp2⟩
section
variable {n:Int}{ps:List (Int×Int)}
end
section
variable {n k d:Int}{ps:List (Int×Int)}{hs:List Int}{w r x:D}
theorem zdJ{k':Nat}(h:Web n ps)(hx:eU x=true)(hl:∀xs,x=.tup xs->xs.length<=200):W (call ao T (k'+5) true 15 [.d (bx n ps),.d (aV k d),.d x]) [] λv s=>v=.d (.bl (rQ n k d ps x)):=by
 refine W.call zoI rfl ?_;unfold V9;refine Y ?_;refine W.c0 (zfG hx hl) ?_;cases mV:n8 n k x
 ·rw[V0 mV];exact Y trivial
 ·obtain⟨hs,rfl,CK,jB⟩:=G5 mV;rw[Py CK jB];refine Y ?_;refine W.c0 (zkt h CK) ?_;unfold Px;cases hc:xK k d ps hs with
  |nil=>
   rw[wC.mp hc];exact Y rfl
  |cons p q=>
   have:nM k d ps hs=false:=by
    cases hf:nM k d ps hs
    ·rfl
    ·rw[wC.mpr hf] at hc;cases hc
   rw[this];exact Y rfl
theorem zcu{k':Nat}(h:Web n ps)(hx:eU x=true)(hl:∀xs,x=.tup xs->xs.length<=200):W (call ao T (k'+3) true 33 [.d (bx n ps),.d (aV k d),.d x]) [] λv s=>v=.d (.bl (rQ n k d ps x)):=by
 refine W.call zok rfl ?_;unfold Wo;have ew:bx n ps=.tup [.int n,.tup (ps.map bI)]:=rfl;have er:aV k d=.tup [.int k,.int d]:=rfl;refine Y ?_;refine W.c0 (zce hx hl) ?_;cases mV:n8 n k x
 ·rw[V0 mV];exact Y trivial
 ·obtain⟨hs,rfl,CK,jB⟩:=G5 mV;rw[Py CK jB];refine Y ?_;exact W.cB rfl ((znm h CK).imp λv s e=>⟨_,e,rfl⟩)
theorem zkj{k':Nat}(h:Web n ps)(hr:1<=d/\d<=k/\k<=24)(hx:eU x=true)(hl:∀xs,x=.tup xs->xs.length<=200)(hb:rQ n k d ps x=false):WR (call ao T (k'+8) true 16 [.d (bx n ps),.d (aV k d),.d x]) [] 2 []:=by
 refine WR.call WL rfl ?_;unfold PK;refine Y ?_;refine W.c1 (G7 (nQ h) (VJ h)) λ_=>?_;refine Y ?_;refine W.c1 (Mw rfl (Mq hr)) λ_=>?_;refine tL ?_;refine Y ?_;refine W.c0 (zdJ h hx hl) ?_;rw[hb];refine W.bool (W.bool (WS.tK (tL ?_)));refine Y ?_;exact⟨⟨_,_,_,rfl⟩,⟨_,_,_,rfl⟩,_,rfl⟩
theorem znZ{k':Nat}(h:Web n ps)(hr:1<=d/\d<=k/\k<=24)(hx:eU x=true)(hl:∀xs,x=.tup xs->xs.length<=200)(hb:rQ n k d ps x=true):W (call ao T (k'+8) true 16 [.d (bx n ps),.d (aV k d),.d x]) [] λv s=>∃d,v=.d d:=by
 refine W.call WL rfl ?_;unfold PK;refine Y ?_;refine W.c1 (G7 (nQ h) (VJ h)) λ_=>?_;refine Y ?_;refine W.c1 (Mw rfl (Mq hr)) λ_=>?_;refine Y ?_;refine W.c0 (zdJ h hx hl) ?_;rw[hb];refine Y ?_;exact⟨_,rfl⟩
end
theorem zjK{k:Nat}:W (call ao T (k+1) false 25 [.d (.exc 5 [])]) [] λv s=>v=.d (.str "map"):=W.eq (a:=.d (.str "map")) (s':=[]) rfl rfl
theorem zi4{k:Nat}{n a b:Int}(ha:0<=a/\a<n)(hb:0<=b/\b<n):W (call ao T (k+4) true 6 [.d (.int n),.d (.tup [.int a,.int b])]) [] λv s=>v=.d (.bl (decide (a<b))):=by
 refine W.call Wz rfl ?_;unfold b6;refine Y ?_;refine W.c0 zli ?_;refine Y ?_;refine W.c0 zhq ?_;rw[cP ha];refine Y ?_;refine W.c0 zhq ?_;rw[cP hb];exact Y trivial
theorem zhz{k:Nat}{n a b:Int}(ha:0<=a/\a<n)(hb:0<=b/\b<n):W (call ao T (k+5) true 7 [.d (.int n),.d (.tup [.int a,.int b])]) [] λv s=>v=.d (Pz a b):=by
 refine W.call T_7 rfl ?_;unfold b7;refine Y ?_;refine W.c0 (zi4 ha hb) ?_;refine W.bool ?_;unfold Pz;by_cases h:a<b
 ·rw[cP h,if_pos h];refine Y ?_;rfl
 ·rw[cI h,if_neg h];refine Y ?_;refine W.c0 zli ?_;refine Y ?_;refine W.c0 (zi4 hb ha) ?_;refine W.bool ?_;by_cases h2:b<a
  ·rw[cP h2,if_pos h2];refine Y ?_;rfl
  ·rw[cI h2,if_neg h2];exact Y trivial
section
variable {n m k d:Int}{ps qs:List (Int×Int)}{hs us:List Int}{w o x r y:D}
theorem zkN{k':Nat}{a b:Int}(h:Web m qs)(ha:0<=a/\a<m)(hb:0<=b/\b<m):W (call ao T (k'+6) true 9 [.d (bx m qs),.d (.int a),.d (.int b)]) [] λv s=>v=.d (.bl (decide (jJ a b∈qs))):=by
 refine W.call T_9 rfl ?_;unfold b9 bx;refine Y ?_;refine W.c0 (zhz ha hb) ?_;refine Y ?_;refine bQ (zmA h) ?_;rfl
theorem cw{k':Nat}(h:Web n ps):W (call ao T (k'+6) true 8 [.d (bx n ps)]) [] λv s=>∃d,v=.d d:=G7 (nQ h) (VJ h)
theorem Xx{k':Nat}(h:Web n ps)(h':Web m qs)(hx:eU x=true)(pW:∀xs,x=.tup xs->xs.length<=200):W (call ao T (k'+7) true 18 [.d (bx n ps),.d (bx m qs),.d x]) [] λv s=>v=.d (.bl (iw n m ps qs x)):=by
 have Fe:(1000:Nat)<=sizeLine:=by decide
 have h8:=h.h8;have hlen:=h.len;refine W.call zop rfl ?_;unfold Wa;refine Y ?_;refine W.c1 (cw h) λ_=>?_;refine Y ?_;refine W.c1 (cw h') λ_=>?_;refine Y ?_;refine W.c0 (Mu (Ml hx)) ?_;cases x with
 |tup xs=>
  have Mx:∀y∈xs,iW y=true:=fW.mp hx;have pW:=pW xs rfl;have es:n8 n m (.tup xs)=(decide ((xs.length:Int)=n)&&xs.all (kh 0 (m-1))):=rfl;by_cases hn:(xs.length:Int)=n
  ·rw[show nP n (.tup xs)=true from cP hn];rw[cP hn,HN] at es;refine Y ?_;refine nJ (l:=xs) (f:=λx=>x) (λt=>some (.bl (kh 0 (m-1) t))) (by lia) ?_ (λt ht=>?_) ?_
   ·refine Y ?_;rw[List.map_id'];exact⟨rfl,rfl⟩
   ·refine Y ?_;refine⟨rfl,λ_=>?_,λhb=>by cases hb⟩;refine Y ?_;exact W.cB rfl ((Xq (Mx t ht)).imp λv s e=>⟨_,e,rfl,_,rfl,rfl⟩)
   rw[wj];refine Y ?_;refine bQ GR ?_;cases jg:xs.all (kh 0 (m-1)) with
   |false=>
    rw[PB (es.trans jg)];exact Y trivial
   |true=>
    obtain⟨hs,e,hl,jB⟩:=G5 (es.trans jg);cases e;rw[V4 hl jB];refine Y ?_;refine nJ (l:=ps) (f:=bI) (λp=>some (.bl (decide (jJ (at' hs p.1) (at' hs p.2)∈qs)))) (by lia) ?_ (λp hp=>?_) ?_
    ·refine Y ?_;exact⟨rfl,rfl⟩
    ·obtain⟨a,b⟩:=p;have ht:=h.tie _ hp;dsimp only at ht;refine Y ?_;refine⟨rfl,λ_=>?_,λhb=>by cases hb⟩;refine Y ?_;refine bQ (wg (by lia) (by lia)) ?_;refine Y ?_;refine bQ (wg (by lia) (by lia)) ?_;refine Y ?_;exact W.cB rfl ((zkN h' (jB _ (V5 (by lia) (by lia))) (jB _ (V5 (by lia) (by lia)))).imp λv s e=>⟨_,e,rfl,_,rfl,rfl⟩)
    rw[wj];refine Y ?_;refine bQ GR ?_;rfl
  ·rw[show nP n (.tup xs)=false from cI hn,PB (by rw[es,cI hn,HF])];exact Y trivial
 |_=>exact Y rfl
theorem zkV{k':Nat}(h:Web n ps)(h':Web m qs)(hx:eU x=true)(pW:∀xs,x=.tup xs->xs.length<=200):W (call ao T (k'+3) true 38 [.d (bx n ps),.d (bx m qs),.d x]) [] λv s=>v=.d (.bl (iw n m ps qs x)):=by
 have Fe:(1000:Nat)<=sizeLine:=by decide
 have h8:=h.h8;have hlen:=h.len;refine W.call zoh rfl ?_;unfold Wu bx;refine Y ?_;refine W.c0 (zce hx pW) ?_;cases mV:n8 n m x with
 |false=>
  rw[PB mV];exact Y trivial
 |true=>
  obtain⟨hs,rfl,hl,jB⟩:=G5 mV;rw[V4 hl jB];refine Y ?_;refine nJ (l:=ps) (f:=bI) (λp=>if jJ (at' hs p.1) (at' hs p.2)∈qs then none else some (bI p)) (by lia) ?_ (λp hp=>?_) ?_
  ·refine Y ?_;exact⟨rfl,rfl⟩
  ·obtain⟨a,b⟩:=p;have ht:=h.tie _ hp;dsimp only at ht;refine Y ?_;refine bQ (wg (by lia) (by lia)) ?_;refine Y ?_;refine bQ (wg (by lia) (by lia)) ?_;refine Y ?_;refine zE zgH ?_;refine Y ?_;refine bQ (GQ (f:=not) (p:=jJ (at' hs a) (at' hs b))) ?_;refine Y ?_;refine⟨rfl,λhb=>?_,λhb=>?_⟩
   ·refine Y ?_;exact⟨rfl,_,rfl,by rw[if_neg (by simpa using hb)]⟩
   ·rw[if_pos (by simpa using hb)]
  ·refine Y ?_;refine bQ (Ej (f:=id)) ?_;show Xv.d (D.bl (decide _))=_
   congr 2
   rw[Bool.eq_iff_iff,QF,lG,fW]
   constructor
   ·intro h p hp;have:=h p hp;split at this
    ·rename_i z;exact cP z
    ·cases this
   ·intro h p hp;rw[if_pos (gb (h p hp))]
theorem znw{k':Nat}(h:Web n ps)(h':Web m qs)(hr:1<=d/\d<=k/\k<=24)(hl:(hs.length:Int)=n)(jB:∀x∈hs,0<=x/\x<m)(hm:iw n m ps qs (.tup (hs.map .int))=true)(hh:tM m k d qs us):W (call ao T (k'+9) true 19 [.d (bx n ps),.d (bx m qs),.d (.tup (hs.map .int)),.d (aV k d),.d (.tup (us.map .int))]) [] λv s=>v=.d (.tup ((hs.map λj=>at' us j).map .int)):=by
 have Fe:(1000:Nat)<=sizeLine:=by decide
 have h8:=h.h8;have h8':=h'.h8;have V6:=hh.len;have hx:=zJ (is:=hs) (by lia);have hy:=zJ (is:=us) (by lia);refine W.call Fb rfl ?_;unfold Bp;refine Y ?_;refine W.c1 (cw h) λ_=>?_;refine Y ?_;refine W.c1 (cw h') λ_=>?_;refine Y ?_;refine W.c1 (Mw rfl (Mq hr)) λ_=>?_;refine Y ?_;refine W.c0 (Xx h h' hx.1 (λxs e=>by have:=hx.2 xs e;lia)) ?_;rw[hm];refine Y ?_;refine W.c1 (znZ h' hr hy.1 (λxs e=>by have:=hy.2 xs e;lia) (zgh hh)) λ_=>?_;refine Y ?_;refine nJ (l:=hs) (f:=D.int) (λj=>some (.int (at' us j))) (by lia) ?_ (λj hj=>?_) ?_
 ·refine Y ?_;exact⟨rfl,rfl⟩
 ·have:=jB j hj;refine Y ?_;refine⟨rfl,λ_=>?_,λhb=>by cases hb⟩;refine Y ?_;refine bQ (wg (by lia) (by lia)) ?_;exact⟨rfl,_,rfl,rfl⟩
 rw[wj];refine Y ?_;rw[lK];rfl
theorem zk7{k':Nat}(hw:pU w)(hb:jH w=false):WR (call ao T (k'+9) true 19 [.d w,.d o,.d x,.d r,.d y]) [] 9 [.int (-1)]:=by
 refine WR.call Fb rfl ?_;unfold Bp;refine tL (O7 ?_ λs'=>⟨⟨_,_,_,rfl⟩,_,rfl⟩);refine GP ?_;refine Y ?_;exact WR.cB rfl (zfc hw hb)
theorem zma{k':Nat}(hw:pU w)(hb:jH w=true)(ho:pU o)(nZ:jH o=false):WR (call ao T (k'+9) true 19 [.d w,.d o,.d x,.d r,.d y]) [] 9 [.int (-1)]:=by
 refine WR.call Fb rfl ?_;unfold Bp;refine Y ?_;refine W.c1 (G7 hw hb) λ_=>?_;refine tL (O7 ?_ λs'=>⟨⟨_,_,_,rfl⟩,_,rfl⟩);refine GP ?_;refine Y ?_;exact WR.cB rfl (zfc ho nZ)
theorem zlC{k':Nat}(hw:pU w)(hb:jH w=true)(ho:pU o)(nZ:jH o=true)(hr:eU r=true)(hg:rP r=false):WR (call ao T (k'+9) true 19 [.d w,.d o,.d x,.d r,.d y]) [] 1 []:=by
 refine WR.call Fb rfl ?_;unfold Bp;refine Y ?_;refine W.c1 (G7 hw hb) λ_=>?_;refine Y ?_;refine W.c1 (G7 ho nZ) λ_=>?_;refine tL (O7 ?_ λs'=>⟨⟨_,_,_,rfl⟩,_,rfl⟩);refine GP ?_;refine Y ?_;exact WR.cB rfl (zgd hr hg)
theorem zlu{k':Nat}(h:Web n ps)(h':Web m qs)(hr:1<=d/\d<=k/\k<=24)(hx:eU x=true)(pW:∀xs,x=.tup xs->xs.length<=200)(hm:iw n m ps qs x=false):WR (call ao T (k'+9) true 19 [.d (bx n ps),.d (bx m qs),.d x,.d (aV k d),.d y]) [] 5 []:=by
 refine WR.call Fb rfl ?_;unfold Bp;refine Y ?_;refine W.c1 (cw h) λ_=>?_;refine Y ?_;refine W.c1 (cw h') λ_=>?_;refine Y ?_;refine W.c1 (Mw rfl (Mq hr)) λ_=>?_;refine tL ?_;refine Y ?_;refine W.c0 (Xx h h' hx pW) ?_;rw[hm];refine W.bool (W.bool (WS.tK (tL ?_)));refine Y ?_;exact⟨⟨_,_,_,rfl⟩,⟨_,_,_,rfl⟩,_,rfl⟩
theorem zlc{k':Nat}(h:Web n ps)(h':Web m qs)(hr:1<=d/\d<=k/\k<=24)(hx:eU x=true)(pW:∀xs,x=.tup xs->xs.length<=200)(hm:iw n m ps qs x=true)(hy:eU y=true)(hyl:∀xs,y=.tup xs->xs.length<=200)(hu:rQ m k d qs y=false):WR (call ao T (k'+9) true 19 [.d (bx n ps),.d (bx m qs),.d x,.d (aV k d),.d y]) [] 2 []:=by
 refine WR.call Fb rfl ?_;unfold Bp;refine Y ?_;refine W.c1 (cw h) λ_=>?_;refine Y ?_;refine W.c1 (cw h') λ_=>?_;refine Y ?_;refine W.c1 (Mw rfl (Mq hr)) λ_=>?_;refine Y ?_;refine W.c0 (Xx h h' hx pW) ?_;rw[hm];refine W.bool (W.bool (WS.DY (WS.nil ?_)));dsimp only;refine tL (O7 ?_ λs'=>⟨⟨_,_,_,rfl⟩,_,rfl⟩);refine GP ?_;refine Y ?_;exact WR.cB rfl (zkj h' hr hy hyl hu)
theorem zmB{k':Nat}(h:Web n ps)(h':Web m qs)(hr:1<=d/\d<=k/\k<=24)(hl:(hs.length:Int)=n)(jB:∀x∈hs,0<=x/\x<m)(hm:iw n m ps qs (.tup (hs.map .int))=true)(hh:tM m k d qs us):W (call ao T (k'+10) true 39 [.d (bx n ps),.d (bx m qs),.d (.tup (hs.map .int)),.d (aV k d),.d (.tup (us.map .int))]) [] λv s=>v=.d (.tup [.str "told",.tup ((hs.map λj=>at' us j).map .int)]):=by
 refine W.call WM rfl ?_;unfold PL;refine WS.cons (Kbo ?_);refine Y ?_;refine W.c0 (znw h h' hr hl jB hm hh) ?_;refine Y ?_;exact⟨⟨_,rfl⟩,rfl⟩
theorem MJ{k' c:Nat}{fs:List D}{t:Str}(h:WR (call ao T (k'+9) true 19 [.d w,.d o,.d x,.d r,.d y]) [] c fs)(hc:ao c 0=true)(hk:W (call ao T (k'+9) false 25 [.d (.exc c fs)]) [] λv s=>v=.d (.str t)):W (call ao T (k'+10) true 39 [.d w,.d o,.d x,.d r,.d y]) [] λv s=>v=.d (.tup [.str t,.non]):=by
 refine W.call WM rfl ?_;unfold PL;refine WS.cons (Kbp ?_);refine tL (Kbb (c:=c) (fs:=fs) ?_ λs'=>⟨⟨_,_,_,rfl⟩,_,_,_,rfl,hc,?_⟩)
 ·refine Us ?_;refine GP ?_;refine Y ?_;refine Us ?_;refine Us ?_;refine GP ?_;refine Y ?_;exact WR.cB rfl h
 ·refine Y ?_;refine W.c0 hk ?_;refine Y ?_;exact⟨⟨_,rfl⟩,rfl⟩
theorem znb{k':Nat}(hw:pU w)(ho:pU o)(hx:eU x=true)(pW:∀xs,x=.tup xs->xs.length<=200)(hr:eU r=true)(hy:eU y=true)(hyl:∀xs,y=.tup xs->xs.length<=200):W (call ao T (k'+10) true 40 [.d w,.d o,.d x,.d r,.d y]) [] λv s=>(jH w=false/\v=.d (.str "web"))\/(jH w=true/\jH o=false/\v=.d (.str "web"))\/(jH w=true/\jH o=true/\rP r=false/\v=.d (.str "ring"))\/∃(n m k d:Int) (ps qs:List (Int×Int)),w=bx n ps/\o=bx m qs/\r=aV k d/\Web n ps/\Web m qs/\(1<=d/\d<=k/\k<=24)/\((iw n m ps qs x=false/\v=.d (.str "map"))\/(iw n m ps qs x=true/\rQ m k d qs y=false/\v=.d (.str "hues"))\/(iw n m ps qs x=true/\rQ m k d qs y=true/\v=.d (.str "told"))):=by
 refine W.call zoA rfl ?_;unfold Wv;refine Y ?_;refine W.c0 (zeQ hw.1 hw.2) ?_;cases hb:jH w
 ·refine Y ?_;exact .inl ⟨rfl,rfl⟩
 refine Y ?_;refine W.c0 (zeQ ho.1 ho.2) ?_;cases nZ:jH o
 ·refine Y ?_;exact .inr (.inl ⟨rfl,rfl,rfl⟩)
 refine Y ?_;refine W.c0 (zgU hr) ?_;cases hg:rP r
 ·refine Y ?_;exact .inr (.inr (.inl ⟨rfl,rfl,rfl,rfl⟩))
 obtain⟨n,ps,rfl,h⟩:=ziW hb;obtain⟨m,qs,rfl,h'⟩:=ziW nZ;obtain⟨k,d,rfl,Fi⟩:=zj0 hg;refine Y ?_;refine W.c0 (zkV h h' hx pW) ?_;cases hm:iw n m ps qs x
 ·refine Y ?_;exact .inr (.inr (.inr ⟨n,m,k,d,ps,qs,rfl,rfl,rfl,h,h',Fi,.inl ⟨hm,rfl⟩⟩))
 refine Y ?_;refine W.c0 (zcu h' hy hyl) ?_;cases hu:rQ m k d qs y
 ·refine Y ?_;exact .inr (.inr (.inr ⟨n,m,k,d,ps,qs,rfl,rfl,rfl,h,h',Fi,.inr (.inl ⟨hm,hu,rfl⟩)⟩))
 ·refine Y ?_;exact .inr (.inr (.inr ⟨n,m,k,d,ps,qs,rfl,rfl,rfl,h,h',Fi,.inr (.inr ⟨hm,hu,rfl⟩)⟩))
theorem zK{k':Nat}(hw:pU w)(ho:pU o)(hx:nR x)(hr:eU r=true)(hy:nR y):W (call ao T (k'+11) true 41 [.d w,.d o,.d x,.d r,.d y]) [] λv s=>v=.d (.bl true):=by
 have Fe:(1000:Nat)<=sizeLine:=by decide
 have pW:∀xs,x=.tup xs->xs.length<=200:=λxs e=>by have:=hx.2 xs e;lia
 have hyl:∀xs,y=.tup xs->xs.length<=200:=λxs e=>by have:=hy.2 xs e;lia
 obtain⟨v,s',ev,hv⟩:=znb (k':=k') hw ho hx.1 pW hr hy.1 hyl;refine W.call zoo rfl ?_;unfold Ww;have hd:∀{u:D},v=.d u->W (call ao T (k'+10) true 40 [.d w,.d o,.d x,.d r,.d y]) [] λv s=>v=.d u:=λz=>⟨v,s',ev,z⟩;rcases hv with ⟨hb,e⟩|⟨hb,nZ,e⟩|⟨hb,nZ,hg,e⟩|⟨n,m,k,d,ps,qs,rfl,rfl,rfl,h,h',Fi,⟨hm,e⟩|⟨hm,hu,e⟩|⟨hm,hu,e⟩⟩
 ·refine Y ?_;refine W.c0 (MJ (zk7 hw hb) rfl zfZ) ?_;refine Y ?_;refine W.c0 (hd e) ?_;exact Y trivial
 ·refine Y ?_;refine W.c0 (MJ (zma hw hb ho nZ) rfl zfZ) ?_;refine Y ?_;refine W.c0 (hd e) ?_;exact Y trivial
 ·refine Y ?_;refine W.c0 (MJ (zlC hw hb ho nZ hr hg) rfl zjE) ?_;refine Y ?_;refine W.c0 (hd e) ?_;exact Y trivial
 ·refine Y ?_;refine W.c0 (MJ (zlu h h' Fi hx.1 pW hm) rfl zjK) ?_;refine Y ?_;refine W.c0 (hd e) ?_;exact Y trivial
 ·refine Y ?_;refine W.c0 (MJ (zlc h h' Fi hx.1 pW hm hy.1 hyl hu) rfl zjl) ?_;refine Y ?_;refine W.c0 (hd e) ?_;exact Y trivial
 have hd:=hd e;obtain⟨hs,rfl,hl,jB,hmm⟩:=zmL hm;obtain⟨us,rfl,hh⟩:=zjz hu;have V6:=hh.len;have h8:=h.h8;have h8':=h'.h8;have hm2:=Mi.wD h hl jB hmm hh;have tw:W (call ao T (k'+10) true 39 [.d (bx n ps),.d (bx m qs),.d (.tup (hs.map .int)),.d (aV k d),.d (.tup (us.map .int))]) [] λv s=>v=.d (.tup [.str "told",.tup ((hs.map λj=>at' us j).map .int)]):=zmB h h' Fi hl jB hm hh;refine Y ?_;refine W.c0 tw ?_;refine Y ?_;refine W.c0 hd ?_;refine Y ?_;refine nJ (l:=hs) (f:=D.int) (λj=>some (.int (at' us j))) (by lia) ?_ (λj hj=>?_) ?_
 ·refine Y ?_;exact⟨rfl,rfl⟩
 ·have:=jB j hj;refine Y ?_;refine⟨rfl,λ_=>?_,λhb=>by cases hb⟩;refine Y ?_;refine bQ (wg (by lia) (by lia)) ?_;exact⟨rfl,_,rfl,rfl⟩
 rw[wj,show hs.map (λj=>D.int (at' us j))=(hs.map λj=>at' us j).map .int by rw[lK];rfl];have hml:=hm2.len;have hok:=zJ (is:=hs.map λj=>at' us j) (by lia);generalize (hs.map λj=>at' us j)=vs at hm2 tw hok hml;refine Y ?_;refine bQ (d:=.bl false) ?_ ?_
 ·show Option.map _ (fj (dD 49) (vs.map .int) (vs.map .int))=_;rw[zf4];rfl
 refine Y ?_;refine W.c0 (zcu h hok.1 (λxs e=>by have:=hok.2 xs e;lia)) ?_;rw[zgh hm2];refine Y ?_;refine W.c0 tw ?_;refine Y ?_;refine bQ (d:=.bl true) ?_ ?_
 ·have e2:dD 49 (.tup (vs.map .int)) (.tup (vs.map .int))=some true:=zf4 _;have e3:dD 49 (.str "told") (.str "told")=some true:=rfl;show Option.map _ (fj (dD 49) [.str "told",.tup (vs.map .int)] [.str "told",.tup (vs.map .int)])=_;simp only[fj,e2,e3];rfl
 rfl
end
structure TL(i:Nat)(l:List (Int×Int)):Prop where
 tie:∀p∈l,0<=p.1/\p.1<p.2/\p.2<(i:Int)
 nd:l.Nodup
 len:l.length<=8*i
theorem TL.more{i:Nat}{l:List (Int×Int)}(h:TL i l)(hi:i<=7)(q:Nat->Bool):TL (i+1) (l++((List.range i).filter q).map λj=>((0:Int)+(j:Nat),(0:Int)+(i:Nat))):=by
 refine⟨λp hp=>?_,?_,?_⟩
 ·rcases fO.mp hp with hp|hp
  ·have:=h.tie p hp;lia
  ·obtain⟨j,hj,rfl⟩:=fX.mp hp;have:=tZ.mp (xU.mp hj).1;dsimp only
   lia
 ·rw[Hv];refine⟨h.nd,?_,λa ha b hb e=>?_⟩
  ·unfold List.Nodup;rw[uJ];exact((List.nodup_range (n:=i)).filter q).imp λ{i j} lN e=>lN (by simp only[Prod.mk.injEq] at e;lia)
  ·obtain⟨j,hj,rfl⟩:=fX.mp hb;have:=h.tie a ha;rw[e] at this;dsimp only at this
   lia
 ·have:=h.len;have h2:((List.range i).filter q).length<=i:=by have:=Qu q (List.range i);rw[FJ] at this;exact this
  rw[cY,bN]
  lia
theorem TL.web{i:Nat}{l:List (Int×Int)}(h:TL i l)(h1:1<=i)(hi:i<=7):∃qs,yL (l.map bI)=some (qs.map bI)/\Web i qs:=by
 have:=h.len;obtain⟨qs,e,e1,e2,e3⟩:=zjL (by lia) h.nd;have ht:∀p∈qs,0<=p.1/\p.1<p.2/\p.2<(i:Int):=λp hp=>h.tie p ((e2 p).mp hp);exact⟨qs,e,by lia,by lia,ht,e1,ziZ (by lia) (by lia) ht e1⟩
theorem wG(ns:List Int)(hn:ns.length<=63):∃s',call ao T 60 true 42 [.d (.fl (ns.map D.int))] []=some (.ok (.d (.bl true)),s'):=by
 suffices h:W (call ao T 60 true 42 [.d (.fl (ns.map D.int))]) [] λv _=>v=.d (.bl true) by
  obtain⟨v,s',e,rfl⟩:=h;exact⟨s',e⟩
 have hs:(1000:Nat)<=sizeLine:=by decide
 refine W.call (k:=59) zoJ rfl ?_;unfold Wx;have w2:Web 2 [(0,1)]:=⟨by lia,by lia,by simp,by simp,by simp⟩;have w3:Web 3 [(0,1),(1,2)]:=⟨by lia,by lia,by simp,by simp[lx],by simp⟩;refine Y ?_;refine W.c0 (zK (k':=48) (nQ w3) (nQ w2) (zJ (is:=[0,1,0]) (by decide)) rfl (zJ (is:=[1,0]) (by decide))) ?_;refine Y ?_;refine W.c0 (zK (k':=48) (nQ w2) (nQ w3) (zJ (is:=[0,2]) (by decide)) rfl (zJ (is:=[0,1,0]) (by decide))) ?_;refine Y ?_;refine W.cB rfl ((zmg (k:=58)).imp λv _=>?_);rintro⟨n0,rfl⟩;refine⟨_,rfl,?_⟩;refine Y ?_;refine zE (O5 ?_) ?_
 ·have:=zji (ns:=ns) (lo:=some 1) (hi:=some 4);show 1+_<=_
  lia
 refine Y ?_;refine K7 (λ_ J s=>∃(a b c d e f g h i j k l m:Option Xv),J=[some (.d (.fl (ns.map D.int))),a,b,c,d,e,f,g,h,i,j,k,l,m]) ⟨_,_,_,_,_,_,_,_,_,_,_,_,_,rfl⟩ (λi x J s hx Fj=>?_) (λJ s Fj=>?_)
 ·obtain⟨m,rfl⟩ : ∃m,x=.int m:=by
   rcases fO.mp (jd hx) with z|z
   ·rcases dh.mp z with rfl|z
    ·exact⟨_,rfl⟩
    ·cases z
   ·exact zky z
  obtain⟨a,b,c,d,e,f,g,h,i',j',k',l',m',rfl⟩:=Fj;refine Y ?_;refine Kak rfl ((znz (k:=58)).imp λv s1=>?_);rintro⟨j0,o,rfl,hj,hp⟩;refine⟨j0,o,rfl,hj,?_⟩;refine Y ?_;refine Xr hp (by decide) (by decide) λr0 o1 hr0 hp=>?_;refine Y ?_;refine zF rfl ((zh0 (k:=57) hp (n:=1+(r0:Int)) (by lia) (by lia)).imp λv s1=>?_);rintro⟨qs,o2,rfl,rfl,hq,hp⟩;refine⟨_,_,rfl,rfl,?_⟩;obtain⟨z,ez,hz⟩ : ∃z:Int,1+(r0:Int)=z/\1<=z/\z<=5:=⟨_,rfl,by lia,by lia⟩;rw[ez] at hq ⊢;clear ez;refine Y ?_;refine zF rfl ((zj2 (k':=57) hp).imp λv s1=>?_);rintro⟨kk,dd,o3,rfl,rfl,hr,hp⟩;refine⟨_,_,rfl,rfl,?_⟩;refine Kah (Um (Um (Kar (W.dat (pQ.mk rfl ?_)))));refine Y ?_;refine Kao (λc j acc s'=>∃(zs:List Int) (o':SO),(c.length<=5/\1<=c.length)/\acc=zs.map .int/\zs.length=j/\(∀x∈zs,0<=x/\x<z)/\s'=s++[o']/\lR o') ?_ (λcc j x acc s' e hJ=>?_) (λcc acc s' hJ=>?_)
  ·refine Y ?_;refine Xr hp (by decide) (by decide) λr1 o4 hr1 hp=>?_;refine Y ?_;refine⟨by rw[rJ (by lia) (by lia),rJ (by lia) (by lia)];rfl,?_⟩;exact⟨_,rfl,[],o4,⟨by rw[Le];lia,by rw[Le];lia⟩,rfl,rfl,by simp,rfl,hp⟩
  ·obtain⟨zs,o',hc,rfl,Xy,hzr,rfl,hp⟩:=hJ;have hjc:=(jy.mp e).1;refine Y ?_;refine Xr hp (by lia) (by lia) λr o2 hr hp=>?_;refine Y ?_;refine⟨_,rfl,by rw[bN];lia,zs++[(r:Int)],o2,hc,by rw[jW];rfl,by simp[Xy],?_,rfl,hp⟩;intro x hx;rcases fO.mp hx with hx|hx
   ·exact hzr x hx
   ·simp at hx;lia
  obtain⟨row,o5,hc,rfl,Xy,hzr,rfl,hp⟩:=hJ;have hrl:1<=row.length/\row.length<=5:=by lia
  clear hc Xy;refine Y ?_;rw[bN];refine⟨by rw[rJ (by lia) (by lia),rJ (by lia) (by lia)];rfl,?_⟩;refine K7 (λ(i:Nat) J s'=>s'=s++[o5]/\∃(l:List (Int×Int)) (q1 q2:Option Xv),TL i l/\J=[some (.d (.fl (ns.map D.int))),a,b,some (.d (.int m)),some (.l s.length),some (.d (bx z qs)),some (.d (aV kk dd)),some (.d (.tup (row.map .int))),some (.d (.fl (l.map bI))),q1,q2,k',l',m']) ⟨rfl,[],_,_,⟨by simp,by simp,by simp⟩,rfl⟩ (λi x J s' e hI=>?_) (λJ s' hI=>?_)
  ·obtain⟨rfl,l,q1,q2,hl,rfl⟩:=hI;obtain⟨rfl,hi⟩:=Uv e;have oM:i<row.length:=by lia
   have hll:=hl.len;refine Y ?_;refine nJ (l:=row.take i) (f:=D.int) (λh=>some (bI (jJ h (at' row (0+(i:Int)))))) (by rw[xT];lia) ?_ (λh hh=>?_) ?_
   ·refine Y ?_;rw[show (0:Int)+(i:Int)=(i:Int) by lia,Lf (by rw[bN];lia),<-List.map_take];exact⟨rfl,rfl⟩
   ·refine Y ?_;refine⟨rfl,λ_=>?_,λhb=>by cases hb⟩;refine Y ?_;refine bQ (wg (by lia) (by lia)) ?_;refine Y ?_;refine zE zgH ?_;refine Y ?_;exact⟨rfl,_,rfl,rfl⟩
   rw[wj];refine Y ?_;refine nJ (l:=List.range ((0+(i:Int))-0).toNat) (f:=λ(j:Nat)=>.int (0+(j:Int))) (λ(j:Nat)=>if jJ (at' row (j:Int)) (at' row (0+(i:Int)))∈qs then some (bI (0+(j:Int),0+(i:Int))) else none) (by rw[FJ];lia) ?_ (λj hj=>?_) ?_
   ·refine Y ?_;refine⟨by rw[rJ (by lia) (by lia),rJ (by lia) (by lia)];rfl,?_⟩;exact⟨rfl,rfl⟩
   ·have hj:=tZ.mp hj;refine Y ?_;refine bQ (Ux (x:=bI (jJ (at' row (j:Int)) (at' row (0+(i:Int))))) (by lia) ?_) ?_
    ·rw[show ((0:Int)+(j:Int)).toNat=j by lia,i_,List.getElem?_take_of_lt (by lia),fL (by lia)];have:at' row (j:Int)=row[j]:=by
      unfold at';simp[show j<row.length by lia]
     rw[this];rfl
    refine Y ?_;refine bQ (GQ (f:=id) (p:=jJ (at' row (j:Int)) (at' row (0+(i:Int))))) ?_;refine Y ?_;refine⟨rfl,λhb=>?_,λhb=>?_⟩
    ·refine Y ?_;exact⟨rfl,_,rfl,by rw[if_pos (gb hb)];rfl⟩
    ·rw[if_neg (Hu hb)]
   rw[zn5 (f:=λ(j:Nat)=>bI (0+(j:Int),0+(i:Int))) (q:=λ(j:Nat)=>jJ (at' row (j:Int)) (at' row (0+(i:Int)))∈qs),show ((0+(i:Int))-0).toNat=i by lia];have h2:=hl.more (by lia) λ(j:Nat)=>decide (jJ (at' row (j:Int)) (at' row (0+(i:Int)))∈qs);have h2l:=h2.len;rw[cY,bN] at h2l;refine Y ?_;refine zE (O5 ?_) ?_
   ·rw[bN,bN];lia
   rw[show l.map bI++((List.range i).filter λ(j:Nat)=>decide (jJ (at' row (j:Int)) (at' row (0+(i:Int)))∈qs)).map (λ(j:Nat)=>bI (0+(j:Int),0+(i:Int)))=(l++((List.range i).filter λ(j:Nat)=>decide (jJ (at' row (j:Int)) (at' row (0+(i:Int)))∈qs)).map λj=>((0:Int)+(j:Nat),(0:Int)+(i:Nat))).map bI by rw[jW,lK];rfl];refine Y ?_;exact⟨_,rfl,rfl,_,_,_,h2,rfl⟩
  obtain⟨rfl,l,q1,q2,hl,rfl⟩:=hI;rw[Le,show ((row.length:Int)-0).toNat=row.length by lia] at hl;obtain⟨ps,es,hw⟩:=hl.web hrl.1 (by lia);have MK:nR (.tup (row.map .int)):=zJ (by lia);refine Y ?_;refine zE (zg7 es) ?_;refine Y ?_;rw[bN];rw[show D.tup [.int (row.length:Int),.tup (ps.map bI)]=bx row.length ps from rfl];refine W.Dj ?_;refine Y ?_;refine W.cB rfl ((zkG (k':=57) hq (by lia) (VR (by lia) (by lia) (by lia) (by lia) (by lia)) (by lia)).imp λv s1 hv=>?_)
  suffices key:∀us:List Int,us.length=z->WS (exs ao true (λc=>call ao T 59 c) _ [some (.d (.fl (ns.map D.int))),a,b,some (.d (.int m)),some (.l s.length),some (.d (bx z qs)),some (.d (aV kk dd)),some (.d (.tup (row.map .int))),some (.d (.fl (l.map bI))),q1,q2,some (.d (bx row.length ps)),some (.d (.tup (us.map .int))),m']) (s++[o5]) _ by
   rcases hv with rfl|⟨fs,rfl,hfl⟩
   ·refine⟨_,rfl,?_⟩;refine Ul (pQ.mk (a:=false) rfl ?_);rw[if_neg (by decide)];refine Y ?_;refine bQ (zkZ (by lia)) ?_;exact key (List.replicate z.toNat 0) (by rw[Hj];lia)
   ·refine⟨_,rfl,?_⟩;cases fs with
    |nil=>simp at hfl;lia
    |cons f0 fr=>
     refine Ul (pQ.mk (a:=true) rfl ?_);rw[if_pos rfl];refine W.ret ?_;exact key (f0::fr) (by lia)
  clear hv;intro us V6;have MN:nR (.tup (us.map .int)):=zJ (by lia);refine Y ?_;refine W.c0 (zK (k':=48) (nQ hw) (nQ hq) MK rfl MN) ?_;refine Y ?_;refine zF rfl ((zds (k':=57) hp hw).imp λv s1=>?_);rintro⟨bw,o6,rfl,rfl,hbw,hp⟩;refine⟨_,_,rfl,rfl,?_⟩;refine Y ?_;refine W.c0 (zK (k':=48) hbw (nQ hq) MK rfl MN) ?_;refine Y ?_;refine zF rfl ((zds (k':=57) hp hq).imp λv s1=>?_);rintro⟨bq,o7,rfl,rfl,hbq,hp⟩;refine⟨_,_,rfl,rfl,?_⟩;refine Y ?_;refine W.c0 (zK (k':=48) (nQ hw) hbq MK rfl MN) ?_;refine Y ?_;refine zF rfl ((zd1 (k':=57) hp (row:=row) (kk:=z) (by lia) (by lia) (by lia)).imp λv s1=>?_);rintro⟨b1,o8,rfl,rfl,G3,hp⟩;refine⟨_,_,rfl,rfl,?_⟩;refine Y ?_;refine zF rfl ((zn7 (k:=57) hp).imp λv s1=>?_);rintro⟨od,o9,rfl,rfl,hod,hp⟩;refine⟨_,_,rfl,rfl,?_⟩;refine Y ?_;refine K7 (λi J s'=>∃(t:Option Xv),s'=s++[o9]/\J=[some (.d (.fl (ns.map D.int))),a,b,some (.d (.int m)),some (.l s.length),some (.d (bx z qs)),some (.d (aV kk dd)),some (.d (.tup (row.map .int))),some (.d (.fl (l.map bI))),q1,q2,some (.d (bx row.length ps)),some (.d (.tup (us.map .int))),t]) ⟨_,rfl,rfl⟩ (λi x J s' e hI=>?_) (λJ s' hI=>?_)
  ·obtain⟨t,rfl,rfl⟩:=hI;have hok:nR x:=by
    have:=jd e;simp only[dh,oh,nY] at this;rcases this with rfl|rfl
    ·exact G3
    ·exact zmv hod
   refine Y ?_;refine W.c0 (zK (k':=48) (nQ hw) (nQ hq) hok rfl MN) ?_;refine Y ?_;refine W.c0 (zK (k':=48) (nQ hw) (nQ hq) hok rfl ⟨rfl,λxs e=>by cases e⟩) ?_;refine Y ?_;exact⟨_,rfl,_,rfl,rfl⟩
  obtain⟨t,rfl,rfl⟩:=hI;refine Y ?_;refine zF rfl ((zfs (k':=57) hp).imp λv s1=>?_);rintro⟨br,o10,rfl,rfl,hbr,hp⟩;refine⟨_,_,rfl,rfl,?_⟩;refine Y ?_;refine W.c0 (zK (k':=48) (nQ hw) (nQ hq) MK hbr MN) ?_;refine Y ?_;refine zF rfl ((zd1 (k':=57) hp (row:=us) (kk:=kk) (by lia) (by lia) (by lia)).imp λv s1=>?_);rintro⟨b2,o11,rfl,rfl,nZ,hp⟩;refine⟨_,_,rfl,rfl,?_⟩;refine Y ?_;refine W.c0 (zK (k':=48) (nQ hw) (nQ hq) MK rfl nZ) ?_;refine Y ?_;exact⟨_,rfl,_,_,_,_,_,_,_,_,_,_,_,_,_,rfl⟩
 ·obtain⟨a,b,c,d,e,f,g,h,i',j',k',l',m',rfl⟩:=Fj;exact Y trivial
end gw
open PySem PySem.W PyProof.Rows
set_option maxRecDepth 100000 in
set_option maxHeartbeats 0 in
theorem PySem.Challenge.cw_ringhues_k68_hues_led_by_maps_holds : PySem.Challenge.rw_ringhues_k68_hues_led_by_maps.Holds := by
 refine PySem.W.holds_law gw.ws λsaid=>?_;refine holds_open (q:=gw.qv) (loose:=gw.loose) (Xt:=λs=>xlAt gw.qv [] s&&recOk [] s) (XP:=XL gw.qv []) (Yf:=(Mi.mH gw.fs gw.ms gw.xs gw.lk).obs) (Ya:=(Mi.mH gw.fs gw.ms gw.xs gw.lk).val) (YP:=(Mi.mH gw.fs gw.ms gw.xs gw.lk).says) (N:=20000) gw.left (Mi.mH gw.fs gw.ms gw.xs gw.lk).of (Mi.mH gw.fs gw.ms gw.xs gw.lk).keeps (λs e=>xl_of s (Bool.and_eq_true_iff.mp e).1) XL.keeps (by rfl) (by rfl) (by rfl) (λs e=>recFacts_of (Bool.and_eq_true_iff.mp e).2) (by rfl) (by first|assumption|decide +kernel) (by decide +kernel) ⟨rfl,rfl,rfl,rfl,rfl,by decide +kernel⟩ ?hw ?hc
 case hw=>w_witness2
 case hc=>exact Mi.K6 (l:=PySem.Challenge.rw_ringhues_k68_hues_led_by_maps) (x:="_law_script") (k:=60) rfl rfl ⟨by decide,by decide,rfl⟩ (λw K mg fa h S X G Xp=>gw.all_mk gw.wG S X G Xp)
