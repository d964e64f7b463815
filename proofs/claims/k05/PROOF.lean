import PyProof.Rows.All
import Wide.All
import OpenK.AllK
import Wide.FinOn
import Lean
import PyProof.EqAt
import PyProof.EqKinds
import PyProof.TupleCall
import KE.KSortTup
import OpenK.KMake
import PyProof.ExcClass3
import PyProof.InstStoreFacts
import PyProof.ExcInit
import PyProof.EnumMake
import PyProof.EnumFor
import PyProof.WalksEnum
import PySem.Challenge.RW_ringhues_k05_hues_turned_and_mirrored
import PyProof.ZipIter
import PyProof.TupleIter
import PyProof.NeKinds
import PyProof.ListRange
import PyProof.SetRoads
import PyProof.TupleKey
import PyProof.Rows.SetFrom
import PyProof.WalksMore
import PyProof.FactsAll.subtypes_4
import PyProof.CollectWalk
import PyProof.ListMulAny
import PyProof.ListMulRoad
import OpenK.KWalk
set_option compiler.extract_closed false
abbrev au:=@PySem.wpAny_bind
abbrev bZ:=@PySem.Heap.get?_push_of_some
abbrev aJ:=@PySem.wpAny_pure
abbrev bJ:=@List.length_map
abbrev fD:=@List.getElem?_eq_getElem
abbrev cX:=@List.length_append
abbrev cI:=@Bool.and_eq_true
abbrev eN:=@List.mem_cons_of_mem
abbrev dD:=@List.size_toArray
abbrev bM:=@PySem.Heap.lt_size
abbrev cZ:=@decide_eq_false
abbrev dw:=@Option.some.inj
abbrev eZ:=@List.mem_cons_self
abbrev jo:=@List.getElem?_eq_some_iff
abbrev cT:=@decide_eq_true
abbrev cM:=@List.mem_cons
abbrev kj:=@List.getD_eq_getElem?_getD
abbrev gU:=@List.mem_of_getElem?
abbrev cg:=@Nat.le_refl
abbrev gH:=@Nat.lt_of_lt_of_le
abbrev gW:=@PySem.Heap.get?_push_size
abbrev gj:=@of_decide_eq_true
abbrev gb:=@List.all_eq_true
abbrev dh:=@Nat.ne_of_lt
abbrev fG:=@List.mem_append
abbrev gY:=@List.length_cons
abbrev jq:=@Bool.false_eq_true
abbrev nM:=@List.getElem?_append_right
abbrev je:=@List.getElem?_map
abbrev fj:=@List.mem_map
abbrev mQ:=@Option.map_eq_some_iff
abbrev pq:=@List.getElem?_append_left
abbrev pA:=@List.getElem?_eq_none_iff
abbrev jK:=@List.map_append
abbrev nW:=@List.mem_append_right
abbrev qP:=@List.pairwise_iff_getElem
abbrev u_:=@PyProof.Rows.slot_tuple_getitem
abbrev jA:=@List.map_cons
abbrev pB:=@List.mem_append_left
abbrev mJ:=@List.lookup_cons
abbrev mK:=@List.not_mem_nil
abbrev nO:=@PySem.wpAny_newObj_type
abbrev kE:=@PySem.wpAny_holding
abbrev jB:=@List.map_map
abbrev kW:=@List.all_cons
abbrev qQ:=@List.getElem?_set_ne
abbrev rG:=@PySem.Heap.get?_update_self
abbrev pC:=@PySem.wpAny_truthy_bool
abbrev nY:=@List.getElem_mem
abbrev uD:=@PySem.Heap.get?_update_other
abbrev jf:=@beq_iff_eq
abbrev qj:=@Nat.lt_succ_of_lt
abbrev mL:=@Nat.lt_irrefl
abbrev nZ:=@List.length_set
abbrev kI:=@PySem.wpAny_field
abbrev rH:=@List.mem_map_of_mem
abbrev jr:=@PySem.wpAny_mono
abbrev yH:=@List.nodup_iff_pairwise_ne
abbrev wN:=@PySem.wpAny_callSpecial?_slot
abbrev wO:=@Option.bind_eq_some_iff
abbrev ql:=@List.length_nil
abbrev qm:=@List.nodup_cons
abbrev qR:=@PySem.wpAny_call_entry
abbrev rJ:=@List.pairwise_map
abbrev wQ:=@List.getElem?_set_self
abbrev rK:=@decide_eq_decide
abbrev wR:=@List.mem_iff_getElem
abbrev n8:=@Nat.le_trans
abbrev vd:=@PySem.Obj.data_mapFields
abbrev qT:=@PySem.Heap.size_push
abbrev jg:=@if_false
abbrev wU:=@List.filterMap_cons
abbrev vf:=@Int.toNat_natCast
abbrev vg:=@PySem.wpAny_setState_of
abbrev CJ:=@PyProof.Rows.callWith_type1
abbrev n_:=@Nat.zero_le
abbrev CK:=@Array.getElem?_eq_some_iff
abbrev CP:=@PySem.F.excBase_ValueError
abbrev pD:=@PySem.sizeLine_eq
abbrev yI:=@PySem.Heap.SameBut.update
abbrev uE:=@List.mem_range
abbrev rM:=@PySem.wpAny_standAt
abbrev uF:=@PySem.wpAny_seqItems
abbrev CQ:=@Array.getElem?_eq_getElem
abbrev yJ:=@List.pairwise_cons
abbrev wV:=@List.length_take
abbrev wW:=@beq_self_eq_true
abbrev A_:=@PySem.Heap.get?_none_of_le
abbrev CT:=@Int.eq_ofNat_of_zero_le
abbrev KD:=@PyProof.Rows.F.plain_set_update_loop
abbrev yK:=@PySem.wpAny_loadPart_at
abbrev wX:=@List.mem_filter
abbrev Ba:=@Array.length_toList
abbrev Bb:=@PySem.mem_of_lookup
abbrev Bc:=@List.getElem_of_mem
abbrev Bd:=@List.map_congr_left
abbrev lJ:=@or_false
abbrev Hw:=@PySem.F.slot_tuple_iterator_next
abbrev uG:=@Nat.ne_of_gt
abbrev Bf:=@PySem.wpAny_setField_rec
abbrev CV:=@List.getElem?_toArray
abbrev vh:=@Bool.not_true
abbrev wY:=@PySem.wpAny_setField
abbrev CW:=@PySem.wpAny_loadName_local
abbrev CZ:=@List.pairwise_append
abbrev Bg:=@PySem.Value.isInt_shape
abbrev yL:=@PySem.wpAny_passesOwn
abbrev Bh:=@bne_self_eq_false
abbrev Bj:=@List.append_assoc
abbrev Bk:=@decide_eq_true_eq
abbrev Hx:=@List.getElem?_replicate
abbrev Hy:=@PySem.F.plainAttrs_list
abbrev Hz:=@decide_eq_false_iff_not
abbrev C_:=@PySem.wpAny_Call_Name_kw
abbrev Dg:=@List.zip_cons_cons
abbrev wZ:=@Nat.le_of_lt
abbrev Bl:=@List.append_nil
abbrev HB:=@List.length_replicate
abbrev xg:=@PySem.wpAny_typeOf
abbrev HD:=@Array.getElem?_toList
abbrev HF:=@PySem.Obj.isFreed_of_fields
abbrev HJ:=@List.getElem?_eq_none
abbrev Bm:=@PySem.codeAny_builtin
abbrev xq:=@PySem.F.called_set
abbrev Bo:=@List.nodup_nil
abbrev RV:=@PyProof.Rows.F.entry_set_update_loop
abbrev qp:=@congrArg
abbrev Dh:=@List.length_drop
abbrev Di:=@Nat.le_of_not_lt
abbrev HN:=@PySem.wpAny_isSubtype_exc
abbrev HS:=@PySem.Heap.get?_update_ne
abbrev KH:=@Option.isSome_iff_exists
abbrev KJ:=@PySem.F.args_tuple_add_2
abbrev Dj:=@PySem.wpAny_execs_nil
abbrev HW:=@Bool.false_ne_true
abbrev KN:=@PySem.F.entry_tuple_add
abbrev Dk:=@List.forIn_cons
abbrev HX:=@PySem.Code.quiet_builtin
abbrev Dl:=@Int.emod_nonneg
abbrev HY:=@Int.emod_lt_of_pos
abbrev H_:=@of_decide_eq_false
abbrev KQ:=@PySem.W.cellsFrom_some
abbrev KR:=@PySem.F.slot_tuple_add
abbrev KY:=@List.range_succ_eq_map
abbrev Ia:=@Bool.not_eq_true'
abbrev Ib:=@PySem.Heap.get?_push_ne
abbrev Ie:=@List.reverse_cons
abbrev Ig:=@List.nodup_append
abbrev Ih:=@List.length_range
abbrev KZ:=@Nat.le_of_ble_eq_true
abbrev Bp:=@List.all_map
abbrev Bq:=@Nat.lt_or_ge
abbrev K1:=@List.take_append_drop
abbrev Ii:=@PySem.wpAny_forIn_list
abbrev Ij:=@Nat.lt_succ_self
abbrev Ik:=@List.take_length
abbrev Il:=@List.filter_cons
abbrev K3:=@PySem.Calls.evalArgs_plain
abbrev K4:=@PySem.codeAny_call_builtin
abbrev K5:=@PySem.wpAny_updateSeq_pair
abbrev K6:=@PySem.Around.under_plainId
abbrev Dm:=@PySem.wpAny_attempt
abbrev yM:=@PySem.wpAny_Name
abbrev yN:=@PySem.wpAny_call
abbrev Im:=@List.of_mem_zip
abbrev Br:=@PySem.wpAny_of_eq
abbrev Io:=@PySem.F.slot_zip_next
abbrev K7:=@Nat.mul_le_mul_left
abbrev K8:=@List.mem_filterMap
abbrev Dp:=@PySem.codeAny_mono
abbrev K9:=@List.contains_cons
abbrev K_:=@List.mem_singleton
abbrev Ip:=@Bool.false_and
abbrev Ir:=@Bool.and_false
abbrev Iu:=@List.forIn_nil
abbrev Bs:=@PySem.wpAny_rule
abbrev Ld:=@List.getElem?_inj
abbrev Le:=@Nat.lt_trichotomy
abbrev Dq:=@Nat.not_lt
set_option Elab.async false
set_option linter.all false
set_option maxRecDepth 100000
set_option maxHeartbeats 4000000
namespace L2
open PySem PySem.Spec PyProof.Rows PySem.W
noncomputable def subIn(K:PySem.W.Frag)(C D:Addr):Bool:=PySem.W.ktsIn K C "BaseException"&&PySem.W.ktsIn K D "BaseException"&&match K.lookup C with
 |some ⟨_,_,.cls cd,_⟩=>cd.mro.contains (.ref D)
 |_=>false
noncomputable def qu:List Value:=[.type "ValueError",.type "Exception",.type "BaseException",.type "object"]
noncomputable def bf:List Value->Bool
 |.ref _::r=>bf r
 |l=>l==qu
noncomputable def jL(K:Frag)(C fI:Addr):Bool:=match K.lookup C with
 |some ⟨.type "type",_,.cls cd,sl⟩=>(match cd.mro,sl.toList with
  |.ref C'::bm,[_,_,_,_,some (.builtin n),_]=>C'==C&&n=="ValueError.__new__" && !cd.hasDel&&tailIn K qu bm&&nsOkIn K cd.ns&&nsIn K cd.ns "__init__"==some (some (.ref fI))
  |_,_=>false)
 |_=>false
noncomputable def aO(s:Stmt):Arguments:=match s with
 |.FunctionDef _ a _ _ _ _ _ _ _ _=>a
 |_=>{posonlyargs:=[],args:=[],vararg:=none,kwonlyargs:=[],kw_defaults:=[],kwarg:=none,defaults:=[]}
noncomputable def aK(s:Stmt):List Stmt:=match s with
 |.FunctionDef _ _ b _ _ _ _ _ _ _=>b
 |_=>[]
noncomputable def aq(s:Stmt):Scope:=match s with
 |.FunctionDef _ _ _ _ _ _ sc _ _ _=>sc
 |_=>{kind:=.function,names:=[],isGenerator:=false,isCoroutine:=false}
end L2
namespace Mi
open PySem PySem.Spec PyProof.Rows L2 PySem.W
noncomputable def nP(n c:Nat):Nat:=if c<n then c else 0
noncomputable def jM(n c e:Nat):Bool:=nP n e==0||nP n c==nP n e
noncomputable def dR(L:List Addr)(c:Nat):Addr:=L.getD (nP L.length c) 0
noncomputable def Iv(K:PySem.W.Frag)(C:Addr):Bool:=
 PySem.W.findIn K (.ref C) "__getattribute__"==some (some (.builtin "BaseException.__getattribute__"))&&PySem.W.findIn K (.ref C) "__getattr__"==some none&&PySem.W.findIn K (.ref C) "__class__"==some (some (.builtin "object.__class__")) &&
 PySem.W.mroIn K C (.type "BaseException")==some true&&PySem.W.mroIn K C (.type "object")==some true&&(PySem.W.clsIn K C).isSome &&
 PySem.W.specialIn K (.builtin "object.__class__") "__get__"==some (some (.builtin "getset_descriptor.__get__"))&&PySem.W.takesIn K (.builtin "object.__class__")==some true
noncomputable def pF(K:PySem.W.Frag)(L:List Addr):Bool:=(List.range L.length).all λc=>Iv K (L.getD c 0)&&PySem.W.kitOne K (.ref (L.getD c 0)) (.type "ValueError")==some true &&
 (List.range L.length).all λe=>PySem.W.kitOne K (.ref (L.getD c 0)) (.ref (L.getD e 0))==some (jM L.length c e)
noncomputable def subB(K:PySem.W.Frag)(L:List Addr)(d:Nat):Bool:=(List.range L.length).all λc=>!(jM L.length c d)||L2.subIn K (L.getD c 0) (dR L d)
noncomputable def qU(fd:FuncData):FuncData:={fd with kwdefaults:=.none,doc:=.none,pyModule:=.none,annotations:=none,code:=.none,closureTuple:=.none}
noncomputable def uH(x:Str)(st:Stmt):FuncData:=fnOf x x (aO st) (aK st) (aq st) .none .none .none .none none .none .none
noncomputable def yO(K:Frag)(x:Str):Option (Addr×FuncData):=match nsIn K mainGlobals x with
 |some (some (.ref f))=>(match K.lookup f with
  |some ⟨_,_,.func fd,_⟩=>(match codeIn K fd.code x&&keepIn K (.ref f) with
   |true=>some (f,fd)
   |false=>none)
  |_=>none)
 |_=>none
noncomputable def yP(K:Frag)(x:Str):Addr:=match nsIn K mainGlobals x with
 |some (some (.ref C))=>C
 |_=>0
noncomputable def vm(K:Frag)(x:Str):Bool:=match nsIn K mainGlobals x with
 |some (some (.ref _))=>true
 |_=>false
noncomputable def lK(K:Frag)(p:Str×Int):Bool:=match nsIn K mainGlobals p.1 with
 |some (some (.int i _))=>decide (i=p.2)
 |_=>false
noncomputable def pG(K:Frag)(x:Str):Bool:=match nsIn K mainGlobals x with
 |some none=>true
 |_=>false
noncomputable def Dr(K:Frag)(C:Addr):Bool:=excIn K C [.type "ValueError",.type "Exception",.type "BaseException",.type "object"] "ValueError.__new__"
structure Lk where
 Ds:List Str
 xr:List (Str×Int)
 RW:List Str
 RX:List Nat
 RZ:List Nat
noncomputable def Lk.L(l:Lk)(K:Frag):List Addr:=l.Ds.map (yP K)
noncomputable def Lk.good(l:Lk)(K:Frag):Bool:=
 l.Ds.all (vm K)&&(l.Ds.isEmpty||pF K (l.L K))&&l.RX.all (λk=>Dr K (dR (l.L K) k))&&l.RZ.all (λk=>subB K (l.L K) k)&&l.xr.all (lK K)&&l.RW.all (pG K)
noncomputable def pH(h:Heap):List Addr->Frag
 |[]=>[]
 |a::r=>match h.get? a with
  |some o=>(a,o)::pH h r
  |none=>pH h r
noncomputable def vo(s:Stmt):List Stmt:=match s with
 |.ClassDef _ _ _ b _ _ _ _ _ _ _=>b
 |_=>[]
noncomputable def yQ(q:Str)(st:Stmt):FuncData:=fnOf "__init__" q (aO st) (aK st) (aq st) .none .none .none .none none .none .none
noncomputable def Dt(K:Frag)(C:Addr):Option FuncData:=match clsIn K C with
 |some cd=>(match nsIn K cd.ns "__init__" with
  |some (some (.ref f))=>(match K.lookup f with
   |some ⟨.type "function",_,.func fd,_⟩=>(match codeIn K fd.code fd.qualname&&jL K C f&&bf cd.mro&&cd.hasDict with
    |true=>some fd
    |false=>none)
   |_=>none)
  |_=>none)
 |none=>none
noncomputable def setB(K:Frag)(C:Addr)(fs:List Str):Bool:=findIn K (.ref C) "__setattr__"==some (some (.builtin "object.__setattr__"))&&fs.all (λf=>findIn K (.ref C) f==some none)
noncomputable def Iw(K:Frag)(C:Addr)(f:Str):Bool:=findIn K (.ref C) "__getattribute__"==some (some (.builtin "BaseException.__getattribute__"))&&findIn K (.ref C) "__getattr__"==some none&&mroIn K C (.type "BaseException")==some true&&findIn K (.ref C) f==some none&&hasDictIn K C
structure vp where
 c:Nat
 q:Str
 st:Stmt
 fs:List Str
noncomputable def Du:Nat->List Obj->Frag
 |_,[]=>[]
 |i,o::r=>match o.isFreed with
  |true=>Du (i+1) r
  |false=>(i,o)::Du (i+1) r
noncomputable def cB(h:Heap):Frag:=pH h [mainGlobals]++(Du 0 h.objs.toList).reverse
noncomputable def qw(fs:List (Str×Stmt))(ms:List vp)(xs:List (Nat×Str))(l:Lk)(s:Shared):List (Option FuncData)×List (Option FuncData)×Bool:=
 (fs.map (λp=>(yO (cB s.heap) p.1).map (λq=>qU q.2)),ms.map (λm=>(Dt (cB s.heap) (dR (l.L (cB s.heap)) m.c)).map qU),
  l.good (cB s.heap)&&ms.all (λm=>setB (cB s.heap) (dR (l.L (cB s.heap)) m.c) m.fs)&&xs.all (λx=>Iw (cB s.heap) (dR (l.L (cB s.heap)) x.1) x.2))
noncomputable def rN(fs:List (Str×Stmt))(ms:List vp)(w:World):List (Option FuncData)×List (Option FuncData)×Bool:=(fs.map (λp=>some (uH p.1 p.2)),ms.map (λm=>some (yQ m.q m.st)),true)
noncomputable def Iz(fs:List (Str×Stmt))(s:Shared):List (Option FuncData):=fs.map (λp=>(yO (cB s.heap) p.1).map (λq=>qU q.2))
noncomputable def R0(ms:List vp)(xs:List (Nat×Str))(l:Lk)(s:Shared):List (Option FuncData)×Bool:=(ms.map (λm=>(Dt (cB s.heap) (dR (l.L (cB s.heap)) m.c)).map qU),
  l.good (cB s.heap)&&ms.all (λm=>setB (cB s.heap) (dR (l.L (cB s.heap)) m.c) m.fs)&&xs.all (λx=>Iw (cB s.heap) (dR (l.L (cB s.heap)) x.1) x.2))
theorem Zx{p q:Program}{loose:List Str}{Xt:Shared->Bool}{N:Nat}{fs1 qx:List (Str×Stmt)}{ms:List vp}{xs:List (Nat×Str)}{l:Lk}
  (a:∀w,(openEnds treeTable p w N).map (λs=>openSeen q loose (importedModules p.main.body) Xt true s)=some (openGood q loose))
  (b1:∀w,(openEnds treeTable p w N).map (Iz fs1)=some (fs1.map λp=>some (uH p.1 p.2)))
  (b2:∀w,(openEnds treeTable p w N).map (Iz qx)=some (qx.map λp=>some (uH p.1 p.2)))
  (c:∀w,(openEnds treeTable p w N).map (R0 ms xs l)=some (ms.map (λm=>some (yQ m.q m.st)),true)):LeftO p q loose Xt (qw (fs1++qx) ms xs l) (rN (fs1++qx) ms) N:=by
 intro w;have a:=a w;have b1:=b1 w;have b2:=b2 w;have c:=c w;cases e:openEnds treeTable p w N with
 |none=>rw[e] at a;cases a
 |some s=>
  rw[e] at a b1 b2 c;have a:openSeen q loose (importedModules p.main.body) Xt true s=openGood q loose:=dw a;have b1:=dw b1;have b2:=dw b2;have c:=dw c;have c1:=qp Prod.fst c;have c2:=qp Prod.snd c;show some (_,qw (fs1++qx) ms xs l s)=_;rw[a];have:qw (fs1++qx) ms xs l s=rN (fs1++qx) ms w:=by
   unfold qw rN;rw[jK,jK];have b1:List.map _ fs1=List.map _ fs1:=b1;have b2:List.map _ qx=List.map _ qx:=b2;rw[b1,b2];exact Prod.ext rfl (Prod.ext c1 c2)
  rw[this]
end Mi
namespace fK
open PySem PySem.Spec PyProof.Rows PySem.W L2 Mi
noncomputable def top(i:Nat):Stmt:=PySem.Challenge.pw_ringhues_k05_hues_turned_and_mirrored.main.body.getD i (.Pass ⟨0,0,0,0⟩)
noncomputable def fs1:List (Str×Stmt):=(("is_whole" : Str),top 14)::(("is_within" : Str),top 15)::(("is_row" : Str),top 16)::(("is_ring" : Str),top 19)::(("is_spot" : Str),top 20)::(("check_ring" : Str),top 21)::(("gap_of" : Str),top 22)::(("is_web" : Str),top 25)::(("is_many" : Str),top 26)::(("is_place" : Str),top 27)::(("is_tie" : Str),top 28)::(("check_web" : Str),top 29)::(("turned_on" : Str),top 31)::(("mirrored_hues" : Str),top 32)::(("mirrored" : Str),top 33)::(("are_spots" : Str),top 34)::(("are_hues" : Str),top 35)::(("check_hues" : Str),top 36)::(("clash_of" : Str),top 37)::(("_law_cell" : Str),top 39)::[]
noncomputable def qx:List (Str×Stmt):=(("_law_pen" : Str),top 40)::(("_law_draw" : Str),top 41)::(("_law_whole" : Str),top 42)::(("_law_odd" : Str),top 43)::(("_law_kind" : Str),top 44)::(("_law_size" : Str),top 45)::(("_law_web" : Str),top 46)::(("_law_is_web" : Str),top 47)::(("_law_ring" : Str),top 48)::(("_law_is_ring" : Str),top 49)::(("_law_apart" : Str),top 50)::(("_law_fit_spots" : Str),top 51)::(("_law_are_spots" : Str),top 52)::(("_law_are_hues" : Str),top 53)::(("_law_first" : Str),top 54)::(("_law_bent_web" : Str),top 55)::(("_law_bent_row" : Str),top 56)::(("_law_bent_ring" : Str),top 57)::(("_law_told" : Str),top 58)::(("_law_right" : Str),top 59)::(("law" : Str),top 60)::[]
noncomputable abbrev fs:List (Str×Stmt):=fs1++qx
noncomputable def lk:Lk:=⟨["HueError","NoRing","NoHues","NoPlace","NoArrows","NoMap","NoPaper","Apart","NoRow","NoWeb","NoText","TooGreat"],[("MOST_SPOTS",24),("MOST_PLACES",8)],["ValueError","abs","all","bool","divmod","int","isinstance","len","list","max","min","range","set","sorted","str","tuple","zip"],[1,2],[0]⟩
noncomputable def oh:Stmt:=(vo (top 10)).getD 0 (.Pass ⟨0,0,0,0⟩)
noncomputable def ms:List vp:=[⟨9,"NoWeb.__init__",oh,["at"]⟩]
noncomputable def xs:List (Nat×Str):=[]
noncomputable abbrev pv:Program:=PySem.Challenge.pw_ringhues_k05_hues_turned_and_mirrored
noncomputable def qv:Program:={pv with main:={pv.main with body:=[pv.main.body.getD 60 (.Pass ⟨0,0,0,0⟩)]}}
noncomputable def loose:List Str:=(["HueError","NoRing","NoHues","NoPlace","NoArrows","NoMap","NoPaper","Apart","NoRow","NoWeb","NoText","TooGreat","is_whole","is_within","is_row","MOST_SPOTS","is_ring","is_spot","check_ring","gap_of","MOST_PLACES","is_web","is_many","is_place","is_tie","check_web","turned_on","mirrored_hues","mirrored","are_spots","are_hues","check_hues","clash_of","_law_cell","_law_pen","_law_draw","_law_whole","_law_odd","_law_kind","_law_size","_law_web","_law_is_web","_law_ring","_law_is_ring","_law_apart","_law_fit_spots","_law_are_spots","_law_are_hues","_law_first","_law_bent_web","_law_bent_row","_law_bent_ring","_law_told","_law_right"]:List String).map Str.ofString
theorem Zy(w:World):(openEnds treeTable pv w 20000).map (λs=>openSeen qv loose (importedModules pv.main.body) (λs=>xlAt qv [] s&&recOk [] s) true s)=some (openGood qv loose):=by
 kernel_rfl
theorem Zz(w:World):(openEnds treeTable pv w 20000).map (Iz fs1)=some (fs1.map λp=>some (uH p.1 p.2)):=by
 kernel_rfl
theorem ZC(w:World):(openEnds treeTable pv w 20000).map (Iz qx)=some (qx.map λp=>some (uH p.1 p.2)):=by
 kernel_rfl
theorem ZD(w:World):(openEnds treeTable pv w 20000).map (R0 ms xs lk)=some (ms.map (λm=>some (yQ m.q m.st)),true):=by
 kernel_rfl
theorem ws:PySem.Challenge.rw_ringhues_k05_hues_turned_and_mirrored.wellSaid=true:=by
 kernel_rfl
theorem left:LeftO pv qv loose (λs=>xlAt qv [] s&&recOk [] s) (qw fs ms xs lk) (rN fs ms) 20000:=Zx Zy Zz ZC ZD
end fK
namespace L2
open PySem PySem.Spec PyProof.Rows
theorem dN{α:Sort u}{β:Sort v}{A B C:α->β->Prop}{P:Prop}(h:∃x y,A x y/\B x y/\C x y)(k:∀x y,A x y->B x y->C x y->P):P:=by
 obtain⟨x,y,a,b,c⟩:=h;exact k x y a b c
theorem uI{α:Sort u}{β:Sort v}{γ:Sort w}{A B:α->β->Prop}{C D:α->β->γ->Prop}{P:Prop}(h:∃x y,A x y/\B x y/\∃z,C x y z/\D x y z)(k:∀x y,A x y->B x y->∀z,C x y z->D x y z->P):P:=by
 obtain⟨x,y,a,b,z,c,d⟩:=h;exact k x y a b z c d
theorem vq{α:Sort u}{A B:α->Prop}{P:Prop}(h:∃x,A x/\B x)(k:∀x,A x->B x->P):P:=by
 obtain⟨x,a,b⟩:=h;exact k x a b
noncomputable abbrev Key:=Sum Int Str
noncomputable def lu:Key->Value->Bool
 |.inl k,v=>Value.isInt k v
 |.inr x,v=>Value.isStrOf x v
noncomputable def Lf(w:World):Key->Int
 |.inl k=>hashInt k
 |.inr x=>hashStr w x
theorem vA:∀{k:Key} {v:Value},lu k v=true->(∃i t,k=Sum.inl i/\v=Value.int i t)\/(∃x t,k=Sum.inr x/\v=Value.str x t)
 |.inl i,v,h=>by
  obtain⟨t,e⟩:=Bg (k:=i) (v:=v) h;exact .inl ⟨i,t,rfl,e⟩
 |.inr x,v,h=>by
  obtain⟨t,e⟩:=Value.isStrOf_shape (x:=x) (v:=v) h;exact .inr ⟨x,t,rfl,e⟩
theorem ZF(i:Int)(t:Tok):lu (.inl i) (.int i t)=true:=by simp[lu,Value.isInt]
theorem ZG(x:Str)(t:Tok):lu (.inr x) (.str x t)=true:=by simp[lu,Value.isStrOf]
theorem ZJ(a b:Int):decide ((Sum.inl a:Key)=Sum.inl b)=(a==b):=by
 by_cases e:a=b
 ·subst e;simp
 ·have h:¬(Sum.inl a:Key)=Sum.inl b:=λq=>e (Sum.inl.inj q);rw[cZ h];exact(beq_eq_false_iff_ne.mpr e).symm
theorem ZK(a b:Str):decide ((Sum.inr a:Key)=Sum.inr b)=decide (a=b):=by
 by_cases e:a=b
 ·subst e;simp
 ·have h:¬(Sum.inr a:Key)=Sum.inr b:=λq=>e (Sum.inr.inj q);rw[cZ h,cZ e]
theorem ZL(a:Int)(b:Str):decide ((Sum.inl a:Key)=Sum.inr b)=false:=cZ (λq=>nomatch q)
theorem ZM(a:Str)(b:Int):decide ((Sum.inr a:Key)=Sum.inl b)=false:=cZ (λq=>nomatch q)
noncomputable def cC(prog:Program)(w:World):PySem.KeyKind prog w Key where
 is:=lu
 hash:=Lf w
 inj:=λv a b ha hb=>by
  rcases vA ha with ⟨i,t,rfl,rfl⟩|⟨x,t,rfl,rfl⟩
  ·rcases vA hb with ⟨j,u,rfl,e⟩|⟨y,u,rfl,e⟩
   ·injection e with e1 _;rw[e1]
   ·exact nomatch e
  ·rcases vA hb with ⟨j,u,rfl,e⟩|⟨y,u,rfl,e⟩
   ·exact nomatch e
   ·injection e with e1 _;rw[e1]
 byValue:=λk v h=>by
  rcases vA h with ⟨i,t,rfl,rfl⟩|⟨x,t,rfl,rfl⟩<;>rfl
 pyHash:=λhv h=>by
  rcases vA hv with ⟨i,t,rfl,rfl⟩|⟨x,t,rfl,rfl⟩
  ·exact wpAny_pyHash_int h
  ·exact wpAny_pyHash_str h
 eqBool:=λhu hv h=>by
  rcases vA hu with ⟨i,t,rfl,rfl⟩|⟨x,t,rfl,rfl⟩
  ·rcases vA hv with ⟨j,u,rfl,rfl⟩|⟨y,u,rfl,rfl⟩
   ·rw[ZJ] at h;exact wpAny_eqBool_int h
   ·rw[ZL] at h;exact SeqAt.EqAt.int_str i t y u _ _ _ _ h
  ·rcases vA hv with ⟨j,u,rfl,rfl⟩|⟨y,u,rfl,rfl⟩
   ·rw[ZM] at h;exact SeqAt.EqAt.str_int x t j u _ _ _ _ h
   ·rw[ZK] at h;exact wpAny_eqBool_str h
 «strs»:=λk x t v h=>by
  rcases vA h with ⟨i,u,rfl,e⟩|⟨y,u,rfl,e⟩
  ·exact nomatch e
  ·injection e with e1 _;subst e1;cases v<;>rfl
theorem ZP(prog:Program)(w:World)(i:Int)(t:Tok):(cC prog w).is (.inl i) (.int i t)=true:=ZF i t
theorem ZQ(prog:Program)(w:World)(x:Str)(t:Tok):(cC prog w).is (.inr x) (.str x t)=true:=ZG x t
inductive V where
 |non|bl (b:Bool)|int (i:Int)|str (x:Str)|Bt (b:Array UInt8)|flt (b:UInt64)|ref (a:Addr)|ty (n:String)
 deriving DecidableEq
noncomputable def RelV:V->Value->Prop
 |.non,u=>u=Value.none
 |.bl b,u=>u=Value.bool b
 |.int i,u=>∃t,u=Value.int i t
 |.str x,u=>∃t,u=Value.str x t
 |.Bt b,u=>∃t,u=Value.bytes b t
 |.flt b,u=>∃t,u=Value.float b t
 |.ref a,u=>u=Value.ref a
 |.ty n,u=>u=Value.type n
noncomputable abbrev Vals:List V->List Value->Prop:=Paired RelV
theorem Vals.length{xs:List V}{us:List Value}(r:Vals xs us):xs.length=us.length:=Paired.length r
theorem Vals.get:∀{xs:List V} {us:List Value} {i:Nat} {x:V},Vals xs us->xs[i]?=some x->∃u,us[i]?=some u/\RelV x u
 |_,_,_,_,.nil,e=>by simp at e
 |_,_,0,_,.cons r _,e=>by simp at e;subst e;exact⟨_,rfl,r⟩
 |_,_,i+1,x,.cons _ t,e=>by
  obtain⟨u,h1,h2⟩:=Vals.get (i:=i) (x:=x) t (by simpa using e);exact⟨u,by simpa using h1,h2⟩
theorem Vals.set{x:V}{u:Value}(r:RelV x u):∀{xs:List V} {us:List Value} (i:Nat),Vals xs us->Vals (xs.set i x) (us.set i u)
 |_,_,_,.nil=>.nil
 |_,_,0,.cons _ t=>.cons r t
 |_,_,i+1,.cons q t=>.cons q (Vals.set r i t)
theorem Vals.append{xs ys:List V}{us ws:List Value}(h:Vals xs us)(s:Vals ys ws):Vals (xs++ys) (us++ws):=by
 induction h with
 |nil=>exact s
 |cons r _ ih=>exact .cons r ih
theorem Vals.take:∀{xs:List V} {us:List Value} (n:Nat),Vals xs us->Vals (xs.take n) (us.take n)
 |_,_,0,_=>.nil
 |_,_,_+1,.nil=>.nil
 |_,_,n+1,.cons r t=>.cons r (Vals.take n t)
theorem Vals.drop:∀{xs:List V} {us:List Value} (n:Nat),Vals xs us->Vals (xs.drop n) (us.drop n)
 |_,_,0,r=>r
 |_,_,_+1,.nil=>.nil
 |_,_,n+1,.cons _ t=>Vals.drop n t
noncomputable def yR:Option V->Option Value->Prop
 |some v,some u=>RelV v u
 |none,none=>True
 |_,_=>False
noncomputable def KV{κ:Type}:List (κ×V)->List (κ×Value)->Prop:=Paired λ(p:κ×V) (q:κ×Value)=>p.1=q.1/\RelV p.2 q.2
noncomputable def kV:Key->V
 |.inl i=>.int i
 |.inr x=>.str x
inductive HO where
 |lst (xs:List V)
 |tup (xs:List V)
 |dK (kvs:List (Key×V))|dT (kvs:List (List Key×V))
 |set (S:Int->Bool) (n:Nat)
 |ins (C dx:Addr) (fs:List (Str×V))
 |own (x:Addr)
 |xd (fs:List (Str×V))
 |met (f x:Addr)
 |rng (lo hi:Int)
 |rO (o:Obj) (u:HO)
 |xu (ps:Array Value)
 |ext (φ:Heap->Prop)
noncomputable abbrev Hp:=Addr->Option HO
noncomputable def upd(H:Hp)(a:Addr)(o:HO):Hp:=λb=>if b=a then some o else H b
theorem kY{H:Hp}{a:Addr}{o:HO}:upd H a o a=some o:=by unfold upd;rw[if_pos rfl]
theorem dH{H:Hp}{a b:Addr}{o:HO}(h:b≠a):upd H a o b=H b:=by unfold upd;rw[if_neg h]
theorem R3{H:Hp}{a:Addr}{o u:HO}:upd (upd H a o) a u=upd H a u:=by
 funext b;unfold upd;split<;>rfl
theorem Bu{H:Hp}{a b:Addr}{o:HO}(h:H a=some o)(h':H b=none):a≠b:=by
 intro e;subst e;rw[h] at h';cases h'
section
variable (P:Program)(w:World)
noncomputable def aQ(H:Hp)(h:Heap)(a:Addr):HO->Prop
 |.lst xs=>xs.length<=sizeLine/\∃(its:List Value) (n:Nat),Vals xs its/\h.get? a=some {cls:=.type "list",data:=.seq its.toArray n}
 |.tup xs=>xs.length<=sizeLine/\∃its:List Value,Vals xs its/\IsTup h a its.toArray
 |.dK kvs=>kvs.length<=sizeLine/\(a==sysModules)=false/\∃vs,KV kvs vs/\h.DictOf (cC P w) a vs
 |.dT kvs=>kvs.length<=sizeLine/\(a==sysModules)=false/\∃xs:List (List Key×Addr×Value),
   Paired (λ(p:List Key×V) (q:List Key×Addr×Value)=>p.1=q.1/\H q.2.1=some (.tup (p.1.map kV))/\RelV p.2 q.2.2) kvs xs /\
   ∃o es ep,h.get? a=some o/\o.ExactDict/\o.data=.dict es ep/\es.toList=xs.map (entryOfKey (tupleKind (cC P w)))/\(xs.map (·.1)).Nodup
 |.set S n=>h.SetOf (intKind P w) a S n
 |.ins C dx fs=>H dx=some (.own a)/\fs.length<=1000/\dx≠a/\h.get? a=some (PySem.W.instObj C dx) /\
   ∃mA,h.Ns1 dx mA/\(∀f,yR (fs.lookup f) (mA f))/\PySem.Within mA (fs.map (·.1))
 |.own _=>∃o,h.get? a=some o
 |.xd fs=>∃mA,h.Ns1 a mA/\∀f,yR (fs.lookup f) (mA f)
 |.rng lo hi=>∃t u v,h.get? a=some {cls:=.type "range",data:=.fields #[.int lo t,.int hi u,.int 1 v]}
 |.rO o u=>h.get? a=some o/\aQ H h a u
 |.xu ps=>h.get? a=some {cls:=.none,data:=.fields ps}
 |.met f x=>h.get? a=some (PySem.W.methodObj (.ref f) (.ref x))
 |.ext φ=>φ h/\(∃o,h.get? a=some o)/\∀h1 h2:Heap,φ h1->(∀o,h1.get? a=some o->h2.get? a=some o)->φ h2
def gQ(H:Hp)(h:Heap):Prop:=∀a o,H a=some o->aQ P w H h a o
end
section
variable {P:Program}{w:World}{H H':Hp}{h h':Heap}{a:Addr}{o:HO}
theorem aQ.lt(x:aQ P w H h a o):a<h.objs.size:=by
 cases o with
 |lst xs=>obtain⟨_,_,_,_,e⟩:=x;exact bM e
 |tup xs=>obtain⟨_,_,_,p⟩:=x;exact p.lt
 |dK kvs=>obtain⟨_,_,_,_,o,_,_,e,_⟩:=x;exact bM e
 |dT kvs=>obtain⟨_,_,_,_,o,_,_,e,_⟩:=x;exact bM e
 |set S n=>obtain⟨o,_,_,_,e,_⟩:=x;exact bM e
 |ins C dx fs=>obtain⟨_,_,_,e,_⟩:=x;exact bM e
 |own y=>obtain⟨_,e⟩:=x;exact bM e
 |xd fs=>obtain⟨_,⟨_,_,_,e,_⟩,_⟩:=x;exact bM e
 |rng lo hi=>obtain⟨_,_,_,e⟩:=x;exact bM e
 |rO ob u=>obtain⟨e,_⟩:=x;exact bM e
 |xu ps=>exact bM (show h.get? a=some _ from x)
 |met f y=>exact bM (show h.get? a=some _ from x)
 |ext φ=>obtain⟨_,⟨_,e⟩,_⟩:=x;exact bM e
theorem R4{α β:Type}{F G:α->β->Prop}:∀{l₁:List α} {l₂:List β},Paired F l₁ l₂->(∀a b,F a b->G a b)->Paired G l₁ l₂
 |_,_,.nil,_=>.nil
 |_,_,.cons r t,f=>.cons (f _ _ r) (R4 t f)
theorem aQ.stay(x:aQ P w H h a o)(k:∀b u,(b=a\/H b=some (.own a))->h.get? b=some u->h'.get? b=some u)
  (ho:∀b,H b=some (.own a)->H' b=some (.own a)) (ht:∀b xs,H b=some (.tup xs)->H' b=some (.tup xs)):aQ P w H' h' a o:=by
 induction o with
 |lst xs=>obtain⟨z,its,n,r,e⟩:=x;exact⟨z,its,n,r,k _ _ (.inl rfl) e⟩
 |tup xs=>obtain⟨z,its,r,ob,e,c⟩:=x;exact⟨z,its,r,ob,k _ _ (.inl rfl) e,c⟩
 |dK kvs=>obtain⟨z,y,vs,r,ob,es,ep,e,c⟩:=x;exact⟨z,y,vs,r,ob,es,ep,k _ _ (.inl rfl) e,c⟩
 |dT kvs=>
  obtain⟨z,y,xs,r,ob,es,ep,e,c⟩:=x;exact⟨z,y,xs,R4 r λp q z=>⟨z.1,ht _ _ z.2.1,z.2.2⟩,ob,es,ep,k _ _ (.inl rfl) e,c⟩
 |set S n=>obtain⟨ob,es,ep,t,e,c⟩:=x;exact⟨ob,es,ep,t,k _ _ (.inl rfl) e,c⟩
 |ins C dx fs=>
  obtain⟨d,z,ne,e,mA,⟨od,es,ep,e2,c⟩,r⟩:=x;exact⟨ho _ d,z,ne,k _ _ (.inl rfl) e,mA,⟨od,es,ep,k _ _ (.inr d) e2,c⟩,r⟩
 |own y=>obtain⟨ob,e⟩:=x;exact⟨ob,k _ _ (.inl rfl) e⟩
 |xd fs=>obtain⟨mA,⟨od,es,ep,e,c⟩,r⟩:=x;exact⟨mA,⟨od,es,ep,k _ _ (.inl rfl) e,c⟩,r⟩
 |rng lo hi=>obtain⟨t,u,v,e⟩:=x;exact⟨t,u,v,k _ _ (.inl rfl) e⟩
 |rO ob u ih=>obtain⟨e,q⟩:=x;exact⟨k _ _ (.inl rfl) e,ih q⟩
 |xu ps=>
  have e:h.get? a=some {cls:=.none,data:=.fields ps}:=x;show h'.get? a=some {cls:=.none,data:=.fields ps};exact k a _ (.inl rfl) e
 |met f y=>
  have e:h.get? a=some (PySem.W.methodObj (.ref f) (.ref y)):=x;show h'.get? a=some (PySem.W.methodObj (.ref f) (.ref y));exact k a _ (.inl rfl) e
 |ext φ=>obtain⟨p,⟨o,e⟩,st⟩:=x;exact⟨st _ _ p λo q=>k _ _ (.inl rfl) q,⟨o,k _ _ (.inl rfl) e⟩,st⟩
theorem gQ.lt(x:gQ P w H h)(e:H a=some o):a<h.objs.size:=(x a o e).lt
theorem gQ.fresh(x:gQ P w H h)(e:h.objs.size<=a):H a=none:=by
 cases q:H a with
 |none=>rfl
 |some u=>exact absurd (gH (x.lt q) e) (mL _)
theorem gQ.kept(x:gQ P w H h)(k:∀b u,h.get? b=some u->h'.get? b=some u):gQ P w H h':=λa o e=>
 (x a o e).stay (λb u _ q=>k b u q) (λ_ q=>q) λ_ _ q=>q
theorem gQ.laid(x:gQ P w H h)(k:∀b u,h.get? b=some u->h'.get? b=some u)(hp:h.objs.size<=a)(new:aQ P w (upd H a o) h' a o):gQ P w (upd H a o) h':=λb u e=>by
 have hn:=x.fresh hp;by_cases hb:b=a
 ·subst hb;rw[kY] at e;cases e;exact new
 ·rw[dH hb] at e;exact(x b u e).stay (λc v _ q=>k c v q) (λc q=>by rw[dH (Bu q hn)];exact q) λc xs q=>by rw[dH (Bu q hn)];exact q
end
def Rd(H:Hp)(a:Addr)(u:HO):Prop:=H a=some u\/∃o,H a=some (.rO o u)
theorem Rd.ok{P:Program}{w:World}{H:Hp}{h:Heap}{a:Addr}{u:HO}(r:Rd H a u)(x:gQ P w H h):aQ P w H h a u:=by
 rcases r with r|⟨o,r⟩
 ·exact x a u r
 ·obtain⟨_,q⟩:=x a _ r;exact q
noncomputable def Dv:Option HO->Prop
 |some (.lst _)=>True
 |some (.dK _)=>True
 |some (.dT _)=>True
 |some (.set _ _)=>True
 |some (.ins _ _ _)=>True
 |some (.ext _)=>True
 |_=>False
section
variable {P:Program}{w:World}{H:Hp}{h h':Heap}{x e:Addr}{o':HO}
theorem gQ.write(ok:gQ P w H h)(mu:Dv (H x))(he:e=x\/H e=some (.own x))(k:∀b u,b≠e->h.get? b=some u->h'.get? b=some u)(heo:∃u,h'.get? e=some u)
  (new:aQ P w (upd H x o') h' x o'):gQ P w (upd H x o') h':=λb u q=>by
 have Dw:∀c y,H c=some (.own y)->c≠x:=λc y r z=>by subst z;rw[r] at mu;exact mu
 have Lg:∀c xs,H c=some (.tup xs)->c≠x:=λc xs r z=>by subst z;rw[r] at mu;exact mu
 by_cases hb:b=x
 ·subst hb;rw[kY] at q;cases q;exact new
 ·rw[dH hb] at q;by_cases hbe:b=e
  ·have q':H b=some (.own x):=by
    rcases he with z|z
    ·exact absurd (hbe.trans z) hb
    ·rw[hbe];exact z
   rw[q] at q';cases q';obtain⟨v,hv⟩:=heo;exact⟨v,by rw[hbe];exact hv⟩
  ·refine(ok b u q).stay (λc v hc r=>k c v ?_ r) (λc r=>by rw[dH (Dw c b r)];exact r) λc xs r=>by rw[dH (Lg c xs r)];exact r
   rcases hc with rfl|hc
   ·exact hbe
   ·rintro rfl;rcases he with z|z
    ·exact Dw c b hc z
    ·rw[hc] at z;cases z;exact hb rfl
end
structure Un(fs ex:List Addr)(H H':Hp)(h h':Heap):Prop where
 keep:∀b o,h.get? b=some o->H b=none->b∉fs->b∉ex->h'.get? b=some o
 slot:∀b o,h.get? b=some o->H b=none->b∈fs->b∉ex->∃sl,h'.get? b=some {o with slots:=sl}
 free:∀b o,h.get? b=some o->H b=none->b∉ex->H' b=none
 there:∀b o,h.get? b=some o->b∉ex->∃o',h'.get? b=some o'
 tups:∀b xs,H b=some (.tup xs)->H' b=some (.tup xs)
 jt:∀b o u,H b=some (.rO o u)->H' b=some (.rO o u)
 jN:∀b ps,H b=some (.xu ps)->∃more,H' b=some (.xu (ps++more))
section
variable {fs fs' ex ex':List Addr}{H H1 H2:Hp}{h h1 h2 h':Heap}{a x e:Addr}{o:HO}
theorem Un.any(u:Un fs ex H H1 h h1){b:Addr}{ob:Obj}(q:h.get? b=some ob)(n:H b=none)(hx:b∉ex):∃sl,h1.get? b=some {ob with slots:=sl}:=by
 by_cases hb:b∈fs
 ·exact u.slot b ob q n hb hx
 ·exact⟨ob.slots,u.keep b ob q n hb hx⟩
theorem Un.kept(k:∀b u,h.get? b=some u->h'.get? b=some u):Un fs ex H H h h':=
 ⟨λb ob q _ _ _=>k b ob q,λb ob q _ _ _=>⟨ob.slots,k b ob q⟩,λ_ _ _ n _=>n,λb ob q _=>⟨ob,k b ob q⟩,λ_ _ q=>q,λ_ _ _ q=>q,λ_ ps q=>⟨#[],by rw[q];simp⟩⟩
theorem Un.refl:Un fs ex H H h h:=Un.kept λ_ _ q=>q
theorem Un.laid(k:∀b u,h.get? b=some u->h'.get? b=some u)(hp:h.objs.size<=a)(hn:H a=none):Un fs ex H (upd H a o) h h' where
 keep:=λb u q _ _ _=>k b u q
 slot:=λb u q _ _ _=>⟨u.slots,k b u q⟩
 free:=λb u q n _=>by rw[dH (dh (gH (bM q) hp))];exact n
 there:=λb u q _=>⟨u,k b u q⟩
 tups:=λb xs q=>by rw[dH (Bu q hn)];exact q
 jt:=λb u xs q=>by rw[dH (Bu q hn)];exact q
 jN:=λb ps q=>⟨#[],by rw[dH (Bu q hn),q];simp⟩
theorem Un.write(mu:Dv (H x))(he:e=x\/H e=some (.own x))(k:∀b u,b≠e->h.get? b=some u->h'.get? b=some u)(heo:∃u,h'.get? e=some u):Un fs ex H (upd H x o) h h':=by
 have hx:∀b,H b=none->b≠x:=λb n z=>by subst z;rw[n] at mu;exact mu
 have hb:∀b,H b=none->b≠e:=λb n z=>by
  subst z;rcases he with r|r
  ·exact hx b n r
  ·rw[n] at r;cases r
 have hm:∀b u,H b=some u->¬Dv (some u)->b≠x:=λb u q nm z=>by subst z;rw[q] at mu;exact nm mu
 refine⟨λb u q n _ _=>k b u (hb b n) q,λb u q n _ _=>⟨u.slots,k b u (hb b n) q⟩,λb u q n _=>by rw[dH (hx b n)];exact n,λb u q _=>?_,
  λb xs q=>by rw[dH (hm b _ q λz=>z)];exact q,λb u xs q=>by rw[dH (hm b _ q λz=>z)];exact q,λb ps q=>⟨#[],by rw[dH (hm b _ q λz=>z),q];simp⟩⟩
 by_cases hbe:b=e
 ·subst hbe;exact heo
 ·exact⟨u,k b u hbe q⟩
end
noncomputable def IK(h:Heap)(H:Hp):List Addr:=(List.range h.objs.size).filter λa=>(H a).isSome
noncomputable def lM(h:Heap)(H:Hp):Heap:=PySem.W.hideAll h (IK h H)
theorem ZR(h:Heap)(H:Hp):(lM h H).objs.size=h.objs.size:=PySem.W.hideAll_size _ _
theorem ZS{h:Heap}{H:Hp}{b:Addr}{o:Obj}(e:h.get? b=some o)(n:H b=none):(lM h H).get? b=some o:=
 PySem.W.hideAll_get _ e λhm=>by
  have q:(H b).isSome=true:=(wX.mp hm).2;rw[n] at q;simp at q
theorem ZV{h:Heap}{H:Hp}{b:Addr}{o:Obj}(e:(lM h H).get? b=some o):h.get? b=some o/\H b=none:=by
 have e':h.get? b=some o:=PySem.W.of_hideAll (IK h H) e;refine⟨e',?_⟩;cases q:H b with
 |none=>rfl
 |some x=>
  have hm:b∈IK h H:=wX.mpr ⟨uE.mpr (bM e'),by simp[q]⟩;have z:(lM h H).get? b=none:=PySem.W.hideAll_none (IK h H) hm;rw[z] at e;cases e
structure Mod(K:PySem.W.Frag)(mg:Str->Option Value)(base:Heap):Prop where
 xr:K.In base
 glob:base.Ns mainGlobals mg
 blt:∃mb,base.Ns builtinsNs mb/\∀x:Str,x≠"__name__"->mb x=bootBuiltins x
 nolimit:base.NoLimit
structure Cx where
 prog:Program
 w:World
 K:PySem.W.Frag
 mg:Str->Option Value
 base:Heap
 A:Around
 N:List Str
 s₀:Shared
 H₀:Hp
 env:Env
 outer:List Env
 stack:List Env
 ex:List Addr
 fn:Str->Bool
 aj:Bool
 pn:List (Addr×Obj)
 xe:Value->Shared->Prop
noncomputable def frs(l:List Env):List Addr:=l.filterMap (·.frame)
noncomputable abbrev Cx.fs(X:Cx):List Addr:=frs X.outer
def Lh(sc:Scope)(x:Str):Prop:=sc.names.lookup x=some .local\/sc.names.lookup x=some .cell\/sc.names.lookup x=some .free
def Loc(sc:Scope)(x:Str):Prop:=sc.names.lookup x=some .local\/sc.names.lookup x=some .cell
def Look(env:Env)(h:Heap)(m:Str->Option Value)(x:Str)(u:Value):Prop:=
 (env.kindOf x=some .local/\m x=some u)\/((env.kindOf x=some .cell\/env.kindOf x=some .free)/\∃c,env.cells.lookup x=some c/\h.IsCell c (some u))
structure Cx.Ok(X:Cx):Prop where
 mod:Mod X.K X.mg X.base
 kind:X.env.scope.kind=.function
 glob:X.env.globals=mainGlobals
 blt:X.env.builtins=builtinsNs
 above:X.s₀.heap.objs.size<=X.env.locals
 inj:∀x y c,X.env.cells.lookup x=some c->X.env.cells.lookup y=some c->x=y
 has:∀x,(X.env.kindOf x=some .cell\/X.env.kindOf x=some .free)->∃c,X.env.cells.lookup x=some c
 cab:∀x c,X.fn x=true->X.env.cells.lookup x=some c->X.s₀.heap.objs.size<=c
 hd:X.aj=true->X.A.handled=none
 frames:X.A.frames=some X.stack
 stk:X.stack=X.outer\/(X.stack=X.env::X.outer/\X.env.frame=some X.env.locals)
 R5:∀b∈X.ex,b≠X.env.locals/\∀x c,X.env.cells.lookup x=some c->c≠b
 bs:∀b o,X.base.get? b=some o->X.s₀.heap.get? b=some o/\X.H₀ b=none
 xG:X.base.objs.size<=X.s₀.heap.objs.size
 rP:∀b o,X.base.get? b=some o->b∉X.ex
 vB:∀b∈X.ex,b∉X.fs
 jO:X.s₀.heap.FunFrames X.base X.outer
 Bv:∀b∈X.fs,X.H₀ b=none
structure Inv(X:Cx)(ak:List (Addr×Obj))(σ:List (Option V))(H:Hp)(s:Shared):Prop where
 ok:X.Ok
 os:s.os=X.s₀.os
 bare:AllBare s.gens
 base:Un X.fs X.ex X.H₀ H X.s₀.heap s.heap
 loc:∃m,s.heap.Ns X.env.locals m/\∀(i:Nat) (x:Str) (v:V),X.N[i]?=some x->σ[i]?=some (some v)->Lh X.env.scope x->∃u,RelV v u/\Look X.env s.heap m x u
 cell:∀x c,X.env.cells.lookup x=some c->∃v,s.heap.IsCell c v
 free:H X.env.locals=none
 eO:∀x c,X.env.cells.lookup x=some c->H c=none
 pin:∀p∈X.pn++ak,s.heap.get? p.1=some p.2/\H p.1=none/\p.1≠X.env.locals/\p.1∉X.fs/\∀v,p.2.data≠.cell v
 hok:gQ X.prog X.w H s.heap
 len:σ.length=X.N.length
section
variable {X:Cx}{ak:List (Addr×Obj)}{σ:List (Option V)}{H H':Hp}{s:Shared}{h':Heap}
theorem Cx.Ok.Li(ok:X.Ok){b:Addr}{o:Obj}(e:X.base.get? b=some o):b∉X.fs:=λhb=>by
 have:=(ok.jO.mem hb).1;rw[e] at this;cases this
theorem Inv.bs(I:Inv X ak σ H s):∀b o,X.base.get? b=some o->s.heap.get? b=some o/\H b=none:=λb o e=>
 ⟨I.base.keep b o (I.ok.bs b o e).1 (I.ok.bs b o e).2 (I.ok.Li e) (I.ok.rP b o e),I.base.free b o (I.ok.bs b o e).1 (I.ok.bs b o e).2 (I.ok.rP b o e)⟩
theorem Inv.bk(I:Inv X ak σ H s):∀b o,X.base.get? b=some o->s.heap.get? b=some o:=λb o e=>(I.bs b o e).1
theorem Inv.mod(I:Inv X ak σ H s):Mod X.K X.mg X.base:=I.ok.mod
theorem Inv.qy(I:Inv X ak σ H s):X.K.In s.heap:=I.ok.mod.xr.keeps I.bk
theorem Inv.nolimit(I:Inv X ak σ H s):s.heap.NoLimit:=I.ok.mod.nolimit.keeps I.bk
theorem Inv.lt(I:Inv X ak σ H s):X.env.locals<s.heap.objs.size:=let ⟨_,hn,_⟩:=I.loc;hn.lt
theorem Inv.sz(I:Inv X ak σ H s):X.s₀.heap.objs.size<=s.heap.objs.size:=n8 I.ok.above (wZ I.lt)
theorem Inv.Lj(I:Inv X ak σ H s){a:Addr}(h:s.heap.objs.size<=a):a∉X.fs:=λhb=>by
 obtain⟨_,o,ho,_⟩:=I.ok.jO.mem hb;exact absurd (gH (bM ho) (n8 I.sz h)) (mL _)
theorem Inv.vC(I:Inv X ak σ H s):∀x c,X.env.cells.lookup x=some c->c≠X.env.locals:=λx c e z=>by
 obtain⟨v,o,ho,hd⟩:=I.cell x c e;obtain⟨m,⟨o',es,ep,ho',hd',_⟩,_⟩:=I.loc;rw[z,ho'] at ho;cases ho;rw[hd'] at hd;cases hd
theorem Inv.jO(I:Inv X ak σ H s):s.heap.FunFrames X.base X.outer:=by
 have all:∀(l:List Env),(∀b∈frs l,b∈X.fs)->X.s₀.heap.FunFrames X.base l->s.heap.FunFrames X.base l:=by
  intro l
  induction l with
  |nil=>intro _ _;trivial
  |cons env r ih=>
   intro hs hl;obtain⟨hk,⟨L,o,hf,hn,ho,hd⟩,hr⟩:=hl;have hL:L∈X.fs:=hs L (by unfold frs;rw[wU,hf];exact eZ);obtain⟨sl,e⟩:=I.base.slot L o ho (I.ok.Bv L hL) hL λz=>I.ok.vB L z hL;exact⟨hk,⟨L,_,hf,hn,e,hd⟩,ih (λb hb=>hs b (by unfold frs;rw[wU,hf];exact eN _ hb)) hr⟩
 exact all X.outer (λ_ hb=>hb) I.ok.jO
theorem Inv.stack(I:Inv X ak σ H s):s.heap.FunFrames X.base X.stack:=by
 rcases I.ok.stk with e|⟨e,hf⟩
 ·rw[e];exact I.jO
 ·rw[e];obtain⟨m,hn,_⟩:=I.loc;refine .cons (by rw[I.ok.kind];decide) hf hn ?_ I.jO;exact A_ (n8 I.ok.xG I.ok.above)
theorem Inv.lN(I:Inv X ak σ H s):∀b∈frs X.stack,b∈X.env.locals::X.fs:=λb hb=>by
 rcases I.ok.stk with e|⟨e,hf⟩
 ·rw[e] at hb;exact eN _ hb
 ·rw[e] at hb;unfold frs at hb;rw[wU,hf] at hb;exact hb
theorem Inv.jC(I:Inv X ak σ H s):∀b∈frs X.stack,H b=none:=λb hb=>by
 rcases cM.mp (I.lN b hb) with e|hb
 ·rw[e];exact I.free
 ·obtain⟨_,o,ho,_⟩:=I.ok.jO.mem hb;exact I.base.free b o ho (I.ok.Bv b hb) λz=>I.ok.vB b z hb
theorem Inv.step{g':Array GenState}{t':Nat}{d':Drawn}{ch:List Addr}(I:Inv X ak σ H s)
  (hch:∀b∈ch,(b∈X.ex\/X.s₀.heap.get? b=none)/\b≠X.env.locals/\(∀x c,X.env.cells.lookup x=some c->c≠b)/\∀p∈X.pn++ak,p.1≠b)
  (keep:∀b o,b≠X.env.locals->b∉X.fs->b∉ch->s.heap.get? b=some o->H b=none->h'.get? b=some o)
  (slot:∀b o,b≠X.env.locals->b∈X.fs->b∉ch->s.heap.get? b=some o->H b=none->∃sl,h'.get? b=some {o with slots:=sl}) (free:∀b o,b∉ch->s.heap.get? b=some o->H b=none->H' b=none)
  (there:∀b o,b∉ch->s.heap.get? b=some o->∃o',h'.get? b=some o')
  (tups:∀b xs,H b=some (.tup xs)->H' b=some (.tup xs)) (jt:∀b o u,H b=some (.rO o u)->H' b=some (.rO o u)) (jN:∀b ps,H b=some (.xu ps)->∃more,H' b=some (.xu (ps++more)))
  (ns:∀m,s.heap.Ns X.env.locals m->h'.Ns X.env.locals m) (hok:gQ X.prog X.w H' h') (hg:AllBare g') :
  Inv X ak σ H' {s with heap:=h',gens:=g',drawn:=d',toks:=t'}:=by
 have R6:∀b o,X.s₀.heap.get? b=some o->b≠X.env.locals:=λb o e=>dh (gH (bM e) I.ok.above);have IV:∀b o,X.s₀.heap.get? b=some o->b∉X.ex->b∉ch:=λb o e hx hb=>by
  rcases(hch b hb).1 with z|z
  ·exact hx z
  ·rw[e] at z;cases z
 have cellK:∀x c,X.env.cells.lookup x=some c->∀v,s.heap.IsCell c v->h'.IsCell c v:=λx c e v hx=>vq hx λo ho hd=>by
  have Dy:c∉ch:=λz=>(hch c z).2.2.1 x c e rfl;by_cases hc:c∈X.fs
  ·obtain⟨sl,q⟩:=slot c o (I.vC x c e) hc Dy ho (I.eO x c e);exact⟨_,q,hd⟩
  ·exact⟨o,keep c o (I.vC x c e) hc Dy ho (I.eO x c e),hd⟩
 refine⟨I.ok,I.os,hg,⟨λb o e n hb hx=>?_,λb o e n hb hx=>?_,λb o e n hx=>?_,λb o e hx=>?_,λb xs e=>tups b xs (I.base.tups b xs e),λb o xs e=>jt b o xs (I.base.jt b o xs e),λb ps e=>?_⟩,?_,λx c e=>?_,?_,λx c e=>?_,λp hp=>?_,hok,I.len⟩
 ·exact keep b o (R6 b o e) hb (IV b o e hx) (I.base.keep b o e n hb hx) (I.base.free b o e n hx)
 ·obtain⟨sl,e1⟩:=I.base.slot b o e n hb hx;obtain⟨sl',e2⟩:=slot b _ (R6 b o e) hb (IV b o e hx) e1 (I.base.free b o e n hx);exact⟨sl',e2⟩
 ·obtain⟨o',e1⟩:=I.base.there b o e hx;exact free b o' (IV b o e hx) e1 (I.base.free b o e n hx)
 ·obtain⟨o',e1⟩:=I.base.there b o e hx;exact there b o' (IV b o e hx) e1
 ·obtain⟨m1,e1⟩:=I.base.jN b ps e;obtain⟨m2,e2⟩:=jN b _ e1;exact⟨m1++m2,by rw[e2,Array.append_assoc]⟩
 ·obtain⟨m,hn,hl⟩:=I.loc;refine⟨m,ns m hn,λi x v e1 e2 e3=>?_⟩;obtain⟨u,r,l⟩:=hl i x v e1 e2 e3;refine⟨u,r,?_⟩;rcases l with l|⟨k,c,e,z⟩
  ·exact .inl l
  ·exact .inr ⟨k,c,e,cellK x c e _ z⟩
 ·obtain⟨v,z⟩:=I.cell x c e;exact⟨v,cellK x c e v z⟩
 ·obtain⟨m,⟨o,_,_,ho,_⟩,_⟩:=I.loc;exact free _ o (λz=>(hch _ z).2.1 rfl) ho I.free
 ·obtain⟨v,o,ho,hd⟩:=I.cell x c e;exact free c o (λz=>(hch c z).2.2.1 x c e rfl) ho (I.eO x c e)
 ·obtain⟨e,n,ne,nf,d⟩:=I.pin p hp;have Dy:p.1∉ch:=λz=>(hch p.1 z).2.2.2 p hp rfl;exact⟨keep p.1 p.2 ne nf Dy e n,free p.1 p.2 Dy e n,ne,nf,d⟩
theorem Inv.un{t':Nat}(I:Inv X ak σ H s)(u:Un X.fs [] H H' s.heap h')(hok:gQ X.prog X.w H' h'):Inv X ak σ H' {s with heap:=h',toks:=t'}:=by
 obtain⟨m,⟨o,es,ep,ho,r⟩,_⟩:=id I.loc;obtain⟨sl,hL⟩:=u.any ho I.free (by simp);exact I.step (g':=s.gens) (d':=s.drawn) (ch:=[]) (λ_ z=>nomatch z) (λb o _ hb _ e n=>u.keep b o e n hb (by simp)) (λb o _ hb _ e n=>u.slot b o e n hb (by simp)) (λb o _ e n=>u.free b o e n (by simp)) (λb o _ e=>u.there b o e (by simp)) u.tups u.jt u.jN (λm' hm=>by
  obtain⟨o',es',ep',ho',r'⟩:=hm;rw[ho] at ho';cases ho';exact⟨_,es',ep',hL,r'⟩) hok I.bare
theorem Inv.call{g':Array GenState}{t':Nat}{d':Drawn}{ch:List Addr}(I:Inv X ak σ H s)(u:Un (frs X.stack) ch H H' s.heap h')(hok:gQ X.prog X.w H' h')(hg:AllBare g')
  (hch:∀b∈ch,(b∈X.ex\/X.s₀.heap.get? b=none)/\b≠X.env.locals/\(∀x c,X.env.cells.lookup x=some c->c≠b)/\∀p∈X.pn++ak,p.1≠b) :
  Inv X ak σ H' {s with heap:=h',gens:=g',drawn:=d',toks:=t'}:=by
 obtain⟨m,⟨o,es,ep,ho,r⟩,_⟩:=id I.loc;obtain⟨sl,hL⟩:=u.any ho I.free λz=>(hch _ z).2.1 rfl;exact I.step (ch:=ch) hch (λb o hL hb hc e n=>u.keep b o e n (λz=>(cM.mp (I.lN b z)).elim hL hb) hc) (λb o _ _ hc e n=>u.any e n hc) (λb o hc e n=>u.free b o e n hc) (λb o hc e=>u.there b o e hc) u.tups u.jt u.jN (λm' hm=>by
  obtain⟨o',es',ep',ho',r'⟩:=hm;rw[ho] at ho';cases ho';exact⟨_,es',ep',hL,r'⟩) hok hg
theorem Inv.turned{t':Nat}{it:Addr}(I:Inv X ak σ H s)(k:∀b o,b≠it->s.heap.get? b=some o->h'.get? b=some o)(hn:H it=none)(hL:it≠X.env.locals)
  (h1:it∈X.ex\/X.s₀.heap.objs.size<=it) (h2:∀x c,X.env.cells.lookup x=some c->c≠it) (h3:∀p∈X.pn++ak,p.1≠it):Inv X ak σ H {s with heap:=h',toks:=t'}:=by
 have xH:∀b u,H b=some u->b≠it:=λb u e z=>by rw[z,hn] at e;cases e
 refine I.step (g':=s.gens) (d':=s.drawn) (ch:=[it]) (λb hb=>?_) (λb o _ _ hc e _=>k b o (λz=>hc (by simp[z])) e) (λb o _ _ hc e _=>⟨o.slots,k b o (λz=>hc (by simp[z])) e⟩) (λ_ _ _ _ n=>n)
  (λb o hc e=>⟨o,k b o (λz=>hc (by simp[z])) e⟩) (λ_ _ e=>e) (λ_ _ _ e=>e) (λb ps e=>⟨#[],by rw[e];simp⟩) (λm hm=>?_) (λb u e=>?_) I.bare
 ·have e:b=it:=by simpa using hb
  subst e;exact⟨h1.imp id λz=>A_ z,hL,h2,h3⟩
 ·obtain⟨o,es,ep,ho,r⟩:=hm;exact⟨o,es,ep,k _ o (Ne.symm hL) ho,r⟩
 ·refine(I.hok b u e).stay (λc v hc q=>k c v ?_ q) (λ_ q=>q) λ_ _ q=>q;rcases hc with z|z
  ·rw[z];exact xH b u e
  ·exact xH c _ z
theorem Inv.tok(I:Inv X ak σ H s)(t:Nat):Inv X ak σ H {s with toks:=t}:=I.un (h':=s.heap) (t':=t) Un.refl I.hok
theorem Inv.kept{t':Nat}(I:Inv X ak σ H s)(k:∀b u,s.heap.get? b=some u->h'.get? b=some u):Inv X ak σ H {s with heap:=h',toks:=t'}:=I.un (Un.kept k) (I.hok.kept k)
theorem Inv.laid{a:Addr}{o:HO}{t':Nat}(I:Inv X ak σ H s)(k:∀b u,s.heap.get? b=some u->h'.get? b=some u)(hp:s.heap.objs.size<=a)(new:aQ X.prog X.w (upd H a o) h' a o) :
  Inv X ak σ (upd H a o) {s with heap:=h',toks:=t'}:=I.un (Un.laid k hp (I.hok.fresh hp)) (I.hok.laid k hp new)
theorem Inv.write{x e:Addr}{o:HO}{t':Nat}(I:Inv X ak σ H s)(mu:Dv (H x))(he:e=x\/H e=some (.own x))(k:∀b u,b≠e->s.heap.get? b=some u->h'.get? b=some u)(heo:∃u,h'.get? e=some u)
  (new:aQ X.prog X.w (upd H x o) h' x o):Inv X ak σ (upd H x o) {s with heap:=h',toks:=t'}:=I.un (Un.write mu he k heo) (I.hok.write mu he k heo new)
theorem Inv.lO{gZ:List (Addr×Obj)}(I:Inv X ak σ H s)(h:∀p∈gZ,s.heap.get? p.1=some p.2/\H p.1=none/\p.1≠X.env.locals/\p.1∉X.fs/\∀v,p.2.data≠.cell v):Inv X gZ σ H s:=
 ⟨I.ok,I.os,I.bare,I.base,I.loc,I.cell,I.free,I.eO,λp hp=>(fG.mp hp).elim (λz=>I.pin p (pB _ z)) (h p),I.hok,I.len⟩
theorem Ln{N:List Str}(hN:N.Nodup){i j:Nat}{x:Str}(a:N[i]?=some x)(b:N[j]?=some x):i=j:=by
 obtain⟨h1,e1⟩:=jo.mp a;obtain⟨h2,e2⟩:=jo.mp b;exact(List.getElem_inj hN).mp (e1.trans e2.symm)
theorem R7{M:Model}{A:Around}{E:Value->Shared->Prop}{i:Nat}{x:Str}{v:V}{u:Value}{Q:Unit->Shared->Prop}(I:Inv X ak σ H s)(hN:X.N.Nodup)(hi:X.N[i]?=some x)(hx:Loc X.env.scope x)(r:RelV v u)
  (h:∀s',Inv X ak (σ.set i (some v)) H s'->(∃a,Heap.SameBut a s.heap s'.heap/\(a=X.env.locals\/X.env.cells.lookup x=some a))->Q () s') (hf:X.fn x=true\/X.env.scope.names.lookup x=some .local:=by first|exact .inl rfl|exact .inr rfl|assumption):wpAny M A (storeName X.env x u) Q E s:=by
 obtain⟨m,hn,hl⟩:=id I.loc;have hcls:(X.env.scope.kind==.class||(X.env.scope.kind==.module&&X.env.locals != X.env.globals))=false:=by rw[I.ok.kind];rfl
 have hiσ:i<σ.length:=by rw[I.len];exact(jo.mp hi).1
 have vC:=I.vC;have tracked:∀{a:Addr} {h':Heap},(∃o,s.heap.get? a=some o/\H a=none)->Heap.SameBut a s.heap h'->gQ X.prog X.w H h':=λ{a h'} ha hs b ob e=>by
  obtain⟨_,_,hfree⟩:=ha;refine(I.hok b ob e).stay (λc w' hc q=>(hs.2 c ?_).trans q) (λ_ q=>q) λ_ _ q=>q;rintro rfl;rcases hc with rfl|hc
  ·rw[hfree] at e;cases e
  ·rw[hfree] at hc;cases hc
 rcases hx with hk|hk
 ·refine wpAny_storeName_local hk hn (λh' hn' hs=>?_) hcls;obtain⟨oL,_,_,hoL,_⟩:=id hn;refine h _ ⟨I.ok,I.os,I.bare,⟨λb o e n hb hx=>?_,λb o e n hb hx=>?_,I.base.free,λb o e hx=>?_,I.base.tups,I.base.jt,I.base.jN⟩,⟨_,hn',λj y v' e1 e2 e3=>?_⟩,λy c e=>?_,I.free,I.eO,λp hp=>?_,tracked ⟨oL,hoL,I.free⟩ hs,by simpa using I.len⟩ ⟨_,hs,.inl rfl⟩
  ·exact(hs.2 b (dh (gH (bM e) I.ok.above))).trans (I.base.keep b o e n hb hx)
  ·obtain⟨sl,e1⟩:=I.base.slot b o e n hb hx;exact⟨sl,(hs.2 b (dh (gH (bM e) I.ok.above))).trans e1⟩
  ·obtain⟨o',e1⟩:=I.base.there b o e hx;exact⟨o',(hs.2 b (dh (gH (bM e) I.ok.above))).trans e1⟩
  ·by_cases hj:j=i
   ·subst hj;rw[hi] at e1;cases e1;rw[wQ hiσ] at e2;cases e2;exact⟨u,r,.inl ⟨hk,by simp⟩⟩
   ·rw[qQ (Ne.symm hj)] at e2;obtain⟨u',r',q⟩:=hl j y v' e1 e2 e3;refine⟨u',r',?_⟩;rcases q with ⟨k,e⟩|⟨k,c,e,z⟩
    ·refine .inl ⟨k,?_⟩;have:y≠x:=λe=>hj (Ln hN e1 (e▸hi));simp[this,e]
    ·exact .inr ⟨k,c,e,z.sameBut hs (vC y c e)⟩
  ·obtain⟨w',z⟩:=I.cell y c e;exact⟨w',z.sameBut hs (vC y c e)⟩
  ·obtain⟨e,n,ne,nf,d⟩:=I.pin p hp;exact⟨(hs.2 p.1 ne).trans e,n,ne,nf,d⟩
 ·have hfn:X.fn x=true:=by
   rcases hf with z|z
   ·exact z
   ·rw[z] at hk;cases hk
  obtain⟨c,hc⟩:=I.ok.has x (.inl hk);obtain⟨w',z⟩:=I.cell x c hc;refine wpAny_storeName_cell I.ok.kind hk hc z (λh' hc' hs=>?_);obtain⟨oc,hoc,Lp⟩:=id z;refine h {s with heap:=h'} ⟨I.ok,I.os,I.bare,⟨λb o e n hb hx=>?_,λb o e n hb hx=>?_,I.base.free,λb o e hx=>?_,I.base.tups,I.base.jt,I.base.jN⟩,⟨m,hn.sameBut hs (Ne.symm (vC x c hc)),λj y v' e1 e2 e3=>?_⟩,λy c' e=>?_,I.free,I.eO,λp hp=>?_,tracked ⟨oc,hoc,I.eO x c hc⟩ hs,by simpa using I.len⟩ ⟨c,hs,.inr hc⟩
  ·exact(hs.2 b (dh (gH (bM e) (I.ok.cab x c hfn hc)))).trans (I.base.keep b o e n hb hx)
  ·obtain⟨sl,e1⟩:=I.base.slot b o e n hb hx;exact⟨sl,(hs.2 b (dh (gH (bM e) (I.ok.cab x c hfn hc)))).trans e1⟩
  ·obtain⟨o',e1⟩:=I.base.there b o e hx;exact⟨o',(hs.2 b (dh (gH (bM e) (I.ok.cab x c hfn hc)))).trans e1⟩
  ·by_cases hj:j=i
   ·subst hj;rw[hi] at e1;cases e1;rw[wQ hiσ] at e2;cases e2;exact⟨u,r,.inr ⟨.inl hk,c,hc,hc'⟩⟩
   ·rw[qQ (Ne.symm hj)] at e2;obtain⟨u',r',q⟩:=hl j y v' e1 e2 e3;refine⟨u',r',?_⟩;rcases q with q|⟨k,c',e,z'⟩
    ·exact .inl q
    ·refine .inr ⟨k,c',e,z'.sameBut hs ?_⟩;rintro rfl;exact hj (Ln hN e1 (I.ok.inj _ _ _ e hc▸hi))
  ·by_cases hcc:c'=c
   ·subst hcc;exact⟨_,hc'⟩
   ·obtain⟨w2,z2⟩:=I.cell y c' e;exact⟨w2,z2.sameBut hs hcc⟩
  ·obtain⟨e,n,ne,nf,d⟩:=I.pin p hp;refine⟨(hs.2 p.1 ?_).trans e,n,ne,nf,d⟩;intro q;rw[q,hoc] at e;have q':oc=p.2:=dw e;exact d w' (by rw[<-q'];exact Lp)
theorem Dz{M:Model}{A:Around}{E:Value->Shared->Prop}{i:Nat}{x:Str}{v:V}{u:Value}{Q:Unit->Shared->Prop}(I:Inv X ak σ H s)(hN:X.N.Nodup)(hi:X.N[i]?=some x)(hx:Loc X.env.scope x)(r:RelV v u)
  (h:∀s',Inv X ak (σ.set i (some v)) H s'->Q () s') (hf:X.fn x=true\/X.env.scope.names.lookup x=some .local:=by first|exact .inl rfl|exact .inr rfl|assumption):wpAny M A (storeName X.env x u) Q E s:=
 R7 I hN hi hx r (λs' I' _=>h s' I') hf
theorem Inv.call'{s':Shared}{ch:List Addr}(I:Inv X ak σ H s)(ho:s'.os=s.os)(u:Un (frs X.stack) ch H H' s.heap s'.heap)(hok:gQ X.prog X.w H' s'.heap)(hg:AllBare s'.gens)
  (hch:∀b∈ch,(b∈X.ex\/X.s₀.heap.get? b=none)/\b≠X.env.locals/\(∀x c,X.env.cells.lookup x=some c->c≠b)/\∀p∈X.pn++ak,p.1≠b):Inv X ak σ H' s':=by
 obtain⟨h',g',d',t',o'⟩:=s';have e:o'=s.os:=ho;subst e;exact I.call (g':=g') (t':=t') (d':=d') u hok hg hch
end
noncomputable abbrev XK:=Value->Option Addr->Hp->Prop
noncomputable abbrev St:=List (Option V)
noncomputable abbrev VK:=V->Hp->Prop
noncomputable abbrev TE:=St->Hp->VK->Prop
noncomputable abbrev TT:=St->Hp->(Bool->Hp->Prop)->Prop
noncomputable abbrev TA:=St->Hp->(List V->Hp->Prop)->Prop
structure Ends where
 nx:St->Hp->Prop
 rt:VK
 bk:St->Hp->Prop:=λ_ _=>False
 ct:St->Hp->Prop:=λ_ _=>False
noncomputable abbrev TS:=Ends->St->Hp->Prop
def EP(X:Cx)(ak:List (Addr×Obj))(σ:St)(Q:VK)(u:Value)(s':Shared):Prop:=∃v H',Inv X ak σ H' s'/\RelV v u/\Q v H'
def TP(X:Cx)(ak:List (Addr×Obj))(σ:St)(Q:Bool->Hp->Prop)(b:Bool)(s':Shared):Prop:=∃H',Inv X ak σ H' s'/\Q b H'
def AP(X:Cx)(ak:List (Addr×Obj))(σ:St)(Q:List V->Hp->Prop)(us:List Value)(s':Shared):Prop:=∃vs H',Inv X ak σ H' s'/\Vals vs us/\Q vs H'
def SP(X:Cx)(ak:List (Addr×Obj))(D:Ends)(f:Flow)(s':Shared):Prop:=
 match f with
 |.next=>∃σ' H',Inv X ak σ' H' s'/\D.nx σ' H'
 |.brk=>∃σ' H',Inv X ak σ' H' s'/\D.bk σ' H'
 |.cont=>∃σ' H',Inv X ak σ' H' s'/\D.ct σ' H'
 |.ret u=>∃v σ' H',Inv X ak σ' H' s'/\RelV v u/\D.rt v H'
def PE(X:Cx)(e:Expr)(t:TE):Prop:=
 ∀(ak:List (Addr×Obj)) (s:Shared) (σ:St) (H:Hp) (Q:VK),Inv X ak σ H s->t σ H Q->wpAny (model X.prog X.w) X.A (eval e X.env) (EP X ak σ Q) X.xe s
def PT(X:Cx)(e:Expr)(t:TT):Prop:=
 ∀(ak:List (Addr×Obj)) (s:Shared) (σ:St) (H:Hp) (Q:Bool->Hp->Prop),Inv X ak σ H s->t σ H Q->wpAny (model X.prog X.w) X.A (isTrue e X.env (eval e X.env)) (TP X ak σ Q) X.xe s
def PW(X:Cx)(e:Expr)(t:TT):Prop:=
 ∀(whole:Sem Value) (ak:List (Addr×Obj)) (s:Shared) (σ:St) (H:Hp) (Q:Bool->Hp->Prop),Inv X ak σ H s->t σ H Q->wpAny (model X.prog X.w) X.A (isTrue e X.env whole) (TP X ak σ Q) X.xe s
theorem ZW{X:Cx}{e:Expr}{t:TT}(h:PW X e t):PT X e t:=h _
def PA(X:Cx)(es:List Expr)(t:TA):Prop:=
 ∀(pos:Pos) (ak:List (Addr×Obj)) (s:Shared) (σ:St) (H:Hp) (Q:List V->Hp->Prop),Inv X ak σ H s->t σ H Q->wpAny (model X.prog X.w) X.A (spliced (backTo pos (starEach es X.env))) (AP X ak σ Q) X.xe s
def PS(X:Cx)(st:Stmt)(t:TS):Prop:=
 ∀(ak:List (Addr×Obj)) (s:Shared) (σ:St) (H:Hp) (D:Ends),Inv X ak σ H s->t D σ H->wpAny (model X.prog X.w) X.A (exec st X.env) (SP X ak D) X.xe s
def nQ(X:Cx)(st:List Stmt)(t:TS):Prop:=
 ∀(ak:List (Addr×Obj)) (s:Shared) (σ:St) (H:Hp) (D:Ends),Inv X ak σ H s->t D σ H->wpAny (model X.prog X.w) X.A (execs st X.env) (SP X ak D) X.xe s
theorem aV{α:Type}{t:Sem α}{Q Q':α->Shared->Prop}{M:Model}{A:Around}{E:Value->Shared->Prop}{s:Shared}(h:wpAny M A t Q E s)(hQ:∀a s,Q a s->Q' a s):wpAny M A t Q' E s:=jr h hQ λ_ _ x=>x
section
variable {X:Cx}
noncomputable def Lq(i:Nat):TE:=λσ H Q=>∃v,σ[i]?=some (some v)/\Q v H
noncomputable def tC(v:V):TE:=λ_ H Q=>Q v H
theorem ZX{i:Nat}{x:Str}{pos:Pos}(hN:X.N[i]?=some x)(hv:Lh X.env.scope x)(hd:(x==("__debug__" : Str))=false:=by decide)(hcd:(x==("__classdict__" : Str))=false:=by decide):PE X (.Name x pos) (Lq i):=by
 intro ak s σ H Q I h;obtain⟨v,e,h⟩:=h;obtain⟨m,hn,hl⟩:=I.loc;obtain⟨u,r,l⟩:=hl i x v hN e hv;have fin:EP X ak σ Q u s:=⟨v,H,I,r,h⟩;rcases l with ⟨hk,hm⟩|⟨hk,c,hc,hcell⟩
 ·exact yM (CW I.ok.kind hk hn hm fin) hd
 ·rcases hk with hk|hk
  ·exact yM (wpAny_loadName_cell I.ok.kind hk hc hcell fin) hd
  ·exact yM (wpAny_loadName_free I.ok.kind hk hc hcell fin hcd) hd
theorem Lr{i j pos}:PE X (.Constant (.int i) j pos) (tC (.int i)):=λ_ _ _ H _ I h=>wpAny_Constant_int ⟨.int i,H,I.tok _,⟨_,rfl⟩,h⟩
theorem Z0{b j pos}:PE X (.Constant (.bool b) j pos) (tC (.bl b)):=λ_ _ _ H _ I h=>Constant_bool ⟨.bl b,H,I,rfl,h⟩
theorem Z1{j pos}:PE X (.Constant .none j pos) (tC .non):=λ_ _ _ H _ I h=>Constant_none ⟨.non,H,I,rfl,h⟩
theorem R8{x j pos}:PE X (.Constant (.str x) j pos) (tC (.str x)):=λ_ _ _ H _ I h=>Calls.Constant_str ⟨.str x,H,I.tok _,⟨_,rfl⟩,h⟩
def Gl(X:Cx)(x:Str):Prop:=X.env.kindOf x=some .globalImplicit
theorem DG{E:Value->Shared->Prop}{ak:List (Addr×Obj)}{s:Shared}{σ:St}{H:Hp}{x:Str}{u:Value}{pos:Pos}{Q:Value->Shared->Prop}(I:Inv X ak σ H s)(hg:Gl X x)(hm:X.mg x=some u)(h:Q u s)
  (hd:(x==("__debug__" : Str))=false:=by decide):wpAny (model X.prog X.w) X.A (eval (.Name x pos) X.env) Q E s:=
 Calls.Name_function_global I.ok.kind hg (Calls.loadGlobal_global (by rw[I.ok.glob];exact I.mod.glob.keeps I.bk) hm h) hd
theorem xJ{E:Value->Shared->Prop}{ak:List (Addr×Obj)}{s:Shared}{σ:St}{H:Hp}{x:Str}{u:Value}{pos:Pos}{Q:Value->Shared->Prop}(I:Inv X ak σ H s)(hg:Gl X x)(hm:X.mg x=none)(hv:bootBuiltins x=some u)(h:Q u s)
  (hn:x≠"__name__":=by decide) (hd:(x==("__debug__" : Str))=false:=by decide):wpAny (model X.prog X.w) X.A (eval (.Name x pos) X.env) Q E s:=by
 obtain⟨mb,h1,h2⟩:=I.mod.blt;exact Calls.Name_function_global I.ok.kind hg (Calls.loadGlobal_builtin (by rw[I.ok.glob];exact I.mod.glob.keeps I.bk) hm (by rw[I.ok.blt];exact h1.keeps I.bk) ((h2 x hn).trans hv) h) hd
theorem R9{x:Str}{v:V}{u:Value}{pos:Pos}(hg:Gl X x)(hm:X.mg x=some u)(r:RelV v u)(hd:(x==("__debug__" : Str))=false:=by decide):PE X (.Name x pos) (tC v):=
 λ_ _ _ H _ I h=>DG I hg hm ⟨v,H,I,r,h⟩ hd
variable {a b:Expr}{ta tb:TE}{pos:Pos}
def PC(X:Cx)(op:CmpOp)(a b:Expr)(t:TE):Prop:=
 ∀(ak:List (Addr×Obj)) (s:Shared) (σ:St) (H:Hp) (Q:VK),Inv X ak σ H s->t σ H Q->
  wpAny (model X.prog X.w) X.A (eval a X.env) (λv s₁=>wpAny (model X.prog X.w) X.A (eval b X.env) (λu s₂=>wpAny (model X.prog X.w) X.A (compareOp op v u) (EP X ak σ Q) X.xe s₂) X.xe s₁) X.xe s
theorem rQ(b:Expr){op:CmpOp}(h:op≠.In)(h2:op≠.NotIn):behindInMarks op b=false:=by
 have e1:(op==CmpOp.In)=false:=by cases op<;>first|rfl|exact absurd rfl h
 have e2:(op==CmpOp.NotIn)=false:=by cases op<;>first|rfl|exact absurd rfl h2
 cases b<;>simp[behindInMarks,e1,e2]
noncomputable def Ls(ta:TE):TE:=λσ H Q=>ta σ H λx H1=>Q (.bl (decide (x=.non))) H1
theorem RelV.rT{x:V}{v:Value}(r:RelV x v):(v==Value.none)=decide (x=.non):=by
 cases x with
 |non=>cases r;rfl
 |bl _=>cases r;rfl
 |int _=>obtain⟨t,rfl⟩:=r;rfl
 |str _=>obtain⟨t,rfl⟩:=r;rfl
 |Bt _=>obtain⟨t,rfl⟩:=r;rfl
 |flt _=>obtain⟨t,rfl⟩:=r;rfl
 |ref _=>cases r;rfl
 |ty _=>cases r;rfl
theorem Z2{j pos'}(ha:PE X a ta):PC X .Is a (.Constant .none j pos') (Ls ta):=by
 intro ak s σ H Q I h;refine aV (ha ak s σ H _ I h) λv s1 hx=>dN hx λx H1 I1 r1 q1=>?_;exact Constant_none (is_none_gen ⟨.bl _,H1,I1,by rw[r1.rT];rfl,q1⟩)
noncomputable def tB(t:TE):TT:=λσ H Q=>t σ H λx H1=>∃c,x=.bl c/\Q c H1
theorem Z4{op:CmpOp}{t:TE}(h:PC X op a b t)(h1:behindInMarks op b=false:=by first|exact rQ _ (by decide) (by decide)|rfl):PE X (.Compare a [op] [b] pos) t:=λak s σ H Q I hw=>wpAny_Compare1 (h ak s σ H Q I hw) h1
theorem Z5{e:Expr}{t:TE}(h:PE X e t)(he:∀whole,isTrue e X.env whole=(do let v <-whole;standAt e.pos;holding [v] (truthy v)):=by intro _;rfl):PT X e (tB t):=by
 intro ak s σ H Q I hw;refine isTrue_plain (aV (h ak s σ H _ I hw) λv s1 hx=>dN hx λx H1 I1 r1 q1=>?_) (he _);obtain⟨d,rfl,q⟩:=q1;cases r1;exact pC ⟨H1,I1,q⟩
variable {tA IW:TT}{rest:List Expr}
noncomputable def Lw(t u:TT):TT:=λσ H Q=>t σ H λc H1=>if c=true then u σ H1 Q else Q false H1
noncomputable def Z6(t u:TT):TT:=λσ H Q=>t σ H λc H1=>if c=true then Q true H1 else u σ H1 Q
noncomputable def Lx(t:TT):TT:=λσ H Q=>t σ H λc H1=>Q (!c) H1
theorem Z7(ha:PT X a tA):PW X (.BoolOp .And [a] pos) tA:=by
 intro wh ak s σ H Q I h;refine isTrue_and (aV (ha ak s σ H Q I h) λc s1 e=>?_);cases c with
 |true=>exact isTrue_and_nil e
 |false=>exact e
theorem Z8(ha:PT X a tA):PW X (.BoolOp .Or [a] pos) tA:=by
 intro wh ak s σ H Q I h;refine isTrue_or (aV (ha ak s σ H Q I h) λc s1 e=>?_);cases c with
 |false=>exact isTrue_or_nil e
 |true=>exact e
theorem Z9(ha:PT X a tA)(hb:PW X (.BoolOp .And (b::rest) pos) IW):PW X (.BoolOp .And (a::b::rest) pos) (Lw tA IW):=by
 intro wh ak s σ H Q I h;refine isTrue_and (aV (ha ak s σ H _ I h) λc s1 hx=>vq hx λH1 I1 q1=>?_);cases c with
 |true=>exact hb wh ak s1 σ H1 Q I1 q1
 |false=>exact⟨H1,I1,q1⟩
theorem Z_(ha:PT X a tA)(hb:PW X (.BoolOp .Or (b::rest) pos) IW):PW X (.BoolOp .Or (a::b::rest) pos) (Z6 tA IW):=by
 intro wh ak s σ H Q I h;refine isTrue_or (aV (ha ak s σ H _ I h) λc s1 hx=>vq hx λH1 I1 q1=>?_);cases c with
 |true=>exact⟨H1,I1,q1⟩
 |false=>exact hb wh ak s1 σ H1 Q I1 q1
theorem zlt(ha:PT X a tA):PT X (.UnaryOp .Not a pos) (Lx tA):=by
 intro ak s σ H Q I h;exact isTrue_not (ha ak s σ H (λc H1=>Q (!c) H1) I h)
noncomputable def DK(ta tb:TE):TE:=λσ H Q=>ta σ H λx H1=>∃c,x=.bl c/\if c=true then tb σ H1 Q else Q (.bl false) H1
noncomputable def DN(ta:TE):TE:=λσ H Q=>ta σ H λx H1=>∃c,x=.bl c/\Q (.bl (!c)) H1
theorem zlQ{op}{t:TE}(h:PE X a t):PE X (.BoolOp op [a] pos) t:=λak s σ H Q I hw=>BoolOp_one (h ak s σ H Q I hw)
theorem zme(ha:PE X a ta)(hb:PE X (.BoolOp .And (b::rest) pos) tb):PE X (.BoolOp .And (a::b::rest) pos) (DK ta tb):=by
 intro ak s σ H Q I h;refine BoolOp_and (aV (ha ak s σ H _ I h) λv s1 hx=>dN hx λx H1 I1 r1 q1=>?_);obtain⟨c,rfl,q1⟩:=q1;cases r1;refine pC ?_;cases c with
 |true=>exact hb ak s1 σ H1 Q I1 q1
 |false=>exact⟨.bl false,H1,I1,rfl,q1⟩
theorem zlZ(ha:PE X a ta):PE X (.UnaryOp .Not a pos) (DN ta):=by
 intro ak s σ H Q I h;refine UnaryOp_ (aV (ha ak s σ H _ I h) λv s1 hx=>dN hx λx H1 I1 r1 q1=>?_);obtain⟨c,rfl,q1⟩:=q1;cases r1;exact not_of (pC ⟨.bl (!c),H1,I1,rfl,q1⟩)
end
def dj(K:PySem.W.Frag)(H:Hp)(a:Addr)(xs:List V):Prop:=
 Rd H a (.lst xs) \/
  ∃(o:Obj) (its:Array Value) (n:Nat),K.lookup a=some o/\o.cls=.type "list"/\o.dict=none/\o.data=.seq its n/\its.size<=sizeLine/\Vals xs its.toList
def fL(K:PySem.W.Frag)(H:Hp)(a:Addr)(xs:List V):Prop:=
 Rd H a (.tup xs) \/
  ∃(o:Obj) (its:Array Value) (n:Nat),K.lookup a=some o/\o.cls=.type "tuple"/\o.data=.seq its n/\its.size<=sizeLine/\Vals xs its.toList
noncomputable def Ly:Value->Option V
 |.none=>some .non
 |.bool b=>some (.bl b)
 |.int i _=>some (.int i)
 |.str x _=>some (.str x)
 |.bytes b _=>some (.Bt b)
 |.float b _=>some (.flt b)
 |.ref a=>some (.ref a)
 |.type n=>some (.ty n)
 |_=>none
theorem RelV.abs{x:V}{u:Value}(r:RelV x u):Ly u=some x:=by
 cases x with
 |non=>cases r;rfl
 |bl _=>cases r;rfl
 |int _=>obtain⟨t,rfl⟩:=r;rfl
 |str _=>obtain⟨t,rfl⟩:=r;rfl
 |Bt _=>obtain⟨t,rfl⟩:=r;rfl
 |flt _=>obtain⟨t,rfl⟩:=r;rfl
 |ref _=>cases r;rfl
 |ty _=>cases r;rfl
theorem RelV.inj{x y:V}{u:Value}(r:RelV x u)(q:RelV y u):x=y:=dw (r.abs.symm.trans q.abs)
theorem Vals.inj{xs ys:List V}{us:List Value}(h:Vals xs us)(h':Vals ys us):xs=ys:=by
 induction h generalizing ys with
 |nil=>cases h';rfl
 |cons r _ ih=>
  cases h' with
  |cons r' t'=>rw[r.inj r',ih t']
section
variable {X:Cx}{ak:List (Addr×Obj)}{σ:St}{H:Hp}{s:Shared}{a:Addr}{xs ys:List V}
theorem dj.of{K:PySem.W.Frag}(h:H a=some (.lst xs)):dj K H a xs:=.inl (.inl h)
theorem Inv.list(I:Inv X ak σ H s)(h:dj X.K H a xs):∃its:List Value,Vals xs its/\PlainL s.heap a its.toArray/\xs.length<=sizeLine:=by
 rcases h with h|⟨o,its,n,hk,hc,hd,hs,hz,r⟩
 ·obtain⟨z,its,n,r,e⟩:=h.ok I.hok;exact⟨its,r,⟨_,n,e,rfl,rfl,rfl⟩,z⟩
 ·refine⟨its.toList,r,⟨o,n,I.qy a o hk,hc,hd,by simpa using hs⟩,?_⟩;have e:=r.length;simp only[Ba] at e
  lia
theorem Inv.tuple(I:Inv X ak σ H s)(h:fL X.K H a xs):∃its:List Value,Vals xs its/\IsTup s.heap a its.toArray/\xs.length<=sizeLine:=by
 rcases h with h|⟨o,its,n,hk,hc,hs,hz,r⟩
 ·obtain⟨z,its,r,p⟩:=h.ok I.hok;exact⟨its,r,p,z⟩
 ·refine⟨its.toList,r,⟨o,I.qy a o hk,hc,n,by simpa using hs⟩,?_⟩;have e:=r.length;simp only[Ba] at e
  lia
theorem Inv.mR(I:Inv X ak σ H s)(h:dj X.K H a xs)(h':dj X.K H a ys):xs=ys:=by
 obtain⟨its,r,⟨o,n,e,_,_,d⟩,_⟩:=I.list h;obtain⟨its',r',⟨o',n',e',_,_,d'⟩,_⟩:=I.list h';rw[e] at e';cases e';rw[d] at d';injection d' with d1 _;have:its=its':=by simpa using qp Array.toList d1
 subst this;exact r.inj r'
theorem Inv.lA(I:Inv X ak σ H s)(h:fL X.K H a xs)(h':fL X.K H a ys):xs=ys:=by
 obtain⟨its,r,⟨o,e,_,n,d⟩,_⟩:=I.tuple h;obtain⟨its',r',⟨o',e',_,n',d'⟩,_⟩:=I.tuple h';rw[e] at e';cases e';rw[d] at d';injection d' with d1 _;have:its=its':=by simpa using qp Array.toList d1
 subst this;exact r.inj r'
end
section
variable {X:Cx}{ak:List (Addr×Obj)}{σ:St}{H:Hp}{s:Shared}{E:Value->Shared->Prop}
end
section
variable {X:Cx}{st:Stmt}{rest:List Stmt}{t u:TS}{e:Expr}{te:TE}{pos:Pos}
noncomputable def DP:TS:=λD σ H=>D.nx σ H
noncomputable def Lz(t u:TS):TS:=λD σ H=>t {D with nx:=u D} σ H
theorem zjU:nQ X [] DP:=λ_ _ σ H _ I h=>Dj ⟨σ,H,I,h⟩
theorem zhF(h1:PS X st t)(h2:nQ X rest u):nQ X (st::rest) (Lz t u):=by
 intro ak s σ H D I h;refine wpAny_execs_cons (aV (h1 ak s σ H {D with nx:=u D} I h) λf s1 q=>?_);cases f with
 |next=>
  obtain⟨σ',H',I',q⟩:=q;exact h2 ak s1 σ' H' D I' q
 |ret v=>exact q
 |brk=>exact q
 |cont=>exact q
theorem Inv.quiet{ak:List (Addr×Obj)}{σ:St}{H:Hp}{s:Shared}(I:Inv X ak σ H s):interactive X.env=false:=by simp[interactive,I.ok.kind]
noncomputable def DQ(te:TE):TS:=λD σ H=>te σ H λ_ H1=>D.nx σ H1
theorem zkl(he:PE X e te)(hs:swapsWith e none pos.line X.env=pure false:=by rfl):PS X (.Expr e pos) (DQ te):=by
 intro ak s σ H D I h;exact wpAny_Expr_any (aV (he ak s σ H _ I h) λv s1 hx=>dN hx λx H1 I1 r1 q1=>⟨σ,H1,I1,q1⟩) I.quiet hs
noncomputable def LC(te:TE):TS:=λD σ H=>te σ H D.rt
theorem zlK(he:PE X e te):PS X (.Return (some e) pos) (LC te):=by
 intro ak s σ H D I h;exact wpAny_Return_some (aV (he ak s σ H _ I h) λv s1 hx=>dN hx λx H1 I1 r1 q1=>⟨x,σ,H1,I1,r1,q1⟩)
noncomputable def LQ(c:TT)(t u:TS):TS:=λD σ H=>c σ H λb H1=>if b=true then t D σ H1 else u D σ H1
theorem zm3{c:Expr}{a b:List Stmt}{tc:TT}(hc:PT X c tc)(ha:nQ X a t)(hb:nQ X b u):PS X (.If c a b pos) (LQ tc t u):=by
 intro ak s σ H D I h;refine wpAny_If (aV (hc ak s σ H _ I h) λd s1 hx=>vq hx λH1 I1 q1=>?_);cases d with
 |true=>exact ha ak s1 σ H1 D I1 q1
 |false=>exact hb ak s1 σ H1 D I1 q1
end
noncomputable abbrev TG:=V->St->Hp->(St->Hp->Prop)->Prop
noncomputable abbrev yS:=List V->St->Hp->(St->Hp->Prop)->Prop
def PG(X:Cx)(target:Expr)(t:TG):Prop:=
 ∀(ak:List (Addr×Obj)) (s:Shared) (σ:St) (H:Hp) (v:V) (u:Value) (Q:St->Hp->Prop),Inv X ak σ H s->RelV v u->t v σ H Q->
  wpAny (model X.prog X.w) X.A (assign target X.env u) (λ_ s'=>∃σ' H',Inv X ak σ' H' s'/\Q σ' H') X.xe s
def I8(X:Cx)(ts:List Expr)(t:yS):Prop:=
 ∀(ak:List (Addr×Obj)) (s:Shared) (σ:St) (H:Hp) (vs:List V) (us:List Value) (Q:St->Hp->Prop),Inv X ak σ H s->Vals vs us->t vs σ H Q->
  wpAny (model X.prog X.w) X.A (assignInOrder ((assignEach ts X.env).map (·.2)) us) (λ_ s'=>∃σ' H',Inv X ak σ' H' s'/\Q σ' H') X.xe s
noncomputable abbrev yU:=V->V->V->Hp->(Hp->Prop)->Prop
def DR(X:Cx)(t:yU):Prop:=
 ∀(ak:List (Addr×Obj)) (s:Shared) (σ:St) (H:Hp) (o i v:V) (ov iv u:Value) (Q:Hp->Prop),Inv X ak σ H s->RelV o ov->RelV i iv->RelV v u->t o i v H Q->
  wpAny (model X.prog X.w) X.A (setItem ov iv u) (λ_ s'=>∃H',Inv X ak σ H' s'/\Q H') X.xe s
section
variable {X:Cx}{pos:Pos}
noncomputable def dU(i:Nat):TG:=λv σ H Q=>Q (σ.set i (some v)) H
theorem I9{i:Nat}{x:Str}(hN:X.N.Nodup)(hi:X.N[i]?=some x)(hx:Loc X.env.scope x)(hf:X.fn x=true\/X.env.scope.names.lookup x=some .local:=by first|exact .inl rfl|exact .inr rfl|assumption):PG X (.Name x pos) (dU i):=by
 intro ak s σ H v u Q I r h;exact wpAny_assign_Name (Dz I hN hi hx r (λs' I'=>⟨_,H,I',h⟩) hf)
noncomputable def rW:yS:=λvs σ H Q=>vs=[]/\Q σ H
noncomputable def g8(t:TG)(u:yS):yS:=λvs σ H Q=>∃v r,vs=v::r/\t v σ H λσ' H'=>u r σ' H' Q
theorem zjz:I8 X [] rW:=by
 intro ak s σ H vs us Q I r h;obtain⟨e,h⟩:=h;subst e;cases r;exact assignInOrder_nil ⟨σ,H,I,h⟩
theorem R_{e:Expr}{es:List Expr}{t:TG}{u:yS}(h1:PG X e t)(h2:I8 X es u)
  (hs:(assignEach (e::es) X.env).map (·.2)=assign e X.env::(assignEach es X.env).map (·.2):=by rfl):I8 X (e::es) (g8 t u):=by
 intro ak s σ H vs us Q I r h;obtain⟨v,vr,e1,h⟩:=h;subst e1;cases r with
 |cons r rr=>
  rw[hs];refine assignInOrder_cons (aV (h1 ak s σ H _ _ _ I r h) λ_ s1 ⟨σ1,H1,I1,q1⟩=>?_);exact h2 ak s1 σ1 H1 _ _ Q I1 rr q1
noncomputable def rY(K:PySem.W.Frag)(n:Nat)(t:yS):TG:=λv σ H Q=>∃a xs,v=.ref a/\fL K H a xs/\xs.length=n/\t xs σ H Q
theorem zlW{es:List Expr}{k:Nat}{t:yS}{n:Nat}(hc:X.aj=true)(h:I8 X es t)
  (hn:(assignEach es X.env).length=n:=by rfl) (hst:(assignEach es X.env).findIdx? (·.1)=none:=by rfl):PG X (.Tuple es k pos) (rY X.K n t):=by
 intro ak s σ H v u Q I r hw;obtain⟨a,xs,e1,hq,hl,hw⟩:=hw;subst e1;cases r;obtain⟨its,rv,ht,hz⟩:=I.tuple hq;refine assign_Tuple_tuple (I.ok.hd hc) ht (by simp[hn,<-hl,rv.length]) hst λh' hx=>?_;have I1:Inv X ak σ H {s with heap:=h'}:=I.kept (t':=s.toks) λb o e=>hx b o (dh (bM e)) e;exact h ak _ σ H xs _ Q I1 (by simpa using rv) hw
noncomputable def LR(to ti:TE)(t:yU):TG:=λv σ H Q=>to σ H λo H1=>ti σ H1 λi H2=>t o i v H2 λH3=>Q σ H3
theorem zmB{o i:Expr}{to ti:TE}{t:yU}(ho:PE X o to)(hi:PE X i ti)(hs:DR X t)
  (ha:∀v,assign (.Subscript o i pos) X.env v=(do
   let ov <-holding [v] (eval o X.env)
   let iv <-holding [v,ov] (eval i X.env)
   standAt pos
   holding [v,ov,iv] (setItem ov iv v)
   release [v,ov,iv] []):=by intro _;rfl):PG X (.Subscript o i pos) (LR to ti t):=by
 intro ak s σ H v u Q I r h;rw[ha];refine au (kE (aV (ho ak s σ H _ I h) λov s1 hx=>dN hx λx H1 I1 r1 q1=>?_));refine au (kE (aV (hi ak s1 σ H1 _ I1 q1) λiv s2 hx=>dN hx λy H2 I2 r2 q2=>?_));refine au (rM (au (kE (aV (hs ak s2 σ H2 x y v ov iv u _ I2 r1 r2 r q2) λ_ s3 hx=>vq hx λH3 I3 q3=>?_))));exact wpAny_release ⟨σ,H3,I3,q3⟩
noncomputable def yV(te:TE)(g:TG):TS:=λD σ H=>te σ H λx H1=>g x σ H1 D.nx
theorem Sd{tg e:Expr}{te:TE}{g:TG}(he:PE X e te)(hg:PG X tg g)(hs:swapsWithSole [tg] e pos.line X.env=pure false:=by rfl)(hw:swappedStores [tg] e X.env=pure none:=by rfl)
  (h1:(assignEach [tg] X.env).map (·.2)=[assign tg X.env]:=by rfl):PS X (.Assign [tg] e pos) (yV te g):=by
 intro ak s σ H D I h;refine wpAny_Assign_stores (aV (he ak s σ H _ I h) λv s1 hx=>dN hx λx H1 I1 r1 q1=>?_) hs hw;rw[h1];exact aV (hg ak s1 σ H1 x v _ I1 r1 q1) λ_ s2 q=>q
theorem zks{i:Nat}{x:Str}{e:Expr}{te:TE}{pos':Pos}(hN:X.N.Nodup)(hi:X.N[i]?=some x)(hx:Loc X.env.scope x)(he:PE X e te)(hs:swapsWith e (some (.Name x pos')) pos.line X.env=pure false:=by rfl)(hf:X.fn x=true\/X.env.scope.names.lookup x=some .local:=by first|exact .inl rfl|exact .inr rfl|assumption) :
  PS X (.Assign [.Name x pos'] e pos) (yV te (dU i)):=by
 intro ak s σ H D I h;refine wpAny_Assign_Name (aV (he ak s σ H _ I h) λv s1 ⟨y,H1,I1,r1,q1⟩=>?_) hs;exact Dz I1 hN hi hx r1 (λs2 I2=>⟨_,H1,I2,q1⟩) hf
noncomputable def L_(i j:Nat)(ta:TA):TS:=λD σ H=>ta σ H λvs H1=>∃v w,vs=[v,w]/\D.nx ((σ.set i (some v)).set j (some w)) H1
theorem zkq{i j:Nat}{x y:Str}{a b:Expr}{ta:TA}{px py pt:Pos}{kt k2 rZ}(hc:X.aj=true)(hN:X.N.Nodup)(hi:X.N[i]?=some x)(hj:X.N[j]?=some y)(hij:i≠j)
  (hx:X.env.scope.names.lookup x=some .local) (hy:X.env.scope.names.lookup y=some .local) (ha:PA X [a,b] ta)
  (hw:swappedStores [.Tuple [.Name x px,.Name y py] kt pt] (.Tuple [a,b] k2 rZ) X.env=pure (some [x,y]))
  (hs:swapsWithSole [.Tuple [.Name x px,.Name y py] kt pt] (.Tuple [a,b] k2 rZ) pos.line X.env=pure false:=by rfl) :
  PS X (.Assign [.Tuple [.Name x px,.Name y py] kt pt] (.Tuple [a,b] k2 rZ) pos) (L_ i j ta):=by
 intro ak s σ H D I h;rw[exec_Assign_arm];refine au (rM ?_);rw[hs];refine au (aJ ?_);rw[if_neg (by decide)];refine au (Tuple_ (aV (ha _ ak s σ H _ I h) λus s1 ⟨vs,H1,I1,r1,q1⟩=>?_));obtain⟨v,w,e1,q1⟩:=q1;subst e1;obtain⟨u1,u2,rfl,rv,mU⟩ : ∃u1 u2,us=[u1,u2]/\RelV v u1/\RelV w u2:=by
  cases r1 with
  |cons p q=>
   cases q with
   |cons p' q'=>
    cases q';exact⟨_,_,rfl,p,p'⟩
 refine nO ?_ (by show 2<=sizeLine;decide);have I2:Inv X ak σ H1 {s1 with heap:=s1.heap.push {cls:=.type "tuple",data:=.seq [u1,u2].toArray}}:=I1.kept (t':=s1.toks) λb o e=>bZ _ e;rw[hw];refine au (aJ ?_);show wpAny (model X.prog X.w) X.A (do rule "assign.swapped-stores";let items <-unpackItems (.ref s1.heap.objs.size) 2 none;assignInOrder [λv=>bindName X.env y v,λv=>bindName X.env x v] items.reverse;pure Flow.next) _ _ _;refine au (Bs (au (unpackItems_tuple (items:=#[u1,u2]) (I.ok.hd hc) (IsTup.new s1.heap _) λh' hx'=>?_)));have I3:=I2.kept (h':=h') (t':=s1.toks) λb o e=>hx' b o (dh (bM e)) e;show wpAny _ _ (assignInOrder [λv=>bindName X.env y v,λv=>bindName X.env x v] [u2,u1] >>= λ_=>pure Flow.next) _ _ _;refine au (assignInOrder_cons (wpAny_bindName (Dz I3 hN hj (.inl hy) mU (λs2 I4=>?_) (.inr hy))));refine assignInOrder_cons (wpAny_bindName (Dz I4 hN hi (.inl hx) rv (λs3 I5=>assignInOrder_nil (aJ ?_)) (.inr hx)));rw[List.set_comm _ _ (Ne.symm hij)] at I5;exact⟨_,H1,I5,q1⟩
end
section
variable {X:Cx}{pos:Pos}
noncomputable def yW(c:TT)(tb:TS):TS:=λD σ H=>∃W:Nat->St->Hp->Prop,(∃m,W m σ H)/\∀m σ H,W m σ H->
 c σ H λb H1=>if b=true then ∃N:St->Hp->Prop,(∀σ' H',N σ' H'->∃m',m'<m/\W m' σ' H')/\tb {D with nx:=N,ct:=N,bk:=D.nx} σ H1 else D.nx σ H1
theorem zhu{c:Expr}{body:List Stmt}{tc:TT}{tb:TS}(hp:PassesOwn (model X.prog X.w) X.A X.env X.xe)(hc:PT X c tc)(hb:nQ X body tb):PS X (.While c body [] pos) (yW tc tb):=by
 intro ak s σ H D I h;obtain⟨W,⟨m0,w0⟩,turn⟩:=h;refine wpAny_While (codeAny_whileLoop (λn s'=>∃σ' H',Inv X ak σ' H' s'/\W n σ' H') ?_ m0 ⟨σ,H,I,w0⟩);rintro n s1 ⟨σ1,H1,I1,w1⟩;refine yL hp (aV (hc ak s1 σ1 H1 _ I1 (turn n σ1 H1 w1)) λb s2 hx=>vq hx λH2 I2 q2=>?_);cases b with
 |true=>
  obtain⟨N,hN,q2⟩:=q2;rw[if_pos rfl];refine yL hp (aV (hb ak s2 σ1 H2 _ I2 q2) λf s3 q3=>?_);cases f with
  |next=>
   obtain⟨σ3,H3,I3,n3⟩:=q3;obtain⟨m',hm,w3⟩:=hN σ3 H3 n3;exact⟨m',hm,σ3,H3,I3,w3⟩
  |cont=>
   obtain⟨σ3,H3,I3,n3⟩:=q3;obtain⟨m',hm,w3⟩:=hN σ3 H3 n3;exact⟨m',hm,σ3,H3,I3,w3⟩
  |brk=>exact q3
  |ret v=>exact q3
 |false=>
  rw[if_neg HW];exact Dj ⟨σ1,H2,I2,q2⟩
end
structure It where
 go:Nat->Hp->Prop
 yX:Nat->Hp->V->Hp->Prop
 stop:Nat->Hp->Prop
def iM(X:Cx)(ak:List (Addr×Obj))(H:Hp)(b:Addr):Prop:=
 H b=none/\b≠X.env.locals/\b∉X.fs/\(b∈X.ex\/X.s₀.heap.objs.size<=b)/\(∀x c,X.env.cells.lookup x=some c->c≠b)/\∀p∈X.pn++ak,p.1≠b
theorem Inv.vD{X:Cx}{ak:List (Addr×Obj)}{σ:St}{H H':Hp}{s:Shared}{b:Addr}(I:Inv X ak σ H s)(hb:s.heap.objs.size<=b)(hn:H' b=none):iM X ak H' b:=by
 refine⟨hn,uG (gH I.lt hb),I.Lj hb,.inr (n8 I.sz hb),λx c e z=>?_,λp hp z=>?_⟩
 ·obtain⟨v,q⟩:=I.cell x c e;exact absurd (gH q.lt (by rw[z];exact hb)) (mL _)
 ·exact absurd (gH (bM (I.pin p hp).1) (by rw[z];exact hb)) (mL _)
structure Turn(P:Program)(w:World)(K:PySem.W.Frag)(tg:Expr)(J:It)(fp:List Addr)(it:Addr)(tn:Nat->Heap->Prop):Prop where
 mem:it∈fp
 obj:∀i h,tn i h->∀b∈fp,∃o,h.get? b=some o/\∀v,o.data≠.cell v
 keep:∀i h h',tn i h->(∀b∈fp,∀o,h.get? b=some o->h'.get? b=some o)->tn i h'
 item:∀(X:Cx),X.prog=P->X.w=w->X.K=K->X.aj=true->∀(i:Nat) (ak:List (Addr×Obj)) (s:Shared) (σ:St) (H:Hp) (E:Value->Shared->Prop),Inv X ak σ H s->(∀b∈fp,iM X ak H b)->tn i s.heap->J.go i H->
  wpAny (model P w) X.A (pyNext (.ref it)) (λr s1=>∃u,r=some u /\
   wpAny (model P w) X.A (letOwnedTupleGo tg (.ref it) u) (λ_ s2=>∃x H',Inv X ak σ H' s2/\RelV x u/\J.yX i H x H'/\tn (i+1) s2.heap/\∀b∈fp,H' b=none) E s1) E s
 done:∀(X:Cx),X.prog=P->X.w=w->X.K=K->X.aj=true->∀(i:Nat) (ak:List (Addr×Obj)) (s:Shared) (σ:St) (H:Hp) (E:Value->Shared->Prop),Inv X ak σ H s->(∀b∈fp,iM X ak H b)->tn i s.heap->J.stop i H->
  wpAny (model P w) X.A (pyNext (.ref it)) (λr s1=>r=none/\Inv X ak σ H s1) E s
 self:∀(A:Around) (i:Nat) (s:Shared) (Q:Value->Shared->Prop) (E:Value->Shared->Prop),tn i s.heap->Q (.ref it) s->wpAny (model P w) A (pyIter (.ref it)) Q E s
noncomputable abbrev TI:=St->Hp->(It->Hp->Prop)->Prop
def PIE(X:Cx)(ak:List (Addr×Obj))(σ:St)(tg:Expr)(R:It->Hp->Prop)(itv:Value)(s2:Shared):Prop:=
 ∃(it:Addr) (fp:List Addr) (tn:Nat->Heap->Prop) (J:It) (H':Hp),itv=.ref it/\Inv X ak σ H' s2/\Turn X.prog X.w X.K tg J fp it tn/\tn 0 s2.heap/\(∀b∈fp,iM X ak H' b)/\R J H'
def PI(X:Cx)(tg iter:Expr)(wi:TI):Prop:=
 ∀(ak:List (Addr×Obj)) (s:Shared) (σ:St) (H:Hp) (R:It->Hp->Prop),Inv X ak σ H s->wi σ H R->
  wpAny (model X.prog X.w) X.A (eval iter X.env) (λv s1=>wpAny (model X.prog X.w) X.A (pyIter v) (PIE X ak σ tg R) X.xe s1) X.xe s
theorem Ma{M:Model}{A:Around}{E:Value->Shared->Prop}{s:Shared}{tg:Expr}{it:Addr}{u:Value}{o:Obj}{n:String}{vs:Array Value}{Q:Unit->Shared->Prop}(ho:s.heap.get? it=some o)(hc:o.cls=.type n)(hd:o.data=.fields vs)
  (hn:["enumerate","zip","dict_itemiterator","dict_reverseitemiterator","odict_iterator","itertools.zip_longest","itertools.pairwise"].contains n=false) (hQ:Q () s):wpAny M A (letOwnedTupleGo tg (.ref it) u) Q E s:=by
 unfold letOwnedTupleGo;cases tg<;>first
  |exact aJ hQ
  | (cases u<;>first
    |exact aJ hQ
    | (refine au (wpAny_load ho ?_)
       rw[hc,hd];show wpAny M A (if (["enumerate","zip","dict_itemiterator","dict_reverseitemiterator","odict_iterator","itertools.zip_longest","itertools.pairwise"].contains n&&vs[0]?==some (rawInt _))=true then _ else _) Q E s;rw[if_neg (by intro h;rw[hn,Ip] at h;cases h)];exact aJ hQ))
noncomputable def I_(K:PySem.W.Frag)(a:Addr):It:=
 ⟨λi H=>∃xs x,dj K H a xs/\xs[i]?=some x,λi H x H'=>H'=H/\∀xs,dj K H a xs->xs[i]?=some x,λi H=>∃xs,dj K H a xs/\xs.length<=i⟩
noncomputable def Mf(K:PySem.W.Frag)(a:Addr):It:=
 ⟨λi H=>∃xs x,fL K H a xs/\xs[i]?=some x,λi H x H'=>H'=H/\∀xs,fL K H a xs->xs[i]?=some x,λi H=>∃xs,fL K H a xs/\xs.length<=i⟩
noncomputable def DW(lo:Int)(n:Nat):It:=⟨λi _=>i<n,λi H x H'=>H'=H/\x=.int (lo+i),λi _=>n<=i⟩
theorem zgX{P:Program}{w:World}{K:PySem.W.Frag}{tg:Expr}(a it:Addr):Turn P w K tg (I_ K a) [it] it (λi h=>h.IsListIter it a i) where
 mem:=by simp
 obj:=λi h st b hb=>by
  have e:b=it:=by simpa using hb
  subst e;obtain⟨o,e,c,d⟩:=st;exact⟨o,e,λv z=>by rw[d] at z;cases z⟩
 keep:=λi h h' st k=>st.at λo e=>k it (by simp) o e
 item:=by
  intro X hP hw hK hc i ak s σ H E I hf st hg;subst hP hw hK;obtain⟨xs,x,hq,hx⟩:=hg;obtain⟨its,rv,p,hz⟩:=I.list hq;obtain⟨u,hu,ru⟩:=rv.get hx;obtain⟨f0,f1,f2,f3,f4,f5⟩:=hf it (by simp);refine wpAny_pyNext_list_item st p.isList (x:=u) (by simpa using hu) λh' st' sb=>?_;have I1:Inv X ak σ H {s with heap:=h'}:=I.turned (t':=s.toks) (λb o hb e=>(sb.2 b hb).trans e) f0 f1 f3 f4 f5;obtain⟨o,e,c,d⟩:=id st';exact⟨u,rfl,Ma (s:={s with heap:=h'}) e c d (by decide) ⟨x,H,I1,ru,⟨rfl,λys hy=>by rw[I.mR hy hq];exact hx⟩,st',λb hb=>(hf b hb).1⟩⟩
 done:=by
  intro X hP hw hK hc i ak s σ H E I hf st hg;subst hP hw hK;obtain⟨xs,hq,hx⟩:=hg;obtain⟨its,rv,p,hz⟩:=I.list hq;obtain⟨f0,f1,f2,f3,f4,f5⟩:=hf it (by simp);have hl:=rv.length;exact wpAny_pyNext_list_end (I.ok.hd hc) st p.isList (by simp;lia) λh' eb=>⟨rfl,I.turned (t':=s.toks) (λb o hb e=>eb b o hb e) f0 f1 f3 f4 f5⟩
 self:=λ_ _ _ _ _ st h=>wpAny_pyIter_listiter st h
theorem zfp{P:Program}{w:World}{K:PySem.W.Frag}{tg:Expr}(a it:Addr):Turn P w K tg (Mf K a) [it] it (λi h=>h.IsTupleIter it a i) where
 mem:=by simp
 obj:=λi h st b hb=>by
  have e:b=it:=by simpa using hb
  subst e;obtain⟨o,e,c,d⟩:=st;exact⟨o,e,λv z=>by rw[d] at z;cases z⟩
 keep:=λi h h' st k=>st.at λo e=>k it (by simp) o e
 item:=by
  intro X hP hw hK hc i ak s σ H E I hf st hg;subst hP hw hK;obtain⟨xs,x,hq,hx⟩:=hg;obtain⟨its,rv,p,hz⟩:=I.tuple hq;obtain⟨u,hu,ru⟩:=rv.get hx;obtain⟨f0,f1,f2,f3,f4,f5⟩:=hf it (by simp);refine wpAny_pyNext_tuple_item st (show s.heap.IsTuple a its.toArray from p) (x:=u) (by simpa using hu) λh' st' sb=>?_;have I1:Inv X ak σ H {s with heap:=h'}:=I.turned (t':=s.toks) (λb o hb e=>(sb.2 b hb).trans e) f0 f1 f3 f4 f5;obtain⟨o,e,c,d⟩:=id st';exact⟨u,rfl,Ma (s:={s with heap:=h'}) e c d (by decide) ⟨x,H,I1,ru,⟨rfl,λys hy=>by rw[I.lA hy hq];exact hx⟩,st',λb hb=>(hf b hb).1⟩⟩
 done:=by
  intro X hP hw hK hc i ak s σ H E I hf st hg;subst hP hw hK;obtain⟨xs,hq,hx⟩:=hg;obtain⟨its,rv,p,hz⟩:=I.tuple hq;obtain⟨f0,f1,f2,f3,f4,f5⟩:=hf it (by simp);have hl:=rv.length;exact wpAny_pyNext_tuple_end (I.ok.hd hc) st (show s.heap.IsTuple a its.toArray from p) (by simp;lia) λh' eb=>⟨rfl,I.turned (t':=s.toks) (λb o hb e=>eb b o hb e) f0 f1 f3 f4 f5⟩
 self:=λ_ _ _ _ _ st h=>wpAny_pyIter_tupleiter st h
theorem ze7{P:Program}{w:World}{K:PySem.W.Frag}{tg:Expr}(it:Addr)(lo:Int)(n:Nat):Turn P w K tg (DW lo n) [it] it (λi h=>IsRangeIter h it (lo+(i:Nat)*1) ((n:Int)-(i:Nat)) 1) where
 mem:=by simp
 obj:=λi h st b hb=>by
  have e:b=it:=by simpa using hb
  subst e;exact⟨_,st,λv z=>by
   have z':Data.fields _=Data.cell v:=z;cases z'⟩
 keep:=λi h h' st k=>k it (by simp) _ st
 item:=by
  intro X hP hw hK hc i ak s σ H E I hf st hg;subst hP hw hK;obtain⟨f0,f1,f2,f3,f4,f5⟩:=hf it (by simp);have W:=Walks.range (prog:=X.prog) (w:=X.w) (I.ok.hd hc) it lo 1 n;refine W.item i s _ _ hg st λv h' tk hv st' kk=>?_;obtain⟨t,rfl⟩:=hv;have I1:Inv X ak σ H {s with heap:=h',toks:=tk}:=I.turned (λb o hb e=>kk b o (by simpa using hb) e) f0 f1 f3 f4 f5;refine⟨_,rfl,Ma (s:={s with heap:=h',toks:=tk}) (n:="range_iterator") st' rfl rfl (by decide) ⟨.int (lo+i),H,I1,⟨t,?_⟩,⟨rfl,rfl⟩,st',λb hb=>(hf b hb).1⟩⟩;rw[Int.mul_one]
 done:=by
  intro X hP hw hK hc i ak s σ H E I hf st hg;subst hP hw hK;obtain⟨f0,f1,f2,f3,f4,f5⟩:=hf it (by simp);exact wpAny_pyNext_range_end (I.ok.hd hc) st (by have:n<=i:=hg;lia) λh' eb=>⟨rfl,I.turned (t':=s.toks) (λb o hb e=>eb b o hb e) f0 f1 f3 f4 f5⟩
 self:=λ_ _ _ _ _ st h=>wpAny_pyIter_rangeiter st h
section
variable {X:Cx}{tg:Expr}
theorem Sg{ak:List (Addr×Obj)}{σ:St}{H:Hp}{s:Shared}{R:It->Hp->Prop}{E:Value->Shared->Prop}{lo hi:Int}{t u v:Tok}{tk:Nat}(I:Inv X ak σ H s)(h1 : -(2^62)<=lo)(h2:lo<2^62)(h3 : -(2^62)<=hi)(h4:hi<2^62)
  (q:R (DW lo (hi-lo).toNat) H):wpAny (model X.prog X.w) X.A (pyIter (.ref s.heap.objs.size)) (PIE X ak σ tg R) E {s with heap:=s.heap.push {cls:=.type "range",data:=.fields #[.int lo t,.int hi u,.int 1 v]},toks:=tk}:=by
 refine wpAny_pyIter_range (IsRange.new ..) (small_one h1 h2 h3 h4) ?_;have I1:Inv X ak σ H {s with heap:=s.heap.push {cls:=.type "range",data:=.fields #[.int lo t,.int hi u,.int 1 v]},toks:=tk}:=I.kept λb o e=>bZ _ e;refine⟨(s.heap.push {cls:=.type "range",data:=.fields #[.int lo t,.int hi u,.int 1 v]}).objs.size,[(s.heap.push {cls:=.type "range",data:=.fields #[.int lo t,.int hi u,.int 1 v]}).objs.size],_,_,H,rfl,
  I1.kept (t':=tk) λb o e=>bZ _ e,ze7 _ lo (hi-lo).toNat,?_,λb hb=>?_,q⟩
 ·have e1:lo+((0:Nat):Int)*1=lo:=by simp
  have e2:(((hi-lo).toNat:Nat):Int)-((0:Nat):Int)=Builtin.Range.rangeSize lo hi 1:=by rw[rangeSize_one];split<;>lia
  show IsRangeIter _ _ (lo+((0:Nat):Int)*1) ((((hi-lo).toNat:Nat):Int)-((0:Nat):Int)) 1;rw[e1,e2];exact gW _ rfl
 ·have e:b=(s.heap.push {cls:=.type "range",data:=.fields #[.int lo t,.int hi u,.int 1 v]}).objs.size:=by simpa using hb
  subst e;exact I1.vD (cg _) (I1.hok.fresh (cg _))
noncomputable def DX(ta:TA):TI:=λσ H R=>ta σ H λvs H1=>∃j:Int,vs=[.int j]/\-(2^62)<=j/\j<2^62/\R (DW 0 j.toNat) H1
noncomputable def DY(ta:TA):TI:=λσ H R=>ta σ H λvs H1=>∃i j:Int,vs=[.int i,.int j]/\(-(2^62)<=i/\i<2^62/\-(2^62)<=j/\j<2^62)/\R (DW i (j-i).toNat) H1
theorem zgm{a:Expr}{ta:TA}{p pos:Pos}(hg:Gl X "range")(hm:X.mg "range"=none)(ha:PA X [a] ta)(hs:starEach [a] X.env=[(false,eval a X.env)]:=by rfl):PI X tg (.Call (.Name "range" p) [a] [] pos) (DX ta):=by
 intro ak s σ H R I h;refine Call_ (xJ I hg hm boot_range (CJ (aV (ha pos ak s σ H _ I h) λus s1 hx=>dN hx λvs H1 I1 r1 q1=>?_) hs rfl));obtain⟨j,e,q1,q2,q⟩:=q1;subst e;cases r1 with
 |cons r rr=>
  cases rr;obtain⟨t,rfl⟩:=r;exact call_range_1 (Sg I1 (by lia) (by lia) q1 q2 (by simpa using q))
theorem zfV{a b:Expr}{ta:TA}{p pos:Pos}(hg:Gl X "range")(hm:X.mg "range"=none)(ha:PA X [a,b] ta)(hs:starEach [a,b] X.env=[(false,eval a X.env),(false,eval b X.env)]:=by rfl)(hs2:starEach [b] X.env=[(false,eval b X.env)]:=by rfl) :
  PI X tg (.Call (.Name "range" p) [a,b] [] pos) (DY ta):=by
 intro ak s σ H R I h;refine Call_ (xJ I hg hm boot_range (CJ (aV (ha pos ak s σ H _ I h) λus s1 hx=>dN hx λvs H1 I1 r1 q1=>?_) (by rw[hs,hs2]) (by rw[hs2];rfl)));obtain⟨i,j,e,⟨q1,q2,q3,q4⟩,q⟩:=q1;subst e;cases r1 with
 |cons r rr=>
  cases rr with
  |cons r' rr=>
   cases rr;obtain⟨t,rfl⟩:=r;obtain⟨t',rfl⟩:=r';exact call_range_2 (Sg I1 q1 q2 q3 q4 q)
noncomputable def Mg(wi:TI)(g:TG)(tb:TS):TS:=λD σ H=>wi σ H λJ H1=>∃W:Nat->Nat->St->Hp->Prop,(∃m,W 0 m σ H1)/\∀i m σ H,W i m σ H->
 (J.stop i H/\D.nx σ H)\/(J.go i H/\∃N:St->Hp->Prop,(∀σ' H',N σ' H'->∃m',m'<m/\W (i+1) m' σ' H')/\∀x H',J.yX i H x H'->g x σ H' λσ2 H2=>tb {D with nx:=N,ct:=N,bk:=D.nx} σ2 H2)
noncomputable def jP(fp:List Addr)(h:Heap):List (Addr×Obj):=fp.filterMap λb=>(h.get? b).map λo=>(b,o)
theorem Ja{fp:List Addr}{h:Heap}{b:Addr}{o:Obj}(hb:b∈fp)(e:h.get? b=some o):(b,o)∈jP fp h:=K8.mpr ⟨b,hb,by rw[e];rfl⟩
theorem zg1{fp:List Addr}{h:Heap}{p:Addr×Obj}(hp:p∈jP fp h):p.1∈fp/\h.get? p.1=some p.2:=by
 obtain⟨b,hb,e⟩:=K8.mp hp;cases q:h.get? b with
 |none=>rw[q] at e;cases e
 |some o=>
  rw[q] at e;have e':(b,o)=p:=dw e;subst e';exact⟨hb,q⟩
theorem Inv.pinned{ak:List (Addr×Obj)}{σ:St}{H:Hp}{s:Shared}{fp:List Addr}(I:Inv X ak σ H s)(hf:∀b∈fp,iM X ak H b)(ho:∀b∈fp,∃o,s.heap.get? b=some o/\∀v,o.data≠.cell v):Inv X (ak++jP fp s.heap) σ H s:=
 I.lO λp hp=>(fG.mp hp).elim (λz=>I.pin p (nW _ z)) λz=>by
  obtain⟨hb,e⟩:=zg1 z;obtain⟨f0,f1,f2,_⟩:=hf p.1 hb;obtain⟨o,e',d⟩:=ho p.1 hb;rw[e] at e';cases e';exact⟨e,f0,f1,f2,d⟩
theorem Inv.g_{ak pl:List (Addr×Obj)}{σ:St}{H:Hp}{s:Shared}(I:Inv X (ak++pl) σ H s):Inv X ak σ H s:=I.lO λp hp=>I.pin p (nW _ (pB _ hp))
theorem zld{iter:Expr}{body:List Stmt}{wi:TI}{g:TG}{tb:TS}{pos:Pos}(hp:PassesOwn (model X.prog X.w) X.A X.env X.xe)(hc:X.aj=true)(hi:PI X tg iter wi)(hg:PG X tg g)(hb:nQ X body tb)
  (hs:∀x,foldedSetIterable iter X.env x=pure x:=by intro _;rfl):PS X (.For tg iter body [] pos) (Mg wi g tb):=by
 intro ak s σ H D I h;refine wpAny_For (aV (hi ak s σ H _ I h) λv s1 h1=>aV h1 λitv s2 h2=>?_) hs;obtain⟨it,fp,tn,J,H2,e,I2,T,st2,f2,W,⟨m0,w0⟩,turn⟩:=h2;subst e;have stat:∀{H':Hp},(∀b∈fp,H' b=none)->∀b∈fp,iM X ak H' b:=λhn b hb=>⟨hn b hb,(f2 b hb).2⟩;refine codeAny_forLoop_any (λn s'=>∃i σ' H',Inv X ak σ' H' s'/\tn i s'.heap/\(∀b∈fp,H' b=none)/\W i n σ' H') ?_ m0 ⟨0,σ,H2,I2,st2,λb hb=>(f2 b hb).1,w0⟩;rintro n s3 ⟨i,σ3,H3,I3,st3,Sh,w3⟩;rcases turn i n σ3 H3 w3 with ⟨stop,qn⟩|⟨go,N,hN,step⟩
 ·refine yL hp (aV (T.done X rfl rfl rfl hc i ak s3 σ3 H3 X.xe I3 (stat Sh) st3 stop) λr s4 ⟨hr,I4⟩=>?_);subst hr;exact Dj ⟨σ3,H3,I4,qn⟩
 ·refine yL hp (aV (T.item X rfl rfl rfl hc i ak s3 σ3 H3 X.xe I3 (stat Sh) st3 go) λr s4 hx=>vq hx λu hr h4=>?_);subst hr;refine yL hp (aV h4 λ_ s5 ⟨x,H5,I5,r5,y5,Bw,Jb⟩=>?_);have I5':=I5.pinned (stat Jb) (T.obj _ _ Bw);refine yL hp (aV (hg _ s5 σ3 H5 x u _ I5' r5 (step x H5 y5)) λ_ s6 ⟨σ6,H6,I6,q6⟩=>?_);refine yL hp (aV (hb _ s6 σ6 H6 _ I6 q6) λf s7 q7=>?_);have again:∀{σ7:St} {H7:Hp},Inv X (ak++jP fp s5.heap) σ7 H7 s7->N σ7 H7->∃m,m<n/\∃i σ' H',Inv X ak σ' H' s7/\tn i s7.heap/\(∀b∈fp,H' b=none)/\W i m σ' H':=λ{σ7 H7} I7 n7=>by
   obtain⟨m',hm,w7⟩:=hN σ7 H7 n7;refine⟨m',hm,i+1,σ7,H7,I7.g_,T.keep _ _ _ Bw λb hb o e=>(I7.pin (b,o) (nW _ (nW _ (Ja hb e)))).1,λb hb=>?_,w7⟩;obtain⟨o,e,d⟩:=T.obj _ _ Bw b hb;exact(I7.pin (b,o) (nW _ (nW _ (Ja hb e)))).2.1
  cases f with
  |next=>obtain⟨σ7,H7,I7,n7⟩:=q7;exact again I7 n7
  |cont=>obtain⟨σ7,H7,I7,n7⟩:=q7;exact again I7 n7
  |brk=>obtain⟨σ7,H7,I7,q7⟩:=q7;exact⟨σ7,H7,I7.g_,q7⟩
  |ret v=>obtain⟨x7,σ7,H7,I7,r7,q7⟩:=q7;exact⟨x7,σ7,H7,I7.g_,r7,q7⟩
end
noncomputable abbrev R2:=V->V->Hp->VK->Prop
def cU(X:Cx)(f:Value->Value->Sem Value)(r:R2):Prop:=
 ∀(ak:List (Addr×Obj)) (s:Shared) (σ:St) (H:Hp) (x y:V) (v u:Value) (Q:VK),Inv X ak σ H s->RelV x v->RelV y u->r x y H Q->
  wpAny (model X.prog X.w) X.A (f v u) (EP X ak σ Q) X.xe s
def Jc(X:Cx)(f:Value->Sem Value)(r:V->Hp->VK->Prop):Prop:=
 ∀(ak:List (Addr×Obj)) (s:Shared) (σ:St) (H:Hp) (x:V) (v:Value) (Q:VK),Inv X ak σ H s->RelV x v->r x H Q->
  wpAny (model X.prog X.w) X.A (f v) (EP X ak σ Q) X.xe s
def cV(X:Cx)(f:Value)(r:List V->Hp->VK->Prop):Prop:=
 ∀(ak:List (Addr×Obj)) (s:Shared) (σ:St) (H:Hp) (xs:List V) (us:List Value) (Q:VK),Inv X ak σ H s->Vals xs us->r xs H Q->
  wpAny (model X.prog X.w) X.A (call f us) (EP X ak σ Q) X.xe s
def Mh(X:Cx)(r:V->Hp->(Bool->Hp->Prop)->Prop):Prop:=
 ∀(ak:List (Addr×Obj)) (s:Shared) (σ:St) (H:Hp) (x:V) (v:Value) (Q:Bool->Hp->Prop),Inv X ak σ H s->RelV x v->r x H Q->
  wpAny (model X.prog X.w) X.A (truthy v) (TP X ak σ Q) X.xe s
noncomputable def Jd(r:R2)(ta tb:TE):TE:=λσ H Q=>ta σ H λx H1=>tb σ H1 λy H2=>r x y H2 Q
noncomputable def tUn(r:V->Hp->VK->Prop)(ta:TE):TE:=λσ H Q=>ta σ H λx H1=>r x H1 Q
noncomputable def rI(C:Int->Int->Prop)(g:Int->Int->V):R2:=λx y H Q=>∃i j,x=.int i/\y=.int j/\C i j/\Q (g i j) H
noncomputable def ou(g:Int->Int->V):R2:=λx y H Q=>∃i j,x=.int i/\y=.int j/\Q (g i j) H
noncomputable def rU(g:Int->V):V->Hp->VK->Prop:=λx H Q=>∃i,x=.int i/\Q (g i) H
section
variable {X:Cx}{a b c:Expr}{ta tb tc:TE}{pos:Pos}
theorem yZ(ha:PE X a ta)(hb:PE X b tb){ak:List (Addr×Obj)}{s:Shared}{σ:St}{H:Hp}{R:V->V->Hp->Prop}(I:Inv X ak σ H s)
  (h:ta σ H λx H1=>tb σ H1 λy H2=>R x y H2) {Q:Value->Shared->Prop} {f:Value->Value->Sem Value}
  (hf:∀v u s2 x y H2,Inv X ak σ H2 s2->RelV x v->RelV y u->R x y H2->wpAny (model X.prog X.w) X.A (f v u) Q X.xe s2) :
  wpAny (model X.prog X.w) X.A (eval a X.env) (λv s₁=>wpAny (model X.prog X.w) X.A (eval b X.env) (λu s₂=>wpAny (model X.prog X.w) X.A (f v u) Q X.xe s₂) X.xe s₁) X.xe s:=by
 refine aV (ha ak s σ H _ I h) λv s1 hx=>dN hx λx H1 I1 r1 q1=>?_;refine aV (hb ak s1 σ H1 _ I1 q1) λu s2 hx=>dN hx λy H2 I2 r2 q2=>?_;exact hf v u s2 x y H2 I2 r1 r2 q2
theorem zmW{op:Operator}{r:R2}(ho:cU X (binaryOp op) r)(ha:PE X a ta)(hb:PE X b tb):PE X (.BinOp a op b pos) (Jd r ta tb):=by
 intro ak s σ H Q I h;exact wpAny_BinOp (yZ ha hb I h λv u s2 x y H2 I2 rx ry q=>ho ak s2 σ H2 x y v u Q I2 rx ry q)
theorem Sq{op:UnaryOp}{r:V->Hp->VK->Prop}(ho:Jc X (unaryOp op) r)(ha:PE X a ta):PE X (.UnaryOp op a pos) (tUn r ta):=by
 intro ak s σ H Q I h;exact UnaryOp_ (aV (ha ak s σ H _ I h) λv s1 hx=>dN hx λx H1 I1 r1 q1=>ho ak s1 σ H1 x v Q I1 r1 q1)
theorem Je{f:Value->Value->Sem Value}{C:Int->Int->Prop}{g:Int->Int->Int}
  (rule:∀(i j:Int) (t u:Tok) (s:Shared) (Q:Value->Shared->Prop) (E:Value->Shared->Prop),C i j->Q (.int (g i j) s.toks) {s with toks:=s.toks+1}->wpAny (model X.prog X.w) X.A (f (.int i t) (.int j u)) Q E s) :
  cU X f (rI C λi j=>.int (g i j)):=by
 intro ak s σ H x y v u Q I rx ry h;obtain⟨i,j,rfl,rfl,hc,q⟩:=h;obtain⟨t,rfl⟩:=rx;obtain⟨t',rfl⟩:=ry;exact rule i j t t' s _ _ hc ⟨.int (g i j),H,I.tok _,⟨_,rfl⟩,q⟩
theorem D_{f:Value->Value->Sem Value}{g:Int->Int->Int}
  (rule:∀(i j:Int) (t u:Tok) (s:Shared) (Q:Value->Shared->Prop) (E:Value->Shared->Prop),Q (.int (g i j) s.toks) {s with toks:=s.toks+1}->wpAny (model X.prog X.w) X.A (f (.int i t) (.int j u)) Q E s) :
  cU X f (ou λi j=>.int (g i j)):=by
 intro ak s σ H x y v u Q I rx ry h;obtain⟨i,j,rfl,rfl,q⟩:=h;obtain⟨t,rfl⟩:=rx;obtain⟨t',rfl⟩:=ry;exact rule i j t t' s _ _ ⟨.int (g i j),H,I.tok _,⟨_,rfl⟩,q⟩
theorem vG{f:Value->Value->Sem Value}{g:Int->Int->Bool}
  (rule:∀(i j:Int) (t u:Tok) (s:Shared) (Q:Value->Shared->Prop) (E:Value->Shared->Prop),Q (.bool (g i j)) s->wpAny (model X.prog X.w) X.A (f (.int i t) (.int j u)) Q E s) :
  cU X f (ou λi j=>.bl (g i j)):=by
 intro ak s σ H x y v u Q I rx ry h;obtain⟨i,j,rfl,rfl,q⟩:=h;obtain⟨t,rfl⟩:=rx;obtain⟨t',rfl⟩:=ry;exact rule i j t t' s _ _ ⟨.bl (g i j),H,I,rfl,q⟩
def vH(i j:Int):Prop:=0<j/\j<1073741824
def Ed(i j:Int):Prop:=0<=j/\j<=1000000/\i.natAbs<2^64
def vI(i j:Int):Prop:=(-(2^64)<i/\i<2^64)\/(-(2^64)<j/\j<2^64)
theorem vI.ok{i j:Int}(h:vI i j):IntMulOk i j:=by
 rcases h with ⟨h1,h2⟩|⟨h1,h2⟩
 ·exact .of_left (intBits_le_64 h1 h2)
 ·exact .of_right (intBits_le_64 h1 h2)
theorem zc:cU X (binaryOp .Add) (ou λi j=>.int (i+j)):=D_ λ_ _ _ _ _ _ _ q=>add_int q
theorem zlX:cU X (binaryOp .Sub) (ou λi j=>.int (i-j)):=D_ λ_ _ _ _ _ _ _ q=>sub_int q
theorem zlh:cU X (binaryOp .Mult) (rI vI λi j=>.int (i*j)):=Je λ_ _ _ _ _ _ _ hc q=>mul_int q hc.ok
theorem zjw:cU X (binaryOp .FloorDiv) (rI vH λi j=>.int (i/j)):=Je λi j _ _ _ _ _ hc q=>by
 have h1:(0:Int)<j:=hc.1;have h2:j<1073741824:=hc.2;exact floordiv_int (by lia) (by rw[Int.fdiv_eq_ediv_of_nonneg i (by lia)];exact q) (.inl (PyProof.noPylong_small (by lia)))
theorem zlp:cU X (binaryOp .Mod) (rI (λ_ j=>0<j) λi j=>.int (i%j)):=Je λi j _ _ _ _ _ hc q=>by
 have h1:(0:Int)<j:=hc;exact mod_int' (by lia) (by rw[Int.fmod_eq_emod_of_nonneg i (by lia)];exact q)
theorem zmh:cU X (binaryOp .Pow) (rI Ed λi j=>.int (i^j.toNat)):=Je λ_ _ _ _ _ _ _ hc q=>pow_int_small hc.1 hc.2.1 hc.2.2 q
theorem unI{f:Value->Sem Value}{g:Int->Int}
  (rule:∀(i:Int) (t:Tok) (s:Shared) (Q:Value->Shared->Prop) (E:Value->Shared->Prop),Q (.int (g i) s.toks) {s with toks:=s.toks+1}->wpAny (model X.prog X.w) X.A (f (.int i t)) Q E s) :
  Jc X f (rU λi=>.int (g i)):=by
 intro ak s σ H x v Q I rx h;obtain⟨i,rfl,q⟩:=h;obtain⟨t,rfl⟩:=rx;exact rule i t s _ _ ⟨.int (g i),H,I.tok _,⟨_,rfl⟩,q⟩
theorem Ss:Jc X (unaryOp .USub) (rU λi=>.int (-i)):=unI λ_ _ _ _ _ q=>neg_int q
end
section
variable {X:Cx}{a b c:Expr}{ta tb tc:TE}{pos:Pos}
theorem Ef:cU X (compareOp .Lt) (ou λi j=>.bl (decide (i<j))):=vG λ_ _ _ _ _ _ _ q=>lt_int q
theorem zmU:cU X (compareOp .LtE) (ou λi j=>.bl (decide (i<=j))):=vG λ_ _ _ _ _ _ _ q=>le_int q
theorem zny:cU X (compareOp .Gt) (ou λi j=>.bl (decide (j<i))):=vG λ_ _ _ _ _ _ _ q=>gt_int q
theorem znL:cU X (compareOp .GtE) (ou λi j=>.bl (decide (j<=i))):=vG λ_ _ _ _ _ _ _ q=>ge_int q
theorem cU.or{f:Value->Value->Sem Value}{r r':R2}(h:cU X f r)(h':cU X f r'):cU X f (λx y H Q=>r x y H Q\/r' x y H Q):=by
 intro ak s σ H x y v u Q I rx ry q;rcases q with q|q
 ·exact h ak s σ H x y v u Q I rx ry q
 ·exact h' ak s σ H x y v u Q I rx ry q
theorem zj7{op:CmpOp}{r:R2}(ho:cU X (compareOp op) r)(ha:PE X a ta)(hb:PE X b tb)(hm:behindInMarks op b=false):PE X (.Compare a [op] [b] pos) (Jd r ta tb):=by
 intro ak s σ H Q I h;exact wpAny_Compare1 (yZ ha hb I h λv u s2 x y H2 I2 rx ry q=>ho ak s2 σ H2 x y v u Q I2 rx ry q) hm
noncomputable def xK(t:TE):TT:=λσ H Q=>t σ H λx H'=>∃k,x=.bl k/\Q k H'
theorem zjV{op:CmpOp}{r:R2}(ho:cU X (compareOp op) r)(ha:PE X a ta)(hb:PE X b tb)(hm:behindInMarks op b=false):PT X (.Compare a [op] [b] pos) (xK (Jd r ta tb)):=by
 intro ak s σ H Q I h;refine wpAny_isTrue_Compare1 (aV (ha ak s σ H _ I h) λv s1 hx=>dN hx λx H1 I1 r1 q1=>aV (hb ak s1 σ H1 _ I1 q1) λu s2 hx=>dN hx λy H2 I2 r2 q2=>
  aV (ho ak s2 σ H2 x y v u _ I2 r1 r2 q2) λc s3 hx=>uI hx λz H3 I3 r3 k e q3=>?_) hm
 subst e;cases r3;exact pC ⟨H3,I3,q3⟩
noncomputable def su(r r':R2)(ta tb tc:TE):TE:=λσ H Q=>ta σ H λx H1=>tb σ H1 λy H2=>r x y H2 λz H3=>∃k,z=.bl k /\
 (if k=true then tc σ H3 λw' H4=>r' y w' H4 Q else Q (.bl false) H3)
theorem zhE{op op':CmpOp}{r r':R2}(ho:cU X (compareOp op) r)(ho':cU X (compareOp op') r')(ha:PE X a ta)(hb:PE X b tb)(hc:PE X c tc)
  (hm:lastMarks [op,op'] [b,c]=false:=by with_unfolding_all rfl):PE X (.Compare a [op,op'] [b,c] pos) (su r r' ta tb tc):=by
 intro ak s σ H Q I h;refine Compare_chain (aV (ha ak s σ H _ I h) λv s1 hx=>dN hx λx H1 I1 r1 q1=>chain_link (aV (hb ak s1 σ H1 _ I1 q1) λu s2 hx=>dN hx λy H2 I2 r2 q2=>
  aV (ho ak s2 σ H2 x y v u _ I2 r1 r2 q2) λd s3 hx=>uI hx λz H3 I3 r3 k e q3=>?_)) hm
 subst e;cases r3;refine pC ?_;cases k with
 |false=>exact ite_ff ⟨.bl false,H3,I3,rfl,q3⟩
 |true=>exact ite_tt (chain_last (aV (hc ak s3 σ H3 _ I3 q3) λw' s4 hx=>dN hx λz' H4 I4 r4 q4=>ho' ak s4 σ H4 y z' u w' Q I4 r2 r4 q4))
theorem zhd{op op':CmpOp}{r r':R2}(ho:cU X (compareOp op) r)(ho':cU X (compareOp op') r')(ha:PE X a ta)(hb:PE X b tb)(hc:PE X c tc)
  (hm:lastMarks [op,op'] [b,c]=false:=by with_unfolding_all rfl):PT X (.Compare a [op,op'] [b,c] pos) (xK (su r r' ta tb tc)):=by
 intro ak s σ H Q I h;refine isTrue_chain (aV (ha ak s σ H _ I h) λv s1 hx=>dN hx λx H1 I1 r1 q1=>test_link (aV (hb ak s1 σ H1 _ I1 q1) λu s2 hx=>dN hx λy H2 I2 r2 q2=>
  aV (ho ak s2 σ H2 x y v u _ I2 r1 r2 q2) λd s3 hx=>uI hx λz H3 I3 r3 k e q3=>?_)) hm
 subst e;cases r3;refine pC ?_;cases k with
 |false=>
  obtain⟨k',e',q'⟩:=q3;cases e';exact ite_ff ⟨H3,I3,q'⟩
 |true=>
  refine ite_tt (test_last (aV (hc ak s3 σ H3 _ I3 q3) λw' s4 hx=>dN hx λz' H4 I4 r4 q4=>aV (ho' ak s4 σ H4 y z' u w' _ I4 r2 r4 q4) λd' s5 hx=>uI hx λz2 H5 I5 r5 k2 e2 q5=>?_));subst e2;cases r5;exact pC ⟨H5,I5,q5⟩
def zj(K:PySem.W.Frag)(x:V)(H:Hp)(k:Bool):Prop:=
 match x with
 |.non=>k=false
 |.bl b=>k=b
 |.int i=>k=(i != 0)
 |.str y=>y.length<=sizeLine/\k=((y.length:Int) != 0)
 |.Bt y=>y.size<=sizeLine/\k=((y.size:Int) != 0)
 |.ref p=>(∃xs,dj K H p xs/\k = !xs.isEmpty)\/(∃xs,fL K H p xs/\k = !xs.isEmpty)\/∃kvs,H p=some (.dK kvs)/\k = !kvs.isEmpty
 |_=>False
theorem zfn{κ:Type}{kvs:List (κ×V)}{vs:List (κ×Value)}(r:KV kvs vs):(!vs.isEmpty) = !kvs.isEmpty:=by
 cases r<;>rfl
theorem Sv{xs:List V}{its:List Value}(r:Vals xs its):(!its.toArray.isEmpty) = !xs.isEmpty:=by
 cases r<;>simp
theorem iQ:(sizeLine:Nat)<2^63:=by rw[pD];decide
theorem zl9:Mh X (λx H Q=>∃k,zj X.K x H k/\Q k H):=by
 intro ak s σ H x v Q I rx h;obtain⟨k,e,q⟩:=h;have hl:=iQ;have hs:sizeLine=16777216:=pD;cases x with
 |non=>
  cases rx;have e':k=false:=e;subst e';exact truthy_none ⟨H,I,q⟩
 |bl b=>
  cases rx;have e':k=b:=e;subst e';exact pC ⟨H,I,q⟩
 |int i=>
  obtain⟨t,rfl⟩:=rx;have e':k=(i != 0):=e;subst e';exact PySem.P.truthy_int ⟨H,I,q⟩
 |str y=>
  obtain⟨t,rfl⟩:=rx;obtain⟨hy,e'⟩ : y.length<=sizeLine/\k=((y.length:Int) != 0):=e;subst e';exact PySem.P.truthy_str (by lia) ⟨H,I.tok _,q⟩
 |Bt y=>
  obtain⟨t,rfl⟩:=rx;obtain⟨hy,e'⟩ : y.size<=sizeLine/\k=((y.size:Int) != 0):=e;subst e';exact PySem.W.truthy_bytes (by lia) ⟨H,I.tok _,q⟩
 |ref p=>
  cases rx;have e':(∃xs,dj X.K H p xs/\k = !xs.isEmpty)\/(∃xs,fL X.K H p xs/\k = !xs.isEmpty)\/∃kvs,H p=some (.dK kvs)/\k = !kvs.isEmpty:=e;rcases e' with ⟨xs,hx,e'⟩|⟨xs,hx,e'⟩|⟨kvs,hx,e'⟩
  ·subst e';obtain⟨its,r,pl,hz⟩:=I.list hx;have hlen:=r.length;exact wpAny_truthy_list pl.isList (by simp only[dD];lia) ⟨H,I.tok _,by rw[Sv r];exact q⟩
  ·subst e';obtain⟨its,r,pl,hz⟩:=I.tuple hx;have hlen:=r.length;exact truthy_tuple pl (by simp only[dD];lia) ⟨H,I.tok _,by rw[Sv r];exact q⟩
  ·subst e';obtain⟨hz,hS,vs,r,m⟩ : kvs.length<=sizeLine/\(p==sysModules)=false/\∃vs,KV kvs vs/\s.heap.DictOf (cC X.prog X.w) p vs:=I.hok p _ hx;have hlen:kvs.length=vs.length:=Paired.length r;exact wpAny_truthy_dict hS m (by lia) ⟨H,I.tok _,by rw[zfn r];exact q⟩
 |_=>exact(show False from e).elim
theorem ze2:cU X (binaryOp .Add) (λx y H Q=>∃i j,x=.str i/\y=.str j/\i.length+j.length<=sizeLine/\Q (.str (i++j)) H):=by
 intro ak s σ H x y v u Q I rx ry h;obtain⟨i,j,rfl,rfl,hz,q⟩:=h;obtain⟨t,rfl⟩:=rx;obtain⟨t',rfl⟩:=ry;exact add_str (λt' tk=>⟨.str (i++j),H,I.tok _,⟨_,rfl⟩,q⟩) hz
theorem vals1{x:V}{us:List Value}(r:Vals [x] us):∃u,us=[u]/\RelV x u:=by
 cases r with
 |cons r1 r2=>cases r2;exact⟨_,rfl,r1⟩
theorem vals2{x y:V}{us:List Value}(r:Vals [x,y] us):∃u w',us=[u,w']/\RelV x u/\RelV y w':=by
 cases r with
 |cons r1 r2=>
  cases r2 with
  |cons r3 r4=>cases r4;exact⟨_,_,rfl,r1,r3⟩
theorem zhW:cV X (.builtin "abs") (λxs H Q=>∃i,xs=[.int i]/\Q (.int (if i<0 then -i else i)) H):=by
 intro ak s σ H xs us Q I r h;obtain⟨i,rfl,q⟩:=h;obtain⟨u,rfl,t,rfl⟩:=vals1 r;exact call_abs_int λu tk=>⟨.int (if i<0 then -i else i),H,I.tok _,⟨_,rfl⟩,q⟩
theorem zfL(hc:X.aj=true):cV X (.builtin "max") (λxs H Q=>∃i j,xs=[.int i,.int j]/\Q (.int (if j>i then j else i)) H):=by
 intro ak s σ H xs us Q I r h;obtain⟨i,j,rfl,q⟩:=h;obtain⟨u,w',rfl,⟨t,rfl⟩,⟨t',rfl⟩⟩:=vals2 r;refine max_two_ints (I.ok.hd hc) λh' tk k=>⟨_,H,I.kept k,?_,q⟩;by_cases hj:j>i
 ·rw[if_pos hj,if_pos hj];exact⟨_,rfl⟩
 ·rw[if_neg hj,if_neg hj];exact⟨_,rfl⟩
theorem zf1(hc:X.aj=true):cV X (.builtin "min") (λxs H Q=>∃i j,xs=[.int i,.int j]/\Q (.int (if j<i then j else i)) H):=by
 intro ak s σ H xs us Q I r h;obtain⟨i,j,rfl,q⟩:=h;obtain⟨u,w',rfl,⟨t,rfl⟩,⟨t',rfl⟩⟩:=vals2 r;refine min_two_ints (I.ok.hd hc) λh' tk k=>⟨_,H,I.kept k,?_,q⟩;by_cases hj:j<i
 ·rw[if_pos hj,if_pos hj];exact⟨_,rfl⟩
 ·rw[if_neg hj,if_neg hj];exact⟨_,rfl⟩
theorem zfH:cV X (.type "int") (λxs H Q=>(∃i,xs=[.int i]/\Q (.int i) H)\/∃k,xs=[.bl k]/\Q (.int (if k then 1 else 0)) H):=by
 intro ak s σ H xs us Q I r h;rcases h with ⟨i,rfl,q⟩|⟨k,rfl,q⟩
 ·obtain⟨u,rfl,t,rfl⟩:=vals1 r;exact call_int_int ⟨.int i,H,I,⟨_,rfl⟩,q⟩
 ·obtain⟨u,rfl,r1⟩:=vals1 r;cases r1;exact call_int_bool ⟨.int (if k then 1 else 0),H,I.tok _,⟨_,rfl⟩,q⟩
theorem zd1:cV X (.builtin "divmod") (λxs H Q=>∃i j,xs=[.int i,.int j]/\vH i j/\∀p,H p=none->Q (.ref p) (upd H p (.tup [.int (i/j),.int (i%j)]))):=by
 intro ak s σ H xs us Q I r h;obtain⟨i,j,rfl,⟨h1,h2⟩,q⟩:=h;obtain⟨u,w',rfl,⟨t,rfl⟩,⟨t',rfl⟩⟩:=vals2 r;refine divmod_int (by lia) ?_ (.inl (PyProof.noPylong_small (by lia)));rw[Int.fdiv_eq_ediv_of_nonneg i (by lia),Int.fmod_eq_emod_of_nonneg i (by lia)];have hn:H s.heap.objs.size=none:=I.hok.fresh (cg _);refine⟨.ref s.heap.objs.size,_,?_,rfl,q _ hn⟩;refine I.laid (λb o e=>bZ _ e) (cg _) ⟨by simp only[gY,ql];rw[pD];decide,[.int (i/j) s.toks,.int (i%j) (s.toks+1)],.cons ⟨_,rfl⟩ (.cons ⟨_,rfl⟩ .nil),?_⟩;exact⟨_,gW s.heap rfl,rfl,0,rfl⟩
end
section
variable {prog:Program}{w:World}{A:Around}{E:Value->Shared->Prop}{s:Shared}{K:PySem.W.Frag}{x dx C f:Addr}{mA:Str->Option Value}{name:Str}{v:Value}
end
section
variable {P:Program}{w:World}{H H':Hp}{h h':Heap}{a C dx:Addr}{fs fs':List (Str×V)}
end
section
variable {X:Cx}{ak:List (Addr×Obj)}{σ:St}{H:Hp}{s:Shared}{a C dx:Addr}{fs:List (Str×V)}{f:Str}{v:V}{A:Around}{E:Value->Shared->Prop}
end
section
variable {X:Cx}{o e value:Expr}{f:Str}{pos pos' tpos:Pos}{ta tv:TE}
end
section
variable {X:Cx}{ak:List (Addr×Obj)}{σ:St}{H:Hp}{s:Shared}{A:Around}{E:Value->Shared->Prop}{Q:Value->Shared->Prop}{c:Value}{b:Bool}
end
structure b_(k:Nat)(A:Around):Prop where
 dp:A.depth+3*k+5<recursionLimit
 un:A.units+16*k+200<cLine
 gd:A.guards=some []
theorem b_.deeper{k:Nat}{A:Around}(r:b_ (k+1) A)(env:Env):b_ k (A.deeper env):=
 ⟨by have:=r.dp;show A.depth+1+3*k+5<_;lia,by have:=r.un;show A.units+3+16*k+200<_;lia,r.gd⟩
theorem b_.depth{k:Nat}{A:Around}(r:b_ k A):A.depth<recursionLimit:=by have:=r.dp;lia
noncomputable def Mj:TA:=λ_ H Q=>Q [] H
noncomputable def Eh(ta:TE)(tr:TA):TA:=λσ H Q=>ta σ H λx H1=>tr σ H1 λxs H2=>Q (x::xs) H2
section
variable {X:Cx}{e:Expr}{es:List Expr}{te:TE}{t:TA}{pos:Pos}
theorem zm:PA X [] Mj:=λ_ _ _ _ H Q I h=>Calls.spliced_nil ⟨[],H,I,.nil,h⟩
theorem sy(ha:PE X e te)(hr:PA X es t)(hs:starEach (e::es) X.env=(false,eval e X.env)::starEach es X.env:=by rfl):PA X (e::es) (Eh te t):=by
 intro pos ak s σ H Q I h;rw[hs];show wpAny _ _ (spliced ((false,eval e X.env)::backTo pos (starEach es X.env))) _ _ s;refine Calls.spliced_cons (aV (ha ak s σ H _ I h) λu s1 hx=>dN hx λx H1 I1 r1 q1=>?_);exact aV (hr pos ak s1 σ H1 _ I1 q1) λus s2 hx=>dN hx λxs H2 I2 r2 q2=>⟨x::xs,H2,I2,.cons r1 r2,q2⟩
noncomputable def Ml(t:TA):TE:=λσ H Q=>t σ H λxs H1=>xs.length<=sizeLine/\∀p,H1 p=none->Q (.ref p) (upd H1 p (.tup xs))
noncomputable def Mp(t:TA):TE:=λσ H Q=>t σ H λxs H1=>xs.length<=sizeLine/\∀p,H1 p=none->Q (.ref p) (upd H1 p (.lst xs))
theorem zlO{x1}(h:PA X es t):PE X (.Tuple es x1 pos) (Ml t):=by
 intro ak s σ H Q I hq;refine wpAny_Tuple_spliced (aV (h pos ak s σ H _ I hq) λus s1 ⟨xs,H1,I1,r,z,q⟩=>⟨by rw[<-r.length];exact z,?_⟩);have hf:H1 s1.heap.objs.size=none:=I1.hok.fresh (cg _);refine⟨.ref s1.heap.objs.size,upd H1 s1.heap.objs.size (.tup xs),I1.laid (t':=s1.toks) (λb u e=>bZ _ e) (cg _) ?_,rfl,q _ hf⟩;exact⟨z,us,r,⟨_,gW _ rfl,rfl,_,rfl⟩⟩
theorem zkN(h:PA X es t):PE X (.List es pos) (Mp t):=by
 intro ak s σ H Q I hq;refine wpAny_List_spliced (aV (h pos ak s σ H _ I hq) λus s1 ⟨xs,H1,I1,r,z,q⟩=>⟨by rw[<-r.length];exact z,?_⟩);have hf:H1 s1.heap.objs.size=none:=I1.hok.fresh (cg _);refine⟨.ref s1.heap.objs.size,upd H1 s1.heap.objs.size (.lst xs),I1.laid (t':=s1.toks) (λb u e=>bZ _ e) (cg _) ?_,rfl,q _ hf⟩;exact⟨z,us,0,r,gW _ rfl⟩
end
noncomputable abbrev Sp:=List V->Hp->VK->XK->Prop
noncomputable abbrev sE:=List Env->Hp->Shared->XK->Value->Shared->Prop
structure vJ(P:Program)(w:World)(K:PySem.W.Frag)(mg:Str->Option Value)(base:Heap)(A:Around)(outer:List Env)(s:Shared)(H:Hp):Prop where
 frames:A.frames=some outer
 mod:Mod K mg base
 bs:∀b o,base.get? b=some o->s.heap.get? b=some o/\H b=none
 xG:base.objs.size<=s.heap.objs.size
 jO:s.heap.FunFrames base outer
 Bv:∀b∈frs outer,H b=none
 hok:gQ P w H s.heap
 bare:AllBare s.gens
def CE(outer:List Env)(P:Program)(w:World)(H:Hp)(s:Shared)(Q:VK)(u:Value)(s':Shared):Prop:=
 ∃v H',s'.os=s.os/\AllBare s'.gens/\Un (frs outer) [] H H' s.heap s'.heap/\gQ P w H' s'.heap/\RelV v u/\Q v H'
def CR(CX:sE)(outer:List Env)(P:Program)(w:World)(H:Hp)(s:Shared)(Q:VK)(E:XK)(r:Result)(s':Shared):Prop:=
 match r with
 |.ok (.ret u)=>CE outer P w H s Q u s'
 |.ok _=>False
 |.error e=>CX outer H s E e s'
structure fM(P:Program)(w:World)(K:PySem.W.Frag)(mg:Str->Option Value)(base:Heap)(CX:sE)(cm:Bool)(k:Nat)(f:Addr)(fd:FuncData)(ps:List Str)(sp:Sp):Prop where
 len:∀vs H Q E,sp vs H Q E->vs.length=ps.length
 run:∀(A:Around) (outer:List Env) (s:Shared) (H:Hp) (args:Args) (us:List Value) (vs:List V) (Q:VK) (E:XK),(cm=true->A.handled=none)->b_ k A->vJ P w K mg base A outer s H->BindsTo s fd args (ps.zip us)->Vals vs us->sp vs H Q E->
  codeAny (model P w) A (.call (.ref f) args) (CR CX outer P w H s Q E) s
theorem fM.imp{P:Program}{w:World}{K:PySem.W.Frag}{mg:Str->Option Value}{base:Heap}{CX:sE}{cm:Bool}{k:Nat}{f:Addr}{fd:FuncData}{ps:List Str}{sp Sw:Sp}(F:fM P w K mg base CX cm k f fd ps sp)
  (h:∀vs H Q E,Sw vs H Q E->sp vs H Q E):fM P w K mg base CX cm k f fd ps Sw:=
 ⟨λvs H Q E q=>F.len vs H Q E (h _ _ _ _ q),λA outer s H args us vs Q E hcm hr he hb hv hs=>F.run A outer s H args us vs Q E hcm hr he hb hv (h _ _ _ _ hs)⟩
section
variable {X:Cx}{ak:List (Addr×Obj)}{σ:St}{H:Hp}{s s':Shared}
theorem Inv.env0(I:Inv X ak σ H s):vJ X.prog X.w X.K X.mg X.base X.A X.stack s H:=
 ⟨I.ok.frames,I.ok.mod,I.bs,n8 I.ok.xG I.sz,I.stack,I.jC,I.hok,I.bare⟩
theorem Inv.after{Q:VK}{u:Value}(I:Inv X ak σ H s)(h:CE X.stack X.prog X.w H s Q u s'):EP X ak σ Q u s':=by
 obtain⟨v,H',os,bare,un,hok,r,q⟩:=h;obtain⟨hh,g,d,t,os'⟩:=s';obtain rfl:os'=s.os:=os;exact⟨v,H',I.call (h':=hh) (g':=g) (d':=d) (t':=t) (ch:=[]) un hok bare (λb z=>absurd z (by simp)),r,q⟩
end
def Binds(K:PySem.W.Frag)(fd:FuncData)(ps:List Str)(ds:List Value):Prop:=
 ∀(s:Shared) (us:List Value),K.In s.heap->(us++ds).length=ps.length->BindsTo s fd ⟨us,[]⟩ (ps.zip (us++ds))
theorem Binds.all{K:PySem.W.Frag}{fd:FuncData}{ps:List Str}(h:∀us:List Value,us.length=ps.length->bindArgs fd ⟨us,[]⟩=pure (ps.zip us)):Binds K fd ps []:=λs us _ hl=>by
 rw[Bl] at hl ⊢;exact .of_eq (h us hl)
section
variable {X:Cx}{CX:sE}{cm:Bool}{k:Nat}{f C:Addr}{fd:FuncData}{ps:List Str}{sp:Sp}{dvs:List V}{ds:List Value}{E:XK}{x m:Str}{p pos apos:Pos}{e o:Expr}{es:List Expr}{ta:TE}{t:TA}
end
section
variable {X:Cx}{CX:sE}{cm:Bool}{k:Nat}{f C:Addr}{fd:FuncData}{ps ks:List Str}{sp:Sp}{E:XK}{x m:Str}{p pos apos kpos:Pos}{e o:Expr}{es:List Expr}{kws:List Keyword}{te ta:TE}{t tk:TA}{nm:Option Str}
variable {g:List Value->List Value->List Value}{gV:List V->List V->List V}
end
structure h_(N P:List Str)(sc:Scope):Prop where
 kind:sc.kind=.function
 co:sc.isCoroutine=false
 gen:sc.isGenerator=false
 nd:N.Nodup
 pre:N.take P.length=P
 par:∀x∈P,sc.names.lookup x=some .local\/sc.names.lookup x=some .cell
 zp:∀y∈sc.names,y.2≠.free
theorem Sx{kindOf:Str->Option NameKind}{x:Str}:∀{binds:List (Str×Value)} {m:Str->Option Value},(∀v,(x,v)∉binds)->bindL kindOf binds m x=m x
 |[],_,_=>rfl
 |(n,v)::r,m,h=>by
  unfold bindL;rw[Sx λw hw=>h w (eN _ hw)]
  split
  ·have:x≠n:=by rintro rfl;exact h v eZ
   simp[this]
  ·rfl
theorem Sy{kindOf:Str->Option NameKind}{x:Str}:∀{binds:List (Str×Value)} {m:Str->Option Value},(∀v,(x,v)∉binds)->bindC kindOf binds m x=m x
 |[],_,_=>rfl
 |(n,v)::r,m,h=>by
  unfold bindC;rw[Sy λw hw=>h w (eN _ hw)]
  split
  ·rfl
  ·have:x≠n:=by rintro rfl;exact h v eZ
   simp[this]
theorem SJ{kindOf:Str->Option NameKind}{x:Str}{v:Value}:∀{P:List Str} {vs:List Value} {i:Nat} {m:Str->Option Value},P.Nodup->P[i]?=some x->vs[i]?=some v->kindOf x=some .local->
  bindL kindOf (P.zip vs) m x=some v
 |[],_,_,_,_,h,_,_=>by simp at h
 |_::_,[],_,_,_,_,h,_=>by simp at h
 |p::P,w::vs,0,m,nd,h1,h2,hk=>by
  simp at h1 h2;subst h1;subst h2;show bindL kindOf ((p,w)::P.zip vs) m p=_;unfold bindL;rw[Sx λv hv=>(qm.mp nd).1 (Im hv).1,if_pos hk];simp
 |p::P,w::vs,i+1,m,nd,h1,h2,hk=>by
  show bindL kindOf ((p,w)::P.zip vs) m x=_;unfold bindL;exact SJ (i:=i) (qm.mp nd).2 (by simpa using h1) (by simpa using h2) hk
theorem SM{kindOf:Str->Option NameKind}{x:Str}{v:Value}:∀{P:List Str} {vs:List Value} {i:Nat} {m:Str->Option Value},P.Nodup->P[i]?=some x->vs[i]?=some v->kindOf x≠some .local->
  bindC kindOf (P.zip vs) m x=some v
 |[],_,_,_,_,h,_,_=>by simp at h
 |_::_,[],_,_,_,_,h,_=>by simp at h
 |p::P,w::vs,0,m,nd,h1,h2,hk=>by
  simp at h1 h2;subst h1;subst h2;show bindC kindOf ((p,w)::P.zip vs) m p=_;unfold bindC;rw[Sy λv hv=>(qm.mp nd).1 (Im hv).1,if_neg hk];simp
 |p::P,w::vs,i+1,m,nd,h1,h2,hk=>by
  show bindC kindOf ((p,w)::P.zip vs) m x=_;unfold bindC;exact SM (i:=i) (qm.mp nd).2 (by simpa using h1) (by simpa using h2) hk
noncomputable def start(N:List Str)(vs:List V):St:=vs.map some++List.replicate (N.length-vs.length) none
noncomputable def ju(CX:sE)(P:Program)(w:World)(K:PySem.W.Frag)(mg:Str->Option Value)(base:Heap)(N:List Str)(qual:Str)(scope:Scope)(f:Addr)(cd:Value)(A:Around)(outer:List Env)(s:Shared)(H:Hp)(E:XK)(cm:Bool):Cx where
 prog:=P
 w:=w
 K:=K
 mg:=mg
 base:=base
 A:=A.deeper (envOfC qual scope s.heap.objs.size f cd)
 N:=N
 s₀:=s
 H₀:=H
 env:=envOfC qual scope s.heap.objs.size f cd
 outer:=outer
 stack:=envOfC qual scope s.heap.objs.size f cd::outer
 ex:=[]
 aj:=cm
 fn:=λ_=>true
 pn:=[]
 xe:=λe s'=>wpAny (model P w) (A.deeper (envOfC qual scope s.heap.objs.size f cd)) (leaving (envOfC qual scope s.heap.objs.size f cd) e) (λ_ s''=>CX outer H s E e s'') (λe' s''=>CX outer H s E e' s'') s'
theorem SN{sc:Scope}{n:Nat}{x:Str}(h:sc.names.lookup x=some .cell):∃c,(cellsFrom n sc.names []).lookup x=some c:=by
 have q:=KQ sc.names n [] (.inl h);exact KH.mp q
theorem zgz{CX:sE}{P:Program}{w:World}{K:PySem.W.Frag}{mg:Str->Option Value}{base:Heap}{N ps:List Str}{qual:Str}{scope:Scope}{f:Addr}{cd:Value}{A:Around}{outer:List Env}{s s1:Shared}{H:Hp}{E:XK}{us:List Value}{vs:List V}
  {cm:Bool} (S:h_ N ps scope) (hd:cm=true->A.handled=none) (e0:vJ P w K mg base A outer s H) (hl:vs.length=ps.length) (r:Vals vs us)
  (x:InCallC s s.heap.objs.size (bindL (envOfC qual scope s.heap.objs.size f cd).kindOf (ps.zip us) λ_=>none) (cellsFrom (s.heap.objs.size+1) scope.names []) (bindC (envOfC qual scope s.heap.objs.size f cd).kindOf (ps.zip us) λ_=>none) s1) :
  Inv (ju CX P w K mg base N qual scope f cd A outer s H E cm) [] (start N vs) H s1:=by
 have hpl:ps.length<=N.length:=by have:=qp List.length S.pre;rw[wV] at this;lia
 obtain⟨h1,tk,rfl,hk⟩:=x.done;have Ej:∀b:Addr,b∉(ju CX P w K mg base N qual scope f cd A outer s H E cm).ex:=λb z=>absurd (show b∈([]:List Addr) from z) (by simp);refine⟨⟨e0.mod,S.kind,rfl,rfl,cg _,λy z c h1 h2=>?_,λy hy=>?_,λy c _ h=>?_,hd,Around.frames_deeper e0.frames,.inr ⟨rfl,rfl⟩,λb z=>absurd z (Ej b),e0.bs,e0.xG,λb _ _=>Ej b,λb z=>absurd z (Ej b),e0.jO,e0.Bv⟩,
  rfl,e0.bare,Un.kept hk,⟨_,x.toInCall.ns,λi y v h1 h2 h3=>?_⟩,λy c h=>⟨_,x.cell y c h⟩,e0.hok.fresh (cg _),λy c h=>?_,λp hp=>absurd (show p∈([]:List (Addr×Obj)) from hp) (by simp),e0.hok.kept hk,?_⟩
 ·exact name_of_addr x.apart (Bb h1) (Bb h2)
 ·have hy:scope.names.lookup y=some .cell\/scope.names.lookup y=some .free:=hy;rcases hy with hy|hy
  ·exact SN hy
  ·exact absurd rfl (S.zp _ (Bb hy))
 ·exact wZ (x.above y c (Bb h))
 ·have hi:i<vs.length:=by
   unfold start at h2;by_cases hi:i<vs.length
   ·exact hi
   ·rw[nM (by simpa using hi)] at h2;rw[Hx] at h2;split at h2<;>cases h2
  have ha:vs[i]?=some v:=by
   unfold start at h2;rw[pq (by simpa using hi),je] at h2;cases e:vs[i]? with
   |none=>rw[e] at h2;cases h2
   |some a=>rw[e] at h2;cases h2;rfl
  obtain⟨u,hu,rv⟩:=r.get ha;have hp:ps[i]?=some y:=by
   rw[<-S.pre,List.getElem?_take_of_lt (by lia)];exact h1
  have SQ:ps.Nodup:=by rw[<-S.pre];exact S.nd.sublist (List.take_sublist _ _)
  refine⟨u,rv,?_⟩;rcases S.par y (gU hp) with k|k
  ·exact .inl ⟨k,SJ SQ hp hu k⟩
  ·obtain⟨c,e⟩:=SN (n:=s.heap.objs.size+1) k;refine .inr ⟨.inl k,c,e,?_⟩;have q:=x.cell y c e;rw[SM SQ hp hu (by show scope.names.lookup y≠_;rw[k];decide)] at q;exact q
 ·exact e0.hok.fresh (wZ (x.above y c (Bb h)))
 ·unfold start;show _=N.length;rw[cX,bJ,HB]
  lia
theorem znp{CX:sE}{cm:Bool}{P:Program}{w:World}{K:PySem.W.Frag}{mg:Str->Option Value}{base:Heap}{k:Nat}{f:Addr}{name qual:Str}{params:Arguments}{body:List Stmt}{scope:Scope}{dV kV doc pm cdv ct oc:Value}{an od:Option Addr}
  {osl:Array (Option Value)} {N ps:List Str} {sp:Sp} (lk:K.lookup f=some ⟨oc,od,.func (PySem.W.fnOf name qual params body scope dV kV doc pm an cdv ct),osl⟩) (hcd:PySem.W.codeIn K cdv qual=true) (S:h_ N ps scope)
  (len:∀vs H Q E,sp vs H Q E->vs.length=ps.length)
  (hbody:∀(A:Around) (outer:List Env) (s:Shared) (H:Hp) (vs:List V) (Q:VK) (E:XK),b_ k (A.deeper (envOfC qual scope s.heap.objs.size f cdv))->sp vs H Q E->
   ∃t,nQ (ju CX P w K mg base N qual scope f cdv A outer s H E cm) body t/\t {nx:=λ_ H'=>Q .non H',rt:=Q} (start N vs) H) :
  fM P w K mg base CX cm (k+1) f (PySem.W.fnOf name qual params body scope dV kV doc pm an cdv ct) ps sp:=by
 refine⟨len,λA outer s H args us vs Q E hcm hr e0 hb r hsp=>?_⟩;have hl:=len _ _ _ _ hsp;have KX:K.In s.heap:=e0.mod.xr.keeps λb o e=>(e0.bs b o e).1;have lim:s.heap.NoLimit:=e0.mod.nolimit.keeps λb o e=>(e0.bs b o e).1;have hkind:∀y∈ps.zip us,scope.names.lookup y.1=some .local\/(scope.names.lookup y.1=some .cell/\((cellsFrom (s.heap.objs.size+1) scope.names []).lookup y.1).isSome=true):=λ⟨n,v⟩ hy=>by
  rcases S.par n (Im hy).1 with q|q
  ·exact .inl q
  ·exact .inr ⟨q,KQ _ _ _ (.inl q)⟩
 refine codeAny_call_function hr.depth (KX _ _ lk) rfl S.co S.gen rfl (PySem.W.codeRec_of KX hcd) (hb _ _ _ _ ?_);refine wpAny_newFunctionEnv_cells S.kind hkind λenv he s1 x=>?_;subst he;refine⟨lim.keeps x.toInCall.keep,codeAny_func ?_⟩;obtain⟨t,ht,hq⟩:=hbody A outer s H vs Q E (hr.deeper _) hsp;have I:Inv (ju CX P w K mg base N qual scope f cdv A outer s H E cm) [] (start N vs) H s1:=zgz S hcm e0 hl r x;refine jr (ht [] s1 (start N vs) H _ I hq) (λfl s' hs=>?_) λe s' hs=>hs;have fin:∀{σ':St} {H':Hp} {v:V} {u:Value},Inv (ju CX P w K mg base N qual scope f cdv A outer s H E cm) [] σ' H' s'->RelV v u->Q v H'->CE outer P w H s Q u s':=
  λ{σ' H' v u} J rv q=>⟨v,H',J.os,J.bare,J.base,J.hok,rv,q⟩
 cases fl with
 |ret u=>
  obtain⟨v,σ',H',J,rv,q⟩:=hs;exact fin J rv q
 |next=>
  obtain⟨σ',H',J,q⟩:=hs;exact fin (v:=V.non) (u:=Value.none) J rfl q
 |brk=>
  obtain⟨_,_,_,q⟩:=hs;exact False.elim q
 |cont=>
  obtain⟨_,_,_,q⟩:=hs;exact False.elim q
section
variable {X:Cx}{x:Str}{p pos:Pos}{e:Expr}{es:List Expr}{t:TA}{id T:String}{r:List V->Hp->VK->Prop}
noncomputable def Mq(r:List V->Hp->VK->Prop)(t:TA):TE:=λσ H Q=>t σ H λvs H1=>r vs H1 Q
theorem SX(hc:cV X (.builtin id) r)(hg:Gl X x)(hm:X.mg x=none)(hv:bootBuiltins x=some (.builtin id))(ha:PA X (e::es) t)(hn:x≠"__name__":=by decide)(hdb:(x==("__debug__" : Str))=false:=by decide)
  (he:starEach (e::es) X.env=(false,eval e X.env)::starEach es X.env:=by rfl) (hpl:(backTo pos (starEach es X.env)).any (·.1)=false:=by rfl):PE X (.Call (.Name x p) (e::es) [] pos) (Mq r t):=by
 intro ak s σ H Q I h;refine C_ (xJ I hg hm hv ?_ hn hdb);exact PyProof.Rows.callWith_builtin1 (aV (ha pos ak s σ H _ I h) λus s1 hx=>dN hx λvs H1 I1 r1 q1=>hc ak s1 σ H1 vs us Q I1 r1 q1) he hpl
theorem zf6(hc:cV X (.type T) r)(hg:Gl X x)(hm:X.mg x=none)(hv:bootBuiltins x=some (.type T))(ha:PA X (e::es) t)(hn:x≠"__name__":=by decide)(hdb:(x==("__debug__" : Str))=false:=by decide)
  (he:starEach (e::es) X.env=(false,eval e X.env)::starEach es X.env:=by rfl) (hpl:(backTo pos (starEach es X.env)).any (·.1)=false:=by rfl):PE X (.Call (.Name x p) (e::es) [] pos) (Mq r t):=by
 intro ak s σ H Q I h;refine C_ (xJ I hg hm hv ?_ hn hdb);exact CJ (aV (ha pos ak s σ H _ I h) λus s1 hx=>dN hx λvs H1 I1 r1 q1=>hc ak s1 σ H1 vs us Q I1 r1 q1) he hpl
end
end L2
namespace HT
open PySem PyProof.Rows
noncomputable def lexLt:List Int->List Int->Bool
 |[],[]=>false
 |[],_::_=>true
 |_::_,[]=>false
 |x::xs,y::ys=>if x=y then lexLt xs ys else decide (x<y)
theorem jQ(x y:Int)(xs ys:List Int):lexLt (x::xs) (y::ys)=if x=y then lexLt xs ys else decide (x<y):=rfl
theorem zcV:lexLt [] []=false:=rfl
theorem zci(y:Int)(ys:List Int):lexLt [] (y::ys)=true:=rfl
theorem zch(x:Int)(xs:List Int):lexLt (x::xs) []=false:=rfl
theorem zhw(A:Around)(s:Shared)(a:Int)(t:Tok)(c:Int)(u:Tok):∃e,SeqAt.EqAt A s (.int a t) (.int c u) e/\(e=true↔a=c):=
 ⟨(a==c),SeqAt.EqAt.int_int a t c u,by simp⟩
theorem zhV(A:Around)(s:Shared)(a:Int)(t:Tok)(c:Int)(u:Tok)(prog:Program)(w:World)(E:Value->Shared->Prop)(Q:Value->Shared->Prop)(h:Q (.bool (decide (a<c))) s) :
  wpAny (model prog w) A (richCompare .Lt (.int a t) (.int c u)) Q E s:=
 (PyProof.Rows.lt_int h:wpAny (model prog w) A (compareOp .Lt (.int a t) (.int c u)) Q E s)
section
open PySem.SeqAt
open PySem.AutoSeq1 (wpAny_loadPart')
open PySem.MeetsSeq PySem.MeetsSeq2 PySem.MeetsSeq3
theorem zcZ(l b:Addr)(items items2:Array Value)(n n2:Nat)(dd dd2:Option Addr)(sl sl2:Array (Option Value))(ns ms:List Int)(hi:IntsAre items.toList ns)(hj:IntsAre items2.toList ms) :
  Meets (Builtin.«tuple.__lt__» ⟨[.ref l,.ref b],[]⟩)
   (λ_ R s=>s.heap.get? l=some {cls:=.type "tuple",dict:=dd,data:=.seq items n,slots:=sl}/\s.heap.get? b=some {cls:=.type "tuple",dict:=dd2,data:=.seq items2 n2,slots:=sl2} /\
    R (.ok (.ret (.bool (lexLt ns ms)))) s):=
 .of_wp λprog w A R s h=>by
  obtain⟨hp,g,d,tk,os⟩:=s;obtain⟨hl,hb,h⟩:=h;have f2:=AutoSeq1.sub_tuple_tuple;have z1:items.size=ns.length:=by rw[<-hi.length];simp
  have z2:items2.size=ms.length:=by rw[<-hj.length];simp
  wp_walk using wpAny_loadPart' hl,wpAny_loadPart' hb,Ii _ (λrest b s'=>b.1=none/\s'=⟨hp,g,d,tk,os⟩/\∃(vs ws:List Value) (ns' BJ:List Int),rest=vs.zip ws /\
   IntsAre vs ns'/\IntsAre ws BJ/\ns'.length+items2.size=BJ.length+items.size/\R (.ok (.ret (.bool (lexLt ns' BJ)))) ⟨hp,g,d,tk,os⟩) _
  case turn=>
   rintro⟨y,x⟩ rest b s' ⟨hb',rfl,vs,ws,ns',BJ,hz,Mr,hwi,hlen,hR⟩;cases Mr with
   |nil=>rw[List.zip_nil_left] at hz;cases hz
   |cons a t Ms=>
    cases hwi with
    |nil=>rw[List.zip_nil_right] at hz;cases hz
    |cons c u Mt=>
     rw[Dg] at hz;injection hz with hyx hrest;injection hyx with hy hx;subst hy hx;rw[jQ] at hR;simp only[gY] at hlen;obtain⟨e,he,hiff⟩:=zhw A.in1 ⟨hp,g,d,tk,os⟩ a t c u;refine au (he prog w _ _ ?_);cases e with
     |true=>
      rw[if_pos (hiff.mp rfl)] at hR
      wp_walk
      exact⟨rfl,rfl,_,_,_,_,hrest,Ms,Mt,by lia,hR⟩
     |false=>
      rw[if_neg (λq=>absurd (hiff.mpr q) HW)] at hR;have hri:=zhV A.in1 ⟨hp,g,d,tk,os⟩ a t c u prog w
      wp_walk using hri
      exact⟨_,rfl,by simpa using hR⟩
  case fin=>
   rintro⟨b1,b2⟩ s' ⟨hb',rfl,vs,ws,ns',BJ,hz,Mr,hwi,hlen,hR⟩;simp only at hb';subst hb';have hv:lexLt ns' BJ=decide (items.size<items2.size):=by
    cases Mr with
    |nil=>
     cases hwi with
     |nil=>
      simp only[ql] at hlen;rw[zcV];exact(cZ (by lia)).symm
     |cons c u hw=>
      simp only[ql,gY] at hlen;rw[zci];exact(cT (by lia)).symm
    |cons a t hv=>
     cases hwi with
     |nil=>
      simp only[ql,gY] at hlen;rw[zch];exact(cZ (by lia)).symm
     |cons c u hw=>
      rw[Dg] at hz;cases hz
   rw[hv] at hR
   wp_walk
   exact⟨_,rfl,by simpa [Builtin.Tuple.tupleCompareSizes] using hR⟩
  case h=>
   exact⟨rfl,rfl,items.toList,items2.toList,ns,ms,rfl,hi,hj,by lia,h⟩
end
section
variable {prog:Program}{w:World}{A:Around}{E:Value->Shared->Prop}{s:Shared}
theorem oA{l b:Addr}{items items2:Array Value}{ns ms:List Int}{Q:Value->Shared->Prop}(hl:IsTup s.heap l items)(hb:IsTup s.heap b items2)(hi:IntsAre items.toList ns)(hj:IntsAre items2.toList ms)
  (hu:A.units<cLine) (h:Q (.bool (lexLt ns ms)) s):wpAny (model prog w) A (compareOp .Lt (.ref l) (.ref b)) Q E s:=by
 obtain⟨⟨cls,dd,data,sl⟩,ho,hc,n,hd⟩:=id hl;obtain⟨⟨cls2,dd2,data2,sl2⟩,ho2,hc2,n2,hd2⟩:=id hb;simp only at hc hd hc2 hd2;subst hc hd hc2 hd2;exact richCompare_meets_room (op:=.Lt) ⟨_,ho,rfl⟩ ⟨_,ho2,rfl⟩ PySem.F.slot_tuple_lt PySem.F.entry_tuple_lt (PySem.F.args_tuple_lt_2 _ _) (zcZ l b items items2 n n2 dd dd2 sl sl2 ns ms hi hj)
  ⟨ho,ho2,show Value.bool (lexLt ns ms)≠Value.notImplemented/\Q (.bool (lexLt ns ms)) s from ⟨(λx=>nomatch x),h⟩⟩ hu
theorem vK{t b:Addr}{vs ws:List Value}{Q:Value->Shared->Prop}(ht:IsTup s.heap t vs.toArray)(hb:IsTup s.heap b ws.toArray)(hv:vs≠[])
  (h1:ws=[]->Q (.ref t) s) (h2:ws≠[]->Q (.ref s.heap.objs.size) {s with heap:=s.heap.push {cls:=.type "tuple",data:=.seq (vs++ws).toArray}})
  (hsz:vs.length+ws.length<=sizeLine):wpAny (model prog w) A (binaryOp .Add (.ref t) (.ref b)) Q E s:=by
 obtain⟨⟨cls,dd,data,sl⟩,ho,hc,n,hd⟩:=id ht;obtain⟨⟨cls2,dd2,data2,sl2⟩,ho2,hc2,n2,hd2⟩:=id hb;simp only at hc hd hc2 hd2;subst hc hd hc2 hd2;have e:vs.toArray++ws.toArray=(vs++ws).toArray:=by simp
 by_cases hw:ws=[]
 ·exact concat_meets ⟨_,ho,rfl⟩ ⟨_,ho2,rfl⟩ noFill_tuple_add seq_tuple_add KR KN (KJ _ _)
   (tuple_addW1 t b vs.toArray ws.toArray n n2 dd dd2 sl sl2 (by simpa using hv) (by simp[hw])) ⟨ho,ho2,h1 hw⟩
 ·refine concat_meets ⟨_,ho,rfl⟩ ⟨_,ho2,rfl⟩ noFill_tuple_add seq_tuple_add KR KN (KJ _ _)
   (tuple_addW2 t b vs.toArray ws.toArray n n2 dd dd2 sl sl2 (by simpa using hv) (by simpa using hw) (by rw[dD,dD];exact hsz)) ⟨ho,ho2,?_⟩
  rw[e];exact h2 hw
noncomputable def bN(n d:Nat):Option Int->Nat
 |none=>d
 |some v=>if v<0 then (v+(n:Int)).toNat else min v.toNat n
theorem sG(n d:Nat):bN n d none=d:=rfl
theorem vL(n d k:Nat):bN n d (some (k:Int))=min k n:=by
 show (if (k:Int)<0 then ((k:Int)+(n:Int)).toNat else min (k:Int).toNat n)=min k n;rw[if_neg (by lia),vf]
theorem zlw(n d:Nat)(hd:d<=n)(o:Option Int):bN n d o<=n:=by
 cases o with
 |none=>exact hd
 |some v=>
  show (if v<0 then (v+(n:Int)).toNat else min v.toNat n)<=n;by_cases hv:v<0
  ·rw[if_pos hv];lia
  ·rw[if_neg hv];exact Nat.min_le_right _ _
theorem S5(v:Int)(n d:Nat):(if v<0 then max (v+(n:Int)) 0 else min v (n:Int))=((bN n d (some v):Nat):Int):=by
 show (if v<0 then max (v+(n:Int)) 0 else min v (n:Int))=(((if v<0 then (v+(n:Int)).toNat else min v.toNat n):Nat):Int);by_cases hv:v<0
 ·simp only[if_pos hv];lia
 ·simp only[if_neg hv];lia
theorem ze1(lo hi:Option Int)(n:Nat):Builtin.Slice.sliceAdjust lo hi 1 (n:Int)=(((bN n 0 lo:Nat):Int),((bN n n hi:Nat):Int)):=by
 have h1:¬((1:Int)<0):=by lia
 unfold Builtin.Slice.sliceAdjust;simp only[h1,jg];refine Prod.ext ?_ ?_
 ·cases lo with
  |none=>rfl
  |some v=>exact S5 v n 0
 ·cases hi with
  |none=>rfl
  |some v=>exact S5 v n n
theorem zfl(i j:Nat):Builtin.Slice.slicePlaces (i:Int) (j:Int) 1=j-i:=by
 unfold Builtin.Slice.slicePlaces;have h1:(1:Int)>0:=by lia
 simp only[h1,if_true,Int.ediv_one]
 split<;>lia
theorem Mu{v:Value}{o:Option Int}{Q:Option Int->Shared->Prop}(p:IsPart v o)(h:Q o s):wpAny (model prog w) A (Builtin.Slice.slicePartIndex v) Q E s:=by
 cases p with
 |none=>exact slicePart_none h
 |int i t=>exact slicePart_int h
theorem S6{sl:Addr}{vl vu:Value}{lo hi:Option Int}{n:Nat}{Q:Int×Int×Nat->Shared->Prop}(hs:s.heap.IsSliceOf sl vl vu .none)(pl:IsPart vl lo)(pu:IsPart vu hi)
  (h:Q (((bN n 0 lo:Nat):Int),1,bN n n hi-bN n 0 lo) s):wpAny (model prog w) A (Builtin.Slice.sliceApplied (.ref sl) (pure (n:Int))) Q E s:=by
 obtain⟨os,hos,hcs,hds⟩:=id hs;unfold Builtin.Slice.sliceApplied Builtin.Slice.sliceFields;refine au (au (kI hos hds (x:=vl) rfl (au (kI hos hds (x:=vu) rfl (au (kI hos hds (x:=.none) rfl (aJ ?_)))))));refine au (slicePart_none ?_);show wpAny _ _ (if ((1:Int)==0)=true then _ else _) _ _ s;rw[if_neg (by decide)];refine au (Mu pl (au (Mu pu (au (aJ ?_)))));show wpAny _ _ (match Builtin.Slice.sliceAdjust lo hi 1 (n:Int) with|(lo,hi)=>pure (lo,(1:Int),Builtin.Slice.slicePlaces lo hi 1)) _ _ s;rw[ze1 lo hi n];show wpAny _ _ (pure (((bN n 0 lo:Nat):Int),(1:Int),Builtin.Slice.slicePlaces ((bN n 0 lo:Nat):Int) ((bN n n hi:Nat):Int) 1)) _ _ s;rw[zfl];exact aJ h
theorem zhL(xs:Array Value)(i k:Nat):((List.range k).filterMap λ(m:Nat)=>xs[((i:Int)+(m:Int)*1).toNat]?).toArray=((xs.toList.drop i).take k).toArray:=by
 have e:(λ(m:Nat)=>xs[((i:Int)+(m:Int)*1).toNat]?)=λm=>xs[i+m]?:=by
  funext m
  have:((i:Int)+(m:Int)*1).toNat=i+m:=by lia
  rw[this]
 rw[e];have:=pick_run xs i k;rw[List.filterMap_map] at this;have e2:((λx=>xs[x]?)∘λx=>i+x)=λm=>xs[i+m]?:=rfl;rw[e2] at this;rw[this]
theorem iu{t sl:Addr}{items:Array Value}{vl vu:Value}{lo hi:Option Int}{Q:Value->Shared->Prop}(ht:IsTup s.heap t items)(hs:s.heap.IsSliceOf sl vl vu .none)(pl:IsPart vl lo)(pu:IsPart vu hi)
  (hw:¬(bN items.size 0 lo=0/\bN items.size items.size hi=items.size))
  (h:Q (.ref s.heap.objs.size) {s with heap:=s.heap.push {cls:=.type "tuple",data:=.seq ((items.toList.drop (bN items.size 0 lo)).take (bN items.size items.size hi-bN items.size 0 lo)).toArray}})
  (hsz:items.size<=sizeLine):wpAny (model prog w) A (getItem (.ref t) (.ref sl)) Q E s:=by
 have iw:sizeOk (.seq ((items.toList.drop (bN items.size 0 lo)).take (bN items.size items.size hi-bN items.size 0 lo)).toArray):=by
  show ((items.toList.drop (bN items.size 0 lo)).take (bN items.size items.size hi-bN items.size 0 lo)).toArray.size<=sizeLine;rw[dD,wV,Dh,Ba]
  lia
 have hj:bN items.size items.size hi<=items.size:=zlw _ _ (cg _) hi;obtain⟨os,hos,hcs,hds⟩:=id hs;have hTs:s.TypeIs (.ref sl) "slice":=⟨os,hos,hcs⟩;unfold getItem
 try with_reducible refine kE ?_
 first|refine au (aJ ?_)|skip
 refine au (wpAny_sequenceKey ht.typeIs (by decide) ?_);refine au (wN (name:=Str.ofString "__getitem__") ht.typeIs u_
  (qR u_ ht.typeIs entry_tuple_getitem ?_ (args_tuple_getitem _ _)))
 show wpAny _ _ (Builtin.Tuple.tupleItemsOf (.ref t) >>= _) _ _ s;refine au (tupleItemsOf_ ht ?_);refine au (xg hTs ?_);rw[if_pos (by decide)];refine au (S6 hs pl pu ?_);have hno:¬((((bN items.size 0 lo:Nat):Int)==0&&(1:Int)==1&&(bN items.size items.size hi-bN items.size 0 lo)==items.size)=true):=by
  intro q;rw[cI,cI] at q;have q1:((bN items.size 0 lo:Nat):Int)=0:=eq_of_beq q.1.1;have q2:bN items.size items.size hi-bN items.size 0 lo=items.size:=eq_of_beq q.2;exact hw ⟨by lia,by lia⟩
 show wpAny _ _ (if (((bN items.size 0 lo:Nat):Int)==0&&(1:Int)==1&&(bN items.size items.size hi-bN items.size 0 lo)==items.size)=true then _ else _) _ _ s;rw[if_neg hno,zhL]
 first
  |exact au (m:=Builtin.Tuple.tupleExact _) (nO (aJ ⟨_,rfl,aJ h⟩) iw)
  |exact au (m:=Builtin.Tuple.tupleExact _) (nO (au (aJ (aJ ⟨_,rfl,aJ h⟩))) iw)
  |exact au (au (m:=Builtin.Tuple.tupleExact _) (nO (aJ (aJ ⟨_,rfl,aJ h⟩)) iw))
  |exact au (au (m:=Builtin.Tuple.tupleExact _) (nO (aJ ⟨_,rfl,aJ h⟩) iw))
end
end HT
namespace L2
open PySem PySem.Spec PyProof.Rows
noncomputable abbrev TO:=St->Hp->(Option Int->Hp->Prop)->Prop
def PO(X:Cx)(e:Option Expr)(t:TO):Prop:=
 ∀(ak:List (Addr×Obj)) (s:Shared) (σ:St) (H:Hp) (Q:Option Int->Hp->Prop),Inv X ak σ H s->t σ H Q->
  wpAny (model X.prog X.w) X.A (evalPart e X.env) (λu s'=>∃o H',Inv X ak σ H' s'/\IsPart u o/\Q o H') X.xe s
noncomputable def vM:TO:=λ_ H Q=>Q none H
noncomputable def Ek(t:TE):TO:=λσ H Q=>t σ H λx H1=>∃i,x=.int i/\Q (some i) H1
theorem S7{ns:List Int}:∀{us:List Value},Vals (ns.map V.int) us->IntsAre us ns:=by
 induction ns with
 |nil=>intro us r;rw[List.map_nil] at r;cases r;exact .nil
 |cons n ns ih=>
  intro us r;rw[jA] at r;cases r with
  |cons r1 r2=>
   obtain⟨t,e⟩:=r1;subst e;exact .cons n t (ih r2)
section
variable {X:Cx}{e:Expr}{te:TE}{lo hi:Option Expr}{tl th:TO}{pos p2:Pos}
theorem zjn:PO X none vM:=by
 intro ak s σ H Q I h;rw[evalPart_none];exact aJ ⟨none,H,I,.none,h⟩
theorem zkk(h:PE X e te):PO X (some e) (Ek te):=by
 intro ak s σ H Q I hw;rw[evalPart_some];refine aV (h ak s σ H _ I hw) λu s1 hx=>dN hx λx H1 I1 r1 q1=>?_;obtain⟨i,rfl,q⟩:=q1;obtain⟨t,rfl⟩:=r1;exact⟨some i,H1,I1,.int i t,q⟩
def vN(X:Cx)(r:V->Option Int->Option Int->Hp->VK->Prop):Prop:=
 ∀(ak:List (Addr×Obj)) (s:Shared) (σ:St) (H:Hp) (x:V) (v vl vu:Value) (lo hi:Option Int) (sl:Addr) (Q:VK),Inv X ak σ H s->RelV x v->s.heap.IsSliceOf sl vl vu .none->IsPart vl lo->IsPart vu hi->r x lo hi H Q->
  ∃T id,typeLookup (.type T) "__getitem__"=pure (some (.builtin id))/\s.TypeIs v T/\wpAny (model X.prog X.w) X.A (getItem v (.ref sl)) (EP X ak σ Q) X.xe s
theorem vN.or{r r':V->Option Int->Option Int->Hp->VK->Prop}(h:vN X r)(h':vN X r'):vN X (λx lo hi H Q=>r x lo hi H Q\/r' x lo hi H Q):=by
 intro ak s σ H x v vl vu lo hi sl Q I rx hs pl pu q;rcases q with q|q
 ·exact h ak s σ H x v vl vu lo hi sl Q I rx hs pl pu q
 ·exact h' ak s σ H x v vl vu lo hi sl Q I rx hs pl pu q
noncomputable def tSl(r:V->Option Int->Option Int->Hp->VK->Prop)(te:TE)(tl th:TO):TE:=λσ H Q=>te σ H λx H1=>tl σ H1 λl H2=>th σ H2 λu H3=>r x l u H3 Q
theorem zhl{r:V->Option Int->Option Int->Hp->VK->Prop}(hr:vN X r)(he:PE X e te)(hl:PO X lo tl)(hu:PO X hi th):PE X (.Subscript e (.Slice lo hi none p2) pos) (tSl r te tl th):=by
 intro ak s σ H Q I h;refine Subscript_ (aV (he ak s σ H _ I h) λv s1 hx=>dN hx λx H1 I1 r1 q1=>?_);refine wpAny_Slice (aV (hl ak s1 σ H1 _ I1 q1) λvl s2 hx=>dN hx λl H2 I2 pl q2=>aV (hu ak s2 σ H2 _ I2 q2) λvu s3 hx=>dN hx λu H3 I3 pu q3=>?_);rw[evalPart_none];refine aJ ?_;have I4:Inv X ak σ H3 {s3 with heap:=s3.heap.push {cls:=.type "slice",data:=.fields #[vl,vu,.none]}}:=I3.kept (t':=s3.toks) λb ob q=>bZ _ q;obtain⟨T,id,hT,ht,hg⟩:=hr ak {s3 with heap:=s3.heap.push {cls:=.type "slice",data:=.fields #[vl,vu,.none]}} σ H3 x v vl vu l u s3.heap.objs.size Q I4 r1 (Heap.IsSliceOf.new ..) pl pu q3;show wpAny (model X.prog X.w) X.A (subscriptTail e (.Slice lo hi none p2) v (.ref s3.heap.objs.size)) (EP X ak σ Q) X.xe {s3 with heap:=s3.heap.push {cls:=.type "slice",data:=.fields #[vl,vu,.none]}};exact tail_any (ops:=[.ref s3.heap.objs.size,v]) ht hT hg (by with_unfolding_all rfl)
noncomputable def lQ(xs:List V)(lo hi:Option Int):List V:=(xs.drop (HT.bN xs.length 0 lo)).take (HT.bN xs.length xs.length hi-HT.bN xs.length 0 lo)
theorem S8(xs:List V)(lo hi:Option Int):(lQ xs lo hi).length<=xs.length:=by
 unfold lQ;rw[wV,Dh]
 lia
noncomputable def Mv(K:PySem.W.Frag):V->Option Int->Option Int->Hp->VK->Prop:=λx lo hi H Q=>∃a xs,x=.ref a/\fL K H a xs /\
 ¬(HT.bN xs.length 0 lo=0/\HT.bN xs.length xs.length hi=xs.length)/\∀p,H p=none->Q (.ref p) (upd H p (.tup (lQ xs lo hi)))
theorem zlU:vN X (Mv X.K):=by
 intro ak s σ H x v vl vu lo hi sl Q I rx hs pl pu h;obtain⟨a,xs,rfl,hx,hw,q⟩:=h;cases rx;obtain⟨its,r,ht,hz⟩:=I.tuple hx;have hlen:its.toArray.size=xs.length:=by rw[dD];exact r.length.symm
 refine⟨"tuple",_,u_.lookup,ht.typeIs,?_⟩;refine HT.iu ht hs pl pu (by rw[hlen];exact hw) ?_ (by rw[hlen];exact hz);rw[hlen];refine⟨.ref s.heap.objs.size,_,I.laid (t':=s.toks) (o:=.tup (lQ xs lo hi)) (λb ob q=>bZ _ q) (cg _) ?_,rfl,q _ (I.hok.fresh (cg _))⟩;exact⟨n8 (S8 xs lo hi) hz,_,(r.drop (HT.bN xs.length 0 lo)).take (HT.bN xs.length xs.length hi-HT.bN xs.length 0 lo),IsTup.new _ _⟩
noncomputable def El(K:PySem.W.Frag):R2:=λx y H Q=>∃a b ns ms,x=.ref a/\y=.ref b/\fL K H a (ns.map V.int)/\fL K H b (ms.map V.int)/\Q (.bl (HT.lexLt ns ms)) H
theorem zlP(hu:X.A.units<cLine):cU X (compareOp .Lt) (El X.K):=by
 intro ak s σ H x y v u Q I rx ry h;obtain⟨a,b,ns,ms,rfl,rfl,ha,hb,q⟩:=h;cases rx;cases ry;obtain⟨its,r1,p1,_⟩:=I.tuple ha;obtain⟨its2,r2,p2,_⟩:=I.tuple hb;have i1:IntsAre its.toArray.toList ns:=S7 r1;have i2:IntsAre its2.toArray.toList ms:=S7 r2;exact HT.oA p1 p2 i1 i2 hu ⟨.bl (HT.lexLt ns ms),H,I,rfl,q⟩
theorem Vals.lR{xs:List V}{us:List Value}(r:Vals xs us):us=[]↔xs=[]:=by
 cases r with
 |nil=>simp
 |cons _ _=>simp
end
noncomputable def qW(n:Nat)(i:Int):Option Nat:=if 0<=i then (if i<n then some i.toNat else none) else if -(n:Int)<=i then some (i+n).toNat else none
noncomputable def pI{α:Type}(xs:List α)(i:Int):Option α:=(qW xs.length i).bind λj=>xs[j]?
theorem S9{n:Nat}{i:Int}{j:Nat}(h:qW n i=some j):seqIndex? i n=some j/\j<n/\-(n:Int)<=i/\i<n:=by
 unfold qW at h;by_cases h0:0<=i
 ·rw[if_pos h0] at h;by_cases h1:i<n
  ·rw[if_pos h1] at h;have e:i.toNat=j:=dw h;exact⟨by rw[seqIndex_of h0 h1,e],by lia,by lia,h1⟩
  ·rw[if_neg h1] at h;cases h
 ·rw[if_neg h0] at h;by_cases h1 : -(n:Int)<=i
  ·rw[if_pos h1] at h;have e:(i+n).toNat=j:=dw h;exact⟨by rw[seqIndex_neg (by lia) h1,e],by lia,h1,by lia⟩
  ·rw[if_neg h1] at h;cases h
theorem Mw{α:Type}{xs:List α}{i:Int}{v:α}(h:pI xs i=some v):∃j,seqIndex? i xs.length=some j/\xs[j]?=some v/\j<xs.length/\-(xs.length:Int)<=i/\i<xs.length:=by
 unfold pI at h;cases e:qW xs.length i with
 |none=>rw[e] at h;cases h
 |some j=>
  rw[e] at h;obtain⟨h1,h2,h3,h4⟩:=S9 e;exact⟨j,h1,h,h2,h3,h4⟩
def pJ(b:Expr):Prop:=∀o i,subscripted b false o i=operate [o,i] (getItem o i)
def vO(X:Cx)(r:R2):Prop:=
 ∀(value slice:Expr) (ak:List (Addr×Obj)) (s:Shared) (σ:St) (H:Hp) (x y:V) (v u:Value) (Q:VK),Inv X ak σ H s->RelV x v->RelV y u->r x y H Q->
  subscripted slice false v u=operate [v,u] (getItem v u)->wpAny (model X.prog X.w) X.A (subscriptTail value slice v u) (EP X ak σ Q) X.xe s
def Em(X:Cx)(id:String)(r:V->List V->Hp->VK->Prop):Prop:=
 ∀(ak:List (Addr×Obj)) (s:Shared) (σ:St) (H:Hp) (x:V) (xs:List V) (v:Value) (us:List Value) (Q:VK),Inv X ak σ H s->RelV x v->Vals xs us->r x xs H Q->
  wpAny (model X.prog X.w) X.A (call (.builtin id) (v::us)) (EP X ak σ Q) X.xe s
section
variable {X:Cx}{a b:Expr}{ta tb:TE}{pos:Pos}
theorem vO.or{r r':R2}(h:vO X r)(h':vO X r'):vO X (λx y H Q=>r x y H Q\/r' x y H Q):=by
 intro value slice ak s σ H x y v u Q I rx ry q hs;rcases q with q|q
 ·exact h value slice ak s σ H x y v u Q I rx ry q hs
 ·exact h' value slice ak s σ H x y v u Q I rx ry q hs
theorem znM{r:R2}(hr:vO X r)(ha:PE X a ta)(hb:PE X b tb)(hs:pJ b):PE X (.Subscript a b pos) (Jd r ta tb):=by
 intro ak s σ H Q I h;exact Subscript_ (yZ ha hb I h λv u s2 x y H2 I2 rx ry q=>hr a b ak s2 σ H2 x y v u Q I2 rx ry q (hs _ _))
noncomputable def En(K:PySem.W.Frag):R2:=λx y H Q=>∃p xs i v,x=.ref p/\y=.int i/\dj K H p xs/\pI xs i=some v/\Q v H
noncomputable def Ep(K:PySem.W.Frag):R2:=λx y H Q=>∃p xs i v,x=.ref p/\y=.int i/\fL K H p xs/\pI xs i=some v/\Q v H
noncomputable def Er:R2:=λx y H Q=>∃z i c,x=.str z/\y=.int i/\z.length<=sizeLine/\pI z.cps.toList i=some c/\Q (.str ⟨#[c]⟩) H
theorem vP:vO X (En X.K):=by
 intro value slice ak s σ H x y v u Q I rx ry h hs;obtain⟨p,xs,i,z,rfl,rfl,hq,he,q⟩:=h;cases rx;obtain⟨t,rfl⟩:=ry;obtain⟨its,r,pl,hz⟩:=I.list hq;obtain⟨j,h1,h2,h3,h4,h5⟩:=Mw he;obtain⟨w,ew,mU⟩:=r.get h2;have hl:=r.length;have hn:=iQ;have fin:EP X ak σ Q w s:=⟨z,H,I,mU,q⟩;by_cases h0:0<=i
 ·have hj:i.toNat=j:=by
   rw[seqIndex_of h0 h5] at h1;exact dw h1
  exact item_listR pl.isList h0 (by lia) (by rw[hj];simpa using ew) fin hs
 ·have hj:(i+(its.toArray.size:Int)).toNat=j:=by
   rw[seqIndex_neg (by lia) h4] at h1;rw[dD,<-hl];exact dw h1
  exact subscriptTail_builtinR (x:=w) pl.isList.typeIs slot_list_getitem.lookup
   (wpAny_getItem_list_neg (Q:=λr s'=>r=w/\EP X ak σ Q r s') pl.isList (by lia) (by rw[dD]<;>lia) (by lia) (by rw[hj];simpa using ew) ⟨rfl,fin⟩) hs
theorem zu:vO X (Ep X.K):=by
 intro value slice ak s σ H x y v u Q I rx ry h hs;obtain⟨p,xs,i,z,rfl,rfl,hq,he,q⟩:=h;cases rx;obtain⟨t,rfl⟩:=ry;obtain⟨its,r,pl,hz⟩:=I.tuple hq;obtain⟨j,h1,h2,h3,h4,h5⟩:=Mw he;obtain⟨w,ew,mU⟩:=r.get h2;have hl:=r.length;have hn:=iQ;have fin:EP X ak σ Q w s:=⟨z,H,I,mU,q⟩;exact subscriptTail_builtinR (x:=w) pl.typeIs slot_tuple_getitem.lookup
  (getItem_tuple (j:=j) (Q:=λr s'=>r=w/\EP X ak σ Q r s') pl (by lia) (by lia) (by rw[dD,<-hl];exact h1) (by simpa using ew) ⟨rfl,fin⟩) hs
theorem zmr:vO X Er:=by
 intro value slice ak s σ H x y v u Q I rx ry h hs;obtain⟨z,i,c,rfl,rfl,hz,he,q⟩:=h;obtain⟨t,rfl⟩:=rx;obtain⟨t',rfl⟩:=ry;obtain⟨j,h1,h2,h3,h4,h5⟩:=Mw he;have hl:z.cps.toList.length=z.length:=by simp[Str.length]
 rw[hl] at h1 h4 h5;have hn:=iQ;exact tail_any (typeIs_str s z t) slot_str_getitem.lookup (getItem_str (c:=c) (by
  have e1:decide (i < -(2^63:Int))=false:=cZ (by lia);have e2:decide (i>=2^63)=false:=cZ (by lia);rw[e1,e2,Bool.or_false]) (by rw[h1];simpa using h2) ⟨.str ⟨#[c]⟩,H,I.tok _,⟨_,rfl⟩,q⟩) hs
noncomputable def Mx(K:PySem.W.Frag):R2:=λx y H Q=>En K x y H Q\/Ep K x y H Q\/Er x y H Q
theorem zmF:vO X (Mx X.K):=vP.or (zu.or zmr)
theorem zfm(its:List Value)(n j:Nat)(u:Value):Obj.mapSeq (·.setIfInBounds j u) {cls:=.type "list",data:=.seq its.toArray n}={cls:=.type "list",data:=.seq (its.set j u).toArray n}:=by
 simp[Obj.mapSeq]
theorem Inv.lst{ak:List (Addr×Obj)}{σ:St}{H:Hp}{s:Shared}{p:Addr}{xs:List V}(I:Inv X ak σ H s)(h:H p=some (.lst xs)) :
  ∃(its:List Value) (n:Nat),Vals xs its/\s.heap.get? p=some {cls:=.type "list",data:=.seq its.toArray n}/\xs.length<=sizeLine:=by
 obtain⟨z,its,n,r,e⟩:=I.hok p _ h;exact⟨its,n,r,e,z⟩
theorem Inv.zx{ak:List (Addr×Obj)}{σ:St}{H:Hp}{s:Shared}{p:Addr}{xs ys:List V}{its its':List Value}{n n':Nat}{f:Obj->Obj}(I:Inv X ak σ H s)(h:H p=some (.lst xs))
  (ho:s.heap.get? p=some {cls:=.type "list",data:=.seq its.toArray n}) (hf:f {cls:=.type "list",data:=.seq its.toArray n}={cls:=.type "list",data:=.seq its'.toArray n'}) (r:Vals ys its') (hz:ys.length<=sizeLine) (t:Nat) :
  Inv X ak σ (upd H p (.lst ys)) {s with heap:=s.heap.update p f,toks:=t}:=by
 have e:(s.heap.update p f).get? p=some {cls:=.type "list",data:=.seq its'.toArray n'}:=by
  rw[rG f ho (by rw[hf]<;>rfl),hf]
 refine I.write (x:=p) (e:=p) (by rw[h];trivial) (.inl rfl) (λb u hb q=>(uD _ _ (Ne.symm hb)).trans q) ⟨_,e⟩ ?_;exact⟨hz,its',n',r,e⟩
noncomputable def Et:V->V->V->Hp->(Hp->Prop)->Prop:=λo i v H Q=>∃p xs k j,o=.ref p/\i=.int k/\H p=some (.lst xs)/\qW xs.length k=some j/\Q (upd H p (.lst (xs.set j v)))
theorem zif:DR X Et:=by
 intro ak s σ H o i v ov iv u Q I ro ri rv h;obtain⟨p,xs,k,j,rfl,rfl,hp,hj,q⟩:=h;cases ro;obtain⟨t,rfl⟩:=ri;obtain⟨its,n,r,ho,hz⟩:=I.lst hp;obtain⟨h1,h2,h3,h4⟩:=S9 hj;have hl:=r.length;have hn:=iQ;have I':Inv X ak σ (upd H p (.lst (xs.set j v))) {s with heap:=s.heap.update p (Obj.mapSeq (·.setIfInBounds j u))}:=
  I.zx hp ho (zfm its n j u) (r.set rv j) (by rw[nZ];exact hz) s.toks
 by_cases h0:0<=k
 ·have hk:k.toNat=j:=by
   rw[seqIndex_of h0 h4] at h1;exact dw h1
  exact PySem.W.ki_setAt ho h0 (by lia) (by rw[dD,<-hl];exact h4) (by rw[hk];exact⟨_,I',q⟩)
 ·have hk:(k+(its.toArray.size:Int)).toNat=j:=by
   rw[seqIndex_neg (by lia) h3] at h1;rw[dD,<-hl];exact dw h1
  exact PySem.W.ki_setBack ho (by lia) (by rw[dD,<-hl];exact h3) (by lia) (by rw[hk];exact⟨_,I',q⟩)
theorem zc9(lo hi:Option Int)(n:Nat):(sliceBounds lo hi none n).1=((HT.bN n 0 lo:Nat):Int)/\(sliceBounds lo hi none n).2.1=((HT.bN n n hi:Nat):Int)/\(sliceBounds lo hi none n).2.2=1:=by
 refine⟨?_,?_,rfl⟩
 ·cases lo with
  |none=>simp[sliceBounds,HT.bN]
  |some i=>
   simp only[sliceBounds,HT.bN,Option.getD_none,show (1:Int)>0 by decide,if_true];by_cases h:i<0
   ·simp only[h,if_true]<;>lia
   ·simp only[h,jg]<;>lia
 ·cases hi with
  |none=>simp[sliceBounds,HT.bN]
  |some i=>
   simp only[sliceBounds,HT.bN,Option.getD_none,show (1:Int)>0 by decide,if_true];by_cases h:i<0
   ·simp only[h,if_true]<;>lia
   ·simp only[h,jg]<;>lia
theorem zcQ(its:List Value)(lo hi:Option Int):slicePick its.toArray lo hi none=((its.drop (HT.bN its.length 0 lo)).take (HT.bN its.length its.length hi-HT.bN its.length 0 lo)).toArray:=by
 obtain⟨h1,h2,h3⟩:=zc9 lo hi its.toArray.size;unfold slicePick;rw[h1,h2,h3];simp only[sliceRange_one,pick_run,dD]<;>rfl
noncomputable def Eu(K:PySem.W.Frag):V->Option Int->Option Int->Hp->VK->Prop:=λx lo hi H Q=>∃a xs,x=.ref a/\dj K H a xs/\∀p,H p=none->Q (.ref p) (upd H p (.lst (lQ xs lo hi)))
theorem vQ:vN X (Eu X.K):=by
 intro ak s σ H x v vl vu lo hi sl Q I rx hs pl pu h;obtain⟨a,xs,rfl,hx,q⟩:=h;cases rx;obtain⟨its,r,ht,hz⟩:=I.list hx;have hlen:=r.length;refine⟨"list",_,slot_list_getitem.lookup,ht.isList.typeIs,?_⟩;refine wpAny_getItem_list_slice ht.isList hs pl pu .none (by simp) ?_ (by rw[dD]<;>lia);rw[zcQ,<-hlen];refine⟨.ref s.heap.objs.size,_,I.laid (t':=s.toks) (o:=.lst (lQ xs lo hi)) (λb ob q=>bZ _ q) (cg _) ?_,rfl,q _ (I.hok.fresh (cg _))⟩;exact⟨n8 (S8 xs lo hi) hz,_,0,(r.drop (HT.bN xs.length 0 lo)).take (HT.bN xs.length xs.length hi-HT.bN xs.length 0 lo),gW _ rfl⟩
theorem zc3:cV X (.builtin "len") (λxs H Q=>∃p ys,xs=[.ref p]/\(dj X.K H p ys\/fL X.K H p ys)/\Q (.int ys.length) H):=by
 intro ak s σ H xs us Q I r h;obtain⟨p,ys,rfl,hq,q⟩:=h;obtain⟨u,rfl,rx⟩:=vals1 r;cases rx;have hn:=iQ;rcases hq with hq|hq
 ·obtain⟨its,r',pl,hz⟩:=I.list hq;have hlen:=r'.length;exact Calls.call_len_list pl.isList (by simp only[dD]<;>lia) ⟨.int ys.length,H,I.tok _,⟨s.toks+1,by rw[dD,hlen]⟩,q⟩
 ·obtain⟨its,r',pl,hz⟩:=I.tuple hq;have hlen:=r'.length;exact len_tuple pl (by simp only[dD]<;>lia) ⟨.int ys.length,H,I.tok _,⟨s.toks+1,by rw[dD,hlen]⟩,q⟩
theorem zdh:cV X (.type "list") (λxs H Q=>∃p ys,xs=[.ref p]/\(dj X.K H p ys\/fL X.K H p ys)/\∀l,H l=none->Q (.ref l) (upd H l (.lst ys))):=by
 intro ak s σ H xs us Q I r h;obtain⟨p,ys,rfl,hq,q⟩:=h;obtain⟨u,rfl,rx⟩:=vals1 r;cases rx;have fin:∀(its:List Value),Vals ys its->ys.length<=sizeLine->∀(h':Heap) (c':Nat),(∀b o',s.heap.get? b=some o'->h'.get? b=some o')->
   h'.get? s.heap.objs.size=some {cls:=.type "list",dict:=none,data:=.seq its.toArray c',slots:=#[]}->EP X ak σ Q (.ref s.heap.objs.size) {s with heap:=h'}:=λits r' hz h' c' kp e=>
  ⟨.ref s.heap.objs.size,_,I.laid (t':=s.toks) kp (cg _) (show aQ X.prog X.w _ h' _ (.lst ys) from ⟨hz,its,c',r',e⟩),rfl,q _ (I.hok.fresh (cg _))⟩
 rcases hq with hq|hq
 ·obtain⟨its,r',pl,hz⟩:=I.list hq;have hlen:=r'.length;obtain⟨o,ho,hc,n,hd⟩:=pl.isList;exact call_list_seq p (.inl rfl) ho hc hd (λh' c' kp e=>fin its r' hz h' c' kp e) (by simp only[dD]<;>lia)
 ·obtain⟨its,r',pl,hz⟩:=I.tuple hq;have hlen:=r'.length;obtain⟨o,ho,hc,n,hd⟩:=pl;exact call_list_seq p (.inr rfl) ho hc hd (λh' c' kp e=>fin its r' hz h' c' kp e) (by simp only[dD]<;>lia)
theorem zcN:cV X (.type "tuple") (λxs H Q=>∃p ys,xs=[.ref p]/\((dj X.K H p ys/\∀l,H l=none->Q (.ref l) (upd H l (.tup ys)))\/(fL X.K H p ys/\Q (.ref p) H))):=by
 intro ak s σ H xs us Q I r h;obtain⟨p,ys,rfl,h⟩:=h;obtain⟨u,rfl,rx⟩:=vals1 r;cases rx;rcases h with ⟨hq,q⟩|⟨hq,q⟩
 ·obtain⟨its,r',pl,hz⟩:=I.list hq;have hlen:=r'.length;refine call_tuple_list pl.isList (λh' kp=>?_) (by simp only[dD]<;>lia);have I1:Inv X ak σ H {s with heap:=h'}:=I.kept (t':=s.toks) kp;have I2:Inv X ak σ (upd H h'.objs.size (.tup ys)) {s with heap:=h'.push {cls:=.type "tuple",data:=.seq its.toArray}}:=
   I1.laid (t':=s.toks) (λb o e=>bZ _ e) (cg _) (show aQ X.prog X.w _ _ _ (.tup ys) from ⟨hz,its,r',IsTup.new _ _⟩)
  exact⟨.ref h'.objs.size,_,I2,rfl,q _ (I1.hok.fresh (cg _))⟩
 ·obtain⟨its,r',pl,hz⟩:=I.tuple hq;exact call_tuple_same pl ⟨.ref p,H,I,rfl,q⟩
def Jf(K:PySem.W.Frag)(T:String)(x:V)(H:Hp):Prop:=match x with
 |.str _=>T="str"
 |.int _=>T="int"
 |.ref p=>(T="list"/\∃xs,dj K H p xs)\/(T="tuple"/\∃o,K.lookup p=some o/\o.cls=.type "tuple"/\o.dict=none) \/
   (T="dict"/\((∃kvs,H p=some (.dK kvs))\/∃kvs,H p=some (.dT kvs)))\/(T="set"/\∃S n,H p=some (.set S n))
 |_=>False
theorem S_{ak:List (Addr×Obj)}{σ:St}{H:Hp}{s:Shared}{T:String}{x:V}{v:Value}(I:Inv X ak σ H s)(r:RelV x v)(ty:Jf X.K T x H) :
  s.TypeIs v T/\∀a,v=.ref a->∃ob,s.heap.get? a=some ob/\ob.dict=none:=by
 cases x with
 |str z=>
  obtain⟨t,rfl⟩:=r;cases (show T="str" from ty);exact⟨typeIs_str s z t,λ_ e=>nomatch e⟩
 |int i=>
  obtain⟨t,rfl⟩:=r;cases (show T="int" from ty);exact⟨typeIs_int s i t,λ_ e=>nomatch e⟩
 |ref p=>
  cases r;rcases ty with ⟨rfl,xs,hq⟩|⟨rfl,o,hk,hc,hd⟩|⟨rfl,hk⟩|⟨rfl,S,n,hk⟩
  ·obtain⟨its,_,pl,_⟩:=I.list hq;refine⟨pl.isList.typeIs,λa e=>?_⟩;cases e;obtain⟨o,n,e,c,hd,_⟩:=pl;exact⟨o,e,hd⟩
  ·refine⟨⟨o,I.qy p o hk,hc⟩,λa e=>?_⟩;cases e;exact⟨o,I.qy _ o hk,hd⟩
  ·have z:∃o,s.heap.get? p=some o/\o.ExactDict:=by
    rcases hk with ⟨kvs,hk⟩|⟨kvs,hk⟩
    ·obtain⟨_,_,_,_,o,_,_,e,ex,_⟩:=I.hok p _ hk;exact⟨o,e,ex⟩
    ·obtain⟨_,_,_,_,o,_,_,e,ex,_⟩:=I.hok p _ hk;exact⟨o,e,ex⟩
   obtain⟨o,e,ex⟩:=z;refine⟨⟨o,e,ex.1⟩,λa e2=>?_⟩;cases e2;exact⟨o,e,ex.2.1⟩
  ·obtain⟨o,_,_,_,e,ex,_⟩:=I.hok p _ hk;refine⟨⟨o,e,ex.1⟩,λa e2=>?_⟩;cases e2;exact⟨o,e,ex.2.1⟩
 |_=>exact False.elim ty
noncomputable def Mz(K:PySem.W.Frag)(T:String)(r:V->List V->Hp->VK->Prop)(to:TE):TE:=λσ H Q=>to σ H λx H1=>Jf K T x H1/\r x [] H1 Q
noncomputable def tBM(K:PySem.W.Frag)(T:String)(r:V->List V->Hp->VK->Prop)(to:TE)(t:TA):TE:=λσ H Q=>to σ H λx H1=>Jf K T x H1/\t σ H1 λxs H2=>r x xs H2 Q
variable {o e:Expr}{es:List Expr}{to:TE}{t:TA}{name:Str}{apos cpos:Pos}{T id:String}{r:V->List V->Hp->VK->Prop}
theorem zkW(pa:PlainAttrs T)(slot:Slot T name id)(hty:typeOf (.builtin id)=pure (.type "method_descriptor"))(hm:Em X id r)(ho:PE X o to)
  (hbase:attributeBase o name X.env (eval o X.env)=eval o X.env:=by rfl) (hline:(apos.endLine==cpos.line)=true:=by rfl):PE X (.Call (.Attribute o name apos) [] [] cpos) (Mz X.K T r to):=by
 intro ak s σ H Q I h;refine wpAny_Call_method0_late hbase hline (aV (ho ak s σ H _ I h) λv s1 ⟨x,H1,I1,r1,ty,q1⟩=>?_);obtain⟨h1,h2⟩:=S_ I1 r1 ty;exact⟨T,id,pa,slot,hty,h1,h2,Calls.callWith_builtin rfl (PySem.evalArgs_none (hm ak s1 σ H1 x [] v [] Q I1 r1 .nil q1))⟩
theorem Tc(pa:PlainAttrs T)(slot:Slot T name id)(hty:typeOf (.builtin id)=pure (.type "method_descriptor"))(hm:Em X id r)(ho:PE X o to)(ha:PA X (e::es) t)
  (hbase:attributeBase o name X.env (eval o X.env)=eval o X.env:=by rfl)
  (hfew:((backTo cpos (starEach (e::es) X.env)).all (λx=>!x.1)&&(backToKw cpos (keywordEach [] X.env)).all (λx=>x.1.isSome)
  &&decide ((e::es).length+([]:List Keyword).length+(if ([]:List Keyword).isEmpty then 0 else 1)<30))=true:=by rfl)
  (hline:(apos.endLine==cpos.line)=true:=by rfl) (hs:starEach (e::es) X.env=(false,eval e X.env)::starEach es X.env:=by rfl) (hplain:(backTo cpos (starEach es X.env)).any (·.1)=false:=by rfl) :
  PE X (.Call (.Attribute o name apos) (e::es) [] cpos) (tBM X.K T r to t):=by
 intro ak s σ H Q I h;refine wpAny_Call_method_late hbase hfew hline rfl (aV (ho ak s σ H _ I h) λv s1 ⟨x,H1,I1,r1,ty,q1⟩=>?_);obtain⟨h1,h2⟩:=S_ I1 r1 ty;refine⟨T,id,pa,slot,hty,h1,h2,?_⟩;have hA:=ha cpos ak s1 σ H1 _ I1 q1;rw[hs] at hA ⊢;refine Calls.callWith_builtin (by show (false||(backTo cpos (starEach es X.env)).any (·.1))=false;rw[hplain]<;>rfl) (K3 ?_);exact aV hA λus s2 hx=>dN hx λvs H2 I2 r2 q2=>hm ak s2 σ H2 x vs v us Q I2 r1 r2 q2
end
def Td(X:Cx)(id:String)(r:V->List V->Hp->VK->Prop):Prop:=
 ∀(ak:List (Addr×Obj)) (s:Shared) (σ:St) (H:Hp) (x:V) (xs:List V) (v:Value) (us:List Value) (Q:VK),Inv X ak σ H s->RelV x v->Vals xs us->r x xs H Q->
  wpAny (model X.prog X.w) X.A (call (.builtin id) (v::us)) (EP X ak σ Q) X.xe s
theorem Vals.one{x:V}{us:List Value}(h:Vals [x] us):∃u,us=[u]/\RelV x u:=by
 cases h with
 |cons r t=>cases t;exact⟨_,rfl,r⟩
theorem Vals.two{x y:V}{us:List Value}(h:Vals [x,y] us):∃u v,us=[u,v]/\RelV x u/\RelV y v:=by
 cases h with
 |cons r t=>
  obtain⟨v,rfl,q⟩:=Vals.one t;exact⟨_,_,rfl,r,q⟩
theorem Vals.zero:∀{us:List Value},Vals [] us->us=[]
 |_,.nil=>rfl
theorem Vals.dropLast{xs:List V}{us:List Value}(h:Vals xs us):Vals xs.dropLast us.dropLast:=by
 induction h with
 |nil=>exact .nil
 |cons r t ih=>
  cases t with
  |nil=>exact .nil
  |cons q t'=>exact .cons r ih
theorem zeX{α:Type}(l:List α):l.eraseIdx (l.length-1)=l.dropLast:=by
 induction l with
 |nil=>rfl
 |cons a r ih=>
  cases r with
  |nil=>rfl
  |cons b r=>
   have e:(a::b::r).length-1=((b::r).length-1)+1:=by
    have h1:(a::b::r).length=r.length+2:=rfl;have h2:(b::r).length=r.length+1:=rfl
    lia
   rw[e,List.eraseIdx_cons_succ,ih]
   all_goals rfl
section
variable {X:Cx}{ak:List (Addr×Obj)}{σ:St}{H:Hp}{s:Shared}{l b:Addr}{xs ys zs:List V}
theorem Inv.Ew{its its':List Value}{n:Nat}{f:Array Value->Array Value}{t':Nat}(I:Inv X ak σ H s)(hH:H l=some (.lst xs))
  (e:s.heap.get? l=some {cls:=.type "list",data:=.seq its.toArray n}) (hf:f its.toArray=its'.toArray) (hv:Vals ys its') (hz:ys.length<=sizeLine) :
  Inv X ak σ (upd H l (.lst ys)) {s with heap:=s.heap.update l (Obj.mapSeq f),toks:=t'}:=by
 have q:=PySem.IsL.update e f;rw[hf] at q;refine I.write (x:=l) (e:=l) (by rw[hH];exact trivial) (.inl rfl) (λb' u hb hu=>(uD s.heap (Obj.mapSeq f) (Ne.symm hb)).trans hu) ⟨_,q⟩ ?_;exact⟨hz,its',_,hv,q⟩
theorem Inv.MF{its:List Value}{t':Nat}(I:Inv X ak σ H s)(hv:Vals ys its)(hz:ys.length<=sizeLine) :
  Inv X ak σ (upd H s.heap.objs.size (.lst ys)) {s with heap:=s.heap.push {cls:=.type "list",data:=.seq its.toArray},toks:=t'}:=
 I.laid (λ_ _ q=>bZ _ q) (cg _) ⟨hz,its,0,hv,gW _ rfl⟩
theorem Inv.fresh(I:Inv X ak σ H s):H s.heap.objs.size=none:=I.hok.fresh (cg _)
theorem Inv.Ey(I:Inv X ak σ H s)(hH:H l=some (.lst xs)):xs.length<=sizeLine/\∃(its:List Value) (n:Nat),Vals xs its/\xs.length=its.length/\s.heap.get? l=some {cls:=.type "list",data:=.seq its.toArray n}:=by
 obtain⟨z,its,n,r,e⟩:=I.hok l _ hH;exact⟨z,its,n,r,r.length,e⟩
end
section
variable {X:Cx}
noncomputable def vR:V->List V->Hp->VK->Prop:=λx vs H Q=>∃l xs y,x=.ref l/\vs=[y]/\H l=some (.lst xs)/\xs.length<sizeLine/\Q .non (upd H l (.lst (xs++[y])))
theorem Te:Td X "list.append" vR:=by
 intro ak s σ H x vs v us Q I rx rv h;obtain⟨l,xs,y,rfl,rfl,hH,hz,q⟩:=h;cases rx;obtain⟨u,rfl,ru⟩:=rv.one;obtain⟨z,its,n,r,hl,e⟩:=I.Ey hH;refine call_meets F.slot_list_append ⟨_,e,rfl⟩ F.entry_list_append (F.args_list_append_2 _ _) (PySem.list_append l its.toArray n u (by rw[dD];lia)) ⟨e,?_⟩;refine⟨.non,_,I.Ew (its':=its++[u]) hH e (by simp) (r.append (.cons ru .nil)) ?_,rfl,q⟩;rw[cX,List.length_singleton]
 lia
noncomputable def MJ:V->List V->Hp->VK->Prop:=λx vs H Q=>∃l xs y,x=.ref l/\vs=[]/\H l=some (.lst xs)/\xs[xs.length-1]?=some y/\Q y (upd H l (.lst xs.dropLast))
theorem zmE:Td X "list.pop" MJ:=by
 intro ak s σ H x vs v us Q I rx rv h;obtain⟨l,xs,y,rfl,rfl,hH,hy,q⟩:=h;cases rx;have hus:=rv.zero;subst hus;obtain⟨z,its,n,r,hl,e⟩:=I.Ey hH;obtain⟨u,hu,ru⟩:=r.get hy;have hy':its.toArray[its.toArray.size-1]?=some u:=by
  show its.toArray[its.length-1]?=some u;rw[<-HD,<-hl];exact hu
 refine call_meets F.slot_list_pop ⟨_,e,rfl⟩ F.entry_list_pop (F.args_list_pop_1 _) (MeetsSeq.list_pop_last l its.toArray n u hy' (by rw[dD];lia)) ⟨e,?_⟩;refine⟨y,_,I.Ew (its':=its.dropLast) hH e ?_ r.dropLast ?_,ru,q⟩
 ·show its.toArray.eraseIdxIfInBounds (its.toArray.size-1)=its.dropLast.toArray;rw[dD,List.eraseIdxIfInBounds_toArray,zeX]
 ·rw[List.length_dropLast]
  lia
end
section
variable {prog:Program}{w:World}{A:Around}{E:Value->Shared->Prop}{s:Shared}
set_option maxRecDepth 100000 in
end
section
variable {X:Cx}
end
end L2
namespace Tf
open PySem PySem.W PySem.Calls PyProof.Rows
theorem zb5{P:Params}{h:Heap}:∀(ns:List Int) (vs:List Value),WellAll P h vs (ns.map WData.int)->IntsAre vs ns:=by
 intro ns
 induction ns with
 |nil=>
  intro vs w;rw[List.map_nil] at w;cases w;exact .nil
 |cons n ns ih=>
  intro vs w;rw[jA] at w;cases w with
  |cons a b=>
   cases a;exact .cons _ _ (ih _ b)
theorem zgr{l:OpenLaw}{n:Nat}(hn:l.most=some n){P:Params}{h:Heap}{args:List WData}{vals:List Value}
  (hpre:l.row.toRowW.claim.pre args=true) (hwl:WellAll P h vals args) :
  ∃a vs ns,vals=[Value.ref a]/\args=[WData.list (ns.map WData.int)]/\h.get? a=some {cls:=.type "list",data:=.seq vs.toArray}/\IntsAre vs ns/\ns.length<=n:=by
 have hsh:WShape.hasAll [] args [.list .int]=true:=(pre_splitW hpre).1;have hc:l.pre.holds [] {args:=args}=true:=(pre_splitW hpre).2;obtain⟨d,r,rfl,h1,h2⟩:=hasAllW_cons hsh;obtain rfl:=hasAllW_nil h2;obtain⟨xs,rfl,h3⟩:=hasW_list h1;obtain⟨ns,rfl⟩:=items_int h3;have hlen:ns.length<=n:=by
  unfold OpenLaw.pre at hc;have h4:(WTm.not (.lt (.lit (.int (n:Int))) (.len (.arg 0)))).holds [] {args:=[.list (ns.map .int)]}=true:=by
   have h4:=(holds_andW hc).1;rw[hn] at h4;exact h4
  have h5:=condW_of h4 (w_not (w_lt w_lit (w_len_list (w_arg rfl))));rw[bJ] at h5;refine Di λq=>?_;have q':(n:Int)<((ns.length:Nat):Int):=by lia
  first
   |(rw[cT q'] at h5;exact absurd h5 (by decide))
   |(simp at h5;lia)
 cases hwl with
 |cons w1 w2=>
  cases w2;cases w1 with
  |list ho hall=>exact⟨_,_,ns,rfl,rfl,ho,zb5 ns _ hall,hlen⟩
theorem zgG(l:OpenLaw)(args:List WData):l.row.toRowW.claim.post args (.bool true) args=true:=
 postW_of (r:=l.row.toRowW) (X:=(true==true))
  (show WShape.has [] (.bool true) .bool=true by first|rfl|decide|simp[WShape.has,WShape.arms,WShape.armsAll])
  (show (WTm.eq .res (.lit (.bool true))).value [] {args:=args,res:=some (.bool true),after:=args}=some (.bool (true==true)) from w_eq_bool (w_res rfl) w_lit) rfl
theorem mV{l:OpenLaw}{n:Nat}{q:Program}{loose:List Str}{XP:(Str->Option Value)->Heap->Prop}{YP:World->Heap->Prop}{d:DefRec}
  (hn:l.most=some n) (hdf:d.params.defaults=[])
  (call:∀(w:World) (s₀ s₁:Shared) (mg mb:Str->Option Value) (fa:Addr) (o:Obj) (pm cd doc:Value) (a:Addr) (vs:List Value) (ns:List Int),
   Ground q loose [] XP w s₀ mg mb s₁.heap->YP w s₁.heap->
   s₁.heap.get? fa=some o->o.data=.func (docDef d.name d.params d.body d.scope pm cd doc)->s₁.heap.CodeRec cd d.name->mg d.name=some (.ref fa)->
   s₁.heap.get? a=some {cls:=.type "list",data:=.seq vs.toArray}->IntsAre vs ns->ns.length<=n->s₁.gens=#[]->
   codeAny (model l.prog w) callerA (.call (.ref fa) ⟨[.ref a],[]⟩) (λr s'=>r=.ok (.ret (.bool true))/\OldK s₁.heap s'.heap/\s'.os=s₁.os/\AllBare s'.gens) s₁) :
  WalkO q loose XP YP l.row.toRowW d [] (λf vs=>PySem.call f vs):=by
 intro w s₀ s₁ mg mb G Y fa o pm cd doc dV kV ho hd hcd hD hmg hg args vals as hpre hlay hrd hwl hlo;obtain rfl:dV=.none:=Dflts.none hD hdf;obtain rfl:kV=.none:=Dflts.noKw hD;obtain⟨a,vs,ns,rfl,rfl,hobj,hints,hlen⟩:=zgr hn hpre hwl;refine enter_call (Dp (call w s₀ s₁ mg mb fa o pm cd doc a vs ns G Y ho (fd_plain hd) hcd hmg hobj hints hlen hg) λr s' hq=>?_);obtain⟨rfl,h2,h3,h4⟩:=hq;exact⟨.inl ⟨.bool true,.bool true,[],rfl,λ_=>rfl,.bool true,zgG l _,λ_=>⟨List.Pairwise.nil,λ_ hm=>(nomatch hm)⟩⟩,h2,h3,h4⟩
section
variable {prog:Program}{w:World}{A:Around}{E:Value->Shared->Prop}{s:Shared}{K:Frag}
end
end Tf
namespace L2
open PySem PySem.Spec PyProof.Rows
theorem Ti:∀{vs:List Value} {ns:List Int},IntsAre vs ns->Vals (ns.map V.int) vs
 |_,_,.nil=>.nil
 |_,_,.cons n t h=>.cons ⟨t,rfl⟩ (Ti h)
def Only(H:Hp):Prop:=∀b,H b=none\/∃o xs,H b=some (.rO o (.lst xs))
theorem zhP{P:Program}{w:World}{K:PySem.W.Frag}{mg mb:Str->Option Value}{CX:sE}{k:Nat}{fa a:Addr}{fd:FuncData}{x:Str}{sp:Sp}{s₁:Shared}{vs:List Value}{ns:List Int}
  (KX:K.In s₁.heap) (hns:s₁.heap.Ns mainGlobals mg) (hb:s₁.heap.Ns builtinsNs mb) (hbb:∀x:Str,x≠"__name__"->mb x=bootBuiltins x) (hlim:s₁.heap.NoLimit) (hg:s₁.gens=#[])
  (ha:s₁.heap.get? a=some {cls:=.type "list",data:=.seq vs.toArray}) (hi:IntsAre vs ns) (hl:ns.length<=sizeLine) (hr:b_ k callerA)
  (F:∀base:Heap,K.In base->base.Ns mainGlobals mg->fM P w K mg base CX true k fa fd [x] sp) (hbind:∀(s:Shared) (u:Value),BindsTo s fd ⟨[u],[]⟩ [(x,u)])
  (hsp:∀H:Hp,Only H->dj K H a (ns.map V.int)->sp [.ref a] H (λv _=>v=.bl true) λ_ _ _=>False)
  (hCX:∀H e s',CX [] H s₁ (λ_ _ _=>False) e s'->False) :
  codeAny (model P w) callerA (.call (.ref fa) ⟨[.ref a],[]⟩) (λr s'=>r=.ok (.ret (.bool true))/\OldK s₁.heap s'.heap/\s'.os=s₁.os/\AllBare s'.gens) s₁:=by
 have rv:=Ti hi;have lenV:=hi.length;have core:∀H:Hp,Only H->dj K H a (ns.map V.int)->gQ P w H s₁.heap->(∀b,H b≠none->b=a)->(H a≠none->K.lookup a=none)->
   codeAny (model P w) callerA (.call (.ref fa) ⟨[.ref a],[]⟩) (λr s'=>r=.ok (.ret (.bool true))/\OldK s₁.heap s'.heap/\s'.os=s₁.os/\AllBare s'.gens) s₁:=by
  intro H hO hS hok hA hK;have pK:∀{b:Addr} {o:Obj},s₁.heap.get? b=some o->H b=none->(lM s₁.heap H).get? b=some o:=λe n=>ZS e n;have Ej:∀{b:Addr} {o:Obj} {es:Array DictEntry} {ep:Nat},s₁.heap.get? b=some o->o.data=.dict es ep->H b=none:=λ{b o es ep} e d=>by
   cases q:H b with
   |none=>rfl
   |some u=>
    have e':b=a:=hA b (by rw[q];simp);subst e';rw[ha] at e;cases e;have d':Data.seq vs.toArray _=Data.dict es ep:=d;cases d'
  have Jg:∀{b:Addr} {m:Str->Option Value},s₁.heap.Ns b m->(lM s₁.heap H).Ns b m:=λ{b m} ⟨o,es,ep,e,d,r⟩=>⟨o,es,ep,pK e (Ej e d),d,r⟩;have Tj:K.In (lM s₁.heap H):=λb o e=>pK (KX b o e) (by
   cases q:H b with
   |none=>rfl
   |some u=>
    have e':b=a:=hA b (by rw[q];simp);subst e';rw[hK (by rw[q];simp)] at e;cases e)
  have hM:Mod K mg (lM s₁.heap H):=⟨Tj,Jg hns,⟨mb,Jg hb,hbb⟩,let ⟨mc,h1,h2⟩:=hlim;⟨mc,Jg h1,h2⟩⟩;have e0:vJ P w K mg (lM s₁.heap H) callerA [] s₁ H:=⟨rfl,hM,λb o e=>ZV e,Nat.le_of_eq (ZR _ _),trivial,λb hb=>absurd (show b∈([]:List Addr) from hb) (by simp),hok,.of_eq hg⟩;refine Dp ((F _ Tj (Jg hns)).run callerA [] s₁ H ⟨[.ref a],[]⟩ [.ref a] [.ref a] _ _ (λ_=>rfl) hr e0 (hbind s₁ (.ref a)) (.cons rfl .nil) (hsp H hO hS)) λr s' h=>?_;cases r with
  |error e=>exact(hCX H e s' h).elim
  |ok fl=>
   cases fl with
   |next=>exact False.elim h
   |brk=>exact False.elim h
   |cont=>exact False.elim h
   |ret u=>
    obtain⟨v,H',os,bare,un,hok',r',q⟩:=h;have q':v=.bl true:=q;subst q';obtain rfl:u=Value.bool true:=r';refine⟨rfl,OldK.of_keep λb o e=>?_,os,bare⟩;cases q:H b with
    |none=>exact un.keep b o e q (by intro z;exact absurd (show b∈([]:List Addr) from z) (by simp)) (by simp)
    |some u=>
     rcases hO b with z|⟨ob,xs,z⟩
     ·rw[q] at z;cases z
     ·have z2:=un.jt b ob _ z;obtain⟨e1,_⟩:=hok b _ z;obtain⟨e2,_⟩:=hok' b _ z2;rw[e] at e1;cases e1;exact e2
 cases hk:K.lookup a with
 |some o=>
  have e:=KX a o hk;rw[ha] at e;cases e;refine core (λ_=>none) (λ_=>.inl rfl) (.inr ⟨_,vs.toArray,_,hk,rfl,rfl,rfl,by rw[dD,lenV];exact hl,by simpa using rv⟩) (λb u z=>by have z':(none:Option HO)=some u:=z;cases z') (λb z=>absurd rfl z) λz=>absurd rfl z
 |none=>
  refine core (λb=>if b=a then some (.rO {cls:=.type "list",data:=.seq vs.toArray} (.lst (ns.map V.int))) else none) (λb=>?_) (.inl (.inr ⟨{cls:=.type "list",data:=.seq vs.toArray},if_pos rfl⟩)) (λb u z=>?_) (λb z=>?_) λ_=>hk
  ·by_cases hb:b=a
   ·exact .inr ⟨_,_,if_pos hb⟩
   ·exact .inl (if_neg hb)
  ·by_cases hb:b=a
   ·have z':=(if_pos hb).symm.trans z;cases z';subst hb;exact⟨ha,by rw[bJ];exact hl,vs,_,rv,ha⟩
   ·have z':=(if_neg hb).symm.trans z;cases z'
  ·by_cases hb:b=a
   ·exact hb
   ·exact absurd (if_neg hb) z
def MK(h0:Heap)(H:Hp)(h:Heap)(e:Addr)(hd:Value):Prop:=
 hd=.none\/∃T oT ts,hd=.ref T/\h0.get? T=none/\H T=none/\T≠e/\h.get? T=some oT/\oT.data=.fields ts/\ts[3]?=some .none
structure Exc(h0:Heap)(H:Hp)(h:Heap)(e C:Addr)(dx:Option Addr):Prop where
 new:h0.get? e=none
 un:H e=none
 ob:∃oe vs hd,h.get? e=some oe/\oe.cls=.ref C/\oe.dict=dx/\oe.data=.fields vs/\vs[1]?=some hd/\MK h0 H h e hd
structure Ez(h0:Heap)(H:Hp)(fr:List Addr)(h h':Heap)(ch:List Addr):Prop where
 rec_:∀b∈ch,h0.get? b=none/\H b=none/\∃o vs,h.get? b=some o/\o.data=.fields vs
 keep:∀b o,h.get? b=some o->b∉fr->b∉ch->h'.get? b=some o
 slot:∀b o,h.get? b=some o->b∈fr->∃sl,h'.get? b=some {o with slots:=sl}
 there:∀b o,h.get? b=some o->∃o',h'.get? b=some o'
noncomputable def sH(head:Value)(L:Addr)(pl:List Value):Obj:=
 {cls:=.type "traceback",dict:=none,data:=.fields ([head,.ref L,.none,rawInt L,.none]++(if pl.isEmpty then List.replicate 6 Value.none else pl)).toArray}
theorem Tn(o:Obj)(f:Array Value->Array Value):(o.mapFields f).dict=o.dict:=by
 obtain⟨c,d,dt,sl⟩:=o;cases dt<;>rfl
theorem Tq(o:Obj)(f:Array Value->Array Value):(o.mapFields f).cls=o.cls:=by
 obtain⟨c,d,dt,sl⟩:=o;cases dt<;>rfl
section
variable {M:Model}{A:Around}{E:Value->Shared->Prop}{s:Shared}{base h0:Heap}{env:Env}{outer:List Env}{L e C:Addr}{dx:Option Addr}{H:Hp}{Q:Unit->Shared->Prop}
theorem Tr(hfr:A.frames=some (env::outer))(hl:s.heap.FunFrames base (env::outer))(hf:env.frame=some L)
  (he:s.heap.get? e=some oe) (hd:oe.data=.fields vs) (hsz:1<vs.size)
  (k:∀h' T oT ts,s.heap.objs.size<=T->(∀b o,s.heap.get? b=some o->b∉frs (env::outer)->b≠e->h'.get? b=some o)->(∀b o,s.heap.get? b=some o->b∈frs (env::outer)->∃sl,h'.get? b=some {o with slots:=sl})->
   h'.get? e=some (oe.mapFields (·.setIfInBounds 1 (.ref T)))->h'.get? T=some oT->oT.data=.fields ts->3<ts.size->ts[3]?=some (rawInt L)->Q () {s with heap:=h'}) :
  wpAny M A (do let a <-frameOf env;let pl <-entryPlaceOf L hn;let b <-EntryCells.newEntry head a .none (rawInt L) .none pl;setField (.ref e) 1 b) Q E s:=by
 have EY:e∉frs (env::outer):=λhm=>by
  obtain⟨_,o,ho,hx⟩:=hl.mem hm;rw[he] at ho;cases ho;exact hx vs hd
 refine au (wpAny_frameOf_fun hfr hl hf λh₁ sl₁=>?_);refine au (wpAny_entryPlaceOf λpl hpl=>?_);unfold EntryCells.newEntry newFields;refine au (nO ?_ (hpl.sizeOk5 _ _ _ _ _));have e1:h₁.get? e=some oe:=(sl₁.2.1 e EY).trans he;have e2:(h₁.push (sH head L pl)).get? e=some oe:=bZ _ e1;refine wY e2 hd hsz ?_;have ne:h₁.objs.size≠e:=uG (bM e1);have d3:=vd hd (·.setIfInBounds 1 (Value.ref h₁.objs.size));have kp:∀b o,h₁.get? b=some o->b≠e->((h₁.push (sH head L pl)).update e (Obj.mapFields (·.setIfInBounds 1 (Value.ref h₁.objs.size)))).get? b=some o:=λb o q n=>by
  rw[uD _ _ n.symm];exact bZ _ q
 refine k _ h₁.objs.size (sH head L pl) _ (by rw[sl₁.1];exact cg _) (λb o q n1 n2=>kp b o ((sl₁.2.1 b n1).trans q) n2) (λb o q m=>?_) (rG _ e2 (HF d3)) ?_ rfl ?_ ?_
 ·obtain⟨sl,z⟩:=sl₁.2.2 b o q;exact⟨sl,kp b _ z λy=>EY (y▸m)⟩
 ·rw[uD _ _ ne.symm];exact gW _ rfl
 ·simp only[dD,cX,gY,ql]<;>lia
 ·first
   |(simp;done)
   |(rcases hpl with rfl|⟨_,_,_,_,_,_,_,rfl⟩<;>simp)
theorem zh8(hfr:A.frames=some (env::outer))(hl:s.heap.FunFrames base (env::outer))(hf:env.frame=some L)(x:Exc h0 H s.heap e C dx)
  (k:∀h' T oT oe ts vs ch,Ez h0 H (frs (env::outer)) s.heap h' ch->s.heap.objs.size<=T->h'.get? e=some oe->oe.cls=.ref C->oe.dict=dx->oe.data=.fields vs->vs[1]?=some (.ref T)->h'.get? T=some oT->oT.data=.fields ts->
   3<ts.size->ts[3]?=some (rawInt L)->Q () {s with heap:=h'}):wpAny M A (noteFrame (.ref e) env) Q E s:=by
 obtain⟨oe,vs,hd,he,hc,hdx,hda,h1,tb⟩:=x.ob;have hsz:1<vs.size:=(CK.mp h1).1;have EY:∀b o ws,s.heap.get? b=some o->o.data=.fields ws->b∉frs (env::outer):=λb o ws q d hm=>by
  obtain⟨_,o',ho,hx⟩:=hl.mem hm;rw[q] at ho;cases ho;exact hx ws d
 unfold noteFrame;simp only[hf];refine au (kI he hda h1 ?_);rcases tb with rfl|⟨T,oT,ts,rfl,nT,uT,neT,gT,dT,h3⟩
 ·rw[if_neg (by decide)];refine Tr hfr hl hf he hda hsz λh' T oT ts lt kp sl ge gT dT z3 z4=>?_;refine k h' T oT _ ts _ [e] ⟨λb hb=>?_,λb o q n1 n2=>kp b o q n1 λz=>n2 (by rw[z];exact .head _),sl,λb o q=>?_⟩ lt ge ((Tq _ _).trans hc) ((Tn _ _).trans hdx) (vd hda _) (by simp[hsz]) gT dT z3 z4
  ·obtain rfl:b=e:=by simpa using hb
   exact⟨x.new,x.un,oe,vs,he,hda⟩
  ·by_cases z:b=e
   ·subst z;exact⟨_,ge⟩
   ·by_cases m:b∈frs (env::outer)
    ·obtain⟨w,q'⟩:=sl b o q m;exact⟨_,q'⟩
    ·exact⟨o,kp b o q m z⟩
 ·rw[if_pos (show (Value.ref T != Value.none)=true from by simp)];refine au (kI gT dT h3 ?_);rw[if_neg (show ¬((Value.none==rawInt L)=true) from by simp[rawInt])];have z3:3<ts.size:=(CK.mp h3).1;refine au (wY gT dT z3 ?_);have oth:∀b,b≠T->(s.heap.update T (Obj.mapFields (·.setIfInBounds 3 Value.none))).get? b=s.heap.get? b:=λb n=>uD _ _ n.symm;have hl':(s.heap.update T (Obj.mapFields (·.setIfInBounds 3 Value.none))).FunFrames base (env::outer):=hl.of_keeps λb o q nd=>⟨o,(oth b λz=>by subst z;rw[gT] at q;cases q;exact nd ts dT).trans q,rfl⟩;have sT:(s.heap.update T (Obj.mapFields (·.setIfInBounds 3 Value.none))).get? T=some (oT.mapFields (·.setIfInBounds 3 Value.none)):=rG _ gT (HF (vd dT _));refine Tr hfr hl' hf ((oth e neT.symm).trans he) hda hsz λh' T' oT' ts' lt kp sl ge gT' dT' z3' z4'=>?_;have lt':s.heap.objs.size<=T':=by
   have:=lt;simp only[Heap.size_after_update] at this;exact this
  refine k h' T' oT' _ ts' _ [e,T] ⟨λb hb=>?_,λb o q n1 n2=>kp b o ((oth b λz=>n2 (by simp[z])).trans q) n1 λz=>n2 (by simp[z]),λb o q m=>?_,λb o q=>?_⟩ lt' ge ((Tq _ _).trans hc) ((Tn _ _).trans hdx) (vd hda _) (by simp[hsz]) gT' dT' z3' z4'
  ·have hb':b=e\/b=T:=by simpa using hb
   rcases hb' with rfl|rfl
   ·exact⟨x.new,x.un,oe,vs,he,hda⟩
   ·exact⟨nT,uT,oT,ts,gT,dT⟩
  ·exact sl b o ((oth b λz=>by subst z;exact EY b o ts q (by rw[gT] at q;cases q;exact dT) m).trans q) m
  ·by_cases z:b=e
   ·subst z;exact⟨_,ge⟩
   ·by_cases y:b=T
    ·subst y;exact⟨_,kp b _ sT (EY b oT ts gT dT) z⟩
    ·by_cases m:b∈frs (env::outer)
     ·obtain⟨w,q'⟩:=sl b o ((oth b y).trans q) m;exact⟨_,q'⟩
     ·exact⟨o,kp b o ((oth b y).trans q) m z⟩
theorem Tt(he:s.heap.get? e=some oe)(hd:oe.data=.fields vs)(h1:vs[1]?=some (.ref T))(gT:s.heap.get? T=some oT)(dT:oT.data=.fields ts)(z3:3<ts.size)
  (k:∀h',(∀b o,b≠T->s.heap.get? b=some o->h'.get? b=some o)->h'.get? T=some (oT.mapFields (·.setIfInBounds 3 Value.none))->Q () {s with heap:=h'}):wpAny M A (setFlight (.ref e) none) Q E s:=by
 unfold setFlight;refine au (kI he hd h1 ?_);rw[if_pos (show (Value.ref T != Value.none)=true from by simp)];exact wY gT dT z3 (k _ (λb o n q=>(uD _ _ n.symm).trans q) (rG _ gT (HF (vd dT _))))
theorem Tv(hfr:A.frames=some (env::outer))(hl:s.heap.FunFrames base (env::outer))(hf:env.frame=some L)(x:Exc h0 H s.heap e C dx)
  (hfree:∀b,s.heap.objs.size<=b->H b=none) (h0s:∀b o,h0.get? b=some o->∃o',s.heap.get? b=some o')
  (k:∀h' ch,Ez h0 H (frs (env::outer)) s.heap h' ch->Exc h0 H h' e C dx->Q () {s with heap:=h'}) :
  wpAny M A (noteFrame (.ref e) env) (λ_ s₁=>wpAny M A (setFlight (.ref e) none) Q E s₁) E s:=by
 have ele:∃o,s.heap.get? e=some o:=let ⟨oe,_,_,he,_⟩:=x.ob;⟨oe,he⟩;refine zh8 hfr hl hf x λh' T oT oe ts vs ch t lt ge hc hdx hda h1 gT dT z3 z4=>?_;have neT:T≠e:=λz=>by
  obtain⟨o,q⟩:=ele;exact absurd (gH (bM q) (z▸lt)) (mL _)
 refine Tt (s:={s with heap:=h'}) ge hda h1 gT dT z3 λh2 kp gT2=>?_;have nT:∀b o,s.heap.get? b=some o->b≠T:=λb o q z=>absurd (gH (bM q) (z▸lt)) (mL _);refine k h2 ch ⟨t.rec_,λb o q n1 n2=>kp b o (nT b o q) (t.keep b o q n1 n2),λb o q m=>?_,λb o q=>?_⟩ ⟨x.new,x.un,oe,vs,.ref T,kp e oe neT.symm ge,hc,hdx,hda,h1,.inr ⟨T,_,_,rfl,?_,hfree T lt,neT,gT2,vd dT _,by simp[z3]⟩⟩
 ·obtain⟨sl,q'⟩:=t.slot b o q m;exact⟨sl,kp b _ (nT b o q) q'⟩
 ·obtain⟨o',q'⟩:=t.there b o q;exact⟨o',kp b o' (nT b o q) q'⟩
 ·cases z:h0.get? T with
  |none=>rfl
  |some o=>
   obtain⟨o',q⟩:=h0s T o z;exact absurd rfl (nT T o' q)
end
noncomputable abbrev XS:=St->Value->Option Addr->Hp->Prop
def Sub(h0 h:Heap):Prop:=∀b o,h0.get? b=some o->∃o',h.get? b=some o'
theorem Sub.none{h0 h:Heap}(x:Sub h0 h){b:Addr}(e:h.get? b=none):h0.get? b=none:=by
 cases q:h0.get? b with
 |none=>rfl
 |some o=>
  obtain⟨o',z⟩:=x b o q;rw[e] at z;cases z
theorem Exc.older{h0 h1:Heap}{H:Hp}{h:Heap}{e C:Addr}{dx:Option Addr}(x:Exc h1 H h e C dx)(y:Sub h0 h1):Exc h0 H h e C dx:=by
 obtain⟨oe,vs,hd,a,b,c,d,f,tb⟩:=x.ob;refine⟨y.none x.new,x.un,oe,vs,hd,a,b,c,d,f,?_⟩;rcases tb with z|⟨T,oT,ts,z1,z2,z3⟩
 ·exact .inl z
 ·exact .inr ⟨T,oT,ts,z1,y.none z2,z3⟩
section
variable {X:Cx}{ak:List (Addr×Obj)}{σ:St}{H:Hp}{s:Shared}{h0 h':Heap}{ch fr:List Addr}
theorem gQ.E_{P:Program}{w:World}{h:Heap}(x:gQ P w H h)(t:Ez h0 H fr h h' ch)(hf:∀b∈fr,H b=none):gQ P w H h':=λa o e=>by
 have st:∀b u,(b=a\/H b=some (.own a))->h.get? b=some u->h'.get? b=some u:=λb u z q=>by
  have nb:H b≠none:=by
   rcases z with z|z
   ·rw[z,e];simp
   ·rw[z];simp
  exact t.keep b u q (λm=>nb (hf b m)) λm=>nb (t.rec_ b m).2.1
 exact(x a o e).stay st (λ_ z=>z) λ_ _ z=>z
theorem Inv.E_(I:Inv X ak σ H s)(t:Ez h0 H (frs X.stack) s.heap h' ch)(hs:∀b o,X.s₀.heap.get? b=some o->b∉X.ex->∃o',h0.get? b=some o')(hp:∀p∈X.pn++ak,∃o,h0.get? p.1=some o):Inv X ak σ H {s with heap:=h'}:=by
 refine I.call (g':=s.gens) (d':=s.drawn) (t':=s.toks) (ch:=ch) ⟨λb o q _ n1 n2=>t.keep b o q n1 n2,λb o q _ m _=>t.slot b o q m,λ_ _ _ n _=>n,λb o q _=>t.there b o q,λ_ _ q=>q,λ_ _ _ q=>q,λ_ ps q=>⟨#[],by rw[q];simp⟩⟩ (I.hok.E_ t I.jC) I.bare λb hb=>?_;obtain⟨n0,_,o,vs,q,d⟩:=t.rec_ b hb;refine⟨?_,λz=>?_,λx c e z=>?_,λp hq z=>?_⟩
 ·by_cases m:b∈X.ex
  ·exact .inl m
  ·refine .inr ?_;cases z:X.s₀.heap.get? b with
   |none=>rfl
   |some u=>
    obtain⟨o',z'⟩:=hs b u z m;rw[n0] at z';cases z'
 ·subst z;obtain⟨m,⟨ol,es,ep,e1,e2,_⟩,_⟩:=I.loc;rw[q] at e1;cases e1;rw[d] at e2;cases e2
 ·subst z;obtain⟨v,oc,e1,e2⟩:=I.cell x c e;rw[q] at e1;cases e1;rw[d] at e2;cases e2
 ·obtain⟨u,e1⟩:=hp p hq;rw[z,n0] at e1;cases e1
end
def Raises(X:Cx)(EX:XS):Prop:=
 ∀(ak:List (Addr×Obj)) (σ:St) (H:Hp) (s:Shared) (h0:Heap) (e C:Addr) (dx:Option Addr),Inv X ak σ H s->(∀b o,X.s₀.heap.get? b=some o->b∉X.ex->∃o',h0.get? b=some o')->
  (∀p∈X.pn++ak,∃o,h0.get? p.1=some o)->Sub h0 s.heap->Exc h0 H s.heap e C dx->EX σ (.ref C) dx H->X.xe (.ref e) s
noncomputable def lU(P:Program)(w:World):sE:=λouter H s E e s'=>
 ∃(a C:Addr) (dx:Option Addr) (H':Hp),e=.ref a/\s'.os=s.os/\AllBare s'.gens/\Un (frs outer) [] H H' s.heap s'.heap/\gQ P w H' s'.heap/\Exc s.heap H' s'.heap a C dx/\E (.ref C) dx H'
theorem zfs{P:Program}{w:World}{K:PySem.W.Frag}{mg:Str->Option Value}{base:Heap}{N:List Str}{qual:Str}{scope:Scope}{f:Addr}{cd:Value}{A:Around}{outer:List Env}{s:Shared}{H:Hp}{E:XK}{cm:Bool} :
  Raises (ju (lU P w) P w K mg base N qual scope f cd A outer s H E cm) (λ_ C dx H'=>E C dx H'):=by
 intro ak σ H1 s1 h0 e C dx I hs hp h01 x ex;have I0:Inv (ju (lU P w) P w K mg base N qual scope f cd A outer s H E cm) [] σ H1 s1:=I.lO λp z=>absurd z (by simp);show wpAny (model P w) (A.deeper (envOfC qual scope s.heap.objs.size f cd)) (leaving (envOfC qual scope s.heap.objs.size f cd) (.ref e)) _ _ s1;unfold leaving;have hsub:Sub s.heap h0:=λb o q=>hs b o q (by show b∉([]:List Addr);simp);refine au (Tv (base:=base) (outer:=outer) (L:=s.heap.objs.size) I0.ok.frames I0.stack rfl x (λb z=>I0.hok.fresh z) h01 λh' ch t x'=>?_);have fin:∀b o,s.heap.get? b=some o->b∉ch:=λb o q m=>by
  have z:=hsub.none (t.rec_ b m).1;rw[q] at z;cases z
 have nL:∀b o,s.heap.get? b=some o->b∉frs outer->b∉frs (envOfC qual scope s.heap.objs.size f cd::outer):=λb o q n m=>by
  have m':b∈s.heap.objs.size::frs outer:=m;rcases cM.mp m' with z|z
  ·exact absurd (bM q) (by rw[z];exact mL _)
  ·exact n z
 refine⟨e,C,dx,H1,rfl,I0.os,I0.bare,⟨λb o q n hb _=>?_,λb o q n hb _=>?_,λb o q n _=>I0.base.free b o q n (by show b∉([]:List Addr);simp),λb o q _=>?_,I0.base.tups,I0.base.jt,I0.base.jN⟩,I0.hok.E_ t I0.jC,x'.older hsub,ex⟩
 ·exact t.keep b o (I0.base.keep b o q n hb (by show b∉([]:List Addr);simp)) (nL b o q hb) (fin b o q)
 ·obtain⟨sl,q1⟩:=I0.base.slot b o q n hb (by show b∉([]:List Addr);simp);obtain⟨sl',q2⟩:=t.slot b _ q1 (show b∈s.heap.objs.size::frs outer from eN _ hb);exact⟨sl',q2⟩
 ·obtain⟨o',q1⟩:=I0.base.there b o q (by show b∉([]:List Addr);simp);exact t.there b o' q1
section
variable {X:Cx}{cm:Bool}{k:Nat}{f C:Addr}{fd:FuncData}{ps:List Str}{sp:Sp}{EX:XS}{x m:Str}{p pos apos:Pos}{e o:Expr}{es:List Expr}{ta:TE}{t:TA}
theorem Raises.pass(R:Raises X EX)(I:Inv X ak σ H s)(h:lU X.prog X.w X.stack H s (EX σ) v s'):X.xe v s':=by
 obtain⟨a,C,dx,H',rfl,os,bare,un,hok,x,q⟩:=h;have sub:Sub s.heap s'.heap:=λb o z=>un.there b o z (by simp);refine R ak σ H' s' s.heap a C dx (I.call' os un hok bare λb z=>absurd z (by simp)) (λb o z n=>I.base.there b o z n) (λp hp=>?_) sub x q;exact⟨p.2,(I.pin p hp).1⟩
noncomputable def zy(sp:Sp)(EX:XS)(t:TA):TE:=λσ H Q=>t σ H λvs H1=>sp vs H1 Q (EX σ)
theorem zjr(F:fM X.prog X.w X.K X.mg X.base (lU X.prog X.w) cm k f fd ps sp)(hcm:cm=true->X.aj=true)(hr:b_ k X.A)(hb:Binds X.K fd ps [])(R:Raises X EX)
  (I:Inv X ak σ H s) (r:Vals vs us) (h:sp vs H Q (EX σ)):wpAny (model X.prog X.w) X.A (call (.ref f) us) (EP X ak σ Q) X.xe s:=by
 have hl:us.length=ps.length:=by rw[<-r.length];exact F.len _ _ _ _ h
 have hb':=hb s us I.qy (by rw[Bl];exact hl);rw[Bl] at hb';refine yN (Dp (F.run X.A X.stack s H ⟨us,[]⟩ us vs Q (EX σ) (λz=>I.ok.hd (hcm z)) hr I.env0 hb' r h) λr s' hq=>?_);cases r with
 |error v=>exact R.pass I hq
 |ok fl=>
  cases fl with
  |ret u=>exact I.after hq
  |next=>exact False.elim hq
  |brk=>exact False.elim hq
  |cont=>exact False.elim hq
theorem zhH(F:fM X.prog X.w X.K X.mg X.base (lU X.prog X.w) cm k f fd ps sp)(hcm:cm=true->X.aj=true)(hr:b_ k X.A)(hg:Gl X x)(hm:X.mg x=some (.ref f))(hk:PySem.W.keepIn X.K (.ref f)=true)(hb:Binds X.K fd ps [])(R:Raises X EX)
  (ha:PA X (e::es) t) (hdb:(x==("__debug__" : Str))=false:=by decide) (he:starEach (e::es) X.env=(false,eval e X.env)::starEach es X.env:=by rfl) (hpl:(backTo pos (starEach es X.env)).any (·.1)=false:=by rfl) :
  PE X (.Call (.Name x p) (e::es) [] pos) (zy sp EX t):=by
 intro ak s σ H Q I h;refine C_ (DG I hg hm ?_ hdb);exact PySem.W.callWith_K (h₀:=X.base) I.ok.mod.xr hk (aV (ha pos ak s σ H _ I h) λus s1 ⟨vs,H1,I1,r,q⟩=>⟨I1.qy,zjr F hcm hr hb R I1 r q⟩) he hpl
theorem aQ.there{P:Program}{w:World}{H:Hp}{h:Heap}{a:Addr}{o:HO}(x:aQ P w H h a o):∃ob,h.get? a=some ob:=by
 cases o with
 |lst xs=>obtain⟨_,_,_,_,q⟩:=x;exact⟨_,q⟩
 |tup xs=>obtain⟨_,_,_,ob,q,_⟩:=x;exact⟨_,q⟩
 |dK kvs=>obtain⟨_,_,_,_,ob,_,_,q,_⟩:=x;exact⟨_,q⟩
 |dT kvs=>obtain⟨_,_,_,_,ob,_,_,q,_⟩:=x;exact⟨_,q⟩
 |set S n=>obtain⟨ob,_,_,_,q,_⟩:=x;exact⟨_,q⟩
 |ins C dx fs=>obtain⟨_,_,_,q,_⟩:=x;exact⟨_,q⟩
 |own y=>exact x
 |xd fs=>obtain⟨_,⟨_,_,_,q,_⟩,_⟩:=x;exact⟨_,q⟩
 |rng lo hi=>obtain⟨_,_,_,q⟩:=x;exact⟨_,q⟩
 |rO ob u=>obtain⟨q,_⟩:=x;exact⟨_,q⟩
 |xu ps=>exact⟨_,(show h.get? a=some _ from x)⟩
 |met f y=>exact⟨_,(show h.get? a=some _ from x)⟩
 |ext φ=>obtain⟨_,q,_⟩:=x;exact q
theorem zjX{K:PySem.W.Frag}{h:Heap}{C:Addr}{bmB:List Value}{newId:String}(XI:K.In h)(q:PySem.W.excIn K C bmB newId=true) :
  ∃bm N nm qn bs hdct sn sub ab col dd k0 k1 k2 k3 k5 mN,h.get? C=some (excClassObj nm qn C N bs bm hdct sn sub ab col dd k0 k1 k2 k3 k5 newId)/\h.Ns N mN/\mN "__init__"=none/\OwnTail h bmB bm:=by
 unfold PySem.W.excIn at q;split at q
 ·rename_i dd cd sl lk;split at q
  ·rename_i C' bm k0 k1 k2 k3 nw k5 em es;simp only[cI,jf,Ia] at q;obtain⟨⟨⟨⟨⟨rfl,rfl⟩,mW⟩,tl⟩,BK⟩,Fb⟩:=q;obtain⟨nm,bs,mro,ns,qn,hd,sn,sub,ab,col,del⟩:=cd;dsimp only at em mW BK Fb;subst em mW;have esl:sl=#[k0,k1,k2,k3,some (.builtin nw),k5]:=by
    obtain⟨ll⟩:=sl;simp only at es;rw[es]
   subst esl;exact⟨bm,ns,nm,qn,bs,hd,sn,sub,ab,col,dd,k0,k1,k2,k3,k5,_,XI _ _ lk,.of_isNs (PySem.W.isNs_of_in XI BK),PySem.W.nsMap_none_of_in XI BK Fb,PySem.W.tail_of_in XI tl⟩
  ·cases q
 ·cases q
noncomputable def zA(EX:XS)(C:Addr)(t:TA):TS:=λ_ σ H=>t σ H λvs H1=>vs.length<=sizeLine/\EX σ (.ref C) none H1
theorem zhq{B Bn newId nid initId inN:String}{bmB bmN:List Value}(Fn:ExcBaseFacts Bn newId inN bmN)(hBn:bmB.contains (.type Bn)=true)(FB:ExcBaseFacts B nid initId bmB)(hc:X.aj=true)(hX:PySem.W.excIn X.K C bmB newId=true)(hg:Gl X x)(hm:X.mg x=some (.ref C))
  (R:Raises X EX) (ha:PA X (e::es) t) (hdb:(x==("__debug__" : Str))=false:=by decide) (he:starEach (e::es) X.env=(false,eval e X.env)::starEach es X.env:=by rfl) (hpl:(backTo apos (starEach es X.env)).any (·.1)=false:=by rfl) :
  PS X (.Raise (some (.Call (.Name x p) (e::es) [] apos)) none pos) (zA EX C t):=by
 intro ak s σ H D I h;obtain⟨bm,N,nm,qn,bs,hdct,sn,sub,ab,col,dd,k0,k1,k2,k3,k5,mN,hC,hN,hni,T⟩:=zjX I.mod.xr hX;refine wpAny_Raise_call_subU (C:=C) (nm:=nm) (q:=qn) (N:=N) (bs:=bs) (bm:=bm) (hdct:=hdct) (sn:=sn) (sub:=sub) (ab:=ab) (col:=col) (dd:=dd) (k0:=k0) (k1:=k1) (k2:=k2) (k3:=k3) (k5:=k5)
  Fn hBn FB (mN:=mN) (T.hasType FB.hasBase) (I.ok.hd hc) (by rw[he];show (false||(backTo apos (starEach es X.env)).any (·.1))=false;rw[hpl];rfl) hni (DG I hg hm ⟨rfl,?_⟩ hdb)
 have h2:=ha apos ak s σ H _ I h;rw[he] at h2 ⊢;refine K3 (aV h2 λus s2 ⟨vs,H2,I2,r,z,q⟩=>⟨rfl,by rw[<-r.length];exact z,I2.bk _ _ hC,hN.keeps I2.bk,T.keeps I2.bk,λh' a mx=>?_⟩);obtain⟨tt,ge,_,_⟩:=mx.there;have un:H2 a=none:=by
  cases z:H2 a with
  |none=>rfl
  |some u=>
   have lt:=I2.hok.lt z;obtain⟨ob,z'⟩ : ∃ob,s2.heap.get? a=some ob:=by
    have:=I2.hok a u z;exact aQ.there this
   rw[mx.new] at z';cases z'
 exact R ak σ H2 _ s2.heap a C none (I2.kept (t':=s2.toks) mx.keeps) (λb ob z n=>I2.base.there b ob z n) (λq hq=>⟨q.2,(I2.pin q hq).1⟩) (λb ob z=>⟨ob,mx.keeps b ob z⟩) ⟨mx.new,un,_,_,_,ge,rfl,rfl,rfl,rfl,.inl rfl⟩ q
end
noncomputable def jR(a C:Addr)(dx:Option Addr):HO:=.ext λh=>∃oe vs,h.get? a=some oe/\oe.cls=.ref C/\oe.dict=dx/\oe.data=.fields vs
theorem zj9(x:Exc h0 H0 h a C dx):aQ P w H h a (jR a C dx):=by
 obtain⟨oe,vs,hd,q,c,d,f,_⟩:=x.ob;exact⟨⟨oe,vs,q,c,d,f⟩,⟨oe,q⟩,λh1 h2 ⟨o1,v1,q1,c1,d1,f1⟩ k=>⟨o1,v1,k o1 q1,c1,d1,f1⟩⟩
section
variable {X:Cx}{ak:List (Addr×Obj)}{σ:St}{H:Hp}{s:Shared}{e:Addr}{o:HO}
theorem Inv.track(I:Inv X ak σ H s)(hn:X.s₀.heap.get? e=none)(un:H e=none)(hp:∀p∈X.pn++ak,p.1≠e)(hL:e≠X.env.locals)(hc:∀x c,X.env.cells.lookup x=some c->c≠e)
  (new:aQ X.prog X.w (upd H e o) s.heap e o):Inv X ak σ (upd H e o) s:=by
 have ne:∀b u,H b=some u->b≠e:=λb u q z=>by rw[z,un] at q;cases q
 have n0:∀b u,X.s₀.heap.get? b=some u->b≠e:=λb u q z=>by rw[z,hn] at q;cases q
 refine⟨I.ok,I.os,I.bare,⟨I.base.keep,I.base.slot,λb u q n hx=>?_,I.base.there,λb xs q=>?_,λb u v q=>?_,λb ps q=>?_⟩,I.loc,I.cell,?_,λx c q=>?_,λp q=>?_,λb u q=>?_,I.len⟩
 ·rw[dH (n0 b u q)];exact I.base.free b u q n hx
 ·have z:=I.base.tups b xs q;rw[dH (ne b _ z)];exact z
 ·have z:=I.base.jt b u v q;rw[dH (ne b _ z)];exact z
 ·obtain⟨m,z⟩:=I.base.jN b ps q;exact⟨m,by rw[dH (ne b _ z)];exact z⟩
 ·rw[dH hL.symm];exact I.free
 ·rw[dH (hc x c q)];exact I.eO x c q
 ·obtain⟨a1,a2,a3⟩:=I.pin p q;exact⟨a1,by rw[dH (hp p q)];exact a2,a3⟩
 ·by_cases z:b=e
  ·subst z;rw[kY] at q;cases q;exact new
  ·rw[dH z] at q;exact(I.hok b u q).stay (λ_ _ _ r=>r) (λc r=>by rw[dH (ne c _ r)];exact r) λc xs r=>by rw[dH (ne c _ r)];exact r
noncomputable def Cx.seen(X:Cx)(A:Around)(aj:Bool)(pn:List (Addr×Obj))(E:Value->Shared->Prop):Cx:={X with A:=A,aj:=aj,pn:=pn,xe:=E}
theorem Inv.seen(I:Inv X ak σ H s)(hA:A.frames=X.A.frames)(hc:c=true->A.handled=none)(hp:∀p∈pn++ps,p∈X.pn++ak):Inv (X.seen A c pn E) ps σ H s:=
 ⟨⟨I.ok.mod,I.ok.kind,I.ok.glob,I.ok.blt,I.ok.above,I.ok.inj,I.ok.has,I.ok.cab,hc,hA.trans I.ok.frames,I.ok.stk,I.ok.R5,I.ok.bs,I.ok.xG,I.ok.rP,I.ok.vB,I.ok.jO,I.ok.Bv⟩,I.os,I.bare,I.base,I.loc,I.cell,I.free,I.eO,λp z=>I.pin p (hp p z),I.hok,I.len⟩
theorem Inv.fO(I:Inv (X.seen A c pn E) ps σ H s)(hA:X.A.frames=A.frames)(hc:X.aj=true->X.A.handled=none)(hp:∀p∈X.pn++ak,p∈pn++ps):Inv X ak σ H s:=
 ⟨⟨I.ok.mod,I.ok.kind,I.ok.glob,I.ok.blt,I.ok.above,I.ok.inj,I.ok.has,I.ok.cab,hc,hA.trans I.ok.frames,I.ok.stk,I.ok.R5,I.ok.bs,I.ok.xG,I.ok.rP,I.ok.vB,I.ok.jO,I.ok.Bv⟩,I.os,I.bare,I.base,I.loc,I.cell,I.free,I.eO,λp z=>I.pin p (hp p z),I.hok,I.len⟩
theorem SP.fO(h:SP (X.seen A c pn E) ps D f s)(hA:X.A.frames=A.frames)(hc:X.aj=true->X.A.handled=none)(hp:∀p∈X.pn++ak,p∈pn++ps):SP X ak D f s:=by
 cases f with
 |next=>obtain⟨a,b,J,q⟩:=h;exact⟨a,b,J.fO hA hc hp,q⟩
 |brk=>obtain⟨a,b,J,q⟩:=h;exact⟨a,b,J.fO hA hc hp,q⟩
 |cont=>obtain⟨a,b,J,q⟩:=h;exact⟨a,b,J.fO hA hc hp,q⟩
 |ret u=>obtain⟨v,a,b,J,r,q⟩:=h;exact⟨v,a,b,J.fO hA hc hp,r,q⟩
theorem Inv.gone(I:Inv X ak σ H s)(hN:X.N.Nodup)(hi:X.N[i]?=some n)(hl:X.env.kindOf n=some .local)(hm:s.heap.Ns X.env.locals m)
  (hn:h'.Ns X.env.locals (λx=>if x=n then v else m x)) (sb:Heap.SameBut X.env.locals s.heap h'):Inv X ak (σ.set i none) H {s with heap:=h',toks:=t'}:=by
 have kp:∀b u,b≠X.env.locals->s.heap.get? b=some u->h'.get? b=some u:=λb u z q=>(sb.2 b z).trans q;have n0:∀b u,X.s₀.heap.get? b=some u->b≠X.env.locals:=λb u q=>dh (gH (bM q) I.ok.above);have nH:∀b u,H b=some u->b≠X.env.locals:=λb u q z=>by rw[z,I.free] at q;cases q
 refine⟨I.ok,I.os,I.bare,⟨λb u q n hb hx=>kp b u (n0 b u q) (I.base.keep b u q n hb hx),λb u q n hb hx=>?_,I.base.free,λb u q hx=>?_,I.base.tups,I.base.jt,I.base.jN⟩,⟨_,hn,λj x w e1 e2 e3=>?_⟩,λx c q=>?_,I.free,I.eO,λp q=>?_,λb u q=>?_,by rw[nZ];exact I.len⟩
 ·obtain⟨sl,z⟩:=I.base.slot b u q n hb hx;exact⟨sl,kp b _ (n0 b u q) z⟩
 ·obtain⟨u',z⟩:=I.base.there b u q hx;exact⟨u',kp b u' (n0 b u q) z⟩
 ·have Tw:i≠j:=λz=>by
   subst z;by_cases hl:i<σ.length
   ·rw[wQ hl] at e2;cases e2
   ·rw[HJ (by rw[nZ];lia)] at e2;cases e2
  rw[qQ Tw] at e2;obtain⟨m2,hm2,hl2⟩:=I.loc;obtain⟨u,r,l⟩:=hl2 j x w e1 e2 e3;refine⟨u,r,?_⟩;rcases l with ⟨k1,k2⟩|⟨k1,c,k2,oc,k3,k4⟩
  ·refine .inl ⟨k1,?_⟩;have nx:x≠n:=λz=>Tw (Ln hN (by rw[z] at e1;exact hi) (z▸e1));have em:m=m2:=by
    obtain⟨o1,es1,ep1,g1,d1,t1,f1⟩:=hm;obtain⟨o2,es2,ep2,g2,d2,t2,f2⟩:=hm2;rw[g1] at g2;cases g2;rw[d1] at d2;cases d2
    funext y
    rw[<-f1,<-f2]
   show (if x=n then v else m x)=some u;rw[if_neg nx,em];exact k2
  ·exact .inr ⟨k1,c,k2,oc,kp c oc (I.vC x c k2) k3,k4⟩
 ·obtain⟨u,oc,k3,k4⟩:=I.cell x c q;exact⟨u,oc,kp c oc (I.vC x c q) k3,k4⟩
 ·obtain⟨a1,a2,a3,a4⟩:=I.pin p q;exact⟨kp _ _ a3 a1,a2,a3,a4⟩
 ·exact(I.hok b u q).stay (λc w z r=>kp c w (z.elim (λy=>y▸nH b u q) λy=>nH c _ y) r) (λ_ r=>r) λ_ _ r=>r
end
theorem zhR(x:Exc h0 H s.heap e C dx)(hf:∀b∈fr,∀o vs,s.heap.get? b=some o->o.data≠.fields vs)
  (k:∀h' ch,Ez h0 H fr s.heap h' ch->Exc h0 H h' e C dx->Q () {s with heap:=h'}):wpAny M A (setFlight (.ref e) none) Q E s:=by
 obtain⟨oe,vs,hd,he,hc,hdx,hda,h1,tb⟩:=x.ob;rcases tb with rfl|⟨T,oT,ts,rfl,nT,uT,neT,gT,dT,h3⟩
 ·unfold setFlight;refine au (kI he hda h1 ?_);rw[if_neg (by decide)];exact aJ (k s.heap [] {rec_:=(λ_ z=>nomatch z),keep:=(λb o q _ _=>q),slot:=(λb o q _=>⟨o.slots,q⟩),there:=(λb o q=>⟨o,q⟩)} x)
 ·refine Tt he hda h1 gT dT (CK.mp h3).1 λh' kp g'=>?_;have z3:3<ts.size:=(CK.mp h3).1;refine k h' [T] ⟨λb z=>?_,λb o q _ n=>kp b o (λz=>n (by simp[z])) q,λb o q m=>?_,λb o q=>?_⟩ ⟨x.new,x.un,oe,vs,.ref T,kp e oe neT.symm he,hc,hdx,hda,h1,.inr ⟨T,_,_,rfl,nT,uT,neT,g',vd dT _,by simp[z3]⟩⟩
  ·obtain rfl:b=T:=by simpa using z
   exact⟨nT,uT,oT,ts,gT,dT⟩
  ·refine⟨o.slots,kp b o (λz=>?_) q⟩;subst z;rw[gT] at q;cases q;exact hf b m _ ts gT dT
  ·by_cases z:b=T
   ·subst z;exact⟨_,g'⟩
   ·exact⟨o,kp b o z q⟩
theorem zcl{M:Model}{A:Around}{E:Value->Shared->Prop}{K:PySem.W.Frag}{h:Heap}{g:Array GenState}{d:Drawn}{t:Nat}{os:OsState}{e C D:Addr}{oe:Obj}{Q:Bool->Shared->Prop}(KI:K.In h)(q:subIn K C D=true)
  (he:h.get? e=some oe) (hcls:oe.cls=.ref C) (hq:Q true ⟨h,g,d,t,os⟩):wpAny M A (excMatches (.ref e) (.ref D)) Q E ⟨h,g,d,t,os⟩:=by
 unfold subIn at q;simp only[cI] at q;obtain⟨⟨q1,q2⟩,q3⟩:=q;obtain⟨nm,qn,N,bs,bm,hdct,sn,sub,ab,col,dd,k0,k1,k2,k3,k5,newId,hC,_,_⟩:=PySem.W.kts_cls KI q1;obtain⟨nm',qn',N',bs',bm',Tz,sn',sub',ab',col',MN,k0',k1',k2',k3',k5',newId',hD,hb',_⟩:=PySem.W.kts_cls KI q2;have m1:(Value.ref C::bm).contains (.ref D)=true:=by
  split at q3
  ·rename_i c0 d0 cd sl lk;have z:=KI _ _ lk;rw[hC] at z;cases z;exact q3
  ·cases q3
 have m2:(Value.ref D::bm').contains (.type "BaseException")=true:=by rw[K9,hb',Bool.or_true]
 have f:=tc_notTuple;unfold excMatches
 repeat (first|(with_reducible refine yK he ?_;rw[hcls])|with_reducible refine yK hD ?_|(with_reducible refine HN hD ?_;rw[m2])|(with_reducible refine HN hC ?_;rw[m1])|wp_step)
 exact hq
noncomputable def sJ(D:Ends)(i:Nat):Ends:={nx:=λσ H=>D.nx (σ.set i none) H,rt:=D.rt,bk:=λσ H=>D.bk (σ.set i none) H,ct:=λσ H=>D.ct (σ.set i none) H}
noncomputable def Fd(K:PySem.W.Frag)(Dc:Addr)(i:Nat)(th:TS)(D:Ends):XS:=λσ C dx H=>∃Ca,C=.ref Ca/\subIn K Ca Dc=true/\∀a,H a=none->th (sJ D i) (σ.set i (some (.ref a))) (upd H a (jR a Ca dx))
section
variable {X:Cx}{x n:Str}{np hpos pos:Pos}{b₀:Stmt}{body suite:List Stmt}{Dc:Addr}{i:Nat}{tb:XS->TS}{th:TS}
theorem zkT(hex:X.ex=[])(hst:X.stack=X.env::X.outer/\X.env.frame=some X.env.locals)(hg:Gl X x)(hm:X.mg x=some (.ref Dc))(hN:X.N.Nodup)(hi:X.N[i]?=some n)(hl:X.env.scope.names.lookup n=some .local)
  (hb:∀(pn:List (Addr×Obj)) (E':Value->Shared->Prop) (qX:XS),Raises (X.seen X.A X.aj pn E') qX->PassesOwn (model X.prog X.w) X.A X.env E'->nQ (X.seen X.A X.aj pn E') body (tb qX))
  (hh:∀e:Value,nQ (X.seen (X.A.mark (some e)) false X.pn (λ_ _=>False)) (b₀::suite) th) (hdb:(x==("__debug__" : Str))=false:=by decide) :
  PS X (.Try body [.ExceptHandler (some (.Name x np)) (some n) (b₀::suite) hpos] [] [] pos) (λD σ H=>tb (Fd X.K Dc i th D) D σ H):=by
 intro ak s σ H D I h;refine wpAny_Try_except ?_;have B:=hb (X.pn++ak) (λe s₁=>wpAny (model X.prog X.w) X.A (noteFrame e X.env) (λ_ s₂=>wpAny (model X.prog X.w) X.A (setFlight e none) (λ_ s₃=>wpAny (model X.prog X.w) X.A (handleBy e X.env [.ExceptHandler (some (.Name x np)) (some n) (b₀::suite) hpos]) (SP X ak D) X.xe s₃) X.xe s₂) X.xe s₁) (Fd X.K Dc i th D) ?R PassesOwn.looking [] s σ H D (I.seen rfl I.ok.hd (by intro p z;simpa using z)) h
 case R=>
  intro gZ σ' H' s' h0 e C dx J hs hp sub xc ⟨Ca,eC,sI,k⟩;cases eC;have I1:Inv X ak σ' H' s':=J.fO rfl I.ok.hd (λp z=>pB _ z);have hp1:∀p∈X.pn++ak,∃o,h0.get? p.1=some o:=λp z=>hp p (pB _ z);show wpAny (model X.prog X.w) X.A (noteFrame (.ref e) X.env) _ X.xe s';refine Tv (base:=X.base) (outer:=X.outer) (L:=X.env.locals) (I1.ok.frames.trans (qp some hst.1)) (hst.1▸I1.stack) hst.2 xc (λb z=>I1.hok.fresh z) sub λh1 ch1 t1 x1=>?_;have I2:=I1.E_ (hst.1▸t1) hs hp1;refine wpAny_handleBy_cons (codeAny_handlers_test ?_) (by intro z;cases z);have I2h:Inv (X.seen (X.A.mark (some (.ref e))) false X.pn (λ_ _=>False)) ak σ' H' {s' with heap:=h1}:=I2.seen rfl (λz=>by cases z) (λp z=>z);refine DG (E:=_) I2h hg hm ?_ hdb;obtain⟨oe,vs,hd,g1,c1,d1,f1,_⟩:=x1.ob;refine zcl I2.qy sI g1 c1 ?_;refine codeAny_handlers_suite_as ?_;have MP:∀b∈frs X.stack,∀o vs,h1.get? b=some o->o.data≠.fields vs:=λb hb o vs q d=>by
   obtain⟨_,o',q',nd⟩:=I2.stack.mem hb;have q'':h1.get? b=some o':=q';rw[q] at q'';cases q'';exact nd vs d
  refine zhR (s:={s' with heap:=h1}) (fr:=frs X.stack) x1 MP λh2 qz t2 x2=>?_;have I3:Inv X ak σ' H' {s' with heap:=h2}:=I2.E_ t2 hs hp1;obtain⟨oe2,vs2,hd2,g2,c2,d2,f2,_⟩:=x2.ob;have ns0:X.s₀.heap.get? e=none:=by
   cases z:X.s₀.heap.get? e with
   |none=>rfl
   |some u=>
    obtain⟨u',z'⟩:=hs e u z (by show e∉X.ex;rw[hex];simp);rw[x2.new] at z';cases z'
  have nL:e≠X.env.locals:=λz=>by
   obtain⟨m,⟨ol,es,ep,e1,e2,_⟩,_⟩:=I3.loc;have e1':h2.get? X.env.locals=some ol:=e1;rw[<-z,g2] at e1';cases e1';rw[f2] at e2;cases e2
  have nC:∀y c,X.env.cells.lookup y=some c->c≠e:=λy c q z=>by
   obtain⟨v,oc,e1,e2⟩:=I3.cell y c q;have e1':h2.get? c=some oc:=e1;rw[z,g2] at e1';cases e1';rw[f2] at e2;cases e2
  have I4:=I3.track (o:=jR e C dx) ns0 x2.un (λp z y=>by
   obtain⟨u,q⟩:=hp1 p z;rw[y,x2.new] at q;cases q) nL nC (zj9 x2)
  have I4h:Inv (X.seen (X.A.mark (some (.ref e))) false X.pn (λ_ _=>False)) ak σ' (upd H' e (jR e C dx)) {s' with heap:=h2}:=I4.seen rfl (λz=>by cases z) (λp z=>z);refine Dz (X:=X.seen (X.A.mark (some (.ref e))) false X.pn (λ_ _=>False)) (v:=.ref e) I4h hN hi (.inl hl) rfl (λs5 I5=>?_) (.inr hl);refine jr (hh (.ref e) ak s5 _ _ (sJ D i) I5 (k e x2.un)) (λf s6 q6=>?_) (λ_ _ z=>z.elim);have hkd:(X.env.scope.kind==.class||(X.env.scope.kind==.module&&X.env.locals != X.env.globals))=false:=by rw[I.ok.kind];rfl
  have fin:∀{σ6:St} {H6:Hp} {Q:Shared->Prop},Inv (X.seen (X.A.mark (some (.ref e))) false X.pn (λ_ _=>False)) ak σ6 H6 s6->(∀s7,Inv X ak (σ6.set i none) H6 s7->Q s7)->
    wpAny (model X.prog X.w) X.A (do bindName X.env n .none;unbindBehindTheSuite X.env n hpos) (λ_ s7=>Q s7) X.xe s6:=λ{σ6 H6 Q} J6 kq=>by
   have J:Inv X ak σ6 H6 s6:=J6.fO rfl I.ok.hd (λp z=>z);obtain⟨m,TF,_⟩:=id J.loc;exact wpAny_nameGoes_keeps hl TF hkd λh' v hn' sb=>kq _ (J.gone hN hi hl TF hn' sb)
  cases f with
  |next=>obtain⟨σ6,H6,J6,q⟩:=q6;exact fin J6 λs7 J7=>⟨_,_,J7,q⟩
  |brk=>obtain⟨σ6,H6,J6,q⟩:=q6;exact fin J6 λs7 J7=>⟨_,_,J7,q⟩
  |cont=>obtain⟨σ6,H6,J6,q⟩:=q6;exact fin J6 λs7 J7=>⟨_,_,J7,q⟩
  |ret u=>obtain⟨v,σ6,H6,J6,r,q⟩:=q6;exact fin J6 λs7 J7=>⟨v,_,_,J7,r,q⟩
 refine jr B (λf s1 q=>?_) λ_ _ z=>z;have q':SP X ak D f s1:=SP.fO q rfl I.ok.hd (by intro p z;simpa using z);cases f with
 |next=>exact Dj q'
 |brk=>exact q'
 |cont=>exact q'
 |ret u=>exact q'
end
end L2
namespace L2
open PySem PySem.Spec PyProof.Rows PySem.W Builtin.ObjectAttr
section
variable {prog:Program}{w:World}{A:Around}{E:Value->Shared->Prop}{s:Shared}{K:Frag}{x C:Addr}{ox:Obj}{od:Option Obj}{name:Str}{tk:Tok}
theorem zjt(XI:K.In s.heap)(I:InstAt s.heap x ox C od)(hf:findObj K C od name=some r)
  (h:match r with|.value v=>Q (.done (.ret v)) s|.bind g a=>wpAny (model prog w) A (call g [a,.ref x,.ref C]) (λv s'=>Q (.done (.ret v)) s') E s|.missing=>False) :
  wpAny (model prog w) A (Builtin.«object.__getattribute__» ⟨[.ref x,.str name tk],[]⟩) Q E s:=by
 obtain⟨hh,g,d,t,os⟩:=s;have L0:=I.type (M:=model prog w);have L1:=looks_find (M:=model prog w) XI I hf;unfold Builtin.«object.__getattribute__»;refine au (Br (a:=(Value.ref x,[Value.str name tk])) (by rfl) ?_);refine au (Br (a:=name) (by rfl) ?_);refine au (L0.at (au (L1.at ?_)));cases r with
 |value v=>exact aJ h
 |bind g a=>
  show wpAny _ _ (holding [a] (call g [a,.ref x,.ref C]) >>= ret) _ _ _;exact au (kE (jr h (λv s' z=>aJ z) λ_ _ z=>z))
 |missing=>exact h.elim
theorem zfR(XI:K.In s.heap)(I:InstAt s.heap x ox C od)(hb:mroIn K C (.type "BaseException")=some true)(hf:findObj K C od name=some r)
  (h:match r with|.value v=>R (.ok (.ret v)) s|.bind g a=>wpAny (model prog w) A.in1 (call g [a,.ref x,.ref C]) (λv s'=>R (.ok (.ret v)) s') (λe s'=>R (.error e) s') s|.missing=>False) :
  codeAny (model prog w) A (.call (.builtin "BaseException.__getattribute__") ⟨[.ref x,.str name tk],[]⟩) R s:=by
 have hk:builtinKind "BaseException.__getattribute__"=some .slot:=by decide +kernel
 have hsplit:splitId "BaseException.__getattribute__"=some ("BaseException","__getattribute__"):=by decide +kernel
 have ha:=F.args_bexc_ga (.ref x) (.str name tk);refine K4 F.attr_ValueError.ga.plain F.entry_bexc_ga ?_;have fin:wpAny (model prog w) A.in1 (Builtin.«object.__getattribute__» ⟨[.ref x,.str name tk],[]⟩) (λfin s'=>match fin with|.done f=>R (.ok f) s'|.again c'=>c'.quiet=true/\codeAny (model prog w) A c' R s') (λe s'=>R (.error e) s') s:=by
  refine zjt XI I hf ?_;cases r with
  |value v=>exact h
  |bind g a=>exact h
  |missing=>exact h.elim
 have chk:∀Q:Unit->Shared->Prop,Q () s->wpAny (model prog w) A.in1 (checkBuiltinCall "BaseException.__getattribute__" ⟨[.ref x,.str name tk],[]⟩) Q (λe s'=>R (.error e) s') s:=λQ hq=>by
  obtain⟨hh,g,d,t,os⟩:=s;have L0:=I.type (M:=model prog w);have L1:=looks_mroIn (M:=model prog w) XI hb;have LI:Looks (model prog w) hh (isInstance (.ref x) (.type "BaseException")) true:=L0.andThen L1;simp only[checkBuiltinCall,hk,hsplit];refine au ?_
  repeat (first|with_reducible exact hq|with_reducible refine LI.at ?_|wp_step)
 exact chk _ fin
theorem bexc_get?(XI:K.In s.heap)(I:InstAt s.heap x ox C od)(hb:mroIn K C (.type "BaseException")=some true)(hga:findIn K (.ref C) "__getattribute__"=some (some (.builtin "BaseException.__getattribute__")))
  (hgn:findIn K (.ref C) "__getattr__"=some none) (hf:findObj K C od name=some r)
  (h:match r with|.value v=>wpAny (model prog w) A (handedOut v) (λu s'=>Q (some u) s') (λ_ _=>False) {s with toks:=s.toks+1}|.bind g a=>wpAny (model prog w) A.in1 (call g [a,.ref x,.ref C]) (λv s'=>wpAny (model prog w) A (handedOut v) (λu s''=>Q (some u) s'') (λ_ _=>False) s') (λ_ _=>False) {s with toks:=s.toks+1}|.missing=>False) :
  wpAny (model prog w) A (getAttr? (.ref x) name) Q E s:=by
 obtain⟨hh,g,d,t,os⟩:=s;have L0:=I.type (M:=model prog w);have L1:=looks_findIn (M:=model prog w) XI hga;have L2:=looks_findIn (M:=model prog w) XI hgn;have hx2:(Value.builtin "BaseException.__getattribute__"==Value.builtin "object.__getattribute__")=false:=by decide +kernel
 unfold getAttr? getAttrBy? getAttrBy;refine au (wpAny_mkText (au (Dm (kE (au (L0.at (au (L1.at ?_))))))));show wpAny _ _ (if (onTheHeap (.ref C)&&(Value.builtin "BaseException.__getattribute__"==Value.builtin "object.__getattribute__"))=true then _ else getAttrByItsOwn _ _ _ _ _ _) _ _ _;rw[hx2,Ir,if_neg (by decide)];unfold getAttrByItsOwn hookBefore callGetattribute boundAndCalled;refine au (L2.at ?_);refine au (Dm (kE (au (Br (F.attr_ValueError.ga.bind (.ref x)) ?_))));refine yN (zfR XI I hb hf ?_);cases r with
 |value v=>exact jr h (λv s'' hv=>aJ hv) (λ_ _ z=>z.elim)
 |bind g a=>exact jr h (λv s' hv=>jr hv (λu s'' z=>aJ z) λ_ _ z=>z.elim) (λ_ _ z=>z.elim)
 |missing=>exact h.elim
end
structure XC(K:Frag)(C:Addr):Prop where
 ga:findIn K (.ref C) "__getattribute__"=some (some (.builtin "BaseException.__getattribute__"))
 gn:findIn K (.ref C) "__getattr__"=some none
 cl:findIn K (.ref C) "__class__"=some (some (.builtin "object.__class__"))
 mb:mroIn K C (.type "BaseException")=some true
 mo:mroIn K C (.type "object")=some true
 cd:(clsIn K C).isSome=true
 dg:specialIn K (.builtin "object.__class__") "__get__"=some (some (.builtin "getset_descriptor.__get__"))
 dt:takesIn K (.builtin "object.__class__")=some true
theorem zgc{K:Frag}{C:Addr}{od:Option Obj}{name:Str}{a g:Value}(hc:(clsIn K C).isSome=true)(ha:findIn K (.ref C) name=some (some a))(hg:specialIn K a "__get__"=some (some g))(ht:takesIn K a=some true):findObj K C od name=some (.bind g a):=by
 obtain⟨cd,z⟩:=KH.mp hc;simp only[findObj,z,ha,hg,ht,Option.bind_some]
theorem TJ{K:Frag}{e C:Addr}(c:XC K C):KitX K (.ref e) (.ref C) (λh=>∃ox od,InstAt h e ox C od) where
 ty:=λ_ _ _ ⟨_,_,I⟩=>I.type
 it:=λ_ _ XI _=>by
  have q:=c.cd;unfold clsIn at q;split at q
  ·rename_i c' d' cd' sl' lk;intro A' Q' E' s' k z;unfold isType loadHead;exact au (wpAny_loadPart (k _ _ (XI _ _ lk)) (aJ z))
  ·cases q
 ne:=λh tp dd its n sl XI htp=>by
  refine Bool.eq_false_iff.mpr λz=>?_;have ee:C=tp:=Value.ref.inj (jf.mp z);subst ee;have q:=c.cd;unfold clsIn at q;split at q
  ·rename_i c' d' cd' sl' lk;have y:=(XI _ _ lk).symm.trans htp;cases y
  ·cases q
 ca:=λ{prog w A E Q s} XI ⟨ox,od,I⟩ k=>by
  have hf:findObj K C od "__class__"=some (.bind (.builtin "getset_descriptor.__get__") (.builtin "object.__class__")):=zgc c.cd c.cl c.dg c.dt;refine bexc_get? XI I c.mb c.ga c.gn hf ?_;exact yN (class_get (s:={s with toks:=s.toks+1}) (ox:=ox) (od:=od) XI I c.mo (handed_on rfl k))
end L2
namespace L2
open PySem PySem.Spec PyProof.Rows
theorem zft:∀(names:List (Str×NameKind)) (cs:List (Str×Addr)),(∀x∈names,x.2=.free->∃c,env.cells.lookup x.1=some c)->(∀x c,cs.lookup x=some c->env.cells.lookup x=some c)->
  ∃cl,(forIn names cs λx r=>(do
    if x.2==.free then
     let a <-cellOf env x.1
     pure (ForInStep.yield ((x.1,a)::r))
    else pure (ForInStep.yield r)):Sem (List (Str×Addr)))=pure cl/\(∀x c,cl.lookup x=some c->env.cells.lookup x=some c)/\(∀x c,cs.lookup x=some c->cl.lookup x=some c)/\∀x∈names,x.2=.free->∃c,cl.lookup x.1=some c:=by
 intro names
 induction names with
 |nil=>intro cs _ h;exact⟨cs,rfl,h,λ_ _ q=>q,λx z=>nomatch z⟩
 |cons y r ih=>
  intro cs h1 h2;obtain⟨n,k⟩:=y;by_cases hk:k=.free
  ·subst hk;obtain⟨c,hc⟩:=h1 (n,.free) eZ rfl;have hc:env.cells.lookup n=some c:=hc;have h3:∀x d,((n,c)::cs).lookup x=some d->env.cells.lookup x=some d:=λx d q=>by
    rw[mJ] at q;by_cases z:x=n
    ·subst z;simp at q;subst q;exact hc
    ·have z':(x==n)=false:=by simpa using z
     rw[z'] at q;exact h2 x d q
   obtain⟨cl,e,a,b,d⟩:=ih ((n,c)::cs) (λx z=>h1 x (eN _ z)) h3;have hco:cellOf env n=pure c:=by
    unfold cellOf;rw[hc]
   refine⟨cl,?_,a,λx q z=>?_,λx z q=>?_⟩
   ·rw[Dk];simp only[wW,if_true,hco];exact e
   ·by_cases y:x=n
    ·subst y;have z1:=h2 x q z;rw[hc] at z1;cases z1;exact b x c (by simp)
    ·have y':(x==n)=false:=by simpa using y
     exact b x q (by rw[mJ,y'];exact z)
   ·rcases cM.mp z with z|z
    ·subst z;exact⟨c,b n c (by simp)⟩
    ·exact d x z q
  ·have hb:(k==NameKind.free)=false:=by simpa using hk
   obtain⟨cl,e,a,b,d⟩:=ih cs (λx z=>h1 x (eN _ z)) h2;refine⟨cl,?_,a,b,λx z q=>?_⟩
   ·rw[Dk];simp only[hb,jq,jg];exact e
   ·rcases cM.mp z with z|z
    ·subst z;exact absurd q hk
    ·exact d x z q
theorem zfh(h:∀x∈scope.names,x.2=.free->∃c,env.cells.lookup x.1=some c):∃cl,closureFor scope env=pure cl/\(∀x c,cl.lookup x=some c->env.cells.lookup x=some c)/\∀x∈scope.names,x.2=.free->∃c,cl.lookup x.1=some c:=by
 obtain⟨cl,e,a,_,d⟩:=zft scope.names [] h (λx c q=>by cases q);refine⟨cl,?_,a,d⟩;unfold closureFor;have e':=e;simp only[pure_bind,bind_pure] at e' ⊢;exact e'
theorem M4{env:Env}{k:NameKind}:∀{names:List (Str×NameKind)} {x:Str},(names.map λ(n,k)=>if (k==NameKind.free&&env.scope.kind==.function&&env.kindOf n==some .cell) then (n,NameKind.cell) else (n,k)).lookup x=some k->
  names.lookup x=some k\/(k=.cell/\names.lookup x=some .free)
 |[],x,h=>by simp at h
 |(n,q)::r,x,h=>by
  rw[jA,mJ] at h;rw[mJ];have hd:∀c:Bool,(if c=true then (n,NameKind.cell) else (n,q)).1=n:=λc=>by cases c<;>rfl
  rw[hd] at h;by_cases z:x=n
  ·subst z;simp only[wW] at h ⊢;split at h
   ·rename_i y;simp only[cI,jf] at y;cases h;exact .inr ⟨rfl,by rw[y.1.1]⟩
   ·cases h;exact .inl rfl
  ·have z':(x==n)=false:=by simpa using z
   simp only[z'] at h ⊢;exact M4 h
theorem Jh{env:Env}:∀{names:List (Str×NameKind)} {x:Str},names.lookup x=some .free->
  (names.map λ(n,k)=>if (k==NameKind.free&&env.scope.kind==.function&&env.kindOf n==some .cell) then (n,NameKind.cell) else (n,k)).lookup x=some .cell \/
  (names.map λ(n,k)=>if (k==NameKind.free&&env.scope.kind==.function&&env.kindOf n==some .cell) then (n,NameKind.cell) else (n,k)).lookup x=some .free
 |[],x,h=>by simp at h
 |(n,q)::r,x,h=>by
  rw[mJ] at h;rw[jA,mJ];have hd:∀c:Bool,(if c=true then (n,NameKind.cell) else (n,q)).1=n:=λc=>by cases c<;>rfl
  rw[hd];by_cases z:x=n
  ·subst z;simp only[wW] at h ⊢;cases h
   split
   ·exact .inl rfl
   ·exact .inr rfl
  ·have z':(x==n)=false:=by simpa using z
   simp only[z'] at h ⊢;exact Jh h
structure mX(n:Nat)(h1:Heap)(names:List (Str×NameKind))(cl jD:List (Str×Addr)):Prop where
 d1:∀x c,jD.lookup x=some c->(cl.lookup x=some c/\(x,NameKind.cell)∉names)\/((x,NameKind.cell)∈names/\n<c/\h1.IsCell c none)
 d2:∀x y c,n<c->jD.lookup x=some c->jD.lookup y=some c->x=y
 d3:∀x,names.lookup x=some .cell->∃c,jD.lookup x=some c
 d4:∀x c,(x,NameKind.cell)∉names->cl.lookup x=some c->jD.lookup x=some c
theorem cc:(NameKind.cell==NameKind.cell)=true:=by decide
theorem Fe:∀(names:List (Str×NameKind)) (h:Heap) (b:Addr) (o:Obj),h.get? b=some o->(pushCells h names).get? b=some o
 |[],h,b,o,e=>e
 |(x,k)::r,h,b,o,e=>by
  rw[pushCells]
  split
  ·exact Fe r _ b o (bZ _ e)
  ·exact Fe r h b o e
theorem M5:∀(names:List (Str×NameKind)) (h:Heap) (acc:List (Str×Addr)) (x:Str) (c:Addr),(cellsFrom h.objs.size names acc).lookup x=some c->
  (acc.lookup x=some c/\(x,NameKind.cell)∉names)\/((x,NameKind.cell)∈names/\h.objs.size<=c/\(pushCells h names).IsCell c none)
 |[],h,acc,x,c,e=>.inl ⟨e,by simp⟩
 |(y,k)::r,h,acc,x,c,e=>by
  rw[cellsFrom] at e;rw[pushCells];by_cases hk:k=.cell
  ·subst hk;rw[if_pos cc] at e ⊢;have sz:(h.push {cls:=Value.type "cell",data:=Data.cell none}).objs.size=h.objs.size+1:=by unfold Heap.push;simp
   rw[<-sz] at e;rcases M5 r _ _ x c e with ⟨a,b⟩|⟨a,b,d⟩
   ·rw[mJ] at a;by_cases z:x=y
    ·subst z;simp at a;subst a;exact .inr ⟨eZ,cg _,_,Fe r _ _ _ (gW _ rfl),rfl⟩
    ·have z':(x==y)=false:=by simpa using z
     rw[z'] at a;exact .inl ⟨a,by simp[z,b]⟩
   ·exact .inr ⟨eN _ a,by lia,d⟩
  ·have hb:(k==NameKind.cell)=false:=by simpa using hk
   rw[if_neg (by rw[hb];decide)] at e ⊢;rcases M5 r _ _ x c e with ⟨a,b⟩|⟨a,b,d⟩
   ·exact .inl ⟨a,by simp[b];intro _ q;exact hk q.symm⟩
   ·exact .inr ⟨eN _ a,b,d⟩
theorem M6:∀(names:List (Str×NameKind)) (n:Nat) (acc:List (Str×Addr)) (x y:Str) (c:Addr),(∀u v,acc.lookup u=some c->acc.lookup v=some c->u=v)->(∀u a,acc.lookup u=some a->a<n\/a≠c)->(cellsFrom n names acc).lookup x=some c->(cellsFrom n names acc).lookup y=some c->x=y
 |[],n,acc,x,y,c,h,_,e1,e2=>h x y e1 e2
 |(z,k)::r,n,acc,x,y,c,h,hl,e1,e2=>by
  rw[cellsFrom] at e1 e2;by_cases hk:k=.cell
  ·subst hk;rw[if_pos cc] at e1 e2;refine M6 r (n+1) _ x y c (λu v a b=>?_) (λu a q=>?_) e1 e2
   ·rw[mJ] at a b;by_cases u1:u=z
    ·by_cases v1:v=z
     ·rw[u1,v1]
     ·have v':(v==z)=false:=by simpa using v1
      subst u1;simp at a;rw[v'] at b;subst a;have b:acc.lookup v=some n:=b;rcases hl v n b with q|q
      ·exact absurd q (mL _)
      ·exact absurd rfl q
    ·have u':(u==z)=false:=by simpa using u1
     rw[u'] at a;have a:acc.lookup u=some c:=a;by_cases v1:v=z
     ·subst v1;simp at b;subst b;rcases hl u n a with q|q
      ·exact absurd q (mL _)
      ·exact absurd rfl q
     ·have v':(v==z)=false:=by simpa using v1
      rw[v'] at b;exact h u v a b
   ·rw[mJ] at q;by_cases u1:u=z
    ·subst u1;simp at q;subst q;exact .inl (Ij _)
    ·have u':(u==z)=false:=by simpa using u1
     rw[u'] at q;exact(hl u a q).imp (λq=>qj q) id
  ·have hb:(k==NameKind.cell)=false:=by simpa using hk
   rw[if_neg (by rw[hb];decide)] at e1 e2;exact M6 r n acc x y c h hl e1 e2
theorem M7:∀(names:List (Str×NameKind)) (n:Nat) (acc:List (Str×Addr)) (x:Str) (c:Addr),(x,NameKind.cell)∉names->acc.lookup x=some c->(cellsFrom n names acc).lookup x=some c
 |[],n,acc,x,c,_,e=>e
 |(z,k)::r,n,acc,x,c,h,e=>by
  rw[cellsFrom];have hr:(x,NameKind.cell)∉r:=λq=>h (eN _ q);by_cases hk:k=.cell
  ·subst hk;rw[if_pos cc];refine M7 r (n+1) _ x c hr ?_;have:x≠z:=λq=>h (by rw[q];exact eZ);have z':(x==z)=false:=by simpa using this
   rw[mJ,z'];exact e
  ·have hb:(k==NameKind.cell)=false:=by simpa using hk
   rw[if_neg (by rw[hb];decide)];exact M7 r n acc x c hr e
theorem M8:∀(names:List (Str×NameKind)) (acc:List (Str×Addr)) (s:Shared) (Q:List (Str×Addr)->Shared->Prop),
  Q (cellsFrom s.heap.objs.size names acc) {s with heap:=pushCells s.heap names}->
  wpAny M A (forIn names acc λx (cells:List (Str×Addr))=>match x with
   |(name,kind)=>if (kind==NameKind.cell)=true then do
     let a <-alloc {cls:=Value.type "cell",data:=Data.cell none}
     pure (ForInStep.yield ((name,a)::cells))
    else pure (ForInStep.yield cells)) Q E s
 |[],acc,s,Q,h=>by
  rw[Iu];exact aJ h
 |(z,k)::r,acc,s,Q,h=>by
  rw[Dk];rw[cellsFrom,pushCells] at h;by_cases hk:k=.cell
  ·subst hk;rw[if_pos cc,if_pos cc] at h;refine au ?_;dsimp only;rw[if_pos cc];refine au (wpAny_alloc (aJ ?_));refine M8 r _ _ Q ?_;have sz:(s.heap.push {cls:=Value.type "cell",data:=Data.cell none}).objs.size=s.heap.objs.size+1:=by unfold Heap.push;simp
   rw[sz];exact h
  ·have hb:(k==NameKind.cell)=false:=by simpa using hk
   rw[if_neg (by rw[hb];decide),if_neg (by rw[hb];decide)] at h;refine au ?_;dsimp only;rw[if_neg (by rw[hb];decide)];exact aJ (M8 r _ _ Q h)
theorem zfA(old:∀x c,cl.lookup x=some c->c<s.heap.objs.size)(inj:∀x y c,cl.lookup x=some c->cl.lookup y=some c->x=y)
  (h:∀h1 jD,h1.Ns s.heap.objs.size (λ_=>none)->(∀b o,s.heap.get? b=some o->h1.get? b=some o)->mX s.heap.objs.size h1 scope.names cl jD->Q {scope:=scope,locals:=s.heap.objs.size,globals:=globals,cells:=jD,qual:=qual,func:=none,code:=env.code,frame:=env.frame,builtins:=env.builtins} {s with heap:=h1}) :
  wpAny M A (newFunctionEnv scope globals cl [] qual none .none (some env)) Q E s:=by
 unfold newFunctionEnv;refine au (wpAny_alloc ?_);refine au ?_;refine M8 scope.names cl _ _ ?_;dsimp only;rw[Iu];refine au (aJ (aJ ?_));have sz:(s.heap.push {cls:=Value.type (if (some env).isSome=true then "dict" else "frame"),data:=Data.dict #[]}).objs.size=s.heap.objs.size+1:=by unfold Heap.push;simp
 refine h _ _ ?_ (λb o e=>Fe _ _ _ _ (bZ _ e)) ⟨λx c e=>?_,λx y c hc e1 e2=>?_,λx e=>?_,λx c hx e=>M7 _ _ _ x c hx e⟩
 ·refine⟨_,#[],_,Fe _ _ _ _ (gW _ rfl),rfl,?_,λ_=>rfl⟩;intro e he;simp at he
 ·rcases M5 _ _ _ x c e with ⟨a,b⟩|⟨a,b,d⟩
  ·exact .inl ⟨a,b⟩
  ·rw[sz] at b;exact .inr ⟨a,by lia,d⟩
 ·exact M6 _ _ _ x y c (λu v a b=>inj u v c a b) (λu a q=>.inl (by rw[sz];exact qj (old u a q))) e1 e2
 ·have:=KQ scope.names (s.heap.push {cls:=Value.type (if (some env).isSome=true then "dict" else "frame"),data:=Data.dict #[]}).objs.size cl (.inl e);exact KH.mp this
noncomputable def Cx.blk(X:Cx)(scope:Scope)(cl:List (Str×Addr))(N:List Str)(C:Addr)(s3:Shared)(H3:Hp)(fp:List Addr)(ak:List (Addr×Obj)):Cx where
 prog:=X.prog
 w:=X.w
 K:=X.K
 mg:=X.mg
 base:=X.base
 A:=X.A
 N:=N
 s₀:=s3
 H₀:=H3
 env:=compEnvC scope cl C X.env
 outer:=X.stack
 stack:=X.stack
 ex:=fp
 fn:=λx=>scope.names.lookup x==some .cell
 aj:=X.aj
 pn:=X.pn++ak
 xe:=λ_ _=>False
structure dI(sc scope:Scope):Prop where
 kind:scope.kind=.function
 TQ:∀y∈scope.names,y.2=.cell->scope.names.lookup y.1=some .cell
 free:∀y∈scope.names,y.2=.free->sc.names.lookup y.1=some .cell\/sc.names.lookup y.1=some .free
 loc:∀y∈scope.names,y.2=.local->scope.names.lookup y.1=some .local
section
variable {X:Cx}{ak:List (Addr×Obj)}{σ:St}{H:Hp}{s:Shared}{scope:Scope}{cl:List (Str×Addr)}{N:List Str}{fp:List Addr}{σY:St}
theorem zjc{h1:Heap}{t:Nat}{jD:List (Str×Addr)}(I:Inv X ak σ H s)(B:dI X.env.scope scope)(c1:∀x c,cl.lookup x=some c->X.env.cells.lookup x=some c)(c2:∀x∈scope.names,x.2=.free->∃c,cl.lookup x.1=some c)
  (f:∀b∈fp,iM X ak H b) (fo:∀b∈fp,∃o,s.heap.get? b=some o) (hn:h1.Ns s.heap.objs.size (λ_=>none)) (kp:∀b o,s.heap.get? b=some o->h1.get? b=some o) (CN:mX s.heap.objs.size h1 scope.names cl jD)
  (hl:σY.length=N.length) (hσ:∀(i:Nat) (x:Str) (v:V),N[i]?=some x->σY[i]?=some (some v)->scope.names.lookup x=some .free/\∃j:Nat,X.N[j]?=some x/\σ[j]?=some (some v)) :
  Inv (X.blk scope jD N s.heap.objs.size s H fp ak) [] σY H {s with heap:=h1,toks:=t}:=by
 have lt:∀b o,s.heap.get? b=some o->b≠s.heap.objs.size:=λb o q=>dh (bM q);have TX:∀b,b≠X.env.locals->b∉X.fs->b∉frs X.stack:=λb a c z=>(cM.mp (I.lN b z)).elim a c;have mem_of:∀x k,scope.names.lookup x=some k->(x,k)∈scope.names:=λx k q=>Bb q;have old:∀x c,cl.lookup x=some c->c<s.heap.objs.size:=λx c q=>by
  obtain⟨v,o,q1,q2⟩:=I.cell x c (c1 x c q);exact bM q1
 have TY:∀x,scope.names.lookup x=some .free->(x,NameKind.cell)∉scope.names:=λx q z=>by
  have:=B.TQ _ z rfl;have this:scope.names.lookup x=some .cell:=this;rw[q] at this;cases this
 refine⟨⟨I.ok.mod,B.kind,I.ok.glob,I.ok.blt,cg _,λx y c a b=>?_,λx hx=>?_,λx c z q=>?_,I.ok.hd,I.ok.frames,.inl rfl,λb hb=>?_,I.bs,n8 I.ok.xG I.sz,λb o q hb=>?_,λb hb=>TX b (f b hb).2.1 (f b hb).2.2.1,I.stack,I.jC⟩,
  rfl,I.bare,Un.kept kp,⟨_,hn,λi x v e1 e2 e3=>?_⟩,λx c q=>?_,I.hok.fresh (cg _),λx c q=>?_,λp hp=>?_,I.hok.kept kp,hl⟩
 ·by_cases hc:s.heap.objs.size<c
  ·exact CN.d2 x y c hc a b
  ·rcases CN.d1 x c a with ⟨a1,_⟩|⟨_,a1,_⟩
   ·rcases CN.d1 y c b with ⟨b1,_⟩|⟨_,b1,_⟩
    ·exact I.ok.inj x y c (c1 x c a1) (c1 y c b1)
    ·exact absurd b1 hc
   ·exact absurd a1 hc
 ·have hx:(relabel scope X.env).names.lookup x=some .cell\/(relabel scope X.env).names.lookup x=some .free:=hx;have fr:scope.names.lookup x=some .cell\/scope.names.lookup x=some .free:=by
   rcases hx with hx|hx
   ·rcases M4 hx with z|⟨_,z⟩
    ·exact .inl z
    ·exact .inr z
   ·rcases M4 hx with z|⟨z,_⟩
    ·exact .inr z
    ·cases z
  rcases fr with fr|fr
  ·exact CN.d3 x fr
  ·obtain⟨c,hc⟩:=c2 (x,.free) (mem_of x _ fr) rfl;exact⟨c,CN.d4 x c (TY x fr) hc⟩
 ·rcases CN.d1 x c q with ⟨_,q1⟩|⟨_,q1,_⟩
  ·have z:(scope.names.lookup x==some NameKind.cell)=true:=z;exact absurd (mem_of x _ (by simpa using z)) q1
  ·exact wZ q1
 ·obtain⟨o,q⟩:=fo b hb;refine⟨lt b o q,λx c z=>?_⟩;rcases CN.d1 x c z with ⟨q1,_⟩|⟨_,q1,_⟩
  ·exact(f b hb).2.2.2.2.1 x c (c1 x c q1)
  ·exact λe=>absurd (bM q) (by rw[<-e];exact Dq.mpr (wZ q1))
 ·obtain⟨_,_,_,z,_⟩:=f b hb;rcases z with z|z
  ·exact I.ok.rP b o q z
  ·exact absurd (gH (bM q) (n8 I.ok.xG z)) (mL _)
 ·obtain⟨fr,j,hj,hv⟩:=hσ i x v e1 e2;have hk:=B.free (x,.free) (mem_of x _ fr) rfl;obtain⟨m,hm,hlk⟩:=I.loc;obtain⟨u,r,l⟩:=hlk j x v hj hv (hk.elim (λz=>.inr (.inl z)) λz=>.inr (.inr z));obtain⟨c',hc'⟩:=c2 (x,.free) (mem_of x _ fr) rfl;have hc':cl.lookup x=some c':=hc';refine⟨u,r,.inr ⟨Jh fr,c',CN.d4 x c' (TY x fr) hc',?_⟩⟩;rcases l with ⟨k1,_⟩|⟨_,c,k2,oc,k3,k4⟩
  ·have k1:X.env.scope.names.lookup x=some .local:=k1;rcases hk with hk|hk
   ·have hk:X.env.scope.names.lookup x=some .cell:=hk;rw[k1] at hk;cases hk
   ·have hk:X.env.scope.names.lookup x=some .free:=hk;rw[k1] at hk;cases hk
  ·have e:=c1 x c' hc';rw[k2] at e;cases e;exact⟨oc,kp _ oc k3,k4⟩
 ·rcases CN.d1 x c q with ⟨q1,_⟩|⟨_,_,q1⟩
  ·obtain⟨v,o,q1,q2⟩:=I.cell x c (c1 x c q1);exact⟨v,o,kp c o q1,q2⟩
  ·exact⟨none,q1⟩
 ·rcases CN.d1 x c q with ⟨q1,_⟩|⟨_,q1,_⟩
  ·exact I.eO x c (c1 x c q1)
  ·exact I.hok.fresh (wZ q1)
 ·have hp:p∈X.pn++ak:=by
   have z:p∈(X.pn++ak)++[]:=hp;simpa using z
  obtain⟨a1,a2,a3,a4,a5⟩:=I.pin p hp;exact⟨kp _ _ a1,a2,lt _ _ a1,TX _ a3 a4,a5⟩
theorem zd9(I:Inv X ak σ H s)(f:∀b∈fp,iM X ak H b)(J:Inv (X.blk scope cl N s.heap.objs.size s H fp ak) [] σ' H' s'):Inv X ak σ H' s':=
 I.call' (ch:=fp) J.os J.base J.hok J.bare λb hb=>by
  obtain⟨_,a2,_,a4,a5,a6⟩:=f b hb;exact⟨a4.imp id λz=>A_ z,a2,a5,a6⟩
theorem T3{σ':St}{H':Hp}{s':Shared}{h2:Heap}{C:Addr}(J:Inv X ak σ H' s')(hC:X.s₀.heap.objs.size<=C)(n1:H' C=none)(n2:C≠X.env.locals)(n3:∀x c,X.env.cells.lookup x=some c->c≠C)(n4:∀p∈X.pn++ak,p.1≠C)
  (sb:Heap.SameBut C s'.heap h2):Inv X ak σ H' {s' with heap:=h2}:=
 J.turned (t':=s'.toks) (λb o z q=>(sb.2 b z).trans q) n1 n2 (.inr hC) n3 n4
end
noncomputable abbrev pN(ifs:List Expr)(env:Env):Sem Bool:=forIn ifs true λc r=>if r=true then do let ok <-isTrue c env (eval c env);pure (ForInStep.yield ok) else pure (ForInStep.yield r)
theorem zgZ{prog:Program}{w:World}{A:Around}{R:Result->Shared->Prop}{s:Shared}{elt target iter:Expr}{ifs:List Expr}{scope:Scope}{pos:Pos}{it acc:Value}{env:Env}(V:Nat->Shared->Prop)
  (turn:∀n s,V n s->wpAny (model prog w) A (pyNext it) (λr s₁=>match r with
   |none=>R (.ok .next) s₁
   |some v=>wpAny (model prog w) A (letOwnedTupleGo target it v) (λ_ s₂=>wpAny (model prog w) A (assign target env v) (λ_ s₃=>
     wpAny (model prog w) A (pN ifs env) (λok s₄=>
      if ok=true then wpAny (model prog w) A (eval elt env) (λx s₅=>wpAny (model prog w) A (call (.builtin "list.append") [acc,x]) (λ_ s₆=>∃m,m<n/\V m s₆) (λ_ _=>False) s₅) (λ_ _=>False) s₄
      else ∃m,m<n/\V m s₄) (λ_ _=>False) s₃) (λ_ _=>False) s₂) (λ_ _=>False) s₁) (λ_ _=>False) s)
  (n:Nat) (h:V n s):codeAny (model prog w) A (.compLoop (.ListComp elt [⟨target,iter,ifs,0⟩] scope pos) 0 it acc env) R s:=by
 refine codeAny_loop rfl V (λn s hV=>?_) n h;show wpAny _ A ((compTurn (.ListComp elt [⟨target,iter,ifs,0⟩] scope pos) 0 it acc env).onRaise (λx=>do noteFrame x env;theTreesLotGoes x)) _ _ s;refine wpAny_noted ?_;rw[compTurn_list];refine au (rM (au (jr (turn n s hV) (λr s₁ h₁=>?_) λ_ _ z=>z.elim)));cases r with
 |none=>exact aJ h₁
 |some v=>
  refine au (jr h₁ (λ_ s₂ h₂=>?_) λ_ _ z=>z.elim);refine au (jr h₂ (λ_ s₃ h₃=>au (jr h₃ (λok s₄ h₄=>?_) λ_ _ z=>z.elim)) λ_ _ z=>z.elim);cases ok with
  |true=>
   simp only[if_true] at h₄ ⊢;exact au (au (jr h₄ (λx s₅ h₅=>au (jr h₅ (λ_ s₆ h₆=>aJ (aJ ⟨rfl,h₆⟩)) λ_ _ z=>z.elim)) λ_ _ z=>z.elim))
  |false=>
   simp only[jq,jg] at h₄ ⊢;exact aJ ⟨rfl,h₄⟩
def Ji(X:Cx)(ifs:List Expr)(t:TT):Prop:=
 ∀(ak:List (Addr×Obj)) (s:Shared) (σ:St) (H:Hp) (Q:Bool->Hp->Prop),Inv X ak σ H s->t σ H Q->wpAny (model X.prog X.w) X.A (pN ifs X.env) (TP X ak σ Q) X.xe s
noncomputable def M9:TT:=λ_ H Q=>Q true H
theorem zjZ:Ji X [] M9:=λ_ _ _ H _ I h=>wpAny_tests_nil ⟨H,I,h⟩
theorem zkg(h:PT X c t):Ji X [c] t:=λak s σ H Q I hq=>wpAny_tests_one (h ak s σ H Q I hq)
def Fg(σY:St->St)(g:TG)(tt:TT)(te:TE)(J:It)(σ:St)(H:Hp)(Q:VK):Prop:=∀D,H D=none->∃W:Nat->Nat->St->Hp->Prop,(∃m,W 0 m (σY σ) (upd H D (.lst [])))/\∀i m σ' H',W i m σ' H'->
 (J.stop i H'/\Q (.ref D) H')\/(J.go i H'/\∃N:St->Hp->Prop,(∀σ2 H2,N σ2 H2->∃m',m'<m/\W (i+1) m' σ2 H2)/\∀x H2,J.yX i H' x H2->g x σ' H2 λσ3 H3=>tt σ3 H3 λok H4=>
  if ok=true then te σ3 H4 λy H5=>∃ys,H5 D=some (.lst ys)/\ys.length<sizeLine/\N σ3 (upd H5 D (.lst (ys++[y]))) else N σ3 H4)
section
variable {X:Cx}{elt tg iter:Expr}{ifs:List Expr}{scope:Scope}{pos:Pos}{N:List Str}{σY:St->St}{wi:TI}{g:TG}{tt:TT}{te:TE}
structure Parts(X:Cx)(elt tg:Expr)(ifs:List Expr)(scope:Scope)(N:List Str)(g:TG)(tt:TT)(te:TE):Prop where
 tgt:∀cl C s3 H3 fp ak,PG (X.blk scope cl N C s3 H3 fp ak) tg g
 tst:∀cl C s3 H3 fp ak,Ji (X.blk scope cl N C s3 H3 fp ak) ifs tt
 el:∀cl C s3 H3 fp ak,PE (X.blk scope cl N C s3 H3 fp ak) elt te
theorem T4(hc:X.aj=true)(B:dI X.env.scope scope)(P:Parts X elt tg ifs scope N g tt te)(hl:∀σ,(σY σ).length=N.length)
  (hσ:∀(σ:St) (i:Nat) (x:Str) (v:V),N[i]?=some x->(σY σ)[i]?=some (some v)->scope.names.lookup x=some .free/\∃j:Nat,X.N[j]?=some x/\σ[j]?=some (some v))
  {ak:List (Addr×Obj)} {s:Shared} {σ:St} {H:Hp} {Q:VK} {it:Addr} {fp:List Addr} {tn:Nat->Heap->Prop} {J:It} (I:Inv X ak σ H s) (T:Turn X.prog X.w X.K tg J fp it tn) (st:tn 0 s.heap) (f:∀b∈fp,iM X ak H b) (h:Fg σY g tt te J σ H Q)
  {cl:List (Str×Addr)} (c1:∀x c,cl.lookup x=some c->X.env.cells.lookup x=some c) (c2:∀x∈scope.names,x.2=.free->∃c,cl.lookup x.1=some c) {R:Value->Addr->Result->Shared->Prop} {E:Value->Shared->Prop}
  (k:∀D C s' H',Inv X ak σ H' s'->X.s₀.heap.objs.size<=C->H' C=none->C≠X.env.locals->(∀x c,X.env.cells.lookup x=some c->c≠C)->(∀p∈X.pn++ak,p.1≠C)->(∃m,s'.heap.Ns C m)->Q (.ref D) H'->R (.ref D) C (.ok .next) s') :
  wpAny (model X.prog X.w) X.A (newList []) (λacc s₃=>wpAny (model X.prog X.w) X.A (newFunctionEnv scope X.env.globals cl [] X.env.qual none .none (some X.env)) (λcenv s₄=>
   codeAny (model X.prog X.w) X.A (.compStart (.ListComp elt [⟨tg,iter,ifs,0⟩] scope pos) 0 (.ref it) acc {cenv with scope:=relabel scope X.env}) (R acc cenv.locals) s₄) E s₃) E s:=by
 refine nO ?_;have hD:H s.heap.objs.size=none:=I.hok.fresh (cg _);have I3:Inv X ak σ (upd H s.heap.objs.size (.lst [])) {s with heap:=s.heap.push {cls:=.type "list",dict:=none,data:=.seq ([]:List Value).toArray}}:=
  I.laid (t':=s.toks) (λb u q=>bZ _ q) (cg _) ⟨n_ _,[],0,.nil,gW _ rfl⟩
 have f3:∀b∈fp,iM X ak (upd H s.heap.objs.size (.lst [])) b:=λb hb=>by
  obtain⟨a1,a2⟩:=f b hb;obtain⟨o,q,_⟩:=T.obj 0 _ st b hb;exact⟨by rw[dH (dh (bM q))];exact a1,a2⟩
 have st3:tn 0 (s.heap.push {cls:=.type "list",dict:=none,data:=.seq ([]:List Value).toArray}):=T.keep _ _ _ st λb hb o q=>bZ _ q;obtain⟨W,⟨m0,w0⟩,turn⟩:=h s.heap.objs.size hD;generalize hs3:({s with heap:=s.heap.push {cls:=.type "list",dict:=none,data:=.seq ([]:List Value).toArray}}:Shared)=s3 at *;have zB:tn 0 s3.heap:=by rw[<-hs3];exact st3
 generalize hH3:upd H s.heap.objs.size (.lst [])=H3 at *;refine zfA (λx c q=>by obtain⟨v,o,q1,_⟩:=I3.cell x c (c1 x c q);exact bM q1) (λx y c a b=>I3.ok.inj x y c (c1 x c a) (c1 y c b)) λh1 jD hn kp CN=>?_;have J0:Inv (X.blk scope jD N s3.heap.objs.size s3 H3 fp ak) [] (σY σ) H3 {s3 with heap:=h1}:=
  zjc (t:=s3.toks) I3 B c1 c2 f3 (λb hb=>let ⟨o,q,_⟩:=T.obj 0 _ zB b hb;⟨o,q⟩) hn kp CN (hl σ) (hσ σ)
 have T5:tn 0 h1:=T.keep _ _ _ zB λb hb o q=>kp b o q;have fY:∀{H':Hp},(∀b∈fp,H' b=none)->∀b∈fp,iM (X.blk scope jD N s3.heap.objs.size s3 H3 fp ak) [] H' b:=λ{H'} z b hb=>by
  obtain⟨a1,a2,a3,a4,a5,a6⟩:=f3 b hb;obtain⟨o,q,_⟩:=T.obj 0 _ zB b hb;refine⟨z b hb,dh (bM q),λy=>(cM.mp (I3.lN b y)).elim a2 a3,.inl hb,λx c y=>?_,λp hp=>a6 p ?_⟩
  ·rcases CN.d1 x c y with ⟨q1,_⟩|⟨_,q1,_⟩
   ·exact a5 x c (c1 x c q1)
   ·exact λe=>absurd (bM q) (by rw[<-e];exact Dq.mpr (wZ q1))
  have y:p∈(X.pn++ak)++[]:=hp;simpa using y
 have loop:codeAny (model X.prog X.w) X.A (.compLoop (.ListComp elt [⟨tg,iter,ifs,0⟩] scope pos) 0 (.ref it) (.ref s.heap.objs.size) (compEnvC scope jD s3.heap.objs.size X.env)) (R (.ref s.heap.objs.size) s3.heap.objs.size) {s3 with heap:=h1}:=by
  refine zgZ (λn s'=>∃i σ' H',Inv (X.blk scope jD N s3.heap.objs.size s3 H3 fp ak) [] σ' H' s'/\tn i s'.heap/\(∀b∈fp,H' b=none)/\W i n σ' H') ?_ m0 ⟨0,σY σ,H3,J0,T5,λb hb=>(f3 b hb).1,w0⟩;rintro n s5 ⟨i,σ5,H5,J5,Bw,Jb,w5⟩;rcases turn i n σ5 H5 w5 with ⟨stop,q⟩|⟨go,Nx,hN,step⟩
  ·refine aV (T.done (X.blk scope jD N s3.heap.objs.size s3 H3 fp ak) rfl rfl rfl hc i [] s5 σ5 H5 _ J5 (fY Jb) Bw stop) λr s6 ⟨hr,J6⟩=>?_;subst hr;have JX:=zd9 I3 f3 J6;refine k s.heap.objs.size s3.heap.objs.size s6 H5 JX I3.sz J6.free (uG I3.lt) (λx c y z=>?_) (λp hp z=>?_) ?_ q
   ·obtain⟨v,qc⟩:=I3.cell x c y;exact absurd qc.lt (by rw[z];exact mL _)
   ·exact absurd (bM (I3.pin p hp).1) (by rw[z];exact mL _)
   ·obtain⟨m,hm,_⟩:=J6.loc;exact⟨m,hm⟩
  ·refine aV (T.item (X.blk scope jD N s3.heap.objs.size s3 H3 fp ak) rfl rfl rfl hc i [] s5 σ5 H5 _ J5 (fY Jb) Bw go) λr s6 hx=>vq hx λu hr h6=>?_;subst hr;refine aV h6 λ_ s7 ⟨x,H7,J7,r7,y7,M_,fr7⟩=>?_;have J7':=J7.pinned (fY fr7) (T.obj _ _ M_);refine aV (P.tgt jD s3.heap.objs.size s3 H3 fp ak _ s7 σ5 H7 x u _ J7' r7 (step x H7 y7)) λ_ s8 ⟨σ8,H8,J8,q8⟩=>?_;refine aV (P.tst jD s3.heap.objs.size s3 H3 fp ak _ s8 σ8 H8 _ J8 q8) λok s9 hx=>vq hx λH9 J9 q9=>?_;have again:∀{H':Hp} {s':Shared},Inv (X.blk scope jD N s3.heap.objs.size s3 H3 fp ak) ([]++jP fp s7.heap) σ8 H' s'->Nx σ8 H'->∃m,m<n/\∃i σ' H',Inv (X.blk scope jD N s3.heap.objs.size s3 H3 fp ak) [] σ' H' s'/\tn i s'.heap/\(∀b∈fp,H' b=none)/\W i m σ' H':=λ{H' s'} J' n'=>by
    obtain⟨m',hm,w'⟩:=hN σ8 H' n';refine⟨m',hm,i+1,σ8,H',J'.g_,T.keep _ _ _ M_ λb hb o e=>(J'.pin (b,o) (nW _ (nW _ (Ja hb e)))).1,λb hb=>?_,w'⟩;obtain⟨o,e,d⟩:=T.obj _ _ M_ b hb;exact(J'.pin (b,o) (nW _ (nW _ (Ja hb e)))).2.1
   cases ok with
   |false=>
    rw[if_neg (by decide)] at q9 ⊢;exact again J9 q9
   |true=>
    rw[if_pos rfl] at q9 ⊢;refine aV (P.el jD s3.heap.objs.size s3 H3 fp ak _ s9 σ8 H9 _ J9 q9) λv s10 ⟨y,H10,J10,r10,ys,Nb,hz,q10⟩=>?_;refine aV (Te (X:=(X.blk scope jD N s3.heap.objs.size s3 H3 fp ak)) _ s10 σ8 H10 (.ref s.heap.objs.size) [y] (.ref s.heap.objs.size) [v] (λ_ H'=>Nx σ8 H') J10 rfl (.cons r10 .nil) ⟨s.heap.objs.size,ys,y,rfl,rfl,Nb,hz,q10⟩) λ_ s11 hx=>dN hx λ_ H11 J11 _ q11=>again J11 q11
 exact codeAny_compStart_list loop (T.self _ 0 _ _ _ T5 loop)
end
noncomputable def sO(wi:TI)(σY:St->St)(g:TG)(tt:TT)(te:TE):TE:=λσ H Q=>wi σ H λJ H1=>Fg σY g tt te J σ H1 Q
section
variable {X:Cx}{elt tg iter:Expr}{ifs:List Expr}{scope:Scope}{pos spos py:Pos}{N:List Str}{σY:St->St}{wi:TI}{g:TG}{tt:TT}{te:TE}{i:Nat}{y:Str}
theorem T6(I:Inv X ak σ H s)(B:dI X.env.scope scope):∃cl,closureFor scope X.env=pure cl/\(∀x c,cl.lookup x=some c->X.env.cells.lookup x=some c)/\∀x∈scope.names,x.2=.free->∃c,cl.lookup x.1=some c:=
 zfh λx hx hf=>I.ok.has x.1 (B.free x hx hf)
theorem zi0(hc:X.aj=true)(B:dI X.env.scope scope)(hi:PI X tg iter wi)(P:Parts X elt tg ifs scope N g tt te)(hl:∀σ,(σY σ).length=N.length)
  (hσ:∀(σ:St) (i:Nat) (x:Str) (v:V),N[i]?=some x->(σY σ)[i]?=some (some v)->scope.names.lookup x=some .free/\∃j:Nat,X.N[j]?=some x/\σ[j]?=some (some v))
  (hs:∀x,foldedSetIterable iter X.env x=pure x:=by intro _;rfl):PE X (.ListComp elt [⟨tg,iter,ifs,0⟩] scope pos) (sO wi σY g tt te):=by
 intro ak s σ H Q I h;obtain⟨cl,hcl,c1,c2⟩:=T6 I B;rw[eval_ListComp];refine wpAny_comprehension_free (use:=none) rfl hs hcl B.kind B.loc (aV (hi ak s σ H _ I h) λxv s1 h1=>aV h1 λitv s2 h2=>?_);obtain⟨it,fp,tn,J,H2,e,I2,T,st2,f2,hq⟩:=h2;subst e;exact T4 hc B P hl hσ I2 T st2 f2 hq c1 c2 (R:=λacc C=>compPost (model X.prog X.w) X.A X.xe none (EP X ak σ Q) acc C) λD C s' H' J' a b c d e ⟨m,hm⟩ q=>⟨m,hm,λh' sb=>⟨.ref D,H',T3 (σ':=σ) J' a b c d e sb,rfl,q⟩⟩
theorem zfe(hc:X.aj=true)(hN:X.N.Nodup)(hi':X.N[i]?=some y)(hx:Loc X.env.scope y)(hf:X.fn y=true\/X.env.scope.names.lookup y=some .local)(B:dI X.env.scope scope)(hi:PI X tg iter wi)(P:Parts X elt tg ifs scope N g tt te)(hl:∀σ,(σY σ).length=N.length)
  (hσ:∀(σ:St) (i:Nat) (x:Str) (v:V),N[i]?=some x->(σY σ)[i]?=some (some v)->scope.names.lookup x=some .free/\∃j:Nat,X.N[j]?=some x/\σ[j]?=some (some v))
  (hsw:swapsWith (.ListComp elt [⟨tg,iter,ifs,0⟩] scope pos) (some (.Name y py)) spos.line X.env=pure true) (hs:∀x,foldedSetIterable iter X.env x=pure x:=by intro _;rfl) :
  PS X (.Assign [.Name y py] (.ListComp elt [⟨tg,iter,ifs,0⟩] scope pos) spos) (yV (sO wi σY g tt te) (dU i)):=by
 intro ak s σ H D I h;obtain⟨cl,hcl,c1,c2⟩:=T6 I B;rw[exec_Assign_Name_used _ _ _ _ hsw];refine au (rM (au ?_));show wpAny _ X.A (do let _ <-comprehension (.ListComp elt [⟨tg,iter,ifs,0⟩] scope pos) scope X.env _ (newList []) false (eval iter X.env) (some (assign (.Name y py) X.env))) _ _ s;refine au (wpAny_comprehension_free (use:=some (assign (.Name y py) X.env)) rfl hs hcl B.kind B.loc (aV (hi ak s σ H _ I h) λxv s1 h1=>aV h1 λitv s2 h2=>?_));obtain⟨it,fp,tn,J,H2,e,I2,T,st2,f2,hq⟩:=h2;subst e;refine T4 hc B P hl hσ I2 T st2 f2 hq c1 c2 (R:=λacc C=>compPost (model X.prog X.w) X.A X.xe (some (assign (.Name y py) X.env)) _ acc C) λD' C s' H' J' a b c d e ⟨m,hm⟩ q=>?_;show wpAny _ _ (assign (.Name y py) X.env (.ref D')) _ _ s';refine wpAny_assign_Name (R7 (v:=.ref D') J' hN hi' hx rfl (λs5 J5 ⟨ad,sb,had⟩=>?_) hf);have nC:C≠ad:=by
  rcases had with z|z
  ·rw[z];exact c
  ·exact(d y ad z).symm
 obtain⟨ol,es,ep,e1,r1⟩:=hm;refine⟨m,⟨ol,es,ep,(sb.2 C nC).trans e1,r1⟩,λh' sb'=>aJ (aJ ⟨_,H',T3 (σ':=σ) J5 a b c d e sb',q⟩)⟩
end
section
variable {X:Cx}{elt tg iter tg₂ iter₂:Expr}{ifs₂:List Expr}{scope:Scope}{pos spos py:Pos}{N:List Str}{σY:St->St}{wi wi₂:TI}{g g₁:TG}{tt:TT}{te:TE}{i:Nat}{y:Str}
end
end L2
namespace L2
open PySem PySem.Spec PyProof.Rows PySem.W
noncomputable def bD{α:Type}(lt:Nat->Nat->Option Bool):KasT α->Option α
 |.ret a=>some a
 |.ask i j k=>match lt i j with
  |some b=>bD lt (k b)
  |none=>none
theorem T7{α:Type}{lt:Nat->Nat->Option Bool}{cmp:Nat->Nat->(Bool->Shared->Prop)->Shared->Prop}{Q:α->Shared->Prop}{s:Shared}(hc:∀i j b C,lt i j=some b->C b s->cmp i j C s){a:α}(q:Q a s):∀{t:KasT α},bD lt t=some a->t.kasWp cmp Q s
 |.ret a',h=>by
  unfold bD at h;cases h;exact q
 |.ask i j k,h=>by
  unfold bD at h;cases e:lt i j with
  |none=>rw[e] at h;cases h
  |some b=>
   rw[e] at h;exact hc i j b _ e (T7 hc q h)
noncomputable def gq(vs:List Value)(p:Array Nat):Array Value:=if vs.length<2 then vs.toArray else List.toArray (p.toList.map λi=>vs.getD i Value.none)
section
variable {prog:Program}{w:World}{A:Around}{E:Value->Shared->Prop}{s:Shared}{κ:SortKind}{lt:Nat->Nat->Option Bool}{p:Array Nat}
theorem T8{a:Addr}{vs:List Value}{n:Nat}{P:PySem.Fin->Shared->Prop}(ho:s.heap.get? a=some (seqObj "list" vs.toArray n))(h64:vs.length<64)
  (hk:2<=vs.length->∀(s':Shared) (Q:SortKind->Shared->Prop),(∀b o,b≠a->s.heap.get? b=some o->s'.heap.get? b=some o)->Q κ s'->wpAny (model prog w) A (keyKind' vs.toArray) Q E s')
  (hlt:2<=vs.length->∀(s':Shared) i j b C,(∀b o,b≠a->s.heap.get? b=some o->s'.heap.get? b=some o)->lt i j=some b->C b s'->kas_ask prog w A κ vs i j C s') (hr:2<=vs.length->bD lt (kas_sort vs.length)=some p) (hps:2<=vs.length->p.size=vs.length)
  (h:P (.done (.ret .none)) {s with heap:=sortedHeap s.heap a vs (gq vs p)}) :
  wpAny (model prog w) A (Builtin.«list.sort» ⟨[.ref a],[]⟩) P E s:=by
 rw[list_sort_plain];have ha:a<s.heap.objs.size:=bM ho;refine au (listItems_at ho rfl ?_);refine au (listUpdate_at ho rfl ?_ (by rw[dD,pD];lia) (n_ _));obtain⟨e1,ho1⟩ : ∃e1,(s.heap.update a (Obj.mapSeq λ_=>#[])).get? a=some (seqObj "list" #[] e1):=⟨_,get?_update_seq ho (λ_=>#[])⟩;refine au (seqEpoch_at ho1 rfl ?_);refine au (wpAny_newTuple ?_ (by show vs.length<=_;rw[pD];lia));refine au (wpAny_newList ?_ (n_ _));refine kE ?_;have keep:∀b o,b≠a->s.heap.get? b=some o->(((s.heap.update a (Obj.mapSeq λ_=>(#[]:Array Value))).push (seqObj "tuple" vs.toArray 0)).push (seqObj "list" #[] 0)).get? b=some o:=λb o nb e=>
  bZ _ (bZ _ ((HS _ _ _ _ nb).trans e))
 have ho6:(((s.heap.update a (Obj.mapSeq λ_=>(#[]:Array Value))).push (seqObj "tuple" vs.toArray 0)).push (seqObj "list" #[] 0)).get? a=some (seqObj "list" #[] e1):=by
  rw[Ib _ _ _ (by rw[size_push',Heap.size_update];exact dh (qj ha)),Ib _ _ _ (by rw[Heap.size_update];exact dh ha)];exact ho1
 show wpAny (model prog w) A _ P E {s with heap:=((s.heap.update a (Obj.mapSeq λ_=>#[])).push (seqObj "tuple" vs.toArray 0)).push (seqObj "list" #[] 0)};dsimp only;have hsz:vs.toArray.size=vs.length:=by simp
 by_cases h2:vs.toArray.size<2
 ·rw[if_pos h2,if_pos h2];refine au (aJ ?_);rw[StateT.run_pure];refine au (aJ ?_);dsimp only;refine au (seqEpoch_at ho6 rfl ?_);refine au (listUpdate_at ho6 rfl ?_ (n_ _) (by rw[Array.size_map];show (pairsOf vs).size<=_;rw[pairsOf_size,pD];lia));simp only[Bh,jq,jg];have e:((vs.toArray.zip vs.toArray).map (·.2))=gq vs p:=by
   unfold gq;rw[if_pos (by rw[hsz] at h2;exact h2)];apply Array.toList_inj.mp;simp[List.map_snd_zip]
  refine aJ ?_;have h':=h;rw[<-e] at h';exact h'
 ·rw[if_neg h2,if_neg h2];have h2':2<=vs.length:=by lia
  refine au (hk h2' _ _ keep ?_);refine au (jr (kat_run (κ:=κ) (ks:=vs) (vs:=vs) (G:=λp' s'=>p'=p/\s'={s with heap:=((s.heap.update a (Obj.mapSeq λ_=>#[])).push (seqObj "tuple" vs.toArray 0)).push (seqObj "list" #[] 0)})
   (Q:=λst' s'=>arrOf st'=p.map (kas_item (vs.toArray.zip vs.toArray))/\failedOf st'=none/\s'={s with heap:=((s.heap.update a (Obj.mapSeq λ_=>#[])).push (seqObj "tuple" vs.toArray 0)).push (seqObj "list" #[] 0)})
   rfl h2' h64 (λp' st' s' a1 a2 a3 a4=>⟨by rw[a2,a4.1],a3,a4.2⟩) (T7 (λi j b C hl hC=>hlt h2' _ i j b C keep hl hC) ⟨rfl,rfl⟩ (hr h2'))) ?_ λ_ _ e=>e)
  rintro⟨⟨⟩,st'⟩ s' ⟨har,hf,rfl⟩;dsimp only;have hout:=kat_snds (ks:=vs) (vs:=vs) rfl har;have e:List.toArray (p.toList.map λi=>vs.getD i Value.none)=gq vs p:=by
   unfold gq;rw[if_neg (by lia)]
  rw[hout,e];have hso:(gq vs p).size=vs.length:=by rw[<-e,dD,bJ,Ba,hps h2']
  refine au (seqEpoch_at ho6 rfl ?_);refine au (listUpdate_at ho6 rfl ?_ (n_ _) (by rw[hso,pD];lia));rw[hf];simp only[Bh,jq,jg];exact aJ h
theorem Nf(hl:s.heap.IsList l vs.toArray)(h64:vs.length<64)
  (hk:2<=vs.length->∀(s':Shared) (Q:SortKind->Shared->Prop) E,(∀b o,s.heap.get? b=some o->s'.heap.get? b=some o)->Q κ s'->wpAny (model prog w) A.in1.in1 (keyKind' vs.toArray) Q E s')
  (hlt:2<=vs.length->∀(s':Shared) i j b C,(∀b o,s.heap.get? b=some o->s'.heap.get? b=some o)->lt i j=some b->C b s'->kas_ask prog w A.in1.in1 κ vs i j C s') (hr:2<=vs.length->bD lt (kas_sort vs.length)=some p) (hps:2<=vs.length->p.size=vs.length)
  (h:Q (.ref (s.heap.objs.size+1)) {s with heap:=sortedAll s.heap vs (gq vs p)}) :
  wpAny (model prog w) A (call (.builtin "sorted") [.ref l]) Q E s:=by
 refine Calls.call_function_entry kind_sorted plain_sorted entry_sorted (args_sorted1 _) ?_;unfold Builtin.«sorted»;refine au (m:=checkCount "sorted" 1 1 _) (aJ ?_);refine au (collect_list hl ?_ (by rw[pD];lia));refine au (wpAny_newList ?_ (by rw[pD];lia));have hsz:((s.heap.push (seqObj "list" #[] 0)).update s.heap.objs.size (Obj.mapSeq (·++vs.toArray))).objs.size=s.heap.objs.size+1:=by
  rw[Heap.size_update,size_push']
 have hoL:(((s.heap.push (seqObj "list" #[] 0)).update s.heap.objs.size (Obj.mapSeq (·++vs.toArray))).push (seqObj "list" vs.toArray 0)).get? (s.heap.objs.size+1)=some (seqObj "list" vs.toArray 0):=by
  rw[<-hsz];exact gW _ rfl
 have keep:∀b o,s.heap.get? b=some o->(((s.heap.push (seqObj "list" #[] 0)).update s.heap.objs.size (Obj.mapSeq (·++vs.toArray))).push (seqObj "list" vs.toArray 0)).get? b=some o:=λb o q=>by
  have hlt:b<s.heap.objs.size:=bM q;rw[Ib _ _ _ (by rw[hsz];exact dh (qj hlt)),HS _ _ _ _ (dh hlt),Ib _ _ _ (dh hlt)];exact q
 show wpAny _ _ _ _ _ {s with heap:=((s.heap.push (seqObj "list" #[] 0)).update s.heap.objs.size (Obj.mapSeq (·++vs.toArray))).push (seqObj "list" vs.toArray 0)};rw[hsz];have nn:∀b o,s.heap.get? b=some o->b≠s.heap.objs.size+1:=λb o e=>dh (qj (bM e));refine au (kE (qR slot_list_sort ⟨_,hoL,rfl⟩ entry_list_sort (T8 (κ:=κ) (lt:=lt) (p:=p) hoL h64 (λh2 s' Q' k q=>hk h2 s' Q' _ (λb o e=>k b o (nn b o e) (keep b o e)) q) (λh2 s' i j b C k e q=>hlt h2 s' i j b C (λb o e=>k b o (nn b o e) (keep b o e)) e q) hr hps ⟨_,rfl,?_⟩) (args_list_sort _)));exact aJ ⟨_,rfl,h⟩
end
noncomputable def jw:List V->List V->Option Bool
 |[],ys=>some (decide (0<ys.length))
 |_::_,[]=>some false
 |.int x::xs,.int y::ys=>if x=y then jw xs ys else some (decide (x<y))
 |_::_,_::_=>none
theorem T9{prog:Program}{w:World}{A:Around}{s:Shared}{fin:Bool}{C:Bool->Shared->Prop}{b:Bool}:∀{us ws:List V} {its jts:List Value} {i:Nat},Vals us its->Vals ws jts->jw us ws=some b->fin=decide (us.length<ws.length)->C b s->KatLex prog w A true fin C (its.zip jts) i s:=by
 intro us ws its jts i r1
 induction r1 generalizing ws jts i with
 |nil=>
  intro _ h hf hc;rw[List.zip_nil_left];unfold jw at h;cases h;rw[hf];exact kat_nil hc
 |@cons x u us its rx ri ih=>
  intro r2 h hf hc;cases r2 with
  |nil=>
   rw[List.zip_nil_right];unfold jw at h;cases h;rw[hf];exact kat_nil (by simpa using hc)
  |@cons y v ws jts ry rj=>
   rw[Dg];cases x with
   |int a=>
    cases y with
    |int c=>
     obtain⟨t,rfl⟩:=rx;obtain⟨t',rfl⟩:=ry;unfold jw at h;refine kat_cons (wpAny_eqBool_int ?_);by_cases e:a=c
     ·rw[if_pos e] at h;subst e;rw[wW];exact kat_yes (ih rj h (by rw[hf];simp) hc)
     ·rw[if_neg e] at h;cases h;rw[show (a==c)=false by simpa using e];refine kat_no ?_;by_cases hi:i=0
      ·subst hi;exact oneLt_int hc
      ·rw[show (true&&i==0)=false by simpa using hi];exact kat_one _ _ (wpAny_lt_int hc)
    |_=>cases h
   |_=>cases y<;>cases h
def sS(K:PySem.W.Frag)(H:Hp)(ys:List V)(lt:Nat->Nat->Option Bool):Prop:=
 ((∀v∈ys,∃i,v=V.int i)/\∀i j b,lt i j=some b->∃x y,ys[i]?=some (.int x)/\ys[j]?=some (.int y)/\b=decide (x<y)) \/
 ((∀v∈ys,∃a i r,v=.ref a/\fL K H a (.int i::r))/\∀i j b,lt i j=some b->∃a c us ws,ys[i]?=some (.ref a)/\ys[j]?=some (.ref c)/\fL K H a us/\fL K H c ws/\jw us ws=some b)
noncomputable def kZ(ys:List V)(p:Array Nat):List V:=if ys.length<2 then ys else p.toList.map λi=>ys.getD i .non
theorem Ng(r:Vals ys its):∀l:List Nat,Vals (l.map λi=>ys.getD i .non) (l.map λi=>its.getD i Value.none)
 |[]=>.nil
 |i::l=>by
  refine .cons ?_ (Ng r l);cases e:ys[i]? with
  |some y=>
   obtain⟨u,e1,e2⟩:=r.get e;show RelV (ys.getD i .non) (its.getD i Value.none);rw[kj,kj,e,e1];exact e2
  |none=>
   have e1:its[i]?=none:=by rw[pA] at e ⊢;rw[<-r.length];exact e
   show RelV (ys.getD i .non) (its.getD i Value.none);rw[kj,kj,e,e1];rfl
theorem zhh{ys:List V}{its:List Value}(r:Vals ys its)(p:Array Nat):Vals (kZ ys p) (gq its p).toList:=by
 unfold kZ gq;rw[r.length];by_cases h:its.length<2
 ·rw[if_pos h,if_pos h];exact r
 ·rw[if_neg h,if_neg h];exact Ng r p.toList
theorem zhg{ys:List V}{its:List Value}(r:Vals ys its):∀u∈its,∃v∈ys,RelV v u:=by
 induction r with
 |nil=>intro u hu;cases hu
 |cons h t ih=>
  intro u hu;rcases cM.mp hu with rfl|hu
  ·exact⟨_,eZ,h⟩
  ·obtain⟨v,a,b⟩:=ih u hu;exact⟨v,eN _ a,b⟩
section
variable {X:Cx}
theorem zgJ{prog:Program}{w:World}{A:Around}{E:Value->Shared->Prop}{s:Shared}{its:List Value}{Q:SortKind->Shared->Prop}(h2:2<=its.length)(hi:∀u∈its,∃i t,u=Value.int i t)(q:Q oneType' s):wpAny (model prog w) A (keyKind' its.toArray) Q E s:=
 kas_kind (T:=.type "int") h2 (λv hv=>by obtain⟨i,t,rfl⟩:=hi v hv;exact .of_pure rfl) (by decide) (by decide) q
theorem zjs{K:PySem.W.Frag}{ak:List (Addr×Obj)}{s:Shared}{σ:St}{H:Hp}(I:Inv X ak σ H s){h':Heap}(k:∀b o,s.heap.get? b=some o->h'.get? b=some o):∀{ys:List V} {its:List Value},Vals ys its->(∀v∈ys,∃a i r,v=.ref a/\fL X.K H a (.int i::r))->∃fs:List Value,fs.length=its.length/\(∀f∈fs,∃i t,f=Value.int i t)/\KatTups h' its fs:=by
 intro ys its r0
 induction r0 with
 |nil=>exact λ_=>⟨[],rfl,(λf hf=>by cases hf),trivial⟩
 |@cons v u ys its r rs ih=>
  intro h;obtain⟨a,i,r',rfl,hq⟩:=h _ eZ;obtain⟨fs,l,hf,kt⟩:=ih λv hv=>h v (eN _ hv);obtain⟨its',rv,⟨o,ho,hc,n,hd⟩,_⟩:=I.tuple hq;cases (show u=Value.ref a from r);cases rv with
  |cons ri rr=>
   obtain⟨t,rfl⟩:=ri;refine⟨Value.int i t::fs,by simp[l],λf hf'=>?_,KatTups.cons (k _ _ ho) hc hd (by simp) kt⟩;rcases cM.mp hf' with rfl|z
   ·exact⟨i,t,rfl⟩
   ·exact hf f z
theorem T_{prog:Program}{w:World}{A:Around}{E:Value->Shared->Prop}{s:Shared}{its fs:List Value}{Q:SortKind->Shared->Prop}(h2:2<=its.length)(hl:fs.length=its.length)(hi:∀u∈fs,∃i t,u=Value.int i t)(kt:KatTups s.heap its fs)(q:Q (tuples' true) s):wpAny (model prog w) A (keyKind' its.toArray) Q E s:=
 kat_kind (T:=.type "int") kt (by lia) (λv hv=>by obtain⟨i,t,rfl⟩:=hi v hv;exact .of_pure rfl) (by decide) q
theorem zE{its:List Value}{i:Nat}{u:Value}(h:its[i]?=some u):its.getD i Value.none=u:=by rw[kj,h];rfl
theorem zdZ:cV X (.builtin "sorted") (λxs H Q=>∃l ys lt p,xs=[.ref l]/\dj X.K H l ys/\ys.length<64/\(2<=ys.length->sS X.K H ys lt/\bD lt (kas_sort ys.length)=some p/\p.size=ys.length)/\∀r,H r=none->Q (.ref r) (upd H r (.lst (kZ ys p)))):=by
 intro ak s σ H xs us Q I r h;obtain⟨l,ys,lt,p,rfl,hq,h64,hs,q⟩:=h;obtain⟨u,rfl,rx⟩:=vals1 r;cases rx;obtain⟨its,rv,pl,hz⟩:=I.list hq;have hlen:=rv.length;have fin:EP X ak σ Q (.ref (s.heap.objs.size+1)) {s with heap:=sortedAll s.heap its (gq its p)}:=by
  obtain⟨e,he⟩:=sortedAll_at s.heap its (gq its p);have hn:H (s.heap.objs.size+1)=none:=I.hok.fresh (Nat.le_succ _);refine⟨.ref (s.heap.objs.size+1),_,I.laid (t':=s.toks) (λb u q=>sortedAll_old q) (Nat.le_succ _) (show aQ X.prog X.w _ _ _ (.lst (kZ ys p)) from ⟨?_,(gq its p).toList,e,zhh rv p,by rw[Array.toArray_toList];exact he⟩),rfl,q _ hn⟩;unfold kZ;by_cases h2:ys.length<2
  ·rw[if_pos h2];exact hz
  ·rw[if_neg h2,bJ,Ba,(hs (by lia)).2.2];exact hz
 by_cases h2:2<=ys.length
 ·obtain⟨hS,hr,hp⟩:=hs h2;rcases hS with ⟨hI,hlt⟩|⟨hT,hlt⟩
  ·refine Nf (κ:=oneType') (lt:=lt) (p:=p) pl.isList (by lia) (λh2' s' Q' E' k q'=>zgJ h2' (λu hu=>?_) q') (λ_ s' i j b C k e hC=>?_) (λ_=>by rw[<-hlen];exact hr) (λ_=>by lia) fin
   ·obtain⟨v,hv,rr⟩:=zhg rv u hu;obtain⟨i,rfl⟩:=hI v hv;obtain⟨t,rfl⟩:=rr;exact⟨i,t,rfl⟩
   ·obtain⟨x,y,e1,e2,rfl⟩:=hlt i j b e;obtain⟨u1,f1,g1⟩:=rv.get e1;obtain⟨u2,f2,g2⟩:=rv.get e2;obtain⟨t1,rfl⟩:=g1;obtain⟨t2,rfl⟩:=g2;show wpAny _ _ (keyLt' oneType' (its.getD i Value.none) (its.getD j Value.none)) C _ s';rw[zE f1,zE f2];exact kat_lt_int hC
  ·refine Nf (κ:=tuples' true) (lt:=lt) (p:=p) pl.isList (by lia) (λh2' s' Q' E' k q'=>?_) (λ_ s' i j b C k e hC=>?_) (λ_=>by rw[<-hlen];exact hr) (λ_=>by lia) fin
   ·obtain⟨fs,l1,hf,kt⟩:=zjs (K:=X.K) I k rv hT;exact T_ h2' l1 hf kt q'
   ·obtain⟨a,c,us,ws,e1,e2,q1,q2,e3⟩:=hlt i j b e;obtain⟨u1,f1,g1⟩:=rv.get e1;obtain⟨u2,f2,g2⟩:=rv.get e2;cases (show u1=Value.ref a from g1);cases (show u2=Value.ref c from g2);obtain⟨i1,r1,⟨o1,ho1,hc1,n1,hd1⟩,_⟩:=I.tuple q1;obtain⟨i2,r2,⟨o2,ho2,hc2,n2,hd2⟩,_⟩:=I.tuple q2;show wpAny _ _ (keyLt' (tuples' true) (its.getD i Value.none) (its.getD j Value.none)) C _ s';rw[zE f1,zE f2];refine kat_lt (k _ _ ho1) hd1 (k _ _ ho2) hd2 (T9 r1 r2 e3 ?_ hC);rw[r1.length,r2.length];simp
 ·exact Nf (κ:=oneType') (lt:=lt) (p:=p) pl.isList (by lia) (λh2'=>absurd h2' (by lia)) (λh2'=>absurd h2' (by lia)) (λh2'=>absurd h2' (by lia)) (λh2'=>absurd h2' (by lia)) fin
end
end L2
namespace L2
open PySem PySem.Spec PyProof.Rows PySem.W PySem.Calls PySem.Builtin PySem.Builtin.ObjectAttr
theorem Ua(self:Value):∀{l:List Value},bf l=true->refuseLoop self "__setattr__" l=pure ()
 |.ref c::r,e=>by rw[refuseLoop_ref];exact Ua self (by unfold bf at e;exact e)
 |[],e=>by cases e
 |.type n::r,e=>by
  have e':(Value.type n::r)=qu:=by unfold bf at e;exact jf.mp e
  rw[e'];exact PySem.F.store_ValueError.passes self
 |.none::r,e=>by unfold bf at e;cases (jf.mp e)
 |.bool _::r,e=>by unfold bf at e;cases (jf.mp e)
 |.int _ _::r,e=>by unfold bf at e;cases (jf.mp e)
 |.str _ _::r,e=>by unfold bf at e;cases (jf.mp e)
 |.bytes _ _::r,e=>by unfold bf at e;cases (jf.mp e)
 |.float _ _::r,e=>by unfold bf at e;cases (jf.mp e)
 |.builtin _::r,e=>by unfold bf at e;cases (jf.mp e)
theorem Ub:∀{l:List Value},bf l=true->l.contains (.type "object")=true
 |.ref c::r,e=>by rw[K9,Ub (l:=r) (by unfold bf at e;exact e),Bool.or_true]
 |[],e=>by cases e
 |.type n::r,e=>by
  have e':(Value.type n::r)=qu:=by unfold bf at e;exact jf.mp e
  rw[e']
  decide
 |.none::r,e=>by unfold bf at e;cases (jf.mp e)
 |.bool _::r,e=>by unfold bf at e;cases (jf.mp e)
 |.int _ _::r,e=>by unfold bf at e;cases (jf.mp e)
 |.str _ _::r,e=>by unfold bf at e;cases (jf.mp e)
 |.bytes _ _::r,e=>by unfold bf at e;cases (jf.mp e)
 |.float _ _::r,e=>by unfold bf at e;cases (jf.mp e)
 |.builtin _::r,e=>by unfold bf at e;cases (jf.mp e)
section
variable {prog:Program}{w:World}{A:Around}{R:Result->Shared->Prop}{E:Value->Shared->Prop}{s:Shared}{K:PySem.W.Frag}{x C:Addr}{ox:Obj}{cd:ClassData}{name:Str}{v:Value}{mA:Str->Option Value}{ns:List Str}
theorem xM(hx:h.get? x=some ox)(hc:ox.cls=.ref C):Looks M h (typeOf (.ref x)) (.ref C):=by
 rw[<-hc];exact(Looks.ld hx).andThen .now
theorem Nh(X:K.In s.heap)(hx:s.heap.get? x=some ox)(hc:ox.cls=.ref C)(hnc:∀c,ox.data≠.cls c)(hcl:clsIn K C=some cd)(hm:bf cd.mro=true)(hhd:cd.hasDict=true)(ht:findIn K (.ref C) name=some none)
  (hd:(ox.dict=none/\∀n,mA n=none)\/∃dx,ox.dict=some dx/\dx≠x/\s.heap.Ns1 dx mA) (hw:Within mA ns) (hsz:ns.length<=1000)
  (hq:∀h' tk' d,h'.get? x=some {ox with dict:=some d}->d≠x->h'.Ns1 d (λy=>if y=name then some v else mA y)->((ox.dict=none/\s.heap.objs.size<=d)\/ox.dict=some d)->(∀b o,b≠x->b≠d->s.heap.get? b=some o->h'.get? b=some o)->R (.ok (.ret .none)) {s with heap:=h',toks:=tk'}) :
  codeAny (model prog w) A (.call (.builtin "object.__setattr__") ⟨[.ref x,.str name tk,v],[]⟩) R s:=by
 have SF:=PySem.F.store_object;have ne:cd.mro.isEmpty=false:=by cases q:cd.mro with|nil=>rw[q] at hm;cases hm|cons _ _=>rfl
 have I:Looks (model prog w) s.heap (typeOf (.ref x)) (.ref C):=xM hx hc;have sub:Looks (model prog w) s.heap (isInstance (.ref x) (.type "object")) true:=I.andThen (looks_mroIn X (by unfold mroIn;rw[hcl,Option.bind_some,if_neg (by rw[ne];decide),Ub hm]));refine K4 SF.slot.plain SF.entry (@check_slot (model prog w) _ _ s "object.__setattr__" "object" "__setattr__" (.ref x) [.str name tk,v] [] _ SF.kind SF.split sub (SF.args (.ref x) (.str name tk) v) ?_);have hm':Looks (model prog w) s.heap (mroOf (.ref C)) cd.mro:=(looks_clsIn X hcl).andThen .now;rw[osa_eq,refuse_eq];refine au (au (I.here (au (hm'.here ?_))));rw[Ua _ hm];refine aJ (au (I.here (au ((looks_findIn X ht).here (au (aJ ?_))))));obtain⟨oc,odi,oda,osl⟩:=ox;dsimp only at hc hd hq hnc;subst hc;refine au (aJ (au (au (wpAny_loadPart hx (au ((looks_clsIn X hcl).here ?_))))));rw[hhd];rcases hd with ⟨rfl,hn⟩|⟨dx,rfl,nx,n1⟩
 ·have hfr:=(Heap.get?_some_iff.mp hx).2;have hx₁:(s.heap.push {cls:=.type "dict",data:=.dict #[]}).get? x=some ⟨.ref C,none,oda,osl⟩:=bZ _ hx;have hxs:x≠s.heap.objs.size:=dh (bM hx);have key:wpAny (model prog w) A.in1 (do
    let d <-alloc {cls:=Value.type "dict",data:=Data.dict #[]}
    update x λo=>{cls:=o.cls,dict:=some d,data:=o.data,slots:=o.slots}
    dictMade (Value.ref C) x d) (λa s'=>wpAny (model prog w) A.in1 (match a with
    |some d=>storeInDict d (Value.str name tk) name v
    |none=>noDictFor (Value.ref x) (Value.ref C) name (Option.isSome (none:Option Value)))
    (λfin s'=>match fin with
     |Fin.done f=>R (Except.ok f) s'
     |Fin.again c'=>c'.quiet=true/\codeAny (model prog w) A c' R s')
    (λe s'=>R (Except.error e) s') s') (λe s'=>R (Except.error e) s') s:=by
   refine au (wpAny_alloc' ?_);refine au (wpAny_update' hx₁ ?_);refine aJ (a:=some s.heap.objs.size) ?_;have hgd:((s.heap.push {cls:=.type "dict",data:=.dict #[]}).update x λo=>{cls:=o.cls,dict:=some s.heap.objs.size,data:=o.data,slots:=o.slots}).get? s.heap.objs.size
    =some {cls:=.type "dict",data:=.dict #[]}:=
    (HS _ _ _ _ hxs.symm).trans (Heap.get?_push_at rfl rfl)
   have hnd:((s.heap.push {cls:=.type "dict",data:=.dict #[]}).update x λo=>{cls:=o.cls,dict:=some s.heap.objs.size,data:=o.data,slots:=o.slots}).Ns s.heap.objs.size (λ_=>none):=
    ⟨_,#[],_,hgd,rfl,λe he=>absurd he (by simp),λ_=>rfl⟩
   show wpAny _ _ (storeInDict s.heap.objs.size (.str name tk) name v) _ _ _;unfold storeInDict newKeyGuard;refine au (aJ (au (wpAny_nsSet1 (Heap.Ns1.of_empty hnd) λh' hn' hs=>?_)));obtain⟨oD,esD,epD,hoD,hdD,hcD⟩:=hn'.count (Within.cons name v Within.nil);refine au (wpAny_lookBehind hoD (by rw[hdD];exact pastItsLine_dict (n8 hcD (by rw[gY,ql,pD];lia))) ?_);refine aJ (hq h' _ s.heap.objs.size ?_ hxs.symm ?_ (.inl ⟨rfl,cg _⟩) λb ob hbx _ hb=>?_)
   ·refine(hs.2 x hxs).trans (rG _ hx₁ ?_);cases oda<;>first|rfl|exact hfr
   ·obtain⟨o',es,ep,e1,e2,e3,eu,e4⟩:=hn';exact⟨o',es,ep,e1,e2,e3,eu,λy=>by rw[e4 y];by_cases hy:y=name<;>simp[hy,hn]⟩
   ·exact(hs.2 b (dh (bM hb))).trans ((HS _ _ _ _ hbx).trans (bZ _ hb))
  cases oda<;>first|exact key|exact absurd rfl (hnc _)
 ·refine aJ (a:=some dx) ?_;show wpAny _ _ (storeInDict dx (.str name tk) name v) _ _ _;unfold storeInDict newKeyGuard;refine au (aJ (au (wpAny_nsSet1 n1 λh' hn' hs=>?_)));obtain⟨oD,esD,epD,hoD,hdD,hcD⟩:=hn'.count (Within.cons name v hw);refine au (wpAny_lookBehind hoD (by rw[hdD];exact pastItsLine_dict (n8 hcD (by rw[gY,pD];lia))) ?_);exact aJ (hq h' _ dx ((hs.2 x nx.symm).trans hx) nx hn' (.inr rfl) λb o _ nb e=>(hs.2 b nb).trans e)
theorem Fi(X:K.In s.heap)(hx:s.heap.get? x=some ox)(hc:ox.cls=.ref C)(hnc:∀c,ox.data≠.cls c)(hs:findIn K (.ref C) "__setattr__"=some (some (.builtin "object.__setattr__")))(hcl:clsIn K C=some cd)(hm:bf cd.mro=true)(hhd:cd.hasDict=true)(ht:findIn K (.ref C) name=some none)
  (hd:(ox.dict=none/\∀n,mA n=none)\/∃dx,ox.dict=some dx/\dx≠x/\s.heap.Ns1 dx mA) (hw:Within mA ns) (hsz:ns.length<=1000)
  (hq:∀h' tk' d,h'.get? x=some {ox with dict:=some d}->d≠x->h'.Ns1 d (λy=>if y=name then some v else mA y)->((ox.dict=none/\s.heap.objs.size<=d)\/ox.dict=some d)->(∀b o,b≠x->b≠d->s.heap.get? b=some o->h'.get? b=some o)->Q () {s with heap:=h',toks:=tk'}) :
  wpAny (model prog w) A (setAttr (.ref x) name v) Q E s:=by
 refine au (wpAny_mkText (au (au (au (xM hx hc _ _ _ _ (λ_ _ e=>e) (looks_findIn X hs _ _ _ _ (λ_ _ e=>e) (kE ?_)))))));rw[PySem.F.store_object.slot.bind];refine au (aJ (au (yN (Nh (s:={s with toks:=s.toks+1}) X hx hc hnc hcl hm hhd ht hd hw hsz λh' tk' d a1 a2 a3 a4 a5=>?_))));exact aJ (aJ (hq h' tk' d a1 a2 a3 a4 a5))
end
end L2
namespace L2
open PySem PySem.Spec PyProof.Rows PySem.W PySem.Calls
noncomputable def vU:Stmt->Option (Str×Str×Str)
 |.Assign [.Attribute (.Name a _) x _] (.Name y _) _=>some (a,x,y)
 |_=>none
theorem zi5{st:Stmt}{t:Str×Str×Str}(h:vU st=some t):∃p1 p2 p3 p4,st=.Assign [.Attribute (.Name t.1 p1) t.2.1 p2] (.Name t.2.2 p3) p4:=by
 unfold vU at h;split at h
 ·cases h;exact⟨_,_,_,_,rfl⟩
 ·cases h
noncomputable def iy(sf:Str):List Stmt->List Str->Bool
 |[],fs=>fs.isEmpty
 |st::rest,fs=>match fs with
  |[]=>false
  |f::fs=>vU st==some (sf,f,f)&&iy sf rest fs
theorem Uc{sf f:Str}{fs:List Str}{body:List Stmt}(h:iy sf body (f::fs)=true):∃p1 p2 p3 p4 rest,body=.Assign [.Attribute (.Name sf p1) f p2] (.Name f p3) p4::rest/\iy sf rest fs=true:=by
 cases body with
 |nil=>cases h
 |cons st rest=>
  have h:(vU st==some (sf,f,f)&&iy sf rest fs)=true:=h;obtain⟨h1,h2⟩:=(cI _ _).mp h;obtain⟨p1,p2,p3,p4,e⟩:=zi5 (eq_of_beq h1);exact⟨p1,p2,p3,p4,rest,by rw[e],h2⟩
noncomputable def jT:List (Str×Value)->(Str->Option Value)->Str->Option Value
 |[],m=>m
 |(f,u)::r,m=>jT r (λy=>if y=f then some u else m y)
section
variable {prog:Program}{w:World}{K:PySem.W.Frag}{C e:Addr}{cd:ClassData}{env:Env}{m:Str->Option Value}{A:Around}{E:Value->Shared->Prop}{sf:Str}
theorem Ud(hk:env.scope.kind=.function)(hself:m sf=some (.ref e))(hsl:env.scope.names.lookup sf=some .local)(hsd:(sf==("__debug__" : Str))=false)(sU:findIn K (.ref C) "__setattr__"=some (some (.builtin "object.__setattr__")))(hcl:clsIn K C=some cd)(hm:bf cd.mro=true)(hhd:cd.hasDict=true)
  (Fj:∀b o,K.lookup b=some o->b≠e) (hL:env.locals≠e):∀(fs:List Str) (us:List Value) (body:List Stmt) (ox:Obj) (mA:Str->Option Value) (ns:List Str) (s:Shared) (Q:Flow->Shared->Prop),iy sf body fs=true->fs.length=us.length->
  (∀(i:Nat) f u,fs[i]?=some f->us[i]?=some u->m f=some u)->(∀f∈fs,env.scope.names.lookup f=some .local/\(f==("__debug__" : Str))=false/\findIn K (.ref C) f=some none)->
  K.In s.heap->s.heap.Ns env.locals m->s.heap.get? e=some ox->ox.cls=.ref C->(∀c,ox.data≠.cls c)->(∃dx,ox.dict=some dx/\dx≠e/\s.heap.Ns1 dx mA/\dx≠env.locals/\∀b o,K.lookup b=some o->b≠dx)->Within mA ns->ns.length+fs.length<=1000->
  (∀h' tk',h'.get? e=some ox->(∀dx,ox.dict=some dx->h'.Ns1 dx (jT (fs.zip us) mA))->(∀b o,b≠e->(∀dx,ox.dict=some dx->b≠dx)->s.heap.get? b=some o->h'.get? b=some o)->Q .next {s with heap:=h',toks:=tk'})->
  wpAny (model prog w) A (execs body env) Q E s
 |[],us,[],ox,mA,ns,s,Q,hb,hl,hv,hf,X,hN,he,hc,hnc,⟨dx,h1,h2,h3,h4,h5⟩,hw,hz,q=>by
  cases us with
  |cons _ _=>cases hl
  |nil=>exact Dj (q s.heap s.toks he (λd hd=>by rw[h1] at hd;cases hd;exact h3) λb o _ _ e=>e)
 |[],us,st::rest,ox,mA,ns,s,Q,hb,_,_,_,_,_,_,_,_,_,_,_,_=>by
  cases hb
 |f::fs,[],body,ox,mA,ns,s,Q,hb,hl,_,_,_,_,_,_,_,_,_,_,_=>by cases hl
 |f::fs,u::us,body,ox,mA,ns,s,Q,hb,hl,hv,hf,X,hN,he,hc,hnc,⟨dx,h1,h2,h3,h4,h5⟩,hw,hz,q=>by
  obtain⟨p1,p2,p3,p4,rest,rfl,hb2⟩:=Uc hb;obtain⟨k1,k2,k3⟩:=hf _ eZ;have hu:=hv 0 _ _ rfl rfl;refine wpAny_execs_cons ?_;refine plainObj_wpAny_Assign_Attribute ?_ rfl;refine yM (CW hk k1 hN hu ?_) k2;refine yM (CW hk hsl hN hself ?_) hsd;refine Fi (ns:=ns) X he hc hnc sU hcl hm hhd k3 (.inr ⟨dx,h1,h2,h3⟩) hw (by lia) λh' tk' d a1 a2 a3 a4 a5=>?_;have ed:d=dx:=by
   rcases a4 with ⟨z,_⟩|z
   ·rw[h1] at z;cases z
   ·rw[h1] at z;cases z;rfl
  subst ed;have eo:({ox with dict:=some d}:Obj)=ox:=by rw[<-h1]
  rw[eo] at a1;have X':K.In h':=λb o z=>a5 b o (Fj b o z) (h5 b o z) (X b o z);have hN':h'.Ns env.locals m:=let ⟨o,es,ep,e1,r⟩:=hN;⟨o,es,ep,a5 _ _ hL h4.symm e1,r⟩;refine Ud hk hself hsl hsd sU hcl hm hhd Fj hL fs us rest ox _ (f::ns) {s with heap:=h',toks:=tk'} Q hb2 (by simpa using hl) (λi f u e1 e2=>hv (i+1) f u (by simpa using e1) (by simpa using e2)) (λf hf'=>hf f (eN _ hf')) X' hN' a1 hc hnc ⟨d,h1,h2,a3,h4,h5⟩ (Within.cons f u hw) (by simp at hz ⊢;lia) λh2' tk2 b1 b2 b3=>q h2' tk2 b1 (λdx' hd'=>?_) λb o nb nd e'=>b3 b o nb nd (a5 b o nb (nd d h1) e');exact b2 dx' hd'
theorem zdS(hk:env.scope.kind=.function)(hself:m sf=some (.ref e))(hsl:env.scope.names.lookup sf=some .local)(hsd:(sf==("__debug__" : Str))=false)(sU:findIn K (.ref C) "__setattr__"=some (some (.builtin "object.__setattr__")))(hcl:clsIn K C=some cd)(hm:bf cd.mro=true)(hhd:cd.hasDict=true)
  (Fj:∀b o,K.lookup b=some o->b≠e) (hL:env.locals≠e) {f:Str} {fs:List Str} {u:Value} {us:List Value} {body:List Stmt} {ox:Obj} {s:Shared} {Q:Flow->Shared->Prop} (hb:iy sf body (f::fs)=true) (hl:fs.length=us.length) (hz:fs.length<=900)
  (hv:∀(i:Nat) g v,(f::fs)[i]?=some g->(u::us)[i]?=some v->m g=some v) (hf:∀g∈f::fs,env.scope.names.lookup g=some .local/\(g==("__debug__" : Str))=false/\findIn K (.ref C) g=some none)
  (X:K.In s.heap) (hN:s.heap.Ns env.locals m) (he:s.heap.get? e=some ox) (hc:ox.cls=.ref C) (hnc:∀c,ox.data≠.cls c) (hd:ox.dict=none)
  (q:∀h' tk' d,s.heap.objs.size<=d->h'.get? e=some {ox with dict:=some d}->h'.Ns1 d (jT ((f::fs).zip (u::us)) λ_=>none)->(∀b o,b≠e->b≠d->s.heap.get? b=some o->h'.get? b=some o)->Q .next {s with heap:=h',toks:=tk'}) :
  wpAny (model prog w) A (execs body env) Q E s:=by
 obtain⟨p1,p2,p3,p4,rest,rfl,hb2⟩:=Uc hb;obtain⟨k1,k2,k3⟩:=hf _ eZ;have hu:=hv 0 _ _ rfl rfl;refine wpAny_execs_cons ?_;refine plainObj_wpAny_Assign_Attribute ?_ rfl;refine yM (CW hk k1 hN hu ?_) k2;refine yM (CW hk hsl hN hself ?_) hsd;refine Fi (ns:=[]) (mA:=λ_=>none) X he hc hnc sU hcl hm hhd k3 (.inl ⟨hd,λ_=>rfl⟩) Within.nil (n_ _) λh' tk' d a1 a2 a3 a4 a5=>?_;have fd:s.heap.objs.size<=d:=by
  rcases a4 with ⟨_,z⟩|z
  ·exact z
  ·rw[hd] at z;cases z
 have nd:∀b o,s.heap.get? b=some o->b≠d:=λb o z=>dh (gH (bM z) fd);have X':K.In h':=λb o z=>a5 b o (Fj b o z) (nd b o (X b o z)) (X b o z);have hN':h'.Ns env.locals m:=let ⟨o,es,ep,e1,r⟩:=hN;⟨o,es,ep,a5 _ _ hL (nd _ _ e1) e1,r⟩;have nL:d≠env.locals:=let ⟨o,es,ep,e1,r⟩:=hN;(nd _ _ e1).symm;refine Ud hk hself hsl hsd sU hcl hm hhd Fj hL fs us rest {ox with dict:=some d} _ [f] {s with heap:=h',toks:=tk'} Q hb2 hl (λi g v e1 e2=>hv (i+1) g v (by simpa using e1) (by simpa using e2)) (λg hg=>hf g (eN _ hg)) X' hN' a1 hc hnc ⟨d,rfl,a2,a3,nL,λb o z=>nd b o (X b o z)⟩ (Within.cons f u Within.nil) (by simp;lia) λh2 tk2 b1 b2 b3=>q h2 tk2 d fd b1 (b2 d rfl) λb o n1 n2 z=>b3 b o n1 (λdx hx=>by cases hx;exact n2) (a5 b o n1 n2 z)
end
end L2
namespace PySem
open Sem (wp)
section
variable {prog:Program}{w:World}{A:Around}{E:Value->Shared->Prop}{h:Heap}{g:Array GenState}{d:Drawn}{t:Nat}{os:OsState}
variable {nm q:Str}{C N:Addr}{bs bm bmB:List Value}{hdct:Bool}{sn:List Str}{sub:List Value}{ab:Bool}{col:Option Bool}{dd:Option Addr}{k0 k1 k2 k3 k5:Option Value}{B Bn newId nid initId inN:String}{bmN:List Value}
theorem zaO(Fn:ExcBaseFacts Bn newId inN bmN)(hBn:bmB.contains (.type Bn)=true)(F:ExcBaseFacts B nid initId bmB)(T:OwnTail h bmB bm)
  (hC:h.get? C=some (excClassObj nm q C N bs bm hdct sn sub ab col dd k0 k1 k2 k3 k5 newId)) (hn:h.Ns N mN) (hi:mN "__init__"=some (.ref fI))
  (hfI:h.get? fI=some oI) (hfc:oI.cls=.type "function")
  (hq:wpAny (model prog w) A (call (.ref fI) (.ref (h.objs.size+1)::rest)) (λr s'=>r=.none/\Q (.done (.ret (.ref (h.objs.size+1)))) s') E
   ⟨(h.push {cls:=.type "tuple",data:=.seq rest.toArray}).push {cls:=.ref C,data:=.fields #[.ref h.objs.size,.none,.none,.none,.bool false,.none]},g,d,t,os⟩) (hrest:rest.length<=sizeLine:=by size_fits) :
  wpAny (model prog w) A (Builtin.«type.__call__» ⟨.ref C::rest,[]⟩) Q E ⟨h,g,d,t,os⟩:=by
 repeat (first|with_reducible refine yK hC ?_|with_reducible refine wpAny_madeBy_exc hC ?_|wp_step)
 refine codeAny_call_builtin_code (HX _ Fn.quiet) (wpAny_check_new_subU Fn hBn T hC ?_);refine codeAny_exc_new_subU Fn hBn F T hC ?_ hrest;show wpAny _ _ _ _ _ _;have hC₁:=bZ {cls:=.ref C,data:=.fields #[.ref h.objs.size,.none,.none,.none,.bool false,.none]}
  (bZ {cls:=.type "tuple",data:=.seq rest.toArray} hC)
 have hfI₁:=bZ {cls:=.ref C,data:=.fields #[.ref h.objs.size,.none,.none,.none,.bool false,.none]}
  (bZ {cls:=.type "tuple",data:=.seq rest.toArray} hfI)
 have hn₁:((h.push {cls:=.type "tuple",data:=.seq rest.toArray}).push {cls:=.ref C,data:=.fields #[.ref h.objs.size,.none,.none,.none,.bool false,.none]}).Ns N mN:=
  let ⟨o,es,ep,e,r⟩:=hn;⟨o,es,ep,bZ _ (bZ _ e),r⟩
 have hget:((h.push {cls:=.type "tuple",data:=.seq rest.toArray}).push
   {cls:=.ref C,data:=.fields #[.ref h.objs.size,.none,.none,.none,.bool false,.none]}).get? (h.objs.size+1)=some
   {cls:=.ref C,data:=.fields #[.ref h.objs.size,.none,.none,.none,.bool false,.none]}:=by heap_get
 have hcC:(Value.ref C::bm).contains (.ref C)=true:=by simp
 have T₁:=T.keeps (h':=(h.push {cls:=.type "tuple",data:=.seq rest.toArray}).push {cls:=.ref C,data:=.fields #[.ref h.objs.size,.none,.none,.none,.bool false,.none]})
  λb o e=>bZ _ (bZ _ e)
 unfold isInstance
 repeat (first|with_reducible refine yK hget ?_|(with_reducible refine HN hC₁ ?_;rw[hcC])|wp_step)
 show wpAny _ _ (typeLookup (.ref C) _) _ _ _;refine wpAny_typeLookup_tail hC₁ hn₁ T₁ F.mroIs F.init.lookup ?_;rw[hi];refine kE (au ?_);unfold bindSpecial;refine au (xg (T:="function") ⟨_,hfI₁,hfc⟩ ?_);rw[if_pos (by decide)];refine aJ (au (jr hq (λr s' hr=>?_) λ_ _ x=>x));obtain⟨rfl,hQ⟩:=hr
 wp_walk
 exact hQ
theorem za8(Fn:ExcBaseFacts Bn newId inN bmN)(hBn:bmB.contains (.type Bn)=true)(F:ExcBaseFacts B nid initId bmB)(T:OwnTail h bmB bm)
  (hC:h.get? C=some (excClassObj nm q C N bs bm hdct sn sub ab col dd k0 k1 k2 k3 k5 newId)) (hn:h.Ns N mN) (hi:mN "__init__"=some (.ref fI))
  (hfI:h.get? fI=some oI) (hfc:oI.cls=.type "function")
  (hq:wpAny (model prog w) (A.under (.builtin "type.__call__" ⟨.ref C::rest,[]⟩)) (call (.ref fI) (.ref (h.objs.size+1)::rest)) (λr s'=>r=.none/\Q (.ref (h.objs.size+1)) s') E
   ⟨(h.push {cls:=.type "tuple",data:=.seq rest.toArray}).push {cls:=.ref C,data:=.fields #[.ref h.objs.size,.none,.none,.none,.bool false,.none]},g,d,t,os⟩) (hrest:rest.length<=sizeLine:=by size_fits) :
  wpAny (model prog w) A (call (.ref C) rest) Q E ⟨h,g,d,t,os⟩:=by
 have f1:=tc_lookup;have f2:=tc_bind (.ref C);have hT:(⟨h,g,d,t,os⟩ : Shared).TypeIs (.ref C) "type":=⟨_,hC,rfl⟩;refine yN (codeAny_of_tree ?_);show wpAny _ _ (callAny (.ref C) _) _ _ _
 repeat (any_goals (first|assumption|with_reducible refine yK hC ?_|wp_step))
 refine⟨rfl,?_⟩;refine codeAny_call_builtin_at (HX _ (by decide +kernel)) entry_typeCall (wpAny_check_type_call_sub hC (zaO (hrest:=hrest) Fn hBn F T hC hn hi hfI hfc ?_));exact hq
end
section
variable {prog:Program}{w:World}{A:Around}{E:Value->Shared->Prop}{s:Shared}{env:Env}
variable {nm q:Str}{C N:Addr}{bs bm bmB:List Value}{hdct:Bool}{sn:List Str}{sub:List Value}{ab:Bool}{col:Option Bool}{dd:Option Addr}{k0 k1 k2 k3 k5:Option Value}{B Bn newId nid initId inN:String}{bmN:List Value}
theorem Ni(hbase:bm.contains (.type "BaseException")=true)(hh:A.handled=none)
  (h:wpAny M A x (λv s₁=>∃e t dx,v=.ref e/\s₁.heap.get? C=some (excClassObj nm q C N bs bm hdct sn sub ab col dd k0 k1 k2 k3 k5 newId) /\
   s₁.heap.get? e=some {cls:=.ref C,dict:=dx,data:=.fields #[.ref t,.none,.none,.none,.bool false,.none]}/\E (.ref e) s₁) E s) :
  wpAny M A (raiseStmt env (some x) none) Q E s:=by
 have hcB:(Value.ref C::bm).contains (.type "BaseException")=true:=by rw[K9,hbase,Bool.or_true]
 unfold raiseStmt;refine au (jr h (λv s₁ h₁=>?_) λ_ _ x=>x);obtain⟨e,t,dx,rfl,hC,he,hE⟩:=h₁;obtain⟨hp,g,d,tk,os⟩:=s₁
 repeat (first|with_reducible refine yK he ?_|with_reducible refine yK hC ?_|(with_reducible refine HN hC ?_;rw[hcB])|wp_step)
 exact wpAny_raiseNew_none hh hE
theorem zaW(Fn:ExcBaseFacts Bn newId inN bmN)(hBn:bmB.contains (.type Bn)=true)(F:ExcBaseFacts B nid initId bmB){mN:Str->Option Value}{fI:Addr}{oI:Obj}{x:Str}{np cpos pos:Pos}{args:List Expr}{Q:Flow->Shared->Prop}
  (hbase:bm.contains (.type "BaseException")=true) (hh:A.handled=none) (hplain:(backTo cpos (starEach args env)).any (·.1)=false) (hi:mN "__init__"=some (.ref fI)) (hfc:oI.cls=.type "function")
  (h:wpAny (model prog w) A (eval (.Name x np) env) (λf s₁=>f=.ref C/\wpAny (model prog w) A (evalArgs (.ref C) true (backTo cpos (starEach args env)) [])
   (λa s₂=>a.kw=[]/\a.pos.length<=sizeLine/\s₂.heap.get? C=some (excClassObj nm q C N bs bm hdct sn sub ab col dd k0 k1 k2 k3 k5 newId)/\s₂.heap.Ns N mN/\OwnTail s₂.heap bmB bm/\s₂.heap.get? fI=some oI /\
    wpAny (model prog w) (A.under (.builtin "type.__call__" ⟨.ref C::a.pos,[]⟩)) (call (.ref fI) (.ref (s₂.heap.objs.size+1)::a.pos)) (λr s'=>r=.none/\(∃dx t0,s'.heap.get? (s₂.heap.objs.size+1)=some {cls:=.ref C,dict:=dx,data:=.fields #[.ref t0,.none,.none,.none,.bool false,.none]})/\s'.heap.get? C=some (excClassObj nm q C N bs bm hdct sn sub ab col dd k0 k1 k2 k3 k5 newId)/\E (.ref (s₂.heap.objs.size+1)) s') E
     {s₂ with heap:=(s₂.heap.push {cls:=.type "tuple",data:=.seq a.pos.toArray}).push {cls:=.ref C,data:=.fields #[.ref s₂.heap.objs.size,.none,.none,.none,.bool false,.none]}}) E s₁) E s) :
  wpAny (model prog w) A (exec (.Raise (some (.Call (.Name x np) args [] cpos)) none pos) env) Q E s:=by
 rw[arm_exec_Raise]
 first
  |refine au (rM (Ni (C:=C) (nm:=nm) (q:=q) (N:=N) (bs:=bs) (bm:=bm) (hdct:=hdct) (sn:=sn) (sub:=sub) (ab:=ab) (col:=col) (dd:=dd) (k0:=k0) (k1:=k1) (k2:=k2) (k3:=k3) (k5:=k5) (newId:=newId) hbase hh (au (jr (wpAny_Call_ofName (jr h (λf s₁ h₁=>?_) λ_ _ x=>x)) (λv s₃ h₃=>au (rM (aJ h₃))) λ_ _ x=>x))))
  |(simp only[evalOpt,Option.map];refine au (rM (Ni (C:=C) (nm:=nm) (q:=q) (N:=N) (bs:=bs) (bm:=bm) (hdct:=hdct) (sn:=sn) (sub:=sub) (ab:=ab) (col:=col) (dd:=dd) (k0:=k0) (k1:=k1) (k2:=k2) (k3:=k3) (k5:=k5) (newId:=newId) hbase hh (au (jr (wpAny_Call_ofName (jr h (λf s₁ h₁=>?_) λ_ _ x=>x)) (λv s₃ h₃=>au (rM (aJ h₃))) λ_ _ x=>x)))))
  |(refine au (rM (Ni (C:=C) (nm:=nm) (q:=q) (N:=N) (bs:=bs) (bm:=bm) (hdct:=hdct) (sn:=sn) (sub:=sub) (ab:=ab) (col:=col) (dd:=dd) (k0:=k0) (k1:=k1) (k2:=k2) (k3:=k3) (k5:=k5) (newId:=newId) hbase hh ?_));refine au (jr (wpAny_Call_ofName (jr h (λf s₁ h₁=>?_) λ_ _ x=>x)) (λv s₃ h₃=>au (rM (aJ h₃))) λ_ _ x=>x))
 obtain⟨rfl,h₁⟩:=h₁;unfold callWith;refine au (kE (jr h₁ (λa s₂ h₂=>au (rM ?_)) λ_ _ x=>x));obtain⟨apos,akw⟩:=a;obtain⟨hkw,hlen,hC,hn,T,hfI,h₂⟩:=h₂;obtain rfl:akw=[]:=hkw;obtain⟨hp,g,d,tk,os⟩:=s₂;simp only[hplain];refine au (wpAny_keeperOf_exc hC ?_);refine au (za8 (hrest:=hlen) Fn hBn F T hC hn hi hfI hfc (jr h₂ (λr s' hr=>?_) λ_ _ x=>x));obtain⟨rfl,⟨dx,t0,ht⟩,hC',hE⟩:=hr;exact⟨rfl,au (kE (wpAny_point (aJ ⟨_,t0,dx,rfl,hC',ht,hE⟩)))⟩
end
end PySem
namespace L2
open PySem PySem.Spec PyProof.Rows PySem.W PySem.Calls
theorem Ue{α:Type}:∀{l:List (Str×α)} {f:Str} {u:α},(l.map (·.1)).Nodup->(f,u)∈l->l.lookup f=some u
 |(g,v)::r,f,u,hn,hm=>by
  rw[jA,qm] at hn;rw[mJ];rcases cM.mp hm with e|hm
  ·cases e;simp
  ·have:f≠g:=λz=>hn.1 (by rw[<-z];exact fj.mpr ⟨(f,u),hm,rfl⟩);rw[show (f==g)=false by simpa using this];exact Ue hn.2 hm
theorem ziX{α:Type}{fs:List Str}{us:List α}{i:Nat}{f:Str}{u:α}(h1:fs[i]?=some f)(h2:us[i]?=some u):(f,u)∈fs.zip us:=by
 refine gU (i:=i) ?_;exact(List.getElem?_zip_eq_some (z:=(f,u))).mpr ⟨h1,h2⟩
theorem Ug{α:Type}{fs:List Str}{us:List α}(h:fs.length=us.length):(fs.zip us).map (·.1)=fs:=by
 rw[List.map_fst_zip]
 lia
theorem zfi{α:Type}{fs:List Str}{us:List α}(hn:fs.Nodup)(hl:fs.length=us.length){i:Nat}{f:Str}{u:α}(h1:fs[i]?=some f)(h2:us[i]?=some u):(fs.zip us).reverse.lookup f=some u:=by
 refine Ue ?_ (List.mem_reverse.mpr (ziX h1 h2));rw[List.map_reverse,Ug hl,List.Nodup,List.pairwise_reverse];exact List.Pairwise.imp (λh=>h.symm) hn
theorem Uh:∀{l:List (Str×Value)} {m:Str->Option Value} {f:Str},(l.map (·.1)).Nodup->jT l m f=match l.lookup f with|some u=>some u|none=>m f
 |[],m,f,_=>rfl
 |(g,v)::r,m,f,hn=>by
  rw[jA,qm] at hn;unfold jT;rw[Uh hn.2,mJ];by_cases e:f=g
  ·subst e;have:r.lookup f=none:=by
    cases z:r.lookup f with
    |none=>rfl
    |some u=>
     exfalso
     apply hn.1;clear hn
     induction r with
     |nil=>cases z
     |cons p r ih=>
      rw[mJ] at z;by_cases e:f=p.1
      ·rw[e];exact eZ
      ·rw[show (f==p.1)=false by simpa using e] at z;exact eN _ (ih z)
   rw[this];simp
  ·rw[show (f==g)=false by simpa using e,if_neg e]
theorem zhc{fs:List Str}:∀{vs:List V} {us:List Value},Vals vs us->∀f,yR ((fs.zip vs).lookup f) ((fs.zip us).lookup f):=by
 induction fs with
 |nil=>intro vs us _ f;exact trivial
 |cons g r ih=>
  intro vs us h f;cases h with
  |nil=>exact trivial
  |cons h t=>
   rw[Dg,Dg,mJ,mJ];by_cases e:f=g
   ·rw[show (f==g)=true by simpa using e];exact h
   ·rw[show (f==g)=false by simpa using e];exact ih t f
theorem zhM{K:Frag}{h:Heap}{C fI:Addr}(XI:K.In h)(q:jL K C fI=true) :
  ∃bm N nm qn bs hdct sn sub ab col dd k0 k1 k2 k3 k5 mN,h.get? C=some (excClassObj nm qn C N bs bm hdct sn sub ab col dd k0 k1 k2 k3 k5 "ValueError.__new__")/\h.Ns N mN/\mN "__init__"=some (.ref fI)/\OwnTail h qu bm:=by
 unfold jL at q;split at q
 ·rename_i dd cd sl lk;split at q
  ·rename_i C' bm k0 k1 k2 k3 nw k5 em es;simp only[cI,jf,Ia] at q;obtain⟨⟨⟨⟨⟨rfl,rfl⟩,mW⟩,tl⟩,BK⟩,Fb⟩:=q;obtain⟨nm,bs,mro,ns,qn,hd,sn,sub,ab,col,del⟩:=cd;dsimp only at em mW BK Fb;subst em mW;have esl:sl=#[k0,k1,k2,k3,some (.builtin "ValueError.__new__"),k5]:=by
    obtain⟨ll⟩:=sl;simp only at es;rw[es]
   subst esl;have hNs:h.Ns ns (h.nsMap ns):=.of_isNs (isNs_of_in XI BK);refine⟨bm,ns,nm,qn,bs,hd,sn,sub,ab,col,dd,k0,k1,k2,k3,k5,_,XI _ _ lk,hNs,?_,tail_of_in XI tl⟩;exact oE XI hNs Fb
  ·cases q
 ·cases q
where
 oE {K:Frag} {h:Heap} {N:Addr} {x:Str} {v:Value} {m:Str->Option Value} (X:K.In h) (G:h.Ns N m) (e:nsIn K N x=some (some v)):m x=some v:=by
  obtain⟨o,es,ep,ho,hd,_,hf⟩:=G;unfold nsIn at e;split at e
  ·rename_i c d es' n' sl q;have:=X _ _ q;rw[ho] at this;cases this;cases hd;rw[<-hf x];split at e
   ·rename_i z;cases e;unfold nsFind findBy;rw[<-Array.find?_toList,z];rfl
   ·split at e<;>cases e
  ·cases e
structure jU(K:Frag)(C:Addr)(ar:Arguments)(bd:List Stmt)(sc:Scope)(fs:List Str):Prop where
 ex:∃(fI:Addr) (od:Option Addr) (kV doc pm:Value) (an:Option Addr) (cdv ct:Value) (osl:Array (Option Value)) (qual:Str) (cd:ClassData),
  K.lookup fI=some ⟨.type "function",od,.func (fnOf "__init__" qual ar bd sc .none kV doc pm an cdv ct),osl⟩/\codeIn K cdv qual=true/\jL K C fI=true/\clsIn K C=some cd/\bf cd.mro=true/\cd.hasDict=true /\
  (∀us:List Value,us.length=fs.length+1->bindArgs (fnOf "__init__" qual ar bd sc .none kV doc pm an cdv ct) ⟨us,[]⟩=pure ((("self" : Str)::fs).zip us))
 set:findIn K (.ref C) "__setattr__"=some (some (.builtin "object.__setattr__"))
 nd:("self"::fs:List Str).Nodup
 ne:fs≠[]
 few:fs.length<=900
 body:iy "self" bd fs=true
 oF:∀x∈sc.names,x.2≠.cell
 loc:∀f∈("self"::fs:List Str),sc.names.lookup f=some .local/\(f==("__debug__" : Str))=false
 fld:∀f∈fs,findIn K (.ref C) f=some none
 co:sc.isCoroutine=false
 gen:sc.isGenerator=false
 kind:sc.kind=.function
section
variable {X:Cx}{EX:XS}{C:Addr}{ar:Arguments}{bd:List Stmt}{sc:Scope}{fs:List Str}{t:TA}{x:Str}{p apos pos:Pos}{e:Expr}{es:List Expr}
noncomputable def vV(EX:XS)(C:Addr)(fs:List Str)(t:TA):TS:=λ_ σ H=>t σ H λvs H1=>vs.length=fs.length/\vs.length<=sizeLine/\∀d,H1 d=none->EX σ (.ref C) (some d) (upd H1 d (.xd (fs.zip vs)))
theorem zgQ{k:Nat}(hr:b_ k X.A)(hc:X.aj=true)(IO:jU X.K C ar bd sc fs)(hg:Gl X x)(hm:X.mg x=some (.ref C))
  (R:Raises X EX) (ha:PA X (e::es) t) (hdb:(x==("__debug__" : Str))=false:=by decide) (he:starEach (e::es) X.env=(false,eval e X.env)::starEach es X.env:=by rfl) (hpl:(backTo apos (starEach es X.env)).any (·.1)=false:=by rfl) :
  PS X (.Raise (some (.Call (.Name x p) (e::es) [] apos)) none pos) (vV EX C fs t):=by
 intro ak s σ H D I h;obtain⟨fI,od,kV,doc,pm,an,cdv,ct,osl,qual,cd,lk,hcd,hX,hcl,hmro,hhd,hbind⟩:=IO.ex;obtain⟨bm,N,nm,qn,bs,hdct,sn,sub,ab,col,dd,k0,k1,k2,k3,k5,mN,hC,hN,hni,T⟩:=zhM I.mod.xr hX;refine zaW (C:=C) (nm:=nm) (q:=qn) (N:=N) (bs:=bs) (bm:=bm) (hdct:=hdct) (sn:=sn) (sub:=sub) (ab:=ab) (col:=col) (dd:=dd) (k0:=k0) (k1:=k1) (k2:=k2) (k3:=k3) (k5:=k5) (bmB:=qu)
  CP (by decide +kernel) CP (mN:=mN) (fI:=fI) (T.hasType CP.hasBase) (I.ok.hd hc) (by rw[he];show (false||(backTo apos (starEach es X.env)).any (·.1))=false;rw[hpl];rfl) hni (oI:=⟨.type "function",od,.func (fnOf "__init__" qual ar bd sc .none kV doc pm an cdv ct),osl⟩) rfl (DG I hg hm ⟨rfl,?_⟩ hdb)
 have h2:=ha apos ak s σ H _ I h;rw[he] at h2 ⊢;refine K3 (aV h2 λus s2 ⟨vs,H2,I2,r,hl,z,q⟩=>⟨rfl,by rw[<-r.length];exact z,I2.bk _ _ hC,hN.keeps I2.bk,T.keeps I2.bk,I2.qy _ _ lk,?_⟩);have BL:us.length=fs.length:=by rw[<-r.length];exact hl
 dsimp only;generalize hS:({s2 with heap:=(s2.heap.push {cls:=.type "tuple",data:=.seq us.toArray}).push {cls:=.ref C,data:=.fields #[.ref s2.heap.objs.size,.none,.none,.none,.bool false,.none]}}:Shared)=s3;have hsz3:s3.heap.objs.size=s2.heap.objs.size+2:=by rw[<-hS];simp[qT]
 have sV:∀b o,s2.heap.get? b=some o->s3.heap.get? b=some o:=λb o q=>by rw[<-hS];exact bZ _ (bZ _ q)
 have he3:s3.heap.get? (s2.heap.objs.size+1)=some {cls:=.ref C,data:=.fields #[.ref s2.heap.objs.size,.none,.none,.none,.bool false,.none]}:=by
  rw[<-hS];have:=gW (s2.heap.push {cls:=.type "tuple",data:=.seq us.toArray}) (o:={cls:=.ref C,data:=.fields #[.ref s2.heap.objs.size,.none,.none,.none,.bool false,.none]}) rfl;rw[qT] at this;exact this
 have Nj:X.K.In s3.heap:=I2.qy.keeps sV;have Nk:s3.heap.NoLimit:=I2.nolimit.keeps sV;have nK:∀b o,X.K.lookup b=some o->b≠s2.heap.objs.size+1:=λb o q=>dh (qj (bM (I2.qy b o q)));have hlen:("self"::fs:List Str).length=(Value.ref (s2.heap.objs.size+1)::us).length:=by simp[BL]
 refine yN (codeAny_call_def (fd:=fnOf "__init__" qual ar bd sc .none kV doc pm an cdv ct) (binds:=(("self" : Str)::fs).zip (Value.ref (s2.heap.objs.size+1)::us)) (by have:=hr.dp;show X.A.depth+(Code.builtin "type.__call__" {pos:=Value.ref C::us}).weight<recursionLimit;have w:(Code.builtin "type.__call__" {pos:=Value.ref C::us}).weight<=1:=(by show (Code.builtin "type.__call__" {pos:=Value.ref C::us}).weight<=1;first|exact cg _|exact n_ _|exact KZ (by kernel_rfl)|(simp[Code.weight,Code.frames,Code.isGuard,Code.isCaller]));lia) (Nj _ _ lk) rfl Nk (codeRec_of Nj hcd) rfl
  (.of_eq (hbind _ (by simp[BL]))) IO.oF (λy hy=>(IO.loc y.1 (Im hy).1).1) (λh₀ hns hk0=>?_) IO.co IO.gen IO.kind)
 obtain⟨f0,fr,rfl⟩ : ∃f0 fr,fs=f0::fr:=by
  cases hfs:fs with
  |nil=>exact absurd hfs IO.ne
  |cons a b=>exact⟨a,b,rfl⟩
 obtain⟨u0,ur,rfl⟩ : ∃u0 ur,us=u0::ur:=by
  cases hus:us with
  |nil=>rw[hus] at BL;cases BL
  |cons a b=>exact⟨a,b,rfl⟩
 have get:∀(i:Nat) g v,("self"::f0::fr:List Str)[i]?=some g->(Value.ref (s2.heap.objs.size+1)::u0::ur)[i]?=some v->((("self" : Str)::f0::fr).zip (Value.ref (s2.heap.objs.size+1)::u0::ur)).reverse.lookup g=some v:=λi g v e1 e2=>zfi IO.nd hlen e1 e2;refine zdS (K:=X.K) (C:=C) (cd:=cd) (sf:="self") (e:=s2.heap.objs.size+1) (m:=λx=>((("self" : Str)::f0::fr).zip (Value.ref (s2.heap.objs.size+1)::u0::ur)).reverse.lookup x) (fs:=fr) (us:=ur) (ox:={cls:=.ref C,data:=.fields #[.ref s2.heap.objs.size,.none,.none,.none,.bool false,.none]})
  IO.kind (get 0 _ _ rfl rfl) (IO.loc _ eZ).1 (IO.loc _ eZ).2 IO.set hcl hmro hhd nK (uG (by show _<s3.heap.objs.size;rw[hsz3];lia)) IO.body (by simpa using BL.symm) (by have:=IO.few;simp at this;lia)
  (λi g v e1 e2=>get (i+1) g v (by simpa using e1) (by simpa using e2)) (λg hg=>⟨(IO.loc g (eN _ hg)).1,(IO.loc g (eN _ hg)).2,IO.fld g hg⟩)
  (Nj.keeps hk0) hns (hk0 _ _ he3) rfl (λc z=>by cases z) rfl λh' tk' d hd a1 a2 a3=>?_
 have hd3:s3.heap.objs.size<=d:=by
  refine n8 ?_ hd;by_cases z:h₀.objs.size<s3.heap.objs.size
  ·exfalso
   have e1:=hns.lt;exact absurd (Nat.lt_trans e1 z) (mL _)
  ·exact Di z
 have lV:∀b o,s2.heap.get? b=some o->h'.get? b=some o:=λb o q=>a3 b o (dh (qj (bM q))) (dh (gH (bM q) (by rw[hsz3] at hd3;lia))) (hk0 _ _ (sV _ _ q));have hne:d≠s2.heap.objs.size+1:=by lia
 have und:H2 d=none:=I2.hok.fresh (by lia);refine⟨rfl,⟨some d,_,a1⟩,lV _ _ (I2.bk _ _ hC),?_⟩;have new:aQ X.prog X.w (upd H2 d (.xd ((f0::fr).zip vs))) h' d (.xd ((f0::fr).zip vs)):=⟨_,a2,λf=>by
  rw[Uh (by rw[Ug BL.symm];exact(qm.mp IO.nd).2)];have:=zhc (fs:=f0::fr) r f
  revert this
  cases ((f0::fr).zip (u0::ur)).lookup f<;>exact id⟩
 have I3:Inv X ak σ (upd H2 d (.xd ((f0::fr).zip vs))) {s3 with heap:=h',toks:=tk'}:=by
  have:=I2.laid (t':=tk') lV (by lia) new;rw[<-hS];exact this
 have une:upd H2 d (.xd ((f0::fr).zip vs)) (s2.heap.objs.size+1)=none:=by
  rw[dH (Ne.symm hne)];exact I2.hok.fresh (Nat.le_succ _)
 refine R ak σ _ _ s2.heap (s2.heap.objs.size+1) C (some d) I3 (λb ob z n=>I2.base.there b ob z n) (λq hq=>⟨q.2,(I2.pin q hq).1⟩) (λb ob z=>⟨ob,lV b ob z⟩) ⟨A_ (Nat.le_succ _),une,_,_,_,a1,rfl,rfl,rfl,rfl,.inl rfl⟩ (q d und)
end
section
variable {prog:Program}{w:World}{A:Around}{E:Value->Shared->Prop}{s:Shared}{K:Frag}{x C:Addr}{ox:Obj}{od:Option Obj}{name:Str}
end
structure XF(K:Frag)(C:Addr)(f:Str):Prop where
 ga:findIn K (.ref C) "__getattribute__"=some (some (.builtin "BaseException.__getattribute__"))
 gn:findIn K (.ref C) "__getattr__"=some none
 mb:mroIn K C (.type "BaseException")=some true
 no:findIn K (.ref C) f=some none
 hd:hasDictIn K C=true
section
variable {X:Cx}{e:Expr}{f:Str}{pos:Pos}{ta:TE}
end
end L2
namespace L2
open PySem PySem.Spec PyProof.Rows
section
variable {X:Cx}{ak:List (Addr×Obj)}{σ:St}{H:Hp}{s:Shared}{h':Heap}
theorem Inv.qC{t':Nat}{ch:List Addr}{a:Addr}{o:HO}(I:Inv X ak σ H s)(k:∀b u,b∉ch->s.heap.get? b=some u->h'.get? b=some u)(hf:∀b∈ch,iM X ak H b)(ha:s.heap.objs.size<=a)(new:aQ X.prog X.w (upd H a o) h' a o) :
  Inv X ak σ (upd H a o) {s with heap:=h',toks:=t'}:=by
 have xH:∀b u,H b=some u->b∉ch:=λb u e z=>by rw[(hf b z).1] at e;cases e
 have hn:H a=none:=I.hok.fresh ha;have na:∀b u,H b=some u->b≠a:=λb u e z=>by rw[z,hn] at e;cases e
 have la:∀b u,s.heap.get? b=some u->b≠a:=λb u e=>dh (gH (bM e) ha);refine I.step (g':=s.gens) (d':=s.drawn) (ch:=ch) (λb hb=>?_) (λb o _ _ hc e _=>k b o hc e) (λb o _ _ hc e _=>⟨o.slots,k b o hc e⟩) (λb o' _ e n=>by rw[dH (la b o' e)];exact n)
  (λb o hc e=>⟨o,k b o hc e⟩) (λb xs e=>by rw[dH (na b _ e)];exact e) (λb o u e=>by rw[dH (na b _ e)];exact e) (λb ps e=>⟨#[],by rw[dH (na b _ e),e];simp⟩) (λm hm=>?_) (λb u e=>?_) I.bare
 ·obtain⟨f0,f1,f2,f3,f4,f5⟩:=hf b hb;exact⟨f3.imp id λz=>A_ z,f1,f4,f5⟩
 ·obtain⟨o,es,ep,ho,r⟩:=hm;exact⟨o,es,ep,k _ o (λz=>(hf _ z).2.1 rfl) ho,r⟩
 ·by_cases z:b=a
  ·subst z;rw[kY] at e;cases e;exact new
  ·rw[dH z] at e;refine(I.hok b u e).stay (λc v hc q=>k c v ?_ q) (λc q=>by rw[dH (na c _ q)];exact q) λc _ q=>by rw[dH (na c _ q)];exact q
   rcases hc with y|y
   ·rw[y];exact xH b u e
   ·exact xH c _ y
theorem Inv.vW{t':Nat}{ch:List Addr}(I:Inv X ak σ H s)(k:∀b u,b∉ch->s.heap.get? b=some u->h'.get? b=some u)(hf:∀b∈ch,iM X ak H b):Inv X ak σ H {s with heap:=h',toks:=t'}:=by
 have xH:∀b u,H b=some u->b∉ch:=λb u e z=>by rw[(hf b z).1] at e;cases e
 refine I.step (g':=s.gens) (d':=s.drawn) (ch:=ch) (λb hb=>?_) (λb o _ _ hc e _=>k b o hc e) (λb o _ _ hc e _=>⟨o.slots,k b o hc e⟩) (λ_ _ _ _ n=>n)
  (λb o hc e=>⟨o,k b o hc e⟩) (λ_ _ e=>e) (λ_ _ _ e=>e) (λb ps e=>⟨#[],by rw[e];simp⟩) (λm hm=>?_) (λb u e=>?_) I.bare
 ·obtain⟨f0,f1,f2,f3,f4,f5⟩:=hf b hb;exact⟨f3.imp id λz=>A_ z,f1,f4,f5⟩
 ·obtain⟨o,es,ep,ho,r⟩:=hm;exact⟨o,es,ep,k _ o (λz=>(hf _ z).2.1 rfl) ho,r⟩
 ·refine(I.hok b u e).stay (λc v hc q=>k c v ?_ q) (λ_ q=>q) λ_ _ q=>q;rcases hc with y|y
  ·rw[y];exact xH b u e
  ·exact xH c _ y
end
section
variable {X:Cx}
end
structure nR(prog:Program)(w:World)(it src:Addr)(st:Nat->Heap->Prop)(its:Array Value):Prop where
 item:∀(A:Around) (E:Value->Shared->Prop) (s:Shared) (i:Nat) (x:Value) (Q:Value->Shared->Prop),st i s.heap->its[i]?=some x->(∀h',st (i+1) h'->Heap.SameBut it s.heap h'->Q x {s with heap:=h'})->wpAny (model prog w) A (Builtin.SmallTypes.nextOf (.ref it)) Q E s
 fin:∀(A:Around) (E:Value->Shared->Prop) (s:Shared) (i:Nat) (Q:Value->Shared->Prop),A.handled=none->st i s.heap->its[i]?=none->(∀h' e,Heap.ExtBut it s.heap h'->(∃o,h'.get? e=some o/\o.cls=.type "StopIteration")->E (.ref e) {s with heap:=h'})->wpAny (model prog w) A (Builtin.SmallTypes.nextOf (.ref it)) Q E s
 keep:∀i h h',st i h->(∀b o,b=it\/b=src->h.get? b=some o->h'.get? b=some o)->st i h'
theorem nR.list(hne:l≠it):nR prog w it l (λi h=>h.IsListIter it l i/\h.IsList l its) its where
 item:=λA E s i x Q ⟨h1,h2⟩ hx q=>wpAny_nextOf_list_item h1 h2 hx λh' a sb=>q h' ⟨a,h2.at λo e=>(sb.2 l hne).trans e⟩ sb
 fin:=λA E s i Q hh ⟨h1,h2⟩ hx q=>wpAny_nextOf_list_end hh h1 h2 hx q
 keep:=λi h h' ⟨h1,h2⟩ k=>⟨h1.at λo e=>k it o (.inl rfl) e,h2.at λo e=>k l o (.inr rfl) e⟩
theorem Ui(l:Addr):¬((Value.ref l==Value.none)=true):=λz=>by cases (show false=true from z)
theorem IsTupleIter.at'{h h':Heap}{it l:Addr}{i:Nat}(x:h.IsTupleIter it l i)(k:∀o,h.get? it=some o->h'.get? it=some o):h'.IsTupleIter it l i:=by
 obtain⟨o,e,r⟩:=x;exact⟨o,k o e,r⟩
theorem IsTuple.at'{h h':Heap}{l:Addr}{xs:Array Value}(x:h.IsTuple l xs)(k:∀o,h.get? l=some o->h'.get? l=some o):h'.IsTuple l xs:=by
 obtain⟨o,e,r⟩:=x;exact⟨o,k o e,r⟩
section
variable {prog:Program}{w:World}{A:Around}{E:Value->Shared->Prop}{s:Shared}{it l:Addr}{i:Nat}{its:Array Value}
theorem ze5{x:Value}{Q:Value->Shared->Prop}(hi:s.heap.IsTupleIter it l i)(hl:s.heap.IsTuple l its)(hx:its[i]?=some x)(q:∀h',h'.IsTupleIter it l (i+1)->Heap.SameBut it s.heap h'->Q x {s with heap:=h'}) :
  wpAny (model prog w) A (Builtin.SmallTypes.nextOf (.ref it)) Q E s:=by
 obtain⟨oi,ei,ci,di⟩:=id hi;obtain⟨ol,el,_,nl,dl⟩:=hl;unfold Builtin.SmallTypes.nextOf;refine au (wN (name:=Str.ofString "__next__") hi.typeIs Hw (qR Hw hi.typeIs F.entry_tuple_iterator_next ?_ (F.args_tuple_iterator_next_1 _)));show wpAny _ A.in1 (field (.ref it) 0 >>= _) _ E s;refine au (kI ei di (x:=.ref l) rfl ?_);show wpAny _ A.in1 (if (Value.ref l==Value.none)=true then _ else _) _ E s;rw[if_neg (Ui l)];show wpAny _ A.in1 (field (.ref it) 1 >>= _) _ E s;refine au (kI ei di (x:=.int i 0) rfl ?_);show wpAny _ A.in1 (seqItems? (.ref l) >>= _) _ E s;refine au (uF el dl ?_);simp only[vf,hx];refine au (wY ei di (by simp) (aJ ⟨x,rfl,aJ (q _ ⟨_,rG _ ei (HF (vd di _)),(Obj.cls_mapFields ..).trans ci,?_⟩ (yI ..))⟩));rw[vd di];simp[rawInt]
theorem zgk{Q:Value->Shared->Prop}(hh:A.handled=none)(hi:s.heap.IsTupleIter it l i)(hl:s.heap.IsTuple l its)(hx:its[i]?=none)(q:∀h' e,Heap.ExtBut it s.heap h'->(∃o,h'.get? e=some o/\o.cls=.type "StopIteration")->E (.ref e) {s with heap:=h'}) :
  wpAny (model prog w) A (Builtin.SmallTypes.nextOf (.ref it)) Q E s:=by
 obtain⟨oi,ei,ci,di⟩:=id hi;obtain⟨ol,el,_,nl,dl⟩:=hl;unfold Builtin.SmallTypes.nextOf;refine au (wN (name:=Str.ofString "__next__") hi.typeIs Hw (qR Hw hi.typeIs F.entry_tuple_iterator_next ?_ (F.args_tuple_iterator_next_1 _)));show wpAny _ A.in1 (field (.ref it) 0 >>= _) _ E s;refine au (kI ei di (x:=.ref l) rfl ?_);show wpAny _ A.in1 (if (Value.ref l==Value.none)=true then _ else _) _ E s;rw[if_neg (Ui l)];show wpAny _ A.in1 (field (.ref it) 1 >>= _) _ E s;refine au (kI ei di (x:=.int i 0) rfl ?_);show wpAny _ A.in1 (seqItems? (.ref l) >>= _) _ E s;refine au (uF el dl ?_);simp only[vf,hx];refine au (Bs (au (wY ei di (by simp) ?_)));show wpAny _ A.in1 (newExc (.type "StopIteration") [] >>= _) _ E _;refine au ?_;simp only[newExc,newTuple];refine au (nO (au (m:=firstArgMember _ _) (Br (a:=Value.none) (by first|rfl|(simp only[firstArgMember];rfl)) (nO ?_ (by size_fits)))) (by size_fits));simp only[raiseNew];refine au (wpAny_handled ?_);rw[show A.in1.handled=none from hh];exact au (aJ (wpAny_throw (q _ _ (((yI ..).extBut.push _).push _) ⟨_,gW _ rfl,rfl⟩)))
end
theorem nR.tuple{prog:Program}{w:World}{it l:Addr}{its:Array Value}(hne:l≠it):nR prog w it l (λi h=>h.IsTupleIter it l i/\h.IsTuple l its) its where
 item:=λA E s i x Q ⟨h1,h2⟩ hx q=>ze5 h1 h2 hx λh' a sb=>q h' ⟨a,IsTuple.at' h2 λo e=>(sb.2 l hne).trans e⟩ sb
 fin:=λA E s i Q hh ⟨h1,h2⟩ hx q=>zgk hh h1 h2 hx q
 keep:=λi h h' ⟨h1,h2⟩ k=>⟨IsTupleIter.at' h1 λo e=>k it o (.inl rfl) e,IsTuple.at' h2 λo e=>k l o (.inr rfl) e⟩
structure lW(z TI TO i1 i2 l1 l2:Addr):Prop where
 zs:z≠TI/\z≠TO/\z≠i1/\z≠i2/\z≠l1/\z≠l2
 os:TO≠TI/\TO≠i1/\TO≠i2/\TO≠l1/\TO≠l2
 is:TI≠i1/\TI≠i2/\i1≠i2/\i1≠l1/\i1≠l2/\i2≠l1/\i2≠l2
section
variable {prog:Program}{w:World}{A:Around}{E:Value->Shared->Prop}{s:Shared}{z TI TO i1 i2 l1 l2:Addr}{st1 st2:Nat->Heap->Prop}{xs ys:Array Value}{k:Nat}{a b:Value}
theorem zhB(N1:nR prog w i1 l1 st1 xs)(N2:nR prog w i2 l2 st2 ys)(D:lW z TI TO i1 i2 l1 l2)(hz:IsZip s.heap z TI TO .none)(hTI:IsPair s.heap TI (.ref i1) (.ref i2))(hTO:IsPair s.heap TO a b)
  (h1:st1 k s.heap) (h2:st2 k s.heap) (hx:xs[k]?=some x) (hy:ys[k]?=some y)
  (q:∀h',IsZip h' z TI TO (rawInt s.heap.objs.size)->IsPair h' TO x y->st1 (k+1) h'->st2 (k+1) h'->IsPair h' s.heap.objs.size x y->h'.objs.size=s.heap.objs.size+1->(∀c o,c≠z->c≠TO->c≠i1->c≠i2->s.heap.get? c=some o->h'.get? c=some o)->Q (some (.ref s.heap.objs.size)) {s with heap:=h'}) :
  wpAny (model prog w) A (pyNext (.ref z)) Q E s:=by
 obtain⟨⟨z1,z2,z3,z4,z5,z6⟩,⟨t1,t2,t3,t4,t5⟩,⟨j1,j2,j3,j4,j5,j6,j7⟩⟩:=D;have hT:s.TypeIs (.ref z) "zip":=⟨_,hz,rfl⟩;unfold pyNext;refine au (Dm (wN (name:=Str.ofString "__next__") hT Io (qR Io hT F.entry_zip_next ?_ (F.args_zip_next_1 _))));show wpAny _ A.in1 (field (.ref z) 2 >>= _) _ _ s;refine au (kI hz rfl (x:=.bool false) rfl ?_);show wpAny _ A.in1 (field (.ref z) 3 >>= _) _ _ s;refine au (kI hz rfl (x:=.ref TI) rfl (au (uF hTI rfl ?_)));show wpAny _ A.in1 (Builtin.SmallTypes.ownedTupleIsFree (.ref z) >>= _) _ _ s;refine au ?_;unfold Builtin.SmallTypes.ownedTupleIsFree;refine au (kI hz rfl (x:=.none) rfl (aJ ?_));simp only[if_true];refine au (Bs (au (kI hz rfl (x:=.ref TO) rfl (au (Bf hz (by simp) λha za sa=>au ?_)))))
 replace za:IsZip ha z TI TO .ellipsis:=za
 simp only[List.zipIdx_cons,List.zipIdx_nil,Dk,Iu];refine au (au (wpAny_onRaise ?_));show wpAny _ A.in1 (Builtin.SmallTypes.nextOf (.ref i1) >>= _) _ _ _;refine au (N1.item _ _ {s with heap:=ha} k x _ (N1.keep _ _ _ h1 λc o hc e=>sa.extBut c o (by rcases hc with rfl|rfl;exact z3.symm;exact z5.symm) e) hx λhb Uj sb=>aJ ?_);have tb:IsPair hb TO a b:=sb.extBut _ _ t2 (sa.extBut _ _ z2.symm hTO);refine au (uF tb rfl (au (K5 tb λhc tc sc=>au (wpAny_letGo (aJ ?_)))))
 replace tc:IsPair hc TO x b:=tc
 refine au (au (wpAny_onRaise ?_));show wpAny _ A.in1 (Builtin.SmallTypes.nextOf (.ref i2) >>= _) _ _ _;have k2:st2 k hc:=N2.keep _ _ _ h2 λc o hc' e=>by
  rcases hc' with rfl|rfl
  ·exact sc.extBut _ _ t3.symm (sb.extBut _ _ j3.symm (sa.extBut _ _ z4.symm e))
  ·exact sc.extBut _ _ t5.symm (sb.extBut _ _ j5.symm (sa.extBut _ _ z6.symm e))
 have k1:st1 (k+1) hc:=N1.keep _ _ _ Uj λc o hc' e=>by
  rcases hc' with rfl|rfl
  ·exact sc.extBut _ _ t2.symm e
  ·exact sc.extBut _ _ t4.symm e
 refine au (N2.item _ _ {s with heap:=hc} k y _ k2 hy λhd sd2 sd=>aJ ?_);have td:IsPair hd TO x b:=sd.extBut _ _ t3 tc;refine au (uF td rfl (au (K5 td λhe te se=>au (wpAny_letGo (aJ (aJ ?_))))))
 replace te:IsPair he TO x y:=te
 refine au (uF te rfl (au (wpAny_newTuple ?_)));have size:he.objs.size=s.heap.objs.size:=by rw[se.1,sd.1,sc.1,sb.1,sa.1]
 have ze:IsZip he z TI TO .ellipsis:=se.extBut _ _ z2 (sd.extBut _ _ z4 (sc.extBut _ _ z2 (sb.extBut _ _ z3 za)));have kept:∀c o,c≠z->c≠TO->c≠i1->c≠i2->s.heap.get? c=some o->he.get? c=some o:=λc o c1 c2 c3 c4 e=>se.extBut _ _ c2 (sd.extBut _ _ c4 (sc.extBut _ _ c2 (sb.extBut _ _ c3 (sa.extBut _ _ c1 e))));have e1:st1 (k+1) he:=N1.keep _ _ _ k1 λc o hc' e=>by
  rcases hc' with rfl|rfl
  ·exact se.extBut _ _ t2.symm (sd.extBut _ _ j3 e)
  ·exact se.extBut _ _ t4.symm (sd.extBut _ _ j6.symm e)
 have e2:st2 (k+1) he:=N2.keep _ _ _ sd2 λc o hc' e=>by
  rcases hc' with rfl|rfl
  ·exact se.extBut _ _ t3.symm e
  ·exact se.extBut _ _ t5.symm e
 show wpAny _ A.in1 (Builtin.SmallTypes.ownedTupleHandOut (.ref z) (.ref he.objs.size) >>= _) _ _ _;refine au ?_;unfold Builtin.SmallTypes.ownedTupleHandOut;have zf:IsZip (he.push {cls:=.type "tuple",data:=.seq #[x,y]}) z TI TO .ellipsis:=bZ _ ze;refine au (Bf zf (by simp) λhg zg sg=>Bf zg (by simp) λhh zh sh=>aJ ⟨_,rfl,aJ ?_⟩)
 replace zh:IsZip hh z TI TO (rawInt he.objs.size):=zh
 have up:∀c o,c≠z->he.get? c=some o->hh.get? c=some o:=λc o c1 e=>sh.extBut _ _ c1 (sg.extBut _ _ c1 (bZ _ e));have lz:z<he.objs.size:=bM ze;have tn:IsPair hh he.objs.size x y:=sh.extBut _ _ (uG lz) (sg.extBut _ _ (uG lz) (gW _ rfl));have sz:hh.objs.size=he.objs.size+1:=by rw[sh.1,sg.1,qT]
 rw[size] at zh tn sz;show Q (some (.ref he.objs.size)) _;rw[size];exact q hh zh (up _ _ z2.symm te) (N1.keep _ _ _ e1 λc o hc' e=>up c o (by rcases hc' with rfl|rfl;exact z3.symm;exact z5.symm) e) (N2.keep _ _ _ e2 λc o hc' e=>up c o (by rcases hc' with rfl|rfl;exact z4.symm;exact z6.symm) e) tn sz λc o c1 c2 c3 c4 e=>up c o c1 (kept c o c1 c2 c3 c4 e)
theorem ziP(hn:A.handled=none)(N1:nR prog w i1 l1 st1 xs)(N2:nR prog w i2 l2 st2 ys)(D:lW z TI TO i1 i2 l1 l2)(hz:IsZip s.heap z TI TO .none)(hTI:IsPair s.heap TI (.ref i1) (.ref i2))(hTO:IsPair s.heap TO a b)
  (h1:st1 k s.heap) (h2:st2 k s.heap) (hx:xs[k]?=none\/ys[k]?=none) (q:∀h',(∀c o,c≠z->c≠TO->c≠i1->c≠i2->s.heap.get? c=some o->h'.get? c=some o)->Q none {s with heap:=h'}):wpAny (model prog w) A (pyNext (.ref z)) Q E s:=by
 obtain⟨⟨z1,z2,z3,z4,z5,z6⟩,⟨t1,t2,t3,t4,t5⟩,⟨j1,j2,j3,j4,j5,j6,j7⟩⟩:=D;have hT:s.TypeIs (.ref z) "zip":=⟨_,hz,rfl⟩;have stop:∀(h':Heap) (e:Addr),(∀c o,c≠z->c≠TO->c≠i1->c≠i2->s.heap.get? c=some o->h'.get? c=some o)->(∃o,h'.get? e=some o/\o.cls=.type "StopIteration")->
   wpAny (model prog w) A (do if <-isInstance (.ref e) (.type "StopIteration") then pure none else throw (.ref e):Sem (Option Value)) Q E {s with heap:=h'}:=λh' e kp ⟨o,ho,hc⟩=>
  au (wpAny_isInstance (T:="StopIteration") (b:=true) ⟨o,ho,hc⟩ isSubtype_stop (aJ (q h' kp)))
 unfold pyNext;refine au (Dm (wN (name:=Str.ofString "__next__") hT Io (qR Io hT F.entry_zip_next ?_ (F.args_zip_next_1 _))));show wpAny _ A.in1 (field (.ref z) 2 >>= _) _ _ s;refine au (kI hz rfl (x:=.bool false) rfl ?_);show wpAny _ A.in1 (field (.ref z) 3 >>= _) _ _ s;refine au (kI hz rfl (x:=.ref TI) rfl (au (uF hTI rfl ?_)));show wpAny _ A.in1 (Builtin.SmallTypes.ownedTupleIsFree (.ref z) >>= _) _ _ s;refine au ?_;unfold Builtin.SmallTypes.ownedTupleIsFree;refine au (kI hz rfl (x:=.none) rfl (aJ ?_));simp only[if_true];refine au (Bs (au (kI hz rfl (x:=.ref TO) rfl (au (Bf hz (by simp) λha za sa=>au ?_)))))
 replace za:IsZip ha z TI TO .ellipsis:=za
 simp only[List.zipIdx_cons,List.zipIdx_nil,Dk,Iu];refine au (au (wpAny_onRaise ?_));show wpAny _ A.in1 (Builtin.SmallTypes.nextOf (.ref i1) >>= _) _ _ _;have ka:st1 k ha:=N1.keep _ _ _ h1 λc o hc e=>sa.extBut c o (by rcases hc with rfl|rfl;exact z3.symm;exact z5.symm) e;cases ex:xs[k]? with
 |none=>
  refine au (N1.fin _ _ {s with heap:=ha} k _ hn ka ex λhb e sb se=>?_);obtain⟨oe,ho,hc⟩:=se;have zb:IsZip hb z TI TO .ellipsis:=sb _ _ z3 za;have ne:e≠z:=λy=>by subst y;rw[zb] at ho;cases ho;simp at hc
  exact Bf zb (by simp) λhd _ sd=>stop hd e (λc o c1 _ c3 _ y=>sd.extBut _ _ c1 (sb _ _ c3 (sa.extBut _ _ c1 y))) ⟨oe,sd.extBut _ _ ne ho,hc⟩
 |some x=>
  have ey:ys[k]?=none:=by
   rcases hx with y|y
   ·rw[ex] at y;cases y
   ·exact y
  refine au (N1.item _ _ {s with heap:=ha} k x _ ka ex λhb Uj sb=>aJ ?_);have tb:IsPair hb TO a b:=sb.extBut _ _ t2 (sa.extBut _ _ z2.symm hTO);refine au (uF tb rfl (au (K5 tb λhc tc sc=>au (wpAny_letGo (aJ ?_)))));refine au (au (wpAny_onRaise ?_));show wpAny _ A.in1 (Builtin.SmallTypes.nextOf (.ref i2) >>= _) _ _ _;have k2:st2 k hc:=N2.keep _ _ _ h2 λc o hc' e=>by
   rcases hc' with rfl|rfl
   ·exact sc.extBut _ _ t3.symm (sb.extBut _ _ j3.symm (sa.extBut _ _ z4.symm e))
   ·exact sc.extBut _ _ t5.symm (sb.extBut _ _ j5.symm (sa.extBut _ _ z6.symm e))
  refine au (N2.fin _ _ {s with heap:=hc} k _ hn k2 ey λhd e sd se=>?_);obtain⟨oe,ho,hcl⟩:=se;have zd:IsZip hd z TI TO .ellipsis:=sd _ _ z4 (sc.extBut _ _ z2 (sb.extBut _ _ z3 za));have ne:e≠z:=λy=>by subst y;rw[zd] at ho;cases ho;simp at hcl
  exact Bf zd (by simp) λhf _ sf=>stop hf e (λc o c1 c2 c3 c4 y=>sf.extBut _ _ c1 (sd _ _ c4 (sc.extBut _ _ c2 (sb.extBut _ _ c3 (sa.extBut _ _ c1 y))))) ⟨oe,sf.extBut _ _ ne ho,hcl⟩
end
noncomputable def Ck:Bool->Heap->Addr->Array Value->Prop
 |true,h,l,xs=>h.IsList l xs
 |false,h,l,xs=>h.IsTuple l xs
noncomputable def Rk:Bool->Addr->Addr->Nat->Heap->Prop
 |true,it,l,i,h=>h.IsListIter it l i
 |false,it,l,i,h=>h.IsTupleIter it l i
noncomputable def Sk:Bool->PySem.W.Frag->Hp->Addr->List V->Prop
 |true,K,H,l,xs=>dj K H l xs
 |false,K,H,l,xs=>fL K H l xs
noncomputable def iR:Bool->Addr->Obj
 |true,l=>{cls:=.type "list_iterator",data:=.fields #[.ref l,.int 0 0]}
 |false,l=>{cls:=.type "tuple_iterator",data:=.fields #[.ref l,.int 0 0]}
theorem nR.of(kd:Bool)(hne:l≠it):nR prog w it l (λi h=>Rk kd it l i h/\Ck kd h l its) its:=by
 cases kd
 ·exact nR.tuple hne
 ·exact nR.list hne
theorem Ck.keep(x:Ck kd h l xs)(k:∀o,h.get? l=some o->h'.get? l=some o):Ck kd h' l xs:=by
 cases kd
 ·exact IsTuple.at' x k
 ·exact Heap.IsList.at x k
theorem Rk.keep(x:Rk kd it l i h)(k:∀o,h.get? it=some o->h'.get? it=some o):Rk kd it l i h':=by
 cases kd
 ·exact IsTupleIter.at' x k
 ·exact Heap.IsListIter.at x k
theorem Rk.obj(x:Rk kd it l i h):∃o,h.get? it=some o/\∀v,o.data≠.cell v:=by
 cases kd
 ·obtain⟨o,e,c,d⟩:=x;exact⟨o,e,λv z=>by rw[d] at z;cases z⟩
 ·obtain⟨o,e,c,d⟩:=x;exact⟨o,e,λv z=>by rw[d] at z;cases z⟩
theorem Ck.lt(x:Ck kd h l xs):l<h.objs.size:=by
 cases kd
 ·obtain⟨o,e,_⟩:=x;exact bM e
 ·obtain⟨o,e,_⟩:=x;exact bM e
section
variable {prog:Program}{w:World}{A:Around}{E:Value->Shared->Prop}{s:Shared}
theorem Uk(c:Ck kd s.heap l xs)(q:Q (.ref s.heap.objs.size) {s with heap:=s.heap.push (iR kd l)}):wpAny (model prog w) A (pyIter (.ref l)) Q E s:=by
 cases kd
 ·exact wpAny_pyIter_tuple c q
 ·exact wpAny_pyIter_list c q
end
noncomputable def zH(h:Heap)(k1 k2:Bool)(l1 l2:Addr):Heap:=((((h.push (iR k1 l1)).push (iR k2 l2)).push {cls:=.type "tuple",data:=.seq #[.ref h.objs.size,.ref (h.push (iR k1 l1)).objs.size]}).push {cls:=.type "tuple",data:=.seq #[.none,.none]}).push
 {cls:=.type "zip",data:=.fields #[.none,.bool false,.bool false,.ref ((h.push (iR k1 l1)).push (iR k2 l2)).objs.size,.ref (((h.push (iR k1 l1)).push (iR k2 l2)).push {cls:=.type "tuple",data:=.seq #[.ref h.objs.size,.ref (h.push (iR k1 l1)).objs.size]}).objs.size]}
theorem zhz(k1 k2:Bool)(l1 l2:Addr)(xs ys:Array Value):Meets (Builtin.«zip.__new__» ⟨[.type "zip",.ref l1,.ref l2],[]⟩) (λ_ R s=>Ck k1 s.heap l1 xs/\Ck k2 s.heap l2 ys /\
   R (.ok (.ret (.ref ((((s.heap.push (iR k1 l1)).push (iR k2 l2)).push {cls:=.type "tuple",data:=.seq #[.ref s.heap.objs.size,.ref (s.heap.push (iR k1 l1)).objs.size]}).push {cls:=.type "tuple",data:=.seq #[.none,.none]}).objs.size))) {s with heap:=zH s.heap k1 k2 l1 l2}):=
 .of_wp λprog w A R s h=>by
  obtain⟨hp,g,d,tk,os⟩:=s;obtain⟨c1,c2,h⟩:=h;have hsub:=sub_zip;have C1:Ck k1 (Shared.heap ⟨hp,g,d,tk,os⟩) l1 xs:=c1;have C2:Ck k2 (Shared.heap ⟨hp.push (iR k1 l1),g,d,tk,os⟩) l2 ys:=c2.keep λo e=>bZ _ e
  wp_walk using Uk C1,Uk C2
  exact⟨_,rfl,h⟩
section
variable {prog:Program}{w:World}{A:Around}{E:Value->Shared->Prop}{s:Shared}
theorem zi2(c1:Ck k1 s.heap l1 xs)(c2:Ck k2 s.heap l2 ys)
  (h:∀h',IsZip h' (s.heap.objs.size+4) (s.heap.objs.size+2) (s.heap.objs.size+3) .none->IsPair h' (s.heap.objs.size+2) (.ref s.heap.objs.size) (.ref (s.heap.objs.size+1))->IsPair h' (s.heap.objs.size+3) .none .none->
   Rk k1 s.heap.objs.size l1 0 h'->Rk k2 (s.heap.objs.size+1) l2 0 h'->(∀c o,s.heap.get? c=some o->h'.get? c=some o)->Q (.ref (s.heap.objs.size+4)) {s with heap:=h'}) :
  wpAny (model prog w) A (call (.type "zip") [.ref l1,.ref l2]) Q E s:=by
 refine callType_new F.called_zip (by decide) (F.typeCall_zip_2 _ _) (F.newCall_zip_2 _ _) (λobj=>F.args_object_init_3 obj _ _) F.entry_zip_new (zhz k1 k2 l1 l2 xs ys) ⟨c1,c2,?_⟩;have n1:(s.heap.push (iR k1 l1)).objs.size=s.heap.objs.size+1:=qT ..;have n2:((s.heap.push (iR k1 l1)).push (iR k2 l2)).objs.size=s.heap.objs.size+2:=by rw[qT,n1]
 have fr:∀kd l,(iR kd l).isFreed=false:=λkd l=>by cases kd<;>rfl
 have rk:∀{h:Heap} {a:Addr} {kd:Bool} {l:Addr},h.get? a=some (iR kd l)->Rk kd a l 0 h:=λ{h a kd l} e=>by
  cases kd
  ·exact⟨_,e,rfl,rfl⟩
  ·exact⟨_,e,rfl,rfl⟩
 have o1:(s.heap.push (iR k1 l1)).get? s.heap.objs.size=some (iR k1 l1):=gW _ (fr _ _);have o2:((s.heap.push (iR k1 l1)).push (iR k2 l2)).get? (s.heap.objs.size+1)=some (iR k2 l2):=by
  have:=gW (s.heap.push (iR k1 l1)) (o:=iR k2 l2) (fr _ _);rw[n1] at this;exact this
 generalize hA:(s.heap.push (iR k1 l1)).push (iR k2 l2)=hA' at *;have eH:zH s.heap k1 k2 l1 l2=((hA'.push {cls:=.type "tuple",data:=.seq #[.ref s.heap.objs.size,.ref (s.heap.objs.size+1)]}).push {cls:=.type "tuple",data:=.seq #[.none,.none]}).push {cls:=.type "zip",data:=.fields #[.none,.bool false,.bool false,.ref (s.heap.objs.size+2),.ref (s.heap.objs.size+3)]}:=by
  unfold zH;rw[hA,n1,n2,qT,n2]
 have n3:(hA'.push {cls:=.type "tuple",data:=.seq #[.ref s.heap.objs.size,.ref (s.heap.objs.size+1)]}).objs.size=s.heap.objs.size+3:=by rw[qT,n2]
 have n4:((hA'.push {cls:=.type "tuple",data:=.seq #[.ref s.heap.objs.size,.ref (s.heap.objs.size+1)]}).push {cls:=.type "tuple",data:=.seq #[.none,.none]}).objs.size=s.heap.objs.size+4:=by rw[qT,n3]
 rw[n1,n4];have g5:(zH s.heap k1 k2 l1 l2).get? (s.heap.objs.size+4)=some {cls:=.type "zip",data:=.fields #[.none,.bool false,.bool false,.ref (s.heap.objs.size+2),.ref (s.heap.objs.size+3)]}:=by
  rw[eH,<-n4];exact gW _ rfl
 have g4:(zH s.heap k1 k2 l1 l2).get? (s.heap.objs.size+3)=some {cls:=.type "tuple",data:=.seq #[.none,.none]}:=by
  rw[eH,<-n3];exact bZ _ (gW _ rfl)
 have g3:(zH s.heap k1 k2 l1 l2).get? (s.heap.objs.size+2)=some {cls:=.type "tuple",data:=.seq #[.ref s.heap.objs.size,.ref (s.heap.objs.size+1)]}:=by
  rw[eH,<-n2];exact bZ _ (bZ _ (gW _ rfl))
 have up:∀c o,hA'.get? c=some o->(zH s.heap k1 k2 l1 l2).get? c=some o:=λc o e=>by rw[eH];exact bZ _ (bZ _ (bZ _ e))
 refine⟨⟨_,g5,rfl⟩,h _ g5 g3 g4 (rk (up _ _ ?_)) (rk (up _ _ o2)) λc o e=>up _ _ ?_⟩
 ·rw[<-hA];exact bZ _ o1
 ·rw[<-hA];exact bZ _ (bZ _ e)
end
noncomputable def Nm(K:PySem.W.Frag)(k1 k2:Bool)(l1 l2:Addr):It:=
 ⟨λi H=>∃xs ys x y,Sk k1 K H l1 xs/\Sk k2 K H l2 ys/\xs[i]?=some x/\ys[i]?=some y,
  λi H v H'=>∃a x y,H a=none/\v=.ref a/\H'=upd H a (.tup [x,y])/\(∀xs,Sk k1 K H l1 xs->xs[i]?=some x)/\∀ys,Sk k2 K H l2 ys->ys[i]?=some y,
  λi H=>∃xs ys,Sk k1 K H l1 xs/\Sk k2 K H l2 ys/\(xs.length<=i\/ys.length<=i)⟩
section
variable {X:Cx}{ak:List (Addr×Obj)}{σ:St}{H:Hp}{s:Shared}{kd:Bool}{l:Addr}{xs ys:List V}
theorem Inv.row(I:Inv X ak σ H s)(h:Sk kd X.K H l xs):∃its:List Value,Vals xs its/\Ck kd s.heap l its.toArray:=by
 cases kd
 ·obtain⟨its,rv,p,hz⟩:=I.tuple h;exact⟨its,rv,p⟩
 ·obtain⟨its,rv,p,hz⟩:=I.list h;exact⟨its,rv,p.isList⟩
theorem Inv.pO(I:Inv X ak σ H s)(h:Sk kd X.K H l xs)(h':Sk kd X.K H l ys):xs=ys:=by
 cases kd
 ·exact I.lA h h'
 ·exact I.mR h h'
end
theorem zhf{P:Program}{w:World}{K:PySem.W.Frag}{elts:List Expr}{kk:Nat}{pos:Pos}{k1 k2:Bool}{l1 l2 z TI TO i1 i2:Addr}(D:lW z TI TO i1 i2 l1 l2) :
  Turn P w K (.Tuple elts kk pos) (Nm K k1 k2 l1 l2) [z,TI,TO,i1,i2] z (λi h=>IsZip h z TI TO .none/\IsPair h TI (.ref i1) (.ref i2)/\(∃a b,IsPair h TO a b)/\Rk k1 i1 l1 i h/\Rk k2 i2 l2 i h) where
 mem:=by simp
 obj:=λi h ⟨a1,a2,⟨p,q,a3⟩,a4,a5⟩ b hb=>by
  have:b=z\/b=TI\/b=TO\/b=i1\/b=i2:=by simpa using hb
  rcases this with rfl|rfl|rfl|rfl|rfl
  ·exact⟨_,a1,λv y=>by cases y⟩
  ·exact⟨_,a2,λv y=>by cases y⟩
  ·exact⟨_,a3,λv y=>by cases y⟩
  ·exact a4.obj
  ·exact a5.obj
 keep:=λi h h' ⟨a1,a2,⟨p,q,a3⟩,a4,a5⟩ k=>⟨k z (by simp) _ a1,k TI (by simp) _ a2,⟨p,q,k TO (by simp) _ a3⟩,a4.keep λo e=>k i1 (by simp) o e,a5.keep λo e=>k i2 (by simp) o e⟩
 item:=by
  intro X hP hw hK hc i ak s σ H E I hf ⟨a1,a2,⟨p,q,a3⟩,a4,a5⟩ hg;subst hP hw hK;obtain⟨xs,ys,x,y,hq1,hq2,hx,hy⟩:=hg;obtain⟨Ul,Jj,c1⟩:=I.row hq1;obtain⟨Fl,Jk,c2⟩:=I.row hq2;obtain⟨u,hu,ru⟩:=Jj.get hx;obtain⟨v,hv,rv⟩:=Jk.get hy;have D':=D;obtain⟨⟨z1,z2,z3,z4,z5,z6⟩,⟨t1,t2,t3,t4,t5⟩,⟨j1,j2,j3,j4,j5,j6,j7⟩⟩:=D';refine zhB (nR.of k1 j4.symm) (nR.of k2 j7.symm) D a1 a2 a3 ⟨a4,c1⟩ ⟨a5,c2⟩ (x:=u) (y:=v) (by simpa using hu) (by simpa using hv) λh1 b1 b2 b3 b4 b5 b6 kp=>?_;refine⟨_,rfl,wpAny_letOwnedTupleGo_zip (s:={s with heap:=h1}) b1 λh2 e2 sb=>?_⟩;have hT2:IsPair h2 s.heap.objs.size u v:=(sb.2 _ (uG (bM a1))).trans b5;have kk:∀b o,b∉[z,TI,TO,i1,i2]->s.heap.get? b=some o->h2.get? b=some o:=λb o hb e=>(sb.2 b λy=>hb (by simp[y])).trans (kp b o (λy=>hb (by simp[y])) (λy=>hb (by simp[y])) (λy=>hb (by simp[y])) (λy=>hb (by simp[y])) e);have I2:=I.qC (t':=s.toks) (a:=s.heap.objs.size) (o:=.tup [x,y]) kk (λb hb=>hf b hb) (cg _) (show aQ X.prog X.w _ h2 _ (.tup [x,y]) from ⟨by show 2<=sizeLine;decide,[u,v],.cons ru (.cons rv .nil),⟨_,hT2,rfl,_,rfl⟩⟩);have hn:H s.heap.objs.size=none:=I.hok.fresh (cg _);refine⟨.ref s.heap.objs.size,_,I2,rfl,⟨_,x,y,hn,rfl,rfl,λzs hz=>by rw[I.pO hz hq1];exact hx,λzs hz=>by rw[I.pO hz hq2];exact hy⟩,⟨e2,(sb.2 _ z1.symm).trans (kp _ _ z1.symm t1.symm j1 j2 a2),⟨_,_,(sb.2 _ z2.symm).trans b2⟩,b3.1.keep λo e=>(sb.2 _ z3.symm).trans e,b4.1.keep λo e=>(sb.2 _ z4.symm).trans e⟩,λb hb=>?_⟩;have nb:b≠s.heap.objs.size:=by
   have:b=z\/b=TI\/b=TO\/b=i1\/b=i2:=by simpa using hb
   rcases this with rfl|rfl|rfl|rfl|rfl
   ·exact dh (bM a1)
   ·exact dh (bM a2)
   ·exact dh (bM a3)
   ·obtain⟨o,e,_⟩:=a4.obj;exact dh (bM e)
   ·obtain⟨o,e,_⟩:=a5.obj;exact dh (bM e)
  rw[dH nb];exact(hf b hb).1
 done:=by
  intro X hP hw hK hc i ak s σ H E I hf ⟨a1,a2,⟨p,q,a3⟩,a4,a5⟩ hg;subst hP hw hK;obtain⟨xs,ys,hq1,hq2,hx⟩:=hg;obtain⟨Ul,Jj,c1⟩:=I.row hq1;obtain⟨Fl,Jk,c2⟩:=I.row hq2;have n1:=Jj.length;have n2:=Jk.length;refine ziP (I.ok.hd hc) (nR.of k1 D.is.2.2.2.1.symm) (nR.of k2 D.is.2.2.2.2.2.2.symm) D a1 a2 a3 ⟨a4,c1⟩ ⟨a5,c2⟩ ?_ λh' kp=>⟨rfl,I.vW (t':=s.toks) (ch:=[z,TI,TO,i1,i2]) (λb o hb e=>kp b o (λy=>hb (by simp[y])) (λy=>hb (by simp[y])) (λy=>hb (by simp[y])) (λy=>hb (by simp[y])) e) λb hb=>hf b hb⟩;rcases hx with y|y
  ·exact .inl (by simp;lia)
  ·exact .inr (by simp;lia)
 self:=λ_ _ _ _ _ ⟨a1,_⟩ h=>wpAny_pyIter_zip a1 h
section
variable {X:Cx}
noncomputable def Np(K:PySem.W.Frag)(ta:TA):TI:=λσ H R=>ta σ H λvs H1=>∃k1 k2 l1 l2 xs ys,vs=[.ref l1,.ref l2]/\Sk k1 K H1 l1 xs/\Sk k2 K H1 l2 ys/\R (Nm K k1 k2 l1 l2) H1
theorem zic:bootBuiltins "zip"=some (.type "zip"):=by decide +kernel
theorem zmo{a b:Expr}{ta:TA}{p pos tpos:Pos}{elts:List Expr}{kk:Nat}(hg:Gl X "zip")(hm:X.mg "zip"=none)(ha:PA X [a,b] ta)(hs:starEach [a,b] X.env=[(false,eval a X.env),(false,eval b X.env)]:=by rfl)(hs2:starEach [b] X.env=[(false,eval b X.env)]:=by rfl) :
  PI X (.Tuple elts kk tpos) (.Call (.Name "zip" p) [a,b] [] pos) (Np X.K ta):=by
 intro ak s σ H R I h;refine Call_ (xJ I hg hm zic (CJ (aV (ha pos ak s σ H _ I h) λus s1 ⟨vs,H1,I1,r1,q1⟩=>?_) (by rw[hs,hs2]) (by rw[hs2];rfl)));obtain⟨k1,k2,l1,l2,xs,ys,e,hq1,hq2,q⟩:=q1;subst e;cases r1 with
 |cons r rr=>
  cases rr with
  |cons r' rr=>
   cases rr;cases r;cases r';obtain⟨Ul,Jj,c1⟩:=I1.row hq1;obtain⟨Fl,Jk,c2⟩:=I1.row hq2;have m1:=c1.lt;have m2:=c2.lt;refine zi2 c1 c2 λh' b1 b2 b3 b4 b5 kp=>?_;refine wpAny_pyIter_zip b1 ?_;have ne:∀{u v:Nat},u<v->u≠v:=λh=>dh h;have D:lW (s1.heap.objs.size+4) (s1.heap.objs.size+2) (s1.heap.objs.size+3) s1.heap.objs.size (s1.heap.objs.size+1) l1 l2:=
    ⟨⟨(ne (by lia)).symm,(ne (by lia)).symm,(ne (by lia)).symm,(ne (by lia)).symm,(ne (gH m1 (by lia))).symm,(ne (gH m2 (by lia))).symm⟩,
     ⟨(ne (by lia)).symm,(ne (by lia)).symm,(ne (by lia)).symm,(ne (gH m1 (by lia))).symm,(ne (gH m2 (by lia))).symm⟩,
     ⟨(ne (by lia)).symm,(ne (by lia)).symm,ne (by lia),(ne m1).symm,(ne m2).symm,(ne (gH m1 (by lia))).symm,(ne (gH m2 (by lia))).symm⟩⟩
   refine⟨s1.heap.objs.size+4,[s1.heap.objs.size+4,s1.heap.objs.size+2,s1.heap.objs.size+3,s1.heap.objs.size,s1.heap.objs.size+1],_,_,H1,rfl,I1.kept (t':=s1.toks) kp,zhf D,⟨b1,b2,⟨_,_,b3⟩,b4,b5⟩,λb hb=>?_,q⟩;have:s1.heap.objs.size<=b:=by
    have:b=s1.heap.objs.size+4\/b=s1.heap.objs.size+2\/b=s1.heap.objs.size+3\/b=s1.heap.objs.size\/b=s1.heap.objs.size+1:=by simpa using hb
    rcases this with rfl|rfl|rfl|rfl|rfl<;>lia
   exact I1.vD this (I1.hok.fresh this)
end
end L2
set_option genSizeOf false
set_option genInjectivity false
namespace Mi
open PySem
inductive D where
 |non|bl (b:Bool)|int (i:Int)|str (s:Str)|tup (xs:List D)|fl (xs:List D)|fd (ks vs:List D)|exc (c:Nat) (fs:List D)|ob (c:Nat) (fs:List D)
inductive Xv where
 |d (x:D)|l (n:Nat)
inductive SO where
 |lst (xs:List D)
 |dct (ks vs:List D)
noncomputable abbrev S:=List SO
inductive Rs (α:Type) where
 |ok (a:α)|er (c:Nat) (fs:List D)
noncomputable abbrev M(α:Type):=S->Option (Rs α×S)
noncomputable def M.ret{α:Type}(a:α):M α:=λs=>some (.ok a,s)
noncomputable def M.bd{α β:Type}(m:M α)(k:α->M β):M β:=λs=>match m s with
 |some (.ok a,s')=>k a s'
 |some (.er c f,s')=>some (.er c f,s')
 |none=>none
noncomputable def M.qt{α:Type}(m:M α):M α:=λs=>match m s with
 |some (.ok a,s')=>some (.ok a,s')
 |_=>none
noncomputable def M.no{α:Type}:M α:=λ_=>none
noncomputable def M.opt{α:Type}:Option α->M α
 |some a=>M.ret a
 |none=>M.no
inductive Rz where
 |dat (d:D)|nw (xs:List D)
inductive Pr where
 |add|sub|mul|fdiv|mod|pow|neg
 |eq|ne|lt|le|gt|ge|inn|nin
 |Fp|noN
 |len|abs|max2|min2|Fq|Ft|vX|divmod|all|sum|list|tuple|sorted|dY|zF|str1
 |ix|rev|Um|Fv
 |count|index|repr
inductive Kd where
 |int|bool|str|tuple|list|dict|cls (c:Nat)|oG
mutual
inductive E where
 |c (d:D)
 |v (i:Nat)
 |pr (fz:Bool) (p:Pr) (xs:Es)
 |qz (p q:Pr) (a b c:E)
 |sW (p q r:Pr) (a b c d:E)
 |and (a b:E)
 |or (a b:E)
 |not (a:E)
 |ite (c a b:E)
 |tup (xs:Es)
 |lst (fz:Bool) (xs:Es)
 |sX (k:Str) (i:Int)
 |call (f:Nat) (xs:Es)
 |gw (a:E) (k:Kd)
 |sl (fz:Bool) (a:E) (lo hi:Eo)
 |meth (fz:Bool) (p:Pr) (k:Kd) (o:E) (xs:Es)
 |push (o a:E)
 |pop (o:E)
 |comp (fz:Bool) (elt:E) (tg:List Nat) (it:Wk) (fr:List Nat) (many:Nat) (cond:Eo)
 |Fw (fz:Bool) (elt:E) (tg:List Nat) (it:Wk) (Uo:List Nat) (Fl:Wk) (fr:List Nat) (many:Nat) (cond:Eo)
 |fld (o:E) (cs:List Nat) (i:Nat)
 |mk (c:Nat) (xs:Es)
 |Fx (fz:Bool) (a:E) (b:E)
 |zG (a b:E)
 |ins (o i a:E)
 |no
inductive Wk where
 |seq (e:E)
 |rg (a b:E)
 |zip (a b:E)
 |enum (a:E)
 |rrg (a:E)
inductive Es where
 |nil
 |cons (a:E) (r:Es)
inductive Eo where
 |no
 |yes (a:E)
end
noncomputable abbrev Ea(a:E):Es:=.cons a .nil
noncomputable abbrev Eb(a b:E):Es:=.cons a (.cons b .nil)
noncomputable abbrev Ec(a b c:E):Es:=.cons a (.cons b (.cons c .nil))
noncomputable abbrev Ei(a b:E):E:=.pr true .ix (.cons a (.cons b .nil))
noncomputable abbrev Ci(i:Int):E:=.c (.int i)
noncomputable def Es.len:Es->Nat
 |.nil=>0
 |.cons _ r=>r.len+1
inductive Tg where
 |nm (i:Nat)
 |tp (is:List Nat)
 |sub (o i:E)
mutual
inductive St where
 |pass
 |ex (e:E)
 |asg (t:Tg) (e:E)
 |par (i j:Nat) (a b:E)
 |aug (i:Nat) (e:E)
 |ret (e:E)
 |rise (c:Nat) (kp:Bool) (xs:Es)
 |iff (c:E) (t e:cD)
 |wh (c:E) (b:cD)
 |fr (t:Tg) (w:Wk) (b:cD)
 |qD (b:cD) (d:Nat) (i:Nat) (h:cD)
 |no
inductive cD where
 |nil
 |cons (a:St) (r:cD)
end
noncomputable def dZ(eq:D->D->Option Bool):List D->List D->Option Bool
 |[],[]=>some true
 |[],_::_=>some false
 |_::_,[]=>some false
 |x::xs,y::ys=>match eq x y,dZ eq xs ys with
  |some a,some b=>some (a&&b)
  |_,_=>none
noncomputable def kq:D->Option Nat
 |.non=>some 0
 |.bl _=>some 1
 |.int _=>some 1
 |.str _=>some 2
 |.tup _=>some 3
 |.fl _=>some 4
 |_=>none
noncomputable def cO:Nat->D->D->Option Bool
 |n+1,.tup xs,.tup ys=>dZ (cO n) xs ys
 |n+1,.fl xs,.fl ys=>dZ (cO n) xs ys
 |_,.non,.non=>some true
 |_,.bl a,.bl b=>some (a==b)
 |_,.int a,.int b=>some (a==b)
 |_,.str a,.str b=>some (a==b)
 |_,.bl a,.int b=>some ((if a then 1 else 0)==b)
 |_,.int a,.bl b=>some (a==(if b then 1 else 0))
 |_,a,b=>match kq a,kq b with
  |some i,some j=>if i=j then none else some false
  |_,_=>none
noncomputable def iU:List D->Option (List Int)
 |[]=>some []
 |.int i::r=>(iU r).map (i::·)
 |_=>none
noncomputable def ltI:List Int->List Int->Bool
 |_,[]=>false
 |[],_::_=>true
 |x::xs,y::ys=>if x=y then ltI xs ys else decide (x<y)
noncomputable def gC:List D->Option (List Bool)
 |[]=>some []
 |.bl b::r=>(gC r).map (b::·)
 |_=>none
noncomputable def cut{α:Type}(xs:List α)(lo hi:Option Int):List α:=(xs.drop (HT.bN xs.length 0 lo)).take (HT.bN xs.length xs.length hi-HT.bN xs.length 0 lo)
noncomputable def mY:D->Option (List D)
 |.tup xs=>some xs
 |.fl xs=>some xs
 |_=>none
noncomputable def cutD(x:D)(lo hi:Option Int):Option Rz:=match x with
 |.tup xs=>some (.dat (.tup (cut xs lo hi)))
 |.fl xs=>some (.nw (cut xs lo hi))
 |_=>none
noncomputable def memD(d:D):List D->Option Bool
 |[]=>some false
 |x::r=>match cO 50 x d,memD d r with
  |some a,some b=>some (a||b)
  |_,_=>none
noncomputable def oH:Kd->D->Bool
 |.list,.fl _=>true
 |.str,.str _=>true
 |.dict,.fd _ _=>true
 |_,_=>false
noncomputable def dz(f:Int->Int->Option D):List D->Option Rz
 |[.int i,.int j]=>(f i j).map .dat
 |_=>none
noncomputable def pP(f:Int->D):List D->Option Rz
 |[.int i]=>some (.dat (f i))
 |_=>none
noncomputable def qF(f:List D->Option Rz):List D->Option Rz
 |[a]=>(mY a).bind f
 |_=>none
noncomputable def zJ:List D->Option Rz
 |[.int i,.int j]=>some (.dat (.int (i+j)))
 |[.tup xs,.tup ys]=>if xs.length+ys.length<=sizeLine then some (.dat (.tup (xs++ys))) else none
 |[.fl xs,.fl ys]=>if xs.length+ys.length<=sizeLine then some (.nw (xs++ys)) else none
 |[.str x,.str y]=>if x.length+y.length<=sizeLine then some (.dat (.str (x++y))) else none
 |_=>none
noncomputable def Fy:List D->Option Rz
 |[.int i,.int j]=>some (.dat (.bl (decide (i<j))))
 |[.tup xs,.tup ys]=>match iU xs,iU ys with
  |some a,some b=>some (.dat (.bl (ltI a b)))
  |_,_=>none
 |_=>none
noncomputable def xO(f:Bool->Bool):List D->Option Rz
 |[a,b]=>(cO 50 a b).map λk=>.dat (.bl (f k))
 |_=>none
noncomputable def zK(f:Bool->Bool):List D->Option Rz
 |[a,b]=>((mY b).bind (memD a)).map λk=>.dat (.bl (f k))
 |_=>none
noncomputable def D.Fz:D->Bool
 |.non=>true
 |_=>false
noncomputable def FJ(f:Bool->Bool):List D->Option Rz
 |[a]=>some (.dat (.bl (f a.Fz)))
 |_=>none
noncomputable def FN:List D->Option Rz
 |[.int i]=>some (.dat (.int i))
 |[.bl k]=>some (.dat (.int (if k then 1 else 0)))
 |_=>none
noncomputable def zL:List D->Option Rz
 |[.fl xs]=>(gC xs).map λbs=>.dat (.bl (bs.all id))
 |_=>none
noncomputable def fP:List D->Option (List Int)
 |[]=>some []
 |.int i::r=>(fP r).map (i::·)
 |_=>none
noncomputable def best(bt:Int->Int->Bool)(i:Int)(is:List Int):Int:=is.foldl (λm j=>if bt j m then j else m) i
noncomputable def FP(bt:Int->Int->Bool):Option (List Int)->Option Rz
 |some (i::is)=>some (.dat (.int (best bt i is)))
 |_=>none
noncomputable def xP(bt:Int->Int->Bool):List D->Option Rz
 |[a]=>(mY a).bind λxs=>FP bt (fP xs)
 |_=>none
noncomputable def okR(i j:Int):Bool:=decide (-(2^62)<=i/\i<2^62/\-(2^62)<=j/\j<2^62/\(j-i).toNat<=65536)
noncomputable def Uq(i:Int)(n:Nat):List D:=(List.range n).map λk=>.int (i+(k:Nat))
noncomputable def Nq:List D->Option Rz
 |[.int j]=>if okR 0 j then some (.nw (Uq 0 (j-0).toNat)) else none
 |[.int i,.int j]=>if okR i j then some (.nw (Uq i (j-i).toNat)) else none
 |_=>none
noncomputable def oJ:List D->Option Rz
 |[a]=>(mY a).map λxs=>.dat (.tup xs)
 |_=>none
noncomputable def Nr:List D->Option Rz
 |[a,.int i]=>((mY a).bind λxs=>L2.pI xs i).map .dat
 |_=>none
noncomputable def mZ:List D->List D->Option Bool
 |[],ys=>some (decide (0<ys.length))
 |_::_,[]=>some false
 |.int x::xs,.int y::ys=>if x=y then mZ xs ys else some (decide (x<y))
 |_::_,_::_=>none
noncomputable def xQ(xs:List D)(i j:Nat):Option Bool:=match xs[i]?,xs[j]? with
 |some (.int x),some (.int y)=>some (decide (x<y))
 |some (.tup us),some (.tup ws)=>mZ us ws
 |_,_=>none
noncomputable def lX:D->Bool
 |.int _=>true
 |_=>false
noncomputable def iV:D->Bool
 |.tup (.int _::_)=>true
 |_=>false
noncomputable def pQ(lt:Nat->Nat->Option Bool)(xs:List D):Option (List D):=if xs.length<2 then some xs else if xs.length<64 then (match L2.bD lt (PySem.W.kas_sort xs.length) with
  |some p=>if p.size=xs.length then some (p.toList.map λi=>xs.getD i .non) else none
  |none=>none) else none
noncomputable def BP(xs:List D):Option (List D):=if xs.all lX||xs.all iV then pQ (xQ xs) xs else none
noncomputable def lY:List D->Option Rz
 |[.fl xs]=>(BP xs).map .nw
 |_=>none
noncomputable def ltK(ks:List Int)(i j:Nat):Option Bool:=match ks[i]?,ks[j]? with
 |some x,some y=>some (decide (x<y))
 |_,_=>none
noncomputable def zM:List D->Option Rz
 |[.tup xs]=>some (.dat (.tup xs.reverse))
 |_=>none
noncomputable def oK:List D->Option Rz
 |[.fl xs,.bl b]=>(gC xs).map λbs=>.dat (.int (bs.count b))
 |_=>none
noncomputable def oM:List D->Option Rz
 |[.fl xs,.bl b]=>((gC xs).bind λbs=>bs.idxOf? b).map λ(i:Nat)=>.dat (.int i)
 |_=>none
noncomputable def zN:List D->Option Rz
 |[.int i]=>if i.natAbs<2^62 then some (.dat (.str (Str.ofString (toString i)))) else none
 |_=>none
noncomputable def Nt(f:D->Option PyData):List D->Option (List PyData)
 |[]=>some []
 |x::r=>match f x,Nt f r with
  |some a,some b=>some (a::b)
  |_,_=>none
noncomputable def pd:Nat->D->Option PyData
 |n+1,.tup xs=>(Nt (pd n) xs).map .tuple
 |n+1,.fl xs=>(Nt (pd n) xs).map .list
 |_,.non=>some .none
 |_,.bl b=>some (.bool b)
 |_,.int i=>some (.int i)
 |_,.str x=>some (.str x)
 |_,_=>none
noncomputable def pdT:D->Option PyData
 |.fd [.str k] [.int i]=>some (.dict [(.str k,.int i)])
 |x=>pd 40 x
noncomputable def shw(d:PyData):Option Rz:=if d.showable=true/\d.shown.length<=sizeLine then some (.dat (.str d.shown)) else none
noncomputable def FQ:List D->Option Rz
 |[x]=>(pdT x).bind shw
 |_=>none
noncomputable def iz:List (Int×Int):=[(0,1),(0,2),(0,3),(0,4),(0,5),(0,6),(0,7),(1,2),(1,3),(1,4),(1,5),(1,6),(1,7),(2,3),(2,4),(2,5),(2,6),(2,7),(3,4),(3,5),(3,6),(3,7),(4,5),(4,6),(4,7),(5,6),(5,7),(6,7)]
noncomputable def ss(ts:List (Int×Int)):List (Int×Int):=iz.filter λt=>ts.contains t
noncomputable def vY:D->Option (Int×Int)
 |.tup [.int a,.int b]=>if 0<=a/\a<b/\b<8 then some (a,b) else none
 |_=>none
noncomputable def jV:List D->Option (List (Int×Int))
 |[]=>some []
 |x::r=>match vY x,jV r with
  |some a,some b=>some (a::b)
  |_,_=>none
noncomputable def Nu:List D->Option Rz
 |[.tup xs]=>(jV xs).map λts=>.nw ((ss ts).map λp=>.tup [.int p.1,.int p.2])
 |_=>none
noncomputable def Nv:List D->Option Rz
 |[.fl xs]=>(fP xs).map λis=>.dat (.int (is.foldl (·+·) 0))
 |_=>none
noncomputable def lZ:List Int->List Int
 |[]=>[]
 |x::r=>if r.contains x then lZ r else x::lZ r
noncomputable def FT:List D->Option Rz
 |[.tup xs]=>(fP xs).map λis=>.dat (.int (lZ is).length)
 |_=>none
noncomputable def rep{α:Type}(xs:List α)(n:Nat):List α:=(List.replicate n xs).flatten
noncomputable def FW:List D->Option Rz
 |[.fl xs,.int n]=>if 0<=n/\n<=1000/\xs.length<=1000 then some (.nw (rep xs n.toNat)) else none
 |_=>none
noncomputable def zO:D->Option Bool
 |.non=>some false
 |.bl b=>some b
 |.int i=>some (i != 0)
 |.tup xs=>some (!xs.isEmpty)
 |.fl xs=>some (!xs.isEmpty)
 |_=>none
noncomputable def FZ(xs:List D)(i:Int)(d:D):List D:=let j:=(if i<0 then (if i+xs.length<0 then 0 else i+xs.length) else (if i>xs.length then (xs.length:Int) else i)).toNat;xs.take j++d::xs.drop j
noncomputable def prim:Pr->List D->Option Rz
 |.add=>zJ
 |.sub=>dz λi j=>some (.int (i-j))
 |.mul=>dz λi j=>if (-(2^64)<i/\i<2^64)\/(-(2^64)<j/\j<2^64) then some (.int (i*j)) else none
 |.fdiv=>dz λi j=>if 0<j/\j<1073741824 then some (.int (i/j)) else none
 |.mod=>dz λi j=>if 0<j then some (.int (i%j)) else none
 |.pow=>dz λi j=>if 0<=j/\j<=1000000/\i.natAbs<2^64 then some (.int (i^j.toNat)) else none
 |.neg=>pP λi=>.int (-i)
 |.eq=>xO id
 |.ne=>xO not
 |.lt=>Fy
 |.le=>dz λi j=>some (.bl (decide (i<=j)))
 |.gt=>dz λi j=>some (.bl (decide (j<i)))
 |.ge=>dz λi j=>some (.bl (decide (j<=i)))
 |.inn=>zK id
 |.nin=>zK not
 |.Fp=>FJ id
 |.noN=>FJ not
 |.len=>qF λxs=>some (.dat (.int xs.length))
 |.abs=>pP λi=>.int (if i<0 then -i else i)
 |.max2=>dz λi j=>some (.int (if j>i then j else i))
 |.min2=>dz λi j=>some (.int (if j<i then j else i))
 |.vX=>FN
 |.divmod=>dz λi j=>if 0<j/\j<1073741824 then some (.tup [.int (i/j),.int (i%j)]) else none
 |.all=>zL
 |.Um=>Nq
 |.Fq=>xP λa b=>decide (a>b)
 |.Ft=>xP λa b=>decide (a<b)
 |.list=>qF λxs=>some (.nw xs)
 |.tuple=>oJ
 |.ix=>Nr
 |.rev=>zM
 |.sorted=>lY
 |.dY=>Nu
 |.Fv=>FW
 |.sum=>Nv
 |.zF=>FT
 |.count=>oK
 |.index=>oM
 |.repr=>FQ
 |.str1=>zN
noncomputable def lB(sub:Nat->Nat->Bool):D->Kd->Option Bool
 |.exc c _,.cls e=>some (sub c e)
 |.exc _ _,.oG=>some true
 |.exc _ _,_=>none
 |.ob _ _,_=>none
 |_,.cls _=>none
 |_,.oG=>none
 |.bl _,.bool=>some true
 |.bl _,.int=>some true
 |.bl _,_=>some false
 |.int _,.int=>some true
 |.int _,_=>some false
 |.non,_=>some false
 |.str _,.str=>some true
 |.str _,_=>some false
 |.tup _,.tuple=>some true
 |.tup _,_=>some false
 |.fl _,.list=>some true
 |.fl _,_=>some false
 |.fd _ _,.dict=>some true
 |.fd _ _,_=>some false
noncomputable def rd(x:Xv):M D:=λs=>match x with
 |.d v=>some (.ok v,s)
 |.l n=>match s[n]? with
  |some (.lst xs)=>some (.ok (.fl xs),s)
  |_=>none
noncomputable def eU:List Xv->M (List D)
 |[]=>M.ret []
 |x::r=>M.bd (rd x) λd=>M.bd (eU r) λds=>M.ret (d::ds)
noncomputable def dat(x:Xv):M D:=match x with
 |.d v=>M.ret v
 |.l _=>M.no
noncomputable def dF:List Xv->M (List D)
 |[]=>M.ret []
 |x::r=>M.bd (dat x) λd=>M.bd (dF r) λds=>M.ret (d::ds)
noncomputable def bool(x:Xv):M Bool:=match x with
 |.d (.bl b)=>M.ret b
 |_=>M.no
noncomputable def int(x:Xv):M Int:=match x with
 |.d (.int b)=>M.ret b
 |_=>M.no
noncomputable def newL(fz:Bool)(xs:List D):M Xv:=match fz with
 |true=>M.ret (.d (.fl xs))
 |false=>λs=>some (.ok (.l s.length),s++[.lst xs])
noncomputable def bK(fz:Bool)(o:Option Rz):M Xv:=match o with
 |some (.dat d)=>M.ret (.d d)
 |some (.nw xs)=>newL fz xs
 |none=>M.no
noncomputable def cJ(x:Xv):M (Nat×List D):=λs=>match x with
 |.l n=>match s[n]? with
  |some (.lst xs)=>some (.ok (n,xs),s)
  |_=>none
 |_=>none
noncomputable def putL(n:Nat)(xs:List D):M Unit:=λs=>some (.ok (),s.set n (.lst xs))
noncomputable def enumFrom:Nat->List D->List D
 |_,[]=>[]
 |i,x::r=>.tup [.int i,x]::enumFrom (i+1) r
inductive Src where
 |fix (xs:List D)|live (n:Nat)|xR (n:Nat)
noncomputable def Src.at(c:Src)(i:Nat)(s:S):Option (Option D):=match c with
 |.fix xs=>some xs[i]?
 |.live n=>match s[n]? with
  |some (.lst xs)=>some xs[i]?
  |_=>none
 |.xR n=>match s[n]? with
  |some (.lst xs)=>some (xs[i]?.map λx=>.tup [.int i,x])
  |_=>none
noncomputable def sY(x:Xv):M (Src×Nat):=λs=>match x with
 |.d (.fl xs)=>some (.ok (.fix (enumFrom 0 xs),(enumFrom 0 xs).length),s)
 |.l n=>match s[n]? with
  |some (.lst xs)=>some (.ok (.xR n,xs.length),s)
  |_=>none
 |_=>none
noncomputable def src(x:Xv):M (Src×Nat):=λs=>match x with
 |.d (.tup xs)=>some (.ok (.fix xs,xs.length),s)
 |.d (.fl xs)=>some (.ok (.fix xs,xs.length),s)
 |.l n=>match s[n]? with
  |some (.lst xs)=>some (.ok (.live n,xs.length),s)
  |_=>none
 |_=>none
noncomputable def oN(x:Xv):M (List D):=match x with
 |.d (.tup xs)=>M.ret xs
 |.d (.fl xs)=>M.ret xs
 |_=>M.no
noncomputable def jh(a b:Int):List D:=(List.range (b-a).toNat).map λ(i:Nat)=>.int (a+i)
noncomputable def fQ(a:Int):Bool:=decide (-(2^62)<a)&&decide (a<2^62)
noncomputable def walk(c:Src)(f:D->List D->M (List D)):Nat->Nat->List D->M (List D)
 |0,_,_=>M.no
 |k+1,i,acc=>λs=>match c.at i s with
  |none=>none
  |some none=>some (.ok acc,s)
  |some (some x)=>M.bd (f x acc) (λacc'=>walk c f k (i+1) acc') s
noncomputable def xT(f:D->M Xv):List D->M (List Int)
 |[]=>M.ret []
 |x::r=>M.bd (M.qt (f x)) λy=>M.bd (int y) λk=>M.bd (xT f r) λks=>M.ret (k::ks)
noncomputable abbrev Vs:=List (Option Xv)
noncomputable abbrev Fn:=Nat->List Xv->M Xv
noncomputable def locs:List Xv->List Nat
 |[]=>[]
 |.d _::r=>locs r
 |.l n::r=>n::locs r
noncomputable def dJ:Nat->List Xv->List Xv
 |_,[]=>[]
 |k,.d v::r=>.d v::dJ k r
 |k,.l _::r=>.l k::dJ (k+1) r
noncomputable def iW(s:S):List Nat->Option S
 |[]=>some []
 |n::r=>match s[n]?,iW s r with
  |some o,some q=>some (o::q)
  |_,_=>none
noncomputable def cW(s:S):List Nat->S->S
 |n::r,o::q=>cW (s.set n o) r q
 |_,_=>s
noncomputable def cH(F:List Xv->M Xv)(xs:List Xv):M Xv:=λs=>
 if (locs xs).Nodup then match iW s (locs xs) with
  |none=>none
  |some s0=>match F (dJ 0 xs) s0 with
   |none=>none
   |some (.er c fs,s1)=>some (.er c fs,cW s (locs xs) s1)
   |some (.ok (.d v),s1)=>some (.ok (.d v),cW s (locs xs) s1)
   |some (.ok (.l n),s1)=>match (locs xs)[n]? with
    |some m=>some (.ok (.l m),cW s (locs xs) s1)
    |none=>match s1[n]? with
     |some o=>some (.ok (.l s.length),cW s (locs xs) s1++[o])
     |none=>none
 else none
noncomputable def gJ{α:Type}:List Nat->List α->List (Option α)->Option (List (Option α))
 |[],[],τ=>some τ
 |i::is,d::ds,τ=>gJ is ds (τ.set i (some d))
 |_,_,_=>none
noncomputable def lC:D->Option (List D)
 |.tup xs=>some xs
 |_=>none
noncomputable def jW(tg:List Nat)(x:D)(τ:Vs):Option Vs:=match tg with
 |[i]=>some (τ.set i (some (.d x)))
 |is=>(lC x).bind λds=>gJ is (ds.map .d) τ
noncomputable def blk(many:Nat)(fr:List Nat)(τ:Vs):Vs:=List.replicate many none++fr.map λj=>τ[j]?.join
section
variable (sub:Nat->Nat->Bool)(aj:Bool)(F:Fn)
mutual
noncomputable def ev:E->Vs->M Xv
 |.c d,_=>M.ret (.d d)
 |.v i,τ=>M.opt (τ[i]?.join)
 |.pr fz p xs,τ=>M.bd (evs xs τ) λvs=>M.bd (eU vs) λds=>bK fz (prim p ds)
 |.qz p q a b c,τ=>M.bd (ev a τ) λx=>M.bd (ev b τ) λy=>M.bd (eU [x,y]) λds=>M.bd (bK true (prim p ds)) λt=>M.bd (bool t) λk=>
   if k=true then M.bd (ev c τ) λz=>M.bd (eU [y,z]) λds=>bK true (prim q ds) else M.ret (.d (.bl false))
 |.sW p q r a b c d,τ=>M.bd (ev a τ) λx=>M.bd (ev b τ) λy=>M.bd (eU [x,y]) λds=>M.bd (bK true (prim p ds)) λt=>M.bd (bool t) λk=>
   if k=true then M.bd (ev c τ) λz=>M.bd (eU [y,z]) λds=>M.bd (bK true (prim q ds)) λt=>M.bd (bool t) λk2=>
    if k2=true then M.bd (ev d τ) λw=>M.bd (eU [z,w]) λds=>bK true (prim r ds) else M.ret (.d (.bl false))
   else M.ret (.d (.bl false))
 |.and a b,τ=>M.bd (ev a τ) λx=>M.bd (bool x) λk=>if k=true then ev b τ else M.ret (.d (.bl false))
 |.or a b,τ=>M.bd (ev a τ) λx=>M.bd (bool x) λk=>if k=true then M.ret (.d (.bl true)) else ev b τ
 |.not a,τ=>M.bd (ev a τ) λx=>M.bd (bool x) λk=>M.ret (.d (.bl (!k)))
 |.ite c a b,τ=>M.bd (ev c τ) λx=>M.bd (bool x) λk=>if k=true then ev a τ else ev b τ
 |.tup xs,τ=>M.bd (evs xs τ) λvs=>M.bd (dF vs) λds=>M.ret (.d (.tup ds))
 |.lst fz xs,τ=>M.bd (evs xs τ) λvs=>M.bd (dF vs) λds=>newL fz ds
 |.sX k i,_=>M.ret (.d (.fd [.str k] [.int i]))
 |.call f xs,τ=>M.bd (evs xs τ) λvs=>cH (F f) vs
 |.gw a k,τ=>M.bd (ev a τ) λx=>M.bd (rd x) λd=>M.bd (M.opt (lB sub d k)) λb=>M.ret (.d (.bl b))
 |.sl fz a lo hi,τ=>M.bd (ev a τ) λx=>M.bd (vZ lo τ) λl=>M.bd (vZ hi τ) λh=>M.bd (rd x) λd=>bK fz (cutD d l h)
 |.meth fz p k o xs,τ=>M.bd (ev o τ) λx=>M.bd (rd x) λd=>if oH k d=true then M.bd (evs xs τ) λys=>M.bd (eU (x::ys)) λds=>bK fz (prim p ds) else M.no
 |.push o a,τ=>M.bd (ev o τ) λx=>M.bd (cJ x) λ_=>M.bd (ev a τ) λy=>M.bd (dat y) λd=>M.bd (cJ x) λnx=>if nx.2.length<sizeLine then M.bd (putL nx.1 (nx.2++[d])) λ_=>M.ret (.d .non) else M.no
 |.pop o,τ=>M.bd (ev o τ) λx=>M.bd (cJ x) λnx=>match nx.2.getLast? with
   |some d=>M.bd (putL nx.1 nx.2.dropLast) λ_=>M.ret (.d d)
   |none=>M.no
 |.comp fz elt tg it fr many cond,τ=>if aj=true then M.bd (nU it τ) λcn=>
   M.bd (walk cn.1 (λd acc=>M.bd (M.opt (jW tg d (blk many fr τ))) λτ'=>M.bd (M.qt (qY cond τ')) λok=>
    if ok=true then M.bd (M.qt (ev elt τ')) λy=>M.bd (dat y) λe=>if acc.length<sizeLine then M.ret (acc++[e]) else M.no else M.ret acc) (cn.2+1) 0 []) λxs=>newL fz xs
  else M.no
 |.Fw fz elt tg it Uo Fl fr many cond,τ=>if aj=true then M.bd (nU it τ) λcn=>
   M.bd (walk cn.1 (λd acc=>M.bd (M.opt (jW tg d (blk many fr τ))) λτ'=>M.bd (M.qt (nU Fl τ')) λUr=>
    walk Ur.1 (λd2 acc=>M.bd (M.opt (jW Uo d2 τ')) λτ''=>M.bd (M.qt (qY cond τ'')) λok=>
     if ok=true then M.bd (M.qt (ev elt τ'')) λy=>M.bd (dat y) λe=>if acc.length<sizeLine then M.ret (acc++[e]) else M.no else M.ret acc) (Ur.2+1) 0 acc) (cn.2+1) 0 []) λxs=>newL fz xs
  else M.no
 |.fld o cs i,τ=>M.bd (ev o τ) λx=>match x with
   |.d (.exc c fs)=>if cs.contains c=true then M.opt (fs[i]?.map .d) else M.no
   |_=>M.no
 |.mk c xs,τ=>M.bd (evs xs τ) λvs=>M.bd (dF vs) λds=>M.ret (.d (.ob c ds))
 |.Fx fz a b,τ=>if aj=true then M.bd (ev a τ) λx=>match x with
   |.d (.fl xs)=>M.bd (xT (λd=>ev b [some (.d d)]) xs) λks=>M.bd (M.opt (pQ (ltK ks) xs)) λys=>newL fz ys
   |_=>M.no else M.no
 |.zG a b,τ=>M.bd (ev a τ) λx=>M.bd (rd x) λd=>M.bd (M.opt (zO d)) λk=>if k=true then M.ret x else ev b τ
 |.ins o i a,τ=>M.bd (ev o τ) λx=>M.bd (cJ x) λ_=>M.bd (ev i τ) λz=>M.bd (int z) λj=>M.bd (ev a τ) λy=>M.bd (dat y) λd=>M.bd (cJ x) λnx=>if nx.2.length<sizeLine then M.bd (putL nx.1 (FZ nx.2 j d)) λ_=>M.ret (.d .non) else M.no
 |.no,_=>M.no
noncomputable def nU:Wk->Vs->M (Src×Nat)
 |.seq e,τ=>M.bd (ev e τ) src
 |.rg a b,τ=>M.bd (ev a τ) λx=>M.bd (ev b τ) λy=>M.bd (int x) λi=>M.bd (int y) λj=>if fQ i&&fQ j then M.ret (.fix (jh i j),(jh i j).length) else M.no
 |.zip a b,τ=>M.bd (ev a τ) λx=>M.bd (ev b τ) λy=>M.bd (oN x) λxs=>M.bd (oN y) λys=>M.ret (.fix (List.zipWith (λp q=>.tup [p,q]) xs ys),(List.zipWith (λ(p q:D)=>D.tup [p,q]) xs ys).length)
 |.enum a,τ=>M.bd (ev a τ) sY
 |.rrg a,τ=>M.bd (ev a τ) λx=>M.bd (int x) λi=>if fQ i then M.ret (.fix (jh 0 i).reverse,(jh 0 i).length) else M.no
noncomputable def vZ:Eo->Vs->M (Option Int)
 |.no,_=>M.ret none
 |.yes a,τ=>M.bd (ev a τ) λx=>M.bd (int x) λi=>M.ret (some i)
noncomputable def qY:Eo->Vs->M Bool
 |.no,_=>M.ret true
 |.yes a,τ=>M.bd (ev a τ) bool
noncomputable def evs:Es->Vs->M (List Xv)
 |.nil,_=>M.ret []
 |.cons a r,τ=>M.bd (ev a τ) λx=>M.bd (evs r τ) λxs=>M.ret (x::xs)
end
end
inductive Out where
 |nx (τ:Vs)|rt (x:Xv)|bk (τ:Vs)|ct (τ:Vs)|er (c:Nat) (fs:List D) (τ:Vs)
noncomputable abbrev MS:=S->Option (Out×S)
noncomputable def ofM{α:Type}(m:M α)(τ:Vs)(k:α->MS):MS:=λs=>match m s with
 |some (.ok a,s')=>k a s'
 |some (.er c fs,s')=>some (.er c fs τ,s')
 |none=>none
noncomputable def cL(m:MS)(k:Vs->MS):MS:=λs=>match m s with
 |some (.nx τ,s')=>k τ s'
 |r=>r
section
variable (sub:Nat->Nat->Bool)
noncomputable def store(aj:Bool)(F:Fn)(t:Tg)(x:Xv)(τ:Vs):MS:=match t with
 |.nm i=>λs=>some (.nx (τ.set i (some x)),s)
 |.tp is=>if aj=true then ofM (M.bd (dat x) λd=>M.opt ((lC d).bind λds=>gJ is (ds.map .d) τ)) τ (λτ' s=>some (.nx τ',s)) else λ_=>none
 |.sub o i=>ofM (M.bd (dat x) λd=>M.bd (ev sub aj F o τ) λy=>M.bd (ev sub aj F i τ) λz=>M.bd (int z) λj=>M.bd (cJ y) λnx=>
   match L2.qW nx.2.length j with
   |some q=>putL nx.1 (nx.2.set q d)
   |none=>M.no) τ (λ_ s=>some (.nx τ,s))
noncomputable def gK(c:Vs->M Bool)(b:Vs->MS):Nat->Vs->MS
 |0,_=>λ_=>none
 |k+1,τ=>ofM (c τ) τ λok=>if ok=true then λs=>match b τ s with
   |some (.nx τ',s')=>gK c b k τ' s'
   |some (.ct τ',s')=>gK c b k τ' s'
   |some (.bk τ',s')=>some (.nx τ',s')
   |r=>r
  else λs=>some (.nx τ,s)
noncomputable def dO(c:Src)(b:D->Vs->MS):Nat->Nat->Vs->MS
 |0,_,_=>λ_=>none
 |k+1,i,τ=>λs=>match c.at i s with
  |none=>none
  |some none=>some (.nx τ,s)
  |some (some d)=>match b d τ s with
   |some (.nx τ',s')=>dO c b k (i+1) τ' s'
   |some (.ct τ',s')=>dO c b k (i+1) τ' s'
   |some (.bk τ',s')=>some (.nx τ',s')
   |r=>r
noncomputable def goes(i:Nat):Out->Out
 |.nx τ=>.nx (τ.set i none)
 |.bk τ=>.bk (τ.set i none)
 |.ct τ=>.ct (τ.set i none)
 |r=>r
noncomputable def m5:Nat:=1000000000000
mutual
noncomputable def ex(aj:Bool)(F:Bool->Fn):St->Vs->MS
 |.pass,τ=>λs=>some (.nx τ,s)
 |.ex e,τ=>ofM (ev sub aj (F aj) e τ) τ λ_ s=>some (.nx τ,s)
 |.asg t e,τ=>ofM (ev sub aj (F aj) e τ) τ λx=>store sub aj (F aj) t x τ
 |.par i j a b,τ=>if aj=true then ofM (M.bd (ev sub aj (F aj) a τ) λx=>M.bd (ev sub aj (F aj) b τ) λy=>M.ret (x,y)) τ λxy s=>some (.nx ((τ.set i (some xy.1)).set j (some xy.2)),s) else λ_=>none
 |.aug i e,τ=>ofM (M.bd (M.opt (τ[i]?.join)) λx=>M.bd (ev sub aj (F aj) e τ) λy=>M.bd (int x) λp=>M.bd (int y) λq=>M.ret (p+q)) τ λr s=>some (.nx (τ.set i (some (.d (.int r)))),s)
 |.ret e,τ=>ofM (ev sub aj (F aj) e τ) τ λx s=>some (.rt x,s)
 |.rise c kp xs,τ=>if aj=true then ofM (M.bd (evs sub aj (F aj) xs τ) dF) τ λds s=>some (.er c (if kp=true then ds else []) τ,s) else λ_=>none
 |.iff c t e,τ=>ofM (M.bd (ev sub aj (F aj) c τ) bool) τ λb=>if b=true then exs aj F t τ else exs aj F e τ
 |.wh c b,τ=>gK (λτ=>M.bd (ev sub aj (F aj) c τ) bool) (λτ=>exs aj F b τ) m5 τ
 |.fr t w b,τ=>if aj=true then ofM (nU sub aj (F aj) w τ) τ λcn=>dO cn.1 (λd τ=>cL (store sub aj (F aj) t (.d d) τ) λτ'=>exs aj F b τ') (cn.2+1) 0 τ else λ_=>none
 |.qD b d i h,τ=>if aj=true then λs=>match exs aj F b τ s with
   |some (.er c fs τ',s')=>if sub c d=true then (match exs false F h (τ'.set i (some (.d (.exc c fs)))) s' with
    |some (r,s'')=>(match r with
     |.er _ _ _=>none
     |r=>some (goes i r,s''))
    |none=>none) else none
   |r=>r
  else λ_=>none
 |.no,_=>λ_=>none
noncomputable def exs(aj:Bool)(F:Bool->Fn):cD->Vs->MS
 |.nil,τ=>λs=>some (.nx τ,s)
 |.cons a r,τ=>cL (ex aj F a τ) λτ'=>exs aj F r τ'
end
structure Df where
 many:Nat
 iY:Nat
 body:cD
noncomputable def call(T:Nat->Option Df):Nat->Bool->Fn
 |0,_,_,_=>M.no
 |k+1,aj,f,xs=>match T f with
  |none=>M.no
  |some d=>if xs.length=d.iY then λs=>match exs sub aj (λc=>call T k c) d.body (xs.map some++List.replicate (d.many-d.iY) none) s with
    |some (.nx _,s')=>some (.ok (.d .non),s')
    |some (.rt v,s')=>some (.ok v,s')
    |some (.er c fs _,s')=>some (.er c fs,s')
    |_=>none
   else M.no
end
end Mi
namespace Mi
open PySem L2
structure Ph where
 z:Addr->Prop
 l:List Addr
structure Cl where
 a:Nat->Addr
 f:Nat->List Str
section
variable (K:PySem.W.Frag)(cA:Cl)
def KT(a:Addr)(vs:List V):Prop:=fL K (λ_=>none) a vs
def KL(a:Addr)(vs:List V):Prop:=dj K (λ_=>none) a vs
def TupAt(φ:Ph)(H:Hp)(a:Addr)(vs:List V):Prop:=(Rd H a (.tup vs)/\¬φ.z a)\/KT K a vs
def LstAt(φ:Ph)(H:Hp)(a:Addr)(vs:List V):Prop:=(Rd H a (.lst vs)/\¬φ.z a)\/KL K a vs
def ExcAt(φ:Ph)(H:Hp)(a:Addr)(c:Nat)(vs:List V):Prop:=¬φ.z a/\((cA.f c=[]/\vs=[]/\H a=some (jR a (cA.a c) none))\/∃dx,H a=some (jR a (cA.a c) (some dx))/\¬φ.z dx/\H dx=some (.xd ((cA.f c).zip vs))/\(cA.f c).length=vs.length)
def oO(φ:Ph)(H:Hp)(a:Addr)(c:Nat)(vs:List V):Prop:=¬φ.z a/\∃dx,H a=some (.ins (cA.a c) dx ((cA.f c).zip vs))/\(cA.f c).length=vs.length
mutual
inductive Rep (φ:Ph) (H:Hp):D->V->Prop where
 |non:Rep φ H .non .non
 |bl (b:Bool):Rep φ H (.bl b) (.bl b)
 |int (i:Int):Rep φ H (.int i) (.int i)
 |str (x:Str):Rep φ H (.str x) (.str x)
 |tup {a:Addr} {xs:List D} {vs:List V} (h:TupAt K φ H a vs) (r:aC φ H xs vs):Rep φ H (.tup xs) (.ref a)
 |fl {a:Addr} {xs:List D} {vs:List V} (h:LstAt K φ H a vs) (r:aC φ H xs vs):Rep φ H (.fl xs) (.ref a)
 |fd {a:Addr} {k:Str} {i:Int} (h:H a=some (.dK [(.inr k,.int i)])) (n:¬φ.z a):Rep φ H (.fd [.str k] [.int i]) (.ref a)
 |exc {a:Addr} {c:Nat} {xs:List D} {vs:List V} (h:ExcAt cA φ H a c vs) (r:aC φ H xs vs):Rep φ H (.exc c xs) (.ref a)
 |ob {a:Addr} {c:Nat} {xs:List D} {vs:List V} (h:oO cA φ H a c vs) (r:aC φ H xs vs):Rep φ H (.ob c xs) (.ref a)
inductive aC (φ:Ph) (H:Hp):List D->List V->Prop where
 |nil:aC φ H [] []
 |cons {d:D} {v:V} {ds:List D} {vs:List V} (h:Rep φ H d v) (r:aC φ H ds vs):aC φ H (d::ds) (v::vs)
end
inductive bB (φ:Ph) (H:Hp):Xv->V->Prop where
 |d {x:D} {v:V} (h:Rep K cA φ H x v):bB φ H (.d x) v
 |l {n:Nat} {a:Addr} (h:φ.l[n]?=some a):bB φ H (.l n) (.ref a)
inductive bT (φ:Ph) (H:Hp):List Xv->List V->Prop where
 |nil:bT φ H [] []
 |cons {d:Xv} {v:V} {ds:List Xv} {vs:List V} (h:bB K cA φ H d v) (r:bT φ H ds vs):bT φ H (d::ds) (v::vs)
noncomputable def m6(φ:Ph)(H:Hp)(a:Addr):SO->Prop
 |.lst xs=>∃vs,H a=some (.lst vs)/\aC K cA φ H xs vs
 |.dct _ _=>False
structure aG(φ:Ph)(H:Hp)(s:S):Prop where
 len:φ.l.length=s.length
 obj:∀(n:Nat) o a,s[n]?=some o->φ.l[n]?=some a->m6 K cA φ H a o
 uniq:φ.l.Nodup
 lz:∀a∈φ.l,φ.z a
 zt:∀a,φ.z a->∃o,H a=some o
structure Ext(φ:Ph)(H:Hp)(φ':Ph)(H':Hp):Prop where
 more:∃r,φ'.l=φ.l++r/\∀b∈r,H b=none
 uJ:∀a,φ.z a->φ'.z a
 m7:∀a,φ'.z a->φ.z a\/H a=none
 frame:∀a o,H a=some o->a∉φ.l->H' a=some o
 stay:∀a o,H a=some o->∃o',H' a=some o'
def aY(φ:Ph)(H:Hp)(σ:L2.St)(τ:Vs):Prop:=σ.length=τ.length/\∀(i:Nat) (x:Xv),τ[i]?=some (some x)->∃v,σ[i]?=some (some v)/\bB K cA φ H x v
end
section
variable {K:PySem.W.Frag}{cA:Cl}{φ φ' φ'':Ph}{H H' Ny:Hp}{s:S}{σ:L2.St}{τ:Vs}
theorem Ext.refl:Ext φ H φ H:=⟨⟨[],by simp,by simp⟩,λ_ h=>h,λ_ h=>.inl h,λ_ _ h _=>h,λ_ o h=>⟨o,h⟩⟩
theorem Ext.lD(x:Ext φ H φ' H'){a:Addr}(h:H' a=none):H a=none:=by
 cases e:H a with
 |none=>rfl
 |some o=>obtain⟨o',q⟩:=x.stay a o e;rw[h] at q;cases q
theorem Ext.trans(x:Ext φ H φ' H')(y:Ext φ' H' φ'' Ny):Ext φ H φ'' Ny:=by
 obtain⟨r,e,hr⟩:=x.more;obtain⟨r',e',hr'⟩:=y.more;refine⟨⟨r++r',by rw[e',e,Bj],λb hb=>?_⟩,λa h=>y.uJ a (x.uJ a h),λa h=>?_,λa o h n=>y.frame a o (x.frame a o h n) ?_,λa o h=>?_⟩
 ·rcases fG.mp hb with z|z
  ·exact hr b z
  ·exact x.lD (hr' b z)
 ·rcases y.m7 a h with z|z
  ·exact x.m7 a z
  ·exact .inr (x.lD z)
 ·rw[e];intro z;rcases fG.mp z with z|z
  ·exact n z
  ·rw[hr a z] at h;cases h
 ·obtain⟨o',q⟩:=x.stay a o h;exact y.stay a o' q
theorem Ext.get(x:Ext φ H φ' H'){n:Nat}{a:Addr}(h:φ.l[n]?=some a):φ'.l[n]?=some a:=by
 obtain⟨r,e,_⟩:=x.more;rw[e,pq (jo.mp h).1];exact h
theorem Ext.out(x:Ext φ H φ' H')(hz:∀a∈φ.l,φ.z a){a:Addr}{o:HO}(h:H a=some o)(n:¬φ.z a):H' a=some o/\¬φ'.z a:=
 ⟨x.frame a o h λz=>n (hz a z),λz=>by
  rcases x.m7 a z with y|y
  ·exact n y
  ·rw[h] at y;cases y⟩
theorem TupAt.mono(x:Ext φ H φ' H')(hz:∀a∈φ.l,φ.z a){a:Addr}{vs:List V}(h:TupAt K φ H a vs):TupAt K φ' H' a vs:=by
 rcases h with ⟨h|⟨o,h⟩,n⟩|h
 ·obtain⟨p,q⟩:=x.out hz h n;exact .inl ⟨.inl p,q⟩
 ·obtain⟨p,q⟩:=x.out hz h n;exact .inl ⟨.inr ⟨o,p⟩,q⟩
 ·exact .inr h
theorem LstAt.mono(x:Ext φ H φ' H')(hz:∀a∈φ.l,φ.z a){a:Addr}{vs:List V}(h:LstAt K φ H a vs):LstAt K φ' H' a vs:=by
 rcases h with ⟨h|⟨o,h⟩,n⟩|h
 ·obtain⟨p,q⟩:=x.out hz h n;exact .inl ⟨.inl p,q⟩
 ·obtain⟨p,q⟩:=x.out hz h n;exact .inl ⟨.inr ⟨o,p⟩,q⟩
 ·exact .inr h
theorem ExcAt.mono(x:Ext φ H φ' H')(hz:∀a∈φ.l,φ.z a){a:Addr}{c:Nat}{vs:List V}(h:ExcAt cA φ H a c vs):ExcAt cA φ' H' a c vs:=by
 obtain⟨n,⟨e1,e2,h⟩|⟨dx,h,n2,h2,h3⟩⟩:=h
 ·obtain⟨p,q⟩:=x.out hz h n;exact⟨q,.inl ⟨e1,e2,p⟩⟩
 ·obtain⟨p,q⟩:=x.out hz h n;obtain⟨p2,q2⟩:=x.out hz h2 n2;exact⟨q,.inr ⟨dx,p,q2,p2,h3⟩⟩
theorem oO.mono(x:Ext φ H φ' H')(hz:∀a∈φ.l,φ.z a){a:Addr}{c:Nat}{vs:List V}(h:oO cA φ H a c vs):oO cA φ' H' a c vs:=by
 obtain⟨n,dx,h,h3⟩:=h;obtain⟨p,q⟩:=x.out hz h n;exact⟨q,dx,p,h3⟩
theorem Rep.mono(x:Ext φ H φ' H')(hz:∀a∈φ.l,φ.z a){d:D}{v:V}(h:Rep K cA φ H d v):Rep K cA φ' H' d v:=
 Rep.rec (motive_1:=λd v _=>Rep K cA φ' H' d v) (motive_2:=λd v _=>aC K cA φ' H' d v) .non .bl .int .str (λh _ i=>.tup (h.mono x hz) i) (λh _ i=>.fl (h.mono x hz) i) (λh n=>.fd (x.out hz h n).1 (x.out hz h n).2) (λh _ i=>.exc (h.mono x hz) i) (λh _ i=>.ob (h.mono x hz) i) .nil (λ_ _ i j=>.cons i j) h
theorem aC.mono(x:Ext φ H φ' H')(hz:∀a∈φ.l,φ.z a){d:List D}{v:List V}(h:aC K cA φ H d v):aC K cA φ' H' d v:=
 aC.rec (motive_1:=λd v _=>Rep K cA φ' H' d v) (motive_2:=λd v _=>aC K cA φ' H' d v) .non .bl .int .str (λh _ i=>.tup (h.mono x hz) i) (λh _ i=>.fl (h.mono x hz) i) (λh n=>.fd (x.out hz h n).1 (x.out hz h n).2) (λh _ i=>.exc (h.mono x hz) i) (λh _ i=>.ob (h.mono x hz) i) .nil (λ_ _ i j=>.cons i j) h
theorem bB.mono(x:Ext φ H φ' H')(hz:∀a∈φ.l,φ.z a){d:Xv}{v:V}(h:bB K cA φ H d v):bB K cA φ' H' d v:=by
 cases h with
 |d h=>exact .d (h.mono x hz)
 |l h=>exact .l (x.get h)
theorem aY.mono(x:Ext φ H φ' H')(hz:∀a∈φ.l,φ.z a)(h:aY K cA φ H σ τ):aY K cA φ' H' σ τ:=⟨h.1,λi d e=>let ⟨v,a,b⟩:=h.2 i d e;⟨v,a,b.mono x hz⟩⟩
theorem aC.len:∀{ds:List D} {vs:List V},aC K cA φ H ds vs->ds.length=vs.length
 |_,_,.nil=>rfl
 |_,_,.cons _ r=>by rw[gY,gY,aC.len r]
theorem bT.len:∀{ds:List Xv} {vs:List V},bT K cA φ H ds vs->ds.length=vs.length
 |_,_,.nil=>rfl
 |_,_,.cons _ r=>by rw[gY,gY,bT.len r]
theorem aC.get:∀{ds:List D} {vs:List V} {i:Nat} {d:D},aC K cA φ H ds vs->ds[i]?=some d->∃v,vs[i]?=some v/\Rep K cA φ H d v
 |_,_,_,_,.nil,e=>by simp at e
 |_,_,0,_,.cons h _,e=>by simp at e;subst e;exact⟨_,rfl,h⟩
 |_,_,i+1,d,.cons _ r,e=>by
  obtain⟨v,a,b⟩:=aC.get (i:=i) (d:=d) r (by simpa using e);exact⟨v,by simpa using a,b⟩
theorem bT.get:∀{ds:List Xv} {vs:List V} {i:Nat} {d:Xv},bT K cA φ H ds vs->ds[i]?=some d->∃v,vs[i]?=some v/\bB K cA φ H d v
 |_,_,_,_,.nil,e=>by simp at e
 |_,_,0,_,.cons h _,e=>by simp at e;subst e;exact⟨_,rfl,h⟩
 |_,_,i+1,d,.cons _ r,e=>by
  obtain⟨v,a,b⟩:=bT.get (i:=i) (d:=d) r (by simpa using e);exact⟨v,by simpa using a,b⟩
theorem aC.none:∀{ds:List D} {vs:List V} {i:Nat},aC K cA φ H ds vs->ds[i]?=none->vs[i]?=none:=λ{ds vs i} r e=>by
 have:=r.len;have h2:ds.length<=i:=pA.mp e;exact pA.mpr (by lia)
theorem aC.app:∀{ds es:List D} {vs us:List V},aC K cA φ H ds vs->aC K cA φ H es us->aC K cA φ H (ds++es) (vs++us)
 |_,_,_,_,.nil,s=>s
 |_,_,_,_,.cons h r,s=>.cons h (aC.app r s)
theorem aC.take:∀{ds:List D} {vs:List V} (n:Nat),aC K cA φ H ds vs->aC K cA φ H (ds.take n) (vs.take n)
 |_,_,0,_=>by simp;exact .nil
 |_,_,n+1,.nil=>by simp;exact .nil
 |_,_,n+1,.cons h r=>by simp only[List.take_succ_cons];exact .cons h (aC.take n r)
theorem aC.drop:∀{ds:List D} {vs:List V} (n:Nat),aC K cA φ H ds vs->aC K cA φ H (ds.drop n) (vs.drop n)
 |_,_,0,r=>r
 |_,_,n+1,.nil=>by simp;exact .nil
 |_,_,n+1,.cons _ r=>by simp only[List.drop_succ_cons];exact aC.drop n r
theorem aC.set{d:D}{v:V}(h:Rep K cA φ H d v):∀{ds:List D} {vs:List V} (i:Nat),aC K cA φ H ds vs->aC K cA φ H (ds.set i d) (vs.set i v)
 |_,_,_,.nil=>.nil
 |_,_,0,.cons _ r=>.cons h r
 |_,_,i+1,.cons q r=>.cons q (aC.set h i r)
theorem aC.rev:∀{ds:List D} {vs:List V},aC K cA φ H ds vs->aC K cA φ H ds.reverse vs.reverse
 |_,_,.nil=>.nil
 |_,_,.cons h r=>by rw[Ie,Ie];exact(aC.rev r).app (.cons h .nil)
theorem aC.cut{ds:List D}{vs:List V}{l h:Option Int}(r:aC K cA φ H ds vs):aC K cA φ H (Mi.cut ds l h) (lQ vs l h):=by
 unfold Mi.cut lQ;rw[<-r.len];exact(r.drop _).take _
def bG(H H':Hp):Prop:=∀a o,H a=some o->H' a=some o
theorem bG.refl:bG H H:=λ_ _ h=>h
theorem bG.new{p:Addr}{o:HO}(hp:H p=none):bG H (upd H p o):=λa u h=>by rw[dH (Bu h hp)];exact h
theorem bG.ext(g:bG H H'):Ext φ H φ H':=⟨⟨[],by simp,by simp⟩,λ_ h=>h,λ_ h=>.inl h,λa o h _=>g a o h,λa o h=>⟨o,g a o h⟩⟩
theorem m6.grow{a:Addr}{o:SO}(g:bG H H')(hz:∀a∈φ.l,φ.z a)(h:m6 K cA φ H a o):m6 K cA φ H' a o:=by
 cases o with
 |lst xs=>obtain⟨vs,e,r⟩:=h;exact⟨vs,g _ _ e,r.mono g.ext hz⟩
 |dct _ _=>exact h
theorem aG.grow(g:bG H H')(h:aG K cA φ H s):aG K cA φ H' s:=
 ⟨h.len,λn o a e1 e2=>(h.obj n o a e1 e2).grow g h.lz,h.uniq,h.lz,λa z=>let ⟨o,e⟩:=h.zt a z;⟨o,g _ _ e⟩⟩
theorem aG.nz(h:aG K cA φ H s){p:Addr}(hp:H p=none):¬φ.z p:=λz=>by obtain⟨o,e⟩:=h.zt p z;rw[hp] at e;cases e
noncomputable def Ph.add(φ:Ph)(p:Addr):Ph:=⟨λa=>φ.z a\/a=p,φ.l++[p]⟩
theorem Ext.add{p:Addr}{o:HO}(hp:H p=none):Ext φ H (φ.add p) (upd H p o):=
 ⟨⟨[p],rfl,by simpa using hp⟩,λ_ h=>.inl h,λa h=>h.imp id λe=>by rw[e];exact hp,λa u h _=>bG.new hp a u h,λa u h=>⟨u,bG.new hp a u h⟩⟩
theorem aG.add{p:Addr}{xs:List D}{vs:List V}(h:aG K cA φ H s)(hp:H p=none)(r:aC K cA φ H xs vs):aG K cA (φ.add p) (upd H p (.lst vs)) (s++[.lst xs]):=by
 have pn:p∉φ.l:=λz=>h.nz hp (h.lz p z);refine⟨by show (φ.l++[p]).length=_;rw[cX,cX,h.len];rfl,λn o a e1 e2=>?_,?_,λa ha=>?_,λa ha=>?_⟩
 ·have e2:(φ.l++[p])[n]?=some a:=e2;by_cases hn:n<s.length
  ·rw[pq hn] at e1;rw[pq (by rw[h.len];exact hn)] at e2;have:=h.obj n o a e1 e2;cases o with
   |lst ys=>obtain⟨us,q1,q2⟩:=this;exact⟨us,bG.new hp _ _ q1,q2.mono (Ext.add hp) h.lz⟩
   |dct _ _=>exact this
  ·have hl:n=s.length:=by
    have z:=(jo.mp e1).1;rw[cX] at z;simp at z
    lia
   subst hl;rw[nM (cg _)] at e1;rw[nM (by rw[h.len];exact cg _)] at e2;simp at e1;simp[h.len] at e2;subst e1 e2;exact⟨vs,kY,r.mono (Ext.add hp) h.lz⟩
 ·show (φ.l++[p]).Nodup;rw[Ig];refine⟨h.uniq,by simp,λa ha b hb e=>?_⟩;simp at hb;subst hb e;exact pn ha
 ·have ha:a∈φ.l++[p]:=ha;rcases fG.mp ha with z|z
  ·exact .inl (h.lz a z)
  ·simp at z;exact .inr z
 ·rcases ha with z|z
  ·obtain⟨o,e⟩:=h.zt a z;exact⟨o,bG.new hp _ _ e⟩
  ·subst z;exact⟨_,kY⟩
theorem Ext.write{n:Nat}{p:Addr}{o:HO}(hp:φ.l[n]?=some p)(hv:∃u,H p=some u):Ext φ H φ (upd H p o):=by
 have hm:p∈φ.l:=gU hp;refine⟨⟨[],by simp,by simp⟩,λ_ h=>h,λ_ h=>.inl h,λa u h n=>by
  have ne:a≠p:=λe=>n (by rw[e];exact hm);rw[dH ne];exact h,λa u h=>?_⟩
 by_cases e:a=p
 ·subst e;exact⟨o,kY⟩
 ·exact⟨u,by rw[dH e];exact h⟩
theorem aG.write{n:Nat}{p:Addr}{xs ys:List D}{us:List V}(h:aG K cA φ H s)(hn:s[n]?=some (.lst xs))(hp:φ.l[n]?=some p)(r:aC K cA φ H ys us):aG K cA φ (upd H p (.lst us)) (s.set n (.lst ys)):=by
 obtain⟨vs,hv,_⟩:=h.obj n _ p hn hp;have x:Ext φ H φ (upd H p (.lst us)):=Ext.write hp ⟨_,hv⟩;refine⟨by rw[nZ];exact h.len,λm o a e1 e2=>?_,h.uniq,h.lz,λa ha=>?_⟩
 ·by_cases hm:n=m
  ·subst hm;rw[wQ (jo.mp hn).1] at e1;cases e1;rw[hp] at e2;cases e2;exact⟨us,kY,r.mono x h.lz⟩
  ·rw[qQ hm] at e1;have ne:a≠p:=λy=>by
    subst y;exact hm ((Ld (jo.mp hp).1 h.uniq).mp (hp.trans e2.symm))
   have:=h.obj m o a e1 e2;cases o with
   |lst ys=>obtain⟨us',q1,q2⟩:=this;exact⟨us',by rw[dH ne];exact q1,q2.mono x h.lz⟩
   |dct _ _=>exact this
 ·obtain⟨o,e⟩:=h.zt a ha;obtain⟨o',e'⟩:=x.stay a o e;exact⟨o',e'⟩
theorem aY.set{i:Nat}{d:Xv}{v:V}(hL:aY K cA φ H σ τ)(r:bB K cA φ H d v):aY K cA φ H (σ.set i (some v)) (τ.set i (some d)):=by
 refine⟨by rw[nZ,nZ];exact hL.1,λj e h=>?_⟩;by_cases hij:i=j
 ·subst hij;by_cases hl:i<τ.length
  ·rw[wQ hl] at h;cases h;exact⟨v,by rw[wQ (by rw[hL.1];exact hl)],r⟩
  ·rw[HJ (by rw[nZ];lia)] at h;cases h
 ·rw[qQ hij] at h;obtain⟨u,a,b⟩:=hL.2 j e h;exact⟨u,by rw[qQ hij];exact a,b⟩
theorem aY.unset{i:Nat}(hL:aY K cA φ H σ τ):aY K cA φ H (σ.set i none) (τ.set i none):=by
 refine⟨by rw[nZ,nZ];exact hL.1,λj e h=>?_⟩;by_cases hij:i=j
 ·subst hij;by_cases hl:i<τ.length
  ·rw[wQ hl] at h;cases h
  ·rw[HJ (by rw[nZ];lia)] at h;cases h
 ·rw[qQ hij] at h;obtain⟨u,a,b⟩:=hL.2 j e h;exact⟨u,by rw[qQ hij];exact a,b⟩
theorem TupAt.jx{a:Addr}{vs:List V}(h:TupAt K φ H a vs):fL K H a vs:=by
 rcases h with ⟨h,_⟩|(h|h)
 ·exact .inl h
 ·rcases h with h|⟨o,h⟩<;>cases h
 ·exact .inr h
theorem LstAt.uK{a:Addr}{vs:List V}(h:LstAt K φ H a vs):dj K H a vs:=by
 rcases h with ⟨h,_⟩|(h|h)
 ·exact .inl h
 ·rcases h with h|⟨o,h⟩<;>cases h
 ·exact .inr h
theorem TupAt.new{p:Addr}{vs:List V}(hz:¬φ.z p):TupAt K φ (upd H p (.tup vs)) p vs:=.inl ⟨.inl kY,hz⟩
theorem LstAt.new{p:Addr}{vs:List V}(hz:¬φ.z p):LstAt K φ (upd H p (.lst vs)) p vs:=.inl ⟨.inl kY,hz⟩
end
end Mi
namespace Mi
open PySem PySem.Spec PyProof.Rows L2
theorem un{α β γ:Type}{A B C:α->β->γ->Prop}{R:Prop}(h:∃a b c,A a b c/\B a b c/\C a b c)(f:∀a b c,A a b c->B a b c->C a b c->R):R:=by
 obtain⟨a,b,c,x,y,z⟩:=h;exact f a b c x y z
section
variable (K:PySem.W.Frag)(cA:Cl)
def Run{α:Type}(m:M α)(φ:Ph)(H:Hp)(s:S)(P:α->S->Ph->Hp->Prop)(Ee:Nat->List D->S->Ph->Hp->Prop):Prop:=
 match m s with
 |some (.ok a,s')=>∀φ' H',Ext φ H φ' H'->aG K cA φ' H' s'->P a s' φ' H'
 |some (.er c f,s')=>∀φ' H',Ext φ H φ' H'->aG K cA φ' H' s'->Ee c f s' φ' H'
 |none=>False
def jX(φ:Ph)(H:Hp)(c:Nat)(fs:List D)(dx:Option Addr):Prop:=
 (cA.f c=[]/\fs=[]/\dx=none)\/∃d vs,dx=some d/\¬φ.z d/\H d=some (.xd ((cA.f c).zip vs))/\(cA.f c).length=vs.length/\aC K cA φ H fs vs
noncomputable def eX(EX:XS)(σ:L2.St):Nat->List D->S->Ph->Hp->Prop:=λc fs _ φ' H'=>∀dx,jX K cA φ' H' c fs dx->EX σ (.ref (cA.a c)) dx H'
noncomputable def tE(EX:XS)(m:Vs->M Xv):TE:=λσ H Q=>∃φ τ s,aY K cA φ H σ τ/\aG K cA φ H s/\Run K cA (m τ) φ H s (λd _ φ' H'=>∀v,bB K cA φ' H' d v->Q v H') (eX K cA EX σ)
noncomputable def Nz(EX:XS)(m:Vs->M (List Xv)):TA:=λσ H Q=>∃φ τ s,aY K cA φ H σ τ/\aG K cA φ H s/\Run K cA (m τ) φ H s (λd _ φ' H'=>∀v,bT K cA φ' H' d v->Q v H') (eX K cA EX σ)
noncomputable def xU(EX:XS)(m:Vs->M Bool):TT:=λσ H Q=>∃φ τ s,aY K cA φ H σ τ/\aG K cA φ H s/\Run K cA (m τ) φ H s (λd _ φ' H'=>Q d H') (eX K cA EX σ)
def Rv(φ:Ph)(H:Hp)(d:D)(v:V):Prop:=match d with
 |.fl xs=>∃a vs,v=.ref a/\dj K H a vs/\aC K cA φ H xs vs
 |d=>Rep K cA φ H d v
inductive v7 (φ:Ph) (H:Hp):List D->List V->Prop where
 |nil:v7 φ H [] []
 |cons {d:D} {v:V} {ds:List D} {vs:List V} (h:Rv K cA φ H d v) (r:v7 φ H ds vs):v7 φ H (d::ds) (v::vs)
def aZ(φ:Ph)(H:Hp)(o:Option Rz)(Q:VK):Prop:=match o with
 |none=>False
 |some (.dat d)=>∀H' v,bG H H'->Rep K cA φ H' d v->Q v H'
 |some (.nw xs)=>∀p vs,H p=none->aC K cA φ H xs vs->Q (.ref p) (upd H p (.lst vs))
structure Zt(φ:Ph)(H:Hp):Prop where
 lz:∀a∈φ.l,φ.z a
 zt:∀a,φ.z a->∃o,H a=some o
def aR(p:Pr)(r:List V->Hp->VK->Prop):Prop:=∀(φ:Ph) (H:Hp) (ds:List D) (vs:List V) (Q:VK),Zt φ H->v7 K cA φ H ds vs->aZ K cA φ H (prim p ds) Q->r vs H Q
end
section
variable {K:PySem.W.Frag}{cA:Cl}{φ φ':Ph}{H H':Hp}{s:S}{σ:L2.St}{τ:Vs}{EX:XS}
theorem aG.zs(h:aG K cA φ H s):Zt φ H:=⟨h.lz,h.zt⟩
theorem Zt.nz(h:Zt φ H)(hp:H p=none):¬φ.z p:=λz=>by obtain⟨o,e⟩:=h.zt p z;rw[hp] at e;cases e
theorem Rep.rv{d:D}{v:V}(h:Rep K cA φ H d v):Rv K cA φ H d v:=by
 cases h with
 |fl h r=>exact⟨_,_,rfl,h.uK,r⟩
 |non=>exact .non
 |bl b=>exact .bl b
 |int b=>exact .int b
 |str b=>exact .str b
 |tup h r=>exact .tup h r
 |fd h n=>exact .fd h n
 |exc h r=>exact .exc h r
 |ob h r=>exact .ob h r
theorem Run.bd{α β:Type}{m:M α}{k:α->M β}{P:β->S->Ph->Hp->Prop}{Ee:Nat->List D->S->Ph->Hp->Prop}(h:Run K cA (M.bd m k) φ H s P Ee):Run K cA m φ H s (λa s1 φ1 H1=>Ext φ H φ1 H1/\aG K cA φ1 H1 s1/\Run K cA (k a) φ1 H1 s1 P Ee) Ee:=by
 unfold Run M.bd at *;cases e:m s with
 |none=>rw[e] at h;exact h
 |some r=>
  obtain⟨r,s1⟩:=r;rw[e] at h;cases r with
  |er c f=>exact h
  |ok a=>
   intro φ1 H1 x1 r1;refine⟨x1,r1,?_⟩;dsimp only at h ⊢;cases e2:k a s1 with
   |none=>rw[e2] at h;exact h
   |some q=>
    obtain⟨q,s2⟩:=q;rw[e2] at h;cases q with
    |ok b=>exact λφ2 H2 x2 r2=>h φ2 H2 (x1.trans x2) r2
    |er c f=>exact λφ2 H2 x2 r2=>h φ2 H2 (x1.trans x2) r2
theorem Run.imp{α:Type}{m:M α}{P P':α->S->Ph->Hp->Prop}{Ee:Nat->List D->S->Ph->Hp->Prop}(h:Run K cA m φ H s P Ee)(f:∀a s' φ' H',P a s' φ' H'->P' a s' φ' H'):Run K cA m φ H s P' Ee:=by
 unfold Run at *;split at h
 ·exact λφ' H' x r=>f _ _ _ _ (h φ' H' x r)
 ·exact h
 ·exact h
theorem Run.bC{α:Type}{a:α}{P:α->S->Ph->Hp->Prop}{Ee:Nat->List D->S->Ph->Hp->Prop}(r:aG K cA φ H s)(h:Run K cA (M.ret a) φ H s P Ee):P a s φ H:=h φ H Ext.refl r
theorem Run.opt{α:Type}{o:Option α}{P:α->S->Ph->Hp->Prop}{Ee:Nat->List D->S->Ph->Hp->Prop}(r:aG K cA φ H s)(h:Run K cA (M.opt o) φ H s P Ee):∃a,o=some a/\P a s φ H:=by
 cases o with
 |none=>exact h.elim
 |some a=>exact⟨a,rfl,h φ H Ext.refl r⟩
theorem NK(h:Run K cA (M.bd (M.opt o) k) φ H s P Ee):∃a,o=some a/\Run K cA (k a) φ H s P Ee:=by
 cases o with
 |none=>exact h.elim
 |some a=>exact⟨a,rfl,h⟩
theorem v8{β:Type}{x:Xv}{v:V}{k:Bool->M β}{P:β->S->Ph->Hp->Prop}{Ee:Nat->List D->S->Ph->Hp->Prop}(r:bB K cA φ H x v)(h:Run K cA (M.bd (bool x) k) φ H s P Ee):∃b,x=.d (.bl b)/\v=.bl b/\Run K cA (k b) φ H s P Ee:=by
 cases r with
 |l _=>exact h.elim
 |d r=>cases r with
  |bl b=>exact⟨b,rfl,rfl,h⟩
  |_=>exact h.elim
theorem Ga(r:bB K cA φ H x v)(h:Run K cA (M.bd (int x) k) φ H s P Ee):∃b,x=.d (.int b)/\v=.int b/\Run K cA (k b) φ H s P Ee:=by
 cases r with
 |l _=>exact h.elim
 |d r=>cases r with
  |int b=>exact⟨b,rfl,rfl,h⟩
  |_=>exact h.elim
theorem NP(r:bB K cA φ H x v)(h:Run K cA (M.bd (dat x) k) φ H s P Ee):∃d,x=.d d/\Rep K cA φ H d v/\Run K cA (k d) φ H s P Ee:=by
 cases r with
 |l _=>exact h.elim
 |d r=>exact⟨_,rfl,r,h⟩
theorem Jl:∀{xs:List Xv} {vs:List V} {k:List D->M β} {P:β->S->Ph->Hp->Prop} {Ee:Nat->List D->S->Ph->Hp->Prop},bT K cA φ H xs vs->Run K cA (M.bd (dF xs) k) φ H s P Ee->∃ds,xs=ds.map .d/\aC K cA φ H ds vs/\Run K cA (k ds) φ H s P Ee:=by
 intro xs
 induction xs with
 |nil=>intro vs k P Ee r h;cases r;exact⟨[],rfl,.nil,h⟩
 |cons x xs ih=>
  intro vs k P Ee r h;cases r with
  |cons a r=>
   cases a with
   |l _=>exact h.elim
   |@d y v a=>
    have h2:Run K cA (M.bd (dF xs) λds=>k (y::ds)) φ H s P Ee:=by
     unfold Run M.bd dF dat at h;unfold Run M.bd;simp only[M.bd,M.ret] at h;cases e:dF xs s with
     |none=>simp only[e] at h
     |some q=>
      obtain⟨q,s1⟩:=q;simp only[e] at h;cases q with
      |ok ds=>exact h
      |er c f=>exact h
    obtain⟨ds,e,rs,h3⟩:=ih r h2;exact⟨y::ds,by rw[e];rfl,.cons a rs,h3⟩
theorem Gb(hS:aG K cA φ H s)(r:bB K cA φ H x v)(h:Run K cA (M.bd (rd x) k) φ H s P Ee):∃d,Rv K cA φ H d v/\Run K cA (k d) φ H s P Ee:=by
 cases r with
 |d r=>exact⟨_,r.rv,h⟩
 |@l n a hl=>
  unfold Run M.bd rd at h;dsimp only at h;cases e:s[n]? with
  |none=>rw[e] at h;exact h.elim
  |some o=>
   rw[e] at h;cases o with
   |lst xs=>
    obtain⟨vs,q1,q2⟩:=hS.obj n _ _ e hl;exact⟨.fl xs,⟨a,vs,rfl,dj.of q1,q2⟩,h⟩
   |dct _ _=>exact h.elim
theorem jy{α β γ:Type}(m:M α)(f:α->M β)(g:β->M γ):M.bd (M.bd m f) g=M.bd m λx=>M.bd (f x) g:=by
 funext s
 unfold M.bd;cases m s with
 |none=>rfl
 |some r=>
  obtain⟨r,s1⟩:=r;cases r<;>rfl
theorem m8{β:Type}:∀{xs:List Xv} {vs:List V} {k:List D->M β} {P:β->S->Ph->Hp->Prop} {Ee:Nat->List D->S->Ph->Hp->Prop},aG K cA φ H s->bT K cA φ H xs vs->Run K cA (M.bd (eU xs) k) φ H s P Ee->∃ds,v7 K cA φ H ds vs/\Run K cA (k ds) φ H s P Ee:=by
 intro xs
 induction xs with
 |nil=>intro vs k P Ee hS r h;cases r;exact⟨[],.nil,h⟩
 |cons x xs ih=>
  intro vs k P Ee hS r h;cases r with
  |cons a r=>
   have h2:Run K cA (M.bd (rd x) λd=>M.bd (eU xs) λds=>k (d::ds)) φ H s P Ee:=by
    have e:M.bd (eU (x::xs)) k=M.bd (rd x) λd=>M.bd (eU xs) λds=>k (d::ds):=by
     show M.bd (M.bd (rd x) λd=>M.bd (eU xs) λds=>M.ret (d::ds)) k=_;rw[jy]
     congr 1
     funext d
     rw[jy];rfl
    rw[e] at h;exact h
   obtain⟨d,rd,h3⟩:=Gb hS a h2;obtain⟨ds,rs,h4⟩:=ih hS r h3;exact⟨d::ds,.cons rd rs,h4⟩
theorem mj{fz:Bool}{o:Option Rz}{Q:VK}{Ee:Nat->List D->S->Ph->Hp->Prop}(hS:aG K cA φ H s)(h:Run K cA (bK fz o) φ H s (λx _ φ' H'=>∀v,bB K cA φ' H' x v->Q v H') Ee):aZ K cA φ H o Q:=by
 cases o with
 |none=>exact h.elim
 |some z=>
  cases z with
  |dat d=>exact λH' v g r=>h φ H' g.ext (hS.grow g) v (.d r)
  |nw xs=>
   intro p vs hp r;cases fz with
   |true=>exact h φ _ (bG.new hp).ext (hS.grow (bG.new hp)) _ (.d (.fl (LstAt.new (hS.nz hp)) (r.mono (bG.new hp).ext hS.lz)))
   |false=>exact h (φ.add p) _ (Ext.add hp) (hS.add hp r) _ (.l (by show (φ.l++[p])[s.length]?=_;rw[<-hS.len];simp))
theorem zhN{fz:Bool}{xs:List D}{Q:VK}{Ee:Nat->List D->S->Ph->Hp->Prop}(hS:aG K cA φ H s)(h:Run K cA (newL fz xs) φ H s (λx _ φ' H'=>∀v,bB K cA φ' H' x v->Q v H') Ee):∀p vs,H p=none->aC K cA φ H xs vs->Q (.ref p) (upd H p (.lst vs)):=
 mj (o:=some (.nw xs)) hS h
theorem aW{β:Type}{ma:Vs->M Xv}{k:Xv->M β}{P:β->S->Ph->Hp->Prop}(hL:aY K cA φ H σ τ)(hS:aG K cA φ H s)(h:Run K cA (M.bd (ma τ) k) φ H s P (eX K cA EX σ)){Q:VK}
  (f:∀x H1 φ1 d s1,Ext φ H φ1 H1->aY K cA φ1 H1 σ τ->aG K cA φ1 H1 s1->bB K cA φ1 H1 d x->Run K cA (k d) φ1 H1 s1 P (eX K cA EX σ)->Q x H1):tE K cA EX ma σ H Q:=
 ⟨φ,τ,s,hL,hS,h.bd.imp λd s1 φ1 H1 ⟨x1,r1,h1⟩ v rv=>f v H1 φ1 d s1 x1 (hL.mono x1 hS.lz) r1 rv h1⟩
theorem qG{β:Type}{ma:Vs->M (List Xv)}{k:List Xv->M β}{P:β->S->Ph->Hp->Prop}(hL:aY K cA φ H σ τ)(hS:aG K cA φ H s)(h:Run K cA (M.bd (ma τ) k) φ H s P (eX K cA EX σ)){Q:List V->Hp->Prop}
  (f:∀x H1 φ1 d s1,Ext φ H φ1 H1->aY K cA φ1 H1 σ τ->aG K cA φ1 H1 s1->bT K cA φ1 H1 d x->Run K cA (k d) φ1 H1 s1 P (eX K cA EX σ)->Q x H1):Nz K cA EX ma σ H Q:=
 ⟨φ,τ,s,hL,hS,h.bd.imp λd s1 φ1 H1 ⟨x1,r1,h1⟩ v rv=>f v H1 φ1 d s1 x1 (hL.mono x1 hS.lz) r1 rv h1⟩
theorem zP(hL:aY K cA φ H σ τ)(hS:aG K cA φ H s)(h:Run K cA (M.bd (ma τ) k) φ H s P (eX K cA EX σ))
  (f:∀b H1 φ1 s1,Ext φ H φ1 H1->aY K cA φ1 H1 σ τ->aG K cA φ1 H1 s1->Run K cA (k b) φ1 H1 s1 P (eX K cA EX σ)->Q b H1):xU K cA EX ma σ H Q:=
 ⟨φ,τ,s,hL,hS,h.bd.imp λd s1 φ1 H1 ⟨x1,r1,h1⟩=>f d H1 φ1 s1 x1 (hL.mono x1 hS.lz) r1 h1⟩
end
section
variable (X:Cx)(cA:Cl)(sub:Nat->Nat->Bool)(aj:Bool)(F:Fn)(EX:XS)
def SE(e:Expr)(m:E):Prop:=PE X e (tE X.K cA EX (ev sub aj F m))
def SA(es:List Expr)(m:Es):Prop:=PA X es (Nz X.K cA EX (evs sub aj F m))
def ST(e:Expr)(m:E):Prop:=PT X e (xU X.K cA EX (λτ=>M.bd (ev sub aj F m τ) bool))
def SW(e:Expr)(m:E):Prop:=PW X e (xU X.K cA EX (λτ=>M.bd (ev sub aj F m τ) bool))
end
section
variable {X:Cx}{cA:Cl}{sub:Nat->Nat->Bool}{aj:Bool}{F:Fn}{EX:XS}{a b c d e:Expr}{A B C Dd E':E}{pos:Pos}{es:List Expr}{Xs:Es}{fz:Bool}{p:Pr}
theorem PE.weak{t t':TE}(h:PE X e t)(f:∀σ H Q,t' σ H Q->t σ H Q):PE X e t':=λak s σ H Q I q=>h ak s σ H Q I (f σ H Q q)
theorem PT.weak{t t':TT}(h:PT X e t)(f:∀σ H Q,t' σ H Q->t σ H Q):PT X e t':=λak s σ H Q I q=>h ak s σ H Q I (f σ H Q q)
theorem PW.weak{t t':TT}(h:PW X e t)(f:∀σ H Q,t' σ H Q->t σ H Q):PW X e t':=λwh ak s σ H Q I q=>h wh ak s σ H Q I (f σ H Q q)
theorem PA.weak{t t':TA}(h:PA X es t)(f:∀σ H Q,t' σ H Q->t σ H Q):PA X es t':=λp ak s σ H Q I q=>h p ak s σ H Q I (f σ H Q q)
theorem zls{i j p}:SE X cA sub aj F EX (.Constant (.int i) j p) (.c (.int i)):=PE.weak Lr λσ H Q hh=>un hh λφ τ s hL hS h=>h.bC hS _ (.d (.int i))
theorem zm8{i j p}:SE X cA sub aj F EX (.Constant (.bool i) j p) (.c (.bl i)):=PE.weak Z0 λσ H Q hh=>un hh λφ τ s hL hS h=>h.bC hS _ (.d (.bl i))
theorem zkJ{j p}:SE X cA sub aj F EX (.Constant .none j p) (.c .non):=PE.weak Z1 λσ H Q hh=>un hh λφ τ s hL hS h=>h.bC hS _ (.d .non)
theorem zlk{i j p}:SE X cA sub aj F EX (.Constant (.str i) j p) (.c (.str i)):=PE.weak R8 λσ H Q hh=>un hh λφ τ s hL hS h=>h.bC hS _ (.d (.str i))
theorem NQ{α:Type}{o:Option (Option α)}{x:α}(h:o.join=some x):o=some (some x):=by
 cases o with
 |none=>cases h
 |some y=>cases y with
  |none=>cases h
  |some z=>cases h;rfl
theorem Us(i:Nat){x:Str}(hN:X.N[i]?=some x:=by rfl)(hv:Lh X.env.scope x:=by first|exact Or.inl rfl|exact Or.inr (Or.inl rfl)|exact Or.inr (Or.inr rfl))(hd:(x==("__debug__" : Str))=false:=by decide)
  (hcd:(x==("__classdict__" : Str))=false:=by decide):SE X cA sub aj F EX (.Name x pos) (.v i):=PE.weak (ZX hN hv hd hcd) λσ H Q hh=>un hh λφ τ s hL hS h=>by
 obtain⟨dd,e1,q⟩:=Run.opt hS h;obtain⟨v,q1,q2⟩:=hL.2 i dd (NQ e1);exact⟨v,q1,q v q2⟩
theorem zjj{x:Str}{i:Int}{t:Tok}(hg:Gl X x)(hm:X.mg x=some (.int i t))(hd:(x==("__debug__" : Str))=false:=by decide):SE X cA sub aj F EX (.Name x pos) (.c (.int i)):=PE.weak (R9 (v:=.int i) hg hm ⟨t,rfl⟩ hd) λσ H Q hh=>un hh λφ τ s hL hS h=>h.bC hS _ (.d (.int i))
theorem zle:SA X cA sub aj F EX [] .nil:=PA.weak zm λσ H Q hh=>un hh λφ τ s hL hS h=>h.bC hS _ .nil
theorem zjO(ha:SE X cA sub aj F EX a A)(hr:SA X cA sub aj F EX es Xs)(hs:starEach (a::es) X.env=(false,eval a X.env)::starEach es X.env:=by rfl):SA X cA sub aj F EX (a::es) (.cons A Xs):=PA.weak (sy ha hr hs) λσ H Q hh=>un hh λφ τ s hL hS h=>by
 refine aW hL hS h λx H1 φ1 d1 s1 x1 hL1 hS1 r1 h1=>qG hL1 hS1 h1 λys H2 φ2 d2 s2 x2 hL2 hS2 r2 h2=>h2.bC hS2 _ (.cons (r1.mono x2 hS1.lz) r2)
theorem Gd{φ φ1 φ2:Ph}{H1 H2:Hp}{s1 s2:S}{d1 d2:Xv}{x y:V}{Q:VK}{Ee:Nat->List D->S->Ph->Hp->Prop}(x2:Ext φ1 H1 φ2 H2)(hS1:aG X.K cA φ1 H1 s1)(hS2:aG X.K cA φ2 H2 s2)(r1:bB X.K cA φ1 H1 d1 x)(r2:bB X.K cA φ2 H2 d2 y)
  (h:Run X.K cA (M.bd (eU [d1,d2]) λds=>bK fz (prim p ds)) φ2 H2 s2 (λx _ φ' H'=>∀v,bB X.K cA φ' H' x v->Q v H') Ee) {r:List V->Hp->VK->Prop} (hp:aR X.K cA p r):r [x,y] H2 Q:=by
 obtain⟨ds,rs,h2⟩:=m8 hS2 (.cons (r1.mono x2 hS1.lz) (.cons r2 .nil)) h;exact hp φ2 H2 ds _ Q hS2.zs rs (mj hS2 h2)
noncomputable def r2(r:R2):List V->Hp->VK->Prop:=λvs H Q=>∃x y,vs=[x,y]/\r x y H Q
theorem pR{r:R2}{x y:V}{H:Hp}{Q:VK}(h:r2 r [x,y] H Q):r x y H Q:=by
 obtain⟨_,_,e,q⟩:=h;cases e;exact q
theorem zkn{op:Operator}{r:R2}(ho:cU X (binaryOp op) r)(hp:aR X.K cA p (r2 r))(ha:SE X cA sub aj F EX a A)(hb:SE X cA sub aj F EX b B):SE X cA sub aj F EX (.BinOp a op b pos) (.pr fz p (.cons A (.cons B .nil))):=PE.weak (zmW ho ha hb) λσ H Q hh=>un hh λφ τ s hL hS h=>by
 have h:Run X.K cA (M.bd (M.bd (ev sub aj F A τ) λx=>M.bd (M.bd (ev sub aj F B τ) λy=>M.bd (M.ret []) λz=>M.ret (y::z)) λys=>M.ret (x::ys)) λvs=>M.bd (eU vs) λds=>bK fz (prim p ds)) φ H s _ _:=h;simp only[jy] at h;refine aW hL hS h λx H1 φ1 d1 s1 x1 hL1 hS1 r1 h1=>aW hL1 hS1 h1 λy H2 φ2 d2 s2 x2 hL2 hS2 r2' h2=>?_;exact pR (Gd (fz:=fz) (φ:=φ) x2 hS1 hS2 r1 r2' h2 hp)
theorem zlm{op:CmpOp}{r:R2}(ho:cU X (compareOp op) r)(hp:aR X.K cA p (r2 r))(ha:SE X cA sub aj F EX a A)(hb:SE X cA sub aj F EX b B)(hm:behindInMarks op b=false):SE X cA sub aj F EX (.Compare a [op] [b] pos) (.pr true p (.cons A (.cons B .nil))):=PE.weak (zj7 ho ha hb hm) λσ H Q hh=>un hh λφ τ s hL hS h=>by
 have h:Run X.K cA (M.bd (M.bd (ev sub aj F A τ) λx=>M.bd (M.bd (ev sub aj F B τ) λy=>M.bd (M.ret []) λz=>M.ret (y::z)) λys=>M.ret (x::ys)) λvs=>M.bd (eU vs) λds=>bK true (prim p ds)) φ H s _ _:=h;simp only[jy] at h;refine aW hL hS h λx H1 φ1 d1 s1 x1 hL1 hS1 r1 h1=>aW hL1 hS1 h1 λy H2 φ2 d2 s2 x2 hL2 hS2 r2' h2=>?_;exact pR (Gd (fz:=true) (φ:=φ) x2 hS1 hS2 r1 r2' h2 hp)
theorem iT{A B:Prop}(h:A):if true=true then A else B:=by rw[if_pos rfl];exact h
theorem iF{A B:Prop}(h:B):if false=true then A else B:=by rw[if_neg HW];exact h
theorem zlx{op:CmpOp}{r:R2}(ho:cU X (compareOp op) r)(hp:aR X.K cA p (r2 r))(ha:SE X cA sub aj F EX a A)(hb:SE X cA sub aj F EX b B)(hm:behindInMarks op b=false):ST X cA sub aj F EX (.Compare a [op] [b] pos) (.pr true p (.cons A (.cons B .nil))):=PT.weak (zjV ho ha hb hm) λσ H Q hh=>un hh λφ τ s hL hS h=>by
 have h:Run X.K cA (M.bd (M.bd (M.bd (ev sub aj F A τ) λx=>M.bd (M.bd (ev sub aj F B τ) λy=>M.bd (M.ret []) λz=>M.ret (y::z)) λys=>M.ret (x::ys)) λvs=>M.bd (eU vs) λds=>bK true (prim p ds)) bool) φ H s _ _:=h;simp only[jy] at h;refine aW hL hS h λx H1 φ1 d1 s1 x1 hL1 hS1 r1 h1=>aW hL1 hS1 h1 λy H2 φ2 d2 s2 x2 hL2 hS2 r2' h2=>?_;obtain⟨ds,rs,h3⟩:=m8 hS2 (.cons (r1.mono x2 hS1.lz) (.cons r2' .nil)) h2;refine pR (hp φ2 H2 ds _ _ hS2.zs rs (mj (Ee:=eX X.K cA EX σ) hS2 (h3.bd.imp λt s3 φ3 H3 ⟨x3,iZ,h4⟩ v rv=>?_)));cases rv with
 |l _=>exact h4.elim
 |d rv=>cases rv with
  |bl k=>exact⟨k,rfl,h4 φ3 H3 Ext.refl iZ⟩
  |_=>exact h4.elim
theorem zlV{op op':CmpOp}{r r':R2}{q:Pr}(ho:cU X (compareOp op) r)(hp:aR X.K cA p (r2 r))(ho':cU X (compareOp op') r')(hp':aR X.K cA q (r2 r'))(ha:SE X cA sub aj F EX a A)(hb:SE X cA sub aj F EX b B)(hc:SE X cA sub aj F EX c C)(hm:lastMarks [op,op'] [b,c]=false:=by with_unfolding_all rfl) :
  SE X cA sub aj F EX (.Compare a [op,op'] [b,c] pos) (.qz p q A B C):=PE.weak (zhE ho ho' ha hb hc hm) λσ H Q hh=>un hh λφ τ s hL hS h=>by
 refine aW hL hS h λx H1 φ1 d1 s1 x1 hL1 hS1 r1 h1=>aW hL1 hS1 h1 λy H2 φ2 d2 s2 x2 hL2 hS2 r2' h2=>?_;obtain⟨ds,rs,h3⟩:=m8 hS2 (.cons (r1.mono x2 hS1.lz) (.cons r2' .nil)) h2;refine pR (hp φ2 H2 ds _ _ hS2.zs rs (mj (Ee:=eX X.K cA EX σ) hS2 (h3.bd.imp λt s3 φ3 H3 ⟨x3,iZ,h4⟩ v rv=>?_)));obtain⟨k,_,e,h5⟩:=v8 rv h4;refine⟨k,e,?_⟩;cases k with
 |false=>exact iF (h5.bC iZ _ (.d (.bl _)))
 |true=>
  have qH:=hL2.mono x3 hS2.lz;refine iT (aW qH iZ h5 λz H4 φ4 d4 s4 x4 Ge jE r4 h6=>?_);exact pR (Gd (fz:=true) (φ:=φ) x4 iZ jE (r2'.mono x3 hS2.lz) r4 h6 hp')
theorem zkE{op op' gA:CmpOp}{r r' r'':R2}{q u:Pr}(h1:cU X (compareOp op) r)(p1:aR X.K cA p (r2 r))(h2:cU X (compareOp op') r')(p2:aR X.K cA q (r2 r'))(h3:cU X (compareOp gA) r'')(p3:aR X.K cA u (r2 r''))(ha:SE X cA sub aj F EX a A)(hb:SE X cA sub aj F EX b B)(hc:SE X cA sub aj F EX c C)(hd:SE X cA sub aj F EX d Dd)
  (hm:lastMarks [op,op',gA] [b,c,d]=false:=by with_unfolding_all rfl):SE X cA sub aj F EX (.Compare a [op,op',gA] [b,c,d] pos) (.sW p q u A B C Dd):=by
 have key:PE X (.Compare a [op,op',gA] [b,c,d] pos) (λσ H Q=>tE X.K cA EX (ev sub aj F A) σ H λx H1=>tE X.K cA EX (ev sub aj F B) σ H1 λy H2=>r x y H2 λz H3=>∃k,z=.bl k /\
   (if k=true then tE X.K cA EX (ev sub aj F C) σ H3 λw' H4=>r' y w' H4 λz2 H5=>∃k2,z2=.bl k2/\(if k2=true then tE X.K cA EX (ev sub aj F Dd) σ H5 λw2 H6=>r'' w' w2 H6 Q else Q (.bl false) H5) else Q (.bl false) H3)):=by
  intro ak s σ H Q I h;refine Compare_chain (aV (ha ak s σ H _ I h) λv s1 hx=>dN hx λx H1 I1 r1 q1=>chain_link (aV (hb ak s1 σ H1 _ I1 q1) λu s2 hx=>dN hx λy H2 I2 r2 q2=>
   aV (h1 ak s2 σ H2 x y v u _ I2 r1 r2 q2) λd s3 hx=>uI hx λz H3 I3 r3 k e q3=>?_)) hm
  subst e;cases r3;refine pC ?_;cases k with
  |false=>exact ite_ff ⟨.bl false,H3,I3,rfl,q3⟩
  |true=>
   refine ite_tt (chain_link (aV (hc ak s3 σ H3 _ I3 q3) λw' s4 hx=>dN hx λz' H4 I4 r4 q4=>aV (h2 ak s4 σ H4 y z' u w' _ I4 r2 r4 q4) λd' s5 hx=>uI hx λz2 H5 I5 r5 k2 e2 q5=>?_));subst e2;cases r5;refine pC ?_;cases k2 with
   |false=>exact ite_ff ⟨.bl false,H5,I5,rfl,q5⟩
   |true=>exact ite_tt (chain_last (aV (hd ak s5 σ H5 _ I5 q5) λw2 s6 hx=>dN hx λz3 H6 I6 r6 q6=>h3 ak s6 σ H6 z' z3 w' w2 Q I6 r4 r6 q6))
 refine PE.weak key λσ H Q hh=>un hh λφ τ s hL hS h=>?_;refine aW hL hS h λx H1 φ1 d1 s1 x1 hL1 hS1 r1 h1=>aW hL1 hS1 h1 λy H2 φ2 d2 s2 x2 hL2 hS2 r2' h2=>?_;obtain⟨ds,rs,h3⟩:=m8 hS2 (.cons (r1.mono x2 hS1.lz) (.cons r2' .nil)) h2;refine pR (p1 φ2 H2 ds _ _ hS2.zs rs (mj (Ee:=eX X.K cA EX σ) hS2 (h3.bd.imp λt s3 φ3 H3 ⟨x3,iZ,h4⟩ v rv=>?_)));obtain⟨k,_,e,h5⟩:=v8 rv h4;refine⟨k,e,?_⟩;cases k with
 |false=>exact iF (h5.bC iZ _ (.d (.bl _)))
 |true=>
  have qH:=hL2.mono x3 hS2.lz;refine iT (aW qH iZ h5 λz H4 φ4 d4 s4 x4 Ge jE r4 h6=>?_);obtain⟨ds,rs,h7⟩:=m8 jE (.cons ((r2'.mono x3 hS2.lz).mono x4 iZ.lz) (.cons r4 .nil)) h6;refine pR (p2 φ4 H4 ds _ _ jE.zs rs (mj (Ee:=eX X.K cA EX σ) jE (h7.bd.imp λt s5 φ5 H5 ⟨x5,sZ,h8⟩ v rv=>?_)));obtain⟨k2,_,e,h9⟩:=v8 rv h8;refine⟨k2,e,?_⟩;cases k2 with
  |false=>exact iF (h9.bC sZ _ (.d (.bl _)))
  |true=>
   have NT:=Ge.mono x5 jE.lz;refine iT (aW NT sZ h9 λz H6 φ6 d6 s6 x6 hL6 Gf r6 h10=>?_);exact pR (Gd (fz:=true) (φ:=φ) x6 sZ Gf (r4.mono x5 jE.lz) r6 h10 p3)
theorem zma(ha:SE X cA sub aj F EX a A):SE X cA sub aj F EX (.UnaryOp .Not a pos) (.not A):=PE.weak (zlZ ha) λσ H Q hh=>un hh λφ τ s hL hS h=>by
 refine aW hL hS h λx H1 φ1 d1 s1 x1 hL1 hS1 r1 h1=>?_;obtain⟨i,_,e,h3⟩:=v8 r1 h1;exact⟨i,e,h3.bC hS1 _ (.d (.bl _))⟩
theorem zmd{op}(ha:SE X cA sub aj F EX a A):SE X cA sub aj F EX (.BoolOp op [a] pos) A:=zlQ ha
theorem zmk{rest:List Expr}(ha:SE X cA sub aj F EX a A)(hb:SE X cA sub aj F EX (.BoolOp .And (b::rest) pos) B):SE X cA sub aj F EX (.BoolOp .And (a::b::rest) pos) (.and A B):=PE.weak (zme ha hb) λσ H Q hh=>un hh λφ τ s hL hS h=>by
 refine aW hL hS h λx H1 φ1 d1 s1 x1 hL1 hS1 r1 h1=>?_;obtain⟨i,_,e,h3⟩:=v8 r1 h1;refine⟨i,e,?_⟩;cases i with
 |true=>exact iT ⟨φ1,τ,s1,hL1,hS1,h3⟩
 |false=>exact iF (h3.bC hS1 _ (.d (.bl _)))
end
section
variable {X:Cx}{cA:Cl}{sub:Nat->Nat->Bool}{aj:Bool}{F:Fn}{EX:XS}{a b c d e o:Expr}{A B C Dd E' O:E}{pos pp p2 apos:Pos}{es:List Expr}{Xs:Es}{fz:Bool}{p:Pr}{x:Str}
theorem zlR(ha:SE X cA sub aj F EX a A)(he:∀whole,isTrue a X.env whole=(do let v <-whole;standAt a.pos;holding [v] (truthy v)):=by intro _;rfl):ST X cA sub aj F EX a A:=PT.weak (Z5 ha he) λσ H Q hh=>un hh λφ τ s hL hS h=>by
 refine aW hL hS h λx H1 φ1 d1 s1 x1 hL1 hS1 r1 h1=>?_;have h1:Run X.K cA (M.bd (bool d1) M.ret) φ1 H1 s1 (λd _ φ' H'=>Q d H') (eX X.K cA EX σ):=by
  cases d1 with
  |l n=>exact h1
  |d v=>cases v<;>exact h1
 obtain⟨k,_,e,q⟩:=v8 r1 h1;exact⟨k,e,q.bC hS1⟩
theorem zhm{m:M Xv}{g:Bool->Bool}:M.bd (M.bd m λx=>M.bd (bool x) λk=>M.ret (Xv.d (.bl (g k)))) bool=M.bd (M.bd m bool) λk=>M.ret (g k):=by
 rw[jy,jy]
 congr 1
 funext x
 rw[jy];rfl
theorem zll(ha:ST X cA sub aj F EX a A):ST X cA sub aj F EX (.UnaryOp .Not a pos) (.not A):=PT.weak (zlt ha) λσ H Q hh=>un hh λφ τ s hL hS h=>by
 have h:Run X.K cA (M.bd (M.bd (ev sub aj F A τ) λx=>M.bd (bool x) λk=>M.ret (Xv.d (.bl (!k)))) bool) φ H s _ _:=h;rw[zhm (g:=λk=>!k)] at h;exact zP hL hS h λk H1 φ1 s1 x1 hL1 hS1 h1=>h1.bC hS1
theorem zi9(ha:ST X cA sub aj F EX a A):SW X cA sub aj F EX (.BoolOp .And [a] pos) A:=Z7 ha
theorem zkv(ha:ST X cA sub aj F EX a A):SW X cA sub aj F EX (.BoolOp .Or [a] pos) A:=Z8 ha
theorem Ut{m:M Xv}{k:Bool->M Xv}:M.bd (M.bd m λx=>M.bd (bool x) k) bool=M.bd (M.bd m bool) λb=>M.bd (k b) bool:=by
 rw[jy,jy]
 congr 1
 funext x
 rw[jy]
theorem zmv{rest:List Expr}(ha:ST X cA sub aj F EX a A)(hb:SW X cA sub aj F EX (.BoolOp .And (b::rest) pos) B):SW X cA sub aj F EX (.BoolOp .And (a::b::rest) pos) (.and A B):=PW.weak (Z9 ha hb) λσ H Q hh=>un hh λφ τ s hL hS h=>by
 have h:Run X.K cA (M.bd (M.bd (ev sub aj F A τ) λx=>M.bd (bool x) λk=>if k=true then ev sub aj F B τ else M.ret (Xv.d (.bl false))) bool) φ H s _ _:=h;rw[Ut] at h;refine zP hL hS h λk H1 φ1 s1 x1 hL1 hS1 h3=>?_;cases k with
 |true=>exact iT ⟨φ1,τ,s1,hL1,hS1,h3⟩
 |false=>exact iF (Run.bC hS1 (a:=false) h3)
theorem zmR{rest:List Expr}(ha:ST X cA sub aj F EX a A)(hb:SW X cA sub aj F EX (.BoolOp .Or (b::rest) pos) B):SW X cA sub aj F EX (.BoolOp .Or (a::b::rest) pos) (.or A B):=PW.weak (Z_ ha hb) λσ H Q hh=>un hh λφ τ s hL hS h=>by
 have h:Run X.K cA (M.bd (M.bd (ev sub aj F A τ) λx=>M.bd (bool x) λk=>if k=true then M.ret (Xv.d (.bl true)) else ev sub aj F B τ) bool) φ H s _ _:=h;rw[Ut] at h;refine zP hL hS h λk H1 φ1 s1 x1 hL1 hS1 h3=>?_;cases k with
 |true=>exact iT (Run.bC hS1 (a:=true) h3)
 |false=>exact iF ⟨φ1,τ,s1,hL1,hS1,h3⟩
theorem zol(h:SW X cA sub aj F EX a A):ST X cA sub aj F EX a A:=ZW h
theorem Uu:∀(Xs:Es) (τ:Vs) (s:S) (ds:List Xv) (s':S),evs sub aj F Xs τ s=some (.ok ds,s')->ds.length=Es.len Xs
 |.nil,τ,s,ds,s',h=>by cases h;rfl
 |.cons a r,τ,s,ds,s',h=>by
  have h:M.bd (ev sub aj F a τ) (λx=>M.bd (evs sub aj F r τ) λxs=>M.ret (x::xs)) s=some (.ok ds,s'):=h;unfold M.bd at h;cases e1:ev sub aj F a τ s with
  |none=>rw[e1] at h;cases h
  |some q=>
   obtain⟨q,s1⟩:=q;rw[e1] at h;cases q with
   |er c f=>cases h
   |ok d=>
    dsimp only at h;cases e2:evs sub aj F r τ s1 with
    |none=>rw[e2] at h;cases h
    |some q=>
     obtain⟨q,s2⟩:=q;rw[e2] at h;cases q with
     |er c f=>cases h
     |ok ds'=>
      cases h;rw[gY,Uu r τ s1 ds' _ e2];rfl
theorem v9{β:Type}{K:PySem.W.Frag}{φ:Ph}{H:Hp}{s:S}{σ:L2.St}{τ:Vs}{k:List Xv->M β}{P:β->S->Ph->Hp->Prop}(hL:aY K cA φ H σ τ)(hS:aG K cA φ H s)(h:Run K cA (M.bd (evs sub aj F Xs τ) k) φ H s P (eX K cA EX σ)){Q:List V->Hp->Prop}
  (f:∀x H1 φ1 d s1,d.length=Es.len Xs->Ext φ H φ1 H1->aY K cA φ1 H1 σ τ->aG K cA φ1 H1 s1->bT K cA φ1 H1 d x->Run K cA (k d) φ1 H1 s1 P (eX K cA EX σ)->Q x H1):Nz K cA EX (evs sub aj F Xs) σ H Q:=by
 refine⟨φ,τ,s,hL,hS,?_⟩;have h2:=h.bd;unfold Run at h2 ⊢;cases e:evs sub aj F Xs τ s with
 |none=>rw[e] at h2;exact h2
 |some r=>
  obtain⟨r,s1⟩:=r;rw[e] at h2;cases r with
  |er c f=>exact h2
  |ok ds=>
   intro φ1 H1 x1 r1 v rv;obtain⟨_,_,h3⟩:=h2 φ1 H1 x1 r1;exact f v H1 φ1 ds s1 (Uu Xs τ s ds s1 e) x1 (hL.mono x1 hS.lz) r1 rv h3
theorem zkB{k}(ha:SA X cA sub aj F EX es Xs)(hz:Es.len Xs<=sizeLine):SE X cA sub aj F EX (.Tuple es k pos) (.tup Xs):=PE.weak (zlO ha) λσ H Q hh=>un hh λφ τ s hL hS h=>by
 refine v9 hL hS h λvs H1 φ1 xs s1 hl x1 hL1 hS1 rv h1=>?_;obtain⟨ds,e,rs,h2⟩:=Jl rv h1;refine⟨by rw[<-rv.len,hl];exact hz,λp hp=>?_⟩;exact h2 φ1 (upd H1 p (.tup vs)) (bG.new hp).ext (hS1.grow (bG.new hp)) _ (.d (.tup (TupAt.new (hS1.nz hp)) (rs.mono (bG.new hp).ext hS1.lz)))
theorem zmg(ha:SA X cA sub aj F EX es Xs)(hz:Es.len Xs<=sizeLine):SE X cA sub aj F EX (.List es pos) (.lst fz Xs):=PE.weak (zkN ha) λσ H Q hh=>un hh λφ τ s hL hS h=>by
 refine v9 hL hS h λvs H1 φ1 xs s1 hl x1 hL1 hS1 rv h1=>?_;obtain⟨ds,e,rs,h2⟩:=Jl rv h1;exact⟨by rw[<-rv.len,hl];exact hz,λp hp=>zhN hS1 h2 p vs hp rs⟩
theorem zQ{id:String}{r:List V->Hp->VK->Prop}(hc:cV X (.builtin id) r)(hp:aR X.K cA p r)
  (hg:Gl X x) (hm:X.mg x=none) (hv:bootBuiltins x=some (.builtin id)) (ha:SA X cA sub aj F EX (e::es) Xs) (hn:x≠"__name__":=by decide) (hdb:(x==("__debug__" : Str))=false:=by decide)
  (he:starEach (e::es) X.env=(false,eval e X.env)::starEach es X.env:=by rfl) (hpl:(backTo pos (starEach es X.env)).any (·.1)=false:=by rfl):SE X cA sub aj F EX (.Call (.Name x pp) (e::es) [] pos) (.pr fz p Xs):=PE.weak (SX hc hg hm hv ha hn hdb he hpl) λσ H Q hh=>un hh λφ τ s hL hS h=>
 qG hL hS h λvs H1 φ1 ds s1 x1 hL1 hS1 r1 h1=>by
  obtain⟨ds,rs,h3⟩:=m8 hS1 r1 h1;exact hp φ1 H1 ds _ _ hS1.zs rs (mj hS1 h3)
theorem Jm{id:String}{r:List V->Hp->VK->Prop}(hc:cV X (.type id) r)(hp:aR X.K cA p r)
  (hg:Gl X x) (hm:X.mg x=none) (hv:bootBuiltins x=some (.type id)) (ha:SA X cA sub aj F EX (e::es) Xs) (hn:x≠"__name__":=by decide) (hdb:(x==("__debug__" : Str))=false:=by decide)
  (he:starEach (e::es) X.env=(false,eval e X.env)::starEach es X.env:=by rfl) (hpl:(backTo pos (starEach es X.env)).any (·.1)=false:=by rfl):SE X cA sub aj F EX (.Call (.Name x pp) (e::es) [] pos) (.pr fz p Xs):=PE.weak (zf6 hc hg hm hv ha hn hdb he hpl) λσ H Q hh=>un hh λφ τ s hL hS h=>
 qG hL hS h λvs H1 φ1 ds s1 x1 hL1 hS1 r1 h1=>by
  obtain⟨ds,rs,h3⟩:=m8 hS1 r1 h1;exact hp φ1 H1 ds _ _ hS1.zs rs (mj hS1 h3)
theorem znK(hp:aR X.K cA p (r2 (Mx X.K)))(ha:SE X cA sub aj F EX a A)(hb:SE X cA sub aj F EX b B)(hs:pJ b:=by intro _ _;rfl):SE X cA sub aj F EX (.Subscript a b pos) (.pr true p (.cons A (.cons B .nil))):=PE.weak (znM zmF ha hb hs) λσ H Q hh=>un hh λφ τ s hL hS h=>by
 have h:Run X.K cA (M.bd (M.bd (ev sub aj F A τ) λx=>M.bd (M.bd (ev sub aj F B τ) λy=>M.bd (M.ret []) λz=>M.ret (y::z)) λys=>M.ret (x::ys)) λvs=>M.bd (eU vs) λds=>bK true (prim p ds)) φ H s _ _:=h;simp only[jy] at h;refine aW hL hS h λx H1 φ1 d1 s1 x1 hL1 hS1 r1 h1=>aW hL1 hS1 h1 λy H2 φ2 d2 s2 x2 hL2 hS2 r2' h2=>?_;exact pR (Gd (fz:=true) (φ:=φ) x2 hS1 hS2 r1 r2' h2 hp)
theorem znI(ho:Jc X (unaryOp op) r)(hp:aR X.K cA p (λvs H Q=>∃x,vs=[x]/\r x H Q))(ha:SE X cA sub aj F EX a A):SE X cA sub aj F EX (.UnaryOp op a pos) (.pr true p (.cons A .nil)):=PE.weak (Sq ho ha) λσ H Q hh=>un hh λφ τ s hL hS h=>by
 have h:Run X.K cA (M.bd (M.bd (ev sub aj F A τ) λx=>M.bd (M.ret []) λz=>M.ret (x::z)) λvs=>M.bd (eU vs) λds=>bK true (prim p ds)) φ H s _ _:=h;simp only[jy] at h;refine aW hL hS h λx H1 φ1 d1 s1 x1 hL1 hS1 r1 h1=>?_;obtain⟨ds,rs,h3⟩:=m8 hS1 (.cons r1 .nil) h1;obtain⟨_,e,q⟩:=hp φ1 H1 ds _ _ hS1.zs rs (mj hS1 h3);cases e;exact q
theorem zmm{j p'}(ha:SE X cA sub aj F EX a A):SE X cA sub aj F EX (.Compare a [.Is] [.Constant .none j p'] pos) (.pr true .Fp (.cons A .nil)):=PE.weak (Z4 (Z2 ha)) λσ H Q hh=>un hh λφ τ s hL hS h=>by
 have h:Run X.K cA (M.bd (M.bd (ev sub aj F A τ) λx=>M.bd (M.ret []) λz=>M.ret (x::z)) λvs=>M.bd (eU vs) λds=>bK true (prim .Fp ds)) φ H s _ _:=h;simp only[jy] at h;refine aW hL hS h λx H1 φ1 d1 s1 x1 hL1 hS1 r1 h1=>?_;obtain⟨ds,rs,h3⟩:=m8 hS1 (.cons r1 .nil) h1;cases rs with
 |cons r rs=>cases rs with
  |nil=>
   rename_i d;have h4:=mj hS1 h3;have q:=h4 H1 _ bG.refl (.bl _);cases d<;>first
    |(obtain⟨_,_,rfl,_,_⟩:=r;exact q)
    |(cases (show Rep _ _ _ _ _ x from r)<;>exact q)
theorem Uv{K:PySem.W.Frag}{φ:Ph}{H:Hp}{s:S}{x:Xv}{v:V}{Q:Bool->Hp->Prop}{Ee:Nat->List D->S->Ph->Hp->Prop}(hS:aG K cA φ H s)(r:bB K cA φ H x v)(h:Run K cA (bool x) φ H s (λd _ φ' H'=>Q d H') Ee):∃k,v=.bl k/\Q k H:=by
 cases r with
 |l _=>exact h.elim
 |d rv=>cases rv with
  |bl k=>exact⟨k,rfl,h φ H Ext.refl hS⟩
  |_=>exact h.elim
theorem NZ{b:Bool}{K:PySem.W.Frag}{φ:Ph}{H:Hp}{s:S}{Q:Bool->Hp->Prop}{Ee:Nat->List D->S->Ph->Hp->Prop}(hS:aG K cA φ H s)(h:Run K cA (M.bd (M.ret (Xv.d (.bl b))) bool) φ H s (λd _ φ' H'=>Q d H') Ee):Q b H:=h φ H Ext.refl hS
theorem zmx{op op':CmpOp}{r r':R2}{q:Pr}(ho:cU X (compareOp op) r)(hp:aR X.K cA p (r2 r))(ho':cU X (compareOp op') r')(hp':aR X.K cA q (r2 r'))(ha:SE X cA sub aj F EX a A)(hb:SE X cA sub aj F EX b B)(hc:SE X cA sub aj F EX c C)(hm:lastMarks [op,op'] [b,c]=false:=by with_unfolding_all rfl) :
  ST X cA sub aj F EX (.Compare a [op,op'] [b,c] pos) (.qz p q A B C):=PT.weak (zhd ho ho' ha hb hc hm) λσ H Q hh=>un hh λφ τ s hL hS h=>by
 have h:Run X.K cA (M.bd (M.bd (ev sub aj F A τ) λx=>M.bd (ev sub aj F B τ) λy=>M.bd (eU [x,y]) λds=>M.bd (bK true (prim p ds)) λt=>M.bd (bool t) λk=>
   if k=true then M.bd (ev sub aj F C τ) λz=>M.bd (eU [y,z]) λds=>bK true (prim q ds) else M.ret (.d (.bl false))) bool) φ H s _ _:=h
 simp only[jy] at h;refine aW hL hS h λx H1 φ1 d1 s1 x1 hL1 hS1 r1 h1=>aW hL1 hS1 h1 λy H2 φ2 d2 s2 x2 hL2 hS2 r2' h2=>?_;obtain⟨ds,rs,h3⟩:=m8 hS2 (.cons (r1.mono x2 hS1.lz) (.cons r2' .nil)) h2;refine pR (hp φ2 H2 ds _ _ hS2.zs rs (mj (Ee:=eX X.K cA EX σ) hS2 (h3.bd.imp λt s3 φ3 H3 ⟨x3,iZ,h4⟩ v rv=>?_)));obtain⟨k,_,e,h5⟩:=v8 rv h4;refine⟨k,e,?_⟩;cases k with
 |false=>exact iF ⟨false,rfl,NZ iZ h5⟩
 |true=>
  have qH:=hL2.mono x3 hS2.lz;rw[if_pos rfl] at h5;simp only[jy] at h5;refine iT (aW qH iZ h5 λz H4 φ4 d4 s4 x4 Ge jE r4 h6=>?_);obtain⟨ds,rs,h7⟩:=m8 jE (.cons ((r2'.mono x3 hS2.lz).mono x4 iZ.lz) (.cons r4 .nil)) h6;refine pR (hp' φ4 H4 ds _ _ jE.zs rs (mj (Ee:=eX X.K cA EX σ) jE (h7.bd.imp λt s5 φ5 H5 ⟨x5,sZ,h8⟩ v rv=>?_)));exact Uv sZ rv h8
theorem zgu{op op' gA:CmpOp}{r r' r'':R2}{ta tb tc td:TE}(h1:cU X (compareOp op) r)(h2:cU X (compareOp op') r')(h3:cU X (compareOp gA) r'')(ha:PE X a ta)(hb:PE X b tb)(hc:PE X c tc)(hd:PE X d td)
  (hm:lastMarks [op,op',gA] [b,c,d]=false:=by with_unfolding_all rfl):PT X (.Compare a [op,op',gA] [b,c,d] pos) (λσ H Q=>ta σ H λx H1=>tb σ H1 λy H2=>r x y H2 λz H3=>∃k,z=.bl k /\
   (if k=true then tc σ H3 λw' H4=>r' y w' H4 λz2 H5=>∃k2,z2=.bl k2/\(if k2=true then td σ H5 λw2 H6=>r'' w' w2 H6 λz3 H7=>∃k3,z3=.bl k3/\Q k3 H7 else Q false H5) else Q false H3)):=by
 intro ak s σ H Q I h;refine isTrue_chain (aV (ha ak s σ H _ I h) λv s1 hx=>dN hx λx H1 I1 r1 q1=>test_link (aV (hb ak s1 σ H1 _ I1 q1) λu s2 hx=>dN hx λy H2 I2 r2 q2=>
  aV (h1 ak s2 σ H2 x y v u _ I2 r1 r2 q2) λd s3 hx=>uI hx λz H3 I3 r3 k e q3=>?_)) hm
 subst e;cases r3;refine pC ?_;cases k with
 |false=>exact ite_ff ⟨H3,I3,q3⟩
 |true=>
  refine ite_tt (test_link (aV (hc ak s3 σ H3 _ I3 q3) λw' s4 hx=>dN hx λz' H4 I4 r4 q4=>aV (h2 ak s4 σ H4 y z' u w' _ I4 r2 r4 q4) λd' s5 hx=>uI hx λz2 H5 I5 r5 k2 e2 q5=>?_));subst e2;cases r5;refine pC ?_;cases k2 with
  |false=>exact ite_ff ⟨H5,I5,q5⟩
  |true=>
   refine ite_tt (test_last (aV (hd ak s5 σ H5 _ I5 q5) λw2 s6 hx=>dN hx λz3 H6 I6 r6 q6=>aV (h3 ak s6 σ H6 z' z3 w' w2 _ I6 r4 r6 q6) λd'' s7 hx=>uI hx λz4 H7 I7 r7 k3 e3 q7=>?_));subst e3;cases r7;exact pC ⟨H7,I7,q7⟩
theorem zl0{op op' gA:CmpOp}{r r' r'':R2}{q u:Pr}(h1:cU X (compareOp op) r)(p1:aR X.K cA p (r2 r))(h2:cU X (compareOp op') r')(p2:aR X.K cA q (r2 r'))(h3:cU X (compareOp gA) r'')(p3:aR X.K cA u (r2 r''))(ha:SE X cA sub aj F EX a A)(hb:SE X cA sub aj F EX b B)(hc:SE X cA sub aj F EX c C)(hd:SE X cA sub aj F EX d Dd)
  (hm:lastMarks [op,op',gA] [b,c,d]=false:=by with_unfolding_all rfl):ST X cA sub aj F EX (.Compare a [op,op',gA] [b,c,d] pos) (.sW p q u A B C Dd):=PT.weak (zgu h1 h2 h3 ha hb hc hd hm) λσ H Q hh=>un hh λφ τ s hL hS h=>by
 have h:Run X.K cA (M.bd (M.bd (ev sub aj F A τ) λx=>M.bd (ev sub aj F B τ) λy=>M.bd (eU [x,y]) λds=>M.bd (bK true (prim p ds)) λt=>M.bd (bool t) λk=>
   if k=true then M.bd (ev sub aj F C τ) λz=>M.bd (eU [y,z]) λds=>M.bd (bK true (prim q ds)) λt=>M.bd (bool t) λk2=>
    if k2=true then M.bd (ev sub aj F Dd τ) λw=>M.bd (eU [z,w]) λds=>bK true (prim u ds) else M.ret (.d (.bl false))
   else M.ret (.d (.bl false))) bool) φ H s _ _:=h
 simp only[jy] at h;refine aW hL hS h λx H1 φ1 d1 s1 x1 hL1 hS1 r1 h1=>aW hL1 hS1 h1 λy H2 φ2 d2 s2 x2 hL2 hS2 r2' h2=>?_;obtain⟨ds,rs,h3⟩:=m8 hS2 (.cons (r1.mono x2 hS1.lz) (.cons r2' .nil)) h2;refine pR (p1 φ2 H2 ds _ _ hS2.zs rs (mj (Ee:=eX X.K cA EX σ) hS2 (h3.bd.imp λt s3 φ3 H3 ⟨x3,iZ,h4⟩ v rv=>?_)));obtain⟨k,_,e,h5⟩:=v8 rv h4;refine⟨k,e,?_⟩;cases k with
 |false=>exact iF (NZ iZ h5)
 |true=>
  have qH:=hL2.mono x3 hS2.lz;rw[if_pos rfl] at h5;simp only[jy] at h5;refine iT (aW qH iZ h5 λz H4 φ4 d4 s4 x4 Ge jE r4 h6=>?_);obtain⟨ds,rs,h7⟩:=m8 jE (.cons ((r2'.mono x3 hS2.lz).mono x4 iZ.lz) (.cons r4 .nil)) h6;refine pR (p2 φ4 H4 ds _ _ jE.zs rs (mj (Ee:=eX X.K cA EX σ) jE (h7.bd.imp λt s5 φ5 H5 ⟨x5,sZ,h8⟩ v rv=>?_)));obtain⟨k2,_,e,h9⟩:=v8 rv h8;refine⟨k2,e,?_⟩;cases k2 with
  |false=>exact iF (NZ sZ h9)
  |true=>
   have NT:=Ge.mono x5 jE.lz;rw[if_pos rfl] at h9;simp only[jy] at h9;refine iT (aW NT sZ h9 λz H6 φ6 d6 s6 x6 hL6 Gf r6 h10=>?_);obtain⟨ds,rs,h11⟩:=m8 Gf (.cons ((r4.mono x5 jE.lz).mono x6 sZ.lz) (.cons r6 .nil)) h10;refine pR (p3 φ6 H6 ds _ _ Gf.zs rs (mj (Ee:=eX X.K cA EX σ) Gf (h11.bd.imp λt s7 φ7 H7 ⟨x7,hS7,h12⟩ v rv=>?_)));exact Uv hS7 rv h12
end
mutual
inductive Is (h:Heap):D->Value->Prop where
 |non:Is h .non .none
 |bl (b:Bool):Is h (.bl b) (.bool b)
 |int (i:Int) (t:Tok):Is h (.int i) (.int i t)
 |str (x:Str) (t:Tok):Is h (.str x) (.str x t)
 |tup {a:Addr} {xs:List D} {its:List Value} (p:h.IsTuple a its.toArray) (r:k_ h xs its):Is h (.tup xs) (.ref a)
 |fl {a:Addr} {xs:List D} {its:List Value} (p:h.IsList a its.toArray) (r:k_ h xs its):Is h (.fl xs) (.ref a)
 |oth {d:D} {u:Value} (k:kq d=none):Is h d u
inductive k_ (h:Heap):List D->List Value->Prop where
 |nil:k_ h [] []
 |cons {d:D} {u:Value} {ds:List D} {us:List Value} (a:Is h d u) (r:k_ h ds us):k_ h (d::ds) (u::us)
end
section
variable {X:Cx}{cA:Cl}{ak:List (Addr×Obj)}{σ:L2.St}{H:Hp}{s:Shared}{φ:Ph}{h:Heap}
theorem N5(I:Inv X ak σ H s){ds:List D}{vs:List V}{us:List Value}(h:aC X.K cA φ H ds vs)(r:Vals vs us):k_ s.heap ds us:=
 aC.rec (motive_1:=λd v _=>∀{u:Value},RelV v u->Is s.heap d u) (motive_2:=λd v _=>∀{u:List Value},Vals v u->k_ s.heap d u) (λr=>by cases r;exact .non) (λb _ r=>by cases r;exact .bl b) (λi _ r=>by obtain⟨t,rfl⟩:=r;exact .int i t) (λi _ r=>by obtain⟨t,rfl⟩:=r;exact .str i t)
 (λh _ ih _ r=>by
  cases r;obtain⟨its,rv,ht,_⟩:=I.tuple h.jx;exact .tup ht (ih rv))
 (λh _ ih _ r=>by
  cases r;obtain⟨its,rv,ht,_⟩:=I.list h.uK;exact .fl ht.isList (ih rv))
 (λ_ _ _ _=>.oth rfl) (λ_ _ _ _ _=>.oth rfl) (λ_ _ _ _ _=>.oth rfl)
 (λr=>by cases r;exact .nil)
 (λ_ _ i j _ r=>by
  cases r with
  |cons a b=>exact .cons (i a) (j b)) h r
theorem xV(I:Inv X ak σ H s){d:D}{v:V}{u:Value}(h:Rep X.K cA φ H d v)(r:RelV v u):Is s.heap d u:=by
 cases h with
 |non=>cases r;exact .non
 |bl b=>cases r;exact .bl b
 |int i=>obtain⟨t,rfl⟩:=r;exact .int i t
 |str i=>obtain⟨t,rfl⟩:=r;exact .str i t
 |tup h q=>
  cases r;obtain⟨its,rv,ht,_⟩:=I.tuple h.jx;exact .tup ht (N5 I q rv)
 |fl h q=>
  cases r;obtain⟨its,rv,ht,_⟩:=I.list h.uK;exact .fl ht.isList (N5 I q rv)
 |fd _ _=>exact .oth rfl
 |exc _ _=>exact .oth rfl
 |ob _ _=>exact .oth rfl
theorem BR(I:Inv X ak σ H s){d:D}{v:V}{u:Value}(q:Rv X.K cA φ H d v)(r:RelV v u):Is s.heap d u:=by
 cases d with
 |fl xs=>
  obtain⟨a,vs,rfl,sq,rs⟩:=q;cases r;obtain⟨its,rv,ht,_⟩:=I.list sq;exact .fl ht.isList (N5 I rs rv)
 |non=>exact xV I q r
 |bl b=>exact xV I q r
 |int b=>exact xV I q r
 |str b=>exact xV I q r
 |tup b=>exact xV I q r
 |fd b c=>exact xV I q r
 |exc b c=>exact xV I q r
 |ob b c=>exact xV I q r
theorem k_.len:∀{ds:List D} {us:List Value},k_ h ds us->ds.length=us.length
 |_,_,.nil=>rfl
 |_,_,.cons _ r=>by rw[gY,gY,k_.len r]
theorem k_.get:∀{ds:List D} {us:List Value} {i:Nat} {d:D},k_ h ds us->ds[i]?=some d->∃u,us[i]?=some u/\Is h d u
 |_,_,_,_,.nil,e=>by simp at e
 |_,_,0,_,.cons h _,e=>by simp at e;subst e;exact⟨_,rfl,h⟩
 |_,_,i+1,d,.cons _ r,e=>by
  obtain⟨v,a,b⟩:=k_.get (i:=i) (d:=d) r (by simpa using e);exact⟨v,by simpa using a,b⟩
theorem Uw{a:Addr}{is js:Array Value}(p:h.IsTuple a is)(q:h.IsTuple a js):is=js:=by
 obtain⟨o,e,c,n,d⟩:=p;obtain⟨o',e',c',n',d'⟩:=q;rw[e] at e';cases e';rw[d] at d';cases d';rfl
theorem Ux{a:Addr}{is js:Array Value}(p:h.IsList a is)(q:h.IsList a js):is=js:=by
 obtain⟨o,e,c,n,d⟩:=p;obtain⟨o',e',c',n',d'⟩:=q;rw[e] at e';cases e';rw[d] at d';cases d';rfl
theorem uL{a:Addr}{is js:Array Value}(p:h.IsList a is)(q:h.IsTuple a js):False:=by
 obtain⟨o,e,c,n,d⟩:=p;obtain⟨o',e',c',n',d'⟩:=q;rw[e] at e';cases e';rw[c] at c';exact absurd c' (by simp)
theorem Gg{eq:D->D->Option Bool}:∀{xs ys:List D} {b:Bool},dZ eq xs ys=some b->∃e:Nat->Bool,(∀(j:Nat) x y,xs[j]?=some x->ys[j]?=some y->eq x y=some (e j))/\b=((List.range (min xs.length ys.length)).all e&&xs.length==ys.length)
 |[],[],b,h=>by cases h;exact⟨λ_=>true,λj x y q=>by simp at q,by simp⟩
 |[],y::ys,b,h=>by cases h;exact⟨λ_=>true,λj x y q=>by simp at q,by simp⟩
 |x::xs,[],b,h=>by cases h;exact⟨λ_=>true,λj x y q r=>by simp at r,by simp⟩
 |x::xs,y::ys,b,h=>by
  simp only[dZ] at h;cases e1:eq x y with
  |none=>rw[e1] at h;cases h
  |some a=>
   cases e2:dZ eq xs ys with
   |none=>rw[e1,e2] at h;cases h
   |some c=>
    rw[e1,e2] at h;cases h;obtain⟨e,h1,h2⟩:=Gg e2;refine⟨λj=>match j with|0=>a|j+1=>e j,λj p q r1 r2=>?_,?_⟩
    ·cases j with
     |zero=>
      simp at r1 r2;subst r1 r2;exact e1
     |succ j=>exact h1 j p q (by simpa using r1) (by simpa using r2)
    ·rw[h2];simp only[gY,Nat.succ_min_succ,KY,kW,Bp,Function.comp_def];rw[Bool.and_assoc]
     congr 2
     simp
theorem ji{n:Nat}{d e:D}(k:kq d=none):cO n d e=none:=by
 cases n<;>cases d<;>first|cases k;done|(cases e<;>rfl)
theorem gR{n:Nat}{d e:D}(k:kq e=none):cO n d e=none:=by
 cases n<;>cases e<;>first|cases k;done|(cases d<;>rfl)
theorem Uy:∀(n:Nat) {d1 d2:D} {u:Value} {b:Bool},Is h d1 u->Is h d2 u->cO n d1 d2=some b->b=true:=by
 intro n;have rows:∀(n:Nat),(∀{d1 d2:D} {u:Value} {b:Bool},Is h d1 u->Is h d2 u->cO n d1 d2=some b->b=true)->∀{xs ys:List D} {is js:List Value} {b:Bool},k_ h xs is->k_ h ys js->is.toArray=js.toArray->dZ (cO n) xs ys=some b->b=true:=by
  intro n ih xs ys is js b q1 q2 e hd;have e:is=js:=by simpa using e
  subst e;obtain⟨e,a1,a2⟩:=Gg (eq:=cO n) hd;rw[a2];have hl:_=_:=q1.len.trans q2.len.symm;rw[cI];refine⟨gb.mpr λj hj=>?_,by rw[hl];simp⟩;have hj:=uE.mp hj;obtain⟨x,hx⟩ : ∃x,_=some x:=⟨_,fD (gH hj (Nat.min_le_left _ _))⟩;obtain⟨y,hy⟩ : ∃y,_=some y:=⟨_,fD (gH hj (Nat.min_le_right _ _))⟩;obtain⟨v1,e1,p1⟩:=q1.get hx;obtain⟨v2,e2,p2⟩:=q2.get hy;rw[e1] at e2;cases e2;exact ih p1 p2 (a1 j x y hx hy)
 induction n with
 |zero=>
  intro d1 d2 u b r1 r2 hd;cases r1 with
  |oth k=>rw[ji k] at hd;cases hd
  |non=>cases r2 with
   |oth k=>rw[gR k] at hd;cases hd
   |non=>cases hd;rfl
  |bl x=>cases r2 with
   |oth k=>rw[gR k] at hd;cases hd
   |bl y=>cases hd;simp
  |int x t=>cases r2 with
   |oth k=>rw[gR k] at hd;cases hd
   |int y=>cases hd;simp
  |str x t=>cases r2 with
   |oth k=>rw[gR k] at hd;cases hd
   |str y=>cases hd;simp
  |tup p q=>cases r2 with
   |oth k=>rw[gR k] at hd;cases hd
   |tup p2 q2=>cases hd
   |fl p2 q2=>exact(uL p2 p).elim
  |fl p q=>cases r2 with
   |oth k=>rw[gR k] at hd;cases hd
   |fl p2 q2=>cases hd
   |tup p2 q2=>exact(uL p p2).elim
 |succ n ih=>
  intro d1 d2 u b r1 r2 hd;cases r1 with
  |oth k=>rw[ji k] at hd;cases hd
  |non=>cases r2 with
   |oth k=>rw[gR k] at hd;cases hd
   |non=>cases hd;rfl
  |bl x=>cases r2 with
   |oth k=>rw[gR k] at hd;cases hd
   |bl y=>cases hd;simp
  |int x t=>cases r2 with
   |oth k=>rw[gR k] at hd;cases hd
   |int y=>cases hd;simp
  |str x t=>cases r2 with
   |oth k=>rw[gR k] at hd;cases hd
   |str y=>cases hd;simp
  |tup p q=>cases r2 with
   |oth k=>rw[gR k] at hd;cases hd
   |tup p2 q2=>exact rows n ih q q2 (Uw p p2) hd
   |fl p2 q2=>exact(uL p2 p).elim
  |fl p q=>cases r2 with
   |oth k=>rw[gR k] at hd;cases hd
   |fl p2 q2=>exact rows n ih q q2 (Ux p p2) hd
   |tup p2 q2=>exact(uL p p2).elim
theorem parts{n:Nat}{A:Around}{xs ys:List D}{is js:List Value}{b:Bool}(r1:k_ s.heap xs is)(r2:k_ s.heap ys js)(hd:dZ (cO n) xs ys=some b)
  (ih:∀{d1 d2:D} {u1 u2:Value} {b:Bool},Is s.heap d1 u1->Is s.heap d2 u2->cO n d1 d2=some b->SeqAt.EqAt A s u1 u2 b) :
  ∃e:Nat->Bool,(∀j (h1:j<is.toArray.size) (h2:j<js.toArray.size),SeqAt.EqAt A s is.toArray[j] js.toArray[j] (e j))/\b=((List.range (min is.toArray.size js.toArray.size)).all e&&is.toArray.size==js.toArray.size):=by
 obtain⟨e,a1,a2⟩:=Gg hd;have z1:=r1.len;have z2:=r2.len;refine⟨e,λj h1 h2=>?_,by simp only[dD,<-z1,<-z2];exact a2⟩;simp only[dD] at h1 h2;obtain⟨x,hx⟩ : ∃x,xs[j]?=some x:=⟨_,fD (by rw[z1];exact h1)⟩;obtain⟨y,hy⟩ : ∃y,ys[j]?=some y:=⟨_,fD (by rw[z2];exact h2)⟩;obtain⟨u,f1,g1⟩:=r1.get hx;obtain⟨u',f2,g2⟩:=r2.get hy;have k1:is.toArray[j]=u:=by
  have:=jo.mp f1;simpa using this.2
 have k2:js.toArray[j]=u':=by
  have:=jo.mp f2;simpa using this.2
 rw[k1,k2];exact ih g1 g2 (a1 j x y hx hy)
theorem Uz{A:Around}{l m:Addr}{is js:Array Value}{e:Nat->Bool}{b:Bool}(p1:s.heap.IsList l is)(p2:s.heap.IsList m js)(hu:A.units<cLine)(he:∀j (h1:j<is.size) (h2:j<js.size),SeqAt.EqAt A.in1 s is[j] js[j] (e j))(hb:b=((List.range (min is.size js.size)).all e&&is.size==js.size)):SeqAt.RcAt A s (.ref l) (.ref m) b:=by
 by_cases hz:is.size=js.size
 ·have:b=(List.range is.size).all e:=by rw[hb,hz];simp
  rw[this];exact SeqAt.RcAt.lists p1 p2 hz hu he
 ·have hz':(is.size != js.size)=true:=by simpa using hz
  have:b=false:=by rw[hb];simp[hz]
  rw[this];exact SeqAt.RcAt.lists_lengths p1 p2 hz' hu
theorem zg8{A:Around}{l m:Addr}{is js:Array Value}{e:Nat->Bool}{b:Bool}(p1:s.heap.IsList l is)(p2:s.heap.IsList m js)(hu:A.units<cLine)(he:∀j (h1:j<is.size) (h2:j<js.size),SeqAt.EqAt A.in1 s is[j] js[j] (e j))(hb:b=((List.range (min is.size js.size)).all e&&is.size==js.size)):SeqAt.RcNeAt A s (.ref l) (.ref m) (!b):=by
 by_cases hz:is.size=js.size
 ·have:b=(List.range is.size).all e:=by rw[hb,hz];simp
  rw[this];exact SeqAt.RcNeAt.lists p1 p2 hz hu he
 ·have hz':(is.size != js.size)=true:=by simpa using hz
  have:b=false:=by rw[hb];simp[hz]
  rw[this];exact SeqAt.RcNeAt.lists_lengths p1 p2 hz' hu
open SeqAt in
theorem Jo:∀(n:Nat) {A:Around} {d1 d2:D} {u1 u2:Value} {b:Bool},A.units+n<cLine->Is s.heap d1 u1->Is s.heap d2 u2->cO n d1 d2=some b->SeqAt.EqAt A s u1 u2 b:=by
 intro n
 induction n with
 |zero=>
  intro A d1 d2 u1 u2 b hu r1 r2 hd;have hu:A.units<cLine:=by lia
  cases r1 with
  |oth k=>rw[ji k] at hd;cases hd
  |non=>cases r2 with
   |oth k=>rw[gR k] at hd;cases hd
   |non=>cases hd;exact EqAt.same _
   |bl y=>cases hd;exact EqAt.none_bool _
   |int y t=>cases hd;exact EqAt.none_int _ _
   |str y t=>cases hd;exact EqAt.none_str _ _
   |tup p q=>cases hd;exact EqAt.none_tuple p hu
   |fl p q=>cases hd;exact EqAt.none_list p hu
  |bl x=>cases r2 with
   |oth k=>rw[gR k] at hd;cases hd
   |non=>cases hd;exact EqAt.bool_none _
   |bl y=>cases hd;exact EqAt.bool_bool _ _
   |int y t=>cases hd;exact EqAt.bool_int _ _ _
   |str y t=>cases hd;exact EqAt.bool_str _ _ _
   |tup p q=>cases hd;exact EqAt.bool_tuple _ p hu
   |fl p q=>cases hd;exact EqAt.bool_list _ p hu
  |int x t=>cases r2 with
   |oth k=>rw[gR k] at hd;cases hd
   |non=>cases hd;exact EqAt.int_none _ _
   |bl y=>cases hd;exact EqAt.int_bool _ _ _
   |int y t=>cases hd;exact EqAt.int_int _ _ _ _
   |str y t=>cases hd;exact EqAt.int_str _ _ _ _
   |tup p q=>cases hd;exact EqAt.int_tuple _ _ p hu
   |fl p q=>cases hd;exact EqAt.int_list _ _ p hu
  |str x t=>cases r2 with
   |oth k=>rw[gR k] at hd;cases hd
   |non=>cases hd;exact EqAt.str_none _ _
   |bl y=>cases hd;exact EqAt.str_bool _ _ _
   |int y t=>cases hd;exact EqAt.str_int _ _ _ _
   |str y t=>cases hd;exact EqAt.str_str _ _ _ _
   |tup p q=>cases hd;exact EqAt.str_tuple _ _ p hu
   |fl p q=>cases hd;exact EqAt.str_list _ _ p hu
  |tup p q=>cases r2 with
   |oth k=>rw[gR k] at hd;cases hd
   |non=>cases hd;exact EqAt.tuple_none p hu
   |bl y=>cases hd;exact EqAt.tuple_bool _ p hu
   |int y t=>cases hd;exact EqAt.tuple_int _ _ p hu
   |str y t=>cases hd;exact EqAt.tuple_str _ _ p hu
   |tup p2 q2=>cases hd
   |fl p2 q2=>cases hd;exact EqAt.tuple_list p p2 hu
  |fl p q=>cases r2 with
   |oth k=>rw[gR k] at hd;cases hd
   |non=>cases hd;exact EqAt.list_none p hu
   |bl y=>cases hd;exact EqAt.list_bool _ p hu
   |int y t=>cases hd;exact EqAt.list_int _ _ p hu
   |str y t=>cases hd;exact EqAt.list_str _ _ p hu
   |tup p2 q2=>cases hd;exact EqAt.list_tuple p p2 hu
   |fl p2 q2=>cases hd
 |succ n ih=>
  intro A d1 d2 u1 u2 b hu0 r1 r2 hd;have hu:A.units<cLine:=by lia
  have hin:A.in1.units+n<cLine:=by show A.units+1+n<cLine;lia
  cases r1 with
  |oth k=>rw[ji k] at hd;cases hd
  |non=>cases r2 with
   |oth k=>rw[gR k] at hd;cases hd
   |non=>cases hd;exact EqAt.same _
   |bl y=>cases hd;exact EqAt.none_bool _
   |int y t=>cases hd;exact EqAt.none_int _ _
   |str y t=>cases hd;exact EqAt.none_str _ _
   |tup p q=>cases hd;exact EqAt.none_tuple p hu
   |fl p q=>cases hd;exact EqAt.none_list p hu
  |bl x=>cases r2 with
   |oth k=>rw[gR k] at hd;cases hd
   |non=>cases hd;exact EqAt.bool_none _
   |bl y=>cases hd;exact EqAt.bool_bool _ _
   |int y t=>cases hd;exact EqAt.bool_int _ _ _
   |str y t=>cases hd;exact EqAt.bool_str _ _ _
   |tup p q=>cases hd;exact EqAt.bool_tuple _ p hu
   |fl p q=>cases hd;exact EqAt.bool_list _ p hu
  |int x t=>cases r2 with
   |oth k=>rw[gR k] at hd;cases hd
   |non=>cases hd;exact EqAt.int_none _ _
   |bl y=>cases hd;exact EqAt.int_bool _ _ _
   |int y t=>cases hd;exact EqAt.int_int _ _ _ _
   |str y t=>cases hd;exact EqAt.int_str _ _ _ _
   |tup p q=>cases hd;exact EqAt.int_tuple _ _ p hu
   |fl p q=>cases hd;exact EqAt.int_list _ _ p hu
  |str x t=>cases r2 with
   |oth k=>rw[gR k] at hd;cases hd
   |non=>cases hd;exact EqAt.str_none _ _
   |bl y=>cases hd;exact EqAt.str_bool _ _ _
   |int y t=>cases hd;exact EqAt.str_int _ _ _ _
   |str y t=>cases hd;exact EqAt.str_str _ _ _ _
   |tup p q=>cases hd;exact EqAt.str_tuple _ _ p hu
   |fl p q=>cases hd;exact EqAt.str_list _ _ p hu
  |@tup a1 xs is p q=>cases r2 with
   |oth k=>rw[gR k] at hd;cases hd
   |non=>cases hd;exact EqAt.tuple_none p hu
   |bl y=>cases hd;exact EqAt.tuple_bool _ p hu
   |int y t=>cases hd;exact EqAt.tuple_int _ _ p hu
   |str y t=>cases hd;exact EqAt.tuple_str _ _ p hu
   |@tup a2 ys js p2 q2=>
    by_cases ea:a1=a2
    ·subst ea;have:=Uy (n+1) (.tup p q) (.tup p2 q2) hd;subst this;exact EqAt.same _
    ·obtain⟨e,he,hb⟩:=parts (A:=A.in1) q q2 hd λa b c=>ih hin a b c;rw[hb];exact EqAt.of_refs ea (RcAt.tuples p p2 hu he)
   |fl p2 q2=>cases hd;exact EqAt.tuple_list p p2 hu
  |@fl a1 xs is p q=>cases r2 with
   |oth k=>rw[gR k] at hd;cases hd
   |non=>cases hd;exact EqAt.list_none p hu
   |bl y=>cases hd;exact EqAt.list_bool _ p hu
   |int y t=>cases hd;exact EqAt.list_int _ _ p hu
   |str y t=>cases hd;exact EqAt.list_str _ _ p hu
   |tup p2 q2=>cases hd;exact EqAt.list_tuple p p2 hu
   |@fl a2 ys js p2 q2=>
    by_cases ea:a1=a2
    ·subst ea;have:=Uy (n+1) (.fl p q) (.fl p2 q2) hd;subst this;exact EqAt.same _
    ·obtain⟨e,he,hb⟩:=parts (A:=A.in1) q q2 hd λa b c=>ih hin a b c;exact EqAt.of_refs ea (Uz p p2 hu he hb)
end
section
variable {X:Cx}{cA:Cl}{ak:List (Addr×Obj)}{σ:L2.St}{H:Hp}{s:Shared}{φ:Ph}{h:Heap}
open SeqAt in
theorem UG(hu0:A.units+(n+1)<cLine)(r1:Is s.heap d1 u1)(r2:Is s.heap d2 u2)(hd:cO (n+1) d1 d2=some b):RcAt A s u1 u2 b/\RcNeAt A s u1 u2 (!b):=by
 have hu:A.units<cLine:=by lia
 have hin:A.in1.units+n<cLine:=by show A.units+1+n<cLine;lia
 cases r1 with
 |oth k=>rw[ji k] at hd;cases hd
 |non=>cases r2 with
  |oth k=>rw[gR k] at hd;cases hd
  |non=>cases hd;exact⟨RcAt.none_none,RcNeAt.none_none⟩
  |bl y=>cases hd;exact⟨RcAt.none_bool _,RcNeAt.none_bool _⟩
  |int y t=>cases hd;exact⟨RcAt.none_int _ _,RcNeAt.none_int _ _⟩
  |str y t=>cases hd;exact⟨RcAt.none_str _ _,RcNeAt.none_str _ _⟩
  |tup p q=>cases hd;exact⟨RcAt.none_tuple p hu,RcNeAt.none_tuple p hu⟩
  |fl p q=>cases hd;exact⟨RcAt.none_list p hu,RcNeAt.none_list p hu⟩
 |bl x=>cases r2 with
  |oth k=>rw[gR k] at hd;cases hd
  |non=>cases hd;exact⟨RcAt.bool_none _,RcNeAt.bool_none _⟩
  |bl y=>cases hd;exact⟨RcAt.bool_bool _ _,RcNeAt.bool_bool _ _⟩
  |int y t=>cases hd;exact⟨RcAt.bool_int _ _ _,RcNeAt.bool_int _ _ _⟩
  |str y t=>cases hd;exact⟨RcAt.bool_str _ _ _,RcNeAt.bool_str _ _ _⟩
  |tup p q=>cases hd;exact⟨RcAt.bool_tuple _ p hu,RcNeAt.bool_tuple _ p hu⟩
  |fl p q=>cases hd;exact⟨RcAt.bool_list _ p hu,RcNeAt.bool_list _ p hu⟩
 |int x t=>cases r2 with
  |oth k=>rw[gR k] at hd;cases hd
  |non=>cases hd;exact⟨RcAt.int_none _ _,RcNeAt.int_none _ _⟩
  |bl y=>cases hd;exact⟨RcAt.int_bool _ _ _,RcNeAt.int_bool _ _ _⟩
  |int y t=>cases hd;exact⟨RcAt.int_int _ _ _ _,RcNeAt.int_int _ _ _ _⟩
  |str y t=>cases hd;exact⟨RcAt.int_str _ _ _ _,RcNeAt.int_str _ _ _ _⟩
  |tup p q=>cases hd;exact⟨RcAt.int_tuple _ _ p hu,RcNeAt.int_tuple _ _ p hu⟩
  |fl p q=>cases hd;exact⟨RcAt.int_list _ _ p hu,RcNeAt.int_list _ _ p hu⟩
 |str x t=>cases r2 with
  |oth k=>rw[gR k] at hd;cases hd
  |non=>cases hd;exact⟨RcAt.str_none _ _,RcNeAt.str_none _ _⟩
  |bl y=>cases hd;exact⟨RcAt.str_bool _ _ _,RcNeAt.str_bool _ _ _⟩
  |int y t=>cases hd;exact⟨RcAt.str_int _ _ _ _,RcNeAt.str_int _ _ _ _⟩
  |str y t=>cases hd;exact⟨RcAt.str_str _ _ _ _,RcNeAt.str_str _ _ _ _⟩
  |tup p q=>cases hd;exact⟨RcAt.str_tuple _ _ p hu,RcNeAt.str_tuple _ _ p hu⟩
  |fl p q=>cases hd;exact⟨RcAt.str_list _ _ p hu,RcNeAt.str_list _ _ p hu⟩
 |@tup a1 xs is p q=>cases r2 with
  |oth k=>rw[gR k] at hd;cases hd
  |non=>cases hd;exact⟨RcAt.tuple_none p hu,RcNeAt.tuple_none p hu⟩
  |bl y=>cases hd;exact⟨RcAt.tuple_bool _ p hu,RcNeAt.tuple_bool _ p hu⟩
  |int y t=>cases hd;exact⟨RcAt.tuple_int _ _ p hu,RcNeAt.tuple_int _ _ p hu⟩
  |str y t=>cases hd;exact⟨RcAt.tuple_str _ _ p hu,RcNeAt.tuple_str _ _ p hu⟩
  |@tup a2 ys js p2 q2=>
   obtain⟨e,he,hb⟩:=parts (A:=A.in1) q q2 hd λa b c=>Jo n hin a b c;rw[hb];exact⟨RcAt.tuples p p2 hu he,RcNeAt.tuples p p2 hu he⟩
  |fl p2 q2=>cases hd;exact⟨RcAt.tuple_list p p2 hu,RcNeAt.tuple_list p p2 hu⟩
 |@fl a1 xs is p q=>cases r2 with
  |oth k=>rw[gR k] at hd;cases hd
  |non=>cases hd;exact⟨RcAt.list_none p hu,RcNeAt.list_none p hu⟩
  |bl y=>cases hd;exact⟨RcAt.list_bool _ p hu,RcNeAt.list_bool _ p hu⟩
  |int y t=>cases hd;exact⟨RcAt.list_int _ _ p hu,RcNeAt.list_int _ _ p hu⟩
  |str y t=>cases hd;exact⟨RcAt.list_str _ _ p hu,RcNeAt.list_str _ _ p hu⟩
  |tup p2 q2=>cases hd;exact⟨RcAt.list_tuple p p2 hu,RcNeAt.list_tuple p p2 hu⟩
  |@fl a2 ys js p2 q2=>
   obtain⟨e,he,hb⟩:=parts (A:=A.in1) q q2 hd λa b c=>Jo n hin a b c;exact⟨Uz p p2 hu he hb,zg8 p p2 hu he hb⟩
noncomputable def wg(K:PySem.W.Frag)(cA:Cl)(f:Bool->Bool):R2:=λx y H Q=>∃φ d1 d2 b,Rv K cA φ H d1 x/\Rv K cA φ H d2 y/\cO 50 d1 d2=some b/\Q (.bl (f b)) H
theorem zlz(hu:X.A.units+60<cLine):cU X (compareOp .Eq) (wg X.K cA id):=by
 intro ak s σ H x y v u Q I rx ry ⟨φ,d1,d2,b,r1,r2,hd,q⟩;exact(UG (n:=49) (by lia) (BR I r1 rx) (BR I r2 ry) hd).1 X.prog X.w X.xe _ ⟨.bl b,H,I,rfl,q⟩
theorem zkS(hu:X.A.units+60<cLine):cU X (compareOp .NotEq) (wg X.K cA not):=by
 intro ak s σ H x y v u Q I rx ry ⟨φ,d1,d2,b,r1,r2,hd,q⟩;exact(UG (n:=49) (by lia) (BR I r1 rx) (BR I r2 ry) hd).2 X.prog X.w X.xe _ ⟨.bl (!b),H,I,rfl,q⟩
theorem zki:∀(n:Nat) {d d' x:D} {u:Value} {b b':Bool},Is h d u->Is h d' u->cO n d x=some b->cO n d' x=some b'->b=b':=by
 intro n;have flat:∀{d d' x:D} {u:Value} {b b':Bool},Is h d u->Is h d' u->(∀xs xs',d=.tup xs->d'=.tup xs'->False)->(∀xs xs',d=.fl xs->d'=.fl xs'->False)->cO n d x=some b->cO n d' x=some b'->b=b':=by
  intro d d' x u b b' r1 r2 n1 n2 h1 h2;cases r1 with
  |oth k=>rw[ji k] at h1;cases h1
  |non=>cases r2 with
   |oth k=>rw[ji k] at h2;cases h2
   |non=>rw[h1] at h2;exact dw h2
  |bl y=>cases r2 with
   |oth k=>rw[ji k] at h2;cases h2
   |bl=>rw[h1] at h2;exact dw h2
  |int y=>cases r2 with
   |oth k=>rw[ji k] at h2;cases h2
   |int=>rw[h1] at h2;exact dw h2
  |str y=>cases r2 with
   |oth k=>rw[ji k] at h2;cases h2
   |str=>rw[h1] at h2;exact dw h2
  |tup p q=>cases r2 with
   |oth k=>rw[ji k] at h2;cases h2
   |tup=>exact(n1 _ _ rfl rfl).elim
   |fl p2 q2=>exact(uL p2 p).elim
  |fl p q=>cases r2 with
   |oth k=>rw[ji k] at h2;cases h2
   |fl=>exact(n2 _ _ rfl rfl).elim
   |tup p2 q2=>exact(uL p p2).elim
 have tn:∀{n:Nat} {xs xs':List D} {x:D},(∀ys,x=.tup ys->False)->cO n (.tup xs) x=cO n (.tup xs') x:=λ{n xs xs' x} hx=>by
  cases n<;>cases x<;>first|rfl|exact(hx _ rfl).elim
 have ln:∀{n:Nat} {xs xs':List D} {x:D},(∀ys,x=.fl ys->False)->cO n (.fl xs) x=cO n (.fl xs') x:=λ{n xs xs' x} hx=>by
  cases n<;>cases x<;>first|rfl|exact(hx _ rfl).elim
 clear flat
 induction n with
 |zero=>
  intro d d' x u b b' r1 r2 h1 h2;cases r1 with
  |oth k=>rw[ji k] at h1;cases h1
  |non=>cases r2 with
   |oth k=>rw[ji k] at h2;cases h2
   |non=>rw[h1] at h2;exact dw h2
  |bl y=>cases r2 with
   |oth k=>rw[ji k] at h2;cases h2
   |bl=>rw[h1] at h2;exact dw h2
  |int y=>cases r2 with
   |oth k=>rw[ji k] at h2;cases h2
   |int=>rw[h1] at h2;exact dw h2
  |str y=>cases r2 with
   |oth k=>rw[ji k] at h2;cases h2
   |str=>rw[h1] at h2;exact dw h2
  |tup p q=>cases r2 with
   |oth k=>rw[ji k] at h2;cases h2
   |tup p2 q2=>
    cases x with
    |tup ys=>cases h1
    |_=>rw[tn (by intro ys z;cases z),h2] at h1;exact(dw h1).symm
   |fl p2 q2=>exact(uL p2 p).elim
  |fl p q=>cases r2 with
   |oth k=>rw[ji k] at h2;cases h2
   |fl p2 q2=>
    cases x with
    |fl ys=>cases h1
    |_=>rw[ln (by intro ys z;cases z),h2] at h1;exact(dw h1).symm
   |tup p2 q2=>exact(uL p p2).elim
 |succ n ih=>
  intro d d' x u b b' r1 r2 h1 h2;have rows:∀{xs xs' ys:List D} {is js:List Value} {b b':Bool},k_ h xs is->k_ h xs' js->is.toArray=js.toArray->dZ (cO n) xs ys=some b->dZ (cO n) xs' ys=some b'->b=b':=by
   intro xs xs' ys is js b b' q1 q2 e h1 h2;have e:is=js:=by simpa using e
   subst e;obtain⟨e1,a1,b1⟩:=Gg h1;obtain⟨e2,a2,b2⟩:=Gg h2;have hl:xs.length=xs'.length:=q1.len.trans q2.len.symm;rw[b1,b2,hl]
   congr 1
   rw[Bool.eq_iff_iff,gb,gb];have key:∀j∈List.range (min xs'.length ys.length),e1 j=e2 j:=λj hj=>by
    have hj:=uE.mp hj;obtain⟨x1,hx1⟩ : ∃x,xs[j]?=some x:=⟨_,fD (by rw[hl];exact gH hj (Nat.min_le_left _ _))⟩;obtain⟨x2,hx2⟩ : ∃x,xs'[j]?=some x:=⟨_,fD (gH hj (Nat.min_le_left _ _))⟩;obtain⟨y,hy⟩ : ∃y,ys[j]?=some y:=⟨_,fD (gH hj (Nat.min_le_right _ _))⟩;obtain⟨v1,f1,p1⟩:=q1.get hx1;obtain⟨v2,f2,p2⟩:=q2.get hx2;rw[f1] at f2;cases f2;exact ih p1 p2 (a1 j x1 y hx1 hy) (a2 j x2 y hx2 hy)
   exact⟨λz j hj=>by rw[<-key j hj];exact z j hj,λz j hj=>by rw[key j hj];exact z j hj⟩
  cases r1 with
  |oth k=>rw[ji k] at h1;cases h1
  |non=>cases r2 with
   |oth k=>rw[ji k] at h2;cases h2
   |non=>rw[h1] at h2;exact dw h2
  |bl y=>cases r2 with
   |oth k=>rw[ji k] at h2;cases h2
   |bl=>rw[h1] at h2;exact dw h2
  |int y=>cases r2 with
   |oth k=>rw[ji k] at h2;cases h2
   |int=>rw[h1] at h2;exact dw h2
  |str y=>cases r2 with
   |oth k=>rw[ji k] at h2;cases h2
   |str=>rw[h1] at h2;exact dw h2
  |tup p q=>cases r2 with
   |oth k=>rw[ji k] at h2;cases h2
   |tup p2 q2=>
    cases x with
    |tup ys=>exact rows q q2 (Uw p p2) h1 h2
    |_=>rw[tn (by intro ys z;cases z),h2] at h1;exact(dw h1).symm
   |fl p2 q2=>exact(uL p2 p).elim
  |fl p q=>cases r2 with
   |oth k=>rw[ji k] at h2;cases h2
   |fl p2 q2=>
    cases x with
    |fl ys=>exact rows q q2 (Ux p p2) h1 h2
    |_=>rw[ln (by intro ys z;cases z),h2] at h1;exact(dw h1).symm
   |tup p2 q2=>exact(uL p p2).elim
theorem UJ:∀{xs:List D} {b:Bool},memD x xs=some b->∀d∈xs,∃k,cO 50 d x=some k
 |[],_,_,d,hd=>by cases hd
 |y::xs,b,h,d,hd=>by
  unfold memD at h;cases e1:cO 50 y x with
  |none=>simp only[e1] at h;cases h
  |some a=>
   cases e2:memD x xs with
   |none=>simp only[e1,e2] at h;cases h
   |some c=>
    rcases cM.mp hd with rfl|hd
    ·exact⟨a,e1⟩
    ·exact UJ e2 d hd
theorem UL:∀{xs:List D} {us:List Value} {b:Bool},memD x xs=some b->k_ h xs us->∃e:Value->Bool,(∀u∈us,∃d,Is h d u/\cO 50 d x=some (e u))/\us.any e=b:=by
 intro xs us b hm r;have ex:∀u∈us,∃d k,Is h d u/\cO 50 d x=some k:=by
  intro u hu;obtain⟨i,hi,e⟩:=Bc hu;have hl:=r.len;obtain⟨d,hd⟩ : ∃d,xs[i]?=some d:=⟨_,fD (by lia)⟩;obtain⟨u',e1,q⟩:=r.get hd;rw[fD hi,e] at e1;cases e1;obtain⟨k,hk⟩:=UJ hm d (gU hd);exact⟨d,k,q,hk⟩
 refine⟨λu=>by classical exact if z:∃k,∃d,Is h d u/\cO 50 d x=some k then z.choose else false,λu hu=>?_,?_⟩
 ·obtain⟨d,k,q,hk⟩:=ex u hu;have z:∃k,∃d,Is h d u/\cO 50 d x=some k:=⟨k,d,q,hk⟩;dsimp only;rw[dif_pos z];exact z.choose_spec
 ·clear ex;have key:∀(xs:List D) (us:List Value) (b:Bool),memD x xs=some b->k_ h xs us->us.any (λu=>by classical exact if z:∃k,∃d,Is h d u/\cO 50 d x=some k then z.choose else false)=b:=by
   intro xs
   induction xs with
   |nil=>intro us b hm r;cases r;cases hm;rfl
   |cons d ds ih=>
    intro us b hm r;cases r with
    |@cons _ u _ us a r=>
     unfold memD at hm;cases e1:cO 50 d x with
     |none=>simp only[e1] at hm;cases hm
     |some k=>
      cases e2:memD x ds with
      |none=>simp only[e1,e2] at hm;cases hm
      |some c=>
       simp only[e1,e2] at hm;cases hm;rw[List.any_cons];have z:∃k,∃d,Is h d u/\cO 50 d x=some k:=⟨k,d,a,e1⟩;have hk:z.choose=k:=by
        obtain⟨d',q,hd'⟩:=z.choose_spec;exact zki 50 q a hd' e1
       rw[dif_pos z,hk,ih us c e2 r]
  exact key xs us b hm r
noncomputable def Gh(K:PySem.W.Frag)(cA:Cl)(f:Bool->Bool):R2:=λx y H Q=>∃φ d1 d2 xs b,Rv K cA φ H d1 x/\Rv K cA φ H d2 y/\mY d2=some xs/\memD d1 xs=some b/\Q (.bl (f b)) H
theorem zkX(hu:X.A.units+60<cLine):cU X (compareOp .In) (Gh X.K cA id):=by
 intro ak s σ H x y v u Q I rx ry ⟨φ,d1,d2,xs,b,r1,r2,hq,hm,q⟩;have hin:X.A.in1.units+50<cLine:=by show X.A.units+1+50<cLine;lia
 have i1:=BR I r1 rx;cases BR I r2 ry with
 |tup p r=>
  cases hq;obtain⟨e,he,hb⟩:=UL hm r;refine SeqAt.in_tupleAt e p (λw hw=>?_) ⟨.bl b,H,I,by rw[<-hb];simp[L2.RelV],q⟩;obtain⟨d,q1,q2⟩:=he w (by simpa using hw);exact Jo 50 hin q1 i1 q2
 |fl p r=>
  cases hq;obtain⟨e,he,hb⟩:=UL hm r;refine SeqAt.in_listAt e p (λw hw=>?_) ⟨.bl b,H,I,by rw[<-hb];simp[L2.RelV],q⟩;obtain⟨d,q1,q2⟩:=he w (by simpa using hw);exact Jo 50 hin q1 i1 q2
 |oth k=>cases d2<;>cases hq<;>cases k
 |_=>cases hq
end
end Mi
namespace HT
open PySem PyProof.Rows
section
variable {prog:Program}{w:World}{A:Around}{E:Value->Shared->Prop}{s:Shared}
theorem tu{t b:Addr}{vs ws:List Value}{Q:Value->Shared->Prop}(ht:IsTup s.heap t vs.toArray)(hb:IsTup s.heap b ws.toArray)(hv:vs=[])
  (h1:Q (.ref b) s):wpAny (model prog w) A (binaryOp .Add (.ref t) (.ref b)) Q E s:=by
 obtain⟨⟨cls,dd,data,sl⟩,ho,hc,n,hd⟩:=id ht;obtain⟨⟨cls2,dd2,data2,sl2⟩,ho2,hc2,n2,hd2⟩:=id hb;simp only at hc hd hc2 hd2;subst hc hd hc2 hd2;exact concat_meets ⟨_,ho,rfl⟩ ⟨_,ho2,rfl⟩ noFill_tuple_add seq_tuple_add KR KN (KJ _ _)
   (tuple_addW0 t b vs.toArray ws.toArray n n2 dd dd2 sl sl2 (by simp[hv])) ⟨ho,ho2,h1⟩
theorem gB{t sl:Addr}{items:Array Value}{vl vu:Value}{lo hi:Option Int}{Q:Value->Shared->Prop}(ht:IsTup s.heap t items)(hs:s.heap.IsSliceOf sl vl vu .none)(pl:IsPart vl lo)(pu:IsPart vu hi)
  (hw:bN items.size 0 lo=0/\bN items.size items.size hi=items.size) (h:Q (.ref t) s):wpAny (model prog w) A (getItem (.ref t) (.ref sl)) Q E s:=by
 obtain⟨os,hos,hcs,hds⟩:=id hs;have hTs:s.TypeIs (.ref sl) "slice":=⟨os,hos,hcs⟩;unfold getItem
 try with_reducible refine kE ?_
 first|refine au (aJ ?_)|skip
 refine au (wpAny_sequenceKey ht.typeIs (by decide) ?_);refine au (wN (name:=Str.ofString "__getitem__") ht.typeIs u_
  (qR u_ ht.typeIs entry_tuple_getitem ?_ (args_tuple_getitem _ _)))
 show wpAny _ _ (Builtin.Tuple.tupleItemsOf (.ref t) >>= _) _ _ s;refine au (tupleItemsOf_ ht ?_);refine au (xg hTs ?_);rw[if_pos (by decide)];refine au (S6 hs pl pu ?_);have hyes:(((bN items.size 0 lo:Nat):Int)==0&&(1:Int)==1&&(bN items.size items.size hi-bN items.size 0 lo)==items.size)=true:=by
  rw[hw.1,hw.2];simp
 show wpAny _ _ (if (((bN items.size 0 lo:Nat):Int)==0&&(1:Int)==1&&(bN items.size items.size hi-bN items.size 0 lo)==items.size)=true then _ else _) _ _ s;rw[if_pos hyes];refine au ?_;unfold Builtin.Tuple.tupleIsExact;refine au (xg ht.typeIs ?_);refine aJ ?_;rw[if_pos (by decide)];refine au (Bs ?_);exact aJ ⟨_,rfl,aJ h⟩
theorem zcf{i:Int}{t:Tok}{Q:Option Int->Shared->Prop}(h:Q (some i) s):wpAny (model prog w) A (Builtin.Slice.slicePartIndex (.int i t)) Q E s:=Mu (.int i t) h
theorem zbK{sl:Addr}{t:Tok}{n:Nat}{Q:Int×Int×Nat->Shared->Prop}(hs:s.heap.IsSliceOf sl .none .none (.int (-1) t))
  (h:Q ((n:Int)-1,-1,n) s):wpAny (model prog w) A (Builtin.Slice.sliceApplied (.ref sl) (pure (n:Int))) Q E s:=by
 obtain⟨os,hos,hcs,hds⟩:=id hs;unfold Builtin.Slice.sliceApplied Builtin.Slice.sliceFields;refine au (au (kI hos hds (x:=.none) rfl (au (kI hos hds (x:=.none) rfl (au (kI hos hds (x:=.int (-1) t) rfl (aJ ?_)))))));refine au (zcf ?_);show wpAny _ _ (if ((-1:Int)==0)=true then _ else _) _ _ s;rw[if_neg (by decide)];refine au (slicePart_none (au (slicePart_none (au (aJ ?_)))));show wpAny _ _ (pure ((n:Int)-1,(-1:Int),Builtin.Slice.slicePlaces ((n:Int)-1) (-1) (-1))) _ _ s;have e:Builtin.Slice.slicePlaces ((n:Int)-1) (-1) (-1)=n:=by
  unfold Builtin.Slice.slicePlaces;rw[if_neg (by decide)];by_cases hn:n=0
  ·subst hn;rfl
  ·rw[if_pos (by lia)];have:(-(-1:Int))=1:=rfl;rw[this,Int.ediv_one]
   lia
 rw[e];exact aJ h
theorem zhX(xs:Array Value):((List.range xs.size).filterMap λ(m:Nat)=>xs[(((xs.size:Int)-1)+(m:Int) * -1).toNat]?).toArray=xs.toList.reverse.toArray:=by
 have e:∀n,n<=xs.size->(List.range n).filterMap (λ(m:Nat)=>xs[(((xs.size:Int)-1)+(m:Int) * -1).toNat]?)=(xs.toList.reverse).take n:=by
  intro n
  induction n with
  |zero=>intro _;simp
  |succ n ih=>
   intro hn;have hlt:n<xs.toList.reverse.length:=by simp;lia
   rw[List.range_succ,List.filterMap_append,ih (by lia),List.take_succ_eq_append_getElem hlt]
   congr 1
   have:(((xs.size:Int)-1)+(n:Int) * -1).toNat=xs.size-1-n:=by lia
   simp only[wU,List.filterMap_nil,this];rw[CQ (by lia)];simp[List.getElem_reverse]
 rw[e xs.size (cg _),List.take_of_length_le (by simp)]
theorem iB(ht:IsTup s.heap t items)(hs:s.heap.IsSliceOf sl .none .none (.int (-1) tk))
  (h:Q (.ref s.heap.objs.size) {s with heap:=s.heap.push {cls:=.type "tuple",data:=.seq items.toList.reverse.toArray}})
  (hsz:items.size<=sizeLine):wpAny (model prog w) A (getItem (.ref t) (.ref sl)) Q E s:=by
 have iw:sizeOk (.seq items.toList.reverse.toArray):=by
  show items.toList.reverse.toArray.size<=sizeLine;simpa using hsz
 obtain⟨os,hos,hcs,hds⟩:=id hs;have hTs:s.TypeIs (.ref sl) "slice":=⟨os,hos,hcs⟩;unfold getItem
 try with_reducible refine kE ?_
 first|refine au (aJ ?_)|skip
 refine au (wpAny_sequenceKey ht.typeIs (by decide) ?_);refine au (wN (name:=Str.ofString "__getitem__") ht.typeIs u_
  (qR u_ ht.typeIs entry_tuple_getitem ?_ (args_tuple_getitem _ _)))
 show wpAny _ _ (Builtin.Tuple.tupleItemsOf (.ref t) >>= _) _ _ s;refine au (tupleItemsOf_ ht ?_);refine au (xg hTs ?_);rw[if_pos (by decide)];refine au (zbK hs ?_);show wpAny _ _ (if (((items.size:Int)-1)==0&&(-1:Int)==1&&items.size==items.size)=true then _ else _) _ _ s;rw[if_neg (by simp),zhX]
 first
  |exact au (m:=Builtin.Tuple.tupleExact _) (nO (aJ ⟨_,rfl,aJ h⟩) iw)
  |exact au (m:=Builtin.Tuple.tupleExact _) (nO (au (aJ (aJ ⟨_,rfl,aJ h⟩))) iw)
  |exact au (au (m:=Builtin.Tuple.tupleExact _) (nO (aJ (aJ ⟨_,rfl,aJ h⟩)) iw))
  |exact au (au (m:=Builtin.Tuple.tupleExact _) (nO (aJ ⟨_,rfl,aJ h⟩) iw))
end
end HT
namespace L2
open PySem PySem.Spec PyProof.Rows
section
variable {X:Cx}{e:Expr}{te:TE}{pos p2:Pos}
noncomputable def tD(K:PySem.W.Frag):R2:=λx y H Q=>∃a b xs ys,x=.ref a/\y=.ref b/\fL K H a xs/\fL K H b ys/\xs.length+ys.length<=sizeLine /\
 (xs=[]->Q (.ref b) H)/\(ys=[]->Q (.ref a) H)/\∀p,H p=none->Q (.ref p) (upd H p (.tup (xs++ys)))
theorem tG:cU X (binaryOp .Add) (tD X.K):=by
 intro ak s σ H x y v u Q I rx ry h;obtain⟨a,b,xs,ys,rfl,rfl,ha,hb,hz,q0,q1,q2⟩:=h;cases rx;cases ry;obtain⟨its,r1,p1,_⟩:=I.tuple ha;obtain⟨its2,r2,p2,_⟩:=I.tuple hb;by_cases hx:xs=[]
 ·exact HT.tu p1 p2 (r1.lR.mpr hx) ⟨.ref b,H,I,rfl,q0 hx⟩
 ·refine HT.vK p1 p2 (λz=>hx (r1.lR.mp z)) (λz=>⟨.ref a,H,I,rfl,q1 (r2.lR.mp z)⟩) (λz=>?_) (by rw[<-r1.length,<-r2.length];exact hz);refine⟨.ref s.heap.objs.size,_,I.laid (t':=s.toks) (o:=.tup (xs++ys)) (λb ob q=>bZ _ q) (cg _) ?_,rfl,q2 _ (I.hok.fresh (cg _))⟩;exact⟨by rw[cX];exact hz,_,r1.append r2,IsTup.new _ _⟩
noncomputable def xW(K:PySem.W.Frag):V->Option Int->Option Int->Hp->VK->Prop:=λx lo hi H Q=>∃a xs,x=.ref a/\fL K H a xs /\
 ((HT.bN xs.length 0 lo=0/\HT.bN xs.length xs.length hi=xs.length)->Q (.ref a) H)/\∀p,H p=none->Q (.ref p) (upd H p (.tup (lQ xs lo hi)))
theorem zjb:vN X (xW X.K):=by
 intro ak s σ H x v vl vu lo hi sl Q I rx hs pl pu h;obtain⟨a,xs,rfl,hx,hw,q⟩:=h;by_cases hz:HT.bN xs.length 0 lo=0/\HT.bN xs.length xs.length hi=xs.length
 ·cases rx;obtain⟨its,r,ht,_⟩:=I.tuple hx;have hlen:its.toArray.size=xs.length:=by rw[dD];exact r.length.symm
  refine⟨"tuple",_,u_.lookup,ht.typeIs,?_⟩;exact HT.gB ht hs pl pu (by rw[hlen];exact hz) ⟨.ref a,H,I,rfl,hw hz⟩
 ·exact zlU ak s σ H (.ref a) v vl vu lo hi sl Q I rx hs pl pu ⟨a,xs,rfl,hx,hz,q⟩
theorem zlj(he:PE X e te):PE X (.Subscript e (.Slice none none (some (.UnaryOp .USub (.Constant (.int 1) j p3) p4)) p2) pos) (λσ H Q=>te σ H λx H1=>∃a xs,x=.ref a/\fL X.K H1 a xs/\∀p,H1 p=none->Q (.ref p) (upd H1 p (.tup xs.reverse))):=by
 intro ak s σ H Q I h;refine Subscript_ (aV (he ak s σ H _ I h) λv s1 ⟨x,H1,I1,r1,a,xs,ex,hx,q⟩=>?_);subst ex;cases r1;refine wpAny_Slice ?_;rw[evalPart_none];refine aJ (aJ ?_);rw[evalPart_some];refine aV (Sq (r:=rU λi=>.int (-i)) Ss Lr ak s1 σ H1 (λv H'=>v=.int (-1)/\H'=H1) I1 ⟨1,rfl,rfl,rfl⟩) λu s2 ⟨z,H2,I2,r2,ez,eH⟩=>?_;subst ez eH;obtain⟨t,rfl⟩:=r2;obtain⟨its,r,ht,hz⟩:=I2.tuple hx;have I4:Inv X ak σ H2 {s2 with heap:=s2.heap.push {cls:=.type "slice",data:=.fields #[.none,.none,.int (-1) t]}}:=I2.kept (t':=s2.toks) λb ob q=>bZ _ q;obtain⟨its,r,ht,hz⟩:=I4.tuple hx;have hlen:its.toArray.size=xs.length:=by rw[dD];exact r.length.symm
 show wpAny (model X.prog X.w) X.A (subscriptTail e (.Slice none none (some (.UnaryOp .USub (.Constant (.int 1) j p3) p4)) p2) (.ref a) (.ref s2.heap.objs.size)) (EP X ak σ Q) X.xe {s2 with heap:=s2.heap.push {cls:=.type "slice",data:=.fields #[.none,.none,.int (-1) t]}};refine tail_any (ops:=[.ref a,.ref s2.heap.objs.size]) ht.typeIs u_.lookup (HT.iB ht (Heap.IsSliceOf.new ..) ?_ (by rw[hlen];exact hz)) (by with_unfolding_all rfl);refine⟨.ref _,_,I4.laid (t':=s2.toks) (o:=.tup xs.reverse) (λb ob q=>bZ _ q) (cg _) ?_,rfl,q _ (I4.hok.fresh (cg _))⟩;refine⟨by rw[List.length_reverse];exact hz,_,?_,IsTup.new _ _⟩;have rv:∀{xs:List V} {us:List Value},Vals xs us->Vals xs.reverse us.reverse:=λ{xs us} r=>by
  induction r with
  |nil=>exact .nil
  |cons a b ih=>rw[Ie,Ie];exact ih.append (.cons a .nil)
 simpa using rv r
end
section
variable {X:Cx}
noncomputable def xX(K:PySem.W.Frag):R2:=λx y H Q=>∃l b xs zs,x=.ref l/\y=.ref b/\dj K H l xs/\dj K H b zs/\xs.length+zs.length<=sizeLine/\∀p,H p=none->Q (.ref p) (upd H p (.lst (xs++zs)))
theorem wj:cU X (binaryOp .Add) (xX X.K):=by
 intro ak s σ H x y v u Q I rx ry h;obtain⟨l,b,xs,zs,rfl,rfl,hH,hB,hz,q⟩:=h;cases rx;cases ry;obtain⟨its,r,pl,_⟩:=I.list hH;obtain⟨its2,r2,pl2,_⟩:=I.list hB;obtain⟨⟨cls,dd,data,sl⟩,ho,hc,n,hd⟩:=pl.isList;obtain⟨⟨cls2,dd2,data2,sl2⟩,ho2,hc2,n2,hd2⟩:=pl2.isList;simp only at hc hd hc2 hd2;subst hc hd hc2 hd2;refine concat_meets ⟨_,ho,rfl⟩ ⟨_,ho2,rfl⟩ noFill_list_add seq_list_add PySem.F.slot_list_add PySem.F.entry_list_add (PySem.F.args_list_add_2 _ _) (list_addW l b its.toArray its2.toArray n n2 dd dd2 sl sl2 (by rw[dD,dD,<-r.length,<-r2.length];exact hz)) ⟨ho,ho2,?_⟩;have ea:its.toArray++its2.toArray=(its++its2).toArray:=by simp
 rw[ea];exact⟨.ref _,_,I.MF (t':=s.toks) (r.append r2) (by rw[cX];omega),rfl,q _ I.fresh⟩
noncomputable def pU(K:PySem.W.Frag):R2:=λx y H Q=>ou (λi j=>.int (i+j)) x y H Q\/xX K x y H Q\/tD K x y H Q\/∃i j,x=.str i/\y=.str j/\i.length+j.length<=sizeLine/\Q (.str (i++j)) H
theorem zf4:cU X (binaryOp .Add) (pU X.K):=zc.or (wj.or (tG.or ze2))
end
end L2
namespace Mi
open PySem PySem.Spec PyProof.Rows L2
section
variable {K:PySem.W.Frag}{cA:Cl}{φ:Ph}{H:Hp}{Q:VK}{p:Pr}
theorem aZ.some'{o:Option Rz}(h:aZ K cA φ H o Q):∃z,o=some z:=by
 cases o with
 |none=>exact h.elim
 |some z=>exact⟨z,rfl⟩
theorem aZ.of{o:Option Rz}{z:Rz}(h:aZ K cA φ H o Q)(e:o=some z):aZ K cA φ H (some z) Q:=e▸h
theorem aZ.here{d:D}{v:V}(h:aZ K cA φ H (some (.dat d)) Q)(r:Rep K cA φ H d v):Q v H:=h H v bG.refl r
theorem aZ.tup{xs:List D}{vs:List V}{a:Addr}(h:aZ K cA φ H (some (.dat (.tup xs))) Q)(z:Zt φ H)(r:aC K cA φ H xs vs)(hp:H a=none):Q (.ref a) (upd H a (.tup vs)):=
 h _ _ (bG.new hp) (.tup (TupAt.new (z.nz hp)) (r.mono (bG.new hp).ext z.lz))
theorem v7.two{ds:List D}{vs:List V}{d d':D}(h:v7 K cA φ H [d,d'] vs):∃v v',vs=[v,v']/\Rv K cA φ H d v/\Rv K cA φ H d' v':=by
 cases h with
 |cons a r=>cases r with
  |cons b r=>cases r;exact⟨_,_,rfl,a,b⟩
theorem v7.one(h:v7 K cA φ H [d] vs):∃v,vs=[v]/\Rv K cA φ H d v:=by
 cases h with
 |cons a r=>cases r;exact⟨_,rfl,a⟩
theorem Rv.int{i:Int}{v:V}(h:Rv K cA φ H (.int i) v):v=.int i:=by cases (show Rep K cA φ H (.int i) v from h);rfl
theorem Rv.bl{i:Bool}{v:V}(h:Rv K cA φ H (.bl i) v):v=.bl i:=by cases (show Rep K cA φ H (.bl i) v from h);rfl
theorem Rv.str{i:Str}{v:V}(h:Rv K cA φ H (.str i) v):v=.str i:=by cases (show Rep K cA φ H (.str i) v from h);rfl
theorem Rv.tup{xs:List D}{v:V}(h:Rv K cA φ H (.tup xs) v):∃a vs,v=.ref a/\TupAt K φ H a vs/\aC K cA φ H xs vs:=by
 cases (show Rep K cA φ H (.tup xs) v from h) with
 |tup a r=>exact⟨_,_,rfl,a,r⟩
theorem Rv.sq{d:D}{xs:List D}{v:V}(h:Rv K cA φ H d v)(e:mY d=some xs):∃a vs,v=.ref a/\(dj K H a vs\/fL K H a vs)/\aC K cA φ H xs vs:=by
 cases d with
 |tup ys=>
  cases e;obtain⟨a,vs,e,t,r⟩:=Rv.tup h;exact⟨a,vs,e,.inr t.jx,r⟩
 |fl ys=>
  cases e;obtain⟨a,vs,e,l,r⟩:=h;exact⟨a,vs,e,.inl l,r⟩
 |_=>cases e
theorem UW{f:Int->Int->Option D}{ds:List D}{z:Rz}(h:dz f ds=some z):∃i j d,ds=[.int i,.int j]/\f i j=some d/\z=.dat d:=by
 cases ds with
 |nil=>cases h
 |cons a t=>
 cases a with
 |int i=>
  cases t with
  |nil=>cases h
  |cons b t=>
  cases b with
  |int j=>
   cases t with
   |cons _ _=>cases h
   |nil=>
    obtain⟨d,e1,e2⟩:=mQ.mp h;exact⟨_,_,d,rfl,e1,e2.symm⟩
  |_=>cases h
 |_=>cases h
theorem Gi{f:Int->Int->Option D}(hp:prim p=dz f){C:Int->Int->Prop}{g:Int->Int->V}(hf:∀i j d,f i j=some d->C i j/\∀φ H,Rep K cA φ H d (g i j)):aR K cA p (r2 (rI C g)):=by
 intro φ H ds vs Q zt rs o;rw[hp] at o;obtain⟨z,e⟩:=o.some';obtain⟨i,j,d,rfl,e1,rfl⟩:=UW e;obtain⟨c,r⟩:=hf i j d e1;obtain⟨v,v',rfl,r1,r2⟩:=rs.two (ds:=[]);rw[r1.int,r2.int];exact⟨_,_,rfl,i,j,rfl,rfl,c,(o.of e).here (r φ H)⟩
theorem BW{f:Int->Int->D}(hp:prim p=dz λi j=>some (f i j)){g:Int->Int->V}(hf:∀i j φ H,Rep K cA φ H (f i j) (g i j)):aR K cA p (r2 (ou g)):=by
 intro φ H ds vs Q zt rs o;obtain⟨x,y,e,i,j,a,b,_,q⟩:=Gi (K:=K) (cA:=cA) (C:=λ_ _=>True) hp (λi j d e=>⟨trivial,λφ H=>by cases e;exact hf i j φ H⟩) φ H ds vs Q zt rs o;exact⟨x,y,e,i,j,a,b,q⟩
theorem Gj{α:Type}{c:Prop}[Decidable c]{x y:α}(h:(if c then some x else none)=some y):c/\y=x:=by
 split at h
 ·rename_i z;cases h;exact⟨z,rfl⟩
 ·cases h
theorem zkm:aR K cA .sub (r2 (ou λi j=>.int (i-j))):=BW (f:=λi j=>.int (i-j)) rfl λi j _ _=>.int _
theorem zmi:aR K cA .mul (r2 (rI vI λi j=>.int (i*j))):=Gi rfl λi j d e=>by obtain⟨c,rfl⟩:=Gj e;exact⟨c,λ_ _=>.int _⟩
theorem ziW:aR K cA .fdiv (r2 (rI vH λi j=>.int (i/j))):=Gi rfl λi j d e=>by obtain⟨c,rfl⟩:=Gj e;exact⟨c,λ_ _=>.int _⟩
theorem zkH:aR K cA .mod (r2 (rI (λ_ j=>0<j) λi j=>.int (i%j))):=Gi rfl λi j d e=>by obtain⟨c,rfl⟩:=Gj e;exact⟨c,λ_ _=>.int _⟩
theorem zl4:aR K cA .pow (r2 (rI Ed λi j=>.int (i^j.toNat))):=Gi rfl λi j d e=>by obtain⟨c,rfl⟩:=Gj e;exact⟨c,λ_ _=>.int _⟩
theorem zna:aR K cA .le (r2 (ou λi j=>.bl (decide (i<=j)))):=BW (f:=λi j=>.bl (decide (i<=j))) rfl λi j _ _=>.bl _
theorem zmO:aR K cA .gt (r2 (ou λi j=>.bl (decide (j<i)))):=BW (f:=λi j=>.bl (decide (j<i))) rfl λi j _ _=>.bl _
theorem znu:aR K cA .ge (r2 (ou λi j=>.bl (decide (j<=i)))):=BW (f:=λi j=>.bl (decide (j<=i))) rfl λi j _ _=>.bl _
theorem zkr:aR K cA .neg (λvs H Q=>∃x,vs=[x]/\rU (λi=>.int (-i)) x H Q):=by
 intro φ H ds vs Q zt rs o;obtain⟨z,e⟩:=o.some';have e:pP (λi=>.int (-i)) ds=some z:=e;cases ds with
 |nil=>cases e
 |cons a t=>
 cases a with
 |int i=>
  cases t with
  |cons _ _=>cases e
  |nil=>
   cases e;obtain⟨v,rfl,r1⟩:=rs.one;exact⟨_,rfl,_,r1.int,aZ.here (o.of rfl) (.int _)⟩
 |_=>cases e
theorem zm0:aR K cA .eq (r2 (wg K cA id)):=by
 intro φ H ds vs Q zt rs o;obtain⟨z,e⟩:=o.some';have e:xO id ds=some z:=e;unfold xO at e;split at e
 ·obtain⟨b,e1,e2⟩:=mQ.mp e;obtain⟨v,v',rfl,r1,r2⟩:=rs.two (ds:=[]);subst e2;exact⟨_,_,rfl,φ,_,_,b,r1,r2,e1,(o.of e).here (.bl _)⟩
 ·cases e
theorem znd:aR K cA .ne (r2 (wg K cA not)):=by
 intro φ H ds vs Q zt rs o;obtain⟨z,e⟩:=o.some';have e:xO not ds=some z:=e;unfold xO at e;split at e
 ·obtain⟨b,e1,e2⟩:=mQ.mp e;obtain⟨v,v',rfl,r1,r2⟩:=rs.two (ds:=[]);subst e2;exact⟨_,_,rfl,φ,_,_,b,r1,r2,e1,(o.of e).here (.bl _)⟩
 ·cases e
theorem zj2{f:Bool->Bool}{ds:List D}{z:Rz}(h:zK f ds=some z):∃a b xs k,ds=[a,b]/\mY b=some xs/\memD a xs=some k/\z=.dat (.bl (f k)):=by
 unfold zK at h;split at h
 ·obtain⟨k,e1,e2⟩:=mQ.mp h;obtain⟨xs,e3,e4⟩:=wO.mp e1;exact⟨_,_,xs,k,rfl,e3,e4,e2.symm⟩
 ·cases h
theorem zng:aR K cA .inn (r2 (Gh K cA id)):=by
 intro φ H ds vs Q zt rs o;obtain⟨z,e⟩:=o.some';obtain⟨a,b,xs,k,rfl,e1,e2,rfl⟩:=zj2 (show zK id ds=some z from e);obtain⟨v,v',rfl,r1,r2⟩:=rs.two (ds:=[]);exact⟨_,_,rfl,φ,_,_,xs,k,r1,r2,e1,e2,(o.of e).here (.bl _)⟩
theorem N6:∀{xs:List D} {ns:List Int} {vs:List V},iU xs=some ns->aC K cA φ H xs vs->vs=ns.map V.int
 |[],ns,vs,h,r=>by cases h;cases r;rfl
 |d::xs,ns,vs,h,r=>by
  cases d with
  |int i=>
   simp only[iU,mQ] at h;obtain⟨ns',h1,rfl⟩:=h;cases r with
   |cons a r=>cases a;rw[N6 h1 r];rfl
  |_=>simp[iU] at h
theorem U0:∀(a b:List Int),ltI a b=HT.lexLt a b
 |_,[]=>by cases ‹List Int›<;>rfl
 |[],_::_=>rfl
 |x::xs,y::ys=>by
  unfold ltI;rw[U0 xs ys,HT.jQ]
theorem znJ:aR K cA .lt (r2 λx y H Q=>ou (λi j=>.bl (decide (i<j))) x y H Q\/El K x y H Q):=by
 intro φ H ds vs Q zt rs o;obtain⟨z,e⟩:=o.some';have e:Fy ds=some z:=e;unfold Fy at e;split at e
 ·cases e;obtain⟨v,v',rfl,r1,r2⟩:=rs.two (ds:=[]);exact⟨_,_,rfl,.inl ⟨_,_,r1.int,r2.int,aZ.here (o.of rfl) (.bl _)⟩⟩
 ·split at e
  ·rename_i a b h1 h2;cases e;obtain⟨v,v',rfl,r1,r2⟩:=rs.two (ds:=[]);obtain⟨p,us,rfl,t1,q1⟩:=r1.tup;obtain⟨p',us',rfl,t2,q2⟩:=r2.tup;have o2:aZ K cA φ H (some (.dat (.bl (ltI a b)))) Q:=by
    have o3:aZ K cA φ H (Fy [.tup _,.tup _]) Q:=o;unfold Fy at o3;simp only[h1,h2] at o3;exact o3
   refine⟨_,_,rfl,.inr ⟨p,p',a,b,rfl,rfl,by rw[<-N6 h1 q1];exact t1.jx,by rw[<-N6 h2 q2];exact t2.jx,?_⟩⟩;rw[<-U0];exact o2.here (.bl _)
  ·cases e
 ·cases e
theorem zk0:aR K cA .add (r2 (pU K)):=by
 intro φ H ds vs Q zt rs o;have o:aZ K cA φ H (zJ ds) Q:=o;cases ds with
 |nil=>exact False.elim o
 |cons a t=>
 cases a with
 |int i=>
  cases t with
  |nil=>exact False.elim o
  |cons b t=>
  cases b with
  |int j=>
   cases t with
   |cons _ _=>exact False.elim o
   |nil=>
    obtain⟨v,v',rfl,r1,r2⟩:=rs.two (ds:=[]);exact⟨_,_,rfl,.inl ⟨_,_,r1.int,r2.int,aZ.here o (.int _)⟩⟩
  |_=>exact False.elim o
 |tup xs=>
  cases t with
  |nil=>exact False.elim o
  |cons b t=>
  cases b with
  |tup ys=>
   cases t with
   |cons _ _=>exact False.elim o
   |nil=>
    obtain⟨v,v',rfl,r1,r2⟩:=rs.two (ds:=[]);obtain⟨p,us,rfl,t1,q1⟩:=r1.tup;obtain⟨p',us',rfl,t2,q2⟩:=r2.tup;have o:aZ K cA φ H (if xs.length+ys.length<=sizeLine then some (.dat (.tup (xs++ys))) else none) Q:=o;by_cases hz:xs.length+ys.length<=sizeLine
    ·rw[if_pos hz] at o;refine⟨_,_,rfl,.inr (.inr (.inl ⟨p,p',us,us',rfl,rfl,t1.jx,t2.jx,by rw[<-q1.len,<-q2.len];exact hz,λe=>?_,λe=>?_,λa ha=>o.tup zt (q1.app q2) ha⟩))⟩
     ·subst e;cases q1;exact o.here (.tup t2 q2)
     ·subst e;cases q2;rw[Bl] at o;exact o.here (.tup t1 q1)
    ·rw[if_neg hz] at o;exact o.elim
  |_=>exact False.elim o
 |fl xs=>
  cases t with
  |nil=>exact False.elim o
  |cons b t=>
  cases b with
  |fl ys=>
   cases t with
   |cons _ _=>exact False.elim o
   |nil=>
    obtain⟨v,v',rfl,⟨p,us,rfl,t1,q1⟩,⟨p',us',rfl,t2,q2⟩⟩:=rs.two (ds:=[]);have o:aZ K cA φ H (if xs.length+ys.length<=sizeLine then some (.nw (xs++ys)) else none) Q:=o;by_cases hz:xs.length+ys.length<=sizeLine
    ·rw[if_pos hz] at o;exact⟨_,_,rfl,.inr (.inl ⟨p,p',us,us',rfl,rfl,t1,t2,by rw[<-q1.len,<-q2.len];exact hz,λa ha=>o a _ ha (q1.app q2)⟩)⟩
    ·rw[if_neg hz] at o;exact o.elim
  |_=>exact False.elim o
 |str x=>
  cases t with
  |nil=>exact False.elim o
  |cons b t=>
  cases b with
  |str y=>
   cases t with
   |cons _ _=>exact False.elim o
   |nil=>
    obtain⟨v,v',rfl,r1,r2⟩:=rs.two (ds:=[]);have o:aZ K cA φ H (if x.length+y.length<=sizeLine then some (.dat (.str (x++y))) else none) Q:=o;by_cases hz:x.length+y.length<=sizeLine
    ·rw[if_pos hz] at o;exact⟨_,_,rfl,.inr (.inr (.inr ⟨_,_,r1.str,r2.str,hz,o.here (.str _)⟩))⟩
    ·rw[if_neg hz] at o;exact o.elim
  |_=>exact False.elim o
 |_=>exact False.elim o
theorem zlv:aR K cA .len (λxs H Q=>∃p ys,xs=[.ref p]/\(dj K H p ys\/fL K H p ys)/\Q (.int ys.length) H):=by
 intro φ H ds vs Q zt rs o;have o:aZ K cA φ H (qF (λxs=>some (.dat (.int xs.length))) ds) Q:=o;unfold qF at o;split at o
 ·obtain⟨v,rfl,r1⟩:=rs.one;obtain⟨z,e⟩:=o.some';obtain⟨xs,e1,e2⟩:=wO.mp e;obtain⟨a,us,rfl,sq,q⟩:=r1.sq e1;cases e2;refine⟨a,us,rfl,sq,?_⟩;rw[<-q.len];exact(o.of e).here (.int _)
 ·exact o.elim
theorem zi4:aR K cA .list (λxs H Q=>∃p ys,xs=[.ref p]/\(dj K H p ys\/fL K H p ys)/\∀l,H l=none->Q (.ref l) (upd H l (.lst ys))):=by
 intro φ H ds vs Q zt rs o;have o:aZ K cA φ H (qF (λxs=>some (.nw xs)) ds) Q:=o;unfold qF at o;split at o
 ·obtain⟨v,rfl,r1⟩:=rs.one;obtain⟨z,e⟩:=o.some';obtain⟨xs,e1,e2⟩:=wO.mp e;obtain⟨a,us,rfl,sq,q⟩:=r1.sq e1;cases e2;exact⟨a,us,rfl,sq,λl hl=>(o.of e) l us hl q⟩
 ·exact o.elim
theorem zh6:aR K cA .tuple (λxs H Q=>∃p ys,xs=[.ref p]/\((dj K H p ys/\∀l,H l=none->Q (.ref l) (upd H l (.tup ys)))\/(fL K H p ys/\Q (.ref p) H))):=by
 intro φ H ds vs Q zt rs o;have o:aZ K cA φ H (oJ ds) Q:=o;unfold oJ at o;split at o
 ·rename_i d _;obtain⟨v,rfl,r1⟩:=rs.one;cases d with
  |tup xs=>
   obtain⟨a,us,rfl,t,q⟩:=r1.tup;exact⟨a,us,rfl,.inr ⟨t.jx,aZ.here o (.tup t q)⟩⟩
  |fl xs=>
   obtain⟨a,us,rfl,t,q⟩:=r1;exact⟨a,us,rfl,.inl ⟨t,λl hl=>aZ.tup o zt q hl⟩⟩
  |_=>exact o.elim
 ·exact o.elim
theorem zlN:aR K cA .abs (λxs H Q=>∃i,xs=[.int i]/\Q (.int (if i<0 then -i else i)) H):=by
 intro φ H ds vs Q zt rs o;have o:aZ K cA φ H (pP (λi=>.int (if i<0 then -i else i)) ds) Q:=o;cases ds with
 |nil=>exact False.elim o
 |cons a t=>
 cases a with
 |int i=>
  cases t with
  |cons _ _=>exact False.elim o
  |nil=>
   obtain⟨v,rfl,r1⟩:=rs.one;rw[r1.int];exact⟨_,rfl,aZ.here o (.int _)⟩
 |_=>exact False.elim o
theorem zjd:aR K cA .vX (λxs H Q=>(∃i,xs=[.int i]/\Q (.int i) H)\/∃k,xs=[.bl k]/\Q (.int (if k then 1 else 0)) H):=by
 intro φ H ds vs Q zt rs o;have o:aZ K cA φ H (FN ds) Q:=o;cases ds with
 |nil=>exact False.elim o
 |cons a t=>
 cases a with
 |int i=>
  cases t with
  |cons _ _=>exact False.elim o
  |nil=>
   obtain⟨v,rfl,r1⟩:=rs.one;rw[r1.int];exact .inl ⟨_,rfl,aZ.here o (.int _)⟩
 |bl k=>
  cases t with
  |cons _ _=>exact False.elim o
  |nil=>
   obtain⟨v,rfl,r1⟩:=rs.one;rw[r1.bl];exact .inr ⟨_,rfl,aZ.here o (.int _)⟩
 |_=>exact False.elim o
theorem ziR:aR K cA .max2 (λxs H Q=>∃i j,xs=[.int i,.int j]/\Q (.int (if j>i then j else i)) H):=by
 intro φ H ds vs Q zt rs o;obtain⟨x,y,e,i,j,rfl,rfl,q⟩:=BW (K:=K) (cA:=cA) (p:=.max2) (f:=λi j=>.int (if j>i then j else i)) rfl (λi j _ _=>.int _) φ H ds vs Q zt rs o;exact⟨i,j,e,q⟩
theorem zj5:aR K cA .min2 (λxs H Q=>∃i j,xs=[.int i,.int j]/\Q (.int (if j<i then j else i)) H):=by
 intro φ H ds vs Q zt rs o;obtain⟨x,y,e,i,j,rfl,rfl,q⟩:=BW (K:=K) (cA:=cA) (p:=.min2) (f:=λi j=>.int (if j<i then j else i)) rfl (λi j _ _=>.int _) φ H ds vs Q zt rs o;exact⟨i,j,e,q⟩
theorem zga:aR K cA .divmod (λxs H Q=>∃i j,xs=[.int i,.int j]/\vH i j/\∀p,H p=none->Q (.ref p) (upd H p (.tup [.int (i/j),.int (i%j)]))):=by
 intro φ H ds vs Q zt rs o;have o:aZ K cA φ H (dz (λi j=>if 0<j/\j<1073741824 then some (.tup [.int (i/j),.int (i%j)]) else none) ds) Q:=o;obtain⟨z,e⟩:=o.some';obtain⟨i,j,d,rfl,e1,rfl⟩:=UW e;obtain⟨c,rfl⟩:=Gj e1;obtain⟨v,v',rfl,r1,r2⟩:=rs.two (ds:=[]);rw[r1.int,r2.int];exact⟨i,j,rfl,c,λp hp=>(o.of e).tup zt (.cons (.int _) (.cons (.int _) .nil)) hp⟩
theorem Jp:∀{xs:List D} {bs:List Bool} {vs:List V},gC xs=some bs->aC K cA φ H xs vs->vs=bs.map V.bl
 |[],bs,vs,h,r=>by cases h;cases r;rfl
 |d::xs,bs,vs,h,r=>by
  cases d with
  |bl b=>
   simp only[gC,mQ] at h;obtain⟨bs',h1,rfl⟩:=h;cases r with
   |cons q r=>cases q;rw[Jp h1 r];rfl
  |_=>simp[gC] at h
theorem zns:aR K cA .ix (r2 (Mx K)):=by
 intro φ H ds vs Q zt rs o;have o:aZ K cA φ H (Nr ds) Q:=o;unfold Nr at o;split at o
 ·rename_i d i _;obtain⟨v,v',rfl,r1,r2⟩:=rs.two (ds:=[]);obtain⟨z,e⟩:=o.some';obtain⟨y,e1,e2⟩:=mQ.mp e;obtain⟨xs,e3,e4⟩:=wO.mp e1;obtain⟨a,us,rfl,sq,q⟩:=r1.sq e3;have key:∃w,L2.pI us i=some w/\Rep K cA φ H y w:=by
   unfold L2.pI at *;rw[<-q.len];obtain⟨j,h1,h2⟩:=wO.mp e4;obtain⟨w,h3,h4⟩:=q.get h2;exact⟨w,by rw[h1];exact h3,h4⟩
  obtain⟨w,hw,mU⟩:=key;subst e2;have q':=(o.of e).here mU;rcases sq with sq|sq
  ·exact⟨_,_,rfl,.inl ⟨a,us,i,w,rfl,r2.int,sq,hw,q'⟩⟩
  ·exact⟨_,_,rfl,.inr (.inl ⟨a,us,i,w,rfl,r2.int,sq,hw,q'⟩)⟩
 ·exact o.elim
noncomputable def U3(K:PySem.W.Frag):V->Option Int->Option Int->Hp->VK->Prop:=λx lo hi H Q=>Eu K x lo hi H Q\/xW K x lo hi H Q
theorem zkG:vN X (U3 X.K):=vQ.or zjb
theorem zjN{d:D}{lo hi:Option Int}{v:V}(zt:Zt φ H)(r:Rv K cA φ H d v)(o:aZ K cA φ H (cutD d lo hi) Q):U3 K v lo hi H Q:=by
 cases d with
 |tup xs=>
  obtain⟨a,us,rfl,t,q⟩:=r.tup;refine .inr ⟨a,us,rfl,t.jx,λe=>?_,λp hp=>aZ.tup o zt q.cut hp⟩;have hc:cut xs lo hi=xs:=by
   unfold cut;rw[q.len,e.1,e.2,List.drop_zero,Nat.sub_zero,<-q.len,Ik]
  have o:aZ K cA φ H (some (.dat (.tup (cut xs lo hi)))) Q:=o;rw[hc] at o;exact o.here (.tup t q)
 |fl xs=>
  obtain⟨a,us,rfl,t,q⟩:=r;exact .inl ⟨a,us,rfl,t,λp hp=>o p _ hp q.cut⟩
 |_=>exact o.elim
end
end Mi
namespace L2
open PySem PySem.Spec PyProof.Rows
section
variable {κ:Type}[DecidableEq κ]
noncomputable def putK(kvs:List (κ×V))(k:κ)(v:V):List (κ×V):=
 if (kvs.any λkv=>decide (kv.1=k))=true then kvs.map (λkv=>if kv.1=k then (kv.1,v) else kv) else kvs++[(k,v)]
theorem zd7(kvs:List (κ×V))(k:κ)(v:V):(putK kvs k v).length<=kvs.length+1:=by
 unfold putK
 split
 ·rw[bJ];lia
 ·rw[cX,gY,ql];lia
theorem KV.any(r:KV kvs vs)(k:κ):(kvs.any λkv=>decide (kv.1=k))=vs.any λkv=>decide (kv.1=k):=by
 unfold KV at r
 induction r with
 |nil=>rfl
 |cons h t ih=>rw[List.any_cons,List.any_cons,ih,h.1]
theorem KV.repl(r:KV kvs vs)(k:κ)(ry:RelV y u) :
  KV (kvs.map λkv=>if kv.1=k then (kv.1,y) else kv) (vs.map λkv=>if kv.1=k then (kv.1,u) else kv):=by
 unfold KV at r ⊢
 induction r with
 |nil=>exact .nil
 |@cons p q ps qs h t ih=>
  rw[jA,jA];refine .cons ?_ ih;obtain⟨h1,h2⟩:=h;by_cases e:p.1=k
  ·rw[if_pos e,if_pos (h1.symm.trans e)];exact⟨h1,ry⟩
  ·rw[if_neg e,if_neg (λz=>e (h1.trans z))];exact⟨h1,h2⟩
theorem KV.put(r:KV kvs vs)(k:κ)(ry:RelV y u):KV (putK kvs k y) (stored vs k u):=by
 unfold putK stored;rw[r.any k];by_cases e:(vs.any λkv=>decide (kv.1=k))=true
 ·rw[if_pos e,if_pos e];exact r.repl k ry
 ·rw[if_neg e,if_neg e];exact Paired.snoc r ⟨rfl,ry⟩
end
theorem znN(r:RelV (kV k) u):(cC P w).is k u=true:=by
 cases k with
 |inl i=>obtain⟨t,e⟩:=(show ∃t,u=Value.int i t from r);subst e;exact ZP P w i t
 |inr x=>obtain⟨t,e⟩:=(show ∃t,u=Value.str x t from r);subst e;exact ZQ P w x t
section
variable {P:Program}{w:World}{H:Hp}{h:Heap}{a:Addr}
theorem znq(ok:gQ P w H h)(e:Rd H a u):aQ P w H h a u:=e.ok ok
theorem zmP(ok:gQ P w H h)(e:Rd H a (.dK kvs)):kvs.length<=sizeLine/\(a==sysModules)=false/\∃vs,KV kvs vs/\h.DictOf (cC P w) a vs:=
 show aQ P w H h a (.dK kvs) from znq ok e
theorem znE(ok:gQ P w H h)(e:H a=some (.dK kvs)):kvs.length<=sizeLine/\(a==sysModules)=false/\∃vs,KV kvs vs/\h.DictOf (cC P w) a vs:=zmP ok (.inl e)
end
section
variable {X:Cx}{ak:List (Addr×Obj)}{σ:St}{H:Hp}{s:Shared}{a:Addr}{y v:V}{u r:Value}{o:Option V}{A:Around}{E:Value->Shared->Prop}
theorem Inv.big(I:Inv X ak σ H s):sysModules<s.heap.objs.size:=by
 have h:mainGlobals<s.heap.objs.size:=(I.mod.glob.keeps I.bk).lt;exact Nat.lt_trans (by decide) h
theorem ziL(I:Inv X ak σ H s)(mu:Dv (H a))(hs:Heap.SameBut a s.heap h')(he:∃q,h'.get? a=some q)(new:aQ X.prog X.w (upd H a ob) h' a ob) :
  Inv X ak σ (upd H a ob) {s with heap:=h',toks:=t'}:=
 I.write (x:=a) (e:=a) mu (.inl rfl) (λb q hb z=>(hs.2 b hb).trans z) he new
theorem zmf(z:kvs.length<=sizeLine)(hd:(a==sysModules)=false)(rel:KV kvs vs)(dd:h'.DictOf (cC P w) a vs) :
  aQ P w H' h' a (.dK kvs):=⟨z,hd,vs,rel,dd⟩
end
section
variable {X:Cx}{ak:List (Addr×Obj)}{σ:St}{H:Hp}{s:Shared}{a:Addr}{kvs:List (Key×V)}{k:Key}{u:Value}{A:Around}{E:Value->Shared->Prop}
end
section
variable {X:Cx}{o i e value:Expr}{pos pos' tpos:Pos}{td ty tv:TE}
end
theorem zh7(h:Heap)(hb:sysModules<h.objs.size):aQ P w H (h.push {cls:=.type "dict",data:=.dict #[]}) h.objs.size (.dK []):=
 ⟨n_ _,beq_eq_false_iff_ne.mpr (Ne.symm (dh hb)),[],.nil,Heap.DictOf.new h⟩
section
variable {X:Cx}{pos:Pos}
end
noncomputable def oR:List (TE×TE)->St->Hp->(List (V×V)->Hp->Prop)->Prop
 |[],_,H,Q=>Q [] H
 |(tk,tv)::r,σ,H,Q=>tk σ H λx H1=>tv σ H1 λy H2=>oR r σ H2 λps H3=>Q ((x,y)::ps) H3
noncomputable abbrev VV:List (V×V)->List (Value×Value)->Prop:=Paired λp q=>RelV p.1 q.1/\RelV p.2 q.2
def Jq(X:Cx)(pos:Pos)(keys:List (Option Expr))(values:List Expr)(zR:List (TE×TE)):Prop:=
 ∀(ak:List (Addr×Obj)) (s:Shared) (σ:St) (H:Hp) (Q:List (V×V)->Hp->Prop),Inv X ak σ H s->oR zR σ H Q->
  wpAny (model X.prog X.w) X.A (evalPairs (pairTrees keys values X.env pos)) (λvs s'=>∃ps H',Inv X ak σ H' s'/\VV ps vs/\Q ps H') X.xe s
theorem zjx:Jq X pos [] [] []:=λak s σ H Q I h=>pairTrees_nil_walk ⟨[],H,I,.nil,h⟩
theorem zh9(hk:PE X k tk)(hv:PE X v tv)(hr:Jq X pos ks vs zR) :
  Jq X pos (some k::ks) (v::vs) ((tk,tv)::zR):=λak s σ H Q I h=>
 pairTrees_cons_walk (aV (hk ak s σ H _ I h) λu s1 hx=>dN hx λx H1 I1 rx q1=>aV (hv ak s1 σ H1 _ I1 q1) λw2 s2 hx=>dN hx λy H2 I2 ry q2=>
  aV (hr ak s2 σ H2 _ I2 q2) λws s3 hx=>dN hx λps H3 I3 rel q3=>⟨(x,y)::ps,H3,I3,.cons ⟨rx,ry⟩ rel,q3⟩)
noncomputable def jY(kvs more:List (Key×V)):List (Key×V):=more.foldl (λacc kv=>putK acc kv.1 kv.2) kvs
theorem KV.merge:∀{more:List (Key×V)} {rs:List (Key×Value)} {kvs:List (Key×V)} {vs:List (Key×Value)},KV more rs->KV kvs vs->KV (jY kvs more) (merged vs rs):=by
 intro more rs kvs vs r;unfold KV at r
 induction r generalizing kvs vs with
 |nil=>intro q;exact q
 |@cons p q ps qs h t ih=>
  intro r0;have e:KV (putK kvs p.1 p.2) (stored vs q.1 q.2):=by
   have:=r0.put p.1 h.2;rw[<-h.1];exact this
  exact ih e
theorem U4:∀(more kvs:List (Key×V)),(jY kvs more).length<=kvs.length+more.length
 |[],kvs=>by show kvs.length<=kvs.length+0;lia
 |p::r,kvs=>by
  have h1:=U4 r (putK kvs p.1 p.2);have h2:=zd7 kvs p.1 p.2;show (jY (putK kvs p.1 p.2) r).length<=_;rw[gY];lia
theorem U5:∀{kvs:List (Key×V)} {ws:List (Value×Value)},VV (kvs.map λkv=>(kV kv.1,kv.2)) ws->∃rs,Carries (cC P w) ws rs/\KV kvs rs
 |[],_,r=>by rw[List.map_nil] at r;cases r;exact⟨[],True.intro,.nil⟩
 |p::kvs,_,r=>by
  rw[jA] at r;cases r with
  |@cons a b as bs h t=>
   obtain⟨rs,c,q⟩:=U5 (P:=P) (w:=w) t;obtain⟨b1,b2⟩:=b;exact⟨(p.1,b2)::rs,⟨znN h.1,rfl,c⟩,.cons ⟨rfl,h.2⟩ q⟩
noncomputable def Gk(zR:List (TE×TE)):TE:=λσ H Q=>∀p,H p=none->oR zR σ (upd H p (.dK [])) λps H2=>H2 p=some (.dK [])/\∃kvs:List (Key×V),ps=kvs.map (λkv=>(kV kv.1,kv.2))/\kvs.length<=15/\Q (.ref p) (upd H2 p (.dK (jY [] kvs)))
theorem zjh(h:Jq X pos keys values zR)(hall:keys.all (·.isSome)=true)(hl:keys.length=values.length)(h0:keys≠[])
  (h15:keys.length<=15):PE X (.Dict keys values pos) (Gk zR):=by
 intro ak s σ H Q I q;have hn:=I.hok.fresh (cg s.heap.objs.size);have I1:=I.laid (a:=s.heap.objs.size) (o:=.dK []) (h':=s.heap.push {cls:=.type "dict",data:=.dict #[]}) (t':=s.toks) (λ_ _ q=>bZ _ q) (cg _) (zh7 s.heap I.big);refine wpAny_Dict_walk (knd:=cC X.prog X.w) hall hl h0 h15 (aV (h ak _ σ _ _ I1 (q _ hn)) λws s2 ⟨ps,H2,I2,rel,e,kvs,ep,lk,q2⟩=>?_);subst ep;obtain⟨rs,c,rk⟩:=U5 (P:=X.prog) (w:=X.w) rel;obtain⟨z,hd,vs0,r0,dd⟩:=znE I2.hok e;cases r0;refine⟨rs,c,dd,λh' MN hs=>⟨.ref s.heap.objs.size,_,?_,rfl,q2⟩⟩;have hz:(jY [] kvs).length<=sizeLine:=by
  have h1:=U4 kvs [];rw[ql] at h1;rw[pD];lia
 have he:∃q,h'.get? s.heap.objs.size=some q:=let ⟨q,_,_,hq,_⟩:=MN;⟨q,hq⟩;exact ziL I2 (by rw[e];exact True.intro) hs he (zmf hz hd (rk.merge .nil) MN)
section
variable {X:Cx}{ak:List (Addr×Obj)}{σ:St}{H:Hp}{s:Shared}{a:Addr}{y d:V}{u r:Value}{o:Option V}{A:Around}{E:Value->Shared->Prop}
end
section
variable {X:Cx}{o e f:Expr}{apos cpos:Pos}{td ty tx:TE}
end
section
variable {X:Cx}{ak:List (Addr×Obj)}{σ:St}{H:Hp}{s:Shared}{a:Addr}{kvs:List (Key×V)}{A:Around}{E:Value->Shared->Prop}
end
section
variable {X:Cx}{ak:List (Addr×Obj)}{σ:St}{H:Hp}{s:Shared}{a:Addr}{y:V}{u:Value}{A:Around}{E:Value->Shared->Prop}
end
end L2
namespace Mi
open PySem PySem.Spec PyProof.Rows L2
section
variable {X:Cx}{cA:Cl}{sub:Nat->Nat->Bool}{aj:Bool}{F:Fn}{EX:XS}{a b c d e o:Expr}{A B C Dd E' O:E}{pos pp p2 apos cpos:Pos}{es:List Expr}{Xs:Es}{fz:Bool}{p:Pr}{x:Str}{φ:Ph}{H:Hp}{s:S}{lo hi:Option Expr}{Lo Hi:Eo}
def Gm(X:Cx)(cA:Cl)(sub:Nat->Nat->Bool)(aj:Bool)(F:Fn)(EX:XS)(oe:Option Expr)(m:Eo):Prop:=
 PO X oe (λσ H Q=>∃φ τ s,aY X.K cA φ H σ τ/\aG X.K cA φ H s/\Run X.K cA (vZ sub aj F m τ) φ H s (λi _ φ' H'=>Q i H') (eX X.K cA EX σ))
theorem PO.weak{oe:Option Expr}{t t':TO}(h:PO X oe t)(f:∀σ H Q,t' σ H Q->t σ H Q):PO X oe t':=by
 intro ak s σ H Q I q;exact h ak s σ H Q I (f σ H Q q)
theorem znF:Gm X cA sub aj F EX none .no:=PO.weak zjn λσ H Q hh=>un hh λφ τ s hL hS h=>h.bC hS
theorem zl3(ha:SE X cA sub aj F EX a A):Gm X cA sub aj F EX (some a) (.yes A):=PO.weak (zkk ha) λσ H Q hh=>un hh λφ τ s hL hS h=>by
 refine aW hL hS h λx H1 φ1 d1 s1 x1 hL1 hS1 r1 h1=>?_;obtain⟨i,_,e,h3⟩:=Ga r1 h1;exact⟨i,e,h3.bC hS1⟩
theorem Gn{β:Type}{σ:L2.St}{τ:Vs}{m:Eo}{k:Option Int->M β}{P:β->S->Ph->Hp->Prop}(hL:aY X.K cA φ H σ τ)(hS:aG X.K cA φ H s)(h:Run X.K cA (M.bd (vZ sub aj F m τ) k) φ H s P (eX X.K cA EX σ)){Q:Option Int->Hp->Prop}
  (f:∀i H1 φ1 s1,Ext φ H φ1 H1->aY X.K cA φ1 H1 σ τ->aG X.K cA φ1 H1 s1->Run X.K cA (k i) φ1 H1 s1 P (eX X.K cA EX σ)->Q i H1) :
  ∃φ τ s,aY X.K cA φ H σ τ/\aG X.K cA φ H s/\Run X.K cA (vZ sub aj F m τ) φ H s (λi _ φ' H'=>Q i H') (eX X.K cA EX σ):=
 ⟨φ,τ,s,hL,hS,h.bd.imp λi s1 φ1 H1 ⟨x1,r1,h1⟩=>f i H1 φ1 s1 x1 (hL.mono x1 hS.lz) r1 h1⟩
theorem znw(ha:SE X cA sub aj F EX a A)(hl:Gm X cA sub aj F EX lo Lo)(hh:Gm X cA sub aj F EX hi Hi):SE X cA sub aj F EX (.Subscript a (.Slice lo hi none p2) pos) (.sl fz A Lo Hi):=PE.weak (zhl zkG ha hl hh) λσ H Q hh=>un hh λφ τ s hL hS h=>by
 refine aW hL hS h λx H1 φ1 d1 s1 x1 hL1 hS1 r1 h1=>Gn hL1 hS1 h1 λl H2 φ2 s2 x2 hL2 hS2 h2=>Gn hL2 hS2 h2 λu H3 φ3 s3 x3 qH iZ h3=>?_;obtain⟨dd,rv,h4⟩:=Gb iZ ((r1.mono x2 hS1.lz).mono x3 hS2.lz) h3;exact zjN iZ.zs rv (mj iZ h4)
theorem zmG(ha:SE X cA sub aj F EX a A):SE X cA sub aj F EX (.Subscript a (.Slice none none (some (.UnaryOp .USub (.Constant (.int 1) j p3) p4)) p2) pos) (.pr true .rev (.cons A .nil)):=PE.weak (zlj ha) λσ H Q hh=>un hh λφ τ s hL hS h=>by
 have h:Run X.K cA (M.bd (M.bd (ev sub aj F A τ) λx=>M.bd (M.ret []) λz=>M.ret (x::z)) λvs=>M.bd (eU vs) λds=>bK true (prim .rev ds)) φ H s _ _:=h;simp only[jy] at h;refine aW hL hS h λx H1 φ1 d1 s1 x1 hL1 hS1 r1 h1=>?_;obtain⟨ds,rs,h3⟩:=m8 hS1 (.cons r1 .nil) h1;have o:aZ X.K cA φ1 H1 (zM ds) Q:=mj hS1 h3;unfold zM at o;split at o
 ·obtain⟨v,e,r⟩:=rs.one;cases e;obtain⟨ad,us,e2,t,q⟩:=r.tup;subst e2;exact⟨ad,us,rfl,t.jx,λp hp=>aZ.tup o hS1.zs q.rev hp⟩
 ·exact o.elim
theorem U6:∀bs:List Bool,(List.range bs.length).all (λi=>(bs[i]?).getD false)=bs.all id
 |[]=>rfl
 |b::r=>by
  rw[gY,KY,kW,Bp,kW];have:=U6 r;simp only[Function.comp_def,List.getElem?_cons_succ,List.getElem?_cons_zero,Option.getD_some,id];rw[this]
theorem zgB(hc:X.aj=true):cV X (.builtin "all") (λxs H Q=>∃(p:Addr) (bs:List Bool),xs=[.ref p]/\dj X.K H p (bs.map V.bl)/\Q (.bl (bs.all id)) H):=by
 intro ak s σ H xs us Q I r ⟨p,bs,e,hp,q⟩;subst e;obtain⟨u,rfl,ru⟩:=Vals.one r;cases (show u=Value.ref p from ru);obtain⟨its,rv,pl,hz⟩:=I.list hp;have hl:s.heap.IsList p its.toArray:=pl.isList;have hpn:p≠s.heap.objs.size:=by
  obtain⟨o,hg,_⟩:=hl;exact dh (bM hg)
 refine call_all_walk (wpAny_pyIter_list hl ?_);refine⟨_,_,_,_,_,_,λi=>(bs[i]?).getD false,rfl,Walks.list (A:=X.A.in1) (I.ok.hd hc) _ p hpn its.toArray,⟨⟨_,gW _ rfl,rfl,rfl⟩,hl.push _⟩,?_,λh' tk hk=>?_⟩
 ·intro i v s' Q' E' hP hQ;have hi:its[i]?=some v:=by simpa using hP
  have hb:∃b,bs[i]?=some b:=by
   have hlt:i<its.length:=(jo.mp hi).1;have z:=rv.length;rw[bJ] at z;exact⟨_,fD (by lia)⟩
  obtain⟨b,hb⟩:=hb;obtain⟨u,e1,e2⟩:=rv.get (i:=i) (x:=V.bl b) (by rw[je,hb];rfl);rw[hi] at e1;cases e1;cases (show v=Value.bool b from e2);have hQ:Q' ((bs[i]?).getD false) s':=hQ;rw[hb] at hQ;exact pC hQ
 ·have ez:(List.range its.toArray.size).all (λi=>(bs[i]?).getD false)=bs.all id:=by
   have z:=rv.length;rw[bJ] at z;rw[dD,<-z];exact U6 bs
  rw[ez];refine⟨.bl (bs.all id),H,I.kept (h':=h') (t':=tk) (old_kept hk),rfl,q⟩
theorem zmp{K:PySem.W.Frag}:aR K cA .all (λxs H Q=>∃(p:Addr) (bs:List Bool),xs=[.ref p]/\dj K H p (bs.map V.bl)/\Q (.bl (bs.all id)) H):=by
 intro φ H ds vs Q zt rs o;have o:aZ K cA φ H (zL ds) Q:=o;unfold zL at o;split at o
 ·obtain⟨v,rfl,⟨ad,us,rfl,l,q⟩⟩:=rs.one;obtain⟨z,e⟩:=o.some';obtain⟨bs,e1,e2⟩:=mQ.mp e;subst e2;exact⟨ad,bs,rfl,by rw[<-Jp e1 q];exact l,(o.of e).here (.bl _)⟩
 ·exact o.elim
noncomputable def xY(k:Bool):Value->Bool
 |.bool c=>c==k
 |_=>false
theorem U7{A:Around}{sh:Shared}{k:Bool}{bs:List Bool}{its:List Value}(rv:Vals (bs.map V.bl) its):∀y,y∈its.toArray->SeqAt.EqAt A sh y (.bool k) (xY k y):=λy hy=>by
 have hy:y∈its:=by simpa using hy
 obtain⟨i,hi,e⟩:=Bc hy;have hl:=rv.length;rw[bJ] at hl;obtain⟨u,e1,e2⟩:=rv.get (i:=i) (x:=V.bl (bs[i]'(by lia))) (by rw[je,fD (by lia)];rfl);rw[fD hi,e] at e1;cases e1;cases e2;exact SeqAt.EqAt.bool_bool _ _
theorem U8:∀{bs:List Bool} {its:List Value},Vals (bs.map V.bl) its->its.countP (xY k)=bs.count k
 |[],_,.nil=>rfl
 |b::bs,_,.cons r t=>by
  cases r;rw[List.countP_cons,List.count_cons,U8 t];rfl
theorem zf2:Em X "list.count" (λx xs H Q=>∃(l:Addr) (bs:List Bool) (b:Bool),x=.ref l/\xs=[.bl b]/\dj X.K H l (bs.map V.bl)/\Q (.int (bs.count b)) H):=by
 intro ak sh σ H x xs v us Q I rx r ⟨l,bs,b,e1,e2,hl,q⟩;subst e1 e2;cases (show v=Value.ref l from rx);obtain⟨u,rfl,ru⟩:=Vals.one r;cases (show u=Value.bool b from ru);obtain⟨its,rv,pl,_⟩:=I.list hl;obtain⟨⟨cls,dd,data,sl⟩,hg,hc,n,hd⟩:=pl.isList;simp only at hc hd;subst hc hd;refine call_meets PySem.F.slot_list_count ⟨_,hg,rfl⟩ PySem.F.entry_list_count (PySem.F.args_list_count_2 _ _) (SeqAt.list_countAt l its.toArray n dd sl (.bool b) (xY b)) ⟨hg,U7 rv,?_⟩;show EP X ak σ Q (.int _ _) _;refine⟨.int (bs.count b),H,I.tok _,?_,q⟩;rw[show its.toArray.toList=its from rfl,U8 rv];exact⟨_,rfl⟩
theorem U9:∀{bs:List Bool} {its:List Value} {j:Nat},Vals (bs.map V.bl) its->bs.idxOf? k=some j->∃hj:j<its.length,xY k its[j]=true/\∀m (hm:m<its.length),m<j->xY k its[m]=false
 |[],_,j,.nil,h=>by simp at h
 |b::bs,_,j,.cons r t,h=>by
  cases r;rw[List.idxOf?_cons] at h;by_cases hb:b=k
  ·subst hb;simp at h;subst h;exact⟨Nat.zero_lt_succ _,by simp[xY],λm hm z=>absurd z (Nat.not_lt_zero _)⟩
  ·have hb':(b==k)=false:=by simpa using hb
   rw[hb'] at h;simp at h;obtain⟨j',h1,h2⟩:=h;subst h2;obtain⟨hj,a1,a2⟩:=U9 t h1;refine⟨by simpa using hj,by simpa using a1,λm hm z=>?_⟩;cases m with
   |zero=>simp[xY,hb']
   |succ m=>simpa using a2 m (by simpa using hm) (by lia)
theorem zg0:Em X "list.index" (λx xs H Q=>∃(l:Addr) (bs:List Bool) (b:Bool) (j:Nat),x=.ref l/\xs=[.bl b]/\dj X.K H l (bs.map V.bl)/\bs.idxOf? b=some j/\Q (.int j) H):=by
 intro ak sh σ H x xs v us Q I rx r ⟨l,bs,b,j,e1,e2,hl,hj,q⟩;subst e1 e2;cases (show v=Value.ref l from rx);obtain⟨u,rfl,ru⟩:=Vals.one r;cases (show u=Value.bool b from ru);obtain⟨its,rv,pl,hz⟩:=I.list hl;obtain⟨⟨cls,dd,data,sl⟩,hg,hc,n,hd⟩:=pl.isList;simp only at hc hd;subst hc hd;obtain⟨hlt,h1,h2⟩:=U9 rv hj;have hs:(j:Int)<2^63-1:=by
  have z:=rv.length;rw[pD] at hz
  lia
 refine call_meets PySem.F.slot_list_index ⟨_,hg,rfl⟩ PySem.F.entry_list_index (PySem.F.args_list_index_2 _ _) (SeqAt.list_indexAt l its.toArray n dd sl (.bool b) (xY b) j (by simpa using hlt) hs (by simpa using h1) (λm hm z=>by simpa using h2 m (by simpa using hm) z)) ⟨hg,U7 rv,?_⟩;exact⟨.int j,H,I.tok _,⟨_,rfl⟩,q⟩
def N8(K:PySem.W.Frag)(cA:Cl)(p:Pr)(r:V->List V->Hp->VK->Prop):Prop:=aR K cA p (λvs H Q=>∃x xs,vs=x::xs/\r x xs H Q)
theorem zhO{K:PySem.W.Frag}:N8 K cA .count (λx xs H Q=>∃(l:Addr) (bs:List Bool) (b:Bool),x=.ref l/\xs=[.bl b]/\dj K H l (bs.map V.bl)/\Q (.int (bs.count b)) H):=by
 intro φ H ds vs Q zt rs o;have o:aZ K cA φ H (oK ds) Q:=o;unfold oK at o;split at o
 ·obtain⟨v,v',rfl,⟨ad,us,rfl,l,q⟩,r2⟩:=rs.two (ds:=[]);obtain⟨z,e⟩:=o.some';obtain⟨bs,e1,e2⟩:=mQ.mp e;subst e2;exact⟨_,_,rfl,ad,bs,_,rfl,by rw[r2.bl],by rw[<-Jp e1 q];exact l,(o.of e).here (.int _)⟩
 ·exact o.elim
theorem zhs{K:PySem.W.Frag}:N8 K cA .index (λx xs H Q=>∃(l:Addr) (bs:List Bool) (b:Bool) (j:Nat),x=.ref l/\xs=[.bl b]/\dj K H l (bs.map V.bl)/\bs.idxOf? b=some j/\Q (.int j) H):=by
 intro φ H ds vs Q zt rs o;have o:aZ K cA φ H (oM ds) Q:=o;unfold oM at o;split at o
 ·obtain⟨v,v',rfl,⟨ad,us,rfl,l,q⟩,r2⟩:=rs.two (ds:=[]);obtain⟨z,e⟩:=o.some';obtain⟨j,e1,e2⟩:=mQ.mp e;obtain⟨bs,e3,e4⟩:=wO.mp e1;subst e2;exact⟨_,_,rfl,ad,bs,_,j,rfl,by rw[r2.bl],by rw[<-Jp e3 q];exact l,e4,(o.of e).here (.int _)⟩
 ·exact o.elim
noncomputable def kdT:Kd->String
 |.list=>"list"
 |.str=>"str"
 |_=>"dict"
theorem zi3{K:PySem.W.Frag}{k:Kd}{dd:D}{v:V}(h:oH k dd=true)(r:Rv K cA φ H dd v):Jf K (kdT k) v H:=by
 cases k<;>cases dd<;>first
  |(cases h;done)
  |(obtain⟨a,vs,rfl,l,_⟩:=r;exact .inl ⟨rfl,vs,l⟩)
  |(rw[r.str];exact rfl)
  |(cases (show Rep K cA φ H (.fd _ _) v from r) with|@fd _ _ _ q n=>exact .inr (.inr (.inl ⟨rfl,.inl ⟨_,q⟩⟩)))
theorem U_{k:Kd}{id:String}{name:Str}{r:V->List V->Hp->VK->Prop}(pa:PlainAttrs (kdT k))(slot:Slot (kdT k) name id)(hty:typeOf (.builtin id)=pure (.type "method_descriptor"))(hm:Em X id r)(hr:N8 X.K cA p r)
  (ho:SE X cA sub aj F EX o O) (ha:SA X cA sub aj F EX (e::es) Xs)
  (hbase:attributeBase o name X.env (eval o X.env)=eval o X.env:=by rfl)
  (hfew:((backTo cpos (starEach (e::es) X.env)).all (λx=>!x.1)&&(backToKw cpos (keywordEach [] X.env)).all (λx=>x.1.isSome)
  &&decide ((e::es).length+([]:List Keyword).length+(if ([]:List Keyword).isEmpty then 0 else 1)<30))=true:=by rfl)
  (hline:(apos.endLine==cpos.line)=true:=by rfl) (hs:starEach (e::es) X.env=(false,eval e X.env)::starEach es X.env:=by rfl) (hplain:(backTo cpos (starEach es X.env)).any (·.1)=false:=by rfl) :
  SE X cA sub aj F EX (.Call (.Attribute o name apos) (e::es) [] cpos) (.meth fz p k O Xs):=PE.weak (Tc pa slot hty hm ho ha hbase hfew hline hs hplain) λσ H Q hh=>un hh λφ τ s hL hS h=>by
 refine aW hL hS h λx H1 φ1 d1 s1 x1 hL1 hS1 r1 h1=>?_;obtain⟨dd,rv,h2⟩:=Gb hS1 r1 h1;by_cases hk:oH k dd=true
 ·rw[if_pos hk] at h2;refine⟨zi3 hk rv,qG hL1 hS1 h2 λys H2 φ2 ds s2 x2 hL2 hS2 r2 h3=>?_⟩;obtain⟨ds,rs,h4⟩:=m8 hS2 (.cons (r1.mono x2 hS1.lz) r2) h3;obtain⟨_,_,e,q⟩:=hr φ2 H2 ds _ _ hS2.zs rs (mj hS2 h4);cases e;exact q
 ·rw[if_neg hk] at h2;exact h2.elim
noncomputable def Jr:Kd->String->Bool
 |.int,"int"=>true
 |.int,"bool"=>true
 |.bool,"bool"=>true
 |.str,"str"=>true
 |.tuple,"tuple"=>true
 |.list,"list"=>true
 |.dict,"dict"=>true
 |_,_=>false
noncomputable def uM:Kd->Option Value
 |.int=>some (.type "int")
 |.bool=>some (.type "bool")
 |.str=>some (.type "str")
 |.tuple=>some (.type "tuple")
 |.list=>some (.type "list")
 |.dict=>some (.type "dict")
 |_=>none
theorem zlC{K:PySem.W.Frag}{k:Kd}{cu:Value}(h:uM k=some cu){T:String}(hT:T∈["NoneType","bool","int","str","tuple","list","dict"]):PySem.W.kitOne K (.type T) cu=some (Jr k T):=by
 simp only[cM,List.mem_nil_iff,lJ] at hT;cases k<;>simp only[uM] at h<;>cases h<;>rcases hT with rfl|rfl|rfl|rfl|rfl|rfl|rfl<;>rfl
structure tH(K:PySem.W.Frag)(cA:Cl)(sub:Nat->Nat->Bool):Prop where
 xc:∀c,XC K (cA.a c)
 sub:∀c e,PySem.W.kitOne K (.ref (cA.a c)) (.ref (cA.a e))=some (sub c e)
 oG:∀c,PySem.W.kitOne K (.ref (cA.a c)) (.type "ValueError")=some true
noncomputable def BX(cA:Cl):Kd->V
 |.cls e=>.ref (cA.a e)
 |.oG=>.ty "ValueError"
 |.int=>.ty "int"
 |.bool=>.ty "bool"
 |.str=>.ty "str"
 |.tuple=>.ty "tuple"
 |.list=>.ty "list"
 |.dict=>.ty "dict"
theorem zhJ(Cs:uM k=none->tH X.K cA sub) :
  cV X (.builtin "isinstance") (λxs H Q=>∃φ d v bb,xs=[v,BX cA k]/\Rv X.K cA φ H d v/\lB sub d k=some bb/\Q (.bl bb) H):=by
 intro ak sh σ H xs us Q I r ⟨φ,d,v,bb,e,rd,hi,q⟩;subst e;obtain⟨u,w,rfl,ru,N_⟩:=Vals.two r;have tK:∀tk,EP X ak σ Q (.bool bb) {sh with toks:=tk}:=λtk=>⟨.bl bb,H,I.tok tk,rfl,q⟩;have bt:∀{T:String} {Hh:Heap->Prop},PySem.W.KitX X.K u (.type T) Hh->Hh sh.heap->T∈["NoneType","bool","int","str","tuple","list","dict"]->u≠Value.builtin "__main__.__loader__#opaque"->(∃cu,uM k=some cu/\w=cu/\Jr k T=bb)->wpAny (model X.prog X.w) X.A (PySem.call (.builtin "isinstance") [u,w]) (EP X ak σ Q) X.xe sh:=λ{T Hh} Z hh hT hx ⟨cu,h1,h2,h3⟩=>by
  subst h2 h3;exact PySem.W.kia_one Z I.qy hh (zlC h1 hT) hx tK
 have wv:∀cu,uM k=some cu->w=cu:=λcu h=>by
  cases k<;>simp only[uM] at h<;>cases h<;>exact N_
 have fin:∀T,lB sub d k=(match uM k with|some _=>some (Jr k T)|none=>none)->∃cu,uM k=some cu/\w=cu/\Jr k T=bb:=λT h=>by
  rw[hi] at h;cases z:uM k with
  |none=>rw[z] at h;cases h
  |some cu=>rw[z] at h;cases h;exact⟨cu,rfl,wv cu z,rfl⟩
 cases d with
 |non=>
  cases (show Rep X.K cA φ H .non v from rd);cases (show u=Value.none from ru);exact bt PySem.W.kitx_none trivial (by simp) (λz=>nomatch z) (fin "NoneType" (by cases k<;>rfl))
 |bl b=>
  cases rd.bl;cases (show u=Value.bool b from ru);exact bt PySem.W.kitx_bool trivial (by simp) (λz=>nomatch z) (fin "bool" (by cases k<;>rfl))
 |int i=>
  cases rd.int;obtain⟨t,z⟩:=(show ∃t,u=Value.int i t from ru);cases z;exact bt PySem.W.kitx_int trivial (by simp) (λz=>nomatch z) (fin "int" (by cases k<;>rfl))
 |str y=>
  cases rd.str;obtain⟨t,z⟩:=(show ∃t,u=Value.str y t from ru);cases z;exact bt PySem.W.kitx_str trivial (by simp) (λz=>nomatch z) (fin "str" (by cases k<;>rfl))
 |tup xs=>
  obtain⟨ad,vs,rfl,h1,h2⟩:=rd.tup;cases (show u=Value.ref ad from ru);obtain⟨its,_,ht,_⟩:=I.tuple h1.jx;obtain⟨o,q1,q2,_⟩:=ht;exact bt PySem.W.kitx_tuple ⟨o,q1,q2⟩ (by simp) (λz=>nomatch z) (fin "tuple" (by cases k<;>rfl))
 |fl xs=>
  obtain⟨ad,vs,rfl,h1,h2⟩:=rd;cases (show u=Value.ref ad from ru);obtain⟨its,_,ht,_⟩:=I.list h1;obtain⟨o,q1,q2,_⟩:=ht.isList;exact bt PySem.W.kitx_list ⟨o,q1,q2⟩ (by simp) (λz=>nomatch z) (fin "list" (by cases k<;>rfl))
 |fd ks vs=>
  cases (show Rep X.K cA φ H (.fd ks vs) v from rd) with
  |@fd ad kk ii q1 n=>
   cases (show u=Value.ref ad from ru);obtain⟨_,_,vs,_,o,es',ep,g1,g2,_⟩:=(show aQ X.prog X.w H sh.heap ad (.dK [(.inr kk,.int ii)]) from I.hok ad _ q1);exact bt PySem.W.kitx_dict ⟨o,g1,g2.1⟩ (by simp) (λz=>nomatch z) (fin "dict" (by cases k<;>rfl))
 |ob c fs=>cases k<;>cases hi
 |exc c fs=>
  cases (show Rep X.K cA φ H (.exc c fs) v from rd) with
  |@exc ad _ _ vs hx rs=>
   cases (show u=Value.ref ad from ru);have hI:∃ox od,PySem.W.InstAt sh.heap ad ox (cA.a c) od:=by
    obtain⟨_,⟨_,_,hx⟩|⟨dx,hx,_,hd,_⟩⟩:=hx
    ·obtain⟨⟨oe,vs,g1,g2,g3,g4⟩,_⟩:=(show aQ X.prog X.w H sh.heap ad (jR ad (cA.a c) none) from I.hok ad _ hx);exact⟨oe,none,g1,g2,by unfold PySem.W.notCls;rw[g4],by rw[g3];trivial⟩
    ·obtain⟨⟨oe,vs,g1,g2,g3,g4⟩,_⟩:=(show aQ X.prog X.w H sh.heap ad (jR ad (cA.a c) (some dx)) from I.hok ad _ hx);obtain⟨mA,⟨od,es,ep,e1,c1⟩,_⟩:=(show aQ X.prog X.w H sh.heap dx (.xd _) from I.hok dx _ hd);exact⟨oe,some od,g1,g2,by unfold PySem.W.notCls;rw[g4],by rw[g3];exact e1⟩
   cases k with
   |cls e=>
    cases (show w=Value.ref (cA.a e) from N_);have z:some (sub c e)=some bb:=hi;cases z;exact PySem.W.kia_one (TJ ((Cs rfl).xc c)) I.qy hI ((Cs rfl).sub c e) (λz=>nomatch z) tK
   |oG=>
    cases (show w=Value.type "ValueError" from N_);have z:some true=some bb:=hi;cases z;exact PySem.W.kia_one (TJ ((Cs rfl).xc c)) I.qy hI ((Cs rfl).oG c) (λz=>nomatch z) tK
   |_=>cases hi
theorem zlG(Cs:uM k=none->tH X.K cA sub)(hg:Gl X "isinstance")(hm:X.mg "isinstance"=none)(ha:SE X cA sub aj F EX a A)(hk:PE X kx (tC (BX cA k)))(h1:starEach [a,kx] X.env=(false,eval a X.env)::starEach [kx] X.env:=by rfl)(h2:starEach [kx] X.env=(false,eval kx X.env)::starEach [] X.env:=by rfl)
  (hpl:(backTo pos (starEach [kx] X.env)).any (·.1)=false:=by rfl):SE X cA sub aj F EX (.Call (.Name "isinstance" pp) [a,kx] [] pos) (.gw A k):=PE.weak (SX (zhJ (cA:=cA) (k:=k) Cs) hg hm PyProof.Rows.boot_isinstance (sy ha (sy hk zm h2) h1) (by decide) (by decide) h1 hpl) λσ H Q hh=>un hh λφ τ s hL hS h=>
 aW hL hS h λv H1 φ1 d s1 x1 hL1 hS1 r1 h1=>by
  show ∃φ d' v' bb,[v,BX cA k]=[v',BX cA k]/\_;obtain⟨dd,rv,h2⟩:=Gb hS1 r1 h1;obtain⟨bb,e,h3⟩:=NK h2;exact⟨φ1,dd,v,bb,rfl,rv,e,h3.bC hS1 _ (.d (.bl bb))⟩
theorem zjE{j p1 j2 p3}:SE X cA sub aj F EX (.Dict [some (.Constant (.str k) j p1)] [.Constant (.int i) j2 p3] pos) (.sX k i):=PE.weak (zjh (zh9 R8 Lr zjx) rfl rfl (by simp) (KZ rfl)) λσ H Q hh=>un hh λφ τ s hL hS h=>by
 intro p hp;refine⟨kY,[(.inr k,.int i)],rfl,KZ rfl,?_⟩;rw[R3];exact h φ _ (bG.new hp).ext (hS.grow (bG.new hp)) _ (.d (.fd kY (hS.nz hp)))
end
section
variable {K:PySem.W.Frag}{cA:Cl}{φ φ':Ph}{H H':Hp}{s:S}
theorem TupAt.kJ(e:∀a,φ'.z a->φ.z a){a:Addr}{vs:List V}(h:TupAt K φ H a vs):TupAt K φ' H a vs:=h.imp (λ⟨p,n⟩=>⟨p,λz=>n (e a z)⟩) id
theorem LstAt.kJ(e:∀a,φ'.z a->φ.z a){a:Addr}{vs:List V}(h:LstAt K φ H a vs):LstAt K φ' H a vs:=h.imp (λ⟨p,n⟩=>⟨p,λz=>n (e a z)⟩) id
theorem ExcAt.kJ(e:∀a,φ'.z a->φ.z a){a:Addr}{c:Nat}{vs:List V}(h:ExcAt cA φ H a c vs):ExcAt cA φ' H a c vs:=
 ⟨λz=>h.1 (e a z),h.2.imp id λ⟨dx,p,n,q,l⟩=>⟨dx,p,λz=>n (e dx z),q,l⟩⟩
theorem oO.kJ(e:∀a,φ'.z a->φ.z a){a:Addr}{c:Nat}{vs:List V}(h:oO cA φ H a c vs):oO cA φ' H a c vs:=⟨λz=>h.1 (e a z),h.2⟩
theorem Rep.kJ(e:∀a,φ'.z a->φ.z a){d:D}{v:V}(h:Rep K cA φ H d v):Rep K cA φ' H d v:=
 Rep.rec (motive_1:=λd v _=>Rep K cA φ' H d v) (motive_2:=λd v _=>aC K cA φ' H d v) .non .bl .int .str (λh _ i=>.tup (h.kJ e) i) (λh _ i=>.fl (h.kJ e) i) (λh n=>.fd h (λz=>n (e _ z))) (λh _ i=>.exc (h.kJ e) i) (λh _ i=>.ob (h.kJ e) i) .nil (λ_ _ i j=>.cons i j) h
theorem aC.kJ(e:∀a,φ'.z a->φ.z a){d:List D}{v:List V}(h:aC K cA φ H d v):aC K cA φ' H d v:=
 aC.rec (motive_1:=λd v _=>Rep K cA φ' H d v) (motive_2:=λd v _=>aC K cA φ' H d v) .non .bl .int .str (λh _ i=>.tup (h.kJ e) i) (λh _ i=>.fl (h.kJ e) i) (λh n=>.fd h (λz=>n (e _ z))) (λh _ i=>.exc (h.kJ e) i) (λh _ i=>.ob (h.kJ e) i) .nil (λ_ _ i j=>.cons i j) h
theorem m6.kJ(e:∀a,φ'.z a->φ.z a){a:Addr}{o:SO}(h:m6 K cA φ H a o):m6 K cA φ' H a o:=by
 cases o with
 |lst xs=>obtain⟨vs,q1,q2⟩:=h;exact⟨vs,q1,q2.kJ e⟩
 |dct _ _=>exact h
theorem Rep.zl{d:D}{v:V}(h:Rep K cA φ H d v)(l:List Addr):Rep K cA ⟨φ.z,l⟩ H d v:=Rep.kJ (φ:=φ) (φ':=⟨φ.z,l⟩) (λ_ z=>z) h
theorem aC.zl{d:List D}{v:List V}(h:aC K cA φ H d v)(l:List Addr):aC K cA ⟨φ.z,l⟩ H d v:=aC.kJ (φ:=φ) (φ':=⟨φ.z,l⟩) (λ_ z=>z) h
theorem m6.zl{a:Addr}{o:SO}(h:m6 K cA φ H a o)(l:List Addr):m6 K cA ⟨φ.z,l⟩ H a o:=m6.kJ (φ:=φ) (φ':=⟨φ.z,l⟩) (λ_ z=>z) h
noncomputable def adr(l:List Addr):List Nat->List Addr
 |[]=>[]
 |n::r=>match l[n]? with
  |some a=>a::adr l r
  |none=>adr l r
theorem BZ{l:List Addr}:∀{ns:List Nat} {a:Addr},a∈adr l ns->∃n∈ns,l[n]?=some a
 |[],a,h=>by cases h
 |n::r,a,h=>by
  unfold adr at h;cases e:l[n]? with
  |none=>
   simp only[e] at h;obtain⟨m,h1,h2⟩:=BZ h;exact⟨m,eN _ h1,h2⟩
  |some b=>
   simp only[e] at h;rcases cM.mp h with rfl|h
   ·exact⟨n,eZ,e⟩
   ·obtain⟨m,h1,h2⟩:=BZ h;exact⟨m,eN _ h1,h2⟩
theorem Va{s:S}:∀{ns:List Nat} {s0:S} {i n:Nat},iW s ns=some s0->ns[i]?=some n->s0[i]?=s[n]?/\∃o,s[n]?=some o
 |[],s0,i,n,h,e=>by simp at e
 |m::r,s0,i,n,h,e=>by
  unfold iW at h;cases e1:s[m]? with
  |none=>simp only[e1] at h;cases h
  |some o=>
   cases e2:iW s r with
   |none=>simp only[e1,e2] at h;cases h
   |some q=>
    simp only[e1,e2] at h;cases h;cases i with
    |zero=>simp at e;subst e;exact⟨by simp[e1],o,e1⟩
    |succ i=>simpa using Va e2 (by simpa using e)
theorem Vb{s:S}:∀{ns:List Nat} {s0:S},iW s ns=some s0->s0.length=ns.length
 |[],s0,h=>by cases h;rfl
 |m::r,s0,h=>by
  unfold iW at h;cases e1:s[m]? with
  |none=>simp only[e1] at h;cases h
  |some o=>
   cases e2:iW s r with
   |none=>simp only[e1,e2] at h;cases h
   |some q=>
    simp only[e1,e2] at h;cases h;rw[gY,gY,Vb e2]
theorem Gp{l:List Addr}:∀{ns:List Nat} {i n:Nat},(∀n∈ns,∃a,l[n]?=some a)->ns[i]?=some n->(adr l ns)[i]?=l[n]?
 |[],i,n,_,e=>by simp at e
 |m::r,i,n,h,e=>by
  obtain⟨a,ha⟩:=h m eZ;unfold adr;simp only[ha];cases i with
  |zero=>simp at e;subst e;simp[ha]
  |succ i=>simpa using Gp (λn hn=>h n (eN _ hn)) (by simpa using e)
theorem Gq{l:List Addr}:∀{ns:List Nat},(∀n∈ns,∃a,l[n]?=some a)->(adr l ns).length=ns.length
 |[],_=>rfl
 |m::r,h=>by
  obtain⟨a,ha⟩:=h m eZ;unfold adr;simp only[ha];rw[gY,gY,Gq (λn hn=>h n (eN _ hn))]
theorem Vc{l:List Addr}(hl:l.Nodup):∀{ns:List Nat},ns.Nodup->(∀n∈ns,∃a,l[n]?=some a)->(adr l ns).Nodup
 |[],_,_=>Bo
 |m::r,hn,h=>by
  obtain⟨a,ha⟩:=h m eZ;unfold adr;simp only[ha];obtain⟨h1,h2⟩:=qm.mp hn;refine qm.mpr ⟨λz=>?_,Vc hl h2 (λn hn=>h n (eN _ hn))⟩;obtain⟨n,q1,q2⟩:=BZ z;have:m=n:=(Ld (jo.mp ha).1 hl).mp (ha.trans q2.symm);exact h1 (this▸q1)
theorem B_{s:S}:∀{ns:List Nat} {s1:S},(cW s ns s1).length=s.length
 |[],s1=>by cases s1<;>rfl
 |n::r,[]=>rfl
 |n::r,o::q=>by
  show (cW (s.set n o) r q).length=_;rw[B_,nZ]
theorem Oa{s:S}:∀{ns:List Nat} {s1:S} {m:Nat},m∉ns->(cW s ns s1)[m]?=s[m]?
 |[],s1,m,_=>by cases s1<;>rfl
 |n::r,[],m,_=>rfl
 |n::r,o::q,m,h=>by
  show (cW (s.set n o) r q)[m]?=_;rw[Oa (λz=>h (eN _ z)),qQ (λz=>h (by rw[z];exact eZ))]
theorem zev{s:S}:∀{ns:List Nat} {s1:S} {i m:Nat} {o:SO},ns.Nodup->ns[i]?=some m->s1[i]?=some o->m<s.length->(cW s ns s1)[m]?=some o
 |[],s1,i,m,o,_,e,_,_=>by simp at e
 |n::r,[],i,m,o,_,_,e,_=>by simp at e
 |n::r,q::qs,i,m,o,hn,e1,e2,hm=>by
  show (cW (s.set n q) r qs)[m]?=_;obtain⟨h1,h2⟩:=qm.mp hn;cases i with
  |zero=>
   simp at e1 e2;subst e1 e2;rw[Oa h1,wQ hm]
  |succ i=>exact zev h2 (by simpa using e1) (by simpa using e2) (by rw[nZ];exact hm)
theorem zfM:∀{xs:List Xv} {vs:List V} (l0:List Addr) (z:Addr->Prop) (k:Nat),bT K cA φ H xs vs->φ.z=z->(∀i n,(locs xs)[i]?=some n->l0[k+i]?=φ.l[n]?)->bT K cA ⟨z,l0⟩ H (dJ k xs) vs
 :=by
 intro xs vs l0 z k r0
 induction r0 generalizing k with
 |nil=>exact λ_ _=>.nil
 |@cons x v xs vs a q ih=>
  intro ez h;cases a with
  |d a=>exact .cons (.d (a.kJ λb hb=>by rw[ez];exact hb)) (ih k ez h)
  |@l n a' a=>
   refine .cons (.l ?_) (ih (k+1) ez λi m e=>?_)
   ·have:=h 0 n rfl;rw[Nat.add_zero] at this;show l0[k]?=_;rw[this];exact a
   ·have:=h (i+1) m (by simpa [locs] using e);rw[<-this]
    congr 1
    lia
theorem ze9:∀{xs:List Xv} {vs:List V},bT K cA φ H xs vs->∀n∈locs xs,∃a,φ.l[n]?=some a
 :=by
 intro xs vs r0
 induction r0 with
 |nil=>exact λn h=>by cases h
 |cons a q ih=>
  intro n h;cases a with
  |d a=>exact ih n h
  |l a=>
   rcases cM.mp h with rfl|h
   ·exact⟨_,a⟩
   ·exact ih n h
theorem Vd{xs:List Xv}{φ1:Ph}{s0 s1:S}(hS:aG K cA φ H s)(hn:(locs xs).Nodup)(ht:∀n∈locs xs,∃a,φ.l[n]?=some a)(x:Ext ⟨φ.z,adr φ.l (locs xs)⟩ H φ1 H')(r1:aG K cA φ1 H' s1) :
  Ext φ H ⟨φ1.z,φ.l⟩ H'/\aG K cA ⟨φ1.z,φ.l⟩ H' (cW s (locs xs) s1):=by
 have sub:∀a∈adr φ.l (locs xs),a∈φ.l:=λa ha=>by obtain⟨n,_,q⟩:=BZ ha;exact gU q
 obtain⟨r,er,hr⟩:=x.more;have er:φ1.l=adr φ.l (locs xs)++r:=er;refine⟨⟨⟨[],by simp,by simp⟩,λa h=>x.uJ a h,λa h=>x.m7 a h,λa o h n=>x.frame a o h λz=>n (sub a z),x.stay⟩,?_⟩;refine⟨by rw[B_];exact hS.len,λn o a e1 e2=>?_,hS.uniq,λa ha=>x.uJ a (hS.lz a ha),r1.zt⟩;have e2:φ.l[n]?=some a:=e2;by_cases hin:n∈locs xs
 ·obtain⟨i,hi,ei⟩:=Bc hin;have ei:(locs xs)[i]?=some n:=by rw[fD hi,ei]
  have ha:(adr φ.l (locs xs))[i]?=some a:=by rw[Gp ht ei];exact e2
  have ha1:φ1.l[i]?=some a:=by rw[er,pq (jo.mp ha).1];exact ha
  have hlt:i<s1.length:=by rw[<-r1.len];exact(jo.mp ha1).1
  have hb:=zev (s:=s) (s1:=s1) hn ei (fD hlt) (by rw[<-hS.len];exact(jo.mp e2).1);rw[hb] at e1;cases e1;exact m6.zl (r1.obj i _ a (fD hlt) ha1) _
 ·rw[Oa hin] at e1;have hna:a∉adr φ.l (locs xs):=λz=>by
   obtain⟨m,q1,q2⟩:=BZ z;have:n=m:=(Ld (jo.mp e2).1 hS.uniq).mp (e2.trans q2.symm);exact hin (this▸q1)
  have:=hS.obj n o a e1 e2;cases o with
  |lst ys=>
   obtain⟨us,q1,q2⟩:=this;refine⟨us,x.frame a _ q1 hna,?_⟩;have q3:aC K cA ⟨φ.z,adr φ.l (locs xs)⟩ H ys us:=aC.zl q2 _;exact aC.zl (q3.mono x λa ha=>hS.lz a (sub a ha)) _
  |dct _ _=>exact this
theorem zhY{F:List Xv->M Xv}{xs:List Xv}{vs:List V}{Q:VK}{EE:Nat->List D->Ph->Hp->Prop}(hS:aG K cA φ H s)(r:bT K cA φ H xs vs)
  (hE:∀c fs φ1 φ2 H',φ1.z=φ2.z->EE c fs φ1 H'->EE c fs φ2 H')
  (h:Run K cA (cH F xs) φ H s (λx _ φ' H'=>∀v,bB K cA φ' H' x v->Q v H') (λc fs _ φ' H'=>EE c fs φ' H')) :
  ∃φ0 s0,bT K cA φ0 H (dJ 0 xs) vs/\aG K cA φ0 H s0/\Run K cA (F (dJ 0 xs)) φ0 H s0 (λx _ φ' H'=>∀v,bB K cA φ' H' x v->Q v H') (λc fs _ φ' H'=>EE c fs φ' H'):=by
 unfold Run cH at h;by_cases hn:(locs xs).Nodup
 ·simp only[if_pos hn] at h;have ht:=ze9 r;have sub:∀a∈adr φ.l (locs xs),a∈φ.l:=λa ha=>by obtain⟨n,_,q⟩:=BZ ha;exact gU q
  cases e0:iW s (locs xs) with
  |none=>simp only[e0] at h
  |some s0=>
   simp only[e0] at h;refine⟨⟨φ.z,adr φ.l (locs xs)⟩,s0,zfM _ _ 0 r rfl (λi n e=>by rw[Nat.zero_add];exact Gp ht e),?_,?_⟩
   ·refine⟨by rw[Vb e0];exact Gq ht,λi o a e1 e2=>?_,Vc hS.uniq hn ht,λa ha=>hS.lz a (sub a ha),hS.zt⟩;have e2:(adr φ.l (locs xs))[i]?=some a:=e2;have hi:i<(locs xs).length:=by rw[<-Gq ht];exact(jo.mp e2).1
    have ei:(locs xs)[i]?=some ((locs xs)[i]):=fD hi;rw[Gp ht ei] at e2;rw[(Va e0 ei).1] at e1;exact m6.zl (hS.obj _ o a e1 e2) _
   ·unfold Run;cases e1:F (dJ 0 xs) s0 with
    |none=>simp only[e1] at h
    |some q=>
     obtain⟨q,s1⟩:=q;simp only[e1] at h;cases q with
     |er c fs=>
      intro φ1 H' x r1;obtain⟨x2,r2⟩:=Vd (s0:=s0) hS hn ht x r1;exact hE c fs ⟨φ1.z,φ.l⟩ φ1 H' rfl (h ⟨φ1.z,φ.l⟩ H' x2 r2)
     |ok y=>
      intro φ1 H' x r1 v rv;obtain⟨x2,r2⟩:=Vd (s0:=s0) hS hn ht x r1;cases y with
      |d w=>
       cases rv with
       |d rv=>exact h ⟨φ1.z,φ.l⟩ H' x2 r2 v (.d (Rep.zl rv _))
      |l n=>
       cases rv with
       |@l _ a hl=>
        obtain⟨rr,er,hr⟩:=x.more;have er:φ1.l=adr φ.l (locs xs)++rr:=er;cases em:(locs xs)[n]? with
        |some m=>
         simp only[em] at h;refine h _ H' x2 r2 _ (.l ?_);show φ.l[m]?=some a;have ha:(adr φ.l (locs xs))[n]?=φ.l[m]?:=Gp ht em;have hlt:n<(adr φ.l (locs xs)).length:=by rw[Gq ht];exact(jo.mp em).1
         rw[er,pq hlt] at hl;rw[<-ha];exact hl
        |none=>
         simp only[em] at h;have hge:(adr φ.l (locs xs)).length<=n:=by rw[Gq ht];exact pA.mp em
         have har:a∈rr:=by
          rw[er,nM hge] at hl;exact gU hl
         have hna:a∉φ.l:=λz=>by
          obtain⟨o,eo⟩:=hS.zt a (hS.lz a z);rw[hr a har] at eo;cases eo
         cases eo:s1[n]? with
         |none=>simp only[eo] at h
         |some o=>
          simp only[eo] at h;have ho:=r1.obj n o a eo hl;refine h ⟨φ1.z,φ.l++[a]⟩ H' ⟨⟨[a],rfl,by simpa using hr a har⟩,x2.uJ,x2.m7,x2.frame,x2.stay⟩ ?_ _ (.l (by show (φ.l++[a])[s.length]?=_;rw[<-hS.len];simp));refine⟨by show (φ.l++[a]).length=_;rw[cX,cX,B_,hS.len];rfl,λm o' a' e1 e2=>?_,?_,λb hb=>?_,r1.zt⟩
          ·have e2:(φ.l++[a])[m]?=some a':=e2;by_cases hm:m<s.length
           ·rw[pq (by rw[B_];exact hm)] at e1;rw[pq (by rw[hS.len];exact hm)] at e2;exact m6.zl (r2.obj m o' a' e1 e2) _
           ·have hl2:m=s.length:=by
             have z:=(jo.mp e2).1;rw[cX,hS.len] at z;simp at z
             lia
            subst hl2;rw[nM (by rw[B_];exact cg _)] at e1;rw[nM (by rw[hS.len];exact cg _)] at e2;simp[B_] at e1;simp[hS.len] at e2;subst e1 e2;exact m6.zl ho _
          ·show (φ.l++[a]).Nodup;rw[Ig];refine⟨hS.uniq,by simp,λb hb c hc e=>?_⟩;simp at hc;subst hc e;exact hna hb
          ·have hb:b∈φ.l++[a]:=hb;rcases fG.mp hb with z|z
           ·exact x2.uJ b (hS.lz b z)
           ·simp at z;subst z;exact r1.lz _ (gU hl)
 ·simp only[if_neg hn] at h
end
section
variable {X:Cx}{cA:Cl}{sub:Nat->Nat->Bool}{aj:Bool}{F:Fn}{EX:XS}{a b c d e o:Expr}{A B C Dd E' O:E}{pos pp p2 apos cpos:Pos}{es:List Expr}{Xs:Es}{fz:Bool}{p:Pr}{x:Str}{φ:Ph}{H:Hp}{s:S}
theorem Js{K:PySem.W.Frag}{β:Type}{x:Xv}{v:V}{k:Nat×List D->M β}{P:β->S->Ph->Hp->Prop}{Ee:Nat->List D->S->Ph->Hp->Prop}(hS:aG K cA φ H s)(r:bB K cA φ H x v)(h:Run K cA (M.bd (cJ x) k) φ H s P Ee) :
  ∃n ad xs vs,x=.l n/\v=.ref ad/\s[n]?=some (.lst xs)/\φ.l[n]?=some ad/\H ad=some (.lst vs)/\aC K cA φ H xs vs/\Run K cA (k (n,xs)) φ H s P Ee:=by
 cases r with
 |d _=>exact h.elim
 |@l n ad hl=>
  unfold Run M.bd cJ at h;dsimp only at h;cases e:s[n]? with
  |none=>rw[e] at h;exact h.elim
  |some o=>
   rw[e] at h;cases o with
   |lst xs=>
    obtain⟨vs,q1,q2⟩:=hS.obj n _ _ e hl;exact⟨n,ad,xs,vs,rfl,rfl,e,hl,q1,q2,h⟩
   |dct _ _=>exact h.elim
theorem zjf(ho:SE X cA sub aj F EX o O)(ha:SE X cA sub aj F EX a A)
  (hbase:attributeBase o "append" X.env (eval o X.env)=eval o X.env:=by rfl)
  (hfew:((backTo cpos (starEach [a] X.env)).all (λx=>!x.1)&&(backToKw cpos (keywordEach [] X.env)).all (λx=>x.1.isSome)
  &&decide ([a].length+([]:List Keyword).length+(if ([]:List Keyword).isEmpty then 0 else 1)<30))=true:=by rfl)
  (hline:(apos.endLine==cpos.line)=true:=by rfl) (hs:starEach [a] X.env=(false,eval a X.env)::starEach [] X.env:=by rfl) (hplain:(backTo cpos (starEach [] X.env)).any (·.1)=false:=by rfl) :
  SE X cA sub aj F EX (.Call (.Attribute o "append" apos) [a] [] cpos) (.push O A):=PE.weak (Tc Hy PySem.F.slot_list_append PySem.F.type_list_append Te ho (sy ha zm hs) hbase hfew hline hs hplain) λσ H Q hh=>un hh λφ τ s hL hS h=>by
 refine aW hL hS h λx H1 φ1 d1 s1 x1 hL1 hS1 r1 h1=>?_;obtain⟨n,ad,xs,vs,rfl,rfl,e1,f1,g1,q1,h2⟩:=Js hS1 r1 h1;refine⟨.inl ⟨rfl,vs,dj.of g1⟩,aW hL1 hS1 h2 λy H2 φ2 d2 s2 x2 hL2 hS2 r2 h3=>?_⟩;obtain⟨dd,_,rd,h4⟩:=NP r2 h3;obtain⟨n',ad',ys,us,en,ea,e2,f2,g2,q2,h5⟩:=Js hS2 (r1.mono x2 hS1.lz) h4;cases en;cases ea;by_cases hz:ys.length<sizeLine
 ·have h5:Run X.K cA (M.bd (putL n (ys++[dd])) λ_=>M.ret (Xv.d .non)) φ2 H2 s2 (λd _ φ' H'=>∀v,bB X.K cA φ' H' d v->Q v H') (eX X.K cA EX σ):=by
   have h6:Run X.K cA (if ys.length<sizeLine then M.bd (putL n (ys++[dd])) λ_=>M.ret (Xv.d .non) else M.no) φ2 H2 s2 (λd _ φ' H'=>∀v,bB X.K cA φ' H' d v->Q v H') (eX X.K cA EX σ):=h5;rw[if_pos hz] at h6;exact h6
  refine⟨ad,us,y,rfl,rfl,g2,by rw[<-q2.len];exact hz,?_⟩;exact h5 φ2 _ (Ext.write f2 ⟨_,g2⟩) (hS2.write e2 f2 (q2.app (.cons rd .nil))) _ (.d .non)
 ·have h6:Run X.K cA (if ys.length<sizeLine then M.bd (putL n (ys++[dd])) λ_=>M.ret (Xv.d .non) else M.no) φ2 H2 s2 (λd _ φ' H'=>∀v,bB X.K cA φ' H' d v->Q v H') (eX X.K cA EX σ):=h5;rw[if_neg hz] at h6;exact h6.elim
theorem zdW{α:Type}{xs:List α}{d:α}(h:xs.getLast?=some d):xs[xs.length-1]?=some d:=by
 rw[List.getLast?_eq_getElem?] at h;exact h
theorem aC.dropLast{K:PySem.W.Frag}{ds:List D}{vs:List V}(r:aC K cA φ H ds vs):aC K cA φ H ds.dropLast vs.dropLast:=by
 rw[List.dropLast_eq_take,List.dropLast_eq_take,r.len];exact r.take _
theorem zkt(ho:SE X cA sub aj F EX o O)(hbase:attributeBase o "pop" X.env (eval o X.env)=eval o X.env:=by rfl)(hline:(apos.endLine==cpos.line)=true:=by rfl) :
  SE X cA sub aj F EX (.Call (.Attribute o "pop" apos) [] [] cpos) (.pop O):=PE.weak (zkW Hy PySem.F.slot_list_pop PySem.F.type_list_pop zmE ho hbase hline) λσ H Q hh=>un hh λφ τ s hL hS h=>by
 refine aW hL hS h λx H1 φ1 d1 s1 x1 hL1 hS1 r1 h1=>?_;obtain⟨n,ad,xs,vs,rfl,rfl,e1,f1,g1,q1,h2⟩:=Js hS1 r1 h1;refine⟨.inl ⟨rfl,vs,dj.of g1⟩,?_⟩;cases eg:xs.getLast? with
 |none=>simp only[eg] at h2;exact h2.elim
 |some dd=>
  simp only[eg] at h2;obtain⟨w,hw,mU⟩:=q1.get (zdW eg);rw[q1.len] at hw;refine⟨ad,vs,w,rfl,rfl,g1,hw,?_⟩;have x2:Ext φ1 H1 φ1 (upd H1 ad (.lst vs.dropLast)):=Ext.write f1 ⟨_,g1⟩;exact h2 φ1 _ x2 (hS1.write e1 f1 q1.dropLast) _ (.d (mU.mono x2 hS1.lz))
noncomputable def uN(K:PySem.W.Frag)(cA:Cl)(m:List Xv->M Xv):Sp:=λvs H Q E=>∃φ xs s,bT K cA φ H xs vs/\aG K cA φ H s/\Run K cA (m xs) φ H s (λd _ φ' H'=>∀v,bB K cA φ' H' d v->Q v H') (λc fs _ φ' H'=>∀dx,jX K cA φ' H' c fs dx->E (.ref (cA.a c)) dx H')
theorem zjy{K:PySem.W.Frag}{φ1 φ2:Ph}{c:Nat}{fs:List D}{dx:Option Addr}(e:φ1.z=φ2.z)(h:jX K cA φ2 H c fs dx):jX K cA φ1 H c fs dx:=h.imp id λ⟨d,vs,a,b,c,l,r⟩=>⟨d,vs,a,by rw[e];exact b,c,l,r.kJ λ_ z=>by rw[<-e];exact z⟩
theorem zjC{cm:Bool}{k f:Nat}{fa:Addr}{fd:FuncData}{ps:List Str}(Fo:fM X.prog X.w X.K X.mg X.base (lU X.prog X.w) cm k fa fd ps (uN X.K cA (F f)))(hcm:cm=true->X.aj=true)(hr:b_ k X.A)(hg:Gl X x)(hm:X.mg x=some (.ref fa))(hk:PySem.W.keepIn X.K (.ref fa)=true)(hb:Binds X.K fd ps [])(R:Raises X EX)
  (ha:SA X cA sub aj F EX (e::es) Xs) (hdb:(x==("__debug__" : Str))=false:=by decide) (he:starEach (e::es) X.env=(false,eval e X.env)::starEach es X.env:=by rfl) (hpl:(backTo pos (starEach es X.env)).any (·.1)=false:=by rfl) :
  SE X cA sub aj F EX (.Call (.Name x pp) (e::es) [] pos) (.call f Xs):=PE.weak (zhH Fo hcm hr hg hm hk hb R ha hdb he hpl) λσ H Q hh=>un hh λφ τ s hL hS h=>
 qG hL hS h λvs H1 φ1 ds s1 x1 hL1 hS1 r1 h1=>by
  obtain⟨φ0,s0,a1,a2,a3⟩:=zhY (EE:=λc fs φ' H'=>∀dx,jX X.K cA φ' H' c fs dx->EX σ (.ref (cA.a c)) dx H') hS1 r1 (λc fs φ1 φ2 H' ez z dx q=>z dx (zjy ez q)) h1;exact⟨φ0,_,s0,a1,a2,a3⟩
end
section
variable {K:PySem.W.Frag}{cA:Cl}{φ φ':Ph}{H H':Hp}{s:S}
def fu(φ:Ph)(H H':Hp):Prop:=∀a o,H a=some o->¬φ.z a->H' a=some o
mutual
theorem Rep.out(x:fu φ H H'):∀{d:D} {v:V},Rep K cA φ H d v->Rep K cA φ H' d v
 |_,_,.non=>.non
 |_,_,.bl b=>.bl b
 |_,_,.int i=>.int i
 |_,_,.str z=>.str z
 |_,_,.tup h r=>.tup (h.imp (λ⟨p,n⟩=>⟨p.imp (λq=>x _ _ q n) λ⟨o,q⟩=>⟨o,x _ _ q n⟩,n⟩) id) (aC.out x r)
 |_,_,.fl h r=>.fl (h.imp (λ⟨p,n⟩=>⟨p.imp (λq=>x _ _ q n) λ⟨o,q⟩=>⟨o,x _ _ q n⟩,n⟩) id) (aC.out x r)
 |_,_,.fd h n=>.fd (x _ _ h n) n
 |_,_,.exc h r=>.exc ⟨h.1,h.2.imp (λ⟨a,b,q⟩=>⟨a,b,x _ _ q h.1⟩) λ⟨dx,p,n,q,l⟩=>⟨dx,x _ _ p h.1,n,x _ _ q n,l⟩⟩ (aC.out x r)
 |_,_,.ob h r=>.ob ⟨h.1,let ⟨dx,p,l⟩:=h.2;⟨dx,x _ _ p h.1,l⟩⟩ (aC.out x r)
theorem aC.out(x:fu φ H H'):∀{ds:List D} {vs:List V},aC K cA φ H ds vs->aC K cA φ H' ds vs
 |_,_,.nil=>.nil
 |_,_,.cons h r=>.cons (Rep.out x h) (aC.out x r)
end
theorem fu.refl:fu φ H H:=λa o e _=>e
structure m9(K:PySem.W.Frag)(cA:Cl)(c:Src)(φ:Ph)(H:Hp)(J:L2.It):Prop where
 stop:∀φ' H₁ H' s' i,Ext φ H φ' H₁->fu φ' H₁ H'->aG K cA φ' H' s'->c.at i s'=some none->J.stop i H'
 go:∀φ' H₁ H' s' i x,Ext φ H φ' H₁->fu φ' H₁ H'->aG K cA φ' H' s'->c.at i s'=some (some x)->J.go i H'
 yX:∀φ' H₁ H' s' i x v H2,Ext φ H φ' H₁->fu φ' H₁ H'->aG K cA φ' H' s'->c.at i s'=some (some x)->J.yX i H' v H2->bG H' H2/\Rep K cA φ' H2 x v
theorem LstAt.later(hz:∀a∈φ.l,φ.z a)(h:LstAt K φ H a vs)(x:Ext φ H φ' H₁)(o:fu φ' H₁ H'):LstAt K φ' H' a vs:=
 (h.mono x hz).imp (λ⟨p,n⟩=>⟨p.imp (λq=>o _ _ q n) λ⟨w,q⟩=>⟨w,o _ _ q n⟩,n⟩) id
theorem TupAt.later(hz:∀a∈φ.l,φ.z a)(h:TupAt K φ H a vs)(x:Ext φ H φ' H₁)(o:fu φ' H₁ H'):TupAt K φ' H' a vs:=
 (h.mono x hz).imp (λ⟨p,n⟩=>⟨p.imp (λq=>o _ _ q n) λ⟨w,q⟩=>⟨w,o _ _ q n⟩,n⟩) id
theorem m9.list(hz:∀a∈φ.l,φ.z a)(h:LstAt K φ H a vs)(r:aC K cA φ H xs vs):m9 K cA (.fix xs) φ H (I_ K a):=by
 refine⟨λφ' H₁ H' s' i x o hS e=>⟨vs,(h.later hz x o).uK,?_⟩,λφ' H₁ H' s' i d x o hS e=>?_,λφ' H₁ H' s' i d v H2 x o hS e y=>?_⟩
 ·have e:xs[i]?=none:=dw e;exact pA.mp ((r.mono x hz).none e)
 ·have e:xs[i]?=some d:=dw e;obtain⟨v,q,_⟩:=r.get e;exact⟨vs,v,(h.later hz x o).uK,q⟩
 ·have e:xs[i]?=some d:=dw e;obtain⟨rfl,y⟩:=y;obtain⟨w,q,mU⟩:=((r.mono x hz).out o).get e;have:=y vs (h.later hz x o).uK;rw[q] at this;cases this;exact⟨bG.refl,mU⟩
theorem m9.tuple(hz:∀a∈φ.l,φ.z a)(h:TupAt K φ H a vs)(r:aC K cA φ H xs vs):m9 K cA (.fix xs) φ H (Mf K a):=by
 refine⟨λφ' H₁ H' s' i x o hS e=>⟨vs,(h.later hz x o).jx,?_⟩,λφ' H₁ H' s' i d x o hS e=>?_,λφ' H₁ H' s' i d v H2 x o hS e y=>?_⟩
 ·have e:xs[i]?=none:=dw e;exact pA.mp ((r.mono x hz).none e)
 ·have e:xs[i]?=some d:=dw e;obtain⟨v,q,_⟩:=r.get e;exact⟨vs,v,(h.later hz x o).jx,q⟩
 ·have e:xs[i]?=some d:=dw e;obtain⟨rfl,y⟩:=y;obtain⟨w,q,mU⟩:=((r.mono x hz).out o).get e;have:=y vs (h.later hz x o).jx;rw[q] at this;cases this;exact⟨bG.refl,mU⟩
theorem Ob(h:(Src.live n).at i s=some o):∃xs,s[n]?=some (.lst xs)/\xs[i]?=o:=by
 unfold Src.at at h;dsimp only at h;cases e:s[n]? with
 |none=>rw[e] at h;cases h
 |some ob=>
  rw[e] at h;cases ob with
  |lst xs=>exact⟨xs,rfl,dw h⟩
  |dct _ _=>cases h
theorem m9.live(h:φ.l[n]?=some a):m9 K cA (.live n) φ H (I_ K a):=by
 refine⟨λφ' H₁ H' s' i x o hS e=>?_,λφ' H₁ H' s' i d x o hS e=>?_,λφ' H₁ H' s' i d v H2 x o hS e y=>?_⟩
 ·obtain⟨xs,e1,e2⟩:=Ob e;obtain⟨vs,q1,q2⟩:=hS.obj n _ a e1 (x.get h);exact⟨vs,dj.of q1,pA.mp (q2.none e2)⟩
 ·obtain⟨xs,e1,e2⟩:=Ob e;obtain⟨vs,q1,q2⟩:=hS.obj n _ a e1 (x.get h);obtain⟨v,q3,_⟩:=q2.get e2;exact⟨vs,v,dj.of q1,q3⟩
 ·obtain⟨xs,e1,e2⟩:=Ob e;obtain⟨vs,q1,q2⟩:=hS.obj n _ a e1 (x.get h);obtain⟨w,q3,mU⟩:=q2.get e2;obtain⟨rfl,y⟩:=y;have:=y vs (dj.of q1);rw[q3] at this;cases this;exact⟨bG.refl,mU⟩
theorem Oc:(jh a b)[i]?=if i<(b-a).toNat then some (.int (a+i)) else none:=by
 unfold jh;rw[je,List.getElem?_range']
where
 List.getElem?_range' {n i:Nat}:Option.map (λ(i:Nat)=>D.int (a+i)) (List.range n)[i]?=if i<n then some (.int (a+i)) else none:=by
  by_cases h:i<n
  ·rw[if_pos h,List.getElem?_range h];rfl
  ·rw[if_neg h,HJ (by simp;lia)];rfl
theorem m9.range{a b:Int}:m9 K cA (.fix (jh a b)) φ H (DW a (b-a).toNat):=by
 refine⟨λφ' H₁ H' s' i x o hS e=>?_,λφ' H₁ H' s' i d x o hS e=>?_,λφ' H₁ H' s' i d v H2 x o hS e y=>?_⟩
 ·have e:(jh a b)[i]?=none:=dw e;rw[Oc] at e;split at e
  ·cases e
  ·exact Di (by assumption)
 ·have e:(jh a b)[i]?=some d:=dw e;rw[Oc] at e;split at e
  ·assumption
  ·cases e
 ·have e:(jh a b)[i]?=some d:=dw e;rw[Oc] at e;split at e
  ·cases e;obtain⟨rfl,rfl⟩:=y;exact⟨bG.refl,.int _⟩
  ·cases e
end
noncomputable def Od(K:PySem.W.Frag)(te:TE):TI:=λσ H R=>te σ H λv H1=>∃a,v=.ref a/\(((∃xs,dj K H1 a xs)/\R (I_ K a) H1)\/((∃xs,fL K H1 a xs)/\R (Mf K a) H1))
theorem zlY(he:PE X l te):PI X tg l (Od X.K te):=by
 intro ak s σ H R I h;refine aV (he ak s σ H _ I h) λv s1 hx=>uI hx λx H1 I1 r1 a e q=>?_;subst e;cases r1;rcases q with ⟨⟨xs,hq⟩,q⟩|⟨⟨xs,hq⟩,q⟩
 ·obtain⟨its,rv,p,hz⟩:=I1.list hq;refine wpAny_pyIter_list p.isList ?_;refine⟨s1.heap.objs.size,[s1.heap.objs.size],_,_,H1,rfl,I1.kept (t':=s1.toks) λb o e=>bZ _ e,zgX a _,⟨_,gW _ rfl,rfl,rfl⟩,λb hb=>?_,q⟩;have e:b=s1.heap.objs.size:=by simpa using hb
  subst e;exact I1.vD (cg _) (I1.hok.fresh (cg _))
 ·obtain⟨its,rv,p,hz⟩:=I1.tuple hq;refine wpAny_pyIter_tuple (show s1.heap.IsTuple a its.toArray from p) ?_;refine⟨s1.heap.objs.size,[s1.heap.objs.size],_,_,H1,rfl,I1.kept (t':=s1.toks) λb o e=>bZ _ e,zfp a _,⟨_,gW _ rfl,rfl,rfl⟩,λb hb=>?_,q⟩;have e:b=s1.heap.objs.size:=by simpa using hb
  subst e;exact I1.vD (cg _) (I1.hok.fresh (cg _))
section
variable {X:Cx}{cA:Cl}{sub:Nat->Nat->Bool}{aj:Bool}{F:Fn}{EX:XS}{a b tg:Expr}{A B:E}{pos pp:Pos}
noncomputable def tI(K:PySem.W.Frag)(cA:Cl)(EX:XS)(m:Vs->M (Src×Nat)):TI:=λσ H R=>∃φ τ s,aY K cA φ H σ τ/\aG K cA φ H s/\Run K cA (m τ) φ H s (λcn _ φ1 H1=>∀J,m9 K cA cn.1 φ1 H1 J->R J H1) (eX K cA EX σ)
def SI(X:Cx)(cA:Cl)(sub:Nat->Nat->Bool)(aj:Bool)(F:Fn)(EX:XS)(tg iter:Expr)(w:Wk):Prop:=PI X tg iter (tI X.K cA EX (nU sub aj F w))
theorem PI.weak{iter:Expr}{t t':TI}(h:PI X tg iter t)(f:∀σ H Q,t' σ H Q->t σ H Q):PI X tg iter t':=λak s σ H Q I q=>h ak s σ H Q I (f σ H Q q)
theorem zkw(ha:SE X cA sub aj F EX a A):SI X cA sub aj F EX tg a (.seq A):=PI.weak (zlY ha) λσ H R hh=>un hh λφ τ s hL hS h=>by
 refine aW hL hS h λv H1 φ1 d s1 x1 hL1 hS1 r1 h1=>?_;cases r1 with
 |@l n ad hl=>
  unfold Run src at h1;dsimp only at h1;cases e:s1[n]? with
  |none=>rw[e] at h1;exact h1.elim
  |some o=>
   rw[e] at h1;cases o with
   |lst xs=>
    obtain⟨vs,q1,q2⟩:=hS1.obj n _ _ e hl;exact⟨ad,rfl,.inl ⟨⟨vs,dj.of q1⟩,h1 φ1 H1 Ext.refl hS1 _ (m9.live hl)⟩⟩
   |dct _ _=>exact h1.elim
 |d r1=>
  cases r1 with
  |tup q r=>exact⟨_,rfl,.inr ⟨⟨_,q.jx⟩,h1 φ1 H1 Ext.refl hS1 _ (m9.tuple hS1.lz q r)⟩⟩
  |fl q r=>exact⟨_,rfl,.inl ⟨⟨_,q.uK⟩,h1 φ1 H1 Ext.refl hS1 _ (m9.list hS1.lz q r)⟩⟩
  |_=>exact h1.elim
theorem Ve{i:Int}(h:fQ i=true) : -(2^62)<=i/\i<2^62:=by
 unfold fQ at h;rw[cI,Bk,Bk] at h;exact⟨by lia,h.2⟩
theorem Vf{K:PySem.W.Frag}{φ:Ph}{H:Hp}{s:S}{i j:Int}{P:Src×Nat->S->Ph->Hp->Prop}{Ee:Nat->List D->S->Ph->Hp->Prop}(hS:aG K cA φ H s)(h:Run K cA (if (fQ i&&fQ j)=true then M.ret (Src.fix (jh i j),(jh i j).length) else M.no) φ H s P Ee):(-(2^62)<=i/\i<2^62/\-(2^62)<=j/\j<2^62)/\P (.fix (jh i j),(jh i j).length) s φ H:=by
 by_cases hk:(fQ i&&fQ j)=true
 ·rw[if_pos hk] at h;rw[cI] at hk;obtain⟨a,b⟩:=Ve hk.1;obtain⟨c,d⟩:=Ve hk.2;exact⟨⟨a,b,c,d⟩,h.bC hS⟩
 ·rw[if_neg hk] at h;exact h.elim
theorem znb(tL:Gl X "range")(hmg:X.mg "range"=none)(ha:SE X cA sub aj F EX a A)(hb:SE X cA sub aj F EX b B)(h1:starEach [a,b] X.env=(false,eval a X.env)::starEach [b] X.env)(h2:starEach [b] X.env=(false,eval b X.env)::starEach [] X.env) :
  SI X cA sub aj F EX tg (.Call (.Name "range" pp) [a,b] [] pos) (.rg A B):=PI.weak (zfV tL hmg (sy ha (sy hb zm h2) h1) (by rw[h1,h2];rfl) (by rw[h2];rfl)) λσ H R hh=>un hh λφ τ s hL hS h=>by
 refine aW hL hS h λx H1 φ1 d1 s1 x1 hL1 hS1 r1 h1=>aW hL1 hS1 h1 λy H2 φ2 d2 s2 x2 hL2 hS2 r2 h2=>?_;obtain⟨i,_,e1,h3⟩:=Ga (r1.mono x2 hS1.lz) h2;obtain⟨j,_,e2,h4⟩:=Ga r2 h3;obtain⟨hz,q⟩:=Vf hS2 h4;subst e1 e2;exact⟨i,j,rfl,hz,q _ m9.range⟩
theorem zmL(tL:Gl X "range")(hmg:X.mg "range"=none)(hb:SE X cA sub aj F EX b B)(h2:starEach [b] X.env=(false,eval b X.env)::starEach [] X.env) :
  SI X cA sub aj F EX tg (.Call (.Name "range" pp) [b] [] pos) (.rg (.c (.int 0)) B):=PI.weak (zgm tL hmg (sy hb zm h2) (by rw[h2];rfl)) λσ H R hh=>un hh λφ τ s hL hS h=>by
 have h:Run X.K cA (M.bd (ev sub aj F B τ) λy=>M.bd (int (.d (.int 0))) λi=>M.bd (int y) λj=>if (fQ i&&fQ j)=true then M.ret (Src.fix (jh i j),(jh i j).length) else M.no) φ H s _ _:=h;refine aW hL hS h λy H2 φ2 d2 s2 x2 hL2 hS2 r2 h2=>?_;obtain⟨j,_,e2,h4⟩:=Ga r2 (show Run X.K cA (M.bd (int d2) λj=>if (fQ 0&&fQ j)=true then M.ret (Src.fix (jh 0 j),(jh 0 j).length) else M.no) φ2 H2 s2 _ _ from h2);obtain⟨hz,q⟩:=Vf hS2 h4;subst e2;refine⟨j,rfl,hz.2.2.1,hz.2.2.2,q _ ?_⟩;have:=m9.range (K:=X.K) (cA:=cA) (φ:=φ2) (H:=H2) (a:=0) (b:=j);rw[Int.sub_zero] at this;exact this
end
section
variable {K:PySem.W.Frag}{cA:Cl}{φ φ' φ0:Ph}{H H' H0:Hp}{s:S}
theorem Run.bd0(x:Ext φ0 H0 φ H)(h:Run K cA (M.bd m k) φ0 H0 s P Ee) :
  Run K cA m φ H s (λa s1 φ1 H1=>Ext φ H φ1 H1/\aG K cA φ1 H1 s1/\Run K cA (k a) φ0 H0 s1 P Ee) Ee:=by
 unfold Run M.bd at *;cases e:m s with
 |none=>rw[e] at h;exact h
 |some r=>
  obtain⟨r,s1⟩:=r;rw[e] at h;cases r with
  |er c f=>exact λφ1 H1 x1 r1=>h φ1 H1 (x.trans x1) r1
  |ok a=>exact λφ1 H1 x1 r1=>⟨x1,r1,h⟩
theorem Vg{α β:Type}{m:M α}{k:α->M β}{P:β->S->Ph->Hp->Prop}{Ee Ee':Nat->List D->S->Ph->Hp->Prop}(x:Ext φ0 H0 φ H)(h:Run K cA (M.bd (M.qt m) k) φ0 H0 s P Ee) :
  Run K cA m φ H s (λa s1 φ1 H1=>Ext φ H φ1 H1/\aG K cA φ1 H1 s1/\Run K cA (k a) φ0 H0 s1 P Ee) Ee':=by
 have h2:=h.bd0 x;unfold Run at h2 ⊢;unfold M.qt at h2;cases e:m s with
 |none=>rw[e] at h2;exact h2
 |some r=>
  obtain⟨r,s1⟩:=r;rw[e] at h2;cases r with
  |ok a=>exact h2
  |er c f=>exact h2.elim
theorem zlM{α β:Type}{m m':M α}{k:α->M β}{P:β->S->Ph->Hp->Prop}{Ee:Nat->List D->S->Ph->Hp->Prop}(e:m s=m' s)(h:Run K cA (M.bd m k) φ H s P Ee):Run K cA (M.bd m' k) φ H s P Ee:=by
 unfold Run M.bd at *;rw[<-e];exact h
end
section
variable {X:Cx}{cA:Cl}{sub:Nat->Nat->Bool}{aj:Bool}{F:Fn}{EX:XS}{elt iter tg:Expr}{A B:E}{pos p:Pos}{ifs:List Expr}{scope:Scope}{N:List Str}{cond:Eo}{fr dG:List Nat}{many:Nat}{fz:Bool}{w:Wk}
def Gs(X:Cx)(cA:Cl)(sub:Nat->Nat->Bool)(aj:Bool)(F:Fn)(EX:XS)(ifs:List Expr)(m:Eo):Prop:=Ji X ifs (xU X.K cA EX (qY sub aj F m))
theorem zkK:Gs X cA sub aj F EX [] .no:=λak s σ H Q I ⟨φ,τ,st,hL,hS,h⟩=>zjZ ak s σ H Q I (h.bC hS)
theorem zji(h:ST X cA sub aj F EX c C):Gs X cA sub aj F EX [c] (.yes C):=zkg h
structure mq(K:PySem.W.Frag)(cA:Cl)(g:TG)(dG:List Nat):Prop where
 run:∀(φ:Ph) (H:Hp) (s:S) (σ:L2.St) (τ τ':Vs) (d:D) (v:V) (Q:L2.St->Hp->Prop),aY K cA φ H σ τ->aG K cA φ H s->Rep K cA φ H d v->jW dG d τ=some τ'->
  (∀σ',aY K cA φ H σ' τ'->σ'.length=σ.length->(∀i,i∉dG->σ'[i]?=σ[i]?)->Q σ' H)->g v σ H Q
theorem m_{K:PySem.W.Frag}(i:Nat):mq K cA (dU i) [i] where
 run:=λφ H s σ τ τ' d v Q hL hS r e k=>by
  cases e;exact k _ (hL.set (.d r)) (nZ ..) λj hj=>qQ (by simpa using λz=>hj (by simp[z]))
theorem Oe{K:PySem.W.Frag}(i j:Nat):mq K cA (rY K 2 (g8 (dU i) (g8 (dU j) rW))) [i,j] where
 run:=λφ H s σ τ τ' d v Q hL hS r e k=>by
  have e:(lC d).bind (λds=>gJ [i,j] (ds.map Xv.d) τ)=some τ':=e;obtain⟨ds,e1,e2⟩:=wO.mp e;cases r with
  |@tup ad xs vs h1 h2=>
   have e1:xs=ds:=dw e1;subst e1;cases h2 with
   |nil=>cases e2
   |cons r1 t1=>
    cases t1 with
    |nil=>cases e2
    |cons r2 t2=>
     cases t2 with
     |nil=>
      have e2:=dw e2;subst e2;refine⟨ad,_,rfl,h1.jx,rfl,_,_,rfl,_,_,rfl,rfl,k _ ((hL.set (.d r1)).set (.d r2)) (by rw[nZ,nZ]) λm hm=>?_⟩;rw[qQ (λz=>hm (by simp[z])),qQ (λz=>hm (by simp[z]))]
     |cons r3 t3=>cases e2
  |_=>cases e1
noncomputable def cP(many:Nat)(fr:List Nat)(σ:L2.St):L2.St:=List.replicate many none++fr.map λj=>(σ[j]?).join
theorem zkh{φ:Ph}{H:Hp}{σ:L2.St}{τ:Vs}(hL:aY X.K cA φ H σ τ){σ':L2.St}(hl:σ'.length=many+fr.length)(hf:∀(i:Nat) j v,fr[i]?=some j->σ[j]?=some (some v)->σ'[many+i]?=some (some v)):aY X.K cA φ H σ' (blk many fr τ):=by
 refine⟨by unfold blk;simp[hl],λi d e=>?_⟩;unfold blk at e;by_cases hi:i<many
 ·rw[pq (by simpa using hi),Hx,if_pos hi] at e;cases e
 ·rw[nM (by simpa using Di hi),HB,je] at e;cases z:fr[i-many]? with
  |none=>rw[z] at e;cases e
  |some j=>
   rw[z] at e;have e3:τ[j]?.join=some d:=by simpa using e
   obtain⟨v,q1,q2⟩:=hL.2 j d (NQ e3);refine⟨v,?_,q2⟩;have:=hf (i-many) j v z q1;rw[show many+(i-many)=i by omega] at this;exact this
structure Keep(φ:Ph)(H:Hp)(Dd:Addr)(vs:List V):Prop where
 at_:H Dd=some (.lst vs)
 nl:Dd∉φ.l
 z:φ.z Dd
theorem Keep.mono{φ φ':Ph}{H H':Hp}{Dd:Addr}{vs:List V}(x:Ext φ H φ' H')(k:Keep φ H Dd vs):Keep φ' H' Dd vs:=by
 refine⟨x.frame _ _ k.at_ k.nl,λz=>?_,x.uJ _ k.z⟩;obtain⟨r,er,hr⟩:=x.more;rw[er] at z;rcases fG.mp z with z|z
 ·exact k.nl z
 ·have:=hr _ z;rw[k.at_] at this;cases this
theorem Keep.ext{φ:Ph}{H:Hp}{Dd:Addr}{vs us:List V}(k:Keep φ H Dd vs):(∀a o,H a=some o->¬φ.z a->(upd H Dd (.lst us)) a=some o)/\Keep φ (upd H Dd (.lst us)) Dd us:=
 ⟨λa o e n=>by rw[dH (λz=>n (by rw[z];exact k.z))];exact e,kY,k.nl,k.z⟩
end
section
variable {K:PySem.W.Frag}{cA:Cl}{φ φ':Ph}{H H':Hp}
theorem aG.keep{s:S}{Dd:Addr}{vs us:List V}(h:aG K cA φ H s)(k:Keep φ H Dd vs):aG K cA φ (upd H Dd (.lst us)) s:=by
 have x:fu φ H (upd H Dd (.lst us)):=k.ext.1;refine⟨h.len,λn o a e1 e2=>?_,h.uniq,h.lz,λa z=>?_⟩
 ·have na:a≠Dd:=λy=>k.nl (by rw[<-y];exact gU e2);have:=h.obj n o a e1 e2;cases o with
  |lst ys=>obtain⟨ws,q1,q2⟩:=this;exact⟨ws,by rw[dH na];exact q1,q2.out x⟩
  |dct _ _=>exact this
 ·by_cases e:a=Dd
  ·subst e;exact⟨_,kY⟩
  ·obtain⟨o,q⟩:=h.zt a z;exact⟨o,by rw[dH e];exact q⟩
theorem Ext.keep{φ1:Ph}{H1:Hp}{Dd:Addr}{vs us:List V}(x:Ext φ1 H1 φ H)(hD:H1 Dd=none):Ext φ1 H1 φ (upd H Dd (.lst us)):=by
 refine⟨x.more,x.uJ,x.m7,λa o h n=>?_,λa o h=>?_⟩
 ·rw[dH (λz=>by rw[z,hD] at h;cases h)];exact x.frame a o h n
 ·rw[dH (λz=>by rw[z,hD] at h;cases h)];exact x.stay a o h
theorem zgD{φ1:Ph}{H1:Hp}{s':S}{fz:Bool}{acc:List D}{vs:List V}{Dd:Addr}{Q:VK}{Ee:Nat->List D->S->Ph->Hp->Prop}(h:Run K cA (newL fz acc) φ1 H1 s' (λd _ φ' H'=>∀v,bB K cA φ' H' d v->Q v H') Ee)
  (x2:Ext φ1 H1 φ' H') (hD:H1 Dd=none) (nz:¬φ1.z Dd) (hS2:aG K cA φ' H' s') (k:Keep φ' H' Dd vs) (xZ:aC K cA φ' H' acc vs):Q (.ref Dd) H':=by
 cases fz with
 |true=>
  have zq:∀a,(λa=>φ'.z a/\a≠Dd) a->φ'.z a:=λa z=>z.1;refine h ⟨λa=>φ'.z a/\a≠Dd,φ'.l⟩ H' ⟨x2.more,λa z=>⟨x2.uJ a z,λe=>nz (by rw[<-e];exact z)⟩,λa z=>x2.m7 a z.1,x2.frame,x2.stay⟩ ?_ _ (.d (.fl (.inl ⟨.inl k.at_,λz=>z.2 rfl⟩) (aC.kJ (φ:=φ') zq xZ)));refine⟨hS2.len,λn o a e1 e2=>m6.kJ (φ:=φ') zq (hS2.obj n o a e1 e2),hS2.uniq,λa ha=>⟨hS2.lz a ha,λe=>k.nl (by rw[<-e];exact ha)⟩,λa z=>hS2.zt a z.1⟩
 |false=>
  obtain⟨r,er,hr⟩:=x2.more;refine h ⟨φ'.z,φ'.l++[Dd]⟩ H' ⟨⟨r++[Dd],by show φ'.l++[Dd]=_;rw[er,Bj],λb hb=>?_⟩,x2.uJ,x2.m7,x2.frame,x2.stay⟩ ?_ _ (.l (by show (φ'.l++[Dd])[s'.length]?=_;rw[<-hS2.len];simp))
  ·rcases fG.mp hb with z|z
   ·exact hr b z
   ·simp at z;subst z;exact hD
  ·refine⟨by show (φ'.l++[Dd]).length=_;rw[cX,cX,hS2.len];rfl,λm o' a' e1 e2=>?_,?_,λb hb=>?_,hS2.zt⟩
   ·have e2:(φ'.l++[Dd])[m]?=some a':=e2;by_cases hm:m<s'.length
    ·rw[pq hm] at e1;rw[pq (by rw[hS2.len];exact hm)] at e2;exact m6.zl (hS2.obj m o' a' e1 e2) _
    ·have hl2:m=s'.length:=by
      have z:=(jo.mp e2).1;rw[cX,hS2.len] at z;simp at z;omega
     subst hl2;rw[nM (cg _)] at e1;rw[nM (by rw[hS2.len];exact cg _)] at e2;simp at e1;simp[hS2.len] at e2;subst e1 e2;exact⟨vs,k.at_,aC.zl xZ _⟩
   ·show (φ'.l++[Dd]).Nodup;rw[Ig];refine⟨hS2.uniq,by simp,λb hb c hc e=>?_⟩;simp at hc;subst hc e;exact k.nl hb
   ·have hb:b∈φ'.l++[Dd]:=hb;rcases fG.mp hb with z|z
    ·exact hS2.lz b z
    ·simp at z;subst z;exact k.z
noncomputable def Ph.mark(φ:Ph)(p:Addr):Ph:=⟨λa=>φ.z a\/a=p,φ.l⟩
theorem zfc{s:S}{p:Addr}(hS:aG K cA φ H s)(hp:H p=none):Ext φ H (φ.mark p) (upd H p (.lst []))/\aG K cA (φ.mark p) (upd H p (.lst [])) s/\Keep (φ.mark p) (upd H p (.lst [])) p []:=by
 have g:=bG.new (o:=.lst []) hp;have nz:=hS.nz hp;refine⟨⟨⟨[],by simp[Ph.mark],by simp⟩,λa z=>.inl z,λa z=>z.imp id λe=>by rw[e];exact hp,λa o h _=>g a o h,λa o h=>⟨o,g a o h⟩⟩,⟨hS.len,λn o a e1 e2=>?_,hS.uniq,λa ha=>.inl (hS.lz a ha),λa z=>?_⟩,kY,λz=>nz (hS.lz p z),.inr rfl⟩
 ·have x:Ext φ H (φ.mark p) (upd H p (.lst [])):=⟨⟨[],by simp[Ph.mark],by simp⟩,λa z=>.inl z,λa z=>z.imp id λe=>by rw[e];exact hp,λa o h _=>g a o h,λa o h=>⟨o,g a o h⟩⟩;have:=hS.obj n o a e1 e2;cases o with
  |lst ys=>obtain⟨us,q1,q2⟩:=this;exact⟨us,g _ _ q1,q2.mono x hS.lz⟩
  |dct _ _=>exact this
 ·rcases z with z|z
  ·obtain⟨o,e⟩:=hS.zt a z;exact⟨o,g _ _ e⟩
  ·subst z;exact⟨_,kY⟩
end
section
variable {X:Cx}{cA:Cl}{sub:Nat->Nat->Bool}{aj:Bool}{F:Fn}{EX:XS}{elt iter tg:Expr}{A B:E}{pos p:Pos}{ifs:List Expr}{scope:Scope}{N:List Str}{cond:Eo}{fr dG:List Nat}{many:Nat}{fz:Bool}{w:Wk}
noncomputable abbrev gD(sub:Nat->Nat->Bool)(aj:Bool)(F:Fn)(B:E)(cond:Eo)(dG:List Nat)(τb:Vs):D->List D->M (List D):=λd acc=>M.bd (M.opt (jW dG d τb)) λτ'=>M.bd (M.qt (qY sub aj F cond τ')) λok=>
    if ok=true then M.bd (M.qt (ev sub aj F B τ')) λy=>M.bd (dat y) λe=>if acc.length<sizeLine then M.ret (acc++[e]) else M.no else M.ret acc
theorem Vh{H:Hp}{a:Addr}{o:HO}(h:H a=some o):upd H a o=H:=funext λb=>by
 by_cases z:b=a
 ·subst z;rw[kY,h]
 ·rw[dH z]
theorem zhj{K:PySem.W.Frag}{g:TG}{φ1 φ':Ph}{H1 H2:Hp}{s':S}{σ':L2.St}{τb:Vs}{Dd:Addr}{acc:List D}{vs:List V}{xi:D}{v:V}{β:Type}{kk:List D->M β}{P:β->S->Ph->Hp->Prop}{Ee:Nat->List D->S->Ph->Hp->Prop}(hT:mq K cA g dG)(hin:∀i∈dG,i<many)
  (hD:H1 Dd=none) (x2:Ext φ1 H1 φ' H2) (hL2:aY K cA φ' H2 σ' τb) (hS2:aG K cA φ' H2 s') (kp:Keep φ' H2 Dd vs) (xZ:aC K cA φ' H2 acc vs) (rx:Rep K cA φ' H2 xi v)
  (h:Run K cA (M.bd (gD sub aj F B cond dG τb xi acc) kk) φ1 H1 s' P Ee) {Nn:L2.St->Hp->Prop}
  (hN:∀σ3 H3 φ3 s3 wk Jt,σ3.length=σ'.length->(∀i,many<=i->σ3[i]?=σ'[i]?)->Ext φ1 H1 φ3 H3->Ext φ' H2 φ3 (upd H3 Dd (.lst vs))->aG K cA φ3 H3 s3->Keep φ3 H3 Dd Jt->aC K cA φ3 H3 wk Jt->Run K cA (kk wk) φ1 H1 s3 P Ee->Nn σ3 H3) :
  g v σ' H2 λσ3 H3=>xU K cA (λ_ _ _ _=>False) (qY sub aj F cond) σ3 H3 λok H4=>
   if ok=true then tE K cA (λ_ _ _ _=>False) (ev sub aj F B) σ3 H4 λy H5=>∃ys,H5 Dd=some (.lst ys)/\ys.length<sizeLine/\Nn σ3 (upd H5 Dd (.lst (ys++[y]))) else Nn σ3 H4:=by
 unfold gD at h;rw[jy] at h;obtain⟨τ',e1,h1⟩:=NK h;refine hT.run φ' H2 s' σ' τb τ' xi v _ hL2 hS2 rx e1 λσ3 qH hl3 hf3=>?_;rw[jy] at h1;have kf:∀i,many<=i->σ3[i]?=σ'[i]?:=λi hi=>hf3 i λz=>absurd (hin i z) (Dq.mpr hi);refine⟨φ',τ',s',qH,hS2,(Vg x2 h1).imp λok s4 φ4 H4 ⟨x4,jE,h6⟩=>?_⟩;cases ok with
 |false=>
  refine iF (hN σ3 H4 φ4 s4 acc vs hl3 kf (x2.trans x4) (by rw[Vh (kp.mono x4).at_];exact x4) jE (kp.mono x4) (xZ.mono x4 hS2.lz) ?_);rw[if_neg (by decide)] at h6;exact h6
 |true=>
  rw[if_pos rfl,jy] at h6;refine iT ⟨φ4,τ',s4,qH.mono x4 hS2.lz,jE,(Vg (x2.trans x4) h6).imp λy s5 φ5 H5 ⟨x5,sZ,h7⟩ u ru=>?_⟩;rw[jy] at h7;have k5:=(kp.mono x4).mono x5;have r5:=(xZ.mono x4 hS2.lz).mono x5 jE.lz;have x15:=(x2.trans x4).trans x5;obtain⟨dd,ey,rd,h8⟩ : ∃d,y=.d d/\Rep K cA φ5 H5 d u/\Run K cA (M.bd (if acc.length<sizeLine then M.ret (acc++[d]) else M.no) kk) φ1 H1 s5 P Ee:=by
   cases ru with
   |l _=>exact h7.elim
   |d r=>exact⟨_,rfl,r,h7⟩
  by_cases hz:acc.length<sizeLine
  ·rw[if_pos hz] at h8;refine⟨vs,k5.at_,by rw[<-r5.len];exact hz,?_⟩;have ox:fu φ5 H5 (upd H5 Dd (.lst (vs++[u]))):=k5.ext.1;exact hN σ3 _ φ5 s5 (acc++[dd]) (vs++[u]) hl3 kf (Ext.keep (vs:=vs) x15 hD) (by rw[R3,Vh k5.at_];exact x4.trans x5) (sZ.keep k5) k5.ext.2 ((r5.app (.cons rd .nil)).out ox) h8
  ·rw[if_neg hz] at h8;exact h8.elim
theorem Vi{g:TG}{iter':Expr}(hT:mq X.K cA g dG)(hin:∀i∈dG,i<many){σ:L2.St}{H:Hp}{Q:VK}(hh:tE X.K cA EX (ev sub aj F (.comp fz B dG w fr many cond)) σ H Q) :
  sO (tI X.K cA EX (nU sub aj F w)) (cP many fr) g (xU X.K cA (λ_ _ _ _=>False) (qY sub aj F cond)) (tE X.K cA (λ_ _ _ _=>False) (ev sub aj F B)) σ H Q:=un hh λφ τ s hL hS h=>by
 by_cases bU:aj=true
 ·have h:Run X.K cA (if aj=true then M.bd (nU sub aj F w τ) λcn=>M.bd (walk cn.1 (gD sub aj F B cond dG (blk many fr τ)) (cn.2+1) 0 []) λxs=>newL fz xs else M.no) φ H s (λd _ φ' H'=>∀v,bB X.K cA φ' H' d v->Q v H') (eX X.K cA EX σ):=h;rw[if_pos bU] at h;refine⟨φ,τ,s,hL,hS,h.bd.imp λcn s1 φ1 H1 ⟨x1,hS1,h1⟩ J hJ=>?_⟩;have hL1:=hL.mono x1 hS.lz;obtain⟨c,n⟩:=cn;dsimp only at h1 hJ;intro Dd hD;obtain⟨x0,hS0,k0⟩:=zfc hS1 hD;have Og:∀{σ':L2.St},(σ'.length=many+fr.length/\∀i,many<=i->σ'[i]?=(cP many fr σ)[i]?)->∀{φ' H'},Ext φ1 H1 φ' H'->aY X.K cA φ' H' σ' (blk many fr τ):=λ{σ'} hσ {φ' H'} x=>zkh (hL1.mono x hS1.lz) hσ.1 λi j v e1 e2=>by
   rw[hσ.2 _ (by omega)];unfold cP;rw[nM (by simp),HB,je,show many+i-many=i by omega,e1];simp[e2]
  refine⟨λi m σ' H'=>m=n+1-i/\(σ'.length=many+fr.length/\∀i,many<=i->σ'[i]?=(cP many fr σ)[i]?)/\∃φ' s' acc vs,Ext φ1 H1 φ' H'/\aG X.K cA φ' H' s'/\Keep φ' H' Dd vs/\aC X.K cA φ' H' acc vs /\
   Run X.K cA (M.bd (walk c (gD sub aj F B cond dG (blk many fr τ)) (n+1-i) i acc) λxs=>newL fz xs) φ1 H1 s' (λd _ φ' H'=>∀v,bB X.K cA φ' H' d v->Q v H') (eX X.K cA EX σ),⟨n+1,rfl,⟨by simp[cP],λi _=>rfl⟩,φ1.mark Dd,s1,[],[],x0,hS0,k0,.nil,h1⟩,?_⟩
  rintro i m σ' H' ⟨rfl,hσ,φ',s',acc,vs,x2,hS2,kp,xZ,h3⟩;have hL2:=Og hσ x2;cases ek:n+1-i with
  |zero=>rw[ek] at h3;exact h3.elim
  |succ k=>
   rw[ek] at h3;cases ei:c.at i s' with
   |none=>
    exfalso
    unfold Run M.bd walk at h3;simp only[ei] at h3
   |some oi=>
    cases oi with
    |none=>
     refine .inl ⟨hJ.stop φ' H' H' s' i x2 fu.refl hS2 ei,?_⟩;have h4:Run X.K cA (newL fz acc) φ1 H1 s' (λd _ φ' H'=>∀v,bB X.K cA φ' H' d v->Q v H') (eX X.K cA EX σ):=by
      unfold Run M.bd walk at h3;simp only[ei] at h3;exact h3
     exact zgD h4 x2 hD (hS1.nz hD) hS2 kp xZ
    |some xi=>
     refine .inr ⟨hJ.go φ' H' H' s' i xi x2 fu.refl hS2 ei,λσ2 H2=>(σ2.length=many+fr.length/\∀i,many<=i->σ2[i]?=(cP many fr σ)[i]?)/\∃φ' s' acc vs,Ext φ1 H1 φ' H2/\aG X.K cA φ' H2 s'/\Keep φ' H2 Dd vs/\aC X.K cA φ' H2 acc vs /\
      Run X.K cA (M.bd (walk c (gD sub aj F B cond dG (blk many fr τ)) k (i+1) acc) λxs=>newL fz xs) φ1 H1 s' (λd _ φ' H'=>∀v,bB X.K cA φ' H' d v->Q v H') (eX X.K cA EX σ),λσ2 H2 hn=>⟨k,by omega,by omega,hn.1,?_⟩,λv H2 hy=>?_⟩
     ·have:n+1-(i+1)=k:=by omega
      rw[this];exact hn.2
     ·obtain⟨gr,rx⟩:=hJ.yX φ' H' H' s' i xi v H2 x2 fu.refl hS2 ei hy;have h4:Run X.K cA (M.bd (gD sub aj F B cond dG (blk many fr τ) xi acc) λacc'=>M.bd (walk c (gD sub aj F B cond dG (blk many fr τ)) k (i+1) acc') λxs=>newL fz xs) φ1 H1 s' (λd _ φ' H'=>∀v,bB X.K cA φ' H' d v->Q v H') (eX X.K cA EX σ):=by
       have h5:=zlM (m':=M.bd (gD sub aj F B cond dG (blk many fr τ) xi acc) λacc'=>walk c (gD sub aj F B cond dG (blk many fr τ)) k (i+1) acc') (by rw[walk];simp only[ei]) h3;rw[jy] at h5;exact h5
      exact zhj hT hin hD (x2.trans gr.ext) (hL2.mono gr.ext hS2.lz) (hS2.grow gr) (kp.mono gr.ext) (xZ.mono gr.ext hS2.lz) rx h4 λσ3 H3 φ3 s3 wk Jt l3 f3 x3 _ iZ k3 r3 h6=>⟨⟨l3.trans hσ.1,λi hi=>(f3 i hi).trans (hσ.2 i hi)⟩,φ3,s3,wk,Jt,x3,iZ,k3,r3,h6⟩
 ·have h:Run X.K cA (if aj=true then M.bd (nU sub aj F w τ) λcn=>M.bd (walk cn.1 (gD sub aj F B cond dG (blk many fr τ)) (cn.2+1) 0 []) λxs=>newL fz xs else M.no) φ H s (λd _ φ' H'=>∀v,bB X.K cA φ' H' d v->Q v H') (eX X.K cA EX σ):=h;rw[if_neg bU] at h;exact h.elim
theorem Vj{XN:List Str}(hfr:∀(i:Nat) (y:Str) (j:Nat),N[many+i]?=some y->fr[i]?=some j->scope.names.lookup y=some .free/\XN[j]?=some y)(σ:L2.St)(i:Nat)(x:Str)(v:V)(e1:N[i]?=some x)(e2:(cP many fr σ)[i]?=some (some v)):scope.names.lookup x=some .free/\∃j:Nat,XN[j]?=some x/\σ[j]?=some (some v):=by
 unfold cP at e2;by_cases hi:i<many
 ·rw[pq (by simpa using hi),Hx,if_pos hi] at e2;cases e2
 ·rw[nM (by simpa using Di hi),HB,je] at e2;cases z:fr[i-many]? with
  |none=>rw[z] at e2;cases e2
  |some j=>
   rw[z] at e2;have e3:(σ[j]?).join=some v:=by simpa using e2
   obtain⟨a1,a2⟩:=hfr (i-many) x j (by rw[show many+(i-many)=i by omega];exact e1) z;exact⟨a1,j,a2,NQ e3⟩
theorem Vk{g:TG}(hc:X.aj=true)(B':dI X.env.scope scope)(hi:SI X cA sub aj F EX tg iter w)(hN:N.length=many+fr.length)
  (hfr:∀(i:Nat) (y:Str) (j:Nat),N[many+i]?=some y->fr[i]?=some j->scope.names.lookup y=some .free/\X.N[j]?=some y)
  (hg:∀cl C s3 H3 fp ak,PG (X.blk scope cl N C s3 H3 fp ak) tg g) (hT:mq X.K cA g dG) (hin:∀i∈dG,i<many)
  (ht:∀cl C s3 H3 fp ak,Gs (X.blk scope cl N C s3 H3 fp ak) cA sub aj F (λ_ _ _ _=>False) ifs cond) (he:∀cl C s3 H3 fp ak,SE (X.blk scope cl N C s3 H3 fp ak) cA sub aj F (λ_ _ _ _=>False) elt B)
  (hs:∀x,foldedSetIterable iter X.env x=pure x:=by intro _;rfl):SE X cA sub aj F EX (.ListComp elt [⟨tg,iter,ifs,0⟩] scope pos) (.comp fz B dG w fr many cond):=
 PE.weak (zi0 hc B' hi (⟨hg,ht,he⟩ : Parts X elt tg ifs scope N g (xU X.K cA (λ_ _ _ _=>False) (qY sub aj F cond)) (tE X.K cA (λ_ _ _ _=>False) (ev sub aj F B))) (σY:=cP many fr) (λσ=>by simp[cP,hN]) (λσ i x v e1 e2=>Vj hfr σ i x v e1 e2) hs) λσ H Q hh=>Vi (iter':=iter) hT hin hh
end
section
variable (K:PySem.W.Frag)(cA:Cl)
def aN(m:MS)(φ:Ph)(H:Hp)(s:S)(D:Ends)(EX:XS):Prop:=match m s with
 |some (.nx τ,s')=>∀φ' H' σ',Ext φ H φ' H'->aG K cA φ' H' s'->aY K cA φ' H' σ' τ->D.nx σ' H'
 |some (.bk τ,s')=>∀φ' H' σ',Ext φ H φ' H'->aG K cA φ' H' s'->aY K cA φ' H' σ' τ->D.bk σ' H'
 |some (.ct τ,s')=>∀φ' H' σ',Ext φ H φ' H'->aG K cA φ' H' s'->aY K cA φ' H' σ' τ->D.ct σ' H'
 |some (.rt d,s')=>∀φ' H' v,Ext φ H φ' H'->aG K cA φ' H' s'->bB K cA φ' H' d v->D.rt v H'
 |some (.er c fs τ,s')=>∀φ' H' σ',Ext φ H φ' H'->aG K cA φ' H' s'->aY K cA φ' H' σ' τ->∀dx,jX K cA φ' H' c fs dx->EX σ' (.ref (cA.a c)) dx H'
 |none=>False
noncomputable def tS(EX:XS)(m:Vs->MS):TS:=λD σ H=>∃φ τ s,aY K cA φ H σ τ/\aG K cA φ H s/\aN K cA (m τ) φ H s D EX
end
section
variable {K:PySem.W.Frag}{cA:Cl}{φ φ':Ph}{H H':Hp}{s:S}{σ:L2.St}{τ:Vs}{EX:XS}{D:Ends}
theorem aN.ext{m:MS}(x:Ext φ H φ' H')(h:aN K cA m φ H s D EX):aN K cA m φ' H' s D EX:=by
 unfold aN at *;split at h<;>first
  |exact λφ2 H2 a y r l=>h φ2 H2 a (x.trans y) r l
  |exact h.elim
theorem aN.ofM{α:Type}{m:M α}{k:α->MS}(hL:aY K cA φ H σ τ)(hz:∀a∈φ.l,φ.z a)(h:aN K cA (ofM m τ k) φ H s D EX):Run K cA m φ H s (λa s1 φ1 H1=>Ext φ H φ1 H1/\aG K cA φ1 H1 s1/\aN K cA (k a) φ1 H1 s1 D EX) (eX K cA EX σ):=by
 unfold aN Mi.ofM at h;unfold Run;cases e:m s with
 |none=>rw[e] at h;exact h
 |some r=>
  obtain⟨r,s1⟩:=r;rw[e] at h;cases r with
  |er c fs=>exact λφ1 H1 x r=>h φ1 H1 σ x r (hL.mono x hz)
  |ok a=>
   intro φ1 H1 x r;refine⟨x,r,?_⟩;have h2:aN K cA (k a) φ H s1 D EX:=h;exact h2.ext x
theorem aN.then_(h:aN K cA (cL m k) φ H s D EX):aN K cA m φ H s {D with nx:=λσ' H'=>∃φ' τ' s',aY K cA φ' H' σ' τ'/\aG K cA φ' H' s'/\aN K cA (k τ') φ' H' s' D EX} EX:=by
 unfold aN cL at h;unfold aN;cases e:m s with
 |none=>rw[e] at h;exact h
 |some r=>
  obtain⟨r,s1⟩:=r;rw[e] at h;cases r with
  |nx τ=>
   intro φ1 H1 σ1 x r l;have h2:aN K cA (k τ) φ H s1 D EX:=h;exact⟨φ1,τ,s1,l,r,h2.ext x⟩
  |bk τ=>exact h
  |ct τ=>exact h
  |rt d=>exact h
  |er c fs τ=>exact h
end
section
variable (X:Cx)(cA:Cl)(sub:Nat->Nat->Bool)(aj:Bool)(F:Bool->Fn)(EX:XS)
def SS(st:Stmt)(m:St):Prop:=PS X st (tS X.K cA EX (ex sub aj F m))
def tM(st:List Stmt)(m:cD):Prop:=nQ X st (tS X.K cA EX (exs sub aj F m))
end
section
variable {X:Cx}{cA:Cl}{sub:Nat->Nat->Bool}{aj:Bool}{F:Bool->Fn}{EX:XS}{a b c d e:Expr}{A B C:E}{pos p p2:Pos}{st:Stmt}{sts body orelse:List Stmt}{m:St}{ms mb me mh:cD}{es:List Expr}{Xs:Es}{x y n:Str}{i j:Nat}
theorem PS.weak{t t':TS}(h:PS X st t)(f:∀D σ H,t' D σ H->t D σ H):PS X st t':=λak s σ H D I q=>h ak s σ H D I (f D σ H q)
theorem nQ.weak{t t':TS}(h:nQ X sts t)(f:∀D σ H,t' D σ H->t D σ H):nQ X sts t':=λak s σ H D I q=>h ak s σ H D I (f D σ H q)
theorem zjG:tM X cA sub aj F EX [] .nil:=nQ.weak zjU λD σ H hh=>un hh λφ τ s hL hS h=>h φ H σ Ext.refl hS hL
theorem zhT(h1:SS X cA sub aj F EX st m)(h2:tM X cA sub aj F EX sts ms):tM X cA sub aj F EX (st::sts) (.cons m ms):=nQ.weak (zhF h1 h2) λD σ H hh=>un hh λφ τ s hL hS h=>by
 have h:aN X.K cA (cL (ex sub aj F m τ) λτ'=>exs sub aj F ms τ') φ H s D EX:=h;exact⟨φ,τ,s,hL,hS,h.then_⟩
theorem zne(ha:SE X cA sub aj (F aj) EX a A)(hs:swapsWith a none pos.line X.env=pure false:=by rfl):SS X cA sub aj F EX (.Expr a pos) (.ex A):=PS.weak (zkl ha hs) λD σ H hh=>un hh λφ τ s hL hS h=>
 ⟨φ,τ,s,hL,hS,(aN.ofM hL hS.lz h).imp λd s1 φ1 H1 ⟨x1,hS1,h1⟩ v rv=>h1 φ1 H1 σ Ext.refl hS1 (hL.mono x1 hS.lz)⟩
theorem zk9(ha:SE X cA sub aj (F aj) EX a A):SS X cA sub aj F EX (.Return (some a) pos) (.ret A):=PS.weak (zlK ha) λD σ H hh=>un hh λφ τ s hL hS h=>
 ⟨φ,τ,s,hL,hS,(aN.ofM hL hS.lz h).imp λd s1 φ1 H1 ⟨x1,hS1,h1⟩ v rv=>h1 φ1 H1 v Ext.refl hS1 rv⟩
theorem zk3(hN:X.N.Nodup)(hi:X.N[i]?=some x)(hx:Loc X.env.scope x)(ha:SE X cA sub aj (F aj) EX a A)(hs:swapsWith a (some (.Name x p)) pos.line X.env=pure false:=by rfl)(hf:X.fn x=true\/X.env.scope.names.lookup x=some .local:=by first|exact .inl rfl|exact .inr rfl) :
  SS X cA sub aj F EX (.Assign [.Name x p] a pos) (.asg (.nm i) A):=PS.weak (zks hN hi hx ha hs hf) λD σ H hh=>un hh λφ τ s hL hS h=>
 ⟨φ,τ,s,hL,hS,(aN.ofM hL hS.lz h).imp λd s1 φ1 H1 ⟨x1,hS1,h1⟩ v rv=>h1 φ1 H1 _ Ext.refl hS1 ((hL.mono x1 hS.lz).set rv)⟩
theorem Oh{k}(hc:X.aj=true)(hN:X.N.Nodup)(hi:X.N[i]?=some x)(hj:X.N[j]?=some y)(hx:Loc X.env.scope x)(hy:Loc X.env.scope y)(hfx:X.fn x=true\/X.env.scope.names.lookup x=some .local)(wu:X.fn y=true\/X.env.scope.names.lookup y=some .local) :
  PG X (.Tuple [.Name x px,.Name y py] k pos) (rY X.K 2 (g8 (dU i) (g8 (dU j) rW))):=zlW hc (R_ (I9 hN hi hx hfx) (R_ (I9 hN hj hy wu) zjz))
theorem Vl{K:PySem.W.Frag}{φ:Ph}{H:Hp}{s:S}{τ:Vs}{σ:L2.St}{D:Ends}{d:Xv}{v:V}(bU:aj=true)(hL:aY K cA φ H σ τ)(hS:aG K cA φ H s)(rv:bB K cA φ H d v)(h:aN K cA (store sub aj (F aj) (.tp [i,j]) d τ) φ H s D EX):rY K 2 (g8 (dU i) (g8 (dU j) rW)) v σ H D.nx:=by
 have h:aN K cA (if aj=true then ofM (M.bd (dat d) λd=>M.opt ((lC d).bind λds=>gJ [i,j] (ds.map Xv.d) τ)) τ (λτ' s=>some (Out.nx τ',s)) else λ_=>none) φ H s D EX:=h;rw[if_pos bU] at h;obtain⟨dd,e0,rd,h1⟩:=NP rv (aN.ofM hL hS.lz h);obtain⟨τ',e,_,hS1,h2⟩:=Run.opt hS h1;refine(Oe i j).run φ H s σ τ τ' dd v _ hL hS rd e λσ' hL' _ _=>h2 φ H σ' Ext.refl hS hL'
theorem zj8{k}(hc:X.aj=true)(bU:aj=true)(hN:X.N.Nodup)(hi:X.N[i]?=some x)(hj:X.N[j]?=some y)(hx:Loc X.env.scope x)(hy:Loc X.env.scope y)(hfx:X.fn x=true\/X.env.scope.names.lookup x=some .local)(wu:X.fn y=true\/X.env.scope.names.lookup y=some .local)(ha:SE X cA sub aj (F aj) EX a A)
  (hs:swapsWithSole [.Tuple [.Name x px,.Name y py] k pt] a pos.line X.env=pure false:=by rfl) (hw:swappedStores [.Tuple [.Name x px,.Name y py] k pt] a X.env=pure none:=by rfl)
  (h1:(assignEach [.Tuple [.Name x px,.Name y py] k pt] X.env).map (·.2)=[assign (.Tuple [.Name x px,.Name y py] k pt) X.env]:=by rfl) :
  SS X cA sub aj F EX (.Assign [.Tuple [.Name x px,.Name y py] k pt] a pos) (.asg (.tp [i,j]) A):=PS.weak (Sd ha (Oh hc hN hi hj hx hy hfx wu) hs hw h1) λD σ H hh=>un hh λφ τ s hL hS h=>
 ⟨φ,τ,s,hL,hS,(aN.ofM hL hS.lz h).imp λd s1 φ1 H1 ⟨x1,hS1,h1⟩ v rv=>Vl bU (hL.mono x1 hS.lz) hS1 rv h1⟩
theorem zlB(hO:SE X cA sub aj (F aj) EX oo O)(hI:SE X cA sub aj (F aj) EX ii I')(ha:SE X cA sub aj (F aj) EX a A)
  (hat:∀v,assign (.Subscript oo ii p) X.env v=(do
   let ov <-holding [v] (eval oo X.env)
   let iv <-holding [v,ov] (eval ii X.env)
   standAt p
   holding [v,ov,iv] (setItem ov iv v)
   release [v,ov,iv] []):=by intro _;rfl) (hs:swapsWithSole [.Subscript oo ii p] a pos.line X.env=pure false:=by rfl) (hw:swappedStores [.Subscript oo ii p] a X.env=pure none:=by rfl)
  (h1:(assignEach [.Subscript oo ii p] X.env).map (·.2)=[assign (.Subscript oo ii p) X.env]:=by rfl) :
  SS X cA sub aj F EX (.Assign [.Subscript oo ii p] a pos) (.asg (.sub O I') A):=PS.weak (Sd ha (zmB hO hI zif hat) hs hw h1) λD σ H hh=>un hh λφ τ s hL hS h=>by
 refine⟨φ,τ,s,hL,hS,(aN.ofM hL hS.lz h).imp λd s1 φ1 H1 ⟨x1,hS1,h1⟩ v rv=>?_⟩;obtain⟨dd,e0,rd,h2⟩:=NP rv (aN.ofM (hL.mono x1 hS.lz) hS1.lz h1);refine aW (hL.mono x1 hS.lz) hS1 h2 λxo H2 φ2 d2 s2 x2 hL2 hS2 r2 h3=>aW hL2 hS2 h3 λyi H3 φ3 d3 s3 x3 qH iZ r3 h4=>?_;obtain⟨k,_,ek,h5⟩:=Ga r3 h4;obtain⟨n,ad,xs,vs,_,ea,e1,f1,g1,q1,h6⟩:=Js iZ (r2.mono x3 hS2.lz) h5;subst ek ea;cases ej:L2.qW xs.length k with
 |none=>simp only[ej] at h6;exact h6.elim
 |some jj=>
  simp only[ej] at h6;refine⟨ad,vs,k,jj,rfl,rfl,g1,by rw[<-q1.len];exact ej,?_⟩;have rv3:=(rd.mono x2 hS1.lz).mono x3 hS2.lz;have jE:=iZ.write e1 f1 (q1.set rv3 jj);have x4:Ext φ3 H3 φ3 (upd H3 ad (.lst (vs.set jj v))):=Ext.write f1 ⟨_,g1⟩;obtain⟨_,_,h8⟩:=h6 φ3 _ x4 jE;exact h8 φ3 _ σ Ext.refl jE (qH.mono x4 iZ.lz)
theorem zku{kt k2 rZ}(hc:X.aj=true)(bU:aj=true)(hN:X.N.Nodup)(hi:X.N[i]?=some x)(hj:X.N[j]?=some y)(hij:i≠j)(hx:X.env.scope.names.lookup x=some .local)(hy:X.env.scope.names.lookup y=some .local)
  (ha:SE X cA sub aj (F aj) EX a A) (hb:SE X cA sub aj (F aj) EX b B) (h1:starEach [a,b] X.env=(false,eval a X.env)::starEach [b] X.env) (h2:starEach [b] X.env=(false,eval b X.env)::starEach [] X.env)
  (hw:swappedStores [.Tuple [.Name x px,.Name y py] kt pt] (.Tuple [a,b] k2 rZ) X.env=pure (some [x,y]))
  (hs:swapsWithSole [.Tuple [.Name x px,.Name y py] kt pt] (.Tuple [a,b] k2 rZ) pos.line X.env=pure false:=by rfl) :
  SS X cA sub aj F EX (.Assign [.Tuple [.Name x px,.Name y py] kt pt] (.Tuple [a,b] k2 rZ) pos) (.par i j A B):=PS.weak (zkq hc hN hi hj hij hx hy (sy ha (sy hb zm h2) h1) hw hs) λD σ H hh=>un hh λφ τ s hL hS h=>by
 have h:aN X.K cA (if aj=true then ofM (M.bd (ev sub aj (F aj) A τ) λx=>M.bd (ev sub aj (F aj) B τ) λy=>M.ret (x,y)) τ (λxy s=>some (.nx ((τ.set i (some xy.1)).set j (some xy.2)),s)) else λ_=>none) φ H s D EX:=h;rw[if_pos bU] at h;refine aW hL hS (aN.ofM hL hS.lz h) λx H1 φ1 d1 s1 x1 hL1 hS1 r1 h1=>aW hL1 hS1 h1 λy H2 φ2 d2 s2 x2 hL2 hS2 r2 h2=>?_;obtain⟨_,_,h3⟩:=h2.bC hS2;exact⟨x,y,rfl,h3 φ2 H2 _ Ext.refl hS2 ((hL2.set (r1.mono x2 hS1.lz)).set r2)⟩
theorem znC(hc:ST X cA sub aj (F aj) EX c C)(ht:tM X cA sub aj F EX body mb)(he:tM X cA sub aj F EX orelse me):SS X cA sub aj F EX (.If c body orelse pos) (.iff C mb me):=PS.weak (zm3 hc ht he) λD σ H hh=>un hh λφ τ s hL hS h=>by
 refine⟨φ,τ,s,hL,hS,(aN.ofM hL hS.lz h).imp λk s1 φ1 H1 ⟨x1,hS1,h1⟩=>?_⟩;cases k with
 |true=>exact iT ⟨φ1,τ,s1,hL.mono x1 hS.lz,hS1,h1⟩
 |false=>exact iF ⟨φ1,τ,s1,hL.mono x1 hS.lz,hS1,h1⟩
theorem zhi{cc:Nat}{B' Bn newId nid initId inN:String}{bmB bmN:List Value}{apos:Pos}(hf:cA.f cc=[])(Fn':ExcBaseFacts Bn newId inN bmN)(hBn:bmB.contains (.type Bn)=true)(FB:ExcBaseFacts B' nid initId bmB)(hc:X.aj=true)(bU:aj=true)(hX:PySem.W.excIn X.K (cA.a cc) bmB newId=true)(hg:Gl X x)(hm:X.mg x=some (.ref (cA.a cc)))
  (R:Raises X EX) (ha:SA X cA sub aj (F aj) EX (e::es) Xs) (hz:Es.len Xs<=sizeLine) (hdb:(x==("__debug__" : Str))=false:=by decide) (he:starEach (e::es) X.env=(false,eval e X.env)::starEach es X.env:=by rfl) (hpl:(backTo apos (starEach es X.env)).any (·.1)=false:=by rfl) :
  SS X cA sub aj F EX (.Raise (some (.Call (.Name x p) (e::es) [] apos)) none pos) (.rise cc false Xs):=PS.weak (zhq Fn' hBn FB hc hX hg hm R ha hdb he hpl) λD σ H hh=>un hh λφ τ s hL hS h=>by
 have h:aN X.K cA (if aj=true then ofM (M.bd (evs sub aj (F aj) Xs τ) dF) τ (λds s=>some (.er cc (if false=true then ds else []) τ,s)) else λ_=>none) φ H s D EX:=h;rw[if_pos bU] at h;refine v9 hL hS (aN.ofM hL hS.lz h) λvs H1 φ1 xs s1 hl x1 hL1 hS1 rv h1=>?_;have h1:Run X.K cA (M.bd (dF xs) M.ret) φ1 H1 s1 (λa s1 φ1 H1=>Ext φ H φ1 H1/\aG X.K cA φ1 H1 s1/\aN X.K cA (λs=>some (.er cc (if false=true then a else []) τ,s)) φ1 H1 s1 D EX) (eX X.K cA EX σ):=by
  unfold Run at h1 ⊢;unfold M.bd;cases e1:dF xs s1 with
  |none=>rw[e1] at h1;exact h1
  |some r=>
   obtain⟨r,s2⟩:=r;rw[e1] at h1;cases r with
   |er c f=>exact h1
   |ok ds=>exact h1
 obtain⟨ds,e1,rs,h2⟩:=Jl rv h1;obtain⟨_,_,h3⟩:=h2.bC hS1;exact⟨by rw[<-rv.len,hl];exact hz,h3 φ1 H1 σ Ext.refl hS1 hL1 none (.inl ⟨hf,rfl,rfl⟩)⟩
theorem zju{g:TG}{elt iter tg:Expr}{ifs:List Expr}{scope:Scope}{N:List Str}{cond:Eo}{fr dG:List Nat}{many:Nat}{fz:Bool}{w:Wk}{spos py:Pos}(hc:X.aj=true)(wz:X.N.Nodup)(hi':X.N[i]?=some y)(hx:Loc X.env.scope y)(hf:X.fn y=true\/X.env.scope.names.lookup y=some .local)(B':dI X.env.scope scope)(hi:SI X cA sub aj (F aj) EX tg iter w)(hN:N.length=many+fr.length)
  (hfr:∀(i:Nat) (y:Str) (j:Nat),N[many+i]?=some y->fr[i]?=some j->scope.names.lookup y=some .free/\X.N[j]?=some y)
  (hg:∀cl C s3 H3 fp ak,PG (X.blk scope cl N C s3 H3 fp ak) tg g) (hT:mq X.K cA g dG) (hin:∀i∈dG,i<many)
  (ht:∀cl C s3 H3 fp ak,Gs (X.blk scope cl N C s3 H3 fp ak) cA sub aj (F aj) (λ_ _ _ _=>False) ifs cond) (he:∀cl C s3 H3 fp ak,SE (X.blk scope cl N C s3 H3 fp ak) cA sub aj (F aj) (λ_ _ _ _=>False) elt B)
  (hsw:swapsWith (.ListComp elt [⟨tg,iter,ifs,0⟩] scope pos) (some (.Name y py)) spos.line X.env=pure true) (hs:∀x,foldedSetIterable iter X.env x=pure x:=by intro _;rfl) :
  SS X cA sub aj F EX (.Assign [.Name y py] (.ListComp elt [⟨tg,iter,ifs,0⟩] scope pos) spos) (.asg (.nm i) (.comp fz B dG w fr many cond)):=
 PS.weak (zfe hc wz hi' hx hf B' hi (⟨hg,ht,he⟩ : Parts X elt tg ifs scope N g (xU X.K cA (λ_ _ _ _=>False) (qY sub aj (F aj) cond)) (tE X.K cA (λ_ _ _ _=>False) (ev sub aj (F aj) B))) (σY:=cP many fr) (λσ=>by simp[cP,hN]) (λσ i x v e1 e2=>Vj hfr σ i x v e1 e2) hsw hs) λD σ H hh=>un hh λφ τ s hL hS h=>
  Vi (iter':=iter) hT hin ⟨φ,τ,s,hL,hS,(aN.ofM hL hS.lz h).imp λd s1 φ1 H1 ⟨x1,hS1,h1⟩ v rv=>h1 φ1 H1 _ Ext.refl hS1 ((hL.mono x1 hS.lz).set rv)⟩
noncomputable def ni(m:MS)(kN:Vs->MS):MS:=λs=>match m s with
 |some (.nx τ',s')=>kN τ' s'
 |some (.ct τ',s')=>kN τ' s'
 |some (.bk τ',s')=>some (.nx τ',s')
 |r=>r
theorem Vm{K:PySem.W.Frag}{φ:Ph}{H:Hp}{s:S}{D:Ends}{m:MS}{kN:Vs->MS}{N:L2.St->Hp->Prop}(hN:∀φ' τ' s' σ' H',Ext φ H φ' H'->aY K cA φ' H' σ' τ'->aG K cA φ' H' s'->aN K cA (kN τ') φ' H' s' D EX->N σ' H')(h:aN K cA (ni m kN) φ H s D EX) :
  aN K cA m φ H s {D with nx:=N,ct:=N,bk:=D.nx} EX:=by
 unfold aN ni at h;unfold aN;cases e:m s with
 |none=>rw[e] at h;exact h
 |some r=>
  obtain⟨r,s1⟩:=r;rw[e] at h;cases r with
  |nx τ'=>
   intro φ1 H1 σ1 x r l;have h2:aN K cA (kN τ') φ H s1 D EX:=h;exact hN φ1 τ' s1 σ1 H1 x l r (h2.ext x)
  |ct τ'=>
   intro φ1 H1 σ1 x r l;have h2:aN K cA (kN τ') φ H s1 D EX:=h;exact hN φ1 τ' s1 σ1 H1 x l r (h2.ext x)
  |bk τ'=>exact h
  |rt d=>exact h
  |er c fs τ'=>exact h
theorem zig(hp:PassesOwn (model X.prog X.w) X.A X.env X.xe)(hc:ST X cA sub aj (F aj) EX c C)(hb:tM X cA sub aj F EX body mb):SS X cA sub aj F EX (.While c body [] pos) (.wh C mb):=PS.weak (zhu hp hc hb) λD σ H hh=>un hh λφ τ s hL hS h=>by
 refine⟨λm σ H=>∃φ τ s,aY X.K cA φ H σ τ/\aG X.K cA φ H s/\aN X.K cA (gK (λτ=>M.bd (ev sub aj (F aj) C τ) bool) (λτ=>exs sub aj F mb τ) m τ) φ H s D EX,⟨m5,φ,τ,s,hL,hS,h⟩,?_⟩;rintro m σ H ⟨φ,τ,s,hL,hS,h⟩;cases m with
 |zero=>exact h.elim
 |succ m=>
  refine⟨φ,τ,s,hL,hS,(aN.ofM (k:=λok=>if ok=true then ni (exs sub aj F mb τ) (gK (λτ=>M.bd (ev sub aj (F aj) C τ) bool) (λτ=>exs sub aj F mb τ) m) else λs=>some (.nx τ,s)) hL hS.lz h).imp λk s1 φ1 H1 ⟨x1,hS1,h1⟩=>?_⟩;cases k with
  |true=>
   rw[if_pos rfl] at h1 ⊢;refine⟨_,λσ' H' z=>⟨m,Ij m,z⟩,φ1,τ,s1,hL.mono x1 hS.lz,hS1,Vm (λφ' τ' s' σ' H' _ l r q=>?_) h1⟩;exact⟨φ',τ',s',l,r,q⟩
  |false=>
   rw[if_neg HW] at h1 ⊢;exact h1 φ1 H1 σ Ext.refl hS1 (hL.mono x1 hS.lz)
def SG(X:Cx)(cA:Cl)(sub:Nat->Nat->Bool)(aj:Bool)(F:Bool->Fn)(EX:XS)(tg:Expr)(t:Tg):Prop:=∃g:TG,PG X tg g/\∀(φ:Ph) (H:Hp) (s:S) (σ:L2.St) (τ:Vs) (d:Xv) (v:V) (D:Ends),aY X.K cA φ H σ τ->aG X.K cA φ H s->bB X.K cA φ H d v->
 aN X.K cA (store sub aj (F aj) t d τ) φ H s D EX->g v σ H D.nx
theorem zj1(hN:X.N.Nodup)(hi:X.N[i]?=some x)(hx:Loc X.env.scope x)(hf:X.fn x=true\/X.env.scope.names.lookup x=some .local:=by first|exact .inl rfl|exact .inr rfl):SG X cA sub aj F EX (.Name x pos) (.nm i):=
 ⟨_,I9 hN hi hx hf,λφ H s σ τ d v D hL hS r h=>h φ H _ Ext.refl hS (hL.set r)⟩
theorem zjR{k}(hc:X.aj=true)(bU:aj=true)(hN:X.N.Nodup)(hi:X.N[i]?=some x)(hj:X.N[j]?=some y)(hx:Loc X.env.scope x)(hy:Loc X.env.scope y)(hfx:X.fn x=true\/X.env.scope.names.lookup x=some .local)(wu:X.fn y=true\/X.env.scope.names.lookup y=some .local) :
  SG X cA sub aj F EX (.Tuple [.Name x px,.Name y py] k pos) (.tp [i,j]):=
 ⟨_,Oh hc hN hi hj hx hy hfx wu,λφ H s σ τ d v D hL hS r h=>Vl bU hL hS r h⟩
theorem zlo(hp:PassesOwn (model X.prog X.w) X.A X.env X.xe)(hc:X.aj=true)(bU:aj=true)(ha:SI X cA sub aj (F aj) EX tg a w)(hg:SG X cA sub aj F EX tg t)(hb:tM X cA sub aj F EX body mb)
  (hs:∀x,foldedSetIterable a X.env x=pure x:=by intro _;rfl):SS X cA sub aj F EX (.For tg a body [] pos) (.fr t w mb):=by
 obtain⟨g,hG,hg⟩:=hg;refine PS.weak (zld hp hc ha hG hb hs) λD σ H hh=>un hh λφ τ s hL hS h=>?_;have h:aN X.K cA (if aj=true then ofM (nU sub aj (F aj) w τ) τ λcn=>dO cn.1 (λd τ=>cL (store sub aj (F aj) t (.d d) τ) λτ'=>exs sub aj F mb τ') (cn.2+1) 0 τ else λ_=>none) φ H s D EX:=h;rw[if_pos bU] at h;refine⟨φ,τ,s,hL,hS,(aN.ofM hL hS.lz h).imp λcn s1 φ1 H1 ⟨x1,hS1,h1⟩ J hJ=>?_⟩;have hL1:=hL.mono x1 hS.lz;obtain⟨c,n⟩:=cn;dsimp only at h1 hJ;refine⟨λi m σ' H'=>∃φ' τ' s',Ext φ1 H1 φ' H'/\aY X.K cA φ' H' σ' τ'/\aG X.K cA φ' H' s'/\aN X.K cA (dO c (λd τ=>cL (store sub aj (F aj) t (.d d) τ) λτ'=>exs sub aj F mb τ') m i τ') φ' H' s' D EX,⟨n+1,φ1,τ,s1,Ext.refl,hL1,hS1,h1⟩,?_⟩;rintro i m σ' H' ⟨φ',τ',s',x2,hL2,hS2,h4⟩;cases m with
 |zero=>exact h4.elim
 |succ m=>
  cases ei:c.at i s' with
  |none=>
   exfalso
   unfold aN dO at h4;simp only[ei] at h4
  |some oi=>
   cases oi with
   |none=>
    refine .inl ⟨hJ.stop φ' H' H' s' i x2 fu.refl hS2 ei,?_⟩;unfold aN dO at h4;simp only[ei] at h4;exact h4 φ' H' σ' Ext.refl hS2 hL2
   |some xi=>
    refine .inr ⟨hJ.go φ' H' H' s' i xi x2 fu.refl hS2 ei,_,λσ3 H3 z=>⟨m,Ij m,z⟩,λv H3 hy=>?_⟩;obtain⟨gr,rx⟩:=hJ.yX φ' H' H' s' i xi v H3 x2 fu.refl hS2 ei hy;have h5:aN X.K cA (ni (cL (store sub aj (F aj) t (.d xi) τ') λτ'=>exs sub aj F mb τ') (dO c (λd τ=>cL (store sub aj (F aj) t (.d d) τ) λτ'=>exs sub aj F mb τ') m (i+1))) φ' H' s' D EX:=by
     unfold aN at h4 ⊢;have e:dO c (λd τ=>cL (store sub aj (F aj) t (.d d) τ) λτ'=>exs sub aj F mb τ') (m+1) i τ' s'=ni (cL (store sub aj (F aj) t (.d xi) τ') λτ'=>exs sub aj F mb τ') (dO c (λd τ=>cL (store sub aj (F aj) t (.d d) τ) λτ'=>exs sub aj F mb τ') m (i+1)) s':=by
      rw[dO];simp only[ei];rfl
     rw[e] at h4;exact h4
    exact hg φ' H3 s' σ' τ' (.d xi) v _ (hL2.mono gr.ext hS2.lz) (hS2.grow gr) (.d rx) (aN.then_ (Vm (λφ4 τ4 s4 σ4 H4 x4 l4 r4 q4=>⟨φ4,τ4,s4,(x2.trans gr.ext).trans x4,l4,r4,q4⟩) (h5.ext gr.ext)))
theorem zmH(bU:aj=true)(hex:X.ex=[])(hst:X.stack=X.env::X.outer/\X.env.frame=some X.env.locals)(hg:Gl X x)(hm:X.mg x=some (.ref (cA.a dc)))(hN:X.N.Nodup)(hi:X.N[i]?=some n)(hl:X.env.scope.names.lookup n=some .local)
  (hsub:∀c,sub c dc=true->subIn X.K (cA.a c) (cA.a dc)=true)
  (hb:∀(pn:List (Addr×Obj)) (E':Value->Shared->Prop) (qX:XS),Raises (X.seen X.A X.aj pn E') qX->PassesOwn (model X.prog X.w) X.A X.env E'->tM (X.seen X.A X.aj pn E') cA sub aj F qX body mb)
  (hh:∀e:Value,tM (X.seen (X.A.mark (some e)) false X.pn (λ_ _=>False)) cA sub false F (λ_ _ _ _=>False) (b₀::suite) mh) (hdb:(x==("__debug__" : Str))=false:=by decide) :
  SS X cA sub aj F EX (.Try body [.ExceptHandler (some (.Name x np)) (some n) (b₀::suite) hpos] [] [] pos) (.qD mb dc i mh):=by
 refine PS.weak (zkT (tb:=λqX=>tS X.K cA qX (exs sub aj F mb)) (th:=tS X.K cA (λ_ _ _ _=>False) (exs sub false F mh)) hex hst hg hm hN hi hl hb hh hdb) λD σ H hh=>un hh λφ τ s hL hS h=>?_;refine⟨φ,τ,s,hL,hS,?_⟩;have h:aN X.K cA (if aj=true then λs=>match exs sub aj F mb τ s with
   |some (.er c fs τ',s')=>if sub c dc=true then (match exs sub false F mh (τ'.set i (some (.d (.exc c fs)))) s' with
    |some (r,s'')=>(match r with
     |.er _ _ _=>none
     |r=>some (goes i r,s''))
    |none=>none) else none
   |r=>r
  else λ_=>none) φ H s D EX:=h
 rw[if_pos bU] at h;unfold aN at h ⊢;cases e:exs sub aj F mb τ s with
 |none=>simp only[e] at h
 |some r=>
  obtain⟨r,s1⟩:=r;simp only[e] at h;cases r with
  |nx τ'=>exact h
  |ct τ'=>exact h
  |bk τ'=>exact h
  |rt d=>exact h
  |er c fs τ'=>
   intro φ1 H1 σ1 x1 r1 l1 dx hdx;by_cases hsb:sub c dc=true
   ·simp only[if_pos hsb] at h;refine⟨cA.a c,rfl,hsub c hsb,λad hn=>?_⟩;have gr:bG H1 (upd H1 ad (jR ad (cA.a c) dx)):=bG.new hn;have xe:Ext φ1 H1 φ1 (upd H1 ad (jR ad (cA.a c) dx)):=gr.ext;have rx:Rep X.K cA φ1 (upd H1 ad (jR ad (cA.a c) dx)) (.exc c fs) (.ref ad):=by
     rcases hdx with ⟨e1,e2,e3⟩|⟨d,vs,e3,nz,hd,hl,rs⟩
     ·subst e2 e3;exact .exc ⟨r1.nz hn,.inl ⟨e1,rfl,kY⟩⟩ .nil
     ·subst e3;exact .exc ⟨r1.nz hn,.inr ⟨d,kY,nz,gr _ _ hd,hl⟩⟩ (rs.mono xe r1.lz)
    refine⟨φ1,τ'.set i (some (.d (.exc c fs))),s1,(l1.mono xe r1.lz).set (.d rx),r1.grow gr,?_⟩;unfold aN;cases e2:exs sub false F mh (τ'.set i (some (.d (.exc c fs)))) s1 with
    |none=>rw[e2] at h;exact h
    |some q=>
     obtain⟨q,s2⟩:=q;rw[e2] at h;cases q with
     |er c2 f2 τ2=>exact h.elim
     |nx τ2=>exact λφ2 H2 σ2 x2 r2 l2=>h φ2 H2 _ ((x1.trans xe).trans x2) r2 l2.unset
     |bk τ2=>exact λφ2 H2 σ2 x2 r2 l2=>h φ2 H2 _ ((x1.trans xe).trans x2) r2 l2.unset
     |ct τ2=>exact λφ2 H2 σ2 x2 r2 l2=>h φ2 H2 _ ((x1.trans xe).trans x2) r2 l2.unset
     |rt dd=>exact λφ2 H2 v x2 r2 rv=>h φ2 H2 v ((x1.trans xe).trans x2) r2 rv
   ·simp only[if_neg hsb] at h
end
end Mi
namespace L2
open PySem PySem.Spec PyProof.Rows
structure uO(K:PySem.W.Frag)(x qual:Str)(st:Stmt)(f:Addr)(fd:FuncData):Prop where
 ex:∃(oc:Value) (od:Option Addr) (kV doc pm:Value) (an:Option Addr) (cdv ct:Value) (osl:Array (Option Value)),
  fd=PySem.W.fnOf x qual (aO st) (aK st) (aq st) .none kV doc pm an cdv ct/\K.lookup f=some ⟨oc,od,.func fd,osl⟩/\PySem.W.codeIn K cdv qual=true
 kp:PySem.W.keepIn K (.ref f)=true
section
variable {P:Program}{w:World}{K:PySem.W.Frag}{mg:Str->Option Value}{base:Heap}
end
end L2
namespace Mi
open PySem PySem.Spec PyProof.Rows L2
section
variable {P:Program}{w:World}{K:PySem.W.Frag}{mg:Str->Option Value}{base:Heap}{cA:Cl}{sub:Nat->Nat->Bool}{T:Nat->Option Df}
theorem zfa{φ:Ph}{H:Hp}{N:List Str}{ds:List Xv}{vs:List V}{m p:Nat}(r:bT K cA φ H ds vs)(hp:p=ds.length)(hm:m=N.length):aY K cA φ H (L2.start N vs) (ds.map some++List.replicate (m-p) none):=by
 subst hp hm;unfold L2.start;have hl:=r.len;refine⟨by simp[hl],λi d e=>?_⟩;by_cases hi:i<ds.length
 ·rw[pq (by simpa using hi),je] at e;cases z:ds[i]? with
  |none=>rw[z] at e;cases e
  |some x=>
   rw[z] at e;cases e;obtain⟨v,a,b⟩:=r.get z;exact⟨v,by rw[pq (by simp;lia),je,a];rfl,b⟩
 ·rw[nM (by simpa using hi),Hx] at e;split at e<;>cases e
theorem Vn{φ:Ph}{H:Hp}{s:S}{ds:List Xv}{k n:Nat}{cm:Bool}{df:Df}{Q:VK}{E:XK}(hT:T n=some df)
  (h:Run K cA (call sub T (k+1) cm n ds) φ H s (λd _ φ' H'=>∀v,bB K cA φ' H' d v->Q v H') (λc fs _ φ' H'=>∀dx,jX K cA φ' H' c fs dx->E (.ref (cA.a c)) dx H')) :
  ds.length=df.iY/\aN K cA (exs sub cm (λc=>call sub T k c) df.body (ds.map some++List.replicate (df.many-df.iY) none)) φ H s {nx:=λ_ H'=>Q .non H',rt:=Q} (λ_ C dx H'=>E C dx H'):=by
 unfold call at h;simp only[hT] at h;by_cases hl:ds.length=df.iY
 ·refine⟨hl,?_⟩;rw[if_pos hl] at h;unfold Run at h;unfold aN;cases e:exs sub cm (λc=>call sub T k c) df.body (ds.map some++List.replicate (df.many-df.iY) none) s with
  |none=>simp only[e] at h
  |some r=>
   obtain⟨r,s1⟩:=r;simp only[e] at h;cases r with
   |nx τ=>exact λφ' H' σ' x r l=>h φ' H' x r _ (.d .non)
   |rt d=>exact λφ' H' v x r rv=>h φ' H' x r v rv
   |er c fs τ=>exact λφ' H' σ' x r l=>h φ' H' x r
   |bk τ=>exact h.elim
   |ct τ=>exact h.elim
 ·rw[if_neg hl] at h;exact h.elim
theorem dW:fM P w K mg base (lU P w) cm 0 f fd ps (uN K cA (call sub T 0 cm n)):=
 ⟨λvs H Q E ⟨_,_,_,_,_,h⟩=>h.elim,λA outer s H args us vs Q E _ _ _ _ _ ⟨_,_,_,_,_,h⟩=>h.elim⟩
theorem zlA{x qual:Str}{st:Stmt}{f:Addr}{fd:FuncData}{N ps:List Str}{k n:Nat}{cm:Bool}{df:Df}(F:uO K x qual st f fd)(S:h_ N ps (aq st))(hT:T n=some df)(hp:df.iY=ps.length)(hm:df.many=N.length)
  (hb:∀(cdv:Value) (A:Around) (outer:List Env) (s:Shared) (H:Hp) (E:XK),b_ k (A.deeper (envOfC qual (aq st) s.heap.objs.size f cdv))->
   tM (ju (lU P w) P w K mg base N qual (aq st) f cdv A outer s H E cm) cA sub cm (λc=>call sub T k c) (λ_ C dx H'=>E C dx H') (aK st) df.body) :
  fM P w K mg base (lU P w) cm (k+1) f fd ps (uN K cA (call sub T (k+1) cm n)):=by
 obtain⟨oc,od,kV,doc,pm,an,cdv,ct,osl,rfl,lk,hcd⟩:=F.ex;refine znp lk hcd S (λvs H Q E ⟨φ,ds,s,r,hS,h⟩=>?_) λA outer s H vs Q E hr ⟨φ,ds,st',r,hS,h⟩=>?_
 ·rw[<-r.len,(Vn hT h).1,hp]
 ·obtain⟨hl,h2⟩:=Vn hT h;exact⟨_,hb cdv A outer s H E hr,φ,_,st',zfa r hl.symm hm,hS,h2⟩
end
theorem zlf{K:PySem.W.Frag}{cA:Cl}{m:List Xv->M Xv}{H:Hp}{a:Addr}{ns:List Int}(hq:dj K H a (ns.map V.int))(hm:∃s',m [.d (.fl (ns.map D.int))] []=some (.ok (.d (.bl true)),s')) :
  uN K cA m [.ref a] H (λv _=>v=.bl true) λ_ _ _=>False:=by
 have rs:∀(l:List Int) φ,aC K cA φ H (l.map D.int) (l.map V.int):=λl φ=>by
  induction l with
  |nil=>exact .nil
  |cons i l ih=>exact .cons (.int i) ih
 have hl:LstAt K ⟨λ_=>False,[]⟩ H a (ns.map V.int):=by
  rcases hq with h|h
  ·exact .inl ⟨h,λz=>z⟩
  ·exact .inr (.inr h)
 refine⟨⟨λ_=>False,[]⟩,[.d (.fl (ns.map D.int))],[],.cons (.d (.fl hl (rs ns _))) .nil,⟨rfl,(λn o b e1 e2=>by simp at e1),Bo,(λb hb=>by cases hb),(λb z=>False.elim z)⟩,?_⟩;obtain⟨s',e⟩:=hm;unfold Run;rw[e];intro φ' H' _ _ v rv;cases rv with
 |d rv=>cases rv;rfl
theorem zfP:Raises X (λ_ _ _ _=>False):=λ_ _ _ _ _ _ _ _ _ _ _ _ _ z=>z.elim
theorem zfW(r:b_ k A):b_ k (A.mark o):=⟨r.dp,r.un,r.gd⟩
theorem wA(r:b_ k A):A.units+60<cLine:=by have:=r.un;lia
noncomputable def aD:Expr->Bool
 |.Starred _ _=>false
 |_=>true
theorem aX(h:aD e=true):starEach (e::es) env=(false,eval e env)::starEach es env:=by
 cases e<;>first|rfl|cases h
theorem aU:∀{es:List Expr} {env:Env} {pos:Pos},es.all aD=true->(backTo pos (starEach es env)).any (·.1)=false
 |[],_,_,_=>rfl
 |e::es,env,pos,h=>by
  rw[kW,cI] at h;rw[aX h.1];show (false||(backTo pos (starEach es env)).any (·.1))=false;rw[aU h.2];rfl
theorem pW:∀{es:List Expr} {env:Env} {pos:Pos},es.all aD=true->(backTo pos (starEach es env)).all (λx=>!x.1)=true
 |[],_,_,_=>rfl
 |e::es,env,pos,h=>by
  rw[kW,cI] at h;rw[aX h.1];show (true&&(backTo pos (starEach es env)).all (λx=>!x.1))=true;rw[pW h.2];rfl
theorem mz(h1:aD e=true)(h2:es.all aD=true)(h3:decide (es.length<28)=true):((backTo pos (starEach (e::es) env)).all (λx=>!x.1)&&(backToKw pos (keywordEach [] env)).all (λx=>x.1.isSome)&&decide ((e::es).length+([]:List Keyword).length+(if ([]:List Keyword).isEmpty then 0 else 1)<30))=true:=by
 rw[pW (es:=e::es) (by rw[kW,h1,h2];rfl)];have:=gj h3;have z:(e::es).length+([]:List Keyword).length+(if ([]:List Keyword).isEmpty then 0 else 1)<30:=by
  show es.length+1+0+0<30
  lia
 rw[cT z];rfl
noncomputable def tO(sc scope:Scope):Bool:=(match scope.kind with|.function=>true|_=>false)&&scope.names.all λy=>match y.2 with
 |.cell=>(match scope.names.lookup y.1 with|some .cell=>true|_=>false)
 |.free=>(match sc.names.lookup y.1 with|some .cell=>true|some .free=>true|_=>false)
 |.local=>(match scope.names.lookup y.1 with|some .local=>true|_=>false)
 |_=>true
theorem dI.of(h:tO sc scope=true):dI sc scope:=by
 unfold tO at h;rw[cI,gb] at h;obtain⟨h1,h2⟩:=h;refine⟨?_,λy hy z=>?_,λy hy z=>?_,λy hy z=>?_⟩
 ·split at h1
  ·assumption
  ·cases h1
 ·have:=h2 y hy;rw[z] at this;dsimp only at this;split at this
  ·assumption
  ·cases this
 ·have:=h2 y hy;rw[z] at this;dsimp only at this;split at this
  ·exact .inl (by assumption)
  ·exact .inr (by assumption)
  ·cases this
 ·have:=h2 y hy;rw[z] at this;dsimp only at this;split at this
  ·assumption
  ·cases this
noncomputable def frB(scope:Scope)(XN:List Str):List Str->List Nat->Bool
 |y::N,j::fr=>(match scope.names.lookup y with|some .free=>true|_=>false)&&decide (XN[j]?=some y)&&frB scope XN N fr
 |[],[]=>true
 |_,_=>false
theorem Vo:∀{N:List Str} {fr:List Nat},frB scope XN N fr=true->N.length=fr.length/\∀(i:Nat) (y:Str) (j:Nat),N[i]?=some y->fr[i]?=some j->scope.names.lookup y=some .free/\XN[j]?=some y
 |[],[],_=>⟨rfl,λi y j h=>by simp at h⟩
 |[],_::_,h=>by cases h
 |_::_,[],h=>by cases h
 |y::N,j::fr,h=>by
  unfold frB at h;rw[cI,cI,Bk] at h;obtain⟨⟨h1,h2⟩,h3⟩:=h;obtain⟨l,q⟩:=Vo h3;refine⟨by simp[l],λi z m e1 e2=>?_⟩;cases i with
  |zero=>
   simp at e1 e2;subst e1 e2;refine⟨?_,h2⟩;split at h1
   ·assumption
   ·cases h1
  |succ i=>exact q i z m (by simpa using e1) (by simpa using e2)
noncomputable def okN(x:Str):Bool:=!(x==("__debug__" : Str)) && !(x==("__classdict__" : Str)) && !decide (x="__name__")
theorem qZ(h:okN x=true):(x==("__debug__" : Str))=false/\(x==("__classdict__" : Str))=false/\x≠"__name__":=by
 unfold okN at h;simp only[cI,Ia,Hz] at h;exact⟨h.1.1,h.1.2,h.2⟩
theorem Ju{env:Env}{k:NameKind}(hk:k≠.free):∀{names:List (Str×NameKind)} {x:Str},names.lookup x=some k->
  (names.map λ(n,k)=>if (k==NameKind.free&&env.scope.kind==.function&&env.kindOf n==some .cell) then (n,NameKind.cell) else (n,k)).lookup x=some k
 |[],x,h=>by simp at h
 |(n,q)::r,x,h=>by
  rw[mJ] at h;rw[jA,mJ];have hd:∀c:Bool,(if c=true then (n,NameKind.cell) else (n,q)).1=n:=λc=>by cases c<;>rfl
  rw[hd];by_cases z:x=n
  ·subst z;simp only[wW] at h ⊢;cases h
   split
   ·rename_i y;simp only[cI,jf] at y;exact absurd y.1.1 hk
   ·rfl
  ·have z':(x==n)=false:=by simpa using z
   simp only[z'] at h ⊢;exact Ju hk h
theorem zkz{K:PySem.W.Frag}{C:Addr}(h:Iv K C=true):XC K C:=by
 unfold Iv at h;simp only[cI,jf] at h;obtain⟨⟨⟨⟨⟨⟨⟨h1,h2⟩,h3⟩,h4⟩,h5⟩,h6⟩,h7⟩,h8⟩:=h;exact⟨h1,h2,h3,h4,h5,h6,h7,h8⟩
theorem Oi{n c:Nat}(hn:0<n):nP n c<n:=by unfold nP;split<;>lia
theorem Oj{n c:Nat}(hn:0<n):nP n (nP n c)=nP n c:=by unfold nP;split<;>simp_all
theorem zj4{n c e:Nat}(hn:0<n):jM n (nP n c) (nP n e)=jM n c e:=by unfold jM;rw[Oj hn,Oj hn]
theorem zi6{K:PySem.W.Frag}{L:List Addr}{f:Nat->List Str}(hL:0<L.length)(h:pF K L=true):tH K ⟨dR L,f⟩ (jM L.length):=by
 unfold pF at h;rw[gb] at h;have key:∀c,Iv K (dR L c)=true/\PySem.W.kitOne K (.ref (dR L c)) (.type "ValueError")=some true/\∀e,PySem.W.kitOne K (.ref (dR L c)) (.ref (dR L e))=some (jM L.length c e):=λc=>by
  have z:=h (nP L.length c) (uE.mpr (Oi hL));simp only[cI,jf,gb] at z;obtain⟨⟨z1,z2⟩,z3⟩:=z;refine⟨z1,z2,λe=>?_⟩;have y:=z3 (nP L.length e) (uE.mpr (Oi hL));rw[zj4 hL] at y;exact y
 exact⟨λc=>zkz (key c).1,λc e=>(key c).2.2 e,λc=>(key c).2.1⟩
theorem zjW{K:PySem.W.Frag}{L:List Addr}{d:Nat}(hL:0<L.length)(h:subB K L d=true):∀c,jM L.length c d=true->L2.subIn K (dR L c) (dR L d)=true:=λc hc=>by
 unfold subB at h;rw[gb] at h;have z:=h (nP L.length c) (uE.mpr (Oi hL));have y:jM L.length (nP L.length c) d=true:=by
  unfold jM at hc ⊢;rw[Oj hL];exact hc
 rw[y] at z;exact z
noncomputable def tQ(K:PySem.W.Frag):Sp:=λvs H Q _=>∃(a:Addr) (ns:List Int),vs=[.ref a]/\dj K H a (ns.map V.int)/\ns.length<=63/\Only H/\∀H',Q (.bl true) H'
theorem ziS{K:PySem.W.Frag}{cA:Cl}{m:List Xv->M Xv}(hm:∀ns:List Int,ns.length<=63->∃s',m [.d (.fl (ns.map D.int))] []=some (.ok (.d (.bl true)),s'))(vs:List V)(H:Hp)(Q:VK)(E:XK)(h:tQ K vs H Q E):uN K cA m vs H Q E:=by
 obtain⟨a,ns,rfl,hq,hl,hO,k⟩:=h;obtain⟨φ,ds,s,r1,r2,h⟩:=zlf (cA:=cA) (m:=m) hq (hm ns hl);refine⟨φ,ds,s,r1,r2,?_⟩;unfold Run at h ⊢;split at h
 ·intro φ' H' x r v rv;rw[h φ' H' x r v rv];exact k H'
 ·exact λφ' H' x r dx q=>(h φ' H' x r dx q).elim
 ·exact h
theorem zT{K:PySem.W.Frag}{fd:FuncData}{p:Str}(h:∀a,bindArgs fd ⟨[a],[]⟩=pure [(p,a)]):Binds K fd [p] []:=.all λus hl=>by
 cases us with
 |nil=>cases hl
 |cons a r=>cases r with
  |nil=>exact h a
  |cons b r=>cases hl
theorem zU{K:PySem.W.Frag}{fd:FuncData}{p q:Str}(h:∀a b,bindArgs fd ⟨[a,b],[]⟩=pure [(p,a),(q,b)]):Binds K fd [p,q] []:=.all λus hl=>by
 cases us with
 |nil=>cases hl
 |cons a r=>cases r with
  |nil=>cases hl
  |cons b r=>cases r with
   |nil=>exact h a b
   |cons c r=>cases hl
theorem zV{K:PySem.W.Frag}{fd:FuncData}{p q t:Str}(h:∀a b c,bindArgs fd ⟨[a,b,c],[]⟩=pure [(p,a),(q,b),(t,c)]):Binds K fd [p,q,t] []:=.all λus hl=>by
 cases us with
 |nil=>cases hl
 |cons a r=>cases r with
  |nil=>cases hl
  |cons b r=>cases r with
   |nil=>cases hl
   |cons c r=>cases r with
    |nil=>exact h a b c
    |cons d r=>cases hl
theorem zW{K:PySem.W.Frag}{fd:FuncData}{p q t u:Str}(h:∀a b c d,bindArgs fd ⟨[a,b,c,d],[]⟩=pure [(p,a),(q,b),(t,c),(u,d)]):Binds K fd [p,q,t,u] []:=.all λus hl=>by
 cases us with
 |nil=>cases hl
 |cons a r=>cases r with
  |nil=>cases hl
  |cons b r=>cases r with
   |nil=>cases hl
   |cons c r=>cases r with
    |nil=>cases hl
    |cons d r=>cases r with
     |nil=>exact h a b c d
     |cons e r=>cases hl
theorem Vp:bootBuiltins "int"=some (.type "int"):=by decide +kernel
theorem Vq:bootBuiltins "bool"=some (.type "bool"):=by decide +kernel
theorem yc:bootBuiltins "tuple"=some (.type "tuple"):=by decide +kernel
theorem zi1:bootBuiltins "list"=some (.type "list"):=by decide +kernel
theorem zcE:bootBuiltins "ValueError"=some (.type "ValueError"):=by decide +kernel
structure JE(X:Cx)(cA:Cl)(sub:Nat->Nat->Bool)(aj:Bool)(F:Fn)(EX:XS)(e:Expr)(m:E):Prop where
 o:SE X cA sub aj F EX e m
structure JA(X:Cx)(cA:Cl)(sub:Nat->Nat->Bool)(aj:Bool)(F:Fn)(EX:XS)(e:List Expr)(m:Es):Prop where
 o:SA X cA sub aj F EX e m
structure JT(X:Cx)(cA:Cl)(sub:Nat->Nat->Bool)(aj:Bool)(F:Fn)(EX:XS)(e:Expr)(m:E):Prop where
 o:ST X cA sub aj F EX e m
structure JW(X:Cx)(cA:Cl)(sub:Nat->Nat->Bool)(aj:Bool)(F:Fn)(EX:XS)(e:Expr)(m:E):Prop where
 o:SW X cA sub aj F EX e m
structure JC(X:Cx)(cA:Cl)(sub:Nat->Nat->Bool)(aj:Bool)(F:Fn)(EX:XS)(e:List Expr)(m:Eo):Prop where
 o:Gs X cA sub aj F EX e m
structure JO(X:Cx)(cA:Cl)(sub:Nat->Nat->Bool)(aj:Bool)(F:Fn)(EX:XS)(e:Option Expr)(m:Eo):Prop where
 o:Gm X cA sub aj F EX e m
structure JI(X:Cx)(cA:Cl)(sub:Nat->Nat->Bool)(aj:Bool)(F:Fn)(EX:XS)(tg e:Expr)(m:Wk):Prop where
 o:SI X cA sub aj F EX tg e m
structure JG(X:Cx)(cA:Cl)(sub:Nat->Nat->Bool)(aj:Bool)(F:Bool->Fn)(EX:XS)(e:Expr)(m:Tg):Prop where
 o:SG X cA sub aj F EX e m
structure JS(X:Cx)(cA:Cl)(sub:Nat->Nat->Bool)(aj:Bool)(F:Bool->Fn)(EX:XS)(e:Stmt)(m:St):Prop where
 o:SS X cA sub aj F EX e m
structure JB(X:Cx)(cA:Cl)(sub:Nat->Nat->Bool)(aj:Bool)(F:Bool->Fn)(EX:XS)(e:List Stmt)(m:cD):Prop where
 o:tM X cA sub aj F EX e m
structure JK(X:Cx)(x:Str)(k:NameKind):Prop where
 o:X.env.scope.names.lookup x=some k
structure JP(X:Cx)(cA:Cl)(op:CmpOp)(p:Pr):Prop where
 o:∃r,cU X (compareOp op) r/\aR X.K cA p (r2 r)
structure JQ(X:Cx)(cA:Cl)(op:Operator)(p:Pr):Prop where
 o:∃r,cU X (binaryOp op) r/\aR X.K cA p (r2 r)
structure JN(X:Cx)(cA:Cl)(kx:Expr)(k:Kd):Prop where
 o:PE X kx (tC (BX cA k))
structure JR(X:Cx)(EX:XS):Prop where
 o:Raises X EX
structure JH(X:Cx):Prop where
 o:PassesOwn (model X.prog X.w) X.A X.env X.xe
structure JY(X:Cx)(tg:Expr)(g:TG):Prop where
 o:PG X tg g
noncomputable def nj:NameKind->Bool
 |.local=>true
 |.cell=>true
 |_=>false
noncomputable def zX:NameKind->Bool
 |.local=>true
 |.cell=>true
 |.free=>true
 |_=>false
section
variable {X:Cx}{cA:Cl}{sub:Nat->Nat->Bool}{aj:Bool}{F:Fn}{EX:XS}{a b c d e:Expr}{A B C Dd E':E}{pos p p2 apos:Pos}{es:List Expr}{Xs:Es}{x y:Str}{k k':NameKind}{q q1 q2 q3:Pr}{fz:Bool}
theorem Vr(h:scope.names.lookup x=some k)(hk:(match k with|.free=>false|_=>true)=true):JK (X.blk scope cl N Cc s3 H3 fp ak) x k:=
 ⟨Ju (by intro z;subst z;cases hk) h⟩
theorem Vt(i:Nat)(hN:X.N[i]?=some x)(h:JK X x k)(hv:zX k=true)(hd:okN x=true):JE X cA sub aj F EX (.Name x pos) (.v i):=
 ⟨Us i hN (by cases k<;>first|exact .inl h.o|exact .inr (.inl h.o)|exact .inr (.inr h.o)|cases hv) (qZ hd).1 (qZ hd).2.1⟩
theorem zos(i:Nat)(hN:N[i]?=some x)(h:scope.names.lookup x=some .free)(hd:okN x=true):JE (X.blk scope cl N Cc s3 H3 fp ak) cA sub aj F EX (.Name x pos) (.v i):=
 ⟨Us i hN (.inr (Jh h)) (qZ hd).1 (qZ hd).2.1⟩
theorem aA{i j p}:JE X cA sub aj F EX (.Constant (.int i) j p) (.c (.int i)):=⟨zls⟩
theorem gF{i j p}:JE X cA sub aj F EX (.Constant (.bool i) j p) (.c (.bl i)):=⟨zm8⟩
theorem q_{j p}:JE X cA sub aj F EX (.Constant .none j p) (.c .non):=⟨zkJ⟩
theorem jk{i j p}:JE X cA sub aj F EX (.Constant (.str i) j p) (.c (.str i)):=⟨zlk⟩
theorem Vu(h:∃t,X.mg x=some (.int i t))(hg:JK X x .globalImplicit)(hd:okN x=true):JE X cA sub aj F EX (.Name x pos) (.c (.int i)):=by
 obtain⟨t,h⟩:=h;exact⟨zjj hg.o h (qZ hd).1⟩
theorem eE:JQ X cA .Add .add:=⟨_,zf4,zk0⟩
theorem nq:JQ X cA .Sub .sub:=⟨_,zlX,zkm⟩
theorem Gu:JQ X cA .Mult .mul:=⟨_,zlh,zmi⟩
theorem Vv:JQ X cA .FloorDiv .fdiv:=⟨_,zjw,ziW⟩
theorem uP:JQ X cA .Mod .mod:=⟨_,zlp,zkH⟩
theorem Ol:JQ X cA .Pow .pow:=⟨_,zmh,zl4⟩
theorem bF(h:JQ X cA op q)(ha:JE X cA sub aj F EX a A)(hb:JE X cA sub aj F EX b B):JE X cA sub aj F EX (.BinOp a op b pos) (.pr fz q (.cons A (.cons B .nil))):=by
 obtain⟨r,h1,h2⟩:=h.o;exact⟨zkn h1 h2 ha.o hb.o⟩
theorem pX(ha:JE X cA sub aj F EX a A):JE X cA sub aj F EX (.UnaryOp .USub a pos) (.pr true .neg (.cons A .nil)):=⟨znI Ss zkr ha.o⟩
theorem Vw(ha:JE X cA sub aj F EX a A):JE X cA sub aj F EX (.UnaryOp .Not a pos) (.not A):=⟨zma ha.o⟩
theorem tR{op}(ha:JE X cA sub aj F EX a A):JE X cA sub aj F EX (.BoolOp op [a] pos) A:=⟨zmd ha.o⟩
theorem tU{rest:List Expr}(ha:JE X cA sub aj F EX a A)(hb:JE X cA sub aj F EX (.BoolOp .And (b::rest) pos) B):JE X cA sub aj F EX (.BoolOp .And (a::b::rest) pos) (.and A B):=⟨zmk ha.o hb.o⟩
theorem oU{k:Nat}(hr:b_ k X.A):JP X cA .Eq .eq:=⟨_,zlz (wA hr),zm0⟩
theorem tV{k:Nat}(hr:b_ k X.A):JP X cA .NotEq .ne:=⟨_,zkS (wA hr),znd⟩
theorem rm{k:Nat}(hr:b_ k X.A):JP X cA .Lt .lt:=⟨_,Ef.or (zlP (by have:=wA hr;lia)),znJ⟩
theorem wB:JP X cA .LtE .le:=⟨_,zmU,zna⟩
theorem Vx:JP X cA .Gt .gt:=⟨_,zny,zmO⟩
theorem zom:JP X cA .GtE .ge:=⟨_,znL,znu⟩
theorem Jv{k:Nat}(hr:b_ k X.A):JP X cA .In .inn:=⟨_,zkX (wA hr),zng⟩
noncomputable def jZ:Expr->Bool
 |.Set _ _ _=>false
 |_=>true
theorem qI(h:jZ b=true):behindInMarks op b=false:=by cases b<;>first|rfl|cases h
theorem Cd(ho:JP X cA op q)(ha:JE X cA sub aj F EX a A)(hb:JE X cA sub aj F EX b B)(h1:jZ b=true:=by rfl):JE X cA sub aj F EX (.Compare a [op] [b] pos) (.pr true q (.cons A (.cons B .nil))):=by
 obtain⟨r,h2,h3⟩:=ho.o;exact⟨zlm h2 h3 ha.o hb.o (qI h1)⟩
theorem fH(ho:JP X cA op q)(ha:JE X cA sub aj F EX a A)(hb:JE X cA sub aj F EX b B)(h1:jZ b=true:=by rfl):JT X cA sub aj F EX (.Compare a [op] [b] pos) (.pr true q (.cons A (.cons B .nil))):=by
 obtain⟨r,h2,h3⟩:=ho.o;exact⟨zlx h2 h3 ha.o hb.o (qI h1)⟩
theorem Vy(h1:JP X cA op q1)(h2:JP X cA op' q2)(ha:JE X cA sub aj F EX a A)(hb:JE X cA sub aj F EX b B)(hc:JE X cA sub aj F EX c C)(hm:jZ c=true:=by rfl):JE X cA sub aj F EX (.Compare a [op,op'] [b,c] pos) (.qz q1 q2 A B C):=by
 obtain⟨r,h3,h4⟩:=h1.o;obtain⟨r',h5,h6⟩:=h2.o;exact⟨zlV h3 h4 h5 h6 ha.o hb.o hc.o (qI hm)⟩
theorem zmQ(h1:JP X cA op q1)(h2:JP X cA op' q2)(h3:JP X cA gA q3)(ha:JE X cA sub aj F EX a A)(hb:JE X cA sub aj F EX b B)(hc:JE X cA sub aj F EX c C)(hd:JE X cA sub aj F EX d Dd)(hm:jZ d=true:=by rfl) :
  JE X cA sub aj F EX (.Compare a [op,op',gA] [b,c,d] pos) (.sW q1 q2 q3 A B C Dd):=by
 obtain⟨r,h4,h5⟩:=h1.o;obtain⟨r',h6,h7⟩:=h2.o;obtain⟨r'',h8,h9⟩:=h3.o;exact⟨zkE h4 h5 h6 h7 h8 h9 ha.o hb.o hc.o hd.o (qI hm)⟩
theorem zm6(h1:JP X cA op q1)(h2:JP X cA op' q2)(ha:JE X cA sub aj F EX a A)(hb:JE X cA sub aj F EX b B)(hc:JE X cA sub aj F EX c C)(hm:jZ c=true:=by rfl):JT X cA sub aj F EX (.Compare a [op,op'] [b,c] pos) (.qz q1 q2 A B C):=by
 obtain⟨r,h3,h4⟩:=h1.o;obtain⟨r',h5,h6⟩:=h2.o;exact⟨zmx h3 h4 h5 h6 ha.o hb.o hc.o (qI hm)⟩
theorem znG(h1:JP X cA op q1)(h2:JP X cA op' q2)(h3:JP X cA gA q3)(ha:JE X cA sub aj F EX a A)(hb:JE X cA sub aj F EX b B)(hc:JE X cA sub aj F EX c C)(hd:JE X cA sub aj F EX d Dd)(hm:jZ d=true:=by rfl) :
  JT X cA sub aj F EX (.Compare a [op,op',gA] [b,c,d] pos) (.sW q1 q2 q3 A B C Dd):=by
 obtain⟨r,h4,h5⟩:=h1.o;obtain⟨r',h6,h7⟩:=h2.o;obtain⟨r'',h8,h9⟩:=h3.o;exact⟨zl0 h4 h5 h6 h7 h8 h9 ha.o hb.o hc.o hd.o (qI hm)⟩
theorem znB{j p}(ha:JE X cA sub aj F EX a A):JE X cA sub aj F EX (.Compare a [.Is] [.Constant .none j p] pos) (.pr true .Fp (.cons A .nil)):=⟨zmm ha.o⟩
noncomputable def Gv:Expr->Bool
 |.Call _ _ _ _=>true
 |.Name _ _=>true
 |.Subscript _ _ _=>true
 |.Attribute _ _ _=>true
 |_=>false
theorem iC(ha:JE X cA sub aj F EX a A)(he:Gv a=true:=by rfl):JT X cA sub aj F EX a A:=⟨zlR ha.o (by cases a<;>first|(intro _;rfl)|cases he)⟩
theorem gM(ha:JT X cA sub aj F EX a A):JT X cA sub aj F EX (.UnaryOp .Not a pos) (.not A):=⟨zll ha.o⟩
theorem Gw(ha:JT X cA sub aj F EX a A):JW X cA sub aj F EX (.BoolOp .And [a] pos) A:=⟨zi9 ha.o⟩
theorem uQ(ha:JT X cA sub aj F EX a A):JW X cA sub aj F EX (.BoolOp .Or [a] pos) A:=⟨zkv ha.o⟩
theorem Gx{rest:List Expr}(ha:JT X cA sub aj F EX a A)(hb:JW X cA sub aj F EX (.BoolOp .And (b::rest) pos) B):JW X cA sub aj F EX (.BoolOp .And (a::b::rest) pos) (.and A B):=⟨zmv ha.o hb.o⟩
theorem pY{rest:List Expr}(ha:JT X cA sub aj F EX a A)(hb:JW X cA sub aj F EX (.BoolOp .Or (b::rest) pos) B):JW X cA sub aj F EX (.BoolOp .Or (a::b::rest) pos) (.or A B):=⟨zmR ha.o hb.o⟩
theorem oV(h:JW X cA sub aj F EX a A):JT X cA sub aj F EX a A:=⟨zol h.o⟩
theorem aB:JA X cA sub aj F EX [] .nil:=⟨zle⟩
theorem ao(ha:JE X cA sub aj F EX a A)(hr:JA X cA sub aj F EX es Xs)(hs:aD a=true:=by rfl):JA X cA sub aj F EX (a::es) (.cons A Xs):=⟨zjO ha.o hr.o (aX hs)⟩
theorem bA{k}(ha:JA X cA sub aj F EX es Xs)(hz:decide (Es.len Xs<=sizeLine)=true:=by rfl):JE X cA sub aj F EX (.Tuple es k pos) (.tup Xs):=⟨zkB ha.o (gj hz)⟩
theorem fB(ha:JA X cA sub aj F EX es Xs)(hz:decide (Es.len Xs<=sizeLine)=true:=by rfl):JE X cA sub aj F EX (.List es pos) (.lst fz Xs):=⟨zmg ha.o (gj hz)⟩
theorem zmc{j p1 j2 p3}{k:Str}{i:Int}:JE X cA sub aj F EX (.Dict [some (.Constant (.str k) j p1)] [.Constant (.int i) j2 p3] pos) (.sX k i):=⟨zjE⟩
noncomputable def tW:Expr->Bool
 |.Constant _ _ _=>true
 |.Name _ _=>true
 |.Call _ _ _ _=>true
 |.BinOp _ _ _ _=>true
 |.UnaryOp _ _ _=>true
 |.Subscript _ _ _=>true
 |.IfExp _ _ _ _=>true
 |.Attribute _ _ _=>true
 |.Compare _ _ _ _=>true
 |.BoolOp _ _ _=>true
 |_=>false
theorem bx(ha:JE X cA sub aj F EX a A)(hb:JE X cA sub aj F EX b B)(hs:tW b=true:=by rfl):JE X cA sub aj F EX (.Subscript a b pos) (.pr true .ix (.cons A (.cons B .nil))):=⟨znK zns ha.o hb.o (by cases b<;>first|(intro _ _;rfl)|cases hs)⟩
theorem tX:JO X cA sub aj F EX none .no:=⟨znF⟩
theorem qJ(ha:JE X cA sub aj F EX a A):JO X cA sub aj F EX (some a) (.yes A):=⟨zl3 ha.o⟩
theorem rz{lo hi:Option Expr}{Lo Hi:Eo}(ha:JE X cA sub aj F EX a A)(hl:JO X cA sub aj F EX lo Lo)(hh:JO X cA sub aj F EX hi Hi):JE X cA sub aj F EX (.Subscript a (.Slice lo hi none p2) pos) (.sl fz A Lo Hi):=⟨znw ha.o hl.o hh.o⟩
theorem znn(ha:JE X cA sub aj F EX a A):JE X cA sub aj F EX (.Subscript a (.Slice none none (some (.UnaryOp .USub (.Constant (.int 1) j p3) p4)) p2) pos) (.pr true .rev (.cons A .nil)):=⟨zmG ha.o⟩
theorem zkY(f:Nat){cm:Bool}{k:Nat}{fa:Addr}{fd:FuncData}{ps:List Str}(Fo:fM X.prog X.w X.K X.mg X.base (lU X.prog X.w) cm k fa fd ps (uN X.K cA (F f)))(hcm:cm=true->X.aj=true)(hr:b_ k X.A)(hm:X.mg x=some (.ref fa))(hk:PySem.W.keepIn X.K (.ref fa)=true)(hb:Binds X.K fd ps [])(R:JR X EX)(hg:JK X x .globalImplicit)
  (ha:JA X cA sub aj F EX (e::es) Xs) (hd:okN x=true) (he:aD e=true:=by rfl) (hpl:es.all aD=true:=by rfl) :
  JE X cA sub aj F EX (.Call (.Name x p) (e::es) [] pos) (.call f Xs):=⟨zjC Fo hcm hr hg.o hm hk hb R.o ha.o (qZ hd).1 (aX he) (aU hpl)⟩
theorem tY{c:Nat}(hm:X.mg x=some (.ref (cA.a c)))(hg:JK X x .globalImplicit)(hd:okN x=true):JN X cA (.Name x pos) (.cls c):=⟨R9 hg.o hm rfl (qZ hd).1⟩
theorem rA(hv:BX cA kd=.ty T)(hm:X.mg x=none)(hb:bootBuiltins x=some (.type T))(hg:JK X x .globalImplicit)(hd:okN x=true):JN X cA (.Name x pos) kd:=⟨λak s σ H Q I h=>by
 rw[hv] at h;exact xJ I hg.o hm hb ⟨.ty T,H,I,rfl,h⟩ (qZ hd).2.2 (qZ hd).1⟩
theorem j8(Cs:tH X.K cA sub)(hm:X.mg "isinstance"=none)(hg:JK X "isinstance" .globalImplicit)(ha:JE X cA sub aj F EX a A)(hk:JN X cA kx kd)(h1:aD a=true:=by rfl)(h2:aD kx=true:=by rfl):JE X cA sub aj F EX (.Call (.Name "isinstance" p) [a,kx] [] pos) (.gw A kd):=
 ⟨zlG (λ_=>Cs) hg.o hm ha.o hk.o (aX h1) (aX h2) (aU (by rw[kW,h2];rfl))⟩
theorem tZ(hm:X.mg "len"=none)(hg:JK X "len" .globalImplicit)(ha:JA X cA sub aj F EX (e::es) Xs)(he:aD e=true:=by rfl)(hpl:es.all aD=true:=by rfl):JE X cA sub aj F EX (.Call (.Name "len" p) (e::es) [] pos) (.pr fz .len Xs):=⟨zQ zc3 zlv hg.o hm PySem.boot_len ha.o (by decide) (by decide) (aX he) (aU hpl)⟩
theorem Vz(hm:X.mg "abs"=none)(hg:JK X "abs" .globalImplicit)(ha:JA X cA sub aj F EX (e::es) Xs)(he:aD e=true:=by rfl)(hpl:es.all aD=true:=by rfl):JE X cA sub aj F EX (.Call (.Name "abs" p) (e::es) [] pos) (.pr fz .abs Xs):=⟨zQ zhW zlN hg.o hm PyProof.Rows.boot_abs ha.o (by decide) (by decide) (aX he) (aU hpl)⟩
theorem VB(hc:X.aj=true)(hm:X.mg "max"=none)(hg:JK X "max" .globalImplicit)(ha:JA X cA sub aj F EX (e::es) Xs)(he:aD e=true:=by rfl)(hpl:es.all aD=true:=by rfl):JE X cA sub aj F EX (.Call (.Name "max" p) (e::es) [] pos) (.pr fz .max2 Xs):=⟨zQ (zfL hc) ziR hg.o hm PyProof.Rows.boot_max ha.o (by decide) (by decide) (aX he) (aU hpl)⟩
theorem VD(hc:X.aj=true)(hm:X.mg "min"=none)(hg:JK X "min" .globalImplicit)(ha:JA X cA sub aj F EX (e::es) Xs)(he:aD e=true:=by rfl)(hpl:es.all aD=true:=by rfl):JE X cA sub aj F EX (.Call (.Name "min" p) (e::es) [] pos) (.pr fz .min2 Xs):=⟨zQ (zf1 hc) zj5 hg.o hm PyProof.Rows.boot_min ha.o (by decide) (by decide) (aX he) (aU hpl)⟩
theorem zmq(hm:X.mg "int"=none)(hg:JK X "int" .globalImplicit)(ha:JA X cA sub aj F EX (e::es) Xs)(he:aD e=true:=by rfl)(hpl:es.all aD=true:=by rfl):JE X cA sub aj F EX (.Call (.Name "int" p) (e::es) [] pos) (.pr fz .vX Xs):=⟨Jm zfH zjd hg.o hm PyProof.Rows.boot_int ha.o (by decide) (by decide) (aX he) (aU hpl)⟩
theorem zh0(hm:X.mg "divmod"=none)(hg:JK X "divmod" .globalImplicit)(ha:JA X cA sub aj F EX (e::es) Xs)(he:aD e=true:=by rfl)(hpl:es.all aD=true:=by rfl):JE X cA sub aj F EX (.Call (.Name "divmod" p) (e::es) [] pos) (.pr fz .divmod Xs):=⟨zQ zd1 zga hg.o hm PyProof.Rows.boot_divmod ha.o (by decide) (by decide) (aX he) (aU hpl)⟩
theorem Ce(hc:X.aj=true)(hm:X.mg "all"=none)(hg:JK X "all" .globalImplicit)(ha:JA X cA sub aj F EX (e::es) Xs)(he:aD e=true:=by rfl)(hpl:es.all aD=true:=by rfl):JE X cA sub aj F EX (.Call (.Name "all" p) (e::es) [] pos) (.pr fz .all Xs):=⟨zQ (zgB hc) zmp hg.o hm PyProof.Rows.boot_all ha.o (by decide) (by decide) (aX he) (aU hpl)⟩
theorem Om(hm:X.mg "list"=none)(hg:JK X "list" .globalImplicit)(ha:JA X cA sub aj F EX (e::es) Xs)(he:aD e=true:=by rfl)(hpl:es.all aD=true:=by rfl):JE X cA sub aj F EX (.Call (.Name "list" p) (e::es) [] pos) (.pr fz .list Xs):=⟨Jm zdh zi4 hg.o hm zi1 ha.o (by decide) (by decide) (aX he) (aU hpl)⟩
theorem zY(hm:X.mg "tuple"=none)(hg:JK X "tuple" .globalImplicit)(ha:JA X cA sub aj F EX (e::es) Xs)(he:aD e=true:=by rfl)(hpl:es.all aD=true:=by rfl):JE X cA sub aj F EX (.Call (.Name "tuple" p) (e::es) [] pos) (.pr fz .tuple Xs):=⟨Jm zcN zh6 hg.o hm yc ha.o (by decide) (by decide) (aX he) (aU hpl)⟩
theorem zjv(ho:JE X cA sub aj F EX a A)(ha:JA X cA sub aj F EX (e::es) Xs)(hbase:attributeBase a "count" X.env (eval a X.env)=eval a X.env:=by rfl)(hfew:decide (es.length<28)=true:=by rfl)(hline:(apos.endLine==pos.line)=true:=by rfl)(hs:aD e=true:=by rfl)(hplain:es.all aD=true:=by rfl) :
  JE X cA sub aj F EX (.Call (.Attribute a "count" apos) (e::es) [] pos) (.meth true .count .list A Xs):=⟨U_ (k:=.list) Hy PySem.F.slot_list_count PySem.F.type_list_count zf2 zhO ho.o ha.o hbase (mz hs hplain hfew) hline (aX hs) (aU hplain)⟩
theorem ziO(ho:JE X cA sub aj F EX a A)(ha:JA X cA sub aj F EX (e::es) Xs)(hbase:attributeBase a "index" X.env (eval a X.env)=eval a X.env:=by rfl)(hfew:decide (es.length<28)=true:=by rfl)(hline:(apos.endLine==pos.line)=true:=by rfl)(hs:aD e=true:=by rfl)(hplain:es.all aD=true:=by rfl) :
  JE X cA sub aj F EX (.Call (.Attribute a "index" apos) (e::es) [] pos) (.meth true .index .list A Xs):=⟨U_ (k:=.list) Hy PySem.F.slot_list_index PySem.F.type_list_index zg0 zhs ho.o ha.o hbase (mz hs hplain hfew) hline (aX hs) (aU hplain)⟩
theorem VF(ho:JE X cA sub aj F EX a A)(hb:JE X cA sub aj F EX b B)(hbase:attributeBase a "append" X.env (eval a X.env)=eval a X.env:=by rfl)(hline:(apos.endLine==pos.line)=true:=by rfl)(hs:aD b=true:=by rfl) :
  JE X cA sub aj F EX (.Call (.Attribute a "append" apos) [b] [] pos) (.push A B):=⟨zjf ho.o hb.o hbase (mz hs rfl rfl) hline (aX hs) rfl⟩
theorem znz(ho:JE X cA sub aj F EX a A)(hbase:attributeBase a "pop" X.env (eval a X.env)=eval a X.env:=by rfl)(hline:(apos.endLine==pos.line)=true:=by rfl) :
  JE X cA sub aj F EX (.Call (.Attribute a "pop" apos) [] [] pos) (.pop A):=⟨zkt ho.o hbase hline⟩
theorem rB:JC X cA sub aj F EX [] .no:=⟨zkK⟩
theorem zZ(h:JT X cA sub aj F EX c C):JC X cA sub aj F EX [c] (.yes C):=⟨zji h.o⟩
theorem lE(ha:JE X cA sub aj F EX a A):JI X cA sub aj F EX tg a (.seq A):=⟨zkw ha.o⟩
theorem zop(hmg:X.mg "range"=none)(tL:JK X "range" .globalImplicit)(ha:JE X cA sub aj F EX a A)(hb:JE X cA sub aj F EX b B)(h1:aD a=true:=by rfl)(h2:aD b=true:=by rfl):JI X cA sub aj F EX tg (.Call (.Name "range" p) [a,b] [] pos) (.rg A B):=⟨znb tL.o hmg ha.o hb.o (aX h1) (aX h2)⟩
theorem Gy(hmg:X.mg "range"=none)(tL:JK X "range" .globalImplicit)(hb:JE X cA sub aj F EX b B)(h2:aD b=true:=by rfl):JI X cA sub aj F EX tg (.Call (.Name "range" p) [b] [] pos) (.rg (.c (.int 0)) B):=⟨zmL tL.o hmg hb.o (aX h2)⟩
noncomputable def Gz(scope:Scope)(x:Str):Bool:=match scope.names.lookup x with
 |some .local=>true
 |some .cell=>true
 |_=>false
theorem Cg(h:Gz scope x=true):Loc (X.blk scope cl N Cc s3 H3 fp ak).env.scope x/\((X.blk scope cl N Cc s3 H3 fp ak).fn x=true\/(X.blk scope cl N Cc s3 H3 fp ak).env.scope.names.lookup x=some .local):=by
 unfold Gz at h;split at h
 ·rename_i z;exact⟨.inl (lookup_relabel_local z),.inr (lookup_relabel_local z)⟩
 ·rename_i z;exact⟨.inr (Ju (by intro y;cases y) z),.inl (by show (scope.names.lookup x==some NameKind.cell)=true;rw[z];rfl)⟩
 ·cases h
theorem nu(i:Nat)(hnd:N.Nodup)(hi:N[i]?=some x)(hl:Gz scope x=true):JY (X.blk scope cl N Cc s3 H3 fp ak) (.Name x tp) (dU i):=
 ⟨I9 hnd hi (Cg hl).1 (Cg hl).2⟩
theorem VG(i j:Nat)(hc:X.aj=true)(hnd:N.Nodup)(hi:N[i]?=some x)(hj:N[j]?=some y)(hl:Gz scope x=true)(hl2:Gz scope y=true):JY (X.blk scope cl N Cc s3 H3 fp ak) (.Tuple [.Name x px,.Name y py] kt tp) (rY X.K 2 (g8 (dU i) (g8 (dU j) rW))):=
 ⟨Oh (X:=X.blk scope cl N Cc s3 H3 fp ak) hc hnd hi hj (Cg hl).1 (Cg hl2).1 (Cg hl).2 (Cg hl2).2⟩
theorem Cj{scope:Scope}{XN:List Str}{M0 N:List Str}{fr:List Nat}(h:frB scope XN N fr=true):(M0++N).length=M0.length+fr.length/\∀(i:Nat) (y:Str) (j:Nat),(M0++N)[M0.length+i]?=some y->fr[i]?=some j->scope.names.lookup y=some .free/\XN[j]?=some y:=by
 obtain⟨l,q⟩:=Vo h;refine⟨by rw[cX,l],λi y j e1 e2=>q i y j ?_ e2⟩;rw[nM (by lia)] at e1;rw[show M0.length+i-M0.length=i by lia] at e1;exact e1
theorem pZ{elt iter tg:Expr}{ifs:List Expr}{scope:Scope}{cond:Eo}{dG:List Nat}{g:TG}{w:Wk}(sc:Scope)(XN M0 N:List Str)(fr:List Nat)(hc:X.aj=true)(hsc:X.env.scope=sc)(wz:X.N=XN)(hB:tO sc scope=true)(hf:frB scope XN N fr=true)(hT:mq X.K cA g dG)(hin:dG.all (λi=>decide (i<M0.length))=true)
  (hi:JI X cA sub aj F EX tg iter w) (hg:∀cl C s3 H3 fp ak,JY (X.blk scope cl (M0++N) C s3 H3 fp ak) tg g)
  (ht:∀cl C s3 H3 fp ak,JC (X.blk scope cl (M0++N) C s3 H3 fp ak) cA sub aj F (λ_ _ _ _=>False) ifs cond) (he:∀cl C s3 H3 fp ak,JE (X.blk scope cl (M0++N) C s3 H3 fp ak) cA sub aj F (λ_ _ _ _=>False) elt B)
  (hs:∀x,foldedSetIterable iter X.env x=pure x:=by intro _;rfl):JE X cA sub aj F EX (.ListComp elt [⟨tg,iter,ifs,0⟩] scope pos) (.comp fz B dG w fr M0.length cond):=
 ⟨Vk hc (dI.of (hsc▸hB)) hi.o (Cj (wz▸hf)).1 (Cj (wz▸hf)).2 (λa b c d e f=>(hg a b c d e f).o) hT (λi hi=>gj (gb.mp hin i hi)) (λa b c d e f=>(ht a b c d e f).o) (λa b c d e f=>(he a b c d e f).o) hs⟩
theorem Kaa{scope eF:Scope}{env:Env}(h:dI scope eF):dI (relabel scope env) eF:=⟨h.kind,h.TQ,λy hy z=>by
 rcases h.free y hy z with q|q
 ·exact .inl (Ju (by intro y;cases y) q)
 ·exact Jh q,h.loc⟩
theorem zjk{elt iter tg:Expr}{ifs:List Expr}{scope eF:Scope}{cond:Eo}{dG:List Nat}{g:TG}{w:Wk}{cl:List (Str×Addr)}{yd:List Str}{Cc:Addr}{s3:Shared}{H3:Hp}{fp:List Addr}{ak:List (Addr×Obj)}(XN M0 N:List Str)(fr:List Nat)(hc:X.aj=true)(wz:yd=XN)(hB:tO scope eF=true)(hf:frB eF XN N fr=true)(hT:mq X.K cA g dG)(hin:dG.all (λi=>decide (i<M0.length))=true)
  (hi:JI (X.blk scope cl yd Cc s3 H3 fp ak) cA sub aj F EX tg iter w) (hg:∀cl2 C s3' GC fp' gZ,JY ((X.blk scope cl yd Cc s3 H3 fp ak).blk eF cl2 (M0++N) C s3' GC fp' gZ) tg g)
  (ht:∀cl2 C s3' GC fp' gZ,JC ((X.blk scope cl yd Cc s3 H3 fp ak).blk eF cl2 (M0++N) C s3' GC fp' gZ) cA sub aj F (λ_ _ _ _=>False) ifs cond) (he:∀cl2 C s3' GC fp' gZ,JE ((X.blk scope cl yd Cc s3 H3 fp ak).blk eF cl2 (M0++N) C s3' GC fp' gZ) cA sub aj F (λ_ _ _ _=>False) elt B)
  (hs:∀x,foldedSetIterable iter (X.blk scope cl yd Cc s3 H3 fp ak).env x=pure x:=by intro _;rfl):JE (X.blk scope cl yd Cc s3 H3 fp ak) cA sub aj F EX (.ListComp elt [⟨tg,iter,ifs,0⟩] eF pos) (.comp fz B dG w fr M0.length cond):=by
 subst wz;exact⟨Vk (X:=X.blk scope cl yd Cc s3 H3 fp ak) hc (Kaa (dI.of hB)) hi.o (Cj hf).1 (Cj hf).2 (λa b c d e f=>(hg a b c d e f).o) hT (λi hi=>gj (gb.mp hin i hi)) (λa b c d e f=>(ht a b c d e f).o) (λa b c d e f=>(he a b c d e f).o) hs⟩
theorem uR:JR X (λ_ _ _ _=>False):=⟨zfP⟩
theorem bH{P:Program}{w:World}{K:PySem.W.Frag}{mg:Str->Option Value}{base:Heap}{N:List Str}{qual:Str}{scope:Scope}{f:Addr}{cd:Value}{A:Around}{outer:List Env}{s:Shared}{H:Hp}{E:XK}{cm:Bool} :
  JR (ju (lU P w) P w K mg base N qual scope f cd A outer s H E cm) (λ_ C dx H'=>E C dx H'):=⟨zfs⟩
theorem wC{CX:sE}{P:Program}{w:World}{K:PySem.W.Frag}{mg:Str->Option Value}{base:Heap}{N:List Str}{qual:Str}{scope:Scope}{f:Addr}{cd:Value}{A:Around}{outer:List Env}{s:Shared}{H:Hp}{E:XK}{cm:Bool} :
  JH (ju CX P w K mg base N qual scope f cd A outer s H E cm):=⟨PassesOwn.leaving⟩
end
section
variable {X:Cx}{cA:Cl}{sub:Nat->Nat->Bool}{aj:Bool}{F:Bool->Fn}{EX:XS}{a b c d e:Expr}{A B C:E}{pos p p2:Pos}{st:Stmt}{sts body orelse:List Stmt}{m:St}{ms mb me mh:cD}{es:List Expr}{Xs:Es}{x y n:Str}{k k':NameKind}
theorem z_(h:JK X x k)(hv:nj k=true):Loc X.env.scope x:=by cases k<;>first|exact .inl h.o|exact .inr h.o|cases hv
theorem Aa(h:JK X x k)(hv:X.fn x=true\/k=.local):X.fn x=true\/X.env.scope.names.lookup x=some .local:=by
 rcases hv with hv|hv
 ·exact .inl hv
 ·subst hv;exact .inr h.o
theorem aL:JB X cA sub aj F EX [] .nil:=⟨zjG⟩
theorem aF(h1:JS X cA sub aj F EX st m)(h2:JB X cA sub aj F EX sts ms):JB X cA sub aj F EX (st::sts) (.cons m ms):=⟨zhT h1.o h2.o⟩
theorem Ab(ha:JE X cA sub aj (F aj) EX a A)(hs:swapsWith a none pos.line X.env=pure false:=by rfl):JS X cA sub aj F EX (.Expr a pos) (.ex A):=⟨zne ha.o hs⟩
theorem bL(ha:JE X cA sub aj (F aj) EX a A):JS X cA sub aj F EX (.Return (some a) pos) (.ret A):=⟨zk9 ha.o⟩
theorem eY(i:Nat)(hN:X.N.Nodup)(hi:X.N[i]?=some x)(hx:JK X x k)(hl:nj k=true)(ha:JE X cA sub aj (F aj) EX a A)(hs:swapsWith a (some (.Name x p)) pos.line X.env=pure false:=by rfl)(hf:X.fn x=true\/k=.local:=by first|exact .inl rfl|exact .inr rfl):JS X cA sub aj F EX (.Assign [.Name x p] a pos) (.asg (.nm i) A):=
 ⟨zk3 hN hi (z_ hx hl) ha.o hs (Aa hx hf)⟩
theorem Jw{elt iter tg:Expr}{ifs:List Expr}{scope:Scope}{cond:Eo}{dG:List Nat}{g:TG}{w:Wk}{fz:Bool}{py spos:Pos}(i:Nat)(sc:Scope)(XN M0 N:List Str)(fr:List Nat)(hN:X.N.Nodup)(hi':X.N[i]?=some y)(hx:JK X y k)(hl:nj k=true)(hc:X.aj=true)(hsc:X.env.scope=sc)(wz:X.N=XN)(hB:tO sc scope=true)(hf:frB scope XN N fr=true)(hT:mq X.K cA g dG)(hin:dG.all (λi=>decide (i<M0.length))=true)
  (hi:JI X cA sub aj (F aj) EX tg iter w) (hg:∀cl C s3 H3 fp ak,JY (X.blk scope cl (M0++N) C s3 H3 fp ak) tg g)
  (ht:∀cl C s3 H3 fp ak,JC (X.blk scope cl (M0++N) C s3 H3 fp ak) cA sub aj (F aj) (λ_ _ _ _=>False) ifs cond) (he:∀cl C s3 H3 fp ak,JE (X.blk scope cl (M0++N) C s3 H3 fp ak) cA sub aj (F aj) (λ_ _ _ _=>False) elt B)
  (hsw:swapsWith (.ListComp elt [⟨tg,iter,ifs,0⟩] scope pos) (some (.Name y py)) spos.line X.env=pure true:=by rfl) (hff:X.fn y=true\/k=.local:=by first|exact .inl rfl|exact .inr rfl) (hs:∀x,foldedSetIterable iter X.env x=pure x:=by intro _;rfl) :
  JS X cA sub aj F EX (.Assign [.Name y py] (.ListComp elt [⟨tg,iter,ifs,0⟩] scope pos) spos) (.asg (.nm i) (.comp fz B dG w fr M0.length cond)):=
 ⟨zju hc hN hi' (z_ hx hl) (Aa hx hff) (dI.of (hsc▸hB)) hi.o (Cj (wz▸hf)).1 (Cj (wz▸hf)).2 (λa b c d e f=>(hg a b c d e f).o) hT (λi hi=>gj (gb.mp hin i hi)) (λa b c d e f=>(ht a b c d e f).o) (λa b c d e f=>(he a b c d e f).o) hsw hs⟩
theorem yg(i j:Nat){k0}(hc:X.aj=true)(bU:aj=true)(hN:X.N.Nodup)(hi:X.N[i]?=some x)(hj:X.N[j]?=some y)(hx:JK X x k)(hy:JK X y k')(hlx:nj k=true)(Oo:nj k'=true)(ha:JE X cA sub aj (F aj) EX a A)
  (hfx:X.fn x=true\/k=.local:=by first|exact .inl rfl|exact .inr rfl) (wu:X.fn y=true\/k'=.local:=by first|exact .inl rfl|exact .inr rfl)
  (hs:swapsWithSole [.Tuple [.Name x px,.Name y py] k0 pt] a pos.line X.env=pure false:=by rfl) (hw:swappedStores [.Tuple [.Name x px,.Name y py] k0 pt] a X.env=pure none:=by rfl) (h1:(assignEach [.Tuple [.Name x px,.Name y py] k0 pt] X.env).map (·.2)=[assign (.Tuple [.Name x px,.Name y py] k0 pt) X.env]:=by rfl) :
  JS X cA sub aj F EX (.Assign [.Tuple [.Name x px,.Name y py] k0 pt] a pos) (.asg (.tp [i,j]) A):=⟨zj8 hc bU hN hi hj (z_ hx hlx) (z_ hy Oo) (Aa hx hfx) (Aa hy wu) ha.o hs hw h1⟩
theorem Jx(hO:JE X cA sub aj (F aj) EX oo O)(hI:JE X cA sub aj (F aj) EX ii I')(ha:JE X cA sub aj (F aj) EX a A)
  (hat:∀v,assign (.Subscript oo ii p) X.env v=(do
   let obj <-holding [v] (eval oo X.env)
   let at_ <-holding [v,obj] (eval ii X.env)
   standAt p
   holding [v,obj,at_] (setItem obj at_ v)
   release [v,obj,at_] []):=by intro _;rfl) (hs:swapsWithSole [.Subscript oo ii p] a pos.line X.env=pure false:=by rfl) (hw:swappedStores [.Subscript oo ii p] a X.env=pure none:=by rfl)
  (h1:(assignEach [.Subscript oo ii p] X.env).map (·.2)=[assign (.Subscript oo ii p) X.env]:=by rfl):JS X cA sub aj F EX (.Assign [.Subscript oo ii p] a pos) (.asg (.sub O I') A):=⟨zlB hO.o hI.o ha.o hat hs hw h1⟩
theorem znt(i j:Nat){kt k2 rZ}(hc:X.aj=true)(bU:aj=true)(hN:X.N.Nodup)(hi:X.N[i]?=some x)(hj:X.N[j]?=some y)(hij:i≠j)(hx:JK X x .local)(hy:JK X y .local)
  (ha:JE X cA sub aj (F aj) EX a A) (hb:JE X cA sub aj (F aj) EX b B) (hw:swappedStores [.Tuple [.Name x px,.Name y py] kt pt] (.Tuple [a,b] k2 rZ) X.env=pure (some [x,y])) (h1:aD a=true:=by rfl) (h2:aD b=true:=by rfl)
  (hs:swapsWithSole [.Tuple [.Name x px,.Name y py] kt pt] (.Tuple [a,b] k2 rZ) pos.line X.env=pure false:=by rfl):JS X cA sub aj F EX (.Assign [.Tuple [.Name x px,.Name y py] kt pt] (.Tuple [a,b] k2 rZ) pos) (.par i j A B):=
 ⟨zku hc bU hN hi hj hij hx.o hy.o ha.o hb.o (aX h1) (aX h2) hw hs⟩
theorem dX(hc:JT X cA sub aj (F aj) EX c C)(ht:JB X cA sub aj F EX body mb)(he:JB X cA sub aj F EX orelse me):JS X cA sub aj F EX (.If c body orelse pos) (.iff C mb me):=⟨znC hc.o ht.o he.o⟩
theorem zjK(hp:JH X)(hc:JT X cA sub aj (F aj) EX c C)(hb:JB X cA sub aj F EX body mb):JS X cA sub aj F EX (.While c body [] pos) (.wh C mb):=⟨zig hp.o hc.o hb.o⟩
theorem Cm(i:Nat)(hN:X.N.Nodup)(hi:X.N[i]?=some x)(hx:JK X x k)(hl:nj k=true)(hf:X.fn x=true\/k=.local:=by first|exact .inl rfl|exact .inr rfl):JG X cA sub aj F EX (.Name x pos) (.nm i):=⟨zj1 hN hi (z_ hx hl) (Aa hx hf)⟩
theorem VH(i j:Nat){k0}(hc:X.aj=true)(bU:aj=true)(hN:X.N.Nodup)(hi:X.N[i]?=some x)(hj:X.N[j]?=some y)(hx:JK X x k)(hy:JK X y k')(hlx:nj k=true)(Oo:nj k'=true)(hfx:X.fn x=true\/k=.local:=by first|exact .inl rfl|exact .inr rfl)(wu:X.fn y=true\/k'=.local:=by first|exact .inl rfl|exact .inr rfl) :
  JG X cA sub aj F EX (.Tuple [.Name x px,.Name y py] k0 pos) (.tp [i,j]):=⟨zjR hc bU hN hi hj (z_ hx hlx) (z_ hy Oo) (Aa hx hfx) (Aa hy wu)⟩
theorem yh(hp:JH X)(hc:X.aj=true)(bU:aj=true)(ha:JI X cA sub aj (F aj) EX tg a w)(hg:JG X cA sub aj F EX tg t)(hb:JB X cA sub aj F EX body mb)(hs:∀x,foldedSetIterable a X.env x=pure x:=by intro _;rfl):JS X cA sub aj F EX (.For tg a body [] pos) (.fr t w mb):=
 ⟨zlo hp.o hc bU ha.o hg.o hb.o hs⟩
theorem VJ{cc:Nat}{apos:Pos}(hf:cA.f cc=[])(hc:X.aj=true)(bU:aj=true)(hX:PySem.W.excIn X.K (cA.a cc) [.type "ValueError",.type "Exception",.type "BaseException",.type "object"] "ValueError.__new__"=true)(hm:X.mg x=some (.ref (cA.a cc)))(hg:JK X x .globalImplicit)
  (R:JR X EX) (ha:JA X cA sub aj (F aj) EX (e::es) Xs) (hd:okN x=true) (hz:decide (Es.len Xs<=sizeLine)=true:=by rfl) (he:aD e=true:=by rfl) (hpl:es.all aD=true:=by rfl) :
  JS X cA sub aj F EX (.Raise (some (.Call (.Name x p) (e::es) [] apos)) none pos) (.rise cc false Xs):=⟨zhi hf CP (by decide +kernel) CP hc bU hX hg.o hm R.o ha.o (gj hz) (qZ hd).1 (aX he) (aU hpl)⟩
theorem zm9(i:Nat)(bU:aj=true)(hex:X.ex=[])(hst:X.stack=X.env::X.outer/\X.env.frame=some X.env.locals)(hg:JK X x .globalImplicit)(hm:X.mg x=some (.ref (cA.a dc)))(hN:X.N.Nodup)(hi:X.N[i]?=some n)(hl:JK X n .local)
  (hsub:∀c,sub c dc=true->subIn X.K (cA.a c) (cA.a dc)=true)
  (hb:∀(pn:List (Addr×Obj)) (E':Value->Shared->Prop) (qX:XS),JR (X.seen X.A X.aj pn E') qX->JH (X.seen X.A X.aj pn E')->JB (X.seen X.A X.aj pn E') cA sub aj F qX body mb)
  (hh:∀e:Value,JB (X.seen (X.A.mark (some e)) false X.pn (λ_ _=>False)) cA sub false F (λ_ _ _ _=>False) (b₀::suite) mh) (hd:okN x=true) :
  JS X cA sub aj F EX (.Try body [.ExceptHandler (some (.Name x np)) (some n) (b₀::suite) hpos] [] [] pos) (.qD mb dc i mh):=
 ⟨zmH bU hex hst hg.o hm hN hi hl.o hsub (λpn E' qX R H=>(hb pn E' qX ⟨R⟩ ⟨H⟩).o) (λe=>(hh e).o) (qZ hd).1⟩
end
theorem zlc{P:Program}{w:World}{K:PySem.W.Frag}{mg:Str->Option Value}{base:Heap}{cA:Cl}{sub:Nat->Nat->Bool}{T:Nat->Option Df}{x qual:Str}{st:Stmt}{f:Addr}{fd:FuncData}{N ps:List Str}{k n:Nat}{cm:Bool}{df:Df}(F:uO K x qual st f fd)(S:h_ N ps (aq st))(hT:T n=some df)(hp:df.iY=ps.length)(hm:df.many=N.length)
  (hb:∀(cdv:Value) (A:Around) (outer:List Env) (s:Shared) (H:Hp) (E:XK),b_ k (A.deeper (envOfC qual (aq st) s.heap.objs.size f cdv))->
   JB (ju (lU P w) P w K mg base N qual (aq st) f cdv A outer s H E cm) cA sub cm (λc=>call sub T k c) (λ_ C dx H'=>E C dx H') (aK st) df.body) :
  fM P w K mg base (lU P w) cm (k+1) f fd ps (uN K cA (call sub T (k+1) cm n)):=zlA F S hT hp hm λcdv A outer s H E hr=>(hb cdv A outer s H E hr).o
end Mi
namespace Mi
open PySem PySem.Spec PyProof.Rows L2 PySem.W
theorem zkM{fd:FuncData}{x:Str}{st:Stmt}(h:qU fd=uH x st):fd=fnOf x x (aO st) (aK st) (aq st) .none fd.kwdefaults fd.doc fd.pyModule fd.annotations fd.code fd.closureTuple:=by
 cases fd;unfold qU uH at h;cases h;rfl
noncomputable def jz(K:Frag)(x:Str):Addr:=match yO K x with
 |some p=>p.1
 |none=>0
noncomputable def fdOf(K:Frag)(x:Str)(st:Stmt):FuncData:=match yO K x with
 |some p=>p.2
 |none=>uH x st
structure FnAt(K:Frag)(x:Str)(st:Stmt):Prop where
 ns:nsIn K mainGlobals x=some (some (.ref (jz K x)))
 fn:uO K x x st (jz K x) (fdOf K x st)
theorem znk{K:Frag}{x:Str}{st:Stmt}(h:(yO K x).map (λp=>qU p.2)=some (uH x st)):FnAt K x st:=by
 cases e:yO K x with
 |none=>rw[e] at h;cases h
 |some p=>
  rw[e] at h;have hp:qU p.2=uH x st:=dw h;have h1:jz K x=p.1:=by unfold jz;rw[e]
  have h2:fdOf K x st=p.2:=by unfold fdOf;rw[e]
  unfold yO at e;split at e
  ·rename_i f hf;split at e
   ·rename_i oc od fd sl hl;split at e
    ·rename_i hc;cases e;rw[cI] at hc;refine⟨by rw[h1];exact hf,?_⟩;rw[h1,h2];exact⟨⟨oc,od,_,_,_,_,_,_,sl,zkM hp,hl,hc.1⟩,hc.2⟩
    ·cases e
   ·cases e
  ·cases e
theorem FnAt.m{K:Frag}{x:Str}{st:Stmt}(F:FnAt K x st){h:Heap}{mg:Str->Option Value}(X:K.In h)(G:h.Ns mainGlobals mg):mg x=some (.ref (jz K x)):=mg_of X G F.ns
theorem rC{K:Frag}{x:Str}(h:vm K x=true){hp:Heap}{mg:Str->Option Value}(X:K.In hp)(G:hp.Ns mainGlobals mg):mg x=some (.ref (yP K x)):=by
 refine mg_of X G ?_;unfold vm at h;unfold yP;split at h
 ·rename_i C e;rw[e]
 ·cases h
theorem VL{K:Frag}{x:Str}{i:Int}(h:lK K (x,i)=true){hp:Heap}{mg:Str->Option Value}(X:K.In hp)(G:hp.Ns mainGlobals mg):∃t,mg x=some (.int i t):=by
 unfold lK at h;split at h
 ·rename_i j t e;rw[Bk] at h;subst h;exact⟨t,mg_of X G e⟩
 ·cases h
theorem nA{K:Frag}{x:Str}(h:pG K x=true){hp:Heap}{mg:Str->Option Value}(X:K.In hp)(G:hp.Ns mainGlobals mg):mg x=none:=by
 refine mg_none_of X G ?_;unfold pG at h;split at h
 ·rename_i e;exact e
 ·cases h
structure yj(l:Lk)(K:Frag):Prop where
 cl:∀x∈l.Ds,vm K x=true
 cs:l.Ds.isEmpty=true\/pF K (l.L K)=true
 ra:∀k∈l.RX,Dr K (dR (l.L K) k)=true
 ca:∀k∈l.RZ,subB K (l.L K) k=true
 it:∀p∈l.xr,lK K p=true
 no:∀x∈l.RW,pG K x=true
theorem Kab{l:Lk}{K:Frag}(h:l.good K=true):yj l K:=by
 unfold Lk.good at h;simp only[cI,Bool.or_eq_true,gb] at h;obtain⟨⟨⟨⟨⟨h1,h2⟩,h3⟩,h4⟩,h5⟩,h6⟩:=h;exact⟨h1,h2,h3,h4,h5,h6⟩
theorem wD{K:Frag}{x:Str}{st:Stmt}{f:Addr}{fd:FuncData}{p:Str}(F:uO K x x st f fd)(h:∀(kV doc pm:Value) (an:Option Addr) (cdv ct a:Value),bindArgs (fnOf x x (aO st) (aK st) (aq st) .none kV doc pm an cdv ct) ⟨[a],[]⟩=pure [(p,a)]):Binds K fd [p] []:=by
 obtain⟨oc,od,kV,doc,pm,an,cdv,ct,osl,rfl,lk,hcd⟩:=F.ex;exact zT (h kV doc pm an cdv ct)
theorem wF{K:Frag}{x:Str}{st:Stmt}{f:Addr}{fd:FuncData}{p q:Str}(F:uO K x x st f fd)(h:∀(kV doc pm:Value) (an:Option Addr) (cdv ct a b:Value),bindArgs (fnOf x x (aO st) (aK st) (aq st) .none kV doc pm an cdv ct) ⟨[a,b],[]⟩=pure [(p,a),(q,b)]):Binds K fd [p,q] []:=by
 obtain⟨oc,od,kV,doc,pm,an,cdv,ct,osl,rfl,lk,hcd⟩:=F.ex;exact zU (h kV doc pm an cdv ct)
theorem wG{K:Frag}{x:Str}{st:Stmt}{f:Addr}{fd:FuncData}{p q t:Str}(F:uO K x x st f fd)(h:∀(kV doc pm:Value) (an:Option Addr) (cdv ct a b c:Value),bindArgs (fnOf x x (aO st) (aK st) (aq st) .none kV doc pm an cdv ct) ⟨[a,b,c],[]⟩=pure [(p,a),(q,b),(t,c)]):Binds K fd [p,q,t] []:=by
 obtain⟨oc,od,kV,doc,pm,an,cdv,ct,osl,rfl,lk,hcd⟩:=F.ex;exact zV (h kV doc pm an cdv ct)
theorem wH{K:Frag}{x:Str}{st:Stmt}{f:Addr}{fd:FuncData}{p q t u:Str}(F:uO K x x st f fd)(h:∀(kV doc pm:Value) (an:Option Addr) (cdv ct a b c d:Value),bindArgs (fnOf x x (aO st) (aK st) (aq st) .none kV doc pm an cdv ct) ⟨[a,b,c,d],[]⟩=pure [(p,a),(q,b),(t,c),(u,d)]):Binds K fd [p,q,t,u] []:=by
 obtain⟨oc,od,kV,doc,pm,an,cdv,ct,osl,rfl,lk,hcd⟩:=F.ex;exact zW (h kV doc pm an cdv ct)
theorem Ac{K:Frag}{x:Str}{st:Stmt}{f:Addr}{fd:FuncData}{p:Str}(F:uO K x x st f fd)(h:∀(kV doc pm:Value) (an:Option Addr) (cdv ct a:Value),bindArgs (fnOf x x (aO st) (aK st) (aq st) .none kV doc pm an cdv ct) ⟨[a],[]⟩=pure [(p,a)]):∀(s:Shared) (u:Value),BindsTo s fd ⟨[u],[]⟩ [(p,u)]:=by
 obtain⟨oc,od,kV,doc,pm,an,cdv,ct,osl,rfl,lk,hcd⟩:=F.ex;exact λs u=>.of_eq (h kV doc pm an cdv ct u)
end Mi
namespace Mi
open PySem PySem.Spec PyProof.Rows L2
section
variable {K:PySem.W.Frag}{cA:Cl}{φ φ' φ'':Ph}{H H' Ny:Hp}{s:S}
end
section
variable {X:Cx}{cA:Cl}{sub:Nat->Nat->Bool}{aj:Bool}{F:Fn}{EX:XS}{elt iter tg iter₂ tg₂:Expr}{A B:E}{pos p:Pos}{ifs:List Expr}{scope:Scope}{N:List Str}{cond:Eo}{fr dG dG₂:List Nat}{many:Nat}{fz:Bool}{w w₂:Wk}
end
section
variable {X:Cx}{cA:Cl}{sub:Nat->Nat->Bool}{aj:Bool}{F:Bool->Fn}{EX:XS}{elt iter tg iter₂ tg₂:Expr}{A B:E}{pos p:Pos}{ifs:List Expr}{scope:Scope}{N:List Str}{cond:Eo}{fr dG dG₂:List Nat}{many:Nat}{fz:Bool}{w w₂:Wk}{i:Nat}{y:Str}
end
section
variable {X:Cx}{cA:Cl}{sub:Nat->Nat->Bool}{aj:Bool}{F:Fn}{EX:XS}{elt iter tg iter₂ tg₂:Expr}{A B:E}{pos p:Pos}{ifs:List Expr}{scope:Scope}{N:List Str}{cond:Eo}{fr dG dG₂:List Nat}{many:Nat}{fz:Bool}{w w₂:Wk}{i:Nat}{y:Str}
end
section
variable {K:PySem.W.Frag}{cA:Cl}{φ:Ph}{H:Hp}
theorem aC.Ad(r:aC K cA φ H xs ys):∀l:List Nat,aC K cA φ H (l.map λi=>xs.getD i .non) (l.map λi=>ys.getD i .non)
 |[]=>.nil
 |i::l=>by
  refine .cons ?_ (aC.Ad r l);show Rep K cA φ H (xs.getD i .non) (ys.getD i .non);cases e:xs[i]? with
  |some x=>
   obtain⟨u,e1,e2⟩:=r.get e;rw[kj,kj,e,e1];exact e2
  |none=>
   have e1:ys[i]?=Option.none:=r.none e;rw[kj,kj,e,e1];exact .non
theorem aC.mem(r:aC K cA φ H xs ys):∀v∈ys,∃d∈xs,Rep K cA φ H d v:=by
 intro v hv;obtain⟨i,hi,e⟩:=Bc hv;have e':ys[i]?=some v:=by rw[fD hi,e]
 cases ex:xs[i]? with
 |none=>rw[r.none ex] at e';cases e'
 |some d=>
  obtain⟨u,e1,e2⟩:=r.get ex;rw[e1] at e';cases e';exact⟨d,gU ex,e2⟩
theorem VN:∀{us ws:List D} {xs ys:List V},aC K cA φ H us xs->aC K cA φ H ws ys->∀{b:Bool},mZ us ws=some b->jw xs ys=some b
 |[],ws,_,ys,r1,r2,b,h=>by
  cases r1;unfold mZ at h;unfold jw;rw[<-r2.len];exact h
 |_::_,[],_,_,r1,r2,b,h=>by
  cases r2;cases r1;unfold mZ at h;unfold jw;exact h
 |x::us,y::ws,_,_,r1,r2,b,h=>by
  cases r1 with
  |cons a1 b1=>
   cases r2 with
   |cons a2 b2=>
    unfold mZ at h;split at h
    ·rename_i z;cases z
    ·rename_i z;cases z
    ·rename_i p ps q qs e1 e2;cases e1;cases e2;cases a1;cases a2;unfold jw;by_cases e:p=q
     ·rw[if_pos e] at h ⊢;exact VN b1 b2 h
     ·rw[if_neg e] at h ⊢;exact h
    ·cases h
theorem zhQ(r:aC K cA φ H xs ys)(h:(xs.all lX||xs.all iV)=true):sS K H ys (xQ xs):=by
 rw[Bool.or_eq_true] at h;rcases h with h|h
 ·left
  rw[gb] at h;refine⟨λv hv=>?_,λi j b e=>?_⟩
  ·obtain⟨d,hd,q⟩:=r.mem v hv;have:=h d hd;cases q<;>first|exact⟨_,rfl⟩|cases this
  ·unfold xQ at e;cases e1:xs[i]? with
   |none=>rw[e1] at e;cases e
   |some d1=>
    cases e2:xs[j]? with
    |none=>rw[e1,e2] at e;cases d1<;>cases e
    |some d2=>
     have h1:=h d1 (gU e1);have h2:=h d2 (gU e2);rw[e1,e2] at e;obtain⟨v1,a1,b1⟩:=r.get e1;obtain⟨v2,a2,b2⟩:=r.get e2;cases d1<;>first|cases h1|skip
     cases d2<;>first|cases h2|skip
     cases b1;cases b2;cases e;exact⟨_,_,a1,a2,rfl⟩
 ·right
  rw[gb] at h;refine⟨λv hv=>?_,λi j b e=>?_⟩
  ·obtain⟨d,hd,q⟩:=r.mem v hv;have:=h d hd;unfold iV at this;split at this
   ·cases q with
    |tup t r'=>
     cases r' with
     |cons a1 b1=>
      cases a1;exact⟨_,_,_,rfl,t.jx⟩
   ·cases this
  ·unfold xQ at e;cases e1:xs[i]? with
   |none=>rw[e1] at e;cases e
   |some d1=>
    cases e2:xs[j]? with
    |none=>rw[e1,e2] at e;cases d1<;>cases e
    |some d2=>
     have h1:=h d1 (gU e1);have h2:=h d2 (gU e2);rw[e1,e2] at e;obtain⟨v1,a1,b1⟩:=r.get e1;obtain⟨v2,a2,b2⟩:=r.get e2;unfold iV at h1 h2;split at h1
     ·split at h2
      ·cases b1 with
       |tup t1 r1=>
        cases b2 with
        |tup t2 r2=>exact⟨_,_,_,_,a1,a2,t1.jx,t2.jx,VN r1 r2 e⟩
      ·cases h2
     ·cases h1
theorem zgY:aR K cA .sorted (λxs H Q=>∃l ys lt p,xs=[.ref l]/\dj K H l ys/\ys.length<64/\(2<=ys.length->sS K H ys lt/\bD lt (PySem.W.kas_sort ys.length)=some p/\p.size=ys.length)/\∀r,H r=none->Q (.ref r) (upd H r (.lst (kZ ys p)))):=by
 intro φ H ds vs Q zt rs o;have o:aZ K cA φ H (lY ds) Q:=o;unfold lY at o;split at o
 ·rename_i xs _;obtain⟨v,rfl,r1⟩:=rs.one;obtain⟨z,e⟩:=o.some';obtain⟨zs,e1,e2⟩:=mQ.mp e;subst e2;obtain⟨a,us,rfl,sq,q⟩ : ∃a us,v=.ref a/\dj K H a us/\aC K cA φ H xs us:=r1;have hl:=q.len;unfold BP at e1;by_cases hk:(xs.all lX||xs.all iV)=true
  ·rw[if_pos hk] at e1;unfold pQ at e1;by_cases h2:xs.length<2
   ·rw[if_pos h2] at e1;cases e1;refine⟨a,us,λ_ _=>none,#[],rfl,sq,by lia,λz=>absurd z (by lia),λr hr=>?_⟩;have:kZ us #[]=us:=by unfold kZ;rw[if_pos (by lia)]
    rw[this];exact(o.of e) r us hr q
   ·rw[if_neg h2] at e1;by_cases h64:xs.length<64
    ·rw[if_pos h64] at e1;cases ek:bD (xQ xs) (PySem.W.kas_sort xs.length) with
     |none=>rw[ek] at e1;cases e1
     |some p=>
      rw[ek] at e1;dsimp only at e1;by_cases hp:p.size=xs.length
      ·rw[if_pos hp] at e1;cases e1;refine⟨a,us,xQ xs,p,rfl,sq,by lia,λ_=>⟨zhQ q hk,by rw[<-hl];exact ek,by lia⟩,λr hr=>?_⟩;have:kZ us p=p.toList.map λi=>us.getD i .non:=by unfold kZ;rw[if_neg (by lia)]
       rw[this];exact(o.of e) r _ hr (q.Ad p.toList)
      ·rw[if_neg hp] at e1;cases e1
    ·rw[if_neg h64] at e1;cases e1
  ·rw[if_neg hk] at e1;cases e1
 ·exact o.elim
end
section
variable {X:Cx}{cA:Cl}{sub:Nat->Nat->Bool}{aj:Bool}{F:Fn}{EX:XS}{e:Expr}{pos p:Pos}{es:List Expr}{Xs:Es}{fz:Bool}
theorem VP:bootBuiltins "sorted"=some (.builtin "sorted"):=by decide +kernel
theorem zhD(hm:X.mg "sorted"=none)(hg:JK X "sorted" .globalImplicit)(ha:JA X cA sub aj F EX (e::es) Xs)(he:aD e=true:=by rfl)(hpl:es.all aD=true:=by rfl):JE X cA sub aj F EX (.Call (.Name "sorted" p) (e::es) [] pos) (.pr fz .sorted Xs):=⟨zQ zdZ zgY hg.o hm VP ha.o (by decide) (by decide) (aX he) (aU hpl)⟩
end
section
variable {K:PySem.W.Frag}{cA:Cl}{φ:Ph}{H:Hp}
end
section
variable {X:Cx}{cA:Cl}{sub:Nat->Nat->Bool}{aj:Bool}{F:Fn}{EX:XS}{a b:Expr}{A B:E}{pos pp tpos:Pos}{elts:List Expr}{kk:Nat}
end
section
variable {X:Cx}{cA:Cl}{sub:Nat->Nat->Bool}{aj:Bool}{F:Bool->Fn}{EX:XS}{e:Expr}{es:List Expr}{Xs:Es}{pos p:Pos}{x:Str}
theorem zfS{k cc:Nat}{ar:Arguments}{bd:List Stmt}{sc:Scope}{apos:Pos}(hr:b_ k X.A)(hc:X.aj=true)(bU:aj=true)(IO:jU X.K (cA.a cc) ar bd sc (cA.f cc))(hl:Es.len Xs=(cA.f cc).length)(hg:Gl X x)(hm:X.mg x=some (.ref (cA.a cc)))
  (R:Raises X EX) (ha:SA X cA sub aj (F aj) EX (e::es) Xs) (hz:Es.len Xs<=sizeLine) (hdb:(x==("__debug__" : Str))=false:=by decide) (he:starEach (e::es) X.env=(false,eval e X.env)::starEach es X.env:=by rfl) (hpl:(backTo apos (starEach es X.env)).any (·.1)=false:=by rfl) :
  SS X cA sub aj F EX (.Raise (some (.Call (.Name x p) (e::es) [] apos)) none pos) (.rise cc true Xs):=PS.weak (zgQ hr hc IO hg hm R ha hdb he hpl) λD σ H hh=>un hh λφ τ s hL hS h=>by
 have h:aN X.K cA (if aj=true then ofM (M.bd (evs sub aj (F aj) Xs τ) dF) τ (λds s=>some (.er cc (if true=true then ds else []) τ,s)) else λ_=>none) φ H s D EX:=h;rw[if_pos bU] at h;refine v9 hL hS (aN.ofM hL hS.lz h) λvs H1 φ1 xs s1 hl1 x1 hL1 hS1 rv h1=>?_;have h1:Run X.K cA (M.bd (dF xs) M.ret) φ1 H1 s1 (λa s1 φ1 H1=>Ext φ H φ1 H1/\aG X.K cA φ1 H1 s1/\aN X.K cA (λs=>some (.er cc (if true=true then a else []) τ,s)) φ1 H1 s1 D EX) (eX X.K cA EX σ):=by
  unfold Run at h1 ⊢;unfold M.bd;cases e1:dF xs s1 with
  |none=>rw[e1] at h1;exact h1
  |some r=>
   obtain⟨r,s2⟩:=r;rw[e1] at h1;cases r with
   |er c f=>exact h1
   |ok ds=>exact h1
 obtain⟨ds,e1,rs,h2⟩:=Jl rv h1;obtain⟨_,_,h3⟩:=h2.bC hS1;have hvl:vs.length=(cA.f cc).length:=by rw[<-rv.len,hl1];exact hl
 refine⟨hvl,by rw[<-rv.len,hl1];exact hz,λd hd=>?_⟩;have g:bG H1 (upd H1 d (.xd ((cA.f cc).zip vs))):=bG.new hd;exact h3 φ1 _ σ g.ext (hS1.grow g) (hL1.mono g.ext hS1.lz) (some d) (.inr ⟨d,vs,rfl,hS1.nz hd,kY,hvl.symm,rs.mono g.ext hS1.lz⟩)
theorem zhS{k cc:Nat}{kk:NameKind}{ar:Arguments}{bd:List Stmt}{sc:Scope}{apos:Pos}(hr:b_ k X.A)(hc:X.aj=true)(bU:aj=true)(IO:jU X.K (cA.a cc) ar bd sc (cA.f cc))(hm:X.mg x=some (.ref (cA.a cc)))(hg:JK X x .globalImplicit)
  (R:JR X EX) (ha:JA X cA sub aj (F aj) EX (e::es) Xs) (hd:okN x=true) (hl:decide (Es.len Xs=(cA.f cc).length)=true:=by rfl) (hz:decide (Es.len Xs<=sizeLine)=true:=by rfl) (he:aD e=true:=by rfl) (hpl:es.all aD=true:=by rfl) :
  JS X cA sub aj F EX (.Raise (some (.Call (.Name x p) (e::es) [] apos)) none pos) (.rise cc true Xs):=⟨zfS hr hc bU IO (gj hl) hg.o hm R.o ha.o (gj hz) (qZ hd).1 (aX he) (aU hpl)⟩
end
section
variable {X:Cx}{cA:Cl}{sub:Nat->Nat->Bool}{aj:Bool}{F:Fn}{EX:XS}{a b:Expr}{A B:E}{pos p tpos:Pos}{elts:List Expr}{kk:Nat}
end
end Mi
namespace Mi
open PySem PySem.Spec PyProof.Rows L2 PySem.W
theorem zi7{fd:FuncData}{q:Str}{st:Stmt}(h:qU fd=yQ q st):fd=fnOf "__init__" q (aO st) (aK st) (aq st) .none fd.kwdefaults fd.doc fd.pyModule fd.annotations fd.code fd.closureTuple:=by
 cases fd;unfold qU yQ at h;cases h;rfl
structure Ae(K:Frag)(C:Addr)(q:Str)(st:Stmt):Prop where
 ex:∃(fI:Addr) (od:Option Addr) (kV doc pm:Value) (an:Option Addr) (cdv ct:Value) (osl:Array (Option Value)) (cd:ClassData),
  K.lookup fI=some ⟨.type "function",od,.func (fnOf "__init__" q (aO st) (aK st) (aq st) .none kV doc pm an cdv ct),osl⟩/\codeIn K cdv q=true/\jL K C fI=true/\clsIn K C=some cd/\bf cd.mro=true/\cd.hasDict=true
theorem znc{K:Frag}{C:Addr}{q:Str}{st:Stmt}(h:(Dt K C).map qU=some (yQ q st)):Ae K C q st:=by
 cases e:Dt K C with
 |none=>rw[e] at h;cases h
 |some fd=>
  rw[e] at h;have hp:qU fd=yQ q st:=dw h;unfold Dt at e;split at e
  ·rename_i cd hcd;split at e
   ·rename_i f hf;split at e
    ·rename_i od fd' sl hl;split at e
     ·rename_i hc;cases e;simp only[cI] at hc;obtain⟨⟨⟨c1,c2⟩,c3⟩,c4⟩:=hc;have eq:=zi7 hp;have qn:fd.qualname=q:=by rw[eq]
      refine⟨⟨f,od,fd.kwdefaults,fd.doc,fd.pyModule,fd.annotations,fd.code,fd.closureTuple,sl,cd,?_,by rw[<-qn];exact c1,c2,hcd,c3,c4⟩⟩;rw[<-eq];exact hl
     ·cases e
    ·cases e
   ·cases e
  ·cases e
structure t_(q:Str)(st:Stmt)(fs:List Str):Prop where
 bind:∀(kV doc pm:Value) (an:Option Addr) (cdv ct:Value) (us:List Value),us.length=fs.length+1->bindArgs (fnOf "__init__" q (aO st) (aK st) (aq st) .none kV doc pm an cdv ct) ⟨us,[]⟩=pure (((("self" : Str))::fs).zip us)
 nd:(("self" : Str)::fs).Nodup
 ne:fs≠[]
 few:fs.length<=900
 body:iy "self" (aK st) fs=true
 oF:∀x∈(aq st).names,x.2≠.cell
 loc:∀f∈(("self" : Str)::fs),(aq st).names.lookup f=some .local/\(f==("__debug__" : Str))=false
 co:(aq st).isCoroutine=false
 gen:(aq st).isGenerator=false
 kind:(aq st).kind=.function
noncomputable def VR(sc:Scope)(fs:List Str):Bool:=sc.names.all (λx=>match x.2 with|.cell=>false|_=>true)&&(("self" : Str)::fs).all (λf=>(match sc.names.lookup f with|some .local=>true|_=>false) && !(f==("__debug__" : Str)))
theorem t_.of{q:Str}{st:Stmt}{fs:List Str}(bind:∀(kV doc pm:Value) (an:Option Addr) (cdv ct:Value) (us:List Value),us.length=fs.length+1->bindArgs (fnOf "__init__" q (aO st) (aK st) (aq st) .none kV doc pm an cdv ct) ⟨us,[]⟩=pure (((("self" : Str))::fs).zip us))(nd:(("self" : Str)::fs).Nodup)(ne:fs≠[])(few:fs.length<=900)(body:iy "self" (aK st) fs=true)
  (sc:VR (aq st) fs=true) (co:(aq st).isCoroutine=false) (gen:(aq st).isGenerator=false) (kind:(aq st).kind=.function):t_ q st fs:=by
 unfold VR at sc;rw[cI,gb,gb] at sc;refine⟨bind,nd,ne,few,body,λx hx z=>?_,λf hf=>?_,co,gen,kind⟩
 ·have:=sc.1 x hx;rw[z] at this;cases this
 ·have:=sc.2 f hf;rw[cI,Ia] at this;refine⟨?_,this.2⟩;have h1:=this.1;split at h1
  ·assumption
  ·cases h1
theorem ziU{K:Frag}{C:Addr}{q:Str}{st:Stmt}{fs:List Str}(a:Ae K C q st)(t:t_ q st fs)(s:setB K C fs=true):jU K C (aO st) (aK st) (aq st) fs:=by
 obtain⟨fI,od,kV,doc,pm,an,cdv,ct,osl,cd,h1,h2,h3,h4,h5,h6⟩:=a.ex;unfold setB at s;rw[cI,jf,gb] at s;exact⟨⟨fI,od,kV,doc,pm,an,cdv,ct,osl,q,cd,h1,h2,h3,h4,h5,h6,λus hl=>t.bind kV doc pm an cdv ct us hl⟩,s.1,t.nd,t.ne,t.few,t.body,t.oF,t.loc,λf hf=>jf.mp (s.2 f hf),t.co,t.gen,t.kind⟩
theorem zm2{K:Frag}{C:Addr}{f:Str}(h:Iw K C f=true):XF K C f:=by
 unfold Iw at h;simp only[cI,jf] at h;obtain⟨⟨⟨⟨h1,h2⟩,h3⟩,h4⟩,h5⟩:=h;exact⟨h1,h2,h3,h4,h5⟩
structure iD(fs:List (Str×Stmt))(ms:List vp)(xs:List (Nat×Str))(l:Lk)(K:Frag):Prop where
 fn:∀p∈fs,FnAt K p.1 p.2
 gd:yj l K
 mi:∀m∈ms,Ae K (dR (l.L K) m.c) m.q m.st
 se:∀m∈ms,setB K (dR (l.L K) m.c) m.fs=true
 xf:∀x∈xs,XF K (dR (l.L K) x.1) x.2
theorem Oq{a:Nat}{o:Obj}:∀{l:List Obj} {i:Nat},((a:Addr),o)∈Du i l->i<=a/\l[a-i]?=some o/\o.isFreed=false
 |[],i,h=>by cases h
 |p::r,i,h=>by
  unfold Du at h;split at h
  ·obtain⟨h1,h2,h3⟩:=Oq h;refine⟨by lia,?_,h3⟩;rw[show a-i=(a-(i+1))+1 by lia];exact h2
  ·rename_i hf;rcases cM.mp h with e|h
   ·cases e;exact⟨cg _,by simp,hf⟩
   ·obtain⟨h1,h2,h3⟩:=Oq h;refine⟨by lia,?_,h3⟩;rw[show a-i=(a-(i+1))+1 by lia];exact h2
theorem V0:∀{K:Frag},K.lookup a=some o->(a,o)∈K
 |[],h=>by cases h
 |(b,p)::r,h=>by
  rw[mJ] at h;by_cases e:a=b
  ·subst e;simp only[wW] at h;cases h;exact eZ
  ·rw[show (a==b)=false by simpa using e] at h;exact eN _ (V0 h)
theorem zh5:(cB h).In h:=λa o e=>by
 have hm:=V0 e;unfold cB at hm;rcases fG.mp hm with z|z
 ·unfold pH at z;split at z
  ·rename_i p hp;rcases cM.mp z with e|z
   ·cases e;exact hp
   ·cases z
  ·cases z
 ·obtain⟨_,h2,h3⟩:=Oq (List.mem_reverse.mp z);rw[Heap.get?_some_iff];refine⟨?_,h3⟩;have:h.objs.toList[a]?=some o:=by simpa using h2
  simpa using this
noncomputable def lF(fs:List (Str×Stmt))(ms:List vp)(xs:List (Nat×Str))(l:Lk):Hook where
 α:=List (Option FuncData)×List (Option FuncData)×Bool
 obs:=qw fs ms xs l
 val:=rN fs ms
 says:=λ_ h=>∃K:Frag,K.In h/\iD fs ms xs l K
 of:=λw s e=>by
  have e3:(_&&_&&_)=true:=qp (λx=>x.2.2) e;rw[cI,cI,gb,gb] at e3;refine⟨cB s.heap,zh5,⟨λp hp=>?_,Kab e3.1.1,λm hm=>?_,e3.1.2,λx hx=>zm2 (e3.2 x hx)⟩⟩
  ·have e1:=qp Prod.fst e;exact znk (List.map_inj_left.mp e1 p hp)
  ·have e1:=qp (λx=>x.2.1) e;exact znc (List.map_inj_left.mp e1 m hm)
 keeps:=λw h h' ⟨K,X,Y⟩ k=>⟨K,X.keeps k,Y⟩
theorem GD{l:OpenLaw}{k:Nat}{q:Program}{loose:List Str}{XP:(Str->Option Value)->Heap->Prop}{fs:List (Str×Stmt)}{ms:List vp}{xs:List (Nat×Str)}{lk:Lk}{d:DefRec}{x:Str}(hn:l.most=some 63)(hdf:d.params.defaults=[])(hr:b_ k callerA)
  (F:∀(w:World) (K:Frag) (mg:Str->Option Value) (fa:Addr) (h:Heap),iD fs ms xs lk K->K.In h->h.Ns mainGlobals mg->mg d.name=some (.ref fa)->
   ∃fd:FuncData,(∀(s:Shared) (u:Value),BindsTo s fd ⟨[u],[]⟩ [(x,u)])/\∀base:Heap,K.In base->base.Ns mainGlobals mg->fM l.prog w K mg base (lU l.prog w) true k fa fd [x] (tQ K)) :
  WalkO q loose XP (lF fs ms xs lk).says l.row.toRowW d [] (λf vs=>PySem.call f vs):=by
 refine Tf.mV hn hdf λw s₀ s₁ mg mb fa o pm cd doc a vs ns G Y ho hd hcd hmg hobj hints hlen hg=>?_;obtain⟨K,KX,SY⟩:=Y;obtain⟨fd,hb,hF⟩:=F w K mg fa _ SY KX G.T.g hmg;exact zhP KX G.T.g G.T.b G.T.builtins G.T.nolimit hg hobj hints (n8 hlen (by decide)) hr hF hb (λH hO hS=>⟨a,ns,rfl,hS,hlen,hO,λ_=>rfl⟩) λH e s' h=>by
  obtain⟨_,_,_,_,_,_,_,_,_,_,z⟩:=h;exact z
theorem bind1{f:List Value->Sem (List (Str×Value))}{a b:Str}(h:∀x y,f [x,y]=pure [(a,x),(b,y)])(us:List Value)(hl:us.length=[b].length+1):f us=pure ([a,b].zip us):=by
 cases us with
 |nil=>cases hl
 |cons x t=>
  cases t with
  |nil=>cases hl
  |cons y t=>
   cases t with
   |nil=>exact h x y
   |cons z t=>cases hl
end Mi
namespace Mi
open PySem PySem.Spec PyProof.Rows L2
section
variable {K:PySem.W.Frag}{cA:Cl}{φ:Ph}{H:Hp}
noncomputable def jm(K:PySem.W.Frag)(φ:Ph)(H:Hp):Bool->Addr->List V->Prop
 |true,a,vs=>LstAt K φ H a vs
 |false,a,vs=>TupAt K φ H a vs
theorem jm.sk{kd:Bool}{a:Addr}{vs:List V}(h:jm K φ H kd a vs):Sk kd K H a vs:=by
 cases kd
 ·exact TupAt.jx h
 ·exact LstAt.uK h
theorem jm.later{kd:Bool}{a:Addr}{vs:List V}{φ':Ph}{H₁ H':Hp}(hz:∀a∈φ.l,φ.z a)(h:jm K φ H kd a vs)(x:Ext φ H φ' H₁)(o:fu φ' H₁ H'):jm K φ' H' kd a vs:=by
 cases kd
 ·exact TupAt.later hz h x o
 ·exact LstAt.later hz h x o
theorem Ot{xs ys:List D}{i:Nat}:(List.zipWith (λp q=>D.tup [p,q]) xs ys)[i]?=match xs[i]?,ys[i]? with
  |some p,some q=>some (.tup [p,q])
  |_,_=>none:=by
 rw[List.getElem?_zipWith];cases xs[i]?<;>cases ys[i]?<;>rfl
theorem m9.zip{k1 k2:Bool}{l1 l2:Addr}{xs ys:List D}{us vs:List V}(hz:∀a∈φ.l,φ.z a)(h1:jm K φ H k1 l1 us)(h2:jm K φ H k2 l2 vs)(r1:aC K cA φ H xs us)(r2:aC K cA φ H ys vs):m9 K cA (.fix (List.zipWith (λp q=>D.tup [p,q]) xs ys)) φ H (Nm K k1 k2 l1 l2):=by
 refine⟨λφ' H₁ H' s' i x o hS e=>?_,λφ' H₁ H' s' i d x o hS e=>?_,λφ' H₁ H' s' i d v H2 x o hS e y=>?_⟩
 ·have e:(List.zipWith (λp q=>D.tup [p,q]) xs ys)[i]?=none:=dw e;rw[Ot] at e;refine⟨us,vs,(h1.later hz x o).sk,(h2.later hz x o).sk,?_⟩;cases ex:xs[i]? with
  |none=>exact .inl (pA.mp (r1.none ex))
  |some p=>
   cases ey:ys[i]? with
   |none=>exact .inr (pA.mp (r2.none ey))
   |some q=>rw[ex,ey] at e;cases e
 ·have e:(List.zipWith (λp q=>D.tup [p,q]) xs ys)[i]?=some d:=dw e;rw[Ot] at e;cases ex:xs[i]? with
  |none=>rw[ex] at e;cases e
  |some p=>
   cases ey:ys[i]? with
   |none=>rw[ex,ey] at e;cases e
   |some q=>
    obtain⟨u,q1,_⟩:=r1.get ex;obtain⟨v,q2,_⟩:=r2.get ey;exact⟨us,vs,u,v,(h1.later hz x o).sk,(h2.later hz x o).sk,q1,q2⟩
 ·have e:(List.zipWith (λp q=>D.tup [p,q]) xs ys)[i]?=some d:=dw e;rw[Ot] at e;cases ex:xs[i]? with
  |none=>rw[ex] at e;cases e
  |some p=>
   cases ey:ys[i]? with
   |none=>rw[ex,ey] at e;cases e
   |some q=>
    rw[ex,ey] at e;cases e;obtain⟨a,u,w,hn,rfl,rfl,hu,hw⟩:=y;obtain⟨u',q1,ru⟩:=((r1.mono x hz).out o).get ex;obtain⟨w',q2,mU⟩:=((r2.mono x hz).out o).get ey;have e1:=hu us (h1.later hz x o).sk;have e2:=hw vs (h2.later hz x o).sk;rw[q1] at e1;rw[q2] at e2;cases e1;cases e2;have g:bG H' (upd H' a (.tup [u,w])):=bG.new hn;exact⟨g,.tup (.inl ⟨.inl kY,hS.nz hn⟩) (.cons (ru.mono g.ext hS.lz) (.cons (mU.mono g.ext hS.lz) .nil))⟩
theorem V1(r:bB K cA φ H x v)(h:Run K cA (M.bd (oN x) k) φ H s P Ee) :
  ∃xs kd a vs,v=.ref a/\jm K φ H kd a vs/\aC K cA φ H xs vs/\Run K cA (k xs) φ H s P Ee:=by
 cases r with
 |l _=>exact h.elim
 |d r=>
  cases r with
  |tup q r=>exact⟨_,false,_,_,rfl,q,r,h⟩
  |fl q r=>exact⟨_,true,_,_,rfl,q,r,h⟩
  |_=>exact h.elim
end
section
variable {X:Cx}{cA:Cl}{sub:Nat->Nat->Bool}{aj:Bool}{F:Fn}{EX:XS}{a b:Expr}{A B:E}{pos pp tpos:Pos}{elts:List Expr}{kk:Nat}
theorem zl1(tL:Gl X "zip")(hmg:X.mg "zip"=none)(ha:SE X cA sub aj F EX a A)(hb:SE X cA sub aj F EX b B)(h1:starEach [a,b] X.env=(false,eval a X.env)::starEach [b] X.env)(h2:starEach [b] X.env=(false,eval b X.env)::starEach [] X.env) :
  SI X cA sub aj F EX (.Tuple elts kk tpos) (.Call (.Name "zip" pp) [a,b] [] pos) (.zip A B):=PI.weak (zmo tL hmg (sy ha (sy hb zm h2) h1) (by rw[h1,h2];rfl) (by rw[h2];rfl)) λσ H R hh=>un hh λφ τ s hL hS h=>by
 refine aW hL hS h λx H1 φ1 d1 s1 x1 hL1 hS1 r1 h1=>aW hL1 hS1 h1 λy H2 φ2 d2 s2 x2 hL2 hS2 r2 h2=>?_;obtain⟨xs,k1,l1,us,e1,q1,p1,h3⟩:=V1 (r1.mono x2 hS1.lz) h2;obtain⟨ys,k2,l2,vs,e2,q2,p2,h4⟩:=V1 r2 h3;subst e1 e2;exact⟨k1,k2,l1,l2,us,vs,rfl,q1.sk,q2.sk,(h4.bC hS2) _ (m9.zip hS2.lz q1 q2 p1 p2)⟩
theorem znD(hmg:X.mg "zip"=none)(tL:JK X "zip" .globalImplicit)(ha:JE X cA sub aj F EX a A)(hb:JE X cA sub aj F EX b B)(h1:aD a=true:=by rfl)(h2:aD b=true:=by rfl):JI X cA sub aj F EX (.Tuple elts kk tpos) (.Call (.Name "zip" p) [a,b] [] pos) (.zip A B):=⟨zl1 tL.o hmg ha.o hb.o (aX h1) (aX h2)⟩
end
section
variable {K:PySem.W.Frag}{cA:Cl}{φ:Ph}{H:Hp}
end
section
variable {X:Cx}
end
section
variable {X:Cx}{cA:Cl}{sub:Nat->Nat->Bool}{aj:Bool}{F:Fn}{EX:XS}{e:Expr}{pos p:Pos}{es:List Expr}{Xs:Es}{fz:Bool}
end
section
variable {X:Cx}
end
section
variable {K:PySem.W.Frag}{cA:Cl}{φ:Ph}{H:Hp}
end
section
variable {X:Cx}{cA:Cl}{sub:Nat->Nat->Bool}{aj:Bool}{F:Fn}{EX:XS}{e:Expr}{pos pos' p p':Pos}{es:List Expr}{Xs:Es}{fz:Bool}
end
end Mi
namespace Mi
open PySem PySem.Spec PyProof.Rows L2 PySem.W
theorem Af{K:PySem.W.Frag}{fd:FuncData}{p q t u v:Str}(h:∀a b c d e,bindArgs fd ⟨[a,b,c,d,e],[]⟩=pure [(p,a),(q,b),(t,c),(u,d),(v,e)]):Binds K fd [p,q,t,u,v] []:=.all λus hl=>by
 match us,hl with
 |[a,b,c,d,e],_=>exact h a b c d e
theorem wI{K:Frag}{x:Str}{st:Stmt}{f:Addr}{fd:FuncData}{p q t u v:Str}(F:uO K x x st f fd)(h:∀(kV doc pm:Value) (an:Option Addr) (cdv ct a b c d e:Value),bindArgs (fnOf x x (aO st) (aK st) (aq st) .none kV doc pm an cdv ct) ⟨[a,b,c,d,e],[]⟩=pure [(p,a),(q,b),(t,c),(u,d),(v,e)]):Binds K fd [p,q,t,u,v] []:=by
 obtain⟨oc,od,kV,doc,pm,an,cdv,ct,osl,rfl,lk,hcd⟩:=F.ex;exact Af (h kV doc pm an cdv ct)
structure D3(K:Frag)(mg:Str->Option Value)(x:Str)(st:Stmt)(ps:List Str):Prop where
 f:uO K x x st (jz K x) (fdOf K x st)
 m:mg x=some (.ref (jz K x))
 b:Binds K (fdOf K x st) ps []
theorem dk{p:Prop}(h:p:=by decide +kernel):p:=h
section
variable {fs:List (Str×Stmt)}{ms:List vp}{xs:List (Nat×Str)}{lk:Lk}{K:Frag}{h:Heap}{mg:Str->Option Value}{x:Str}{st:Stmt}
theorem oW(S:iD fs ms xs lk K)(X:K.In h)(G:h.Ns mainGlobals mg)(j:Nat)(hj:fs[j]?=some (x,st):=by rfl)(hb:∀(kV doc pm:Value) (an:Option Addr) (cdv ct a:Value),bindArgs (fnOf x x (aO st) (aK st) (aq st) .none kV doc pm an cdv ct) ⟨[a],[]⟩=pure [(p,a)]:=by intros;rfl):D3 K mg x st [p]:=have F:=S.fn (x,st) (gU hj);⟨F.fn,F.m X G,wD F.fn hb⟩
theorem uc(S:iD fs ms xs lk K)(X:K.In h)(G:h.Ns mainGlobals mg)(j:Nat)(hj:fs[j]?=some (x,st):=by rfl)(hb:∀(kV doc pm:Value) (an:Option Addr) (cdv ct a b:Value),bindArgs (fnOf x x (aO st) (aK st) (aq st) .none kV doc pm an cdv ct) ⟨[a,b],[]⟩=pure [(p,a),(q,b)]:=by intros;rfl):D3 K mg x st [p,q]:=have F:=S.fn (x,st) (gU hj);⟨F.fn,F.m X G,wF F.fn hb⟩
theorem rD(S:iD fs ms xs lk K)(X:K.In h)(G:h.Ns mainGlobals mg)(j:Nat)(hj:fs[j]?=some (x,st):=by rfl)(hb:∀(kV doc pm:Value) (an:Option Addr) (cdv ct a b c:Value),bindArgs (fnOf x x (aO st) (aK st) (aq st) .none kV doc pm an cdv ct) ⟨[a,b,c],[]⟩=pure [(p,a),(q,b),(t,c)]:=by intros;rfl):D3 K mg x st [p,q,t]:=have F:=S.fn (x,st) (gU hj);⟨F.fn,F.m X G,wG F.fn hb⟩
theorem V2(S:iD fs ms xs lk K)(X:K.In h)(G:h.Ns mainGlobals mg)(j:Nat)(hj:fs[j]?=some (x,st):=by rfl)(hb:∀(kV doc pm:Value) (an:Option Addr) (cdv ct a b c d:Value),bindArgs (fnOf x x (aO st) (aK st) (aq st) .none kV doc pm an cdv ct) ⟨[a,b,c,d],[]⟩=pure [(p,a),(q,b),(t,c),(u,d)]:=by intros;rfl):D3 K mg x st [p,q,t,u]:=have F:=S.fn (x,st) (gU hj);⟨F.fn,F.m X G,wH F.fn hb⟩
theorem zoo{p q t u v:Str}(S:iD fs ms xs lk K)(X:K.In h)(G:h.Ns mainGlobals mg)(j:Nat)(hj:fs[j]?=some (x,st):=by rfl)(hb:∀(kV doc pm:Value) (an:Option Addr) (cdv ct a b c d e:Value),bindArgs (fnOf x x (aO st) (aK st) (aq st) .none kV doc pm an cdv ct) ⟨[a,b,c,d,e],[]⟩=pure [(p,a),(q,b),(t,c),(u,d),(v,e)]:=by intros;rfl):D3 K mg x st [p,q,t,u,v]:=have F:=S.fn (x,st) (gU hj);⟨F.fn,F.m X G,wI F.fn hb⟩
theorem mG{α:Type}{l:List α}{a:α}(j:Nat)(h:l[j]?=some a:=by rfl):a∈l:=gU h
end
end Mi
namespace Mi
open PySem PySem.Spec PyProof.Rows L2
section
variable {X:Cx}{cA:Cl}
theorem zgp:cV X (.type "str") (λxs H Q=>∃i:Int,xs=[.int i]/\i.natAbs<2^62/\Q (.str (Str.ofString (toString i))) H):=by
 intro ak s σ H xs us Q I r ⟨i,e,hi,q⟩;subst e;obtain⟨u,rfl,t,rfl⟩:=vals1 r;exact str_of_int_fit (N:=4611686018427387904) (by split<;>lia) (Int.le_refl _) λ_=>⟨.str (Str.ofString (toString i)),H,I.tok _,⟨_,rfl⟩,q⟩
theorem zjQ:aR X.K cA .str1 (λxs H Q=>∃i:Int,xs=[.int i]/\i.natAbs<2^62/\Q (.str (Str.ofString (toString i))) H):=by
 intro φ H ds vs Q zt rs o;have o:aZ X.K cA φ H (zN ds) Q:=o;unfold zN at o;split at o
 ·rename_i i _;obtain⟨v,rfl,r1⟩:=rs.one;cases r1;by_cases hk:i.natAbs<2^62
  ·rw[if_pos hk] at o;exact⟨i,rfl,hk,(o.of rfl).here (.str _)⟩
  ·rw[if_neg hk] at o;exact o.elim
 ·exact o.elim
end
section
variable {X:Cx}{cA:Cl}{sub:Nat->Nat->Bool}{aj:Bool}{F:Fn}{EX:XS}{e:Expr}{pos p:Pos}{es:List Expr}{Xs:Es}{fz:Bool}
theorem zkp(hm:X.mg "str"=none)(hg:JK X "str" .globalImplicit)(ha:JA X cA sub aj F EX (e::es) Xs)(he:aD e=true:=by rfl)(hpl:es.all aD=true:=by rfl):JE X cA sub aj F EX (.Call (.Name "str" p) (e::es) [] pos) (.pr fz .str1 Xs):=⟨Jm zgp zjQ hg.o hm PyProof.Rows.boot_str ha.o (by decide) (by decide) (aX he) (aU hpl)⟩
end
end Mi
namespace Mi
open PySem
def W{α:Type}(m:M α)(s:S)(P:α->S->Prop):Prop:=∃a s',m s=some (.ok a,s')/\P a s'
def WS(m:MS)(s:S)(Q:Out->S->Prop):Prop:=∃o s',m s=some (o,s')/\Q o s'
section
variable {α β:Type}{m:M α}{k:α->M β}{s:S}{P:α->S->Prop}{R:β->S->Prop}
theorem W.bd(h:W m s λa s'=>W (k a) s' R):W (M.bd m k) s R:=by
 obtain⟨a,s',e,b,s2,e2,r⟩:=h;exact⟨b,s2,by unfold M.bd;rw[e];exact e2,r⟩
theorem W.ret{a:α}(h:P a s):W (M.ret a) s P:=⟨a,s,rfl,h⟩
theorem W.qt(h:W m s P):W (M.qt m) s P:=by
 obtain⟨a,s',e,p⟩:=h;exact⟨a,s',by unfold M.qt;rw[e],p⟩
theorem W.opt(e:o=some a)(h:P a s):W (M.opt o) s P:=by subst e;exact⟨a,s,rfl,h⟩
theorem W.imp{P':α->S->Prop}(h:W m s P)(f:∀a s',P a s'->P' a s'):W m s P':=let ⟨a,s',e,p⟩:=h;⟨a,s',e,f a s' p⟩
theorem W.eq(e:m s=some (.ok a,s'))(p:P a s'):W m s P:=⟨a,s',e,p⟩
theorem Ag{d:D}{P:D->S->Prop}(h:P d s):W (rd (.d d)) s P:=⟨d,s,rfl,h⟩
theorem V3{n:Nat}{xs:List D}{P:D->S->Prop}(e:s[n]?=some (.lst xs))(h:P (.fl xs) s):W (rd (.l n)) s P:=⟨.fl xs,s,by unfold rd;simp only[e],h⟩
theorem Ou{P:List D->S->Prop}(h:P [] s):W (eU []) s P:=⟨[],s,rfl,h⟩
theorem GF{x:Xv}{r:List Xv}{P:List D->S->Prop}(h:W (rd x) s λd s1=>W (eU r) s1 λds s2=>P (d::ds) s2):W (eU (x::r)) s P:=W.bd (h.imp λd s1 h1=>W.bd (h1.imp λds s2 h2=>W.ret h2))
theorem V4{P:List D->S->Prop}(h:P [] s):W (dF []) s P:=⟨[],s,rfl,h⟩
theorem Ov{d:D}{r:List Xv}{P:List D->S->Prop}(h:W (dF r) s λds s2=>P (d::ds) s2):W (dF (.d d::r)) s P:=W.bd (W.ret (W.bd (h.imp λds s2 h2=>W.ret h2)))
theorem W.dat{x:D}{P:D->S->Prop}(h:P x s):W (dat (.d x)) s P:=⟨x,s,rfl,h⟩
theorem W.bool{b:Bool}{P:Bool->S->Prop}(h:P b s):W (bool (.d (.bl b))) s P:=⟨b,s,rfl,h⟩
theorem W.int{b:Int}{P:Int->S->Prop}(h:P b s):W (int (.d (.int b))) s P:=⟨b,s,rfl,h⟩
theorem bW{fz:Bool}{o:Option Rz}{d:D}{P:Xv->S->Prop}(e:o=some (.dat d))(h:P (.d d) s):W (bK fz o) s P:=by subst e;exact⟨_,s,rfl,h⟩
theorem Cp{o:Option Rz}{xs:List D}{P:Xv->S->Prop}(e:o=some (.nw xs))(h:P (.d (.fl xs)) s):W (bK true o) s P:=by subst e;exact⟨_,s,rfl,h⟩
theorem KaL{xs:List D}{P:Xv->S->Prop}(h:P (.d (.fl xs)) s):W (newL true xs) s P:=⟨_,s,rfl,h⟩
theorem KaK{xs:List D}{P:Xv->S->Prop}(h:P (.l s.length) (s++[.lst xs])):W (newL false xs) s P:=⟨_,_,rfl,h⟩
theorem W.bY{F:List Xv->M Xv}{xs:List Xv}{P:Xv->S->Prop}(hl:locs xs=[])(h:W (F (dJ 0 xs)) [] λv _=>∃d,v=.d d/\P (.d d) s):W (cH F xs) s P:=by
 obtain⟨v,s1,e,d,rfl,p⟩:=h;refine⟨.d d,s,?_,p⟩;unfold cH;rw[hl,if_pos Bo];simp only[iW,e,cW]
theorem Kak{F:List Xv->M Xv}{xs:List Xv}{P:Xv->S->Prop}(hl:locs xs=[])(h:W (F (dJ 0 xs)) [] λv s1=>∃n o,v=.l n/\s1[n]?=some o/\P (.l s.length) (s++[o])):W (cH F xs) s P:=by
 obtain⟨v,s1,e,n,o,rfl,eo,p⟩:=h;refine⟨.l s.length,s++[o],?_,p⟩;unfold cH;rw[hl,if_pos Bo];simp only[iW,e,cW,List.getElem?_nil,eo]
theorem V5{F:List Xv->M Xv}{xs:List Xv}{n:Nat}{o:SO}{P:Xv->S->Prop}(hl:locs xs=[n])(ho:s[n]?=some o)(h:W (F (dJ 0 xs)) [o] λv s1=>∃d o',v=.d d/\s1=[o']/\P (.d d) (s.set n o')):W (cH F xs) s P:=by
 obtain⟨v,s1,e,d,o',rfl,rfl,p⟩:=h;refine⟨.d d,s.set n o',?_,p⟩;unfold cH;rw[hl,if_pos (by simp)];simp only[iW,ho,e,cW]
end
section
variable {s:S}{Q:Out->S->Prop}
theorem WS.ofM(h:W m s λa s'=>WS (k a) s' Q):WS (Mi.ofM m τ k) s Q:=by
 obtain⟨a,s',e,o,s2,e2,q⟩:=h;exact⟨o,s2,by unfold Mi.ofM;rw[e];exact e2,q⟩
theorem WS.nx(h:Q (.nx τ) s):WS (λs=>some (.nx τ,s)) s Q:=⟨_,s,rfl,h⟩
theorem WS.rt(h:Q (.rt x) s):WS (λs=>some (.rt x,s)) s Q:=⟨_,s,rfl,h⟩
theorem WS.imp(h:WS m s Q)(f:∀o s',Q o s'->Q' o s'):WS m s Q':=let ⟨a,s',e,p⟩:=h;⟨a,s',e,f a s' p⟩
end
theorem W.call(hT:T f=some d)(hl:xs.length=d.iY)
  (h:WS (exs sub aj (λc=>Mi.call sub T k c) d.body (xs.map some++List.replicate (d.many-d.iY) none)) s λo s'=>match o with|.nx _=>P (.d .non) s'|.rt v=>P v s'|_=>False):W (Mi.call sub T (k+1) aj f xs) s P:=by
 obtain⟨o,s',e,q⟩:=h;unfold Mi.call;simp only[hT,if_pos hl];unfold W;simp only[e];cases o with
 |nx τ=>exact⟨_,_,rfl,q⟩
 |rt v=>exact⟨_,_,rfl,q⟩
 |bk τ=>exact q.elim
 |ct τ=>exact q.elim
 |er c fs τ=>exact q.elim
theorem wJ(I:Nat->Vs->S->Prop)(h0:I 0 τ s)(hb:∀i x τ s,c[i]?=some x->I i τ s->WS (b x τ) s λo s'=>∃τ',o=.nx τ'/\I (i+1) τ' s')
  (he:∀τ s,I c.length τ s->Q (.nx τ) s):WS (dO (.fix c) b (c.length+1) 0 τ) s Q:=by
 have key:∀n i τ s,i+n=c.length->I i τ s->WS (dO (.fix c) b (n+1) i τ) s Q:=by
  intro n
  induction n with
  |zero=>
   intro i τ s hi hI;have e:c[i]?=none:=by rw[pA];lia
   have:i=c.length:=by lia
   subst this;refine⟨_,s,?_,he τ s hI⟩;unfold dO;simp only[Src.at,e]
  |succ n ih=>
   intro i τ s hi hI;have hlt:i<c.length:=by lia
   have e:c[i]?=some c[i]:=fD hlt;obtain⟨o,s',eb,τ',rfl,hI'⟩:=hb i c[i] τ s e hI;obtain⟨o2,s2,e2,q⟩:=ih (i+1) τ' s' (by lia) hI';refine⟨o2,s2,?_,q⟩;unfold dO;simp only[Src.at,e,eb];exact e2
 exact key c.length 0 τ s (by lia) h0
theorem znh{i j:Int}(h:(-(2^64)<i/\i<2^64)\/(-(2^64)<j/\j<2^64)):prim .mul [.int i,.int j]=some (.dat (.int (i*j))):=by
 show Option.map _ (if _ then _ else _)=_;rw[if_pos h];rfl
theorem znm{i j:Int}(h:0<j):prim .mod [.int i,.int j]=some (.dat (.int (i%j))):=by
 show Option.map _ (if _ then _ else _)=_;rw[if_pos h];rfl
theorem zl5{i j:Int}(h:0<j/\j<1073741824):prim .fdiv [.int i,.int j]=some (.dat (.int (i/j))):=by
 show Option.map _ (if _ then _ else _)=_;rw[if_pos h];rfl
theorem zii{i j:Int}(h:0<j/\j<1073741824):prim .divmod [.int i,.int j]=some (.dat (.tup [.int (i/j),.int (i%j)])):=by
 show Option.map _ (if _ then _ else _)=_;rw[if_pos h];rfl
theorem zm7{i j:Int}(h:0<=j/\j<=1000000/\i.natAbs<2^64):prim .pow [.int i,.int j]=some (.dat (.int (i^j.toNat))):=by
 show Option.map _ (if _ then _ else _)=_;rw[if_pos h];rfl
theorem ud{xs:List D}{i:Nat}{x:D}(h:xs[i]?=some x):prim .ix [.fl xs,.int i]=some (.dat x):=by
 show Option.map Rz.dat (L2.pI xs i)=_;have:L2.pI xs (i:Int)=some x:=by
  unfold L2.pI L2.qW;have hl:i<xs.length:=(jo.mp h).1;simp[hl];exact(jo.mp h).2
 rw[this];rfl
theorem Ow(h:xs.length+ys.length<=sizeLine):prim .add [.fl xs,.fl ys]=some (.nw (xs++ys)):=by
 show (if _ then _ else _)=_;rw[if_pos h]
theorem W.ite[Decidable c](h1:c->W m1 s P)(h2:¬c->W m2 s P):W (if c then m1 else m2) s P:=by
 by_cases h:c
 ·rw[if_pos h];exact h1 h
 ·rw[if_neg h];exact h2 h
theorem WS.ite[Decidable c](h1:c->WS m1 s P)(h2:¬c->WS m2 s P):WS (if c then m1 else m2) s P:=by
 by_cases h:c
 ·rw[if_pos h];exact h1 h
 ·rw[if_neg h];exact h2 h
theorem Jy{n:Nat}{xs:List D}{s:S}{P:Unit->S->Prop}(h:P () (s.set n (.lst xs))):W (putL n xs) s P:=⟨_,_,rfl,h⟩
theorem W.cJ{n:Nat}{xs:List D}{s:S}{P:Nat×List D->S->Prop}(e:s[n]?=some (.lst xs))(h:P (n,xs) s):W (cJ (.l n)) s P:=⟨_,s,by unfold Mi.cJ;simp only[e],h⟩
theorem KaY{xs:List D}{s:S}{P:Src×Nat->S->Prop}(h:P (.fix xs,xs.length) s):W (src (.d (.tup xs))) s P:=⟨_,s,rfl,h⟩
theorem KaX{xs:List D}{s:S}{P:Src×Nat->S->Prop}(h:P (.fix xs,xs.length) s):W (src (.d (.fl xs))) s P:=⟨_,s,rfl,h⟩
theorem WS.nil{sub:Nat->Nat->Bool}{aj:Bool}{F:Bool->Fn}{τ:Vs}{s:S}{Q:Out->S->Prop}(h:Q (.nx τ) s):WS (exs sub aj F .nil τ) s Q:=⟨_,s,rfl,h⟩
theorem WS.cons{sub:Nat->Nat->Bool}{aj:Bool}{F:Bool->Fn}{a:St}{r:cD}{τ:Vs}{s:S}{Q:Out->S->Prop}(h:WS (ex sub aj F a τ) s λo s'=>match o with|.nx τ'=>WS (exs sub aj F r τ') s' Q|.rt x=>Q (.rt x) s'|_=>False):WS (exs sub aj F (.cons a r) τ) s Q:=by
 obtain⟨o,s',e,q⟩:=h;unfold WS exs Mi.cL;rw[e];cases o with
 |nx τ'=>exact q
 |rt x=>exact⟨_,_,rfl,q⟩
 |bk _=>exact q.elim
 |ct _=>exact q.elim
 |er _ _ _=>exact q.elim
def oX{α:Type}(o:Option α)(P:α->Prop):Prop:=∃a,o=some a/\P a
theorem oX.mk{α:Type}{o:Option α}{P:α->Prop}{a:α}(e:o=some a)(h:P a):oX o P:=⟨a,e,h⟩
section
variable {sub:Nat->Nat->Bool}{aj:Bool}{F:Fn}{τ:Vs}{s:S}{P:Xv->S->Prop}
theorem W.eC{d:D}(h:P (.d d) s):W (ev sub aj F (.c d) τ) s P:=W.ret h
theorem W.eV{i:Nat}{x:Xv}(e:τ[i]?.join=some x)(h:P x s):W (ev sub aj F (.v i) τ) s P:=W.opt e h
theorem Ox{fz:Bool}{p:Pr}{xs:Es}(h:W (evs sub aj F xs τ) s λvs s1=>W (eU vs) s1 λds s2=>W (bK fz (prim p ds)) s2 P):W (ev sub aj F (.pr fz p xs) τ) s P:=W.bd (h.imp λ_ _ h=>W.bd h)
theorem Kat{a b:E}(h:W (ev sub aj F a τ) s λx s1=>W (Mi.bool x) s1 λk s2=>W (if k=true then ev sub aj F b τ else M.ret (.d (.bl false))) s2 P):W (ev sub aj F (.and a b) τ) s P:=W.bd (h.imp λ_ _ h=>W.bd h)
theorem KaB{a b:E}(h:W (ev sub aj F a τ) s λx s1=>W (Mi.bool x) s1 λk s2=>W (if k=true then M.ret (.d (.bl true)) else ev sub aj F b τ) s2 P):W (ev sub aj F (.or a b) τ) s P:=W.bd (h.imp λ_ _ h=>W.bd h)
theorem KaA{a:E}(h:W (ev sub aj F a τ) s λx s1=>W (Mi.bool x) s1 λk s2=>P (.d (.bl (!k))) s2):W (ev sub aj F (.not a) τ) s P:=W.bd (h.imp λ_ _ h=>W.bd (h.imp λ_ _ h=>W.ret h))
theorem KaE{xs:Es}(h:W (evs sub aj F xs τ) s λvs s1=>W (dF vs) s1 λds s2=>P (.d (.tup ds)) s2):W (ev sub aj F (.tup xs) τ) s P:=W.bd (h.imp λ_ _ h=>W.bd (h.imp λ_ _ h=>W.ret h))
theorem Kaz{fz:Bool}{xs:Es}(h:W (evs sub aj F xs τ) s λvs s1=>W (dF vs) s1 λds s2=>W (newL fz ds) s2 P):W (ev sub aj F (.lst fz xs) τ) s P:=W.bd (h.imp λ_ _ h=>W.bd h)
theorem Kaw{k:Str}{i:Int}(h:P (.d (.fd [.str k] [.int i])) s):W (ev sub aj F (.sX k i) τ) s P:=W.ret h
theorem V6{f:Nat}{xs:Es}(h:W (evs sub aj F xs τ) s λvs s1=>W (cH (F f) vs) s1 P):W (ev sub aj F (.call f xs) τ) s P:=W.bd h
theorem KaD{fz:Bool}{a:E}{lo hi:Eo}(h:W (ev sub aj F a τ) s λx s1=>W (vZ sub aj F lo τ) s1 λl s2=>W (vZ sub aj F hi τ) s2 λu s3=>W (rd x) s3 λd s4=>W (bK fz (cutD d l u)) s4 P):W (ev sub aj F (.sl fz a lo hi) τ) s P:=W.bd (h.imp λ_ _ h=>W.bd (h.imp λ_ _ h=>W.bd (h.imp λ_ _ h=>W.bd h)))
theorem KaM{P:Option Int->S->Prop}(h:P none s):W (vZ sub aj F .no τ) s P:=W.ret h
theorem KaN{a:E}{P:Option Int->S->Prop}(h:W (ev sub aj F a τ) s λx s1=>W (Mi.int x) s1 λi s2=>P (some i) s2):W (vZ sub aj F (.yes a) τ) s P:=W.bd (h.imp λ_ _ h=>W.bd (h.imp λ_ _ h=>W.ret h))
theorem Jz{P:List Xv->S->Prop}(h:P [] s):W (evs sub aj F .nil τ) s P:=W.ret h
theorem GJ{a:E}{r:Es}{P:List Xv->S->Prop}(h:W (ev sub aj F a τ) s λx s1=>W (evs sub aj F r τ) s1 λxs s2=>P (x::xs) s2):W (evs sub aj F (.cons a r) τ) s P:=W.bd (h.imp λ_ _ h=>W.bd (h.imp λ_ _ h=>W.ret h))
theorem KaI{a:E}{P:Src×Nat->S->Prop}(h:W (ev sub aj F a τ) s λx s1=>W (src x) s1 P):W (nU sub aj F (.seq a) τ) s P:=W.bd h
end
section
variable {sub:Nat->Nat->Bool}{aj:Bool}{F:Bool->Fn}{τ:Vs}{s:S}{Q:Out->S->Prop}
theorem WS.GK{b:Bool}{m1 m2:MS}(e:b=true)(h:WS m1 s Q):WS (if b=true then m1 else m2) s Q:=by rw[if_pos e];exact h
theorem WS.Cq{b:Bool}{m1 m2:MS}(e:b=false)(h:WS m2 s Q):WS (if b=true then m1 else m2) s Q:=by rw[if_neg (by rw[e];decide)];exact h
theorem WS.qK{m1 m2:MS}(h:WS m1 s Q):WS (if true=true then m1 else m2) s Q:=by rw[if_pos rfl];exact h
theorem WS.Ah{m1 m2:MS}(h:WS m2 s Q):WS (if false=true then m1 else m2) s Q:=by rw[if_neg (by decide)];exact h
theorem V7{e:E}(h:W (ev sub aj (F aj) e τ) s λ_ s1=>Q (.nx τ) s1):WS (ex sub aj F (.ex e) τ) s Q:=WS.ofM (h.imp λ_ _ h=>WS.nx h)
theorem V8{i:Nat}{e:E}(h:W (ev sub aj (F aj) e τ) s λx s1=>Q (.nx (τ.set i (some x))) s1):WS (ex sub aj F (.asg (.nm i) e) τ) s Q:=WS.ofM (h.imp λ_ _ h=>WS.nx h)
theorem Kbj{is:List Nat}{e:E}(h:W (ev sub true (F true) e τ) s λx s1=>W (dat x) s1 λd s2=>oX ((lC d).bind λds=>gJ is (ds.map .d) τ) λτ'=>Q (.nx τ') s2):WS (ex sub true F (.asg (.tp is) e) τ) s Q:=by
 refine WS.ofM (h.imp λx s1 h=>?_);exact WS.qK (m2:=λ_=>none) (WS.ofM (W.bd (h.imp λd s2 ⟨τ',e,q⟩=>W.opt e (WS.nx q))))
theorem Kbi{o i e:E}(h:W (ev sub aj (F aj) e τ) s λx s1=>W (dat x) s1 λd s2=>W (ev sub aj (F aj) o τ) s2 λy s3=>W (ev sub aj (F aj) i τ) s3 λz s4=>W (Mi.int z) s4 λj s5=>W (cJ y) s5 λnx s6=>oX (L2.qW nx.2.length j) λq=>Q (.nx τ) (s6.set nx.1 (.lst (nx.2.set q d)))):WS (ex sub aj F (.asg (.sub o i) e) τ) s Q:=by
 refine WS.ofM (h.imp λx s1 h=>WS.ofM (W.bd (h.imp λd s2 h=>W.bd (h.imp λy s3 h=>W.bd (h.imp λz s4 h=>W.bd (h.imp λj s5 h=>W.bd (h.imp λnx s6 h=>?_)))))));obtain⟨q,e,h⟩:=h;simp only[e];exact Jy (WS.nx h)
theorem Kbf{i j:Nat}{a b:E}(h:W (ev sub true (F true) a τ) s λx s1=>W (ev sub true (F true) b τ) s1 λy s2=>Q (.nx ((τ.set i (some x)).set j (some y))) s2):WS (ex sub true F (.par i j a b) τ) s Q:=by
 exact WS.qK (m2:=λ_=>none) (WS.ofM (W.bd (h.imp λx s1 h=>W.bd (h.imp λy s2 h=>W.ret (WS.nx h)))))
theorem V9{e:E}(h:W (ev sub aj (F aj) e τ) s λx s1=>Q (.rt x) s1):WS (ex sub aj F (.ret e) τ) s Q:=WS.ofM (h.imp λ_ _ h=>WS.rt h)
theorem yp{c:E}{t e:cD}(h:W (ev sub aj (F aj) c τ) s λx s1=>W (Mi.bool x) s1 λb s2=>WS (if b=true then exs sub aj F t τ else exs sub aj F e τ) s2 Q):WS (ex sub aj F (.iff c t e) τ) s Q:=WS.ofM (W.bd h)
theorem Kbc{t:Tg}{w:Wk}{b:cD}(h:W (nU sub true (F true) w τ) s λcn s1=>WS (dO cn.1 (λd τ=>Mi.cL (store sub true (F true) t (.d d) τ) λτ'=>exs sub true F b τ') (cn.2+1) 0 τ) s1 Q):WS (ex sub true F (.fr t w b) τ) s Q:=by
 exact WS.qK (m2:=λ_=>none) (WS.ofM h)
end
theorem W.GK{α:Type}{b:Bool}{m1 m2:M α}{s:S}{P:α->S->Prop}(e:b=true)(h:W m1 s P):W (if b=true then m1 else m2) s P:=by rw[if_pos e];exact h
theorem W.Cq{α:Type}{b:Bool}{m1 m2:M α}{s:S}{P:α->S->Prop}(e:b=false)(h:W m2 s P):W (if b=true then m1 else m2) s P:=by rw[if_neg (by rw[e];decide)];exact h
theorem W.qK{α:Type}{m1 m2:M α}{s:S}{P:α->S->Prop}(h:W m1 s P):W (if true=true then m1 else m2) s P:=by rw[if_pos rfl];exact h
theorem W.Ah{α:Type}{m1 m2:M α}{s:S}{P:α->S->Prop}(h:W m2 s P):W (if false=true then m1 else m2) s P:=by rw[if_neg (by decide)];exact h
structure Bx(R:Prop):Prop where
 o:R
end Mi
namespace Mi
open PySem PySem.W PyProof.Rows L2
abbrev cG(n:Nat)(p:Array Nat):Prop:=p.Perm (List.range n).toArray
theorem cG.lt(h:cG n p)(hn:0<n)(i:Nat):p.getD i 0<n:=by
 by_cases hi:i<p.size
 ·have e:p.getD i 0=p[i]:=by simp[Array.getD,hi]
  rw[e];have hm:p[i]∈(List.range n).toArray:=h.mem_iff.mp (Array.getElem_mem hi);simpa using hm
 ·have e:p.getD i 0=0:=by simp[Array.getD,hi]
  rw[e];exact hn
theorem cG.rev(h:cG n p)(i j:Nat):cG n (kas_rev p i j):=(mirror_perm p i j _).trans h
theorem cG.bub(h:cG n p)(i j:Nat):cG n (bubble p i j):=(bubble_perm p i j).trans h
def jF{α:Type}(lt:Nat->Nat->Option Bool)(t:KasT α)(P:α->Prop):Prop:=∃a,bD lt t=some a/\P a
section
variable {α β:Type}{lt:Nat->Nat->Option Bool}{n:Nat}
theorem jF.ret(h:P a):jF lt (.ret a) P:=⟨a,rfl,h⟩
theorem jF.bind(hf:∀a,P a->jF lt (f a) R):∀{t:KasT α},jF lt t P->jF lt (t.bind f) R
 |.ret a,⟨a',e,h⟩=>by cases e;exact hf _ h
 |.ask i j k,⟨a',e,h⟩=>by
  unfold bD at e;cases el:lt i j with
  |none=>rw[el] at e;cases e
  |some b=>
   rw[el] at e;obtain⟨c,e1,h1⟩:=jF.bind hf (t:=k b) ⟨a',e,h⟩;refine⟨c,?_,h1⟩;show bD lt (.ask i j λb=>(k b).bind f)=some c;unfold bD;rw[el];exact e1
def Tot(n:Nat)(lt:Nat->Nat->Option Bool):Prop:=∀i j,i<n->j<n->∃b,lt i j=some b
variable (ht:Tot n lt)(hn:0<n)
include ht hn
end
section
variable {lt:Nat->Nat->Option Bool}{n:Nat}
end
noncomputable def bO(p:Int×Int):D:=.tup [.int p.1,.int p.2]
end Mi
namespace Mi
open PySem
theorem W.walk{c:List D}{f:D->List D->M (List D)}{s:S}{acc:List D}{P:List D->S->Prop}(I:Nat->List D->S->Prop)(h0:I 0 acc s)(hb:∀i x acc s,c[i]?=some x->I i acc s->W (f x acc) s λa s'=>I (i+1) a s')
  (he:∀acc s,I c.length acc s->P acc s):W (Mi.walk (.fix c) f (c.length+1) 0 acc) s P:=by
 have key:∀n i acc s,i+n=c.length->I i acc s->W (Mi.walk (.fix c) f (n+1) i acc) s P:=by
  intro n
  induction n with
  |zero=>
   intro i acc s hi hI;have e:c[i]?=none:=by rw[pA];lia
   have:i=c.length:=by lia
   subst this;refine⟨acc,s,?_,he acc s hI⟩;unfold Mi.walk;simp only[Src.at,e]
  |succ n ih=>
   intro i acc s hi hI;have hlt:i<c.length:=by lia
   have e:c[i]?=some c[i]:=fD hlt;obtain⟨a,s',eb,hI'⟩:=hb i c[i] acc s e hI;obtain⟨a2,s2,e2,q⟩:=ih (i+1) a s' (by lia) hI';refine⟨a2,s2,?_,q⟩;unfold Mi.walk;simp only[Src.at,e,M.bd,eb];exact e2
 exact key c.length 0 acc s (by lia) h0
section
variable {sub:Nat->Nat->Bool}{F:Fn}{τ:Vs}{s:S}{P:Xv->S->Prop}
end
section
variable {sub:Nat->Nat->Bool}{aj:Bool}{F:Fn}{τ:Vs}{s:S}{P:Xv->S->Prop}
theorem Kax(h:W (ev sub aj F a τ) s λx s1=>W (rd x) s1 λd s2=>∃b,lB sub d k=some b/\P (.d (.bl b)) s2):W (ev sub aj F (.gw a k) τ) s P:=
 W.bd (h.imp λ_ _ h=>W.bd (h.imp λ_ _ ⟨_,e,h⟩=>W.bd (W.opt e (W.ret h))))
theorem Kav(h:W (ev sub aj F a τ) s λx s1=>W (ev sub aj F b τ) s1 λy s2=>W (eU [x,y]) s2 λds s3=>W (bK true (prim p ds)) s3 λt s4=>W (Mi.bool t) s4 λk s5=>
  W (if k=true then M.bd (ev sub aj F c τ) λz=>M.bd (eU [y,z]) λds=>bK true (prim q ds) else M.ret (.d (.bl false))) s5 P):W (ev sub aj F (.qz p q a b c) τ) s P:=
 W.bd (h.imp λ_ _ h=>W.bd (h.imp λ_ _ h=>W.bd (h.imp λ_ _ h=>W.bd (h.imp λ_ _ h=>W.bd h))))
end
noncomputable def GP(fz:Bool):Option Rz->Option Xv
 |some (.dat d)=>some (.d d)
 |some (.nw ys)=>match fz with
  |true=>some (.d (.fl ys))
  |false=>none
 |none=>none
noncomputable def addQ:D->D->Option Rz
 |.int i,.int j=>some (.dat (.int (i+j)))
 |_,_=>none
noncomputable def yq:List D->Option Rz
 |a::r=>match r with
  |b::r=>match r with
   |[]=>addQ a b
   |_::_=>none
  |[]=>none
 |[]=>none
noncomputable def quick:Pr->Bool
 |.mul=>false|.fdiv=>false|.mod=>false|.pow=>false|.divmod=>false|.sorted=>false|.dY=>false|.Fv=>false|.repr=>false|.str1=>false|.Um=>false|.Fq=>false|.Ft=>false
 |_=>true
noncomputable def p7(p:Pr)(ds:List D):Option Rz:=match p with
 |.add=>yq ds
 |p=>match quick p with
  |true=>prim p ds
  |false=>none
theorem GQ{ds:List D}{r:Rz}(h:yq ds=some r):zJ ds=some r:=by
 cases ds with
 |nil=>cases h
 |cons a t=>cases t with
  |nil=>cases h
  |cons b t=>cases t with
   |cons _ _=>cases h
   |nil=>cases a with
    |int i=>cases b with
     |int j=>exact h
     |_=>cases h
    |_=>cases h
theorem Ai{p:Pr}{ds:List D}{r:Rz}(h:p7 p ds=some r):prim p ds=some r:=by
 cases p with
 |add=>exact GQ h
 |_=>first|exact h|cases h
noncomputable def Oz(fz:Bool)(ds:List D):Option Xv:=match fz with
 |true=>some (.d (.fl ds))
 |false=>none
noncomputable def GR:Xv->Option D
 |.d x=>some x
 |.l _=>none
noncomputable def notP:Xv->Option Xv
 |.d (.bl b)=>some (.d (.bl (!b)))
 |_=>none
noncomputable def OD(r:Option Xv):Xv->Option Xv
 |.d (.bl true)=>r
 |.d (.bl false)=>some (.d (.bl false))
 |_=>none
noncomputable def orP(r:Option Xv):Xv->Option Xv
 |.d (.bl true)=>some (.d (.bl true))
 |.d (.bl false)=>r
 |_=>none
section
variable (sub:Nat->Nat->Bool)
mutual
noncomputable def iG:E->Vs->Option Xv
 |.c d,_=>some (.d d)
 |.v i,τ=>τ[i]?.join
 |.pr fz p xs,τ=>(uf xs τ).bind λds=>GP fz (p7 p ds)
 |.tup xs,τ=>(uf xs τ).bind λds=>some (.d (.tup ds))
 |.lst fz xs,τ=>(uf xs τ).bind λds=>Oz fz ds
 |.not a,τ=>(iG a τ).bind notP
 |.and a b,τ=>(iG a τ).bind (OD (iG b τ))
 |.or a b,τ=>(iG a τ).bind (orP (iG b τ))
 |.gw a k,τ=>(iG a τ).bind λx=>(GR x).bind λd=>(lB sub d k).bind λb=>some (.d (.bl b))
 |_,_=>none
noncomputable def uf:Es->Vs->Option (List D)
 |.nil,_=>some []
 |.cons a r,τ=>(iG a τ).bind λx=>(GR x).bind λd=>(uf r τ).bind λds=>some (d::ds)
end
noncomputable def p8:Es->Vs->Option (List Xv)
 |.nil,_=>some []
 |.cons a r,τ=>(iG sub a τ).bind λx=>(p8 r τ).bind λxs=>some (x::xs)
end
theorem qb{α β:Type}{o:Option α}{f:α->Option β}{b:β}(h:o.bind f=some b):∃a,o=some a/\f a=some b:=wO.mp h
theorem kO{α β:Type}{m:M α}{k:α->M β}{s s':S}{a:α}(e:m s=some (.ok a,s')):M.bd m k s=k a s':=by
 show (match m s with|some (.ok a,s')=>k a s'|some (.er c f,s')=>some (.er c f,s')|none=>none)=_;rw[e]
theorem GX(s:S):∀ds:List D,eU (ds.map .d) s=some (.ok ds,s)
 |[]=>rfl
 |d::r=>(kO (s':=s) (a:=d) rfl).trans ((kO (GX s r)).trans rfl)
theorem ug(s:S):∀ds:List D,dF (ds.map .d) s=some (.ok ds,s)
 |[]=>rfl
 |d::r=>(kO (s':=s) (a:=d) rfl).trans ((kO (ug s r)).trans rfl)
theorem OJ{fz:Bool}{p:Pr}{ds:List D}{x:Xv}{s:S}(h:GP fz (p7 p ds)=some x):bK fz (prim p ds) s=some (.ok x,s):=by
 cases o:p7 p ds with
 |none=>rw[o] at h;cases h
 |some r=>
  rw[o] at h;rw[Ai o];cases r with
  |dat d=>cases h;rfl
  |nw ys=>cases fz with
   |true=>cases h;rfl
   |false=>cases h
section
variable {sub:Nat->Nat->Bool}{aj:Bool}{F:Fn}{τ:Vs}{s:S}
theorem yr(e:E):∀x:Xv,iG sub e τ=some x->ev sub aj F e τ s=some (.ok x,s):=by
 refine E.rec (motive_1:=λe=>∀x:Xv,iG sub e τ=some x->ev sub aj F e τ s=some (.ok x,s)) (motive_2:=λ_=>True) (motive_3:=λxs=>∀ds:List D,uf sub xs τ=some ds->evs sub aj F xs τ s=some (.ok (ds.map .d),s)) (motive_4:=λ_=>True)
  ?c ?v ?pr (λ_ _ _ _ _ _ _ _ _ h=>nomatch h) (λ_ _ _ _ _ _ _ _ _ _ _ _ h=>nomatch h) ?and ?or ?not (λ_ _ _ _ _ _ _ h=>nomatch h) ?tup ?lst (λ_ _ _ h=>nomatch h) (λ_ _ _ _ h=>nomatch h) ?gw (λ_ _ _ _ _ _ _ _ h=>nomatch h) (λ_ _ _ _ _ _ _ _ h=>nomatch h) (λ_ _ _ _ _ h=>nomatch h) (λ_ _ _ h=>nomatch h)
  (λ_ _ _ _ _ _ _ _ _ _ _ h=>nomatch h) (λ_ _ _ _ _ _ _ _ _ _ _ _ _ _ h=>nomatch h) (λ_ _ _ _ _ h=>nomatch h) (λ_ _ _ _ h=>nomatch h) (λ_ _ _ _ _ _ h=>nomatch h) (λ_ _ _ _ _ h=>nomatch h) (λ_ _ _ _ _ _ _ h=>nomatch h) (λ_ h=>nomatch h)
  (λ_ _=>trivial) (λ_ _ _ _=>trivial) (λ_ _ _ _=>trivial) (λ_ _=>trivial) (λ_ _=>trivial) ?nil ?cons trivial (λ_ _=>trivial) e
 case c=>intro d x h;cases h;rfl
 case v=>intro i x h;exact(show M.opt (τ[i]?.join) s=_ from by rw[show τ[i]?.join=some x from h];rfl)
 case pr=>
  intro fz p xs ih x h;obtain⟨ds,e1,e2⟩:=qb h;exact(kO (ih _ e1)).trans ((kO (GX s ds)).trans (OJ e2))
 case tup=>
  intro xs ih x h;obtain⟨ds,e1,e2⟩:=qb h;cases e2;exact(kO (ih _ e1)).trans ((kO (ug s ds)).trans rfl)
 case lst=>
  intro fz xs ih x h;obtain⟨ds,e1,e2⟩:=qb h;cases fz with
  |false=>cases e2
  |true=>cases e2;exact(kO (ih _ e1)).trans ((kO (ug s ds)).trans rfl)
 case not=>
  intro a ih x h;obtain⟨y,e1,e2⟩:=qb h;cases y with
  |l n=>cases e2
  |d y=>cases y with
   |bl b=>cases e2;exact(kO (ih _ e1)).trans rfl
   |_=>cases e2
 case and=>
  intro a b ih ih2 x h;obtain⟨y,e1,e2⟩:=qb h;cases y with
  |l n=>cases e2
  |d y=>cases y with
   |bl b=>cases b with
    |true=>exact(kO (ih _ e1)).trans (ih2 _ e2)
    |false=>cases e2;exact(kO (ih _ e1)).trans rfl
   |_=>cases e2
 case or=>
  intro a b ih ih2 x h;obtain⟨y,e1,e2⟩:=qb h;cases y with
  |l n=>cases e2
  |d y=>cases y with
   |bl b=>cases b with
    |true=>cases e2;exact(kO (ih _ e1)).trans rfl
    |false=>exact(kO (ih _ e1)).trans (ih2 _ e2)
   |_=>cases e2
 case gw=>
  intro a k ih x h;obtain⟨y,e1,e2⟩:=qb h;cases y with
  |l n=>cases e2
  |d y=>
   obtain⟨d,e3,e4⟩:=qb e2;cases e3;obtain⟨b,e5,e6⟩:=qb e4;cases e6;refine(kO (ih _ e1)).trans ((kO (s':=s) (a:=y) rfl).trans ((kO (s':=s) (a:=b) ?_).trans rfl));rw[e5];rfl
 case nil=>intro ds h;cases h;rfl
 case cons=>
  intro a r ih ih2 ds h;obtain⟨y,e1,e2⟩:=qb h;cases y with
  |l n=>cases e2
  |d y=>
   obtain⟨d,e3,e4⟩:=qb e2;cases e3;obtain⟨rs,e5,e6⟩:=qb e4;cases e6;exact(kO (ih _ e1)).trans ((kO (ih2 _ e5)).trans rfl)
theorem mC:∀(xs:Es) {vs:List Xv},p8 sub xs τ=some vs->evs sub aj F xs τ s=some (.ok vs,s)
 |.nil,vs,h=>by cases h;rfl
 |.cons a r,vs,h=>by
  obtain⟨y,e1,e2⟩:=qb h;obtain⟨ys,e3,e4⟩:=qb e2;cases e4;exact(kO (yr a _ e1)).trans ((kO (mC r e3)).trans rfl)
variable {P:Xv->S->Prop}
theorem W.pv{e:E}{x:Xv}(h:iG sub e τ=some x)(k:P x s):W (ev sub aj F e τ) s P:=W.eq (yr e _ h) k
theorem KaS{f:Nat}{xs:Es}{vs:List Xv}(h:p8 sub xs τ=some vs)(k:W (cH (F f) vs) s P):W (ev sub aj F (.call f xs) τ) s P:=V6 (W.eq (mC xs h) k)
theorem KaR{xs:Es}{vs:List Xv}{P:List Xv->S->Prop}(h:p8 sub xs τ=some vs)(k:P vs s):W (evs sub aj F xs τ) s P:=W.eq (mC xs h) k
end
section
variable {sub:Nat->Nat->Bool}{aj:Bool}{F:Bool->Fn}{τ:Vs}{s:S}{Q:Out->S->Prop}{e:E}{r:cD}
theorem Ka8{i:Nat}{x:Xv}(h:iG sub e τ=some x)(k:WS (exs sub aj F r (τ.set i (some x))) s Q):WS (exs sub aj F (.cons (.asg (.nm i) e) r) τ) s Q:=WS.cons (V8 (W.pv h k))
theorem Ka9{x:Xv}(h:iG sub e τ=some x)(k:Q (.rt x) s):WS (exs sub aj F (.cons (.ret e) r) τ) s Q:=WS.cons (V9 (W.pv h k))
theorem Ka7{b:Bool}{t u:cD}(h:iG sub e τ=some (.d (.bl b)))(k:WS (if b=true then exs sub aj F t τ else exs sub aj F u τ) s λo s'=>match o with|.nx τ'=>WS (exs sub aj F r τ') s' Q|.rt x=>Q (.rt x) s'|_=>False):WS (exs sub aj F (.cons (.iff e t u) r) τ) s Q:=WS.cons (yp (W.pv h (W.bool k)))
end
def WR{α:Type}(m:M α)(s:S)(c:Nat)(fs:List D):Prop:=∃s',m s=some (.er c fs,s')
section
variable {α β:Type}{m:M α}{k:α->M β}{s:S}{c:Nat}{fs:List D}
theorem Cr(h:WR m s c fs):WR (M.bd m k) s c fs:=by
 obtain⟨s',e⟩:=h;exact⟨s',by unfold M.bd;rw[e]⟩
theorem yt(h:W m s λa s'=>WR (k a) s' c fs):WR (M.bd m k) s c fs:=by
 obtain⟨a,s',e,s2,e2⟩:=h;exact⟨s2,by unfold M.bd;rw[e];exact e2⟩
theorem WR.bY(hl:locs xs=[])(h:WR (F (dJ 0 xs)) [] c fs):WR (cH F xs) s c fs:=by
 obtain⟨s1,e⟩:=h;refine⟨s,?_⟩;unfold cH;rw[hl,if_pos Bo];simp only[iW,e,cW]
end
theorem WR.call(hT:T f=some d)(hl:xs.length=d.iY)
  (h:WS (exs sub aj (λc=>Mi.call sub T k c) d.body (xs.map some++List.replicate (d.many-d.iY) none)) s λo _=>∃τ,o=.er c fs τ):WR (Mi.call sub T (k+1) aj f xs) s c fs:=by
 obtain⟨o,s',e,τ,rfl⟩:=h;unfold Mi.call;simp only[hT,if_pos hl];unfold WR;simp only[e];exact⟨_,rfl⟩
section
variable {sub:Nat->Nat->Bool}{aj:Bool}{F:Bool->Fn}{τ:Vs}{s:S}{Q:Out->S->Prop}{c:Nat}{fs:List D}
theorem V_(h:WR m s c fs)(q:∀s',Q (.er c fs τ) s'):WS (Mi.ofM m τ k) s Q:=by
 obtain⟨s',e⟩:=h;exact⟨_,s',by unfold Mi.ofM;rw[e],q s'⟩
theorem qL(h:WS (ex sub aj F a τ) s λo s'=>(∃c fs τ',o=.er c fs τ')/\Q o s'):WS (exs sub aj F (.cons a r) τ) s Q:=by
 obtain⟨o,s',e,⟨c,fs,τ',rfl⟩,q⟩:=h;exact⟨_,s',by unfold exs Mi.cL;rw[e],q⟩
theorem JD(h:WR (ev sub aj (F aj) e τ) s c fs)(q:∀s',Q (.er c fs τ) s'):WS (ex sub aj F (.ex e) τ) s Q:=V_ h q
theorem Wa(h:WR (ev sub aj (F aj) e τ) s c fs)(q:∀s',Q (.er c fs τ) s'):WS (ex sub aj F (.ret e) τ) s Q:=V_ h q
theorem Kbh{c:Nat}{kp:Bool}{xs:Es}(h:W (evs sub true (F true) xs τ) s λvs s1=>W (dF vs) s1 λds s2=>Q (.er c (if kp=true then ds else []) τ) s2):WS (ex sub true F (.rise c kp xs) τ) s Q:=by
 refine WS.qK (m2:=λ_=>none) (WS.ofM (W.bd (h.imp λvs s1 h=>h.imp λds s2 h=>?_)));exact⟨_,s2,rfl,h⟩
theorem Kbm{m:MS}{k:Vs->MS}(h:WS m s λo s'=>match o with|.nx τ'=>WS (k τ') s' Q|.rt x=>Q (.rt x) s'|_=>False):WS (Mi.cL m k) s Q:=by
 obtain⟨o,s',e,q⟩:=h;unfold WS Mi.cL;rw[e];cases o with
 |nx τ'=>exact q
 |rt x=>exact⟨_,_,rfl,q⟩
 |bk _=>exact q.elim
 |ct _=>exact q.elim
 |er _ _ _=>exact q.elim
theorem Kbk{F:Fn}{i:Nat}{x:Xv}(h:Q (.nx (τ.set i (some x))) s):WS (store sub aj F (.nm i) x τ) s Q:=⟨_,s,rfl,h⟩
theorem Kbl{F:Fn}{is:List Nat}{d:D}(h:oX ((lC d).bind λds=>gJ is (ds.map .d) τ) λτ'=>Q (.nx τ') s):WS (store sub true F (.tp is) (.d d) τ) s Q:=by
 obtain⟨τ',e,q⟩:=h;exact WS.qK (m2:=λ_=>none) (WS.ofM (W.bd (W.dat (W.opt e (WS.nx q)))))
theorem Kbn(hb:WS (exs sub true F b τ) s λo s'=>(∃x,o=.rt x)/\Q o s'):WS (ex sub true F (.qD b d i h) τ) s Q:=by
 obtain⟨o,s',e,⟨x,rfl⟩,q⟩:=hb;exact⟨_,s',by unfold ex;rw[if_pos rfl];simp only[e],q⟩
theorem Kbo(hb:WS (exs sub true F b τ) s λo s'=>∃c fs τ',o=.er c fs τ'/\sub c d=true/\WS (exs sub false F h (τ'.set i (some (.d (.exc c fs))))) s' λr s2=>(∃x,r=.rt x)/\Q r s2):WS (ex sub true F (.qD b d i h) τ) s Q:=by
 obtain⟨o,s',e,c,fs,τ',rfl,hs,r,s2,e2,⟨x,rfl⟩,q⟩:=hb;exact⟨_,s2,by unfold ex;rw[if_pos rfl];simp only[e,hs,if_true,e2];rfl,q⟩
end
section
variable {sub:Nat->Nat->Bool}{aj:Bool}{F:Fn}{τ:Vs}{s:S}{P:Xv->S->Prop}
theorem W.gw{a:E}{k:Kd}(h:W (ev sub aj F a τ) s λx s1=>W (rd x) s1 λd s2=>oX (lB sub d k) λb=>P (.d (.bl b)) s2):W (ev sub aj F (.gw a k) τ) s P:=Kax h
theorem W.qz{p q:Pr}{a b c:E}(h:W (ev sub aj F a τ) s λx s1=>W (ev sub aj F b τ) s1 λy s2=>W (eU [x,y]) s2 λds s3=>W (bK true (prim p ds)) s3 λt s4=>W (Mi.bool t) s4 λk s5=>
  W (if k=true then M.bd (ev sub aj F c τ) λz=>M.bd (eU [y,z]) λds=>bK true (prim q ds) else M.ret (.d (.bl false))) s5 P):W (ev sub aj F (.qz p q a b c) τ) s P:=Kav h
theorem Kay{c a b:E}(h:W (ev sub aj F c τ) s λx s1=>W (Mi.bool x) s1 λk s2=>W (if k=true then ev sub aj F a τ else ev sub aj F b τ) s2 P):W (ev sub aj F (.ite c a b) τ) s P:=W.bd (h.imp λ_ _ h=>W.bd h)
theorem KaG{a:E}{P:Src×Nat->S->Prop}(h:W (ev sub aj F a τ) s λx s1=>W (sY x) s1 P):W (nU sub aj F (.enum a) τ) s P:=W.bd h
theorem KaF{xs:List D}{P:Src×Nat->S->Prop}(h:P (.fix (enumFrom 0 xs),(enumFrom 0 xs).length) s):W (sY (.d (.fl xs))) s P:=⟨_,s,rfl,h⟩
theorem KaH{a b:E}{P:Src×Nat->S->Prop}(h:W (ev sub aj F a τ) s λx s1=>W (ev sub aj F b τ) s1 λy s2=>W (Mi.int x) s2 λi s3=>W (Mi.int y) s3 λj s4=>(fQ i&&fQ j)=true/\P (.fix (jh i j),(jh i j).length) s4):W (nU sub aj F (.rg a b) τ) s P:=by
 refine W.bd (h.imp λx s1 h=>W.bd (h.imp λy s2 h=>W.bd (h.imp λi s3 h=>W.bd (h.imp λj s4 h=>?_))));rw[if_pos h.1];exact W.ret h.2
theorem KaJ{a b:E}{P:Src×Nat->S->Prop}(h:W (ev sub aj F a τ) s λx s1=>W (ev sub aj F b τ) s1 λy s2=>W (oN x) s2 λxs s3=>W (oN y) s3 λys s4=>P (.fix (List.zipWith (λp q=>.tup [p,q]) xs ys),(List.zipWith (λ(p q:D)=>D.tup [p,q]) xs ys).length) s4):W (nU sub aj F (.zip a b) τ) s P:=
 W.bd (h.imp λx s1 h=>W.bd (h.imp λy s2 h=>W.bd (h.imp λxs s3 h=>W.bd (h.imp λys s4 h=>W.ret h))))
theorem W.jx{xs:List D}{P:List D->S->Prop}(h:P xs s):W (oN (.d (.tup xs))) s P:=W.ret h
theorem W.uK{xs:List D}{P:List D->S->Prop}(h:P xs s):W (oN (.d (.fl xs))) s P:=W.ret h
theorem Kai{P:Bool->S->Prop}(h:P true s):W (qY sub aj F .no τ) s P:=W.ret h
theorem Kaj{a:E}{P:Bool->S->Prop}(h:W (ev sub aj F a τ) s λx s1=>W (Mi.bool x) s1 P):W (qY sub aj F (.yes a) τ) s P:=W.bd h
theorem nD{α:Type}{f:α->D}{l:List α}{fz:Bool}{elt:E}{tg:List Nat}{it:Wk}{fr:List Nat}{many:Nat}{cond:Eo}(g:α->Option D)(hc:l.length<=sizeLine)
  (hw:W (nU sub true F it τ) s λcn s1=>cn=(.fix (l.map f),(l.map f).length)/\s1=s)
  (hb:∀x∈l,oX (jW tg (f x) (blk many fr τ)) λτ'=>W (qY sub true F cond τ') s λb s1=>s1=s/\(b=true->W (ev sub true F elt τ') s λy s2=>s2=s/\∃d,y=.d d/\g x=some d)/\(b=false->g x=none))
  (h:W (newL fz (l.filterMap g)) s P):W (ev sub true F (.comp fz elt tg it fr many cond) τ) s P:=by
 change W (_root_.ite (true=true) _ _) s P
 rw[if_pos rfl];refine W.bd (hw.imp λcn s1=>?_);rintro⟨rfl,rfl⟩;refine W.bd ?_;refine W.walk (c:=l.map f) (λi acc s'=>s'=s1/\acc=(l.take i).filterMap g) ⟨rfl,rfl⟩ (λi x acc s' e hI=>?_) (λacc s' hI=>?_)
 ·obtain⟨rfl,rfl⟩:=hI;rw[je] at e;cases el:l[i]? with
  |none=>rw[el] at e;cases e
  |some y=>
   rw[el] at e;cases e;have hi:i<l.length:=(jo.mp el).1;have ht:l.take (i+1)=l.take i++[y]:=by rw[List.take_succ,el];rfl
   have hl:((l.take i).filterMap g).length<sizeLine:=Nat.lt_of_le_of_lt (List.length_filterMap_le _ _) (by rw[wV];lia);obtain⟨τ',e1,h1⟩:=hb y (gU el);refine W.bd (W.opt e1 ?_);refine W.bd (W.qt (h1.imp λb s2=>?_));rintro⟨rfl,h2,h3⟩;rw[ht,List.filterMap_append];cases b
   ·rw[if_neg (by decide)];refine W.ret ⟨rfl,?_⟩;simp[h3 rfl]
   ·rw[if_pos rfl];refine W.bd (W.qt ((h2 rfl).imp λy s3=>?_));rintro⟨rfl,d,rfl,eg⟩;refine W.bd (W.dat ?_);rw[if_pos hl];refine W.ret ⟨rfl,?_⟩;simp[eg]
 ·obtain⟨rfl,rfl⟩:=hI;rw[bJ,Ik];exact h
theorem Wb{c:List D}{fz:Bool}{elt:E}{tg:List Nat}{it:Wk}{fr:List Nat}{many:Nat}{cond:Eo}(I:Nat->List D->S->Prop)
  (hw:W (nU sub true F it τ) s λcn s1=>cn=(.fix c,c.length)/\I 0 [] s1)
  (hb:∀i x acc s,c[i]?=some x->I i acc s->oX (jW tg x (blk many fr τ)) λτ'=>W (qY sub true F cond τ') s λb s1=>(b=true->W (ev sub true F elt τ') s1 λy s2=>∃d,y=.d d/\acc.length<sizeLine/\I (i+1) (acc++[d]) s2)/\(b=false->I (i+1) acc s1))
  (h:∀acc s,I c.length acc s->W (newL fz acc) s P):W (ev sub true F (.comp fz elt tg it fr many cond) τ) s P:=by
 change W (_root_.ite (true=true) _ _) s P
 rw[if_pos rfl];refine W.bd (hw.imp λcn s1=>?_);rintro⟨rfl,h0⟩;refine W.bd ?_;refine W.walk (c:=c) I h0 (λi x acc s' e hI=>?_) (λacc s' hI=>h acc s' hI);obtain⟨τ',e1,h1⟩:=hb i x acc s' e hI;refine W.bd (W.opt e1 ?_);refine W.bd (W.qt (h1.imp λb s2=>?_));rintro⟨h2,h3⟩;cases b
 ·rw[if_neg (by decide)];exact W.ret (h3 rfl)
 ·rw[if_pos rfl];refine W.bd (W.qt ((h2 rfl).imp λy s3=>?_));rintro⟨d,rfl,hl,hi⟩;refine W.bd (W.dat ?_);rw[if_pos hl];exact W.ret hi
theorem W.push{o a:E}(h:W (ev sub aj F o τ) s λx s1=>W (Mi.cJ x) s1 λ_ s2=>W (ev sub aj F a τ) s2 λy s3=>W (Mi.dat y) s3 λd s4=>W (Mi.cJ x) s4 λnx s5=>nx.2.length<sizeLine/\P (.d .non) (s5.set nx.1 (.lst (nx.2++[d])))):W (ev sub aj F (.push o a) τ) s P:=by
 refine W.bd (h.imp λx s1 h=>W.bd (h.imp λ_ s2 h=>W.bd (h.imp λy s3 h=>W.bd (h.imp λd s4 h=>W.bd (h.imp λnx s5 h=>?_)))));rw[if_pos h.1];exact W.bd (Jy (W.ret h.2))
end
theorem Wc{s:S}{o:SO}:(s++[o])[s.length]?=some o:=by simp
theorem zh4:(s++[o]).set s.length o'=s++[o']:=by simp
theorem Y{P R:Prop}(k:R)(h:Bx R->P:=by
 intro k
 repeat (first|with_reducible first
   |refine Ka8 (by with_unfolding_all rfl) ?_|refine Ka9 (by with_unfolding_all rfl) ?_|refine Ka7 (by with_unfolding_all rfl) ?_|refine W.pv (by with_unfolding_all rfl) ?_|refine KaS (by with_unfolding_all rfl) ?_|refine KaR (by with_unfolding_all rfl) ?_
   |refine WS.cons ?_|refine WS.nil ?_|refine Kbm ?_|refine Kbk ?_|refine Kbl ?_|refine V8 ?_|refine V9 ?_|refine yp ?_|refine Kbj ?_|refine Kbi ?_|refine Kbf ?_|refine V7 ?_|refine Kbc ?_|refine Kbh ?_|refine WS.qK ?_|refine WS.Ah ?_|refine WS.GK (by with_unfolding_all rfl) ?_|refine WS.Cq (by with_unfolding_all rfl) ?_|refine oX.mk (by with_unfolding_all rfl) ?_
   |refine GJ ?_|refine Jz ?_|refine W.eC ?_|refine W.eV (by with_unfolding_all rfl) ?_|refine Ox ?_|refine V6 ?_|refine KaE ?_|refine Kaz ?_|refine KaA ?_|refine Kat ?_|refine KaB ?_|refine Kay ?_|refine W.gw ?_|refine W.qz ?_|refine W.push ?_|refine KaD ?_|refine Kaw ?_|refine KaM ?_|refine KaN ?_|refine KaI ?_|refine KaH ?_|refine KaJ ?_|refine KaG ?_|refine Kai ?_|refine Kaj ?_|refine W.qK ?_|refine W.Ah ?_|refine W.GK (by with_unfolding_all rfl) ?_|refine W.Cq (by with_unfolding_all rfl) ?_
   |refine GF ?_|refine Ou ?_|refine Ag ?_|refine V3 (by with_unfolding_all rfl) ?_|refine V3 Wc ?_|refine Ov ?_|refine V4 ?_|refine W.dat ?_|refine W.bool ?_|refine W.int ?_|refine W.cJ (by with_unfolding_all rfl) ?_|refine W.cJ Wc ?_|refine Jy ?_|refine KaY ?_|refine KaF ?_|refine W.jx ?_|refine W.uK ?_|refine KaX ?_|refine KaL ?_|refine KaK ?_
   |refine bW (by first|(with_unfolding_all rfl)|exact znh (by first|(left;constructor<;>lia)|(right;constructor<;>lia))|exact znm (by lia)|exact zl5 (by lia)|exact zii (by lia)|exact zm7 (by decide)) ?_|refine Cp (by with_unfolding_all rfl) ?_
   |refine W.ret ?_|refine W.bd ?_
   | (dsimp only))
 all_goals exact k.o):P:=h ⟨k⟩
def lx(p q:Int×Int):Prop:=p.1<q.1\/p.1=q.1/\p.2<q.2
noncomputable def bQ(n:Int)(ps:List (Int×Int)):D:=.tup [.int n,.tup (ps.map bO)]
structure Web(n:Int)(ps:List (Int×Int)):Prop where
 h1:1<=n
 h8:n<=8
 tie:∀p∈ps,0<=p.1/\p.1<p.2/\p.2<n
 inc:ps.Pairwise lx
 len:(ps.length:Int)<=7*n
theorem Wd(p q:Int×Int):cO (k+1) (bO p) (bO q)=some (decide (p=q)):=by
 show dZ (cO k) [.int p.1,.int p.2] [.int q.1,.int q.2]=_;have hi:∀a b:Int,cO k (.int a) (.int b)=some (a==b):=by intro a b;cases k<;>rfl
 simp only[dZ,hi];obtain⟨a,b⟩:=p;obtain⟨c,d⟩:=q;by_cases h1:a=c
 ·by_cases h2:b=d
  ·simp[h1,h2]
  ·simp[h1,h2]
 ·simp[h1]
theorem zkI(p:Int×Int)(ps:List (Int×Int)):memD (bO p) (ps.map bO)=some (decide (p∈ps)):=by
 induction ps with
 |nil=>rfl
 |cons q r ih=>
  simp only[jA,memD,ih,Wd]
  congr 1
  rw[<-Bool.decide_or];apply rK.mpr;rw[cM]
  constructor
  ·rintro(h|h)
   ·exact .inl h.symm
   ·exact .inr h
  ·rintro(h|h)
   ·exact .inl h.symm
   ·exact .inr h
theorem Wf{f:Bool->Bool}{p:Int×Int}{ps:List (Int×Int)}:zK f [bO p,.tup (ps.map bO)]=some (.dat (.bl (f (decide (p∈ps))))):=by
 show Option.map _ (memD (bO p) (ps.map bO))=_;rw[zkI];rfl
theorem O1(xs:List D):cut xs (some 1) none=xs.drop 1:=by
 unfold cut;rw[HT.sG];rw[show (some 1:Option Int)=some ((1:Nat):Int) from rfl,HT.vL];cases xs with
 |nil=>rfl
 |cons x r=>simp
theorem zk2{p:Int×Int}:¬lx p p:=by rintro(h|⟨_,h⟩)<;>lia
theorem Wg{ps:List (Int×Int)}(h:ps.Pairwise lx):ps.Nodup:=h.imp λ{p q} h e=>by subst e;exact zk2 h
theorem zfZ(h:BP xs=some ys):prim .sorted [.fl xs]=some (.nw ys):=by
 show Option.map Rz.nw (BP xs)=_;rw[h];rfl
theorem O2:∀{es:List Int} {a n:Int},es.Pairwise (·<·)->(∀e∈es,a<=e/\e<n)->a<=n->(es.length:Int)<=n-a
 |[],a,n,_,_,h=>by simp;lia
 |e::r,a,n,h,hb,ha=>by
  obtain⟨h1,h2⟩:=yJ.mp h;have he:=hb e (by simp);have:=O2 (es:=r) (a:=e+1) (n:=n) h2 (λx hx=>⟨by have:=h1 x hx;lia,(hb x (by simp[hx])).2⟩) (by lia);rw[gY]
  lia
theorem Aj{a b:Int}{i:Nat}{x:D}(h:(jh a b)[i]?=some x):x=.int (a+i)/\a+i<b:=by
 unfold jh at h;rw[je] at h;cases e:(List.range (b-a).toNat)[i]? with
 |none=>rw[e] at h;cases h
 |some j=>
  rw[e] at h;cases h;obtain⟨hl,rfl⟩:=jo.mp e;rw[Ih] at hl;rw[List.getElem_range];exact⟨rfl,by lia⟩
theorem O4:(jh a b).length=(b-a).toNat:=by unfold jh;simp
theorem uU(h1 : -1000<=a)(h2:a<=1000):fQ a=true:=by
 unfold fQ;rw[cT (by lia),cT (by lia)];rfl
theorem wK(hl:locs xs=[s.length])(h:W (F (dJ 0 xs)) [o] λv s1=>∃d o',v=.d d/\s1=[o']/\P (.d d) (s++[o'])):W (cH F xs) (s++[o]) P:=by
 refine V5 (n:=s.length) (o:=o) hl (by simp) (h.imp λv s1=>?_);rintro⟨d,o',rfl,rfl,hp⟩;exact⟨d,o',rfl,rfl,by rw[show (s++[o]).set s.length o'=s++[o'] by simp];exact hp⟩
theorem zjT{ns:List Int}{lo hi:Option Int}{x:D}(h:x∈cut (ns.map D.int) lo hi):∃n,x=.int n:=by
 have:=List.mem_of_mem_drop (List.mem_of_mem_take h);obtain⟨n,_,rfl⟩:=fj.mp this;exact⟨n,rfl⟩
theorem zjM{ns:List Int}{lo hi:Option Int}:(cut (ns.map D.int) lo hi).length<=ns.length:=by
 unfold cut;rw[wV,Dh,bJ]
 lia
theorem Wh{α:Type}[DecidableEq α]:∀{l m:List α},l.Nodup->(∀x∈l,x∈m)->l.length<=m.length
 |[],m,_,_=>n_ _
 |x::r,m,h,hm=>by
  obtain⟨h1,h2⟩:=qm.mp h;have hx:x∈m:=hm x (by simp);have:=Wh (l:=r) (m:=m.erase x) h2 λy hy=>(List.mem_erase_of_ne (λe=>by subst e;exact h1 hy)).mpr (hm y (by simp[hy]));rw[List.length_erase_of_mem hx] at this;have:=List.length_pos_of_mem hx;rw[gY]
  lia
section
variable {sub:Nat->Nat->Bool}{F:Fn}{τ:Vs}{s:S}{P:Xv->S->Prop}
end
theorem Ka2(R:Vs->S->Prop)(h:WS (ex sub aj F a τ) s λo s'=>∃τ',o=.nx τ'/\R τ' s')(h2:∀τ' s',R τ' s'->WS (exs sub aj F r τ') s' Q):WS (exs sub aj F (.cons a r) τ) s Q:=
 WS.cons (h.imp λo s' ⟨τ',e,hr⟩=>by subst e;exact h2 τ' s' hr)
theorem zfj(fs:List Int):fP (fs.map D.int)=some fs:=by
 induction fs with
 |nil=>rfl
 |cons a r ih=>
  show Option.map _ (fP (r.map D.int))=_;rw[ih];rfl
noncomputable def at'(fs:List Int)(j:Int):Int:=fs.getD j.toNat 0
theorem zk4{fs:List Int}{j:Int}(h0:0<=j)(h:j<fs.length):∃(i:Nat) (hi:i<fs.length),j=i/\at' fs j=fs[i]:=by
 obtain⟨i,rfl⟩:=CT h0;have hi:i<fs.length:=by lia
 refine⟨i,hi,rfl,?_⟩;unfold at';rw[vf,kj,fD hi];rfl
theorem Wi{fs:List Int}{j:Int}(h0:0<=j)(h:j<fs.length):(fs.map D.int)[j.toNat]?=some (.int (at' fs j)):=by
 obtain⟨i,hi,rfl,e⟩:=zk4 h0 h;rw[e,vf,je,fD hi];rfl
theorem zke:at' (fs++[x]) fs.length=x:=by
 unfold at';rw[vf,kj,nM (cg _)];simp
theorem Wj(h0:0<=j)(h:xs[j.toNat]?=some x):prim .ix [.fl xs,.int j]=some (.dat x):=by
 obtain⟨k,rfl⟩:=CT h0;exact ud h
theorem zmV(h0:0<=j)(h:j<fs.length):prim .ix [.fl (fs.map .int),.int j]=some (.dat (.int (at' fs j))):=Wj h0 (Wi h0 h)
theorem JF(h0:0<=j)(h:j<fs.length):prim .ix [.tup (fs.map .int),.int j]=some (.dat (.int (at' fs j))):=Wj h0 (Wi h0 h)
theorem O5:L2.qW (n+1) (-1)=some n:=by
 unfold L2.qW;simp
 lia
theorem Ak:prim .ix [.fl (xs++[x]),.int (-1)]=some (.dat x):=by
 show Option.map Rz.dat (L2.pI (xs++[x]) (-1))=_;have:L2.pI (xs++[x]) (-1)=some x:=by
  unfold L2.pI;rw[cX];show (L2.qW (xs.length+1) (-1)).bind _=_;rw[O5];simp
 rw[this];rfl
noncomputable def gO(k a b:Int):Int:=if k-(if a-b<0 then -(a-b) else a-b)<(if a-b<0 then -(a-b) else a-b) then k-(if a-b<0 then -(a-b) else a-b) else (if a-b<0 then -(a-b) else a-b)
theorem zjB(j:Int)(ls:List Int):memD (.int j) (ls.map .int)=some (decide (j∈ls)):=by
 induction ls with
 |nil=>rfl
 |cons q r ih=>
  have hi:cO 50 (.int q) (.int j)=some (q==j):=rfl;simp only[jA,memD,ih,hi]
  congr 1
  by_cases h:q=j
  ·subst h;simp
  ·have h2:¬j=q:=λe=>h e.symm;simp[h,h2]
structure uh(n k d:Int)(ps:List (Int×Int))(hs:List Int):Prop where
 len:(hs.length:Int)=n
 lo:∀x∈hs,0<=x/\x<k
 fit:∀p∈ps,d<=gO k (at' hs p.1) (at' hs p.2)
section
variable {sub:Nat->Nat->Bool}{aj:Bool}{F:Bool->Fn}{τ:Vs}{s:S}{Q:Out->S->Prop}
theorem WS.wh(I:Nat->Vs->S->Prop)(hm:m<m5)(h0:I m τ s)
  (step:∀m τ s,I m τ s->W (ev sub aj (F aj) c τ) s λx s1=>W (Mi.bool x) s1 λk s2=>(k=true->WS (exs sub aj F b τ) s2 λo s3=>(∃τ' m',o=.nx τ'/\m'<m/\I m' τ' s3)\/(∃x,o=.rt x/\Q (.rt x) s3))/\(k=false->Q (.nx τ) s2)):WS (ex sub aj F (.wh c b) τ) s Q:=by
 have key:∀n m τ s,m<n->I m τ s->WS (gK (λτ=>M.bd (ev sub aj (F aj) c τ) Mi.bool) (λτ=>exs sub aj F b τ) n τ) s Q:=by
  intro n
  induction n with
  |zero=>intro m τ s h;exact absurd h (Nat.not_lt_zero _)
  |succ n ih=>
   intro m τ s hmn hI;obtain⟨x,s1,e1,k,s2,e2,hk⟩:=step m τ s hI;unfold gK;refine WS.ofM (W.bd ⟨x,s1,e1,k,s2,e2,?_⟩);cases k with
   |false=>exact⟨_,s2,by rw[if_neg (by decide)],hk.2 rfl⟩
   |true=>
    obtain⟨o,s3,e3,hr⟩:=hk.1 rfl;rcases hr with ⟨τ',m',rfl,hm',hI'⟩|⟨x,rfl,hq⟩
    ·obtain⟨o2,s4,e4,q⟩:=ih m' τ' s3 (by lia) hI';exact⟨o2,s4,by rw[if_pos rfl,e3];exact e4,q⟩
    ·exact⟨_,s3,by rw[if_pos rfl,e3],hq⟩
 exact key m5 m τ s hm h0
end
section
variable {sub:Nat->Nat->Bool}{aj:Bool}{F:Fn}{τ:Vs}{s:S}{P:Xv->S->Prop}
theorem W.pop(h:W (ev sub aj F o τ) s λv s1=>v=.l n/\s1[n]?=some (.lst (xs++[x]))/\P (.d x) (s1.set n (.lst xs))):W (ev sub aj F (.pop o) τ) s P:=by
 refine W.bd (h.imp λv s1 h=>?_);obtain⟨rfl,e,h⟩:=h;refine W.bd (W.cJ e ?_);have e1:(xs++[x]).getLast?=some x:=by simp
 have e2:(xs++[x]).dropLast=xs:=by simp
 simp only[e1,e2];exact W.bd (Jy (W.ret h))
end
noncomputable def val(B:Nat):List Int->Nat->Nat
 |[],_=>0
 |x::r,n=>x.toNat*B^(n-1)+val B r (n-1)
theorem Al(B:Nat):∀(r t:List Int) (n:Nat),val B (r++t) n=val B r n+val B t (n-r.length)
 |[],t,n=>by simp[val]
 |x::r,t,n=>by
  simp only[List.cons_append,val,Al B r t (n-1),gY];rw[show n-1-r.length=n-(r.length+1) by lia]
  lia
theorem O6{B:Nat}(hB:0<B):∀{r:List Int} {n:Nat},(∀z∈r,z<B)->r.length<=n->val B r n+B^(n-r.length)<=B^n
 |[],n,_,_=>by simp[val]
 |x::r,n,h,hl=>by
  rw[gY] at hl;have ih:=O6 hB (r:=r) (n:=n-1) (λz hz=>h z (by simp[hz])) (by lia);have hx:x.toNat+1<=B:=by have:=h x (by simp);lia
  simp only[val,gY];rw[show n-(r.length+1)=n-1-r.length by lia];have h2:B^n=B*B^(n-1):=by
   conv=>lhs;rw[show n=n-1+1 by lia]
   rw[Nat.pow_succ,Nat.mul_comm]
  rw[h2];have h3:=Nat.mul_le_mul_right (B^(n-1)) hx;rw[Nat.succ_mul] at h3
  lia
noncomputable def left'(B n:Nat)(r:List Int):Nat:=(n+1)*(B^n-val B r n)+(n-r.length)
theorem zf9(h:r.length<n):left' B n (r++[0])<left' B n r:=by
 unfold left';rw[Al];simp[val]
 lia
theorem Wm{B n a b la lb:Nat}(h:a<b)(hb:b<=B^n)(hl:la<=n)(hl2:lb<=n):(n+1)*(B^n-b)+(n-lb)<(n+1)*(B^n-a)+(n-la):=by
 have:B^n-b+1<=B^n-a:=by lia
 have:=K7 (n+1) this;rw[Nat.mul_add] at this
 lia
theorem zh2{B n:Nat}{r:List Int}{x:Int}(h0:0<=x)(hx:x+1<B)(hr:∀z∈r,z<B)(h:r.length<n):left' B n (r++[x+1])<left' B n (r++[x]):=by
 have h1:=O6 (B:=B) (by lia) (r:=r++[x+1]) (n:=n) (λz hz=>by
  rcases fG.mp hz with hz|hz
  ·exact hr z hz
  ·have:z=x+1:=by simpa using hz
   lia) (by rw[cX];simp;lia)
 unfold left';refine Wm ?_ (by lia) (by simp;lia) (by simp;lia);rw[Al,Al];simp only[val];rw[show (x+1).toNat=x.toNat+1 by lia,Nat.succ_mul];have:0<B^(n-r.length-1):=Nat.pow_pos (by lia)
 lia
theorem zhC{B n:Nat}{r:List Int}{y x:Int}(h0:0<=y)(hy:y+1<B)(hx0:0<=x)(hx:x<B)(hr:∀z∈r,z<B)(h:r.length+1<n):left' B n (r++[y+1])<left' B n (r++[y]++[x]):=by
 have h1:=O6 (B:=B) (by lia) (r:=r++[y+1]) (n:=n) (λz hz=>by
  rcases fG.mp hz with hz|hz
  ·exact hr z hz
  ·have:z=y+1:=by simpa using hz
   lia) (by rw[cX];simp;lia)
 unfold left';refine Wm ?_ (by lia) (by simp;lia) (by simp;lia);rw[Al,Al,Al];simp only[val,cX];rw[show (y+1).toNat=y.toNat+1 by lia,Nat.succ_mul];have e1:B^(n-r.length-1)=B*B^(n-(r.length+[y].length)-1):=by
  conv=>lhs;rw[show n-r.length-1=n-(r.length+[y].length)-1+1 by simp;lia]
  rw[Nat.pow_succ,Nat.mul_comm]
 have h2:x.toNat+1<=B:=by lia
 have h3:=Nat.mul_le_mul_right (B^(n-(r.length+[y].length)-1)) h2;rw[Nat.succ_mul] at h3;have:0<B^(n-(r.length+[y].length)-1):=Nat.pow_pos (by lia)
 lia
theorem ziM(xs:List D):cO 50 (.fl xs) (.fl [])=some (decide (xs=[])):=by
 cases xs with
 |nil=>rfl
 |cons x r=>rfl
theorem zhy(xs:List D):cO 50 (.tup xs) (.tup [])=some (decide (xs=[])):=by
 cases xs with
 |nil=>rfl
 |cons x r=>rfl
theorem Cu:xO f [.fl xs,.fl []]=some (.dat (.bl (f (decide (xs=[]))))):=by
 show Option.map _ (cO 50 (.fl xs) (.fl []))=_;rw[ziM];rfl
theorem Wn:xO f [.tup xs,.tup []]=some (.dat (.bl (f (decide (xs=[]))))):=by
 show Option.map _ (cO 50 (.tup xs) (.tup []))=_;rw[zhy];rfl
theorem Wo{f:Bool->Bool}{j:Int}{ls:List Int}:zK f [.int j,.fl (ls.map .int)]=some (.dat (.bl (f (decide (j∈ls))))):=by
 show Option.map _ (memD (.int j) (ls.map .int))=_;rw[zjB];rfl
noncomputable def aM(k d:Int):D:=.tup [.int k,.int d]
noncomputable def mD(k d:Int)(ps:List (Int×Int))(hs:List Int):Bool:=ps.all λp=>decide (d<=gO k (at' hs p.1) (at' hs p.2))
theorem iH:mD k d ps hs=true↔∀p∈ps,d<=gO k (at' hs p.1) (at' hs p.2):=by
 unfold mD;rw[gb];exact⟨λh p hp=>gj (h p hp),λh p hp=>cT (h p hp)⟩
section
variable {n k d:Int}{ps:List (Int×Int)}{ls:List Int}
end
section
variable {sub:Nat->Nat->Bool}{F:Fn}{τ:Vs}{s:S}{P:Xv->S->Prop}
end
theorem uo{α:Type}{l:List α}{f:α->D}:l.filterMap (λx=>some (f x))=l.map f:=by
 rw[<-List.filterMap_eq_map];rfl
theorem Wq(I:Nat->Vs->S->Prop)(h0:I 0 τ s)(hb:∀i x τ s,c[i]?=some x->I i τ s->WS (b x τ) s λo s'=>(∃τ',o=.nx τ'/\I (i+1) τ' s')\/(∃x,o=.rt x/\Q (.rt x) s'))
  (he:∀τ s,I c.length τ s->Q (.nx τ) s):WS (dO (.fix c) b (c.length+1) 0 τ) s Q:=by
 have key:∀n i τ s,i+n=c.length->I i τ s->WS (dO (.fix c) b (n+1) i τ) s Q:=by
  intro n
  induction n with
  |zero=>
   intro i τ s hi hI;have e:c[i]?=none:=by rw[pA];lia
   have:i=c.length:=by lia
   subst this;refine⟨_,s,?_,he τ s hI⟩;unfold dO;simp only[Src.at,e]
  |succ n ih=>
   intro i τ s hi hI;have hlt:i<c.length:=by lia
   have e:c[i]?=some c[i]:=fD hlt;obtain⟨o,s',eb,hr⟩:=hb i c[i] τ s e hI;rcases hr with ⟨τ',rfl,hI'⟩|⟨x,rfl,hq⟩
   ·obtain⟨o2,s2,e2,q⟩:=ih (i+1) τ' s' (by lia) hI';refine⟨o2,s2,?_,q⟩;unfold dO;simp only[Src.at,e,eb];exact e2
   ·refine⟨_,s',?_,hq⟩;unfold dO;simp only[Src.at,e,eb]
 exact key c.length 0 τ s (by lia) h0
theorem qM(h:xs.length+ys.length<=sizeLine):prim .add [.tup xs,.tup ys]=some (.dat (.tup (xs++ys))):=by
 show (if _ then _ else _)=_;rw[if_pos h]
noncomputable def iK:D->Bool
 |.exc _ _=>false
 |.ob _ _=>false
 |_=>true
noncomputable def O7:D->Bool
 |.int _=>true
 |_=>false
noncomputable def fU:D->Bool
 |.tup xs=>xs.all iK
 |d=>iK d
theorem zfO{α:Type}(l:List α)(f:α->Bool):gC (l.map λx=>D.bl (f x))=some (l.map f):=by
 induction l with
 |nil=>rfl
 |cons x r ih=>
  show Option.map _ (gC (r.map λx=>D.bl (f x)))=_;rw[ih];rfl
theorem JL{α:Type}{l:List α}{f:α->Bool}:prim .all [.fl (l.map λx=>D.bl (f x))]=some (.dat (.bl (l.all f))):=by
 show Option.map _ (gC (l.map λx=>D.bl (f x)))=_;rw[zfO];show some (Rz.dat (.bl ((l.map f).all id)))=_;rw[Bp];rfl
theorem Cv(h:x∈cut xs lo hi):x∈xs:=List.mem_of_mem_drop (List.mem_of_mem_take h)
theorem Cw:(cut xs lo hi).length<=xs.length:=by
 unfold cut;rw[wV,Dh]
 lia
section
variable {n m:Int}{ps:List (Int×Int)}
end
end Mi
namespace Mi
open PySem PySem.W PyProof.Rows L2
structure Ord(n:Nat)(lt:Nat->Nat->Option Bool)(le:Nat->Nat->Prop):Prop where
 ans:∀i j,i<n->j<n->(lt i j=some true/\le i j)\/(lt i j=some false/\le j i)
 tr:∀i j k,i<n->j<n->k<n->le i j->le j k->le i k
section
variable {lt:Nat->Nat->Option Bool}{le:Nat->Nat->Prop}{n:Nat}
theorem Ord.rfl'(o:Ord n lt le)(hi:i<n):le i i:=by
 rcases o.ans i i hi hi with ⟨_,e⟩|⟨_,e⟩<;>exact e
def fV(le:Nat->Nat->Prop)(p:Array Nat)(r:Nat):Prop:=∀a b,a<b->b<r->le (p.getD a 0) (p.getD b 0)
def uV(le:Nat->Nat->Prop)(p:Array Nat)(r:Nat):Prop:=∀a b,a<b->b<r->le (p.getD b 0) (p.getD a 0)
def GZ(le:Nat->Nat->Prop)(p:Array Nat)(l r:Nat):Prop:=∀a b,l<=a->a<r->l<=b->b<r->le (p.getD a 0) (p.getD b 0)
theorem getD_get?{p q:Array Nat}{i j:Nat}(h:p[i]?=q[j]?):p.getD i 0=q.getD j 0:=by
 have e:∀(x:Array Nat) (k:Nat),x.getD k 0=(x[k]?).getD 0:=by
  intro x k;unfold Array.getD
  split
  ·rename_i h;rw[CQ h];rfl
  ·rename_i h;rw[Array.getElem?_eq_none (by lia)];rfl
 rw[e,e,h]
theorem cG.size{p:Array Nat}(h:cG n p):p.size=n:=by have:=h.size_eq;simpa using this
theorem uW{p:Array Nat}{i j k:Nat}(hj:j<=p.size):(kas_rev p i j).getD k 0=if i<=k/\k<j then p.getD (i+j-1-k) 0 else p.getD k 0:=by
 have:=getElem?_mirror_all (xs:=p) (i:=i) hj k;unfold kas_rev
 split
 ·rename_i h;rw[if_pos h] at this;exact getD_get? this
 ·rename_i h;rw[if_neg h] at this;exact getD_get? this
theorem Wr{p:Array Nat}{src d k:Nat}(hs:src<p.size)(hd:d<=src):(bubble p src d).getD k 0=if k=src-d then p.getD src 0 else if src-d<k/\k<=src then p.getD (k-1) 0 else p.getD k 0:=by
 have:=getElem?_bubble hs d hd k;by_cases h:k=src-d
 ·rw[if_pos h] at this ⊢;exact getD_get? this
 ·rw[if_neg h] at this ⊢;by_cases h2:src-d<k/\k<=src
  ·rw[if_pos h2] at this ⊢;exact getD_get? this
  ·rw[if_neg h2] at this ⊢;exact getD_get? this
variable (o:Ord n lt le)(hn:0<n)
include o hn
theorem uq(hi:i<n)(hj:j<n)(h1:le i j->jF lt (k true) P)(h2:le j i->jF lt (k false) P):jF lt (.ask i j k) P:=by
 rcases o.ans i j hi hj with ⟨e,hl⟩|⟨e,hl⟩
 ·obtain⟨a,e1,q⟩:=h1 hl;exact⟨a,by unfold bD;rw[e];exact e1,q⟩
 ·obtain⟨a,e1,q⟩:=h2 hl;exact⟨a,by unfold bD;rw[e];exact e1,q⟩
theorem zhx(hp:cG n p)(hk:1<=k)(h:fV le p k)(hl:le (p.getD (k-1) 0) (p.getD k 0)):fV le p (k+1):=λa b hab hb=>by
 by_cases e:b=k
 ·subst e;by_cases e2:a=b-1
  ·subst e2;exact hl
  ·exact o.tr _ _ _ (hp.lt hn _) (hp.lt hn _) (hp.lt hn _) (h a (b-1) (by lia) (by lia)) hl
 ·exact h a b hab (by lia)
theorem G3(hp:cG n p)(hk:1<=k)(h:uV le p k)(hl:le (p.getD k 0) (p.getD (k-1) 0)):uV le p (k+1):=λa b hab hb=>by
 by_cases e:b=k
 ·subst e;by_cases e2:a=b-1
  ·subst e2;exact hl
  ·exact o.tr _ _ _ (hp.lt hn _) (hp.lt hn _) (hp.lt hn _) hl (h a (b-1) (by lia) (by lia))
 ·exact h a b hab (by lia)
theorem O8(hp:cG n p):∀f k,1<=k->k+f<=n->fV le p k->jF lt (kas_asc p f k) λr=>k<=r/\r<=k+f/\fV le p r/\(r<k+f->le (p.getD r 0) (p.getD (r-1) 0))
 |0,k,_,_,h=>.ret ⟨cg _,by lia,h,λz=>by lia⟩
 |f+1,k,hk,hkf,h=>uq o hn (hp.lt hn _) (hp.lt hn _) (λhl=>.ret ⟨cg _,by lia,h,λ_=>hl⟩) λhl=>by
  obtain⟨r,e,h1,h2,h3,h4⟩:=O8 hp f (k+1) (by lia) (by lia) (zhx o hn hp hk h hl);exact⟨r,e,by lia,by lia,h3,λz=>h4 (by lia)⟩
theorem Ws(hp:cG n p)(hk:k<=n)(h:uV le p k)(ha:GZ le p l k):uV le (kas_rev p l k) k:=λa b hab hb=>by
 have hs:=hp.size;rw[uW (by lia),uW (by lia)];by_cases ca:l<=a/\a<k
 ·rw[if_pos ca,if_pos (by lia)];exact ha _ _ (by lia) (by lia) (by lia) (by lia)
 ·rw[if_neg ca];by_cases cb:l<=b/\b<k
  ·rw[if_pos cb];exact h a _ (by lia) (by lia)
  ·rw[if_neg cb];exact h a b hab hb
theorem JM:∀f {p:Array Nat} k q,cG n p->1<=k->k+f<=n->q+1<=k->uV le p k->GZ le p (k-(q+1)) k->jF lt (kas_desc f p k q) λr=>cG n r.1/\k<=r.2.1/\r.2.1<=k+f/\r.2.2+1<=r.2.1/\uV le r.1 r.2.1/\GZ le r.1 (r.2.1-(r.2.2+1)) r.2.1
 |0,p,k,q,hp,_,_,hq,h,ha=>.ret ⟨hp,cg _,by dsimp only;lia,hq,h,ha⟩
 |f+1,p,k,q,hp,hk,hkf,hq,h,ha=>uq o hn (hp.lt hn _) (hp.lt hn _) (λhl=>by
   show jF lt (if q>0 then _ else _) _;have hs:=hp.size;have one:∀{x:Array Nat},cG n x->GZ le x (k+1-(0+1)) (k+1):=λ{x} hx a b h1 h2 h3 h4=>by
    have:a=k:=by lia
    have:b=k:=by lia
    subst a;subst b;exact o.rfl' (hx.lt hn _)
   split
   ·have hp':=hp.rev (k-(q+1)) k;have h':uV le (kas_rev p (k-(q+1)) k) (k+1):=G3 o hn hp' hk (Ws o hn hp (by lia) h ha) (by
     rw[uW (by lia),uW (by lia),if_neg (by lia),if_pos (by lia)];refine o.tr _ _ _ (hp.lt hn _) (hp.lt hn _) (hp.lt hn _) hl (ha _ _ (by lia) (by lia) (by lia) (by lia)))
    obtain⟨r,e,w⟩:=JM f (k+1) 0 hp' (by lia) (by lia) (by lia) h' (one hp');exact⟨r,e,w.1,by lia,by lia,w.2.2.2⟩
   ·obtain⟨r,e,w⟩:=JM f (k+1) 0 hp (by lia) (by lia) (by lia) (G3 o hn hp hk h hl) (one hp);exact⟨r,e,w.1,by lia,by lia,w.2.2.2⟩) λhl=>uq o hn (hp.lt hn _) (hp.lt hn _) (λ_=>.ret ⟨hp,cg _,by dsimp only;lia,hq,h,ha⟩) λhl2=>by
   have hA:GZ le p (k+1-(q+1+1)) (k+1):=λa b h1 h2 h3 h4=>by
    have key:∀c,k-(q+1)<=c->c<k->le (p.getD c 0) (p.getD k 0)/\le (p.getD k 0) (p.getD c 0):=λc c1 c2=>
     ⟨o.tr _ _ _ (hp.lt hn _) (hp.lt hn _) (hp.lt hn _) (ha c (k-1) c1 c2 (by lia) (by lia)) hl,o.tr _ _ _ (hp.lt hn _) (hp.lt hn _) (hp.lt hn _) hl2 (ha (k-1) c (by lia) (by lia) c1 c2)⟩
    by_cases ea:a=k
    ·by_cases eb:b=k
     ·subst a;subst b;exact o.rfl' (hp.lt hn _)
     ·subst a;exact(key b (by lia) (by lia)).2
    ·by_cases eb:b=k
     ·subst b;exact(key a (by lia) (by lia)).1
     ·exact ha a b (by lia) (by lia) (by lia) (by lia)
   obtain⟨r,e,w⟩:=JM f (k+1) (q+1) hp (by lia) (by lia) (by lia) (G3 o hn hp hk h hl2) hA;exact⟨r,e,w.1,by lia,by lia,w.2.2.2⟩
theorem zkf(hp:cG n p)(hk:k<=n)(h:uV le p k):fV le (kas_rev p 0 k) k:=λa b hab hb=>by
 have hs:=hp.size;rw[uW (by lia),uW (by lia),if_pos (by lia),if_pos (by lia)];exact h _ _ (by lia) (by lia)
theorem Wt(hp:cG n p)(hk:1<=k)(hkn:k<=n)(h:uV le p k):jF lt (kas_tail3 k n p) λr=>cG n r.2/\1<=r.1/\r.1<=n/\fV le r.2 r.1:=by
 refine jF.bind (λc hc=>?_) (O8 o hn (hp.rev 0 k) (n-k) k hk (by lia) (zkf o hn hp hkn h));exact⟨_,rfl,hp.rev 0 k,by dsimp only;lia,by dsimp only;lia,hc.2.2.1⟩
theorem Wu(hp:cG n p)(hk:1<=k)(hkn:k<n)(h:uV le p (k+1)):jF lt (kas_descPart k n p) λr=>cG n r.2/\1<=r.1/\r.1<=n/\fV le r.2 r.1:=by
 refine jF.bind (λr hr=>?_) (JM o hn (n-(k+1)) (k+1) 0 hp (by lia) (by lia) (by lia) h (λa b h1 h2 h3 h4=>by
  have:a=k:=by lia
  have:b=k:=by lia
  subst a;subst b;exact o.rfl' (hp.lt hn _)))
 obtain⟨w1,w2,w3,w4,w5,w6⟩:=hr
 split
 ·exact Wt o hn (w1.rev _ _) (by lia) (by lia) (Ws o hn w1 (by lia) w5 w6)
 ·exact Wt o hn w1 (by lia) (by lia) w5
theorem ziV(hp:cG n p):jF lt (kas_count n p) λr=>cG n r.2/\1<=r.1/\r.1<=n/\fV le r.2 r.1:=by
 refine jF.bind (λk hk=>?_) (O8 o hn hp (n-1) 1 (cg _) (by lia) (λa b h1 h2=>by lia));obtain⟨k1,k2,k3,k4⟩:=hk;have hs:=hp.size;by_cases e:(k==n)=true
 ·rw[if_pos e];exact .ret ⟨hp,k1,by dsimp only;lia,k3⟩
 ·rw[if_neg e];have hkn:k<n:=by
   have:k≠n:=by simpa using e
   lia
  have hl:=k4 (by lia)
  split
  ·refine uq o hn (hp.lt hn _) (hp.lt hn _) (λ_=>.ret ⟨hp,k1,by dsimp only;lia,k3⟩) λhz=>?_;have Wv:∀a b,a<k->b<k->le (p.getD a 0) (p.getD b 0):=λa b ha hb=>by
    have h1:le (p.getD a 0) (p.getD (k-1) 0):=by
     by_cases q:a=k-1
     ·subst q;exact o.rfl' (hp.lt hn _)
     ·exact k3 a (k-1) (by lia) (by lia)
    have h2:le (p.getD 0 0) (p.getD b 0):=by
     by_cases q:b=0
     ·subst q;exact o.rfl' (hp.lt hn _)
     ·exact k3 0 b (by lia) (by lia)
    exact o.tr _ _ _ (hp.lt hn _) (hp.lt hn _) (hp.lt hn _) (o.tr _ _ _ (hp.lt hn _) (hp.lt hn _) (hp.lt hn _) h1 hz) h2
   refine Wu o hn (hp.rev 0 k) k1 hkn (G3 o hn (hp.rev 0 k) k1 (λa b h1 h2=>?_) ?_)
   ·rw[uW (by lia),uW (by lia),if_pos (by lia),if_pos (by lia)];exact Wv _ _ (by lia) (by lia)
   ·rw[uW (by lia),uW (by lia),if_neg (by lia),if_pos (by lia)];exact o.tr _ _ _ (hp.lt hn _) (hp.lt hn _) (hp.lt hn _) hl (Wv _ _ (by lia) (by lia))
  ·have:k=1:=by lia
   subst this;refine Wu o hn hp (cg _) hkn (G3 o hn hp (cg _) (λa b h1 h2=>by lia) hl)
theorem O9(hp:cG n p)(h:fV le p k):∀f l r,l<=r->r<=k->r-l<=f->(∀a,a<l->le (p.getD a 0) (p.getD k 0))->(∀a,r<=a->a<k->le (p.getD k 0) (p.getD a 0))->jF lt (kas_place p k f l r) λi=>i<=k/\(∀a,a<i->le (p.getD a 0) (p.getD k 0))/\(∀a,i<=a->a<k->le (p.getD k 0) (p.getD a 0))
 |0,l,r,h1,h2,h3,h4,h5=>.ret ⟨by lia,h4,λa z=>h5 a (by lia)⟩
 |f+1,l,r,h1,h2,h3,h4,h5=>by
  unfold kas_place;by_cases e:l>=r
  ·rw[if_pos e];exact .ret ⟨by lia,h4,λa z=>h5 a (by lia)⟩
  ·rw[if_neg e];refine uq o hn (hp.lt hn _) (hp.lt hn _) (λhl=>?_) λhl=>?_
   ·refine O9 hp h f l ((l+r)/2) (by lia) (by lia) (by lia) h4 λa z1 z2=>?_;by_cases q:a=(l+r)/2
    ·subst q;exact hl
    ·exact o.tr _ _ _ (hp.lt hn _) (hp.lt hn _) (hp.lt hn _) hl (h _ a (by lia) z2)
   ·refine O9 hp h f ((l+r)/2+1) r (by lia) h2 (by lia) (λa z=>?_) h5;by_cases q:a=(l+r)/2
    ·subst q;exact hl
    ·exact o.tr _ _ _ (hp.lt hn _) (hp.lt hn _) (hp.lt hn _) (h a _ (by lia) (by lia)) hl
theorem Ww:∀f {p:Array Nat} k,cG n p->k+f=n->fV le p k->jF lt (kas_bin f p k) λr=>cG n r/\fV le r n
 |0,p,k,hp,hk,h=>.ret ⟨hp,(show k=n by lia)▸h⟩
 |f+1,p,k,hp,hk,h=>jF.bind (λl hl=>by
   obtain⟨l1,l2,l3⟩:=hl;have hs:=hp.size;refine Ww f (k+1) (hp.bub _ _) (by lia) λa b hab hb=>?_;rw[Wr (by lia) (by lia),Wr (by lia) (by lia),show k-(k-l)=l by lia];by_cases ea:a=l
   ·rw[if_pos ea,if_neg (by lia),if_pos (by lia)];exact l3 (b-1) (by lia) (by lia)
   ·rw[if_neg ea];by_cases ca:l<a/\a<=k
    ·rw[if_pos ca,if_neg (by lia),if_pos (by lia)];exact h _ _ (by lia) (by lia)
    ·rw[if_neg ca];by_cases eb:b=l
     ·rw[if_pos eb];exact l2 a (by lia)
     ·rw[if_neg eb];by_cases cb:l<b/\b<=k
      ·rw[if_pos cb];by_cases q:a=b-1
       ·lia
       ·exact h _ _ (by lia) (by lia)
      ·rw[if_neg cb];exact h _ _ hab (by lia)) (O9 o hn hp h k 0 k (by lia) (cg _) (by lia) (λa z=>by lia) (λa z1 z2=>by lia))
theorem zk5:jF lt (kas_sort n) λp=>cG n p/\fV le p n:=by
 refine jF.bind (λr hr=>?_) (ziV o hn (.refl _));obtain⟨w1,w2,w3,w4⟩:=hr
 split
 ·rw[Nat.max_eq_left w2];exact Ww o hn _ _ w1 (by lia) w4
 ·have:r.1=n:=by lia
  exact .ret ⟨w1,this▸w4⟩
end
end Mi
namespace Ts
open PySem PySem.SetTable
theorem O_{ss:List Nat}{j:Nat}(hs:ss.Pairwise (·<·)):∀(fuel lo hi:Nat),hi-lo<=fuel->lo<=hi->hi<=ss.length->(∀i (h:i<ss.length),i<lo->ss[i]<j)->(∀i (h:i<ss.length),hi<=i->j<=ss[i])->
  below.go ss.toArray j fuel lo hi<=ss.length/\(∀i (h:i<ss.length),i<below.go ss.toArray j fuel lo hi->ss[i]<j)/\(∀i (h:i<ss.length),below.go ss.toArray j fuel lo hi<=i->j<=ss[i])
 |0,lo,hi,hf,h1,h2,h3,h4=>by
  unfold below.go;have:lo=hi:=by lia
  subst this;exact⟨h2,h3,h4⟩
 |fuel+1,lo,hi,hf,h1,h2,h3,h4=>by
  unfold below.go;by_cases hlt:lo<hi
  ·rw[if_pos hlt];have hm:(lo+hi)/2<ss.length:=by lia
   have e:ss.toArray.getD ((lo+hi)/2) j=ss[(lo+hi)/2]:=by simp[hm]
   dsimp only;rw[e];by_cases hc:ss[(lo+hi)/2]<j
   ·rw[if_pos hc];refine O_ hs fuel _ _ (by lia) (by lia) h2 (λi h hi'=>?_) h4;rcases Bq i ((lo+hi)/2) with z|z
    ·have:=qP.mp hs i ((lo+hi)/2) h hm z
     lia
    ·have:i=(lo+hi)/2:=by lia
     subst this;exact hc
   ·rw[if_neg hc];refine O_ hs fuel _ _ (by lia) (by lia) (by lia) h3 (λi h hi'=>?_);rcases Bq ((lo+hi)/2) i with z|z
    ·have:=qP.mp hs ((lo+hi)/2) i hm h z
     lia
    ·have:i=(lo+hi)/2:=by lia
     subst this
     lia
  ·rw[if_neg hlt];have:lo=hi:=by lia
   subst this;exact⟨h2,h3,h4⟩
theorem zfk{ss:List Nat}(hs:ss.Pairwise (·<·))(j:Nat):below ss.toArray j<=ss.length/\(∀x∈ss.take (below ss.toArray j),x<j)/\∀x∈ss.drop (below ss.toArray j),j<=x:=by
 obtain⟨h1,h2,h3⟩:=O_ (j:=j) hs ss.length 0 ss.length (by lia) (by lia) (cg _) (λi h hi=>by lia) (λi h hi=>by lia);have e:below ss.toArray j=below.go ss.toArray j ss.length 0 ss.length:=by unfold below;rw[dD]
 rw[e];refine⟨h1,λx hx=>?_,λx hx=>?_⟩
 ·obtain⟨i,hi,rfl⟩:=wR.mp hx;rw[wV] at hi;rw[List.getElem_take];exact h2 i (by lia) (by lia)
 ·obtain⟨i,hi,rfl⟩:=wR.mp hx;rw[Dh] at hi;rw[List.getElem_drop];exact h3 _ (by lia) (by lia)
noncomputable abbrev Ent:=List (Nat×Nat)
def fV(L:Ent):Prop:=(L.map (·.1)).Pairwise (·<·)
theorem Pa{L:Ent}(hs:fV L)(j:Nat):∃La Lb,L=La++Lb/\below (L.map (·.1)).toArray j=La.length/\(∀e∈La,e.1<j)/\∀e∈Lb,j<=e.1:=by
 obtain⟨h1,h2,h3⟩:=zfk hs j;generalize below (L.map (·.1)).toArray j=b at h1 h2 h3;rw[bJ] at h1;refine⟨L.take b,L.drop b,(K1 b L).symm,by rw[wV];lia,λe he=>h2 _ ?_,λe he=>h3 _ ?_⟩
 ·rw[<-List.map_take];exact rH he
 ·rw[<-List.map_drop];exact rH he
theorem zmt{La Lb:Ent}{e:Nat×Nat}(h:fV (La++e::Lb)):(∀x∈La,x.1<e.1)/\∀x∈Lb,e.1<x.1:=by
 unfold fV at h;rw[jK,jA,CZ] at h;refine⟨λx hx=>h.2.2 _ (rH hx) _ eZ,λx hx=>?_⟩;exact(yJ.mp h.2.1).1 _ (rH hx)
theorem ziY{La Lb:Ent}{e:Nat×Nat}(h:fV (La++Lb))(ha:∀x∈La,x.1<e.1)(hb:∀x∈Lb,e.1<x.1):fV (La++e::Lb):=by
 unfold fV at h ⊢;rw[jK,CZ] at h;rw[jK,jA,CZ];refine⟨h.1,yJ.mpr ⟨λx hx=>?_,h.2.1⟩,λx hx y hy=>?_⟩
 ·obtain⟨z,hz,rfl⟩:=fj.mp hx;exact hb z hz
 ·rcases cM.mp hy with rfl|hy
  ·obtain⟨z,hz,rfl⟩:=fj.mp hx;exact ha z hz
  ·exact h.2.2 x hx y hy
theorem Wx{j:Nat}:has #[] j=false:=by unfold has;rfl
theorem zmz{t:SetTable}{L:Ent}(ht:t.place=(L.map (·.1)).toArray)(hd:t.dummies=#[])(hs:fV L)(j:Nat) :
  (∃La k Lb,L=La++(j,k)::Lb/\t.slot j=.live La.length)\/((∀e∈L,e.1≠j)/\t.slot j=.empty):=by
 obtain⟨La,Lb,e,hb,h1,h2⟩:=Pa hs j;have hsl:t.slot j=if (L.map (·.1)).toArray[La.length]?==some j then .live La.length else if has t.dummies j then .dummy else .empty:=by
  unfold slot;rw[ht,hb]
 rw[hd,Wx] at hsl;have hg:(L.map (·.1)).toArray[La.length]?=(Lb.map (·.1))[0]?:=by
  rw[CV,e,jK,nM (by simp)];simp
 rw[hg] at hsl;cases Lb with
 |nil=>
  right
  refine⟨λx hx=>?_,by rw[hsl];rfl⟩;rw[e,Bl] at hx;exact dh (h1 x hx)
 |cons x Lb=>
  by_cases hx:x.1=j
  ·left
   refine⟨La,x.2,Lb,by rw[e,<-hx],?_⟩;rw[hsl,if_pos (by simp[hx])]
  ·right
   have hgt:j<x.1:=by have:=h2 x eZ;lia
   rw[e] at hs;obtain⟨_,a2⟩:=zmt hs;refine⟨λy hy=>?_,by rw[hsl,if_neg (by simp[hx])];rfl⟩;rw[e] at hy;rcases fG.mp hy with hy|hy
   ·exact dh (h1 y hy)
   ·rcases cM.mp hy with rfl|hy
    ·exact hx
    ·have:=a2 y hy;lia
theorem Wy{α:Type}(a b:List α)(x:α):insertAt (a++b).toArray a.length x=(a++x::b).toArray:=by
 unfold insertAt;apply Array.toList_inj.mp;simp
theorem zmS{t:SetTable}{L:Ent}(ht:t.place=(L.map (·.1)).toArray)(hd:t.dummies=#[])(hs:fV L){j:Nat}(hj:∀e∈L,e.1≠j)(k:Nat) :
  ∃La Lb,L=La++Lb/\t.put j=({t with place:=((La++(j,k)::Lb).map (·.1)).toArray},La.length)/\fV (La++(j,k)::Lb):=by
 obtain⟨La,Lb,e,hb,h1,h2⟩:=Pa hs j;refine⟨La,Lb,e,?_,?_⟩
 ·unfold put;rw[hd,Wx,ht,hb];dsimp only;have:insertAt (L.map (·.1)).toArray La.length j=((La++(j,k)::Lb).map (·.1)).toArray:=by
   rw[e,jK];have:=Wy (La.map (·.1)) (Lb.map (·.1)) j;rw[bJ] at this;rw[this,jK,jA]
  rw[this];simp[hd]
 ·rw[e] at hs;exact ziY hs (λx hx=>h1 x hx) (λx hx=>by
   have:=h2 x hx;have:=hj x (by rw[e];exact nW _ hx);show j<x.1
   lia)
noncomputable def fC(m:Nat)(p:Probe):Probe:=
 if p.more>0 then {p with j:=p.j+1,more:=p.more-1} else {p with j:=(leap m p.i p.perturb).1,more:=runEnd m (leap m p.i p.perturb).1-(leap m p.i p.perturb).1,i:=(leap m p.i p.perturb).1,perturb:=(leap m p.i p.perturb).2}
theorem zeY(t:SetTable)(p:Probe):t.advance p=fC t.mask p:=rfl
noncomputable def uX(m i pt:Nat):Probe:={j:=i,more:=runEnd m i-i,i,perturb:=pt,dummy:=none}
noncomputable def start(m:Nat)(h:Int):Probe:=uX m (bits h%(m+1)) (bits h)
noncomputable def steps(m:Nat):Nat->Probe->List Nat
 |0,_=>[]
 |n+1,p=>p.j::steps m n (fC m p)
theorem zf7{m:Nat}{p:Probe}(h:p.dummy=none):(fC m p).dummy=none:=by unfold fC;split<;>exact h
def Taken(hk:Nat->Int)(L:Ent)(h:Int)(pre:List Nat):Prop:=∀x∈pre,∃e∈L,e.1=x/\hk e.2≠h
def rE(hk:Nat->Int)(L:Ent)(h:Int)(js:List Nat)(j:Nat):Prop:=∃pre post,js=pre++j::post/\Taken hk L h pre
theorem Wz{t:SetTable}{L:Ent}{hk:Nat->Int}{hashAt:Nat->Int}{h:Int}(ht:t.place=(L.map (·.1)).toArray)(hd:t.dummies=#[])(hs:fV L)(hH:∀La e Lb,L=La++e::Lb->hashAt La.length=hk e.2) :
  ∀(fuel:Nat) (p:Probe),p.dummy=none->match probe.go t hashAt h fuel p with
   |none=>∀j∈steps t.mask fuel p,∃e∈L,e.1=j
   |some (.empty j d)=>d=none/\(∀e∈L,e.1≠j)/\rE hk L h (steps t.mask fuel p) j
   |some (.candidate j i next)=>∃La k Lb,L=La++(j,k)::Lb/\i=La.length/\hk k=h
 |0,p,hp=>by unfold probe.go;intro j hj;cases hj
 |fuel+1,p,hp=>by
  unfold probe.go;rcases zmz ht hd hs p.j with ⟨La,k,Lb,e,hsl⟩|⟨hno,hsl⟩
  ·rw[hsl];dsimp only;have hh:hashAt La.length=hk k:=hH La (p.j,k) Lb e;rw[hh];by_cases hc:hk k=h
   ·rw[if_pos (by simpa using hc)];exact⟨La,k,Lb,e,rfl,hc⟩
   ·rw[if_neg (by simpa using hc),zeY];have ih:=Wz ht hd hs hH (h:=h) fuel (fC t.mask p) (zf7 hp);have Am:(p.j,k)∈L:=by rw[e];simp
    cases hg:probe.go t hashAt h fuel (fC t.mask p) with
    |none=>
     rw[hg] at ih;intro j hj;rcases cM.mp (show j∈p.j::steps t.mask fuel (fC t.mask p) from hj) with rfl|hj
     ·exact⟨_,Am,rfl⟩
     ·exact ih j hj
    |some met=>
     rw[hg] at ih;cases met with
     |empty j d=>
      obtain⟨a1,a2,pre,post,a3,a4⟩:=ih;refine⟨a1,a2,p.j::pre,post,by show p.j::steps t.mask fuel (fC t.mask p)=_;rw[a3];rfl,λx hx=>?_⟩;rcases cM.mp hx with rfl|hx
      ·exact⟨_,Am,rfl,hc⟩
      ·exact a4 x hx
     |candidate j i next=>exact ih
  ·rw[hsl];exact⟨hp,hno,[],steps t.mask fuel (fC t.mask p),rfl,λx hx=>by cases hx⟩
theorem WD{P:Nat->Prop}{j j':Nat}:∀{pre post pre' post':List Nat},pre++j::post=pre'++j'::post'->(∀x∈pre,P x)->¬P j->(∀x∈pre',P x)->¬P j'->j=j'
 |[],_,[],_,e,_,_,_,_=>by cases e;rfl
 |[],_,x::pre',_,e,_,hj,h',_=>by cases e;exact absurd (h' _ eZ) hj
 |x::pre,_,[],_,e,h,_,_,hj'=>by cases e;exact absurd (h _ eZ) hj'
 |x::pre,post,y::pre',post',e,h,hj,h',hj'=>by
  injection e with _ e;exact WD e (λz hz=>h z (eN _ hz)) hj (λz hz=>h' z (eN _ hz)) hj'
structure Tab(hk:Nat->Int)(t:SetTable)(L:Ent):Prop where
 place:t.place=(L.map (·.1)).toArray
 Ao:t.dummies=#[]
 asc:fV L
 inj:∀e∈L,∀e'∈L,hk e.2=hk e'.2->e=e'
 G4:∀e∈L,rE hk L (hk e.2) (steps t.mask (10*turns t.mask) (start t.mask (hk e.2))) e.1
def Wide(m c:Nat)(h:Int):Prop:=∃l:List Nat,l.Nodup/\c<=l.length/\∀x∈l,x∈steps m (10*turns m) (start m h)
theorem zhU{L:Ent}(h:fV L){e e':Nat×Nat}(he:e∈L)(he':e'∈L)(q:e.1=e'.1):e=e':=by
 obtain⟨i,hi,rfl⟩:=wR.mp he;obtain⟨k,hk,rfl⟩:=wR.mp he';have hp:=qP.mp h;rcases Le i k with z|z|z
 ·have:=hp i k (by simpa using hi) (by simpa using hk) z;simp at this;lia
 ·subst z;rfl
 ·have:=hp k i (by simpa using hk) (by simpa using hi) z;simp at this;lia
theorem Pb{α:Type}[DecidableEq α]:∀{l m:List α},l.Nodup->l ⊆ m->l.length<=m.length
 |[],_,_,_=>n_ _
 |x::l,m,hn,h=>by
  have hx:x∈m:=h eZ;rw[qm] at hn;have ih:=Pb (m:=m.erase x) hn.2 λy hy=>(List.mem_erase_of_ne (λe=>hn.1 (by rw[<-e];exact hy))).mpr (h (eN _ hy));have:=List.length_erase_of_mem hx;have:=List.length_pos_of_mem hx;rw[gY]
  lia
theorem few{L:Ent}{l:List Nat}(hn:l.Nodup)(hl:∀x∈l,∃e∈L,e.1=x):l.length<=L.length:=by
 have h:l ⊆ L.map (·.1):=λx hx=>by obtain⟨e,he,q⟩:=hl x hx;exact fj.mpr ⟨e,he,q⟩
 have:=Pb hn h
 rwa [bJ] at this
theorem zh3{t:SetTable}{L:Ent}{hk:Nat->Int}{hashAt:Nat->Int}{h:Int}(T:Tab hk t L)(hH:∀La e Lb,L=La++e::Lb->hashAt La.length=hk e.2){c:Nat}(hw:Wide t.mask c h)(hc:L.length<c) :
  (∃La j k Lb next,t.probe hashAt h (t.probeStart h)=some (.candidate j La.length next)/\L=La++(j,k)::Lb/\hk k=h) \/
  (∃j,t.probe hashAt h (t.probeStart h)=some (.empty j none)/\(∀e∈L,hk e.2≠h)/\(∀e∈L,e.1≠j)/\rE hk L h (steps t.mask (10*turns t.mask) (start t.mask h)) j):=by
 have g:=Wz (h:=h) T.place T.Ao T.asc hH (10*turns t.mask) (start t.mask h) rfl;have e0:t.probe hashAt h (t.probeStart h)=probe.go t hashAt h (10*turns t.mask) (start t.mask h):=rfl;rw[e0];cases hg:probe.go t hashAt h (10*turns t.mask) (start t.mask h) with
 |none=>
  rw[hg] at g;obtain⟨l,l1,l2,l3⟩:=hw;have:=few l1 λx hx=>g x (l3 x hx)
  lia
 |some met=>
  rw[hg] at g;cases met with
  |candidate j i next=>
   obtain⟨La,k,Lb,a1,rfl,a3⟩:=g;exact .inl ⟨La,j,k,Lb,next,rfl,a1,a3⟩
  |empty j d=>
   obtain⟨rfl,a2,a3⟩:=g;refine .inr ⟨j,rfl,λe he q=>?_,a2,a3⟩;obtain⟨pre,post,b1,b2⟩:=a3;obtain⟨pre',post',c1,c2⟩:=T.G4 e he;rw[q] at c1 c2;have:j=e.1:=WD (P:=λx=>∃e∈L,e.1=x/\hk e.2≠h) (b1.symm.trans c1) b2 (λ⟨e',h1,h2,_⟩=>a2 e' h1 h2) c2 (λ⟨e',h1,h2,h3⟩=>h3 (by rw[zhU T.asc h1 he h2];exact q));exact a2 e he this.symm
theorem Tab.add(T:Tab hk t (La++Lb))(ha:fV (La++(j,k)::Lb))(hn:∀e∈La++Lb,hk e.2≠hk k)(hf:rE hk (La++Lb) (hk k) (steps t.mask (10*turns t.mask) (start t.mask (hk k))) j) :
  Tab hk {t with place:=((La++(j,k)::Lb).map (·.1)).toArray} (La++(j,k)::Lb):=by
 have sub:∀e∈La++Lb,e∈La++(j,k)::Lb:=λe he=>by
  rcases fG.mp he with z|z
  ·exact pB _ z
  ·exact nW _ (eN _ z)
 have cas:∀e∈La++(j,k)::Lb,e=(j,k)\/e∈La++Lb:=λe he=>by
  rcases fG.mp he with z|z
  ·exact .inr (pB _ z)
  ·rcases cM.mp z with z|z
   ·exact .inl z
   ·exact .inr (nW _ z)
 have mono:∀{h js x},rE hk (La++Lb) h js x->rE hk (La++(j,k)::Lb) h js x:=λ⟨pre,post,a,b⟩=>⟨pre,post,a,λx hx=>let ⟨e,h1,h2⟩:=b x hx;⟨e,sub e h1,h2⟩⟩;refine⟨rfl,T.Ao,ha,λe he e' he' q=>?_,λe he=>?_⟩
 ·rcases cas e he with rfl|z<;>rcases cas e' he' with rfl|z'
  ·rfl
  ·exact absurd q.symm (hn e' z')
  ·exact absurd q (hn e z)
  ·exact T.inj e z e' z' q
 ·rcases cas e he with rfl|z
  ·exact mono hf
  ·exact mono (T.G4 e z)
noncomputable def rounds(m:Nat):Nat->Nat->Nat->List Nat
 |0,_,_=>[]
 |f+1,i,pt=>(List.range (runEnd m i+1-i)).map (i+·)++rounds m f (leap m i pt).1 (leap m i pt).2
theorem WK:∀(c f:Nat) (p:Probe),p.more=c->p.dummy=none->steps m (c+1+f) p=(List.range (c+1)).map (p.j+·)++steps m f (uX m (leap m p.i p.perturb).1 (leap m p.i p.perturb).2)
 |0,f,p,hc,hd=>by
  have e:fC m p=uX m (leap m p.i p.perturb).1 (leap m p.i p.perturb).2:=by
   unfold fC uX;rw[if_neg (by lia),hd]
  rw[show 0+1+f=f+1 by lia];show p.j::steps m f (fC m p)=_;rw[e];rfl
 |c+1,f,p,hc,hd=>by
  have e:fC m p={p with j:=p.j+1,more:=p.more-1}:=by
   unfold fC;rw[if_pos (by lia)]
  rw[show c+1+1+f=(c+1+f)+1 by lia];show p.j::steps m (c+1+f) (fC m p)=_;rw[e,WK c f {p with j:=p.j+1,more:=p.more-1} (by show p.more-1=c;lia) hd];rw[KY (n:=c+1),jA,jB,List.cons_append]
  congr 1
  congr 1
  apply Bd;intro x _;show p.j+1+x=p.j+(x+1)
  lia
theorem WL:∀(a b:Nat) (p:Probe),∃r,steps m (a+b) p=steps m a p++r
 |0,b,p=>⟨steps m (0+b) p,rfl⟩
 |a+1,b,p=>by
  obtain⟨r,e⟩:=WL a b (fC m p);refine⟨r,?_⟩;rw[show a+1+b=(a+b)+1 by lia];show p.j::steps m (a+b) (fC m p)=p.j::steps m a (fC m p)++r;rw[e];rfl
theorem ziZ:runEnd m i-i=9\/runEnd m i-i=0:=by
 unfold runEnd
 split<;>lia
theorem zlL:i<=runEnd m i:=by
 unfold runEnd
 split<;>lia
theorem Pg{m:Nat}:∀(f i pt:Nat),∃post,steps m (10*f) (uX m i pt)=rounds m f i pt++post
 |0,i,pt=>⟨[],rfl⟩
 |f+1,i,pt=>by
  obtain⟨post,e⟩:=Pg (m:=m) f (leap m i pt).1 (leap m i pt).2;obtain⟨r,e2⟩:=WL (m:=m) (10*f) (9-(runEnd m i-i)) (uX m (leap m i pt).1 (leap m i pt).2);have hr:=ziZ (m:=m) (i:=i);have hg:=zlL (m:=m) (i:=i);refine⟨post++r,?_⟩;have h1:10*(f+1)=(runEnd m i-i)+1+(10*f+(9-(runEnd m i-i))):=by lia
  rw[h1,WK (runEnd m i-i) _ (uX m i pt) rfl rfl];show (List.range (runEnd m i-i+1)).map (i+·)++steps m (10*f+(9-(runEnd m i-i))) (uX m (leap m i pt).1 (leap m i pt).2)=(List.range (runEnd m i+1-i)).map (i+·)++rounds m f (leap m i pt).1 (leap m i pt).2++(post++r);rw[e2,e,show runEnd m i+1-i=runEnd m i-i+1 by lia];simp only[Bj]
theorem Pj{m:Nat}:∀(f i pt:Nat),i<=m->∀x∈rounds m f i pt,x<=m
 |0,_,_,_,x,hx=>by cases hx
 |f+1,i,pt,hi,x,hx=>by
  rcases fG.mp (show x∈(List.range (runEnd m i+1-i)).map (i+·)++rounds m f (leap m i pt).1 (leap m i pt).2 from hx) with z|z
  ·obtain⟨k,hk,rfl⟩:=fj.mp z;rw[uE] at hk;unfold runEnd at hk;split at hk<;>lia
  ·exact Pj f _ _ (by show (i*5+1+pt/32)%(m+1)<=m;have:=Nat.mod_lt (i*5+1+pt/32) (show 0<m+1 by lia);lia) x z
theorem WM{m:Nat}{owner:Array (Option Nat)}:∀(f i pt:Nat),match layClean.free m owner f i pt with
  |none=>∀x∈rounds m f i pt,(owner.getD x (some 0)).isNone=false
  |some j=>∃pre post,rounds m f i pt=pre++j::post/\(owner.getD j (some 0)).isNone=true/\∀x∈pre,(owner.getD x (some 0)).isNone=false
 |0,i,pt=>by unfold layClean.free;intro x hx;cases hx
 |f+1,i,pt=>by
  unfold layClean.free;cases hf:(List.range (runEnd m i+1-i)).find? λk=>(owner.getD (i+k) (some 0)).isNone with
  |some k=>
   dsimp only;obtain⟨h1,as,bs,h2,h3⟩:=List.find?_eq_some_iff_append.mp hf;refine⟨as.map (i+·),bs.map (i+·)++rounds m f (leap m i pt).1 (leap m i pt).2,?_,h1,λx hx=>?_⟩
   ·show (List.range (runEnd m i+1-i)).map (i+·)++_=_;rw[h2];simp
   ·obtain⟨a,ha,rfl⟩:=fj.mp hx;simpa using h3 a ha
  |none=>
   have hn:=List.find?_eq_none.mp hf;have hrun:∀x∈(List.range (runEnd m i+1-i)).map (i+·),(owner.getD x (some 0)).isNone=false:=λx hx=>by
    obtain⟨a,ha,rfl⟩:=fj.mp hx;exact Bool.eq_false_iff.mpr (hn a ha)
   have ih:=WM (m:=m) (owner:=owner) f (leap m i pt).1 (leap m i pt).2;show match layClean.free m owner f (leap m i pt).1 (leap m i pt).2 with
    |none=>∀x∈rounds m (f+1) i pt,(owner.getD x (some 0)).isNone=false
    |some j=>∃pre post,rounds m (f+1) i pt=pre++j::post/\(owner.getD j (some 0)).isNone=true/\∀x∈pre,(owner.getD x (some 0)).isNone=false
   cases hg:layClean.free m owner f (leap m i pt).1 (leap m i pt).2 with
   |none=>
    rw[hg] at ih;intro x hx;rcases fG.mp (show x∈(List.range (runEnd m i+1-i)).map (i+·)++rounds m f (leap m i pt).1 (leap m i pt).2 from hx) with z|z
    ·exact hrun x z
    ·exact ih x z
   |some j=>
    rw[hg] at ih;obtain⟨pre,post,a1,a2,a3⟩:=ih;refine⟨(List.range (runEnd m i+1-i)).map (i+·)++pre,post,?_,a2,λx hx=>?_⟩
    ·show (List.range (runEnd m i+1-i)).map (i+·)++rounds m f (leap m i pt).1 (leap m i pt).2=_;rw[a1,Bj]
    ·rcases fG.mp hx with z|z
     ·exact hrun x z
     ·exact a3 x z
structure Own(m:Nat)(owner:Array (Option Nat))(O:Ent):Prop where
 size:owner.size=m+1
 at':∀x k,owner[x]?=some (some k)↔(x,k)∈O
theorem Own.yes{m:Nat}{owner:Array (Option Nat)}{O:Ent}(h:Own m owner O){x:Nat}(hx:x<=m)(q:(owner.getD x (some 0)).isNone=false):∃e∈O,e.1=x:=by
 have hs:x<owner.size:=by rw[h.size];lia
 have e:owner.getD x (some 0)=owner[x]:=by simp[hs]
 rw[e] at q;cases hc:owner[x] with
 |none=>rw[hc] at q;cases q
 |some k=>exact⟨(x,k),(h.at' x k).mp (by rw[CQ hs,hc]),rfl⟩
theorem Own.no{m:Nat}{owner:Array (Option Nat)}{O:Ent}(h:Own m owner O){x:Nat}(q:(owner.getD x (some 0)).isNone=true):x<owner.size/\∀e∈O,e.1≠x:=by
 have hs:x<owner.size:=by
  rcases Bq x owner.size with z|z
  ·exact z
  ·rw[show owner.getD x (some 0)=some 0 by simp[Dq.mpr z]] at q;cases q
 have e:owner.getD x (some 0)=owner[x]:=by simp[hs]
 rw[e] at q;refine⟨hs,λe he z=>?_⟩;have:=(h.at' e.1 e.2).mpr he;rw[z,CQ hs] at this;rw[dw this] at q;cases q
theorem Own.set{m:Nat}{owner:Array (Option Nat)}{O:Ent}(h:Own m owner O){x k:Nat}(hs:x<owner.size)(hn:∀e∈O,e.1≠x):Own m (owner.setIfInBounds x (some k)) (O++[(x,k)]):=by
 refine⟨by rw[Array.size_setIfInBounds];exact h.size,λy l=>?_⟩;rw[Array.getElem?_setIfInBounds];by_cases e:x=y
 ·subst e;rw[if_pos rfl,if_pos hs]
  constructor
  ·intro z;cases z;simp
  ·intro z;rcases fG.mp z with z|z
   ·exact absurd rfl (hn _ z)
   ·simp at z;rw[z]
 ·rw[if_neg e,h.at' y l]
  constructor
  ·exact λz=>pB _ z
  ·intro z;rcases fG.mp z with z|z
   ·exact z
   ·simp at z;exact absurd z.1.symm e
def fW(m c:Nat)(h:Int):Prop:=∃l:List Nat,l.Nodup/\c<=l.length/\∀x∈l,x∈rounds m (turns m) (bits h%(m+1)) (bits h)
theorem fW.wide(w:fW m c h):Wide m c h:=by
 obtain⟨l,a,b,d⟩:=w;obtain⟨post,e⟩:=Pg (m:=m) (turns m) (bits h%(m+1)) (bits h);refine⟨l,a,b,λx hx=>?_⟩;show x∈steps m (10*turns m) (uX m (bits h%(m+1)) (bits h));rw[e];exact pB _ (d x hx)
structure Lay(m:Nat)(hk:Nat->Int)(owner:Array (Option Nat))(k:Nat)(O:Ent):Prop where
 own:Own m owner O
 ids:O.map (·.2)=List.range k
 slots:(O.map (·.1)).Nodup
 le:∀e∈O,e.1<=m
 G4:∀e∈O,rE hk O (hk e.2) (steps m (10*turns m) (start m (hk e.2))) e.1
noncomputable def jG(m:Nat)(acc:Option (Array (Option Nat)×Nat))(h:Int):Option (Array (Option Nat)×Nat):=do
  let (owner,k) <-acc
  let j <-layClean.free m owner (turns m) (bits h%(m+1)) (bits h)
  pure (owner.setIfInBounds j (some k),k+1)
theorem WQ{m c:Nat}{hs:List Int}(hw:∀h∈hs,fW m c h)(hc:hs.length<=c)(hd:hs.Nodup):∀(rest:List Int) (k:Nat) (owner:Array (Option Nat)) (O:Ent),hs.drop k=rest->k<=hs.length->Lay m (λi=>hs.getD i 0) owner k O->
  ∃mF O',rest.foldl (jG m) (some (owner,k))=some (mF,hs.length)/\Lay m (λi=>hs.getD i 0) mF hs.length O'
 |[],k,owner,O,e,hk,L=>by
  have:hs.length<=k:=List.drop_eq_nil_iff.mp e;have:k=hs.length:=by lia
  subst this;exact⟨owner,O,rfl,L⟩
 |h::rest,k,owner,O,e,hk,L=>by
  have hlt:k<hs.length:=by
   rcases Bq k hs.length with z|z
   ·exact z
   ·rw[List.drop_eq_nil_iff.mpr z] at e;cases e
  have e':=e;rw[List.drop_eq_getElem_cons hlt] at e';injection e' with eh er;have hOl:O.length=k:=by have:=qp List.length L.ids;simpa using this
  have hgk:hs.getD k 0=h:=by rw[<-eh];simp[hlt]
  have hmh:h∈hs:=by rw[<-eh];exact nY _
  have f:=WM (m:=m) (owner:=owner) (turns m) (bits h%(m+1)) (bits h);have G5:bits h%(m+1)<=m:=by have:=Nat.mod_lt (bits h) (show 0<m+1 by lia);lia
  have hne:∀e∈O,hs.getD e.2 0≠h:=λx hx q=>by
   have hx2:x.2∈List.range k:=by rw[<-L.ids];exact rH hx
   rw[uE] at hx2;have g1:hs.getD x.2 0=hs[x.2]:=by simp[show x.2<hs.length by lia]
   rw[g1,<-eh] at q;have:=(yH.mp hd);exact qP.mp this x.2 k (by lia) hlt hx2 q
  cases hg:layClean.free m owner (turns m) (bits h%(m+1)) (bits h) with
  |none=>
   rw[hg] at f;obtain⟨l,l1,l2,l3⟩:=hw h hmh;have:=few (L:=O) l1 λx hx=>L.own.yes (Pj _ _ _ G5 x (l3 x hx)) (f x (l3 x hx))
   lia
  |some j=>
   rw[hg] at f;obtain⟨pre,post,a1,a2,a3⟩:=f;obtain⟨hjs,hjn⟩:=L.own.no a2;have hjm:j<=m:=by have:=L.own.size;lia
   have Aq:rE (λi=>hs.getD i 0) O h (steps m (10*turns m) (start m h)) j:=by
    obtain⟨post2,e2⟩:=Pg (m:=m) (turns m) (bits h%(m+1)) (bits h);refine⟨pre,post++post2,?_,λx hx=>?_⟩
    ·show steps m (10*turns m) (uX m (bits h%(m+1)) (bits h))=_;rw[e2,a1,Bj,List.cons_append]
    ·obtain⟨e,he,q⟩:=L.own.yes (Pj _ _ _ G5 x (by rw[a1];exact pB _ hx)) (a3 x hx);exact⟨e,he,q,hne e he⟩
   have mono:∀{h js x},rE (λi=>hs.getD i 0) O h js x->rE (λi=>hs.getD i 0) (O++[(j,k)]) h js x:=λ⟨pre,post,a,b⟩=>⟨pre,post,a,λx hx=>let ⟨e,h1,h2⟩:=b x hx;⟨e,pB _ h1,h2⟩⟩;have L':Lay m (λi=>hs.getD i 0) (owner.setIfInBounds j (some k)) (k+1) (O++[(j,k)]):=by
    refine⟨L.own.set hjs hjn,by rw[jK,L.ids,List.range_succ];rfl,?_,λe he=>?_,λe he=>?_⟩
    ·rw[jK,Ig];refine⟨L.slots,by simp,λa ha b hb=>?_⟩;obtain⟨x,hx,rfl⟩:=fj.mp ha;simp at hb;rw[hb];exact hjn x hx
    ·rcases fG.mp he with z|z
     ·exact L.le e z
     ·simp at z;rw[z];exact hjm
    ·rcases fG.mp he with z|z
     ·exact mono (L.G4 e z)
     ·simp at z;rw[z];show rE _ _ (hs.getD k 0) (steps m (10*turns m) (start m (hs.getD k 0))) j;rw[hgk];exact mono Aq
   obtain⟨mF,O',b1,b2⟩:=WQ hw hc hd rest (k+1) _ _ er hlt L';refine⟨mF,O',?_,b2⟩;rw[List.foldl_cons];have:jG m (some (owner,k)) h=some (owner.setIfInBounds j (some k),k+1):=by
    unfold jG;show (layClean.free m owner (turns m) (bits h%(m+1)) (bits h)).bind _=_;rw[hg];rfl
   rw[this];exact b1
theorem Pk{m:Nat}:Own m (Array.replicate (m+1) none) []:=⟨by simp,λx k=>by
 constructor
 ·intro h;rw[Array.getElem?_replicate] at h;split at h<;>cases h
 ·intro h;cases h⟩
theorem zhK{m c:Nat}{hs:List Int}(hw:∀h∈hs,fW m c h)(hc:hs.length<=c)(hd:hs.Nodup):∃owner O,layClean m hs.toArray=some owner/\Lay m (λi=>hs.getD i 0) owner hs.length O:=by
 obtain⟨owner,O,a,b⟩:=WQ hw hc hd hs 0 _ [] rfl (n_ _) ⟨Pk,rfl,by simp,(λe he=>by cases he),λe he=>by cases he⟩;refine⟨owner,O,?_,b⟩;unfold layClean;rw[List.foldl_toArray];show (hs.foldl (jG m) (some (Array.replicate (m+1) none,0))).map (·.1)=_;rw[a];rfl
noncomputable def cQ(m:Nat)(owner:Array (Option Nat)):Ent:=(List.range (m+1)).filterMap λj=>(owner.getD j none).map (j,·)
theorem zht(h:Own m owner O):e∈cQ m owner↔e∈O:=by
 unfold cQ;rw[K8]
 constructor
 ·rintro⟨j,hj,q⟩;rw[mQ] at q;obtain⟨k,q1,rfl⟩:=q;rw[<-h.at'];rw[uE] at hj;have hs:j<owner.size:=by rw[h.size];exact hj
  have e:owner.getD j none=owner[j]:=by simp[hs]
  rw[CQ hs,<-e,q1]
 ·intro he;have q:=(h.at' e.1 e.2).mpr he;obtain⟨hs,q2⟩:=CK.mp q;refine⟨e.1,by rw[uE,<-h.size];exact hs,?_⟩;have e1:owner.getD e.1 none=owner[e.1]:=by simp[hs]
  rw[e1,q2];rfl
theorem WT{m:Nat}{owner:Array (Option Nat)}:fV (cQ m owner):=by
 unfold fV cQ;rw[rJ];refine List.Pairwise.filterMap _ (R:=(·<·)) (λa a' hlt b hb b' hb'=>?_) List.pairwise_lt_range;obtain⟨_,_,rfl⟩:=mQ.mp hb;obtain⟨_,_,rfl⟩:=mQ.mp hb';exact hlt
theorem zgy{m k:Nat}{hk:Nat->Int}{owner:Array (Option Nat)}{O:Ent}(h:Lay m hk owner k O):(cQ m owner).Perm O:=by
 refine(List.perm_ext_iff_of_nodup ?_ ?_).mpr λe=>zht h.own
 ·have:=WT (m:=m) (owner:=owner);unfold fV at this;rw[rJ] at this;exact yH.mpr (this.imp λz q=>by rw[q] at z;exact mL _ z)
 ·have:=yH.mp h.slots;rw[rJ] at this;exact yH.mpr (this.imp λz q=>z (by rw[q]))
theorem Pn{α:Type}{l:List α}(h:l.Nodup){i j:Nat}(hi:i<l.length)(hj:j<l.length)(e:l[i]=l[j]):i=j:=by
 have p:=qP.mp (yH.mp h);rcases Le i j with z|z|z
 ·exact absurd e (p i j hi hj z)
 ·exact z
 ·exact absurd e.symm (p j i hj hi z)
theorem zij{t:SetTable}{L:Ent}{hk:Nat->Int}(T:Tab hk t L){wanted c:Nat}(hw:∀e∈L,fW (sizeAbove wanted-1) c (hk e.2))(hc:L.length<=c) :
  ∃(ord:List Nat) (L':Ent),t.relaid (L.map λe=>hk e.2).toArray wanted=some ({t with mask:=sizeAbove wanted-1,moves:=t.movedTo (sizeAbove wanted-1),place:=(L'.map (·.1)).toArray},ord.toArray) /\
   ord.length=L.length/\(∀i∈ord,i<L.length)/\L'.map (·.2)=ord.map (λi=>(L.getD i (0,0)).2)/\L'.length=L.length/\(L'.map (·.2)).Perm (L.map (·.2)) /\
   Tab hk {t with mask:=sizeAbove wanted-1,moves:=t.movedTo (sizeAbove wanted-1),place:=(L'.map (·.1)).toArray} L':=by
 generalize hm:sizeAbove wanted-1=m at hw;have hnd:(L.map λe=>hk e.2).Nodup:=by
  rw[yH,rJ];have:=T.asc;unfold fV at this;rw[rJ,qP] at this;rw[qP];intro i j hi hj hij q;have e:=T.inj _ (nY hi) _ (nY hj) q;have:=this i j hi hj hij;rw[e] at this;exact mL _ this
 obtain⟨owner,O,h1,h2⟩:=zhK (m:=m) (c:=c) (hs:=L.map λe=>hk e.2) (λh hh=>by obtain⟨e,he,rfl⟩:=fj.mp hh;exact hw e he) (by rw[bJ];exact hc) hnd;rw[bJ] at h2;have hp:=zgy h2;have G6:((cQ m owner).map (·.2)).Perm (List.range L.length):=by rw[<-h2.ids];exact hp.map _
 have hlt:∀e∈cQ m owner,e.2<L.length:=λe he=>by
  have:=G6.mem_iff.mp (rH (f:=(·.2)) he);simpa using this
 have hkp:∀e∈O,(L.map λe=>hk e.2).getD e.2 0=hk (L.getD e.2 (0,0)).2:=λe he=>by
  have:=hlt e (hp.mem_iff.mpr he);simp[this]
 refine⟨(cQ m owner).map (·.2),(cQ m owner).map λe=>(e.1,(L.getD e.2 (0,0)).2),?_,?_,?_,?_,?_,?_,?_⟩
 ·unfold relaid laid;rw[hm,h1];show some (_,_)=some (_,_)
  congr 2
  ·rw[jB];show SetTable.mk _ _ _ _ _ _ _=SetTable.mk _ _ _ _ _ _ _;rw[T.Ao];rfl
 ·rw[bJ,hp.length_eq];have:=qp List.length h2.ids;simpa using this
 ·intro i hi;obtain⟨e,he,rfl⟩:=fj.mp hi;exact hlt e he
 ·rw[jB,jB];rfl
 ·rw[bJ,hp.length_eq];have:=qp List.length h2.ids;simpa using this
 ·rw[jB];have q1:((cQ m owner).map ((λx=>x.2)∘λe=>(e.1,(L.getD e.2 (0,0)).2)))=((cQ m owner).map (·.2)).map λi=>(L.getD i (0,0)).2:=by rw[jB];rfl
  rw[q1];have q2:L.map (·.2)=(List.range L.length).map λi=>(L.getD i (0,0)).2:=by
   apply List.ext_getElem
   ·simp
   ·intro i hi hi';rw[bJ] at hi;simp[hi]
  rw[q2];exact G6.map _
 ·have Pq:fV ((cQ m owner).map λe=>(e.1,(L.getD e.2 (0,0)).2)):=by
   have:=WT (m:=m) (owner:=owner);unfold fV at this ⊢;rw[jB];exact this
  have Pu:∀e∈O,∀e'∈O,hk (L.getD e.2 (0,0)).2=hk (L.getD e'.2 (0,0)).2->e=e':=λe he e' he' q=>by
   have a:=hlt e (hp.mem_iff.mpr he);have a':=hlt e' (hp.mem_iff.mpr he');rw[<-hkp e he,<-hkp e' he'] at q;have q':(L.map λe=>hk e.2)[e.2]'(by rw[bJ];exact a)=(L.map λe=>hk e.2)[e'.2]'(by rw[bJ];exact a'):=by simpa [a,a'] using q
   have e2:e.2=e'.2:=Pn hnd _ _ q';have Px:(O.map (·.2)).Nodup:=by rw[h2.ids];exact List.nodup_range
   obtain⟨i,hi,rfl⟩:=wR.mp he;obtain⟨i',hi',rfl⟩:=wR.mp he';have:(O.map (·.2))[i]'(by rw[bJ];exact hi)=(O.map (·.2))[i']'(by rw[bJ];exact hi'):=by simpa using e2
   have:=Pn Px _ _ this;subst this;rfl
  refine⟨rfl,T.Ao,Pq,λe he e' he' q=>?_,λe he=>?_⟩
  ·obtain⟨x,hx,rfl⟩:=fj.mp he;obtain⟨x',hx',rfl⟩:=fj.mp he';rw[Pu x (hp.mem_iff.mp hx) x' (hp.mem_iff.mp hx') q]
  ·obtain⟨x,hx,rfl⟩:=fj.mp he;have WW:=hp.mem_iff.mp hx;obtain⟨pre,post,a,b⟩:=h2.G4 x WW;rw[hkp x WW] at a b;refine⟨pre,post,a,λy hy=>?_⟩;obtain⟨z,hz,q1,q2⟩:=b y hy;have q2:hk (L.getD z.2 (0,0)).2≠hk (L.getD x.2 (0,0)).2:=by rw[<-hkp z hz];exact q2
   exact⟨(z.1,(L.getD z.2 (0,0)).2),rH (f:=λe=>(e.1,(L.getD e.2 (0,0)).2)) (hp.mem_iff.mpr hz),q1,q2⟩
end Ts
namespace Ts
open Mi PySem PySem.SetTable
noncomputable def hf(p:Int×Int):Int:=reduceHash (Builtin.Tuple.tupleHashOf [hashInt p.1,hashInt p.2])
noncomputable def dd(l:List Nat):List Nat:=l.foldr (λx r=>if r.contains x then r else x::r) []
theorem zlI(h:x∈dd l):x∈l:=by
 induction l with
 |nil=>cases h
 |cons y r ih=>
  have h:x∈(if (dd r).contains y then dd r else y::dd r):=h;split at h
  ·exact eN _ (ih h)
  ·rcases cM.mp h with rfl|h
   ·exact eZ
   ·exact eN _ (ih h)
theorem Py:∀l:List Nat,(dd l).Nodup
 |[]=>Bo
 |y::r=>by
  show (if (dd r).contains y then dd r else y::dd r).Nodup
  split
  ·exact Py r
  ·rename_i h;exact qm.mpr ⟨by simpa using h,Py r⟩
theorem WX:∀(a b i pt:Nat) (x:Nat),x∈rounds m a i pt->x∈rounds m (a+b) i pt
 |0,_,_,_,x,h=>by cases h
 |a+1,b,i,pt,x,h=>by
  rw[show a+1+b=(a+b)+1 by lia];rcases fG.mp (show x∈(List.range (runEnd m i+1-i)).map (i+·)++rounds m a (leap m i pt).1 (leap m i pt).2 from h) with z|z
  ·exact pB _ z
  ·exact nW _ (WX a b _ _ x z)
noncomputable def qd(m c f:Nat)(h:Int):Bool:=decide (c<=(dd (rounds m f (bits h%(m+1)) (bits h))).length)
theorem Pz(hf:f<=turns m)(hb:qd m c f h=true):fW m c h:=by
 refine⟨dd (rounds m f (bits h%(m+1)) (bits h)),Py _,gj hb,λx hx=>?_⟩;have:=WX f (turns m-f) _ _ x (zlI hx)
 rwa [show f+(turns m-f)=turns m by lia] at this
theorem w28:(iz.all λp=>qd 7 5 13 (hf p)&&qd 31 19 9 (hf p)&&qd 127 29 5 (hf p))=true:=by decide +kernel
theorem n28:(iz.map hf).Nodup:=by decide +kernel
def gP(p:Int×Int):Prop:=0<=p.1/\p.1<p.2/\p.2<8
theorem G7(h:gP p):p∈iz:=by
 obtain⟨a,b⟩:=p;obtain⟨h1,h2,h3⟩:=h;dsimp only at h1 h2 h3;have ha:a=0\/a=1\/a=2\/a=3\/a=4\/a=5\/a=6:=by lia
 have hb:b=1\/b=2\/b=3\/b=4\/b=5\/b=6\/b=7:=by lia
 rcases ha with rfl|rfl|rfl|rfl|rfl|rfl|rfl<;>rcases hb with rfl|rfl|rfl|rfl|rfl|rfl|rfl<;>first|(exfalso;lia)|decide
theorem PB(h:gP p):fW 7 5 (hf p)/\fW 31 19 (hf p)/\fW 127 29 (hf p):=by
 have:=gb.mp w28 p (G7 h);rw[cI,cI] at this;exact⟨Pz (by decide) this.1.1,Pz (by decide) this.1.2,Pz (by decide) this.2⟩
theorem zjF(h:gP p)(h':gP q)(e:hf p=hf q):p=q:=by
 obtain⟨i,hi,rfl⟩:=wR.mp (G7 h);obtain⟨j,hj,rfl⟩:=wR.mp (G7 h');have:(iz.map hf)[i]'(by rw[bJ];exact hi)=(iz.map hf)[j]'(by rw[bJ];exact hj):=by simpa using e
 have:=Pn n28 _ _ this;subst this;rfl
end Ts
namespace Ts
open PySem PySem.SetTable
noncomputable def aP(ts:List (Int×Int))(i:Nat):Int×Int:=ts.getD i (0,1)
noncomputable def bI(ts:List (Int×Int))(i:Nat):Int:=hf (aP ts i)
noncomputable def aH(items:List Value)(ts:List (Int×Int))(L:Ent):List (Int×Value):=L.map λe=>(bI ts e.2,items.getD e.2 .none)
structure fX(prog:Program)(w:World)(h:Heap)(S:Addr)(items:List Value)(ts:List (Int×Int)):Prop where
 len:ts.length=items.length
 tie:∀i,i<ts.length->gP (aP ts i)
 at':∀i,i<ts.length->∃a,items.getD i .none=.ref a/\a≠S/\IsTupleKey (intKind prog w) h [(aP ts i).1,(aP ts i).2] a
def uw(m n:Nat):Prop:=m=7/\n<=4\/m=31/\n<=18\/m=127/\n<=28
structure fZ(h:Heap)(S:Addr)(items:List Value)(ts:List (Int×Int))(L:Ent)(led:Bool):Prop where
 ob:∃ep t,h.get? S=some {cls:=.type "set",dict:=none,data:=.set (aH items ts L).toArray ep t}/\Tab (bI ts) t L/\uw t.mask L.length/\t.plain=true/\t.led=led
 idx:∀e∈L,e.2<ts.length
section
variable {prog:Program}{w:World}{A:Around}{E:Value->Shared->Prop}{s:Shared}{S:Addr}{items:List Value}{ts:List (Int×Int)}{L:Ent}{led:Bool}
theorem fX.mono(T:fX prog w h S items ts)(k:∀b o,b≠S->h.get? b=some o->h'.get? b=some o):fX prog w h' S items ts:=
 ⟨T.len,T.tie,λi hi=>let ⟨a,e,n,o,its,m,ho,r⟩:=T.at' i hi;⟨a,e,n,o,its,m,k a o n ho,r⟩⟩
theorem WY:(aH items ts (La++e::Lb)).toArray[La.length]?=some (bI ts e.2,items.getD e.2 .none):=by
 rw[CV];unfold aH;rw[jK,jA,nM (by simp)];simp
theorem G8(T:Tab (bI ts) t L)(c:uw t.mask L.length):t.fits (aH items ts L).toArray.size=true:=by
 unfold SetTable.fits SetTable.fill aH;rw[T.place,T.Ao];simp only[dD,bJ,cI,Bk];refine⟨wW _,?_⟩;show L.length+0<=t.mask;rcases c with c|c|c<;>lia
theorem zdC(hk:IsTupleKey (intKind prog w) s.heap [x,y] a)(h:Q true s):wpAny (model prog w) A (hashByValue 8 (.ref a)) Q E s:=by
 have hT:=hk.typeIs;obtain⟨o,its,n,ho,_,hd,hi⟩:=hk;unfold hashByValue;refine au (wpAny_specialOf hT F.slot_tuple_hash.lookup ?_);show wpAny _ _ (seqItems? (.ref a) >>= _) _ _ s;refine au (uF ho hd ?_);refine au ?_;show wpAny _ _ (forIn its _ _) _ _ s;rw[<-Array.forIn_toList];refine Ii _ (λrest r s'=>r.1=none/\s'=s/\∃ks,ItemsAre (intKind prog w) ks rest) _ ?_ ?_ _ _ ⟨rfl,rfl,_,hi⟩
 ·rintro v rest r s' ⟨hr,rfl,ks,hall⟩;cases hall with
  |@cons k0 _ _ _ hv hrest=>
   obtain⟨t,rfl⟩:=Bg hv;have e:hashByValue 7 (.int k0 t)=pure true:=by unfold hashByValue;rfl
   refine au ?_;show wpAny _ _ (hashByValue 7 (.int k0 t)) _ _ _;rw[e];refine aJ ?_;simp only[vh,jq,jg];exact aJ ⟨rfl,rfl,_,hrest⟩
 ·rintro⟨r1,r2⟩ s' ⟨hr,rfl,_⟩;simp only at hr;subst hr;exact aJ h
theorem W0(hk:IsTupleKey (intKind prog w) s.heap [x,y] a)(h:Q false s):wpAny (model prog w) A (ofAClassStatement 8 (.ref a)) Q E s:=by
 have hT:=hk.typeIs;obtain⟨o,its,n,ho,_,hd,hi⟩:=hk;unfold ofAClassStatement;refine au (xg hT ?_);dsimp only;rw[if_pos (by decide)];refine au (aJ ?_);simp only[vh,jq,jg];refine au (uF ho hd ?_);refine au ?_;show wpAny _ _ (forIn its _ _) _ _ s;rw[<-Array.forIn_toList];refine Ii _ (λrest r s'=>r.1=none/\s'=s/\∃ks,ItemsAre (intKind prog w) ks rest) _ ?_ ?_ _ _ ⟨rfl,rfl,_,hi⟩
 ·rintro v rest r s' ⟨hr,rfl,ks,hall⟩;cases hall with
  |@cons k0 _ _ _ hv hrest=>
   obtain⟨t,rfl⟩:=Bg hv;have e:ofAClassStatement 7 (.int k0 t)=pure false:=by unfold ofAClassStatement;rfl
   refine au ?_;show wpAny _ _ (ofAClassStatement 7 (.int k0 t)) _ _ _;rw[e];refine aJ ?_;simp only[jq,jg];exact aJ ⟨rfl,rfl,_,hrest⟩
 ·rintro⟨r1,r2⟩ s' ⟨hr,rfl,_⟩;simp only at hr;subst hr;exact aJ h
theorem zc5(hk:IsTupleKey (intKind prog w) s.heap [x,y] a)(hl:∀v∈l,∃b x' y',v=.ref b/\IsTupleKey (intKind prog w) s.heap [x',y'] b)(h:Q false s):wpAny (model prog w) A (searchCouldBeSeen (.ref a) l) Q E s:=by
 unfold searchCouldBeSeen;refine au ?_;refine Ii _ (λrest r s'=>r.1=none/\s'=s/\∀v∈rest,∃b x' y',v=.ref b/\IsTupleKey (intKind prog w) s.heap [x',y'] b) _ ?_ ?_ _ _ ⟨rfl,rfl,hl⟩
 ·rintro v rest r s' ⟨hr,rfl,hall⟩;obtain⟨b,x',y',rfl,hb⟩:=hall v eZ;have hrest:=λu hu=>hall u (eN _ hu);dsimp only
  split
  ·exact aJ ⟨rfl,rfl,hrest⟩
  ·refine au (wpAny_eqIsQuiet_tuple hk ?_);simp only[vh,jq,jg];refine au (wpAny_eqIsQuiet_tuple hb ?_);simp only[vh,jq,jg];refine au (W0 hk ?_);simp only[jq,jg];refine au (W0 hb ?_);simp only[jq,jg];exact aJ ⟨rfl,rfl,hrest⟩
 ·rintro⟨r1,r2⟩ s' ⟨hr,rfl,_⟩;simp only at hr;subst hr;exact aJ h
theorem zi8(c:uw m n):(m%2==0)=false:=by rcases c with ⟨rfl,_⟩|⟨rfl,_⟩|⟨rfl,_⟩<;>rfl
theorem zhv(c:uw m n)(h:gP p):∃k,Wide m k (hf p)/\n<k:=by
 obtain⟨a,b,d⟩:=PB h;rcases c with ⟨rfl,_⟩|⟨rfl,_⟩|⟨rfl,_⟩
 ·exact⟨5,a.wide,by lia⟩
 ·exact⟨19,b.wide,by lia⟩
 ·exact⟨29,d.wide,by lia⟩
theorem zc0(hu:A.units<cLine)(T:fX prog w s.heap S items ts)(hS:fZ s.heap S items ts L led)(hk:k<ts.length)(ha:items.getD k .none=.ref a)
  (hin:∀e∈L,aP ts e.2=aP ts k->Q (.there none) s)
  (hout:∀j,(∀e∈L,bI ts e.2≠bI ts k)->(∀e∈L,e.1≠j)->(∀ep t,s.heap.get? S=some {cls:=.type "set",dict:=none,data:=.set (aH items ts L).toArray ep t}->rE (bI ts) L (bI ts k) (steps t.mask (10*turns t.mask) (start t.mask (bI ts k))) j)->Q (.free j false) s) :
  wpAny (model prog w) A (setSearchFrom S (.ref a) (bI ts k) true (fuel+1) none) Q E s:=by
 obtain⟨⟨ep,t,ho,tb,cap,hpl,i_⟩,hidx⟩:=hS;have hf':=G8 (items:=items) tb cap;unfold setSearchFrom;refine au (vg ho rfl hf' ?_);dsimp only;have hgw:t.gaveWay=false:=zi8 cap;rw[hgw];simp only[jq,jg];obtain⟨c,hw,hc⟩:=zhv cap (T.tie k hk);have po:=zh3 (hashAt:=λi=>((aH items ts L).toArray[i]?.map (·.1)).getD 0) (h:=bI ts k) tb (λLa e Lb q=>by
  subst q;rw[WY,Option.map_some,Option.getD_some]) hw hc
 split
 ·rename_i met hq;have hq':t.probe (λi=>((aH items ts L).toArray[i]?.map (·.1)).getD 0) (bI ts k) (t.probeStart (bI ts k))=some met:=hq;rcases po with ⟨La,j,i,Lb,next,e1,e2,e3⟩|⟨j,e1,e2,e3,e4⟩
  ·rw[e1] at hq';cases hq';dsimp only;have Am:(j,i)∈L:=by rw[e2];simp
   have hti:aP ts i=aP ts k:=zjF (T.tie i (hidx _ Am)) (T.tie k hk) e3;have hget:(aH items ts L).toArray[La.length]?=some (bI ts i,items.getD i .none):=by
    have:=WY (items:=items) (ts:=ts) (La:=La) (e:=(j,i)) (Lb:=Lb);rw[<-e2] at this;exact this
   obtain⟨b,hb1,hb2,hb3⟩:=T.at' i (hidx _ Am);obtain⟨a',ha1,ha2,ha3⟩:=T.at' k hk;rw[ha] at ha1;cases ha1;by_cases hl:t.led=true
   ·rw[hl];simp only[vh,jq,jg];rw[hget];dsimp only;rw[hb1];refine au (kE (wpAny_eqBool_tuple hu hb3 ha3 ?_));rw[hti,cT rfl];refine au (vg ho rfl hf' ?_);dsimp only;simp only[Bool.and_self,if_true];exact aJ (hin _ Am hti)
   ·rw[show t.led=false by simpa using hl];simp only[Bool.not_false,if_true];refine au (zc5 ha3 (λv hv=>?_) ?_)
    ·obtain⟨x,hx,rfl⟩:=fj.mp hv;have hx':x∈(aH items ts L):=by
      have:=Array.mem_toList_iff.mp hx;rw[Array.mem_filter] at this;simpa using this.1
     obtain⟨e,he,rfl⟩:=fj.mp hx';obtain⟨b',c1,_,c3⟩:=T.at' e.2 (hidx e he);exact⟨b',_,_,c1,c3⟩
    ·simp only[jq,jg];rw[hget];dsimp only;rw[hb1];refine au (kE (wpAny_eqBool_tuple hu hb3 ha3 ?_));rw[hti,cT rfl];refine au (vg ho rfl hf' ?_);dsimp only;simp only[Bool.and_self,if_true];exact aJ (hin _ Am hti)
  ·rw[e1] at hq';cases hq';dsimp only;refine aJ (hout j e2 e3 λep' t' ho'=>?_);rw[ho] at ho';cases ho';exact e4
 ·rename_i hq;have hq':∀met,t.probe (λi=>((aH items ts L).toArray[i]?.map (·.1)).getD 0) (bI ts k) (t.probeStart (bI ts k))≠some met:=hq;rcases po with ⟨La,j,i,Lb,next,e1,_⟩|⟨j,e1,_⟩
  ·exact absurd e1 (hq' _)
  ·exact absurd e1 (hq' _)
end
end Ts
namespace Ts
open Mi (iz)
open PySem PySem.SetTable
def G9(ts:List (Int×Int))(L L':Ent)(k:Nat):Prop:=(L'=L/\∃e∈L,aP ts e.2=aP ts k)\/((∀e∈L,aP ts e.2≠aP ts k)/\(L'.map (·.2)).Perm (k::L.map (·.2)))
section
variable {prog:Program}{w:World}{A:Around}{E:Value->Shared->Prop}{s:Shared}{S:Addr}{items:List Value}{ts:List (Int×Int)}{L:Ent}{led:Bool}
theorem G_{t:SetTable}(T:Tab (bI ts) t L)(ht:∀e∈L,gP (aP ts e.2)):L.length<=28:=by
 have hnd:(L.map λe=>bI ts e.2).Nodup:=by
  rw[yH,rJ];have:=T.asc;unfold fV at this;rw[rJ,qP] at this;rw[qP];intro i j hi hj hij q;have e:=T.inj _ (nY hi) _ (nY hj) q;have:=this i j hi hj hij;rw[e] at this;exact mL _ this
 have:=Pb (m:=iz.map hf) hnd λx hx=>by
  obtain⟨e,he,rfl⟩:=fj.mp hx;exact rH (G7 (ht e he))
 rwa [bJ,bJ] at this
theorem W2:∀{l:List α},(∀x∈l,f x=some (g x))->l.filterMap f=l.map g
 |[],_=>rfl
 |x::l,h=>by
  rw[wU,h x eZ,jA];rw[W2 λy hy=>h y (eN _ hy)]
theorem W3{h:Heap}{es es':Array (Int×Value)}{ep:Nat}{t t':SetTable}(ho:h.get? S=some {cls:=.type "set",dict:=none,data:=.set es ep t}):(h.update S (Obj.putSet es' t')).get? S=some {cls:=.type "set",dict:=none,data:=.set es' (ep+1) t'}:=by
 have:=rG (Obj.putSet es' t') ho (by rw[putSet_of es' t' rfl];rfl);rw[putSet_of es' t' rfl] at this;exact this
theorem zd3{ep:Nat}{t:SetTable}{wanted c:Nat}{Q:Unit->Shared->Prop}(ho:s.heap.get? S=some {cls:=.type "set",dict:=none,data:=.set (aH items ts L).toArray ep t})(tb:Tab (bI ts) t L)(hfit:t.fits (aH items ts L).toArray.size=true)
  (hw:∀e∈L,fW (sizeAbove wanted-1) c (bI ts e.2)) (hc:L.length<=c) (hz:sizeAbove wanted<=sizeLine) (hz2:L.length<=sizeLine)
  (h:∀L' t',t'.mask=sizeAbove wanted-1->t'.plain=t.plain->t'.led=t.led->L'.length=L.length->(L'.map (·.2)).Perm (L.map (·.2))->Tab (bI ts) t' L'->Q () {s with heap:=s.heap.update S (Obj.putSet (aH items ts L').toArray t')}) :
  wpAny (model prog w) A (setRelay S wanted) Q E s:=by
 obtain⟨ord,L',r1,r2,r3,r4,r5,r6,r7⟩:=zij tb hw hc;unfold setRelay;refine au (vg ho rfl hfit ?_);dsimp only;rw[if_neg (Dq.mpr hz)];have e1:(aH items ts L).toArray.map (·.1)=(L.map λe=>bI ts e.2).toArray:=by
  unfold aH;rw[List.map_toArray,jB];rfl
 rw[e1,r1];have e2:ord.toArray.filterMap (λi=>(aH items ts L).toArray[i]?)=(aH items ts L').toArray:=by
  have q:aH items ts L'=ord.map λi=>(bI ts (L.getD i (0,0)).2,items.getD (L.getD i (0,0)).2 .none):=by
   have:aH items ts L'=(L'.map (·.2)).map λi=>(bI ts i,items.getD i .none):=by unfold aH;rw[jB];rfl
   rw[this,r4,jB];rfl
  rw[List.filterMap_toArray,q]
  congr 1
  refine W2 λi hi=>?_;have:=r3 i hi;unfold aH;simp[this]
 refine au ?_;show wpAny _ _ (if ((ord.toArray.filterMap (λi=>(aH items ts L).toArray[i]?)).size != (aH items ts L).toArray.size)=true then _ else _) _ _ _;rw[e2];have e3:((aH items ts L').toArray.size != (aH items ts L).toArray.size)=false:=by
  unfold aH;simp[r5]
 rw[e3];simp only[jq,jg];refine aJ ?_;refine wpAny_storeSet_of ho rfl ?_ (by unfold aH;simpa [r5] using hz2);exact h L' _ rfl rfl rfl r5 r6 r7
theorem ze8{fuel k:Nat}{a:Addr}{Q:Bool->Shared->Prop}(hu:A.units<cLine)(T:fX prog w s.heap S items ts)(hS:fZ s.heap S items ts L led)(hk:k<ts.length)(ha:items.getD k .none=.ref a)
  (h:∀h' L' b,Heap.SameBut S s.heap h'->fZ h' S items ts L' led->G9 ts L L' k->Q b {s with heap:=h'}) :
  wpAny (model prog w) A (setAddHashedIn S (.ref a) (bI ts k) (fuel+1)) Q E s:=by
 obtain⟨⟨ep,t,ho,tb,cap,hpl,i_⟩,hidx⟩:=id hS;have hf':=G8 (items:=items) tb cap;have aac:(100:Nat)<=sizeLine:=by decide
 unfold setAddHashedIn;refine au (vg ho rfl hf' ?_);dsimp only;have hbs:byScan (.ref a) (aH items ts L).toArray=false:=by simp[byScan,Value.scannable]
 rw[hbs];simp only[jq,jg];refine au ?_;unfold setSearch;refine zc0 (fuel:=99999) hu T hS hk ha (λe he q=>?_) (λj h1 h2 h3=>?_)
 ·exact aJ (h s.heap L false (Heap.SameBut.refl S s.heap) hS (.inl ⟨rfl,e,he,q⟩))
 ·have Aq:=h3 ep t ho;dsimp only;refine au (vg ho rfl hf' ?_);dsimp only;obtain⟨La,Lb,e,Hf,hasc⟩:=zmS tb.place tb.Ao tb.asc h2 k;have hlen:(La++(j,k)::Lb).length=L.length+1:=by rw[e];simp;lia
  have tb':=tb;have h1':=h1;have yu:=Aq;rw[e] at tb' h1' yu;have yw:=tb'.add hasc h1' yu;have m1:({t with place:=((La++(j,k)::Lb).map (·.1)).toArray}:SetTable).mask=t.mask:=rfl;have p1:({t with place:=((La++(j,k)::Lb).map (·.1)).toArray}:SetTable).plain=true:=hpl;have l1:({t with place:=((La++(j,k)::Lb).map (·.1)).toArray}:SetTable).led=led:=i_;generalize ({t with place:=((La++(j,k)::Lb).map (·.1)).toArray}:SetTable)=t1 at Hf yw m1 p1 l1;rw[Hf];dsimp only;rw[p1];simp only[if_true];obtain⟨a',ha1,ha2,ha3⟩:=T.at' k hk;rw[ha] at ha1;cases ha1;refine au (zdC ha3 ?_);simp only[if_true];have PJ:insertAt (aH items ts L).toArray La.length (bI ts k,.ref a)=(aH items ts (La++(j,k)::Lb)).toArray:=by
   have q:aH items ts L=(aH items ts La)++(aH items ts Lb):=by rw[e];unfold aH;rw[jK]
   have q2:La.length=(aH items ts La).length:=by unfold aH;rw[bJ]
   rw[q,q2,Wy];unfold aH;rw[jK,jA,ha]
  rw[PJ];have hsub:∀x∈La++(j,k)::Lb,x.2<ts.length:=λx hx=>by
   rcases fG.mp hx with z|z
   ·exact hidx x (by rw[e];exact pB _ z)
   ·rcases cM.mp z with rfl|z
    ·exact hk
    ·exact hidx x (by rw[e];exact nW _ z)
  have hperm:((La++(j,k)::Lb).map (·.2)).Perm (k::L.map (·.2)):=by
   rw[e,jK,jK,jA];exact List.perm_middle
  generalize La++(j,k)::Lb=L1 at hlen yw hsub hperm;have h28:=G_ yw λx hx=>T.tie x.2 (hsub x hx);have hne:∀x∈L,aP ts x.2≠aP ts k:=λx hx q=>h1 x hx (by unfold bI;rw[q]);have hsz:(aH items ts L1).toArray.size<=sizeLine:=by unfold aH;rw[dD,bJ,hlen];lia
  refine au (wpAny_storeSet_of ho rfl ?_ hsz);have hg1:=W3 (es':=(aH items ts L1).toArray) (t':=t1) ho;have hfill:t1.fill=L.length+1:=by
   unfold fill;rw[yw.place,yw.Ao,dD,bJ,hlen];rfl
  have hes:(aH items ts L).toArray.size=L.length:=by unfold aH;rw[dD,bJ]
  have Hg:t1.fits (aH items ts L1).toArray.size=true:=by
   unfold SetTable.fits;rw[hfill,yw.place];unfold aH;rw[dD,dD,bJ,bJ,wW,Bool.true_and];refine cT ?_;rw[m1];rcases cap with c|c|c<;>lia
  have hsb:Heap.SameBut S s.heap (s.heap.update S (Obj.putSet (aH items ts L1).toArray t1)):=yI s.heap S _;by_cases qe:t1.tooFull=true
  ·rw[qe];simp only[Bool.not_false,Bool.and_self,if_true];have Ar:(L.length+1)*5>=t.mask*3:=by
    have:=qe;unfold tooFull at this;rw[hfill,m1] at this;exact gj this
   rw[hes];have hcase:(t.mask=7/\L.length=4)\/(t.mask=31/\L.length=18):=by rcases cap with c|c|c<;>lia
   have Hj:∃c,(∀x∈L1,fW (sizeAbove (grown (L.length+1))-1) c (bI ts x.2))/\L.length+1<=c/\uw (sizeAbove (grown (L.length+1))-1) (L.length+1)/\sizeAbove (grown (L.length+1))<=sizeLine:=by
    rcases hcase with ⟨_,q⟩|⟨_,q⟩
    ·rw[q];refine⟨19,λx hx=>?_,by lia,.inr (.inl ⟨by decide,by lia⟩),by decide⟩;rw[show sizeAbove (grown (4+1))-1=31 by decide];exact(PB (T.tie x.2 (hsub x hx))).2.1
    ·rw[q];refine⟨29,λx hx=>?_,by lia,.inr (.inr ⟨by decide,by lia⟩),by decide⟩;rw[show sizeAbove (grown (18+1))-1=127 by decide];exact(PB (T.tie x.2 (hsub x hx))).2.2
   obtain⟨c,hw,hc,hcap,hz⟩:=Hj;refine au (zd3 (s:={s with heap:=s.heap.update S (Obj.putSet (aH items ts L1).toArray t1)}) hg1 yw Hg hw (by rw[hlen];exact hc) hz (by rw[hlen];lia) λL' t' n1 n2 n3 n4 n5 n6=>?_);refine aJ ?_;refine h _ L' true (hsb.trans (yI _ S _)) ⟨⟨_,t',W3 hg1,n6,by rw[n1,n4,hlen];exact hcap,n2.trans p1,n3.trans l1⟩,λx hx=>?_⟩ (.inr ⟨hne,n5.trans hperm⟩);have:x.2∈L1.map (·.2):=n5.mem_iff.mp (rH hx);obtain⟨y,hy,q⟩:=fj.mp this;rw[<-q];exact hsub y hy
  ·rw[show t1.tooFull=false by simpa using qe];simp only[Bool.not_false,Ir,jq,jg];have Ar:¬(L.length+1)*5>=t.mask*3:=by
    have:=qe;unfold tooFull at this;rw[hfill,m1] at this;simpa using this
   have hcap:uw t1.mask L1.length:=by
    rw[hlen,m1];rcases cap with ⟨c,_⟩|⟨c,_⟩|⟨c,_⟩
    ·exact .inl ⟨c,by lia⟩
    ·exact .inr (.inl ⟨c,by lia⟩)
    ·exact .inr (.inr ⟨c,by lia⟩)
   refine aJ ?_;exact h _ _ true hsb ⟨⟨_,_,hg1,yw,hcap,p1,l1⟩,hsub⟩ (.inr ⟨hne,hperm⟩)
end
end Ts
namespace Ts
open PySem PySem.SetTable
def Dn(ts:List (Int×Int))(L:Ent)(i:Nat):Prop:=(∀e∈L,e.2<i)/\∀k,k<i->∃e∈L,aP ts e.2=aP ts k
theorem Dn.PK{ts:List (Int×Int)}{L L':Ent}{i:Nat}(d:Dn ts L i)(g:G9 ts L L' i):Dn ts L' (i+1):=by
 rcases g with ⟨rfl,e,he,q⟩|⟨hn,hp⟩
 ·refine⟨λx hx=>qj (d.1 x hx),λk hk=>?_⟩;rcases Bq k i with z|z
  ·exact d.2 k z
  ·have:k=i:=by lia
   subst this;exact⟨e,he,q⟩
 ·have back:∀k∈i::L.map (·.2),∃e∈L',e.2=k:=λk hk=>by
   obtain⟨e,he,q⟩:=fj.mp (hp.mem_iff.mpr hk);exact⟨e,he,q⟩
  refine⟨λx hx=>?_,λk hk=>?_⟩
  ·rcases cM.mp (hp.mem_iff.mp (rH (f:=(·.2)) hx)) with q|q
   ·lia
   ·obtain⟨y,hy,q⟩:=fj.mp q;have:=d.1 y hy
    lia
  ·rcases Bq k i with z|z
   ·obtain⟨e,he,q⟩:=d.2 k z;obtain⟨e',he',q'⟩:=back e.2 (eN _ (rH he));exact⟨e',he',by rw[q'];exact q⟩
   ·obtain⟨e',he',q'⟩:=back i eZ;exact⟨e',he',by rw[q'];congr 1;lia⟩
theorem zkj{prog:Program}{w:World}{x y:Int}:tupleKeyHash (intKind prog w) [x,y]=hf (x,y):=by unfold tupleKeyHash hf;rfl
section
variable {prog:Program}{w:World}{A:Around}{R:Result->Shared->Prop}{I:Addr}{fp wr:List Addr}{G:Array GenState->Array GenState->Prop}{n:Nat}{P:Nat->Value->Prop}{St:Nat->Shared->Prop}{S:Addr}{items:List Value}{ts:List (Int×Int)}{led:Bool}
theorem fZ.keep{h h':Heap}{L:Ent}(x:fZ h S items ts L led)(k:∀o,h.get? S=some o->h'.get? S=some o):fZ h' S items ts L led:=
 let ⟨⟨ep,t,ho,r⟩,i⟩:=x;⟨⟨ep,t,k _ ho,r⟩,i⟩
theorem fX.keep{h h':Heap}(T:fX prog w h S items ts)(k:∀i a o,i<ts.length->items.getD i .none=.ref a->h.get? a=some o->h'.get? a=some o):fX prog w h' S items ts:=
 ⟨T.len,T.tie,λi hi=>let ⟨a,e,n,o,its,m,ho,r⟩:=T.at' i hi;⟨a,e,n,o,its,m,k i a o hi e ho,r⟩⟩
theorem zkb(W:WalksS prog w A.in1 I fp wr G n P St)(hSf:S∉fp)(hn:n=ts.length)(hval:∀i v,P i v->items.getD i .none=v)(hu:A.in1.units<cLine)(hwr:∀i a,i<ts.length->items.getD i .none=.ref a->a∉wr) :
  ∀(k i:Nat) (s:Shared) (L:Ent),n-i=k->i<=n->St i s->fX prog w s.heap S items ts->fZ s.heap S items ts L led->Dn ts L i->
   (∀s' L',Moved (S::wr) G s s'->fX prog w s'.heap S items ts->fZ s'.heap S items ts L' led->Dn ts L' n->R (.ok (.ret .none)) s')->
   codeAny (model prog w) A (.builtin "set.update.loop" ⟨[.ref S,.ref I],[]⟩) R s:=by
 have hSw:S∉wr:=λh=>hSf (W.sub _ h);have hsub:∀b∈wr,b∈S::wr:=λb hb=>eN _ hb;intro k
 induction k with
 |zero=>
  intro i s L hk hi hst hT hS hD hR;have hin:i=n:=by lia
  subst hin;refine Bm RV ?_;rw[K6 KD _];show wpAny _ A.in1 (pyNext (.ref I) >>= _) _ _ s;refine au (W.done s _ _ hst λs' hm=>?_);show wpAny _ A.in1 (ret Value.none) _ _ s';exact aJ (hR s' L (hm.mono hsub) (hT.keep λi a o hi e=>hm.heap a o (hwr i a hi e)) (hS.keep λo=>hm.heap S o hSw) hD)
 |succ k ih=>
  intro i s L hk hi hst hT hS hD hR;have hlt:i<n:=by lia
  have hlt':i<ts.length:=by lia
  refine Bm RV ?_;rw[K6 KD _];show wpAny _ A.in1 (pyNext (.ref I) >>= _) _ _ s;refine au (W.item i s _ _ hlt hst λv s' hP hst' hm=>?_);have hv:=hval i v hP;have hT':fX prog w s'.heap S items ts:=hT.keep λi a o hi e=>hm.heap a o (hwr i a hi e);have hS':fZ s'.heap S items ts L led:=hS.keep λo=>hm.heap S o hSw;obtain⟨a,ha1,ha2,ha3⟩:=hT'.at' i hlt';have hva:v=.ref a:=hv.symm.trans ha1;subst hva;show wpAny _ A.in1 (holding [Value.ref a] (setAdd S (.ref a)) >>= _) _ _ s';refine au (kE ?_);unfold setAdd;refine kE ?_;refine au (wpAny_pyHash_tuple hu ha3 ?_);rw[zkj];unfold setAddHashed;refine kE ?_;refine ze8 (fuel:=99999) (k:=i) (s:={s' with toks:=s'.toks+([(aP ts i).1,(aP ts i).2].length+1)}) hu hT' hS' hlt' ha1 λh' L' b hsb hS2 hg=>?_;have hk':∀b o,b≠S->s'.heap.get? b=some o->h'.get? b=some o:=λb o hb e=>by rw[hsb.2 b hb];exact e
  refine aJ ⟨plainId_quiet KD _,ih (i+1) _ L' (by lia) hlt (W.frame _ s' _ _ hst' (Nat.le_add_right _ _) λb hb o e=>hk' b o (λh=>hSf (by rw[<-h];exact hb)) e) (hT'.mono hk') hS2 (hD.PK hg) λs'' L'' hm'' PL hS'' PN=>?_⟩;refine hR s'' L'' (Moved.trans W.gtrans ((hm.mono hsub).then_heap (Nat.le_add_right _ _) λb o hb e=>hk' b o (λh=>hb (by rw[h];exact eZ)) e) hm'') PL hS'' PN
end
section
variable {prog:Program}{w:World}{A:Around}{E:Value->Shared->Prop}{s:Shared}
noncomputable def bV(w:World):Bool:=!w.params.followText "set-order"
theorem zib(a:Value){Q₁:Value->Shared->Prop}
  (h:Q₁ (.ref s.heap.objs.size) {s with heap:=s.heap.push {cls:=.type "set",dict:=none,data:=.set #[] 0 (.fresh 0 0 (bV w))}}) :
  codeAny (model prog w) A (.call (.builtin "set.__new__") ⟨[.type "set",a],[]⟩) (wants Q₁ E) s:=by
 refine codeAny_of_tree ?_;show wpAny _ A.in1 (do checkBuiltinCall "set.__new__" ⟨[.type "set",a],[]⟩;again (.builtin "set.__new__" ⟨[.type "set",a],[]⟩)) _ _ s;refine au (Br (F.newCall_set_1 a) (aJ ⟨plainId_quiet F.plain_set_new _,Bm F.entry_set_new ?_⟩));rw[K6 F.plain_set_new _];unfold Builtin.«set.__new__» Builtin.Frozenset.newClass;have hsub:=sub_set_self;obtain⟨hp,g,d,tk,os⟩:=s;dsimp only
 wp_walk
 refine wpAny_askSetting (aJ ?_);dsimp only;simp only[newObj];refine au (wpAny_alloc (aJ ?_));exact aJ h
theorem tab0{hk:Nat->Int}{led:Bool}:Tab hk (.fresh 0 0 led) []:=⟨rfl,rfl,List.Pairwise.nil,(λe he=>by cases he),λe he=>by cases he⟩
theorem zcM{l:Addr}{items:List Value}{ts:List (Int×Int)}{Q:Value->Shared->Prop}(hh:A.handled=none)(hu:A.units+8<cLine)(hl:s.heap.IsTuple l items.toArray)(hT:fX prog w s.heap s.heap.objs.size items ts)
  (h:∀(h':Heap) (tk:Nat) (L:Ent),fZ h' s.heap.objs.size items ts L (bV w)->fX prog w h' s.heap.objs.size items ts->Dn ts L ts.length->(∀b o,b<s.heap.objs.size->s.heap.get? b=some o->h'.get? b=some o)->Q (.ref s.heap.objs.size) {s with heap:=h',toks:=tk}) :
  wpAny (model prog w) A (call (.type "set") [.ref l]) Q E s:=by
 obtain⟨c,tl,hmro⟩:=xq.mro;have hmade:=xq.made;have hsub:=xq.sub;refine yN (codeAny_of_tree ?_);show wpAny _ _ (callAny (.type "set") _) _ _ _;refine aJ ⟨HX _ (by decide +kernel),Bm F.entry_type_call ?_⟩;rw[Around.under_plain (weight_type_call_type "set" [.ref l] []) rfl];have h1:=xq.notType;have h2:=xq.canCreate;have hct:=F.typeCall_set_1 (.ref l)
 repeat (any_goals (first|assumption|wp_step))
 refine Dp (zib (.ref l) (E:=E) (Q₁:=λobj s₁=>obj=.ref s.heap.objs.size/\s₁={s with heap:=s.heap.push {cls:=.type "set",dict:=none,data:=.set #[] 0 (.fresh 0 0 (bV w))}}) ⟨rfl,rfl⟩) λr s₁ hr=>?_;cases r with
 |error e=>exact hr
 |ok fl=>
  cases fl with
  |ret obj=>
   obtain⟨rfl,rfl⟩:=hr;have hS:(s.heap.push {cls:=.type "set",dict:=none,data:=.set #[] 0 (.fresh 0 0 (bV w))}).get? s.heap.objs.size=some {cls:=.type "set",dict:=none,data:=.set #[] 0 (.fresh 0 0 (bV w))}:=gW _ rfl;have hTy:Shared.TypeIs {s with heap:=s.heap.push {cls:=.type "set",dict:=none,data:=.set #[] 0 (.fresh 0 0 (bV w))}} (.ref s.heap.objs.size) "set":=⟨_,hS,rfl⟩;have hli:=xq.init.lookup;have hbi:=xq.init.bind (.ref s.heap.objs.size)
   repeat (any_goals (first|assumption|wp_step))
   refine Dp (K4 (R:=wants (λr s₂=>r=.none/\∃h' tk L,s₂={s with heap:=h',toks:=tk}/\fZ h' s.heap.objs.size items ts L (bV w)/\fX prog w h' s.heap.objs.size items ts/\Dn ts L ts.length /\
     (∀b o,b<s.heap.objs.size->s.heap.get? b=some o->h'.get? b=some o)) E) xq.init.plain F.entry_set_init (check_set_init_1 hTy ?_)) λr₂ s₂ hr₂=>?_
   ·obtain⟨ol,hol,hcl,nl,hdl⟩:=id hl;obtain⟨ocls,odict,odata,oslots⟩:=ol;simp only at hcl hdl;subst hcl;subst hdl;have hol':(s.heap.push {cls:=.type "set",dict:=none,data:=.set #[] 0 (.fresh 0 0 (bV w))}).get? l=some {cls:=.type "tuple",dict:=odict,data:=.seq items.toArray nl,slots:=oslots}:=bZ _ hol;have hsls:=F.sub_tuple_set;have hslf:=F.sub_tuple_frozenset;have hne:(Value.type "tuple"==Value.type "dict")=false:=by decide
    have hl1:(s.heap.push {cls:=.type "set",dict:=none,data:=.set #[] 0 (.fresh 0 0 (bV w))}).IsTuple l items.toArray:=⟨_,hol',rfl,nl,rfl⟩;unfold Builtin.«set.__init__» noKeywords Builtin.Frozenset.updateFrom;generalize hPI:pyIter=PI
    wp_walk
    subst hPI;refine wpAny_pyIter_tuple hl1 ?_;refine au (wpAny_runValue ?_);have hlS:l<s.heap.objs.size:=bM hol;have hh3:A.in1.in1.in1.handled=none:=by simp[hh]
    have hneI:l≠(s.heap.push {cls:=.type "set",dict:=none,data:=.set #[] 0 (.fresh 0 0 (bV w))}).objs.size:=by
     rw[qT];exact dh (qj hlS)
    have hSf:s.heap.objs.size∉[(s.heap.push {cls:=.type "set",dict:=none,data:=.set #[] 0 (.fresh 0 0 (bV w))}).objs.size,l]:=by
     rw[qT];simp only[cM,K_,mK,lJ,not_or];exact⟨dh (Ij _),uG hlS⟩
    have hval:∀(i:Nat) (v:Value),items.toArray[i]?=some v->items.getD i .none=v:=λi v hv=>by
     rw[CV] at hv;rw[kj,hv];rfl
    have hsz:items.toArray.size=ts.length:=by rw[dD,hT.len]
    have hwr:∀i a,i<ts.length->items.getD i .none=.ref a->a∉[(s.heap.push {cls:=.type "set",dict:=none,data:=.set #[] 0 (.fresh 0 0 (bV w))}).objs.size]:=λi a hi e hm=>by
     obtain⟨a',e1,_,o,its,m,ho,_⟩:=hT.at' i hi;rw[e] at e1;cases e1;have hm:=K_.mp hm;rw[qT] at hm;have hlt:=bM ho;rw[hm] at hlt;exact Nat.not_succ_lt_self hlt
    refine zkb (led:=bV w) (items:=items) (ts:=ts) ((Walks.tuple hh3 _ l hneI items.toArray).toS) hSf hsz hval (by show A.units+1+1+1<cLine;lia) hwr (items.toArray.size-0) 0 _ [] (by lia) (n_ _)
     ⟨⟨_,gW _ rfl,rfl,rfl⟩,(hl1.push _)⟩ (hT.mono λb o hb e=>bZ _ (bZ _ e)) ?hS0 ⟨(λe he=>by cases he),λk hk=>by lia⟩ ?hR
    case hS0=>
     have hget:((s.heap.push {cls:=.type "set",dict:=none,data:=.set #[] 0 (.fresh 0 0 (bV w))}).push {cls:=.type "tuple_iterator",data:=.fields #[.ref l,.int 0 0]}).get? s.heap.objs.size
      =some {cls:=.type "set",dict:=none,data:=.set #[] 0 (.fresh 0 0 (bV w))}:=bZ _ hS
     exact⟨⟨0,_,hget,tab0,.inl ⟨rfl,n_ _⟩,rfl,rfl⟩,λe he=>by cases he⟩
    case hR=>
     intro s' L' hm hT' hS' hD';obtain⟨h',g',d',tk',os'⟩:=s';have eg:g'=s.gens:=hm.gens;have ed:d'=s.drawn:=hm.drawn;have eo:os'=s.os:=hm.os;subst eg;subst ed;subst eo;show wpAny _ _ _ _ _ _;refine aJ ?_;show wpAny _ _ (ret Value.none) _ _ _;refine aJ ⟨rfl,h',tk',L',rfl,hS',hT',by rw[<-hsz];exact hD',λb o hb e=>?_⟩;have hb1:b≠s.heap.objs.size:=dh hb;have hb2:b≠(s.heap.push {cls:=.type "set",dict:=none,data:=.set #[] 0 (.fresh 0 0 (bV w))}).objs.size:=by
      rw[qT];exact dh (qj hb)
     exact hm.heap b o (by simp only[cM,K_,mK,lJ,not_or];exact⟨hb1,hb2⟩) (bZ _ (bZ _ e))
   ·cases r₂ with
    |error e=>exact hr₂
    |ok fl₂=>
     cases fl₂ with
     |ret r=>
      obtain⟨rfl,h',tk,L,rfl,hS',hT',hD',hk'⟩:=hr₂
      repeat (any_goals (first|assumption|wp_step))
      exact h _ _ L hS' hT' hD' hk'
     |_=>exact hr₂.elim
  |_=>exact hr.elim
end
theorem cY:Slot "set_iterator" "__next__" "set_iterator.__next__":=
 .of (owner:="set_iterator") (n:="__next__") (by rw[typeLookup_type,builtinLookup_eq_fast];kernel_rfl) (by decide +kernel) (by decide +kernel) (by decide +kernel)
  (by first|exact .inl (by decide +kernel)|exact .inr (by decide +kernel)) (by rw[isSubtype_type];kernel_rfl)
theorem W4:Slot "set_iterator" "__iter__" "set_iterator.__iter__":=
 .of (owner:="set_iterator") (n:="__iter__") (by rw[typeLookup_type,builtinLookup_eq_fast];kernel_rfl) (by decide +kernel) (by decide +kernel) (by decide +kernel)
  (by first|exact .inl (by decide +kernel)|exact .inr (by decide +kernel)) (by rw[isSubtype_type];kernel_rfl)
theorem W5:Manifest.owners.lookup (String.ofList ['r','o','t','a','r','e','t','i','_','t','e','s'].reverse)=some Manifest.sig_set_iterator:=by kernel_rfl
theorem zdz(a:Value):argsOk "set_iterator.__next__" ⟨[a],[]⟩:=by
 unfold argsOk;rw[signature?_of (id:="set_iterator.__next__") (n:=['_','_','t','x','e','n','_','_']) (o:=['r','o','t','a','r','e','t','i','_','t','e','s']) (by kernel_rfl) W5];kernel_rfl
theorem zdx(a:Value):argsOk "set_iterator.__iter__" ⟨[a],[]⟩:=by
 unfold argsOk;rw[signature?_of (id:="set_iterator.__iter__") (n:=['_','_','r','e','t','i','_','_']) (o:=['r','o','t','a','r','e','t','i','_','t','e','s']) (by kernel_rfl) W5];kernel_rfl
theorem zcR:entryFor table "set_iterator.__next__"=some Builtin.«set_iterator.__next__»:=entryFor_of_tree (by kernel_rfl)
theorem zcG:entryFor table "set_iterator.__iter__"=some Builtin.«dict_keyiterator.__iter__»:=
 entryFor_alias (id':="dict_keyiterator.__iter__") (by kernel_rfl) (by first|rfl|decide +kernel|(unfold String.splitOn;simp +decide [String.splitOnAux])) (by decide +kernel) (by kernel_rfl)
theorem zck:entryFor table "set.__iter__"=some Builtin.«frozenset.__iter__»:=
 entryFor_alias (id':="frozenset.__iter__") (by kernel_rfl) rfl (by decide +kernel) (by kernel_rfl)
noncomputable def cR(L:Ent):Nat->Nat
 |0=>0
 |k+1=>(L.getD k (0,0)).1+1
theorem zia{L:Ent}(h:fV L){k:Nat}(hk:k<=L.length):below (L.map (·.1)).toArray (cR L k)=k:=by
 obtain⟨La,Lb,e,hb,h1,h2⟩:=Pa h (cR L k);rw[hb];have hp:=qP.mp h;have hll:La.length+Lb.length=L.length:=by rw[e,cX]
 have W6:∀i (hi:i<L.length),i<La.length->L[i].1<cR L k:=λi hi q=>h1 _ (by
  have:L[i]=La[i]:=by
   simp only[e];exact List.getElem_append_left q
  rw[this];exact nY _)
 have inB:∀i (hi:i<L.length),La.length<=i->cR L k<=L[i].1:=λi hi q=>h2 _ (by
  have:L[i]=Lb[i-La.length]'(by lia):=by
   simp only[e];exact List.getElem_append_right q
  rw[this];exact nY _)
 cases k with
 |zero=>
  cases La with
  |nil=>rfl
  |cons x r=>
   have:=h1 x eZ;exact absurd this (Nat.not_lt_zero _)
 |succ k=>
  have hs:cR L (k+1)=L[k].1+1:=by
   show (L.getD k (0,0)).1+1=_;simp[show k<L.length by lia]
  rw[hs] at W6 inB;rcases Le La.length (k+1) with z|z|z
  ·have:=inB k (by lia) (by lia)
   lia
  ·exact z
  ·have h3:=W6 (k+1) (by lia) z;have h4:=hp k (k+1) (by rw[bJ];lia) (by rw[bJ];lia) (by lia);rw[List.getElem_map,List.getElem_map] at h4
   lia
theorem W7{α:Type}(next:Nat->Nat):∀(fuel k:Nat) (left:List α) (out:Array α),left.length<=fuel->(pickOrder.go next fuel k left out).toList.Perm (out.toList++left)
 |0,k,left,out,h=>by
  have:left=[]:=List.length_eq_zero_iff.mp (by lia);subst this;unfold pickOrder.go;rw[Bl]
 |fuel+1,k,left,out,h=>by
  unfold pickOrder.go;cases left with
  |nil=>simp
  |cons y r=>
   have hlt:next k%(y::r).length<(y::r).length:=Nat.mod_lt _ (by simp);rw[fD hlt];dsimp only;generalize next k%(y::r).length=i at hlt;refine(W7 next fuel (k+1) _ _ (by rw[List.length_eraseIdx_of_lt hlt];lia)).trans ?_;rw[Array.toList_push,Bj];refine List.Perm.append_left _ ?_;rw[List.eraseIdx_eq_take_drop_succ];have:(y::r)=(y::r).take i++(y::r)[i]::(y::r).drop (i+1):=by
    rw[<-List.drop_eq_getElem_cons hlt,K1]
   refine List.Perm.trans ?_ (List.Perm.of_eq this.symm);exact(List.perm_middle (l₁:=(y::r).take i)).symm
theorem zfT{α:Type}(next:Nat->Nat)(xs:List α):(pickOrder next xs.toArray).toList.Perm xs:=by
 unfold pickOrder;have:=W7 next xs.toArray.size 0 xs #[] (by simp);simpa using this
section
variable {prog:Program}{w:World}{A:Around}{E:Value->Shared->Prop}{s:Shared}{S:Addr}{items:List Value}{ts:List (Int×Int)}{L:Ent}
noncomputable def bR(w:World)(S:Addr)(ep:Nat)(es:List (Int×Value)):List (Int×Value):=if w.params.followText "set-order"=true then (pickOrder (w.params.setOrder S ep) es.toArray).toList else es
theorem lG{ep:Nat}{es:List (Int×Value)}:(bR w S ep es).Perm es:=by
 unfold bR
 split
 ·exact zfT _ _
 ·exact List.Perm.refl _
noncomputable def oY(items:List Value)(ts:List (Int×Int))(L:Ent)(ep:Nat)(t:SetTable):Obj:={cls:=.type "set",dict:=none,data:=.set (aH items ts L).toArray ep t}
noncomputable def yx(S:Addr)(slot i n ep:Nat):Obj:={cls:=.type "set_iterator",data:=.fields #[.int slot 0,.int i 0,.ref S,.int n 0,.int ep 0]}
theorem PX{Q:Bool->Shared->Prop}(h:Q (w.params.followText "set-order") s):wpAny (model prog w) A setsByText Q E s:=by
 unfold setsByText;exact au (wpAny_askSetting (aJ h))
theorem zfb{ep:Nat}{t:SetTable}{Q:Value->Shared->Prop}(ho:s.heap.get? S=some (oY items ts L ep t))(tb:Tab (bI ts) t L)(cap:uw t.mask L.length)(hpl:t.plain=true)
  (h:Q (.ref s.heap.objs.size) {s with heap:=s.heap.push (yx S 0 0 L.length ep)}):wpAny (model prog w) A (pyIter (.ref S)) Q E s:=by
 have hT:s.TypeIs (.ref S) "set":=⟨_,ho,rfl⟩;have hf':=G8 (items:=items) tb cap;refine wpAny_pyIter_slot hT F.slot_set_iter (qR F.slot_set_iter hT zck ?_ (F.args_set_iter_1 _));unfold Builtin.«frozenset.__iter__» Builtin.Frozenset.slot0 slotArgs;simp only[List.isEmpty_nil,vh,jq,↓reduceIte,bind_assoc,ql,Bh];unfold Builtin.Frozenset.addrOf Builtin.Frozenset.sizeOf;refine au (aJ ?_)
 try dsimp only
 refine au (aJ ?_);refine au (au (wpAny_setEntries_of ho rfl hf' (aJ ?_)));unfold setDrawn;refine au (au (vg ho rfl hf' (au (PX (aJ ?_)))));have hdr:(!w.params.followText "set-order"&&(!t.plain&&decide ((aH items ts L).toArray.size>1)))=false:=by rw[hpl];simp
 show wpAny _ _ (if (!w.params.followText "set-order"&&(!t.plain&&decide ((aH items ts L).toArray.size>1)))=true then _ else _) _ _ _;rw[hdr];simp only[jq,jg];refine au (aJ ?_);refine au (wpAny_setEpoch_of ho rfl hf' ?_);have hes:(aH items ts L).toArray.size=L.length:=by unfold aH;rw[dD,bJ]
 rw[hes];refine au (nO (aJ ⟨_,rfl,"set_iterator",_,⟨_,gW _ rfl,rfl⟩,cY.lookup,?_⟩));exact h
theorem Hl{I slot i n ep:Nat}(hit:s.heap.get? I=some (yx S slot i n ep)):s.TypeIs (.ref I) "set_iterator":=⟨_,hit,rfl⟩
theorem zmA:(aH items ts L).toArray.size=L.length:=by unfold aH;rw[dD,bJ]
theorem zcC{ep i:Nat}{t:SetTable}{slot:Nat}{Q:Option (Value×Nat)->Shared->Prop}(ho:s.heap.get? S=some (oY items ts L ep t))(tb:Tab (bI ts) t L)(cap:uw t.mask L.length)(hpl:t.plain=true)(i_:t.led=bV w)(hi:i<=L.length)(hsl:w.params.followText "set-order"=false->slot=cR L i)
  (h:∀dM,(w.params.followText "set-order"=false->dM=cR L (i+1))->Q ((bR w S ep (aH items ts L))[i]?.map λe=>(e.2,dM)) s) :
  wpAny (model prog w) A (setNext S slot i ep) Q E s:=by
 have hf':=G8 (items:=items) tb cap;unfold setNext;refine au (vg ho rfl hf' ?_);dsimp only;refine au (PX ?_);by_cases hb:w.params.followText "set-order"=true
 ·rw[if_pos hb];simp only[Bh,jq,jg];unfold setWalk;refine au (au (vg ho rfl hf' (au (PX ?_))));rw[if_pos hb];refine au (wpAny_askSetting (aJ ?_));refine aJ ?_;have:=h slot (λq=>by rw[hb] at q;cases q);unfold bR at this;rw[if_pos hb,HD] at this;exact this
 ·have hb':w.params.followText "set-order"=false:=by simpa using hb
  rw[if_neg hb];have hl:t.led=true:=by rw[i_];unfold bV;rw[hb'];rfl
  show wpAny _ _ (if (!t.plain&&decide ((aH items ts L).toArray.size>1))=true then _ else _) _ _ _;rw[hpl];simp only[vh,Ip,jq,jg];refine au ?_;show wpAny _ _ (if (!t.led && !(aH items ts L).toArray.isEmpty)=true then _ else _) _ _ _;rw[hl];simp only[vh,Ip,jq,jg];refine aJ ?_;have hbl:below t.place slot=i:=by rw[tb.place,hsl hb'];exact zia tb.asc hi
  rw[hbl];refine aJ ?_;have hw:bR w S ep (aH items ts L)=aH items ts L:=by unfold bR;rw[if_neg hb]
  have:=h (cR L (i+1)) (λ_=>rfl);rw[hw] at this;rw[CV,tb.place,CV];cases e:L[i]? with
  |none=>
   have e1:(aH items ts L)[i]?=none:=by unfold aH;rw[je,e];rfl
   rw[e1] at this ⊢;exact this
  |some x=>
   have e1:(aH items ts L)[i]?=some (bI ts x.2,items.getD x.2 .none):=by unfold aH;rw[je,e];rfl
   have e2:(L.map (·.1))[i]?=some x.1:=by rw[je,e];rfl
   have e3:cR L (i+1)=x.1+1:=by show (L.getD i (0,0)).1+1=_;rw[kj,e];rfl
   rw[e1,e3] at this;rw[e1,e2];exact this
theorem W8{I ep i:Nat}{t:SetTable}{slot:Nat}{Q:Option Value->Shared->Prop}(hh:A.handled=none)(hit:s.heap.get? I=some (yx S slot i L.length ep))(ho:s.heap.get? S=some (oY items ts L ep t))(tb:Tab (bI ts) t L)(cap:uw t.mask L.length)(hpl:t.plain=true)(i_:t.led=bV w)(hi:i<=L.length)(hsl:w.params.followText "set-order"=false->slot=cR L i)
  (h1:∀e h' dM,(bR w S ep (aH items ts L))[i]?=some e->h'.get? I=some (yx S dM (i+1) L.length ep)->(w.params.followText "set-order"=false->dM=cR L (i+1))->Heap.SameBut I s.heap h'->Q (some e.2) {s with heap:=h'})
  (h2:∀h',(bR w S ep (aH items ts L))[i]?=none->Heap.ExtBut I s.heap h'->Q none {s with heap:=h'}):wpAny (model prog w) A (pyNext (.ref I)) Q E s:=by
 have hf':=G8 (items:=items) tb cap;unfold pyNext;refine au (Dm (wN (name:=Str.ofString "__next__") (Hl hit) cY
  (qR cY (Hl hit) zcR ?_ (zdz _))))
 unfold Builtin.«set_iterator.__next__» slotArgs;simp only[List.isEmpty_nil,vh,jq,↓reduceIte,bind_assoc,ql,Bh];refine au (aJ ?_);dsimp only;refine au (wpAny_fieldsOf hit rfl ?_);dsimp only;refine au (wpAny_setEntries_of ho rfl hf' ?_);rw[zmA];simp only[Bh,jq,jg];rw[vf,vf,vf];refine au (zcC ho tb cap hpl i_ hi hsl λdM hs'=>?_);cases e:(bR w S ep (aH items ts L))[i]? with
 |some x=>
  dsimp only[Option.map_some];refine au (wY hit rfl (by simp) ?_);have g1:(s.heap.update I (Obj.mapFields (·.setIfInBounds 0 (rawInt dM)))).get? I=some (yx S dM i L.length ep):=by
   have:=rG (Obj.mapFields (·.setIfInBounds 0 (rawInt dM))) hit rfl;exact this
  refine au (wY (s:={s with heap:=s.heap.update I (Obj.mapFields (·.setIfInBounds 0 (rawInt dM)))}) g1 rfl (by simp) ?_);refine aJ ⟨_,rfl,aJ (h1 x _ dM e ?_ hs' ((yI ..).trans (yI ..)))⟩;have:=rG (Obj.mapFields (·.setIfInBounds 1 (rawInt ((i:Int)+1)))) g1 rfl;exact this
 |none=>
  dsimp only[Option.map_none];refine au (wY hit rfl (by simp) ?_);show wpAny _ _ (newExc (.type "StopIteration") [] >>= _) _ _ _;refine au ?_;simp only[newExc,newTuple];refine au (nO ?_ (by size_fits));refine au (m:=firstArgMember _ _) (Br (a:=Value.none) (by first|rfl|(simp only[firstArgMember];rfl)) ?_);refine nO ?_ (by size_fits);simp only[raiseNew];refine au (wpAny_handled ?_)
  first|rw[show A.in1.handled=none from hh]|rw[hh]
  refine au (aJ (wpAny_throw ?_));refine au (wpAny_isInstance (T:="StopIteration") (b:=true) ⟨_,gW _ rfl,rfl⟩ isSubtype_stop ?_);exact aJ (h2 _ e (((yI ..).extBut.push _).push _))
end
end Ts
namespace Ts
open PySem PySem.SetTable PySem.Spec PyProof.Rows PySem.W L2
section
variable {prog:Program}{w:World}{A:Around}{E:Value->Shared->Prop}{s:Shared}{S:Addr}{items:List Value}{ts:List (Int×Int)}{L:Ent}
theorem P0{ep:Nat}:(bR w S ep (aH items ts L)).length=L.length:=by
 rw[lG.length_eq];unfold aH;rw[bJ]
theorem zgS{ep:Nat}{t:SetTable}(hh:A.handled=none)(I:Addr)(hne:S≠I)(tb:Tab (bI ts) t L)(cap:uw t.mask L.length)(hpl:t.plain=true)(i_:t.led=bV w) :
  Walks prog w A I [I,S] [I] L.length (λi v=>∃e,(bR w S ep (aH items ts L))[i]?=some e/\e.2=v) (λi h=>i<=L.length/\h.get? S=some (oY items ts L ep t)/\∃slot,h.get? I=some (yx S slot i L.length ep)/\(w.params.followText "set-order"=false->slot=cR L i)) where
 sub:=λb hb=>by simp at hb;simp[hb]
 frame:=λ_ _ _ st hk=>let ⟨a,b,slot,c,d⟩:=st;⟨a,hk S (by simp) _ b,slot,hk I (by simp) _ c,d⟩
 item:=λi s Q E hi st hQ=>by
  obtain⟨a,b,slot,c,d⟩:=st;refine W8 hh c b tb cap hpl i_ a d (λe h' dM e1 e2 e3 e4=>?_) (λh' e1 _=>?_)
  ·exact hQ e.2 h' s.toks ⟨e,e1,rfl⟩ ⟨hi,e4.extBut S _ hne b,dM,e2,e3⟩ λb o hb e=>e4.extBut b o (λh=>hb (by simp[h])) e
  ·have:=pA.mp e1;rw[P0] at this
   lia
 done:=λs Q E st hQ=>by
  obtain⟨a,b,slot,c,d⟩:=st;refine W8 hh c b tb cap hpl i_ a d (λe h' dM e1 _ _ _=>?_) (λh' _ e2=>?_)
  ·have:=(jo.mp e1).1;rw[P0] at this
   lia
  ·exact hQ h' s.toks λb o hb e=>e2 b o (λh=>hb (by simp[h])) e
 self:=λ_ s _ _ st hQ=>by
  obtain⟨a,b,slot,c,d⟩:=st;refine wpAny_pyIter_slot (Hl c) W4 (qR W4 (Hl c) zcG ?_ (zdx _));show wpAny _ _ (ret (.ref _)) _ _ s;exact aJ ⟨_,rfl,"set_iterator",_,Hl c,cY.lookup,hQ⟩
theorem zhk{ep:Nat}{t:SetTable}{Q:Bool->Shared->Prop}(ho:s.heap.get? S=some (oY items ts L ep t))(h:Q false s):wpAny (model prog w) A (Builtin.List.listLengthHint (.ref S)) Q E s:=by
 unfold Builtin.List.listLengthHint;refine au (wpAny_specialOf ⟨_,ho,rfl⟩ F.slot_set_len.lookup ?_);generalize hid:("set.__len__" : String)=id0
 wp_delta
 rw[show splitId id0=some ("set","__len__") from by subst hid;decide +kernel];subst hid;refine au (wpAny_isInstance (T:="set") (b:=true) ⟨_,ho,rfl⟩ (by rw[isSubtype_type];kernel_rfl) ?_);refine wpAny_ite_split (λhab=>absurd hab (by decide)) (λ_=>?_);refine wpAny_ite_split (λ_=>?_) (λhab=>absurd (by decide +kernel) hab);refine au (xg (T:="set") ⟨_,ho,rfl⟩ ?_);exact aJ h
theorem zfg{ep:Nat}{acc:Array Value}(h:ItemsOf (λi v=>∃e,(bR w S ep (aH items ts L))[i]?=some e/\e.2=v) acc L.length):acc=((bR w S ep (aH items ts L)).map (·.2)).toArray:=by
 obtain⟨h1,h2⟩:=h;apply Array.toList_inj.mp;apply List.ext_getElem?;intro i;cases e:acc[i]? with
 |none=>
  have:=Array.getElem?_eq_none_iff.mp e;rw[HD,e]
  symm
  rw[pA,bJ,P0]
  lia
 |some v=>
  obtain⟨x,e1,e2⟩:=h2 i v e;rw[HD,e];show some v=((bR w S ep (aH items ts L)).map (·.2))[i]?;rw[je,e1,<-e2];rfl
theorem zd6{ep:Nat}{t:SetTable}{Q:List Value->Shared->Prop}(hh:A.handled=none)(ho:s.heap.get? S=some (oY items ts L ep t))(tb:Tab (bI ts) t L)(cap:uw t.mask L.length)(hpl:t.plain=true)(i_:t.led=bV w)
  (h:∀h' tk,(∀b o,s.heap.get? b=some o->h'.get? b=some o)->Q ((bR w S ep (aH items ts L)).map (·.2)) {s with heap:=h',toks:=tk}):wpAny (model prog w) A (collect (.ref S)) Q E s:=by
 have hlt:S<s.heap.objs.size:=bM ho;have h100:(100:Nat)<=sizeLine:=by decide
 have hn:L.length<=sizeLine:=by rcases cap with c|c|c<;>lia
 unfold collect;refine au (wpAny_runValue (Bm entry_proto_collect' ?_));show wpAny _ _ (do again (.builtin "list.__iadd__" ⟨[<-newList [],.ref S],[]⟩)) _ _ s;refine au (wpAny_newList (aJ ⟨HX _ (by decide +kernel),Bm entry_list_iadd' ?_⟩));show wpAny _ _ (Builtin.List.listExtendWith (.ref s.heap.objs.size) (.ref S) (.ref s.heap.objs.size)) _ _ {s with heap:=s.heap.push (seqObj "list" #[] 0)};have ho':(s.heap.push (seqObj "list" #[] 0)).get? S=some (oY items ts L ep t):=bZ _ ho;unfold Builtin.List.listExtendWith;refine au (xg (T:="set") ⟨_,ho',rfl⟩ ?_);have h1:Builtin.List.listSameRef (.ref s.heap.objs.size) (.ref S)=false:=by simp[Builtin.List.listSameRef,uG hlt]
 have h2:(Value.type "set"==Value.type "list")=false:=by decide
 have h3:(Value.type "set"==Value.type "tuple")=false:=by decide
 simp only[h1,h2,h3,Bool.or_false,jq,jg];refine au (zfb ho' tb cap hpl ?_);refine au (kE (zhk (bZ _ ho') ?_));refine wpAny_ite_split (λ_=>?_) (λhab=>absurd (by decide +kernel) hab);refine au (Bs ?_);refine au ?_;have hS₁:((s.heap.push (seqObj "list" #[] 0)).push (yx S 0 0 L.length ep)).get? s.heap.objs.size=some (seqObj "list" #[] 0):=bZ _ (gW _ rfl);show wpAny _ _ (updateSeq s.heap.objs.size (·.push .none) >>= λ_=>updateSeq s.heap.objs.size (·.pop)) _ _ _;refine au (wpAny_updateSeq hS₁ rfl ?_);have hS₂:=rG (Obj.mapSeq (·.push Value.none)) hS₁ rfl;refine wpAny_updateSeq (hz:=by seq_fits) hS₂ rfl ?_;have hS₃:=rG (Obj.mapSeq (·.pop)) hS₂ rfl;have hI:(s.heap.push (seqObj "list" #[] 0)).objs.size=s.heap.objs.size+1:=by rw[size_push']
 refine aJ ⟨plainId_quiet F.plain_extend_loop _,?_⟩;have oth:∀b o,b≠s.heap.objs.size->(s.heap.push (seqObj "list" #[] 0)).get? b=some o->((((s.heap.push (seqObj "list" #[] 0)).push (yx S 0 0 L.length ep)).update s.heap.objs.size (Obj.mapSeq (·.push Value.none))).update s.heap.objs.size (Obj.mapSeq (·.pop))).get? b=some o:=λb o hb e=>
  (uD _ _ (Ne.symm hb)).trans ((uD _ _ (Ne.symm hb)).trans (bZ _ e))
 have hne:S≠(s.heap.push (seqObj "list" #[] 0)).objs.size:=by rw[hI];exact dh (qj hlt)
 have hni:s.heap.objs.size≠(s.heap.push (seqObj "list" #[] 0)).objs.size:=by rw[hI];lia
 refine codeAny_extend_loopS ((zgS (items:=items) (ep:=ep) (by simp[hh]) (s.heap.push (seqObj "list" #[] 0)).objs.size hne tb cap hpl i_).toS) hn s.heap.objs.size (by simp only[cM,mK,lJ,not_or];exact⟨hni,uG hlt⟩) _ L.length 0 _ #[] _ rfl (n_ _)
  ⟨n_ _,oth S _ (dh hlt) ho',0,(uD _ _ hni).trans ((uD _ _ hni).trans (gW _ rfl)),λ_=>rfl⟩ hS₃ (ItemsOf.nil _) λs' acc' c' hm hS' hacc=>?_
 have ea:=zfg hacc;rw[Moved.eq_with hm];show wpAny _ _ _ _ _ _;dsimp only;refine au (wpAny_load hS' ?_);dsimp only;refine aJ ?_;rw[ea];refine h s'.heap s'.toks λb o e=>?_;have hb:b<s.heap.objs.size:=bM e;refine hm.heap b o ?_ (oth b o (dh hb) (bZ _ e));simp only[cM,mK,lJ,not_or];exact⟨dh hb,by rw[hI];exact dh (qj hb)⟩
theorem zfK{u:Value}{vs:List Value}{κ:SortKind}{lt:Nat->Nat->Option Bool}{p:Array Nat}{Q:Value->Shared->Prop}(P_:∀(Q':List Value->Shared->Prop) (E':Value->Shared->Prop),(∀h' tk,(∀b o,s.heap.get? b=some o->h'.get? b=some o)->Q' vs {s with heap:=h',toks:=tk})->wpAny (model prog w) A.in1 (collect u) Q' E' s)(h64:vs.length<64)
  (hk:2<=vs.length->∀(s':Shared) (Q:SortKind->Shared->Prop) E,(∀b o,s.heap.get? b=some o->s'.heap.get? b=some o)->Q κ s'->wpAny (model prog w) A.in1.in1 (keyKind' vs.toArray) Q E s')
  (hlt:2<=vs.length->∀(s':Shared) i j b C,(∀b o,s.heap.get? b=some o->s'.heap.get? b=some o)->lt i j=some b->C b s'->kas_ask prog w A.in1.in1 κ vs i j C s') (hr:2<=vs.length->bD lt (kas_sort vs.length)=some p) (hps:2<=vs.length->p.size=vs.length)
  (h:∀h' tk r e,(∀b o,s.heap.get? b=some o->h'.get? b=some o)->(∀b o,s.heap.get? b=some o->b<r)->h'.get? r=some (seqObj "list" (gq vs p) e)->Q (.ref r) {s with heap:=h',toks:=tk}) :
  wpAny (model prog w) A (call (.builtin "sorted") [u]) Q E s:=by
 refine Calls.call_function_entry kind_sorted plain_sorted entry_sorted (args_sorted1 _) ?_;unfold Builtin.«sorted»;refine au (m:=checkCount "sorted" 1 1 _) (aJ ?_);refine au (P_ _ _ λh1 tk lH=>?_);refine au (wpAny_newList ?_ (by rw[pD];lia));have hoL:(h1.push (seqObj "list" vs.toArray 0)).get? h1.objs.size=some (seqObj "list" vs.toArray 0):=gW _ rfl;have keep:∀b o,s.heap.get? b=some o->(h1.push (seqObj "list" vs.toArray 0)).get? b=some o:=λb o q=>bZ _ (lH b o q);have nn:∀b o,s.heap.get? b=some o->b≠h1.objs.size:=λb o e=>dh (bM (lH b o e));refine au (kE (qR slot_list_sort ⟨_,hoL,rfl⟩ entry_list_sort (T8 (κ:=κ) (lt:=lt) (p:=p) hoL h64 (λh2 s' Q' k q=>hk h2 s' Q' _ (λb o e=>k b o (nn b o e) (keep b o e)) q) (λh2 s' i j b C k e q=>hlt h2 s' i j b C (λb o e=>k b o (nn b o e) (keep b o e)) e q) hr hps ⟨_,rfl,?_⟩) (args_list_sort _)));obtain⟨e,he⟩:=sortedHeap_at (out:=gq vs p) hoL;refine aJ ⟨_,rfl,h _ tk _ e (λb o q=>?_) (λb o q=>bM (lH b o q)) he⟩;have hb:=lH b o q;rw[sortedHeap_old (nn b o q) (by rw[size_push'];exact qj (bM hb))];exact keep b o q
end
end Ts
namespace Mi
open PySem PySem.Spec PyProof.Rows L2 PySem.W Ts
theorem zge{α β:Type}{f:α->β}{l m:List β}(h:l.Perm m):∀{L:List α},m=L.map f->∃L':List α,L'.Perm L/\l=L'.map f:=by
 induction h with
 |nil=>intro L e;exact⟨L,.refl _,e⟩
 |cons x _ ih=>
  intro L e;cases L with
  |nil=>cases e
  |cons a L=>
   injection e with e1 e2;obtain⟨L',p,q⟩:=ih e2;exact⟨a::L',p.cons a,by rw[q,e1];rfl⟩
 |swap x y l=>
  intro L e
  match L,e with
  |a::b::L,e=>
   injection e with e1 e2;injection e2 with e2 e3;exact⟨b::a::L,.swap ..,by rw[e1,e2,e3];rfl⟩
 |trans _ _ ih1 ih2=>
  intro L e;obtain⟨L2,p2,q2⟩:=ih2 e;obtain⟨L1,p1,q1⟩:=ih1 q2;exact⟨L1,p1.trans p2,q1⟩
noncomputable def iI(a b:Int×Int):Bool:=decide (a.1<b.1\/a.1=b.1/\a.2<b.2)
noncomputable def yC(us:List (Int×Int))(i j:Nat):Option Bool:=match us[i]?,us[j]? with
 |some a,some b=>some (iI a b)
 |_,_=>none
def JV(us:List (Int×Int))(i j:Nat):Prop:=iI (us.getD j (0,1)) (us.getD i (0,1))=false
theorem j9{a b:Int×Int}:iI a b=true↔(a.1<b.1\/a.1=b.1/\a.2<b.2):=decide_eq_true_iff
theorem Qa{a b:Int×Int}:iI a b=false↔¬(a.1<b.1\/a.1=b.1/\a.2<b.2):=Hz
theorem Qc(us:List (Int×Int)):Ord us.length (yC us) (JV us):=by
 refine⟨λi j hi hj=>?_,λi j k _ _ _ h1 h2=>?_⟩
 ·unfold yC JV;rw[fD hi,fD hj,kj,kj,fD hi,fD hj];show (some (iI us[i] us[j])=some true/\iI us[j] us[i]=false)\/(some (iI us[i] us[j])=some false/\iI us[i] us[j]=false);cases e:iI us[i] us[j]
  ·exact .inr ⟨rfl,rfl⟩
  ·refine .inl ⟨rfl,?_⟩;rw[j9] at e;rw[Qa]
   lia
 ·unfold JV at *;rw[Qa] at *
  lia
theorem Ho:iz.Pairwise λa b=>iI a b=true:=by decide +kernel
theorem JZ:∀{l m:List (Int×Int)},(l.Pairwise λa b=>iI a b=true)->(m.Pairwise λa b=>iI a b=true)->(∀x,x∈l↔x∈m)->l=m
 |[],[],_,_,_=>rfl
 |[],b::m,_,_,h=>by have:=(h b).mpr eZ;cases this
 |a::l,[],_,_,h=>by have:=(h a).mp eZ;cases this
 |a::l,b::m,p,q,h=>by
  obtain⟨p1,p2⟩:=yJ.mp p;obtain⟨q1,q2⟩:=yJ.mp q;have W9:∀x,iI x x=true->False:=λx hx=>by rw[j9] at hx;lia
  have e:a=b:=by
   rcases cM.mp ((h a).mp eZ) with z|z
   ·exact z
   ·rcases cM.mp ((h b).mpr eZ) with y|y
    ·exact y.symm
    ·have h1:=p1 b y;have h2:=q1 a z;rw[j9] at h1 h2
     lia
  subst e;rw[JZ p2 q2 λx=>⟨λhx=>?_,λhx=>?_⟩]
  ·rcases cM.mp ((h x).mp (eN _ hx)) with z|z
   ·subst z;exact(W9 _ (p1 _ hx)).elim
   ·exact z
  ·rcases cM.mp ((h x).mpr (eN _ hx)) with z|z
   ·subst z;exact(W9 _ (q1 _ hx)).elim
   ·exact z
theorem W_{ts:List (Int×Int)}(ht:∀t∈ts,gP t){x:Int×Int}:x∈ss ts↔x∈ts:=by
 unfold ss;rw[wX];exact⟨λh=>by simpa using h.2,λh=>⟨G7 (ht x h),by simpa using h⟩⟩
theorem J1{ts:List (Int×Int)}:(ss ts).Pairwise λa b=>iI a b=true:=Ho.filter _
theorem zdt{us:List (Int×Int)}(hn:2<=us.length)(hd:us.Nodup):∃p,bD (yC us) (kas_sort us.length)=some p/\p.size=us.length/\(∀i∈p.toList,i<us.length)/\(∀x,x∈p.toList.map (λi=>us.getD i (0,1))↔x∈us)/\(p.toList.map λi=>us.getD i (0,1)).Pairwise λa b=>iI a b=true:=by
 obtain⟨p,e,hp,ha⟩:=zk5 (Qc us) (by lia);have hs:p.size=us.length:=hp.size;have hm:(p.toList.map λi=>us.getD i (0,1)).Perm us:=by
  have h1:(p.toList.map λi=>us.getD i (0,1)).Perm ((List.range us.length).map λi=>us.getD i (0,1)):=(Array.Perm.toList hp).map _;have h2:((List.range us.length).map λi=>us.getD i (0,1))=us:=by
   apply List.ext_getElem
   ·simp
   ·intro i a b;simp[kj,b]
  rw[h2] at h1;exact h1
 refine⟨p,e,hs,λi hi=>?_,λx=>hm.mem_iff,?_⟩
 ·have:=(Array.Perm.toList hp).mem_iff.mp hi;simpa using this
 ·have nd:(p.toList.map λi=>us.getD i (0,1)).Nodup:=hm.nodup_iff.mpr hd;rw[qP];intro i j hi hj hij;have hne:=qP.mp nd i j hi hj hij;have hi':i<p.size:=by simpa using hi
  have hj':j<p.size:=by simpa using hj
  have hl:=ha i j hij (by lia);unfold JV at hl;have e1:p.getD i 0=p[i]:=by simp[Array.getD,hi']
  have e2:p.getD j 0=p[j]:=by simp[Array.getD,hj']
  rw[e1,e2] at hl;simp only[List.getElem_map,Array.getElem_toList] at hne ⊢;generalize us.getD p[i] (0,1)=x at *;generalize us.getD p[j] (0,1)=y at *;rw[Qa] at hl;rw[j9];obtain⟨x1,x2⟩:=x;obtain⟨y1,y2⟩:=y;simp only[Prod.mk.injEq,ne_eq,not_and] at *
  lia
section
variable {prog:Program}{w:World}{A:Around}{E:Value->Shared->Prop}{s:Shared}{S:Addr}{items:List Value}{ts:List (Int×Int)}{L:Ent}
theorem Xa{h:Heap}(T:fX prog w h S items ts):∀{js:List Nat},(∀j∈js,j<ts.length)->∃fs:List Value,fs.length=(js.map (items.getD · Value.none)).length/\(∀f∈fs,∃i t,f=Value.int i t)/\KatTups h (js.map (items.getD · Value.none)) fs
 |[],_=>⟨[],rfl,(λf hf=>by cases hf),trivial⟩
 |j::js,hj=>by
  obtain⟨fs,l,hf,kt⟩:=Xa T (js:=js) λj' h'=>hj j' (eN _ h');obtain⟨a,e,_,o,its,n,ho,hc,hd,hi⟩:=T.at' j (hj j eZ);obtain⟨its⟩:=its;cases hi with
  |cons hv hr=>
   obtain⟨t,rfl⟩:=Bg hv;refine⟨Value.int (aP ts j).1 t::fs,by simp[l],λf hf'=>?_,?_⟩
   ·rcases cM.mp hf' with rfl|z
    ·exact⟨_,t,rfl⟩
    ·exact hf f z
   ·rw[jA,e];exact KatTups.cons ho hc hd (by simp) kt
theorem Qd{a b:Int×Int}:jw [.int a.1,.int a.2] [.int b.1,.int b.2]=some (iI a b):=by
 unfold iI;simp only[jw];by_cases h1:a.1=b.1
 ·rw[if_pos h1];by_cases h2:a.2=b.2
  ·rw[if_pos h2]
   congr 1
   simp only[ql,mL,decide_false]
   symm
   rw[Hz]
   lia
  ·rw[if_neg h2]
   congr 1
   rw[rK]
   lia
 ·rw[if_neg h1]
  congr 1
  rw[rK]
  lia
theorem Xb{x y:Int}{its:List Value}(hi:ItemsAre (intKind prog w) [x,y] its):Vals [.int x,.int y] its:=by
 cases hi with
 |cons hv hr=>
  cases hr with
  |cons hv2 hr2=>
   cases hr2;obtain⟨t,rfl⟩:=Bg hv;obtain⟨t',rfl⟩:=Bg hv2;exact .cons ⟨t,rfl⟩ (.cons ⟨t',rfl⟩ .nil)
theorem zhe{l:Addr}{Q:Value->Shared->Prop}(hh:A.handled=none)(hu:A.units+8<cLine)(hl:s.heap.IsTuple l items.toArray)(hT:fX prog w s.heap s.heap.objs.size items ts)
  (h:∀h' tk r e (js:List Nat),(∀b o,s.heap.get? b=some o->h'.get? b=some o)->s.heap.objs.size<=r->js.map (aP ts)=ss ts->(∀j∈js,j<ts.length)->h'.get? r=some (seqObj "list" (js.map (items.getD · Value.none)).toArray e)->Q (.ref r) {s with heap:=h',toks:=tk}) :
  wpAny (model prog w) A (PySem.call (.type "set") [.ref l]) (λv s'=>wpAny (model prog w) A (PySem.call (.builtin "sorted") [v]) Q E s') E s:=by
 refine zcM hh hu hl hT λh1 tk1 L hS T1 hD lH=>?_;obtain⟨⟨ep,t,ho,tb,cap,hpl,i_⟩,idx⟩:=hS;have k1:∀b o,s.heap.get? b=some o->h1.get? b=some o:=λb o e=>lH b o (bM e) e;obtain⟨L',pL,eL⟩:=zge (f:=λe:Nat×Nat=>(bI ts e.2,items.getD e.2 Value.none)) (lG (w:=w) (S:=s.heap.objs.size) (ep:=ep) (es:=aH items ts L)) (L:=L) rfl;have ev:(bR w s.heap.objs.size ep (aH items ts L)).map (·.2)=(L'.map (·.2)).map (items.getD · Value.none):=by
  rw[eL,jB,jB];rfl
 have hjs:∀j∈L'.map (·.2),j<ts.length:=λj hj=>by
  obtain⟨e,he,rfl⟩:=fj.mp hj;exact idx e (pL.mem_iff.mp he)
 have nd:((L'.map (·.2)).map (aP ts)).Nodup:=by
  rw[jB];have:L'.Nodup:=pL.nodup_iff.mpr (by
   have:=tb.asc;unfold Ts.fV at this;rw[rJ] at this;exact this.imp λ{a b} z=>λe=>by subst e;lia)
  unfold List.Nodup;rw[rJ];refine(List.Pairwise.and_mem.mp this).imp λ{a b} z e=>z.2.2 (tb.inj a (pL.mem_iff.mp z.1) b (pL.mem_iff.mp z.2.1) ?_);show hf (aP ts a.2)=hf (aP ts b.2);rw[show aP ts a.2=aP ts b.2 from e]
 have aad:L.length<=28:=by rcases cap with c|c|c<;>lia
 have hlen:((L'.map (·.2)).map (items.getD · Value.none)).length=L.length:=by rw[bJ,bJ];exact pL.length_eq
 have hlen2:((L'.map (·.2)).map (aP ts)).length=L.length:=by rw[bJ,bJ];exact pL.length_eq
 have t8:∀x∈ts,gP x:=λx hx=>by
  obtain⟨i,hi,rfl⟩:=Bc hx;have:=T1.tie i hi;unfold aP at this;rw[kj,fD hi] at this;exact this
 have Qe:∀i,i<ts.length->aP ts i∈ts:=λi hi=>by
  unfold aP;rw[kj,fD hi];exact nY hi
 have hm:∀x,x∈(L'.map (·.2)).map (aP ts)↔x∈ss ts:=λx=>by
  rw[W_ t8];refine⟨λhx=>?_,λhx=>?_⟩
  ·obtain⟨j,hj,rfl⟩:=fj.mp hx;exact Qe j (hjs j hj)
  ·obtain⟨i,hi,rfl⟩:=Bc hx;obtain⟨e,he,e2⟩:=hD.2 i hi;refine fj.mpr ⟨e.2,fj.mpr ⟨e,pL.mem_iff.mpr he,rfl⟩,?_⟩;rw[e2];unfold aP;rw[kj,fD hi];rfl
 have fin:∀(p:Array Nat),(2<=L.length->p.size=L.length/\(∀i∈p.toList,i<L.length)/\(∀x,x∈p.toList.map (λi=>((L'.map (·.2)).map (aP ts)).getD i (0,1))↔x∈(L'.map (·.2)).map (aP ts))/\(p.toList.map λi=>((L'.map (·.2)).map (aP ts)).getD i (0,1)).Pairwise λa b=>iI a b=true)->∃js:List Nat,js.map (aP ts)=ss ts/\(∀j∈js,j<ts.length)/\gq ((L'.map (·.2)).map (items.getD · Value.none)) p=(js.map (items.getD · Value.none)).toArray:=λp hp=>by
  unfold gq;by_cases h2:L.length<2
  ·rw[hlen,if_pos h2];refine⟨L'.map (·.2),JZ ?_ J1 hm,hjs,rfl⟩;rw[<-hlen2] at h2;generalize (L'.map (·.2)).map (aP ts)=us at h2
   match us,h2 with
   |[],_=>exact .nil
   |[x],_=>exact List.pairwise_singleton ..
  ·rw[hlen,if_neg h2];obtain⟨p1,p2,p3,p4⟩:=hp (by lia);have hat:∀i∈p.toList,(L'.map (·.2)).getD i 0∈L'.map (·.2)/\((L'.map (·.2)).map (items.getD · Value.none)).getD i Value.none=items.getD ((L'.map (·.2)).getD i 0) Value.none/\((L'.map (·.2)).map (aP ts)).getD i (0,1)=aP ts ((L'.map (·.2)).getD i 0):=λi hi=>by
    have hi':i<(L'.map (·.2)).length:=by rw[bJ,pL.length_eq];exact p2 i hi
    generalize L'.map (·.2)=ks at hi';simp only[kj,je,fD hi',Option.map_some,Option.getD_some];exact⟨nY hi',trivial,trivial⟩
   refine⟨p.toList.map λi=>(L'.map (·.2)).getD i 0,?_,λj hj=>?_,?_⟩
   ·rw[jB];have:p.toList.map (aP ts∘λi=>(L'.map (·.2)).getD i 0)=p.toList.map λi=>((L'.map (·.2)).map (aP ts)).getD i (0,1):=Bd λi hi=>((hat i hi).2.2).symm;rw[this];exact JZ p4 J1 λx=>(p3 x).trans (hm x)
   ·obtain⟨i,hi,rfl⟩:=fj.mp hj;exact hjs _ (hat i hi).1
   ·exact qp List.toArray ((Bd λi hi=>(hat i hi).2.1).trans (by rw[jB];rfl))
 obtain⟨p,hr,hp⟩ : ∃p,(2<=L.length->bD (yC ((L'.map (·.2)).map (aP ts))) (kas_sort L.length)=some p)/\(2<=L.length->p.size=L.length/\(∀i∈p.toList,i<L.length)/\(∀x,x∈p.toList.map (λi=>((L'.map (·.2)).map (aP ts)).getD i (0,1))↔x∈(L'.map (·.2)).map (aP ts))/\(p.toList.map λi=>((L'.map (·.2)).map (aP ts)).getD i (0,1)).Pairwise λa b=>iI a b=true):=by
  by_cases h2:2<=L.length
  ·obtain⟨p,a,b,c,d,e⟩:=zdt (by rw[hlen2];exact h2) nd;rw[hlen2] at a b c;exact⟨p,λ_=>a,λ_=>⟨b,c,d,e⟩⟩
  ·exact⟨#[],λz=>absurd z h2,λz=>absurd z h2⟩
 obtain⟨js,j1,j2,j3⟩:=fin p hp;refine zfK (vs:=(L'.map (·.2)).map (items.getD · Value.none)) (κ:=tuples' true) (lt:=yC ((L'.map (·.2)).map (aP ts))) (p:=p) (λQ' E' q=>?_) (by lia) (λh2 s' Q' E' k q=>?_) (λh2 s' i j b C k e hC=>?_) (λh2=>by rw[hlen] at h2 ⊢;exact hr h2) (λh2=>by rw[hlen] at h2 ⊢;exact(hp h2).1) (λh' tk r e k hn hg=>?_)
 ·refine zd6 (by simp[hh]) ho tb cap hpl i_ λh' tk k=>?_;rw[ev];exact q h' tk k
 ·obtain⟨fs,l1,hf,kt⟩:=Xa (T1.keep λi a o hi e g=>k a o g) hjs;exact T_ h2 l1 hf kt q
 ·unfold yC at e;split at e
  ·rename_i a c e1 e2;cases e;rw[je,mQ] at e1 e2;obtain⟨j1,g1,rfl⟩:=e1;obtain⟨j2,g2,rfl⟩:=e2;obtain⟨a1,b1,_,o1,i1,n1,ho1,_,hd1,hi1⟩:=T1.at' j1 (hjs j1 (gU g1));obtain⟨a2,b2,_,o2,i2,n2,ho2,_,hd2,hi2⟩:=T1.at' j2 (hjs j2 (gU g2));obtain⟨i1⟩:=i1;obtain⟨i2⟩:=i2;show wpAny _ _ (keyLt' (tuples' true) (((L'.map (·.2)).map (items.getD · Value.none)).getD i Value.none) (((L'.map (·.2)).map (items.getD · Value.none)).getD j Value.none)) C _ s';have f1:((L'.map (·.2)).map (items.getD · Value.none))[i]?=some (.ref a1):=by rw[je,g1,<-b1];rfl
   have f2:((L'.map (·.2)).map (items.getD · Value.none))[j]?=some (.ref a2):=by rw[je,g2,<-b2];rfl
   rw[zE f1,zE f2];have r1:=Xb hi1;have r2:=Xb hi2;refine kat_lt (k _ _ ho1) hd1 (k _ _ ho2) hd2 (T9 r1 r2 Qd ?_ hC);have q1:=r1.length;have q2:=r2.length;simp at q1 q2;simp[<-q1,<-q2]
  ·cases e
 ·refine h h' tk r e js (λb o g=>k b o (k1 b o g)) ?_ j1 j2 (by rw[<-j3];exact hg);exact wZ (hn _ _ ho)
end
def TV(K:PySem.W.Frag)(H:Hp)(ys:List V)(ts:List (Int×Int)):Prop:=ts.length=ys.length/\∀i,i<ts.length->gP (aP ts i)/\∃a,ys[i]?=some (.ref a)/\fL K H a [.int (aP ts i).1,.int (aP ts i).2]
def Xc(K:PySem.W.Frag)(vs:List V)(H:Hp)(Q:VK):Prop:=∃l ys ts,vs=[.ref l]/\fL K H l ys/\TV K H ys ts/\∀js:List Nat,js.map (aP ts)=ss ts->(∀j∈js,j<ts.length)->∀r,H r=none->Q (.ref r) (upd H r (.lst (js.map (ys.getD · .non))))
theorem zhr:bootBuiltins "set"=some (.type "set"):=by decide +kernel
section
variable {X:Cx}
theorem zfq{w:World}{prog:Program}{x y:Int}{its:List Value}(r:Vals [.int x,.int y] its):ItemsAre (intKind prog w) [x,y] its:=by
 cases r with
 |cons a r=>
  cases r with
  |cons b r=>
   cases r;obtain⟨t,rfl⟩:=a;obtain⟨t',rfl⟩:=b;exact .cons (by show Value.isInt x (Value.int x t)=true;simp[Value.isInt]) (.cons (by show Value.isInt y (Value.int y t')=true;simp[Value.isInt]) .nil)
theorem zno{k:Nat}{e:Expr}{t:TA}{p p' pos pos':Pos}(hr:b_ k X.A)(hc:X.aj=true)(hg:Gl X "sorted")(hm:X.mg "sorted"=none)(hg':Gl X "set")(hm':X.mg "set"=none)(ha:PA X [e] t)
  (he:starEach [e] X.env=(false,eval e X.env)::starEach [] X.env:=by rfl) (hpl:(backTo pos' (starEach [] X.env)).any (·.1)=false:=by rfl) :
  PE X (.Call (.Name "sorted" p) [.Call (.Name "set" p') [e] [] pos'] [] pos) (Mq (Xc X.K) t):=by
 intro ak s σ H Q I h;refine C_ (xJ I hg hm VP ?_);refine PyProof.Rows.callWith_builtin1 ?_ rfl rfl;show wpAny _ _ (spliced ((false,eval (.Call (.Name "set" p') [e] [] pos') X.env)::backTo pos (starEach [] X.env))) _ _ s;refine Calls.spliced_cons ?_;refine C_ (xJ I hg' hm' zhr ?_);refine CJ (aV (ha pos' ak s σ H _ I h) λus s1 ⟨vs,H1,I1,r1,q1⟩=>?_) he hpl;obtain⟨l,ys,ts,rfl,hq,⟨hl,ht⟩,q⟩:=q1;obtain⟨u,rfl,ru⟩:=vals1 r1;cases ru;obtain⟨its,rv,pl,hz⟩:=I1.tuple hq;have hu:=hr.un;have hT:fX X.prog X.w s1.heap s1.heap.objs.size its ts:=⟨by rw[hl,rv.length],λi hi=>(ht i hi).1,λi hi=>by
  obtain⟨a,e1,e2⟩:=(ht i hi).2;obtain⟨u,e3,e4⟩:=rv.get e1;cases (show u=Value.ref a from e4);obtain⟨its',rv',⟨o,ho,hcl,n,hd⟩,_⟩:=I1.tuple e2;refine⟨a,zE e3,dh (bM ho),o,its'.toArray,n,ho,hcl,hd,?_⟩;simpa using zfq rv'⟩
 refine aV (zhe (E:=X.xe) (I1.ok.hd hc) (by lia) pl hT λh' tk r e js k hr' j1 j2 hg=>?_) λv s' hw=>Calls.spliced_nil hw;have hn:H1 r=none:=I1.hok.fresh hr';have hv:Vals (js.map (ys.getD · .non)) (js.map (its.getD · Value.none)):=Ng rv js;refine⟨.ref r,_,I1.laid (a:=r) (o:=.lst (js.map (ys.getD · .non))) (h':=h') (t':=tk) k hr' (show aQ X.prog X.w _ h' _ (.lst _) from ⟨?_,_,e,hv,hg⟩),rfl,q js j1 j2 r hn⟩;have:(js.map (aP ts)).length<=28:=by rw[j1];exact n8 (List.length_filter_le ..) (by decide)
 rw[bJ] at this ⊢;exact n8 this (by decide)
end
section
variable {K:PySem.W.Frag}{cA:Cl}{φ:Ph}{H:Hp}
theorem zjq{d:D}{v:V}{p:Int×Int}(h:vY d=some p)(r:Rep K cA φ H d v):d=.tup [.int p.1,.int p.2]/\gP p/\∃a,v=.ref a/\fL K H a [.int p.1,.int p.2]:=by
 unfold vY at h;split at h
 ·rename_i a b;by_cases hk:0<=a/\a<b/\b<8
  ·rw[if_pos hk] at h;cases h;refine⟨rfl,hk,?_⟩;cases r with
   |tup t r=>
    cases r with
    |cons r1 r=>
     cases r with
     |cons r2 r=>
      cases r;cases r1;cases r2;exact⟨_,rfl,t.jx⟩
  ·rw[if_neg hk] at h;cases h
 ·cases h
theorem Xd:∀{xs:List D} {ys:List V} {ts:List (Int×Int)},jV xs=some ts->aC K cA φ H xs ys->xs=ts.map (λp=>.tup [.int p.1,.int p.2])/\TV K H ys ts
 |[],_,_,h,r=>by cases h;cases r;exact⟨rfl,rfl,λi hi=>by cases hi⟩
 |x::xs,_,ts,h,r=>by
  unfold jV at h;split at h
  ·rename_i a b e1 e2;cases h;cases r with
   |cons r1 r2=>
    obtain⟨e3,l,q⟩:=Xd e2 r2;obtain⟨e4,t8,a1,rfl,s1⟩:=zjq e1 r1;refine⟨by rw[e3,e4];rfl,by simp[l],λi hi=>?_⟩;cases i with
    |zero=>exact⟨t8,a1,rfl,s1⟩
    |succ i=>exact q i (by simpa using hi)
  ·cases h
theorem zm4:aR K cA .dY (Xc K):=by
 intro φ H ds vs Q zt rs o;have o:aZ K cA φ H (Nu ds) Q:=o;unfold Nu at o;split at o
 ·rename_i xs _;obtain⟨v,rfl,r1⟩:=rs.one;obtain⟨z,e⟩:=o.some';obtain⟨ts,e1,e2⟩:=mQ.mp e;subst e2;have r1:Rep K cA φ H (.tup xs) v:=r1;cases r1 with
  |tup t q=>
   obtain⟨e3,tv⟩:=Xd e1 q;refine⟨_,_,ts,rfl,t.jx,tv,λjs j1 j2 r hr=>(o.of e) r _ hr ?_⟩;rw[<-j1,jB];have:js.map ((λp:Int×Int=>D.tup [.int p.1,.int p.2])∘aP ts)=js.map λj=>xs.getD j .non:=Bd λj hj=>by
    have:=j2 j hj;rw[e3];simp[aP,kj,this]
   rw[this];exact q.Ad js
 ·exact o.elim
end
section
variable {X:Cx}{cA:Cl}{sub:Nat->Nat->Bool}{aj:Bool}{F:Fn}{EX:XS}{e:Expr}{pos pos' p p':Pos}{Xs:Es}{fz:Bool}
theorem zm5{k:Nat}(hr:b_ k X.A)(hc:X.aj=true)(hg:Gl X "sorted")(hm:X.mg "sorted"=none)(hg':Gl X "set")(hm':X.mg "set"=none)(ha:SA X cA sub aj F EX [e] Xs)
  (he:starEach [e] X.env=(false,eval e X.env)::starEach [] X.env) (hpl:(backTo pos' (starEach [] X.env)).any (·.1)=false):SE X cA sub aj F EX (.Call (.Name "sorted" p) [.Call (.Name "set" p') [e] [] pos'] [] pos) (.pr fz .dY Xs):=PE.weak (zno hr hc hg hm hg' hm' ha he hpl) λσ H Q hh=>un hh λφ τ s hL hS h=>
 qG hL hS h λvs H1 φ1 ds s1 x1 hL1 hS1 r1 h1=>by
  obtain⟨ds,rs,h3⟩:=m8 hS1 r1 h1;exact zm4 φ1 H1 ds _ _ hS1.zs rs (mj hS1 h3)
theorem zoq{k:Nat}(hr:b_ k X.A)(hc:X.aj=true)(hm:X.mg "sorted"=none)(hg:JK X "sorted" .globalImplicit)(hm':X.mg "set"=none)(hg':JK X "set" .globalImplicit)(ha:JA X cA sub aj F EX [e] Xs)(he:aD e=true:=by rfl):JE X cA sub aj F EX (.Call (.Name "sorted" p) [.Call (.Name "set" p') [e] [] pos'] [] pos) (.pr fz .dY Xs):=⟨zm5 hr hc hg.o hm hg'.o hm' ha.o (aX he) (aU rfl)⟩
end
end Mi
namespace Mi
open PySem PySem.Spec PyProof.Rows L2 PySem.W
section
variable {X:Cx}{a b:Expr}{rest:List Expr}{pos:Pos}{ta tb:TE}
noncomputable def Qf(K:PySem.W.Frag)(ta tb:TE):TE:=λσ H Q=>ta σ H λx H1=>∃k,zj K x H1 k/\if k=true then Q x H1 else tb σ H1 Q
theorem zky(ha:PE X a ta)(hb:PE X (.BoolOp .Or (b::rest) pos) tb):PE X (.BoolOp .Or (a::b::rest) pos) (Qf X.K ta tb):=by
 intro ak s σ H Q I h;refine BoolOp_or (aV (ha ak s σ H _ I h) λv s1 ⟨x,H1,I1,r1,q1⟩=>?_);obtain⟨k,hk,q1⟩:=q1;refine aV (zl9 ak s1 σ H1 x v (λb H2=>b=k/\H2=H1) I1 r1 ⟨k,hk,rfl,rfl⟩) λb s2 ⟨H2,I2,e1,e2⟩=>?_;subst e1;subst e2;cases b with
 |false=>exact hb ak s2 σ H2 Q I2 (by simpa using q1)
 |true=>exact⟨x,H2,I2,r1,by simpa using q1⟩
end
section
variable {K:PySem.W.Frag}{cA:Cl}{φ:Ph}{H:Hp}
theorem zkP{d:D}{v:V}{k:Bool}(r:Rv K cA φ H d v)(e:zO d=some k):zj K v H k:=by
 cases d with
 |non=>
  cases (show Rep K cA φ H .non v from r);cases e;rfl
 |bl c=>
  cases (show Rep K cA φ H (.bl c) v from r);cases e;rfl
 |int i=>
  cases (show Rep K cA φ H (.int i) v from r);cases e;rfl
 |tup xs=>
  cases (show Rep K cA φ H (.tup xs) v from r) with
  |tup t q=>
   cases e;refine .inr (.inl ⟨_,t.jx,?_⟩);cases q<;>rfl
 |fl xs=>
  obtain⟨a,us,rfl,sq,q⟩ : ∃a us,v=.ref a/\dj K H a us/\aC K cA φ H xs us:=r;cases e;refine .inl ⟨_,sq,?_⟩;cases q<;>rfl
 |_=>cases e
end
section
variable {X:Cx}{cA:Cl}{sub:Nat->Nat->Bool}{aj:Bool}{F:Fn}{EX:XS}{a b:Expr}{A B:E}{pos p:Pos}{x:Str}{e:Expr}{es:List Expr}{Xs:Es}
theorem zl8{rest:List Expr}(ha:SE X cA sub aj F EX a A)(hb:SE X cA sub aj F EX (.BoolOp .Or (b::rest) pos) B):SE X cA sub aj F EX (.BoolOp .Or (a::b::rest) pos) (.zG A B):=PE.weak (zky ha hb) λσ H Q hh=>un hh λφ τ s hL hS h=>by
 refine aW hL hS h λx H1 φ1 d1 s1 x1 hL1 hS1 r1 h1=>?_;obtain⟨dd,rv,h2⟩:=Gb hS1 r1 h1;obtain⟨bb,e,h3⟩:=NK h2;refine⟨bb,zkP rv e,?_⟩;cases bb with
 |true=>exact iT (h3.bC hS1 _ r1)
 |false=>exact iF ⟨φ1,τ,s1,hL1,hS1,h3⟩
theorem zni{rest:List Expr}(ha:JE X cA sub aj F EX a A)(hb:JE X cA sub aj F EX (.BoolOp .Or (b::rest) pos) B):JE X cA sub aj F EX (.BoolOp .Or (a::b::rest) pos) (.zG A B):=⟨zl8 ha.o hb.o⟩
noncomputable def wL(sc:Scope)(x:Str):Bool:=match sc.names.lookup x with
 |some k=>zX k
 |none=>false
noncomputable def J2(sc:Scope)(x:Str):Bool:=match sc.names.lookup x with
 |some .globalImplicit=>true
 |_=>false
theorem Xe{sc:Scope}{x:Str}(h:wL sc x=true):∃k,sc.names.lookup x=some k/\zX k=true:=by
 unfold wL at h;split at h
 ·rename_i k e;exact⟨k,e,h⟩
 ·cases h
theorem Xf{sc:Scope}{x:Str}(h:J2 sc x=true):sc.names.lookup x=some .globalImplicit:=by
 unfold J2 at h;split at h
 ·assumption
 ·cases h
theorem gk(h:J2 X.env.scope x=true:=by kernel_rfl):JK X x .globalImplicit:=⟨Xf h⟩
theorem jl(h:(match X.env.scope.names.lookup x with|some .local=>true|_=>false)=true:=by kernel_rfl):JK X x .local:=by
 split at h
 ·exact⟨by assumption⟩
 ·cases h
theorem jc(h:(match X.env.scope.names.lookup x with|some .cell=>true|_=>false)=true:=by kernel_rfl):JK X x .cell:=by
 split at h
 ·exact⟨by assumption⟩
 ·cases h
theorem uY{scope:Scope}{cl:List (Str×Addr)}{N:List Str}{Cc:Addr}{s3:Shared}{H3:Hp}{fp:List Addr}{ak:List (Addr×Obj)}(h:J2 scope x=true:=by kernel_rfl):JK (X.blk scope cl N Cc s3 H3 fp ak) x .globalImplicit:=Vr (Xf h) rfl
theorem gv(i:Nat)(h:(decide (X.N[i]?=some x)&&wL X.env.scope x&&okN x)=true:=by kernel_rfl):JE X cA sub aj F EX (.Name x pos) (.v i):=by
 rw[cI,cI] at h;obtain⟨k,e,hv⟩:=Xe h.1.2;exact Vt i (gj h.1.1) ⟨e⟩ hv h.2
theorem cj(i:Nat){scope:Scope}{cl:List (Str×Addr)}{N:List Str}{Cc:Addr}{s3:Shared}{H3:Hp}{fp:List Addr}{ak:List (Addr×Obj)}(h:(decide (N[i]?=some x)&&wL scope x&&okN x)=true:=by kernel_rfl):JE (X.blk scope cl N Cc s3 H3 fp ak) cA sub aj F EX (.Name x pos) (.v i):=by
 rw[cI,cI] at h;obtain⟨k,e,hv⟩:=Xe h.1.2;by_cases hk:k=.free
 ·subst hk;exact zos i (gj h.1.1) e h.2
 ·exact Vt i (gj h.1.1) (Vr e (by cases k<;>first|rfl|exact absurd rfl hk)) hv h.2
theorem gc{f k:Nat}{cm:Bool}{st:Stmt}{ps:List Str}(Fo:fM X.prog X.w X.K X.mg X.base (lU X.prog X.w) cm k (jz X.K x) (fdOf X.K x st) ps (uN X.K cA (F f)))(D:D3 X.K X.mg x st ps)(hr:b_ k X.A)(R:JR X EX)(g:JK X x .globalImplicit)(ha:JA X cA sub aj F EX (e::es) Xs)(h:okN x=true:=by kernel_rfl)
  (hcm:cm=true->X.aj=true:=by first|exact λ_=>rfl|exact λz=>nomatch z) (he:aD e=true:=by rfl) (hpl:es.all aD=true:=by rfl):JE X cA sub aj F EX (.Call (.Name x p) (e::es) [] pos) (.call f Xs):=
 zkY f Fo hcm hr D.m D.f.kp D.b R g ha h he hpl
theorem nd(h:decide X.N.Nodup=true:=by kernel_rfl):X.N.Nodup:=gj h
end
theorem fJ{P:Program}{w:World}{K:PySem.W.Frag}{mg:Str->Option Value}{base:Heap}{cA:Cl}{sub:Nat->Nat->Bool}{T:Nat->Option Df}{x:Str}{st:Stmt}{ps:List Str}{k n:Nat}{cm:Bool}{df:Df}(D:D3 K mg x st ps)(N:List Str)(hT:T n=some df)
  (hb:∀(cdv:Value) (A:Around) (outer:List Env) (s:Shared) (H:Hp) (E:XK),b_ k (A.deeper (envOfC x (aq st) s.heap.objs.size (jz K x) cdv))->
   JB (ju (lU P w) P w K mg base N x (aq st) (jz K x) cdv A outer s H E cm) cA sub cm (λc=>call sub T k c) (λ_ C dx H'=>E C dx H') (aK st) df.body) (S:h_ N ps (aq st):=by exact⟨rfl,rfl,rfl,dk,rfl,dk,dk⟩) (hp:df.iY=ps.length:=by rfl) (hm:df.many=N.length:=by rfl) :
  fM P w K mg base (lU P w) cm (k+1) (jz K x) (fdOf K x st) ps (uN K cA (call sub T (k+1) cm n)):=zlc D.f S hT hp hm hb
section
variable {X:Cx}
end
section
variable {K:PySem.W.Frag}{cA:Cl}{φ:Ph}{H:Hp}
end
end Mi
namespace Mi
open PySem
theorem Xg{r:List Int}{x j:Int}(h0:0<=j)(h:j<(r.length:Int)+1):prim .ix [.fl (r.map .int++[.int x]),.int j]=some (.dat (.int (at' (r++[x]) j))):=by
 have:=zmV (fs:=r++[x]) h0 (by rw[cX];simp;lia)
 rwa [jK] at this
theorem mH{α:Type}{l:List α}{g:α->Option D}:l.filterMap g=[]↔∀x∈l,g x=none:=by
 rw[List.filterMap_eq_nil_iff]
end Mi
namespace Mi
open PySem Ts
theorem W.sW{sub:Nat->Nat->Bool}{aj:Bool}{F:Fn}{τ:Vs}{s:S}{P:Xv->S->Prop}{p q r:Pr}{a b c d:E}(h:W (ev sub aj F a τ) s λx s1=>W (ev sub aj F b τ) s1 λy s2=>W (eU [x,y]) s2 λds s3=>W (bK true (prim p ds)) s3 λt s4=>W (Mi.bool t) s4 λk s5=>
  W (if k=true then M.bd (ev sub aj F c τ) λz=>M.bd (eU [y,z]) λds=>M.bd (bK true (prim q ds)) λt=>M.bd (Mi.bool t) λk2=>if k2=true then M.bd (ev sub aj F d τ) λw=>M.bd (eU [z,w]) λds=>bK true (prim r ds) else M.ret (.d (.bl false)) else M.ret (.d (.bl false))) s5 P):W (ev sub aj F (.sW p q r a b c d) τ) s P:=
 W.bd (h.imp λ_ _ h=>W.bd (h.imp λ_ _ h=>W.bd (h.imp λ_ _ h=>W.bd (h.imp λ_ _ h=>W.bd h))))
noncomputable def oZ(n:Int):D->Bool
 |.tup xs=>decide ((xs.length:Int)=n)
 |_=>false
noncomputable def lg(a b:Int):D->Bool
 |.int i=>decide (a<=i/\i<=b)
 |_=>false
noncomputable def dB(n:Int):D->Bool
 |.tup [.int a,.int b]=>decide (0<=a/\a<b/\b<n)
 |_=>false
theorem Qg{xs:List D}(h:xs.length≠2):oZ 2 (.tup xs)=false:=cZ (p:=((xs.length:Int)=2)) (by lia)
theorem Cy{xs:List D}(h:xs.length=2):∃x y,xs=[x,y]:=by
 match xs,h with
 |[x,y],_=>exact⟨x,y,rfl⟩
theorem Xh{n:Int}{xs:List D}(h:xs.length≠2):dB n (.tup xs)=false:=by
 unfold dB
 split
 ·rename_i e;cases e;exact absurd rfl h
 ·rfl
noncomputable def f9:List D->List (Int×Int)
 |.tup [.int a,.int b]::r=>(a,b)::f9 r
 |_::r=>f9 r
 |[]=>[]
theorem J3{n:Int}:∀{ys:List D},ys.all (dB n)=true->ys=(f9 ys).map bO/\∀p∈f9 ys,0<=p.1/\p.1<p.2/\p.2<n
 |[],_=>⟨rfl,λp hp=>by cases hp⟩
 |y::ys,h=>by
  rw[kW,cI] at h;obtain⟨e,q⟩:=J3 h.2;have h1:=h.1;unfold dB at h1;split at h1
  ·rename_i a b;have:=gj h1;refine⟨?_,λp hp=>?_⟩
   ·show _::ys=bO (a,b)::(f9 ys).map bO;rw[<-e];rfl
   ·rcases cM.mp (show p∈(a,b)::f9 ys from hp) with rfl|hp
    ·exact this
    ·exact q p hp
  ·cases h1
theorem Xi:∀ps:List (Int×Int),f9 (ps.map bO)=ps
 |[]=>rfl
 |p::ps=>by
  show (p.1,p.2)::f9 (ps.map bO)=_;rw[Xi ps]
theorem zhb{n:Int}{ps:List (Int×Int)}(h:∀p∈ps,0<=p.1/\p.1<p.2/\p.2<n):(ps.map bO).all (dB n)=true:=by
 rw[Bp,gb];intro p hp;exact cT (h p hp)
noncomputable def jd(ps:List (Int×Int)):Bool:=(ps.zip (ps.drop 1)).all λe=>iI e.1 e.2
theorem j_:∀{ps:List (Int×Int)},jd ps=true↔ps.Pairwise λa b=>iI a b=true
 |[]=>by simp[jd]
 |[p]=>by simp[jd]
 |p::q::r=>by
  have ih:=j_ (ps:=q::r);have e:jd (p::q::r)=(iI p q&&jd (q::r)):=rfl;rw[e,cI,ih,yJ (a:=p)]
  constructor
  ·rintro⟨h1,h2⟩;refine⟨λx hx=>?_,h2⟩;rcases cM.mp hx with rfl|hx
   ·exact h1
   ·have:=(yJ.mp h2).1 x hx;rw[j9] at *
    lia
  ·rintro⟨h1,h2⟩;exact⟨h1 q eZ,h2⟩
theorem zla{ps:List (Int×Int)}(h:∀p∈ps,gP p):jd ps=decide (ps=ss ps):=by
 by_cases e:ps=ss ps
 ·rw[cT e,j_,e];exact J1
 ·rw[cZ e];cases ha:jd ps
  ·rfl
  ·exact absurd (JZ (j_.mp ha) J1 λx=>(W_ h).symm) e
theorem Xj{ps:List (Int×Int)}(h:ps.Pairwise λa b=>iI a b=true):ps.Pairwise lx:=h.imp λ{a b} e=>j9.mp e
theorem zm1{ps:List (Int×Int)}(h:ps.Pairwise lx):ps.Pairwise λa b=>iI a b=true:=h.imp λ{a b} e=>j9.mpr e
noncomputable def nF:D->Bool
 |.tup [.int n,.tup ys]=>decide (1<=n/\n<=8)&&ys.all (dB n)&&jd (f9 ys)
 |_=>false
theorem Xk{α:Type}{q:α->Bool}:∀l:List α,l.length=(l.filter q).length+(l.filter λx=>!q x).length
 |[]=>rfl
 |x::l=>by
  have:=Xk (q:=q) l;simp only[Il];cases q x<;>simp<;>lia
theorem Xl{xs:List D}(h:xs.length≠2):nF (.tup xs)=false:=by
 unfold nF
 split
 ·rename_i e;cases e;exact absurd rfl h
 ·rfl
theorem zk8{ps:List (Int×Int)}{n:Int}(h1:1<=n)(h8:n<=8)(ht:∀p∈ps,0<=p.1/\p.1<p.2/\p.2<n)(hi:ps.Pairwise lx):(ps.length:Int)<=7*n:=by
 have key:∀m:Nat,∀qs:List (Int×Int),(∀p∈qs,0<=p.1/\p.1<(m:Int)/\p.1<p.2/\p.2<n)->qs.Nodup->(qs.length:Int)<=7*m:=by
  intro m
  induction m with
  |zero=>
   intro qs hq _;cases qs with
   |nil=>simp
   |cons p r=>have:=hq p (by simp);lia
  |succ m ih=>
   intro qs hq nd;have h1:=ih (qs.filter λp=>decide (p.1<(m:Int))) (λp hp=>by
    obtain⟨a,b⟩:=wX.mp hp;have:=hq p a;have:=gj b
    lia) (nd.filter _)
   have h2:(qs.filter λp=>!decide (p.1<(m:Int))).length<=(([1,2,3,4,5,6,7]:List Int).map λx=>((m:Int),x)).length:=Wh (nd.filter _) (λp hp=>by
    obtain⟨a,b⟩:=wX.mp hp;have:=hq p a;have b:¬p.1<(m:Int):=by simpa using b
    obtain⟨p1,p2⟩:=p;dsimp only at *;have e:p1=(m:Int):=by lia
    subst e;refine fj.mpr ⟨p2,?_,rfl⟩;have:p2=1\/p2=2\/p2=3\/p2=4\/p2=5\/p2=6\/p2=7:=by lia
    simpa using this)
   have h3:=Xk (q:=λp=>decide (p.1<(m:Int))) qs;simp only[bJ,gY,ql] at h2
   lia
 have:=key n.toNat ps (λp hp=>by have:=ht p hp;lia) (Wg hi)
 lia
theorem zmu{d:D}(h:nF d=true):∃n ps,d=bQ n ps/\Web n ps:=by
 unfold nF at h;split at h
 ·rename_i n ys;rw[cI,cI] at h;obtain⟨⟨h1,h2⟩,h3⟩:=h;obtain⟨e,ht⟩:=J3 h2;have hn:=gj h1;have hi:=Xj (j_.mp h3);exact⟨n,f9 ys,by unfold bQ;rw[<-e],hn.1,hn.2,ht,hi,zk8 hn.1 hn.2 ht hi⟩
 ·cases h
theorem Xm{n:Int}{ps:List (Int×Int)}(h:Web n ps):nF (bQ n ps)=true:=by
 show (decide (1<=n/\n<=8)&&(ps.map bO).all (dB n)&&jd (f9 (ps.map bO)))=true;rw[Xi,cT (And.intro h.h1 h.h8),zhb h.tie,j_.mpr (zm1 h.inc)];rfl
noncomputable def Av:D->Bool
 |.tup ys=>ys.all fU
 |d=>iK d
noncomputable def Aw:D->Bool
 |.tup xs=>xs.all Av
 |d=>iK d
def Qh(d:D):Prop:=∀x ys,d=.tup [x,.tup ys]->ys.length<=200
theorem zlE{ps qs:List (Int×Int)}:List.zipWith (λ(p q:D)=>D.tup [p,q]) (ps.map bO) (qs.map bO)=(ps.zip qs).map λe=>.tup [bO e.1,bO e.2]:=by
 induction ps generalizing qs with
 |nil=>rfl
 |cons p ps ih=>
  cases qs with
  |nil=>rfl
  |cons q qs=>
   show _::List.zipWith (λ(p q:D)=>D.tup [p,q]) (ps.map bO) (qs.map bO)=_::_;rw[ih];rfl
theorem J4{d:D}(h:fU d=true):iK d=true:=by cases d<;>first|rfl|cases h
theorem Xn{d:D}(h:Av d=true):iK d=true:=by cases d<;>first|rfl|cases h
theorem zje{p q:Int×Int}:ltI [p.1,p.2] [q.1,q.2]=iI p q:=by
 simp only[ltI];unfold iI;by_cases h:p.1=q.1
 ·rw[if_pos h];by_cases h2:p.2=q.2
  ·rw[if_pos h2]
   symm
   apply cZ
   lia
  ·rw[if_neg h2,rK]
   lia
 ·rw[if_neg h,rK]
  lia
theorem Xo:∀{ps:List (Int×Int)},(∀p∈ps,gP p)->jV (ps.map bO)=some ps
 |[],_=>rfl
 |p::ps,h=>by
  have h1:vY (bO p)=some p:=by
   show (if 0<=p.1/\p.1<p.2/\p.2<8 then some (p.1,p.2) else none)=_;rw[if_pos (show 0<=p.1/\p.1<p.2/\p.2<8 from h p eZ)]
  simp only[jA,jV,h1,Xo λq hq=>h q (eN _ hq)]
theorem zoj{ps:List (Int×Int)}(h:∀p∈ps,gP p):prim .dY [.tup (ps.map bO)]=some (.nw ((ss ps).map bO)):=by
 show Option.map _ (jV (ps.map bO))=_;rw[Xo h];rfl
theorem Xp{k:Nat}:∀(ps qs:List (Int×Int)),dZ (cO (k+1)) (ps.map bO) (qs.map bO)=some (decide (ps=qs))
 |[],[]=>rfl
 |[],q::qs=>rfl
 |p::ps,[]=>rfl
 |p::ps,q::qs=>by
  simp only[jA,dZ,Xp ps qs,Wd];rw[<-Bool.decide_and]
  congr 1
  rw[rK,List.cons_eq_cons]
end Mi
namespace Mi
open PySem
theorem J_{xs:List D}{r:Nat}(hr:r<xs.length):∃x,prim .ix [.fl xs,.int r]=some (.dat x)/\x∈xs:=⟨xs[r],ud (fD hr),nY _⟩
theorem zmZ{i:Int}(h0 : -1000<=i)(h:i<=2000):prim .str1 [.int i]=some (.dat (.str (Str.ofString (toString i)))):=by
 show (if i.natAbs<2^62 then _ else none)=_;rw[if_pos (Nat.lt_of_le_of_lt (show i.natAbs<=2000 by lia) (by decide))]
def nG(d:D):Prop:=Av d=true/\∀ys,d=.tup ys->ys.length<=200
def uZ(d:D):Prop:=Aw d=true/\Qh d
theorem rF{xs:List D}(h:∀x∈xs,fU x=true)(hl:xs.length<=200):nG (.tup xs):=⟨gb.mpr h,λys e=>by cases e;exact hl⟩
theorem u5{i:Int}:nG (.int i):=⟨rfl,λys e=>by cases e⟩
theorem Xq{ps:List (Int×Int)}:∀x∈ps.map bO,fU x=true:=λx hx=>by obtain⟨p,_,rfl⟩:=fj.mp hx;rfl
theorem zkF{ps:List (Int×Int)}(hl:ps.length<=200):nG (.tup (ps.map bO)):=rF Xq (by rw[bJ];exact hl)
theorem Ka{xs:List D}(h:∀x∈xs,nG x):uZ (.tup xs):=⟨gb.mpr λx hx=>(h x hx).1,λx ys e=>by
 cases e;exact(h (.tup ys) (by simp)).2 ys rfl⟩
theorem u6{x y:D}(hx:nG x)(hy:nG y):uZ (.tup [x,y]):=Ka λz hz=>by
 simp only[cM,mK,lJ] at hz;rcases hz with rfl|rfl
 ·exact hx
 ·exact hy
theorem zlu{n:Int}{ps:List (Int×Int)}(hl:ps.length<=200):uZ (bQ n ps):=u6 u5 (zkF hl)
theorem Qi{P:D->Prop}{a b c:List D}(ha:∀x∈a,P x)(hb:∀x∈b,P x)(hc:∀x∈c,P x):∀x∈a++b++c,P x:=λx hx=>by
 rcases fG.mp hx with hx|hx
 ·rcases fG.mp hx with hx|hx
  ·exact ha x hx
  ·exact hb x hx
 ·exact hc x hx
theorem Qj{P:D->Prop}{a b:List D}(ha:∀x∈a,P x)(hb:∀x∈b,P x):∀x∈a++b,P x:=λx hx=>by
 rcases fG.mp hx with hx|hx
 ·exact ha x hx
 ·exact hb x hx
end Mi
namespace Mi
open PySem PySem.W L2
theorem Hq{a b:Int×Int}:mZ [.int a.1,.int a.2] [.int b.1,.int b.2]=some (iI a b):=by
 unfold iI;simp only[mZ];by_cases h1:a.1=b.1
 ·rw[if_pos h1];by_cases h2:a.2=b.2
  ·rw[if_pos h2]
   congr 1
   simp only[ql,mL,decide_false]
   symm
   rw[Hz]
   lia
  ·rw[if_neg h2]
   congr 1
   rw[rK]
   lia
 ·rw[if_neg h1]
  congr 1
  rw[rK]
  lia
theorem zj6{us:List (Int×Int)}:xQ (us.map bO)=yC us:=by
 funext i j
 unfold xQ yC;rw[je,je];cases us[i]? with
 |none=>rfl
 |some a=>
  cases us[j]? with
  |none=>rfl
  |some b=>exact Hq
theorem zkc{ps:List (Int×Int)}(hl:ps.length<64)(nd:ps.Nodup):∃qs:List (Int×Int),BP (ps.map bO)=some (qs.map bO)/\qs.Pairwise lx/\(∀x,x∈qs↔x∈ps)/\qs.length=ps.length:=by
 have hk:((ps.map bO).all lX||(ps.map bO).all iV)=true:=by
  rw[Bool.or_eq_true]
  right
  rw[Bp,gb];intro p _;rfl
 unfold BP;rw[if_pos hk];unfold pQ;rw[bJ,zj6];by_cases h2:ps.length<2
 ·rw[if_pos h2];refine⟨ps,rfl,?_,λ_=>Iff.rfl,rfl⟩;cases ps with
  |nil=>exact .nil
  |cons x t=>
   cases t with
   |nil=>exact List.pairwise_singleton ..
   |cons y t=>exact absurd h2 (by simp)
 ·rw[if_neg h2,if_pos hl];obtain⟨p,e,e1,e2,e3,e4⟩:=zdt (us:=ps) (by lia) nd;rw[e];dsimp only;rw[if_pos e1];refine⟨p.toList.map λi=>ps.getD i (0,1),?_,Xj e4,e3,by rw[bJ,Ba,e1]⟩;rw[jB]
  congr 1
  refine Bd λi hi=>?_;have:=e2 i hi;simp[kj,this]
noncomputable def qg:D->Bool
 |.tup [.int k,.int d]=>decide (1<=k/\k<=24)&&decide (1<=d/\d<=k)
 |_=>false
theorem Xr{xs:List D}(h:xs.length≠2):qg (.tup xs)=false:=by
 unfold qg
 split
 ·rename_i e;cases e;exact absurd rfl h
 ·rfl
theorem zjl{d:D}(h:qg d=true):∃k e,d=aM k e/\1<=e/\e<=k/\k<=24:=by
 unfold qg at h;split at h
 ·rename_i k e;rw[cI] at h;have h1:=gj h.1;have h2:=gj h.2;exact⟨k,e,rfl,h2.1,h2.2,h1.2⟩
 ·cases h
theorem Qk{k d:Int}(h:1<=d/\d<=k/\k<=24):qg (aM k d)=true:=by
 show (decide (1<=k/\k<=24)&&decide (1<=d/\d<=k))=true;rw[cT (by lia),cT (by lia)];rfl
noncomputable def qN(n k:Int):D->Bool
 |.tup xs=>decide ((xs.length:Int)=n)&&xs.all (lg 0 (k-1))
 |_=>false
theorem Xu{a b:Int}:∀{xs:List D},xs.all (lg a b)=true->∃is:List Int,xs=is.map .int/\∀i∈is,a<=i/\i<=b
 |[],_=>⟨[],rfl,by simp⟩
 |d::r,h=>by
  rw[kW,cI] at h;obtain⟨is,rfl,hi⟩:=Xu h.2;cases d with
  |int i=>exact⟨i::is,rfl,by
    intro j hj;rcases cM.mp hj with rfl|hj
    ·exact gj h.1
    ·exact hi j hj⟩
  |_=>exact absurd h.1 (by simp[lg])
theorem Ql{n k:Int}{d:D}(h:qN n k d=true):∃hs:List Int,d=.tup (hs.map .int)/\(hs.length:Int)=n/\∀x∈hs,0<=x/\x<k:=by
 cases d with
 |tup xs=>
  rw[show qN n k (.tup xs)=(decide ((xs.length:Int)=n)&&xs.all (lg 0 (k-1))) from rfl,cI] at h;obtain⟨is,rfl,hi⟩:=Xu h.2;have:=gj h.1;rw[bJ] at this;exact⟨is,rfl,this,λx hx=>by have:=hi x hx;lia⟩
 |_=>cases h
theorem Xw{n k:Int}{hs:List Int}(hl:(hs.length:Int)=n)(h:∀x∈hs,0<=x/\x<k):qN n k (.tup (hs.map .int))=true:=by
 rw[show qN n k (.tup (hs.map D.int))=(decide (((hs.map D.int).length:Int)=n)&&(hs.map D.int).all (lg 0 (k-1))) from rfl,bJ,cT hl,Bool.true_and,Bp,gb];intro x hx;have:=h x hx;exact cT (by lia)
noncomputable def u9(k d:Int)(ps:List (Int×Int))(hs:List Int):List (Int×Int):=ps.filter λp=>decide (gO k (at' hs p.1) (at' hs p.2)<d)
noncomputable def Kc(k d:Int)(ps:List (Int×Int))(hs:List Int):D:=match u9 k d ps hs with
 |[]=>.non
 |p::_=>bO p
theorem ux{k d:Int}{ps:List (Int×Int)}{hs:List Int}:u9 k d ps hs=[]↔mD k d ps hs=true:=by
 unfold u9;rw[List.filter_eq_nil_iff,iH]
 constructor
 ·intro h p hp;have:=h p hp;simp at this
  lia
 ·intro h p hp;have:=h p hp;simp
  lia
theorem Qm{n k:Int}(h1:1<=n)(h8:n<=8)(hk1:1<=k)(hk:k<=10)(h7:n=8->k<=7):(n.toNat+1)*(k.toNat+1)^n.toNat+n.toNat<1000000000:=by
 have e:n.toNat=1\/n.toNat=2\/n.toNat=3\/n.toNat=4\/n.toNat=5\/n.toNat=6\/n.toNat=7\/n.toNat=8:=by lia
 have hk':k.toNat+1<=11:=by lia
 have key:∀m:Nat,m<=7->(m+1)*(k.toNat+1)^m+m<1000000000:=λm hm=>by
  have h2:(k.toNat+1)^m<=11^m:=Nat.pow_le_pow_left hk' m;have h3:(m+1)*(k.toNat+1)^m<=(m+1)*11^m:=K7 _ h2;have h4:∀m,m<=7->(m+1)*11^m+m<1000000000:=by decide
  have:=h4 m hm
  lia
 rcases e with e|e|e|e|e|e|e|e
 all_goals first
  |(rw[e];exact key _ (by lia))
  |skip
 have h2:(k.toNat+1)^8<=8^8:=Nat.pow_le_pow_left (by have:=h7 (by lia);lia) 8;rw[e]
 lia
end Mi
namespace Mi
open PySem
theorem W.zG{sub:Nat->Nat->Bool}{aj:Bool}{F:Fn}{τ:Vs}{s:S}{P:Xv->S->Prop}{a b:E}(h:W (ev sub aj F a τ) s λx s1=>W (rd x) s1 λd s2=>oX (zO d) λk=>W (if k=true then M.ret x else ev sub aj F b τ) s2 P):W (ev sub aj F (.zG a b) τ) s P:=
 W.bd (h.imp λ_ _ h=>W.bd (h.imp λd s2 ⟨k,e,h⟩=>W.bd (W.opt e h)))
theorem W.c0{F:List Xv->M Xv}{xs:List Xv}{s:S}{e:D}{P:Xv->S->Prop}(h:W (F (dJ 0 xs)) [] λv _=>v=.d e)(k:P (.d e) s)(hl:locs xs=[]:=by rfl):W (cH F xs) s P:=W.bY hl (h.imp λ_ _ q=>⟨_,q,k⟩)
theorem W.c1{F:List Xv->M Xv}{xs:List Xv}{s:S}{P:Xv->S->Prop}(h:W (F (dJ 0 xs)) [] λv _=>∃d,v=.d d)(k:∀d,P (.d d) s)(hl:locs xs=[]:=by rfl):W (cH F xs) s P:=W.bY hl (h.imp λ_ _ ⟨d,q⟩=>⟨d,q,k d⟩)
noncomputable def uy(n k d:Int)(ps:List (Int×Int))(x:D):Bool:=qN n k x&&(match x with
 |.tup xs=>(match fP xs with
  |some hs=>mD k d ps hs
  |none=>false)
 |_=>false)
theorem Qn{n k d:Int}{ps:List (Int×Int)}{x:D}(h:qN n k x=false):uy n k d ps x=false:=by
 unfold uy;rw[h];rfl
theorem Ke{n k d:Int}{ps:List (Int×Int)}{hs:List Int}(hl:(hs.length:Int)=n)(h:∀x∈hs,0<=x/\x<k):uy n k d ps (.tup (hs.map .int))=mD k d ps hs:=by
 unfold uy;rw[Xw hl h,Bool.true_and];show (match fP (hs.map D.int) with|some hs=>mD k d ps hs|none=>false)=_;rw[zfj]
theorem zjg{n k d:Int}{ps:List (Int×Int)}{x:D}(h:uy n k d ps x=true):∃hs:List Int,x=.tup (hs.map .int)/\uh n k d ps hs:=by
 cases hsp:qN n k x with
 |false=>rw[Qn hsp] at h;cases h
 |true=>
  obtain⟨hs,rfl,hl,hlo⟩:=Ql hsp;rw[Ke hl hlo] at h;exact⟨hs,rfl,hl,hlo,iH.mp h⟩
theorem Xx{n k d:Int}{ps:List (Int×Int)}{hs:List Int}(h:uh n k d ps hs):uy n k d ps (.tup (hs.map .int))=true:=by
 rw[Ke h.len h.lo];exact iH.mpr h.fit
section
variable {s:S}{o o' L L':SO}
end
structure yD(n k:Int)(r:List Int)(x:Int):Prop where
 lo:∀z∈r,0<=z/\z<k
 x0:0<=x
 xk:x<=k
 len:(r.length:Int)<n
section
variable {n k x y:Int}{r:List Int}
theorem Qo(hn:1<=n)(hk:1<=k):yD n k [] 0:=⟨by simp,by lia,by lia,by simp;lia⟩
theorem zka(S:yD n k (r++[y]) x):yD n k r (y+1):=by
 have h:=S.lo y (by simp);have hl:=S.len;rw[cX] at hl;simp at hl;exact⟨λz hz=>S.lo z (pB _ hz),by lia,by lia,by lia⟩
theorem zjp(S:yD n k r x)(hx:x≠k):yD n k r (x+1):=⟨S.lo,by have:=S.x0;lia,by have:=S.xk;lia,S.len⟩
theorem zhp(S:yD n k r x)(hk:1<=k)(hx:x≠k)(hl:(r.length:Int)+1<n):yD n k (r++[x]) 0:=⟨λz hz=>by
 rcases fG.mp hz with hz|hz
 ·exact S.lo z hz
 ·have:z=x:=by simpa using hz
  have:=S.x0;have:=S.xk
  lia,by lia,by lia,by rw[cX];simp;lia⟩
end
theorem Xy{k':Nat}(hs:List Int):dZ (cO k') (hs.map D.int) (hs.map D.int)=some true:=by
 have hi:∀a:Int,cO k' (.int a) (.int a)=some (a==a):=by intro a;cases k'<;>rfl
 induction hs with
 |nil=>rfl
 |cons x r ih=>simp only[jA,dZ,ih,hi];simp
end Mi
namespace fK
open PySem Mi
noncomputable def b0:cD:=(.cons (.ret (.and (.gw (.v 0) .int) (.not (.gw (.v 0) .bool)))) .nil)
noncomputable def b1:cD:=(.cons (.ret (.and (.call 0 (Ea (.v 0))) (.qz .le .le (.v 1) (.v 0) (.v 2)))) .nil)
noncomputable def b2:cD:=(.cons (.ret (.and (.gw (.v 0) .tuple) (.pr true .eq (Eb (.pr true .len (Ea (.v 0))) (.v 1))))) .nil)
noncomputable def b3:cD:=(.cons (.iff (.not (.call 2 (Eb (.v 0) (Ci 2)))) (.cons (.ret (.c (.bl false))) .nil) .nil) (.cons (.asg (.tp [1,2]) (.v 0)) (.cons (.ret (.and (.call 1 (Ec (.v 1) (Ci 1) (Ci 24))) (.call 1 (Ec (.v 2) (Ci 1) (.v 1))))) .nil)))
noncomputable def b4:cD:=(.cons (.ret (.call 1 (Ec (.v 1) (Ci 0) (.pr true .sub (Eb (Ei (.v 0) (Ci 0)) (Ci 1)))))) .nil)
noncomputable def b5:cD:=(.cons (.iff (.not (.call 3 (Ea (.v 0)))) (.cons (.rise 1 false (Ea (.c (.str "no ring")))) .nil) .nil) .nil)
noncomputable def b6:cD:=(.cons (.asg (.nm 3) (.pr true .abs (Ea (.pr true .sub (Eb (.v 1) (.v 2)))))) (.cons (.ret (.pr true .min2 (Eb (.v 3) (.pr true .sub (Eb (Ei (.v 0) (Ci 0)) (.v 3)))))) .nil))
noncomputable def b7:cD:=(.cons (.iff (.not (.call 2 (Eb (.v 0) (Ci 2)))) (.cons (.ret (.c (.bl false))) .nil) .nil) (.cons (.asg (.tp [1,2]) (.v 0)) (.cons (.iff (.or (.not (.call 8 (Ea (.v 1)))) (.not (.gw (.v 2) .tuple))) (.cons (.ret (.c (.bl false))) .nil) .nil) (.cons (.iff (.not (.pr true .all (Ea (.comp true (.call 10 (Eb (.v 1) (.v 0))) [0] (.seq (.v 2)) [1] 1 .no)))) (.cons (.ret (.c (.bl false))) .nil) .nil) (.cons (.ret (.pr true .all (Ea (.comp true (.pr true .lt (Eb (.v 0) (.v 1))) [0,1] (.zip (.v 2) (.sl true (.v 2) (.yes (Ci 1)) .no)) [] 2 .no)))) .nil)))))
noncomputable def b8:cD:=(.cons (.ret (.call 1 (Ec (.v 0) (Ci 1) (Ci 8)))) .nil)
noncomputable def b9:cD:=(.cons (.ret (.call 1 (Ec (.v 1) (Ci 0) (.pr true .sub (Eb (.v 0) (Ci 1)))))) .nil)
noncomputable def b10:cD:=(.cons (.iff (.not (.call 2 (Eb (.v 1) (Ci 2)))) (.cons (.ret (.c (.bl false))) .nil) .nil) (.cons (.asg (.tp [2,3]) (.v 1)) (.cons (.ret (.and (.call 9 (Eb (.v 0) (.v 2))) (.and (.call 9 (Eb (.v 0) (.v 3))) (.pr true .lt (Eb (.v 2) (.v 3)))))) .nil)))
noncomputable def Kf:cD:=(.cons (.iff (.not (.call 7 (Ea (.v 0)))) (.cons (.rise 9 true (Ea (.pr true .neg (Ea (Ci 1))))) .nil) .nil) .nil)
noncomputable def Kg:cD:=(.cons (.ex (.call 17 (Ec (.v 0) (.v 1) (.v 2)))) (.cons (.ret (.pr true .tuple (Ea (.comp true (.pr true .mod (Eb (.pr true .add (Eb (.v 0) (.v 1))) (Ei (.v 2) (Ci 0)))) [0] (.seq (.v 2)) [3,1] 1 .no)))) .nil))
noncomputable def Kh:cD:=(.cons (.ex (.call 17 (Ec (.v 0) (.v 1) (.v 2)))) (.cons (.ret (.call 14 (Eb (.v 1) (.v 2)))) .nil))
noncomputable def Qp:cD:=(.cons (.ret (.pr true .tuple (Ea (.comp true (.pr true .mod (Eb (.pr true .neg (Ea (.v 0))) (Ei (.v 1) (Ci 0)))) [0] (.seq (.v 1)) [0] 1 .no)))) .nil)
noncomputable def Qq:cD:=(.cons (.ret (.and (.call 2 (Eb (.v 2) (Ei (.v 0) (Ci 0)))) (.pr true .all (Ea (.comp true (.call 4 (Eb (.v 1) (.v 0))) [0] (.seq (.v 2)) [1] 1 .no))))) .nil)
noncomputable def Qs:cD:=(.cons (.ret (.and (.call 15 (Ec (.v 0) (.v 1) (.v 2))) (.pr true .Fp (Ea (.call 18 (Ec (.v 0) (.v 1) (.v 2))))))) .nil)
noncomputable def Cz:cD:=(.cons (.ex (.call 11 (Ea (.v 0)))) (.cons (.ex (.call 5 (Ea (.v 1)))) (.cons (.iff (.not (.call 16 (Ec (.v 0) (.v 1) (.v 2)))) (.cons (.rise 2 false (Ea (.c (.str "no hues of the web on the ring")))) .nil) .nil) .nil)))
noncomputable def Qt:cD:=(.cons (.fr (.tp [3,4]) (.seq (Ei (.v 0) (Ci 1))) (.cons (.iff (.pr true .lt (Eb (.call 6 (Ec (.v 1) (Ei (.v 2) (.v 3)) (Ei (.v 2) (.v 4)))) (Ei (.v 1) (Ci 1)))) (.cons (.ret (.tup (Eb (.v 3) (.v 4)))) .nil) .nil) .nil)) (.cons (.ret (.c .non)) .nil))
noncomputable def Qu:cD:=(.cons (.iff (.pr true .lt (Eb (.v 1) (.pr true .len (Ea (.v 0))))) (.cons (.ret (Ei (.v 0) (.v 1))) .nil) .nil) (.cons (.ret (Ci 0)) .nil))
noncomputable def Qv:cD:=(.cons (.asg (.nm 1) (.pr true .max2 (Eb (.v 0) (.pr true .sub (Eb (Ci 0) (.v 0)))))) (.cons (.ret (.lst false (Eb (.v 1) (.pr true .vX (Ea (.pr true .ge (Eb (.v 1) (.pr true .pow (Eb (Ci 10) (Ci 18)))))))))) .nil))
noncomputable def Qw:cD:=(.cons (.iff (.pr true .eq (Eb (Ei (.v 0) (Ci 1)) (Ci 1))) (.cons (.asg (.tp [2,3]) (.pr true .divmod (Eb (Ei (.v 0) (Ci 0)) (.v 1)))) (.cons (.asg (.sub (.v 0) (Ci 0)) (.v 2)) (.cons (.ret (.v 3)) .nil))) .nil) (.cons (.asg (.nm 4) (.pr true .mod (Eb (.pr true .mul (Eb (.pr true .add (Eb (.pr true .mod (Eb (Ei (.v 0) (Ci 0)) (Ci 2147483647))) (Ci 40503))) (Ci 69621))) (Ci 2147483629)))) (.cons (.asg (.nm 4) (.pr true .mod (Eb (.pr true .add (Eb (.pr true .mul (Eb (.v 4) (.v 4))) (Ci 7817))) (Ci 2147483587)))) (.cons (.asg (.sub (.v 0) (Ci 0)) (.pr true .mod (Eb (.pr true .add (Eb (.pr true .mul (Eb (.v 4) (Ci 48271))) (Ci 11))) (Ci 2147483629)))) (.cons (.ret (.pr true .mod (Eb (.pr true .fdiv (Eb (Ei (.v 0) (Ci 0)) (Ci 32))) (.v 1)))) .nil)))))
noncomputable def Xz:cD:=(.cons (.ret (.and (.gw (.v 0) .int) (.not (.gw (.v 0) .bool)))) .nil)
noncomputable def Qx:cD:=(.cons (.asg (.nm 1) (.lst true (.cons (.c .non) (.cons (.c (.bl true)) (.cons (.c (.bl false)) (.cons (.pr true .neg (Ea (Ci 1))) (.cons (.c (.str "1")) (.cons (.c (.str "")) (.cons (.tup .nil) (.cons (.lst true .nil) (.cons (.tup (Ea (Ci 0))) (.cons (.lst true (Ea (Ci 0))) (.cons (.sX "a" 1) (.cons (.tup (Eb (Ci 0) (Ci 1))) (Ec (.pr true .pow (Eb (Ci 10) (Ci 30))) (.tup (Eb (Ci 0) (.tup .nil))) (.tup (Ea (.c (.str "ab"))))))))))))))))))) (.cons (.ret (Ei (.pr true .add (Eb (.v 1) (.lst true (Ea (.tup (Eb (Ci 1) (.tup (Ea (.tup (Eb (Ci 0) (Ci 0))))))))))) (.call 21 (Eb (.v 0) (Ci 16))))) .nil))
noncomputable def XD:cD:=(.cons (.asg (.nm 1) (.lst true (.cons (.gw (.v 0) (.cls 1)) (Ec (.gw (.v 0) (.cls 2)) (.gw (.v 0) (.cls 3)) (.gw (.v 0) (.cls 4)))))) (.cons (.asg (.nm 1) (.pr true .add (Eb (.v 1) (.lst true (.cons (.gw (.v 0) (.cls 5)) (Ec (.gw (.v 0) (.cls 6)) (.gw (.v 0) (.cls 7)) (.gw (.v 0) (.cls 8)))))))) (.cons (.asg (.nm 1) (.pr true .add (Eb (.v 1) (.lst true (Ec (.gw (.v 0) (.cls 9)) (.gw (.v 0) (.cls 10)) (.gw (.v 0) (.cls 11))))))) (.cons (.iff (.or (.not (.gw (.v 0) .oG)) (.pr true .ne (Eb (.meth true .count .list (.v 1) (Ea (.c (.bl true)))) (Ci 1)))) (.cons (.ret (.c (.str "other"))) .nil) .nil) (.cons (.asg (.nm 2) (.lst true (.cons (.c (.str "ring")) (.cons (.c (.str "hues")) (.cons (.c (.str "place")) (.cons (.c (.str "arrows")) (.cons (.c (.str "map")) (.cons (.c (.str "paper")) (.cons (.c (.str "apart")) (.cons (.c (.str "row")) (Ec (.c (.str "web")) (.c (.str "text")) (.c (.str "great"))))))))))))) (.cons (.ret (Ei (.v 2) (.meth true .index .list (.v 1) (Ea (.c (.bl true)))))) .nil))))))
noncomputable def Qy:cD:=(.cons (.ret (Ei (.lst true (.cons (Ci 1) (.cons (Ci 2) (.cons (Ci 3) (.cons (Ci 4) (.cons (Ci 5) (.cons (Ci 6) (.cons (Ci 4) (.cons (Ci 5) (.cons (Ci 3) (Ec (Ci 6) (Ci 7) (Ci 8)))))))))))) (.call 21 (Eb (.v 0) (Ci 12))))) .nil)
noncomputable def Qz:cD:=(.cons (.asg (.nm 2) (Ei (.lst true (Ec (Ci 2) (Ci 4) (Ci 6))) (.call 21 (Eb (.v 0) (Ci 3))))) (.cons (.asg (.nm 3) (.lst true .nil)) (.cons (.fr (.nm 4) (.rg (Ci 0) (.v 1)) (.cons (.asg (.nm 3) (.pr true .add (Eb (.v 3) (.comp true (.tup (Eb (.v 1) (.v 0))) [0] (.rg (.pr true .add (Eb (.v 4) (Ci 1))) (.v 1)) [4,0,2] 1 (.yes (.pr true .lt (Eb (.call 21 (Eb (.v 2) (Ci 8))) (.v 3)))))))) .nil)) (.cons (.ret (.tup (Eb (.v 1) (.pr true .tuple (Ea (.pr true .sorted (Ea (.comp true (.tup (Eb (.pr true .sub (Eb (.pr true .sub (Eb (.v 2) (Ci 1))) (.v 1))) (.pr true .sub (Eb (.pr true .sub (Eb (.v 2) (Ci 1))) (.v 0))))) [0,1] (.seq (.v 3)) [1] 2 .no)))))))) .nil))))
noncomputable def QB:cD:=(.cons (.iff (.or (.not (.gw (.v 0) .tuple)) (.or (.pr true .ne (Eb (.pr true .len (Ea (.v 0))) (Ci 2))) (.or (.not (.call 22 (Ea (Ei (.v 0) (Ci 0))))) (.not (.qz .le .le (Ci 1) (Ei (.v 0) (Ci 0)) (Ci 8)))))) (.cons (.ret (.c (.bl false))) .nil) .nil) (.cons (.iff (.not (.gw (Ei (.v 0) (Ci 1)) .tuple)) (.cons (.ret (.c (.bl false))) .nil) .nil) (.cons (.fr (.nm 1) (.seq (Ei (.v 0) (Ci 1))) (.cons (.iff (.or (.not (.gw (.v 1) .tuple)) (.or (.pr true .ne (Eb (.pr true .len (Ea (.v 1))) (Ci 2))) (.not (.pr true .all (Ea (.comp true (.call 22 (Ea (.v 0))) [0] (.seq (.v 1)) [] 1 .no)))))) (.cons (.ret (.c (.bl false))) .nil) .nil) (.cons (.iff (.not (.sW .le .lt .lt (Ci 0) (Ei (.v 1) (Ci 0)) (Ei (.v 1) (Ci 1)) (Ei (.v 0) (Ci 0)))) (.cons (.ret (.c (.bl false))) .nil) .nil) .nil))) (.cons (.ret (.pr true .eq (Eb (.pr true .list (Ea (Ei (.v 0) (Ci 1)))) (.pr true .dY (Ea (Ei (.v 0) (Ci 1))))))) .nil))))
noncomputable def QC:cD:=(.cons (.asg (.nm 1) (.lst true (.cons (.tup (Eb (Ci 2) (Ci 1))) (.cons (.tup (Eb (Ci 3) (Ci 1))) (.cons (.tup (Eb (Ci 5) (Ci 2))) (.cons (.tup (Eb (Ci 4) (Ci 1))) (.cons (.tup (Eb (Ci 7) (Ci 3))) (.cons (.tup (Eb (Ci 7) (Ci 2))) (.cons (.tup (Eb (Ci 4) (Ci 2))) (.cons (.tup (Eb (Ci 6) (Ci 2))) (.cons (.tup (Eb (Ci 10) (Ci 4))) (Ec (.tup (Eb (Ci 5) (Ci 1))) (.tup (Eb (Ci 8) (Ci 3))) (.tup (Eb (Ci 3) (Ci 2))))))))))))))) (.cons (.iff (.pr true .eq (Eb (.call 21 (Eb (.v 0) (Ci 6))) (Ci 0))) (.cons (.asg (.nm 2) (.pr true .add (Eb (Ci 1) (.pr true .mod (Eb (.call 21 (Eb (.v 0) (Ci 24))) (Ci 10)))))) (.cons (.ret (.tup (Eb (.v 2) (.pr true .max2 (Eb (Ci 1) (.pr true .fdiv (Eb (.call 21 (Eb (.v 0) (.v 2))) (Ci 2)))))))) .nil)) .nil) (.cons (.ret (Ei (.v 1) (.call 21 (Eb (.v 0) (Ci 12))))) .nil)))
noncomputable def QD:cD:=(.cons (.iff (.or (.not (.gw (.v 0) .tuple)) (.or (.pr true .ne (Eb (.pr true .len (Ea (.v 0))) (Ci 2))) (.not (.pr true .all (Ea (.comp true (.call 22 (Ea (.v 0))) [0] (.seq (.v 0)) [] 1 .no)))))) (.cons (.ret (.c (.bl false))) .nil) .nil) (.cons (.ret (.sW .le .le .le (Ci 1) (Ei (.v 0) (Ci 1)) (Ei (.v 0) (Ci 0)) (Ci 24))) .nil))
noncomputable def XH:cD:=(.cons (.asg (.nm 3) (.pr true .abs (Ea (.pr true .sub (Eb (.v 1) (.v 2)))))) (.cons (.ret (.pr true .min2 (Eb (.v 3) (.pr true .sub (Eb (.v 0) (.v 3)))))) .nil))
noncomputable def QF:cD:=(.cons (.ret (.pr true .eq (Eb (.comp true (.v 0) [0] (.seq (Ei (.v 0) (Ci 1))) [1,2] 1 (.yes (.pr true .lt (Eb (.call 30 (Ec (Ei (.v 1) (Ci 0)) (Ei (.v 2) (Ei (.v 0) (Ci 0))) (Ei (.v 2) (Ei (.v 0) (Ci 1))))) (Ei (.v 1) (Ci 1)))))) (.lst true .nil)))) .nil)
noncomputable def QG:cD:=(.cons (.iff (.or (.not (.gw (.v 0) .tuple)) (.pr true .ne (Eb (.pr true .len (Ea (.v 0))) (.v 1)))) (.cons (.ret (.c (.bl false))) .nil) .nil) (.cons (.ret (.pr true .all (Ea (.comp true (.and (.call 22 (Ea (.v 0))) (.qz .le .lt (Ci 0) (.v 0) (.v 1))) [0] (.seq (.v 0)) [2] 1 .no)))) .nil))
noncomputable def QJ:cD:=(.cons (.ret (.and (.call 32 (Ec (.v 2) (Ei (.v 0) (Ci 0)) (Ei (.v 1) (Ci 0)))) (.call 31 (Ec (.v 0) (.v 1) (.v 2))))) .nil)
noncomputable def QK:cD:=(.cons (.iff (.and (.pr true .ne (Eb (Ei (.v 0) (Ci 1)) (.tup .nil))) (.pr true .lt (Eb (Ei (.v 1) (Ci 0)) (.pr true .mul (Eb (Ci 2) (Ei (.v 1) (Ci 1))))))) (.cons (.ret (.c .non)) .nil) .nil) (.cons (.asg (.nm 2) (.lst true .nil)) (.cons (.fr (.tp [3,4]) (.seq (Ei (.v 0) (Ci 1))) (.cons (.asg (.nm 5) (.comp true (.v 0) [0] (.rg (Ci 0) (Ei (.v 0) (Ci 0))) [3,0,4] 1 (.yes (.and (.pr true .inn (Eb (.tup (Eb (.v 1) (.v 0))) (Ei (.v 2) (Ci 1)))) (.pr true .inn (Eb (.tup (Eb (.v 3) (.v 0))) (Ei (.v 2) (Ci 1)))))))) (.cons (.asg (.nm 2) (.pr true .add (Eb (.v 2) (.v 5)))) .nil))) (.cons (.iff (.and (.pr true .ne (Eb (.v 2) (.lst true .nil))) (.pr true .lt (Eb (Ei (.v 1) (Ci 0)) (.pr true .mul (Eb (Ci 3) (Ei (.v 1) (Ci 1))))))) (.cons (.ret (.c .non)) .nil) .nil) (.cons (.asg (.nm 6) (.comp true (.v 0) [0] (.rg (Ci 0) (Ei (.v 0) (Ci 0))) [0] 1 (.yes (.pr true .eq (Eb (.comp true (.v 0) [0] (.seq (Ei (.v 1) (Ci 1))) [0] 1 (.yes (.pr true .inn (Eb (.v 1) (.v 0))))) (.lst true .nil)))))) (.cons (.asg (.nm 7) (.lst false (Ea (Ci 0)))) (.cons (.wh (.pr true .eq (Eb (Ei (.v 7) (Ci 0)) (Ci 0))) (.cons (.iff (.or (.pr true .eq (Eb (Ei (.v 7) (.pr true .neg (Ea (Ci 1)))) (Ei (.v 1) (Ci 0)))) (.and (.pr true .gt (Eb (Ei (.v 7) (.pr true .neg (Ea (Ci 1)))) (Ci 0))) (.pr true .inn (Eb (.pr true .sub (Eb (.pr true .len (Ea (.v 7))) (Ci 1))) (.v 6))))) (.cons (.ex (.pop (.v 7))) (.cons (.iff (.pr true .eq (Eb (.v 7) (.lst true .nil))) (.cons (.ret (.c .non)) .nil) .nil) (.cons (.asg (.sub (.v 7) (.pr true .neg (Ea (Ci 1)))) (.pr true .add (Eb (Ei (.v 7) (.pr true .neg (Ea (Ci 1)))) (Ci 1)))) .nil))) (.cons (.asg (.nm 8) (.comp true (.v 0) [0] (.seq (Ei (.v 0) (Ci 1))) [7] 1 (.yes (.pr true .eq (Eb (Ei (.v 0) (Ci 1)) (.pr true .sub (Eb (.pr true .len (Ea (.v 1))) (Ci 1)))))))) (.cons (.asg (.nm 9) (.comp true (.v 0) [0] (.seq (.v 8)) [1,7] 1 (.yes (.pr true .lt (Eb (.call 30 (Ec (Ei (.v 1) (Ci 0)) (Ei (.v 2) (Ei (.v 0) (Ci 0))) (Ei (.v 2) (.pr true .neg (Ea (Ci 1)))))) (Ei (.v 1) (Ci 1))))))) (.cons (.iff (.pr true .ne (Eb (.v 9) (.lst true .nil))) (.cons (.asg (.sub (.v 7) (.pr true .neg (Ea (Ci 1)))) (.pr true .add (Eb (Ei (.v 7) (.pr true .neg (Ea (Ci 1)))) (Ci 1)))) .nil) (.cons (.iff (.pr true .eq (Eb (.pr true .len (Ea (.v 7))) (Ei (.v 0) (Ci 0)))) (.cons (.ret (.pr true .tuple (Ea (.v 7)))) .nil) (.cons (.ex (.push (.v 7) (Ci 0))) .nil)) .nil)) .nil)))) .nil)) (.cons (.ret (.c .non)) .nil))))))))
noncomputable def QL:cD:=(.cons (.asg (.tp [2,3]) (.v 1)) (.cons (.asg (.nm 4) (.call 21 (Eb (.v 0) (.pr true .add (Eb (.pr true .len (Ea (.v 3))) (Ci 1)))))) (.cons (.asg (.nm 5) (.lst true (.cons (.tup (Eb (Ci 0) (Ci 0))) (.cons (.tup (Eb (Ci 1) (Ci 0))) (.cons (.tup (Eb (Ci 0) (.v 2))) (.cons (.tup (Eb (.pr true .neg (Ea (Ci 1))) (Ci 0))) (.cons (.tup (Eb (.c (.bl false)) (.c (.bl true)))) (.cons (.tup (Eb (Ci 0) (.c (.bl true)))) (.cons (.tup (Ea (Ci 0))) (Ec (.tup (Ec (Ci 0) (Ci 1) (Ci 2))) (.lst true (Eb (Ci 0) (Ci 1))) (.c .non))))))))))) (.cons (.asg (.nm 6) (Ei (.v 5) (.call 21 (Eb (.v 0) (Ci 10))))) (.cons (.par 7 8 (.sl true (.v 3) .no (.yes (.v 4))) (.sl true (.v 3) (.yes (.pr true .add (Eb (.v 4) (Ci 1)))) .no)) (.cons (.iff (.pr true .eq (Eb (.call 21 (Eb (.v 0) (Ci 2))) (Ci 0))) (.cons (.asg (.nm 9) (.lst true (.cons (.pr true .add (Eb (.pr true .add (Eb (.v 7) (.tup (Ea (.v 6))))) (.v 8))) (.cons (.pr true .add (Eb (.pr true .add (Eb (.v 7) (.tup (Ea (.v 6))))) (.sl true (.v 3) (.yes (.v 4)) .no))) (Ec (.pr true .rev (Ea (.v 3))) (.pr true .list (Ea (.v 3))) (.pr true .add (Eb (.v 3) (.sl true (.v 3) .no (.yes (Ci 1)))))))))) (.cons (.asg (.nm 9) (.pr true .add (Eb (.v 9) (.lst true (.cons (.pr true .add (Eb (.v 7) (.v 8))) (Ec (.tup (Ea (.v 3))) (.pr true .add (Eb (.sl true (.v 3) (.yes (.v 4)) .no) (.v 7))) (.pr true .add (Eb (.pr true .add (Eb (.v 7) (.tup (Ea (.tup (Eb (Ci 0) (Ci 1))))))) (.sl true (.v 3) (.yes (.v 4)) .no))))))))) (.cons (.ret (.tup (Eb (.v 2) (Ei (.v 9) (.call 21 (Eb (.v 0) (Ci 9))))))) .nil))) .nil) (.cons (.asg (.nm 5) (.lst true (.cons (.tup (Eb (.pr true .add (Eb (.v 2) (Ci 1))) (.v 3))) (.cons (.tup (Eb (.pr true .sub (Eb (.v 2) (Ci 1))) (.v 3))) (.cons (.tup (Eb (.c (.bl true)) (.v 3))) (Ec (.tup (Eb (Ci 9) (.v 3))) (.tup (Eb (Ci 0) (.tup .nil))) (.tup (Eb (.c .non) (.v 3))))))))) (.cons (.asg (.nm 5) (.pr true .add (Eb (.v 5) (.lst true (.cons (.lst true (Eb (.v 2) (.v 3))) (.cons (.tup (Ec (.v 2) (.v 3) (Ci 0))) (.cons (.tup (Ea (.v 2))) (Ec (.tup (Eb (.pr true .str1 (Ea (.v 2))) (.v 3))) (.tup (Eb (.v 3) (.v 2))) (.v 3))))))))) (.cons (.ret (Ei (.v 5) (.call 21 (Eb (.v 0) (Ci 12))))) .nil)))))))))
noncomputable def QM:cD:=(.cons (.asg (.nm 3) (.call 21 (Eb (.v 0) (.pr true .add (Eb (.pr true .len (Ea (.v 1))) (Ci 1)))))) (.cons (.asg (.nm 4) (Ei (.lst true (.cons (.c (.bl true)) (.cons (.c (.bl false)) (.cons (.c .non) (.cons (.pr true .neg (Ea (Ci 1))) (.cons (.v 2) (Ec (.c (.str "0")) (.tup (Ea (Ci 0))) (.call 21 (Eb (.v 0) (.v 2)))))))))) (.call 21 (Eb (.v 0) (Ci 8))))) (.cons (.asg (.nm 5) (.lst true (.cons (.pr true .add (Eb (.pr true .add (Eb (.sl true (.v 1) .no (.yes (.v 3))) (.tup (Ea (.v 4))))) (.sl true (.v 1) (.yes (.pr true .add (Eb (.v 3) (Ci 1)))) .no))) (.cons (.pr true .add (Eb (.sl true (.v 1) .no (.yes (.v 3))) (.sl true (.v 1) (.yes (.pr true .add (Eb (.v 3) (Ci 1)))) .no))) (.cons (.pr true .add (Eb (.v 1) (.tup (Ea (Ci 0))))) (Ec (.pr true .list (Ea (.v 1))) (.c .non) (.tup (Ea (.v 1))))))))) (.cons (.ret (Ei (.v 5) (Ei (.lst true (.cons (Ci 0) (.cons (Ci 0) (.cons (Ci 0) (.cons (Ci 0) (.cons (Ci 1) (.cons (Ci 2) (Ec (Ci 3) (Ci 4) (Ci 5))))))))) (.call 21 (Eb (.v 0) (Ci 9)))))) .nil))))
noncomputable def QS:cD:=(.cons (.asg (.tp [2,3]) (.v 1)) (.cons (.asg (.nm 4) (.lst true (.cons (.tup (Eb (.v 2) (.pr true .add (Eb (.v 2) (Ci 1))))) (.cons (.tup (Eb (Ci 0) (Ci 0))) (.cons (.tup (Eb (Ci 25) (Ci 1))) (.cons (.tup (Eb (.v 2) (Ci 0))) (.cons (.tup (Eb (.c (.bl true)) (Ci 1))) (.cons (.tup (Ec (.v 2) (.v 3) (Ci 1))) (Ec (.lst true (Eb (.v 2) (.v 3))) (.tup (Ea (.v 2))) (.c .non)))))))))) (.cons (.ret (Ei (.pr true .add (Eb (.v 4) (.lst true (Ec (.tup (Eb (.v 3) (.v 2))) (.c (.str "5/2")) (.tup (Eb (.pr true .sub (Eb (Ci 0) (.v 2))) (.v 3))))))) (.call 21 (Eb (.v 0) (Ci 12))))) .nil)))
noncomputable def Kl:cD:=(.cons (.qD (.cons (.iff (.pr true .eq (Eb (.v 0) (Ci 0))) (.cons (.ret (.tup (Eb (.c (.str "told")) (.call 12 (.cons (.v 1) (Ec (.v 2) (.v 3) (.v 4))))))) .nil) .nil) (.cons (.ret (.tup (Eb (.c (.str "told")) (.call 13 (Ec (.v 1) (.v 2) (.v 3)))))) .nil)) 0 5 (.cons (.ret (.tup (Eb (.call 24 (Ea (.v 5))) (.c .non)))) .nil)) .nil)
noncomputable def QT:cD:=(.cons (.asg (.nm 4) (.c (.str "told"))) (.cons (.iff (.not (.call 27 (Ea (.v 0)))) (.cons (.asg (.nm 4) (.c (.str "web"))) .nil) (.cons (.iff (.not (.call 29 (Ea (.v 1)))) (.cons (.asg (.nm 4) (.c (.str "ring"))) .nil) (.cons (.iff (.not (.call 33 (Ec (.v 0) (.v 1) (.v 2)))) (.cons (.asg (.nm 4) (.c (.str "hues"))) .nil) .nil) .nil)) .nil)) (.cons (.fr (.nm 5) (.rg (Ci 0) (Ci 2)) (.cons (.asg (.tp [6,7]) (.call 38 (.cons (.v 5) (.cons (.v 0) (Ec (.v 1) (.v 2) (.v 3)))))) (.cons (.iff (.pr true .ne (Eb (.v 6) (.v 4))) (.cons (.ret (.c (.bl false))) .nil) .nil) (.cons (.iff (.pr true .eq (Eb (.v 4) (.c (.str "told")))) (.cons (.asg (.nm 8) (.lst false (Ea (.pr true .tuple (Ea (.comp true (.pr true .mod (Eb (.pr true .add (Eb (.v 0) (.v 1))) (Ei (.v 2) (Ci 0)))) [0] (.seq (.v 2)) [3,1] 1 .no)))))) (.cons (.ex (.push (.v 8) (.pr true .tuple (Ea (.comp true (.pr true .mod (Eb (.pr true .sub (Eb (Ei (.v 1) (Ci 0)) (.v 0))) (Ei (.v 1) (Ci 0)))) [0] (.seq (.v 2)) [1] 1 .no))))) (.cons (.iff (.or (.pr true .ne (Eb (.v 7) (Ei (.v 8) (.v 5)))) (.not (.call 32 (Ec (.v 7) (Ei (.v 0) (Ci 0)) (Ei (.v 1) (Ci 0)))))) (.cons (.ret (.c (.bl false))) .nil) .nil) (.cons (.iff (.pr true .ne (Eb (.call 38 (.cons (.v 5) (.cons (.v 0) (Ec (.v 1) (.v 2) (.v 3))))) (.tup (Eb (.v 6) (.v 7))))) (.cons (.ret (.c (.bl false))) .nil) .nil) .nil)))) .nil) .nil)))) (.cons (.ret (.c (.bl true))) .nil))))
noncomputable def QV:cD:=(.cons (.iff (.or (.not (.call 39 (.cons (.tup (Eb (Ci 2) (.tup (Ea (.tup (Eb (Ci 0) (Ci 1))))))) (Ec (.tup (Eb (Ci 3) (Ci 1))) (.tup (Eb (Ci 0) (Ci 2))) (.pr true .neg (Ea (Ci 1))))))) (.not (.call 39 (.cons (.tup (Eb (Ci 1) (.tup .nil))) (Ec (.tup (Eb (Ci 1) (Ci 1))) (.tup (Ea (Ci 0))) (Ci 5)))))) (.cons (.ret (.c (.bl false))) .nil) .nil) (.cons (.fr (.nm 1) (.seq (.pr true .add (Eb (.lst true (Ea (.call 19 (Eb (.v 0) (Ci 0))))) (.sl true (.v 0) (.yes (Ci 1)) (.yes (Ci 5)))))) (.cons (.asg (.nm 2) (.call 20 (Ea (.v 1)))) (.cons (.asg (.tp [3,4]) (.tup (Eb (.call 26 (Eb (.v 2) (.call 25 (Ea (.v 2))))) (.call 28 (Ea (.v 2)))))) (.cons (.iff (.and (.pr true .eq (Eb (Ei (.v 3) (Ci 0)) (Ci 8))) (.pr true .gt (Eb (Ei (.v 4) (Ci 0)) (Ci 7)))) (.cons (.asg (.nm 4) (.tup (Eb (Ci 7) (Ci 3)))) .nil) .nil) (.cons (.asg (.nm 5) (.pr true .tuple (Ea (.comp true (.call 21 (Eb (.v 1) (Ei (.v 2) (Ci 0)))) [0] (.rg (Ci 0) (Ei (.v 3) (Ci 0))) [2,4] 1 .no)))) (.cons (.asg (.nm 6) (.zG (.call 34 (Eb (.v 3) (.v 4))) (.v 5))) (.cons (.fr (.nm 7) (.seq (.lst true (.cons (.call 21 (Eb (.v 2) (Ci 30))) (Ec (.pr true .sub (Eb (.pr true .neg (Ea (Ci 1))) (.call 21 (Eb (.v 2) (Ci 30))))) (.pr true .add (Eb (.pr true .pow (Eb (Ci 10) (Ci 15))) (.call 21 (Eb (.v 2) (Ci 99))))) (Ci 0))))) (.cons (.iff (.or (.not (.call 39 (.cons (.v 3) (Ec (.v 4) (.v 6) (.v 7))))) (.not (.call 39 (.cons (.v 3) (Ec (.v 4) (.v 5) (.v 7)))))) (.cons (.ret (.c (.bl false))) .nil) .nil) .nil)) (.cons (.fr (.nm 8) (.seq (.lst true (Ec (.call 36 (Ec (.v 2) (.v 6) (Ei (.v 4) (Ci 0)))) (.call 36 (Ec (.v 2) (.v 6) (Ei (.v 4) (Ci 0)))) (.call 23 (Ea (.v 2)))))) (.cons (.iff (.not (.call 39 (.cons (.v 3) (Ec (.v 4) (.v 8) (Ci 1))))) (.cons (.ret (.c (.bl false))) .nil) .nil) .nil)) (.cons (.iff (.not (.call 39 (.cons (.call 35 (Eb (.v 2) (.v 3))) (Ec (.v 4) (.v 6) (Ci 1))))) (.cons (.ret (.c (.bl false))) .nil) .nil) (.cons (.iff (.not (.call 39 (.cons (.v 3) (Ec (.call 37 (Eb (.v 2) (.v 4))) (.v 6) (Ci 1))))) (.cons (.ret (.c (.bl false))) .nil) .nil) .nil)))))))))) (.cons (.ret (.c (.bl true))) .nil)))
noncomputable def T(n:Nat):Option Df:=([⟨1,1,b0⟩,⟨3,3,b1⟩,⟨2,2,b2⟩,⟨3,1,b3⟩,⟨2,2,b4⟩,⟨1,1,b5⟩,⟨4,3,b6⟩,⟨3,1,b7⟩,⟨1,1,b8⟩,⟨2,2,b9⟩,⟨4,2,b10⟩,⟨1,1,Kf⟩,⟨4,4,Kg⟩,⟨3,3,Kh⟩,⟨2,2,Qp⟩,⟨3,3,Qq⟩,⟨3,3,Qs⟩,⟨3,3,Cz⟩,⟨5,3,Qt⟩,⟨2,2,Qu⟩,⟨2,1,Qv⟩,⟨5,2,Qw⟩,⟨1,1,Xz⟩,⟨2,1,Qx⟩,⟨3,1,XD⟩,⟨1,1,Qy⟩,⟨5,2,Qz⟩,⟨2,1,QB⟩,⟨3,1,QC⟩,⟨1,1,QD⟩,⟨4,3,XH⟩,⟨3,3,QF⟩,⟨3,3,QG⟩,⟨3,3,QJ⟩,⟨10,2,QK⟩,⟨10,2,QL⟩,⟨6,3,QM⟩,⟨5,2,QS⟩,⟨6,5,Kl⟩,⟨9,4,QT⟩,⟨9,1,QV⟩]:List Df)[n]?
theorem T_0:T 0=some ⟨1,1,b0⟩:=rfl
theorem T_1:T 1=some ⟨3,3,b1⟩:=rfl
theorem XJ:T 2=some ⟨2,2,b2⟩:=rfl
theorem XM:T 3=some ⟨3,1,b3⟩:=rfl
theorem XQ:T 4=some ⟨2,2,b4⟩:=rfl
theorem QW:T 5=some ⟨1,1,b5⟩:=rfl
theorem T_6:T 6=some ⟨4,3,b6⟩:=rfl
theorem XR:T 7=some ⟨3,1,b7⟩:=rfl
theorem X3:T 8=some ⟨1,1,b8⟩:=rfl
theorem X4:T 9=some ⟨2,2,b9⟩:=rfl
theorem X5:T 10=some ⟨4,2,b10⟩:=rfl
theorem QX:T 11=some ⟨1,1,Kf⟩:=rfl
theorem QZ:T 12=some ⟨4,4,Kg⟩:=rfl
theorem Q0:T 13=some ⟨3,3,Kh⟩:=rfl
theorem X6:T 14=some ⟨2,2,Qp⟩:=rfl
theorem X7:T 15=some ⟨3,3,Qq⟩:=rfl
theorem X8:T 16=some ⟨3,3,Qs⟩:=rfl
theorem Hr:T 17=some ⟨3,3,Cz⟩:=rfl
theorem X_:T 18=some ⟨5,3,Qt⟩:=rfl
theorem Yb:T 19=some ⟨2,2,Qu⟩:=rfl
theorem Yc:T 20=some ⟨2,1,Qv⟩:=rfl
theorem Yd:T 21=some ⟨5,2,Qw⟩:=rfl
theorem zor:T 22=some ⟨1,1,Xz⟩:=rfl
theorem Ye:T 23=some ⟨2,1,Qx⟩:=rfl
theorem zok:T 24=some ⟨3,1,XD⟩:=rfl
theorem Yg:T 25=some ⟨1,1,Qy⟩:=rfl
theorem Yh:T 26=some ⟨5,2,Qz⟩:=rfl
theorem Yi:T 27=some ⟨2,1,QB⟩:=rfl
theorem Yj:T 28=some ⟨3,1,QC⟩:=rfl
theorem Yk:T 29=some ⟨1,1,QD⟩:=rfl
theorem zon:T 30=some ⟨4,3,XH⟩:=rfl
theorem Yl:T 31=some ⟨3,3,QF⟩:=rfl
theorem Ym:T 32=some ⟨3,3,QG⟩:=rfl
theorem Yn:T 33=some ⟨3,3,QJ⟩:=rfl
theorem Yo:T 34=some ⟨10,2,QK⟩:=rfl
theorem Yp:T 35=some ⟨10,2,QL⟩:=rfl
theorem Yq:T 36=some ⟨6,3,QM⟩:=rfl
theorem Yr:T 37=some ⟨5,2,QS⟩:=rfl
theorem Q5:T 38=some ⟨6,5,Kl⟩:=rfl
theorem Ys:T 39=some ⟨9,4,QT⟩:=rfl
theorem Yt:T 40=some ⟨9,1,QV⟩:=rfl
noncomputable def sub:Nat->Nat->Bool:=λc e=>(let n:=λc=>if c<12 then c else 0;n e==0||n c==n e)
end fK
namespace fK
open PySem PySem.Spec PyProof.Rows L2 Mi
abbrev LK(i:Nat)(x:Str)(k:NameKind):Prop:=(aq (top i)).names.lookup x=some k
noncomputable abbrev gI:NameKind:=.globalImplicit
theorem znZ:sub=jM 12:=rfl
noncomputable abbrev N7:List Str:=["thing","many","ties"]
noncomputable abbrev Yu:List Str:=["web","ring","hues","steps"]
noncomputable abbrev Yv:List Str:=["ring","hues"]
noncomputable abbrev Yw:List Str:=["web","ring","thing"]
noncomputable abbrev Q6:List Str:=["_law_pen_here","_law_many","_law_often","_law_ties","_law_one"]
noncomputable abbrev Yx:List Str:=["_law_thing","_law_tie"]
noncomputable abbrev Yy:List Str:=["_law_thing"]
noncomputable abbrev Yz:List Str:=["_law_web_here","_law_ring_here","_law_spots"]
noncomputable abbrev YB:List Str:=["_law_thing","_law_size_here","_law_k"]
noncomputable abbrev Hs:List Str:=["_law_web_here","_law_ring_here","_law_threes","_law_one","_law_other","_law_both_near","_law_loose","_law_row","_law_ties","_law_near"]
noncomputable abbrev Q7:List Str:=["_law_web_here","_law_ring_here","_law_hues","_law_steps","_law_word","_law_way","_law_told_here","_law_found","_law_due"]
noncomputable abbrev YC:List Str:=["_law_script","_law_cell_here","_law_pen_here","_law_web_here","_law_ring_here","_law_drawn","_law_first_here","_law_steps","_law_thing"]
noncomputable def cl(K:PySem.W.Frag):Cl:=⟨dR (lk.L K),λc=>(([[],[],[],[],[],[],[],[],[],["at"],["at"],["many","most"]]:List (List Str)).getD c [])⟩
theorem tx9:t_ "NoWeb.__init__" oh ["at"]:=t_.of (λ_ _ _ _ _ _ us hl=>bind1 (f:=λus=>bindArgs _ ⟨us,[]⟩) (λ_ _=>rfl) us hl) (by decide +kernel) (by intro z;cases z) (by decide) (by decide +kernel) (by decide +kernel) rfl rfl rfl
structure Top(K:PySem.W.Frag)(mg:Str->Option Value):Prop where
 cs:tH K (cl K) sub
 d0:D3 K mg "is_whole" (top 14) ["thing"]
 d1:D3 K mg "is_within" (top 15) ["thing","least","most"]
 d2:D3 K mg "is_row" (top 16) ["thing","many"]
 d3:D3 K mg "is_ring" (top 19) ["thing"]
 d4:D3 K mg "is_spot" (top 20) ["ring","thing"]
 d5:D3 K mg "check_ring" (top 21) ["thing"]
 d6:D3 K mg "gap_of" (top 22) ["ring","one","other"]
 d7:D3 K mg "is_web" (top 25) ["thing"]
 d8:D3 K mg "is_many" (top 26) ["thing"]
 d9:D3 K mg "is_place" (top 27) ["many","thing"]
 Q8:D3 K mg "is_tie" (top 28) ["many","thing"]
 Q9:D3 K mg "check_web" (top 29) ["thing"]
 Q_:D3 K mg "turned_on" (top 31) ["web","ring","hues","steps"]
 Ra:D3 K mg "mirrored_hues" (top 32) ["web","ring","hues"]
 Rb:D3 K mg "mirrored" (top 33) ["ring","hues"]
 Rf:D3 K mg "are_spots" (top 34) ["web","ring","thing"]
 Rg:D3 K mg "are_hues" (top 35) ["web","ring","thing"]
 Km:D3 K mg "check_hues" (top 36) ["web","ring","thing"]
 Rh:D3 K mg "clash_of" (top 37) ["web","ring","spots"]
 Ri:D3 K mg "_law_cell" (top 39) ["_law_script","_law_k"]
 Rj:D3 K mg "_law_pen" (top 40) ["_law_cell_here"]
 jH:D3 K mg "_law_draw" (top 41) ["_law_pen_here","_law_many"]
 CG:D3 K mg "_law_whole" (top 42) ["_law_thing"]
 Rm:D3 K mg "_law_odd" (top 43) ["_law_pen_here"]
 Rn:D3 K mg "_law_kind" (top 44) ["_law_e"]
 Ro:D3 K mg "_law_size" (top 45) ["_law_pen_here"]
 Rp:D3 K mg "_law_web" (top 46) ["_law_pen_here","_law_many"]
 Rq:D3 K mg "_law_is_web" (top 47) ["_law_thing"]
 Rr:D3 K mg "_law_ring" (top 48) ["_law_pen_here"]
 Rt:D3 K mg "_law_is_ring" (top 49) ["_law_thing"]
 Ko:D3 K mg "_law_apart" (top 50) ["_law_k","_law_one","_law_other"]
 Ru:D3 K mg "_law_fit_spots" (top 51) ["_law_web_here","_law_ring_here","_law_spots"]
 Kp:D3 K mg "_law_are_spots" (top 52) ["_law_thing","_law_size_here","_law_k"]
 Rw:D3 K mg "_law_are_hues" (top 53) ["_law_web_here","_law_ring_here","_law_thing"]
 Rx:D3 K mg "_law_first" (top 54) ["_law_web_here","_law_ring_here"]
 Ry:D3 K mg "_law_bent_web" (top 55) ["_law_pen_here","_law_web_here"]
 Kq:D3 K mg "_law_bent_row" (top 56) ["_law_pen_here","_law_row","_law_k"]
 RB:D3 K mg "_law_bent_ring" (top 57) ["_law_pen_here","_law_ring_here"]
 Kr:D3 K mg "_law_told" (top 58) ["_law_way","_law_web_here","_law_ring_here","_law_hues","_law_steps"]
 wM:D3 K mg "_law_right" (top 59) ["_law_web_here","_law_ring_here","_law_hues","_law_steps"]
 Ks:D3 K mg "law" (top 60) ["_law_script"]
 c0:mg "HueError"=some (.ref ((cl K).a 0))
 c1:mg "NoRing"=some (.ref ((cl K).a 1))
 c2:mg "NoHues"=some (.ref ((cl K).a 2))
 c3:mg "NoPlace"=some (.ref ((cl K).a 3))
 c4:mg "NoArrows"=some (.ref ((cl K).a 4))
 c5:mg "NoMap"=some (.ref ((cl K).a 5))
 c6:mg "NoPaper"=some (.ref ((cl K).a 6))
 c7:mg "Apart"=some (.ref ((cl K).a 7))
 c8:mg "NoRow"=some (.ref ((cl K).a 8))
 c9:mg "NoWeb"=some (.ref ((cl K).a 9))
 YD:mg "NoText"=some (.ref ((cl K).a 10))
 YF:mg "TooGreat"=some (.ref ((cl K).a 11))
 x1:PySem.W.excIn K ((cl K).a 1) [.type "ValueError",.type "Exception",.type "BaseException",.type "object"] "ValueError.__new__"=true
 x2:PySem.W.excIn K ((cl K).a 2) [.type "ValueError",.type "Exception",.type "BaseException",.type "object"] "ValueError.__new__"=true
 i9:jU K ((cl K).a 9) (aO oh) (aK oh) (aq oh) ((cl K).f 9)
 s0:∀c,sub c 0=true->subIn K ((cl K).a c) ((cl K).a 0)=true
 iJ:∃t,mg "MOST_SPOTS"=some (.int 24 t)
 gG:∃t,mg "MOST_PLACES"=some (.int 8 t)
 YG:mg "ValueError"=none
 z6:mg "abs"=none
 z8:mg "all"=none
 z2:mg "bool"=none
 YH:mg "divmod"=none
 z1:mg "int"=none
 z0:mg "isinstance"=none
 z4:mg "len"=none
 Ku:mg "list"=none
 z9:mg "max"=none
 z5:mg "min"=none
 Ax:mg "range"=none
 YJ:mg "set"=none
 RD:mg "sorted"=none
 YK:mg "str"=none
 z3:mg "tuple"=none
 z7:mg "zip"=none
theorem zmj{K:PySem.W.Frag}{h:Heap}{mg:Str->Option Value}(S:iD fs ms xs lk K)(X:K.In h)(G:h.Ns mainGlobals mg):Top K mg where
 cs:=by
  rcases S.gd.cs with z|z
  ·cases z
  ·exact zi6 (Nat.zero_lt_succ _) z
 d0:=oW S X G 0
 d1:=rD S X G 1
 d2:=uc S X G 2
 d3:=oW S X G 3
 d4:=uc S X G 4
 d5:=oW S X G 5
 d6:=rD S X G 6
 d7:=oW S X G 7
 d8:=oW S X G 8
 d9:=uc S X G 9
 Q8:=uc S X G 10
 Q9:=oW S X G 11
 Q_:=V2 S X G 12
 Ra:=rD S X G 13
 Rb:=uc S X G 14
 Rf:=rD S X G 15
 Rg:=rD S X G 16
 Km:=rD S X G 17
 Rh:=rD S X G 18
 Ri:=uc S X G 19
 Rj:=oW S X G 20
 jH:=uc S X G 21
 CG:=oW S X G 22
 Rm:=oW S X G 23
 Rn:=oW S X G 24
 Ro:=oW S X G 25
 Rp:=uc S X G 26
 Rq:=oW S X G 27
 Rr:=oW S X G 28
 Rt:=oW S X G 29
 Ko:=rD S X G 30
 Ru:=rD S X G 31
 Kp:=rD S X G 32
 Rw:=rD S X G 33
 Rx:=uc S X G 34
 Ry:=uc S X G 35
 Kq:=rD S X G 36
 RB:=uc S X G 37
 Kr:=zoo S X G 38
 wM:=V2 S X G 39
 Ks:=oW S X G 40
 c0:=rC (S.gd.cl "HueError" (mG 0)) X G
 c1:=rC (S.gd.cl "NoRing" (mG 1)) X G
 c2:=rC (S.gd.cl "NoHues" (mG 2)) X G
 c3:=rC (S.gd.cl "NoPlace" (mG 3)) X G
 c4:=rC (S.gd.cl "NoArrows" (mG 4)) X G
 c5:=rC (S.gd.cl "NoMap" (mG 5)) X G
 c6:=rC (S.gd.cl "NoPaper" (mG 6)) X G
 c7:=rC (S.gd.cl "Apart" (mG 7)) X G
 c8:=rC (S.gd.cl "NoRow" (mG 8)) X G
 c9:=rC (S.gd.cl "NoWeb" (mG 9)) X G
 YD:=rC (S.gd.cl "NoText" (mG 10)) X G
 YF:=rC (S.gd.cl "TooGreat" (mG 11)) X G
 x1:=S.gd.ra 1 (mG 0)
 x2:=S.gd.ra 2 (mG 1)
 i9:=ziU (S.mi ⟨9,"NoWeb.__init__",oh,["at"]⟩ (mG 0)) tx9 (S.se ⟨9,"NoWeb.__init__",oh,["at"]⟩ (mG 0))
 s0:=zjW (L:=lk.L K) (Nat.zero_lt_succ _) (S.gd.ca 0 (mG 0))
 iJ:=VL (S.gd.it ("MOST_SPOTS",24) (mG 0)) X G
 gG:=VL (S.gd.it ("MOST_PLACES",8) (mG 1)) X G
 YG:=nA (S.gd.no "ValueError" (mG 0)) X G
 z6:=nA (S.gd.no "abs" (mG 1)) X G
 z8:=nA (S.gd.no "all" (mG 2)) X G
 z2:=nA (S.gd.no "bool" (mG 3)) X G
 YH:=nA (S.gd.no "divmod" (mG 4)) X G
 z1:=nA (S.gd.no "int" (mG 5)) X G
 z0:=nA (S.gd.no "isinstance" (mG 6)) X G
 z4:=nA (S.gd.no "len" (mG 7)) X G
 Ku:=nA (S.gd.no "list" (mG 8)) X G
 z9:=nA (S.gd.no "max" (mG 9)) X G
 z5:=nA (S.gd.no "min" (mG 10)) X G
 Ax:=nA (S.gd.no "range" (mG 11)) X G
 YJ:=nA (S.gd.no "set" (mG 12)) X G
 RD:=nA (S.gd.no "sorted" (mG 13)) X G
 YK:=nA (S.gd.no "str" (mG 14)) X G
 z3:=nA (S.gd.no "tuple" (mG 15)) X G
 z7:=nA (S.gd.no "zip" (mG 16)) X G
abbrev FO(P:Program)(w:World)(K:PySem.W.Frag)(mg:Str->Option Value)(base:Heap)(k:Nat)(c:Bool)(x:Str)(i:Nat)(ps:List Str)(n:Nat):Prop:=fM P w K mg base (lU P w) c k (jz K x) (fdOf K x (top i)) ps (uN K (cl K) (call sub T k c n))
structure Fs(P:Program)(w:World)(K:PySem.W.Frag)(mg:Str->Option Value)(base:Heap)(k:Nat):Prop where
 t0:FO P w K mg base k true "is_whole" 14 ["thing"] 0
 t1:FO P w K mg base k true "is_within" 15 ["thing","least","most"] 1
 t2:FO P w K mg base k true "is_row" 16 ["thing","many"] 2
 t3:FO P w K mg base k true "is_ring" 19 ["thing"] 3
 t4:FO P w K mg base k true "is_spot" 20 ["ring","thing"] 4
 t5:FO P w K mg base k true "check_ring" 21 ["thing"] 5
 t6:FO P w K mg base k true "gap_of" 22 ["ring","one","other"] 6
 t7:FO P w K mg base k true "is_web" 25 ["thing"] 7
 t8:FO P w K mg base k true "is_many" 26 ["thing"] 8
 t9:FO P w K mg base k true "is_place" 27 ["many","thing"] 9
 t10:FO P w K mg base k true "is_tie" 28 ["many","thing"] 10
 t11:FO P w K mg base k true "check_web" 29 ["thing"] 11
 YL:FO P w K mg base k true "turned_on" 31 ["web","ring","hues","steps"] 12
 YM:FO P w K mg base k true "mirrored_hues" 32 ["web","ring","hues"] 13
 YQ:FO P w K mg base k true "mirrored" 33 ["ring","hues"] 14
 YS:FO P w K mg base k true "are_spots" 34 ["web","ring","thing"] 15
 YT:FO P w K mg base k true "are_hues" 35 ["web","ring","thing"] 16
 RG:FO P w K mg base k true "check_hues" 36 ["web","ring","thing"] 17
 YW:FO P w K mg base k true "clash_of" 37 ["web","ring","spots"] 18
 YX:FO P w K mg base k true "_law_cell" 39 ["_law_script","_law_k"] 19
 YZ:FO P w K mg base k true "_law_pen" 40 ["_law_cell_here"] 20
 kh:FO P w K mg base k true "_law_draw" 41 ["_law_pen_here","_law_many"] 21
 Ht:FO P w K mg base k true "_law_whole" 42 ["_law_thing"] 22
 Y0:FO P w K mg base k true "_law_odd" 43 ["_law_pen_here"] 23
 Y4:FO P w K mg base k false "_law_kind" 44 ["_law_e"] 24
 Y5:FO P w K mg base k true "_law_size" 45 ["_law_pen_here"] 25
 Y6:FO P w K mg base k true "_law_web" 46 ["_law_pen_here","_law_many"] 26
 Y7:FO P w K mg base k true "_law_is_web" 47 ["_law_thing"] 27
 Y8:FO P w K mg base k true "_law_ring" 48 ["_law_pen_here"] 28
 Y9:FO P w K mg base k true "_law_is_ring" 49 ["_law_thing"] 29
 RJ:FO P w K mg base k true "_law_apart" 50 ["_law_k","_law_one","_law_other"] 30
 Y_:FO P w K mg base k true "_law_fit_spots" 51 ["_law_web_here","_law_ring_here","_law_spots"] 31
 RK:FO P w K mg base k true "_law_are_spots" 52 ["_law_thing","_law_size_here","_law_k"] 32
 Za:FO P w K mg base k true "_law_are_hues" 53 ["_law_web_here","_law_ring_here","_law_thing"] 33
 Zb:FO P w K mg base k true "_law_first" 54 ["_law_web_here","_law_ring_here"] 34
 Zc:FO P w K mg base k true "_law_bent_web" 55 ["_law_pen_here","_law_web_here"] 35
 RL:FO P w K mg base k true "_law_bent_row" 56 ["_law_pen_here","_law_row","_law_k"] 36
 Zd:FO P w K mg base k true "_law_bent_ring" 57 ["_law_pen_here","_law_ring_here"] 37
 RM:FO P w K mg base k true "_law_told" 58 ["_law_way","_law_web_here","_law_ring_here","_law_hues","_law_steps"] 38
 yE:FO P w K mg base k true "_law_right" 59 ["_law_web_here","_law_ring_here","_law_hues","_law_steps"] 39
 Ze:FO P w K mg base k true "law" 60 ["_law_script"] 40
section
variable {P:Program}{w:World}{K:PySem.W.Frag}{mg:Str->Option Value}{base:Heap}{k:Nat}
theorem ziQ(Tp:Top K mg)(Fk:Fs P w K mg base k):Fs P w K mg base (k+1) where
 t0:=fJ Tp.d0 ["thing"] T_0 λ_ _ _ _ _ _ hr=>(aF (bL (tU (j8 Tp.cs Tp.z0 gk (gv 0) (rA rfl Tp.z1 Vp gk dk)) (tR (Vw (j8 Tp.cs Tp.z0 gk (gv 0) (rA rfl Tp.z2 Vq gk dk))))))
 aL)
 t1:=fJ Tp.d1 ["thing","least","most"] T_1 λ_ _ _ _ _ _ hr=>(aF (bL (tU (gc Fk.t0 Tp.d0 hr bH gk (ao (gv 0) aB)) (tR (Vy wB wB (gv 1) (gv 0) (gv 2)))))
 aL)
 t2:=fJ Tp.d2 ["thing","many"] XJ λ_ _ _ _ _ _ hr=>(aF (bL (tU (j8 Tp.cs Tp.z0 gk (gv 0) (rA rfl Tp.z3 yc gk dk)) (tR (Cd (oU hr) (tZ Tp.z4 gk (ao (gv 0) aB)) (gv 1)))))
 aL)
 t3:=fJ Tp.d3 ["thing","k","d"] XM λ_ _ _ _ _ _ hr=>(aF (dX (gM (iC (gc Fk.t2 Tp.d2 hr bH gk (ao (gv 0) (ao aA aB))))) (aF (bL gF)
 aL) aL)
 (aF (yg 1 2 rfl rfl nd rfl rfl jl jl rfl rfl (gv 0))
 (aF (bL (tU (gc Fk.t1 Tp.d1 hr bH gk (ao (gv 1) (ao aA (ao (Vu Tp.iJ gk dk) aB)))) (tR (gc Fk.t1 Tp.d1 hr bH gk (ao (gv 2) (ao aA (ao (gv 1) aB)))))))
 aL)))
 t4:=fJ Tp.d4 ["ring","thing"] XQ λ_ _ _ _ _ _ hr=>(aF (bL (gc Fk.t1 Tp.d1 hr bH gk (ao (gv 1) (ao aA (ao (bF nq (bx (gv 0) aA) aA) aB)))))
 aL)
 t5:=fJ Tp.d5 ["thing"] QW λ_ _ _ _ _ _ hr=>(aF (dX (gM (iC (gc Fk.t3 Tp.d3 hr bH gk (ao (gv 0) aB)))) (aF (VJ rfl rfl rfl Tp.x1 Tp.c1 gk bH (ao jk aB) dk)
 aL) aL)
 aL)
 t6:=fJ Tp.d6 ["ring","one","other","gap"] T_6 λ_ _ _ _ _ _ hr=>(aF (eY 3 nd rfl jl rfl (Vz Tp.z6 gk (ao (bF nq (gv 1) (gv 2)) aB)))
 (aF (bL (VD rfl Tp.z5 gk (ao (gv 3) (ao (bF nq (bx (gv 0) aA) (gv 3)) aB))))
 aL))
 t7:=fJ Tp.d7 N7 XR λ_ _ _ _ _ _ hr=>(aF (dX (gM (iC (gc Fk.t2 Tp.d2 hr bH gk (ao (gv 0) (ao aA aB))))) (aF (bL gF)
 aL) aL)
 (aF (yg 1 2 rfl rfl nd rfl rfl jc jl rfl rfl (gv 0))
 (aF (dX (oV (pY (gM (iC (gc Fk.t8 Tp.d8 hr bH gk (ao (gv 1) aB)))) (uQ (gM (iC (j8 Tp.cs Tp.z0 gk (gv 2) (rA rfl Tp.z3 yc gk dk))))))) (aF (bL gF)
 aL) aL)
 (aF (dX (gM (iC (Ce rfl Tp.z8 gk (ao (pZ (aq (top 25)) N7 ["tie"] ["many"] [1] rfl rfl rfl (by decide +kernel) (by decide +kernel) (m_ 0) (by decide +kernel) (lE (gv 2)) (λ_ _ _ _ _ _=>(nu 0 (by decide +kernel) rfl (by decide +kernel))) (λ_ _ _ _ _ _=>rB) (λ_ _ _ _ _ _=>(gc Fk.t10 Tp.Q8 hr uR uY (ao (cj 1) (ao (cj 0) aB))))) aB)))) (aF (bL gF)
 aL) aL)
 (aF (bL (Ce rfl Tp.z8 gk (ao (pZ (aq (top 25)) N7 ["tie","later"] [] [] rfl rfl rfl (by decide +kernel) (by decide +kernel) (Oe 0 1) (by decide +kernel) (znD Tp.z7 gk (gv 2) (rz (gv 2) (qJ aA) tX)) (λ_ _ _ _ _ _=>(VG 0 1 rfl (by decide +kernel) rfl rfl (by decide +kernel) (by decide +kernel))) (λ_ _ _ _ _ _=>rB) (λ_ _ _ _ _ _=>(Cd (rm hr) (cj 0) (cj 1)))) aB)))
 aL)))))
 t8:=fJ Tp.d8 ["thing"] X3 λ_ _ _ _ _ _ hr=>(aF (bL (gc Fk.t1 Tp.d1 hr bH gk (ao (gv 0) (ao aA (ao (Vu Tp.gG gk dk) aB)))))
 aL)
 t9:=fJ Tp.d9 ["many","thing"] X4 λ_ _ _ _ _ _ hr=>(aF (bL (gc Fk.t1 Tp.d1 hr bH gk (ao (gv 1) (ao aA (ao (bF nq (gv 0) aA) aB)))))
 aL)
 t10:=fJ Tp.Q8 ["many","thing","one","other"] X5 λ_ _ _ _ _ _ hr=>(aF (dX (gM (iC (gc Fk.t2 Tp.d2 hr bH gk (ao (gv 1) (ao aA aB))))) (aF (bL gF)
 aL) aL)
 (aF (yg 2 3 rfl rfl nd rfl rfl jl jl rfl rfl (gv 1))
 (aF (bL (tU (gc Fk.t9 Tp.d9 hr bH gk (ao (gv 0) (ao (gv 2) aB))) (tU (gc Fk.t9 Tp.d9 hr bH gk (ao (gv 0) (ao (gv 3) aB))) (tR (Cd (rm hr) (gv 2) (gv 3))))))
 aL)))
 t11:=fJ Tp.Q9 ["thing"] QX λ_ _ _ _ _ _ hr=>(aF (dX (gM (iC (gc Fk.t7 Tp.d7 hr bH gk (ao (gv 0) aB)))) (aF (zhS (kk:=.globalImplicit) hr rfl rfl Tp.i9 Tp.c9 gk bH (ao (pX aA) aB) dk)
 aL) aL)
 aL)
 YL:=fJ Tp.Q_ Yu QZ λ_ _ _ _ _ _ hr=>(aF (Ab (gc Fk.RG Tp.Km hr bH gk (ao (gv 0) (ao (gv 1) (ao (gv 2) aB)))))
 (aF (bL (zY Tp.z3 gk (ao (pZ (aq (top 31)) Yu ["spot"] ["steps","ring"] [3,1] rfl rfl rfl (by decide +kernel) (by decide +kernel) (m_ 0) (by decide +kernel) (lE (gv 2)) (λ_ _ _ _ _ _=>(nu 0 (by decide +kernel) rfl (by decide +kernel))) (λ_ _ _ _ _ _=>rB) (λ_ _ _ _ _ _=>(bF uP (bF eE (cj 0) (cj 1)) (bx (cj 2) aA)))) aB)))
 aL))
 YM:=fJ Tp.Ra ["web","ring","hues"] Q0 λ_ _ _ _ _ _ hr=>(aF (Ab (gc Fk.RG Tp.Km hr bH gk (ao (gv 0) (ao (gv 1) (ao (gv 2) aB)))))
 (aF (bL (gc Fk.YQ Tp.Rb hr bH gk (ao (gv 1) (ao (gv 2) aB))))
 aL))
 YQ:=fJ Tp.Rb Yv X6 λ_ _ _ _ _ _ hr=>(aF (bL (zY Tp.z3 gk (ao (pZ (aq (top 33)) Yv ["spot"] ["ring"] [0] rfl rfl rfl (by decide +kernel) (by decide +kernel) (m_ 0) (by decide +kernel) (lE (gv 1)) (λ_ _ _ _ _ _=>(nu 0 (by decide +kernel) rfl (by decide +kernel))) (λ_ _ _ _ _ _=>rB) (λ_ _ _ _ _ _=>(bF uP (pX (cj 0)) (bx (cj 1) aA)))) aB)))
 aL)
 YS:=fJ Tp.Rf Yw X7 λ_ _ _ _ _ _ hr=>(aF (bL (tU (gc Fk.t2 Tp.d2 hr bH gk (ao (gv 2) (ao (bx (gv 0) aA) aB))) (tR (Ce rfl Tp.z8 gk (ao (pZ (aq (top 34)) Yw ["spot"] ["ring"] [1] rfl rfl rfl (by decide +kernel) (by decide +kernel) (m_ 0) (by decide +kernel) (lE (gv 2)) (λ_ _ _ _ _ _=>(nu 0 (by decide +kernel) rfl (by decide +kernel))) (λ_ _ _ _ _ _=>rB) (λ_ _ _ _ _ _=>(gc Fk.t4 Tp.d4 hr uR uY (ao (cj 1) (ao (cj 0) aB))))) aB)))))
 aL)
 YT:=fJ Tp.Rg ["web","ring","thing"] X8 λ_ _ _ _ _ _ hr=>(aF (bL (tU (gc Fk.YS Tp.Rf hr bH gk (ao (gv 0) (ao (gv 1) (ao (gv 2) aB)))) (tR (znB (gc Fk.YW Tp.Rh hr bH gk (ao (gv 0) (ao (gv 1) (ao (gv 2) aB))))))))
 aL)
 RG:=fJ Tp.Km ["web","ring","thing"] Hr λ_ _ _ _ _ _ hr=>(aF (Ab (gc Fk.t11 Tp.Q9 hr bH gk (ao (gv 0) aB)))
 (aF (Ab (gc Fk.t5 Tp.d5 hr bH gk (ao (gv 1) aB)))
 (aF (dX (gM (iC (gc Fk.YT Tp.Rg hr bH gk (ao (gv 0) (ao (gv 1) (ao (gv 2) aB)))))) (aF (VJ rfl rfl rfl Tp.x2 Tp.c2 gk bH (ao jk aB) dk)
 aL) aL)
 aL)))
 YW:=fJ Tp.Rh ["web","ring","spots","one","other"] X_ λ_ _ _ _ _ _ hr=>(aF (yh wC rfl rfl (lE (bx (gv 0) aA)) (VH 3 4 rfl rfl nd rfl rfl jl jl rfl rfl) (aF (dX (fH (rm hr) (gc Fk.t6 Tp.d6 hr bH gk (ao (gv 1) (ao (bx (gv 2) (gv 3)) (ao (bx (gv 2) (gv 4)) aB)))) (bx (gv 1) aA)) (aF (bL (bA (ao (gv 3) (ao (gv 4) aB))))
 aL) aL)
 aL))
 (aF (bL q_)
 aL))
 YX:=fJ Tp.Ri ["_law_script","_law_k"] Yb λ_ _ _ _ _ _ hr=>(aF (dX (fH (rm hr) (gv 1) (tZ Tp.z4 gk (ao (gv 0) aB))) (aF (bL (bx (gv 0) (gv 1)))
 aL) aL)
 (aF (bL aA)
 aL))
 YZ:=fJ Tp.Rj ["_law_cell_here","_law_left"] Yc λ_ _ _ _ _ _ hr=>(aF (eY 1 nd rfl jl rfl (VB rfl Tp.z9 gk (ao (gv 0) (ao (bF nq aA (gv 0)) aB))))
 (aF (bL (fB (ao (gv 1) (ao (zmq Tp.z1 gk (ao (Cd zom (gv 1) (bF Ol aA aA)) aB)) aB))))
 aL))
 kh:=fJ Tp.jH ["_law_pen_here","_law_many","_law_left","_law_found","_law_stir"] Yd λ_ _ _ _ _ _ hr=>(aF (dX (fH (oU hr) (bx (gv 0) aA) aA) (aF (yg 2 3 rfl rfl nd rfl rfl jl jl rfl rfl (zh0 Tp.YH gk (ao (bx (gv 0) aA) (ao (gv 1) aB))))
 (aF (Jx (gv 0) aA (gv 2))
 (aF (bL (gv 3))
 aL))) aL)
 (aF (eY 4 nd rfl jl rfl (bF uP (bF Gu (bF eE (bF uP (bx (gv 0) aA) aA) aA) aA) aA))
 (aF (eY 4 nd rfl jl rfl (bF uP (bF eE (bF Gu (gv 4) (gv 4)) aA) aA))
 (aF (Jx (gv 0) aA (bF uP (bF eE (bF Gu (gv 4) aA) aA) aA))
 (aF (bL (bF uP (bF Vv (bx (gv 0) aA) aA) (gv 1)))
 aL)))))
 Ht:=fJ Tp.CG ["_law_thing"] zor λ_ _ _ _ _ _ hr=>(aF (bL (tU (j8 Tp.cs Tp.z0 gk (gv 0) (rA rfl Tp.z1 Vp gk dk)) (tR (Vw (j8 Tp.cs Tp.z0 gk (gv 0) (rA rfl Tp.z2 Vq gk dk))))))
 aL)
 Y0:=fJ Tp.Rm ["_law_pen_here","_law_some"] Ye λ_ _ _ _ _ _ hr=>(aF (eY 1 nd rfl jl rfl (fB (ao q_ (ao gF (ao gF (ao (pX aA) (ao jk (ao jk (ao (bA aB) (ao (fB aB) (ao (bA (ao aA aB)) (ao (fB (ao aA aB)) (ao zmc (ao (bA (ao aA (ao aA aB))) (ao (bF Ol aA aA) (ao (bA (ao aA (ao (bA aB) aB))) (ao (bA (ao jk aB)) aB)))))))))))))))))
 (aF (bL (bx (bF eE (gv 1) (fB (ao (bA (ao aA (ao (bA (ao (bA (ao aA (ao aA aB))) aB)) aB))) aB))) (gc Fk.kh Tp.jH hr bH gk (ao (gv 0) (ao aA aB)))))
 aL))
 Y4:=fJ Tp.Rn ["_law_e","_law_marks","_law_words"] zok λ_ _ _ _ _ _ hr=>(aF (eY 1 nd rfl jl rfl (fB (ao (j8 Tp.cs Tp.z0 gk (gv 0) (tY Tp.c1 gk dk)) (ao (j8 Tp.cs Tp.z0 gk (gv 0) (tY Tp.c2 gk dk)) (ao (j8 Tp.cs Tp.z0 gk (gv 0) (tY Tp.c3 gk dk)) (ao (j8 Tp.cs Tp.z0 gk (gv 0) (tY Tp.c4 gk dk)) aB))))))
 (aF (eY 1 nd rfl jl rfl (bF eE (gv 1) (fB (ao (j8 Tp.cs Tp.z0 gk (gv 0) (tY Tp.c5 gk dk)) (ao (j8 Tp.cs Tp.z0 gk (gv 0) (tY Tp.c6 gk dk)) (ao (j8 Tp.cs Tp.z0 gk (gv 0) (tY Tp.c7 gk dk)) (ao (j8 Tp.cs Tp.z0 gk (gv 0) (tY Tp.c8 gk dk)) aB)))))))
 (aF (eY 1 nd rfl jl rfl (bF eE (gv 1) (fB (ao (j8 Tp.cs Tp.z0 gk (gv 0) (tY Tp.c9 gk dk)) (ao (j8 Tp.cs Tp.z0 gk (gv 0) (tY Tp.YD gk dk)) (ao (j8 Tp.cs Tp.z0 gk (gv 0) (tY Tp.YF gk dk)) aB))))))
 (aF (dX (oV (pY (gM (iC (j8 Tp.cs Tp.z0 gk (gv 0) (rA rfl Tp.YG zcE gk dk)))) (uQ (fH (tV hr) (zjv (gv 1) (ao gF aB)) aA)))) (aF (bL jk)
 aL) aL)
 (aF (eY 2 nd rfl jl rfl (fB (ao jk (ao jk (ao jk (ao jk (ao jk (ao jk (ao jk (ao jk (ao jk (ao jk (ao jk aB)))))))))))))
 (aF (bL (bx (gv 2) (ziO (gv 1) (ao gF aB))))
 aL))))))
 Y5:=fJ Tp.Ro ["_law_pen_here"] Yg λ_ _ _ _ _ _ hr=>(aF (bL (bx (fB (ao aA (ao aA (ao aA (ao aA (ao aA (ao aA (ao aA (ao aA (ao aA (ao aA (ao aA (ao aA aB))))))))))))) (gc Fk.kh Tp.jH hr bH gk (ao (gv 0) (ao aA aB)))))
 aL)
 Y6:=fJ Tp.Rp Q6 Yh λ_ _ _ _ _ _ hr=>(aF (eY 2 nd rfl jc rfl (bx (fB (ao aA (ao aA (ao aA aB)))) (gc Fk.kh Tp.jH hr bH gk (ao (gv 0) (ao aA aB)))))
 (aF (eY 3 nd rfl jl rfl (fB aB))
 (aF (yh wC rfl rfl (Gy Tp.Ax gk (gv 1)) (Cm 4 nd rfl jc rfl) (aF (eY 3 nd rfl jl rfl (bF eE (gv 3) (pZ (aq (top 46)) Q6 ["_law_other"] ["_law_one","_law_pen_here","_law_often"] [4,0,2] rfl rfl rfl (by decide +kernel) (by decide +kernel) (m_ 0) (by decide +kernel) (zop Tp.Ax gk (bF eE (gv 4) aA) (gv 1)) (λ_ _ _ _ _ _=>(nu 0 (by decide +kernel) rfl (by decide +kernel))) (λ_ _ _ _ _ _=>(zZ (fH (rm hr) (gc Fk.kh Tp.jH hr uR uY (ao (cj 2) (ao aA aB))) (cj 3)))) (λ_ _ _ _ _ _=>(bA (ao (cj 1) (ao (cj 0) aB)))))))
 aL))
 (aF (bL (bA (ao (gv 1) (ao (zY Tp.z3 gk (ao (zhD Tp.RD gk (ao (pZ (aq (top 46)) Q6 ["_law_one","_law_other"] ["_law_many"] [1] rfl rfl rfl (by decide +kernel) (by decide +kernel) (Oe 0 1) (by decide +kernel) (lE (gv 3)) (λ_ _ _ _ _ _=>(VG 0 1 rfl (by decide +kernel) rfl rfl (by decide +kernel) (by decide +kernel))) (λ_ _ _ _ _ _=>rB) (λ_ _ _ _ _ _=>(bA (ao (bF nq (bF nq (cj 2) aA) (cj 1)) (ao (bF nq (bF nq (cj 2) aA) (cj 0)) aB))))) aB)) aB)) aB))))
 aL))))
 Y7:=fJ Tp.Rq Yx Yi λ_ _ _ _ _ _ hr=>(aF (dX (oV (pY (gM (iC (j8 Tp.cs Tp.z0 gk (gv 0) (rA rfl Tp.z3 yc gk dk)))) (pY (fH (tV hr) (tZ Tp.z4 gk (ao (gv 0) aB)) aA) (pY (gM (iC (gc Fk.Ht Tp.CG hr bH gk (ao (bx (gv 0) aA) aB)))) (uQ (gM (zm6 wB wB aA (bx (gv 0) aA) aA))))))) (aF (bL gF)
 aL) aL)
 (aF (dX (gM (iC (j8 Tp.cs Tp.z0 gk (bx (gv 0) aA) (rA rfl Tp.z3 yc gk dk)))) (aF (bL gF)
 aL) aL)
 (aF (yh wC rfl rfl (lE (bx (gv 0) aA)) (Cm 1 nd rfl jl rfl) (aF (dX (oV (pY (gM (iC (j8 Tp.cs Tp.z0 gk (gv 1) (rA rfl Tp.z3 yc gk dk)))) (pY (fH (tV hr) (tZ Tp.z4 gk (ao (gv 1) aB)) aA) (uQ (gM (iC (Ce rfl Tp.z8 gk (ao (pZ (aq (top 47)) Yx ["_law_place"] [] [] rfl rfl rfl (by decide +kernel) (by decide +kernel) (m_ 0) (by decide +kernel) (lE (gv 1)) (λ_ _ _ _ _ _=>(nu 0 (by decide +kernel) rfl (by decide +kernel))) (λ_ _ _ _ _ _=>rB) (λ_ _ _ _ _ _=>(gc Fk.Ht Tp.CG hr uR uY (ao (cj 0) aB)))) aB)))))))) (aF (bL gF)
 aL) aL)
 (aF (dX (gM (znG wB (rm hr) (rm hr) aA (bx (gv 1) aA) (bx (gv 1) aA) (bx (gv 0) aA))) (aF (bL gF)
 aL) aL)
 aL)))
 (aF (bL (Cd (oU hr) (Om Tp.Ku gk (ao (bx (gv 0) aA) aB)) (zoq hr rfl Tp.RD gk Tp.YJ gk (ao (bx (gv 0) aA) aB))))
 aL))))
 Y8:=fJ Tp.Rr ["_law_pen_here","_law_some","_law_k"] Yj λ_ _ _ _ _ _ hr=>(aF (eY 1 nd rfl jl rfl (fB (ao (bA (ao aA (ao aA aB))) (ao (bA (ao aA (ao aA aB))) (ao (bA (ao aA (ao aA aB))) (ao (bA (ao aA (ao aA aB))) (ao (bA (ao aA (ao aA aB))) (ao (bA (ao aA (ao aA aB))) (ao (bA (ao aA (ao aA aB))) (ao (bA (ao aA (ao aA aB))) (ao (bA (ao aA (ao aA aB))) (ao (bA (ao aA (ao aA aB))) (ao (bA (ao aA (ao aA aB))) (ao (bA (ao aA (ao aA aB))) aB))))))))))))))
 (aF (dX (fH (oU hr) (gc Fk.kh Tp.jH hr bH gk (ao (gv 0) (ao aA aB))) aA) (aF (eY 2 nd rfl jl rfl (bF eE aA (bF uP (gc Fk.kh Tp.jH hr bH gk (ao (gv 0) (ao aA aB))) aA)))
 (aF (bL (bA (ao (gv 2) (ao (VB rfl Tp.z9 gk (ao aA (ao (bF Vv (gc Fk.kh Tp.jH hr bH gk (ao (gv 0) (ao (gv 2) aB))) aA) aB))) aB))))
 aL)) aL)
 (aF (bL (bx (gv 1) (gc Fk.kh Tp.jH hr bH gk (ao (gv 0) (ao aA aB)))))
 aL)))
 Y9:=fJ Tp.Rt Yy Yk λ_ _ _ _ _ _ hr=>(aF (dX (oV (pY (gM (iC (j8 Tp.cs Tp.z0 gk (gv 0) (rA rfl Tp.z3 yc gk dk)))) (pY (fH (tV hr) (tZ Tp.z4 gk (ao (gv 0) aB)) aA) (uQ (gM (iC (Ce rfl Tp.z8 gk (ao (pZ (aq (top 49)) Yy ["_law_one"] [] [] rfl rfl rfl (by decide +kernel) (by decide +kernel) (m_ 0) (by decide +kernel) (lE (gv 0)) (λ_ _ _ _ _ _=>(nu 0 (by decide +kernel) rfl (by decide +kernel))) (λ_ _ _ _ _ _=>rB) (λ_ _ _ _ _ _=>(gc Fk.Ht Tp.CG hr uR uY (ao (cj 0) aB)))) aB)))))))) (aF (bL gF)
 aL) aL)
 (aF (bL (zmQ wB wB wB aA (bx (gv 0) aA) (bx (gv 0) aA) aA))
 aL))
 RJ:=fJ Tp.Ko ["_law_k","_law_one","_law_other","_law_there"] zon λ_ _ _ _ _ _ hr=>(aF (eY 3 nd rfl jl rfl (Vz Tp.z6 gk (ao (bF nq (gv 1) (gv 2)) aB)))
 (aF (bL (VD rfl Tp.z5 gk (ao (gv 3) (ao (bF nq (gv 0) (gv 3)) aB))))
 aL))
 Y_:=fJ Tp.Ru Yz Yl λ_ _ _ _ _ _ hr=>(aF (bL (Cd (oU hr) (pZ (aq (top 51)) Yz ["_law_tie"] ["_law_ring_here","_law_spots"] [1,2] rfl rfl rfl (by decide +kernel) (by decide +kernel) (m_ 0) (by decide +kernel) (lE (bx (gv 0) aA)) (λ_ _ _ _ _ _=>(nu 0 (by decide +kernel) rfl (by decide +kernel))) (λ_ _ _ _ _ _=>(zZ (fH (rm hr) (gc Fk.RJ Tp.Ko hr uR uY (ao (bx (cj 1) aA) (ao (bx (cj 2) (bx (cj 0) aA)) (ao (bx (cj 2) (bx (cj 0) aA)) aB)))) (bx (cj 1) aA)))) (λ_ _ _ _ _ _=>(cj 0))) (fB aB)))
 aL)
 RK:=fJ Tp.Kp YB Ym λ_ _ _ _ _ _ hr=>(aF (dX (oV (pY (gM (iC (j8 Tp.cs Tp.z0 gk (gv 0) (rA rfl Tp.z3 yc gk dk)))) (uQ (fH (tV hr) (tZ Tp.z4 gk (ao (gv 0) aB)) (gv 1))))) (aF (bL gF)
 aL) aL)
 (aF (bL (Ce rfl Tp.z8 gk (ao (pZ (aq (top 52)) YB ["_law_one"] ["_law_k"] [2] rfl rfl rfl (by decide +kernel) (by decide +kernel) (m_ 0) (by decide +kernel) (lE (gv 0)) (λ_ _ _ _ _ _=>(nu 0 (by decide +kernel) rfl (by decide +kernel))) (λ_ _ _ _ _ _=>rB) (λ_ _ _ _ _ _=>(tU (gc Fk.Ht Tp.CG hr uR uY (ao (cj 0) aB)) (tR (Vy wB (rm hr) aA (cj 0) (cj 1)))))) aB)))
 aL))
 Za:=fJ Tp.Rw ["_law_web_here","_law_ring_here","_law_thing"] Yn λ_ _ _ _ _ _ hr=>(aF (bL (tU (gc Fk.RK Tp.Kp hr bH gk (ao (gv 2) (ao (bx (gv 0) aA) (ao (bx (gv 1) aA) aB)))) (tR (gc Fk.Y_ Tp.Ru hr bH gk (ao (gv 0) (ao (gv 1) (ao (gv 2) aB)))))))
 aL)
 Zb:=fJ Tp.Rx Hs Yo λ_ _ _ _ _ _ hr=>(aF (dX (oV (Gx (fH (tV hr) (bx (gv 0) aA) (bA aB)) (Gw (fH (rm hr) (bx (gv 1) aA) (bF Gu aA (bx (gv 1) aA)))))) (aF (bL q_)
 aL) aL)
 (aF (eY 2 nd rfl jl rfl (fB aB))
 (aF (yh wC rfl rfl (lE (bx (gv 0) aA)) (VH 3 4 rfl rfl nd rfl rfl jc jc rfl rfl) (aF (Jw 5 (aq (top 54)) Hs ["_law_place"] ["_law_one","_law_web_here","_law_other"] [3,0,4] nd rfl jl rfl rfl rfl rfl (by decide +kernel) (by decide +kernel) (m_ 0) (by decide +kernel) (Gy Tp.Ax gk (bx (gv 0) aA)) (λ_ _ _ _ _ _=>(nu 0 (by decide +kernel) rfl (by decide +kernel))) (λ_ _ _ _ _ _=>(zZ (oV (Gx (fH (Jv hr) (bA (ao (cj 1) (ao (cj 0) aB))) (bx (cj 2) aA)) (Gw (fH (Jv hr) (bA (ao (cj 3) (ao (cj 0) aB))) (bx (cj 2) aA))))))) (λ_ _ _ _ _ _=>(cj 0)))
 (aF (eY 2 nd rfl jl rfl (bF eE (gv 2) (gv 5)))
 aL)))
 (aF (dX (oV (Gx (fH (tV hr) (gv 2) (fB aB)) (Gw (fH (rm hr) (bx (gv 1) aA) (bF Gu aA (bx (gv 1) aA)))))) (aF (bL q_)
 aL) aL)
 (aF (Jw 6 (aq (top 54)) Hs ["_law_place"] ["_law_web_here"] [0] nd rfl jl rfl rfl rfl rfl (by decide +kernel) (by decide +kernel) (m_ 0) (by decide +kernel) (Gy Tp.Ax gk (bx (gv 0) aA)) (λ_ _ _ _ _ _=>(nu 0 (by decide +kernel) rfl (by decide +kernel))) (λ_ _ _ _ _ _=>(zZ (fH (oU hr) (zjk ["_law_place","_law_web_here"] ["_law_tie"] ["_law_place"] [0] rfl rfl (by decide +kernel) (by decide +kernel) (m_ 0) (by decide +kernel) (lE (bx (cj 1) aA)) (λ_ _ _ _ _ _=>(nu 0 (by decide +kernel) rfl (by decide +kernel))) (λ_ _ _ _ _ _=>(zZ (fH (Jv hr) (cj 1) (cj 0)))) (λ_ _ _ _ _ _=>(cj 0))) (fB aB)))) (λ_ _ _ _ _ _=>(cj 0)))
 (aF (eY 7 nd rfl jc rfl (fB (ao aA aB)))
 (aF (zjK wC (fH (oU hr) (bx (gv 7) aA) aA) (aF (dX (oV (pY (fH (oU hr) (bx (gv 7) (pX aA)) (bx (gv 1) aA)) (uQ (oV (Gx (fH Vx (bx (gv 7) (pX aA)) aA) (Gw (fH (Jv hr) (bF nq (tZ Tp.z4 gk (ao (gv 7) aB)) aA) (gv 6)))))))) (aF (Ab (znz (gv 7)))
 (aF (dX (fH (oU hr) (gv 7) (fB aB)) (aF (bL q_)
 aL) aL)
 (aF (Jx (gv 7) (pX aA) (bF eE (bx (gv 7) (pX aA)) aA))
 aL))) (aF (Jw 8 (aq (top 54)) Hs ["_law_tie"] ["_law_row"] [7] nd rfl jl rfl rfl rfl rfl (by decide +kernel) (by decide +kernel) (m_ 0) (by decide +kernel) (lE (bx (gv 0) aA)) (λ_ _ _ _ _ _=>(nu 0 (by decide +kernel) rfl (by decide +kernel))) (λ_ _ _ _ _ _=>(zZ (fH (oU hr) (bx (cj 0) aA) (bF nq (tZ Tp.z4 uY (ao (cj 1) aB)) aA)))) (λ_ _ _ _ _ _=>(cj 0)))
 (aF (Jw 9 (aq (top 54)) Hs ["_law_tie"] ["_law_ring_here","_law_row"] [1,7] nd rfl jl rfl rfl rfl rfl (by decide +kernel) (by decide +kernel) (m_ 0) (by decide +kernel) (lE (gv 8)) (λ_ _ _ _ _ _=>(nu 0 (by decide +kernel) rfl (by decide +kernel))) (λ_ _ _ _ _ _=>(zZ (fH (rm hr) (gc Fk.RJ Tp.Ko hr uR uY (ao (bx (cj 1) aA) (ao (bx (cj 2) (bx (cj 0) aA)) (ao (bx (cj 2) (pX aA)) aB)))) (bx (cj 1) aA)))) (λ_ _ _ _ _ _=>(cj 0)))
 (aF (dX (fH (tV hr) (gv 9) (fB aB)) (aF (Jx (gv 7) (pX aA) (bF eE (bx (gv 7) (pX aA)) aA))
 aL) (aF (dX (fH (oU hr) (tZ Tp.z4 gk (ao (gv 7) aB)) (bx (gv 0) aA)) (aF (bL (zY Tp.z3 gk (ao (gv 7) aB)))
 aL) (aF (Ab (VF (gv 7) aA))
 aL))
 aL))
 aL))))
 aL))
 (aF (bL q_)
 aL))))))))
 Zc:=fJ Tp.Ry ["_law_pen_here","_law_web_here","_law_many","_law_ties","_law_at","_law_some","_law_odd_here","_law_ahead","_law_behind","_law_rows"] Yp λ_ _ _ _ _ _ hr=>(aF (yg 2 3 rfl rfl nd rfl rfl jl jl rfl rfl (gv 1))
 (aF (eY 4 nd rfl jl rfl (gc Fk.kh Tp.jH hr bH gk (ao (gv 0) (ao (bF eE (tZ Tp.z4 gk (ao (gv 3) aB)) aA) aB))))
 (aF (eY 5 nd rfl jl rfl (fB (ao (bA (ao aA (ao aA aB))) (ao (bA (ao aA (ao aA aB))) (ao (bA (ao aA (ao (gv 2) aB))) (ao (bA (ao (pX aA) (ao aA aB))) (ao (bA (ao gF (ao gF aB))) (ao (bA (ao aA (ao gF aB))) (ao (bA (ao aA aB)) (ao (bA (ao aA (ao aA (ao aA aB)))) (ao (fB (ao aA (ao aA aB))) (ao q_ aB))))))))))))
 (aF (eY 6 nd rfl jl rfl (bx (gv 5) (gc Fk.kh Tp.jH hr bH gk (ao (gv 0) (ao aA aB)))))
 (aF (znt 7 8 rfl rfl nd rfl rfl (by decide) jl jl (rz (gv 3) tX (qJ (gv 4))) (rz (gv 3) (qJ (bF eE (gv 4) aA)) tX) rfl)
 (aF (dX (fH (oU hr) (gc Fk.kh Tp.jH hr bH gk (ao (gv 0) (ao aA aB))) aA) (aF (eY 9 nd rfl jl rfl (fB (ao (bF eE (bF eE (gv 7) (bA (ao (gv 6) aB))) (gv 8)) (ao (bF eE (bF eE (gv 7) (bA (ao (gv 6) aB))) (rz (gv 3) (qJ (gv 4)) tX)) (ao (znn (gv 3)) (ao (Om Tp.Ku gk (ao (gv 3) aB)) (ao (bF eE (gv 3) (rz (gv 3) tX (qJ aA))) aB)))))))
 (aF (eY 9 nd rfl jl rfl (bF eE (gv 9) (fB (ao (bF eE (gv 7) (gv 8)) (ao (bA (ao (gv 3) aB)) (ao (bF eE (rz (gv 3) (qJ (gv 4)) tX) (gv 7)) (ao (bF eE (bF eE (gv 7) (bA (ao (bA (ao aA (ao aA aB))) aB))) (rz (gv 3) (qJ (gv 4)) tX)) aB)))))))
 (aF (bL (bA (ao (gv 2) (ao (bx (gv 9) (gc Fk.kh Tp.jH hr bH gk (ao (gv 0) (ao aA aB)))) aB))))
 aL))) aL)
 (aF (eY 5 nd rfl jl rfl (fB (ao (bA (ao (bF eE (gv 2) aA) (ao (gv 3) aB))) (ao (bA (ao (bF nq (gv 2) aA) (ao (gv 3) aB))) (ao (bA (ao gF (ao (gv 3) aB))) (ao (bA (ao aA (ao (gv 3) aB))) (ao (bA (ao aA (ao (bA aB) aB))) (ao (bA (ao q_ (ao (gv 3) aB))) aB))))))))
 (aF (eY 5 nd rfl jl rfl (bF eE (gv 5) (fB (ao (fB (ao (gv 2) (ao (gv 3) aB))) (ao (bA (ao (gv 2) (ao (gv 3) (ao aA aB)))) (ao (bA (ao (gv 2) aB)) (ao (bA (ao (zkp Tp.YK gk (ao (gv 2) aB)) (ao (gv 3) aB))) (ao (bA (ao (gv 3) (ao (gv 2) aB))) (ao (gv 3) aB)))))))))
 (aF (bL (bx (gv 5) (gc Fk.kh Tp.jH hr bH gk (ao (gv 0) (ao aA aB)))))
 aL)))))))))
 RL:=fJ Tp.Kq ["_law_pen_here","_law_row","_law_k","_law_at","_law_odd_here","_law_rows"] Yq λ_ _ _ _ _ _ hr=>(aF (eY 3 nd rfl jl rfl (gc Fk.kh Tp.jH hr bH gk (ao (gv 0) (ao (bF eE (tZ Tp.z4 gk (ao (gv 1) aB)) aA) aB))))
 (aF (eY 4 nd rfl jl rfl (bx (fB (ao gF (ao gF (ao q_ (ao (pX aA) (ao (gv 2) (ao jk (ao (bA (ao aA aB)) (ao (gc Fk.kh Tp.jH hr bH gk (ao (gv 0) (ao (gv 2) aB))) aB))))))))) (gc Fk.kh Tp.jH hr bH gk (ao (gv 0) (ao aA aB)))))
 (aF (eY 5 nd rfl jl rfl (fB (ao (bF eE (bF eE (rz (gv 1) tX (qJ (gv 3))) (bA (ao (gv 4) aB))) (rz (gv 1) (qJ (bF eE (gv 3) aA)) tX)) (ao (bF eE (rz (gv 1) tX (qJ (gv 3))) (rz (gv 1) (qJ (bF eE (gv 3) aA)) tX)) (ao (bF eE (gv 1) (bA (ao aA aB))) (ao (Om Tp.Ku gk (ao (gv 1) aB)) (ao q_ (ao (bA (ao (gv 1) aB)) aB))))))))
 (aF (bL (bx (gv 5) (bx (fB (ao aA (ao aA (ao aA (ao aA (ao aA (ao aA (ao aA (ao aA (ao aA aB)))))))))) (gc Fk.kh Tp.jH hr bH gk (ao (gv 0) (ao aA aB))))))
 aL))))
 Zd:=fJ Tp.RB ["_law_pen_here","_law_ring_here","_law_k","_law_d","_law_some"] Yr λ_ _ _ _ _ _ hr=>(aF (yg 2 3 rfl rfl nd rfl rfl jl jl rfl rfl (gv 1))
 (aF (eY 4 nd rfl jl rfl (fB (ao (bA (ao (gv 2) (ao (bF eE (gv 2) aA) aB))) (ao (bA (ao aA (ao aA aB))) (ao (bA (ao aA (ao aA aB))) (ao (bA (ao (gv 2) (ao aA aB))) (ao (bA (ao gF (ao aA aB))) (ao (bA (ao (gv 2) (ao (gv 3) (ao aA aB)))) (ao (fB (ao (gv 2) (ao (gv 3) aB))) (ao (bA (ao (gv 2) aB)) (ao q_ aB)))))))))))
 (aF (bL (bx (bF eE (gv 4) (fB (ao (bA (ao (gv 3) (ao (gv 2) aB))) (ao jk (ao (bA (ao (bF nq aA (gv 2)) (ao (gv 3) aB))) aB))))) (gc Fk.kh Tp.jH hr bH gk (ao (gv 0) (ao aA aB)))))
 aL)))
 RM:=fJ Tp.Kr ["_law_way","_law_web_here","_law_ring_here","_law_hues","_law_steps","_law_e"] Q5 λ_ _ _ _ _ _ hr=>(aF (zm9 5 (dc:=0) rfl rfl ⟨rfl,rfl⟩ gk Tp.c0 nd rfl jl Tp.s0 (λ_ _ _ R' hp'=>(aF (dX (fH (oU hr) (gv 0) aA) (aF (bL (bA (ao jk (ao (gc Fk.YL Tp.Q_ hr R' gk (ao (gv 1) (ao (gv 2) (ao (gv 3) (ao (gv 4) aB))))) aB))))
 aL) aL)
 (aF (bL (bA (ao jk (ao (gc Fk.YM Tp.Ra hr R' gk (ao (gv 1) (ao (gv 2) (ao (gv 3) aB)))) aB))))
 aL))) (λ_=>(aF (bL (bA (ao (gc Fk.Y4 Tp.Rn (zfW hr) uR gk (ao (gv 5) aB)) (ao q_ aB))))
 aL)) dk)
 aL)
 yE:=fJ Tp.wM Q7 Ys λ_ _ _ _ _ _ hr=>(aF (eY 4 nd rfl jl rfl jk)
 (aF (dX (gM (iC (gc Fk.Y7 Tp.Rq hr bH gk (ao (gv 0) aB)))) (aF (eY 4 nd rfl jl rfl jk)
 aL) (aF (dX (gM (iC (gc Fk.Y9 Tp.Rt hr bH gk (ao (gv 1) aB)))) (aF (eY 4 nd rfl jl rfl jk)
 aL) (aF (dX (gM (iC (gc Fk.Za Tp.Rw hr bH gk (ao (gv 0) (ao (gv 1) (ao (gv 2) aB)))))) (aF (eY 4 nd rfl jl rfl jk)
 aL) aL)
 aL))
 aL))
 (aF (yh wC rfl rfl (Gy Tp.Ax gk aA) (Cm 5 nd rfl jl rfl) (aF (yg 6 7 rfl rfl nd rfl rfl jl jl rfl rfl (gc Fk.RM Tp.Kr hr bH gk (ao (gv 5) (ao (gv 0) (ao (gv 1) (ao (gv 2) (ao (gv 3) aB)))))))
 (aF (dX (fH (tV hr) (gv 6) (gv 4)) (aF (bL gF)
 aL) aL)
 (aF (dX (fH (oU hr) (gv 4) jk) (aF (eY 8 nd rfl jl rfl (fB (ao (zY Tp.z3 gk (ao (pZ (aq (top 59)) Q7 ["_law_spot"] ["_law_steps","_law_ring_here"] [3,1] rfl rfl rfl (by decide +kernel) (by decide +kernel) (m_ 0) (by decide +kernel) (lE (gv 2)) (λ_ _ _ _ _ _=>(nu 0 (by decide +kernel) rfl (by decide +kernel))) (λ_ _ _ _ _ _=>rB) (λ_ _ _ _ _ _=>(bF uP (bF eE (cj 0) (cj 1)) (bx (cj 2) aA)))) aB)) aB)))
 (aF (Ab (VF (gv 8) (zY Tp.z3 gk (ao (pZ (aq (top 59)) Q7 ["_law_spot"] ["_law_ring_here"] [1] rfl rfl rfl (by decide +kernel) (by decide +kernel) (m_ 0) (by decide +kernel) (lE (gv 2)) (λ_ _ _ _ _ _=>(nu 0 (by decide +kernel) rfl (by decide +kernel))) (λ_ _ _ _ _ _=>rB) (λ_ _ _ _ _ _=>(bF uP (bF nq (bx (cj 1) aA) (cj 0)) (bx (cj 1) aA)))) aB))))
 (aF (dX (oV (pY (fH (tV hr) (gv 7) (bx (gv 8) (gv 5))) (uQ (gM (iC (gc Fk.RK Tp.Kp hr bH gk (ao (gv 7) (ao (bx (gv 0) aA) (ao (bx (gv 1) aA) aB))))))))) (aF (bL gF)
 aL) aL)
 (aF (dX (fH (tV hr) (gc Fk.RM Tp.Kr hr bH gk (ao (gv 5) (ao (gv 0) (ao (gv 1) (ao (gv 2) (ao (gv 3) aB)))))) (bA (ao (gv 6) (ao (gv 7) aB)))) (aF (bL gF)
 aL) aL)
 aL)))) aL)
 aL))))
 (aF (bL gF)
 aL))))
 Ze:=fJ Tp.Ks YC Yt λ_ _ _ _ _ _ hr=>(aF (dX (oV (pY (gM (iC (gc Fk.yE Tp.wM hr bH gk (ao (bA (ao aA (ao (bA (ao (bA (ao aA (ao aA aB))) aB)) aB))) (ao (bA (ao aA (ao aA aB))) (ao (bA (ao aA (ao aA aB))) (ao (pX aA) aB))))))) (uQ (gM (iC (gc Fk.yE Tp.wM hr bH gk (ao (bA (ao aA (ao (bA aB) aB))) (ao (bA (ao aA (ao aA aB))) (ao (bA (ao aA aB)) (ao aA aB)))))))))) (aF (bL gF)
 aL) aL)
 (aF (yh wC rfl rfl (lE (bF eE (fB (ao (gc Fk.YX Tp.Ri hr bH gk (ao (gv 0) (ao aA aB))) aB)) (rz (gv 0) (qJ aA) (qJ aA)))) (Cm 1 nd rfl jl rfl) (aF (eY 2 nd rfl jc rfl (gc Fk.YZ Tp.Rj hr bH gk (ao (gv 1) aB)))
 (aF (yg 3 4 rfl rfl nd rfl rfl jl jc rfl rfl (bA (ao (gc Fk.Y6 Tp.Rp hr bH gk (ao (gv 2) (ao (gc Fk.Y5 Tp.Ro hr bH gk (ao (gv 2) aB)) aB))) (ao (gc Fk.Y8 Tp.Rr hr bH gk (ao (gv 2) aB)) aB))))
 (aF (dX (oV (Gx (fH (oU hr) (bx (gv 3) aA) aA) (Gw (fH Vx (bx (gv 4) aA) aA)))) (aF (eY 4 nd rfl jc rfl (bA (ao aA (ao aA aB))))
 aL) aL)
 (aF (eY 5 nd rfl jl rfl (zY Tp.z3 gk (ao (pZ (aq (top 60)) YC ["_law_place"] ["_law_pen_here","_law_ring_here"] [2,4] rfl rfl rfl (by decide +kernel) (by decide +kernel) (m_ 0) (by decide +kernel) (Gy Tp.Ax gk (bx (gv 3) aA)) (λ_ _ _ _ _ _=>(nu 0 (by decide +kernel) rfl (by decide +kernel))) (λ_ _ _ _ _ _=>rB) (λ_ _ _ _ _ _=>(gc Fk.kh Tp.jH hr uR uY (ao (cj 1) (ao (bx (cj 2) aA) aB))))) aB)))
 (aF (eY 6 nd rfl jl rfl (zni (gc Fk.Zb Tp.Rx hr bH gk (ao (gv 3) (ao (gv 4) aB))) (tR (gv 5))))
 (aF (yh wC rfl rfl (lE (fB (ao (gc Fk.kh Tp.jH hr bH gk (ao (gv 2) (ao aA aB))) (ao (bF nq (pX aA) (gc Fk.kh Tp.jH hr bH gk (ao (gv 2) (ao aA aB)))) (ao (bF eE (bF Ol aA aA) (gc Fk.kh Tp.jH hr bH gk (ao (gv 2) (ao aA aB)))) (ao aA aB)))))) (Cm 7 nd rfl jl rfl) (aF (dX (oV (pY (gM (iC (gc Fk.yE Tp.wM hr bH gk (ao (gv 3) (ao (gv 4) (ao (gv 6) (ao (gv 7) aB))))))) (uQ (gM (iC (gc Fk.yE Tp.wM hr bH gk (ao (gv 3) (ao (gv 4) (ao (gv 5) (ao (gv 7) aB)))))))))) (aF (bL gF)
 aL) aL)
 aL))
 (aF (yh wC rfl rfl (lE (fB (ao (gc Fk.RL Tp.Kq hr bH gk (ao (gv 2) (ao (gv 6) (ao (bx (gv 4) aA) aB)))) (ao (gc Fk.RL Tp.Kq hr bH gk (ao (gv 2) (ao (gv 6) (ao (bx (gv 4) aA) aB)))) (ao (gc Fk.Y0 Tp.Rm hr bH gk (ao (gv 2) aB)) aB))))) (Cm 8 nd rfl jl rfl) (aF (dX (gM (iC (gc Fk.yE Tp.wM hr bH gk (ao (gv 3) (ao (gv 4) (ao (gv 8) (ao aA aB))))))) (aF (bL gF)
 aL) aL)
 aL))
 (aF (dX (gM (iC (gc Fk.yE Tp.wM hr bH gk (ao (gc Fk.Zc Tp.Ry hr bH gk (ao (gv 2) (ao (gv 3) aB))) (ao (gv 4) (ao (gv 6) (ao aA aB))))))) (aF (bL gF)
 aL) aL)
 (aF (dX (gM (iC (gc Fk.yE Tp.wM hr bH gk (ao (gv 3) (ao (gc Fk.Zd Tp.RB hr bH gk (ao (gv 2) (ao (gv 4) aB))) (ao (gv 6) (ao aA aB))))))) (aF (bL gF)
 aL) aL)
 aL))))))))))
 (aF (bL gF)
 aL)))
theorem Zf(Tp:Top K mg):∀k,Fs P w K mg base k
 |0=>⟨dW,dW,dW,dW,dW,dW,dW,dW,dW,dW,dW,dW,dW,dW,dW,dW,dW,dW,dW,dW,dW,dW,dW,dW,dW,dW,dW,dW,dW,dW,dW,dW,dW,dW,dW,dW,dW,dW,dW,dW,dW⟩
 |k+1=>ziQ Tp (Zf Tp k)
end
theorem all_mk{l:PySem.W.OpenLaw}{w:World}{K:PySem.W.Frag}{h:Heap}{mg:Str->Option Value}{fa:Addr}(hm:∀ns:List Int,ns.length<=63->∃s',call sub T 60 true 40 [.d (.fl (ns.map D.int))] []=some (.ok (.d (.bl true)),s'))
  (S:iD fs ms xs lk K) (X:K.In h) (G:h.Ns mainGlobals mg) (hfa:mg "law"=some (.ref fa)) :
  ∃fd:FuncData,(∀(s:Shared) (u:Value),BindsTo s fd ⟨[u],[]⟩ [("_law_script",u)])/\∀base:Heap,K.In base->base.Ns mainGlobals mg->fM l.prog w K mg base (lU l.prog w) true 60 fa fd ["_law_script"] (tQ K):=by
 have Tp:Top K mg:=zmj S X G;have e:=hfa.symm.trans Tp.Ks.m;cases e;exact⟨_,Ac Tp.Ks.f (λ_ _ _ _ _ _ _=>rfl),λbase _ _=>(Zf Tp 60).Ze.imp (ziS hm)⟩
end fK
namespace fK
open PySem Mi
def jJ(o:SO):Prop:=∃a b:Int,o=.lst [.int a,.int b]/\0<=a/\(b=0\/b=1)
theorem Zg{k:Nat}{o:SO}{m:Int}(ho:jJ o)(hm:0<m)(hm2:m<1073741824):W (call sub T (k+1) true 21 [.l 0,.d (.int m)]) [o] λv s=>∃d o',v=.d d/\s=[o']/\(∃r:Int,d=.int r/\0<=r/\r<m)/\jJ o':=by
 obtain⟨a,b,rfl,ha,hb⟩:=ho;refine W.call Yd rfl ?_;unfold Qw;rcases hb with rfl|rfl
 ·refine Y ?_;exact⟨_,_,rfl,rfl,⟨_,rfl,Dl _ (by lia),HY _ hm⟩,⟨_,_,rfl,Dl _ (by decide),.inl rfl⟩⟩
 ·refine Y ?_;exact⟨_,_,rfl,rfl,⟨_,rfl,Dl _ (by lia),HY _ hm⟩,⟨_,_,rfl,Int.ediv_nonneg ha (by lia),.inr rfl⟩⟩
theorem znv{k:Nat}{n:Int}:W (call sub T (k+1) true 20 [.d (.int n)]) [] λv s=>∃i o,v=.l i/\s[i]?=some o/\jJ o:=by
 refine W.call Yc rfl ?_;unfold Qv;refine Y ?_;refine⟨0,_,rfl,rfl,⟨_,_,rfl,?_,?_⟩⟩
 ·split<;>lia
 ·have:∀c:Bool,(if c=true then (1:Int) else 0)=0\/(if c=true then (1:Int) else 0)=1:=by intro c;cases c<;>simp
  exact this _
theorem mO{k:Nat}{o:SO}{m:Int}{P:Xv->S->Prop}(ho:jJ o)(hm:0<m)(hm2:m<1073741824)(h:∀(r:Nat) o',(r:Int)<m->jJ o'->P (.d (.int r)) [o']):W (cH (call sub T (k+1) true 21) [.l 0,.d (.int m)]) [o] P:=by
 refine V5 (n:=0) (o:=o) rfl rfl ((Zg ho hm hm2).imp λv s=>?_);rintro⟨d,o',rfl,rfl,⟨r,rfl,h0,h1⟩,hp⟩;obtain⟨n,rfl⟩:=CT h0;exact⟨_,_,rfl,rfl,h n o' h1 hp⟩
theorem zk7{k:Nat}{ns:List Int}:W (call sub T (k+1) true 19 [.d (.fl (ns.map D.int)),.d (.int 0)]) [] λv _=>∃n,v=.d (.int n):=by
 refine W.call Yb rfl ?_;unfold Qu;cases ns with
 |nil=>
  refine Y ?_;exact⟨_,rfl⟩
 |cons n r=>
  refine Y ?_;refine WS.ite (λ_=>?_) (λ_=>?_)
  ·refine Y ?_;refine bW (ud (i:=0) (x:=.int n) rfl) ?_;refine Y ?_;exact⟨_,rfl⟩
  ·refine Y ?_;exact⟨_,rfl⟩
theorem zkA{k:Nat}{o:SO}(ho:jJ o):W (call sub T (k+2) true 25 [.l 0]) [o] λv s=>∃(n:Nat) (o':SO),v=.d (.int n)/\s=[o']/\(1<=n/\n<=8)/\jJ o':=by
 refine W.call Yg rfl ?_;unfold Qy;refine Y ?_;refine mO ho (by decide) (by decide) λr o' hr hp=>?_;refine Y ?_;have hr':r<12:=by lia
 refine bW (ud (x:=.int (([1,2,3,4,5,6,4,5,3,6,7,8]:List Nat)[r]'hr':Nat)) ?_) ?_
 ·revert hr';revert r;intro r _ hr';exact match r,hr' with
  |0,_=>rfl|1,_=>rfl|2,_=>rfl|3,_=>rfl|4,_=>rfl|5,_=>rfl|6,_=>rfl|7,_=>rfl|8,_=>rfl|9,_=>rfl|10,_=>rfl|11,_=>rfl
  |n+12,h=>absurd h (by lia)
 ·refine Y ?_;refine⟨_,_,rfl,rfl,?_,hp⟩;have key:∀n∈([1,2,3,4,5,6,4,5,3,6,7,8]:List Nat),1<=n/\n<=8:=by decide
  exact key _ (nY _)
theorem zjD{k:Nat}{i:Int}:W (call sub T (k+1) true 0 [.d (.int i)]) [] λv s=>v=.d (.bl true):=W.eq (a:=.d (.bl true)) (s':=[]) rfl rfl
theorem zid{k:Nat}{i a b:Int}:W (call sub T (k+2) true 1 [.d (.int i),.d (.int a),.d (.int b)]) [] λv s=>v=.d (.bl (decide (a<=i/\i<=b))):=by
 refine W.call T_1 rfl ?_;unfold b1;refine Y ?_;refine W.c0 zjD ?_;refine Y ?_;refine W.ite (λh1=>?_) (λh1=>?_)
 ·refine Y ?_;have:=gj h1;simp[this]
 ·refine Y ?_;simp at h1;have:¬(a<=i/\i<=b):=by lia
  simp[this]
theorem Kv{k:Nat}{d:D}(h:iK d=true):W (call sub T (k+1) true 22 [.d d]) [] λv s=>v=.d (.bl (O7 d)):=by
 cases d with
 |exc _ _=>cases h
 |ob _ _=>cases h
 |_=>exact W.eq (a:=_) (s':=[]) rfl rfl
theorem Kw{k:Nat}{d:D}{n:Int}(h:iK d=true):W (call sub T (k+1) true 2 [.d d,.d (.int n)]) [] λv s=>v=.d (.bl (oZ n d)):=by
 cases d with
 |exc _ _=>cases h
 |ob _ _=>cases h
 |tup xs=>
  refine W.call XJ rfl ?_;unfold b2;refine Y ?_;show Xv.d (D.bl (id (((xs.length:Nat):Int)==n)))=_
  congr 2
 |_=>exact W.eq (a:=_) (s':=[]) rfl rfl
theorem Hu{k:Nat}{d:D}{a b:Int}(h:iK d=true):W (call sub T (k+2) true 1 [.d d,.d (.int a),.d (.int b)]) [] λv s=>v=.d (.bl (lg a b d)):=by
 cases d with
 |exc _ _=>cases h
 |ob _ _=>cases h
 |int i=>exact zid
 |_=>exact W.eq (a:=_) (s':=[]) rfl rfl
theorem Zh{k:Nat}{d:D}{n:Int}(h:iK d=true):W (call sub T (k+3) true 9 [.d (.int n),.d d]) [] λv s=>v=.d (.bl (lg 0 (n-1) d)):=by
 refine W.call X4 rfl ?_;unfold b9;refine Y ?_;exact W.bY rfl ((Hu h).imp λv s e=>⟨_,e,rfl⟩)
theorem zk1{k:Nat}{d:D}(h:iK d=true):W (call sub T (k+3) true 8 [.d d]) [] λv s=>v=.d (.bl (lg 1 8 d)):=by
 refine W.call X3 rfl ?_;unfold b8;refine Y ?_;exact W.bY rfl ((Hu h).imp λv s e=>⟨_,e,rfl⟩)
theorem zmX{k:Nat}{d:D}{n:Int}(h:fU d=true):W (call sub T (k+4) true 10 [.d (.int n),.d d]) [] λv s=>v=.d (.bl (dB n d)):=by
 refine W.call X5 rfl ?_;unfold b10;refine Y ?_;refine W.c0 (Kw (J4 h)) ?_;cases d with
 |tup xs=>
  by_cases h2:xs.length=2
  ·obtain⟨x,y,rfl⟩:=Cy h2;have hx:iK x=true:=by simp only[fU,kW,cI] at h;exact h.1
   have hy:iK y=true:=by simp only[fU,kW,cI] at h;exact h.2.1
   rw[show oZ 2 (.tup [x,y])=true from rfl];refine Y ?_;refine W.c0 (Zh hx) ?_;cases x with
   |int a=>
    by_cases ha:0<=a/\a<=n-1
    ·rw[show lg 0 (n-1) (.int a)=true from cT ha];refine Y ?_;refine W.c0 (Zh hy) ?_;cases y with
     |int b=>
      by_cases hb:0<=b/\b<=n-1
      ·rw[show lg 0 (n-1) (.int b)=true from cT hb];refine Y ?_;show Xv.d (.bl (decide (a<b)))=.d (.bl (decide (0<=a/\a<b/\b<n)));rw[rK.mpr (show a<b↔0<=a/\a<b/\b<n by lia)]
      ·rw[show lg 0 (n-1) (.int b)=false from cZ hb];refine Y ?_;show Xv.d (.bl false)=.d (.bl (decide (0<=a/\a<b/\b<n)));rw[cZ (by lia)]
     |exc _ _=>cases hy
     |ob _ _=>cases hy
     |_=>exact Y rfl
    ·rw[show lg 0 (n-1) (.int a)=false from cZ ha];refine Y ?_;show Xv.d (.bl false)=.d (.bl (dB n (.tup [.int a,y])));cases y with
     |int b=>
      show Xv.d (.bl false)=.d (.bl (decide (0<=a/\a<b/\b<n)));rw[cZ (by lia)]
     |_=>rfl
   |_=>exact Y rfl
  ·rw[Qg h2,Xh h2];exact Y trivial
 |_=>exact Y rfl
theorem Zi{k:Nat}{d:D}(h:Aw d=true)(hl:Qh d):W (call sub T (k+5) true 7 [.d d]) [] λv s=>v=.d (.bl (nF d)):=by
 have hs:(200:Nat)<=sizeLine:=by decide
 refine W.call XR rfl ?_;unfold b7;refine Y ?_;refine W.c0 (Kw (show iK d=true by cases d<;>first|rfl|cases h)) ?_;cases d with
 |tup xs=>
  by_cases h2:xs.length=2
  ·obtain⟨x,y,rfl⟩:=Cy h2;have hx:Av x=true:=by simp only[Aw,kW,cI] at h;exact h.1
   have hy:Av y=true:=by simp only[Aw,kW,cI] at h;exact h.2.1
   rw[show oZ 2 (.tup [x,y])=true from rfl];refine Y ?_;refine W.c0 (zk1 (Xn hx)) ?_;cases x with
   |int n=>
    by_cases hn:1<=n/\n<=8
    ·rw[show lg 1 8 (.int n)=true from cT hn];cases y with
     |tup ys=>
      have hyl:=hl _ _ rfl;have hy:∀t∈ys,fU t=true:=gb.mp hy;refine Y ?_;refine nD (l:=ys) (f:=λx=>x) (λt=>some (.bl (dB n t))) (by lia) ?_ (λt ht=>?_) ?_
      ·refine Y ?_;rw[List.map_id'];exact⟨rfl,rfl⟩
      ·refine Y ?_;refine⟨rfl,λ_=>?_,λhb=>by cases hb⟩;refine Y ?_;exact W.bY rfl ((zmX (hy t ht)).imp λv s e=>⟨_,e,rfl,_,rfl,rfl⟩)
      rw[uo];refine Y ?_;refine bW JL ?_;show _;have ew:nF (.tup [.int n,.tup ys])=(decide (1<=n/\n<=8)&&ys.all (dB n)&&jd (f9 ys)):=rfl;rw[ew,cT hn];cases ha:ys.all (dB n)
      ·exact Y rfl
      ·obtain⟨e,ht⟩:=J3 ha;generalize f9 ys=ps at e ht;subst e;rw[bJ] at hyl;refine Y ?_;refine nD (l:=ps.zip (ps.drop 1)) (f:=λe=>.tup [bO e.1,bO e.2]) (λe=>some (.bl (iI e.1 e.2))) (by rw[List.length_zip];lia) ?_ (λt ht=>?_) ?_
       ·refine Y ?_;rw[O1,<-List.map_drop,zlE];exact⟨rfl,rfl⟩
       ·refine Y ?_;refine⟨rfl,λ_=>?_,λhb=>by cases hb⟩;refine Y ?_;rw[<-zje];exact⟨rfl,_,rfl,rfl⟩
       rw[uo];refine Y ?_;refine bW JL ?_;rfl
     |exc _ _=>cases hy
     |ob _ _=>cases hy
     |_=>exact Y rfl
    ·rw[show lg 1 8 (.int n)=false from cZ hn];refine Y ?_;show Xv.d (.bl false)=.d (.bl (nF (.tup [.int n,y])));cases y with
     |tup ys=>
      show Xv.d (.bl false)=.d (.bl (decide (1<=n/\n<=8)&&ys.all (dB n)&&jd (f9 ys)));rw[cZ hn];rfl
     |_=>rfl
   |_=>exact Y rfl
  ·rw[Qg h2,Xl h2];exact Y trivial
 |_=>exact Y rfl
theorem Zj{k':Nat}{d:D}(h:fU d=true):W (call sub T (k'+3) true 3 [.d d]) [] λv s=>v=.d (.bl (qg d)):=by
 refine W.call XM rfl ?_;unfold b3;refine Y ?_;refine W.c0 (Kw (J4 h)) ?_;cases d with
 |tup xs=>
  by_cases h2:xs.length=2
  ·obtain⟨x,y,rfl⟩:=Cy h2;have hx:iK x=true:=by simp only[fU,kW,cI] at h;exact h.1
   have hy:iK y=true:=by simp only[fU,kW,cI] at h;exact h.2.1
   rw[show oZ 2 (.tup [x,y])=true from rfl];refine Y ?_;refine W.c0 (Hu hx) ?_;cases x with
   |int a=>
    by_cases ha:1<=a/\a<=24
    ·rw[show lg 1 24 (.int a)=true from cT ha];refine Y ?_;refine W.c0 (Hu hy) ?_;cases y with
     |int b=>
      show Xv.d (.bl (decide (1<=b/\b<=a)))=.d (.bl (decide (1<=a/\a<=24)&&decide (1<=b/\b<=a)));rw[cT ha];rfl
     |exc _ _=>cases hy
     |ob _ _=>cases hy
     |_=>rfl
    ·rw[show lg 1 24 (.int a)=false from cZ ha];refine Y ?_;show Xv.d (.bl false)=.d (.bl (qg (.tup [.int a,y])));cases y with
     |int b=>
      show Xv.d (.bl false)=.d (.bl (decide (1<=a/\a<=24)&&decide (1<=b/\b<=a)));rw[cZ ha];rfl
     |_=>rfl
   |_=>exact Y rfl
  ·rw[Qg h2,Xr h2];exact Y trivial
 |_=>exact Y rfl
theorem zf8{k':Nat}{d:D}(h:fU d=true):W (call sub T (k'+2) true 29 [.d d]) [] λv s=>v=.d (.bl (qg d)):=by
 have hs:(200:Nat)<=sizeLine:=by decide
 refine W.call Yk rfl ?_;unfold QD;cases d with
 |tup us=>
  by_cases h2:us.length=2
  ·obtain⟨p,q,rfl⟩:=Cy h2;have hp:iK p=true:=by simp only[fU,kW,cI] at h;exact h.1
   have hq:iK q=true:=by simp only[fU,kW,cI] at h;exact h.2.1
   refine Y ?_;refine nD (l:=[p,q]) (f:=λx=>x) (λt=>some (.bl (O7 t))) (by show 2<=_;lia) ?_ (λt ht=>?_) ?_
   ·refine Y ?_;exact⟨rfl,rfl⟩
   ·refine Y ?_;refine⟨rfl,λ_=>?_,λhb=>by cases hb⟩;refine Y ?_;refine W.bY rfl ((Kv (d:=t) ?_).imp λv s e=>⟨_,e,rfl,_,rfl,rfl⟩);simp only[cM,mK,lJ] at ht;rcases ht with rfl|rfl
    ·exact hp
    ·exact hq
   rw[uo];refine Y ?_;cases p with
   |int a=>
    cases q with
    |int b=>
     refine Y ?_;refine W.sW ?_;refine Y ?_;rw[show qg (.tup [.int a,.int b])=(decide (1<=a/\a<=24)&&decide (1<=b/\b<=a)) from rfl];by_cases h1:1<=b
     ·rw[cT h1];refine Y ?_;by_cases h3:b<=a
      ·rw[cT h3];refine Y ?_;rw[cT (show 1<=b/\b<=a by lia),Bool.and_true,rK.mpr (show a<=24↔1<=a/\a<=24 by lia)]
      ·rw[cZ h3,cZ (show ¬(1<=b/\b<=a) by lia),Ir];exact Y trivial
     ·rw[cZ h1,cZ (show ¬(1<=b/\b<=a) by lia),Ir];exact Y trivial
    |_=>exact Y rfl
   |_=>exact Y rfl
  ·rw[Xr h2];refine Y ?_;refine W.ite (λ_=>?_) (λhb=>?_)
   ·exact Y trivial
   ·exact absurd hb (by simp;lia)
 |exc _ _=>cases h
 |ob _ _=>cases h
 |_=>exact Y rfl
section
variable {n k d:Int}{ps:List (Int×Int)}
theorem zho{k':Nat}{x:D}(h:iK x=true):W (call sub T (k'+3) true 4 [.d (aM k d),.d x]) [] λv s=>v=.d (.bl (lg 0 (k-1) x)):=by
 refine W.call XQ rfl ?_;unfold b4 aM;refine Y ?_;exact W.bY rfl ((Hu h).imp λv s e=>⟨_,e,rfl⟩)
theorem zff{k':Nat}{x:D}(h:fU x=true)(hl:∀xs,x=.tup xs->xs.length<=200):W (call sub T (k'+4) true 15 [.d (bQ n ps),.d (aM k d),.d x]) [] λv s=>v=.d (.bl (qN n k x)):=by
 have hs:(200:Nat)<=sizeLine:=by decide
 refine W.call X7 rfl ?_;unfold Qq bQ;refine Y ?_;refine W.c0 (Kw (J4 h)) ?_;cases x with
 |tup xs=>
  have hx:∀y∈xs,iK y=true:=gb.mp h;have Ky:=hl xs rfl;rw[show qN n k (.tup xs)=(decide ((xs.length:Int)=n)&&xs.all (lg 0 (k-1))) from rfl];by_cases hn:(xs.length:Int)=n
  ·rw[show oZ n (.tup xs)=true from cT hn,cT hn];refine Y ?_;refine nD (l:=xs) (f:=λx=>x) (λt=>some (.bl (lg 0 (k-1) t))) (by lia) ?_ (λt ht=>?_) ?_
   ·refine Y ?_;rw[List.map_id'];exact⟨rfl,rfl⟩
   ·refine Y ?_;refine⟨rfl,λ_=>?_,λhb=>by cases hb⟩;refine Y ?_;exact W.bY rfl ((zho (hx t ht)).imp λv s e=>⟨_,e,rfl,_,rfl,rfl⟩)
   rw[uo];refine Y ?_;refine bW JL ?_;rfl
  ·rw[show oZ n (.tup xs)=false from cZ hn,cZ hn,Ip];exact Y trivial
 |_=>exact Y rfl
theorem Zk{k':Nat}{x:D}(h:fU x=true)(hl:∀xs,x=.tup xs->xs.length<=200):W (call sub T (k'+2) true 32 [.d x,.d (.int n),.d (.int k)]) [] λv s=>v=.d (.bl (qN n k x)):=by
 have hs:(200:Nat)<=sizeLine:=by decide
 refine W.call Ym rfl ?_;unfold QG;cases x with
 |tup xs=>
  have hx:∀y∈xs,iK y=true:=gb.mp h;have Ky:=hl xs rfl;show WS _ _ _;have es:qN n k (.tup xs)=(decide ((xs.length:Int)=n)&&xs.all (lg 0 (k-1))):=rfl;rw[es];refine Y ?_;refine WS.ite (λhb=>?_) (λhb=>?_)
  ·refine Y ?_;rw[cZ (by simpa using hb)];rfl
  ·refine Y ?_;rw[cT (by simpa using hb)];refine nD (l:=xs) (f:=λx=>x) (λt=>some (.bl (lg 0 (k-1) t))) (by lia) ?_ (λt ht=>?_) ?_
   ·refine Y ?_;rw[List.map_id'];exact⟨rfl,rfl⟩
   ·refine Y ?_;refine⟨rfl,λ_=>?_,λhb=>by cases hb⟩;refine Y ?_;refine W.c0 (Kv (hx t ht)) ?_;cases t with
    |int i=>
     refine Y ?_;refine W.ite (λh1=>?_) (λh1=>?_)
     ·refine Y ?_;refine⟨rfl,_,rfl,?_⟩;have h1:=gj h1;show some (D.bl (decide (0<=i/\i<=k-1)))=some (.bl (decide (i<k)));rw[rK.mpr (show 0<=i/\i<=k-1↔i<k by lia)]
     ·refine Y ?_;refine⟨rfl,_,rfl,?_⟩;have h1:¬0<=i:=λz=>h1 (cT z);show some (D.bl (decide (0<=i/\i<=k-1)))=some (.bl false);rw[cZ (by lia)]
    |_=>
     refine Y ?_;exact⟨rfl,_,rfl,rfl⟩
   rw[uo];refine Y ?_;refine bW JL ?_;rfl
 |exc _ _=>cases h
 |ob _ _=>cases h
 |_=>exact Y rfl
end
theorem zhA{k:Nat}{d:D}(h:uZ d)(hb:nF d=false):WR (call sub T (k+6) true 11 [.d d]) [] 9 [.int (-1)]:=by
 refine WR.call QX rfl ?_;unfold Kf;refine qL ?_;refine Y ?_;refine W.c0 (Zi h.1 h.2) ?_;rw[hb];refine W.bool (W.bool (WS.qK (qL ?_)));refine Y ?_;exact⟨⟨_,_,_,rfl⟩,⟨_,_,_,rfl⟩,_,rfl⟩
theorem RN{k:Nat}{d:D}(h:uZ d)(hb:nF d=true):W (call sub T (k+6) true 11 [.d d]) [] λv s=>∃d,v=.d d:=by
 refine W.call QX rfl ?_;unfold Kf;refine Y ?_;refine W.c0 (Zi h.1 h.2) ?_;rw[hb];refine Y ?_;exact⟨_,rfl⟩
theorem zgA{k:Nat}{d:D}(h:fU d=true)(hb:qg d=false):WR (call sub T (k+4) true 5 [.d d]) [] 1 []:=by
 refine WR.call QW rfl ?_;unfold b5;refine qL ?_;refine Y ?_;refine W.c0 (Zj h) ?_;rw[hb];refine W.bool (W.bool (WS.qK (qL ?_)));refine Y ?_;exact⟨⟨_,_,_,rfl⟩,⟨_,_,_,rfl⟩,_,rfl⟩
theorem Zm{k:Nat}{d:D}(h:fU d=true)(hb:qg d=true):W (call sub T (k+4) true 5 [.d d]) [] λv s=>∃d,v=.d d:=by
 refine W.call QW rfl ?_;unfold b5;refine Y ?_;refine W.c0 (Zj h) ?_;rw[hb];refine Y ?_;exact⟨_,rfl⟩
theorem zmY{k':Nat}{k d a b:Int}:W (call sub T (k'+1) true 6 [.d (aM k d),.d (.int a),.d (.int b)]) [] λv s=>v=.d (.int (gO k a b)):=W.eq (a:=.d (.int (gO k a b))) (s':=[]) rfl rfl
section
variable {n k d:Int}{ps:List (Int×Int)}{hs:List Int}
theorem zjA{k':Nat}(h:Web n ps)(hl:(hs.length:Int)=n):W (call sub T (k'+2) true 18 [.d (bQ n ps),.d (aM k d),.d (.tup (hs.map .int))]) [] λv s=>v=.d (Kc k d ps hs):=by
 refine W.call X_ rfl ?_;unfold Qt;refine Y ?_;refine Wq (λi τ s=>s=[]/\(∃(a b:Option Xv),τ=[some (.d (bQ n ps)),some (.d (aM k d)),some (.d (.tup (hs.map .int))),a,b])/\u9 k d (ps.take i) hs=[]) ⟨rfl,⟨_,_,rfl⟩,rfl⟩ (λi x τ s e hI=>?_) (λτ s hI=>?_)
 ·obtain⟨rfl,⟨a,b,rfl⟩,hI⟩:=hI;rw[je,mQ] at e;obtain⟨p,ep,rfl⟩:=e;have ht:=h.tie p (gU ep);obtain⟨p1,p2⟩:=p;dsimp only at ht;refine Y ?_;refine bW (JF (by lia) (by lia)) ?_;refine Y ?_;refine bW (JF (by lia) (by lia)) ?_;refine Y ?_;refine W.c0 zmY ?_;unfold aM;refine Y ?_;have et:ps.take (i+1)=ps.take i++[(p1,p2)]:=by rw[List.take_succ,ep];rfl
  have ec:u9 k d (ps.take (i+1)) hs=if gO k (at' hs p1) (at' hs p2)<d then [(p1,p2)] else []:=by
   unfold u9 at hI ⊢;rw[et,List.filter_append,hI,List.nil_append,Il];simp only[List.filter_nil,Bk]
  refine WS.ite (λhb=>?_) (λhb=>?_)
  ·have hb:=gj hb;rw[if_pos hb] at ec;refine Y ?_;refine .inr ⟨_,rfl,?_⟩;have:u9 k d ps hs=(p1,p2)::u9 k d (ps.drop (i+1)) hs:=by
    have e1:ps=ps.take (i+1)++ps.drop (i+1):=(K1 ..).symm;unfold u9 at ec ⊢
    conv=>lhs;rw[e1,List.filter_append,ec]
    rfl
   unfold Kc;rw[this];rfl
  ·have hb:¬gO k (at' hs p1) (at' hs p2)<d:=λz=>hb (cT z);rw[if_neg hb] at ec;refine Y ?_;exact .inl ⟨_,rfl,rfl,⟨_,_,rfl⟩,ec⟩
 ·obtain⟨rfl,⟨a,b,rfl⟩,hI⟩:=hI;rw[bJ,Ik] at hI;refine Y ?_;unfold Kc;rw[hI]
end
theorem ziN{k:Nat}{x:Int}:W (call sub T (k+1) false 24 [.d (.exc 9 [.int x])]) [] λv s=>v=.d (.str "web"):=W.eq (a:=.d (.str "web")) (s':=[]) rfl rfl
theorem zjo{k:Nat}:W (call sub T (k+1) false 24 [.d (.exc 1 [])]) [] λv s=>v=.d (.str "ring"):=W.eq (a:=.d (.str "ring")) (s':=[]) rfl rfl
theorem zjJ{k:Nat}:W (call sub T (k+1) false 24 [.d (.exc 2 [])]) [] λv s=>v=.d (.str "hues"):=W.eq (a:=.d (.str "hues")) (s':=[]) rfl rfl
theorem zgx{k:Nat}{o:SO}{n:Int}(ho:jJ o)(h1:1<=n)(h8:n<=8):W (call sub T (k+2) true 26 [.l 0,.d (.int n)]) [o] λv s=>∃ps o',v=.d (bQ n ps)/\s=[o']/\Web n ps/\jJ o':=by
 refine W.call Yh rfl ?_;unfold Qz;have hs:(100:Nat)<=sizeLine:=by decide
 refine Y ?_;refine mO ho (by decide) (by decide) λr o' hr hp=>?_;refine Y ?_;have hr':r<3:=by lia
 refine bW (ud (x:=.int (([2,4,6]:List Int)[r]'hr')) ?_) ?_
 ·revert hr';revert r;intro r _ hr';exact match r,hr' with
  |0,_=>rfl|1,_=>rfl|2,_=>rfl
  |n+3,h=>absurd h (by lia)
 generalize ([2,4,6]:List Int)[r]=often;refine Y ?_;refine⟨by rw[uU (by lia) (by lia),uU (by lia) (by lia)];rfl,?_⟩;refine wJ (λ(i:Nat) τ s=>∃(ps:List (Int×Int)) (a:Option Xv) (o':SO),τ=[some (.l 0),some (.d (.int n)),some (.d (.int often)),some (.d (.fl (ps.map bO))),a]/\s=[o']/\jJ o'/\(∀p∈ps,0<=p.1/\p.1<(i:Int)/\p.1<p.2/\p.2<n)/\ps.Pairwise lx/\ps.length<=7*i)
  ⟨[],_,_,rfl,rfl,hp,by simp,by simp,by simp⟩ (λi x τ s e hI=>?_) (λτ s hI=>?_)
 ·obtain⟨ps,a,o',rfl,rfl,hp,ht,hinc,hlen⟩:=hI;obtain⟨rfl,hi⟩:=Aj e;have hi8:i<8:=by lia
  refine Y ?_;refine Wb (c:=jh (0+(i:Int)+1) n) (λ(j:Nat) acc s=>∃(es:List Int) (o':SO),acc=es.map (λe=>bO (0+(i:Int),e))/\es.Pairwise (·<·)/\(∀e∈es,(i:Int)<e/\e<(i:Int)+1+j)/\s=[o']/\jJ o') ?_ (λj x acc s e hJ=>?_) (λacc s hJ=>?_)
  ·refine Y ?_;refine⟨by rw[uU (by lia) (by lia),uU (by lia) (by lia)];rfl,?_⟩;exact⟨rfl,[],_,rfl,by simp,by simp,rfl,hp⟩
  ·obtain⟨es,o',rfl,hes,yF,rfl,hp⟩:=hJ;obtain⟨rfl,hj⟩:=Aj e;have hel:(es.length:Int)<=(i:Int)+1+j-((i:Int)+1):=O2 hes (λe he=>by have:=yF e he;lia) (by lia);refine Y ?_;refine mO hp (by decide) (by decide) λr o' hr hp=>?_;refine Y ?_;refine⟨λhb=>?_,λhb=>?_⟩
   ·refine Y ?_;refine⟨_,rfl,by rw[bJ];lia,es++[0+(i:Int)+1+j],o',?_,?_,?_,rfl,hp⟩
    ·rw[jK];rfl
    ·rw[CZ];refine⟨hes,by simp,λa ha b hb=>?_⟩;simp at hb;have:=yF a ha
     lia
    ·intro e he;rcases fG.mp he with he|he
     ·have:=yF e he;lia
     ·simp at he;lia
   ·exact⟨es,o',rfl,hes,λe he=>by have:=yF e he;lia,rfl,hp⟩
  ·obtain⟨es,o',rfl,hes,yF,rfl,hp⟩:=hJ;rw[O4] at yF;have hel:(es.length:Int)<=n-((i:Int)+1):=O2 hes (λe he=>by have:=yF e he;lia) (by lia);refine Y ?_;refine Cp (Ow ?_) ?_
   ·rw[bJ,bJ];lia
   refine Y ?_;refine⟨_,rfl,ps++es.map (λe=>(0+(i:Int),e)),some (.d (.int (0+(i:Int)))),o',?_,rfl,hp,?_,?_,?_⟩
   ·rw[jK,jB];rfl
   ·intro p hp;rcases fG.mp hp with hp|hp
    ·have:=ht p hp;lia
    ·obtain⟨e,he,rfl⟩:=fj.mp hp;have:=yF e he;dsimp only
     lia
   ·rw[CZ,rJ];refine⟨hinc,hes.imp λh=>.inr ⟨rfl,h⟩,λp hp q hq=>?_⟩;obtain⟨e,he,rfl⟩:=fj.mp hq;have:=ht p hp;exact .inl (by dsimp only;lia)
   ·rw[cX,bJ];lia
 ·obtain⟨ps,a,o',rfl,rfl,hp,ht,hinc,hlen⟩:=hI;rw[O4] at ht hlen;refine Y ?_;refine nD (l:=ps) (f:=bO) (λp=>some (bO (n-1-p.2,n-1-p.1))) (by lia) ?_ (λp hpm=>?_) ?_
  ·refine Y ?_;exact⟨rfl,rfl⟩
  ·obtain⟨p1,p2⟩:=p;refine Y ?_;refine⟨rfl,λ_=>?_,λhb=>by cases hb⟩;refine Y ?_;exact⟨rfl,_,rfl,rfl⟩
  have nd:(ps.map λp=>(n-1-p.2,n-1-p.1)).Nodup:=by
   have:=Wg hinc;unfold List.Nodup at this ⊢;rw[rJ];refine this.imp λ{p q} h e=>h ?_;obtain⟨p1,p2⟩:=p;obtain⟨q1,q2⟩:=q;simp only[Prod.mk.injEq] at e ⊢
   lia
  obtain⟨qs,es,hq1,hq2,hq3⟩:=zkc (by rw[bJ];lia) nd;have e2:ps.filterMap (λp=>some (bO (n-1-p.2,n-1-p.1)))=(ps.map λp=>(n-1-p.2,n-1-p.1)).map bO:=by
   rw[uo,jB];rfl
  rw[e2];refine Y ?_;refine Cp (zfZ es) ?_;refine Y ?_;rw[bJ] at hq3;refine⟨qs,o',rfl,rfl,⟨h1,h8,λp hp=>?_,hq1,by lia⟩,hp⟩;obtain⟨q,hq,rfl⟩:=fj.mp ((hq2 p).mp hp);have:=ht q hq;dsimp only
  lia
theorem ze4{k':Nat}{o:SO}{k d:Int}(ho:jJ o):W (call sub T (k'+2) true 37 [.l 0,.d (aM k d)]) [o] λv s=>∃(x:D) (o':SO),v=.d x/\s=[o']/\fU x=true/\jJ o':=by
 refine W.call Yr rfl ?_;unfold QS aM;refine Y ?_;refine mO ho (by decide) (by decide) λr o1 hr hp=>?_;refine Y ?_;obtain⟨x,ex,hx⟩:=J_ (xs:=[.tup [.int k,.int (k+1)],.tup [.int 0,.int 0],.tup [.int 25,.int 1],.tup [.int k,.int 0],.tup [.bl true,.int 1],.tup [.int k,.int d,.int 1],.fl [.int k,.int d],.tup [.int k],.non,.tup [.int d,.int k],.str "5/2",.tup [.int (0-k),.int d]]) (r:=r) (by show r<12;lia);refine bW ex ?_;refine Y ?_;refine⟨_,_,rfl,rfl,?_,hp⟩;clear ex;simp only[cM,mK,lJ] at hx;rcases hx with rfl|rfl|rfl|rfl|rfl|rfl|rfl|rfl|rfl|rfl|rfl|rfl
 all_goals rfl
theorem yG{n:Int}{ps:List (Int×Int)}(h:Web n ps):uZ (bQ n ps):=zlu (by have:=h.len;have:=h.h8;lia)
theorem zhZ{k:Nat}{d:D}(h:Aw d=true)(hl:Qh d):W (call sub T (k+2) true 27 [.d d]) [] λv s=>v=.d (.bl (nF d)):=by
 have hs:(200:Nat)<=sizeLine:=by decide
 refine W.call Yi rfl ?_;unfold QB;cases d with
 |tup xs=>
  by_cases h2:xs.length=2
  ·obtain⟨x,y,rfl⟩:=Cy h2;have hx:Av x=true:=by simp only[Aw,kW,cI] at h;exact h.1
   have hy:Av y=true:=by simp only[Aw,kW,cI] at h;exact h.2.1
   refine Y ?_;refine W.c0 (Kv (Xn hx)) ?_;cases x with
   |int n=>
    refine Y ?_;by_cases hn:1<=n/\n<=8
    ·rw[cT hn.1];refine Y ?_;rw[cT hn.2];cases y with
     |tup ys=>
      have hyl:=hl _ _ rfl;have hy:∀t∈ys,fU t=true:=gb.mp hy;have ew:nF (.tup [.int n,.tup ys])=(decide (1<=n/\n<=8)&&ys.all (dB n)&&jd (f9 ys)):=rfl;rw[cT hn] at ew;have fl:∀t∈ys,dB n t=false->nF (.tup [.int n,.tup ys])=false:=λt ht e=>by
       rw[ew];have:ys.all (dB n)=false:=by
        cases ha:ys.all (dB n)
        ·rfl
        ·have:=gb.mp ha t ht;rw[e] at this;cases this
       rw[this];rfl
      refine Y ?_;refine Wq (λi τ s=>s=[]/\(∃a,τ=[some (.d (.tup [.int n,.tup ys])),a])/\∀t∈ys.take i,dB n t=true) ⟨rfl,⟨_,rfl⟩,by simp⟩ (λi t τ s ht hI=>?_) (λτ s hI=>?_)
      ·obtain⟨rfl,⟨a,rfl⟩,hI⟩:=hI;have Zn:=gU ht;have hti:=hy t Zn;have hfl:=fl t Zn;have nxt:dB n t=true->∀u∈ys.take (i+1),dB n u=true:=λe u hu=>by
        rw[List.take_succ,ht] at hu;rcases fG.mp hu with hu|hu
        ·exact hI u hu
        ·rw[show u=t by simpa using hu];exact e
       cases t with
       |tup us=>
        by_cases h2:us.length=2
        ·obtain⟨p,q,rfl⟩:=Cy h2;have hp:iK p=true:=by simp only[fU,kW,cI] at hti;exact hti.1
         have hq:iK q=true:=by simp only[fU,kW,cI] at hti;exact hti.2.1
         refine Y ?_;refine nD (l:=[p,q]) (f:=λx=>x) (λt=>some (.bl (O7 t))) (by show 2<=_;lia) ?_ (λt ht=>?_) ?_
         ·refine Y ?_;exact⟨rfl,rfl⟩
         ·refine Y ?_;refine⟨rfl,λ_=>?_,λhb=>by cases hb⟩;refine Y ?_;refine W.bY rfl ((Kv (d:=t) ?_).imp λv s e=>⟨_,e,rfl,_,rfl,rfl⟩);simp only[cM,mK,lJ] at ht;rcases ht with rfl|rfl
          ·exact hp
          ·exact hq
         rw[uo];refine Y ?_;cases p with
         |int a=>
          cases q with
          |int b=>
           refine Y ?_;refine W.sW ?_;refine Y ?_;have tb:dB n (.tup [.int a,.int b])=decide (0<=a/\a<b/\b<n):=rfl;by_cases h1:0<=a
           ·rw[cT h1];refine Y ?_;by_cases h3:a<b
            ·rw[cT h3];refine Y ?_;by_cases h4:b<n
             ·rw[cT h4];refine Y ?_;exact .inl ⟨_,rfl,rfl,⟨_,rfl⟩,nxt (by rw[tb];exact cT ⟨h1,h3,h4⟩)⟩
             ·rw[cZ h4];refine Y ?_;exact .inr ⟨_,rfl,by rw[hfl (by rw[tb];exact cZ (by lia))]⟩
            ·rw[cZ h3];refine Y ?_;exact .inr ⟨_,rfl,by rw[hfl (by rw[tb];exact cZ (by lia))]⟩
           ·rw[cZ h1];refine Y ?_;exact .inr ⟨_,rfl,by rw[hfl (by rw[tb];exact cZ (by lia))]⟩
          |_=>
           refine Y ?_;exact .inr ⟨_,rfl,by rw[hfl rfl]⟩
         |_=>
          refine Y ?_;exact .inr ⟨_,rfl,by rw[hfl rfl]⟩
        ·refine Y ?_;refine W.ite (λ_=>?_) (λhb=>?_)
         ·refine Y ?_;exact .inr ⟨_,rfl,by rw[hfl (Xh h2)]⟩
         ·exact absurd hb (by simp;lia)
       |exc _ _=>cases hti
       |ob _ _=>cases hti
       |_=>
        refine Y ?_;exact .inr ⟨_,rfl,by rw[hfl rfl]⟩
      ·obtain⟨rfl,⟨a,rfl⟩,hI⟩:=hI;rw[Ik] at hI;have ha:ys.all (dB n)=true:=gb.mpr hI;rw[ha] at ew;obtain⟨e,ht⟩:=J3 ha;generalize f9 ys=ps at e ht ew;subst e;have t8:∀p∈ps,Ts.gP p:=λp hp=>by have:=ht p hp;exact⟨this.1,this.2.1,by lia⟩
       refine Y ?_;refine Cp (zoj t8) ?_;refine Y ?_;refine bW (d:=.bl (decide (ps=ss ps))) ?_ ?_
       ·show Option.map _ (dZ (cO 49) (ps.map bO) ((ss ps).map bO))=_;rw[Xp];rfl
       refine Y ?_;rw[ew,<-zla t8];rfl
     |exc _ _=>cases hy
     |ob _ _=>cases hy
     |_=>exact Y rfl
    ·have ew:nF (.tup [.int n,y])=false:=by
      cases y with
      |tup ys=>
       show (decide (1<=n/\n<=8)&&ys.all (dB n)&&jd (f9 ys))=false;rw[cZ hn];rfl
      |_=>rfl
     rw[ew];by_cases h1:1<=n
     ·rw[cT h1];refine Y ?_;rw[cZ (show ¬n<=8 by lia)];exact Y trivial
     ·rw[cZ h1];exact Y trivial
   |_=>exact Y rfl
  ·rw[Xl h2];refine Y ?_;refine W.ite (λ_=>?_) (λhb=>?_)
   ·exact Y trivial
   ·exact absurd hb (by simp;lia)
 |exc _ _=>cases h
 |ob _ _=>cases h
 |_=>exact Y rfl
theorem zg4{k':Nat}{o:SO}{n:Int}{ps:List (Int×Int)}(ho:jJ o)(h:Web n ps):W (call sub T (k'+2) true 35 [.l 0,.d (bQ n ps)]) [o] λv s=>∃(d:D) (o':SO),v=.d d/\s=[o']/\uZ d/\jJ o':=by
 refine W.call Yp rfl ?_;unfold QL bQ;have hs1:(1000:Nat)<=sizeLine:=by decide
 have h1:=h.h1;have h8:=h.h8;have hlen:=h.len;have hml:(ps.map bO).length=ps.length:=bJ ..;have hok:=Xq (ps:=ps);have hrw:∀z∈ps.map bO,nG z:=λz hz=>by
  obtain⟨p,_,rfl⟩:=fj.mp hz;exact rF (λx hx=>by
   simp only[cM,mK,lJ] at hx;rcases hx with rfl|rfl<;>rfl) (by simp)
 generalize ps.map bO=R at hml hok hrw;refine Y ?_;refine mO ho (by lia) (by lia) λr o1 hr hp=>?_;refine Y ?_;refine mO hp (by decide) (by decide) λr2 o2 hr2 hp=>?_;refine Y ?_;obtain⟨x,ex,hx⟩:=J_ (xs:=[.tup [.int 0,.int 0],.tup [.int 1,.int 0],.tup [.int 0,.int n],.tup [.int (-1),.int 0],.tup [.bl false,.bl true],.tup [.int 0,.bl true],.tup [.int 0],.tup [.int 0,.int 1,.int 2],.fl [.int 0,.int 1],.non]) (r:=r2) (by show r2<10;lia);have RP:fU x=true:=by
  simp only[cM,mK,lJ] at hx;rcases hx with rfl|rfl|rfl|rfl|rfl|rfl|rfl|rfl|rfl|rfl
  all_goals rfl
 refine bW ex ?_;clear ex hx;have l1:=Cw (xs:=R) (lo:=none) (hi:=some (r:Int));have l2:=Cw (xs:=R) (lo:=some ((r:Int)+1)) (hi:=none);have l3:=Cw (xs:=R) (lo:=some (r:Int)) (hi:=none);have l4:=Cw (xs:=R) (lo:=none) (hi:=some 1);have m1:∀y∈cut R none (some (r:Int)),fU y=true:=λy hy=>hok y (Cv hy);have m2:∀y∈cut R (some ((r:Int)+1)) none,fU y=true:=λy hy=>hok y (Cv hy);have m3:∀y∈cut R (some (r:Int)) none,fU y=true:=λy hy=>hok y (Cv hy);have m4:∀y∈cut R none (some 1),fU y=true:=λy hy=>hok y (Cv hy);have mx:∀y∈[x],fU y=true:=λy hy=>by rw[show y=x by simpa using hy];exact RP
 refine Y ?_;refine mO hp (by decide) (by decide) λr3 o3 RQ hp=>?_;refine Y ?_;refine WS.ite (λ_=>?_) (λ_=>?_)
 ·refine Y ?_;refine bW (qM (by show _+1<=_;lia)) ?_;refine Y ?_;refine bW (qM (by rw[cX];show _+1+_<=_;lia)) ?_;refine Y ?_;refine bW (qM (by show _+1<=_;lia)) ?_;refine Y ?_;refine bW (qM (by rw[cX];show _+1+_<=_;lia)) ?_;refine Y ?_;refine bW (qM (by lia)) ?_;refine Y ?_;refine bW (qM (by lia)) ?_;refine Y ?_;refine bW (qM (by lia)) ?_;refine Y ?_;refine bW (qM (by show _+1<=_;lia)) ?_;refine Y ?_;refine bW (qM (by rw[cX];show _+1+_<=_;lia)) ?_;refine Y ?_;refine mO hp (by decide) (by decide) λr4 o4 Zo hp=>?_;refine Y ?_;obtain⟨y,ey,hy⟩:=J_ (xs:=[.tup (cut R none (some (r:Int))++[x]++cut R (some ((r:Int)+1)) none),.tup (cut R none (some (r:Int))++[x]++cut R (some (r:Int)) none),.tup R.reverse,.fl R,.tup (R++cut R none (some 1)),.tup (cut R none (some (r:Int))++cut R (some ((r:Int)+1)) none),.tup [.tup R],.tup (cut R (some (r:Int)) none++cut R none (some (r:Int))),.tup (cut R none (some (r:Int))++[.tup [.int 0,.int 1]]++cut R (some (r:Int)) none)]) (r:=r4) (by show r4<9;lia);refine bW ey ?_;refine Y ?_;refine⟨_,_,rfl,rfl,u6 u5 ?_,hp⟩;clear ey;simp only[cM,mK,lJ] at hy;rcases hy with rfl|rfl|rfl|rfl|rfl|rfl|rfl|rfl|rfl
  ·exact rF (Qi m1 mx m2) (by rw[cX,cX];show _+1+_<=_;lia)
  ·exact rF (Qi m1 mx m3) (by rw[cX,cX];show _+1+_<=_;lia)
  ·exact rF (λy hy=>hok y (List.mem_reverse.mp hy)) (by rw[List.length_reverse];lia)
  ·exact⟨rfl,λys e=>by cases e⟩
  ·exact rF (Qj hok m4) (by rw[cX];lia)
  ·exact rF (Qj m1 m2) (by rw[cX];lia)
  ·exact rF (λy hy=>by rw[show y=.tup R by simpa using hy];exact gb.mpr λz hz=>J4 (hok z hz)) (by simp)
  ·exact rF (Qj m3 m1) (by rw[cX];lia)
  ·exact rF (Qi m1 (λy hy=>by rw[show y=.tup [.int 0,.int 1] by simpa using hy];rfl) m3) (by rw[cX,cX];show _+1+_<=_;lia)
 ·have rR:nG (.tup R):=rF hok (by lia);refine Y ?_;refine bW (zmZ (by lia) (by lia)) ?_;refine Y ?_;refine mO hp (by decide) (by decide) λr4 o4 Zo hp=>?_;refine Y ?_;obtain⟨y,ey,hy⟩:=J_ (xs:=[.tup [.int (n+1),.tup R],.tup [.int (n-1),.tup R],.tup [.bl true,.tup R],.tup [.int 9,.tup R],.tup [.int 0,.tup []],.tup [.non,.tup R],.fl [.int n,.tup R],.tup [.int n,.tup R,.int 0],.tup [.int n],.tup [.str (Str.ofString (toString n)),.tup R],.tup [.tup R,.int n],.tup R]) (r:=r4) (by show r4<12;lia);refine bW ey ?_;refine Y ?_;refine⟨_,_,rfl,rfl,?_,hp⟩;clear ey;simp only[cM,mK,lJ] at hy;rcases hy with rfl|rfl|rfl|rfl|rfl|rfl|rfl|rfl|rfl|rfl|rfl|rfl
  ·exact u6 u5 rR
  ·exact u6 u5 rR
  ·exact u6 ⟨rfl,λys e=>by cases e⟩ rR
  ·exact u6 u5 rR
  ·exact u6 u5 (rF (λx hx=>by cases hx) (by simp))
  ·exact u6 ⟨rfl,λys e=>by cases e⟩ rR
  ·exact⟨rfl,λx ys e=>by cases e⟩
  ·exact Ka λz hz=>by
    simp only[cM,mK,lJ] at hz;rcases hz with rfl|rfl|rfl
    ·exact u5
    ·exact rR
    ·exact u5
  ·exact Ka λz hz=>by rw[show z=.int n by simpa using hz];exact u5
  ·exact u6 ⟨rfl,λys e=>by cases e⟩ rR
  ·exact u6 rR u5
  ·exact Ka hrw
theorem Zq{k':Nat}{k a b:Int}:W (call sub T (k'+1) true 30 [.d (.int k),.d (.int a),.d (.int b)]) [] λv s=>v=.d (.int (gO k a b)):=W.eq (a:=.d (.int (gO k a b))) (s':=[]) rfl rfl
theorem Kz{r:List Int}{x:Int}:(((r.map D.int++[D.int x]).length:Nat):Int)=(r.length:Int)+1:=by simp
noncomputable def o_(n:Int)(ps:List (Int×Int)):List Int:=((List.range n.toNat).filter λ(i:Nat)=>ps.all λp=>decide (p.1≠(i:Int)/\p.2≠(i:Int))).map λ(i:Nat)=>(i:Int)
theorem zj3{k':Nat}{n k d:Int}{ps:List (Int×Int)}(h:Web n ps)(hk:1<=k)(hB:(n.toNat+1)*(k.toNat+1)^n.toNat+n.toNat<1000000000)(hd2:d<1000) :
  W (call sub T (k'+2) true 34 [.d (bQ n ps),.d (aM k d)]) [] λv s=>v=.d .non\/∃hs:List Int,v=.d (.tup (hs.map .int))/\(hs.length:Int)=n:=by
 refine W.call Yo rfl ?_;unfold QK;have hs1:(1000:Nat)<=sizeLine:=by decide
 have h1:=h.h1;have h8:=h.h8;have hlen:=h.len;have hwk:m5=1000000000000:=rfl;have hnil:ps.map bO=[]↔ps=[]:=List.map_eq_nil_iff;unfold bQ aM;by_cases c1:ps≠[]/\k<2*d
 ·refine Y ?_;refine bW (Wn (f:=not)) ?_;rw[cZ (λe=>c1.1 (hnil.mp e))];refine Y ?_;rw[cT c1.2];refine Y ?_;exact .inl rfl
 refine WS.cons (yp ?_);refine W.imp (P:=λx s1=>x=.d (.bl false)/\s1=[]) ?_ λx s1 hx=>?_
 ·refine Y ?_;refine bW (Wn (f:=not)) ?_;by_cases e:ps=[]
  ·rw[cT (hnil.mpr e)];refine Y ?_;exact⟨rfl,rfl⟩
  ·rw[cZ (λz=>e (hnil.mp z))];refine Y ?_;rw[cZ (λz=>c1 ⟨e,z⟩)];exact⟨rfl,rfl⟩
 obtain⟨rfl,rfl⟩:=hx;refine W.bool (WS.Ah ?_);refine Y ?_;refine wJ (λi τ s=>s=[]/\∃(ts:List Int) (a3 a4 a5:Option Xv),τ=[some (.d (.tup [.int n,.tup (ps.map bO)])),some (.d (.tup [.int k,.int d])),some (.d (.fl (ts.map .int))),a3,a4,a5,none,none,none,none]/\ts.length<=8*i) ⟨rfl,[],_,_,_,rfl,by simp⟩ (λi x τ s e hI=>?_) (λτ s hI=>?_)
 ·obtain⟨rfl,ts,a3,a4,a5,rfl,hl⟩:=hI;rw[je] at e;cases ep:ps[i]? with
  |none=>rw[ep] at e;cases e
  |some p=>
   rw[ep] at e;cases e;obtain⟨a,b⟩:=p;have hp:=gU ep;have hi:i<ps.length:=(jo.mp ep).1;refine Y ?_;refine nD (l:=List.range (n-0).toNat) (f:=λ(j:Nat)=>.int (0+j)) (λ(j:Nat)=>if (a,0+(j:Int))∈ps/\(b,0+(j:Int))∈ps then some (.int (0+j)) else none) (by rw[Ih];lia) ?_ (λj hj=>?_) ?_
   ·refine Y ?_;refine⟨by rw[uU (by lia) (by lia),uU (by lia) (by lia)];rfl,?_⟩;exact⟨rfl,rfl⟩
   ·refine Y ?_;refine bW (Wf (f:=id) (p:=(a,0+(j:Int)))) ?_;by_cases q1:(a,0+(j:Int))∈ps
    ·rw[cT q1];refine Y ?_;refine bW (Wf (f:=id) (p:=(b,0+(j:Int)))) ?_;refine Y ?_;refine⟨rfl,λhb=>?_,λhb=>?_⟩
     ·refine Y ?_;exact⟨rfl,_,rfl,by rw[if_pos ⟨q1,gj hb⟩]⟩
     ·rw[if_neg (λz=>absurd z.2 (H_ hb))]
    ·rw[cZ q1];refine Y ?_;refine⟨rfl,?_,λ_=>?_⟩
     ·intro hb;cases hb
     ·rw[if_neg (λz=>q1 z.1)]
   ·refine Y ?_;have e1:∀l:List Nat,∃us:List Int,l.filterMap (λ(j:Nat)=>if (a,0+(j:Int))∈ps/\(b,0+(j:Int))∈ps then some (D.int (0+j)) else none)=us.map .int/\us.length<=l.length:=by
     intro l
     induction l with
     |nil=>exact⟨[],rfl,cg _⟩
     |cons j r ih=>
      obtain⟨us,q1,q2⟩:=ih;rw[wU];by_cases z:(a,0+(j:Int))∈ps/\(b,0+(j:Int))∈ps
      ·rw[if_pos z,q1];exact⟨(0+(j:Int))::us,rfl,by simp;lia⟩
      ·rw[if_neg z,q1];exact⟨us,rfl,by simp;lia⟩
    obtain⟨us,q1,q2⟩:=e1 (List.range (n-0).toNat);rw[q1];rw[Ih] at q2;refine Cp (Ow ?_) ?_
    ·rw[bJ,bJ];lia
    refine Y ?_;exact⟨_,rfl,rfl,ts++us,_,_,some (.d (.fl (us.map .int))),by rw[jK];rfl,by rw[cX];lia⟩
 ·obtain⟨rfl,ts,a3,a4,a5,rfl,hl⟩:=hI;have hnt:ts.map D.int=[]↔ts=[]:=List.map_eq_nil_iff;by_cases c2:ts≠[]/\k<3*d
  ·refine Y ?_;refine bW (Cu (f:=not)) ?_;rw[cZ (λe=>c2.1 (hnt.mp e))];refine Y ?_;rw[cT c2.2];refine Y ?_;exact .inl rfl
  refine WS.cons (yp ?_);refine W.imp (P:=λx s1=>x=.d (.bl false)/\s1=[]) ?_ λx s1 hx=>?_
  ·refine Y ?_;refine bW (Cu (f:=not)) ?_;by_cases e:ts=[]
   ·rw[cT (hnt.mpr e)];refine Y ?_;exact⟨rfl,rfl⟩
   ·rw[cZ (λz=>e (hnt.mp z))];refine Y ?_;rw[cZ (λz=>c2 ⟨e,z⟩)];exact⟨rfl,rfl⟩
  obtain⟨rfl,rfl⟩:=hx;refine W.bool (WS.Ah ?_);refine Y ?_;refine nD (l:=List.range (n-0).toNat) (f:=λ(j:Nat)=>.int (0+j)) (λ(j:Nat)=>if (ps.all λp=>decide (p.1≠(j:Int)/\p.2≠(j:Int)))=true then some (.int j) else none) (by rw[Ih];lia) ?_ (λj hj=>?_) ?_
  ·refine Y ?_;refine⟨by rw[uU (by lia) (by lia),uU (by lia) (by lia)];rfl,?_⟩;exact⟨rfl,rfl⟩
  ·refine Y ?_;refine nD (l:=ps) (f:=bO) (λp=>if p.1=(j:Int)\/p.2=(j:Int) then some (bO p) else none) (by lia) ?_ (λp hp=>?_) ?_
   ·refine Y ?_;exact⟨rfl,rfl⟩
   ·obtain⟨a,b⟩:=p;refine Y ?_;refine⟨rfl,λhb=>?_,λhb=>?_⟩
    ·refine Y ?_;simp at hb;exact⟨rfl,_,rfl,by rw[if_pos hb]⟩
    ·simp at hb;rw[if_neg (by simp;lia)]
   ·refine Y ?_;refine bW (Cu (f:=id)) ?_;refine Y ?_;have hiff:(ps.filterMap (λp=>if p.1=(j:Int)\/p.2=(j:Int) then some (bO p) else none)=[])↔(ps.all λp=>decide (p.1≠(j:Int)/\p.2≠(j:Int)))=true:=by
     rw[mH,gb]
     constructor
     ·intro h p hp;have:=h p hp;apply cT;split at this
      ·cases this
      ·lia
     ·intro h p hp;have:=gj (h p hp);rw[if_neg (by lia)]
    refine⟨rfl,λhb=>?_,λhb=>?_⟩
    ·refine Y ?_;rw[if_pos (hiff.mp (gj hb))];exact⟨rfl,_,rfl,by congr 2;lia⟩
    ·rw[if_neg (λz=>absurd (hiff.mpr z) (H_ hb))]
  ·have el:(List.range (n-0).toNat).filterMap (λ(j:Nat)=>if (ps.all λp=>decide (p.1≠(j:Int)/\p.2≠(j:Int)))=true then some (D.int j) else none)=(o_ n ps).map .int:=by
    unfold o_;rw[jB,show n-0=n by lia];generalize List.range n.toNat=l
    induction l with
    |nil=>rfl
    |cons j r ih=>
     rw[wU,Il];cases q:(ps.all λp=>decide (p.1≠(j:Int)/\p.2≠(j:Int)))
     ·simp[ih]
     ·simp[ih]
   rw[el];generalize o_ n ps=ls;refine Y ?_;have hB0:left' (k.toNat+1) n.toNat [0]<=(n.toNat+1)*(k.toNat+1)^n.toNat+n.toNat:=by
    unfold left';have:=K7 (n.toNat+1) (Nat.sub_le ((k.toNat+1)^n.toNat) (val (k.toNat+1) [0] n.toNat))
    lia
   refine WS.wh (λm τ s=>∃(r:List Int) (x:Int) (a8 a9:Option Xv),τ=[some (.d (.tup [.int n,.tup (ps.map bO)])),some (.d (.tup [.int k,.int d])),some (.d (.fl (ts.map .int))),a3,a4,a5,some (.d (.fl (ls.map .int))),some (.l 0),a8,a9]/\s=[.lst (r.map .int++[.int x])]/\yD n k r x/\m=left' (k.toNat+1) n.toNat (r++[x])) (m:=left' (k.toNat+1) n.toNat [0]) (by lia) ⟨[],0,none,none,rfl,rfl,Qo (by lia) (by lia),rfl⟩ λm τ s hI=>?_;obtain⟨r,x,a8,a9,rfl,rfl,St,rfl⟩:=hI;have g1:=St.len;have g2:=St.x0;have g3:=St.xk;have hdig:∀z∈r,z<((k.toNat+1:Nat):Int):=λz hz=>by have:=St.lo z hz;lia
   refine Y ?_;refine bW (Xg (by lia) (by lia)) ?_;refine Y ?_;refine⟨λh0=>?_,λh0=>?_⟩
   ·have h0:at' (r++[x]) 0=0:=by simpa using h0
    by_cases cA:x=k\/(0<x/\(r.length:Int)∈ls)
    ·-- back
     have hne:r≠[]:=by
      rintro rfl;have:at' ([]++[x]) ((([]:List Int).length:Nat):Int)=x:=zke;have e0:at' ([]++[x]) 0=x:=this;rw[e0] at h0;rcases cA with e|e
      ·lia
      ·lia
     obtain⟨r',y,rfl⟩ : ∃r' y,r=r'++[y]:=⟨r.dropLast,r.getLast hne,(List.dropLast_concat_getLast hne).symm⟩;have hy:=St.lo y (by simp);have hl2:(r'.length:Int)+1<n:=by rw[cX] at g1;simpa using g1
     refine WS.cons (yp ?_);refine W.imp (P:=λv s1=>v=.d (.bl true)/\s1=[.lst ((r'++[y]).map .int++[.int x])]) ?_ λv s1 hv=>?_
     ·refine Y ?_;refine bW Ak ?_;refine Y ?_;by_cases e:x=k
      ·subst e;refine W.GK (by simp) ?_;refine Y ?_;exact⟨rfl,rfl⟩
      ·rcases cA with cA|cA
       ·exact absurd cA e
       refine W.Cq (by simp;exact e) ?_;refine Y ?_;refine bW Ak ?_;refine Y ?_;rw[cT cA.1];refine Y ?_;refine bW (Wo (f:=id)) ?_;rw[Kz,show ((r'++[y]).length:Int)+1-1=((r'++[y]).length:Int) by lia,cT cA.2];exact⟨rfl,rfl⟩
     obtain⟨rfl,rfl⟩:=hv;refine W.bool (WS.qK ?_);refine WS.cons (V7 ?_);refine W.pop (n:=0) (xs:=(r'++[y]).map .int) (x:=.int x) ?_;refine Y ?_;refine⟨rfl,rfl,?_⟩;rw[show [SO.lst ((r'++[y]).map D.int++[D.int x])].set 0 (.lst ((r'++[y]).map .int))=[.lst (r'.map .int++[.int y])] by rw[jK];rfl];refine Y ?_;refine bW (Cu (f:=id)) ?_;rw[cZ (by simp)];refine Y ?_;refine bW Ak ?_;refine Y ?_;refine oX.mk (a:=r'.length) ?_ ?_
     ·rw[cX,bJ];exact O5
     refine Y ?_;refine .inl ⟨_,left' (k.toNat+1) n.toNat (r'++[y+1]),rfl,?_,r',y+1,a8,a9,rfl,?_,zka St,rfl⟩
     ·exact zhC hy.1 (by lia) g2 (by lia) (λz hz=>hdig z (pB _ hz)) (by lia)
     ·have:(r'.map D.int++[D.int y]).set r'.length (.int (y+1))=r'.map .int++[.int (y+1)]:=by
       rw[List.set_append_right _ _ (by simp)];simp
      show [SO.lst ((r'.map D.int++[D.int y]).set r'.length (.int (y+1)))]=_;rw[this]
    ·-- on
     have hxk:x≠k:=λe=>cA (.inl e);refine WS.cons (yp ?_);refine W.imp (P:=λv s1=>v=.d (.bl false)/\s1=[.lst (r.map .int++[.int x])]) ?_ λv s1 hv=>?_
     ·refine Y ?_;refine bW Ak ?_;refine Y ?_;refine W.Cq (by simp;exact hxk) ?_;refine Y ?_;refine bW Ak ?_;refine Y ?_;by_cases e:0<x
      ·rw[cT e];refine Y ?_;refine bW (Wo (f:=id)) ?_;rw[Kz,show (r.length:Int)+1-1=(r.length:Int) by lia,cZ (λz=>cA (.inr ⟨e,z⟩))];exact⟨rfl,rfl⟩
      ·rw[cZ e];refine Y ?_;exact⟨rfl,rfl⟩
     obtain⟨rfl,rfl⟩:=hv;refine W.bool (WS.Ah ?_);refine Y ?_;refine nD (l:=ps) (f:=bO) (λp=>if p.2=(r.length:Int) then some (bO p) else none) (by lia) ?_ (λp hp=>?_) ?_
     ·refine Y ?_;exact⟨rfl,rfl⟩
     ·obtain⟨a,b⟩:=p;refine Y ?_;rw[Kz,show (r.length:Int)+1-1=(r.length:Int) by lia];refine⟨rfl,λhb=>?_,λhb=>?_⟩
      ·refine Y ?_;exact⟨rfl,_,rfl,by rw[if_pos (by simpa using hb)]⟩
      ·rw[if_neg (by simpa using hb)]
     ·have ef:ps.filterMap (λp=>if p.2=(r.length:Int) then some (bO p) else none)=(ps.filter λp=>decide (p.2=(r.length:Int))).map bO:=by
       generalize ps=l
       induction l with
       |nil=>rfl
       |cons p q ih=>
        rw[wU,Il];by_cases e:p.2=(r.length:Int)
        ·simp[e,ih]
        ·simp[e,ih]
      rw[ef];have hfl:(ps.filter λp=>decide (p.2=(r.length:Int))).length<=ps.length:=List.length_filter_le _ _;refine Y ?_;refine nD (l:=ps.filter λp=>decide (p.2=(r.length:Int))) (f:=bO) (λp=>if gO k (at' (r++[x]) p.1) x<d then some (bO p) else none) (by lia) ?_ (λp hp=>?_) ?_
      ·refine Y ?_;exact⟨rfl,rfl⟩
      ·obtain⟨hp1,hp2⟩:=wX.mp hp;have hp2:=gj hp2;have ht:=h.tie p hp1;obtain⟨a,b⟩:=p;dsimp only at hp2 ht;refine Y ?_;refine bW (Xg (by lia) (by lia)) ?_;refine Y ?_;refine bW Ak ?_;refine Y ?_;refine W.c0 Zq ?_;refine Y ?_;refine⟨rfl,λhb=>?_,λhb=>?_⟩
       ·refine Y ?_;exact⟨rfl,_,rfl,by rw[if_pos (gj hb)]⟩
       ·rw[if_neg (H_ hb)]
      ·refine Y ?_;refine bW (Cu (f:=not)) ?_;by_cases cN:∃p∈ps,p.2=(r.length:Int)/\gO k (at' (r++[x]) p.1) x<d
       ·rw[cZ (λz=>by
         obtain⟨p,hp,e1,e2⟩:=cN;have:=mH.mp z p (wX.mpr ⟨hp,cT e1⟩);rw[if_pos e2] at this;cases this)]
        refine Y ?_;refine bW Ak ?_;refine Y ?_;refine oX.mk (a:=r.length) ?_ ?_
        ·rw[cX,bJ];exact O5
        refine Y ?_;refine .inl ⟨_,left' (k.toNat+1) n.toNat (r++[x+1]),rfl,?_,r,x+1,_,_,rfl,?_,zjp St hxk,rfl⟩
        ·exact zh2 g2 (by lia) hdig (by lia)
        ·have:(r.map D.int++[D.int x]).set r.length (.int (x+1))=r.map .int++[.int (x+1)]:=by
          rw[List.set_append_right _ _ (by simp)];simp
         show [SO.lst ((r.map D.int++[D.int x]).set r.length (.int (x+1)))]=_;rw[this]
       ·have hN:∀p∈ps,p.2=(r.length:Int)->d<=gO k (at' (r++[x]) p.1) x:=λp hp e=>by
         by_cases z:gO k (at' (r++[x]) p.1) x<d
         ·exact absurd ⟨p,hp,e,z⟩ cN
         ·lia
        rw[cT (mH.mpr λp hp=>by
         obtain⟨hp1,hp2⟩:=wX.mp hp;have:=hN p hp1 (gj hp2);rw[if_neg (by lia)])]
        refine Y ?_;rw[Kz];by_cases cF:(r.length:Int)+1=n
        ·refine WS.GK (by simp;exact cF) ?_;refine Y ?_;refine .inr ⟨_,rfl,.inr ⟨r++[x],by rw[jK];rfl,by rw[cX];simp;lia⟩⟩
        ·refine WS.Cq (by simp;exact cF) ?_;refine Y ?_;refine⟨by rw[cX,bJ];simp;lia,?_⟩;refine Y ?_;refine .inl ⟨_,left' (k.toNat+1) n.toNat (r++[x]++[0]),rfl,zf9 (by rw[cX];simp;lia),r++[x],0,_,_,rfl,?_,zhp St hk hxk (by lia),rfl⟩;rw[jK];rfl
   ·have h0:at' (r++[x]) 0≠0:=by simpa using h0
    refine Y ?_;exact .inl rfl
theorem zmN{k':Nat}{n k d:Int}{ps:List (Int×Int)}{hs:List Int}(h:Web n ps)(hl:(hs.length:Int)=n):W (call sub T (k'+2) true 31 [.d (bQ n ps),.d (aM k d),.d (.tup (hs.map .int))]) [] λv s=>v=.d (.bl (mD k d ps hs)):=by
 refine W.call Yl rfl ?_;unfold QF bQ aM;have hs1:(100:Nat)<=sizeLine:=by decide
 have hlen:=h.len;have h8:=h.h8;refine Y ?_;refine nD (l:=ps) (f:=bO) (λp=>if d<=gO k (at' hs p.1) (at' hs p.2) then none else some (bO p)) (by lia) ?_ (λp hp=>?_) ?_
 ·refine Y ?_;exact⟨rfl,rfl⟩
 ·obtain⟨a,b⟩:=p;have ht:=h.tie _ hp;dsimp only at ht;refine Y ?_;refine bW (JF (by lia) (by lia)) ?_;refine Y ?_;refine bW (JF (by lia) (by lia)) ?_;refine Y ?_;refine W.c0 Zq ?_;refine Y ?_;refine⟨rfl,λhb=>?_,λhb=>?_⟩
  ·refine Y ?_;have hb:=gj hb;exact⟨rfl,_,rfl,by rw[if_neg (by lia)]⟩
  ·have hb:=H_ hb;rw[if_pos (by lia)]
 ·refine Y ?_;refine bW (Cu (f:=id)) ?_;show Xv.d (D.bl (decide _))=_
  congr 2
  rw[Bool.eq_iff_iff,decide_eq_true_iff,mH,iH]
  constructor
  ·intro h p hp;have:=h p hp;split at this
   ·assumption
   ·cases this
  ·intro h p hp;rw[if_pos (h p hp)]
noncomputable def qO:List D:=[.non,.bl true,.bl false,.int (-1),.str "1",.str "",.tup [],.fl [],.tup [.int 0],.fl [.int 0],.fd [.str "a"] [.int 1],.tup [.int 0,.int 1],.int 1000000000000000000000000000000,.tup [.int 0,.tup []],.tup [.str "ab"],.tup [.int 1,.tup [.tup [.int 0,.int 0]]]]
theorem znl{k:Nat}{o:SO}(ho:jJ o):W (call sub T (k+2) true 23 [.l 0]) [o] λv s=>∃d o',v=.d d/\s=[o']/\d∈qO/\jJ o':=by
 refine W.call Ye rfl ?_;unfold Qx;refine Y ?_;refine mO ho (by decide) (by decide) λr o' hr hp=>?_;refine Y ?_;have hr':r<qO.length:=by show r<16;lia
 refine bW (ud (x:=qO[r]) (fD (l:=qO) hr')) ?_;refine Y ?_;exact⟨_,_,rfl,rfl,nY _,hp⟩
theorem KC{k:Nat}{s:S}{o:SO}{m:Int}{P:Xv->S->Prop}(ho:jJ o)(hm:0<m)(hm2:m<1073741824)(h:∀(r:Nat) o',(r:Int)<m->jJ o'->P (.d (.int r)) (s++[o'])):W (cH (call sub T (k+1) true 21) [.l s.length,.d (.int m)]) (s++[o]) P:=by
 refine wK rfl ((Zg ho hm hm2).imp λv s1=>?_);rintro⟨d,o',rfl,rfl,⟨r,rfl,h0,h1⟩,hp⟩;obtain⟨n,rfl⟩:=CT h0;exact⟨_,_,rfl,rfl,h n o' h1 hp⟩
theorem Zr{xs:List D}{r:Nat}(hr:r<xs.length):∃x,prim .ix [.fl xs,.int r]=some (.dat x)/\x∈xs:=⟨xs[r],ud (fD hr),nY _⟩
theorem zjL{xs:List D}{z:Int}(h0:0<=z)(hz:z<xs.length):∃x,prim .ix [.fl xs,.int z]=some (.dat x)/\x∈xs:=by
 obtain⟨r,rfl⟩:=CT h0;exact Zr (by lia)
theorem zko{xs:List Int}{r:Nat}{q:Int->Prop}(hb:∀z∈xs,q z)(hr:r<xs.length):∃z:Int,prim .ix [.fl (xs.map .int),.int r]=some (.dat (.int z))/\q z:=
 ⟨xs[r],ud (by rw[je,fD hr];rfl),hb _ (nY _)⟩
def nJ(d:D):Prop:=fU d=true/\∀xs,d=.tup xs->xs.length<=100
theorem Hv{xs:List D}(h:∀x∈xs,iK x=true)(hl:xs.length<=100):nJ (.tup xs):=⟨gb.mpr h,λys e=>by cases e;exact hl⟩
theorem Ay{is:List Int}(hl:is.length<=100):nJ (.tup (is.map .int)):=Hv (λx hx=>by obtain⟨i,_,rfl⟩:=fj.mp hx;rfl) (by rw[bJ];exact hl)
theorem Zu{k':Nat}{o:SO}{row:List Int}{kk:Int}(ho:jJ o)(hl:row.length<=8)(hk:1<=kk)(hk2:kk<=1000):W (call sub T (k'+2) true 36 [.l 0,.d (.tup (row.map .int)),.d (.int kk)]) [o] λv s=>∃(d:D) (o':SO),v=.d d/\s=[o']/\nJ d/\jJ o':=by
 refine W.call Yq rfl ?_;unfold QM;have hs1:(100:Nat)<=sizeLine:=by decide
 have hml:(row.map D.int).length=row.length:=bJ ..;refine Y ?_;refine mO ho (by lia) (by lia) λr o1 hr hp=>?_;refine Y ?_;refine mO hp (by lia) (by lia) λr2 o2 hr2 hp=>?_;refine Y ?_;refine mO hp (by decide) (by decide) λr3 o3 RQ hp=>?_;refine Y ?_;obtain⟨x,ex,hx⟩:=Zr (xs:=[.bl true,.bl false,.non,.int (-1),.int kk,.str "0",.tup [.int 0],.int r2]) (r:=r3) (by show r3<8;lia);have RP:iK x=true:=by
  simp only[cM,mK,lJ] at hx;rcases hx with rfl|rfl|rfl|rfl|rfl|rfl|rfl|rfl
  all_goals rfl
 refine bW ex ?_;clear ex hx;have l1:=Cw (xs:=row.map D.int) (lo:=none) (hi:=some (r:Int));have l2:=Cw (xs:=row.map D.int) (lo:=some ((r:Int)+1)) (hi:=none);have m1:∀y∈cut (row.map D.int) none (some (r:Int)),iK y=true:=λy hy=>by obtain⟨i,_,rfl⟩:=fj.mp (Cv hy);rfl
 have m2:∀y∈cut (row.map D.int) (some ((r:Int)+1)) none,iK y=true:=λy hy=>by obtain⟨i,_,rfl⟩:=fj.mp (Cv hy);rfl
 refine Y ?_;refine bW (qM (by show _+1<=_;lia)) ?_;refine Y ?_;refine bW (qM (by rw[cX];show _+1+_<=_;lia)) ?_;refine Y ?_;refine bW (qM (by lia)) ?_;refine Y ?_;refine bW (qM (by show _+1<=_;lia)) ?_;refine Y ?_;refine mO hp (by decide) (by decide) λr4 o4 Zo hp=>?_;refine Y ?_;obtain⟨z,ez,hz⟩:=zko (xs:=[0,0,0,0,1,2,3,4,5]) (r:=r4) (q:=λz=>0<=z/\z<6) (by decide) (by show r4<9;lia);refine bW ez ?_;refine Y ?_;obtain⟨y,ey,hy⟩:=zjL (xs:=[.tup (cut (row.map D.int) none (some (r:Int))++[x]++cut (row.map D.int) (some ((r:Int)+1)) none),.tup (cut (row.map D.int) none (some (r:Int))++cut (row.map D.int) (some ((r:Int)+1)) none),.tup (row.map .int++[.int 0]),.fl (row.map .int),.non,.tup [.tup (row.map .int)]]) hz.1 (by show z<6;exact hz.2);refine bW ey ?_;refine Y ?_;refine⟨_,_,rfl,rfl,?_,hp⟩;have mi:∀y∈row.map D.int,iK y=true:=λy hy=>by obtain⟨i,_,rfl⟩:=fj.mp hy;rfl
 simp only[cM,mK,lJ] at hy;rcases hy with rfl|rfl|rfl|rfl|rfl|rfl
 ·refine Hv (λy hy=>?_) (by rw[cX,cX];show _+1+_<=_;lia);rcases fG.mp hy with hy|hy
  ·rcases fG.mp hy with hy|hy
   ·exact m1 y hy
   ·have:y=x:=by simpa using hy
    rw[this];exact RP
  ·exact m2 y hy
 ·refine Hv (λy hy=>?_) (by rw[cX];lia);rcases fG.mp hy with hy|hy
  ·exact m1 y hy
  ·exact m2 y hy
 ·refine Hv (λy hy=>?_) (by rw[cX];show _+1<=_;lia);rcases fG.mp hy with hy|hy
  ·exact mi y hy
  ·have:y=.int 0:=by simpa using hy
   rw[this];rfl
 ·exact⟨rfl,λxs e=>by cases e⟩
 ·exact⟨rfl,λxs e=>by cases e⟩
 ·exact Hv (λy hy=>by rw[show y=.tup (row.map .int) by simpa using hy];rfl) (by simp)
theorem zl2{x:D}(hx:x∈qO):nJ x:=by
 simp only[qO,cM,mK,lJ] at hx;rcases hx with rfl|rfl|rfl|rfl|rfl|rfl|rfl|rfl|rfl|rfl|rfl|rfl|rfl|rfl|rfl|rfl
 all_goals exact⟨rfl,λxs e=>by cases e<;>decide⟩
noncomputable def eG:List (Int×Int):=[(2,1),(3,1),(5,2),(4,1),(7,3),(7,2),(4,2),(6,2),(10,4),(5,1),(8,3),(3,2)]
theorem zjP{k':Nat}{o:SO}(ho:jJ o):W (call sub T (k'+2) true 28 [.l 0]) [o] λv s=>∃(k d:Int) (o':SO),v=.d (aM k d)/\s=[o']/\(1<=d/\d<=k/\k<=10)/\jJ o':=by
 refine W.call Yj rfl ?_;unfold QC;refine Y ?_;refine mO ho (by decide) (by decide) λr o' hr hp=>?_;refine Y ?_;refine WS.ite (λ_=>?_) (λ_=>?_)
 ·refine Y ?_;refine mO hp (by decide) (by decide) λr2 o2 hr2 hp2=>?_;refine Y ?_;have hk:1<=1+(r2:Int)%10/\1+(r2:Int)%10<=10:=by lia
  generalize 1+(r2:Int)%10=k at hk;refine mO hp2 (by lia) (by lia) λr3 o3 RQ hp3=>?_;refine Y ?_;refine⟨_,_,_,rfl,rfl,?_,hp3⟩
  split<;>lia
 ·refine Y ?_;refine mO hp (by decide) (by decide) λr2 o2 hr2 hp2=>?_;refine Y ?_;have hr':r2<eG.length:=by show r2<12;lia
  refine bW (ud (x:=aM eG[r2].1 eG[r2].2) ?_) ?_
  ·have:(eG.map λp=>aM p.1 p.2)[r2]?=some (aM eG[r2].1 eG[r2].2):=by rw[je,fD hr'];rfl
   exact this
  refine Y ?_;have key:∀p∈eG,1<=p.2/\p.2<=p.1/\p.1<=10:=by decide
  exact⟨_,_,_,rfl,rfl,key _ (nY _),hp2⟩
section
variable {n:Int}{ps:List (Int×Int)}
end
section
variable {n k d:Int}{ps:List (Int×Int)}{hs:List Int}{w r x:D}
theorem Zv{k':Nat}(h:Web n ps)(hx:fU x=true)(hl:∀xs,x=.tup xs->xs.length<=200):W (call sub T (k'+5) true 16 [.d (bQ n ps),.d (aM k d),.d x]) [] λv s=>v=.d (.bl (uy n k d ps x)):=by
 refine W.call X8 rfl ?_;unfold Qs;refine Y ?_;refine W.c0 (zff hx hl) ?_;cases hsp:qN n k x
 ·rw[Qn hsp];exact Y trivial
 ·obtain⟨hs,rfl,hl',hlo⟩:=Ql hsp;rw[Ke hl' hlo];refine Y ?_;refine W.c0 (zjA h hl') ?_;unfold Kc;cases hc:u9 k d ps hs with
  |nil=>
   rw[ux.mp hc];exact Y rfl
  |cons p q=>
   have:mD k d ps hs=false:=by
    cases hf:mD k d ps hs
    ·rfl
    ·rw[ux.mpr hf] at hc;cases hc
   rw[this];exact Y rfl
theorem zfr{k':Nat}(h:Web n ps)(hx:fU x=true)(hl:∀xs,x=.tup xs->xs.length<=200):W (call sub T (k'+3) true 33 [.d (bQ n ps),.d (aM k d),.d x]) [] λv s=>v=.d (.bl (uy n k d ps x)):=by
 refine W.call Yn rfl ?_;unfold QJ;have ew:bQ n ps=.tup [.int n,.tup (ps.map bO)]:=rfl;have er:aM k d=.tup [.int k,.int d]:=rfl;refine Y ?_;refine W.c0 (Zk hx hl) ?_;cases hsp:qN n k x
 ·rw[Qn hsp];exact Y trivial
 ·obtain⟨hs,rfl,hl',hlo⟩:=Ql hsp;rw[Ke hl' hlo];refine Y ?_;exact W.bY rfl ((zmN h hl').imp λv s e=>⟨_,e,rfl⟩)
theorem zlH{k':Nat}(hw:uZ w)(h:nF w=false):WR (call sub T (k'+8) true 17 [.d w,.d r,.d x]) [] 9 [.int (-1)]:=by
 refine WR.call Hr rfl ?_;unfold Cz;refine qL (JD ?_ λs'=>⟨⟨_,_,_,rfl⟩,_,rfl⟩);refine yt ?_;refine Y ?_;exact WR.bY rfl (zhA hw h)
theorem ziK{k':Nat}(hw:uZ w)(h:nF w=true)(hr:fU r=true)(hb:qg r=false):WR (call sub T (k'+8) true 17 [.d w,.d r,.d x]) [] 1 []:=by
 refine WR.call Hr rfl ?_;unfold Cz;refine Y ?_;refine W.c1 (RN hw h) λ_=>?_;refine qL (JD ?_ λs'=>⟨⟨_,_,_,rfl⟩,_,rfl⟩);refine yt ?_;refine Y ?_;exact WR.bY rfl (zgA hr hb)
theorem zkd{k':Nat}(h:Web n ps)(hr:1<=d/\d<=k/\k<=24)(hx:fU x=true)(hl:∀xs,x=.tup xs->xs.length<=200)(hb:uy n k d ps x=false):WR (call sub T (k'+8) true 17 [.d (bQ n ps),.d (aM k d),.d x]) [] 2 []:=by
 refine WR.call Hr rfl ?_;unfold Cz;refine Y ?_;refine W.c1 (RN (yG h) (Xm h)) λ_=>?_;refine Y ?_;refine W.c1 (Zm rfl (Qk hr)) λ_=>?_;refine qL ?_;refine Y ?_;refine W.c0 (Zv h hx hl) ?_;rw[hb];refine W.bool (W.bool (WS.qK (qL ?_)));refine Y ?_;exact⟨⟨_,_,_,rfl⟩,⟨_,_,_,rfl⟩,_,rfl⟩
theorem Zw{k':Nat}(h:Web n ps)(hr:1<=d/\d<=k/\k<=24)(hx:fU x=true)(hl:∀xs,x=.tup xs->xs.length<=200)(hb:uy n k d ps x=true):W (call sub T (k'+8) true 17 [.d (bQ n ps),.d (aM k d),.d x]) [] λv s=>∃d,v=.d d:=by
 refine W.call Hr rfl ?_;unfold Cz;refine Y ?_;refine W.c1 (RN (yG h) (Xm h)) λ_=>?_;refine Y ?_;refine W.c1 (Zm rfl (Qk hr)) λ_=>?_;refine Y ?_;refine W.c0 (Zv h hx hl) ?_;rw[hb];refine Y ?_;exact⟨_,rfl⟩
end
noncomputable def lq(i:Int)(k m:Int)(hs:List Int):List Int:=if i=0 then hs.map (λx=>(x+m)%k) else hs.map λx=>-x%k
theorem zlT(hs:List Int):cO 50 (.tup (hs.map D.int)) (.tup (hs.map D.int))=some true:=Xy hs
section
variable {n k d m:Int}{ps:List (Int×Int)}{hs:List Int}{w r x:D}
theorem zie{k':Nat}(h:Web n ps)(hr:1<=d/\d<=k/\k<=24)(hh:uh n k d ps hs):W (call sub T (k'+9) true 12 [.d (bQ n ps),.d (aM k d),.d (.tup (hs.map .int)),.d (.int m)]) [] λv s=>v=.d (.tup ((hs.map λx=>(x+m)%k).map .int)):=by
 refine W.call QZ rfl ?_;unfold Kg;have hs1:(1000:Nat)<=sizeLine:=by decide
 have h8:=h.h8;have hl:=hh.len;have er:aM k d=.tup [.int k,.int d]:=rfl;have hx:=Ay (is:=hs) (by lia);refine Y ?_;refine W.c1 (Zw h hr hx.1 (λxs e=>by have:=hx.2 xs e;lia) (Xx hh)) λ_=>?_;refine Y ?_;refine nD (l:=hs) (f:=D.int) (λx=>some (.int ((x+m)%k))) (by lia) ?_ (λx hx=>?_) ?_
 ·refine Y ?_;exact⟨rfl,rfl⟩
 ·refine Y ?_;refine⟨rfl,λ_=>?_,λhb=>by cases hb⟩;refine Y ?_;exact⟨rfl,_,rfl,rfl⟩
 rw[uo];refine Y ?_;rw[jB];rfl
theorem zl6{k':Nat}(h:Web n ps)(hr:1<=d/\d<=k/\k<=24)(hh:uh n k d ps hs):W (call sub T (k'+9) true 13 [.d (bQ n ps),.d (aM k d),.d (.tup (hs.map .int))]) [] λv s=>v=.d (.tup ((hs.map λx=>-x%k).map .int)):=by
 have hs1:(1000:Nat)<=sizeLine:=by decide
 have h8:=h.h8;have hl:=hh.len;have er:aM k d=.tup [.int k,.int d]:=rfl;have hx:=Ay (is:=hs) (by lia);have key:∀kk,W (call sub T (kk+1) true 14 [.d (aM k d),.d (.tup (hs.map .int))]) [] λv s=>v=.d (.tup ((hs.map λx=>-x%k).map .int)):=λkk=>by
  refine W.call X6 rfl ?_;unfold Qp;refine Y ?_;refine nD (l:=hs) (f:=D.int) (λx=>some (.int (-x%k))) (by lia) ?_ (λx hx=>?_) ?_
  ·refine Y ?_;exact⟨rfl,rfl⟩
  ·refine Y ?_;refine⟨rfl,λ_=>?_,λhb=>by cases hb⟩;refine Y ?_;exact⟨rfl,_,rfl,rfl⟩
  rw[uo];refine Y ?_;rw[jB];rfl
 refine W.call Q0 rfl ?_;unfold Kh;refine Y ?_;refine W.c1 (Zw h hr hx.1 (λxs e=>by have:=hx.2 xs e;lia) (Xx hh)) λ_=>?_;refine Y ?_;exact W.bY rfl ((key _).imp λv s e=>⟨_,e,rfl⟩)
theorem zih{k' c:Nat}{fs:List D}{y:D}(h:WR (call sub T (k'+8) true 17 [.d w,.d r,.d x]) [] c fs):WR (call sub T (k'+9) true 12 [.d w,.d r,.d x,.d y]) [] c fs:=by
 refine WR.call QZ rfl ?_;unfold Kg;refine qL (JD ?_ λs'=>⟨⟨_,_,_,rfl⟩,_,rfl⟩);refine yt ?_;refine Y ?_;exact WR.bY rfl h
theorem zmC{k' c:Nat}{fs:List D}(h:WR (call sub T (k'+8) true 17 [.d w,.d r,.d x]) [] c fs):WR (call sub T (k'+9) true 13 [.d w,.d r,.d x]) [] c fs:=by
 refine WR.call Q0 rfl ?_;unfold Kh;refine qL (JD ?_ λs'=>⟨⟨_,_,_,rfl⟩,_,rfl⟩);refine yt ?_;refine Y ?_;exact WR.bY rfl h
theorem zmI{k':Nat}{i:Int}(hi:i=0\/i=1)(h:Web n ps)(hr:1<=d/\d<=k/\k<=24)(hh:uh n k d ps hs):W (call sub T (k'+10) true 38 [.d (.int i),.d (bQ n ps),.d (aM k d),.d (.tup (hs.map .int)),.d (.int m)]) [] λv s=>v=.d (.tup [.str "told",.tup ((lq i k m hs).map .int)]):=by
 refine W.call Q5 rfl ?_;unfold Kl;refine WS.cons (Kbn ?_);rcases hi with rfl|rfl
 ·refine Y ?_;refine W.c0 (zie h hr hh) ?_;refine Y ?_;exact⟨⟨_,rfl⟩,rfl⟩
 ·refine Y ?_;refine W.c0 (zl6 h hr hh) ?_;refine Y ?_;exact⟨⟨_,rfl⟩,rfl⟩
theorem zli{k' c:Nat}{i:Int}{fs:List D}{t:Str}{y:D}(hi:i=0\/i=1)(h:WR (call sub T (k'+8) true 17 [.d w,.d r,.d x]) [] c fs)(hc:sub c 0=true)(hk:W (call sub T (k'+9) false 24 [.d (.exc c fs)]) [] λv s=>v=.d (.str t)):W (call sub T (k'+10) true 38 [.d (.int i),.d w,.d r,.d x,.d y]) [] λv s=>v=.d (.tup [.str t,.non]):=by
 refine W.call Q5 rfl ?_;unfold Kl;refine WS.cons (Kbo ?_);rcases hi with rfl|rfl
 ·refine qL (yp (Ox (GJ (W.eV rfl (GJ (W.eC (Jz ?_)))))));refine GF (Ag (GF (Ag (Ou (bW rfl (W.bool (WS.qK ?_)))))));refine qL (Wa (c:=c) (fs:=fs) ?_ λs'=>⟨⟨_,_,_,rfl⟩,⟨_,_,_,rfl⟩,_,_,_,rfl,hc,?_⟩)
  ·refine Cr ?_;refine yt ?_;refine Y ?_;refine Cr ?_;refine Cr ?_;refine yt ?_;refine Y ?_;exact WR.bY rfl (zih h)
  ·refine Y ?_;refine W.c0 hk ?_;refine Y ?_;exact⟨⟨_,rfl⟩,rfl⟩
 ·refine WS.cons (yp (Ox (GJ (W.eV rfl (GJ (W.eC (Jz ?_)))))));refine GF (Ag (GF (Ag (Ou (bW rfl (W.bool (WS.Ah (WS.nil ?_))))))));refine qL (Wa (c:=c) (fs:=fs) ?_ λs'=>⟨⟨_,_,_,rfl⟩,_,_,_,rfl,hc,?_⟩)
  ·refine Cr ?_;refine yt ?_;refine Y ?_;refine Cr ?_;refine Cr ?_;refine yt ?_;refine Y ?_;exact WR.bY rfl (zmC h)
  ·refine Y ?_;refine W.c0 hk ?_;refine Y ?_;exact⟨⟨_,rfl⟩,rfl⟩
theorem znr{i:Int}(hk:1<=k):∀x∈lq i k m hs,0<=x/\x<k:=by
 intro x hx;unfold lq at hx;split at hx
 ·obtain⟨y,_,rfl⟩:=fj.mp hx;exact⟨Dl _ (by lia),HY _ (by lia)⟩
 ·obtain⟨y,_,rfl⟩:=fj.mp hx;exact⟨Dl _ (by lia),HY _ (by lia)⟩
theorem zlq{i:Int}:(lq i k m hs).length=hs.length:=by unfold lq;split<;>rw[bJ]
end
section
variable {n k d m:Int}{ps:List (Int×Int)}{hs:List Int}{w r x:D}
theorem Az{k':Nat}(hw:uZ w)(hr:fU r=true)(hx:nJ x):W (call sub T (k'+11) true 39 [.d w,.d r,.d x,.d (.int m)]) [] λv s=>v=.d (.bl true):=by
 have hs1:(1000:Nat)<=sizeLine:=by decide
 have Ky:∀xs,x=.tup xs->xs.length<=200:=λxs e=>by have:=hx.2 xs e;lia
 refine W.call Ys rfl ?_;unfold QT;have no:∀{c:Nat} {fs:List D} {t:Str},(∀kk,WR (call sub T (kk+8) true 17 [.d w,.d r,.d x]) [] c fs)->sub c 0=true->(∀kk,W (call sub T (kk+1) false 24 [.d (.exc c fs)]) [] λv s=>v=.d (.str t))->∀kk i:Nat,i<2->W (call sub T (kk+10) true 38 [.d (.int (0+(i:Int))),.d w,.d r,.d x,.d (.int m)]) [] λv s=>v=.d (.tup [.str t,.non]):=λh hc hk kk i hi=>zli (by lia) (h kk) hc (hk _);refine Y ?_;refine W.c0 (zhZ hw.1 hw.2) ?_;cases hb:nF w
 ·have tr:=no (λkk=>zlH hw hb) rfl (λkk=>ziN);refine Y ?_;refine⟨rfl,?_⟩;refine wJ (λi τ s=>s=[]/\∃(a b c e:Option Xv),τ=[some (.d w),some (.d r),some (.d x),some (.d (.int m)),some (.d (.str "web")),a,b,c,e]) ⟨rfl,_,_,_,_,rfl⟩ (λi x τ s e hI=>?_) (λτ s hI=>?_)
  ·obtain⟨rfl,a,b,c,e',rfl⟩:=hI;obtain⟨rfl,hi⟩:=Aj e;refine Y ?_;refine W.c0 (tr k' i (by lia)) ?_;refine Y ?_;exact⟨_,rfl,rfl,_,_,_,_,rfl⟩
  ·obtain⟨rfl,a,b,c,e',rfl⟩:=hI;exact Y trivial
 refine Y ?_;refine W.c0 (zf8 hr) ?_;cases hg:qg r
 ·have tr:=no (λkk=>ziK hw hb hr hg) rfl (λkk=>zjo);refine Y ?_;refine⟨rfl,?_⟩;refine wJ (λi τ s=>s=[]/\∃(a b c e:Option Xv),τ=[some (.d w),some (.d r),some (.d x),some (.d (.int m)),some (.d (.str "ring")),a,b,c,e]) ⟨rfl,_,_,_,_,rfl⟩ (λi x τ s e hI=>?_) (λτ s hI=>?_)
  ·obtain⟨rfl,a,b,c,e',rfl⟩:=hI;obtain⟨rfl,hi⟩:=Aj e;refine Y ?_;refine W.c0 (tr k' i (by lia)) ?_;refine Y ?_;exact⟨_,rfl,rfl,_,_,_,_,rfl⟩
  ·obtain⟨rfl,a,b,c,e',rfl⟩:=hI;exact Y trivial
 obtain⟨n,ps,rfl,h⟩:=zmu hb;obtain⟨k,d,rfl,hrk⟩:=zjl hg;refine Y ?_;refine W.c0 (zfr h hx.1 Ky) ?_;cases hu:uy n k d ps x
 ·have tr:=no (λkk=>zkd h hrk hx.1 Ky hu) rfl (λkk=>zjJ);refine Y ?_;refine⟨rfl,?_⟩;refine wJ (λi τ s=>s=[]/\∃(a b c e:Option Xv),τ=[some (.d (bQ n ps)),some (.d (aM k d)),some (.d x),some (.d (.int m)),some (.d (.str "hues")),a,b,c,e]) ⟨rfl,_,_,_,_,rfl⟩ (λi x τ s e hI=>?_) (λτ s hI=>?_)
  ·obtain⟨rfl,a,b,c,e',rfl⟩:=hI;obtain⟨rfl,hi⟩:=Aj e;refine Y ?_;refine W.c0 (tr k' i (by lia)) ?_;refine Y ?_;exact⟨_,rfl,rfl,_,_,_,_,rfl⟩
  ·obtain⟨rfl,a,b,c,e',rfl⟩:=hI;exact Y trivial
 obtain⟨hs,rfl,hh⟩:=zjg hu;have hl:=hh.len;have h8:=h.h8;have ew:bQ n ps=.tup [.int n,.tup (ps.map bO)]:=rfl;have er:aM k d=.tup [.int k,.int d]:=rfl;refine Y ?_;refine⟨rfl,?_⟩;refine wJ (λi τ s=>∃(a b c e:Option Xv),τ=[some (.d (bQ n ps)),some (.d (aM k d)),some (.d (.tup (hs.map .int))),some (.d (.int m)),some (.d (.str "told")),a,b,c,e]) ⟨_,_,_,_,rfl⟩ (λi x τ s e hI=>?_) (λτ s hI=>?_)
 ·obtain⟨a,b,c,e',rfl⟩:=hI;obtain⟨rfl,hi⟩:=Aj e;have hi2:(0:Int)+i=0\/(0:Int)+i=1:=by lia
  have htl:(lq (0+(i:Int)) k m hs).length=hs.length:=zlq;have tw:∀kk,W (call sub T (kk+10) true 38 [.d (.int (0+(i:Int))),.d (bQ n ps),.d (aM k d),.d (.tup (hs.map .int)),.d (.int m)]) [] λv s=>v=.d (.tup [.str "told",.tup ((lq (0+(i:Int)) k m hs).map .int)]):=λkk=>zmI hi2 h hrk hh;refine Y ?_;refine W.c0 (tw k') ?_;refine Y ?_;refine nD (l:=hs) (f:=D.int) (λx=>some (.int ((x+m)%k))) (by lia) ?_ (λx hx=>?_) ?_
  ·refine Y ?_;exact⟨rfl,rfl⟩
  ·refine Y ?_;refine⟨rfl,λ_=>?_,λhb=>by cases hb⟩;refine Y ?_;exact⟨rfl,_,rfl,rfl⟩
  rw[uo];refine Y ?_;refine nD (l:=hs) (f:=D.int) (λx=>some (.int ((k-x)%k))) (by lia) ?_ (λx hx=>?_) ?_
  ·refine Y ?_;exact⟨rfl,rfl⟩
  ·refine Y ?_;refine⟨rfl,λ_=>?_,λhb=>by cases hb⟩;refine Y ?_;exact⟨rfl,_,rfl,rfl⟩
  rw[uo];refine Y ?_;refine⟨by show 1<_;lia,?_⟩;rw[zh4];refine Y ?_;have e0:hs.map (λx=>D.int ((x+m)%k))=(lq 0 k m hs).map .int:=by
   unfold lq;rw[if_pos rfl,jB];rfl
  have e1:hs.map (λx=>D.int ((k-x)%k))=(lq 1 k m hs).map .int:=by
   unfold lq;rw[if_neg (by decide),jB];refine Bd λx _=>?_;show D.int ((k-x)%k)=D.int (-x%k);rw[Int.neg_emod_eq_sub_emod]
  rw[e0,e1];refine bW (d:=.tup ((lq (0+(i:Int)) k m hs).map .int)) ?_ ?_
  ·rcases hi2 with e|e
   ·rw[e];exact ud (i:=0) rfl
   ·rw[e];exact ud (i:=1) rfl
  refine Y ?_;refine bW (d:=.bl false) ?_ ?_
  ·show Option.map _ (cO 50 (.tup ((lq (0+(i:Int)) k m hs).map .int)) (.tup ((lq (0+(i:Int)) k m hs).map .int)))=_;rw[zlT];rfl
  refine Y ?_;have ho:=Ay (is:=lq (0+(i:Int)) k m hs) (by lia);refine W.c0 (Zk ho.1 (λxs e=>by have:=ho.2 xs e;lia)) ?_;rw[Xw (by lia) (znr (by lia))];refine Y ?_;refine W.c0 (tw k') ?_;refine Y ?_;refine bW (d:=.bl false) ?_ ?_
  ·show Option.map _ (cO 50 (.tup [.str "told",.tup ((lq (0+(i:Int)) k m hs).map .int)]) (.tup [.str "told",.tup ((lq (0+(i:Int)) k m hs).map .int)]))=_;have e2:cO 49 (.tup ((lq (0+(i:Int)) k m hs).map .int)) (.tup ((lq (0+(i:Int)) k m hs).map .int))=some true:=Xy _;have e3:cO 49 (.str "told") (.str "told")=some true:=rfl;show Option.map _ (dZ (cO 49) [.str "told",.tup ((lq (0+(i:Int)) k m hs).map .int)] [.str "told",.tup ((lq (0+(i:Int)) k m hs).map .int)])=_;simp only[dZ,e2,e3];rfl
  refine Y ?_;exact⟨_,rfl,_,_,_,_,rfl⟩
 ·obtain⟨a,b,c,e',rfl⟩:=hI;exact Y trivial
end
theorem uz(ns:List Int)(hn:ns.length<=63):∃s',call sub T 60 true 40 [.d (.fl (ns.map D.int))] []=some (.ok (.d (.bl true)),s'):=by
 suffices h:W (call sub T 60 true 40 [.d (.fl (ns.map D.int))]) [] λv _=>v=.d (.bl true) by
  obtain⟨v,s',e,rfl⟩:=h;exact⟨s',e⟩
 have hs:(1000:Nat)<=sizeLine:=by decide
 refine W.call (k:=59) Yt rfl ?_;unfold QV;have w2:Web 2 [(0,1)]:=⟨by lia,by lia,by simp,by simp,by simp⟩;have w1:Web 1 []:=⟨by lia,by lia,by simp,by simp,by simp⟩;refine Y ?_;refine W.c0 (Az (k':=48) (yG w2) rfl (Ay (is:=[0,2]) (by decide))) ?_;refine Y ?_;refine W.c0 (Az (k':=48) (yG w1) rfl (Ay (is:=[0]) (by decide))) ?_;refine Y ?_;refine W.bY rfl ((zk7 (k:=58)).imp λv _=>?_);rintro⟨n0,rfl⟩;refine⟨_,rfl,?_⟩;refine Y ?_;refine Cp (Ow ?_) ?_
 ·have:=zjM (ns:=ns) (lo:=some 1) (hi:=some 5);show 1+_<=_
  lia
 refine Y ?_;refine wJ (λ_ τ s=>∃(a b c d e f g h:Option Xv),τ=[some (.d (.fl (ns.map D.int))),a,b,c,d,e,f,g,h]) ⟨_,_,_,_,_,_,_,_,rfl⟩ (λi x τ s hx hτ=>?_) (λτ s hτ=>?_)
 ·obtain⟨m,rfl⟩ : ∃m,x=.int m:=by
   rcases fG.mp (gU hx) with z|z
   ·rcases cM.mp z with rfl|z
    ·exact⟨_,rfl⟩
    ·cases z
   ·exact zjT z
  obtain⟨a,b,c,d,e,f,g,h,rfl⟩:=hτ;refine Y ?_;refine Kak rfl ((znv (k:=58)).imp λv s1=>?_);rintro⟨j0,o,rfl,hj,hp⟩;refine⟨j0,o,rfl,hj,?_⟩;refine Y ?_;refine wK rfl ((zkA (k:=57) hp).imp λv s1=>?_);rintro⟨z,o1,rfl,rfl,⟨hz1,hz8⟩,hp⟩;refine⟨_,_,rfl,rfl,?_⟩;refine Y ?_;refine wK rfl ((zgx (k:=57) hp (n:=z) (by lia) (by lia)).imp λv s1=>?_);rintro⟨ps,o2,rfl,rfl,hw,hp⟩;refine⟨_,_,rfl,rfl,?_⟩;refine Y ?_;refine wK rfl ((zjP (k':=57) hp).imp λv s1=>?_);rintro⟨kk,dd,o3,rfl,rfl,hr,hp⟩;refine⟨_,_,rfl,rfl,?_⟩;have ew:bQ z ps=.tup [.int z,.tup (ps.map bO)]:=rfl;have er:aM kk dd=.tup [.int kk,.int dd]:=rfl;refine Jz (Ov (Ov (V4 (W.dat (oX.mk rfl ?_)))));refine Ka2 (λτ s'=>∃kk dd:Int,(1<=dd/\dd<=kk/\kk<=10)/\((z:Int)=8->kk<=7)/\s'=s++[o3]/\τ=[some (.d (.fl (ns.map D.int))),some (.d (.int m)),some (.l s.length),some (.d (bQ z ps)),some (.d (aM kk dd)),e,f,g,h]) ?_ (λτ s' hR=>?_)
  ·refine Y ?_;refine W.ite (λh8=>?_) (λh8=>?_)
   ·refine Y ?_;refine WS.ite (λh7=>?_) (λh7=>?_)
    ·refine Y ?_;exact⟨_,rfl,7,3,by decide,λ_=>by decide,rfl,rfl⟩
    ·refine Y ?_;exact⟨_,rfl,kk,dd,hr,λ_=>by have:¬kk>7:=λz=>h7 (cT z);lia,rfl,rfl⟩
   ·refine Y ?_;exact⟨_,rfl,kk,dd,hr,λz8=>absurd (by simpa using z8) h8,rfl,rfl⟩
  ·clear hr er kk dd;obtain⟨kk,dd,hr,h7,rfl,rfl⟩:=hR;have er:aM kk dd=.tup [.int kk,.int dd]:=rfl;have hrg:qg (aM kk dd)=true:=Qk ⟨hr.1,hr.2.1,by lia⟩;refine Y ?_;refine Wb (c:=jh 0 z) (λj acc s'=>∃(zs:List Int) (o':SO),acc=zs.map .int/\zs.length=j/\s'=s++[o']/\jJ o') ?_ (λj x acc s' e hJ=>?_) (λacc s' hJ=>?_)
   ·refine Y ?_;refine⟨by rw[uU (by lia) (by lia),uU (by lia) (by lia)];rfl,?_⟩;exact⟨rfl,[],_,rfl,rfl,rfl,hp⟩
   ·obtain⟨zs,o',rfl,RT,rfl,hp⟩:=hJ;obtain⟨rfl,hjz⟩:=Aj e;refine Y ?_;refine⟨λ_=>?_,λhb=>by cases hb⟩;refine Y ?_;refine KC hp (by lia) (by lia) λr o2 hr hp=>?_;refine Y ?_;exact⟨_,rfl,by rw[bJ];lia,zs++[(r:Int)],o2,by rw[jK];rfl,by simp[RT],rfl,hp⟩
   obtain⟨zs,o5,rfl,RT,rfl,hp⟩:=hJ;rw[O4] at RT;refine Y ?_;refine W.zG ?_;refine Y ?_;refine W.bY rfl ((zj3 (k':=57) hw (by lia) (Qm (by lia) (by lia) (by lia) (by lia) h7) (by lia)).imp λv s1 hv=>?_)
   suffices key:∀fs:List Int,fs.length=z->WS (exs sub true (λc=>call sub T 59 c) _ [some (.d (.fl (ns.map D.int))),some (.d (.int m)),some (.l s.length),some (.d (bQ z ps)),some (.d (aM kk dd)),some (.d (.tup (zs.map .int))),some (.d (.tup (fs.map .int))),g,h]) (s++[o5]) _ by
    rcases hv with rfl|⟨fs,rfl,hfl⟩
    ·refine⟨_,rfl,?_⟩;refine Ag (oX.mk (a:=false) rfl ?_);rw[if_neg (by decide)];refine W.eV rfl ?_;exact key zs (by lia)
    ·refine⟨_,rfl,?_⟩;cases fs with
     |nil=>simp at hfl;lia
     |cons f0 fr=>
      refine Ag (oX.mk (a:=true) rfl ?_);rw[if_pos rfl];refine W.ret ?_;exact key (f0::fr) (by lia)
   clear hv;intro fs hfl;have hfo:nJ (.tup (fs.map .int)):=Ay (by lia);have hzo:nJ (.tup (zs.map .int)):=Ay (by lia);refine Y ?_;refine KC hp (by decide) (by decide) λr1 o6 hr1 hp=>?_;refine Y ?_;refine KC hp (by decide) (by decide) λr2 o7 hr2 hp=>?_;refine Y ?_;refine KC hp (by decide) (by decide) λr3 o8 RQ hp=>?_;refine Y ?_;refine wJ (λi τ s'=>∃(t u:Option Xv),s'=s++[o8]/\τ=[some (.d (.fl (ns.map D.int))),some (.d (.int m)),some (.l s.length),some (.d (bQ z ps)),some (.d (aM kk dd)),some (.d (.tup (zs.map .int))),some (.d (.tup (fs.map .int))),t,u]) ⟨_,_,rfl,rfl⟩ (λi x τ s' e hI=>?_) (λτ s' hI=>?_)
   ·obtain⟨t,u,rfl,rfl⟩:=hI;obtain⟨st,rfl⟩ : ∃st,x=.int st:=by
     have:=gU e;simp only[cM,mK,lJ] at this;rcases this with rfl|rfl|rfl|rfl
     all_goals exact⟨_,rfl⟩
    refine Y ?_;refine W.c0 (Az (k':=48) (yG hw) rfl hfo) ?_;refine Y ?_;refine W.c0 (Az (k':=48) (yG hw) rfl hzo) ?_;refine Y ?_;exact⟨_,rfl,_,_,rfl,rfl⟩
   obtain⟨t,u,rfl,rfl⟩:=hI;refine Y ?_;refine wK rfl ((Zu (k':=57) hp (row:=fs) (kk:=kk) (by lia) (by lia) (by lia)).imp λv s1=>?_);rintro⟨b1,o9,rfl,rfl,hb1,hp⟩;refine⟨_,_,rfl,rfl,?_⟩;refine Y ?_;refine wK rfl ((Zu (k':=57) hp (row:=fs) (kk:=kk) (by lia) (by lia) (by lia)).imp λv s1=>?_);rintro⟨b2,o10,rfl,rfl,hb2,hp⟩;refine⟨_,_,rfl,rfl,?_⟩;refine Y ?_;refine wK rfl ((znl (k:=57) hp).imp λv s1=>?_);rintro⟨od,o11,rfl,rfl,hod,hp⟩;refine⟨_,_,rfl,rfl,?_⟩;refine Y ?_;refine wJ (λi τ s'=>∃(t u:Option Xv),s'=s++[o11]/\τ=[some (.d (.fl (ns.map D.int))),some (.d (.int m)),some (.l s.length),some (.d (bQ z ps)),some (.d (aM kk dd)),some (.d (.tup (zs.map .int))),some (.d (.tup (fs.map .int))),t,u]) ⟨_,_,rfl,rfl⟩ (λi x τ s' e hI=>?_) (λτ s' hI=>?_)
   ·obtain⟨t,u,rfl,rfl⟩:=hI;have hok:nJ x:=by
     have:=gU e;simp only[cM,mK,lJ] at this;rcases this with rfl|rfl|rfl
     ·exact hb1
     ·exact hb2
     ·exact zl2 hod
    refine Y ?_;refine W.c0 (Az (k':=48) (yG hw) rfl hok) ?_;refine Y ?_;exact⟨_,rfl,_,_,rfl,rfl⟩
   obtain⟨t,u,rfl,rfl⟩:=hI;refine Y ?_;refine wK rfl ((zg4 (k':=57) hp hw).imp λv s1=>?_);rintro⟨bw,o12,rfl,rfl,hbw,hp⟩;refine⟨_,_,rfl,rfl,?_⟩;refine Y ?_;refine W.c0 (Az (k':=48) hbw rfl hfo) ?_;refine Y ?_;refine wK rfl ((ze4 (k':=57) hp).imp λv s1=>?_);rintro⟨br,o13,rfl,rfl,hbr,hp⟩;refine⟨_,_,rfl,rfl,?_⟩;refine Y ?_;refine W.c0 (Az (k':=48) (yG hw) hbr hfo) ?_;refine Y ?_;exact⟨_,rfl,_,_,_,_,_,_,_,_,rfl⟩
 ·obtain⟨a,b,c,d,e,f,g,h,rfl⟩:=hτ;exact Y trivial
end fK
open PySem PySem.W PyProof.Rows
set_option maxRecDepth 100000 in
set_option maxHeartbeats 0 in
theorem PySem.Challenge.cw_ringhues_k05_hues_turned_and_mirrored_holds : PySem.Challenge.rw_ringhues_k05_hues_turned_and_mirrored.Holds := by
 refine PySem.W.holds_law fK.ws λsaid=>?_;refine holds_open (q:=fK.qv) (loose:=fK.loose) (Xt:=λs=>xlAt fK.qv [] s&&recOk [] s) (XP:=XL fK.qv []) (Yf:=(Mi.lF fK.fs fK.ms fK.xs fK.lk).obs) (Ya:=(Mi.lF fK.fs fK.ms fK.xs fK.lk).val) (YP:=(Mi.lF fK.fs fK.ms fK.xs fK.lk).says) (N:=20000) fK.left (Mi.lF fK.fs fK.ms fK.xs fK.lk).of (Mi.lF fK.fs fK.ms fK.xs fK.lk).keeps (λs e=>xl_of s (Bool.and_eq_true_iff.mp e).1) XL.keeps (by rfl) (by rfl) (by rfl) (λs e=>recFacts_of (Bool.and_eq_true_iff.mp e).2) (by rfl) (by first|assumption|decide +kernel) (by decide +kernel) ⟨rfl,rfl,rfl,rfl,rfl,by decide +kernel⟩ ?hw ?hc
 case hw=>w_witness2
 case hc=>exact Mi.GD (l:=PySem.Challenge.rw_ringhues_k05_hues_turned_and_mirrored) (x:="_law_script") (k:=60) rfl rfl ⟨by decide,by decide,rfl⟩ (λw K mg fa h S X G hfa=>fK.all_mk fK.uz S X G hfa)
