import PyProof.Rows.All
import Wide.All
import KE.KIsAll
import KE.KSortTup
import KE.KTryDeep
import KE.KFromBytes
import KE.KDictOf
import Wide.FinOn
import PySem.Challenge.RW_ringhues_k46_papers_that_rings_are_so_lo
set_option compiler.extract_closed false
set_option Elab.async false
set_option linter.all false
set_option maxRecDepth 100000
set_option maxHeartbeats 4000000
namespace Lake
theorem gV{p:Prop}(h:p:=by lia):p:=h
theorem Bd{p:Prop}(h:p:=by decide +kernel):p:=h
theorem Dc{p:Prop}(h:p:=by decide):p:=h
theorem J0{p:Prop}(h:p:=by simp):p:=h
abbrev au:=@PySem.wpAny_bind
abbrev aW:=@List.length_map
abbrev cF:=@PySem.Heap.get?_push_of_some
abbrev dj:=@List.getElem?_eq_getElem
abbrev aN:=@PySem.wpAny_pure
abbrev bC:=@PySem.Heap.lt_size
abbrev gw:=@List.getElem?_eq_some_iff
abbrev dh:=@Nat.lt_of_lt_of_le
abbrev g_:=@List.getD_eq_getElem?_getD
abbrev eF:=@List.mem_cons_of_mem
abbrev dH:=@List.size_toArray
abbrev bZ:=@List.mem_cons
abbrev fj:=@PySem.Heap.get?_push_size
abbrev bL:=@Nat.le_refl
abbrev dJ:=@Option.some.inj
abbrev gA:=@List.mem_cons_self
abbrev jk:=@Option.map_eq_some_iff
abbrev dM:=@decide_eq_true
abbrev fu:=@List.length_cons
abbrev iQ:=@List.mem_of_getElem?
abbrev eU:=@List.mem_append
abbrev cR:=@Nat.ne_of_lt
abbrev h_:=@List.length_append
abbrev gK:=@List.getElem?_map
abbrev fH:=@decide_eq_false
abbrev jG:=@List.mem_append_right
abbrev gB:=@Bool.and_eq_true
abbrev eE:=@List.mem_map
abbrev oH:=@List.getElem?_eq_none_iff
abbrev iV:=@List.all_eq_true
abbrev oW:=@List.getElem?_append_right
abbrev fB:=@Nat.ne_of_gt
abbrev oX:=@List.getElem?_append_left
abbrev oY:=@List.pairwise_iff_getElem
abbrev kO:=@Nat.lt_succ_of_lt
abbrev rz:=@List.nodup_iff_pairwise_ne
abbrev mC:=@Bool.false_eq_true
abbrev lG:=@of_decide_eq_true
abbrev jN:=@List.map_append
abbrev qd:=@PySem.Heap.get?_update_other
abbrev lH:=@List.getElem_mem
abbrev qe:=@PySem.Heap.get?_update_self
abbrev lJ:=@List.mem_range
abbrev jH:=@Nat.le_trans
abbrev k_:=@PySem.wpAny_holding
abbrev qg:=@List.pairwise_cons
abbrev lg:=@Bool.true_and
abbrev jm:=@Nat.zero_le
abbrev rA:=@List.mem_map_of_mem
abbrev jA:=@PySem.wpAny_field
abbrev vO:=@PySem.wpAny_callSpecial?_slot
abbrev lK:=@List.map_cons
abbrev iR:=@PySem.wpAny_mono
abbrev oZ:=@List.length_take
abbrev o_:=@PySem.wpAny_call_entry
abbrev zj:=@PyProof.Rows.callWith_type1
abbrev mD:=@Nat.lt_irrefl
abbrev tY:=@List.mem_append_left
abbrev tZ:=@List.getElem?_set_ne
abbrev pq:=@List.nodup_cons
abbrev wN:=@Option.bind_eq_some_iff
abbrev lM:=@List.map_map
abbrev t_:=@PySem.Heap.SameBut.update
abbrev zm:=@Array.getElem?_eq_getElem
abbrev rB:=@List.lookup_cons
abbrev rC:=@List.not_mem_nil
abbrev Fw:=@PyProof.Rows.slot_tuple_getitem
abbrev sX:=@PySem.wpAny_newObj_type
abbrev sY:=@List.pairwise_map
abbrev qj:=@PySem.Heap.size_push
abbrev vP:=@List.mem_filterMap
abbrev BK:=@List.length_filterMap_le
abbrev wO:=@List.getElem_of_mem
abbrev zu:=@List.filterMap_cons
abbrev wQ:=@PySem.wpAny_truthy_bool
abbrev wR:=@Int.toNat_natCast
abbrev wU:=@decide_eq_true_eq
abbrev BL:=@List.getElem?_toArray
abbrev uc:=@PySem.wpAny_seqItems
abbrev vQ:=@List.length_set
abbrev zx:=@PySem.Obj.data_mapFields
abbrev Fx:=@Int.eq_ofNat_of_zero_le
abbrev zy:=@decide_eq_true_iff
abbrev BP:=@List.mem_iff_getElem
abbrev wV:=@List.length_drop
abbrev wW:=@beq_self_eq_true
abbrev Fy:=@List.getElem?_set_self
abbrev vR:=@Bool.false_and
abbrev wX:=@List.length_nil
abbrev wY:=@PySem.F.slot_zip_next
abbrev BR:=@PySem.wpAny_Call_Name_kw
abbrev lq:=@if_false
abbrev BW:=@PySem.wpAny_setField_rec
abbrev BX:=@List.mem_singleton
abbrev zA:=@List.take_length
abbrev G9:=@List.getElem?_replicate
abbrev vU:=@List.all_cons
abbrev G_:=@List.getElem?_cons_succ
abbrev ud:=@Nat.le_of_lt
abbrev Qd:=@PyProof.Rows.F.plain_set_update_loop
abbrev BZ:=@List.append_assoc
abbrev B_:=@List.length_range
abbrev Fz:=@Array.length_toList
abbrev sZ:=@PySem.sizeLine_eq
abbrev FJ:=@PySem.mem_of_lookup
abbrev zB:=@PySem.codeAny_builtin
abbrev Ml:=@PySem.F.slot_tuple_iterator_next
abbrev Hf:=@List.length_replicate
abbrev Hg:=@Nat.le_of_ble_eq_true
abbrev zE:=@PySem.wpAny_setField
abbrev zF:=@List.nodup_nil
abbrev Hj:=@PySem.Heap.get?_none_of_le
abbrev Hl:=@List.mem_of_mem_take
abbrev Ho:=@List.pairwise_append
abbrev Hq:=@PySem.Around.under_plainId
abbrev Ca:=@List.forIn_cons
abbrev FN:=@bne_self_eq_false
abbrev zG:=@PySem.wpAny_standAt
abbrev zJ:=@PySem.wpAny_attempt
abbrev Hr:=@List.map_congr_left
abbrev Hs:=@PySem.F.plain_extend_loop
abbrev Ht:=@List.length_pos_iff
abbrev Mp:=@Array.getElem?_eq_none
abbrev FP:=@List.append_nil
abbrev Mq:=@PySem.Obj.isFreed_of_fields
abbrev zK:=@Nat.lt_or_ge
abbrev Mr:=@PySem.builtinLookup_eq_fast
abbrev Ms:=@Array.getElem?_toList
abbrev FQ:=@PySem.wpAny_updateSeq
abbrev zL:=@PySem.F.called_set
abbrev ql:=@congrArg
abbrev Hu:=@List.nodup_append
abbrev qm:=@or_false
abbrev Qe:=@Int.fdiv_eq_ediv_of_nonneg
abbrev Qf:=@Array.getElem?_eq_some_iff
abbrev Mt:=@List.mem_of_mem_drop
abbrev FT:=@List.forIn_nil
abbrev Xr:=@PyProof.Rows.F.entry_set_update_loop
abbrev Hv:=@Nat.lt_succ_self
abbrev Hw:=@PySem.wpAny_isInstance
abbrev Qg:=@Option.isSome_iff_exists
abbrev Qh:=@PySem.F.args_tuple_add_2
abbrev Qi:=@PySem.wpAny_comprehension_free
abbrev wZ:=@PySem.wpAny_rule
abbrev Qj:=@PySem.AutoSeq1.wpAny_loadPart'
abbrev Hx:=@PySem.wpAny_passesOwn
abbrev Qk:=@PySem.F.entry_tuple_add
abbrev Mu:=@PySem.wpAny_pyIter_tuple
abbrev Hy:=@Bool.or_eq_true
abbrev Mv:=@List.map_filterMap
abbrev Ql:=@PySem.W.cellsFrom_some
abbrev Qm:=@PySem.F.slot_tuple_add
abbrev Qn:=@List.range_succ_eq_map
abbrev Cd:=@PySem.wpAny_of_eq
abbrev Mw:=@Bool.eq_false_iff
abbrev zM:=@Nat.not_lt
abbrev Mx:=@PySem.Heap.get?_push_ne
abbrev Mz:=@PySem.F.args_zip_next_1
abbrev MF:=@PySem.wpAny_pyIter_list
abbrev MJ:=@List.reverse_cons
abbrev MK:=@PySem.wpAny_setState_of
abbrev Hz:=@List.take_succ
abbrev FW:=@PySem.wpAny_typeOf
abbrev FZ:=@PySem.codeAny_mono
abbrev Qo:=@List.filterMap_append
abbrev Qp:=@List.Pairwise.and_mem
abbrev Ga:=@List.map_id'
abbrev MN:=@Nat.le_of_not_lt
abbrev MP:=@PySem.wpAny_askSetting
abbrev M4:=@PySem.F.entry_zip_next
abbrev M5:=@List.ext_getElem
abbrev M6:=@List.getElem_map
abbrev Qq:=@PySem.wpAny_updateSeq_pair
abbrev HB:=@PySem.plainId_quiet
abbrev Ce:=@beq_iff_eq
abbrev M7:=@List.of_mem_zip
abbrev M8:=@Nat.min_le_left
abbrev M9:=@Bool.eq_iff_iff
abbrev M_:=@PySem.typeLookup_type
abbrev Qs:=@List.zip_cons_cons
abbrev Qt:=@Nat.lt_of_le_of_lt
abbrev Qu:=@List.getElem?_inj
abbrev Nb:=@Bool.or_false
abbrev Nf:=@List.map_take
abbrev Ng:=@List.map_drop
abbrev Nh:=@Bool.not_true
namespace L2
open PySem PySem.Spec PyProof.Rows PySem.W
noncomputable def subIn(K:W.Frag)(C D:Addr):Bool:=PySem.W.ktsIn K C "BaseException"&&PySem.W.ktsIn K D "BaseException"&&match K.lookup C with
 |some ⟨_,_,.cls cd,_⟩=>cd.mro.contains (.ref D)
 |_=>false
noncomputable def HD:List Value:=[.type "ValueError",.type "Exception",.type "BaseException",.type "object"]
noncomputable def uf:List Value->Bool
 |.ref _::r=>uf r
 |l=>l==HD
noncomputable def tyN:Value->Option String
 |.type n=>some n
 |_=>none
noncomputable def Qv:Value->Option Addr
 |.ref a=>some a
 |_=>none
noncomputable def Qw:Value->Option String
 |.builtin n=>some n
 |_=>none
noncomputable def clD:Data->Option ClassData
 |.cls cd=>some cd
 |_=>none
noncomputable def hdV:List Value->Option (Value×List Value)
 |[]=>none
 |v::r=>some (v,r)
noncomputable def HF(K:Frag)(C:Addr)(bmB:List Value)(newId:String)(ini:Option Value):Bool:=(K.lookup C).any λo=>tyN o.cls==some "type"&&(clD o.data).any λcd=>(hdV cd.mro).any λp=>
 Qv p.1==some C&&o.slots.size==6&&(o.slots[4]?.join).bind Qw==some newId && !cd.hasDel&&tailIn K bmB p.2&&nsOkIn K cd.ns&&nsIn K cd.ns "__init__"==some ini
noncomputable def ug(K:Frag)(C fI:Addr):Bool:=HF K C HD "ValueError.__new__" (some (.ref fI))
noncomputable def bO(s:Stmt):Arguments:=match s with
 |.FunctionDef _ a _ _ _ _ _ _ _ _=>a
 |_=>{posonlyargs:=[],args:=[],vararg:=none,kwonlyargs:=[],kw_defaults:=[],kwarg:=none,defaults:=[]}
noncomputable def bx(s:Stmt):List Stmt:=match s with
 |.FunctionDef _ _ b _ _ _ _ _ _ _=>b
 |_=>[]
noncomputable def aA(s:Stmt):Scope:=match s with
 |.FunctionDef _ _ _ _ _ _ sc _ _ _=>sc
 |_=>{kind:=.function,names:=[],isGenerator:=false,isCoroutine:=false}
end L2
namespace Mi
open PySem PySem.Spec PyProof.Rows L2 PySem.W
noncomputable def Ni(n c:Nat):Nat:=if c<n then c else 0
noncomputable def HJ(n c e:Nat):Bool:=Ni n e==0||Ni n c==Ni n e
noncomputable def iW(L:List Addr)(c:Nat):Addr:=L.getD (Ni L.length c) 0
noncomputable def xcB(K:W.Frag)(C:Addr):Bool:=
 PySem.W.findIn K (.ref C) "__getattribute__"==some (some (.builtin "BaseException.__getattribute__"))&&PySem.W.findIn K (.ref C) "__getattr__"==some none&&PySem.W.findIn K (.ref C) "__class__"==some (some (.builtin "object.__class__")) &&
 PySem.W.mroIn K C (.type "BaseException")==some true&&PySem.W.mroIn K C (.type "object")==some true&&(PySem.W.clsIn K C).isSome &&
 PySem.W.specialIn K (.builtin "object.__class__") "__get__"==some (some (.builtin "getset_descriptor.__get__"))&&PySem.W.takesIn K (.builtin "object.__class__")==some true
noncomputable def zN(K:W.Frag)(L:List Addr):Bool:=(List.range L.length).all λc=>xcB K (L.getD c 0)&&PySem.W.kitOne K (.ref (L.getD c 0)) (.type "ValueError")==some true &&
 (List.range L.length).all λe=>PySem.W.kitOne K (.ref (L.getD c 0)) (.ref (L.getD e 0))==some (HJ L.length c e)
noncomputable def subB(K:W.Frag)(L:List Addr)(d:Nat):Bool:=(List.range L.length).all λc=>!(HJ L.length c d)||L2.subIn K (L.getD c 0) (iW L d)
noncomputable def tu(fd:FuncData):FuncData:={fd with kwdefaults:=.none,doc:=.none,pyModule:=.none,annotations:=none,code:=.none,closureTuple:=.none}
noncomputable def vV(x:Str)(st:Stmt):FuncData:=fnOf x x (bO st) (bx st) (aA st) .none .none .none .none none .none .none
noncomputable def Cg(K:Frag)(x:Str):Option (Addr×FuncData):=match nsIn K mainGlobals x with
 |some (some (.ref f))=>(match K.lookup f with
  |some ⟨_,_,.func fd,_⟩=>(match codeIn K fd.code x&&keepIn K (.ref f) with
   |true=>some (f,fd)
   |false=>none)
  |_=>none)
 |_=>none
noncomputable def Qx(K:Frag)(x:Str):Addr:=match nsIn K mainGlobals x with
 |some (some (.ref C))=>C
 |_=>0
noncomputable def HN(K:Frag)(x:Str):Bool:=match nsIn K mainGlobals x with
 |some (some (.ref _))=>true
 |_=>false
noncomputable def mF(K:Frag)(p:Str×Int):Bool:=match nsIn K mainGlobals p.1 with
 |some (some (.int i _))=>decide (i=p.2)
 |_=>false
noncomputable def mH(K:Frag)(p:Str×Str):Bool:=match nsIn K mainGlobals p.1 with
 |some (some (.str x _))=>decide (x=p.2)
 |_=>false
noncomputable def qp(K:Frag)(x:Str):Bool:=match nsIn K mainGlobals x with
 |some none=>true
 |_=>false
noncomputable def HS(K:Frag)(C:Addr):Bool:=HF K C [.type "ValueError",.type "Exception",.type "BaseException",.type "object"] "ValueError.__new__" none
structure Lk where
 HW:List Str
 Gb:List (Str×Int)
 Xu:List Str
 Xw:List Nat
 Xx:List Nat
 Xy:List (Str×Str)
noncomputable def Lk.L(l:Lk)(K:Frag):List Addr:=l.HW.map (Qx K)
noncomputable def Lk.good(l:Lk)(K:Frag):Bool:=
 l.HW.all (HN K)&&(l.HW.isEmpty||zN K (l.L K))&&l.Xw.all (λk=>HS K (iW (l.L K) k))&&l.Xx.all (λk=>subB K (l.L K) k)&&l.Gb.all (mF K)&&l.Xu.all (qp K)&&l.Xy.all (mH K)
noncomputable def qu(h:Heap):List Addr->Frag
 |[]=>[]
 |a::r=>match h.get? a with
  |some o=>(a,o)::qu h r
  |none=>qu h r
noncomputable def Cj(q:Str)(st:Stmt):FuncData:=fnOf "__init__" q (bO st) (bx st) (aA st) .none .none .none .none none .none .none
noncomputable def HX(K:Frag)(C:Addr):Option FuncData:=match clsIn K C with
 |some cd=>(match nsIn K cd.ns "__init__" with
  |some (some (.ref f))=>(match K.lookup f with
   |some ⟨.type "function",_,.func fd,_⟩=>(match codeIn K fd.code fd.qualname&&ug K C f&&uf cd.mro&&cd.hasDict with
    |true=>some fd
    |false=>none)
   |_=>none)
  |_=>none)
 |none=>none
noncomputable def setB(K:Frag)(C:Addr)(fs:List Str):Bool:=findIn K (.ref C) "__setattr__"==some (some (.builtin "object.__setattr__"))&&fs.all (λf=>findIn K (.ref C) f==some none)
noncomputable def Nj(K:Frag)(C:Addr)(f:Str):Bool:=findIn K (.ref C) "__getattribute__"==some (some (.builtin "BaseException.__getattribute__"))&&findIn K (.ref C) "__getattr__"==some none&&mroIn K C (.type "BaseException")==some true&&findIn K (.ref C) f==some none&&hasDictIn K C
structure xq where
 c:Nat
 q:Str
 st:Stmt
 fs:List Str
noncomputable def HY:Nat->List Obj->Frag
 |_,[]=>[]
 |i,o::r=>match o.isFreed with
  |true=>HY (i+1) r
  |false=>(i,o)::HY (i+1) r
noncomputable def b_(h:Heap):Frag:=qu h [mainGlobals]++(HY 0 h.objs.toList).reverse
noncomputable def rD(fs:List (Str×Stmt))(ms:List xq)(xs:List (Nat×Str))(l:Lk)(s:Shared):List (Option FuncData)×List (Option FuncData)×Bool:=
 (fs.map (λp=>(Cg (b_ s.heap) p.1).map (λq=>tu q.2)),ms.map (λm=>(HX (b_ s.heap) (iW (l.L (b_ s.heap)) m.c)).map tu),
  l.good (b_ s.heap)&&ms.all (λm=>setB (b_ s.heap) (iW (l.L (b_ s.heap)) m.c) m.fs)&&xs.all (λx=>Nj (b_ s.heap) (iW (l.L (b_ s.heap)) x.1) x.2))
noncomputable def uh(fs:List (Str×Stmt))(ms:List xq)(w:World):List (Option FuncData)×List (Option FuncData)×Bool:=(fs.map (λp=>some (vV p.1 p.2)),ms.map (λm=>some (Cj m.q m.st)),true)
noncomputable def Nk(fs:List (Str×Stmt))(s:Shared):List (Option FuncData):=fs.map (λp=>(Cg (b_ s.heap) p.1).map (λq=>tu q.2))
noncomputable def Xz(ms:List xq)(xs:List (Nat×Str))(l:Lk)(s:Shared):List (Option FuncData)×Bool:=(ms.map (λm=>(HX (b_ s.heap) (iW (l.L (b_ s.heap)) m.c)).map tu),
  l.good (b_ s.heap)&&ms.all (λm=>setB (b_ s.heap) (iW (l.L (b_ s.heap)) m.c) m.fs)&&xs.all (λx=>Nj (b_ s.heap) (iW (l.L (b_ s.heap)) x.1) x.2))
theorem ze6{p q:Program}{loose:List Str}{Xt:Shared->Bool}{N:Nat}{fs1 rE:List (Str×Stmt)}{ms:List xq}{xs:List (Nat×Str)}{l:Lk}
  (a:∀w,(openEnds treeTable p w N).map (λs=>openSeen q loose (importedModules p.main.body) Xt true s)=some (openGood q loose))
  (b1:∀w,(openEnds treeTable p w N).map (Nk fs1)=some (fs1.map λp=>some (vV p.1 p.2)))
  (b2:∀w,(openEnds treeTable p w N).map (Nk rE)=some (rE.map λp=>some (vV p.1 p.2)))
  (c:∀w,(openEnds treeTable p w N).map (Xz ms xs l)=some (ms.map (λm=>some (Cj m.q m.st)),true)):LeftO p q loose Xt (rD (fs1++rE) ms xs l) (uh (fs1++rE) ms) N:=by
 intro w;have a:=a w;have b1:=b1 w;have b2:=b2 w;have c:=c w;cases e:openEnds treeTable p w N with
 |none=>rw[e] at a;cases a
 |some s=>
  rw[e] at a b1 b2 c;have a:openSeen q loose (importedModules p.main.body) Xt true s=openGood q loose:=dJ a;have b1:=dJ b1;have b2:=dJ b2;have c:=dJ c;have c1:=ql Prod.fst c;have c2:=ql Prod.snd c;show some (_,rD (fs1++rE) ms xs l s)=_;rw[a];have:rD (fs1++rE) ms xs l s=uh (fs1++rE) ms w:=by
   unfold rD uh;rw[jN,jN];have b1:List.map _ fs1=List.map _ fs1:=b1;have b2:List.map _ rE=List.map _ rE:=b2;rw[b1,b2];exact Prod.ext rfl (Prod.ext c1 c2)
  rw[this]
end Mi
namespace fL
open PySem PySem.Spec PyProof.Rows PySem.W L2 Mi
noncomputable def top(i:Nat):Stmt:=PySem.Challenge.pw_ringhues_k46_papers_that_rings_are_so_lo.main.body.getD i (.Pass ⟨0,0,0,0⟩)
noncomputable def fs1:List (Str×Stmt):=("is_whole",top 4)::("is_within",top 5)::("is_row",top 6)::("is_web",top 9)::("is_many",top 10)::("is_place",top 11)::("is_tie",top 12)::("check_web",top 13)::("tied_to",top 14)::("all_ends",top 15)::("goes_round",top 17)::("next_pairs",top 18)::("is_round",top 20)::("is_forward",top 21)::("ring_bound",top 25)::[]
noncomputable def rE:List (Str×Stmt):=("is_crowd",top 26)::("_law_cell",top 28)::("_law_pen",top 29)::("_law_draw",top 30)::("_law_whole",top 31)::("_law_odd",top 32)::("_law_size",top 33)::("_law_web",top 34)::("_law_sets",top 35)::("_law_is_round",top 36)::("_law_bound",top 37)::("_law_bent_row",top 38)::("_law_told_as",top 39)::("_law_walked",top 40)::("_law_right",top 41)::("law",top 42)::[]
noncomputable abbrev fs:List (Str×Stmt):=fs1++rE
noncomputable def lk:Lk:=⟨[],[("MOST_PLACES",8)],["all","bool","divmod","enumerate","int","isinstance","len","list","max","min","range","repr","set","sorted","str","tuple","zip"],[],[],[("CROWD","crowd"),("ODD","odd")]⟩
noncomputable def ms:List xq:=[]
noncomputable def xs:List (Nat×Str):=[]
noncomputable abbrev pv:Program:=PySem.Challenge.pw_ringhues_k46_papers_that_rings_are_so_lo
noncomputable def qv:Program:={pv with main:={pv.main with body:=[pv.main.body.getD 42 (.Pass ⟨0,0,0,0⟩)]}}
noncomputable def loose:List Str:=(["HueError","NoWeb","is_whole","is_within","is_row","MOST_PLACES","is_web","is_many","is_place","is_tie","check_web","tied_to","all_ends","goes_round","next_pairs","is_round","is_forward","CROWD","ODD","ring_bound","is_crowd","_law_cell","_law_pen","_law_draw","_law_whole","_law_odd","_law_size","_law_web","_law_sets","_law_is_round","_law_bound","_law_bent_row","_law_told_as","_law_walked","_law_right"]:List String).map Str.ofString
theorem zlj(w:World):(openEnds treeTable pv w 20000).map (λs=>openSeen qv loose (importedModules pv.main.body) (λs=>xlAt qv [] s&&recOk [] s) true s)=some (openGood qv loose):=by
 kernel_rfl
theorem zme(w:World):(openEnds treeTable pv w 20000).map (Nk fs1)=some (fs1.map λp=>some (vV p.1 p.2)):=by
 kernel_rfl
theorem zl4(w:World):(openEnds treeTable pv w 20000).map (Nk rE)=some (rE.map λp=>some (vV p.1 p.2)):=by
 kernel_rfl
theorem zkN(w:World):(openEnds treeTable pv w 20000).map (Xz ms xs lk)=some (ms.map (λm=>some (Cj m.q m.st)),true):=by
 kernel_rfl
theorem ws:PySem.Challenge.rw_ringhues_k46_papers_that_rings_are_so_lo.wellSaid=true:=by
 kernel_rfl
theorem wt:PySem.Challenge.rw_ringhues_k46_papers_that_rings_are_so_lo.row.prog.tablesWhole=true:=by
 decide +kernel
theorem wc:(chainsOk qv&&opensWell PySem.Challenge.rw_ringhues_k46_papers_that_rings_are_so_lo.row.prog&&(frees PySem.Challenge.rw_ringhues_k46_papers_that_rings_are_so_lo.row.toRowW&&PySem.Challenge.rw_ringhues_k46_papers_that_rings_are_so_lo.row.within.isEmpty))=true:=by
 decide +kernel
theorem left:LeftO pv qv loose (λs=>xlAt qv [] s&&recOk [] s) (rD fs ms xs lk) (uh fs ms) 20000:=ze6 zlj zme zl4 zkN
end fL
namespace L2
open PySem PySem.Spec PyProof.Rows
theorem fK{α:Sort u}{β:Sort v}{A B C:α->β->Prop}{P:Prop}(h:∃x y,A x y/\B x y/\C x y)(k:∀x y,A x y->B x y->C x y->P):P:=by
 obtain⟨x,y,a,b,c⟩:=h;exact k x y a b c
theorem H_{α:Sort u}{β:Sort v}{γ:Sort w}{A B:α->β->Prop}{C D:α->β->γ->Prop}{P:Prop}(h:∃x y,A x y/\B x y/\∃z,C x y z/\D x y z)(k:∀x y,A x y->B x y->∀z,C x y z->D x y z->P):P:=by
 obtain⟨x,y,a,b,z,c,d⟩:=h;exact k x y a b z c d
theorem xu{α:Sort u}{A B:α->Prop}{P:Prop}(h:∃x,A x/\B x)(k:∀x,A x->B x->P):P:=by
 obtain⟨x,a,b⟩:=h;exact k x a b
noncomputable abbrev Key:=Sum Int Str
noncomputable def jo:Key->Value->Bool
 |.inl k,v=>Value.isInt k v
 |.inr x,v=>Value.isStrOf x v
noncomputable def Qy(w:World):Key->Int
 |.inl k=>hashInt k
 |.inr x=>hashStr w x
theorem vW:∀{k:Key} {v:Value},jo k v=true->(∃i t,k=Sum.inl i/\v=Value.int i t)\/(∃x t,k=Sum.inr x/\v=Value.str x t)
 |.inl i,v,h=>by
  obtain⟨t,e⟩:=Value.isInt_shape (k:=i) (v:=v) h;exact .inl ⟨i,t,rfl,e⟩
 |.inr x,v,h=>by
  obtain⟨t,e⟩:=Value.isStrOf_shape (x:=x) (v:=v) h;exact .inr ⟨x,t,rfl,e⟩
theorem zft(i:Int)(t:Tok):jo (.inl i) (.int i t)=true:=by simp[jo,Value.isInt]
theorem zfr(x:Str)(t:Tok):jo (.inr x) (.str x t)=true:=by simp[jo,Value.isStrOf]
theorem zlB(a b:Int):decide ((Sum.inl a:Key)=Sum.inl b)=(a==b):=by
 by_cases e:a=b
 ·subst e;simp
 ·have h:¬(Sum.inl a:Key)=Sum.inl b:=λq=>e (Sum.inl.inj q);rw[fH h];exact(beq_eq_false_iff_ne.mpr e).symm
theorem zkW(a b:Str):decide ((Sum.inr a:Key)=Sum.inr b)=decide (a=b):=by
 by_cases e:a=b
 ·subst e;simp
 ·have h:¬(Sum.inr a:Key)=Sum.inr b:=λq=>e (Sum.inr.inj q);rw[fH h,fH e]
theorem zlM(a:Int)(b:Str):decide ((Sum.inl a:Key)=Sum.inr b)=false:=fH (λq=>nomatch q)
theorem zmu(a:Str)(b:Int):decide ((Sum.inr a:Key)=Sum.inl b)=false:=fH (λq=>nomatch q)
noncomputable def cI(prog:Program)(w:World):PySem.KeyKind prog w Key where
 is:=jo
 hash:=Qy w
 inj:=λv a b ha hb=>by
  rcases vW ha with ⟨i,t,rfl,rfl⟩|⟨x,t,rfl,rfl⟩
  ·rcases vW hb with ⟨j,u,rfl,e⟩|⟨y,u,rfl,e⟩
   ·injection e with e1 _;rw[e1]
   ·exact nomatch e
  ·rcases vW hb with ⟨j,u,rfl,e⟩|⟨y,u,rfl,e⟩
   ·exact nomatch e
   ·injection e with e1 _;rw[e1]
 byValue:=λk v h=>by
  rcases vW h with ⟨i,t,rfl,rfl⟩|⟨x,t,rfl,rfl⟩<;>rfl
 pyHash:=λhv h=>by
  rcases vW hv with ⟨i,t,rfl,rfl⟩|⟨x,t,rfl,rfl⟩
  ·exact wpAny_pyHash_int h
  ·exact wpAny_pyHash_str h
 eqBool:=λhu hv h=>by
  rcases vW hu with ⟨i,t,rfl,rfl⟩|⟨x,t,rfl,rfl⟩
  ·rcases vW hv with ⟨j,u,rfl,rfl⟩|⟨y,u,rfl,rfl⟩
   ·rw[zlB] at h;exact wpAny_eqBool_int h
   ·rw[zlM] at h;exact SeqAt.EqAt.int_str i t y u _ _ _ _ h
  ·rcases vW hv with ⟨j,u,rfl,rfl⟩|⟨y,u,rfl,rfl⟩
   ·rw[zmu] at h;exact SeqAt.EqAt.str_int x t j u _ _ _ _ h
   ·rw[zkW] at h;exact wpAny_eqBool_str h
 «strs»:=λk x t v h=>by
  rcases vW h with ⟨i,u,rfl,e⟩|⟨y,u,rfl,e⟩
  ·exact nomatch e
  ·injection e with e1 _;subst e1;cases v<;>rfl
theorem zdG(prog:Program)(w:World)(i:Int)(t:Tok):(cI prog w).is (.inl i) (.int i t)=true:=zft i t
theorem zdD(prog:Program)(w:World)(x:Str)(t:Tok):(cI prog w).is (.inr x) (.str x t)=true:=zfr x t
inductive V where
 |non|bl (b:Bool)|int (i:Int)|str (x:Str)|Nm (b:Array UInt8)|flt (b:UInt64)|ref (a:Addr)|ty (n:String)
 deriving DecidableEq
noncomputable def RelV:V->Value->Prop
 |.non,u=>u=Value.none
 |.bl b,u=>u=Value.bool b
 |.int i,u=>∃t,u=Value.int i t
 |.str x,u=>∃t,u=Value.str x t
 |.Nm b,u=>∃t,u=Value.bytes b t
 |.flt b,u=>∃t,u=Value.float b t
 |.ref a,u=>u=Value.ref a
 |.ty n,u=>u=Value.type n
noncomputable abbrev Vals:List V->List Value->Prop:=Paired RelV
theorem Vals.length{xs:List V}{us:List Value}(r:Vals xs us):xs.length=us.length:=Paired.length r
theorem Vals.get:∀{xs:List V} {us:List Value} {i:Nat} {x:V},Vals xs us->xs[i]?=some x->∃u,us[i]?=some u/\RelV x u
 |_,_,_,_,.nil,e=>by simp at e
 |_,_,0,_,.cons r _,e=>by simp at e;subst e;exact⟨_,rfl,r⟩
 |_,_,i+1,x,.cons _ t,e=>by
  obtain⟨u,h1,h2⟩:=Vals.get (i:=i) (x:=x) t (by simpa using e);exact⟨u,by simpa using h1,h2⟩
theorem Vals.set{x:V}{u:Value}(r:RelV x u):∀{xs:List V} {us:List Value} (i:Nat),Vals xs us->Vals (xs.set i x) (us.set i u)
 |_,_,_,.nil=>.nil
 |_,_,0,.cons _ t=>.cons r t
 |_,_,i+1,.cons q t=>.cons q (Vals.set r i t)
theorem Vals.append{xs ys:List V}{us ws:List Value}(h:Vals xs us)(s:Vals ys ws):Vals (xs++ys) (us++ws):=by
 induction h with
 |nil=>exact s
 |cons r _ ih=>exact .cons r ih
theorem Vals.take:∀{xs:List V} {us:List Value} (n:Nat),Vals xs us->Vals (xs.take n) (us.take n)
 |_,_,0,_=>.nil
 |_,_,_+1,.nil=>.nil
 |_,_,n+1,.cons r t=>.cons r (Vals.take n t)
theorem Vals.drop:∀{xs:List V} {us:List Value} (n:Nat),Vals xs us->Vals (xs.drop n) (us.drop n)
 |_,_,0,r=>r
 |_,_,_+1,.nil=>.nil
 |_,_,n+1,.cons _ t=>Vals.drop n t
noncomputable def Ia:Option V->Option Value->Prop
 |some v,some u=>RelV v u
 |none,none=>True
 |_,_=>False
noncomputable def KV{κ:Type}:List (κ×V)->List (κ×Value)->Prop:=Paired λ(p:κ×V) (q:κ×Value)=>p.1=q.1/\RelV p.2 q.2
noncomputable def kV:Key->V
 |.inl i=>.int i
 |.inr x=>.str x
inductive HO where
 |lst (xs:List V)
 |tup (xs:List V)
 |dK (kvs:List (Key×V))|dT (kvs:List (List Key×V))
 |set (S:Int->Bool) (n:Nat)
 |ins (C dx:Addr) (fs:List (Str×V))
 |own (x:Addr)
 |xd (fs:List (Str×V))
 |met (f x:Addr)
 |rng (lo hi:Int)
 |vX (o:Obj) (u:HO)
 |Cm (ps:Array Value)
 |ext (U:Heap->Prop)
noncomputable abbrev Hp:=Addr->Option HO
noncomputable def upd(H:Hp)(a:Addr)(o:HO):Hp:=λb=>if b=a then some o else H b
theorem jO{H:Hp}{a:Addr}{o:HO}:upd H a o a=some o:=by unfold upd;rw[if_pos rfl]
theorem dD{H:Hp}{a b:Addr}{o:HO}(h:b≠a):upd H a o b=H b:=by unfold upd;rw[if_neg h]
theorem Qz{H:Hp}{a:Addr}{o u:HO}:upd (upd H a o) a u=upd H a u:=by
 funext b;unfold upd;split<;>rfl
theorem Gd{H:Hp}{a b:Addr}{o:HO}(h:H a=some o)(h':H b=none):a≠b:=by
 intro e;subst e;rw[h] at h';cases h'
section
variable (P:Program)(w:World)
noncomputable def aV(H:Hp)(h:Heap)(a:Addr):HO->Prop
 |.lst xs=>xs.length<=sizeLine/\∃(its:List Value) (n:Nat),Vals xs its/\h.get? a=some {cls:=.type "list",data:=.seq its.toArray n}
 |.tup xs=>xs.length<=sizeLine/\∃its:List Value,Vals xs its/\IsTup h a its.toArray
 |.dK kvs=>kvs.length<=sizeLine/\(a==sysModules)=false/\∃vs,KV kvs vs/\h.DictOf (cI P w) a vs
 |.dT kvs=>kvs.length<=sizeLine/\(a==sysModules)=false/\∃xs:List (List Key×Addr×Value),
   Paired (λ(p:List Key×V) (q:List Key×Addr×Value)=>p.1=q.1/\H q.2.1=some (.tup (p.1.map kV))/\RelV p.2 q.2.2) kvs xs /\
   ∃o es ep,h.get? a=some o/\o.ExactDict/\o.data=.dict es ep/\es.toList=xs.map (entryOfKey (tupleKind (cI P w)))/\(xs.map (·.1)).Nodup
 |.set S n=>h.SetOf (intKind P w) a S n
 |.ins C dx fs=>H dx=some (.own a)/\fs.length<=1000/\dx≠a/\h.get? a=some (PySem.W.instObj C dx) /\
   ∃mA,h.Ns1 dx mA/\(∀f,Ia (fs.lookup f) (mA f))/\PySem.Within mA (fs.map (·.1))
 |.own _=>∃o,h.get? a=some o
 |.xd fs=>∃mA,h.Ns1 a mA/\∀f,Ia (fs.lookup f) (mA f)
 |.rng lo hi=>∃t u v,h.get? a=some {cls:=.type "range",data:=.fields #[.int lo t,.int hi u,.int 1 v]}
 |.vX o u=>h.get? a=some o/\aV H h a u
 |.Cm ps=>h.get? a=some {cls:=.none,data:=.fields ps}
 |.met f x=>h.get? a=some (PySem.W.methodObj (.ref f) (.ref x))
 |.ext U=>U h/\(∃o,h.get? a=some o)/\∀h1 h2:Heap,U h1->(∀o,h1.get? a=some o->h2.get? a=some o)->U h2
def iu(H:Hp)(h:Heap):Prop:=∀a o,H a=some o->aV P w H h a o
end
section
variable {P:Program}{w:World}{H H':Hp}{h h':Heap}{a:Addr}{o:HO}
theorem aV.lt(x:aV P w H h a o):a<h.objs.size:=by
 cases o with
 |lst xs=>obtain⟨_,_,_,_,e⟩:=x;exact bC e
 |tup xs=>obtain⟨_,_,_,p⟩:=x;exact p.lt
 |dK kvs=>obtain⟨_,_,_,_,o,_,_,e,_⟩:=x;exact bC e
 |dT kvs=>obtain⟨_,_,_,_,o,_,_,e,_⟩:=x;exact bC e
 |set S n=>obtain⟨o,_,_,_,e,_⟩:=x;exact bC e
 |ins C dx fs=>obtain⟨_,_,_,e,_⟩:=x;exact bC e
 |own y=>obtain⟨_,e⟩:=x;exact bC e
 |xd fs=>obtain⟨_,⟨_,_,_,e,_⟩,_⟩:=x;exact bC e
 |rng lo hi=>obtain⟨_,_,_,e⟩:=x;exact bC e
 |vX ob u=>obtain⟨e,_⟩:=x;exact bC e
 |Cm ps=>exact bC (show h.get? a=some _ from x)
 |met f y=>exact bC (show h.get? a=some _ from x)
 |ext U=>obtain⟨_,⟨_,e⟩,_⟩:=x;exact bC e
theorem XD{α β:Type}{F G:α->β->Prop}:∀{l₁:List α} {l₂:List β},Paired F l₁ l₂->(∀a b,F a b->G a b)->Paired G l₁ l₂
 |_,_,.nil,_=>.nil
 |_,_,.cons r t,f=>.cons (f _ _ r) (XD t f)
theorem aV.stay(x:aV P w H h a o)(k:∀b u,(b=a\/H b=some (.own a))->h.get? b=some u->h'.get? b=some u)
  (ho:∀b,H b=some (.own a)->H' b=some (.own a)) (ht:∀b xs,H b=some (.tup xs)->H' b=some (.tup xs)):aV P w H' h' a o:=by
 induction o with
 |lst xs=>obtain⟨z,its,n,r,e⟩:=x;exact⟨z,its,n,r,k _ _ (.inl rfl) e⟩
 |tup xs=>obtain⟨z,its,r,ob,e,c⟩:=x;exact⟨z,its,r,ob,k _ _ (.inl rfl) e,c⟩
 |dK kvs=>obtain⟨z,y,vs,r,ob,es,ep,e,c⟩:=x;exact⟨z,y,vs,r,ob,es,ep,k _ _ (.inl rfl) e,c⟩
 |dT kvs=>
  obtain⟨z,y,xs,r,ob,es,ep,e,c⟩:=x;exact⟨z,y,xs,XD r λp q z=>⟨z.1,ht _ _ z.2.1,z.2.2⟩,ob,es,ep,k _ _ (.inl rfl) e,c⟩
 |set S n=>obtain⟨ob,es,ep,t,e,c⟩:=x;exact⟨ob,es,ep,t,k _ _ (.inl rfl) e,c⟩
 |ins C dx fs=>
  obtain⟨d,z,ne,e,mA,⟨od,es,ep,e2,c⟩,r⟩:=x;exact⟨ho _ d,z,ne,k _ _ (.inl rfl) e,mA,⟨od,es,ep,k _ _ (.inr d) e2,c⟩,r⟩
 |own y=>obtain⟨ob,e⟩:=x;exact⟨ob,k _ _ (.inl rfl) e⟩
 |xd fs=>obtain⟨mA,⟨od,es,ep,e,c⟩,r⟩:=x;exact⟨mA,⟨od,es,ep,k _ _ (.inl rfl) e,c⟩,r⟩
 |rng lo hi=>obtain⟨t,u,v,e⟩:=x;exact⟨t,u,v,k _ _ (.inl rfl) e⟩
 |vX ob u ih=>obtain⟨e,q⟩:=x;exact⟨k _ _ (.inl rfl) e,ih q⟩
 |Cm ps=>
  have e:h.get? a=some {cls:=.none,data:=.fields ps}:=x;show h'.get? a=some {cls:=.none,data:=.fields ps};exact k a _ (.inl rfl) e
 |met f y=>
  have e:h.get? a=some (PySem.W.methodObj (.ref f) (.ref y)):=x;show h'.get? a=some (PySem.W.methodObj (.ref f) (.ref y));exact k a _ (.inl rfl) e
 |ext U=>obtain⟨p,⟨o,e⟩,st⟩:=x;exact⟨st _ _ p λo q=>k _ _ (.inl rfl) q,⟨o,k _ _ (.inl rfl) e⟩,st⟩
theorem iu.lt(x:iu P w H h)(e:H a=some o):a<h.objs.size:=(x a o e).lt
theorem iu.fresh(x:iu P w H h)(e:h.objs.size<=a):H a=none:=by
 cases q:H a with
 |none=>rfl
 |some u=>exact absurd (dh (x.lt q) e) (mD _)
theorem iu.kept(x:iu P w H h)(k:∀b u,h.get? b=some u->h'.get? b=some u):iu P w H h':=λa o e=>
 (x a o e).stay (λb u _ q=>k b u q) (λ_ q=>q) λ_ _ q=>q
theorem iu.laid(x:iu P w H h)(k:∀b u,h.get? b=some u->h'.get? b=some u)(hp:h.objs.size<=a)(new:aV P w (upd H a o) h' a o):iu P w (upd H a o) h':=λb u e=>by
 have hn:=x.fresh hp;by_cases hb:b=a
 ·subst hb;rw[jO] at e;cases e;exact new
 ·rw[dD hb] at e;exact(x b u e).stay (λc v _ q=>k c v q) (λc q=>by rw[dD (Gd q hn)];exact q) λc xs q=>by rw[dD (Gd q hn)];exact q
end
def Rd(H:Hp)(a:Addr)(u:HO):Prop:=H a=some u\/∃o,H a=some (.vX o u)
theorem Rd.ok{P:Program}{w:World}{H:Hp}{h:Heap}{a:Addr}{u:HO}(r:Rd H a u)(x:iu P w H h):aV P w H h a u:=by
 rcases r with r|⟨o,r⟩
 ·exact x a u r
 ·obtain⟨_,q⟩:=x a _ r;exact q
noncomputable def Ib:Option HO->Prop
 |some (.lst _)=>True
 |some (.dK _)=>True
 |some (.dT _)=>True
 |some (.set _ _)=>True
 |some (.ins _ _ _)=>True
 |some (.ext _)=>True
 |_=>False
section
variable {P:Program}{w:World}{H:Hp}{h h':Heap}{x e:Addr}{o':HO}
theorem iu.write(ok:iu P w H h)(mu:Ib (H x))(he:e=x\/H e=some (.own x))(k:∀b u,b≠e->h.get? b=some u->h'.get? b=some u)(Ge:∃u,h'.get? e=some u)
  (new:aV P w (upd H x o') h' x o'):iu P w (upd H x o') h':=λb u q=>by
 have Ie:∀c y,H c=some (.own y)->c≠x:=λc y r z=>by subst z;rw[r] at mu;exact mu
 have QB:∀c xs,H c=some (.tup xs)->c≠x:=λc xs r z=>by subst z;rw[r] at mu;exact mu
 by_cases hb:b=x
 ·subst hb;rw[jO] at q;cases q;exact new
 ·rw[dD hb] at q;by_cases Cp:b=e
  ·have q':H b=some (.own x):=by
    rcases he with z|z
    ·exact absurd (Cp.trans z) hb
    ·rw[Cp];exact z
   rw[q] at q';cases q';obtain⟨v,hv⟩:=Ge;exact⟨v,by rw[Cp];exact hv⟩
  ·refine(ok b u q).stay (λc v hc r=>k c v ?_ r) (λc r=>by rw[dD (Ie c b r)];exact r) λc xs r=>by rw[dD (QB c xs r)];exact r
   rcases hc with rfl|hc
   ·exact Cp
   ·rintro rfl;rcases he with z|z
    ·exact Ie c b hc z
    ·rw[hc] at z;cases z;exact hb rfl
end
structure Un(fs ex:List Addr)(H H':Hp)(h h':Heap):Prop where
 keep:∀b o,h.get? b=some o->H b=none->b∉fs->b∉ex->h'.get? b=some o
 slot:∀b o,h.get? b=some o->H b=none->b∈fs->b∉ex->∃sl,h'.get? b=some {o with slots:=sl}
 free:∀b o,h.get? b=some o->H b=none->b∉ex->H' b=none
 there:∀b o,h.get? b=some o->b∉ex->∃o',h'.get? b=some o'
 tups:∀b xs,H b=some (.tup xs)->H' b=some (.tup xs)
 lu:∀b o u,H b=some (.vX o u)->H' b=some (.vX o u)
 mJ:∀b ps,H b=some (.Cm ps)->∃more,H' b=some (.Cm (ps++more))
section
variable {fs fs' ex ex':List Addr}{H H1 H2:Hp}{h h1 h2 h':Heap}{a x e:Addr}{o:HO}
theorem Un.any(u:Un fs ex H H1 h h1){b:Addr}{ob:Obj}(q:h.get? b=some ob)(n:H b=none)(hx:b∉ex):∃sl,h1.get? b=some {ob with slots:=sl}:=by
 by_cases hb:b∈fs
 ·exact u.slot b ob q n hb hx
 ·exact⟨ob.slots,u.keep b ob q n hb hx⟩
theorem Un.kept(k:∀b u,h.get? b=some u->h'.get? b=some u):Un fs ex H H h h':=
 ⟨λb ob q _ _ _=>k b ob q,λb ob q _ _ _=>⟨ob.slots,k b ob q⟩,λ_ _ _ n _=>n,λb ob q _=>⟨ob,k b ob q⟩,λ_ _ q=>q,λ_ _ _ q=>q,λ_ ps q=>⟨#[],by rw[q];simp⟩⟩
theorem Un.refl:Un fs ex H H h h:=Un.kept λ_ _ q=>q
theorem Un.laid(k:∀b u,h.get? b=some u->h'.get? b=some u)(hp:h.objs.size<=a)(hn:H a=none):Un fs ex H (upd H a o) h h' where
 keep:=λb u q _ _ _=>k b u q
 slot:=λb u q _ _ _=>⟨u.slots,k b u q⟩
 free:=λb u q n _=>by rw[dD (cR (dh (bC q) hp))];exact n
 there:=λb u q _=>⟨u,k b u q⟩
 tups:=λb xs q=>by rw[dD (Gd q hn)];exact q
 lu:=λb u xs q=>by rw[dD (Gd q hn)];exact q
 mJ:=λb ps q=>⟨#[],by rw[dD (Gd q hn),q];simp⟩
theorem Un.write(mu:Ib (H x))(he:e=x\/H e=some (.own x))(k:∀b u,b≠e->h.get? b=some u->h'.get? b=some u)(Ge:∃u,h'.get? e=some u):Un fs ex H (upd H x o) h h':=by
 have hx:∀b,H b=none->b≠x:=λb n z=>by subst z;rw[n] at mu;exact mu
 have hb:∀b,H b=none->b≠e:=λb n z=>by
  subst z;rcases he with r|r
  ·exact hx b n r
  ·rw[n] at r;cases r
 have hm:∀b u,H b=some u->¬Ib (some u)->b≠x:=λb u q nm z=>by subst z;rw[q] at mu;exact nm mu
 refine⟨λb u q n _ _=>k b u (hb b n) q,λb u q n _ _=>⟨u.slots,k b u (hb b n) q⟩,λb u q n _=>by rw[dD (hx b n)];exact n,λb u q _=>?_,
  λb xs q=>by rw[dD (hm b _ q λz=>z)];exact q,λb u xs q=>by rw[dD (hm b _ q λz=>z)];exact q,λb ps q=>⟨#[],by rw[dD (hm b _ q λz=>z),q];simp⟩⟩
 by_cases Cp:b=e
 ·subst Cp;exact Ge
 ·exact⟨u,k b u Cp q⟩
end
noncomputable def Np(h:Heap)(H:Hp):List Addr:=(List.range h.objs.size).filter λa=>(H a).isSome
noncomputable def mK(h:Heap)(H:Hp):Heap:=PySem.W.hideAll h (Np h H)
theorem zhb(h:Heap)(H:Hp):(mK h H).objs.size=h.objs.size:=PySem.W.hideAll_size _ _
theorem zix{h:Heap}{H:Hp}{b:Addr}{o:Obj}(e:h.get? b=some o)(n:H b=none):(mK h H).get? b=some o:=
 PySem.W.hideAll_get _ e λhm=>by
  have q:(H b).isSome=true:=(List.mem_filter.mp hm).2;rw[n] at q;simp at q
theorem zi5{h:Heap}{H:Hp}{b:Addr}{o:Obj}(e:(mK h H).get? b=some o):h.get? b=some o/\H b=none:=by
 have e':h.get? b=some o:=PySem.W.of_hideAll (Np h H) e;refine⟨e',?_⟩;cases q:H b with
 |none=>rfl
 |some x=>
  have hm:b∈Np h H:=List.mem_filter.mpr ⟨lJ.mpr (bC e'),by simp[q]⟩;have z:(mK h H).get? b=none:=PySem.W.hideAll_none (Np h H) hm;rw[z] at e;cases e
structure Mod(K:W.Frag)(mg:Str->Option Value)(base:Heap):Prop where
 Gb:K.In base
 glob:base.Ns mainGlobals mg
 blt:∃mb,base.Ns builtinsNs mb/\∀x:Str,x≠"__name__"->mb x=bootBuiltins x
 nolimit:base.NoLimit
structure Cx where
 prog:Program
 w:World
 K:W.Frag
 mg:Str->Option Value
 base:Heap
 A:Around
 N:List Str
 s₀:Shared
 H₀:Hp
 env:Env
 outer:List Env
 stack:List Env
 ex:List Addr
 fn:Str->Bool
 aj:Bool
 pn:List (Addr×Obj)
 xe:Value->Shared->Prop
noncomputable def frs(l:List Env):List Addr:=l.filterMap (·.frame)
noncomputable abbrev Cx.fs(X:Cx):List Addr:=frs X.outer
def QC(sc:Scope)(x:Str):Prop:=sc.names.lookup x=some .local\/sc.names.lookup x=some .cell\/sc.names.lookup x=some .free
def Loc(sc:Scope)(x:Str):Prop:=sc.names.lookup x=some .local\/sc.names.lookup x=some .cell
def Look(env:Env)(h:Heap)(m:Str->Option Value)(x:Str)(u:Value):Prop:=
 (env.kindOf x=some .local/\m x=some u)\/((env.kindOf x=some .cell\/env.kindOf x=some .free)/\∃c,env.cells.lookup x=some c/\h.IsCell c (some u))
structure Cx.Ok(X:Cx):Prop where
 mod:Mod X.K X.mg X.base
 kind:X.env.scope.kind=.function
 glob:X.env.globals=mainGlobals
 blt:X.env.builtins=builtinsNs
 above:X.s₀.heap.objs.size<=X.env.locals
 inj:∀x y c,X.env.cells.lookup x=some c->X.env.cells.lookup y=some c->x=y
 has:∀x,(X.env.kindOf x=some .cell\/X.env.kindOf x=some .free)->∃c,X.env.cells.lookup x=some c
 cab:∀x c,X.fn x=true->X.env.cells.lookup x=some c->X.s₀.heap.objs.size<=c
 hd:X.aj=true->X.A.handled=none
 frames:X.A.frames=some X.stack
 stk:X.stack=X.outer\/(X.stack=X.env::X.outer/\X.env.frame=some X.env.locals)
 exf:∀b∈X.ex,b≠X.env.locals/\∀x c,X.env.cells.lookup x=some c->c≠b
 bs:∀b o,X.base.get? b=some o->X.s₀.heap.get? b=some o/\X.H₀ b=none
 Gf:X.base.objs.size<=X.s₀.heap.objs.size
 Cq:∀b o,X.base.get? b=some o->b∉X.ex
 Ig:∀b∈X.ex,b∉X.fs
 mL:X.s₀.heap.FunFrames X.base X.outer
 Nq:∀b∈X.fs,X.H₀ b=none
structure Inv(X:Cx)(ak:List (Addr×Obj))(Z:List (Option V))(H:Hp)(s:Shared):Prop where
 ok:X.Ok
 os:s.os=X.s₀.os
 bare:AllBare s.gens
 base:Un X.fs X.ex X.H₀ H X.s₀.heap s.heap
 loc:∃m,s.heap.Ns X.env.locals m/\∀(i:Nat) (x:Str) (v:V),X.N[i]?=some x->Z[i]?=some (some v)->QC X.env.scope x->∃u,RelV v u/\Look X.env s.heap m x u
 cell:∀x c,X.env.cells.lookup x=some c->∃v,s.heap.IsCell c v
 free:H X.env.locals=none
 jq:∀x c,X.env.cells.lookup x=some c->H c=none
 pin:∀p∈X.pn++ak,s.heap.get? p.1=some p.2/\H p.1=none/\p.1≠X.env.locals/\p.1∉X.fs/\∀v,p.2.data≠.cell v
 hok:iu X.prog X.w H s.heap
 len:Z.length=X.N.length
section
variable {X:Cx}{ak:List (Addr×Obj)}{Z:List (Option V)}{H H':Hp}{s:Shared}{h':Heap}
theorem Cx.Ok.QD(ok:X.Ok){b:Addr}{o:Obj}(e:X.base.get? b=some o):b∉X.fs:=λhb=>by
 have:=(ok.mL.mem hb).1;rw[e] at this;cases this
theorem Inv.bs(I:Inv X ak Z H s):∀b o,X.base.get? b=some o->s.heap.get? b=some o/\H b=none:=λb o e=>
 ⟨I.base.keep b o (I.ok.bs b o e).1 (I.ok.bs b o e).2 (I.ok.QD e) (I.ok.Cq b o e),I.base.free b o (I.ok.bs b o e).1 (I.ok.bs b o e).2 (I.ok.Cq b o e)⟩
theorem Inv.bk(I:Inv X ak Z H s):∀b o,X.base.get? b=some o->s.heap.get? b=some o:=λb o e=>(I.bs b o e).1
theorem Inv.mod(I:Inv X ak Z H s):Mod X.K X.mg X.base:=I.ok.mod
theorem Inv.xG(I:Inv X ak Z H s):X.K.In s.heap:=I.ok.mod.Gb.keeps I.bk
theorem Inv.lt(I:Inv X ak Z H s):X.env.locals<s.heap.objs.size:=let ⟨_,hn,_⟩:=I.loc;hn.lt
theorem Inv.sz(I:Inv X ak Z H s):X.s₀.heap.objs.size<=s.heap.objs.size:=jH I.ok.above (ud I.lt)
theorem Inv.QF(I:Inv X ak Z H s){a:Addr}(h:s.heap.objs.size<=a):a∉X.fs:=λhb=>by
 obtain⟨_,o,ho,_⟩:=I.ok.mL.mem hb;exact absurd (dh (bC ho) (jH I.sz h)) (mD _)
theorem Inv.Cr(I:Inv X ak Z H s):∀x c,X.env.cells.lookup x=some c->c≠X.env.locals:=λx c e z=>by
 obtain⟨v,o,ho,hd⟩:=I.cell x c e;obtain⟨m,⟨o',es,ep,lN,QG,_⟩,_⟩:=I.loc;rw[z,lN] at ho;cases ho;rw[QG] at hd;cases hd
theorem Inv.mL(I:Inv X ak Z H s):s.heap.FunFrames X.base X.outer:=by
 have all:∀(l:List Env),(∀b∈frs l,b∈X.fs)->X.s₀.heap.FunFrames X.base l->s.heap.FunFrames X.base l:=by
  intro l
  induction l with
  |nil=>intro _ _;trivial
  |cons env r ih=>
   intro hs hl;obtain⟨hk,⟨L,o,hf,hn,ho,hd⟩,hr⟩:=hl;have hL:L∈X.fs:=hs L (by unfold frs;rw[zu,hf];exact gA);obtain⟨sl,e⟩:=I.base.slot L o ho (I.ok.Nq L hL) hL λz=>I.ok.Ig L z hL;exact⟨hk,⟨L,_,hf,hn,e,hd⟩,ih (λb hb=>hs b (by unfold frs;rw[zu,hf];exact eF _ hb)) hr⟩
 exact all X.outer (λ_ hb=>hb) I.ok.mL
theorem Inv.stack(I:Inv X ak Z H s):s.heap.FunFrames X.base X.stack:=by
 rcases I.ok.stk with e|⟨e,hf⟩
 ·rw[e];exact I.mL
 ·rw[e];obtain⟨m,hn,_⟩:=I.loc;refine .cons (by rw[I.ok.kind];decide) hf hn ?_ I.mL;exact Hj (jH I.ok.Gf I.ok.above)
theorem Inv.jP(I:Inv X ak Z H s):∀b∈frs X.stack,b∈X.env.locals::X.fs:=λb hb=>by
 rcases I.ok.stk with e|⟨e,hf⟩
 ·rw[e] at hb;exact eF _ hb
 ·rw[e] at hb;unfold frs at hb;rw[zu,hf] at hb;exact hb
theorem Inv.mO(I:Inv X ak Z H s):∀b∈frs X.stack,H b=none:=λb hb=>by
 rcases bZ.mp (I.jP b hb) with e|hb
 ·rw[e];exact I.free
 ·obtain⟨_,o,ho,_⟩:=I.ok.mL.mem hb;exact I.base.free b o ho (I.ok.Nq b hb) λz=>I.ok.Ig b z hb
theorem Inv.step{g':Array GenState}{t':Nat}{d':Drawn}{ch:List Addr}(I:Inv X ak Z H s)
  (vY:∀b∈ch,(b∈X.ex\/X.s₀.heap.get? b=none)/\b≠X.env.locals/\(∀x c,X.env.cells.lookup x=some c->c≠b)/\∀p∈X.pn++ak,p.1≠b)
  (keep:∀b o,b≠X.env.locals->b∉X.fs->b∉ch->s.heap.get? b=some o->H b=none->h'.get? b=some o)
  (slot:∀b o,b≠X.env.locals->b∈X.fs->b∉ch->s.heap.get? b=some o->H b=none->∃sl,h'.get? b=some {o with slots:=sl}) (free:∀b o,b∉ch->s.heap.get? b=some o->H b=none->H' b=none)
  (there:∀b o,b∉ch->s.heap.get? b=some o->∃o',h'.get? b=some o')
  (tups:∀b xs,H b=some (.tup xs)->H' b=some (.tup xs)) (lu:∀b o u,H b=some (.vX o u)->H' b=some (.vX o u)) (mJ:∀b ps,H b=some (.Cm ps)->∃more,H' b=some (.Cm (ps++more)))
  (ns:∀m,s.heap.Ns X.env.locals m->h'.Ns X.env.locals m) (hok:iu X.prog X.w H' h') (hg:AllBare g') :
  Inv X ak Z H' {s with heap:=h',gens:=g',drawn:=d',toks:=t'}:=by
 have XH:∀b o,X.s₀.heap.get? b=some o->b≠X.env.locals:=λb o e=>cR (dh (bC e) I.ok.above);have Nr:∀b o,X.s₀.heap.get? b=some o->b∉X.ex->b∉ch:=λb o e hx hb=>by
  rcases(vY b hb).1 with z|z
  ·exact hx z
  ·rw[e] at z;cases z
 have cellK:∀x c,X.env.cells.lookup x=some c->∀v,s.heap.IsCell c v->h'.IsCell c v:=λx c e v hx=>xu hx λo ho hd=>by
  have Ih:c∉ch:=λz=>(vY c z).2.2.1 x c e rfl;by_cases hc:c∈X.fs
  ·obtain⟨sl,q⟩:=slot c o (I.Cr x c e) hc Ih ho (I.jq x c e);exact⟨_,q,hd⟩
  ·exact⟨o,keep c o (I.Cr x c e) hc Ih ho (I.jq x c e),hd⟩
 refine⟨I.ok,I.os,hg,⟨λb o e n hb hx=>?_,λb o e n hb hx=>?_,λb o e n hx=>?_,λb o e hx=>?_,λb xs e=>tups b xs (I.base.tups b xs e),λb o xs e=>lu b o xs (I.base.lu b o xs e),λb ps e=>?_⟩,?_,λx c e=>?_,?_,λx c e=>?_,λp hp=>?_,hok,I.len⟩
 ·exact keep b o (XH b o e) hb (Nr b o e hx) (I.base.keep b o e n hb hx) (I.base.free b o e n hx)
 ·obtain⟨sl,e1⟩:=I.base.slot b o e n hb hx;obtain⟨sl',e2⟩:=slot b _ (XH b o e) hb (Nr b o e hx) e1 (I.base.free b o e n hx);exact⟨sl',e2⟩
 ·obtain⟨o',e1⟩:=I.base.there b o e hx;exact free b o' (Nr b o e hx) e1 (I.base.free b o e n hx)
 ·obtain⟨o',e1⟩:=I.base.there b o e hx;exact there b o' (Nr b o e hx) e1
 ·obtain⟨m1,e1⟩:=I.base.mJ b ps e;obtain⟨m2,e2⟩:=mJ b _ e1;exact⟨m1++m2,by rw[e2,Array.append_assoc]⟩
 ·obtain⟨m,hn,hl⟩:=I.loc;refine⟨m,ns m hn,λi x v e1 e2 e3=>?_⟩;obtain⟨u,r,l⟩:=hl i x v e1 e2 e3;refine⟨u,r,?_⟩;rcases l with l|⟨k,c,e,z⟩
  ·exact .inl l
  ·exact .inr ⟨k,c,e,cellK x c e _ z⟩
 ·obtain⟨v,z⟩:=I.cell x c e;exact⟨v,cellK x c e v z⟩
 ·obtain⟨m,⟨o,_,_,ho,_⟩,_⟩:=I.loc;exact free _ o (λz=>(vY _ z).2.1 rfl) ho I.free
 ·obtain⟨v,o,ho,hd⟩:=I.cell x c e;exact free c o (λz=>(vY c z).2.2.1 x c e rfl) ho (I.jq x c e)
 ·obtain⟨e,n,ne,nf,d⟩:=I.pin p hp;have Ih:p.1∉ch:=λz=>(vY p.1 z).2.2.2 p hp rfl;exact⟨keep p.1 p.2 ne nf Ih e n,free p.1 p.2 Ih e n,ne,nf,d⟩
theorem Inv.un{t':Nat}(I:Inv X ak Z H s)(u:Un X.fs [] H H' s.heap h')(hok:iu X.prog X.w H' h'):Inv X ak Z H' {s with heap:=h',toks:=t'}:=by
 obtain⟨m,⟨o,es,ep,ho,r⟩,_⟩:=id I.loc;obtain⟨sl,hL⟩:=u.any ho I.free J0;exact I.step (g':=s.gens) (d':=s.drawn) (ch:=[]) (λ_ z=>nomatch z) (λb o _ hb _ e n=>u.keep b o e n hb J0) (λb o _ hb _ e n=>u.slot b o e n hb J0) (λb o _ e n=>u.free b o e n J0) (λb o _ e=>u.there b o e J0) u.tups u.lu u.mJ (λm' hm=>by
  obtain⟨o',es',ep',lN,r'⟩:=hm;rw[ho] at lN;cases lN;exact⟨_,es',ep',hL,r'⟩) hok I.bare
theorem Inv.call{g':Array GenState}{t':Nat}{d':Drawn}{ch:List Addr}(I:Inv X ak Z H s)(u:Un (frs X.stack) ch H H' s.heap h')(hok:iu X.prog X.w H' h')(hg:AllBare g')
  (vY:∀b∈ch,(b∈X.ex\/X.s₀.heap.get? b=none)/\b≠X.env.locals/\(∀x c,X.env.cells.lookup x=some c->c≠b)/\∀p∈X.pn++ak,p.1≠b) :
  Inv X ak Z H' {s with heap:=h',gens:=g',drawn:=d',toks:=t'}:=by
 obtain⟨m,⟨o,es,ep,ho,r⟩,_⟩:=id I.loc;obtain⟨sl,hL⟩:=u.any ho I.free λz=>(vY _ z).2.1 rfl;exact I.step (ch:=ch) vY (λb o hL hb hc e n=>u.keep b o e n (λz=>(bZ.mp (I.jP b z)).elim hL hb) hc) (λb o _ _ hc e n=>u.any e n hc) (λb o hc e n=>u.free b o e n hc) (λb o hc e=>u.there b o e hc) u.tups u.lu u.mJ (λm' hm=>by
  obtain⟨o',es',ep',lN,r'⟩:=hm;rw[ho] at lN;cases lN;exact⟨_,es',ep',hL,r'⟩) hok hg
theorem Inv.turned{t':Nat}{it:Addr}(I:Inv X ak Z H s)(k:∀b o,b≠it->s.heap.get? b=some o->h'.get? b=some o)(hn:H it=none)(hL:it≠X.env.locals)
  (h1:it∈X.ex\/X.s₀.heap.objs.size<=it) (h2:∀x c,X.env.cells.lookup x=some c->c≠it) (h3:∀p∈X.pn++ak,p.1≠it):Inv X ak Z H {s with heap:=h',toks:=t'}:=by
 have zO:∀b u,H b=some u->b≠it:=λb u e z=>by rw[z,hn] at e;cases e
 refine I.step (g':=s.gens) (d':=s.drawn) (ch:=[it]) (λb hb=>?_) (λb o _ _ hc e _=>k b o (λz=>hc (by simp[z])) e) (λb o _ _ hc e _=>⟨o.slots,k b o (λz=>hc (by simp[z])) e⟩) (λ_ _ _ _ n=>n)
  (λb o hc e=>⟨o,k b o (λz=>hc (by simp[z])) e⟩) (λ_ _ e=>e) (λ_ _ _ e=>e) (λb ps e=>⟨#[],by rw[e];simp⟩) (λm hm=>?_) (λb u e=>?_) I.bare
 ·have e:b=it:=by simpa using hb
  subst e;exact⟨h1.imp id λz=>Hj z,hL,h2,h3⟩
 ·obtain⟨o,es,ep,ho,r⟩:=hm;exact⟨o,es,ep,k _ o (Ne.symm hL) ho,r⟩
 ·refine(I.hok b u e).stay (λc v hc q=>k c v ?_ q) (λ_ q=>q) λ_ _ q=>q;rcases hc with z|z
  ·rw[z];exact zO b u e
  ·exact zO c _ z
theorem Inv.tok(I:Inv X ak Z H s)(t:Nat):Inv X ak Z H {s with toks:=t}:=I.un (h':=s.heap) (t':=t) Un.refl I.hok
theorem Inv.kept{t':Nat}(I:Inv X ak Z H s)(k:∀b u,s.heap.get? b=some u->h'.get? b=some u):Inv X ak Z H {s with heap:=h',toks:=t'}:=I.un (Un.kept k) (I.hok.kept k)
theorem Inv.laid{a:Addr}{o:HO}{t':Nat}(I:Inv X ak Z H s)(k:∀b u,s.heap.get? b=some u->h'.get? b=some u)(hp:s.heap.objs.size<=a)(new:aV X.prog X.w (upd H a o) h' a o) :
  Inv X ak Z (upd H a o) {s with heap:=h',toks:=t'}:=I.un (Un.laid k hp (I.hok.fresh hp)) (I.hok.laid k hp new)
theorem Inv.write{x e:Addr}{o:HO}{t':Nat}(I:Inv X ak Z H s)(mu:Ib (H x))(he:e=x\/H e=some (.own x))(k:∀b u,b≠e->s.heap.get? b=some u->h'.get? b=some u)(Ge:∃u,h'.get? e=some u)
  (new:aV X.prog X.w (upd H x o) h' x o):Inv X ak Z (upd H x o) {s with heap:=h',toks:=t'}:=I.un (Un.write mu he k Ge) (I.hok.write mu he k Ge new)
theorem Inv.mQ{zP:List (Addr×Obj)}(I:Inv X ak Z H s)(h:∀p∈zP,s.heap.get? p.1=some p.2/\H p.1=none/\p.1≠X.env.locals/\p.1∉X.fs/\∀v,p.2.data≠.cell v):Inv X zP Z H s:=
 ⟨I.ok,I.os,I.bare,I.base,I.loc,I.cell,I.free,I.jq,λp hp=>(eU.mp hp).elim (λz=>I.pin p (tY _ z)) (h p),I.hok,I.len⟩
theorem XJ{N:List Str}(hN:N.Nodup){i j:Nat}{x:Str}(a:N[i]?=some x)(b:N[j]?=some x):i=j:=by
 obtain⟨h1,e1⟩:=gw.mp a;obtain⟨h2,e2⟩:=gw.mp b;exact(List.getElem_inj hN).mp (e1.trans e2.symm)
theorem XM{M:Model}{A:Around}{E:Value->Shared->Prop}{i:Nat}{x:Str}{v:V}{u:Value}{Q:Unit->Shared->Prop}(I:Inv X ak Z H s)(hN:X.N.Nodup)(hi:X.N[i]?=some x)(hx:Loc X.env.scope x)(r:RelV v u)
  (h:∀s',Inv X ak (Z.set i (some v)) H s'->(∃a,Heap.SameBut a s.heap s'.heap/\(a=X.env.locals\/X.env.cells.lookup x=some a))->Q () s') (hf:X.fn x=true\/X.env.scope.names.lookup x=some .local:=by first|exact .inl rfl|exact .inr rfl|assumption):wpAny M A (storeName X.env x u) Q E s:=by
 obtain⟨m,hn,hl⟩:=id I.loc;have QJ:(X.env.scope.kind==.class||(X.env.scope.kind==.module&&X.env.locals != X.env.globals))=false:=by rw[I.ok.kind];rfl
 have XQ:i<Z.length:=by rw[I.len];exact(gw.mp hi).1
 have Cr:=I.Cr;have tracked:∀{a:Addr} {h':Heap},(∃o,s.heap.get? a=some o/\H a=none)->Heap.SameBut a s.heap h'->iu X.prog X.w H h':=λ{a h'} ha hs b ob e=>by
  obtain⟨_,_,lO⟩:=ha;refine(I.hok b ob e).stay (λc w' hc q=>(hs.2 c ?_).trans q) (λ_ q=>q) λ_ _ q=>q;rintro rfl;rcases hc with rfl|hc
  ·rw[lO] at e;cases e
  ·rw[lO] at hc;cases hc
 rcases hx with hk|hk
 ·refine wpAny_storeName_local hk hn (λh' hn' hs=>?_) QJ;obtain⟨oL,_,_,zQ,_⟩:=id hn;refine h _ ⟨I.ok,I.os,I.bare,⟨λb o e n hb hx=>?_,λb o e n hb hx=>?_,I.base.free,λb o e hx=>?_,I.base.tups,I.base.lu,I.base.mJ⟩,⟨_,hn',λj y v' e1 e2 e3=>?_⟩,λy c e=>?_,I.free,I.jq,λp hp=>?_,tracked ⟨oL,zQ,I.free⟩ hs,by simpa using I.len⟩ ⟨_,hs,.inl rfl⟩
  ·exact(hs.2 b (cR (dh (bC e) I.ok.above))).trans (I.base.keep b o e n hb hx)
  ·obtain⟨sl,e1⟩:=I.base.slot b o e n hb hx;exact⟨sl,(hs.2 b (cR (dh (bC e) I.ok.above))).trans e1⟩
  ·obtain⟨o',e1⟩:=I.base.there b o e hx;exact⟨o',(hs.2 b (cR (dh (bC e) I.ok.above))).trans e1⟩
  ·by_cases hj:j=i
   ·subst hj;rw[hi] at e1;cases e1;rw[Fy XQ] at e2;cases e2;exact⟨u,r,.inl ⟨hk,by simp⟩⟩
   ·rw[tZ (Ne.symm hj)] at e2;obtain⟨u',r',q⟩:=hl j y v' e1 e2 e3;refine⟨u',r',?_⟩;rcases q with ⟨k,e⟩|⟨k,c,e,z⟩
    ·refine .inl ⟨k,?_⟩;have:y≠x:=λe=>hj (XJ hN e1 (e▸hi));simp[this,e]
    ·exact .inr ⟨k,c,e,z.sameBut hs (Cr y c e)⟩
  ·obtain⟨w',z⟩:=I.cell y c e;exact⟨w',z.sameBut hs (Cr y c e)⟩
  ·obtain⟨e,n,ne,nf,d⟩:=I.pin p hp;exact⟨(hs.2 p.1 ne).trans e,n,ne,nf,d⟩
 ·have QK:X.fn x=true:=by
   rcases hf with z|z
   ·exact z
   ·rw[z] at hk;cases hk
  obtain⟨c,hc⟩:=I.ok.has x (.inl hk);obtain⟨w',z⟩:=I.cell x c hc;refine wpAny_storeName_cell I.ok.kind hk hc z (λh' iY hs=>?_);obtain⟨oc,XR,QL⟩:=id z;refine h {s with heap:=h'} ⟨I.ok,I.os,I.bare,⟨λb o e n hb hx=>?_,λb o e n hb hx=>?_,I.base.free,λb o e hx=>?_,I.base.tups,I.base.lu,I.base.mJ⟩,⟨m,hn.sameBut hs (Ne.symm (Cr x c hc)),λj y v' e1 e2 e3=>?_⟩,λy c' e=>?_,I.free,I.jq,λp hp=>?_,tracked ⟨oc,XR,I.jq x c hc⟩ hs,by simpa using I.len⟩ ⟨c,hs,.inr hc⟩
  ·exact(hs.2 b (cR (dh (bC e) (I.ok.cab x c QK hc)))).trans (I.base.keep b o e n hb hx)
  ·obtain⟨sl,e1⟩:=I.base.slot b o e n hb hx;exact⟨sl,(hs.2 b (cR (dh (bC e) (I.ok.cab x c QK hc)))).trans e1⟩
  ·obtain⟨o',e1⟩:=I.base.there b o e hx;exact⟨o',(hs.2 b (cR (dh (bC e) (I.ok.cab x c QK hc)))).trans e1⟩
  ·by_cases hj:j=i
   ·subst hj;rw[hi] at e1;cases e1;rw[Fy XQ] at e2;cases e2;exact⟨u,r,.inr ⟨.inl hk,c,hc,iY⟩⟩
   ·rw[tZ (Ne.symm hj)] at e2;obtain⟨u',r',q⟩:=hl j y v' e1 e2 e3;refine⟨u',r',?_⟩;rcases q with q|⟨k,c',e,z'⟩
    ·exact .inl q
    ·refine .inr ⟨k,c',e,z'.sameBut hs ?_⟩;rintro rfl;exact hj (XJ hN e1 (I.ok.inj _ _ _ e hc▸hi))
  ·by_cases X3:c'=c
   ·subst X3;exact⟨_,iY⟩
   ·obtain⟨w2,z2⟩:=I.cell y c' e;exact⟨w2,z2.sameBut hs X3⟩
  ·obtain⟨e,n,ne,nf,d⟩:=I.pin p hp;refine⟨(hs.2 p.1 ?_).trans e,n,ne,nf,d⟩;intro q;rw[q,XR] at e;have q':oc=p.2:=dJ e;exact d w' (by rw[<-q'];exact QL)
theorem X4{M:Model}{A:Around}{E:Value->Shared->Prop}{i:Nat}{x:Str}{v:V}{u:Value}{Q:Unit->Shared->Prop}(I:Inv X ak Z H s)(hN:X.N.Nodup)(hi:X.N[i]?=some x)(hx:Loc X.env.scope x)(r:RelV v u)
  (h:∀s',Inv X ak (Z.set i (some v)) H s'->Q () s') (hf:X.fn x=true\/X.env.scope.names.lookup x=some .local:=by first|exact .inl rfl|exact .inr rfl|assumption):wpAny M A (storeName X.env x u) Q E s:=
 XM I hN hi hx r (λs' I' _=>h s' I') hf
theorem Inv.call'{s':Shared}{ch:List Addr}(I:Inv X ak Z H s)(ho:s'.os=s.os)(u:Un (frs X.stack) ch H H' s.heap s'.heap)(hok:iu X.prog X.w H' s'.heap)(hg:AllBare s'.gens)
  (vY:∀b∈ch,(b∈X.ex\/X.s₀.heap.get? b=none)/\b≠X.env.locals/\(∀x c,X.env.cells.lookup x=some c->c≠b)/\∀p∈X.pn++ak,p.1≠b):Inv X ak Z H' s':=by
 obtain⟨h',g',d',t',o'⟩:=s';have e:o'=s.os:=ho;subst e;exact I.call (g':=g') (t':=t') (d':=d') u hok hg vY
end
noncomputable abbrev XK:=Value->Option Addr->Hp->Prop
noncomputable abbrev St:=List (Option V)
noncomputable abbrev VK:=V->Hp->Prop
noncomputable abbrev TE:=St->Hp->VK->Prop
noncomputable abbrev TT:=St->Hp->(Bool->Hp->Prop)->Prop
noncomputable abbrev TA:=St->Hp->(List V->Hp->Prop)->Prop
structure Ends where
 nx:St->Hp->Prop
 rt:VK
 bk:St->Hp->Prop:=λ_ _=>False
 ct:St->Hp->Prop:=λ_ _=>False
noncomputable abbrev TS:=Ends->St->Hp->Prop
def EP(X:Cx)(ak:List (Addr×Obj))(Z:St)(Q:VK)(u:Value)(s':Shared):Prop:=∃v H',Inv X ak Z H' s'/\RelV v u/\Q v H'
def TP(X:Cx)(ak:List (Addr×Obj))(Z:St)(Q:Bool->Hp->Prop)(b:Bool)(s':Shared):Prop:=∃H',Inv X ak Z H' s'/\Q b H'
def AP(X:Cx)(ak:List (Addr×Obj))(Z:St)(Q:List V->Hp->Prop)(us:List Value)(s':Shared):Prop:=∃vs H',Inv X ak Z H' s'/\Vals vs us/\Q vs H'
def SP(X:Cx)(ak:List (Addr×Obj))(D:Ends)(f:Flow)(s':Shared):Prop:=
 match f with
 |.next=>∃Z' H',Inv X ak Z' H' s'/\D.nx Z' H'
 |.brk=>∃Z' H',Inv X ak Z' H' s'/\D.bk Z' H'
 |.cont=>∃Z' H',Inv X ak Z' H' s'/\D.ct Z' H'
 |.ret u=>∃v Z' H',Inv X ak Z' H' s'/\RelV v u/\D.rt v H'
def PE(X:Cx)(e:Expr)(t:TE):Prop:=
 ∀(ak:List (Addr×Obj)) (s:Shared) (Z:St) (H:Hp) (Q:VK),Inv X ak Z H s->t Z H Q->wpAny (model X.prog X.w) X.A (eval e X.env) (EP X ak Z Q) X.xe s
def PT(X:Cx)(e:Expr)(t:TT):Prop:=
 ∀(ak:List (Addr×Obj)) (s:Shared) (Z:St) (H:Hp) (Q:Bool->Hp->Prop),Inv X ak Z H s->t Z H Q->wpAny (model X.prog X.w) X.A (isTrue e X.env (eval e X.env)) (TP X ak Z Q) X.xe s
def PW(X:Cx)(e:Expr)(t:TT):Prop:=
 ∀(whole:Sem Value) (ak:List (Addr×Obj)) (s:Shared) (Z:St) (H:Hp) (Q:Bool->Hp->Prop),Inv X ak Z H s->t Z H Q->wpAny (model X.prog X.w) X.A (isTrue e X.env whole) (TP X ak Z Q) X.xe s
theorem Kab{X:Cx}{e:Expr}{t:TT}(h:PW X e t):PT X e t:=h _
def PA(X:Cx)(es:List Expr)(t:TA):Prop:=
 ∀(pos:Pos) (ak:List (Addr×Obj)) (s:Shared) (Z:St) (H:Hp) (Q:List V->Hp->Prop),Inv X ak Z H s->t Z H Q->wpAny (model X.prog X.w) X.A (spliced (backTo pos (starEach es X.env))) (AP X ak Z Q) X.xe s
def PS(X:Cx)(st:Stmt)(t:TS):Prop:=
 ∀(ak:List (Addr×Obj)) (s:Shared) (Z:St) (H:Hp) (D:Ends),Inv X ak Z H s->t D Z H->wpAny (model X.prog X.w) X.A (exec st X.env) (SP X ak D) X.xe s
def rF(X:Cx)(st:List Stmt)(t:TS):Prop:=
 ∀(ak:List (Addr×Obj)) (s:Shared) (Z:St) (H:Hp) (D:Ends),Inv X ak Z H s->t D Z H->wpAny (model X.prog X.w) X.A (execs st X.env) (SP X ak D) X.xe s
theorem aU{α:Type}{t:Sem α}{Q Q':α->Shared->Prop}{M:Model}{A:Around}{E:Value->Shared->Prop}{s:Shared}(h:wpAny M A t Q E s)(hQ:∀a s,Q a s->Q' a s):wpAny M A t Q' E s:=iR h hQ λ_ _ x=>x
section
variable {X:Cx}
noncomputable def QM(i:Nat):TE:=λZ H Q=>∃v,Z[i]?=some (some v)/\Q v H
noncomputable def tC(v:V):TE:=λ_ H Q=>Q v H
theorem zl5{i:Nat}{x:Str}{pos:Pos}(hN:X.N[i]?=some x)(hv:QC X.env.scope x)(hd:(x==("__debug__" : Str))=false:=by decide)(oJ:(x==("__classdict__" : Str))=false:=by decide):PE X (.Name x pos) (QM i):=by
 intro ak s Z H Q I h;obtain⟨v,e,h⟩:=h;obtain⟨m,hn,hl⟩:=I.loc;obtain⟨u,r,l⟩:=hl i x v hN e hv;have fin:EP X ak Z Q u s:=⟨v,H,I,r,h⟩;rcases l with ⟨hk,hm⟩|⟨hk,c,hc,zR⟩
 ·exact wpAny_Name (wpAny_loadName_local I.ok.kind hk hn hm fin) hd
 ·rcases hk with hk|hk
  ·exact wpAny_Name (wpAny_loadName_cell I.ok.kind hk hc zR fin) hd
  ·exact wpAny_Name (wpAny_loadName_free I.ok.kind hk hc zR fin oJ) hd
theorem Nt{i j pos}:PE X (.Constant (.int i) j pos) (tC (.int i)):=λ_ _ _ H _ I h=>wpAny_Constant_int ⟨.int i,H,I.tok _,⟨_,rfl⟩,h⟩
theorem znc{b j pos}:PE X (.Constant (.bool b) j pos) (tC (.bl b)):=λ_ _ _ H _ I h=>Constant_bool ⟨.bl b,H,I,rfl,h⟩
theorem zkV{j pos}:PE X (.Constant .none j pos) (tC .non):=λ_ _ _ H _ I h=>Constant_none ⟨.non,H,I,rfl,h⟩
theorem X5{x j pos}:PE X (.Constant (.str x) j pos) (tC (.str x)):=λ_ _ _ H _ I h=>Calls.Constant_str ⟨.str x,H,I.tok _,⟨_,rfl⟩,h⟩
def Gl(X:Cx)(x:Str):Prop:=X.env.kindOf x=some .globalImplicit
theorem X6{E:Value->Shared->Prop}{ak:List (Addr×Obj)}{s:Shared}{Z:St}{H:Hp}{x:Str}{u:Value}{pos:Pos}{Q:Value->Shared->Prop}(I:Inv X ak Z H s)(hg:Gl X x)(hm:X.mg x=some u)(h:Q u s)
  (hd:(x==("__debug__" : Str))=false:=by decide):wpAny (model X.prog X.w) X.A (eval (.Name x pos) X.env) Q E s:=
 Calls.Name_function_global I.ok.kind hg (Calls.loadGlobal_global (by rw[I.ok.glob];exact I.mod.glob.keeps I.bk) hm h) hd
theorem uo{E:Value->Shared->Prop}{ak:List (Addr×Obj)}{s:Shared}{Z:St}{H:Hp}{x:Str}{u:Value}{pos:Pos}{Q:Value->Shared->Prop}(I:Inv X ak Z H s)(hg:Gl X x)(hm:X.mg x=none)(hv:bootBuiltins x=some u)(h:Q u s)
  (hn:x≠"__name__":=by decide) (hd:(x==("__debug__" : Str))=false:=by decide):wpAny (model X.prog X.w) X.A (eval (.Name x pos) X.env) Q E s:=by
 obtain⟨mb,h1,h2⟩:=I.mod.blt;exact Calls.Name_function_global I.ok.kind hg (Calls.loadGlobal_builtin (by rw[I.ok.glob];exact I.mod.glob.keeps I.bk) hm (by rw[I.ok.blt];exact h1.keeps I.bk) ((h2 x hn).trans hv) h) hd
theorem X7{x:Str}{v:V}{u:Value}{pos:Pos}(hg:Gl X x)(hm:X.mg x=some u)(r:RelV v u)(hd:(x==("__debug__" : Str))=false:=by decide):PE X (.Name x pos) (tC v):=
 λ_ _ _ H _ I h=>X6 I hg hm ⟨v,H,I,r,h⟩ hd
variable {a b:Expr}{ta tb:TE}{pos:Pos}
def PC(X:Cx)(op:CmpOp)(a b:Expr)(t:TE):Prop:=
 ∀(ak:List (Addr×Obj)) (s:Shared) (Z:St) (H:Hp) (Q:VK),Inv X ak Z H s->t Z H Q->
  wpAny (model X.prog X.w) X.A (eval a X.env) (λv s₁=>wpAny (model X.prog X.w) X.A (eval b X.env) (λu s₂=>wpAny (model X.prog X.w) X.A (compareOp op v u) (EP X ak Z Q) X.xe s₂) X.xe s₁) X.xe s
theorem nO(b:Expr){op:CmpOp}(h:op≠.In)(h2:op≠.NotIn):behindInMarks op b=false:=by
 have e1:(op==CmpOp.In)=false:=by cases op<;>first|rfl|exact absurd rfl h
 have e2:(op==CmpOp.NotIn)=false:=by cases op<;>first|rfl|exact absurd rfl h2
 cases b<;>simp[behindInMarks,e1,e2]
noncomputable def QS(ta:TE):TE:=λZ H Q=>ta Z H λx H1=>Q (.bl (decide (x=.non))) H1
theorem RelV.uq{x:V}{v:Value}(r:RelV x v):(v==Value.none)=decide (x=.non):=by
 cases x with
 |non=>cases r;rfl
 |bl _=>cases r;rfl
 |int _=>obtain⟨t,rfl⟩:=r;rfl
 |str _=>obtain⟨t,rfl⟩:=r;rfl
 |Nm _=>obtain⟨t,rfl⟩:=r;rfl
 |flt _=>obtain⟨t,rfl⟩:=r;rfl
 |ref _=>cases r;rfl
 |ty _=>cases r;rfl
theorem X8{j pos'}(ha:PE X a ta):PC X .Is a (.Constant .none j pos') (QS ta):=by
 intro ak s Z H Q I h;refine aU (ha ak s Z H _ I h) λv s1 hx=>fK hx λx H1 I1 r1 q1=>?_;exact Constant_none (is_none_gen ⟨.bl _,H1,I1,by rw[r1.uq];rfl,q1⟩)
noncomputable def tB(t:TE):TT:=λZ H Q=>t Z H λx H1=>∃c,x=.bl c/\Q c H1
theorem zkS{op:CmpOp}{t:TE}(h:PC X op a b t)(h1:behindInMarks op b=false:=by first|exact nO _ Dc Dc|rfl):PE X (.Compare a [op] [b] pos) t:=λak s Z H Q I hw=>wpAny_Compare1 (h ak s Z H Q I hw) h1
theorem zlp{op:CmpOp}{t:TE}(h:PC X op a b t)(h1:behindInMarks op b=false:=by first|exact nO _ Dc Dc|rfl):PT X (.Compare a [op] [b] pos) (tB t):=by
 intro ak s Z H Q I hw;refine wpAny_isTrue_Compare1 (aU (h ak s Z H _ I hw) λv s1 h1=>aU h1 λu s2 h2=>aU h2 λc s3 hx=>fK hx λx H1 I1 r1 q1=>?_) h1;obtain⟨d,rfl,q⟩:=q1;cases r1;exact wQ ⟨H1,I1,q⟩
theorem zlN{e:Expr}{t:TE}(h:PE X e t)(he:∀whole,isTrue e X.env whole=(do let v <-whole;standAt e.pos;holding [v] (truthy v)):=by intro _;rfl):PT X e (tB t):=by
 intro ak s Z H Q I hw;refine isTrue_plain (aU (h ak s Z H _ I hw) λv s1 hx=>fK hx λx H1 I1 r1 q1=>?_) (he _);obtain⟨d,rfl,q⟩:=q1;cases r1;exact wQ ⟨H1,I1,q⟩
variable {tA Nu:TT}{rest:List Expr}
noncomputable def QT(t u:TT):TT:=λZ H Q=>t Z H λc H1=>if c=true then u Z H1 Q else Q false H1
noncomputable def tOr(t u:TT):TT:=λZ H Q=>t Z H λc H1=>if c=true then Q true H1 else u Z H1 Q
noncomputable def QV(t:TT):TT:=λZ H Q=>t Z H λc H1=>Q (!c) H1
theorem zjK(ha:PT X a tA):PW X (.BoolOp .And [a] pos) tA:=by
 intro wh ak s Z H Q I h;refine isTrue_and (aU (ha ak s Z H Q I h) λc s1 e=>?_);cases c with
 |true=>exact isTrue_and_nil e
 |false=>exact e
theorem zli(ha:PT X a tA):PW X (.BoolOp .Or [a] pos) tA:=by
 intro wh ak s Z H Q I h;refine isTrue_or (aU (ha ak s Z H Q I h) λc s1 e=>?_);cases c with
 |false=>exact isTrue_or_nil e
 |true=>exact e
theorem zl1(ha:PT X a tA)(hb:PW X (.BoolOp .And (b::rest) pos) Nu):PW X (.BoolOp .And (a::b::rest) pos) (QT tA Nu):=by
 intro wh ak s Z H Q I h;refine isTrue_and (aU (ha ak s Z H _ I h) λc s1 hx=>xu hx λH1 I1 q1=>?_);cases c with
 |true=>exact hb wh ak s1 Z H1 Q I1 q1
 |false=>exact⟨H1,I1,q1⟩
theorem znL(ha:PT X a tA)(hb:PW X (.BoolOp .Or (b::rest) pos) Nu):PW X (.BoolOp .Or (a::b::rest) pos) (tOr tA Nu):=by
 intro wh ak s Z H Q I h;refine isTrue_or (aU (ha ak s Z H _ I h) λc s1 hx=>xu hx λH1 I1 q1=>?_);cases c with
 |true=>exact⟨H1,I1,q1⟩
 |false=>exact hb wh ak s1 Z H1 Q I1 q1
theorem zkM(ha:PT X a tA):PT X (.UnaryOp .Not a pos) (QV tA):=by
 intro ak s Z H Q I h;exact isTrue_not (ha ak s Z H (λc H1=>Q (!c) H1) I h)
noncomputable def Ii(ta tb:TE):TE:=λZ H Q=>ta Z H λx H1=>∃c,x=.bl c/\if c=true then tb Z H1 Q else Q (.bl false) H1
noncomputable def Ij(ta:TE):TE:=λZ H Q=>ta Z H λx H1=>∃c,x=.bl c/\Q (.bl (!c)) H1
theorem zmp{op}{t:TE}(h:PE X a t):PE X (.BoolOp op [a] pos) t:=λak s Z H Q I hw=>BoolOp_one (h ak s Z H Q I hw)
theorem zkX(ha:PE X a ta)(hb:PE X (.BoolOp .And (b::rest) pos) tb):PE X (.BoolOp .And (a::b::rest) pos) (Ii ta tb):=by
 intro ak s Z H Q I h;refine BoolOp_and (aU (ha ak s Z H _ I h) λv s1 hx=>fK hx λx H1 I1 r1 q1=>?_);obtain⟨c,rfl,q1⟩:=q1;cases r1;refine wQ ?_;cases c with
 |true=>exact hb ak s1 Z H1 Q I1 q1
 |false=>exact⟨.bl false,H1,I1,rfl,q1⟩
theorem zl3(ha:PE X a ta):PE X (.UnaryOp .Not a pos) (Ij ta):=by
 intro ak s Z H Q I h;refine UnaryOp_ (aU (ha ak s Z H _ I h) λv s1 hx=>fK hx λx H1 I1 r1 q1=>?_);obtain⟨c,rfl,q1⟩:=q1;cases r1;exact not_of (wQ ⟨.bl (!c),H1,I1,rfl,q1⟩)
noncomputable def tIf(t:TT)(ta tb:TE):TE:=λZ H Q=>t Z H λc H1=>if c=true then ta Z H1 Q else tb Z H1 Q
theorem zhL{c:Expr}(hc:PT X c tA)(ha:PE X a ta)(hb:PE X b tb):PE X (.IfExp c a b pos) (tIf tA ta tb):=by
 intro ak s Z H Q I h;refine wpAny_IfExp (aU (hc ak s Z H _ I h) λd s1 hx=>xu hx λH1 I1 q1=>?_);cases d with
 |true=>exact ha ak s1 Z H1 Q I1 q1
 |false=>exact hb ak s1 Z H1 Q I1 q1
end
def cY(K:W.Frag)(H:Hp)(a:Addr)(xs:List V):Prop:=
 Rd H a (.lst xs) \/
  ∃(o:Obj) (its:Array Value) (n:Nat),K.lookup a=some o/\o.cls=.type "list"/\o.dict=none/\o.data=.seq its n/\its.size<=sizeLine/\Vals xs its.toList
def gC(K:W.Frag)(H:Hp)(a:Addr)(xs:List V):Prop:=
 Rd H a (.tup xs) \/
  ∃(o:Obj) (its:Array Value) (n:Nat),K.lookup a=some o/\o.cls=.type "tuple"/\o.data=.seq its n/\its.size<=sizeLine/\Vals xs its.toList
noncomputable def QW:Value->Option V
 |.none=>some .non
 |.bool b=>some (.bl b)
 |.int i _=>some (.int i)
 |.str x _=>some (.str x)
 |.bytes b _=>some (.Nm b)
 |.float b _=>some (.flt b)
 |.ref a=>some (.ref a)
 |.type n=>some (.ty n)
 |_=>none
theorem RelV.abs{x:V}{u:Value}(r:RelV x u):QW u=some x:=by
 cases x with
 |non=>cases r;rfl
 |bl _=>cases r;rfl
 |int _=>obtain⟨t,rfl⟩:=r;rfl
 |str _=>obtain⟨t,rfl⟩:=r;rfl
 |Nm _=>obtain⟨t,rfl⟩:=r;rfl
 |flt _=>obtain⟨t,rfl⟩:=r;rfl
 |ref _=>cases r;rfl
 |ty _=>cases r;rfl
theorem RelV.inj{x y:V}{u:Value}(r:RelV x u)(q:RelV y u):x=y:=dJ (r.abs.symm.trans q.abs)
theorem Vals.inj{xs ys:List V}{us:List Value}(h:Vals xs us)(h':Vals ys us):xs=ys:=by
 induction h generalizing ys with
 |nil=>cases h';rfl
 |cons r _ ih=>
  cases h' with
  |cons r' t'=>rw[r.inj r',ih t']
section
variable {X:Cx}{ak:List (Addr×Obj)}{Z:St}{H:Hp}{s:Shared}{a:Addr}{xs ys:List V}
theorem cY.of{K:W.Frag}(h:H a=some (.lst xs)):cY K H a xs:=.inl (.inl h)
theorem Inv.list(I:Inv X ak Z H s)(h:cY X.K H a xs):∃its:List Value,Vals xs its/\PlainL s.heap a its.toArray/\xs.length<=sizeLine:=by
 rcases h with h|⟨o,its,n,hk,hc,hd,hs,hz,r⟩
 ·obtain⟨z,its,n,r,e⟩:=h.ok I.hok;exact⟨its,r,⟨_,n,e,rfl,rfl,rfl⟩,z⟩
 ·refine⟨its.toList,r,⟨o,n,I.xG a o hk,hc,hd,by simpa using hs⟩,?_⟩;have e:=r.length;simp only[Fz] at e
  lia
theorem Inv.tuple(I:Inv X ak Z H s)(h:gC X.K H a xs):∃its:List Value,Vals xs its/\IsTup s.heap a its.toArray/\xs.length<=sizeLine:=by
 rcases h with h|⟨o,its,n,hk,hc,hs,hz,r⟩
 ·obtain⟨z,its,r,p⟩:=h.ok I.hok;exact⟨its,r,p,z⟩
 ·refine⟨its.toList,r,⟨o,I.xG a o hk,hc,n,by simpa using hs⟩,?_⟩;have e:=r.length;simp only[Fz] at e
  lia
theorem Inv.nP(I:Inv X ak Z H s)(h:cY X.K H a xs)(h':cY X.K H a ys):xs=ys:=by
 obtain⟨its,r,⟨o,n,e,_,_,d⟩,_⟩:=I.list h;obtain⟨its',r',⟨o',n',e',_,_,d'⟩,_⟩:=I.list h';rw[e] at e';cases e';rw[d] at d';injection d' with d1 _;have:its=its':=by simpa using ql Array.toList d1
 subst this;exact r.inj r'
theorem Inv.lQ(I:Inv X ak Z H s)(h:gC X.K H a xs)(h':gC X.K H a ys):xs=ys:=by
 obtain⟨its,r,⟨o,e,_,n,d⟩,_⟩:=I.tuple h;obtain⟨its',r',⟨o',e',_,n',d'⟩,_⟩:=I.tuple h';rw[e] at e';cases e';rw[d] at d';injection d' with d1 _;have:its=its':=by simpa using ql Array.toList d1
 subst this;exact r.inj r'
end
section
variable {X:Cx}{st:Stmt}{rest:List Stmt}{t u:TS}{e:Expr}{te:TE}{pos:Pos}
noncomputable def Ik:TS:=λD Z H=>D.nx Z H
noncomputable def QX(t u:TS):TS:=λD Z H=>t {D with nx:=u D} Z H
theorem zke:rF X [] Ik:=λ_ _ Z H _ I h=>wpAny_execs_nil ⟨Z,H,I,h⟩
theorem zhy(h1:PS X st t)(h2:rF X rest u):rF X (st::rest) (QX t u):=by
 intro ak s Z H D I h;refine wpAny_execs_cons (aU (h1 ak s Z H {D with nx:=u D} I h) λf s1 q=>?_);cases f with
 |next=>
  obtain⟨Z',H',I',q⟩:=q;exact h2 ak s1 Z' H' D I' q
 |ret v=>exact q
 |brk=>exact q
 |cont=>exact q
theorem Inv.quiet{ak:List (Addr×Obj)}{Z:St}{H:Hp}{s:Shared}(I:Inv X ak Z H s):interactive X.env=false:=by simp[interactive,I.ok.kind]
noncomputable def Il(te:TE):TS:=λD Z H=>te Z H λ_ H1=>D.nx Z H1
theorem zjz(he:PE X e te)(hs:swapsWith e none pos.line X.env=pure false:=by rfl):PS X (.Expr e pos) (Il te):=by
 intro ak s Z H D I h;exact wpAny_Expr_any (aU (he ak s Z H _ I h) λv s1 hx=>fK hx λx H1 I1 r1 q1=>⟨Z,H1,I1,q1⟩) I.quiet hs
noncomputable def QZ(te:TE):TS:=λD Z H=>te Z H D.rt
theorem zla(he:PE X e te):PS X (.Return (some e) pos) (QZ te):=by
 intro ak s Z H D I h;exact wpAny_Return_some (aU (he ak s Z H _ I h) λv s1 hx=>fK hx λx H1 I1 r1 q1=>⟨x,Z,H1,I1,r1,q1⟩)
noncomputable def Q0(c:TT)(t u:TS):TS:=λD Z H=>c Z H λb H1=>if b=true then t D Z H1 else u D Z H1
theorem zmT{c:Expr}{a b:List Stmt}{tc:TT}(hc:PT X c tc)(ha:rF X a t)(hb:rF X b u):PS X (.If c a b pos) (Q0 tc t u):=by
 intro ak s Z H D I h;refine wpAny_If (aU (hc ak s Z H _ I h) λd s1 hx=>xu hx λH1 I1 q1=>?_);cases d with
 |true=>exact ha ak s1 Z H1 D I1 q1
 |false=>exact hb ak s1 Z H1 D I1 q1
end
noncomputable abbrev TG:=V->St->Hp->(St->Hp->Prop)->Prop
noncomputable abbrev Cu:=List V->St->Hp->(St->Hp->Prop)->Prop
def PG(X:Cx)(target:Expr)(t:TG):Prop:=
 ∀(ak:List (Addr×Obj)) (s:Shared) (Z:St) (H:Hp) (v:V) (u:Value) (Q:St->Hp->Prop),Inv X ak Z H s->RelV v u->t v Z H Q->
  wpAny (model X.prog X.w) X.A (assign target X.env u) (λ_ s'=>∃Z' H',Inv X ak Z' H' s'/\Q Z' H') X.xe s
def Nv(X:Cx)(ts:List Expr)(t:Cu):Prop:=
 ∀(ak:List (Addr×Obj)) (s:Shared) (Z:St) (H:Hp) (vs:List V) (us:List Value) (Q:St->Hp->Prop),Inv X ak Z H s->Vals vs us->t vs Z H Q->
  wpAny (model X.prog X.w) X.A (assignInOrder ((assignEach ts X.env).map (·.2)) us) (λ_ s'=>∃Z' H',Inv X ak Z' H' s'/\Q Z' H') X.xe s
noncomputable abbrev Cv:=V->V->V->Hp->(Hp->Prop)->Prop
def Im(X:Cx)(t:Cv):Prop:=
 ∀(ak:List (Addr×Obj)) (s:Shared) (Z:St) (H:Hp) (o i v:V) (ov iv u:Value) (Q:Hp->Prop),Inv X ak Z H s->RelV o ov->RelV i iv->RelV v u->t o i v H Q->
  wpAny (model X.prog X.w) X.A (setItem ov iv u) (λ_ s'=>∃H',Inv X ak Z H' s'/\Q H') X.xe s
section
variable {X:Cx}{pos:Pos}
noncomputable def dU(i:Nat):TG:=λv Z H Q=>Q (Z.set i (some v)) H
theorem Ny{i:Nat}{x:Str}(hN:X.N.Nodup)(hi:X.N[i]?=some x)(hx:Loc X.env.scope x)(hf:X.fn x=true\/X.env.scope.names.lookup x=some .local:=by first|exact .inl rfl|exact .inr rfl|assumption):PG X (.Name x pos) (dU i):=by
 intro ak s Z H v u Q I r h;exact wpAny_assign_Name (X4 I hN hi hx r (λs' I'=>⟨_,H,I',h⟩) hf)
noncomputable def ur:Cu:=λvs Z H Q=>vs=[]/\Q Z H
noncomputable def iC(t:TG)(u:Cu):Cu:=λvs Z H Q=>∃v r,vs=v::r/\t v Z H λZ' H'=>u r Z' H' Q
theorem zjV:Nv X [] ur:=by
 intro ak s Z H vs us Q I r h;obtain⟨e,h⟩:=h;subst e;cases r;exact assignInOrder_nil ⟨Z,H,I,h⟩
theorem X_{e:Expr}{es:List Expr}{t:TG}{u:Cu}(h1:PG X e t)(h2:Nv X es u)
  (hs:(assignEach (e::es) X.env).map (·.2)=assign e X.env::(assignEach es X.env).map (·.2):=by rfl):Nv X (e::es) (iC t u):=by
 intro ak s Z H vs us Q I r h;obtain⟨v,vr,e1,h⟩:=h;subst e1;cases r with
 |cons r rr=>
  rw[hs];refine assignInOrder_cons (aU (h1 ak s Z H _ _ _ I r h) λ_ s1 hz=>?_);obtain⟨Z1,H1,I1,q1⟩:=hz;exact h2 ak s1 Z1 H1 _ _ Q I1 rr q1
noncomputable def uw(K:W.Frag)(n:Nat)(t:Cu):TG:=λv Z H Q=>∃a xs,v=.ref a/\gC K H a xs/\xs.length=n/\t xs Z H Q
theorem zlr{es:List Expr}{k:Nat}{t:Cu}{n:Nat}(hc:X.aj=true)(h:Nv X es t)
  (hn:(assignEach es X.env).length=n:=by rfl) (xH:(assignEach es X.env).findIdx? (·.1)=none:=by rfl):PG X (.Tuple es k pos) (uw X.K n t):=by
 intro ak s Z H v u Q I r hw;obtain⟨a,xs,e1,hq,hl,hw⟩:=hw;subst e1;cases r;obtain⟨its,rv,ht,hz⟩:=I.tuple hq;refine assign_Tuple_tuple (I.ok.hd hc) ht (by simp[hn,<-hl,rv.length]) xH λh' hx=>?_;have I1:Inv X ak Z H {s with heap:=h'}:=I.kept (t':=s.toks) λb o e=>hx b o (cR (bC e)) e;exact h ak _ Z H xs _ Q I1 (by simpa using rv) hw
noncomputable def Q5(to ti:TE)(t:Cv):TG:=λv Z H Q=>to Z H λo H1=>ti Z H1 λi H2=>t o i v H2 λH3=>Q Z H3
theorem zk3{o i:Expr}{to ti:TE}{t:Cv}(ho:PE X o to)(hi:PE X i ti)(hs:Im X t)
  (ha:∀v,assign (.Subscript o i pos) X.env v=(do
   let ov <-holding [v] (eval o X.env)
   let iv <-holding [v,ov] (eval i X.env)
   standAt pos
   holding [v,ov,iv] (setItem ov iv v)
   release [v,ov,iv] []):=by intro _;rfl):PG X (.Subscript o i pos) (Q5 to ti t):=by
 intro ak s Z H v u Q I r h;rw[ha];refine au (k_ (aU (ho ak s Z H _ I h) λov s1 hx=>fK hx λx H1 I1 r1 q1=>?_));refine au (k_ (aU (hi ak s1 Z H1 _ I1 q1) λiv s2 hx=>fK hx λy H2 I2 r2 q2=>?_));refine au (zG (au (k_ (aU (hs ak s2 Z H2 x y v ov iv u _ I2 r1 r2 r q2) λ_ s3 hx=>xu hx λH3 I3 q3=>?_))));exact wpAny_release ⟨Z,H3,I3,q3⟩
noncomputable def Cw(te:TE)(g:TG):TS:=λD Z H=>te Z H λx H1=>g x Z H1 D.nx
theorem Yb{tg e:Expr}{te:TE}{g:TG}(he:PE X e te)(hg:PG X tg g)(hs:swapsWithSole [tg] e pos.line X.env=pure false:=by rfl)(hw:swappedStores [tg] e X.env=pure none:=by rfl)
  (h1:(assignEach [tg] X.env).map (·.2)=[assign tg X.env]:=by rfl):PS X (.Assign [tg] e pos) (Cw te g):=by
 intro ak s Z H D I h;refine wpAny_Assign_stores (aU (he ak s Z H _ I h) λv s1 hx=>fK hx λx H1 I1 r1 q1=>?_) hs hw;rw[h1];exact aU (hg ak s1 Z H1 x v _ I1 r1 q1) λ_ s2 q=>q
theorem zlk{i:Nat}{x:Str}{e:Expr}{te:TE}{pos':Pos}(hN:X.N.Nodup)(hi:X.N[i]?=some x)(hx:Loc X.env.scope x)(he:PE X e te)(hs:swapsWith e (some (.Name x pos')) pos.line X.env=pure false:=by rfl)(hf:X.fn x=true\/X.env.scope.names.lookup x=some .local:=by first|exact .inl rfl|exact .inr rfl|assumption) :
  PS X (.Assign [.Name x pos'] e pos) (Cw te (dU i)):=by
 intro ak s Z H D I h;refine wpAny_Assign_Name (aU (he ak s Z H _ I h) λv s1 hz=>?_) hs;obtain⟨y,H1,I1,r1,q1⟩:=hz;exact X4 I1 hN hi hx r1 (λs2 I2=>⟨_,H1,I2,q1⟩) hf
end
structure It where
 go:Nat->Hp->Prop
 ux:Nat->Hp->V->Hp->Prop
 stop:Nat->Hp->Prop
def fC(X:Cx)(ak:List (Addr×Obj))(H:Hp)(b:Addr):Prop:=
 H b=none/\b≠X.env.locals/\b∉X.fs/\(b∈X.ex\/X.s₀.heap.objs.size<=b)/\(∀x c,X.env.cells.lookup x=some c->c≠b)/\∀p∈X.pn++ak,p.1≠b
theorem Inv.uy{X:Cx}{ak:List (Addr×Obj)}{Z:St}{H H':Hp}{s:Shared}{b:Addr}(I:Inv X ak Z H s)(hb:s.heap.objs.size<=b)(hn:H' b=none):fC X ak H' b:=by
 refine⟨hn,fB (dh I.lt hb),I.QF hb,.inr (jH I.sz hb),λx c e z=>?_,λp hp z=>?_⟩
 ·obtain⟨v,q⟩:=I.cell x c e;exact absurd (dh q.lt (by rw[z];exact hb)) (mD _)
 ·exact absurd (dh (bC (I.pin p hp).1) (by rw[z];exact hb)) (mD _)
structure Turn(P:Program)(w:World)(K:W.Frag)(tg:Expr)(bI:It)(fp:List Addr)(it:Addr)(tn:Nat->Heap->Prop):Prop where
 mem:it∈fp
 obj:∀i h,tn i h->∀b∈fp,∃o,h.get? b=some o/\∀v,o.data≠.cell v
 keep:∀i h h',tn i h->(∀b∈fp,∀o,h.get? b=some o->h'.get? b=some o)->tn i h'
 item:∀(X:Cx),X.prog=P->X.w=w->X.K=K->X.aj=true->∀(i:Nat) (ak:List (Addr×Obj)) (s:Shared) (Z:St) (H:Hp) (E:Value->Shared->Prop),Inv X ak Z H s->(∀b∈fp,fC X ak H b)->tn i s.heap->bI.go i H->
  wpAny (model P w) X.A (pyNext (.ref it)) (λr s1=>∃u,r=some u /\
   wpAny (model P w) X.A (letOwnedTupleGo tg (.ref it) u) (λ_ s2=>∃x H',Inv X ak Z H' s2/\RelV x u/\bI.ux i H x H'/\tn (i+1) s2.heap/\∀b∈fp,H' b=none) E s1) E s
 done:∀(X:Cx),X.prog=P->X.w=w->X.K=K->X.aj=true->∀(i:Nat) (ak:List (Addr×Obj)) (s:Shared) (Z:St) (H:Hp) (E:Value->Shared->Prop),Inv X ak Z H s->(∀b∈fp,fC X ak H b)->tn i s.heap->bI.stop i H->
  wpAny (model P w) X.A (pyNext (.ref it)) (λr s1=>r=none/\Inv X ak Z H s1) E s
 self:∀(A:Around) (i:Nat) (s:Shared) (Q:Value->Shared->Prop) (E:Value->Shared->Prop),tn i s.heap->Q (.ref it) s->wpAny (model P w) A (pyIter (.ref it)) Q E s
noncomputable abbrev TI:=St->Hp->(It->Hp->Prop)->Prop
def PIE(X:Cx)(ak:List (Addr×Obj))(Z:St)(tg:Expr)(R:It->Hp->Prop)(itv:Value)(s2:Shared):Prop:=
 ∃(it:Addr) (fp:List Addr) (tn:Nat->Heap->Prop) (bI:It) (H':Hp),itv=.ref it/\Inv X ak Z H' s2/\Turn X.prog X.w X.K tg bI fp it tn/\tn 0 s2.heap/\(∀b∈fp,fC X ak H' b)/\R bI H'
def PI(X:Cx)(tg iter:Expr)(wi:TI):Prop:=
 ∀(ak:List (Addr×Obj)) (s:Shared) (Z:St) (H:Hp) (R:It->Hp->Prop),Inv X ak Z H s->wi Z H R->
  wpAny (model X.prog X.w) X.A (eval iter X.env) (λv s1=>wpAny (model X.prog X.w) X.A (pyIter v) (PIE X ak Z tg R) X.xe s1) X.xe s
theorem Q6{M:Model}{A:Around}{E:Value->Shared->Prop}{s:Shared}{tg:Expr}{it:Addr}{u:Value}{o:Obj}{n:String}{vs:Array Value}{Q:Unit->Shared->Prop}(ho:s.heap.get? it=some o)(hc:o.cls=.type n)(hd:o.data=.fields vs)
  (hn:["enumerate","zip","dict_itemiterator","dict_reverseitemiterator","odict_iterator","itertools.zip_longest","itertools.pairwise"].contains n=false) (hQ:Q () s):wpAny M A (letOwnedTupleGo tg (.ref it) u) Q E s:=by
 unfold letOwnedTupleGo;cases tg<;>first
  |exact aN hQ
  | (cases u<;>first
    |exact aN hQ
    | (refine au (wpAny_load ho ?_)
       rw[hc,hd];show wpAny M A (if (["enumerate","zip","dict_itemiterator","dict_reverseitemiterator","odict_iterator","itertools.zip_longest","itertools.pairwise"].contains n&&vs[0]?==some (rawInt _))=true then _ else _) Q E s;rw[if_neg (by intro h;rw[hn,vR] at h;cases h)];exact aN hQ))
noncomputable def Nz(K:W.Frag)(a:Addr):It:=
 ⟨λi H=>∃xs x,cY K H a xs/\xs[i]?=some x,λi H x H'=>H'=H/\∀xs,cY K H a xs->xs[i]?=some x,λi H=>∃xs,cY K H a xs/\xs.length<=i⟩
noncomputable def Q7(K:W.Frag)(a:Addr):It:=
 ⟨λi H=>∃xs x,gC K H a xs/\xs[i]?=some x,λi H x H'=>H'=H/\∀xs,gC K H a xs->xs[i]?=some x,λi H=>∃xs,gC K H a xs/\xs.length<=i⟩
noncomputable def Io(lo:Int)(n:Nat):It:=⟨λi _=>i<n,λi H x H'=>H'=H/\x=.int (lo+i),λi _=>n<=i⟩
theorem zg2{P:Program}{w:World}{K:W.Frag}{tg:Expr}(a it:Addr):Turn P w K tg (Nz K a) [it] it (λi h=>h.IsListIter it a i) where
 mem:=by simp
 obj:=λi h st b hb=>by
  have e:b=it:=by simpa using hb
  subst e;obtain⟨o,e,c,d⟩:=st;exact⟨o,e,λv z=>by rw[d] at z;cases z⟩
 keep:=λi h h' st k=>st.at λo e=>k it J0 o e
 item:=by
  intro X hP hw hK hc i ak s Z H E I hf st hg;subst hP hw hK;obtain⟨xs,x,hq,hx⟩:=hg;obtain⟨its,rv,p,hz⟩:=I.list hq;obtain⟨u,hu,ru⟩:=rv.get hx;obtain⟨f0,f1,f2,f3,f4,f5⟩:=hf it J0;refine wpAny_pyNext_list_item st p.isList (x:=u) (by simpa using hu) λh' st' sb=>?_;have I1:Inv X ak Z H {s with heap:=h'}:=I.turned (t':=s.toks) (λb o hb e=>(sb.2 b hb).trans e) f0 f1 f3 f4 f5;obtain⟨o,e,c,d⟩:=id st';exact⟨u,rfl,Q6 (s:={s with heap:=h'}) e c d Dc ⟨x,H,I1,ru,⟨rfl,λys hy=>by rw[I.nP hy hq];exact hx⟩,st',λb hb=>(hf b hb).1⟩⟩
 done:=by
  intro X hP hw hK hc i ak s Z H E I hf st hg;subst hP hw hK;obtain⟨xs,hq,hx⟩:=hg;obtain⟨its,rv,p,hz⟩:=I.list hq;obtain⟨f0,f1,f2,f3,f4,f5⟩:=hf it J0;have hl:=rv.length;exact wpAny_pyNext_list_end (I.ok.hd hc) st p.isList (by simp;lia) λh' eb=>⟨rfl,I.turned (t':=s.toks) (λb o hb e=>eb b o hb e) f0 f1 f3 f4 f5⟩
 self:=λ_ _ _ _ _ st h=>wpAny_pyIter_listiter st h
theorem zfe{P:Program}{w:World}{K:W.Frag}{tg:Expr}(a it:Addr):Turn P w K tg (Q7 K a) [it] it (λi h=>h.IsTupleIter it a i) where
 mem:=by simp
 obj:=λi h st b hb=>by
  have e:b=it:=by simpa using hb
  subst e;obtain⟨o,e,c,d⟩:=st;exact⟨o,e,λv z=>by rw[d] at z;cases z⟩
 keep:=λi h h' st k=>st.at λo e=>k it J0 o e
 item:=by
  intro X hP hw hK hc i ak s Z H E I hf st hg;subst hP hw hK;obtain⟨xs,x,hq,hx⟩:=hg;obtain⟨its,rv,p,hz⟩:=I.tuple hq;obtain⟨u,hu,ru⟩:=rv.get hx;obtain⟨f0,f1,f2,f3,f4,f5⟩:=hf it J0;refine wpAny_pyNext_tuple_item st (show s.heap.IsTuple a its.toArray from p) (x:=u) (by simpa using hu) λh' st' sb=>?_;have I1:Inv X ak Z H {s with heap:=h'}:=I.turned (t':=s.toks) (λb o hb e=>(sb.2 b hb).trans e) f0 f1 f3 f4 f5;obtain⟨o,e,c,d⟩:=id st';exact⟨u,rfl,Q6 (s:={s with heap:=h'}) e c d Dc ⟨x,H,I1,ru,⟨rfl,λys hy=>by rw[I.lQ hy hq];exact hx⟩,st',λb hb=>(hf b hb).1⟩⟩
 done:=by
  intro X hP hw hK hc i ak s Z H E I hf st hg;subst hP hw hK;obtain⟨xs,hq,hx⟩:=hg;obtain⟨its,rv,p,hz⟩:=I.tuple hq;obtain⟨f0,f1,f2,f3,f4,f5⟩:=hf it J0;have hl:=rv.length;exact wpAny_pyNext_tuple_end (I.ok.hd hc) st (show s.heap.IsTuple a its.toArray from p) (by simp;lia) λh' eb=>⟨rfl,I.turned (t':=s.toks) (λb o hb e=>eb b o hb e) f0 f1 f3 f4 f5⟩
 self:=λ_ _ _ _ _ st h=>wpAny_pyIter_tupleiter st h
theorem zeZ{P:Program}{w:World}{K:W.Frag}{tg:Expr}(it:Addr)(lo:Int)(n:Nat):Turn P w K tg (Io lo n) [it] it (λi h=>IsRangeIter h it (lo+(i:Nat)*1) ((n:Int)-(i:Nat)) 1) where
 mem:=by simp
 obj:=λi h st b hb=>by
  have e:b=it:=by simpa using hb
  subst e;exact⟨_,st,λv z=>by
   have z':Data.fields _=Data.cell v:=z;cases z'⟩
 keep:=λi h h' st k=>k it J0 _ st
 item:=by
  intro X hP hw hK hc i ak s Z H E I hf st hg;subst hP hw hK;obtain⟨f0,f1,f2,f3,f4,f5⟩:=hf it J0;have W:=Walks.range (prog:=X.prog) (w:=X.w) (I.ok.hd hc) it lo 1 n;refine W.item i s _ _ hg st λv h' tk hv st' kk=>?_;obtain⟨t,rfl⟩:=hv;have I1:Inv X ak Z H {s with heap:=h',toks:=tk}:=I.turned (λb o hb e=>kk b o (by simpa using hb) e) f0 f1 f3 f4 f5;refine⟨_,rfl,Q6 (s:={s with heap:=h',toks:=tk}) (n:="range_iterator") st' rfl rfl Dc ⟨.int (lo+i),H,I1,⟨t,?_⟩,⟨rfl,rfl⟩,st',λb hb=>(hf b hb).1⟩⟩;rw[Int.mul_one]
 done:=by
  intro X hP hw hK hc i ak s Z H E I hf st hg;subst hP hw hK;obtain⟨f0,f1,f2,f3,f4,f5⟩:=hf it J0;exact wpAny_pyNext_range_end (I.ok.hd hc) st (by have:n<=i:=hg;lia) λh' eb=>⟨rfl,I.turned (t':=s.toks) (λb o hb e=>eb b o hb e) f0 f1 f3 f4 f5⟩
 self:=λ_ _ _ _ _ st h=>wpAny_pyIter_rangeiter st h
section
variable {X:Cx}{tg:Expr}
theorem Yc{ak:List (Addr×Obj)}{Z:St}{H:Hp}{s:Shared}{R:It->Hp->Prop}{E:Value->Shared->Prop}{lo hi:Int}{t u v:Tok}{tk:Nat}(I:Inv X ak Z H s)(h1 : -(2^62)<=lo)(h2:lo<2^62)(h3 : -(2^62)<=hi)(h4:hi<2^62)
  (q:R (Io lo (hi-lo).toNat) H):wpAny (model X.prog X.w) X.A (pyIter (.ref s.heap.objs.size)) (PIE X ak Z tg R) E {s with heap:=s.heap.push {cls:=.type "range",data:=.fields #[.int lo t,.int hi u,.int 1 v]},toks:=tk}:=by
 refine wpAny_pyIter_range (IsRange.new ..) (small_one h1 h2 h3 h4) ?_;have I1:Inv X ak Z H {s with heap:=s.heap.push {cls:=.type "range",data:=.fields #[.int lo t,.int hi u,.int 1 v]},toks:=tk}:=I.kept λb o e=>cF _ e;refine⟨(s.heap.push {cls:=.type "range",data:=.fields #[.int lo t,.int hi u,.int 1 v]}).objs.size,[(s.heap.push {cls:=.type "range",data:=.fields #[.int lo t,.int hi u,.int 1 v]}).objs.size],_,_,H,rfl,
  I1.kept (t':=tk) λb o e=>cF _ e,zeZ _ lo (hi-lo).toNat,?_,λb hb=>?_,q⟩
 ·have e1:lo+((0:Nat):Int)*1=lo:=by simp
  have e2:(((hi-lo).toNat:Nat):Int)-((0:Nat):Int)=Builtin.Range.rangeSize lo hi 1:=by rw[rangeSize_one];split<;>lia
  show IsRangeIter _ _ (lo+((0:Nat):Int)*1) ((((hi-lo).toNat:Nat):Int)-((0:Nat):Int)) 1;rw[e1,e2];exact fj _ rfl
 ·have e:b=(s.heap.push {cls:=.type "range",data:=.fields #[.int lo t,.int hi u,.int 1 v]}).objs.size:=by simpa using hb
  subst e;exact I1.uy (bL _) (I1.hok.fresh (bL _))
noncomputable def Ip(ta:TA):TI:=λZ H R=>ta Z H λvs H1=>∃j:Int,vs=[.int j]/\-(2^62)<=j/\j<2^62/\R (Io 0 j.toNat) H1
noncomputable def Ir(ta:TA):TI:=λZ H R=>ta Z H λvs H1=>∃i j:Int,vs=[.int i,.int j]/\(-(2^62)<=i/\i<2^62/\-(2^62)<=j/\j<2^62)/\R (Io i (j-i).toNat) H1
theorem zgf{a:Expr}{ta:TA}{p pos:Pos}(hg:Gl X "range")(hm:X.mg "range"=none)(ha:PA X [a] ta)(hs:starEach [a] X.env=[(false,eval a X.env)]:=by rfl):PI X tg (.Call (.Name "range" p) [a] [] pos) (Ip ta):=by
 intro ak s Z H R I h;refine Call_ (uo I hg hm boot_range (zj (aU (ha pos ak s Z H _ I h) λus s1 hx=>fK hx λvs H1 I1 r1 q1=>?_) hs rfl));obtain⟨j,e,q1,q2,q⟩:=q1;subst e;cases r1 with
 |cons r rr=>
  cases rr;obtain⟨t,rfl⟩:=r;exact call_range_1 (Yc I1 gV gV q1 q2 (by simpa using q))
theorem zgV{a b:Expr}{ta:TA}{p pos:Pos}(hg:Gl X "range")(hm:X.mg "range"=none)(ha:PA X [a,b] ta)(hs:starEach [a,b] X.env=[(false,eval a X.env),(false,eval b X.env)]:=by rfl)(xJ:starEach [b] X.env=[(false,eval b X.env)]:=by rfl) :
  PI X tg (.Call (.Name "range" p) [a,b] [] pos) (Ir ta):=by
 intro ak s Z H R I h;refine Call_ (uo I hg hm boot_range (zj (aU (ha pos ak s Z H _ I h) λus s1 hx=>fK hx λvs H1 I1 r1 q1=>?_) (by rw[hs,xJ]) (by rw[xJ];rfl)));obtain⟨i,j,e,⟨q1,q2,q3,q4⟩,q⟩:=q1;subst e;cases r1 with
 |cons r rr=>
  cases rr with
  |cons r' rr=>
   cases rr;obtain⟨t,rfl⟩:=r;obtain⟨t',rfl⟩:=r';exact call_range_2 (Yc I1 q1 q2 q3 q4 q)
noncomputable def Q8(wi:TI)(g:TG)(tb:TS):TS:=λD Z H=>wi Z H λbI H1=>∃W:Nat->Nat->St->Hp->Prop,(∃m,W 0 m Z H1)/\∀i m Z H,W i m Z H->
 (bI.stop i H/\D.nx Z H)\/(bI.go i H/\∃N:St->Hp->Prop,(∀Z' H',N Z' H'->∃m',m'<m/\W (i+1) m' Z' H')/\∀x H',bI.ux i H x H'->g x Z H' λZ2 H2=>tb {D with nx:=N,ct:=N,bk:=D.nx} Z2 H2)
noncomputable def iZ(fp:List Addr)(h:Heap):List (Addr×Obj):=fp.filterMap λb=>(h.get? b).map λo=>(b,o)
theorem zT{fp:List Addr}{h:Heap}{b:Addr}{o:Obj}(hb:b∈fp)(e:h.get? b=some o):(b,o)∈iZ fp h:=vP.mpr ⟨b,hb,by rw[e];rfl⟩
theorem zf9{fp:List Addr}{h:Heap}{p:Addr×Obj}(hp:p∈iZ fp h):p.1∈fp/\h.get? p.1=some p.2:=by
 obtain⟨b,hb,e⟩:=vP.mp hp;cases q:h.get? b with
 |none=>rw[q] at e;cases e
 |some o=>
  rw[q] at e;have e':(b,o)=p:=dJ e;subst e';exact⟨hb,q⟩
theorem Inv.pinned{ak:List (Addr×Obj)}{Z:St}{H:Hp}{s:Shared}{fp:List Addr}(I:Inv X ak Z H s)(hf:∀b∈fp,fC X ak H b)(ho:∀b∈fp,∃o,s.heap.get? b=some o/\∀v,o.data≠.cell v):Inv X (ak++iZ fp s.heap) Z H s:=
 I.mQ λp hp=>(eU.mp hp).elim (λz=>I.pin p (jG _ z)) λz=>by
  obtain⟨hb,e⟩:=zf9 z;obtain⟨f0,f1,f2,_⟩:=hf p.1 hb;obtain⟨o,e',d⟩:=ho p.1 hb;rw[e] at e';cases e';exact⟨e,f0,f1,f2,d⟩
theorem Inv.dW{ak pl:List (Addr×Obj)}{Z:St}{H:Hp}{s:Shared}(I:Inv X (ak++pl) Z H s):Inv X ak Z H s:=I.mQ λp hp=>I.pin p (jG _ (tY _ hp))
theorem zlg{iter:Expr}{body:List Stmt}{wi:TI}{g:TG}{tb:TS}{pos:Pos}(hp:PassesOwn (model X.prog X.w) X.A X.env X.xe)(hc:X.aj=true)(hi:PI X tg iter wi)(hg:PG X tg g)(hb:rF X body tb)
  (hs:∀x,foldedSetIterable iter X.env x=pure x:=by intro _;rfl):PS X (.For tg iter body [] pos) (Q8 wi g tb):=by
 intro ak s Z H D I h;refine wpAny_For (aU (hi ak s Z H _ I h) λv s1 h1=>aU h1 λitv s2 h2=>?_) hs;obtain⟨it,fp,tn,bI,H2,e,I2,T,st2,f2,W,⟨m0,w0⟩,turn⟩:=h2;subst e;have stat:∀{H':Hp},(∀b∈fp,H' b=none)->∀b∈fp,fC X ak H' b:=λhn b hb=>⟨hn b hb,(f2 b hb).2⟩;refine codeAny_forLoop_any (λn s'=>∃i Z' H',Inv X ak Z' H' s'/\tn i s'.heap/\(∀b∈fp,H' b=none)/\W i n Z' H') ?_ m0 ⟨0,Z,H2,I2,st2,λb hb=>(f2 b hb).1,w0⟩;rintro n s3 ⟨i,Z3,H3,I3,st3,Yd,w3⟩;rcases turn i n Z3 H3 w3 with ⟨stop,qn⟩|⟨go,N,hN,step⟩
 ·refine Hx hp (aU (T.done X rfl rfl rfl hc i ak s3 Z3 H3 X.xe I3 (stat Yd) st3 stop) λr s4 ⟨hr,I4⟩=>?_);subst hr;exact wpAny_execs_nil ⟨Z3,H3,I4,qn⟩
 ·refine Hx hp (aU (T.item X rfl rfl rfl hc i ak s3 Z3 H3 X.xe I3 (stat Yd) st3 go) λr s4 hx=>xu hx λu hr h4=>?_);subst hr;refine Hx hp (aU h4 λ_ s5 hz=>?_);obtain⟨x,H5,I5,r5,y5,tD,vZ⟩:=hz;have I5':=I5.pinned (stat vZ) (T.obj _ _ tD);refine Hx hp (aU (hg _ s5 Z3 H5 x u _ I5' r5 (step x H5 y5)) λ_ s6 hz=>?_);obtain⟨Z6,H6,I6,q6⟩:=hz;refine Hx hp (aU (hb _ s6 Z6 H6 _ I6 q6) λf s7 q7=>?_);have again:∀{Z7:St} {H7:Hp},Inv X (ak++iZ fp s5.heap) Z7 H7 s7->N Z7 H7->∃m,m<n/\∃i Z' H',Inv X ak Z' H' s7/\tn i s7.heap/\(∀b∈fp,H' b=none)/\W i m Z' H':=λ{Z7 H7} I7 n7=>by
   obtain⟨m',hm,w7⟩:=hN Z7 H7 n7;refine⟨m',hm,i+1,Z7,H7,I7.dW,T.keep _ _ _ tD λb hb o e=>(I7.pin (b,o) (jG _ (jG _ (zT hb e)))).1,λb hb=>?_,w7⟩;obtain⟨o,e,d⟩:=T.obj _ _ tD b hb;exact(I7.pin (b,o) (jG _ (jG _ (zT hb e)))).2.1
  cases f with
  |next=>obtain⟨Z7,H7,I7,n7⟩:=q7;exact again I7 n7
  |cont=>obtain⟨Z7,H7,I7,n7⟩:=q7;exact again I7 n7
  |brk=>obtain⟨Z7,H7,I7,q7⟩:=q7;exact⟨Z7,H7,I7.dW,q7⟩
  |ret v=>obtain⟨x7,Z7,H7,I7,r7,q7⟩:=q7;exact⟨x7,Z7,H7,I7.dW,r7,q7⟩
end
noncomputable abbrev R2:=V->V->Hp->VK->Prop
def dF(X:Cx)(f:Value->Value->Sem Value)(r:R2):Prop:=
 ∀(ak:List (Addr×Obj)) (s:Shared) (Z:St) (H:Hp) (x y:V) (v u:Value) (Q:VK),Inv X ak Z H s->RelV x v->RelV y u->r x y H Q->
  wpAny (model X.prog X.w) X.A (f v u) (EP X ak Z Q) X.xe s
def NK(X:Cx)(f:Value->Sem Value)(r:V->Hp->VK->Prop):Prop:=
 ∀(ak:List (Addr×Obj)) (s:Shared) (Z:St) (H:Hp) (x:V) (v:Value) (Q:VK),Inv X ak Z H s->RelV x v->r x H Q->
  wpAny (model X.prog X.w) X.A (f v) (EP X ak Z Q) X.xe s
def cT(X:Cx)(f:Value)(r:List V->Hp->VK->Prop):Prop:=
 ∀(ak:List (Addr×Obj)) (s:Shared) (Z:St) (H:Hp) (xs:List V) (us:List Value) (Q:VK),Inv X ak Z H s->Vals xs us->r xs H Q->
  wpAny (model X.prog X.w) X.A (call f us) (EP X ak Z Q) X.xe s
noncomputable def NP(r:R2)(ta tb:TE):TE:=λZ H Q=>ta Z H λx H1=>tb Z H1 λy H2=>r x y H2 Q
noncomputable def tUn(r:V->Hp->VK->Prop)(ta:TE):TE:=λZ H Q=>ta Z H λx H1=>r x H1 Q
noncomputable def rI(C:Int->Int->Prop)(g:Int->Int->V):R2:=λx y H Q=>∃i j,x=.int i/\y=.int j/\C i j/\Q (g i j) H
noncomputable def pA(g:Int->Int->V):R2:=λx y H Q=>∃i j,x=.int i/\y=.int j/\Q (g i j) H
noncomputable def rU(g:Int->V):V->Hp->VK->Prop:=λx H Q=>∃i,x=.int i/\Q (g i) H
section
variable {X:Cx}{a b c:Expr}{ta tb tc:TE}{pos:Pos}
theorem Cy(ha:PE X a ta)(hb:PE X b tb){ak:List (Addr×Obj)}{s:Shared}{Z:St}{H:Hp}{R:V->V->Hp->Prop}(I:Inv X ak Z H s)
  (h:ta Z H λx H1=>tb Z H1 λy H2=>R x y H2) {Q:Value->Shared->Prop} {f:Value->Value->Sem Value}
  (hf:∀v u s2 x y H2,Inv X ak Z H2 s2->RelV x v->RelV y u->R x y H2->wpAny (model X.prog X.w) X.A (f v u) Q X.xe s2) :
  wpAny (model X.prog X.w) X.A (eval a X.env) (λv s₁=>wpAny (model X.prog X.w) X.A (eval b X.env) (λu s₂=>wpAny (model X.prog X.w) X.A (f v u) Q X.xe s₂) X.xe s₁) X.xe s:=by
 refine aU (ha ak s Z H _ I h) λv s1 hx=>fK hx λx H1 I1 r1 q1=>?_;refine aU (hb ak s1 Z H1 _ I1 q1) λu s2 hx=>fK hx λy H2 I2 r2 q2=>?_;exact hf v u s2 x y H2 I2 r1 r2 q2
theorem zns{op:Operator}{r:R2}(ho:dF X (binaryOp op) r)(ha:PE X a ta)(hb:PE X b tb):PE X (.BinOp a op b pos) (NP r ta tb):=by
 intro ak s Z H Q I h;exact wpAny_BinOp (Cy ha hb I h λv u s2 x y H2 I2 rx ry q=>ho ak s2 Z H2 x y v u Q I2 rx ry q)
theorem Ye{op:UnaryOp}{r:V->Hp->VK->Prop}(ho:NK X (unaryOp op) r)(ha:PE X a ta):PE X (.UnaryOp op a pos) (tUn r ta):=by
 intro ak s Z H Q I h;exact UnaryOp_ (aU (ha ak s Z H _ I h) λv s1 hx=>fK hx λx H1 I1 r1 q1=>ho ak s1 Z H1 x v Q I1 r1 q1)
theorem Cz{f:Value->Value->Sem Value}{C:Int->Int->Prop}{g:Int->Int->Int}
  (rule:∀(i j:Int) (t u:Tok) (s:Shared) (Q:Value->Shared->Prop) (E:Value->Shared->Prop),C i j->Q (.int (g i j) s.toks) {s with toks:=s.toks+1}->wpAny (model X.prog X.w) X.A (f (.int i t) (.int j u)) Q E s) :
  dF X f (rI C λi j=>.int (g i j)):=by
 intro ak s Z H x y v u Q I rx ry h;obtain⟨i,j,rfl,rfl,hc,q⟩:=h;obtain⟨t,rfl⟩:=rx;obtain⟨t',rfl⟩:=ry;exact rule i j t t' s _ _ hc ⟨.int (g i j),H,I.tok _,⟨_,rfl⟩,q⟩
theorem Iu{f:Value->Value->Sem Value}{g:Int->Int->Int}
  (rule:∀(i j:Int) (t u:Tok) (s:Shared) (Q:Value->Shared->Prop) (E:Value->Shared->Prop),Q (.int (g i j) s.toks) {s with toks:=s.toks+1}->wpAny (model X.prog X.w) X.A (f (.int i t) (.int j u)) Q E s) :
  dF X f (pA λi j=>.int (g i j)):=by
 intro ak s Z H x y v u Q I rx ry h;obtain⟨i,j,rfl,rfl,q⟩:=h;obtain⟨t,rfl⟩:=rx;obtain⟨t',rfl⟩:=ry;exact rule i j t t' s _ _ ⟨.int (g i j),H,I.tok _,⟨_,rfl⟩,q⟩
theorem xK{f:Value->Value->Sem Value}{g:Int->Int->Bool}
  (rule:∀(i j:Int) (t u:Tok) (s:Shared) (Q:Value->Shared->Prop) (E:Value->Shared->Prop),Q (.bool (g i j)) s->wpAny (model X.prog X.w) X.A (f (.int i t) (.int j u)) Q E s) :
  dF X f (pA λi j=>.bl (g i j)):=by
 intro ak s Z H x y v u Q I rx ry h;obtain⟨i,j,rfl,rfl,q⟩:=h;obtain⟨t,rfl⟩:=rx;obtain⟨t',rfl⟩:=ry;exact rule i j t t' s _ _ ⟨.bl (g i j),H,I,rfl,q⟩
def xM(i j:Int):Prop:=0<j/\j<1073741824
def CG(i j:Int):Prop:=0<=j/\j<=1000000/\i.natAbs<2^64
def xO(i j:Int):Prop:=(-(2^64)<i/\i<2^64)\/(-(2^64)<j/\j<2^64)
theorem xO.ok{i j:Int}(h:xO i j):IntMulOk i j:=by
 rcases h with ⟨h1,h2⟩|⟨h1,h2⟩
 ·exact .of_left (intBits_le_64 h1 h2)
 ·exact .of_right (intBits_le_64 h1 h2)
theorem zfm(k:Nat):(0:Int)<=2^k:=by
 rw[two_pow_cast];exact Int.natCast_nonneg _
theorem CJ:dF X (binaryOp .Add) (pA λi j=>.int (i+j)):=Iu λ_ _ _ _ _ _ _ q=>add_int q
theorem zmt:dF X (binaryOp .Sub) (pA λi j=>.int (i-j)):=Iu λ_ _ _ _ _ _ _ q=>sub_int q
theorem zk7:dF X (binaryOp .Mult) (rI xO λi j=>.int (i*j)):=Cz λ_ _ _ _ _ _ _ hc q=>mul_int q hc.ok
theorem zjj:dF X (binaryOp .FloorDiv) (rI xM λi j=>.int (i/j)):=Cz λi j _ _ _ _ _ hc q=>by
 have h1:(0:Int)<j:=hc.1;have h2:j<1073741824:=hc.2;exact floordiv_int gV (by rw[Qe i gV];exact q) (.inl (PyProof.noPylong_small gV))
theorem zmb:dF X (binaryOp .Mod) (rI (λ_ j=>0<j) λi j=>.int (i%j)):=Cz λi j _ _ _ _ _ hc q=>by
 have h1:(0:Int)<j:=hc;exact mod_int' gV (by rw[Int.fmod_eq_emod_of_nonneg i gV];exact q)
theorem zkH:dF X (binaryOp .Pow) (rI CG λi j=>.int (i^j.toNat)):=Cz λ_ _ _ _ _ _ _ hc q=>pow_int_small hc.1 hc.2.1 hc.2.2 q
theorem zlu:dF X (binaryOp .LShift) (rI CG λi j=>.int (i*2^j.toNat)):=Cz λ_ _ _ _ _ _ _ hc q=>lshift_int_small hc.1 hc.2.1 hc.2.2 q
theorem zl6:dF X (binaryOp .RShift) (rI (λ_ j=>0<=j) λi j=>.int (i/2^j.toNat)):=Cz λi j _ _ _ _ _ hc q=>
 rshift_int hc (by rw[Qe i (zfm _)];exact q)
theorem unI{f:Value->Sem Value}{g:Int->Int}
  (rule:∀(i:Int) (t:Tok) (s:Shared) (Q:Value->Shared->Prop) (E:Value->Shared->Prop),Q (.int (g i) s.toks) {s with toks:=s.toks+1}->wpAny (model X.prog X.w) X.A (f (.int i t)) Q E s) :
  NK X f (rU λi=>.int (g i)):=by
 intro ak s Z H x v Q I rx h;obtain⟨i,rfl,q⟩:=h;obtain⟨t,rfl⟩:=rx;exact rule i t s _ _ ⟨.int (g i),H,I.tok _,⟨_,rfl⟩,q⟩
theorem Yg:NK X (unaryOp .USub) (rU λi=>.int (-i)):=unI λ_ _ _ _ _ q=>neg_int q
end
section
variable {X:Cx}{a b c:Expr}{ta tb tc:TE}{pos:Pos}
theorem Iv:dF X (compareOp .Lt) (pA λi j=>.bl (decide (i<j))):=xK λ_ _ _ _ _ _ _ q=>lt_int q
theorem znV:dF X (compareOp .LtE) (pA λi j=>.bl (decide (i<=j))):=xK λ_ _ _ _ _ _ _ q=>le_int q
theorem zmW:dF X (compareOp .Gt) (pA λi j=>.bl (decide (j<i))):=xK λ_ _ _ _ _ _ _ q=>gt_int q
theorem znr:dF X (compareOp .GtE) (pA λi j=>.bl (decide (j<=i))):=xK λ_ _ _ _ _ _ _ q=>ge_int q
theorem dF.or{f:Value->Value->Sem Value}{r r':R2}(h:dF X f r)(h':dF X f r'):dF X f (λx y H Q=>r x y H Q\/r' x y H Q):=by
 intro ak s Z H x y v u Q I rx ry q;rcases q with q|q
 ·exact h ak s Z H x y v u Q I rx ry q
 ·exact h' ak s Z H x y v u Q I rx ry q
theorem zj1{op:CmpOp}{r:R2}(ho:dF X (compareOp op) r)(ha:PE X a ta)(hb:PE X b tb)(hm:behindInMarks op b=false):PE X (.Compare a [op] [b] pos) (NP r ta tb):=by
 intro ak s Z H Q I h;exact wpAny_Compare1 (Cy ha hb I h λv u s2 x y H2 I2 rx ry q=>ho ak s2 Z H2 x y v u Q I2 rx ry q) hm
noncomputable def zU(t:TE):TT:=λZ H Q=>t Z H λx H'=>∃k,x=.bl k/\Q k H'
theorem zjO{op:CmpOp}{r:R2}(ho:dF X (compareOp op) r)(ha:PE X a ta)(hb:PE X b tb)(hm:behindInMarks op b=false):PT X (.Compare a [op] [b] pos) (zU (NP r ta tb)):=by
 intro ak s Z H Q I h;refine wpAny_isTrue_Compare1 (aU (ha ak s Z H _ I h) λv s1 hx=>fK hx λx H1 I1 r1 q1=>aU (hb ak s1 Z H1 _ I1 q1) λu s2 hx=>fK hx λy H2 I2 r2 q2=>
  aU (ho ak s2 Z H2 x y v u _ I2 r1 r2 q2) λc s3 hx=>H_ hx λz H3 I3 r3 k e q3=>?_) hm
 subst e;cases r3;exact wQ ⟨H3,I3,q3⟩
noncomputable def uz(r r':R2)(ta tb tc:TE):TE:=λZ H Q=>ta Z H λx H1=>tb Z H1 λy H2=>r x y H2 λz H3=>∃k,z=.bl k /\
 (if k=true then tc Z H3 λw' H4=>r' y w' H4 Q else Q (.bl false) H3)
theorem zh7{op op':CmpOp}{r r':R2}(ho:dF X (compareOp op) r)(lN:dF X (compareOp op') r')(ha:PE X a ta)(hb:PE X b tb)(hc:PE X c tc)
  (hm:lastMarks [op,op'] [b,c]=false:=by with_unfolding_all rfl):PE X (.Compare a [op,op'] [b,c] pos) (uz r r' ta tb tc):=by
 intro ak s Z H Q I h;refine Compare_chain (aU (ha ak s Z H _ I h) λv s1 hx=>fK hx λx H1 I1 r1 q1=>chain_link (aU (hb ak s1 Z H1 _ I1 q1) λu s2 hx=>fK hx λy H2 I2 r2 q2=>
  aU (ho ak s2 Z H2 x y v u _ I2 r1 r2 q2) λd s3 hx=>H_ hx λz H3 I3 r3 k e q3=>?_)) hm
 subst e;cases r3;refine wQ ?_;cases k with
 |false=>exact ite_ff ⟨.bl false,H3,I3,rfl,q3⟩
 |true=>exact ite_tt (chain_last (aU (hc ak s3 Z H3 _ I3 q3) λw' s4 hx=>fK hx λz' H4 I4 r4 q4=>lN ak s4 Z H4 y z' u w' Q I4 r2 r4 q4))
theorem zhG{op op':CmpOp}{r r':R2}(ho:dF X (compareOp op) r)(lN:dF X (compareOp op') r')(ha:PE X a ta)(hb:PE X b tb)(hc:PE X c tc)
  (hm:lastMarks [op,op'] [b,c]=false:=by with_unfolding_all rfl):PT X (.Compare a [op,op'] [b,c] pos) (zU (uz r r' ta tb tc)):=by
 intro ak s Z H Q I h;refine isTrue_chain (aU (ha ak s Z H _ I h) λv s1 hx=>fK hx λx H1 I1 r1 q1=>test_link (aU (hb ak s1 Z H1 _ I1 q1) λu s2 hx=>fK hx λy H2 I2 r2 q2=>
  aU (ho ak s2 Z H2 x y v u _ I2 r1 r2 q2) λd s3 hx=>H_ hx λz H3 I3 r3 k e q3=>?_)) hm
 subst e;cases r3;refine wQ ?_;cases k with
 |false=>
  obtain⟨k',e',q'⟩:=q3;cases e';exact ite_ff ⟨H3,I3,q'⟩
 |true=>
  refine ite_tt (test_last (aU (hc ak s3 Z H3 _ I3 q3) λw' s4 hx=>fK hx λz' H4 I4 r4 q4=>aU (lN ak s4 Z H4 y z' u w' _ I4 r2 r4 q4) λd' s5 hx=>H_ hx λz2 H5 I5 r5 k2 e2 q5=>?_));subst e2;cases r5;exact wQ ⟨H5,I5,q5⟩
theorem jQ:(sizeLine:Nat)<2^63:=by rw[sZ];decide
theorem ze4:dF X (binaryOp .Add) (λx y H Q=>∃i j,x=.str i/\y=.str j/\i.length+j.length<=sizeLine/\Q (.str (i++j)) H):=by
 intro ak s Z H x y v u Q I rx ry h;obtain⟨i,j,rfl,rfl,hz,q⟩:=h;obtain⟨t,rfl⟩:=rx;obtain⟨t',rfl⟩:=ry;exact add_str (λt' tk=>⟨.str (i++j),H,I.tok _,⟨_,rfl⟩,q⟩) hz
theorem vals1{x:V}{us:List Value}(r:Vals [x] us):∃u,us=[u]/\RelV x u:=by
 cases r with
 |cons r1 r2=>cases r2;exact⟨_,rfl,r1⟩
theorem vals2{x y:V}{us:List Value}(r:Vals [x,y] us):∃u w',us=[u,w']/\RelV x u/\RelV y w':=by
 cases r with
 |cons r1 r2=>
  cases r2 with
  |cons r3 r4=>cases r4;exact⟨_,_,rfl,r1,r3⟩
theorem zgN(hc:X.aj=true):cT X (.builtin "max") (λxs H Q=>∃i j,xs=[.int i,.int j]/\Q (.int (if j>i then j else i)) H):=by
 intro ak s Z H xs us Q I r h;obtain⟨i,j,rfl,q⟩:=h;obtain⟨u,w',rfl,⟨t,rfl⟩,⟨t',rfl⟩⟩:=vals2 r;refine max_two_ints (I.ok.hd hc) λh' tk k=>⟨_,H,I.kept k,?_,q⟩;by_cases hj:j>i
 ·rw[if_pos hj,if_pos hj];exact⟨_,rfl⟩
 ·rw[if_neg hj,if_neg hj];exact⟨_,rfl⟩
theorem zfs(hc:X.aj=true):cT X (.builtin "min") (λxs H Q=>∃i j,xs=[.int i,.int j]/\Q (.int (if j<i then j else i)) H):=by
 intro ak s Z H xs us Q I r h;obtain⟨i,j,rfl,q⟩:=h;obtain⟨u,w',rfl,⟨t,rfl⟩,⟨t',rfl⟩⟩:=vals2 r;refine min_two_ints (I.ok.hd hc) λh' tk k=>⟨_,H,I.kept k,?_,q⟩;by_cases hj:j<i
 ·rw[if_pos hj,if_pos hj];exact⟨_,rfl⟩
 ·rw[if_neg hj,if_neg hj];exact⟨_,rfl⟩
theorem zgu:cT X (.type "int") (λxs H Q=>(∃i,xs=[.int i]/\Q (.int i) H)\/∃k,xs=[.bl k]/\Q (.int (if k then 1 else 0)) H):=by
 intro ak s Z H xs us Q I r h;rcases h with ⟨i,rfl,q⟩|⟨k,rfl,q⟩
 ·obtain⟨u,rfl,t,rfl⟩:=vals1 r;exact call_int_int ⟨.int i,H,I,⟨_,rfl⟩,q⟩
 ·obtain⟨u,rfl,r1⟩:=vals1 r;cases r1;exact call_int_bool ⟨.int (if k then 1 else 0),H,I.tok _,⟨_,rfl⟩,q⟩
theorem zdM:cT X (.builtin "divmod") (λxs H Q=>∃i j,xs=[.int i,.int j]/\xM i j/\∀p,H p=none->Q (.ref p) (upd H p (.tup [.int (i/j),.int (i%j)]))):=by
 intro ak s Z H xs us Q I r h;obtain⟨i,j,rfl,⟨h1,h2⟩,q⟩:=h;obtain⟨u,w',rfl,⟨t,rfl⟩,⟨t',rfl⟩⟩:=vals2 r;refine divmod_int gV ?_ (.inl (PyProof.noPylong_small gV));rw[Qe i gV,Int.fmod_eq_emod_of_nonneg i gV];have hn:H s.heap.objs.size=none:=I.hok.fresh (bL _);refine⟨.ref s.heap.objs.size,_,?_,rfl,q _ hn⟩;refine I.laid (λb o e=>cF _ e) (bL _) ⟨by simp only[fu,wX];rw[sZ];decide,[.int (i/j) s.toks,.int (i%j) (s.toks+1)],.cons ⟨_,rfl⟩ (.cons ⟨_,rfl⟩ .nil),?_⟩;exact⟨_,fj s.heap rfl,rfl,0,rfl⟩
end
structure cL(k:Nat)(A:Around):Prop where
 dp:A.depth+3*k+5<recursionLimit
 un:A.units+16*k+200<cLine
 gd:A.guards=some []
theorem cL.deeper{k:Nat}{A:Around}(r:cL (k+1) A)(env:Env):cL k (A.deeper env):=
 ⟨by have:=r.dp;show A.depth+1+3*k+5<_;lia,by have:=r.un;show A.units+3+16*k+200<_;lia,r.gd⟩
theorem cL.depth{k:Nat}{A:Around}(r:cL k A):A.depth<recursionLimit:=by have:=r.dp;lia
noncomputable def Q9:TA:=λ_ H Q=>Q [] H
noncomputable def Iw(ta:TE)(tr:TA):TA:=λZ H Q=>ta Z H λx H1=>tr Z H1 λxs H2=>Q (x::xs) H2
section
variable {X:Cx}{e:Expr}{es:List Expr}{te:TE}{t:TA}{pos:Pos}
theorem CK:PA X [] Q9:=λ_ _ _ _ H Q I h=>Calls.spliced_nil ⟨[],H,I,.nil,h⟩
theorem v7(ha:PE X e te)(hr:PA X es t)(hs:starEach (e::es) X.env=(false,eval e X.env)::starEach es X.env:=by rfl):PA X (e::es) (Iw te t):=by
 intro pos ak s Z H Q I h;rw[hs];show wpAny _ _ (spliced ((false,eval e X.env)::backTo pos (starEach es X.env))) _ _ s;refine Calls.spliced_cons (aU (ha ak s Z H _ I h) λu s1 hx=>fK hx λx H1 I1 r1 q1=>?_);exact aU (hr pos ak s1 Z H1 _ I1 q1) λus s2 hx=>fK hx λxs H2 I2 r2 q2=>⟨x::xs,H2,I2,.cons r1 r2,q2⟩
noncomputable def Q_(t:TA):TE:=λZ H Q=>t Z H λxs H1=>xs.length<=sizeLine/\∀p,H1 p=none->Q (.ref p) (upd H1 p (.tup xs))
noncomputable def Ra(t:TA):TE:=λZ H Q=>t Z H λxs H1=>xs.length<=sizeLine/\∀p,H1 p=none->Q (.ref p) (upd H1 p (.lst xs))
theorem zls{x1}(h:PA X es t):PE X (.Tuple es x1 pos) (Q_ t):=by
 intro ak s Z H Q I hq;refine wpAny_Tuple_spliced (aU (h pos ak s Z H _ I hq) λus s1 ⟨xs,H1,I1,r,z,q⟩=>⟨by rw[<-r.length];exact z,?_⟩);have hf:H1 s1.heap.objs.size=none:=I1.hok.fresh (bL _);refine⟨.ref s1.heap.objs.size,upd H1 s1.heap.objs.size (.tup xs),I1.laid (t':=s1.toks) (λb u e=>cF _ e) (bL _) ?_,rfl,q _ hf⟩;exact⟨z,us,r,⟨_,fj _ rfl,rfl,_,rfl⟩⟩
theorem zlR(h:PA X es t):PE X (.List es pos) (Ra t):=by
 intro ak s Z H Q I hq;refine wpAny_List_spliced (aU (h pos ak s Z H _ I hq) λus s1 ⟨xs,H1,I1,r,z,q⟩=>⟨by rw[<-r.length];exact z,?_⟩);have hf:H1 s1.heap.objs.size=none:=I1.hok.fresh (bL _);refine⟨.ref s1.heap.objs.size,upd H1 s1.heap.objs.size (.lst xs),I1.laid (t':=s1.toks) (λb u e=>cF _ e) (bL _) ?_,rfl,q _ hf⟩;exact⟨z,us,0,r,fj _ rfl⟩
end
noncomputable abbrev Sp:=List V->Hp->VK->XK->Prop
noncomputable abbrev tG:=List Env->Hp->Shared->XK->Value->Shared->Prop
structure xP(P:Program)(w:World)(K:W.Frag)(mg:Str->Option Value)(base:Heap)(A:Around)(outer:List Env)(s:Shared)(H:Hp):Prop where
 frames:A.frames=some outer
 mod:Mod K mg base
 bs:∀b o,base.get? b=some o->s.heap.get? b=some o/\H b=none
 Gf:base.objs.size<=s.heap.objs.size
 mL:s.heap.FunFrames base outer
 Nq:∀b∈frs outer,H b=none
 hok:iu P w H s.heap
 bare:AllBare s.gens
def CE(outer:List Env)(P:Program)(w:World)(H:Hp)(s:Shared)(Q:VK)(u:Value)(s':Shared):Prop:=
 ∃v H',s'.os=s.os/\AllBare s'.gens/\Un (frs outer) [] H H' s.heap s'.heap/\iu P w H' s'.heap/\RelV v u/\Q v H'
def CR(CX:tG)(outer:List Env)(P:Program)(w:World)(H:Hp)(s:Shared)(Q:VK)(E:XK)(r:Result)(s':Shared):Prop:=
 match r with
 |.ok (.ret u)=>CE outer P w H s Q u s'
 |.ok _=>False
 |.error e=>CX outer H s E e s'
structure fD(P:Program)(w:World)(K:W.Frag)(mg:Str->Option Value)(base:Heap)(CX:tG)(cm:Bool)(k:Nat)(f:Addr)(fd:FuncData)(ps:List Str)(sp:Sp):Prop where
 len:∀vs H Q E,sp vs H Q E->vs.length=ps.length
 run:∀(A:Around) (outer:List Env) (s:Shared) (H:Hp) (args:Args) (us:List Value) (vs:List V) (Q:VK) (E:XK),(cm=true->A.handled=none)->cL k A->xP P w K mg base A outer s H->BindsTo s fd args (ps.zip us)->Vals vs us->sp vs H Q E->
  codeAny (model P w) A (.call (.ref f) args) (CR CX outer P w H s Q E) s
theorem fD.imp{P:Program}{w:World}{K:W.Frag}{mg:Str->Option Value}{base:Heap}{CX:tG}{cm:Bool}{k:Nat}{f:Addr}{fd:FuncData}{ps:List Str}{sp Yh:Sp}(F:fD P w K mg base CX cm k f fd ps sp)
  (h:∀vs H Q E,Yh vs H Q E->sp vs H Q E):fD P w K mg base CX cm k f fd ps Yh:=
 ⟨λvs H Q E q=>F.len vs H Q E (h _ _ _ _ q),λA outer s H args us vs Q E rG hr he hb hv hs=>F.run A outer s H args us vs Q E rG hr he hb hv (h _ _ _ _ hs)⟩
section
variable {X:Cx}{ak:List (Addr×Obj)}{Z:St}{H:Hp}{s s':Shared}
theorem Inv.env0(I:Inv X ak Z H s):xP X.prog X.w X.K X.mg X.base X.A X.stack s H:=
 ⟨I.ok.frames,I.ok.mod,I.bs,jH I.ok.Gf I.sz,I.stack,I.mO,I.hok,I.bare⟩
theorem Inv.after{Q:VK}{u:Value}(I:Inv X ak Z H s)(h:CE X.stack X.prog X.w H s Q u s'):EP X ak Z Q u s':=by
 obtain⟨v,H',os,bare,un,hok,r,q⟩:=h;obtain⟨hh,g,d,t,os'⟩:=s';obtain rfl:os'=s.os:=os;exact⟨v,H',I.call (h':=hh) (g':=g) (d':=d) (t':=t) (ch:=[]) un hok bare (λb z=>absurd z J0),r,q⟩
end
def Binds(K:W.Frag)(fd:FuncData)(ps:List Str)(ds:List Value):Prop:=
 ∀(s:Shared) (us:List Value),K.In s.heap->(us++ds).length=ps.length->BindsTo s fd ⟨us,[]⟩ (ps.zip (us++ds))
theorem Binds.all{K:W.Frag}{fd:FuncData}{ps:List Str}(h:∀us:List Value,us.length=ps.length->bindArgs fd ⟨us,[]⟩=pure (ps.zip us)):Binds K fd ps []:=λs us _ hl=>by
 rw[FP] at hl ⊢;exact .of_eq (h us hl)
structure fZ(N P:List Str)(sc:Scope):Prop where
 kind:sc.kind=.function
 co:sc.isCoroutine=false
 gen:sc.isGenerator=false
 nd:N.Nodup
 pre:N.take P.length=P
 par:∀x∈P,sc.names.lookup x=some .local\/sc.names.lookup x=some .cell
 CP:∀y∈sc.names,y.2≠.free
theorem Yi{kindOf:Str->Option NameKind}{x:Str}:∀{binds:List (Str×Value)} {m:Str->Option Value},(∀v,(x,v)∉binds)->bindL kindOf binds m x=m x
 |[],_,_=>rfl
 |(n,v)::r,m,h=>by
  unfold bindL;rw[Yi λw hw=>h w (eF _ hw)]
  split
  ·have:x≠n:=by rintro rfl;exact h v gA
   simp[this]
  ·rfl
theorem Yj{kindOf:Str->Option NameKind}{x:Str}:∀{binds:List (Str×Value)} {m:Str->Option Value},(∀v,(x,v)∉binds)->bindC kindOf binds m x=m x
 |[],_,_=>rfl
 |(n,v)::r,m,h=>by
  unfold bindC;rw[Yj λw hw=>h w (eF _ hw)]
  split
  ·rfl
  ·have:x≠n:=by rintro rfl;exact h v gA
   simp[this]
theorem Yk{kindOf:Str->Option NameKind}{x:Str}{v:Value}:∀{P:List Str} {vs:List Value} {i:Nat} {m:Str->Option Value},P.Nodup->P[i]?=some x->vs[i]?=some v->kindOf x=some .local->
  bindL kindOf (P.zip vs) m x=some v
 |[],_,_,_,_,h,_,_=>by simp at h
 |_::_,[],_,_,_,_,h,_=>by simp at h
 |p::P,w::vs,0,m,nd,h1,h2,hk=>by
  simp at h1 h2;subst h1;subst h2;show bindL kindOf ((p,w)::P.zip vs) m p=_;unfold bindL;rw[Yi λv hv=>(pq.mp nd).1 (M7 hv).1,if_pos hk];simp
 |p::P,w::vs,i+1,m,nd,h1,h2,hk=>by
  show bindL kindOf ((p,w)::P.zip vs) m x=_;unfold bindL;exact Yk (i:=i) (pq.mp nd).2 (by simpa using h1) (by simpa using h2) hk
theorem Yl{kindOf:Str->Option NameKind}{x:Str}{v:Value}:∀{P:List Str} {vs:List Value} {i:Nat} {m:Str->Option Value},P.Nodup->P[i]?=some x->vs[i]?=some v->kindOf x≠some .local->
  bindC kindOf (P.zip vs) m x=some v
 |[],_,_,_,_,h,_,_=>by simp at h
 |_::_,[],_,_,_,_,h,_=>by simp at h
 |p::P,w::vs,0,m,nd,h1,h2,hk=>by
  simp at h1 h2;subst h1;subst h2;show bindC kindOf ((p,w)::P.zip vs) m p=_;unfold bindC;rw[Yj λv hv=>(pq.mp nd).1 (M7 hv).1,if_neg hk];simp
 |p::P,w::vs,i+1,m,nd,h1,h2,hk=>by
  show bindC kindOf ((p,w)::P.zip vs) m x=_;unfold bindC;exact Yl (i:=i) (pq.mp nd).2 (by simpa using h1) (by simpa using h2) hk
noncomputable def start(N:List Str)(vs:List V):St:=vs.map some++List.replicate (N.length-vs.length) none
noncomputable def i_(CX:tG)(P:Program)(w:World)(K:W.Frag)(mg:Str->Option Value)(base:Heap)(N:List Str)(qual:Str)(scope:Scope)(f:Addr)(cd:Value)(A:Around)(outer:List Env)(s:Shared)(H:Hp)(E:XK)(cm:Bool):Cx where
 prog:=P
 w:=w
 K:=K
 mg:=mg
 base:=base
 A:=A.deeper (envOfC qual scope s.heap.objs.size f cd)
 N:=N
 s₀:=s
 H₀:=H
 env:=envOfC qual scope s.heap.objs.size f cd
 outer:=outer
 stack:=envOfC qual scope s.heap.objs.size f cd::outer
 ex:=[]
 aj:=cm
 fn:=λ_=>true
 pn:=[]
 xe:=λe s'=>wpAny (model P w) (A.deeper (envOfC qual scope s.heap.objs.size f cd)) (leaving (envOfC qual scope s.heap.objs.size f cd) e) (λ_ s''=>CX outer H s E e s'') (λe' s''=>CX outer H s E e' s'') s'
theorem Ym{sc:Scope}{n:Nat}{x:Str}(h:sc.names.lookup x=some .cell):∃c,(cellsFrom n sc.names []).lookup x=some c:=by
 have q:=Ql sc.names n [] (.inl h);exact Qg.mp q
theorem zg3{CX:tG}{P:Program}{w:World}{K:W.Frag}{mg:Str->Option Value}{base:Heap}{N ps:List Str}{qual:Str}{scope:Scope}{f:Addr}{cd:Value}{A:Around}{outer:List Env}{s s1:Shared}{H:Hp}{E:XK}{us:List Value}{vs:List V}
  {cm:Bool} (S:fZ N ps scope) (hd:cm=true->A.handled=none) (e0:xP P w K mg base A outer s H) (hl:vs.length=ps.length) (r:Vals vs us)
  (x:InCallC s s.heap.objs.size (bindL (envOfC qual scope s.heap.objs.size f cd).kindOf (ps.zip us) λ_=>none) (cellsFrom (s.heap.objs.size+1) scope.names []) (bindC (envOfC qual scope s.heap.objs.size f cd).kindOf (ps.zip us) λ_=>none) s1) :
  Inv (i_ CX P w K mg base N qual scope f cd A outer s H E cm) [] (start N vs) H s1:=by
 have bR:ps.length<=N.length:=by have:=ql List.length S.pre;rw[oZ] at this;lia
 obtain⟨h1,tk,rfl,hk⟩:=x.done;have Iz:∀b:Addr,b∉(i_ CX P w K mg base N qual scope f cd A outer s H E cm).ex:=λb z=>absurd (show b∈([]:List Addr) from z) J0;refine⟨⟨e0.mod,S.kind,rfl,rfl,bL _,λy z c h1 h2=>?_,λy hy=>?_,λy c _ h=>?_,hd,Around.frames_deeper e0.frames,.inr ⟨rfl,rfl⟩,λb z=>absurd z (Iz b),e0.bs,e0.Gf,λb _ _=>Iz b,λb z=>absurd z (Iz b),e0.mL,e0.Nq⟩,
  rfl,e0.bare,Un.kept hk,⟨_,x.toInCall.ns,λi y v h1 h2 h3=>?_⟩,λy c h=>⟨_,x.cell y c h⟩,e0.hok.fresh (bL _),λy c h=>?_,λp hp=>absurd (show p∈([]:List (Addr×Obj)) from hp) J0,e0.hok.kept hk,?_⟩
 ·exact name_of_addr x.apart (FJ h1) (FJ h2)
 ·have hy:scope.names.lookup y=some .cell\/scope.names.lookup y=some .free:=hy;rcases hy with hy|hy
  ·exact Ym hy
  ·exact absurd rfl (S.CP _ (FJ hy))
 ·exact ud (x.above y c (FJ h))
 ·have hi:i<vs.length:=by
   unfold start at h2;by_cases hi:i<vs.length
   ·exact hi
   ·rw[oW (by simpa using hi)] at h2;rw[G9] at h2;split at h2<;>cases h2
  have ha:vs[i]?=some v:=by
   unfold start at h2;rw[oX (by simpa using hi),gK] at h2;cases e:vs[i]? with
   |none=>rw[e] at h2;cases h2
   |some a=>rw[e] at h2;cases h2;rfl
  obtain⟨u,hu,rv⟩:=r.get ha;have hp:ps[i]?=some y:=by
   rw[<-S.pre,List.getElem?_take_of_lt gV];exact h1
  have Yn:ps.Nodup:=by rw[<-S.pre];exact S.nd.sublist (List.take_sublist _ _)
  refine⟨u,rv,?_⟩;rcases S.par y (iQ hp) with k|k
  ·exact .inl ⟨k,Yk Yn hp hu k⟩
  ·obtain⟨c,e⟩:=Ym (n:=s.heap.objs.size+1) k;refine .inr ⟨.inl k,c,e,?_⟩;have q:=x.cell y c e;rw[Yl Yn hp hu (by show scope.names.lookup y≠_;rw[k];decide)] at q;exact q
 ·exact e0.hok.fresh (ud (x.above y c (FJ h)))
 ·unfold start;show _=N.length;rw[h_,aW,Hf]
  lia
theorem zm6{CX:tG}{cm:Bool}{P:Program}{w:World}{K:W.Frag}{mg:Str->Option Value}{base:Heap}{k:Nat}{f:Addr}{name qual:Str}{params:Arguments}{body:List Stmt}{scope:Scope}{dV kV doc pm cdv ct oc:Value}{an od:Option Addr}
  {osl:Array (Option Value)} {N ps:List Str} {sp:Sp} (lk:K.lookup f=some ⟨oc,od,.func (PySem.W.fnOf name qual params body scope dV kV doc pm an cdv ct),osl⟩) (oJ:PySem.W.codeIn K cdv qual=true) (S:fZ N ps scope)
  (len:∀vs H Q E,sp vs H Q E->vs.length=ps.length)
  (IK:∀(A:Around) (outer:List Env) (s:Shared) (H:Hp) (vs:List V) (Q:VK) (E:XK),cL (k+1) A->sp vs H Q E->
   ∃t,rF (i_ CX P w K mg base N qual scope f cdv A outer s H E cm) body t/\t {nx:=λ_ H'=>Q .non H',rt:=Q} (start N vs) H) :
  fD P w K mg base CX cm (k+1) f (PySem.W.fnOf name qual params body scope dV kV doc pm an cdv ct) ps sp:=by
 refine⟨len,λA outer s H args us vs Q E rG hr e0 hb r NQ=>?_⟩;have hl:=len _ _ _ _ NQ;have KX:K.In s.heap:=e0.mod.Gb.keeps λb o e=>(e0.bs b o e).1;have lim:s.heap.NoLimit:=e0.mod.nolimit.keeps λb o e=>(e0.bs b o e).1;have IV:∀y∈ps.zip us,scope.names.lookup y.1=some .local\/(scope.names.lookup y.1=some .cell/\((cellsFrom (s.heap.objs.size+1) scope.names []).lookup y.1).isSome=true):=λ⟨n,v⟩ hy=>by
  rcases S.par n (M7 hy).1 with q|q
  ·exact .inl q
  ·exact .inr ⟨q,Ql _ _ _ (.inl q)⟩
 refine codeAny_call_function hr.depth (KX _ _ lk) rfl S.co S.gen rfl (PySem.W.codeRec_of KX oJ) (hb _ _ _ _ ?_);refine wpAny_newFunctionEnv_cells S.kind IV λenv he s1 x=>?_;subst he;refine⟨lim.keeps x.toInCall.keep,codeAny_func ?_⟩;obtain⟨t,ht,hq⟩:=IK A outer s H vs Q E hr NQ;have I:Inv (i_ CX P w K mg base N qual scope f cdv A outer s H E cm) [] (start N vs) H s1:=zg3 S rG e0 hl r x;refine iR (ht [] s1 (start N vs) H _ I hq) (λfl s' hs=>?_) λe s' hs=>hs;have fin:∀{Z':St} {H':Hp} {v:V} {u:Value},Inv (i_ CX P w K mg base N qual scope f cdv A outer s H E cm) [] Z' H' s'->RelV v u->Q v H'->CE outer P w H s Q u s':=
  λ{Z' H' v u} bI rv q=>⟨v,H',bI.os,bI.bare,bI.base,bI.hok,rv,q⟩
 cases fl with
 |ret u=>
  obtain⟨v,Z',H',bI,rv,q⟩:=hs;exact fin bI rv q
 |next=>
  obtain⟨Z',H',bI,q⟩:=hs;exact fin (v:=V.non) (u:=Value.none) bI rfl q
 |brk=>
  obtain⟨_,_,_,q⟩:=hs;exact False.elim q
 |cont=>
  obtain⟨_,_,_,q⟩:=hs;exact False.elim q
section
variable {X:Cx}{x:Str}{p pos:Pos}{e:Expr}{es:List Expr}{t:TA}{id T:String}{r:List V->Hp->VK->Prop}
noncomputable def NT(r:List V->Hp->VK->Prop)(t:TA):TE:=λZ H Q=>t Z H λvs H1=>r vs H1 Q
theorem Yo(hc:cT X (.builtin id) r)(hg:Gl X x)(hm:X.mg x=none)(hv:bootBuiltins x=some (.builtin id))(ha:PA X (e::es) t)(hn:x≠"__name__":=by decide)(rH:(x==("__debug__" : Str))=false:=by decide)
  (he:starEach (e::es) X.env=(false,eval e X.env)::starEach es X.env:=by rfl) (bR:(backTo pos (starEach es X.env)).any (·.1)=false:=by rfl):PE X (.Call (.Name x p) (e::es) [] pos) (NT r t):=by
 intro ak s Z H Q I h;refine BR (uo I hg hm hv ?_ hn rH);exact PyProof.Rows.callWith_builtin1 (aU (ha pos ak s Z H _ I h) λus s1 hx=>fK hx λvs H1 I1 r1 q1=>hc ak s1 Z H1 vs us Q I1 r1 q1) he bR
theorem zfy(hc:cT X (.type T) r)(hg:Gl X x)(hm:X.mg x=none)(hv:bootBuiltins x=some (.type T))(ha:PA X (e::es) t)(hn:x≠"__name__":=by decide)(rH:(x==("__debug__" : Str))=false:=by decide)
  (he:starEach (e::es) X.env=(false,eval e X.env)::starEach es X.env:=by rfl) (bR:(backTo pos (starEach es X.env)).any (·.1)=false:=by rfl):PE X (.Call (.Name x p) (e::es) [] pos) (NT r t):=by
 intro ak s Z H Q I h;refine BR (uo I hg hm hv ?_ hn rH);exact zj (aU (ha pos ak s Z H _ I h) λus s1 hx=>fK hx λvs H1 I1 r1 q1=>hc ak s1 Z H1 vs us Q I1 r1 q1) he bR
end
end L2
namespace HT
open PySem PyProof.Rows
noncomputable def lexLt:List Int->List Int->Bool
 |[],[]=>false
 |[],_::_=>true
 |_::_,[]=>false
 |x::xs,y::ys=>if x=y then lexLt xs ys else decide (x<y)
theorem jR(x y:Int)(xs ys:List Int):lexLt (x::xs) (y::ys)=if x=y then lexLt xs ys else decide (x<y):=rfl
theorem zcw:lexLt [] []=false:=rfl
theorem zb3(y:Int)(ys:List Int):lexLt [] (y::ys)=true:=rfl
theorem zb4(x:Int)(xs:List Int):lexLt (x::xs) []=false:=rfl
theorem zib(A:Around)(s:Shared)(a:Int)(t:Tok)(c:Int)(u:Tok):∃e,SeqAt.EqAt A s (.int a t) (.int c u) e/\(e=true↔a=c):=
 ⟨(a==c),SeqAt.EqAt.int_int a t c u,by simp⟩
theorem ziv(A:Around)(s:Shared)(a:Int)(t:Tok)(c:Int)(u:Tok)(prog:Program)(w:World)(E:Value->Shared->Prop)(Q:Value->Shared->Prop)(h:Q (.bool (decide (a<c))) s) :
  wpAny (model prog w) A (richCompare .Lt (.int a t) (.int c u)) Q E s:=
 (PyProof.Rows.lt_int h:wpAny (model prog w) A (compareOp .Lt (.int a t) (.int c u)) Q E s)
section
open PySem.SeqAt
open PySem.AutoSeq1 (wpAny_loadPart')
open PySem.MeetsSeq PySem.MeetsSeq2 PySem.MeetsSeq3
theorem zcR(l b:Addr)(items items2:Array Value)(n n2:Nat)(dd dd2:Option Addr)(sl sl2:Array (Option Value))(ns ms:List Int)(hi:IntsAre items.toList ns)(hj:IntsAre items2.toList ms) :
  Meets (Builtin.«tuple.__lt__» ⟨[.ref l,.ref b],[]⟩)
   (λ_ R s=>s.heap.get? l=some {cls:=.type "tuple",dict:=dd,data:=.seq items n,slots:=sl}/\s.heap.get? b=some {cls:=.type "tuple",dict:=dd2,data:=.seq items2 n2,slots:=sl2} /\
    R (.ok (.ret (.bool (lexLt ns ms)))) s):=
 .of_wp λprog w A R s h=>by
  obtain⟨hp,g,d,tk,os⟩:=s;obtain⟨hl,hb,h⟩:=h;have f2:=AutoSeq1.sub_tuple_tuple;have z1:items.size=ns.length:=by rw[<-hi.length];simp
  have z2:items2.size=ms.length:=by rw[<-hj.length];simp
  wp_walk using wpAny_loadPart' hl,wpAny_loadPart' hb,wpAny_forIn_list _ (λrest b s'=>b.1=none/\s'=⟨hp,g,d,tk,os⟩/\∃(vs ws:List Value) (ns' Gg:List Int),rest=vs.zip ws /\
   IntsAre vs ns'/\IntsAre ws Gg/\ns'.length+items2.size=Gg.length+items.size/\R (.ok (.ret (.bool (lexLt ns' Gg)))) ⟨hp,g,d,tk,os⟩) _
  case turn=>
   rintro⟨y,x⟩ rest b s' ⟨hb',rfl,vs,ws,ns',Gg,hz,Rb,NZ,hlen,hR⟩;cases Rb with
   |nil=>rw[List.zip_nil_left] at hz;cases hz
   |cons a t Rf=>
    cases NZ with
    |nil=>rw[List.zip_nil_right] at hz;cases hz
    |cons c u Rg=>
     rw[Qs] at hz;injection hz with hyx IW;injection hyx with hy hx;subst hy hx;rw[jR] at hR;simp only[fu] at hlen;obtain⟨e,he,I8⟩:=zib A.in1 ⟨hp,g,d,tk,os⟩ a t c u;refine au (he prog w _ _ ?_);cases e with
     |true=>
      rw[if_pos (I8.mp rfl)] at hR
      wp_walk
      exact⟨rfl,rfl,_,_,_,_,IW,Rf,Rg,by lia,hR⟩
     |false=>
      rw[if_neg (λq=>absurd (I8.mpr q) Bool.false_ne_true)] at hR;have hri:=ziv A.in1 ⟨hp,g,d,tk,os⟩ a t c u prog w
      wp_walk using hri
      exact⟨_,rfl,by simpa using hR⟩
  case fin=>
   rintro⟨b1,b2⟩ s' ⟨hb',rfl,vs,ws,ns',Gg,hz,Rb,NZ,hlen,hR⟩;simp only at hb';subst hb';have hv:lexLt ns' Gg=decide (items.size<items2.size):=by
    cases Rb with
    |nil=>
     cases NZ with
     |nil=>
      simp only[wX] at hlen;rw[zcw];exact(fH gV).symm
     |cons c u hw=>
      simp only[wX,fu] at hlen;rw[zb3];exact(dM gV).symm
    |cons a t hv=>
     cases NZ with
     |nil=>
      simp only[wX,fu] at hlen;rw[zb4];exact(fH gV).symm
     |cons c u hw=>
      rw[Qs] at hz;cases hz
   rw[hv] at hR
   wp_walk
   exact⟨_,rfl,by simpa [Builtin.Tuple.tupleCompareSizes] using hR⟩
  case h=>
   exact⟨rfl,rfl,items.toList,items2.toList,ns,ms,rfl,hi,hj,by lia,h⟩
end
section
variable {prog:Program}{w:World}{A:Around}{E:Value->Shared->Prop}{s:Shared}
theorem pB{l b:Addr}{items items2:Array Value}{ns ms:List Int}{Q:Value->Shared->Prop}(hl:IsTup s.heap l items)(hb:IsTup s.heap b items2)(hi:IntsAre items.toList ns)(hj:IntsAre items2.toList ms)
  (hu:A.units<cLine) (h:Q (.bool (lexLt ns ms)) s):wpAny (model prog w) A (compareOp .Lt (.ref l) (.ref b)) Q E s:=by
 obtain⟨⟨cls,dd,data,sl⟩,ho,hc,n,hd⟩:=id hl;obtain⟨⟨cls2,dd2,data2,sl2⟩,pC,tH,n2,hd2⟩:=id hb;simp only at hc hd tH hd2;subst hc hd tH hd2;exact richCompare_meets_room (op:=.Lt) ⟨_,ho,rfl⟩ ⟨_,pC,rfl⟩ PySem.F.slot_tuple_lt PySem.F.entry_tuple_lt (PySem.F.args_tuple_lt_2 _ _) (zcR l b items items2 n n2 dd dd2 sl sl2 ns ms hi hj)
  ⟨ho,pC,show Value.bool (lexLt ns ms)≠Value.notImplemented/\Q (.bool (lexLt ns ms)) s from ⟨(λx=>nomatch x),h⟩⟩ hu
theorem xQ{t b:Addr}{vs ws:List Value}{Q:Value->Shared->Prop}(ht:IsTup s.heap t vs.toArray)(hb:IsTup s.heap b ws.toArray)(hv:vs≠[])
  (h1:ws=[]->Q (.ref t) s) (h2:ws≠[]->Q (.ref s.heap.objs.size) {s with heap:=s.heap.push {cls:=.type "tuple",data:=.seq (vs++ws).toArray}})
  (iw:vs.length+ws.length<=sizeLine):wpAny (model prog w) A (binaryOp .Add (.ref t) (.ref b)) Q E s:=by
 obtain⟨⟨cls,dd,data,sl⟩,ho,hc,n,hd⟩:=id ht;obtain⟨⟨cls2,dd2,data2,sl2⟩,pC,tH,n2,hd2⟩:=id hb;simp only at hc hd tH hd2;subst hc hd tH hd2;have e:vs.toArray++ws.toArray=(vs++ws).toArray:=by simp
 by_cases hw:ws=[]
 ·exact concat_meets ⟨_,ho,rfl⟩ ⟨_,pC,rfl⟩ noFill_tuple_add seq_tuple_add Qm Qk (Qh _ _)
   (tuple_addW1 t b vs.toArray ws.toArray n n2 dd dd2 sl sl2 (by simpa using hv) (by simp[hw])) ⟨ho,pC,h1 hw⟩
 ·refine concat_meets ⟨_,ho,rfl⟩ ⟨_,pC,rfl⟩ noFill_tuple_add seq_tuple_add Qm Qk (Qh _ _)
   (tuple_addW2 t b vs.toArray ws.toArray n n2 dd dd2 sl sl2 (by simpa using hv) (by simpa using hw) (by rw[dH,dH];exact iw)) ⟨ho,pC,?_⟩
  rw[e];exact h2 hw
noncomputable def bM(n d:Nat):Option Int->Nat
 |none=>d
 |some v=>if v<0 then (v+(n:Int)).toNat else min v.toNat n
theorem nQ(n d:Nat):bM n d none=d:=rfl
theorem qw(n d k:Nat):bM n d (some (k:Int))=min k n:=by
 show (if (k:Int)<0 then ((k:Int)+(n:Int)).toNat else min (k:Int).toNat n)=min k n;rw[if_neg gV,wR]
theorem zlK(n d:Nat)(hd:d<=n)(o:Option Int):bM n d o<=n:=by
 cases o with
 |none=>exact hd
 |some v=>
  show (if v<0 then (v+(n:Int)).toNat else min v.toNat n)<=n;by_cases hv:v<0
  ·rw[if_pos hv];lia
  ·rw[if_neg hv];exact Nat.min_le_right _ _
theorem Yp(v:Int)(n d:Nat):(if v<0 then max (v+(n:Int)) 0 else min v (n:Int))=((bM n d (some v):Nat):Int):=by
 show (if v<0 then max (v+(n:Int)) 0 else min v (n:Int))=(((if v<0 then (v+(n:Int)).toNat else min v.toNat n):Nat):Int);by_cases hv:v<0
 ·simp only[if_pos hv];lia
 ·simp only[if_neg hv];lia
theorem zfd(lo hi:Option Int)(n:Nat):Builtin.Slice.sliceAdjust lo hi 1 (n:Int)=(((bM n 0 lo:Nat):Int),((bM n n hi:Nat):Int)):=by
 have h1:¬((1:Int)<0):=by lia
 unfold Builtin.Slice.sliceAdjust;simp only[h1,lq];refine Prod.ext ?_ ?_
 ·cases lo with
  |none=>rfl
  |some v=>exact Yp v n 0
 ·cases hi with
  |none=>rfl
  |some v=>exact Yp v n n
theorem ze0(i j:Nat):Builtin.Slice.slicePlaces (i:Int) (j:Int) 1=j-i:=by
 unfold Builtin.Slice.slicePlaces;have h1:(1:Int)>0:=by lia
 simp only[h1,if_true,Int.ediv_one]
 split<;>lia
theorem Yq{v:Value}{o:Option Int}{Q:Option Int->Shared->Prop}(p:IsPart v o)(h:Q o s):wpAny (model prog w) A (Builtin.Slice.slicePartIndex v) Q E s:=by
 cases p with
 |none=>exact slicePart_none h
 |int i t=>exact slicePart_int h
theorem Yr{sl:Addr}{vl vu:Value}{lo hi:Option Int}{n:Nat}{Q:Int×Int×Nat->Shared->Prop}(hs:s.heap.IsSliceOf sl vl vu .none)(pl:IsPart vl lo)(pu:IsPart vu hi)
  (h:Q (((bM n 0 lo:Nat):Int),1,bM n n hi-bM n 0 lo) s):wpAny (model prog w) A (Builtin.Slice.sliceApplied (.ref sl) (pure (n:Int))) Q E s:=by
 obtain⟨os,CQ,N5,I9⟩:=id hs;unfold Builtin.Slice.sliceApplied Builtin.Slice.sliceFields;refine au (au (jA CQ I9 (x:=vl) rfl (au (jA CQ I9 (x:=vu) rfl (au (jA CQ I9 (x:=.none) rfl (aN ?_)))))));refine au (slicePart_none ?_);show wpAny _ _ (if ((1:Int)==0)=true then _ else _) _ _ s;rw[if_neg Dc];refine au (Yq pl (au (Yq pu (au (aN ?_)))));show wpAny _ _ (match Builtin.Slice.sliceAdjust lo hi 1 (n:Int) with|(lo,hi)=>pure (lo,(1:Int),Builtin.Slice.slicePlaces lo hi 1)) _ _ s;rw[zfd lo hi n];show wpAny _ _ (pure (((bM n 0 lo:Nat):Int),(1:Int),Builtin.Slice.slicePlaces ((bM n 0 lo:Nat):Int) ((bM n n hi:Nat):Int) 1)) _ _ s;rw[ze0];exact aN h
theorem zhx(xs:Array Value)(i k:Nat):((List.range k).filterMap λ(m:Nat)=>xs[((i:Int)+(m:Int)*1).toNat]?).toArray=((xs.toList.drop i).take k).toArray:=by
 have e:(λ(m:Nat)=>xs[((i:Int)+(m:Int)*1).toNat]?)=λm=>xs[i+m]?:=by
  funext m
  have:((i:Int)+(m:Int)*1).toNat=i+m:=by lia
  rw[this]
 rw[e];have:=pick_run xs i k;rw[List.filterMap_map] at this;have e2:((λx=>xs[x]?)∘λx=>i+x)=λm=>xs[i+m]?:=rfl;rw[e2] at this;rw[this]
theorem iD{t sl:Addr}{items:Array Value}{vl vu:Value}{lo hi:Option Int}{Q:Value->Shared->Prop}(ht:IsTup s.heap t items)(hs:s.heap.IsSliceOf sl vl vu .none)(pl:IsPart vl lo)(pu:IsPart vu hi)
  (hw:¬(bM items.size 0 lo=0/\bM items.size items.size hi=items.size))
  (h:Q (.ref s.heap.objs.size) {s with heap:=s.heap.push {cls:=.type "tuple",data:=.seq ((items.toList.drop (bM items.size 0 lo)).take (bM items.size items.size hi-bM items.size 0 lo)).toArray}})
  (iw:items.size<=sizeLine):wpAny (model prog w) A (getItem (.ref t) (.ref sl)) Q E s:=by
 have qx:sizeOk (.seq ((items.toList.drop (bM items.size 0 lo)).take (bM items.size items.size hi-bM items.size 0 lo)).toArray):=by
  show ((items.toList.drop (bM items.size 0 lo)).take (bM items.size items.size hi-bM items.size 0 lo)).toArray.size<=sizeLine;rw[dH,oZ,wV,Fz]
  lia
 have hj:bM items.size items.size hi<=items.size:=zlK _ _ (bL _) hi;obtain⟨os,CQ,N5,I9⟩:=id hs;have Rh:s.TypeIs (.ref sl) "slice":=⟨os,CQ,N5⟩;unfold getItem
 try with_reducible refine k_ ?_
 first|refine au (aN ?_)|skip
 refine au (wpAny_sequenceKey ht.typeIs Dc ?_);refine au (vO (name:=Str.ofString "__getitem__") ht.typeIs Fw
  (o_ Fw ht.typeIs entry_tuple_getitem ?_ (args_tuple_getitem _ _)))
 show wpAny _ _ (Builtin.Tuple.tupleItemsOf (.ref t) >>= _) _ _ s;refine au (tupleItemsOf_ ht ?_);refine au (FW Rh ?_);rw[if_pos Dc];refine au (Yr hs pl pu ?_);have I_:¬((((bM items.size 0 lo:Nat):Int)==0&&(1:Int)==1&&(bM items.size items.size hi-bM items.size 0 lo)==items.size)=true):=by
  intro q;rw[gB,gB] at q;have q1:((bM items.size 0 lo:Nat):Int)=0:=eq_of_beq q.1.1;have q2:bM items.size items.size hi-bM items.size 0 lo=items.size:=eq_of_beq q.2;exact hw ⟨by lia,by lia⟩
 show wpAny _ _ (if (((bM items.size 0 lo:Nat):Int)==0&&(1:Int)==1&&(bM items.size items.size hi-bM items.size 0 lo)==items.size)=true then _ else _) _ _ s;rw[if_neg I_,zhx]
 first
  |exact au (m:=Builtin.Tuple.tupleExact _) (sX (aN ⟨_,rfl,aN h⟩) qx)
  |exact au (m:=Builtin.Tuple.tupleExact _) (sX (au (aN (aN ⟨_,rfl,aN h⟩))) qx)
  |exact au (au (m:=Builtin.Tuple.tupleExact _) (sX (aN (aN ⟨_,rfl,aN h⟩)) qx))
  |exact au (au (m:=Builtin.Tuple.tupleExact _) (sX (aN ⟨_,rfl,aN h⟩) qx))
end
end HT
namespace L2
open PySem PySem.Spec PyProof.Rows
noncomputable abbrev TO:=St->Hp->(Option Int->Hp->Prop)->Prop
def PO(X:Cx)(e:Option Expr)(t:TO):Prop:=
 ∀(ak:List (Addr×Obj)) (s:Shared) (Z:St) (H:Hp) (Q:Option Int->Hp->Prop),Inv X ak Z H s->t Z H Q->
  wpAny (model X.prog X.w) X.A (evalPart e X.env) (λu s'=>∃o H',Inv X ak Z H' s'/\IsPart u o/\Q o H') X.xe s
noncomputable def xR:TO:=λ_ H Q=>Q none H
noncomputable def Ja(t:TE):TO:=λZ H Q=>t Z H λx H1=>∃i,x=.int i/\Q (some i) H1
theorem Ys{ns:List Int}:∀{us:List Value},Vals (ns.map V.int) us->IntsAre us ns:=by
 induction ns with
 |nil=>intro us r;rw[List.map_nil] at r;cases r;exact .nil
 |cons n ns ih=>
  intro us r;rw[lK] at r;cases r with
  |cons r1 r2=>
   obtain⟨t,e⟩:=r1;subst e;exact .cons n t (ih r2)
section
variable {X:Cx}{e:Expr}{te:TE}{lo hi:Option Expr}{tl th:TO}{pos p2:Pos}
theorem zjH:PO X none xR:=by
 intro ak s Z H Q I h;rw[evalPart_none];exact aN ⟨none,H,I,.none,h⟩
theorem zkn(h:PE X e te):PO X (some e) (Ja te):=by
 intro ak s Z H Q I hw;rw[evalPart_some];refine aU (h ak s Z H _ I hw) λu s1 hx=>fK hx λx H1 I1 r1 q1=>?_;obtain⟨i,rfl,q⟩:=q1;obtain⟨t,rfl⟩:=r1;exact⟨some i,H1,I1,.int i t,q⟩
def xT(X:Cx)(r:V->Option Int->Option Int->Hp->VK->Prop):Prop:=
 ∀(ak:List (Addr×Obj)) (s:Shared) (Z:St) (H:Hp) (x:V) (v vl vu:Value) (lo hi:Option Int) (sl:Addr) (Q:VK),Inv X ak Z H s->RelV x v->s.heap.IsSliceOf sl vl vu .none->IsPart vl lo->IsPart vu hi->r x lo hi H Q->
  ∃T id,typeLookup (.type T) "__getitem__"=pure (some (.builtin id))/\s.TypeIs v T/\wpAny (model X.prog X.w) X.A (getItem v (.ref sl)) (EP X ak Z Q) X.xe s
theorem xT.or{r r':V->Option Int->Option Int->Hp->VK->Prop}(h:xT X r)(h':xT X r'):xT X (λx lo hi H Q=>r x lo hi H Q\/r' x lo hi H Q):=by
 intro ak s Z H x v vl vu lo hi sl Q I rx hs pl pu q;rcases q with q|q
 ·exact h ak s Z H x v vl vu lo hi sl Q I rx hs pl pu q
 ·exact h' ak s Z H x v vl vu lo hi sl Q I rx hs pl pu q
noncomputable def tSl(r:V->Option Int->Option Int->Hp->VK->Prop)(te:TE)(tl th:TO):TE:=λZ H Q=>te Z H λx H1=>tl Z H1 λl H2=>th Z H2 λu H3=>r x l u H3 Q
theorem zhp{r:V->Option Int->Option Int->Hp->VK->Prop}(hr:xT X r)(he:PE X e te)(hl:PO X lo tl)(hu:PO X hi th):PE X (.Subscript e (.Slice lo hi none p2) pos) (tSl r te tl th):=by
 intro ak s Z H Q I h;refine Subscript_ (aU (he ak s Z H _ I h) λv s1 hx=>fK hx λx H1 I1 r1 q1=>?_);refine wpAny_Slice (aU (hl ak s1 Z H1 _ I1 q1) λvl s2 hx=>fK hx λl H2 I2 pl q2=>aU (hu ak s2 Z H2 _ I2 q2) λvu s3 hx=>fK hx λu H3 I3 pu q3=>?_);rw[evalPart_none];refine aN ?_;have I4:Inv X ak Z H3 {s3 with heap:=s3.heap.push {cls:=.type "slice",data:=.fields #[vl,vu,.none]}}:=I3.kept (t':=s3.toks) λb ob q=>cF _ q;obtain⟨T,id,hT,ht,hg⟩:=hr ak {s3 with heap:=s3.heap.push {cls:=.type "slice",data:=.fields #[vl,vu,.none]}} Z H3 x v vl vu l u s3.heap.objs.size Q I4 r1 (Heap.IsSliceOf.new ..) pl pu q3;show wpAny (model X.prog X.w) X.A (subscriptTail e (.Slice lo hi none p2) v (.ref s3.heap.objs.size)) (EP X ak Z Q) X.xe {s3 with heap:=s3.heap.push {cls:=.type "slice",data:=.fields #[vl,vu,.none]}};exact tail_any (ops:=[.ref s3.heap.objs.size,v]) ht hT hg (by with_unfolding_all rfl)
noncomputable def mR(xs:List V)(lo hi:Option Int):List V:=(xs.drop (HT.bM xs.length 0 lo)).take (HT.bM xs.length xs.length hi-HT.bM xs.length 0 lo)
theorem Yt(xs:List V)(lo hi:Option Int):(mR xs lo hi).length<=xs.length:=by
 unfold mR;rw[oZ,wV]
 lia
noncomputable def Ri(K:W.Frag):V->Option Int->Option Int->Hp->VK->Prop:=λx lo hi H Q=>∃a xs,x=.ref a/\gC K H a xs /\
 ¬(HT.bM xs.length 0 lo=0/\HT.bM xs.length xs.length hi=xs.length)/\∀p,H p=none->Q (.ref p) (upd H p (.tup (mR xs lo hi)))
theorem zmJ:xT X (Ri X.K):=by
 intro ak s Z H x v vl vu lo hi sl Q I rx hs pl pu h;obtain⟨a,xs,rfl,hx,hw,q⟩:=h;cases rx;obtain⟨its,r,ht,hz⟩:=I.tuple hx;have hlen:its.toArray.size=xs.length:=by rw[dH];exact r.length.symm
 refine⟨"tuple",_,Fw.lookup,ht.typeIs,?_⟩;refine HT.iD ht hs pl pu (by rw[hlen];exact hw) ?_ (by rw[hlen];exact hz);rw[hlen];refine⟨.ref s.heap.objs.size,_,I.laid (t':=s.toks) (o:=.tup (mR xs lo hi)) (λb ob q=>cF _ q) (bL _) ?_,rfl,q _ (I.hok.fresh (bL _))⟩;exact⟨jH (Yt xs lo hi) hz,_,(r.drop (HT.bM xs.length 0 lo)).take (HT.bM xs.length xs.length hi-HT.bM xs.length 0 lo),IsTup.new _ _⟩
noncomputable def Jc(K:W.Frag):R2:=λx y H Q=>∃a b ns ms,x=.ref a/\y=.ref b/\gC K H a (ns.map V.int)/\gC K H b (ms.map V.int)/\Q (.bl (HT.lexLt ns ms)) H
theorem zmC(hu:X.A.units<cLine):dF X (compareOp .Lt) (Jc X.K):=by
 intro ak s Z H x y v u Q I rx ry h;obtain⟨a,b,ns,ms,rfl,rfl,ha,hb,q⟩:=h;cases rx;cases ry;obtain⟨its,r1,p1,_⟩:=I.tuple ha;obtain⟨its2,r2,p2,_⟩:=I.tuple hb;have i1:IntsAre its.toArray.toList ns:=Ys r1;have i2:IntsAre its2.toArray.toList ms:=Ys r2;exact HT.pB p1 p2 i1 i2 hu ⟨.bl (HT.lexLt ns ms),H,I,rfl,q⟩
theorem Vals.mU{xs:List V}{us:List Value}(r:Vals xs us):us=[]↔xs=[]:=by
 cases r with
 |nil=>simp
 |cons _ _=>simp
end
noncomputable def v8(n:Nat)(i:Int):Option Nat:=if 0<=i then (if i<n then some i.toNat else none) else if -(n:Int)<=i then some (i+n).toNat else none
noncomputable def qy{α:Type}(xs:List α)(i:Int):Option α:=(v8 xs.length i).bind λj=>xs[j]?
theorem Yu{n:Nat}{i:Int}{j:Nat}(h:v8 n i=some j):seqIndex? i n=some j/\j<n/\-(n:Int)<=i/\i<n:=by
 unfold v8 at h;by_cases h0:0<=i
 ·rw[if_pos h0] at h;by_cases h1:i<n
  ·rw[if_pos h1] at h;have e:i.toNat=j:=dJ h;exact⟨by rw[seqIndex_of h0 h1,e],by lia,by lia,h1⟩
  ·rw[if_neg h1] at h;cases h
 ·rw[if_neg h0] at h;by_cases h1 : -(n:Int)<=i
  ·rw[if_pos h1] at h;have e:(i+n).toNat=j:=dJ h;exact⟨by rw[seqIndex_neg gV h1,e],by lia,h1,by lia⟩
  ·rw[if_neg h1] at h;cases h
theorem Rj{α:Type}{xs:List α}{i:Int}{v:α}(h:qy xs i=some v):∃j,seqIndex? i xs.length=some j/\xs[j]?=some v/\j<xs.length/\-(xs.length:Int)<=i/\i<xs.length:=by
 unfold qy at h;cases e:v8 xs.length i with
 |none=>rw[e] at h;cases h
 |some j=>
  rw[e] at h;obtain⟨h1,h2,h3,h4⟩:=Yu e;exact⟨j,h1,h,h2,h3,h4⟩
def qz(b:Expr):Prop:=∀o i,subscripted b false o i=operate [o,i] (getItem o i)
def xU(X:Cx)(r:R2):Prop:=
 ∀(value slice:Expr) (ak:List (Addr×Obj)) (s:Shared) (Z:St) (H:Hp) (x y:V) (v u:Value) (Q:VK),Inv X ak Z H s->RelV x v->RelV y u->r x y H Q->
  subscripted slice false v u=operate [v,u] (getItem v u)->wpAny (model X.prog X.w) X.A (subscriptTail value slice v u) (EP X ak Z Q) X.xe s
def Rm(X:Cx)(id:String)(r:V->List V->Hp->VK->Prop):Prop:=
 ∀(ak:List (Addr×Obj)) (s:Shared) (Z:St) (H:Hp) (x:V) (xs:List V) (v:Value) (us:List Value) (Q:VK),Inv X ak Z H s->RelV x v->Vals xs us->r x xs H Q->
  wpAny (model X.prog X.w) X.A (call (.builtin id) (v::us)) (EP X ak Z Q) X.xe s
section
variable {X:Cx}{a b:Expr}{ta tb:TE}{pos:Pos}
theorem xU.or{r r':R2}(h:xU X r)(h':xU X r'):xU X (λx y H Q=>r x y H Q\/r' x y H Q):=by
 intro value slice ak s Z H x y v u Q I rx ry q hs;rcases q with q|q
 ·exact h value slice ak s Z H x y v u Q I rx ry q hs
 ·exact h' value slice ak s Z H x y v u Q I rx ry q hs
theorem znN{r:R2}(hr:xU X r)(ha:PE X a ta)(hb:PE X b tb)(hs:qz b):PE X (.Subscript a b pos) (NP r ta tb):=by
 intro ak s Z H Q I h;exact Subscript_ (Cy ha hb I h λv u s2 x y H2 I2 rx ry q=>hr a b ak s2 Z H2 x y v u Q I2 rx ry q (hs _ _))
noncomputable def Jd(K:W.Frag):R2:=λx y H Q=>∃p xs i v,x=.ref p/\y=.int i/\cY K H p xs/\qy xs i=some v/\Q v H
noncomputable def Je(K:W.Frag):R2:=λx y H Q=>∃p xs i v,x=.ref p/\y=.int i/\gC K H p xs/\qy xs i=some v/\Q v H
noncomputable def Jf:R2:=λx y H Q=>∃z i c,x=.str z/\y=.int i/\z.length<=sizeLine/\qy z.cps.toList i=some c/\Q (.str ⟨#[c]⟩) H
theorem xV:xU X (Jd X.K):=by
 intro value slice ak s Z H x y v u Q I rx ry h hs;obtain⟨p,xs,i,z,rfl,rfl,hq,he,q⟩:=h;cases rx;obtain⟨t,rfl⟩:=ry;obtain⟨its,r,pl,hz⟩:=I.list hq;obtain⟨j,h1,h2,h3,h4,h5⟩:=Rj he;obtain⟨w,ew,nR⟩:=r.get h2;have hl:=r.length;have hn:=jQ;have fin:EP X ak Z Q w s:=⟨z,H,I,nR,q⟩;by_cases h0:0<=i
 ·have hj:i.toNat=j:=by
   rw[seqIndex_of h0 h5] at h1;exact dJ h1
  exact item_listR pl.isList h0 gV (by rw[hj];simpa using ew) fin hs
 ·have hj:(i+(its.toArray.size:Int)).toNat=j:=by
   rw[seqIndex_neg gV h4] at h1;rw[dH,<-hl];exact dJ h1
  exact subscriptTail_builtinR (x:=w) pl.isList.typeIs slot_list_getitem.lookup
   (wpAny_getItem_list_neg (Q:=λr s'=>r=w/\EP X ak Z Q r s') pl.isList gV (by rw[dH]<;>lia) gV (by rw[hj];simpa using ew) ⟨rfl,fin⟩) hs
theorem CT:xU X (Je X.K):=by
 intro value slice ak s Z H x y v u Q I rx ry h hs;obtain⟨p,xs,i,z,rfl,rfl,hq,he,q⟩:=h;cases rx;obtain⟨t,rfl⟩:=ry;obtain⟨its,r,pl,hz⟩:=I.tuple hq;obtain⟨j,h1,h2,h3,h4,h5⟩:=Rj he;obtain⟨w,ew,nR⟩:=r.get h2;have hl:=r.length;have hn:=jQ;have fin:EP X ak Z Q w s:=⟨z,H,I,nR,q⟩;exact subscriptTail_builtinR (x:=w) pl.typeIs slot_tuple_getitem.lookup
  (getItem_tuple (j:=j) (Q:=λr s'=>r=w/\EP X ak Z Q r s') pl gV gV (by rw[dH,<-hl];exact h1) (by simpa using ew) ⟨rfl,fin⟩) hs
theorem zlx:xU X Jf:=by
 intro value slice ak s Z H x y v u Q I rx ry h hs;obtain⟨z,i,c,rfl,rfl,hz,he,q⟩:=h;obtain⟨t,rfl⟩:=rx;obtain⟨t',rfl⟩:=ry;obtain⟨j,h1,h2,h3,h4,h5⟩:=Rj he;have hl:z.cps.toList.length=z.length:=by simp[Str.length]
 rw[hl] at h1 h4 h5;have hn:=jQ;exact tail_any (typeIs_str s z t) slot_str_getitem.lookup (getItem_str (c:=c) (by
  have e1:decide (i < -(2^63:Int))=false:=fH gV;have e2:decide (i>=2^63)=false:=fH gV;rw[e1,e2,Nb]) (by rw[h1];simpa using h2) ⟨.str ⟨#[c]⟩,H,I.tok _,⟨_,rfl⟩,q⟩) hs
noncomputable def Rn(K:W.Frag):R2:=λx y H Q=>Jd K x y H Q\/Je K x y H Q\/Jf x y H Q
theorem zmA:xU X (Rn X.K):=xV.or (CT.or zlx)
theorem zfl(its:List Value)(n j:Nat)(u:Value):Obj.mapSeq (·.setIfInBounds j u) {cls:=.type "list",data:=.seq its.toArray n}={cls:=.type "list",data:=.seq (its.set j u).toArray n}:=by
 simp[Obj.mapSeq]
theorem Inv.lst{ak:List (Addr×Obj)}{Z:St}{H:Hp}{s:Shared}{p:Addr}{xs:List V}(I:Inv X ak Z H s)(h:H p=some (.lst xs)) :
  ∃(its:List Value) (n:Nat),Vals xs its/\s.heap.get? p=some {cls:=.type "list",data:=.seq its.toArray n}/\xs.length<=sizeLine:=by
 obtain⟨z,its,n,r,e⟩:=I.hok p _ h;exact⟨its,n,r,e,z⟩
theorem Inv.CV{ak:List (Addr×Obj)}{Z:St}{H:Hp}{s:Shared}{p:Addr}{xs ys:List V}{its its':List Value}{n n':Nat}{f:Obj->Obj}(I:Inv X ak Z H s)(h:H p=some (.lst xs))
  (ho:s.heap.get? p=some {cls:=.type "list",data:=.seq its.toArray n}) (hf:f {cls:=.type "list",data:=.seq its.toArray n}={cls:=.type "list",data:=.seq its'.toArray n'}) (r:Vals ys its') (hz:ys.length<=sizeLine) (t:Nat) :
  Inv X ak Z (upd H p (.lst ys)) {s with heap:=s.heap.update p f,toks:=t}:=by
 have e:(s.heap.update p f).get? p=some {cls:=.type "list",data:=.seq its'.toArray n'}:=by
  rw[qe f ho (by rw[hf]<;>rfl),hf]
 refine I.write (x:=p) (e:=p) (by rw[h];trivial) (.inl rfl) (λb u hb q=>(qd _ _ (Ne.symm hb)).trans q) ⟨_,e⟩ ?_;exact⟨hz,its',n',r,e⟩
noncomputable def Jg:V->V->V->Hp->(Hp->Prop)->Prop:=λo i v H Q=>∃p xs k j,o=.ref p/\i=.int k/\H p=some (.lst xs)/\v8 xs.length k=some j/\Q (upd H p (.lst (xs.set j v)))
theorem zhz:Im X Jg:=by
 intro ak s Z H o i v ov iv u Q I ro ri rv h;obtain⟨p,xs,k,j,rfl,rfl,hp,hj,q⟩:=h;cases ro;obtain⟨t,rfl⟩:=ri;obtain⟨its,n,r,ho,hz⟩:=I.lst hp;obtain⟨h1,h2,h3,h4⟩:=Yu hj;have hl:=r.length;have hn:=jQ;have I':Inv X ak Z (upd H p (.lst (xs.set j v))) {s with heap:=s.heap.update p (Obj.mapSeq (·.setIfInBounds j u))}:=
  I.CV hp ho (zfl its n j u) (r.set rv j) (by rw[vQ];exact hz) s.toks
 by_cases h0:0<=k
 ·have hk:k.toNat=j:=by
   rw[seqIndex_of h0 h4] at h1;exact dJ h1
  exact PySem.W.ki_setAt ho h0 gV (by rw[dH,<-hl];exact h4) (by rw[hk];exact⟨_,I',q⟩)
 ·have hk:(k+(its.toArray.size:Int)).toNat=j:=by
   rw[seqIndex_neg gV h3] at h1;rw[dH,<-hl];exact dJ h1
  exact PySem.W.ki_setBack ho gV (by rw[dH,<-hl];exact h3) gV (by rw[hk];exact⟨_,I',q⟩)
theorem zcX(lo hi:Option Int)(n:Nat):(sliceBounds lo hi none n).1=((HT.bM n 0 lo:Nat):Int)/\(sliceBounds lo hi none n).2.1=((HT.bM n n hi:Nat):Int)/\(sliceBounds lo hi none n).2.2=1:=by
 refine⟨?_,?_,rfl⟩
 ·cases lo with
  |none=>simp[sliceBounds,HT.bM]
  |some i=>
   simp only[sliceBounds,HT.bM,Option.getD_none,show (1:Int)>0 by decide,if_true];by_cases h:i<0
   ·simp only[h,if_true]<;>lia
   ·simp only[h,lq]<;>lia
 ·cases hi with
  |none=>simp[sliceBounds,HT.bM]
  |some i=>
   simp only[sliceBounds,HT.bM,Option.getD_none,show (1:Int)>0 by decide,if_true];by_cases h:i<0
   ·simp only[h,if_true]<;>lia
   ·simp only[h,lq]<;>lia
theorem zcI(its:List Value)(lo hi:Option Int):slicePick its.toArray lo hi none=((its.drop (HT.bM its.length 0 lo)).take (HT.bM its.length its.length hi-HT.bM its.length 0 lo)).toArray:=by
 obtain⟨h1,h2,h3⟩:=zcX lo hi its.toArray.size;unfold slicePick;rw[h1,h2,h3];simp only[sliceRange_one,pick_run,dH]<;>rfl
noncomputable def Jh(K:W.Frag):V->Option Int->Option Int->Hp->VK->Prop:=λx lo hi H Q=>∃a xs,x=.ref a/\cY K H a xs/\∀p,H p=none->Q (.ref p) (upd H p (.lst (mR xs lo hi)))
theorem xW:xT X (Jh X.K):=by
 intro ak s Z H x v vl vu lo hi sl Q I rx hs pl pu h;obtain⟨a,xs,rfl,hx,q⟩:=h;cases rx;obtain⟨its,r,ht,hz⟩:=I.list hx;have hlen:=r.length;refine⟨"list",_,slot_list_getitem.lookup,ht.isList.typeIs,?_⟩;refine wpAny_getItem_list_slice ht.isList hs pl pu .none J0 ?_ (by rw[dH]<;>lia);rw[zcI,<-hlen];refine⟨.ref s.heap.objs.size,_,I.laid (t':=s.toks) (o:=.lst (mR xs lo hi)) (λb ob q=>cF _ q) (bL _) ?_,rfl,q _ (I.hok.fresh (bL _))⟩;exact⟨jH (Yt xs lo hi) hz,_,0,(r.drop (HT.bM xs.length 0 lo)).take (HT.bM xs.length xs.length hi-HT.bM xs.length 0 lo),fj _ rfl⟩
theorem zcW:cT X (.builtin "len") (λxs H Q=>∃p ys,xs=[.ref p]/\(cY X.K H p ys\/gC X.K H p ys)/\Q (.int ys.length) H):=by
 intro ak s Z H xs us Q I r h;obtain⟨p,ys,rfl,hq,q⟩:=h;obtain⟨u,rfl,rx⟩:=vals1 r;cases rx;have hn:=jQ;rcases hq with hq|hq
 ·obtain⟨its,r',pl,hz⟩:=I.list hq;have hlen:=r'.length;exact Calls.call_len_list pl.isList (by simp only[dH]<;>lia) ⟨.int ys.length,H,I.tok _,⟨s.toks+1,by rw[dH,hlen]⟩,q⟩
 ·obtain⟨its,r',pl,hz⟩:=I.tuple hq;have hlen:=r'.length;exact len_tuple pl (by simp only[dH]<;>lia) ⟨.int ys.length,H,I.tok _,⟨s.toks+1,by rw[dH,hlen]⟩,q⟩
theorem zdg:cT X (.type "list") (λxs H Q=>∃p ys,xs=[.ref p]/\(cY X.K H p ys\/gC X.K H p ys)/\∀l,H l=none->Q (.ref l) (upd H l (.lst ys))):=by
 intro ak s Z H xs us Q I r h;obtain⟨p,ys,rfl,hq,q⟩:=h;obtain⟨u,rfl,rx⟩:=vals1 r;cases rx;have fin:∀(its:List Value),Vals ys its->ys.length<=sizeLine->∀(h':Heap) (c':Nat),(∀b o',s.heap.get? b=some o'->h'.get? b=some o')->
   h'.get? s.heap.objs.size=some {cls:=.type "list",dict:=none,data:=.seq its.toArray c',slots:=#[]}->EP X ak Z Q (.ref s.heap.objs.size) {s with heap:=h'}:=λits r' hz h' c' kp e=>
  ⟨.ref s.heap.objs.size,_,I.laid (t':=s.toks) kp (bL _) (show aV X.prog X.w _ h' _ (.lst ys) from ⟨hz,its,c',r',e⟩),rfl,q _ (I.hok.fresh (bL _))⟩
 rcases hq with hq|hq
 ·obtain⟨its,r',pl,hz⟩:=I.list hq;have hlen:=r'.length;obtain⟨o,ho,hc,n,hd⟩:=pl.isList;exact call_list_seq p (.inl rfl) ho hc hd (λh' c' kp e=>fin its r' hz h' c' kp e) (by simp only[dH]<;>lia)
 ·obtain⟨its,r',pl,hz⟩:=I.tuple hq;have hlen:=r'.length;obtain⟨o,ho,hc,n,hd⟩:=pl;exact call_list_seq p (.inr rfl) ho hc hd (λh' c' kp e=>fin its r' hz h' c' kp e) (by simp only[dH]<;>lia)
theorem zcA:cT X (.type "tuple") (λxs H Q=>∃p ys,xs=[.ref p]/\((cY X.K H p ys/\∀l,H l=none->Q (.ref l) (upd H l (.tup ys)))\/(gC X.K H p ys/\Q (.ref p) H))):=by
 intro ak s Z H xs us Q I r h;obtain⟨p,ys,rfl,h⟩:=h;obtain⟨u,rfl,rx⟩:=vals1 r;cases rx;rcases h with ⟨hq,q⟩|⟨hq,q⟩
 ·obtain⟨its,r',pl,hz⟩:=I.list hq;have hlen:=r'.length;refine call_tuple_list pl.isList (λh' kp=>?_) (by simp only[dH]<;>lia);have I1:Inv X ak Z H {s with heap:=h'}:=I.kept (t':=s.toks) kp;have I2:Inv X ak Z (upd H h'.objs.size (.tup ys)) {s with heap:=h'.push {cls:=.type "tuple",data:=.seq its.toArray}}:=
   I1.laid (t':=s.toks) (λb o e=>cF _ e) (bL _) (show aV X.prog X.w _ _ _ (.tup ys) from ⟨hz,its,r',IsTup.new _ _⟩)
  exact⟨.ref h'.objs.size,_,I2,rfl,q _ (I1.hok.fresh (bL _))⟩
 ·obtain⟨its,r',pl,hz⟩:=I.tuple hq;exact call_tuple_same pl ⟨.ref p,H,I,rfl,q⟩
def Ro(K:W.Frag)(T:String)(x:V)(H:Hp):Prop:=match x with
 |.str _=>T="str"
 |.int _=>T="int"
 |.ref p=>(T="list"/\∃xs,cY K H p xs)\/(T="tuple"/\∃o,K.lookup p=some o/\o.cls=.type "tuple"/\o.dict=none) \/
   (T="dict"/\((∃kvs,H p=some (.dK kvs))\/∃kvs,H p=some (.dT kvs)))\/(T="set"/\∃S n,H p=some (.set S n))
 |_=>False
theorem zkY{ak:List (Addr×Obj)}{Z:St}{H:Hp}{s:Shared}{T:String}{x:V}{v:Value}(I:Inv X ak Z H s)(r:RelV x v)(ty:Ro X.K T x H) :
  s.TypeIs v T/\∀a,v=.ref a->∃ob,s.heap.get? a=some ob/\ob.dict=none:=by
 cases x with
 |str z=>
  obtain⟨t,rfl⟩:=r;cases (show T="str" from ty);exact⟨typeIs_str s z t,λ_ e=>nomatch e⟩
 |int i=>
  obtain⟨t,rfl⟩:=r;cases (show T="int" from ty);exact⟨typeIs_int s i t,λ_ e=>nomatch e⟩
 |ref p=>
  cases r;rcases ty with ⟨rfl,xs,hq⟩|⟨rfl,o,hk,hc,hd⟩|⟨rfl,hk⟩|⟨rfl,S,n,hk⟩
  ·obtain⟨its,_,pl,_⟩:=I.list hq;refine⟨pl.isList.typeIs,λa e=>?_⟩;cases e;obtain⟨o,n,e,c,hd,_⟩:=pl;exact⟨o,e,hd⟩
  ·refine⟨⟨o,I.xG p o hk,hc⟩,λa e=>?_⟩;cases e;exact⟨o,I.xG _ o hk,hd⟩
  ·have z:∃o,s.heap.get? p=some o/\o.ExactDict:=by
    rcases hk with ⟨kvs,hk⟩|⟨kvs,hk⟩
    ·obtain⟨_,_,_,_,o,_,_,e,ex,_⟩:=I.hok p _ hk;exact⟨o,e,ex⟩
    ·obtain⟨_,_,_,_,o,_,_,e,ex,_⟩:=I.hok p _ hk;exact⟨o,e,ex⟩
   obtain⟨o,e,ex⟩:=z;refine⟨⟨o,e,ex.1⟩,λa e2=>?_⟩;cases e2;exact⟨o,e,ex.2.1⟩
  ·obtain⟨o,_,_,_,e,ex,_⟩:=I.hok p _ hk;refine⟨⟨o,e,ex.1⟩,λa e2=>?_⟩;cases e2;exact⟨o,e,ex.2.1⟩
 |_=>exact False.elim ty
noncomputable def tBM(K:W.Frag)(T:String)(r:V->List V->Hp->VK->Prop)(to:TE)(t:TA):TE:=λZ H Q=>to Z H λx H1=>Ro K T x H1/\t Z H1 λxs H2=>r x xs H2 Q
variable {o e:Expr}{es:List Expr}{to:TE}{t:TA}{name:Str}{apos cpos:Pos}{T id:String}{r:V->List V->Hp->VK->Prop}
theorem Yv(pa:PlainAttrs T)(slot:Slot T name id)(Rq:typeOf (.builtin id)=pure (.type "method_descriptor"))(hm:Rm X id r)(ho:PE X o to)(ha:PA X (e::es) t)
  (iG:attributeBase o name X.env (eval o X.env)=eval o X.env:=by rfl)
  (pD:((backTo cpos (starEach (e::es) X.env)).all (λx=>!x.1)&&(backToKw cpos (keywordEach [] X.env)).all (λx=>x.1.isSome)
  &&decide ((e::es).length+([]:List Keyword).length+(if ([]:List Keyword).isEmpty then 0 else 1)<30))=true:=by rfl)
  (iH:(apos.endLine==cpos.line)=true:=by rfl) (hs:starEach (e::es) X.env=(false,eval e X.env)::starEach es X.env:=by rfl) (fM:(backTo cpos (starEach es X.env)).any (·.1)=false:=by rfl) :
  PE X (.Call (.Attribute o name apos) (e::es) [] cpos) (tBM X.K T r to t):=by
 intro ak s Z H Q I h;refine wpAny_Call_method_late iG pD iH rfl (aU (ho ak s Z H _ I h) λv s1 hz=>?_);obtain⟨x,H1,I1,r1,ty,q1⟩:=hz;obtain⟨h1,h2⟩:=zkY I1 r1 ty;refine⟨T,id,pa,slot,Rq,h1,h2,?_⟩;have hA:=ha cpos ak s1 Z H1 _ I1 q1;rw[hs] at hA ⊢;refine Calls.callWith_builtin (by show (false||(backTo cpos (starEach es X.env)).any (·.1))=false;rw[fM]<;>rfl) (Calls.evalArgs_plain ?_);exact aU hA λus s2 hx=>fK hx λvs H2 I2 r2 q2=>hm ak s2 Z H2 x vs v us Q I2 r1 r2 q2
end
def MtM(X:Cx)(id:String)(r:V->List V->Hp->VK->Prop):Prop:=
 ∀(ak:List (Addr×Obj)) (s:Shared) (Z:St) (H:Hp) (x:V) (xs:List V) (v:Value) (us:List Value) (Q:VK),Inv X ak Z H s->RelV x v->Vals xs us->r x xs H Q->
  wpAny (model X.prog X.w) X.A (call (.builtin id) (v::us)) (EP X ak Z Q) X.xe s
theorem Vals.one{x:V}{us:List Value}(h:Vals [x] us):∃u,us=[u]/\RelV x u:=by
 cases h with
 |cons r t=>cases t;exact⟨_,rfl,r⟩
theorem Vals.two{x y:V}{us:List Value}(h:Vals [x,y] us):∃u v,us=[u,v]/\RelV x u/\RelV y v:=by
 cases h with
 |cons r t=>
  obtain⟨v,rfl,q⟩:=Vals.one t;exact⟨_,_,rfl,r,q⟩
section
variable {X:Cx}{ak:List (Addr×Obj)}{Z:St}{H:Hp}{s:Shared}{l b:Addr}{xs ys zs:List V}
theorem Inv.Rr{its its':List Value}{n:Nat}{f:Array Value->Array Value}{t':Nat}(I:Inv X ak Z H s)(hH:H l=some (.lst xs))
  (e:s.heap.get? l=some {cls:=.type "list",data:=.seq its.toArray n}) (hf:f its.toArray=its'.toArray) (hv:Vals ys its') (hz:ys.length<=sizeLine) :
  Inv X ak Z (upd H l (.lst ys)) {s with heap:=s.heap.update l (Obj.mapSeq f),toks:=t'}:=by
 have q:=PySem.IsL.update e f;rw[hf] at q;refine I.write (x:=l) (e:=l) (by rw[hH];exact trivial) (.inl rfl) (λb' u hb hu=>(qd s.heap (Obj.mapSeq f) (Ne.symm hb)).trans hu) ⟨_,q⟩ ?_;exact⟨hz,its',_,hv,q⟩
theorem Inv.Rt{its:List Value}{t':Nat}(I:Inv X ak Z H s)(hv:Vals ys its)(hz:ys.length<=sizeLine) :
  Inv X ak Z (upd H s.heap.objs.size (.lst ys)) {s with heap:=s.heap.push {cls:=.type "list",data:=.seq its.toArray},toks:=t'}:=
 I.laid (λ_ _ q=>cF _ q) (bL _) ⟨hz,its,0,hv,fj _ rfl⟩
theorem Inv.fresh(I:Inv X ak Z H s):H s.heap.objs.size=none:=I.hok.fresh (bL _)
theorem Inv.Ru(I:Inv X ak Z H s)(hH:H l=some (.lst xs)):xs.length<=sizeLine/\∃(its:List Value) (n:Nat),Vals xs its/\xs.length=its.length/\s.heap.get? l=some {cls:=.type "list",data:=.seq its.toArray n}:=by
 obtain⟨z,its,n,r,e⟩:=I.hok l _ hH;exact⟨z,its,n,r,r.length,e⟩
end
section
variable {X:Cx}
noncomputable def xX:V->List V->Hp->VK->Prop:=λx vs H Q=>∃l xs y,x=.ref l/\vs=[y]/\H l=some (.lst xs)/\xs.length<sizeLine/\Q .non (upd H l (.lst (xs++[y])))
theorem Rw:MtM X "list.append" xX:=by
 intro ak s Z H x vs v us Q I rx rv h;obtain⟨l,xs,y,rfl,rfl,hH,hz,q⟩:=h;cases rx;obtain⟨u,rfl,ru⟩:=rv.one;obtain⟨z,its,n,r,hl,e⟩:=I.Ru hH;refine call_meets F.slot_list_append ⟨_,e,rfl⟩ F.entry_list_append (F.args_list_append_2 _ _) (PySem.list_append l its.toArray n u (by rw[dH];lia)) ⟨e,?_⟩;refine⟨.non,_,I.Rr (its':=its++[u]) hH e J0 (r.append (.cons ru .nil)) ?_,rfl,q⟩;rw[h_,List.length_singleton]
 lia
end
section
variable {prog:Program}{w:World}{A:Around}{E:Value->Shared->Prop}{s:Shared}
set_option maxRecDepth 100000 in
end
end L2
namespace Yw
open PySem PySem.W PySem.Calls PyProof.Rows
theorem zbX{P:Params}{h:Heap}:∀(ns:List Int) (vs:List Value),WellAll P h vs (ns.map WData.int)->IntsAre vs ns:=by
 intro ns
 induction ns with
 |nil=>
  intro vs w;rw[List.map_nil] at w;cases w;exact .nil
 |cons n ns ih=>
  intro vs w;rw[lK] at w;cases w with
  |cons a b=>
   cases a;exact .cons _ _ (ih _ b)
theorem zfq{l:OpenLaw}{n:Nat}(hn:l.most=some n){P:Params}{h:Heap}{args:List WData}{vals:List Value}
  (hpre:l.row.toRowW.claim.pre args=true) (v9:WellAll P h vals args) :
  ∃a vs ns,vals=[Value.ref a]/\args=[WData.list (ns.map WData.int)]/\h.get? a=some {cls:=.type "list",data:=.seq vs.toArray}/\IntsAre vs ns/\ns.length<=n:=by
 have hsh:WShape.hasAll [] args [.list .int]=true:=(pre_splitW hpre).1;have hc:l.pre.holds [] {args:=args}=true:=(pre_splitW hpre).2;obtain⟨d,r,rfl,h1,h2⟩:=hasAllW_cons hsh;obtain rfl:=hasAllW_nil h2;obtain⟨xs,rfl,h3⟩:=hasW_list h1;obtain⟨ns,rfl⟩:=items_int h3;have hlen:ns.length<=n:=by
  unfold OpenLaw.pre at hc;have h4:(WTm.not (.lt (.lit (.int (n:Int))) (.len (.arg 0)))).holds [] {args:=[.list (ns.map .int)]}=true:=by
   have h4:=(holds_andW hc).1;rw[hn] at h4;exact h4
  have h5:=condW_of h4 (w_not (w_lt w_lit (w_len_list (w_arg rfl))));rw[aW] at h5;refine MN λq=>?_;have q':(n:Int)<((ns.length:Nat):Int):=by lia
  first
   |(rw[dM q'] at h5;exact absurd h5 Dc)
   |(simp at h5;lia)
 cases v9 with
 |cons w1 w2=>
  cases w2;cases w1 with
  |list ho uD=>exact⟨_,_,ns,rfl,rfl,ho,zbX ns _ uD,hlen⟩
theorem zfw(l:OpenLaw)(args:List WData):l.row.toRowW.claim.post args (.bool true) args=true:=
 postW_of (r:=l.row.toRowW) (X:=(true==true))
  (show WShape.has [] (.bool true) .bool=true by first|rfl|decide|simp[WShape.has,WShape.arms,WShape.armsAll])
  (show (WTm.eq .res (.lit (.bool true))).value [] {args:=args,res:=some (.bool true),after:=args}=some (.bool (true==true)) from w_eq_bool (w_res rfl) w_lit) rfl
theorem nU{l:OpenLaw}{n:Nat}{q:Program}{loose:List Str}{XP:(Str->Option Value)->Heap->Prop}{YP:World->Heap->Prop}{d:DefRec}
  (hn:l.most=some n) (Rx:d.params.defaults=[])
  (call:∀(w:World) (s₀ s₁:Shared) (mg mb:Str->Option Value) (fa:Addr) (o:Obj) (pm cd doc:Value) (a:Addr) (vs:List Value) (ns:List Int),
   Ground q loose [] XP w s₀ mg mb s₁.heap->YP w s₁.heap->
   s₁.heap.get? fa=some o->o.data=.func (docDef d.name d.params d.body d.scope pm cd doc)->s₁.heap.CodeRec cd d.name->mg d.name=some (.ref fa)->
   s₁.heap.get? a=some {cls:=.type "list",data:=.seq vs.toArray}->IntsAre vs ns->ns.length<=n->s₁.gens=#[]->
   codeAny (model l.prog w) callerA (.call (.ref fa) ⟨[.ref a],[]⟩) (λr s'=>r=.ok (.ret (.bool true))/\OldK s₁.heap s'.heap/\s'.os=s₁.os/\AllBare s'.gens) s₁) :
  WalkO q loose XP YP l.row.toRowW d [] (λf vs=>PySem.call f vs):=by
 intro w s₀ s₁ mg mb G Y fa o pm cd doc dV kV ho hd oJ hD hmg hg args vals as hpre Ji hrd v9 hlo;obtain rfl:dV=.none:=Dflts.none hD Rx;obtain rfl:kV=.none:=Dflts.noKw hD;obtain⟨a,vs,ns,rfl,rfl,CW,hints,hlen⟩:=zfq hn hpre v9;refine enter_call (FZ (call w s₀ s₁ mg mb fa o pm cd doc a vs ns G Y ho (fd_plain hd) oJ hmg CW hints hlen hg) λr s' hq=>?_);obtain⟨rfl,h2,h3,h4⟩:=hq;exact⟨.inl ⟨.bool true,.bool true,[],rfl,λ_=>rfl,.bool true,zfw l _,λ_=>⟨List.Pairwise.nil,λ_ hm=>(nomatch hm)⟩⟩,h2,h3,h4⟩
end Yw
namespace L2
open PySem PySem.Spec PyProof.Rows
theorem Yx:∀{vs:List Value} {ns:List Int},IntsAre vs ns->Vals (ns.map V.int) vs
 |_,_,.nil=>.nil
 |_,_,.cons n t h=>.cons ⟨t,rfl⟩ (Yx h)
def Only(H:Hp):Prop:=∀b,H b=none\/∃o xs,H b=some (.vX o (.lst xs))
theorem zho{P:Program}{w:World}{K:W.Frag}{mg mb:Str->Option Value}{CX:tG}{k:Nat}{fa a:Addr}{fd:FuncData}{x:Str}{sp:Sp}{s₁:Shared}{vs:List Value}{ns:List Int}
  (KX:K.In s₁.heap) (Yy:s₁.heap.Ns mainGlobals mg) (hb:s₁.heap.Ns builtinsNs mb) (hbb:∀x:Str,x≠"__name__"->mb x=bootBuiltins x) (Ry:s₁.heap.NoLimit) (hg:s₁.gens=#[])
  (ha:s₁.heap.get? a=some {cls:=.type "list",data:=.seq vs.toArray}) (hi:IntsAre vs ns) (hl:ns.length<=sizeLine) (hr:cL k callerA)
  (F:∀base:Heap,K.In base->base.Ns mainGlobals mg->fD P w K mg base CX true k fa fd [x] sp) (Jj:∀(s:Shared) (u:Value),BindsTo s fd ⟨[u],[]⟩ [(x,u)])
  (NQ:∀H:Hp,Only H->cY K H a (ns.map V.int)->sp [.ref a] H (λv _=>v=.bl true) λ_ _ _=>False)
  (hCX:∀H e s',CX [] H s₁ (λ_ _ _=>False) e s'->False) :
  codeAny (model P w) callerA (.call (.ref fa) ⟨[.ref a],[]⟩) (λr s'=>r=.ok (.ret (.bool true))/\OldK s₁.heap s'.heap/\s'.os=s₁.os/\AllBare s'.gens) s₁:=by
 have rv:=Yx hi;have lenV:=hi.length;have core:∀H:Hp,Only H->cY K H a (ns.map V.int)->iu P w H s₁.heap->(∀b,H b≠none->b=a)->(H a≠none->K.lookup a=none)->
   codeAny (model P w) callerA (.call (.ref fa) ⟨[.ref a],[]⟩) (λr s'=>r=.ok (.ret (.bool true))/\OldK s₁.heap s'.heap/\s'.os=s₁.os/\AllBare s'.gens) s₁:=by
  intro H hO hS hok hA hK;have qC:∀{b:Addr} {o:Obj},s₁.heap.get? b=some o->H b=none->(mK s₁.heap H).get? b=some o:=λe n=>zix e n;have Iz:∀{b:Addr} {o:Obj} {es:Array DictEntry} {ep:Nat},s₁.heap.get? b=some o->o.data=.dict es ep->H b=none:=λ{b o es ep} e d=>by
   cases q:H b with
   |none=>rfl
   |some u=>
    have e':b=a:=hA b (by rw[q];simp);subst e';rw[ha] at e;cases e;have d':Data.seq vs.toArray _=Data.dict es ep:=d;cases d'
  have N6:∀{b:Addr} {m:Str->Option Value},s₁.heap.Ns b m->(mK s₁.heap H).Ns b m:=λ{b m} ⟨o,es,ep,e,d,r⟩=>⟨o,es,ep,qC e (Iz e d),d,r⟩;have Yz:K.In (mK s₁.heap H):=λb o e=>qC (KX b o e) (by
   cases q:H b with
   |none=>rfl
   |some u=>
    have e':b=a:=hA b (by rw[q];simp);subst e';rw[hK (by rw[q];simp)] at e;cases e)
  have hM:Mod K mg (mK s₁.heap H):=⟨Yz,N6 Yy,⟨mb,N6 hb,hbb⟩,let ⟨mc,h1,h2⟩:=Ry;⟨mc,N6 h1,h2⟩⟩;have e0:xP P w K mg (mK s₁.heap H) callerA [] s₁ H:=⟨rfl,hM,λb o e=>zi5 e,Nat.le_of_eq (zhb _ _),trivial,λb hb=>absurd (show b∈([]:List Addr) from hb) J0,hok,.of_eq hg⟩;refine FZ ((F _ Yz (N6 Yy)).run callerA [] s₁ H ⟨[.ref a],[]⟩ [.ref a] [.ref a] _ _ (λ_=>rfl) hr e0 (Jj s₁ (.ref a)) (.cons rfl .nil) (NQ H hO hS)) λr s' h=>?_;cases r with
  |error e=>exact(hCX H e s' h).elim
  |ok fl=>
   cases fl with
   |next=>exact False.elim h
   |brk=>exact False.elim h
   |cont=>exact False.elim h
   |ret u=>
    obtain⟨v,H',os,bare,un,RB,r',q⟩:=h;have q':v=.bl true:=q;subst q';obtain rfl:u=Value.bool true:=r';refine⟨rfl,OldK.of_keep λb o e=>?_,os,bare⟩;cases q:H b with
    |none=>exact un.keep b o e q (by intro z;exact absurd (show b∈([]:List Addr) from z) J0) J0
    |some u=>
     rcases hO b with z|⟨ob,xs,z⟩
     ·rw[q] at z;cases z
     ·have z2:=un.lu b ob _ z;obtain⟨e1,_⟩:=hok b _ z;obtain⟨e2,_⟩:=RB b _ z2;rw[e] at e1;cases e1;exact e2
 cases hk:K.lookup a with
 |some o=>
  have e:=KX a o hk;rw[ha] at e;cases e;refine core (λ_=>none) (λ_=>.inl rfl) (.inr ⟨_,vs.toArray,_,hk,rfl,rfl,rfl,by rw[dH,lenV];exact hl,by simpa using rv⟩) (λb u z=>by have z':(none:Option HO)=some u:=z;cases z') (λb z=>absurd rfl z) λz=>absurd rfl z
 |none=>
  refine core (λb=>if b=a then some (.vX {cls:=.type "list",data:=.seq vs.toArray} (.lst (ns.map V.int))) else none) (λb=>?_) (.inl (.inr ⟨{cls:=.type "list",data:=.seq vs.toArray},if_pos rfl⟩)) (λb u z=>?_) (λb z=>?_) λ_=>hk
  ·by_cases hb:b=a
   ·exact .inr ⟨_,_,if_pos hb⟩
   ·exact .inl (if_neg hb)
  ·by_cases hb:b=a
   ·have z':=(if_pos hb).symm.trans z;cases z';subst hb;exact⟨ha,by rw[aW];exact hl,vs,_,rv,ha⟩
   ·have z':=(if_neg hb).symm.trans z;cases z'
  ·by_cases hb:b=a
   ·exact hb
   ·exact absurd (if_neg hb) z
def RD(h0:Heap)(H:Hp)(h:Heap)(e:Addr)(hd:Value):Prop:=
 hd=.none\/∃T oT ts,hd=.ref T/\h0.get? T=none/\H T=none/\T≠e/\h.get? T=some oT/\oT.data=.fields ts/\ts[3]?=some .none
structure Exc(h0:Heap)(H:Hp)(h:Heap)(e C:Addr)(dx:Option Addr):Prop where
 new:h0.get? e=none
 un:H e=none
 ob:∃oe vs hd,h.get? e=some oe/\oe.cls=.ref C/\oe.dict=dx/\oe.data=.fields vs/\vs[1]?=some hd/\RD h0 H h e hd
structure RJ(h0:Heap)(H:Hp)(fr:List Addr)(h h':Heap)(ch:List Addr):Prop where
 rec_:∀b∈ch,h0.get? b=none/\H b=none/\∃o vs,h.get? b=some o/\o.data=.fields vs
 keep:∀b o,h.get? b=some o->b∉fr->b∉ch->h'.get? b=some o
 slot:∀b o,h.get? b=some o->b∈fr->∃sl,h'.get? b=some {o with slots:=sl}
 there:∀b o,h.get? b=some o->∃o',h'.get? b=some o'
noncomputable def uE(head:Value)(L:Addr)(pl:List Value):Obj:=
 {cls:=.type "traceback",dict:=none,data:=.fields ([head,.ref L,.none,rawInt L,.none]++(if pl.isEmpty then List.replicate 6 Value.none else pl)).toArray}
theorem YB(o:Obj)(f:Array Value->Array Value):(o.mapFields f).dict=o.dict:=by
 obtain⟨c,d,dt,sl⟩:=o;cases dt<;>rfl
theorem YC(o:Obj)(f:Array Value->Array Value):(o.mapFields f).cls=o.cls:=by
 obtain⟨c,d,dt,sl⟩:=o;cases dt<;>rfl
section
variable {M:Model}{A:Around}{E:Value->Shared->Prop}{s:Shared}{base h0:Heap}{env:Env}{outer:List Env}{L e C:Addr}{dx:Option Addr}{H:Hp}{Q:Unit->Shared->Prop}
theorem YD(qD:A.frames=some (env::outer))(hl:s.heap.FunFrames base (env::outer))(hf:env.frame=some L)
  (he:s.heap.get? e=some oe) (hd:oe.data=.fields vs) (iw:1<vs.size)
  (k:∀h' T oT ts,s.heap.objs.size<=T->(∀b o,s.heap.get? b=some o->b∉frs (env::outer)->b≠e->h'.get? b=some o)->(∀b o,s.heap.get? b=some o->b∈frs (env::outer)->∃sl,h'.get? b=some {o with slots:=sl})->
   h'.get? e=some (oe.mapFields (·.setIfInBounds 1 (.ref T)))->h'.get? T=some oT->oT.data=.fields ts->3<ts.size->ts[3]?=some (rawInt L)->Q () {s with heap:=h'}) :
  wpAny M A (do let a <-frameOf env;let pl <-entryPlaceOf L hn;let b <-EntryCells.newEntry head a .none (rawInt L) .none pl;setField (.ref e) 1 b) Q E s:=by
 have Jk:e∉frs (env::outer):=λhm=>by
  obtain⟨_,o,ho,hx⟩:=hl.mem hm;rw[he] at ho;cases ho;exact hx vs hd
 refine au (wpAny_frameOf_fun qD hl hf λh₁ sl₁=>?_);refine au (wpAny_entryPlaceOf λpl bR=>?_);unfold EntryCells.newEntry newFields;refine au (sX ?_ (bR.sizeOk5 _ _ _ _ _));have e1:h₁.get? e=some oe:=(sl₁.2.1 e Jk).trans he;have e2:(h₁.push (uE head L pl)).get? e=some oe:=cF _ e1;refine zE e2 hd iw ?_;have ne:h₁.objs.size≠e:=fB (bC e1);have d3:=zx hd (·.setIfInBounds 1 (Value.ref h₁.objs.size));have kp:∀b o,h₁.get? b=some o->b≠e->((h₁.push (uE head L pl)).update e (Obj.mapFields (·.setIfInBounds 1 (Value.ref h₁.objs.size)))).get? b=some o:=λb o q n=>by
  rw[qd _ _ n.symm];exact cF _ q
 refine k _ h₁.objs.size (uE head L pl) _ (by rw[sl₁.1];exact bL _) (λb o q n1 n2=>kp b o ((sl₁.2.1 b n1).trans q) n2) (λb o q m=>?_) (qe _ e2 (Mq d3)) ?_ rfl ?_ ?_
 ·obtain⟨sl,z⟩:=sl₁.2.2 b o q;exact⟨sl,kp b _ z λy=>Jk (y▸m)⟩
 ·rw[qd _ _ ne.symm];exact fj _ rfl
 ·simp only[dH,h_,fu,wX]<;>lia
 ·first
   |(simp;done)
   |(rcases bR with rfl|⟨_,_,_,_,_,_,_,rfl⟩<;>simp)
theorem zhq(qD:A.frames=some (env::outer))(hl:s.heap.FunFrames base (env::outer))(hf:env.frame=some L)(x:Exc h0 H s.heap e C dx)
  (k:∀h' T oT oe ts vs ch,RJ h0 H (frs (env::outer)) s.heap h' ch->s.heap.objs.size<=T->h'.get? e=some oe->oe.cls=.ref C->oe.dict=dx->oe.data=.fields vs->vs[1]?=some (.ref T)->h'.get? T=some oT->oT.data=.fields ts->
   3<ts.size->ts[3]?=some (rawInt L)->Q () {s with heap:=h'}):wpAny M A (noteFrame (.ref e) env) Q E s:=by
 obtain⟨oe,vs,hd,he,hc,N7,wg,h1,tb⟩:=x.ob;have iw:1<vs.size:=(Qf.mp h1).1;have Jk:∀b o ws,s.heap.get? b=some o->o.data=.fields ws->b∉frs (env::outer):=λb o ws q d hm=>by
  obtain⟨_,o',ho,hx⟩:=hl.mem hm;rw[q] at ho;cases ho;exact hx ws d
 unfold noteFrame;simp only[hf];refine au (jA he wg h1 ?_);rcases tb with rfl|⟨T,oT,ts,rfl,nT,uT,neT,gT,dT,h3⟩
 ·rw[if_neg Dc];refine YD qD hl hf he wg iw λh' T oT ts lt kp sl ge gT dT z3 z4=>?_;refine k h' T oT _ ts _ [e] ⟨λb hb=>?_,λb o q n1 n2=>kp b o q n1 λz=>n2 (by rw[z];exact .head _),sl,λb o q=>?_⟩ lt ge ((YC _ _).trans hc) ((YB _ _).trans N7) (zx wg _) (by simp[iw]) gT dT z3 z4
  ·obtain rfl:b=e:=by simpa using hb
   exact⟨x.new,x.un,oe,vs,he,wg⟩
  ·by_cases z:b=e
   ·subst z;exact⟨_,ge⟩
   ·by_cases m:b∈frs (env::outer)
    ·obtain⟨w,q'⟩:=sl b o q m;exact⟨_,q'⟩
    ·exact⟨o,kp b o q m z⟩
 ·rw[if_pos (show (Value.ref T != Value.none)=true from by simp)];refine au (jA gT dT h3 ?_);rw[if_neg (show ¬((Value.none==rawInt L)=true) from by simp[rawInt])];have z3:3<ts.size:=(Qf.mp h3).1;refine au (zE gT dT z3 ?_);have oth:∀b,b≠T->(s.heap.update T (Obj.mapFields (·.setIfInBounds 3 Value.none))).get? b=s.heap.get? b:=λb n=>qd _ _ n.symm;have hl':(s.heap.update T (Obj.mapFields (·.setIfInBounds 3 Value.none))).FunFrames base (env::outer):=hl.of_keeps λb o q nd=>⟨o,(oth b λz=>by subst z;rw[gT] at q;cases q;exact nd ts dT).trans q,rfl⟩;have sT:(s.heap.update T (Obj.mapFields (·.setIfInBounds 3 Value.none))).get? T=some (oT.mapFields (·.setIfInBounds 3 Value.none)):=qe _ gT (Mq (zx dT _));refine YD qD hl' hf ((oth e neT.symm).trans he) wg iw λh' T' oT' ts' lt kp sl ge gT' dT' z3' z4'=>?_;have lt':s.heap.objs.size<=T':=by
   have:=lt;simp only[Heap.size_after_update] at this;exact this
  refine k h' T' oT' _ ts' _ [e,T] ⟨λb hb=>?_,λb o q n1 n2=>kp b o ((oth b λz=>n2 (by simp[z])).trans q) n1 λz=>n2 (by simp[z]),λb o q m=>?_,λb o q=>?_⟩ lt' ge ((YC _ _).trans hc) ((YB _ _).trans N7) (zx wg _) (by simp[iw]) gT' dT' z3' z4'
  ·have hb':b=e\/b=T:=by simpa using hb
   rcases hb' with rfl|rfl
   ·exact⟨x.new,x.un,oe,vs,he,wg⟩
   ·exact⟨nT,uT,oT,ts,gT,dT⟩
  ·exact sl b o ((oth b λz=>by subst z;exact Jk b o ts q (by rw[gT] at q;cases q;exact dT) m).trans q) m
  ·by_cases z:b=e
   ·subst z;exact⟨_,ge⟩
   ·by_cases y:b=T
    ·subst y;exact⟨_,kp b _ sT (Jk b oT ts gT dT) z⟩
    ·by_cases m:b∈frs (env::outer)
     ·obtain⟨w,q'⟩:=sl b o ((oth b y).trans q) m;exact⟨_,q'⟩
     ·exact⟨o,kp b o ((oth b y).trans q) m z⟩
theorem zhs(he:s.heap.get? e=some oe)(hd:oe.data=.fields vs)(h1:vs[1]?=some (.ref T))(gT:s.heap.get? T=some oT)(dT:oT.data=.fields ts)(z3:3<ts.size)
  (k:∀h',(∀b o,b≠T->s.heap.get? b=some o->h'.get? b=some o)->h'.get? T=some (oT.mapFields (·.setIfInBounds 3 Value.none))->Q () {s with heap:=h'}):wpAny M A (setFlight (.ref e) none) Q E s:=by
 unfold setFlight;refine au (jA he hd h1 ?_);rw[if_pos (show (Value.ref T != Value.none)=true from by simp)];exact zE gT dT z3 (k _ (λb o n q=>(qd _ _ n.symm).trans q) (qe _ gT (Mq (zx dT _))))
theorem zgb(qD:A.frames=some (env::outer))(hl:s.heap.FunFrames base (env::outer))(hf:env.frame=some L)(x:Exc h0 H s.heap e C dx)
  (lO:∀b,s.heap.objs.size<=b->H b=none) (h0s:∀b o,h0.get? b=some o->∃o',s.heap.get? b=some o')
  (k:∀h' ch,RJ h0 H (frs (env::outer)) s.heap h' ch->Exc h0 H h' e C dx->Q () {s with heap:=h'}) :
  wpAny M A (noteFrame (.ref e) env) (λ_ s₁=>wpAny M A (setFlight (.ref e) none) Q E s₁) E s:=by
 have ele:∃o,s.heap.get? e=some o:=let ⟨oe,_,_,he,_⟩:=x.ob;⟨oe,he⟩;refine zhq qD hl hf x λh' T oT oe ts vs ch t lt ge hc N7 wg h1 gT dT z3 z4=>?_;have neT:T≠e:=λz=>by
  obtain⟨o,q⟩:=ele;exact absurd (dh (bC q) (z▸lt)) (mD _)
 refine zhs (s:={s with heap:=h'}) ge wg h1 gT dT z3 λh2 kp gT2=>?_;have nT:∀b o,s.heap.get? b=some o->b≠T:=λb o q z=>absurd (dh (bC q) (z▸lt)) (mD _);refine k h2 ch ⟨t.rec_,λb o q n1 n2=>kp b o (nT b o q) (t.keep b o q n1 n2),λb o q m=>?_,λb o q=>?_⟩ ⟨x.new,x.un,oe,vs,.ref T,kp e oe neT.symm ge,hc,N7,wg,h1,.inr ⟨T,_,_,rfl,?_,lO T lt,neT,gT2,zx dT _,by simp[z3]⟩⟩
 ·obtain⟨sl,q'⟩:=t.slot b o q m;exact⟨sl,kp b _ (nT b o q) q'⟩
 ·obtain⟨o',q'⟩:=t.there b o q;exact⟨o',kp b o' (nT b o q) q'⟩
 ·cases z:h0.get? T with
  |none=>rfl
  |some o=>
   obtain⟨o',q⟩:=h0s T o z;exact absurd rfl (nT T o' q)
end
noncomputable abbrev XS:=St->Value->Option Addr->Hp->Prop
def Sub(h0 h:Heap):Prop:=∀b o,h0.get? b=some o->∃o',h.get? b=some o'
theorem Sub.none{h0 h:Heap}(x:Sub h0 h){b:Addr}(e:h.get? b=none):h0.get? b=none:=by
 cases q:h0.get? b with
 |none=>rfl
 |some o=>
  obtain⟨o',z⟩:=x b o q;rw[e] at z;cases z
theorem Exc.older{h0 h1:Heap}{H:Hp}{h:Heap}{e C:Addr}{dx:Option Addr}(x:Exc h1 H h e C dx)(y:Sub h0 h1):Exc h0 H h e C dx:=by
 obtain⟨oe,vs,hd,a,b,c,d,f,tb⟩:=x.ob;refine⟨y.none x.new,x.un,oe,vs,hd,a,b,c,d,f,?_⟩;rcases tb with z|⟨T,oT,ts,z1,z2,z3⟩
 ·exact .inl z
 ·exact .inr ⟨T,oT,ts,z1,y.none z2,z3⟩
section
variable {X:Cx}{ak:List (Addr×Obj)}{Z:St}{H:Hp}{s:Shared}{h0 h':Heap}{ch fr:List Addr}
theorem iu.tbd{P:Program}{w:World}{h:Heap}(x:iu P w H h)(t:RJ h0 H fr h h' ch)(hf:∀b∈fr,H b=none):iu P w H h':=λa o e=>by
 have st:∀b u,(b=a\/H b=some (.own a))->h.get? b=some u->h'.get? b=some u:=λb u z q=>by
  have nb:H b≠none:=by
   rcases z with z|z
   ·rw[z,e];simp
   ·rw[z];simp
  exact t.keep b u q (λm=>nb (hf b m)) λm=>nb (t.rec_ b m).2.1
 exact(x a o e).stay st (λ_ z=>z) λ_ _ z=>z
end
def Raises(X:Cx)(EX:XS):Prop:=
 ∀(ak:List (Addr×Obj)) (Z:St) (H:Hp) (s:Shared) (h0:Heap) (e C:Addr) (dx:Option Addr),Inv X ak Z H s->(∀b o,X.s₀.heap.get? b=some o->b∉X.ex->∃o',h0.get? b=some o')->
  (∀p∈X.pn++ak,∃o,h0.get? p.1=some o)->Sub h0 s.heap->Exc h0 H s.heap e C dx->EX Z (.ref C) dx H->X.xe (.ref e) s
noncomputable def lA(P:Program)(w:World):tG:=λouter H s E e s'=>
 ∃(a C:Addr) (dx:Option Addr) (H':Hp),e=.ref a/\s'.os=s.os/\AllBare s'.gens/\Un (frs outer) [] H H' s.heap s'.heap/\iu P w H' s'.heap/\Exc s.heap H' s'.heap a C dx/\E (.ref C) dx H'
theorem ze2{P:Program}{w:World}{K:W.Frag}{mg:Str->Option Value}{base:Heap}{N:List Str}{qual:Str}{scope:Scope}{f:Addr}{cd:Value}{A:Around}{outer:List Env}{s:Shared}{H:Hp}{E:XK}{cm:Bool} :
  Raises (i_ (lA P w) P w K mg base N qual scope f cd A outer s H E cm) (λ_ C dx H'=>E C dx H'):=by
 intro ak Z H1 s1 h0 e C dx I hs hp h01 x ex;have I0:Inv (i_ (lA P w) P w K mg base N qual scope f cd A outer s H E cm) [] Z H1 s1:=I.mQ λp z=>absurd z J0;show wpAny (model P w) (A.deeper (envOfC qual scope s.heap.objs.size f cd)) (leaving (envOfC qual scope s.heap.objs.size f cd) (.ref e)) _ _ s1;unfold leaving;have hsub:Sub s.heap h0:=λb o q=>hs b o q (by show b∉([]:List Addr);simp);refine au (zgb (base:=base) (outer:=outer) (L:=s.heap.objs.size) I0.ok.frames I0.stack rfl x (λb z=>I0.hok.fresh z) h01 λh' ch t x'=>?_);have fin:∀b o,s.heap.get? b=some o->b∉ch:=λb o q m=>by
  have z:=hsub.none (t.rec_ b m).1;rw[q] at z;cases z
 have nL:∀b o,s.heap.get? b=some o->b∉frs outer->b∉frs (envOfC qual scope s.heap.objs.size f cd::outer):=λb o q n m=>by
  have m':b∈s.heap.objs.size::frs outer:=m;rcases bZ.mp m' with z|z
  ·exact absurd (bC q) (by rw[z];exact mD _)
  ·exact n z
 refine⟨e,C,dx,H1,rfl,I0.os,I0.bare,⟨λb o q n hb _=>?_,λb o q n hb _=>?_,λb o q n _=>I0.base.free b o q n (by show b∉([]:List Addr);simp),λb o q _=>?_,I0.base.tups,I0.base.lu,I0.base.mJ⟩,I0.hok.tbd t I0.mO,x'.older hsub,ex⟩
 ·exact t.keep b o (I0.base.keep b o q n hb (by show b∉([]:List Addr);simp)) (nL b o q hb) (fin b o q)
 ·obtain⟨sl,q1⟩:=I0.base.slot b o q n hb (by show b∉([]:List Addr);simp);obtain⟨sl',q2⟩:=t.slot b _ q1 (show b∈s.heap.objs.size::frs outer from eF _ hb);exact⟨sl',q2⟩
 ·obtain⟨o',q1⟩:=I0.base.there b o q (by show b∉([]:List Addr);simp);exact t.there b o' q1
section
variable {X:Cx}{cm:Bool}{k:Nat}{f C:Addr}{fd:FuncData}{ps:List Str}{sp:Sp}{EX:XS}{x m:Str}{p pos apos:Pos}{e o:Expr}{es:List Expr}{ta:TE}{t:TA}
theorem Raises.pass(R:Raises X EX)(I:Inv X ak Z H s)(h:lA X.prog X.w X.stack H s (EX Z) v s'):X.xe v s':=by
 obtain⟨a,C,dx,H',rfl,os,bare,un,hok,x,q⟩:=h;have ao:Sub s.heap s'.heap:=λb o z=>un.there b o z J0;refine R ak Z H' s' s.heap a C dx (I.call' os un hok bare λb z=>absurd z J0) (λb o z n=>I.base.there b o z n) (λp hp=>?_) ao x q;exact⟨p.2,(I.pin p hp).1⟩
noncomputable def CZ(sp:Sp)(EX:XS)(t:TA):TE:=λZ H Q=>t Z H λvs H1=>sp vs H1 Q (EX Z)
theorem zjJ(F:fD X.prog X.w X.K X.mg X.base (lA X.prog X.w) cm k f fd ps sp)(rG:cm=true->X.aj=true)(hr:cL k X.A)(hb:Binds X.K fd ps [])(R:Raises X EX)
  (I:Inv X ak Z H s) (r:Vals vs us) (h:sp vs H Q (EX Z)):wpAny (model X.prog X.w) X.A (call (.ref f) us) (EP X ak Z Q) X.xe s:=by
 have hl:us.length=ps.length:=by rw[<-r.length];exact F.len _ _ _ _ h
 have hb':=hb s us I.xG (by rw[FP];exact hl);rw[FP] at hb';refine wpAny_call (FZ (F.run X.A X.stack s H ⟨us,[]⟩ us vs Q (EX Z) (λz=>I.ok.hd (rG z)) hr I.env0 hb' r h) λr s' hq=>?_);cases r with
 |error v=>exact R.pass I hq
 |ok fl=>
  cases fl with
  |ret u=>exact I.after hq
  |next=>exact False.elim hq
  |brk=>exact False.elim hq
  |cont=>exact False.elim hq
theorem zhT(F:fD X.prog X.w X.K X.mg X.base (lA X.prog X.w) cm k f fd ps sp)(rG:cm=true->X.aj=true)(hr:cL k X.A)(hg:Gl X x)(hm:X.mg x=some (.ref f))(hk:PySem.W.keepIn X.K (.ref f)=true)(hb:Binds X.K fd ps [])(R:Raises X EX)
  (ha:PA X (e::es) t) (rH:(x==("__debug__" : Str))=false:=by decide) (he:starEach (e::es) X.env=(false,eval e X.env)::starEach es X.env:=by rfl) (bR:(backTo pos (starEach es X.env)).any (·.1)=false:=by rfl) :
  PE X (.Call (.Name x p) (e::es) [] pos) (CZ sp EX t):=by
 intro ak s Z H Q I h;refine BR (X6 I hg hm ?_ rH);exact PySem.W.callWith_K (h₀:=X.base) I.ok.mod.Gb hk (aU (ha pos ak s Z H _ I h) λus s1 ⟨vs,H1,I1,r,q⟩=>⟨I1.xG,zjJ F rG hr hb R I1 r q⟩) he bR
end
noncomputable def xY(a C:Addr)(dx:Option Addr):HO:=.ext λh=>∃oe vs,h.get? a=some oe/\oe.cls=.ref C/\oe.dict=dx/\oe.data=.fields vs
end L2
namespace L2
open PySem PySem.Spec PyProof.Rows PySem.W Builtin.ObjectAttr
section
variable {prog:Program}{w:World}{A:Around}{E:Value->Shared->Prop}{s:Shared}{K:Frag}{x C:Addr}{ox:Obj}{od:Option Obj}{name:Str}{tk:Tok}
theorem zi6(XI:K.In s.heap)(I:InstAt s.heap x ox C od)(hf:findObj K C od name=some r)
  (h:match r with|.value v=>Q (.done (.ret v)) s|.bind g a=>wpAny (model prog w) A (call g [a,.ref x,.ref C]) (λv s'=>Q (.done (.ret v)) s') E s|.missing=>False) :
  wpAny (model prog w) A (Builtin.«object.__getattribute__» ⟨[.ref x,.str name tk],[]⟩) Q E s:=by
 obtain⟨hh,g,d,t,os⟩:=s;have L0:=I.type (M:=model prog w);have L1:=looks_find (M:=model prog w) XI I hf;unfold Builtin.«object.__getattribute__»;refine au (Cd (a:=(Value.ref x,[Value.str name tk])) (by rfl) ?_);refine au (Cd (a:=name) (by rfl) ?_);refine au (L0.at (au (L1.at ?_)));cases r with
 |value v=>exact aN h
 |bind g a=>
  show wpAny _ _ (holding [a] (call g [a,.ref x,.ref C]) >>= ret) _ _ _;exact au (k_ (iR h (λv s' z=>aN z) λ_ _ z=>z))
 |missing=>exact h.elim
theorem zfv(XI:K.In s.heap)(I:InstAt s.heap x ox C od)(hb:mroIn K C (.type "BaseException")=some true)(hf:findObj K C od name=some r)
  (h:match r with|.value v=>R (.ok (.ret v)) s|.bind g a=>wpAny (model prog w) A.in1 (call g [a,.ref x,.ref C]) (λv s'=>R (.ok (.ret v)) s') (λe s'=>R (.error e) s') s|.missing=>False) :
  codeAny (model prog w) A (.call (.builtin "BaseException.__getattribute__") ⟨[.ref x,.str name tk],[]⟩) R s:=by
 have hk:builtinKind "BaseException.__getattribute__"=some .slot:=by decide +kernel
 have C_:splitId "BaseException.__getattribute__"=some ("BaseException","__getattribute__"):=by decide +kernel
 have ha:=F.args_bexc_ga (.ref x) (.str name tk);refine codeAny_call_builtin F.attr_ValueError.ga.plain F.entry_bexc_ga ?_;have fin:wpAny (model prog w) A.in1 (Builtin.«object.__getattribute__» ⟨[.ref x,.str name tk],[]⟩) (λfin s'=>match fin with|.done f=>R (.ok f) s'|.again c'=>c'.quiet=true/\codeAny (model prog w) A c' R s') (λe s'=>R (.error e) s') s:=by
  refine zi6 XI I hf ?_;cases r with
  |value v=>exact h
  |bind g a=>exact h
  |missing=>exact h.elim
 have chk:∀Q:Unit->Shared->Prop,Q () s->wpAny (model prog w) A.in1 (checkBuiltinCall "BaseException.__getattribute__" ⟨[.ref x,.str name tk],[]⟩) Q (λe s'=>R (.error e) s') s:=λQ hq=>by
  obtain⟨hh,g,d,t,os⟩:=s;have L0:=I.type (M:=model prog w);have L1:=looks_mroIn (M:=model prog w) XI hb;have LI:Looks (model prog w) hh (isInstance (.ref x) (.type "BaseException")) true:=L0.andThen L1;simp only[checkBuiltinCall,hk,C_];refine au ?_
  repeat (first|with_reducible exact hq|with_reducible refine LI.at ?_|wp_step)
 exact chk _ fin
theorem bexc_get?(XI:K.In s.heap)(I:InstAt s.heap x ox C od)(hb:mroIn K C (.type "BaseException")=some true)(hga:findIn K (.ref C) "__getattribute__"=some (some (.builtin "BaseException.__getattribute__")))
  (hgn:findIn K (.ref C) "__getattr__"=some none) (hf:findObj K C od name=some r)
  (h:match r with|.value v=>wpAny (model prog w) A (handedOut v) (λu s'=>Q (some u) s') (λ_ _=>False) {s with toks:=s.toks+1}|.bind g a=>wpAny (model prog w) A.in1 (call g [a,.ref x,.ref C]) (λv s'=>wpAny (model prog w) A (handedOut v) (λu s''=>Q (some u) s'') (λ_ _=>False) s') (λ_ _=>False) {s with toks:=s.toks+1}|.missing=>False) :
  wpAny (model prog w) A (getAttr? (.ref x) name) Q E s:=by
 obtain⟨hh,g,d,t,os⟩:=s;have L0:=I.type (M:=model prog w);have L1:=looks_findIn (M:=model prog w) XI hga;have L2:=looks_findIn (M:=model prog w) XI hgn;have Dg:(Value.builtin "BaseException.__getattribute__"==Value.builtin "object.__getattribute__")=false:=by decide +kernel
 unfold getAttr? getAttrBy? getAttrBy;refine au (wpAny_mkText (au (zJ (k_ (au (L0.at (au (L1.at ?_))))))));show wpAny _ _ (if (onTheHeap (.ref C)&&(Value.builtin "BaseException.__getattribute__"==Value.builtin "object.__getattribute__"))=true then _ else getAttrByItsOwn _ _ _ _ _ _) _ _ _;rw[Dg,Bool.and_false,if_neg Dc];unfold getAttrByItsOwn hookBefore callGetattribute boundAndCalled;refine au (L2.at ?_);refine au (zJ (k_ (au (Cd (F.attr_ValueError.ga.bind (.ref x)) ?_))));refine wpAny_call (zfv XI I hb hf ?_);cases r with
 |value v=>exact iR h (λv s'' hv=>aN hv) (λ_ _ z=>z.elim)
 |bind g a=>exact iR h (λv s' hv=>iR hv (λu s'' z=>aN z) λ_ _ z=>z.elim) (λ_ _ z=>z.elim)
 |missing=>exact h.elim
end
structure XC(K:Frag)(C:Addr):Prop where
 ga:findIn K (.ref C) "__getattribute__"=some (some (.builtin "BaseException.__getattribute__"))
 gn:findIn K (.ref C) "__getattr__"=some none
 cl:findIn K (.ref C) "__class__"=some (some (.builtin "object.__class__"))
 mb:mroIn K C (.type "BaseException")=some true
 mo:mroIn K C (.type "object")=some true
 cd:(clsIn K C).isSome=true
 dg:specialIn K (.builtin "object.__class__") "__get__"=some (some (.builtin "getset_descriptor.__get__"))
 dt:takesIn K (.builtin "object.__class__")=some true
theorem zgs{K:Frag}{C:Addr}{od:Option Obj}{name:Str}{a g:Value}(hc:(clsIn K C).isSome=true)(ha:findIn K (.ref C) name=some (some a))(hg:specialIn K a "__get__"=some (some g))(ht:takesIn K a=some true):findObj K C od name=some (.bind g a):=by
 obtain⟨cd,z⟩:=Qg.mp hc;simp only[findObj,z,ha,hg,ht,Option.bind_some]
theorem YF{K:Frag}{e C:Addr}(c:XC K C):KitX K (.ref e) (.ref C) (λh=>∃ox od,InstAt h e ox C od) where
 ty:=λ_ _ _ ⟨_,_,I⟩=>I.type
 it:=λ_ _ XI _=>by
  have q:=c.cd;unfold clsIn at q;split at q
  ·rename_i c' d' cd' sl' lk;intro A' Q' E' s' k z;unfold isType loadHead;exact au (wpAny_loadPart (k _ _ (XI _ _ lk)) (aN z))
  ·cases q
 ne:=λh tp dd its n sl XI htp=>by
  refine Mw.mpr λz=>?_;have ee:C=tp:=Value.ref.inj (Ce.mp z);subst ee;have q:=c.cd;unfold clsIn at q;split at q
  ·rename_i c' d' cd' sl' lk;have y:=(XI _ _ lk).symm.trans htp;cases y
  ·cases q
 ca:=λ{prog w A E Q s} XI ⟨ox,od,I⟩ k=>by
  have hf:findObj K C od "__class__"=some (.bind (.builtin "getset_descriptor.__get__") (.builtin "object.__class__")):=zgs c.cd c.cl c.dg c.dt;refine bexc_get? XI I c.mb c.ga c.gn hf ?_;exact wpAny_call (class_get (s:={s with toks:=s.toks+1}) (ox:=ox) (od:=od) XI I c.mo (handed_on rfl k))
end L2
namespace L2
open PySem PySem.Spec PyProof.Rows
theorem ze9:∀(names:List (Str×NameKind)) (cs:List (Str×Addr)),(∀x∈names,x.2=.free->∃c,env.cells.lookup x.1=some c)->(∀x c,cs.lookup x=some c->env.cells.lookup x=some c)->
  ∃cl,(forIn names cs λx r=>(do
    if x.2==.free then
     let a <-cellOf env x.1
     pure (ForInStep.yield ((x.1,a)::r))
    else pure (ForInStep.yield r)):Sem (List (Str×Addr)))=pure cl/\(∀x c,cl.lookup x=some c->env.cells.lookup x=some c)/\(∀x c,cs.lookup x=some c->cl.lookup x=some c)/\∀x∈names,x.2=.free->∃c,cl.lookup x.1=some c:=by
 intro names
 induction names with
 |nil=>intro cs _ h;exact⟨cs,rfl,h,λ_ _ q=>q,λx z=>nomatch z⟩
 |cons y r ih=>
  intro cs h1 h2;obtain⟨n,k⟩:=y;by_cases hk:k=.free
  ·subst hk;obtain⟨c,hc⟩:=h1 (n,.free) gA rfl;have hc:env.cells.lookup n=some c:=hc;have h3:∀x d,((n,c)::cs).lookup x=some d->env.cells.lookup x=some d:=λx d q=>by
    rw[rB] at q;by_cases z:x=n
    ·subst z;simp at q;subst q;exact hc
    ·have z':(x==n)=false:=by simpa using z
     rw[z'] at q;exact h2 x d q
   obtain⟨cl,e,a,b,d⟩:=ih ((n,c)::cs) (λx z=>h1 x (eF _ z)) h3;have hco:cellOf env n=pure c:=by
    unfold cellOf;rw[hc]
   refine⟨cl,?_,a,λx q z=>?_,λx z q=>?_⟩
   ·rw[Ca];simp only[wW,if_true,hco];exact e
   ·by_cases y:x=n
    ·subst y;have z1:=h2 x q z;rw[hc] at z1;cases z1;exact b x c J0
    ·have y':(x==n)=false:=by simpa using y
     exact b x q (by rw[rB,y'];exact z)
   ·rcases bZ.mp z with z|z
    ·subst z;exact⟨c,b n c J0⟩
    ·exact d x z q
  ·have hb:(k==NameKind.free)=false:=by simpa using hk
   obtain⟨cl,e,a,b,d⟩:=ih cs (λx z=>h1 x (eF _ z)) h2;refine⟨cl,?_,a,b,λx z q=>?_⟩
   ·rw[Ca];simp only[hb,mC,lq];exact e
   ·rcases bZ.mp z with z|z
    ·subst z;exact absurd q hk
    ·exact d x z q
theorem zeX(h:∀x∈scope.names,x.2=.free->∃c,env.cells.lookup x.1=some c):∃cl,closureFor scope env=pure cl/\(∀x c,cl.lookup x=some c->env.cells.lookup x=some c)/\∀x∈scope.names,x.2=.free->∃c,cl.lookup x.1=some c:=by
 obtain⟨cl,e,a,_,d⟩:=ze9 scope.names [] h (λx c q=>by cases q);refine⟨cl,?_,a,d⟩;unfold closureFor;have e':=e;simp only[pure_bind,bind_pure] at e' ⊢;exact e'
theorem RK{env:Env}{k:NameKind}:∀{names:List (Str×NameKind)} {x:Str},(names.map λ(n,k)=>if (k==NameKind.free&&env.scope.kind==.function&&env.kindOf n==some .cell) then (n,NameKind.cell) else (n,k)).lookup x=some k->
  names.lookup x=some k\/(k=.cell/\names.lookup x=some .free)
 |[],x,h=>by simp at h
 |(n,q)::r,x,h=>by
  rw[lK,rB] at h;rw[rB];have hd:∀c:Bool,(if c=true then (n,NameKind.cell) else (n,q)).1=n:=λc=>by cases c<;>rfl
  rw[hd] at h;by_cases z:x=n
  ·subst z;simp only[wW] at h ⊢;split at h
   ·rename_i y;simp only[gB,Ce] at y;cases h;exact .inr ⟨rfl,by rw[y.1.1]⟩
   ·cases h;exact .inl rfl
  ·have z':(x==n)=false:=by simpa using z
   simp only[z'] at h ⊢;exact RK h
theorem RL{env:Env}:∀{names:List (Str×NameKind)} {x:Str},names.lookup x=some .free->
  (names.map λ(n,k)=>if (k==NameKind.free&&env.scope.kind==.function&&env.kindOf n==some .cell) then (n,NameKind.cell) else (n,k)).lookup x=some .cell \/
  (names.map λ(n,k)=>if (k==NameKind.free&&env.scope.kind==.function&&env.kindOf n==some .cell) then (n,NameKind.cell) else (n,k)).lookup x=some .free
 |[],x,h=>by simp at h
 |(n,q)::r,x,h=>by
  rw[rB] at h;rw[lK,rB];have hd:∀c:Bool,(if c=true then (n,NameKind.cell) else (n,q)).1=n:=λc=>by cases c<;>rfl
  rw[hd];by_cases z:x=n
  ·subst z;simp only[wW] at h ⊢;cases h
   split
   ·exact .inl rfl
   ·exact .inr rfl
  ·have z':(x==n)=false:=by simpa using z
   simp only[z'] at h ⊢;exact RL h
structure nW(n:Nat)(h1:Heap)(names:List (Str×NameKind))(cl eY:List (Str×Addr)):Prop where
 d1:∀x c,eY.lookup x=some c->(cl.lookup x=some c/\(x,NameKind.cell)∉names)\/((x,NameKind.cell)∈names/\n<c/\h1.IsCell c none)
 d2:∀x y c,n<c->eY.lookup x=some c->eY.lookup y=some c->x=y
 d3:∀x,names.lookup x=some .cell->∃c,eY.lookup x=some c
 d4:∀x c,(x,NameKind.cell)∉names->cl.lookup x=some c->eY.lookup x=some c
theorem cc:(NameKind.cell==NameKind.cell)=true:=by decide
theorem Jl:∀(names:List (Str×NameKind)) (h:Heap) (b:Addr) (o:Obj),h.get? b=some o->(pushCells h names).get? b=some o
 |[],h,b,o,e=>e
 |(x,k)::r,h,b,o,e=>by
  rw[pushCells]
  split
  ·exact Jl r _ b o (cF _ e)
  ·exact Jl r h b o e
theorem RM:∀(names:List (Str×NameKind)) (h:Heap) (acc:List (Str×Addr)) (x:Str) (c:Addr),(cellsFrom h.objs.size names acc).lookup x=some c->
  (acc.lookup x=some c/\(x,NameKind.cell)∉names)\/((x,NameKind.cell)∈names/\h.objs.size<=c/\(pushCells h names).IsCell c none)
 |[],h,acc,x,c,e=>.inl ⟨e,by simp⟩
 |(y,k)::r,h,acc,x,c,e=>by
  rw[cellsFrom] at e;rw[pushCells];by_cases hk:k=.cell
  ·subst hk;rw[if_pos cc] at e ⊢;have sz:(h.push {cls:=Value.type "cell",data:=Data.cell none}).objs.size=h.objs.size+1:=by unfold Heap.push;simp
   rw[<-sz] at e;rcases RM r _ _ x c e with ⟨a,b⟩|⟨a,b,d⟩
   ·rw[rB] at a;by_cases z:x=y
    ·subst z;simp at a;subst a;exact .inr ⟨gA,bL _,_,Jl r _ _ _ (fj _ rfl),rfl⟩
    ·have z':(x==y)=false:=by simpa using z
     rw[z'] at a;exact .inl ⟨a,by simp[z,b]⟩
   ·exact .inr ⟨eF _ a,by lia,d⟩
  ·have hb:(k==NameKind.cell)=false:=by simpa using hk
   rw[if_neg (by rw[hb];decide)] at e ⊢;rcases RM r _ _ x c e with ⟨a,b⟩|⟨a,b,d⟩
   ·exact .inl ⟨a,by simp[b];intro _ q;exact hk q.symm⟩
   ·exact .inr ⟨eF _ a,b,d⟩
theorem RN:∀(names:List (Str×NameKind)) (n:Nat) (acc:List (Str×Addr)) (x y:Str) (c:Addr),(∀u v,acc.lookup u=some c->acc.lookup v=some c->u=v)->(∀u a,acc.lookup u=some a->a<n\/a≠c)->(cellsFrom n names acc).lookup x=some c->(cellsFrom n names acc).lookup y=some c->x=y
 |[],n,acc,x,y,c,h,_,e1,e2=>h x y e1 e2
 |(z,k)::r,n,acc,x,y,c,h,hl,e1,e2=>by
  rw[cellsFrom] at e1 e2;by_cases hk:k=.cell
  ·subst hk;rw[if_pos cc] at e1 e2;refine RN r (n+1) _ x y c (λu v a b=>?_) (λu a q=>?_) e1 e2
   ·rw[rB] at a b;by_cases u1:u=z
    ·by_cases v1:v=z
     ·rw[u1,v1]
     ·have v':(v==z)=false:=by simpa using v1
      subst u1;simp at a;rw[v'] at b;subst a;have b:acc.lookup v=some n:=b;rcases hl v n b with q|q
      ·exact absurd q (mD _)
      ·exact absurd rfl q
    ·have u':(u==z)=false:=by simpa using u1
     rw[u'] at a;have a:acc.lookup u=some c:=a;by_cases v1:v=z
     ·subst v1;simp at b;subst b;rcases hl u n a with q|q
      ·exact absurd q (mD _)
      ·exact absurd rfl q
     ·have v':(v==z)=false:=by simpa using v1
      rw[v'] at b;exact h u v a b
   ·rw[rB] at q;by_cases u1:u=z
    ·subst u1;simp at q;subst q;exact .inl (Hv _)
    ·have u':(u==z)=false:=by simpa using u1
     rw[u'] at q;exact(hl u a q).imp (λq=>kO q) id
  ·have hb:(k==NameKind.cell)=false:=by simpa using hk
   rw[if_neg (by rw[hb];decide)] at e1 e2;exact RN r n acc x y c h hl e1 e2
theorem RP:∀(names:List (Str×NameKind)) (n:Nat) (acc:List (Str×Addr)) (x:Str) (c:Addr),(x,NameKind.cell)∉names->acc.lookup x=some c->(cellsFrom n names acc).lookup x=some c
 |[],n,acc,x,c,_,e=>e
 |(z,k)::r,n,acc,x,c,h,e=>by
  rw[cellsFrom];have hr:(x,NameKind.cell)∉r:=λq=>h (eF _ q);by_cases hk:k=.cell
  ·subst hk;rw[if_pos cc];refine RP r (n+1) _ x c hr ?_;have:x≠z:=λq=>h (by rw[q];exact gA);have z':(x==z)=false:=by simpa using this
   rw[rB,z'];exact e
  ·have hb:(k==NameKind.cell)=false:=by simpa using hk
   rw[if_neg (by rw[hb];decide)];exact RP r n acc x c hr e
theorem RQ:∀(names:List (Str×NameKind)) (acc:List (Str×Addr)) (s:Shared) (Q:List (Str×Addr)->Shared->Prop),
  Q (cellsFrom s.heap.objs.size names acc) {s with heap:=pushCells s.heap names}->
  wpAny M A (forIn names acc λx (cells:List (Str×Addr))=>match x with
   |(name,kind)=>if (kind==NameKind.cell)=true then do
     let a <-alloc {cls:=Value.type "cell",data:=Data.cell none}
     pure (ForInStep.yield ((name,a)::cells))
    else pure (ForInStep.yield cells)) Q E s
 |[],acc,s,Q,h=>by
  rw[FT];exact aN h
 |(z,k)::r,acc,s,Q,h=>by
  rw[Ca];rw[cellsFrom,pushCells] at h;by_cases hk:k=.cell
  ·subst hk;rw[if_pos cc,if_pos cc] at h;refine au ?_;dsimp only;rw[if_pos cc];refine au (wpAny_alloc (aN ?_));refine RQ r _ _ Q ?_;have sz:(s.heap.push {cls:=Value.type "cell",data:=Data.cell none}).objs.size=s.heap.objs.size+1:=by unfold Heap.push;simp
   rw[sz];exact h
  ·have hb:(k==NameKind.cell)=false:=by simpa using hk
   rw[if_neg (by rw[hb];decide),if_neg (by rw[hb];decide)] at h;refine au ?_;dsimp only;rw[if_neg (by rw[hb];decide)];exact aN (RQ r _ _ Q h)
theorem YG(old:∀x c,cl.lookup x=some c->c<s.heap.objs.size)(inj:∀x y c,cl.lookup x=some c->cl.lookup y=some c->x=y)
  (h:∀h1 eY,h1.Ns s.heap.objs.size (λ_=>none)->(∀b o,s.heap.get? b=some o->h1.get? b=some o)->nW s.heap.objs.size h1 scope.names cl eY->Q {scope:=scope,locals:=s.heap.objs.size,globals:=globals,cells:=eY,qual:=qual,func:=none,code:=env.code,frame:=env.frame,builtins:=env.builtins} {s with heap:=h1}) :
  wpAny M A (newFunctionEnv scope globals cl [] qual none .none (some env)) Q E s:=by
 unfold newFunctionEnv;refine au (wpAny_alloc ?_);refine au ?_;refine RQ scope.names cl _ _ ?_;dsimp only;rw[FT];refine au (aN (aN ?_));have sz:(s.heap.push {cls:=Value.type (if (some env).isSome=true then "dict" else "frame"),data:=Data.dict #[]}).objs.size=s.heap.objs.size+1:=by unfold Heap.push;simp
 refine h _ _ ?_ (λb o e=>Jl _ _ _ _ (cF _ e)) ⟨λx c e=>?_,λx y c hc e1 e2=>?_,λx e=>?_,λx c hx e=>RP _ _ _ x c hx e⟩
 ·refine⟨_,#[],_,Jl _ _ _ _ (fj _ rfl),rfl,?_,λ_=>rfl⟩;intro e he;simp at he
 ·rcases RM _ _ _ x c e with ⟨a,b⟩|⟨a,b,d⟩
  ·exact .inl ⟨a,b⟩
  ·rw[sz] at b;exact .inr ⟨a,by lia,d⟩
 ·exact RN _ _ _ x y c (λu v a b=>inj u v c a b) (λu a q=>.inl (by rw[sz];exact kO (old u a q))) e1 e2
 ·have:=Ql scope.names (s.heap.push {cls:=Value.type (if (some env).isSome=true then "dict" else "frame"),data:=Data.dict #[]}).objs.size cl (.inl e);exact Qg.mp this
noncomputable def Cx.blk(X:Cx)(scope:Scope)(cl:List (Str×Addr))(N:List Str)(C:Addr)(s3:Shared)(H3:Hp)(fp:List Addr)(ak:List (Addr×Obj)):Cx where
 prog:=X.prog
 w:=X.w
 K:=X.K
 mg:=X.mg
 base:=X.base
 A:=X.A
 N:=N
 s₀:=s3
 H₀:=H3
 env:=compEnvC scope cl C X.env
 outer:=X.stack
 stack:=X.stack
 ex:=fp
 fn:=λx=>scope.names.lookup x==some .cell
 aj:=X.aj
 pn:=X.pn++ak
 xe:=λ_ _=>False
structure dw(sc scope:Scope):Prop where
 kind:scope.kind=.function
 cel:∀y∈scope.names,y.2=.cell->scope.names.lookup y.1=some .cell
 free:∀y∈scope.names,y.2=.free->sc.names.lookup y.1=some .cell\/sc.names.lookup y.1=some .free
 loc:∀y∈scope.names,y.2=.local->scope.names.lookup y.1=some .local
section
variable {X:Cx}{ak:List (Addr×Obj)}{Z:St}{H:Hp}{s:Shared}{scope:Scope}{cl:List (Str×Addr)}{N:List Str}{fp:List Addr}{ZY:St}
theorem YH{h1:Heap}{t:Nat}{eY:List (Str×Addr)}(I:Inv X ak Z H s)(B:dw X.env.scope scope)(c1:∀x c,cl.lookup x=some c->X.env.cells.lookup x=some c)(c2:∀x∈scope.names,x.2=.free->∃c,cl.lookup x.1=some c)
  (f:∀b∈fp,fC X ak H b) (fo:∀b∈fp,∃o,s.heap.get? b=some o) (hn:h1.Ns s.heap.objs.size (λ_=>none)) (kp:∀b o,s.heap.get? b=some o->h1.get? b=some o) (CN:nW s.heap.objs.size h1 scope.names cl eY)
  (hl:ZY.length=N.length) (hZ:∀(i:Nat) (x:Str) (v:V),N[i]?=some x->ZY[i]?=some (some v)->scope.names.lookup x=some .free/\∃j:Nat,X.N[j]?=some x/\Z[j]?=some (some v)) :
  Inv (X.blk scope eY N s.heap.objs.size s H fp ak) [] ZY H {s with heap:=h1,toks:=t}:=by
 have lt:∀b o,s.heap.get? b=some o->b≠s.heap.objs.size:=λb o q=>cR (bC q);have YJ:∀b,b≠X.env.locals->b∉X.fs->b∉frs X.stack:=λb a c z=>(bZ.mp (I.jP b z)).elim a c;have mem_of:∀x k,scope.names.lookup x=some k->(x,k)∈scope.names:=λx k q=>FJ q;have old:∀x c,cl.lookup x=some c->c<s.heap.objs.size:=λx c q=>by
  obtain⟨v,o,q1,q2⟩:=I.cell x c (c1 x c q);exact bC q1
 have YK:∀x,scope.names.lookup x=some .free->(x,NameKind.cell)∉scope.names:=λx q z=>by
  have:=B.cel _ z rfl;have this:scope.names.lookup x=some .cell:=this;rw[q] at this;cases this
 refine⟨⟨I.ok.mod,B.kind,I.ok.glob,I.ok.blt,bL _,λx y c a b=>?_,λx hx=>?_,λx c z q=>?_,I.ok.hd,I.ok.frames,.inl rfl,λb hb=>?_,I.bs,jH I.ok.Gf I.sz,λb o q hb=>?_,λb hb=>YJ b (f b hb).2.1 (f b hb).2.2.1,I.stack,I.mO⟩,
  rfl,I.bare,Un.kept kp,⟨_,hn,λi x v e1 e2 e3=>?_⟩,λx c q=>?_,I.hok.fresh (bL _),λx c q=>?_,λp hp=>?_,I.hok.kept kp,hl⟩
 ·by_cases hc:s.heap.objs.size<c
  ·exact CN.d2 x y c hc a b
  ·rcases CN.d1 x c a with ⟨a1,_⟩|⟨_,a1,_⟩
   ·rcases CN.d1 y c b with ⟨b1,_⟩|⟨_,b1,_⟩
    ·exact I.ok.inj x y c (c1 x c a1) (c1 y c b1)
    ·exact absurd b1 hc
   ·exact absurd a1 hc
 ·have hx:(relabel scope X.env).names.lookup x=some .cell\/(relabel scope X.env).names.lookup x=some .free:=hx;have fr:scope.names.lookup x=some .cell\/scope.names.lookup x=some .free:=by
   rcases hx with hx|hx
   ·rcases RK hx with z|⟨_,z⟩
    ·exact .inl z
    ·exact .inr z
   ·rcases RK hx with z|⟨z,_⟩
    ·exact .inr z
    ·cases z
  rcases fr with fr|fr
  ·exact CN.d3 x fr
  ·obtain⟨c,hc⟩:=c2 (x,.free) (mem_of x _ fr) rfl;exact⟨c,CN.d4 x c (YK x fr) hc⟩
 ·rcases CN.d1 x c q with ⟨_,q1⟩|⟨_,q1,_⟩
  ·have z:(scope.names.lookup x==some NameKind.cell)=true:=z;exact absurd (mem_of x _ (by simpa using z)) q1
  ·exact ud q1
 ·obtain⟨o,q⟩:=fo b hb;refine⟨lt b o q,λx c z=>?_⟩;rcases CN.d1 x c z with ⟨q1,_⟩|⟨_,q1,_⟩
  ·exact(f b hb).2.2.2.2.1 x c (c1 x c q1)
  ·exact λe=>absurd (bC q) (by rw[<-e];exact zM.mpr (ud q1))
 ·obtain⟨_,_,_,z,_⟩:=f b hb;rcases z with z|z
  ·exact I.ok.Cq b o q z
  ·exact absurd (dh (bC q) (jH I.ok.Gf z)) (mD _)
 ·obtain⟨fr,j,hj,hv⟩:=hZ i x v e1 e2;have hk:=B.free (x,.free) (mem_of x _ fr) rfl;obtain⟨m,hm,hlk⟩:=I.loc;obtain⟨u,r,l⟩:=hlk j x v hj hv (hk.elim (λz=>.inr (.inl z)) λz=>.inr (.inr z));obtain⟨c',iY⟩:=c2 (x,.free) (mem_of x _ fr) rfl;have iY:cl.lookup x=some c':=iY;refine⟨u,r,.inr ⟨RL fr,c',CN.d4 x c' (YK x fr) iY,?_⟩⟩;rcases l with ⟨k1,_⟩|⟨_,c,k2,oc,k3,k4⟩
  ·have k1:X.env.scope.names.lookup x=some .local:=k1;rcases hk with hk|hk
   ·have hk:X.env.scope.names.lookup x=some .cell:=hk;rw[k1] at hk;cases hk
   ·have hk:X.env.scope.names.lookup x=some .free:=hk;rw[k1] at hk;cases hk
  ·have e:=c1 x c' iY;rw[k2] at e;cases e;exact⟨oc,kp _ oc k3,k4⟩
 ·rcases CN.d1 x c q with ⟨q1,_⟩|⟨_,_,q1⟩
  ·obtain⟨v,o,q1,q2⟩:=I.cell x c (c1 x c q1);exact⟨v,o,kp c o q1,q2⟩
  ·exact⟨none,q1⟩
 ·rcases CN.d1 x c q with ⟨q1,_⟩|⟨_,q1,_⟩
  ·exact I.jq x c (c1 x c q1)
  ·exact I.hok.fresh (ud q1)
 ·have hp:p∈X.pn++ak:=by
   have z:p∈(X.pn++ak)++[]:=hp;simpa using z
  obtain⟨a1,a2,a3,a4,a5⟩:=I.pin p hp;exact⟨kp _ _ a1,a2,lt _ _ a1,YJ _ a3 a4,a5⟩
theorem YL(I:Inv X ak Z H s)(f:∀b∈fp,fC X ak H b)(bI:Inv (X.blk scope cl N s.heap.objs.size s H fp ak) [] Z' H' s'):Inv X ak Z H' s':=
 I.call' (ch:=fp) bI.os bI.base bI.hok bI.bare λb hb=>by
  obtain⟨_,a2,_,a4,a5,a6⟩:=f b hb;exact⟨a4.imp id λz=>Hj z,a2,a5,a6⟩
theorem RT{Z':St}{H':Hp}{s':Shared}{h2:Heap}{C:Addr}(bI:Inv X ak Z H' s')(hC:X.s₀.heap.objs.size<=C)(n1:H' C=none)(n2:C≠X.env.locals)(n3:∀x c,X.env.cells.lookup x=some c->c≠C)(n4:∀p∈X.pn++ak,p.1≠C)
  (sb:Heap.SameBut C s'.heap h2):Inv X ak Z H' {s' with heap:=h2}:=
 bI.turned (t':=s'.toks) (λb o z q=>(sb.2 b z).trans q) n1 n2 (.inr hC) n3 n4
end
noncomputable abbrev jJ(ifs:List Expr)(env:Env):Sem Bool:=forIn ifs true λc r=>if r=true then do let ok <-isTrue c env (eval c env);pure (ForInStep.yield ok) else pure (ForInStep.yield r)
theorem zfS{prog:Program}{w:World}{A:Around}{R:Result->Shared->Prop}{s:Shared}{elt target iter:Expr}{ifs:List Expr}{scope:Scope}{pos:Pos}{it acc:Value}{env:Env}(V:Nat->Shared->Prop)
  (turn:∀n s,V n s->wpAny (model prog w) A (pyNext it) (λr s₁=>match r with
   |none=>R (.ok .next) s₁
   |some v=>wpAny (model prog w) A (letOwnedTupleGo target it v) (λ_ s₂=>wpAny (model prog w) A (assign target env v) (λ_ s₃=>
     wpAny (model prog w) A (jJ ifs env) (λok s₄=>
      if ok=true then wpAny (model prog w) A (eval elt env) (λx s₅=>wpAny (model prog w) A (call (.builtin "list.append") [acc,x]) (λ_ s₆=>∃m,m<n/\V m s₆) (λ_ _=>False) s₅) (λ_ _=>False) s₄
      else ∃m,m<n/\V m s₄) (λ_ _=>False) s₃) (λ_ _=>False) s₂) (λ_ _=>False) s₁) (λ_ _=>False) s)
  (n:Nat) (h:V n s):codeAny (model prog w) A (.compLoop (.ListComp elt [⟨target,iter,ifs,0⟩] scope pos) 0 it acc env) R s:=by
 refine codeAny_loop rfl V (λn s hV=>?_) n h;show wpAny _ A ((compTurn (.ListComp elt [⟨target,iter,ifs,0⟩] scope pos) 0 it acc env).onRaise (λx=>do noteFrame x env;theTreesLotGoes x)) _ _ s;refine wpAny_noted ?_;rw[compTurn_list];refine au (zG (au (iR (turn n s hV) (λr s₁ h₁=>?_) λ_ _ z=>z.elim)));cases r with
 |none=>exact aN h₁
 |some v=>
  refine au (iR h₁ (λ_ s₂ h₂=>?_) λ_ _ z=>z.elim);refine au (iR h₂ (λ_ s₃ h₃=>au (iR h₃ (λok s₄ h₄=>?_) λ_ _ z=>z.elim)) λ_ _ z=>z.elim);cases ok with
  |true=>
   simp only[if_true] at h₄ ⊢;exact au (au (iR h₄ (λx s₅ h₅=>au (iR h₅ (λ_ s₆ h₆=>aN (aN ⟨rfl,h₆⟩)) λ_ _ z=>z.elim)) λ_ _ z=>z.elim))
  |false=>
   simp only[mC,lq] at h₄ ⊢;exact aN ⟨rfl,h₄⟩
def Gh(X:Cx)(ifs:List Expr)(t:TT):Prop:=
 ∀(ak:List (Addr×Obj)) (s:Shared) (Z:St) (H:Hp) (Q:Bool->Hp->Prop),Inv X ak Z H s->t Z H Q->wpAny (model X.prog X.w) X.A (jJ ifs X.env) (TP X ak Z Q) X.xe s
noncomputable def RV:TT:=λ_ H Q=>Q true H
theorem zjx:Gh X [] RV:=λ_ _ _ H _ I h=>wpAny_tests_nil ⟨H,I,h⟩
theorem zjZ(h:PT X c t):Gh X [c] t:=λak s Z H Q I hq=>wpAny_tests_one (h ak s Z H Q I hq)
def Jm(ZY:St->St)(g:TG)(tt:TT)(te:TE)(bI:It)(Z:St)(H:Hp)(Q:VK):Prop:=∀D,H D=none->∃W:Nat->Nat->St->Hp->Prop,(∃m,W 0 m (ZY Z) (upd H D (.lst [])))/\∀i m Z' H',W i m Z' H'->
 (bI.stop i H'/\Q (.ref D) H')\/(bI.go i H'/\∃N:St->Hp->Prop,(∀Z2 H2,N Z2 H2->∃m',m'<m/\W (i+1) m' Z2 H2)/\∀x H2,bI.ux i H' x H2->g x Z' H2 λZ3 H3=>tt Z3 H3 λok H4=>
  if ok=true then te Z3 H4 λy H5=>∃ys,H5 D=some (.lst ys)/\ys.length<sizeLine/\N Z3 (upd H5 D (.lst (ys++[y]))) else N Z3 H4)
section
variable {X:Cx}{elt tg iter:Expr}{ifs:List Expr}{scope:Scope}{pos:Pos}{N:List Str}{ZY:St->St}{wi:TI}{g:TG}{tt:TT}{te:TE}
structure Parts(X:Cx)(elt tg:Expr)(ifs:List Expr)(scope:Scope)(N:List Str)(g:TG)(tt:TT)(te:TE):Prop where
 tgt:∀cl C s3 H3 fp ak,PG (X.blk scope cl N C s3 H3 fp ak) tg g
 Jo:∀cl C s3 H3 fp ak,Gh (X.blk scope cl N C s3 H3 fp ak) ifs tt
 el:∀cl C s3 H3 fp ak,PE (X.blk scope cl N C s3 H3 fp ak) elt te
theorem zdt(hc:X.aj=true)(B:dw X.env.scope scope)(P:Parts X elt tg ifs scope N g tt te)(hl:∀Z,(ZY Z).length=N.length)
  (hZ:∀(Z:St) (i:Nat) (x:Str) (v:V),N[i]?=some x->(ZY Z)[i]?=some (some v)->scope.names.lookup x=some .free/\∃j:Nat,X.N[j]?=some x/\Z[j]?=some (some v))
  {ak:List (Addr×Obj)} {s:Shared} {Z:St} {H:Hp} {Q:VK} {it:Addr} {fp:List Addr} {tn:Nat->Heap->Prop} {bI:It} (I:Inv X ak Z H s) (T:Turn X.prog X.w X.K tg bI fp it tn) (st:tn 0 s.heap) (f:∀b∈fp,fC X ak H b) (h:Jm ZY g tt te bI Z H Q)
  {cl:List (Str×Addr)} (c1:∀x c,cl.lookup x=some c->X.env.cells.lookup x=some c) (c2:∀x∈scope.names,x.2=.free->∃c,cl.lookup x.1=some c) {R:Value->Addr->Result->Shared->Prop} {E:Value->Shared->Prop}
  (k:∀D C s' H',Inv X ak Z H' s'->X.s₀.heap.objs.size<=C->H' C=none->C≠X.env.locals->(∀x c,X.env.cells.lookup x=some c->c≠C)->(∀p∈X.pn++ak,p.1≠C)->(∃m,s'.heap.Ns C m)->Q (.ref D) H'->R (.ref D) C (.ok .next) s') :
  wpAny (model X.prog X.w) X.A (newList []) (λacc s₃=>wpAny (model X.prog X.w) X.A (newFunctionEnv scope X.env.globals cl [] X.env.qual none .none (some X.env)) (λcenv s₄=>
   codeAny (model X.prog X.w) X.A (.compStart (.ListComp elt [⟨tg,iter,ifs,0⟩] scope pos) 0 (.ref it) acc {cenv with scope:=relabel scope X.env}) (R acc cenv.locals) s₄) E s₃) E s:=by
 refine sX ?_;have hD:H s.heap.objs.size=none:=I.hok.fresh (bL _);have I3:Inv X ak Z (upd H s.heap.objs.size (.lst [])) {s with heap:=s.heap.push {cls:=.type "list",dict:=none,data:=.seq ([]:List Value).toArray}}:=
  I.laid (t':=s.toks) (λb u q=>cF _ q) (bL _) ⟨jm _,[],0,.nil,fj _ rfl⟩
 have f3:∀b∈fp,fC X ak (upd H s.heap.objs.size (.lst [])) b:=λb hb=>by
  obtain⟨a1,a2⟩:=f b hb;obtain⟨o,q,_⟩:=T.obj 0 _ st b hb;exact⟨by rw[dD (cR (bC q))];exact a1,a2⟩
 have st3:tn 0 (s.heap.push {cls:=.type "list",dict:=none,data:=.seq ([]:List Value).toArray}):=T.keep _ _ _ st λb hb o q=>cF _ q;obtain⟨W,⟨m0,w0⟩,turn⟩:=h s.heap.objs.size hD;generalize RW:({s with heap:=s.heap.push {cls:=.type "list",dict:=none,data:=.seq ([]:List Value).toArray}}:Shared)=s3 at *;have pF:tn 0 s3.heap:=by rw[<-RW];exact st3
 generalize hH3:upd H s.heap.objs.size (.lst [])=H3 at *;refine YG (λx c q=>by obtain⟨v,o,q1,_⟩:=I3.cell x c (c1 x c q);exact bC q1) (λx y c a b=>I3.ok.inj x y c (c1 x c a) (c1 y c b)) λh1 eY hn kp CN=>?_;have Dh:Inv (X.blk scope eY N s3.heap.objs.size s3 H3 fp ak) [] (ZY Z) H3 {s3 with heap:=h1}:=
  YH (t:=s3.toks) I3 B c1 c2 f3 (λb hb=>let ⟨o,q,_⟩:=T.obj 0 _ pF b hb;⟨o,q⟩) hn kp CN (hl Z) (hZ Z)
 have Jp:tn 0 h1:=T.keep _ _ _ pF λb hb o q=>kp b o q;have fY:∀{H':Hp},(∀b∈fp,H' b=none)->∀b∈fp,fC (X.blk scope eY N s3.heap.objs.size s3 H3 fp ak) [] H' b:=λ{H'} z b hb=>by
  obtain⟨a1,a2,a3,a4,a5,a6⟩:=f3 b hb;obtain⟨o,q,_⟩:=T.obj 0 _ pF b hb;refine⟨z b hb,cR (bC q),λy=>(bZ.mp (I3.jP b y)).elim a2 a3,.inl hb,λx c y=>?_,λp hp=>a6 p ?_⟩
  ·rcases CN.d1 x c y with ⟨q1,_⟩|⟨_,q1,_⟩
   ·exact a5 x c (c1 x c q1)
   ·exact λe=>absurd (bC q) (by rw[<-e];exact zM.mpr (ud q1))
  have y:p∈(X.pn++ak)++[]:=hp;simpa using y
 have loop:codeAny (model X.prog X.w) X.A (.compLoop (.ListComp elt [⟨tg,iter,ifs,0⟩] scope pos) 0 (.ref it) (.ref s.heap.objs.size) (compEnvC scope eY s3.heap.objs.size X.env)) (R (.ref s.heap.objs.size) s3.heap.objs.size) {s3 with heap:=h1}:=by
  refine zfS (λn s'=>∃i Z' H',Inv (X.blk scope eY N s3.heap.objs.size s3 H3 fp ak) [] Z' H' s'/\tn i s'.heap/\(∀b∈fp,H' b=none)/\W i n Z' H') ?_ m0 ⟨0,ZY Z,H3,Dh,Jp,λb hb=>(f3 b hb).1,w0⟩;rintro n s5 ⟨i,Z5,H5,lB,tD,vZ,w5⟩;rcases turn i n Z5 H5 w5 with ⟨stop,q⟩|⟨go,Nx,hN,step⟩
  ·refine aU (T.done (X.blk scope eY N s3.heap.objs.size s3 H3 fp ak) rfl rfl rfl hc i [] s5 Z5 H5 _ lB (fY vZ) tD stop) λr s6 ⟨hr,mV⟩=>?_;subst hr;have JX:=YL I3 f3 mV;refine k s.heap.objs.size s3.heap.objs.size s6 H5 JX I3.sz mV.free (fB I3.lt) (λx c y z=>?_) (λp hp z=>?_) ?_ q
   ·obtain⟨v,qc⟩:=I3.cell x c y;exact absurd qc.lt (by rw[z];exact mD _)
   ·exact absurd (bC (I3.pin p hp).1) (by rw[z];exact mD _)
   ·obtain⟨m,hm,_⟩:=mV.loc;exact⟨m,hm⟩
  ·refine aU (T.item (X.blk scope eY N s3.heap.objs.size s3 H3 fp ak) rfl rfl rfl hc i [] s5 Z5 H5 _ lB (fY vZ) tD go) λr s6 hx=>xu hx λu hr h6=>?_;subst hr;refine aU h6 λ_ s7 hz=>?_;obtain⟨x,H7,uF,r7,y7,uG,Jq⟩:=hz;have nY:=uF.pinned (fY Jq) (T.obj _ _ uG);refine aU (P.tgt eY s3.heap.objs.size s3 H3 fp ak _ s7 Z5 H7 x u _ nY r7 (step x H7 y7)) λ_ s8 hz=>?_;obtain⟨Z8,H8,uH,q8⟩:=hz;refine aU (P.Jo eY s3.heap.objs.size s3 H3 fp ak _ s8 Z8 H8 _ uH q8) λok s9 hx=>xu hx λH9 uI q9=>?_;have again:∀{H':Hp} {s':Shared},Inv (X.blk scope eY N s3.heap.objs.size s3 H3 fp ak) ([]++iZ fp s7.heap) Z8 H' s'->Nx Z8 H'->∃m,m<n/\∃i Z' H',Inv (X.blk scope eY N s3.heap.objs.size s3 H3 fp ak) [] Z' H' s'/\tn i s'.heap/\(∀b∈fp,H' b=none)/\W i m Z' H':=λ{H' s'} fO n'=>by
    obtain⟨m',hm,w'⟩:=hN Z8 H' n';refine⟨m',hm,i+1,Z8,H',fO.dW,T.keep _ _ _ uG λb hb o e=>(fO.pin (b,o) (jG _ (jG _ (zT hb e)))).1,λb hb=>?_,w'⟩;obtain⟨o,e,d⟩:=T.obj _ _ uG b hb;exact(fO.pin (b,o) (jG _ (jG _ (zT hb e)))).2.1
   cases ok with
   |false=>
    rw[if_neg Dc] at q9 ⊢;exact again uI q9
   |true=>
    rw[if_pos rfl] at q9 ⊢;refine aU (P.el eY s3.heap.objs.size s3 H3 fp ak _ s9 Z8 H9 _ uI q9) λv N_ hz=>?_;obtain⟨y,RX,uJ,r10,ys,Di,hz,RZ⟩:=hz;refine aU (Rw (X:=(X.blk scope eY N s3.heap.objs.size s3 H3 fp ak)) _ N_ Z8 RX (.ref s.heap.objs.size) [y] (.ref s.heap.objs.size) [v] (λ_ H'=>Nx Z8 H') uJ rfl (.cons r10 .nil) ⟨s.heap.objs.size,ys,y,rfl,rfl,Di,hz,RZ⟩) λ_ YM hx=>fK hx λ_ YQ nZ _ R0=>again nZ R0
 exact codeAny_compStart_list loop (T.self _ 0 _ _ _ Jp loop)
end
noncomputable def uK(wi:TI)(ZY:St->St)(g:TG)(tt:TT)(te:TE):TE:=λZ H Q=>wi Z H λbI H1=>Jm ZY g tt te bI Z H1 Q
section
variable {X:Cx}{elt tg iter:Expr}{ifs:List Expr}{scope:Scope}{pos spos py:Pos}{N:List Str}{ZY:St->St}{wi:TI}{g:TG}{tt:TT}{te:TE}{i:Nat}{y:Str}
theorem R3(I:Inv X ak Z H s)(B:dw X.env.scope scope):∃cl,closureFor scope X.env=pure cl/\(∀x c,cl.lookup x=some c->X.env.cells.lookup x=some c)/\∀x∈scope.names,x.2=.free->∃c,cl.lookup x.1=some c:=
 zeX λx hx hf=>I.ok.has x.1 (B.free x hx hf)
theorem zkj(hc:X.aj=true)(B:dw X.env.scope scope)(hi:PI X tg iter wi)(P:Parts X elt tg ifs scope N g tt te)(hl:∀Z,(ZY Z).length=N.length)
  (hZ:∀(Z:St) (i:Nat) (x:Str) (v:V),N[i]?=some x->(ZY Z)[i]?=some (some v)->scope.names.lookup x=some .free/\∃j:Nat,X.N[j]?=some x/\Z[j]?=some (some v))
  (hs:∀x,foldedSetIterable iter X.env x=pure x:=by intro _;rfl):PE X (.ListComp elt [⟨tg,iter,ifs,0⟩] scope pos) (uK wi ZY g tt te):=by
 intro ak s Z H Q I h;obtain⟨cl,uL,c1,c2⟩:=R3 I B;rw[eval_ListComp];refine Qi (use:=none) rfl hs uL B.kind B.loc (aU (hi ak s Z H _ I h) λxv s1 h1=>aU h1 λitv s2 h2=>?_);obtain⟨it,fp,tn,bI,H2,e,I2,T,st2,f2,hq⟩:=h2;subst e;exact zdt hc B P hl hZ I2 T st2 f2 hq c1 c2 (R:=λacc C=>compPost (model X.prog X.w) X.A X.xe none (EP X ak Z Q) acc C) λD C s' H' fO a b c d e ⟨m,hm⟩ q=>⟨m,hm,λh' sb=>⟨.ref D,H',RT (Z':=Z) fO a b c d e sb,rfl,q⟩⟩
theorem zff(hc:X.aj=true)(hN:X.N.Nodup)(hi':X.N[i]?=some y)(hx:Loc X.env.scope y)(hf:X.fn y=true\/X.env.scope.names.lookup y=some .local)(B:dw X.env.scope scope)(hi:PI X tg iter wi)(P:Parts X elt tg ifs scope N g tt te)(hl:∀Z,(ZY Z).length=N.length)
  (hZ:∀(Z:St) (i:Nat) (x:Str) (v:V),N[i]?=some x->(ZY Z)[i]?=some (some v)->scope.names.lookup x=some .free/\∃j:Nat,X.N[j]?=some x/\Z[j]?=some (some v))
  (Jr:swapsWith (.ListComp elt [⟨tg,iter,ifs,0⟩] scope pos) (some (.Name y py)) spos.line X.env=pure true) (hs:∀x,foldedSetIterable iter X.env x=pure x:=by intro _;rfl) :
  PS X (.Assign [.Name y py] (.ListComp elt [⟨tg,iter,ifs,0⟩] scope pos) spos) (Cw (uK wi ZY g tt te) (dU i)):=by
 intro ak s Z H D I h;obtain⟨cl,uL,c1,c2⟩:=R3 I B;rw[exec_Assign_Name_used _ _ _ _ Jr];refine au (zG (au ?_));show wpAny _ X.A (do let _ <-comprehension (.ListComp elt [⟨tg,iter,ifs,0⟩] scope pos) scope X.env _ (newList []) false (eval iter X.env) (some (assign (.Name y py) X.env))) _ _ s;refine au (Qi (use:=some (assign (.Name y py) X.env)) rfl hs uL B.kind B.loc (aU (hi ak s Z H _ I h) λxv s1 h1=>aU h1 λitv s2 h2=>?_));obtain⟨it,fp,tn,bI,H2,e,I2,T,st2,f2,hq⟩:=h2;subst e;refine zdt hc B P hl hZ I2 T st2 f2 hq c1 c2 (R:=λacc C=>compPost (model X.prog X.w) X.A X.xe (some (assign (.Name y py) X.env)) _ acc C) λD' C s' H' fO a b c d e ⟨m,hm⟩ q=>?_;show wpAny _ _ (assign (.Name y py) X.env (.ref D')) _ _ s';refine wpAny_assign_Name (XM (v:=.ref D') fO hN hi' hx rfl (λs5 lB ⟨ad,sb,had⟩=>?_) hf);have nC:C≠ad:=by
  rcases had with z|z
  ·rw[z];exact c
  ·exact(d y ad z).symm
 obtain⟨ol,es,ep,e1,r1⟩:=hm;refine⟨m,⟨ol,es,ep,(sb.2 C nC).trans e1,r1⟩,λh' sb'=>aN (aN ⟨_,H',RT (Z':=Z) lB a b c d e sb',q⟩)⟩
end
theorem zdW(elt target iter:Expr)(ifs:List Expr)(g₁:Comprehension)(scope:Scope)(pos:Pos)(it acc:Value)(env:Env) :
  compTurn (.ListComp elt [g₁,⟨target,iter,ifs,0⟩] scope pos) 1 it acc env=(do
   standAt iter.pos
   match <-pyNext it with
   |none=>pure (.done .next)
   |some v=>
    letOwnedTupleGo target it v
    assign target env v
    let mut ok:=true
    for c in ifs do
     if ok then ok <-isTrue c env (eval c env)
    if ok then
     (do let _ <-call (.builtin "list.append") [acc,<-eval elt env])
    again (.compLoop (.ListComp elt [g₁,⟨target,iter,ifs,0⟩] scope pos) 1 it acc env)):=by rfl
theorem zdz(elt target iter target₂ iter₂:Expr)(ifs ifs₂:List Expr)(scope:Scope)(pos:Pos)(it acc:Value)(env:Env) :
  compTurn (.ListComp elt [⟨target,iter,ifs,0⟩,⟨target₂,iter₂,ifs₂,0⟩] scope pos) 0 it acc env=(do
   standAt iter.pos
   match <-pyNext it with
   |none=>pure (.done .next)
   |some v=>
    letOwnedTupleGo target it v
    assign target env v
    let mut ok:=true
    for c in ifs do
     if ok then ok <-isTrue c env (eval c env)
    if ok then
     let x <-eval iter₂ env
     standAt iter₂.pos
     let x <-foldedSetIterable iter₂ env x
     let _ <-runOwn (.compStart (.ListComp elt [⟨target,iter,ifs,0⟩,⟨target₂,iter₂,ifs₂,0⟩] scope pos) 1 (<-holding [x] (pyIter x)) acc env) env
     again (.compLoop (.ListComp elt [⟨target,iter,ifs,0⟩,⟨target₂,iter₂,ifs₂,0⟩] scope pos) 0 it acc env)
    else
     again (.compLoop (.ListComp elt [⟨target,iter,ifs,0⟩,⟨target₂,iter₂,ifs₂,0⟩] scope pos) 0 it acc env)):=by rfl
theorem R4(V:Nat->Shared->Prop)
  (turn:∀n s,V n s->wpAny (model prog w) A (pyNext it) (λr s₁=>match r with
   |none=>R (.ok .next) s₁
   |some v=>wpAny (model prog w) A (letOwnedTupleGo target it v) (λ_ s₂=>wpAny (model prog w) A (assign target env v) (λ_ s₃=>
     wpAny (model prog w) A (jJ ifs env) (λok s₄=>
      if ok=true then wpAny (model prog w) A (eval elt env) (λx s₅=>wpAny (model prog w) A (call (.builtin "list.append") [acc,x]) (λ_ s₆=>∃m,m<n/\V m s₆) (λ_ _=>False) s₅) (λ_ _=>False) s₄
      else ∃m,m<n/\V m s₄) (λ_ _=>False) s₃) (λ_ _=>False) s₂) (λ_ _=>False) s₁) (λ_ _=>False) s)
  (n:Nat) (h:V n s):codeAny (model prog w) A (.compLoop (.ListComp elt [g₁,⟨target,iter,ifs,0⟩] scope pos) 1 it acc env) R s:=by
 refine codeAny_loop rfl V (λn s hV=>?_) n h;show wpAny _ A ((compTurn (.ListComp elt [g₁,⟨target,iter,ifs,0⟩] scope pos) 1 it acc env).onRaise (λx=>do noteFrame x env;theTreesLotGoes x)) _ _ s;refine wpAny_noted ?_;rw[zdW];refine au (zG (au (iR (turn n s hV) (λr s₁ h₁=>?_) λ_ _ z=>z.elim)));cases r with
 |none=>exact aN h₁
 |some v=>
  refine au (iR h₁ (λ_ s₂ h₂=>?_) λ_ _ z=>z.elim);refine au (iR h₂ (λ_ s₃ h₃=>au (iR h₃ (λok s₄ h₄=>?_) λ_ _ z=>z.elim)) λ_ _ z=>z.elim);cases ok with
  |true=>
   simp only[if_true] at h₄ ⊢;exact au (au (iR h₄ (λx s₅ h₅=>au (iR h₅ (λ_ s₆ h₆=>aN (aN ⟨rfl,h₆⟩)) λ_ _ z=>z.elim)) λ_ _ z=>z.elim))
  |false=>
   simp only[mC,lq] at h₄ ⊢;exact aN ⟨rfl,h₄⟩
theorem zh9{prog:Program}{w:World}{A:Around}{R:Result->Shared->Prop}{s:Shared}{elt target iter target₂ iter₂:Expr}{ifs ifs₂:List Expr}{scope:Scope}{pos:Pos}{it acc:Value}{env:Env}(V:Nat->Shared->Prop)(hs:∀x,foldedSetIterable iter₂ env x=pure x)
  (turn:∀n s,V n s->wpAny (model prog w) A (pyNext it) (λr s₁=>match r with
   |none=>R (.ok .next) s₁
   |some v=>wpAny (model prog w) A (letOwnedTupleGo target it v) (λ_ s₂=>wpAny (model prog w) A (assign target env v) (λ_ s₃=>
     wpAny (model prog w) A (jJ ifs env) (λok s₄=>
      if ok=true then wpAny (model prog w) A (eval iter₂ env) (λx s₅=>wpAny (model prog w) A (pyIter x) (λit₂ s₆=>codeAny (model prog w) A (.compStart (.ListComp elt [⟨target,iter,ifs,0⟩,⟨target₂,iter₂,ifs₂,0⟩] scope pos) 1 it₂ acc env) (λr s₇=>r=.ok .next/\∃m,m<n/\V m s₇) s₆) (λ_ _=>False) s₅) (λ_ _=>False) s₄
      else ∃m,m<n/\V m s₄) (λ_ _=>False) s₃) (λ_ _=>False) s₂) (λ_ _=>False) s₁) (λ_ _=>False) s)
  (n:Nat) (h:V n s):codeAny (model prog w) A (.compLoop (.ListComp elt [⟨target,iter,ifs,0⟩,⟨target₂,iter₂,ifs₂,0⟩] scope pos) 0 it acc env) R s:=by
 refine codeAny_loop rfl V (λn s hV=>?_) n h;show wpAny _ A ((compTurn (.ListComp elt [⟨target,iter,ifs,0⟩,⟨target₂,iter₂,ifs₂,0⟩] scope pos) 0 it acc env).onRaise (λx=>do noteFrame x env;theTreesLotGoes x)) _ _ s;refine wpAny_noted ?_;rw[zdz];refine au (zG (au (iR (turn n s hV) (λr s₁ h₁=>?_) λ_ _ z=>z.elim)));cases r with
 |none=>exact aN h₁
 |some v=>
  refine au (iR h₁ (λ_ s₂ h₂=>?_) λ_ _ z=>z.elim);refine au (iR h₂ (λ_ s₃ h₃=>au (iR h₃ (λok s₄ h₄=>?_) λ_ _ z=>z.elim)) λ_ _ z=>z.elim);cases ok with
  |true=>
   simp only[if_true] at h₄ ⊢;refine au (iR h₄ (λx s₅ h₅=>au (zG (au (Cd (hs x) (au (k_ (iR h₅ (λit₂ s₆ h₆=>au (wpAny_runOwn (FZ h₆ λr s₇ h₇=>?_))) λ_ _ z=>z.elim))))))) λ_ _ z=>z.elim);obtain⟨rfl,h₇⟩:=h₇;exact aN ⟨rfl,h₇⟩
  |false=>
   simp only[mC,lq] at h₄ ⊢;exact aN ⟨rfl,h₄⟩
theorem zba
  (h0:codeAny (model prog w) A (.compLoop (.ListComp elt [g₁,⟨target,iter,ifs,0⟩] scope pos) 1 it acc env) R s)
  (h:wpAny (model prog w) A (pyIter it) (λit' s'=>codeAny (model prog w) A (.compLoop (.ListComp elt [g₁,⟨target,iter,ifs,0⟩] scope pos) 1 it' acc env) R s') (λ_ _=>False) s) :
  codeAny (model prog w) A (.compStart (.ListComp elt [g₁,⟨target,iter,ifs,0⟩] scope pos) 1 it acc env) R s:=by
 refine codeAny_of_tree ?_;show wpAny _ _ ((compStart (.ListComp elt [g₁,⟨target,iter,ifs,0⟩] scope pos) 1 it acc env).onRaise (λx=>do noteFrame x env;standAt theWindowsPlace)) _ _ s;refine wpAny_notedAt ?_;unfold compStart;show wpAny _ _ (ask >>= _) _ _ s;refine au (MP (wpAny_ite ?_))
 split
 ·first
   |exact au (aN (aN (And.intro rfl h0)))
   |exact aN (And.intro rfl h0)
 ·first
   |exact au (wZ (au (zG (au (iR h (λit' s' h'=>aN (And.intro rfl h')) λ_ _ x=>x.elim)))))
   |(refine au (wZ ?_);show wpAny _ _ (standAt iter.pos >>= _) _ _ s;exact au (zG (au (iR h (λit' s' h'=>aN (And.intro rfl h')) λ_ _ x=>x.elim))))
def R5(g:TG)(tt:TT)(te:TE)(D:Addr)(bI:It)(Z:St)(H:Hp)(Nx:St->Hp->Prop):Prop:=∃W:Nat->Nat->St->Hp->Prop,(∃m,W 0 m Z H)/\∀i m Z' H',W i m Z' H'->
 (bI.stop i H'/\Nx Z' H')\/(bI.go i H'/\∃N:St->Hp->Prop,(∀Z2 H2,N Z2 H2->∃m',m'<m/\W (i+1) m' Z2 H2)/\∀x H2,bI.ux i H' x H2->g x Z' H2 λZ3 H3=>tt Z3 H3 λok H4=>
  if ok=true then te Z3 H4 λy H5=>∃ys,H5 D=some (.lst ys)/\ys.length<sizeLine/\N Z3 (upd H5 D (.lst (ys++[y]))) else N Z3 H4)
theorem zja{Y:Cx}{elt tg iter:Expr}{ifs:List Expr}{g₁:Comprehension}{scope:Scope}{pos:Pos}{g:TG}{tt:TT}{te:TE}(hc:Y.aj=true)(Oa:Y.xe=λ_ _=>False)(tgt:PG Y tg g)(Jo:Gh Y ifs tt)(el:PE Y elt te)
  {ak:List (Addr×Obj)} {s:Shared} {Z:St} {H:Hp} {D it:Addr} {fp:List Addr} {tn:Nat->Heap->Prop} {bI:It} {Nx:St->Hp->Prop} (I:Inv Y ak Z H s) (T:Turn Y.prog Y.w Y.K tg bI fp it tn) (st:tn 0 s.heap) (f:∀b∈fp,fC Y ak H b) (h:R5 g tt te D bI Z H Nx)
  {R:Result->Shared->Prop} (k:∀s' Z' H',Inv Y ak Z' H' s'->Nx Z' H'->R (.ok .next) s') :
  codeAny (model Y.prog Y.w) Y.A (.compStart (.ListComp elt [g₁,⟨tg,iter,ifs,0⟩] scope pos) 1 (.ref it) (.ref D) Y.env) R s:=by
 obtain⟨W,⟨m0,w0⟩,turn⟩:=h;have fY:∀{H':Hp},(∀b∈fp,H' b=none)->∀b∈fp,fC Y ak H' b:=λ{H'} z b hb=>⟨z b hb,(f b hb).2⟩;have loop:codeAny (model Y.prog Y.w) Y.A (.compLoop (.ListComp elt [g₁,⟨tg,iter,ifs,0⟩] scope pos) 1 (.ref it) (.ref D) Y.env) R s:=by
  refine R4 (λn s'=>∃i Z' H',Inv Y ak Z' H' s'/\tn i s'.heap/\(∀b∈fp,H' b=none)/\W i n Z' H') ?_ m0 ⟨0,Z,H,I,st,λb hb=>(f b hb).1,w0⟩;rintro n s5 ⟨i,Z5,H5,lB,tD,vZ,w5⟩;rcases turn i n Z5 H5 w5 with ⟨stop,q⟩|⟨go,Nn,hN,step⟩
  ·refine aU (T.done Y rfl rfl rfl hc i ak s5 Z5 H5 _ lB (fY vZ) tD stop) λr s6 ⟨hr,mV⟩=>?_;subst hr;exact k s6 Z5 H5 mV q
  ·refine aU (T.item Y rfl rfl rfl hc i ak s5 Z5 H5 _ lB (fY vZ) tD go) λr s6 ⟨u,hr,h6⟩=>?_;subst hr;refine aU h6 λ_ s7 hz=>?_;obtain⟨x,H7,uF,r7,y7,uG,Jq⟩:=hz;have nY:=uF.pinned (fY Jq) (T.obj _ _ uG);have a1:=tgt _ s7 Z5 H7 x u _ nY r7 (step x H7 y7);rw[Oa] at a1;refine aU a1 λ_ s8 hz=>?_;obtain⟨Z8,H8,uH,q8⟩:=hz;have a2:=Jo _ s8 Z8 H8 _ uH q8;rw[Oa] at a2;refine aU a2 λok s9 ⟨H9,uI,q9⟩=>?_;have again:∀{H':Hp} {s':Shared},Inv Y (ak++iZ fp s7.heap) Z8 H' s'->Nn Z8 H'->∃m,m<n/\∃i Z' H',Inv Y ak Z' H' s'/\tn i s'.heap/\(∀b∈fp,H' b=none)/\W i m Z' H':=λ{H' s'} fO n'=>by
    obtain⟨m',hm,w'⟩:=hN Z8 H' n';refine⟨m',hm,i+1,Z8,H',fO.dW,T.keep _ _ _ uG λb hb o e=>(fO.pin (b,o) (jG _ (jG _ (zT hb e)))).1,λb hb=>?_,w'⟩;obtain⟨o,e,d⟩:=T.obj _ _ uG b hb;exact(fO.pin (b,o) (jG _ (jG _ (zT hb e)))).2.1
   cases ok with
   |false=>
    rw[if_neg Dc] at q9 ⊢;exact again uI q9
   |true=>
    rw[if_pos rfl] at q9 ⊢;have a3:=el _ s9 Z8 H9 _ uI q9;rw[Oa] at a3;refine aU a3 λv N_ hz=>?_;obtain⟨y,RX,uJ,r10,ys,Di,hz,RZ⟩:=hz;have a4:=Rw (X:=Y) _ N_ Z8 RX (.ref D) [y] (.ref D) [v] (λ_ H'=>Nn Z8 H') uJ rfl (.cons r10 .nil) ⟨D,ys,y,rfl,rfl,Di,hz,RZ⟩;rw[Oa] at a4;exact aU a4 λ_ YM ⟨_,YQ,nZ,_,R0⟩=>again nZ R0
 exact zba loop (T.self _ 0 _ _ _ st loop)
def zV(ZY:St->St)(g₁:TG)(wi₂:TI)(g:TG)(tt:TT)(te:TE)(bI:It)(Z:St)(H:Hp)(Q:VK):Prop:=∀D,H D=none->∃W:Nat->Nat->St->Hp->Prop,(∃m,W 0 m (ZY Z) (upd H D (.lst [])))/\∀i m Z' H',W i m Z' H'->
 (bI.stop i H'/\Q (.ref D) H')\/(bI.go i H'/\∃N:St->Hp->Prop,(∀Z2 H2,N Z2 H2->∃m',m'<m/\W (i+1) m' Z2 H2)/\∀x H2,bI.ux i H' x H2->g₁ x Z' H2 λZ3 H3=>wi₂ Z3 H3 λbI₂ H5=>R5 g tt te D bI₂ Z3 H5 N)
section
variable {X:Cx}{elt tg iter tg₂ iter₂:Expr}{ifs₂:List Expr}{scope:Scope}{pos spos py:Pos}{N:List Str}{ZY:St->St}{wi wi₂:TI}{g g₁:TG}{tt:TT}{te:TE}{i:Nat}{y:Str}
structure pG(X:Cx)(elt tg tg₂ iter₂:Expr)(ifs₂:List Expr)(scope:Scope)(N:List Str)(g₁:TG)(wi₂:TI)(g:TG)(tt:TT)(te:TE):Prop where
 tgt₁:∀cl C s3 H3 fp ak,PG (X.blk scope cl N C s3 H3 fp ak) tg g₁
 it:∀cl C s3 H3 fp ak,PI (X.blk scope cl N C s3 H3 fp ak) tg₂ iter₂ wi₂
 tgt:∀cl C s3 H3 fp ak,PG (X.blk scope cl N C s3 H3 fp ak) tg₂ g
 Jo:∀cl C s3 H3 fp ak,Gh (X.blk scope cl N C s3 H3 fp ak) ifs₂ tt
 el:∀cl C s3 H3 fp ak,PE (X.blk scope cl N C s3 H3 fp ak) elt te
theorem zfa(hc:X.aj=true)(B:dw X.env.scope scope)(P:pG X elt tg tg₂ iter₂ ifs₂ scope N g₁ wi₂ g tt te)(hs₂:∀env x,foldedSetIterable iter₂ env x=pure x)(hl:∀Z,(ZY Z).length=N.length)
  (hZ:∀(Z:St) (i:Nat) (x:Str) (v:V),N[i]?=some x->(ZY Z)[i]?=some (some v)->scope.names.lookup x=some .free/\∃j:Nat,X.N[j]?=some x/\Z[j]?=some (some v))
  {ak:List (Addr×Obj)} {s:Shared} {Z:St} {H:Hp} {Q:VK} {it:Addr} {fp:List Addr} {tn:Nat->Heap->Prop} {bI:It} (I:Inv X ak Z H s) (T:Turn X.prog X.w X.K tg bI fp it tn) (st:tn 0 s.heap) (f:∀b∈fp,fC X ak H b) (h:zV ZY g₁ wi₂ g tt te bI Z H Q)
  {cl:List (Str×Addr)} (c1:∀x c,cl.lookup x=some c->X.env.cells.lookup x=some c) (c2:∀x∈scope.names,x.2=.free->∃c,cl.lookup x.1=some c) {R:Value->Addr->Result->Shared->Prop} {E:Value->Shared->Prop}
  (k:∀D C s' H',Inv X ak Z H' s'->X.s₀.heap.objs.size<=C->H' C=none->C≠X.env.locals->(∀x c,X.env.cells.lookup x=some c->c≠C)->(∀p∈X.pn++ak,p.1≠C)->(∃m,s'.heap.Ns C m)->Q (.ref D) H'->R (.ref D) C (.ok .next) s') :
  wpAny (model X.prog X.w) X.A (newList []) (λacc s₃=>wpAny (model X.prog X.w) X.A (newFunctionEnv scope X.env.globals cl [] X.env.qual none .none (some X.env)) (λcenv s₄=>
   codeAny (model X.prog X.w) X.A (.compStart (.ListComp elt [⟨tg,iter,[],0⟩,⟨tg₂,iter₂,ifs₂,0⟩] scope pos) 0 (.ref it) acc {cenv with scope:=relabel scope X.env}) (R acc cenv.locals) s₄) E s₃) E s:=by
 refine sX ?_;have hD:H s.heap.objs.size=none:=I.hok.fresh (bL _);have I3:Inv X ak Z (upd H s.heap.objs.size (.lst [])) {s with heap:=s.heap.push {cls:=.type "list",dict:=none,data:=.seq ([]:List Value).toArray}}:=
  I.laid (t':=s.toks) (λb u q=>cF _ q) (bL _) ⟨jm _,[],0,.nil,fj _ rfl⟩
 have f3:∀b∈fp,fC X ak (upd H s.heap.objs.size (.lst [])) b:=λb hb=>by
  obtain⟨a1,a2⟩:=f b hb;obtain⟨o,q,_⟩:=T.obj 0 _ st b hb;exact⟨by rw[dD (cR (bC q))];exact a1,a2⟩
 have st3:tn 0 (s.heap.push {cls:=.type "list",dict:=none,data:=.seq ([]:List Value).toArray}):=T.keep _ _ _ st λb hb o q=>cF _ q;obtain⟨W,⟨m0,w0⟩,turn⟩:=h s.heap.objs.size hD;generalize RW:({s with heap:=s.heap.push {cls:=.type "list",dict:=none,data:=.seq ([]:List Value).toArray}}:Shared)=s3 at *;have pF:tn 0 s3.heap:=by rw[<-RW];exact st3
 generalize hH3:upd H s.heap.objs.size (.lst [])=H3 at *;refine YG (λx c q=>by obtain⟨v,o,q1,_⟩:=I3.cell x c (c1 x c q);exact bC q1) (λx y c a b=>I3.ok.inj x y c (c1 x c a) (c1 y c b)) λh1 eY hn kp CN=>?_;have Dh:Inv (X.blk scope eY N s3.heap.objs.size s3 H3 fp ak) [] (ZY Z) H3 {s3 with heap:=h1}:=
  YH (t:=s3.toks) I3 B c1 c2 f3 (λb hb=>let ⟨o,q,_⟩:=T.obj 0 _ pF b hb;⟨o,q⟩) hn kp CN (hl Z) (hZ Z)
 have Jp:tn 0 h1:=T.keep _ _ _ pF λb hb o q=>kp b o q;have fY:∀{H':Hp},(∀b∈fp,H' b=none)->∀b∈fp,fC (X.blk scope eY N s3.heap.objs.size s3 H3 fp ak) [] H' b:=λ{H'} z b hb=>by
  obtain⟨a1,a2,a3,a4,a5,a6⟩:=f3 b hb;obtain⟨o,q,_⟩:=T.obj 0 _ pF b hb;refine⟨z b hb,cR (bC q),λy=>(bZ.mp (I3.jP b y)).elim a2 a3,.inl hb,λx c y=>?_,λp hp=>a6 p ?_⟩
  ·rcases CN.d1 x c y with ⟨q1,_⟩|⟨_,q1,_⟩
   ·exact a5 x c (c1 x c q1)
   ·exact λe=>absurd (bC q) (by rw[<-e];exact zM.mpr (ud q1))
  have y:p∈(X.pn++ak)++[]:=hp;simpa using y
 have loop:codeAny (model X.prog X.w) X.A (.compLoop (.ListComp elt [⟨tg,iter,[],0⟩,⟨tg₂,iter₂,ifs₂,0⟩] scope pos) 0 (.ref it) (.ref s.heap.objs.size) (compEnvC scope eY s3.heap.objs.size X.env)) (R (.ref s.heap.objs.size) s3.heap.objs.size) {s3 with heap:=h1}:=by
  refine zh9 (λn s'=>∃i Z' H',Inv (X.blk scope eY N s3.heap.objs.size s3 H3 fp ak) [] Z' H' s'/\tn i s'.heap/\(∀b∈fp,H' b=none)/\W i n Z' H') (hs₂ _) ?_ m0 ⟨0,ZY Z,H3,Dh,Jp,λb hb=>(f3 b hb).1,w0⟩;rintro n s5 ⟨i,Z5,H5,lB,tD,vZ,w5⟩;rcases turn i n Z5 H5 w5 with ⟨stop,q⟩|⟨go,Nx,hN,step⟩
  ·refine aU (T.done (X.blk scope eY N s3.heap.objs.size s3 H3 fp ak) rfl rfl rfl hc i [] s5 Z5 H5 _ lB (fY vZ) tD stop) λr s6 ⟨hr,mV⟩=>?_;subst hr;have JX:=YL I3 f3 mV;refine k s.heap.objs.size s3.heap.objs.size s6 H5 JX I3.sz mV.free (fB I3.lt) (λx c y z=>?_) (λp hp z=>?_) ?_ q
   ·obtain⟨v,qc⟩:=I3.cell x c y;exact absurd qc.lt (by rw[z];exact mD _)
   ·exact absurd (bC (I3.pin p hp).1) (by rw[z];exact mD _)
   ·obtain⟨m,hm,_⟩:=mV.loc;exact⟨m,hm⟩
  ·refine aU (T.item (X.blk scope eY N s3.heap.objs.size s3 H3 fp ak) rfl rfl rfl hc i [] s5 Z5 H5 _ lB (fY vZ) tD go) λr s6 ⟨u,hr,h6⟩=>?_;subst hr;refine aU h6 λ_ s7 hz=>?_;obtain⟨x,H7,uF,r7,y7,uG,Jq⟩:=hz;have nY:=uF.pinned (fY Jq) (T.obj _ _ uG);refine aU (P.tgt₁ eY s3.heap.objs.size s3 H3 fp ak _ s7 Z5 H7 x u _ nY r7 (step x H7 y7)) λ_ s8 hz=>?_;obtain⟨Z8,H8,uH,q8⟩:=hz;refine aU (wpAny_tests_nil (env:=compEnvC scope eY s3.heap.objs.size X.env) (Q:=λok s'=>ok=true/\s'=s8) ⟨rfl,rfl⟩) λok s9 ⟨e9,e9'⟩=>?_;subst e9 e9';rw[if_pos rfl];refine aU (P.it eY s3.heap.objs.size s3 H3 fp ak _ s9 Z8 H8 _ uH q8) λxv N_ h10=>aU h10 λitv YM h11=>?_;obtain⟨it₂,fp₂,tn₂,bI₂,YQ,e11,nZ,T₂,st₂,f₂,hq⟩:=h11;subst e11;refine zja (Y:=X.blk scope eY N s3.heap.objs.size s3 H3 fp ak) hc rfl (P.tgt eY s3.heap.objs.size s3 H3 fp ak) (P.Jo eY s3.heap.objs.size s3 H3 fp ak) (P.el eY s3.heap.objs.size s3 H3 fp ak) nZ T₂ st₂ f₂ hq λs' Z' H' fO n'=>⟨rfl,?_⟩;obtain⟨m',hm,w'⟩:=hN Z' H' n';refine⟨m',hm,i+1,Z',H',fO.dW,T.keep _ _ _ uG λb hb o e=>(fO.pin (b,o) (jG _ (jG _ (zT hb e)))).1,λb hb=>?_,w'⟩;obtain⟨o,e,d⟩:=T.obj _ _ uG b hb;exact(fO.pin (b,o) (jG _ (jG _ (zT hb e)))).2.1
 exact codeAny_compStart_list loop (T.self _ 0 _ _ _ Jp loop)
noncomputable def uM(wi:TI)(ZY:St->St)(g₁:TG)(wi₂:TI)(g:TG)(tt:TT)(te:TE):TE:=λZ H Q=>wi Z H λbI H1=>zV ZY g₁ wi₂ g tt te bI Z H1 Q
theorem zhw(hc:X.aj=true)(B:dw X.env.scope scope)(hi:PI X tg iter wi)(P:pG X elt tg tg₂ iter₂ ifs₂ scope N g₁ wi₂ g tt te)(hs₂:∀env x,foldedSetIterable iter₂ env x=pure x)(hl:∀Z,(ZY Z).length=N.length)
  (hZ:∀(Z:St) (i:Nat) (x:Str) (v:V),N[i]?=some x->(ZY Z)[i]?=some (some v)->scope.names.lookup x=some .free/\∃j:Nat,X.N[j]?=some x/\Z[j]?=some (some v))
  (hs:∀x,foldedSetIterable iter X.env x=pure x:=by intro _;rfl):PE X (.ListComp elt [⟨tg,iter,[],0⟩,⟨tg₂,iter₂,ifs₂,0⟩] scope pos) (uM wi ZY g₁ wi₂ g tt te):=by
 intro ak s Z H Q I h;obtain⟨cl,uL,c1,c2⟩:=R3 I B;rw[eval_ListComp];refine Qi (use:=none) rfl hs uL B.kind B.loc (aU (hi ak s Z H _ I h) λxv s1 h1=>aU h1 λitv s2 h2=>?_);obtain⟨it,fp,tn,bI,H2,e,I2,T,st2,f2,hq⟩:=h2;subst e;exact zfa hc B P hs₂ hl hZ I2 T st2 f2 hq c1 c2 (R:=λacc C=>compPost (model X.prog X.w) X.A X.xe none (EP X ak Z Q) acc C) λD C s' H' fO a b c d e ⟨m,hm⟩ q=>⟨m,hm,λh' sb=>⟨.ref D,H',RT (Z':=Z) fO a b c d e sb,rfl,q⟩⟩
end
end L2
namespace L2
open PySem PySem.Spec PyProof.Rows PySem.W
noncomputable def bD{α:Type}(lt:Nat->Nat->Option Bool):KasT α->Option α
 |.ret a=>some a
 |.ask i j k=>match lt i j with
  |some b=>bD lt (k b)
  |none=>none
theorem YS{α:Type}{lt:Nat->Nat->Option Bool}{cmp:Nat->Nat->(Bool->Shared->Prop)->Shared->Prop}{Q:α->Shared->Prop}{s:Shared}(hc:∀i j b C,lt i j=some b->C b s->cmp i j C s){a:α}(q:Q a s):∀{t:KasT α},bD lt t=some a->t.kasWp cmp Q s
 |.ret a',h=>by
  unfold bD at h;cases h;exact q
 |.ask i j k,h=>by
  unfold bD at h;cases e:lt i j with
  |none=>rw[e] at h;cases h
  |some b=>
   rw[e] at h;exact hc i j b _ e (YS hc q h)
noncomputable def gD(vs:List Value)(p:Array Nat):Array Value:=if vs.length<2 then vs.toArray else List.toArray (p.toList.map λi=>vs.getD i Value.none)
section
variable {prog:Program}{w:World}{A:Around}{E:Value->Shared->Prop}{s:Shared}{κ:SortKind}{lt:Nat->Nat->Option Bool}{p:Array Nat}
theorem YT{a:Addr}{vs:List Value}{n:Nat}{P:PySem.Fin->Shared->Prop}(ho:s.heap.get? a=some (seqObj "list" vs.toArray n))(rJ:vs.length<64)
  (hk:2<=vs.length->∀(s':Shared) (Q:SortKind->Shared->Prop),(∀b o,b≠a->s.heap.get? b=some o->s'.heap.get? b=some o)->Q κ s'->wpAny (model prog w) A (keyKind' vs.toArray) Q E s')
  (bW:2<=vs.length->∀(s':Shared) i j b C,(∀b o,b≠a->s.heap.get? b=some o->s'.heap.get? b=some o)->lt i j=some b->C b s'->kas_ask prog w A κ vs i j C s') (hr:2<=vs.length->bD lt (kas_sort vs.length)=some p) (Js:2<=vs.length->p.size=vs.length)
  (h:P (.done (.ret .none)) {s with heap:=sortedHeap s.heap a vs (gD vs p)}) :
  wpAny (model prog w) A (Builtin.«list.sort» ⟨[.ref a],[]⟩) P E s:=by
 rw[list_sort_plain];have ha:a<s.heap.objs.size:=bC ho;refine au (listItems_at ho rfl ?_);refine au (listUpdate_at ho rfl ?_ (by rw[dH,sZ];lia) (jm _));obtain⟨e1,Ob⟩ : ∃e1,(s.heap.update a (Obj.mapSeq λ_=>#[])).get? a=some (seqObj "list" #[] e1):=⟨_,get?_update_seq ho (λ_=>#[])⟩;refine au (seqEpoch_at Ob rfl ?_);refine au (wpAny_newTuple ?_ (by show vs.length<=_;rw[sZ];lia));refine au (wpAny_newList ?_ (jm _));refine k_ ?_;have keep:∀b o,b≠a->s.heap.get? b=some o->(((s.heap.update a (Obj.mapSeq λ_=>(#[]:Array Value))).push (seqObj "tuple" vs.toArray 0)).push (seqObj "list" #[] 0)).get? b=some o:=λb o nb e=>
  cF _ (cF _ ((Heap.get?_update_ne _ _ _ _ nb).trans e))
 have Oc:(((s.heap.update a (Obj.mapSeq λ_=>(#[]:Array Value))).push (seqObj "tuple" vs.toArray 0)).push (seqObj "list" #[] 0)).get? a=some (seqObj "list" #[] e1):=by
  rw[Mx _ _ _ (by rw[size_push',Heap.size_update];exact cR (kO ha)),Mx _ _ _ (by rw[Heap.size_update];exact cR ha)];exact Ob
 show wpAny (model prog w) A _ P E {s with heap:=((s.heap.update a (Obj.mapSeq λ_=>#[])).push (seqObj "tuple" vs.toArray 0)).push (seqObj "list" #[] 0)};dsimp only;have iw:vs.toArray.size=vs.length:=by simp
 by_cases h2:vs.toArray.size<2
 ·rw[if_pos h2,if_pos h2];refine au (aN ?_);rw[StateT.run_pure];refine au (aN ?_);dsimp only;refine au (seqEpoch_at Oc rfl ?_);refine au (listUpdate_at Oc rfl ?_ (jm _) (by rw[Array.size_map];show (pairsOf vs).size<=_;rw[pairsOf_size,sZ];lia));simp only[FN,mC,lq];have e:((vs.toArray.zip vs.toArray).map (·.2))=gD vs p:=by
   unfold gD;rw[if_pos (by rw[iw] at h2;exact h2)];apply Array.toList_inj.mp;simp[List.map_snd_zip]
  refine aN ?_;have h':=h;rw[<-e] at h';exact h'
 ·rw[if_neg h2,if_neg h2];have n6:2<=vs.length:=by lia
  refine au (hk n6 _ _ keep ?_);refine au (iR (kat_run (κ:=κ) (ks:=vs) (vs:=vs) (G:=λp' s'=>p'=p/\s'={s with heap:=((s.heap.update a (Obj.mapSeq λ_=>#[])).push (seqObj "tuple" vs.toArray 0)).push (seqObj "list" #[] 0)})
   (Q:=λst' s'=>arrOf st'=p.map (kas_item (vs.toArray.zip vs.toArray))/\failedOf st'=none/\s'={s with heap:=((s.heap.update a (Obj.mapSeq λ_=>#[])).push (seqObj "tuple" vs.toArray 0)).push (seqObj "list" #[] 0)})
   rfl n6 rJ (λp' st' s' a1 a2 a3 a4=>⟨by rw[a2,a4.1],a3,a4.2⟩) (YS (λi j b C hl hC=>bW n6 _ i j b C keep hl hC) ⟨rfl,rfl⟩ (hr n6))) ?_ λ_ _ e=>e)
  rintro⟨⟨⟩,st'⟩ s' ⟨Od,hf,rfl⟩;dsimp only;have hout:=kat_snds (ks:=vs) (vs:=vs) rfl Od;have e:List.toArray (p.toList.map λi=>vs.getD i Value.none)=gD vs p:=by
   unfold gD;rw[if_neg gV]
  rw[hout,e];have hso:(gD vs p).size=vs.length:=by rw[<-e,dH,aW,Fz,Js n6]
  refine au (seqEpoch_at Oc rfl ?_);refine au (listUpdate_at Oc rfl ?_ (jm _) (by rw[hso,sZ];lia));rw[hf];simp only[FN,mC,lq];exact aN h
theorem R6(hl:s.heap.IsList l vs.toArray)(rJ:vs.length<64)
  (hk:2<=vs.length->∀(s':Shared) (Q:SortKind->Shared->Prop) E,(∀b o,s.heap.get? b=some o->s'.heap.get? b=some o)->Q κ s'->wpAny (model prog w) A.in1.in1 (keyKind' vs.toArray) Q E s')
  (bW:2<=vs.length->∀(s':Shared) i j b C,(∀b o,s.heap.get? b=some o->s'.heap.get? b=some o)->lt i j=some b->C b s'->kas_ask prog w A.in1.in1 κ vs i j C s') (hr:2<=vs.length->bD lt (kas_sort vs.length)=some p) (Js:2<=vs.length->p.size=vs.length)
  (h:Q (.ref (s.heap.objs.size+1)) {s with heap:=sortedAll s.heap vs (gD vs p)}) :
  wpAny (model prog w) A (call (.builtin "sorted") [.ref l]) Q E s:=by
 refine Calls.call_function_entry kind_sorted plain_sorted entry_sorted (args_sorted1 _) ?_;unfold Builtin.«sorted»;refine au (m:=checkCount "sorted" 1 1 _) (aN ?_);refine au (collect_list hl ?_ (by rw[sZ];lia));refine au (wpAny_newList ?_ (by rw[sZ];lia));have iw:((s.heap.push (seqObj "list" #[] 0)).update s.heap.objs.size (Obj.mapSeq (·++vs.toArray))).objs.size=s.heap.objs.size+1:=by
  rw[Heap.size_update,size_push']
 have zQ:(((s.heap.push (seqObj "list" #[] 0)).update s.heap.objs.size (Obj.mapSeq (·++vs.toArray))).push (seqObj "list" vs.toArray 0)).get? (s.heap.objs.size+1)=some (seqObj "list" vs.toArray 0):=by
  rw[<-iw];exact fj _ rfl
 have keep:∀b o,s.heap.get? b=some o->(((s.heap.push (seqObj "list" #[] 0)).update s.heap.objs.size (Obj.mapSeq (·++vs.toArray))).push (seqObj "list" vs.toArray 0)).get? b=some o:=λb o q=>by
  have bW:b<s.heap.objs.size:=bC q;rw[Mx _ _ _ (by rw[iw];exact cR (kO bW)),Heap.get?_update_ne _ _ _ _ (cR bW),Mx _ _ _ (cR bW)];exact q
 show wpAny _ _ _ _ _ {s with heap:=((s.heap.push (seqObj "list" #[] 0)).update s.heap.objs.size (Obj.mapSeq (·++vs.toArray))).push (seqObj "list" vs.toArray 0)};rw[iw];have nn:∀b o,s.heap.get? b=some o->b≠s.heap.objs.size+1:=λb o e=>cR (kO (bC e));refine au (k_ (o_ slot_list_sort ⟨_,zQ,rfl⟩ entry_list_sort (YT (κ:=κ) (lt:=lt) (p:=p) zQ rJ (λh2 s' Q' k q=>hk h2 s' Q' _ (λb o e=>k b o (nn b o e) (keep b o e)) q) (λh2 s' i j b C k e q=>bW h2 s' i j b C (λb o e=>k b o (nn b o e) (keep b o e)) e q) hr Js ⟨_,rfl,?_⟩) (args_list_sort _)));exact aN ⟨_,rfl,h⟩
end
noncomputable def lC:List V->List V->Option Bool
 |[],ys=>some (decide (0<ys.length))
 |_::_,[]=>some false
 |.int x::xs,.int y::ys=>if x=y then lC xs ys else some (decide (x<y))
 |_::_,_::_=>none
theorem zl9{prog:Program}{w:World}{A:Around}{s:Shared}{fin:Bool}{C:Bool->Shared->Prop}{b:Bool}:∀{us ws:List V} {its jts:List Value} {i:Nat},Vals us its->Vals ws jts->lC us ws=some b->fin=decide (us.length<ws.length)->C b s->KatLex prog w A true fin C (its.zip jts) i s:=by
 intro us ws its jts i r1
 induction r1 generalizing ws jts i with
 |nil=>
  intro _ h hf hc;rw[List.zip_nil_left];unfold lC at h;cases h;rw[hf];exact kat_nil hc
 |@cons x u us its rx ri ih=>
  intro r2 h hf hc;cases r2 with
  |nil=>
   rw[List.zip_nil_right];unfold lC at h;cases h;rw[hf];exact kat_nil (by simpa using hc)
  |@cons y v ws jts ry rj=>
   rw[Qs];cases x with
   |int a=>
    cases y with
    |int c=>
     obtain⟨t,rfl⟩:=rx;obtain⟨t',rfl⟩:=ry;unfold lC at h;refine kat_cons (wpAny_eqBool_int ?_);by_cases e:a=c
     ·rw[if_pos e] at h;subst e;rw[wW];exact kat_yes (ih rj h (by rw[hf];simp) hc)
     ·rw[if_neg e] at h;cases h;rw[show (a==c)=false by simpa using e];refine kat_no ?_;by_cases hi:i=0
      ·subst hi;exact oneLt_int hc
      ·rw[show (true&&i==0)=false by simpa using hi];exact kat_one _ _ (wpAny_lt_int hc)
    |_=>cases h
   |_=>cases y<;>cases h
def uN(K:W.Frag)(H:Hp)(ys:List V)(lt:Nat->Nat->Option Bool):Prop:=
 ((∀v∈ys,∃i,v=V.int i)/\∀i j b,lt i j=some b->∃x y,ys[i]?=some (.int x)/\ys[j]?=some (.int y)/\b=decide (x<y)) \/
 ((∀v∈ys,∃a i r,v=.ref a/\gC K H a (.int i::r))/\∀i j b,lt i j=some b->∃a c us ws,ys[i]?=some (.ref a)/\ys[j]?=some (.ref c)/\gC K H a us/\gC K H c ws/\lC us ws=some b)
noncomputable def lD(ys:List V)(p:Array Nat):List V:=if ys.length<2 then ys else p.toList.map λi=>ys.getD i .non
theorem R7(r:Vals ys its):∀l:List Nat,Vals (l.map λi=>ys.getD i .non) (l.map λi=>its.getD i Value.none)
 |[]=>.nil
 |i::l=>by
  refine .cons ?_ (R7 r l);cases e:ys[i]? with
  |some y=>
   obtain⟨u,e1,e2⟩:=r.get e;show RelV (ys.getD i .non) (its.getD i Value.none);rw[g_,g_,e,e1];exact e2
  |none=>
   have e1:its[i]?=none:=by rw[oH] at e ⊢;rw[<-r.length];exact e
   show RelV (ys.getD i .non) (its.getD i Value.none);rw[g_,g_,e,e1];rfl
theorem zie{ys:List V}{its:List Value}(r:Vals ys its)(p:Array Nat):Vals (lD ys p) (gD its p).toList:=by
 unfold lD gD;rw[r.length];by_cases h:its.length<2
 ·rw[if_pos h,if_pos h];exact r
 ·rw[if_neg h,if_neg h];exact R7 r p.toList
theorem zif{ys:List V}{its:List Value}(r:Vals ys its):∀u∈its,∃v∈ys,RelV v u:=by
 induction r with
 |nil=>intro u hu;cases hu
 |cons h t ih=>
  intro u hu;rcases bZ.mp hu with rfl|hu
  ·exact⟨_,gA,h⟩
  ·obtain⟨v,a,b⟩:=ih u hu;exact⟨v,eF _ a,b⟩
section
variable {X:Cx}
theorem YW{prog:Program}{w:World}{A:Around}{E:Value->Shared->Prop}{s:Shared}{its:List Value}{Q:SortKind->Shared->Prop}(h2:2<=its.length)(hi:∀u∈its,∃i t,u=Value.int i t)(q:Q oneType' s):wpAny (model prog w) A (keyKind' its.toArray) Q E s:=
 kas_kind (T:=.type "int") h2 (λv hv=>by obtain⟨i,t,rfl⟩:=hi v hv;exact .of_pure rfl) Dc Dc q
theorem zjG{K:W.Frag}{ak:List (Addr×Obj)}{s:Shared}{Z:St}{H:Hp}(I:Inv X ak Z H s){h':Heap}(k:∀b o,s.heap.get? b=some o->h'.get? b=some o):∀{ys:List V} {its:List Value},Vals ys its->(∀v∈ys,∃a i r,v=.ref a/\gC X.K H a (.int i::r))->∃fs:List Value,fs.length=its.length/\(∀f∈fs,∃i t,f=Value.int i t)/\KatTups h' its fs:=by
 intro ys its r0
 induction r0 with
 |nil=>exact λ_=>⟨[],rfl,(λf hf=>by cases hf),trivial⟩
 |@cons v u ys its r rs ih=>
  intro h;obtain⟨a,i,r',rfl,hq⟩:=h _ gA;obtain⟨fs,l,hf,kt⟩:=ih λv hv=>h v (eF _ hv);obtain⟨its',rv,⟨o,ho,hc,n,hd⟩,_⟩:=I.tuple hq;cases (show u=Value.ref a from r);cases rv with
  |cons ri rr=>
   obtain⟨t,rfl⟩:=ri;refine⟨Value.int i t::fs,by simp[l],λf hf'=>?_,KatTups.cons (k _ _ ho) hc hd J0 kt⟩;rcases bZ.mp hf' with rfl|z
   ·exact⟨i,t,rfl⟩
   ·exact hf f z
theorem zgl{prog:Program}{w:World}{A:Around}{E:Value->Shared->Prop}{s:Shared}{its fs:List Value}{Q:SortKind->Shared->Prop}(h2:2<=its.length)(hl:fs.length=its.length)(hi:∀u∈fs,∃i t,u=Value.int i t)(kt:KatTups s.heap its fs)(q:Q (tuples' true) s):wpAny (model prog w) A (keyKind' its.toArray) Q E s:=
 kat_kind (T:=.type "int") kt gV (λv hv=>by obtain⟨i,t,rfl⟩:=hi v hv;exact .of_pure rfl) Dc q
theorem Gi{its:List Value}{i:Nat}{u:Value}(h:its[i]?=some u):its.getD i Value.none=u:=by rw[g_,h];rfl
theorem zdK:cT X (.builtin "sorted") (λxs H Q=>∃l ys lt p,xs=[.ref l]/\cY X.K H l ys/\ys.length<64/\(2<=ys.length->uN X.K H ys lt/\bD lt (kas_sort ys.length)=some p/\p.size=ys.length)/\∀r,H r=none->Q (.ref r) (upd H r (.lst (lD ys p)))):=by
 intro ak s Z H xs us Q I r h;obtain⟨l,ys,lt,p,rfl,hq,rJ,hs,q⟩:=h;obtain⟨u,rfl,rx⟩:=vals1 r;cases rx;obtain⟨its,rv,pl,hz⟩:=I.list hq;have hlen:=rv.length;have fin:EP X ak Z Q (.ref (s.heap.objs.size+1)) {s with heap:=sortedAll s.heap its (gD its p)}:=by
  obtain⟨e,he⟩:=sortedAll_at s.heap its (gD its p);have hn:H (s.heap.objs.size+1)=none:=I.hok.fresh (Nat.le_succ _);refine⟨.ref (s.heap.objs.size+1),_,I.laid (t':=s.toks) (λb u q=>sortedAll_old q) (Nat.le_succ _) (show aV X.prog X.w _ _ _ (.lst (lD ys p)) from ⟨?_,(gD its p).toList,e,zie rv p,by rw[Array.toArray_toList];exact he⟩),rfl,q _ hn⟩;unfold lD;by_cases h2:ys.length<2
  ·rw[if_pos h2];exact hz
  ·rw[if_neg h2,aW,Fz,(hs gV).2.2];exact hz
 by_cases h2:2<=ys.length
 ·obtain⟨hS,hr,hp⟩:=hs h2;rcases hS with ⟨hI,bW⟩|⟨hT,bW⟩
  ·refine R6 (κ:=oneType') (lt:=lt) (p:=p) pl.isList gV (λn6 s' Q' E' k q'=>YW n6 (λu hu=>?_) q') (λ_ s' i j b C k e hC=>?_) (λ_=>by rw[<-hlen];exact hr) (λ_=>by lia) fin
   ·obtain⟨v,hv,rr⟩:=zif rv u hu;obtain⟨i,rfl⟩:=hI v hv;obtain⟨t,rfl⟩:=rr;exact⟨i,t,rfl⟩
   ·obtain⟨x,y,e1,e2,rfl⟩:=bW i j b e;obtain⟨u1,f1,g1⟩:=rv.get e1;obtain⟨u2,f2,g2⟩:=rv.get e2;obtain⟨t1,rfl⟩:=g1;obtain⟨t2,rfl⟩:=g2;show wpAny _ _ (keyLt' oneType' (its.getD i Value.none) (its.getD j Value.none)) C _ s';rw[Gi f1,Gi f2];exact kat_lt_int hC
  ·refine R6 (κ:=tuples' true) (lt:=lt) (p:=p) pl.isList gV (λn6 s' Q' E' k q'=>?_) (λ_ s' i j b C k e hC=>?_) (λ_=>by rw[<-hlen];exact hr) (λ_=>by lia) fin
   ·obtain⟨fs,l1,hf,kt⟩:=zjG (K:=X.K) I k rv hT;exact zgl n6 l1 hf kt q'
   ·obtain⟨a,c,us,ws,e1,e2,q1,q2,e3⟩:=bW i j b e;obtain⟨u1,f1,g1⟩:=rv.get e1;obtain⟨u2,f2,g2⟩:=rv.get e2;cases (show u1=Value.ref a from g1);cases (show u2=Value.ref c from g2);obtain⟨i1,r1,⟨o1,Ob,hc1,n1,hd1⟩,_⟩:=I.tuple q1;obtain⟨i2,r2,⟨o2,pC,tH,n2,hd2⟩,_⟩:=I.tuple q2;show wpAny _ _ (keyLt' (tuples' true) (its.getD i Value.none) (its.getD j Value.none)) C _ s';rw[Gi f1,Gi f2];refine kat_lt (k _ _ Ob) hd1 (k _ _ pC) hd2 (zl9 r1 r2 e3 ?_ hC);rw[r1.length,r2.length];simp
 ·exact R6 (κ:=oneType') (lt:=lt) (p:=p) pl.isList gV (λn6=>absurd n6 gV) (λn6=>absurd n6 gV) (λn6=>absurd n6 gV) (λn6=>absurd n6 gV) fin
end
end L2
namespace L2
open PySem PySem.Spec PyProof.Rows PySem.W PySem.Calls
structure XF(K:Frag)(C:Addr)(f:Str):Prop where
 ga:findIn K (.ref C) "__getattribute__"=some (some (.builtin "BaseException.__getattribute__"))
 gn:findIn K (.ref C) "__getattr__"=some none
 mb:mroIn K C (.type "BaseException")=some true
 no:findIn K (.ref C) f=some none
 hd:hasDictIn K C=true
end L2
namespace L2
open PySem PySem.Spec PyProof.Rows
section
variable {X:Cx}{ak:List (Addr×Obj)}{Z:St}{H:Hp}{s:Shared}{h':Heap}
theorem Inv.lR{t':Nat}{ch:List Addr}{a:Addr}{o:HO}(I:Inv X ak Z H s)(k:∀b u,b∉ch->s.heap.get? b=some u->h'.get? b=some u)(hf:∀b∈ch,fC X ak H b)(ha:s.heap.objs.size<=a)(new:aV X.prog X.w (upd H a o) h' a o) :
  Inv X ak Z (upd H a o) {s with heap:=h',toks:=t'}:=by
 have zO:∀b u,H b=some u->b∉ch:=λb u e z=>by rw[(hf b z).1] at e;cases e
 have hn:H a=none:=I.hok.fresh ha;have na:∀b u,H b=some u->b≠a:=λb u e z=>by rw[z,hn] at e;cases e
 have la:∀b u,s.heap.get? b=some u->b≠a:=λb u e=>cR (dh (bC e) ha);refine I.step (g':=s.gens) (d':=s.drawn) (ch:=ch) (λb hb=>?_) (λb o _ _ hc e _=>k b o hc e) (λb o _ _ hc e _=>⟨o.slots,k b o hc e⟩) (λb o' _ e n=>by rw[dD (la b o' e)];exact n)
  (λb o hc e=>⟨o,k b o hc e⟩) (λb xs e=>by rw[dD (na b _ e)];exact e) (λb o u e=>by rw[dD (na b _ e)];exact e) (λb ps e=>⟨#[],by rw[dD (na b _ e),e];simp⟩) (λm hm=>?_) (λb u e=>?_) I.bare
 ·obtain⟨f0,f1,f2,f3,f4,f5⟩:=hf b hb;exact⟨f3.imp id λz=>Hj z,f1,f4,f5⟩
 ·obtain⟨o,es,ep,ho,r⟩:=hm;exact⟨o,es,ep,k _ o (λz=>(hf _ z).2.1 rfl) ho,r⟩
 ·by_cases z:b=a
  ·subst z;rw[jO] at e;cases e;exact new
  ·rw[dD z] at e;refine(I.hok b u e).stay (λc v hc q=>k c v ?_ q) (λc q=>by rw[dD (na c _ q)];exact q) λc _ q=>by rw[dD (na c _ q)];exact q
   rcases hc with y|y
   ·rw[y];exact zO b u e
   ·exact zO c _ y
theorem Inv.qF{t':Nat}{ch:List Addr}(I:Inv X ak Z H s)(k:∀b u,b∉ch->s.heap.get? b=some u->h'.get? b=some u)(hf:∀b∈ch,fC X ak H b):Inv X ak Z H {s with heap:=h',toks:=t'}:=by
 have zO:∀b u,H b=some u->b∉ch:=λb u e z=>by rw[(hf b z).1] at e;cases e
 refine I.step (g':=s.gens) (d':=s.drawn) (ch:=ch) (λb hb=>?_) (λb o _ _ hc e _=>k b o hc e) (λb o _ _ hc e _=>⟨o.slots,k b o hc e⟩) (λ_ _ _ _ n=>n)
  (λb o hc e=>⟨o,k b o hc e⟩) (λ_ _ e=>e) (λ_ _ _ e=>e) (λb ps e=>⟨#[],by rw[e];simp⟩) (λm hm=>?_) (λb u e=>?_) I.bare
 ·obtain⟨f0,f1,f2,f3,f4,f5⟩:=hf b hb;exact⟨f3.imp id λz=>Hj z,f1,f4,f5⟩
 ·obtain⟨o,es,ep,ho,r⟩:=hm;exact⟨o,es,ep,k _ o (λz=>(hf _ z).2.1 rfl) ho,r⟩
 ·refine(I.hok b u e).stay (λc v hc q=>k c v ?_ q) (λ_ q=>q) λ_ _ q=>q;rcases hc with y|y
  ·rw[y];exact zO b u e
  ·exact zO c _ y
end
structure iU(prog:Program)(w:World)(it src:Addr)(st:Nat->Heap->Prop)(its:Array Value):Prop where
 item:∀(A:Around) (E:Value->Shared->Prop) (s:Shared) (i:Nat) (x:Value) (Q:Value->Shared->Prop),st i s.heap->its[i]?=some x->(∀h',st (i+1) h'->Heap.SameBut it s.heap h'->Q x {s with heap:=h'})->wpAny (model prog w) A (Builtin.SmallTypes.nextOf (.ref it)) Q E s
 fin:∀(A:Around) (E:Value->Shared->Prop) (s:Shared) (i:Nat) (Q:Value->Shared->Prop),A.handled=none->st i s.heap->its[i]?=none->(∀h' e,Heap.ExtBut it s.heap h'->(∃o,h'.get? e=some o/\o.cls=.type "StopIteration")->E (.ref e) {s with heap:=h'})->wpAny (model prog w) A (Builtin.SmallTypes.nextOf (.ref it)) Q E s
 keep:∀i h h',st i h->(∀b o,b=it\/b=src->h.get? b=some o->h'.get? b=some o)->st i h'
theorem iU.list(hne:l≠it):iU prog w it l (λi h=>h.IsListIter it l i/\h.IsList l its) its where
 item:=λA E s i x Q ⟨h1,h2⟩ hx q=>wpAny_nextOf_list_item h1 h2 hx λh' a sb=>q h' ⟨a,h2.at λo e=>(sb.2 l hne).trans e⟩ sb
 fin:=λA E s i Q hh ⟨h1,h2⟩ hx q=>wpAny_nextOf_list_end hh h1 h2 hx q
 keep:=λi h h' ⟨h1,h2⟩ k=>⟨h1.at λo e=>k it o (.inl rfl) e,h2.at λo e=>k l o (.inr rfl) e⟩
theorem YX(l:Addr):¬((Value.ref l==Value.none)=true):=λz=>by cases (show false=true from z)
theorem IsTupleIter.at'{h h':Heap}{it l:Addr}{i:Nat}(x:h.IsTupleIter it l i)(k:∀o,h.get? it=some o->h'.get? it=some o):h'.IsTupleIter it l i:=by
 obtain⟨o,e,r⟩:=x;exact⟨o,k o e,r⟩
theorem IsTuple.at'{h h':Heap}{l:Addr}{xs:Array Value}(x:h.IsTuple l xs)(k:∀o,h.get? l=some o->h'.get? l=some o):h'.IsTuple l xs:=by
 obtain⟨o,e,r⟩:=x;exact⟨o,k o e,r⟩
section
variable {prog:Program}{w:World}{A:Around}{E:Value->Shared->Prop}{s:Shared}{it l:Addr}{i:Nat}{its:Array Value}
theorem ze5{x:Value}{Q:Value->Shared->Prop}(hi:s.heap.IsTupleIter it l i)(hl:s.heap.IsTuple l its)(hx:its[i]?=some x)(q:∀h',h'.IsTupleIter it l (i+1)->Heap.SameBut it s.heap h'->Q x {s with heap:=h'}) :
  wpAny (model prog w) A (Builtin.SmallTypes.nextOf (.ref it)) Q E s:=by
 obtain⟨oi,ei,ci,di⟩:=id hi;obtain⟨ol,el,_,nl,dl⟩:=hl;unfold Builtin.SmallTypes.nextOf;refine au (vO (name:=Str.ofString "__next__") hi.typeIs Ml (o_ Ml hi.typeIs F.entry_tuple_iterator_next ?_ (F.args_tuple_iterator_next_1 _)));show wpAny _ A.in1 (field (.ref it) 0 >>= _) _ E s;refine au (jA ei di (x:=.ref l) rfl ?_);show wpAny _ A.in1 (if (Value.ref l==Value.none)=true then _ else _) _ E s;rw[if_neg (YX l)];show wpAny _ A.in1 (field (.ref it) 1 >>= _) _ E s;refine au (jA ei di (x:=.int i 0) rfl ?_);show wpAny _ A.in1 (seqItems? (.ref l) >>= _) _ E s;refine au (uc el dl ?_);simp only[wR,hx];refine au (zE ei di J0 (aN ⟨x,rfl,aN (q _ ⟨_,qe _ ei (Mq (zx di _)),(Obj.cls_mapFields ..).trans ci,?_⟩ (t_ ..))⟩));rw[zx di];simp[rawInt]
theorem zfB{Q:Value->Shared->Prop}(hh:A.handled=none)(hi:s.heap.IsTupleIter it l i)(hl:s.heap.IsTuple l its)(hx:its[i]?=none)(q:∀h' e,Heap.ExtBut it s.heap h'->(∃o,h'.get? e=some o/\o.cls=.type "StopIteration")->E (.ref e) {s with heap:=h'}) :
  wpAny (model prog w) A (Builtin.SmallTypes.nextOf (.ref it)) Q E s:=by
 obtain⟨oi,ei,ci,di⟩:=id hi;obtain⟨ol,el,_,nl,dl⟩:=hl;unfold Builtin.SmallTypes.nextOf;refine au (vO (name:=Str.ofString "__next__") hi.typeIs Ml (o_ Ml hi.typeIs F.entry_tuple_iterator_next ?_ (F.args_tuple_iterator_next_1 _)));show wpAny _ A.in1 (field (.ref it) 0 >>= _) _ E s;refine au (jA ei di (x:=.ref l) rfl ?_);show wpAny _ A.in1 (if (Value.ref l==Value.none)=true then _ else _) _ E s;rw[if_neg (YX l)];show wpAny _ A.in1 (field (.ref it) 1 >>= _) _ E s;refine au (jA ei di (x:=.int i 0) rfl ?_);show wpAny _ A.in1 (seqItems? (.ref l) >>= _) _ E s;refine au (uc el dl ?_);simp only[wR,hx];refine au (wZ (au (zE ei di J0 ?_)));show wpAny _ A.in1 (newExc (.type "StopIteration") [] >>= _) _ E _;refine au ?_;simp only[newExc,newTuple];refine au (sX (au (m:=firstArgMember _ _) (Cd (a:=Value.none) (by first|rfl|(simp only[firstArgMember];rfl)) (sX ?_ (by size_fits)))) (by size_fits));simp only[raiseNew];refine au (wpAny_handled ?_);rw[show A.in1.handled=none from hh];exact au (aN (wpAny_throw (q _ _ (((t_ ..).extBut.push _).push _) ⟨_,fj _ rfl,rfl⟩)))
end
theorem iU.tuple{prog:Program}{w:World}{it l:Addr}{its:Array Value}(hne:l≠it):iU prog w it l (λi h=>h.IsTupleIter it l i/\h.IsTuple l its) its where
 item:=λA E s i x Q ⟨h1,h2⟩ hx q=>ze5 h1 h2 hx λh' a sb=>q h' ⟨a,IsTuple.at' h2 λo e=>(sb.2 l hne).trans e⟩ sb
 fin:=λA E s i Q hh ⟨h1,h2⟩ hx q=>zfB hh h1 h2 hx q
 keep:=λi h h' ⟨h1,h2⟩ k=>⟨IsTupleIter.at' h1 λo e=>k it o (.inl rfl) e,IsTuple.at' h2 λo e=>k l o (.inr rfl) e⟩
structure eG(z TI TO i1 i2 l1 l2:Addr):Prop where
 zs:z≠TI/\z≠TO/\z≠i1/\z≠i2/\z≠l1/\z≠l2
 os:TO≠TI/\TO≠i1/\TO≠i2/\TO≠l1/\TO≠l2
 is:TI≠i1/\TI≠i2/\i1≠i2/\i1≠l1/\i1≠l2/\i2≠l1/\i2≠l2
section
variable {prog:Program}{w:World}{A:Around}{E:Value->Shared->Prop}{s:Shared}{z TI TO i1 i2 l1 l2:Addr}{st1 st2:Nat->Heap->Prop}{xs ys:Array Value}{k:Nat}{a b:Value}
theorem YZ(N1:iU prog w i1 l1 st1 xs)(N2:iU prog w i2 l2 st2 ys)(D:eG z TI TO i1 i2 l1 l2)(hz:IsZip s.heap z TI TO .none)(wj:IsPair s.heap TI (.ref i1) (.ref i2))(tK:IsPair s.heap TO a b)
  (h1:st1 k s.heap) (h2:st2 k s.heap) (hx:xs[k]?=some x) (hy:ys[k]?=some y)
  (q:∀h',IsZip h' z TI TO (rawInt s.heap.objs.size)->IsPair h' TO x y->st1 (k+1) h'->st2 (k+1) h'->IsPair h' s.heap.objs.size x y->h'.objs.size=s.heap.objs.size+1->(∀c o,c≠z->c≠TO->c≠i1->c≠i2->s.heap.get? c=some o->h'.get? c=some o)->Q (some (.ref s.heap.objs.size)) {s with heap:=h'}) :
  wpAny (model prog w) A (pyNext (.ref z)) Q E s:=by
 obtain⟨⟨z1,z2,z3,z4,z5,z6⟩,⟨t1,t2,t3,t4,t5⟩,⟨j1,j2,j3,j4,j5,j6,j7⟩⟩:=D;have hT:s.TypeIs (.ref z) "zip":=⟨_,hz,rfl⟩;unfold pyNext;refine au (zJ (vO (name:=Str.ofString "__next__") hT wY (o_ wY hT M4 ?_ (Mz _))));show wpAny _ A.in1 (field (.ref z) 2 >>= _) _ _ s;refine au (jA hz rfl (x:=.bool false) rfl ?_);show wpAny _ A.in1 (field (.ref z) 3 >>= _) _ _ s;refine au (jA hz rfl (x:=.ref TI) rfl (au (uc wj rfl ?_)));show wpAny _ A.in1 (Builtin.SmallTypes.ownedTupleIsFree (.ref z) >>= _) _ _ s;refine au ?_;unfold Builtin.SmallTypes.ownedTupleIsFree;refine au (jA hz rfl (x:=.none) rfl (aN ?_));simp only[if_true];refine au (wZ (au (jA hz rfl (x:=.ref TO) rfl (au (BW hz J0 λha za sa=>au ?_)))))
 replace za:IsZip ha z TI TO .ellipsis:=za
 simp only[List.zipIdx_cons,List.zipIdx_nil,Ca,FT];refine au (au (wpAny_onRaise ?_));show wpAny _ A.in1 (Builtin.SmallTypes.nextOf (.ref i1) >>= _) _ _ _;refine au (N1.item _ _ {s with heap:=ha} k x _ (N1.keep _ _ _ h1 λc o hc e=>sa.extBut c o (by rcases hc with rfl|rfl;exact z3.symm;exact z5.symm) e) hx λhb Jt sb=>aN ?_);have tb:IsPair hb TO a b:=sb.extBut _ _ t2 (sa.extBut _ _ z2.symm tK);refine au (uc tb rfl (au (Qq tb λhc tc sc=>au (wpAny_letGo (aN ?_)))))
 replace tc:IsPair hc TO x b:=tc
 refine au (au (wpAny_onRaise ?_));show wpAny _ A.in1 (Builtin.SmallTypes.nextOf (.ref i2) >>= _) _ _ _;have k2:st2 k hc:=N2.keep _ _ _ h2 λc o iY e=>by
  rcases iY with rfl|rfl
  ·exact sc.extBut _ _ t3.symm (sb.extBut _ _ j3.symm (sa.extBut _ _ z4.symm e))
  ·exact sc.extBut _ _ t5.symm (sb.extBut _ _ j5.symm (sa.extBut _ _ z6.symm e))
 have k1:st1 (k+1) hc:=N1.keep _ _ _ Jt λc o iY e=>by
  rcases iY with rfl|rfl
  ·exact sc.extBut _ _ t2.symm e
  ·exact sc.extBut _ _ t4.symm e
 refine au (N2.item _ _ {s with heap:=hc} k y _ k2 hy λhd R9 sd=>aN ?_);have td:IsPair hd TO x b:=sd.extBut _ _ t3 tc;refine au (uc td rfl (au (Qq td λhe te se=>au (wpAny_letGo (aN (aN ?_))))))
 replace te:IsPair he TO x y:=te
 refine au (uc te rfl (au (wpAny_newTuple ?_)));have size:he.objs.size=s.heap.objs.size:=by rw[se.1,sd.1,sc.1,sb.1,sa.1]
 have ze:IsZip he z TI TO .ellipsis:=se.extBut _ _ z2 (sd.extBut _ _ z4 (sc.extBut _ _ z2 (sb.extBut _ _ z3 za)));have kept:∀c o,c≠z->c≠TO->c≠i1->c≠i2->s.heap.get? c=some o->he.get? c=some o:=λc o c1 c2 c3 c4 e=>se.extBut _ _ c2 (sd.extBut _ _ c4 (sc.extBut _ _ c2 (sb.extBut _ _ c3 (sa.extBut _ _ c1 e))));have e1:st1 (k+1) he:=N1.keep _ _ _ k1 λc o iY e=>by
  rcases iY with rfl|rfl
  ·exact se.extBut _ _ t2.symm (sd.extBut _ _ j3 e)
  ·exact se.extBut _ _ t4.symm (sd.extBut _ _ j6.symm e)
 have e2:st2 (k+1) he:=N2.keep _ _ _ R9 λc o iY e=>by
  rcases iY with rfl|rfl
  ·exact se.extBut _ _ t3.symm e
  ·exact se.extBut _ _ t5.symm e
 show wpAny _ A.in1 (Builtin.SmallTypes.ownedTupleHandOut (.ref z) (.ref he.objs.size) >>= _) _ _ _;refine au ?_;unfold Builtin.SmallTypes.ownedTupleHandOut;have zf:IsZip (he.push {cls:=.type "tuple",data:=.seq #[x,y]}) z TI TO .ellipsis:=cF _ ze;refine au (BW zf J0 λhg zg sg=>BW zg J0 λhh zh sh=>aN ⟨_,rfl,aN ?_⟩)
 replace zh:IsZip hh z TI TO (rawInt he.objs.size):=zh
 have up:∀c o,c≠z->he.get? c=some o->hh.get? c=some o:=λc o c1 e=>sh.extBut _ _ c1 (sg.extBut _ _ c1 (cF _ e));have lz:z<he.objs.size:=bC ze;have tn:IsPair hh he.objs.size x y:=sh.extBut _ _ (fB lz) (sg.extBut _ _ (fB lz) (fj _ rfl));have sz:hh.objs.size=he.objs.size+1:=by rw[sh.1,sg.1,qj]
 rw[size] at zh tn sz;show Q (some (.ref he.objs.size)) _;rw[size];exact q hh zh (up _ _ z2.symm te) (N1.keep _ _ _ e1 λc o iY e=>up c o (by rcases iY with rfl|rfl;exact z3.symm;exact z5.symm) e) (N2.keep _ _ _ e2 λc o iY e=>up c o (by rcases iY with rfl|rfl;exact z4.symm;exact z6.symm) e) tn sz λc o c1 c2 c3 c4 e=>up c o c1 (kept c o c1 c2 c3 c4 e)
theorem Y0(hn:A.handled=none)(N1:iU prog w i1 l1 st1 xs)(N2:iU prog w i2 l2 st2 ys)(D:eG z TI TO i1 i2 l1 l2)(hz:IsZip s.heap z TI TO .none)(wj:IsPair s.heap TI (.ref i1) (.ref i2))(tK:IsPair s.heap TO a b)
  (h1:st1 k s.heap) (h2:st2 k s.heap) (hx:xs[k]?=none\/ys[k]?=none) (q:∀h',(∀c o,c≠z->c≠TO->c≠i1->c≠i2->s.heap.get? c=some o->h'.get? c=some o)->Q none {s with heap:=h'}):wpAny (model prog w) A (pyNext (.ref z)) Q E s:=by
 obtain⟨⟨z1,z2,z3,z4,z5,z6⟩,⟨t1,t2,t3,t4,t5⟩,⟨j1,j2,j3,j4,j5,j6,j7⟩⟩:=D;have hT:s.TypeIs (.ref z) "zip":=⟨_,hz,rfl⟩;have stop:∀(h':Heap) (e:Addr),(∀c o,c≠z->c≠TO->c≠i1->c≠i2->s.heap.get? c=some o->h'.get? c=some o)->(∃o,h'.get? e=some o/\o.cls=.type "StopIteration")->
   wpAny (model prog w) A (do if <-isInstance (.ref e) (.type "StopIteration") then pure none else throw (.ref e):Sem (Option Value)) Q E {s with heap:=h'}:=λh' e kp ⟨o,ho,hc⟩=>
  au (Hw (T:="StopIteration") (b:=true) ⟨o,ho,hc⟩ isSubtype_stop (aN (q h' kp)))
 unfold pyNext;refine au (zJ (vO (name:=Str.ofString "__next__") hT wY (o_ wY hT M4 ?_ (Mz _))));show wpAny _ A.in1 (field (.ref z) 2 >>= _) _ _ s;refine au (jA hz rfl (x:=.bool false) rfl ?_);show wpAny _ A.in1 (field (.ref z) 3 >>= _) _ _ s;refine au (jA hz rfl (x:=.ref TI) rfl (au (uc wj rfl ?_)));show wpAny _ A.in1 (Builtin.SmallTypes.ownedTupleIsFree (.ref z) >>= _) _ _ s;refine au ?_;unfold Builtin.SmallTypes.ownedTupleIsFree;refine au (jA hz rfl (x:=.none) rfl (aN ?_));simp only[if_true];refine au (wZ (au (jA hz rfl (x:=.ref TO) rfl (au (BW hz J0 λha za sa=>au ?_)))))
 replace za:IsZip ha z TI TO .ellipsis:=za
 simp only[List.zipIdx_cons,List.zipIdx_nil,Ca,FT];refine au (au (wpAny_onRaise ?_));show wpAny _ A.in1 (Builtin.SmallTypes.nextOf (.ref i1) >>= _) _ _ _;have ka:st1 k ha:=N1.keep _ _ _ h1 λc o hc e=>sa.extBut c o (by rcases hc with rfl|rfl;exact z3.symm;exact z5.symm) e;cases ex:xs[k]? with
 |none=>
  refine au (N1.fin _ _ {s with heap:=ha} k _ hn ka ex λhb e sb se=>?_);obtain⟨oe,ho,hc⟩:=se;have zb:IsZip hb z TI TO .ellipsis:=sb _ _ z3 za;have ne:e≠z:=λy=>by subst y;rw[zb] at ho;cases ho;simp at hc
  exact BW zb J0 λhd _ sd=>stop hd e (λc o c1 _ c3 _ y=>sd.extBut _ _ c1 (sb _ _ c3 (sa.extBut _ _ c1 y))) ⟨oe,sd.extBut _ _ ne ho,hc⟩
 |some x=>
  have ey:ys[k]?=none:=by
   rcases hx with y|y
   ·rw[ex] at y;cases y
   ·exact y
  refine au (N1.item _ _ {s with heap:=ha} k x _ ka ex λhb Jt sb=>aN ?_);have tb:IsPair hb TO a b:=sb.extBut _ _ t2 (sa.extBut _ _ z2.symm tK);refine au (uc tb rfl (au (Qq tb λhc tc sc=>au (wpAny_letGo (aN ?_)))));refine au (au (wpAny_onRaise ?_));show wpAny _ A.in1 (Builtin.SmallTypes.nextOf (.ref i2) >>= _) _ _ _;have k2:st2 k hc:=N2.keep _ _ _ h2 λc o iY e=>by
   rcases iY with rfl|rfl
   ·exact sc.extBut _ _ t3.symm (sb.extBut _ _ j3.symm (sa.extBut _ _ z4.symm e))
   ·exact sc.extBut _ _ t5.symm (sb.extBut _ _ j5.symm (sa.extBut _ _ z6.symm e))
  refine au (N2.fin _ _ {s with heap:=hc} k _ hn k2 ey λhd e sd se=>?_);obtain⟨oe,ho,uL⟩:=se;have zd:IsZip hd z TI TO .ellipsis:=sd _ _ z4 (sc.extBut _ _ z2 (sb.extBut _ _ z3 za));have ne:e≠z:=λy=>by subst y;rw[zd] at ho;cases ho;simp at uL
  exact BW zd J0 λhf _ sf=>stop hf e (λc o c1 c2 c3 c4 y=>sf.extBut _ _ c1 (sd _ _ c4 (sc.extBut _ _ c2 (sb.extBut _ _ c3 (sa.extBut _ _ c1 y))))) ⟨oe,sf.extBut _ _ ne ho,uL⟩
end
noncomputable def Ck:Bool->Heap->Addr->Array Value->Prop
 |true,h,l,xs=>h.IsList l xs
 |false,h,l,xs=>h.IsTuple l xs
noncomputable def Rk:Bool->Addr->Addr->Nat->Heap->Prop
 |true,it,l,i,h=>h.IsListIter it l i
 |false,it,l,i,h=>h.IsTupleIter it l i
noncomputable def Sk:Bool->W.Frag->Hp->Addr->List V->Prop
 |true,K,H,l,xs=>cY K H l xs
 |false,K,H,l,xs=>gC K H l xs
noncomputable def f9:Bool->Addr->Obj
 |true,l=>{cls:=.type "list_iterator",data:=.fields #[.ref l,.int 0 0]}
 |false,l=>{cls:=.type "tuple_iterator",data:=.fields #[.ref l,.int 0 0]}
theorem iU.of(kd:Bool)(hne:l≠it):iU prog w it l (λi h=>Rk kd it l i h/\Ck kd h l its) its:=by
 cases kd
 ·exact iU.tuple hne
 ·exact iU.list hne
theorem Ck.keep(x:Ck kd h l xs)(k:∀o,h.get? l=some o->h'.get? l=some o):Ck kd h' l xs:=by
 cases kd
 ·exact IsTuple.at' x k
 ·exact Heap.IsList.at x k
theorem Rk.keep(x:Rk kd it l i h)(k:∀o,h.get? it=some o->h'.get? it=some o):Rk kd it l i h':=by
 cases kd
 ·exact IsTupleIter.at' x k
 ·exact Heap.IsListIter.at x k
theorem Rk.obj(x:Rk kd it l i h):∃o,h.get? it=some o/\∀v,o.data≠.cell v:=by
 cases kd
 ·obtain⟨o,e,c,d⟩:=x;exact⟨o,e,λv z=>by rw[d] at z;cases z⟩
 ·obtain⟨o,e,c,d⟩:=x;exact⟨o,e,λv z=>by rw[d] at z;cases z⟩
theorem Ck.lt(x:Ck kd h l xs):l<h.objs.size:=by
 cases kd
 ·obtain⟨o,e,_⟩:=x;exact bC e
 ·obtain⟨o,e,_⟩:=x;exact bC e
section
variable {prog:Program}{w:World}{A:Around}{E:Value->Shared->Prop}{s:Shared}
theorem Oe(c:Ck kd s.heap l xs)(q:Q (.ref s.heap.objs.size) {s with heap:=s.heap.push (f9 kd l)}):wpAny (model prog w) A (pyIter (.ref l)) Q E s:=by
 cases kd
 ·exact Mu c q
 ·exact MF c q
end
noncomputable def zH(h:Heap)(k1 k2:Bool)(l1 l2:Addr):Heap:=((((h.push (f9 k1 l1)).push (f9 k2 l2)).push {cls:=.type "tuple",data:=.seq #[.ref h.objs.size,.ref (h.push (f9 k1 l1)).objs.size]}).push {cls:=.type "tuple",data:=.seq #[.none,.none]}).push
 {cls:=.type "zip",data:=.fields #[.none,.bool false,.bool false,.ref ((h.push (f9 k1 l1)).push (f9 k2 l2)).objs.size,.ref (((h.push (f9 k1 l1)).push (f9 k2 l2)).push {cls:=.type "tuple",data:=.seq #[.ref h.objs.size,.ref (h.push (f9 k1 l1)).objs.size]}).objs.size]}
theorem zhj(k1 k2:Bool)(l1 l2:Addr)(xs ys:Array Value):Meets (Builtin.«zip.__new__» ⟨[.type "zip",.ref l1,.ref l2],[]⟩) (λ_ R s=>Ck k1 s.heap l1 xs/\Ck k2 s.heap l2 ys /\
   R (.ok (.ret (.ref ((((s.heap.push (f9 k1 l1)).push (f9 k2 l2)).push {cls:=.type "tuple",data:=.seq #[.ref s.heap.objs.size,.ref (s.heap.push (f9 k1 l1)).objs.size]}).push {cls:=.type "tuple",data:=.seq #[.none,.none]}).objs.size))) {s with heap:=zH s.heap k1 k2 l1 l2}):=
 .of_wp λprog w A R s h=>by
  obtain⟨hp,g,d,tk,os⟩:=s;obtain⟨c1,c2,h⟩:=h;have hsub:=sub_zip;have C1:Ck k1 (Shared.heap ⟨hp,g,d,tk,os⟩) l1 xs:=c1;have C2:Ck k2 (Shared.heap ⟨hp.push (f9 k1 l1),g,d,tk,os⟩) l2 ys:=c2.keep λo e=>cF _ e
  wp_walk using Oe C1,Oe C2
  exact⟨_,rfl,h⟩
section
variable {prog:Program}{w:World}{A:Around}{E:Value->Shared->Prop}{s:Shared}
theorem Y4(c1:Ck k1 s.heap l1 xs)(c2:Ck k2 s.heap l2 ys)
  (h:∀h',IsZip h' (s.heap.objs.size+4) (s.heap.objs.size+2) (s.heap.objs.size+3) .none->IsPair h' (s.heap.objs.size+2) (.ref s.heap.objs.size) (.ref (s.heap.objs.size+1))->IsPair h' (s.heap.objs.size+3) .none .none->
   Rk k1 s.heap.objs.size l1 0 h'->Rk k2 (s.heap.objs.size+1) l2 0 h'->(∀c o,s.heap.get? c=some o->h'.get? c=some o)->Q (.ref (s.heap.objs.size+4)) {s with heap:=h'}) :
  wpAny (model prog w) A (call (.type "zip") [.ref l1,.ref l2]) Q E s:=by
 refine callType_new F.called_zip Dc (F.typeCall_zip_2 _ _) (F.newCall_zip_2 _ _) (λobj=>F.args_object_init_3 obj _ _) F.entry_zip_new (zhj k1 k2 l1 l2 xs ys) ⟨c1,c2,?_⟩;have n1:(s.heap.push (f9 k1 l1)).objs.size=s.heap.objs.size+1:=qj ..;have n2:((s.heap.push (f9 k1 l1)).push (f9 k2 l2)).objs.size=s.heap.objs.size+2:=by rw[qj,n1]
 have fr:∀kd l,(f9 kd l).isFreed=false:=λkd l=>by cases kd<;>rfl
 have rk:∀{h:Heap} {a:Addr} {kd:Bool} {l:Addr},h.get? a=some (f9 kd l)->Rk kd a l 0 h:=λ{h a kd l} e=>by
  cases kd
  ·exact⟨_,e,rfl,rfl⟩
  ·exact⟨_,e,rfl,rfl⟩
 have o1:(s.heap.push (f9 k1 l1)).get? s.heap.objs.size=some (f9 k1 l1):=fj _ (fr _ _);have o2:((s.heap.push (f9 k1 l1)).push (f9 k2 l2)).get? (s.heap.objs.size+1)=some (f9 k2 l2):=by
  have:=fj (s.heap.push (f9 k1 l1)) (o:=f9 k2 l2) (fr _ _);rw[n1] at this;exact this
 generalize hA:(s.heap.push (f9 k1 l1)).push (f9 k2 l2)=Og at *;have eH:zH s.heap k1 k2 l1 l2=((Og.push {cls:=.type "tuple",data:=.seq #[.ref s.heap.objs.size,.ref (s.heap.objs.size+1)]}).push {cls:=.type "tuple",data:=.seq #[.none,.none]}).push {cls:=.type "zip",data:=.fields #[.none,.bool false,.bool false,.ref (s.heap.objs.size+2),.ref (s.heap.objs.size+3)]}:=by
  unfold zH;rw[hA,n1,n2,qj,n2]
 have n3:(Og.push {cls:=.type "tuple",data:=.seq #[.ref s.heap.objs.size,.ref (s.heap.objs.size+1)]}).objs.size=s.heap.objs.size+3:=by rw[qj,n2]
 have n4:((Og.push {cls:=.type "tuple",data:=.seq #[.ref s.heap.objs.size,.ref (s.heap.objs.size+1)]}).push {cls:=.type "tuple",data:=.seq #[.none,.none]}).objs.size=s.heap.objs.size+4:=by rw[qj,n3]
 rw[n1,n4];have g5:(zH s.heap k1 k2 l1 l2).get? (s.heap.objs.size+4)=some {cls:=.type "zip",data:=.fields #[.none,.bool false,.bool false,.ref (s.heap.objs.size+2),.ref (s.heap.objs.size+3)]}:=by
  rw[eH,<-n4];exact fj _ rfl
 have g4:(zH s.heap k1 k2 l1 l2).get? (s.heap.objs.size+3)=some {cls:=.type "tuple",data:=.seq #[.none,.none]}:=by
  rw[eH,<-n3];exact cF _ (fj _ rfl)
 have g3:(zH s.heap k1 k2 l1 l2).get? (s.heap.objs.size+2)=some {cls:=.type "tuple",data:=.seq #[.ref s.heap.objs.size,.ref (s.heap.objs.size+1)]}:=by
  rw[eH,<-n2];exact cF _ (cF _ (fj _ rfl))
 have up:∀c o,Og.get? c=some o->(zH s.heap k1 k2 l1 l2).get? c=some o:=λc o e=>by rw[eH];exact cF _ (cF _ (cF _ e))
 refine⟨⟨_,g5,rfl⟩,h _ g5 g3 g4 (rk (up _ _ ?_)) (rk (up _ _ o2)) λc o e=>up _ _ ?_⟩
 ·rw[<-hA];exact cF _ o1
 ·rw[<-hA];exact cF _ (cF _ e)
end
noncomputable def R_(K:W.Frag)(k1 k2:Bool)(l1 l2:Addr):It:=
 ⟨λi H=>∃xs ys x y,Sk k1 K H l1 xs/\Sk k2 K H l2 ys/\xs[i]?=some x/\ys[i]?=some y,
  λi H v H'=>∃a x y,H a=none/\v=.ref a/\H'=upd H a (.tup [x,y])/\(∀xs,Sk k1 K H l1 xs->xs[i]?=some x)/\∀ys,Sk k2 K H l2 ys->ys[i]?=some y,
  λi H=>∃xs ys,Sk k1 K H l1 xs/\Sk k2 K H l2 ys/\(xs.length<=i\/ys.length<=i)⟩
section
variable {X:Cx}{ak:List (Addr×Obj)}{Z:St}{H:Hp}{s:Shared}{kd:Bool}{l:Addr}{xs ys:List V}
theorem Inv.row(I:Inv X ak Z H s)(h:Sk kd X.K H l xs):∃its:List Value,Vals xs its/\Ck kd s.heap l its.toArray:=by
 cases kd
 ·obtain⟨its,rv,p,hz⟩:=I.tuple h;exact⟨its,rv,p⟩
 ·obtain⟨its,rv,p,hz⟩:=I.list h;exact⟨its,rv,p.isList⟩
theorem Inv.mW(I:Inv X ak Z H s)(h:Sk kd X.K H l xs)(h':Sk kd X.K H l ys):xs=ys:=by
 cases kd
 ·exact I.lQ h h'
 ·exact I.nP h h'
end
theorem zij{P:Program}{w:World}{K:W.Frag}{elts:List Expr}{kk:Nat}{pos:Pos}{k1 k2:Bool}{l1 l2 z TI TO i1 i2:Addr}(D:eG z TI TO i1 i2 l1 l2) :
  Turn P w K (.Tuple elts kk pos) (R_ K k1 k2 l1 l2) [z,TI,TO,i1,i2] z (λi h=>IsZip h z TI TO .none/\IsPair h TI (.ref i1) (.ref i2)/\(∃a b,IsPair h TO a b)/\Rk k1 i1 l1 i h/\Rk k2 i2 l2 i h) where
 mem:=by simp
 obj:=λi h ⟨a1,a2,⟨p,q,a3⟩,a4,a5⟩ b hb=>by
  have:b=z\/b=TI\/b=TO\/b=i1\/b=i2:=by simpa using hb
  rcases this with rfl|rfl|rfl|rfl|rfl
  ·exact⟨_,a1,λv y=>by cases y⟩
  ·exact⟨_,a2,λv y=>by cases y⟩
  ·exact⟨_,a3,λv y=>by cases y⟩
  ·exact a4.obj
  ·exact a5.obj
 keep:=λi h h' ⟨a1,a2,⟨p,q,a3⟩,a4,a5⟩ k=>⟨k z J0 _ a1,k TI J0 _ a2,⟨p,q,k TO J0 _ a3⟩,a4.keep λo e=>k i1 J0 o e,a5.keep λo e=>k i2 J0 o e⟩
 item:=by
  rintro X hP hw hK hc i ak s Z H E I hf ⟨a1,a2,⟨p,q,a3⟩,a4,a5⟩ hg;subst hP hw hK;obtain⟨xs,ys,x,y,zW,zX,hx,hy⟩:=hg;obtain⟨Sd,Dj,c1⟩:=I.row zW;obtain⟨xZ,Dk,c2⟩:=I.row zX;obtain⟨u,hu,ru⟩:=Dj.get hx;obtain⟨v,hv,rv⟩:=Dk.get hy;have D':=D;obtain⟨⟨z1,z2,z3,z4,z5,z6⟩,⟨t1,t2,t3,t4,t5⟩,⟨j1,j2,j3,j4,j5,j6,j7⟩⟩:=D';refine YZ (iU.of k1 j4.symm) (iU.of k2 j7.symm) D a1 a2 a3 ⟨a4,c1⟩ ⟨a5,c2⟩ (x:=u) (y:=v) (by simpa using hu) (by simpa using hv) λh1 b1 b2 b3 b4 b5 b6 kp=>?_;refine⟨_,rfl,wpAny_letOwnedTupleGo_zip (s:={s with heap:=h1}) b1 λh2 e2 sb=>?_⟩;have Dl:IsPair h2 s.heap.objs.size u v:=(sb.2 _ (fB (bC a1))).trans b5;have kk:∀b o,b∉[z,TI,TO,i1,i2]->s.heap.get? b=some o->h2.get? b=some o:=λb o hb e=>(sb.2 b λy=>hb (by simp[y])).trans (kp b o (λy=>hb (by simp[y])) (λy=>hb (by simp[y])) (λy=>hb (by simp[y])) (λy=>hb (by simp[y])) e);have I2:=I.lR (t':=s.toks) (a:=s.heap.objs.size) (o:=.tup [x,y]) kk (λb hb=>hf b hb) (bL _) (show aV X.prog X.w _ h2 _ (.tup [x,y]) from ⟨by show 2<=sizeLine;decide,[u,v],.cons ru (.cons rv .nil),⟨_,Dl,rfl,_,rfl⟩⟩);have hn:H s.heap.objs.size=none:=I.hok.fresh (bL _);refine⟨.ref s.heap.objs.size,_,I2,rfl,⟨_,x,y,hn,rfl,rfl,λzs hz=>by rw[I.mW hz zW];exact hx,λzs hz=>by rw[I.mW hz zX];exact hy⟩,⟨e2,(sb.2 _ z1.symm).trans (kp _ _ z1.symm t1.symm j1 j2 a2),⟨_,_,(sb.2 _ z2.symm).trans b2⟩,b3.1.keep λo e=>(sb.2 _ z3.symm).trans e,b4.1.keep λo e=>(sb.2 _ z4.symm).trans e⟩,λb hb=>?_⟩;have nb:b≠s.heap.objs.size:=by
   have:b=z\/b=TI\/b=TO\/b=i1\/b=i2:=by simpa using hb
   rcases this with rfl|rfl|rfl|rfl|rfl
   ·exact cR (bC a1)
   ·exact cR (bC a2)
   ·exact cR (bC a3)
   ·obtain⟨o,e,_⟩:=a4.obj;exact cR (bC e)
   ·obtain⟨o,e,_⟩:=a5.obj;exact cR (bC e)
  rw[dD nb];exact(hf b hb).1
 done:=by
  rintro X hP hw hK hc i ak s Z H E I hf ⟨a1,a2,⟨p,q,a3⟩,a4,a5⟩ hg;subst hP hw hK;obtain⟨xs,ys,zW,zX,hx⟩:=hg;obtain⟨Sd,Dj,c1⟩:=I.row zW;obtain⟨xZ,Dk,c2⟩:=I.row zX;have n1:=Dj.length;have n2:=Dk.length;refine Y0 (I.ok.hd hc) (iU.of k1 D.is.2.2.2.1.symm) (iU.of k2 D.is.2.2.2.2.2.2.symm) D a1 a2 a3 ⟨a4,c1⟩ ⟨a5,c2⟩ ?_ λh' kp=>⟨rfl,I.qF (t':=s.toks) (ch:=[z,TI,TO,i1,i2]) (λb o hb e=>kp b o (λy=>hb (by simp[y])) (λy=>hb (by simp[y])) (λy=>hb (by simp[y])) (λy=>hb (by simp[y])) e) λb hb=>hf b hb⟩;rcases hx with y|y
  ·exact .inl (by simp;lia)
  ·exact .inr (by simp;lia)
 self:=λ_ _ _ _ _ ⟨a1,_⟩ h=>wpAny_pyIter_zip a1 h
section
variable {X:Cx}
noncomputable def Sg(K:W.Frag)(ta:TA):TI:=λZ H R=>ta Z H λvs H1=>∃k1 k2 l1 l2 xs ys,vs=[.ref l1,.ref l2]/\Sk k1 K H1 l1 xs/\Sk k2 K H1 l2 ys/\R (R_ K k1 k2 l1 l2) H1
theorem Y5:bootBuiltins "zip"=some (.type "zip"):=by decide +kernel
theorem zkL{a b:Expr}{ta:TA}{p pos tpos:Pos}{elts:List Expr}{kk:Nat}(hg:Gl X "zip")(hm:X.mg "zip"=none)(ha:PA X [a,b] ta)(hs:starEach [a,b] X.env=[(false,eval a X.env),(false,eval b X.env)]:=by rfl)(xJ:starEach [b] X.env=[(false,eval b X.env)]:=by rfl) :
  PI X (.Tuple elts kk tpos) (.Call (.Name "zip" p) [a,b] [] pos) (Sg X.K ta):=by
 intro ak s Z H R I h;refine Call_ (uo I hg hm Y5 (zj (aU (ha pos ak s Z H _ I h) λus s1 hz=>?_) (by rw[hs,xJ]) (by rw[xJ];rfl)));obtain⟨vs,H1,I1,r1,q1⟩:=hz;obtain⟨k1,k2,l1,l2,xs,ys,e,zW,zX,q⟩:=q1;subst e;cases r1 with
 |cons r rr=>
  cases rr with
  |cons r' rr=>
   cases rr;cases r;cases r';obtain⟨Sd,Dj,c1⟩:=I1.row zW;obtain⟨xZ,Dk,c2⟩:=I1.row zX;have m1:=c1.lt;have m2:=c2.lt;refine Y4 c1 c2 λh' b1 b2 b3 b4 b5 kp=>?_;refine wpAny_pyIter_zip b1 ?_;have ne:∀{u v:Nat},u<v->u≠v:=λh=>cR h;have D:eG (s1.heap.objs.size+4) (s1.heap.objs.size+2) (s1.heap.objs.size+3) s1.heap.objs.size (s1.heap.objs.size+1) l1 l2:=
    ⟨⟨(ne gV).symm,(ne gV).symm,(ne gV).symm,(ne gV).symm,(ne (dh m1 gV)).symm,(ne (dh m2 gV)).symm⟩,
     ⟨(ne gV).symm,(ne gV).symm,(ne gV).symm,(ne (dh m1 gV)).symm,(ne (dh m2 gV)).symm⟩,
     ⟨(ne gV).symm,(ne gV).symm,ne gV,(ne m1).symm,(ne m2).symm,(ne (dh m1 gV)).symm,(ne (dh m2 gV)).symm⟩⟩
   refine⟨s1.heap.objs.size+4,[s1.heap.objs.size+4,s1.heap.objs.size+2,s1.heap.objs.size+3,s1.heap.objs.size,s1.heap.objs.size+1],_,_,H1,rfl,I1.kept (t':=s1.toks) kp,zij D,⟨b1,b2,⟨_,_,b3⟩,b4,b5⟩,λb hb=>?_,q⟩;have:s1.heap.objs.size<=b:=by
    have:b=s1.heap.objs.size+4\/b=s1.heap.objs.size+2\/b=s1.heap.objs.size+3\/b=s1.heap.objs.size\/b=s1.heap.objs.size+1:=by simpa using hb
    rcases this with rfl|rfl|rfl|rfl|rfl<;>lia
   exact I1.uy this (I1.hok.fresh this)
end
noncomputable def Ite(K:W.Frag)(kd:Bool)(l:Addr):It:=
 ⟨λi H=>∃xs x,Sk kd K H l xs/\xs[i]?=some x,λi H v H'=>∃a x,H a=none/\v=.ref a/\H'=upd H a (.tup [.int i,x])/\∀xs,Sk kd K H l xs->xs[i]?=some x,λi H=>∃xs,Sk kd K H l xs/\xs.length<=i⟩
theorem Dm{prog:Program}{w:World}{A:Around}(hh:A.handled=none)(kd:Bool){it l:Addr}(hne:l≠it)(its:Array Value):Draws prog w A it [it,l] its.size (λi v=>its[i]?=some v) (λi h=>Rk kd it l i h/\Ck kd h l its) where
 live:=λ_ _ st=>let ⟨o,e,_⟩:=st.1.obj;⟨o,e⟩
 frame:=λ_ _ _ st k=>⟨st.1.keep λo e=>k it J0 o e,st.2.keep λo e=>k l J0 o e⟩
 item:=λi s Q E hi st q=>(iU.of kd hne).item A E s i its[i] Q st (by simp[hi]) λh' a b=>q _ h' s.toks (by simp[hi]) a b
 done:=λs Q E st q=>(iU.of kd hne).fin A E s its.size Q hh st J0 q
theorem zhA(kd:Bool)(l:Addr)(xs:Array Value):Meets (Builtin.«enumerate.__new__» ⟨[.type "enumerate",.ref l],[]⟩) (λ_ R s=>Ck kd s.heap l xs /\
   R (.ok (.ret (.ref (s.heap.push (f9 kd l)).objs.size))) {s with heap:=(s.heap.push (f9 kd l)).push {cls:=.type "enumerate",data:=.fields #[.none,.bool false,.ref s.heap.objs.size,rawInt 0,.none,.none]}}):=
 .of_wp λprog w A R s h=>by
  obtain⟨hp,g,d,tk,os⟩:=s;obtain⟨c1,h⟩:=h;have hsub:=sub_enumerate;have C1:Ck kd (Shared.heap ⟨hp,g,d,tk,os⟩) l xs:=c1;obtain⟨ol,el⟩ : ∃o,hp.get? l=some o:=by
   cases kd
   ·obtain⟨o,e,_⟩:=c1;exact⟨o,e⟩
   ·obtain⟨o,e,_⟩:=c1;exact⟨o,e⟩
  wp_walk using Qj el
  refine wpAny_stack_any λst=>aN ?_
  split
  ·rename_i c _ _ _ _ _;cases (c==Value.type "enumerate")<;>(wp_walk using Qj el,Oe C1;exact⟨_,rfl,h⟩)
  ·wp_walk using Qj el,Oe C1
   exact⟨_,rfl,h⟩
theorem zid{prog:Program}{w:World}{A:Around}{E:Value->Shared->Prop}{s:Shared}{e it l:Addr}{its:Array Value}{st:Nat->Heap->Prop}{i:Nat}{old:Value}{Q:Option Value->Shared->Prop}(hh:A.handled=none)(N:iU prog w it l st its)(he:IsEnum s.heap e it i old)(xH:st i s.heap)(hx:its[i]?=none)
  (q:∀h',Heap.ExtBut it s.heap h'->Q none {s with heap:=h'}):wpAny (model prog w) A (pyNext (.ref e)) Q E s:=by
 have ty:s.TypeIs (.ref e) "enumerate":=⟨_,he,rfl⟩;have body:∀{E':Value->Shared->Prop},(∀h' x,Heap.ExtBut it s.heap h'->(∃o,h'.get? x=some o/\o.cls=.type "StopIteration")->E' (.ref x) {s with heap:=h'})->wpAny (model prog w) A.in1 (Builtin.«enumerate.__next__» ⟨[.ref e],[]⟩) (λ_ _=>False) E' s:=λk=>by
  show wpAny _ A.in1 (field (.ref e) 2 >>= _) _ _ _;exact au (jA he rfl (x:=.ref it) rfl (au (N.fin A.in1 _ s i _ hh xH hx k)))
 unfold pyNext;refine au (zJ (vO (name:=Str.ofString "__next__") ty F.slot_enumerate_next (o_ F.slot_enumerate_next ty F.entry_enumerate_next (iR (body λh' x a b=>?_) (λ_ _ z=>z.elim) λ_ _ z=>z) (F.args_enumerate_next_1 _))));obtain⟨o,a1,a2⟩:=b;exact au (Hw (T:="StopIteration") (b:=true) ⟨o,a1,a2⟩ isSubtype_stop (aN (q h' a)))
theorem zgU{P:Program}{w:World}{K:W.Frag}{elts:List Expr}{kk:Nat}{pos:Pos}{kd:Bool}{l e it:Addr}(Sh:e≠it)(hli:l≠it)(hle:l≠e) :
  Turn P w K (.Tuple elts kk pos) (Ite K kd l) [e,it] e (λi h=>(∃old,IsEnum h e it i old)/\Rk kd it l i h) where
 mem:=by simp
 obj:=λi h ⟨⟨old,he⟩,st⟩ b hb=>by
  have:b=e\/b=it:=by simpa using hb
  rcases this with rfl|rfl
  ·exact⟨_,he,λv z=>by cases z⟩
  ·exact st.obj
 keep:=λi h h' ⟨⟨old,he⟩,st⟩ k=>⟨⟨old,k e J0 _ he⟩,st.keep λo e=>k it J0 o e⟩
 item:=by
  rintro X hP hw hK hc i ak s Z H E I hf ⟨⟨old,he⟩,st⟩ hg;subst hP hw hK;obtain⟨xs,x,hq,hx⟩:=hg;obtain⟨its,rv,p⟩:=I.row hq;obtain⟨u,hu,ru⟩:=rv.get hx;have bW:i<its.toArray.size:=by simpa using (gw.mp hu).1
  refine wpAny_pyNext_enum_itemD (Dm (A:=X.A.in1) (I.ok.hd hc) kd hli its.toArray) he ⟨st,p⟩ bW Sh (by simp[Sh,hle.symm]) λu' h1 tk hP ho Sq hT iw hk=>?_;have eu:u'=u:=by
   have:its[i]?=some u':=by simpa using hP
   rw[hu] at this;cases this;rfl
  subst eu;refine⟨_,rfl,wpAny_letOwnedTupleGo_enum (s:={s with heap:=h1,toks:=tk+1}) ho λh2 he2 sb=>?_⟩;have Dl:h2.get? s.heap.objs.size=some {cls:=.type "tuple",data:=.seq #[.int i tk,u']}:=(sb.2 _ (fB (bC he))).trans hT;have kk:∀b o,b∉[e,it]->s.heap.get? b=some o->h2.get? b=some o:=λb o hb q=>(sb.2 b λz=>hb (by simp[z])).trans (hk b o (λz=>hb (by simp[z])) (λz=>hb (by simp[z])) q);have I2:=I.lR (t':=tk+1) (a:=s.heap.objs.size) (o:=.tup [.int i,x]) kk (λb hb=>hf b hb) (bL _) (show aV X.prog X.w _ h2 _ (.tup [.int i,x]) from ⟨by show 2<=sizeLine;decide,[.int i tk,u'],.cons ⟨_,rfl⟩ (.cons ru .nil),⟨_,Dl,rfl,_,rfl⟩⟩);have hn:H s.heap.objs.size=none:=I.hok.fresh (bL _);refine⟨.ref s.heap.objs.size,_,I2,rfl,⟨_,x,hn,rfl,rfl,λys hy=>by rw[I.mW hy hq];exact hx⟩,⟨⟨_,by simpa using he2⟩,Sq.1.keep λo q=>(sb.2 it Sh.symm).trans q⟩,λb hb=>?_⟩;have nb:b≠s.heap.objs.size:=by
   have:b=e\/b=it:=by simpa using hb
   rcases this with rfl|rfl
   ·exact cR (bC he)
   ·obtain⟨o,q,_⟩:=st.obj;exact cR (bC q)
  rw[dD nb];exact(hf b hb).1
 done:=by
  rintro X hP hw hK hc i ak s Z H E I hf ⟨⟨old,he⟩,st⟩ hg;subst hP hw hK;obtain⟨xs,hq,hx⟩:=hg;obtain⟨its,rv,p⟩:=I.row hq;have hl:=rv.length;exact zid (I.ok.hd hc) (iU.of kd hli) he ⟨st,p⟩ (by simp;lia) λh' eb=>⟨rfl,I.qF (t':=s.toks) (ch:=[e,it]) (λb o hb q=>eb b o (λz=>hb (by simp[z])) q) λb hb=>hf b hb⟩
 self:=λ_ _ _ _ _ ⟨⟨old,he⟩,_⟩ h=>wpAny_pyIter_enum he h
section
variable {X:Cx}
noncomputable def Ju(K:W.Frag)(ta:TA):TI:=λZ H R=>ta Z H λvs H1=>∃kd l xs,vs=[.ref l]/\Sk kd K H1 l xs/\R (Ite K kd l) H1
theorem zgS:bootBuiltins "enumerate"=some (.type "enumerate"):=by decide +kernel
theorem zjn{a:Expr}{ta:TA}{p pos tpos:Pos}{elts:List Expr}{kk:Nat}(hg:Gl X "enumerate")(hm:X.mg "enumerate"=none)(ha:PA X [a] ta)(hs:starEach [a] X.env=[(false,eval a X.env)]:=by rfl):PI X (.Tuple elts kk tpos) (.Call (.Name "enumerate" p) [a] [] pos) (Ju X.K ta):=by
 intro ak s Z H R I h;refine Call_ (uo I hg hm zgS (zj (aU (ha pos ak s Z H _ I h) λus s1 hz=>?_) hs rfl));obtain⟨vs,H1,I1,r1,q1⟩:=hz;obtain⟨kd,l,xs,e,hq,q⟩:=q1;subst e;cases r1 with
 |cons r rr=>
  cases rr;cases r;obtain⟨its,rv,p⟩:=I1.row hq;have hl:l<s1.heap.objs.size:=p.lt;refine callType_new F.called_enumerate Dc (F.typeCall_enumerate_1 _) (F.newCall_enumerate_1 _) (λobj=>F.args_object_init_2 obj _) F.entry_enumerate_new (zhA kd l its.toArray) ⟨p,?_⟩;have n1:(s1.heap.push (f9 kd l)).objs.size=s1.heap.objs.size+1:=qj ..;have he:IsEnum ((s1.heap.push (f9 kd l)).push {cls:=.type "enumerate",data:=.fields #[.none,.bool false,.ref s1.heap.objs.size,rawInt 0,.none,.none]}) (s1.heap.objs.size+1) s1.heap.objs.size 0 .none:=by
   have:=fj (s1.heap.push (f9 kd l)) (o:={cls:=.type "enumerate",data:=.fields #[.none,.bool false,.ref s1.heap.objs.size,rawInt 0,.none,.none]}) rfl;rw[n1] at this;exact this
  show _/\_;rw[n1];refine⟨⟨_,he,rfl⟩,wpAny_pyIter_enum (s:={s1 with heap:=(s1.heap.push (f9 kd l)).push {cls:=.type "enumerate",data:=.fields #[.none,.bool false,.ref s1.heap.objs.size,rawInt 0,.none,.none]}}) he ?_⟩;have rk:Rk kd s1.heap.objs.size l 0 ((s1.heap.push (f9 kd l)).push {cls:=.type "enumerate",data:=.fields #[.none,.bool false,.ref s1.heap.objs.size,rawInt 0,.none,.none]}):=by
   cases kd
   ·exact⟨_,cF _ (fj _ rfl),rfl,rfl⟩
   ·exact⟨_,cF _ (fj _ rfl),rfl,rfl⟩
  refine⟨s1.heap.objs.size+1,[s1.heap.objs.size+1,s1.heap.objs.size],_,_,H1,rfl,I1.kept (t':=s1.toks) λb o x=>cF _ (cF _ x),zgU (kd:=kd) (l:=l) (Nat.succ_ne_self _) (cR hl) (cR (kO hl)),⟨⟨_,he⟩,rk⟩,λb hb=>?_,q⟩;have:s1.heap.objs.size<=b:=by
   have:b=s1.heap.objs.size+1\/b=s1.heap.objs.size:=by simpa using hb
   rcases this with rfl|rfl
   ·exact Nat.le_succ _
   ·exact bL _
  exact I1.uy this (I1.hok.fresh this)
end
end L2
set_option genSizeOf false
set_option genInjectivity false
namespace Mi
open PySem
inductive D where
 |non|bl (b:Bool)|int (i:Int)|str (s:Str)|tup (xs:List D)|fl (xs:List D)|fd (ks vs:List D)|exc (c:Nat) (fs:List D)|ob (c:Nat) (fs:List D)|any
inductive Xv where
 |d (x:D)|l (n:Nat)
inductive Kx where
 |non|int (i:Int)|row (is:List Int)
deriving DecidableEq
inductive SO where
 |lst (xs:List D)
 |dct (kvs:List (List Kx×D))
noncomputable abbrev S:=List SO
inductive Rs (α:Type) where
 |ok (a:α)|er (c:Nat) (fs:List D)
noncomputable abbrev M(α:Type):=S->Option (Rs α×S)
noncomputable def M.ret{α:Type}(a:α):M α:=λs=>some (.ok a,s)
noncomputable def M.bd{α β:Type}(m:M α)(k:α->M β):M β:=λs=>match m s with
 |some (.ok a,s')=>k a s'
 |some (.er c f,s')=>some (.er c f,s')
 |none=>none
noncomputable def M.qt{α:Type}(m:M α):M α:=λs=>match m s with
 |some (.ok a,s')=>some (.ok a,s')
 |_=>none
noncomputable def M.no{α:Type}:M α:=λ_=>none
noncomputable def M.opt{α:Type}:Option α->M α
 |some a=>M.ret a
 |none=>M.no
inductive Rz where
 |dat (d:D)|nw (xs:List D)
inductive Pr where
 |add|ao|mul|fdiv|mod|pow|neg
 |eq|ne|lt|le|gt|ge|inn|nin
 |yc|noN
 |len|abs|max2|min2|Jv|n8|Jw|Y6|uO|divmod|all|sum|list|tuple|sorted|qG|fP|str1
 |ix|rev|Y7|Jx|mult|zY
 |count|index|repr
 |nir|rK|uP|shl|shr|band|isT|noT|isF|Jy|jd|jT
inductive Kd where
 |int|bool|str|tuple|list|dict|cls (c:Nat)|rM
mutual
inductive E where
 |c (d:D)
 |v (i:Nat)
 |pr (fz:Bool) (p:Pr) (xs:Es)
 |uQ (p q:Pr) (a b c:E)
 |ch3 (p q r:Pr) (a b c d:E)
 |and (a b:E)
 |or (a b:E)
 |not (a:E)
 |ite (c a b:E)
 |tup (xs:Es)
 |lst (fz:Bool) (xs:Es)
 |uR (k:Str) (i:Int)
 |call (f:Nat) (xs:Es)
 |jU (a:E) (k:Kd)
 |sl (fz:Bool) (a:E) (lo hi:Eo)
 |meth (fz:Bool) (p:Pr) (k:Kd) (o:E) (xs:Es)
 |push (o a:E)
 |pop (o:E)
 |comp (fz:Bool) (elt:E) (tg:List Nat) (it:Wk) (fr:List Nat) (many:Nat) (cond:Eo)
 |lU (fz:Bool) (elt:E) (tg:List Nat) (it:Wk) (Jz:List Nat) (xZ:Wk) (fr:List Nat) (many:Nat) (cond:Eo)
 |fld (o:E) (cs:List Nat) (i:Nat)
 |of (o:E) (c i:Nat)
 |mk (c f:Nat) (xs:Es)
 |cm (c f:Nat) (o:E) (xs:Es)
 |Ss
 |din (b:Bool) (k d:E)
 |Sv (d k:E)
 |tru (a:E)
 |JD (fz:Bool) (a:E) (b:E)
 |orv (a b:E)
 |ins (o i a:E)
 |no
inductive Wk where
 |seq (e:E)
 |rg (a b:E)
 |zip (a b:E)
 |enum (a:E)
 |rrg (a:E)
inductive Es where
 |nil
 |cons (a:E) (r:Es)
inductive Eo where
 |no
 |yes (a:E)
end
noncomputable abbrev Ea(a:E):Es:=.cons a .nil
noncomputable abbrev Eb(a b:E):Es:=.cons a (.cons b .nil)
noncomputable abbrev Ec(a b c:E):Es:=.cons a (.cons b (.cons c .nil))
noncomputable abbrev Ei(a b:E):E:=.pr true .ix (.cons a (.cons b .nil))
noncomputable abbrev Ci(i:Int):E:=.c (.int i)
noncomputable def Es.len:Es->Nat
 |.nil=>0
 |.cons _ r=>r.len+1
inductive Tg where
 |nm (i:Nat)
 |tp (is:List Nat)
 |ao (o i:E)
mutual
inductive St where
 |pass
 |ex (e:E)
 |asg (t:Tg) (e:E)
 |par (i j:Nat) (a b:E)
 |aug (i:Nat) (e:E)
 |ret (e:E)
 |rise (c:Nat) (kp:Bool) (xs:Es)
 |iff (c:E) (t e:cU)
 |wh (c:E) (b:cU)
 |fr (t:Tg) (w:Wk) (b:cU)
 |Sw (b:cU) (d:Nat) (i:Nat) (h:cU)
 |dput (d k v:E)
 |no
inductive cU where
 |nil
 |cons (a:St) (r:cU)
end
noncomputable def eN(eq:D->D->Option Bool):List D->List D->Option Bool
 |[],[]=>some true
 |[],_::_=>some false
 |_::_,[]=>some false
 |x::xs,y::ys=>match eq x y,eN eq xs ys with
  |some a,some b=>some (a&&b)
  |_,_=>none
noncomputable def kq:D->Option Nat
 |.non=>some 0
 |.bl _=>some 1
 |.int _=>some 1
 |.str _=>some 2
 |.tup _=>some 3
 |.fl _=>some 4
 |_=>none
noncomputable def dz:Nat->D->D->Option Bool
 |n+1,.tup xs,.tup ys=>eN (dz n) xs ys
 |n+1,.fl xs,.fl ys=>eN (dz n) xs ys
 |_,.non,.non=>some true
 |_,.bl a,.bl b=>some (a==b)
 |_,.int a,.int b=>some (a==b)
 |_,.str a,.str b=>some (a==b)
 |_,.bl a,.int b=>some ((if a then 1 else 0)==b)
 |_,.int a,.bl b=>some (a==(if b then 1 else 0))
 |_,a,b=>match kq a,kq b with
  |some i,some j=>if i=j then none else some false
  |_,_=>none
noncomputable def fQ:List D->Option (List Int)
 |[]=>some []
 |.int i::r=>(fQ r).map (i::·)
 |_=>none
noncomputable def ltI:List Int->List Int->Bool
 |_,[]=>false
 |[],_::_=>true
 |x::xs,y::ys=>if x=y then ltI xs ys else decide (x<y)
noncomputable def eZ:List D->Option (List Bool)
 |[]=>some []
 |.bl b::r=>(eZ r).map (b::·)
 |_=>none
noncomputable def cut{α:Type}(xs:List α)(lo hi:Option Int):List α:=(xs.drop (HT.bM xs.length 0 lo)).take (HT.bM xs.length xs.length hi-HT.bM xs.length 0 lo)
noncomputable def dX:D->Option (List D)
 |.tup xs=>some xs
 |.fl xs=>some xs
 |_=>none
noncomputable def cutD(x:D)(lo hi:Option Int):Option Rz:=match x with
 |.tup xs=>some (.dat (.tup (cut xs lo hi)))
 |.fl xs=>some (.nw (cut xs lo hi))
 |_=>none
noncomputable def memD(d:D):List D->Option Bool
 |[]=>some false
 |x::r=>match dz 50 x d,memD d r with
  |some a,some b=>some (a||b)
  |_,_=>none
noncomputable def JF(d:D):List D->Nat
 |[]=>0
 |x::r=>JF d r+(if dz 50 x d=some true then 1 else 0)
noncomputable def mX:Kd->D->Bool
 |.list,.fl _=>true
 |.str,.str _=>true
 |.dict,.fd _ _=>true
 |_,_=>false
noncomputable def insI(x:Int):List Int->List Int
 |[]=>[x]
 |y::r=>if x<y then x::y::r else y::insI x r
noncomputable def sortI:List Int->List Int
 |[]=>[]
 |x::r=>insI x (sortI r)
noncomputable def cg(f:Int->Int->Option D):List D->Option Rz
 |[.int i,.int j]=>(f i j).map .dat
 |_=>none
noncomputable def uU(f:Int->D):List D->Option Rz
 |[.int i]=>some (.dat (f i))
 |_=>none
noncomputable def rN(f:List D->Option Rz):List D->Option Rz
 |[a]=>(dX a).bind f
 |_=>none
noncomputable def Dn:List D->Option Rz
 |[.int i,.int j]=>some (.dat (.int (i+j)))
 |[.tup xs,.tup ys]=>if xs.length+ys.length<=sizeLine then some (.dat (.tup (xs++ys))) else none
 |[.fl xs,.fl ys]=>if xs.length+ys.length<=sizeLine then some (.nw (xs++ys)) else none
 |[.str x,.str y]=>if x.length+y.length<=sizeLine then some (.dat (.str (x++y))) else none
 |_=>none
noncomputable def JL:List D->Option Rz
 |[.int i,.int j]=>some (.dat (.bl (decide (i<j))))
 |[.tup xs,.tup ys]=>match fQ xs,fQ ys with
  |some a,some b=>some (.dat (.bl (ltI a b)))
  |_,_=>none
 |_=>none
noncomputable def Dp(f:Bool->Bool):List D->Option Rz
 |[a,b]=>(dz 50 a b).map λk=>.dat (.bl (f k))
 |_=>none
noncomputable def yd(f:Bool->Bool):List D->Option Rz
 |[a,b]=>((dX b).bind (memD a)).map λk=>.dat (.bl (f k))
 |_=>none
noncomputable def D.zZ:D->Bool
 |.non=>true
 |_=>false
noncomputable def Dq(f:Bool->Bool):List D->Option Rz
 |[a]=>some (.dat (.bl (f a.zZ)))
 |_=>none
noncomputable def JM:List D->Option Rz
 |[.int i]=>some (.dat (.int i))
 |[.bl k]=>some (.dat (.int (if k then 1 else 0)))
 |_=>none
noncomputable def Dr:List D->Option Rz
 |[.fl xs]=>(eZ xs).map λbs=>.dat (.bl (bs.all id))
 |_=>none
noncomputable def aC:List D->Option (List Int)
 |[]=>some []
 |.int i::r=>(aC r).map (i::·)
 |_=>none
noncomputable def best(bt:Int->Int->Bool)(i:Int)(is:List Int):Int:=is.foldl (λm j=>if bt j m then j else m) i
noncomputable def jV(bt:Int->Int->Bool):Option (List Int)->Option Rz
 |some (i::is)=>some (.dat (.int (best bt i is)))
 |_=>none
noncomputable def qH(bt:Int->Int->Bool):List D->Option Rz
 |[a]=>(dX a).bind λxs=>jV bt (aC xs)
 |_=>none
noncomputable def okR(i j:Int):Bool:=decide (-(2^62)<=i/\i<2^62/\-(2^62)<=j/\j<2^62/\(j-i).toNat<=65536)
noncomputable def Sx(i:Int)(n:Nat):List D:=(List.range n).map λk=>.int (i+(k:Nat))
noncomputable def Sy:List D->Option Rz
 |[.int j]=>if okR 0 j then some (.nw (Sx 0 (j-0).toNat)) else none
 |[.int i,.int j]=>if okR i j then some (.nw (Sx i (j-i).toNat)) else none
 |_=>none
noncomputable def SJ:List D->Option Rz
 |[.int j]=>if okR 0 j then some (.dat (.tup (Sx 0 (j-0).toNat))) else none
 |_=>none
noncomputable def pH:List D->Option Rz
 |[a]=>(dX a).map λxs=>.dat (.tup xs)
 |_=>none
noncomputable def SM:List D->Option Rz
 |[a,.int i]=>((dX a).bind λxs=>L2.qy xs i).map .dat
 |_=>none
noncomputable def rO:List D->List D->Option Bool
 |[],ys=>some (decide (0<ys.length))
 |_::_,[]=>some false
 |.int x::xs,.int y::ys=>if x=y then rO xs ys else some (decide (x<y))
 |_::_,_::_=>none
noncomputable def z_(xs:List D)(i j:Nat):Option Bool:=match xs[i]?,xs[j]? with
 |some (.int x),some (.int y)=>some (decide (x<y))
 |some (.tup us),some (.tup ws)=>rO us ws
 |_,_=>none
noncomputable def Aa(b:List Int):List (List Int)->List Int
 |[]=>b
 |x::r=>Aa (if ltI x b=true then x else b) r
noncomputable def Ab:List D->Option (List (List Int))
 |[]=>some []
 |.tup xs::r=>match fQ xs,Ab r with
  |some a,some b=>some (a::b)
  |_,_=>none
 |_=>none
noncomputable def JV:List D->Option Rz
 |[.fl xs]=>match Ab xs with
  |some (x::r)=>some (.dat (.tup ((Aa x r).map .int)))
  |_=>none
 |_=>none
noncomputable def jW:D->Bool
 |.int _=>true
 |_=>false
noncomputable def je:D->Bool
 |.tup (.int _::_)=>true
 |_=>false
noncomputable def qI(lt:Nat->Nat->Option Bool)(xs:List D):Option (List D):=if xs.length<2 then some xs else if xs.length<64 then (match L2.bD lt (PySem.W.kas_sort xs.length) with
  |some p=>if p.size=xs.length then some (p.toList.map λi=>xs.getD i .non) else none
  |none=>none) else none
noncomputable def Ac(xs:List D):Option (List D):=if xs.all jW||xs.all je then qI (z_ xs) xs else none
noncomputable def mY:List D->Option Rz
 |[.fl xs]=>(Ac xs).map .nw
 |_=>none
noncomputable def Gj(ks:List Int)(i j:Nat):Option Bool:=match ks[i]?,ks[j]? with
 |some x,some y=>some (decide (x<y))
 |_,_=>none
noncomputable def SN:List D->Option Rz
 |[.tup xs]=>some (.dat (.tup xs.reverse))
 |_=>none
noncomputable def Ds:List D->Option Rz
 |[.fl xs,d]=>(memD d xs).map λ_=>.dat (.int (JF d xs:Nat))
 |_=>none
noncomputable def Dt:List D->Option Rz
 |[.fl xs,.bl b]=>((eZ xs).bind λbs=>bs.idxOf? b).map λ(i:Nat)=>.dat (.int i)
 |_=>none
noncomputable def SQ:List D->Option Rz
 |[.int i]=>if i.natAbs<2^62 then some (.dat (.str (Str.ofString (toString i)))) else none
 |_=>none
noncomputable def mZ(f:D->Option PyData):List D->Option (List PyData)
 |[]=>some []
 |x::r=>match f x,mZ f r with
  |some a,some b=>some (a::b)
  |_,_=>none
noncomputable def pd:Nat->D->Option PyData
 |n+1,.tup xs=>(mZ (pd n) xs).map .tuple
 |n+1,.fl xs=>(mZ (pd n) xs).map .list
 |_,.non=>some .none
 |_,.bl b=>some (.bool b)
 |_,.int i=>some (.int i)
 |_,.str x=>some (.str x)
 |_,_=>none
noncomputable def pe:Nat->D->Option PyData
 |n+1,.tup xs=>(mZ (pe n) xs).map .tuple
 |n+1,.fd [.str k] [.int i]=>some (.dict [(.str k,.int i)])
 |_,.non=>some .none
 |_,.bl b=>some (.bool b)
 |_,.int i=>some (.int i)
 |_,.str x=>some (.str x)
 |_,_=>none
noncomputable def SX(a b:Option PyData):Option PyData:=match a with
 |some d=>some d
 |none=>b
noncomputable def Gk:D->Option PyData
 |.fd [.str k] [.int i]=>some (.dict [(.str k,.int i)])
 |x=>SX (pd 40 x) (pe 40 x)
noncomputable def Gm(d:PyData):Option Rz:=if d.showable=true/\d.shown.length<=sizeLine then some (.dat (.str d.shown)) else none
noncomputable def uV:List D->Option Rz
 |[x]=>(Gk x).bind Gm
 |_=>none
noncomputable def Ad:List (Int×Int):=[(0,1),(0,2),(0,3),(0,4),(0,5),(0,6),(0,7),(1,2),(1,3),(1,4),(1,5),(1,6),(1,7),(2,3),(2,4),(2,5),(2,6),(2,7),(3,4),(3,5),(3,6),(3,7),(4,5),(4,6),(4,7),(5,6),(5,7),(6,7)]
noncomputable def ss(ts:List (Int×Int)):List (Int×Int):=Ad.filter λt=>ts.contains t
noncomputable def S5:D->Option (Int×Int)
 |.tup [.int a,.int b]=>if 0<=a/\a<b/\b<8 then some (a,b) else none
 |_=>none
noncomputable def Ae:List D->Option (List (Int×Int))
 |[]=>some []
 |x::r=>match S5 x,Ae r with
  |some a,some b=>some (a::b)
  |_,_=>none
noncomputable def pSs:List D->Option Rz
 |[.tup xs]=>(Ae xs).map λts=>.nw ((ss ts).map λp=>.tup [.int p.1,.int p.2])
 |_=>none
noncomputable def JZ(is:List Int):Bool:=decide (is.length<=1000)&&is.all λi=>decide (-1000000<=i/\i<=1000000)
noncomputable def S6(is:List Int):Option Rz:=match JZ is with
 |true=>some (.dat (.int is.sum))
 |false=>none
noncomputable def S7:List D->Option Rz
 |[a]=>(dX a).bind λxs=>(aC xs).bind S6
 |_=>none
noncomputable def aD:List Int->List Int
 |[]=>[]
 |x::r=>if r.contains x then aD r else x::aD r
noncomputable def rP(x:Int):Bool:=decide (-1<=x/\x<=34)||decide (100000000000000000000<=x/\x<=100000000000000000034)
noncomputable def rQ(is:List Int):Bool:=decide (is.length<=18)&&is.all rP
noncomputable def lV(is:List Int):Option Rz:=match rQ is with
 |true=>some (.dat (.int (aD is).length))
 |false=>none
noncomputable def uW:List D->Option Rz
 |[.tup xs]=>(aC xs).bind lV
 |_=>none
noncomputable def rR(is:List Int):Option Rz:=match rQ is with
 |true=>some (.nw ((sortI (aD is)).map .int))
 |false=>none
noncomputable def Du:List D->Option Rz
 |[.tup xs]=>(aC xs).bind rR
 |_=>none
noncomputable def m5:List D->Option Rz
 |[.fl xs,.int i]=>((aC xs).bind λis=>is.idxOf? i).map λ(k:Nat)=>.dat (.int k)
 |_=>none
noncomputable def rep{α:Type}(xs:List α)(n:Nat):List α:=(List.replicate n xs).flatten
noncomputable def J1:List D->Option Rz
 |[.fl xs,.int n]=>if 0<=n/\n<=1000/\xs.length<=1000 then some (.nw (rep xs n.toNat)) else none
 |_=>none
noncomputable def Dv:List D->Option Rz
 |[.tup xs]=>if xs.all jW=true then (Ac xs).map .nw else none
 |_=>none
noncomputable def J3:List D->Option Rz
 |[.tup xs,.int n]=>if 1<=n/\n<=1000/\1<=xs.length/\xs.length<=1000 then some (.dat (.tup (rep xs n.toNat))) else none
 |_=>none
noncomputable def yg(xs ys:List D):List D:=List.zipWith (λp q=>.tup [p,q]) xs ys
noncomputable def Af(xs ys:List D):Option Rz:=if xs.length<=65536 then some (.nw (yg xs ys)) else none
noncomputable def Ag:List D->Option Rz
 |[a,b]=>match dX a,dX b with
  |some xs,some ys=>Af xs ys
  |_,_=>none
 |_=>none
noncomputable def uX:List D->Option Rz
 |[.fl xs]=>some (.nw (xs.drop 1).reverse)
 |_=>none
noncomputable def D.isB(b:Bool):D->Bool
 |.bl c=>b==c
 |_=>false
noncomputable def Dw(b:Bool)(f:Bool->Bool):List D->Option Rz
 |[a]=>some (.dat (.bl (f (a.isB b))))
 |_=>none
noncomputable def Jy:List D->Option Nat
 |[]=>none
 |.tup []::_=>some 0
 |.tup (_::_)::r=>(Jy r).map (·+1)
 |.non::r=>(Jy r).map (·+1)
 |_=>none
noncomputable def S8:List D->Option Rz
 |[.tup xs,.tup []]=>(Jy xs).map λi=>.dat (.int i)
 |_=>none
noncomputable def J5:D->Option Bool
 |.non=>some false
 |.bl b=>some b
 |.int i=>some (i != 0)
 |.tup xs=>some (!xs.isEmpty)
 |.fl xs=>some (!xs.isEmpty)
 |_=>none
noncomputable def prim:Pr->List D->Option Rz
 |.add=>Dn
 |.ao=>cg λi j=>some (.int (i-j))
 |.mul=>cg λi j=>if (-(2^64)<i/\i<2^64)\/(-(2^64)<j/\j<2^64) then some (.int (i*j)) else none
 |.fdiv=>cg λi j=>if 0<j/\j<1073741824 then some (.int (i/j)) else none
 |.mod=>cg λi j=>if 0<j then some (.int (i%j)) else none
 |.pow=>cg λi j=>if 0<=j/\j<=1000000/\i.natAbs<2^64 then some (.int (i^j.toNat)) else none
 |.neg=>uU λi=>.int (-i)
 |.eq=>Dp id
 |.ne=>Dp not
 |.lt=>JL
 |.le=>cg λi j=>some (.bl (decide (i<=j)))
 |.gt=>cg λi j=>some (.bl (decide (j<i)))
 |.ge=>cg λi j=>some (.bl (decide (j<=i)))
 |.inn=>yd id
 |.nin=>yd not
 |.yc=>Dq id
 |.noN=>Dq not
 |.len=>rN λxs=>some (.dat (.int xs.length))
 |.abs=>uU λi=>.int (if i<0 then -i else i)
 |.max2=>cg λi j=>some (.int (if j>i then j else i))
 |.min2=>cg λi j=>some (.int (if j<i then j else i))
 |.uO=>JM
 |.divmod=>cg λi j=>if 0<j/\j<1073741824 then some (.tup [.int (i/j),.int (i%j)]) else none
 |.all=>Dr
 |.Y7=>Sy
 |.Jv=>qH λa b=>decide (a>b)
 |.n8=>qH λa b=>decide (a<b)
 |.Jw=>JV
 |.Y6=>SJ
 |.list=>rN λxs=>some (.nw xs)
 |.tuple=>pH
 |.ix=>SM
 |.rev=>SN
 |.sorted=>mY
 |.qG=>pSs
 |.Jx=>J1
 |.mult=>J3
 |.zY=>Dv
 |.sum=>S7
 |.fP=>uW
 |.count=>Ds
 |.index=>Dt
 |.repr=>uV
 |.str1=>SQ
 |.nir=>cg λi j=>some (.bl (!decide (0<=i/\i<j)))
 |.rK=>Ag
 |.uP=>uX
 |.shl=>cg λi j=>if 0<=j/\j<=64/\i.natAbs<2^64 then some (.int (i*2^j.toNat)) else none
 |.shr=>cg λi j=>if 0<=j/\j<=64/\0<=i then some (.int (i/2^j.toNat)) else none
 |.band=>cg λi j=>if j=1/\0<=i then some (.int (i%2)) else none
 |.isT=>Dw true id
 |.noT=>Dw true not
 |.isF=>Dw false id
 |.Jy=>S8
 |.jd=>Du
 |.jT=>m5
noncomputable def lW(ao:Nat->Nat->Bool):D->Kd->Option Bool
 |.exc c _,.cls e=>some (ao c e)
 |.exc _ _,.rM=>some true
 |.exc _ _,_=>none
 |.ob _ _,_=>none
 |.any,_=>none
 |_,.cls _=>none
 |_,.rM=>none
 |.bl _,.bool=>some true
 |.bl _,.int=>some true
 |.bl _,_=>some false
 |.int _,.int=>some true
 |.int _,_=>some false
 |.non,_=>some false
 |.str _,.str=>some true
 |.str _,_=>some false
 |.tup _,.tuple=>some true
 |.tup _,_=>some false
 |.fl _,.list=>some true
 |.fl _,_=>some false
 |.fd _ _,.dict=>some true
 |.fd _ _,_=>some false
noncomputable def rd(x:Xv):M D:=λs=>match x with
 |.d v=>some (.ok v,s)
 |.l n=>match s[n]? with
  |some (.lst xs)=>some (.ok (.fl xs),s)
  |_=>none
noncomputable def gb:List Xv->M (List D)
 |[]=>M.ret []
 |x::r=>M.bd (rd x) λd=>M.bd (gb r) λds=>M.ret (d::ds)
noncomputable def dat(x:Xv):M D:=match x with
 |.d v=>M.ret v
 |.l _=>M.no
noncomputable def gW:List Xv->M (List D)
 |[]=>M.ret []
 |x::r=>M.bd (dat x) λd=>M.bd (gW r) λds=>M.ret (d::ds)
noncomputable def bool(x:Xv):M Bool:=match x with
 |.d (.bl b)=>M.ret b
 |_=>M.no
noncomputable def int(x:Xv):M Int:=match x with
 |.d (.int b)=>M.ret b
 |_=>M.no
noncomputable def newL(fz:Bool)(xs:List D):M Xv:=match fz with
 |true=>M.ret (.d (.fl xs))
 |false=>λs=>some (.ok (.l s.length),s++[.lst xs])
noncomputable def bJ(fz:Bool)(o:Option Rz):M Xv:=match o with
 |some (.dat d)=>M.ret (.d d)
 |some (.nw xs)=>newL fz xs
 |none=>M.no
noncomputable def cD(x:Xv):M (Nat×List D):=λs=>match x with
 |.l n=>match s[n]? with
  |some (.lst xs)=>some (.ok (n,xs),s)
  |_=>none
 |_=>none
noncomputable def putL(n:Nat)(xs:List D):M Unit:=λs=>some (.ok (),s.set n (.lst xs))
noncomputable def S9:D->Option Kx
 |.non=>some .non
 |.int i=>some (.int i)
 |.tup xs=>(fQ xs).map .row
 |_=>none
noncomputable def Y8:List D->Option (List Kx)
 |[]=>some []
 |x::r=>match S9 x,Y8 r with
  |some a,some b=>some (a::b)
  |_,_=>none
noncomputable def kOf:D->Option (List Kx)
 |.tup xs=>Y8 xs
 |_=>none
noncomputable abbrev wk:=List (List Kx×D)
noncomputable def yh(k:List Kx):wk->Option D
 |[]=>none
 |p::r=>if p.1=k then some p.2 else yh k r
noncomputable def S_(k:List Kx)(d:D)(r:wk):wk:=if (yh k r).isSome=true then r.map λp=>if p.1=k then (p.1,d) else p else r++[(k,d)]
noncomputable def uY(x:Xv):M (Nat×wk):=λs=>match x with
 |.l n=>match s[n]? with
  |some (.dct kvs)=>some (.ok (n,kvs),s)
  |_=>none
 |_=>none
noncomputable def putD(n:Nat)(kvs:wk):M Unit:=λs=>some (.ok (),s.set n (.dct kvs))
noncomputable def key(x:Xv):M (List Kx):=match x with
 |.d v=>M.opt (kOf v)
 |.l _=>M.no
noncomputable def enumFrom:Nat->List D->List D
 |_,[]=>[]
 |i,x::r=>.tup [.int i,x]::enumFrom (i+1) r
inductive Src where
 |fix (xs:List D)|live (n:Nat)|lX (n:Nat)
noncomputable def Src.at(c:Src)(i:Nat)(s:S):Option (Option D):=match c with
 |.fix xs=>some xs[i]?
 |.live n=>match s[n]? with
  |some (.lst xs)=>some xs[i]?
  |_=>none
 |.lX n=>match s[n]? with
  |some (.lst xs)=>some (xs[i]?.map λx=>.tup [.int i,x])
  |_=>none
noncomputable def n_(x:Xv):M (Src×Nat):=λs=>match x with
 |.d (.tup xs)=>some (.ok (.fix (enumFrom 0 xs),(enumFrom 0 xs).length),s)
 |.d (.fl xs)=>some (.ok (.fix (enumFrom 0 xs),(enumFrom 0 xs).length),s)
 |.l n=>match s[n]? with
  |some (.lst xs)=>some (.ok (.lX n,xs.length),s)
  |_=>none
 |_=>none
noncomputable def src(x:Xv):M (Src×Nat):=λs=>match x with
 |.d (.tup xs)=>some (.ok (.fix xs,xs.length),s)
 |.d (.fl xs)=>some (.ok (.fix xs,xs.length),s)
 |.l n=>match s[n]? with
  |some (.lst xs)=>some (.ok (.live n,xs.length),s)
  |_=>none
 |_=>none
noncomputable def pI(x:Xv):M (List D):=match x with
 |.d (.tup xs)=>M.ret xs
 |.d (.fl xs)=>M.ret xs
 |_=>M.no
noncomputable def jf(a b:Int):List D:=(List.range (b-a).toNat).map λ(i:Nat)=>.int (a+i)
noncomputable def fU(a:Int):Bool:=decide (-(2^62)<a)&&decide (a<2^62)
noncomputable def walk(c:Src)(f:D->List D->M (List D)):Nat->Nat->List D->M (List D)
 |0,_,_=>M.no
 |k+1,i,acc=>λs=>match c.at i s with
  |none=>none
  |some none=>some (.ok acc,s)
  |some (some x)=>M.bd (f x acc) (λacc'=>walk c f k (i+1) acc') s
noncomputable def Ah(f:D->M Xv):List D->Option (List Int)
 |[]=>some []
 |x::r=>match f x [] with
  |some (.ok (.d (.int k)),[])=>(Ah f r).map (k::·)
  |_=>none
noncomputable abbrev Vs:=List (Option Xv)
noncomputable abbrev Fn:=Nat->List Xv->M Xv
noncomputable def locs:List Xv->List Nat
 |[]=>[]
 |.d _::r=>locs r
 |.l n::r=>n::locs r
noncomputable def dB:Nat->List Xv->List Xv
 |_,[]=>[]
 |k,.d v::r=>.d v::dB k r
 |k,.l _::r=>.l k::dB (k+1) r
noncomputable def jg(s:S):List Nat->Option S
 |[]=>some []
 |n::r=>match s[n]?,jg s r with
  |some o,some q=>some (o::q)
  |_,_=>none
noncomputable def cV(s:S):List Nat->S->S
 |n::r,o::q=>cV (s.set n o) r q
 |_,_=>s
noncomputable def bT(F:List Xv->M Xv)(xs:List Xv):M Xv:=λs=>
 if (locs xs).Nodup then match jg s (locs xs) with
  |none=>none
  |some s0=>match F (dB 0 xs) s0 with
   |none=>none
   |some (.er c fs,s1)=>some (.er c fs,cV s (locs xs) s1)
   |some (.ok (.d v),s1)=>some (.ok (.d v),cV s (locs xs) s1)
   |some (.ok (.l n),s1)=>match (locs xs)[n]? with
    |some m=>some (.ok (.l m),cV s (locs xs) s1)
    |none=>match s1[n]? with
     |some o=>some (.ok (.l s.length),cV s (locs xs) s1++[o])
     |none=>none
 else none
noncomputable def mkW(F:List Xv->M Xv)(c:Nat)(vs:List Xv):M Xv:=λs=>
 if locs vs=[] then match F (.d .any::vs) [] with
  |some (.ok (.d (.tup ds)),_)=>some (.ok (.d (.ob c ds)),s)
  |_=>none
 else none
noncomputable def J6(c:Nat)(x:Xv):M (List D):=match x with
 |.d (.ob e fs)=>if e=c then M.ret fs else M.no
 |_=>M.no
noncomputable def fV{α:Type}:List Nat->List α->List (Option α)->Option (List (Option α))
 |[],[],J=>some J
 |i::is,d::ds,J=>fV is ds (J.set i (some d))
 |_,_,_=>none
noncomputable def jX:D->Option (List D)
 |.tup xs=>some xs
 |_=>none
noncomputable def cW(tg:List Nat)(x:D)(J:Vs):Option Vs:=match tg with
 |[i]=>some (J.set i (some (.d x)))
 |is=>(jX x).bind λds=>fV is (ds.map .d) J
noncomputable def blk(many:Nat)(fr:List Nat)(J:Vs):Vs:=List.replicate many none++fr.map λj=>J[j]?.join
section
variable (ao:Nat->Nat->Bool)(aj:Bool)(F:Fn)
mutual
noncomputable def ev:E->Vs->M Xv
 |.c d,_=>M.ret (.d d)
 |.v i,J=>M.opt (J[i]?.join)
 |.pr fz p xs,J=>M.bd (evs xs J) λvs=>M.bd (gb vs) λds=>bJ fz (prim p ds)
 |.uQ p q a b c,J=>M.bd (ev a J) λx=>M.bd (ev b J) λy=>M.bd (gb [x,y]) λds=>M.bd (bJ true (prim p ds)) λt=>M.bd (bool t) λk=>
   if k=true then M.bd (ev c J) λz=>M.bd (gb [y,z]) λds=>bJ true (prim q ds) else M.ret (.d (.bl false))
 |.ch3 p q r a b c d,J=>M.bd (ev a J) λx=>M.bd (ev b J) λy=>M.bd (gb [x,y]) λds=>M.bd (bJ true (prim p ds)) λt=>M.bd (bool t) λk=>
   if k=true then M.bd (ev c J) λz=>M.bd (gb [y,z]) λds=>M.bd (bJ true (prim q ds)) λt=>M.bd (bool t) λk2=>
    if k2=true then M.bd (ev d J) λw=>M.bd (gb [z,w]) λds=>bJ true (prim r ds) else M.ret (.d (.bl false))
   else M.ret (.d (.bl false))
 |.and a b,J=>M.bd (ev a J) λx=>M.bd (bool x) λk=>if k=true then ev b J else M.ret (.d (.bl false))
 |.or a b,J=>M.bd (ev a J) λx=>M.bd (bool x) λk=>if k=true then M.ret (.d (.bl true)) else ev b J
 |.not a,J=>M.bd (ev a J) λx=>M.bd (bool x) λk=>M.ret (.d (.bl (!k)))
 |.ite c a b,J=>M.bd (ev c J) λx=>M.bd (bool x) λk=>if k=true then ev a J else ev b J
 |.tup xs,J=>M.bd (evs xs J) λvs=>M.bd (gW vs) λds=>M.ret (.d (.tup ds))
 |.lst fz xs,J=>M.bd (evs xs J) λvs=>M.bd (gW vs) λds=>newL fz ds
 |.uR k i,_=>M.ret (.d (.fd [.str k] [.int i]))
 |.call f xs,J=>M.bd (evs xs J) λvs=>bT (F f) vs
 |.jU a k,J=>M.bd (ev a J) λx=>M.bd (rd x) λd=>M.bd (M.opt (lW ao d k)) λb=>M.ret (.d (.bl b))
 |.sl fz a lo hi,J=>M.bd (ev a J) λx=>M.bd (yj lo J) λl=>M.bd (yj hi J) λh=>M.bd (rd x) λd=>bJ fz (cutD d l h)
 |.meth fz p k o xs,J=>M.bd (ev o J) λx=>M.bd (rd x) λd=>if mX k d=true then M.bd (evs xs J) λys=>M.bd (gb (x::ys)) λds=>bJ fz (prim p ds) else M.no
 |.push o a,J=>M.bd (ev o J) λx=>M.bd (cD x) λ_=>M.bd (ev a J) λy=>M.bd (dat y) λd=>M.bd (cD x) λnx=>if nx.2.length<sizeLine then M.bd (putL nx.1 (nx.2++[d])) λ_=>M.ret (.d .non) else M.no
 |.pop o,J=>M.bd (ev o J) λx=>M.bd (cD x) λnx=>match nx.2.getLast? with
   |some d=>M.bd (putL nx.1 nx.2.dropLast) λ_=>M.ret (.d d)
   |none=>M.no
 |.comp fz elt tg it fr many cond,J=>if aj=true then M.bd (iy it J) λcn=>
   M.bd (walk cn.1 (λd acc=>M.bd (M.opt (cW tg d (blk many fr J))) λJ'=>M.bd (M.qt (nG cond J')) λok=>
    if ok=true then M.bd (M.qt (ev elt J')) λy=>M.bd (dat y) λe=>if acc.length<sizeLine then M.ret (acc++[e]) else M.no else M.ret acc) (cn.2+1) 0 []) λxs=>newL fz xs
  else M.no
 |.lU fz elt tg it Jz xZ fr many cond,J=>if aj=true then M.bd (iy it J) λcn=>
   M.bd (walk cn.1 (λd acc=>M.bd (M.opt (cW tg d (blk many fr J))) λJ'=>M.bd (M.qt (iy xZ J')) λpJ=>
    walk pJ.1 (λd2 acc=>M.bd (M.opt (cW Jz d2 J')) λY9=>M.bd (M.qt (nG cond Y9)) λok=>
     if ok=true then M.bd (M.qt (ev elt Y9)) λy=>M.bd (dat y) λe=>if acc.length<sizeLine then M.ret (acc++[e]) else M.no else M.ret acc) (pJ.2+1) 0 acc) (cn.2+1) 0 []) λxs=>newL fz xs
  else M.no
 |.fld o cs i,J=>M.bd (ev o J) λx=>match x with
   |.d (.exc c fs)=>if cs.contains c=true then M.opt (fs[i]?.map .d) else M.no
   |_=>M.no
 |.of o c i,J=>M.bd (ev o J) λx=>M.bd (J6 c x) λfs=>M.opt (fs[i]?.map .d)
 |.mk c f xs,J=>M.bd (evs xs J) λvs=>mkW (F f) c vs
 |.cm c f o xs,J=>M.bd (ev o J) λx=>M.bd (J6 c x) λ_=>M.bd (evs xs J) λvs=>M.qt (bT (F f) (x::vs))
 |.Ss,_=>λs=>some (.ok (.l s.length),s++[.dct []])
 |.din b k d,J=>M.bd (ev k J) λx=>M.bd (ev d J) λy=>M.bd (key x) λkx=>M.bd (uY y) λnk=>M.ret (.d (.bl ((yh kx nk.2).isSome==b)))
 |.Sv d k,J=>M.bd (ev d J) λy=>M.bd (ev k J) λx=>M.bd (key x) λkx=>M.bd (uY y) λnk=>M.opt ((yh kx nk.2).map .d)
 |.tru a,J=>M.bd (ev a J) λx=>M.bd (rd x) λd=>M.bd (M.opt (J5 d)) λk=>M.ret (.d (.bl k))
 |.JD fz a b,J=>if aj=true then M.bd (ev a J) λx=>match x with
   |.d (.fl xs)=>M.bd (M.opt (Ah (λd=>ev b [some (.d d)]) xs)) λks=>M.bd (M.opt (qI (Gj ks) xs)) λys=>newL fz ys
   |_=>M.no else M.no
 |.orv a b,J=>M.bd (ev a J) λx=>M.bd (rd x) λd=>M.bd (M.opt (J5 d)) λk=>if k=true then M.ret x else ev b J
 |.ins o i a,J=>M.bd (ev o J) λx=>M.bd (cD x) λ_=>M.bd (ev i J) λz=>M.bd (int z) λj=>M.bd (ev a J) λy=>M.bd (dat y) λd=>M.bd (cD x) λnx=>if 0<=j/\j<=nx.2.length/\nx.2.length<sizeLine then M.bd (putL nx.1 (nx.2.take j.toNat++d::nx.2.drop j.toNat)) λ_=>M.ret (.d .non) else M.no
 |.no,_=>M.no
noncomputable def iy:Wk->Vs->M (Src×Nat)
 |.seq e,J=>M.bd (ev e J) src
 |.rg a b,J=>M.bd (ev a J) λx=>M.bd (ev b J) λy=>M.bd (int x) λi=>M.bd (int y) λj=>if fU i&&fU j then M.ret (.fix (jf i j),(jf i j).length) else M.no
 |.zip a b,J=>M.bd (ev a J) λx=>M.bd (ev b J) λy=>M.bd (pI x) λxs=>M.bd (pI y) λys=>M.ret (.fix (List.zipWith (λp q=>.tup [p,q]) xs ys),(List.zipWith (λ(p q:D)=>D.tup [p,q]) xs ys).length)
 |.enum a,J=>M.bd (ev a J) n_
 |.rrg a,J=>M.bd (ev a J) λx=>M.bd (int x) λi=>if fU i then M.ret (.fix (jf 0 i).reverse,(jf 0 i).length) else M.no
noncomputable def yj:Eo->Vs->M (Option Int)
 |.no,_=>M.ret none
 |.yes a,J=>M.bd (ev a J) λx=>M.bd (int x) λi=>M.ret (some i)
noncomputable def nG:Eo->Vs->M Bool
 |.no,_=>M.ret true
 |.yes a,J=>M.bd (ev a J) bool
noncomputable def evs:Es->Vs->M (List Xv)
 |.nil,_=>M.ret []
 |.cons a r,J=>M.bd (ev a J) λx=>M.bd (evs r J) λxs=>M.ret (x::xs)
end
end
inductive Out where
 |nx (J:Vs)|rt (x:Xv)|bk (J:Vs)|ct (J:Vs)|er (c:Nat) (fs:List D) (J:Vs)
noncomputable abbrev MS:=S->Option (Out×S)
noncomputable def ofM{α:Type}(m:M α)(J:Vs)(k:α->MS):MS:=λs=>match m s with
 |some (.ok a,s')=>k a s'
 |some (.er c fs,s')=>some (.er c fs J,s')
 |none=>none
noncomputable def cX(m:MS)(k:Vs->MS):MS:=λs=>match m s with
 |some (.nx J,s')=>k J s'
 |r=>r
section
variable (ao:Nat->Nat->Bool)
noncomputable def store(aj:Bool)(F:Fn)(t:Tg)(x:Xv)(J:Vs):MS:=match t with
 |.nm i=>λs=>some (.nx (J.set i (some x)),s)
 |.tp is=>if aj=true then ofM (M.bd (dat x) λd=>M.opt ((jX d).bind λds=>fV is (ds.map .d) J)) J (λJ' s=>some (.nx J',s)) else λ_=>none
 |.ao o i=>ofM (M.bd (dat x) λd=>M.bd (ev ao aj F o J) λy=>M.bd (ev ao aj F i J) λz=>M.bd (int z) λj=>M.bd (cD y) λnx=>
   match L2.v8 nx.2.length j with
   |some q=>putL nx.1 (nx.2.set q d)
   |none=>M.no) J (λ_ s=>some (.nx J,s))
noncomputable def pK(c:Vs->M Bool)(b:Vs->MS):Nat->Vs->MS
 |0,_=>λ_=>none
 |k+1,J=>ofM (c J) J λok=>if ok=true then λs=>match b J s with
   |some (.nx J',s')=>pK c b k J' s'
   |some (.ct J',s')=>pK c b k J' s'
   |some (.bk J',s')=>some (.nx J',s')
   |r=>r
  else λs=>some (.nx J,s)
noncomputable def gF(c:Src)(b:D->Vs->MS):Nat->Nat->Vs->MS
 |0,_,_=>λ_=>none
 |k+1,i,J=>λs=>match c.at i s with
  |none=>none
  |some none=>some (.nx J,s)
  |some (some d)=>match b d J s with
   |some (.nx J',s')=>gF c b k (i+1) J' s'
   |some (.ct J',s')=>gF c b k (i+1) J' s'
   |some (.bk J',s')=>some (.nx J',s')
   |r=>r
noncomputable def goes(i:Nat):Out->Out
 |.nx J=>.nx (J.set i none)
 |.bk J=>.bk (J.set i none)
 |.ct J=>.ct (J.set i none)
 |r=>r
noncomputable def J7:Nat:=1000000000000
mutual
noncomputable def ex(aj:Bool)(F:Bool->Fn):St->Vs->MS
 |.pass,J=>λs=>some (.nx J,s)
 |.ex e,J=>ofM (ev ao aj (F aj) e J) J λ_ s=>some (.nx J,s)
 |.asg t e,J=>ofM (ev ao aj (F aj) e J) J λx=>store ao aj (F aj) t x J
 |.par i j a b,J=>if aj=true then ofM (M.bd (ev ao aj (F aj) a J) λx=>M.bd (ev ao aj (F aj) b J) λy=>M.ret (x,y)) J λxy s=>some (.nx ((J.set i (some xy.1)).set j (some xy.2)),s) else λ_=>none
 |.aug i e,J=>ofM (M.bd (M.opt (J[i]?.join)) λx=>M.bd (ev ao aj (F aj) e J) λy=>M.bd (int x) λp=>M.bd (int y) λq=>M.ret (p+q)) J λr s=>some (.nx (J.set i (some (.d (.int r)))),s)
 |.ret e,J=>ofM (ev ao aj (F aj) e J) J λx s=>some (.rt x,s)
 |.rise c kp xs,J=>if aj=true then ofM (M.bd (evs ao aj (F aj) xs J) gW) J λds s=>some (.er c (if kp=true then ds else []) J,s) else λ_=>none
 |.iff c t e,J=>ofM (M.bd (ev ao aj (F aj) c J) bool) J λb=>if b=true then exs aj F t J else exs aj F e J
 |.wh c b,J=>pK (λJ=>M.bd (ev ao aj (F aj) c J) bool) (λJ=>exs aj F b J) J7 J
 |.fr t w b,J=>if aj=true then ofM (iy ao aj (F aj) w J) J λcn=>gF cn.1 (λd J=>cX (store ao aj (F aj) t (.d d) J) λJ'=>exs aj F b J') (cn.2+1) 0 J else λ_=>none
 |.Sw b d i h,J=>if aj=true then λs=>match exs aj F b J s with
   |some (.er c fs J',s')=>if ao c d=true then (match exs false F h (J'.set i (some (.d (.exc c fs)))) s' with
    |some (r,s'')=>(match r with
     |.er _ _ _=>none
     |r=>some (goes i r,s''))
    |none=>none) else none
   |r=>r
  else λ_=>none
 |.dput d k v,J=>ofM (M.bd (ev ao aj (F aj) v J) λz=>M.bd (dat z) λw=>M.bd (ev ao aj (F aj) d J) λy=>M.bd (ev ao aj (F aj) k J) λx=>M.bd (key x) λkx=>M.bd (uY y) λnk=>if nk.2.length<sizeLine then putD nk.1 (S_ kx w nk.2) else M.no) J (λ_ s=>some (.nx J,s))
 |.no,_=>λ_=>none
noncomputable def exs(aj:Bool)(F:Bool->Fn):cU->Vs->MS
 |.nil,J=>λs=>some (.nx J,s)
 |.cons a r,J=>cX (ex aj F a J) λJ'=>exs aj F r J'
end
structure Df where
 many:Nat
 jB:Nat
 body:cU
noncomputable def call(T:Nat->Option Df):Nat->Bool->Fn
 |0,_,_,_=>M.no
 |k+1,aj,f,xs=>match T f with
  |none=>M.no
  |some d=>if xs.length=d.jB then λs=>match exs ao aj (λc=>call T k c) d.body (xs.map some++List.replicate (d.many-d.jB) none) s with
    |some (.nx _,s')=>some (.ok (.d .non),s')
    |some (.rt v,s')=>some (.ok v,s')
    |some (.er c fs _,s')=>some (.er c fs,s')
    |_=>none
   else M.no
end
end Mi
namespace Mi
open PySem L2
structure Ph where
 z:Addr->Prop
 l:List Addr
structure Cl where
 a:Nat->Addr
 f:Nat->List Str
 b:Nat->Addr
 g:Nat->List Str
section
variable (K:W.Frag)(cA:Cl)
def KT(a:Addr)(vs:List V):Prop:=gC K (λ_=>none) a vs
def KL(a:Addr)(vs:List V):Prop:=cY K (λ_=>none) a vs
def TupAt(U:Ph)(H:Hp)(a:Addr)(vs:List V):Prop:=(Rd H a (.tup vs)/\¬U.z a)\/KT K a vs
def LstAt(U:Ph)(H:Hp)(a:Addr)(vs:List V):Prop:=(Rd H a (.lst vs)/\¬U.z a)\/KL K a vs
def ExcAt(U:Ph)(H:Hp)(a:Addr)(c:Nat)(vs:List V):Prop:=¬U.z a/\((cA.f c=[]/\vs=[]/\H a=some (xY a (cA.a c) none))\/∃dx,H a=some (xY a (cA.a c) (some dx))/\¬U.z dx/\H dx=some (.xd ((cA.f c).zip vs))/\(cA.f c).length=vs.length)
def pN(U:Ph)(H:Hp)(a:Addr)(c:Nat)(vs:List V):Prop:=¬U.z a/\∃dx,H a=some (.ins (cA.b c) dx ((cA.g c).zip vs))/\(cA.g c).length=vs.length
mutual
inductive Rep (U:Ph) (H:Hp):D->V->Prop where
 |non:Rep U H .non .non
 |bl (b:Bool):Rep U H (.bl b) (.bl b)
 |int (i:Int):Rep U H (.int i) (.int i)
 |str (x:Str):Rep U H (.str x) (.str x)
 |tup {a:Addr} {xs:List D} {vs:List V} (h:TupAt K U H a vs) (r:aB U H xs vs):Rep U H (.tup xs) (.ref a)
 |fl {a:Addr} {xs:List D} {vs:List V} (h:LstAt K U H a vs) (r:aB U H xs vs):Rep U H (.fl xs) (.ref a)
 |fd {a:Addr} {k:Str} {i:Int} (h:H a=some (.dK [(.inr k,.int i)])) (n:¬U.z a):Rep U H (.fd [.str k] [.int i]) (.ref a)
 |exc {a:Addr} {c:Nat} {xs:List D} {vs:List V} (h:ExcAt cA U H a c vs) (r:aB U H xs vs):Rep U H (.exc c xs) (.ref a)
 |ob {a:Addr} {c:Nat} {xs:List D} {vs:List V} (h:pN cA U H a c vs) (r:aB U H xs vs):Rep U H (.ob c xs) (.ref a)
 |any (a:Addr):Rep U H .any (.ref a)
inductive aB (U:Ph) (H:Hp):List D->List V->Prop where
 |nil:aB U H [] []
 |cons {d:D} {v:V} {ds:List D} {vs:List V} (h:Rep U H d v) (r:aB U H ds vs):aB U H (d::ds) (v::vs)
end
inductive aQ (U:Ph) (H:Hp):Xv->V->Prop where
 |d {x:D} {v:V} (h:Rep K cA U H x v):aQ U H (.d x) v
 |l {n:Nat} {a:Addr} (h:U.l[n]?=some a):aQ U H (.l n) (.ref a)
inductive cj (U:Ph) (H:Hp):List Xv->List V->Prop where
 |nil:cj U H [] []
 |cons {d:Xv} {v:V} {ds:List Xv} {vs:List V} (h:aQ K cA U H d v) (r:cj U H ds vs):cj U H (d::ds) (v::vs)
noncomputable def kxH:Kx->Int
 |.non=>reduceHash 0xFCA86420
 |.int i=>hashInt i
 |.row is=>reduceHash (Builtin.Tuple.tupleHashOf (is.map hashInt))
noncomputable def J8(k:List Kx):Int:=reduceHash (Builtin.Tuple.tupleHashOf (k.map kxH))
noncomputable def kxD:Kx->D
 |.non=>.non
 |.int i=>.int i
 |.row is=>.tup (is.map .int)
noncomputable def Tc(k:List Kx):D:=.tup (k.map kxD)
noncomputable abbrev rT:=List (List Kx×Addr×Value)
noncomputable def DcO(a:Addr)(xs:rT):HO:=.ext λh=>(a==sysModules)=false/\xs.length<=sizeLine/\∃o es ep,h.get? a=some o/\o.ExactDict/\o.data=.dict es ep/\es.toList=xs.map (λx=>⟨J8 x.1,.ref x.2.1,x.2.2⟩)/\(xs.map (·.1)).Nodup
inductive Dy (U:Ph) (H:Hp):wk->rT->Prop where
 |nil:Dy U H [] []
 |cons {k:List Kx} {d:D} {ka:Addr} {u:Value} {v:V} {r:wk} {xs:rT} (hk:Rep K cA U H (Tc k) (.ref ka)) (hu:RelV v u) (hv:Rep K cA U H d v) (q:Dy U H r xs):Dy U H ((k,d)::r) ((k,ka,u)::xs)
noncomputable def kW(U:Ph)(H:Hp)(a:Addr):SO->Prop
 |.lst xs=>∃vs,H a=some (.lst vs)/\aB K cA U H xs vs
 |.dct kvs=>∃xs,H a=some (DcO a xs)/\Dy K cA U H kvs xs
structure aG(U:Ph)(H:Hp)(s:S):Prop where
 len:U.l.length=s.length
 obj:∀(n:Nat) o a,s[n]?=some o->U.l[n]?=some a->kW K cA U H a o
 uniq:U.l.Nodup
 lz:∀a∈U.l,U.z a
 zt:∀a,U.z a->∃o,H a=some o
structure Ext(U:Ph)(H:Hp)(U':Ph)(H':Hp):Prop where
 more:∃r,U'.l=U.l++r/\∀b∈r,H b=none
 uZ:∀a,U.z a->U'.z a
 m6:∀a,U'.z a->U.z a\/H a=none
 frame:∀a o,H a=some o->a∉U.l->H' a=some o
 stay:∀a o,H a=some o->∃o',H' a=some o'
def aR(U:Ph)(H:Hp)(Z:L2.St)(J:Vs):Prop:=Z.length=J.length/\∀(i:Nat) (x:Xv),J[i]?=some (some x)->∃v,Z[i]?=some (some v)/\aQ K cA U H x v
end
section
variable {K:W.Frag}{cA:Cl}{U U' jY:Ph}{H H' m7:Hp}{s:S}{Z:L2.St}{J:Vs}
theorem Ext.refl:Ext U H U H:=⟨⟨[],by simp,by simp⟩,λ_ h=>h,λ_ h=>.inl h,λ_ _ h _=>h,λ_ o h=>⟨o,h⟩⟩
theorem Ext.lY(x:Ext U H U' H'){a:Addr}(h:H' a=none):H a=none:=by
 cases e:H a with
 |none=>rfl
 |some o=>obtain⟨o',q⟩:=x.stay a o e;rw[h] at q;cases q
theorem Ext.trans(x:Ext U H U' H')(y:Ext U' H' jY m7):Ext U H jY m7:=by
 obtain⟨r,e,hr⟩:=x.more;obtain⟨r',e',nH⟩:=y.more;refine⟨⟨r++r',by rw[e',e,BZ],λb hb=>?_⟩,λa h=>y.uZ a (x.uZ a h),λa h=>?_,λa o h n=>y.frame a o (x.frame a o h n) ?_,λa o h=>?_⟩
 ·rcases eU.mp hb with z|z
  ·exact hr b z
  ·exact x.lY (nH b z)
 ·rcases y.m6 a h with z|z
  ·exact x.m6 a z
  ·exact .inr (x.lY z)
 ·rw[e];intro z;rcases eU.mp z with z|z
  ·exact n z
  ·rw[hr a z] at h;cases h
 ·obtain⟨o',q⟩:=x.stay a o h;exact y.stay a o' q
theorem Ext.get(x:Ext U H U' H'){n:Nat}{a:Addr}(h:U.l[n]?=some a):U'.l[n]?=some a:=by
 obtain⟨r,e,_⟩:=x.more;rw[e,oX (gw.mp h).1];exact h
theorem Ext.out(x:Ext U H U' H')(hz:∀a∈U.l,U.z a){a:Addr}{o:HO}(h:H a=some o)(n:¬U.z a):H' a=some o/\¬U'.z a:=
 ⟨x.frame a o h λz=>n (hz a z),λz=>by
  rcases x.m6 a z with y|y
  ·exact n y
  ·rw[h] at y;cases y⟩
theorem TupAt.mono(x:Ext U H U' H')(hz:∀a∈U.l,U.z a){a:Addr}{vs:List V}(h:TupAt K U H a vs):TupAt K U' H' a vs:=by
 rcases h with ⟨h|⟨o,h⟩,n⟩|h
 ·obtain⟨p,q⟩:=x.out hz h n;exact .inl ⟨.inl p,q⟩
 ·obtain⟨p,q⟩:=x.out hz h n;exact .inl ⟨.inr ⟨o,p⟩,q⟩
 ·exact .inr h
theorem LstAt.mono(x:Ext U H U' H')(hz:∀a∈U.l,U.z a){a:Addr}{vs:List V}(h:LstAt K U H a vs):LstAt K U' H' a vs:=by
 rcases h with ⟨h|⟨o,h⟩,n⟩|h
 ·obtain⟨p,q⟩:=x.out hz h n;exact .inl ⟨.inl p,q⟩
 ·obtain⟨p,q⟩:=x.out hz h n;exact .inl ⟨.inr ⟨o,p⟩,q⟩
 ·exact .inr h
theorem ExcAt.mono(x:Ext U H U' H')(hz:∀a∈U.l,U.z a){a:Addr}{c:Nat}{vs:List V}(h:ExcAt cA U H a c vs):ExcAt cA U' H' a c vs:=by
 obtain⟨n,⟨e1,e2,h⟩|⟨dx,h,n2,h2,h3⟩⟩:=h
 ·obtain⟨p,q⟩:=x.out hz h n;exact⟨q,.inl ⟨e1,e2,p⟩⟩
 ·obtain⟨p,q⟩:=x.out hz h n;obtain⟨p2,q2⟩:=x.out hz h2 n2;exact⟨q,.inr ⟨dx,p,q2,p2,h3⟩⟩
theorem pN.mono(x:Ext U H U' H')(hz:∀a∈U.l,U.z a){a:Addr}{c:Nat}{vs:List V}(h:pN cA U H a c vs):pN cA U' H' a c vs:=by
 obtain⟨n,dx,h,h3⟩:=h;obtain⟨p,q⟩:=x.out hz h n;exact⟨q,dx,p,h3⟩
theorem Rep.mono(x:Ext U H U' H')(hz:∀a∈U.l,U.z a){d:D}{v:V}(h:Rep K cA U H d v):Rep K cA U' H' d v:=
 Rep.rec (motive_1:=λd v _=>Rep K cA U' H' d v) (motive_2:=λd v _=>aB K cA U' H' d v) .non .bl .int .str (λh _ i=>.tup (h.mono x hz) i) (λh _ i=>.fl (h.mono x hz) i) (λh n=>.fd (x.out hz h n).1 (x.out hz h n).2) (λh _ i=>.exc (h.mono x hz) i) (λh _ i=>.ob (h.mono x hz) i) .any .nil (λ_ _ i j=>.cons i j) h
theorem aB.mono(x:Ext U H U' H')(hz:∀a∈U.l,U.z a){d:List D}{v:List V}(h:aB K cA U H d v):aB K cA U' H' d v:=
 aB.rec (motive_1:=λd v _=>Rep K cA U' H' d v) (motive_2:=λd v _=>aB K cA U' H' d v) .non .bl .int .str (λh _ i=>.tup (h.mono x hz) i) (λh _ i=>.fl (h.mono x hz) i) (λh n=>.fd (x.out hz h n).1 (x.out hz h n).2) (λh _ i=>.exc (h.mono x hz) i) (λh _ i=>.ob (h.mono x hz) i) .any .nil (λ_ _ i j=>.cons i j) h
theorem aB.map(m:∀d v,Rep K cA U H d v->Rep K cA U' H' d v):∀{d:List D} {v:List V},aB K cA U H d v->aB K cA U' H' d v:=by
 intro d
 induction d with
 |nil=>intro v h;cases h;exact .nil
 |cons a d ih=>intro v h;cases h with|cons h r=>exact .cons (m _ _ h) (ih r)
theorem Dy.map(m:∀d v,Rep K cA U H d v->Rep K cA U' H' d v){d:wk}{v:rT}(h:Dy K cA U H d v):Dy K cA U' H' d v:=by
 induction h with
 |nil=>exact .nil
 |cons a b c _ ih=>exact .cons (m _ _ a) b (m _ _ c) ih
theorem kW.map{a:Addr}{o:SO}(h:kW K cA U H a o)(e:∀u,H a=some u->H' a=some u)(m:∀d v,Rep K cA U H d v->Rep K cA U' H' d v):kW K cA U' H' a o:=by
 cases o with
 |lst xs=>obtain⟨vs,q,r⟩:=h;exact⟨vs,e _ q,r.map m⟩
 |dct xs=>obtain⟨vs,q,r⟩:=h;exact⟨vs,e _ q,r.map m⟩
theorem aQ.mono(x:Ext U H U' H')(hz:∀a∈U.l,U.z a){d:Xv}{v:V}(h:aQ K cA U H d v):aQ K cA U' H' d v:=by
 cases h with
 |d h=>exact .d (h.mono x hz)
 |l h=>exact .l (x.get h)
theorem aR.mono(x:Ext U H U' H')(hz:∀a∈U.l,U.z a)(h:aR K cA U H Z J):aR K cA U' H' Z J:=⟨h.1,λi d e=>let ⟨v,a,b⟩:=h.2 i d e;⟨v,a,b.mono x hz⟩⟩
theorem aB.len{ds:List D}{vs:List V}(r:aB K cA U H ds vs):ds.length=vs.length:=by
 induction ds generalizing vs with
 |nil=>cases r;rfl
 |cons a d ih=>cases r with|cons _ r=>rw[fu,fu,ih r]
theorem cj.len{ds:List Xv}{vs:List V}(r:cj K cA U H ds vs):ds.length=vs.length:=by
 induction r with
 |nil=>rfl
 |cons _ _ ih=>rw[fu,fu,ih]
theorem aB.get{ds:List D}{vs:List V}{i:Nat}{d:D}(r:aB K cA U H ds vs)(e:ds[i]?=some d):∃v,vs[i]?=some v/\Rep K cA U H d v:=by
 induction ds generalizing vs i with
 |nil=>cases e
 |cons a ds ih=>
  cases r with
  |cons h r=>cases i with
   |zero=>cases e;exact⟨_,rfl,h⟩
   |succ i=>obtain⟨w,p,q⟩:=ih r e;exact⟨w,p,q⟩
theorem cj.get{ds:List Xv}{vs:List V}{i:Nat}{d:Xv}(r:cj K cA U H ds vs)(e:ds[i]?=some d):∃v,vs[i]?=some v/\aQ K cA U H d v:=by
 induction r generalizing i with
 |nil=>cases e
 |cons h _ ih=>cases i with
  |zero=>cases e;exact⟨_,rfl,h⟩
  |succ i=>obtain⟨w,p,q⟩:=ih e;exact⟨w,p,q⟩
theorem aB.none:∀{ds:List D} {vs:List V} {i:Nat},aB K cA U H ds vs->ds[i]?=none->vs[i]?=none:=λ{ds vs i} r e=>by
 have:=r.len;have h2:ds.length<=i:=oH.mp e;exact oH.mpr gV
theorem aB.app{ds es:List D}{vs us:List V}(h:aB K cA U H ds vs)(s:aB K cA U H es us):aB K cA U H (ds++es) (vs++us):=by
 induction ds generalizing vs with
 |nil=>cases h;exact s
 |cons a d ih=>cases h with|cons h r=>exact .cons h (ih r)
theorem aB.take{ds:List D}{vs:List V}(n:Nat)(r:aB K cA U H ds vs):aB K cA U H (ds.take n) (vs.take n):=by
 induction n generalizing ds vs with
 |zero=>exact .nil
 |succ n ih=>cases r with
  |nil=>exact .nil
  |cons h r=>exact .cons h (ih r)
theorem aB.drop{ds:List D}{vs:List V}(n:Nat)(r:aB K cA U H ds vs):aB K cA U H (ds.drop n) (vs.drop n):=by
 induction n generalizing ds vs with
 |zero=>exact r
 |succ n ih=>cases r with
  |nil=>exact .nil
  |cons h r=>exact ih r
theorem aB.set{d:D}{v:V}(h:Rep K cA U H d v){ds:List D}{vs:List V}(i:Nat)(r:aB K cA U H ds vs):aB K cA U H (ds.set i d) (vs.set i v):=by
 induction i generalizing ds vs with
 |zero=>cases r with
  |nil=>exact .nil
  |cons _ r=>exact .cons h r
 |succ i ih=>cases r with
  |nil=>exact .nil
  |cons q r=>exact .cons q (ih r)
theorem aB.rev{ds:List D}{vs:List V}(r:aB K cA U H ds vs):aB K cA U H ds.reverse vs.reverse:=by
 induction ds generalizing vs with
 |nil=>cases r;exact .nil
 |cons a ds ih=>cases r with|cons h r=>rw[MJ,MJ];exact(ih r).app (.cons h .nil)
theorem aB.cut{ds:List D}{vs:List V}{l h:Option Int}(r:aB K cA U H ds vs):aB K cA U H (Mi.cut ds l h) (mR vs l h):=by
 unfold Mi.cut mR;rw[<-r.len];exact(r.drop _).take _
def bf(H H':Hp):Prop:=∀a o,H a=some o->H' a=some o
theorem bf.refl:bf H H:=λ_ _ h=>h
theorem bf.trans(x:bf H H')(y:bf H' m7):bf H m7:=λa o h=>y a o (x a o h)
theorem bf.new{p:Addr}{o:HO}(hp:H p=none):bf H (upd H p o):=λa u h=>by rw[dD (Gd h hp)];exact h
theorem bf.ext(g:bf H H'):Ext U H U H':=⟨⟨[],by simp,by simp⟩,λ_ h=>h,λ_ h=>.inl h,λa o h _=>g a o h,λa o h=>⟨o,g a o h⟩⟩
theorem kW.grow{a:Addr}{o:SO}(g:bf H H')(hz:∀a∈U.l,U.z a)(h:kW K cA U H a o):kW K cA U H' a o:=h.map (g _) λ_ _ r=>r.mono g.ext hz
theorem aG.grow(g:bf H H')(h:aG K cA U H s):aG K cA U H' s:=
 ⟨h.len,λn o a e1 e2=>(h.obj n o a e1 e2).grow g h.lz,h.uniq,h.lz,λa z=>let ⟨o,e⟩:=h.zt a z;⟨o,g _ _ e⟩⟩
theorem aG.nz(h:aG K cA U H s){p:Addr}(hp:H p=none):¬U.z p:=λz=>by obtain⟨o,e⟩:=h.zt p z;rw[hp] at e;cases e
noncomputable def Ph.add(U:Ph)(p:Addr):Ph:=⟨λa=>U.z a\/a=p,U.l++[p]⟩
theorem Ext.add{p:Addr}{o:HO}(hp:H p=none):Ext U H (U.add p) (upd H p o):=
 ⟨⟨[p],rfl,by simpa using hp⟩,λ_ h=>.inl h,λa h=>h.imp id λe=>by rw[e];exact hp,λa u h _=>bf.new hp a u h,λa u h=>⟨u,bf.new hp a u h⟩⟩
theorem aG.Td{p:Addr}{so:SO}{ho:HO}(h:aG K cA U H s)(hp:H p=none)(hr:kW K cA (U.add p) (upd H p ho) p so):aG K cA (U.add p) (upd H p ho) (s++[so]):=by
 have pn:p∉U.l:=λz=>h.nz hp (h.lz p z);refine⟨by show (U.l++[p]).length=_;rw[h_,h_,h.len];rfl,λn o a e1 e2=>?_,?_,λa ha=>?_,λa ha=>?_⟩
 ·have e2:(U.l++[p])[n]?=some a:=e2;by_cases hn:n<s.length
  ·rw[oX hn] at e1;rw[oX (by rw[h.len];exact hn)] at e2;exact(h.obj n o a e1 e2).map (bf.new hp _) λ_ _ r=>r.mono (Ext.add hp) h.lz
  ·have hl:n=s.length:=by
    have z:=(gw.mp e1).1;rw[h_] at z;simp at z
    lia
   subst hl;rw[oW (bL _)] at e1;rw[oW (by rw[h.len];exact bL _)] at e2;simp at e1;simp[h.len] at e2;subst e1 e2;exact hr
 ·show (U.l++[p]).Nodup;rw[Hu];refine⟨h.uniq,by simp,λa ha b hb e=>?_⟩;simp at hb;subst hb e;exact pn ha
 ·have ha:a∈U.l++[p]:=ha;rcases eU.mp ha with z|z
  ·exact .inl (h.lz a z)
  ·simp at z;exact .inr z
 ·rcases ha with z|z
  ·obtain⟨o,e⟩:=h.zt a z;exact⟨o,bf.new hp _ _ e⟩
  ·subst z;exact⟨_,jO⟩
theorem aG.add{p:Addr}{xs:List D}{vs:List V}(h:aG K cA U H s)(hp:H p=none)(r:aB K cA U H xs vs):aG K cA (U.add p) (upd H p (.lst vs)) (s++[.lst xs]):=h.Td hp ⟨vs,jO,r.mono (Ext.add hp) h.lz⟩
theorem Ext.write{n:Nat}{p:Addr}{o:HO}(hp:U.l[n]?=some p)(hv:∃u,H p=some u):Ext U H U (upd H p o):=by
 have hm:p∈U.l:=iQ hp;refine⟨⟨[],by simp,by simp⟩,λ_ h=>h,λ_ h=>.inl h,λa u h n=>by
  have ne:a≠p:=λe=>n (by rw[e];exact hm);rw[dD ne];exact h,λa u h=>?_⟩
 by_cases e:a=p
 ·subst e;exact⟨o,jO⟩
 ·exact⟨u,by rw[dD e];exact h⟩
theorem aG.Dz{n:Nat}{p:Addr}{so:SO}{ho:HO}(h:aG K cA U H s)(hl:n<s.length)(hp:U.l[n]?=some p)(hr:kW K cA U (upd H p ho) p so):aG K cA U (upd H p ho) (s.set n so):=by
 have hv:=h.zt p (h.lz p (iQ hp));have x:Ext U H U (upd H p ho):=Ext.write hp hv;refine⟨by rw[vQ];exact h.len,λm o a e1 e2=>?_,h.uniq,h.lz,λa ha=>?_⟩
 ·by_cases hm:n=m
  ·subst hm;rw[Fy hl] at e1;cases e1;rw[hp] at e2;cases e2;exact hr
  ·rw[tZ hm] at e1;have ne:a≠p:=λy=>by
    subst y;exact hm ((Qu (gw.mp hp).1 h.uniq).mp (hp.trans e2.symm))
   exact(h.obj m o a e1 e2).map (λ_ q=>by rw[dD ne];exact q) λ_ _ r=>r.mono x h.lz
 ·obtain⟨o,e⟩:=h.zt a ha;obtain⟨o',e'⟩:=x.stay a o e;exact⟨o',e'⟩
theorem aG.write{n:Nat}{p:Addr}{xs ys:List D}{us:List V}(h:aG K cA U H s)(hn:s[n]?=some (.lst xs))(hp:U.l[n]?=some p)(r:aB K cA U H ys us):aG K cA U (upd H p (.lst us)) (s.set n (.lst ys)):=
 h.Dz (gw.mp hn).1 hp ⟨us,jO,r.mono (Ext.write hp (h.zt p (h.lz p (iQ hp)))) h.lz⟩
theorem aR.set{i:Nat}{d:Xv}{v:V}(hL:aR K cA U H Z J)(r:aQ K cA U H d v):aR K cA U H (Z.set i (some v)) (J.set i (some d)):=by
 refine⟨by rw[vQ,vQ];exact hL.1,λj e h=>?_⟩;by_cases lZ:i=j
 ·subst lZ;by_cases hl:i<J.length
  ·rw[Fy hl] at h;cases h;exact⟨v,by rw[Fy (by rw[hL.1];exact hl)],r⟩
  ·rw[List.getElem?_eq_none (by rw[vQ];lia)] at h;cases h
 ·rw[tZ lZ] at h;obtain⟨u,a,b⟩:=hL.2 j e h;exact⟨u,by rw[tZ lZ];exact a,b⟩
theorem TupAt.jr{a:Addr}{vs:List V}(h:TupAt K U H a vs):gC K H a vs:=by
 rcases h with ⟨h,_⟩|(h|h)
 ·exact .inl h
 ·rcases h with h|⟨o,h⟩<;>cases h
 ·exact .inr h
theorem LstAt.tL{a:Addr}{vs:List V}(h:LstAt K U H a vs):cY K H a vs:=by
 rcases h with ⟨h,_⟩|(h|h)
 ·exact .inl h
 ·rcases h with h|⟨o,h⟩<;>cases h
 ·exact .inr h
theorem TupAt.new{p:Addr}{vs:List V}(hz:¬U.z p):TupAt K U (upd H p (.tup vs)) p vs:=.inl ⟨.inl jO,hz⟩
theorem LstAt.new{p:Addr}{vs:List V}(hz:¬U.z p):LstAt K U (upd H p (.lst vs)) p vs:=.inl ⟨.inl jO,hz⟩
end
end Mi
namespace Mi
open PySem PySem.Spec PyProof.Rows L2
theorem un{α β γ:Type}{A B C:α->β->γ->Prop}{R:Prop}(h:∃a b c,A a b c/\B a b c/\C a b c)(f:∀a b c,A a b c->B a b c->C a b c->R):R:=by
 obtain⟨a,b,c,x,y,z⟩:=h;exact f a b c x y z
section
variable (K:W.Frag)(cA:Cl)
def Run{α:Type}(m:M α)(U:Ph)(H:Hp)(s:S)(P:α->S->Ph->Hp->Prop)(Ee:Nat->List D->S->Ph->Hp->Prop):Prop:=
 match m s with
 |some (.ok a,s')=>∀U' H',Ext U H U' H'->aG K cA U' H' s'->P a s' U' H'
 |some (.er c f,s')=>∀U' H',Ext U H U' H'->aG K cA U' H' s'->Ee c f s' U' H'
 |none=>False
def jZ(U:Ph)(H:Hp)(c:Nat)(fs:List D)(dx:Option Addr):Prop:=
 (cA.f c=[]/\fs=[]/\dx=none)\/∃d vs,dx=some d/\¬U.z d/\H d=some (.xd ((cA.f c).zip vs))/\(cA.f c).length=vs.length/\aB K cA U H fs vs
noncomputable def eX(EX:XS)(Z:L2.St):Nat->List D->S->Ph->Hp->Prop:=λc fs _ U' H'=>∀dx,jZ K cA U' H' c fs dx->EX Z (.ref (cA.a c)) dx H'
noncomputable def tE(EX:XS)(m:Vs->M Xv):TE:=λZ H Q=>∃U J s,aR K cA U H Z J/\aG K cA U H s/\Run K cA (m J) U H s (λd _ U' H'=>∀v,aQ K cA U' H' d v->Q v H') (eX K cA EX Z)
noncomputable def Te(EX:XS)(m:Vs->M (List Xv)):TA:=λZ H Q=>∃U J s,aR K cA U H Z J/\aG K cA U H s/\Run K cA (m J) U H s (λd _ U' H'=>∀v,cj K cA U' H' d v->Q v H') (eX K cA EX Z)
noncomputable def rW(EX:XS)(m:Vs->M Bool):TT:=λZ H Q=>∃U J s,aR K cA U H Z J/\aG K cA U H s/\Run K cA (m J) U H s (λd _ U' H'=>Q d H') (eX K cA EX Z)
def Rv(U:Ph)(H:Hp)(d:D)(v:V):Prop:=match d with
 |.fl xs=>∃a vs,v=.ref a/\cY K H a vs/\aB K cA U H xs vs
 |d=>Rep K cA U H d v
inductive yp (U:Ph) (H:Hp):List D->List V->Prop where
 |nil:yp U H [] []
 |cons {d:D} {v:V} {ds:List D} {vs:List V} (h:Rv K cA U H d v) (r:yp U H ds vs):yp U H (d::ds) (v::vs)
def aY(U:Ph)(H:Hp)(o:Option Rz)(Q:VK):Prop:=match o with
 |none=>False
 |some (.dat d)=>∀H' v,bf H H'->Rep K cA U H' d v->Q v H'
 |some (.nw xs)=>∀p vs,H p=none->aB K cA U H xs vs->Q (.ref p) (upd H p (.lst vs))
structure Zt(U:Ph)(H:Hp):Prop where
 lz:∀a∈U.l,U.z a
 zt:∀a,U.z a->∃o,H a=some o
def bw(p:Pr)(r:List V->Hp->VK->Prop):Prop:=∀(U:Ph) (H:Hp) (ds:List D) (vs:List V) (Q:VK),Zt U H->yp K cA U H ds vs->aY K cA U H (prim p ds) Q->r vs H Q
end
section
variable {K:W.Frag}{cA:Cl}{U U':Ph}{H H':Hp}{s:S}{Z:L2.St}{J:Vs}{EX:XS}
theorem aG.zs(h:aG K cA U H s):Zt U H:=⟨h.lz,h.zt⟩
theorem Zt.nz(h:Zt U H)(hp:H p=none):¬U.z p:=λz=>by obtain⟨o,e⟩:=h.zt p z;rw[hp] at e;cases e
theorem Rep.rv{d:D}{v:V}(h:Rep K cA U H d v):Rv K cA U H d v:=by
 cases h with
 |fl h r=>exact⟨_,_,rfl,h.tL,r⟩
 |non=>exact .non
 |bl b=>exact .bl b
 |int b=>exact .int b
 |str b=>exact .str b
 |tup h r=>exact .tup h r
 |fd h n=>exact .fd h n
 |exc h r=>exact .exc h r
 |ob h r=>exact .ob h r
 |any v=>exact .any v
theorem Run.bd{α β:Type}{m:M α}{k:α->M β}{P:β->S->Ph->Hp->Prop}{Ee:Nat->List D->S->Ph->Hp->Prop}(h:Run K cA (M.bd m k) U H s P Ee):Run K cA m U H s (λa s1 U1 H1=>Ext U H U1 H1/\aG K cA U1 H1 s1/\Run K cA (k a) U1 H1 s1 P Ee) Ee:=by
 unfold Run M.bd at *;cases e:m s with
 |none=>rw[e] at h;exact h
 |some r=>
  obtain⟨r,s1⟩:=r;rw[e] at h;cases r with
  |er c f=>exact h
  |ok a=>
   intro U1 H1 x1 r1;refine⟨x1,r1,?_⟩;dsimp only at h ⊢;cases e2:k a s1 with
   |none=>rw[e2] at h;exact h
   |some q=>
    obtain⟨q,s2⟩:=q;rw[e2] at h;cases q with
    |ok b=>exact λU2 H2 x2 r2=>h U2 H2 (x1.trans x2) r2
    |er c f=>exact λU2 H2 x2 r2=>h U2 H2 (x1.trans x2) r2
theorem Run.imp{α:Type}{m:M α}{P P':α->S->Ph->Hp->Prop}{Ee:Nat->List D->S->Ph->Hp->Prop}(h:Run K cA m U H s P Ee)(f:∀a s' U' H',P a s' U' H'->P' a s' U' H'):Run K cA m U H s P' Ee:=by
 unfold Run at *;split at h
 ·exact λU' H' x r=>f _ _ _ _ (h U' H' x r)
 ·exact h
 ·exact h
theorem Run.bU{α:Type}{a:α}{P:α->S->Ph->Hp->Prop}{Ee:Nat->List D->S->Ph->Hp->Prop}(r:aG K cA U H s)(h:Run K cA (M.ret a) U H s P Ee):P a s U H:=h U H Ext.refl r
theorem Run.opt{α:Type}{o:Option α}{P:α->S->Ph->Hp->Prop}{Ee:Nat->List D->S->Ph->Hp->Prop}(r:aG K cA U H s)(h:Run K cA (M.opt o) U H s P Ee):∃a,o=some a/\P a s U H:=by
 cases o with
 |none=>exact h.elim
 |some a=>exact⟨a,rfl,h U H Ext.refl r⟩
theorem Oh(h:Run K cA (M.bd (M.opt o) k) U H s P Ee):∃a,o=some a/\Run K cA (k a) U H s P Ee:=by
 cases o with
 |none=>exact h.elim
 |some a=>exact⟨a,rfl,h⟩
theorem J9{β:Type}{x:Xv}{v:V}{k:Bool->M β}{P:β->S->Ph->Hp->Prop}{Ee:Nat->List D->S->Ph->Hp->Prop}(r:aQ K cA U H x v)(h:Run K cA (M.bd (bool x) k) U H s P Ee):∃b,x=.d (.bl b)/\v=.bl b/\Run K cA (k b) U H s P Ee:=by
 cases r with
 |l _=>exact h.elim
 |d r=>cases r with
  |bl b=>exact⟨b,rfl,rfl,h⟩
  |_=>exact h.elim
theorem J_(r:aQ K cA U H x v)(h:Run K cA (M.bd (int x) k) U H s P Ee):∃b,x=.d (.int b)/\v=.int b/\Run K cA (k b) U H s P Ee:=by
 cases r with
 |l _=>exact h.elim
 |d r=>cases r with
  |int b=>exact⟨b,rfl,rfl,h⟩
  |_=>exact h.elim
theorem Tf(r:aQ K cA U H x v)(h:Run K cA (M.bd (dat x) k) U H s P Ee):∃d,x=.d d/\Rep K cA U H d v/\Run K cA (k d) U H s P Ee:=by
 cases r with
 |l _=>exact h.elim
 |d r=>exact⟨_,rfl,r,h⟩
theorem Y_:∀{xs:List Xv} {vs:List V} {k:List D->M β} {P:β->S->Ph->Hp->Prop} {Ee:Nat->List D->S->Ph->Hp->Prop},cj K cA U H xs vs->Run K cA (M.bd (gW xs) k) U H s P Ee->∃ds,xs=ds.map .d/\aB K cA U H ds vs/\Run K cA (k ds) U H s P Ee:=by
 intro xs
 induction xs with
 |nil=>intro vs k P Ee r h;cases r;exact⟨[],rfl,.nil,h⟩
 |cons x xs ih=>
  intro vs k P Ee r h;cases r with
  |cons a r=>
   cases a with
   |l _=>exact h.elim
   |@d y v a=>
    have h2:Run K cA (M.bd (gW xs) λds=>k (y::ds)) U H s P Ee:=by
     unfold Run M.bd gW dat at h;unfold Run M.bd;simp only[M.bd,M.ret] at h;cases e:gW xs s with
     |none=>simp only[e] at h
     |some q=>
      obtain⟨q,s1⟩:=q;simp only[e] at h;cases q with
      |ok ds=>exact h
      |er c f=>exact h
    obtain⟨ds,e,rs,h3⟩:=ih r h2;exact⟨y::ds,by rw[e];rfl,.cons a rs,h3⟩
theorem Oi(hS:aG K cA U H s)(r:aQ K cA U H x v)(h:Run K cA (M.bd (rd x) k) U H s P Ee):∃d,Rv K cA U H d v/\Run K cA (k d) U H s P Ee:=by
 cases r with
 |d r=>exact⟨_,r.rv,h⟩
 |@l n a hl=>
  unfold Run M.bd rd at h;dsimp only at h;cases e:s[n]? with
  |none=>rw[e] at h;exact h.elim
  |some o=>
   rw[e] at h;cases o with
   |lst xs=>
    obtain⟨vs,q1,q2⟩:=hS.obj n _ _ e hl;exact⟨.fl xs,⟨a,vs,rfl,cY.of q1,q2⟩,h⟩
   |_=>exact h.elim
theorem gM{α β γ:Type}(m:M α)(f:α->M β)(g:β->M γ):M.bd (M.bd m f) g=M.bd m λx=>M.bd (f x) g:=by
 funext s
 unfold M.bd;cases m s with
 |none=>rfl
 |some r=>
  obtain⟨r,s1⟩:=r;cases r<;>rfl
theorem pO{β:Type}:∀{xs:List Xv} {vs:List V} {k:List D->M β} {P:β->S->Ph->Hp->Prop} {Ee:Nat->List D->S->Ph->Hp->Prop},aG K cA U H s->cj K cA U H xs vs->Run K cA (M.bd (gb xs) k) U H s P Ee->∃ds,yp K cA U H ds vs/\Run K cA (k ds) U H s P Ee:=by
 intro xs
 induction xs with
 |nil=>intro vs k P Ee hS r h;cases r;exact⟨[],.nil,h⟩
 |cons x xs ih=>
  intro vs k P Ee hS r h;cases r with
  |cons a r=>
   have h2:Run K cA (M.bd (rd x) λd=>M.bd (gb xs) λds=>k (d::ds)) U H s P Ee:=by
    have e:M.bd (gb (x::xs)) k=M.bd (rd x) λd=>M.bd (gb xs) λds=>k (d::ds):=by
     show M.bd (M.bd (rd x) λd=>M.bd (gb xs) λds=>M.ret (d::ds)) k=_;rw[gM]
     congr 1
     funext d
     rw[gM];rfl
    rw[e] at h;exact h
   obtain⟨d,rd,h3⟩:=Oi hS a h2;obtain⟨ds,rs,h4⟩:=ih hS r h3;exact⟨d::ds,.cons rd rs,h4⟩
theorem oK{fz:Bool}{o:Option Rz}{Q:VK}{Ee:Nat->List D->S->Ph->Hp->Prop}(hS:aG K cA U H s)(h:Run K cA (bJ fz o) U H s (λx _ U' H'=>∀v,aQ K cA U' H' x v->Q v H') Ee):aY K cA U H o Q:=by
 cases o with
 |none=>exact h.elim
 |some z=>
  cases z with
  |dat d=>exact λH' v g r=>h U H' g.ext (hS.grow g) v (.d r)
  |nw xs=>
   intro p vs hp r;cases fz with
   |true=>exact h U _ (bf.new hp).ext (hS.grow (bf.new hp)) _ (.d (.fl (LstAt.new (hS.nz hp)) (r.mono (bf.new hp).ext hS.lz)))
   |false=>exact h (U.add p) _ (Ext.add hp) (hS.add hp r) _ (.l (by show (U.l++[p])[s.length]?=_;rw[<-hS.len];simp))
theorem zhN{fz:Bool}{xs:List D}{Q:VK}{Ee:Nat->List D->S->Ph->Hp->Prop}(hS:aG K cA U H s)(h:Run K cA (newL fz xs) U H s (λx _ U' H'=>∀v,aQ K cA U' H' x v->Q v H') Ee):∀p vs,H p=none->aB K cA U H xs vs->Q (.ref p) (upd H p (.lst vs)):=
 oK (o:=some (.nw xs)) hS h
theorem bG{β:Type}{ma:Vs->M Xv}{k:Xv->M β}{P:β->S->Ph->Hp->Prop}(hL:aR K cA U H Z J)(hS:aG K cA U H s)(h:Run K cA (M.bd (ma J) k) U H s P (eX K cA EX Z)){Q:VK}
  (f:∀x H1 U1 d s1,Ext U H U1 H1->aR K cA U1 H1 Z J->aG K cA U1 H1 s1->aQ K cA U1 H1 d x->Run K cA (k d) U1 H1 s1 P (eX K cA EX Z)->Q x H1):tE K cA EX ma Z H Q:=
 ⟨U,J,s,hL,hS,h.bd.imp λd s1 U1 H1 ⟨x1,r1,h1⟩ v rv=>f v H1 U1 d s1 x1 (hL.mono x1 hS.lz) r1 rv h1⟩
theorem oh{β:Type}{ma:Vs->M (List Xv)}{k:List Xv->M β}{P:β->S->Ph->Hp->Prop}(hL:aR K cA U H Z J)(hS:aG K cA U H s)(h:Run K cA (M.bd (ma J) k) U H s P (eX K cA EX Z)){Q:List V->Hp->Prop}
  (f:∀x H1 U1 d s1,Ext U H U1 H1->aR K cA U1 H1 Z J->aG K cA U1 H1 s1->cj K cA U1 H1 d x->Run K cA (k d) U1 H1 s1 P (eX K cA EX Z)->Q x H1):Te K cA EX ma Z H Q:=
 ⟨U,J,s,hL,hS,h.bd.imp λd s1 U1 H1 ⟨x1,r1,h1⟩ v rv=>f v H1 U1 d s1 x1 (hL.mono x1 hS.lz) r1 rv h1⟩
theorem yq(hL:aR K cA U H Z J)(hS:aG K cA U H s)(h:Run K cA (M.bd (ma J) k) U H s P (eX K cA EX Z))
  (f:∀b H1 U1 s1,Ext U H U1 H1->aR K cA U1 H1 Z J->aG K cA U1 H1 s1->Run K cA (k b) U1 H1 s1 P (eX K cA EX Z)->Q b H1):rW K cA EX ma Z H Q:=
 ⟨U,J,s,hL,hS,h.bd.imp λd s1 U1 H1 ⟨x1,r1,h1⟩=>f d H1 U1 s1 x1 (hL.mono x1 hS.lz) r1 h1⟩
end
section
variable (X:Cx)(cA:Cl)(ao:Nat->Nat->Bool)(aj:Bool)(F:Fn)(EX:XS)
def SE(e:Expr)(m:E):Prop:=PE X e (tE X.K cA EX (ev ao aj F m))
def SA(es:List Expr)(m:Es):Prop:=PA X es (Te X.K cA EX (evs ao aj F m))
def ST(e:Expr)(m:E):Prop:=PT X e (rW X.K cA EX (λJ=>M.bd (ev ao aj F m J) bool))
def SW(e:Expr)(m:E):Prop:=PW X e (rW X.K cA EX (λJ=>M.bd (ev ao aj F m J) bool))
end
section
variable {X:Cx}{cA:Cl}{ao:Nat->Nat->Bool}{aj:Bool}{F:Fn}{EX:XS}{a b c d e:Expr}{A B C Dd E':E}{pos:Pos}{es:List Expr}{Xs:Es}{fz:Bool}{p:Pr}
theorem PE.weak{t t':TE}(h:PE X e t)(f:∀Z H Q,t' Z H Q->t Z H Q):PE X e t':=λak s Z H Q I q=>h ak s Z H Q I (f Z H Q q)
theorem PT.weak{t t':TT}(h:PT X e t)(f:∀Z H Q,t' Z H Q->t Z H Q):PT X e t':=λak s Z H Q I q=>h ak s Z H Q I (f Z H Q q)
theorem PW.weak{t t':TT}(h:PW X e t)(f:∀Z H Q,t' Z H Q->t Z H Q):PW X e t':=λwh ak s Z H Q I q=>h wh ak s Z H Q I (f Z H Q q)
theorem PA.weak{t t':TA}(h:PA X es t)(f:∀Z H Q,t' Z H Q->t Z H Q):PA X es t':=λp ak s Z H Q I q=>h p ak s Z H Q I (f Z H Q q)
theorem zmI{i j p}:SE X cA ao aj F EX (.Constant (.int i) j p) (.c (.int i)):=PE.weak Nt λZ H Q hh=>un hh λU J s hL hS h=>h.bU hS _ (.d (.int i))
theorem znK{i j p}:SE X cA ao aj F EX (.Constant (.bool i) j p) (.c (.bl i)):=PE.weak znc λZ H Q hh=>un hh λU J s hL hS h=>h.bU hS _ (.d (.bl i))
theorem zlQ{j p}:SE X cA ao aj F EX (.Constant .none j p) (.c .non):=PE.weak zkV λZ H Q hh=>un hh λU J s hL hS h=>h.bU hS _ (.d .non)
theorem zlX{i j p}:SE X cA ao aj F EX (.Constant (.str i) j p) (.c (.str i)):=PE.weak X5 λZ H Q hh=>un hh λU J s hL hS h=>h.bU hS _ (.d (.str i))
theorem Ti{α:Type}{o:Option (Option α)}{x:α}(h:o.join=some x):o=some (some x):=by
 cases o with
 |none=>cases h
 |some y=>cases y with
  |none=>cases h
  |some z=>cases h;rfl
theorem Za(i:Nat){x:Str}(hN:X.N[i]?=some x:=by rfl)(hv:QC X.env.scope x:=by first|exact Or.inl rfl|exact Or.inr (Or.inl rfl)|exact Or.inr (Or.inr rfl))(hd:(x==("__debug__" : Str))=false:=by decide)
  (oJ:(x==("__classdict__" : Str))=false:=by decide):SE X cA ao aj F EX (.Name x pos) (.v i):=PE.weak (zl5 hN hv hd oJ) λZ H Q hh=>un hh λU J s hL hS h=>by
 obtain⟨dd,e1,q⟩:=Run.opt hS h;obtain⟨v,q1,q2⟩:=hL.2 i dd (Ti e1);exact⟨v,q1,q v q2⟩
theorem zkp{x:Str}{i:Int}{t:Tok}(hg:Gl X x)(hm:X.mg x=some (.int i t))(hd:(x==("__debug__" : Str))=false:=by decide):SE X cA ao aj F EX (.Name x pos) (.c (.int i)):=PE.weak (X7 (v:=.int i) hg hm ⟨t,rfl⟩ hd) λZ H Q hh=>un hh λU J s hL hS h=>h.bU hS _ (.d (.int i))
theorem zi3{x y:Str}{t:Tok}(hg:Gl X x)(hm:X.mg x=some (.str y t))(hd:(x==("__debug__" : Str))=false:=by decide):SE X cA ao aj F EX (.Name x pos) (.c (.str y)):=PE.weak (X7 (v:=.str y) hg hm ⟨t,rfl⟩ hd) λZ H Q hh=>un hh λU J s hL hS h=>h.bU hS _ (.d (.str y))
theorem zln:SA X cA ao aj F EX [] .nil:=PA.weak CK λZ H Q hh=>un hh λU J s hL hS h=>h.bU hS _ .nil
theorem zjT(ha:SE X cA ao aj F EX a A)(hr:SA X cA ao aj F EX es Xs)(hs:starEach (a::es) X.env=(false,eval a X.env)::starEach es X.env:=by rfl):SA X cA ao aj F EX (a::es) (.cons A Xs):=PA.weak (v7 ha hr hs) λZ H Q hh=>un hh λU J s hL hS h=>by
 refine bG hL hS h λx H1 U1 d1 s1 x1 hL1 aL r1 h1=>oh hL1 aL h1 λys H2 U2 d2 s2 x2 hL2 hS2 r2 h2=>h2.bU hS2 _ (.cons (r1.mono x2 aL.lz) r2)
theorem Oj{U U1 U2:Ph}{H1 H2:Hp}{s1 s2:S}{d1 d2:Xv}{x y:V}{Q:VK}{Ee:Nat->List D->S->Ph->Hp->Prop}(x2:Ext U1 H1 U2 H2)(aL:aG X.K cA U1 H1 s1)(hS2:aG X.K cA U2 H2 s2)(r1:aQ X.K cA U1 H1 d1 x)(r2:aQ X.K cA U2 H2 d2 y)
  (h:Run X.K cA (M.bd (gb [d1,d2]) λds=>bJ fz (prim p ds)) U2 H2 s2 (λx _ U' H'=>∀v,aQ X.K cA U' H' x v->Q v H') Ee) {r:List V->Hp->VK->Prop} (hp:bw X.K cA p r):r [x,y] H2 Q:=by
 obtain⟨ds,rs,h2⟩:=pO hS2 (.cons (r1.mono x2 aL.lz) (.cons r2 .nil)) h;exact hp U2 H2 ds _ Q hS2.zs rs (oK hS2 h2)
noncomputable def r2(r:R2):List V->Hp->VK->Prop:=λvs H Q=>∃x y,vs=[x,y]/\r x y H Q
theorem Ai{r:R2}{x y:V}{H:Hp}{Q:VK}(h:r2 r [x,y] H Q):r x y H Q:=by
 obtain⟨_,_,e,q⟩:=h;cases e;exact q
theorem zlL{op:Operator}{r:R2}(ho:dF X (binaryOp op) r)(hp:bw X.K cA p (r2 r))(ha:SE X cA ao aj F EX a A)(hb:SE X cA ao aj F EX b B):SE X cA ao aj F EX (.BinOp a op b pos) (.pr fz p (.cons A (.cons B .nil))):=PE.weak (zns ho ha hb) λZ H Q hh=>un hh λU J s hL hS h=>by
 have h:Run X.K cA (M.bd (M.bd (ev ao aj F A J) λx=>M.bd (M.bd (ev ao aj F B J) λy=>M.bd (M.ret []) λz=>M.ret (y::z)) λys=>M.ret (x::ys)) λvs=>M.bd (gb vs) λds=>bJ fz (prim p ds)) U H s _ _:=h;simp only[gM] at h;refine bG hL hS h λx H1 U1 d1 s1 x1 hL1 aL r1 h1=>bG hL1 aL h1 λy H2 U2 d2 s2 x2 hL2 hS2 r2' h2=>?_;exact Ai (Oj (fz:=fz) (U:=U) x2 aL hS2 r1 r2' h2 hp)
theorem zmm{op:CmpOp}{r:R2}(ho:dF X (compareOp op) r)(hp:bw X.K cA p (r2 r))(ha:SE X cA ao aj F EX a A)(hb:SE X cA ao aj F EX b B)(hm:behindInMarks op b=false):SE X cA ao aj F EX (.Compare a [op] [b] pos) (.pr true p (.cons A (.cons B .nil))):=PE.weak (zj1 ho ha hb hm) λZ H Q hh=>un hh λU J s hL hS h=>by
 have h:Run X.K cA (M.bd (M.bd (ev ao aj F A J) λx=>M.bd (M.bd (ev ao aj F B J) λy=>M.bd (M.ret []) λz=>M.ret (y::z)) λys=>M.ret (x::ys)) λvs=>M.bd (gb vs) λds=>bJ true (prim p ds)) U H s _ _:=h;simp only[gM] at h;refine bG hL hS h λx H1 U1 d1 s1 x1 hL1 aL r1 h1=>bG hL1 aL h1 λy H2 U2 d2 s2 x2 hL2 hS2 r2' h2=>?_;exact Ai (Oj (fz:=true) (U:=U) x2 aL hS2 r1 r2' h2 hp)
theorem iT{A B:Prop}(h:A):if true=true then A else B:=by rw[if_pos rfl];exact h
theorem iF{A B:Prop}(h:B):if false=true then A else B:=by rw[if_neg Bool.false_ne_true];exact h
theorem zkz{op:CmpOp}{r:R2}(ho:dF X (compareOp op) r)(hp:bw X.K cA p (r2 r))(ha:SE X cA ao aj F EX a A)(hb:SE X cA ao aj F EX b B)(hm:behindInMarks op b=false):ST X cA ao aj F EX (.Compare a [op] [b] pos) (.pr true p (.cons A (.cons B .nil))):=PT.weak (zjO ho ha hb hm) λZ H Q hh=>un hh λU J s hL hS h=>by
 have h:Run X.K cA (M.bd (M.bd (M.bd (ev ao aj F A J) λx=>M.bd (M.bd (ev ao aj F B J) λy=>M.bd (M.ret []) λz=>M.ret (y::z)) λys=>M.ret (x::ys)) λvs=>M.bd (gb vs) λds=>bJ true (prim p ds)) bool) U H s _ _:=h;simp only[gM] at h;refine bG hL hS h λx H1 U1 d1 s1 x1 hL1 aL r1 h1=>bG hL1 aL h1 λy H2 U2 d2 s2 x2 hL2 hS2 r2' h2=>?_;obtain⟨ds,rs,h3⟩:=pO hS2 (.cons (r1.mono x2 aL.lz) (.cons r2' .nil)) h2;refine Ai (hp U2 H2 ds _ _ hS2.zs rs (oK (Ee:=eX X.K cA EX Z) hS2 (h3.bd.imp λt s3 U3 H3 ⟨x3,fW,h4⟩ v rv=>?_)));cases rv with
 |l _=>exact h4.elim
 |d rv=>cases rv with
  |bl k=>exact⟨k,rfl,h4 U3 H3 Ext.refl fW⟩
  |_=>exact h4.elim
theorem zkZ{op op':CmpOp}{r r':R2}{q:Pr}(ho:dF X (compareOp op) r)(hp:bw X.K cA p (r2 r))(lN:dF X (compareOp op') r')(hp':bw X.K cA q (r2 r'))(ha:SE X cA ao aj F EX a A)(hb:SE X cA ao aj F EX b B)(hc:SE X cA ao aj F EX c C)(hm:lastMarks [op,op'] [b,c]=false:=by with_unfolding_all rfl) :
  SE X cA ao aj F EX (.Compare a [op,op'] [b,c] pos) (.uQ p q A B C):=PE.weak (zh7 ho lN ha hb hc hm) λZ H Q hh=>un hh λU J s hL hS h=>by
 refine bG hL hS h λx H1 U1 d1 s1 x1 hL1 aL r1 h1=>bG hL1 aL h1 λy H2 U2 d2 s2 x2 hL2 hS2 r2' h2=>?_;obtain⟨ds,rs,h3⟩:=pO hS2 (.cons (r1.mono x2 aL.lz) (.cons r2' .nil)) h2;refine Ai (hp U2 H2 ds _ _ hS2.zs rs (oK (Ee:=eX X.K cA EX Z) hS2 (h3.bd.imp λt s3 U3 H3 ⟨x3,fW,h4⟩ v rv=>?_)));obtain⟨k,_,e,h5⟩:=J9 rv h4;refine⟨k,e,?_⟩;cases k with
 |false=>exact iF (h5.bU fW _ (.d (.bl _)))
 |true=>
  have ou:=hL2.mono x3 hS2.lz;refine iT (bG ou fW h5 λz H4 U4 d4 s4 x4 hL4 lE r4 h6=>?_);exact Ai (Oj (fz:=true) (U:=U) x4 fW lE (r2'.mono x3 hS2.lz) r4 h6 hp')
theorem zlI(ha:SE X cA ao aj F EX a A):SE X cA ao aj F EX (.UnaryOp .Not a pos) (.not A):=PE.weak (zl3 ha) λZ H Q hh=>un hh λU J s hL hS h=>by
 refine bG hL hS h λx H1 U1 d1 s1 x1 hL1 aL r1 h1=>?_;obtain⟨i,_,e,h3⟩:=J9 r1 h1;exact⟨i,e,h3.bU aL _ (.d (.bl _))⟩
theorem zlt{op}(ha:SE X cA ao aj F EX a A):SE X cA ao aj F EX (.BoolOp op [a] pos) A:=zmp ha
theorem zlw{rest:List Expr}(ha:SE X cA ao aj F EX a A)(hb:SE X cA ao aj F EX (.BoolOp .And (b::rest) pos) B):SE X cA ao aj F EX (.BoolOp .And (a::b::rest) pos) (.and A B):=PE.weak (zkX ha hb) λZ H Q hh=>un hh λU J s hL hS h=>by
 refine bG hL hS h λx H1 U1 d1 s1 x1 hL1 aL r1 h1=>?_;obtain⟨i,_,e,h3⟩:=J9 r1 h1;refine⟨i,e,?_⟩;cases i with
 |true=>exact iT ⟨U1,J,s1,hL1,aL,h3⟩
 |false=>exact iF (h3.bU aL _ (.d (.bl _)))
end
section
variable {X:Cx}{cA:Cl}{ao:Nat->Nat->Bool}{aj:Bool}{F:Fn}{EX:XS}{a b c d e o:Expr}{A B C Dd E' O:E}{pos pp p2 apos:Pos}{es:List Expr}{Xs:Es}{fz:Bool}{p:Pr}{x:Str}
theorem zmH(ha:SE X cA ao aj F EX a A)(he:∀whole,isTrue a X.env whole=(do let v <-whole;standAt a.pos;holding [v] (truthy v)):=by intro _;rfl):ST X cA ao aj F EX a A:=PT.weak (zlN ha he) λZ H Q hh=>un hh λU J s hL hS h=>by
 refine bG hL hS h λx H1 U1 d1 s1 x1 hL1 aL r1 h1=>?_;have h1:Run X.K cA (M.bd (bool d1) M.ret) U1 H1 s1 (λd _ U' H'=>Q d H') (eX X.K cA EX Z):=by
  cases d1 with
  |l n=>exact h1
  |d v=>cases v<;>exact h1
 obtain⟨k,_,e,q⟩:=J9 r1 h1;exact⟨k,e,q.bU aL⟩
theorem zii{m:M Xv}{g:Bool->Bool}:M.bd (M.bd m λx=>M.bd (bool x) λk=>M.ret (Xv.d (.bl (g k)))) bool=M.bd (M.bd m bool) λk=>M.ret (g k):=by
 rw[gM,gM]
 congr 1
 funext x
 rw[gM];rfl
theorem zkG(ha:ST X cA ao aj F EX a A):ST X cA ao aj F EX (.UnaryOp .Not a pos) (.not A):=PT.weak (zkM ha) λZ H Q hh=>un hh λU J s hL hS h=>by
 have h:Run X.K cA (M.bd (M.bd (ev ao aj F A J) λx=>M.bd (bool x) λk=>M.ret (Xv.d (.bl (!k)))) bool) U H s _ _:=h;rw[zii (g:=λk=>!k)] at h;exact yq hL hS h λk H1 U1 s1 x1 hL1 aL h1=>h1.bU aL
theorem zjr(ha:ST X cA ao aj F EX a A):SW X cA ao aj F EX (.BoolOp .And [a] pos) A:=zjK ha
theorem zmM(ha:ST X cA ao aj F EX a A):SW X cA ao aj F EX (.BoolOp .Or [a] pos) A:=zli ha
theorem Zb{m:M Xv}{k:Bool->M Xv}:M.bd (M.bd m λx=>M.bd (bool x) k) bool=M.bd (M.bd m bool) λb=>M.bd (k b) bool:=by
 rw[gM,gM]
 congr 1
 funext x
 rw[gM]
theorem zmE{rest:List Expr}(ha:ST X cA ao aj F EX a A)(hb:SW X cA ao aj F EX (.BoolOp .And (b::rest) pos) B):SW X cA ao aj F EX (.BoolOp .And (a::b::rest) pos) (.and A B):=PW.weak (zl1 ha hb) λZ H Q hh=>un hh λU J s hL hS h=>by
 have h:Run X.K cA (M.bd (M.bd (ev ao aj F A J) λx=>M.bd (bool x) λk=>if k=true then ev ao aj F B J else M.ret (Xv.d (.bl false))) bool) U H s _ _:=h;rw[Zb] at h;refine yq hL hS h λk H1 U1 s1 x1 hL1 aL h3=>?_;cases k with
 |true=>exact iT ⟨U1,J,s1,hL1,aL,h3⟩
 |false=>exact iF (Run.bU aL (a:=false) h3)
theorem znD{rest:List Expr}(ha:ST X cA ao aj F EX a A)(hb:SW X cA ao aj F EX (.BoolOp .Or (b::rest) pos) B):SW X cA ao aj F EX (.BoolOp .Or (a::b::rest) pos) (.or A B):=PW.weak (znL ha hb) λZ H Q hh=>un hh λU J s hL hS h=>by
 have h:Run X.K cA (M.bd (M.bd (ev ao aj F A J) λx=>M.bd (bool x) λk=>if k=true then M.ret (Xv.d (.bl true)) else ev ao aj F B J) bool) U H s _ _:=h;rw[Zb] at h;refine yq hL hS h λk H1 U1 s1 x1 hL1 aL h3=>?_;cases k with
 |true=>exact iT (Run.bU aL (a:=true) h3)
 |false=>exact iF ⟨U1,J,s1,hL1,aL,h3⟩
theorem zoo(h:SW X cA ao aj F EX a A):ST X cA ao aj F EX a A:=Kab h
theorem zjC:(M.bd m λx=>M.bd (bool x) k)=M.bd (M.bd m bool) k:=by rw[gM]
theorem zkF(hc:ST X cA ao aj F EX c C)(ha:SE X cA ao aj F EX a A)(hb:SE X cA ao aj F EX b B):SE X cA ao aj F EX (.IfExp c a b pos) (.ite C A B):=PE.weak (zhL hc ha hb) λZ H Q hh=>un hh λU J s hL hS h=>by
 have h:Run X.K cA (M.bd (ev ao aj F C J) λx=>M.bd (bool x) λk=>if k=true then ev ao aj F A J else ev ao aj F B J) U H s _ _:=h;rw[zjC] at h;refine yq hL hS h λk H1 U1 s1 x1 hL1 aL h3=>?_;cases k with
 |true=>exact iT ⟨U1,J,s1,hL1,aL,h3⟩
 |false=>exact iF ⟨U1,J,s1,hL1,aL,h3⟩
theorem Zc:∀(Xs:Es) (J:Vs) (s:S) (ds:List Xv) (s':S),evs ao aj F Xs J s=some (.ok ds,s')->ds.length=Es.len Xs
 |.nil,J,s,ds,s',h=>by cases h;rfl
 |.cons a r,J,s,ds,s',h=>by
  have h:M.bd (ev ao aj F a J) (λx=>M.bd (evs ao aj F r J) λxs=>M.ret (x::xs)) s=some (.ok ds,s'):=h;unfold M.bd at h;cases e1:ev ao aj F a J s with
  |none=>rw[e1] at h;cases h
  |some q=>
   obtain⟨q,s1⟩:=q;rw[e1] at h;cases q with
   |er c f=>cases h
   |ok d=>
    dsimp only at h;cases e2:evs ao aj F r J s1 with
    |none=>rw[e2] at h;cases h
    |some q=>
     obtain⟨q,s2⟩:=q;rw[e2] at h;cases q with
     |er c f=>cases h
     |ok ds'=>
      cases h;rw[fu,Zc r J s1 ds' _ e2];rfl
theorem Ka{β:Type}{K:W.Frag}{U:Ph}{H:Hp}{s:S}{Z:L2.St}{J:Vs}{k:List Xv->M β}{P:β->S->Ph->Hp->Prop}(hL:aR K cA U H Z J)(hS:aG K cA U H s)(h:Run K cA (M.bd (evs ao aj F Xs J) k) U H s P (eX K cA EX Z)){Q:List V->Hp->Prop}
  (f:∀x H1 U1 d s1,d.length=Es.len Xs->Ext U H U1 H1->aR K cA U1 H1 Z J->aG K cA U1 H1 s1->cj K cA U1 H1 d x->Run K cA (k d) U1 H1 s1 P (eX K cA EX Z)->Q x H1):Te K cA EX (evs ao aj F Xs) Z H Q:=by
 refine⟨U,J,s,hL,hS,?_⟩;have h2:=h.bd;unfold Run at h2 ⊢;cases e:evs ao aj F Xs J s with
 |none=>rw[e] at h2;exact h2
 |some r=>
  obtain⟨r,s1⟩:=r;rw[e] at h2;cases r with
  |er c f=>exact h2
  |ok ds=>
   intro U1 H1 x1 r1 v rv;obtain⟨_,_,h3⟩:=h2 U1 H1 x1 r1;exact f v H1 U1 ds s1 (Zc Xs J s ds s1 e) x1 (hL.mono x1 hS.lz) r1 rv h3
theorem zmo{k}(ha:SA X cA ao aj F EX es Xs)(hz:Es.len Xs<=sizeLine):SE X cA ao aj F EX (.Tuple es k pos) (.tup Xs):=PE.weak (zls ha) λZ H Q hh=>un hh λU J s hL hS h=>by
 refine Ka hL hS h λvs H1 U1 xs s1 hl x1 hL1 aL rv h1=>?_;obtain⟨ds,e,rs,h2⟩:=Y_ rv h1;refine⟨by rw[<-rv.len,hl];exact hz,λp hp=>?_⟩;exact h2 U1 (upd H1 p (.tup vs)) (bf.new hp).ext (aL.grow (bf.new hp)) _ (.d (.tup (TupAt.new (aL.nz hp)) (rs.mono (bf.new hp).ext aL.lz)))
theorem zma(ha:SA X cA ao aj F EX es Xs)(hz:Es.len Xs<=sizeLine):SE X cA ao aj F EX (.List es pos) (.lst fz Xs):=PE.weak (zlR ha) λZ H Q hh=>un hh λU J s hL hS h=>by
 refine Ka hL hS h λvs H1 U1 xs s1 hl x1 hL1 aL rv h1=>?_;obtain⟨ds,e,rs,h2⟩:=Y_ rv h1;exact⟨by rw[<-rv.len,hl];exact hz,λp hp=>zhN aL h2 p vs hp rs⟩
theorem Aj{id:String}{r:List V->Hp->VK->Prop}(hc:cT X (.builtin id) r)(hp:bw X.K cA p r)
  (hg:Gl X x) (hm:X.mg x=none) (hv:bootBuiltins x=some (.builtin id)) (ha:SA X cA ao aj F EX (e::es) Xs) (hn:x≠"__name__":=by decide) (rH:(x==("__debug__" : Str))=false:=by decide)
  (he:starEach (e::es) X.env=(false,eval e X.env)::starEach es X.env:=by rfl) (bR:(backTo pos (starEach es X.env)).any (·.1)=false:=by rfl):SE X cA ao aj F EX (.Call (.Name x pp) (e::es) [] pos) (.pr fz p Xs):=PE.weak (Yo hc hg hm hv ha hn rH he bR) λZ H Q hh=>un hh λU J s hL hS h=>
 oh hL hS h λvs H1 U1 ds s1 x1 hL1 aL r1 h1=>by
  obtain⟨ds,rs,h3⟩:=pO aL r1 h1;exact hp U1 H1 ds _ _ aL.zs rs (oK aL h3)
theorem Tj{id:String}{r:List V->Hp->VK->Prop}(hc:cT X (.type id) r)(hp:bw X.K cA p r)
  (hg:Gl X x) (hm:X.mg x=none) (hv:bootBuiltins x=some (.type id)) (ha:SA X cA ao aj F EX (e::es) Xs) (hn:x≠"__name__":=by decide) (rH:(x==("__debug__" : Str))=false:=by decide)
  (he:starEach (e::es) X.env=(false,eval e X.env)::starEach es X.env:=by rfl) (bR:(backTo pos (starEach es X.env)).any (·.1)=false:=by rfl):SE X cA ao aj F EX (.Call (.Name x pp) (e::es) [] pos) (.pr fz p Xs):=PE.weak (zfy hc hg hm hv ha hn rH he bR) λZ H Q hh=>un hh λU J s hL hS h=>
 oh hL hS h λvs H1 U1 ds s1 x1 hL1 aL r1 h1=>by
  obtain⟨ds,rs,h3⟩:=pO aL r1 h1;exact hp U1 H1 ds _ _ aL.zs rs (oK aL h3)
theorem zmV(hp:bw X.K cA p (r2 (Rn X.K)))(ha:SE X cA ao aj F EX a A)(hb:SE X cA ao aj F EX b B)(hs:qz b:=by intro _ _;rfl):SE X cA ao aj F EX (.Subscript a b pos) (.pr true p (.cons A (.cons B .nil))):=PE.weak (znN zmA ha hb hs) λZ H Q hh=>un hh λU J s hL hS h=>by
 have h:Run X.K cA (M.bd (M.bd (ev ao aj F A J) λx=>M.bd (M.bd (ev ao aj F B J) λy=>M.bd (M.ret []) λz=>M.ret (y::z)) λys=>M.ret (x::ys)) λvs=>M.bd (gb vs) λds=>bJ true (prim p ds)) U H s _ _:=h;simp only[gM] at h;refine bG hL hS h λx H1 U1 d1 s1 x1 hL1 aL r1 h1=>bG hL1 aL h1 λy H2 U2 d2 s2 x2 hL2 hS2 r2' h2=>?_;exact Ai (Oj (fz:=true) (U:=U) x2 aL hS2 r1 r2' h2 hp)
theorem zm1(ho:NK X (unaryOp op) r)(hp:bw X.K cA p (λvs H Q=>∃x,vs=[x]/\r x H Q))(ha:SE X cA ao aj F EX a A):SE X cA ao aj F EX (.UnaryOp op a pos) (.pr true p (.cons A .nil)):=PE.weak (Ye ho ha) λZ H Q hh=>un hh λU J s hL hS h=>by
 have h:Run X.K cA (M.bd (M.bd (ev ao aj F A J) λx=>M.bd (M.ret []) λz=>M.ret (x::z)) λvs=>M.bd (gb vs) λds=>bJ true (prim p ds)) U H s _ _:=h;simp only[gM] at h;refine bG hL hS h λx H1 U1 d1 s1 x1 hL1 aL r1 h1=>?_;obtain⟨ds,rs,h3⟩:=pO aL (.cons r1 .nil) h1;obtain⟨_,e,q⟩:=hp U1 H1 ds _ _ aL.zs rs (oK aL h3);cases e;exact q
theorem zly{j p'}(ha:SE X cA ao aj F EX a A):SE X cA ao aj F EX (.Compare a [.Is] [.Constant .none j p'] pos) (.pr true .yc (.cons A .nil)):=PE.weak (zkS (X8 ha)) λZ H Q hh=>un hh λU J s hL hS h=>by
 have h:Run X.K cA (M.bd (M.bd (ev ao aj F A J) λx=>M.bd (M.ret []) λz=>M.ret (x::z)) λvs=>M.bd (gb vs) λds=>bJ true (prim .yc ds)) U H s _ _:=h;simp only[gM] at h;refine bG hL hS h λx H1 U1 d1 s1 x1 hL1 aL r1 h1=>?_;obtain⟨ds,rs,h3⟩:=pO aL (.cons r1 .nil) h1;cases rs with
 |cons r rs=>cases rs with
  |nil=>
   rename_i d;have h4:=oK aL h3;have q:=h4 H1 _ bf.refl (.bl _);cases d<;>first
    |(obtain⟨_,_,rfl,_,_⟩:=r;exact q)
    |(cases (show Rep _ _ _ _ _ x from r)<;>exact q)
theorem zia(q:Pr)(hq:prim q=Dq f)(hh:rW X.K cA EX (λJ=>M.bd (ev ao aj F (.pr true q (.cons A .nil)) J) bool) Z H Q):tE X.K cA EX (ev ao aj F A) Z H λx H1=>Q (f (decide (x=.non))) H1:=un hh λU J s hL hS h=>by
 have h:Run X.K cA (M.bd (M.bd (M.bd (ev ao aj F A J) λx=>M.bd (M.ret []) λz=>M.ret (x::z)) λvs=>M.bd (gb vs) λds=>bJ true (prim q ds)) bool) U H s _ _:=h;simp only[gM] at h;refine bG hL hS h λx H1 U1 d1 s1 x1 hL1 aL r1 h1=>?_;obtain⟨ds,rs,h3⟩:=pO aL (.cons r1 .nil) h1;cases rs with
 |cons r rs=>cases rs with
  |nil=>
   rename_i d;rw[hq] at h3;have h4:Run X.K cA (M.bd (M.ret (Xv.d (.bl (f d.zZ)))) bool) U1 H1 s1 (λd _ U' H'=>Q d H') (eX X.K cA EX Z):=h3;have q:=h4 U1 H1 Ext.refl aL;cases d<;>first
    |(obtain⟨_,_,rfl,_,_⟩:=r;exact q)
    |(cases (show Rep _ _ _ _ _ x from r)<;>exact q)
theorem zlb{j p'}(ha:SE X cA ao aj F EX a A):ST X cA ao aj F EX (.Compare a [.Is] [.Constant .none j p'] pos) (.pr true .yc (.cons A .nil)):=PT.weak (zlp (X8 ha)) λZ H Q hh=>by
 have:=zia .yc (f:=id) rfl hh;obtain⟨U,J,s,a,b,c⟩:=this;exact⟨U,J,s,a,b,c.imp λd s' U' H' k v rv=>⟨_,rfl,k v rv⟩⟩
theorem zht{K:W.Frag}{U:Ph}{H:Hp}{s:S}{x:Xv}{v:V}{Q:Bool->Hp->Prop}{Ee:Nat->List D->S->Ph->Hp->Prop}(hS:aG K cA U H s)(r:aQ K cA U H x v)(h:Run K cA (bool x) U H s (λd _ U' H'=>Q d H') Ee):∃k,v=.bl k/\Q k H:=by
 cases r with
 |l _=>exact h.elim
 |d rv=>cases rv with
  |bl k=>exact⟨k,rfl,h U H Ext.refl hS⟩
  |_=>exact h.elim
theorem zlz{b:Bool}{K:W.Frag}{U:Ph}{H:Hp}{s:S}{Q:Bool->Hp->Prop}{Ee:Nat->List D->S->Ph->Hp->Prop}(hS:aG K cA U H s)(h:Run K cA (M.bd (M.ret (Xv.d (.bl b))) bool) U H s (λd _ U' H'=>Q d H') Ee):Q b H:=h U H Ext.refl hS
theorem zlh{op op':CmpOp}{r r':R2}{q:Pr}(ho:dF X (compareOp op) r)(hp:bw X.K cA p (r2 r))(lN:dF X (compareOp op') r')(hp':bw X.K cA q (r2 r'))(ha:SE X cA ao aj F EX a A)(hb:SE X cA ao aj F EX b B)(hc:SE X cA ao aj F EX c C)(hm:lastMarks [op,op'] [b,c]=false:=by with_unfolding_all rfl) :
  ST X cA ao aj F EX (.Compare a [op,op'] [b,c] pos) (.uQ p q A B C):=PT.weak (zhG ho lN ha hb hc hm) λZ H Q hh=>un hh λU J s hL hS h=>by
 have h:Run X.K cA (M.bd (M.bd (ev ao aj F A J) λx=>M.bd (ev ao aj F B J) λy=>M.bd (gb [x,y]) λds=>M.bd (bJ true (prim p ds)) λt=>M.bd (bool t) λk=>
   if k=true then M.bd (ev ao aj F C J) λz=>M.bd (gb [y,z]) λds=>bJ true (prim q ds) else M.ret (.d (.bl false))) bool) U H s _ _:=h
 simp only[gM] at h;refine bG hL hS h λx H1 U1 d1 s1 x1 hL1 aL r1 h1=>bG hL1 aL h1 λy H2 U2 d2 s2 x2 hL2 hS2 r2' h2=>?_;obtain⟨ds,rs,h3⟩:=pO hS2 (.cons (r1.mono x2 aL.lz) (.cons r2' .nil)) h2;refine Ai (hp U2 H2 ds _ _ hS2.zs rs (oK (Ee:=eX X.K cA EX Z) hS2 (h3.bd.imp λt s3 U3 H3 ⟨x3,fW,h4⟩ v rv=>?_)));obtain⟨k,_,e,h5⟩:=J9 rv h4;refine⟨k,e,?_⟩;cases k with
 |false=>exact iF ⟨false,rfl,zlz fW h5⟩
 |true=>
  have ou:=hL2.mono x3 hS2.lz;rw[if_pos rfl] at h5;simp only[gM] at h5;refine iT (bG ou fW h5 λz H4 U4 d4 s4 x4 hL4 lE r4 h6=>?_);obtain⟨ds,rs,h7⟩:=pO lE (.cons ((r2'.mono x3 hS2.lz).mono x4 fW.lz) (.cons r4 .nil)) h6;refine Ai (hp' U4 H4 ds _ _ lE.zs rs (oK (Ee:=eX X.K cA EX Z) lE (h7.bd.imp λt s5 U5 H5 ⟨x5,DG,h8⟩ v rv=>?_)));exact zht DG rv h8
end
mutual
inductive Is (h:Heap):D->Value->Prop where
 |non:Is h .non .none
 |bl (b:Bool):Is h (.bl b) (.bool b)
 |int (i:Int) (t:Tok):Is h (.int i) (.int i t)
 |str (x:Str) (t:Tok):Is h (.str x) (.str x t)
 |tup {a:Addr} {xs:List D} {its:List Value} (p:h.IsTuple a its.toArray) (r:jC h xs its):Is h (.tup xs) (.ref a)
 |fl {a:Addr} {xs:List D} {its:List Value} (p:h.IsList a its.toArray) (r:jC h xs its):Is h (.fl xs) (.ref a)
 |oth {d:D} {u:Value} (k:kq d=none):Is h d u
inductive jC (h:Heap):List D->List Value->Prop where
 |nil:jC h [] []
 |cons {d:D} {u:Value} {ds:List D} {us:List Value} (a:Is h d u) (r:jC h ds us):jC h (d::ds) (u::us)
end
section
variable {X:Cx}{cA:Cl}{ak:List (Addr×Obj)}{Z:L2.St}{H:Hp}{s:Shared}{U:Ph}{h:Heap}
theorem Tn(I:Inv X ak Z H s){ds:List D}{vs:List V}{us:List Value}(h:aB X.K cA U H ds vs)(r:Vals vs us):jC s.heap ds us:=
 aB.rec (motive_1:=λd v _=>∀{u:Value},RelV v u->Is s.heap d u) (motive_2:=λd v _=>∀{u:List Value},Vals v u->jC s.heap d u) (λr=>by cases r;exact .non) (λb _ r=>by cases r;exact .bl b) (λi _ r=>by obtain⟨t,rfl⟩:=r;exact .int i t) (λi _ r=>by obtain⟨t,rfl⟩:=r;exact .str i t)
 (λh _ ih _ r=>by
  cases r;obtain⟨its,rv,ht,_⟩:=I.tuple h.jr;exact .tup ht (ih rv))
 (λh _ ih _ r=>by
  cases r;obtain⟨its,rv,ht,_⟩:=I.list h.tL;exact .fl ht.isList (ih rv))
 (λ_ _ _ _=>.oth rfl) (λ_ _ _ _ _=>.oth rfl) (λ_ _ _ _ _=>.oth rfl) (λ_ _ _=>.oth rfl)
 (λr=>by cases r;exact .nil)
 (λ_ _ i j _ r=>by
  cases r with
  |cons a b=>exact .cons (i a) (j b)) h r
theorem yr(I:Inv X ak Z H s){d:D}{v:V}{u:Value}(h:Rep X.K cA U H d v)(r:RelV v u):Is s.heap d u:=by
 cases h with
 |non=>cases r;exact .non
 |bl b=>cases r;exact .bl b
 |int i=>obtain⟨t,rfl⟩:=r;exact .int i t
 |str i=>obtain⟨t,rfl⟩:=r;exact .str i t
 |tup h q=>
  cases r;obtain⟨its,rv,ht,_⟩:=I.tuple h.jr;exact .tup ht (Tn I q rv)
 |fl h q=>
  cases r;obtain⟨its,rv,ht,_⟩:=I.list h.tL;exact .fl ht.isList (Tn I q rv)
 |fd _ _=>exact .oth rfl
 |exc _ _=>exact .oth rfl
 |ob _ _=>exact .oth rfl
 |any _=>exact .oth rfl
theorem yt(I:Inv X ak Z H s){d:D}{v:V}{u:Value}(q:Rv X.K cA U H d v)(r:RelV v u):Is s.heap d u:=by
 cases d with
 |fl xs=>
  obtain⟨a,vs,rfl,sq,rs⟩:=q;cases r;obtain⟨its,rv,ht,_⟩:=I.list sq;exact .fl ht.isList (Tn I rs rv)
 |non=>exact yr I q r
 |bl b=>exact yr I q r
 |int b=>exact yr I q r
 |str b=>exact yr I q r
 |tup b=>exact yr I q r
 |fd b c=>exact yr I q r
 |exc b c=>exact yr I q r
 |ob b c=>exact yr I q r
 |any=>exact yr I q r
theorem jC.len{ds:List D}{us:List Value}(r:jC h ds us):ds.length=us.length:=by
 induction ds generalizing us with
 |nil=>cases r;rfl
 |cons a d ih=>cases r with|cons _ r=>rw[fu,fu,ih r]
theorem jC.get:∀{ds:List D} {us:List Value} {i:Nat} {d:D},jC h ds us->ds[i]?=some d->∃u,us[i]?=some u/\Is h d u
 |_,_,_,_,.nil,e=>by simp at e
 |_,_,0,_,.cons h _,e=>by simp at e;subst e;exact⟨_,rfl,h⟩
 |_,_,i+1,d,.cons _ r,e=>by
  obtain⟨v,a,b⟩:=jC.get (i:=i) (d:=d) r (by simpa using e);exact⟨v,by simpa using a,b⟩
theorem Zd{a:Addr}{is js:Array Value}(p:h.IsTuple a is)(q:h.IsTuple a js):is=js:=by
 obtain⟨o,e,c,n,d⟩:=p;obtain⟨o',e',c',n',d'⟩:=q;rw[e] at e';cases e';rw[d] at d';cases d';rfl
theorem zev{a:Addr}{is js:Array Value}(p:h.IsList a is)(q:h.IsList a js):is=js:=by
 obtain⟨o,e,c,n,d⟩:=p;obtain⟨o',e',c',n',d'⟩:=q;rw[e] at e';cases e';rw[d] at d';cases d';rfl
theorem Gn{a:Addr}{is js:Array Value}(p:h.IsList a is)(q:h.IsTuple a js):False:=by
 obtain⟨o,e,c,n,d⟩:=p;obtain⟨o',e',c',n',d'⟩:=q;rw[e] at e';cases e';rw[c] at c';exact absurd c' J0
theorem Kc{eq:D->D->Option Bool}:∀{xs ys:List D} {b:Bool},eN eq xs ys=some b->∃e:Nat->Bool,(∀(j:Nat) x y,xs[j]?=some x->ys[j]?=some y->eq x y=some (e j))/\b=((List.range (min xs.length ys.length)).all e&&xs.length==ys.length)
 |[],[],b,h=>by cases h;exact⟨λ_=>true,λj x y q=>by simp at q,by simp⟩
 |[],y::ys,b,h=>by cases h;exact⟨λ_=>true,λj x y q=>by simp at q,by simp⟩
 |x::xs,[],b,h=>by cases h;exact⟨λ_=>true,λj x y q r=>by simp at r,by simp⟩
 |x::xs,y::ys,b,h=>by
  simp only[eN] at h;cases e1:eq x y with
  |none=>rw[e1] at h;cases h
  |some a=>
   cases e2:eN eq xs ys with
   |none=>rw[e1,e2] at h;cases h
   |some c=>
    rw[e1,e2] at h;cases h;obtain⟨e,h1,h2⟩:=Kc e2;refine⟨λj=>match j with|0=>a|j+1=>e j,λj p q r1 r2=>?_,?_⟩
    ·cases j with
     |zero=>
      simp at r1 r2;subst r1 r2;exact e1
     |succ j=>exact h1 j p q (by simpa using r1) (by simpa using r2)
    ·rw[h2];simp only[fu,Nat.succ_min_succ,Qn,vU,List.all_map,Function.comp_def];rw[Bool.and_assoc]
     congr 2
     simp
theorem tM{n:Nat}{d e:D}(k:kq d=none):dz n d e=none:=by
 cases n<;>cases d<;>first|cases k;done|(cases e<;>rfl)
theorem iz{n:Nat}{d e:D}(k:kq e=none):dz n d e=none:=by
 cases n<;>cases e<;>first|cases k;done|(cases d<;>rfl)
theorem Ze:∀(n:Nat) {d1 d2:D} {u:Value} {b:Bool},Is h d1 u->Is h d2 u->dz n d1 d2=some b->b=true:=by
 intro n;have rows:∀(n:Nat),(∀{d1 d2:D} {u:Value} {b:Bool},Is h d1 u->Is h d2 u->dz n d1 d2=some b->b=true)->∀{xs ys:List D} {is js:List Value} {b:Bool},jC h xs is->jC h ys js->is.toArray=js.toArray->eN (dz n) xs ys=some b->b=true:=by
  intro n ih xs ys is js b q1 q2 e hd;have e:is=js:=by simpa using e
  subst e;obtain⟨e,a1,a2⟩:=Kc (eq:=dz n) hd;rw[a2];have hl:_=_:=q1.len.trans q2.len.symm;rw[gB];refine⟨iV.mpr λj hj=>?_,by rw[hl];simp⟩;have hj:=lJ.mp hj;obtain⟨x,hx⟩ : ∃x,_=some x:=⟨_,dj (dh hj (M8 _ _))⟩;obtain⟨y,hy⟩ : ∃y,_=some y:=⟨_,dj (dh hj (Nat.min_le_right _ _))⟩;obtain⟨v1,e1,p1⟩:=q1.get hx;obtain⟨v2,e2,p2⟩:=q2.get hy;rw[e1] at e2;cases e2;exact ih p1 p2 (a1 j x y hx hy)
 induction n with
 |zero=>
  intro d1 d2 u b r1 r2 hd;cases r1 with
  |oth k=>rw[tM k] at hd;cases hd
  |non=>cases r2 with
   |oth k=>rw[iz k] at hd;cases hd
   |non=>cases hd;rfl
  |bl x=>cases r2 with
   |oth k=>rw[iz k] at hd;cases hd
   |bl y=>cases hd;simp
  |int x t=>cases r2 with
   |oth k=>rw[iz k] at hd;cases hd
   |int y=>cases hd;simp
  |str x t=>cases r2 with
   |oth k=>rw[iz k] at hd;cases hd
   |str y=>cases hd;simp
  |tup p q=>cases r2 with
   |oth k=>rw[iz k] at hd;cases hd
   |tup p2 q2=>cases hd
   |fl p2 q2=>exact(Gn p2 p).elim
  |fl p q=>cases r2 with
   |oth k=>rw[iz k] at hd;cases hd
   |fl p2 q2=>cases hd
   |tup p2 q2=>exact(Gn p p2).elim
 |succ n ih=>
  intro d1 d2 u b r1 r2 hd;cases r1 with
  |oth k=>rw[tM k] at hd;cases hd
  |non=>cases r2 with
   |oth k=>rw[iz k] at hd;cases hd
   |non=>cases hd;rfl
  |bl x=>cases r2 with
   |oth k=>rw[iz k] at hd;cases hd
   |bl y=>cases hd;simp
  |int x t=>cases r2 with
   |oth k=>rw[iz k] at hd;cases hd
   |int y=>cases hd;simp
  |str x t=>cases r2 with
   |oth k=>rw[iz k] at hd;cases hd
   |str y=>cases hd;simp
  |tup p q=>cases r2 with
   |oth k=>rw[iz k] at hd;cases hd
   |tup p2 q2=>exact rows n ih q q2 (Zd p p2) hd
   |fl p2 q2=>exact(Gn p2 p).elim
  |fl p q=>cases r2 with
   |oth k=>rw[iz k] at hd;cases hd
   |fl p2 q2=>exact rows n ih q q2 (zev p p2) hd
   |tup p2 q2=>exact(Gn p p2).elim
theorem parts{n:Nat}{A:Around}{xs ys:List D}{is js:List Value}{b:Bool}(r1:jC s.heap xs is)(r2:jC s.heap ys js)(hd:eN (dz n) xs ys=some b)
  (ih:∀{d1 d2:D} {u1 u2:Value} {b:Bool},Is s.heap d1 u1->Is s.heap d2 u2->dz n d1 d2=some b->SeqAt.EqAt A s u1 u2 b) :
  ∃e:Nat->Bool,(∀j (h1:j<is.toArray.size) (h2:j<js.toArray.size),SeqAt.EqAt A s is.toArray[j] js.toArray[j] (e j))/\b=((List.range (min is.toArray.size js.toArray.size)).all e&&is.toArray.size==js.toArray.size):=by
 obtain⟨e,a1,a2⟩:=Kc hd;have z1:=r1.len;have z2:=r2.len;refine⟨e,λj h1 h2=>?_,by simp only[dH,<-z1,<-z2];exact a2⟩;simp only[dH] at h1 h2;obtain⟨x,hx⟩ : ∃x,xs[j]?=some x:=⟨_,dj (by rw[z1];exact h1)⟩;obtain⟨y,hy⟩ : ∃y,ys[j]?=some y:=⟨_,dj (by rw[z2];exact h2)⟩;obtain⟨u,f1,g1⟩:=r1.get hx;obtain⟨u',f2,g2⟩:=r2.get hy;have k1:is.toArray[j]=u:=by
  have:=gw.mp f1;simpa using this.2
 have k2:js.toArray[j]=u':=by
  have:=gw.mp f2;simpa using this.2
 rw[k1,k2];exact ih g1 g2 (a1 j x y hx hy)
theorem Zf{A:Around}{l m:Addr}{is js:Array Value}{e:Nat->Bool}{b:Bool}(p1:s.heap.IsList l is)(p2:s.heap.IsList m js)(hu:A.units<cLine)(he:∀j (h1:j<is.size) (h2:j<js.size),SeqAt.EqAt A.in1 s is[j] js[j] (e j))(hb:b=((List.range (min is.size js.size)).all e&&is.size==js.size)):SeqAt.RcAt A s (.ref l) (.ref m) b:=by
 by_cases hz:is.size=js.size
 ·have:b=(List.range is.size).all e:=by rw[hb,hz];simp
  rw[this];exact SeqAt.RcAt.lists p1 p2 hz hu he
 ·have DK:(is.size != js.size)=true:=by simpa using hz
  have:b=false:=by rw[hb];simp[hz]
  rw[this];exact SeqAt.RcAt.lists_lengths p1 p2 DK hu
theorem zgX{A:Around}{l m:Addr}{is js:Array Value}{e:Nat->Bool}{b:Bool}(p1:s.heap.IsList l is)(p2:s.heap.IsList m js)(hu:A.units<cLine)(he:∀j (h1:j<is.size) (h2:j<js.size),SeqAt.EqAt A.in1 s is[j] js[j] (e j))(hb:b=((List.range (min is.size js.size)).all e&&is.size==js.size)):SeqAt.RcNeAt A s (.ref l) (.ref m) (!b):=by
 by_cases hz:is.size=js.size
 ·have:b=(List.range is.size).all e:=by rw[hb,hz];simp
  rw[this];exact SeqAt.RcNeAt.lists p1 p2 hz hu he
 ·have DK:(is.size != js.size)=true:=by simpa using hz
  have:b=false:=by rw[hb];simp[hz]
  rw[this];exact SeqAt.RcNeAt.lists_lengths p1 p2 DK hu
open SeqAt in
theorem Gp:∀(n:Nat) {A:Around} {d1 d2:D} {u1 u2:Value} {b:Bool},A.units+n<cLine->Is s.heap d1 u1->Is s.heap d2 u2->dz n d1 d2=some b->SeqAt.EqAt A s u1 u2 b:=by
 intro n
 induction n with
 |zero=>
  intro A d1 d2 u1 u2 b hu r1 r2 hd;have hu:A.units<cLine:=by lia
  cases r1 with
  |oth k=>rw[tM k] at hd;cases hd
  |non=>cases r2 with
   |oth k=>rw[iz k] at hd;cases hd
   |non=>cases hd;exact EqAt.same _
   |bl y=>cases hd;exact EqAt.none_bool _
   |int y t=>cases hd;exact EqAt.none_int _ _
   |str y t=>cases hd;exact EqAt.none_str _ _
   |tup p q=>cases hd;exact EqAt.none_tuple p hu
   |fl p q=>cases hd;exact EqAt.none_list p hu
  |bl x=>cases r2 with
   |oth k=>rw[iz k] at hd;cases hd
   |non=>cases hd;exact EqAt.bool_none _
   |bl y=>cases hd;exact EqAt.bool_bool _ _
   |int y t=>cases hd;exact EqAt.bool_int _ _ _
   |str y t=>cases hd;exact EqAt.bool_str _ _ _
   |tup p q=>cases hd;exact EqAt.bool_tuple _ p hu
   |fl p q=>cases hd;exact EqAt.bool_list _ p hu
  |int x t=>cases r2 with
   |oth k=>rw[iz k] at hd;cases hd
   |non=>cases hd;exact EqAt.int_none _ _
   |bl y=>cases hd;exact EqAt.int_bool _ _ _
   |int y t=>cases hd;exact EqAt.int_int _ _ _ _
   |str y t=>cases hd;exact EqAt.int_str _ _ _ _
   |tup p q=>cases hd;exact EqAt.int_tuple _ _ p hu
   |fl p q=>cases hd;exact EqAt.int_list _ _ p hu
  |str x t=>cases r2 with
   |oth k=>rw[iz k] at hd;cases hd
   |non=>cases hd;exact EqAt.str_none _ _
   |bl y=>cases hd;exact EqAt.str_bool _ _ _
   |int y t=>cases hd;exact EqAt.str_int _ _ _ _
   |str y t=>cases hd;exact EqAt.str_str _ _ _ _
   |tup p q=>cases hd;exact EqAt.str_tuple _ _ p hu
   |fl p q=>cases hd;exact EqAt.str_list _ _ p hu
  |tup p q=>cases r2 with
   |oth k=>rw[iz k] at hd;cases hd
   |non=>cases hd;exact EqAt.tuple_none p hu
   |bl y=>cases hd;exact EqAt.tuple_bool _ p hu
   |int y t=>cases hd;exact EqAt.tuple_int _ _ p hu
   |str y t=>cases hd;exact EqAt.tuple_str _ _ p hu
   |tup p2 q2=>cases hd
   |fl p2 q2=>cases hd;exact EqAt.tuple_list p p2 hu
  |fl p q=>cases r2 with
   |oth k=>rw[iz k] at hd;cases hd
   |non=>cases hd;exact EqAt.list_none p hu
   |bl y=>cases hd;exact EqAt.list_bool _ p hu
   |int y t=>cases hd;exact EqAt.list_int _ _ p hu
   |str y t=>cases hd;exact EqAt.list_str _ _ p hu
   |tup p2 q2=>cases hd;exact EqAt.list_tuple p p2 hu
   |fl p2 q2=>cases hd
 |succ n ih=>
  intro A d1 d2 u1 u2 b hu0 r1 r2 hd;have hu:A.units<cLine:=by lia
  have cG:A.in1.units+n<cLine:=by show A.units+1+n<cLine;lia
  cases r1 with
  |oth k=>rw[tM k] at hd;cases hd
  |non=>cases r2 with
   |oth k=>rw[iz k] at hd;cases hd
   |non=>cases hd;exact EqAt.same _
   |bl y=>cases hd;exact EqAt.none_bool _
   |int y t=>cases hd;exact EqAt.none_int _ _
   |str y t=>cases hd;exact EqAt.none_str _ _
   |tup p q=>cases hd;exact EqAt.none_tuple p hu
   |fl p q=>cases hd;exact EqAt.none_list p hu
  |bl x=>cases r2 with
   |oth k=>rw[iz k] at hd;cases hd
   |non=>cases hd;exact EqAt.bool_none _
   |bl y=>cases hd;exact EqAt.bool_bool _ _
   |int y t=>cases hd;exact EqAt.bool_int _ _ _
   |str y t=>cases hd;exact EqAt.bool_str _ _ _
   |tup p q=>cases hd;exact EqAt.bool_tuple _ p hu
   |fl p q=>cases hd;exact EqAt.bool_list _ p hu
  |int x t=>cases r2 with
   |oth k=>rw[iz k] at hd;cases hd
   |non=>cases hd;exact EqAt.int_none _ _
   |bl y=>cases hd;exact EqAt.int_bool _ _ _
   |int y t=>cases hd;exact EqAt.int_int _ _ _ _
   |str y t=>cases hd;exact EqAt.int_str _ _ _ _
   |tup p q=>cases hd;exact EqAt.int_tuple _ _ p hu
   |fl p q=>cases hd;exact EqAt.int_list _ _ p hu
  |str x t=>cases r2 with
   |oth k=>rw[iz k] at hd;cases hd
   |non=>cases hd;exact EqAt.str_none _ _
   |bl y=>cases hd;exact EqAt.str_bool _ _ _
   |int y t=>cases hd;exact EqAt.str_int _ _ _ _
   |str y t=>cases hd;exact EqAt.str_str _ _ _ _
   |tup p q=>cases hd;exact EqAt.str_tuple _ _ p hu
   |fl p q=>cases hd;exact EqAt.str_list _ _ p hu
  |@tup a1 xs is p q=>cases r2 with
   |oth k=>rw[iz k] at hd;cases hd
   |non=>cases hd;exact EqAt.tuple_none p hu
   |bl y=>cases hd;exact EqAt.tuple_bool _ p hu
   |int y t=>cases hd;exact EqAt.tuple_int _ _ p hu
   |str y t=>cases hd;exact EqAt.tuple_str _ _ p hu
   |@tup a2 ys js p2 q2=>
    by_cases ea:a1=a2
    ·subst ea;have:=Ze (n+1) (.tup p q) (.tup p2 q2) hd;subst this;exact EqAt.same _
    ·obtain⟨e,he,hb⟩:=parts (A:=A.in1) q q2 hd λa b c=>ih cG a b c;rw[hb];exact EqAt.of_refs ea (RcAt.tuples p p2 hu he)
   |fl p2 q2=>cases hd;exact EqAt.tuple_list p p2 hu
  |@fl a1 xs is p q=>cases r2 with
   |oth k=>rw[iz k] at hd;cases hd
   |non=>cases hd;exact EqAt.list_none p hu
   |bl y=>cases hd;exact EqAt.list_bool _ p hu
   |int y t=>cases hd;exact EqAt.list_int _ _ p hu
   |str y t=>cases hd;exact EqAt.list_str _ _ p hu
   |tup p2 q2=>cases hd;exact EqAt.list_tuple p p2 hu
   |@fl a2 ys js p2 q2=>
    by_cases ea:a1=a2
    ·subst ea;have:=Ze (n+1) (.fl p q) (.fl p2 q2) hd;subst this;exact EqAt.same _
    ·obtain⟨e,he,hb⟩:=parts (A:=A.in1) q q2 hd λa b c=>ih cG a b c;exact EqAt.of_refs ea (Zf p p2 hu he hb)
end
section
variable {X:Cx}{cA:Cl}{ak:List (Addr×Obj)}{Z:L2.St}{H:Hp}{s:Shared}{U:Ph}{h:Heap}
open SeqAt in
theorem Zg(hu0:A.units+(n+1)<cLine)(r1:Is s.heap d1 u1)(r2:Is s.heap d2 u2)(hd:dz (n+1) d1 d2=some b):RcAt A s u1 u2 b/\RcNeAt A s u1 u2 (!b):=by
 have hu:A.units<cLine:=by lia
 have cG:A.in1.units+n<cLine:=by show A.units+1+n<cLine;lia
 cases r1 with
 |oth k=>rw[tM k] at hd;cases hd
 |non=>cases r2 with
  |oth k=>rw[iz k] at hd;cases hd
  |non=>cases hd;exact⟨RcAt.none_none,RcNeAt.none_none⟩
  |bl y=>cases hd;exact⟨RcAt.none_bool _,RcNeAt.none_bool _⟩
  |int y t=>cases hd;exact⟨RcAt.none_int _ _,RcNeAt.none_int _ _⟩
  |str y t=>cases hd;exact⟨RcAt.none_str _ _,RcNeAt.none_str _ _⟩
  |tup p q=>cases hd;exact⟨RcAt.none_tuple p hu,RcNeAt.none_tuple p hu⟩
  |fl p q=>cases hd;exact⟨RcAt.none_list p hu,RcNeAt.none_list p hu⟩
 |bl x=>cases r2 with
  |oth k=>rw[iz k] at hd;cases hd
  |non=>cases hd;exact⟨RcAt.bool_none _,RcNeAt.bool_none _⟩
  |bl y=>cases hd;exact⟨RcAt.bool_bool _ _,RcNeAt.bool_bool _ _⟩
  |int y t=>cases hd;exact⟨RcAt.bool_int _ _ _,RcNeAt.bool_int _ _ _⟩
  |str y t=>cases hd;exact⟨RcAt.bool_str _ _ _,RcNeAt.bool_str _ _ _⟩
  |tup p q=>cases hd;exact⟨RcAt.bool_tuple _ p hu,RcNeAt.bool_tuple _ p hu⟩
  |fl p q=>cases hd;exact⟨RcAt.bool_list _ p hu,RcNeAt.bool_list _ p hu⟩
 |int x t=>cases r2 with
  |oth k=>rw[iz k] at hd;cases hd
  |non=>cases hd;exact⟨RcAt.int_none _ _,RcNeAt.int_none _ _⟩
  |bl y=>cases hd;exact⟨RcAt.int_bool _ _ _,RcNeAt.int_bool _ _ _⟩
  |int y t=>cases hd;exact⟨RcAt.int_int _ _ _ _,RcNeAt.int_int _ _ _ _⟩
  |str y t=>cases hd;exact⟨RcAt.int_str _ _ _ _,RcNeAt.int_str _ _ _ _⟩
  |tup p q=>cases hd;exact⟨RcAt.int_tuple _ _ p hu,RcNeAt.int_tuple _ _ p hu⟩
  |fl p q=>cases hd;exact⟨RcAt.int_list _ _ p hu,RcNeAt.int_list _ _ p hu⟩
 |str x t=>cases r2 with
  |oth k=>rw[iz k] at hd;cases hd
  |non=>cases hd;exact⟨RcAt.str_none _ _,RcNeAt.str_none _ _⟩
  |bl y=>cases hd;exact⟨RcAt.str_bool _ _ _,RcNeAt.str_bool _ _ _⟩
  |int y t=>cases hd;exact⟨RcAt.str_int _ _ _ _,RcNeAt.str_int _ _ _ _⟩
  |str y t=>cases hd;exact⟨RcAt.str_str _ _ _ _,RcNeAt.str_str _ _ _ _⟩
  |tup p q=>cases hd;exact⟨RcAt.str_tuple _ _ p hu,RcNeAt.str_tuple _ _ p hu⟩
  |fl p q=>cases hd;exact⟨RcAt.str_list _ _ p hu,RcNeAt.str_list _ _ p hu⟩
 |@tup a1 xs is p q=>cases r2 with
  |oth k=>rw[iz k] at hd;cases hd
  |non=>cases hd;exact⟨RcAt.tuple_none p hu,RcNeAt.tuple_none p hu⟩
  |bl y=>cases hd;exact⟨RcAt.tuple_bool _ p hu,RcNeAt.tuple_bool _ p hu⟩
  |int y t=>cases hd;exact⟨RcAt.tuple_int _ _ p hu,RcNeAt.tuple_int _ _ p hu⟩
  |str y t=>cases hd;exact⟨RcAt.tuple_str _ _ p hu,RcNeAt.tuple_str _ _ p hu⟩
  |@tup a2 ys js p2 q2=>
   obtain⟨e,he,hb⟩:=parts (A:=A.in1) q q2 hd λa b c=>Gp n cG a b c;rw[hb];exact⟨RcAt.tuples p p2 hu he,RcNeAt.tuples p p2 hu he⟩
  |fl p2 q2=>cases hd;exact⟨RcAt.tuple_list p p2 hu,RcNeAt.tuple_list p p2 hu⟩
 |@fl a1 xs is p q=>cases r2 with
  |oth k=>rw[iz k] at hd;cases hd
  |non=>cases hd;exact⟨RcAt.list_none p hu,RcNeAt.list_none p hu⟩
  |bl y=>cases hd;exact⟨RcAt.list_bool _ p hu,RcNeAt.list_bool _ p hu⟩
  |int y t=>cases hd;exact⟨RcAt.list_int _ _ p hu,RcNeAt.list_int _ _ p hu⟩
  |str y t=>cases hd;exact⟨RcAt.list_str _ _ p hu,RcNeAt.list_str _ _ p hu⟩
  |tup p2 q2=>cases hd;exact⟨RcAt.list_tuple p p2 hu,RcNeAt.list_tuple p p2 hu⟩
  |@fl a2 ys js p2 q2=>
   obtain⟨e,he,hb⟩:=parts (A:=A.in1) q q2 hd λa b c=>Gp n cG a b c;exact⟨Zf p p2 hu he hb,zgX p p2 hu he hb⟩
noncomputable def yu(K:W.Frag)(cA:Cl)(f:Bool->Bool):R2:=λx y H Q=>∃U d1 d2 b,Rv K cA U H d1 x/\Rv K cA U H d2 y/\dz 50 d1 d2=some b/\Q (.bl (f b)) H
theorem zmk(hu:X.A.units+60<cLine):dF X (compareOp .Eq) (yu X.K cA id):=by
 rintro ak s Z H x y v u Q I rx ry ⟨U,d1,d2,b,r1,r2,hd,q⟩;exact(Zg (n:=49) gV (yt I r1 rx) (yt I r2 ry) hd).1 X.prog X.w X.xe _ ⟨.bl b,H,I,rfl,q⟩
theorem zkR(hu:X.A.units+60<cLine):dF X (compareOp .NotEq) (yu X.K cA not):=by
 rintro ak s Z H x y v u Q I rx ry ⟨U,d1,d2,b,r1,r2,hd,q⟩;exact(Zg (n:=49) gV (yt I r1 rx) (yt I r2 ry) hd).2 X.prog X.w X.xe _ ⟨.bl (!b),H,I,rfl,q⟩
theorem zi4:∀(n:Nat) {d d' x:D} {u:Value} {b b':Bool},Is h d u->Is h d' u->dz n d x=some b->dz n d' x=some b'->b=b':=by
 intro n;have tn:∀{n:Nat} {xs xs':List D} {x:D},(∀ys,x=.tup ys->False)->dz n (.tup xs) x=dz n (.tup xs') x:=λ{n xs xs' x} hx=>by
  cases n<;>cases x<;>first|rfl|exact(hx _ rfl).elim
 have ln:∀{n:Nat} {xs xs':List D} {x:D},(∀ys,x=.fl ys->False)->dz n (.fl xs) x=dz n (.fl xs') x:=λ{n xs xs' x} hx=>by
  cases n<;>cases x<;>first|rfl|exact(hx _ rfl).elim
 have main:∀{n:Nat},(∀{xs xs' ys:List D} {is js:List Value} {b b':Bool},jC h xs is->jC h xs' js->is.toArray=js.toArray->dz n (.tup xs) (.tup ys)=some b->dz n (.tup xs') (.tup ys)=some b'->b=b')->(∀{xs xs' ys:List D} {is js:List Value} {b b':Bool},jC h xs is->jC h xs' js->is.toArray=js.toArray->dz n (.fl xs) (.fl ys)=some b->dz n (.fl xs') (.fl ys)=some b'->b=b')->∀{d d' x:D} {u:Value} {b b':Bool},Is h d u->Is h d' u->dz n d x=some b->dz n d' x=some b'->b=b':=by
  intro n R L d d' x u b b' r1 r2 h1 h2;cases r1 with
  |oth k=>rw[tM k] at h1;cases h1
  |non=>cases r2 with
   |oth k=>rw[tM k] at h2;cases h2
   |non=>rw[h1] at h2;exact dJ h2
  |bl y=>cases r2 with
   |oth k=>rw[tM k] at h2;cases h2
   |bl=>rw[h1] at h2;exact dJ h2
  |int y=>cases r2 with
   |oth k=>rw[tM k] at h2;cases h2
   |int=>rw[h1] at h2;exact dJ h2
  |str y=>cases r2 with
   |oth k=>rw[tM k] at h2;cases h2
   |str=>rw[h1] at h2;exact dJ h2
  |tup p q=>cases r2 with
   |oth k=>rw[tM k] at h2;cases h2
   |tup p2 q2=>
    cases x with
    |tup ys=>exact R q q2 (Zd p p2) h1 h2
    |_=>rw[tn (by intro ys z;cases z),h2] at h1;exact(dJ h1).symm
   |fl p2 q2=>exact(Gn p2 p).elim
  |fl p q=>cases r2 with
   |oth k=>rw[tM k] at h2;cases h2
   |fl p2 q2=>
    cases x with
    |fl ys=>exact L q q2 (zev p p2) h1 h2
    |_=>rw[ln (by intro ys z;cases z),h2] at h1;exact(dJ h1).symm
   |tup p2 q2=>exact(Gn p p2).elim
 induction n with
 |zero=>
  intro d d' x u b b' r1 r2;exact main (n:=0) (λ_ _ _ z=>by cases z) (λ_ _ _ z=>by cases z) r1 r2
 |succ n ih=>
  have rows:∀{xs xs' ys:List D} {is js:List Value} {b b':Bool},jC h xs is->jC h xs' js->is.toArray=js.toArray->eN (dz n) xs ys=some b->eN (dz n) xs' ys=some b'->b=b':=by
   intro xs xs' ys is js b b' q1 q2 e h1 h2;have e:is=js:=by simpa using e
   subst e;obtain⟨e1,a1,b1⟩:=Kc h1;obtain⟨e2,a2,b2⟩:=Kc h2;have hl:xs.length=xs'.length:=q1.len.trans q2.len.symm;rw[b1,b2,hl]
   congr 1
   rw[M9,iV,iV];have key:∀j∈List.range (min xs'.length ys.length),e1 j=e2 j:=λj hj=>by
    have hj:=lJ.mp hj;obtain⟨x1,Zh⟩ : ∃x,xs[j]?=some x:=⟨_,dj (by rw[hl];exact dh hj (M8 _ _))⟩;obtain⟨x2,Dg⟩ : ∃x,xs'[j]?=some x:=⟨_,dj (dh hj (M8 _ _))⟩;obtain⟨y,hy⟩ : ∃y,ys[j]?=some y:=⟨_,dj (dh hj (Nat.min_le_right _ _))⟩;obtain⟨v1,f1,p1⟩:=q1.get Zh;obtain⟨v2,f2,p2⟩:=q2.get Dg;rw[f1] at f2;cases f2;exact ih p1 p2 (a1 j x1 y Zh hy) (a2 j x2 y Dg hy)
   exact⟨λz j hj=>by rw[<-key j hj];exact z j hj,λz j hj=>by rw[key j hj];exact z j hj⟩
  intro d d' x u b b' r1 r2;exact main (n:=n+1) rows rows r1 r2
theorem Zi:∀{xs:List D} {b:Bool},memD x xs=some b->∀d∈xs,∃k,dz 50 d x=some k
 |[],_,_,d,hd=>by cases hd
 |y::xs,b,h,d,hd=>by
  unfold memD at h;cases e1:dz 50 y x with
  |none=>simp only[e1] at h;cases h
  |some a=>
   cases e2:memD x xs with
   |none=>simp only[e1,e2] at h;cases h
   |some c=>
    rcases bZ.mp hd with rfl|hd
    ·exact⟨a,e1⟩
    ·exact Zi e2 d hd
theorem Ol:∀{xs:List D} {us:List Value} {b:Bool},memD x xs=some b->jC h xs us->∃e:Value->Bool,(∀u∈us,∃d,Is h d u/\dz 50 d x=some (e u))/\us.any e=b:=by
 intro xs us b hm r;have ex:∀u∈us,∃d k,Is h d u/\dz 50 d x=some k:=by
  intro u hu;obtain⟨i,hi,e⟩:=wO hu;have hl:=r.len;obtain⟨d,hd⟩ : ∃d,xs[i]?=some d:=⟨_,dj gV⟩;obtain⟨u',e1,q⟩:=r.get hd;rw[dj hi,e] at e1;cases e1;obtain⟨k,hk⟩:=Zi hm d (iQ hd);exact⟨d,k,q,hk⟩
 refine⟨λu=>by classical exact if z:∃k,∃d,Is h d u/\dz 50 d x=some k then z.choose else false,λu hu=>?_,?_⟩
 ·obtain⟨d,k,q,hk⟩:=ex u hu;have z:∃k,∃d,Is h d u/\dz 50 d x=some k:=⟨k,d,q,hk⟩;dsimp only;rw[dif_pos z];exact z.choose_spec
 ·clear ex;have key:∀(xs:List D) (us:List Value) (b:Bool),memD x xs=some b->jC h xs us->us.any (λu=>by classical exact if z:∃k,∃d,Is h d u/\dz 50 d x=some k then z.choose else false)=b:=by
   intro xs
   induction xs with
   |nil=>intro us b hm r;cases r;cases hm;rfl
   |cons d ds ih=>
    intro us b hm r;cases r with
    |@cons _ u _ us a r=>
     unfold memD at hm;cases e1:dz 50 d x with
     |none=>simp only[e1] at hm;cases hm
     |some k=>
      cases e2:memD x ds with
      |none=>simp only[e1,e2] at hm;cases hm
      |some c=>
       simp only[e1,e2] at hm;cases hm;rw[List.any_cons];have z:∃k,∃d,Is h d u/\dz 50 d x=some k:=⟨k,d,a,e1⟩;have hk:z.choose=k:=by
        obtain⟨d',q,QG⟩:=z.choose_spec;exact zi4 50 q a QG e1
       rw[dif_pos z,hk,ih us c e2 r]
  exact key xs us b hm r
noncomputable def yw(K:W.Frag)(cA:Cl)(f:Bool->Bool):R2:=λx y H Q=>∃U d1 d2 xs b,Rv K cA U H d1 x/\Rv K cA U H d2 y/\dX d2=some xs/\memD d1 xs=some b/\Q (.bl (f b)) H
theorem zku(hu:X.A.units+60<cLine):dF X (compareOp .In) (yw X.K cA id):=by
 rintro ak s Z H x y v u Q I rx ry ⟨U,d1,d2,xs,b,r1,r2,hq,hm,q⟩;have cG:X.A.in1.units+50<cLine:=by show X.A.units+1+50<cLine;lia
 have i1:=yt I r1 rx;cases yt I r2 ry with
 |tup p r=>
  cases hq;obtain⟨e,he,hb⟩:=Ol hm r;refine SeqAt.in_tupleAt e p (λw hw=>?_) ⟨.bl b,H,I,by rw[<-hb];simp[L2.RelV],q⟩;obtain⟨d,q1,q2⟩:=he w (by simpa using hw);exact Gp 50 cG q1 i1 q2
 |fl p r=>
  cases hq;obtain⟨e,he,hb⟩:=Ol hm r;refine SeqAt.in_listAt e p (λw hw=>?_) ⟨.bl b,H,I,by rw[<-hb];simp[L2.RelV],q⟩;obtain⟨d,q1,q2⟩:=he w (by simpa using hw);exact Gp 50 cG q1 i1 q2
 |oth k=>cases d2<;>cases hq<;>cases k
 |_=>cases hq
theorem zju(hu:X.A.units+60<cLine):dF X (compareOp .NotIn) (yw X.K cA not):=by
 rintro ak s Z H x y v u Q I rx ry ⟨U,d1,d2,xs,b,r1,r2,hq,hm,q⟩;have cG:X.A.in1.units+50<cLine:=by show X.A.units+1+50<cLine;lia
 have i1:=yt I r1 rx;cases yt I r2 ry with
 |tup p r=>
  cases hq;obtain⟨e,he,hb⟩:=Ol hm r;refine SeqAt.notIn_tupleAt e p (λw hw=>?_) ⟨.bl (!b),H,I,by rw[<-hb];simp[L2.RelV],q⟩;obtain⟨d,q1,q2⟩:=he w (by simpa using hw);exact Gp 50 cG q1 i1 q2
 |fl p r=>
  cases hq;obtain⟨e,he,hb⟩:=Ol hm r;refine SeqAt.notIn_listAt e p (λw hw=>?_) ⟨.bl (!b),H,I,by rw[<-hb];simp[L2.RelV],q⟩;obtain⟨d,q1,q2⟩:=he w (by simpa using hw);exact Gp 50 cG q1 i1 q2
 |oth k=>cases d2<;>cases hq<;>cases k
 |_=>cases hq
end
end Mi
namespace HT
open PySem PyProof.Rows
section
variable {prog:Program}{w:World}{A:Around}{E:Value->Shared->Prop}{s:Shared}
theorem u0{t b:Addr}{vs ws:List Value}{Q:Value->Shared->Prop}(ht:IsTup s.heap t vs.toArray)(hb:IsTup s.heap b ws.toArray)(hv:vs=[])
  (h1:Q (.ref b) s):wpAny (model prog w) A (binaryOp .Add (.ref t) (.ref b)) Q E s:=by
 obtain⟨⟨cls,dd,data,sl⟩,ho,hc,n,hd⟩:=id ht;obtain⟨⟨cls2,dd2,data2,sl2⟩,pC,tH,n2,hd2⟩:=id hb;simp only at hc hd tH hd2;subst hc hd tH hd2;exact concat_meets ⟨_,ho,rfl⟩ ⟨_,pC,rfl⟩ noFill_tuple_add seq_tuple_add Qm Qk (Qh _ _)
   (tuple_addW0 t b vs.toArray ws.toArray n n2 dd dd2 sl sl2 (by simp[hv])) ⟨ho,pC,h1⟩
theorem gG{t sl:Addr}{items:Array Value}{vl vu:Value}{lo hi:Option Int}{Q:Value->Shared->Prop}(ht:IsTup s.heap t items)(hs:s.heap.IsSliceOf sl vl vu .none)(pl:IsPart vl lo)(pu:IsPart vu hi)
  (hw:bM items.size 0 lo=0/\bM items.size items.size hi=items.size) (h:Q (.ref t) s):wpAny (model prog w) A (getItem (.ref t) (.ref sl)) Q E s:=by
 obtain⟨os,CQ,N5,I9⟩:=id hs;have Rh:s.TypeIs (.ref sl) "slice":=⟨os,CQ,N5⟩;unfold getItem
 try with_reducible refine k_ ?_
 first|refine au (aN ?_)|skip
 refine au (wpAny_sequenceKey ht.typeIs Dc ?_);refine au (vO (name:=Str.ofString "__getitem__") ht.typeIs Fw
  (o_ Fw ht.typeIs entry_tuple_getitem ?_ (args_tuple_getitem _ _)))
 show wpAny _ _ (Builtin.Tuple.tupleItemsOf (.ref t) >>= _) _ _ s;refine au (tupleItemsOf_ ht ?_);refine au (FW Rh ?_);rw[if_pos Dc];refine au (Yr hs pl pu ?_);have Tq:(((bM items.size 0 lo:Nat):Int)==0&&(1:Int)==1&&(bM items.size items.size hi-bM items.size 0 lo)==items.size)=true:=by
  rw[hw.1,hw.2];simp
 show wpAny _ _ (if (((bM items.size 0 lo:Nat):Int)==0&&(1:Int)==1&&(bM items.size items.size hi-bM items.size 0 lo)==items.size)=true then _ else _) _ _ s;rw[if_pos Tq];refine au ?_;unfold Builtin.Tuple.tupleIsExact;refine au (FW ht.typeIs ?_);refine aN ?_;rw[if_pos Dc];refine au (wZ ?_);exact aN ⟨_,rfl,aN h⟩
end
end HT
namespace L2
open PySem PySem.Spec PyProof.Rows
section
variable {X:Cx}{e:Expr}{te:TE}{pos p2:Pos}
noncomputable def u5(K:W.Frag):R2:=λx y H Q=>∃a b xs ys,x=.ref a/\y=.ref b/\gC K H a xs/\gC K H b ys/\xs.length+ys.length<=sizeLine /\
 (xs=[]->Q (.ref b) H)/\(ys=[]->Q (.ref a) H)/\∀p,H p=none->Q (.ref p) (upd H p (.tup (xs++ys)))
theorem u6:dF X (binaryOp .Add) (u5 X.K):=by
 intro ak s Z H x y v u Q I rx ry h;obtain⟨a,b,xs,ys,rfl,rfl,ha,hb,hz,q0,q1,q2⟩:=h;cases rx;cases ry;obtain⟨its,r1,p1,_⟩:=I.tuple ha;obtain⟨its2,r2,p2,_⟩:=I.tuple hb;by_cases hx:xs=[]
 ·exact HT.u0 p1 p2 (r1.mU.mpr hx) ⟨.ref b,H,I,rfl,q0 hx⟩
 ·refine HT.xQ p1 p2 (λz=>hx (r1.mU.mp z)) (λz=>⟨.ref a,H,I,rfl,q1 (r2.mU.mp z)⟩) (λz=>?_) (by rw[<-r1.length,<-r2.length];exact hz);refine⟨.ref s.heap.objs.size,_,I.laid (t':=s.toks) (o:=.tup (xs++ys)) (λb ob q=>cF _ q) (bL _) ?_,rfl,q2 _ (I.hok.fresh (bL _))⟩;exact⟨by rw[h_];exact hz,_,r1.append r2,IsTup.new _ _⟩
noncomputable def Ak(K:W.Frag):V->Option Int->Option Int->Hp->VK->Prop:=λx lo hi H Q=>∃a xs,x=.ref a/\gC K H a xs /\
 ((HT.bM xs.length 0 lo=0/\HT.bM xs.length xs.length hi=xs.length)->Q (.ref a) H)/\∀p,H p=none->Q (.ref p) (upd H p (.tup (mR xs lo hi)))
theorem zjo:xT X (Ak X.K):=by
 intro ak s Z H x v vl vu lo hi sl Q I rx hs pl pu h;obtain⟨a,xs,rfl,hx,hw,q⟩:=h;by_cases hz:HT.bM xs.length 0 lo=0/\HT.bM xs.length xs.length hi=xs.length
 ·cases rx;obtain⟨its,r,ht,_⟩:=I.tuple hx;have hlen:its.toArray.size=xs.length:=by rw[dH];exact r.length.symm
  refine⟨"tuple",_,Fw.lookup,ht.typeIs,?_⟩;exact HT.gG ht hs pl pu (by rw[hlen];exact hz) ⟨.ref a,H,I,rfl,hw hz⟩
 ·exact zmJ ak s Z H (.ref a) v vl vu lo hi sl Q I rx hs pl pu ⟨a,xs,rfl,hx,hz,q⟩
end
section
variable {X:Cx}
noncomputable def Al(K:W.Frag):R2:=λx y H Q=>∃l b xs zs,x=.ref l/\y=.ref b/\cY K H l xs/\cY K H b zs/\xs.length+zs.length<=sizeLine/\∀p,H p=none->Q (.ref p) (upd H p (.lst (xs++zs)))
theorem yx:dF X (binaryOp .Add) (Al X.K):=by
 intro ak s Z H x y v u Q I rx ry h;obtain⟨l,b,xs,zs,rfl,rfl,hH,hB,hz,q⟩:=h;cases rx;cases ry;obtain⟨its,r,pl,_⟩:=I.list hH;obtain⟨its2,r2,pl2,_⟩:=I.list hB;obtain⟨⟨cls,dd,data,sl⟩,ho,hc,n,hd⟩:=pl.isList;obtain⟨⟨cls2,dd2,data2,sl2⟩,pC,tH,n2,hd2⟩:=pl2.isList;simp only at hc hd tH hd2;subst hc hd tH hd2;refine concat_meets ⟨_,ho,rfl⟩ ⟨_,pC,rfl⟩ noFill_list_add seq_list_add PySem.F.slot_list_add PySem.F.entry_list_add (PySem.F.args_list_add_2 _ _) (list_addW l b its.toArray its2.toArray n n2 dd dd2 sl sl2 (by rw[dH,dH,<-r.length,<-r2.length];exact hz)) ⟨ho,pC,?_⟩;have ea:its.toArray++its2.toArray=(its++its2).toArray:=by simp
 rw[ea];exact⟨.ref _,_,I.Rt (t':=s.toks) (r.append r2) (by rw[h_];omega),rfl,q _ I.fresh⟩
noncomputable def qJ(K:W.Frag):R2:=λx y H Q=>pA (λi j=>.int (i+j)) x y H Q\/Al K x y H Q\/u5 K x y H Q\/∃i j,x=.str i/\y=.str j/\i.length+j.length<=sizeLine/\Q (.str (i++j)) H
theorem zfN:dF X (binaryOp .Add) (qJ X.K):=CJ.or (yx.or (u6.or ze4))
end
end L2
namespace Mi
open PySem PySem.Spec PyProof.Rows L2
section
variable {K:W.Frag}{cA:Cl}{U:Ph}{H:Hp}{Q:VK}{p:Pr}
theorem aY.some'{o:Option Rz}(h:aY K cA U H o Q):∃z,o=some z:=by
 cases o with
 |none=>exact h.elim
 |some z=>exact⟨z,rfl⟩
theorem aY.of{o:Option Rz}{z:Rz}(h:aY K cA U H o Q)(e:o=some z):aY K cA U H (some z) Q:=e▸h
theorem aY.here{d:D}{v:V}(h:aY K cA U H (some (.dat d)) Q)(r:Rep K cA U H d v):Q v H:=h H v bf.refl r
theorem aY.tup{xs:List D}{vs:List V}{a:Addr}(h:aY K cA U H (some (.dat (.tup xs))) Q)(z:Zt U H)(r:aB K cA U H xs vs)(hp:H a=none):Q (.ref a) (upd H a (.tup vs)):=
 h _ _ (bf.new hp) (.tup (TupAt.new (z.nz hp)) (r.mono (bf.new hp).ext z.lz))
theorem yp.two{ds:List D}{vs:List V}{d d':D}(h:yp K cA U H [d,d'] vs):∃v v',vs=[v,v']/\Rv K cA U H d v/\Rv K cA U H d' v':=by
 cases h with
 |cons a r=>cases r with
  |cons b r=>cases r;exact⟨_,_,rfl,a,b⟩
theorem yp.one(h:yp K cA U H [d] vs):∃v,vs=[v]/\Rv K cA U H d v:=by
 cases h with
 |cons a r=>cases r;exact⟨_,rfl,a⟩
theorem Rv.int{i:Int}{v:V}(h:Rv K cA U H (.int i) v):v=.int i:=by cases (show Rep K cA U H (.int i) v from h);rfl
theorem Rv.bl{i:Bool}{v:V}(h:Rv K cA U H (.bl i) v):v=.bl i:=by cases (show Rep K cA U H (.bl i) v from h);rfl
theorem Rv.str{i:Str}{v:V}(h:Rv K cA U H (.str i) v):v=.str i:=by cases (show Rep K cA U H (.str i) v from h);rfl
theorem Rv.tup{xs:List D}{v:V}(h:Rv K cA U H (.tup xs) v):∃a vs,v=.ref a/\TupAt K U H a vs/\aB K cA U H xs vs:=by
 cases (show Rep K cA U H (.tup xs) v from h) with
 |tup a r=>exact⟨_,_,rfl,a,r⟩
theorem Rv.sq{d:D}{xs:List D}{v:V}(h:Rv K cA U H d v)(e:dX d=some xs):∃a vs,v=.ref a/\(cY K H a vs\/gC K H a vs)/\aB K cA U H xs vs:=by
 cases d with
 |tup ys=>
  cases e;obtain⟨a,vs,e,t,r⟩:=Rv.tup h;exact⟨a,vs,e,.inr t.jr,r⟩
 |fl ys=>
  cases e;obtain⟨a,vs,e,l,r⟩:=h;exact⟨a,vs,e,.inl l,r⟩
 |_=>cases e
theorem Zj{f:Int->Int->Option D}{ds:List D}{z:Rz}(h:cg f ds=some z):∃i j d,ds=[.int i,.int j]/\f i j=some d/\z=.dat d:=by
 cases ds with
 |nil=>cases h
 |cons a t=>
 cases a with
 |int i=>
  cases t with
  |nil=>cases h
  |cons b t=>
  cases b with
  |int j=>
   cases t with
   |cons _ _=>cases h
   |nil=>
    obtain⟨d,e1,e2⟩:=jk.mp h;exact⟨_,_,d,rfl,e1,e2.symm⟩
  |_=>cases h
 |_=>cases h
theorem Am{f:Int->Int->Option D}(hp:prim p=cg f){C:Int->Int->Prop}{g:Int->Int->V}(hf:∀i j d,f i j=some d->C i j/\∀U H,Rep K cA U H d (g i j)):bw K cA p (r2 (rI C g)):=by
 intro U H ds vs Q zt rs o;rw[hp] at o;obtain⟨z,e⟩:=o.some';obtain⟨i,j,d,rfl,e1,rfl⟩:=Zj e;obtain⟨c,r⟩:=hf i j d e1;obtain⟨v,v',rfl,r1,r2⟩:=rs.two (ds:=[]);rw[r1.int,r2.int];exact⟨_,_,rfl,i,j,rfl,rfl,c,(o.of e).here (r U H)⟩
theorem Gq{f:Int->Int->D}(hp:prim p=cg λi j=>some (f i j)){g:Int->Int->V}(hf:∀i j U H,Rep K cA U H (f i j) (g i j)):bw K cA p (r2 (pA g)):=by
 intro U H ds vs Q zt rs o;obtain⟨x,y,e,i,j,a,b,_,q⟩:=Am (K:=K) (cA:=cA) (C:=λ_ _=>True) hp (λi j d e=>⟨trivial,λU H=>by cases e;exact hf i j U H⟩) U H ds vs Q zt rs o;exact⟨x,y,e,i,j,a,b,q⟩
theorem Ao{α:Type}{c:Prop}[Decidable c]{x y:α}(h:(if c then some x else none)=some y):c/\y=x:=by
 split at h
 ·rename_i z;cases h;exact⟨z,rfl⟩
 ·cases h
theorem zl0:bw K cA .ao (r2 (pA λi j=>.int (i-j))):=Gq (f:=λi j=>.int (i-j)) rfl λi j _ _=>.int _
theorem zlG:bw K cA .mul (r2 (rI xO λi j=>.int (i*j))):=Am rfl λi j d e=>by obtain⟨c,rfl⟩:=Ao e;exact⟨c,λ_ _=>.int _⟩
theorem zj0:bw K cA .fdiv (r2 (rI xM λi j=>.int (i/j))):=Am rfl λi j d e=>by obtain⟨c,rfl⟩:=Ao e;exact⟨c,λ_ _=>.int _⟩
theorem zlP:bw K cA .mod (r2 (rI (λ_ j=>0<j) λi j=>.int (i%j))):=Am rfl λi j d e=>by obtain⟨c,rfl⟩:=Ao e;exact⟨c,λ_ _=>.int _⟩
theorem zlV:bw K cA .pow (r2 (rI CG λi j=>.int (i^j.toNat))):=Am rfl λi j d e=>by obtain⟨c,rfl⟩:=Ao e;exact⟨c,λ_ _=>.int _⟩
theorem znS:bw K cA .le (r2 (pA λi j=>.bl (decide (i<=j)))):=Gq (f:=λi j=>.bl (decide (i<=j))) rfl λi j _ _=>.bl _
theorem znj:bw K cA .gt (r2 (pA λi j=>.bl (decide (j<i)))):=Gq (f:=λi j=>.bl (decide (j<i))) rfl λi j _ _=>.bl _
theorem zne:bw K cA .ge (r2 (pA λi j=>.bl (decide (j<=i)))):=Gq (f:=λi j=>.bl (decide (j<=i))) rfl λi j _ _=>.bl _
theorem zmc:bw K cA .neg (λvs H Q=>∃x,vs=[x]/\rU (λi=>.int (-i)) x H Q):=by
 intro U H ds vs Q zt rs o;obtain⟨z,e⟩:=o.some';have e:uU (λi=>.int (-i)) ds=some z:=e;cases ds with
 |nil=>cases e
 |cons a t=>
 cases a with
 |int i=>
  cases t with
  |cons _ _=>cases e
  |nil=>
   cases e;obtain⟨v,rfl,r1⟩:=rs.one;exact⟨_,rfl,_,r1.int,aY.here (o.of rfl) (.int _)⟩
 |_=>cases e
theorem znp:bw K cA .eq (r2 (yu K cA id)):=by
 intro U H ds vs Q zt rs o;obtain⟨z,e⟩:=o.some';have e:Dp id ds=some z:=e;unfold Dp at e;split at e
 ·obtain⟨b,e1,e2⟩:=jk.mp e;obtain⟨v,v',rfl,r1,r2⟩:=rs.two (ds:=[]);subst e2;exact⟨_,_,rfl,U,_,_,b,r1,r2,e1,(o.of e).here (.bl _)⟩
 ·cases e
theorem zm0:bw K cA .ne (r2 (yu K cA not)):=by
 intro U H ds vs Q zt rs o;obtain⟨z,e⟩:=o.some';have e:Dp not ds=some z:=e;unfold Dp at e;split at e
 ·obtain⟨b,e1,e2⟩:=jk.mp e;obtain⟨v,v',rfl,r1,r2⟩:=rs.two (ds:=[]);subst e2;exact⟨_,_,rfl,U,_,_,b,r1,r2,e1,(o.of e).here (.bl _)⟩
 ·cases e
theorem Zk{f:Bool->Bool}{ds:List D}{z:Rz}(h:yd f ds=some z):∃a b xs k,ds=[a,b]/\dX b=some xs/\memD a xs=some k/\z=.dat (.bl (f k)):=by
 unfold yd at h;split at h
 ·obtain⟨k,e1,e2⟩:=jk.mp h;obtain⟨xs,e3,e4⟩:=wN.mp e1;exact⟨_,_,xs,k,rfl,e3,e4,e2.symm⟩
 ·cases h
theorem zno:bw K cA .inn (r2 (yw K cA id)):=by
 intro U H ds vs Q zt rs o;obtain⟨z,e⟩:=o.some';obtain⟨a,b,xs,k,rfl,e1,e2,rfl⟩:=Zk (show yd id ds=some z from e);obtain⟨v,v',rfl,r1,r2⟩:=rs.two (ds:=[]);exact⟨_,_,rfl,U,_,_,xs,k,r1,r2,e1,e2,(o.of e).here (.bl _)⟩
theorem zms:bw K cA .nin (r2 (yw K cA not)):=by
 intro U H ds vs Q zt rs o;obtain⟨z,e⟩:=o.some';obtain⟨a,b,xs,k,rfl,e1,e2,rfl⟩:=Zk (show yd not ds=some z from e);obtain⟨v,v',rfl,r1,r2⟩:=rs.two (ds:=[]);exact⟨_,_,rfl,U,_,_,xs,k,r1,r2,e1,e2,(o.of e).here (.bl _)⟩
theorem Tr:∀{xs:List D} {ns:List Int} {vs:List V},fQ xs=some ns->aB K cA U H xs vs->vs=ns.map V.int
 |[],ns,vs,h,r=>by cases h;cases r;rfl
 |d::xs,ns,vs,h,r=>by
  cases d with
  |int i=>
   simp only[fQ,jk] at h;obtain⟨ns',h1,rfl⟩:=h;cases r with
   |cons a r=>cases a;rw[Tr h1 r];rfl
  |_=>simp[fQ] at h
theorem Zm:∀(a b:List Int),ltI a b=HT.lexLt a b
 |_,[]=>by cases ‹List Int›<;>rfl
 |[],_::_=>rfl
 |x::xs,y::ys=>by
  unfold ltI;rw[Zm xs ys,HT.jR]
theorem zm8:bw K cA .lt (r2 λx y H Q=>pA (λi j=>.bl (decide (i<j))) x y H Q\/Jc K x y H Q):=by
 intro U H ds vs Q zt rs o;obtain⟨z,e⟩:=o.some';have e:JL ds=some z:=e;unfold JL at e;split at e
 ·cases e;obtain⟨v,v',rfl,r1,r2⟩:=rs.two (ds:=[]);exact⟨_,_,rfl,.inl ⟨_,_,r1.int,r2.int,aY.here (o.of rfl) (.bl _)⟩⟩
 ·split at e
  ·rename_i a b h1 h2;cases e;obtain⟨v,v',rfl,r1,r2⟩:=rs.two (ds:=[]);obtain⟨p,us,rfl,t1,q1⟩:=r1.tup;obtain⟨p',us',rfl,t2,q2⟩:=r2.tup;have o2:aY K cA U H (some (.dat (.bl (ltI a b)))) Q:=by
    have o3:aY K cA U H (JL [.tup _,.tup _]) Q:=o;unfold JL at o3;simp only[h1,h2] at o3;exact o3
   refine⟨_,_,rfl,.inr ⟨p,p',a,b,rfl,rfl,by rw[<-Tr h1 q1];exact t1.jr,by rw[<-Tr h2 q2];exact t2.jr,?_⟩⟩;rw[<-Zm];exact o2.here (.bl _)
  ·cases e
 ·cases e
theorem zkK:bw K cA .add (r2 (qJ K)):=by
 intro U H ds vs Q zt rs o;have o:aY K cA U H (Dn ds) Q:=o;cases ds with
 |nil=>exact False.elim o
 |cons a t=>
 cases a with
 |int i=>
  cases t with
  |nil=>exact False.elim o
  |cons b t=>
  cases b with
  |int j=>
   cases t with
   |cons _ _=>exact False.elim o
   |nil=>
    obtain⟨v,v',rfl,r1,r2⟩:=rs.two (ds:=[]);exact⟨_,_,rfl,.inl ⟨_,_,r1.int,r2.int,aY.here o (.int _)⟩⟩
  |_=>exact False.elim o
 |tup xs=>
  cases t with
  |nil=>exact False.elim o
  |cons b t=>
  cases b with
  |tup ys=>
   cases t with
   |cons _ _=>exact False.elim o
   |nil=>
    obtain⟨v,v',rfl,r1,r2⟩:=rs.two (ds:=[]);obtain⟨p,us,rfl,t1,q1⟩:=r1.tup;obtain⟨p',us',rfl,t2,q2⟩:=r2.tup;have o:aY K cA U H (if xs.length+ys.length<=sizeLine then some (.dat (.tup (xs++ys))) else none) Q:=o;by_cases hz:xs.length+ys.length<=sizeLine
    ·rw[if_pos hz] at o;refine⟨_,_,rfl,.inr (.inr (.inl ⟨p,p',us,us',rfl,rfl,t1.jr,t2.jr,by rw[<-q1.len,<-q2.len];exact hz,λe=>?_,λe=>?_,λa ha=>o.tup zt (q1.app q2) ha⟩))⟩
     ·subst e;cases q1;exact o.here (.tup t2 q2)
     ·subst e;cases q2;rw[FP] at o;exact o.here (.tup t1 q1)
    ·rw[if_neg hz] at o;exact o.elim
  |_=>exact False.elim o
 |fl xs=>
  cases t with
  |nil=>exact False.elim o
  |cons b t=>
  cases b with
  |fl ys=>
   cases t with
   |cons _ _=>exact False.elim o
   |nil=>
    obtain⟨v,v',rfl,⟨p,us,rfl,t1,q1⟩,⟨p',us',rfl,t2,q2⟩⟩:=rs.two (ds:=[]);have o:aY K cA U H (if xs.length+ys.length<=sizeLine then some (.nw (xs++ys)) else none) Q:=o;by_cases hz:xs.length+ys.length<=sizeLine
    ·rw[if_pos hz] at o;exact⟨_,_,rfl,.inr (.inl ⟨p,p',us,us',rfl,rfl,t1,t2,by rw[<-q1.len,<-q2.len];exact hz,λa ha=>o a _ ha (q1.app q2)⟩)⟩
    ·rw[if_neg hz] at o;exact o.elim
  |_=>exact False.elim o
 |str x=>
  cases t with
  |nil=>exact False.elim o
  |cons b t=>
  cases b with
  |str y=>
   cases t with
   |cons _ _=>exact False.elim o
   |nil=>
    obtain⟨v,v',rfl,r1,r2⟩:=rs.two (ds:=[]);have o:aY K cA U H (if x.length+y.length<=sizeLine then some (.dat (.str (x++y))) else none) Q:=o;by_cases hz:x.length+y.length<=sizeLine
    ·rw[if_pos hz] at o;exact⟨_,_,rfl,.inr (.inr (.inr ⟨_,_,r1.str,r2.str,hz,o.here (.str _)⟩))⟩
    ·rw[if_neg hz] at o;exact o.elim
  |_=>exact False.elim o
 |_=>exact False.elim o
theorem zkA:bw K cA .len (λxs H Q=>∃p ys,xs=[.ref p]/\(cY K H p ys\/gC K H p ys)/\Q (.int ys.length) H):=by
 intro U H ds vs Q zt rs o;have o:aY K cA U H (rN (λxs=>some (.dat (.int xs.length))) ds) Q:=o;unfold rN at o;split at o
 ·obtain⟨v,rfl,r1⟩:=rs.one;obtain⟨z,e⟩:=o.some';obtain⟨xs,e1,e2⟩:=wN.mp e;obtain⟨a,us,rfl,sq,q⟩:=r1.sq e1;cases e2;refine⟨a,us,rfl,sq,?_⟩;rw[<-q.len];exact(o.of e).here (.int _)
 ·exact o.elim
theorem zkh:bw K cA .list (λxs H Q=>∃p ys,xs=[.ref p]/\(cY K H p ys\/gC K H p ys)/\∀l,H l=none->Q (.ref l) (upd H l (.lst ys))):=by
 intro U H ds vs Q zt rs o;have o:aY K cA U H (rN (λxs=>some (.nw xs)) ds) Q:=o;unfold rN at o;split at o
 ·obtain⟨v,rfl,r1⟩:=rs.one;obtain⟨z,e⟩:=o.some';obtain⟨xs,e1,e2⟩:=wN.mp e;obtain⟨a,us,rfl,sq,q⟩:=r1.sq e1;cases e2;exact⟨a,us,rfl,sq,λl hl=>(o.of e) l us hl q⟩
 ·exact o.elim
theorem zhJ:bw K cA .tuple (λxs H Q=>∃p ys,xs=[.ref p]/\((cY K H p ys/\∀l,H l=none->Q (.ref l) (upd H l (.tup ys)))\/(gC K H p ys/\Q (.ref p) H))):=by
 intro U H ds vs Q zt rs o;have o:aY K cA U H (pH ds) Q:=o;unfold pH at o;split at o
 ·rename_i d _;obtain⟨v,rfl,r1⟩:=rs.one;cases d with
  |tup xs=>
   obtain⟨a,us,rfl,t,q⟩:=r1.tup;exact⟨a,us,rfl,.inr ⟨t.jr,aY.here o (.tup t q)⟩⟩
  |fl xs=>
   obtain⟨a,us,rfl,t,q⟩:=r1;exact⟨a,us,rfl,.inl ⟨t,λl hl=>aY.tup o zt q hl⟩⟩
  |_=>exact o.elim
 ·exact o.elim
theorem zjS:bw K cA .uO (λxs H Q=>(∃i,xs=[.int i]/\Q (.int i) H)\/∃k,xs=[.bl k]/\Q (.int (if k then 1 else 0)) H):=by
 intro U H ds vs Q zt rs o;have o:aY K cA U H (JM ds) Q:=o;cases ds with
 |nil=>exact False.elim o
 |cons a t=>
 cases a with
 |int i=>
  cases t with
  |cons _ _=>exact False.elim o
  |nil=>
   obtain⟨v,rfl,r1⟩:=rs.one;rw[r1.int];exact .inl ⟨_,rfl,aY.here o (.int _)⟩
 |bl k=>
  cases t with
  |cons _ _=>exact False.elim o
  |nil=>
   obtain⟨v,rfl,r1⟩:=rs.one;rw[r1.bl];exact .inr ⟨_,rfl,aY.here o (.int _)⟩
 |_=>exact False.elim o
theorem zkc:bw K cA .max2 (λxs H Q=>∃i j,xs=[.int i,.int j]/\Q (.int (if j>i then j else i)) H):=by
 intro U H ds vs Q zt rs o;obtain⟨x,y,e,i,j,rfl,rfl,q⟩:=Gq (K:=K) (cA:=cA) (p:=.max2) (f:=λi j=>.int (if j>i then j else i)) rfl (λi j _ _=>.int _) U H ds vs Q zt rs o;exact⟨i,j,e,q⟩
theorem zki:bw K cA .min2 (λxs H Q=>∃i j,xs=[.int i,.int j]/\Q (.int (if j<i then j else i)) H):=by
 intro U H ds vs Q zt rs o;obtain⟨x,y,e,i,j,rfl,rfl,q⟩:=Gq (K:=K) (cA:=cA) (p:=.min2) (f:=λi j=>.int (if j<i then j else i)) rfl (λi j _ _=>.int _) U H ds vs Q zt rs o;exact⟨i,j,e,q⟩
theorem zfU:bw K cA .divmod (λxs H Q=>∃i j,xs=[.int i,.int j]/\xM i j/\∀p,H p=none->Q (.ref p) (upd H p (.tup [.int (i/j),.int (i%j)]))):=by
 intro U H ds vs Q zt rs o;have o:aY K cA U H (cg (λi j=>if 0<j/\j<1073741824 then some (.tup [.int (i/j),.int (i%j)]) else none) ds) Q:=o;obtain⟨z,e⟩:=o.some';obtain⟨i,j,d,rfl,e1,rfl⟩:=Zj e;obtain⟨c,rfl⟩:=Ao e1;obtain⟨v,v',rfl,r1,r2⟩:=rs.two (ds:=[]);rw[r1.int,r2.int];exact⟨i,j,rfl,c,λp hp=>(o.of e).tup zt (.cons (.int _) (.cons (.int _) .nil)) hp⟩
theorem Zn:∀{xs:List D} {bs:List Bool} {vs:List V},eZ xs=some bs->aB K cA U H xs vs->vs=bs.map V.bl
 |[],bs,vs,h,r=>by cases h;cases r;rfl
 |d::xs,bs,vs,h,r=>by
  cases d with
  |bl b=>
   simp only[eZ,jk] at h;obtain⟨bs',h1,rfl⟩:=h;cases r with
   |cons q r=>cases q;rw[Zn h1 r];rfl
  |_=>simp[eZ] at h
theorem znn:bw K cA .ix (r2 (Rn K)):=by
 intro U H ds vs Q zt rs o;have o:aY K cA U H (SM ds) Q:=o;unfold SM at o;split at o
 ·rename_i d i _;obtain⟨v,v',rfl,r1,r2⟩:=rs.two (ds:=[]);obtain⟨z,e⟩:=o.some';obtain⟨y,e1,e2⟩:=jk.mp e;obtain⟨xs,e3,e4⟩:=wN.mp e1;obtain⟨a,us,rfl,sq,q⟩:=r1.sq e3;have key:∃w,L2.qy us i=some w/\Rep K cA U H y w:=by
   unfold L2.qy at *;rw[<-q.len];obtain⟨j,h1,h2⟩:=wN.mp e4;obtain⟨w,h3,h4⟩:=q.get h2;exact⟨w,by rw[h1];exact h3,h4⟩
  obtain⟨w,hw,nR⟩:=key;subst e2;have q':=(o.of e).here nR;rcases sq with sq|sq
  ·exact⟨_,_,rfl,.inl ⟨a,us,i,w,rfl,r2.int,sq,hw,q'⟩⟩
  ·exact⟨_,_,rfl,.inr (.inl ⟨a,us,i,w,rfl,r2.int,sq,hw,q'⟩)⟩
 ·exact o.elim
noncomputable def Zo(K:W.Frag):V->Option Int->Option Int->Hp->VK->Prop:=λx lo hi H Q=>Jh K x lo hi H Q\/Ak K x lo hi H Q
theorem zmy:xT X (Zo X.K):=xW.or zjo
theorem zkb{d:D}{lo hi:Option Int}{v:V}(zt:Zt U H)(r:Rv K cA U H d v)(o:aY K cA U H (cutD d lo hi) Q):Zo K v lo hi H Q:=by
 cases d with
 |tup xs=>
  obtain⟨a,us,rfl,t,q⟩:=r.tup;refine .inr ⟨a,us,rfl,t.jr,λe=>?_,λp hp=>aY.tup o zt q.cut hp⟩;have hc:cut xs lo hi=xs:=by
   unfold cut;rw[q.len,e.1,e.2,List.drop_zero,Nat.sub_zero,<-q.len,zA]
  have o:aY K cA U H (some (.dat (.tup (cut xs lo hi)))) Q:=o;rw[hc] at o;exact o.here (.tup t q)
 |fl xs=>
  obtain⟨a,us,rfl,t,q⟩:=r;exact .inl ⟨a,us,rfl,t,λp hp=>o p _ hp q.cut⟩
 |_=>exact o.elim
end
end Mi
namespace L2
open PySem PySem.Spec PyProof.Rows
section
variable {κ:Type}[DecidableEq κ]
noncomputable def putK(kvs:List (κ×V))(k:κ)(v:V):List (κ×V):=
 if (kvs.any λkv=>decide (kv.1=k))=true then kvs.map (λkv=>if kv.1=k then (kv.1,v) else kv) else kvs++[(k,v)]
theorem zdE(kvs:List (κ×V))(k:κ)(v:V):(putK kvs k v).length<=kvs.length+1:=by
 unfold putK
 split
 ·rw[aW];lia
 ·rw[h_,fu,wX];lia
theorem KV.any(r:KV kvs vs)(k:κ):(kvs.any λkv=>decide (kv.1=k))=vs.any λkv=>decide (kv.1=k):=by
 unfold KV at r
 induction r with
 |nil=>rfl
 |cons h t ih=>rw[List.any_cons,List.any_cons,ih,h.1]
theorem KV.repl(r:KV kvs vs)(k:κ)(ry:RelV y u) :
  KV (kvs.map λkv=>if kv.1=k then (kv.1,y) else kv) (vs.map λkv=>if kv.1=k then (kv.1,u) else kv):=by
 unfold KV at r ⊢
 induction r with
 |nil=>exact .nil
 |@cons p q ps qs h t ih=>
  rw[lK,lK];refine .cons ?_ ih;obtain⟨h1,h2⟩:=h;by_cases e:p.1=k
  ·rw[if_pos e,if_pos (h1.symm.trans e)];exact⟨h1,ry⟩
  ·rw[if_neg e,if_neg (λz=>e (h1.trans z))];exact⟨h1,h2⟩
theorem KV.put(r:KV kvs vs)(k:κ)(ry:RelV y u):KV (putK kvs k y) (stored vs k u):=by
 unfold putK stored;rw[r.any k];by_cases e:(vs.any λkv=>decide (kv.1=k))=true
 ·rw[if_pos e,if_pos e];exact r.repl k ry
 ·rw[if_neg e,if_neg e];exact Paired.snoc r ⟨rfl,ry⟩
end
theorem znk(r:RelV (kV k) u):(cI P w).is k u=true:=by
 cases k with
 |inl i=>obtain⟨t,e⟩:=(show ∃t,u=Value.int i t from r);subst e;exact zdG P w i t
 |inr x=>obtain⟨t,e⟩:=(show ∃t,u=Value.str x t from r);subst e;exact zdD P w x t
section
variable {P:Program}{w:World}{H:Hp}{h:Heap}{a:Addr}
theorem zna(ok:iu P w H h)(e:Rd H a u):aV P w H h a u:=e.ok ok
theorem zm7(ok:iu P w H h)(e:Rd H a (.dK kvs)):kvs.length<=sizeLine/\(a==sysModules)=false/\∃vs,KV kvs vs/\h.DictOf (cI P w) a vs:=
 show aV P w H h a (.dK kvs) from zna ok e
theorem znC(ok:iu P w H h)(e:H a=some (.dK kvs)):kvs.length<=sizeLine/\(a==sysModules)=false/\∃vs,KV kvs vs/\h.DictOf (cI P w) a vs:=zm7 ok (.inl e)
end
section
variable {X:Cx}{ak:List (Addr×Obj)}{Z:St}{H:Hp}{s:Shared}{a:Addr}{y v:V}{u r:Value}{o:Option V}{A:Around}{E:Value->Shared->Prop}
theorem Inv.big(I:Inv X ak Z H s):sysModules<s.heap.objs.size:=by
 have h:mainGlobals<s.heap.objs.size:=(I.mod.glob.keeps I.bk).lt;exact Nat.lt_trans Dc h
theorem zjX(I:Inv X ak Z H s)(mu:Ib (H a))(hs:Heap.SameBut a s.heap h')(he:∃q,h'.get? a=some q)(new:aV X.prog X.w (upd H a ob) h' a ob) :
  Inv X ak Z (upd H a ob) {s with heap:=h',toks:=t'}:=
 I.write (x:=a) (e:=a) mu (.inl rfl) (λb q hb z=>(hs.2 b hb).trans z) he new
theorem zlA(z:kvs.length<=sizeLine)(hd:(a==sysModules)=false)(rel:KV kvs vs)(dd:h'.DictOf (cI P w) a vs) :
  aV P w H' h' a (.dK kvs):=⟨z,hd,vs,rel,dd⟩
end
theorem zhQ(h:Heap)(hb:sysModules<h.objs.size):aV P w H (h.push {cls:=.type "dict",data:=.dict #[]}) h.objs.size (.dK []):=
 ⟨jm _,beq_eq_false_iff_ne.mpr (Ne.symm (cR hb)),[],.nil,Heap.DictOf.new h⟩
noncomputable def pP:List (TE×TE)->St->Hp->(List (V×V)->Hp->Prop)->Prop
 |[],_,H,Q=>Q [] H
 |(tk,tv)::r,Z,H,Q=>tk Z H λx H1=>tv Z H1 λy H2=>pP r Z H2 λps H3=>Q ((x,y)::ps) H3
noncomputable abbrev VV:List (V×V)->List (Value×Value)->Prop:=Paired λp q=>RelV p.1 q.1/\RelV p.2 q.2
def Om(X:Cx)(pos:Pos)(keys:List (Option Expr))(values:List Expr)(DN:List (TE×TE)):Prop:=
 ∀(ak:List (Addr×Obj)) (s:Shared) (Z:St) (H:Hp) (Q:List (V×V)->Hp->Prop),Inv X ak Z H s->pP DN Z H Q->
  wpAny (model X.prog X.w) X.A (evalPairs (pairTrees keys values X.env pos)) (λvs s'=>∃ps H',Inv X ak Z H' s'/\VV ps vs/\Q ps H') X.xe s
theorem zjR:Om X pos [] [] []:=λak s Z H Q I h=>pairTrees_nil_walk ⟨[],H,I,.nil,h⟩
theorem zhi(hk:PE X k tk)(hv:PE X v tv)(hr:Om X pos ks vs DN) :
  Om X pos (some k::ks) (v::vs) ((tk,tv)::DN):=λak s Z H Q I h=>
 pairTrees_cons_walk (aU (hk ak s Z H _ I h) λu s1 hx=>fK hx λx H1 I1 rx q1=>aU (hv ak s1 Z H1 _ I1 q1) λw2 s2 hx=>fK hx λy H2 I2 ry q2=>
  aU (hr ak s2 Z H2 _ I2 q2) λws s3 hx=>fK hx λps H3 I3 rel q3=>⟨(x,y)::ps,H3,I3,.cons ⟨rx,ry⟩ rel,q3⟩)
noncomputable def j8(kvs more:List (Key×V)):List (Key×V):=more.foldl (λacc kv=>putK acc kv.1 kv.2) kvs
theorem KV.merge:∀{more:List (Key×V)} {rs:List (Key×Value)} {kvs:List (Key×V)} {vs:List (Key×Value)},KV more rs->KV kvs vs->KV (j8 kvs more) (merged vs rs):=by
 intro more rs kvs vs r;unfold KV at r
 induction r generalizing kvs vs with
 |nil=>intro q;exact q
 |@cons p q ps qs h t ih=>
  intro r0;have e:KV (putK kvs p.1 p.2) (stored vs q.1 q.2):=by
   have:=r0.put p.1 h.2;rw[<-h.1];exact this
  exact ih e
theorem Zq:∀(more kvs:List (Key×V)),(j8 kvs more).length<=kvs.length+more.length
 |[],kvs=>by show kvs.length<=kvs.length+0;lia
 |p::r,kvs=>by
  have h1:=Zq r (putK kvs p.1 p.2);have h2:=zdE kvs p.1 p.2;show (j8 (putK kvs p.1 p.2) r).length<=_;rw[fu];lia
theorem Zr:∀{kvs:List (Key×V)} {ws:List (Value×Value)},VV (kvs.map λkv=>(kV kv.1,kv.2)) ws->∃rs,Carries (cI P w) ws rs/\KV kvs rs
 |[],_,r=>by rw[List.map_nil] at r;cases r;exact⟨[],True.intro,.nil⟩
 |p::kvs,_,r=>by
  rw[lK] at r;cases r with
  |@cons a b as bs h t=>
   obtain⟨rs,c,q⟩:=Zr (P:=P) (w:=w) t;obtain⟨b1,b2⟩:=b;exact⟨(p.1,b2)::rs,⟨znk h.1,rfl,c⟩,.cons ⟨rfl,h.2⟩ q⟩
noncomputable def Ke(DN:List (TE×TE)):TE:=λZ H Q=>∀p,H p=none->pP DN Z (upd H p (.dK [])) λps H2=>H2 p=some (.dK [])/\∃kvs:List (Key×V),ps=kvs.map (λkv=>(kV kv.1,kv.2))/\kvs.length<=15/\Q (.ref p) (upd H2 p (.dK (j8 [] kvs)))
theorem zje(h:Om X pos keys values DN)(uD:keys.all (·.isSome)=true)(hl:keys.length=values.length)(h0:keys≠[])
  (h15:keys.length<=15):PE X (.Dict keys values pos) (Ke DN):=by
 intro ak s Z H Q I q;have hn:=I.hok.fresh (bL s.heap.objs.size);have I1:=I.laid (a:=s.heap.objs.size) (o:=.dK []) (h':=s.heap.push {cls:=.type "dict",data:=.dict #[]}) (t':=s.toks) (λ_ _ q=>cF _ q) (bL _) (zhQ s.heap I.big);refine wpAny_Dict_walk (knd:=cI X.prog X.w) uD hl h0 h15 (aU (h ak _ Z _ _ I1 (q _ hn)) λws s2 hz=>?_);obtain⟨ps,H2,I2,rel,e,kvs,ep,lk,q2⟩:=hz;subst ep;obtain⟨rs,c,rk⟩:=Zr (P:=X.prog) (w:=X.w) rel;obtain⟨z,hd,vs0,r0,dd⟩:=znC I2.hok e;cases r0;refine⟨rs,c,dd,λh' Zu hs=>⟨.ref s.heap.objs.size,_,?_,rfl,q2⟩⟩;have hz:(j8 [] kvs).length<=sizeLine:=by
  have h1:=Zq kvs [];rw[wX] at h1;rw[sZ];lia
 have he:∃q,h'.get? s.heap.objs.size=some q:=let ⟨q,_,_,hq,_⟩:=Zu;⟨q,hq⟩;exact zjX I2 (by rw[e];exact True.intro) hs he (zlA hz hd (rk.merge .nil) Zu)
end L2
namespace Mi
open PySem PySem.Spec PyProof.Rows L2
section
variable {X:Cx}{cA:Cl}{ao:Nat->Nat->Bool}{aj:Bool}{F:Fn}{EX:XS}{a b c d e o:Expr}{A B C Dd E' O:E}{pos pp p2 apos cpos:Pos}{es:List Expr}{Xs:Es}{fz:Bool}{p:Pr}{x:Str}{U:Ph}{H:Hp}{s:S}{lo hi:Option Expr}{Lo Hi:Eo}
def Kf(X:Cx)(cA:Cl)(ao:Nat->Nat->Bool)(aj:Bool)(F:Fn)(EX:XS)(oe:Option Expr)(m:Eo):Prop:=
 PO X oe (λZ H Q=>∃U J s,aR X.K cA U H Z J/\aG X.K cA U H s/\Run X.K cA (yj ao aj F m J) U H s (λi _ U' H'=>Q i H') (eX X.K cA EX Z))
theorem PO.weak{oe:Option Expr}{t t':TO}(h:PO X oe t)(f:∀Z H Q,t' Z H Q->t Z H Q):PO X oe t':=by
 intro ak s Z H Q I q;exact h ak s Z H Q I (f Z H Q q)
theorem zmR:Kf X cA ao aj F EX none .no:=PO.weak zjH λZ H Q hh=>un hh λU J s hL hS h=>h.bU hS
theorem zmg(ha:SE X cA ao aj F EX a A):Kf X cA ao aj F EX (some a) (.yes A):=PO.weak (zkn ha) λZ H Q hh=>un hh λU J s hL hS h=>by
 refine bG hL hS h λx H1 U1 d1 s1 x1 hL1 aL r1 h1=>?_;obtain⟨i,_,e,h3⟩:=J_ r1 h1;exact⟨i,e,h3.bU aL⟩
theorem Kg{β:Type}{Z:L2.St}{J:Vs}{m:Eo}{k:Option Int->M β}{P:β->S->Ph->Hp->Prop}(hL:aR X.K cA U H Z J)(hS:aG X.K cA U H s)(h:Run X.K cA (M.bd (yj ao aj F m J) k) U H s P (eX X.K cA EX Z)){Q:Option Int->Hp->Prop}
  (f:∀i H1 U1 s1,Ext U H U1 H1->aR X.K cA U1 H1 Z J->aG X.K cA U1 H1 s1->Run X.K cA (k i) U1 H1 s1 P (eX X.K cA EX Z)->Q i H1) :
  ∃U J s,aR X.K cA U H Z J/\aG X.K cA U H s/\Run X.K cA (yj ao aj F m J) U H s (λi _ U' H'=>Q i H') (eX X.K cA EX Z):=
 ⟨U,J,s,hL,hS,h.bd.imp λi s1 U1 H1 ⟨x1,r1,h1⟩=>f i H1 U1 s1 x1 (hL.mono x1 hS.lz) r1 h1⟩
theorem znR(ha:SE X cA ao aj F EX a A)(hl:Kf X cA ao aj F EX lo Lo)(hh:Kf X cA ao aj F EX hi Hi):SE X cA ao aj F EX (.Subscript a (.Slice lo hi none p2) pos) (.sl fz A Lo Hi):=PE.weak (zhp zmy ha hl hh) λZ H Q hh=>un hh λU J s hL hS h=>by
 refine bG hL hS h λx H1 U1 d1 s1 x1 hL1 aL r1 h1=>Kg hL1 aL h1 λl H2 U2 s2 x2 hL2 hS2 h2=>Kg hL2 hS2 h2 λu H3 U3 s3 x3 ou fW h3=>?_;obtain⟨dd,rv,h4⟩:=Oi fW ((r1.mono x2 aL.lz).mono x3 hS2.lz) h3;exact zkb fW.zs rv (oK fW h4)
theorem Zv:∀bs:List Bool,(List.range bs.length).all (λi=>(bs[i]?).getD false)=bs.all id
 |[]=>rfl
 |b::r=>by
  rw[fu,Qn,vU,List.all_map,vU];have:=Zv r;simp only[Function.comp_def,G_,List.getElem?_cons_zero,Option.getD_some,id];rw[this]
theorem zfM(hc:X.aj=true):cT X (.builtin "all") (λxs H Q=>∃(p:Addr) (bs:List Bool),xs=[.ref p]/\cY X.K H p (bs.map V.bl)/\Q (.bl (bs.all id)) H):=by
 rintro ak s Z H xs us Q I r ⟨p,bs,e,hp,q⟩;subst e;obtain⟨u,rfl,ru⟩:=Vals.one r;cases (show u=Value.ref p from ru);obtain⟨its,rv,pl,hz⟩:=I.list hp;have hl:s.heap.IsList p its.toArray:=pl.isList;have hpn:p≠s.heap.objs.size:=by
  obtain⟨o,hg,_⟩:=hl;exact cR (bC hg)
 refine call_all_walk (MF hl ?_);refine⟨_,_,_,_,_,_,λi=>(bs[i]?).getD false,rfl,Walks.list (A:=X.A.in1) (I.ok.hd hc) _ p hpn its.toArray,⟨⟨_,fj _ rfl,rfl,rfl⟩,hl.push _⟩,?_,λh' tk hk=>?_⟩
 ·intro i v s' Q' E' hP hQ;have hi:its[i]?=some v:=by simpa using hP
  have hb:∃b,bs[i]?=some b:=by
   have bW:i<its.length:=(gw.mp hi).1;have z:=rv.length;rw[aW] at z;exact⟨_,dj gV⟩
  obtain⟨b,hb⟩:=hb;obtain⟨u,e1,e2⟩:=rv.get (i:=i) (x:=V.bl b) (by rw[gK,hb];rfl);rw[hi] at e1;cases e1;cases (show v=Value.bool b from e2);have hQ:Q' ((bs[i]?).getD false) s':=hQ;rw[hb] at hQ;exact wQ hQ
 ·have ez:(List.range its.toArray.size).all (λi=>(bs[i]?).getD false)=bs.all id:=by
   have z:=rv.length;rw[aW] at z;rw[dH,<-z];exact Zv bs
  rw[ez];refine⟨.bl (bs.all id),H,I.kept (h':=h') (t':=tk) (old_kept hk),rfl,q⟩
theorem zmD{K:W.Frag}:bw K cA .all (λxs H Q=>∃(p:Addr) (bs:List Bool),xs=[.ref p]/\cY K H p (bs.map V.bl)/\Q (.bl (bs.all id)) H):=by
 intro U H ds vs Q zt rs o;have o:aY K cA U H (Dr ds) Q:=o;unfold Dr at o;split at o
 ·obtain⟨v,rfl,⟨ad,us,rfl,l,q⟩⟩:=rs.one;obtain⟨z,e⟩:=o.some';obtain⟨bs,e1,e2⟩:=jk.mp e;subst e2;exact⟨ad,bs,rfl,by rw[<-Zn e1 q];exact l,(o.of e).here (.bl _)⟩
 ·exact o.elim
def Zw(K:W.Frag)(cA:Cl)(p:Pr)(r:V->List V->Hp->VK->Prop):Prop:=bw K cA p (λvs H Q=>∃x xs,vs=x::xs/\r x xs H Q)
noncomputable def kdT:Kd->String
 |.list=>"list"
 |.str=>"str"
 |_=>"dict"
theorem zjb{K:W.Frag}{k:Kd}{dd:D}{v:V}(h:mX k dd=true)(r:Rv K cA U H dd v):Ro K (kdT k) v H:=by
 cases k<;>cases dd<;>first
  |(cases h;done)
  |(obtain⟨a,vs,rfl,l,_⟩:=r;exact .inl ⟨rfl,vs,l⟩)
  |(rw[r.str];exact rfl)
  |(cases (show Rep K cA U H (.fd _ _) v from r) with|@fd _ _ _ q n=>exact .inr (.inr (.inl ⟨rfl,.inl ⟨_,q⟩⟩)))
theorem zjI{k:Kd}{id:String}{name:Str}{r:V->List V->Hp->VK->Prop}(pa:PlainAttrs (kdT k))(slot:Slot (kdT k) name id)(Rq:typeOf (.builtin id)=pure (.type "method_descriptor"))(hm:Rm X id r)(hr:Zw X.K cA p r)
  (ho:SE X cA ao aj F EX o O) (ha:SA X cA ao aj F EX (e::es) Xs)
  (iG:attributeBase o name X.env (eval o X.env)=eval o X.env:=by rfl)
  (pD:((backTo cpos (starEach (e::es) X.env)).all (λx=>!x.1)&&(backToKw cpos (keywordEach [] X.env)).all (λx=>x.1.isSome)
  &&decide ((e::es).length+([]:List Keyword).length+(if ([]:List Keyword).isEmpty then 0 else 1)<30))=true:=by rfl)
  (iH:(apos.endLine==cpos.line)=true:=by rfl) (hs:starEach (e::es) X.env=(false,eval e X.env)::starEach es X.env:=by rfl) (fM:(backTo cpos (starEach es X.env)).any (·.1)=false:=by rfl) :
  SE X cA ao aj F EX (.Call (.Attribute o name apos) (e::es) [] cpos) (.meth fz p k O Xs):=PE.weak (Yv pa slot Rq hm ho ha iG pD iH hs fM) λZ H Q hh=>un hh λU J s hL hS h=>by
 refine bG hL hS h λx H1 U1 d1 s1 x1 hL1 aL r1 h1=>?_;obtain⟨dd,rv,h2⟩:=Oi aL r1 h1;by_cases hk:mX k dd=true
 ·rw[if_pos hk] at h2;refine⟨zjb hk rv,oh hL1 aL h2 λys H2 U2 ds s2 x2 hL2 hS2 r2 h3=>?_⟩;obtain⟨ds,rs,h4⟩:=pO hS2 (.cons (r1.mono x2 aL.lz) r2) h3;obtain⟨_,_,e,q⟩:=hr U2 H2 ds _ _ hS2.zs rs (oK hS2 h4);cases e;exact q
 ·rw[if_neg hk] at h2;exact h2.elim
noncomputable def Oo:Kd->String->Bool
 |.int,"int"=>true
 |.int,"bool"=>true
 |.bool,"bool"=>true
 |.str,"str"=>true
 |.tuple,"tuple"=>true
 |.list,"list"=>true
 |.dict,"dict"=>true
 |_,_=>false
noncomputable def u9:Kd->Option Value
 |.int=>some (.type "int")
 |.bool=>some (.type "bool")
 |.str=>some (.type "str")
 |.tuple=>some (.type "tuple")
 |.list=>some (.type "list")
 |.dict=>some (.type "dict")
 |_=>none
theorem zl7{K:W.Frag}{k:Kd}{cu:Value}(h:u9 k=some cu){T:String}(hT:T∈["NoneType","bool","int","str","tuple","list","dict"]):PySem.W.kitOne K (.type T) cu=some (Oo k T):=by
 simp only[bZ,List.mem_nil_iff,qm] at hT;cases k<;>simp only[u9] at h<;>cases h<;>rcases hT with rfl|rfl|rfl|rfl|rfl|rfl|rfl<;>rfl
structure Kh(K:W.Frag)(cA:Cl)(ao:Nat->Nat->Bool):Prop where
 xc:∀c,XC K (cA.a c)
 ao:∀c e,PySem.W.kitOne K (.ref (cA.a c)) (.ref (cA.a e))=some (ao c e)
 rM:∀c,PySem.W.kitOne K (.ref (cA.a c)) (.type "ValueError")=some true
noncomputable def Gs(cA:Cl):Kd->V
 |.cls e=>.ref (cA.a e)
 |.rM=>.ty "ValueError"
 |.int=>.ty "int"
 |.bool=>.ty "bool"
 |.str=>.ty "str"
 |.tuple=>.ty "tuple"
 |.list=>.ty "list"
 |.dict=>.ty "dict"
theorem zhu(Cs:u9 k=none->Kh X.K cA ao) :
  cT X (.builtin "isinstance") (λxs H Q=>∃U d v bb,xs=[v,Gs cA k]/\Rv X.K cA U H d v/\lW ao d k=some bb/\Q (.bl bb) H):=by
 rintro ak sh Z H xs us Q I r ⟨U,d,v,bb,e,rd,hi,q⟩;subst e;obtain⟨u,w,rfl,ru,Tt⟩:=Vals.two r;have u_:∀tk,EP X ak Z Q (.bool bb) {sh with toks:=tk}:=λtk=>⟨.bl bb,H,I.tok tk,rfl,q⟩;have bt:∀{T:String} {Hh:Heap->Prop},PySem.W.KitX X.K u (.type T) Hh->Hh sh.heap->T∈["NoneType","bool","int","str","tuple","list","dict"]->u≠Value.builtin "__main__.__loader__#opaque"->(∃cu,u9 k=some cu/\w=cu/\Oo k T=bb)->wpAny (model X.prog X.w) X.A (PySem.call (.builtin "isinstance") [u,w]) (EP X ak Z Q) X.xe sh:=λ{T Hh} zzZ hh hT hx ⟨cu,h1,h2,h3⟩=>by
  subst h2 h3;exact PySem.W.kia_one zzZ I.xG hh (zl7 h1 hT) hx u_
 have wv:∀cu,u9 k=some cu->w=cu:=λcu h=>by
  cases k<;>simp only[u9] at h<;>cases h<;>exact Tt
 have fin:∀T,lW ao d k=(match u9 k with|some _=>some (Oo k T)|none=>none)->∃cu,u9 k=some cu/\w=cu/\Oo k T=bb:=λT h=>by
  rw[hi] at h;cases z:u9 k with
  |none=>rw[z] at h;cases h
  |some cu=>rw[z] at h;cases h;exact⟨cu,rfl,wv cu z,rfl⟩
 cases d with
 |non=>
  cases (show Rep X.K cA U H .non v from rd);cases (show u=Value.none from ru);exact bt PySem.W.kitx_none trivial J0 (λz=>nomatch z) (fin "NoneType" (by cases k<;>rfl))
 |bl b=>
  cases rd.bl;cases (show u=Value.bool b from ru);exact bt PySem.W.kitx_bool trivial J0 (λz=>nomatch z) (fin "bool" (by cases k<;>rfl))
 |int i=>
  cases rd.int;obtain⟨t,z⟩:=(show ∃t,u=Value.int i t from ru);cases z;exact bt PySem.W.kitx_int trivial J0 (λz=>nomatch z) (fin "int" (by cases k<;>rfl))
 |str y=>
  cases rd.str;obtain⟨t,z⟩:=(show ∃t,u=Value.str y t from ru);cases z;exact bt PySem.W.kitx_str trivial J0 (λz=>nomatch z) (fin "str" (by cases k<;>rfl))
 |tup xs=>
  obtain⟨ad,vs,rfl,h1,h2⟩:=rd.tup;cases (show u=Value.ref ad from ru);obtain⟨its,_,ht,_⟩:=I.tuple h1.jr;obtain⟨o,q1,q2,_⟩:=ht;exact bt PySem.W.kitx_tuple ⟨o,q1,q2⟩ J0 (λz=>nomatch z) (fin "tuple" (by cases k<;>rfl))
 |fl xs=>
  obtain⟨ad,vs,rfl,h1,h2⟩:=rd;cases (show u=Value.ref ad from ru);obtain⟨its,_,ht,_⟩:=I.list h1;obtain⟨o,q1,q2,_⟩:=ht.isList;exact bt PySem.W.kitx_list ⟨o,q1,q2⟩ J0 (λz=>nomatch z) (fin "list" (by cases k<;>rfl))
 |fd ks vs=>
  cases (show Rep X.K cA U H (.fd ks vs) v from rd) with
  |@fd ad kk ii q1 n=>
   cases (show u=Value.ref ad from ru);obtain⟨_,_,vs,_,o,es',ep,g1,g2,_⟩:=(show aV X.prog X.w H sh.heap ad (.dK [(.inr kk,.int ii)]) from I.hok ad _ q1);exact bt PySem.W.kitx_dict ⟨o,g1,g2.1⟩ J0 (λz=>nomatch z) (fin "dict" (by cases k<;>rfl))
 |ob c fs=>cases k<;>cases hi
 |any=>cases k<;>cases hi
 |exc c fs=>
  cases (show Rep X.K cA U H (.exc c fs) v from rd) with
  |@exc ad _ _ vs hx rs=>
   cases (show u=Value.ref ad from ru);have hI:∃ox od,PySem.W.InstAt sh.heap ad ox (cA.a c) od:=by
    obtain⟨_,⟨_,_,hx⟩|⟨dx,hx,_,hd,_⟩⟩:=hx
    ·obtain⟨⟨oe,vs,g1,g2,g3,g4⟩,_⟩:=(show aV X.prog X.w H sh.heap ad (xY ad (cA.a c) none) from I.hok ad _ hx);exact⟨oe,none,g1,g2,by unfold PySem.W.notCls;rw[g4],by rw[g3];trivial⟩
    ·obtain⟨⟨oe,vs,g1,g2,g3,g4⟩,_⟩:=(show aV X.prog X.w H sh.heap ad (xY ad (cA.a c) (some dx)) from I.hok ad _ hx);obtain⟨mA,⟨od,es,ep,e1,c1⟩,_⟩:=(show aV X.prog X.w H sh.heap dx (.xd _) from I.hok dx _ hd);exact⟨oe,some od,g1,g2,by unfold PySem.W.notCls;rw[g4],by rw[g3];exact e1⟩
   cases k with
   |cls e=>
    cases (show w=Value.ref (cA.a e) from Tt);have z:some (ao c e)=some bb:=hi;cases z;exact PySem.W.kia_one (YF ((Cs rfl).xc c)) I.xG hI ((Cs rfl).ao c e) (λz=>nomatch z) u_
   |rM=>
    cases (show w=Value.type "ValueError" from Tt);have z:some true=some bb:=hi;cases z;exact PySem.W.kia_one (YF ((Cs rfl).xc c)) I.xG hI ((Cs rfl).rM c) (λz=>nomatch z) u_
   |_=>cases hi
theorem zk9(Cs:u9 k=none->Kh X.K cA ao)(hg:Gl X "isinstance")(hm:X.mg "isinstance"=none)(ha:SE X cA ao aj F EX a A)(hk:PE X kx (tC (Gs cA k)))(h1:starEach [a,kx] X.env=(false,eval a X.env)::starEach [kx] X.env:=by rfl)(h2:starEach [kx] X.env=(false,eval kx X.env)::starEach [] X.env:=by rfl)
  (bR:(backTo pos (starEach [kx] X.env)).any (·.1)=false:=by rfl):SE X cA ao aj F EX (.Call (.Name "isinstance" pp) [a,kx] [] pos) (.jU A k):=PE.weak (Yo (zhu (cA:=cA) (k:=k) Cs) hg hm PyProof.Rows.boot_isinstance (v7 ha (v7 hk CK h2) h1) Dc Dc h1 bR) λZ H Q hh=>un hh λU J s hL hS h=>
 bG hL hS h λv H1 U1 d s1 x1 hL1 aL r1 h1=>by
  show ∃U d' v' bb,[v,Gs cA k]=[v',Gs cA k]/\_;obtain⟨dd,rv,h2⟩:=Oi aL r1 h1;obtain⟨bb,e,h3⟩:=Oh h2;exact⟨U1,dd,v,bb,rfl,rv,e,h3.bU aL _ (.d (.bl bb))⟩
theorem zjA{j p1 j2 p3}:SE X cA ao aj F EX (.Dict [some (.Constant (.str k) j p1)] [.Constant (.int i) j2 p3] pos) (.uR k i):=PE.weak (zje (zhi X5 Nt zjR) rfl rfl J0 (Hg rfl)) λZ H Q hh=>un hh λU J s hL hS h=>by
 intro p hp;refine⟨jO,[(.inr k,.int i)],rfl,Hg rfl,?_⟩;rw[Qz];exact h U _ (bf.new hp).ext (hS.grow (bf.new hp)) _ (.d (.fd jO (hS.nz hp)))
end
section
variable {K:W.Frag}{cA:Cl}{U U':Ph}{H H':Hp}{s:S}
theorem TupAt.kY(e:∀a,U'.z a->U.z a){a:Addr}{vs:List V}(h:TupAt K U H a vs):TupAt K U' H a vs:=h.imp (λ⟨p,n⟩=>⟨p,λz=>n (e a z)⟩) id
theorem LstAt.kY(e:∀a,U'.z a->U.z a){a:Addr}{vs:List V}(h:LstAt K U H a vs):LstAt K U' H a vs:=h.imp (λ⟨p,n⟩=>⟨p,λz=>n (e a z)⟩) id
theorem ExcAt.kY(e:∀a,U'.z a->U.z a){a:Addr}{c:Nat}{vs:List V}(h:ExcAt cA U H a c vs):ExcAt cA U' H a c vs:=
 ⟨λz=>h.1 (e a z),h.2.imp id λ⟨dx,p,n,q,l⟩=>⟨dx,p,λz=>n (e dx z),q,l⟩⟩
theorem pN.kY(e:∀a,U'.z a->U.z a){a:Addr}{c:Nat}{vs:List V}(h:pN cA U H a c vs):pN cA U' H a c vs:=⟨λz=>h.1 (e a z),h.2⟩
theorem Rep.kY(e:∀a,U'.z a->U.z a){d:D}{v:V}(h:Rep K cA U H d v):Rep K cA U' H d v:=
 Rep.rec (motive_1:=λd v _=>Rep K cA U' H d v) (motive_2:=λd v _=>aB K cA U' H d v) .non .bl .int .str (λh _ i=>.tup (h.kY e) i) (λh _ i=>.fl (h.kY e) i) (λh n=>.fd h (λz=>n (e _ z))) (λh _ i=>.exc (h.kY e) i) (λh _ i=>.ob (h.kY e) i) .any .nil (λ_ _ i j=>.cons i j) h
theorem aB.kY(e:∀a,U'.z a->U.z a){d:List D}{v:List V}(h:aB K cA U H d v):aB K cA U' H d v:=
 aB.rec (motive_1:=λd v _=>Rep K cA U' H d v) (motive_2:=λd v _=>aB K cA U' H d v) .non .bl .int .str (λh _ i=>.tup (h.kY e) i) (λh _ i=>.fl (h.kY e) i) (λh n=>.fd h (λz=>n (e _ z))) (λh _ i=>.exc (h.kY e) i) (λh _ i=>.ob (h.kY e) i) .any .nil (λ_ _ i j=>.cons i j) h
theorem kW.kY(e:∀a,U'.z a->U.z a){a:Addr}{o:SO}(h:kW K cA U H a o):kW K cA U' H a o:=h.map (λ_ q=>q) λ_ _ r=>r.kY e
theorem Rep.zl{d:D}{v:V}(h:Rep K cA U H d v)(l:List Addr):Rep K cA ⟨U.z,l⟩ H d v:=Rep.kY (U:=U) (U':=⟨U.z,l⟩) (λ_ z=>z) h
theorem aB.zl{d:List D}{v:List V}(h:aB K cA U H d v)(l:List Addr):aB K cA ⟨U.z,l⟩ H d v:=aB.kY (U:=U) (U':=⟨U.z,l⟩) (λ_ z=>z) h
theorem kW.zl{a:Addr}{o:SO}(h:kW K cA U H a o)(l:List Addr):kW K cA ⟨U.z,l⟩ H a o:=kW.kY (U:=U) (U':=⟨U.z,l⟩) (λ_ z=>z) h
noncomputable def adr(l:List Addr):List Nat->List Addr
 |[]=>[]
 |n::r=>match l[n]? with
  |some a=>a::adr l r
  |none=>adr l r
theorem Gu{l:List Addr}:∀{ns:List Nat} {a:Addr},a∈adr l ns->∃n∈ns,l[n]?=some a
 |[],a,h=>by cases h
 |n::r,a,h=>by
  unfold adr at h;cases e:l[n]? with
  |none=>
   simp only[e] at h;obtain⟨m,h1,h2⟩:=Gu h;exact⟨m,eF _ h1,h2⟩
  |some b=>
   simp only[e] at h;rcases bZ.mp h with rfl|h
   ·exact⟨n,gA,e⟩
   ·obtain⟨m,h1,h2⟩:=Gu h;exact⟨m,eF _ h1,h2⟩
theorem Zx{s:S}:∀{ns:List Nat} {s0:S} {i n:Nat},jg s ns=some s0->ns[i]?=some n->s0[i]?=s[n]?/\∃o,s[n]?=some o
 |[],s0,i,n,h,e=>by simp at e
 |m::r,s0,i,n,h,e=>by
  unfold jg at h;cases e1:s[m]? with
  |none=>simp only[e1] at h;cases h
  |some o=>
   cases e2:jg s r with
   |none=>simp only[e1,e2] at h;cases h
   |some q=>
    simp only[e1,e2] at h;cases h;cases i with
    |zero=>simp at e;subst e;exact⟨by simp[e1],o,e1⟩
    |succ i=>simpa using Zx e2 (by simpa using e)
theorem Zy{s:S}:∀{ns:List Nat} {s0:S},jg s ns=some s0->s0.length=ns.length
 |[],s0,h=>by cases h;rfl
 |m::r,s0,h=>by
  unfold jg at h;cases e1:s[m]? with
  |none=>simp only[e1] at h;cases h
  |some o=>
   cases e2:jg s r with
   |none=>simp only[e1,e2] at h;cases h
   |some q=>
    simp only[e1,e2] at h;cases h;rw[fu,fu,Zy e2]
theorem Kl{l:List Addr}:∀{ns:List Nat} {i n:Nat},(∀n∈ns,∃a,l[n]?=some a)->ns[i]?=some n->(adr l ns)[i]?=l[n]?
 |[],i,n,_,e=>by simp at e
 |m::r,i,n,h,e=>by
  obtain⟨a,ha⟩:=h m gA;unfold adr;simp only[ha];cases i with
  |zero=>simp at e;subst e;simp[ha]
  |succ i=>simpa using Kl (λn hn=>h n (eF _ hn)) (by simpa using e)
theorem Km{l:List Addr}:∀{ns:List Nat},(∀n∈ns,∃a,l[n]?=some a)->(adr l ns).length=ns.length
 |[],_=>rfl
 |m::r,h=>by
  obtain⟨a,ha⟩:=h m gA;unfold adr;simp only[ha];rw[fu,fu,Km (λn hn=>h n (eF _ hn))]
theorem Zz{l:List Addr}(hl:l.Nodup):∀{ns:List Nat},ns.Nodup->(∀n∈ns,∃a,l[n]?=some a)->(adr l ns).Nodup
 |[],_,_=>zF
 |m::r,hn,h=>by
  obtain⟨a,ha⟩:=h m gA;unfold adr;simp only[ha];obtain⟨h1,h2⟩:=pq.mp hn;refine pq.mpr ⟨λz=>?_,Zz hl h2 (λn hn=>h n (eF _ hn))⟩;obtain⟨n,q1,q2⟩:=Gu z;have:m=n:=(Qu (gw.mp ha).1 hl).mp (ha.trans q2.symm);exact h1 (this▸q1)
theorem Gv{s:S}:∀{ns:List Nat} {s1:S},(cV s ns s1).length=s.length
 |[],s1=>by cases s1<;>rfl
 |n::r,[]=>rfl
 |n::r,o::q=>by
  show (cV (s.set n o) r q).length=_;rw[Gv,vQ]
theorem Tv{s:S}:∀{ns:List Nat} {s1:S} {m:Nat},m∉ns->(cV s ns s1)[m]?=s[m]?
 |[],s1,m,_=>by cases s1<;>rfl
 |n::r,[],m,_=>rfl
 |n::r,o::q,m,h=>by
  show (cV (s.set n o) r q)[m]?=_;rw[Tv (λz=>h (eF _ z)),tZ (λz=>h (by rw[z];exact gA))]
theorem ZC{s:S}:∀{ns:List Nat} {s1:S} {i m:Nat} {o:SO},ns.Nodup->ns[i]?=some m->s1[i]?=some o->m<s.length->(cV s ns s1)[m]?=some o
 |[],s1,i,m,o,_,e,_,_=>by simp at e
 |n::r,[],i,m,o,_,_,e,_=>by simp at e
 |n::r,q::qs,i,m,o,hn,e1,e2,hm=>by
  show (cV (s.set n q) r qs)[m]?=_;obtain⟨h1,h2⟩:=pq.mp hn;cases i with
  |zero=>
   simp at e1 e2;subst e1 e2;rw[Tv h1,Fy hm]
  |succ i=>exact ZC h2 (by simpa using e1) (by simpa using e2) (by rw[vQ];exact hm)
theorem zfF:∀{xs:List Xv} {vs:List V} (l0:List Addr) (z:Addr->Prop) (k:Nat),cj K cA U H xs vs->U.z=z->(∀i n,(locs xs)[i]?=some n->l0[k+i]?=U.l[n]?)->cj K cA ⟨z,l0⟩ H (dB k xs) vs
 :=by
 intro xs vs l0 z k r0
 induction r0 generalizing k with
 |nil=>exact λ_ _=>.nil
 |@cons x v xs vs a q ih=>
  intro ez h;cases a with
  |d a=>exact .cons (.d (a.kY λb hb=>by rw[ez];exact hb)) (ih k ez h)
  |@l n a' a=>
   refine .cons (.l ?_) (ih (k+1) ez λi m e=>?_)
   ·have:=h 0 n rfl;rw[Nat.add_zero] at this;show l0[k]?=_;rw[this];exact a
   ·have:=h (i+1) m (by simpa [locs] using e);rw[<-this]
    congr 1
    lia
theorem zfk:∀{xs:List Xv} {vs:List V},cj K cA U H xs vs->∀n∈locs xs,∃a,U.l[n]?=some a
 :=by
 intro xs vs r0
 induction r0 with
 |nil=>exact λn h=>by cases h
 |cons a q ih=>
  intro n h;cases a with
  |d a=>exact ih n h
  |l a=>
   rcases bZ.mp h with rfl|h
   ·exact⟨_,a⟩
   ·exact ih n h
theorem ZD{xs:List Xv}{U1:Ph}{s0 s1:S}(hS:aG K cA U H s)(hn:(locs xs).Nodup)(ht:∀n∈locs xs,∃a,U.l[n]?=some a)(x:Ext ⟨U.z,adr U.l (locs xs)⟩ H U1 H')(r1:aG K cA U1 H' s1) :
  Ext U H ⟨U1.z,U.l⟩ H'/\aG K cA ⟨U1.z,U.l⟩ H' (cV s (locs xs) s1):=by
 have ao:∀a∈adr U.l (locs xs),a∈U.l:=λa ha=>by obtain⟨n,_,q⟩:=Gu ha;exact iQ q
 obtain⟨r,er,hr⟩:=x.more;have er:U1.l=adr U.l (locs xs)++r:=er;refine⟨⟨⟨[],by simp,by simp⟩,λa h=>x.uZ a h,λa h=>x.m6 a h,λa o h n=>x.frame a o h λz=>n (ao a z),x.stay⟩,?_⟩;refine⟨by rw[Gv];exact hS.len,λn o a e1 e2=>?_,hS.uniq,λa ha=>x.uZ a (hS.lz a ha),r1.zt⟩;have e2:U.l[n]?=some a:=e2;by_cases cG:n∈locs xs
 ·obtain⟨i,hi,ei⟩:=wO cG;have ei:(locs xs)[i]?=some n:=by rw[dj hi,ei]
  have ha:(adr U.l (locs xs))[i]?=some a:=by rw[Kl ht ei];exact e2
  have ZF:U1.l[i]?=some a:=by rw[er,oX (gw.mp ha).1];exact ha
  have bW:i<s1.length:=by rw[<-r1.len];exact(gw.mp ZF).1
  have hb:=ZC (s:=s) (s1:=s1) hn ei (dj bW) (by rw[<-hS.len];exact(gw.mp e2).1);rw[hb] at e1;cases e1;exact kW.zl (r1.obj i _ a (dj bW) ZF) _
 ·rw[Tv cG] at e1;have Tw:a∉adr U.l (locs xs):=λz=>by
   obtain⟨m,q1,q2⟩:=Gu z;have:n=m:=(Qu (gw.mp e2).1 hS.uniq).mp (e2.trans q2.symm);exact cG (this▸q1)
  exact(hS.obj n o a e1 e2).map (λ_ q=>x.frame a _ q Tw) λ_ _ r=>Rep.zl ((Rep.zl r _).mono x λa ha=>hS.lz a (ao a ha)) _
theorem zih{F:List Xv->M Xv}{xs:List Xv}{vs:List V}{Q:VK}{EE:Nat->List D->Ph->Hp->Prop}(hS:aG K cA U H s)(r:cj K cA U H xs vs)
  (hE:∀c fs U1 U2 H',U1.z=U2.z->EE c fs U1 H'->EE c fs U2 H')
  (h:Run K cA (bT F xs) U H s (λx _ U' H'=>∀v,aQ K cA U' H' x v->Q v H') (λc fs _ U' H'=>EE c fs U' H')) :
  ∃U0 s0,cj K cA U0 H (dB 0 xs) vs/\aG K cA U0 H s0/\Run K cA (F (dB 0 xs)) U0 H s0 (λx _ U' H'=>∀v,aQ K cA U' H' x v->Q v H') (λc fs _ U' H'=>EE c fs U' H'):=by
 unfold Run bT at h;by_cases hn:(locs xs).Nodup
 ·simp only[if_pos hn] at h;have ht:=zfk r;have ao:∀a∈adr U.l (locs xs),a∈U.l:=λa ha=>by obtain⟨n,_,q⟩:=Gu ha;exact iQ q
  cases e0:jg s (locs xs) with
  |none=>simp only[e0] at h
  |some s0=>
   simp only[e0] at h;refine⟨⟨U.z,adr U.l (locs xs)⟩,s0,zfF _ _ 0 r rfl (λi n e=>by rw[Nat.zero_add];exact Kl ht e),?_,?_⟩
   ·refine⟨by rw[Zy e0];exact Km ht,λi o a e1 e2=>?_,Zz hS.uniq hn ht,λa ha=>hS.lz a (ao a ha),hS.zt⟩;have e2:(adr U.l (locs xs))[i]?=some a:=e2;have hi:i<(locs xs).length:=by rw[<-Km ht];exact(gw.mp e2).1
    have ei:(locs xs)[i]?=some ((locs xs)[i]):=dj hi;rw[Kl ht ei] at e2;rw[(Zx e0 ei).1] at e1;exact kW.zl (hS.obj _ o a e1 e2) _
   ·unfold Run;cases e1:F (dB 0 xs) s0 with
    |none=>simp only[e1] at h
    |some q=>
     obtain⟨q,s1⟩:=q;simp only[e1] at h;cases q with
     |er c fs=>
      intro U1 H' x r1;obtain⟨x2,r2⟩:=ZD (s0:=s0) hS hn ht x r1;exact hE c fs ⟨U1.z,U.l⟩ U1 H' rfl (h ⟨U1.z,U.l⟩ H' x2 r2)
     |ok y=>
      intro U1 H' x r1 v rv;obtain⟨x2,r2⟩:=ZD (s0:=s0) hS hn ht x r1;cases y with
      |d w=>
       cases rv with
       |d rv=>exact h ⟨U1.z,U.l⟩ H' x2 r2 v (.d (Rep.zl rv _))
      |l n=>
       cases rv with
       |@l _ a hl=>
        obtain⟨rr,er,hr⟩:=x.more;have er:U1.l=adr U.l (locs xs)++rr:=er;cases em:(locs xs)[n]? with
        |some m=>
         simp only[em] at h;refine h _ H' x2 r2 _ (.l ?_);show U.l[m]?=some a;have ha:(adr U.l (locs xs))[n]?=U.l[m]?:=Kl ht em;have bW:n<(adr U.l (locs xs)).length:=by rw[Km ht];exact(gw.mp em).1
         rw[er,oX bW] at hl;rw[<-ha];exact hl
        |none=>
         simp only[em] at h;have hge:(adr U.l (locs xs)).length<=n:=by rw[Km ht];exact oH.mp em
         have Od:a∈rr:=by
          rw[er,oW hge] at hl;exact iQ hl
         have Tw:a∉U.l:=λz=>by
          obtain⟨o,eo⟩:=hS.zt a (hS.lz a z);rw[hr a Od] at eo;cases eo
         cases eo:s1[n]? with
         |none=>simp only[eo] at h
         |some o=>
          simp only[eo] at h;have ho:=r1.obj n o a eo hl;refine h ⟨U1.z,U.l++[a]⟩ H' ⟨⟨[a],rfl,by simpa using hr a Od⟩,x2.uZ,x2.m6,x2.frame,x2.stay⟩ ?_ _ (.l (by show (U.l++[a])[s.length]?=_;rw[<-hS.len];simp));refine⟨by show (U.l++[a]).length=_;rw[h_,h_,Gv,hS.len];rfl,λm o' a' e1 e2=>?_,?_,λb hb=>?_,r1.zt⟩
          ·have e2:(U.l++[a])[m]?=some a':=e2;by_cases hm:m<s.length
           ·rw[oX (by rw[Gv];exact hm)] at e1;rw[oX (by rw[hS.len];exact hm)] at e2;exact kW.zl (r2.obj m o' a' e1 e2) _
           ·have vd:m=s.length:=by
             have z:=(gw.mp e2).1;rw[h_,hS.len] at z;simp at z
             lia
            subst vd;rw[oW (by rw[Gv];exact bL _)] at e1;rw[oW (by rw[hS.len];exact bL _)] at e2;simp[Gv] at e1;simp[hS.len] at e2;subst e1 e2;exact kW.zl ho _
          ·show (U.l++[a]).Nodup;rw[Hu];refine⟨hS.uniq,by simp,λb hb c hc e=>?_⟩;simp at hc;subst hc e;exact Tw hb
          ·have hb:b∈U.l++[a]:=hb;rcases eU.mp hb with z|z
           ·exact x2.uZ b (hS.lz b z)
           ·simp at z;subst z;exact r1.lz _ (iQ hl)
 ·simp only[if_neg hn] at h
end
section
variable {X:Cx}{cA:Cl}{ao:Nat->Nat->Bool}{aj:Bool}{F:Fn}{EX:XS}{a b c d e o:Expr}{A B C Dd E' O:E}{pos pp p2 apos cpos:Pos}{es:List Expr}{Xs:Es}{fz:Bool}{p:Pr}{x:Str}{U:Ph}{H:Hp}{s:S}
theorem Tz{K:W.Frag}{β:Type}{x:Xv}{v:V}{k:Nat×List D->M β}{P:β->S->Ph->Hp->Prop}{Ee:Nat->List D->S->Ph->Hp->Prop}(hS:aG K cA U H s)(r:aQ K cA U H x v)(h:Run K cA (M.bd (cD x) k) U H s P Ee) :
  ∃n ad xs vs,x=.l n/\v=.ref ad/\s[n]?=some (.lst xs)/\U.l[n]?=some ad/\H ad=some (.lst vs)/\aB K cA U H xs vs/\Run K cA (k (n,xs)) U H s P Ee:=by
 cases r with
 |d _=>exact h.elim
 |@l n ad hl=>
  unfold Run M.bd cD at h;dsimp only at h;cases e:s[n]? with
  |none=>rw[e] at h;exact h.elim
  |some o=>
   rw[e] at h;cases o with
   |lst xs=>
    obtain⟨vs,q1,q2⟩:=hS.obj n _ _ e hl;exact⟨n,ad,xs,vs,rfl,rfl,e,hl,q1,q2,h⟩
   |_=>exact h.elim
theorem zj9(ho:SE X cA ao aj F EX o O)(ha:SE X cA ao aj F EX a A)
  (iG:attributeBase o "append" X.env (eval o X.env)=eval o X.env:=by rfl)
  (pD:((backTo cpos (starEach [a] X.env)).all (λx=>!x.1)&&(backToKw cpos (keywordEach [] X.env)).all (λx=>x.1.isSome)
  &&decide ([a].length+([]:List Keyword).length+(if ([]:List Keyword).isEmpty then 0 else 1)<30))=true:=by rfl)
  (iH:(apos.endLine==cpos.line)=true:=by rfl) (hs:starEach [a] X.env=(false,eval a X.env)::starEach [] X.env:=by rfl) (fM:(backTo cpos (starEach [] X.env)).any (·.1)=false:=by rfl) :
  SE X cA ao aj F EX (.Call (.Attribute o "append" apos) [a] [] cpos) (.push O A):=PE.weak (Yv PySem.F.plainAttrs_list PySem.F.slot_list_append PySem.F.type_list_append Rw ho (v7 ha CK hs) iG pD iH hs fM) λZ H Q hh=>un hh λU J s hL hS h=>by
 refine bG hL hS h λx H1 U1 d1 s1 x1 hL1 aL r1 h1=>?_;obtain⟨n,ad,xs,vs,rfl,rfl,e1,f1,g1,q1,h2⟩:=Tz aL r1 h1;refine⟨.inl ⟨rfl,vs,cY.of g1⟩,bG hL1 aL h2 λy H2 U2 d2 s2 x2 hL2 hS2 r2 h3=>?_⟩;obtain⟨dd,_,rd,h4⟩:=Tf r2 h3;obtain⟨n',ad',ys,us,en,ea,e2,f2,g2,q2,h5⟩:=Tz hS2 (r1.mono x2 aL.lz) h4;cases en;cases ea;by_cases hz:ys.length<sizeLine
 ·have h5:Run X.K cA (M.bd (putL n (ys++[dd])) λ_=>M.ret (Xv.d .non)) U2 H2 s2 (λd _ U' H'=>∀v,aQ X.K cA U' H' d v->Q v H') (eX X.K cA EX Z):=by
   have h6:Run X.K cA (if ys.length<sizeLine then M.bd (putL n (ys++[dd])) λ_=>M.ret (Xv.d .non) else M.no) U2 H2 s2 (λd _ U' H'=>∀v,aQ X.K cA U' H' d v->Q v H') (eX X.K cA EX Z):=h5;rw[if_pos hz] at h6;exact h6
  refine⟨ad,us,y,rfl,rfl,g2,by rw[<-q2.len];exact hz,?_⟩;exact h5 U2 _ (Ext.write f2 ⟨_,g2⟩) (hS2.write e2 f2 (q2.app (.cons rd .nil))) _ (.d .non)
 ·have h6:Run X.K cA (if ys.length<sizeLine then M.bd (putL n (ys++[dd])) λ_=>M.ret (Xv.d .non) else M.no) U2 H2 s2 (λd _ U' H'=>∀v,aQ X.K cA U' H' d v->Q v H') (eX X.K cA EX Z):=h5;rw[if_neg hz] at h6;exact h6.elim
noncomputable def tO(K:W.Frag)(cA:Cl)(m:List Xv->M Xv):Sp:=λvs H Q E=>∃U xs s,cj K cA U H xs vs/\aG K cA U H s/\Run K cA (m xs) U H s (λd _ U' H'=>∀v,aQ K cA U' H' d v->Q v H') (λc fs _ U' H'=>∀dx,jZ K cA U' H' c fs dx->E (.ref (cA.a c)) dx H')
theorem zjf{K:W.Frag}{U1 U2:Ph}{c:Nat}{fs:List D}{dx:Option Addr}(e:U1.z=U2.z)(h:jZ K cA U2 H c fs dx):jZ K cA U1 H c fs dx:=h.imp id λ⟨d,vs,a,b,c,l,r⟩=>⟨d,vs,a,by rw[e];exact b,c,l,r.kY λ_ z=>by rw[<-e];exact z⟩
theorem zjk{cm:Bool}{k f:Nat}{fa:Addr}{fd:FuncData}{ps:List Str}(Fo:fD X.prog X.w X.K X.mg X.base (lA X.prog X.w) cm k fa fd ps (tO X.K cA (F f)))(rG:cm=true->X.aj=true)(hr:cL k X.A)(hg:Gl X x)(hm:X.mg x=some (.ref fa))(hk:PySem.W.keepIn X.K (.ref fa)=true)(hb:Binds X.K fd ps [])(R:Raises X EX)
  (ha:SA X cA ao aj F EX (e::es) Xs) (rH:(x==("__debug__" : Str))=false:=by decide) (he:starEach (e::es) X.env=(false,eval e X.env)::starEach es X.env:=by rfl) (bR:(backTo pos (starEach es X.env)).any (·.1)=false:=by rfl) :
  SE X cA ao aj F EX (.Call (.Name x pp) (e::es) [] pos) (.call f Xs):=PE.weak (zhT Fo rG hr hg hm hk hb R ha rH he bR) λZ H Q hh=>un hh λU J s hL hS h=>
 oh hL hS h λvs H1 U1 ds s1 x1 hL1 aL r1 h1=>by
  obtain⟨U0,s0,a1,a2,a3⟩:=zih (EE:=λc fs U' H'=>∀dx,jZ X.K cA U' H' c fs dx->EX Z (.ref (cA.a c)) dx H') aL r1 (λc fs U1 U2 H' ez z dx q=>z dx (zjf ez q)) h1;exact⟨U0,_,s0,a1,a2,a3⟩
end
section
variable {K:W.Frag}{cA:Cl}{U U':Ph}{H H':Hp}{s:S}
def cM(U:Ph)(H H':Hp):Prop:=∀a o,H a=some o->¬U.z a->H' a=some o
theorem Rep.out(x:cM U H H'){d:D}{v:V}(h:Rep K cA U H d v):Rep K cA U H' d v:=
 Rep.rec (motive_1:=λd v _=>Rep K cA U H' d v) (motive_2:=λd v _=>aB K cA U H' d v) .non .bl .int .str
  (λh _ r=>.tup (h.imp (λz=>⟨z.1.imp (λq=>x _ _ q z.2) λw=>w.elim λo q=>⟨o,x _ _ q z.2⟩,z.2⟩) id) r)
  (λh _ r=>.fl (h.imp (λz=>⟨z.1.imp (λq=>x _ _ q z.2) λw=>w.elim λo q=>⟨o,x _ _ q z.2⟩,z.2⟩) id) r)
  (λh n=>.fd (x _ _ h n) n)
  (λh _ r=>.exc ⟨h.1,h.2.imp (λz=>z.elim λa z=>z.elim λb q=>⟨a,b,x _ _ q h.1⟩) λz=>z.elim λdx z=>⟨dx,x _ _ z.1 h.1,z.2.1,x _ _ z.2.2.1 z.2.1,z.2.2.2⟩⟩ r)
  (λh _ r=>.ob ⟨h.1,h.2.elim λdx z=>⟨dx,x _ _ z.1 h.1,z.2⟩⟩ r) .any .nil (λ_ _ a b=>.cons a b) h
theorem aB.out(x:cM U H H'){ds:List D}{vs:List V}(h:aB K cA U H ds vs):aB K cA U H' ds vs:=
 aB.rec (motive_1:=λ_ _ _=>True) (motive_2:=λd v _=>aB K cA U H' d v) trivial (λ_=>trivial) (λ_=>trivial) (λ_=>trivial) (λ_ _ _=>trivial) (λ_ _ _=>trivial) (λ_ _=>trivial) (λ_ _ _=>trivial) (λ_ _ _=>trivial) (λ_=>trivial) .nil (λh _ _ r=>.cons (h.out x) r) h
theorem aQ.out(x:cM U H H'){d:Xv}{v:V}(h:aQ K cA U H d v):aQ K cA U H' d v:=by
 cases h with
 |d h=>exact .d (h.out x)
 |l h=>exact .l h
theorem aR.out(x:cM U H H')(h:aR K cA U H Z J):aR K cA U H' Z J:=⟨h.1,λi d e=>let ⟨v,a,b⟩:=h.2 i d e;⟨v,a,b.out x⟩⟩
theorem cM.refl:cM U H H:=λa o e _=>e
structure jD(K:W.Frag)(cA:Cl)(c:Src)(U:Ph)(H:Hp)(bI:L2.It):Prop where
 stop:∀U' H₁ H' s' i,Ext U H U' H₁->cM U' H₁ H'->aG K cA U' H' s'->c.at i s'=some none->bI.stop i H'
 go:∀U' H₁ H' s' i x,Ext U H U' H₁->cM U' H₁ H'->aG K cA U' H' s'->c.at i s'=some (some x)->bI.go i H'
 ux:∀U' H₁ H' s' i x v H2,Ext U H U' H₁->cM U' H₁ H'->aG K cA U' H' s'->c.at i s'=some (some x)->bI.ux i H' v H2->bf H' H2/\Rep K cA U' H2 x v
theorem LstAt.later(hz:∀a∈U.l,U.z a)(h:LstAt K U H a vs)(x:Ext U H U' H₁)(o:cM U' H₁ H'):LstAt K U' H' a vs:=
 (h.mono x hz).imp (λ⟨p,n⟩=>⟨p.imp (λq=>o _ _ q n) λ⟨w,q⟩=>⟨w,o _ _ q n⟩,n⟩) id
theorem TupAt.later(hz:∀a∈U.l,U.z a)(h:TupAt K U H a vs)(x:Ext U H U' H₁)(o:cM U' H₁ H'):TupAt K U' H' a vs:=
 (h.mono x hz).imp (λ⟨p,n⟩=>⟨p.imp (λq=>o _ _ q n) λ⟨w,q⟩=>⟨w,o _ _ q n⟩,n⟩) id
theorem jD.list(hz:∀a∈U.l,U.z a)(h:LstAt K U H a vs)(r:aB K cA U H xs vs):jD K cA (.fix xs) U H (Nz K a):=by
 refine⟨λU' H₁ H' s' i x o hS e=>⟨vs,(h.later hz x o).tL,?_⟩,λU' H₁ H' s' i d x o hS e=>?_,λU' H₁ H' s' i d v H2 x o hS e y=>?_⟩
 ·have e:xs[i]?=none:=dJ e;exact oH.mp ((r.mono x hz).none e)
 ·have e:xs[i]?=some d:=dJ e;obtain⟨v,q,_⟩:=r.get e;exact⟨vs,v,(h.later hz x o).tL,q⟩
 ·have e:xs[i]?=some d:=dJ e;obtain⟨rfl,y⟩:=y;obtain⟨w,q,nR⟩:=((r.mono x hz).out o).get e;have:=y vs (h.later hz x o).tL;rw[q] at this;cases this;exact⟨bf.refl,nR⟩
theorem jD.tuple(hz:∀a∈U.l,U.z a)(h:TupAt K U H a vs)(r:aB K cA U H xs vs):jD K cA (.fix xs) U H (Q7 K a):=by
 refine⟨λU' H₁ H' s' i x o hS e=>⟨vs,(h.later hz x o).jr,?_⟩,λU' H₁ H' s' i d x o hS e=>?_,λU' H₁ H' s' i d v H2 x o hS e y=>?_⟩
 ·have e:xs[i]?=none:=dJ e;exact oH.mp ((r.mono x hz).none e)
 ·have e:xs[i]?=some d:=dJ e;obtain⟨v,q,_⟩:=r.get e;exact⟨vs,v,(h.later hz x o).jr,q⟩
 ·have e:xs[i]?=some d:=dJ e;obtain⟨rfl,y⟩:=y;obtain⟨w,q,nR⟩:=((r.mono x hz).out o).get e;have:=y vs (h.later hz x o).jr;rw[q] at this;cases this;exact⟨bf.refl,nR⟩
theorem TF(h:(Src.live n).at i s=some o):∃xs,s[n]?=some (.lst xs)/\xs[i]?=o:=by
 unfold Src.at at h;dsimp only at h;cases e:s[n]? with
 |none=>rw[e] at h;cases h
 |some ob=>
  rw[e] at h;cases ob with
  |lst xs=>exact⟨xs,rfl,dJ h⟩
  |_=>cases h
theorem jD.live(h:U.l[n]?=some a):jD K cA (.live n) U H (Nz K a):=by
 refine⟨λU' H₁ H' s' i x o hS e=>?_,λU' H₁ H' s' i d x o hS e=>?_,λU' H₁ H' s' i d v H2 x o hS e y=>?_⟩
 ·obtain⟨xs,e1,e2⟩:=TF e;obtain⟨vs,q1,q2⟩:=hS.obj n _ a e1 (x.get h);exact⟨vs,cY.of q1,oH.mp (q2.none e2)⟩
 ·obtain⟨xs,e1,e2⟩:=TF e;obtain⟨vs,q1,q2⟩:=hS.obj n _ a e1 (x.get h);obtain⟨v,q3,_⟩:=q2.get e2;exact⟨vs,v,cY.of q1,q3⟩
 ·obtain⟨xs,e1,e2⟩:=TF e;obtain⟨vs,q1,q2⟩:=hS.obj n _ a e1 (x.get h);obtain⟨w,q3,nR⟩:=q2.get e2;obtain⟨rfl,y⟩:=y;have:=y vs (cY.of q1);rw[q3] at this;cases this;exact⟨bf.refl,nR⟩
theorem TJ:(jf a b)[i]?=if i<(b-a).toNat then some (.int (a+i)) else none:=by
 unfold jf;rw[gK,List.getElem?_range']
where
 List.getElem?_range' {n i:Nat}:Option.map (λ(i:Nat)=>D.int (a+i)) (List.range n)[i]?=if i<n then some (.int (a+i)) else none:=by
  by_cases h:i<n
  ·rw[if_pos h,List.getElem?_range h];rfl
  ·rw[if_neg h,List.getElem?_eq_none (by simp;lia)];rfl
theorem jD.range{a b:Int}:jD K cA (.fix (jf a b)) U H (Io a (b-a).toNat):=by
 refine⟨λU' H₁ H' s' i x o hS e=>?_,λU' H₁ H' s' i d x o hS e=>?_,λU' H₁ H' s' i d v H2 x o hS e y=>?_⟩
 ·have e:(jf a b)[i]?=none:=dJ e;rw[TJ] at e;split at e
  ·cases e
  ·exact MN (by assumption)
 ·have e:(jf a b)[i]?=some d:=dJ e;rw[TJ] at e;split at e
  ·assumption
  ·cases e
 ·have e:(jf a b)[i]?=some d:=dJ e;rw[TJ] at e;split at e
  ·cases e;obtain⟨rfl,rfl⟩:=y;exact⟨bf.refl,.int _⟩
  ·cases e
end
noncomputable def TQ(K:W.Frag)(te:TE):TI:=λZ H R=>te Z H λv H1=>∃a,v=.ref a/\(((∃xs,cY K H1 a xs)/\R (Nz K a) H1)\/((∃xs,gC K H1 a xs)/\R (Q7 K a) H1))
theorem zmG(he:PE X l te):PI X tg l (TQ X.K te):=by
 intro ak s Z H R I h;refine aU (he ak s Z H _ I h) λv s1 hx=>H_ hx λx H1 I1 r1 a e q=>?_;subst e;cases r1;rcases q with ⟨⟨xs,hq⟩,q⟩|⟨⟨xs,hq⟩,q⟩
 ·obtain⟨its,rv,p,hz⟩:=I1.list hq;refine MF p.isList ?_;refine⟨s1.heap.objs.size,[s1.heap.objs.size],_,_,H1,rfl,I1.kept (t':=s1.toks) λb o e=>cF _ e,zg2 a _,⟨_,fj _ rfl,rfl,rfl⟩,λb hb=>?_,q⟩;have e:b=s1.heap.objs.size:=by simpa using hb
  subst e;exact I1.uy (bL _) (I1.hok.fresh (bL _))
 ·obtain⟨its,rv,p,hz⟩:=I1.tuple hq;refine Mu (show s1.heap.IsTuple a its.toArray from p) ?_;refine⟨s1.heap.objs.size,[s1.heap.objs.size],_,_,H1,rfl,I1.kept (t':=s1.toks) λb o e=>cF _ e,zfe a _,⟨_,fj _ rfl,rfl,rfl⟩,λb hb=>?_,q⟩;have e:b=s1.heap.objs.size:=by simpa using hb
  subst e;exact I1.uy (bL _) (I1.hok.fresh (bL _))
section
variable {X:Cx}{cA:Cl}{ao:Nat->Nat->Bool}{aj:Bool}{F:Fn}{EX:XS}{a b tg:Expr}{A B:E}{pos pp:Pos}
noncomputable def tI(K:W.Frag)(cA:Cl)(EX:XS)(m:Vs->M (Src×Nat)):TI:=λZ H R=>∃U J s,aR K cA U H Z J/\aG K cA U H s/\Run K cA (m J) U H s (λcn _ U1 H1=>∀bI,jD K cA cn.1 U1 H1 bI->R bI H1) (eX K cA EX Z)
def SI(X:Cx)(cA:Cl)(ao:Nat->Nat->Bool)(aj:Bool)(F:Fn)(EX:XS)(tg iter:Expr)(w:Wk):Prop:=PI X tg iter (tI X.K cA EX (iy ao aj F w))
theorem PI.weak{iter:Expr}{t t':TI}(h:PI X tg iter t)(f:∀Z H Q,t' Z H Q->t Z H Q):PI X tg iter t':=λak s Z H Q I q=>h ak s Z H Q I (f Z H Q q)
theorem zml(ha:SE X cA ao aj F EX a A):SI X cA ao aj F EX tg a (.seq A):=PI.weak (zmG ha) λZ H R hh=>un hh λU J s hL hS h=>by
 refine bG hL hS h λv H1 U1 d s1 x1 hL1 aL r1 h1=>?_;cases r1 with
 |@l n ad hl=>
  unfold Run src at h1;dsimp only at h1;cases e:s1[n]? with
  |none=>rw[e] at h1;exact h1.elim
  |some o=>
   rw[e] at h1;cases o with
   |lst xs=>
    obtain⟨vs,q1,q2⟩:=aL.obj n _ _ e hl;exact⟨ad,rfl,.inl ⟨⟨vs,cY.of q1⟩,h1 U1 H1 Ext.refl aL _ (jD.live hl)⟩⟩
   |_=>exact h1.elim
 |d r1=>
  cases r1 with
  |tup q r=>exact⟨_,rfl,.inr ⟨⟨_,q.jr⟩,h1 U1 H1 Ext.refl aL _ (jD.tuple aL.lz q r)⟩⟩
  |fl q r=>exact⟨_,rfl,.inl ⟨⟨_,q.tL⟩,h1 U1 H1 Ext.refl aL _ (jD.list aL.lz q r)⟩⟩
  |_=>exact h1.elim
theorem ZG{i:Int}(h:fU i=true) : -(2^62)<=i/\i<2^62:=by
 unfold fU at h;rw[gB,wU,wU] at h;exact⟨by lia,h.2⟩
theorem ZJ{K:W.Frag}{U:Ph}{H:Hp}{s:S}{i j:Int}{P:Src×Nat->S->Ph->Hp->Prop}{Ee:Nat->List D->S->Ph->Hp->Prop}(hS:aG K cA U H s)(h:Run K cA (if (fU i&&fU j)=true then M.ret (Src.fix (jf i j),(jf i j).length) else M.no) U H s P Ee):(-(2^62)<=i/\i<2^62/\-(2^62)<=j/\j<2^62)/\P (.fix (jf i j),(jf i j).length) s U H:=by
 by_cases hk:(fU i&&fU j)=true
 ·rw[if_pos hk] at h;rw[gB] at hk;obtain⟨a,b⟩:=ZG hk.1;obtain⟨c,d⟩:=ZG hk.2;exact⟨⟨a,b,c,d⟩,h.bU hS⟩
 ·rw[if_neg hk] at h;exact h.elim
theorem zmX(pQ:Gl X "range")(hmg:X.mg "range"=none)(ha:SE X cA ao aj F EX a A)(hb:SE X cA ao aj F EX b B)(h1:starEach [a,b] X.env=(false,eval a X.env)::starEach [b] X.env)(h2:starEach [b] X.env=(false,eval b X.env)::starEach [] X.env) :
  SI X cA ao aj F EX tg (.Call (.Name "range" pp) [a,b] [] pos) (.rg A B):=PI.weak (zgV pQ hmg (v7 ha (v7 hb CK h2) h1) (by rw[h1,h2];rfl) (by rw[h2];rfl)) λZ H R hh=>un hh λU J s hL hS h=>by
 refine bG hL hS h λx H1 U1 d1 s1 x1 hL1 aL r1 h1=>bG hL1 aL h1 λy H2 U2 d2 s2 x2 hL2 hS2 r2 h2=>?_;obtain⟨i,_,e1,h3⟩:=J_ (r1.mono x2 aL.lz) h2;obtain⟨j,_,e2,h4⟩:=J_ r2 h3;obtain⟨hz,q⟩:=ZJ hS2 h4;subst e1 e2;exact⟨i,j,rfl,hz,q _ jD.range⟩
theorem zkC(pQ:Gl X "range")(hmg:X.mg "range"=none)(hb:SE X cA ao aj F EX b B)(h2:starEach [b] X.env=(false,eval b X.env)::starEach [] X.env) :
  SI X cA ao aj F EX tg (.Call (.Name "range" pp) [b] [] pos) (.rg (.c (.int 0)) B):=PI.weak (zgf pQ hmg (v7 hb CK h2) (by rw[h2];rfl)) λZ H R hh=>un hh λU J s hL hS h=>by
 have h:Run X.K cA (M.bd (ev ao aj F B J) λy=>M.bd (int (.d (.int 0))) λi=>M.bd (int y) λj=>if (fU i&&fU j)=true then M.ret (Src.fix (jf i j),(jf i j).length) else M.no) U H s _ _:=h;refine bG hL hS h λy H2 U2 d2 s2 x2 hL2 hS2 r2 h2=>?_;obtain⟨j,_,e2,h4⟩:=J_ r2 (show Run X.K cA (M.bd (int d2) λj=>if (fU 0&&fU j)=true then M.ret (Src.fix (jf 0 j),(jf 0 j).length) else M.no) U2 H2 s2 _ _ from h2);obtain⟨hz,q⟩:=ZJ hS2 h4;subst e2;refine⟨j,rfl,hz.2.2.1,hz.2.2.2,q _ ?_⟩;have:=jD.range (K:=X.K) (cA:=cA) (U:=U2) (H:=H2) (a:=0) (b:=j);rw[Int.sub_zero] at this;exact this
end
section
variable {K:W.Frag}{cA:Cl}{U U' U0:Ph}{H H' H0:Hp}{s:S}
theorem Run.bd0(x:Ext U0 H0 U H)(h:Run K cA (M.bd m k) U0 H0 s P Ee) :
  Run K cA m U H s (λa s1 U1 H1=>Ext U H U1 H1/\aG K cA U1 H1 s1/\Run K cA (k a) U0 H0 s1 P Ee) Ee:=by
 unfold Run M.bd at *;cases e:m s with
 |none=>rw[e] at h;exact h
 |some r=>
  obtain⟨r,s1⟩:=r;rw[e] at h;cases r with
  |er c f=>exact λU1 H1 x1 r1=>h U1 H1 (x.trans x1) r1
  |ok a=>exact λU1 H1 x1 r1=>⟨x1,r1,h⟩
theorem Ko{α β:Type}{m:M α}{k:α->M β}{P:β->S->Ph->Hp->Prop}{Ee Ee':Nat->List D->S->Ph->Hp->Prop}(x:Ext U0 H0 U H)(h:Run K cA (M.bd (M.qt m) k) U0 H0 s P Ee) :
  Run K cA m U H s (λa s1 U1 H1=>Ext U H U1 H1/\aG K cA U1 H1 s1/\Run K cA (k a) U0 H0 s1 P Ee) Ee':=by
 have h2:=h.bd0 x;unfold Run at h2 ⊢;unfold M.qt at h2;cases e:m s with
 |none=>rw[e] at h2;exact h2
 |some r=>
  obtain⟨r,s1⟩:=r;rw[e] at h2;cases r with
  |ok a=>exact h2
  |er c f=>exact h2.elim
theorem TV{α β:Type}{m m':M α}{k:α->M β}{P:β->S->Ph->Hp->Prop}{Ee:Nat->List D->S->Ph->Hp->Prop}(e:m s=m' s)(h:Run K cA (M.bd m k) U H s P Ee):Run K cA (M.bd m' k) U H s P Ee:=by
 unfold Run M.bd at *;rw[<-e];exact h
end
section
variable {X:Cx}{cA:Cl}{ao:Nat->Nat->Bool}{aj:Bool}{F:Fn}{EX:XS}{elt iter tg:Expr}{A B:E}{pos p:Pos}{ifs:List Expr}{scope:Scope}{N:List Str}{cond:Eo}{fr aO:List Nat}{many:Nat}{fz:Bool}{w:Wk}
def Gw(X:Cx)(cA:Cl)(ao:Nat->Nat->Bool)(aj:Bool)(F:Fn)(EX:XS)(ifs:List Expr)(m:Eo):Prop:=Gh X ifs (rW X.K cA EX (nG ao aj F m))
theorem zlE:Gw X cA ao aj F EX [] .no:=λak s Z H Q I ⟨U,J,st,hL,hS,h⟩=>zjx ak s Z H Q I (h.bU hS)
theorem zkq(h:ST X cA ao aj F EX c C):Gw X cA ao aj F EX [c] (.yes C):=zjZ h
structure gH(K:W.Frag)(cA:Cl)(g:TG)(aO:List Nat):Prop where
 run:∀(U:Ph) (H:Hp) (s:S) (Z:L2.St) (J J':Vs) (d:D) (v:V) (Q:L2.St->Hp->Prop),aR K cA U H Z J->aG K cA U H s->Rep K cA U H d v->cW aO d J=some J'->
  (∀Z',aR K cA U H Z' J'->Z'.length=Z.length->(∀i,i∉aO->Z'[i]?=Z[i]?)->Q Z' H)->g v Z H Q
theorem qK{K:W.Frag}(i:Nat):gH K cA (dU i) [i] where
 run:=λU H s Z J J' d v Q hL hS r e k=>by
  cases e;exact k _ (hL.set (.d r)) (vQ ..) λj hj=>tZ (by simpa using λz=>hj (by simp[z]))
theorem yC{K:W.Frag}(i j:Nat):gH K cA (uw K 2 (iC (dU i) (iC (dU j) ur))) [i,j] where
 run:=λU H s Z J J' d v Q hL hS r e k=>by
  have e:(jX d).bind (λds=>fV [i,j] (ds.map Xv.d) J)=some J':=e;obtain⟨ds,e1,e2⟩:=wN.mp e;cases r with
  |@tup ad xs vs h1 h2=>
   have e1:xs=ds:=dJ e1;subst e1;cases h2 with
   |nil=>cases e2
   |cons r1 t1=>
    cases t1 with
    |nil=>cases e2
    |cons r2 t2=>
     cases t2 with
     |nil=>
      have e2:=dJ e2;subst e2;refine⟨ad,_,rfl,h1.jr,rfl,_,_,rfl,_,_,rfl,rfl,k _ ((hL.set (.d r1)).set (.d r2)) (by rw[vQ,vQ]) λm hm=>?_⟩;rw[tZ (λz=>hm (by simp[z])),tZ (λz=>hm (by simp[z]))]
     |cons r3 t3=>cases e2
  |_=>cases e1
noncomputable def bF(many:Nat)(fr:List Nat)(Z:L2.St):L2.St:=List.replicate many none++fr.map λj=>(Z[j]?).join
theorem ZK{U:Ph}{H:Hp}{Z:L2.St}{J:Vs}(hL:aR X.K cA U H Z J){Z':L2.St}(hl:Z'.length=many+fr.length)(hf:∀(i:Nat) j v,fr[i]?=some j->Z[j]?=some (some v)->Z'[many+i]?=some (some v)):aR X.K cA U H Z' (blk many fr J):=by
 refine⟨by unfold blk;simp[hl],λi d e=>?_⟩;unfold blk at e;by_cases hi:i<many
 ·rw[oX (by simpa using hi),G9,if_pos hi] at e;cases e
 ·rw[oW (by simpa using MN hi),Hf,gK] at e;cases z:fr[i-many]? with
  |none=>rw[z] at e;cases e
  |some j=>
   rw[z] at e;have e3:J[j]?.join=some d:=by simpa using e
   obtain⟨v,q1,q2⟩:=hL.2 j d (Ti e3);refine⟨v,?_,q2⟩;have:=hf (i-many) j v z q1;rw[show many+(i-many)=i by omega] at this;exact this
structure jt(U:Ph)(H:Hp)(Dd:Addr)(o:HO):Prop where
 at_:H Dd=some o
 nl:Dd∉U.l
 z:U.z Dd
abbrev Keep(U:Ph)(H:Hp)(Dd:Addr)(vs:List V):Prop:=jt U H Dd (.lst vs)
theorem jt.mono{U U':Ph}{H H':Hp}{Dd:Addr}{o:HO}(x:Ext U H U' H')(k:jt U H Dd o):jt U' H' Dd o:=by
 refine⟨x.frame _ _ k.at_ k.nl,λz=>?_,x.uZ _ k.z⟩;obtain⟨r,er,hr⟩:=x.more;rw[er] at z;rcases eU.mp z with z|z
 ·exact k.nl z
 ·have:=hr _ z;rw[k.at_] at this;cases this
theorem jt.ext{U:Ph}{H:Hp}{Dd:Addr}{o u:HO}(k:jt U H Dd o):(∀a o,H a=some o->¬U.z a->(upd H Dd u) a=some o)/\jt U (upd H Dd u) Dd u:=
 ⟨λa o e n=>by rw[dD (λz=>n (by rw[z];exact k.z))];exact e,jO,k.nl,k.z⟩
end
section
variable {K:W.Frag}{cA:Cl}{U U':Ph}{H H':Hp}
theorem aG.keep{s:S}{Dd:Addr}{o u:HO}(h:aG K cA U H s)(k:jt U H Dd o):aG K cA U (upd H Dd u) s:=by
 have x:cM U H (upd H Dd u):=k.ext.1;refine⟨h.len,λn o a e1 e2=>?_,h.uniq,h.lz,λa z=>?_⟩
 ·have na:a≠Dd:=λy=>k.nl (by rw[<-y];exact iQ e2);exact(h.obj n o a e1 e2).map (λ_ q=>by rw[dD na];exact q) λ_ _ r=>r.out x
 ·by_cases e:a=Dd
  ·subst e;exact⟨_,jO⟩
  ·obtain⟨o,q⟩:=h.zt a z;exact⟨o,by rw[dD e];exact q⟩
theorem Ext.keep{U1:Ph}{H1:Hp}{Dd:Addr}{vs:List V}{u:HO}(x:Ext U1 H1 U H)(hD:H1 Dd=none):Ext U1 H1 U (upd H Dd u):=by
 refine⟨x.more,x.uZ,x.m6,λa o h n=>?_,λa o h=>?_⟩
 ·rw[dD (λz=>by rw[z,hD] at h;cases h)];exact x.frame a o h n
 ·rw[dD (λz=>by rw[z,hD] at h;cases h)];exact x.stay a o h
theorem ZL{U1:Ph}{H1:Hp}{s':S}{fz:Bool}{acc:List D}{vs:List V}{Dd:Addr}{Q:VK}{Ee:Nat->List D->S->Ph->Hp->Prop}(h:Run K cA (newL fz acc) U1 H1 s' (λd _ U' H'=>∀v,aQ K cA U' H' d v->Q v H') Ee)
  (x2:Ext U1 H1 U' H') (hD:H1 Dd=none) (nz:¬U1.z Dd) (hS2:aG K cA U' H' s') (k:Keep U' H' Dd vs) (oM:aB K cA U' H' acc vs):Q (.ref Dd) H':=by
 cases fz with
 |true=>
  have zq:∀a,(λa=>U'.z a/\a≠Dd) a->U'.z a:=λa z=>z.1;refine h ⟨λa=>U'.z a/\a≠Dd,U'.l⟩ H' ⟨x2.more,λa z=>⟨x2.uZ a z,λe=>nz (by rw[<-e];exact z)⟩,λa z=>x2.m6 a z.1,x2.frame,x2.stay⟩ ?_ _ (.d (.fl (.inl ⟨.inl k.at_,λz=>z.2 rfl⟩) (aB.kY (U:=U') zq oM)));refine⟨hS2.len,λn o a e1 e2=>kW.kY (U:=U') zq (hS2.obj n o a e1 e2),hS2.uniq,λa ha=>⟨hS2.lz a ha,λe=>k.nl (by rw[<-e];exact ha)⟩,λa z=>hS2.zt a z.1⟩
 |false=>
  obtain⟨r,er,hr⟩:=x2.more;refine h ⟨U'.z,U'.l++[Dd]⟩ H' ⟨⟨r++[Dd],by show U'.l++[Dd]=_;rw[er,BZ],λb hb=>?_⟩,x2.uZ,x2.m6,x2.frame,x2.stay⟩ ?_ _ (.l (by show (U'.l++[Dd])[s'.length]?=_;rw[<-hS2.len];simp))
  ·rcases eU.mp hb with z|z
   ·exact hr b z
   ·simp at z;subst z;exact hD
  ·refine⟨by show (U'.l++[Dd]).length=_;rw[h_,h_,hS2.len];rfl,λm o' a' e1 e2=>?_,?_,λb hb=>?_,hS2.zt⟩
   ·have e2:(U'.l++[Dd])[m]?=some a':=e2;by_cases hm:m<s'.length
    ·rw[oX hm] at e1;rw[oX (by rw[hS2.len];exact hm)] at e2;exact kW.zl (hS2.obj m o' a' e1 e2) _
    ·have vd:m=s'.length:=by
      have z:=(gw.mp e2).1;rw[h_,hS2.len] at z;simp at z;omega
     subst vd;rw[oW (bL _)] at e1;rw[oW (by rw[hS2.len];exact bL _)] at e2;simp at e1;simp[hS2.len] at e2;subst e1 e2;exact⟨vs,k.at_,aB.zl oM _⟩
   ·show (U'.l++[Dd]).Nodup;rw[Hu];refine⟨hS2.uniq,by simp,λb hb c hc e=>?_⟩;simp at hc;subst hc e;exact k.nl hb
   ·have hb:b∈U'.l++[Dd]:=hb;rcases eU.mp hb with z|z
    ·exact hS2.lz b z
    ·simp at z;subst z;exact k.z
noncomputable def Ph.mark(U:Ph)(p:Addr):Ph:=⟨λa=>U.z a\/a=p,U.l⟩
theorem ZM{s:S}{p:Addr}(hS:aG K cA U H s)(hp:H p=none):Ext U H (U.mark p) (upd H p (.lst []))/\aG K cA (U.mark p) (upd H p (.lst [])) s/\Keep (U.mark p) (upd H p (.lst [])) p []:=by
 have g:=bf.new (o:=.lst []) hp;have nz:=hS.nz hp;refine⟨⟨⟨[],by simp[Ph.mark],by simp⟩,λa z=>.inl z,λa z=>z.imp id λe=>by rw[e];exact hp,λa o h _=>g a o h,λa o h=>⟨o,g a o h⟩⟩,⟨hS.len,λn o a e1 e2=>?_,hS.uniq,λa ha=>.inl (hS.lz a ha),λa z=>?_⟩,jO,λz=>nz (hS.lz p z),.inr rfl⟩
 ·have x:Ext U H (U.mark p) (upd H p (.lst [])):=⟨⟨[],by simp[Ph.mark],by simp⟩,λa z=>.inl z,λa z=>z.imp id λe=>by rw[e];exact hp,λa o h _=>g a o h,λa o h=>⟨o,g a o h⟩⟩;exact(hS.obj n o a e1 e2).map (g _) λ_ _ r=>r.mono x hS.lz
 ·rcases z with z|z
  ·obtain⟨o,e⟩:=hS.zt a z;exact⟨o,g _ _ e⟩
  ·subst z;exact⟨_,jO⟩
end
section
variable {X:Cx}{cA:Cl}{ao:Nat->Nat->Bool}{aj:Bool}{F:Fn}{EX:XS}{elt iter tg:Expr}{A B:E}{pos p:Pos}{ifs:List Expr}{scope:Scope}{N:List Str}{cond:Eo}{fr aO:List Nat}{many:Nat}{fz:Bool}{w:Wk}
noncomputable abbrev bN(ao:Nat->Nat->Bool)(aj:Bool)(F:Fn)(B:E)(cond:Eo)(aO:List Nat)(Jb:Vs):D->List D->M (List D):=λd acc=>M.bd (M.opt (cW aO d Jb)) λJ'=>M.bd (M.qt (nG ao aj F cond J')) λok=>
    if ok=true then M.bd (M.qt (ev ao aj F B J')) λy=>M.bd (dat y) λe=>if acc.length<sizeLine then M.ret (acc++[e]) else M.no else M.ret acc
theorem Gx{H:Hp}{a:Addr}{o:HO}(h:H a=some o):upd H a o=H:=funext λb=>by
 by_cases z:b=a
 ·subst z;rw[jO,h]
 ·rw[dD z]
theorem ziu{K:W.Frag}{g:TG}{U1 U':Ph}{H1 H2:Hp}{s':S}{Z':L2.St}{Jb:Vs}{Dd:Addr}{acc:List D}{vs:List V}{xi:D}{v:V}{β:Type}{kk:List D->M β}{P:β->S->Ph->Hp->Prop}{Ee:Nat->List D->S->Ph->Hp->Prop}(hT:gH K cA g aO)(cG:∀i∈aO,i<many)
  (hD:H1 Dd=none) (x2:Ext U1 H1 U' H2) (hL2:aR K cA U' H2 Z' Jb) (hS2:aG K cA U' H2 s') (kp:Keep U' H2 Dd vs) (oM:aB K cA U' H2 acc vs) (rx:Rep K cA U' H2 xi v)
  (h:Run K cA (M.bd (bN ao aj F B cond aO Jb xi acc) kk) U1 H1 s' P Ee) {Nn:L2.St->Hp->Prop}
  (hN:∀Z3 H3 U3 s3 m8 yD,Z3.length=Z'.length->(∀i,many<=i->Z3[i]?=Z'[i]?)->Ext U1 H1 U3 H3->Ext U' H2 U3 (upd H3 Dd (.lst vs))->aG K cA U3 H3 s3->Keep U3 H3 Dd yD->aB K cA U3 H3 m8 yD->Run K cA (kk m8) U1 H1 s3 P Ee->Nn Z3 H3) :
  g v Z' H2 λZ3 H3=>rW K cA (λ_ _ _ _=>False) (nG ao aj F cond) Z3 H3 λok H4=>
   if ok=true then tE K cA (λ_ _ _ _=>False) (ev ao aj F B) Z3 H4 λy H5=>∃ys,H5 Dd=some (.lst ys)/\ys.length<sizeLine/\Nn Z3 (upd H5 Dd (.lst (ys++[y]))) else Nn Z3 H4:=by
 unfold bN at h;rw[gM] at h;obtain⟨J',e1,h1⟩:=Oh h;refine hT.run U' H2 s' Z' Jb J' xi v _ hL2 hS2 rx e1 λZ3 ou DP Gy=>?_;rw[gM] at h1;have kf:∀i,many<=i->Z3[i]?=Z'[i]?:=λi hi=>Gy i λz=>absurd (cG i z) (zM.mpr hi);refine⟨U',J',s',ou,hS2,(Ko x2 h1).imp λok s4 U4 H4 ⟨x4,lE,h6⟩=>?_⟩;cases ok with
 |false=>
  refine iF (hN Z3 H4 U4 s4 acc vs DP kf (x2.trans x4) (by rw[Gx (kp.mono x4).at_];exact x4) lE (kp.mono x4) (oM.mono x4 hS2.lz) ?_);rw[if_neg Dc] at h6;exact h6
 |true=>
  rw[if_pos rfl,gM] at h6;refine iT ⟨U4,J',s4,ou.mono x4 hS2.lz,lE,(Ko (x2.trans x4) h6).imp λy s5 U5 H5 ⟨x5,DG,h7⟩ u ru=>?_⟩;rw[gM] at h7;have k5:=(kp.mono x4).mono x5;have r5:=(oM.mono x4 hS2.lz).mono x5 lE.lz;have TX:=(x2.trans x4).trans x5;obtain⟨dd,ey,rd,h8⟩ : ∃d,y=.d d/\Rep K cA U5 H5 d u/\Run K cA (M.bd (if acc.length<sizeLine then M.ret (acc++[d]) else M.no) kk) U1 H1 s5 P Ee:=by
   cases ru with
   |l _=>exact h7.elim
   |d r=>exact⟨_,rfl,r,h7⟩
  by_cases hz:acc.length<sizeLine
  ·rw[if_pos hz] at h8;refine⟨vs,k5.at_,by rw[<-r5.len];exact hz,?_⟩;have ox:cM U5 H5 (upd H5 Dd (.lst (vs++[u]))):=k5.ext.1;exact hN Z3 _ U5 s5 (acc++[dd]) (vs++[u]) DP kf (Ext.keep (vs:=vs) TX hD) (by rw[Qz,Gx k5.at_];exact x4.trans x5) (DG.keep k5) k5.ext.2 ((r5.app (.cons rd .nil)).out ox) h8
  ·rw[if_neg hz] at h8;exact h8.elim
theorem ZP{g:TG}{iter':Expr}(hT:gH X.K cA g aO)(cG:∀i∈aO,i<many){Z:L2.St}{H:Hp}{Q:VK}(hh:tE X.K cA EX (ev ao aj F (.comp fz B aO w fr many cond)) Z H Q) :
  uK (tI X.K cA EX (iy ao aj F w)) (bF many fr) g (rW X.K cA (λ_ _ _ _=>False) (nG ao aj F cond)) (tE X.K cA (λ_ _ _ _=>False) (ev ao aj F B)) Z H Q:=un hh λU J s hL hS h=>by
 by_cases gY:aj=true
 ·have h:Run X.K cA (if aj=true then M.bd (iy ao aj F w J) λcn=>M.bd (walk cn.1 (bN ao aj F B cond aO (blk many fr J)) (cn.2+1) 0 []) λxs=>newL fz xs else M.no) U H s (λd _ U' H'=>∀v,aQ X.K cA U' H' d v->Q v H') (eX X.K cA EX Z):=h;rw[if_pos gY] at h;refine⟨U,J,s,hL,hS,h.bd.imp λcn s1 U1 H1 ⟨x1,aL,h1⟩ bI hJ=>?_⟩;have hL1:=hL.mono x1 hS.lz;obtain⟨c,n⟩:=cn;dsimp only at h1 hJ;intro Dd hD;obtain⟨x0,Kp,k0⟩:=ZM aL hD;have DQ:∀{Z':L2.St},(Z'.length=many+fr.length/\∀i,many<=i->Z'[i]?=(bF many fr Z)[i]?)->∀{U' H'},Ext U1 H1 U' H'->aR X.K cA U' H' Z' (blk many fr J):=λ{Z'} hZ {U' H'} x=>ZK (hL1.mono x aL.lz) hZ.1 λi j v e1 e2=>by
   rw[hZ.2 _ (by omega)];unfold bF;rw[oW J0,Hf,gK,show many+i-many=i by omega,e1];simp[e2]
  refine⟨λi m Z' H'=>m=n+1-i/\(Z'.length=many+fr.length/\∀i,many<=i->Z'[i]?=(bF many fr Z)[i]?)/\∃U' s' acc vs,Ext U1 H1 U' H'/\aG X.K cA U' H' s'/\Keep U' H' Dd vs/\aB X.K cA U' H' acc vs /\
   Run X.K cA (M.bd (walk c (bN ao aj F B cond aO (blk many fr J)) (n+1-i) i acc) λxs=>newL fz xs) U1 H1 s' (λd _ U' H'=>∀v,aQ X.K cA U' H' d v->Q v H') (eX X.K cA EX Z),⟨n+1,rfl,⟨by simp[bF],λi _=>rfl⟩,U1.mark Dd,s1,[],[],x0,Kp,k0,.nil,h1⟩,?_⟩
  rintro i m Z' H' ⟨rfl,hZ,U',s',acc,vs,x2,hS2,kp,oM,h3⟩;have hL2:=DQ hZ x2;cases ek:n+1-i with
  |zero=>rw[ek] at h3;exact h3.elim
  |succ k=>
   rw[ek] at h3;cases ei:c.at i s' with
   |none=>
    exfalso
    unfold Run M.bd walk at h3;simp only[ei] at h3
   |some oi=>
    cases oi with
    |none=>
     refine .inl ⟨hJ.stop U' H' H' s' i x2 cM.refl hS2 ei,?_⟩;have h4:Run X.K cA (newL fz acc) U1 H1 s' (λd _ U' H'=>∀v,aQ X.K cA U' H' d v->Q v H') (eX X.K cA EX Z):=by
      unfold Run M.bd walk at h3;simp only[ei] at h3;exact h3
     exact ZL h4 x2 hD (aL.nz hD) hS2 kp oM
    |some xi=>
     refine .inr ⟨hJ.go U' H' H' s' i xi x2 cM.refl hS2 ei,λZ2 H2=>(Z2.length=many+fr.length/\∀i,many<=i->Z2[i]?=(bF many fr Z)[i]?)/\∃U' s' acc vs,Ext U1 H1 U' H2/\aG X.K cA U' H2 s'/\Keep U' H2 Dd vs/\aB X.K cA U' H2 acc vs /\
      Run X.K cA (M.bd (walk c (bN ao aj F B cond aO (blk many fr J)) k (i+1) acc) λxs=>newL fz xs) U1 H1 s' (λd _ U' H'=>∀v,aQ X.K cA U' H' d v->Q v H') (eX X.K cA EX Z),λZ2 H2 hn=>⟨k,by omega,by omega,hn.1,?_⟩,λv H2 hy=>?_⟩
     ·have:n+1-(i+1)=k:=by omega
      rw[this];exact hn.2
     ·obtain⟨gr,rx⟩:=hJ.ux U' H' H' s' i xi v H2 x2 cM.refl hS2 ei hy;have h4:Run X.K cA (M.bd (bN ao aj F B cond aO (blk many fr J) xi acc) λacc'=>M.bd (walk c (bN ao aj F B cond aO (blk many fr J)) k (i+1) acc') λxs=>newL fz xs) U1 H1 s' (λd _ U' H'=>∀v,aQ X.K cA U' H' d v->Q v H') (eX X.K cA EX Z):=by
       have h5:=TV (m':=M.bd (bN ao aj F B cond aO (blk many fr J) xi acc) λacc'=>walk c (bN ao aj F B cond aO (blk many fr J)) k (i+1) acc') (by rw[walk];simp only[ei]) h3;rw[gM] at h5;exact h5
      exact ziu hT cG hD (x2.trans gr.ext) (hL2.mono gr.ext hS2.lz) (hS2.grow gr) (kp.mono gr.ext) (oM.mono gr.ext hS2.lz) rx h4 λZ3 H3 U3 s3 m8 yD l3 f3 x3 _ fW k3 r3 h6=>⟨⟨l3.trans hZ.1,λi hi=>(f3 i hi).trans (hZ.2 i hi)⟩,U3,s3,m8,yD,x3,fW,k3,r3,h6⟩
 ·have h:Run X.K cA (if aj=true then M.bd (iy ao aj F w J) λcn=>M.bd (walk cn.1 (bN ao aj F B cond aO (blk many fr J)) (cn.2+1) 0 []) λxs=>newL fz xs else M.no) U H s (λd _ U' H'=>∀v,aQ X.K cA U' H' d v->Q v H') (eX X.K cA EX Z):=h;rw[if_neg gY] at h;exact h.elim
theorem TY{XN:List Str}(qD:∀(i:Nat) (y:Str) (j:Nat),N[many+i]?=some y->fr[i]?=some j->scope.names.lookup y=some .free/\XN[j]?=some y)(Z:L2.St)(i:Nat)(x:Str)(v:V)(e1:N[i]?=some x)(e2:(bF many fr Z)[i]?=some (some v)):scope.names.lookup x=some .free/\∃j:Nat,XN[j]?=some x/\Z[j]?=some (some v):=by
 unfold bF at e2;by_cases hi:i<many
 ·rw[oX (by simpa using hi),G9,if_pos hi] at e2;cases e2
 ·rw[oW (by simpa using MN hi),Hf,gK] at e2;cases z:fr[i-many]? with
  |none=>rw[z] at e2;cases e2
  |some j=>
   rw[z] at e2;have e3:(Z[j]?).join=some v:=by simpa using e2
   obtain⟨a1,a2⟩:=qD (i-many) x j (by rw[show many+(i-many)=i by omega];exact e1) z;exact⟨a1,j,a2,Ti e3⟩
theorem zi7{g:TG}(hc:X.aj=true)(B':dw X.env.scope scope)(hi:SI X cA ao aj F EX tg iter w)(hN:N.length=many+fr.length)
  (qD:∀(i:Nat) (y:Str) (j:Nat),N[many+i]?=some y->fr[i]?=some j->scope.names.lookup y=some .free/\X.N[j]?=some y)
  (hg:∀cl C s3 H3 fp ak,PG (X.blk scope cl N C s3 H3 fp ak) tg g) (hT:gH X.K cA g aO) (cG:∀i∈aO,i<many)
  (ht:∀cl C s3 H3 fp ak,Gw (X.blk scope cl N C s3 H3 fp ak) cA ao aj F (λ_ _ _ _=>False) ifs cond) (he:∀cl C s3 H3 fp ak,SE (X.blk scope cl N C s3 H3 fp ak) cA ao aj F (λ_ _ _ _=>False) elt B)
  (hs:∀x,foldedSetIterable iter X.env x=pure x:=by intro _;rfl):SE X cA ao aj F EX (.ListComp elt [⟨tg,iter,ifs,0⟩] scope pos) (.comp fz B aO w fr many cond):=
 PE.weak (zkj hc B' hi (⟨hg,ht,he⟩ : Parts X elt tg ifs scope N g (rW X.K cA (λ_ _ _ _=>False) (nG ao aj F cond)) (tE X.K cA (λ_ _ _ _=>False) (ev ao aj F B))) (ZY:=bF many fr) (λZ=>by simp[bF,hN]) (λZ i x v e1 e2=>TY qD Z i x v e1 e2) hs) λZ H Q hh=>ZP (iter':=iter) hT cG hh
end
section
variable (K:W.Frag)(cA:Cl)
def aZ(m:MS)(U:Ph)(H:Hp)(s:S)(D:Ends)(EX:XS):Prop:=match m s with
 |some (.nx J,s')=>∀U' H' Z',Ext U H U' H'->aG K cA U' H' s'->aR K cA U' H' Z' J->D.nx Z' H'
 |some (.bk J,s')=>∀U' H' Z',Ext U H U' H'->aG K cA U' H' s'->aR K cA U' H' Z' J->D.bk Z' H'
 |some (.ct J,s')=>∀U' H' Z',Ext U H U' H'->aG K cA U' H' s'->aR K cA U' H' Z' J->D.ct Z' H'
 |some (.rt d,s')=>∀U' H' v,Ext U H U' H'->aG K cA U' H' s'->aQ K cA U' H' d v->D.rt v H'
 |some (.er c fs J,s')=>∀U' H' Z',Ext U H U' H'->aG K cA U' H' s'->aR K cA U' H' Z' J->∀dx,jZ K cA U' H' c fs dx->EX Z' (.ref (cA.a c)) dx H'
 |none=>False
noncomputable def tS(EX:XS)(m:Vs->MS):TS:=λD Z H=>∃U J s,aR K cA U H Z J/\aG K cA U H s/\aZ K cA (m J) U H s D EX
end
section
variable {K:W.Frag}{cA:Cl}{U U':Ph}{H H':Hp}{s:S}{Z:L2.St}{J:Vs}{EX:XS}{D:Ends}
theorem aZ.ext{m:MS}(x:Ext U H U' H')(h:aZ K cA m U H s D EX):aZ K cA m U' H' s D EX:=by
 unfold aZ at *;split at h<;>first
  |exact λU2 H2 a y r l=>h U2 H2 a (x.trans y) r l
  |exact h.elim
theorem aZ.ofM{α:Type}{m:M α}{k:α->MS}(hL:aR K cA U H Z J)(hz:∀a∈U.l,U.z a)(h:aZ K cA (ofM m J k) U H s D EX):Run K cA m U H s (λa s1 U1 H1=>Ext U H U1 H1/\aG K cA U1 H1 s1/\aZ K cA (k a) U1 H1 s1 D EX) (eX K cA EX Z):=by
 unfold aZ Mi.ofM at h;unfold Run;cases e:m s with
 |none=>rw[e] at h;exact h
 |some r=>
  obtain⟨r,s1⟩:=r;rw[e] at h;cases r with
  |er c fs=>exact λU1 H1 x r=>h U1 H1 Z x r (hL.mono x hz)
  |ok a=>
   intro U1 H1 x r;refine⟨x,r,?_⟩;have h2:aZ K cA (k a) U H s1 D EX:=h;exact h2.ext x
theorem aZ.then_(h:aZ K cA (cX m k) U H s D EX):aZ K cA m U H s {D with nx:=λZ' H'=>∃U' J' s',aR K cA U' H' Z' J'/\aG K cA U' H' s'/\aZ K cA (k J') U' H' s' D EX} EX:=by
 unfold aZ cX at h;unfold aZ;cases e:m s with
 |none=>rw[e] at h;exact h
 |some r=>
  obtain⟨r,s1⟩:=r;rw[e] at h;cases r with
  |nx J=>
   intro U1 H1 Z1 x r l;have h2:aZ K cA (k J) U H s1 D EX:=h;exact⟨U1,J,s1,l,r,h2.ext x⟩
  |bk J=>exact h
  |ct J=>exact h
  |rt d=>exact h
  |er c fs J=>exact h
end
section
variable (X:Cx)(cA:Cl)(ao:Nat->Nat->Bool)(aj:Bool)(F:Bool->Fn)(EX:XS)
def SS(st:Stmt)(m:St):Prop:=PS X st (tS X.K cA EX (ex ao aj F m))
def yE(st:List Stmt)(m:cU):Prop:=rF X st (tS X.K cA EX (exs ao aj F m))
end
section
variable {X:Cx}{cA:Cl}{ao:Nat->Nat->Bool}{aj:Bool}{F:Bool->Fn}{EX:XS}{a b c d e:Expr}{A B C:E}{pos p p2:Pos}{st:Stmt}{sts body orelse:List Stmt}{m:St}{ms mb me mh:cU}{es:List Expr}{Xs:Es}{x y n:Str}{i j:Nat}
theorem PS.weak{t t':TS}(h:PS X st t)(f:∀D Z H,t' D Z H->t D Z H):PS X st t':=λak s Z H D I q=>h ak s Z H D I (f D Z H q)
theorem rF.weak{t t':TS}(h:rF X sts t)(f:∀D Z H,t' D Z H->t D Z H):rF X sts t':=λak s Z H D I q=>h ak s Z H D I (f D Z H q)
theorem znw:SS X cA ao aj F EX st .no:=λ_ _ _ _ _ _ ⟨_,_,_,_,_,h⟩=>h.elim
theorem zjD:yE X cA ao aj F EX [] .nil:=rF.weak zke λD Z H hh=>un hh λU J s hL hS h=>h U H Z Ext.refl hS hL
theorem zhf(h1:SS X cA ao aj F EX st m)(h2:yE X cA ao aj F EX sts ms):yE X cA ao aj F EX (st::sts) (.cons m ms):=rF.weak (zhy h1 h2) λD Z H hh=>un hh λU J s hL hS h=>by
 have h:aZ X.K cA (cX (ex ao aj F m J) λJ'=>exs ao aj F ms J') U H s D EX:=h;exact⟨U,J,s,hL,hS,h.then_⟩
theorem znJ(ha:SE X cA ao aj (F aj) EX a A)(hs:swapsWith a none pos.line X.env=pure false:=by rfl):SS X cA ao aj F EX (.Expr a pos) (.ex A):=PS.weak (zjz ha hs) λD Z H hh=>un hh λU J s hL hS h=>
 ⟨U,J,s,hL,hS,(aZ.ofM hL hS.lz h).imp λd s1 U1 H1 ⟨x1,aL,h1⟩ v rv=>h1 U1 H1 Z Ext.refl aL (hL.mono x1 hS.lz)⟩
theorem zmx(ha:SE X cA ao aj (F aj) EX a A):SS X cA ao aj F EX (.Return (some a) pos) (.ret A):=PS.weak (zla ha) λD Z H hh=>un hh λU J s hL hS h=>
 ⟨U,J,s,hL,hS,(aZ.ofM hL hS.lz h).imp λd s1 U1 H1 ⟨x1,aL,h1⟩ v rv=>h1 U1 H1 v Ext.refl aL rv⟩
theorem zk1(hN:X.N.Nodup)(hi:X.N[i]?=some x)(hx:Loc X.env.scope x)(ha:SE X cA ao aj (F aj) EX a A)(hs:swapsWith a (some (.Name x p)) pos.line X.env=pure false:=by rfl)(hf:X.fn x=true\/X.env.scope.names.lookup x=some .local:=by first|exact .inl rfl|exact .inr rfl) :
  SS X cA ao aj F EX (.Assign [.Name x p] a pos) (.asg (.nm i) A):=PS.weak (zlk hN hi hx ha hs hf) λD Z H hh=>un hh λU J s hL hS h=>
 ⟨U,J,s,hL,hS,(aZ.ofM hL hS.lz h).imp λd s1 U1 H1 ⟨x1,aL,h1⟩ v rv=>h1 U1 H1 _ Ext.refl aL ((hL.mono x1 hS.lz).set rv)⟩
theorem ZQ{k}(hc:X.aj=true)(hN:X.N.Nodup)(hi:X.N[i]?=some x)(hj:X.N[j]?=some y)(hx:Loc X.env.scope x)(hy:Loc X.env.scope y)(Kq:X.fn x=true\/X.env.scope.names.lookup x=some .local)(Kr:X.fn y=true\/X.env.scope.names.lookup y=some .local) :
  PG X (.Tuple [.Name x px,.Name y py] k pos) (uw X.K 2 (iC (dU i) (iC (dU j) ur))):=zlr hc (X_ (Ny hN hi hx Kq) (X_ (Ny hN hj hy Kr) zjV))
theorem zg6{K:W.Frag}{U:Ph}{H:Hp}{s:S}{J:Vs}{Z:L2.St}{D:Ends}{d:Xv}{v:V}(gY:aj=true)(hL:aR K cA U H Z J)(hS:aG K cA U H s)(rv:aQ K cA U H d v)(h:aZ K cA (store ao aj (F aj) (.tp [i,j]) d J) U H s D EX):uw K 2 (iC (dU i) (iC (dU j) ur)) v Z H D.nx:=by
 have h:aZ K cA (if aj=true then ofM (M.bd (dat d) λd=>M.opt ((jX d).bind λds=>fV [i,j] (ds.map Xv.d) J)) J (λJ' s=>some (Out.nx J',s)) else λ_=>none) U H s D EX:=h;rw[if_pos gY] at h;obtain⟨dd,e0,rd,h1⟩:=Tf rv (aZ.ofM hL hS.lz h);obtain⟨J',e,_,aL,h2⟩:=Run.opt hS h1;refine(yC i j).run U H s Z J J' dd v _ hL hS rd e λZ' hL' _ _=>h2 U H Z' Ext.refl hS hL'
theorem zkd{k}(hc:X.aj=true)(gY:aj=true)(hN:X.N.Nodup)(hi:X.N[i]?=some x)(hj:X.N[j]?=some y)(hx:Loc X.env.scope x)(hy:Loc X.env.scope y)(Kq:X.fn x=true\/X.env.scope.names.lookup x=some .local)(Kr:X.fn y=true\/X.env.scope.names.lookup y=some .local)(ha:SE X cA ao aj (F aj) EX a A)
  (hs:swapsWithSole [.Tuple [.Name x px,.Name y py] k pt] a pos.line X.env=pure false:=by rfl) (hw:swappedStores [.Tuple [.Name x px,.Name y py] k pt] a X.env=pure none:=by rfl)
  (h1:(assignEach [.Tuple [.Name x px,.Name y py] k pt] X.env).map (·.2)=[assign (.Tuple [.Name x px,.Name y py] k pt) X.env]:=by rfl) :
  SS X cA ao aj F EX (.Assign [.Tuple [.Name x px,.Name y py] k pt] a pos) (.asg (.tp [i,j]) A):=PS.weak (Yb ha (ZQ hc hN hi hj hx hy Kq Kr) hs hw h1) λD Z H hh=>un hh λU J s hL hS h=>
 ⟨U,J,s,hL,hS,(aZ.ofM hL hS.lz h).imp λd s1 U1 H1 ⟨x1,aL,h1⟩ v rv=>zg6 gY (hL.mono x1 hS.lz) aL rv h1⟩
theorem zmz(hO:SE X cA ao aj (F aj) EX oo O)(hI:SE X cA ao aj (F aj) EX ii I')(ha:SE X cA ao aj (F aj) EX a A)
  (DR:∀v,assign (.Subscript oo ii p) X.env v=(do
   let ov <-holding [v] (eval oo X.env)
   let iv <-holding [v,ov] (eval ii X.env)
   standAt p
   holding [v,ov,iv] (setItem ov iv v)
   release [v,ov,iv] []):=by intro _;rfl) (hs:swapsWithSole [.Subscript oo ii p] a pos.line X.env=pure false:=by rfl) (hw:swappedStores [.Subscript oo ii p] a X.env=pure none:=by rfl)
  (h1:(assignEach [.Subscript oo ii p] X.env).map (·.2)=[assign (.Subscript oo ii p) X.env]:=by rfl) :
  SS X cA ao aj F EX (.Assign [.Subscript oo ii p] a pos) (.asg (.ao O I') A):=PS.weak (Yb ha (zk3 hO hI zhz DR) hs hw h1) λD Z H hh=>un hh λU J s hL hS h=>by
 refine⟨U,J,s,hL,hS,(aZ.ofM hL hS.lz h).imp λd s1 U1 H1 ⟨x1,aL,h1⟩ v rv=>?_⟩;obtain⟨dd,e0,rd,h2⟩:=Tf rv (aZ.ofM (hL.mono x1 hS.lz) aL.lz h1);refine bG (hL.mono x1 hS.lz) aL h2 λxo H2 U2 d2 s2 x2 hL2 hS2 r2 h3=>bG hL2 hS2 h3 λyi H3 U3 d3 s3 x3 ou fW r3 h4=>?_;obtain⟨k,_,ek,h5⟩:=J_ r3 h4;obtain⟨n,ad,xs,vs,_,ea,e1,f1,g1,q1,h6⟩:=Tz fW (r2.mono x3 hS2.lz) h5;subst ek ea;cases ej:L2.v8 xs.length k with
 |none=>simp only[ej] at h6;exact h6.elim
 |some jj=>
  simp only[ej] at h6;refine⟨ad,vs,k,jj,rfl,rfl,g1,by rw[<-q1.len];exact ej,?_⟩;have rv3:=(rd.mono x2 aL.lz).mono x3 hS2.lz;have lE:=fW.write e1 f1 (q1.set rv3 jj);have x4:Ext U3 H3 U3 (upd H3 ad (.lst (vs.set jj v))):=Ext.write f1 ⟨_,g1⟩;obtain⟨_,_,h8⟩:=h6 U3 _ x4 lE;exact h8 U3 _ Z Ext.refl lE (ou.mono x4 fW.lz)
theorem znE(hc:ST X cA ao aj (F aj) EX c C)(ht:yE X cA ao aj F EX body mb)(he:yE X cA ao aj F EX orelse me):SS X cA ao aj F EX (.If c body orelse pos) (.iff C mb me):=PS.weak (zmT hc ht he) λD Z H hh=>un hh λU J s hL hS h=>by
 refine⟨U,J,s,hL,hS,(aZ.ofM hL hS.lz h).imp λk s1 U1 H1 ⟨x1,aL,h1⟩=>?_⟩;cases k with
 |true=>exact iT ⟨U1,J,s1,hL.mono x1 hS.lz,aL,h1⟩
 |false=>exact iF ⟨U1,J,s1,hL.mono x1 hS.lz,aL,h1⟩
theorem zjs{g:TG}{elt iter tg:Expr}{ifs:List Expr}{scope:Scope}{N:List Str}{cond:Eo}{fr aO:List Nat}{many:Nat}{fz:Bool}{w:Wk}{spos py:Pos}(hc:X.aj=true)(wu:X.N.Nodup)(hi':X.N[i]?=some y)(hx:Loc X.env.scope y)(hf:X.fn y=true\/X.env.scope.names.lookup y=some .local)(B':dw X.env.scope scope)(hi:SI X cA ao aj (F aj) EX tg iter w)(hN:N.length=many+fr.length)
  (qD:∀(i:Nat) (y:Str) (j:Nat),N[many+i]?=some y->fr[i]?=some j->scope.names.lookup y=some .free/\X.N[j]?=some y)
  (hg:∀cl C s3 H3 fp ak,PG (X.blk scope cl N C s3 H3 fp ak) tg g) (hT:gH X.K cA g aO) (cG:∀i∈aO,i<many)
  (ht:∀cl C s3 H3 fp ak,Gw (X.blk scope cl N C s3 H3 fp ak) cA ao aj (F aj) (λ_ _ _ _=>False) ifs cond) (he:∀cl C s3 H3 fp ak,SE (X.blk scope cl N C s3 H3 fp ak) cA ao aj (F aj) (λ_ _ _ _=>False) elt B)
  (Jr:swapsWith (.ListComp elt [⟨tg,iter,ifs,0⟩] scope pos) (some (.Name y py)) spos.line X.env=pure true) (hs:∀x,foldedSetIterable iter X.env x=pure x:=by intro _;rfl) :
  SS X cA ao aj F EX (.Assign [.Name y py] (.ListComp elt [⟨tg,iter,ifs,0⟩] scope pos) spos) (.asg (.nm i) (.comp fz B aO w fr many cond)):=
 PS.weak (zff hc wu hi' hx hf B' hi (⟨hg,ht,he⟩ : Parts X elt tg ifs scope N g (rW X.K cA (λ_ _ _ _=>False) (nG ao aj (F aj) cond)) (tE X.K cA (λ_ _ _ _=>False) (ev ao aj (F aj) B))) (ZY:=bF many fr) (λZ=>by simp[bF,hN]) (λZ i x v e1 e2=>TY qD Z i x v e1 e2) Jr hs) λD Z H hh=>un hh λU J s hL hS h=>
  ZP (iter':=iter) hT cG ⟨U,J,s,hL,hS,(aZ.ofM hL hS.lz h).imp λd s1 U1 H1 ⟨x1,aL,h1⟩ v rv=>h1 U1 H1 _ Ext.refl aL ((hL.mono x1 hS.lz).set rv)⟩
noncomputable def qL(m:MS)(kN:Vs->MS):MS:=λs=>match m s with
 |some (.nx J',s')=>kN J' s'
 |some (.ct J',s')=>kN J' s'
 |some (.bk J',s')=>some (.nx J',s')
 |r=>r
theorem Kae{K:W.Frag}{U:Ph}{H:Hp}{s:S}{D:Ends}{m:MS}{kN:Vs->MS}{N:L2.St->Hp->Prop}(hN:∀U' J' s' Z' H',Ext U H U' H'->aR K cA U' H' Z' J'->aG K cA U' H' s'->aZ K cA (kN J') U' H' s' D EX->N Z' H')(h:aZ K cA (qL m kN) U H s D EX) :
  aZ K cA m U H s {D with nx:=N,ct:=N,bk:=D.nx} EX:=by
 unfold aZ qL at h;unfold aZ;cases e:m s with
 |none=>rw[e] at h;exact h
 |some r=>
  obtain⟨r,s1⟩:=r;rw[e] at h;cases r with
  |nx J'=>
   intro U1 H1 Z1 x r l;have h2:aZ K cA (kN J') U H s1 D EX:=h;exact hN U1 J' s1 Z1 H1 x l r (h2.ext x)
  |ct J'=>
   intro U1 H1 Z1 x r l;have h2:aZ K cA (kN J') U H s1 D EX:=h;exact hN U1 J' s1 Z1 H1 x l r (h2.ext x)
  |bk J'=>exact h
  |rt d=>exact h
  |er c fs J'=>exact h
def SG(X:Cx)(cA:Cl)(ao:Nat->Nat->Bool)(aj:Bool)(F:Bool->Fn)(EX:XS)(tg:Expr)(t:Tg):Prop:=∃g:TG,PG X tg g/\∀(U:Ph) (H:Hp) (s:S) (Z:L2.St) (J:Vs) (d:Xv) (v:V) (D:Ends),aR X.K cA U H Z J->aG X.K cA U H s->aQ X.K cA U H d v->
 aZ X.K cA (store ao aj (F aj) t d J) U H s D EX->g v Z H D.nx
theorem zj4(hN:X.N.Nodup)(hi:X.N[i]?=some x)(hx:Loc X.env.scope x)(hf:X.fn x=true\/X.env.scope.names.lookup x=some .local:=by first|exact .inl rfl|exact .inr rfl):SG X cA ao aj F EX (.Name x pos) (.nm i):=
 ⟨_,Ny hN hi hx hf,λU H s Z J d v D hL hS r h=>h U H _ Ext.refl hS (hL.set r)⟩
theorem zlC(hp:PassesOwn (model X.prog X.w) X.A X.env X.xe)(hc:X.aj=true)(gY:aj=true)(ha:SI X cA ao aj (F aj) EX tg a w)(hg:SG X cA ao aj F EX tg t)(hb:yE X cA ao aj F EX body mb)
  (hs:∀x,foldedSetIterable a X.env x=pure x:=by intro _;rfl):SS X cA ao aj F EX (.For tg a body [] pos) (.fr t w mb):=by
 obtain⟨g,hG,hg⟩:=hg;refine PS.weak (zlg hp hc ha hG hb hs) λD Z H hh=>un hh λU J s hL hS h=>?_;have h:aZ X.K cA (if aj=true then ofM (iy ao aj (F aj) w J) J λcn=>gF cn.1 (λd J=>cX (store ao aj (F aj) t (.d d) J) λJ'=>exs ao aj F mb J') (cn.2+1) 0 J else λ_=>none) U H s D EX:=h;rw[if_pos gY] at h;refine⟨U,J,s,hL,hS,(aZ.ofM hL hS.lz h).imp λcn s1 U1 H1 ⟨x1,aL,h1⟩ bI hJ=>?_⟩;have hL1:=hL.mono x1 hS.lz;obtain⟨c,n⟩:=cn;dsimp only at h1 hJ;refine⟨λi m Z' H'=>∃U' J' s',Ext U1 H1 U' H'/\aR X.K cA U' H' Z' J'/\aG X.K cA U' H' s'/\aZ X.K cA (gF c (λd J=>cX (store ao aj (F aj) t (.d d) J) λJ'=>exs ao aj F mb J') m i J') U' H' s' D EX,⟨n+1,U1,J,s1,Ext.refl,hL1,aL,h1⟩,?_⟩;rintro i m Z' H' ⟨U',J',s',x2,hL2,hS2,h4⟩;cases m with
 |zero=>exact h4.elim
 |succ m=>
  cases ei:c.at i s' with
  |none=>
   exfalso
   unfold aZ gF at h4;simp only[ei] at h4
  |some oi=>
   cases oi with
   |none=>
    refine .inl ⟨hJ.stop U' H' H' s' i x2 cM.refl hS2 ei,?_⟩;unfold aZ gF at h4;simp only[ei] at h4;exact h4 U' H' Z' Ext.refl hS2 hL2
   |some xi=>
    refine .inr ⟨hJ.go U' H' H' s' i xi x2 cM.refl hS2 ei,_,λZ3 H3 z=>⟨m,Hv m,z⟩,λv H3 hy=>?_⟩;obtain⟨gr,rx⟩:=hJ.ux U' H' H' s' i xi v H3 x2 cM.refl hS2 ei hy;have h5:aZ X.K cA (qL (cX (store ao aj (F aj) t (.d xi) J') λJ'=>exs ao aj F mb J') (gF c (λd J=>cX (store ao aj (F aj) t (.d d) J) λJ'=>exs ao aj F mb J') m (i+1))) U' H' s' D EX:=by
     unfold aZ at h4 ⊢;have e:gF c (λd J=>cX (store ao aj (F aj) t (.d d) J) λJ'=>exs ao aj F mb J') (m+1) i J' s'=qL (cX (store ao aj (F aj) t (.d xi) J') λJ'=>exs ao aj F mb J') (gF c (λd J=>cX (store ao aj (F aj) t (.d d) J) λJ'=>exs ao aj F mb J') m (i+1)) s':=by
      rw[gF];simp only[ei];rfl
     rw[e] at h4;exact h4
    exact hg U' H3 s' Z' J' (.d xi) v _ (hL2.mono gr.ext hS2.lz) (hS2.grow gr) (.d rx) (aZ.then_ (Kae (λU4 J4 s4 Z4 H4 x4 l4 r4 q4=>⟨U4,J4,s4,(x2.trans gr.ext).trans x4,l4,r4,q4⟩) (h5.ext gr.ext)))
end
end Mi
namespace L2
open PySem PySem.Spec PyProof.Rows
structure yF(K:W.Frag)(x qual:Str)(st:Stmt)(f:Addr)(fd:FuncData):Prop where
 ex:∃(oc:Value) (od:Option Addr) (kV doc pm:Value) (an:Option Addr) (cdv ct:Value) (osl:Array (Option Value)),
  fd=PySem.W.fnOf x qual (bO st) (bx st) (aA st) .none kV doc pm an cdv ct/\K.lookup f=some ⟨oc,od,.func fd,osl⟩/\PySem.W.codeIn K cdv qual=true
 kp:PySem.W.keepIn K (.ref f)=true
end L2
namespace Mi
open PySem PySem.Spec PyProof.Rows L2
section
variable {P:Program}{w:World}{K:W.Frag}{mg:Str->Option Value}{base:Heap}{cA:Cl}{ao:Nat->Nat->Bool}{T:Nat->Option Df}
theorem zfc{U:Ph}{H:Hp}{N:List Str}{ds:List Xv}{vs:List V}{m p:Nat}(r:cj K cA U H ds vs)(hp:p=ds.length)(hm:m=N.length):aR K cA U H (L2.start N vs) (ds.map some++List.replicate (m-p) none):=by
 subst hp hm;unfold L2.start;have hl:=r.len;refine⟨by simp[hl],λi d e=>?_⟩;by_cases hi:i<ds.length
 ·rw[oX (by simpa using hi),gK] at e;cases z:ds[i]? with
  |none=>rw[z] at e;cases e
  |some x=>
   rw[z] at e;cases e;obtain⟨v,a,b⟩:=r.get z;exact⟨v,by rw[oX (by simp;lia),gK,a];rfl,b⟩
 ·rw[oW (by simpa using hi),G9] at e;split at e<;>cases e
theorem ZR{U:Ph}{H:Hp}{s:S}{ds:List Xv}{k n:Nat}{cm:Bool}{df:Df}{Q:VK}{E:XK}(hT:T n=some df)
  (h:Run K cA (call ao T (k+1) cm n ds) U H s (λd _ U' H'=>∀v,aQ K cA U' H' d v->Q v H') (λc fs _ U' H'=>∀dx,jZ K cA U' H' c fs dx->E (.ref (cA.a c)) dx H')) :
  ds.length=df.jB/\aZ K cA (exs ao cm (λc=>call ao T k c) df.body (ds.map some++List.replicate (df.many-df.jB) none)) U H s {nx:=λ_ H'=>Q .non H',rt:=Q} (λ_ C dx H'=>E C dx H'):=by
 unfold call at h;simp only[hT] at h;by_cases hl:ds.length=df.jB
 ·refine⟨hl,?_⟩;rw[if_pos hl] at h;unfold Run at h;unfold aZ;cases e:exs ao cm (λc=>call ao T k c) df.body (ds.map some++List.replicate (df.many-df.jB) none) s with
  |none=>simp only[e] at h
  |some r=>
   obtain⟨r,s1⟩:=r;simp only[e] at h;cases r with
   |nx J=>exact λU' H' Z' x r l=>h U' H' x r _ (.d .non)
   |rt d=>exact λU' H' v x r rv=>h U' H' x r v rv
   |er c fs J=>exact λU' H' Z' x r l=>h U' H' x r
   |bk J=>exact h.elim
   |ct J=>exact h.elim
 ·rw[if_neg hl] at h;exact h.elim
theorem gZ{cm:Bool}{n:Nat}{f:Addr}{fd:FuncData}{ps:List Str}:fD P w K mg base (lA P w) cm 0 f fd ps (tO K cA (call ao T 0 cm n)):=by
 have no:∀vs H Q E,tO K cA (call ao T 0 cm n) vs H Q E->False:=by
  rintro vs H Q E ⟨_,_,_,_,_,h⟩;exact h.elim
 exact⟨λvs H Q E h=>(no _ _ _ _ h).elim,λA outer s H args us vs Q E _ _ _ _ _ h=>(no _ _ _ _ h).elim⟩
theorem zmF{x qual:Str}{st:Stmt}{f:Addr}{fd:FuncData}{N ps:List Str}{k n:Nat}{cm:Bool}{df:Df}(F:yF K x qual st f fd)(S:fZ N ps (aA st))(hT:T n=some df)(hp:df.jB=ps.length)(hm:df.many=N.length)
  (hb:∀(cdv:Value) (A:Around) (outer:List Env) (s:Shared) (H:Hp) (E:XK),cL (k+1) A->
   yE (i_ (lA P w) P w K mg base N qual (aA st) f cdv A outer s H E cm) cA ao cm (λc=>call ao T k c) (λ_ C dx H'=>E C dx H') (bx st) df.body) :
  fD P w K mg base (lA P w) cm (k+1) f fd ps (tO K cA (call ao T (k+1) cm n)):=by
 obtain⟨oc,od,kV,doc,pm,an,cdv,ct,osl,rfl,lk,oJ⟩:=F.ex;refine zm6 lk oJ S (λvs H Q E hz=>?_) λA outer s H vs Q E hr hz=>?_
 ·obtain⟨U,ds,s,r,hS,h⟩:=hz;rw[<-r.len,(ZR hT h).1,hp]
 ·obtain⟨U,ds,st',r,hS,h⟩:=hz;obtain⟨hl,h2⟩:=ZR hT h;exact⟨_,hb cdv A outer s H E hr,U,_,st',zfc r hl.symm hm,hS,h2⟩
theorem zll{x qual:Str}{st:Stmt}{f:Addr}{fd:FuncData}{N ps:List Str}{k n:Nat}{cm:Bool}{df:Df}(F:yF K x qual st f fd)(S:fZ N ps (aA st))(hT:T n=some df)(hp:df.jB=ps.length)(hm:df.many=N.length)
  (hb:∀(cdv:Value) (A:Around) (outer:List Env) (s:Shared) (H:Hp) (E:XK),cL k (A.deeper (envOfC qual (aA st) s.heap.objs.size f cdv))->
   yE (i_ (lA P w) P w K mg base N qual (aA st) f cdv A outer s H E cm) cA ao cm (λc=>call ao T k c) (λ_ C dx H'=>E C dx H') (bx st) df.body) :
  fD P w K mg base (lA P w) cm (k+1) f fd ps (tO K cA (call ao T (k+1) cm n)):=zmF F S hT hp hm λcdv A outer s H E hr=>hb cdv A outer s H E (hr.deeper _)
end
theorem zkU{K:W.Frag}{cA:Cl}{m:List Xv->M Xv}{H:Hp}{a:Addr}{ns:List Int}(hq:cY K H a (ns.map V.int))(hm:∃s',m [.d (.fl (ns.map D.int))] []=some (.ok (.d (.bl true)),s')) :
  tO K cA m [.ref a] H (λv _=>v=.bl true) λ_ _ _=>False:=by
 have rs:∀(l:List Int) U,aB K cA U H (l.map D.int) (l.map V.int):=λl U=>by
  induction l with
  |nil=>exact .nil
  |cons i l ih=>exact .cons (.int i) ih
 have hl:LstAt K ⟨λ_=>False,[]⟩ H a (ns.map V.int):=by
  rcases hq with h|h
  ·exact .inl ⟨h,λz=>z⟩
  ·exact .inr (.inr h)
 refine⟨⟨λ_=>False,[]⟩,[.d (.fl (ns.map D.int))],[],.cons (.d (.fl hl (rs ns _))) .nil,⟨rfl,(λn o b e1 e2=>by simp at e1),zF,(λb hb=>by cases hb),(λb z=>False.elim z)⟩,?_⟩;obtain⟨s',e⟩:=hm;unfold Run;rw[e];intro U' H' _ _ v rv;cases rv with
 |d rv=>cases rv;rfl
theorem zgy:Raises X (λ_ _ _ _=>False):=λ_ _ _ _ _ _ _ _ _ _ _ _ _ z=>z.elim
theorem vf(r:cL k A):A.units+60<cLine:=by have:=r.un;lia
noncomputable def aF:Expr->Bool
 |.Starred _ _=>false
 |_=>true
theorem bA(h:aF e=true):starEach (e::es) env=(false,eval e env)::starEach es env:=by
 cases e<;>first|rfl|cases h
theorem bB:∀{es:List Expr} {env:Env} {pos:Pos},es.all aF=true->(backTo pos (starEach es env)).any (·.1)=false
 |[],_,_,_=>rfl
 |e::es,env,pos,h=>by
  rw[vU,gB] at h;rw[bA h.1];show (false||(backTo pos (starEach es env)).any (·.1))=false;rw[bB h.2];rfl
theorem qM:∀{es:List Expr} {env:Env} {pos:Pos},es.all aF=true->(backTo pos (starEach es env)).all (λx=>!x.1)=true
 |[],_,_,_=>rfl
 |e::es,env,pos,h=>by
  rw[vU,gB] at h;rw[bA h.1];show (true&&(backTo pos (starEach es env)).all (λx=>!x.1))=true;rw[qM h.2];rfl
theorem qN(h1:aF e=true)(h2:es.all aF=true)(h3:decide (es.length<28)=true):((backTo pos (starEach (e::es) env)).all (λx=>!x.1)&&(backToKw pos (keywordEach [] env)).all (λx=>x.1.isSome)&&decide ((e::es).length+([]:List Keyword).length+(if ([]:List Keyword).isEmpty then 0 else 1)<30))=true:=by
 rw[qM (es:=e::es) (by rw[vU,h1,h2];rfl)];have:=lG h3;have z:(e::es).length+([]:List Keyword).length+(if ([]:List Keyword).isEmpty then 0 else 1)<30:=by
  show es.length+1+0+0<30
  lia
 rw[dM z];rfl
noncomputable def vg(sc scope:Scope):Bool:=(match scope.kind with|.function=>true|_=>false)&&scope.names.all λy=>match y.2 with
 |.cell=>(match scope.names.lookup y.1 with|some .cell=>true|_=>false)
 |.free=>(match sc.names.lookup y.1 with|some .cell=>true|some .free=>true|_=>false)
 |.local=>(match scope.names.lookup y.1 with|some .local=>true|_=>false)
 |_=>true
theorem dw.of(h:vg sc scope=true):dw sc scope:=by
 unfold vg at h;rw[gB,iV] at h;obtain⟨h1,h2⟩:=h;refine⟨?_,λy hy z=>?_,λy hy z=>?_,λy hy z=>?_⟩
 ·split at h1
  ·assumption
  ·cases h1
 ·have:=h2 y hy;rw[z] at this;dsimp only at this;split at this
  ·assumption
  ·cases this
 ·have:=h2 y hy;rw[z] at this;dsimp only at this;split at this
  ·exact .inl (by assumption)
  ·exact .inr (by assumption)
  ·cases this
 ·have:=h2 y hy;rw[z] at this;dsimp only at this;split at this
  ·assumption
  ·cases this
noncomputable def frB(scope:Scope)(XN:List Str):List Str->List Nat->Bool
 |y::N,j::fr=>(match scope.names.lookup y with|some .free=>true|_=>false)&&decide (XN[j]?=some y)&&frB scope XN N fr
 |[],[]=>true
 |_,_=>false
theorem ZS:∀{N:List Str} {fr:List Nat},frB scope XN N fr=true->N.length=fr.length/\∀(i:Nat) (y:Str) (j:Nat),N[i]?=some y->fr[i]?=some j->scope.names.lookup y=some .free/\XN[j]?=some y
 |[],[],_=>⟨rfl,λi y j h=>by simp at h⟩
 |[],_::_,h=>by cases h
 |_::_,[],h=>by cases h
 |y::N,j::fr,h=>by
  unfold frB at h;rw[gB,gB,wU] at h;obtain⟨⟨h1,h2⟩,h3⟩:=h;obtain⟨l,q⟩:=ZS h3;refine⟨by simp[l],λi z m e1 e2=>?_⟩;cases i with
  |zero=>
   simp at e1 e2;subst e1 e2;refine⟨?_,h2⟩;split at h1
   ·assumption
   ·cases h1
  |succ i=>exact q i z m (by simpa using e1) (by simpa using e2)
noncomputable def okN(x:Str):Bool:=!(x==("__debug__" : Str)) && !(x==("__classdict__" : Str)) && !decide (x="__name__")
theorem yG(h:okN x=true):(x==("__debug__" : Str))=false/\(x==("__classdict__" : Str))=false/\x≠"__name__":=by
 unfold okN at h;simp only[gB,Bool.not_eq_true',decide_eq_false_iff_not] at h;exact⟨h.1.1,h.1.2,h.2⟩
theorem T3{env:Env}{k:NameKind}(hk:k≠.free):∀{names:List (Str×NameKind)} {x:Str},names.lookup x=some k->
  (names.map λ(n,k)=>if (k==NameKind.free&&env.scope.kind==.function&&env.kindOf n==some .cell) then (n,NameKind.cell) else (n,k)).lookup x=some k
 |[],x,h=>by simp at h
 |(n,q)::r,x,h=>by
  rw[rB] at h;rw[lK,rB];have hd:∀c:Bool,(if c=true then (n,NameKind.cell) else (n,q)).1=n:=λc=>by cases c<;>rfl
  rw[hd];by_cases z:x=n
  ·subst z;simp only[wW] at h ⊢;cases h
   split
   ·rename_i y;simp only[gB,Ce] at y;exact absurd y.1.1 hk
   ·rfl
  ·have z':(x==n)=false:=by simpa using z
   simp only[z'] at h ⊢;exact T3 hk h
noncomputable def vh(K:W.Frag):Sp:=λvs H Q _=>∃(a:Addr) (ns:List Int),vs=[.ref a]/\cY K H a (ns.map V.int)/\ns.length<=63/\Only H/\∀H',Q (.bl true) H'
theorem zi9{K:W.Frag}{cA:Cl}{m:List Xv->M Xv}(hm:∀ns:List Int,ns.length<=63->∃s',m [.d (.fl (ns.map D.int))] []=some (.ok (.d (.bl true)),s'))(vs:List V)(H:Hp)(Q:VK)(E:XK)(h:vh K vs H Q E):tO K cA m vs H Q E:=by
 obtain⟨a,ns,rfl,hq,hl,hO,k⟩:=h;obtain⟨U,ds,s,r1,r2,h⟩:=zkU (cA:=cA) (m:=m) hq (hm ns hl);refine⟨U,ds,s,r1,r2,?_⟩;unfold Run at h ⊢;split at h
 ·intro U' H' x r v rv;rw[h U' H' x r v rv];exact k H'
 ·exact λU' H' x r dx q=>(h U' H' x r dx q).elim
 ·exact h
theorem DW{K:W.Frag}{fd:FuncData}{p:Str}(h:∀a,bindArgs fd ⟨[a],[]⟩=pure [(p,a)]):Binds K fd [p] []:=.all λus hl=>by
 cases us with
 |nil=>cases hl
 |cons a r=>cases r with
  |nil=>exact h a
  |cons b r=>cases hl
theorem DX{K:W.Frag}{fd:FuncData}{p q:Str}(h:∀a b,bindArgs fd ⟨[a,b],[]⟩=pure [(p,a),(q,b)]):Binds K fd [p,q] []:=.all λus hl=>by
 cases us with
 |nil=>cases hl
 |cons a r=>cases r with
  |nil=>cases hl
  |cons b r=>cases r with
   |nil=>exact h a b
   |cons c r=>cases hl
theorem DY{K:W.Frag}{fd:FuncData}{p q t:Str}(h:∀a b c,bindArgs fd ⟨[a,b,c],[]⟩=pure [(p,a),(q,b),(t,c)]):Binds K fd [p,q,t] []:=.all λus hl=>by
 cases us with
 |nil=>cases hl
 |cons a r=>cases r with
  |nil=>cases hl
  |cons b r=>cases r with
   |nil=>cases hl
   |cons c r=>cases r with
    |nil=>exact h a b c
    |cons d r=>cases hl
theorem ZV:bootBuiltins "int"=some (.type "int"):=by decide +kernel
theorem ZW:bootBuiltins "bool"=some (.type "bool"):=by decide +kernel
theorem zlU:bootBuiltins "str"=some (.type "str"):=by decide +kernel
theorem yH:bootBuiltins "tuple"=some (.type "tuple"):=by decide +kernel
theorem qO:bootBuiltins "list"=some (.type "list"):=by decide +kernel
structure JE(X:Cx)(cA:Cl)(ao:Nat->Nat->Bool)(aj:Bool)(F:Fn)(EX:XS)(e:Expr)(m:E):Prop where
 o:SE X cA ao aj F EX e m
structure JA(X:Cx)(cA:Cl)(ao:Nat->Nat->Bool)(aj:Bool)(F:Fn)(EX:XS)(e:List Expr)(m:Es):Prop where
 o:SA X cA ao aj F EX e m
structure JT(X:Cx)(cA:Cl)(ao:Nat->Nat->Bool)(aj:Bool)(F:Fn)(EX:XS)(e:Expr)(m:E):Prop where
 o:ST X cA ao aj F EX e m
structure JW(X:Cx)(cA:Cl)(ao:Nat->Nat->Bool)(aj:Bool)(F:Fn)(EX:XS)(e:Expr)(m:E):Prop where
 o:SW X cA ao aj F EX e m
structure JC(X:Cx)(cA:Cl)(ao:Nat->Nat->Bool)(aj:Bool)(F:Fn)(EX:XS)(e:List Expr)(m:Eo):Prop where
 o:Gw X cA ao aj F EX e m
structure JO(X:Cx)(cA:Cl)(ao:Nat->Nat->Bool)(aj:Bool)(F:Fn)(EX:XS)(e:Option Expr)(m:Eo):Prop where
 o:Kf X cA ao aj F EX e m
structure JI(X:Cx)(cA:Cl)(ao:Nat->Nat->Bool)(aj:Bool)(F:Fn)(EX:XS)(tg e:Expr)(m:Wk):Prop where
 o:SI X cA ao aj F EX tg e m
structure JG(X:Cx)(cA:Cl)(ao:Nat->Nat->Bool)(aj:Bool)(F:Bool->Fn)(EX:XS)(e:Expr)(m:Tg):Prop where
 o:SG X cA ao aj F EX e m
structure JS(X:Cx)(cA:Cl)(ao:Nat->Nat->Bool)(aj:Bool)(F:Bool->Fn)(EX:XS)(e:Stmt)(m:St):Prop where
 o:SS X cA ao aj F EX e m
structure JB(X:Cx)(cA:Cl)(ao:Nat->Nat->Bool)(aj:Bool)(F:Bool->Fn)(EX:XS)(e:List Stmt)(m:cU):Prop where
 o:yE X cA ao aj F EX e m
structure JK(X:Cx)(x:Str)(k:NameKind):Prop where
 o:X.env.scope.names.lookup x=some k
structure JP(X:Cx)(cA:Cl)(op:CmpOp)(p:Pr):Prop where
 o:∃r,dF X (compareOp op) r/\bw X.K cA p (r2 r)
structure JQ(X:Cx)(cA:Cl)(op:Operator)(p:Pr):Prop where
 o:∃r,dF X (binaryOp op) r/\bw X.K cA p (r2 r)
structure JN(X:Cx)(cA:Cl)(kx:Expr)(k:Kd):Prop where
 o:PE X kx (tC (Gs cA k))
structure JR(X:Cx)(EX:XS):Prop where
 o:Raises X EX
structure JH(X:Cx):Prop where
 o:PassesOwn (model X.prog X.w) X.A X.env X.xe
structure JY(X:Cx)(tg:Expr)(g:TG):Prop where
 o:PG X tg g
noncomputable def rY:NameKind->Bool
 |.local=>true
 |.cell=>true
 |_=>false
noncomputable def D_:NameKind->Bool
 |.local=>true
 |.cell=>true
 |.free=>true
 |_=>false
section
variable {X:Cx}{cA:Cl}{ao:Nat->Nat->Bool}{aj:Bool}{F:Fn}{EX:XS}{a b c d e:Expr}{A B C Dd E':E}{pos p p2 apos:Pos}{es:List Expr}{Xs:Es}{x y:Str}{k k':NameKind}{q q1 q2 q3:Pr}{fz:Bool}
theorem ZX(h:scope.names.lookup x=some k)(hk:(match k with|.free=>false|_=>true)=true):JK (X.blk scope cl N Cc s3 H3 fp ak) x k:=
 ⟨T3 (by intro z;subst z;cases hk) h⟩
theorem Z0(i:Nat)(hN:X.N[i]?=some x)(h:JK X x k)(hv:D_ k=true)(hd:okN x=true):JE X cA ao aj F EX (.Name x pos) (.v i):=
 ⟨Za i hN (by cases k<;>first|exact .inl h.o|exact .inr (.inl h.o)|exact .inr (.inr h.o)|cases hv) (yG hd).1 (yG hd).2.1⟩
theorem zos(i:Nat)(hN:N[i]?=some x)(h:scope.names.lookup x=some .free)(hd:okN x=true):JE (X.blk scope cl N Cc s3 H3 fp ak) cA ao aj F EX (.Name x pos) (.v i):=
 ⟨Za i hN (.inr (RL h)) (yG hd).1 (yG hd).2.1⟩
theorem aJ{i j p}:JE X cA ao aj F EX (.Constant (.int i) j p) (.c (.int i)):=⟨zmI⟩
theorem mj{i j p}:JE X cA ao aj F EX (.Constant (.bool i) j p) (.c (.bl i)):=⟨znK⟩
theorem vm{j p}:JE X cA ao aj F EX (.Constant .none j p) (.c .non):=⟨zlQ⟩
theorem kZ{i j p}:JE X cA ao aj F EX (.Constant (.str i) j p) (.c (.str i)):=⟨zlX⟩
theorem zon(h:∃t,X.mg x=some (.int i t))(hg:JK X x .globalImplicit)(hd:okN x=true):JE X cA ao aj F EX (.Name x pos) (.c (.int i)):=by
 obtain⟨t,h⟩:=h;exact⟨zkp hg.o h (yG hd).1⟩
theorem Z9(h:∃t,X.mg x=some (.str i t))(hg:JK X x .globalImplicit)(hd:okN x=true):JE X cA ao aj F EX (.Name x pos) (.c (.str i)):=by
 obtain⟨t,h⟩:=h;exact⟨zi3 hg.o h (yG hd).1⟩
theorem j9:JQ X cA .Add .add:=⟨_,zfN,zkK⟩
theorem Ks:JQ X cA .Sub .ao:=⟨_,zmt,zl0⟩
theorem Gz:JQ X cA .Mult .mul:=⟨_,zk7,zlG⟩
theorem Ku:JQ X cA .FloorDiv .fdiv:=⟨_,zjj,zj0⟩
theorem Aq:JQ X cA .Mod .mod:=⟨_,zmb,zlP⟩
theorem Z_:JQ X cA .Pow .pow:=⟨_,zkH,zlV⟩
theorem cN(h:JQ X cA op q)(ha:JE X cA ao aj F EX a A)(hb:JE X cA ao aj F EX b B):JE X cA ao aj F EX (.BinOp a op b pos) (.pr fz q (.cons A (.cons B .nil))):=by
 obtain⟨r,h1,h2⟩:=h.o;exact⟨zlL h1 h2 ha.o hb.o⟩
theorem Ar(ha:JE X cA ao aj F EX a A):JE X cA ao aj F EX (.UnaryOp .USub a pos) (.pr true .neg (.cons A .nil)):=⟨zm1 Yg zmc ha.o⟩
theorem zk4(ha:JE X cA ao aj F EX a A):JE X cA ao aj F EX (.UnaryOp .Not a pos) (.not A):=⟨zlI ha.o⟩
theorem Av{op}(ha:JE X cA ao aj F EX a A):JE X cA ao aj F EX (.BoolOp op [a] pos) A:=⟨zlt ha.o⟩
theorem wz{rest:List Expr}(ha:JE X cA ao aj F EX a A)(hb:JE X cA ao aj F EX (.BoolOp .And (b::rest) pos) B):JE X cA ao aj F EX (.BoolOp .And (a::b::rest) pos) (.and A B):=⟨zlw ha.o hb.o⟩
theorem oN{k:Nat}(hr:cL k X.A):JP X cA .Eq .eq:=⟨_,zmk (vf hr),znp⟩
theorem Ed{k:Nat}(hr:cL k X.A):JP X cA .NotEq .ne:=⟨_,zkR (vf hr),zm0⟩
theorem Aw{k:Nat}(hr:cL k X.A):JP X cA .Lt .lt:=⟨_,Iv.or (zmC (by have:=vf hr;lia)),zm8⟩
theorem Oq:JP X cA .LtE .le:=⟨_,znV,znS⟩
theorem T4:JP X cA .Gt .gt:=⟨_,zmW,znj⟩
theorem zn8:JP X cA .GtE .ge:=⟨_,znr,zne⟩
theorem Ax{k:Nat}(hr:cL k X.A):JP X cA .In .inn:=⟨_,zku (vf hr),zno⟩
theorem zk6{k:Nat}(hr:cL k X.A):JP X cA .NotIn .nin:=⟨_,zju (vf hr),zms⟩
noncomputable def oA:Expr->Bool
 |.Set _ _ _=>false
 |_=>true
theorem yI(h:oA b=true):behindInMarks op b=false:=by cases b<;>first|rfl|cases h
theorem vo(ho:JP X cA op q)(ha:JE X cA ao aj F EX a A)(hb:JE X cA ao aj F EX b B)(h1:oA b=true:=by rfl):JE X cA ao aj F EX (.Compare a [op] [b] pos) (.pr true q (.cons A (.cons B .nil))):=by
 obtain⟨r,h2,h3⟩:=ho.o;exact⟨zmm h2 h3 ha.o hb.o (yI h1)⟩
theorem fX(ho:JP X cA op q)(ha:JE X cA ao aj F EX a A)(hb:JE X cA ao aj F EX b B)(h1:oA b=true:=by rfl):JT X cA ao aj F EX (.Compare a [op] [b] pos) (.pr true q (.cons A (.cons B .nil))):=by
 obtain⟨r,h2,h3⟩:=ho.o;exact⟨zkz h2 h3 ha.o hb.o (yI h1)⟩
theorem zm2(h1:JP X cA op q1)(h2:JP X cA op' q2)(ha:JE X cA ao aj F EX a A)(hb:JE X cA ao aj F EX b B)(hc:JE X cA ao aj F EX c C)(hm:oA c=true:=by rfl):JE X cA ao aj F EX (.Compare a [op,op'] [b,c] pos) (.uQ q1 q2 A B C):=by
 obtain⟨r,h3,h4⟩:=h1.o;obtain⟨r',h5,h6⟩:=h2.o;exact⟨zkZ h3 h4 h5 h6 ha.o hb.o hc.o (yI hm)⟩
theorem zm9(h1:JP X cA op q1)(h2:JP X cA op' q2)(ha:JE X cA ao aj F EX a A)(hb:JE X cA ao aj F EX b B)(hc:JE X cA ao aj F EX c C)(hm:oA c=true:=by rfl):JT X cA ao aj F EX (.Compare a [op,op'] [b,c] pos) (.uQ q1 q2 A B C):=by
 obtain⟨r,h3,h4⟩:=h1.o;obtain⟨r',h5,h6⟩:=h2.o;exact⟨zlh h3 h4 h5 h6 ha.o hb.o hc.o (yI hm)⟩
theorem zmZ{j p}(ha:JE X cA ao aj F EX a A):JE X cA ao aj F EX (.Compare a [.Is] [.Constant .none j p] pos) (.pr true .yc (.cons A .nil)):=⟨zly ha.o⟩
theorem znl{j p}(ha:JE X cA ao aj F EX a A):JT X cA ao aj F EX (.Compare a [.Is] [.Constant .none j p] pos) (.pr true .yc (.cons A .nil)):=⟨zlb ha.o⟩
noncomputable def Kv:Expr->Bool
 |.Call _ _ _ _=>true
 |.Name _ _=>true
 |.Subscript _ _ _=>true
 |.Attribute _ _ _=>true
 |_=>false
theorem j_(ha:JE X cA ao aj F EX a A)(he:Kv a=true:=by rfl):JT X cA ao aj F EX a A:=⟨zmH ha.o (by cases a<;>first|(intro _;rfl)|cases he)⟩
theorem lF(ha:JT X cA ao aj F EX a A):JT X cA ao aj F EX (.UnaryOp .Not a pos) (.not A):=⟨zkG ha.o⟩
theorem Kw(ha:JT X cA ao aj F EX a A):JW X cA ao aj F EX (.BoolOp .And [a] pos) A:=⟨zjr ha.o⟩
theorem yJ(ha:JT X cA ao aj F EX a A):JW X cA ao aj F EX (.BoolOp .Or [a] pos) A:=⟨zmM ha.o⟩
theorem GC{rest:List Expr}(ha:JT X cA ao aj F EX a A)(hb:JW X cA ao aj F EX (.BoolOp .And (b::rest) pos) B):JW X cA ao aj F EX (.BoolOp .And (a::b::rest) pos) (.and A B):=⟨zmE ha.o hb.o⟩
theorem qP{rest:List Expr}(ha:JT X cA ao aj F EX a A)(hb:JW X cA ao aj F EX (.BoolOp .Or (b::rest) pos) B):JW X cA ao aj F EX (.BoolOp .Or (a::b::rest) pos) (.or A B):=⟨znD ha.o hb.o⟩
theorem qQ(h:JW X cA ao aj F EX a A):JT X cA ao aj F EX a A:=⟨zoo h.o⟩
theorem T5(hc:JT X cA ao aj F EX c C)(ha:JE X cA ao aj F EX a A)(hb:JE X cA ao aj F EX b B):JE X cA ao aj F EX (.IfExp c a b pos) (.ite C A B):=⟨zkF hc.o ha.o hb.o⟩
theorem aH:JA X cA ao aj F EX [] .nil:=⟨zln⟩
theorem aq(ha:JE X cA ao aj F EX a A)(hr:JA X cA ao aj F EX es Xs)(hs:aF a=true:=by rfl):JA X cA ao aj F EX (a::es) (.cons A Xs):=⟨zjT ha.o hr.o (bA hs)⟩
theorem cO{k}(ha:JA X cA ao aj F EX es Xs)(hz:decide (Es.len Xs<=sizeLine)=true:=by rfl):JE X cA ao aj F EX (.Tuple es k pos) (.tup Xs):=⟨zmo ha.o (lG hz)⟩
theorem jK(ha:JA X cA ao aj F EX es Xs)(hz:decide (Es.len Xs<=sizeLine)=true:=by rfl):JE X cA ao aj F EX (.List es pos) (.lst fz Xs):=⟨zma ha.o (lG hz)⟩
theorem zkT{j p1 j2 p3}{k:Str}{i:Int}:JE X cA ao aj F EX (.Dict [some (.Constant (.str k) j p1)] [.Constant (.int i) j2 p3] pos) (.uR k i):=⟨zjA⟩
noncomputable def vp:Expr->Bool
 |.Constant _ _ _=>true
 |.Name _ _=>true
 |.Call _ _ _ _=>true
 |.BinOp _ _ _ _=>true
 |.UnaryOp _ _ _=>true
 |.Subscript _ _ _=>true
 |.IfExp _ _ _ _=>true
 |.Attribute _ _ _=>true
 |.Compare _ _ _ _=>true
 |.BoolOp _ _ _=>true
 |_=>false
theorem cJ(ha:JE X cA ao aj F EX a A)(hb:JE X cA ao aj F EX b B)(hs:vp b=true:=by rfl):JE X cA ao aj F EX (.Subscript a b pos) (.pr true .ix (.cons A (.cons B .nil))):=⟨zmV znn ha.o hb.o (by cases b<;>first|(intro _ _;rfl)|cases hs)⟩
theorem rZ:JO X cA ao aj F EX none .no:=⟨zmR⟩
theorem pR(ha:JE X cA ao aj F EX a A):JO X cA ao aj F EX (some a) (.yes A):=⟨zmg ha.o⟩
theorem qR{lo hi:Option Expr}{Lo Hi:Eo}(ha:JE X cA ao aj F EX a A)(hl:JO X cA ao aj F EX lo Lo)(hh:JO X cA ao aj F EX hi Hi):JE X cA ao aj F EX (.Subscript a (.Slice lo hi none p2) pos) (.sl fz A Lo Hi):=⟨znR ha.o hl.o hh.o⟩
theorem zl2(f:Nat){cm:Bool}{k:Nat}{fa:Addr}{fd:FuncData}{ps:List Str}(Fo:fD X.prog X.w X.K X.mg X.base (lA X.prog X.w) cm k fa fd ps (tO X.K cA (F f)))(rG:cm=true->X.aj=true)(hr:cL k X.A)(hm:X.mg x=some (.ref fa))(hk:PySem.W.keepIn X.K (.ref fa)=true)(hb:Binds X.K fd ps [])(R:JR X EX)(hg:JK X x .globalImplicit)
  (ha:JA X cA ao aj F EX (e::es) Xs) (hd:okN x=true) (he:aF e=true:=by rfl) (bR:es.all aF=true:=by rfl) :
  JE X cA ao aj F EX (.Call (.Name x p) (e::es) [] pos) (.call f Xs):=⟨zjk Fo rG hr hg.o hm hk hb R.o ha.o (yG hd).1 (bA he) (bB bR)⟩
theorem su(hv:Gs cA kd=.ty T)(hm:X.mg x=none)(hb:bootBuiltins x=some (.type T))(hg:JK X x .globalImplicit)(hd:okN x=true):JN X cA (.Name x pos) kd:=⟨λak s Z H Q I h=>by
 rw[hv] at h;exact uo I hg.o hm hb ⟨.ty T,H,I,rfl,h⟩ (yG hd).2.2 (yG hd).1⟩
theorem sy(h0:(u9 kd).isSome=true)(hm:X.mg "isinstance"=none)(hg:JK X "isinstance" .globalImplicit)(ha:JE X cA ao aj F EX a A)(hk:JN X cA kx kd)(h1:aF a=true:=by rfl)(h2:aF kx=true:=by rfl):JE X cA ao aj F EX (.Call (.Name "isinstance" p) [a,kx] [] pos) (.jU A kd):=
 ⟨zk9 (λz=>by rw[z] at h0;cases h0) hg.o hm ha.o hk.o (bA h1) (bA h2) (bB (by rw[vU,h2];rfl))⟩
theorem ju(hm:X.mg "len"=none)(hg:JK X "len" .globalImplicit)(ha:JA X cA ao aj F EX (e::es) Xs)(he:aF e=true:=by rfl)(bR:es.all aF=true:=by rfl):JE X cA ao aj F EX (.Call (.Name "len" p) (e::es) [] pos) (.pr fz .len Xs):=⟨Aj zcW zkA hg.o hm PySem.boot_len ha.o Dc Dc (bA he) (bB bR)⟩
theorem ziP(hc:X.aj=true)(hm:X.mg "max"=none)(hg:JK X "max" .globalImplicit)(ha:JA X cA ao aj F EX (e::es) Xs)(he:aF e=true:=by rfl)(bR:es.all aF=true:=by rfl):JE X cA ao aj F EX (.Call (.Name "max" p) (e::es) [] pos) (.pr fz .max2 Xs):=⟨Aj (zgN hc) zkc hg.o hm PyProof.Rows.boot_max ha.o Dc Dc (bA he) (bB bR)⟩
theorem zkx(hc:X.aj=true)(hm:X.mg "min"=none)(hg:JK X "min" .globalImplicit)(ha:JA X cA ao aj F EX (e::es) Xs)(he:aF e=true:=by rfl)(bR:es.all aF=true:=by rfl):JE X cA ao aj F EX (.Call (.Name "min" p) (e::es) [] pos) (.pr fz .min2 Xs):=⟨Aj (zfs hc) zki hg.o hm PyProof.Rows.boot_min ha.o Dc Dc (bA he) (bB bR)⟩
theorem ziT(hm:X.mg "int"=none)(hg:JK X "int" .globalImplicit)(ha:JA X cA ao aj F EX (e::es) Xs)(he:aF e=true:=by rfl)(bR:es.all aF=true:=by rfl):JE X cA ao aj F EX (.Call (.Name "int" p) (e::es) [] pos) (.pr fz .uO Xs):=⟨Tj zgu zjS hg.o hm PyProof.Rows.boot_int ha.o Dc Dc (bA he) (bB bR)⟩
theorem zhW(hm:X.mg "divmod"=none)(hg:JK X "divmod" .globalImplicit)(ha:JA X cA ao aj F EX (e::es) Xs)(he:aF e=true:=by rfl)(bR:es.all aF=true:=by rfl):JE X cA ao aj F EX (.Call (.Name "divmod" p) (e::es) [] pos) (.pr fz .divmod Xs):=⟨Aj zdM zfU hg.o hm PyProof.Rows.boot_divmod ha.o Dc Dc (bA he) (bB bR)⟩
theorem wA(hc:X.aj=true)(hm:X.mg "all"=none)(hg:JK X "all" .globalImplicit)(ha:JA X cA ao aj F EX (e::es) Xs)(he:aF e=true:=by rfl)(bR:es.all aF=true:=by rfl):JE X cA ao aj F EX (.Call (.Name "all" p) (e::es) [] pos) (.pr fz .all Xs):=⟨Aj (zfM hc) zmD hg.o hm PyProof.Rows.boot_all ha.o Dc Dc (bA he) (bB bR)⟩
theorem ziZ(hm:X.mg "list"=none)(hg:JK X "list" .globalImplicit)(ha:JA X cA ao aj F EX (e::es) Xs)(he:aF e=true:=by rfl)(bR:es.all aF=true:=by rfl):JE X cA ao aj F EX (.Call (.Name "list" p) (e::es) [] pos) (.pr fz .list Xs):=⟨Tj zdg zkh hg.o hm qO ha.o Dc Dc (bA he) (bB bR)⟩
theorem Ot(hm:X.mg "tuple"=none)(hg:JK X "tuple" .globalImplicit)(ha:JA X cA ao aj F EX (e::es) Xs)(he:aF e=true:=by rfl)(bR:es.all aF=true:=by rfl):JE X cA ao aj F EX (.Call (.Name "tuple" p) (e::es) [] pos) (.pr fz .tuple Xs):=⟨Tj zcA zhJ hg.o hm yH ha.o Dc Dc (bA he) (bB bR)⟩
theorem T6(ho:JE X cA ao aj F EX a A)(hb:JE X cA ao aj F EX b B)(iG:attributeBase a "append" X.env (eval a X.env)=eval a X.env:=by rfl)(iH:(apos.endLine==pos.line)=true:=by rfl)(hs:aF b=true:=by rfl) :
  JE X cA ao aj F EX (.Call (.Attribute a "append" apos) [b] [] pos) (.push A B):=⟨zj9 ho.o hb.o iG (qN hs rfl rfl) iH (bA hs) rfl⟩
theorem sE:JC X cA ao aj F EX [] .no:=⟨zlE⟩
theorem Ay(h:JT X cA ao aj F EX c C):JC X cA ao aj F EX [c] (.yes C):=⟨zkq h.o⟩
theorem nJ(ha:JE X cA ao aj F EX a A):JI X cA ao aj F EX tg a (.seq A):=⟨zml ha.o⟩
theorem zor(hmg:X.mg "range"=none)(pQ:JK X "range" .globalImplicit)(ha:JE X cA ao aj F EX a A)(hb:JE X cA ao aj F EX b B)(h1:aF a=true:=by rfl)(h2:aF b=true:=by rfl):JI X cA ao aj F EX tg (.Call (.Name "range" p) [a,b] [] pos) (.rg A B):=⟨zmX pQ.o hmg ha.o hb.o (bA h1) (bA h2)⟩
theorem Az(hmg:X.mg "range"=none)(pQ:JK X "range" .globalImplicit)(hb:JE X cA ao aj F EX b B)(h2:aF b=true:=by rfl):JI X cA ao aj F EX tg (.Call (.Name "range" p) [b] [] pos) (.rg (.c (.int 0)) B):=⟨zkC pQ.o hmg hb.o (bA h2)⟩
noncomputable def Ky(scope:Scope)(x:Str):Bool:=match scope.names.lookup x with
 |some .local=>true
 |some .cell=>true
 |_=>false
theorem GD(h:Ky scope x=true):Loc (X.blk scope cl N Cc s3 H3 fp ak).env.scope x/\((X.blk scope cl N Cc s3 H3 fp ak).fn x=true\/(X.blk scope cl N Cc s3 H3 fp ak).env.scope.names.lookup x=some .local):=by
 unfold Ky at h;split at h
 ·rename_i z;exact⟨.inl (lookup_relabel_local z),.inr (lookup_relabel_local z)⟩
 ·rename_i z;exact⟨.inr (T3 (by intro y;cases y) z),.inl (by show (scope.names.lookup x==some NameKind.cell)=true;rw[z];rfl)⟩
 ·cases h
theorem qT(i:Nat)(yK:N.Nodup)(hi:N[i]?=some x)(hl:Ky scope x=true):JY (X.blk scope cl N Cc s3 H3 fp ak) (.Name x tp) (dU i):=
 ⟨Ny yK hi (GD hl).1 (GD hl).2⟩
theorem A_(i j:Nat)(hc:X.aj=true)(yK:N.Nodup)(hi:N[i]?=some x)(hj:N[j]?=some y)(hl:Ky scope x=true)(vd:Ky scope y=true):JY (X.blk scope cl N Cc s3 H3 fp ak) (.Tuple [.Name x px,.Name y py] kt tp) (uw X.K 2 (iC (dU i) (iC (dU j) ur))):=
 ⟨ZQ (X:=X.blk scope cl N Cc s3 H3 fp ak) hc yK hi hj (GD hl).1 (GD vd).1 (GD hl).2 (GD vd).2⟩
theorem GF{scope:Scope}{XN:List Str}{M0 N:List Str}{fr:List Nat}(h:frB scope XN N fr=true):(M0++N).length=M0.length+fr.length/\∀(i:Nat) (y:Str) (j:Nat),(M0++N)[M0.length+i]?=some y->fr[i]?=some j->scope.names.lookup y=some .free/\XN[j]?=some y:=by
 obtain⟨l,q⟩:=ZS h;refine⟨by rw[h_,l],λi y j e1 e2=>q i y j ?_ e2⟩;rw[oW gV] at e1;rw[show M0.length+i-M0.length=i by lia] at e1;exact e1
theorem oO{elt iter tg:Expr}{ifs:List Expr}{scope:Scope}{cond:Eo}{aO:List Nat}{g:TG}{w:Wk}(sc:Scope)(XN M0 N:List Str)(fr:List Nat)(hc:X.aj=true)(Kz:X.env.scope=sc)(wu:X.N=XN)(hB:vg sc scope=true)(hf:frB scope XN N fr=true)(hT:gH X.K cA g aO)(cG:aO.all (λi=>decide (i<M0.length))=true)
  (hi:JI X cA ao aj F EX tg iter w) (hg:∀cl C s3 H3 fp ak,JY (X.blk scope cl (M0++N) C s3 H3 fp ak) tg g)
  (ht:∀cl C s3 H3 fp ak,JC (X.blk scope cl (M0++N) C s3 H3 fp ak) cA ao aj F (λ_ _ _ _=>False) ifs cond) (he:∀cl C s3 H3 fp ak,JE (X.blk scope cl (M0++N) C s3 H3 fp ak) cA ao aj F (λ_ _ _ _=>False) elt B)
  (hs:∀x,foldedSetIterable iter X.env x=pure x:=by intro _;rfl):JE X cA ao aj F EX (.ListComp elt [⟨tg,iter,ifs,0⟩] scope pos) (.comp fz B aO w fr M0.length cond):=
 ⟨zi7 hc (dw.of (Kz▸hB)) hi.o (GF (wu▸hf)).1 (GF (wu▸hf)).2 (λa b c d e f=>(hg a b c d e f).o) hT (λi hi=>lG (iV.mp cG i hi)) (λa b c d e f=>(ht a b c d e f).o) (λa b c d e f=>(he a b c d e f).o) hs⟩
theorem wB:JR X (λ_ _ _ _=>False):=⟨zgy⟩
theorem dY{P:Program}{w:World}{K:W.Frag}{mg:Str->Option Value}{base:Heap}{N:List Str}{qual:Str}{scope:Scope}{f:Addr}{cd:Value}{A:Around}{outer:List Env}{s:Shared}{H:Hp}{E:XK}{cm:Bool} :
  JR (i_ (lA P w) P w K mg base N qual scope f cd A outer s H E cm) (λ_ C dx H'=>E C dx H'):=⟨ze2⟩
theorem Ef{CX:tG}{P:Program}{w:World}{K:W.Frag}{mg:Str->Option Value}{base:Heap}{N:List Str}{qual:Str}{scope:Scope}{f:Addr}{cd:Value}{A:Around}{outer:List Env}{s:Shared}{H:Hp}{E:XK}{cm:Bool} :
  JH (i_ CX P w K mg base N qual scope f cd A outer s H E cm):=⟨PassesOwn.leaving⟩
end
section
variable {X:Cx}{cA:Cl}{ao:Nat->Nat->Bool}{aj:Bool}{F:Bool->Fn}{EX:XS}{a b c d e:Expr}{A B C:E}{pos p p2:Pos}{st:Stmt}{sts body orelse:List Stmt}{m:St}{ms mb me mh:cU}{es:List Expr}{Xs:Es}{x y n:Str}{k k':NameKind}
theorem KC(h:JK X x k)(hv:rY k=true):Loc X.env.scope x:=by cases k<;>first|exact .inl h.o|exact .inr h.o|cases hv
theorem KD(h:JK X x k)(hv:X.fn x=true\/k=.local):X.fn x=true\/X.env.scope.names.lookup x=some .local:=by
 rcases hv with hv|hv
 ·exact .inl hv
 ·subst hv;exact .inr h.o
theorem aX:JB X cA ao aj F EX [] .nil:=⟨zjD⟩
theorem aM(h1:JS X cA ao aj F EX st m)(h2:JB X cA ao aj F EX sts ms):JB X cA ao aj F EX (st::sts) (.cons m ms):=⟨zhf h1.o h2.o⟩
theorem zop:JS X cA ao aj F EX st .no:=⟨znw⟩
theorem Ou(ha:JE X cA ao aj (F aj) EX a A)(hs:swapsWith a none pos.line X.env=pure false:=by rfl):JS X cA ao aj F EX (.Expr a pos) (.ex A):=⟨znJ ha.o hs⟩
theorem cH(ha:JE X cA ao aj (F aj) EX a A):JS X cA ao aj F EX (.Return (some a) pos) (.ret A):=⟨zmx ha.o⟩
theorem gJ(i:Nat)(hN:X.N.Nodup)(hi:X.N[i]?=some x)(hx:JK X x k)(hl:rY k=true)(ha:JE X cA ao aj (F aj) EX a A)(hs:swapsWith a (some (.Name x p)) pos.line X.env=pure false:=by rfl)(hf:X.fn x=true\/k=.local:=by first|exact .inl rfl|exact .inr rfl):JS X cA ao aj F EX (.Assign [.Name x p] a pos) (.asg (.nm i) A):=
 ⟨zk1 hN hi (KC hx hl) ha.o hs (KD hx hf)⟩
theorem Ov{elt iter tg:Expr}{ifs:List Expr}{scope:Scope}{cond:Eo}{aO:List Nat}{g:TG}{w:Wk}{fz:Bool}{py spos:Pos}(i:Nat)(sc:Scope)(XN M0 N:List Str)(fr:List Nat)(hN:X.N.Nodup)(hi':X.N[i]?=some y)(hx:JK X y k)(hl:rY k=true)(hc:X.aj=true)(Kz:X.env.scope=sc)(wu:X.N=XN)(hB:vg sc scope=true)(hf:frB scope XN N fr=true)(hT:gH X.K cA g aO)(cG:aO.all (λi=>decide (i<M0.length))=true)
  (hi:JI X cA ao aj (F aj) EX tg iter w) (hg:∀cl C s3 H3 fp ak,JY (X.blk scope cl (M0++N) C s3 H3 fp ak) tg g)
  (ht:∀cl C s3 H3 fp ak,JC (X.blk scope cl (M0++N) C s3 H3 fp ak) cA ao aj (F aj) (λ_ _ _ _=>False) ifs cond) (he:∀cl C s3 H3 fp ak,JE (X.blk scope cl (M0++N) C s3 H3 fp ak) cA ao aj (F aj) (λ_ _ _ _=>False) elt B)
  (Jr:swapsWith (.ListComp elt [⟨tg,iter,ifs,0⟩] scope pos) (some (.Name y py)) spos.line X.env=pure true:=by rfl) (hff:X.fn y=true\/k=.local:=by first|exact .inl rfl|exact .inr rfl) (hs:∀x,foldedSetIterable iter X.env x=pure x:=by intro _;rfl) :
  JS X cA ao aj F EX (.Assign [.Name y py] (.ListComp elt [⟨tg,iter,ifs,0⟩] scope pos) spos) (.asg (.nm i) (.comp fz B aO w fr M0.length cond)):=
 ⟨zjs hc hN hi' (KC hx hl) (KD hx hff) (dw.of (Kz▸hB)) hi.o (GF (wu▸hf)).1 (GF (wu▸hf)).2 (λa b c d e f=>(hg a b c d e f).o) hT (λi hi=>lG (iV.mp cG i hi)) (λa b c d e f=>(ht a b c d e f).o) (λa b c d e f=>(he a b c d e f).o) Jr hs⟩
theorem Ow(i j:Nat){k0}(hc:X.aj=true)(gY:aj=true)(hN:X.N.Nodup)(hi:X.N[i]?=some x)(hj:X.N[j]?=some y)(hx:JK X x k)(hy:JK X y k')(hlx:rY k=true)(hly:rY k'=true)(ha:JE X cA ao aj (F aj) EX a A)
  (Kq:X.fn x=true\/k=.local:=by first|exact .inl rfl|exact .inr rfl) (Kr:X.fn y=true\/k'=.local:=by first|exact .inl rfl|exact .inr rfl)
  (hs:swapsWithSole [.Tuple [.Name x px,.Name y py] k0 pt] a pos.line X.env=pure false:=by rfl) (hw:swappedStores [.Tuple [.Name x px,.Name y py] k0 pt] a X.env=pure none:=by rfl) (h1:(assignEach [.Tuple [.Name x px,.Name y py] k0 pt] X.env).map (·.2)=[assign (.Tuple [.Name x px,.Name y py] k0 pt) X.env]:=by rfl) :
  JS X cA ao aj F EX (.Assign [.Tuple [.Name x px,.Name y py] k0 pt] a pos) (.asg (.tp [i,j]) A):=⟨zkd hc gY hN hi hj (KC hx hlx) (KC hy hly) (KD hx Kq) (KD hy Kr) ha.o hs hw h1⟩
theorem zk8(hO:JE X cA ao aj (F aj) EX oo O)(hI:JE X cA ao aj (F aj) EX ii I')(ha:JE X cA ao aj (F aj) EX a A)
  (DR:∀v,assign (.Subscript oo ii p) X.env v=(do
   let obj <-holding [v] (eval oo X.env)
   let at_ <-holding [v,obj] (eval ii X.env)
   standAt p
   holding [v,obj,at_] (setItem obj at_ v)
   release [v,obj,at_] []):=by intro _;rfl) (hs:swapsWithSole [.Subscript oo ii p] a pos.line X.env=pure false:=by rfl) (hw:swappedStores [.Subscript oo ii p] a X.env=pure none:=by rfl)
  (h1:(assignEach [.Subscript oo ii p] X.env).map (·.2)=[assign (.Subscript oo ii p) X.env]:=by rfl):JS X cA ao aj F EX (.Assign [.Subscript oo ii p] a pos) (.asg (.ao O I') A):=⟨zmz hO.o hI.o ha.o DR hs hw h1⟩
theorem iI(hc:JT X cA ao aj (F aj) EX c C)(ht:JB X cA ao aj F EX body mb)(he:JB X cA ao aj F EX orelse me):JS X cA ao aj F EX (.If c body orelse pos) (.iff C mb me):=⟨znE hc.o ht.o he.o⟩
theorem Eh(i:Nat)(hN:X.N.Nodup)(hi:X.N[i]?=some x)(hx:JK X x k)(hl:rY k=true)(hf:X.fn x=true\/k=.local:=by first|exact .inl rfl|exact .inr rfl):JG X cA ao aj F EX (.Name x pos) (.nm i):=⟨zj4 hN hi (KC hx hl) (KD hx hf)⟩
theorem Ej(hp:JH X)(hc:X.aj=true)(gY:aj=true)(ha:JI X cA ao aj (F aj) EX tg a w)(hg:JG X cA ao aj F EX tg t)(hb:JB X cA ao aj F EX body mb)(hs:∀x,foldedSetIterable a X.env x=pure x:=by intro _;rfl):JS X cA ao aj F EX (.For tg a body [] pos) (.fr t w mb):=
 ⟨zlC hp.o hc gY ha.o hg.o hb.o hs⟩
end
theorem zmj{P:Program}{w:World}{K:W.Frag}{mg:Str->Option Value}{base:Heap}{cA:Cl}{ao:Nat->Nat->Bool}{T:Nat->Option Df}{x qual:Str}{st:Stmt}{f:Addr}{fd:FuncData}{N ps:List Str}{k n:Nat}{cm:Bool}{df:Df}(F:yF K x qual st f fd)(S:fZ N ps (aA st))(hT:T n=some df)(hp:df.jB=ps.length)(hm:df.many=N.length)
  (hb:∀(cdv:Value) (A:Around) (outer:List Env) (s:Shared) (H:Hp) (E:XK),cL k (A.deeper (envOfC qual (aA st) s.heap.objs.size f cdv))->
   JB (i_ (lA P w) P w K mg base N qual (aA st) f cdv A outer s H E cm) cA ao cm (λc=>call ao T k c) (λ_ C dx H'=>E C dx H') (bx st) df.body) :
  fD P w K mg base (lA P w) cm (k+1) f fd ps (tO K cA (call ao T (k+1) cm n)):=zll F S hT hp hm λcdv A outer s H E hr=>(hb cdv A outer s H E hr).o
end Mi
namespace Mi
open PySem PySem.Spec PyProof.Rows L2 PySem.W
theorem zlH{fd:FuncData}{x:Str}{st:Stmt}(h:tu fd=vV x st):fd=fnOf x x (bO st) (bx st) (aA st) .none fd.kwdefaults fd.doc fd.pyModule fd.annotations fd.code fd.closureTuple:=by
 cases fd;unfold tu vV at h;cases h;rfl
noncomputable def jE(K:Frag)(x:Str):Addr:=match Cg K x with
 |some p=>p.1
 |none=>0
noncomputable def fdOf(K:Frag)(x:Str)(st:Stmt):FuncData:=match Cg K x with
 |some p=>p.2
 |none=>vV x st
structure FnAt(K:Frag)(x:Str)(st:Stmt):Prop where
 ns:nsIn K mainGlobals x=some (some (.ref (jE K x)))
 fn:yF K x x st (jE K x) (fdOf K x st)
theorem znf{K:Frag}{x:Str}{st:Stmt}(h:(Cg K x).map (λp=>tu p.2)=some (vV x st)):FnAt K x st:=by
 cases e:Cg K x with
 |none=>rw[e] at h;cases h
 |some p=>
  rw[e] at h;have hp:tu p.2=vV x st:=dJ h;have h1:jE K x=p.1:=by unfold jE;rw[e]
  have h2:fdOf K x st=p.2:=by unfold fdOf;rw[e]
  unfold Cg at e;split at e
  ·rename_i f hf;split at e
   ·rename_i oc od fd sl hl;split at e
    ·rename_i hc;cases e;rw[gB] at hc;refine⟨by rw[h1];exact hf,?_⟩;rw[h1,h2];exact⟨⟨oc,od,_,_,_,_,_,_,sl,zlH hp,hl,hc.1⟩,hc.2⟩
    ·cases e
   ·cases e
  ·cases e
theorem FnAt.m{K:Frag}{x:Str}{st:Stmt}(F:FnAt K x st){h:Heap}{mg:Str->Option Value}(X:K.In h)(G:h.Ns mainGlobals mg):mg x=some (.ref (jE K x)):=mg_of X G F.ns
theorem zkr{K:Frag}{x:Str}{i:Int}(h:mF K (x,i)=true){hp:Heap}{mg:Str->Option Value}(X:K.In hp)(G:hp.Ns mainGlobals mg):∃t,mg x=some (.int i t):=by
 unfold mF at h;split at h
 ·rename_i j t e;rw[wU] at h;subst h;exact⟨t,mg_of X G e⟩
 ·cases h
theorem ziA{K:Frag}{x y:Str}(h:mH K (x,y)=true){hp:Heap}{mg:Str->Option Value}(X:K.In hp)(G:hp.Ns mainGlobals mg):∃t,mg x=some (.str y t):=by
 unfold mH at h;split at h
 ·rename_i j t e;rw[wU] at h;subst h;exact⟨t,mg_of X G e⟩
 ·cases h
theorem oE{K:Frag}{x:Str}(h:qp K x=true){hp:Heap}{mg:Str->Option Value}(X:K.In hp)(G:hp.Ns mainGlobals mg):mg x=none:=by
 refine mg_none_of X G ?_;unfold qp at h;split at h
 ·rename_i e;exact e
 ·cases h
structure Ba(l:Lk)(K:Frag):Prop where
 cl:∀x∈l.HW,HN K x=true
 cs:l.HW.isEmpty=true\/zN K (l.L K)=true
 ra:∀k∈l.Xw,HS K (iW (l.L K) k)=true
 ca:∀k∈l.Xx,subB K (l.L K) k=true
 it:∀p∈l.Gb,mF K p=true
 no:∀x∈l.Xu,qp K x=true
 st:∀p∈l.Xy,mH K p=true
theorem Kaa{l:Lk}{K:Frag}(h:l.good K=true):Ba l K:=by
 unfold Lk.good at h;simp only[gB,Hy,iV] at h;obtain⟨⟨⟨⟨⟨⟨h1,h2⟩,h3⟩,h4⟩,h5⟩,h6⟩,h7⟩:=h;exact⟨h1,h2,h3,h4,h5,h6,h7⟩
theorem yL{K:Frag}{x:Str}{st:Stmt}{f:Addr}{fd:FuncData}{p:Str}(F:yF K x x st f fd)(h:∀(kV doc pm:Value) (an:Option Addr) (cdv ct a:Value),bindArgs (fnOf x x (bO st) (bx st) (aA st) .none kV doc pm an cdv ct) ⟨[a],[]⟩=pure [(p,a)]):Binds K fd [p] []:=by
 obtain⟨oc,od,kV,doc,pm,an,cdv,ct,osl,rfl,lk,oJ⟩:=F.ex;exact DW (h kV doc pm an cdv ct)
theorem yM{K:Frag}{x:Str}{st:Stmt}{f:Addr}{fd:FuncData}{p q:Str}(F:yF K x x st f fd)(h:∀(kV doc pm:Value) (an:Option Addr) (cdv ct a b:Value),bindArgs (fnOf x x (bO st) (bx st) (aA st) .none kV doc pm an cdv ct) ⟨[a,b],[]⟩=pure [(p,a),(q,b)]):Binds K fd [p,q] []:=by
 obtain⟨oc,od,kV,doc,pm,an,cdv,ct,osl,rfl,lk,oJ⟩:=F.ex;exact DX (h kV doc pm an cdv ct)
theorem yN{K:Frag}{x:Str}{st:Stmt}{f:Addr}{fd:FuncData}{p q t:Str}(F:yF K x x st f fd)(h:∀(kV doc pm:Value) (an:Option Addr) (cdv ct a b c:Value),bindArgs (fnOf x x (bO st) (bx st) (aA st) .none kV doc pm an cdv ct) ⟨[a,b,c],[]⟩=pure [(p,a),(q,b),(t,c)]):Binds K fd [p,q,t] []:=by
 obtain⟨oc,od,kV,doc,pm,an,cdv,ct,osl,rfl,lk,oJ⟩:=F.ex;exact DY (h kV doc pm an cdv ct)
theorem Ek{K:Frag}{x:Str}{st:Stmt}{f:Addr}{fd:FuncData}{p:Str}(F:yF K x x st f fd)(h:∀(kV doc pm:Value) (an:Option Addr) (cdv ct a:Value),bindArgs (fnOf x x (bO st) (bx st) (aA st) .none kV doc pm an cdv ct) ⟨[a],[]⟩=pure [(p,a)]):∀(s:Shared) (u:Value),BindsTo s fd ⟨[u],[]⟩ [(p,u)]:=by
 obtain⟨oc,od,kV,doc,pm,an,cdv,ct,osl,rfl,lk,oJ⟩:=F.ex;exact λs u=>.of_eq (h kV doc pm an cdv ct u)
end Mi
namespace Mi
open PySem PySem.Spec PyProof.Rows L2
theorem zdj:∀{is:List Nat} {ds:List α} {J J':List (Option α)},fV is ds J=some J'->∀j,j∉is->J'[j]?=J[j]?
 |[],[],J,J',e,j,_=>by cases e;rfl
 |[],_::_,J,J',e,j,_=>by cases e
 |_::_,[],J,J',e,j,_=>by cases e
 |i::is,d::ds,J,J',e,j,h=>by
  have h1:=zdj (is:=is) (ds:=ds) e j (λz=>h (eF _ z));rw[h1,tZ (λz=>h (by rw[z];exact gA))]
theorem zhS{tg:List Nat}{x:D}{J J':Vs}(e:cW tg x J=some J')(j:Nat)(h:j∉tg):J'[j]?=J[j]?:=by
 unfold cW at e;split at e
 ·cases e;rw[tZ (λz=>h (by simp[z]))]
 ·cases ht:jX x with
  |none=>rw[ht] at e;cases e
  |some ds=>rw[ht] at e;exact zdj e j h
theorem zhR{many:Nat}{fr:List Nat}{J:Vs}{i:Nat}(h:i<many):(blk many fr J)[i]?=some none:=by
 unfold blk;rw[oX (by simpa using h),G9,if_pos h]
section
variable {K:W.Frag}{cA:Cl}{U U' jY:Ph}{H H' m7:Hp}{s:S}
theorem Ext.put{Dd:Addr}{us vs:List V}(x:Ext U H U' (upd H' Dd (.lst us)))(k:Keep U H Dd us):Ext U (upd H Dd (.lst vs)) U' (upd H' Dd (.lst vs)):=by
 obtain⟨r,er,hr⟩:=x.more;have nD:∀b,H b=none->b≠Dd:=λb e z=>by rw[z,k.at_] at e;cases e
 refine⟨⟨r,er,λb hb=>by rw[dD (nD b (hr b hb))];exact hr b hb⟩,x.uZ,λa z=>?_,λa o e n=>?_,λa o e=>?_⟩
 ·rcases x.m6 a z with z|z
  ·exact .inl z
  ·exact .inr (by rw[dD (nD a z)];exact z)
 ·by_cases z:a=Dd
  ·subst z;rw[jO] at e ⊢;exact e
  ·rw[dD z] at e ⊢;have:=x.frame a o e n;rw[dD z] at this;exact this
 ·by_cases z:a=Dd
  ·subst z;exact⟨_,jO⟩
  ·rw[dD z] at e ⊢;have:=x.stay a o e;rw[dD z] at this;exact this
theorem aR.slots{Z Z':L2.St}{J:Vs}{is:List Nat}(h:aR K cA U H Z J)(hl:Z'.length=Z.length)(he:∀j,j∉is->Z'[j]?=Z[j]?)(hn:∀i∈is,∀x,J[i]?≠some (some x)):aR K cA U H Z' J:=by
 refine⟨hl.trans h.1,λi x e=>?_⟩;obtain⟨v,a,b⟩:=h.2 i x e;exact⟨v,by rw[he i λz=>hn i z x e];exact a,b⟩
end
section
variable {X:Cx}{cA:Cl}{ao:Nat->Nat->Bool}{aj:Bool}{F:Fn}{EX:XS}{elt iter tg iter₂ tg₂:Expr}{A B:E}{pos p:Pos}{ifs:List Expr}{scope:Scope}{N:List Str}{cond:Eo}{fr aO aO₂:List Nat}{many:Nat}{fz:Bool}{w w₂:Wk}
theorem zjL{K:W.Frag}{g:TG}{U1 U':Ph}{H1 H':Hp}{s':S}{Z3:L2.St}{J':Vs}{Dd:Addr}{acc:List D}{vs:List V}{β:Type}{kk:List D->M β}{P:β->S->Ph->Hp->Prop}{Ee:Nat->List D->S->Ph->Hp->Prop}{c:Src}{n:Nat}{bI:It}
  (hT:gH K cA g aO) (cG:∀i∈aO,i<many) (I_:∀i∈aO,∀x,J'[i]?≠some (some x)) (hD:H1 Dd=none) (x2:Ext U1 H1 U' H') (hL:aR K cA U' H' Z3 J') (hS2:aG K cA U' H' s') (kp:Keep U' H' Dd vs) (oM:aB K cA U' H' acc vs) (hJ:jD K cA c U' H' bI)
  (h:Run K cA (M.bd (walk c (bN ao aj F B cond aO J') (n+1) 0 acc) kk) U1 H1 s' P Ee) {Nn:L2.St->Hp->Prop}
  (hN:∀Z4 H4 U4 s4 KH vs4,Z4.length=Z3.length->(∀i,i∉aO->Z4[i]?=Z3[i]?)->Ext U1 H1 U4 H4->Ext U' H' U4 (upd H4 Dd (.lst vs))->aG K cA U4 H4 s4->Keep U4 H4 Dd vs4->aB K cA U4 H4 KH vs4->Run K cA (kk KH) U1 H1 s4 P Ee->Nn Z4 H4) :
  R5 g (rW K cA (λ_ _ _ _=>False) (nG ao aj F cond)) (tE K cA (λ_ _ _ _=>False) (ev ao aj F B)) Dd bI Z3 H' Nn:=by
 refine⟨λi m KJ m7=>m=n+1-i/\(KJ.length=Z3.length/\∀j,j∉aO->KJ[j]?=Z3[j]?)/\∃jY s'' gO vs'',Ext U1 H1 jY m7/\Ext U' H' jY (upd m7 Dd (.lst vs))/\aG K cA jY m7 s''/\Keep jY m7 Dd vs''/\aB K cA jY m7 gO vs'' /\
  Run K cA (M.bd (walk c (bN ao aj F B cond aO J') (n+1-i) i gO) kk) U1 H1 s'' P Ee,⟨n+1,rfl,⟨rfl,λ_ _=>rfl⟩,U',s',acc,vs,x2,by rw[Gx kp.at_];exact Ext.refl,hS2,kp,oM,h⟩,?_⟩
 rintro i m KJ m7 ⟨rfl,hZ,jY,s'',gO,vs'',x3,xb,fW,k3,r3,h3⟩;have ox:cM jY (upd m7 Dd (.lst vs)) m7:=λa o e nz=>by
  rw[dD (λz=>nz (by rw[z];exact k3.z))] at e;exact e
 have ou:aR K cA jY m7 KJ J':=((hL.mono xb hS2.lz).out ox).slots hZ.1 hZ.2 I_;cases ek:n+1-i with
 |zero=>rw[ek] at h3;exact h3.elim
 |succ k=>
  rw[ek] at h3;cases ei:c.at i s'' with
  |none=>
   exfalso
   unfold Run M.bd walk at h3;simp only[ei] at h3
  |some oi=>
   cases oi with
   |none=>
    refine .inl ⟨hJ.stop jY _ m7 s'' i xb ox fW ei,?_⟩;have h4:Run K cA (kk gO) U1 H1 s'' P Ee:=by
     unfold Run M.bd walk at h3;simp only[ei] at h3;exact h3
    exact hN KJ m7 jY s'' gO vs'' hZ.1 hZ.2 x3 xb fW k3 r3 h4
   |some xi=>
    refine .inr ⟨hJ.go jY _ m7 s'' i xi xb ox fW ei,λZ2 H2=>(Z2.length=Z3.length/\∀j,j∉aO->Z2[j]?=Z3[j]?)/\∃jY s'' gO vs'',Ext U1 H1 jY H2/\Ext U' H' jY (upd H2 Dd (.lst vs))/\aG K cA jY H2 s''/\Keep jY H2 Dd vs''/\aB K cA jY H2 gO vs'' /\
     Run K cA (M.bd (walk c (bN ao aj F B cond aO J') k (i+1) gO) kk) U1 H1 s'' P Ee,λZ2 H2 hn=>⟨k,by omega,by omega,hn.1,?_⟩,λv H2 hy=>?_⟩
    ·have:n+1-(i+1)=k:=by omega
     rw[this];exact hn.2
    ·obtain⟨gr,rx⟩:=hJ.ux jY _ m7 s'' i xi v H2 xb ox fW ei hy;have h4:Run K cA (M.bd (bN ao aj F B cond aO J' xi gO) λacc'=>M.bd (walk c (bN ao aj F B cond aO J') k (i+1) acc') kk) U1 H1 s'' P Ee:=by
      have h5:=TV (m':=M.bd (bN ao aj F B cond aO J' xi gO) λacc'=>walk c (bN ao aj F B cond aO J') k (i+1) acc') (by rw[walk];simp only[ei]) h3;rw[gM] at h5;exact h5
     have kg:=k3.mono gr.ext;have xg:Ext U' H' jY (upd H2 Dd (.lst vs)):=xb.trans (Ext.put (us:=vs'') (vs:=vs) (by rw[Gx kg.at_];exact gr.ext) k3);refine sG hT (x3.trans gr.ext) hD (ou.mono gr.ext fW.lz) (fW.grow gr) kg (r3.mono gr.ext fW.lz) rx h4 λZ3' H3 U3 s3 m8 yD l3 f3 x3' xe T7 k3' r3' h6=>⟨⟨l3.trans hZ.1,λj hj=>(f3 j hj).trans (hZ.2 j hj)⟩,U3,s3,m8,yD,x3',xg.trans (Ext.put (us:=vs'') (vs:=vs) xe kg),T7,k3',r3',h6⟩
where
 sG {K:W.Frag} {g:TG} {U1 U':Ph} {H1 H2:Hp} {s':S} {Z':L2.St} {Jb:Vs} {Dd:Addr} {acc:List D} {vs:List V} {xi:D} {v:V} {β:Type} {kk:List D->M β} {P:β->S->Ph->Hp->Prop} {Ee:Nat->List D->S->Ph->Hp->Prop} (hT:gH K cA g aO)
  (x2:Ext U1 H1 U' H2) (hD:H1 Dd=none) (hL2:aR K cA U' H2 Z' Jb) (hS2:aG K cA U' H2 s') (kp:Keep U' H2 Dd vs) (oM:aB K cA U' H2 acc vs) (rx:Rep K cA U' H2 xi v)
  (h:Run K cA (M.bd (bN ao aj F B cond aO Jb xi acc) kk) U1 H1 s' P Ee) {Nn:L2.St->Hp->Prop}
  (hN:∀Z3 H3 U3 s3 m8 yD,Z3.length=Z'.length->(∀i,i∉aO->Z3[i]?=Z'[i]?)->Ext U1 H1 U3 H3->Ext U' H2 U3 (upd H3 Dd (.lst vs))->aG K cA U3 H3 s3->Keep U3 H3 Dd yD->aB K cA U3 H3 m8 yD->Run K cA (kk m8) U1 H1 s3 P Ee->Nn Z3 H3) :
  g v Z' H2 λZ3 H3=>rW K cA (λ_ _ _ _=>False) (nG ao aj F cond) Z3 H3 λok H4=>
   if ok=true then tE K cA (λ_ _ _ _=>False) (ev ao aj F B) Z3 H4 λy H5=>∃ys,H5 Dd=some (.lst ys)/\ys.length<sizeLine/\Nn Z3 (upd H5 Dd (.lst (ys++[y]))) else Nn Z3 H4:=by
  unfold bN at h;rw[gM] at h;obtain⟨J',e1,h1⟩:=Oh h;refine hT.run U' H2 s' Z' Jb J' xi v _ hL2 hS2 rx e1 λZ3 ou DP Gy=>?_;rw[gM] at h1;refine⟨U',J',s',ou,hS2,(Ko x2 h1).imp λok s4 U4 H4 ⟨x4,lE,h6⟩=>?_⟩;cases ok with
  |false=>
   refine iF (hN Z3 H4 U4 s4 acc vs DP Gy (x2.trans x4) (by rw[Gx (kp.mono x4).at_];exact x4) lE (kp.mono x4) (oM.mono x4 hS2.lz) ?_);rw[if_neg Dc] at h6;exact h6
  |true=>
   rw[if_pos rfl,gM] at h6;refine iT ⟨U4,J',s4,ou.mono x4 hS2.lz,lE,(Ko (x2.trans x4) h6).imp λy s5 U5 H5 ⟨x5,DG,h7⟩ u ru=>?_⟩;rw[gM] at h7;have k5:=(kp.mono x4).mono x5;have r5:=(oM.mono x4 hS2.lz).mono x5 lE.lz;have TX:=(x2.trans x4).trans x5;obtain⟨dd,ey,rd,h8⟩ : ∃d,y=.d d/\Rep K cA U5 H5 d u/\Run K cA (M.bd (if acc.length<sizeLine then M.ret (acc++[d]) else M.no) kk) U1 H1 s5 P Ee:=by
    cases ru with
    |l _=>exact h7.elim
    |d r=>exact⟨_,rfl,r,h7⟩
   by_cases hz:acc.length<sizeLine
   ·rw[if_pos hz] at h8;refine⟨vs,k5.at_,by rw[<-r5.len];exact hz,?_⟩;have ox:cM U5 H5 (upd H5 Dd (.lst (vs++[u]))):=k5.ext.1;exact hN Z3 _ U5 s5 (acc++[dd]) (vs++[u]) DP Gy (Ext.keep (vs:=vs) TX hD) (by rw[Qz,Gx k5.at_];exact x4.trans x5) (DG.keep k5) k5.ext.2 ((r5.app (.cons rd .nil)).out ox) h8
   ·rw[if_neg hz] at h8;exact h8.elim
noncomputable abbrev gQ(ao:Nat->Nat->Bool)(aj:Bool)(F:Fn)(B:E)(cond:Eo)(aO aO₂:List Nat)(w₂:Wk)(Jb:Vs):D->List D->M (List D):=λd acc=>M.bd (M.opt (cW aO d Jb)) λJ'=>M.bd (M.qt (iy ao aj F w₂ J')) λpJ=>
    walk pJ.1 (bN ao aj F B cond aO₂ J') (pJ.2+1) 0 acc
theorem zfj{g₁ g:TG}(hT:gH X.K cA g₁ aO)(cG:∀i∈aO,i<many)(hT₂:gH X.K cA g aO₂)(cG₂:∀i∈aO₂,i<many)(El:∀i∈aO₂,i∉aO){Z:L2.St}{H:Hp}{Q:VK}(hh:tE X.K cA EX (ev ao aj F (.lU fz B aO w aO₂ w₂ fr many cond)) Z H Q) :
  uM (tI X.K cA EX (iy ao aj F w)) (bF many fr) g₁ (tI X.K cA (λ_ _ _ _=>False) (iy ao aj F w₂)) g (rW X.K cA (λ_ _ _ _=>False) (nG ao aj F cond)) (tE X.K cA (λ_ _ _ _=>False) (ev ao aj F B)) Z H Q:=un hh λU J s hL hS h=>by
 by_cases gY:aj=true
 ·have h:Run X.K cA (if aj=true then M.bd (iy ao aj F w J) λcn=>M.bd (walk cn.1 (gQ ao aj F B cond aO aO₂ w₂ (blk many fr J)) (cn.2+1) 0 []) λxs=>newL fz xs else M.no) U H s (λd _ U' H'=>∀v,aQ X.K cA U' H' d v->Q v H') (eX X.K cA EX Z):=h;rw[if_pos gY] at h;refine⟨U,J,s,hL,hS,h.bd.imp λcn s1 U1 H1 ⟨x1,aL,h1⟩ bI hJ=>?_⟩;have hL1:=hL.mono x1 hS.lz;obtain⟨c,n⟩:=cn;dsimp only at h1 hJ;intro Dd hD;obtain⟨x0,Kp,k0⟩:=ZM aL hD;have DQ:∀{Z':L2.St},(Z'.length=many+fr.length/\∀i,many<=i->Z'[i]?=(bF many fr Z)[i]?)->∀{U' H'},Ext U1 H1 U' H'->aR X.K cA U' H' Z' (blk many fr J):=λ{Z'} hZ {U' H'} x=>ZK (hL1.mono x aL.lz) hZ.1 λi j v e1 e2=>by
   rw[hZ.2 _ (by omega)];unfold bF;rw[oW J0,Hf,gK,show many+i-many=i by omega,e1];simp[e2]
  refine⟨λi m Z' H'=>m=n+1-i/\(Z'.length=many+fr.length/\∀i,many<=i->Z'[i]?=(bF many fr Z)[i]?)/\∃U' s' acc vs,Ext U1 H1 U' H'/\aG X.K cA U' H' s'/\Keep U' H' Dd vs/\aB X.K cA U' H' acc vs /\
   Run X.K cA (M.bd (walk c (gQ ao aj F B cond aO aO₂ w₂ (blk many fr J)) (n+1-i) i acc) λxs=>newL fz xs) U1 H1 s' (λd _ U' H'=>∀v,aQ X.K cA U' H' d v->Q v H') (eX X.K cA EX Z),⟨n+1,rfl,⟨by simp[bF],λi _=>rfl⟩,U1.mark Dd,s1,[],[],x0,Kp,k0,.nil,h1⟩,?_⟩
  rintro i m Z' H' ⟨rfl,hZ,U',s',acc,vs,x2,hS2,kp,oM,h3⟩;have hL2:=DQ hZ x2;cases ek:n+1-i with
  |zero=>rw[ek] at h3;exact h3.elim
  |succ k=>
   rw[ek] at h3;cases ei:c.at i s' with
   |none=>
    exfalso
    unfold Run M.bd walk at h3;simp only[ei] at h3
   |some oi=>
    cases oi with
    |none=>
     refine .inl ⟨hJ.stop U' H' H' s' i x2 cM.refl hS2 ei,?_⟩;have h4:Run X.K cA (newL fz acc) U1 H1 s' (λd _ U' H'=>∀v,aQ X.K cA U' H' d v->Q v H') (eX X.K cA EX Z):=by
      unfold Run M.bd walk at h3;simp only[ei] at h3;exact h3
     exact ZL h4 x2 hD (aL.nz hD) hS2 kp oM
    |some xi=>
     refine .inr ⟨hJ.go U' H' H' s' i xi x2 cM.refl hS2 ei,λZ2 H2=>(Z2.length=many+fr.length/\∀i,many<=i->Z2[i]?=(bF many fr Z)[i]?)/\∃U' s' acc vs,Ext U1 H1 U' H2/\aG X.K cA U' H2 s'/\Keep U' H2 Dd vs/\aB X.K cA U' H2 acc vs /\
      Run X.K cA (M.bd (walk c (gQ ao aj F B cond aO aO₂ w₂ (blk many fr J)) k (i+1) acc) λxs=>newL fz xs) U1 H1 s' (λd _ U' H'=>∀v,aQ X.K cA U' H' d v->Q v H') (eX X.K cA EX Z),λZ2 H2 hn=>⟨k,by omega,by omega,hn.1,?_⟩,λv H2 hy=>?_⟩
     ·have:n+1-(i+1)=k:=by omega
      rw[this];exact hn.2
     ·obtain⟨gr,rx⟩:=hJ.ux U' H' H' s' i xi v H2 x2 cM.refl hS2 ei hy;have h4:Run X.K cA (M.bd (M.opt (cW aO xi (blk many fr J))) λJ'=>M.bd (M.qt (iy ao aj F w₂ J')) λpJ=>M.bd (walk pJ.1 (bN ao aj F B cond aO₂ J') (pJ.2+1) 0 acc) λacc'=>M.bd (walk c (gQ ao aj F B cond aO aO₂ w₂ (blk many fr J)) k (i+1) acc') λxs=>newL fz xs) U1 H1 s' (λd _ U' H'=>∀v,aQ X.K cA U' H' d v->Q v H') (eX X.K cA EX Z):=by
       have h5:=TV (m':=M.bd (gQ ao aj F B cond aO aO₂ w₂ (blk many fr J) xi acc) λacc'=>walk c (gQ ao aj F B cond aO aO₂ w₂ (blk many fr J)) k (i+1) acc') (by rw[walk];simp only[ei]) h3;rw[gM] at h5;unfold gQ at h5;rw[gM] at h5;have e:(λJ'=>M.bd (M.bd (M.qt (iy ao aj F w₂ J')) λpJ=>walk pJ.1 (bN ao aj F B cond aO₂ J') (pJ.2+1) 0 acc) λacc'=>M.bd (walk c (gQ ao aj F B cond aO aO₂ w₂ (blk many fr J)) k (i+1) acc') λxs=>newL fz xs)=λJ'=>M.bd (M.qt (iy ao aj F w₂ J')) λpJ=>M.bd (walk pJ.1 (bN ao aj F B cond aO₂ J') (pJ.2+1) 0 acc) λacc'=>M.bd (walk c (gQ ao aj F B cond aO aO₂ w₂ (blk many fr J)) k (i+1) acc') λxs=>newL fz xs:=funext λJ'=>gM _ _ _;rw[<-e];exact h5
      obtain⟨J',e1,h6⟩:=Oh h4;have fW:=hS2.grow gr;refine hT.run U' H2 s' Z' _ J' xi v _ (hL2.mono gr.ext hS2.lz) fW rx e1 λZ3 ou DP Gy=>?_;have kg:=kp.mono gr.ext;have rg:=oM.mono gr.ext hS2.lz;have xg:=x2.trans gr.ext;refine⟨U',J',s',ou,fW,(Ko xg h6).imp λpJ s4 U4 H4 ⟨x4,lE,h7⟩ bI₂ hJ₂=>?_⟩;refine zjL (many:=many) hT₂ cG₂ (λi hi x z=>?_) hD (xg.trans x4) (ou.mono x4 fW.lz) lE (kg.mono x4) (rg.mono x4 fW.lz) hJ₂ h7 λZ4 H5 U5 s5 T8 vs5 l5 f5 x5 _ DG k5 r5 h8=>⟨⟨l5.trans (DP.trans hZ.1),λi hi=>?_⟩,U5,s5,T8,vs5,x5,DG,k5,r5,h8⟩
      ·rw[zhS e1 i (El i hi),zhR (cG₂ i hi)] at z;cases z
      ·rw[f5 i λz=>absurd (cG₂ i z) (zM.mpr hi),Gy i λz=>absurd (cG i z) (zM.mpr hi)];exact hZ.2 i hi
 ·have h:Run X.K cA (if aj=true then M.bd (iy ao aj F w J) λcn=>M.bd (walk cn.1 (gQ ao aj F B cond aO aO₂ w₂ (blk many fr J)) (cn.2+1) 0 []) λxs=>newL fz xs else M.no) U H s (λd _ U' H'=>∀v,aQ X.K cA U' H' d v->Q v H') (eX X.K cA EX Z):=h;rw[if_neg gY] at h;exact h.elim
theorem zhM(hc:X.aj=true)(B':dw X.env.scope scope)(hi:SI X cA ao aj F EX tg iter w)(hN:N.length=many+fr.length)
  (qD:∀(i:Nat) (y:Str) (j:Nat),N[many+i]?=some y->fr[i]?=some j->scope.names.lookup y=some .free/\X.N[j]?=some y)
  (hg₁:∀cl C s3 H3 fp ak,PG (X.blk scope cl N C s3 H3 fp ak) tg g₁) (hT:gH X.K cA g₁ aO) (cG:∀i∈aO,i<many) (hi₂:∀cl C s3 H3 fp ak,SI (X.blk scope cl N C s3 H3 fp ak) cA ao aj F (λ_ _ _ _=>False) tg₂ iter₂ w₂)
  (hg:∀cl C s3 H3 fp ak,PG (X.blk scope cl N C s3 H3 fp ak) tg₂ g) (hT₂:gH X.K cA g aO₂) (cG₂:∀i∈aO₂,i<many) (El:∀i∈aO₂,i∉aO)
  (ht:∀cl C s3 H3 fp ak,Gw (X.blk scope cl N C s3 H3 fp ak) cA ao aj F (λ_ _ _ _=>False) ifs cond) (he:∀cl C s3 H3 fp ak,SE (X.blk scope cl N C s3 H3 fp ak) cA ao aj F (λ_ _ _ _=>False) elt B)
  (hs₂:∀env x,foldedSetIterable iter₂ env x=pure x) (hs:∀x,foldedSetIterable iter X.env x=pure x:=by intro _;rfl):SE X cA ao aj F EX (.ListComp elt [⟨tg,iter,[],0⟩,⟨tg₂,iter₂,ifs,0⟩] scope pos) (.lU fz B aO w aO₂ w₂ fr many cond):=
 PE.weak (zhw hc B' hi (⟨hg₁,hi₂,hg,ht,he⟩ : pG X elt tg tg₂ iter₂ ifs scope N g₁ (tI X.K cA (λ_ _ _ _=>False) (iy ao aj F w₂)) g (rW X.K cA (λ_ _ _ _=>False) (nG ao aj F cond)) (tE X.K cA (λ_ _ _ _=>False) (ev ao aj F B))) hs₂ (ZY:=bF many fr) (λZ=>by simp[bF,hN]) (λZ i x v e1 e2=>TY qD Z i x v e1 e2) hs) λZ H Q hh=>zfj hT cG hT₂ cG₂ El hh
end
section
variable {X:Cx}{cA:Cl}{ao:Nat->Nat->Bool}{aj:Bool}{F:Bool->Fn}{EX:XS}{elt iter tg iter₂ tg₂:Expr}{A B:E}{pos p:Pos}{ifs:List Expr}{scope:Scope}{N:List Str}{cond:Eo}{fr aO aO₂:List Nat}{many:Nat}{fz:Bool}{w w₂:Wk}{i:Nat}{y:Str}
noncomputable def Em(aO aO₂:List Nat)(m:Nat):Bool:=aO.all (λi=>decide (i<m))&&aO₂.all (λi=>decide (i<m) && !aO.contains i)
theorem T9(h:Em aO aO₂ m=true):(∀i∈aO,i<m)/\(∀i∈aO₂,i<m)/\∀i∈aO₂,i∉aO:=by
 unfold Em at h;simp only[gB,iV,wU,Bool.not_eq_true'] at h;exact⟨h.1,λi hi=>(h.2 i hi).1,λi hi z=>by have:=(h.2 i hi).2;rw[List.contains_iff_mem.mpr z] at this;cases this⟩
noncomputable def vq:Expr->Bool
 |.Call _ _ _ _=>true
 |.Name _ _=>true
 |.BinOp _ _ _ _=>true
 |.Subscript _ _ _=>true
 |.Attribute _ _ _=>true
 |_=>false
theorem zj2(h:vq e=true):∀env x,foldedSetIterable e env x=pure x:=by cases e<;>first|(intro _ _;rfl)|cases h
end
section
variable {X:Cx}{cA:Cl}{ao:Nat->Nat->Bool}{aj:Bool}{F:Fn}{EX:XS}{elt iter tg iter₂ tg₂:Expr}{A B:E}{pos p:Pos}{ifs:List Expr}{scope:Scope}{N:List Str}{cond:Eo}{fr aO aO₂:List Nat}{many:Nat}{fz:Bool}{w w₂:Wk}{i:Nat}{y:Str}
theorem zko(sc:Scope)(XN M0 N:List Str)(fr:List Nat)(hc:X.aj=true)(Kz:X.env.scope=sc)(wu:X.N=XN)(hB:vg sc scope=true)(hf:frB scope XN N fr=true)(hT:gH X.K cA g₁ aO)(hT₂:gH X.K cA g aO₂)(cG:Em aO aO₂ M0.length=true)
  (hi:JI X cA ao aj F EX tg iter w) (hg₁:∀cl C s3 H3 fp ak,JY (X.blk scope cl (M0++N) C s3 H3 fp ak) tg g₁) (hi₂:∀cl C s3 H3 fp ak,JI (X.blk scope cl (M0++N) C s3 H3 fp ak) cA ao aj F (λ_ _ _ _=>False) tg₂ iter₂ w₂) (hg:∀cl C s3 H3 fp ak,JY (X.blk scope cl (M0++N) C s3 H3 fp ak) tg₂ g)
  (ht:∀cl C s3 H3 fp ak,JC (X.blk scope cl (M0++N) C s3 H3 fp ak) cA ao aj F (λ_ _ _ _=>False) ifs cond) (he:∀cl C s3 H3 fp ak,JE (X.blk scope cl (M0++N) C s3 H3 fp ak) cA ao aj F (λ_ _ _ _=>False) elt B)
  (En:vq iter₂=true:=by rfl) (hs:∀x,foldedSetIterable iter X.env x=pure x:=by intro _;rfl):JE X cA ao aj F EX (.ListComp elt [⟨tg,iter,[],0⟩,⟨tg₂,iter₂,ifs,0⟩] scope pos) (.lU fz B aO w aO₂ w₂ fr M0.length cond):=
 ⟨zhM hc (dw.of (Kz▸hB)) hi.o (GF (wu▸hf)).1 (GF (wu▸hf)).2 (λa b c d e f=>(hg₁ a b c d e f).o) hT (T9 cG).1 (λa b c d e f=>(hi₂ a b c d e f).o) (λa b c d e f=>(hg a b c d e f).o) hT₂ (T9 cG).2.1 (T9 cG).2.2 (λa b c d e f=>(ht a b c d e f).o) (λa b c d e f=>(he a b c d e f).o) (zj2 En) hs⟩
end
section
variable {K:W.Frag}{cA:Cl}{U:Ph}{H:Hp}
theorem aB.KN(r:aB K cA U H xs ys):∀l:List Nat,aB K cA U H (l.map λi=>xs.getD i .non) (l.map λi=>ys.getD i .non)
 |[]=>.nil
 |i::l=>by
  refine .cons ?_ (aB.KN r l);show Rep K cA U H (xs.getD i .non) (ys.getD i .non);cases e:xs[i]? with
  |some x=>
   obtain⟨u,e1,e2⟩:=r.get e;rw[g_,g_,e,e1];exact e2
  |none=>
   have e1:ys[i]?=Option.none:=r.none e;rw[g_,g_,e,e1];exact .non
theorem aB.mem(r:aB K cA U H xs ys):∀v∈ys,∃d∈xs,Rep K cA U H d v:=by
 intro v hv;obtain⟨i,hi,e⟩:=wO hv;have e':ys[i]?=some v:=by rw[dj hi,e]
 cases ex:xs[i]? with
 |none=>rw[r.none ex] at e';cases e'
 |some d=>
  obtain⟨u,e1,e2⟩:=r.get ex;rw[e1] at e';cases e';exact⟨d,iQ ex,e2⟩
theorem zgO:∀{us ws:List D} {xs ys:List V},aB K cA U H us xs->aB K cA U H ws ys->∀{b:Bool},rO us ws=some b->lC xs ys=some b
 |[],ws,_,ys,r1,r2,b,h=>by
  cases r1;unfold rO at h;unfold lC;rw[<-r2.len];exact h
 |_::_,[],_,_,r1,r2,b,h=>by
  cases r2;cases r1;unfold rO at h;unfold lC;exact h
 |x::us,y::ws,_,_,r1,r2,b,h=>by
  cases r1 with
  |cons a1 b1=>
   cases r2 with
   |cons a2 b2=>
    unfold rO at h;split at h
    ·rename_i z;cases z
    ·rename_i z;cases z
    ·rename_i p ps q qs e1 e2;cases e1;cases e2;cases a1;cases a2;unfold lC;by_cases e:p=q
     ·rw[if_pos e] at h ⊢;exact zgO b1 b2 h
     ·rw[if_neg e] at h ⊢;exact h
    ·cases h
theorem zhO(r:aB K cA U H xs ys)(h:(xs.all jW||xs.all je)=true):uN K H ys (z_ xs):=by
 rw[Hy] at h;rcases h with h|h
 ·left
  rw[iV] at h;refine⟨λv hv=>?_,λi j b e=>?_⟩
  ·obtain⟨d,hd,q⟩:=r.mem v hv;have:=h d hd;cases q<;>first|exact⟨_,rfl⟩|cases this
  ·unfold z_ at e;cases e1:xs[i]? with
   |none=>rw[e1] at e;cases e
   |some d1=>
    cases e2:xs[j]? with
    |none=>rw[e1,e2] at e;cases d1<;>cases e
    |some d2=>
     have h1:=h d1 (iQ e1);have h2:=h d2 (iQ e2);rw[e1,e2] at e;obtain⟨v1,a1,b1⟩:=r.get e1;obtain⟨v2,a2,b2⟩:=r.get e2;cases d1<;>first|cases h1|skip
     cases d2<;>first|cases h2|skip
     cases b1;cases b2;cases e;exact⟨_,_,a1,a2,rfl⟩
 ·right
  rw[iV] at h;refine⟨λv hv=>?_,λi j b e=>?_⟩
  ·obtain⟨d,hd,q⟩:=r.mem v hv;have:=h d hd;unfold je at this;split at this
   ·cases q with
    |tup t r'=>
     cases r' with
     |cons a1 b1=>
      cases a1;exact⟨_,_,_,rfl,t.jr⟩
   ·cases this
  ·unfold z_ at e;cases e1:xs[i]? with
   |none=>rw[e1] at e;cases e
   |some d1=>
    cases e2:xs[j]? with
    |none=>rw[e1,e2] at e;cases d1<;>cases e
    |some d2=>
     have h1:=h d1 (iQ e1);have h2:=h d2 (iQ e2);rw[e1,e2] at e;obtain⟨v1,a1,b1⟩:=r.get e1;obtain⟨v2,a2,b2⟩:=r.get e2;unfold je at h1 h2;split at h1
     ·split at h2
      ·cases b1 with
       |tup t1 r1=>
        cases b2 with
        |tup t2 r2=>exact⟨_,_,_,_,a1,a2,t1.jr,t2.jr,zgO r1 r2 e⟩
      ·cases h2
     ·cases h1
theorem zfJ:bw K cA .sorted (λxs H Q=>∃l ys lt p,xs=[.ref l]/\cY K H l ys/\ys.length<64/\(2<=ys.length->uN K H ys lt/\bD lt (PySem.W.kas_sort ys.length)=some p/\p.size=ys.length)/\∀r,H r=none->Q (.ref r) (upd H r (.lst (lD ys p)))):=by
 intro U H ds vs Q zt rs o;have o:aY K cA U H (mY ds) Q:=o;unfold mY at o;split at o
 ·rename_i xs _;obtain⟨v,rfl,r1⟩:=rs.one;obtain⟨z,e⟩:=o.some';obtain⟨zs,e1,e2⟩:=jk.mp e;subst e2;obtain⟨a,us,rfl,sq,q⟩ : ∃a us,v=.ref a/\cY K H a us/\aB K cA U H xs us:=r1;have hl:=q.len;unfold Ac at e1;by_cases hk:(xs.all jW||xs.all je)=true
  ·rw[if_pos hk] at e1;unfold qI at e1;by_cases h2:xs.length<2
   ·rw[if_pos h2] at e1;cases e1;refine⟨a,us,λ_ _=>none,#[],rfl,sq,by lia,λz=>absurd z gV,λr hr=>?_⟩;have:lD us #[]=us:=by unfold lD;rw[if_pos gV]
    rw[this];exact(o.of e) r us hr q
   ·rw[if_neg h2] at e1;by_cases rJ:xs.length<64
    ·rw[if_pos rJ] at e1;cases ek:bD (z_ xs) (PySem.W.kas_sort xs.length) with
     |none=>rw[ek] at e1;cases e1
     |some p=>
      rw[ek] at e1;dsimp only at e1;by_cases hp:p.size=xs.length
      ·rw[if_pos hp] at e1;cases e1;refine⟨a,us,z_ xs,p,rfl,sq,by lia,λ_=>⟨zhO q hk,by rw[<-hl];exact ek,by lia⟩,λr hr=>?_⟩;have:lD us p=p.toList.map λi=>us.getD i .non:=by unfold lD;rw[if_neg gV]
       rw[this];exact(o.of e) r _ hr (q.KN p.toList)
      ·rw[if_neg hp] at e1;cases e1
    ·rw[if_neg rJ] at e1;cases e1
  ·rw[if_neg hk] at e1;cases e1
 ·exact o.elim
end
section
variable {X:Cx}{cA:Cl}{ao:Nat->Nat->Bool}{aj:Bool}{F:Fn}{EX:XS}{e:Expr}{pos p:Pos}{es:List Expr}{Xs:Es}{fz:Bool}
theorem zbO:bootBuiltins "sorted"=some (.builtin "sorted"):=by decide +kernel
theorem zhK(hm:X.mg "sorted"=none)(hg:JK X "sorted" .globalImplicit)(ha:JA X cA ao aj F EX (e::es) Xs)(he:aF e=true:=by rfl)(bR:es.all aF=true:=by rfl):JE X cA ao aj F EX (.Call (.Name "sorted" p) (e::es) [] pos) (.pr fz .sorted Xs):=⟨Aj zdK zfJ hg.o hm zbO ha.o Dc Dc (bA he) (bB bR)⟩
end
section
variable {K:W.Frag}{cA:Cl}{U:Ph}{H:Hp}
theorem Ox:∀{xs:List D} {k i:Nat},(enumFrom k xs)[i]?=(xs[i]?).map λd=>.tup [.int ((k+i:Nat):Int),d]
 |[],k,i=>by simp[enumFrom]
 |x::r,k,0=>by simp[enumFrom]
 |x::r,k,i+1=>by
  unfold enumFrom;rw[G_,G_,Ox]
  congr 1
  funext d
  rw[show k+1+i=k+(i+1) by lia]
noncomputable def sH(K:W.Frag)(U:Ph)(H:Hp):Bool->Addr->List V->Prop
 |true,a,vs=>LstAt K U H a vs
 |false,a,vs=>TupAt K U H a vs
theorem sH.sk{kd:Bool}{a:Addr}{vs:List V}(h:sH K U H kd a vs):Sk kd K H a vs:=by
 cases kd
 ·exact TupAt.jr h
 ·exact LstAt.tL h
theorem sH.later{U':Ph}{H₁ H':Hp}{kd:Bool}{a:Addr}{vs:List V}(hz:∀a∈U.l,U.z a)(h:sH K U H kd a vs)(x:Ext U H U' H₁)(o:cM U' H₁ H'):sH K U' H' kd a vs:=by
 cases kd
 ·exact TupAt.later hz h x o
 ·exact LstAt.later hz h x o
theorem jD.enum{kd:Bool}{l:Addr}{xs:List D}{vs:List V}(hz:∀a∈U.l,U.z a)(h:sH K U H kd l vs)(r:aB K cA U H xs vs):jD K cA (.fix (enumFrom 0 xs)) U H (Ite K kd l):=by
 refine⟨λU' H₁ H' s' i x o hS e=>⟨vs,(h.later hz x o).sk,?_⟩,λU' H₁ H' s' i d x o hS e=>?_,λU' H₁ H' s' i d v H2 x o hS e y=>?_⟩
 ·have e:(enumFrom 0 xs)[i]?=none:=dJ e;rw[Ox,Option.map_eq_none_iff] at e;exact oH.mp ((r.mono x hz).none e)
 ·have e:(enumFrom 0 xs)[i]?=some d:=dJ e;rw[Ox] at e;obtain⟨d',e',_⟩:=jk.mp e;obtain⟨v,q,_⟩:=r.get e';exact⟨vs,v,(h.later hz x o).sk,q⟩
 ·have e:(enumFrom 0 xs)[i]?=some d:=dJ e;rw[Ox] at e;obtain⟨d',e',rfl⟩:=jk.mp e;obtain⟨a,u,hn,rfl,rfl,hu⟩:=y;obtain⟨w,q,nR⟩:=((r.mono x hz).out o).get e';have:=hu vs (h.later hz x o).sk;rw[q] at this;cases this;have g:bf H' (upd H' a (.tup [.int i,u])):=bf.new hn;refine⟨g,?_⟩;rw[show ((0+i:Nat):Int)=(i:Int) by simp];exact .tup (.inl ⟨.inl jO,hS.nz hn⟩) (.cons (.int _) (.cons (nR.mono g.ext hS.lz) .nil))
theorem T_(h:(Src.lX n).at i s=some o):∃xs,s[n]?=some (.lst xs)/\(xs[i]?.map λx=>D.tup [.int i,x])=o:=by
 unfold Src.at at h;dsimp only at h;cases e:s[n]? with
 |none=>rw[e] at h;cases h
 |some ob=>
  rw[e] at h;cases ob with
  |lst xs=>exact⟨xs,rfl,dJ h⟩
  |_=>cases h
theorem jD.lX{a:Addr}{n:Nat}(h:U.l[n]?=some a):jD K cA (.lX n) U H (Ite K true a):=by
 refine⟨λU' H₁ H' s' i x o hS e=>?_,λU' H₁ H' s' i d x o hS e=>?_,λU' H₁ H' s' i d v H2 x o hS e y=>?_⟩
 ·obtain⟨xs,e1,e2⟩:=T_ e;rw[Option.map_eq_none_iff] at e2;obtain⟨vs,q1,q2⟩:=hS.obj n _ a e1 (x.get h);exact⟨vs,cY.of q1,oH.mp (q2.none e2)⟩
 ·obtain⟨xs,e1,e2⟩:=T_ e;obtain⟨d',e',_⟩:=jk.mp e2;obtain⟨vs,q1,q2⟩:=hS.obj n _ a e1 (x.get h);obtain⟨v,q3,_⟩:=q2.get e';exact⟨vs,v,cY.of q1,q3⟩
 ·obtain⟨xs,e1,e2⟩:=T_ e;obtain⟨d',e',rfl⟩:=jk.mp e2;obtain⟨vs,q1,q2⟩:=hS.obj n _ a e1 (x.get h);obtain⟨w,q3,nR⟩:=q2.get e';obtain⟨b,u,hn,rfl,rfl,hu⟩:=y;have:=hu vs (cY.of q1);rw[q3] at this;cases this;have g:bf H' (upd H' b (.tup [.int i,w])):=bf.new hn;exact⟨g,.tup (.inl ⟨.inl jO,hS.nz hn⟩) (.cons (.int _) (.cons (nR.mono g.ext hS.lz) .nil))⟩
end
section
variable {X:Cx}{cA:Cl}{ao:Nat->Nat->Bool}{aj:Bool}{F:Fn}{EX:XS}{a b:Expr}{A B:E}{pos pp tpos:Pos}{elts:List Expr}{kk:Nat}
theorem zjm(pQ:Gl X "enumerate")(hmg:X.mg "enumerate"=none)(hb:SE X cA ao aj F EX b B)(h2:starEach [b] X.env=(false,eval b X.env)::starEach [] X.env) :
  SI X cA ao aj F EX (.Tuple elts kk tpos) (.Call (.Name "enumerate" pp) [b] [] pos) (.enum B):=PI.weak (zjn pQ hmg (v7 hb CK h2) (by rw[h2];rfl)) λZ H R hh=>un hh λU J s hL hS h=>by
 refine bG hL hS h λy H2 U2 d2 s2 x2 hL2 hS2 r2 h2=>?_;cases r2 with
 |@l n ad hl=>
  unfold Run n_ at h2;dsimp only at h2;cases e:s2[n]? with
  |none=>rw[e] at h2;exact h2.elim
  |some o=>
   rw[e] at h2;cases o with
   |lst xs=>
    obtain⟨vs,q1,q2⟩:=hS2.obj n _ _ e hl;exact⟨true,_,_,rfl,cY.of q1,h2 U2 H2 Ext.refl hS2 _ (jD.lX hl)⟩
   |_=>exact h2.elim
 |d r2=>
  cases r2 with
  |fl q r=>exact⟨true,_,_,rfl,q.tL,h2 U2 H2 Ext.refl hS2 _ (jD.enum (kd:=true) hS2.lz q r)⟩
  |tup q r=>exact⟨false,_,_,rfl,q.jr,h2 U2 H2 Ext.refl hS2 _ (jD.enum (kd:=false) hS2.lz q r)⟩
  |_=>exact h2.elim
end
section
variable {X:Cx}{cA:Cl}{ao:Nat->Nat->Bool}{aj:Bool}{F:Fn}{EX:XS}{a b:Expr}{A B:E}{pos p tpos:Pos}{elts:List Expr}{kk:Nat}
theorem zlq(hmg:X.mg "enumerate"=none)(pQ:JK X "enumerate" .globalImplicit)(hb:JE X cA ao aj F EX b B)(h2:aF b=true:=by rfl):JI X cA ao aj F EX (.Tuple elts kk tpos) (.Call (.Name "enumerate" p) [b] [] pos) (.enum B):=⟨zjm pQ.o hmg hb.o (bA h2)⟩
end
end Mi
namespace Mi
open PySem PySem.Spec PyProof.Rows L2 PySem.W
theorem zjN{fd:FuncData}{q:Str}{st:Stmt}(h:tu fd=Cj q st):fd=fnOf "__init__" q (bO st) (bx st) (aA st) .none fd.kwdefaults fd.doc fd.pyModule fd.annotations fd.code fd.closureTuple:=by
 cases fd;unfold tu Cj at h;cases h;rfl
structure KQ(K:Frag)(C:Addr)(q:Str)(st:Stmt):Prop where
 ex:∃(fI:Addr) (od:Option Addr) (kV doc pm:Value) (an:Option Addr) (cdv ct:Value) (osl:Array (Option Value)) (cd:ClassData),
  K.lookup fI=some ⟨.type "function",od,.func (fnOf "__init__" q (bO st) (bx st) (aA st) .none kV doc pm an cdv ct),osl⟩/\codeIn K cdv q=true/\ug K C fI=true/\clsIn K C=some cd/\uf cd.mro=true/\cd.hasDict=true
theorem zmY{K:Frag}{C:Addr}{q:Str}{st:Stmt}(h:(HX K C).map tu=some (Cj q st)):KQ K C q st:=by
 cases e:HX K C with
 |none=>rw[e] at h;cases h
 |some fd=>
  rw[e] at h;have hp:tu fd=Cj q st:=dJ h;unfold HX at e;split at e
  ·rename_i cd oJ;split at e
   ·rename_i f hf;split at e
    ·rename_i od fd' sl hl;split at e
     ·rename_i hc;cases e;simp only[gB] at hc;obtain⟨⟨⟨c1,c2⟩,c3⟩,c4⟩:=hc;have eq:=zjN hp;have qn:fd.qualname=q:=by rw[eq]
      refine⟨⟨f,od,fd.kwdefaults,fd.doc,fd.pyModule,fd.annotations,fd.code,fd.closureTuple,sl,cd,?_,by rw[<-qn];exact c1,c2,oJ,c3,c4⟩⟩;rw[<-eq];exact hl
     ·cases e
    ·cases e
   ·cases e
  ·cases e
theorem znx{K:Frag}{C:Addr}{f:Str}(h:Nj K C f=true):XF K C f:=by
 unfold Nj at h;simp only[gB,Ce] at h;obtain⟨⟨⟨⟨h1,h2⟩,h3⟩,h4⟩,h5⟩:=h;exact⟨h1,h2,h3,h4,h5⟩
structure kh(fs:List (Str×Stmt))(ms:List xq)(xs:List (Nat×Str))(l:Lk)(K:Frag):Prop where
 fn:∀p∈fs,FnAt K p.1 p.2
 gd:Ba l K
 mi:∀m∈ms,KQ K (iW (l.L K) m.c) m.q m.st
 se:∀m∈ms,setB K (iW (l.L K) m.c) m.fs=true
 xf:∀x∈xs,XF K (iW (l.L K) x.1) x.2
theorem Ua{a:Nat}{o:Obj}:∀{l:List Obj} {i:Nat},((a:Addr),o)∈HY i l->i<=a/\l[a-i]?=some o/\o.isFreed=false
 |[],i,h=>by cases h
 |p::r,i,h=>by
  unfold HY at h;split at h
  ·obtain⟨h1,h2,h3⟩:=Ua h;refine⟨by lia,?_,h3⟩;rw[show a-i=(a-(i+1))+1 by lia];exact h2
  ·rename_i hf;rcases bZ.mp h with e|h
   ·cases e;exact⟨bL _,by simp,hf⟩
   ·obtain⟨h1,h2,h3⟩:=Ua h;refine⟨by lia,?_,h3⟩;rw[show a-i=(a-(i+1))+1 by lia];exact h2
theorem zce:∀{K:Frag},K.lookup a=some o->(a,o)∈K
 |[],h=>by cases h
 |(b,p)::r,h=>by
  rw[rB] at h;by_cases e:a=b
  ·subst e;simp only[wW] at h;cases h;exact gA
  ·rw[show (a==b)=false by simpa using e] at h;exact eF _ (zce h)
theorem zhB:(b_ h).In h:=λa o e=>by
 have hm:=zce e;unfold b_ at hm;rcases eU.mp hm with z|z
 ·unfold qu at z;split at z
  ·rename_i p hp;rcases bZ.mp z with e|z
   ·cases e;exact hp
   ·cases z
  ·cases z
 ·obtain⟨_,h2,h3⟩:=Ua (List.mem_reverse.mp z);rw[Heap.get?_some_iff];refine⟨?_,h3⟩;have:h.objs.toList[a]?=some o:=by simpa using h2
  simpa using this
noncomputable def mq(fs:List (Str×Stmt))(ms:List xq)(xs:List (Nat×Str))(l:Lk):Hook where
 α:=List (Option FuncData)×List (Option FuncData)×Bool
 obs:=rD fs ms xs l
 val:=uh fs ms
 says:=λ_ h=>∃K:Frag,K.In h/\kh fs ms xs l K
 of:=λw s e=>by
  have e3:(_&&_&&_)=true:=ql (λx=>x.2.2) e;rw[gB,gB,iV,iV] at e3;refine⟨b_ s.heap,zhB,⟨λp hp=>?_,Kaa e3.1.1,λm hm=>?_,e3.1.2,λx hx=>znx (e3.2 x hx)⟩⟩
  ·have e1:=ql Prod.fst e;exact znf (List.map_inj_left.mp e1 p hp)
  ·have e1:=ql (λx=>x.2.1) e;exact zmY (List.map_inj_left.mp e1 m hm)
 keeps:=λw h h' ⟨K,X,Y⟩ k=>⟨K,X.keeps k,Y⟩
theorem KR{l:OpenLaw}{k:Nat}{q:Program}{loose:List Str}{XP:(Str->Option Value)->Heap->Prop}{fs:List (Str×Stmt)}{ms:List xq}{xs:List (Nat×Str)}{lk:Lk}{d:DefRec}{x:Str}(hn:l.most=some 63)(Rx:d.params.defaults=[])(hr:cL k callerA)
  (F:∀(w:World) (K:Frag) (mg:Str->Option Value) (fa:Addr) (h:Heap),kh fs ms xs lk K->K.In h->h.Ns mainGlobals mg->mg d.name=some (.ref fa)->
   ∃fd:FuncData,(∀(s:Shared) (u:Value),BindsTo s fd ⟨[u],[]⟩ [(x,u)])/\∀base:Heap,K.In base->base.Ns mainGlobals mg->fD l.prog w K mg base (lA l.prog w) true k fa fd [x] (vh K)) :
  WalkO q loose XP (mq fs ms xs lk).says l.row.toRowW d [] (λf vs=>PySem.call f vs):=by
 refine Yw.nU hn Rx λw s₀ s₁ mg mb fa o pm cd doc a vs ns G Y ho hd oJ hmg CW hints hlen hg=>?_;obtain⟨K,KX,SY⟩:=Y;obtain⟨fd,hb,hF⟩:=F w K mg fa _ SY KX G.T.g hmg;exact zho KX G.T.g G.T.b G.T.builtins G.T.nolimit hg CW hints (jH hlen Dc) hr hF hb (λH hO hS=>⟨a,ns,rfl,hS,hlen,hO,λ_=>rfl⟩) λH e s' h=>by
  obtain⟨_,_,_,_,_,_,_,_,_,_,z⟩:=h;exact z
end Mi
namespace Mi
open PySem PySem.Spec PyProof.Rows L2
section
variable {K:W.Frag}{cA:Cl}{U:Ph}{H:Hp}
noncomputable def jw(K:W.Frag)(U:Ph)(H:Hp):Bool->Addr->List V->Prop
 |true,a,vs=>LstAt K U H a vs
 |false,a,vs=>TupAt K U H a vs
theorem jw.sk{kd:Bool}{a:Addr}{vs:List V}(h:jw K U H kd a vs):Sk kd K H a vs:=by
 cases kd
 ·exact TupAt.jr h
 ·exact LstAt.tL h
theorem jw.later{kd:Bool}{a:Addr}{vs:List V}{U':Ph}{H₁ H':Hp}(hz:∀a∈U.l,U.z a)(h:jw K U H kd a vs)(x:Ext U H U' H₁)(o:cM U' H₁ H'):jw K U' H' kd a vs:=by
 cases kd
 ·exact TupAt.later hz h x o
 ·exact LstAt.later hz h x o
theorem Ub{xs ys:List D}{i:Nat}:(List.zipWith (λp q=>D.tup [p,q]) xs ys)[i]?=match xs[i]?,ys[i]? with
  |some p,some q=>some (.tup [p,q])
  |_,_=>none:=by
 rw[List.getElem?_zipWith];cases xs[i]?<;>cases ys[i]?<;>rfl
theorem jD.zip{k1 k2:Bool}{l1 l2:Addr}{xs ys:List D}{us vs:List V}(hz:∀a∈U.l,U.z a)(h1:jw K U H k1 l1 us)(h2:jw K U H k2 l2 vs)(r1:aB K cA U H xs us)(r2:aB K cA U H ys vs):jD K cA (.fix (List.zipWith (λp q=>D.tup [p,q]) xs ys)) U H (R_ K k1 k2 l1 l2):=by
 refine⟨λU' H₁ H' s' i x o hS e=>?_,λU' H₁ H' s' i d x o hS e=>?_,λU' H₁ H' s' i d v H2 x o hS e y=>?_⟩
 ·have e:(List.zipWith (λp q=>D.tup [p,q]) xs ys)[i]?=none:=dJ e;rw[Ub] at e;refine⟨us,vs,(h1.later hz x o).sk,(h2.later hz x o).sk,?_⟩;cases ex:xs[i]? with
  |none=>exact .inl (oH.mp (r1.none ex))
  |some p=>
   cases ey:ys[i]? with
   |none=>exact .inr (oH.mp (r2.none ey))
   |some q=>rw[ex,ey] at e;cases e
 ·have e:(List.zipWith (λp q=>D.tup [p,q]) xs ys)[i]?=some d:=dJ e;rw[Ub] at e;cases ex:xs[i]? with
  |none=>rw[ex] at e;cases e
  |some p=>
   cases ey:ys[i]? with
   |none=>rw[ex,ey] at e;cases e
   |some q=>
    obtain⟨u,q1,_⟩:=r1.get ex;obtain⟨v,q2,_⟩:=r2.get ey;exact⟨us,vs,u,v,(h1.later hz x o).sk,(h2.later hz x o).sk,q1,q2⟩
 ·have e:(List.zipWith (λp q=>D.tup [p,q]) xs ys)[i]?=some d:=dJ e;rw[Ub] at e;cases ex:xs[i]? with
  |none=>rw[ex] at e;cases e
  |some p=>
   cases ey:ys[i]? with
   |none=>rw[ex,ey] at e;cases e
   |some q=>
    rw[ex,ey] at e;cases e;obtain⟨a,u,w,hn,rfl,rfl,hu,hw⟩:=y;obtain⟨u',q1,ru⟩:=((r1.mono x hz).out o).get ex;obtain⟨w',q2,nR⟩:=((r2.mono x hz).out o).get ey;have e1:=hu us (h1.later hz x o).sk;have e2:=hw vs (h2.later hz x o).sk;rw[q1] at e1;rw[q2] at e2;cases e1;cases e2;have g:bf H' (upd H' a (.tup [u,w])):=bf.new hn;exact⟨g,.tup (.inl ⟨.inl jO,hS.nz hn⟩) (.cons (ru.mono g.ext hS.lz) (.cons (nR.mono g.ext hS.lz) .nil))⟩
theorem zeA(r:aQ K cA U H x v)(h:Run K cA (M.bd (pI x) k) U H s P Ee) :
  ∃xs kd a vs,v=.ref a/\jw K U H kd a vs/\aB K cA U H xs vs/\Run K cA (k xs) U H s P Ee:=by
 cases r with
 |l _=>exact h.elim
 |d r=>
  cases r with
  |tup q r=>exact⟨_,false,_,_,rfl,q,r,h⟩
  |fl q r=>exact⟨_,true,_,_,rfl,q,r,h⟩
  |_=>exact h.elim
end
section
variable {X:Cx}{cA:Cl}{ao:Nat->Nat->Bool}{aj:Bool}{F:Fn}{EX:XS}{a b:Expr}{A B:E}{pos pp tpos:Pos}{elts:List Expr}{kk:Nat}
theorem zkJ(pQ:Gl X "zip")(hmg:X.mg "zip"=none)(ha:SE X cA ao aj F EX a A)(hb:SE X cA ao aj F EX b B)(h1:starEach [a,b] X.env=(false,eval a X.env)::starEach [b] X.env)(h2:starEach [b] X.env=(false,eval b X.env)::starEach [] X.env) :
  SI X cA ao aj F EX (.Tuple elts kk tpos) (.Call (.Name "zip" pp) [a,b] [] pos) (.zip A B):=PI.weak (zkL pQ hmg (v7 ha (v7 hb CK h2) h1) (by rw[h1,h2];rfl) (by rw[h2];rfl)) λZ H R hh=>un hh λU J s hL hS h=>by
 refine bG hL hS h λx H1 U1 d1 s1 x1 hL1 aL r1 h1=>bG hL1 aL h1 λy H2 U2 d2 s2 x2 hL2 hS2 r2 h2=>?_;obtain⟨xs,k1,l1,us,e1,q1,p1,h3⟩:=zeA (r1.mono x2 aL.lz) h2;obtain⟨ys,k2,l2,vs,e2,q2,p2,h4⟩:=zeA r2 h3;subst e1 e2;exact⟨k1,k2,l1,l2,us,vs,rfl,q1.sk,q2.sk,(h4.bU hS2) _ (jD.zip hS2.lz q1 q2 p1 p2)⟩
theorem znm(hmg:X.mg "zip"=none)(pQ:JK X "zip" .globalImplicit)(ha:JE X cA ao aj F EX a A)(hb:JE X cA ao aj F EX b B)(h1:aF a=true:=by rfl)(h2:aF b=true:=by rfl):JI X cA ao aj F EX (.Tuple elts kk tpos) (.Call (.Name "zip" p) [a,b] [] pos) (.zip A B):=⟨zkJ pQ.o hmg ha.o hb.o (bA h1) (bA h2)⟩
end
theorem zf3:∀k,k<=is.length->(i::is).getD (argBest (λa b=>bt ((i::is).getD a 0) ((i::is).getD b 0)) k) 0=best bt i (is.take k)
 |0,_=>rfl
 |k+1,hk=>by
  have ih:=zf3 (bt:=bt) (i:=i) (is:=is) k gV;have hg:is[k]?=some (is[k]' gV):=dj gV;have ht:is.take (k+1)=is.take k++[is[k]' gV]:=List.take_succ_eq_append_getElem gV;have hv:(i::is).getD (k+1) 0=is[k]' gV:=by
   rw[g_,G_,hg];rfl
  unfold best at ih ⊢;rw[ht,List.foldl_append,List.foldl_cons,List.foldl_nil,<-ih];rw[argBest.eq_2];generalize argBest (λa b=>bt ((i::is).getD a 0) ((i::is).getD b 0)) k=m;rw[hv];by_cases hb:bt (is[k]' gV) ((i::is).getD m 0)=true
  ·rw[if_pos hb,if_pos hb,hv]
  ·rw[if_neg hb,if_neg hb]
theorem zj5{bt:Int->Int->Bool}{i:Int}{is:List Int}:(i::is).getD (argBest (λa b=>bt ((i::is).getD a 0) ((i::is).getD b 0)) is.length) 0=best bt i is:=by
 rw[zf3 is.length (bL _),zA]
section
variable {K:W.Frag}{cA:Cl}{U:Ph}{H:Hp}
theorem KY:∀{xs:List D} {is:List Int} {vs:List V},aC xs=some is->aB K cA U H xs vs->vs=is.map V.int
 |[],is,vs,h,r=>by cases h;cases r;rfl
 |d::xs,is,vs,h,r=>by
  cases d with
  |int b=>
   simp only[aC,jk] at h;obtain⟨bs',h1,rfl⟩:=h;cases r with
   |cons q r=>cases q;rw[KY h1 r];rfl
  |_=>simp[aC] at h
theorem zjt(hp:prim p=qH bt):bw K cA p (λxs H Q=>∃(a:Addr) (i:Int) (is:List Int),xs=[.ref a]/\(cY K H a ((i::is).map V.int)\/gC K H a ((i::is).map V.int))/\Q (.int (best bt i is)) H):=by
 intro U H ds vs Q zt rs o;rw[hp] at o;unfold qH at o;split at o
 ·rename_i a;obtain⟨v,rfl,rv⟩:=rs.one;cases e0:dX a with
  |none=>rw[e0] at o;exact o.elim
  |some xs=>
   rw[e0] at o;obtain⟨ad,us,rfl,l,q⟩:=Rv.sq rv e0;cases e1:aC xs with
   |none=>
    have o:aY K cA U H (jV bt (aC xs)) Q:=o;rw[e1] at o;exact False.elim o
   |some js=>
    cases js with
    |nil=>
     have o:aY K cA U H (jV bt (aC xs)) Q:=o;rw[e1] at o;exact False.elim o
    |cons i is=>
     have o:aY K cA U H (jV bt (aC xs)) Q:=o;rw[e1] at o;exact⟨ad,i,is,rfl,by rw[<-KY e1 q];exact l,(o.of rfl).here (.int _)⟩
 ·exact o.elim
end
section
variable {X:Cx}
theorem Oz{js:List Int}{its:List Value}(rv:Vals (js.map V.int) its){i:Nat}{v:Value}(hP:its.toArray[i]?=some v):∃t,v=.int (js.getD i 0) t:=by
 have hi:its[i]?=some v:=by simpa using hP
 have bW:i<its.length:=(gw.mp hi).1;have z:=rv.length;rw[aW] at z;have hb:js[i]?=some (js[i]' gV):=dj gV;obtain⟨u,e1,e2⟩:=rv.get (i:=i) (x:=V.int (js[i]' gV)) (by rw[gK,hb];rfl);rw[hi] at e1;cases e1;obtain⟨t,e⟩:=e2;exact⟨t,by rw[e,g_,hb];rfl⟩
theorem zga(hc:X.aj=true):cT X (.builtin "min") (λxs H Q=>∃(a:Addr) (i:Int) (is:List Int),xs=[.ref a]/\(cY X.K H a ((i::is).map V.int)\/gC X.K H a ((i::is).map V.int))/\Q (.int (best (λa b=>decide (a<b)) i is)) H):=by
 rintro ak s Z H xs us Q I r ⟨p,i,is,e,hp,q⟩;subst e;obtain⟨u,rfl,ru⟩:=Vals.one r;cases (show u=Value.ref p from ru);have fin:∀{its:List Value},Vals ((i::is).map V.int) its->∀{v:Value} {h':Heap} {tk:Nat},its.toArray[argBest (λa b=>decide ((i::is).getD a 0<(i::is).getD b 0)) (its.toArray.size-1)]?=some v->(∀b o,s.heap.get? b=some o->h'.get? b=some o)->EP X ak Z Q v {s with heap:=h',toks:=tk}:=by
  intro its rv v h' tk hP hk;have z:is.length+1=its.length:=by have:=rv.length;rw[aW] at this;exact this
  have en:its.toArray.size-1=is.length:=by rw[dH];lia
  rw[en] at hP;obtain⟨t,ev⟩:=Oz rv hP;rw[zj5 (bt:=λa b=>decide (a<b))] at ev;exact⟨.int (best (λa b=>decide (a<b)) i is),H,I.kept (h':=h') (t':=tk) hk,⟨t,ev⟩,q⟩
 rcases hp with hp|hp
 ·obtain⟨its,rv,pl,hz⟩:=I.list hp;have hl:s.heap.IsList p its.toArray:=pl.isList;have bW:p<s.heap.objs.size:=by
   obtain⟨o,hg,_⟩:=hl;exact bC hg
  have z:is.length+1=its.length:=by have:=rv.length;rw[aW] at this;exact this
  refine call_min_walk (MF hl ?_);refine⟨_,_,_,_,_,_,_,rfl,Walks.list (A:=X.A.in1) (I.ok.hd hc) _ p (cR bW) its.toArray,⟨⟨_,fj _ rfl,rfl,rfl⟩,hl.push _⟩,?_,by rw[dH];lia,CmpOf.ints_lt (λj=>(i::is).getD j 0) (λ_ _=>Oz rv),λv h' tk hP hk=>fin rv hP (old_kept hk)⟩;intro b hb;show b<(s.heap.push _).objs.size;rw[qj];simp only[bZ,rC,qm] at hb;rcases hb with e|e
  ·exact e▸Hv _
  ·exact e▸kO bW
 ·obtain⟨its,rv,pl,hz⟩:=I.tuple hp;have hl:s.heap.IsTuple p its.toArray:=pl;have bW:p<s.heap.objs.size:=by
   obtain⟨o,hg,_⟩:=hl;exact bC hg
  have z:is.length+1=its.length:=by have:=rv.length;rw[aW] at this;exact this
  refine call_min_walk (Mu hl ?_);refine⟨_,_,_,_,_,_,_,rfl,Walks.tuple (A:=X.A.in1) (I.ok.hd hc) _ p (cR bW) its.toArray,⟨⟨_,fj _ rfl,rfl,rfl⟩,hl.push _⟩,?_,by rw[dH];lia,CmpOf.ints_lt (λj=>(i::is).getD j 0) (λ_ _=>Oz rv),λv h' tk hP hk=>fin rv hP (λb o e=>hk b o (by simpa using cR (bC e)) (cF _ e))⟩;intro b hb;show b<(s.heap.push _).objs.size;rw[qj];simp only[bZ,rC,qm] at hb;rcases hb with e|e
  ·exact e▸Hv _
  ·exact e▸kO bW
end
section
variable {X:Cx}{cA:Cl}{ao:Nat->Nat->Bool}{aj:Bool}{F:Fn}{EX:XS}{e:Expr}{pos p:Pos}{es:List Expr}{Xs:Es}{fz:Bool}
theorem Uc(hc:X.aj=true)(hm:X.mg "min"=none)(hg:JK X "min" .globalImplicit)(ha:JA X cA ao aj F EX (e::es) Xs)(he:aF e=true:=by rfl)(bR:es.all aF=true:=by rfl):JE X cA ao aj F EX (.Call (.Name "min" p) (e::es) [] pos) (.pr fz .n8 Xs):=⟨Aj (zga hc) (zjt rfl) hg.o hm PyProof.Rows.boot_min ha.o Dc Dc (bA he) (bB bR)⟩
end
end Mi
namespace Mi
open PySem PySem.Spec PyProof.Rows L2 PySem.W
structure D3(K:Frag)(mg:Str->Option Value)(x:Str)(st:Stmt)(ps:List Str):Prop where
 f:yF K x x st (jE K x) (fdOf K x st)
 m:mg x=some (.ref (jE K x))
 b:Binds K (fdOf K x st) ps []
theorem dk{p:Prop}(h:p:=by decide +kernel):p:=h
section
variable {fs:List (Str×Stmt)}{ms:List xq}{xs:List (Nat×Str)}{lk:Lk}{K:Frag}{h:Heap}{mg:Str->Option Value}{x:Str}{st:Stmt}
theorem tQ(S:kh fs ms xs lk K)(X:K.In h)(G:h.Ns mainGlobals mg)(j:Nat)(hj:fs[j]?=some (x,st):=by rfl)(hb:∀(kV doc pm:Value) (an:Option Addr) (cdv ct a:Value),bindArgs (fnOf x x (bO st) (bx st) (aA st) .none kV doc pm an cdv ct) ⟨[a],[]⟩=pure [(p,a)]:=by intros;rfl):D3 K mg x st [p]:=have F:=S.fn (x,st) (iQ hj);⟨F.fn,F.m X G,yL F.fn hb⟩
theorem oF(S:kh fs ms xs lk K)(X:K.In h)(G:h.Ns mainGlobals mg)(j:Nat)(hj:fs[j]?=some (x,st):=by rfl)(hb:∀(kV doc pm:Value) (an:Option Addr) (cdv ct a b:Value),bindArgs (fnOf x x (bO st) (bx st) (aA st) .none kV doc pm an cdv ct) ⟨[a,b],[]⟩=pure [(p,a),(q,b)]:=by intros;rfl):D3 K mg x st [p,q]:=have F:=S.fn (x,st) (iQ hj);⟨F.fn,F.m X G,yM F.fn hb⟩
theorem zok(S:kh fs ms xs lk K)(X:K.In h)(G:h.Ns mainGlobals mg)(j:Nat)(hj:fs[j]?=some (x,st):=by rfl)(hb:∀(kV doc pm:Value) (an:Option Addr) (cdv ct a b c:Value),bindArgs (fnOf x x (bO st) (bx st) (aA st) .none kV doc pm an cdv ct) ⟨[a,b,c],[]⟩=pure [(p,a),(q,b),(t,c)]:=by intros;rfl):D3 K mg x st [p,q,t]:=have F:=S.fn (x,st) (iQ hj);⟨F.fn,F.m X G,yN F.fn hb⟩
theorem mG{α:Type}{l:List α}{a:α}(j:Nat)(h:l[j]?=some a:=by rfl):a∈l:=iQ h
end
end Mi
namespace Mi
open PySem PySem.Spec PyProof.Rows L2
theorem zhY:∀(n:Nat) {x:D} {d:PyData},pd n x=some d->d.depth<=n/\d.hasDict=false:=by
 have hs:∀(n:Nat),(∀{x:D} {d:PyData},pd n x=some d->d.depth<=n/\d.hasDict=false)->∀(xs:List D) {ds:List PyData},mZ (pd n) xs=some ds->PyData.depthAll ds<=n/\PyData.hasDictAll ds=false:=by
  intro n ih xs
  induction xs with
  |nil=>intro ds h;cases h;exact⟨jm _,rfl⟩
  |cons x r ihr=>
   intro ds h;unfold mZ at h;split at h
   ·rename_i a b e1 e2;cases h;obtain⟨p1,p2⟩:=ih e1;obtain⟨q1,q2⟩:=ihr e2;refine⟨?_,?_⟩
    ·simp only[PyData.depthAll];lia
    ·simp only[PyData.hasDictAll,p2,q2,Bool.or_self]
   ·cases h
 intro n
 induction n with
 |zero=>intro x d h;cases x<;>simp only[pd] at h<;>first|(cases h;done)|(cases h;exact⟨bL _,rfl⟩)
 |succ n ih=>
  intro x d h;cases x with
  |tup xs=>
   simp only[pd,jk] at h;obtain⟨ds,e,rfl⟩:=h;obtain⟨p,q⟩:=hs n ih xs e;exact⟨by simp only[PyData.depth];lia,by simp only[PyData.hasDict];exact q⟩
  |fl xs=>
   simp only[pd,jk] at h;obtain⟨ds,e,rfl⟩:=h;obtain⟨p,q⟩:=hs n ih xs e;exact⟨by simp only[PyData.depth];lia,by simp only[PyData.hasDict];exact q⟩
  |non=>simp only[pd] at h;cases h;exact⟨jm _,rfl⟩
  |bl _=>simp only[pd] at h;cases h;exact⟨jm _,rfl⟩
  |int _=>simp only[pd] at h;cases h;exact⟨jm _,rfl⟩
  |str _=>simp only[pd] at h;cases h;exact⟨jm _,rfl⟩
  |_=>simp only[pd] at h;cases h
theorem zhn:∀(n:Nat) {x:D} {u:Value} {d:PyData},Is h x u->pd n x=some d->∃as,Reads h u d as:=by
 have hs:∀(n:Nat),(∀{x:D} {u:Value} {d:PyData},Is h x u->pd n x=some d->∃as,Reads h u d as)->∀(xs:List D) {us:List Value} {ds:List PyData},jC h xs us->mZ (pd n) xs=some ds->∃as,ReadsAll h us ds as:=by
  intro n ih xs
  induction xs with
  |nil=>intro us ds i h;cases h;cases i;exact⟨_,.nil⟩
  |cons x r ihr=>
   intro us ds i h;unfold mZ at h;split at h
   ·rename_i a b e1 e2;cases h;cases i with
    |cons i1 i2=>
     obtain⟨as,p1⟩:=ih i1 e1;obtain⟨bs,q1⟩:=ihr i2 e2;exact⟨_,.cons p1 q1⟩
   ·cases h
 intro n
 induction n with
 |zero=>
  intro x u d i h;cases x<;>simp only[pd] at h<;>first
   |(cases h;done)
   | (cases h
      cases i<;>first
        |exact⟨_,.none⟩
        |exact⟨_,.bool _⟩
        |exact⟨_,.int _ _⟩
        |exact⟨_,.str _ _⟩
        |contradiction)
 |succ n ih=>
  intro x u d i h;cases x with
  |tup xs=>
   simp only[pd,jk] at h;obtain⟨ds,e,rfl⟩:=h;cases i with
   |tup p r=>
    obtain⟨as,q⟩:=hs n ih xs r e;obtain⟨o,h1,h2,m,h3⟩:=p;exact⟨_,.tuple h1 h2 h3 q⟩
   |oth k=>cases k
  |fl xs=>
   simp only[pd,jk] at h;obtain⟨ds,e,rfl⟩:=h;cases i with
   |fl p r=>
    obtain⟨as,q⟩:=hs n ih xs r e;obtain⟨o,h1,h2,m,h3⟩:=p;exact⟨_,.list h1 h2 h3 q⟩
   |oth k=>cases k
  |non=>simp only[pd] at h;cases h;cases i with|non=>exact⟨_,.none⟩|oth k=>cases k
  |bl _=>simp only[pd] at h;cases h;cases i with|bl=>exact⟨_,.bool _⟩|oth k=>cases k
  |int _=>simp only[pd] at h;cases h;cases i with|int=>exact⟨_,.int _ _⟩|oth k=>cases k
  |str _=>simp only[pd] at h;cases h;cases i with|str=>exact⟨_,.str _ _⟩|oth k=>cases k
  |_=>simp only[pd] at h;cases h
theorem zgt(h:jo (.inr k) v=true):∃t,v=.str k t:=by
 rcases vW h with ⟨i,u,e,_⟩|⟨x,u,e,e2⟩
 ·cases e
 ·cases e;exact⟨u,e2⟩
theorem zcm{X:Cx}{cA:Cl}{ak:List (Addr×Obj)}{Z:L2.St}{H:Hp}{s:Shared}{a:Addr}{kk:Str}{ii:Int}(I:Inv X ak Z H s)(q1:H a=some (.dK [(.inr kk,.int ii)])):Reads s.heap (.ref a) (.dict [(.str kk,.int ii)]) [a]/\sysModules∉[a]:=by
 obtain⟨_,hne,kv,rel,o,es,ep,g1,g2,g3,g4,g5,_⟩:=(show aV X.prog X.w H s.heap a (.dK [(.inr kk,.int ii)]) from I.hok a _ q1);refine⟨?_,λhm=>by simp at hm;rw[hm] at hne;simp at hne⟩;cases rel with
 |cons rl rr=>
  cases rr;obtain⟨l⟩:=es;cases g5 with
  |cons p1 p2 p3=>
   cases p3;rename_i q e;obtain⟨e1,tt,e2⟩:=rl;have hk:jo (.inr kk) e.key=true:=by rw[show (Sum.inr kk:Key)=_ from e1];exact p1
   obtain⟨tk,hk⟩:=zgt hk;refine .dict (as:=[]) (bs:=[]) g1 g2.1 g3 ?_ ?_
   ·show ReadsAll s.heap [e.key] [.str kk] [];rw[hk];exact .cons (.str kk tk) .nil
   ·show ReadsAll s.heap [e.val] [.int ii] [];rw[p2,e2];exact .cons (.int ii tt) .nil
theorem zhg{X:Cx}{cA:Cl}{ak:List (Addr×Obj)}{Z:L2.St}{H:Hp}{s:Shared}{U:Ph}(I:Inv X ak Z H s):∀(n:Nat) {x:D} {v:V} {u:Value} {d:PyData},Rep X.K cA U H x v->RelV v u->pe n x=some d->∃as,Reads s.heap u d as/\sysModules∉as/\d.depth<=n:=by
 have hs:∀(n:Nat),(∀{x:D} {v:V} {u:Value} {d:PyData},Rep X.K cA U H x v->RelV v u->pe n x=some d->∃as,Reads s.heap u d as/\sysModules∉as/\d.depth<=n)->∀(xs:List D) {vs:List V} {us:List Value} {ds:List PyData},aB X.K cA U H xs vs->Vals vs us->mZ (pe n) xs=some ds->∃as,ReadsAll s.heap us ds as/\sysModules∉as/\PyData.depthAll ds<=n:=by
  intro n ih xs
  induction xs with
  |nil=>intro vs us ds i rv h;cases h;cases i;cases rv;exact⟨_,.nil,by simp,jm _⟩
  |cons x r ihr=>
   intro vs us ds i rv h;unfold mZ at h;split at h
   ·rename_i a b e1 e2;cases h;cases i with
    |cons i1 i2=>
     cases rv with
     |cons r1 r2=>
      obtain⟨as,p1,p2,p3⟩:=ih i1 r1 e1;obtain⟨bs,q1,q2,q3⟩:=ihr i2 r2 e2;refine⟨_,.cons p1 q1,λz=>?_,?_⟩
      ·rcases eU.mp z with z|z
       ·exact p2 z
       ·exact q2 z
      ·simp only[PyData.depthAll];lia
   ·cases h
 intro n
 induction n with
 |zero=>
  intro x v u d i rv h;cases i<;>simp only[pe] at h<;>first
   |(cases h;done)
   |(cases h;obtain⟨t,rfl⟩:=rv;first|exact⟨_,.int _ _,by simp,bL _⟩|exact⟨_,.str _ _,by simp,bL _⟩)
   |(cases h;cases rv;first|exact⟨_,.none,by simp,bL _⟩|exact⟨_,.bool _,by simp,bL _⟩)
 |succ n ih=>
  intro x v u d i rv h;cases i with
  |tup t r=>
   simp only[pe,jk] at h;obtain⟨ds,e,rfl⟩:=h;cases rv;obtain⟨its,rv,ht,_⟩:=I.tuple t.jr;obtain⟨as,q1,q2,q3⟩:=hs n ih _ r rv e;obtain⟨o,h1,h2,m,h3⟩:=ht;exact⟨_,.tuple h1 h2 h3 q1,q2,by simp only[PyData.depth];lia⟩
  |fd q1 nz=>
   simp only[pe] at h;cases h;cases rv;obtain⟨rd,hn⟩:=zcm (cA:=cA) I q1;exact⟨_,rd,hn,by simp only[PyData.depth,PyData.depthKv];lia⟩
  |non=>simp only[pe] at h;cases h;cases rv;exact⟨_,.none,by simp,jm _⟩
  |bl _=>simp only[pe] at h;cases h;cases rv;exact⟨_,.bool _,by simp,jm _⟩
  |int _=>simp only[pe] at h;cases h;obtain⟨t,rfl⟩:=rv;exact⟨_,.int _ _,by simp,jm _⟩
  |str _=>simp only[pe] at h;cases h;obtain⟨t,rfl⟩:=rv;exact⟨_,.str _ _,by simp,jm _⟩
  |_=>simp only[pe] at h;cases h
section
variable {X:Cx}{cA:Cl}
theorem zhk(h:Gm d=some z):d.showable=true/\d.shown.length<=sizeLine/\z=.dat (.str d.shown):=by
 unfold Gm at h;split at h
 ·rename_i q;cases h;exact⟨q.1,q.2,rfl⟩
 ·cases h
noncomputable def Bb(K:W.Frag)(cA:Cl):List V->Hp->VK->Prop:=λxs H Q=>∃U x v d,xs=[v]/\Rv K cA U H x v/\Gk x=some d/\d.showable=true/\d.shown.length<=sizeLine/\Q (.str d.shown) H
theorem zgF(hr:cL k X.A):cT X (.builtin "repr") (Bb X.K cA):=by
 rintro ak s Z H xs us Q I r ⟨U,x,v,d,e,rv,hp,hs,hz,q⟩;subst e;obtain⟨u,rfl,ru⟩:=vals1 r;have hu:=hr.un;have hg:=hr.gd;have fin:∀h' t tk,(∀b o,s.heap.get? b=some o->h'.get? b=some o)->EP X ak Z Q (.str d.shown t) {s with heap:=h',toks:=tk}:=λh' t tk hk=>⟨.str d.shown,H,I.kept (h':=h') (t':=tk) hk,⟨t,rfl⟩,q⟩;have leaf:EP X ak Z Q (.str d.shown s.toks) {s with toks:=s.toks+1}:=fin s.heap _ _ λ_ _ e=>e;by_cases Ud:∃ks vs,x=.fd ks vs
 ·obtain⟨ks,vs,rfl⟩:=Ud;cases (show Rep X.K cA U H (.fd ks vs) v from rv) with
  |@fd a kk ii q1 n=>
   cases (show u=Value.ref a from ru);cases hp;obtain⟨rd,hn⟩:=zcm (cA:=cA) I q1;exact repr_of_reads' rd hs (λ_=>hn) hg (by simp only[PyData.depth,PyData.depthKv];lia) (λ_ _ e=>e) (λh' t tk hk=>fin h' t tk hk) hz
 ·have hp:SX (pd 40 x) (pe 40 x)=some d:=by
   cases x with
   |fd ks vs=>exact absurd ⟨ks,vs,rfl⟩ Ud
   |_=>exact hp
  by_cases hp':pd 40 x=none
  ·rw[hp'] at hp;have hp:pe 40 x=some d:=hp;cases x with
   |tup xs=>
    have rv:Rep X.K cA U H (.tup xs) v:=rv;obtain⟨as,rd,hn,dp⟩:=zhg I 40 rv ru hp;cases rv;cases ru;exact repr_of_reads' rd hs (λ_=>hn) hg gV (λ_ _ e=>e) (λh' t tk hk=>fin h' t tk hk) hz
   |fd ks vs=>exact absurd ⟨ks,vs,rfl⟩ Ud
   |fl _=>cases hp
   |exc _ _=>cases hp
   |ob _ _=>cases hp
   |any=>cases hp
   |_=>cases hp'
  have hp':pd 40 x=some d:=by
   cases e:pd 40 x with
   |none=>exact absurd e hp'
   |some d'=>rw[e] at hp;exact hp
  have i:Is s.heap x u:=yt I rv ru;obtain⟨as,rd⟩:=zhn 40 i hp';obtain⟨dp,nd⟩:=zhY 40 hp';cases rd with
  |none=>exact P.repr_of_none leaf
  |bool b=>exact P.repr_of_bool (by cases b<;>exact leaf)
  |int j t=>exact P.repr_of_int (by simpa [PyData.showable] using hs) leaf
  |str y t=>exact P.repr_of_str leaf hz
  |list h1 h2 h3 h4=>exact repr_of_reads' (.list h1 h2 h3 h4) hs (PyData.noDict_hsm nd) hg gV (λ_ _ e=>e) (λh' t tk hk=>fin h' t tk hk) hz
  |tuple h1 h2 h3 h4=>exact repr_of_reads' (.tuple h1 h2 h3 h4) hs (PyData.noDict_hsm nd) hg gV (λ_ _ e=>e) (λh' t tk hk=>fin h' t tk hk) hz
  |dict h1 h2 h3 h4 h5=>cases nd
theorem zjh:bw X.K cA .repr (Bb X.K cA):=by
 intro U H ds vs Q zt rs o;have o:aY X.K cA U H (uV ds) Q:=o;unfold uV at o;split at o
 ·rename_i x _;obtain⟨v,rfl,r1⟩:=rs.one;obtain⟨z,e⟩:=o.some';obtain⟨d,e1,e2⟩:=wN.mp e;obtain⟨q1,q2,rfl⟩:=zhk e2;exact⟨U,x,v,d,rfl,r1,e1,q1,q2,(o.of e).here (.str _)⟩
 ·exact o.elim
end
section
variable {X:Cx}{cA:Cl}{ao:Nat->Nat->Bool}{aj:Bool}{F:Fn}{EX:XS}{e:Expr}{pos p:Pos}{es:List Expr}{Xs:Es}{fz:Bool}
theorem ziE(hr:cL k X.A)(hm:X.mg "repr"=none)(hg:JK X "repr" .globalImplicit)(ha:JA X cA ao aj F EX (e::es) Xs)(he:aF e=true:=by rfl)(bR:es.all aF=true:=by rfl):JE X cA ao aj F EX (.Call (.Name "repr" p) (e::es) [] pos) (.pr fz .repr Xs):=⟨Aj (zgF hr) zjh hg.o hm PyProof.Rows.boot_repr ha.o Dc Dc (bA he) (bB bR)⟩
end
end Mi
namespace Mi
open PySem
def W{α:Type}(m:M α)(s:S)(P:α->S->Prop):Prop:=∃a s',m s=some (.ok a,s')/\P a s'
def WS(m:MS)(s:S)(Q:Out->S->Prop):Prop:=∃o s',m s=some (o,s')/\Q o s'
section
variable {α β:Type}{m:M α}{k:α->M β}{s:S}{P:α->S->Prop}{R:β->S->Prop}
theorem W.bd(h:W m s λa s'=>W (k a) s' R):W (M.bd m k) s R:=by
 obtain⟨a,s',e,b,s2,e2,r⟩:=h;exact⟨b,s2,by unfold M.bd;rw[e];exact e2,r⟩
theorem W.ret{a:α}(h:P a s):W (M.ret a) s P:=⟨a,s,rfl,h⟩
theorem W.qt(h:W m s P):W (M.qt m) s P:=by
 obtain⟨a,s',e,p⟩:=h;exact⟨a,s',by unfold M.qt;rw[e],p⟩
theorem W.opt(e:o=some a)(h:P a s):W (M.opt o) s P:=by subst e;exact⟨a,s,rfl,h⟩
theorem W.imp{P':α->S->Prop}(h:W m s P)(f:∀a s',P a s'->P' a s'):W m s P':=let ⟨a,s',e,p⟩:=h;⟨a,s',e,f a s' p⟩
theorem W.eq(e:m s=some (.ok a,s'))(p:P a s'):W m s P:=⟨a,s',e,p⟩
theorem kj{d:D}{P:D->S->Prop}(h:P d s):W (rd (.d d)) s P:=⟨d,s,rfl,h⟩
theorem GJ{n:Nat}{xs:List D}{P:D->S->Prop}(e:s[n]?=some (.lst xs))(h:P (.fl xs) s):W (rd (.l n)) s P:=⟨.fl xs,s,by unfold rd;simp only[e],h⟩
theorem oR{P:List D->S->Prop}(h:P [] s):W (gb []) s P:=⟨[],s,rfl,h⟩
theorem jx{x:Xv}{r:List Xv}{P:List D->S->Prop}(h:W (rd x) s λd s1=>W (gb r) s1 λds s2=>P (d::ds) s2):W (gb (x::r)) s P:=W.bd (h.imp λd s1 h1=>W.bd (h1.imp λds s2 h2=>W.ret h2))
theorem Kaw{P:List D->S->Prop}(h:P [] s):W (gW []) s P:=⟨[],s,rfl,h⟩
theorem Ue{d:D}{r:List Xv}{P:List D->S->Prop}(h:W (gW r) s λds s2=>P (d::ds) s2):W (gW (.d d::r)) s P:=W.bd (W.ret (W.bd (h.imp λds s2 h2=>W.ret h2)))
theorem W.dat{x:D}{P:D->S->Prop}(h:P x s):W (dat (.d x)) s P:=⟨x,s,rfl,h⟩
theorem W.bool{b:Bool}{P:Bool->S->Prop}(h:P b s):W (bool (.d (.bl b))) s P:=⟨b,s,rfl,h⟩
theorem W.int{b:Int}{P:Int->S->Prop}(h:P b s):W (int (.d (.int b))) s P:=⟨b,s,rfl,h⟩
theorem bK{fz:Bool}{o:Option Rz}{d:D}{P:Xv->S->Prop}(e:o=some (.dat d))(h:P (.d d) s):W (bJ fz o) s P:=by subst e;exact⟨_,s,rfl,h⟩
theorem Ep{o:Option Rz}{xs:List D}{P:Xv->S->Prop}(e:o=some (.nw xs))(h:P (.d (.fl xs)) s):W (bJ true o) s P:=by subst e;exact⟨_,s,rfl,h⟩
theorem Ug{xs:List D}{P:Xv->S->Prop}(h:P (.d (.fl xs)) s):W (newL true xs) s P:=⟨_,s,rfl,h⟩
theorem KaV{xs:List D}{P:Xv->S->Prop}(h:P (.l s.length) (s++[.lst xs])):W (newL false xs) s P:=⟨_,_,rfl,h⟩
theorem tR{F:List Xv->M Xv}{xs:List Xv}{P:Xv->S->Prop}(hl:locs xs=[])(h:W (F (dB 0 xs)) [] λv _=>∃d,v=.d d/\P (.d d) s):W (bT F xs) s P:=by
 obtain⟨v,s1,e,d,rfl,p⟩:=h;refine⟨.d d,s,?_,p⟩;unfold bT;rw[hl,if_pos zF];simp only[jg,e,cV]
theorem Kak{F:List Xv->M Xv}{xs:List Xv}{P:Xv->S->Prop}(hl:locs xs=[])(h:W (F (dB 0 xs)) [] λv s1=>∃n o,v=.l n/\s1[n]?=some o/\P (.l s.length) (s++[o])):W (bT F xs) s P:=by
 obtain⟨v,s1,e,n,o,rfl,eo,p⟩:=h;refine⟨.l s.length,s++[o],?_,p⟩;unfold bT;rw[hl,if_pos zF];simp only[jg,e,cV,List.getElem?_nil,eo]
theorem Uh{F:List Xv->M Xv}{xs:List Xv}{n:Nat}{o:SO}{P:Xv->S->Prop}(hl:locs xs=[n])(ho:s[n]?=some o)(h:W (F (dB 0 xs)) [o] λv s1=>∃d o',v=.d d/\s1=[o']/\P (.d d) (s.set n o')):W (bT F xs) s P:=by
 obtain⟨v,s1,e,d,o',rfl,rfl,p⟩:=h;refine⟨.d d,s.set n o',?_,p⟩;unfold bT;rw[hl,if_pos J0];simp only[jg,ho,e,cV]
end
section
variable {s:S}{Q:Out->S->Prop}
theorem WS.ofM(h:W m s λa s'=>WS (k a) s' Q):WS (Mi.ofM m J k) s Q:=by
 obtain⟨a,s',e,o,s2,e2,q⟩:=h;exact⟨o,s2,by unfold Mi.ofM;rw[e];exact e2,q⟩
theorem WS.nx(h:Q (.nx J) s):WS (λs=>some (.nx J,s)) s Q:=⟨_,s,rfl,h⟩
theorem WS.rt(h:Q (.rt x) s):WS (λs=>some (.rt x,s)) s Q:=⟨_,s,rfl,h⟩
end
theorem W.call(hT:T f=some d)(hl:xs.length=d.jB)
  (h:WS (exs ao aj (λc=>Mi.call ao T k c) d.body (xs.map some++List.replicate (d.many-d.jB) none)) s λo s'=>match o with|.nx _=>P (.d .non) s'|.rt v=>P v s'|_=>False):W (Mi.call ao T (k+1) aj f xs) s P:=by
 obtain⟨o,s',e,q⟩:=h;unfold Mi.call;simp only[hT,if_pos hl];unfold W;simp only[e];cases o with
 |nx J=>exact⟨_,_,rfl,q⟩
 |rt v=>exact⟨_,_,rfl,q⟩
 |bk J=>exact q.elim
 |ct J=>exact q.elim
 |er c fs J=>exact q.elim
theorem Er(I:Nat->Vs->S->Prop)(h0:I 0 J s)(hb:∀i x J s,c[i]?=some x->I i J s->WS (b x J) s λo s'=>∃J',o=.nx J'/\I (i+1) J' s')
  (he:∀J s,I c.length J s->Q (.nx J) s):WS (gF (.fix c) b (c.length+1) 0 J) s Q:=by
 have key:∀n i J s,i+n=c.length->I i J s->WS (gF (.fix c) b (n+1) i J) s Q:=by
  intro n
  induction n with
  |zero=>
   intro i J s hi hI;have e:c[i]?=none:=by rw[oH];lia
   have:i=c.length:=by lia
   subst this;refine⟨_,s,?_,he J s hI⟩;unfold gF;simp only[Src.at,e]
  |succ n ih=>
   intro i J s hi hI;have bW:i<c.length:=by lia
   have e:c[i]?=some c[i]:=dj bW;obtain⟨o,s',eb,J',rfl,KZ⟩:=hb i c[i] J s e hI;obtain⟨o2,s2,e2,q⟩:=ih (i+1) J' s' gV KZ;refine⟨o2,s2,?_,q⟩;unfold gF;simp only[Src.at,e,eb];exact e2
 exact key c.length 0 J s gV h0
theorem Ui{i j:Int}(h:(-(2^64)<i/\i<2^64)\/(-(2^64)<j/\j<2^64)):prim .mul [.int i,.int j]=some (.dat (.int (i*j))):=by
 show Option.map _ (if _ then _ else _)=_;rw[if_pos h];rfl
theorem znP{i j:Int}(h:0<j):prim .mod [.int i,.int j]=some (.dat (.int (i%j))):=by
 show Option.map _ (if _ then _ else _)=_;rw[if_pos h];rfl
theorem ziX{i j:Int}(h:0<j/\j<1073741824):prim .fdiv [.int i,.int j]=some (.dat (.int (i/j))):=by
 show Option.map _ (if _ then _ else _)=_;rw[if_pos h];rfl
theorem zir{i j:Int}(h:0<j/\j<1073741824):prim .divmod [.int i,.int j]=some (.dat (.tup [.int (i/j),.int (i%j)])):=by
 show Option.map _ (if _ then _ else _)=_;rw[if_pos h];rfl
theorem zmU{i j:Int}(h:0<=j/\j<=1000000/\i.natAbs<2^64):prim .pow [.int i,.int j]=some (.dat (.int (i^j.toNat))):=by
 show Option.map _ (if _ then _ else _)=_;rw[if_pos h];rfl
theorem yO{xs:List D}{i:Nat}{x:D}(h:xs[i]?=some x):prim .ix [.fl xs,.int i]=some (.dat x):=by
 show Option.map Rz.dat (L2.qy xs i)=_;have:L2.qy xs (i:Int)=some x:=by
  unfold L2.qy L2.v8;have hl:i<xs.length:=(gw.mp h).1;simp[hl];exact(gw.mp h).2
 rw[this];rfl
theorem OD(h:xs.length+ys.length<=sizeLine):prim .add [.fl xs,.fl ys]=some (.nw (xs++ys)):=by
 show (if _ then _ else _)=_;rw[if_pos h]
theorem W.ite[Decidable c](h1:c->W m1 s P)(h2:¬c->W m2 s P):W (if c then m1 else m2) s P:=by
 by_cases h:c
 ·rw[if_pos h];exact h1 h
 ·rw[if_neg h];exact h2 h
theorem WS.ite[Decidable c](h1:c->WS m1 s P)(h2:¬c->WS m2 s P):WS (if c then m1 else m2) s P:=by
 by_cases h:c
 ·rw[if_pos h];exact h1 h
 ·rw[if_neg h];exact h2 h
theorem Uj{n:Nat}{xs:List D}{s:S}{P:Unit->S->Prop}(h:P () (s.set n (.lst xs))):W (putL n xs) s P:=⟨_,_,rfl,h⟩
theorem W.cD{n:Nat}{xs:List D}{s:S}{P:Nat×List D->S->Prop}(e:s[n]?=some (.lst xs))(h:P (n,xs) s):W (cD (.l n)) s P:=⟨_,s,by unfold Mi.cD;simp only[e],h⟩
theorem Kbb{xs:List D}{s:S}{P:Src×Nat->S->Prop}(h:P (.fix xs,xs.length) s):W (src (.d (.tup xs))) s P:=⟨_,s,rfl,h⟩
theorem Kba{xs:List D}{s:S}{P:Src×Nat->S->Prop}(h:P (.fix xs,xs.length) s):W (src (.d (.fl xs))) s P:=⟨_,s,rfl,h⟩
theorem WS.nil{ao:Nat->Nat->Bool}{aj:Bool}{F:Bool->Fn}{J:Vs}{s:S}{Q:Out->S->Prop}(h:Q (.nx J) s):WS (exs ao aj F .nil J) s Q:=⟨_,s,rfl,h⟩
theorem WS.cons{ao:Nat->Nat->Bool}{aj:Bool}{F:Bool->Fn}{a:St}{r:cU}{J:Vs}{s:S}{Q:Out->S->Prop}(h:WS (ex ao aj F a J) s λo s'=>match o with|.nx J'=>WS (exs ao aj F r J') s' Q|.rt x=>Q (.rt x) s'|_=>False):WS (exs ao aj F (.cons a r) J) s Q:=by
 obtain⟨o,s',e,q⟩:=h;unfold WS exs Mi.cX;rw[e];cases o with
 |nx J'=>exact q
 |rt x=>exact⟨_,_,rfl,q⟩
 |bk _=>exact q.elim
 |ct _=>exact q.elim
 |er _ _ _=>exact q.elim
def sI{α:Type}(o:Option α)(P:α->Prop):Prop:=∃a,o=some a/\P a
theorem sI.mk{α:Type}{o:Option α}{P:α->Prop}{a:α}(e:o=some a)(h:P a):sI o P:=⟨a,e,h⟩
section
variable {ao:Nat->Nat->Bool}{aj:Bool}{F:Fn}{J:Vs}{s:S}{P:Xv->S->Prop}
theorem W.eC{d:D}(h:P (.d d) s):W (ev ao aj F (.c d) J) s P:=W.ret h
theorem W.eV{i:Nat}{x:Xv}(e:J[i]?.join=some x)(h:P x s):W (ev ao aj F (.v i) J) s P:=W.opt e h
theorem sJ{fz:Bool}{p:Pr}{xs:Es}(h:W (evs ao aj F xs J) s λvs s1=>W (gb vs) s1 λds s2=>W (bJ fz (prim p ds)) s2 P):W (ev ao aj F (.pr fz p xs) J) s P:=W.bd (h.imp λ_ _ h=>W.bd h)
theorem KaA{a b:E}(h:W (ev ao aj F a J) s λx s1=>W (Mi.bool x) s1 λk s2=>W (if k=true then ev ao aj F b J else M.ret (.d (.bl false))) s2 P):W (ev ao aj F (.and a b) J) s P:=W.bd (h.imp λ_ _ h=>W.bd h)
theorem KaK{a b:E}(h:W (ev ao aj F a J) s λx s1=>W (Mi.bool x) s1 λk s2=>W (if k=true then M.ret (.d (.bl true)) else ev ao aj F b J) s2 P):W (ev ao aj F (.or a b) J) s P:=W.bd (h.imp λ_ _ h=>W.bd h)
theorem KaJ{a:E}(h:W (ev ao aj F a J) s λx s1=>W (Mi.bool x) s1 λk s2=>P (.d (.bl (!k))) s2):W (ev ao aj F (.not a) J) s P:=W.bd (h.imp λ_ _ h=>W.bd (h.imp λ_ _ h=>W.ret h))
theorem KaN{xs:Es}(h:W (evs ao aj F xs J) s λvs s1=>W (gW vs) s1 λds s2=>P (.d (.tup ds)) s2):W (ev ao aj F (.tup xs) J) s P:=W.bd (h.imp λ_ _ h=>W.bd (h.imp λ_ _ h=>W.ret h))
theorem KaH{fz:Bool}{xs:Es}(h:W (evs ao aj F xs J) s λvs s1=>W (gW vs) s1 λds s2=>W (newL fz ds) s2 P):W (ev ao aj F (.lst fz xs) J) s P:=W.bd (h.imp λ_ _ h=>W.bd h)
theorem KaD{k:Str}{i:Int}(h:P (.d (.fd [.str k] [.int i])) s):W (ev ao aj F (.uR k i) J) s P:=W.ret h
theorem KaB{f:Nat}{xs:Es}(h:W (evs ao aj F xs J) s λvs s1=>W (bT (F f) vs) s1 P):W (ev ao aj F (.call f xs) J) s P:=W.bd h
theorem KaM{fz:Bool}{a:E}{lo hi:Eo}(h:W (ev ao aj F a J) s λx s1=>W (yj ao aj F lo J) s1 λl s2=>W (yj ao aj F hi J) s2 λu s3=>W (rd x) s3 λd s4=>W (bJ fz (cutD d l u)) s4 P):W (ev ao aj F (.sl fz a lo hi) J) s P:=W.bd (h.imp λ_ _ h=>W.bd (h.imp λ_ _ h=>W.bd (h.imp λ_ _ h=>W.bd h)))
theorem KaX{P:Option Int->S->Prop}(h:P none s):W (yj ao aj F .no J) s P:=W.ret h
theorem KaY{a:E}{P:Option Int->S->Prop}(h:W (ev ao aj F a J) s λx s1=>W (Mi.int x) s1 λi s2=>P (some i) s2):W (yj ao aj F (.yes a) J) s P:=W.bd (h.imp λ_ _ h=>W.bd (h.imp λ_ _ h=>W.ret h))
theorem nM{P:List Xv->S->Prop}(h:P [] s):W (evs ao aj F .nil J) s P:=W.ret h
theorem kE{a:E}{r:Es}{P:List Xv->S->Prop}(h:W (ev ao aj F a J) s λx s1=>W (evs ao aj F r J) s1 λxs s2=>P (x::xs) s2):W (evs ao aj F (.cons a r) J) s P:=W.bd (h.imp λ_ _ h=>W.bd (h.imp λ_ _ h=>W.ret h))
theorem KaS{a:E}{P:Src×Nat->S->Prop}(h:W (ev ao aj F a J) s λx s1=>W (src x) s1 P):W (iy ao aj F (.seq a) J) s P:=W.bd h
end
section
variable {ao:Nat->Nat->Bool}{aj:Bool}{F:Bool->Fn}{J:Vs}{s:S}{Q:Out->S->Prop}
theorem WS.Uk{b:Bool}{m1 m2:MS}(e:b=true)(h:WS m1 s Q):WS (if b=true then m1 else m2) s Q:=by rw[if_pos e];exact h
theorem WS.Ul{b:Bool}{m1 m2:MS}(e:b=false)(h:WS m2 s Q):WS (if b=true then m1 else m2) s Q:=by rw[if_neg (by rw[e];decide)];exact h
theorem WS.Bc{m1 m2:MS}(h:WS m1 s Q):WS (if true=true then m1 else m2) s Q:=by rw[if_pos rfl];exact h
theorem WS.Um{m1 m2:MS}(h:WS m2 s Q):WS (if false=true then m1 else m2) s Q:=by rw[if_neg Dc];exact h
theorem Kbi{e:E}(h:W (ev ao aj (F aj) e J) s λ_ s1=>Q (.nx J) s1):WS (ex ao aj F (.ex e) J) s Q:=WS.ofM (h.imp λ_ _ h=>WS.nx h)
theorem Uo{i:Nat}{e:E}(h:W (ev ao aj (F aj) e J) s λx s1=>Q (.nx (J.set i (some x))) s1):WS (ex ao aj F (.asg (.nm i) e) J) s Q:=WS.ofM (h.imp λ_ _ h=>WS.nx h)
theorem Kbq{is:List Nat}{e:E}(h:W (ev ao true (F true) e J) s λx s1=>W (dat x) s1 λd s2=>sI ((jX d).bind λds=>fV is (ds.map .d) J) λJ'=>Q (.nx J') s2):WS (ex ao true F (.asg (.tp is) e) J) s Q:=by
 refine WS.ofM (h.imp λx s1 h=>?_);exact WS.Bc (m2:=λ_=>none) (WS.ofM (W.bd (h.imp λd s2 ⟨J',e,q⟩=>W.opt e (WS.nx q))))
theorem Kbp{o i e:E}(h:W (ev ao aj (F aj) e J) s λx s1=>W (dat x) s1 λd s2=>W (ev ao aj (F aj) o J) s2 λy s3=>W (ev ao aj (F aj) i J) s3 λz s4=>W (Mi.int z) s4 λj s5=>W (cD y) s5 λnx s6=>sI (L2.v8 nx.2.length j) λq=>Q (.nx J) (s6.set nx.1 (.lst (nx.2.set q d)))):WS (ex ao aj F (.asg (.ao o i) e) J) s Q:=by
 refine WS.ofM (h.imp λx s1 h=>WS.ofM (W.bd (h.imp λd s2 h=>W.bd (h.imp λy s3 h=>W.bd (h.imp λz s4 h=>W.bd (h.imp λj s5 h=>W.bd (h.imp λnx s6 h=>?_)))))));obtain⟨q,e,h⟩:=h;simp only[e];exact Uj (WS.nx h)
theorem Kbm{i j:Nat}{a b:E}(h:W (ev ao true (F true) a J) s λx s1=>W (ev ao true (F true) b J) s1 λy s2=>Q (.nx ((J.set i (some x)).set j (some y))) s2):WS (ex ao true F (.par i j a b) J) s Q:=by
 exact WS.Bc (m2:=λ_=>none) (WS.ofM (W.bd (h.imp λx s1 h=>W.bd (h.imp λy s2 h=>W.ret (WS.nx h)))))
theorem Uq{e:E}(h:W (ev ao aj (F aj) e J) s λx s1=>Q (.rt x) s1):WS (ex ao aj F (.ret e) J) s Q:=WS.ofM (h.imp λ_ _ h=>WS.rt h)
theorem OJ{c:E}{t e:cU}(h:W (ev ao aj (F aj) c J) s λx s1=>W (Mi.bool x) s1 λb s2=>WS (if b=true then exs ao aj F t J else exs ao aj F e J) s2 Q):WS (ex ao aj F (.iff c t e) J) s Q:=WS.ofM (W.bd h)
theorem Kbj{t:Tg}{w:Wk}{b:cU}(h:W (iy ao true (F true) w J) s λcn s1=>WS (gF cn.1 (λd J=>Mi.cX (store ao true (F true) t (.d d) J) λJ'=>exs ao true F b J') (cn.2+1) 0 J) s1 Q):WS (ex ao true F (.fr t w b) J) s Q:=by
 exact WS.Bc (m2:=λ_=>none) (WS.ofM h)
end
theorem W.Uk{α:Type}{b:Bool}{m1 m2:M α}{s:S}{P:α->S->Prop}(e:b=true)(h:W m1 s P):W (if b=true then m1 else m2) s P:=by rw[if_pos e];exact h
theorem W.Ul{α:Type}{b:Bool}{m1 m2:M α}{s:S}{P:α->S->Prop}(e:b=false)(h:W m2 s P):W (if b=true then m1 else m2) s P:=by rw[if_neg (by rw[e];decide)];exact h
theorem W.Bc{α:Type}{m1 m2:M α}{s:S}{P:α->S->Prop}(h:W m1 s P):W (if true=true then m1 else m2) s P:=by rw[if_pos rfl];exact h
theorem W.Um{α:Type}{m1 m2:M α}{s:S}{P:α->S->Prop}(h:W m2 s P):W (if false=true then m1 else m2) s P:=by rw[if_neg Dc];exact h
structure Bx(R:Prop):Prop where
 o:R
end Mi
namespace Mi
open PySem PySem.W PyProof.Rows L2
abbrev cB(n:Nat)(p:Array Nat):Prop:=p.Perm (List.range n).toArray
theorem cB.lt(h:cB n p)(hn:0<n)(i:Nat):p.getD i 0<n:=by
 by_cases hi:i<p.size
 ·have e:p.getD i 0=p[i]:=by simp[Array.getD,hi]
  rw[e];have hm:p[i]∈(List.range n).toArray:=h.mem_iff.mp (Array.getElem_mem hi);simpa using hm
 ·have e:p.getD i 0=0:=by simp[Array.getD,hi]
  rw[e];exact hn
theorem cB.rev(h:cB n p)(i j:Nat):cB n (kas_rev p i j):=(mirror_perm p i j _).trans h
theorem cB.bub(h:cB n p)(i j:Nat):cB n (bubble p i j):=(bubble_perm p i j).trans h
def iB{α:Type}(lt:Nat->Nat->Option Bool)(t:KasT α)(P:α->Prop):Prop:=∃a,bD lt t=some a/\P a
section
variable {α β:Type}{lt:Nat->Nat->Option Bool}{n:Nat}
theorem iB.ret(h:P a):iB lt (.ret a) P:=⟨a,rfl,h⟩
theorem iB.bind(hf:∀a,P a->iB lt (f a) R):∀{t:KasT α},iB lt t P->iB lt (t.bind f) R
 |.ret a,⟨a',e,h⟩=>by cases e;exact hf _ h
 |.ask i j k,⟨a',e,h⟩=>by
  unfold bD at e;cases el:lt i j with
  |none=>rw[el] at e;cases e
  |some b=>
   rw[el] at e;obtain⟨c,e1,h1⟩:=iB.bind hf (t:=k b) ⟨a',e,h⟩;refine⟨c,?_,h1⟩;show bD lt (.ask i j λb=>(k b).bind f)=some c;unfold bD;rw[el];exact e1
def Tot(n:Nat)(lt:Nat->Nat->Option Bool):Prop:=∀i j,i<n->j<n->∃b,lt i j=some b
variable (ht:Tot n lt)(hn:0<n)
include ht hn
end
section
variable {lt:Nat->Nat->Option Bool}{n:Nat}
theorem zgr(h:∀k,1<=k->k<n->lt (p.getD k 0) (p.getD (k-1) 0)=some false):∀f k,1<=k->k+f=n->iB lt (kas_asc p f k) λr=>r=n
 |0,k,h1,e=>.ret gV
 |f+1,k,h1,e=>by
  obtain⟨a,e1,e2⟩:=zgr h f (k+1) gV gV;refine⟨a,?_,e2⟩;unfold kas_asc bD;rw[h k h1 gV];exact e1
theorem zeE(hk:k<n):(List.range n).toArray.getD k 0=k:=by
 simp[Array.getD,hk]
theorem zgL(hn:0<n)(h:∀k,k+1<n->lt (k+1) k=some false):bD lt (kas_sort n)=some (List.range n).toArray:=by
 have h1:iB lt (kas_asc (List.range n).toArray (n-1) 1) λr=>r=n:=zgr (λk a b=>by
  rw[zeE b,zeE gV];have:=h (k-1) gV
  rwa [show k-1+1=k by lia] at this) _ _ (bL _) gV
 have h2:iB lt (kas_count n (List.range n).toArray) λr=>r=(n,(List.range n).toArray):=by
  refine iB.bind (λr hr=>?_) h1;subst hr;rw[if_pos J0];exact .ret rfl
 have h3:iB lt (kas_sort n) λr=>r=(List.range n).toArray:=by
  refine iB.bind (λr hr=>?_) h2;subst hr;rw[if_neg (mD _)];exact .ret rfl
 obtain⟨a,e,rfl⟩:=h3;exact e
end
theorem zit(hk:(xs.all jW||xs.all je)=true)(rJ:xs.length<64)(h:∀k,k+1<xs.length->z_ xs (k+1) k=some false):Ac xs=some xs:=by
 unfold Ac;rw[if_pos hk];unfold qI;by_cases h2:xs.length<2
 ·rw[if_pos h2]
 ·rw[if_neg h2,if_pos rJ,zgL gV h];dsimp only;rw[if_pos J0]
  congr 1
  apply M5
  ·simp
  ·intro i a b;simp[g_,b]
noncomputable def dG(p:Int×Int):D:=.tup [.int p.1,.int p.2]
end Mi
namespace Mi
open PySem
theorem W.walk{c:List D}{f:D->List D->M (List D)}{s:S}{acc:List D}{P:List D->S->Prop}(I:Nat->List D->S->Prop)(h0:I 0 acc s)(hb:∀i x acc s,c[i]?=some x->I i acc s->W (f x acc) s λa s'=>I (i+1) a s')
  (he:∀acc s,I c.length acc s->P acc s):W (Mi.walk (.fix c) f (c.length+1) 0 acc) s P:=by
 have key:∀n i acc s,i+n=c.length->I i acc s->W (Mi.walk (.fix c) f (n+1) i acc) s P:=by
  intro n
  induction n with
  |zero=>
   intro i acc s hi hI;have e:c[i]?=none:=by rw[oH];lia
   have:i=c.length:=by lia
   subst this;refine⟨acc,s,?_,he acc s hI⟩;unfold Mi.walk;simp only[Src.at,e]
  |succ n ih=>
   intro i acc s hi hI;have bW:i<c.length:=by lia
   have e:c[i]?=some c[i]:=dj bW;obtain⟨a,s',eb,KZ⟩:=hb i c[i] acc s e hI;obtain⟨a2,s2,e2,q⟩:=ih (i+1) a s' gV KZ;refine⟨a2,s2,?_,q⟩;unfold Mi.walk;simp only[Src.at,e,M.bd,eb];exact e2
 exact key c.length 0 acc s gV h0
section
variable {ao:Nat->Nat->Bool}{F:Fn}{J:Vs}{s:S}{P:Xv->S->Prop}
theorem Kaq{fz:Bool}{elt:E}{tg:List Nat}{it:Wk}{fr:List Nat}{many:Nat}{cond:Eo}{c:List D}(g:D->Option D)(hc:c.length<=sizeLine)
  (hw:W (iy ao true F it J) s λcn s1=>cn=(.fix c,c.length)/\s1=s)
  (hb:∀x∈c,∃J',cW tg x (blk many fr J)=some J'/\W (nG ao true F cond J') s λb s1=>s1=s/\(if b=true then W (ev ao true F elt J') s λy s2=>s2=s/\∃d,y=.d d/\g x=some d else g x=none))
  (h:W (newL fz (c.filterMap g)) s P):W (ev ao true F (.comp fz elt tg it fr many cond) J) s P:=by
 change W (_root_.ite (true=true) _ _) s P
 rw[if_pos rfl];refine W.bd (hw.imp λcn s1=>?_);rintro⟨rfl,rfl⟩;refine W.bd ?_;refine W.walk (c:=c) (λi acc s'=>s'=s1/\acc=(c.take i).filterMap g) ⟨rfl,rfl⟩ (λi x acc s' e hI=>?_) (λacc s' hI=>?_)
 ·obtain⟨rfl,rfl⟩:=hI;have hi:i<c.length:=(gw.mp e).1;have ht:c.take (i+1)=c.take i++[x]:=by rw[Hz,e];rfl
  have hl:((c.take i).filterMap g).length<sizeLine:=Qt (BK _ _) (by rw[oZ];lia);obtain⟨J',e1,h1⟩:=hb x (iQ e);refine W.bd (W.opt e1 ?_);refine W.bd (W.qt (h1.imp λb s2=>?_));rintro⟨rfl,h2⟩;rw[ht,Qo];cases b
  ·rw[if_neg Dc] at h2 ⊢;refine W.ret ⟨rfl,?_⟩;simp[h2]
  ·rw[if_pos rfl] at h2 ⊢;refine W.bd (W.qt (h2.imp λy s3=>?_));rintro⟨rfl,d,rfl,eg⟩;refine W.bd (W.dat ?_);rw[if_pos hl];refine W.ret ⟨rfl,?_⟩;simp[eg]
 ·obtain⟨rfl,rfl⟩:=hI;rw[zA];exact h
end
section
variable {ao:Nat->Nat->Bool}{aj:Bool}{F:Fn}{J:Vs}{s:S}{P:Xv->S->Prop}
theorem KaE(h:W (ev ao aj F a J) s λx s1=>W (rd x) s1 λd s2=>∃b,lW ao d k=some b/\P (.d (.bl b)) s2):W (ev ao aj F (.jU a k) J) s P:=
 W.bd (h.imp λ_ _ h=>W.bd (h.imp λ_ _ ⟨_,e,h⟩=>W.bd (W.opt e (W.ret h))))
theorem KaC(h:W (ev ao aj F a J) s λx s1=>W (ev ao aj F b J) s1 λy s2=>W (gb [x,y]) s2 λds s3=>W (bJ true (prim p ds)) s3 λt s4=>W (Mi.bool t) s4 λk s5=>
  W (if k=true then M.bd (ev ao aj F c J) λz=>M.bd (gb [y,z]) λds=>bJ true (prim q ds) else M.ret (.d (.bl false))) s5 P):W (ev ao aj F (.uQ p q a b c) J) s P:=
 W.bd (h.imp λ_ _ h=>W.bd (h.imp λ_ _ h=>W.bd (h.imp λ_ _ h=>W.bd (h.imp λ_ _ h=>W.bd h))))
end
noncomputable def K1(fz:Bool):Option Rz->Option Xv
 |some (.dat d)=>some (.d d)
 |some (.nw ys)=>match fz with
  |true=>some (.d (.fl ys))
  |false=>none
 |none=>none
noncomputable def addQ:D->D->Option Rz
 |.int i,.int j=>some (.dat (.int (i+j)))
 |_,_=>none
noncomputable def Bf:List D->Option Rz
 |a::r=>match r with
  |b::r=>match r with
   |[]=>addQ a b
   |_::_=>none
  |[]=>none
 |[]=>none
noncomputable def quick:Pr->Bool
 |.Jw=>false|.Y6=>false|.mul=>false|.fdiv=>false|.mod=>false|.pow=>false|.divmod=>false|.sorted=>false|.qG=>false|.Jx=>false|.mult=>false|.zY=>false|.repr=>false|.str1=>false|.Y7=>false|.Jv=>false|.n8=>false|.shl=>false|.shr=>false|.band=>false|.fP=>false
 |_=>true
noncomputable def qU(p:Pr)(ds:List D):Option Rz:=match p with
 |.add=>Bf ds
 |p=>match quick p with
  |true=>prim p ds
  |false=>none
theorem K3{ds:List D}{r:Rz}(h:Bf ds=some r):Dn ds=some r:=by
 cases ds with
 |nil=>cases h
 |cons a t=>cases t with
  |nil=>cases h
  |cons b t=>cases t with
   |cons _ _=>cases h
   |nil=>cases a with
    |int i=>cases b with
     |int j=>exact h
     |_=>cases h
    |_=>cases h
theorem Et{p:Pr}{ds:List D}{r:Rz}(h:qU p ds=some r):prim p ds=some r:=by
 cases p with
 |add=>exact K3 h
 |_=>first|exact h|cases h
noncomputable def Ur(fz:Bool)(ds:List D):Option Xv:=match fz with
 |true=>some (.d (.fl ds))
 |false=>none
noncomputable def K4:Xv->Option D
 |.d x=>some x
 |.l _=>none
noncomputable def obP(c:Nat):Xv->Option (List D)
 |.d (.ob e fs)=>if e=c then some fs else none
 |_=>none
noncomputable def notP:Xv->Option Xv
 |.d (.bl b)=>some (.d (.bl (!b)))
 |_=>none
noncomputable def Us(r:Option Xv):Xv->Option Xv
 |.d (.bl true)=>r
 |.d (.bl false)=>some (.d (.bl false))
 |_=>none
noncomputable def orP(r:Option Xv):Xv->Option Xv
 |.d (.bl true)=>some (.d (.bl true))
 |.d (.bl false)=>r
 |_=>none
section
variable (ao:Nat->Nat->Bool)
mutual
noncomputable def g8:E->Vs->Option Xv
 |.c d,_=>some (.d d)
 |.v i,J=>J[i]?.join
 |.pr fz p xs,J=>(pU xs J).bind λds=>K1 fz (qU p ds)
 |.tup xs,J=>(pU xs J).bind λds=>some (.d (.tup ds))
 |.lst fz xs,J=>(pU xs J).bind λds=>Ur fz ds
 |.not a,J=>(g8 a J).bind notP
 |.and a b,J=>(g8 a J).bind (Us (g8 b J))
 |.or a b,J=>(g8 a J).bind (orP (g8 b J))
 |.jU a k,J=>(g8 a J).bind λx=>(K4 x).bind λd=>(lW ao d k).bind λb=>some (.d (.bl b))
 |.of o c i,J=>(g8 o J).bind λx=>(obP c x).bind λfs=>fs[i]?.map .d
 |_,_=>none
noncomputable def pU:Es->Vs->Option (List D)
 |.nil,_=>some []
 |.cons a r,J=>(g8 a J).bind λx=>(K4 x).bind λd=>(pU r J).bind λds=>some (d::ds)
end
noncomputable def qW:Es->Vs->Option (List Xv)
 |.nil,_=>some []
 |.cons a r,J=>(g8 ao a J).bind λx=>(qW r J).bind λxs=>some (x::xs)
end
theorem m9{α β:Type}{o:Option α}{f:α->Option β}{b:β}(h:o.bind f=some b):∃a,o=some a/\f a=some b:=wN.mp h
theorem jy{α β:Type}{m:M α}{k:α->M β}{s s':S}{a:α}(e:m s=some (.ok a,s')):M.bd m k s=k a s':=by
 show (match m s with|some (.ok a,s')=>k a s'|some (.er c f,s')=>some (.er c f,s')|none=>none)=_;rw[e]
theorem Eu(s:S):∀ds:List D,gb (ds.map .d) s=some (.ok ds,s)
 |[]=>rfl
 |d::r=>(jy (s':=s) (a:=d) rfl).trans ((jy (Eu s r)).trans rfl)
theorem vA(s:S):∀ds:List D,gW (ds.map .d) s=some (.ok ds,s)
 |[]=>rfl
 |d::r=>(jy (s':=s) (a:=d) rfl).trans ((jy (vA s r)).trans rfl)
theorem Ut{fz:Bool}{p:Pr}{ds:List D}{x:Xv}{s:S}(h:K1 fz (qU p ds)=some x):bJ fz (prim p ds) s=some (.ok x,s):=by
 cases o:qU p ds with
 |none=>rw[o] at h;cases h
 |some r=>
  rw[o] at h;rw[Et o];cases r with
  |dat d=>cases h;rfl
  |nw ys=>cases fz with
   |true=>cases h;rfl
   |false=>cases h
section
variable {ao:Nat->Nat->Bool}{aj:Bool}{F:Fn}{J:Vs}{s:S}
theorem vB(e:E):∀x:Xv,g8 ao e J=some x->ev ao aj F e J s=some (.ok x,s):=by
 refine E.rec (motive_1:=λe=>∀x:Xv,g8 ao e J=some x->ev ao aj F e J s=some (.ok x,s)) (motive_2:=λ_=>True) (motive_3:=λxs=>∀ds:List D,pU ao xs J=some ds->evs ao aj F xs J s=some (.ok (ds.map .d),s)) (motive_4:=λ_=>True)
  ?c ?v ?pr (λ_ _ _ _ _ _ _ _ _ h=>nomatch h) (λ_ _ _ _ _ _ _ _ _ _ _ _ h=>nomatch h) ?and ?or ?not (λ_ _ _ _ _ _ _ h=>nomatch h) ?tup ?lst (λ_ _ _ h=>nomatch h) (λ_ _ _ _ h=>nomatch h) ?jU (λ_ _ _ _ _ _ _ _ h=>nomatch h) (λ_ _ _ _ _ _ _ _ h=>nomatch h) (λ_ _ _ _ _ h=>nomatch h) (λ_ _ _ h=>nomatch h)
  (λ_ _ _ _ _ _ _ _ _ _ _ h=>nomatch h) (λ_ _ _ _ _ _ _ _ _ _ _ _ _ _ h=>nomatch h) (λ_ _ _ _ _ h=>nomatch h) ?of (λ_ _ _ _ _ h=>nomatch h) (λ_ _ _ _ _ _ _ h=>nomatch h) (λ_ h=>nomatch h) (λ_ _ _ _ _ _ h=>nomatch h) (λ_ _ _ _ _ h=>nomatch h) (λ_ _ _ h=>nomatch h) (λ_ _ _ _ _ _ h=>nomatch h) (λ_ _ _ _ _ h=>nomatch h) (λ_ _ _ _ _ _ _ h=>nomatch h) (λ_ h=>nomatch h)
  (λ_ _=>trivial) (λ_ _ _ _=>trivial) (λ_ _ _ _=>trivial) (λ_ _=>trivial) (λ_ _=>trivial) ?nil ?cons trivial (λ_ _=>trivial) e
 case c=>intro d x h;cases h;rfl
 case v=>intro i x h;exact(show M.opt (J[i]?.join) s=_ from by rw[show J[i]?.join=some x from h];rfl)
 case pr=>
  intro fz p xs ih x h;obtain⟨ds,e1,e2⟩:=m9 h;exact(jy (ih _ e1)).trans ((jy (Eu s ds)).trans (Ut e2))
 case tup=>
  intro xs ih x h;obtain⟨ds,e1,e2⟩:=m9 h;cases e2;exact(jy (ih _ e1)).trans ((jy (vA s ds)).trans rfl)
 case lst=>
  intro fz xs ih x h;obtain⟨ds,e1,e2⟩:=m9 h;cases fz with
  |false=>cases e2
  |true=>cases e2;exact(jy (ih _ e1)).trans ((jy (vA s ds)).trans rfl)
 case not=>
  intro a ih x h;obtain⟨y,e1,e2⟩:=m9 h;cases y with
  |l n=>cases e2
  |d y=>cases y with
   |bl b=>cases e2;exact(jy (ih _ e1)).trans rfl
   |_=>cases e2
 case and=>
  intro a b ih ih2 x h;obtain⟨y,e1,e2⟩:=m9 h;cases y with
  |l n=>cases e2
  |d y=>cases y with
   |bl b=>cases b with
    |true=>exact(jy (ih _ e1)).trans (ih2 _ e2)
    |false=>cases e2;exact(jy (ih _ e1)).trans rfl
   |_=>cases e2
 case or=>
  intro a b ih ih2 x h;obtain⟨y,e1,e2⟩:=m9 h;cases y with
  |l n=>cases e2
  |d y=>cases y with
   |bl b=>cases b with
    |true=>cases e2;exact(jy (ih _ e1)).trans rfl
    |false=>exact(jy (ih _ e1)).trans (ih2 _ e2)
   |_=>cases e2
 case jU=>
  intro a k ih x h;obtain⟨y,e1,e2⟩:=m9 h;cases y with
  |l n=>cases e2
  |d y=>
   obtain⟨d,e3,e4⟩:=m9 e2;cases e3;obtain⟨b,e5,e6⟩:=m9 e4;cases e6;refine(jy (ih _ e1)).trans ((jy (s':=s) (a:=y) rfl).trans ((jy (s':=s) (a:=b) ?_).trans rfl));rw[e5];rfl
 case of=>
  intro o c i ih x h;obtain⟨y,e1,e2⟩:=m9 h;obtain⟨fs,e3,e4⟩:=m9 e2;refine(jy (ih _ e1)).trans ((jy (s':=s) (a:=fs) ?_).trans ?_)
  ·cases y with
   |l n=>cases e3
   |d y=>cases y with
    |ob e gs=>
     have e3:(if e=c then some gs else none)=some fs:=e3;show (if e=c then M.ret gs else M.no) s=_;split at e3
     ·rename_i h;cases e3;rw[if_pos h];rfl
     ·cases e3
    |_=>cases e3
  ·show M.opt (fs[i]?.map Xv.d) s=_;rw[e4];rfl
 case nil=>intro ds h;cases h;rfl
 case cons=>
  intro a r ih ih2 ds h;obtain⟨y,e1,e2⟩:=m9 h;cases y with
  |l n=>cases e2
  |d y=>
   obtain⟨d,e3,e4⟩:=m9 e2;cases e3;obtain⟨rs,e5,e6⟩:=m9 e4;cases e6;exact(jy (ih _ e1)).trans ((jy (ih2 _ e5)).trans rfl)
theorem vC:∀(xs:Es) (ds:List D),pU ao xs J=some ds->evs ao aj F xs J s=some (.ok (ds.map .d),s)
 |.nil,ds,h=>by cases h;rfl
 |.cons a r,ds,h=>by
  obtain⟨y,e1,e2⟩:=m9 h;cases y with
  |l n=>cases e2
  |d y=>
   obtain⟨d,e3,e4⟩:=m9 e2;cases e3;obtain⟨rs,e5,e6⟩:=m9 e4;cases e6;exact(jy (vB a _ e1)).trans ((jy (vC r _ e5)).trans rfl)
theorem m_:∀(xs:Es) {vs:List Xv},qW ao xs J=some vs->evs ao aj F xs J s=some (.ok vs,s)
 |.nil,vs,h=>by cases h;rfl
 |.cons a r,vs,h=>by
  obtain⟨y,e1,e2⟩:=m9 h;obtain⟨ys,e3,e4⟩:=m9 e2;cases e4;exact(jy (vB a _ e1)).trans ((jy (m_ r e3)).trans rfl)
variable {P:Xv->S->Prop}
theorem W.pv{e:E}{x:Xv}(h:g8 ao e J=some x)(k:P x s):W (ev ao aj F e J) s P:=W.eq (vB e _ h) k
theorem Ka4{f:Nat}{xs:Es}{vs:List Xv}(h:qW ao xs J=some vs)(k:W (bT (F f) vs) s P):W (ev ao aj F (.call f xs) J) s P:=KaB (W.eq (m_ xs h) k)
theorem Ka5{fz:Bool}{p:Pr}{xs:Es}{ds:List D}(h:pU ao xs J=some ds)(k:W (bJ fz (prim p ds)) s P):W (ev ao aj F (.pr fz p xs) J) s P:=sJ (W.eq (vC xs _ h) (W.eq (Eu s ds) k))
theorem Ka3{xs:Es}{vs:List Xv}{P:List Xv->S->Prop}(h:qW ao xs J=some vs)(k:P vs s):W (evs ao aj F xs J) s P:=W.eq (m_ xs h) k
end
section
variable {ao:Nat->Nat->Bool}{aj:Bool}{F:Bool->Fn}{J:Vs}{s:S}{Q:Out->S->Prop}{e:E}{r:cU}
theorem Kbg{i:Nat}{x:Xv}(h:g8 ao e J=some x)(k:WS (exs ao aj F r (J.set i (some x))) s Q):WS (exs ao aj F (.cons (.asg (.nm i) e) r) J) s Q:=WS.cons (Uo (W.pv h k))
theorem Kbh{x:Xv}(h:g8 ao e J=some x)(k:Q (.rt x) s):WS (exs ao aj F (.cons (.ret e) r) J) s Q:=WS.cons (Uq (W.pv h k))
theorem Kbf{b:Bool}{t u:cU}(h:g8 ao e J=some (.d (.bl b)))(k:WS (if b=true then exs ao aj F t J else exs ao aj F u J) s λo s'=>match o with|.nx J'=>WS (exs ao aj F r J') s' Q|.rt x=>Q (.rt x) s'|_=>False):WS (exs ao aj F (.cons (.iff e t u) r) J) s Q:=WS.cons (OJ (W.pv h (W.bool k)))
end
section
variable {ao:Nat->Nat->Bool}{aj:Bool}{F:Bool->Fn}{J:Vs}{s:S}{Q:Out->S->Prop}{c:Nat}{fs:List D}
theorem Kbo{c:Nat}{kp:Bool}{xs:Es}(h:W (evs ao true (F true) xs J) s λvs s1=>W (gW vs) s1 λds s2=>Q (.er c (if kp=true then ds else []) J) s2):WS (ex ao true F (.rise c kp xs) J) s Q:=by
 refine WS.Bc (m2:=λ_=>none) (WS.ofM (W.bd (h.imp λvs s1 h=>h.imp λds s2 h=>?_)));exact⟨_,s2,rfl,h⟩
theorem Kbt{m:MS}{k:Vs->MS}(h:WS m s λo s'=>match o with|.nx J'=>WS (k J') s' Q|.rt x=>Q (.rt x) s'|_=>False):WS (Mi.cX m k) s Q:=by
 obtain⟨o,s',e,q⟩:=h;unfold WS Mi.cX;rw[e];cases o with
 |nx J'=>exact q
 |rt x=>exact⟨_,_,rfl,q⟩
 |bk _=>exact q.elim
 |ct _=>exact q.elim
 |er _ _ _=>exact q.elim
theorem Kbr{F:Fn}{i:Nat}{x:Xv}(h:Q (.nx (J.set i (some x))) s):WS (store ao aj F (.nm i) x J) s Q:=⟨_,s,rfl,h⟩
theorem Kbs{F:Fn}{is:List Nat}{d:D}(h:sI ((jX d).bind λds=>fV is (ds.map .d) J) λJ'=>Q (.nx J') s):WS (store ao true F (.tp is) (.d d) J) s Q:=by
 obtain⟨J',e,q⟩:=h;exact WS.Bc (m2:=λ_=>none) (WS.ofM (W.bd (W.dat (W.opt e (WS.nx q)))))
end
section
variable {ao:Nat->Nat->Bool}{aj:Bool}{F:Fn}{J:Vs}{s:S}{P:Xv->S->Prop}
theorem W.jU{a:E}{k:Kd}(h:W (ev ao aj F a J) s λx s1=>W (rd x) s1 λd s2=>sI (lW ao d k) λb=>P (.d (.bl b)) s2):W (ev ao aj F (.jU a k) J) s P:=KaE h
theorem W.uQ{p q:Pr}{a b c:E}(h:W (ev ao aj F a J) s λx s1=>W (ev ao aj F b J) s1 λy s2=>W (gb [x,y]) s2 λds s3=>W (bJ true (prim p ds)) s3 λt s4=>W (Mi.bool t) s4 λk s5=>
  W (if k=true then M.bd (ev ao aj F c J) λz=>M.bd (gb [y,z]) λds=>bJ true (prim q ds) else M.ret (.d (.bl false))) s5 P):W (ev ao aj F (.uQ p q a b c) J) s P:=KaC h
theorem KaF{c a b:E}(h:W (ev ao aj F c J) s λx s1=>W (Mi.bool x) s1 λk s2=>W (if k=true then ev ao aj F a J else ev ao aj F b J) s2 P):W (ev ao aj F (.ite c a b) J) s P:=W.bd (h.imp λ_ _ h=>W.bd h)
theorem KaQ{a:E}{P:Src×Nat->S->Prop}(h:W (ev ao aj F a J) s λx s1=>W (n_ x) s1 P):W (iy ao aj F (.enum a) J) s P:=W.bd h
theorem KaO{xs:List D}{P:Src×Nat->S->Prop}(h:P (.fix (enumFrom 0 xs),(enumFrom 0 xs).length) s):W (n_ (.d (.fl xs))) s P:=⟨_,s,rfl,h⟩
theorem KaR{a b:E}{P:Src×Nat->S->Prop}(h:W (ev ao aj F a J) s λx s1=>W (ev ao aj F b J) s1 λy s2=>W (Mi.int x) s2 λi s3=>W (Mi.int y) s3 λj s4=>(fU i&&fU j)=true/\P (.fix (jf i j),(jf i j).length) s4):W (iy ao aj F (.rg a b) J) s P:=by
 refine W.bd (h.imp λx s1 h=>W.bd (h.imp λy s2 h=>W.bd (h.imp λi s3 h=>W.bd (h.imp λj s4 h=>?_))));rw[if_pos h.1];exact W.ret h.2
theorem KaT{a b:E}{P:Src×Nat->S->Prop}(h:W (ev ao aj F a J) s λx s1=>W (ev ao aj F b J) s1 λy s2=>W (pI x) s2 λxs s3=>W (pI y) s3 λys s4=>P (.fix (List.zipWith (λp q=>.tup [p,q]) xs ys),(List.zipWith (λ(p q:D)=>D.tup [p,q]) xs ys).length) s4):W (iy ao aj F (.zip a b) J) s P:=
 W.bd (h.imp λx s1 h=>W.bd (h.imp λy s2 h=>W.bd (h.imp λxs s3 h=>W.bd (h.imp λys s4 h=>W.ret h))))
theorem W.jr{xs:List D}{P:List D->S->Prop}(h:P xs s):W (pI (.d (.tup xs))) s P:=W.ret h
theorem W.tL{xs:List D}{P:List D->S->Prop}(h:P xs s):W (pI (.d (.fl xs))) s P:=W.ret h
theorem Kah{P:Bool->S->Prop}(h:P true s):W (nG ao aj F .no J) s P:=W.ret h
theorem Kai{a:E}{P:Bool->S->Prop}(h:W (ev ao aj F a J) s λx s1=>W (Mi.bool x) s1 P):W (nG ao aj F (.yes a) J) s P:=W.bd h
theorem Kas(g:D->D)(hc:c.length<=sizeLine)
  (hw:W (iy ao true F it J) s λcn s1=>cn=(.fix c,c.length)/\s1=s)
  (hb:∀x∈c,sI (cW tg x (blk many fr J)) λJ'=>W (ev ao true F elt J') s λy s2=>s2=s/\y=.d (g x))
  (h:W (newL fz (c.map g)) s P):W (ev ao true F (.comp fz elt tg it fr many .no) J) s P:=by
 refine Kaq (c:=c) (λx=>some (g x)) hc hw (λx hx=>?_) ?_
 ·obtain⟨J',e,h1⟩:=hb x hx;refine⟨J',e,W.ret ⟨rfl,?_⟩⟩;rw[if_pos rfl];exact h1.imp λy s2 ⟨a,b⟩=>⟨a,_,b,rfl⟩
 ·rw[show c.filterMap (λx=>some (g x))=c.map g by rw[<-List.filterMap_eq_map];rfl];exact h
theorem pW{α:Type}{f:α->D}{l:List α}{fz:Bool}{elt:E}{tg:List Nat}{it:Wk}{fr:List Nat}{many:Nat}{cond:Eo}(g:α->Option D)(hc:l.length<=sizeLine)
  (hw:W (iy ao true F it J) s λcn s1=>cn=(.fix (l.map f),(l.map f).length)/\s1=s)
  (hb:∀x∈l,sI (cW tg (f x) (blk many fr J)) λJ'=>W (nG ao true F cond J') s λb s1=>s1=s/\(b=true->W (ev ao true F elt J') s λy s2=>s2=s/\∃d,y=.d d/\g x=some d)/\(b=false->g x=none))
  (h:W (newL fz (l.filterMap g)) s P):W (ev ao true F (.comp fz elt tg it fr many cond) J) s P:=by
 change W (_root_.ite (true=true) _ _) s P
 rw[if_pos rfl];refine W.bd (hw.imp λcn s1=>?_);rintro⟨rfl,rfl⟩;refine W.bd ?_;refine W.walk (c:=l.map f) (λi acc s'=>s'=s1/\acc=(l.take i).filterMap g) ⟨rfl,rfl⟩ (λi x acc s' e hI=>?_) (λacc s' hI=>?_)
 ·obtain⟨rfl,rfl⟩:=hI;rw[gK] at e;cases el:l[i]? with
  |none=>rw[el] at e;cases e
  |some y=>
   rw[el] at e;cases e;have hi:i<l.length:=(gw.mp el).1;have ht:l.take (i+1)=l.take i++[y]:=by rw[Hz,el];rfl
   have hl:((l.take i).filterMap g).length<sizeLine:=Qt (BK _ _) (by rw[oZ];lia);obtain⟨J',e1,h1⟩:=hb y (iQ el);refine W.bd (W.opt e1 ?_);refine W.bd (W.qt (h1.imp λb s2=>?_));rintro⟨rfl,h2,h3⟩;rw[ht,Qo];cases b
   ·rw[if_neg Dc];refine W.ret ⟨rfl,?_⟩;simp[h3 rfl]
   ·rw[if_pos rfl];refine W.bd (W.qt ((h2 rfl).imp λy s3=>?_));rintro⟨rfl,d,rfl,eg⟩;refine W.bd (W.dat ?_);rw[if_pos hl];refine W.ret ⟨rfl,?_⟩;simp[eg]
 ·obtain⟨rfl,rfl⟩:=hI;rw[aW,zA];exact h
theorem Kar{c:List D}{fz:Bool}{elt:E}{tg:List Nat}{it:Wk}{fr:List Nat}{many:Nat}{cond:Eo}(I:Nat->List D->S->Prop)
  (hw:W (iy ao true F it J) s λcn s1=>cn=(.fix c,c.length)/\I 0 [] s1)
  (hb:∀i x acc s,c[i]?=some x->I i acc s->sI (cW tg x (blk many fr J)) λJ'=>W (nG ao true F cond J') s λb s1=>(b=true->W (ev ao true F elt J') s1 λy s2=>∃d,y=.d d/\acc.length<sizeLine/\I (i+1) (acc++[d]) s2)/\(b=false->I (i+1) acc s1))
  (h:∀acc s,I c.length acc s->W (newL fz acc) s P):W (ev ao true F (.comp fz elt tg it fr many cond) J) s P:=by
 change W (_root_.ite (true=true) _ _) s P
 rw[if_pos rfl];refine W.bd (hw.imp λcn s1=>?_);rintro⟨rfl,h0⟩;refine W.bd ?_;refine W.walk (c:=c) I h0 (λi x acc s' e hI=>?_) (λacc s' hI=>h acc s' hI);obtain⟨J',e1,h1⟩:=hb i x acc s' e hI;refine W.bd (W.opt e1 ?_);refine W.bd (W.qt (h1.imp λb s2=>?_));rintro⟨h2,h3⟩;cases b
 ·rw[if_neg Dc];exact W.ret (h3 rfl)
 ·rw[if_pos rfl];refine W.bd (W.qt ((h2 rfl).imp λy s3=>?_));rintro⟨d,rfl,hl,hi⟩;refine W.bd (W.dat ?_);rw[if_pos hl];exact W.ret hi
theorem W.push{o a:E}(h:W (ev ao aj F o J) s λx s1=>W (Mi.cD x) s1 λ_ s2=>W (ev ao aj F a J) s2 λy s3=>W (Mi.dat y) s3 λd s4=>W (Mi.cD x) s4 λnx s5=>nx.2.length<sizeLine/\P (.d .non) (s5.set nx.1 (.lst (nx.2++[d])))):W (ev ao aj F (.push o a) J) s P:=by
 refine W.bd (h.imp λx s1 h=>W.bd (h.imp λ_ s2 h=>W.bd (h.imp λy s3 h=>W.bd (h.imp λd s4 h=>W.bd (h.imp λnx s5 h=>?_)))));rw[if_pos h.1];exact W.bd (Uj (W.ret h.2))
end
theorem zeH{s:S}{o:SO}:(s++[o])[s.length]?=some o:=by simp
theorem Y{P R:Prop}(k:R)(h:Bx R->P:=by
 intro k
 repeat (first|with_reducible first
   |refine Kbg (by with_unfolding_all rfl) ?_|refine Kbh (by with_unfolding_all rfl) ?_|refine Kbf (by with_unfolding_all rfl) ?_|refine W.pv (by with_unfolding_all rfl) ?_|refine Ka5 (by with_unfolding_all rfl) ?_|refine Ka4 (by with_unfolding_all rfl) ?_|refine Ka3 (by with_unfolding_all rfl) ?_
   |refine WS.cons ?_|refine WS.nil ?_|refine Kbt ?_|refine Kbr ?_|refine Kbs ?_|refine Uo ?_|refine Uq ?_|refine OJ ?_|refine Kbq ?_|refine Kbp ?_|refine Kbm ?_|refine Kbi ?_|refine Kbj ?_|refine Kbo ?_|refine WS.Bc ?_|refine WS.Um ?_|refine WS.Uk (by with_unfolding_all rfl) ?_|refine WS.Ul (by with_unfolding_all rfl) ?_|refine sI.mk (by with_unfolding_all rfl) ?_
   |refine kE ?_|refine nM ?_|refine W.eC ?_|refine W.eV (by with_unfolding_all rfl) ?_|refine sJ ?_|refine KaB ?_|refine KaN ?_|refine KaH ?_|refine KaJ ?_|refine KaA ?_|refine KaK ?_|refine KaF ?_|refine W.jU ?_|refine W.uQ ?_|refine W.push ?_|refine KaM ?_|refine KaD ?_|refine KaX ?_|refine KaY ?_|refine KaS ?_|refine KaR ?_|refine KaT ?_|refine KaQ ?_|refine Kah ?_|refine Kai ?_|refine W.Bc ?_|refine W.Um ?_|refine W.Uk (by with_unfolding_all rfl) ?_|refine W.Ul (by with_unfolding_all rfl) ?_
   |refine jx ?_|refine oR ?_|refine kj ?_|refine GJ (by with_unfolding_all rfl) ?_|refine GJ zeH ?_|refine Ue ?_|refine Kaw ?_|refine W.dat ?_|refine W.bool ?_|refine W.int ?_|refine W.cD (by with_unfolding_all rfl) ?_|refine W.cD zeH ?_|refine Uj ?_|refine Kbb ?_|refine KaO ?_|refine W.jr ?_|refine W.tL ?_|refine Kba ?_|refine Ug ?_|refine KaV ?_
   |refine bK (by first|(with_unfolding_all rfl)|exact Ui (by first|(left;constructor<;>lia)|(right;constructor<;>lia))|exact znP gV|exact ziX gV|exact zir gV|exact zmU Dc) ?_|refine Ep (by with_unfolding_all rfl) ?_
   |refine W.ret ?_|refine W.bd ?_
   | (dsimp only))
 all_goals exact k.o):P:=h ⟨k⟩
def lx(p q:Int×Int):Prop:=p.1<q.1\/p.1=q.1/\p.2<q.2
noncomputable def cC(n:Int)(ps:List (Int×Int)):D:=.tup [.int n,.tup (ps.map dG)]
structure Web(n:Int)(ps:List (Int×Int)):Prop where
 h1:1<=n
 h8:n<=8
 tie:∀p∈ps,0<=p.1/\p.1<p.2/\p.2<n
 inc:ps.Pairwise lx
 len:(ps.length:Int)<=7*n
theorem zjB(h:∀x∈xs,x=.bl true):eZ xs=some (List.replicate xs.length true):=by
 induction xs with
 |nil=>rfl
 |cons x r ih=>
  rw[h x J0];show Option.map _ (eZ r)=_;rw[ih λy hy=>h y (by simp[hy])];rfl
theorem O1(h:∀x∈xs,x=.bl true):prim .all [.fl xs]=some (.dat (.bl true)):=by
 show Option.map _ (eZ xs)=_;rw[zjB h];simp
theorem zl8(p q:Int×Int):dz (k+1) (dG p) (dG q)=some (decide (p=q)):=by
 show eN (dz k) [.int p.1,.int p.2] [.int q.1,.int q.2]=_;have hi:∀a b:Int,dz k (.int a) (.int b)=some (a==b):=by intro a b;cases k<;>rfl
 simp only[eN,hi];obtain⟨a,b⟩:=p;obtain⟨c,d⟩:=q;by_cases h1:a=c
 ·by_cases h2:b=d
  ·simp[h1,h2]
  ·simp[h1,h2]
 ·simp[h1]
theorem zkt(p:Int×Int)(ps:List (Int×Int)):memD (dG p) (ps.map dG)=some (decide (p∈ps)):=by
 induction ps with
 |nil=>rfl
 |cons q r ih=>
  simp only[lK,memD,ih,zl8]
  congr 1
  rw[<-Bool.decide_or];apply decide_eq_decide.mpr;rw[bZ]
  constructor
  ·rintro(h|h)
   ·exact .inl h.symm
   ·exact .inr h
  ·rintro(h|h)
   ·exact .inl h.symm
   ·exact .inr h
theorem zkD{f:Bool->Bool}{p:Int×Int}{ps:List (Int×Int)}:yd f [dG p,.tup (ps.map dG)]=some (.dat (.bl (f (decide (p∈ps))))):=by
 show Option.map _ (memD (dG p) (ps.map dG))=_;rw[zkt];rfl
theorem znb(h:lx p q):ltI [p.1,p.2] [q.1,q.2]=true:=by
 simp only[ltI];rcases h with h|⟨h,h2⟩
 ·rw[if_neg gV];simp[h]
 ·rw[if_pos h,if_neg gV];simp[h2]
theorem Uu(xs:List D):cut xs (some 1) none=xs.drop 1:=by
 unfold cut;rw[HT.nQ];rw[show (some 1:Option Int)=some ((1:Nat):Int) from rfl,HT.qw];cases xs with
 |nil=>rfl
 |cons x r=>simp
theorem ziJ:∀{ps:List (Int×Int)},ps.Pairwise lx->∀x∈List.zipWith (λ(p q:D)=>D.tup [p,q]) (ps.map dG) ((ps.map dG).drop 1),∃p q,x=.tup [dG p,dG q]/\lx p q
 |[],_,x,hx=>by simp at hx
 |[p],_,x,hx=>by simp at hx
 |p::q::r,h,x,hx=>by
  rw[show (List.map dG (p::q::r)).drop 1=List.map dG (q::r) from rfl] at hx;have e:List.zipWith (λ(p q:D)=>D.tup [p,q]) (List.map dG (p::q::r)) (List.map dG (q::r))=.tup [dG p,dG q]::List.zipWith (λ(p q:D)=>D.tup [p,q]) (List.map dG (q::r)) (List.map dG r):=rfl;rw[e,bZ] at hx;rcases hx with rfl|hx
  ·exact⟨p,q,rfl,(qg.mp h).1 q J0⟩
  ·exact ziJ (ps:=q::r) (qg.mp h).2 x hx
theorem zkP{p:Int×Int}:¬lx p p:=by rintro(h|⟨_,h⟩)<;>lia
theorem zej{ps:List (Int×Int)}(h:ps.Pairwise lx):ps.Nodup:=h.imp λ{p q} h e=>by subst e;exact zkP h
theorem zha(h:Ac xs=some ys):prim .sorted [.fl xs]=some (.nw ys):=by
 show Option.map Rz.nw (Ac xs)=_;rw[h];rfl
theorem zhU{es:List Int}(rJ:es.length<64)(h:es.Pairwise (·<·)):Ac (es.map D.int)=some (es.map D.int):=by
 refine zit ?_ (by rw[aW];exact rJ) λk hk=>?_
 ·rw[Hy]
  left
  rw[List.all_map,iV];intro x _;rfl
 ·rw[aW] at hk;unfold z_;rw[gK,gK,dj hk,dj (show k<es.length by lia)];have:=oY.mp h k (k+1) gV hk gV;simp only[Option.map_some]
  congr 1
  apply fH
  lia
noncomputable def endOf(i:Int)(p:Int×Int):Option Int:=if p.1=i then some p.2 else if p.2=i then some p.1 else none
noncomputable def bH(i:Int)(ps:List (Int×Int)):List Int:=ps.filterMap (endOf i)
theorem zh3(h:Web n ps)(i:Int):(bH i ps).Pairwise (·<·):=by
 have ht:=h.tie;have hi:=h.inc;clear h;unfold bH
 induction ps with
 |nil=>simp
 |cons p r ih=>
  obtain⟨hp,hr⟩:=qg.mp hi;have ih:=ih (λq hq=>ht q (by simp[hq])) hr;rw[zu]
  split
  ·exact ih
  ·rename_i b eb;refine qg.mpr ⟨λc hc=>?_,ih⟩;obtain⟨q,hq,eq⟩:=vP.mp hc;have l:=hp q hq;have tp:=ht p J0;have tq:=ht q (by simp[hq]);unfold endOf at eb eq;unfold lx at l;split at eb
   ·cases eb;split at eq
    ·cases eq;lia
    ·split at eq
     ·cases eq;lia
     ·cases eq
   ·split at eb
    ·cases eb;split at eq
     ·cases eq;lia
     ·split at eq
      ·cases eq;lia
      ·cases eq
    ·cases eb
theorem O2:∀{es:List Int} {a n:Int},es.Pairwise (·<·)->(∀e∈es,a<=e/\e<n)->a<=n->(es.length:Int)<=n-a
 |[],a,n,_,_,h=>by simp;lia
 |e::r,a,n,h,hb,ha=>by
  obtain⟨h1,h2⟩:=qg.mp h;have he:=hb e J0;have:=O2 (es:=r) (a:=e+1) (n:=n) h2 (λx hx=>⟨by have:=h1 x hx;lia,(hb x (by simp[hx])).2⟩) gV;rw[fu]
  lia
theorem K5{a b:Int}{i:Nat}{x:D}(h:(jf a b)[i]?=some x):x=.int (a+i)/\a+i<b:=by
 unfold jf at h;rw[gK] at h;cases e:(List.range (b-a).toNat)[i]? with
 |none=>rw[e] at h;cases h
 |some j=>
  rw[e] at h;cases h;obtain⟨hl,rfl⟩:=gw.mp e;rw[B_] at hl;rw[List.getElem_range];exact⟨rfl,by lia⟩
theorem O4:(jf a b).length=(b-a).toNat:=by unfold jf;simp
theorem tU(h1 : -1000<=a)(h2:a<=1000):fU a=true:=by
 unfold fU;rw[dM gV,dM gV];rfl
theorem Kan(hl:locs xs=[s.length])(h:W (F (dB 0 xs)) [o] λv s1=>∃d o',v=.d d/\s1=[o']/\P (.d d) (s++[o'])):W (bT F xs) (s++[o]) P:=by
 refine Uh (n:=s.length) (o:=o) hl J0 (h.imp λv s1=>?_);rintro⟨d,o',rfl,rfl,hp⟩;exact⟨d,o',rfl,rfl,by rw[show (s++[o]).set s.length o'=s++[o'] by simp];exact hp⟩
theorem zjd{ns:List Int}{lo hi:Option Int}{x:D}(h:x∈cut (ns.map D.int) lo hi):∃n,x=.int n:=by
 have:=Mt (Hl h);obtain⟨n,_,rfl⟩:=eE.mp this;exact⟨n,rfl⟩
theorem zjw{ns:List Int}{lo hi:Option Int}:(cut (ns.map D.int) lo hi).length<=ns.length:=by
 unfold cut;rw[oZ,wV,aW]
 lia
noncomputable def at'(fs:List Int)(j:Int):Int:=fs.getD j.toNat 0
theorem zmw{fs:List Int}{j:Int}(h0:0<=j)(h:j<fs.length):∃(i:Nat) (hi:i<fs.length),j=i/\at' fs j=fs[i]:=by
 obtain⟨i,rfl⟩:=Fx h0;have hi:i<fs.length:=by lia
 refine⟨i,hi,rfl,?_⟩;unfold at';rw[wR,g_,dj hi];rfl
theorem zn5{fs:List Int}{j:Int}(h0:0<=j)(h:j<fs.length):(fs.map D.int)[j.toNat]?=some (.int (at' fs j)):=by
 obtain⟨i,hi,rfl,e⟩:=zmw h0 h;rw[e,wR,gK,dj hi];rfl
theorem Uv(h0:0<=j)(h:xs[j.toNat]?=some x):prim .ix [.fl xs,.int j]=some (.dat x):=by
 obtain⟨k,rfl⟩:=Fx h0;exact yO h
theorem znT(h0:0<=j)(h:j<fs.length):prim .ix [.fl (fs.map .int),.int j]=some (.dat (.int (at' fs j))):=Uv h0 (zn5 h0 h)
theorem Uw(h0:0<=j)(h:j<fs.length):prim .ix [.tup (fs.map .int),.int j]=some (.dat (.int (at' fs j))):=Uv h0 (zn5 h0 h)
theorem zfC(j:Int)(ls:List Int):memD (.int j) (ls.map .int)=some (decide (j∈ls)):=by
 induction ls with
 |nil=>rfl
 |cons q r ih=>
  have hi:dz 50 (.int q) (.int j)=some (q==j):=rfl;simp only[lK,memD,ih,hi]
  congr 1
  by_cases h:q=j
  ·subst h;simp
  ·have h2:¬j=q:=λe=>h e.symm;simp[h,h2]
theorem znF{f:Bool->Bool}{j:Int}{ls:List Int}:yd f [.int j,.fl (ls.map .int)]=some (.dat (.bl (f (decide (j∈ls))))):=by
 show Option.map _ (memD (.int j) (ls.map .int))=_;rw[zfC];rfl
theorem K6{f:Bool->Bool}{j:Int}{ls:List Int}:yd f [.int j,.tup (ls.map .int)]=some (.dat (.bl (f (decide (j∈ls))))):=by
 show Option.map _ (memD (.int j) (ls.map .int))=_;rw[zfC];rfl
theorem Kbd{c:Src}{xs:List D}{f:D->List D->M (List D)}{s1:S}{acc:List D}{P:List D->S->Prop}(hc:∀i,c.at i s1=some xs[i]?)(I:Nat->List D->Prop)(h0:I 0 acc)(hb:∀i x acc,xs[i]?=some x->I i acc->W (f x acc) s1 λa s'=>s'=s1/\I (i+1) a)
  (he:∀acc,I xs.length acc->P acc s1):W (Mi.walk c f (xs.length+1) 0 acc) s1 P:=by
 have key:∀n i acc,i+n=xs.length->I i acc->W (Mi.walk c f (n+1) i acc) s1 P:=by
  intro n
  induction n with
  |zero=>
   intro i acc hi hI;have e:xs[i]?=none:=by rw[oH];lia
   have:i=xs.length:=by lia
   subst this;refine⟨acc,s1,?_,he acc hI⟩;unfold Mi.walk;simp only[hc,e]
  |succ n ih=>
   intro i acc hi hI;have bW:i<xs.length:=by lia
   have e:xs[i]?=some xs[i]:=dj bW;obtain⟨a,s',eb,rfl,KZ⟩:=hb i xs[i] acc e hI;obtain⟨a2,s2,e2,q⟩:=ih (i+1) a gV KZ;refine⟨a2,s2,?_,q⟩;unfold Mi.walk;simp only[hc,e,M.bd,eb];exact e2
 exact key xs.length 0 acc gV h0
section
variable {ao:Nat->Nat->Bool}{F:Fn}{J:Vs}{s:S}{P:Xv->S->Prop}
theorem Kat{α:Type}{f:α->D}{l:List α}{fz:Bool}{elt:E}{tg:List Nat}{it:Wk}{fr:List Nat}{many:Nat}{cond:Eo}(s1:S)(g:α->Option D)(hc:l.length<=sizeLine)
  (hw:W (iy ao true F it J) s λcn s'=>s'=s1/\cn.2=(l.map f).length/\∀i,cn.1.at i s1=some (l.map f)[i]?)
  (hb:∀x∈l,sI (cW tg (f x) (blk many fr J)) λJ'=>W (nG ao true F cond J') s1 λb s'=>s'=s1/\(b=true->W (ev ao true F elt J') s1 λy s2=>s2=s1/\∃d,y=.d d/\g x=some d)/\(b=false->g x=none))
  (h:W (newL fz (l.filterMap g)) s1 P):W (ev ao true F (.comp fz elt tg it fr many cond) J) s P:=by
 change W (_root_.ite (true=true) _ _) s P
 rw[if_pos rfl];refine W.bd (hw.imp λcn s'=>?_);rintro⟨rfl,h2,h3⟩;refine W.bd ?_;rw[h2];refine Kbd h3 (λi acc=>acc=(l.take i).filterMap g) rfl (λi x acc e hI=>?_) (λacc hI=>?_)
 ·subst hI;rw[gK] at e;cases el:l[i]? with
  |none=>rw[el] at e;cases e
  |some y=>
   rw[el] at e;cases e;have hi:i<l.length:=(gw.mp el).1;have ht:l.take (i+1)=l.take i++[y]:=by rw[Hz,el];rfl
   have hl:((l.take i).filterMap g).length<sizeLine:=Qt (BK _ _) (by rw[oZ];lia);obtain⟨J',e1,h1⟩:=hb y (iQ el);refine W.bd (W.opt e1 ?_);refine W.bd (W.qt (h1.imp λb s2=>?_));rintro⟨rfl,h2,h3⟩;rw[ht,Qo];cases b
   ·rw[if_neg Dc];refine W.ret ⟨rfl,?_⟩;simp[h3 rfl]
   ·rw[if_pos rfl];refine W.bd (W.qt ((h2 rfl).imp λy s3=>?_));rintro⟨rfl,d,rfl,eg⟩;refine W.bd (W.dat ?_);rw[if_pos hl];refine W.ret ⟨rfl,?_⟩;simp[eg]
 ·subst hI;rw[aW,zA];exact h
end
theorem GK{α:Type}{l:List α}{f:α->D}:l.filterMap (λx=>some (f x))=l.map f:=by
 rw[<-List.filterMap_eq_map];rfl
theorem GP(h:xs.length+ys.length<=sizeLine):prim .add [.tup xs,.tup ys]=some (.dat (.tup (xs++ys))):=by
 show (if _ then _ else _)=_;rw[if_pos h]
noncomputable def oU:D->Bool
 |.exc _ _=>false
 |.ob _ _=>false
 |.any=>false
 |_=>true
noncomputable def Bg:D->Bool
 |.int _=>true
 |_=>false
noncomputable def okT:D->Bool
 |.tup xs=>xs.all oU
 |d=>oU d
theorem zfL{α:Type}(l:List α)(f:α->Bool):eZ (l.map λx=>D.bl (f x))=some (l.map f):=by
 induction l with
 |nil=>rfl
 |cons x r ih=>
  show Option.map _ (eZ (r.map λx=>D.bl (f x)))=_;rw[ih];rfl
theorem GQ{α:Type}{l:List α}{f:α->Bool}:prim .all [.fl (l.map λx=>D.bl (f x))]=some (.dat (.bl (l.all f))):=by
 show Option.map _ (eZ (l.map λx=>D.bl (f x)))=_;rw[zfL];show some (Rz.dat (.bl ((l.map f).all id)))=_;rw[List.all_map];rfl
theorem zfQ(h:x∈cut xs lo hi):x∈xs:=Mt (Hl h)
theorem GR:(cut xs lo hi).length<=xs.length:=by
 unfold cut;rw[oZ,wV]
 lia
end Mi
namespace Mi
open PySem PySem.W PyProof.Rows L2
structure Ord(n:Nat)(lt:Nat->Nat->Option Bool)(le:Nat->Nat->Prop):Prop where
 ans:∀i j,i<n->j<n->(lt i j=some true/\le i j)\/(lt i j=some false/\le j i)
 tr:∀i j k,i<n->j<n->k<n->le i j->le j k->le i k
section
variable {lt:Nat->Nat->Option Bool}{le:Nat->Nat->Prop}{n:Nat}
theorem Ord.rfl'(o:Ord n lt le)(hi:i<n):le i i:=by
 rcases o.ans i i hi hi with ⟨_,e⟩|⟨_,e⟩<;>exact e
def gj(le:Nat->Nat->Prop)(p:Array Nat)(r:Nat):Prop:=∀a b,a<b->b<r->le (p.getD a 0) (p.getD b 0)
def wC(le:Nat->Nat->Prop)(p:Array Nat)(r:Nat):Prop:=∀a b,a<b->b<r->le (p.getD b 0) (p.getD a 0)
def K7(le:Nat->Nat->Prop)(p:Array Nat)(l r:Nat):Prop:=∀a b,l<=a->a<r->l<=b->b<r->le (p.getD a 0) (p.getD b 0)
theorem getD_get?{p q:Array Nat}{i j:Nat}(h:p[i]?=q[j]?):p.getD i 0=q.getD j 0:=by
 have e:∀(x:Array Nat) (k:Nat),x.getD k 0=(x[k]?).getD 0:=by
  intro x k;unfold Array.getD
  split
  ·rename_i h;rw[zm h];rfl
  ·rename_i h;rw[Mp gV];rfl
 rw[e,e,h]
theorem cB.size{p:Array Nat}(h:cB n p):p.size=n:=by have:=h.size_eq;simpa using this
theorem wD{p:Array Nat}{i j k:Nat}(hj:j<=p.size):(kas_rev p i j).getD k 0=if i<=k/\k<j then p.getD (i+j-1-k) 0 else p.getD k 0:=by
 have:=getElem?_mirror_all (xs:=p) (i:=i) hj k;unfold kas_rev
 split
 ·rename_i h;rw[if_pos h] at this;exact getD_get? this
 ·rename_i h;rw[if_neg h] at this;exact getD_get? this
theorem zeo{p:Array Nat}{src d k:Nat}(hs:src<p.size)(hd:d<=src):(bubble p src d).getD k 0=if k=src-d then p.getD src 0 else if src-d<k/\k<=src then p.getD (k-1) 0 else p.getD k 0:=by
 have:=getElem?_bubble hs d hd k;by_cases h:k=src-d
 ·rw[if_pos h] at this ⊢;exact getD_get? this
 ·rw[if_neg h] at this ⊢;by_cases h2:src-d<k/\k<=src
  ·rw[if_pos h2] at this ⊢;exact getD_get? this
  ·rw[if_neg h2] at this ⊢;exact getD_get? this
variable (o:Ord n lt le)(hn:0<n)
include o hn
theorem vD(hi:i<n)(hj:j<n)(h1:le i j->iB lt (k true) P)(h2:le j i->iB lt (k false) P):iB lt (.ask i j k) P:=by
 rcases o.ans i j hi hj with ⟨e,hl⟩|⟨e,hl⟩
 ·obtain⟨a,e1,q⟩:=h1 hl;exact⟨a,by unfold bD;rw[e];exact e1,q⟩
 ·obtain⟨a,e1,q⟩:=h2 hl;exact⟨a,by unfold bD;rw[e];exact e1,q⟩
theorem zhm(hp:cB n p)(hk:1<=k)(h:gj le p k)(hl:le (p.getD (k-1) 0) (p.getD k 0)):gj le p (k+1):=λa b hab hb=>by
 by_cases e:b=k
 ·subst e;by_cases e2:a=b-1
  ·subst e2;exact hl
  ·exact o.tr _ _ _ (hp.lt hn _) (hp.lt hn _) (hp.lt hn _) (h a (b-1) gV gV) hl
 ·exact h a b hab gV
theorem K8(hp:cB n p)(hk:1<=k)(h:wC le p k)(hl:le (p.getD k 0) (p.getD (k-1) 0)):wC le p (k+1):=λa b hab hb=>by
 by_cases e:b=k
 ·subst e;by_cases e2:a=b-1
  ·subst e2;exact hl
  ·exact o.tr _ _ _ (hp.lt hn _) (hp.lt hn _) (hp.lt hn _) hl (h a (b-1) gV gV)
 ·exact h a b hab gV
theorem Ux(hp:cB n p):∀f k,1<=k->k+f<=n->gj le p k->iB lt (kas_asc p f k) λr=>k<=r/\r<=k+f/\gj le p r/\(r<k+f->le (p.getD r 0) (p.getD (r-1) 0))
 |0,k,_,_,h=>.ret ⟨bL _,by lia,h,λz=>by lia⟩
 |f+1,k,hk,hkf,h=>vD o hn (hp.lt hn _) (hp.lt hn _) (λhl=>.ret ⟨bL _,by lia,h,λ_=>hl⟩) λhl=>by
  obtain⟨r,e,h1,h2,h3,h4⟩:=Ux hp f (k+1) gV gV (zhm o hn hp hk h hl);exact⟨r,e,by lia,by lia,h3,λz=>h4 gV⟩
theorem zge(hp:cB n p)(hk:k<=n)(h:wC le p k)(ha:K7 le p l k):wC le (kas_rev p l k) k:=λa b hab hb=>by
 have hs:=hp.size;rw[wD gV,wD gV];by_cases ca:l<=a/\a<k
 ·rw[if_pos ca,if_pos gV];exact ha _ _ gV gV gV gV
 ·rw[if_neg ca];by_cases cb:l<=b/\b<k
  ·rw[if_pos cb];exact h a _ gV gV
  ·rw[if_neg cb];exact h a b hab hb
theorem O5:∀f {p:Array Nat} k q,cB n p->1<=k->k+f<=n->q+1<=k->wC le p k->K7 le p (k-(q+1)) k->iB lt (kas_desc f p k q) λr=>cB n r.1/\k<=r.2.1/\r.2.1<=k+f/\r.2.2+1<=r.2.1/\wC le r.1 r.2.1/\K7 le r.1 (r.2.1-(r.2.2+1)) r.2.1
 |0,p,k,q,hp,_,_,hq,h,ha=>.ret ⟨hp,bL _,by dsimp only;lia,hq,h,ha⟩
 |f+1,p,k,q,hp,hk,hkf,hq,h,ha=>vD o hn (hp.lt hn _) (hp.lt hn _) (λhl=>by
   show iB lt (if q>0 then _ else _) _;have hs:=hp.size;have one:∀{x:Array Nat},cB n x->K7 le x (k+1-(0+1)) (k+1):=λ{x} hx a b h1 h2 h3 h4=>by
    have:a=k:=by lia
    have:b=k:=by lia
    subst a;subst b;exact o.rfl' (hx.lt hn _)
   split
   ·have hp':=hp.rev (k-(q+1)) k;have h':wC le (kas_rev p (k-(q+1)) k) (k+1):=K8 o hn hp' hk (zge o hn hp gV h ha) (by
     rw[wD gV,wD gV,if_neg gV,if_pos gV];refine o.tr _ _ _ (hp.lt hn _) (hp.lt hn _) (hp.lt hn _) hl (ha _ _ gV gV gV gV))
    obtain⟨r,e,w⟩:=O5 f (k+1) 0 hp' gV gV gV h' (one hp');exact⟨r,e,w.1,by lia,by lia,w.2.2.2⟩
   ·obtain⟨r,e,w⟩:=O5 f (k+1) 0 hp gV gV gV (K8 o hn hp hk h hl) (one hp);exact⟨r,e,w.1,by lia,by lia,w.2.2.2⟩) λhl=>vD o hn (hp.lt hn _) (hp.lt hn _) (λ_=>.ret ⟨hp,bL _,by dsimp only;lia,hq,h,ha⟩) λvd=>by
   have hA:K7 le p (k+1-(q+1+1)) (k+1):=λa b h1 h2 h3 h4=>by
    have key:∀c,k-(q+1)<=c->c<k->le (p.getD c 0) (p.getD k 0)/\le (p.getD k 0) (p.getD c 0):=λc c1 c2=>
     ⟨o.tr _ _ _ (hp.lt hn _) (hp.lt hn _) (hp.lt hn _) (ha c (k-1) c1 c2 gV gV) hl,o.tr _ _ _ (hp.lt hn _) (hp.lt hn _) (hp.lt hn _) vd (ha (k-1) c gV gV c1 c2)⟩
    by_cases ea:a=k
    ·by_cases eb:b=k
     ·subst a;subst b;exact o.rfl' (hp.lt hn _)
     ·subst a;exact(key b gV gV).2
    ·by_cases eb:b=k
     ·subst b;exact(key a gV gV).1
     ·exact ha a b gV gV gV gV
   obtain⟨r,e,w⟩:=O5 f (k+1) (q+1) hp gV gV gV (K8 o hn hp hk h vd) hA;exact⟨r,e,w.1,by lia,by lia,w.2.2.2⟩
theorem zka(hp:cB n p)(hk:k<=n)(h:wC le p k):gj le (kas_rev p 0 k) k:=λa b hab hb=>by
 have hs:=hp.size;rw[wD gV,wD gV,if_pos gV,if_pos gV];exact h _ _ gV gV
theorem zfX(hp:cB n p)(hk:1<=k)(K9:k<=n)(h:wC le p k):iB lt (kas_tail3 k n p) λr=>cB n r.2/\1<=r.1/\r.1<=n/\gj le r.2 r.1:=by
 refine iB.bind (λc hc=>?_) (Ux o hn (hp.rev 0 k) (n-k) k hk gV (zka o hn hp K9 h));exact⟨_,rfl,hp.rev 0 k,by dsimp only;lia,by dsimp only;lia,hc.2.2.1⟩
theorem zch(hp:cB n p)(hk:1<=k)(K9:k<n)(h:wC le p (k+1)):iB lt (kas_descPart k n p) λr=>cB n r.2/\1<=r.1/\r.1<=n/\gj le r.2 r.1:=by
 refine iB.bind (λr hr=>?_) (O5 o hn (n-(k+1)) (k+1) 0 hp gV gV gV h (λa b h1 h2 h3 h4=>by
  have:a=k:=by lia
  have:b=k:=by lia
  subst a;subst b;exact o.rfl' (hp.lt hn _)))
 obtain⟨w1,w2,w3,w4,w5,w6⟩:=hr
 split
 ·exact zfX o hn (w1.rev _ _) gV gV (zge o hn w1 gV w5 w6)
 ·exact zfX o hn w1 gV gV w5
theorem zjp(hp:cB n p):iB lt (kas_count n p) λr=>cB n r.2/\1<=r.1/\r.1<=n/\gj le r.2 r.1:=by
 refine iB.bind (λk hk=>?_) (Ux o hn hp (n-1) 1 (bL _) gV (λa b h1 h2=>by lia));obtain⟨k1,k2,k3,k4⟩:=hk;have hs:=hp.size;by_cases e:(k==n)=true
 ·rw[if_pos e];exact .ret ⟨hp,k1,by dsimp only;lia,k3⟩
 ·rw[if_neg e];have K9:k<n:=by
   have:k≠n:=by simpa using e
   lia
  have hl:=k4 gV
  split
  ·refine vD o hn (hp.lt hn _) (hp.lt hn _) (λ_=>.ret ⟨hp,k1,by dsimp only;lia,k3⟩) λhz=>?_;have alk:∀a b,a<k->b<k->le (p.getD a 0) (p.getD b 0):=λa b ha hb=>by
    have h1:le (p.getD a 0) (p.getD (k-1) 0):=by
     by_cases q:a=k-1
     ·subst q;exact o.rfl' (hp.lt hn _)
     ·exact k3 a (k-1) gV gV
    have h2:le (p.getD 0 0) (p.getD b 0):=by
     by_cases q:b=0
     ·subst q;exact o.rfl' (hp.lt hn _)
     ·exact k3 0 b gV gV
    exact o.tr _ _ _ (hp.lt hn _) (hp.lt hn _) (hp.lt hn _) (o.tr _ _ _ (hp.lt hn _) (hp.lt hn _) (hp.lt hn _) h1 hz) h2
   refine zch o hn (hp.rev 0 k) k1 K9 (K8 o hn (hp.rev 0 k) k1 (λa b h1 h2=>?_) ?_)
   ·rw[wD gV,wD gV,if_pos gV,if_pos gV];exact alk _ _ gV gV
   ·rw[wD gV,wD gV,if_neg gV,if_pos gV];exact o.tr _ _ _ (hp.lt hn _) (hp.lt hn _) (hp.lt hn _) hl (alk _ _ gV gV)
  ·have:k=1:=by lia
   subst this;refine zch o hn hp (bL _) K9 (K8 o hn hp (bL _) (λa b h1 h2=>by lia) hl)
theorem Uy(hp:cB n p)(h:gj le p k):∀f l r,l<=r->r<=k->r-l<=f->(∀a,a<l->le (p.getD a 0) (p.getD k 0))->(∀a,r<=a->a<k->le (p.getD k 0) (p.getD a 0))->iB lt (kas_place p k f l r) λi=>i<=k/\(∀a,a<i->le (p.getD a 0) (p.getD k 0))/\(∀a,i<=a->a<k->le (p.getD k 0) (p.getD a 0))
 |0,l,r,h1,h2,h3,h4,h5=>.ret ⟨by lia,h4,λa z=>h5 a gV⟩
 |f+1,l,r,h1,h2,h3,h4,h5=>by
  unfold kas_place;by_cases e:l>=r
  ·rw[if_pos e];exact .ret ⟨by lia,h4,λa z=>h5 a gV⟩
  ·rw[if_neg e];refine vD o hn (hp.lt hn _) (hp.lt hn _) (λhl=>?_) λhl=>?_
   ·refine Uy hp h f l ((l+r)/2) gV gV gV h4 λa z1 z2=>?_;by_cases q:a=(l+r)/2
    ·subst q;exact hl
    ·exact o.tr _ _ _ (hp.lt hn _) (hp.lt hn _) (hp.lt hn _) hl (h _ a gV z2)
   ·refine Uy hp h f ((l+r)/2+1) r gV h2 gV (λa z=>?_) h5;by_cases q:a=(l+r)/2
    ·subst q;exact hl
    ·exact o.tr _ _ _ (hp.lt hn _) (hp.lt hn _) (hp.lt hn _) (h a _ gV gV) hl
theorem zkQ:∀f {p:Array Nat} k,cB n p->k+f=n->gj le p k->iB lt (kas_bin f p k) λr=>cB n r/\gj le r n
 |0,p,k,hp,hk,h=>.ret ⟨hp,(show k=n by lia)▸h⟩
 |f+1,p,k,hp,hk,h=>iB.bind (λl hl=>by
   obtain⟨l1,l2,l3⟩:=hl;have hs:=hp.size;refine zkQ f (k+1) (hp.bub _ _) gV λa b hab hb=>?_;rw[zeo gV gV,zeo gV gV,show k-(k-l)=l by lia];by_cases ea:a=l
   ·rw[if_pos ea,if_neg gV,if_pos gV];exact l3 (b-1) gV gV
   ·rw[if_neg ea];by_cases ca:l<a/\a<=k
    ·rw[if_pos ca,if_neg gV,if_pos gV];exact h _ _ gV gV
    ·rw[if_neg ca];by_cases eb:b=l
     ·rw[if_pos eb];exact l2 a gV
     ·rw[if_neg eb];by_cases cb:l<b/\b<=k
      ·rw[if_pos cb];by_cases q:a=b-1
       ·lia
       ·exact h _ _ gV gV
      ·rw[if_neg cb];exact h _ _ hab gV) (Uy o hn hp h k 0 k gV (bL _) gV (λa z=>by lia) (λa z1 z2=>by lia))
theorem zlZ:iB lt (kas_sort n) λp=>cB n p/\gj le p n:=by
 refine iB.bind (λr hr=>?_) (zjp o hn (.refl _));obtain⟨w1,w2,w3,w4⟩:=hr
 split
 ·rw[Nat.max_eq_left w2];exact zkQ o hn _ _ w1 gV w4
 ·have:r.1=n:=by lia
  exact .ret ⟨w1,this▸w4⟩
end
end Mi
namespace Ts
open PySem PySem.SetTable
theorem Uz{ss:List Nat}{j:Nat}(hs:ss.Pairwise (·<·)):∀(fuel lo hi:Nat),hi-lo<=fuel->lo<=hi->hi<=ss.length->(∀i (h:i<ss.length),i<lo->ss[i]<j)->(∀i (h:i<ss.length),hi<=i->j<=ss[i])->
  below.go ss.toArray j fuel lo hi<=ss.length/\(∀i (h:i<ss.length),i<below.go ss.toArray j fuel lo hi->ss[i]<j)/\(∀i (h:i<ss.length),below.go ss.toArray j fuel lo hi<=i->j<=ss[i])
 |0,lo,hi,hf,h1,h2,h3,h4=>by
  unfold below.go;have:lo=hi:=by lia
  subst this;exact⟨h2,h3,h4⟩
 |fuel+1,lo,hi,hf,h1,h2,h3,h4=>by
  unfold below.go;by_cases bW:lo<hi
  ·rw[if_pos bW];have hm:(lo+hi)/2<ss.length:=by lia
   have e:ss.toArray.getD ((lo+hi)/2) j=ss[(lo+hi)/2]:=by simp[hm]
   dsimp only;rw[e];by_cases hc:ss[(lo+hi)/2]<j
   ·rw[if_pos hc];refine Uz hs fuel _ _ gV gV h2 (λi h hi'=>?_) h4;rcases zK i ((lo+hi)/2) with z|z
    ·have:=oY.mp hs i ((lo+hi)/2) h hm z
     lia
    ·have:i=(lo+hi)/2:=by lia
     subst this;exact hc
   ·rw[if_neg hc];refine Uz hs fuel _ _ gV gV gV h3 (λi h hi'=>?_);rcases zK ((lo+hi)/2) i with z|z
    ·have:=oY.mp hs ((lo+hi)/2) i hm h z
     lia
    ·have:i=(lo+hi)/2:=by lia
     subst this
     lia
  ·rw[if_neg bW];have:lo=hi:=by lia
   subst this;exact⟨h2,h3,h4⟩
theorem zfb{ss:List Nat}(hs:ss.Pairwise (·<·))(j:Nat):below ss.toArray j<=ss.length/\(∀x∈ss.take (below ss.toArray j),x<j)/\∀x∈ss.drop (below ss.toArray j),j<=x:=by
 obtain⟨h1,h2,h3⟩:=Uz (j:=j) hs ss.length 0 ss.length gV gV (bL _) (λi h hi=>by lia) (λi h hi=>by lia);have e:below ss.toArray j=below.go ss.toArray j ss.length 0 ss.length:=by unfold below;rw[dH]
 rw[e];refine⟨h1,λx hx=>?_,λx hx=>?_⟩
 ·obtain⟨i,hi,rfl⟩:=BP.mp hx;rw[oZ] at hi;rw[List.getElem_take];exact h2 i gV gV
 ·obtain⟨i,hi,rfl⟩:=BP.mp hx;rw[wV] at hi;rw[List.getElem_drop];exact h3 _ gV gV
noncomputable abbrev Ent:=List (Nat×Nat)
def gj(L:Ent):Prop:=(L.map (·.1)).Pairwise (·<·)
theorem UG{L:Ent}(hs:gj L)(j:Nat):∃La Lb,L=La++Lb/\below (L.map (·.1)).toArray j=La.length/\(∀e∈La,e.1<j)/\∀e∈Lb,j<=e.1:=by
 obtain⟨h1,h2,h3⟩:=zfb hs j;generalize below (L.map (·.1)).toArray j=b at h1 h2 h3;rw[aW] at h1;refine⟨L.take b,L.drop b,(List.take_append_drop b L).symm,by rw[oZ];lia,λe he=>h2 _ ?_,λe he=>h3 _ ?_⟩
 ·rw[<-Nf];exact rA he
 ·rw[<-Ng];exact rA he
theorem zlc{La Lb:Ent}{e:Nat×Nat}(h:gj (La++e::Lb)):(∀x∈La,x.1<e.1)/\∀x∈Lb,e.1<x.1:=by
 unfold gj at h;rw[jN,lK,Ho] at h;refine⟨λx hx=>h.2.2 _ (rA hx) _ gA,λx hx=>?_⟩;exact(qg.mp h.2.1).1 _ (rA hx)
theorem zjF{La Lb:Ent}{e:Nat×Nat}(h:gj (La++Lb))(ha:∀x∈La,x.1<e.1)(hb:∀x∈Lb,e.1<x.1):gj (La++e::Lb):=by
 unfold gj at h ⊢;rw[jN,Ho] at h;rw[jN,lK,Ho];refine⟨h.1,qg.mpr ⟨λx hx=>?_,h.2.1⟩,λx hx y hy=>?_⟩
 ·obtain⟨z,hz,rfl⟩:=eE.mp hx;exact hb z hz
 ·rcases bZ.mp hy with rfl|hy
  ·obtain⟨z,hz,rfl⟩:=eE.mp hx;exact ha z hz
  ·exact h.2.2 x hx y hy
theorem zfA{j:Nat}:has #[] j=false:=by unfold has;rfl
theorem zmK{t:SetTable}{L:Ent}(ht:t.place=(L.map (·.1)).toArray)(hd:t.dummies=#[])(hs:gj L)(j:Nat) :
  (∃La k Lb,L=La++(j,k)::Lb/\t.slot j=.live La.length)\/((∀e∈L,e.1≠j)/\t.slot j=.empty):=by
 obtain⟨La,Lb,e,hb,h1,h2⟩:=UG hs j;have sO:t.slot j=if (L.map (·.1)).toArray[La.length]?==some j then .live La.length else if has t.dummies j then .dummy else .empty:=by
  unfold slot;rw[ht,hb]
 rw[hd,zfA] at sO;have hg:(L.map (·.1)).toArray[La.length]?=(Lb.map (·.1))[0]?:=by
  rw[BL,e,jN,oW J0];simp
 rw[hg] at sO;cases Lb with
 |nil=>
  right
  refine⟨λx hx=>?_,by rw[sO];rfl⟩;rw[e,FP] at hx;exact cR (h1 x hx)
 |cons x Lb=>
  by_cases hx:x.1=j
  ·left
   refine⟨La,x.2,Lb,by rw[e,<-hx],?_⟩;rw[sO,if_pos (by simp[hx])]
  ·right
   have hgt:j<x.1:=by have:=h2 x gA;lia
   rw[e] at hs;obtain⟨_,a2⟩:=zlc hs;refine⟨λy hy=>?_,by rw[sO,if_neg (by simp[hx])];rfl⟩;rw[e] at hy;rcases eU.mp hy with hy|hy
   ·exact cR (h1 y hy)
   ·rcases bZ.mp hy with rfl|hy
    ·exact hx
    ·have:=a2 y hy;lia
theorem zbg{α:Type}(a b:List α)(x:α):insertAt (a++b).toArray a.length x=(a++x::b).toArray:=by
 unfold insertAt;apply Array.toList_inj.mp;simp
theorem znA{t:SetTable}{L:Ent}(ht:t.place=(L.map (·.1)).toArray)(hd:t.dummies=#[])(hs:gj L){j:Nat}(hj:∀e∈L,e.1≠j)(k:Nat) :
  ∃La Lb,L=La++Lb/\t.put j=({t with place:=((La++(j,k)::Lb).map (·.1)).toArray},La.length)/\gj (La++(j,k)::Lb):=by
 obtain⟨La,Lb,e,hb,h1,h2⟩:=UG hs j;refine⟨La,Lb,e,?_,?_⟩
 ·unfold put;rw[hd,zfA,ht,hb];dsimp only;have:insertAt (L.map (·.1)).toArray La.length j=((La++(j,k)::Lb).map (·.1)).toArray:=by
   rw[e,jN];have:=zbg (La.map (·.1)) (Lb.map (·.1)) j;rw[aW] at this;rw[this,jN,lK]
  rw[this];simp[hd]
 ·rw[e] at hs;exact zjF hs (λx hx=>h1 x hx) (λx hx=>by
   have:=h2 x hx;have:=hj x (by rw[e];exact jG _ hx);show j<x.1
   lia)
noncomputable def fG(m:Nat)(p:Probe):Probe:=
 if p.more>0 then {p with j:=p.j+1,more:=p.more-1} else {p with j:=(leap m p.i p.perturb).1,more:=runEnd m (leap m p.i p.perturb).1-(leap m p.i p.perturb).1,i:=(leap m p.i p.perturb).1,perturb:=(leap m p.i p.perturb).2}
theorem ze1(t:SetTable)(p:Probe):t.advance p=fG t.mask p:=rfl
noncomputable def wF(m i pt:Nat):Probe:={j:=i,more:=runEnd m i-i,i,perturb:=pt,dummy:=none}
noncomputable def start(m:Nat)(h:Int):Probe:=wF m (bits h%(m+1)) (bits h)
noncomputable def steps(m:Nat):Nat->Probe->List Nat
 |0,_=>[]
 |n+1,p=>p.j::steps m n (fG m p)
theorem zf7{m:Nat}{p:Probe}(h:p.dummy=none):(fG m p).dummy=none:=by unfold fG;split<;>exact h
def Taken(hk:Nat->Int)(L:Ent)(h:Int)(pre:List Nat):Prop:=∀x∈pre,∃e∈L,e.1=x/\hk e.2≠h
def vG(hk:Nat->Int)(L:Ent)(h:Int)(js:List Nat)(j:Nat):Prop:=∃pre post,js=pre++j::post/\Taken hk L h pre
theorem zgz{t:SetTable}{L:Ent}{hk:Nat->Int}{hashAt:Nat->Int}{h:Int}(ht:t.place=(L.map (·.1)).toArray)(hd:t.dummies=#[])(hs:gj L)(hH:∀La e Lb,L=La++e::Lb->hashAt La.length=hk e.2) :
  ∀(fuel:Nat) (p:Probe),p.dummy=none->match probe.go t hashAt h fuel p with
   |none=>∀j∈steps t.mask fuel p,∃e∈L,e.1=j
   |some (.empty j d)=>d=none/\(∀e∈L,e.1≠j)/\vG hk L h (steps t.mask fuel p) j
   |some (.candidate j i next)=>∃La k Lb,L=La++(j,k)::Lb/\i=La.length/\hk k=h
 |0,p,hp=>by unfold probe.go;intro j hj;cases hj
 |fuel+1,p,hp=>by
  unfold probe.go;rcases zmK ht hd hs p.j with ⟨La,k,Lb,e,sO⟩|⟨I_,sO⟩
  ·rw[sO];dsimp only;have hh:hashAt La.length=hk k:=hH La (p.j,k) Lb e;rw[hh];by_cases hc:hk k=h
   ·rw[if_pos (by simpa using hc)];exact⟨La,k,Lb,e,rfl,hc⟩
   ·rw[if_neg (by simpa using hc),ze1];have ih:=zgz ht hd hs hH (h:=h) fuel (fG t.mask p) (zf7 hp);have hme:(p.j,k)∈L:=by rw[e];simp
    cases hg:probe.go t hashAt h fuel (fG t.mask p) with
    |none=>
     rw[hg] at ih;intro j hj;rcases bZ.mp (show j∈p.j::steps t.mask fuel (fG t.mask p) from hj) with rfl|hj
     ·exact⟨_,hme,rfl⟩
     ·exact ih j hj
    |some met=>
     rw[hg] at ih;cases met with
     |empty j d=>
      obtain⟨a1,a2,pre,post,a3,a4⟩:=ih;refine⟨a1,a2,p.j::pre,post,by show p.j::steps t.mask fuel (fG t.mask p)=_;rw[a3];rfl,λx hx=>?_⟩;rcases bZ.mp hx with rfl|hx
      ·exact⟨_,hme,rfl,hc⟩
      ·exact a4 x hx
     |candidate j i next=>exact ih
  ·rw[sO];exact⟨hp,I_,[],steps t.mask fuel (fG t.mask p),rfl,λx hx=>by cases hx⟩
structure Tab(hk:Nat->Int)(t:SetTable)(L:Ent):Prop where
 place:t.place=(L.map (·.1)).toArray
 Ew:t.dummies=#[]
 asc:gj L
 inj:∀e∈L,∀e'∈L,hk e.2=hk e'.2->e=e'
 O6:∀e∈L,vG hk L (hk e.2) (steps t.mask (10*turns t.mask) (start t.mask (hk e.2))) e.1
def Wide(m c:Nat)(h:Int):Prop:=∃l:List Nat,l.Nodup/\c<=l.length/\∀x∈l,x∈steps m (10*turns m) (start m h)
theorem bV{α:Type}[DecidableEq α]:∀{l m:List α},l.Nodup->l ⊆ m->l.length<=m.length
 |[],_,_,_=>jm _
 |x::l,m,hn,h=>by
  have hx:x∈m:=h gA;rw[pq] at hn;have ih:=bV (m:=m.erase x) hn.2 λy hy=>(List.mem_erase_of_ne (λe=>hn.1 (by rw[<-e];exact hy))).mpr (h (eF _ hy));have:=List.length_erase_of_mem hx;have:=List.length_pos_of_mem hx;rw[fu]
  lia
theorem few{L:Ent}{l:List Nat}(hn:l.Nodup)(hl:∀x∈l,∃e∈L,e.1=x):l.length<=L.length:=by
 have h:l ⊆ L.map (·.1):=λx hx=>by obtain⟨e,he,q⟩:=hl x hx;exact eE.mpr ⟨e,he,q⟩
 have:=bV hn h
 rwa [aW] at this
theorem Tab.add(T:Tab hk t (La++Lb))(ha:gj (La++(j,k)::Lb))(hn:∀e∈La++Lb,hk e.2≠hk k)(hf:vG hk (La++Lb) (hk k) (steps t.mask (10*turns t.mask) (start t.mask (hk k))) j) :
  Tab hk {t with place:=((La++(j,k)::Lb).map (·.1)).toArray} (La++(j,k)::Lb):=by
 have ao:∀e∈La++Lb,e∈La++(j,k)::Lb:=λe he=>by
  rcases eU.mp he with z|z
  ·exact tY _ z
  ·exact jG _ (eF _ z)
 have cas:∀e∈La++(j,k)::Lb,e=(j,k)\/e∈La++Lb:=λe he=>by
  rcases eU.mp he with z|z
  ·exact .inr (tY _ z)
  ·rcases bZ.mp z with z|z
   ·exact .inl z
   ·exact .inr (jG _ z)
 have mono:∀{h js x},vG hk (La++Lb) h js x->vG hk (La++(j,k)::Lb) h js x:=λ⟨pre,post,a,b⟩=>⟨pre,post,a,λx hx=>let ⟨e,h1,h2⟩:=b x hx;⟨e,ao e h1,h2⟩⟩;refine⟨rfl,T.Ew,ha,λe he e' vH q=>?_,λe he=>?_⟩
 ·rcases cas e he with rfl|z<;>rcases cas e' vH with rfl|z'
  ·rfl
  ·exact absurd q.symm (hn e' z')
  ·exact absurd q (hn e z)
  ·exact T.inj e z e' z' q
 ·rcases cas e he with rfl|z
  ·exact mono hf
  ·exact mono (T.O6 e z)
noncomputable def rounds(m:Nat):Nat->Nat->Nat->List Nat
 |0,_,_=>[]
 |f+1,i,pt=>(List.range (runEnd m i+1-i)).map (i+·)++rounds m f (leap m i pt).1 (leap m i pt).2
theorem zdq:∀(c f:Nat) (p:Probe),p.more=c->p.dummy=none->steps m (c+1+f) p=(List.range (c+1)).map (p.j+·)++steps m f (wF m (leap m p.i p.perturb).1 (leap m p.i p.perturb).2)
 |0,f,p,hc,hd=>by
  have e:fG m p=wF m (leap m p.i p.perturb).1 (leap m p.i p.perturb).2:=by
   unfold fG wF;rw[if_neg gV,hd]
  rw[show 0+1+f=f+1 by lia];show p.j::steps m f (fG m p)=_;rw[e];rfl
 |c+1,f,p,hc,hd=>by
  have e:fG m p={p with j:=p.j+1,more:=p.more-1}:=by
   unfold fG;rw[if_pos gV]
  rw[show c+1+1+f=(c+1+f)+1 by lia];show p.j::steps m (c+1+f) (fG m p)=_;rw[e,zdq c f {p with j:=p.j+1,more:=p.more-1} (by show p.more-1=c;lia) hd];rw[Qn (n:=c+1),lK,lM,List.cons_append]
  congr 1
  congr 1
  apply Hr;intro x _;show p.j+1+x=p.j+(x+1)
  lia
theorem zcg:∀(a b:Nat) (p:Probe),∃r,steps m (a+b) p=steps m a p++r
 |0,b,p=>⟨steps m (0+b) p,rfl⟩
 |a+1,b,p=>by
  obtain⟨r,e⟩:=zcg a b (fG m p);refine⟨r,?_⟩;rw[show a+1+b=(a+b)+1 by lia];show p.j::steps m (a+b) (fG m p)=p.j::steps m a (fG m p)++r;rw[e];rfl
theorem zjQ:runEnd m i-i=9\/runEnd m i-i=0:=by
 unfold runEnd
 split<;>lia
theorem zmv:i<=runEnd m i:=by
 unfold runEnd
 split<;>lia
theorem UJ{m:Nat}:∀(f i pt:Nat),∃post,steps m (10*f) (wF m i pt)=rounds m f i pt++post
 |0,i,pt=>⟨[],rfl⟩
 |f+1,i,pt=>by
  obtain⟨post,e⟩:=UJ (m:=m) f (leap m i pt).1 (leap m i pt).2;obtain⟨r,e2⟩:=zcg (m:=m) (10*f) (9-(runEnd m i-i)) (wF m (leap m i pt).1 (leap m i pt).2);have hr:=zjQ (m:=m) (i:=i);have hg:=zmv (m:=m) (i:=i);refine⟨post++r,?_⟩;have h1:10*(f+1)=(runEnd m i-i)+1+(10*f+(9-(runEnd m i-i))):=by lia
  rw[h1,zdq (runEnd m i-i) _ (wF m i pt) rfl rfl];show (List.range (runEnd m i-i+1)).map (i+·)++steps m (10*f+(9-(runEnd m i-i))) (wF m (leap m i pt).1 (leap m i pt).2)=(List.range (runEnd m i+1-i)).map (i+·)++rounds m f (leap m i pt).1 (leap m i pt).2++(post++r);rw[e2,e,show runEnd m i+1-i=runEnd m i-i+1 by lia];simp only[BZ]
theorem UL{m:Nat}:∀(f i pt:Nat),i<=m->∀x∈rounds m f i pt,x<=m
 |0,_,_,_,x,hx=>by cases hx
 |f+1,i,pt,hi,x,hx=>by
  rcases eU.mp (show x∈(List.range (runEnd m i+1-i)).map (i+·)++rounds m f (leap m i pt).1 (leap m i pt).2 from hx) with z|z
  ·obtain⟨k,hk,rfl⟩:=eE.mp z;rw[lJ] at hk;unfold runEnd at hk;split at hk<;>lia
  ·exact UL f _ _ (by show (i*5+1+pt/32)%(m+1)<=m;have:=Nat.mod_lt (i*5+1+pt/32) (show 0<m+1 by lia);lia) x z
theorem zdl{m:Nat}{owner:Array (Option Nat)}:∀(f i pt:Nat),match layClean.free m owner f i pt with
  |none=>∀x∈rounds m f i pt,(owner.getD x (some 0)).isNone=false
  |some j=>∃pre post,rounds m f i pt=pre++j::post/\(owner.getD j (some 0)).isNone=true/\∀x∈pre,(owner.getD x (some 0)).isNone=false
 |0,i,pt=>by unfold layClean.free;intro x hx;cases hx
 |f+1,i,pt=>by
  unfold layClean.free;cases hf:(List.range (runEnd m i+1-i)).find? λk=>(owner.getD (i+k) (some 0)).isNone with
  |some k=>
   dsimp only;obtain⟨h1,as,bs,h2,h3⟩:=List.find?_eq_some_iff_append.mp hf;refine⟨as.map (i+·),bs.map (i+·)++rounds m f (leap m i pt).1 (leap m i pt).2,?_,h1,λx hx=>?_⟩
   ·show (List.range (runEnd m i+1-i)).map (i+·)++_=_;rw[h2];simp
   ·obtain⟨a,ha,rfl⟩:=eE.mp hx;simpa using h3 a ha
  |none=>
   have hn:=List.find?_eq_none.mp hf;have yP:∀x∈(List.range (runEnd m i+1-i)).map (i+·),(owner.getD x (some 0)).isNone=false:=λx hx=>by
    obtain⟨a,ha,rfl⟩:=eE.mp hx;exact Mw.mpr (hn a ha)
   have ih:=zdl (m:=m) (owner:=owner) f (leap m i pt).1 (leap m i pt).2;show match layClean.free m owner f (leap m i pt).1 (leap m i pt).2 with
    |none=>∀x∈rounds m (f+1) i pt,(owner.getD x (some 0)).isNone=false
    |some j=>∃pre post,rounds m (f+1) i pt=pre++j::post/\(owner.getD j (some 0)).isNone=true/\∀x∈pre,(owner.getD x (some 0)).isNone=false
   cases hg:layClean.free m owner f (leap m i pt).1 (leap m i pt).2 with
   |none=>
    rw[hg] at ih;intro x hx;rcases eU.mp (show x∈(List.range (runEnd m i+1-i)).map (i+·)++rounds m f (leap m i pt).1 (leap m i pt).2 from hx) with z|z
    ·exact yP x z
    ·exact ih x z
   |some j=>
    rw[hg] at ih;obtain⟨pre,post,a1,a2,a3⟩:=ih;refine⟨(List.range (runEnd m i+1-i)).map (i+·)++pre,post,?_,a2,λx hx=>?_⟩
    ·show (List.range (runEnd m i+1-i)).map (i+·)++rounds m f (leap m i pt).1 (leap m i pt).2=_;rw[a1,BZ]
    ·rcases eU.mp hx with z|z
     ·exact yP x z
     ·exact a3 x z
structure Own(m:Nat)(owner:Array (Option Nat))(O:Ent):Prop where
 size:owner.size=m+1
 at':∀x k,owner[x]?=some (some k)↔(x,k)∈O
theorem Own.yes{m:Nat}{owner:Array (Option Nat)}{O:Ent}(h:Own m owner O){x:Nat}(hx:x<=m)(q:(owner.getD x (some 0)).isNone=false):∃e∈O,e.1=x:=by
 have hs:x<owner.size:=by rw[h.size];lia
 have e:owner.getD x (some 0)=owner[x]:=by simp[hs]
 rw[e] at q;cases hc:owner[x] with
 |none=>rw[hc] at q;cases q
 |some k=>exact⟨(x,k),(h.at' x k).mp (by rw[zm hs,hc]),rfl⟩
theorem Own.no{m:Nat}{owner:Array (Option Nat)}{O:Ent}(h:Own m owner O){x:Nat}(q:(owner.getD x (some 0)).isNone=true):x<owner.size/\∀e∈O,e.1≠x:=by
 have hs:x<owner.size:=by
  rcases zK x owner.size with z|z
  ·exact z
  ·rw[show owner.getD x (some 0)=some 0 by simp[zM.mpr z]] at q;cases q
 have e:owner.getD x (some 0)=owner[x]:=by simp[hs]
 rw[e] at q;refine⟨hs,λe he z=>?_⟩;have:=(h.at' e.1 e.2).mpr he;rw[z,zm hs] at this;rw[dJ this] at q;cases q
theorem Own.set{m:Nat}{owner:Array (Option Nat)}{O:Ent}(h:Own m owner O){x k:Nat}(hs:x<owner.size)(hn:∀e∈O,e.1≠x):Own m (owner.setIfInBounds x (some k)) (O++[(x,k)]):=by
 refine⟨by rw[Array.size_setIfInBounds];exact h.size,λy l=>?_⟩;rw[Array.getElem?_setIfInBounds];by_cases e:x=y
 ·subst e;rw[if_pos rfl,if_pos hs]
  constructor
  ·intro z;cases z;simp
  ·intro z;rcases eU.mp z with z|z
   ·exact absurd rfl (hn _ z)
   ·simp at z;rw[z]
 ·rw[if_neg e,h.at' y l]
  constructor
  ·exact λz=>tY _ z
  ·intro z;rcases eU.mp z with z|z
   ·exact z
   ·simp at z;exact absurd z.1.symm e
def iJ(m c:Nat)(h:Int):Prop:=∃l:List Nat,l.Nodup/\c<=l.length/\∀x∈l,x∈rounds m (turns m) (bits h%(m+1)) (bits h)
theorem iJ.wide(w:iJ m c h):Wide m c h:=by
 obtain⟨l,a,b,d⟩:=w;obtain⟨post,e⟩:=UJ (m:=m) (turns m) (bits h%(m+1)) (bits h);refine⟨l,a,b,λx hx=>?_⟩;show x∈steps m (10*turns m) (wF m (bits h%(m+1)) (bits h));rw[e];exact tY _ (d x hx)
structure Lay(m:Nat)(hk:Nat->Int)(owner:Array (Option Nat))(k:Nat)(O:Ent):Prop where
 own:Own m owner O
 ids:O.map (·.2)=List.range k
 slots:(O.map (·.1)).Nodup
 le:∀e∈O,e.1<=m
 O6:∀e∈O,vG hk O (hk e.2) (steps m (10*turns m) (start m (hk e.2))) e.1
noncomputable def jL(m:Nat)(acc:Option (Array (Option Nat)×Nat))(h:Int):Option (Array (Option Nat)×Nat):=do
  let (owner,k) <-acc
  let j <-layClean.free m owner (turns m) (bits h%(m+1)) (bits h)
  pure (owner.setIfInBounds j (some k),k+1)
theorem zeF{m c:Nat}{hs:List Int}(hw:∀h∈hs,iJ m c h)(hc:hs.length<=c)(hd:hs.Nodup):∀(rest:List Int) (k:Nat) (owner:Array (Option Nat)) (O:Ent),hs.drop k=rest->k<=hs.length->Lay m (λi=>hs.getD i 0) owner k O->
  ∃ni O',rest.foldl (jL m) (some (owner,k))=some (ni,hs.length)/\Lay m (λi=>hs.getD i 0) ni hs.length O'
 |[],k,owner,O,e,hk,L=>by
  have:hs.length<=k:=List.drop_eq_nil_iff.mp e;have:k=hs.length:=by lia
  subst this;exact⟨owner,O,rfl,L⟩
 |h::rest,k,owner,O,e,hk,L=>by
  have bW:k<hs.length:=by
   rcases zK k hs.length with z|z
   ·exact z
   ·rw[List.drop_eq_nil_iff.mpr z] at e;cases e
  have e':=e;rw[List.drop_eq_getElem_cons bW] at e';injection e' with eh er;have hOl:O.length=k:=by have:=ql List.length L.ids;simpa using this
  have hgk:hs.getD k 0=h:=by rw[<-eh];simp[bW]
  have hmh:h∈hs:=by rw[<-eh];exact lH _
  have f:=zdl (m:=m) (owner:=owner) (turns m) (bits h%(m+1)) (bits h);have K_:bits h%(m+1)<=m:=by have:=Nat.mod_lt (bits h) (show 0<m+1 by lia);lia
  have hne:∀e∈O,hs.getD e.2 0≠h:=λx hx q=>by
   have Dg:x.2∈List.range k:=by rw[<-L.ids];exact rA hx
   rw[lJ] at Dg;have g1:hs.getD x.2 0=hs[x.2]:=by simp[show x.2<hs.length by lia]
   rw[g1,<-eh] at q;have:=(rz.mp hd);exact oY.mp this x.2 k gV bW Dg q
  cases hg:layClean.free m owner (turns m) (bits h%(m+1)) (bits h) with
  |none=>
   rw[hg] at f;obtain⟨l,l1,l2,l3⟩:=hw h hmh;have:=few (L:=O) l1 λx hx=>L.own.yes (UL _ _ _ K_ x (l3 x hx)) (f x (l3 x hx))
   lia
  |some j=>
   rw[hg] at f;obtain⟨pre,post,a1,a2,a3⟩:=f;obtain⟨Bh,Bj⟩:=L.own.no a2;have hjm:j<=m:=by have:=L.own.size;lia
   have Ey:vG (λi=>hs.getD i 0) O h (steps m (10*turns m) (start m h)) j:=by
    obtain⟨post2,e2⟩:=UJ (m:=m) (turns m) (bits h%(m+1)) (bits h);refine⟨pre,post++post2,?_,λx hx=>?_⟩
    ·show steps m (10*turns m) (wF m (bits h%(m+1)) (bits h))=_;rw[e2,a1,BZ,List.cons_append]
    ·obtain⟨e,he,q⟩:=L.own.yes (UL _ _ _ K_ x (by rw[a1];exact tY _ hx)) (a3 x hx);exact⟨e,he,q,hne e he⟩
   have mono:∀{h js x},vG (λi=>hs.getD i 0) O h js x->vG (λi=>hs.getD i 0) (O++[(j,k)]) h js x:=λ⟨pre,post,a,b⟩=>⟨pre,post,a,λx hx=>let ⟨e,h1,h2⟩:=b x hx;⟨e,tY _ h1,h2⟩⟩;have L':Lay m (λi=>hs.getD i 0) (owner.setIfInBounds j (some k)) (k+1) (O++[(j,k)]):=by
    refine⟨L.own.set Bh Bj,by rw[jN,L.ids,List.range_succ];rfl,?_,λe he=>?_,λe he=>?_⟩
    ·rw[jN,Hu];refine⟨L.slots,by simp,λa ha b hb=>?_⟩;obtain⟨x,hx,rfl⟩:=eE.mp ha;simp at hb;rw[hb];exact Bj x hx
    ·rcases eU.mp he with z|z
     ·exact L.le e z
     ·simp at z;rw[z];exact hjm
    ·rcases eU.mp he with z|z
     ·exact mono (L.O6 e z)
     ·simp at z;rw[z];show vG _ _ (hs.getD k 0) (steps m (10*turns m) (start m (hs.getD k 0))) j;rw[hgk];exact mono Ey
   obtain⟨ni,O',b1,b2⟩:=zeF hw hc hd rest (k+1) _ _ er bW L';refine⟨ni,O',?_,b2⟩;rw[List.foldl_cons];have:jL m (some (owner,k)) h=some (owner.setIfInBounds j (some k),k+1):=by
    unfold jL;show (layClean.free m owner (turns m) (bits h%(m+1)) (bits h)).bind _=_;rw[hg];rfl
   rw[this];exact b1
theorem UW{m:Nat}:Own m (Array.replicate (m+1) none) []:=⟨by simp,λx k=>by
 constructor
 ·intro h;rw[Array.getElem?_replicate] at h;split at h<;>cases h
 ·intro h;cases h⟩
theorem zh8{m c:Nat}{hs:List Int}(hw:∀h∈hs,iJ m c h)(hc:hs.length<=c)(hd:hs.Nodup):∃owner O,layClean m hs.toArray=some owner/\Lay m (λi=>hs.getD i 0) owner hs.length O:=by
 obtain⟨owner,O,a,b⟩:=zeF hw hc hd hs 0 _ [] rfl (jm _) ⟨UW,rfl,by simp,(λe he=>by cases he),λe he=>by cases he⟩;refine⟨owner,O,?_,b⟩;unfold layClean;rw[List.foldl_toArray];show (hs.foldl (jL m) (some (Array.replicate (m+1) none,0))).map (·.1)=_;rw[a];rfl
noncomputable def cP(m:Nat)(owner:Array (Option Nat)):Ent:=(List.range (m+1)).filterMap λj=>(owner.getD j none).map (j,·)
theorem ziw(h:Own m owner O):e∈cP m owner↔e∈O:=by
 unfold cP;rw[vP]
 constructor
 ·rintro⟨j,hj,q⟩;rw[jk] at q;obtain⟨k,q1,rfl⟩:=q;rw[<-h.at'];rw[lJ] at hj;have hs:j<owner.size:=by rw[h.size];exact hj
  have e:owner.getD j none=owner[j]:=by simp[hs]
  rw[zm hs,<-e,q1]
 ·intro he;have q:=(h.at' e.1 e.2).mpr he;obtain⟨hs,q2⟩:=Qf.mp q;refine⟨e.1,by rw[lJ,<-h.size];exact hs,?_⟩;have e1:owner.getD e.1 none=owner[e.1]:=by simp[hs]
  rw[e1,q2];rfl
theorem zen{m:Nat}{owner:Array (Option Nat)}:gj (cP m owner):=by
 unfold gj cP;rw[sY];refine List.Pairwise.filterMap _ (R:=(·<·)) (λa a' bW b hb b' hb'=>?_) List.pairwise_lt_range;obtain⟨_,_,rfl⟩:=jk.mp hb;obtain⟨_,_,rfl⟩:=jk.mp hb';exact bW
theorem zgk{m k:Nat}{hk:Nat->Int}{owner:Array (Option Nat)}{O:Ent}(h:Lay m hk owner k O):(cP m owner).Perm O:=by
 refine(List.perm_ext_iff_of_nodup ?_ ?_).mpr λe=>ziw h.own
 ·have:=zen (m:=m) (owner:=owner);unfold gj at this;rw[sY] at this;exact rz.mpr (this.imp λz q=>by rw[q] at z;exact mD _ z)
 ·have:=rz.mp h.slots;rw[sY] at this;exact rz.mpr (this.imp λz q=>z (by rw[q]))
theorem gq{α:Type}{l:List α}(h:l.Nodup){i j:Nat}(hi:i<l.length)(hj:j<l.length)(e:l[i]=l[j]):i=j:=by
 have p:=oY.mp (rz.mp h);rcases Nat.lt_trichotomy i j with z|z|z
 ·exact absurd e (p i j hi hj z)
 ·exact z
 ·exact absurd e.symm (p j i hj hi z)
theorem zig{t:SetTable}{L:Ent}{hk:Nat->Int}(T:Tab hk t L){wanted c:Nat}(hw:∀e∈L,iJ (sizeAbove wanted-1) c (hk e.2))(hc:L.length<=c) :
  ∃(ord:List Nat) (L':Ent),t.relaid (L.map λe=>hk e.2).toArray wanted=some ({t with mask:=sizeAbove wanted-1,moves:=t.movedTo (sizeAbove wanted-1),place:=(L'.map (·.1)).toArray},ord.toArray) /\
   ord.length=L.length/\(∀i∈ord,i<L.length)/\L'.map (·.2)=ord.map (λi=>(L.getD i (0,0)).2)/\L'.length=L.length/\(L'.map (·.2)).Perm (L.map (·.2)) /\
   Tab hk {t with mask:=sizeAbove wanted-1,moves:=t.movedTo (sizeAbove wanted-1),place:=(L'.map (·.1)).toArray} L':=by
 generalize hm:sizeAbove wanted-1=m at hw;have yK:(L.map λe=>hk e.2).Nodup:=by
  rw[rz,sY];have:=T.asc;unfold gj at this;rw[sY,oY] at this;rw[oY];intro i j hi hj lZ q;have e:=T.inj _ (lH hi) _ (lH hj) q;have:=this i j hi hj lZ;rw[e] at this;exact mD _ this
 obtain⟨owner,O,h1,h2⟩:=zh8 (m:=m) (c:=c) (hs:=L.map λe=>hk e.2) (λh hh=>by obtain⟨e,he,rfl⟩:=eE.mp hh;exact hw e he) (by rw[aW];exact hc) yK;rw[aW] at h2;have hp:=zgk h2;have Ld:((cP m owner).map (·.2)).Perm (List.range L.length):=by rw[<-h2.ids];exact hp.map _
 have bW:∀e∈cP m owner,e.2<L.length:=λe he=>by
  have:=Ld.mem_iff.mp (rA (f:=(·.2)) he);simpa using this
 have O7:∀e∈O,(L.map λe=>hk e.2).getD e.2 0=hk (L.getD e.2 (0,0)).2:=λe he=>by
  have:=bW e (hp.mem_iff.mpr he);simp[this]
 refine⟨(cP m owner).map (·.2),(cP m owner).map λe=>(e.1,(L.getD e.2 (0,0)).2),?_,?_,?_,?_,?_,?_,?_⟩
 ·unfold relaid laid;rw[hm,h1];show some (_,_)=some (_,_)
  congr 2
  ·rw[lM];show SetTable.mk _ _ _ _ _ _ _=SetTable.mk _ _ _ _ _ _ _;rw[T.Ew];rfl
 ·rw[aW,hp.length_eq];have:=ql List.length h2.ids;simpa using this
 ·intro i hi;obtain⟨e,he,rfl⟩:=eE.mp hi;exact bW e he
 ·rw[lM,lM];rfl
 ·rw[aW,hp.length_eq];have:=ql List.length h2.ids;simpa using this
 ·rw[lM];have q1:((cP m owner).map ((λx=>x.2)∘λe=>(e.1,(L.getD e.2 (0,0)).2)))=((cP m owner).map (·.2)).map λi=>(L.getD i (0,0)).2:=by rw[lM];rfl
  rw[q1];have q2:L.map (·.2)=(List.range L.length).map λi=>(L.getD i (0,0)).2:=by
   apply M5
   ·simp
   ·intro i hi hi';rw[aW] at hi;simp[hi]
  rw[q2];exact Ld.map _
 ·have U6:gj ((cP m owner).map λe=>(e.1,(L.getD e.2 (0,0)).2)):=by
   have:=zen (m:=m) (owner:=owner);unfold gj at this ⊢;rw[lM];exact this
  have U7:∀e∈O,∀e'∈O,hk (L.getD e.2 (0,0)).2=hk (L.getD e'.2 (0,0)).2->e=e':=λe he e' vH q=>by
   have a:=bW e (hp.mem_iff.mpr he);have a':=bW e' (hp.mem_iff.mpr vH);rw[<-O7 e he,<-O7 e' vH] at q;have q':(L.map λe=>hk e.2)[e.2]'(by rw[aW];exact a)=(L.map λe=>hk e.2)[e'.2]'(by rw[aW];exact a'):=by simpa [a,a'] using q
   have e2:e.2=e'.2:=gq yK _ _ q';have U8:(O.map (·.2)).Nodup:=by rw[h2.ids];exact List.nodup_range
   obtain⟨i,hi,rfl⟩:=BP.mp he;obtain⟨i',hi',rfl⟩:=BP.mp vH;have:(O.map (·.2))[i]'(by rw[aW];exact hi)=(O.map (·.2))[i']'(by rw[aW];exact hi'):=by simpa using e2
   have:=gq U8 _ _ this;subst this;rfl
  refine⟨rfl,T.Ew,U6,λe he e' vH q=>?_,λe he=>?_⟩
  ·obtain⟨x,hx,rfl⟩:=eE.mp he;obtain⟨x',hx',rfl⟩:=eE.mp vH;rw[U7 x (hp.mem_iff.mp hx) x' (hp.mem_iff.mp hx') q]
  ·obtain⟨x,hx,rfl⟩:=eE.mp he;have hxO:=hp.mem_iff.mp hx;obtain⟨pre,post,a,b⟩:=h2.O6 x hxO;rw[O7 x hxO] at a b;refine⟨pre,post,a,λy hy=>?_⟩;obtain⟨z,hz,q1,q2⟩:=b y hy;have q2:hk (L.getD z.2 (0,0)).2≠hk (L.getD x.2 (0,0)).2:=by rw[<-O7 z hz];exact q2
   exact⟨(z.1,(L.getD z.2 (0,0)).2),rA (f:=λe=>(e.1,(L.getD e.2 (0,0)).2)) (hp.mem_iff.mpr hz),q1,q2⟩
end Ts
namespace Ts
open Mi PySem PySem.SetTable
noncomputable def dd(l:List Nat):List Nat:=l.foldr (λx r=>if r.contains x then r else x::r) []
theorem zle(h:x∈dd l):x∈l:=by
 induction l with
 |nil=>cases h
 |cons y r ih=>
  have h:x∈(if (dd r).contains y then dd r else y::dd r):=h;split at h
  ·exact eF _ (ih h)
  ·rcases bZ.mp h with rfl|h
   ·exact gA
   ·exact eF _ (ih h)
theorem U9:∀l:List Nat,(dd l).Nodup
 |[]=>zF
 |y::r=>by
  show (if (dd r).contains y then dd r else y::dd r).Nodup
  split
  ·exact U9 r
  ·rename_i h;exact pq.mpr ⟨by simpa using h,U9 r⟩
theorem zbV:∀(a b i pt:Nat) (x:Nat),x∈rounds m a i pt->x∈rounds m (a+b) i pt
 |0,_,_,_,x,h=>by cases h
 |a+1,b,i,pt,x,h=>by
  rw[show a+1+b=(a+b)+1 by lia];rcases eU.mp (show x∈(List.range (runEnd m i+1-i)).map (i+·)++rounds m a (leap m i pt).1 (leap m i pt).2 from h) with z|z
  ·exact tY _ z
  ·exact jG _ (zbV a b _ _ x z)
noncomputable def vI(m c f:Nat)(h:Int):Bool:=decide (c<=(dd (rounds m f (bits h%(m+1)) (bits h))).length)
theorem zgT(hf:f<=turns m)(hb:vI m c f h=true):iJ m c h:=by
 refine⟨dd (rounds m f (bits h%(m+1)) (bits h)),U9 _,lG hb,λx hx=>?_⟩;have:=zbV f (turns m-f) _ _ x (zle hx)
 rwa [show f+(turns m-f)=turns m by lia] at this
end Ts
namespace Ts
open PySem PySem.SetTable
noncomputable def aK(items:List Value)(hk:Nat->Int)(L:Ent):List (Int×Value):=L.map λe=>(hk e.2,items.getD e.2 .none)
def Bk(m n:Nat):Prop:=m=7/\n<=4\/m=31/\n<=18\/m=127/\n<=28
section
variable {prog:Program}{w:World}{A:Around}{E:Value->Shared->Prop}{s:Shared}{S:Addr}{items:List Value}{ts:List (Int×Int)}{L:Ent}{led:Bool}
theorem GX(T:Tab hk t L)(c:Bk t.mask L.length):t.fits (aK items hk L).toArray.size=true:=by
 unfold SetTable.fits SetTable.fill aK;rw[T.place,T.Ew];simp only[dH,aW,gB,wU];refine⟨wW _,?_⟩;show L.length+0<=t.mask;rcases c with c|c|c<;>lia
end
end Ts
namespace Ts
open Mi (Ad)
open PySem PySem.SetTable
section
variable {prog:Program}{w:World}{A:Around}{E:Value->Shared->Prop}{s:Shared}{S:Addr}{items:List Value}{ts:List (Int×Int)}{L:Ent}{led:Bool}
theorem nj:∀{l:List α},(∀x∈l,f x=some (g x))->l.filterMap f=l.map g
 |[],_=>rfl
 |x::l,h=>by
  rw[zu,h x gA,lK];rw[nj λy hy=>h y (eF _ hy)]
theorem zgv{h:Heap}{es es':Array (Int×Value)}{ep:Nat}{t t':SetTable}(ho:h.get? S=some {cls:=.type "set",dict:=none,data:=.set es ep t}):(h.update S (Obj.putSet es' t')).get? S=some {cls:=.type "set",dict:=none,data:=.set es' (ep+1) t'}:=by
 have:=qe (Obj.putSet es' t') ho (by rw[putSet_of es' t' rfl];rfl);rw[putSet_of es' t' rfl] at this;exact this
end
end Ts
namespace Ts
open PySem PySem.SetTable
section
variable {prog:Program}{w:World}{A:Around}{E:Value->Shared->Prop}{s:Shared}
noncomputable def gR(w:World):Bool:=!w.params.followText "set-order"
theorem zhP(a:Value){Q₁:Value->Shared->Prop}
  (h:Q₁ (.ref s.heap.objs.size) {s with heap:=s.heap.push {cls:=.type "set",dict:=none,data:=.set #[] 0 (.fresh 0 0 (gR w))}}) :
  codeAny (model prog w) A (.call (.builtin "set.__new__") ⟨[.type "set",a],[]⟩) (wants Q₁ E) s:=by
 refine codeAny_of_tree ?_;show wpAny _ A.in1 (do checkBuiltinCall "set.__new__" ⟨[.type "set",a],[]⟩;again (.builtin "set.__new__" ⟨[.type "set",a],[]⟩)) _ _ s;refine au (Cd (F.newCall_set_1 a) (aN ⟨HB F.plain_set_new _,zB F.entry_set_new ?_⟩));rw[Hq F.plain_set_new _];unfold Builtin.«set.__new__» Builtin.Frozenset.newClass;have hsub:=sub_set_self;obtain⟨hp,g,d,tk,os⟩:=s;dsimp only
 wp_walk
 refine MP (aN ?_);dsimp only;simp only[newObj];refine au (wpAny_alloc (aN ?_));exact aN h
theorem tab0{hk:Nat->Int}{led:Bool}:Tab hk (.fresh 0 0 led) []:=⟨rfl,rfl,List.Pairwise.nil,(λe he=>by cases he),λe he=>by cases he⟩
end
theorem cZ:Slot "set_iterator" "__next__" "set_iterator.__next__":=
 .of (owner:="set_iterator") (n:="__next__") (by rw[M_,Mr];kernel_rfl) Bd Bd Bd
  (by first|exact .inl Bd|exact .inr Bd) (by rw[isSubtype_type];kernel_rfl)
theorem zby:Slot "set_iterator" "__iter__" "set_iterator.__iter__":=
 .of (owner:="set_iterator") (n:="__iter__") (by rw[M_,Mr];kernel_rfl) Bd Bd Bd
  (by first|exact .inl Bd|exact .inr Bd) (by rw[isSubtype_type];kernel_rfl)
theorem zeh:Manifest.owners.lookup (String.ofList ['r','o','t','a','r','e','t','i','_','t','e','s'].reverse)=some Manifest.sig_set_iterator:=by kernel_rfl
theorem zdB(a:Value):argsOk "set_iterator.__next__" ⟨[a],[]⟩:=by
 unfold argsOk;rw[signature?_of (id:="set_iterator.__next__") (n:=['_','_','t','x','e','n','_','_']) (o:=['r','o','t','a','r','e','t','i','_','t','e','s']) (by kernel_rfl) zeh];kernel_rfl
theorem zc8(a:Value):argsOk "set_iterator.__iter__" ⟨[a],[]⟩:=by
 unfold argsOk;rw[signature?_of (id:="set_iterator.__iter__") (n:=['_','_','r','e','t','i','_','_']) (o:=['r','o','t','a','r','e','t','i','_','t','e','s']) (by kernel_rfl) zeh];kernel_rfl
theorem zcz:entryFor table "set_iterator.__next__"=some Builtin.«set_iterator.__next__»:=entryFor_of_tree (by kernel_rfl)
theorem zcM:entryFor table "set_iterator.__iter__"=some Builtin.«dict_keyiterator.__iter__»:=
 entryFor_alias (id':="dict_keyiterator.__iter__") (by kernel_rfl) (by first|rfl|decide +kernel|(unfold String.splitOn;simp +decide [String.splitOnAux])) Bd (by kernel_rfl)
theorem zb7:entryFor table "set.__iter__"=some Builtin.«frozenset.__iter__»:=
 entryFor_alias (id':="frozenset.__iter__") (by kernel_rfl) rfl Bd (by kernel_rfl)
noncomputable def cQ(L:Ent):Nat->Nat
 |0=>0
 |k+1=>(L.getD k (0,0)).1+1
theorem zic{L:Ent}(h:gj L){k:Nat}(hk:k<=L.length):below (L.map (·.1)).toArray (cQ L k)=k:=by
 obtain⟨La,Lb,e,hb,h1,h2⟩:=UG h (cQ L k);rw[hb];have hp:=oY.mp h;have hll:La.length+Lb.length=L.length:=by rw[e,h_]
 have inA:∀i (hi:i<L.length),i<La.length->L[i].1<cQ L k:=λi hi q=>h1 _ (by
  have:L[i]=La[i]:=by
   simp only[e];exact List.getElem_append_left q
  rw[this];exact lH _)
 have inB:∀i (hi:i<L.length),La.length<=i->cQ L k<=L[i].1:=λi hi q=>h2 _ (by
  have:L[i]=Lb[i-La.length]' gV:=by
   simp only[e];exact List.getElem_append_right q
  rw[this];exact lH _)
 cases k with
 |zero=>
  cases La with
  |nil=>rfl
  |cons x r=>
   have:=h1 x gA;exact absurd this (Nat.not_lt_zero _)
 |succ k=>
  have hs:cQ L (k+1)=L[k].1+1:=by
   show (L.getD k (0,0)).1+1=_;simp[show k<L.length by lia]
  rw[hs] at inA inB;rcases Nat.lt_trichotomy La.length (k+1) with z|z|z
  ·have:=inB k gV gV
   lia
  ·exact z
  ·have h3:=inA (k+1) gV z;have h4:=hp k (k+1) (by rw[aW];lia) (by rw[aW];lia) gV;rw[M6,M6] at h4
   lia
theorem zf0{α:Type}(next:Nat->Nat):∀(fuel k:Nat) (left:List α) (out:Array α),left.length<=fuel->(pickOrder.go next fuel k left out).toList.Perm (out.toList++left)
 |0,k,left,out,h=>by
  have:left=[]:=List.length_eq_zero_iff.mp gV;subst this;unfold pickOrder.go;rw[FP]
 |fuel+1,k,left,out,h=>by
  unfold pickOrder.go;cases left with
  |nil=>simp
  |cons y r=>
   have bW:next k%(y::r).length<(y::r).length:=Nat.mod_lt _ J0;rw[dj bW];dsimp only;generalize next k%(y::r).length=i at bW;refine(zf0 next fuel (k+1) _ _ (by rw[List.length_eraseIdx_of_lt bW];lia)).trans ?_;rw[Array.toList_push,BZ];refine List.Perm.append_left _ ?_;rw[List.eraseIdx_eq_take_drop_succ];have:(y::r)=(y::r).take i++(y::r)[i]::(y::r).drop (i+1):=by
    rw[<-List.drop_eq_getElem_cons bW,List.take_append_drop]
   refine List.Perm.trans ?_ (List.Perm.of_eq this.symm);exact(List.perm_middle (l₁:=(y::r).take i)).symm
theorem zgW{α:Type}(next:Nat->Nat)(xs:List α):(pickOrder next xs.toArray).toList.Perm xs:=by
 unfold pickOrder;have:=zf0 next xs.toArray.size 0 xs #[] J0;simpa using this
section
variable {prog:Program}{w:World}{A:Around}{E:Value->Shared->Prop}{s:Shared}{S:Addr}{items:List Value}{hk:Nat->Int}{L:Ent}
noncomputable def bQ(w:World)(S:Addr)(ep:Nat)(es:List (Int×Value)):List (Int×Value):=if w.params.followText "set-order"=true then (pickOrder (w.params.setOrder S ep) es.toArray).toList else es
theorem mz{ep:Nat}{es:List (Int×Value)}:(bQ w S ep es).Perm es:=by
 unfold bQ
 split
 ·exact zgW _ _
 ·exact List.Perm.refl _
noncomputable def pX(items:List Value)(hk:Nat->Int)(L:Ent)(ep:Nat)(t:SetTable):Obj:={cls:=.type "set",dict:=none,data:=.set (aK items hk L).toArray ep t}
noncomputable def Bl(S:Addr)(slot i n ep:Nat):Obj:={cls:=.type "set_iterator",data:=.fields #[.int slot 0,.int i 0,.ref S,.int n 0,.int ep 0]}
theorem U_{Q:Bool->Shared->Prop}(h:Q (w.params.followText "set-order") s):wpAny (model prog w) A setsByText Q E s:=by
 unfold setsByText;exact au (MP (aN h))
theorem zfg{ep:Nat}{t:SetTable}{Q:Value->Shared->Prop}(ho:s.heap.get? S=some (pX items hk L ep t))(tb:Tab (hk) t L)(cap:Bk t.mask L.length)(bR:t.plain=true)
  (h:Q (.ref s.heap.objs.size) {s with heap:=s.heap.push (Bl S 0 0 L.length ep)}):wpAny (model prog w) A (pyIter (.ref S)) Q E s:=by
 have hT:s.TypeIs (.ref S) "set":=⟨_,ho,rfl⟩;have hf':=GX (items:=items) tb cap;refine wpAny_pyIter_slot hT F.slot_set_iter (o_ F.slot_set_iter hT zb7 ?_ (F.args_set_iter_1 _));unfold Builtin.«frozenset.__iter__» Builtin.Frozenset.slot0 slotArgs;simp only[List.isEmpty_nil,Nh,mC,↓reduceIte,bind_assoc,wX,FN];unfold Builtin.Frozenset.addrOf Builtin.Frozenset.sizeOf;refine au (aN ?_)
 try dsimp only
 refine au (aN ?_);refine au (au (wpAny_setEntries_of ho rfl hf' (aN ?_)));unfold setDrawn;refine au (au (MK ho rfl hf' (au (U_ (aN ?_)))));have hdr:(!w.params.followText "set-order"&&(!t.plain&&decide ((aK items hk L).toArray.size>1)))=false:=by rw[bR];simp
 show wpAny _ _ (if (!w.params.followText "set-order"&&(!t.plain&&decide ((aK items hk L).toArray.size>1)))=true then _ else _) _ _ _;rw[hdr];simp only[mC,lq];refine au (aN ?_);refine au (wpAny_setEpoch_of ho rfl hf' ?_);have tV:(aK items hk L).toArray.size=L.length:=by unfold aK;rw[dH,aW]
 rw[tV];refine au (sX (aN ⟨_,rfl,"set_iterator",_,⟨_,fj _ rfl,rfl⟩,cZ.lookup,?_⟩));exact h
theorem Le{I slot i n ep:Nat}(hit:s.heap.get? I=some (Bl S slot i n ep)):s.TypeIs (.ref I) "set_iterator":=⟨_,hit,rfl⟩
theorem Ez:(aK items hk L).toArray.size=L.length:=by unfold aK;rw[dH,aW]
theorem zcN{ep i:Nat}{t:SetTable}{slot:Nat}{Q:Option (Value×Nat)->Shared->Prop}(ho:s.heap.get? S=some (pX items hk L ep t))(tb:Tab (hk) t L)(cap:Bk t.mask L.length)(bR:t.plain=true)(jh:t.led=gR w)(hi:i<=L.length)(sO:w.params.followText "set-order"=false->slot=cQ L i)
  (h:∀dO,(w.params.followText "set-order"=false->dO=cQ L (i+1))->Q ((bQ w S ep (aK items hk L))[i]?.map λe=>(e.2,dO)) s) :
  wpAny (model prog w) A (setNext S slot i ep) Q E s:=by
 have hf':=GX (items:=items) tb cap;unfold setNext;refine au (MK ho rfl hf' ?_);dsimp only;refine au (U_ ?_);by_cases hb:w.params.followText "set-order"=true
 ·rw[if_pos hb];simp only[FN,mC,lq];unfold setWalk;refine au (au (MK ho rfl hf' (au (U_ ?_))));rw[if_pos hb];refine au (MP (aN ?_));refine aN ?_;have:=h slot (λq=>by rw[hb] at q;cases q);unfold bQ at this;rw[if_pos hb,Ms] at this;exact this
 ·have hb':w.params.followText "set-order"=false:=by simpa using hb
  rw[if_neg hb];have hl:t.led=true:=by rw[jh];unfold gR;rw[hb'];rfl
  show wpAny _ _ (if (!t.plain&&decide ((aK items hk L).toArray.size>1))=true then _ else _) _ _ _;rw[bR];simp only[Nh,vR,mC,lq];refine au ?_;show wpAny _ _ (if (!t.led && !(aK items hk L).toArray.isEmpty)=true then _ else _) _ _ _;rw[hl];simp only[Nh,vR,mC,lq];refine aN ?_;have hbl:below t.place slot=i:=by rw[tb.place,sO hb'];exact zic tb.asc hi
  rw[hbl];refine aN ?_;have hw:bQ w S ep (aK items hk L)=aK items hk L:=by unfold bQ;rw[if_neg hb]
  have:=h (cQ L (i+1)) (λ_=>rfl);rw[hw] at this;rw[BL,tb.place,BL];cases e:L[i]? with
  |none=>
   have e1:(aK items hk L)[i]?=none:=by unfold aK;rw[gK,e];rfl
   rw[e1] at this ⊢;exact this
  |some x=>
   have e1:(aK items hk L)[i]?=some (hk x.2,items.getD x.2 .none):=by unfold aK;rw[gK,e];rfl
   have e2:(L.map (·.1))[i]?=some x.1:=by rw[gK,e];rfl
   have e3:cQ L (i+1)=x.1+1:=by show (L.getD i (0,0)).1+1=_;rw[g_,e];rfl
   rw[e1,e3] at this;rw[e1,e2];exact this
theorem zcc{I ep i:Nat}{t:SetTable}{slot:Nat}{Q:Option Value->Shared->Prop}(hh:A.handled=none)(hit:s.heap.get? I=some (Bl S slot i L.length ep))(ho:s.heap.get? S=some (pX items hk L ep t))(tb:Tab (hk) t L)(cap:Bk t.mask L.length)(bR:t.plain=true)(jh:t.led=gR w)(hi:i<=L.length)(sO:w.params.followText "set-order"=false->slot=cQ L i)
  (h1:∀e h' dO,(bQ w S ep (aK items hk L))[i]?=some e->h'.get? I=some (Bl S dO (i+1) L.length ep)->(w.params.followText "set-order"=false->dO=cQ L (i+1))->Heap.SameBut I s.heap h'->Q (some e.2) {s with heap:=h'})
  (h2:∀h',(bQ w S ep (aK items hk L))[i]?=none->Heap.ExtBut I s.heap h'->Q none {s with heap:=h'}):wpAny (model prog w) A (pyNext (.ref I)) Q E s:=by
 have hf':=GX (items:=items) tb cap;unfold pyNext;refine au (zJ (vO (name:=Str.ofString "__next__") (Le hit) cZ
  (o_ cZ (Le hit) zcz ?_ (zdB _))))
 unfold Builtin.«set_iterator.__next__» slotArgs;simp only[List.isEmpty_nil,Nh,mC,↓reduceIte,bind_assoc,wX,FN];refine au (aN ?_);dsimp only;refine au (wpAny_fieldsOf hit rfl ?_);dsimp only;refine au (wpAny_setEntries_of ho rfl hf' ?_);rw[Ez];simp only[FN,mC,lq];rw[wR,wR,wR];refine au (zcN ho tb cap bR jh hi sO λdO hs'=>?_);cases e:(bQ w S ep (aK items hk L))[i]? with
 |some x=>
  dsimp only[Option.map_some];refine au (zE hit rfl J0 ?_);have g1:(s.heap.update I (Obj.mapFields (·.setIfInBounds 0 (rawInt dO)))).get? I=some (Bl S dO i L.length ep):=by
   have:=qe (Obj.mapFields (·.setIfInBounds 0 (rawInt dO))) hit rfl;exact this
  refine au (zE (s:={s with heap:=s.heap.update I (Obj.mapFields (·.setIfInBounds 0 (rawInt dO)))}) g1 rfl J0 ?_);refine aN ⟨_,rfl,aN (h1 x _ dO e ?_ hs' ((t_ ..).trans (t_ ..)))⟩;have:=qe (Obj.mapFields (·.setIfInBounds 1 (rawInt ((i:Int)+1)))) g1 rfl;exact this
 |none=>
  dsimp only[Option.map_none];refine au (zE hit rfl J0 ?_);show wpAny _ _ (newExc (.type "StopIteration") [] >>= _) _ _ _;refine au ?_;simp only[newExc,newTuple];refine au (sX ?_ (by size_fits));refine au (m:=firstArgMember _ _) (Cd (a:=Value.none) (by first|rfl|(simp only[firstArgMember];rfl)) ?_);refine sX ?_ (by size_fits);simp only[raiseNew];refine au (wpAny_handled ?_)
  first|rw[show A.in1.handled=none from hh]|rw[hh]
  refine au (aN (wpAny_throw ?_));refine au (Hw (T:="StopIteration") (b:=true) ⟨_,fj _ rfl,rfl⟩ isSubtype_stop ?_);exact aN (h2 _ e (((t_ ..).extBut.push _).push _))
end
end Ts
namespace Ts
open PySem PySem.SetTable PySem.Spec PyProof.Rows PySem.W L2
section
variable {prog:Program}{w:World}{A:Around}{E:Value->Shared->Prop}{s:Shared}{S:Addr}{items:List Value}{hk:Nat->Int}{L:Ent}
theorem Va{ep:Nat}:(bQ w S ep (aK items hk L)).length=L.length:=by
 rw[mz.length_eq];unfold aK;rw[aW]
theorem zgH{ep:Nat}{t:SetTable}(hh:A.handled=none)(I:Addr)(hne:S≠I)(tb:Tab (hk) t L)(cap:Bk t.mask L.length)(bR:t.plain=true)(jh:t.led=gR w) :
  Walks prog w A I [I,S] [I] L.length (λi v=>∃e,(bQ w S ep (aK items hk L))[i]?=some e/\e.2=v) (λi h=>i<=L.length/\h.get? S=some (pX items hk L ep t)/\∃slot,h.get? I=some (Bl S slot i L.length ep)/\(w.params.followText "set-order"=false->slot=cQ L i)) where
 «sub»:=λb hb=>by simp at hb;simp[hb]
 frame:=λ_ _ _ st hk=>let ⟨a,b,slot,c,d⟩:=st;⟨a,hk S J0 _ b,slot,hk I J0 _ c,d⟩
 item:=λi s Q E hi st hQ=>by
  obtain⟨a,b,slot,c,d⟩:=st;refine zcc hh c b tb cap bR jh a d (λe h' dO e1 e2 e3 e4=>?_) (λh' e1 _=>?_)
  ·exact hQ e.2 h' s.toks ⟨e,e1,rfl⟩ ⟨hi,e4.extBut S _ hne b,dO,e2,e3⟩ λb o hb e=>e4.extBut b o (λh=>hb (by simp[h])) e
  ·have:=oH.mp e1;rw[Va] at this
   lia
 done:=λs Q E st hQ=>by
  obtain⟨a,b,slot,c,d⟩:=st;refine zcc hh c b tb cap bR jh a d (λe h' dO e1 _ _ _=>?_) (λh' _ e2=>?_)
  ·have:=(gw.mp e1).1;rw[Va] at this
   lia
  ·exact hQ h' s.toks λb o hb e=>e2 b o (λh=>hb (by simp[h])) e
 self:=λ_ s _ _ st hQ=>by
  obtain⟨a,b,slot,c,d⟩:=st;refine wpAny_pyIter_slot (Le c) zby (o_ zby (Le c) zcM ?_ (zc8 _));show wpAny _ _ (ret (.ref _)) _ _ s;exact aN ⟨_,rfl,"set_iterator",_,Le c,cZ.lookup,hQ⟩
theorem zh4{ep:Nat}{t:SetTable}{Q:Bool->Shared->Prop}(ho:s.heap.get? S=some (pX items hk L ep t))(h:Q false s):wpAny (model prog w) A (Builtin.List.listLengthHint (.ref S)) Q E s:=by
 unfold Builtin.List.listLengthHint;refine au (wpAny_specialOf ⟨_,ho,rfl⟩ F.slot_set_len.lookup ?_);generalize hid:("set.__len__" : String)=id0
 wp_delta
 rw[show splitId id0=some ("set","__len__") from by subst hid;decide +kernel];subst hid;refine au (Hw (T:="set") (b:=true) ⟨_,ho,rfl⟩ (by rw[isSubtype_type];kernel_rfl) ?_);refine wpAny_ite_split (λhab=>absurd hab Dc) (λ_=>?_);refine wpAny_ite_split (λ_=>?_) (λhab=>absurd Bd hab);refine au (FW (T:="set") ⟨_,ho,rfl⟩ ?_);exact aN h
theorem zfi{ep:Nat}{acc:Array Value}(h:ItemsOf (λi v=>∃e,(bQ w S ep (aK items hk L))[i]?=some e/\e.2=v) acc L.length):acc=((bQ w S ep (aK items hk L)).map (·.2)).toArray:=by
 obtain⟨h1,h2⟩:=h;apply Array.toList_inj.mp;apply List.ext_getElem?;intro i;cases e:acc[i]? with
 |none=>
  have:=Array.getElem?_eq_none_iff.mp e;rw[Ms,e]
  symm
  rw[oH,aW,Va]
  lia
 |some v=>
  obtain⟨x,e1,e2⟩:=h2 i v e;rw[Ms,e];show some v=((bQ w S ep (aK items hk L)).map (·.2))[i]?;rw[gK,e1,<-e2];rfl
theorem zdL{ep:Nat}{t:SetTable}{Q:List Value->Shared->Prop}(hh:A.handled=none)(ho:s.heap.get? S=some (pX items hk L ep t))(tb:Tab (hk) t L)(cap:Bk t.mask L.length)(bR:t.plain=true)(jh:t.led=gR w)
  (h:∀h' tk,(∀b o,s.heap.get? b=some o->h'.get? b=some o)->Q ((bQ w S ep (aK items hk L)).map (·.2)) {s with heap:=h',toks:=tk}):wpAny (model prog w) A (collect (.ref S)) Q E s:=by
 have bW:S<s.heap.objs.size:=bC ho;have aae:(100:Nat)<=sizeLine:=by decide
 have hn:L.length<=sizeLine:=by rcases cap with c|c|c<;>lia
 unfold collect;refine au (wpAny_runValue (zB entry_proto_collect' ?_));show wpAny _ _ (do again (.builtin "list.__iadd__" ⟨[<-newList [],.ref S],[]⟩)) _ _ s;refine au (wpAny_newList (aN ⟨Code.quiet_builtin _ Bd,zB entry_list_iadd' ?_⟩));show wpAny _ _ (Builtin.List.listExtendWith (.ref s.heap.objs.size) (.ref S) (.ref s.heap.objs.size)) _ _ {s with heap:=s.heap.push (seqObj "list" #[] 0)};have lN:(s.heap.push (seqObj "list" #[] 0)).get? S=some (pX items hk L ep t):=cF _ ho;unfold Builtin.List.listExtendWith;refine au (FW (T:="set") ⟨_,lN,rfl⟩ ?_);have h1:Builtin.List.listSameRef (.ref s.heap.objs.size) (.ref S)=false:=by simp[Builtin.List.listSameRef,fB bW]
 have h2:(Value.type "set"==Value.type "list")=false:=by decide
 have h3:(Value.type "set"==Value.type "tuple")=false:=by decide
 simp only[h1,h2,h3,Nb,mC,lq];refine au (zfg lN tb cap bR ?_);refine au (k_ (zh4 (cF _ lN) ?_));refine wpAny_ite_split (λ_=>?_) (λhab=>absurd Bd hab);refine au (wZ ?_);refine au ?_;have hS₁:((s.heap.push (seqObj "list" #[] 0)).push (Bl S 0 0 L.length ep)).get? s.heap.objs.size=some (seqObj "list" #[] 0):=cF _ (fj _ rfl);show wpAny _ _ (updateSeq s.heap.objs.size (·.push .none) >>= λ_=>updateSeq s.heap.objs.size (·.pop)) _ _ _;refine au (FQ hS₁ rfl ?_);have hS₂:=qe (Obj.mapSeq (·.push Value.none)) hS₁ rfl;refine FQ (hz:=by seq_fits) hS₂ rfl ?_;have hS₃:=qe (Obj.mapSeq (·.pop)) hS₂ rfl;have hI:(s.heap.push (seqObj "list" #[] 0)).objs.size=s.heap.objs.size+1:=by rw[size_push']
 refine aN ⟨HB Hs _,?_⟩;have oth:∀b o,b≠s.heap.objs.size->(s.heap.push (seqObj "list" #[] 0)).get? b=some o->((((s.heap.push (seqObj "list" #[] 0)).push (Bl S 0 0 L.length ep)).update s.heap.objs.size (Obj.mapSeq (·.push Value.none))).update s.heap.objs.size (Obj.mapSeq (·.pop))).get? b=some o:=λb o hb e=>
  (qd _ _ (Ne.symm hb)).trans ((qd _ _ (Ne.symm hb)).trans (cF _ e))
 have hne:S≠(s.heap.push (seqObj "list" #[] 0)).objs.size:=by rw[hI];exact cR (kO bW)
 have Vb:s.heap.objs.size≠(s.heap.push (seqObj "list" #[] 0)).objs.size:=by rw[hI];lia
 refine codeAny_extend_loopS ((zgH (items:=items) (ep:=ep) (by simp[hh]) (s.heap.push (seqObj "list" #[] 0)).objs.size hne tb cap bR jh).toS) hn s.heap.objs.size (by simp only[bZ,rC,qm,not_or];exact⟨Vb,fB bW⟩) _ L.length 0 _ #[] _ rfl (jm _)
  ⟨jm _,oth S _ (cR bW) lN,0,(qd _ _ Vb).trans ((qd _ _ Vb).trans (fj _ rfl)),λ_=>rfl⟩ hS₃ (ItemsOf.nil _) λs' acc' c' hm hS' Vc=>?_
 have ea:=zfi Vc;rw[Moved.eq_with hm];show wpAny _ _ _ _ _ _;dsimp only;refine au (wpAny_load hS' ?_);dsimp only;refine aN ?_;rw[ea];refine h s'.heap s'.toks λb o e=>?_;have hb:b<s.heap.objs.size:=bC e;refine hm.heap b o ?_ (oth b o (cR hb) (cF _ e));simp only[bZ,rC,qm,not_or];exact⟨cR hb,by rw[hI];exact cR (kO hb)⟩
theorem zf5{u:Value}{vs:List Value}{κ:SortKind}{lt:Nat->Nat->Option Bool}{p:Array Nat}{Q:Value->Shared->Prop}(Vd:∀(Q':List Value->Shared->Prop) (E':Value->Shared->Prop),(∀h' tk,(∀b o,s.heap.get? b=some o->h'.get? b=some o)->Q' vs {s with heap:=h',toks:=tk})->wpAny (model prog w) A.in1 (collect u) Q' E' s)(rJ:vs.length<64)
  (hk:2<=vs.length->∀(s':Shared) (Q:SortKind->Shared->Prop) E,(∀b o,s.heap.get? b=some o->s'.heap.get? b=some o)->Q κ s'->wpAny (model prog w) A.in1.in1 (keyKind' vs.toArray) Q E s')
  (bW:2<=vs.length->∀(s':Shared) i j b C,(∀b o,s.heap.get? b=some o->s'.heap.get? b=some o)->lt i j=some b->C b s'->kas_ask prog w A.in1.in1 κ vs i j C s') (hr:2<=vs.length->bD lt (kas_sort vs.length)=some p) (Js:2<=vs.length->p.size=vs.length)
  (h:∀h' tk r e,(∀b o,s.heap.get? b=some o->h'.get? b=some o)->(∀b o,s.heap.get? b=some o->b<r)->h'.get? r=some (seqObj "list" (gD vs p) e)->Q (.ref r) {s with heap:=h',toks:=tk}) :
  wpAny (model prog w) A (call (.builtin "sorted") [u]) Q E s:=by
 refine Calls.call_function_entry kind_sorted plain_sorted entry_sorted (args_sorted1 _) ?_;unfold Builtin.«sorted»;refine au (m:=checkCount "sorted" 1 1 _) (aN ?_);refine au (Vd _ _ λh1 tk jz=>?_);refine au (wpAny_newList ?_ (by rw[sZ];lia));have zQ:(h1.push (seqObj "list" vs.toArray 0)).get? h1.objs.size=some (seqObj "list" vs.toArray 0):=fj _ rfl;have keep:∀b o,s.heap.get? b=some o->(h1.push (seqObj "list" vs.toArray 0)).get? b=some o:=λb o q=>cF _ (jz b o q);have nn:∀b o,s.heap.get? b=some o->b≠h1.objs.size:=λb o e=>cR (bC (jz b o e));refine au (k_ (o_ slot_list_sort ⟨_,zQ,rfl⟩ entry_list_sort (YT (κ:=κ) (lt:=lt) (p:=p) zQ rJ (λh2 s' Q' k q=>hk h2 s' Q' _ (λb o e=>k b o (nn b o e) (keep b o e)) q) (λh2 s' i j b C k e q=>bW h2 s' i j b C (λb o e=>k b o (nn b o e) (keep b o e)) e q) hr Js ⟨_,rfl,?_⟩) (args_list_sort _)));obtain⟨e,he⟩:=sortedHeap_at (out:=gD vs p) zQ;refine aN ⟨_,rfl,h _ tk _ e (λb o q=>?_) (λb o q=>bC (jz b o q)) he⟩;have hb:=jz b o q;rw[sortedHeap_old (nn b o q) (by rw[size_push'];exact kO (bC hb))];exact keep b o q
end
end Ts
namespace Mi
open PySem PySem.Spec PyProof.Rows L2 PySem.W Ts
theorem zfP{α β:Type}{f:α->β}{l m:List β}(h:l.Perm m):∀{L:List α},m=L.map f->∃L':List α,L'.Perm L/\l=L'.map f:=by
 induction h with
 |nil=>intro L e;exact⟨L,.refl _,e⟩
 |cons x _ ih=>
  intro L e;cases L with
  |nil=>cases e
  |cons a L=>
   injection e with e1 e2;obtain⟨L',p,q⟩:=ih e2;exact⟨a::L',p.cons a,by rw[q,e1];rfl⟩
 |swap x y l=>
  intro L e
  match L,e with
  |a::b::L,e=>
   injection e with e1 e2;injection e2 with e2 e3;exact⟨b::a::L,.swap ..,by rw[e1,e2,e3];rfl⟩
 |trans _ _ ih1 ih2=>
  intro L e;obtain⟨L2,p2,q2⟩:=ih2 e;obtain⟨L1,p1,q1⟩:=ih1 q2;exact⟨L1,p1.trans p2,q1⟩
theorem zh0:bootBuiltins "set"=some (.type "set"):=by decide +kernel
end Mi
namespace Mi
open PySem PySem.Spec PyProof.Rows L2 PySem.W
section
variable {X:Cx}{cA:Cl}{ao:Nat->Nat->Bool}{aj:Bool}{F:Fn}{EX:XS}{a b:Expr}{A B:E}{pos p:Pos}{x:Str}{e:Expr}{es:List Expr}{Xs:Es}
noncomputable def yQ(sc:Scope)(x:Str):Bool:=match sc.names.lookup x with
 |some k=>D_ k
 |none=>false
noncomputable def O8(sc:Scope)(x:Str):Bool:=match sc.names.lookup x with
 |some .globalImplicit=>true
 |_=>false
theorem zhd{sc:Scope}{x:Str}(h:yQ sc x=true):∃k,sc.names.lookup x=some k/\D_ k=true:=by
 unfold yQ at h;split at h
 ·rename_i k e;exact⟨k,e,h⟩
 ·cases h
theorem ziQ{sc:Scope}{x:Str}(h:O8 sc x=true):sc.names.lookup x=some .globalImplicit:=by
 unfold O8 at h;split at h
 ·assumption
 ·cases h
theorem gk(h:O8 X.env.scope x=true:=by kernel_rfl):JK X x .globalImplicit:=⟨ziQ h⟩
theorem jl(h:(match X.env.scope.names.lookup x with|some .local=>true|_=>false)=true:=by kernel_rfl):JK X x .local:=by
 split at h
 ·exact⟨by assumption⟩
 ·cases h
theorem jc(h:(match X.env.scope.names.lookup x with|some .cell=>true|_=>false)=true:=by kernel_rfl):JK X x .cell:=by
 split at h
 ·exact⟨by assumption⟩
 ·cases h
theorem sS{scope:Scope}{cl:List (Str×Addr)}{N:List Str}{Cc:Addr}{s3:Shared}{H3:Hp}{fp:List Addr}{ak:List (Addr×Obj)}(h:O8 scope x=true:=by kernel_rfl):JK (X.blk scope cl N Cc s3 H3 fp ak) x .globalImplicit:=ZX (ziQ h) rfl
theorem gv(i:Nat)(h:(decide (X.N[i]?=some x)&&yQ X.env.scope x&&okN x)=true:=by kernel_rfl):JE X cA ao aj F EX (.Name x pos) (.v i):=by
 rw[gB,gB] at h;obtain⟨k,e,hv⟩:=zhd h.1.2;exact Z0 i (lG h.1.1) ⟨e⟩ hv h.2
theorem bY(i:Nat){scope:Scope}{cl:List (Str×Addr)}{N:List Str}{Cc:Addr}{s3:Shared}{H3:Hp}{fp:List Addr}{ak:List (Addr×Obj)}(h:(decide (N[i]?=some x)&&yQ scope x&&okN x)=true:=by kernel_rfl):JE (X.blk scope cl N Cc s3 H3 fp ak) cA ao aj F EX (.Name x pos) (.v i):=by
 rw[gB,gB] at h;obtain⟨k,e,hv⟩:=zhd h.1.2;by_cases hk:k=.free
 ·subst hk;exact zos i (lG h.1.1) e h.2
 ·exact Z0 i (lG h.1.1) (ZX e (by cases k<;>first|rfl|exact absurd rfl hk)) hv h.2
theorem gc{f k:Nat}{cm:Bool}{st:Stmt}{ps:List Str}(Fo:fD X.prog X.w X.K X.mg X.base (lA X.prog X.w) cm k (jE X.K x) (fdOf X.K x st) ps (tO X.K cA (F f)))(D:D3 X.K X.mg x st ps)(hr:cL k X.A)(R:JR X EX)(g:JK X x .globalImplicit)(ha:JA X cA ao aj F EX (e::es) Xs)(h:okN x=true:=by kernel_rfl)
  (rG:cm=true->X.aj=true:=by first|exact λ_=>rfl|exact λz=>nomatch z) (he:aF e=true:=by rfl) (bR:es.all aF=true:=by rfl):JE X cA ao aj F EX (.Call (.Name x p) (e::es) [] pos) (.call f Xs):=
 zl2 f Fo rG hr D.m D.f.kp D.b R g ha h he bR
theorem nd(h:decide X.N.Nodup=true:=by kernel_rfl):X.N.Nodup:=lG h
end
theorem fJ{P:Program}{w:World}{K:W.Frag}{mg:Str->Option Value}{base:Heap}{cA:Cl}{ao:Nat->Nat->Bool}{T:Nat->Option Df}{x:Str}{st:Stmt}{ps:List Str}{k n:Nat}{cm:Bool}{df:Df}(D:D3 K mg x st ps)(N:List Str)(hT:T n=some df)
  (hb:∀(cdv:Value) (A:Around) (outer:List Env) (s:Shared) (H:Hp) (E:XK),cL k (A.deeper (envOfC x (aA st) s.heap.objs.size (jE K x) cdv))->
   JB (i_ (lA P w) P w K mg base N x (aA st) (jE K x) cdv A outer s H E cm) cA ao cm (λc=>call ao T k c) (λ_ C dx H'=>E C dx H') (bx st) df.body) (S:fZ N ps (aA st):=by exact⟨rfl,rfl,rfl,dk,rfl,dk,dk⟩) (hp:df.jB=ps.length:=by rfl) (hm:df.many=N.length:=by rfl) :
  fD P w K mg base (lA P w) cm (k+1) (jE K x) (fdOf K x st) ps (tO K cA (call ao T (k+1) cm n)):=zmj D.f S hT hp hm hb
end Mi
namespace L2
open PySem PySem.Spec PyProof.Rows
abbrev oG(h:Heap)(z TI TO r:Addr)(k:Bool):Prop:=h.get? z=some {cls:=.type "zip",dict:=none,data:=.fields #[rawInt r,.bool k,.bool false,.ref TI,.ref TO],slots:=#[]}
section
variable {prog:Program}{w:World}{A:Around}{E:Value->Shared->Prop}{s:Shared}{z TI TO i1 i2 l1 l2 r:Addr}{st1 st2:Nat->Heap->Prop}{xs ys:Array Value}{k:Nat}{a b:Value}{kk:Bool}
theorem alive{a:Addr}{Q:Option Obj->Shared->Prop}(h:Q (s.heap.get? a) s):wpAny (model prog w) A (loadIfAlive a) Q E s:=λ_ _ _=>h
theorem zeu{o:Obj}{Q:Bool->Shared->Prop}(hz:oG s.heap z TI TO r kk)(hr:s.heap.get? r=some o)(q:∀h',oG h' z TI TO r true->Heap.SameBut z s.heap h'->Q false {s with heap:=h'}):wpAny (model prog w) A (Builtin.SmallTypes.ownedTupleIsFree (.ref z)) Q E s:=by
 unfold Builtin.SmallTypes.ownedTupleIsFree;refine au (jA hz rfl (x:=rawInt r) rfl ?_);show wpAny _ _ (loadIfAlive r >>= _) _ _ _;refine au (alive ?_);rw[hr];simp only[Option.isNone_some,mC,lq];refine au (jA hz rfl (x:=.bool kk) rfl ?_);cases kk with
 |true=>
  rw[if_neg Dc];exact aN (q s.heap hz (Heap.SameBut.refl _ _))
 |false=>
  rw[if_pos Dc];exact au (BW hz J0 λh' z' s'=>aN (q h' z' s'))
theorem zfO{o:Obj}{x y:Value}{Q:Option Value->Shared->Prop}(N1:iU prog w i1 l1 st1 xs)(N2:iU prog w i2 l2 st2 ys)(D:eG z TI TO i1 i2 l1 l2)(hz:oG s.heap z TI TO r kk)(hr:s.heap.get? r=some o)(wj:IsPair s.heap TI (.ref i1) (.ref i2))
  (h1:st1 k s.heap) (h2:st2 k s.heap) (hx:xs[k]?=some x) (hy:ys[k]?=some y)
  (q:∀h',oG h' z TI TO r true->st1 (k+1) h'->st2 (k+1) h'->IsPair h' s.heap.objs.size x y->h'.objs.size=s.heap.objs.size+1->(∀c o,c≠z->c≠i1->c≠i2->s.heap.get? c=some o->h'.get? c=some o)->Q (some (.ref s.heap.objs.size)) {s with heap:=h'}) :
  wpAny (model prog w) A (pyNext (.ref z)) Q E s:=by
 obtain⟨⟨z1,z2,z3,z4,z5,z6⟩,⟨t1,t2,t3,t4,t5⟩,⟨j1,j2,j3,j4,j5,j6,j7⟩⟩:=D;have hT:s.TypeIs (.ref z) "zip":=⟨_,hz,rfl⟩;unfold pyNext;refine au (zJ (vO (name:=Str.ofString "__next__") hT wY (o_ wY hT M4 ?_ (Mz _))));show wpAny _ A.in1 (field (.ref z) 2 >>= _) _ _ s;refine au (jA hz rfl (x:=.bool false) rfl ?_);show wpAny _ A.in1 (field (.ref z) 3 >>= _) _ _ s;refine au (jA hz rfl (x:=.ref TI) rfl (au (uc wj rfl ?_)));show wpAny _ A.in1 (Builtin.SmallTypes.ownedTupleIsFree (.ref z) >>= _) _ _ s;refine au (zeu hz hr λha za sa=>?_);simp only[mC,lq];refine au ?_;rw[<-Array.forIn_toList];simp only[Ca,FT];refine au (au (k_ ?_));show wpAny _ A.in1 (Builtin.SmallTypes.nextOf (.ref i1) >>= _) _ _ _;refine au (N1.item _ _ {s with heap:=ha} k x _ (N1.keep _ _ _ h1 λc o hc e=>sa.extBut c o (by rcases hc with rfl|rfl;exact z3.symm;exact z5.symm) e) hx λhb Jt sb=>aN (aN ?_));dsimp only;refine au (au (k_ ?_));show wpAny _ A.in1 (Builtin.SmallTypes.nextOf (.ref i2) >>= _) _ _ _;have k2:st2 k hb:=N2.keep _ _ _ h2 λc o iY e=>by
  rcases iY with rfl|rfl
  ·exact sb.extBut _ _ j3.symm (sa.extBut _ _ z4.symm e)
  ·exact sb.extBut _ _ j5.symm (sa.extBut _ _ z6.symm e)
 refine au (N2.item _ _ {s with heap:=hb} k y _ k2 hy λhd R9 sd=>aN (aN (aN ?_)));dsimp only;refine au (wpAny_newTuple ?_ (by show 2<=sizeLine;decide));have size:hd.objs.size=s.heap.objs.size:=by rw[sd.1,sb.1,sa.1]
 have zd:oG hd z TI TO r true:=sd.extBut _ _ z4 (sb.extBut _ _ z3 za);have kept:∀c o,c≠z->c≠i1->c≠i2->s.heap.get? c=some o->hd.get? c=some o:=λc o c1 c3 c4 e=>sd.extBut _ _ c4 (sb.extBut _ _ c3 (sa.extBut _ _ c1 e));have up:∀c o,hd.get? c=some o->(hd.push {cls:=.type "tuple",data:=.seq #[x,y]}).get? c=some o:=λc o e=>cF _ e;have tn:IsPair (hd.push {cls:=.type "tuple",data:=.seq #[x,y]}) hd.objs.size x y:=fj _ rfl;have sz:(hd.push {cls:=.type "tuple",data:=.seq #[x,y]}).objs.size=hd.objs.size+1:=qj ..;refine aN ⟨_,rfl,aN ?_⟩;rw[size] at tn sz;show Q (some (.ref hd.objs.size)) _;rw[size];exact q _ (up _ _ zd) (N1.keep _ _ _ Jt λc o iY e=>up c o (sd.extBut _ _ (by rcases iY with rfl|rfl;exact j3;exact j6.symm) e)) (N2.keep _ _ _ R9 λc o _ e=>up c o e) tn sz λc o c1 c3 c4 e=>up c o (kept c o c1 c3 c4 e)
theorem zh5{o:Obj}{Q:Option Value->Shared->Prop}(hn:A.handled=none)(N1:iU prog w i1 l1 st1 xs)(N2:iU prog w i2 l2 st2 ys)(D:eG z TI TO i1 i2 l1 l2)(hz:oG s.heap z TI TO r kk)(hr:s.heap.get? r=some o)(wj:IsPair s.heap TI (.ref i1) (.ref i2))
  (h1:st1 k s.heap) (h2:st2 k s.heap) (hx:xs[k]?=none\/ys[k]?=none) (q:∀h',(∀c o,c≠z->c≠i1->c≠i2->s.heap.get? c=some o->h'.get? c=some o)->Q none {s with heap:=h'}):wpAny (model prog w) A (pyNext (.ref z)) Q E s:=by
 obtain⟨⟨z1,z2,z3,z4,z5,z6⟩,⟨t1,t2,t3,t4,t5⟩,⟨j1,j2,j3,j4,j5,j6,j7⟩⟩:=D;have hT:s.TypeIs (.ref z) "zip":=⟨_,hz,rfl⟩;have stop:∀(h':Heap) (e:Addr),(∀c o,c≠z->c≠i1->c≠i2->s.heap.get? c=some o->h'.get? c=some o)->(∃o,h'.get? e=some o/\o.cls=.type "StopIteration")->
   wpAny (model prog w) A (do if <-isInstance (.ref e) (.type "StopIteration") then pure none else throw (.ref e):Sem (Option Value)) Q E {s with heap:=h'}:=λh' e kp ⟨o,ho,hc⟩=>
  au (Hw (T:="StopIteration") (b:=true) ⟨o,ho,hc⟩ isSubtype_stop (aN (q h' kp)))
 unfold pyNext;refine au (zJ (vO (name:=Str.ofString "__next__") hT wY (o_ wY hT M4 ?_ (Mz _))));show wpAny _ A.in1 (field (.ref z) 2 >>= _) _ _ s;refine au (jA hz rfl (x:=.bool false) rfl ?_);show wpAny _ A.in1 (field (.ref z) 3 >>= _) _ _ s;refine au (jA hz rfl (x:=.ref TI) rfl (au (uc wj rfl ?_)));show wpAny _ A.in1 (Builtin.SmallTypes.ownedTupleIsFree (.ref z) >>= _) _ _ s;refine au (zeu hz hr λha za sa=>?_);simp only[mC,lq];refine au ?_;rw[<-Array.forIn_toList];simp only[Ca,FT];refine au (au (k_ ?_));show wpAny _ A.in1 (Builtin.SmallTypes.nextOf (.ref i1) >>= _) _ _ _;have ka:st1 k ha:=N1.keep _ _ _ h1 λc o hc e=>sa.extBut c o (by rcases hc with rfl|rfl;exact z3.symm;exact z5.symm) e;cases ex:xs[k]? with
 |none=>exact au (N1.fin _ _ {s with heap:=ha} k _ hn ka ex λhb e sb se=>stop hb e (λc o c1 c3 c4 y=>sb _ _ c3 (sa.extBut _ _ c1 y)) se)
 |some x=>
  have ey:ys[k]?=none:=by
   rcases hx with y|y
   ·rw[ex] at y;cases y
   ·exact y
  refine au (N1.item _ _ {s with heap:=ha} k x _ ka ex λhb Jt sb=>aN (aN ?_));dsimp only;refine au (au (k_ ?_));show wpAny _ A.in1 (Builtin.SmallTypes.nextOf (.ref i2) >>= _) _ _ _;have k2:st2 k hb:=N2.keep _ _ _ h2 λc o iY e=>by
   rcases iY with rfl|rfl
   ·exact sb.extBut _ _ j3.symm (sa.extBut _ _ z4.symm e)
   ·exact sb.extBut _ _ j5.symm (sa.extBut _ _ z6.symm e)
  exact au (N2.fin _ _ {s with heap:=hb} k _ hn k2 ey λhd e sd se=>stop hd e (λc o c1 c3 c4 y=>sd _ _ c4 (sb.extBut _ _ c3 (sa.extBut _ _ c1 y))) se)
structure ZSt(h:Heap)(z TI TO i1 i2 S:Addr)(st1 st2:Nat->Heap->Prop)(xs ys acc:Array Value)(n0 i:Nat):Prop where
 zp:(i=0/\IsZip h z TI TO .none/\∃a b,IsPair h TO a b)\/∃(r:Addr) (o:Obj) (kk:Bool),n0<=r/\r≠S/\oG h z TI TO r kk/\h.get? r=some o
 ti:IsPair h TI (.ref i1) (.ref i2)
 s1:st1 i h
 s2:st2 i h
 sz:acc.size=i
 its:∀(j:Nat) (v:Value),acc[j]?=some v->∃(a:Addr) (x y:Value),v=Value.ref a/\n0<=a/\a≠S/\xs[j]?=some x/\ys[j]?=some y/\IsPair h a x y
 inj:∀(j j':Nat) (v:Value),acc[j]?=some v->acc[j']?=some v->j=j'
theorem zhE{R:Result->Shared->Prop}{res:Value}{S:Addr}{n0:Nat}(hh:A.in1.handled=none)(N1:iU prog w i1 l1 st1 xs)(N2:iU prog w i2 l2 st2 ys)(D:eG z TI TO i1 i2 l1 l2)(hS:S≠z/\S≠TI/\S≠TO/\S≠i1/\S≠i2/\S≠l1/\S≠l2)(hn0:z<n0/\TI<n0/\TO<n0/\i1<n0/\i2<n0/\l1<n0/\l2<n0)(hsm:xs.size<=65536) :
  ∀(k i:Nat) (s:Shared) (acc:Array Value) (c:Nat),min xs.size ys.size-i=k->i<=min xs.size ys.size->n0<=s.heap.objs.size->s.heap.get? S=some {cls:=.type "list",dict:=none,data:=.seq acc c,slots:=#[]}->ZSt s.heap z TI TO i1 i2 S st1 st2 xs ys acc n0 i->
   (∀h' acc' c',(∀b o,b<n0->b≠S->b≠z->b≠TO->b≠i1->b≠i2->s.heap.get? b=some o->h'.get? b=some o)->h'.get? S=some {cls:=.type "list",dict:=none,data:=.seq acc' c',slots:=#[]}->acc'.size=min xs.size ys.size->(∀(j:Nat) (v:Value),acc'[j]?=some v->∃(a:Addr) (x y:Value),v=Value.ref a/\n0<=a/\a≠S/\xs[j]?=some x/\ys[j]?=some y/\IsPair h' a x y)->(∀(j j':Nat) (v:Value),acc'[j]?=some v->acc'[j']?=some v->j=j')->R (.ok (.ret res)) {s with heap:=h'})->
   codeAny (model prog w) A (.builtin "list.extend.loop" ⟨[.ref S,.ref z,res],[]⟩) R s:=by
 obtain⟨⟨z1,z2,z3,z4,z5,z6⟩,⟨t1,t2,t3,t4,t5⟩,⟨j1,j2,j3,j4,j5,j6,j7⟩⟩:=id D;obtain⟨c1,c2,c3,c4,c5,c6,c7⟩:=hS;obtain⟨d1,d2,d3,d4,d5,d6,d7⟩:=hn0;have vJ:(65536:Nat)<=sizeLine:=by decide
 intro k
 induction k with
 |zero=>
  intro i s acc c hk hi hz hL st hR;obtain rfl:i=min xs.size ys.size:=by lia
  have hx:xs[min xs.size ys.size]?=none\/ys[min xs.size ys.size]?=none:=by
   rcases Nat.le_total xs.size ys.size with y|y
   ·exact .inl (by rw[Mp];lia)
   ·exact .inr (by rw[Mp];lia)
  refine zB F.entry_extend_loop ?_;rw[Hq Hs _];show wpAny _ A.in1 (pyNext (.ref z) >>= _) _ _ s;refine au ?_;have fin:∀h',(∀c o,c≠z->c≠TO->c≠i1->c≠i2->s.heap.get? c=some o->h'.get? c=some o)->R (.ok (.ret res)) {s with heap:=h'}:=λh' kp=>
   hR h' acc c (λb o _ _ b1 b2 b3 b4 e=>kp b o b1 b2 b3 b4 e) (kp S _ c1 c3 c4 c5 hL) st.sz (λj v e=>by
    obtain⟨a,x,y,r1,r2,r3,r4,r5,r6⟩:=st.its j v e;exact⟨a,x,y,r1,r2,r3,r4,r5,kp a _ (fB (dh d1 r2)) (fB (dh d3 r2)) (fB (dh d4 r2)) (fB (dh d5 r2)) r6⟩) st.inj
  rcases st.zp with ⟨_,hz,a,b,tK⟩|⟨r,o,kk,r1,r2,r3,r4⟩
  ·exact Y0 hh N1 N2 D hz st.ti tK st.s1 st.s2 hx λh' kp=>aN (fin h' kp)
  ·exact zh5 hh N1 N2 D r3 r4 st.ti st.s1 st.s2 hx λh' kp=>aN (fin h' λc o e1 _ e3 e4 e=>kp c o e1 e3 e4 e)
 |succ k ih=>
  intro i s acc c hk hi hz hL st hR;have lx:i<xs.size:=by lia
  have ly:i<ys.size:=by lia
  have ex:xs[i]?=some xs[i]:=zm lx;have ey:ys[i]?=some ys[i]:=zm ly;refine zB F.entry_extend_loop ?_;rw[Hq Hs _];show wpAny _ A.in1 (pyNext (.ref z) >>= _) _ _ s;refine au ?_;have EY:S<s.heap.objs.size:=bC hL;have step:∀h' (kp:∀c o,c≠z->c≠TO->c≠i1->c≠i2->s.heap.get? c=some o->h'.get? c=some o),st1 (i+1) h'->st2 (i+1) h'->IsPair h' s.heap.objs.size xs[i] ys[i]->h'.objs.size=s.heap.objs.size+1->(∃(r:Addr) (o:Obj) (kk:Bool),n0<=r/\r≠S/\oG h' z TI TO r kk/\h'.get? r=some o)->
    wpAny (model prog w) A.in1 (updateSeq S (·.push (.ref s.heap.objs.size)) >>= λ_=>again (.builtin "list.extend.loop" ⟨[.ref S,.ref z,res],[]⟩)) (λfin s'=>match fin with|.done f=>R (.ok f) s'|.again c'=>c'.quiet=true/\codeAny (model prog w) A c' R s') (λe s'=>R (.error e) s') {s with heap:=h'}:=λh' kp e1 e2 tn sz zq=>by
   have hL':=kp S _ c1 c3 c4 c5 hL;have Lf:acc.size=i:=st.sz;refine au (FQ hL' rfl ?_ (by rw[Lf];lia) (by show (acc.push _).size<=sizeLine+1;rw[Array.size_push,Lf];lia));have oth:∀b o,b≠S->h'.get? b=some o->(h'.update S (Obj.mapSeq (·.push (.ref s.heap.objs.size)))).get? b=some o:=λb o hb e=>(qd _ _ (Ne.symm hb)).trans e;have nS:∀{j:Nat} {v:Value},acc[j]?=some v->∃(a:Addr) (x y:Value),v=Value.ref a/\n0<=a/\a≠S/\xs[j]?=some x/\ys[j]?=some y/\IsPair (h'.update S (Obj.mapSeq (·.push (.ref s.heap.objs.size)))) a x y:=λ{j v} e=>by
    obtain⟨a,x,y,r1,r2,r3,r4,r5,r6⟩:=st.its j v e;exact⟨a,x,y,r1,r2,r3,r4,r5,oth a _ r3 (kp a _ (fB (dh d1 r2)) (fB (dh d3 r2)) (fB (dh d4 r2)) (fB (dh d5 r2)) r6)⟩
   refine aN ⟨HB Hs _,ih (i+1) _ (acc.push (.ref s.heap.objs.size)) _ gV gV (by show n0<=(h'.update S _).objs.size;rw[(t_ h' S _).1,sz];lia) (qe _ hL' rfl) ⟨?_,oth _ _ c2.symm (kp _ _ z1.symm t1.symm j1 j2 st.ti),N1.keep _ _ _ e1 λb o hb e=>oth b o (by rcases hb with rfl|rfl;exact c4.symm;exact c6.symm) e,N2.keep _ _ _ e2 λb o hb e=>oth b o (by rcases hb with rfl|rfl;exact c5.symm;exact c7.symm) e,by rw[Array.size_push,Lf],λj v e=>?_,λj j' v e e'=>?_⟩ λh'' acc' c' kp' Vf iw hit lZ=>?_⟩
   ·obtain⟨r,o,kk,r1,r2,r3,r4⟩:=zq;exact .inr ⟨r,o,kk,r1,r2,oth _ _ c1.symm r3,oth _ _ r2 r4⟩
   ·rw[Array.getElem?_push] at e;split at e
    ·rename_i hj;cases e;exact⟨_,_,_,rfl,hz,fB EY,by rw[hj,Lf];exact ex,by rw[hj,Lf];exact ey,oth _ _ (fB EY) tn⟩
    ·exact nS e
   ·have new:∀(m:Nat),acc[m]?≠some (.ref s.heap.objs.size):=λm q=>by
     obtain⟨a,x,y,r1,r2,r3,r4,r5,r6⟩:=st.its m _ q;cases r1;exact mD _ (bC r6)
    rw[Array.getElem?_push] at e e';split at e<;>split at e'
    ·lia
    ·cases e;exact absurd e' (new j')
    ·cases e';exact absurd e (new j)
    ·exact st.inj j j' v e e'
   ·exact hR h'' acc' c' (λb o q1 q2 q3 q4 q5 q6 e=>kp' b o q1 q2 q3 q4 q5 q6 (oth b o q2 (kp b o q3 q4 q5 q6 e))) Vf iw hit lZ
  rcases st.zp with ⟨_,hzz,a,b,tK⟩|⟨r,o,kk,r1,r2,r3,r4⟩
  ·exact YZ N1 N2 D hzz st.ti tK st.s1 st.s2 ex ey λh' b1 b2 b3 b4 b5 b6 kp=>step h' kp b3 b4 b5 b6 ⟨s.heap.objs.size,_,false,hz,fB EY,b1,b5⟩
  ·exact zfO N1 N2 D r3 r4 st.ti st.s1 st.s2 ex ey λh' b1 b3 b4 b5 b6 kp=>step h' (λc o e1 _ e3 e4 e=>kp c o e1 e3 e4 e) b3 b4 b5 b6 ⟨r,o,true,r1,r2,b1,kp r o (fB (dh d1 r1)) (fB (dh d4 r1)) (fB (dh d5 r1)) r4⟩
end
theorem zfn:typeLookup (.type "zip") "__len__"=pure none:=by rw[M_,Mr];kernel_rfl
theorem zdI:typeLookup (.type "zip") "__length_hint__"=pure none:=by rw[M_,Mr];kernel_rfl
section
variable {prog:Program}{w:World}{A:Around}{E:Value->Shared->Prop}{s:Shared}{z TI TO i1 i2 l1 l2:Addr}{xs ys:Array Value}{k1 k2:Bool}
theorem zh6{f0:Value}{Q:Value->Shared->Prop}(hz:IsZip s.heap z TI TO f0)(q:Q (.ref z) s):wpAny (model prog w) A (pyIter (.ref z)) Q E s:=by
 have hT:s.TypeIs (.ref z) "zip":=⟨_,hz,rfl⟩;refine wpAny_pyIter_slot hT F.slot_zip_iter (o_ F.slot_zip_iter hT F.entry_zip_iter ?_ (F.args_zip_iter_1 _));show wpAny _ _ (ret (.ref _)) _ _ s;exact aN ⟨_,rfl,"zip",_,hT,wY.lookup,q⟩
theorem zcO{Q:Value->Shared->Prop}(hh:A.handled=none)(D:eG z TI TO i1 i2 l1 l2)(hz:IsZip s.heap z TI TO .none)(wj:IsPair s.heap TI (.ref i1) (.ref i2))(tK:∃a b,IsPair s.heap TO a b)(h1:Rk k1 i1 l1 0 s.heap)(h2:Rk k2 i2 l2 0 s.heap)(c1:Ck k1 s.heap l1 xs)(c2:Ck k2 s.heap l2 ys)(hsm:xs.size<=65536)
  (hQ:∀h' acc c,(∀b o,b≠z->b≠TO->b≠i1->b≠i2->s.heap.get? b=some o->h'.get? b=some o)->h'.get? s.heap.objs.size=some {cls:=.type "list",dict:=none,data:=.seq acc c,slots:=#[]}->acc.size=min xs.size ys.size->
   (∀(j:Nat) (v:Value),acc[j]?=some v->∃(a:Addr) (x y:Value),v=Value.ref a/\s.heap.objs.size<a/\xs[j]?=some x/\ys[j]?=some y/\IsPair h' a x y)->(∀(j j':Nat) (v:Value),acc[j]?=some v->acc[j']?=some v->j=j')->Q (.ref s.heap.objs.size) {s with heap:=h'}) :
  wpAny (model prog w) A (call (.type "list") [.ref z]) Q E s:=by
 refine callType_codes (Q₁:=λobj s₁=>obj=.ref s.heap.objs.size/\s₁={s with heap:=s.heap.push {cls:=.type "list",data:=.seq #[]}}) F.called_list (F.typeCall_list_1 _) F.entry_list_init
  (code_list_new _ ⟨rfl,rfl⟩) λobj s₁ e₁=>?_
 obtain⟨rfl,rfl⟩:=e₁;have hS:(s.heap.push {cls:=.type "list",data:=.seq #[]}).get? s.heap.objs.size=some {cls:=.type "list",data:=.seq #[]}:=fj _ rfl;refine⟨⟨_,hS,rfl⟩,F.args_list_init_2 _ _,?_⟩;have lt:z<s.heap.objs.size/\TI<s.heap.objs.size/\TO<s.heap.objs.size/\i1<s.heap.objs.size/\i2<s.heap.objs.size/\l1<s.heap.objs.size/\l2<s.heap.objs.size:=by
  obtain⟨a,b,tK⟩:=tK;obtain⟨o1,g1,_⟩:=h1.obj;obtain⟨o2,g2,_⟩:=h2.obj;exact⟨bC hz,bC wj,bC tK,bC g1,bC g2,c1.lt,c2.lt⟩
 obtain⟨d1,d2,d3,d4,d5,d6,d7⟩:=lt;have Vg:s.heap.objs.size≠z:=fB d1;show wpAny _ _ (do let old <-Builtin.List.listItems (.ref s.heap.objs.size);Builtin.List.listUpdate (.ref s.heap.objs.size) (λ_=>#[]);letGo old.toList.reverse;Builtin.List.listExtendWith (.ref s.heap.objs.size) (.ref z) .none) _ _ _;refine au ?_;unfold Builtin.List.listItems;refine au (uc hS rfl (aN ?_));show wpAny _ _ (updateSeq s.heap.objs.size (λ_=>#[]) >>= λ_=>letGo (#[]:Array Value).toList.reverse >>= λ_=>Builtin.List.listExtendWith (.ref s.heap.objs.size) (.ref z) .none) _ _ _;refine au (FQ hS rfl ?_);have hS2:=qe (Obj.mapSeq (λ_=>(#[]:Array Value))) hS rfl;have oth:∀b o,s.heap.get? b=some o->((s.heap.push {cls:=.type "list",data:=.seq #[]}).update s.heap.objs.size (Obj.mapSeq (λ_=>(#[]:Array Value)))).get? b=some o:=λb o e=>(qd _ _ (fB (bC e))).trans (cF _ e);have Bm:((s.heap.push {cls:=.type "list",data:=.seq #[]}).update s.heap.objs.size (Obj.mapSeq (λ_=>(#[]:Array Value)))).objs.size=s.heap.objs.size+1:=by rw[(t_ _ _ _).1,qj]
 refine au (wpAny_letGo ?_);generalize (s.heap.push {cls:=.type "list",data:=.seq #[]}).update s.heap.objs.size (Obj.mapSeq (λ_=>(#[]:Array Value)))=En at hS2 oth Bm;have hz2:IsZip En z TI TO .none:=oth _ _ hz;have Dl:Shared.TypeIs {s with heap:=En} (.ref z) "zip":=⟨_,hz2,rfl⟩;unfold Builtin.List.listExtendWith;refine au (FW Dl ?_);have e1:Builtin.List.listSameRef (.ref s.heap.objs.size) (.ref z)=false:=by simp[Builtin.List.listSameRef,Vg]
 have e2:(Value.type "zip"==Value.type "list")=false:=by decide
 have e3:(Value.type "zip"==Value.type "tuple")=false:=by decide
 simp only[e1,e2,e3,Nb,mC,lq];refine au (zh6 hz2 (au (k_ ?_)));unfold Builtin.List.listLengthHint;refine au (wpAny_specialOf Dl zfn ?_);show wpAny _ _ (specialOf (Value.ref z) (Str.ofString "__length_hint__") >>= _) _ _ _;refine au (wpAny_specialOf Dl zdI (aN ?_));show wpAny _ _ (rule "list.extend.makes-room" >>= λ_=>Builtin.List.listTouch (.ref s.heap.objs.size) >>= λ_=>again (.builtin "list.extend.loop" ⟨[.ref s.heap.objs.size,.ref z,.none],[]⟩)) _ _ _;refine au (wZ (au ?_));show wpAny _ _ (updateSeq s.heap.objs.size (·.push .none) >>= λ_=>updateSeq s.heap.objs.size (·.pop)) _ _ _;refine au (FQ hS2 rfl ?_);have fW:=qe (Obj.mapSeq (·.push Value.none)) hS2 rfl;refine FQ (hz:=by seq_fits) fW rfl ?_;have lE:=qe (Obj.mapSeq (·.pop)) fW rfl;have nq:∀b o,s.heap.get? b=some o->((En.update s.heap.objs.size (Obj.mapSeq (·.push Value.none))).update s.heap.objs.size (Obj.mapSeq (·.pop))).get? b=some o:=λb o e=>(qd _ _ (fB (bC e))).trans ((qd _ _ (fB (bC e))).trans (oth b o e));have Bo:((En.update s.heap.objs.size (Obj.mapSeq (·.push Value.none))).update s.heap.objs.size (Obj.mapSeq (·.pop))).objs.size=s.heap.objs.size+1:=by rw[(t_ _ _ _).1,(t_ _ _ _).1,Bm]
 refine aN ⟨HB Hs _,?_⟩;generalize (En.update s.heap.objs.size (Obj.mapSeq (·.push Value.none))).update s.heap.objs.size (Obj.mapSeq (·.pop))=hp4 at lE nq Bo;obtain⟨_,_,⟨_,_,_,j4,_,_,j7⟩⟩:=id D;refine zhE (n0:=s.heap.objs.size+1) (by simp[hh]) (iU.of k1 j4.symm) (iU.of k2 j7.symm) D ⟨fB d1,fB d2,fB d3,fB d4,fB d5,fB d6,fB d7⟩ ⟨kO d1,kO d2,kO d3,kO d4,kO d5,kO d6,kO d7⟩ hsm (min xs.size ys.size) 0 _ #[] _ gV (jm _) (Nat.le_of_eq Bo.symm) lE
  ⟨.inl ⟨rfl,nq _ _ hz,let ⟨a,b,e⟩:=tK;⟨a,b,nq _ _ e⟩⟩,nq _ _ wj,⟨h1.keep λo e=>nq _ _ e,c1.keep λo e=>nq _ _ e⟩,⟨h2.keep λo e=>nq _ _ e,c2.keep λo e=>nq _ _ e⟩,rfl,λj v e=>by simp at e,λj j' v e=>by simp at e⟩ λh' acc' c' kp hL iw hit lZ=>?_
 exact⟨rfl,hQ h' acc' c' (λb o b1 b2 b3 b4 e=>kp b o (kO (bC e)) (cR (bC e)) b1 b2 b3 b4 (nq b o e)) hL iw (λj v e=>by
  obtain⟨a,x,y,r1,r2,r3,r4,r5,r6⟩:=hit j v e;exact⟨a,x,y,r1,r2,r4,r5,r6⟩) lZ⟩
end
end L2
namespace Ts
open Mi (rP rQ)
open PySem PySem.SetTable
noncomputable def nu:List Int:=(List.range 36).map (λk:Nat=>(k:Int)-1)++(List.range 35).map λk:Nat=>100000000000000000000+(k:Int)
theorem dI:(nu.all λx=>vI 7 5 22 (hashInt x)&&vI 31 19 20 (hashInt x))=true:=by decide +kernel
theorem dN:(nu.map hashInt).Nodup:=by decide +kernel
theorem zkk{x:Int}(h:rP x=true):x∈nu:=by
 unfold rP at h;rw[Hy] at h;rcases h with h|h
 ·have h:=lG h;refine tY _ (eE.mpr ⟨(x+1).toNat,lJ.mpr gV,?_⟩);show ((x+1).toNat:Int)-1=x
  lia
 ·have h:=lG h;refine jG _ (eE.mpr ⟨(x-100000000000000000000).toNat,lJ.mpr gV,?_⟩);show 100000000000000000000+((x-100000000000000000000).toNat:Int)=x
  lia
theorem zeb{x:Int}(h:x∈nu):iJ 7 5 (hashInt x)/\iJ 31 19 (hashInt x):=by
 have:=iV.mp dI x h;rw[gB] at this;exact⟨zgT Dc this.1,zgT Dc this.2⟩
theorem zj7{x y:Int}(h:x∈nu)(h':y∈nu)(e:hashInt x=hashInt y):x=y:=by
 obtain⟨i,hi,rfl⟩:=BP.mp h;obtain⟨j,hj,rfl⟩:=BP.mp h';have:(nu.map hashInt)[i]'(by rw[aW];exact hi)=(nu.map hashInt)[j]'(by rw[aW];exact hj):=by simpa using e
 have:=gq dN _ _ this;subst this;rfl
noncomputable def isAt(is:List Int)(i:Nat):Int:=is.getD i 0
noncomputable def aP(is:List Int)(i:Nat):Int:=hashInt (isAt is i)
structure Ints(items:List Value)(is:List Int):Prop where
 len:is.length=items.length
 small:is.length<=18
 dom:∀i,i<is.length->isAt is i∈nu
 at':∀i,i<is.length->∃t,items.getD i .none=.int (isAt is i) t
def yR(m n:Nat):Prop:=m=7/\n<=4\/m=31/\n<=18
theorem yR.cap{m n:Nat}(c:yR m n):Bk m n:=c.elim .inl λq=>.inr (.inl q)
structure yS(h:Heap)(S:Addr)(items:List Value)(is:List Int)(L:Ent)(led:Bool):Prop where
 ob:∃ep t,h.get? S=some {cls:=.type "set",dict:=none,data:=.set (aK items (aP is) L).toArray ep t}/\Tab (aP is) t L/\yR t.mask L.length/\t.plain=true/\t.led=led
 idx:∀e∈L,e.2<is.length
def Bp(is:List Int)(L L':Ent)(k:Nat):Prop:=(L'=L/\∃e∈L,isAt is e.2=isAt is k)\/((∀e∈L,isAt is e.2≠isAt is k)/\(L'.map (·.2)).Perm (k::L.map (·.2)))
theorem Vh{hk:Nat->Int}{t:SetTable}{L:Ent}(T:Tab hk t L):(L.map (·.2)).Nodup:=by
 rw[rz,sY];have:=T.asc;unfold gj at this;rw[sY,oY] at this;rw[oY];intro i j hi hj lZ q;have e:=T.inj _ (lH hi) _ (lH hj) (ql hk q);have:=this i j hi hj lZ;rw[e] at this;exact mD _ this
theorem O9{hk:Nat->Int}{t:SetTable}{L:Ent}{n:Nat}(T:Tab hk t L)(hi:∀e∈L,e.2<n):L.length<=n:=by
 have:=bV (m:=List.range n) (Vh T) λx hx=>by
  obtain⟨e,he,rfl⟩:=eE.mp hx;exact lJ.mpr (hi e he)
 rwa [aW,B_] at this
theorem zeY{l:List Nat}{n:Nat}(hn:l.Nodup)(hl:l.length=n)(hi:∀i∈l,i<n):l.Perm (List.range n):=by
 refine(List.perm_ext_iff_of_nodup hn List.nodup_range).mpr λi=>⟨λh=>lJ.mpr (hi i h),λh=>?_⟩;by_cases z:i∈l
 ·exact z
 ·have:=bV (l:=i::l) (m:=List.range n) (pq.mpr ⟨z,hn⟩) λx hx=>by
   rcases bZ.mp hx with rfl|hx
   ·exact h
   ·exact lJ.mpr (hi x hx)
  rw[fu,B_] at this
  lia
theorem zi2{t:SetTable}{L:Ent}{h:Int}{c:Nat}(hp:t.place=(L.map (·.1)).toArray)(hd:t.dummies=#[])(hs:gj L)(hw:Wide t.mask c h)(hc:L.length<c) :
  ∃j,t.freeSlot h=some (j,false)/\(∀e∈L,e.1≠j)/\∃pre post,steps t.mask (10*turns t.mask) (start t.mask h)=pre++j::post/\∀x∈pre,∃e∈L,e.1=x:=by
 have g:=zgz (hk:=λ_=>h+1) (hashAt:=λ_=>h+1) (h:=h) hp hd hs (λ_ _ _ _=>rfl) (10*turns t.mask) (start t.mask h) rfl;have e0:t.probe (λ_=>h+1) h (t.probeStart h)=probe.go t (λ_=>h+1) h (10*turns t.mask) (start t.mask h):=rfl;unfold SetTable.freeSlot;rw[e0];cases hg:probe.go t (λ_=>h+1) h (10*turns t.mask) (start t.mask h) with
 |none=>
  rw[hg] at g;obtain⟨l,l1,l2,l3⟩:=hw;have:=few l1 λx hx=>g x (l3 x hx)
  lia
 |some met=>
  rw[hg] at g;cases met with
  |candidate j i next=>
   obtain⟨_,_,_,_,_,a3⟩:=g
   lia
  |empty j d=>
   obtain⟨rfl,a2,pre,post,a3,a4⟩:=g;exact⟨j,rfl,a2,pre,post,a3,λx hx=>let ⟨e,he,q,_⟩:=a4 x hx;⟨e,he,q⟩⟩
section
variable {prog:Program}{w:World}{A:Around}{E:Value->Shared->Prop}{s:Shared}{S:Addr}{items:List Value}{is:List Int}{L:Ent}{led:Bool}
theorem ziK{hk:Nat->Int}{x:Int×Value}(h:x∈(aK items hk L).toArray.toList):∃e∈L,x=(hk e.2,items.getD e.2 .none):=by
 obtain⟨e,he,q⟩:=eE.mp h;exact⟨e,he,q.symm⟩
theorem zil(T:Ints items is)(hi:∀e∈L,e.2<is.length):ElemsOf (intKind prog w) (aK items (aP is) L).toArray.toList:=λx hx=>by
 obtain⟨e,he,rfl⟩:=ziK hx;obtain⟨t,q⟩:=T.at' e.2 (hi e he);dsimp only;rw[q];exact⟨⟨isAt is e.2,intKind_is _ _ _ _,rfl⟩,rfl⟩
theorem zgZ{t:SetTable}{wanted c:Nat}(tb:Tab (aP is) t L)(hw:∀e∈L,iJ (sizeAbove wanted-1) c (aP is e.2))(hc:L.length<=c)(E_:Bk (sizeAbove wanted-1) L.length) :
  ∃L' t',relayAll t (aK items (aP is) L).toArray wanted=((aK items (aP is) L').toArray,t',false)/\t'.mask=sizeAbove wanted-1/\t'.plain=t.plain/\t'.led=t.led/\L'.length=L.length/\(L'.map (·.2)).Perm (L.map (·.2))/\Tab (aP is) t' L':=by
 obtain⟨ord,L',r1,r2,r3,r4,r5,r6,r7⟩:=zig tb hw hc;have e1:(aK items (aP is) L).toArray.map (·.1)=(L.map λe=>aP is e.2).toArray:=by
  unfold aK;rw[List.map_toArray,lM];rfl
 have e2:ord.toArray.filterMap (λi=>(aK items (aP is) L).toArray[i]?)=(aK items (aP is) L').toArray:=by
  have q:aK items (aP is) L'=ord.map λi=>(aP is (L.getD i (0,0)).2,items.getD (L.getD i (0,0)).2 .none):=by
   have:aK items (aP is) L'=(L'.map (·.2)).map λi=>(aP is i,items.getD i .none):=by unfold aK;rw[lM];rfl
   rw[this,r4,lM];rfl
  rw[List.filterMap_toArray,q]
  congr 1
  refine nj λi hi=>?_;have:=r3 i hi;unfold aK;simp[this]
 have hn:ord.Nodup:=by
  have:(L'.map (·.2)).Nodup:=r6.nodup_iff.mpr (Vh tb);rw[r4] at this;exact rz.mpr ((sY.mp (rz.mp this)).imp λz q=>z (by rw[q]))
 have tV:(aK items (aP is) L).toArray.size=L.length:=Ez;have Vi:coversAll ord.toArray (aK items (aP is) L).toArray.size=true:=by
  unfold coversAll;rw[tV];exact List.isPerm_iff.mpr (zeY hn r2 r3)
 have Vj:({t with mask:=sizeAbove wanted-1,moves:=t.movedTo (sizeAbove wanted-1),place:=(L'.map (·.1)).toArray}:SetTable).fits (aK items (aP is) L').toArray.size=true:=GX r7 (by rw[r5];exact E_);refine⟨L',{t with mask:=sizeAbove wanted-1,moves:=t.movedTo (sizeAbove wanted-1),place:=(L'.map (·.1)).toArray},?_,rfl,rfl,rfl,r5,r6,r7⟩;unfold relayAll;rw[e1,r1];dsimp only;rw[e2,Vi,Vj];rfl
theorem ze8{fuel k:Nat}{tk:Tok}{Q:Bool->Shared->Prop}(T:Ints items is)(hS:yS s.heap S items is L led)(hk:k<is.length)(ha:items.getD k .none=.int (isAt is k) tk)
  (h:∀h' L' b,Heap.SameBut S s.heap h'->yS h' S items is L' led->Bp is L L' k->Q b {s with heap:=h'}) :
  wpAny (model prog w) A (setAddHashedIn S (.int (isAt is k) tk) (aP is k) (fuel+1)) Q E s:=by
 obtain⟨⟨ep,t,ho,tb,cap,bR,jh⟩,pY⟩:=id hS;have hf':=GX (items:=items) tb cap.cap;have O_:ElemsOf (intKind prog w) (aK items (aP is) L).toArray.toList:=zil T pY;have tV:(aK items (aP is) L).toArray.size=L.length:=Ez;have Pa:L.length<=18:=jH (O9 tb pY) T.small;have aaf:(100:Nat)<=sizeLine:=by decide
 have aag:(100:Nat)<=scanBound:=by decide
 have Vk:(intKind prog w).is (isAt is k) (.int (isAt is k) tk)=true:=intKind_is _ _ _ _;unfold setAddHashedIn;refine au (MK ho rfl hf' ?_);dsimp only;rw[byScan_of (knd:=intKind prog w) rfl (by rw[tV];lia) O_];simp only[if_true];unfold setAddByScan;refine au (au (wZ (au (wpAny_setScan_of Vk ho rfl hf' O_ ?_))));cases hr:List.findIdx? (λe=>(intKind prog w).is (isAt is k) e.2) (aK items (aP is) L).toArray.toList with
 |some j=>
  dsimp only;obtain⟨hj,Lg,_⟩:=List.findIdx?_eq_some_iff_getElem.mp hr;obtain⟨e,he,q⟩:=ziK (lH hj);rw[q] at Lg;obtain⟨t',q'⟩:=T.at' e.2 (pY e he);dsimp only at Lg;rw[q'] at Lg;have hv:isAt is e.2=isAt is k:=by
   have:(intKind prog w).is (isAt is k) (.int (isAt is e.2) t')=decide (isAt is e.2=isAt is k):=rfl;rw[this] at Lg;exact lG Lg
  exact aN (aN (h s.heap L false (Heap.SameBut.refl S s.heap) hS (.inl ⟨rfl,e,he,hv⟩)))
 |none=>
  dsimp only;have hne:∀e∈L,isAt is e.2≠isAt is k:=λe he q=>by
   have:=List.findIdx?_eq_none_iff.mp hr (aP is e.2,items.getD e.2 .none) (by
    show _∈aK items (aP is) L;exact rA (f:=λe=>(aP is e.2,items.getD e.2 .none)) he)
   obtain⟨t',q'⟩:=T.at' e.2 (pY e he);dsimp only at this;rw[q',q] at this;rw[intKind_is] at this;cases this
  have hnh:∀e∈L,aP is e.2≠aP is k:=λe he q=>hne e he (zj7 (T.dom _ (pY e he)) (T.dom _ hk) q);obtain⟨w7,w31⟩:=zeb (T.dom k hk);have Lh:∃c,Wide t.mask c (aP is k)/\L.length<c:=by
   rcases cap with ⟨c,q⟩|⟨c,q⟩
   ·exact⟨5,by rw[c];exact w7.wide,by lia⟩
   ·exact⟨19,by rw[c];exact w31.wide,by lia⟩
  obtain⟨c,hw,hc⟩:=Lh;obtain⟨j,lO,hj,pre,post,xH,hpre⟩:=zi2 tb.place tb.Ew tb.asc hw hc;obtain⟨La,Lb,e,Li,Vl⟩:=znA tb.place tb.Ew tb.asc hj k;have hlen:(La++(j,k)::Lb).length=L.length+1:=by rw[e];simp;lia
  have tb':=tb;have Lj:=hnh;rw[e] at tb' Lj;have Ey:vG (aP is) (La++Lb) (aP is k) (steps t.mask (10*turns t.mask) (start t.mask (aP is k))) j:=⟨pre,post,xH,λx hx=>let ⟨y,hy,q⟩:=hpre x hx;⟨y,by rw[<-e];exact hy,q,hnh y hy⟩⟩;have Bq:=tb'.add Vl Lj Ey;have m1:({t with place:=((La++(j,k)::Lb).map (·.1)).toArray}:SetTable).mask=t.mask:=rfl;have p1:({t with place:=((La++(j,k)::Lb).map (·.1)).toArray}:SetTable).plain=true:=bR;have l1:({t with place:=((La++(j,k)::Lb).map (·.1)).toArray}:SetTable).led=led:=jh;generalize ({t with place:=((La++(j,k)::Lb).map (·.1)).toArray}:SetTable)=t1 at Li Bq m1 p1 l1;have Ln:insertAt (aK items (aP is) L).toArray La.length (aP is k,.int (isAt is k) tk)=(aK items (aP is) (La++(j,k)::Lb)).toArray:=by
   have q:aK items (aP is) L=(aK items (aP is) La)++(aK items (aP is) Lb):=by rw[e];unfold aK;rw[jN]
   have q2:La.length=(aK items (aP is) La).length:=by unfold aK;rw[aW]
   rw[q,q2,zbg];unfold aK;rw[jN,lK,ha]
  have hsub:∀x∈La++(j,k)::Lb,x.2<is.length:=λx hx=>by
   rcases eU.mp hx with z|z
   ·exact pY x (by rw[e];exact tY _ z)
   ·rcases bZ.mp z with rfl|z
    ·exact hk
    ·exact pY x (by rw[e];exact jG _ z)
  have vK:((La++(j,k)::Lb).map (·.2)).Perm (k::L.map (·.2)):=by
   rw[e,jN,jN,lK];exact List.perm_middle
  generalize La++(j,k)::Lb=L1 at hlen Bq hsub vK Ln;have Vm:L.length+1<=18:=by rw[<-hlen];exact jH (O9 Bq hsub) T.small
  have Fb:(aK items (aP is) L1).toArray.size=L.length+1:=by rw[<-hlen];exact Ez
  have vL:t1.fill=L.length+1:=by
   unfold fill;rw[Bq.place,Bq.Ew,dH,aW,hlen];rfl
  have Lp:t1.fits (aK items (aP is) L1).toArray.size=true:=by
   unfold SetTable.fits;rw[vL,Fb,Bq.place,dH,aW,hlen,wW,lg];refine dM ?_;rw[m1];rcases cap with c|c<;>lia
  have Ji:layNew t (aK items (aP is) L).toArray (aP is k) (.int (isAt is k) tk)=((aK items (aP is) L1).toArray,t1,false,false):=by
   unfold layNew;rw[lO];dsimp only;rw[Li];dsimp only;rw[Ln];unfold SetTable.orStandIn;rw[Lp];rfl
  rw[Ji];dsimp only;refine au (aN ?_);rw[p1];simp only[if_true];rw[hashByValue_scannable 8 rfl,show plainKind (Value.int (isAt is k) tk)=true from rfl];refine au (aN ?_);simp only[if_true];show wpAny _ _ (storeSet S (aK items (aP is) L1).toArray t1 >>= _) _ _ _;refine au (wpAny_storeSet_of ho rfl ?_ (by rw[Fb];lia));have hg1:=zgv (es':=(aK items (aP is) L1).toArray) (t':=t1) ho;have GZ:Heap.SameBut S s.heap (s.heap.update S (Obj.putSet (aK items (aP is) L1).toArray t1)):=t_ s.heap S _;by_cases qX:t1.tooFull=true
  ·have Fe:(L.length+1)*5>=t.mask*3:=by
    have:=qX;unfold tooFull at this;rw[vL,m1] at this;exact lG this
   have h4:L.length=4:=by rcases cap with c|c<;>lia
   have hgr:grown (aK items (aP is) L1).toArray.size=20:=by rw[Fb,h4];rfl
   have iw:sizeAbove 20-1=31:=by decide
   obtain⟨L',t',q1,q2,q3,q4,q5,q6,q7⟩:=zgZ (items:=items) (wanted:=20) (c:=19) Bq (λx hx=>by rw[iw];exact(zeb (T.dom x.2 (hsub x hx))).2) (by rw[hlen];lia) (by rw[iw,hlen];exact .inr (.inl ⟨rfl,by lia⟩));show wpAny _ _ (if (!false&&t1.tooFull)=true then _ else _) _ _ _;rw[qX];simp only[Bool.not_false,Bool.and_self,if_true];rw[hgr,q1];dsimp only;refine au (aN ?_);refine au (wpAny_storeSet_of (s:={s with heap:=s.heap.update S (Obj.putSet (aK items (aP is) L1).toArray t1)}) hg1 rfl ?_ (by rw[Ez,q5,hlen];lia));refine aN (aN ?_);refine h _ L' true (GZ.trans (t_ _ S _)) ⟨⟨_,t',zgv hg1,q7,by rw[q2,q5,hlen,iw];exact .inr ⟨rfl,Vm⟩,q3.trans p1,q4.trans l1⟩,λx hx=>?_⟩ (.inr ⟨hne,q6.trans vK⟩);have:x.2∈L1.map (·.2):=q6.mem_iff.mp (rA hx);obtain⟨y,hy,q⟩:=eE.mp this;rw[<-q];exact hsub y hy
  ·have Fe:¬(L.length+1)*5>=t.mask*3:=by
    have:=qX;unfold tooFull at this;rw[vL,m1] at this;simpa using this
   have E_:yR t1.mask L1.length:=by
    rw[hlen,m1];rcases cap with ⟨c,_⟩|⟨c,_⟩
    ·exact .inl ⟨c,by lia⟩
    ·exact .inr ⟨c,by lia⟩
   show wpAny _ _ (if (!false&&t1.tooFull)=true then _ else _) _ _ _;rw[show t1.tooFull=false by simpa using qX];simp only[Bool.not_false,Bool.and_false,mC,lq];refine aN (aN ?_);exact h _ _ true GZ ⟨⟨_,_,hg1,Bq,E_,p1,l1⟩,hsub⟩ (.inr ⟨hne,vK⟩)
end
end Ts
namespace Ts
open PySem PySem.SetTable
def Lq(is:List Int)(L:Ent)(i:Nat):Prop:=(∀e∈L,e.2<i)/\∀k,k<i->∃e∈L,isAt is e.2=isAt is k
theorem Lq.Vn{is:List Int}{L L':Ent}{i:Nat}(d:Lq is L i)(g:Bp is L L' i):Lq is L' (i+1):=by
 rcases g with ⟨rfl,e,he,q⟩|⟨hn,hp⟩
 ·refine⟨λx hx=>kO (d.1 x hx),λk hk=>?_⟩;rcases zK k i with z|z
  ·exact d.2 k z
  ·obtain rfl:k=i:=by lia
   exact⟨e,he,q⟩
 ·have back:∀k∈i::L.map (·.2),∃e∈L',e.2=k:=λk hk=>eE.mp (hp.mem_iff.mpr hk);refine⟨λx hx=>?_,λk hk=>?_⟩
  ·rcases bZ.mp (hp.mem_iff.mp (rA (f:=(·.2)) hx)) with q|q
   ·lia
   ·obtain⟨y,hy,q⟩:=eE.mp q;have:=d.1 y hy
    lia
  ·rcases zK k i with z|z
   ·obtain⟨e,he,q⟩:=d.2 k z;obtain⟨e',vH,q'⟩:=back e.2 (eF _ (rA he));exact⟨e',vH,by rw[q'];exact q⟩
   ·obtain⟨e',vH,q'⟩:=back i gA;exact⟨e',vH,by rw[q'];congr 1;lia⟩
def yU(h:Heap)(S:Addr)(items:List Value)(is:List Int)(led:Bool)(i:Nat):Prop:=∃L,yS h S items is L led/\Lq is L i
section
variable {prog:Program}{w:World}{A:Around}{R:Result->Shared->Prop}{I:Addr}{fp wr:List Addr}{G:Array GenState->Array GenState->Prop}{n:Nat}{P:Nat->Value->Prop}{St:Nat->Shared->Prop}{S:Addr}{items:List Value}{is:List Int}{led:Bool}
theorem yU.keep{h h':Heap}{i:Nat}(x:yU h S items is led i)(k:∀o,h.get? S=some o->h'.get? S=some o):yU h' S items is led i:=
 let ⟨L,⟨⟨ep,t,ho,r⟩,j⟩,d⟩:=x;⟨L,⟨⟨ep,t,k _ ho,r⟩,j⟩,d⟩
theorem zlW{E:Value->Shared->Prop}{s:Shared}{v:Value}{i:Nat}{Q:Bool->Shared->Prop}(T:Ints items is)(hi:i<is.length)(hv:items.getD i .none=v)(hS:yU s.heap S items is led i)
  (h:∀h' b,Heap.SameBut S s.heap h'->yU h' S items is led (i+1)->Q b {s with heap:=h',toks:=s.toks+1}):wpAny (model prog w) A (setAdd S v) Q E s:=by
 obtain⟨t,q⟩:=T.at' i hi;rw[q] at hv;subst hv;obtain⟨L,hL,hD⟩:=hS;unfold setAdd;refine k_ (au ((intKind prog w).pyHash (k:=isAt is i) (intKind_is _ _ _ _) ?_));unfold setAddHashed;exact k_ (ze8 (fuel:=99999) (k:=i) (s:={s with toks:=s.toks+1}) T hL hi q λh' L' b GZ hS2 hg=>h h' b GZ ⟨L',hS2,hD.Vn hg⟩)
theorem R4(W:WalksS prog w A.in1 I fp wr G n P St)(Pb:S∉fp)(hn:n=is.length)(T:Ints items is)(Fg:∀i v,P i v->items.getD i .none=v) :
  ∀(k i:Nat) (s:Shared),n-i=k->i<=n->St i s->yU s.heap S items is led i->
   (∀s',Moved (S::wr) G s s'->yU s'.heap S items is led n->R (.ok (.ret .none)) s')->
   codeAny (model prog w) A (.builtin "set.update.loop" ⟨[.ref S,.ref I],[]⟩) R s:=by
 have hSw:S∉wr:=λh=>Pb (W.«sub» _ h);have hsub:∀b∈wr,b∈S::wr:=λb hb=>eF _ hb;intro k
 induction k with
 |zero=>
  intro i s hk hi xH hS hR;obtain rfl:i=n:=by lia
  refine zB Xr ?_;rw[Hq Qd _];show wpAny _ A.in1 (pyNext (.ref I) >>= _) _ _ s;refine au (W.done s _ _ xH λs' hm=>?_);show wpAny _ A.in1 (ret Value.none) _ _ s';exact aN (hR s' (hm.mono hsub) (hS.keep λo=>hm.heap S o hSw))
 |succ k ih=>
  intro i s hk hi xH hS hR;have bW:i<n:=by lia
  refine zB Xr ?_;rw[Hq Qd _];show wpAny _ A.in1 (pyNext (.ref I) >>= _) _ _ s;refine au (W.item i s _ _ bW xH λv s' hP Vo hm=>?_);show wpAny _ A.in1 (holding [v] (setAdd S v) >>= _) _ _ s';refine au (k_ (zlW T gV (Fg i v hP) (hS.keep λo=>hm.heap S o hSw) λh' b GZ hS2=>?_));have Pg:∀b o,b≠S->s'.heap.get? b=some o->h'.get? b=some o:=λb o hb e=>by rw[GZ.2 b hb];exact e
  refine aN ⟨HB Qd _,ih (i+1) _ gV bW (W.frame _ s' _ _ Vo (Nat.le_add_right _ _) λb hb o e=>Pg b o (λh=>Pb (by rw[<-h];exact hb)) e) hS2 λs'' Vp Vq=>?_⟩;exact hR s'' (Moved.trans W.gtrans ((hm.mono hsub).then_heap (Nat.le_add_right _ _) λb o hb e=>Pg b o (λh=>hb (by rw[h];exact gA)) e) Vp) Vq
end
section
variable {prog:Program}{w:World}{A:Around}{E:Value->Shared->Prop}{s:Shared}
noncomputable abbrev kI(w:World):Obj:={cls:=.type "set",dict:=none,data:=.set #[] 0 (.fresh 0 0 (gR w))}
theorem zb2{l:Addr}{items:List Value}{is:List Int}{Q:Value->Shared->Prop}(hh:A.handled=none)(hl:s.heap.IsTuple l items.toArray)(hT:Ints items is)
  (h:∀(h':Heap) (tk:Nat),yU h' s.heap.objs.size items is (gR w) is.length->(∀b o,b<s.heap.objs.size->s.heap.get? b=some o->h'.get? b=some o)->Q (.ref s.heap.objs.size) {s with heap:=h',toks:=tk}) :
  wpAny (model prog w) A (call (.type "set") [.ref l]) Q E s:=by
 obtain⟨c,tl,aah⟩:=zL.mro;have hmade:=zL.made;have hsub:=zL.«sub»;refine wpAny_call (codeAny_of_tree ?_);show wpAny _ _ (callAny (.type "set") _) _ _ _;refine aN ⟨Code.quiet_builtin _ Bd,zB F.entry_type_call ?_⟩;rw[Around.under_plain (weight_type_call_type "set" [.ref l] []) rfl];have h1:=zL.notType;have h2:=zL.canCreate;have hct:=F.typeCall_set_1 (.ref l)
 repeat (any_goals (first|assumption|wp_step))
 refine FZ (zhP (.ref l) (E:=E) (Q₁:=λobj s₁=>obj=.ref s.heap.objs.size/\s₁={s with heap:=s.heap.push (kI w)}) ⟨rfl,rfl⟩) λr s₁ hr=>?_;cases r with
 |error e=>exact hr
 |ok fl=>
  cases fl with
  |ret obj=>
   obtain⟨rfl,rfl⟩:=hr;have hS:(s.heap.push (kI w)).get? s.heap.objs.size=some (kI w):=fj _ rfl;have hTy:Shared.TypeIs {s with heap:=s.heap.push (kI w)} (.ref s.heap.objs.size) "set":=⟨_,hS,rfl⟩;have hli:=zL.init.lookup;have hbi:=zL.init.bind (.ref s.heap.objs.size)
   repeat (any_goals (first|assumption|wp_step))
   refine FZ (codeAny_call_builtin (R:=wants (λr s₂=>r=.none/\∃h' tk,s₂={s with heap:=h',toks:=tk}/\yU h' s.heap.objs.size items is (gR w) is.length /\
     (∀b o,b<s.heap.objs.size->s.heap.get? b=some o->h'.get? b=some o)) E) zL.init.plain F.entry_set_init (check_set_init_1 hTy ?_)) λr₂ s₂ hr₂=>?_
   ·obtain⟨ol,hol,uL,nl,hdl⟩:=id hl;obtain⟨ocls,odict,odata,oslots⟩:=ol;simp only at uL hdl;subst uL;subst hdl;have Vr:(s.heap.push (kI w)).get? l=some {cls:=.type "tuple",dict:=odict,data:=.seq items.toArray nl,slots:=oslots}:=cF _ hol;have hsls:=F.sub_tuple_set;have hslf:=F.sub_tuple_frozenset;have hne:(Value.type "tuple"==Value.type "dict")=false:=by decide
    have Vt:(s.heap.push (kI w)).IsTuple l items.toArray:=⟨_,Vr,rfl,nl,rfl⟩;unfold Builtin.«set.__init__» noKeywords Builtin.Frozenset.updateFrom;generalize hPI:pyIter=PI
    wp_walk
    subst hPI;refine Mu Vt ?_;refine au (wpAny_runValue ?_);have hlS:l<s.heap.objs.size:=bC hol;have hh3:A.in1.in1.in1.handled=none:=by simp[hh]
    have Vu:l≠(s.heap.push (kI w)).objs.size:=by
     rw[qj];exact cR (kO hlS)
    have Pb:s.heap.objs.size∉[(s.heap.push (kI w)).objs.size,l]:=by
     rw[qj];simp only[bZ,BX,rC,qm,not_or];exact⟨cR (Hv _),fB hlS⟩
    have Fg:∀(i:Nat) (v:Value),items.toArray[i]?=some v->items.getD i .none=v:=λi v hv=>by
     rw[BL] at hv;rw[g_,hv];rfl
    have iw:items.toArray.size=is.length:=by rw[dH,hT.len]
    refine R4 (led:=gR w) ((Walks.tuple hh3 _ l Vu items.toArray).toS) Pb iw hT Fg (items.toArray.size-0) 0 _ gV (jm _)
     ⟨⟨_,fj _ rfl,rfl,rfl⟩,(Vt.push _)⟩ ?Kp ?hR
    case Kp=>
     have Vv:((s.heap.push (kI w)).push {cls:=.type "tuple_iterator",data:=.fields #[.ref l,.int 0 0]}).get? s.heap.objs.size=some (kI w):=cF _ hS;exact⟨[],⟨⟨0,_,Vv,tab0,.inl ⟨rfl,jm _⟩,rfl,rfl⟩,λe he=>by cases he⟩,(λe he=>by cases he),λk hk=>by lia⟩
    case hR=>
     intro s' hm hS';obtain⟨h',g',d',tk',os'⟩:=s';have eg:g'=s.gens:=hm.gens;have ed:d'=s.drawn:=hm.drawn;have eo:os'=s.os:=hm.os;subst eg;subst ed;subst eo;show wpAny _ _ _ _ _ _;refine aN ?_;show wpAny _ _ (ret Value.none) _ _ _;refine aN ⟨rfl,h',tk',rfl,by rw[<-iw];exact hS',λb o hb e=>?_⟩;have hb1:b≠s.heap.objs.size:=cR hb;have Vw:b≠(s.heap.push (kI w)).objs.size:=by
      rw[qj];exact cR (kO hb)
     exact hm.heap b o (by simp only[bZ,BX,rC,qm,not_or];exact⟨hb1,Vw⟩) (cF _ (cF _ e))
   ·cases r₂ with
    |error e=>exact hr₂
    |ok fl₂=>
     cases fl₂ with
     |ret r=>
      obtain⟨rfl,h',tk,rfl,hS',Pg⟩:=hr₂
      repeat (any_goals (first|assumption|wp_step))
      exact h _ _ hS' Pg
     |_=>exact hr₂.elim
  |_=>exact hr.elim
end
end Ts
namespace Mi
open PySem PySem.Spec PyProof.Rows L2 PySem.W Ts
theorem Vx(us:List Int):Ord us.length (Gj us) (λi j=>us.getD i 0<=us.getD j 0):=by
 refine⟨λi j hi hj=>?_,λi j k _ _ _ h1 h2=>Int.le_trans h1 h2⟩;unfold Gj;simp only[dj hi,dj hj,g_,Option.getD_some];by_cases h:us[i]<us[j]
 ·exact .inl ⟨by rw[dM h],Int.le_of_lt h⟩
 ·exact .inr ⟨by rw[fH h],by lia⟩
theorem Pj:∀{l m:List Int},l.Pairwise (·<·)->m.Pairwise (·<·)->(∀x,x∈l↔x∈m)->l=m
 |[],[],_,_,_=>rfl
 |[],b::m,_,_,h=>by have:=(h b).mpr gA;cases this
 |a::l,[],_,_,h=>by have:=(h a).mp gA;cases this
 |a::l,b::m,p,q,h=>by
  obtain⟨p1,p2⟩:=qg.mp p;obtain⟨q1,q2⟩:=qg.mp q;have e:a=b:=by
   rcases bZ.mp ((h a).mp gA) with z|z
   ·exact z
   ·rcases bZ.mp ((h b).mpr gA) with y|y
    ·exact y.symm
    ·have:=p1 b y;have:=q1 a z
     lia
  subst e;rw[Pj p2 q2 λx=>⟨λhx=>?_,λhx=>?_⟩]
  ·rcases bZ.mp ((h x).mp (eF _ hx)) with z|z
   ·have:=p1 _ hx;lia
   ·exact z
  ·rcases bZ.mp ((h x).mpr (eF _ hx)) with z|z
   ·have:=q1 _ hx;lia
   ·exact z
theorem nA{x y:Int}:∀{l:List Int},y∈insI x l↔y=x\/y∈l
 |[]=>by simp[insI]
 |a::l=>by
  unfold insI
  split
  ·simp
  ·rw[bZ,nA (l:=l),bZ]
   constructor
   ·rintro(h|h|h)<;>simp[h]
   ·rintro(h|h|h)<;>simp[h]
theorem zgh{x:Int}:∀{l:List Int},l.Pairwise (·<·)->x∉l->(insI x l).Pairwise (·<·)
 |[],_,_=>List.pairwise_singleton ..
 |a::l,p,h=>by
  obtain⟨p1,p2⟩:=qg.mp p;have ha:x≠a:=λe=>h (by rw[e];exact gA);unfold insI
  split
  ·rename_i hl;refine qg.mpr ⟨λy hy=>?_,p⟩;rcases bZ.mp hy with z|z
   ·lia
   ·have:=p1 y z;lia
  ·refine qg.mpr ⟨λy hy=>?_,zgh p2 λz=>h (eF _ z)⟩;rcases nA.mp hy with z|z
   ·lia
   ·exact p1 y z
theorem dZ{y:Int}:∀{l:List Int},y∈sortI l↔y∈l
 |[]=>by simp[sortI]
 |a::l=>by
  show y∈insI a (sortI l)↔_;rw[nA,dZ (l:=l),bZ]
theorem Lr:∀{l:List Int},l.Nodup->(sortI l).Pairwise (·<·)
 |[],_=>.nil
 |a::l,h=>by
  obtain⟨h1,h2⟩:=pq.mp h;exact zgh (Lr h2) λz=>h1 (dZ.mp z)
theorem dl_mem{y:Int}:∀{l:List Int},y∈aD l↔y∈l
 |[]=>by simp[aD]
 |a::l=>by
  unfold aD
  split
  ·rename_i h;rw[dl_mem (l:=l),bZ];exact⟨.inr,λz=>z.elim (λe=>by rw[e];simpa using h) id⟩
  ·rw[bZ,dl_mem (l:=l),bZ]
theorem yV:∀(l:List Int),(aD l).Nodup
 |[]=>zF
 |a::l=>by
  unfold aD
  split
  ·exact yV l
  ·rename_i h;exact pq.mpr ⟨λz=>h (by simpa using dl_mem.mp z),yV l⟩
theorem zeM{l m:List Int}(h1:l.Nodup)(h2:m.Nodup)(h:∀x,x∈l↔x∈m):l.length=m.length:=
 Nat.le_antisymm (bV h1 λx hx=>(h x).mp hx) (bV h2 λx hx=>(h x).mpr hx)
theorem zfx{us:List Int}(hd:us.Nodup):∃p,(2<=us.length->bD (Gj us) (kas_sort us.length)=some p/\p.size=us.length/\(∀i∈p.toList,i<us.length)/\(∀x,x∈p.toList.map (λi=>us.getD i 0)↔x∈us)/\(p.toList.map λi=>us.getD i 0).Pairwise (·<·)):=by
 by_cases hn:2<=us.length
 ·obtain⟨p,e,hp,ha⟩:=zlZ (Vx us) gV;refine⟨p,λ_=>?_⟩;have hs:p.size=us.length:=hp.size;have hm:(p.toList.map λi=>us.getD i 0).Perm us:=by
   have h1:(p.toList.map λi=>us.getD i 0).Perm ((List.range us.length).map λi=>us.getD i 0):=(Array.Perm.toList hp).map _;have h2:((List.range us.length).map λi=>us.getD i 0)=us:=by
    apply M5
    ·simp
    ·intro i a b;simp[g_,b]
   rw[h2] at h1;exact h1
  refine⟨e,hs,λi hi=>?_,λx=>hm.mem_iff,?_⟩
  ·have:=(Array.Perm.toList hp).mem_iff.mp hi;simpa using this
  ·have nd:(p.toList.map λi=>us.getD i 0).Nodup:=hm.nodup_iff.mpr hd;rw[oY];intro i j hi hj lZ;have hne:=oY.mp nd i j hi hj lZ;have hi':i<p.size:=by simpa using hi
   have Pk:j<p.size:=by simpa using hj
   have hl:=ha i j lZ gV;have e1:p.getD i 0=p[i]:=by simp[Array.getD,hi']
   have e2:p.getD j 0=p[j]:=by simp[Array.getD,Pk]
   rw[e1,e2] at hl;simp only[M6,Array.getElem_toList] at hne ⊢
   lia
 ·exact⟨#[],λz=>absurd z hn⟩
section
variable {prog:Program}{w:World}{A:Around}{E:Value->Shared->Prop}{s:Shared}{items:List Value}{is:List Int}{L:Ent}{l:Addr}
theorem ziV{h:Heap}{S:Addr}{led:Bool}(hS:yS h S items is L led)(hT:Ints items is)(hD:Lq is L is.length):(L.map λe=>isAt is e.2).Nodup/\∀x,x∈L.map (λe=>isAt is e.2)↔x∈is:=by
 obtain⟨⟨ep,t,ho,tb,r⟩,idx⟩:=hS;refine⟨?_,λx=>⟨λhx=>?_,λhx=>?_⟩⟩
 ·have:=Vh tb;rw[rz,sY] at this ⊢;refine(Qp.mp this).imp λ{a b} z e=>z.2.2 (ql Prod.snd (tb.inj a z.1 b z.2.1 ?_));show hashInt _=hashInt _;rw[e]
 ·obtain⟨e,he,rfl⟩:=eE.mp hx;have:=idx e he;show is.getD e.2 0∈is;rw[g_,dj this];exact lH this
 ·obtain⟨i,hi,rfl⟩:=wO hx;obtain⟨e,he,e2⟩:=hD.2 i hi;refine eE.mpr ⟨e,he,e2.trans ?_⟩;show is.getD i 0=_;rw[g_,dj hi];rfl
theorem zhC{Q:Value->Shared->Prop}(hh:A.handled=none)(hl:s.heap.IsTuple l items.toArray)(hT:Ints items is)
  (h:∀h' tk t',(∀b o,s.heap.get? b=some o->h'.get? b=some o)->Q (.int (aD is).length t') {s with heap:=h',toks:=tk}) :
  wpAny (model prog w) A (PySem.call (.type "set") [.ref l]) (λv s'=>wpAny (model prog w) A (PySem.call (.builtin "len") [v]) Q E s') E s:=by
 refine zb2 hh hl hT λh1 tk1 hI jz=>?_;obtain⟨L,hS,hD⟩:=hI;obtain⟨v1,v2⟩:=ziV hS hT hD;obtain⟨⟨ep,t,ho,tb,cap,bR,jh⟩,idx⟩:=hS;have e:(aK items (aP is) L).toArray.size=(aD is).length:=by
  rw[Ez,<-zeM v1 (yV is) λx=>(v2 x).trans dl_mem.symm,aW]
 have Pa:(aK items (aP is) L).toArray.size<=18:=by rw[Ez];exact jH (O9 tb idx) hT.small
 refine call_len_set ho ⟨rfl,rfl,rfl⟩ rfl (GX tb cap.cap) gV ?_;rw[e];exact h h1 _ _ λb o q=>jz b o (bC q) q
theorem zjl{Q:Value->Shared->Prop}(hh:A.handled=none)(hl:s.heap.IsTuple l items.toArray)(hT:Ints items is)
  (h:∀h' tk r e (js:List Nat),(∀b o,s.heap.get? b=some o->h'.get? b=some o)->s.heap.objs.size<=r->js.map (isAt is)=sortI (aD is)->(∀j∈js,j<is.length)->h'.get? r=some (seqObj "list" (js.map (items.getD · Value.none)).toArray e)->Q (.ref r) {s with heap:=h',toks:=tk}) :
  wpAny (model prog w) A (PySem.call (.type "set") [.ref l]) (λv s'=>wpAny (model prog w) A (PySem.call (.builtin "sorted") [v]) Q E s') E s:=by
 refine zb2 hh hl hT λh1 tk1 hI jz=>?_;obtain⟨L,hS,hD⟩:=hI;obtain⟨v1,v2⟩:=ziV hS hT hD;obtain⟨⟨ep,t,ho,tb,cap,bR,jh⟩,idx⟩:=hS;have k1:∀b o,s.heap.get? b=some o->h1.get? b=some o:=λb o e=>jz b o (bC e) e;obtain⟨L',pL,eL⟩:=zfP (f:=λe:Nat×Nat=>(aP is e.2,items.getD e.2 Value.none)) (mz (w:=w) (S:=s.heap.objs.size) (ep:=ep) (es:=aK items (aP is) L)) (L:=L) rfl;have ev:(bQ w s.heap.objs.size ep (aK items (aP is) L)).map (·.2)=(L'.map (·.2)).map (items.getD · Value.none):=by
  rw[eL,lM,lM];rfl
 have Bh:∀j∈L'.map (·.2),j<is.length:=λj hj=>by
  obtain⟨e,he,rfl⟩:=eE.mp hj;exact idx e (pL.mem_iff.mp he)
 have pv:((L'.map (·.2)).map (isAt is)).Perm (L.map λe=>isAt is e.2):=by rw[lM];exact pL.map _
 have nd:((L'.map (·.2)).map (isAt is)).Nodup:=pv.nodup_iff.mpr v1;have hm:∀x,x∈(L'.map (·.2)).map (isAt is)↔x∈is:=λx=>pv.mem_iff.trans (v2 x);have Pa:L.length<=18:=jH (O9 tb idx) hT.small;generalize L'.map (·.2)=ks at ev Bh nd hm pv;have Vy:ks.length=L.length:=by have:=pv.length_eq;simpa using this
 obtain⟨p,hp⟩:=zfx nd;rw[aW] at hp;have Ls:(sortI (aD is)).Pairwise (·<·):=Lr (yV is);have Lw:∀x,x∈sortI (aD is)↔x∈is:=λx=>dZ.trans dl_mem;obtain⟨js,j1,j2,j3⟩ : ∃js:List Nat,js.map (isAt is)=sortI (aD is)/\(∀j∈js,j<is.length)/\gD (ks.map (items.getD · Value.none)) p=(js.map (items.getD · Value.none)).toArray:=by
  unfold gD;by_cases h2:ks.length<2
  ·rw[aW,if_pos h2];refine⟨ks,Pj ?_ Ls λx=>(hm x).trans (Lw x).symm,Bh,rfl⟩
   match ks,h2 with
   |[],_=>exact .nil
   |[x],_=>exact List.pairwise_singleton ..
  ·rw[aW,if_neg h2];obtain⟨_,p1,p2,p3,p4⟩:=hp gV;have DR:∀i∈p.toList,ks.getD i 0∈ks/\(ks.map (items.getD · Value.none)).getD i Value.none=items.getD (ks.getD i 0) Value.none/\(ks.map (isAt is)).getD i 0=isAt is (ks.getD i 0):=λi hi=>by
    have hi':=p2 i hi;simp only[g_,gK,dj hi',Option.map_some,Option.getD_some];exact⟨lH hi',trivial,trivial⟩
   refine⟨p.toList.map λi=>ks.getD i 0,?_,λj hj=>?_,?_⟩
   ·rw[lM];have:p.toList.map (isAt is∘λi=>ks.getD i 0)=p.toList.map λi=>(ks.map (isAt is)).getD i 0:=Hr λi hi=>((DR i hi).2.2).symm;rw[this];exact Pj p4 Ls λx=>((p3 x).trans (hm x)).trans (Lw x).symm
   ·obtain⟨i,hi,rfl⟩:=eE.mp hj;exact Bh _ (DR i hi).1
   ·exact ql List.toArray ((Hr λi hi=>(DR i hi).2.1).trans (by rw[lM];rfl))
 have hint:∀u∈ks.map (items.getD · Value.none),∃i t,u=Value.int i t:=λu hu=>by
  obtain⟨j,hj,rfl⟩:=eE.mp hu;obtain⟨t,q⟩:=hT.at' j (Bh j hj);exact⟨_,t,q⟩
 refine zf5 (vs:=ks.map (items.getD · Value.none)) (κ:=oneType') (lt:=Gj (ks.map (isAt is))) (p:=p) (λQ' E' q=>?_) (by rw[aW];lia) (λh2 s' Q' E' k q=>YW h2 hint q) (λh2 s' i j b C k e hC=>?_) (λh2=>by rw[aW] at h2 ⊢;exact(hp h2).1) (λh2=>by rw[aW] at h2 ⊢;exact(hp h2).2.1) (λh' tk r e k hn hg=>?_)
 ·refine zdL (by simp[hh]) ho tb cap.cap bR jh λh' tk k=>?_;rw[ev];exact q h' tk k
 ·unfold Gj at e;split at e
  ·rename_i a c e1 e2;cases e;rw[gK,jk] at e1 e2;obtain⟨j1,g1,rfl⟩:=e1;obtain⟨j2,g2,rfl⟩:=e2;obtain⟨t1,b1⟩:=hT.at' j1 (Bh j1 (iQ g1));obtain⟨t2,b2⟩:=hT.at' j2 (Bh j2 (iQ g2));show wpAny _ _ (keyLt' oneType' ((ks.map (items.getD · Value.none)).getD i Value.none) ((ks.map (items.getD · Value.none)).getD j Value.none)) C _ s';have f1:(ks.map (items.getD · Value.none))[i]?=some (.int (isAt is j1) t1):=by rw[gK,g1,<-b1];rfl
   have f2:(ks.map (items.getD · Value.none))[j]?=some (.int (isAt is j2) t2):=by rw[gK,g2,<-b2];rfl
   rw[Gi f1,Gi f2];exact kat_lt_int hC
  ·cases e
 ·refine h h' tk r e js (λb o g=>k b o (k1 b o g)) ?_ j1 j2 (by rw[<-j3];exact hg);exact ud (hn _ _ ho)
end
end Mi
namespace L2
open PySem PySem.Spec PyProof.Rows
section
variable {X:Cx}{ak:List (Addr×Obj)}{Z:List (Option V)}{H H':Hp}{s:Shared}{h':Heap}
theorem Inv.many{t':Nat}(I:Inv X ak Z H s)(k:∀b u,s.heap.get? b=some u->h'.get? b=some u)(g:∀a o,H a=some o->H' a=some o)(new:∀a o,H' a=some o->H a=some o\/(s.heap.objs.size<=a/\aV X.prog X.w H' h' a o)):Inv X ak Z H' {s with heap:=h',toks:=t'}:=
 I.un ⟨λb u q _ _ _=>k b u q,λb u q _ _ _=>⟨u.slots,k b u q⟩,λb u q n _=>by
  cases e:H' b with
  |none=>rfl
  |some o=>
   rcases new b o e with z|z
   ·rw[n] at z;cases z
   ·exact absurd (bC q) (zM.mpr z.1),λb u q _=>⟨u,k b u q⟩,λb xs q=>g _ _ q,λb o u q=>g _ _ q,λb ps q=>⟨#[],by rw[g _ _ q];simp⟩⟩
  λa o e=>(new a o e).elim (λe'=>(I.hok a o e').stay (λc v _ q=>k c v q) (λc q=>g _ _ q) λc xs q=>g _ _ q) (·.2)
end
noncomputable def nF(H:Hp):List (Addr×HO)->Hp
 |[]=>H
 |p::r=>upd (nF H r) p.1 p.2
theorem Pn{H:Hp}{a:Addr}:∀{l:List (Addr×HO)},(∀p∈l,p.1≠a)->nF H l a=H a
 |[],_=>rfl
 |p::r,h=>by
  show upd (nF H r) p.1 p.2 a=_;rw[dD (h p gA).symm];exact Pn λq hq=>h q (eF _ hq)
theorem Vz{H:Hp}:∀{l:List (Addr×HO)},(l.map (·.1)).Nodup->∀p∈l,nF H l p.1=some p.2
 |[],_,_,hp=>by cases hp
 |q::r,hn,p,hp=>by
  obtain⟨h1,h2⟩:=pq.mp hn;show upd (nF H r) q.1 q.2 p.1=_;rcases bZ.mp hp with rfl|hp
  ·rw[jO]
  ·rw[dD (λe=>h1 (by show q.1∈_;rw[<-e];exact rA (f:=(·.1)) hp))];exact Vz h2 p hp
section
variable {X:Cx}
def rZl(K:W.Frag)(vs:List V)(H:Hp)(Q:VK):Prop:=∃k1 k2 l1 l2 xs ys,vs=[.ref l1,.ref l2]/\Sk k1 K H l1 xs/\Sk k2 K H l2 ys/\xs.length<=65536 /\
 ∀(H':Hp) (r:Addr) (as:List Addr),(∀a o,H a=some o->H' a=some o)->H' r=none->as.length=min xs.length ys.length->(∀(j:Nat) (a:Addr) (x y:V),as[j]?=some a->xs[j]?=some x->ys[j]?=some y->H a=none/\H' a=some (.tup [x,y]))->Q (.ref r) (upd H' r (.lst (as.map .ref)))
theorem zjW{a b:Expr}{t:TA}{p p' pos pos':Pos}(hc:X.aj=true)(hg:Gl X "list")(hm:X.mg "list"=none)(pZ:Gl X "zip")(p7:X.mg "zip"=none)(ha:PA X [a,b] t)(hs:starEach [a,b] X.env=(false,eval a X.env)::starEach [b] X.env)(xJ:starEach [b] X.env=(false,eval b X.env)::starEach [] X.env) :
  PE X (.Call (.Name "list" p) [.Call (.Name "zip" p') [a,b] [] pos'] [] pos) (NT (rZl X.K) t):=by
 intro ak s Z H Q I h;refine BR (uo I hg hm Mi.qO ?_);refine zj ?_ rfl rfl;show wpAny _ _ (spliced ((false,eval (.Call (.Name "zip" p') [a,b] [] pos') X.env)::backTo pos (starEach [] X.env))) _ _ s;refine Calls.spliced_cons ?_;refine BR (uo I pZ p7 Y5 ?_);refine zj (aU (ha pos' ak s Z H _ I h) λus s1 hz=>?_) hs (by rw[xJ];rfl);obtain⟨vs,H1,I1,r1,q1⟩:=hz;obtain⟨k1,k2,l1,l2,xs,ys,e,zW,zX,iw,q⟩:=q1;subst e;cases r1 with
 |cons r rr=>
  cases rr with
  |cons r' rr=>
   cases rr;cases r;cases r';obtain⟨Sd,Dj,c1⟩:=I1.row zW;obtain⟨xZ,Dk,c2⟩:=I1.row zX;have m1:=c1.lt;have m2:=c2.lt;have z1:=Dj.length;have z2:=Dk.length;refine Y4 c1 c2 λh' b1 b2 b3 b4 b5 kp=>?_;have ne:∀{u v:Nat},u<v->u≠v:=λh=>cR h;have D:eG (s1.heap.objs.size+4) (s1.heap.objs.size+2) (s1.heap.objs.size+3) s1.heap.objs.size (s1.heap.objs.size+1) l1 l2:=
    ⟨⟨(ne gV).symm,(ne gV).symm,(ne gV).symm,(ne gV).symm,(ne (dh m1 gV)).symm,(ne (dh m2 gV)).symm⟩,
     ⟨(ne gV).symm,(ne gV).symm,(ne gV).symm,(ne (dh m1 gV)).symm,(ne (dh m2 gV)).symm⟩,
     ⟨(ne gV).symm,(ne gV).symm,ne gV,(ne m1).symm,(ne m2).symm,(ne (dh m1 gV)).symm,(ne (dh m2 gV)).symm⟩⟩
   refine Calls.spliced_nil ?_;refine zcO (s:={s1 with heap:=h'}) (I1.ok.hd hc) D b1 b2 ⟨_,_,b3⟩ b4 b5 (c1.keep λo e=>kp _ _ e) (c2.keep λo e=>kp _ _ e) (by rw[dH,<-z1];exact iw) λh2 acc c kp2 hL Lx hit lZ=>?_;dsimp only at kp2 hL hit ⊢;have Lx:acc.size=min xs.length ys.length:=by rw[Lx,dH,dH,z1,z2]
   have old:∀b o,s1.heap.get? b=some o->h2.get? b=some o:=λb o e=>by
    have:=bC e;exact kp2 b o (ne (dh this gV)) (ne (dh this gV)) (ne this) (ne (dh this gV)) (kp b o e)
   have big:s1.heap.objs.size<=h'.objs.size:=jH gV (ud (bC b1))
   let adr:Nat->Addr:=λj=>match acc[j]? with
    |some (.ref a)=>a
    |_=>0
   have at':∀j,j<min xs.length ys.length->∃(x y:V) (u v:Value),acc[j]?=some (.ref (adr j))/\h'.objs.size<adr j/\xs[j]?=some x/\ys[j]?=some y/\RelV x u/\RelV y v/\IsPair h2 (adr j) u v:=λj hj=>by
    have Pk:j<acc.size:=by rw[Lx];exact hj
    obtain⟨a,u,v,r1,r2,r3,r4,r5⟩:=hit j acc[j] (zm Pk);have e:acc[j]?=some (.ref a):=by rw[zm Pk,r1]
    have ea:adr j=a:=by show (match acc[j]? with|some (.ref a)=>a|_=>0)=a;rw[e]
    have hx:j<xs.length:=by lia
    have hy:j<ys.length:=by lia
    obtain⟨u',f1,f2⟩:=Dj.get (dj hx);obtain⟨v',g1,g2⟩:=Dk.get (dj hy);rw[BL,f1] at r3;rw[BL,g1] at r4;cases r3;cases r4;exact⟨_,_,_,_,by rw[ea];exact e,by rw[ea];exact r2,dj hx,dj hy,f2,g2,by rw[ea];exact r5⟩
   let l:List (Addr×HO):=(List.range (min xs.length ys.length)).map λj=>(adr j,.tup [xs.getD j .non,ys.getD j .non])
   have yK:(l.map (·.1)).Nodup:=by
    show (((List.range (min xs.length ys.length)).map λj=>(adr j,HO.tup [xs.getD j .non,ys.getD j .non])).map (·.1)).Nodup;rw[lM,rz,sY];refine(Qp.mp List.nodup_range).imp λ{i j} z e=>z.2.2 ?_;have hi:=lJ.mp z.1;have hj:=lJ.mp z.2.1;obtain⟨_,_,_,_,e1,_⟩:=at' i hi;obtain⟨_,_,_,_,e2,_⟩:=at' j hj;have e:adr i=adr j:=e;rw[e] at e1;exact lZ i j _ e1 e2
   have VB:∀j,j<min xs.length ys.length->(adr j,HO.tup [xs.getD j .non,ys.getD j .non])∈l:=λj hj=>eE.mpr ⟨j,lJ.mpr hj,rfl⟩;have hl:∀p∈l,∃j,j<min xs.length ys.length/\p=(adr j,HO.tup [xs.getD j .non,ys.getD j .non]):=λp hp=>by
    obtain⟨j,hj,rfl⟩:=eE.mp hp;exact⟨j,lJ.mp hj,rfl⟩
   have vJ:∀p∈l,s1.heap.objs.size<=p.1/\p.1≠h'.objs.size:=λp hp=>by
    obtain⟨j,hj,rfl⟩:=hl p hp;obtain⟨_,_,_,_,_,e2,_⟩:=at' j hj;exact⟨jH big (ud e2),fB e2⟩
   have gr:∀a o,H1 a=some o->nF H1 l a=some o:=λa o e=>by
    rw[Pn λp hp q=>?_]
    ·exact e
    ·have:=I1.hok.fresh (vJ p hp).1;rw[q,e] at this;cases this
   have hr:nF H1 l h'.objs.size=none:=by
    rw[Pn λp hp=>(vJ p hp).2];exact I1.hok.fresh big
   let as:List Addr:=(List.range (min xs.length ys.length)).map adr
   have Br:Vals (as.map .ref) acc.toList:=by
    have:acc.toList=(List.range (min xs.length ys.length)).map λj=>Value.ref (adr j):=by
     apply List.ext_getElem?;intro j;rw[Ms];by_cases hj:j<min xs.length ys.length
     ·obtain⟨_,_,_,_,e1,_⟩:=at' j hj;rw[e1];simp[hj]
     ·rw[Mp (by rw[Lx];lia)];simp[hj]
    rw[this];show Vals (((List.range (min xs.length ys.length)).map adr).map V.ref) _;rw[lM];generalize List.range (min xs.length ys.length)=rg
    induction rg with
    |nil=>exact .nil
    |cons j r ih=>exact .cons rfl ih
   refine⟨.ref h'.objs.size,upd (nF H1 l) h'.objs.size (.lst (as.map .ref)),I1.many (t':=s1.toks) old (λa o e=>?_) (λa o e=>?_),rfl,q (nF H1 l) h'.objs.size as gr hr (by show ((List.range _).map adr).length=_;simp) λj a x y e1 e2 e3=>?_⟩
   ·rw[dD (λz=>by rw[z] at e;have:=gr _ _ e;rw[hr] at this;cases this)];exact gr a o e
   ·by_cases hb:a=h'.objs.size
    ·subst hb;rw[jO] at e;cases e;refine .inr ⟨big,show aV X.prog X.w _ h2 _ (.lst (as.map .ref)) from ⟨?_,acc.toList,c,Br,by rw[Array.toArray_toList];exact hL⟩⟩;rw[Br.length,Fz,Lx];exact jH (M8 ..) (jH iw Dc)
    ·rw[dD hb] at e;by_cases cG:∃p∈l,p.1=a
     ·obtain⟨p,hp,rfl⟩:=cG;rw[Vz yK p hp] at e;cases e;refine .inr ⟨(vJ p hp).1,?_⟩;obtain⟨j,hj,rfl⟩:=hl p hp;obtain⟨x,y,u,v,e1,e2,e3,e4,e5,e6,e7⟩:=at' j hj;have f1:xs.getD j .non=x:=by rw[g_,e3];rfl
      have f2:ys.getD j .non=y:=by rw[g_,e4];rfl
      show aV X.prog X.w _ h2 _ (.tup [xs.getD j .non,ys.getD j .non]);rw[f1,f2];exact⟨by show 2<=sizeLine;decide,[u,v],.cons e5 (.cons e6 .nil),⟨_,e7,rfl,_,rfl⟩⟩
     ·rw[Pn λp hp z=>cG ⟨p,hp,z⟩] at e;exact .inl e
   ·have hj:j<min xs.length ys.length:=by
     have:=(gw.mp e1).1;simpa [as] using this
    have ea:a=adr j:=by
     have:((List.range (min xs.length ys.length)).map adr)[j]?=some a:=e1;simp[hj] at this;exact this.symm
    subst ea;have hp:=VB j hj;refine⟨I1.hok.fresh (vJ _ hp).1,?_⟩;have:=Vz (H:=H1) yK _ hp;rw[g_,g_,e2,e3] at this;exact this
end
end L2
namespace Mi
open PySem PySem.Spec PyProof.Rows L2 PySem.W Ts
def rLs(K:W.Frag)(vs:List V)(H:Hp)(Q:VK):Prop:=∃(l:Addr) (is:List Int),vs=[.ref l]/\gC K H l (is.map V.int)/\rQ is=true/\Q (.int (aD is).length) H
def rSi(K:W.Frag)(vs:List V)(H:Hp)(Q:VK):Prop:=∃(l:Addr) (is:List Int),vs=[.ref l]/\gC K H l (is.map V.int)/\rQ is=true/\∀r,H r=none->Q (.ref r) (upd H r (.lst ((sortI (aD is)).map V.int)))
theorem zei{is:List Int}{its:List Value}(h:rQ is=true)(rv:Vals (is.map V.int) its):Ints its is:=by
 unfold rQ at h;rw[gB] at h;have hl:is.length=its.length:=by have:=rv.length;rwa [aW] at this
 refine⟨hl,lG h.1,λi hi=>?_,λi hi=>?_⟩
 ·refine zkk (iV.mp h.2 _ ?_);show is.getD i 0∈is;rw[g_,dj hi];exact lH hi
 ·obtain⟨t,e⟩:=Oz rv (i:=i) (v:=its[i]'(hl▸hi)) (by simp[hl▸hi]);exact⟨t,by rw[g_,dj (hl▸hi)];exact e⟩
section
variable {X:Cx}
theorem ziB{f:Str}{id:String}{r:List V->Hp->VK->Prop}{e:Expr}{t:TA}{p p' pos pos':Pos}(hv:bootBuiltins f=some (.builtin id))(hg:Gl X f)(hm:X.mg f=none)(pZ:Gl X "set")(p7:X.mg "set"=none)(ha:PA X [e] t)(hn:f≠"__name__")(rH:(f==("__debug__" : Str))=false)
  (yP:∀ak s Z H vs us Q,Inv X ak Z H s->Vals vs us->r vs H Q->wpAny (model X.prog X.w) X.A (PySem.call (.type "set") us) (λv s'=>wpAny (model X.prog X.w) X.A (PySem.call (.builtin id) [v]) (EP X ak Z Q) X.xe s') X.xe s)
  (he:starEach [e] X.env=(false,eval e X.env)::starEach [] X.env) (bR:(backTo pos' (starEach [] X.env)).any (·.1)=false) :
  PE X (.Call (.Name f p) [.Call (.Name "set" p') [e] [] pos'] [] pos) (NT r t):=by
 intro ak s Z H Q I h;refine BR (uo I hg hm hv ?_ hn rH);refine PyProof.Rows.callWith_builtin1 ?_ rfl rfl;show wpAny _ _ (spliced ((false,eval (.Call (.Name "set" p') [e] [] pos') X.env)::backTo pos (starEach [] X.env))) _ _ s;refine Calls.spliced_cons ?_;refine BR (uo I pZ p7 zh0 ?_);refine zj (aU (ha pos' ak s Z H _ I h) λus s1 hz=>?_) he bR;obtain⟨vs,H1,I1,r1,q1⟩:=hz;exact aU (yP ak s1 Z H1 vs us Q I1 r1 q1) λv s' hw=>Calls.spliced_nil hw
theorem zmi(hc:X.aj=true):∀ak s Z H vs us Q,Inv X ak Z H s->Vals vs us->rLs X.K vs H Q->wpAny (model X.prog X.w) X.A (PySem.call (.type "set") us) (λv s'=>wpAny (model X.prog X.w) X.A (PySem.call (.builtin "len") [v]) (EP X ak Z Q) X.xe s') X.xe s:=by
 rintro ak s Z H vs us Q I rv ⟨l,is,rfl,hq,hk,q⟩;obtain⟨u,rfl,ru⟩:=vals1 rv;cases ru;obtain⟨its,rv,pl,hz⟩:=I.tuple hq;exact zhC (I.ok.hd hc) pl (zei hk rv) λh' tk t' k=>⟨.int (aD is).length,H,I.kept k,⟨t',rfl⟩,q⟩
theorem zky(hc:X.aj=true):∀ak s Z H vs us Q,Inv X ak Z H s->Vals vs us->rSi X.K vs H Q->wpAny (model X.prog X.w) X.A (PySem.call (.type "set") us) (λv s'=>wpAny (model X.prog X.w) X.A (PySem.call (.builtin "sorted") [v]) (EP X ak Z Q) X.xe s') X.xe s:=by
 rintro ak s Z H vs us Q I rv ⟨l,is,rfl,hq,hk,q⟩;obtain⟨u,rfl,ru⟩:=vals1 rv;cases ru;obtain⟨its,rv,pl,hz⟩:=I.tuple hq;have T:=zei hk rv;refine zjl (I.ok.hd hc) pl T λh' tk r e js k hr j1 j2 hg=>?_;have hv:Vals ((sortI (aD is)).map V.int) (js.map (its.getD · Value.none)):=by
  have:=R7 rv js;rw[show js.map (λi=>(is.map V.int).getD i .non)=(sortI (aD is)).map V.int from ?_] at this
  ·exact this
  ·rw[<-j1,lM];refine Hr λj hj=>?_;have:=j2 j hj;show (is.map V.int).getD j .non=V.int (is.getD j 0);simp[g_,this]
 refine⟨.ref r,_,I.laid (a:=r) (o:=.lst ((sortI (aD is)).map V.int)) (h':=h') (t':=tk) k hr (show aV X.prog X.w _ h' _ (.lst _) from ⟨?_,_,e,hv,hg⟩),rfl,q r (I.hok.fresh hr)⟩;have Pa:(aD is).length<=18:=jH (bV (yV is) λx hx=>dl_mem.mp hx) T.small;have:(sortI (aD is)).length=(aD is).length:=zeM ((rz.mpr ((Lr (yV is)).imp λz=>Int.ne_of_lt z))) (yV is) λx=>dZ;rw[aW,this];exact jH Pa Dc
end
section
variable {K:W.Frag}{cA:Cl}{U:Ph}{H:Hp}
theorem zdk:∀is:List Int,aB K cA U H (is.map D.int) (is.map V.int)
 |[]=>.nil
 |i::r=>.cons (.int i) (zdk r)
theorem znO:bw K cA .fP (rLs K):=by
 intro U H ds vs Q zt rs o;have o:aY K cA U H (uW ds) Q:=o;unfold uW at o;split at o
 ·rename_i xs _;obtain⟨v,rfl,r1⟩:=rs.one;have r1:Rep K cA U H (.tup xs) v:=r1;cases r1 with
  |tup t q=>
   cases e1:aC xs with
   |none=>rw[e1] at o;exact o.elim
   |some is=>
    rw[e1] at o;have o:aY K cA U H (lV is) Q:=o;unfold lV at o;cases e2:rQ is with
    |false=>rw[e2] at o;exact o.elim
    |true=>rw[e2] at o;exact⟨_,is,rfl,by rw[<-KY e1 q];exact t.jr,e2,(o.of rfl).here (.int _)⟩
 ·exact o.elim
theorem znz:bw K cA .jd (rSi K):=by
 intro U H ds vs Q zt rs o;have o:aY K cA U H (Du ds) Q:=o;unfold Du at o;split at o
 ·rename_i xs _;obtain⟨v,rfl,r1⟩:=rs.one;have r1:Rep K cA U H (.tup xs) v:=r1;cases r1 with
  |tup t q=>
   cases e1:aC xs with
   |none=>rw[e1] at o;exact o.elim
   |some is=>
    rw[e1] at o;have o:aY K cA U H (rR is) Q:=o;unfold rR at o;cases e2:rQ is with
    |false=>rw[e2] at o;exact o.elim
    |true=>rw[e2] at o;exact⟨_,is,rfl,by rw[<-KY e1 q];exact t.jr,e2,λr hr=>(o.of rfl) r _ hr (zdk _)⟩
 ·exact o.elim
theorem zhV{s:S}{fz:Bool}{xs:List D}{Q:VK}{Ee:Nat->List D->S->Ph->Hp->Prop}(hS:aG K cA U H s)(h:Run K cA (bJ fz (some (.nw xs))) U H s (λx _ U' H'=>∀v,aQ K cA U' H' x v->Q v H') Ee):∀H' p vs,bf H H'->H' p=none->aB K cA U H' xs vs->Q (.ref p) (upd H' p (.lst vs)):=by
 intro H' p vs g hp r;have hS':=hS.grow g;cases fz with
 |true=>exact h U _ (g.trans (bf.new hp)).ext (hS.grow (g.trans (bf.new hp))) _ (.d (.fl (LstAt.new (hS'.nz hp)) (r.mono (bf.new hp).ext hS.lz)))
 |false=>exact h (U.add p) _ (g.ext.trans (Ext.add hp)) (hS'.add hp r) _ (.l (by show (U.l++[p])[s.length]?=_;rw[<-hS.len];simp))
theorem zhI{H':Hp}(g:bf H H')(hz:∀a∈U.l,U.z a)(nz:∀a,H a=none->¬U.z a):∀{xs ys:List D} {us vs:List V} {as:List Addr},aB K cA U H xs us->aB K cA U H ys vs->as.length=min us.length vs.length->(∀(j:Nat) (a:Addr) (x y:V),as[j]?=some a->us[j]?=some x->vs[j]?=some y->H a=none/\H' a=some (.tup [x,y]))->aB K cA U H' (yg xs ys) (as.map .ref):=by
 intro xs
 induction xs with
 |nil=>
  intro ys us vs as r1 r2 hl _;cases r1;cases as with
  |nil=>exact .nil
  |cons a as=>simp at hl
 |cons x xs ih=>
  intro ys us vs as r1 r2 hl hh;cases r1 with
  |cons p r=>
   cases r2 with
   |nil=>
    cases as with
    |nil=>exact .nil
    |cons a as=>simp at hl
   |cons p' r'=>
    cases as with
    |nil=>simp at hl
    |cons a as=>
     obtain⟨e1,e2⟩:=hh 0 a _ _ rfl rfl rfl;exact .cons (.tup (.inl ⟨.inl e2,nz a e1⟩) (.cons (p.mono g.ext hz) (.cons (p'.mono g.ext hz) .nil))) (ih r r' (by simpa using hl) λj a x y f1 f2 f3=>hh (j+1) a x y f1 f2 f3)
end
section
variable {X:Cx}{cA:Cl}{ao:Nat->Nat->Bool}{aj:Bool}{F:Fn}{EX:XS}{e a b:Expr}{pos pos' p p':Pos}{Xs:Es}{A B:E}{fz:Bool}
theorem zmQ(hc:X.aj=true)(hg:Gl X "len")(hm:X.mg "len"=none)(pZ:Gl X "set")(p7:X.mg "set"=none)(ha:SA X cA ao aj F EX [e] Xs)
  (he:starEach [e] X.env=(false,eval e X.env)::starEach [] X.env) (bR:(backTo pos' (starEach [] X.env)).any (·.1)=false):SE X cA ao aj F EX (.Call (.Name "len" p) [.Call (.Name "set" p') [e] [] pos'] [] pos) (.pr fz .fP Xs):=PE.weak (ziB PySem.boot_len hg hm pZ p7 ha Dc Dc (zmi hc) he bR) λZ H Q hh=>un hh λU J s hL hS h=>
 oh hL hS h λvs H1 U1 ds s1 x1 hL1 aL r1 h1=>by
  obtain⟨ds,rs,h3⟩:=pO aL r1 h1;exact znO U1 H1 ds _ _ aL.zs rs (oK aL h3)
theorem znW(hc:X.aj=true)(hm:X.mg "len"=none)(hg:JK X "len" .globalImplicit)(p7:X.mg "set"=none)(pZ:JK X "set" .globalImplicit)(ha:JA X cA ao aj F EX [e] Xs)(he:aF e=true:=by rfl):JE X cA ao aj F EX (.Call (.Name "len" p) [.Call (.Name "set" p') [e] [] pos'] [] pos) (.pr fz .fP Xs):=⟨zmQ hc hg.o hm pZ.o p7 ha.o (bA he) (bB rfl)⟩
theorem zm4(hc:X.aj=true)(hg:Gl X "sorted")(hm:X.mg "sorted"=none)(pZ:Gl X "set")(p7:X.mg "set"=none)(ha:SA X cA ao aj F EX [e] Xs)
  (he:starEach [e] X.env=(false,eval e X.env)::starEach [] X.env) (bR:(backTo pos' (starEach [] X.env)).any (·.1)=false):SE X cA ao aj F EX (.Call (.Name "sorted" p) [.Call (.Name "set" p') [e] [] pos'] [] pos) (.pr fz .jd Xs):=PE.weak (ziB zbO hg hm pZ p7 ha Dc Dc (zky hc) he bR) λZ H Q hh=>un hh λU J s hL hS h=>
 oh hL hS h λvs H1 U1 ds s1 x1 hL1 aL r1 h1=>by
  obtain⟨ds,rs,h3⟩:=pO aL r1 h1;exact znz U1 H1 ds _ _ aL.zs rs (oK aL h3)
theorem zom(hc:X.aj=true)(hm:X.mg "sorted"=none)(hg:JK X "sorted" .globalImplicit)(p7:X.mg "set"=none)(pZ:JK X "set" .globalImplicit)(ha:JA X cA ao aj F EX [e] Xs)(he:aF e=true:=by rfl):JE X cA ao aj F EX (.Call (.Name "sorted" p) [.Call (.Name "set" p') [e] [] pos'] [] pos) (.pr fz .jd Xs):=⟨zm4 hc hg.o hm pZ.o p7 ha.o (bA he) (bB rfl)⟩
theorem zkw{K:W.Frag}{U:Ph}{H:Hp}{d:D}{v:V}{xs:List D}(r:Rv K cA U H d v)(e:dX d=some xs):∃k l us,v=.ref l/\Sk k K H l us/\aB K cA U H xs us:=by
 obtain⟨l,us,rfl,q,rr⟩:=Rv.sq r e;rcases q with q|q
 ·exact⟨true,l,us,rfl,q,rr⟩
 ·exact⟨false,l,us,rfl,q,rr⟩
theorem znt(hc:X.aj=true)(hg:Gl X "list")(hm:X.mg "list"=none)(pZ:Gl X "zip")(p7:X.mg "zip"=none)(ha:SA X cA ao aj F EX [a,b] Xs)(hs:starEach [a,b] X.env=(false,eval a X.env)::starEach [b] X.env)(xJ:starEach [b] X.env=(false,eval b X.env)::starEach [] X.env) :
  SE X cA ao aj F EX (.Call (.Name "list" p) [.Call (.Name "zip" p') [a,b] [] pos'] [] pos) (.pr fz .rK Xs):=PE.weak (zjW hc hg hm pZ p7 ha hs xJ) λZ H Q hh=>un hh λU J s hL hS h=>
 oh hL hS h λvs H1 U1 ds s1 x1 hL1 aL r1 h1=>by
  obtain⟨ds,rs,h3⟩:=pO aL r1 h1;have h3:Run X.K cA (bJ fz (Ag ds)) U1 H1 s1 _ _:=h3;have o:=oK (Q:=Q) aL h3
  match ds,rs,h3,o with
  |[],_,_,o=>exact o.elim
  |[_],_,_,o=>exact o.elim
  |_::_::_::_,_,_,o=>exact o.elim
  |[d,d'],rs,h3,o=>
   obtain⟨v,v',rfl,q1,q2⟩:=rs.two (ds:=[]);have o:aY X.K cA U1 H1 (match dX d,dX d' with|some xs,some ys=>Af xs ys|_,_=>none) Q:=o;have h3:Run X.K cA (bJ fz (match dX d,dX d' with|some xs,some ys=>Af xs ys|_,_=>none)) U1 H1 s1 _ _:=h3;cases e1:dX d with
   |none=>rw[e1] at o;exact o.elim
   |some xs=>
    cases e2:dX d' with
    |none=>rw[e1,e2] at o;exact o.elim
    |some ys=>
     rw[e1,e2] at o h3;have o:aY X.K cA U1 H1 (Af xs ys) Q:=o;have h3:Run X.K cA (bJ fz (Af xs ys)) U1 H1 s1 _ _:=h3;unfold Af at o h3;by_cases hk:xs.length<=65536
     ·rw[if_pos hk] at h3;obtain⟨k1,l1,us,rfl,s1,w1⟩:=zkw q1 e1;obtain⟨k2,l2,us',rfl,s2,w2⟩:=zkw q2 e2;refine⟨k1,k2,l1,l2,us,us',rfl,s1,s2,by rw[<-w1.len];exact hk,λH' r as g hr hl hh=>?_⟩;exact zhV aL h3 H' r _ g hr (zhI g aL.lz (λa e=>aL.nz e) w1 w2 hl hh)
     ·rw[if_neg hk] at o;exact o.elim
theorem zog(hc:X.aj=true)(hm:X.mg "list"=none)(hg:JK X "list" .globalImplicit)(p7:X.mg "zip"=none)(pZ:JK X "zip" .globalImplicit)(ha:JA X cA ao aj F EX [a,b] Xs)(h1:aF a=true:=by rfl)(h2:aF b=true:=by rfl):JE X cA ao aj F EX (.Call (.Name "list" p) [.Call (.Name "zip" p') [a,b] [] pos'] [] pos) (.pr fz .rK Xs):=⟨znt hc hg.o hm pZ.o p7 ha.o (bA h1) (bA h2)⟩
end
end Mi
namespace L2
open PySem PySem.Spec PyProof.Rows
theorem zgC(xs:List Value):slicePick xs.toArray none (some 0) (some (-1))=(xs.drop 1).reverse.toArray:=by
 unfold slicePick;have e1:(sliceBounds none (some 0) (some (-1)) xs.toArray.size)=((xs.length:Int)-1,max (-1) (min 0 ((xs.length:Int)-1)),-1):=by
  simp[sliceBounds]
 rw[e1]
 congr 1
 cases xs with
 |nil=>rfl
 |cons x xs=>
  have e2:max (-1) (min (0:Int) (((x::xs).length:Int)-1))=0:=by rw[fu];lia
  have e3:sliceRange (((x::xs).length:Int)-1) 0 (-1)=(List.range xs.length).map λk:Nat=>xs.length-k:=by
   unfold sliceRange;rw[fu];have:(if ((xs.length+1:Nat):Int)-1>0 then (((xs.length+1:Nat):Int)-1-0 - -1-1)/(- -1) else 0).toNat=xs.length:=by
    split
    ·rw[show (- -1:Int)=1 from rfl,Int.ediv_one];lia
    ·lia
   simp only[show ¬((-1:Int)>0) by decide,lq,this];refine Hr λk hk=>?_;have:=lJ.mp hk
   lia
  show (sliceRange _ (max (-1) (min (0:Int) (((x::xs).length:Int)-1))) (-1)).filterMap _=_;rw[e2,e3,List.filterMap_map];have:∀k∈List.range xs.length,((λi:Nat=>(x::xs).toArray[i]?)∘λk:Nat=>xs.length-k) k=some ((x::xs).getD (xs.length-k) .none):=λk hk=>by
   have:=lJ.mp hk;simp only[Function.comp,BL,g_];rw[dj (by rw[fu];lia)];rfl
  rw[Ts.nj this];show _=xs.reverse;apply M5
  ·simp
  ·intro i h1 h2;have hi:i<xs.length:=by simpa using h2
   rw[M6,List.getElem_range,List.getElem_reverse,g_,show xs.length-i=(xs.length-1-i)+1 by lia,G_,dj gV];rfl
section
variable {X:Cx}{e:Expr}{te:TE}{pos p2:Pos}
theorem zjc{j j':Nat}{p3 p4 p5:Pos}(he:PE X e te):PE X (.Subscript e (.Slice none (some (.Constant (.int 0) j' p5)) (some (.UnaryOp .USub (.Constant (.int 1) j p3) p4)) p2) pos) (λZ H Q=>te Z H λx H1=>∃a xs,x=.ref a/\cY X.K H1 a xs/\∀p,H1 p=none->Q (.ref p) (upd H1 p (.lst (xs.drop 1).reverse))):=by
 intro ak s Z H Q I h;refine Subscript_ (aU (he ak s Z H _ I h) λv s1 hz=>?_);obtain⟨x,H1,I1,r1,a,xs,ex,hx,q⟩:=hz;subst ex;cases r1;refine wpAny_Slice ?_;rw[evalPart_none];refine aN ?_;rw[evalPart_some];refine aU (Nt ak s1 Z H1 (λv H'=>v=.int 0/\H'=H1) I1 ⟨rfl,rfl⟩) λu s2 hz=>?_;obtain⟨z,H2,I2,r2,ez,eH⟩:=hz;subst ez eH;obtain⟨t0,rfl⟩:=r2;rw[evalPart_some];refine aU (Ye (r:=rU λi=>.int (-i)) Yg Nt ak s2 Z H2 (λv H'=>v=.int (-1)/\H'=H2) I2 ⟨1,rfl,rfl,rfl⟩) λu s3 hz=>?_;obtain⟨z,H3,I3,r3,ez,eH⟩:=hz;subst ez eH;obtain⟨t,rfl⟩:=r3;have I4:Inv X ak Z H3 {s3 with heap:=s3.heap.push {cls:=.type "slice",data:=.fields #[.none,.int 0 t0,.int (-1) t]}}:=I3.kept (t':=s3.toks) λb ob q=>cF _ q;obtain⟨its,r,ht,hz⟩:=I4.list hx;have hlen:=r.length;show wpAny (model X.prog X.w) X.A (subscriptTail e (.Slice none (some (.Constant (.int 0) j' p5)) (some (.UnaryOp .USub (.Constant (.int 1) j p3) p4)) p2) (.ref a) (.ref s3.heap.objs.size)) (EP X ak Z Q) X.xe {s3 with heap:=s3.heap.push {cls:=.type "slice",data:=.fields #[.none,.int 0 t0,.int (-1) t]}};refine tail_any (ops:=[.ref a,.ref s3.heap.objs.size]) ht.isList.typeIs slot_list_getitem.lookup (wpAny_getItem_list_slice ht.isList (Heap.IsSliceOf.new ..) .none (.int 0 t0) (.int (-1) t) J0 ?_ (by rw[dH];lia)) (by with_unfolding_all rfl);rw[zgC];refine⟨.ref _,_,I4.laid (t':=s3.toks) (o:=.lst (xs.drop 1).reverse) (λb ob q=>cF _ q) (bL _) ?_,rfl,q _ (I4.hok.fresh (bL _))⟩;have rv:∀{xs:List V} {us:List Value},Vals xs us->Vals xs.reverse us.reverse:=λ{xs us} r=>by
  induction r with
  |nil=>exact .nil
  |cons a b ih=>rw[MJ,MJ];exact ih.append (.cons a .nil)
 exact⟨by rw[List.length_reverse,wV];lia,_,0,rv (r.drop 1),fj _ rfl⟩
theorem zim{i:Int}(h:0<=i):PySem.Builtin.bitAnd i 1=i%2:=by
 have:PySem.Builtin.bitAnd i 1=((i.toNat &&& 1:Nat):Int):=by
  show (match decide (0<=i),decide ((0:Int)<=1) with|true,true=>_|true,false=>_|false,true=>_|false,false=>_)=_;rw[dM h];rfl
 rw[this,Nat.and_one_is_mod]
 lia
theorem zjE:dF X (binaryOp .BitAnd) (rI (λi j=>j=1/\0<=i) λi j=>.int (i%2)):=Cz λi j _ _ _ _ _ hc q=>and_int (by
 rw[hc.1,zim hc.2];exact q)
end
end L2
namespace Mi
open PySem PySem.Spec PyProof.Rows L2 PySem.W
noncomputable def isI(k:Int):Value->Bool
 |.int c _=>c==k
 |_=>false
theorem zlo{A:Around}{sh:Shared}{k:Int}{tk:Tok}{bs:List Int}{its:List Value}(rv:Vals (bs.map V.int) its):∀y,y∈its.toArray->SeqAt.EqAt A sh y (.int k tk) (isI k y):=λy hy=>by
 have hy:y∈its:=by simpa using hy
 obtain⟨i,hi,e⟩:=wO hy;have hl:=rv.length;rw[aW] at hl;obtain⟨u,e1,e2⟩:=rv.get (i:=i) (x:=V.int (bs[i]' gV)) (by rw[gK,dj gV];rfl);rw[dj hi,e] at e1;cases e1;obtain⟨t,rfl⟩:=e2;exact SeqAt.EqAt.int_int _ _ _ _
theorem zgc{k:Int}:∀{bs:List Int} {its:List Value} {j:Nat},Vals (bs.map V.int) its->bs.idxOf? k=some j->∃hj:j<its.length,isI k its[j]=true/\∀m (hm:m<its.length),m<j->isI k its[m]=false
 |[],_,j,.nil,h=>by simp at h
 |b::bs,_,j,.cons r t,h=>by
  obtain⟨tk,rfl⟩:=r;rw[List.idxOf?_cons] at h;by_cases hb:b=k
  ·subst hb;simp at h;subst h;exact⟨Nat.zero_lt_succ _,by simp[isI],λm hm z=>absurd z (Nat.not_lt_zero _)⟩
  ·have hb':(b==k)=false:=by simpa using hb
   rw[hb'] at h;simp at h;obtain⟨j',h1,h2⟩:=h;subst h2;obtain⟨hj,a1,a2⟩:=zgc t h1;refine⟨by simpa using hj,by simpa using a1,λm hm z=>?_⟩;cases m with
   |zero=>simp[isI,hb']
   |succ m=>simpa using a2 m (by simpa using hm) gV
section
variable {X:Cx}{cA:Cl}{ao:Nat->Nat->Bool}{aj:Bool}{F:Fn}{EX:XS}{a e:Expr}{A:E}{pos p2 apos:Pos}{es:List Expr}{Xs:Es}{fz:Bool}
theorem zgA:Rm X "list.index" (λx xs H Q=>∃(l:Addr) (bs:List Int) (b:Int) (j:Nat),x=.ref l/\xs=[.int b]/\cY X.K H l (bs.map V.int)/\bs.idxOf? b=some j/\Q (.int j) H):=by
 rintro ak sh Z H x xs v us Q I rx r ⟨l,bs,b,j,e1,e2,hl,hj,q⟩;subst e1 e2;cases (show v=Value.ref l from rx);obtain⟨u,rfl,tk,rfl⟩:=Vals.one r;obtain⟨its,rv,pl,hz⟩:=I.list hl;obtain⟨⟨cls,dd,data,sl⟩,hg,hc,n,hd⟩:=pl.isList;simp only at hc hd;subst hc hd;obtain⟨bW,h1,h2⟩:=zgc rv hj;have hs:(j:Int)<2^63-1:=by
  have z:=rv.length;rw[sZ] at hz
  lia
 refine call_meets PySem.F.slot_list_index ⟨_,hg,rfl⟩ PySem.F.entry_list_index (PySem.F.args_list_index_2 _ _) (SeqAt.list_indexAt l its.toArray n dd sl (.int b tk) (isI b) j (by simpa using bW) hs (by simpa using h1) (λm hm z=>by simpa using h2 m (by simpa using hm) z)) ⟨hg,zlo rv,?_⟩;exact⟨.int j,H,I.tok _,⟨_,rfl⟩,q⟩
theorem zgK{K:W.Frag}:Zw K cA .jT (λx xs H Q=>∃(l:Addr) (bs:List Int) (b:Int) (j:Nat),x=.ref l/\xs=[.int b]/\cY K H l (bs.map V.int)/\bs.idxOf? b=some j/\Q (.int j) H):=by
 intro U H ds vs Q zt rs o;have o:aY K cA U H (m5 ds) Q:=o;unfold m5 at o;split at o
 ·obtain⟨v,v',rfl,⟨ad,us,rfl,l,q⟩,r2⟩:=rs.two (ds:=[]);obtain⟨z,e⟩:=o.some';obtain⟨j,e1,e2⟩:=jk.mp e;obtain⟨bs,e3,e4⟩:=wN.mp e1;subst e2;cases r2;exact⟨_,_,rfl,ad,bs,_,j,rfl,rfl,by rw[<-KY e3 q];exact l,e4,(o.of e).here (.int _)⟩
 ·exact o.elim
theorem zhr(ho:JE X cA ao aj F EX a A)(ha:JA X cA ao aj F EX (e::es) Xs)(iG:attributeBase a "index" X.env (eval a X.env)=eval a X.env:=by rfl)(pD:decide (es.length<28)=true:=by rfl)(iH:(apos.endLine==pos.line)=true:=by rfl)(hs:aF e=true:=by rfl)(fM:es.all aF=true:=by rfl) :
  JE X cA ao aj F EX (.Call (.Attribute a "index" apos) (e::es) [] pos) (.meth true .jT .list A Xs):=⟨zjI (k:=.list) PySem.F.plainAttrs_list PySem.F.slot_list_index PySem.F.type_list_index zgA zgK ho.o ha.o iG (qN hs fM pD) iH (bA hs) (bB fM)⟩
theorem zni:JQ X cA .LShift .shl:=⟨_,zlu,Am rfl λi j d e=>by obtain⟨c,rfl⟩:=Ao e;exact⟨⟨c.1,Int.le_trans c.2.1 Dc,c.2.2⟩,λ_ _=>.int _⟩⟩
theorem zny:JQ X cA .RShift .shr:=⟨_,zl6,Am rfl λi j d e=>by obtain⟨c,rfl⟩:=Ao e;exact⟨c.1,λ_ _=>.int _⟩⟩
theorem zlD:JQ X cA .BitAnd .band:=⟨_,zjE,Am rfl λi j d e=>by obtain⟨c,rfl⟩:=Ao e;exact⟨c,λ_ _=>.int _⟩⟩
theorem zkg{j j':Nat}{p3 p4 p5:Pos}(ha:SE X cA ao aj F EX a A):SE X cA ao aj F EX (.Subscript a (.Slice none (some (.Constant (.int 0) j' p5)) (some (.UnaryOp .USub (.Constant (.int 1) j p3) p4)) p2) pos) (.pr fz .uP (.cons A .nil)):=PE.weak (zjc ha) λZ H Q hh=>un hh λU J s hL hS h=>by
 have h:Run X.K cA (M.bd (M.bd (ev ao aj F A J) λx=>M.bd (M.ret []) λz=>M.ret (x::z)) λvs=>M.bd (gb vs) λds=>bJ fz (prim .uP ds)) U H s _ _:=h;simp only[gM] at h;refine bG hL hS h λx H1 U1 d1 s1 x1 hL1 aL r1 h1=>?_;obtain⟨ds,rs,h3⟩:=pO aL (.cons r1 .nil) h1;have o:aY X.K cA U1 H1 (uX ds) Q:=oK aL h3;unfold uX at o;split at o
 ·obtain⟨v,e,ad,us,rfl,t,q⟩:=rs.one;cases e;have dr:∀{xs:List D} {us:List V},aB X.K cA U1 H1 xs us->aB X.K cA U1 H1 (xs.drop 1) (us.drop 1):=λ{xs us} r=>by
   cases r with
   |nil=>exact .nil
   |cons _ r=>exact r
  exact⟨ad,us,rfl,t,λp hp=>o p _ hp (dr q).rev⟩
 ·exact o.elim
theorem zmq{j j':Nat}{p3 p4 p5:Pos}(ha:JE X cA ao aj F EX a A):JE X cA ao aj F EX (.Subscript a (.Slice none (some (.Constant (.int 0) j' p5)) (some (.UnaryOp .USub (.Constant (.int 1) j p3) p4)) p2) pos) (.pr fz .uP (.cons A .nil)):=⟨zkg ha.o⟩
end
end Mi
namespace Mi
open PySem
def Rp(d:D):Prop:=∃t,prim .repr [d]=some (.dat (.str t))
def rpN(n:Nat)(x:D):Prop:=∃p,pd n x=some p/\p.showable=true/\p.leavesShort 40=true/\p.weight<=1000
theorem zmf{d:D}{p:PyData}(h:Gk d=some p)(hs:p.showable=true)(hl:p.leavesShort 40=true)(hw:p.weight<=200000):Rp d:=by
 refine⟨p.shown,?_⟩;show (Gk d).bind Gm=_;rw[h];show Gm p=_;unfold Gm;have h1:=PyData.shown_le 40 Dc p hl;have h2:sizeLine=16777216:=sZ;rw[if_pos ⟨hs,by lia⟩]
theorem zeB{n k:Nat}(hk:0<k)(h:n<2^k):n.log2<k:=by
 by_cases z:n=0
 ·subst z;simpa using hk
 ·exact(Nat.log2_lt z).mpr h
theorem zkm{n:Nat}{i:Int}(h:i.natAbs<10^38):rpN n (.int i):=by
 have h2:i.natAbs<2^127:=Nat.lt_trans h Dc;have h3:=zeB Dc h2;refine⟨.int i,by cases n<;>rfl,?_,?_,?_⟩
 ·simp only[PyData.showable];exact dM gV
 ·have e:=int_text_length_le10 (k:=38) Dc h;simp only[PyData.leavesShort];refine dM ?_;show (Str.ofString (toString i)).length<=40;rw[ofString_length]
  lia
 ·simp only[PyData.weight]
  split<;>lia
end Mi
namespace Mi
open PySem Ts
noncomputable def Fi(n:Int):D->Bool
 |.tup xs=>decide ((xs.length:Int)=n)
 |_=>false
noncomputable def yW(a b:Int):D->Bool
 |.int i=>decide (a<=i/\i<=b)
 |_=>false
end Mi
namespace Mi
open PySem
theorem Kbc{n:Nat}{c:List D}{s:S}{P:Src×Nat->S->Prop}(e:s[n]?=some (.lst c))(h:P (.live n,c.length) s):W (src (.l n)) s P:=⟨_,s,by unfold src;simp only[e],h⟩
theorem W.c0{F:List Xv->M Xv}{xs:List Xv}{s:S}{e:D}{P:Xv->S->Prop}(h:W (F (dB 0 xs)) [] λv _=>v=.d e)(k:P (.d e) s)(hl:locs xs=[]:=by rfl):W (bT F xs) s P:=tR hl (h.imp λ_ _ q=>⟨_,q,k⟩)
theorem W.c1{F:List Xv->M Xv}{xs:List Xv}{s:S}{P:Xv->S->Prop}(h:W (F (dB 0 xs)) [] λv _=>∃d,v=.d d)(k:∀d,P (.d d) s)(hl:locs xs=[]:=by rfl):W (bT F xs) s P:=tR hl (h.imp λ_ _ ⟨d,q⟩=>⟨d,q,k d⟩)
section
variable {ao:Nat->Nat->Bool}{aj:Bool}{F:Fn}{J:Vs}{s:S}{P:Xv->S->Prop}
theorem KaP{xs:List D}{P:Src×Nat->S->Prop}(h:P (.fix (enumFrom 0 xs),(enumFrom 0 xs).length) s):W (n_ (.d (.tup xs))) s P:=⟨_,s,rfl,h⟩
end
theorem zbx{α:Type}{f:α->D}:∀(l:List α) (j:Nat),enumFrom j (l.map f)=(l.zipIdx j).map λp=>.tup [.int p.2,f p.1]
 |[],j=>rfl
 |a::l,j=>by rw[lK,List.zipIdx_cons,lK,<-zbx l (j+1)];rfl
theorem Pq{o:Option Rz}{xs:List D}{s:S}{P:Xv->S->Prop}(e:o=some (.nw xs))(h:P (.l s.length) (s++[.lst xs])):W (bJ false o) s P:=by subst e;exact⟨_,_,rfl,h⟩
theorem VD{k':Nat}:∀(a b:List Int),eN (dz k') (a.map D.int) (b.map D.int)=some (decide (a=b))
 |[],[]=>by simp[eN]
 |[],_::_=>by simp[eN]
 |_::_,[]=>by simp[eN]
 |x::a,y::b=>by
  have hi:dz k' (.int x) (.int y)=some (x==y):=by cases k'<;>rfl
  simp only[lK,eN,VD a b,hi]
  congr 1
  by_cases e:x=y<;>by_cases e2:a=b<;>simp[e,e2]
theorem znH{f:Bool->Bool}{a b:List Int}:Dp f [.tup (a.map .int),.tup (b.map .int)]=some (.dat (.bl (f (decide (a=b))))):=by
 show Option.map _ (eN (dz 49) (a.map D.int) (b.map D.int))=_;rw[VD];rfl
section
variable {n k d:Int}{ps:List (Int×Int)}{ls:List Int}
theorem Pu(w:Web n ps){i e:Int}:e∈bH i ps↔(i,e)∈ps\/(e,i)∈ps:=by
 unfold bH;rw[vP]
 constructor
 ·rintro⟨p,hp,h⟩;obtain⟨a,b⟩:=p;unfold endOf at h;dsimp only at h;split at h
  ·cases h;subst_vars;exact .inl hp
  ·split at h
   ·cases h;subst_vars;exact .inr hp
   ·cases h
 ·rintro(hp|hp)
  ·exact⟨_,hp,by simp[endOf]⟩
  ·have:=w.tie _ hp;dsimp only at this;exact⟨_,hp,by unfold endOf;dsimp only;rw[if_neg gV,if_pos rfl]⟩
end
structure Fd(f:Nat->D->Option PyData):Prop where
 tup:∀j xs,f (j+1) (.tup xs)=(mZ (f j) xs).map .tuple
 str:∀j s,f j (.str s)=some (.str s)
 int:∀j i,f j (.int i)=some (.int i)
 bl:∀j b,f j (.bl b)=some (.bool b)
 non:∀j,f j .non=some .none
theorem wG:Fd pd:=⟨λ_ _=>rfl,λj _=>by cases j<;>rfl,λj _=>by cases j<;>rfl,λj _=>by cases j<;>rfl,λj=>by cases j<;>rfl⟩
def RG(f:Nat->D->Option PyData)(j B:Nat)(x:D):Prop:=∃p,f j x=some p/\p.showable=true/\p.leavesShort 40=true/\p.weight<=B
def wH(f:Nat->D->Option PyData)(j B:Nat)(xs:List D):Prop:=∃ps,mZ (f j) xs=some ps/\PyData.showableAll ps=true/\PyData.leavesShortAll 40 ps=true/\PyData.weightAll ps<=B
section
variable {f:Nat->D->Option PyData}{j A B:Nat}{x:D}{xs:List D}
theorem RG.mono(h:RG f j A x)(hb:A<=B):RG f j B x:=let ⟨p,a,b,c,d⟩:=h;⟨p,a,b,c,jH d hb⟩
theorem wH.mono(h:wH f j A xs)(hb:A<=B):wH f j B xs:=let ⟨p,a,b,c,d⟩:=h;⟨p,a,b,c,jH d hb⟩
theorem eO:wH f j 0 []:=⟨[],rfl,rfl,rfl,bL _⟩
theorem tW(h:RG f j A x)(r:wH f j B xs):wH f j (A+1+B) (x::xs):=by
 obtain⟨p,e1,e2,e3,e4⟩:=h;obtain⟨ps,f1,f2,f3,f4⟩:=r;refine⟨p::ps,?_,?_,?_,?_⟩
 ·unfold mZ;rw[e1,f1]
 ·simp only[PyData.showableAll,e2,f2,Bool.and_self]
 ·simp only[PyData.leavesShortAll,e3,f3,Bool.and_self]
 ·simp only[PyData.weightAll];lia
theorem zf6:∀{xs:List D},(∀x∈xs,RG f j A x)->wH f j (xs.length*(A+1)) xs
 |[],_=>eO.mono (jm _)
 |x::r,h=>(tW (h x J0) (zf6 λy hy=>h y (eF _ hy))).mono (by rw[fu,Nat.succ_mul];lia)
theorem Fj(hf:Fd f)(h:wH f j A xs):RG f (j+1) A (.tup xs):=by
 obtain⟨ps,f1,f2,f3,f4⟩:=h;exact⟨.tuple ps,by rw[hf.tup,f1];rfl,by simp only[PyData.showable];exact f2,by simp only[PyData.leavesShort];exact f3,by simp only[PyData.weight];exact f4⟩
theorem zkB(h:wH pd j A xs):RG pd (j+1) A (.fl xs):=by
 obtain⟨ps,f1,f2,f3,f4⟩:=h;exact⟨.list ps,by show Option.map _ (mZ (pd j) xs)=_;rw[f1];rfl,by simp only[PyData.showable];exact f2,by simp only[PyData.leavesShort];exact f3,by simp only[PyData.weight];exact f4⟩
theorem ziY(hf:Fd f){i:Int}(h:i.natAbs<16):RG f j 10 (.int i):=by
 obtain⟨p,e,h1,h2,h3⟩:=zkm (n:=0) (i:=i) (Nat.lt_trans h Dc);cases (show PyData.int i=p from dJ e);have h4:=zeB (k:=4) Dc h;refine⟨.int i,hf.int _ _,h1,h2,?_⟩;simp only[PyData.weight]
 split<;>lia
theorem zld(hf:Fd f){w:Str}(h:(PyData.str w).leavesShort 40=true/\w.cps.size<=10):RG f j 10 (.str w):=⟨.str w,hf.str _ _,rfl,h.1,h.2⟩
end
theorem zm3:∀(j:Nat) {x:D} {a b:PyData},pd j x=some a->pe j x=some b->a=b:=by
 have hs:∀j,(∀{x:D} {a b:PyData},pd j x=some a->pe j x=some b->a=b)->∀(xs:List D) {a b:List PyData},mZ (pd j) xs=some a->mZ (pe j) xs=some b->a=b:=by
  intro j ih xs
  induction xs with
  |nil=>intro a b h1 h2;cases h1;cases h2;rfl
  |cons x r ihr=>
   intro a b h1 h2;unfold mZ at h1 h2;split at h1
   ·rename_i a1 a2 e1 e2;split at h2
    ·rename_i b1 b2 e3 e4;cases h1;cases h2;rw[ih e1 e3,ihr e2 e4]
    ·cases h2
   ·cases h1
 intro j
 induction j with
 |zero=>
  intro x a b h1 h2;cases x<;>first|(cases h1;done)|(cases h1;cases h2;rfl)
 |succ j ih=>
  intro x a b h1 h2;cases x with
  |tup xs=>
   obtain⟨p,e1,rfl⟩:=jk.mp (show (mZ (pd j) xs).map PyData.tuple=some a from h1);obtain⟨q,e2,rfl⟩:=jk.mp (show (mZ (pe j) xs).map PyData.tuple=some b from h2);rw[hs j ih xs e1 e2]
  |fl xs=>cases h2
  |_=>first|(cases h1;done)|(cases h1;cases h2;rfl)
theorem zkI{f:Nat->D->Option PyData}(hf:f=pd\/f=pe){x:D}{B:Nat}(h:RG f 40 B x)(hb:B<=200000):Rp x:=by
 obtain⟨p,e,h1,h2,h3⟩:=h;have h3:p.weight<=200000:=jH h3 hb;by_cases hx:∃k i,x=.fd [.str k] [.int i]
 ·obtain⟨k,i,rfl⟩:=hx;refine zmf (p:=p) ?_ h1 h2 h3;rcases hf with rfl|rfl
  ·cases e
  ·exact e
 ·refine zmf (p:=p) ?_ h1 h2 h3;have ep:Gk x=SX (pd 40 x) (pe 40 x):=by
   unfold Gk
   split
   ·exact absurd ⟨_,_,rfl⟩ hx
   ·rfl
  rw[ep];rcases hf with rfl|rfl
  ·rw[e];rfl
  ·cases e2:pd 40 x with
   |none=>exact e
   |some q=>rw[zm3 40 e2 e];rfl
theorem Kam{F:List Xv->M Xv}{xs:List Xv}{n:Nat}{o:SO}{s:S}{P:Xv->S->Prop}(hl:locs xs=[n])(ho:s[n]?=some o)(h:W (F (dB 0 xs)) [o] λv s1=>∃d o' r,v=.d d/\s1=o'::r/\P (.d d) (s.set n o')):W (bT F xs) s P:=by
 obtain⟨v,s1,e,d,o',r,rfl,rfl,p⟩:=h;refine⟨.d d,s.set n o',?_,p⟩;unfold bT;rw[hl,if_pos J0];simp only[jg,ho,e,cV]
noncomputable def iK:List Int->List (Int×Int)
 |[]=>[]
 |a::r=>r.map (λb=>(a,b))++iK r
theorem VF:∀is:List Int,((iK is).length:Int)*2=(is.length:Int)*((is.length:Int)-1)
 |[]=>by simp[iK]
 |a::r=>by
  have ih:=VF r;show (((r.map (λb=>(a,b))++iK r).length:Nat):Int)*2=_;rw[h_,aW,fu];have:((r.length+1:Nat):Int)*(((r.length+1:Nat):Int)-1)=(r.length:Int)*((r.length:Int)-1)+2*r.length:=by
   have e1:((r.length+1:Nat):Int)=(r.length:Int)+1:=by lia
   rw[e1,Int.add_sub_cancel,Int.add_mul,Int.mul_sub]
   lia
  rw[this,<-ih]
  lia
theorem G3:∀{is:List Int},is.Pairwise (·<·)->∀{p:Int×Int},p∈iK is↔p.1∈is/\p.2∈is/\p.1<p.2
 |[],_,p=>by simp[iK]
 |a::r,h,p=>by
  obtain⟨h1,h2⟩:=qg.mp h;show p∈r.map (λb=>(a,b))++iK r↔_;rw[eU,G3 h2,eE];obtain⟨x,y⟩:=p
  constructor
  ·rintro(⟨b,hb,e⟩|⟨p1,p2,p3⟩)
   ·cases e;exact⟨gA,eF _ hb,h1 _ hb⟩
   ·exact⟨eF _ p1,eF _ p2,p3⟩
  ·rintro⟨p1,p2,p3⟩;rcases bZ.mp p1 with e|e
   ·rcases bZ.mp p2 with e'|e'
    ·dsimp only at e e' p3;lia
    ·exact .inl ⟨y,e',by dsimp only at e;rw[e]⟩
   ·rcases bZ.mp p2 with e'|e'
    ·have:=h1 _ e;dsimp only at e' this p3
     lia
    ·exact .inr ⟨e,e',p3⟩
theorem zdh:∀{is:List Int},is.Pairwise (·<·)->(iK is).Nodup
 |[],_=>zF
 |a::r,h=>by
  obtain⟨h1,h2⟩:=qg.mp h;show (r.map (λb=>(a,b))++iK r).Nodup;rw[Hu];refine⟨?_,zdh h2,λx hx y hy e=>?_⟩
  ·rw[rz,sY];exact h2.imp λ{x y} z e=>by cases e;lia
  ·subst e;obtain⟨b,hb,rfl⟩:=eE.mp hx;have:=h1 _ ((G3 h2).mp hy).1;dsimp only at this
   lia
noncomputable def inn(ps:List (Int×Int))(is:List Int):List (Int×Int):=ps.filter λp=>decide (p.1∈is)&&decide (p.2∈is)
def Ly(n:Int)(ps:List (Int×Int))(is:List Int):Prop:=1<=is.length/\(is.length:Int)<=n/\(∀i∈is,0<=i/\i<n)/\is.Pairwise λa b=>(a,b)∈ps
def VG(n:Int)(ps:List (Int×Int))(is:List Int):Prop:=is≠[]/\is=sortI (aD is)/\0<=at' is 0/\at' is ((is.length:Int)-1)<n/\((inn ps is).length:Int)=(is.length:Int)*((is.length:Int)-1)/2
theorem Bs{is:List Int}{i:Nat}(h:i<is.length):at' is (i:Int)=is[i]:=by
 unfold at';rw[wR,g_,dj h];rfl
theorem VH{is:List Int}(h:is.Pairwise (·<·)){i j:Nat}(lZ:i<=j)(hj:j<is.length):is[i]<=is[j]:=by
 rcases zK i j with z|z
 ·exact Int.le_of_lt (oY.mp h i j _ _ z)
 ·obtain rfl:i=j:=by lia
  exact Int.le_refl _
theorem jM{ps:List (Int×Int)}{is:List Int}{p:Int×Int}:p∈inn ps is↔p∈ps/\p.1∈is/\p.2∈is:=by
 unfold inn;rw[List.mem_filter,gB,zy,zy]
theorem zfI{n:Int}{ps:List (Int×Int)}(w:Web n ps)(is:List Int):Ly n ps is↔VG n ps is:=by
 constructor
 ·rintro⟨h1,h2,h3,h4⟩;have asc:is.Pairwise (·<·):=h4.imp λh=>(w.tie _ h).2.1;have hne:is≠[]:=by rintro rfl;simp at h1
  have hl:is.length-1<is.length:=by lia
  refine⟨hne,Pj asc (Lr (yV is)) λx=>(dZ.trans dl_mem).symm,?_,?_,?_⟩
  ·rw[show (0:Int)=((0:Nat):Int) from rfl,Bs gV];exact(h3 _ (lH _)).1
  ·rw[show (is.length:Int)-1=((is.length-1:Nat):Int) by lia,Bs hl];exact(h3 _ (lH _)).2
  ·have e:(inn ps is).length=(iK is).length:=by
    refine Nat.le_antisymm (Ts.bV ((zej w.inc).filter _) λp hp=>?_) (Ts.bV (zdh asc) λp hp=>?_)
    ·obtain⟨a,b,c⟩:=jM.mp hp;exact(G3 asc).mpr ⟨b,c,(w.tie _ a).2.1⟩
    ·obtain⟨a,b,c⟩:=(G3 asc).mp hp;refine jM.mpr ⟨?_,a,b⟩;obtain⟨i,hi,e1⟩:=wO a;obtain⟨j,hj,e2⟩:=wO b;have lZ:i<j:=by
      rcases zK i j with z|z
      ·exact z
      ·have:=VH asc z hi
       lia
     have:=oY.mp h4 i j hi hj lZ
     rwa [e1,e2] at this
   rw[e];have:=VF is
   lia
 ·rintro⟨h1,h2,h3,h4,h5⟩;have asc:is.Pairwise (·<·):=by rw[h2];exact Lr (yV is)
  have hp:0<is.length:=Ht.mpr h1;have hl:is.length-1<is.length:=by lia
  rw[show (0:Int)=((0:Nat):Int) from rfl,Bs hp] at h3;rw[show (is.length:Int)-1=((is.length-1:Nat):Int) by lia,Bs hl] at h4;have cG:∀i∈is,0<=i/\i<n:=λx hx=>by
   obtain⟨i,hi,rfl⟩:=wO hx;have a1:=VH asc (jm i) hi;have a2:=VH asc (show i<=is.length-1 by lia) hl
   lia
  have e:(inn ps is).length=(iK is).length:=by
   have:=VF is
   lia
  have ao:∀p∈inn ps is,p∈iK is:=λp hp=>by
   obtain⟨a,b,c⟩:=jM.mp hp;exact(G3 asc).mpr ⟨b,c,(w.tie _ a).2.1⟩
  have back:∀p∈iK is,p∈inn ps is:=λp hp=>by
   by_cases z:p∈inn ps is
   ·exact z
   ·have:=Ts.bV (l:=p::inn ps is) (m:=iK is) (pq.mpr ⟨z,(zej w.inc).filter _⟩) λx hx=>by
     rcases bZ.mp hx with rfl|hx
     ·exact hp
     ·exact ao x hx
    rw[fu] at this
    lia
  refine⟨hp,?_,cG,?_⟩
  ·have:=O2 asc (λe he=>cG e he) (by have:=w.h1;lia:(0:Int)<=n)
   lia
  ·refine(Qp.mp asc).imp λ{a b} z=>?_;exact(jM.mp (back (a,b) ((G3 asc).mpr ⟨z.1,z.2.1,z.2.2⟩))).1
noncomputable def oV(is:List Int):List (Int×Int):=is.zip (is.drop 1++is.take 1)
theorem zhl{is:List Int}{i:Int}(h:i∈is):∃j,(i,j)∈oV is:=by
 obtain⟨k,hk,rfl⟩:=wO h;have hl:k<(is.drop 1++is.take 1).length:=by simp;lia
 refine⟨(is.drop 1++is.take 1)[k],BP.mpr ⟨k,by unfold oV;rw[List.length_zip];lia,?_⟩⟩;unfold oV;rw[List.getElem_zip]
noncomputable def iM(ps:List (Int×Int))(p:Int×Int):Bool:=decide ((if p.2<p.1 then p.2 else p.1,if p.2>p.1 then p.2 else p.1)∈ps)
theorem VJ{n:Int}{ps:List (Int×Int)}(w:Web n ps){a b:Int}:b∈bH a ps↔iM ps (a,b)=true:=by
 unfold iM;rw[Pu w,zy];dsimp only;rcases Int.lt_trichotomy a b with h|h|h
 ·rw[if_neg gV,if_pos h];refine⟨λz=>z.elim id λz=>?_,.inl⟩;have:=(w.tie _ z).2.1;dsimp only at this
  lia
 ·subst h;rw[show (if a<a then a else a)=a by split<;>rfl];exact⟨λz=>z.elim id id,.inl⟩
 ·rw[if_pos h,if_neg gV];refine⟨λz=>z.elim (λz=>?_) id,.inr⟩;have:=(w.tie _ z).2.1;dsimp only at this
  lia
noncomputable def tX(is:List Int):Int:=best (λa b=>decide (a<b)) (at' is 0) (is.drop 1)
noncomputable def wI(n:Int)(ps:List (Int×Int))(is:List Int):Bool:=decide (is≠[])&&(is.all (λi=>decide (0<=i/\i<n))&&(decide ((aD is).length=is.length)&&(decide (at' is 0=tX is)&&(oV is).all λp=>decide (p.2∈bH p.1 ps))))
noncomputable def Fl(n:Int)(ps:List (Int×Int))(is:List Int):Bool:=wI n ps is&&decide (at' is 1<at' is ((is.length:Int)-1))
noncomputable def Px(ps:List (Int×Int))(is:List Int):Bool:=decide (3<=is.length)&&(decide ((aD is).length=is.length)&&(decide (at' is 0=tX is)&&(decide (at' is 1<=at' is ((is.length:Int)-1))&&(oV is).all (iM ps))))
theorem VL:∀(l:List Int),(aD l).length<=l.length
 |[]=>bL _
 |a::l=>by
  have:=VL l;unfold aD
  split
  ·rw[fu];lia
  ·rw[fu,fu];lia
theorem zgI:∀{l:List Int},(aD l).length=l.length->l.Nodup
 |[],_=>zF
 |a::l,h=>by
  have:=VL l;unfold aD at h;split at h
  ·rw[fu] at h;lia
  ·rename_i hc;rw[fu,fu] at h;exact pq.mpr ⟨by simpa using hc,zgI gV⟩
theorem zd7{n:Int}{ps:List (Int×Int)}(w:Web n ps)(is:List Int):Fl n ps is=Px ps is:=by
 have ha:((oV is).all λp=>decide (p.2∈bH p.1 ps))=(oV is).all (iM ps):=by
  congr 1
  funext p
  rw[M9,zy];exact VJ w
 unfold Fl wI Px;rw[ha];by_cases h3:3<=is.length
 ·rw[dM h3,lg,dM (show is≠[] by rintro rfl;simp at h3),lg];by_cases hd:(aD is).length=is.length
  ·rw[dM hd,lg,lg];by_cases hm:at' is 0=tX is
   ·rw[dM hm,lg,lg];by_cases ht:(oV is).all (iM ps)=true
    ·have hp:is.all (λi=>decide (0<=i/\i<n))=true:=by
      rw[iV];intro i hi;obtain⟨j,hj⟩:=zhl hi;have:=iV.mp ht _ hj;rw[<-VJ w,Pu w] at this;rw[zy];rcases this with z|z
      ·have:=w.tie _ z;dsimp only at this;lia
      ·have:=w.tie _ z;dsimp only at this;lia
     rw[hp,ht,Bool.and_true,Bool.and_true,lg];have nd:=zgI hd;rw[M9,zy,zy,show (is.length:Int)-1=((is.length-1:Nat):Int) by lia,show (1:Int)=((1:Nat):Int) from rfl,Bs gV,Bs gV];have hne:is[1]≠is[is.length-1]:=λe=>by
      have:=Ts.gq nd gV gV e
      lia
     lia
    ·rw[show (oV is).all (iM ps)=false by simpa using ht];simp
   ·rw[fH hm];simp
  ·rw[fH hd];simp
 ·rw[fH h3,vR]
  match is,h3 with
  |[],_=>rfl
  |[a],_=>
   have:(oV [a]).all (iM ps)=false:=by
    show (iM ps (a,a)&&true)=false;rw[Bool.and_true,Mw];intro z;have:=(Pu w).mp ((VJ w).mpr z);rcases this with z|z
    ·have:=w.tie _ z;dsimp only at this;lia
    ·have:=w.tie _ z;dsimp only at this;lia
   rw[this];simp
  |[a,b],_=>
   have:decide (at' [a,b] 1<at' [a,b] ((([a,b]:List Int).length:Int)-1))=false:=fH (Int.lt_irrefl _);rw[this,Bool.and_false]
  |_::_::_::_,h=>simp at h
section
variable {ao:Nat->Nat->Bool}{F:Fn}{J:Vs}{s:S}{P:Xv->S->Prop}
theorem Kap{α β:Type}{f:α->D}{l:List α}{f2:β->D}{l2:α->List β}{fz:Bool}{elt:E}{tg Jz:List Nat}{it xZ:Wk}{fr:List Nat}{many:Nat}(g:α->β->D)(B:Nat)(hc:l.length*B<=sizeLine)(hB:∀x∈l,(l2 x).length<=B)
  (hw:W (iy ao true F it J) s λcn s1=>cn=(.fix (l.map f),(l.map f).length)/\s1=s)
  (hb:∀x∈l,sI (cW tg (f x) (blk many fr J)) λJ'=>(W (iy ao true F xZ J') s λcn s1=>cn=(.fix ((l2 x).map f2),((l2 x).map f2).length)/\s1=s)/\∀y∈l2 x,sI (cW Jz (f2 y) J') λJ2=>W (ev ao true F elt J2) s λv s2=>s2=s/\v=.d (g x y))
  (h:W (newL fz (l.flatMap λx=>(l2 x).map (g x))) s P):W (ev ao true F (.lU fz elt tg it Jz xZ fr many .no) J) s P:=by
 change W (_root_.ite (true=true) _ _) s P
 rw[if_pos rfl];refine W.bd (hw.imp λcn s1=>?_);rintro⟨rfl,rfl⟩;refine W.bd ?_;have hl0:∀m:List α,(∀x∈m,(l2 x).length<=B)->(m.flatMap λx=>(l2 x).map (g x)).length<=m.length*B:=by
  intro m
  induction m with
  |nil=>simp
  |cons a r ih=>
   intro hm;have:=hm a gA;have:=ih λx hx=>hm x (eF _ hx);simp only[List.flatMap_cons,h_,fu,aW];rw[Nat.succ_mul]
   lia
 refine W.walk (c:=l.map f) (λi acc s'=>s'=s1/\acc=(l.take i).flatMap λx=>(l2 x).map (g x)) ⟨rfl,rfl⟩ (λi x acc s' e hI=>?_) (λacc s' hI=>?_)
 ·obtain⟨rfl,rfl⟩:=hI;rw[gK] at e;cases el:l[i]? with
  |none=>rw[el] at e;cases e
  |some y=>
   rw[el] at e;cases e;have hi:i<l.length:=(gw.mp el).1;have ht:l.take (i+1)=l.take i++[y]:=by rw[Hz,el];rfl
   have hy:=iQ el;have Vt:(l.take i).length*B+B<=sizeLine:=by
    have:(l.take i).length+1<=l.length:=by rw[oZ];lia
    have:=Nat.mul_le_mul_right B this;rw[Nat.succ_mul] at this
    lia
   have q1:=hl0 (l.take i) λx hx=>hB x (Hl hx);have q3:=hB y hy;obtain⟨J',e1,hw2,Vw⟩:=hb y hy;refine W.bd (W.opt e1 ?_);refine W.bd (W.qt (hw2.imp λcn s2=>?_));rintro⟨rfl,rfl⟩;refine W.walk (c:=(l2 y).map f2) (λj acc s'=>s'=s2/\acc=((l.take i).flatMap λx=>(l2 x).map (g x))++((l2 y).take j).map (g y)) ⟨rfl,by simp⟩ (λj x acc s' e hI=>?_) (λacc s' hI=>?_)
   ·obtain⟨rfl,rfl⟩:=hI;rw[gK] at e;cases el2:(l2 y)[j]? with
    |none=>rw[el2] at e;cases e
    |some z=>
     rw[el2] at e;cases e;have hj:j<(l2 y).length:=(gw.mp el2).1;have ht2:(l2 y).take (j+1)=(l2 y).take j++[z]:=by rw[Hz,el2];rfl
     obtain⟨J2,e2,hv⟩:=Vw z (iQ el2);refine W.bd (W.opt e2 ?_);refine W.bd (W.qt (W.ret ?_));rw[if_pos rfl];refine W.bd (W.qt (hv.imp λv s4=>?_));rintro⟨rfl,rfl⟩;refine W.bd (W.dat ?_);rw[if_pos (by rw[h_,aW,oZ];lia)];refine W.ret ⟨rfl,?_⟩;rw[ht2,jN,BZ];rfl
   ·obtain⟨rfl,rfl⟩:=hI;refine⟨rfl,?_⟩;rw[aW,zA,ht,List.flatMap_append];simp
 ·obtain⟨rfl,rfl⟩:=hI;rw[aW,zA];exact h
end
theorem Bt(is:List Int):aC (is.map D.int)=some is:=by
 induction is with
 |nil=>rfl
 |cons i r ih=>show (aC (r.map D.int)).map (i::·)=_;rw[ih];rfl
theorem ziM{is:List Int}(h:rQ is=true):prim .fP [.tup (is.map .int)]=some (.dat (.int (aD is).length)):=by
 show (aC (is.map D.int)).bind lV=_;rw[Bt];show lV is=_;unfold lV;rw[h]
theorem znU{is:List Int}(h:rQ is=true):prim .jd [.tup (is.map .int)]=some (.nw ((sortI (aD is)).map .int)):=by
 show (aC (is.map D.int)).bind rR=_;rw[Bt];show rR is=_;unfold rR;rw[h]
theorem zlY{is:List Int}(h:is≠[]):prim .n8 [.tup (is.map .int)]=some (.dat (.int (tX is))):=by
 cases is with
 |nil=>exact absurd rfl h
 |cons i r=>
  show (dX (.tup ((i::r).map D.int))).bind (λxs=>jV _ (aC xs))=_;show jV _ (aC ((i::r).map D.int))=_;rw[Bt];rfl
theorem VN{is:List Int}(h:is≠[]):prim .ix [.tup (is.map .int),.int 0]=some (.dat (.int (at' is 0))):=Uw Dc (by have:=Ht.mpr h;lia)
theorem Py{is:List Int}(h:is≠[]):prim .ix [.tup (is.map .int),.int (-1)]=some (.dat (.int (at' is ((is.length:Int)-1)))):=by
 have hp:=Ht.mpr h;show Option.map Rz.dat (L2.qy (is.map D.int) (-1))=_;have:L2.qy (is.map D.int) (-1)=some (.int (at' is ((is.length:Int)-1))):=by
  unfold L2.qy L2.v8;rw[aW,if_neg Dc,if_pos gV];show (is.map D.int)[((is.length:Int) + -1).toNat]?=_;rw[show ((is.length:Int) + -1).toNat=is.length-1 by lia,gK,dj gV,show (is.length:Int)-1=((is.length-1:Nat):Int) by lia,Bs gV];rfl
 rw[this];rfl
theorem zgo(a b:List Int):yg (a.map .int) (b.map .int)=(a.zip b).map dG:=by
 unfold yg;rw[List.zipWith_map,List.map_zip_eq_zipWith];rfl
theorem zhc{α:Type}(xs:List α):cut xs (some 1) none=xs.drop 1:=by
 cases xs with
 |nil=>rfl
 |cons x r=>
  unfold cut HT.bM;simp
theorem zgj{α:Type}(xs:List α):cut xs none (some 1)=xs.take 1:=by
 cases xs with
 |nil=>rfl
 |cons x r=>
  unfold cut HT.bM;simp
theorem zol{is:List Int}(h:is.length<=100):prim .rK [.tup (is.map .int),.tup (cut (is.map D.int) (some 1) none++cut (is.map D.int) none (some 1))]=some (.nw ((oV is).map dG)):=by
 show Af (is.map D.int) _=_;unfold Af;rw[if_pos (by rw[aW];lia),zhc,zgj,<-Ng,<-Nf,<-jN,zgo];rfl
noncomputable def intsOf:D->Option (List Int)
 |.tup xs=>aC xs
 |_=>none
def wJ(p:D):Prop:=okT p=true/\∀xs,p=.tup xs->xs.length<=17/\∀is,aC xs=some is->rQ is=true
theorem wK:∀{xs:List D} {is:List Int},aC xs=some is->xs=is.map D.int
 |[],is,h=>by cases h;rfl
 |x::r,is,h=>by
  cases x with
  |int i=>
   cases e:aC r with
   |none=>rw[show aC (D.int i::r)=(aC r).map (i::·) from rfl,e] at h;cases h
   |some js=>
    rw[show aC (D.int i::r)=(aC r).map (i::·) from rfl,e] at h;cases h;rw[wK e];rfl
  |_=>cases h
theorem zi1{n:Int}{xs:List D}(h:xs.all (yW 0 (n-1))=true):∃is:List Int,xs=is.map D.int/\∀i∈is,0<=i/\i<n:=by
 induction xs with
 |nil=>exact⟨[],rfl,λi hi=>by cases hi⟩
 |cons x r ih=>
  rw[vU,gB] at h;obtain⟨is,rfl,hi⟩:=ih h.2;cases x with
  |int i=>
   have:0<=i/\i<=n-1:=lG h.1;refine⟨i::is,rfl,λj hj=>?_⟩;rcases bZ.mp hj with rfl|hj
   ·lia
   ·exact hi j hj
  |_=>cases h.1
theorem ziR{n:Int}{is:List Int}(h:(is.map D.int).all (yW 0 (n-1))=false):¬∀i∈is,0<=i/\i<n:=λz=>by
 rw[List.all_eq_false] at h;obtain⟨x,hx,hn⟩:=h;obtain⟨i,hi,rfl⟩:=eE.mp hx;have:=z i hi;exact hn (dM (show 0<=i/\i<=n-1 by lia))
theorem ziS{xs:List D}(h:xs.all Bg=true):∃is,aC xs=some is:=by
 induction xs with
 |nil=>exact⟨[],rfl⟩
 |cons x r ih=>
  rw[vU,gB] at h;obtain⟨is,e⟩:=ih h.2;cases x with
  |int i=>exact⟨i::is,by show (aC r).map (i::·)=_;rw[e];rfl⟩
  |_=>cases h.1
theorem ziD{xs:List D}(h:xs.all Bg=false):aC xs=none:=by
 cases e:aC xs with
 |none=>rfl
 |some is=>
  rw[wK e,List.all_eq_false] at h;obtain⟨x,hx,hn⟩:=h;obtain⟨i,_,rfl⟩:=eE.mp hx;exact absurd rfl hn
open Classical in
noncomputable def sU(n:Int)(ps:List (Int×Int))(p:D):Bool:=match intsOf p with
 |some is=>decide (Ly n ps is)
 |none=>false
noncomputable def wL(n:Int)(ps:List (Int×Int))(p:D):Bool:=match intsOf p with
 |some is=>Fl n ps is
 |none=>false
noncomputable def goB(n:Int)(ps:List (Int×Int))(p:D):Bool:=match intsOf p with
 |some is=>wI n ps is
 |none=>false
theorem VP{n:Int}{ps:List (Int×Int)}{xs:List D}{is:List Int}(e:aC xs=some is):goB n ps (.tup xs)=wI n ps is:=by
 show (match aC xs with|some is=>wI n ps is|none=>false)=_;rw[e]
theorem zeQ{n:Int}{ps:List (Int×Int)}{xs:List D}(e:aC xs=none):goB n ps (.tup xs)=false:=by
 show (match aC xs with|some is=>wI n ps is|none=>false)=_;rw[e]
theorem VR{n:Int}{ps:List (Int×Int)}{xs:List D}{is:List Int}(e:aC xs=some is):wL n ps (.tup xs)=Fl n ps is:=by
 show (match aC xs with|some is=>Fl n ps is|none=>false)=_;rw[e]
theorem V0{n:Int}{ps:List (Int×Int)}{xs:List D}(e:aC xs=none):wL n ps (.tup xs)=false:=by
 show (match aC xs with|some is=>Fl n ps is|none=>false)=_;rw[e]
open Classical in
theorem V1{n:Int}{ps:List (Int×Int)}{xs:List D}{is:List Int}(e:aC xs=some is):sU n ps (.tup xs)=decide (Ly n ps is):=by
 show (match aC xs with|some is=>decide (Ly n ps is)|none=>false)=_;rw[e]
theorem V2{n:Int}{ps:List (Int×Int)}{xs:List D}(e:aC xs=none):sU n ps (.tup xs)=false:=by
 show (match aC xs with|some is=>_|none=>false)=_;rw[e]
open Classical in
theorem V3{n:Int}{ps:List (Int×Int)}{xs:List D}(h:¬(1<=xs.length/\(xs.length:Int)<=n)):sU n ps (.tup xs)=false:=by
 cases e:aC xs with
 |none=>exact V2 e
 |some is=>
  rw[V1 e,fH];rintro⟨h1,h2,_⟩;rw[wK e,aW] at h;exact h ⟨h1,h2⟩
open Classical in
theorem zkE{n:Int}{ps:List (Int×Int)}{xs:List D}(h:xs.all (yW 0 (n-1))=false):sU n ps (.tup xs)=false:=by
 cases e:aC xs with
 |none=>exact V2 e
 |some is=>
  rw[V1 e,fH];rintro⟨_,_,h3,_⟩;rw[wK e] at h;exact ziR h h3
theorem zf1{α:Type}(xs:List α)(j:Nat):cut xs (some (j:Int)) none=xs.drop j:=by
 unfold cut;rw[HT.qw,HT.nQ];rcases Nat.le_total j xs.length with h|h
 ·rw[Nat.min_eq_left h,List.take_of_length_le (by rw[wV];lia)]
 ·rw[Nat.min_eq_right h,List.drop_eq_nil_of_le (bL _),List.drop_eq_nil_of_le h,List.take_nil]
theorem zgP{α:Type}(xs:List α)(j:Nat):cut xs none (some (j:Int))=xs.take j:=by
 unfold cut HT.bM;simp only[List.drop_zero,Nat.sub_zero];rw[show (if (j:Int)<0 then _ else _)=min j xs.length from ?_]
 ·rw[<-List.take_take,zA]
 ·rw[if_neg gV]
  lia
open Classical in
theorem qY{n:Int}{ps:List (Int×Int)}{is:List Int}:sU n ps (.tup (is.map .int))=true↔Ly n ps is:=by
 rw[V1 (Bt is),zy]
section
variable {ao:Nat->Nat->Bool}{aj:Bool}{F:Fn}{J:Vs}{s:S}{P:Xv->S->Prop}
theorem KaG{j:Nat}{xs:List D}(e:J[j]?.join=some (.d (.tup xs)))(h:P (.d (.int (xs.length:Nat))) s):W (ev ao aj F (.pr true .len (Ea (.v j))) J) s P:=
 sJ (kE (W.eV e (nM (jx (kj (oR (bK rfl h)))))))
theorem KaI{fz:Bool}{p:Pr}{k:Kd}{o:E}{xs:Es}(h:W (ev ao aj F o J) s λx s1=>W (rd x) s1 λd s2=>mX k d=true/\W (evs ao aj F xs J) s2 λys s3=>W (gb (x::ys)) s3 λds s4=>W (bJ fz (prim p ds)) s4 P):W (ev ao aj F (.meth fz p k o xs) J) s P:=
 W.bd (h.imp λ_ _ h=>W.bd (h.imp λ_ _ h=>by rw[if_pos h.1];exact W.bd (h.2.imp λ_ _ h=>W.bd h)))
theorem KaU{j:Nat}{xs:List D}(e:J[j]?.join=some (.d (.tup xs)))(hl:xs.length<=100)(h:P (.d (.int ((xs.length:Int)*((xs.length:Int)-1)/2))) s):W (ev ao aj F (.pr true .fdiv (Eb (.pr true .mul (Eb (.pr true .len (Ea (.v j))) (.pr true .ao (Eb (.pr true .len (Ea (.v j))) (Ci 1))))) (Ci 2))) J) s P:=by
 refine sJ (kE (sJ (kE (KaG e (kE (sJ (kE (KaG e (kE (W.eC (nM ?_)))))))))));refine jx (kj (jx (kj (oR (bK (d:=.int ((xs.length:Int)-1)) rfl (nM ?_))))));refine jx (kj (jx (kj (oR (bK (Ui (.inl gV)) ?_)))));refine kE (W.eC (nM ?_));refine jx (kj (jx (kj (oR (bK (ziX Dc) ?_)))));exact h
end
end Mi
namespace fL
open PySem Mi
noncomputable def b0:cU:=(.cons (.ret (.and (.jU (.v 0) .int) (.not (.jU (.v 0) .bool)))) .nil)
noncomputable def b1:cU:=(.cons (.ret (.and (.call 0 (Ea (.v 0))) (.uQ .le .le (.v 1) (.v 0) (.v 2)))) .nil)
noncomputable def b2:cU:=(.cons (.ret (.and (.jU (.v 0) .tuple) (.pr true .eq (Eb (.pr true .len (Ea (.v 0))) (.v 1))))) .nil)
noncomputable def b3:cU:=(.cons (.iff (.not (.call 2 (Eb (.v 0) (Ci 2)))) (.cons (.ret (.c (.bl false))) .nil) .nil) (.cons (.asg (.tp [1,2]) (.v 0)) (.cons (.iff (.or (.not (.call 4 (Ea (.v 1)))) (.not (.jU (.v 2) .tuple))) (.cons (.ret (.c (.bl false))) .nil) .nil) (.cons (.iff (.not (.pr true .all (Ea (.comp true (.call 6 (Eb (.v 1) (.v 0))) [0] (.seq (.v 2)) [1] 1 .no)))) (.cons (.ret (.c (.bl false))) .nil) .nil) (.cons (.ret (.pr true .all (Ea (.comp true (.pr true .lt (Eb (.v 0) (.v 1))) [0,1] (.zip (.v 2) (.sl true (.v 2) (.yes (Ci 1)) .no)) [] 2 .no)))) .nil)))))
noncomputable def b4:cU:=(.cons (.ret (.call 1 (Ec (.v 0) (Ci 1) (Ci 8)))) .nil)
noncomputable def b5:cU:=(.cons (.ret (.call 1 (Ec (.v 1) (Ci 0) (.pr true .ao (Eb (.v 0) (Ci 1)))))) .nil)
noncomputable def b6:cU:=(.cons (.iff (.not (.call 2 (Eb (.v 1) (Ci 2)))) (.cons (.ret (.c (.bl false))) .nil) .nil) (.cons (.asg (.tp [2,3]) (.v 1)) (.cons (.ret (.and (.call 5 (Eb (.v 0) (.v 2))) (.and (.call 5 (Eb (.v 0) (.v 3))) (.pr true .lt (Eb (.v 2) (.v 3)))))) .nil)))
noncomputable def b7:cU:=(.cons (.iff (.not (.call 3 (Ea (.v 0)))) (.cons .no .nil) .nil) .nil)
noncomputable def b8:cU:=(.cons (.asg (.nm 2) (.comp true (.ite (.pr true .eq (Eb (.v 0) (.v 2))) (.v 1) (.v 0)) [0,1] (.seq (Ei (.v 0) (Ci 1))) [1] 2 (.yes (.pr true .inn (Eb (.v 2) (.tup (Eb (.v 0) (.v 1)))))))) (.cons (.ret (.pr true .tuple (Ea (.pr true .sorted (Ea (.v 2)))))) .nil))
noncomputable def b9:cU:=(.cons (.ret (.comp true (.call 8 (Eb (.v 1) (.v 0))) [0] (.rg (Ci 0) (Ei (.v 0) (Ci 0))) [0] 1 .no)) .nil)
noncomputable def b10:cU:=(.cons (.iff (.or (.not (.jU (.v 1) .tuple)) (.pr true .eq (Eb (.v 1) (.tup .nil)))) (.cons (.ret (.c (.bl false))) .nil) .nil) (.cons (.iff (.not (.pr true .all (Ea (.comp true (.call 5 (Eb (.pr true .len (Ea (.v 1))) (.v 0))) [0] (.seq (.v 1)) [0] 1 .no)))) (.cons (.ret (.c (.bl false))) .nil) .nil) (.cons (.iff (.or (.pr true .lt (Eb (.pr true .fP (Ea (.v 1))) (.pr true .len (Ea (.v 1))))) (.pr true .ne (Eb (Ei (.v 1) (Ci 0)) (.pr true .n8 (Ea (.v 1)))))) (.cons (.ret (.c (.bl false))) .nil) .nil) (.cons (.ret (.pr true .all (Ea (.comp true (.pr true .inn (Eb (.v 1) (Ei (.v 2) (.v 0)))) [0,1] (.seq (.call 11 (Ea (.v 1)))) [0] 2 .no)))) .nil))))
noncomputable def V4:cU:=(.cons (.ret (.pr true .rK (Eb (.v 0) (.pr true .add (Eb (.sl true (.v 0) (.yes (Ci 1)) .no) (.sl true (.v 0) .no (.yes (Ci 1)))))))) .nil)
noncomputable def V5:cU:=(.cons (.ret (.and (.call 10 (Eb (.call 9 (Ea (.v 0))) (.v 1))) (.call 13 (Ea (.v 1))))) .nil)
noncomputable def V6:cU:=(.cons (.ret (.pr true .lt (Eb (Ei (.v 0) (Ci 1)) (Ei (.v 0) (.pr true .neg (Ea (Ci 1))))))) .nil)
noncomputable def Pz:cU:=(.cons (.ex (.call 7 (Ea (.v 0)))) (.cons (.iff (.not (.call 2 (Eb (.v 1) (Ci 2)))) (.cons (.ret (.c .non)) .nil) .nil) (.cons (.asg (.tp [2,3]) (.v 1)) (.cons (.iff (.and (.pr true .eq (Eb (.v 2) (.c (.str "crowd")))) (.call 15 (Eb (.v 0) (.v 3)))) (.cons (.ret (.tup (Eb (.pr true .len (Ea (.v 3))) (Ci 1)))) .nil) .nil) (.cons (.iff (.and (.pr true .eq (Eb (.v 2) (.c (.str "odd")))) (.and (.call 12 (Eb (.v 0) (.v 3))) (.pr true .eq (Eb (.pr true .mod (Eb (.pr true .len (Ea (.v 3))) (Ci 2))) (Ci 1))))) (.cons (.ret (.tup (Eb (.pr true .len (Ea (.v 3))) (.pr true .fdiv (Eb (.pr true .len (Ea (.v 3))) (Ci 2)))))) .nil) .nil) (.cons (.ret (.c .non)) .nil))))))
noncomputable def V7:cU:=(.cons (.iff (.or (.not (.jU (.v 1) .tuple)) (.not (.uQ .le .le (Ci 1) (.pr true .len (Ea (.v 1))) (Ei (.v 0) (Ci 0))))) (.cons (.ret (.c (.bl false))) .nil) .nil) (.cons (.iff (.not (.pr true .all (Ea (.comp true (.call 5 (Eb (Ei (.v 1) (Ci 0)) (.v 0))) [0] (.seq (.v 1)) [0] 1 .no)))) (.cons (.ret (.c (.bl false))) .nil) .nil) (.cons (.ret (.pr true .all (Ea (.lU true (.pr true .inn (Eb (.tup (Eb (.v 2) (.v 1))) (Ei (.v 3) (Ci 1)))) [0,1] (.enum (.v 1)) [2] (.seq (.sl true (.v 4) .no (.yes (.v 0)))) [0,1] 3 .no)))) .nil)))
noncomputable def V8:cU:=(.cons (.iff (.pr true .lt (Eb (.v 1) (.pr true .len (Ea (.v 0))))) (.cons (.ret (Ei (.v 0) (.v 1))) .nil) .nil) (.cons (.ret (Ci 0)) .nil))
noncomputable def V9:cU:=(.cons (.asg (.nm 1) (.pr true .max2 (Eb (.v 0) (.pr true .ao (Eb (Ci 0) (.v 0)))))) (.cons (.ret (.lst false (Eb (.v 1) (.pr true .uO (Ea (.pr true .ge (Eb (.v 1) (.pr true .pow (Eb (Ci 10) (Ci 18)))))))))) .nil))
noncomputable def V_:cU:=(.cons (.iff (.pr true .eq (Eb (Ei (.v 0) (Ci 1)) (Ci 1))) (.cons (.asg (.tp [2,3]) (.pr true .divmod (Eb (Ei (.v 0) (Ci 0)) (.v 1)))) (.cons (.asg (.ao (.v 0) (Ci 0)) (.v 2)) (.cons (.ret (.v 3)) .nil))) .nil) (.cons (.asg (.nm 4) (.pr true .mod (Eb (.pr true .mul (Eb (.pr true .add (Eb (.pr true .mod (Eb (Ei (.v 0) (Ci 0)) (Ci 2147483647))) (Ci 40503))) (Ci 69621))) (Ci 2147483629)))) (.cons (.asg (.nm 4) (.pr true .mod (Eb (.pr true .add (Eb (.pr true .mul (Eb (.v 4) (.v 4))) (Ci 7817))) (Ci 2147483587)))) (.cons (.asg (.ao (.v 0) (Ci 0)) (.pr true .mod (Eb (.pr true .add (Eb (.pr true .mul (Eb (.v 4) (Ci 48271))) (Ci 11))) (Ci 2147483629)))) (.cons (.ret (.pr true .mod (Eb (.pr true .fdiv (Eb (Ei (.v 0) (Ci 0)) (Ci 32))) (.v 1)))) .nil)))))
noncomputable def b19:cU:=(.cons (.ret (.and (.jU (.v 0) .int) (.not (.jU (.v 0) .bool)))) .nil)
noncomputable def Wa:cU:=(.cons (.asg (.nm 1) (.lst true (.cons (.c .non) (.cons (.c (.bl true)) (.cons (.c (.bl false)) (.cons (.pr true .neg (Ea (Ci 1))) (.cons (.c (.str "1")) (.cons (.c (.str "")) (.cons (.tup .nil) (.cons (.lst true .nil) (.cons (.tup (Ea (Ci 0))) (.cons (.lst true (Ea (Ci 0))) (.cons (.uR "a" 1) (.cons (.tup (Eb (Ci 0) (Ci 1))) (Ec (.pr true .pow (Eb (Ci 10) (Ci 30))) (.tup (Eb (Ci 0) (.tup .nil))) (.tup (Ea (.c (.str "ab"))))))))))))))))))) (.cons (.ret (Ei (.pr true .add (Eb (.v 1) (.lst true (Ea (.tup (Eb (Ci 1) (.tup (Ea (.tup (Eb (Ci 0) (Ci 0))))))))))) (.call 18 (Eb (.v 0) (Ci 16))))) .nil))
noncomputable def Wb:cU:=(.cons (.ret (Ei (.lst true (.cons (Ci 1) (.cons (Ci 2) (.cons (Ci 3) (.cons (Ci 4) (.cons (Ci 5) (.cons (Ci 6) (.cons (Ci 4) (.cons (Ci 5) (.cons (Ci 3) (Ec (Ci 6) (Ci 7) (Ci 8)))))))))))) (.call 18 (Eb (.v 0) (Ci 12))))) .nil)
noncomputable def Wc:cU:=(.cons (.asg (.nm 2) (Ei (.lst true (Ec (Ci 2) (Ci 4) (Ci 6))) (.call 18 (Eb (.v 0) (Ci 3))))) (.cons (.asg (.nm 3) (.lst true .nil)) (.cons (.fr (.nm 4) (.rg (Ci 0) (.v 1)) (.cons (.asg (.nm 3) (.pr true .add (Eb (.v 3) (.comp true (.tup (Eb (.v 1) (.v 0))) [0] (.rg (.pr true .add (Eb (.v 4) (Ci 1))) (.v 1)) [4,0,2] 1 (.yes (.pr true .lt (Eb (.call 18 (Eb (.v 2) (Ci 8))) (.v 3)))))))) .nil)) (.cons (.ret (.tup (Eb (.v 1) (.pr true .tuple (Ea (.v 3)))))) .nil))))
noncomputable def Wd:cU:=(.cons (.asg (.nm 2) (.lst false .nil)) (.cons (.fr (.nm 3) (.rg (Ci 0) (.pr true .shl (Eb (Ci 1) (Ei (.v 0) (Ci 0))))) (.cons (.asg (.nm 4) (.pr true .tuple (Ea (.comp true (.v 0) [0] (.rg (Ci 0) (Ei (.v 0) (Ci 0))) [3] 1 (.yes (.pr true .eq (Eb (.pr true .band (Eb (.pr true .shr (Eb (.v 1) (.v 0))) (Ci 1))) (Ci 1)))))))) (.cons (.asg (.nm 5) (.pr true .len (Ea (.comp true (Ci 1) [0,1] (.seq (Ei (.v 0) (Ci 1))) [4] 2 (.yes (.and (.pr true .inn (Eb (.v 0) (.v 2))) (.pr true .inn (Eb (.v 1) (.v 2))))))))) (.cons (.iff (.pr true .eq (Eb (.v 5) (.pr true .mul (Eb (.pr true .uO (Ea (.v 1))) (.pr true .fdiv (Eb (.pr true .mul (Eb (.pr true .len (Ea (.v 4))) (.pr true .ao (Eb (.pr true .len (Ea (.v 4))) (Ci 1))))) (Ci 2))))))) (.cons (.ex (.push (.v 2) (.v 4))) .nil) .nil) .nil)))) (.cons (.ret (.v 2)) .nil)))
noncomputable def Wf:cU:=(.cons (.iff (.or (.not (.jU (.v 1) .tuple)) (.or (.pr true .lt (Eb (.pr true .len (Ea (.v 1))) (Ci 3))) (.not (.pr true .all (Ea (.comp true (.call 19 (Ea (.v 0))) [0] (.seq (.v 1)) [] 1 .no)))))) (.cons (.ret (.c (.bl false))) .nil) .nil) (.cons (.iff (.or (.pr true .ne (Eb (.pr true .fP (Ea (.v 1))) (.pr true .len (Ea (.v 1))))) (.or (.pr true .ne (Eb (Ei (.v 1) (Ci 0)) (.pr true .n8 (Ea (.v 1))))) (.pr true .gt (Eb (Ei (.v 1) (Ci 1)) (Ei (.v 1) (.pr true .neg (Ea (Ci 1)))))))) (.cons (.ret (.c (.bl false))) .nil) .nil) (.cons (.asg (.nm 2) (.pr true .rK (Eb (.v 1) (.pr true .add (Eb (.sl true (.v 1) (.yes (Ci 1)) .no) (.sl true (.v 1) .no (.yes (Ci 1)))))))) (.cons (.ret (.pr true .eq (Eb (.comp true (Ci 1) [0,1] (.seq (.v 2)) [0] 2 (.yes (.pr true .nin (Eb (.tup (Eb (.pr true .min2 (Eb (.v 0) (.v 1))) (.pr true .max2 (Eb (.v 0) (.v 1))))) (Ei (.v 2) (Ci 1)))))) (.lst true .nil)))) .nil))))
noncomputable def PB:cU:=(.cons (.iff (.or (.not (.jU (.v 1) .tuple)) (.or (.pr true .ne (Eb (.pr true .len (Ea (.v 1))) (Ci 2))) (.not (.jU (Ei (.v 1) (Ci 0)) .str)))) (.cons (.ret (.c .non)) .nil) .nil) (.cons (.iff (.pr true .eq (Eb (Ei (.v 1) (Ci 0)) (.c (.str "odd")))) (.cons (.asg (.nm 2) (.and (.call 24 (Eb (.v 0) (Ei (.v 1) (Ci 1)))) (.pr true .eq (Eb (.pr true .mod (Eb (.pr true .len (Ea (Ei (.v 1) (Ci 1)))) (Ci 2))) (Ci 1))))) (.cons (.ret (.ite (.v 2) (.tup (Eb (.pr true .len (Ea (Ei (.v 1) (Ci 1)))) (.pr true .fdiv (Eb (.pr true .len (Ea (Ei (.v 1) (Ci 1)))) (Ci 2))))) (.c .non))) .nil)) .nil) (.cons (.asg (.nm 3) (Ei (.v 1) (Ci 1))) (.cons (.iff (.or (.pr true .ne (Eb (Ei (.v 1) (Ci 0)) (.c (.str "crowd")))) (.or (.not (.jU (.v 3) .tuple)) (.pr true .eq (Eb (.v 3) (.tup .nil))))) (.cons (.ret (.c .non)) .nil) .nil) (.cons (.iff (.not (.pr true .all (Ea (.comp true (.call 19 (Ea (.v 0))) [0] (.seq (.v 3)) [] 1 .no)))) (.cons (.ret (.c .non)) .nil) .nil) (.cons (.iff (.or (.pr true .ne (Eb (.pr true .list (Ea (.v 3))) (.pr true .jd (Ea (.v 3))))) (.or (.pr true .lt (Eb (Ei (.v 3) (Ci 0)) (Ci 0))) (.pr true .ge (Eb (Ei (.v 3) (.pr true .neg (Ea (Ci 1)))) (Ei (.v 0) (Ci 0)))))) (.cons (.ret (.c .non)) .nil) .nil) (.cons (.asg (.nm 4) (.pr true .len (Ea (.comp true (Ci 1) [0,1] (.seq (Ei (.v 0) (Ci 1))) [3] 2 (.yes (.and (.pr true .inn (Eb (.v 0) (.v 2))) (.pr true .inn (Eb (.v 1) (.v 2))))))))) (.cons (.ret (.ite (.pr true .eq (Eb (.v 4) (.pr true .fdiv (Eb (.pr true .mul (Eb (.pr true .len (Ea (.v 3))) (.pr true .ao (Eb (.pr true .len (Ea (.v 3))) (Ci 1))))) (Ci 2))))) (.tup (Eb (.pr true .len (Ea (.v 3))) (Ci 1))) (.c .non))) .nil))))))))
noncomputable def Wg:cU:=(.cons (.asg (.nm 3) (.call 18 (Eb (.v 0) (.pr true .add (Eb (.pr true .len (Ea (.v 1))) (Ci 1)))))) (.cons (.asg (.nm 4) (Ei (.lst true (.cons (.c (.bl true)) (.cons (.c (.bl false)) (.cons (.c .non) (.cons (.pr true .neg (Ea (Ci 1))) (.cons (.v 2) (Ec (.c (.str "0")) (.tup (Ea (Ci 0))) (.call 18 (Eb (.v 0) (.v 2)))))))))) (.call 18 (Eb (.v 0) (Ci 8))))) (.cons (.asg (.nm 5) (.lst true (.cons (.pr true .add (Eb (.pr true .add (Eb (.sl true (.v 1) .no (.yes (.v 3))) (.tup (Ea (.v 4))))) (.sl true (.v 1) (.yes (.pr true .add (Eb (.v 3) (Ci 1)))) .no))) (.cons (.pr true .add (Eb (.sl true (.v 1) .no (.yes (.v 3))) (.sl true (.v 1) (.yes (.pr true .add (Eb (.v 3) (Ci 1)))) .no))) (.cons (.pr true .add (Eb (.v 1) (.tup (Ea (Ci 0))))) (Ec (.pr true .list (Ea (.v 1))) (.c .non) (.tup (Ea (.v 1))))))))) (.cons (.ret (Ei (.v 5) (Ei (.lst true (.cons (Ci 0) (.cons (Ci 0) (.cons (Ci 0) (.cons (Ci 0) (.cons (Ci 1) (.cons (Ci 2) (Ec (Ci 3) (Ci 4) (Ci 5))))))))) (.call 18 (Eb (.v 0) (Ci 9)))))) .nil))))
noncomputable def PJ:cU:=(.cons (.iff (.pr true .yc (Ea (.v 1))) (.cons (.ret (.pr true .yc (Ea (.v 0)))) .nil) .nil) (.cons (.ret (.and (.jU (.v 0) .tuple) (.and (.pr true .eq (Eb (.v 0) (.v 1))) (.pr true .all (Ea (.comp true (.call 19 (Ea (.v 0))) [0] (.seq (.v 0)) [] 1 .no)))))) .nil))
noncomputable def Wh:cU:=(.cons (.asg (.nm 2) (.lst false (Ea (.call 18 (Eb (.v 0) (Ei (.v 1) (Ci 0))))))) (.cons (.fr (.nm 3) (.rg (Ci 0) (.call 18 (Eb (.v 0) (Ci 7)))) (.cons (.asg (.nm 4) (.comp true (.pr true .ao (Eb (.pr true .add (Eb (.v 0) (.v 1))) (Ei (.v 2) (.pr true .neg (Ea (Ci 1)))))) [0,1] (.seq (Ei (.v 1) (Ci 1))) [2] 2 (.yes (.pr true .inn (Eb (Ei (.v 2) (.pr true .neg (Ea (Ci 1)))) (.tup (Eb (.v 0) (.v 1)))))))) (.cons (.asg (.nm 4) (.comp true (.v 0) [0] (.seq (.v 4)) [2] 1 (.yes (.pr true .nin (Eb (.v 0) (.v 1)))))) (.cons (.iff (.pr true .ne (Eb (.v 4) (.lst true .nil))) (.cons (.ex (.push (.v 2) (Ei (.v 4) (.call 18 (Eb (.v 0) (.pr true .len (Ea (.v 4)))))))) .nil) .nil) .nil)))) (.cons (.asg (.nm 5) (.meth true .jT .list (.v 2) (Ea (.pr true .n8 (Ea (.v 2)))))) (.cons (.asg (.nm 2) (.pr false .add (Eb (.sl true (.v 2) (.yes (.v 5)) .no) (.sl true (.v 2) .no (.yes (.v 5)))))) (.cons (.iff (.and (.pr true .gt (Eb (.pr true .len (Ea (.v 2))) (Ci 2))) (.pr true .gt (Eb (Ei (.v 2) (Ci 1)) (Ei (.v 2) (.pr true .neg (Ea (Ci 1))))))) (.cons (.asg (.nm 2) (.pr false .add (Eb (.sl true (.v 2) .no (.yes (Ci 1))) (.pr true .uP (Ea (.v 2)))))) .nil) .nil) (.cons (.ret (.pr true .tuple (Ea (.v 2)))) .nil))))))
noncomputable def Wi:cU:=(.cons (.asg (.nm 2) (.pr true .repr (Ea (.v 1)))) (.cons (.asg (.nm 3) (.call 25 (Eb (.v 0) (.v 1)))) (.cons (.fr (.nm 4) (.rg (Ci 0) (Ci 2)) (.cons (.iff (.not (.call 27 (Eb (.call 14 (Eb (.v 0) (.v 1))) (.v 3)))) (.cons (.ret (.c (.bl false))) .nil) .nil) .nil)) (.cons (.ret (.pr true .eq (Eb (.pr true .repr (Ea (.v 1))) (.v 2)))) .nil))))
noncomputable def Wj:cU:=(.cons (.asg (.nm 1) (.tup (Eb (Ci 5) (.tup (.cons (.tup (Eb (Ci 0) (Ci 1))) (.cons (.tup (Eb (Ci 0) (Ci 4))) (Ec (.tup (Eb (Ci 1) (Ci 2))) (.tup (Eb (Ci 2) (Ci 3))) (.tup (Eb (Ci 3) (Ci 4)))))))))) (.cons (.asg (.nm 2) (.lst true (.cons (.tup (Eb (.c (.str "odd")) (.tup (.cons (Ci 0) (.cons (Ci 1) (Ec (Ci 2) (Ci 3) (Ci 4))))))) (Ec (.tup (Eb (.c (.str "odd")) (.tup (.cons (Ci 0) (.cons (Ci 4) (Ec (Ci 3) (Ci 2) (Ci 1))))))) (.tup (Eb (.c (.str "crowd")) (.tup (Eb (Ci 0) (Ci 1))))) (.tup (Eb (.c (.str "crowd")) (.tup (Eb (Ci 1) (Ci 0))))))))) (.cons (.fr (.nm 3) (.seq (.pr true .add (Eb (.v 2) (.lst true (Ea (.tup (Eb (.c (.str "crowd")) (.tup .nil)))))))) (.cons (.iff (.not (.call 29 (Eb (.v 1) (.v 3)))) (.cons (.ret (.c (.bl false))) .nil) .nil) .nil)) (.cons (.fr (.nm 4) (.seq (.pr true .add (Eb (.lst true (Ea (.call 16 (Eb (.v 0) (Ci 0))))) (.sl true (.v 0) (.yes (Ci 1)) (.yes (Ci 4)))))) (.cons (.asg (.nm 5) (.call 17 (Ea (.v 4)))) (.cons (.asg (.nm 6) (.call 22 (Eb (.v 5) (.call 21 (Ea (.v 5)))))) (.cons (.asg (.nm 7) (.call 23 (Eb (.v 6) (.c (.bl true))))) (.cons (.asg (.nm 8) (Ei (.v 7) (.call 18 (Eb (.v 5) (.pr true .len (Ea (.v 7))))))) (.cons (.asg (.nm 9) (.comp true (.call 28 (Eb (.v 1) (.v 2))) [0] (.rg (Ci 0) (Ci 3)) [5,6] 1 .no)) (.cons (.asg (.nm 10) (.lst false (.cons (.tup (Eb (.c (.str "crowd")) (.v 8))) (.cons (.tup (Eb (.c (.str "crowd")) (Ei (.v 9) (Ci 0)))) (Ec (.tup (Eb (.c (.str "odd")) (.v 8))) (.call 20 (Ea (.v 5))) (.tup (Ec (.c (.str "crowd")) (.v 8) (Ci 0)))))))) (.cons (.asg (.nm 10) (.pr false .add (Eb (.pr true .add (Eb (.v 10) (.lst true (Ea (.lst true (Eb (.c (.str "odd")) (Ei (.v 9) (Ci 1)))))))) (.comp true (.tup (Eb (.c (.str "odd")) (.v 0))) [0] (.seq (.v 9)) [] 1 .no)))) (.cons (.asg (.nm 10) (.pr false .add (Eb (.v 10) (.lst true (Ec (.tup (Eb (.c (.str "odds")) (Ei (.v 9) (Ci 0)))) (.tup (Ea (.c (.str "crowd")))) (.tup (Eb (.v 8) (.c (.str "crowd"))))))))) (.cons (.fr (.nm 11) (.rg (Ci 0) (Ci 4)) (.cons (.asg (.nm 12) (.call 26 (Ec (.v 5) (Ei (.lst true (Eb (.v 8) (Ei (.v 9) (Ci 2)))) (.pr true .mod (Eb (.v 11) (Ci 2)))) (Ei (.v 6) (Ci 0))))) (.cons (.ex (.push (.v 10) (.tup (Eb (Ei (.lst true (Eb (.c (.str "crowd")) (.c (.str "odd")))) (.call 18 (Eb (.v 5) (Ci 2)))) (.v 12))))) .nil))) (.cons (.iff (.not (.pr true .all (Ea (.comp true (.call 29 (Eb (.v 1) (.v 0))) [0] (.seq (.v 10)) [6] 1 .no)))) (.cons (.ret (.c (.bl false))) .nil) .nil) .nil))))))))))) (.cons (.ret (.c (.bl true))) .nil)))))
noncomputable def T(n:Nat):Option Df:=([⟨1,1,b0⟩,⟨3,3,b1⟩,⟨2,2,b2⟩,⟨3,1,b3⟩,⟨1,1,b4⟩,⟨2,2,b5⟩,⟨4,2,b6⟩,⟨1,1,b7⟩,⟨3,2,b8⟩,⟨1,1,b9⟩,⟨2,2,b10⟩,⟨1,1,V4⟩,⟨2,2,V5⟩,⟨1,1,V6⟩,⟨4,2,Pz⟩,⟨2,2,V7⟩,⟨2,2,V8⟩,⟨2,1,V9⟩,⟨5,2,V_⟩,⟨1,1,b19⟩,⟨2,1,Wa⟩,⟨1,1,Wb⟩,⟨5,2,Wc⟩,⟨6,2,Wd⟩,⟨3,2,Wf⟩,⟨5,2,PB⟩,⟨6,3,Wg⟩,⟨2,2,PJ⟩,⟨6,2,Wh⟩,⟨5,2,Wi⟩,⟨13,1,Wj⟩]:List Df)[n]?
theorem T_0:T 0=some ⟨1,1,b0⟩:=rfl
theorem T_1:T 1=some ⟨3,3,b1⟩:=rfl
theorem T_2:T 2=some ⟨2,2,b2⟩:=rfl
theorem T_3:T 3=some ⟨3,1,b3⟩:=rfl
theorem T_4:T 4=some ⟨1,1,b4⟩:=rfl
theorem Wm:T 5=some ⟨2,2,b5⟩:=rfl
theorem T_6:T 6=some ⟨4,2,b6⟩:=rfl
theorem T_7:T 7=some ⟨1,1,b7⟩:=rfl
theorem T_8:T 8=some ⟨3,2,b8⟩:=rfl
theorem T_9:T 9=some ⟨1,1,b9⟩:=rfl
theorem zn9:T 10=some ⟨2,2,b10⟩:=rfl
theorem zn6:T 11=some ⟨1,1,V4⟩:=rfl
theorem zn2:T 12=some ⟨2,2,V5⟩:=rfl
theorem zoe:T 13=some ⟨1,1,V6⟩:=rfl
theorem Wn:T 14=some ⟨4,2,Pz⟩:=rfl
theorem zoc:T 15=some ⟨2,2,V7⟩:=rfl
theorem zod:T 16=some ⟨2,2,V8⟩:=rfl
theorem zoi:T 17=some ⟨2,1,V9⟩:=rfl
theorem zof:T 18=some ⟨5,2,V_⟩:=rfl
theorem zoq:T 19=some ⟨1,1,b19⟩:=rfl
theorem zn7:T 20=some ⟨2,1,Wa⟩:=rfl
theorem znX:T 21=some ⟨1,1,Wb⟩:=rfl
theorem zn4:T 22=some ⟨5,2,Wc⟩:=rfl
theorem zn1:T 23=some ⟨6,2,Wd⟩:=rfl
theorem znY:T 24=some ⟨3,2,Wf⟩:=rfl
theorem Wo:T 25=some ⟨5,2,PB⟩:=rfl
theorem znZ:T 26=some ⟨6,3,Wg⟩:=rfl
theorem Wq:T 27=some ⟨2,2,PJ⟩:=rfl
theorem zoh:T 28=some ⟨6,2,Wh⟩:=rfl
theorem zn0:T 29=some ⟨5,2,Wi⟩:=rfl
theorem zn3:T 30=some ⟨13,1,Wj⟩:=rfl
noncomputable def ao:Nat->Nat->Bool:=λc e=>(let n:=λc=>if c<0 then c else 0;n e==0||n c==n e)
end fL
namespace fL
open PySem PySem.Spec PyProof.Rows L2 Mi
abbrev LK(i:Nat)(x:Str)(k:NameKind):Prop:=(aA (top i)).names.lookup x=some k
noncomputable abbrev gI:NameKind:=.globalImplicit
abbrev N3:List Str:=["thing","many","ties"]
abbrev N8:List Str:=["web","place","ends"]
abbrev N9:List Str:=["web"]
abbrev Wr:List Str:=["nexts","thing"]
abbrev Ws:List Str:=["web","thing"]
abbrev N22:List Str:=["_law_pen_here","_law_many","_law_often","_law_ties","_law_one"]
abbrev Wt:List Str:=["_law_web_here","_law_tied","_law_found","_law_number","_law_row","_law_inner"]
abbrev Wu:List Str:=["_law_web_here","_law_thing","_law_pairs"]
abbrev Wv:List Str:=["_law_web_here","_law_thing","_law_good","_law_crowd","_law_inner"]
abbrev N27:List Str:=["_law_found","_law_due"]
abbrev Ww:List Str:=["_law_pen_here","_law_web_here","_law_row","_law_turn","_law_some","_law_at"]
abbrev PK:List Str:=["_law_script","_law_odd_web","_law_some","_law_thing","_law_cell_here","_law_pen_here","_law_web_here","_law_crowds","_law_crowd","_law_walks","_law_things","_law_turn","_law_row"]
noncomputable def cl(K:W.Frag):Cl:=⟨iW (lk.L K),λ_=>[],λ_=>0,λ_=>[]⟩
structure Top(K:W.Frag)(mg:Str->Option Value):Prop where
 d0:D3 K mg "is_whole" (top 4) ["thing"]
 d1:D3 K mg "is_within" (top 5) ["thing","least","most"]
 d2:D3 K mg "is_row" (top 6) ["thing","many"]
 d3:D3 K mg "is_web" (top 9) ["thing"]
 d4:D3 K mg "is_many" (top 10) ["thing"]
 d5:D3 K mg "is_place" (top 11) ["many","thing"]
 d6:D3 K mg "is_tie" (top 12) ["many","thing"]
 d7:D3 K mg "check_web" (top 13) ["thing"]
 d8:D3 K mg "tied_to" (top 14) ["web","place"]
 d9:D3 K mg "all_ends" (top 15) ["web"]
 Wx:D3 K mg "goes_round" (top 17) ["nexts","thing"]
 Wy:D3 K mg "next_pairs" (top 18) ["places"]
 Wz:D3 K mg "is_round" (top 20) ["web","thing"]
 WD:D3 K mg "is_forward" (top 21) ["places"]
 WK:D3 K mg "ring_bound" (top 25) ["web","thing"]
 WL:D3 K mg "is_crowd" (top 26) ["web","thing"]
 WM:D3 K mg "_law_cell" (top 28) ["_law_script","_law_k"]
 WQ:D3 K mg "_law_pen" (top 29) ["_law_cell_here"]
 p8:D3 K mg "_law_draw" (top 30) ["_law_pen_here","_law_many"]
 Lz:D3 K mg "_law_whole" (top 31) ["_law_thing"]
 WR:D3 K mg "_law_odd" (top 32) ["_law_pen_here"]
 WT:D3 K mg "_law_size" (top 33) ["_law_pen_here"]
 WW:D3 K mg "_law_web" (top 34) ["_law_pen_here","_law_many"]
 WX:D3 K mg "_law_sets" (top 35) ["_law_web_here","_law_tied"]
 WY:D3 K mg "_law_is_round" (top 36) ["_law_web_here","_law_thing"]
 W0:D3 K mg "_law_bound" (top 37) ["_law_web_here","_law_thing"]
 W2:D3 K mg "_law_bent_row" (top 38) ["_law_pen_here","_law_row","_law_k"]
 W3:D3 K mg "_law_told_as" (top 39) ["_law_found","_law_due"]
 W4:D3 K mg "_law_walked" (top 40) ["_law_pen_here","_law_web_here"]
 PL:D3 K mg "_law_right" (top 41) ["_law_web_here","_law_thing"]
 PN:D3 K mg "law" (top 42) ["_law_script"]
 gU:∃t,mg "MOST_PLACES"=some (.int 8 t)
 qZ:∃t,mg "CROWD"=some (.str "crowd" t)
 Bu:∃t,mg "ODD"=some (.str "odd" t)
 z6:mg "all"=none
 z2:mg "bool"=none
 z14:mg "divmod"=none
 z12:mg "enumerate"=none
 z1:mg "int"=none
 z0:mg "isinstance"=none
 z4:mg "len"=none
 LC:mg "list"=none
 W5:mg "max"=none
 LQ:mg "min"=none
 z8:mg "range"=none
 W6:mg "repr"=none
 z9:mg "set"=none
 z7:mg "sorted"=none
 z15:mg "str"=none
 z3:mg "tuple"=none
 z5:mg "zip"=none
theorem zmN{K:W.Frag}{h:Heap}{mg:Str->Option Value}(S:kh fs ms xs lk K)(X:K.In h)(G:h.Ns mainGlobals mg):Top K mg where
 d0:=tQ S X G 0
 d1:=zok S X G 1
 d2:=oF S X G 2
 d3:=tQ S X G 3
 d4:=tQ S X G 4
 d5:=oF S X G 5
 d6:=oF S X G 6
 d7:=tQ S X G 7
 d8:=oF S X G 8
 d9:=tQ S X G 9
 Wx:=oF S X G 10
 Wy:=tQ S X G 11
 Wz:=oF S X G 12
 WD:=tQ S X G 13
 WK:=oF S X G 14
 WL:=oF S X G 15
 WM:=oF S X G 16
 WQ:=tQ S X G 17
 p8:=oF S X G 18
 Lz:=tQ S X G 19
 WR:=tQ S X G 20
 WT:=tQ S X G 21
 WW:=oF S X G 22
 WX:=oF S X G 23
 WY:=oF S X G 24
 W0:=oF S X G 25
 W2:=zok S X G 26
 W3:=oF S X G 27
 W4:=oF S X G 28
 PL:=oF S X G 29
 PN:=tQ S X G 30
 gU:=zkr (S.gd.it ("MOST_PLACES",8) (mG 0)) X G
 qZ:=ziA (S.gd.st ("CROWD","crowd") (mG 0)) X G
 Bu:=ziA (S.gd.st ("ODD","odd") (mG 1)) X G
 z6:=oE (S.gd.no "all" (mG 0)) X G
 z2:=oE (S.gd.no "bool" (mG 1)) X G
 z14:=oE (S.gd.no "divmod" (mG 2)) X G
 z12:=oE (S.gd.no "enumerate" (mG 3)) X G
 z1:=oE (S.gd.no "int" (mG 4)) X G
 z0:=oE (S.gd.no "isinstance" (mG 5)) X G
 z4:=oE (S.gd.no "len" (mG 6)) X G
 LC:=oE (S.gd.no "list" (mG 7)) X G
 W5:=oE (S.gd.no "max" (mG 8)) X G
 LQ:=oE (S.gd.no "min" (mG 9)) X G
 z8:=oE (S.gd.no "range" (mG 10)) X G
 W6:=oE (S.gd.no "repr" (mG 11)) X G
 z9:=oE (S.gd.no "set" (mG 12)) X G
 z7:=oE (S.gd.no "sorted" (mG 13)) X G
 z15:=oE (S.gd.no "str" (mG 14)) X G
 z3:=oE (S.gd.no "tuple" (mG 15)) X G
 z5:=oE (S.gd.no "zip" (mG 16)) X G
abbrev FO(P:Program)(w:World)(K:W.Frag)(mg:Str->Option Value)(base:Heap)(k:Nat)(c:Bool)(x:Str)(i:Nat)(ps:List Str)(n:Nat):Prop:=fD P w K mg base (lA P w) c k (jE K x) (fdOf K x (top i)) ps (tO K (cl K) (call ao T k c n))
structure Fs(P:Program)(w:World)(K:W.Frag)(mg:Str->Option Value)(base:Heap)(k:Nat):Prop where
 t0:FO P w K mg base k true "is_whole" 4 ["thing"] 0
 t1:FO P w K mg base k true "is_within" 5 ["thing","least","most"] 1
 t2:FO P w K mg base k true "is_row" 6 ["thing","many"] 2
 t3:FO P w K mg base k true "is_web" 9 ["thing"] 3
 t4:FO P w K mg base k true "is_many" 10 ["thing"] 4
 t5:FO P w K mg base k true "is_place" 11 ["many","thing"] 5
 t6:FO P w K mg base k true "is_tie" 12 ["many","thing"] 6
 t7:FO P w K mg base k true "check_web" 13 ["thing"] 7
 t8:FO P w K mg base k true "tied_to" 14 ["web","place"] 8
 t9:FO P w K mg base k true "all_ends" 15 ["web"] 9
 t10:FO P w K mg base k true "goes_round" 17 ["nexts","thing"] 10
 t11:FO P w K mg base k true "next_pairs" 18 ["places"] 11
 t12:FO P w K mg base k true "is_round" 20 ["web","thing"] 12
 t13:FO P w K mg base k true "is_forward" 21 ["places"] 13
 t14:FO P w K mg base k true "ring_bound" 25 ["web","thing"] 14
 t15:FO P w K mg base k true "is_crowd" 26 ["web","thing"] 15
 t16:FO P w K mg base k true "_law_cell" 28 ["_law_script","_law_k"] 16
 t17:FO P w K mg base k true "_law_pen" 29 ["_law_cell_here"] 17
 q_:FO P w K mg base k true "_law_draw" 30 ["_law_pen_here","_law_many"] 18
 PX:FO P w K mg base k true "_law_whole" 31 ["_law_thing"] 19
 t20:FO P w K mg base k true "_law_odd" 32 ["_law_pen_here"] 20
 t21:FO P w K mg base k true "_law_size" 33 ["_law_pen_here"] 21
 t22:FO P w K mg base k true "_law_web" 34 ["_law_pen_here","_law_many"] 22
 t23:FO P w K mg base k true "_law_sets" 35 ["_law_web_here","_law_tied"] 23
 t24:FO P w K mg base k true "_law_is_round" 36 ["_law_web_here","_law_thing"] 24
 t25:FO P w K mg base k true "_law_bound" 37 ["_law_web_here","_law_thing"] 25
 t26:FO P w K mg base k true "_law_bent_row" 38 ["_law_pen_here","_law_row","_law_k"] 26
 t27:FO P w K mg base k true "_law_told_as" 39 ["_law_found","_law_due"] 27
 t28:FO P w K mg base k true "_law_walked" 40 ["_law_pen_here","_law_web_here"] 28
 W7:FO P w K mg base k true "_law_right" 41 ["_law_web_here","_law_thing"] 29
 t30:FO P w K mg base k true "law" 42 ["_law_script"] 30
section
variable {P:Program}{w:World}{K:W.Frag}{mg:Str->Option Value}{base:Heap}{k:Nat}
theorem zjM(Tp:Top K mg)(Fk:Fs P w K mg base k):Fs P w K mg base (k+1) where
 t0:=fJ Tp.d0 ["thing"] T_0 λ_ _ _ _ _ _ hr=>(aM (cH (wz (sy rfl Tp.z0 gk (gv 0) (su rfl Tp.z1 ZV gk dk)) (Av (zk4 (sy rfl Tp.z0 gk (gv 0) (su rfl Tp.z2 ZW gk dk))))))
 aX)
 t1:=fJ Tp.d1 ["thing","least","most"] T_1 λ_ _ _ _ _ _ hr=>(aM (cH (wz (gc Fk.t0 Tp.d0 hr dY gk (aq (gv 0) aH)) (Av (zm2 Oq Oq (gv 1) (gv 0) (gv 2)))))
 aX)
 t2:=fJ Tp.d2 ["thing","many"] T_2 λ_ _ _ _ _ _ hr=>(aM (cH (wz (sy rfl Tp.z0 gk (gv 0) (su rfl Tp.z3 yH gk dk)) (Av (vo (oN hr) (ju Tp.z4 gk (aq (gv 0) aH)) (gv 1)))))
 aX)
 t3:=fJ Tp.d3 N3 T_3 λ_ _ _ _ _ _ hr=>(aM (iI (lF (j_ (gc Fk.t2 Tp.d2 hr dY gk (aq (gv 0) (aq aJ aH))))) (aM (cH mj)
 aX) aX)
 (aM (Ow 1 2 rfl rfl nd rfl rfl jc jl rfl rfl (gv 0))
 (aM (iI (qQ (qP (lF (j_ (gc Fk.t4 Tp.d4 hr dY gk (aq (gv 1) aH)))) (yJ (lF (j_ (sy rfl Tp.z0 gk (gv 2) (su rfl Tp.z3 yH gk dk))))))) (aM (cH mj)
 aX) aX)
 (aM (iI (lF (j_ (wA rfl Tp.z6 gk (aq (oO (aA (top 9)) N3 ["tie"] ["many"] [1] rfl rfl rfl Bd Bd (qK 0) Bd (nJ (gv 2)) (λ_ _ _ _ _ _=>(qT 0 Bd rfl Bd)) (λ_ _ _ _ _ _=>sE) (λ_ _ _ _ _ _=>(gc Fk.t6 Tp.d6 hr wB sS (aq (bY 1) (aq (bY 0) aH))))) aH)))) (aM (cH mj)
 aX) aX)
 (aM (cH (wA rfl Tp.z6 gk (aq (oO (aA (top 9)) N3 ["tie","later"] [] [] rfl rfl rfl Bd Bd (yC 0 1) Bd (znm Tp.z5 gk (gv 2) (qR (gv 2) (pR aJ) rZ)) (λ_ _ _ _ _ _=>(A_ 0 1 rfl Bd rfl rfl Bd Bd)) (λ_ _ _ _ _ _=>sE) (λ_ _ _ _ _ _=>(vo (Aw hr) (bY 0) (bY 1)))) aH)))
 aX)))))
 t4:=fJ Tp.d4 ["thing"] T_4 λ_ _ _ _ _ _ hr=>(aM (cH (gc Fk.t1 Tp.d1 hr dY gk (aq (gv 0) (aq aJ (aq (zon Tp.gU gk dk) aH)))))
 aX)
 t5:=fJ Tp.d5 ["many","thing"] Wm λ_ _ _ _ _ _ hr=>(aM (cH (gc Fk.t1 Tp.d1 hr dY gk (aq (gv 1) (aq aJ (aq (cN Ks (gv 0) aJ) aH)))))
 aX)
 t6:=fJ Tp.d6 ["many","thing","one","other"] T_6 λ_ _ _ _ _ _ hr=>(aM (iI (lF (j_ (gc Fk.t2 Tp.d2 hr dY gk (aq (gv 1) (aq aJ aH))))) (aM (cH mj)
 aX) aX)
 (aM (Ow 2 3 rfl rfl nd rfl rfl jl jl rfl rfl (gv 1))
 (aM (cH (wz (gc Fk.t5 Tp.d5 hr dY gk (aq (gv 0) (aq (gv 2) aH))) (wz (gc Fk.t5 Tp.d5 hr dY gk (aq (gv 0) (aq (gv 3) aH))) (Av (vo (Aw hr) (gv 2) (gv 3))))))
 aX)))
 t7:=fJ Tp.d7 ["thing"] T_7 λ_ _ _ _ _ _ hr=>(aM (iI (lF (j_ (gc Fk.t3 Tp.d3 hr dY gk (aq (gv 0) aH)))) (aM zop
 aX) aX)
 aX)
 t8:=fJ Tp.d8 N8 T_8 λ_ _ _ _ _ _ hr=>(aM (Ov 2 (aA (top 14)) N8 ["one","other"] ["place"] [1] nd rfl jl rfl rfl rfl rfl Bd Bd (yC 0 1) Bd (nJ (cJ (gv 0) aJ)) (λ_ _ _ _ _ _=>(A_ 0 1 rfl Bd rfl rfl Bd Bd)) (λ_ _ _ _ _ _=>(Ay (fX (Ax hr) (bY 2) (cO (aq (bY 0) (aq (bY 1) aH)))))) (λ_ _ _ _ _ _=>(T5 (fX (oN hr) (bY 0) (bY 2)) (bY 1) (bY 0))))
 (aM (cH (Ot Tp.z3 gk (aq (zhK Tp.z7 gk (aq (gv 2) aH)) aH)))
 aX))
 t9:=fJ Tp.d9 N9 T_9 λ_ _ _ _ _ _ hr=>(aM (cH (oO (aA (top 15)) N9 ["place"] ["web"] [0] rfl rfl rfl Bd Bd (qK 0) Bd (Az Tp.z8 gk (cJ (gv 0) aJ)) (λ_ _ _ _ _ _=>(qT 0 Bd rfl Bd)) (λ_ _ _ _ _ _=>sE) (λ_ _ _ _ _ _=>(gc Fk.t8 Tp.d8 hr wB sS (aq (bY 1) (aq (bY 0) aH))))))
 aX)
 t10:=fJ Tp.Wx Wr zn9 λ_ _ _ _ _ _ hr=>(aM (iI (qQ (qP (lF (j_ (sy rfl Tp.z0 gk (gv 1) (su rfl Tp.z3 yH gk dk)))) (yJ (fX (oN hr) (gv 1) (cO aH))))) (aM (cH mj)
 aX) aX)
 (aM (iI (lF (j_ (wA rfl Tp.z6 gk (aq (oO (aA (top 17)) Wr ["place"] ["nexts"] [0] rfl rfl rfl Bd Bd (qK 0) Bd (nJ (gv 1)) (λ_ _ _ _ _ _=>(qT 0 Bd rfl Bd)) (λ_ _ _ _ _ _=>sE) (λ_ _ _ _ _ _=>(gc Fk.t5 Tp.d5 hr wB sS (aq (ju Tp.z4 sS (aq (bY 1) aH)) (aq (bY 0) aH))))) aH)))) (aM (cH mj)
 aX) aX)
 (aM (iI (qQ (qP (fX (Aw hr) (znW rfl Tp.z4 gk Tp.z9 gk (aq (gv 1) aH)) (ju Tp.z4 gk (aq (gv 1) aH))) (yJ (fX (Ed hr) (cJ (gv 1) aJ) (Uc rfl Tp.LQ gk (aq (gv 1) aH)))))) (aM (cH mj)
 aX) aX)
 (aM (cH (wA rfl Tp.z6 gk (aq (oO (aA (top 17)) Wr ["place","later"] ["nexts"] [0] rfl rfl rfl Bd Bd (yC 0 1) Bd (nJ (gc Fk.t11 Tp.Wy hr dY gk (aq (gv 1) aH))) (λ_ _ _ _ _ _=>(A_ 0 1 rfl Bd rfl rfl Bd Bd)) (λ_ _ _ _ _ _=>sE) (λ_ _ _ _ _ _=>(vo (Ax hr) (bY 1) (cJ (bY 2) (bY 0))))) aH)))
 aX))))
 t11:=fJ Tp.Wy ["places"] zn6 λ_ _ _ _ _ _ hr=>(aM (cH (zog rfl Tp.LC gk Tp.z5 gk (aq (gv 0) (aq (cN j9 (qR (gv 0) (pR aJ) rZ) (qR (gv 0) rZ (pR aJ))) aH))))
 aX)
 t12:=fJ Tp.Wz ["web","thing"] zn2 λ_ _ _ _ _ _ hr=>(aM (cH (wz (gc Fk.t10 Tp.Wx hr dY gk (aq (gc Fk.t9 Tp.d9 hr dY gk (aq (gv 0) aH)) (aq (gv 1) aH))) (Av (gc Fk.t13 Tp.WD hr dY gk (aq (gv 1) aH)))))
 aX)
 t13:=fJ Tp.WD ["places"] zoe λ_ _ _ _ _ _ hr=>(aM (cH (vo (Aw hr) (cJ (gv 0) aJ) (cJ (gv 0) (Ar aJ))))
 aX)
 t14:=fJ Tp.WK ["web","thing","word","places"] Wn λ_ _ _ _ _ _ hr=>(aM (Ou (gc Fk.t7 Tp.d7 hr dY gk (aq (gv 0) aH)))
 (aM (iI (lF (j_ (gc Fk.t2 Tp.d2 hr dY gk (aq (gv 1) (aq aJ aH))))) (aM (cH vm)
 aX) aX)
 (aM (Ow 2 3 rfl rfl nd rfl rfl jl jl rfl rfl (gv 1))
 (aM (iI (qQ (GC (fX (oN hr) (gv 2) (Z9 Tp.qZ gk dk)) (Kw (j_ (gc Fk.t15 Tp.WL hr dY gk (aq (gv 0) (aq (gv 3) aH))))))) (aM (cH (cO (aq (ju Tp.z4 gk (aq (gv 3) aH)) (aq aJ aH))))
 aX) aX)
 (aM (iI (qQ (GC (fX (oN hr) (gv 2) (Z9 Tp.Bu gk dk)) (GC (j_ (gc Fk.t12 Tp.Wz hr dY gk (aq (gv 0) (aq (gv 3) aH)))) (Kw (fX (oN hr) (cN Aq (ju Tp.z4 gk (aq (gv 3) aH)) aJ) aJ))))) (aM (cH (cO (aq (ju Tp.z4 gk (aq (gv 3) aH)) (aq (cN Ku (ju Tp.z4 gk (aq (gv 3) aH)) aJ) aH))))
 aX) aX)
 (aM (cH vm)
 aX))))))
 t15:=fJ Tp.WL Ws zoc λ_ _ _ _ _ _ hr=>(aM (iI (qQ (qP (lF (j_ (sy rfl Tp.z0 gk (gv 1) (su rfl Tp.z3 yH gk dk)))) (yJ (lF (zm9 Oq Oq aJ (ju Tp.z4 gk (aq (gv 1) aH)) (cJ (gv 0) aJ)))))) (aM (cH mj)
 aX) aX)
 (aM (iI (lF (j_ (wA rfl Tp.z6 gk (aq (oO (aA (top 26)) Ws ["place"] ["web"] [0] rfl rfl rfl Bd Bd (qK 0) Bd (nJ (gv 1)) (λ_ _ _ _ _ _=>(qT 0 Bd rfl Bd)) (λ_ _ _ _ _ _=>sE) (λ_ _ _ _ _ _=>(gc Fk.t5 Tp.d5 hr wB sS (aq (cJ (bY 1) aJ) (aq (bY 0) aH))))) aH)))) (aM (cH mj)
 aX) aX)
 (aM (cH (wA rfl Tp.z6 gk (aq (zko (aA (top 26)) Ws ["at","other","one"] ["web","thing"] [0,1] rfl rfl rfl Bd Bd (yC 0 1) (qK 2) Bd (zlq Tp.z12 gk (gv 1)) (λ_ _ _ _ _ _=>(A_ 0 1 rfl Bd rfl rfl Bd Bd)) (λ_ _ _ _ _ _=>(nJ (qR (bY 4) rZ (pR (bY 0))))) (λ_ _ _ _ _ _=>(qT 2 Bd rfl Bd)) (λ_ _ _ _ _ _=>sE) (λ_ _ _ _ _ _=>(vo (Ax hr) (cO (aq (bY 2) (aq (bY 1) aH))) (cJ (bY 3) aJ)))) aH)))
 aX)))
 t16:=fJ Tp.WM ["_law_script","_law_k"] zod λ_ _ _ _ _ _ hr=>(aM (iI (fX (Aw hr) (gv 1) (ju Tp.z4 gk (aq (gv 0) aH))) (aM (cH (cJ (gv 0) (gv 1)))
 aX) aX)
 (aM (cH aJ)
 aX))
 t17:=fJ Tp.WQ ["_law_cell_here","_law_left"] zoi λ_ _ _ _ _ _ hr=>(aM (gJ 1 nd rfl jl rfl (ziP rfl Tp.W5 gk (aq (gv 0) (aq (cN Ks aJ (gv 0)) aH))))
 (aM (cH (jK (aq (gv 1) (aq (ziT Tp.z1 gk (aq (vo zn8 (gv 1) (cN Z_ aJ aJ)) aH)) aH))))
 aX))
 q_:=fJ Tp.p8 ["_law_pen_here","_law_many","_law_left","_law_found","_law_stir"] zof λ_ _ _ _ _ _ hr=>(aM (iI (fX (oN hr) (cJ (gv 0) aJ) aJ) (aM (Ow 2 3 rfl rfl nd rfl rfl jl jl rfl rfl (zhW Tp.z14 gk (aq (cJ (gv 0) aJ) (aq (gv 1) aH))))
 (aM (zk8 (gv 0) aJ (gv 2))
 (aM (cH (gv 3))
 aX))) aX)
 (aM (gJ 4 nd rfl jl rfl (cN Aq (cN Gz (cN j9 (cN Aq (cJ (gv 0) aJ) aJ) aJ) aJ) aJ))
 (aM (gJ 4 nd rfl jl rfl (cN Aq (cN j9 (cN Gz (gv 4) (gv 4)) aJ) aJ))
 (aM (zk8 (gv 0) aJ (cN Aq (cN j9 (cN Gz (gv 4) aJ) aJ) aJ))
 (aM (cH (cN Aq (cN Ku (cJ (gv 0) aJ) aJ) (gv 1)))
 aX)))))
 PX:=fJ Tp.Lz ["_law_thing"] zoq λ_ _ _ _ _ _ hr=>(aM (cH (wz (sy rfl Tp.z0 gk (gv 0) (su rfl Tp.z1 ZV gk dk)) (Av (zk4 (sy rfl Tp.z0 gk (gv 0) (su rfl Tp.z2 ZW gk dk))))))
 aX)
 t20:=fJ Tp.WR ["_law_pen_here","_law_some"] zn7 λ_ _ _ _ _ _ hr=>(aM (gJ 1 nd rfl jl rfl (jK (aq vm (aq mj (aq mj (aq (Ar aJ) (aq kZ (aq kZ (aq (cO aH) (aq (jK aH) (aq (cO (aq aJ aH)) (aq (jK (aq aJ aH)) (aq zkT (aq (cO (aq aJ (aq aJ aH))) (aq (cN Z_ aJ aJ) (aq (cO (aq aJ (aq (cO aH) aH))) (aq (cO (aq kZ aH)) aH)))))))))))))))))
 (aM (cH (cJ (cN j9 (gv 1) (jK (aq (cO (aq aJ (aq (cO (aq (cO (aq aJ (aq aJ aH))) aH)) aH))) aH))) (gc Fk.q_ Tp.p8 hr dY gk (aq (gv 0) (aq aJ aH)))))
 aX))
 t21:=fJ Tp.WT ["_law_pen_here"] znX λ_ _ _ _ _ _ hr=>(aM (cH (cJ (jK (aq aJ (aq aJ (aq aJ (aq aJ (aq aJ (aq aJ (aq aJ (aq aJ (aq aJ (aq aJ (aq aJ (aq aJ aH))))))))))))) (gc Fk.q_ Tp.p8 hr dY gk (aq (gv 0) (aq aJ aH)))))
 aX)
 t22:=fJ Tp.WW N22 zn4 λ_ _ _ _ _ _ hr=>(aM (gJ 2 nd rfl jc rfl (cJ (jK (aq aJ (aq aJ (aq aJ aH)))) (gc Fk.q_ Tp.p8 hr dY gk (aq (gv 0) (aq aJ aH)))))
 (aM (gJ 3 nd rfl jl rfl (jK aH))
 (aM (Ej Ef rfl rfl (Az Tp.z8 gk (gv 1)) (Eh 4 nd rfl jc rfl) (aM (gJ 3 nd rfl jl rfl (cN j9 (gv 3) (oO (aA (top 34)) N22 ["_law_other"] ["_law_one","_law_pen_here","_law_often"] [4,0,2] rfl rfl rfl Bd Bd (qK 0) Bd (zor Tp.z8 gk (cN j9 (gv 4) aJ) (gv 1)) (λ_ _ _ _ _ _=>(qT 0 Bd rfl Bd)) (λ_ _ _ _ _ _=>(Ay (fX (Aw hr) (gc Fk.q_ Tp.p8 hr wB sS (aq (bY 2) (aq aJ aH))) (bY 3)))) (λ_ _ _ _ _ _=>(cO (aq (bY 1) (aq (bY 0) aH)))))))
 aX))
 (aM (cH (cO (aq (gv 1) (aq (Ot Tp.z3 gk (aq (gv 3) aH)) aH))))
 aX))))
 t23:=fJ Tp.WX Wt zn1 λ_ _ _ _ _ _ hr=>(aM (gJ 2 nd rfl jl rfl (jK aH))
 (aM (Ej Ef rfl rfl (Az Tp.z8 gk (cN zni aJ (cJ (gv 0) aJ))) (Eh 3 nd rfl jc rfl) (aM (gJ 4 nd rfl jc rfl (Ot Tp.z3 gk (aq (oO (aA (top 35)) Wt ["_law_place"] ["_law_number"] [3] rfl rfl rfl Bd Bd (qK 0) Bd (Az Tp.z8 gk (cJ (gv 0) aJ)) (λ_ _ _ _ _ _=>(qT 0 Bd rfl Bd)) (λ_ _ _ _ _ _=>(Ay (fX (oN hr) (cN zlD (cN zny (bY 1) (bY 0)) aJ) aJ))) (λ_ _ _ _ _ _=>(bY 0))) aH)))
 (aM (gJ 5 nd rfl jl rfl (ju Tp.z4 gk (aq (oO (aA (top 35)) Wt ["_law_one","_law_other"] ["_law_row"] [4] rfl rfl rfl Bd Bd (yC 0 1) Bd (nJ (cJ (gv 0) aJ)) (λ_ _ _ _ _ _=>(A_ 0 1 rfl Bd rfl rfl Bd Bd)) (λ_ _ _ _ _ _=>(Ay (qQ (GC (fX (Ax hr) (bY 0) (bY 2)) (Kw (fX (Ax hr) (bY 1) (bY 2))))))) (λ_ _ _ _ _ _=>aJ)) aH)))
 (aM (iI (fX (oN hr) (gv 5) (cN Gz (ziT Tp.z1 gk (aq (gv 1) aH)) (cN Ku (cN Gz (ju Tp.z4 gk (aq (gv 4) aH)) (cN Ks (ju Tp.z4 gk (aq (gv 4) aH)) aJ)) aJ))) (aM (Ou (T6 (gv 2) (gv 4)))
 aX) aX)
 aX))))
 (aM (cH (gv 2))
 aX)))
 t24:=fJ Tp.WY Wu znY λ_ _ _ _ _ _ hr=>(aM (iI (qQ (qP (lF (j_ (sy rfl Tp.z0 gk (gv 1) (su rfl Tp.z3 yH gk dk)))) (qP (fX (Aw hr) (ju Tp.z4 gk (aq (gv 1) aH)) aJ) (yJ (lF (j_ (wA rfl Tp.z6 gk (aq (oO (aA (top 36)) Wu ["_law_place"] [] [] rfl rfl rfl Bd Bd (qK 0) Bd (nJ (gv 1)) (λ_ _ _ _ _ _=>(qT 0 Bd rfl Bd)) (λ_ _ _ _ _ _=>sE) (λ_ _ _ _ _ _=>(gc Fk.PX Tp.Lz hr wB sS (aq (bY 0) aH)))) aH)))))))) (aM (cH mj)
 aX) aX)
 (aM (iI (qQ (qP (fX (Ed hr) (znW rfl Tp.z4 gk Tp.z9 gk (aq (gv 1) aH)) (ju Tp.z4 gk (aq (gv 1) aH))) (qP (fX (Ed hr) (cJ (gv 1) aJ) (Uc rfl Tp.LQ gk (aq (gv 1) aH))) (yJ (fX T4 (cJ (gv 1) aJ) (cJ (gv 1) (Ar aJ))))))) (aM (cH mj)
 aX) aX)
 (aM (gJ 2 nd rfl jl rfl (zog rfl Tp.LC gk Tp.z5 gk (aq (gv 1) (aq (cN j9 (qR (gv 1) (pR aJ) rZ) (qR (gv 1) rZ (pR aJ))) aH))))
 (aM (cH (vo (oN hr) (oO (aA (top 36)) Wu ["_law_one","_law_other"] ["_law_web_here"] [0] rfl rfl rfl Bd Bd (yC 0 1) Bd (nJ (gv 2)) (λ_ _ _ _ _ _=>(A_ 0 1 rfl Bd rfl rfl Bd Bd)) (λ_ _ _ _ _ _=>(Ay (fX (zk6 hr) (cO (aq (zkx rfl Tp.LQ sS (aq (bY 0) (aq (bY 1) aH))) (aq (ziP rfl Tp.W5 sS (aq (bY 0) (aq (bY 1) aH))) aH))) (cJ (bY 2) aJ)))) (λ_ _ _ _ _ _=>aJ)) (jK aH)))
 aX))))
 t25:=fJ Tp.W0 Wv Wo λ_ _ _ _ _ _ hr=>(aM (iI (qQ (qP (lF (j_ (sy rfl Tp.z0 gk (gv 1) (su rfl Tp.z3 yH gk dk)))) (qP (fX (Ed hr) (ju Tp.z4 gk (aq (gv 1) aH)) aJ) (yJ (lF (j_ (sy rfl Tp.z0 gk (cJ (gv 1) aJ) (su rfl Tp.z15 zlU gk dk)))))))) (aM (cH vm)
 aX) aX)
 (aM (iI (fX (oN hr) (cJ (gv 1) aJ) kZ) (aM (gJ 2 nd rfl jl rfl (wz (gc Fk.t24 Tp.WY hr dY gk (aq (gv 0) (aq (cJ (gv 1) aJ) aH))) (Av (vo (oN hr) (cN Aq (ju Tp.z4 gk (aq (cJ (gv 1) aJ) aH)) aJ) aJ))))
 (aM (cH (T5 (j_ (gv 2)) (cO (aq (ju Tp.z4 gk (aq (cJ (gv 1) aJ) aH)) (aq (cN Ku (ju Tp.z4 gk (aq (cJ (gv 1) aJ) aH)) aJ) aH))) vm))
 aX)) aX)
 (aM (gJ 3 nd rfl jc rfl (cJ (gv 1) aJ))
 (aM (iI (qQ (qP (fX (Ed hr) (cJ (gv 1) aJ) kZ) (qP (lF (j_ (sy rfl Tp.z0 gk (gv 3) (su rfl Tp.z3 yH gk dk)))) (yJ (fX (oN hr) (gv 3) (cO aH)))))) (aM (cH vm)
 aX) aX)
 (aM (iI (lF (j_ (wA rfl Tp.z6 gk (aq (oO (aA (top 37)) Wv ["_law_one"] [] [] rfl rfl rfl Bd Bd (qK 0) Bd (nJ (gv 3)) (λ_ _ _ _ _ _=>(qT 0 Bd rfl Bd)) (λ_ _ _ _ _ _=>sE) (λ_ _ _ _ _ _=>(gc Fk.PX Tp.Lz hr wB sS (aq (bY 0) aH)))) aH)))) (aM (cH vm)
 aX) aX)
 (aM (iI (qQ (qP (fX (Ed hr) (ziZ Tp.LC gk (aq (gv 3) aH)) (zom rfl Tp.z7 gk Tp.z9 gk (aq (gv 3) aH))) (qP (fX (Aw hr) (cJ (gv 3) aJ) aJ) (yJ (fX zn8 (cJ (gv 3) (Ar aJ)) (cJ (gv 0) aJ)))))) (aM (cH vm)
 aX) aX)
 (aM (gJ 4 nd rfl jl rfl (ju Tp.z4 gk (aq (oO (aA (top 37)) Wv ["_law_one","_law_other"] ["_law_crowd"] [3] rfl rfl rfl Bd Bd (yC 0 1) Bd (nJ (cJ (gv 0) aJ)) (λ_ _ _ _ _ _=>(A_ 0 1 rfl Bd rfl rfl Bd Bd)) (λ_ _ _ _ _ _=>(Ay (qQ (GC (fX (Ax hr) (bY 0) (bY 2)) (Kw (fX (Ax hr) (bY 1) (bY 2))))))) (λ_ _ _ _ _ _=>aJ)) aH)))
 (aM (cH (T5 (fX (oN hr) (gv 4) (cN Ku (cN Gz (ju Tp.z4 gk (aq (gv 3) aH)) (cN Ks (ju Tp.z4 gk (aq (gv 3) aH)) aJ)) aJ)) (cO (aq (ju Tp.z4 gk (aq (gv 3) aH)) (aq aJ aH))) vm))
 aX))))))))
 t26:=fJ Tp.W2 ["_law_pen_here","_law_row","_law_k","_law_at","_law_odd_here","_law_rows"] znZ λ_ _ _ _ _ _ hr=>(aM (gJ 3 nd rfl jl rfl (gc Fk.q_ Tp.p8 hr dY gk (aq (gv 0) (aq (cN j9 (ju Tp.z4 gk (aq (gv 1) aH)) aJ) aH))))
 (aM (gJ 4 nd rfl jl rfl (cJ (jK (aq mj (aq mj (aq vm (aq (Ar aJ) (aq (gv 2) (aq kZ (aq (cO (aq aJ aH)) (aq (gc Fk.q_ Tp.p8 hr dY gk (aq (gv 0) (aq (gv 2) aH))) aH))))))))) (gc Fk.q_ Tp.p8 hr dY gk (aq (gv 0) (aq aJ aH)))))
 (aM (gJ 5 nd rfl jl rfl (jK (aq (cN j9 (cN j9 (qR (gv 1) rZ (pR (gv 3))) (cO (aq (gv 4) aH))) (qR (gv 1) (pR (cN j9 (gv 3) aJ)) rZ)) (aq (cN j9 (qR (gv 1) rZ (pR (gv 3))) (qR (gv 1) (pR (cN j9 (gv 3) aJ)) rZ)) (aq (cN j9 (gv 1) (cO (aq aJ aH))) (aq (ziZ Tp.LC gk (aq (gv 1) aH)) (aq vm (aq (cO (aq (gv 1) aH)) aH))))))))
 (aM (cH (cJ (gv 5) (cJ (jK (aq aJ (aq aJ (aq aJ (aq aJ (aq aJ (aq aJ (aq aJ (aq aJ (aq aJ aH)))))))))) (gc Fk.q_ Tp.p8 hr dY gk (aq (gv 0) (aq aJ aH))))))
 aX))))
 t27:=fJ Tp.W3 N27 Wq λ_ _ _ _ _ _ hr=>(aM (iI (znl (gv 1)) (aM (cH (zmZ (gv 0)))
 aX) aX)
 (aM (cH (wz (sy rfl Tp.z0 gk (gv 0) (su rfl Tp.z3 yH gk dk)) (wz (vo (oN hr) (gv 0) (gv 1)) (Av (wA rfl Tp.z6 gk (aq (oO (aA (top 39)) N27 ["_law_one"] [] [] rfl rfl rfl Bd Bd (qK 0) Bd (nJ (gv 0)) (λ_ _ _ _ _ _=>(qT 0 Bd rfl Bd)) (λ_ _ _ _ _ _=>sE) (λ_ _ _ _ _ _=>(gc Fk.PX Tp.Lz hr wB sS (aq (bY 0) aH)))) aH))))))
 aX))
 t28:=fJ Tp.W4 Ww zoh λ_ _ _ _ _ _ hr=>(aM (gJ 2 nd rfl jc rfl (jK (aq (gc Fk.q_ Tp.p8 hr dY gk (aq (gv 0) (aq (cJ (gv 1) aJ) aH))) aH)))
 (aM (Ej Ef rfl rfl (Az Tp.z8 gk (gc Fk.q_ Tp.p8 hr dY gk (aq (gv 0) (aq aJ aH)))) (Eh 3 nd rfl jl rfl) (aM (Ov 4 (aA (top 40)) Ww ["_law_one","_law_other"] ["_law_row"] [2] nd rfl jl rfl rfl rfl rfl Bd Bd (yC 0 1) Bd (nJ (cJ (gv 1) aJ)) (λ_ _ _ _ _ _=>(A_ 0 1 rfl Bd rfl rfl Bd Bd)) (λ_ _ _ _ _ _=>(Ay (fX (Ax hr) (cJ (bY 2) (Ar aJ)) (cO (aq (bY 0) (aq (bY 1) aH)))))) (λ_ _ _ _ _ _=>(cN Ks (cN j9 (bY 0) (bY 1)) (cJ (bY 2) (Ar aJ)))))
 (aM (Ov 4 (aA (top 40)) Ww ["_law_place"] ["_law_row"] [2] nd rfl jl rfl rfl rfl rfl Bd Bd (qK 0) Bd (nJ (gv 4)) (λ_ _ _ _ _ _=>(qT 0 Bd rfl Bd)) (λ_ _ _ _ _ _=>(Ay (fX (zk6 hr) (bY 0) (bY 1)))) (λ_ _ _ _ _ _=>(bY 0)))
 (aM (iI (fX (Ed hr) (gv 4) (jK aH)) (aM (Ou (T6 (gv 2) (cJ (gv 4) (gc Fk.q_ Tp.p8 hr dY gk (aq (gv 0) (aq (ju Tp.z4 gk (aq (gv 4) aH)) aH))))))
 aX) aX)
 aX))))
 (aM (gJ 5 nd rfl jl rfl (zhr (gv 2) (aq (Uc rfl Tp.LQ gk (aq (gv 2) aH)) aH)))
 (aM (gJ 2 nd rfl jc rfl (cN j9 (qR (gv 2) (pR (gv 5)) rZ) (qR (gv 2) rZ (pR (gv 5)))))
 (aM (iI (qQ (GC (fX T4 (ju Tp.z4 gk (aq (gv 2) aH)) aJ) (Kw (fX T4 (cJ (gv 2) aJ) (cJ (gv 2) (Ar aJ)))))) (aM (gJ 2 nd rfl jc rfl (cN j9 (qR (gv 2) rZ (pR aJ)) (zmq (gv 2))))
 aX) aX)
 (aM (cH (Ot Tp.z3 gk (aq (gv 2) aH)))
 aX))))))
 W7:=fJ Tp.PL ["_law_web_here","_law_thing","_law_kept","_law_due","_law_turn"] zn0 λ_ _ _ _ _ _ hr=>(aM (gJ 2 nd rfl jl rfl (ziE hr Tp.W6 gk (aq (gv 1) aH)))
 (aM (gJ 3 nd rfl jl rfl (gc Fk.t25 Tp.W0 hr dY gk (aq (gv 0) (aq (gv 1) aH))))
 (aM (Ej Ef rfl rfl (Az Tp.z8 gk aJ) (Eh 4 nd rfl jl rfl) (aM (iI (lF (j_ (gc Fk.t27 Tp.W3 hr dY gk (aq (gc Fk.t14 Tp.WK hr dY gk (aq (gv 0) (aq (gv 1) aH))) (aq (gv 3) aH))))) (aM (cH mj)
 aX) aX)
 aX))
 (aM (cH (vo (oN hr) (ziE hr Tp.W6 gk (aq (gv 1) aH)) (gv 2)))
 aX))))
 t30:=fJ Tp.PN PK zn3 λ_ _ _ _ _ _ hr=>(aM (gJ 1 nd rfl jl rfl (cO (aq aJ (aq (cO (aq (cO (aq aJ (aq aJ aH))) (aq (cO (aq aJ (aq aJ aH))) (aq (cO (aq aJ (aq aJ aH))) (aq (cO (aq aJ (aq aJ aH))) (aq (cO (aq aJ (aq aJ aH))) aH)))))) aH))))
 (aM (gJ 2 nd rfl jl rfl (jK (aq (cO (aq kZ (aq (cO (aq aJ (aq aJ (aq aJ (aq aJ (aq aJ aH)))))) aH))) (aq (cO (aq kZ (aq (cO (aq aJ (aq aJ (aq aJ (aq aJ (aq aJ aH)))))) aH))) (aq (cO (aq kZ (aq (cO (aq aJ (aq aJ aH))) aH))) (aq (cO (aq kZ (aq (cO (aq aJ (aq aJ aH))) aH))) aH))))))
 (aM (Ej Ef rfl rfl (nJ (cN j9 (gv 2) (jK (aq (cO (aq kZ (aq (cO aH) aH))) aH)))) (Eh 3 nd rfl jl rfl) (aM (iI (lF (j_ (gc Fk.W7 Tp.PL hr dY gk (aq (gv 1) (aq (gv 3) aH))))) (aM (cH mj)
 aX) aX)
 aX))
 (aM (Ej Ef rfl rfl (nJ (cN j9 (jK (aq (gc Fk.t16 Tp.WM hr dY gk (aq (gv 0) (aq aJ aH))) aH)) (qR (gv 0) (pR aJ) (pR aJ)))) (Eh 4 nd rfl jl rfl) (aM (gJ 5 nd rfl jc rfl (gc Fk.t17 Tp.WQ hr dY gk (aq (gv 4) aH)))
 (aM (gJ 6 nd rfl jc rfl (gc Fk.t22 Tp.WW hr dY gk (aq (gv 5) (aq (gc Fk.t21 Tp.WT hr dY gk (aq (gv 5) aH)) aH))))
 (aM (gJ 7 nd rfl jl rfl (gc Fk.t23 Tp.WX hr dY gk (aq (gv 6) (aq mj aH))))
 (aM (gJ 8 nd rfl jl rfl (cJ (gv 7) (gc Fk.q_ Tp.p8 hr dY gk (aq (gv 5) (aq (ju Tp.z4 gk (aq (gv 7) aH)) aH)))))
 (aM (Ov 9 (aA (top 42)) PK ["_law_turn"] ["_law_pen_here","_law_web_here"] [5,6] nd rfl jl rfl rfl rfl rfl Bd Bd (qK 0) Bd (Az Tp.z8 gk aJ) (λ_ _ _ _ _ _=>(qT 0 Bd rfl Bd)) (λ_ _ _ _ _ _=>sE) (λ_ _ _ _ _ _=>(gc Fk.t28 Tp.W4 hr wB sS (aq (bY 1) (aq (bY 2) aH)))))
 (aM (gJ 10 nd rfl jl rfl (jK (aq (cO (aq kZ (aq (gv 8) aH))) (aq (cO (aq kZ (aq (cJ (gv 9) aJ) aH))) (aq (cO (aq kZ (aq (gv 8) aH))) (aq (gc Fk.t20 Tp.WR hr dY gk (aq (gv 5) aH)) (aq (cO (aq kZ (aq (gv 8) (aq aJ aH)))) aH)))))))
 (aM (gJ 10 nd rfl jl rfl (cN j9 (cN j9 (gv 10) (jK (aq (jK (aq kZ (aq (cJ (gv 9) aJ) aH))) aH))) (oO (aA (top 42)) PK ["_law_walk"] [] [] rfl rfl rfl Bd Bd (qK 0) Bd (nJ (gv 9)) (λ_ _ _ _ _ _=>(qT 0 Bd rfl Bd)) (λ_ _ _ _ _ _=>sE) (λ_ _ _ _ _ _=>(cO (aq kZ (aq (bY 0) aH)))))))
 (aM (gJ 10 nd rfl jl rfl (cN j9 (gv 10) (jK (aq (cO (aq kZ (aq (cJ (gv 9) aJ) aH))) (aq (cO (aq kZ aH)) (aq (cO (aq (gv 8) (aq kZ aH))) aH))))))
 (aM (Ej Ef rfl rfl (Az Tp.z8 gk aJ) (Eh 11 nd rfl jl rfl) (aM (gJ 12 nd rfl jl rfl (gc Fk.t26 Tp.W2 hr dY gk (aq (gv 5) (aq (cJ (jK (aq (gv 8) (aq (cJ (gv 9) aJ) aH))) (cN Aq (gv 11) aJ)) (aq (cJ (gv 6) aJ) aH)))))
 (aM (Ou (T6 (gv 10) (cO (aq (cJ (jK (aq kZ (aq kZ aH))) (gc Fk.q_ Tp.p8 hr dY gk (aq (gv 5) (aq aJ aH)))) (aq (gv 12) aH)))))
 aX)))
 (aM (iI (lF (j_ (wA rfl Tp.z6 gk (aq (oO (aA (top 42)) PK ["_law_thing"] ["_law_web_here"] [6] rfl rfl rfl Bd Bd (qK 0) Bd (nJ (gv 10)) (λ_ _ _ _ _ _=>(qT 0 Bd rfl Bd)) (λ_ _ _ _ _ _=>sE) (λ_ _ _ _ _ _=>(gc Fk.W7 Tp.PL hr wB sS (aq (bY 1) (aq (bY 0) aH))))) aH)))) (aM (cH mj)
 aX) aX)
 aX)))))))))))
 (aM (cH mj)
 aX)))))
theorem ziI(Tp:Top K mg):∀k,Fs P w K mg base k
 |0=>⟨gZ,gZ,gZ,gZ,gZ,gZ,gZ,gZ,gZ,gZ,gZ,gZ,gZ,gZ,gZ,gZ,gZ,gZ,gZ,gZ,gZ,gZ,gZ,gZ,gZ,gZ,gZ,gZ,gZ,gZ,gZ⟩
 |k+1=>zjM Tp (ziI Tp k)
end
theorem all_mk{l:PySem.W.OpenLaw}{w:World}{K:W.Frag}{h:Heap}{mg:Str->Option Value}{fa:Addr}(hm:∀ns:List Int,ns.length<=63->∃s',call ao T 60 true 30 [.d (.fl (ns.map D.int))] []=some (.ok (.d (.bl true)),s'))
  (S:kh fs ms xs lk K) (X:K.In h) (G:h.Ns mainGlobals mg) (W8:mg "law"=some (.ref fa)) :
  ∃fd:FuncData,(∀(s:Shared) (u:Value),BindsTo s fd ⟨[u],[]⟩ [("_law_script",u)])/\∀base:Heap,K.In base->base.Ns mainGlobals mg->fD l.prog w K mg base (lA l.prog w) true 60 fa fd ["_law_script"] (vh K):=by
 have Tp:Top K mg:=zmN S X G;have e:=W8.symm.trans Tp.PN.m;cases e;exact⟨_,Ek Tp.PN.f (λ_ _ _ _ _ _ _=>rfl),λbase _ _=>(ziI Tp 60).t30.imp (zi9 hm)⟩
end fL
namespace fL
open PySem Mi
def jF(o:SO):Prop:=∃a b:Int,o=.lst [.int a,.int b]/\0<=a/\(b=0\/b=1)
theorem W9{k:Nat}{o:SO}{m:Int}(ho:jF o)(hm:0<m)(wM:m<1073741824):W (call ao T (k+1) true 18 [.l 0,.d (.int m)]) [o] λv s=>∃d o',v=.d d/\s=[o']/\(∃r:Int,d=.int r/\0<=r/\r<m)/\jF o':=by
 obtain⟨a,b,rfl,ha,hb⟩:=ho;refine W.call zof rfl ?_;unfold V_;rcases hb with rfl|rfl
 ·refine Y ?_;exact⟨_,_,rfl,rfl,⟨_,rfl,Int.emod_nonneg _ gV,Int.emod_lt_of_pos _ hm⟩,⟨_,_,rfl,Int.emod_nonneg _ Dc,.inl rfl⟩⟩
 ·refine Y ?_;exact⟨_,_,rfl,rfl,⟨_,rfl,Int.emod_nonneg _ gV,Int.emod_lt_of_pos _ hm⟩,⟨_,_,rfl,Int.ediv_nonneg ha gV,.inr rfl⟩⟩
theorem zm5{k:Nat}{n:Int}:W (call ao T (k+1) true 17 [.d (.int n)]) [] λv s=>∃i o,v=.l i/\s[i]?=some o/\jF o:=by
 refine W.call zoi rfl ?_;unfold V9;refine Y ?_;refine⟨0,_,rfl,rfl,⟨_,_,rfl,?_,?_⟩⟩
 ·split<;>lia
 ·have:∀c:Bool,(if c=true then (1:Int) else 0)=0\/(if c=true then (1:Int) else 0)=1:=by intro c;cases c<;>simp
  exact this _
theorem yX{k:Nat}{o:SO}{m:Int}{P:Xv->S->Prop}(ho:jF o)(hm:0<m)(wM:m<1073741824)(h:∀(r:Nat) o',(r:Int)<m->jF o'->P (.d (.int r)) [o']):W (bT (call ao T (k+1) true 18) [.l 0,.d (.int m)]) [o] P:=by
 refine Uh (n:=0) (o:=o) rfl rfl ((W9 ho hm wM).imp λv s=>?_);rintro⟨d,o',rfl,rfl,⟨r,rfl,h0,h1⟩,hp⟩;obtain⟨n,rfl⟩:=Fx h0;exact⟨_,_,rfl,rfl,h n o' h1 hp⟩
theorem zmh{k:Nat}{ns:List Int}:W (call ao T (k+1) true 16 [.d (.fl (ns.map D.int)),.d (.int 0)]) [] λv _=>∃n,v=.d (.int n):=by
 refine W.call zod rfl ?_;unfold V8;cases ns with
 |nil=>
  refine Y ?_;exact⟨_,rfl⟩
 |cons n r=>
  refine Y ?_;refine WS.ite (λ_=>?_) (λ_=>?_)
  ·refine Y ?_;refine bK (yO (i:=0) (x:=.int n) rfl) ?_;refine Y ?_;exact⟨_,rfl⟩
  ·refine Y ?_;exact⟨_,rfl⟩
theorem zkO{k:Nat}{o:SO}(ho:jF o):W (call ao T (k+2) true 21 [.l 0]) [o] λv s=>∃(n:Nat) (o':SO),v=.d (.int n)/\s=[o']/\(1<=n/\n<=8)/\jF o':=by
 refine W.call znX rfl ?_;unfold Wb;refine Y ?_;refine yX ho Dc Dc λr o' hr hp=>?_;refine Y ?_;have nH:r<12:=by lia
 refine bK (yO (x:=.int (([1,2,3,4,5,6,4,5,3,6,7,8]:List Nat)[r]'nH:Nat)) ?_) ?_
 ·revert nH;revert r;intro r _ nH;exact match r,nH with
  |0,_=>rfl|1,_=>rfl|2,_=>rfl|3,_=>rfl|4,_=>rfl|5,_=>rfl|6,_=>rfl|7,_=>rfl|8,_=>rfl|9,_=>rfl|10,_=>rfl|11,_=>rfl
  |n+12,h=>absurd h gV
 ·refine Y ?_;refine⟨_,_,rfl,rfl,?_,hp⟩;have key:∀n∈([1,2,3,4,5,6,4,5,3,6,7,8]:List Nat),1<=n/\n<=8:=by decide
  exact key _ (lH _)
theorem zi8{k:Nat}{i:Int}:W (call ao T (k+1) true 0 [.d (.int i)]) [] λv s=>v=.d (.bl true):=W.eq (a:=.d (.bl true)) (s':=[]) rfl rfl
theorem W_{k:Nat}{a b:D}:W (call ao T (k+1) true 2 [.d (.tup [a,b]),.d (.int 2)]) [] λv s=>v=.d (.bl true):=W.eq (a:=.d (.bl true)) (s':=[]) rfl rfl
theorem kJ{k:Nat}{i a b:Int}:W (call ao T (k+2) true 1 [.d (.int i),.d (.int a),.d (.int b)]) [] λv s=>v=.d (.bl (decide (a<=i/\i<=b))):=by
 refine W.call T_1 rfl ?_;unfold b1;refine Y ?_;refine W.c0 zi8 ?_;refine Y ?_;refine W.ite (λh1=>?_) (λh1=>?_)
 ·refine Y ?_;have:=lG h1;simp[this]
 ·refine Y ?_;simp at h1;have:¬(a<=i/\i<=b):=by lia
  simp[this]
theorem zmL{k:Nat}{i:Int}(h1:1<=i)(h2:i<=8):W (call ao T (k+3) true 4 [.d (.int i)]) [] λv s=>v=.d (.bl true):=by
 refine W.call T_4 rfl ?_;unfold b4;refine Y ?_;exact tR rfl (kJ.imp λv s e=>⟨_,e,by rw[dM (And.intro h1 h2)]⟩)
theorem zg4{k:Nat}{n i:Int}:W (call ao T (k+3) true 5 [.d (.int n),.d (.int i)]) [] λv s=>v=.d (.bl (decide (0<=i/\i<n))):=by
 refine W.call Wm rfl ?_;unfold b5;refine Y ?_;exact tR rfl (kJ.imp λv s e=>⟨_,e,by rw[decide_eq_decide.mpr (show 0<=i/\i<=n-1↔0<=i/\i<n by lia)]⟩)
theorem znv{k:Nat}{n:Int}{p:Int×Int}(h:0<=p.1/\p.1<p.2/\p.2<n):W (call ao T (k+4) true 6 [.d (.int n),.d (dG p)]) [] λv s=>v=.d (.bl true):=by
 obtain⟨a,b⟩:=p;obtain⟨h1,h2,h3⟩:=h;unfold dG;dsimp only at h1 h2 h3 ⊢;refine W.call T_6 rfl ?_;unfold b6;refine Y ?_;refine W.c0 W_ ?_;refine Y ?_;refine W.c0 zg4 ?_;rw[dM (show 0<=a/\a<n by lia)];refine Y ?_;refine W.c0 zg4 ?_;rw[dM (show 0<=b/\b<n by lia)];refine Y ?_;rw[dM h2]
theorem zj8{k:Nat}{d:D}(h:oU d=true):W (call ao T (k+1) true 19 [.d d]) [] λv s=>v=.d (.bl (Bg d)):=by
 cases d with
 |exc _ _=>cases h
 |ob _ _=>cases h
 |any=>cases h
 |_=>exact W.eq (a:=_) (s':=[]) rfl rfl
theorem znG{k:Nat}{d:D}{n:Int}(h:oU d=true):W (call ao T (k+1) true 2 [.d d,.d (.int n)]) [] λv s=>v=.d (.bl (Fi n d)):=by
 cases d with
 |exc _ _=>cases h
 |ob _ _=>cases h
 |any=>cases h
 |tup xs=>
  refine W.call T_2 rfl ?_;unfold b2;refine Y ?_;show Xv.d (D.bl (id (((xs.length:Nat):Int)==n)))=_
  congr 2
 |_=>exact W.eq (a:=_) (s':=[]) rfl rfl
theorem zhv{k:Nat}{d:D}{a b:Int}(h:oU d=true):W (call ao T (k+2) true 1 [.d d,.d (.int a),.d (.int b)]) [] λv s=>v=.d (.bl (yW a b d)):=by
 cases d with
 |exc _ _=>cases h
 |ob _ _=>cases h
 |any=>cases h
 |int i=>exact kJ
 |_=>exact W.eq (a:=_) (s':=[]) rfl rfl
theorem zfH{k:Nat}{d:D}{n:Int}(h:oU d=true):W (call ao T (k+3) true 5 [.d (.int n),.d d]) [] λv s=>v=.d (.bl (yW 0 (n-1) d)):=by
 refine W.call Wm rfl ?_;unfold b5;refine Y ?_;exact tR rfl ((zhv h).imp λv s e=>⟨_,e,rfl⟩)
theorem zh2{k:Nat}{o:SO}{n:Int}(ho:jF o)(h1:1<=n)(h8:n<=8):W (call ao T (k+2) true 22 [.l 0,.d (.int n)]) [o] λv s=>∃ps o',v=.d (cC n ps)/\s=[o']/\Web n ps/\jF o':=by
 refine W.call zn4 rfl ?_;unfold Wc;have hs:(100:Nat)<=sizeLine:=by decide
 refine Y ?_;refine yX ho Dc Dc λr o' hr hp=>?_;refine Y ?_;have nH:r<3:=by lia
 refine bK (yO (x:=.int (([2,4,6]:List Int)[r]'nH)) ?_) ?_
 ·revert nH;revert r;intro r _ nH;exact match r,nH with
  |0,_=>rfl|1,_=>rfl|2,_=>rfl
  |n+3,h=>absurd h gV
 generalize ([2,4,6]:List Int)[r]=often;refine Y ?_;refine⟨by rw[tU gV gV,tU gV gV];rfl,?_⟩;refine Er (λ(i:Nat) J s=>∃(ps:List (Int×Int)) (a:Option Xv) (o':SO),J=[some (.l 0),some (.d (.int n)),some (.d (.int often)),some (.d (.fl (ps.map dG))),a]/\s=[o']/\jF o'/\(∀p∈ps,0<=p.1/\p.1<(i:Int)/\p.1<p.2/\p.2<n)/\ps.Pairwise lx/\ps.length<=7*i)
  ⟨[],_,_,rfl,rfl,hp,by simp,by simp,by simp⟩ (λi x J s e hI=>?_) (λJ s hI=>?_)
 ·obtain⟨ps,a,o',rfl,rfl,hp,ht,Fp,hlen⟩:=hI;obtain⟨rfl,hi⟩:=K5 e;have hi8:i<8:=by lia
  refine Y ?_;refine Kar (c:=jf (0+(i:Int)+1) n) (λ(j:Nat) acc s=>∃(es:List Int) (o':SO),acc=es.map (λe=>dG (0+(i:Int),e))/\es.Pairwise (·<·)/\(∀e∈es,(i:Int)<e/\e<(i:Int)+1+j)/\s=[o']/\jF o') ?_ (λj x acc s e hJ=>?_) (λacc s hJ=>?_)
  ·refine Y ?_;refine⟨by rw[tU gV gV,tU gV gV];rfl,?_⟩;exact⟨rfl,[],_,rfl,by simp,by simp,rfl,hp⟩
  ·obtain⟨es,o',rfl,tV,Bv,rfl,hp⟩:=hJ;obtain⟨rfl,hj⟩:=K5 e;have O_:(es.length:Int)<=(i:Int)+1+j-((i:Int)+1):=O2 tV (λe he=>by have:=Bv e he;lia) gV;refine Y ?_;refine yX hp Dc Dc λr o' hr hp=>?_;refine Y ?_;refine⟨λhb=>?_,λhb=>?_⟩
   ·refine Y ?_;refine⟨_,rfl,by rw[aW];lia,es++[0+(i:Int)+1+j],o',?_,?_,?_,rfl,hp⟩
    ·rw[jN];rfl
    ·rw[Ho];refine⟨tV,by simp,λa ha b hb=>?_⟩;simp at hb;have:=Bv a ha
     lia
    ·intro e he;rcases eU.mp he with he|he
     ·have:=Bv e he;lia
     ·simp at he;lia
   ·exact⟨es,o',rfl,tV,λe he=>by have:=Bv e he;lia,rfl,hp⟩
  ·obtain⟨es,o',rfl,tV,Bv,rfl,hp⟩:=hJ;rw[O4] at Bv;have O_:(es.length:Int)<=n-((i:Int)+1):=O2 tV (λe he=>by have:=Bv e he;lia) gV;refine Y ?_;refine Ep (OD ?_) ?_
   ·rw[aW,aW];lia
   refine Y ?_;refine⟨_,rfl,ps++es.map (λe=>(0+(i:Int),e)),some (.d (.int (0+(i:Int)))),o',?_,rfl,hp,?_,?_,?_⟩
   ·rw[jN,lM];rfl
   ·intro p hp;rcases eU.mp hp with hp|hp
    ·have:=ht p hp;lia
    ·obtain⟨e,he,rfl⟩:=eE.mp hp;have:=Bv e he;dsimp only
     lia
   ·rw[Ho,sY];refine⟨Fp,tV.imp λh=>.inr ⟨rfl,h⟩,λp hp q hq=>?_⟩;obtain⟨e,he,rfl⟩:=eE.mp hq;have:=ht p hp;exact .inl (by dsimp only;lia)
   ·rw[h_,aW];lia
 ·obtain⟨ps,a,o',rfl,rfl,hp,ht,Fp,hlen⟩:=hI;rw[O4] at ht hlen;refine Y ?_;refine⟨ps,o',rfl,rfl,⟨h1,h8,λp hp=>?_,Fp,by lia⟩,hp⟩;have:=ht p hp
  lia
theorem zh1{k:Nat}{c:Bool}{i:Int}:W (call ao T (k+1) c 19 [.d (.int i)]) [] λv s=>v=.d (.bl true):=W.eq (a:=.d (.bl true)) (s':=[]) rfl rfl
noncomputable def sV:List D:=[.non,.bl true,.bl false,.int (-1),.str "1",.str "",.tup [],.fl [],.tup [.int 0],.fl [.int 0],.fd [.str "a"] [.int 1],.tup [.int 0,.int 1],.int 1000000000000000000000000000000,.tup [.int 0,.tup []],.tup [.str "ab"],.tup [.int 1,.tup [.tup [.int 0,.int 0]]]]
theorem znd{k:Nat}{o:SO}(ho:jF o):W (call ao T (k+2) true 20 [.l 0]) [o] λv s=>∃d o',v=.d d/\s=[o']/\d∈sV/\jF o':=by
 refine W.call zn7 rfl ?_;unfold Wa;refine Y ?_;refine yX ho Dc Dc λr o' hr hp=>?_;refine Y ?_;have nH:r<sV.length:=by show r<16;lia
 refine bK (yO (x:=sV[r]) (dj (l:=sV) nH)) ?_;refine Y ?_;exact⟨_,_,rfl,rfl,lH _,hp⟩
theorem Xa{xs:List D}{r:Nat}(hr:r<xs.length):∃x,prim .ix [.fl xs,.int r]=some (.dat x)/\x∈xs:=⟨xs[r],yO (dj hr),lH _⟩
theorem zg8{xs:List D}{z:Int}(h0:0<=z)(hz:z<xs.length):∃x,prim .ix [.fl xs,.int z]=some (.dat x)/\x∈xs:=by
 obtain⟨r,rfl⟩:=Fx h0;exact Xa gV
theorem zlf{xs:List Int}{r:Nat}{q:Int->Prop}(hb:∀z∈xs,q z)(hr:r<xs.length):∃z:Int,prim .ix [.fl (xs.map .int),.int r]=some (.dat (.int z))/\q z:=
 ⟨xs[r],yO (by rw[gK,dj hr];rfl),hb _ (lH _)⟩
theorem zkf{k:Nat}{n:Int}{ps:List (Int×Int)}(h:Web n ps):W (call ao T (k+5) true 3 [.d (cC n ps)]) [] λv s=>v=.d (.bl true):=by
 refine W.call T_3 rfl ?_;unfold b3 cC;have hl:(ps.map dG).length<=100:=by rw[aW];have:=h.len;have:=h.h8;lia
 have hs:(100:Nat)<=sizeLine:=by decide
 refine Y ?_;refine W.c0 W_ ?_;refine Y ?_;refine W.c0 (zmL h.h1 h.h8) ?_;refine Y ?_;refine Kas (c:=ps.map dG) (λ_=>.bl true) gV ?_ (λx hx=>?_) ?_
 ·refine Y ?_;exact⟨rfl,rfl⟩
 ·obtain⟨p,hp,rfl⟩:=eE.mp hx;refine Y ?_;exact tR rfl ((znv (h.tie p hp)).imp λv s e=>⟨_,e,rfl,rfl⟩)
 ·refine Y ?_;refine bK (O1 ?_) ?_
  ·intro x hx;obtain⟨_,_,e⟩:=eE.mp hx;exact e.symm
  refine Y ?_;refine Kas (c:=List.zipWith (λ(p q:D)=>D.tup [p,q]) (ps.map dG) ((ps.map dG).drop 1)) (λ_=>.bl true) (by rw[List.length_zipWith];lia) ?_ (λx hx=>?_) ?_
  ·refine Y ?_;rw[Uu];exact⟨rfl,rfl⟩
  ·obtain⟨p,q,rfl,hpq⟩:=ziJ h.inc x hx;refine Y ?_;rw[znb hpq];exact⟨rfl,rfl⟩
  ·refine Y ?_;refine bK (O1 ?_) ?_
   ·intro x hx;obtain⟨_,_,e⟩:=eE.mp hx;exact e.symm
   rfl
theorem zd6{k:Nat}{n:Int}{ps:List (Int×Int)}(h:Web n ps):W (call ao T (k+6) true 7 [.d (cC n ps)]) [] λv s=>∃d,v=.d d:=by
 refine W.call T_7 rfl ?_;unfold b7;refine Y ?_;refine W.c0 (zkf h) ?_;refine Y ?_;exact⟨_,rfl⟩
theorem ziy{k:Nat}{n i:Int}{ps:List (Int×Int)}(h:Web n ps):W (call ao T (k+1) true 8 [.d (cC n ps),.d (.int i)]) [] λv s=>v=.d (.tup ((bH i ps).map .int)):=by
 refine W.call T_8 rfl ?_;unfold b8 cC;have hl:(ps.map dG).length<=100:=by rw[aW];have:=h.len;have:=h.h8;lia
 have hs:(100:Nat)<=sizeLine:=by decide
 refine Y ?_;refine pW (l:=ps) (f:=dG) (λp=>(endOf i p).map .int) (by rw[aW] at hl;lia) ?_ (λp hp=>?_) ?_
 ·refine Y ?_;exact⟨rfl,rfl⟩
 ·obtain⟨a,b⟩:=p;refine Y ?_;refine⟨rfl,λhb=>?_,λhb=>?_⟩
  ·refine Y ?_;refine W.ite (λh1=>?_) (λh1=>?_)
   ·refine Y ?_;refine⟨rfl,_,rfl,?_⟩;have h1:a=i:=by simpa using h1
    simp[endOf,h1]
   ·refine Y ?_;refine⟨rfl,_,rfl,?_⟩;simp[Ce] at h1 hb;rcases hb with hb|hb
    ·exact absurd hb h1
    ·simp[endOf,h1,hb]
  ·simp[Ce] at hb;simp[endOf,hb]
 ·have he:ps.filterMap (λp=>(endOf i p).map D.int)=(bH i ps).map D.int:=by unfold bH;rw[Mv]
  rw[he];refine Y ?_;refine Ep (zha (zhU ?_ (zh3 h i))) ?_
  ·have:=BK (endOf i) ps;have:=h.len;have:=h.h8;unfold bH
   lia
  exact Y trivial
section
variable {n:Int}{ps:List (Int×Int)}
noncomputable def Fq(n:Int)(ps:List (Int×Int)):D:=.fl ((List.range n.toNat).map λ(i:Nat)=>.tup ((bH i ps).map .int))
theorem zfZ{k':Nat}(h:Web n ps):W (call ao T (k'+2) true 9 [.d (cC n ps)]) [] λv s=>v=.d (Fq n ps):=by
 refine W.call T_9 rfl ?_;unfold b9;have vM:(100:Nat)<=sizeLine:=by decide
 have h1:=h.h1;have h8:=h.h8;refine Y ?_;refine pW (l:=List.range (n-0).toNat) (f:=λ(j:Nat)=>.int (0+j)) (λ(i:Nat)=>some (.tup ((bH i ps).map .int))) (by rw[B_];lia) ?_ (λj hj=>?_) ?_
 ·unfold cC;refine Y ?_;refine⟨by rw[tU gV gV,tU gV gV];rfl,?_⟩;exact⟨rfl,rfl⟩
 ·refine Y ?_;refine⟨rfl,λ_=>?_,λhb=>by cases hb⟩;refine Y ?_;refine W.c0 (ziy h) ?_;exact⟨rfl,_,rfl,by rw[show (0:Int)+j=j by lia]⟩
 ·rw[show (List.range (n-0).toNat).filterMap (λ(i:Nat)=>some (D.tup ((bH i ps).map .int)))=(List.range n.toNat).map λ(i:Nat)=>D.tup ((bH i ps).map .int) by rw[GK,show n-0=n by lia]];exact Y rfl
theorem zfW{k':Nat}{is:List Int}(hl:is.length<=17):W (call ao T (k'+1) true 11 [.d (.tup (is.map .int))]) [] λv s=>v=.d (.fl ((oV is).map dG)):=by
 refine W.call zn6 rfl ?_;unfold V4;have vM:(100:Nat)<=sizeLine:=by decide
 have l1:=GR (xs:=is.map D.int) (lo:=some 1) (hi:=none);have l2:=GR (xs:=is.map D.int) (lo:=none) (hi:=some 1);rw[aW] at l1 l2;refine Y ?_;refine bK (GP gV) ?_;refine Y ?_;refine Ep (zol gV) ?_
 first|exact Y trivial|exact Y rfl|(refine Y ?_;rfl)|refine Y ?_
theorem zk2{k':Nat}{p:D}(h:Web n ps)(hp:wJ p):W (call ao T (k'+4) true 10 [.d (Fq n ps),.d p]) [] λv s=>v=.d (.bl (goB n ps p)):=by
 have h1:=h.h1;have h8:=h.h8;have vM:(100:Nat)<=sizeLine:=by decide
 refine W.call zn9 rfl ?_;unfold b10 Fq;cases p with
 |tup xs=>
  obtain⟨hl,hd⟩:=hp.2 xs rfl;have hx:∀x∈xs,oU x=true:=iV.mp hp.1;cases xs with
  |nil=>exact Y rfl
  |cons x0 xr=>
   refine Y ?_;refine pW (l:=x0::xr) (f:=λx=>x) (λx=>some (.bl (yW 0 (n-1) x))) gV ?_ (λt ht=>?_) ?_
   ·refine Y ?_;rw[Ga];exact⟨rfl,rfl⟩
   ·refine Y ?_;refine⟨rfl,λ_=>?_,λhb=>by cases hb⟩;refine Y ?_;rw[aW,B_,show ((n.toNat:Nat):Int)=n by lia];exact tR rfl ((zfH (hx t ht)).imp λv s e=>⟨_,e,rfl,_,rfl,rfl⟩)
   rw[GK];refine Y ?_;refine bK GQ ?_;cases ha:(x0::xr).all (yW 0 (n-1))
   ·refine Y ?_;show Xv.d (.bl false)=.d (.bl (goB n ps (.tup (x0::xr))));cases e:aC (x0::xr) with
    |none=>rw[zeQ e]
    |some is=>
     rw[wK e] at ha;have:=ziR ha;rw[VP e];unfold wI;rw[show is.all (λi=>decide (0<=i/\i<n))=false by
      rw[Mw];intro z;exact this λi hi=>lG (iV.mp z i hi)]
     simp
   ·obtain⟨is,e,hi⟩:=zi1 ha;rw[e];have hne:is≠[]:=by rintro rfl;cases e
    have hok:=hd is (by rw[e];exact Bt is);have hil:is.length<=17:=by rw[e,aW] at hl;exact hl
    rw[VP (Bt is)];have uD:is.all (λi=>decide (0<=i/\i<n))=true:=iV.mpr λi z=>dM (hi i z);unfold wI;rw[dM hne,uD,lg,lg];refine Y ?_;refine bK (ziM hok) ?_;refine Y ?_;rw[aW];by_cases sW:(aD is).length=is.length
    ·rw[dM sW,lg,fH (show ¬(((aD is).length:Int)<(is.length:Int)) by lia)];refine Y ?_;refine bK (VN hne) ?_;refine Y ?_;refine bK (zlY hne) ?_;refine Y ?_;by_cases hm:at' is 0=tX is
     ·rw[dM hm,lg,show (!at' is 0==tX is)=false by rw[hm];simp];refine Y ?_;refine pW (l:=oV is) (f:=dG) (λq=>some (.bl (decide (q.2∈bH q.1 ps)))) (by unfold oV;rw[List.length_zip];lia) ?_ (λq hq=>?_) ?_
      ·refine Y ?_;refine W.c0 (zfW hil) ?_
       first|(refine Y ?_;exact⟨rfl,rfl⟩)|exact⟨rfl,rfl⟩
      ·obtain⟨a,b⟩:=q;have hab:=hi a (M7 hq).1;refine Y ?_;refine⟨rfl,λ_=>?_,λhb=>by cases hb⟩;refine Y ?_;refine bK (Uv (x:=.tup ((bH a ps).map .int)) hab.1 ?_) ?_
       ·rw[gK,List.getElem?_range gV];show some (D.tup ((bH ((a.toNat:Nat):Int) ps).map .int))=_;rw[show ((a.toNat:Nat):Int)=a by lia]
       refine Y ?_;refine bK (K6 (f:=id)) ?_;exact⟨rfl,_,rfl,rfl⟩
      rw[GK];refine Y ?_;refine bK GQ ?_
      first|exact Y trivial|exact Y rfl|(refine Y ?_;rfl)|refine Y ?_
     ·rw[fH hm,vR,show (!at' is 0==tX is)=true by simpa using hm]
      first|exact Y trivial|exact Y rfl|(refine Y ?_;rfl)|refine Y ?_
    ·have:=VL is;rw[fH sW,vR,dM (show ((aD is).length:Int)<(is.length:Int) by lia)]
     first|exact Y trivial|exact Y rfl|(refine Y ?_;rfl)|refine Y ?_
 |exc _ _=>cases hp.1
 |ob _ _=>cases hp.1
 |any=>cases hp.1
 |_=>exact Y rfl
theorem zfK{k':Nat}{p:D}(h:Web n ps)(hp:wJ p):W (call ao T (k'+5) true 12 [.d (cC n ps),.d p]) [] λv s=>v=.d (.bl (wL n ps p)):=by
 have vM:(100:Nat)<=sizeLine:=by decide
 refine W.call zn2 rfl ?_;unfold V5;refine Y ?_;refine W.c0 (zfZ h) ?_;refine Y ?_;refine W.c0 (zk2 h hp) ?_;cases p with
 |tup xs=>
  cases e:aC xs with
  |none=>
   rw[zeQ e,V0 e]
   first|exact Y trivial|exact Y rfl|(refine Y ?_;rfl)|refine Y ?_
  |some is=>
   have e':=wK e;subst e';rw[VP e,VR e];unfold Fl;cases hg:wI n ps is
   ·first|exact Y trivial|exact Y rfl|(refine Y ?_;rfl)|refine Y ?_
   ·have vd:2<=is.length:=by
     match is,hg with
     |[],hg=>cases hg
     |[a],hg=>
      unfold wI at hg;simp only[gB] at hg;have:=iV.mp hg.2.2.2.2 (a,a) gA;have:=(Pu h).mp (lG this);rcases this with z|z
      ·have:=h.tie _ z;dsimp only at this;lia
      ·have:=h.tie _ z;dsimp only at this;lia
     |_::_::_,_=>simp
    have hne:is≠[]:=by rintro rfl;simp at vd
    refine Y ?_;refine tR rfl ?_;refine W.call zoe rfl ?_;unfold V6;refine Y ?_;refine bK (Uw Dc gV) ?_;refine Y ?_;refine bK (Py hne) ?_;refine Y ?_;exact⟨_,rfl,rfl⟩
 |_=>first|exact Y trivial|exact Y rfl|(refine Y ?_;rfl)|refine Y ?_
end
section
variable {n:Int}{ps:List (Int×Int)}
theorem zgG{ps:List (Int×Int)}{is:List Int}:((is.zipIdx.flatMap λe=>(is.take e.2).map λo=>decide ((o,e.1)∈ps)).all id)=true↔is.Pairwise λa b=>(a,b)∈ps:=by
 rw[iV,oY]
 constructor
 ·intro h i j hi hj lZ;have:=h (decide ((is[i],is[j])∈ps)) (List.mem_flatMap.mpr ⟨(is[j],j),by rw[List.mem_zipIdx_iff_getElem?];simp[hj],eE.mpr ⟨is[i],?_,rfl⟩⟩)
  ·exact lG this
  ·rw[List.mem_take_iff_getElem];exact⟨i,by lia,rfl⟩
 ·intro h x hx;obtain⟨⟨b,j⟩,he,hx⟩:=List.mem_flatMap.mp hx;obtain⟨a,ha,rfl⟩:=eE.mp hx;rw[List.mem_zipIdx_iff_getElem?] at he;have he:is[j]?=some b:=by simpa using he
  obtain⟨hj,rfl⟩:=gw.mp he;rw[List.mem_take_iff_getElem] at ha;obtain⟨i,hi,rfl⟩:=ha;exact dM (h i j gV hj gV)
theorem zfG{k':Nat}{p:D}(h:Web n ps)(hp:wJ p):W (call ao T (k'+4) true 15 [.d (cC n ps),.d p]) [] λv s=>v=.d (.bl (sU n ps p)):=by
 have h1:=h.h1;have h8:=h.h8;have vM:(1000:Nat)<=sizeLine:=by decide
 refine W.call zoc rfl ?_;unfold V7;have ew:cC n ps=.tup [.int n,.tup (ps.map dG)]:=rfl;rw[ew];cases p with
 |tup xs=>
  obtain⟨hl,hd⟩:=hp.2 xs rfl;have hx:∀x∈xs,oU x=true:=iV.mp hp.1;refine Y ?_;by_cases a1:(1:Int)<=xs.length
  ·rw[dM a1];refine Y ?_;by_cases a2:(xs.length:Int)<=n
   ·rw[dM a2];refine Y ?_;refine pW (l:=xs) (f:=λx=>x) (λx=>some (.bl (yW 0 (n-1) x))) gV ?_ (λt ht=>?_) ?_
    ·refine Y ?_;rw[Ga];exact⟨rfl,rfl⟩
    ·refine Y ?_;refine⟨rfl,λ_=>?_,λhb=>by cases hb⟩;refine Y ?_;exact tR rfl ((zfH (hx t ht)).imp λv s e=>⟨_,e,rfl,_,rfl,rfl⟩)
    rw[GK];refine Y ?_;refine bK GQ ?_;cases ha:xs.all (yW 0 (n-1))
    ·rw[zkE ha]
     first|exact Y trivial|exact Y rfl|(refine Y ?_;rfl)|refine Y ?_
    ·obtain⟨is,rfl,hi⟩:=zi1 ha;rw[aW] at a1 a2 hl;refine Y ?_;refine Kap (l:=is.zipIdx) (f:=λe=>.tup [.int e.2,.int e.1]) (l2:=λe=>is.take e.2) (f2:=D.int) (λe o=>.bl (decide ((o,e.1)∈ps))) 17 (by rw[List.length_zipIdx];lia) (λe _=>by rw[oZ];lia) ?_ (λe he=>?_) ?_
     ·refine Y ?_;refine KaP ?_;rw[zbx];exact⟨rfl,rfl⟩
     ·refine Y ?_;refine⟨?_,λy hy=>?_⟩
      ·refine Y ?_;rw[zgP,<-Nf]
       first|exact⟨rfl,rfl⟩|exact Y ⟨rfl,rfl⟩
      ·refine Y ?_;refine bK (zkD (f:=id) (p:=(y,e.1))) ?_;exact⟨rfl,rfl⟩
     have ef:(is.zipIdx.flatMap λe=>(is.take e.2).map λo=>D.bl (decide ((o,e.1)∈ps)))=(is.zipIdx.flatMap λe=>(is.take e.2).map λo=>decide ((o,e.1)∈ps)).map D.bl:=by
      rw[List.map_flatMap];simp only[lM];rfl
     rw[ef];refine Y ?_;refine bK (GQ (f:=id)) ?_;have:(is.zipIdx.flatMap λe=>(is.take e.2).map λo=>decide ((o,e.1)∈ps)).all id=sU n ps (.tup (is.map .int)):=by
      rw[M9,zgG,qY];exact⟨λz=>⟨by lia,a2,hi,z⟩,λz=>z.2.2.2⟩
     rw[this]
   ·rw[fH a2,V3 (λz=>a2 z.2)]
    first|exact Y trivial|exact Y rfl|(refine Y ?_;rfl)|refine Y ?_
  ·rw[fH a1,V3 (λz=>a1 gV)]
   first|exact Y trivial|exact Y rfl|(refine Y ?_;rfl)|refine Y ?_
 |exc _ _=>cases hp.1
 |ob _ _=>cases hp.1
 |any=>cases hp.1
 |_=>exact Y rfl
end
section
variable {n:Int}{ps:List (Int×Int)}
theorem zem{k:Nat}{d:D}(h:oU d=true):W (call ao T (k+1) true 19 [.d d]) [] λv s=>v=.d (.bl (Bg d)):=zj8 h
noncomputable def ji:D->Int
 |.tup xs=>xs.length
 |_=>0
noncomputable def LR(n:Int)(ps:List (Int×Int))(p:D):D:=if sU n ps p=true then .tup [.int (ji p),.int 1] else .non
noncomputable def L_(n:Int)(ps:List (Int×Int))(p:D):D:=if (wL n ps p&&decide (ji p%2=1))=true then .tup [.int (ji p),.int (ji p/2)] else .non
noncomputable def Ft(n:Int)(ps:List (Int×Int))(w p:D):D:=match w with
 |.str t=>if t="crowd" then LR n ps p else if t="odd" then L_ n ps p else .non
 |_=>.non
theorem Xb{p:D}:Ft n ps (.str "crowd") p=if sU n ps p=true then .tup [.int (ji p),.int 1] else .non:=(if_pos rfl:(if ("crowd" : Str)="crowd" then LR n ps p else if ("crowd" : Str)="odd" then L_ n ps p else .non)=LR n ps p)
theorem Xc{p:D}:Ft n ps (.str "odd") p=if (wL n ps p&&decide (ji p%2=1))=true then .tup [.int (ji p),.int (ji p/2)] else .non:=by
 show (if ("odd" : Str)="crowd" then LR n ps p else if ("odd" : Str)="odd" then L_ n ps p else .non)=L_ n ps p;rw[if_neg Dc,if_pos rfl]
theorem Xd{t:Str}{p:D}(h1:t≠"crowd")(h2:t≠"odd"):Ft n ps (.str t) p=.non:=by
 show (if t="crowd" then LR n ps p else if t="odd" then L_ n ps p else .non)=.non;rw[if_neg h1,if_neg h2]
def P0(w:D):Prop:=(∃t,w=.str t)\/(∃i,w=.int i)\/∃xs,w=.tup xs
theorem zlJ{p:D}(h:sU n ps p=true):∃xs,p=.tup xs:=by
 cases p with
 |tup xs=>exact⟨xs,rfl⟩
 |_=>cases h
theorem ziH{p:D}(h:wL n ps p=true):∃xs,p=.tup xs:=by
 cases p with
 |tup xs=>exact⟨xs,rfl⟩
 |_=>cases h
theorem zjP{k':Nat}{w p:D}(h:Web n ps)(hw:P0 w)(hp:wJ p):W (call ao T (k'+7) true 14 [.d (cC n ps),.d (.tup [w,p])]) [] λv s=>v=.d (Ft n ps w p):=by
 have vM:(1000:Nat)<=sizeLine:=by decide
 refine W.call Wn rfl ?_;unfold Pz;refine Y ?_;refine W.c1 (zd6 h) λ_=>?_;refine Y ?_;refine W.c0 W_ ?_;rcases hw with ⟨t,rfl⟩|⟨i,rfl⟩|⟨xs,rfl⟩
 ·by_cases hc:t="crowd"
  ·subst hc;refine Y ?_;refine W.c0 (zfG h hp) ?_;rw[Xb];cases hb:sU n ps p
   ·first|exact Y trivial|exact Y rfl|(refine Y ?_;rfl)|refine Y ?_
   ·obtain⟨xs,rfl⟩:=zlJ hb
    first|exact Y trivial|exact Y rfl|(refine Y ?_;rfl)|refine Y ?_
  ·refine Y ?_;rw[show (t==Str.ofString "crowd")=false by simpa using hc];refine Y ?_;by_cases ho:t="odd"
   ·subst ho;refine Y ?_;refine W.c0 (zfK h hp) ?_;rw[Xc];cases hb:wL n ps p
    ·first|exact Y trivial|exact Y rfl|(refine Y ?_;rfl)|refine Y ?_
    ·obtain⟨xs,rfl⟩:=ziH hb;refine Y ?_;show _;by_cases hm:((xs.length:Nat):Int)%2=1
     ·rw[show ji (.tup xs)=xs.length from rfl,dM hm];refine WS.ite (λ_=>?_) (λz=>?_)
      ·first|exact Y trivial|exact Y rfl|(refine Y ?_;rfl)|refine Y ?_
      ·exfalso;rw[hm] at z;simp at z
     ·rw[show ji (.tup xs)=xs.length from rfl,fH hm];refine WS.ite (λz=>?_) (λ_=>?_)
      ·exfalso;exact hm (by simpa using z)
      ·first|exact Y trivial|exact Y rfl|(refine Y ?_;rfl)|refine Y ?_
   ·rw[show (t==Str.ofString "odd")=false by simpa using ho,Xd hc ho]
    first|exact Y trivial|exact Y rfl|(refine Y ?_;rfl)|refine Y ?_
 ·first|exact Y trivial|exact Y rfl|(refine Y ?_;rfl)|refine Y ?_
 ·first|exact Y trivial|exact Y rfl|(refine Y ?_;rfl)|refine Y ?_
end
section
variable {n:Int}{ps:List (Int×Int)}
theorem ziq{l:List (Int×Int)}:(l.filterMap λq=>if iM ps q=true then none else some (D.int 1)).isEmpty=l.all (iM ps):=by
 induction l with
 |nil=>rfl
 |cons q r ih=>
  rw[vU,<-ih,zu];cases iM ps q<;>rfl
theorem zj6{xs:List D}:prim .eq [.fl xs,.fl []]=some (.dat (.bl xs.isEmpty)):=by
 cases xs<;>rfl
theorem zhF{k':Nat}{p:D}(h:Web n ps)(hp:wJ p):W (call ao T (k'+2) true 24 [.d (cC n ps),.d p]) [] λv s=>v=.d (.bl (wL n ps p)):=by
 have h1:=h.h1;have h8:=h.h8;have vM:(1000:Nat)<=sizeLine:=by decide
 refine W.call znY rfl ?_;unfold Wf;have ew:cC n ps=.tup [.int n,.tup (ps.map dG)]:=rfl;rw[ew];cases p with
 |tup xs=>
  obtain⟨hl,hd⟩:=hp.2 xs rfl;have hx:∀x∈xs,oU x=true:=iV.mp hp.1;refine Y ?_;by_cases h3:((xs.length:Nat):Int)<3
  ·rw[dM h3];have e:wL n ps (.tup xs)=false:=by
    cases e:aC xs with
    |none=>exact V0 e
    |some is=>
     rw[VR e,zd7 h];rw[wK e,aW] at h3;unfold Px;rw[fH gV,vR]
   rw[e]
   first|exact Y trivial|exact Y rfl|(refine Y ?_;rfl)|refine Y ?_
  ·rw[fH h3];refine Y ?_;refine pW (l:=xs) (f:=λx=>x) (λx=>some (.bl (Bg x))) gV ?_ (λt ht=>?_) ?_
   ·refine Y ?_;rw[Ga];exact⟨rfl,rfl⟩
   ·refine Y ?_;refine⟨rfl,λ_=>?_,λhb=>by cases hb⟩;refine Y ?_;exact tR rfl ((zem (hx t ht)).imp λv s e=>⟨_,e,rfl,_,rfl,rfl⟩)
   rw[GK];refine Y ?_;refine bK GQ ?_;cases ha:xs.all Bg
   ·rw[V0 (ziD ha)]
    first|exact Y trivial|exact Y rfl|(refine Y ?_;rfl)|refine Y ?_
   ·obtain⟨is,e⟩:=ziS ha;have hok:=hd is e;have e':=wK e;subst e';rw[VR e,zd7 h];rw[aW] at hl h3;have hne:is≠[]:=by rintro rfl;simp at h3
    unfold Px;rw[dM (show 3<=is.length by lia),lg];refine Y ?_;refine bK (ziM hok) ?_;refine Y ?_;rw[aW];by_cases sW:(aD is).length=is.length
    ·rw[dM sW,lg,show (!(((aD is).length:Nat):Int)==((is.length:Nat):Int))=false by rw[sW];simp];refine Y ?_;refine bK (VN hne) ?_;refine Y ?_;refine bK (zlY hne) ?_;refine Y ?_;by_cases hm:at' is 0=tX is
     ·rw[dM hm,lg,show (!at' is 0==tX is)=false by rw[hm];simp];refine Y ?_;refine bK (Uw Dc gV) ?_;refine Y ?_;refine bK (Py hne) ?_;refine Y ?_;by_cases hf:at' is 1<=at' is ((is.length:Int)-1)
      ·rw[dM hf,lg,fH gV];have l1:=GR (xs:=is.map D.int) (lo:=some 1) (hi:=none);have l2:=GR (xs:=is.map D.int) (lo:=none) (hi:=some 1);rw[aW] at l1 l2;refine Y ?_;refine bK (GP gV) ?_;refine Y ?_;refine Ep (zol gV) ?_;refine Y ?_;refine pW (l:=oV is) (f:=dG) (λq=>if iM ps q=true then none else some (.int 1)) (by unfold oV;rw[List.length_zip];lia) ?_ (λq hq=>?_) ?_
       ·refine Y ?_;exact⟨rfl,rfl⟩
       ·obtain⟨a,b⟩:=q;refine Y ?_;refine bK (zkD (f:=not) (p:=(if b<a then b else a,if b>a then b else a))) ?_;refine Y ?_;refine⟨rfl,λhb=>?_,λhb=>?_⟩
        ·have ht:iM ps (a,b)=false:=by
          show decide ((if b<a then b else a,if b>a then b else a)∈ps)=false;simpa using hb
         refine Y ?_;exact⟨rfl,_,rfl,by rw[ht];rfl⟩
        ·have ht:iM ps (a,b)=true:=by
          show decide ((if b<a then b else a,if b>a then b else a)∈ps)=true;simpa using hb
         rw[if_pos ht]
       refine Y ?_;refine bK zj6 ?_;rw[ziq]
      ·rw[fH hf,vR,dM gV]
       first|exact Y trivial|exact Y rfl|(refine Y ?_;rfl)|refine Y ?_
     ·rw[fH hm,vR,show (!at' is 0==tX is)=true by simpa using hm]
      first|exact Y trivial|exact Y rfl|(refine Y ?_;rfl)|refine Y ?_
    ·rw[fH sW,vR,show (!(((aD is).length:Nat):Int)==((is.length:Nat):Int))=true by simp;lia]
     first|exact Y trivial|exact Y rfl|(refine Y ?_;rfl)|refine Y ?_
 |exc _ _=>cases hp.1
 |ob _ _=>cases hp.1
 |any=>cases hp.1
 |_=>exact Y rfl
theorem znI{a b:List Int}:prim .ne [.fl (a.map .int),.fl (b.map .int)]=some (.dat (.bl (!decide (a=b)))):=by
 show Option.map _ (eN (dz 49) (a.map D.int) (b.map D.int))=_;rw[VD];rfl
theorem zgB{is:List Int}:(ps.filterMap λq=>if (decide (q.1∈is)&&decide (q.2∈is))=true then some (D.int 1) else none).length=(inn ps is).length:=by
 unfold inn
 induction ps with
 |nil=>rfl
 |cons q r ih=>
  rw[zu,List.filter_cons];cases (decide (q.1∈is)&&decide (q.2∈is))
  ·exact ih
  ·show _+1=_+1;rw[ih]
theorem zio{k':Nat}{w p:D}(h:Web n ps)(hw:P0 w)(hp:wJ p):W (call ao T (k'+3) true 25 [.d (cC n ps),.d (.tup [w,p])]) [] λv s=>v=.d (Ft n ps w p):=by
 have h1:=h.h1;have h8:=h.h8;have hlen:=h.len;have vM:(1000:Nat)<=sizeLine:=by decide
 refine W.call Wo rfl ?_;unfold PB;have ew:cC n ps=.tup [.int n,.tup (ps.map dG)]:=rfl;rcases hw with ⟨t,rfl⟩|⟨i,rfl⟩|⟨xs,rfl⟩
 ·by_cases ho:t="odd"
  ·subst ho;refine Y ?_;refine W.c0 (zhF h hp) ?_;rw[Xc];cases hb:wL n ps p
   ·first|exact Y trivial|exact Y rfl|(refine Y ?_;rfl)|refine Y ?_
   ·obtain⟨xs,rfl⟩:=ziH hb;refine Y ?_;by_cases hm:((xs.length:Nat):Int)%2=1
    ·rw[show ji (.tup xs)=xs.length from rfl,dM hm,show (((xs.length:Nat):Int)%2==1)=true by rw[hm];rfl]
     first|exact Y trivial|exact Y rfl|(refine Y ?_;rfl)|refine Y ?_
    ·rw[show ji (.tup xs)=xs.length from rfl,fH hm,show (((xs.length:Nat):Int)%2==1)=false by simpa using hm]
     first|exact Y trivial|exact Y rfl|(refine Y ?_;rfl)|refine Y ?_
  ·refine Y ?_;rw[show (t==Str.ofString "odd")=false by simpa using ho];refine Y ?_;by_cases hc:t="crowd"
   ·subst hc;rw[Xb];cases p with
    |tup xs=>
     obtain⟨hl,hd⟩:=hp.2 xs rfl;have hx:∀x∈xs,oU x=true:=iV.mp hp.1;cases xs with
     |nil=>
      rw[V3 (λz=>absurd z.1 Dc)]
      first|exact Y trivial|exact Y rfl|(refine Y ?_;rfl)|refine Y ?_
     |cons x0 xr=>
      refine Y ?_;refine pW (l:=x0::xr) (f:=λx=>x) (λx=>some (.bl (Bg x))) gV ?_ (λt ht=>?_) ?_
      ·refine Y ?_;rw[Ga];exact⟨rfl,rfl⟩
      ·refine Y ?_;refine⟨rfl,λ_=>?_,λhb=>by cases hb⟩;refine Y ?_;exact tR rfl ((zem (hx t ht)).imp λv s e=>⟨_,e,rfl,_,rfl,rfl⟩)
      rw[GK];refine Y ?_;refine bK GQ ?_;cases ha:(x0::xr).all Bg
      ·rw[V2 (ziD ha)]
       first|exact Y trivial|exact Y rfl|(refine Y ?_;rfl)|refine Y ?_
      ·obtain⟨is,e⟩:=ziS ha;have hok:=hd is e;have e':=wK e;have hne:is≠[]:=by rintro rfl;cases e'
       rw[e'] at hl ⊢;rw[aW] at hl;have yZ:sU n ps (.tup (is.map .int))=true↔VG n ps is:=qY.trans (zfI h is);rw[show ji (.tup (is.map D.int))=is.length by show (((is.map D.int).length:Nat):Int)=_;rw[aW]];refine Y ?_;refine Ep (znU hok) ?_;refine Y ?_;refine bK znI ?_;have no:¬VG n ps is->(if sU n ps (.tup (is.map .int))=true then D.tup [.int is.length,.int 1] else D.non)=D.non:=λz=>if_neg λq=>z (yZ.mp q);unfold cC;by_cases c1:is=sortI (aD is)
       ·rw[dM c1];refine Y ?_;refine bK (VN hne) ?_;refine Y ?_;by_cases c2:at' is 0<0
        ·rw[dM c2,no (λz=>by have:=z.2.2.1;lia)]
         first|exact Y trivial|exact Y rfl|(refine Y ?_;rfl)|refine Y ?_
        ·rw[fH c2];refine Y ?_;refine bK (Py hne) ?_;refine Y ?_;by_cases c3:n<=at' is ((is.length:Int)-1)
         ·rw[dM c3,no (λz=>by have:=z.2.2.2.1;lia)]
          first|exact Y trivial|exact Y rfl|(refine Y ?_;rfl)|refine Y ?_
         ·rw[fH c3];refine Y ?_;refine pW (l:=ps) (f:=dG) (λq=>if (decide (q.1∈is)&&decide (q.2∈is))=true then some (.int 1) else none) gV ?_ (λq hq=>?_) ?_
          ·refine Y ?_;exact⟨rfl,rfl⟩
          ·obtain⟨a,b⟩:=q;refine Y ?_;refine bK (K6 (f:=id)) ?_;by_cases d1:a∈is
           ·rw[dM d1];refine Y ?_;refine bK (K6 (f:=id)) ?_;refine Y ?_;refine⟨rfl,λhb=>?_,λhb=>?_⟩
            ·refine Y ?_;exact⟨rfl,_,rfl,by rw[lg,if_pos (show decide (b∈is)=true from hb)]⟩
            ·rw[lg,if_neg (by rw[show decide (b∈is)=false from hb];decide)]
           ·rw[fH d1];refine Y ?_;refine⟨rfl,λhb=>(by cases hb),λhb=>rfl⟩
          refine Ug (nM (jx (kj (oR (bK rfl ?_)))));refine WS.cons (Uq (KaF (sJ (kE (W.eV rfl (kE (KaU rfl (by rw[aW];lia) (nM ?_))))))));refine jx (kj (jx (kj (oR (bK rfl (W.bool ?_))))));rw[zgB,aW];by_cases c4:((inn ps is).length:Int)=(is.length:Int)*((is.length:Int)-1)/2
          ·rw[if_pos (yZ.mpr ⟨hne,c1,by lia,by lia,c4⟩),show id ((((inn ps is).length:Nat):Int)==(is.length:Int)*((is.length:Int)-1)/2)=true by simpa using c4];refine Y ?_;rw[aW]
          ·rw[no (λz=>c4 z.2.2.2.2),show id ((((inn ps is).length:Nat):Int)==(is.length:Int)*((is.length:Int)-1)/2)=false by simpa using c4]
           first|exact Y trivial|exact Y rfl|(refine Y ?_;rfl)|refine Y ?_
       ·rw[fH c1,no (λz=>c1 z.2.1)]
        first|exact Y trivial|exact Y rfl|(refine Y ?_;rfl)|refine Y ?_
    |exc _ _=>cases hp.1
    |ob _ _=>cases hp.1
    |any=>cases hp.1
    |_=>first|exact Y trivial|exact Y rfl|(refine Y ?_;rfl)|refine Y ?_
   ·rw[show (t==Str.ofString "crowd")=false by simpa using hc,Xd hc ho]
    first|exact Y trivial|exact Y rfl|(refine Y ?_;rfl)|refine Y ?_
 ·first|exact Y trivial|exact Y rfl|(refine Y ?_;rfl)|refine Y ?_
 ·first|exact Y trivial|exact Y rfl|(refine Y ?_;rfl)|refine Y ?_
end
def gE(x:D):Prop:=oU x=true/\(∀i,x=.int i->rP i=true)/\∀j,RG pd (j+2) 12 x
theorem Ma{x:D}{p:PyData}(h1:oU x=true)(h2:∀i,x≠.int i)(h3:∀j,pd (j+2) x=some p)(h4:(p.showable&&p.leavesShort 40&&decide (p.weight<=12))=true):gE x:=by
 simp only[gB,wU] at h4;exact⟨h1,λi e=>absurd e (h2 i),λj=>⟨p,h3 j,h4.1.1,h4.1.2,h4.2⟩⟩
theorem G4{i:Int}(h : -1<=i/\i<=8):gE (.int i):=by
 refine⟨rfl,λj e=>?_,λj=>(ziY wG gV).mono Dc⟩;cases e;unfold rP;rw[dM (show -1<=i/\i<=34 by lia)];rfl
theorem Xe{xs:List D}{j:Nat}(h:∀x∈xs,gE x)(hl:xs.length<=17):wH pd (j+2) 221 xs:=(zf6 λx hx=>(h x hx).2.2 j).mono (Nat.mul_le_mul_right _ hl)
def gP(d:D):Prop:=wJ d/\∀j,RG pd (j+4) 300 d
theorem P_{xs:List D}(h:∀x∈xs,gE x)(hl:xs.length<=17):gP (.tup xs):=by
 refine⟨⟨iV.mpr λx hx=>(h x hx).1,λys e=>?_⟩,λj=>(Fj (j:=j+3) wG (Xe (j:=j+1) h hl)).mono Dc⟩;cases e;refine⟨hl,λis e=>?_⟩;have:=wK e;subst this;rw[aW] at hl;unfold rQ;rw[dM (show is.length<=18 by lia),lg,iV];exact λi hi=>(h _ (rA hi)).2.1 i rfl
theorem znh{xs:List D}(h:∀x∈xs,gE x)(hl:xs.length<=17):gP (.fl xs):=
 ⟨⟨rfl,λys e=>by cases e⟩,λj=>(zkB (j:=j+3) (Xe (j:=j+1) h hl)).mono Dc⟩
theorem G5{is:List Int}(h:∀i∈is,-1<=i/\i<=8)(hl:is.length<=17):gP (.tup (is.map .int)):=P_ (λx hx=>by obtain⟨i,hi,rfl⟩:=eE.mp hx;exact G4 (h i hi)) (by rw[aW];exact hl)
theorem zik{k':Nat}{o:SO}{row:List D}{kk:Int}(ho:jF o)(hl:row.length<=8)(mi:∀y∈row,gE y)(hk:1<=kk)(hk2:kk<=8):W (call ao T (k'+2) true 26 [.l 0,.d (.tup row),.d (.int kk)]) [o] λv s=>∃(d:D) (o':SO),v=.d d/\s=[o']/\gP d/\jF o':=by
 refine W.call znZ rfl ?_;unfold Wg;have vM:(100:Nat)<=sizeLine:=by decide
 refine Y ?_;refine yX ho gV gV λr o1 hr hp=>?_;refine Y ?_;refine yX hp gV gV λr2 o2 hr2 hp=>?_;refine Y ?_;refine yX hp Dc Dc λr3 o3 hr3 hp=>?_;refine Y ?_;obtain⟨x,ex,hx⟩:=Xa (xs:=[.bl true,.bl false,.non,.int (-1),.int kk,.str "0",.tup [.int 0],.int r2]) (r:=r3) (by show r3<8;lia);have hxo:gE x:=by
  simp only[bZ,rC,qm] at hx;rcases hx with rfl|rfl|rfl|rfl|rfl|rfl|rfl|rfl
  ·exact Ma (p:=.bool true) rfl (λ_ e=>by cases e) (λj=>by cases j<;>rfl) Bd
  ·exact Ma (p:=.bool false) rfl (λ_ e=>by cases e) (λj=>by cases j<;>rfl) Bd
  ·exact Ma (p:=.none) rfl (λ_ e=>by cases e) (λj=>by cases j<;>rfl) Bd
  ·exact G4 Dc
  ·exact G4 gV
  ·exact Ma (p:=.str "0") rfl (λ_ e=>by cases e) (λj=>by cases j<;>rfl) Bd
  ·exact Ma (p:=.tuple [.int 0]) rfl (λ_ e=>by cases e) (λj=>by cases j<;>rfl) Bd
  ·exact G4 gV
 refine bK ex ?_;clear ex hx;have l1:=GR (xs:=row) (lo:=none) (hi:=some (r:Int));have l2:=GR (xs:=row) (lo:=some ((r:Int)+1)) (hi:=none);have m1:∀y∈cut row none (some (r:Int)),gE y:=λy hy=>mi y (zfQ hy);have m2:∀y∈cut row (some ((r:Int)+1)) none,gE y:=λy hy=>mi y (zfQ hy);refine Y ?_;refine bK (GP (by show _+1<=_;lia)) ?_;refine Y ?_;refine bK (GP (by rw[h_];show _+1+_<=_;lia)) ?_;refine Y ?_;refine bK (GP gV) ?_;refine Y ?_;refine bK (GP (by show _+1<=_;lia)) ?_;refine Y ?_;refine yX hp Dc Dc λr4 o4 hr4 hp=>?_;refine Y ?_;obtain⟨z,ez,hz⟩:=zlf (xs:=[0,0,0,0,1,2,3,4,5]) (r:=r4) (q:=λz=>0<=z/\z<6) Dc (by show r4<9;lia);refine bK ez ?_;refine Y ?_;obtain⟨y,ey,hy⟩:=zg8 (xs:=[.tup (cut row none (some (r:Int))++[x]++cut row (some ((r:Int)+1)) none),.tup (cut row none (some (r:Int))++cut row (some ((r:Int)+1)) none),.tup (row++[.int 0]),.fl row,.non,.tup [.tup row]]) hz.1 (by show z<6;exact hz.2);refine bK ey ?_;refine Y ?_;refine⟨_,_,rfl,rfl,?_,hp⟩;simp only[bZ,rC,qm] at hy;rcases hy with rfl|rfl|rfl|rfl|rfl|rfl
 ·refine P_ (λy hy=>?_) (by rw[h_,h_];show _+1+_<=_;lia);rcases eU.mp hy with hy|hy
  ·rcases eU.mp hy with hy|hy
   ·exact m1 y hy
   ·have:y=x:=by simpa using hy
    rw[this];exact hxo
  ·exact m2 y hy
 ·refine P_ (λy hy=>?_) (by rw[h_];lia);rcases eU.mp hy with hy|hy
  ·exact m1 y hy
  ·exact m2 y hy
 ·refine P_ (λy hy=>?_) (by rw[h_];show _+1<=_;lia);rcases eU.mp hy with hy|hy
  ·exact mi y hy
  ·have:y=.int 0:=by simpa using hy
   rw[this];exact G4 Dc
 ·exact znh mi gV
 ·exact⟨⟨rfl,λxs e=>by cases e⟩,λj=>⟨.none,by cases j<;>rfl,rfl,rfl,by decide +kernel⟩⟩
 ·refine⟨⟨rfl,λxs e=>?_⟩,λj=>(Fj (j:=j+3) wG (tW (Fj (j:=j+2) wG (Xe (j:=j) mi gV)) eO)).mono Dc⟩;cases e;exact⟨Hg rfl,λis e=>by cases e⟩
def Th(x:D):Prop:=Rp x/\((∃w p,x=.tup [w,p]/\P0 w/\wJ p)\/(oU x=true/\Fi 2 x=false))
theorem Mf{x:D}{B:Nat}(h:∀j,RG pd (j+5) B x)(hb:B<=200000):Rp x:=zkI (.inl rfl) (h 35) hb
theorem Mg{t:Str}(h:(PyData.str t).leavesShort 40=true/\t.cps.size<=10){j:Nat}:RG pd j 10 (.str t):=zld wG h
theorem rm{t:Str}{p:D}(h:(PyData.str t).leavesShort 40=true/\t.cps.size<=10)(hp:gP p):Th (.tup [.str t,p]):=
 ⟨Mf (B:=400) (λj=>(Fj (j:=j+4) wG (tW (Mg h) (tW (hp.2 j) eO))).mono Dc) Dc,.inl ⟨_,_,rfl,.inl ⟨t,rfl⟩,hp.1⟩⟩
section
variable {n:Int}{ps:List (Int×Int)}
theorem zj3{w p:D}:Ft n ps w p=.non\/∃a b:Int,Ft n ps w p=.tup (([a,b]:List Int).map .int):=by
 cases w with
 |str t=>
  by_cases hc:t="crowd"
  ·subst hc;rw[Xb]
   split
   ·exact .inr ⟨_,_,rfl⟩
   ·exact .inl rfl
  ·by_cases ho:t="odd"
   ·subst ho;rw[Xc]
    split
    ·exact .inr ⟨_,_,rfl⟩
    ·exact .inl rfl
   ·exact .inl (Xd hc ho)
 |_=>exact .inl rfl
theorem zhD{k':Nat}{hs:List Int}(hl:hs.length<=100):W (call ao T (k'+2) true 27 [.d (.tup (hs.map .int)),.d (.tup (hs.map .int))]) [] λv s=>v=.d (.bl true):=by
 refine W.call Wq rfl ?_;unfold PJ;have vM:(100:Nat)<=sizeLine:=by decide
 refine Y ?_;refine bK (znH (f:=id)) ?_;rw[dM rfl];refine Y ?_;refine pW (l:=hs) (f:=D.int) (λ_=>some (.bl true)) gV ?_ (λx hx=>?_) ?_
 ·refine Y ?_;exact⟨rfl,rfl⟩
 ·refine Y ?_;refine⟨rfl,λ_=>?_,λhb=>by cases hb⟩;refine Y ?_;refine W.c0 zh1 ?_;exact⟨rfl,_,rfl,rfl⟩
 ·refine Y ?_;refine bK (O1 ?_) ?_
  ·intro x hx;obtain⟨_,_,e⟩:=vP.mp hx;exact(dJ e).symm
  exact Y trivial
theorem zhh{k':Nat}:W (call ao T (k'+2) true 27 [.d .non,.d .non]) [] λv s=>v=.d (.bl true):=by
 refine W.call Wq rfl ?_;unfold PJ;refine Y ?_;rfl
theorem zlS{k':Nat}{x:D}(h:Web n ps)(hx:(∃w p,x=.tup [w,p]/\P0 w/\wJ p)\/(oU x=true/\Fi 2 x=false)):∃d,(d=.non\/∃a b:Int,d=.tup (([a,b]:List Int).map .int))/\(W (call ao T (k'+7) true 14 [.d (cC n ps),.d x]) [] λv s=>v=.d d)/\(W (call ao T (k'+7) true 25 [.d (cC n ps),.d x]) [] λv s=>v=.d d):=by
 rcases hx with ⟨w,p,rfl,hw,hp⟩|⟨ho,hr⟩
 ·exact⟨_,zj3,zjP h hw hp,zio (k':=k'+4) h hw hp⟩
 ·refine⟨.non,.inl rfl,?_,?_⟩
  ·refine W.call Wn rfl ?_;unfold Pz;refine Y ?_;refine W.c1 (zd6 h) λ_=>?_;refine Y ?_;refine W.c0 (znG ho) ?_;rw[hr]
   first|exact Y trivial|exact Y rfl|(refine Y ?_;rfl)|refine Y ?_
  ·refine W.call Wo rfl ?_;unfold PB;cases x with
   |tup xs=>
    refine Y ?_;have:(!((xs.length:Nat):Int)==2)=true:=by
     have hr:decide (((xs.length:Nat):Int)=2)=false:=hr;simpa using of_decide_eq_false hr
    rw[this]
    first|exact Y trivial|exact Y rfl|(refine Y ?_;rfl)|refine Y ?_
   |exc _ _=>cases ho
   |ob _ _=>cases ho
   |any=>cases ho
   |_=>first|exact Y trivial|exact Y rfl|(refine Y ?_;rfl)|refine Y ?_
theorem zgJ{k':Nat}{x:D}(h:Web n ps)(hx:Th x):W (call ao T (k'+8) true 29 [.d (cC n ps),.d x]) [] λv s=>v=.d (.bl true):=by
 obtain⟨⟨t,et⟩,hx⟩:=hx;obtain⟨d,hd,h1,h2⟩:=zlS (k':=k') h hx;have h3:W (call ao T (k'+7) true 27 [.d d,.d d]) [] λv s=>v=.d (.bl true):=by
  rcases hd with rfl|⟨a,b,rfl⟩
  ·exact zhh (k':=k'+5)
  ·exact zhD (k':=k'+5) (Hg rfl)
 refine W.call zn0 rfl ?_;unfold Wi;refine Y ?_;refine bK et ?_;refine Y ?_;refine W.c0 h2 ?_;refine Y ?_;refine⟨rfl,?_⟩;refine Er (λ_ J s=>s=[]/\∃a,J=[some (.d (cC n ps)),some (.d x),some (.d (.str t)),some (.d d),a]) ⟨rfl,_,rfl⟩ (λi y J s e hI=>?_) (λJ s hI=>?_)
 ·obtain⟨rfl,a,rfl⟩:=hI;refine Y ?_;refine W.c0 h1 ?_;refine Y ?_;refine W.c0 h3 ?_;refine Y ?_;exact⟨_,rfl,rfl,_,rfl⟩
 ·obtain⟨rfl,a,rfl⟩:=hI;refine Y ?_;refine bK et ?_;refine Y ?_;show Xv.d (.bl (t==t))=_;rw[wW]
end
section
variable {n:Int}{ps:List (Int×Int)}
def Bw(n:Int)(is:List Int):Prop:=(∀i∈is,0<=i/\i<n)/\is.length<=8
theorem pw{n:Int}(h1:1<=n)(h8:n<=8):(1:Int)*2^n.toNat<=256/\1<=(1:Int)*2^n.toNat:=by
 have:n=1\/n=2\/n=3\/n=4\/n=5\/n=6\/n=7\/n=8:=by lia
 rcases this with rfl|rfl|rfl|rfl|rfl|rfl|rfl|rfl<;>decide
noncomputable def dR(n i:Nat):List Int:=(List.range n).filterMap λ(j:Nat)=>if ((i:Int)/2^j)%2=1 then some (j:Int) else none
theorem Xf(n:Nat):dR n 0=[]:=by
 unfold dR;rw[List.filterMap_eq_nil_iff];intro j _;rw[if_neg (by rw[show ((0:Nat):Int)=0 from rfl,Int.zero_ediv];decide)]
theorem zlF{n:Int}{i:Nat}(h1:1<=n)(h8:n<=8):Bw n (dR n.toNat i):=by
 unfold dR;refine⟨λx hx=>?_,?_⟩
 ·obtain⟨j,hj,e⟩:=vP.mp hx;have:=lJ.mp hj;split at e
  ·cases e;lia
  ·cases e
 ·have:=BK (λj:Nat=>if ((i:Int)/2^j)%2=1 then some (j:Int) else none) (List.range n.toNat);rw[B_] at this
  lia
theorem znQ{j:Int}(h:0<=j/\j<=64):prim .shl [.int 1,.int j]=some (.dat (.int (1*2^j.toNat))):=by
 show Option.map Rz.dat (if 0<=j/\j<=64/\(1:Int).natAbs<2^64 then some (.int (1*2^j.toNat)) else none)=_;rw[if_pos ⟨h.1,h.2,by decide⟩];rfl
theorem znB{i j:Int}(h:0<=j/\j<=64/\0<=i):prim .shr [.int i,.int j]=some (.dat (.int (i/2^j.toNat))):=by
 show Option.map Rz.dat (if 0<=j/\j<=64/\0<=i then some (.int (i/2^j.toNat)) else none)=_;rw[if_pos h];rfl
theorem zmB{k':Nat}(h:Web n ps):W (call ao T (k'+1) true 23 [.d (cC n ps),.d (.bl true)]) [] λv s=>∃j o,v=.l j/\s[j]?=some o/\∃rows:List (List Int),o=.lst (rows.map λis=>.tup (is.map .int))/\rows≠[]/\rows.length<=256/\∀is∈rows,Bw n is:=by
 have h1:=h.h1;have h8:=h.h8;have hlen:=h.len;have vM:(1000:Nat)<=sizeLine:=by decide
 obtain⟨p1,p2⟩:=pw h1 h8;refine W.call zn1 rfl ?_;unfold Wd cC;refine Y ?_;refine bK (znQ gV) ?_;refine Y ?_;refine⟨by rw[tU gV gV,tU gV gV];rfl,?_⟩;refine Er (λ(i:Nat) J s=>∃(rows:List (List Int)) (a b c:Option Xv),J=[some (.d (.tup [.int n,.tup (ps.map dG)])),some (.d (.bl true)),some (.l 0),a,b,c]/\s=[.lst (rows.map λis=>.tup (is.map .int))]/\(1<=i->rows≠[])/\rows.length<=i/\∀is∈rows,Bw n is)
  ⟨[],_,_,_,rfl,rfl,λz=>absurd z Dc,bL _,λis hi=>by cases hi⟩ (λi x J s e hI=>?_) (λJ s hI=>?_)
 ·obtain⟨rows,a,b,c,rfl,rfl,hne,Xg,G6⟩:=hI;obtain⟨rfl,hi⟩:=K5 e;have hb:=zlF (i:=i) h1 h8;refine Y ?_;refine pW (l:=List.range (n-0).toNat) (f:=λ(j:Nat)=>.int (0+j)) (λ(j:Nat)=>if ((i:Int)/2^j)%2=1 then some (.int j) else none) (by rw[B_];lia) ?_ (λj hj=>?_) ?_
  ·refine Y ?_;refine⟨by rw[tU gV gV,tU gV gV];rfl,?_⟩;exact⟨rfl,rfl⟩
  ·have hj:=lJ.mp hj;refine Y ?_;refine bK (znB gV) ?_;refine Y ?_;rw[show (0+(j:Int)).toNat=j by lia,show (0:Int)+i=i by lia,show (0:Int)+j=j by lia];refine⟨rfl,λhb=>?_,λhb=>?_⟩
   ·refine Y ?_;exact⟨rfl,_,rfl,by rw[if_pos (by simpa using hb)]⟩
   ·rw[if_neg (by simpa using hb)]
  have ef:(List.range (n-0).toNat).filterMap (λ(j:Nat)=>if ((i:Int)/2^j)%2=1 then some (D.int j) else none)=(dR n.toNat i).map .int:=by
   unfold dR;rw[Mv,show n-0=n by lia]
   congr 1
   funext j
   split<;>rfl
  rw[ef];refine Y ?_;refine pW (l:=ps) (f:=dG) (λq=>if (decide (q.1∈dR n.toNat i)&&decide (q.2∈dR n.toNat i))=true then some (.int 1) else none) gV ?_ (λq hq=>?_) ?_
  ·refine Y ?_;exact⟨rfl,rfl⟩
  ·obtain⟨a,b⟩:=q;refine Y ?_;refine bK (K6 (f:=id)) ?_;by_cases d1:a∈dR n.toNat i
   ·rw[dM d1];refine Y ?_;refine bK (K6 (f:=id)) ?_;refine Y ?_;refine⟨rfl,λhb=>?_,λhb=>?_⟩
    ·refine Y ?_;exact⟨rfl,_,rfl,by rw[lg,if_pos (show decide (b∈dR n.toNat i)=true from hb)]⟩
    ·rw[lg,if_neg (by rw[show decide (b∈dR n.toNat i)=false from hb];decide)]
   ·rw[fH d1];refine Y ?_;refine⟨rfl,λhb=>(by cases hb),λhb=>rfl⟩
  refine Ug (nM (jx (kj (oR (bK rfl ?_)))));rw[zgB];refine WS.cons (OJ ?_);refine sJ (kE (W.eV rfl (kE ?_)));refine sJ (kE ?_);refine sJ (kE (W.eV rfl (nM ?_)));refine jx (kj (oR ?_));refine bK (d:=.int 1) rfl ?_;refine kE (KaU rfl (by rw[aW];have:=hb.2;lia) (nM ?_));refine jx (kj (jx (kj (oR ?_))));refine bK (Ui (.inl Dc)) (nM ?_);refine jx (kj (jx (kj (oR ?_))));refine bK rfl (W.bool ?_);rw[aW];by_cases c4:((inn ps (dR n.toNat i)).length:Int)=1*(((dR n.toNat i).length:Int)*(((dR n.toNat i).length:Int)-1)/2)
  ·rw[show id ((((inn ps (dR n.toNat i)).length:Nat):Int)==1*(((dR n.toNat i).length:Int)*(((dR n.toNat i).length:Int)-1)/2))=true by simpa using c4];refine Y ?_;refine⟨by rw[aW];lia,?_⟩;refine Y ?_;refine⟨_,rfl,rows++[dR n.toNat i],_,_,_,rfl,by rw[jN];rfl,λ_=>by simp,by simp;lia,λis hi=>?_⟩;rcases eU.mp hi with z|z
   ·exact G6 is z
   ·rw[BX.mp z];exact hb
  ·have hi0:i≠0:=by
    rintro rfl;refine c4 ?_;rw[Xf];have:inn ps []=[]:=by
     unfold inn;rw[List.filter_eq_nil_iff];intro p _;simp
    rw[this];rfl
   rw[show id ((((inn ps (dR n.toNat i)).length:Nat):Int)==1*(((dR n.toNat i).length:Int)*(((dR n.toNat i).length:Int)-1)/2))=false by simpa using c4];refine Y ?_;exact⟨_,rfl,rows,_,_,_,rfl,rfl,λ_=>hne gV,by lia,G6⟩
 ·obtain⟨rows,a,b,c,rfl,rfl,hne,Xg,G6⟩:=hI;rw[O4] at hne Xg;refine Y ?_;exact⟨0,_,rfl,rfl,rows,rfl,hne gV,by lia,G6⟩
theorem Kay{k:Nat}{o:SO}{r:S}{m:Int}{P:Xv->S->Prop}(ho:jF o)(hm:0<m)(wM:m<1073741824)(h:∀(z:Nat) o',(z:Int)<m->jF o'->P (.d (.int z)) (o'::r)):W (bT (call ao T (k+1) true 18) [.l 0,.d (.int m)]) (o::r) P:=by
 refine Uh (n:=0) (o:=o) rfl rfl ((W9 ho hm wM).imp λv s=>?_);rintro⟨d,o',rfl,rfl,⟨z,rfl,h0,h1⟩,hp⟩;obtain⟨n,rfl⟩:=Fx h0;exact⟨_,_,rfl,rfl,h n o' h1 hp⟩
theorem Xh{α β:Type}{f:α->β}{xs:List α}{lo hi:Option Int}:cut (xs.map f) lo hi=(cut xs lo hi).map f:=by
 unfold cut;rw[aW,Nf,Ng]
theorem Xi{is:List Int}(h:is≠[]):prim .ix [.fl (is.map .int),.int (-1)]=some (.dat (.int (at' is ((is.length:Int)-1)))):=Py h
theorem zks{is:List Int}(h:is≠[]):prim .n8 [.fl (is.map .int)]=some (.dat (.int (tX is))):=by
 cases is with
 |nil=>exact absurd rfl h
 |cons i r=>
  show jV _ (aC ((i::r).map D.int))=_;rw[Bt];rfl
theorem Xj{bt:Int->Int->Bool}:∀(r:List Int) (i:Int),best bt i r=i\/best bt i r∈r
 |[],i=>.inl rfl
 |a::r,i=>by
  have e:best bt i (a::r)=best bt (if bt a i=true then a else i) r:=rfl;rw[e];by_cases hb:bt a i=true
  ·rw[if_pos hb];rcases Xj (bt:=bt) r a with e|e
   ·exact .inr (by rw[e];exact gA)
   ·exact .inr (eF _ e)
  ·rw[if_neg hb];rcases Xj (bt:=bt) r i with e|e
   ·exact .inl e
   ·exact .inr (eF _ e)
theorem zkv{is:List Int}(h:is≠[]):tX is∈is:=by
 cases is with
 |nil=>exact absurd rfl h
 |cons i r=>
  rcases Xj (bt:=λa b=>decide (a<b)) r i with e|e
  ·exact bZ.mpr (.inl e)
  ·exact eF _ e
theorem zd5{x:Int}:∀{is:List Int},x∈is->∃j:Nat,j<is.length/\is.idxOf? x=some j
 |[],h=>by cases h
 |a::r,h=>by
  rw[List.idxOf?_cons];by_cases e:a=x
  ·exact⟨0,by simp,by simp[e]⟩
  ·have e':(a==x)=false:=by simpa using e
   rcases bZ.mp h with z|z
   ·exact absurd z.symm e
   ·obtain⟨j,hj,q⟩:=zd5 z;exact⟨j+1,by rw[fu];lia,by rw[e',q];rfl⟩
theorem znu{is:List Int}{x:Int}(h:x∈is):∃j:Nat,j<is.length/\prim .jT [.fl (is.map .int),.int x]=some (.dat (.int j)):=by
 obtain⟨j,hj,q⟩:=zd5 h;refine⟨j,hj,?_⟩;show ((aC (is.map D.int)).bind λis=>is.idxOf? x).map _=_;rw[Bt];show (is.idxOf? x).map _=_;rw[q];rfl
theorem zhZ{is:List Int}(h:is≠[]):at' is ((is.length:Int)-1)∈is:=by
 have hp:=Ht.mpr h;rw[show (is.length:Int)-1=((is.length-1:Nat):Int) by lia,Bs gV];exact lH _
theorem zis{k':Nat}{o:SO}(ho:jF o)(h:Web n ps):W (call ao T (k'+2) true 28 [.l 0,.d (cC n ps)]) [o] λv s=>∃(d:D) (o':SO) (r:S),v=.d d/\s=o'::r/\(∃is,d=.tup (is.map .int)/\Bw n is)/\jF o':=by
 have h1:=h.h1;have h8:=h.h8;have hlen:=h.len;have vM:(1000:Nat)<=sizeLine:=by decide
 refine W.call zoh rfl ?_;unfold Wh cC;refine Y ?_;refine yX ho gV gV λr o1 hr hp=>?_;refine Y ?_;refine Kay hp Dc Dc λr2 o2 hr2 hp=>?_;refine Y ?_;refine⟨by rw[tU gV gV,tU gV gV];rfl,?_⟩;refine Er (λ(i:Nat) J s=>∃(is:List Int) (o':SO) (a b c:Option Xv),J=[some (.l 0),some (.d (.tup [.int n,.tup (ps.map dG)])),some (.l 1),a,b,c]/\s=[o',.lst (is.map .int)]/\jF o'/\is≠[]/\is.length<=i+1/\∀x∈is,0<=x/\x<n)
  ⟨[(r:Int)],o2,_,_,_,rfl,rfl,hp,by simp,bL _,λx hx=>by have:=BX.mp hx;lia⟩ (λi x J s e hI=>?_) (λJ s hI=>?_)
 ·obtain⟨is,o',a,b,c,rfl,rfl,hp,hne,hl,cG⟩:=hI;obtain⟨rfl,hi⟩:=K5 e;have aac:=cG _ (zhZ hne);refine Y ?_;refine pW (l:=ps) (f:=dG) (λq=>if (q.1==at' is ((is.length:Int)-1)||(q.2==at' is ((is.length:Int)-1)||false))=true then some (.int (q.1+q.2-at' is ((is.length:Int)-1))) else none) gV ?_ (λq hq=>?_) ?_
  ·refine Y ?_;exact⟨rfl,rfl⟩
  ·obtain⟨x,y⟩:=q;refine Y ?_;refine bK (Xi hne) ?_;refine Y ?_;refine⟨rfl,λhb=>?_,λhb=>?_⟩
   ·refine Y ?_;refine bK (Xi hne) ?_;refine Y ?_;exact⟨rfl,_,rfl,if_pos hb⟩
   ·exact if_neg (by rw[show (x==at' is ((is.length:Int)-1)||(y==at' is ((is.length:Int)-1)||false))=false from hb];decide)
  have em:∃ls:List Int,ps.filterMap (λq=>if (q.1==at' is ((is.length:Int)-1)||(q.2==at' is ((is.length:Int)-1)||false))=true then some (D.int (q.1+q.2-at' is ((is.length:Int)-1))) else none)=ls.map .int/\ls.length<=100/\∀x∈ls,0<=x/\x<n:=by
   refine⟨ps.filterMap (λq=>if (q.1==at' is ((is.length:Int)-1)||(q.2==at' is ((is.length:Int)-1)||false))=true then some (q.1+q.2-at' is ((is.length:Int)-1)) else none),?_,?_,λx hx=>?_⟩
   ·rw[Mv]
    congr 1
    funext q
    split<;>rfl
   ·have:=BK (λq:Int×Int=>if (q.1==at' is ((is.length:Int)-1)||(q.2==at' is ((is.length:Int)-1)||false))=true then some (q.1+q.2-at' is ((is.length:Int)-1)) else none) ps
    lia
   ·obtain⟨q,hq,e⟩:=vP.mp hx;have ht:=h.tie q hq;split at e
    ·rename_i hb;cases e;simp only[Nb,Hy,Ce] at hb;rcases hb with z|z<;>lia
    ·cases e
  obtain⟨ls,els,hll,hls⟩:=em;rw[els];refine Y ?_;refine pW (l:=ls) (f:=D.int) (λx=>if x∈is then none else some (.int x)) gV ?_ (λx hx=>?_) ?_
  ·refine Y ?_;exact⟨rfl,rfl⟩
  ·refine Y ?_;refine bK (znF (f:=not)) ?_;refine Y ?_;refine⟨rfl,λhb=>?_,λhb=>?_⟩
   ·refine Y ?_;exact⟨rfl,_,rfl,by rw[if_neg (by simpa using hb)]⟩
   ·rw[if_pos (by simpa using hb)]
  have em2:ls.filterMap (λx=>if x∈is then none else some (D.int x))=(ls.filterMap λx=>if x∈is then none else some x).map .int:=by
   rw[Mv]
   congr 1
   funext q
   split<;>rfl
  have wM:(ls.filterMap λx=>if x∈is then none else some x).length<=100/\∀x∈ls.filterMap (λx=>if x∈is then none else some x),0<=x/\x<n:=by
   refine⟨jH (BK ..) hll,λx hx=>?_⟩;obtain⟨y,hy,e⟩:=vP.mp hx;split at e
   ·cases e
   ·cases e;exact hls _ hy
  rw[em2];generalize (ls.filterMap λx=>if x∈is then none else some x)=ms at wM;cases ms with
  |nil=>
   refine Y ?_;exact⟨_,rfl,is,o',_,_,_,rfl,rfl,hp,hne,by lia,cG⟩
  |cons m0 mr=>
   refine Y ?_;refine Kay hp J0 (by have:=wM.1;simp at this ⊢;lia) λz o3 hz hp=>?_;refine Y ?_;rw[aW] at hz;have DK:z<(m0::mr).length:=by lia
   refine bK (yO (x:=.int ((m0::mr)[z]'DK)) (by rw[gK,dj DK];rfl)) ?_;refine Y ?_;refine⟨by rw[aW];lia,?_⟩;refine Y ?_;refine⟨_,rfl,is++[(m0::mr)[z]'DK],o3,_,_,_,rfl,by rw[jN];rfl,hp,by simp,by simp;lia,λx hx=>?_⟩;rcases eU.mp hx with q|q
   ·exact cG x q
   ·rw[BX.mp q];exact wM.2 _ (lH _)
 ·obtain⟨is,o',a,b,c,rfl,rfl,hp,hne,hl,cG⟩:=hI;rw[O4] at hl;obtain⟨j,hj,ej⟩:=znu (zkv hne);refine Y ?_;refine KaI (W.eV rfl (GJ rfl ⟨rfl,?_⟩));refine kE (sJ (kE (W.eV rfl (nM ?_))));refine jx (GJ rfl (oR ?_));refine bK (zks hne) (nM ?_);refine jx (GJ rfl (jx (kj (oR ?_))));refine bK ej ?_;refine Y ?_;rw[Xh,Xh,zgP,zf1];have G7:(is.drop j++is.take j).length=is.length:=by rw[h_,wV,oZ];lia
  have Bj:∀x∈is.drop j++is.take j,0<=x/\x<n:=λx hx=>by
   rcases eU.mp hx with z|z
   ·exact cG x (Mt z)
   ·exact cG x (Hl z)
  refine Pq (OD (by rw[aW,aW,<-h_,G7];lia)) ?_;rw[<-jN];have Mh:is.drop j++is.take j≠[]:=λz=>by rw[z] at G7;exact hne (List.length_eq_zero_iff.mp G7.symm)
  generalize is.drop j++is.take j=js at G7 Bj Mh;have fin:∀(t:S) (ks:List Int),ks.length=is.length->(∀x∈ks,0<=x/\x<n)->∃(d:D) (o2:SO) (r:S),Xv.d (.tup (ks.map .int))=.d d/\o'::t=o2::r/\(∃is,d=.tup (is.map .int)/\Bw n is)/\jF o2:=λt ks e1 e2=>⟨_,_,_,rfl,rfl,⟨ks,rfl,e2,by lia⟩,hp⟩;refine Y ?_;by_cases c1:((js.map D.int).length:Int)>2
  ·rw[dM c1];rw[aW] at c1;refine Y ?_;refine bK (znT Dc gV) ?_;refine Y ?_;refine bK (Xi Mh) ?_;refine Y ?_;refine WS.ite (λ_=>?_) (λ_=>?_)
   ·refine Y ?_;rw[Xh,zgj,<-Ng,<-List.map_reverse];have Vy:(js.take 1++(js.drop 1).reverse).length=is.length:=by rw[h_,oZ,List.length_reverse,wV];lia
    refine Pq (OD (by rw[aW,aW,<-h_,Vy];lia)) ?_;rw[<-jN];refine Y ?_;exact fin _ _ Vy λx hx=>by
     rcases eU.mp hx with z|z
     ·exact Bj x (Hl z)
     ·exact Bj x (Mt (List.mem_reverse.mp z))
   ·refine Y ?_;exact fin _ _ G7 Bj
  ·rw[fH c1];refine Y ?_;exact fin _ _ G7 Bj
end
theorem Qa{F:List Xv->M Xv}{s t:S}{o:SO}{xs:List Xv}{P:Xv->S->Prop}(hl:locs xs=[s.length])(h:W (F (dB 0 xs)) [o] λv s1=>∃d o' r,v=.d d/\s1=o'::r/\P (.d d) (s++o'::t)):W (bT F xs) (s++o::t) P:=by
 refine Kam (n:=s.length) (o:=o) hl J0 (h.imp λv s1=>?_);rintro⟨d,o',r,rfl,rfl,hp⟩;exact⟨d,o',r,rfl,rfl,by rw[show (s++o::t).set s.length o'=s++o'::t by simp];exact hp⟩
theorem Kaz{k:Nat}{s t:S}{o:SO}{m:Int}{P:Xv->S->Prop}(ho:jF o)(hm:0<m)(wM:m<1073741824)(h:∀(r:Nat) o',(r:Int)<m->jF o'->P (.d (.int r)) (s++o'::t)):W (bT (call ao T (k+1) true 18) [.l s.length,.d (.int m)]) (s++o::t) P:=by
 refine Qa rfl ((W9 ho hm wM).imp λv s1=>?_);rintro⟨d,o',rfl,rfl,⟨r,rfl,h0,h1⟩,hp⟩;obtain⟨n,rfl⟩:=Fx h0;exact⟨_,_,[],rfl,rfl,h n o' h1 hp⟩
noncomputable def Xk:List (Int×Int):=[(0,1),(0,4),(1,2),(2,3),(3,4)]
theorem Xl:Web 5 Xk:=⟨by decide,by decide,by decide,(by decide:List.Pairwise (λp q:Int×Int=>p.1<q.1\/p.1=q.1/\p.2<q.2) Xk),by decide⟩
noncomputable def Xm:List D:=[.tup [.str "odd",.tup (([0,1,2,3,4]:List Int).map .int)],.tup [.str "odd",.tup (([0,4,3,2,1]:List Int).map .int)],.tup [.str "crowd",.tup (([0,1]:List Int).map .int)],.tup [.str "crowd",.tup (([1,0]:List Int).map .int)],.tup [.str "crowd",.tup (([]:List Int).map .int)]]
theorem BJ:(PyData.str "odd").leavesShort 40=true/\("odd" : Str).cps.size<=10:=by decide +kernel
theorem zk0:(PyData.str "odds").leavesShort 40=true/\("odds" : Str).cps.size<=10:=by decide +kernel
theorem zc:(PyData.str "crowd").leavesShort 40=true/\("crowd" : Str).cps.size<=10:=by decide +kernel
theorem zk5{x:D}(hx:x∈Xm):Th x:=by
 simp only[Xm,bZ,rC,qm] at hx;rcases hx with rfl|rfl|rfl|rfl|rfl
 ·exact rm BJ (G5 Dc Dc)
 ·exact rm BJ (G5 Dc Dc)
 ·exact rm zc (G5 Dc Dc)
 ·exact rm zc (G5 Dc Dc)
 ·exact rm zc (G5 Dc Dc)
theorem zmn{x:D}(hx:x∈sV):Th x:=by
 have key:∀{x:D} {f:Nat->D->Option PyData} {p:PyData},(f=pd\/f=pe)->f 40 x=some p->(p.showable&&p.leavesShort 40&&decide (p.weight<=110))=true->Rp x:=λ{x f p} h3 h4 h5=>by
  simp only[gB,wU] at h5;exact zkI h3 ⟨p,h4,h5.1.1,h5.1.2,h5.2⟩ Dc
 have pl:∀{xs:List D},xs.length<=17->xs.all oU=true->aC xs=none\/xs=[]->wJ (.tup xs):=λ{xs} h1 h2 h3=>⟨h2,λys e=>by
  cases e;refine⟨h1,λis e=>?_⟩;rcases h3 with z|z
  ·rw[z] at e;cases e
  ·subst z;cases e;rfl⟩
 simp only[sV,bZ,rC,qm] at hx;rcases hx with rfl|rfl|rfl|rfl|rfl|rfl|rfl|rfl|rfl|rfl|rfl|rfl|rfl|rfl|rfl|rfl
 ·exact⟨key (.inl rfl) rfl Bd,.inr ⟨rfl,rfl⟩⟩
 ·exact⟨key (.inl rfl) rfl Bd,.inr ⟨rfl,rfl⟩⟩
 ·exact⟨key (.inl rfl) rfl Bd,.inr ⟨rfl,rfl⟩⟩
 ·exact⟨key (.inl rfl) rfl Bd,.inr ⟨rfl,rfl⟩⟩
 ·exact⟨key (.inl rfl) rfl Bd,.inr ⟨rfl,rfl⟩⟩
 ·exact⟨key (.inl rfl) rfl Bd,.inr ⟨rfl,rfl⟩⟩
 ·exact⟨key (.inl rfl) rfl Bd,.inr ⟨rfl,rfl⟩⟩
 ·exact⟨key (.inl rfl) rfl Bd,.inr ⟨rfl,rfl⟩⟩
 ·exact⟨key (.inl rfl) rfl Bd,.inr ⟨rfl,rfl⟩⟩
 ·exact⟨key (.inl rfl) rfl Bd,.inr ⟨rfl,rfl⟩⟩
 ·exact⟨key (.inr rfl) rfl Bd,.inr ⟨rfl,rfl⟩⟩
 ·exact⟨key (.inl rfl) rfl Bd,.inl ⟨_,_,rfl,.inr (.inl ⟨_,rfl⟩),⟨rfl,λxs e=>by cases e⟩⟩⟩
 ·exact⟨key (.inl rfl) rfl Bd,.inr ⟨rfl,rfl⟩⟩
 ·exact⟨key (.inl rfl) rfl Bd,.inl ⟨_,_,rfl,.inr (.inl ⟨_,rfl⟩),pl Dc rfl (.inr rfl)⟩⟩
 ·exact⟨key (.inl rfl) rfl Bd,.inr ⟨rfl,rfl⟩⟩
 ·exact⟨key (p:=.tuple [.int 1,.tuple [.tuple [.int 0,.int 0]]]) (.inl rfl) rfl Bd,.inl ⟨_,_,rfl,.inr (.inl ⟨_,rfl⟩),pl Dc rfl (.inl rfl)⟩⟩
theorem vN(ns:List Int)(hn:ns.length<=63):∃s',call ao T 60 true 30 [.d (.fl (ns.map D.int))] []=some (.ok (.d (.bl true)),s'):=by
 suffices h:W (call ao T 60 true 30 [.d (.fl (ns.map D.int))]) [] λv _=>v=.d (.bl true) by
  obtain⟨v,s',e,rfl⟩:=h;exact⟨s',e⟩
 have hs:(20000:Nat)<=sizeLine:=by decide
 refine W.call (k:=59) zn3 rfl ?_;unfold Wj;refine Y ?_;refine Er (c:=Xm) (λ_ J s=>s=[]/\∃(a b c d e f g h i j k l:Option Xv),J=[some (.d (.fl (ns.map D.int))),some (.d (cC 5 Xk)),a,b,c,d,e,f,g,h,i,j,k]) ⟨rfl,_,_,_,_,_,_,_,_,_,_,_,none,rfl⟩ (λi x J s hx qb=>?_) (λJ s qb=>?_)
 ·obtain⟨rfl,a,b,c,d,e,f,g,h,i,j,k,l,rfl⟩:=qb;refine Y ?_;refine W.c0 (zgJ (k':=51) Xl (zk5 (iQ hx))) ?_;refine Y ?_;exact⟨_,rfl,rfl,_,_,_,_,_,_,_,_,_,_,_,none,rfl⟩
 obtain⟨rfl,a,b,c,d,e,f,g,h,i,j,k,l,rfl⟩:=qb;refine Y ?_;refine tR rfl ((zmh (k:=58)).imp λv _=>?_);rintro⟨n0,rfl⟩;refine⟨_,rfl,?_⟩;refine Y ?_;refine Ep (OD ?_) ?_
 ·have:=zjw (ns:=ns) (lo:=some 1) (hi:=some 4);show 1+_<=_
  lia
 refine Y ?_;refine Er (λ_ J s=>∃(a b c d e f g h i j k l:Option Xv),J=[some (.d (.fl (ns.map D.int))),a,b,c,d,e,f,g,h,i,j,k,l]) ⟨_,_,_,_,_,_,_,_,_,_,_,_,rfl⟩ (λi x J s hx qb=>?_) (λJ s qb=>?_)
 ·obtain⟨m,rfl⟩ : ∃m,x=.int m:=by
   rcases eU.mp (iQ hx) with z|z
   ·rcases bZ.mp z with rfl|z
    ·exact⟨_,rfl⟩
    ·cases z
   ·exact zjd z
  obtain⟨a,b,c,d,e,f,g,h,i,j,k,l,rfl⟩:=qb;refine Y ?_;refine Kak rfl ((zm5 (k:=58)).imp λv s1=>?_);rintro⟨j',o,rfl,hj,hp⟩;refine⟨j',o,rfl,hj,?_⟩;refine Y ?_;refine Kan rfl ((zkO (k:=57) hp).imp λv s1=>?_);rintro⟨z,o1,rfl,rfl,hz,hp⟩;refine⟨_,_,rfl,rfl,?_⟩;refine Y ?_;refine Kan rfl ((zh2 (k:=57) hp (n:=z) gV gV).imp λv s1=>?_);rintro⟨ps,o3,rfl,rfl,hw,hp⟩;refine⟨_,_,rfl,rfl,?_⟩;refine Y ?_;refine Kak rfl ((zmB (k':=58) hw).imp λv s1=>?_);rintro⟨j2,o4,rfl,hj2,rows,rfl,Xn,Xg,G6⟩;refine⟨j2,_,rfl,hj2,?_⟩;refine Y ?_;rw[aW,show s++[o3]++[SO.lst (rows.map λis=>D.tup (is.map D.int))]=s++o3::[.lst (rows.map λis=>D.tup (is.map D.int))] by simp];refine Kaz hp (by have:=Ht.mpr Xn;lia) gV λr o5 hr hp=>?_;have nH:r<rows.length:=by lia
  refine nM (jx (GJ (xs:=rows.map λis=>D.tup (is.map D.int)) J0 (jx (kj (oR ?_)))));refine bK (yO (x:=.tup ((rows[r]'nH).map .int)) (by rw[gK,dj nH];rfl)) ?_;have yZ:=G6 _ (lH nH);generalize rows[r]'nH=cr at yZ;generalize SO.lst (rows.map λis=>D.tup (is.map D.int))=CC;refine WS.cons (Uo ?_);refine Kar (c:=jf 0 3) (λi acc s'=>∃o':SO,s'=s++o'::[CC]/\jF o'/\∃ws:List (List Int),acc=ws.map (λis=>.tup (is.map .int))/\ws.length=i/\∀is∈ws,Bw z is) ?_ (λi x acc s' e hI=>?_) (λacc s' hI=>?_)
  ·refine Y ?_;exact⟨rfl,rfl,o5,rfl,hp,[],rfl,rfl,λis hi=>by cases hi⟩
  ·obtain⟨o,rfl,hp,ws,rfl,v9,G8⟩:=hI;have hi:i<3:=by have:=(gw.mp e).1;exact this
   refine Y ?_;refine⟨λ_=>?_,λhb=>by cases hb⟩;refine Y ?_;refine Qa rfl ((zis (k':=57) hp hw).imp λv s1=>?_);rintro⟨_,o2,t,rfl,rfl,⟨is,rfl,Qc⟩,hp⟩;refine⟨_,_,_,rfl,rfl,?_⟩;refine⟨_,rfl,by rw[aW];lia,o2,rfl,hp,ws++[is],by rw[jN];rfl,by simp[v9],λjs hj=>?_⟩;rcases eU.mp hj with q|q
   ·exact G8 js q
   ·rw[BX.mp q];exact Qc
  obtain⟨o6,rfl,hp,ws,rfl,v9,G8⟩:=hI;obtain⟨w0,w1,w2,rfl⟩ : ∃w0 w1 w2,ws=[w0,w1,w2]:=by
   have v9:ws.length=3:=v9
   match ws,v9 with
   |[x,y,z],_=>exact⟨x,y,z,rfl⟩
  have hw0:=G8 w0 J0;have hw1:=G8 w1 J0;have hw2:=G8 w2 J0;clear G8 v9;refine Y ?_;refine Qa rfl ((znd (k:=57) hp).imp λv s1=>?_);rintro⟨od,o7,rfl,rfl,hod,hp⟩;refine⟨_,_,[],rfl,rfl,?_⟩;refine Y ?_;refine pW (l:=[w0,w1,w2]) (f:=λis=>.tup (is.map .int)) (λis=>some (.tup [.str "odd",.tup (is.map .int)])) (by show 3<=_;lia) ?_ (λis hi=>?_) ?_
  ·refine Y ?_;exact⟨rfl,rfl⟩
  ·refine Y ?_;refine⟨rfl,λ_=>?_,λhb=>by cases hb⟩;refine Y ?_;exact⟨rfl,_,rfl,rfl⟩
  refine Y ?_;refine Pq rfl ?_;refine Y ?_;refine Pq rfl ?_;refine Y ?_;refine⟨rfl,?_⟩;have z8:(z:Int)<=8:=by lia
  have gp:∀{is:List Int},Bw z is->gP (.tup (is.map .int)):=λ{is} h=>G5 (λi hi=>by have:=h.1 i hi;lia) (by have:=h.2;lia);have base:∀x∈([D.tup [.str "crowd",.tup (cr.map .int)],.tup [.str "crowd",.tup (w0.map .int)],.tup [.str "odd",.tup (cr.map .int)],od,.tup [.str "crowd",.tup (cr.map .int),.int 0]]++[D.fl [.str "odd",.tup (w1.map .int)]]++[w0,w1,w2].filterMap (λis=>some (D.tup [.str "odd",.tup (is.map .int)]))++[D.tup [.str "odds",.tup (w0.map .int)],.tup [.str "crowd"],.tup [.tup (cr.map .int),.str "crowd"]]),Th x:=λx hx=>by
   simp only[eU,zu,List.filterMap_nil,bZ,rC,qm] at hx;rcases hx with (((rfl|rfl|rfl|rfl|rfl)|rfl)|rfl|rfl|rfl)|rfl|rfl|rfl
   ·exact rm zc (gp yZ)
   ·exact rm zc (gp hw0)
   ·exact rm BJ (gp yZ)
   ·exact zmn hod
   ·exact⟨Mf (B:=500) (λj=>(Fj (j:=j+4) wG (tW (Mg zc) (tW ((gp yZ).2 j) (tW (ziY wG Dc) eO)))).mono Dc) Dc,.inr ⟨rfl,rfl⟩⟩
   ·exact⟨Mf (B:=500) (λj=>(zkB (j:=j+4) (tW (Mg BJ) (tW ((gp hw1).2 j) eO))).mono Dc) Dc,.inr ⟨rfl,rfl⟩⟩
   ·exact rm BJ (gp hw0)
   ·exact rm BJ (gp hw1)
   ·exact rm BJ (gp hw2)
   ·exact rm zk0 (gp hw0)
   ·exact⟨Mf (B:=500) (λj=>(Fj (j:=j+4) wG (tW (Mg zc) eO)).mono Dc) Dc,.inr ⟨rfl,rfl⟩⟩
   ·exact⟨Mf (B:=500) (λj=>(Fj (j:=j+4) wG (tW ((gp yZ).2 j) (tW (Mg zc) eO))).mono Dc) Dc,.inl ⟨_,_,rfl,.inr (.inr ⟨_,rfl⟩),⟨rfl,λxs e=>by cases e⟩⟩⟩
  have bl:([D.tup [.str "crowd",.tup (cr.map .int)],.tup [.str "crowd",.tup (w0.map .int)],.tup [.str "odd",.tup (cr.map .int)],od,.tup [.str "crowd",.tup (cr.map .int),.int 0]]++[D.fl [.str "odd",.tup (w1.map .int)]]++[w0,w1,w2].filterMap (λis=>some (D.tup [.str "odd",.tup (is.map .int)]))++[D.tup [.str "odds",.tup (w0.map .int)],.tup [.str "crowd"],.tup [.tup (cr.map .int),.str "crowd"]]).length<=12:=Hg rfl;generalize ([D.tup [.str "crowd",.tup (cr.map .int)],.tup [.str "crowd",.tup (w0.map .int)],.tup [.str "odd",.tup (cr.map .int)],od,.tup [.str "crowd",.tup (cr.map .int),.int 0]]++[D.fl [.str "odd",.tup (w1.map .int)]]++[w0,w1,w2].filterMap (λis=>some (D.tup [.str "odd",.tup (is.map .int)]))++[D.tup [.str "odds",.tup (w0.map .int)],.tup [.str "crowd"],.tup [.tup (cr.map .int),.str "crowd"]])=X0 at base bl ⊢;generalize SO.lst ([D.tup [.str "crowd",.tup (cr.map .int)],.tup [.str "crowd",.tup (w0.map .int)],.tup [.str "odd",.tup (cr.map .int)],od,.tup [.str "crowd",.tup (cr.map .int),.int 0]]++[D.fl [.str "odd",.tup (w1.map .int)]]++[w0,w1,w2].filterMap (λis=>some (D.tup [.str "odd",.tup (is.map .int)])))=L2;generalize SO.lst [D.tup [.str "crowd",.tup (cr.map .int)],.tup [.str "crowd",.tup (w0.map .int)],.tup [.str "odd",.tup (cr.map .int)],od,.tup [.str "crowd",.tup (cr.map .int),.int 0]]=L1;rw[show s++[o7,CC]++[L1]++[L2]++[SO.lst X0]=s++o7::[CC,L1,L2,.lst X0] by simp,show (s++[o7,CC]++[L1]++[L2]).length=s.length+4 by simp];refine Er (c:=jf 0 4) (λi J s'=>∃(o':SO) (xs:List D) (a' b':Option Xv),s'=s++o'::[CC,L1,L2,.lst xs]/\jF o'/\xs.length<=12+i/\(∀x∈xs,Th x)/\J=[some (.d (.fl (ns.map D.int))),a,b,c,some (.d (.int m)),some (.l s.length),some (.d (cC z ps)),some (.l (s++[o3]).length),some (.d (.tup (cr.map .int))),some (.d (.fl ([w0,w1,w2].map λis=>.tup (is.map .int)))),some (.l (s.length+4)),a',b']) ⟨o7,X0,_,_,rfl,hp,bl,base,rfl⟩ (λi x J s' e hI=>?_) (λJ s' hI=>?_)
  ·obtain⟨o8,xs,a',b',rfl,hp,Xo,Xp,rfl⟩:=hI;obtain⟨rfl,hi⟩:=K5 e;refine Y ?_;obtain⟨row,Mj,Fv⟩:=zg8 (xs:=[.tup (cr.map .int),.tup (w2.map .int)]) (z:=(0+(i:Int))%2) gV (by show _<(2:Int);lia);refine bK Mj ?_;obtain⟨is,rfl,Qc⟩ : ∃is:List Int,row=.tup (is.map .int)/\Bw z is:=by
    simp only[bZ,rC,qm] at Fv;rcases Fv with rfl|rfl
    ·exact⟨_,rfl,yZ⟩
    ·exact⟨_,rfl,hw2⟩
   clear Mj Fv;have ew:cC z ps=.tup [.int z,.tup (ps.map dG)]:=rfl;refine kE (sJ (kE (W.eV rfl (kE (W.eC (nM ?_))))));rw[ew];refine jx (kj (jx (kj (oR ?_))));refine bK rfl (nM ?_);refine Qa rfl ((zik (k':=57) hp (by rw[aW];exact Qc.2) (λy hy=>by obtain⟨i,hi,rfl⟩:=eE.mp hy;exact G4 (by have:=Qc.1 i hi;lia)) gV z8).imp λv s1=>?_);rintro⟨bd,o9,rfl,rfl,hbd,hp⟩;refine⟨_,_,[],rfl,rfl,?_⟩;refine WS.cons (Kbi ?_);refine W.push ?_;refine W.eV rfl ?_;refine W.cD (xs:=xs) J0 ?_;refine KaN (kE ?_);refine Y ?_;refine Kaz hp Dc Dc λr3 o10 hr3 hp=>?_;refine nM (jx (kj (jx (kj (oR ?_)))));obtain⟨wd,ewd,Xq⟩:=Xa (xs:=[.str "crowd",.str "odd"]) (r:=r3) (by show r3<2;lia);refine bK ewd ?_;have hth:Th (.tup [wd,bd]):=by
    simp only[bZ,rC,qm] at Xq;rcases Xq with rfl|rfl
    ·exact rm zc hbd
    ·exact rm BJ hbd
   clear ewd Xq;refine kE (W.eV rfl (nM (Ue (Ue (Kaw ?_)))));refine W.dat ?_;refine W.cD (xs:=xs) J0 ⟨show xs.length<sizeLine by lia,?_⟩;refine WS.nil ?_;refine⟨_,rfl,o10,xs++[.tup [wd,bd]],_,_,by simp,hp,by simp;lia,λx hx=>?_,rfl⟩;rcases eU.mp hx with q|q
   ·exact Xp x q
   ·rw[BX.mp q];exact hth
  ·obtain⟨o8,xs,a',b',rfl,hp,Xo,Xp,rfl⟩:=hI;have Xo:xs.length<=16:=Xo;refine WS.cons (OJ ?_);refine KaJ (sJ (kE ?_));refine Kat (l:=xs) (f:=λx=>x) (s++o8::[CC,L1,L2,.lst xs]) (λ_=>some (.bl true)) gV ?_ (λx hx=>?_) ?_
   ·refine Y ?_;refine Kbc (c:=xs) J0 ?_;refine⟨rfl,by rw[Ga],λi=>?_⟩;rw[Ga];simp[Src.at]
   ·refine Y ?_;refine⟨rfl,λ_=>?_,λhb=>by cases hb⟩;refine Y ?_;refine W.c0 (zgJ (k':=51) hw (Xp x hx)) ?_;exact⟨rfl,_,rfl,rfl⟩
   refine Y ?_;refine bK (O1 ?_) ?_
   ·intro x hx;obtain⟨_,_,e⟩:=vP.mp hx;exact(dJ e).symm
   refine Y ?_;exact⟨_,rfl,_,_,_,_,_,_,_,_,_,_,_,_,rfl⟩
 ·obtain⟨a,b,c,d,e,f,g,h,i,j,k,l,rfl⟩:=qb;exact Y trivial
end fL
end Lake
open Lake
open PySem PySem.W PyProof.Rows
set_option maxRecDepth 100000 in
set_option maxHeartbeats 0 in
theorem PySem.Challenge.cw_ringhues_k46_papers_that_rings_are_so_lo_holds : PySem.Challenge.rw_ringhues_k46_papers_that_rings_are_so_lo.Holds := by
 refine PySem.W.holds_law fL.ws λsaid=>?_;refine holds_open (q:=fL.qv) (loose:=fL.loose) (Xt:=λs=>xlAt fL.qv [] s&&recOk [] s) (XP:=XL fL.qv []) (Yf:=(Mi.mq fL.fs fL.ms fL.xs fL.lk).obs) (Ya:=(Mi.mq fL.fs fL.ms fL.xs fL.lk).val) (YP:=(Mi.mq fL.fs fL.ms fL.xs fL.lk).says) (N:=20000) fL.left (Mi.mq fL.fs fL.ms fL.xs fL.lk).of (Mi.mq fL.fs fL.ms fL.xs fL.lk).keeps (λs e=>xl_of s (Bool.and_eq_true_iff.mp e).1) XL.keeps (by rfl) (by rfl) (by rfl) (λs e=>recFacts_of (Bool.and_eq_true_iff.mp e).2) (by rfl) said fL.wc ⟨rfl,rfl,rfl,rfl,rfl,fL.wt⟩ ?hw ?hc
 case hw=>w_witness2
 case hc=>exact Mi.KR (l:=PySem.Challenge.rw_ringhues_k46_papers_that_rings_are_so_lo) (x:="_law_script") (k:=60) rfl rfl ⟨by decide,by decide,rfl⟩ (λw K mg fa h S X G W8=>fL.all_mk fL.vN S X G W8)
