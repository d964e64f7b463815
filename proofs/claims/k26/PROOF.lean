import PyProof.Rows.All
import Wide.All
import KE.KIsAll
import KE.KSortTup
import KE.KTryDeep
import KE.KDictOf
import KE.KFromBytes
import Wide.FinOn
import PySem.Challenge.RW_ringhues_k26_full_rounds_by_anybody
set_option compiler.extract_closed false
set_option Elab.async false
set_option linter.all false
set_option maxRecDepth 100000
set_option maxHeartbeats 4000000
set_option hygiene false
open Lean in
def cv:Nat->Syntax->MacroM (TSyntax `rcasesPat)
 |n+1,s=>match s with
  |`(⟨$xs,*⟩)=>do
   let p<-xs.getElems.mapM λx=>do `(Parser.Tactic.rcasesPatLo|$(<-cv n x):rcasesPat)
   `(rcasesPat|⟨$p,*⟩)
  |`(_)=>`(rcasesPat|_)
  |`($i:ident)=>`(rcasesPat|$i:ident)
  |_=>Macro.throwUnsupported
 |_,_=>Macro.throwUnsupported
local macro_rules(kind:=Lean.Parser.Tactic.tacticLet__)
 |s=>do
  let d:=s[2][0]
  if d.isOfKind `Lean.Parser.Term.letPatDecl then `(tactic|obtain $(<-cv 9 d[0]):rcasesPat:=$(⟨d[4]⟩)) else return s.setKind `Lean.Parser.Tactic.tacticHave__
local macro_rules|`(tactic|show $t)=>`(tactic|refine $t)
local macro_rules|`(tactic|ext)=>`(tactic|refine Y ?_)
namespace Lake
theorem gV{p:Prop}(h:p:=by lia):p:=h
theorem Bd{p:Prop}(h:p:=by decide +kernel):p:=h
theorem J0{p:Prop}(h:p:=by decide):p:=h
theorem V8{p:Prop}(h:p:=by simp):p:=h
abbrev aB:=@PySem.wpAny_bind
abbrev aY:=@List.length_map
abbrev bZ:=@List.length_append
abbrev dW:=@List.getElem?_eq_getElem
abbrev dD:=@PySem.Heap.get?_push_of_some
abbrev aP:=@PySem.wpAny_pure
abbrev gJ:=@List.getD_eq_getElem?_getD
abbrev dF:=@Nat.lt_of_lt_of_le
abbrev bL:=@PySem.Heap.lt_size
abbrev h_:=@List.getElem?_eq_some_iff
abbrev dH:=@List.size_toArray
abbrev fZ:=@List.mem_cons_of_mem
abbrev cO:=@decide_eq_true
abbrev dw:=@List.mem_append
abbrev bQ:=@Nat.le_refl
abbrev dZ:=@Bool.and_eq_true
abbrev dM:=@Option.some.inj
abbrev fj:=@of_decide_eq_true
abbrev je:=@Option.map_eq_some_iff
abbrev gK:=@PySem.Heap.get?_push_size
abbrev cX:=@List.mem_cons
abbrev iH:=@List.mem_of_getElem?
abbrev fP:=@List.length_cons
abbrev cW:=@List.mem_map
abbrev f9:=@decide_eq_false
abbrev gY:=@List.all_eq_true
abbrev dU:=@Nat.ne_of_lt
abbrev ji:=@List.getElem?_map
abbrev gC:=@List.mem_range
abbrev nQ:=@List.getElem?_append_left
abbrev iu:=@List.map_append
abbrev jH:=@List.mem_cons_self
abbrev oU:=@List.getElem?_eq_none_iff
abbrev pF:=@List.getElem?_append_right
abbrev jk:=@List.mem_filter
abbrev kI:=@decide_eq_true_eq
abbrev gD:=@Nat.ne_of_gt
abbrev k_:=@Nat.lt_succ_of_lt
abbrev nR:=@List.mem_append_left
abbrev oV:=@List.mem_append_right
abbrev uc:=@List.nodup_iff_pairwise_ne
abbrev jf:=@Nat.le_trans
abbrev xG:=@PyProof.Rows.slot_tuple_getitem
abbrev nG:=@List.length_range
abbrev ud:=@List.pairwise_iff_getElem
abbrev oW:=@List.mem_singleton
abbrev iM:=@PySem.wpAny_field
abbrev kJ:=@List.map_cons
abbrev vZ:=@Array.getElem?_eq_getElem
abbrev xH:=@PyProof.Rows.callWith_type1
abbrev oX:=@List.length_take
abbrev rC:=@List.mem_map_of_mem
abbrev sJ:=@List.getElem?_set_ne
abbrev v7:=@PySem.wpAny_callSpecial?_slot
abbrev v8:=@Option.bind_eq_some_iff
abbrev qu:=@List.pairwise_map
abbrev pG:=@List.getElem_mem
abbrev sO:=@List.filterMap_cons
abbrev jJ:=@Nat.zero_le
abbrev mj:=@PySem.wpAny_holding
abbrev v9:=@PySem.Heap.get?_update_other
abbrev qw:=@List.not_mem_nil
abbrev wg:=@PySem.Heap.get?_update_self
abbrev pH:=@List.length_set
abbrev oY:=@PySem.Heap.size_push
abbrev nU:=@Nat.lt_irrefl
abbrev rD:=@List.lookup_cons
abbrev sS:=@PySem.wpAny_newObj_type
abbrev rE:=@List.nodup_cons
abbrev sU:=@PySem.wpAny_call_entry
abbrev nW:=@List.map_map
abbrev zV:=@List.getElem?_set_self
abbrev sV:=@List.append_nil
abbrev uf:=@List.length_drop
abbrev ug:=@beq_self_eq_true
abbrev xJ:=@PySem.Obj.data_mapFields
abbrev xK:=@Bool.false_eq_true
abbrev zW:=@Array.length_toList
abbrev zX:=@PySem.Heap.SameBut.update
abbrev xM:=@PySem.wpAny_truthy_bool
abbrev xO:=@Int.toNat_natCast
abbrev uh:=@PySem.wpAny_seqItems
abbrev zY:=@List.mem_filterMap
abbrev zZ:=@PySem.wpAny_Call_Name_kw
abbrev z_:=@List.pairwise_cons
abbrev Fx:=@Int.eq_ofNat_of_zero_le
abbrev Hl:=@Array.getElem?_eq_some_iff
abbrev oZ:=@PySem.wpAny_mono
abbrev Aa:=@List.append_assoc
abbrev Ab:=@Int.emod_eq_of_lt
abbrev uo:=@Bool.true_and
abbrev xP:=@PySem.F.slot_zip_next
abbrev BX:=@PySem.wpAny_setField_rec
abbrev Ho:=@List.length_filterMap_le
abbrev Ac:=@Nat.lt_succ_self
abbrev Ad:=@List.take_length
abbrev Ae:=@List.filter_cons
abbrev Fy:=@List.mem_of_mem_take
abbrev Fz:=@List.mem_iff_getElem
abbrev FJ:=@List.pairwise_append
abbrev Hq:=@List.getElem?_cons_succ
abbrev QT:=@PyProof.Rows.F.plain_set_update_loop
abbrev Af:=@List.of_mem_zip
abbrev FN:=@PySem.mem_of_lookup
abbrev Hr:=@List.pairwise_lt_range
abbrev M8:=@PySem.F.slot_tuple_iterator_next
abbrev Hs:=@List.getElem?_eq_none
abbrev xQ:=@List.all_cons
abbrev uq:=@PySem.sizeLine_eq
abbrev Ht:=@PySem.Heap.get?_none_of_le
abbrev Hu:=@PySem.Around.under_plainId
abbrev BZ:=@PySem.wpAny_passesOwn
abbrev B_:=@List.length_nil
abbrev Cd:=@List.forIn_cons
abbrev FP:=@List.nodup_append
abbrev xR:=@Nat.le_of_lt
abbrev M9:=@List.getElem?_replicate
abbrev Hv:=@List.getElem_of_mem
abbrev M_:=@PySem.F.plainAttrs_list
abbrev FQ:=@List.mem_flatMap
abbrev Ce:=@List.nodup_nil
abbrev Nb:=@Array.getElem?_eq_none
abbrev pI:=@congrArg
abbrev Hw:=@PySem.wpAny_pyIter_tuple
abbrev pJ:=@or_false
abbrev Nf:=@List.length_replicate
abbrev Ng:=@PySem.Obj.isFreed_of_fields
abbrev Nh:=@List.filterMap_append
abbrev Ni:=@List.getElem?_toArray
abbrev FT:=@PySem.codeAny_builtin
abbrev Ag:=@PySem.F.called_set
abbrev Nj:=@List.pairwise_flatMap
abbrev Nk:=@List.length_filter_le
abbrev Cg:=@PySem.wpAny_attempt
abbrev Hx:=@PySem.wpAny_pyIter_list
abbrev QV:=@List.perm_ext_iff_of_nodup
abbrev Nm:=@List.mem_of_mem_drop
abbrev YL:=@Int.emod_eq_emod_iff_emod_sub_eq_zero
abbrev FW:=@Bool.false_and
abbrev FZ:=@List.forIn_nil
abbrev YM:=@PyProof.Rows.F.entry_set_update_loop
abbrev Np:=@PySem.F.plain_extend_loop
abbrev Nq:=@List.length_reverse
abbrev QW:=@Option.isSome_iff_exists
abbrev QX:=@PySem.F.args_tuple_add_2
abbrev xT:=@beq_iff_eq
abbrev QZ:=@PySem.AutoSeq1.wpAny_loadPart'
abbrev Q0:=@List.length_erase_of_mem
abbrev Cj:=@Nat.succ_mul
abbrev Cm:=@Nat.lt_or_ge
abbrev Nr:=@Bool.false_ne_true
abbrev Nt:=@PySem.Calls.spliced_cons
abbrev Nu:=@List.zip_cons_cons
abbrev Q5:=@PySem.F.entry_tuple_add
abbrev sW:=@if_false
abbrev Hy:=@Bool.or_eq_true
abbrev Nv:=@Nat.lt_of_le_of_lt
abbrev Hz:=@List.range_succ
abbrev Ga:=@List.sum_cons
abbrev Ny:=@of_decide_eq_false
abbrev YQ:=@List.take_succ_eq_append_getElem
abbrev Q6:=@PySem.W.cellsFrom_some
abbrev Q7:=@PySem.F.slot_tuple_add
abbrev Q8:=@List.range_succ_eq_map
abbrev Nz:=@PySem.Calls.spliced_nil
abbrev NK:=@PySem.Heap.get?_push_ne
abbrev NP:=@PySem.F.args_zip_next_1
abbrev NQ:=@List.reverse_cons
abbrev HB:=@PySem.wpAny_setField
abbrev HD:=@List.take_succ
abbrev Q9:=@PySem.wpAny_isTrue_Compare1
abbrev Q_:=@Nat.le_of_ble_eq_true
abbrev Ra:=@List.take_append_drop
abbrev NT:=@Nat.le_of_not_lt
abbrev NZ:=@PySem.F.entry_zip_next
abbrev N5:=@Nat.zero_lt_succ
abbrev N6:=@decide_eq_decide
abbrev Rb:=@PySem.wpAny_updateSeq_pair
abbrev Rf:=@List.mem_erase_of_ne
abbrev Rg:=@Nat.mul_le_mul_right
abbrev HF:=@List.map_take
abbrev N8:=@PySem.wpAny_execs_nil
abbrev N_:=@Nat.min_le_left
abbrev Oa:=@Nat.not_lt_zero
abbrev Rh:=@List.getElem?_range
abbrev Ob:=@PySem.wpAny_updateSeq
abbrev Ri:=@List.flatMap_append
abbrev Oc:=@Int.emod_nonneg
abbrev HJ:=@PySem.wpAny_typeOf
abbrev HN:=@PySem.codeAny_mono
abbrev HS:=@List.all_map
abbrev Rj:=@Int.sub_emod_right
abbrev Rm:=@Int.emod_lt_of_pos
abbrev Rn:=@List.filter_append
abbrev Ro:=@Bool.eq_false_iff
abbrev Gb:=@PySem.wpAny_rule
abbrev Rq:=@List.getElem?_inj
abbrev Rr:=@List.all_eq_false
abbrev Od:=@List.map_drop
abbrev HW:=@Nat.not_lt
namespace L2
open PySem PySem.Spec PyProof.Rows PySem.W
noncomputable def subIn(K:W.Frag)(C D:Addr):Bool:=PySem.W.ktsIn K C "BaseException"&&PySem.W.ktsIn K D "BaseException"&&match K.lookup C with
 |some ⟨_,_,.cls cd,_⟩=>cd.mro.contains (.ref D)|_=>false
noncomputable def HX:List Value:=[.type "ValueError",.type "Exception",.type "BaseException",.type "object"]
noncomputable def ur:List Value->Bool
 |.ref _::r=>ur r|l=>l==HX
noncomputable def YS:Value->Option String
 |.type n=>some n|_=>none
noncomputable def HY:Value->Option Addr
 |.ref a=>some a|_=>none
noncomputable def xU:Value->Option String
 |.builtin n=>some n|_=>none
noncomputable def YT:Data->Option ClassData
 |.cls cd=>some cd|_=>none
noncomputable def YW:List Value->Option (Value×List Value)
 |[]=>none|v::r=>some (v,r)
noncomputable def mq(K:Frag)(C:Addr)(bmB:List Value)(newId:String)(ini:Option Value):Bool:=(K.lookup C).any λo=>YS o.cls==some "type"&&(YT o.data).any λcd=>(YW cd.mro).any λp=>
 HY p.1==some C&&o.slots.size==6&&(o.slots[4]?.join).bind xU==some newId && !cd.hasDel&&tailIn K bmB p.2&&nsOkIn K cd.ns&&nsIn K cd.ns "__init__"==some ini
noncomputable def uw(K:Frag)(C fI:Addr):Bool:=mq K C HX "ValueError.__new__" (some (.ref fI))
noncomputable def bC(s:Stmt):Arguments:=match s with
 |.FunctionDef _ a _ _ _ _ _ _ _ _=>a|_=>{posonlyargs:=[],args:=[],vararg:=none,kwonlyargs:=[],kw_defaults:=[],kwarg:=none,defaults:=[]}
noncomputable def aV(s:Stmt):List Stmt:=match s with
 |.FunctionDef _ _ b _ _ _ _ _ _ _=>b|_=>[]
noncomputable def aA(s:Stmt):Scope:=match s with
 |.FunctionDef _ _ _ _ _ _ sc _ _ _=>sc|_=>{kind:=.function,names:=[],isGenerator:=false,isCoroutine:=false}
end L2
namespace Mi
open PySem PySem.Spec PyProof.Rows L2 PySem.W
noncomputable def o_(n c:Nat):Nat:=if c<n then c else 0
noncomputable def jQ(n c e:Nat):Bool:=o_ n e==0||o_ n c==o_ n e
noncomputable def eU(L:List Addr)(c:Nat):Addr:=L.getD (o_ L.length c) 0
noncomputable def Oe(K:W.Frag)(C:Addr):Bool:=
 PySem.W.findIn K (.ref C) "__getattribute__"==some (some (.builtin "BaseException.__getattribute__"))&&PySem.W.findIn K (.ref C) "__getattr__"==some none&&PySem.W.findIn K (.ref C) "__class__"==some (some (.builtin "object.__class__")) &&
 PySem.W.mroIn K C (.type "BaseException")==some true&&PySem.W.mroIn K C (.type "object")==some true&&(PySem.W.clsIn K C).isSome &&
 PySem.W.specialIn K (.builtin "object.__class__") "__get__"==some (some (.builtin "getset_descriptor.__get__"))&&PySem.W.takesIn K (.builtin "object.__class__")==some true
noncomputable def qx(K:W.Frag)(L:List Addr):Bool:=(List.range L.length).all λc=>Oe K (L.getD c 0)&&PySem.W.kitOne K (.ref (L.getD c 0)) (.type "ValueError")==some true &&
 (List.range L.length).all λe=>PySem.W.kitOne K (.ref (L.getD c 0)) (.ref (L.getD e 0))==some (jQ L.length c e)
noncomputable def subB(K:W.Frag)(L:List Addr)(d:Nat):Bool:=(List.range L.length).all λc=>!(jQ L.length c d)||L2.subIn K (L.getD c 0) (eU L d)
noncomputable def sX(fd:FuncData):FuncData:={fd with kwdefaults:=.none,doc:=.none,pyModule:=.none,annotations:=none,code:=.none,closureTuple:=.none}
noncomputable def wj(x:Str)(st:Stmt):FuncData:=fnOf x x (bC st) (aV st) (aA st) .none .none .none .none none .none .none
noncomputable def Cp(K:Frag)(x:Str):Option (Addr×FuncData):=match nsIn K mainGlobals x with
 |some (some (.ref f))=>(match K.lookup f with
  |some ⟨_,_,.func fd,_⟩=>(match codeIn K fd.code x&&keepIn K (.ref f) with
   |true=>some (f,fd)|false=>none)
  |_=>none)
 |_=>none
noncomputable def Cq(K:Frag)(x:Str):Addr:=match nsIn K mainGlobals x with
 |some (some (.ref C))=>C|_=>0
noncomputable def xV(K:Frag)(x:Str):Bool:=match nsIn K mainGlobals x with
 |some (some (.ref _))=>true|_=>false
noncomputable def mz(K:Frag)(p:Str×Int):Bool:=match nsIn K mainGlobals p.1 with
 |some (some (.int i _))=>decide (i=p.2)|_=>false
noncomputable def ux(K:Frag)(p:Str×Str):Bool:=match nsIn K mainGlobals p.1 with
 |some (some (.str x _))=>decide (x=p.2)|_=>false
noncomputable def qy(K:Frag)(x:Str):Bool:=match nsIn K mainGlobals x with
 |some none=>true|_=>false
noncomputable def H_(K:Frag)(C:Addr):Bool:=mq K C [.type "ValueError",.type "Exception",.type "BaseException",.type "object"] "ValueError.__new__" none
structure Lk where
 Ia:List Str
 Cr:List (Str×Int)
 YX:List Str
 YZ:List Nat
 Y0:List Nat
 Y4:List (Str×Str)
noncomputable def Lk.L(l:Lk)(K:Frag):List Addr:=l.Ia.map (Cq K)
noncomputable def Lk.good(l:Lk)(K:Frag):Bool:=
 l.Ia.all (xV K)&&(l.Ia.isEmpty||qx K (l.L K))&&l.YZ.all (λk=>H_ K (eU (l.L K) k))&&l.Y0.all (λk=>subB K (l.L K) k)&&l.Cr.all (mz K)&&l.YX.all (qy K)&&l.Y4.all (ux K)
noncomputable def qz(h:Heap):List Addr->Frag
 |[]=>[]|a::r=>match h.get? a with
  |some o=>(a,o)::qz h r|none=>qz h r
noncomputable def Cu(q:Str)(st:Stmt):FuncData:=fnOf "__init__" q (bC st) (aV st) (aA st) .none .none .none .none none .none .none
noncomputable def Ib(K:Frag)(C:Addr):Option FuncData:=match clsIn K C with
 |some cd=>(match nsIn K cd.ns "__init__" with
  |some (some (.ref f))=>(match K.lookup f with
   |some ⟨.type "function",_,.func fd,_⟩=>(match codeIn K fd.code fd.qualname&&uw K C f&&ur cd.mro&&cd.hasDict with
    |true=>some fd|false=>none)
   |_=>none)
  |_=>none)
 |none=>none
noncomputable def setB(K:Frag)(C:Addr)(fs:List Str):Bool:=findIn K (.ref C) "__setattr__"==some (some (.builtin "object.__setattr__"))&&fs.all (λf=>findIn K (.ref C) f==some none)
noncomputable def Og(K:Frag)(C:Addr)(f:Str):Bool:=findIn K (.ref C) "__getattribute__"==some (some (.builtin "BaseException.__getattribute__"))&&findIn K (.ref C) "__getattr__"==some none&&mroIn K C (.type "BaseException")==some true&&findIn K (.ref C) f==some none&&hasDictIn K C
structure xW where
 c:Nat
 q:Str
 st:Stmt
 fs:List Str
noncomputable def Ie:Nat->List Obj->Frag
 |_,[]=>[]|i,o::r=>match o.isFreed with
  |true=>Ie (i+1) r|false=>(i,o)::Ie (i+1) r
noncomputable def cB(h:Heap):Frag:=qz h [mainGlobals]++(Ie 0 h.objs.toList).reverse
noncomputable def rF(fs:List (Str×Stmt))(ms:List xW)(xs:List (Nat×Str))(l:Lk)(s:Shared):List (Option FuncData)×List (Option FuncData)×Bool:=
 (fs.map (λp=>(Cp (cB s.heap) p.1).map (λq=>sX q.2)),ms.map (λm=>(Ib (cB s.heap) (eU (l.L (cB s.heap)) m.c)).map sX),
  l.good (cB s.heap)&&ms.all (λm=>setB (cB s.heap) (eU (l.L (cB s.heap)) m.c) m.fs)&&xs.all (λx=>Og (cB s.heap) (eU (l.L (cB s.heap)) x.1) x.2))
noncomputable def uy(fs:List (Str×Stmt))(ms:List xW)(w:World):List (Option FuncData)×List (Option FuncData)×Bool:=(fs.map (λp=>some (wj p.1 p.2)),ms.map (λm=>some (Cu m.q m.st)),true)
noncomputable def Oh(fs:List (Str×Stmt))(s:Shared):List (Option FuncData):=fs.map (λp=>(Cp (cB s.heap) p.1).map (λq=>sX q.2))
noncomputable def Y5(ms:List xW)(xs:List (Nat×Str))(l:Lk)(s:Shared):List (Option FuncData)×Bool:=(ms.map (λm=>(Ib (cB s.heap) (eU (l.L (cB s.heap)) m.c)).map sX),
  l.good (cB s.heap)&&ms.all (λm=>setB (cB s.heap) (eU (l.L (cB s.heap)) m.c) m.fs)&&xs.all (λx=>Og (cB s.heap) (eU (l.L (cB s.heap)) x.1) x.2))
theorem ze8{p q:Program}{loose:List Str}{Xt:Shared->Bool}{N:Nat}{fs1 rG:List (Str×Stmt)}{ms:List xW}{xs:List (Nat×Str)}{l:Lk}
  (a:∀w,(openEnds treeTable p w N).map (λs=>openSeen q loose (importedModules p.main.body) Xt true s)=some (openGood q loose))
  (b1:∀w,(openEnds treeTable p w N).map (Oh fs1)=some (fs1.map λp=>some (wj p.1 p.2)))
  (b2:∀w,(openEnds treeTable p w N).map (Oh rG)=some (rG.map λp=>some (wj p.1 p.2)))
  (c:∀w,(openEnds treeTable p w N).map (Y5 ms xs l)=some (ms.map (λm=>some (Cu m.q m.st)),true)):LeftO p q loose Xt (rF (fs1++rG) ms xs l) (uy (fs1++rG) ms) N:=by
 intro w;let a:=a w;let b1:=b1 w;let b2:=b2 w;let c:=c w;cases e:openEnds treeTable p w N with
 |none=>rw[e]at a;cases a|some s=>
  rw[e]at a b1 b2 c;let a:openSeen q loose (importedModules p.main.body) Xt true s=openGood q loose:=dM a;let b1:=dM b1;let b2:=dM b2;let c:=dM c;let c1:=pI Prod.fst c;let c2:=pI Prod.snd c;change some (_,rF (fs1++rG) ms xs l s)=_;rw[a];let:rF (fs1++rG) ms xs l s=uy (fs1++rG) ms w:=by
   unfold rF uy;rw[iu,iu];let b1:List.map _ fs1=List.map _ fs1:=b1;let b2:List.map _ rG=List.map _ rG:=b2;rw[b1,b2];show Prod.ext rfl (Prod.ext c1 c2)
  rw[this]
end Mi
namespace gj
open PySem PySem.Spec PyProof.Rows PySem.W L2 Mi
noncomputable def top(i:Nat):Stmt:=PySem.Challenge.pw_ringhues_k26_full_rounds_by_anybody.main.body.getD i (.Pass ⟨0,0,0,0⟩)
noncomputable def fs1:List (Str×Stmt):=("is_whole",top 14)::("is_within",top 15)::("is_row",top 16)::("is_ring",top 19)::("is_spot",top 20)::("check_ring",top 21)::("gap_of",top 22)::("is_web",top 25)::("is_many",top 26)::("is_place",top 27)::("is_tie",top 28)::("check_web",top 29)::("tied_to",top 30)::("all_ends",top 31)::("are_spots",top 33)::("are_hues",top 34)::("check_hues",top 35)::("clash_of",top 36)::("full_holds",top 38)::("laps_of",top 39)::("full_nexts",top 40)::[]
noncomputable def rG:List (Str×Stmt):=("goes_round",top 41)::("next_pairs",top 42)::("_law_kind",top 44)::("_law_odd",top 45)::("_law_cell",top 46)::("_law_pen",top 47)::("_law_draw",top 48)::("_law_whole",top 49)::("_law_web",top 50)::("_law_apart",top 51)::("_law_fit_spots",top 52)::("_law_first",top 53)::("_law_tight",top 54)::("_law_few",top 55)::("_law_some_hues",top 56)::("_law_is_next",top 57)::("_law_rounds",top 58)::("_law_bent_row",top 59)::("_law_holds",top 60)::("_law_laps",top 61)::("_law_right",top 62)::("law",top 63)::[]
noncomputable abbrev fs:List (Str×Stmt):=fs1++rG
noncomputable def lk:Lk:=⟨["HueError","NoRing","NoHues","NoPlace","NoArrows","NoMap","NoPaper","Apart","NoRow","NoWeb","NoText","TooGreat"],[("MOST_SPOTS",24),("MOST_PLACES",8)],["ValueError","abs","all","bool","divmod","enumerate","int","isinstance","len","list","max","min","range","repr","set","sorted","sum","tuple","zip"],[6],[0],[]⟩
noncomputable def ms:List xW:=[]
noncomputable def xs:List (Nat×Str):=[]
noncomputable abbrev pv:Program:=PySem.Challenge.pw_ringhues_k26_full_rounds_by_anybody
noncomputable def qv:Program:={pv with main:={pv.main with body:=[pv.main.body.getD 63 (.Pass ⟨0,0,0,0⟩)]}}
noncomputable def loose:List Str:=(["HueError","NoRing","NoHues","NoPlace","NoArrows","NoMap","NoPaper","Apart","NoRow","NoWeb","NoText","TooGreat","is_whole","is_within","is_row","MOST_SPOTS","is_ring","is_spot","check_ring","gap_of","MOST_PLACES","is_web","is_many","is_place","is_tie","check_web","tied_to","all_ends","are_spots","are_hues","check_hues","clash_of","full_holds","laps_of","full_nexts","goes_round","next_pairs","_law_kind","_law_odd","_law_cell","_law_pen","_law_draw","_law_whole","_law_web","_law_apart","_law_fit_spots","_law_first","_law_tight","_law_few","_law_some_hues","_law_is_next","_law_rounds","_law_bent_row","_law_holds","_law_laps","_law_right"]:List String).map Str.ofString
theorem zmB(w:World):(openEnds treeTable pv w 20000).map (λs=>openSeen qv loose (importedModules pv.main.body) (λs=>xlAt qv [] s&&recOk [] s) true s)=some (openGood qv loose):=by
 kernel_rfl
theorem zlL(w:World):(openEnds treeTable pv w 20000).map (Oh fs1)=some (fs1.map λp=>some (wj p.1 p.2)):=by
 kernel_rfl
theorem znQ(w:World):(openEnds treeTable pv w 20000).map (Oh rG)=some (rG.map λp=>some (wj p.1 p.2)):=by
 kernel_rfl
theorem zmh(w:World):(openEnds treeTable pv w 20000).map (Y5 ms xs lk)=some (ms.map (λm=>some (Cu m.q m.st)),true):=by
 kernel_rfl
theorem ws:PySem.Challenge.rw_ringhues_k26_full_rounds_by_anybody.wellSaid=true:=by
 kernel_rfl
theorem wt:PySem.Challenge.rw_ringhues_k26_full_rounds_by_anybody.row.prog.tablesWhole=true:=by
 decide +kernel
theorem wc:(chainsOk qv&&opensWell PySem.Challenge.rw_ringhues_k26_full_rounds_by_anybody.row.prog&&(frees PySem.Challenge.rw_ringhues_k26_full_rounds_by_anybody.row.toRowW&&PySem.Challenge.rw_ringhues_k26_full_rounds_by_anybody.row.within.isEmpty))=true:=by
 decide +kernel
theorem left:LeftO pv qv loose (λs=>xlAt qv [] s&&recOk [] s) (rF fs ms xs lk) (uy fs ms) 20000:=ze8 zmB zlL znQ zmh
end gj
namespace L2
open PySem PySem.Spec PyProof.Rows
theorem gb{α:Sort u}{β:Sort v}{A B C:α->β->Prop}{P:Prop}(h:∃x y,A x y/\B x y/\C x y)(k:∀x y,A x y->B x y->C x y->P):P:=by
 let⟨x,y,a,b,c⟩:=h;show k x y a b c
theorem Oi{α:Sort u}{β:Sort v}{γ:Sort w}{A B:α->β->Prop}{C D:α->β->γ->Prop}{P:Prop}(h:∃x y,A x y/\B x y/\∃z,C x y z/\D x y z)(k:∀x y,A x y->B x y->∀z,C x y z->D x y z->P):P:=by
 let⟨x,y,a,b,z,c,d⟩:=h;show k x y a b z c d
theorem wk{α:Sort u}{A B:α->Prop}{P:Prop}(h:∃x,A x/\B x)(k:∀x,A x->B x->P):P:=by
 let⟨x,a,b⟩:=h;show k x a b
noncomputable abbrev Key:=Sum Int Str
noncomputable def jx:Key->Value->Bool
 |.inl k,v=>Value.isInt k v|.inr x,v=>Value.isStrOf x v
noncomputable def Rt(w:World):Key->Int
 |.inl k=>hashInt k|.inr x=>hashStr w x
theorem wu:∀{k:Key} {v:Value},jx k v=true->(∃i t,k=Sum.inl i/\v=Value.int i t)\/(∃x t,k=Sum.inr x/\v=Value.str x t)
 |.inl i,v,h=>by
  let⟨t,e⟩:=Value.isInt_shape (k:=i) (v:=v) h;show .inl ⟨i,t,rfl,e⟩
 |.inr x,v,h=>by
  let⟨t,e⟩:=Value.isStrOf_shape (x:=x) (v:=v) h;show .inr ⟨x,t,rfl,e⟩
theorem zfv(i:Int)(t:Tok):jx (.inl i) (.int i t)=true:=by simp[jx,Value.isInt]
theorem zhb(x:Str)(t:Tok):jx (.inr x) (.str x t)=true:=by simp[jx,Value.isStrOf]
theorem zlu(a b:Int):decide ((Sum.inl a:Key)=Sum.inl b)=(a==b):=by
 by_cases e:a=b
 .subst e;simp
 .let h:¬(Sum.inl a:Key)=Sum.inl b:=λq=>e (Sum.inl.inj q);rw[f9 h];show(beq_eq_false_iff_ne.mpr e).symm
theorem zlF(a b:Str):decide ((Sum.inr a:Key)=Sum.inr b)=decide (a=b):=by
 by_cases e:a=b
 .subst e;simp
 .let h:¬(Sum.inr a:Key)=Sum.inr b:=λq=>e (Sum.inr.inj q);rw[f9 h,f9 e]
theorem znP(a:Int)(b:Str):decide ((Sum.inl a:Key)=Sum.inr b)=false:=f9 (λq=>nomatch q)
theorem zlA(a:Str)(b:Int):decide ((Sum.inr a:Key)=Sum.inl b)=false:=f9 (λq=>nomatch q)
noncomputable def cP(prog:Program)(w:World):PySem.KeyKind prog w Key where
 is:=jx
 hash:=Rt w
 inj:=λv a b ha hb=>by
  rcases wu ha with ⟨i,t,rfl,rfl⟩|⟨x,t,rfl,rfl⟩
  .rcases wu hb with ⟨j,u,rfl,e⟩|⟨y,u,rfl,e⟩
   .injection e with e1 _;rw[e1]
   .exact nomatch e
  .rcases wu hb with ⟨j,u,rfl,e⟩|⟨y,u,rfl,e⟩
   .exact nomatch e
   .injection e with e1 _;rw[e1]
 byValue:=λk v h=>by
  rcases wu h with ⟨i,t,rfl,rfl⟩|⟨x,t,rfl,rfl⟩<;>rfl
 pyHash:=λhv h=>by
  rcases wu hv with ⟨i,t,rfl,rfl⟩|⟨x,t,rfl,rfl⟩
  .exact wpAny_pyHash_int h
  .exact wpAny_pyHash_str h
 eqBool:=λhu hv h=>by
  rcases wu hu with ⟨i,t,rfl,rfl⟩|⟨x,t,rfl,rfl⟩
  .rcases wu hv with ⟨j,u,rfl,rfl⟩|⟨y,u,rfl,rfl⟩
   .rw[zlu]at h;show wpAny_eqBool_int h
   .rw[znP]at h;show SeqAt.EqAt.int_str i t y u _ _ _ _ h
  .rcases wu hv with ⟨j,u,rfl,rfl⟩|⟨y,u,rfl,rfl⟩
   .rw[zlA]at h;show SeqAt.EqAt.str_int x t j u _ _ _ _ h
   .rw[zlF]at h;show wpAny_eqBool_str h
 «strs»:=λk x t v h=>by
  rcases wu h with ⟨i,u,rfl,e⟩|⟨y,u,rfl,e⟩
  .exact nomatch e
  .injection e with e1 _;subst e1;cases v<;>rfl
theorem zdH(prog:Program)(w:World)(i:Int)(t:Tok):(cP prog w).is (.inl i) (.int i t)=true:=zfv i t
theorem zdI(prog:Program)(w:World)(x:Str)(t:Tok):(cP prog w).is (.inr x) (.str x t)=true:=zhb x t
inductive V where
 |non|bl (b:Bool)|int (i:Int)|str (x:Str)|Oj (b:Array UInt8)|flt (b:UInt64)|ref (a:Addr)|ty (n:String)
 deriving DecidableEq
noncomputable def RelV:V->Value->Prop
 |.non,u=>u=Value.none|.bl b,u=>u=Value.bool b|.int i,u=>∃t,u=Value.int i t|.str x,u=>∃t,u=Value.str x t|.Oj b,u=>∃t,u=Value.bytes b t|.flt b,u=>∃t,u=Value.float b t|.ref a,u=>u=Value.ref a|.ty n,u=>u=Value.type n
noncomputable abbrev Vals:List V->List Value->Prop:=Paired RelV
theorem Vals.length{xs:List V}{us:List Value}(r:Vals xs us):xs.length=us.length:=Paired.length r
theorem Vals.get:∀{xs:List V} {us:List Value} {i:Nat} {x:V},Vals xs us->xs[i]?=some x->∃u,us[i]?=some u/\RelV x u
 |_,_,_,_,.nil,e=>by simp at e|_,_,0,_,.cons r _,e=>by simp at e;subst e;show⟨_,rfl,r⟩|_,_,i+1,x,.cons _ t,e=>by
  let⟨u,h1,h2⟩:=Vals.get (i:=i) (x:=x) t (by simpa using e);show⟨u,by simpa using h1,h2⟩
theorem Vals.set{x:V}{u:Value}(r:RelV x u):∀{xs:List V} {us:List Value} (i:Nat),Vals xs us->Vals (xs.set i x) (us.set i u)
 |_,_,_,.nil=>.nil|_,_,0,.cons _ t=>.cons r t|_,_,i+1,.cons q t=>.cons q (Vals.set r i t)
theorem Vals.append{xs ys:List V}{us ws:List Value}(h:Vals xs us)(s:Vals ys ws):Vals (xs++ys) (us++ws):=by
 induction h with
 |nil=>show s|cons r _ ih=>show .cons r ih
theorem Vals.take:∀{xs:List V} {us:List Value} (n:Nat),Vals xs us->Vals (xs.take n) (us.take n)
 |_,_,0,_=>.nil|_,_,_+1,.nil=>.nil|_,_,n+1,.cons r t=>.cons r (Vals.take n t)
theorem Vals.drop:∀{xs:List V} {us:List Value} (n:Nat),Vals xs us->Vals (xs.drop n) (us.drop n)
 |_,_,0,r=>r|_,_,_+1,.nil=>.nil|_,_,n+1,.cons _ t=>Vals.drop n t
noncomputable def Ig:Option V->Option Value->Prop
 |some v,some u=>RelV v u|none,none=>True|_,_=>False
noncomputable def KV{κ:Type}:List (κ×V)->List (κ×Value)->Prop:=Paired λ(p:κ×V) (q:κ×Value)=>p.1=q.1/\RelV p.2 q.2
noncomputable def kV:Key->V
 |.inl i=>.int i|.inr x=>.str x
inductive HO where
 |lst (xs:List V)
 |tup (xs:List V)
 |dK (kvs:List (Key×V))|dT (kvs:List (List Key×V))
 |set (S:Int->Bool) (n:Nat)
 |ins (C dx:Addr) (fs:List (Str×V))
 |own (x:Addr)
 |xd (fs:List (Str×V))
 |met (f x:Addr)
 |rng (lo hi:Int)
 |uz (o:Obj) (u:HO)
 |Ah (ps:Array Value)
 |ext (U:Heap->Prop)
noncomputable abbrev Hp:=Addr->Option HO
noncomputable def upd(H:Hp)(a:Addr)(o:HO):Hp:=λb=>if b=a then some o else H b
theorem jK{H:Hp}{a:Addr}{o:HO}:upd H a o a=some o:=by unfold upd;rw[if_pos rfl]
theorem dJ{H:Hp}{a b:Addr}{o:HO}(h:b≠a):upd H a o b=H b:=by unfold upd;rw[if_neg h]
theorem Y6{H:Hp}{a:Addr}{o u:HO}:upd (upd H a o) a u=upd H a u:=by
 funext b;unfold upd;split<;>rfl
theorem Gd{H:Hp}{a b:Addr}{o:HO}(h:H a=some o)(h':H b=none):a≠b:=by
 intro e;subst e;rw[h]at h';cases h'
def jR(h:Heap)(a:Addr)(items:Array Value):Prop:=∃o,h.get? a=some o/\o.cls=.type "tuple"/\∃n,o.data=.seq items n/\o.dict=none
theorem jR.tup{h:Heap}{a:Addr}{items:Array Value}(x:jR h a items):IsTup h a items:=by
 let⟨o,h1,h2,n,h3,_⟩:=x;show⟨o,h1,h2,n,h3⟩
theorem jR.lt{h:Heap}{a:Addr}{items:Array Value}(x:jR h a items):a<h.objs.size:=x.tup.lt
theorem jR.new(h:Heap)(xs:Array Value):jR (h.push {cls:=.type "tuple",data:=.seq xs}) h.objs.size xs:=⟨_,gK h rfl,rfl,_,rfl,rfl⟩
section
variable (P:Program)(w:World)
noncomputable def aU(H:Hp)(h:Heap)(a:Addr):HO->Prop
 |.lst xs=>xs.length<=sizeLine/\∃(its:List Value) (n:Nat),Vals xs its/\h.get? a=some {cls:=.type "list",data:=.seq its.toArray n}|.tup xs=>xs.length<=sizeLine/\∃its:List Value,Vals xs its/\jR h a its.toArray|.dK kvs=>kvs.length<=sizeLine/\(a==sysModules)=false/\∃vs,KV kvs vs/\h.DictOf (cP P w) a vs|.dT kvs=>kvs.length<=sizeLine/\(a==sysModules)=false/\∃xs:List (List Key×Addr×Value),
   Paired (λ(p:List Key×V) (q:List Key×Addr×Value)=>p.1=q.1/\H q.2.1=some (.tup (p.1.map kV))/\RelV p.2 q.2.2) kvs xs /\
   ∃o es ep,h.get? a=some o/\o.ExactDict/\o.data=.dict es ep/\es.toList=xs.map (entryOfKey (tupleKind (cP P w)))/\(xs.map (·.1)).Nodup
 |.set S n=>h.SetOf (intKind P w) a S n|.ins C dx fs=>H dx=some (.own a)/\fs.length<=1000/\dx≠a/\h.get? a=some (PySem.W.instObj C dx) /\
   ∃mA,h.Ns1 dx mA/\(∀f,Ig (fs.lookup f) (mA f))/\PySem.Within mA (fs.map (·.1))
 |.own _=>∃o,h.get? a=some o|.xd fs=>∃mA,h.Ns1 a mA/\∀f,Ig (fs.lookup f) (mA f)|.rng lo hi=>∃t u v,h.get? a=some {cls:=.type "range",data:=.fields #[.int lo t,.int hi u,.int 1 v]}|.uz o u=>h.get? a=some o/\aU H h a u|.Ah ps=>h.get? a=some {cls:=.none,data:=.fields ps}|.met f x=>h.get? a=some (PySem.W.methodObj (.ref f) (.ref x))|.ext U=>U h/\(∃o,h.get? a=some o)/\∀h1 h2:Heap,U h1->(∀o,h1.get? a=some o->h2.get? a=some o)->U h2
def iI(H:Hp)(h:Heap):Prop:=∀a o,H a=some o->aU P w H h a o
end
section
variable {P:Program}{w:World}{H H':Hp}{h h':Heap}{a:Addr}{o:HO}
theorem aU.lt(x:aU P w H h a o):a<h.objs.size:=by
 cases o with
 |lst xs=>let⟨_,_,_,_,e⟩:=x;show bL e|tup xs=>let⟨_,_,_,p⟩:=x;show p.lt|dK kvs=>let⟨_,_,_,_,o,_,_,e,_⟩:=x;show bL e|dT kvs=>let⟨_,_,_,_,o,_,_,e,_⟩:=x;show bL e|set S n=>let⟨o,_,_,_,e,_⟩:=x;show bL e|ins C dx fs=>let⟨_,_,_,e,_⟩:=x;show bL e|own y=>let⟨_,e⟩:=x;show bL e|xd fs=>let⟨_,⟨_,_,_,e,_⟩,_⟩:=x;show bL e|rng lo hi=>let⟨_,_,_,e⟩:=x;show bL e|uz ob u=>let⟨e,_⟩:=x;show bL e|Ah ps=>show bL (show h.get? a=some _ from x)|met f y=>show bL (show h.get? a=some _ from x)|ext U=>let⟨_,⟨_,e⟩,_⟩:=x;show bL e
theorem Y7{α β:Type}{F G:α->β->Prop}:∀{l₁:List α} {l₂:List β},Paired F l₁ l₂->(∀a b,F a b->G a b)->Paired G l₁ l₂
 |_,_,.nil,_=>.nil|_,_,.cons r t,f=>.cons (f _ _ r) (Y7 t f)
theorem aU.stay(x:aU P w H h a o)(k:∀b u,(b=a\/H b=some (.own a))->h.get? b=some u->h'.get? b=some u)
  (ho:∀b,H b=some (.own a)->H' b=some (.own a)) (ht:∀b xs,H b=some (.tup xs)->H' b=some (.tup xs)):aU P w H' h' a o:=by
 induction o with
 |lst xs=>let⟨z,its,n,r,e⟩:=x;show⟨z,its,n,r,k _ _ (.inl rfl) e⟩|tup xs=>let⟨z,its,r,ob,e,c⟩:=x;show⟨z,its,r,ob,k _ _ (.inl rfl) e,c⟩|dK kvs=>let⟨z,y,vs,r,ob,es,ep,e,c⟩:=x;show⟨z,y,vs,r,ob,es,ep,k _ _ (.inl rfl) e,c⟩|dT kvs=>
  let⟨z,y,xs,r,ob,es,ep,e,c⟩:=x;show⟨z,y,xs,Y7 r λp q z=>⟨z.1,ht _ _ z.2.1,z.2.2⟩,ob,es,ep,k _ _ (.inl rfl) e,c⟩
 |set S n=>let⟨ob,es,ep,t,e,c⟩:=x;show⟨ob,es,ep,t,k _ _ (.inl rfl) e,c⟩|ins C dx fs=>
  let⟨d,z,ne,e,mA,⟨od,es,ep,e2,c⟩,r⟩:=x;show⟨ho _ d,z,ne,k _ _ (.inl rfl) e,mA,⟨od,es,ep,k _ _ (.inr d) e2,c⟩,r⟩
 |own y=>let⟨ob,e⟩:=x;show⟨ob,k _ _ (.inl rfl) e⟩|xd fs=>let⟨mA,⟨od,es,ep,e,c⟩,r⟩:=x;show⟨mA,⟨od,es,ep,k _ _ (.inl rfl) e,c⟩,r⟩|rng lo hi=>let⟨t,u,v,e⟩:=x;show⟨t,u,v,k _ _ (.inl rfl) e⟩|uz ob u ih=>let⟨e,q⟩:=x;show⟨k _ _ (.inl rfl) e,ih q⟩|Ah ps=>
  let e:h.get? a=some {cls:=.none,data:=.fields ps}:=x;change h'.get? a=some {cls:=.none,data:=.fields ps};show k a _ (.inl rfl) e
 |met f y=>
  let e:h.get? a=some (PySem.W.methodObj (.ref f) (.ref y)):=x;change h'.get? a=some (PySem.W.methodObj (.ref f) (.ref y));show k a _ (.inl rfl) e
 |ext U=>let⟨p,⟨o,e⟩,st⟩:=x;show⟨st _ _ p λo q=>k _ _ (.inl rfl) q,⟨o,k _ _ (.inl rfl) e⟩,st⟩
theorem iI.lt(x:iI P w H h)(e:H a=some o):a<h.objs.size:=(x a o e).lt
theorem iI.fresh(x:iI P w H h)(e:h.objs.size<=a):H a=none:=by
 cases q:H a with
 |none=>rfl|some u=>show absurd (dF (x.lt q) e) (nU _)
theorem iI.kept(x:iI P w H h)(k:∀b u,h.get? b=some u->h'.get? b=some u):iI P w H h':=λa o e=>
 (x a o e).stay (λb u _ q=>k b u q) (λ_ q=>q) λ_ _ q=>q
theorem iI.laid(x:iI P w H h)(k:∀b u,h.get? b=some u->h'.get? b=some u)(hp:h.objs.size<=a)(new:aU P w (upd H a o) h' a o):iI P w (upd H a o) h':=λb u e=>by
 let hn:=x.fresh hp;by_cases hb:b=a
 .subst hb;rw[jK]at e;cases e;show new
 .rw[dJ hb]at e;show(x b u e).stay (λc v _ q=>k c v q) (λc q=>by rw[dJ (Gd q hn)];show q) λc xs q=>by rw[dJ (Gd q hn)];show q
end
def Rd(H:Hp)(a:Addr)(u:HO):Prop:=H a=some u\/∃o,H a=some (.uz o u)
theorem Rd.ok{P:Program}{w:World}{H:Hp}{h:Heap}{a:Addr}{u:HO}(r:Rd H a u)(x:iI P w H h):aU P w H h a u:=by
 rcases r with r|⟨o,r⟩
 .exact x a u r
 .obtain⟨_,q⟩:=x a _ r;show q
noncomputable def Ih:Option HO->Prop
 |some (.lst _)=>True|some (.dK _)=>True|some (.dT _)=>True|some (.set _ _)=>True|some (.ins _ _ _)=>True|some (.ext _)=>True|_=>False
section
variable {P:Program}{w:World}{H:Hp}{h h':Heap}{x e:Addr}{o':HO}
theorem iI.write(ok:iI P w H h)(mu:Ih (H x))(he:e=x\/H e=some (.own x))(k:∀b u,b≠e->h.get? b=some u->h'.get? b=some u)(Gf:∃u,h'.get? e=some u)
  (new:aU P w (upd H x o') h' x o'):iI P w (upd H x o') h':=λb u q=>by
 let Ii:∀c y,H c=some (.own y)->c≠x:=λc y r z=>by subst z;rw[r]at mu;show mu
 let Ru:∀c xs,H c=some (.tup xs)->c≠x:=λc xs r z=>by subst z;rw[r]at mu;show mu
 by_cases hb:b=x
 .subst hb;rw[jK]at q;cases q;show new
 .rw[dJ hb]at q;by_cases Cv:b=e
  .let q':H b=some (.own x):=by
    rcases he with z|z
    .exact absurd (Cv.trans z) hb
    .rw[Cv];show z
   rw[q]at q';cases q';let⟨v,hv⟩:=Gf;show⟨v,by rw[Cv];show hv⟩
  .refine(ok b u q).stay (λc v hc r=>k c v ?_ r) (λc r=>by rw[dJ (Ii c b r)];show r) λc xs r=>by rw[dJ (Ru c xs r)];show r
   rcases hc with rfl|hc
   .exact Cv
   .rintro rfl;rcases he with z|z
    .exact Ii c b hc z
    .rw[hc]at z;cases z;show hb rfl
end
structure Un(fs ex:List Addr)(H H':Hp)(h h':Heap):Prop where
 keep:∀b o,h.get? b=some o->H b=none->b∉fs->b∉ex->h'.get? b=some o
 slot:∀b o,h.get? b=some o->H b=none->b∈fs->b∉ex->∃sl,h'.get? b=some {o with slots:=sl}
 free:∀b o,h.get? b=some o->H b=none->b∉ex->H' b=none
 there:∀b o,h.get? b=some o->b∉ex->∃o',h'.get? b=some o'
 tups:∀b xs,H b=some (.tup xs)->H' b=some (.tup xs)
 jD:∀b o u,H b=some (.uz o u)->H' b=some (.uz o u)
 jT:∀b ps,H b=some (.Ah ps)->∃more,H' b=some (.Ah (ps++more))
section
variable {fs fs' ex ex':List Addr}{H H1 H2:Hp}{h h1 h2 h':Heap}{a x e:Addr}{o:HO}
theorem Un.any(u:Un fs ex H H1 h h1){b:Addr}{ob:Obj}(q:h.get? b=some ob)(n:H b=none)(hx:b∉ex):∃sl,h1.get? b=some {ob with slots:=sl}:=by
 by_cases hb:b∈fs
 .exact u.slot b ob q n hb hx
 .exact⟨ob.slots,u.keep b ob q n hb hx⟩
theorem Un.kept(k:∀b u,h.get? b=some u->h'.get? b=some u):Un fs ex H H h h':=
 ⟨λb ob q _ _ _=>k b ob q,λb ob q _ _ _=>⟨ob.slots,k b ob q⟩,λ_ _ _ n _=>n,λb ob q _=>⟨ob,k b ob q⟩,λ_ _ q=>q,λ_ _ _ q=>q,λ_ ps q=>⟨#[],by rw[q];simp⟩⟩
theorem Un.refl:Un fs ex H H h h:=Un.kept λ_ _ q=>q
theorem Un.laid(k:∀b u,h.get? b=some u->h'.get? b=some u)(hp:h.objs.size<=a)(hn:H a=none):Un fs ex H (upd H a o) h h' where
 keep:=λb u q _ _ _=>k b u q
 slot:=λb u q _ _ _=>⟨u.slots,k b u q⟩
 free:=λb u q n _=>by rw[dJ (dU (dF (bL q) hp))];show n
 there:=λb u q _=>⟨u,k b u q⟩
 tups:=λb xs q=>by rw[dJ (Gd q hn)];show q
 jD:=λb u xs q=>by rw[dJ (Gd q hn)];show q
 jT:=λb ps q=>⟨#[],by rw[dJ (Gd q hn),q];simp⟩
theorem Un.write(mu:Ih (H x))(he:e=x\/H e=some (.own x))(k:∀b u,b≠e->h.get? b=some u->h'.get? b=some u)(Gf:∃u,h'.get? e=some u):Un fs ex H (upd H x o) h h':=by
 let hx:∀b,H b=none->b≠x:=λb n z=>by subst z;rw[n]at mu;show mu
 let hb:∀b,H b=none->b≠e:=λb n z=>by
  subst z;rcases he with r|r
  .exact hx b n r
  .rw[n]at r;cases r
 let hm:∀b u,H b=some u->¬Ih (some u)->b≠x:=λb u q nm z=>by subst z;rw[q]at mu;show nm mu
 show⟨λb u q n _ _=>k b u (hb b n) q,λb u q n _ _=>⟨u.slots,k b u (hb b n) q⟩,λb u q n _=>by rw[dJ (hx b n)];show n,λb u q _=>?_,
  λb xs q=>by rw[dJ (hm b _ q λz=>z)];show q,λb u xs q=>by rw[dJ (hm b _ q λz=>z)];show q,λb ps q=>⟨#[],by rw[dJ (hm b _ q λz=>z),q];simp⟩⟩
 by_cases Cv:b=e
 .subst Cv;show Gf
 .exact⟨u,k b u Cv q⟩
end
noncomputable def Ol(h:Heap)(H:Hp):List Addr:=(List.range h.objs.size).filter λa=>(H a).isSome
noncomputable def mC(h:Heap)(H:Hp):Heap:=PySem.W.hideAll h (Ol h H)
theorem zfO(h:Heap)(H:Hp):(mC h H).objs.size=h.objs.size:=PySem.W.hideAll_size _ _
theorem ziD{h:Heap}{H:Hp}{b:Addr}{o:Obj}(e:h.get? b=some o)(n:H b=none):(mC h H).get? b=some o:=
 PySem.W.hideAll_get _ e λhm=>by
  let q:(H b).isSome=true:=(jk.mp hm).2;rw[n]at q;simp at q
theorem zk4{h:Heap}{H:Hp}{b:Addr}{o:Obj}(e:(mC h H).get? b=some o):h.get? b=some o/\H b=none:=by
 let e':h.get? b=some o:=PySem.W.of_hideAll (Ol h H) e;show⟨e',?_⟩;cases q:H b with
 |none=>rfl|some x=>
  let hm:b∈Ol h H:=jk.mpr ⟨gC.mpr (bL e'),by simp[q]⟩;let z:(mC h H).get? b=none:=PySem.W.hideAll_none (Ol h H) hm;rw[z]at e;cases e
structure Mod(K:W.Frag)(mg:Str->Option Value)(base:Heap):Prop where
 Cr:K.In base
 glob:base.Ns mainGlobals mg
 blt:∃mb,base.Ns builtinsNs mb/\∀x:Str,x≠"__name__"->mb x=bootBuiltins x
 nolimit:base.NoLimit
structure Cx where
 prog:Program
 w:World
 K:W.Frag
 mg:Str->Option Value
 base:Heap
 A:Around
 N:List Str
 s₀:Shared
 H₀:Hp
 env:Env
 outer:List Env
 stack:List Env
 ex:List Addr
 fn:Str->Bool
 aj:Bool
 pn:List (Addr×Obj)
 xe:Value->Shared->Prop
noncomputable def frs(l:List Env):List Addr:=l.filterMap (·.frame)
noncomputable abbrev Cx.fs(X:Cx):List Addr:=frs X.outer
def Rw(sc:Scope)(x:Str):Prop:=sc.names.lookup x=some .local\/sc.names.lookup x=some .cell\/sc.names.lookup x=some .free
def Loc(sc:Scope)(x:Str):Prop:=sc.names.lookup x=some .local\/sc.names.lookup x=some .cell
def Look(env:Env)(h:Heap)(m:Str->Option Value)(x:Str)(u:Value):Prop:=
 (env.kindOf x=some .local/\m x=some u)\/((env.kindOf x=some .cell\/env.kindOf x=some .free)/\∃c,env.cells.lookup x=some c/\h.IsCell c (some u))
structure Cx.Ok(X:Cx):Prop where
 mod:Mod X.K X.mg X.base
 kind:X.env.scope.kind=.function
 glob:X.env.globals=mainGlobals
 blt:X.env.builtins=builtinsNs
 above:X.s₀.heap.objs.size<=X.env.locals
 inj:∀x y c,X.env.cells.lookup x=some c->X.env.cells.lookup y=some c->x=y
 has:∀x,(X.env.kindOf x=some .cell\/X.env.kindOf x=some .free)->∃c,X.env.cells.lookup x=some c
 cab:∀x c,X.fn x=true->X.env.cells.lookup x=some c->X.s₀.heap.objs.size<=c
 hd:X.aj=true->X.A.handled=none
 frames:X.A.frames=some X.stack
 stk:X.stack=X.outer\/(X.stack=X.env::X.outer/\X.env.frame=some X.env.locals)
 Y8:∀b∈X.ex,b≠X.env.locals/\∀x c,X.env.cells.lookup x=some c->c≠b
 bs:∀b o,X.base.get? b=some o->X.s₀.heap.get? b=some o/\X.H₀ b=none
 Ai:X.base.objs.size<=X.s₀.heap.objs.size
 uD:∀b o,X.base.get? b=some o->b∉X.ex
 xX:∀b∈X.ex,b∉X.fs
 jU:X.s₀.heap.FunFrames X.base X.outer
 Gg:∀b∈X.fs,X.H₀ b=none
structure Inv(X:Cx)(ak:List (Addr×Obj))(Z:List (Option V))(H:Hp)(s:Shared):Prop where
 ok:X.Ok
 os:s.os=X.s₀.os
 bare:AllBare s.gens
 base:Un X.fs X.ex X.H₀ H X.s₀.heap s.heap
 loc:∃m,s.heap.Ns X.env.locals m/\∀(i:Nat) (x:Str) (v:V),X.N[i]?=some x->Z[i]?=some (some v)->Rw X.env.scope x->∃u,RelV v u/\Look X.env s.heap m x u
 cell:∀x c,X.env.cells.lookup x=some c->∃v,s.heap.IsCell c v
 free:H X.env.locals=none
 fG:∀x c,X.env.cells.lookup x=some c->H c=none
 pin:∀p∈X.pn++ak,s.heap.get? p.1=some p.2/\H p.1=none/\p.1≠X.env.locals/\p.1∉X.fs/\∀v,p.2.data≠.cell v
 hok:iI X.prog X.w H s.heap
 len:Z.length=X.N.length
section
variable {X:Cx}{ak:List (Addr×Obj)}{Z:List (Option V)}{H H':Hp}{s:Shared}{h':Heap}
theorem Cx.Ok.Rx(ok:X.Ok){b:Addr}{o:Obj}(e:X.base.get? b=some o):b∉X.fs:=λhb=>by
 let:=(ok.jU.mem hb).1;rw[e]at this;cases this
theorem Inv.bs(I:Inv X ak Z H s):∀b o,X.base.get? b=some o->s.heap.get? b=some o/\H b=none:=λb o e=>
 ⟨I.base.keep b o (I.ok.bs b o e).1 (I.ok.bs b o e).2 (I.ok.Rx e) (I.ok.uD b o e),I.base.free b o (I.ok.bs b o e).1 (I.ok.bs b o e).2 (I.ok.uD b o e)⟩
theorem Inv.bk(I:Inv X ak Z H s):∀b o,X.base.get? b=some o->s.heap.get? b=some o:=λb o e=>(I.bs b o e).1
theorem Inv.mod(I:Inv X ak Z H s):Mod X.K X.mg X.base:=I.ok.mod
theorem Inv.xY(I:Inv X ak Z H s):X.K.In s.heap:=I.ok.mod.Cr.keeps I.bk
theorem Inv.lt(I:Inv X ak Z H s):X.env.locals<s.heap.objs.size:=let ⟨_,hn,_⟩:=I.loc;hn.lt
theorem Inv.sz(I:Inv X ak Z H s):X.s₀.heap.objs.size<=s.heap.objs.size:=jf I.ok.above (xR I.lt)
theorem Inv.Ry(I:Inv X ak Z H s){a:Addr}(h:s.heap.objs.size<=a):a∉X.fs:=λhb=>by
 let⟨_,o,ho,_⟩:=I.ok.jU.mem hb;show absurd (dF (bL ho) (jf I.sz h)) (nU _)
theorem Inv.xZ(I:Inv X ak Z H s):∀x c,X.env.cells.lookup x=some c->c≠X.env.locals:=λx c e z=>by
 let⟨v,o,ho,hd⟩:=I.cell x c e;let⟨m,⟨o',es,ep,uE,Ij,_⟩,_⟩:=I.loc;rw[z,uE]at ho;cases ho;rw[Ij]at hd;cases hd
theorem Inv.jU(I:Inv X ak Z H s):s.heap.FunFrames X.base X.outer:=by
 let all:∀(l:List Env),(∀b∈frs l,b∈X.fs)->X.s₀.heap.FunFrames X.base l->s.heap.FunFrames X.base l:=by
  intro l
  induction l with
  |nil=>intro _ _;trivial|cons env r ih=>
   intro hs hl;let⟨hk,⟨L,o,hf,hn,ho,hd⟩,hr⟩:=hl;let hL:L∈X.fs:=hs L (by unfold frs;rw[sO,hf];show jH);let⟨sl,e⟩:=I.base.slot L o ho (I.ok.Gg L hL) hL λz=>I.ok.xX L z hL;show⟨hk,⟨L,_,hf,hn,e,hd⟩,ih (λb hb=>hs b (by unfold frs;rw[sO,hf];show fZ _ hb)) hr⟩
 show all X.outer (λ_ hb=>hb) I.ok.jU
theorem Inv.stack(I:Inv X ak Z H s):s.heap.FunFrames X.base X.stack:=by
 rcases I.ok.stk with e|⟨e,hf⟩
 .rw[e];show I.jU
 .rw[e];let⟨m,hn,_⟩:=I.loc;show .cons (by rw[I.ok.kind];decide) hf hn ?_ I.jU;show Ht (jf I.ok.Ai I.ok.above)
theorem Inv.mD(I:Inv X ak Z H s):∀b∈frs X.stack,b∈X.env.locals::X.fs:=λb hb=>by
 rcases I.ok.stk with e|⟨e,hf⟩
 .rw[e]at hb;show fZ _ hb
 .rw[e]at hb;unfold frs at hb;rw[sO,hf]at hb;show hb
theorem Inv.jL(I:Inv X ak Z H s):∀b∈frs X.stack,H b=none:=λb hb=>by
 rcases cX.mp (I.mD b hb) with e|hb
 .rw[e];show I.free
 .obtain⟨_,o,ho,_⟩:=I.ok.jU.mem hb;show I.base.free b o ho (I.ok.Gg b hb) λz=>I.ok.xX b z hb
theorem Inv.step{g':Array GenState}{t':Nat}{d':Drawn}{ch:List Addr}(I:Inv X ak Z H s)
  (wz:∀b∈ch,(b∈X.ex\/X.s₀.heap.get? b=none)/\b≠X.env.locals/\(∀x c,X.env.cells.lookup x=some c->c≠b)/\∀p∈X.pn++ak,p.1≠b)
  (keep:∀b o,b≠X.env.locals->b∉X.fs->b∉ch->s.heap.get? b=some o->H b=none->h'.get? b=some o)
  (slot:∀b o,b≠X.env.locals->b∈X.fs->b∉ch->s.heap.get? b=some o->H b=none->∃sl,h'.get? b=some {o with slots:=sl}) (free:∀b o,b∉ch->s.heap.get? b=some o->H b=none->H' b=none)
  (there:∀b o,b∉ch->s.heap.get? b=some o->∃o',h'.get? b=some o')
  (tups:∀b xs,H b=some (.tup xs)->H' b=some (.tup xs)) (jD:∀b o u,H b=some (.uz o u)->H' b=some (.uz o u)) (jT:∀b ps,H b=some (.Ah ps)->∃more,H' b=some (.Ah (ps++more)))
  (ns:∀m,s.heap.Ns X.env.locals m->h'.Ns X.env.locals m) (hok:iI X.prog X.w H' h') (hg:AllBare g') :
  Inv X ak Z H' {s with heap:=h',gens:=g',drawn:=d',toks:=t'}:=by
 let Y9:∀b o,X.s₀.heap.get? b=some o->b≠X.env.locals:=λb o e=>dU (dF (bL e) I.ok.above);let Om:∀b o,X.s₀.heap.get? b=some o->b∉X.ex->b∉ch:=λb o e hx hb=>by
  rcases(wz b hb).1 with z|z
  .exact hx z
  .rw[e]at z;cases z
 let cellK:∀x c,X.env.cells.lookup x=some c->∀v,s.heap.IsCell c v->h'.IsCell c v:=λx c e v hx=>wk hx λo ho hd=>by
  let Ik:c∉ch:=λz=>(wz c z).2.2.1 x c e rfl;by_cases hc:c∈X.fs
  .obtain⟨sl,q⟩:=slot c o (I.xZ x c e) hc Ik ho (I.fG x c e);show⟨_,q,hd⟩
  .exact⟨o,keep c o (I.xZ x c e) hc Ik ho (I.fG x c e),hd⟩
 show⟨I.ok,I.os,hg,⟨λb o e n hb hx=>?_,λb o e n hb hx=>?_,λb o e n hx=>?_,λb o e hx=>?_,λb xs e=>tups b xs (I.base.tups b xs e),λb o xs e=>jD b o xs (I.base.jD b o xs e),λb ps e=>?_⟩,?_,λx c e=>?_,?_,λx c e=>?_,λp hp=>?_,hok,I.len⟩
 .exact keep b o (Y9 b o e) hb (Om b o e hx) (I.base.keep b o e n hb hx) (I.base.free b o e n hx)
 .obtain⟨sl,e1⟩:=I.base.slot b o e n hb hx;let⟨sl',e2⟩:=slot b _ (Y9 b o e) hb (Om b o e hx) e1 (I.base.free b o e n hx);show⟨sl',e2⟩
 .obtain⟨o',e1⟩:=I.base.there b o e hx;show free b o' (Om b o e hx) e1 (I.base.free b o e n hx)
 .obtain⟨o',e1⟩:=I.base.there b o e hx;show there b o' (Om b o e hx) e1
 .obtain⟨m1,e1⟩:=I.base.jT b ps e;let⟨m2,e2⟩:=jT b _ e1;show⟨m1++m2,by rw[e2,Array.append_assoc]⟩
 .obtain⟨m,hn,hl⟩:=I.loc;show⟨m,ns m hn,λi x v e1 e2 e3=>?_⟩;let⟨u,r,l⟩:=hl i x v e1 e2 e3;show⟨u,r,?_⟩;rcases l with l|⟨k,c,e,z⟩
  .exact .inl l
  .exact .inr ⟨k,c,e,cellK x c e _ z⟩
 .obtain⟨v,z⟩:=I.cell x c e;show⟨v,cellK x c e v z⟩
 .obtain⟨m,⟨o,_,_,ho,_⟩,_⟩:=I.loc;show free _ o (λz=>(wz _ z).2.1 rfl) ho I.free
 .obtain⟨v,o,ho,hd⟩:=I.cell x c e;show free c o (λz=>(wz c z).2.2.1 x c e rfl) ho (I.fG x c e)
 .obtain⟨e,n,ne,nf,d⟩:=I.pin p hp;let Ik:p.1∉ch:=λz=>(wz p.1 z).2.2.2 p hp rfl;show⟨keep p.1 p.2 ne nf Ik e n,free p.1 p.2 Ik e n,ne,nf,d⟩
theorem Inv.un{t':Nat}(I:Inv X ak Z H s)(u:Un X.fs [] H H' s.heap h')(hok:iI X.prog X.w H' h'):Inv X ak Z H' {s with heap:=h',toks:=t'}:=by
 let⟨m,⟨o,es,ep,ho,r⟩,_⟩:=id I.loc;let⟨sl,hL⟩:=u.any ho I.free V8;show I.step (g':=s.gens) (d':=s.drawn) (ch:=[]) (λ_ z=>nomatch z) (λb o _ hb _ e n=>u.keep b o e n hb V8) (λb o _ hb _ e n=>u.slot b o e n hb V8) (λb o _ e n=>u.free b o e n V8) (λb o _ e=>u.there b o e V8) u.tups u.jD u.jT (λm' hm=>by
  let⟨o',es',ep',uE,r'⟩:=hm;rw[ho]at uE;cases uE;show⟨_,es',ep',hL,r'⟩) hok I.bare
theorem Inv.call{g':Array GenState}{t':Nat}{d':Drawn}{ch:List Addr}(I:Inv X ak Z H s)(u:Un (frs X.stack) ch H H' s.heap h')(hok:iI X.prog X.w H' h')(hg:AllBare g')
  (wz:∀b∈ch,(b∈X.ex\/X.s₀.heap.get? b=none)/\b≠X.env.locals/\(∀x c,X.env.cells.lookup x=some c->c≠b)/\∀p∈X.pn++ak,p.1≠b) :
  Inv X ak Z H' {s with heap:=h',gens:=g',drawn:=d',toks:=t'}:=by
 let⟨m,⟨o,es,ep,ho,r⟩,_⟩:=id I.loc;let⟨sl,hL⟩:=u.any ho I.free λz=>(wz _ z).2.1 rfl;show I.step (ch:=ch) wz (λb o hL hb hc e n=>u.keep b o e n (λz=>(cX.mp (I.mD b z)).elim hL hb) hc) (λb o _ _ hc e n=>u.any e n hc) (λb o hc e n=>u.free b o e n hc) (λb o hc e=>u.there b o e hc) u.tups u.jD u.jT (λm' hm=>by
  let⟨o',es',ep',uE,r'⟩:=hm;rw[ho]at uE;cases uE;show⟨_,es',ep',hL,r'⟩) hok hg
theorem Inv.turned{t':Nat}{it:Addr}(I:Inv X ak Z H s)(k:∀b o,b≠it->s.heap.get? b=some o->h'.get? b=some o)(hn:H it=none)(hL:it≠X.env.locals)
  (h1:it∈X.ex\/X.s₀.heap.objs.size<=it) (h2:∀x c,X.env.cells.lookup x=some c->c≠it) (h3:∀p∈X.pn++ak,p.1≠it):Inv X ak Z H {s with heap:=h',toks:=t'}:=by
 let Aj:∀b u,H b=some u->b≠it:=λb u e z=>by rw[z,hn]at e;cases e
 show I.step (g':=s.gens) (d':=s.drawn) (ch:=[it]) (λb hb=>?_) (λb o _ _ hc e _=>k b o (λz=>hc (by simp[z])) e) (λb o _ _ hc e _=>⟨o.slots,k b o (λz=>hc (by simp[z])) e⟩) (λ_ _ _ _ n=>n)
  (λb o hc e=>⟨o,k b o (λz=>hc (by simp[z])) e⟩) (λ_ _ e=>e) (λ_ _ _ e=>e) (λb ps e=>⟨#[],by rw[e];simp⟩) (λm hm=>?_) (λb u e=>?_) I.bare
 .let e:b=it:=by simpa using hb
  subst e;show⟨h1.imp id λz=>Ht z,hL,h2,h3⟩
 .obtain⟨o,es,ep,ho,r⟩:=hm;show⟨o,es,ep,k _ o (Ne.symm hL) ho,r⟩
 .refine(I.hok b u e).stay (λc v hc q=>k c v ?_ q) (λ_ q=>q) λ_ _ q=>q;rcases hc with z|z
  .rw[z];show Aj b u e
  .exact Aj c _ z
theorem Inv.tok(I:Inv X ak Z H s)(t:Nat):Inv X ak Z H {s with toks:=t}:=I.un (h':=s.heap) (t':=t) Un.refl I.hok
theorem Inv.kept{t':Nat}(I:Inv X ak Z H s)(k:∀b u,s.heap.get? b=some u->h'.get? b=some u):Inv X ak Z H {s with heap:=h',toks:=t'}:=I.un (Un.kept k) (I.hok.kept k)
theorem Inv.laid{a:Addr}{o:HO}{t':Nat}(I:Inv X ak Z H s)(k:∀b u,s.heap.get? b=some u->h'.get? b=some u)(hp:s.heap.objs.size<=a)(new:aU X.prog X.w (upd H a o) h' a o) :
  Inv X ak Z (upd H a o) {s with heap:=h',toks:=t'}:=I.un (Un.laid k hp (I.hok.fresh hp)) (I.hok.laid k hp new)
theorem Inv.write{x e:Addr}{o:HO}{t':Nat}(I:Inv X ak Z H s)(mu:Ih (H x))(he:e=x\/H e=some (.own x))(k:∀b u,b≠e->s.heap.get? b=some u->h'.get? b=some u)(Gf:∃u,h'.get? e=some u)
  (new:aU X.prog X.w (upd H x o) h' x o):Inv X ak Z (upd H x o) {s with heap:=h',toks:=t'}:=I.un (Un.write mu he k Gf) (I.hok.write mu he k Gf new)
theorem Inv.mF{iQ:List (Addr×Obj)}(I:Inv X ak Z H s)(h:∀p∈iQ,s.heap.get? p.1=some p.2/\H p.1=none/\p.1≠X.env.locals/\p.1∉X.fs/\∀v,p.2.data≠.cell v):Inv X iQ Z H s:=
 ⟨I.ok,I.os,I.bare,I.base,I.loc,I.cell,I.free,I.fG,λp hp=>(dw.mp hp).elim (λz=>I.pin p (nR _ z)) (h p),I.hok,I.len⟩
theorem RB{N:List Str}(hN:N.Nodup){i j:Nat}{x:Str}(a:N[i]?=some x)(b:N[j]?=some x):i=j:=by
 let⟨h1,e1⟩:=h_.mp a;let⟨h2,e2⟩:=h_.mp b;show(List.getElem_inj hN).mp (e1.trans e2.symm)
theorem zdt{M:Model}{A:Around}{E:Value->Shared->Prop}{i:Nat}{x:Str}{v:V}{u:Value}{Q:Unit->Shared->Prop}(I:Inv X ak Z H s)(hN:X.N.Nodup)(hi:X.N[i]?=some x)(hx:Loc X.env.scope x)(r:RelV v u)
  (h:∀s',Inv X ak (Z.set i (some v)) H s'->(∃a,Heap.SameBut a s.heap s'.heap/\(a=X.env.locals\/X.env.cells.lookup x=some a))->Q () s') (hf:X.fn x=true\/X.env.scope.names.lookup x=some .local:=by first|exact .inl rfl|exact .inr rfl|assumption):wpAny M A (storeName X.env x u) Q E s:=by
 let⟨m,hn,hl⟩:=id I.loc;let Cw:(X.env.scope.kind==.class||(X.env.scope.kind==.module&&X.env.locals != X.env.globals))=false:=by rw[I.ok.kind];rfl
 let Y_:i<Z.length:=by rw[I.len];show(h_.mp hi).1
 let xZ:=I.xZ;let tracked:∀{a:Addr} {h':Heap},(∃o,s.heap.get? a=some o/\H a=none)->Heap.SameBut a s.heap h'->iI X.prog X.w H h':=λ{a h'} ha hs b ob e=>by
  let⟨_,_,lG⟩:=ha;show(I.hok b ob e).stay (λc w' hc q=>(hs.2 c ?_).trans q) (λ_ q=>q) λ_ _ q=>q;rintro rfl;rcases hc with rfl|hc
  .rw[lG]at e;cases e
  .rw[lG]at hc;cases hc
 rcases hx with hk|hk
 .refine wpAny_storeName_local hk hn (λh' RD hs=>?_) Cw;let⟨oL,_,_,Oo,_⟩:=id hn;show h _ ⟨I.ok,I.os,I.bare,⟨λb o e n hb hx=>?_,λb o e n hb hx=>?_,I.base.free,λb o e hx=>?_,I.base.tups,I.base.jD,I.base.jT⟩,⟨_,RD,λj y v' e1 e2 e3=>?_⟩,λy c e=>?_,I.free,I.fG,λp hp=>?_,tracked ⟨oL,Oo,I.free⟩ hs,by simpa using I.len⟩ ⟨_,hs,.inl rfl⟩
  .exact(hs.2 b (dU (dF (bL e) I.ok.above))).trans (I.base.keep b o e n hb hx)
  .obtain⟨sl,e1⟩:=I.base.slot b o e n hb hx;show⟨sl,(hs.2 b (dU (dF (bL e) I.ok.above))).trans e1⟩
  .obtain⟨o',e1⟩:=I.base.there b o e hx;show⟨o',(hs.2 b (dU (dF (bL e) I.ok.above))).trans e1⟩
  .by_cases hj:j=i
   .subst hj;rw[hi]at e1;cases e1;rw[zV Y_]at e2;cases e2;show⟨u,r,.inl ⟨hk,by simp⟩⟩
   .rw[sJ (Ne.symm hj)]at e2;let⟨u',r',q⟩:=hl j y v' e1 e2 e3;show⟨u',r',?_⟩;rcases q with ⟨k,e⟩|⟨k,c,e,z⟩
    .refine .inl ⟨k,?_⟩;let:y≠x:=λe=>hj (RB hN e1 (e▸hi));simp[this,e]
    .exact .inr ⟨k,c,e,z.sameBut hs (xZ y c e)⟩
  .obtain⟨w',z⟩:=I.cell y c e;show⟨w',z.sameBut hs (xZ y c e)⟩
  .obtain⟨e,n,ne,nf,d⟩:=I.pin p hp;show⟨(hs.2 p.1 ne).trans e,n,ne,nf,d⟩
 .let RJ:X.fn x=true:=by
   rcases hf with z|z
   .exact z
   .rw[z]at hk;cases hk
  let⟨c,hc⟩:=I.ok.has x (.inl hk);let⟨w',z⟩:=I.cell x c hc;show wpAny_storeName_cell I.ok.kind hk hc z (λh' jm hs=>?_);let⟨oc,Za,RK⟩:=id z;show h {s with heap:=h'} ⟨I.ok,I.os,I.bare,⟨λb o e n hb hx=>?_,λb o e n hb hx=>?_,I.base.free,λb o e hx=>?_,I.base.tups,I.base.jD,I.base.jT⟩,⟨m,hn.sameBut hs (Ne.symm (xZ x c hc)),λj y v' e1 e2 e3=>?_⟩,λy c' e=>?_,I.free,I.fG,λp hp=>?_,tracked ⟨oc,Za,I.fG x c hc⟩ hs,by simpa using I.len⟩ ⟨c,hs,.inr hc⟩
  .exact(hs.2 b (dU (dF (bL e) (I.ok.cab x c RJ hc)))).trans (I.base.keep b o e n hb hx)
  .obtain⟨sl,e1⟩:=I.base.slot b o e n hb hx;show⟨sl,(hs.2 b (dU (dF (bL e) (I.ok.cab x c RJ hc)))).trans e1⟩
  .obtain⟨o',e1⟩:=I.base.there b o e hx;show⟨o',(hs.2 b (dU (dF (bL e) (I.ok.cab x c RJ hc)))).trans e1⟩
  .by_cases hj:j=i
   .subst hj;rw[hi]at e1;cases e1;rw[zV Y_]at e2;cases e2;show⟨u,r,.inr ⟨.inl hk,c,hc,jm⟩⟩
   .rw[sJ (Ne.symm hj)]at e2;let⟨u',r',q⟩:=hl j y v' e1 e2 e3;show⟨u',r',?_⟩;rcases q with q|⟨k,c',e,z'⟩
    .exact .inl q
    .refine .inr ⟨k,c',e,z'.sameBut hs ?_⟩;rintro rfl;show hj (RB hN e1 (I.ok.inj _ _ _ e hc▸hi))
  .by_cases Zb:c'=c
   .subst Zb;show⟨_,jm⟩
   .obtain⟨w2,z2⟩:=I.cell y c' e;show⟨w2,z2.sameBut hs Zb⟩
  .obtain⟨e,n,ne,nf,d⟩:=I.pin p hp;show⟨(hs.2 p.1 ?_).trans e,n,ne,nf,d⟩;intro q;rw[q,Za]at e;let q':oc=p.2:=dM e;show d w' (by rw[<-q'];show RK)
theorem RL{M:Model}{A:Around}{E:Value->Shared->Prop}{i:Nat}{x:Str}{v:V}{u:Value}{Q:Unit->Shared->Prop}(I:Inv X ak Z H s)(hN:X.N.Nodup)(hi:X.N[i]?=some x)(hx:Loc X.env.scope x)(r:RelV v u)
  (h:∀s',Inv X ak (Z.set i (some v)) H s'->Q () s') (hf:X.fn x=true\/X.env.scope.names.lookup x=some .local:=by first|exact .inl rfl|exact .inr rfl|assumption):wpAny M A (storeName X.env x u) Q E s:=
 zdt I hN hi hx r (λs' I' _=>h s' I') hf
theorem Inv.call'{s':Shared}{ch:List Addr}(I:Inv X ak Z H s)(ho:s'.os=s.os)(u:Un (frs X.stack) ch H H' s.heap s'.heap)(hok:iI X.prog X.w H' s'.heap)(hg:AllBare s'.gens)
  (wz:∀b∈ch,(b∈X.ex\/X.s₀.heap.get? b=none)/\b≠X.env.locals/\(∀x c,X.env.cells.lookup x=some c->c≠b)/\∀p∈X.pn++ak,p.1≠b):Inv X ak Z H' s':=by
 let⟨h',g',d',t',o'⟩:=s';let e:o'=s.os:=ho;subst e;show I.call (g':=g') (t':=t') (d':=d') u hok hg wz
end
noncomputable abbrev XK:=Value->Option Addr->Hp->Prop
noncomputable abbrev St:=List (Option V)
noncomputable abbrev VK:=V->Hp->Prop
noncomputable abbrev TE:=St->Hp->VK->Prop
noncomputable abbrev TT:=St->Hp->(Bool->Hp->Prop)->Prop
noncomputable abbrev TA:=St->Hp->(List V->Hp->Prop)->Prop
structure Ends where
 nx:St->Hp->Prop
 rt:VK
 bk:St->Hp->Prop:=λ_ _=>False
 ct:St->Hp->Prop:=λ_ _=>False
noncomputable abbrev TS:=Ends->St->Hp->Prop
def EP(X:Cx)(ak:List (Addr×Obj))(Z:St)(Q:VK)(u:Value)(s':Shared):Prop:=∃v H',Inv X ak Z H' s'/\RelV v u/\Q v H'
def TP(X:Cx)(ak:List (Addr×Obj))(Z:St)(Q:Bool->Hp->Prop)(b:Bool)(s':Shared):Prop:=∃H',Inv X ak Z H' s'/\Q b H'
def AP(X:Cx)(ak:List (Addr×Obj))(Z:St)(Q:List V->Hp->Prop)(us:List Value)(s':Shared):Prop:=∃vs H',Inv X ak Z H' s'/\Vals vs us/\Q vs H'
def SP(X:Cx)(ak:List (Addr×Obj))(D:Ends)(f:Flow)(s':Shared):Prop:=
 match f with
 |.next=>∃Z' H',Inv X ak Z' H' s'/\D.nx Z' H'|.brk=>∃Z' H',Inv X ak Z' H' s'/\D.bk Z' H'|.cont=>∃Z' H',Inv X ak Z' H' s'/\D.ct Z' H'|.ret u=>∃v Z' H',Inv X ak Z' H' s'/\RelV v u/\D.rt v H'
def PE(X:Cx)(e:Expr)(t:TE):Prop:=
 ∀(ak:List (Addr×Obj)) (s:Shared) (Z:St) (H:Hp) (Q:VK),Inv X ak Z H s->t Z H Q->wpAny (model X.prog X.w) X.A (eval e X.env) (EP X ak Z Q) X.xe s
def PT(X:Cx)(e:Expr)(t:TT):Prop:=
 ∀(ak:List (Addr×Obj)) (s:Shared) (Z:St) (H:Hp) (Q:Bool->Hp->Prop),Inv X ak Z H s->t Z H Q->wpAny (model X.prog X.w) X.A (isTrue e X.env (eval e X.env)) (TP X ak Z Q) X.xe s
def PW(X:Cx)(e:Expr)(t:TT):Prop:=
 ∀(whole:Sem Value) (ak:List (Addr×Obj)) (s:Shared) (Z:St) (H:Hp) (Q:Bool->Hp->Prop),Inv X ak Z H s->t Z H Q->wpAny (model X.prog X.w) X.A (isTrue e X.env whole) (TP X ak Z Q) X.xe s
theorem Kac{X:Cx}{e:Expr}{t:TT}(h:PW X e t):PT X e t:=h _
def PA(X:Cx)(es:List Expr)(t:TA):Prop:=
 ∀(pos:Pos) (ak:List (Addr×Obj)) (s:Shared) (Z:St) (H:Hp) (Q:List V->Hp->Prop),Inv X ak Z H s->t Z H Q->wpAny (model X.prog X.w) X.A (spliced (backTo pos (starEach es X.env))) (AP X ak Z Q) X.xe s
def PS(X:Cx)(st:Stmt)(t:TS):Prop:=
 ∀(ak:List (Addr×Obj)) (s:Shared) (Z:St) (H:Hp) (D:Ends),Inv X ak Z H s->t D Z H->wpAny (model X.prog X.w) X.A (exec st X.env) (SP X ak D) X.xe s
def pq(X:Cx)(st:List Stmt)(t:TS):Prop:=
 ∀(ak:List (Addr×Obj)) (s:Shared) (Z:St) (H:Hp) (D:Ends),Inv X ak Z H s->t D Z H->wpAny (model X.prog X.w) X.A (execs st X.env) (SP X ak D) X.xe s
theorem bD{α:Type}{t:Sem α}{Q Q':α->Shared->Prop}{M:Model}{A:Around}{E:Value->Shared->Prop}{s:Shared}(h:wpAny M A t Q E s)(hQ:∀a s,Q a s->Q' a s):wpAny M A t Q' E s:=oZ h hQ λ_ _ x=>x
section
variable {X:Cx}
noncomputable def RM(i:Nat):TE:=λZ H Q=>∃v,Z[i]?=some (some v)/\Q v H
noncomputable def tC(v:V):TE:=λ_ H Q=>Q v H
theorem zm8{i:Nat}{x:Str}{pos:Pos}(hN:X.N[i]?=some x)(hv:Rw X.env.scope x)(hd:(x==("__debug__" : Str))=false:=by decide)(nJ:(x==("__classdict__" : Str))=false:=by decide):PE X (.Name x pos) (RM i):=by
 intro ak s Z H Q I h;let⟨v,e,h⟩:=h;let⟨m,hn,hl⟩:=I.loc;let⟨u,r,l⟩:=hl i x v hN e hv;let fin:EP X ak Z Q u s:=⟨v,H,I,r,h⟩;rcases l with ⟨hk,hm⟩|⟨hk,c,hc,Ak⟩
 .exact wpAny_Name (wpAny_loadName_local I.ok.kind hk hn hm fin) hd
 .rcases hk with hk|hk
  .exact wpAny_Name (wpAny_loadName_cell I.ok.kind hk hc Ak fin) hd
  .exact wpAny_Name (wpAny_loadName_free I.ok.kind hk hc Ak fin nJ) hd
theorem Oq{i j pos}:PE X (.Constant (.int i) j pos) (tC (.int i)):=λ_ _ _ H _ I h=>wpAny_Constant_int ⟨.int i,H,I.tok _,⟨_,rfl⟩,h⟩
theorem zoa{b j pos}:PE X (.Constant (.bool b) j pos) (tC (.bl b)):=λ_ _ _ H _ I h=>Constant_bool ⟨.bl b,H,I,rfl,h⟩
theorem zmA{j pos}:PE X (.Constant .none j pos) (tC .non):=λ_ _ _ H _ I h=>Constant_none ⟨.non,H,I,rfl,h⟩
theorem Zc{x j pos}:PE X (.Constant (.str x) j pos) (tC (.str x)):=λ_ _ _ H _ I h=>Calls.Constant_str ⟨.str x,H,I.tok _,⟨_,rfl⟩,h⟩
def Gl(X:Cx)(x:Str):Prop:=X.env.kindOf x=some .globalImplicit
theorem Ot{E:Value->Shared->Prop}{ak:List (Addr×Obj)}{s:Shared}{Z:St}{H:Hp}{x:Str}{u:Value}{pos:Pos}{Q:Value->Shared->Prop}(I:Inv X ak Z H s)(hg:Gl X x)(hm:X.mg x=some u)(h:Q u s)
  (hd:(x==("__debug__" : Str))=false:=by decide):wpAny (model X.prog X.w) X.A (eval (.Name x pos) X.env) Q E s:=
 Calls.Name_function_global I.ok.kind hg (Calls.loadGlobal_global (by rw[I.ok.glob];show I.mod.glob.keeps I.bk) hm h) hd
theorem sY{E:Value->Shared->Prop}{ak:List (Addr×Obj)}{s:Shared}{Z:St}{H:Hp}{x:Str}{u:Value}{pos:Pos}{Q:Value->Shared->Prop}(I:Inv X ak Z H s)(hg:Gl X x)(hm:X.mg x=none)(hv:bootBuiltins x=some u)(h:Q u s)
  (hn:x≠"__name__":=by decide) (hd:(x==("__debug__" : Str))=false:=by decide):wpAny (model X.prog X.w) X.A (eval (.Name x pos) X.env) Q E s:=by
 let⟨mb,h1,h2⟩:=I.mod.blt;show Calls.Name_function_global I.ok.kind hg (Calls.loadGlobal_builtin (by rw[I.ok.glob];show I.mod.glob.keeps I.bk) hm (by rw[I.ok.blt];show h1.keeps I.bk) ((h2 x hn).trans hv) h) hd
theorem Zd{x:Str}{v:V}{u:Value}{pos:Pos}(hg:Gl X x)(hm:X.mg x=some u)(r:RelV v u)(hd:(x==("__debug__" : Str))=false:=by decide):PE X (.Name x pos) (tC v):=
 λ_ _ _ H _ I h=>Ot I hg hm ⟨v,H,I,r,h⟩ hd
variable {a b:Expr}{ta tb:TE}{pos:Pos}
def PC(X:Cx)(op:CmpOp)(a b:Expr)(t:TE):Prop:=
 ∀(ak:List (Addr×Obj)) (s:Shared) (Z:St) (H:Hp) (Q:VK),Inv X ak Z H s->t Z H Q->
  wpAny (model X.prog X.w) X.A (eval a X.env) (λv s₁=>wpAny (model X.prog X.w) X.A (eval b X.env) (λu s₂=>wpAny (model X.prog X.w) X.A (compareOp op v u) (EP X ak Z Q) X.xe s₂) X.xe s₁) X.xe s
theorem nY(b:Expr){op:CmpOp}(h:op≠.In)(h2:op≠.NotIn):behindInMarks op b=false:=by
 let e1:(op==CmpOp.In)=false:=by cases op<;>first|rfl|exact absurd rfl h
 let e2:(op==CmpOp.NotIn)=false:=by cases op<;>first|rfl|exact absurd rfl h2
 cases b<;>simp[behindInMarks,e1,e2]
noncomputable def RN(ta:TE):TE:=λZ H Q=>ta Z H λx H1=>Q (.bl (decide (x=.non))) H1
noncomputable def Il(ta:TE):TE:=λZ H Q=>ta Z H λx H1=>Q (.bl (!decide (x=.non))) H1
theorem RelV.nZ{x:V}{v:Value}(r:RelV x v):(v==Value.none)=decide (x=.non):=by
 cases x with
 |non=>cases r;rfl|bl _=>cases r;rfl|int _=>let⟨t,rfl⟩:=r;rfl|str _=>let⟨t,rfl⟩:=r;rfl|Oj _=>let⟨t,rfl⟩:=r;rfl|flt _=>let⟨t,rfl⟩:=r;rfl|ref _=>cases r;rfl|ty _=>cases r;rfl
theorem zlw{j pos'}(ha:PE X a ta):PC X .Is a (.Constant .none j pos') (RN ta):=by
 intro ak s Z H Q I h;show bD (ha ak s Z H _ I h) λv s1 hx=>gb hx λx H1 I1 r1 q1=>?_;show Constant_none (is_none_gen ⟨.bl _,H1,I1,by rw[r1.nZ];rfl,q1⟩)
theorem zk8{j pos'}(ha:PE X a ta):PC X .IsNot a (.Constant .none j pos') (Il ta):=by
 intro ak s Z H Q I h;show bD (ha ak s Z H _ I h) λv s1 hx=>gb hx λx H1 I1 r1 q1=>?_;show Constant_none (isnot_none_gen ⟨.bl _,H1,I1,by rw[r1.nZ];rfl,q1⟩)
noncomputable def tB(t:TE):TT:=λZ H Q=>t Z H λx H1=>∃c,x=.bl c/\Q c H1
theorem zl4{op:CmpOp}{t:TE}(h:PC X op a b t)(h1:behindInMarks op b=false:=by first|exact nY _ J0 J0|rfl):PE X (.Compare a [op] [b] pos) t:=λak s Z H Q I hw=>wpAny_Compare1 (h ak s Z H Q I hw) h1
theorem znw{op:CmpOp}{t:TE}(h:PC X op a b t)(h1:behindInMarks op b=false:=by first|exact nY _ J0 J0|rfl):PT X (.Compare a [op] [b] pos) (tB t):=by
 intro ak s Z H Q I hw;show Q9 (bD (h ak s Z H _ I hw) λv s1 h1=>bD h1 λu s2 h2=>bD h2 λc s3 hx=>gb hx λx H1 I1 r1 q1=>?_) h1;let⟨d,rfl,q⟩:=q1;cases r1;show xM ⟨H1,I1,q⟩
theorem zlS{e:Expr}{t:TE}(h:PE X e t)(he:∀whole,isTrue e X.env whole=(do let v <-whole;standAt e.pos;holding [v] (truthy v)):=by intro _;rfl):PT X e (tB t):=by
 intro ak s Z H Q I hw;show isTrue_plain (bD (h ak s Z H _ I hw) λv s1 hx=>gb hx λx H1 I1 r1 q1=>?_) (he _);let⟨d,rfl,q⟩:=q1;cases r1;show xM ⟨H1,I1,q⟩
variable {tA Ou:TT}{rest:List Expr}
noncomputable def RP(t u:TT):TT:=λZ H Q=>t Z H λc H1=>if c=true then u Z H1 Q else Q false H1
noncomputable def tOr(t u:TT):TT:=λZ H Q=>t Z H λc H1=>if c=true then Q true H1 else u Z H1 Q
noncomputable def RQ(t:TT):TT:=λZ H Q=>t Z H λc H1=>Q (!c) H1
theorem zkt(ha:PT X a tA):PW X (.BoolOp .And [a] pos) tA:=by
 intro wh ak s Z H Q I h;show isTrue_and (bD (ha ak s Z H Q I h) λc s1 e=>?_);cases c with
 |true=>show isTrue_and_nil e|false=>show e
theorem zmc(ha:PT X a tA):PW X (.BoolOp .Or [a] pos) tA:=by
 intro wh ak s Z H Q I h;show isTrue_or (bD (ha ak s Z H Q I h) λc s1 e=>?_);cases c with
 |false=>show isTrue_or_nil e|true=>show e
theorem zl6(ha:PT X a tA)(hb:PW X (.BoolOp .And (b::rest) pos) Ou):PW X (.BoolOp .And (a::b::rest) pos) (RP tA Ou):=by
 intro wh ak s Z H Q I h;show isTrue_and (bD (ha ak s Z H _ I h) λc s1 hx=>wk hx λH1 I1 q1=>?_);cases c with
 |true=>show hb wh ak s1 Z H1 Q I1 q1|false=>show⟨H1,I1,q1⟩
theorem zoE(ha:PT X a tA)(hb:PW X (.BoolOp .Or (b::rest) pos) Ou):PW X (.BoolOp .Or (a::b::rest) pos) (tOr tA Ou):=by
 intro wh ak s Z H Q I h;show isTrue_or (bD (ha ak s Z H _ I h) λc s1 hx=>wk hx λH1 I1 q1=>?_);cases c with
 |true=>show⟨H1,I1,q1⟩|false=>show hb wh ak s1 Z H1 Q I1 q1
theorem zmW(ha:PT X a tA):PT X (.UnaryOp .Not a pos) (RQ tA):=by
 intro ak s Z H Q I h;show isTrue_not (ha ak s Z H (λc H1=>Q (!c) H1) I h)
noncomputable def Im(ta tb:TE):TE:=λZ H Q=>ta Z H λx H1=>∃c,x=.bl c/\if c=true then tb Z H1 Q else Q (.bl false) H1
noncomputable def Io(ta:TE):TE:=λZ H Q=>ta Z H λx H1=>∃c,x=.bl c/\Q (.bl (!c)) H1
theorem zlH{op}{t:TE}(h:PE X a t):PE X (.BoolOp op [a] pos) t:=λak s Z H Q I hw=>BoolOp_one (h ak s Z H Q I hw)
theorem zm0(ha:PE X a ta)(hb:PE X (.BoolOp .And (b::rest) pos) tb):PE X (.BoolOp .And (a::b::rest) pos) (Im ta tb):=by
 intro ak s Z H Q I h;show BoolOp_and (bD (ha ak s Z H _ I h) λv s1 hx=>gb hx λx H1 I1 r1 q1=>?_);let⟨c,rfl,q1⟩:=q1;cases r1;show xM ?_;cases c with
 |true=>show hb ak s1 Z H1 Q I1 q1|false=>show⟨.bl false,H1,I1,rfl,q1⟩
theorem zmQ(ha:PE X a ta):PE X (.UnaryOp .Not a pos) (Io ta):=by
 intro ak s Z H Q I h;show UnaryOp_ (bD (ha ak s Z H _ I h) λv s1 hx=>gb hx λx H1 I1 r1 q1=>?_);let⟨c,rfl,q1⟩:=q1;cases r1;show not_of (xM ⟨.bl (!c),H1,I1,rfl,q1⟩)
noncomputable def tIf(t:TT)(ta tb:TE):TE:=λZ H Q=>t Z H λc H1=>if c=true then ta Z H1 Q else tb Z H1 Q
theorem zhC{c:Expr}(hc:PT X c tA)(ha:PE X a ta)(hb:PE X b tb):PE X (.IfExp c a b pos) (tIf tA ta tb):=by
 intro ak s Z H Q I h;show wpAny_IfExp (bD (hc ak s Z H _ I h) λd s1 hx=>wk hx λH1 I1 q1=>?_);cases d with
 |true=>show ha ak s1 Z H1 Q I1 q1|false=>show hb ak s1 Z H1 Q I1 q1
end
def cY(K:W.Frag)(H:Hp)(a:Addr)(xs:List V):Prop:=
 Rd H a (.lst xs) \/
  ∃(o:Obj) (its:Array Value) (n:Nat),K.lookup a=some o/\o.cls=.type "list"/\o.dict=none/\o.data=.seq its n/\its.size<=sizeLine/\Vals xs its.toList
def fQ(K:W.Frag)(H:Hp)(a:Addr)(xs:List V):Prop:=
 Rd H a (.tup xs) \/
  ∃(o:Obj) (its:Array Value) (n:Nat),K.lookup a=some o/\o.cls=.type "tuple"/\o.dict=none/\o.data=.seq its n/\its.size<=sizeLine/\Vals xs its.toList
noncomputable def RT:Value->Option V
 |.none=>some .non|.bool b=>some (.bl b)|.int i _=>some (.int i)|.str x _=>some (.str x)|.bytes b _=>some (.Oj b)|.float b _=>some (.flt b)|.ref a=>some (.ref a)|.type n=>some (.ty n)|_=>none
theorem RelV.abs{x:V}{u:Value}(r:RelV x u):RT u=some x:=by
 cases x with
 |non=>cases r;rfl|bl _=>cases r;rfl|int _=>let⟨t,rfl⟩:=r;rfl|str _=>let⟨t,rfl⟩:=r;rfl|Oj _=>let⟨t,rfl⟩:=r;rfl|flt _=>let⟨t,rfl⟩:=r;rfl|ref _=>cases r;rfl|ty _=>cases r;rfl
theorem RelV.inj{x y:V}{u:Value}(r:RelV x u)(q:RelV y u):x=y:=dM (r.abs.symm.trans q.abs)
theorem Vals.inj{xs ys:List V}{us:List Value}(h:Vals xs us)(h':Vals ys us):xs=ys:=by
 induction h generalizing ys with
 |nil=>cases h';rfl|cons r _ ih=>
  cases h' with
  |cons r' t'=>rw[r.inj r',ih t']
section
variable {X:Cx}{ak:List (Addr×Obj)}{Z:St}{H:Hp}{s:Shared}{a:Addr}{xs ys:List V}
theorem cY.of{K:W.Frag}(h:H a=some (.lst xs)):cY K H a xs:=.inl (.inl h)
theorem Inv.list(I:Inv X ak Z H s)(h:cY X.K H a xs):∃its:List Value,Vals xs its/\PlainL s.heap a its.toArray/\xs.length<=sizeLine:=by
 rcases h with h|⟨o,its,n,hk,hc,hd,hs,hz,r⟩
 .obtain⟨z,its,n,r,e⟩:=h.ok I.hok;show⟨its,r,⟨_,n,e,rfl,rfl,rfl⟩,z⟩
 .refine⟨its.toList,r,⟨o,n,I.xY a o hk,hc,hd,by simpa using hs⟩,?_⟩;let e:=r.length;simp only[zW]at e
  lia
theorem Inv.tuple(I:Inv X ak Z H s)(h:fQ X.K H a xs):∃its:List Value,Vals xs its/\IsTup s.heap a its.toArray/\xs.length<=sizeLine:=by
 rcases h with h|⟨o,its,n,hk,hc,_,hs,hz,r⟩
 .obtain⟨z,its,r,p⟩:=h.ok I.hok;show⟨its,r,p.tup,z⟩
 .refine⟨its.toList,r,⟨o,I.xY a o hk,hc,n,by simpa using hs⟩,?_⟩;let e:=r.length;simp only[zW]at e
  lia
theorem Inv.RV(I:Inv X ak Z H s)(h:fQ X.K H a xs):∃o,s.heap.get? a=some o/\o.cls=.type "tuple"/\o.dict=none:=by
 rcases h with h|⟨o,its,n,hk,hc,hd,_⟩
 .obtain⟨_,_,_,o,h1,h2,_,_,h3⟩:=h.ok I.hok;show⟨o,h1,h2,h3⟩
 .exact⟨o,I.xY a o hk,hc,hd⟩
theorem Inv.n6(I:Inv X ak Z H s)(h:cY X.K H a xs)(h':cY X.K H a ys):xs=ys:=by
 let⟨its,r,⟨o,n,e,_,_,d⟩,_⟩:=I.list h;let⟨its',r',⟨o',n',e',_,_,d'⟩,_⟩:=I.list h';rw[e]at e';cases e';rw[d]at d';injection d' with d1 _;let:its=its':=by simpa using pI Array.toList d1
 subst this;show r.inj r'
theorem Inv.lH(I:Inv X ak Z H s)(h:fQ X.K H a xs)(h':fQ X.K H a ys):xs=ys:=by
 let⟨its,r,⟨o,e,_,n,d⟩,_⟩:=I.tuple h;let⟨its',r',⟨o',e',_,n',d'⟩,_⟩:=I.tuple h';rw[e]at e';cases e';rw[d]at d';injection d' with d1 _;let:its=its':=by simpa using pI Array.toList d1
 subst this;show r.inj r'
end
section
variable {X:Cx}{st:Stmt}{rest:List Stmt}{t u:TS}{e:Expr}{te:TE}{pos:Pos}
noncomputable def Ip:TS:=λD Z H=>D.nx Z H
noncomputable def RW(t u:TS):TS:=λD Z H=>t {D with nx:=u D} Z H
theorem zjR:pq X [] Ip:=λ_ _ Z H _ I h=>N8 ⟨Z,H,I,h⟩
theorem ziw(h1:PS X st t)(h2:pq X rest u):pq X (st::rest) (RW t u):=by
 intro ak s Z H D I h;show wpAny_execs_cons (bD (h1 ak s Z H {D with nx:=u D} I h) λf s1 q=>?_);cases f with
 |next=>
  let⟨Z',H',I',q⟩:=q;show h2 ak s1 Z' H' D I' q
 |ret v=>show q|brk=>show q|cont=>show q
theorem Inv.quiet{ak:List (Addr×Obj)}{Z:St}{H:Hp}{s:Shared}(I:Inv X ak Z H s):interactive X.env=false:=by simp[interactive,I.ok.kind]
noncomputable def Ir(te:TE):TS:=λD Z H=>te Z H λ_ H1=>D.nx Z H1
theorem zjT(he:PE X e te)(hs:swapsWith e none pos.line X.env=pure false:=by rfl):PS X (.Expr e pos) (Ir te):=by
 intro ak s Z H D I h;show wpAny_Expr_any (bD (he ak s Z H _ I h) λv s1 hx=>gb hx λx H1 I1 r1 q1=>⟨Z,H1,I1,q1⟩) I.quiet hs
noncomputable def RX(te:TE):TS:=λD Z H=>te Z H D.rt
theorem znj(he:PE X e te):PS X (.Return (some e) pos) (RX te):=by
 intro ak s Z H D I h;show wpAny_Return_some (bD (he ak s Z H _ I h) λv s1 hx=>gb hx λx H1 I1 r1 q1=>⟨x,Z,H1,I1,r1,q1⟩)
noncomputable def RZ(c:TT)(t u:TS):TS:=λD Z H=>c Z H λb H1=>if b=true then t D Z H1 else u D Z H1
theorem zoq{c:Expr}{a b:List Stmt}{tc:TT}(hc:PT X c tc)(ha:pq X a t)(hb:pq X b u):PS X (.If c a b pos) (RZ tc t u):=by
 intro ak s Z H D I h;show wpAny_If (bD (hc ak s Z H _ I h) λd s1 hx=>wk hx λH1 I1 q1=>?_);cases d with
 |true=>show ha ak s1 Z H1 D I1 q1|false=>show hb ak s1 Z H1 D I1 q1
end
noncomputable abbrev TG:=V->St->Hp->(St->Hp->Prop)->Prop
noncomputable abbrev Cy:=List V->St->Hp->(St->Hp->Prop)->Prop
def PG(X:Cx)(target:Expr)(t:TG):Prop:=
 ∀(ak:List (Addr×Obj)) (s:Shared) (Z:St) (H:Hp) (v:V) (u:Value) (Q:St->Hp->Prop),Inv X ak Z H s->RelV v u->t v Z H Q->
  wpAny (model X.prog X.w) X.A (assign target X.env u) (λ_ s'=>∃Z' H',Inv X ak Z' H' s'/\Q Z' H') X.xe s
def Ov(X:Cx)(ts:List Expr)(t:Cy):Prop:=
 ∀(ak:List (Addr×Obj)) (s:Shared) (Z:St) (H:Hp) (vs:List V) (us:List Value) (Q:St->Hp->Prop),Inv X ak Z H s->Vals vs us->t vs Z H Q->
  wpAny (model X.prog X.w) X.A (assignInOrder ((assignEach ts X.env).map (·.2)) us) (λ_ s'=>∃Z' H',Inv X ak Z' H' s'/\Q Z' H') X.xe s
noncomputable abbrev Cz:=V->V->V->Hp->(Hp->Prop)->Prop
def Iu(X:Cx)(t:Cz):Prop:=
 ∀(ak:List (Addr×Obj)) (s:Shared) (Z:St) (H:Hp) (o i v:V) (ov iv u:Value) (Q:Hp->Prop),Inv X ak Z H s->RelV o ov->RelV i iv->RelV v u->t o i v H Q->
  wpAny (model X.prog X.w) X.A (setItem ov iv u) (λ_ s'=>∃H',Inv X ak Z H' s'/\Q H') X.xe s
section
variable {X:Cx}{pos:Pos}
noncomputable def eY(i:Nat):TG:=λv Z H Q=>Q (Z.set i (some v)) H
theorem Ow{i:Nat}{x:Str}(hN:X.N.Nodup)(hi:X.N[i]?=some x)(hx:Loc X.env.scope x)(hf:X.fn x=true\/X.env.scope.names.lookup x=some .local:=by first|exact .inl rfl|exact .inr rfl|assumption):PG X (.Name x pos) (eY i):=by
 intro ak s Z H v u Q I r h;show wpAny_assign_Name (RL I hN hi hx r (λs' I'=>⟨_,H,I',h⟩) hf)
noncomputable def uF:Cy:=λvs Z H Q=>vs=[]/\Q Z H
noncomputable def iR(t:TG)(u:Cy):Cy:=λvs Z H Q=>∃v r,vs=v::r/\t v Z H λZ' H'=>u r Z' H' Q
theorem zjV:Ov X [] uF:=by
 intro ak s Z H vs us Q I r h;let⟨e,h⟩:=h;subst e;cases r;show assignInOrder_nil ⟨Z,H,I,h⟩
theorem Ze{e:Expr}{es:List Expr}{t:TG}{u:Cy}(h1:PG X e t)(h2:Ov X es u)
  (hs:(assignEach (e::es) X.env).map (·.2)=assign e X.env::(assignEach es X.env).map (·.2):=by rfl):Ov X (e::es) (iR t u):=by
 intro ak s Z H vs us Q I r h;let⟨v,vr,e1,h⟩:=h;subst e1;cases r with
 |cons r rr=>
  rw[hs];show assignInOrder_cons (bD (h1 ak s Z H _ _ _ I r h) λ_ s1 hz=>?_);let⟨Z1,H1,I1,q1⟩:=hz;show h2 ak s1 Z1 H1 _ _ Q I1 rr q1
noncomputable def uG(K:W.Frag)(n:Nat)(t:Cy):TG:=λv Z H Q=>∃a xs,v=.ref a/\fQ K H a xs/\xs.length=n/\t xs Z H Q
theorem zmI{es:List Expr}{k:Nat}{t:Cy}{n:Nat}(hc:X.aj=true)(h:Ov X es t)
  (hn:(assignEach es X.env).length=n:=by rfl) (nM:(assignEach es X.env).findIdx? (·.1)=none:=by rfl):PG X (.Tuple es k pos) (uG X.K n t):=by
 intro ak s Z H v u Q I r hw;let⟨a,xs,e1,hq,hl,hw⟩:=hw;subst e1;cases r;let⟨its,rv,ht,hz⟩:=I.tuple hq;show assign_Tuple_tuple (I.ok.hd hc) ht (by simp[hn,<-hl,rv.length]) nM λh' hx=>?_;let I1:Inv X ak Z H {s with heap:=h'}:=I.kept (t':=s.toks) λb o e=>hx b o (dU (bL e)) e;show h ak _ Z H xs _ Q I1 (by simpa using rv) hw
noncomputable def R0(to ti:TE)(t:Cz):TG:=λv Z H Q=>to Z H λo H1=>ti Z H1 λi H2=>t o i v H2 λH3=>Q Z H3
theorem zlt{o i:Expr}{to ti:TE}{t:Cz}(ho:PE X o to)(hi:PE X i ti)(hs:Iu X t)
  (ha:∀v,assign (.Subscript o i pos) X.env v=(do
   let ov <-holding [v] (eval o X.env)
   let iv <-holding [v,ov] (eval i X.env)
   standAt pos
   holding [v,ov,iv] (setItem ov iv v)
   release [v,ov,iv] []):=by intro _;rfl):PG X (.Subscript o i pos) (R0 to ti t):=by
 intro ak s Z H v u Q I r h;rw[ha];show aB (mj (bD (ho ak s Z H _ I h) λov s1 hx=>gb hx λx H1 I1 r1 q1=>?_));show aB (mj (bD (hi ak s1 Z H1 _ I1 q1) λiv s2 hx=>gb hx λy H2 I2 r2 q2=>?_));show aB (wpAny_standAt (aB (mj (bD (hs ak s2 Z H2 x y v ov iv u _ I2 r1 r2 r q2) λ_ s3 hx=>wk hx λH3 I3 q3=>?_))));show wpAny_release ⟨Z,H3,I3,q3⟩
noncomputable def CG(te:TE)(g:TG):TS:=λD Z H=>te Z H λx H1=>g x Z H1 D.nx
theorem Zf{tg e:Expr}{te:TE}{g:TG}(he:PE X e te)(hg:PG X tg g)(hs:swapsWithSole [tg] e pos.line X.env=pure false:=by rfl)(hw:swappedStores [tg] e X.env=pure none:=by rfl)
  (h1:(assignEach [tg] X.env).map (·.2)=[assign tg X.env]:=by rfl):PS X (.Assign [tg] e pos) (CG te g):=by
 intro ak s Z H D I h;show wpAny_Assign_stores (bD (he ak s Z H _ I h) λv s1 hx=>gb hx λx H1 I1 r1 q1=>?_) hs hw;rw[h1];show bD (hg ak s1 Z H1 x v _ I1 r1 q1) λ_ s2 q=>q
theorem zmv{i:Nat}{x:Str}{e:Expr}{te:TE}{pos':Pos}(hN:X.N.Nodup)(hi:X.N[i]?=some x)(hx:Loc X.env.scope x)(he:PE X e te)(hs:swapsWith e (some (.Name x pos')) pos.line X.env=pure false:=by rfl)(hf:X.fn x=true\/X.env.scope.names.lookup x=some .local:=by first|exact .inl rfl|exact .inr rfl|assumption) :
  PS X (.Assign [.Name x pos'] e pos) (CG te (eY i)):=by
 intro ak s Z H D I h;show wpAny_Assign_Name (bD (he ak s Z H _ I h) λv s1 hz=>?_) hs;let⟨y,H1,I1,r1,q1⟩:=hz;show RL I1 hN hi hx r1 (λs2 I2=>⟨_,H1,I2,q1⟩) hf
end
section
variable {X:Cx}{pos:Pos}
noncomputable def CJ(c:TT)(tb:TS):TS:=λD Z H=>∃W:Nat->St->Hp->Prop,(∃m,W m Z H)/\∀m Z H,W m Z H->
 c Z H λb H1=>if b=true then ∃N:St->Hp->Prop,(∀Z' H',N Z' H'->∃m',m'<m/\W m' Z' H')/\tb {D with nx:=N,ct:=N,bk:=D.nx} Z H1 else D.nx Z H1
theorem ziB{c:Expr}{body:List Stmt}{tc:TT}{tb:TS}(hp:PassesOwn (model X.prog X.w) X.A X.env X.xe)(hc:PT X c tc)(hb:pq X body tb):PS X (.While c body [] pos) (CJ tc tb):=by
 intro ak s Z H D I h;let⟨W,⟨m0,w0⟩,turn⟩:=h;show wpAny_While (codeAny_whileLoop (λn s'=>∃Z' H',Inv X ak Z' H' s'/\W n Z' H') ?_ m0 ⟨Z,H,I,w0⟩);rintro n s1 ⟨Z1,H1,I1,w1⟩;show BZ hp (bD (hc ak s1 Z1 H1 _ I1 (turn n Z1 H1 w1)) λb s2 hx=>wk hx λH2 I2 q2=>?_);cases b with
 |true=>
  let⟨N,hN,q2⟩:=q2;rw[if_pos rfl];show BZ hp (bD (hb ak s2 Z1 H2 _ I2 q2) λf s3 q3=>?_);cases f with
  |next=>
   let⟨Z3,H3,I3,n3⟩:=q3;let⟨m',hm,w3⟩:=hN Z3 H3 n3;show⟨m',hm,Z3,H3,I3,w3⟩
  |cont=>
   let⟨Z3,H3,I3,n3⟩:=q3;let⟨m',hm,w3⟩:=hN Z3 H3 n3;show⟨m',hm,Z3,H3,I3,w3⟩
  |brk=>show q3|ret v=>show q3
 |false=>
  rw[if_neg Nr];show N8 ⟨Z1,H2,I2,q2⟩
end
structure It where
 go:Nat->Hp->Prop
 CK:Nat->Hp->V->Hp->Prop
 stop:Nat->Hp->Prop
def jo(X:Cx)(ak:List (Addr×Obj))(H:Hp)(b:Addr):Prop:=
 H b=none/\b≠X.env.locals/\b∉X.fs/\(b∈X.ex\/X.s₀.heap.objs.size<=b)/\(∀x c,X.env.cells.lookup x=some c->c≠b)/\∀p∈X.pn++ak,p.1≠b
theorem Inv.uH{X:Cx}{ak:List (Addr×Obj)}{Z:St}{H H':Hp}{s:Shared}{b:Addr}(I:Inv X ak Z H s)(hb:s.heap.objs.size<=b)(hn:H' b=none):jo X ak H' b:=by
 show⟨hn,gD (dF I.lt hb),I.Ry hb,.inr (jf I.sz hb),λx c e z=>?_,λp hp z=>?_⟩
 .obtain⟨v,q⟩:=I.cell x c e;show absurd (dF q.lt (by rw[z];show hb)) (nU _)
 .exact absurd (dF (bL (I.pin p hp).1) (by rw[z];show hb)) (nU _)
structure Turn(P:Program)(w:World)(K:W.Frag)(tg:Expr)(cg:It)(fp:List Addr)(it:Addr)(tn:Nat->Heap->Prop):Prop where
 mem:it∈fp
 obj:∀i h,tn i h->∀b∈fp,∃o,h.get? b=some o/\∀v,o.data≠.cell v
 keep:∀i h h',tn i h->(∀b∈fp,∀o,h.get? b=some o->h'.get? b=some o)->tn i h'
 item:∀(X:Cx),X.prog=P->X.w=w->X.K=K->X.aj=true->∀(i:Nat) (ak:List (Addr×Obj)) (s:Shared) (Z:St) (H:Hp) (E:Value->Shared->Prop),Inv X ak Z H s->(∀b∈fp,jo X ak H b)->tn i s.heap->cg.go i H->
  wpAny (model P w) X.A (pyNext (.ref it)) (λr s1=>∃u,r=some u /\
   wpAny (model P w) X.A (letOwnedTupleGo tg (.ref it) u) (λ_ s2=>∃x H',Inv X ak Z H' s2/\RelV x u/\cg.CK i H x H'/\tn (i+1) s2.heap/\∀b∈fp,H' b=none) E s1) E s
 done:∀(X:Cx),X.prog=P->X.w=w->X.K=K->X.aj=true->∀(i:Nat) (ak:List (Addr×Obj)) (s:Shared) (Z:St) (H:Hp) (E:Value->Shared->Prop),Inv X ak Z H s->(∀b∈fp,jo X ak H b)->tn i s.heap->cg.stop i H->
  wpAny (model P w) X.A (pyNext (.ref it)) (λr s1=>r=none/\Inv X ak Z H s1) E s
 self:∀(A:Around) (i:Nat) (s:Shared) (Q:Value->Shared->Prop) (E:Value->Shared->Prop),tn i s.heap->Q (.ref it) s->wpAny (model P w) A (pyIter (.ref it)) Q E s
noncomputable abbrev TI:=St->Hp->(It->Hp->Prop)->Prop
def PIE(X:Cx)(ak:List (Addr×Obj))(Z:St)(tg:Expr)(R:It->Hp->Prop)(itv:Value)(s2:Shared):Prop:=
 ∃(it:Addr) (fp:List Addr) (tn:Nat->Heap->Prop) (cg:It) (H':Hp),itv=.ref it/\Inv X ak Z H' s2/\Turn X.prog X.w X.K tg cg fp it tn/\tn 0 s2.heap/\(∀b∈fp,jo X ak H' b)/\R cg H'
def PI(X:Cx)(tg iter:Expr)(wi:TI):Prop:=
 ∀(ak:List (Addr×Obj)) (s:Shared) (Z:St) (H:Hp) (R:It->Hp->Prop),Inv X ak Z H s->wi Z H R->
  wpAny (model X.prog X.w) X.A (eval iter X.env) (λv s1=>wpAny (model X.prog X.w) X.A (pyIter v) (PIE X ak Z tg R) X.xe s1) X.xe s
theorem R3{M:Model}{A:Around}{E:Value->Shared->Prop}{s:Shared}{tg:Expr}{it:Addr}{u:Value}{o:Obj}{n:String}{vs:Array Value}{Q:Unit->Shared->Prop}(ho:s.heap.get? it=some o)(hc:o.cls=.type n)(hd:o.data=.fields vs)
  (hn:["enumerate","zip","dict_itemiterator","dict_reverseitemiterator","odict_iterator","itertools.zip_longest","itertools.pairwise"].contains n=false) (hQ:Q () s):wpAny M A (letOwnedTupleGo tg (.ref it) u) Q E s:=by
 unfold letOwnedTupleGo;cases tg<;>first
  |exact aP hQ
  | (cases u<;>first
    |exact aP hQ
    | (show aB (wpAny_load ho ?_)
       rw[hc,hd];change wpAny M A (if (["enumerate","zip","dict_itemiterator","dict_reverseitemiterator","odict_iterator","itertools.zip_longest","itertools.pairwise"].contains n&&vs[0]?==some (rawInt _))=true then _ else _) Q E s;rw[if_neg (by intro h;rw[hn,FW]at h;cases h)];show aP hQ))
noncomputable def Ox(K:W.Frag)(a:Addr):It:=
 ⟨λi H=>∃xs x,cY K H a xs/\xs[i]?=some x,λi H x H'=>H'=H/\∀xs,cY K H a xs->xs[i]?=some x,λi H=>∃xs,cY K H a xs/\xs.length<=i⟩
noncomputable def R4(K:W.Frag)(a:Addr):It:=
 ⟨λi H=>∃xs x,fQ K H a xs/\xs[i]?=some x,λi H x H'=>H'=H/\∀xs,fQ K H a xs->xs[i]?=some x,λi H=>∃xs,fQ K H a xs/\xs.length<=i⟩
noncomputable def Iv(lo:Int)(n:Nat):It:=⟨λi _=>i<n,λi H x H'=>H'=H/\x=.int (lo+i),λi _=>n<=i⟩
theorem zfG{P:Program}{w:World}{K:W.Frag}{tg:Expr}(a it:Addr):Turn P w K tg (Ox K a) [it] it (λi h=>h.IsListIter it a i) where
 mem:=by simp
 obj:=λi h st b hb=>by
  let e:b=it:=by simpa using hb
  subst e;let⟨o,e,c,d⟩:=st;show⟨o,e,λv z=>by rw[d]at z;cases z⟩
 keep:=λi h h' st k=>st.at λo e=>k it V8 o e
 item:=by
  intro X hP hw hK hc i ak s Z H E I hf st hg;subst hP hw hK;let⟨xs,x,hq,hx⟩:=hg;let⟨its,rv,p,hz⟩:=I.list hq;let⟨u,hu,ru⟩:=rv.get hx;let⟨f0,f1,f2,f3,f4,f5⟩:=hf it V8;show wpAny_pyNext_list_item st p.isList (x:=u) (by simpa using hu) λh' st' sb=>?_;let I1:Inv X ak Z H {s with heap:=h'}:=I.turned (t':=s.toks) (λb o hb e=>(sb.2 b hb).trans e) f0 f1 f3 f4 f5;let⟨o,e,c,d⟩:=id st';show⟨u,rfl,R3 (s:={s with heap:=h'}) e c d J0 ⟨x,H,I1,ru,⟨rfl,λys hy=>by rw[I.n6 hy hq];show hx⟩,st',λb hb=>(hf b hb).1⟩⟩
 done:=by
  intro X hP hw hK hc i ak s Z H E I hf st hg;subst hP hw hK;let⟨xs,hq,hx⟩:=hg;let⟨its,rv,p,hz⟩:=I.list hq;let⟨f0,f1,f2,f3,f4,f5⟩:=hf it V8;let hl:=rv.length;show wpAny_pyNext_list_end (I.ok.hd hc) st p.isList (by simp;lia) λh' eb=>⟨rfl,I.turned (t':=s.toks) (λb o hb e=>eb b o hb e) f0 f1 f3 f4 f5⟩
 self:=λ_ _ _ _ _ st h=>wpAny_pyIter_listiter st h
theorem zeN{P:Program}{w:World}{K:W.Frag}{tg:Expr}(a it:Addr):Turn P w K tg (R4 K a) [it] it (λi h=>h.IsTupleIter it a i) where
 mem:=by simp
 obj:=λi h st b hb=>by
  let e:b=it:=by simpa using hb
  subst e;let⟨o,e,c,d⟩:=st;show⟨o,e,λv z=>by rw[d]at z;cases z⟩
 keep:=λi h h' st k=>st.at λo e=>k it V8 o e
 item:=by
  intro X hP hw hK hc i ak s Z H E I hf st hg;subst hP hw hK;let⟨xs,x,hq,hx⟩:=hg;let⟨its,rv,p,hz⟩:=I.tuple hq;let⟨u,hu,ru⟩:=rv.get hx;let⟨f0,f1,f2,f3,f4,f5⟩:=hf it V8;show wpAny_pyNext_tuple_item st (show s.heap.IsTuple a its.toArray from p) (x:=u) (by simpa using hu) λh' st' sb=>?_;let I1:Inv X ak Z H {s with heap:=h'}:=I.turned (t':=s.toks) (λb o hb e=>(sb.2 b hb).trans e) f0 f1 f3 f4 f5;let⟨o,e,c,d⟩:=id st';show⟨u,rfl,R3 (s:={s with heap:=h'}) e c d J0 ⟨x,H,I1,ru,⟨rfl,λys hy=>by rw[I.lH hy hq];show hx⟩,st',λb hb=>(hf b hb).1⟩⟩
 done:=by
  intro X hP hw hK hc i ak s Z H E I hf st hg;subst hP hw hK;let⟨xs,hq,hx⟩:=hg;let⟨its,rv,p,hz⟩:=I.tuple hq;let⟨f0,f1,f2,f3,f4,f5⟩:=hf it V8;let hl:=rv.length;show wpAny_pyNext_tuple_end (I.ok.hd hc) st (show s.heap.IsTuple a its.toArray from p) (by simp;lia) λh' eb=>⟨rfl,I.turned (t':=s.toks) (λb o hb e=>eb b o hb e) f0 f1 f3 f4 f5⟩
 self:=λ_ _ _ _ _ st h=>wpAny_pyIter_tupleiter st h
theorem zeR{P:Program}{w:World}{K:W.Frag}{tg:Expr}(it:Addr)(lo:Int)(n:Nat):Turn P w K tg (Iv lo n) [it] it (λi h=>IsRangeIter h it (lo+(i:Nat)*1) ((n:Int)-(i:Nat)) 1) where
 mem:=by simp
 obj:=λi h st b hb=>by
  let e:b=it:=by simpa using hb
  subst e;show⟨_,st,λv z=>by
   let z':Data.fields _=Data.cell v:=z;cases z'⟩
 keep:=λi h h' st k=>k it V8 _ st
 item:=by
  intro X hP hw hK hc i ak s Z H E I hf st hg;subst hP hw hK;let⟨f0,f1,f2,f3,f4,f5⟩:=hf it V8;let W:=Walks.range (prog:=X.prog) (w:=X.w) (I.ok.hd hc) it lo 1 n;show W.item i s _ _ hg st λv h' tk hv st' kk=>?_;let⟨t,rfl⟩:=hv;let I1:Inv X ak Z H {s with heap:=h',toks:=tk}:=I.turned (λb o hb e=>kk b o (by simpa using hb) e) f0 f1 f3 f4 f5;show⟨_,rfl,R3 (s:={s with heap:=h',toks:=tk}) (n:="range_iterator") st' rfl rfl J0 ⟨.int (lo+i),H,I1,⟨t,?_⟩,⟨rfl,rfl⟩,st',λb hb=>(hf b hb).1⟩⟩;rw[Int.mul_one]
 done:=by
  intro X hP hw hK hc i ak s Z H E I hf st hg;subst hP hw hK;let⟨f0,f1,f2,f3,f4,f5⟩:=hf it V8;show wpAny_pyNext_range_end (I.ok.hd hc) st (by let:n<=i:=hg;lia) λh' eb=>⟨rfl,I.turned (t':=s.toks) (λb o hb e=>eb b o hb e) f0 f1 f3 f4 f5⟩
 self:=λ_ _ _ _ _ st h=>wpAny_pyIter_rangeiter st h
section
variable {X:Cx}{tg:Expr}
theorem Zg{ak:List (Addr×Obj)}{Z:St}{H:Hp}{s:Shared}{R:It->Hp->Prop}{E:Value->Shared->Prop}{lo hi:Int}{t u v:Tok}{tk:Nat}(I:Inv X ak Z H s)(h1 : -(2^62)<=lo)(h2:lo<2^62)(h3 : -(2^62)<=hi)(h4:hi<2^62)
  (q:R (Iv lo (hi-lo).toNat) H):wpAny (model X.prog X.w) X.A (pyIter (.ref s.heap.objs.size)) (PIE X ak Z tg R) E {s with heap:=s.heap.push {cls:=.type "range",data:=.fields #[.int lo t,.int hi u,.int 1 v]},toks:=tk}:=by
 show wpAny_pyIter_range (IsRange.new ..) (small_one h1 h2 h3 h4) ?_;let I1:Inv X ak Z H {s with heap:=s.heap.push {cls:=.type "range",data:=.fields #[.int lo t,.int hi u,.int 1 v]},toks:=tk}:=I.kept λb o e=>dD _ e;show⟨(s.heap.push {cls:=.type "range",data:=.fields #[.int lo t,.int hi u,.int 1 v]}).objs.size,[(s.heap.push {cls:=.type "range",data:=.fields #[.int lo t,.int hi u,.int 1 v]}).objs.size],_,_,H,rfl,
  I1.kept (t':=tk) λb o e=>dD _ e,zeR _ lo (hi-lo).toNat,?_,λb hb=>?_,q⟩
 .let e1:lo+((0:Nat):Int)*1=lo:=by simp
  let e2:(((hi-lo).toNat:Nat):Int)-((0:Nat):Int)=Builtin.Range.rangeSize lo hi 1:=by rw[rangeSize_one];split<;>lia
  change IsRangeIter _ _ (lo+((0:Nat):Int)*1) ((((hi-lo).toNat:Nat):Int)-((0:Nat):Int)) 1;rw[e1,e2];show gK _ rfl
 .let e:b=(s.heap.push {cls:=.type "range",data:=.fields #[.int lo t,.int hi u,.int 1 v]}).objs.size:=by simpa using hb
  subst e;show I1.uH (bQ _) (I1.hok.fresh (bQ _))
noncomputable def Iw(ta:TA):TI:=λZ H R=>ta Z H λvs H1=>∃j:Int,vs=[.int j]/\-(2^62)<=j/\j<2^62/\R (Iv 0 j.toNat) H1
noncomputable def Iz(ta:TA):TI:=λZ H R=>ta Z H λvs H1=>∃i j:Int,vs=[.int i,.int j]/\(-(2^62)<=i/\i<2^62/\-(2^62)<=j/\j<2^62)/\R (Iv i (j-i).toNat) H1
theorem zgb{a:Expr}{ta:TA}{p pos:Pos}(hg:Gl X "range")(hm:X.mg "range"=none)(ha:PA X [a] ta)(hs:starEach [a] X.env=[(false,eval a X.env)]:=by rfl):PI X tg (.Call (.Name "range" p) [a] [] pos) (Iw ta):=by
 intro ak s Z H R I h;show Call_ (sY I hg hm boot_range (xH (bD (ha pos ak s Z H _ I h) λus s1 hx=>gb hx λvs H1 I1 r1 q1=>?_) hs rfl));let⟨j,e,q1,q2,q⟩:=q1;subst e;cases r1 with
 |cons r rr=>
  cases rr;let⟨t,rfl⟩:=r;show call_range_1 (Zg I1 gV gV q1 q2 (by simpa using q))
theorem zgR{a b:Expr}{ta:TA}{p pos:Pos}(hg:Gl X "range")(hm:X.mg "range"=none)(ha:PA X [a,b] ta)(hs:starEach [a,b] X.env=[(false,eval a X.env),(false,eval b X.env)]:=by rfl)(yc:starEach [b] X.env=[(false,eval b X.env)]:=by rfl) :
  PI X tg (.Call (.Name "range" p) [a,b] [] pos) (Iz ta):=by
 intro ak s Z H R I h;show Call_ (sY I hg hm boot_range (xH (bD (ha pos ak s Z H _ I h) λus s1 hx=>gb hx λvs H1 I1 r1 q1=>?_) (by rw[hs,yc]) (by rw[yc];rfl)));let⟨i,j,e,⟨q1,q2,q3,q4⟩,q⟩:=q1;subst e;cases r1 with
 |cons r rr=>
  cases rr with
  |cons r' rr=>
   cases rr;let⟨t,rfl⟩:=r;let⟨t',rfl⟩:=r';show call_range_2 (Zg I1 q1 q2 q3 q4 q)
noncomputable def R5(wi:TI)(g:TG)(tb:TS):TS:=λD Z H=>wi Z H λcg H1=>∃W:Nat->Nat->St->Hp->Prop,(∃m,W 0 m Z H1)/\∀i m Z H,W i m Z H->
 (cg.stop i H/\D.nx Z H)\/(cg.go i H/\∃N:St->Hp->Prop,(∀Z' H',N Z' H'->∃m',m'<m/\W (i+1) m' Z' H')/\∀x H',cg.CK i H x H'->g x Z H' λZ2 H2=>tb {D with nx:=N,ct:=N,bk:=D.nx} Z2 H2)
noncomputable def jV(fp:List Addr)(h:Heap):List (Addr×Obj):=fp.filterMap λb=>(h.get? b).map λo=>(b,o)
theorem Oz{fp:List Addr}{h:Heap}{b:Addr}{o:Obj}(hb:b∈fp)(e:h.get? b=some o):(b,o)∈jV fp h:=zY.mpr ⟨b,hb,by rw[e];rfl⟩
theorem zfY{fp:List Addr}{h:Heap}{p:Addr×Obj}(hp:p∈jV fp h):p.1∈fp/\h.get? p.1=some p.2:=by
 let⟨b,hb,e⟩:=zY.mp hp;cases q:h.get? b with
 |none=>rw[q]at e;cases e|some o=>
  rw[q]at e;let e':(b,o)=p:=dM e;subst e';show⟨hb,q⟩
theorem Inv.pinned{ak:List (Addr×Obj)}{Z:St}{H:Hp}{s:Shared}{fp:List Addr}(I:Inv X ak Z H s)(hf:∀b∈fp,jo X ak H b)(ho:∀b∈fp,∃o,s.heap.get? b=some o/\∀v,o.data≠.cell v):Inv X (ak++jV fp s.heap) Z H s:=
 I.mF λp hp=>(dw.mp hp).elim (λz=>I.pin p (oV _ z)) λz=>by
  let⟨hb,e⟩:=zfY z;let⟨f0,f1,f2,_⟩:=hf p.1 hb;let⟨o,e',d⟩:=ho p.1 hb;rw[e]at e';cases e';show⟨e,f0,f1,f2,d⟩
theorem Inv.iU{ak pl:List (Addr×Obj)}{Z:St}{H:Hp}{s:Shared}(I:Inv X (ak++pl) Z H s):Inv X ak Z H s:=I.mF λp hp=>I.pin p (oV _ (nR _ hp))
theorem zm2{iter:Expr}{body:List Stmt}{wi:TI}{g:TG}{tb:TS}{pos:Pos}(hp:PassesOwn (model X.prog X.w) X.A X.env X.xe)(hc:X.aj=true)(hi:PI X tg iter wi)(hg:PG X tg g)(hb:pq X body tb)
  (hs:∀x,foldedSetIterable iter X.env x=pure x:=by intro _;rfl):PS X (.For tg iter body [] pos) (R5 wi g tb):=by
 intro ak s Z H D I h;show wpAny_For (bD (hi ak s Z H _ I h) λv s1 h1=>bD h1 λitv s2 h2=>?_) hs;let⟨it,fp,tn,cg,H2,e,I2,T,st2,f2,W,⟨m0,w0⟩,turn⟩:=h2;subst e;let stat:∀{H':Hp},(∀b∈fp,H' b=none)->∀b∈fp,jo X ak H' b:=λhn b hb=>⟨hn b hb,(f2 b hb).2⟩;show codeAny_forLoop_any (λn s'=>∃i Z' H',Inv X ak Z' H' s'/\tn i s'.heap/\(∀b∈fp,H' b=none)/\W i n Z' H') ?_ m0 ⟨0,Z,H2,I2,st2,λb hb=>(f2 b hb).1,w0⟩;rintro n s3 ⟨i,Z3,H3,I3,st3,Zh,w3⟩;rcases turn i n Z3 H3 w3 with ⟨stop,qn⟩|⟨go,N,hN,step⟩
 .refine BZ hp (bD (T.done X rfl rfl rfl hc i ak s3 Z3 H3 X.xe I3 (stat Zh) st3 stop) λr s4 ⟨hr,I4⟩=>?_);subst hr;show N8 ⟨Z3,H3,I4,qn⟩
 .refine BZ hp (bD (T.item X rfl rfl rfl hc i ak s3 Z3 H3 X.xe I3 (stat Zh) st3 go) λr s4 hx=>wk hx λu hr h4=>?_);subst hr;show BZ hp (bD h4 λ_ s5 hz=>?_);let⟨x,H5,I5,r5,y5,Gh,OD⟩:=hz;let I5':=I5.pinned (stat OD) (T.obj _ _ Gh);show BZ hp (bD (hg _ s5 Z3 H5 x u _ I5' r5 (step x H5 y5)) λ_ s6 hz=>?_);let⟨Z6,H6,I6,q6⟩:=hz;show BZ hp (bD (hb _ s6 Z6 H6 _ I6 q6) λf s7 q7=>?_);let again:∀{Z7:St} {H7:Hp},Inv X (ak++jV fp s5.heap) Z7 H7 s7->N Z7 H7->∃m,m<n/\∃i Z' H',Inv X ak Z' H' s7/\tn i s7.heap/\(∀b∈fp,H' b=none)/\W i m Z' H':=λ{Z7 H7} I7 n7=>by
   let⟨m',hm,w7⟩:=hN Z7 H7 n7;show⟨m',hm,i+1,Z7,H7,I7.iU,T.keep _ _ _ Gh λb hb o e=>(I7.pin (b,o) (oV _ (oV _ (Oz hb e)))).1,λb hb=>?_,w7⟩;let⟨o,e,d⟩:=T.obj _ _ Gh b hb;show(I7.pin (b,o) (oV _ (oV _ (Oz hb e)))).2.1
  cases f with
  |next=>let⟨Z7,H7,I7,n7⟩:=q7;show again I7 n7|cont=>let⟨Z7,H7,I7,n7⟩:=q7;show again I7 n7|brk=>let⟨Z7,H7,I7,q7⟩:=q7;show⟨Z7,H7,I7.iU,q7⟩|ret v=>let⟨x7,Z7,H7,I7,r7,q7⟩:=q7;show⟨x7,Z7,H7,I7.iU,r7,q7⟩
end
noncomputable abbrev R2:=V->V->Hp->VK->Prop
def fH(X:Cx)(f:Value->Value->Sem Value)(r:R2):Prop:=
 ∀(ak:List (Addr×Obj)) (s:Shared) (Z:St) (H:Hp) (x y:V) (v u:Value) (Q:VK),Inv X ak Z H s->RelV x v->RelV y u->r x y H Q->
  wpAny (model X.prog X.w) X.A (f v u) (EP X ak Z Q) X.xe s
def OJ(X:Cx)(f:Value->Sem Value)(r:V->Hp->VK->Prop):Prop:=
 ∀(ak:List (Addr×Obj)) (s:Shared) (Z:St) (H:Hp) (x:V) (v:Value) (Q:VK),Inv X ak Z H s->RelV x v->r x H Q->
  wpAny (model X.prog X.w) X.A (f v) (EP X ak Z Q) X.xe s
def cL(X:Cx)(f:Value)(r:List V->Hp->VK->Prop):Prop:=
 ∀(ak:List (Addr×Obj)) (s:Shared) (Z:St) (H:Hp) (xs:List V) (us:List Value) (Q:VK),Inv X ak Z H s->Vals xs us->r xs H Q->
  wpAny (model X.prog X.w) X.A (call f us) (EP X ak Z Q) X.xe s
noncomputable def Gi(r:R2)(ta tb:TE):TE:=λZ H Q=>ta Z H λx H1=>tb Z H1 λy H2=>r x y H2 Q
noncomputable def tUn(r:V->Hp->VK->Prop)(ta:TE):TE:=λZ H Q=>ta Z H λx H1=>r x H1 Q
noncomputable def rI(C:Int->Int->Prop)(g:Int->Int->V):R2:=λx y H Q=>∃i j,x=.int i/\y=.int j/\C i j/\Q (g i j) H
noncomputable def n8(g:Int->Int->V):R2:=λx y H Q=>∃i j,x=.int i/\y=.int j/\Q (g i j) H
noncomputable def rU(g:Int->V):V->Hp->VK->Prop:=λx H Q=>∃i,x=.int i/\Q (g i) H
section
variable {X:Cx}{a b c:Expr}{ta tb tc:TE}{pos:Pos}
theorem CP(ha:PE X a ta)(hb:PE X b tb){ak:List (Addr×Obj)}{s:Shared}{Z:St}{H:Hp}{R:V->V->Hp->Prop}(I:Inv X ak Z H s)
  (h:ta Z H λx H1=>tb Z H1 λy H2=>R x y H2) {Q:Value->Shared->Prop} {f:Value->Value->Sem Value}
  (hf:∀v u s2 x y H2,Inv X ak Z H2 s2->RelV x v->RelV y u->R x y H2->wpAny (model X.prog X.w) X.A (f v u) Q X.xe s2) :
  wpAny (model X.prog X.w) X.A (eval a X.env) (λv s₁=>wpAny (model X.prog X.w) X.A (eval b X.env) (λu s₂=>wpAny (model X.prog X.w) X.A (f v u) Q X.xe s₂) X.xe s₁) X.xe s:=by
 show bD (ha ak s Z H _ I h) λv s1 hx=>gb hx λx H1 I1 r1 q1=>?_;show bD (hb ak s1 Z H1 _ I1 q1) λu s2 hx=>gb hx λy H2 I2 r2 q2=>?_;show hf v u s2 x y H2 I2 r1 r2 q2
theorem zog{op:Operator}{r:R2}(ho:fH X (binaryOp op) r)(ha:PE X a ta)(hb:PE X b tb):PE X (.BinOp a op b pos) (Gi r ta tb):=by
 intro ak s Z H Q I h;show wpAny_BinOp (CP ha hb I h λv u s2 x y H2 I2 rx ry q=>ho ak s2 Z H2 x y v u Q I2 rx ry q)
theorem Zi{op:UnaryOp}{r:V->Hp->VK->Prop}(ho:OJ X (unaryOp op) r)(ha:PE X a ta):PE X (.UnaryOp op a pos) (tUn r ta):=by
 intro ak s Z H Q I h;show UnaryOp_ (bD (ha ak s Z H _ I h) λv s1 hx=>gb hx λx H1 I1 r1 q1=>ho ak s1 Z H1 x v Q I1 r1 q1)
theorem O1{f:Value->Value->Sem Value}{C:Int->Int->Prop}{g:Int->Int->Int}
  (rule:∀(i j:Int) (t u:Tok) (s:Shared) (Q:Value->Shared->Prop) (E:Value->Shared->Prop),C i j->Q (.int (g i j) s.toks) {s with toks:=s.toks+1}->wpAny (model X.prog X.w) X.A (f (.int i t) (.int j u)) Q E s) :
  fH X f (rI C λi j=>.int (g i j)):=by
 intro ak s Z H x y v u Q I rx ry h;let⟨i,j,rfl,rfl,hc,q⟩:=h;let⟨t,rfl⟩:=rx;let⟨t',rfl⟩:=ry;show rule i j t t' s _ _ hc ⟨.int (g i j),H,I.tok _,⟨_,rfl⟩,q⟩
theorem IK{f:Value->Value->Sem Value}{g:Int->Int->Int}
  (rule:∀(i j:Int) (t u:Tok) (s:Shared) (Q:Value->Shared->Prop) (E:Value->Shared->Prop),Q (.int (g i j) s.toks) {s with toks:=s.toks+1}->wpAny (model X.prog X.w) X.A (f (.int i t) (.int j u)) Q E s) :
  fH X f (n8 λi j=>.int (g i j)):=by
 intro ak s Z H x y v u Q I rx ry h;let⟨i,j,rfl,rfl,q⟩:=h;let⟨t,rfl⟩:=rx;let⟨t',rfl⟩:=ry;show rule i j t t' s _ _ ⟨.int (g i j),H,I.tok _,⟨_,rfl⟩,q⟩
theorem yd{f:Value->Value->Sem Value}{g:Int->Int->Bool}
  (rule:∀(i j:Int) (t u:Tok) (s:Shared) (Q:Value->Shared->Prop) (E:Value->Shared->Prop),Q (.bool (g i j)) s->wpAny (model X.prog X.w) X.A (f (.int i t) (.int j u)) Q E s) :
  fH X f (n8 λi j=>.bl (g i j)):=by
 intro ak s Z H x y v u Q I rx ry h;let⟨i,j,rfl,rfl,q⟩:=h;let⟨t,rfl⟩:=rx;let⟨t',rfl⟩:=ry;show rule i j t t' s _ _ ⟨.bl (g i j),H,I,rfl,q⟩
def yg(i j:Int):Prop:=0<j/\j<1073741824
def IV(i j:Int):Prop:=0<=j/\j<=1000000/\i.natAbs<2^64
def yh(i j:Int):Prop:=(-(2^64)<i/\i<2^64)\/(-(2^64)<j/\j<2^64)
theorem yh.ok{i j:Int}(h:yh i j):IntMulOk i j:=by
 rcases h with ⟨h1,h2⟩|⟨h1,h2⟩
 .exact .of_left (intBits_le_64 h1 h2)
 .exact .of_right (intBits_le_64 h1 h2)
theorem CQ:fH X (binaryOp .Add) (n8 λi j=>.int (i+j)):=IK λ_ _ _ _ _ _ _ q=>add_int q
theorem zly:fH X (binaryOp .Sub) (n8 λi j=>.int (i-j)):=IK λ_ _ _ _ _ _ _ q=>sub_int q
theorem zle:fH X (binaryOp .Mult) (rI yh λi j=>.int (i*j)):=O1 λ_ _ _ _ _ _ _ hc q=>mul_int q hc.ok
theorem zj5:fH X (binaryOp .FloorDiv) (rI yg λi j=>.int (i/j)):=O1 λi j _ _ _ _ _ hc q=>by
 let h1:(0:Int)<j:=hc.1;let h2:j<1073741824:=hc.2;show floordiv_int gV (by rw[Int.fdiv_eq_ediv_of_nonneg i gV];show q) (.inl (PyProof.noPylong_small gV))
theorem zlv:fH X (binaryOp .Mod) (rI (λ_ j=>0<j) λi j=>.int (i%j)):=O1 λi j _ _ _ _ _ hc q=>by
 let h1:(0:Int)<j:=hc;show mod_int' gV (by rw[Int.fmod_eq_emod_of_nonneg i gV];show q)
theorem zlB:fH X (binaryOp .Pow) (rI IV λi j=>.int (i^j.toNat)):=O1 λ_ _ _ _ _ _ _ hc q=>pow_int_small hc.1 hc.2.1 hc.2.2 q
theorem unI{f:Value->Sem Value}{g:Int->Int}
  (rule:∀(i:Int) (t:Tok) (s:Shared) (Q:Value->Shared->Prop) (E:Value->Shared->Prop),Q (.int (g i) s.toks) {s with toks:=s.toks+1}->wpAny (model X.prog X.w) X.A (f (.int i t)) Q E s) :
  OJ X f (rU λi=>.int (g i)):=by
 intro ak s Z H x v Q I rx h;let⟨i,rfl,q⟩:=h;let⟨t,rfl⟩:=rx;show rule i t s _ _ ⟨.int (g i),H,I.tok _,⟨_,rfl⟩,q⟩
theorem Zj:OJ X (unaryOp .USub) (rU λi=>.int (-i)):=unI λ_ _ _ _ _ q=>neg_int q
end
section
variable {X:Cx}{a b c:Expr}{ta tb tc:TE}{pos:Pos}
theorem IW:fH X (compareOp .Lt) (n8 λi j=>.bl (decide (i<j))):=yd λ_ _ _ _ _ _ _ q=>lt_int q
theorem zoy:fH X (compareOp .LtE) (n8 λi j=>.bl (decide (i<=j))):=yd λ_ _ _ _ _ _ _ q=>le_int q
theorem zoh:fH X (compareOp .Gt) (n8 λi j=>.bl (decide (j<i))):=yd λ_ _ _ _ _ _ _ q=>gt_int q
theorem zoJ:fH X (compareOp .GtE) (n8 λi j=>.bl (decide (j<=i))):=yd λ_ _ _ _ _ _ _ q=>ge_int q
theorem fH.or{f:Value->Value->Sem Value}{r r':R2}(h:fH X f r)(h':fH X f r'):fH X f (λx y H Q=>r x y H Q\/r' x y H Q):=by
 intro ak s Z H x y v u Q I rx ry q;rcases q with q|q
 .exact h ak s Z H x y v u Q I rx ry q
 .exact h' ak s Z H x y v u Q I rx ry q
theorem zkL{op:CmpOp}{r:R2}(ho:fH X (compareOp op) r)(ha:PE X a ta)(hb:PE X b tb)(hm:behindInMarks op b=false):PE X (.Compare a [op] [b] pos) (Gi r ta tb):=by
 intro ak s Z H Q I h;show wpAny_Compare1 (CP ha hb I h λv u s2 x y H2 I2 rx ry q=>ho ak s2 Z H2 x y v u Q I2 rx ry q) hm
noncomputable def Al(t:TE):TT:=λZ H Q=>t Z H λx H'=>∃k,x=.bl k/\Q k H'
theorem zjn{op:CmpOp}{r:R2}(ho:fH X (compareOp op) r)(ha:PE X a ta)(hb:PE X b tb)(hm:behindInMarks op b=false):PT X (.Compare a [op] [b] pos) (Al (Gi r ta tb)):=by
 intro ak s Z H Q I h;show Q9 (bD (ha ak s Z H _ I h) λv s1 hx=>gb hx λx H1 I1 r1 q1=>bD (hb ak s1 Z H1 _ I1 q1) λu s2 hx=>gb hx λy H2 I2 r2 q2=>
  bD (ho ak s2 Z H2 x y v u _ I2 r1 r2 q2) λc s3 hx=>Oi hx λz H3 I3 r3 k e q3=>?_) hm
 subst e;cases r3;show xM ⟨H3,I3,q3⟩
noncomputable def CT(r r':R2)(ta tb tc:TE):TE:=λZ H Q=>ta Z H λx H1=>tb Z H1 λy H2=>r x y H2 λz H3=>∃k,z=.bl k /\
 (if k=true then tc Z H3 λw' H4=>r' y w' H4 Q else Q (.bl false) H3)
theorem zib{op op':CmpOp}{r r':R2}(ho:fH X (compareOp op) r)(uE:fH X (compareOp op') r')(ha:PE X a ta)(hb:PE X b tb)(hc:PE X c tc)
  (hm:lastMarks [op,op'] [b,c]=false:=by with_unfolding_all rfl):PE X (.Compare a [op,op'] [b,c] pos) (CT r r' ta tb tc):=by
 intro ak s Z H Q I h;show Compare_chain (bD (ha ak s Z H _ I h) λv s1 hx=>gb hx λx H1 I1 r1 q1=>chain_link (bD (hb ak s1 Z H1 _ I1 q1) λu s2 hx=>gb hx λy H2 I2 r2 q2=>
  bD (ho ak s2 Z H2 x y v u _ I2 r1 r2 q2) λd s3 hx=>Oi hx λz H3 I3 r3 k e q3=>?_)) hm
 subst e;cases r3;show xM ?_;cases k with
 |false=>show ite_ff ⟨.bl false,H3,I3,rfl,q3⟩|true=>show ite_tt (chain_last (bD (hc ak s3 Z H3 _ I3 q3) λw' s4 hx=>gb hx λz' H4 I4 r4 q4=>uE ak s4 Z H4 y z' u w' Q I4 r2 r4 q4))
theorem jW:(sizeLine:Nat)<2^63:=by rw[uq];decide
theorem ze0:fH X (binaryOp .Add) (λx y H Q=>∃i j,x=.str i/\y=.str j/\i.length+j.length<=sizeLine/\Q (.str (i++j)) H):=by
 intro ak s Z H x y v u Q I rx ry h;let⟨i,j,rfl,rfl,hz,q⟩:=h;let⟨t,rfl⟩:=rx;let⟨t',rfl⟩:=ry;show add_str (λt' tk=>⟨.str (i++j),H,I.tok _,⟨_,rfl⟩,q⟩) hz
theorem vals1{x:V}{us:List Value}(r:Vals [x] us):∃u,us=[u]/\RelV x u:=by
 cases r with
 |cons r1 r2=>cases r2;show⟨_,rfl,r1⟩
theorem vals2{x y:V}{us:List Value}(r:Vals [x,y] us):∃u w',us=[u,w']/\RelV x u/\RelV y w':=by
 cases r with
 |cons r1 r2=>
  cases r2 with
  |cons r3 r4=>cases r4;show⟨_,_,rfl,r1,r3⟩
theorem ziF:cL X (.builtin "abs") (λxs H Q=>∃i,xs=[.int i]/\Q (.int (if i<0 then -i else i)) H):=by
 intro ak s Z H xs us Q I r h;let⟨i,rfl,q⟩:=h;let⟨u,rfl,t,rfl⟩:=vals1 r;show call_abs_int λu tk=>⟨.int (if i<0 then -i else i),H,I.tok _,⟨_,rfl⟩,q⟩
theorem zgZ(hc:X.aj=true):cL X (.builtin "max") (λxs H Q=>∃i j,xs=[.int i,.int j]/\Q (.int (if j>i then j else i)) H):=by
 intro ak s Z H xs us Q I r h;let⟨i,j,rfl,q⟩:=h;let⟨u,w',rfl,⟨t,rfl⟩,⟨t',rfl⟩⟩:=vals2 r;show max_two_ints (I.ok.hd hc) λh' tk k=>⟨_,H,I.kept k,?_,q⟩;by_cases hj:j>i
 .rw[if_pos hj,if_pos hj];show⟨_,rfl⟩
 .rw[if_neg hj,if_neg hj];show⟨_,rfl⟩
theorem zff(hc:X.aj=true):cL X (.builtin "min") (λxs H Q=>∃i j,xs=[.int i,.int j]/\Q (.int (if j<i then j else i)) H):=by
 intro ak s Z H xs us Q I r h;let⟨i,j,rfl,q⟩:=h;let⟨u,w',rfl,⟨t,rfl⟩,⟨t',rfl⟩⟩:=vals2 r;show min_two_ints (I.ok.hd hc) λh' tk k=>⟨_,H,I.kept k,?_,q⟩;by_cases hj:j<i
 .rw[if_pos hj,if_pos hj];show⟨_,rfl⟩
 .rw[if_neg hj,if_neg hj];show⟨_,rfl⟩
theorem zgy:cL X (.type "int") (λxs H Q=>(∃i,xs=[.int i]/\Q (.int i) H)\/∃k,xs=[.bl k]/\Q (.int (if k then 1 else 0)) H):=by
 intro ak s Z H xs us Q I r h;rcases h with ⟨i,rfl,q⟩|⟨k,rfl,q⟩
 .obtain⟨u,rfl,t,rfl⟩:=vals1 r;show call_int_int ⟨.int i,H,I,⟨_,rfl⟩,q⟩
 .obtain⟨u,rfl,r1⟩:=vals1 r;cases r1;show call_int_bool ⟨.int (if k then 1 else 0),H,I.tok _,⟨_,rfl⟩,q⟩
theorem zdG:cL X (.builtin "divmod") (λxs H Q=>∃i j,xs=[.int i,.int j]/\yg i j/\∀p,H p=none->Q (.ref p) (upd H p (.tup [.int (i/j),.int (i%j)]))):=by
 intro ak s Z H xs us Q I r h;let⟨i,j,rfl,⟨h1,h2⟩,q⟩:=h;let⟨u,w',rfl,⟨t,rfl⟩,⟨t',rfl⟩⟩:=vals2 r;show divmod_int gV ?_ (.inl (PyProof.noPylong_small gV));rw[Int.fdiv_eq_ediv_of_nonneg i gV,Int.fmod_eq_emod_of_nonneg i gV];let hn:H s.heap.objs.size=none:=I.hok.fresh (bQ _);show⟨.ref s.heap.objs.size,_,?_,rfl,q _ hn⟩;show I.laid (λb o e=>dD _ e) (bQ _) ⟨by simp only[fP,B_];rw[uq];decide,[.int (i/j) s.toks,.int (i%j) (s.toks+1)],.cons ⟨_,rfl⟩ (.cons ⟨_,rfl⟩ .nil),?_⟩;show⟨_,gK s.heap rfl,rfl,0,rfl,rfl⟩
end
structure cC(k:Nat)(A:Around):Prop where
 dp:A.depth+3*k+5<recursionLimit
 un:A.units+16*k+200<cLine
 gd:A.guards=some []
theorem cC.deeper{k:Nat}{A:Around}(r:cC (k+1) A)(env:Env):cC k (A.deeper env):=
 ⟨by let:=r.dp;change A.depth+1+3*k+5<_;lia,by let:=r.un;change A.units+3+16*k+200<_;lia,r.gd⟩
theorem cC.depth{k:Nat}{A:Around}(r:cC k A):A.depth<recursionLimit:=by let:=r.dp;lia
noncomputable def R6:TA:=λ_ H Q=>Q [] H
noncomputable def I8(ta:TE)(tr:TA):TA:=λZ H Q=>ta Z H λx H1=>tr Z H1 λxs H2=>Q (x::xs) H2
section
variable {X:Cx}{e:Expr}{es:List Expr}{te:TE}{t:TA}{pos:Pos}
theorem CV:PA X [] R6:=λ_ _ _ _ H Q I h=>Nz ⟨[],H,I,.nil,h⟩
theorem wA(ha:PE X e te)(hr:PA X es t)(hs:starEach (e::es) X.env=(false,eval e X.env)::starEach es X.env:=by rfl):PA X (e::es) (I8 te t):=by
 intro pos ak s Z H Q I h;rw[hs];change wpAny _ _ (spliced ((false,eval e X.env)::backTo pos (starEach es X.env))) _ _ s;show Nt (bD (ha ak s Z H _ I h) λu s1 hx=>gb hx λx H1 I1 r1 q1=>?_);show bD (hr pos ak s1 Z H1 _ I1 q1) λus s2 hx=>gb hx λxs H2 I2 r2 q2=>⟨x::xs,H2,I2,.cons r1 r2,q2⟩
noncomputable def R7(t:TA):TE:=λZ H Q=>t Z H λxs H1=>xs.length<=sizeLine/\∀p,H1 p=none->Q (.ref p) (upd H1 p (.tup xs))
noncomputable def R8(t:TA):TE:=λZ H Q=>t Z H λxs H1=>xs.length<=sizeLine/\∀p,H1 p=none->Q (.ref p) (upd H1 p (.lst xs))
theorem zmu{x1}(h:PA X es t):PE X (.Tuple es x1 pos) (R7 t):=by
 intro ak s Z H Q I hq;show wpAny_Tuple_spliced (bD (h pos ak s Z H _ I hq) λus s1 ⟨xs,H1,I1,r,z,q⟩=>⟨by rw[<-r.length];show z,?_⟩);let hf:H1 s1.heap.objs.size=none:=I1.hok.fresh (bQ _);show⟨.ref s1.heap.objs.size,upd H1 s1.heap.objs.size (.tup xs),I1.laid (t':=s1.toks) (λb u e=>dD _ e) (bQ _) ?_,rfl,q _ hf⟩;show⟨z,us,r,⟨_,gK _ rfl,rfl,_,rfl,rfl⟩⟩
theorem zlc(h:PA X es t):PE X (.List es pos) (R8 t):=by
 intro ak s Z H Q I hq;show wpAny_List_spliced (bD (h pos ak s Z H _ I hq) λus s1 ⟨xs,H1,I1,r,z,q⟩=>⟨by rw[<-r.length];show z,?_⟩);let hf:H1 s1.heap.objs.size=none:=I1.hok.fresh (bQ _);show⟨.ref s1.heap.objs.size,upd H1 s1.heap.objs.size (.lst xs),I1.laid (t':=s1.toks) (λb u e=>dD _ e) (bQ _) ?_,rfl,q _ hf⟩;show⟨z,us,0,r,gK _ rfl⟩
end
noncomputable abbrev Sp:=List V->Hp->VK->XK->Prop
noncomputable abbrev sZ:=List Env->Hp->Shared->XK->Value->Shared->Prop
structure yj(P:Program)(w:World)(K:W.Frag)(mg:Str->Option Value)(base:Heap)(A:Around)(outer:List Env)(s:Shared)(H:Hp):Prop where
 frames:A.frames=some outer
 mod:Mod K mg base
 bs:∀b o,base.get? b=some o->s.heap.get? b=some o/\H b=none
 Ai:base.objs.size<=s.heap.objs.size
 jU:s.heap.FunFrames base outer
 Gg:∀b∈frs outer,H b=none
 hok:iI P w H s.heap
 bare:AllBare s.gens
def CE(outer:List Env)(P:Program)(w:World)(H:Hp)(s:Shared)(Q:VK)(u:Value)(s':Shared):Prop:=
 ∃v H',s'.os=s.os/\AllBare s'.gens/\Un (frs outer) [] H H' s.heap s'.heap/\iI P w H' s'.heap/\RelV v u/\Q v H'
def CR(CX:sZ)(outer:List Env)(P:Program)(w:World)(H:Hp)(s:Shared)(Q:VK)(E:XK)(r:Result)(s':Shared):Prop:=
 match r with
 |.ok (.ret u)=>CE outer P w H s Q u s'|.ok _=>False|.error e=>CX outer H s E e s'
structure fU(P:Program)(w:World)(K:W.Frag)(mg:Str->Option Value)(base:Heap)(CX:sZ)(cm:Bool)(k:Nat)(f:Addr)(fd:FuncData)(ps:List Str)(sp:Sp):Prop where
 len:∀vs H Q E,sp vs H Q E->vs.length=ps.length
 run:∀(A:Around) (outer:List Env) (s:Shared) (H:Hp) (args:Args) (us:List Value) (vs:List V) (Q:VK) (E:XK),(cm=true->A.handled=none)->cC k A->yj P w K mg base A outer s H->BindsTo s fd args (ps.zip us)->Vals vs us->sp vs H Q E->
  codeAny (model P w) A (.call (.ref f) args) (CR CX outer P w H s Q E) s
theorem fU.imp{P:Program}{w:World}{K:W.Frag}{mg:Str->Option Value}{base:Heap}{CX:sZ}{cm:Bool}{k:Nat}{f:Addr}{fd:FuncData}{ps:List Str}{sp Zk:Sp}(F:fU P w K mg base CX cm k f fd ps sp)
  (h:∀vs H Q E,Zk vs H Q E->sp vs H Q E):fU P w K mg base CX cm k f fd ps Zk:=
 ⟨λvs H Q E q=>F.len vs H Q E (h _ _ _ _ q),λA outer s H args us vs Q E rH hr he hb hv hs=>F.run A outer s H args us vs Q E rH hr he hb hv (h _ _ _ _ hs)⟩
section
variable {X:Cx}{ak:List (Addr×Obj)}{Z:St}{H:Hp}{s s':Shared}
theorem Inv.env0(I:Inv X ak Z H s):yj X.prog X.w X.K X.mg X.base X.A X.stack s H:=
 ⟨I.ok.frames,I.ok.mod,I.bs,jf I.ok.Ai I.sz,I.stack,I.jL,I.hok,I.bare⟩
theorem Inv.after{Q:VK}{u:Value}(I:Inv X ak Z H s)(h:CE X.stack X.prog X.w H s Q u s'):EP X ak Z Q u s':=by
 let⟨v,H',os,bare,un,hok,r,q⟩:=h;let⟨hh,g,d,t,os'⟩:=s';obtain rfl:os'=s.os:=os;show⟨v,H',I.call (h':=hh) (g':=g) (d':=d) (t':=t) (ch:=[]) un hok bare (λb z=>absurd z V8),r,q⟩
end
def Binds(K:W.Frag)(fd:FuncData)(ps:List Str)(ds:List Value):Prop:=
 ∀(s:Shared) (us:List Value),K.In s.heap->(us++ds).length=ps.length->BindsTo s fd ⟨us,[]⟩ (ps.zip (us++ds))
theorem Binds.all{K:W.Frag}{fd:FuncData}{ps:List Str}(h:∀us:List Value,us.length=ps.length->bindArgs fd ⟨us,[]⟩=pure (ps.zip us)):Binds K fd ps []:=λs us _ hl=>by
 rw[sV]at hl ⊢;show .of_eq (h us hl)
structure gF(N P:List Str)(sc:Scope):Prop where
 kind:sc.kind=.function
 co:sc.isCoroutine=false
 gen:sc.isGenerator=false
 nd:N.Nodup
 pre:N.take P.length=P
 par:∀x∈P,sc.names.lookup x=some .local\/sc.names.lookup x=some .cell
 CW:∀y∈sc.names,y.2≠.free
theorem Zm{kindOf:Str->Option NameKind}{x:Str}:∀{binds:List (Str×Value)} {m:Str->Option Value},(∀v,(x,v)∉binds)->bindL kindOf binds m x=m x
 |[],_,_=>rfl|(n,v)::r,m,h=>by
  unfold bindL;rw[Zm λw hw=>h w (fZ _ hw)]
  split
  .let:x≠n:=by rintro rfl;show h v jH
   simp[this]
  .rfl
theorem Zn{kindOf:Str->Option NameKind}{x:Str}:∀{binds:List (Str×Value)} {m:Str->Option Value},(∀v,(x,v)∉binds)->bindC kindOf binds m x=m x
 |[],_,_=>rfl|(n,v)::r,m,h=>by
  unfold bindC;rw[Zn λw hw=>h w (fZ _ hw)]
  split
  .rfl
  .let:x≠n:=by rintro rfl;show h v jH
   simp[this]
theorem Zo{kindOf:Str->Option NameKind}{x:Str}{v:Value}:∀{P:List Str} {vs:List Value} {i:Nat} {m:Str->Option Value},P.Nodup->P[i]?=some x->vs[i]?=some v->kindOf x=some .local->
  bindL kindOf (P.zip vs) m x=some v
 |[],_,_,_,_,h,_,_=>by simp at h|_::_,[],_,_,_,_,h,_=>by simp at h|p::P,w::vs,0,m,nd,h1,h2,hk=>by
  simp at h1 h2;subst h1;subst h2;change bindL kindOf ((p,w)::P.zip vs) m p=_;unfold bindL;rw[Zm λv hv=>(rE.mp nd).1 (Af hv).1,if_pos hk];simp
 |p::P,w::vs,i+1,m,nd,h1,h2,hk=>by
  change bindL kindOf ((p,w)::P.zip vs) m x=_;unfold bindL;show Zo (i:=i) (rE.mp nd).2 (by simpa using h1) (by simpa using h2) hk
theorem Zq{kindOf:Str->Option NameKind}{x:Str}{v:Value}:∀{P:List Str} {vs:List Value} {i:Nat} {m:Str->Option Value},P.Nodup->P[i]?=some x->vs[i]?=some v->kindOf x≠some .local->
  bindC kindOf (P.zip vs) m x=some v
 |[],_,_,_,_,h,_,_=>by simp at h|_::_,[],_,_,_,_,h,_=>by simp at h|p::P,w::vs,0,m,nd,h1,h2,hk=>by
  simp at h1 h2;subst h1;subst h2;change bindC kindOf ((p,w)::P.zip vs) m p=_;unfold bindC;rw[Zn λv hv=>(rE.mp nd).1 (Af hv).1,if_neg hk];simp
 |p::P,w::vs,i+1,m,nd,h1,h2,hk=>by
  change bindC kindOf ((p,w)::P.zip vs) m x=_;unfold bindC;show Zq (i:=i) (rE.mp nd).2 (by simpa using h1) (by simpa using h2) hk
noncomputable def start(N:List Str)(vs:List V):St:=vs.map some++List.replicate (N.length-vs.length) none
noncomputable def jq(CX:sZ)(P:Program)(w:World)(K:W.Frag)(mg:Str->Option Value)(base:Heap)(N:List Str)(qual:Str)(scope:Scope)(f:Addr)(cd:Value)(A:Around)(outer:List Env)(s:Shared)(H:Hp)(E:XK)(cm:Bool):Cx where
 prog:=P
 w:=w
 K:=K
 mg:=mg
 base:=base
 A:=A.deeper (envOfC qual scope s.heap.objs.size f cd)
 N:=N
 s₀:=s
 H₀:=H
 env:=envOfC qual scope s.heap.objs.size f cd
 outer:=outer
 stack:=envOfC qual scope s.heap.objs.size f cd::outer
 ex:=[]
 aj:=cm
 fn:=λ_=>true
 pn:=[]
 xe:=λe s'=>wpAny (model P w) (A.deeper (envOfC qual scope s.heap.objs.size f cd)) (leaving (envOfC qual scope s.heap.objs.size f cd) e) (λ_ s''=>CX outer H s E e s'') (λe' s''=>CX outer H s E e' s'') s'
theorem Zr{sc:Scope}{n:Nat}{x:Str}(h:sc.names.lookup x=some .cell):∃c,(cellsFrom n sc.names []).lookup x=some c:=by
 let q:=Q6 sc.names n [] (.inl h);show QW.mp q
theorem zfg{CX:sZ}{P:Program}{w:World}{K:W.Frag}{mg:Str->Option Value}{base:Heap}{N ps:List Str}{qual:Str}{scope:Scope}{f:Addr}{cd:Value}{A:Around}{outer:List Env}{s s1:Shared}{H:Hp}{E:XK}{us:List Value}{vs:List V}
  {cm:Bool} (S:gF N ps scope) (hd:cm=true->A.handled=none) (e0:yj P w K mg base A outer s H) (hl:vs.length=ps.length) (r:Vals vs us)
  (x:InCallC s s.heap.objs.size (bindL (envOfC qual scope s.heap.objs.size f cd).kindOf (ps.zip us) λ_=>none) (cellsFrom (s.heap.objs.size+1) scope.names []) (bindC (envOfC qual scope s.heap.objs.size f cd).kindOf (ps.zip us) λ_=>none) s1) :
  Inv (jq CX P w K mg base N qual scope f cd A outer s H E cm) [] (start N vs) H s1:=by
 let bU:ps.length<=N.length:=by let:=pI List.length S.pre;rw[oX]at this;lia
 let⟨h1,tk,rfl,hk⟩:=x.done;let I9:∀b:Addr,b∉(jq CX P w K mg base N qual scope f cd A outer s H E cm).ex:=λb z=>absurd (show b∈([]:List Addr) from z) V8;show⟨⟨e0.mod,S.kind,rfl,rfl,bQ _,λy z c h1 h2=>?_,λy hy=>?_,λy c _ h=>?_,hd,Around.frames_deeper e0.frames,.inr ⟨rfl,rfl⟩,λb z=>absurd z (I9 b),e0.bs,e0.Ai,λb _ _=>I9 b,λb z=>absurd z (I9 b),e0.jU,e0.Gg⟩,
  rfl,e0.bare,Un.kept hk,⟨_,x.toInCall.ns,λi y v h1 h2 h3=>?_⟩,λy c h=>⟨_,x.cell y c h⟩,e0.hok.fresh (bQ _),λy c h=>?_,λp hp=>absurd (show p∈([]:List (Addr×Obj)) from hp) V8,e0.hok.kept hk,?_⟩
 .exact name_of_addr x.apart (FN h1) (FN h2)
 .let hy:scope.names.lookup y=some .cell\/scope.names.lookup y=some .free:=hy;rcases hy with hy|hy
  .exact Zr hy
  .exact absurd rfl (S.CW _ (FN hy))
 .exact xR (x.above y c (FN h))
 .let hi:i<vs.length:=by
   unfold start at h2;by_cases hi:i<vs.length
   .exact hi
   .rw[pF (by simpa using hi)]at h2;rw[M9]at h2;split at h2<;>cases h2
  let ha:vs[i]?=some v:=by
   unfold start at h2;rw[nQ (by simpa using hi),ji]at h2;cases e:vs[i]? with
   |none=>rw[e]at h2;cases h2|some a=>rw[e]at h2;cases h2;rfl
  let⟨u,hu,rv⟩:=r.get ha;let hp:ps[i]?=some y:=by
   rw[<-S.pre,List.getElem?_take_of_lt gV];show h1
  let Zu:ps.Nodup:=by rw[<-S.pre];show S.nd.sublist (List.take_sublist _ _)
  show⟨u,rv,?_⟩;rcases S.par y (iH hp) with k|k
  .exact .inl ⟨k,Zo Zu hp hu k⟩
  .obtain⟨c,e⟩:=Zr (n:=s.heap.objs.size+1) k;show .inr ⟨.inl k,c,e,?_⟩;let q:=x.cell y c e;rw[Zq Zu hp hu (by change scope.names.lookup y≠_;rw[k];decide)]at q;show q
 .exact e0.hok.fresh (xR (x.above y c (FN h)))
 .unfold start;change _=N.length;rw[bZ,aY,Nf]
  lia
theorem zow{CX:sZ}{cm:Bool}{P:Program}{w:World}{K:W.Frag}{mg:Str->Option Value}{base:Heap}{k:Nat}{f:Addr}{name qual:Str}{params:Arguments}{body:List Stmt}{scope:Scope}{dV kV doc pm cdv ct oc:Value}{an od:Option Addr}
  {osl:Array (Option Value)} {N ps:List Str} {sp:Sp} (lk:K.lookup f=some ⟨oc,od,.func (PySem.W.fnOf name qual params body scope dV kV doc pm an cdv ct),osl⟩) (nJ:PySem.W.codeIn K cdv qual=true) (S:gF N ps scope)
  (len:∀vs H Q E,sp vs H Q E->vs.length=ps.length)
  (I_:∀(A:Around) (outer:List Env) (s:Shared) (H:Hp) (vs:List V) (Q:VK) (E:XK),cC (k+1) A->sp vs H Q E->
   ∃t,pq (jq CX P w K mg base N qual scope f cdv A outer s H E cm) body t/\t {nx:=λ_ H'=>Q .non H',rt:=Q} (start N vs) H) :
  fU P w K mg base CX cm (k+1) f (PySem.W.fnOf name qual params body scope dV kV doc pm an cdv ct) ps sp:=by
 show⟨len,λA outer s H args us vs Q E rH hr e0 hb r O2=>?_⟩;let hl:=len _ _ _ _ O2;let KX:K.In s.heap:=e0.mod.Cr.keeps λb o e=>(e0.bs b o e).1;let lim:s.heap.NoLimit:=e0.mod.nolimit.keeps λb o e=>(e0.bs b o e).1;let Ja:∀y∈ps.zip us,scope.names.lookup y.1=some .local\/(scope.names.lookup y.1=some .cell/\((cellsFrom (s.heap.objs.size+1) scope.names []).lookup y.1).isSome=true):=λ⟨n,v⟩ hy=>by
  rcases S.par n (Af hy).1 with q|q
  .exact .inl q
  .exact .inr ⟨q,Q6 _ _ _ (.inl q)⟩
 show codeAny_call_function hr.depth (KX _ _ lk) rfl S.co S.gen rfl (PySem.W.codeRec_of KX nJ) (hb _ _ _ _ ?_);show wpAny_newFunctionEnv_cells S.kind Ja λenv he s1 x=>?_;subst he;show⟨lim.keeps x.toInCall.keep,codeAny_func ?_⟩;let⟨t,ht,hq⟩:=I_ A outer s H vs Q E hr O2;let I:Inv (jq CX P w K mg base N qual scope f cdv A outer s H E cm) [] (start N vs) H s1:=zfg S rH e0 hl r x;show oZ (ht [] s1 (start N vs) H _ I hq) (λfl s' hs=>?_) λe s' hs=>hs;let fin:∀{Z':St} {H':Hp} {v:V} {u:Value},Inv (jq CX P w K mg base N qual scope f cdv A outer s H E cm) [] Z' H' s'->RelV v u->Q v H'->CE outer P w H s Q u s':=
  λ{Z' H' v u} cg rv q=>⟨v,H',cg.os,cg.bare,cg.base,cg.hok,rv,q⟩
 cases fl with
 |ret u=>
  let⟨v,Z',H',cg,rv,q⟩:=hs;show fin cg rv q
 |next=>
  let⟨Z',H',cg,q⟩:=hs;show fin (v:=V.non) (u:=Value.none) cg rfl q
 |brk=>
  let⟨_,_,_,q⟩:=hs;show False.elim q
 |cont=>
  let⟨_,_,_,q⟩:=hs;show False.elim q
section
variable {X:Cx}{x:Str}{p pos:Pos}{e:Expr}{es:List Expr}{t:TA}{id T:String}{r:List V->Hp->VK->Prop}
noncomputable def O4(r:List V->Hp->VK->Prop)(t:TA):TE:=λZ H Q=>t Z H λvs H1=>r vs H1 Q
theorem Zv(hc:cL X (.builtin id) r)(hg:Gl X x)(hm:X.mg x=none)(hv:bootBuiltins x=some (.builtin id))(ha:PA X (e::es) t)(hn:x≠"__name__":=by decide)(lg:(x==("__debug__" : Str))=false:=by decide)
  (he:starEach (e::es) X.env=(false,eval e X.env)::starEach es X.env:=by rfl) (bU:(backTo pos (starEach es X.env)).any (·.1)=false:=by rfl):PE X (.Call (.Name x p) (e::es) [] pos) (O4 r t):=by
 intro ak s Z H Q I h;show zZ (sY I hg hm hv ?_ hn lg);show PyProof.Rows.callWith_builtin1 (bD (ha pos ak s Z H _ I h) λus s1 hx=>gb hx λvs H1 I1 r1 q1=>hc ak s1 Z H1 vs us Q I1 r1 q1) he bU
theorem zgI(hc:cL X (.type T) r)(hg:Gl X x)(hm:X.mg x=none)(hv:bootBuiltins x=some (.type T))(ha:PA X (e::es) t)(hn:x≠"__name__":=by decide)(lg:(x==("__debug__" : Str))=false:=by decide)
  (he:starEach (e::es) X.env=(false,eval e X.env)::starEach es X.env:=by rfl) (bU:(backTo pos (starEach es X.env)).any (·.1)=false:=by rfl):PE X (.Call (.Name x p) (e::es) [] pos) (O4 r t):=by
 intro ak s Z H Q I h;show zZ (sY I hg hm hv ?_ hn lg);show xH (bD (ha pos ak s Z H _ I h) λus s1 hx=>gb hx λvs H1 I1 r1 q1=>hc ak s1 Z H1 vs us Q I1 r1 q1) he bU
end
end L2
namespace HT
open PySem PyProof.Rows
noncomputable def lexLt:List Int->List Int->Bool
 |[],[]=>false|[],_::_=>true|_::_,[]=>false|x::xs,y::ys=>if x=y then lexLt xs ys else decide (x<y)
theorem jX(x y:Int)(xs ys:List Int):lexLt (x::xs) (y::ys)=if x=y then lexLt xs ys else decide (x<y):=rfl
theorem zcJ:lexLt [] []=false:=rfl
theorem zcn(y:Int)(ys:List Int):lexLt [] (y::ys)=true:=rfl
theorem zcp(x:Int)(xs:List Int):lexLt (x::xs) []=false:=rfl
theorem zhT(A:Around)(s:Shared)(a:Int)(t:Tok)(c:Int)(u:Tok):∃e,SeqAt.EqAt A s (.int a t) (.int c u) e/\(e=true↔a=c):=
 ⟨(a==c),SeqAt.EqAt.int_int a t c u,by simp⟩
theorem zhr(A:Around)(s:Shared)(a:Int)(t:Tok)(c:Int)(u:Tok)(prog:Program)(w:World)(E:Value->Shared->Prop)(Q:Value->Shared->Prop)(h:Q (.bool (decide (a<c))) s) :
  wpAny (model prog w) A (richCompare .Lt (.int a t) (.int c u)) Q E s:=
 (PyProof.Rows.lt_int h:wpAny (model prog w) A (compareOp .Lt (.int a t) (.int c u)) Q E s)
section
open PySem.SeqAt
open PySem.AutoSeq1 (wpAny_loadPart')
open PySem.MeetsSeq PySem.MeetsSeq2 PySem.MeetsSeq3
theorem zcT(l b:Addr)(items items2:Array Value)(n n2:Nat)(dd dd2:Option Addr)(sl sl2:Array (Option Value))(ns ms:List Int)(hi:IntsAre items.toList ns)(hj:IntsAre items2.toList ms) :
  Meets (Builtin.«tuple.__lt__» ⟨[.ref l,.ref b],[]⟩)
   (λ_ R s=>s.heap.get? l=some {cls:=.type "tuple",dict:=dd,data:=.seq items n,slots:=sl}/\s.heap.get? b=some {cls:=.type "tuple",dict:=dd2,data:=.seq items2 n2,slots:=sl2} /\
    R (.ok (.ret (.bool (lexLt ns ms)))) s):=
 .of_wp λprog w A R s h=>by
  let⟨hp,g,d,tk,os⟩:=s;let⟨hl,hb,h⟩:=h;let f2:=AutoSeq1.sub_tuple_tuple;let z1:items.size=ns.length:=by rw[<-hi.length];simp
  let z2:items2.size=ms.length:=by rw[<-hj.length];simp
  wp_walk using wpAny_loadPart' hl,wpAny_loadPart' hb,wpAny_forIn_list _ (λrest b s'=>b.1=none/\s'=⟨hp,g,d,tk,os⟩/\∃(vs ws:List Value) (ns' Gj:List Int),rest=vs.zip ws /\
   IntsAre vs ns'/\IntsAre ws Gj/\ns'.length+items2.size=Gj.length+items.size/\R (.ok (.ret (.bool (lexLt ns' Gj)))) ⟨hp,g,d,tk,os⟩) _
  case turn=>
   rintro⟨y,x⟩ rest b s' ⟨hb',rfl,vs,ws,ns',Gj,hz,R9,O5,hlen,hR⟩;cases R9 with
   |nil=>rw[List.zip_nil_left]at hz;cases hz|cons a t R_=>
    cases O5 with
    |nil=>rw[List.zip_nil_right]at hz;cases hz|cons c u Sd=>
     rw[Nu]at hz;injection hz with hyx Jc;injection hyx with hy hx;subst hy hx;rw[jX]at hR;simp only[fP]at hlen;let⟨e,he,uI⟩:=zhT A.in1 ⟨hp,g,d,tk,os⟩ a t c u;show aB (he prog w _ _ ?_);cases e with
     |true=>
      rw[if_pos (uI.mp rfl)]at hR
      wp_walk
      show⟨rfl,rfl,_,_,_,_,Jc,R_,Sd,by lia,hR⟩
     |false=>
      rw[if_neg (λq=>absurd (uI.mpr q) Nr)]at hR;let hri:=zhr A.in1 ⟨hp,g,d,tk,os⟩ a t c u prog w
      wp_walk using hri
      show⟨_,rfl,by simpa using hR⟩
  case fin=>
   rintro⟨b1,b2⟩ s' ⟨hb',rfl,vs,ws,ns',Gj,hz,R9,O5,hlen,hR⟩;simp only at hb';subst hb';let hv:lexLt ns' Gj=decide (items.size<items2.size):=by
    cases R9 with
    |nil=>
     cases O5 with
     |nil=>
      simp only[B_]at hlen;rw[zcJ];show(f9 gV).symm
     |cons c u hw=>
      simp only[B_,fP]at hlen;rw[zcn];show(cO gV).symm
    |cons a t hv=>
     cases O5 with
     |nil=>
      simp only[B_,fP]at hlen;rw[zcp];show(f9 gV).symm
     |cons c u hw=>
      rw[Nu]at hz;cases hz
   rw[hv]at hR
   wp_walk
   show⟨_,rfl,by simpa [Builtin.Tuple.tupleCompareSizes] using hR⟩
  case h=>
   show⟨rfl,rfl,items.toList,items2.toList,ns,ms,rfl,hi,hj,by lia,h⟩
end
section
variable {prog:Program}{w:World}{A:Around}{E:Value->Shared->Prop}{s:Shared}
theorem pK{l b:Addr}{items items2:Array Value}{ns ms:List Int}{Q:Value->Shared->Prop}(hl:IsTup s.heap l items)(hb:IsTup s.heap b items2)(hi:IntsAre items.toList ns)(hj:IntsAre items2.toList ms)
  (hu:A.units<cLine) (h:Q (.bool (lexLt ns ms)) s):wpAny (model prog w) A (compareOp .Lt (.ref l) (.ref b)) Q E s:=by
 let⟨⟨cls,dd,data,sl⟩,ho,hc,n,hd⟩:=id hl;let⟨⟨cls2,dd2,data2,sl2⟩,pL,tu,n2,hd2⟩:=id hb;simp only at hc hd tu hd2;subst hc hd tu hd2;show richCompare_meets_room (op:=.Lt) ⟨_,ho,rfl⟩ ⟨_,pL,rfl⟩ PySem.F.slot_tuple_lt PySem.F.entry_tuple_lt (PySem.F.args_tuple_lt_2 _ _) (zcT l b items items2 n n2 dd dd2 sl sl2 ns ms hi hj)
  ⟨ho,pL,show Value.bool (lexLt ns ms)≠Value.notImplemented/\Q (.bool (lexLt ns ms)) s from ⟨(λx=>nomatch x),h⟩⟩ hu
theorem yp{t b:Addr}{vs ws:List Value}{Q:Value->Shared->Prop}(ht:IsTup s.heap t vs.toArray)(hb:IsTup s.heap b ws.toArray)(hv:vs≠[])
  (h1:ws=[]->Q (.ref t) s) (h2:ws≠[]->Q (.ref s.heap.objs.size) {s with heap:=s.heap.push {cls:=.type "tuple",data:=.seq (vs++ws).toArray}})
  (iw:vs.length+ws.length<=sizeLine):wpAny (model prog w) A (binaryOp .Add (.ref t) (.ref b)) Q E s:=by
 let⟨⟨cls,dd,data,sl⟩,ho,hc,n,hd⟩:=id ht;let⟨⟨cls2,dd2,data2,sl2⟩,pL,tu,n2,hd2⟩:=id hb;simp only at hc hd tu hd2;subst hc hd tu hd2;let e:vs.toArray++ws.toArray=(vs++ws).toArray:=by simp
 by_cases hw:ws=[]
 .exact concat_meets ⟨_,ho,rfl⟩ ⟨_,pL,rfl⟩ noFill_tuple_add seq_tuple_add Q7 Q5 (QX _ _)
   (tuple_addW1 t b vs.toArray ws.toArray n n2 dd dd2 sl sl2 (by simpa using hv) (by simp[hw])) ⟨ho,pL,h1 hw⟩
 .refine concat_meets ⟨_,ho,rfl⟩ ⟨_,pL,rfl⟩ noFill_tuple_add seq_tuple_add Q7 Q5 (QX _ _)
   (tuple_addW2 t b vs.toArray ws.toArray n n2 dd dd2 sl sl2 (by simpa using hv) (by simpa using hw) (by rw[dH,dH];show iw)) ⟨ho,pL,?_⟩
  rw[e];show h2 hw
noncomputable def bR(n d:Nat):Option Int->Nat
 |none=>d|some v=>if v<0 then (v+(n:Int)).toNat else min v.toNat n
theorem jY(n d:Nat):bR n d none=d:=rfl
theorem mH(n d k:Nat):bR n d (some (k:Int))=min k n:=by
 change (if (k:Int)<0 then ((k:Int)+(n:Int)).toNat else min (k:Int).toNat n)=min k n;rw[if_neg gV,xO]
theorem znF(n d:Nat)(hd:d<=n)(o:Option Int):bR n d o<=n:=by
 cases o with
 |none=>show hd|some v=>
  change (if v<0 then (v+(n:Int)).toNat else min v.toNat n)<=n;by_cases hv:v<0
  .rw[if_pos hv];lia
  .rw[if_neg hv];show Nat.min_le_right _ _
theorem Zw(v:Int)(n d:Nat):(if v<0 then max (v+(n:Int)) 0 else min v (n:Int))=((bR n d (some v):Nat):Int):=by
 change (if v<0 then max (v+(n:Int)) 0 else min v (n:Int))=(((if v<0 then (v+(n:Int)).toNat else min v.toNat n):Nat):Int);by_cases hv:v<0
 .simp only[if_pos hv];lia
 .simp only[if_neg hv];lia
theorem ze9(lo hi:Option Int)(n:Nat):Builtin.Slice.sliceAdjust lo hi 1 (n:Int)=(((bR n 0 lo:Nat):Int),((bR n n hi:Nat):Int)):=by
 let h1:¬((1:Int)<0):=by lia
 unfold Builtin.Slice.sliceAdjust;simp only[h1,sW];show Prod.ext ?_ ?_
 .cases lo with
  |none=>rfl|some v=>show Zw v n 0
 .cases hi with
  |none=>rfl|some v=>show Zw v n n
theorem zeT(i j:Nat):Builtin.Slice.slicePlaces (i:Int) (j:Int) 1=j-i:=by
 unfold Builtin.Slice.slicePlaces;let h1:(1:Int)>0:=by lia
 simp only[h1,if_true,Int.ediv_one]
 split<;>lia
theorem Sg{v:Value}{o:Option Int}{Q:Option Int->Shared->Prop}(p:IsPart v o)(h:Q o s):wpAny (model prog w) A (Builtin.Slice.slicePartIndex v) Q E s:=by
 cases p with
 |none=>show slicePart_none h|int i t=>show slicePart_int h
theorem Zx{sl:Addr}{vl vu:Value}{lo hi:Option Int}{n:Nat}{Q:Int×Int×Nat->Shared->Prop}(hs:s.heap.IsSliceOf sl vl vu .none)(pl:IsPart vl lo)(pu:IsPart vu hi)
  (h:Q (((bR n 0 lo:Nat):Int),1,bR n n hi-bR n 0 lo) s):wpAny (model prog w) A (Builtin.Slice.sliceApplied (.ref sl) (pure (n:Int))) Q E s:=by
 let⟨os,rJ,CZ,wB⟩:=id hs;unfold Builtin.Slice.sliceApplied Builtin.Slice.sliceFields;show aB (aB (iM rJ wB (x:=vl) rfl (aB (iM rJ wB (x:=vu) rfl (aB (iM rJ wB (x:=.none) rfl (aP ?_)))))));show aB (slicePart_none ?_);change wpAny _ _ (if ((1:Int)==0)=true then _ else _) _ _ s;rw[if_neg J0];show aB (Sg pl (aB (Sg pu (aB (aP ?_)))));change wpAny _ _ (match Builtin.Slice.sliceAdjust lo hi 1 (n:Int) with|(lo,hi)=>pure (lo,(1:Int),Builtin.Slice.slicePlaces lo hi 1)) _ _ s;rw[ze9 lo hi n];change wpAny _ _ (pure (((bR n 0 lo:Nat):Int),(1:Int),Builtin.Slice.slicePlaces ((bR n 0 lo:Nat):Int) ((bR n n hi:Nat):Int) 1)) _ _ s;rw[zeT];show aP h
theorem ziA(xs:Array Value)(i k:Nat):((List.range k).filterMap λ(m:Nat)=>xs[((i:Int)+(m:Int)*1).toNat]?).toArray=((xs.toList.drop i).take k).toArray:=by
 let e:(λ(m:Nat)=>xs[((i:Int)+(m:Int)*1).toNat]?)=λm=>xs[i+m]?:=by
  funext m
  let:((i:Int)+(m:Int)*1).toNat=i+m:=by lia
  rw[this]
 rw[e];let:=pick_run xs i k;rw[List.filterMap_map]at this;let e2:((λx=>xs[x]?)∘λx=>i+x)=λm=>xs[i+m]?:=rfl;rw[e2]at this;rw[this]
theorem iV{t sl:Addr}{items:Array Value}{vl vu:Value}{lo hi:Option Int}{Q:Value->Shared->Prop}(ht:IsTup s.heap t items)(hs:s.heap.IsSliceOf sl vl vu .none)(pl:IsPart vl lo)(pu:IsPart vu hi)
  (hw:¬(bR items.size 0 lo=0/\bR items.size items.size hi=items.size))
  (h:Q (.ref s.heap.objs.size) {s with heap:=s.heap.push {cls:=.type "tuple",data:=.seq ((items.toList.drop (bR items.size 0 lo)).take (bR items.size items.size hi-bR items.size 0 lo)).toArray}})
  (iw:items.size<=sizeLine):wpAny (model prog w) A (getItem (.ref t) (.ref sl)) Q E s:=by
 let iW:sizeOk (.seq ((items.toList.drop (bR items.size 0 lo)).take (bR items.size items.size hi-bR items.size 0 lo)).toArray):=by
  change ((items.toList.drop (bR items.size 0 lo)).take (bR items.size items.size hi-bR items.size 0 lo)).toArray.size<=sizeLine;rw[dH,oX,uf,zW]
  lia
 let hj:bR items.size items.size hi<=items.size:=znF _ _ (bQ _) hi;let⟨os,rJ,CZ,wB⟩:=id hs;let Jd:s.TypeIs (.ref sl) "slice":=⟨os,rJ,CZ⟩;unfold getItem
 try with_reducible show mj ?_
 first|refine aB (aP ?_)|skip
 show aB (wpAny_sequenceKey ht.typeIs J0 ?_);show aB (v7 (name:=Str.ofString "__getitem__") ht.typeIs xG
  (sU xG ht.typeIs entry_tuple_getitem ?_ (args_tuple_getitem _ _)))
 change wpAny _ _ (Builtin.Tuple.tupleItemsOf (.ref t) >>= _) _ _ s;show aB (tupleItemsOf_ ht ?_);show aB (HJ Jd ?_);rw[if_pos J0];show aB (Zx hs pl pu ?_);let Je:¬((((bR items.size 0 lo:Nat):Int)==0&&(1:Int)==1&&(bR items.size items.size hi-bR items.size 0 lo)==items.size)=true):=by
  intro q;rw[dZ,dZ]at q;let q1:((bR items.size 0 lo:Nat):Int)=0:=eq_of_beq q.1.1;let q2:bR items.size items.size hi-bR items.size 0 lo=items.size:=eq_of_beq q.2;show hw ⟨by lia,by lia⟩
 change wpAny _ _ (if (((bR items.size 0 lo:Nat):Int)==0&&(1:Int)==1&&(bR items.size items.size hi-bR items.size 0 lo)==items.size)=true then _ else _) _ _ s;rw[if_neg Je,ziA]
 first
  |exact aB (m:=Builtin.Tuple.tupleExact _) (sS (aP ⟨_,rfl,aP h⟩) iW)
  |exact aB (m:=Builtin.Tuple.tupleExact _) (sS (aB (aP (aP ⟨_,rfl,aP h⟩))) iW)
  |exact aB (aB (m:=Builtin.Tuple.tupleExact _) (sS (aP (aP ⟨_,rfl,aP h⟩)) iW))
  |exact aB (aB (m:=Builtin.Tuple.tupleExact _) (sS (aP ⟨_,rfl,aP h⟩) iW))
end
end HT
namespace L2
open PySem PySem.Spec PyProof.Rows
noncomputable abbrev TO:=St->Hp->(Option Int->Hp->Prop)->Prop
def PO(X:Cx)(e:Option Expr)(t:TO):Prop:=
 ∀(ak:List (Addr×Obj)) (s:Shared) (Z:St) (H:Hp) (Q:Option Int->Hp->Prop),Inv X ak Z H s->t Z H Q->
  wpAny (model X.prog X.w) X.A (evalPart e X.env) (λu s'=>∃o H',Inv X ak Z H' s'/\IsPart u o/\Q o H') X.xe s
noncomputable def yq:TO:=λ_ H Q=>Q none H
noncomputable def Jf(t:TE):TO:=λZ H Q=>t Z H λx H1=>∃i,x=.int i/\Q (some i) H1
theorem Zy{ns:List Int}:∀{us:List Value},Vals (ns.map V.int) us->IntsAre us ns:=by
 induction ns with
 |nil=>intro us r;rw[List.map_nil]at r;cases r;show .nil|cons n ns ih=>
  intro us r;rw[kJ]at r;cases r with
  |cons r1 r2=>
   let⟨t,e⟩:=r1;subst e;show .cons n t (ih r2)
section
variable {X:Cx}{e:Expr}{te:TE}{lo hi:Option Expr}{tl th:TO}{pos p2:Pos}
theorem zkh:PO X none yq:=by
 intro ak s Z H Q I h;rw[evalPart_none];show aP ⟨none,H,I,.none,h⟩
theorem zjC(h:PE X e te):PO X (some e) (Jf te):=by
 intro ak s Z H Q I hw;rw[evalPart_some];show bD (h ak s Z H _ I hw) λu s1 hx=>gb hx λx H1 I1 r1 q1=>?_;let⟨i,rfl,q⟩:=q1;let⟨t,rfl⟩:=r1;show⟨some i,H1,I1,.int i t,q⟩
def yr(X:Cx)(r:V->Option Int->Option Int->Hp->VK->Prop):Prop:=
 ∀(ak:List (Addr×Obj)) (s:Shared) (Z:St) (H:Hp) (x:V) (v vl vu:Value) (lo hi:Option Int) (sl:Addr) (Q:VK),Inv X ak Z H s->RelV x v->s.heap.IsSliceOf sl vl vu .none->IsPart vl lo->IsPart vu hi->r x lo hi H Q->
  ∃T id,typeLookup (.type T) "__getitem__"=pure (some (.builtin id))/\s.TypeIs v T/\wpAny (model X.prog X.w) X.A (getItem v (.ref sl)) (EP X ak Z Q) X.xe s
theorem yr.or{r r':V->Option Int->Option Int->Hp->VK->Prop}(h:yr X r)(h':yr X r'):yr X (λx lo hi H Q=>r x lo hi H Q\/r' x lo hi H Q):=by
 intro ak s Z H x v vl vu lo hi sl Q I rx hs pl pu q;rcases q with q|q
 .exact h ak s Z H x v vl vu lo hi sl Q I rx hs pl pu q
 .exact h' ak s Z H x v vl vu lo hi sl Q I rx hs pl pu q
noncomputable def tSl(r:V->Option Int->Option Int->Hp->VK->Prop)(te:TE)(tl th:TO):TE:=λZ H Q=>te Z H λx H1=>tl Z H1 λl H2=>th Z H2 λu H3=>r x l u H3 Q
theorem zhJ{r:V->Option Int->Option Int->Hp->VK->Prop}(hr:yr X r)(he:PE X e te)(hl:PO X lo tl)(hu:PO X hi th):PE X (.Subscript e (.Slice lo hi none p2) pos) (tSl r te tl th):=by
 intro ak s Z H Q I h;show Subscript_ (bD (he ak s Z H _ I h) λv s1 hx=>gb hx λx H1 I1 r1 q1=>?_);show wpAny_Slice (bD (hl ak s1 Z H1 _ I1 q1) λvl s2 hx=>gb hx λl H2 I2 pl q2=>bD (hu ak s2 Z H2 _ I2 q2) λvu s3 hx=>gb hx λu H3 I3 pu q3=>?_);rw[evalPart_none];show aP ?_;let I4:Inv X ak Z H3 {s3 with heap:=s3.heap.push {cls:=.type "slice",data:=.fields #[vl,vu,.none]}}:=I3.kept (t':=s3.toks) λb ob q=>dD _ q;let⟨T,id,hT,ht,hg⟩:=hr ak {s3 with heap:=s3.heap.push {cls:=.type "slice",data:=.fields #[vl,vu,.none]}} Z H3 x v vl vu l u s3.heap.objs.size Q I4 r1 (Heap.IsSliceOf.new ..) pl pu q3;change wpAny (model X.prog X.w) X.A (subscriptTail e (.Slice lo hi none p2) v (.ref s3.heap.objs.size)) (EP X ak Z Q) X.xe {s3 with heap:=s3.heap.push {cls:=.type "slice",data:=.fields #[vl,vu,.none]}};show tail_any (ops:=[.ref s3.heap.objs.size,v]) ht hT hg (by with_unfolding_all rfl)
noncomputable def mJ(xs:List V)(lo hi:Option Int):List V:=(xs.drop (HT.bR xs.length 0 lo)).take (HT.bR xs.length xs.length hi-HT.bR xs.length 0 lo)
theorem Zz(xs:List V)(lo hi:Option Int):(mJ xs lo hi).length<=xs.length:=by
 unfold mJ;rw[oX,uf]
 lia
noncomputable def Sh(K:W.Frag):V->Option Int->Option Int->Hp->VK->Prop:=λx lo hi H Q=>∃a xs,x=.ref a/\fQ K H a xs /\
 ¬(HT.bR xs.length 0 lo=0/\HT.bR xs.length xs.length hi=xs.length)/\∀p,H p=none->Q (.ref p) (upd H p (.tup (mJ xs lo hi)))
theorem zme:yr X (Sh X.K):=by
 intro ak s Z H x v vl vu lo hi sl Q I rx hs pl pu h;let⟨a,xs,rfl,hx,hw,q⟩:=h;cases rx;let⟨its,r,ht,hz⟩:=I.tuple hx;let hlen:its.toArray.size=xs.length:=by rw[dH];show r.length.symm
 show⟨"tuple",_,xG.lookup,ht.typeIs,?_⟩;show HT.iV ht hs pl pu (by rw[hlen];show hw) ?_ (by rw[hlen];show hz);rw[hlen];show⟨.ref s.heap.objs.size,_,I.laid (t':=s.toks) (o:=.tup (mJ xs lo hi)) (λb ob q=>dD _ q) (bQ _) ?_,rfl,q _ (I.hok.fresh (bQ _))⟩;show⟨jf (Zz xs lo hi) hz,_,(r.drop (HT.bR xs.length 0 lo)).take (HT.bR xs.length xs.length hi-HT.bR xs.length 0 lo),jR.new _ _⟩
noncomputable def Jg(K:W.Frag):R2:=λx y H Q=>∃a b ns ms,x=.ref a/\y=.ref b/\fQ K H a (ns.map V.int)/\fQ K H b (ms.map V.int)/\Q (.bl (HT.lexLt ns ms)) H
theorem zl3(hu:X.A.units<cLine):fH X (compareOp .Lt) (Jg X.K):=by
 intro ak s Z H x y v u Q I rx ry h;let⟨a,b,ns,ms,rfl,rfl,ha,hb,q⟩:=h;cases rx;cases ry;let⟨its,r1,p1,_⟩:=I.tuple ha;let⟨its2,r2,p2,_⟩:=I.tuple hb;let i1:IntsAre its.toArray.toList ns:=Zy r1;let i2:IntsAre its2.toArray.toList ms:=Zy r2;show HT.pK p1 p2 i1 i2 hu ⟨.bl (HT.lexLt ns ms),H,I,rfl,q⟩
theorem Vals.mK{xs:List V}{us:List Value}(r:Vals xs us):us=[]↔xs=[]:=by
 cases r with
 |nil=>simp|cons _ _=>simp
end
noncomputable def tD(n:Nat)(i:Int):Option Nat:=if 0<=i then (if i<n then some i.toNat else none) else if -(n:Int)<=i then some (i+n).toNat else none
noncomputable def qC{α:Type}(xs:List α)(i:Int):Option α:=(tD xs.length i).bind λj=>xs[j]?
theorem ZC{n:Nat}{i:Int}{j:Nat}(h:tD n i=some j):seqIndex? i n=some j/\j<n/\-(n:Int)<=i/\i<n:=by
 unfold tD at h;by_cases h0:0<=i
 .rw[if_pos h0]at h;by_cases h1:i<n
  .rw[if_pos h1]at h;let e:i.toNat=j:=dM h;show⟨by rw[seqIndex_of h0 h1,e],by lia,by lia,h1⟩
  .rw[if_neg h1]at h;cases h
 .rw[if_neg h0]at h;by_cases h1 : -(n:Int)<=i
  .rw[if_pos h1]at h;let e:(i+n).toNat=j:=dM h;show⟨by rw[seqIndex_neg gV h1,e],by lia,h1,by lia⟩
  .rw[if_neg h1]at h;cases h
theorem Sq{α:Type}{xs:List α}{i:Int}{v:α}(h:qC xs i=some v):∃j,seqIndex? i xs.length=some j/\xs[j]?=some v/\j<xs.length/\-(xs.length:Int)<=i/\i<xs.length:=by
 unfold qC at h;cases e:tD xs.length i with
 |none=>rw[e]at h;cases h|some j=>
  rw[e]at h;let⟨h1,h2,h3,h4⟩:=ZC e;show⟨j,h1,h,h2,h3,h4⟩
def qD(b:Expr):Prop:=∀o i,subscripted b false o i=operate [o,i] (getItem o i)
def yt(X:Cx)(r:R2):Prop:=
 ∀(value slice:Expr) (ak:List (Addr×Obj)) (s:Shared) (Z:St) (H:Hp) (x y:V) (v u:Value) (Q:VK),Inv X ak Z H s->RelV x v->RelV y u->r x y H Q->
  subscripted slice false v u=operate [v,u] (getItem v u)->wpAny (model X.prog X.w) X.A (subscriptTail value slice v u) (EP X ak Z Q) X.xe s
def Jh(X:Cx)(id:String)(r:V->List V->Hp->VK->Prop):Prop:=
 ∀(ak:List (Addr×Obj)) (s:Shared) (Z:St) (H:Hp) (x:V) (xs:List V) (v:Value) (us:List Value) (Q:VK),Inv X ak Z H s->RelV x v->Vals xs us->r x xs H Q->
  wpAny (model X.prog X.w) X.A (call (.builtin id) (v::us)) (EP X ak Z Q) X.xe s
section
variable {X:Cx}{a b:Expr}{ta tb:TE}{pos:Pos}
theorem yt.or{r r':R2}(h:yt X r)(h':yt X r'):yt X (λx y H Q=>r x y H Q\/r' x y H Q):=by
 intro value slice ak s Z H x y v u Q I rx ry q hs;rcases q with q|q
 .exact h value slice ak s Z H x y v u Q I rx ry q hs
 .exact h' value slice ak s Z H x y v u Q I rx ry q hs
theorem zn7{r:R2}(hr:yt X r)(ha:PE X a ta)(hb:PE X b tb)(hs:qD b):PE X (.Subscript a b pos) (Gi r ta tb):=by
 intro ak s Z H Q I h;show Subscript_ (CP ha hb I h λv u s2 x y H2 I2 rx ry q=>hr a b ak s2 Z H2 x y v u Q I2 rx ry q (hs _ _))
noncomputable def Ji(K:W.Frag):R2:=λx y H Q=>∃p xs i v,x=.ref p/\y=.int i/\cY K H p xs/\qC xs i=some v/\Q v H
noncomputable def Jj(K:W.Frag):R2:=λx y H Q=>∃p xs i v,x=.ref p/\y=.int i/\fQ K H p xs/\qC xs i=some v/\Q v H
noncomputable def Jk:R2:=λx y H Q=>∃z i c,x=.str z/\y=.int i/\z.length<=sizeLine/\qC z.cps.toList i=some c/\Q (.str ⟨#[c]⟩) H
theorem yu:yt X (Ji X.K):=by
 intro value slice ak s Z H x y v u Q I rx ry h hs;let⟨p,xs,i,z,rfl,rfl,hq,he,q⟩:=h;cases rx;let⟨t,rfl⟩:=ry;let⟨its,r,pl,hz⟩:=I.list hq;let⟨j,h1,h2,h3,h4,h5⟩:=Sq he;let⟨w,ew,mL⟩:=r.get h2;let hl:=r.length;let hn:=jW;let fin:EP X ak Z Q w s:=⟨z,H,I,mL,q⟩;by_cases h0:0<=i
 .let hj:i.toNat=j:=by
   rw[seqIndex_of h0 h5]at h1;show dM h1
  show item_listR pl.isList h0 gV (by rw[hj];simpa using ew) fin hs
 .let hj:(i+(its.toArray.size:Int)).toNat=j:=by
   rw[seqIndex_neg gV h4]at h1;rw[dH,<-hl];show dM h1
  show subscriptTail_builtinR (x:=w) pl.isList.typeIs slot_list_getitem.lookup
   (wpAny_getItem_list_neg (Q:=λr s'=>r=w/\EP X ak Z Q r s') pl.isList gV (by rw[dH]<;>lia) gV (by rw[hj];simpa using ew) ⟨rfl,fin⟩) hs
theorem C_:yt X (Jj X.K):=by
 intro value slice ak s Z H x y v u Q I rx ry h hs;let⟨p,xs,i,z,rfl,rfl,hq,he,q⟩:=h;cases rx;let⟨t,rfl⟩:=ry;let⟨its,r,pl,hz⟩:=I.tuple hq;let⟨j,h1,h2,h3,h4,h5⟩:=Sq he;let⟨w,ew,mL⟩:=r.get h2;let hl:=r.length;let hn:=jW;let fin:EP X ak Z Q w s:=⟨z,H,I,mL,q⟩;show subscriptTail_builtinR (x:=w) pl.typeIs slot_tuple_getitem.lookup
  (getItem_tuple (j:=j) (Q:=λr s'=>r=w/\EP X ak Z Q r s') pl gV gV (by rw[dH,<-hl];show h1) (by simpa using ew) ⟨rfl,fin⟩) hs
theorem zl8:yt X Jk:=by
 intro value slice ak s Z H x y v u Q I rx ry h hs;let⟨z,i,c,rfl,rfl,hz,he,q⟩:=h;let⟨t,rfl⟩:=rx;let⟨t',rfl⟩:=ry;let⟨j,h1,h2,h3,h4,h5⟩:=Sq he;let hl:z.cps.toList.length=z.length:=by simp[Str.length]
 rw[hl]at h1 h4 h5;let hn:=jW;show tail_any (typeIs_str s z t) slot_str_getitem.lookup (getItem_str (c:=c) (by
  let e1:decide (i < -(2^63:Int))=false:=f9 gV;let e2:decide (i>=2^63)=false:=f9 gV;rw[e1,e2,Bool.or_false]) (by rw[h1];simpa using h2) ⟨.str ⟨#[c]⟩,H,I.tok _,⟨_,rfl⟩,q⟩) hs
noncomputable def Ss(K:W.Frag):R2:=λx y H Q=>Ji K x y H Q\/Jj K x y H Q\/Jk x y H Q
theorem zm5:yt X (Ss X.K):=yu.or (C_.or zl8)
theorem zeP(its:List Value)(n j:Nat)(u:Value):Obj.mapSeq (·.setIfInBounds j u) {cls:=.type "list",data:=.seq its.toArray n}={cls:=.type "list",data:=.seq (its.set j u).toArray n}:=by
 simp[Obj.mapSeq]
theorem Inv.lst{ak:List (Addr×Obj)}{Z:St}{H:Hp}{s:Shared}{p:Addr}{xs:List V}(I:Inv X ak Z H s)(h:H p=some (.lst xs)) :
  ∃(its:List Value) (n:Nat),Vals xs its/\s.heap.get? p=some {cls:=.type "list",data:=.seq its.toArray n}/\xs.length<=sizeLine:=by
 let⟨z,its,n,r,e⟩:=I.hok p _ h;show⟨its,n,r,e,z⟩
theorem Inv.Dg{ak:List (Addr×Obj)}{Z:St}{H:Hp}{s:Shared}{p:Addr}{xs ys:List V}{its its':List Value}{n n':Nat}{f:Obj->Obj}(I:Inv X ak Z H s)(h:H p=some (.lst xs))
  (ho:s.heap.get? p=some {cls:=.type "list",data:=.seq its.toArray n}) (hf:f {cls:=.type "list",data:=.seq its.toArray n}={cls:=.type "list",data:=.seq its'.toArray n'}) (r:Vals ys its') (hz:ys.length<=sizeLine) (t:Nat) :
  Inv X ak Z (upd H p (.lst ys)) {s with heap:=s.heap.update p f,toks:=t}:=by
 let e:(s.heap.update p f).get? p=some {cls:=.type "list",data:=.seq its'.toArray n'}:=by
  rw[wg f ho (by rw[hf]<;>rfl),hf]
 show I.write (x:=p) (e:=p) (by rw[h];trivial) (.inl rfl) (λb u hb q=>(v9 _ _ (Ne.symm hb)).trans q) ⟨_,e⟩ ?_;show⟨hz,its',n',r,e⟩
noncomputable def Jl:V->V->V->Hp->(Hp->Prop)->Prop:=λo i v H Q=>∃p xs k j,o=.ref p/\i=.int k/\H p=some (.lst xs)/\tD xs.length k=some j/\Q (upd H p (.lst (xs.set j v)))
theorem zhF:Iu X Jl:=by
 intro ak s Z H o i v ov iv u Q I ro ri rv h;let⟨p,xs,k,j,rfl,rfl,hp,hj,q⟩:=h;cases ro;let⟨t,rfl⟩:=ri;let⟨its,n,r,ho,hz⟩:=I.lst hp;let⟨h1,h2,h3,h4⟩:=ZC hj;let hl:=r.length;let hn:=jW;let I':Inv X ak Z (upd H p (.lst (xs.set j v))) {s with heap:=s.heap.update p (Obj.mapSeq (·.setIfInBounds j u))}:=
  I.Dg hp ho (zeP its n j u) (r.set rv j) (by rw[pH];show hz) s.toks
 by_cases h0:0<=k
 .let hk:k.toNat=j:=by
   rw[seqIndex_of h0 h4]at h1;show dM h1
  show PySem.W.ki_setAt ho h0 gV (by rw[dH,<-hl];show h4) (by rw[hk];show⟨_,I',q⟩)
 .let hk:(k+(its.toArray.size:Int)).toNat=j:=by
   rw[seqIndex_neg gV h3]at h1;rw[dH,<-hl];show dM h1
  show PySem.W.ki_setBack ho gV (by rw[dH,<-hl];show h3) gV (by rw[hk];show⟨_,I',q⟩)
theorem zds(lo hi:Option Int)(n:Nat):(sliceBounds lo hi none n).1=((HT.bR n 0 lo:Nat):Int)/\(sliceBounds lo hi none n).2.1=((HT.bR n n hi:Nat):Int)/\(sliceBounds lo hi none n).2.2=1:=by
 show⟨?_,?_,rfl⟩
 .cases lo with
  |none=>simp[sliceBounds,HT.bR]|some i=>
   simp only[sliceBounds,HT.bR,Option.getD_none,show (1:Int)>0 by decide,if_true];by_cases h:i<0
   .simp only[h,if_true]<;>lia
   .simp only[h,sW]<;>lia
 .cases hi with
  |none=>simp[sliceBounds,HT.bR]|some i=>
   simp only[sliceBounds,HT.bR,Option.getD_none,show (1:Int)>0 by decide,if_true];by_cases h:i<0
   .simp only[h,if_true]<;>lia
   .simp only[h,sW]<;>lia
theorem zcW(its:List Value)(lo hi:Option Int):slicePick its.toArray lo hi none=((its.drop (HT.bR its.length 0 lo)).take (HT.bR its.length its.length hi-HT.bR its.length 0 lo)).toArray:=by
 let⟨h1,h2,h3⟩:=zds lo hi its.toArray.size;unfold slicePick;rw[h1,h2,h3];simp only[sliceRange_one,pick_run,dH]<;>rfl
noncomputable def Jm(K:W.Frag):V->Option Int->Option Int->Hp->VK->Prop:=λx lo hi H Q=>∃a xs,x=.ref a/\cY K H a xs/\∀p,H p=none->Q (.ref p) (upd H p (.lst (mJ xs lo hi)))
theorem yw:yr X (Jm X.K):=by
 intro ak s Z H x v vl vu lo hi sl Q I rx hs pl pu h;let⟨a,xs,rfl,hx,q⟩:=h;cases rx;let⟨its,r,ht,hz⟩:=I.list hx;let hlen:=r.length;show⟨"list",_,slot_list_getitem.lookup,ht.isList.typeIs,?_⟩;show wpAny_getItem_list_slice ht.isList hs pl pu .none V8 ?_ (by rw[dH]<;>lia);rw[zcW,<-hlen];show⟨.ref s.heap.objs.size,_,I.laid (t':=s.toks) (o:=.lst (mJ xs lo hi)) (λb ob q=>dD _ q) (bQ _) ?_,rfl,q _ (I.hok.fresh (bQ _))⟩;show⟨jf (Zz xs lo hi) hz,_,0,(r.drop (HT.bR xs.length 0 lo)).take (HT.bR xs.length xs.length hi-HT.bR xs.length 0 lo),gK _ rfl⟩
theorem zda:cL X (.builtin "len") (λxs H Q=>∃p ys,xs=[.ref p]/\(cY X.K H p ys\/fQ X.K H p ys)/\Q (.int ys.length) H):=by
 intro ak s Z H xs us Q I r h;let⟨p,ys,rfl,hq,q⟩:=h;let⟨u,rfl,rx⟩:=vals1 r;cases rx;let hn:=jW;rcases hq with hq|hq
 .obtain⟨its,r',pl,hz⟩:=I.list hq;let hlen:=r'.length;show Calls.call_len_list pl.isList (by simp only[dH]<;>lia) ⟨.int ys.length,H,I.tok _,⟨s.toks+1,by rw[dH,hlen]⟩,q⟩
 .obtain⟨its,r',pl,hz⟩:=I.tuple hq;let hlen:=r'.length;show len_tuple pl (by simp only[dH]<;>lia) ⟨.int ys.length,H,I.tok _,⟨s.toks+1,by rw[dH,hlen]⟩,q⟩
theorem zdl:cL X (.type "list") (λxs H Q=>∃p ys,xs=[.ref p]/\(cY X.K H p ys\/fQ X.K H p ys)/\∀l,H l=none->Q (.ref l) (upd H l (.lst ys))):=by
 intro ak s Z H xs us Q I r h;let⟨p,ys,rfl,hq,q⟩:=h;let⟨u,rfl,rx⟩:=vals1 r;cases rx;let fin:∀(its:List Value),Vals ys its->ys.length<=sizeLine->∀(h':Heap) (c':Nat),(∀b o',s.heap.get? b=some o'->h'.get? b=some o')->
   h'.get? s.heap.objs.size=some {cls:=.type "list",dict:=none,data:=.seq its.toArray c',slots:=#[]}->EP X ak Z Q (.ref s.heap.objs.size) {s with heap:=h'}:=λits r' hz h' c' kp e=>
  ⟨.ref s.heap.objs.size,_,I.laid (t':=s.toks) kp (bQ _) (show aU X.prog X.w _ h' _ (.lst ys) from ⟨hz,its,c',r',e⟩),rfl,q _ (I.hok.fresh (bQ _))⟩
 rcases hq with hq|hq
 .obtain⟨its,r',pl,hz⟩:=I.list hq;let hlen:=r'.length;let⟨o,ho,hc,n,hd⟩:=pl.isList;show call_list_seq p (.inl rfl) ho hc hd (λh' c' kp e=>fin its r' hz h' c' kp e) (by simp only[dH]<;>lia)
 .obtain⟨its,r',pl,hz⟩:=I.tuple hq;let hlen:=r'.length;let⟨o,ho,hc,n,hd⟩:=pl;show call_list_seq p (.inr rfl) ho hc hd (λh' c' kp e=>fin its r' hz h' c' kp e) (by simp only[dH]<;>lia)
theorem zcC:cL X (.type "tuple") (λxs H Q=>∃p ys,xs=[.ref p]/\((cY X.K H p ys/\∀l,H l=none->Q (.ref l) (upd H l (.tup ys)))\/(fQ X.K H p ys/\Q (.ref p) H))):=by
 intro ak s Z H xs us Q I r h;let⟨p,ys,rfl,h⟩:=h;let⟨u,rfl,rx⟩:=vals1 r;cases rx;rcases h with ⟨hq,q⟩|⟨hq,q⟩
 .obtain⟨its,r',pl,hz⟩:=I.list hq;let hlen:=r'.length;show call_tuple_list pl.isList (λh' kp=>?_) (by simp only[dH]<;>lia);let I1:Inv X ak Z H {s with heap:=h'}:=I.kept (t':=s.toks) kp;let I2:Inv X ak Z (upd H h'.objs.size (.tup ys)) {s with heap:=h'.push {cls:=.type "tuple",data:=.seq its.toArray}}:=
   I1.laid (t':=s.toks) (λb o e=>dD _ e) (bQ _) (show aU X.prog X.w _ _ _ (.tup ys) from ⟨hz,its,r',jR.new _ _⟩)
  show⟨.ref h'.objs.size,_,I2,rfl,q _ (I1.hok.fresh (bQ _))⟩
 .obtain⟨its,r',pl,hz⟩:=I.tuple hq;show call_tuple_same pl ⟨.ref p,H,I,rfl,q⟩
def O6(K:W.Frag)(T:String)(x:V)(H:Hp):Prop:=match x with
 |.str _=>T="str"|.int _=>T="int"|.ref p=>(T="list"/\∃xs,cY K H p xs)\/(T="tuple"/\∃xs,fQ K H p xs) \/
   (T="dict"/\((∃kvs,H p=some (.dK kvs))\/∃kvs,H p=some (.dT kvs)))\/(T="set"/\∃S n,H p=some (.set S n))
 |_=>False
theorem ZD{ak:List (Addr×Obj)}{Z:St}{H:Hp}{s:Shared}{T:String}{x:V}{v:Value}(I:Inv X ak Z H s)(r:RelV x v)(ty:O6 X.K T x H) :
  s.TypeIs v T/\∀a,v=.ref a->∃ob,s.heap.get? a=some ob/\ob.dict=none:=by
 cases x with
 |str z=>
  let⟨t,rfl⟩:=r;cases (show T="str" from ty);show⟨typeIs_str s z t,λ_ e=>nomatch e⟩
 |int i=>
  let⟨t,rfl⟩:=r;cases (show T="int" from ty);show⟨typeIs_int s i t,λ_ e=>nomatch e⟩
 |ref p=>
  cases r;rcases ty with ⟨rfl,xs,hq⟩|⟨rfl,xs,hq⟩|⟨rfl,hk⟩|⟨rfl,S,n,hk⟩
  .obtain⟨its,_,pl,_⟩:=I.list hq;show⟨pl.isList.typeIs,λa e=>?_⟩;cases e;let⟨o,n,e,c,hd,_⟩:=pl;show⟨o,e,hd⟩
  .obtain⟨o,h1,h2,h3⟩:=I.RV hq;show⟨⟨o,h1,h2⟩,λa e=>?_⟩;cases e;show⟨o,h1,h3⟩
  .let z:∃o,s.heap.get? p=some o/\o.ExactDict:=by
    rcases hk with ⟨kvs,hk⟩|⟨kvs,hk⟩
    .obtain⟨_,_,_,_,o,_,_,e,ex,_⟩:=I.hok p _ hk;show⟨o,e,ex⟩
    .obtain⟨_,_,_,_,o,_,_,e,ex,_⟩:=I.hok p _ hk;show⟨o,e,ex⟩
   let⟨o,e,ex⟩:=z;show⟨⟨o,e,ex.1⟩,λa e2=>?_⟩;cases e2;show⟨o,e,ex.2.1⟩
  .obtain⟨o,_,_,_,e,ex,_⟩:=I.hok p _ hk;show⟨⟨o,e,ex.1⟩,λa e2=>?_⟩;cases e2;show⟨o,e,ex.2.1⟩
 |_=>show False.elim ty
noncomputable def Sv(K:W.Frag)(T:String)(r:V->List V->Hp->VK->Prop)(to:TE):TE:=λZ H Q=>to Z H λx H1=>O6 K T x H1/\r x [] H1 Q
noncomputable def tBM(K:W.Frag)(T:String)(r:V->List V->Hp->VK->Prop)(to:TE)(t:TA):TE:=λZ H Q=>to Z H λx H1=>O6 K T x H1/\t Z H1 λxs H2=>r x xs H2 Q
variable {o e:Expr}{es:List Expr}{to:TE}{t:TA}{name:Str}{apos cpos:Pos}{T id:String}{r:V->List V->Hp->VK->Prop}
theorem zmr(pa:PlainAttrs T)(slot:Slot T name id)(Jo:typeOf (.builtin id)=pure (.type "method_descriptor"))(hm:Jh X id r)(ho:PE X o to)
  (cQ:attributeBase o name X.env (eval o X.env)=eval o X.env:=by rfl) (cR:(apos.endLine==cpos.line)=true:=by rfl):PE X (.Call (.Attribute o name apos) [] [] cpos) (Sv X.K T r to):=by
 intro ak s Z H Q I h;show wpAny_Call_method0_late cQ cR (bD (ho ak s Z H _ I h) λv s1 hz=>?_);let⟨x,H1,I1,r1,ty,q1⟩:=hz;let⟨h1,h2⟩:=ZD I1 r1 ty;show⟨T,id,pa,slot,Jo,h1,h2,Calls.callWith_builtin rfl (PySem.evalArgs_none (hm ak s1 Z H1 x [] v [] Q I1 r1 .nil q1))⟩
theorem ZF(pa:PlainAttrs T)(slot:Slot T name id)(Jo:typeOf (.builtin id)=pure (.type "method_descriptor"))(hm:Jh X id r)(ho:PE X o to)(ha:PA X (e::es) t)
  (cQ:attributeBase o name X.env (eval o X.env)=eval o X.env:=by rfl)
  (mO:((backTo cpos (starEach (e::es) X.env)).all (λx=>!x.1)&&(backToKw cpos (keywordEach [] X.env)).all (λx=>x.1.isSome)
  &&decide ((e::es).length+([]:List Keyword).length+(if ([]:List Keyword).isEmpty then 0 else 1)<30))=true:=by rfl)
  (cR:(apos.endLine==cpos.line)=true:=by rfl) (hs:starEach (e::es) X.env=(false,eval e X.env)::starEach es X.env:=by rfl) (dO:(backTo cpos (starEach es X.env)).any (·.1)=false:=by rfl) :
  PE X (.Call (.Attribute o name apos) (e::es) [] cpos) (tBM X.K T r to t):=by
 intro ak s Z H Q I h;show wpAny_Call_method_late cQ mO cR rfl (bD (ho ak s Z H _ I h) λv s1 hz=>?_);let⟨x,H1,I1,r1,ty,q1⟩:=hz;let⟨h1,h2⟩:=ZD I1 r1 ty;show⟨T,id,pa,slot,Jo,h1,h2,?_⟩;let hA:=ha cpos ak s1 Z H1 _ I1 q1;rw[hs]at hA ⊢;show Calls.callWith_builtin (by change (false||(backTo cpos (starEach es X.env)).any (·.1))=false;rw[dO]<;>rfl) (Calls.evalArgs_plain ?_);show bD hA λus s2 hx=>gb hx λvs H2 I2 r2 q2=>hm ak s2 Z H2 x vs v us Q I2 r1 r2 q2
end
def ZG(X:Cx)(id:String)(r:V->List V->Hp->VK->Prop):Prop:=
 ∀(ak:List (Addr×Obj)) (s:Shared) (Z:St) (H:Hp) (x:V) (xs:List V) (v:Value) (us:List Value) (Q:VK),Inv X ak Z H s->RelV x v->Vals xs us->r x xs H Q->
  wpAny (model X.prog X.w) X.A (call (.builtin id) (v::us)) (EP X ak Z Q) X.xe s
theorem Vals.one{x:V}{us:List Value}(h:Vals [x] us):∃u,us=[u]/\RelV x u:=by
 cases h with
 |cons r t=>cases t;show⟨_,rfl,r⟩
theorem Vals.two{x y:V}{us:List Value}(h:Vals [x,y] us):∃u v,us=[u,v]/\RelV x u/\RelV y v:=by
 cases h with
 |cons r t=>
  let⟨v,rfl,q⟩:=Vals.one t;show⟨_,_,rfl,r,q⟩
theorem Vals.zero:∀{us:List Value},Vals [] us->us=[]
 |_,.nil=>rfl
theorem Vals.dropLast{xs:List V}{us:List Value}(h:Vals xs us):Vals xs.dropLast us.dropLast:=by
 induction h with
 |nil=>show .nil|cons r t ih=>
  cases t with
  |nil=>show .nil|cons q t'=>show .cons r ih
theorem ze6{α:Type}(l:List α):l.eraseIdx (l.length-1)=l.dropLast:=by
 induction l with
 |nil=>rfl|cons a r ih=>
  cases r with
  |nil=>rfl|cons b r=>
   let e:(a::b::r).length-1=((b::r).length-1)+1:=by
    let h1:(a::b::r).length=r.length+2:=rfl;let h2:(b::r).length=r.length+1:=rfl
    lia
   rw[e,List.eraseIdx_cons_succ,ih]
   all_goals rfl
section
variable {X:Cx}{ak:List (Addr×Obj)}{Z:St}{H:Hp}{s:Shared}{l b:Addr}{xs ys zs:List V}
theorem Inv.Jp{its its':List Value}{n:Nat}{f:Array Value->Array Value}{t':Nat}(I:Inv X ak Z H s)(hH:H l=some (.lst xs))
  (e:s.heap.get? l=some {cls:=.type "list",data:=.seq its.toArray n}) (hf:f its.toArray=its'.toArray) (hv:Vals ys its') (hz:ys.length<=sizeLine) :
  Inv X ak Z (upd H l (.lst ys)) {s with heap:=s.heap.update l (Obj.mapSeq f),toks:=t'}:=by
 let q:=PySem.IsL.update e f;rw[hf]at q;show I.write (x:=l) (e:=l) (by rw[hH];show trivial) (.inl rfl) (λb' u hb hu=>(v9 s.heap (Obj.mapSeq f) (Ne.symm hb)).trans hu) ⟨_,q⟩ ?_;show⟨hz,its',_,hv,q⟩
theorem Inv.Sw{its:List Value}{t':Nat}(I:Inv X ak Z H s)(hv:Vals ys its)(hz:ys.length<=sizeLine) :
  Inv X ak Z (upd H s.heap.objs.size (.lst ys)) {s with heap:=s.heap.push {cls:=.type "list",data:=.seq its.toArray},toks:=t'}:=
 I.laid (λ_ _ q=>dD _ q) (bQ _) ⟨hz,its,0,hv,gK _ rfl⟩
theorem Inv.fresh(I:Inv X ak Z H s):H s.heap.objs.size=none:=I.hok.fresh (bQ _)
theorem Inv.Jq(I:Inv X ak Z H s)(hH:H l=some (.lst xs)):xs.length<=sizeLine/\∃(its:List Value) (n:Nat),Vals xs its/\xs.length=its.length/\s.heap.get? l=some {cls:=.type "list",data:=.seq its.toArray n}:=by
 let⟨z,its,n,r,e⟩:=I.hok l _ hH;show⟨z,its,n,r,r.length,e⟩
end
section
variable {X:Cx}
noncomputable def yx:V->List V->Hp->VK->Prop:=λx vs H Q=>∃l xs y,x=.ref l/\vs=[y]/\H l=some (.lst xs)/\xs.length<sizeLine/\Q .non (upd H l (.lst (xs++[y])))
theorem ZJ:ZG X "list.append" yx:=by
 intro ak s Z H x vs v us Q I rx rv h;let⟨l,xs,y,rfl,rfl,hH,hz,q⟩:=h;cases rx;let⟨u,rfl,ru⟩:=rv.one;let⟨z,its,n,r,hl,e⟩:=I.Jq hH;show call_meets F.slot_list_append ⟨_,e,rfl⟩ F.entry_list_append (F.args_list_append_2 _ _) (PySem.list_append l its.toArray n u (by rw[dH];lia)) ⟨e,?_⟩;show⟨.non,_,I.Jp (its':=its++[u]) hH e V8 (r.append (.cons ru .nil)) ?_,rfl,q⟩;rw[bZ,List.length_singleton]
 lia
noncomputable def Sx:V->List V->Hp->VK->Prop:=λx vs H Q=>∃l xs y,x=.ref l/\vs=[]/\H l=some (.lst xs)/\xs[xs.length-1]?=some y/\Q y (upd H l (.lst xs.dropLast))
theorem zlN:ZG X "list.pop" Sx:=by
 intro ak s Z H x vs v us Q I rx rv h;let⟨l,xs,y,rfl,rfl,hH,hy,q⟩:=h;cases rx;let hus:=rv.zero;subst hus;let⟨z,its,n,r,hl,e⟩:=I.Jq hH;let⟨u,hu,ru⟩:=r.get hy;let hy':its.toArray[its.toArray.size-1]?=some u:=by
  change its.toArray[its.length-1]?=some u;rw[<-Array.getElem?_toList,<-hl];show hu
 show call_meets F.slot_list_pop ⟨_,e,rfl⟩ F.entry_list_pop (F.args_list_pop_1 _) (MeetsSeq.list_pop_last l its.toArray n u hy' (by rw[dH];lia)) ⟨e,?_⟩;show⟨y,_,I.Jp (its':=its.dropLast) hH e ?_ r.dropLast ?_,ru,q⟩
 .show its.toArray.eraseIdxIfInBounds (its.toArray.size-1)=its.dropLast.toArray;rw[dH,List.eraseIdxIfInBounds_toArray,ze6]
 .rw[List.length_dropLast]
  lia
end
section
variable {prog:Program}{w:World}{A:Around}{E:Value->Shared->Prop}{s:Shared}
set_option maxRecDepth 100000 in
end
end L2
namespace ZK
open PySem PySem.W PySem.Calls PyProof.Rows
theorem zci{P:Params}{h:Heap}:∀(ns:List Int) (vs:List Value),WellAll P h vs (ns.map WData.int)->IntsAre vs ns:=by
 intro ns
 induction ns with
 |nil=>
  intro vs w;rw[List.map_nil]at w;cases w;show .nil
 |cons n ns ih=>
  intro vs w;rw[kJ]at w;cases w with
  |cons a b=>
   cases a;show .cons _ _ (ih _ b)
theorem zgS{l:OpenLaw}{n:Nat}(hn:l.most=some n){P:Params}{h:Heap}{args:List WData}{vals:List Value}
  (hpre:l.row.toRowW.claim.pre args=true) (Sy:WellAll P h vals args) :
  ∃a vs ns,vals=[Value.ref a]/\args=[WData.list (ns.map WData.int)]/\h.get? a=some {cls:=.type "list",data:=.seq vs.toArray}/\IntsAre vs ns/\ns.length<=n:=by
 let hsh:WShape.hasAll [] args [.list .int]=true:=(pre_splitW hpre).1;let hc:l.pre.holds [] {args:=args}=true:=(pre_splitW hpre).2;let⟨d,r,rfl,h1,h2⟩:=hasAllW_cons hsh;obtain rfl:=hasAllW_nil h2;let⟨xs,rfl,h3⟩:=hasW_list h1;let⟨ns,rfl⟩:=items_int h3;let hlen:ns.length<=n:=by
  unfold OpenLaw.pre at hc;let h4:(WTm.not (.lt (.lit (.int (n:Int))) (.len (.arg 0)))).holds [] {args:=[.list (ns.map .int)]}=true:=by
   let h4:=(holds_andW hc).1;rw[hn]at h4;show h4
  let h5:=condW_of h4 (w_not (w_lt w_lit (w_len_list (w_arg rfl))));rw[aY]at h5;show NT λq=>?_;let q':(n:Int)<((ns.length:Nat):Int):=by lia
  first
   |(rw[cO q']at h5;show absurd h5 J0)
   |(simp at h5;lia)
 cases Sy with
 |cons w1 w2=>
  cases w2;cases w1 with
  |list ho pN=>show⟨_,_,ns,rfl,rfl,ho,zci ns _ pN,hlen⟩
theorem zgm(l:OpenLaw)(args:List WData):l.row.toRowW.claim.post args (.bool true) args=true:=
 postW_of (r:=l.row.toRowW) (X:=(true==true))
  (show WShape.has [] (.bool true) .bool=true by first|rfl|decide|simp[WShape.has,WShape.arms,WShape.armsAll])
  (show (WTm.eq .res (.lit (.bool true))).value [] {args:=args,res:=some (.bool true),after:=args}=some (.bool (true==true)) from w_eq_bool (w_res rfl) w_lit) rfl
theorem n_{l:OpenLaw}{n:Nat}{q:Program}{loose:List Str}{XP:(Str->Option Value)->Heap->Prop}{YP:World->Heap->Prop}{d:DefRec}
  (hn:l.most=some n) (SJ:d.params.defaults=[])
  (call:∀(w:World) (s₀ s₁:Shared) (mg mb:Str->Option Value) (fa:Addr) (o:Obj) (pm cd doc:Value) (a:Addr) (vs:List Value) (ns:List Int),
   Ground q loose [] XP w s₀ mg mb s₁.heap->YP w s₁.heap->
   s₁.heap.get? fa=some o->o.data=.func (docDef d.name d.params d.body d.scope pm cd doc)->s₁.heap.CodeRec cd d.name->mg d.name=some (.ref fa)->
   s₁.heap.get? a=some {cls:=.type "list",data:=.seq vs.toArray}->IntsAre vs ns->ns.length<=n->s₁.gens=#[]->
   codeAny (model l.prog w) callerA (.call (.ref fa) ⟨[.ref a],[]⟩) (λr s'=>r=.ok (.ret (.bool true))/\OldK s₁.heap s'.heap/\s'.os=s₁.os/\AllBare s'.gens) s₁) :
  WalkO q loose XP YP l.row.toRowW d [] (λf vs=>PySem.call f vs):=by
 intro w s₀ s₁ mg mb G Y fa o pm cd doc dV kV ho hd nJ hD hmg hg args vals as hpre Jr hrd Sy hlo;obtain rfl:dV=.none:=Dflts.none hD SJ;obtain rfl:kV=.none:=Dflts.noKw hD;let⟨a,vs,ns,rfl,rfl,Dh,hints,hlen⟩:=zgS hn hpre Sy;show enter_call (HN (call w s₀ s₁ mg mb fa o pm cd doc a vs ns G Y ho (fd_plain hd) nJ hmg Dh hints hlen hg) λr s' hq=>?_);let⟨rfl,h2,h3,h4⟩:=hq;show⟨.inl ⟨.bool true,.bool true,[],rfl,λ_=>rfl,.bool true,zgm l _,λ_=>⟨List.Pairwise.nil,λ_ hm=>(nomatch hm)⟩⟩,h2,h3,h4⟩
end ZK
namespace L2
open PySem PySem.Spec PyProof.Rows
theorem ZL:∀{vs:List Value} {ns:List Int},IntsAre vs ns->Vals (ns.map V.int) vs
 |_,_,.nil=>.nil|_,_,.cons n t h=>.cons ⟨t,rfl⟩ (ZL h)
def Only(H:Hp):Prop:=∀b,H b=none\/∃o xs,H b=some (.uz o (.lst xs))
theorem zhK{P:Program}{w:World}{K:W.Frag}{mg mb:Str->Option Value}{CX:sZ}{k:Nat}{fa a:Addr}{fd:FuncData}{x:Str}{sp:Sp}{s₁:Shared}{vs:List Value}{ns:List Int}
  (KX:K.In s₁.heap) (ZM:s₁.heap.Ns mainGlobals mg) (hb:s₁.heap.Ns builtinsNs mb) (O7:∀x:Str,x≠"__name__"->mb x=bootBuiltins x) (SM:s₁.heap.NoLimit) (hg:s₁.gens=#[])
  (ha:s₁.heap.get? a=some {cls:=.type "list",data:=.seq vs.toArray}) (hi:IntsAre vs ns) (hl:ns.length<=sizeLine) (hr:cC k callerA)
  (F:∀base:Heap,K.In base->base.Ns mainGlobals mg->fU P w K mg base CX true k fa fd [x] sp) (Js:∀(s:Shared) (u:Value),BindsTo s fd ⟨[u],[]⟩ [(x,u)])
  (O2:∀H:Hp,Only H->cY K H a (ns.map V.int)->sp [.ref a] H (λv _=>v=.bl true) λ_ _ _=>False)
  (hCX:∀H e s',CX [] H s₁ (λ_ _ _=>False) e s'->False) :
  codeAny (model P w) callerA (.call (.ref fa) ⟨[.ref a],[]⟩) (λr s'=>r=.ok (.ret (.bool true))/\OldK s₁.heap s'.heap/\s'.os=s₁.os/\AllBare s'.gens) s₁:=by
 let rv:=ZL hi;let lenV:=hi.length;let core:∀H:Hp,Only H->cY K H a (ns.map V.int)->iI P w H s₁.heap->(∀b,H b≠none->b=a)->(H a≠none->K.lookup a=none)->
   codeAny (model P w) callerA (.call (.ref fa) ⟨[.ref a],[]⟩) (λr s'=>r=.ok (.ret (.bool true))/\OldK s₁.heap s'.heap/\s'.os=s₁.os/\AllBare s'.gens) s₁:=by
  intro H hO hS hok hA hK;let qF:∀{b:Addr} {o:Obj},s₁.heap.get? b=some o->H b=none->(mC s₁.heap H).get? b=some o:=λe n=>ziD e n;let I9:∀{b:Addr} {o:Obj} {es:Array DictEntry} {ep:Nat},s₁.heap.get? b=some o->o.data=.dict es ep->H b=none:=λ{b o es ep} e d=>by
   cases q:H b with
   |none=>rfl|some u=>
    let e':b=a:=hA b (by rw[q];simp);subst e';rw[ha]at e;cases e;let d':Data.seq vs.toArray _=Data.dict es ep:=d;cases d'
  let O8:∀{b:Addr} {m:Str->Option Value},s₁.heap.Ns b m->(mC s₁.heap H).Ns b m:=λ{b m} ⟨o,es,ep,e,d,r⟩=>⟨o,es,ep,qF e (I9 e d),d,r⟩;let ZP:K.In (mC s₁.heap H):=λb o e=>qF (KX b o e) (by
   cases q:H b with
   |none=>rfl|some u=>
    let e':b=a:=hA b (by rw[q];simp);subst e';rw[hK (by rw[q];simp)]at e;cases e)
  let hM:Mod K mg (mC s₁.heap H):=⟨ZP,O8 ZM,⟨mb,O8 hb,O7⟩,let ⟨mc,h1,h2⟩:=SM;⟨mc,O8 h1,h2⟩⟩;let e0:yj P w K mg (mC s₁.heap H) callerA [] s₁ H:=⟨rfl,hM,λb o e=>zk4 e,Nat.le_of_eq (zfO _ _),trivial,λb hb=>absurd (show b∈([]:List Addr) from hb) V8,hok,.of_eq hg⟩;show HN ((F _ ZP (O8 ZM)).run callerA [] s₁ H ⟨[.ref a],[]⟩ [.ref a] [.ref a] _ _ (λ_=>rfl) hr e0 (Js s₁ (.ref a)) (.cons rfl .nil) (O2 H hO hS)) λr s' h=>?_;cases r with
  |error e=>show(hCX H e s' h).elim|ok fl=>
   cases fl with
   |next=>show False.elim h|brk=>show False.elim h|cont=>show False.elim h|ret u=>
    let⟨v,H',os,bare,un,SN,r',q⟩:=h;let q':v=.bl true:=q;subst q';obtain rfl:u=Value.bool true:=r';show⟨rfl,OldK.of_keep λb o e=>?_,os,bare⟩;cases q:H b with
    |none=>show un.keep b o e q (by intro z;show absurd (show b∈([]:List Addr) from z) V8) V8|some u=>
     rcases hO b with z|⟨ob,xs,z⟩
     .rw[q]at z;cases z
     .let z2:=un.jD b ob _ z;let⟨e1,_⟩:=hok b _ z;let⟨e2,_⟩:=SN b _ z2;rw[e]at e1;cases e1;show e2
 cases hk:K.lookup a with
 |some o=>
  let e:=KX a o hk;rw[ha]at e;cases e;show core (λ_=>none) (λ_=>.inl rfl) (.inr ⟨_,vs.toArray,_,hk,rfl,rfl,rfl,by rw[dH,lenV];show hl,by simpa using rv⟩) (λb u z=>by let z':(none:Option HO)=some u:=z;cases z') (λb z=>absurd rfl z) λz=>absurd rfl z
 |none=>
  show core (λb=>if b=a then some (.uz {cls:=.type "list",data:=.seq vs.toArray} (.lst (ns.map V.int))) else none) (λb=>?_) (.inl (.inr ⟨{cls:=.type "list",data:=.seq vs.toArray},if_pos rfl⟩)) (λb u z=>?_) (λb z=>?_) λ_=>hk
  .by_cases hb:b=a
   .exact .inr ⟨_,_,if_pos hb⟩
   .exact .inl (if_neg hb)
  .by_cases hb:b=a
   .let z':=(if_pos hb).symm.trans z;cases z';subst hb;show⟨ha,by rw[aY];show hl,vs,_,rv,ha⟩
   .let z':=(if_neg hb).symm.trans z;cases z'
  .by_cases hb:b=a
   .exact hb
   .exact absurd (if_neg hb) z
def SQ(h0:Heap)(H:Hp)(h:Heap)(e:Addr)(hd:Value):Prop:=
 hd=.none\/∃T oT ts,hd=.ref T/\h0.get? T=none/\H T=none/\T≠e/\h.get? T=some oT/\oT.data=.fields ts/\ts[3]?=some .none
structure Exc(h0:Heap)(H:Hp)(h:Heap)(e C:Addr)(dx:Option Addr):Prop where
 new:h0.get? e=none
 un:H e=none
 ob:∃oe vs hd,h.get? e=some oe/\oe.cls=.ref C/\oe.dict=dx/\oe.data=.fields vs/\vs[1]?=some hd/\SQ h0 H h e hd
structure Jt(h0:Heap)(H:Hp)(fr:List Addr)(h h':Heap)(ch:List Addr):Prop where
 rec_:∀b∈ch,h0.get? b=none/\H b=none/\∃o vs,h.get? b=some o/\o.data=.fields vs
 keep:∀b o,h.get? b=some o->b∉fr->b∉ch->h'.get? b=some o
 slot:∀b o,h.get? b=some o->b∈fr->∃sl,h'.get? b=some {o with slots:=sl}
 there:∀b o,h.get? b=some o->∃o',h'.get? b=some o'
noncomputable def uJ(head:Value)(L:Addr)(pl:List Value):Obj:=
 {cls:=.type "traceback",dict:=none,data:=.fields ([head,.ref L,.none,rawInt L,.none]++(if pl.isEmpty then List.replicate 6 Value.none else pl)).toArray}
theorem ZQ(o:Obj)(f:Array Value->Array Value):(o.mapFields f).dict=o.dict:=by
 let⟨c,d,dt,sl⟩:=o;cases dt<;>rfl
theorem ZR(o:Obj)(f:Array Value->Array Value):(o.mapFields f).cls=o.cls:=by
 let⟨c,d,dt,sl⟩:=o;cases dt<;>rfl
section
variable {M:Model}{A:Around}{E:Value->Shared->Prop}{s:Shared}{base h0:Heap}{env:Env}{outer:List Env}{L e C:Addr}{dx:Option Addr}{H:Hp}{Q:Unit->Shared->Prop}
theorem ZS(hfr:A.frames=some (env::outer))(hl:s.heap.FunFrames base (env::outer))(hf:env.frame=some L)
  (he:s.heap.get? e=some oe) (hd:oe.data=.fields vs) (iw:1<vs.size)
  (k:∀h' T oT ts,s.heap.objs.size<=T->(∀b o,s.heap.get? b=some o->b∉frs (env::outer)->b≠e->h'.get? b=some o)->(∀b o,s.heap.get? b=some o->b∈frs (env::outer)->∃sl,h'.get? b=some {o with slots:=sl})->
   h'.get? e=some (oe.mapFields (·.setIfInBounds 1 (.ref T)))->h'.get? T=some oT->oT.data=.fields ts->3<ts.size->ts[3]?=some (rawInt L)->Q () {s with heap:=h'}) :
  wpAny M A (do let a <-frameOf env;let pl <-entryPlaceOf L hn;let b <-EntryCells.newEntry head a .none (rawInt L) .none pl;setField (.ref e) 1 b) Q E s:=by
 let Ju:e∉frs (env::outer):=λhm=>by
  let⟨_,o,ho,hx⟩:=hl.mem hm;rw[he]at ho;cases ho;show hx vs hd
 show aB (wpAny_frameOf_fun hfr hl hf λh₁ sl₁=>?_);show aB (wpAny_entryPlaceOf λpl bU=>?_);unfold EntryCells.newEntry newFields;show aB (sS ?_ (bU.sizeOk5 _ _ _ _ _));let e1:h₁.get? e=some oe:=(sl₁.2.1 e Ju).trans he;let e2:(h₁.push (uJ head L pl)).get? e=some oe:=dD _ e1;show HB e2 hd iw ?_;let ne:h₁.objs.size≠e:=gD (bL e1);let d3:=xJ hd (·.setIfInBounds 1 (Value.ref h₁.objs.size));let kp:∀b o,h₁.get? b=some o->b≠e->((h₁.push (uJ head L pl)).update e (Obj.mapFields (·.setIfInBounds 1 (Value.ref h₁.objs.size)))).get? b=some o:=λb o q n=>by
  rw[v9 _ _ n.symm];show dD _ q
 show k _ h₁.objs.size (uJ head L pl) _ (by rw[sl₁.1];show bQ _) (λb o q n1 n2=>kp b o ((sl₁.2.1 b n1).trans q) n2) (λb o q m=>?_) (wg _ e2 (Ng d3)) ?_ rfl ?_ ?_
 .obtain⟨sl,z⟩:=sl₁.2.2 b o q;show⟨sl,kp b _ z λy=>Ju (y▸m)⟩
 .rw[v9 _ _ ne.symm];show gK _ rfl
 .simp only[dH,bZ,fP,B_]<;>lia
 .first
   |(simp;done)
   |(rcases bU with rfl|⟨_,_,_,_,_,_,_,rfl⟩<;>simp)
theorem ziN(hfr:A.frames=some (env::outer))(hl:s.heap.FunFrames base (env::outer))(hf:env.frame=some L)(x:Exc h0 H s.heap e C dx)
  (k:∀h' T oT oe ts vs ch,Jt h0 H (frs (env::outer)) s.heap h' ch->s.heap.objs.size<=T->h'.get? e=some oe->oe.cls=.ref C->oe.dict=dx->oe.data=.fields vs->vs[1]?=some (.ref T)->h'.get? T=some oT->oT.data=.fields ts->
   3<ts.size->ts[3]?=some (rawInt L)->Q () {s with heap:=h'}):wpAny M A (noteFrame (.ref e) env) Q E s:=by
 let⟨oe,vs,hd,he,hc,Am,qG,h1,tb⟩:=x.ob;let iw:1<vs.size:=(Hl.mp h1).1;let Ju:∀b o ws,s.heap.get? b=some o->o.data=.fields ws->b∉frs (env::outer):=λb o ws q d hm=>by
  let⟨_,o',ho,hx⟩:=hl.mem hm;rw[q]at ho;cases ho;show hx ws d
 unfold noteFrame;simp only[hf];show aB (iM he qG h1 ?_);rcases tb with rfl|⟨T,oT,ts,rfl,nT,uT,neT,gT,dT,h3⟩
 .rw[if_neg J0];show ZS hfr hl hf he qG iw λh' T oT ts lt kp sl ge gT dT z3 z4=>?_;show k h' T oT _ ts _ [e] ⟨λb hb=>?_,λb o q n1 n2=>kp b o q n1 λz=>n2 (by rw[z];show .head _),sl,λb o q=>?_⟩ lt ge ((ZR _ _).trans hc) ((ZQ _ _).trans Am) (xJ qG _) (by simp[iw]) gT dT z3 z4
  .obtain rfl:b=e:=by simpa using hb
   show⟨x.new,x.un,oe,vs,he,qG⟩
  .by_cases z:b=e
   .subst z;show⟨_,ge⟩
   .by_cases m:b∈frs (env::outer)
    .obtain⟨w,q'⟩:=sl b o q m;show⟨_,q'⟩
    .exact⟨o,kp b o q m z⟩
 .rw[if_pos (show (Value.ref T != Value.none)=true from by simp)];show aB (iM gT dT h3 ?_);rw[if_neg (show ¬((Value.none==rawInt L)=true) from by simp[rawInt])];let z3:3<ts.size:=(Hl.mp h3).1;show aB (HB gT dT z3 ?_);let oth:∀b,b≠T->(s.heap.update T (Obj.mapFields (·.setIfInBounds 3 Value.none))).get? b=s.heap.get? b:=λb n=>v9 _ _ n.symm;let hl':(s.heap.update T (Obj.mapFields (·.setIfInBounds 3 Value.none))).FunFrames base (env::outer):=hl.of_keeps λb o q nd=>⟨o,(oth b λz=>by subst z;rw[gT]at q;cases q;show nd ts dT).trans q,rfl⟩;let sT:(s.heap.update T (Obj.mapFields (·.setIfInBounds 3 Value.none))).get? T=some (oT.mapFields (·.setIfInBounds 3 Value.none)):=wg _ gT (Ng (xJ dT _));show ZS hfr hl' hf ((oth e neT.symm).trans he) qG iw λh' T' oT' ts' lt kp sl ge gT' dT' z3' z4'=>?_;let lt':s.heap.objs.size<=T':=by
   let:=lt;simp only[Heap.size_after_update]at this;show this
  show k h' T' oT' _ ts' _ [e,T] ⟨λb hb=>?_,λb o q n1 n2=>kp b o ((oth b λz=>n2 (by simp[z])).trans q) n1 λz=>n2 (by simp[z]),λb o q m=>?_,λb o q=>?_⟩ lt' ge ((ZR _ _).trans hc) ((ZQ _ _).trans Am) (xJ qG _) (by simp[iw]) gT' dT' z3' z4'
  .let hb':b=e\/b=T:=by simpa using hb
   rcases hb' with rfl|rfl
   .exact⟨x.new,x.un,oe,vs,he,qG⟩
   .exact⟨nT,uT,oT,ts,gT,dT⟩
  .exact sl b o ((oth b λz=>by subst z;show Ju b o ts q (by rw[gT]at q;cases q;show dT) m).trans q) m
  .by_cases z:b=e
   .subst z;show⟨_,ge⟩
   .by_cases y:b=T
    .subst y;show⟨_,kp b _ sT (Ju b oT ts gT dT) z⟩
    .by_cases m:b∈frs (env::outer)
     .obtain⟨w,q'⟩:=sl b o ((oth b y).trans q) m;show⟨_,q'⟩
     .exact⟨o,kp b o ((oth b y).trans q) m z⟩
theorem ZV(he:s.heap.get? e=some oe)(hd:oe.data=.fields vs)(h1:vs[1]?=some (.ref T))(gT:s.heap.get? T=some oT)(dT:oT.data=.fields ts)(z3:3<ts.size)
  (k:∀h',(∀b o,b≠T->s.heap.get? b=some o->h'.get? b=some o)->h'.get? T=some (oT.mapFields (·.setIfInBounds 3 Value.none))->Q () {s with heap:=h'}):wpAny M A (setFlight (.ref e) none) Q E s:=by
 unfold setFlight;show aB (iM he hd h1 ?_);rw[if_pos (show (Value.ref T != Value.none)=true from by simp)];show HB gT dT z3 (k _ (λb o n q=>(v9 _ _ n.symm).trans q) (wg _ gT (Ng (xJ dT _))))
theorem ZW(hfr:A.frames=some (env::outer))(hl:s.heap.FunFrames base (env::outer))(hf:env.frame=some L)(x:Exc h0 H s.heap e C dx)
  (lG:∀b,s.heap.objs.size<=b->H b=none) (h0s:∀b o,h0.get? b=some o->∃o',s.heap.get? b=some o')
  (k:∀h' ch,Jt h0 H (frs (env::outer)) s.heap h' ch->Exc h0 H h' e C dx->Q () {s with heap:=h'}) :
  wpAny M A (noteFrame (.ref e) env) (λ_ s₁=>wpAny M A (setFlight (.ref e) none) Q E s₁) E s:=by
 let ele:∃o,s.heap.get? e=some o:=let ⟨oe,_,_,he,_⟩:=x.ob;⟨oe,he⟩;show ziN hfr hl hf x λh' T oT oe ts vs ch t lt ge hc Am qG h1 gT dT z3 z4=>?_;let neT:T≠e:=λz=>by
  let⟨o,q⟩:=ele;show absurd (dF (bL q) (z▸lt)) (nU _)
 show ZV (s:={s with heap:=h'}) ge qG h1 gT dT z3 λh2 kp gT2=>?_;let nT:∀b o,s.heap.get? b=some o->b≠T:=λb o q z=>absurd (dF (bL q) (z▸lt)) (nU _);show k h2 ch ⟨t.rec_,λb o q n1 n2=>kp b o (nT b o q) (t.keep b o q n1 n2),λb o q m=>?_,λb o q=>?_⟩ ⟨x.new,x.un,oe,vs,.ref T,kp e oe neT.symm ge,hc,Am,qG,h1,.inr ⟨T,_,_,rfl,?_,lG T lt,neT,gT2,xJ dT _,by simp[z3]⟩⟩
 .obtain⟨sl,q'⟩:=t.slot b o q m;show⟨sl,kp b _ (nT b o q) q'⟩
 .obtain⟨o',q'⟩:=t.there b o q;show⟨o',kp b o' (nT b o q) q'⟩
 .cases z:h0.get? T with
  |none=>rfl|some o=>
   let⟨o',q⟩:=h0s T o z;show absurd rfl (nT T o' q)
end
noncomputable abbrev XS:=St->Value->Option Addr->Hp->Prop
def Sub(h0 h:Heap):Prop:=∀b o,h0.get? b=some o->∃o',h.get? b=some o'
theorem Sub.none{h0 h:Heap}(x:Sub h0 h){b:Addr}(e:h.get? b=none):h0.get? b=none:=by
 cases q:h0.get? b with
 |none=>rfl|some o=>
  let⟨o',z⟩:=x b o q;rw[e]at z;cases z
theorem Exc.older{h0 h1:Heap}{H:Hp}{h:Heap}{e C:Addr}{dx:Option Addr}(x:Exc h1 H h e C dx)(y:Sub h0 h1):Exc h0 H h e C dx:=by
 let⟨oe,vs,hd,a,b,c,d,f,tb⟩:=x.ob;show⟨y.none x.new,x.un,oe,vs,hd,a,b,c,d,f,?_⟩;rcases tb with z|⟨T,oT,ts,z1,z2,z3⟩
 .exact .inl z
 .exact .inr ⟨T,oT,ts,z1,y.none z2,z3⟩
section
variable {X:Cx}{ak:List (Addr×Obj)}{Z:St}{H:Hp}{s:Shared}{h0 h':Heap}{ch fr:List Addr}
theorem iI.Jv{P:Program}{w:World}{h:Heap}(x:iI P w H h)(t:Jt h0 H fr h h' ch)(hf:∀b∈fr,H b=none):iI P w H h':=λa o e=>by
 let st:∀b u,(b=a\/H b=some (.own a))->h.get? b=some u->h'.get? b=some u:=λb u z q=>by
  let nb:H b≠none:=by
   rcases z with z|z
   .rw[z,e];simp
   .rw[z];simp
  show t.keep b u q (λm=>nb (hf b m)) λm=>nb (t.rec_ b m).2.1
 show(x a o e).stay st (λ_ z=>z) λ_ _ z=>z
theorem Inv.Jv(I:Inv X ak Z H s)(t:Jt h0 H (frs X.stack) s.heap h' ch)(hs:∀b o,X.s₀.heap.get? b=some o->b∉X.ex->∃o',h0.get? b=some o')(hp:∀p∈X.pn++ak,∃o,h0.get? p.1=some o):Inv X ak Z H {s with heap:=h'}:=by
 show I.call (g':=s.gens) (d':=s.drawn) (t':=s.toks) (ch:=ch) ⟨λb o q _ n1 n2=>t.keep b o q n1 n2,λb o q _ m _=>t.slot b o q m,λ_ _ _ n _=>n,λb o q _=>t.there b o q,λ_ _ q=>q,λ_ _ _ q=>q,λ_ ps q=>⟨#[],by rw[q];simp⟩⟩ (I.hok.Jv t I.jL) I.bare λb hb=>?_;let⟨n0,_,o,vs,q,d⟩:=t.rec_ b hb;show⟨?_,λz=>?_,λx c e z=>?_,λp hq z=>?_⟩
 .by_cases m:b∈X.ex
  .exact .inl m
  .refine .inr ?_;cases z:X.s₀.heap.get? b with
   |none=>rfl|some u=>
    let⟨o',z'⟩:=hs b u z m;rw[n0]at z';cases z'
 .subst z;let⟨m,⟨ol,es,ep,e1,e2,_⟩,_⟩:=I.loc;rw[q]at e1;cases e1;rw[d]at e2;cases e2
 .subst z;let⟨v,oc,e1,e2⟩:=I.cell x c e;rw[q]at e1;cases e1;rw[d]at e2;cases e2
 .obtain⟨u,e1⟩:=hp p hq;rw[z,n0]at e1;cases e1
end
def Raises(X:Cx)(EX:XS):Prop:=
 ∀(ak:List (Addr×Obj)) (Z:St) (H:Hp) (s:Shared) (h0:Heap) (e C:Addr) (dx:Option Addr),Inv X ak Z H s->(∀b o,X.s₀.heap.get? b=some o->b∉X.ex->∃o',h0.get? b=some o')->
  (∀p∈X.pn++ak,∃o,h0.get? p.1=some o)->Sub h0 s.heap->Exc h0 H s.heap e C dx->EX Z (.ref C) dx H->X.xe (.ref e) s
noncomputable def lq(P:Program)(w:World):sZ:=λouter H s E e s'=>
 ∃(a C:Addr) (dx:Option Addr) (H':Hp),e=.ref a/\s'.os=s.os/\AllBare s'.gens/\Un (frs outer) [] H H' s.heap s'.heap/\iI P w H' s'.heap/\Exc s.heap H' s'.heap a C dx/\E (.ref C) dx H'
theorem zfa{P:Program}{w:World}{K:W.Frag}{mg:Str->Option Value}{base:Heap}{N:List Str}{qual:Str}{scope:Scope}{f:Addr}{cd:Value}{A:Around}{outer:List Env}{s:Shared}{H:Hp}{E:XK}{cm:Bool} :
  Raises (jq (lq P w) P w K mg base N qual scope f cd A outer s H E cm) (λ_ C dx H'=>E C dx H'):=by
 intro ak Z H1 s1 h0 e C dx I hs hp h01 x ex;let I0:Inv (jq (lq P w) P w K mg base N qual scope f cd A outer s H E cm) [] Z H1 s1:=I.mF λp z=>absurd z V8;change wpAny (model P w) (A.deeper (envOfC qual scope s.heap.objs.size f cd)) (leaving (envOfC qual scope s.heap.objs.size f cd) (.ref e)) _ _ s1;unfold leaving;let hsub:Sub s.heap h0:=λb o q=>hs b o q (by change b∉([]:List Addr);simp);show aB (ZW (base:=base) (outer:=outer) (L:=s.heap.objs.size) I0.ok.frames I0.stack rfl x (λb z=>I0.hok.fresh z) h01 λh' ch t x'=>?_);let fin:∀b o,s.heap.get? b=some o->b∉ch:=λb o q m=>by
  let z:=hsub.none (t.rec_ b m).1;rw[q]at z;cases z
 let nL:∀b o,s.heap.get? b=some o->b∉frs outer->b∉frs (envOfC qual scope s.heap.objs.size f cd::outer):=λb o q n m=>by
  let m':b∈s.heap.objs.size::frs outer:=m;rcases cX.mp m' with z|z
  .exact absurd (bL q) (by rw[z];show nU _)
  .exact n z
 show⟨e,C,dx,H1,rfl,I0.os,I0.bare,⟨λb o q n hb _=>?_,λb o q n hb _=>?_,λb o q n _=>I0.base.free b o q n (by change b∉([]:List Addr);simp),λb o q _=>?_,I0.base.tups,I0.base.jD,I0.base.jT⟩,I0.hok.Jv t I0.jL,x'.older hsub,ex⟩
 .exact t.keep b o (I0.base.keep b o q n hb (by change b∉([]:List Addr);simp)) (nL b o q hb) (fin b o q)
 .obtain⟨sl,q1⟩:=I0.base.slot b o q n hb (by change b∉([]:List Addr);simp);let⟨sl',q2⟩:=t.slot b _ q1 (show b∈s.heap.objs.size::frs outer from fZ _ hb);show⟨sl',q2⟩
 .obtain⟨o',q1⟩:=I0.base.there b o q (by change b∉([]:List Addr);simp);show t.there b o' q1
section
variable {X:Cx}{cm:Bool}{k:Nat}{f C:Addr}{fd:FuncData}{ps:List Str}{sp:Sp}{EX:XS}{x m:Str}{p pos apos:Pos}{e o:Expr}{es:List Expr}{ta:TE}{t:TA}
theorem Raises.pass(R:Raises X EX)(I:Inv X ak Z H s)(h:lq X.prog X.w X.stack H s (EX Z) v s'):X.xe v s':=by
 let⟨a,C,dx,H',rfl,os,bare,un,hok,x,q⟩:=h;let ao:Sub s.heap s'.heap:=λb o z=>un.there b o z V8;show R ak Z H' s' s.heap a C dx (I.call' os un hok bare λb z=>absurd z V8) (λb o z n=>I.base.there b o z n) (λp hp=>?_) ao x q;show⟨p.2,(I.pin p hp).1⟩
noncomputable def Di(sp:Sp)(EX:XS)(t:TA):TE:=λZ H Q=>t Z H λvs H1=>sp vs H1 Q (EX Z)
theorem zkZ(F:fU X.prog X.w X.K X.mg X.base (lq X.prog X.w) cm k f fd ps sp)(rH:cm=true->X.aj=true)(hr:cC k X.A)(hb:Binds X.K fd ps [])(R:Raises X EX)
  (I:Inv X ak Z H s) (r:Vals vs us) (h:sp vs H Q (EX Z)):wpAny (model X.prog X.w) X.A (call (.ref f) us) (EP X ak Z Q) X.xe s:=by
 let hl:us.length=ps.length:=by rw[<-r.length];show F.len _ _ _ _ h
 let hb':=hb s us I.xY (by rw[sV];show hl);rw[sV]at hb';show wpAny_call (HN (F.run X.A X.stack s H ⟨us,[]⟩ us vs Q (EX Z) (λz=>I.ok.hd (rH z)) hr I.env0 hb' r h) λr s' hq=>?_);cases r with
 |error v=>show R.pass I hq|ok fl=>
  cases fl with
  |ret u=>show I.after hq|next=>show False.elim hq|brk=>show False.elim hq|cont=>show False.elim hq
theorem zit(F:fU X.prog X.w X.K X.mg X.base (lq X.prog X.w) cm k f fd ps sp)(rH:cm=true->X.aj=true)(hr:cC k X.A)(hg:Gl X x)(hm:X.mg x=some (.ref f))(hk:PySem.W.keepIn X.K (.ref f)=true)(hb:Binds X.K fd ps [])(R:Raises X EX)
  (ha:PA X (e::es) t) (lg:(x==("__debug__" : Str))=false:=by decide) (he:starEach (e::es) X.env=(false,eval e X.env)::starEach es X.env:=by rfl) (bU:(backTo pos (starEach es X.env)).any (·.1)=false:=by rfl) :
  PE X (.Call (.Name x p) (e::es) [] pos) (Di sp EX t):=by
 intro ak s Z H Q I h;show zZ (Ot I hg hm ?_ lg);show PySem.W.callWith_K (h₀:=X.base) I.ok.mod.Cr hk (bD (ha pos ak s Z H _ I h) λus s1 ⟨vs,H1,I1,r,q⟩=>⟨I1.xY,zkZ F rH hr hb R I1 r q⟩) he bU
theorem aU.there{P:Program}{w:World}{H:Hp}{h:Heap}{a:Addr}{o:HO}(x:aU P w H h a o):∃ob,h.get? a=some ob:=by
 cases o with
 |lst xs=>let⟨_,_,_,_,q⟩:=x;show⟨_,q⟩|tup xs=>let⟨_,_,_,ob,q,_⟩:=x;show⟨_,q⟩|dK kvs=>let⟨_,_,_,_,ob,_,_,q,_⟩:=x;show⟨_,q⟩|dT kvs=>let⟨_,_,_,_,ob,_,_,q,_⟩:=x;show⟨_,q⟩|set S n=>let⟨ob,_,_,_,q,_⟩:=x;show⟨_,q⟩|ins C dx fs=>let⟨_,_,_,q,_⟩:=x;show⟨_,q⟩|own y=>show x|xd fs=>let⟨_,⟨_,_,_,q,_⟩,_⟩:=x;show⟨_,q⟩|rng lo hi=>let⟨_,_,_,q⟩:=x;show⟨_,q⟩|uz ob u=>let⟨q,_⟩:=x;show⟨_,q⟩|Ah ps=>show⟨_,(show h.get? a=some _ from x)⟩|met f y=>show⟨_,(show h.get? a=some _ from x)⟩|ext U=>let⟨_,q,_⟩:=x;show q
theorem zmG{v:Value}{n:String}(h:YS v=some n):v=.type n:=by cases v<;>first|(cases h;rfl)|cases h
theorem zkH{v:Value}{n:Addr}(h:HY v=some n):v=.ref n:=by cases v<;>first|(cases h;rfl)|cases h
theorem zk3{v:Value}{n:String}(h:xU v=some n):v=.builtin n:=by cases v<;>first|(cases h;rfl)|cases h
theorem zmR{v:Data}{n:ClassData}(h:YT v=some n):v=.cls n:=by cases v<;>first|(cases h;rfl)|cases h
theorem zmn{l:List Value}{p:Value×List Value}(h:YW l=some p):l=p.1::p.2:=by
 cases l with
 |nil=>cases h|cons a r=>cases h;rfl
theorem SX{α:Type}{o:Option α}{p:α->Bool}(h:o.any p=true):∃a,o=some a/\p a=true:=by
 cases o with
 |none=>cases h|some a=>show⟨a,rfl,h⟩
theorem zjK{K:W.Frag}{C:Addr}{bmB:List Value}{newId:String}{ini:Option Value}(q:mq K C bmB newId ini=true) :
  ∃o cd bm,K.lookup C=some o/\o.cls=.type "type"/\o.data=.cls cd/\cd.mro=.ref C::bm/\o.slots.size=6/\(o.slots[4]?.join).bind xU=some newId/\cd.hasDel=false/\PySem.W.tailIn K bmB bm=true/\PySem.W.nsOkIn K cd.ns=true/\PySem.W.nsIn K cd.ns "__init__"=some ini:=by
 let⟨o,lk,q⟩:=SX q;let⟨q1,q⟩:=(dZ _ _).mp q;let⟨cd,ec,q⟩:=SX q;let⟨v,ev,q⟩:=SX q;simp only[dZ,xT,Bool.not_eq_true']at q1 q;let⟨⟨⟨⟨⟨⟨q2,q3⟩,q4⟩,q5⟩,q6⟩,q7⟩,q8⟩:=q;show⟨o,cd,v.2,lk,zmG q1,zmR ec,by rw[zmn ev,zkH q2],q3,q4,q5,q6,q7,q8⟩
theorem S5{sl:Array (Option Value)}{n:String}(h:sl.size=6)(h4:(sl[4]?.join).bind xU=some n):∃k0 k1 k2 k3 k5,sl=#[k0,k1,k2,k3,some (.builtin n),k5]:=by
 let⟨v,e,e2⟩:=v8.mp h4;cases zk3 e2;show⟨sl[0],sl[1],sl[2],sl[3],sl[5],Array.ext (by simp[h]) λi h1 h2=>?_⟩;let e:sl[4]=some (.builtin n):=by
  rw[vZ (show 4<sl.size by lia)]at e;show e
 let:i<6:=by simpa using h2
 rcases i with _|_|_|_|_|_|i
 .rfl
 .rfl
 .rfl
 .rfl
 .exact e
 .rfl
 .lia
theorem zlR{o:Obj}{cd:ClassData}{C:Addr}{bm:List Value}{k0 k1 k2 k3 k5:Option Value}{n:String}(h1:o.cls=.type "type")(h2:o.data=.cls cd)(h3:cd.mro=.ref C::bm)(h4:o.slots=#[k0,k1,k2,k3,some (.builtin n),k5])(h5:cd.hasDel=false) :
  o=excClassObj cd.name cd.qualname C cd.ns cd.bases bm cd.hasDict cd.slotNames cd.subclasses cd.abstract cd.collection o.dict k0 k1 k2 k3 k5 n:=by
 let⟨cls,dd,data,sl⟩:=o;let⟨nm,bs,mro,ns,qn,hd,sn,ao,ab,col,del⟩:=cd;dsimp only at h1 h2 h3 h4 h5;subst h1 h2 h3 h4 h5;rfl
theorem ziG{K:W.Frag}{h:Heap}{C:Addr}{bmB:List Value}{newId:String}{ini:Option Value}(XI:K.In h)(q:mq K C bmB newId ini=true) :
  ∃bm N nm qn bs hdct sn ao ab col dd k0 k1 k2 k3 k5,h.get? C=some (excClassObj nm qn C N bs bm hdct sn ao ab col dd k0 k1 k2 k3 k5 newId)/\PySem.W.nsOkIn K N=true/\PySem.W.nsIn K N "__init__"=some ini/\OwnTail h bmB bm:=by
 let⟨o,cd,bm,lk,h1,h2,h3,h4,h5,h6,h7,h8,h9⟩:=zjK q;let⟨k0,k1,k2,k3,k5,e⟩:=S5 h4 h5;show⟨bm,_,_,_,_,_,_,_,_,_,_,k0,k1,k2,k3,k5,(XI _ _ lk).trans (pI some (zlR h1 h2 h3 e h6)),h8,h9,PySem.W.tail_of_in XI h7⟩
theorem zkR{K:W.Frag}{h:Heap}{C:Addr}{bmB:List Value}{newId:String}(XI:K.In h)(q:mq K C bmB newId none=true) :
  ∃bm N nm qn bs hdct sn ao ab col dd k0 k1 k2 k3 k5 mN,h.get? C=some (excClassObj nm qn C N bs bm hdct sn ao ab col dd k0 k1 k2 k3 k5 newId)/\h.Ns N mN/\mN "__init__"=none/\OwnTail h bmB bm:=by
 let⟨bm,N,nm,qn,bs,hdct,sn,ao,ab,col,dd,k0,k1,k2,k3,k5,hc,ZX,noi,tl⟩:=ziG XI q;show⟨bm,N,nm,qn,bs,hdct,sn,ao,ab,col,dd,k0,k1,k2,k3,k5,_,hc,.of_isNs (PySem.W.isNs_of_in XI ZX),PySem.W.nsMap_none_of_in XI ZX noi,tl⟩
noncomputable def Dj(EX:XS)(C:Addr)(t:TA):TS:=λ_ Z H=>t Z H λvs H1=>vs.length<=sizeLine/\EX Z (.ref C) none H1
theorem zhX{B Bn newId nid initId inN:String}{bmB bmN:List Value}(Fn:ExcBaseFacts Bn newId inN bmN)(S6:bmB.contains (.type Bn)=true)(FB:ExcBaseFacts B nid initId bmB)(hc:X.aj=true)(hX:mq X.K C bmB newId none=true)(hg:Gl X x)(hm:X.mg x=some (.ref C))
  (R:Raises X EX) (ha:PA X (e::es) t) (lg:(x==("__debug__" : Str))=false:=by decide) (he:starEach (e::es) X.env=(false,eval e X.env)::starEach es X.env:=by rfl) (bU:(backTo apos (starEach es X.env)).any (·.1)=false:=by rfl) :
  PS X (.Raise (some (.Call (.Name x p) (e::es) [] apos)) none pos) (Dj EX C t):=by
 intro ak s Z H D I h;let⟨bm,N,nm,qn,bs,hdct,sn,ao,ab,col,dd,k0,k1,k2,k3,k5,mN,hC,hN,hni,T⟩:=zkR I.mod.Cr hX;show wpAny_Raise_call_subU (C:=C) (nm:=nm) (q:=qn) (N:=N) (bs:=bs) (bm:=bm) (hdct:=hdct) (sn:=sn) («sub»:=ao) (ab:=ab) (col:=col) (dd:=dd) (k0:=k0) (k1:=k1) (k2:=k2) (k3:=k3) (k5:=k5)
  Fn S6 FB (mN:=mN) (T.hasType FB.hasBase) (I.ok.hd hc) (by rw[he];change (false||(backTo apos (starEach es X.env)).any (·.1))=false;rw[bU];rfl) hni (Ot I hg hm ⟨rfl,?_⟩ lg)
 let h2:=ha apos ak s Z H _ I h;rw[he]at h2 ⊢;show Calls.evalArgs_plain (bD h2 λus s2 ⟨vs,H2,I2,r,z,q⟩=>⟨rfl,by rw[<-r.length];show z,I2.bk _ _ hC,hN.keeps I2.bk,T.keeps I2.bk,λh' a mx=>?_⟩);let⟨tt,ge,_,_⟩:=mx.there;let un:H2 a=none:=by
  cases z:H2 a with
  |none=>rfl|some u=>
   let lt:=I2.hok.lt z;obtain⟨ob,z'⟩ : ∃ob,s2.heap.get? a=some ob:=by
    let:=I2.hok a u z;show aU.there this
   rw[mx.new]at z';cases z'
 show R ak Z H2 _ s2.heap a C none (I2.kept (t':=s2.toks) mx.keeps) (λb ob z n=>I2.base.there b ob z n) (λq hq=>⟨q.2,(I2.pin q hq).1⟩) (λb ob z=>⟨ob,mx.keeps b ob z⟩) ⟨mx.new,un,_,_,_,ge,rfl,rfl,rfl,rfl,.inl rfl⟩ q
end
noncomputable def jZ(a C:Addr)(dx:Option Addr):HO:=.ext λh=>∃oe vs,h.get? a=some oe/\oe.cls=.ref C/\oe.dict=dx/\oe.data=.fields vs
theorem zkK(x:Exc h0 H0 h a C dx):aU P w H h a (jZ a C dx):=by
 let⟨oe,vs,hd,q,c,d,f,_⟩:=x.ob;show⟨⟨oe,vs,q,c,d,f⟩,⟨oe,q⟩,λh1 h2 ⟨o1,v1,q1,c1,d1,f1⟩ k=>⟨o1,v1,k o1 q1,c1,d1,f1⟩⟩
section
variable {X:Cx}{ak:List (Addr×Obj)}{Z:St}{H:Hp}{s:Shared}{e:Addr}{o:HO}
theorem Inv.track(I:Inv X ak Z H s)(hn:X.s₀.heap.get? e=none)(un:H e=none)(hp:∀p∈X.pn++ak,p.1≠e)(hL:e≠X.env.locals)(hc:∀x c,X.env.cells.lookup x=some c->c≠e)
  (new:aU X.prog X.w (upd H e o) s.heap e o):Inv X ak Z (upd H e o) s:=by
 let ne:∀b u,H b=some u->b≠e:=λb u q z=>by rw[z,un]at q;cases q
 let n0:∀b u,X.s₀.heap.get? b=some u->b≠e:=λb u q z=>by rw[z,hn]at q;cases q
 show⟨I.ok,I.os,I.bare,⟨I.base.keep,I.base.slot,λb u q n hx=>?_,I.base.there,λb xs q=>?_,λb u v q=>?_,λb ps q=>?_⟩,I.loc,I.cell,?_,λx c q=>?_,λp q=>?_,λb u q=>?_,I.len⟩
 .rw[dJ (n0 b u q)];show I.base.free b u q n hx
 .let z:=I.base.tups b xs q;rw[dJ (ne b _ z)];show z
 .let z:=I.base.jD b u v q;rw[dJ (ne b _ z)];show z
 .obtain⟨m,z⟩:=I.base.jT b ps q;show⟨m,by rw[dJ (ne b _ z)];show z⟩
 .rw[dJ hL.symm];show I.free
 .rw[dJ (hc x c q)];show I.fG x c q
 .obtain⟨a1,a2,a3⟩:=I.pin p q;show⟨a1,by rw[dJ (hp p q)];show a2,a3⟩
 .by_cases z:b=e
  .subst z;rw[jK]at q;cases q;show new
  .rw[dJ z]at q;show(I.hok b u q).stay (λ_ _ _ r=>r) (λc r=>by rw[dJ (ne c _ r)];show r) λc xs r=>by rw[dJ (ne c _ r)];show r
noncomputable def Cx.seen(X:Cx)(A:Around)(aj:Bool)(pn:List (Addr×Obj))(E:Value->Shared->Prop):Cx:={X with A:=A,aj:=aj,pn:=pn,xe:=E}
theorem Inv.seen(I:Inv X ak Z H s)(hA:A.frames=X.A.frames)(hc:c=true->A.handled=none)(hp:∀p∈pn++ps,p∈X.pn++ak):Inv (X.seen A c pn E) ps Z H s:=
 ⟨⟨I.ok.mod,I.ok.kind,I.ok.glob,I.ok.blt,I.ok.above,I.ok.inj,I.ok.has,I.ok.cab,hc,hA.trans I.ok.frames,I.ok.stk,I.ok.Y8,I.ok.bs,I.ok.Ai,I.ok.uD,I.ok.xX,I.ok.jU,I.ok.Gg⟩,I.os,I.bare,I.base,I.loc,I.cell,I.free,I.fG,λp z=>I.pin p (hp p z),I.hok,I.len⟩
theorem Inv.gq(I:Inv (X.seen A c pn E) ps Z H s)(hA:X.A.frames=A.frames)(hc:X.aj=true->X.A.handled=none)(hp:∀p∈X.pn++ak,p∈pn++ps):Inv X ak Z H s:=
 ⟨⟨I.ok.mod,I.ok.kind,I.ok.glob,I.ok.blt,I.ok.above,I.ok.inj,I.ok.has,I.ok.cab,hc,hA.trans I.ok.frames,I.ok.stk,I.ok.Y8,I.ok.bs,I.ok.Ai,I.ok.uD,I.ok.xX,I.ok.jU,I.ok.Gg⟩,I.os,I.bare,I.base,I.loc,I.cell,I.free,I.fG,λp z=>I.pin p (hp p z),I.hok,I.len⟩
theorem SP.gq(h:SP (X.seen A c pn E) ps D f s)(hA:X.A.frames=A.frames)(hc:X.aj=true->X.A.handled=none)(hp:∀p∈X.pn++ak,p∈pn++ps):SP X ak D f s:=by
 cases f with
 |next=>let⟨a,b,cg,q⟩:=h;show⟨a,b,cg.gq hA hc hp,q⟩|brk=>let⟨a,b,cg,q⟩:=h;show⟨a,b,cg.gq hA hc hp,q⟩|cont=>let⟨a,b,cg,q⟩:=h;show⟨a,b,cg.gq hA hc hp,q⟩|ret u=>let⟨v,a,b,cg,r,q⟩:=h;show⟨v,a,b,cg.gq hA hc hp,r,q⟩
theorem Inv.gone(I:Inv X ak Z H s)(hN:X.N.Nodup)(hi:X.N[i]?=some n)(hl:X.env.kindOf n=some .local)(hm:s.heap.Ns X.env.locals m)
  (hn:h'.Ns X.env.locals (λx=>if x=n then v else m x)) (sb:Heap.SameBut X.env.locals s.heap h'):Inv X ak (Z.set i none) H {s with heap:=h',toks:=t'}:=by
 let kp:∀b u,b≠X.env.locals->s.heap.get? b=some u->h'.get? b=some u:=λb u z q=>(sb.2 b z).trans q;let n0:∀b u,X.s₀.heap.get? b=some u->b≠X.env.locals:=λb u q=>dU (dF (bL q) I.ok.above);let nH:∀b u,H b=some u->b≠X.env.locals:=λb u q z=>by rw[z,I.free]at q;cases q
 show⟨I.ok,I.os,I.bare,⟨λb u q n hb hx=>kp b u (n0 b u q) (I.base.keep b u q n hb hx),λb u q n hb hx=>?_,I.base.free,λb u q hx=>?_,I.base.tups,I.base.jD,I.base.jT⟩,⟨_,hn,λj x w e1 e2 e3=>?_⟩,λx c q=>?_,I.free,I.fG,λp q=>?_,λb u q=>?_,by rw[pH];show I.len⟩
 .obtain⟨sl,z⟩:=I.base.slot b u q n hb hx;show⟨sl,kp b _ (n0 b u q) z⟩
 .obtain⟨u',z⟩:=I.base.there b u q hx;show⟨u',kp b u' (n0 b u q) z⟩
 .let Z0:i≠j:=λz=>by
   subst z;by_cases hl:i<Z.length
   .rw[zV hl]at e2;cases e2
   .rw[Hs (by rw[pH];lia)]at e2;cases e2
  rw[sJ Z0]at e2;let⟨m2,Gk,pO⟩:=I.loc;let⟨u,r,l⟩:=pO j x w e1 e2 e3;show⟨u,r,?_⟩;rcases l with ⟨k1,k2⟩|⟨k1,c,k2,oc,k3,k4⟩
  .refine .inl ⟨k1,?_⟩;let nx:x≠n:=λz=>Z0 (RB hN (by rw[z]at e1;show hi) (z▸e1));let em:m=m2:=by
    let⟨o1,es1,ep1,g1,d1,t1,f1⟩:=hm;let⟨o2,es2,ep2,g2,d2,t2,f2⟩:=Gk;rw[g1]at g2;cases g2;rw[d1]at d2;cases d2
    funext y
    rw[<-f1,<-f2]
   change (if x=n then v else m x)=some u;rw[if_neg nx,em];show k2
  .exact .inr ⟨k1,c,k2,oc,kp c oc (I.xZ x c k2) k3,k4⟩
 .obtain⟨u,oc,k3,k4⟩:=I.cell x c q;show⟨u,oc,kp c oc (I.xZ x c q) k3,k4⟩
 .obtain⟨a1,a2,a3,a4⟩:=I.pin p q;show⟨kp _ _ a3 a1,a2,a3,a4⟩
 .exact(I.hok b u q).stay (λc w z r=>kp c w (z.elim (λy=>y▸nH b u q) λy=>nH c _ y) r) (λ_ r=>r) λ_ _ r=>r
end
theorem ziK(x:Exc h0 H s.heap e C dx)(hf:∀b∈fr,∀o vs,s.heap.get? b=some o->o.data≠.fields vs)
  (k:∀h' ch,Jt h0 H fr s.heap h' ch->Exc h0 H h' e C dx->Q () {s with heap:=h'}):wpAny M A (setFlight (.ref e) none) Q E s:=by
 let⟨oe,vs,hd,he,hc,Am,qG,h1,tb⟩:=x.ob;rcases tb with rfl|⟨T,oT,ts,rfl,nT,uT,neT,gT,dT,h3⟩
 .unfold setFlight;show aB (iM he qG h1 ?_);rw[if_neg J0];show aP (k s.heap [] {rec_:=(λ_ z=>nomatch z),keep:=(λb o q _ _=>q),slot:=(λb o q _=>⟨o.slots,q⟩),there:=(λb o q=>⟨o,q⟩)} x)
 .refine ZV he qG h1 gT dT (Hl.mp h3).1 λh' kp g'=>?_;let z3:3<ts.size:=(Hl.mp h3).1;show k h' [T] ⟨λb z=>?_,λb o q _ n=>kp b o (λz=>n (by simp[z])) q,λb o q m=>?_,λb o q=>?_⟩ ⟨x.new,x.un,oe,vs,.ref T,kp e oe neT.symm he,hc,Am,qG,h1,.inr ⟨T,_,_,rfl,nT,uT,neT,g',xJ dT _,by simp[z3]⟩⟩
  .obtain rfl:b=T:=by simpa using z
   show⟨nT,uT,oT,ts,gT,dT⟩
  .refine⟨o.slots,kp b o (λz=>?_) q⟩;subst z;rw[gT]at q;cases q;show hf b m _ ts gT dT
  .by_cases z:b=T
   .subst z;show⟨_,g'⟩
   .exact⟨o,kp b o z q⟩
theorem zcm{M:Model}{A:Around}{E:Value->Shared->Prop}{K:W.Frag}{h:Heap}{g:Array GenState}{d:Drawn}{t:Nat}{os:OsState}{e C D:Addr}{oe:Obj}{Q:Bool->Shared->Prop}(KI:K.In h)(q:subIn K C D=true)
  (he:h.get? e=some oe) (Cw:oe.cls=.ref C) (hq:Q true ⟨h,g,d,t,os⟩):wpAny M A (excMatches (.ref e) (.ref D)) Q E ⟨h,g,d,t,os⟩:=by
 unfold subIn at q;simp only[dZ]at q;let⟨⟨q1,q2⟩,q3⟩:=q;let⟨nm,qn,N,bs,bm,hdct,sn,ao,ab,col,dd,k0,k1,k2,k3,k5,newId,hC,_,_⟩:=PySem.W.kts_cls KI q1;let⟨nm',qn',N',bs',bm',Z9,sn',sub',ab',col',S7,k0',k1',k2',k3',k5',newId',hD,hb',_⟩:=PySem.W.kts_cls KI q2;let m1:(Value.ref C::bm).contains (.ref D)=true:=by
  split at q3
  .rename_i c0 d0 cd sl lk;let z:=KI _ _ lk;rw[hC]at z;cases z;show q3
  .cases q3
 let m2:(Value.ref D::bm').contains (.type "BaseException")=true:=by rw[List.contains_cons,hb',Bool.or_true]
 let f:=tc_notTuple;unfold excMatches
 repeat (first|(with_reducible show wpAny_loadPart_at he ?_;rw[Cw])|with_reducible show wpAny_loadPart_at hD ?_|(with_reducible show wpAny_isSubtype_exc hD ?_;rw[m2])|(with_reducible show wpAny_isSubtype_exc hC ?_;rw[m1])|wp_step)
 show hq
noncomputable def uK(D:Ends)(i:Nat):Ends:={nx:=λZ H=>D.nx (Z.set i none) H,rt:=D.rt,bk:=λZ H=>D.bk (Z.set i none) H,ct:=λZ H=>D.ct (Z.set i none) H}
noncomputable def Jw(K:W.Frag)(Dc:Addr)(i:Nat)(th:TS)(D:Ends):XS:=λZ C dx H=>∃Ca,C=.ref Ca/\subIn K Ca Dc=true/\∀a,H a=none->th (uK D i) (Z.set i (some (.ref a))) (upd H a (jZ a Ca dx))
section
variable {X:Cx}{x n:Str}{np rK pos:Pos}{b₀:Stmt}{body suite:List Stmt}{Dc:Addr}{i:Nat}{tb:XS->TS}{th:TS}
theorem zl2(hex:X.ex=[])(nM:X.stack=X.env::X.outer/\X.env.frame=some X.env.locals)(hg:Gl X x)(hm:X.mg x=some (.ref Dc))(hN:X.N.Nodup)(hi:X.N[i]?=some n)(hl:X.env.scope.names.lookup n=some .local)
  (hb:∀(pn:List (Addr×Obj)) (E':Value->Shared->Prop) (tG:XS),Raises (X.seen X.A X.aj pn E') tG->PassesOwn (model X.prog X.w) X.A X.env E'->pq (X.seen X.A X.aj pn E') body (tb tG))
  (hh:∀e:Value,pq (X.seen (X.A.mark (some e)) false X.pn (λ_ _=>False)) (b₀::suite) th) (lg:(x==("__debug__" : Str))=false:=by decide) :
  PS X (.Try body [.ExceptHandler (some (.Name x np)) (some n) (b₀::suite) rK] [] [] pos) (λD Z H=>tb (Jw X.K Dc i th D) D Z H):=by
 intro ak s Z H D I h;show wpAny_Try_except ?_;let B:=hb (X.pn++ak) (λe s₁=>wpAny (model X.prog X.w) X.A (noteFrame e X.env) (λ_ s₂=>wpAny (model X.prog X.w) X.A (setFlight e none) (λ_ s₃=>wpAny (model X.prog X.w) X.A (handleBy e X.env [.ExceptHandler (some (.Name x np)) (some n) (b₀::suite) rK]) (SP X ak D) X.xe s₃) X.xe s₂) X.xe s₁) (Jw X.K Dc i th D) ?R PassesOwn.looking [] s Z H D (I.seen rfl I.ok.hd (by intro p z;simpa using z)) h
 case R=>
  intro iQ Z' H' s' h0 e C dx cg hs hp ao xc ⟨Ca,eC,sI,k⟩;cases eC;let I1:Inv X ak Z' H' s':=cg.gq rfl I.ok.hd (λp z=>nR _ z);let Dk:∀p∈X.pn++ak,∃o,h0.get? p.1=some o:=λp z=>hp p (nR _ z);change wpAny (model X.prog X.w) X.A (noteFrame (.ref e) X.env) _ X.xe s';show ZW (base:=X.base) (outer:=X.outer) (L:=X.env.locals) (I1.ok.frames.trans (pI some nM.1)) (nM.1▸I1.stack) nM.2 xc (λb z=>I1.hok.fresh z) ao λh1 ch1 t1 x1=>?_;let I2:=I1.Jv (nM.1▸t1) hs Dk;show wpAny_handleBy_cons (codeAny_handlers_test ?_) (by intro z;cases z);let I2h:Inv (X.seen (X.A.mark (some (.ref e))) false X.pn (λ_ _=>False)) ak Z' H' {s' with heap:=h1}:=I2.seen rfl (λz=>by cases z) (λp z=>z);show Ot (E:=_) I2h hg hm ?_ lg;let⟨oe,vs,hd,g1,c1,d1,f1,_⟩:=x1.ob;show zcm I2.xY sI g1 c1 ?_;show codeAny_handlers_suite_as ?_;let S8:∀b∈frs X.stack,∀o vs,h1.get? b=some o->o.data≠.fields vs:=λb hb o vs q d=>by
   let⟨_,o',q',nd⟩:=I2.stack.mem hb;let q'':h1.get? b=some o':=q';rw[q]at q'';cases q'';show nd vs d
  show ziK (s:={s' with heap:=h1}) (fr:=frs X.stack) x1 S8 λh2 yC t2 x2=>?_;let I3:Inv X ak Z' H' {s' with heap:=h2}:=I2.Jv t2 hs Dk;let⟨oe2,vs2,hd2,g2,c2,d2,f2,_⟩:=x2.ob;let ns0:X.s₀.heap.get? e=none:=by
   cases z:X.s₀.heap.get? e with
   |none=>rfl|some u=>
    let⟨u',z'⟩:=hs e u z (by change e∉X.ex;rw[hex];simp);rw[x2.new]at z';cases z'
  let nL:e≠X.env.locals:=λz=>by
   let⟨m,⟨ol,es,ep,e1,e2,_⟩,_⟩:=I3.loc;let e1':h2.get? X.env.locals=some ol:=e1;rw[<-z,g2]at e1';cases e1';rw[f2]at e2;cases e2
  let nC:∀y c,X.env.cells.lookup y=some c->c≠e:=λy c q z=>by
   let⟨v,oc,e1,e2⟩:=I3.cell y c q;let e1':h2.get? c=some oc:=e1;rw[z,g2]at e1';cases e1';rw[f2]at e2;cases e2
  let I4:=I3.track (o:=jZ e C dx) ns0 x2.un (λp z y=>by
   let⟨u,q⟩:=Dk p z;rw[y,x2.new]at q;cases q) nL nC (zkK x2)
  let I4h:Inv (X.seen (X.A.mark (some (.ref e))) false X.pn (λ_ _=>False)) ak Z' (upd H' e (jZ e C dx)) {s' with heap:=h2}:=I4.seen rfl (λz=>by cases z) (λp z=>z);show RL (X:=X.seen (X.A.mark (some (.ref e))) false X.pn (λ_ _=>False)) (v:=.ref e) I4h hN hi (.inl hl) rfl (λs5 I5=>?_) (.inr hl);show oZ (hh (.ref e) ak s5 _ _ (uK D i) I5 (k e x2.un)) (λf s6 q6=>?_) (λ_ _ z=>z.elim);let hkd:(X.env.scope.kind==.class||(X.env.scope.kind==.module&&X.env.locals != X.env.globals))=false:=by rw[I.ok.kind];rfl
  let fin:∀{Z6:St} {H6:Hp} {Q:Shared->Prop},Inv (X.seen (X.A.mark (some (.ref e))) false X.pn (λ_ _=>False)) ak Z6 H6 s6->(∀s7,Inv X ak (Z6.set i none) H6 s7->Q s7)->
    wpAny (model X.prog X.w) X.A (do bindName X.env n .none;unbindBehindTheSuite X.env n rK) (λ_ s7=>Q s7) X.xe s6:=λ{Z6 H6 Q} jr kq=>by
   let cg:Inv X ak Z6 H6 s6:=jr.gq rfl I.ok.hd (λp z=>z);let⟨m,Z_,_⟩:=id cg.loc;show wpAny_nameGoes_keeps hl Z_ hkd λh' v RD sb=>kq _ (cg.gone hN hi hl Z_ RD sb)
  cases f with
  |next=>let⟨Z6,H6,jr,q⟩:=q6;show fin jr λs7 mQ=>⟨_,_,mQ,q⟩|brk=>let⟨Z6,H6,jr,q⟩:=q6;show fin jr λs7 mQ=>⟨_,_,mQ,q⟩|cont=>let⟨Z6,H6,jr,q⟩:=q6;show fin jr λs7 mQ=>⟨_,_,mQ,q⟩|ret u=>let⟨v,Z6,H6,jr,r,q⟩:=q6;show fin jr λs7 mQ=>⟨v,_,_,mQ,r,q⟩
 show oZ B (λf s1 q=>?_) λ_ _ z=>z;let q':SP X ak D f s1:=SP.gq q rfl I.ok.hd (by intro p z;simpa using z);cases f with
 |next=>show N8 q'|brk=>show q'|cont=>show q'|ret u=>show q'
end
end L2
namespace L2
open PySem PySem.Spec PyProof.Rows PySem.W Builtin.ObjectAttr
section
variable {prog:Program}{w:World}{A:Around}{E:Value->Shared->Prop}{s:Shared}{K:Frag}{x C:Addr}{ox:Obj}{od:Option Obj}{name:Str}{tk:Tok}
theorem zkQ(XI:K.In s.heap)(I:InstAt s.heap x ox C od)(hf:findObj K C od name=some r)
  (h:match r with|.value v=>Q (.done (.ret v)) s|.bind g a=>wpAny (model prog w) A (call g [a,.ref x,.ref C]) (λv s'=>Q (.done (.ret v)) s') E s|.missing=>False) :
  wpAny (model prog w) A (Builtin.«object.__getattribute__» ⟨[.ref x,.str name tk],[]⟩) Q E s:=by
 let⟨hh,g,d,t,os⟩:=s;let L0:=I.type (M:=model prog w);let L1:=looks_find (M:=model prog w) XI I hf;unfold Builtin.«object.__getattribute__»;show aB (wpAny_of_eq (a:=(Value.ref x,[Value.str name tk])) (by rfl) ?_);show aB (wpAny_of_eq (a:=name) (by rfl) ?_);show aB (L0.at (aB (L1.at ?_)));cases r with
 |value v=>show aP h|bind g a=>
  change wpAny _ _ (holding [a] (call g [a,.ref x,.ref C]) >>= ret) _ _ _;show aB (mj (oZ h (λv s' z=>aP z) λ_ _ z=>z))
 |missing=>show h.elim
theorem zhe(XI:K.In s.heap)(I:InstAt s.heap x ox C od)(hb:mroIn K C (.type "BaseException")=some true)(hf:findObj K C od name=some r)
  (h:match r with|.value v=>R (.ok (.ret v)) s|.bind g a=>wpAny (model prog w) A.in1 (call g [a,.ref x,.ref C]) (λv s'=>R (.ok (.ret v)) s') (λe s'=>R (.error e) s') s|.missing=>False) :
  codeAny (model prog w) A (.call (.builtin "BaseException.__getattribute__") ⟨[.ref x,.str name tk],[]⟩) R s:=by
 let hk:builtinKind "BaseException.__getattribute__"=some .slot:=by decide +kernel
 let Dl:splitId "BaseException.__getattribute__"=some ("BaseException","__getattribute__"):=by decide +kernel
 let ha:=F.args_bexc_ga (.ref x) (.str name tk);show codeAny_call_builtin F.attr_ValueError.ga.plain F.entry_bexc_ga ?_;let fin:wpAny (model prog w) A.in1 (Builtin.«object.__getattribute__» ⟨[.ref x,.str name tk],[]⟩) (λfin s'=>match fin with|.done f=>R (.ok f) s'|.again c'=>c'.quiet=true/\codeAny (model prog w) A c' R s') (λe s'=>R (.error e) s') s:=by
  show zkQ XI I hf ?_;cases r with
  |value v=>show h|bind g a=>show h|missing=>show h.elim
 let chk:∀Q:Unit->Shared->Prop,Q () s->wpAny (model prog w) A.in1 (checkBuiltinCall "BaseException.__getattribute__" ⟨[.ref x,.str name tk],[]⟩) Q (λe s'=>R (.error e) s') s:=λQ hq=>by
  let⟨hh,g,d,t,os⟩:=s;let L0:=I.type (M:=model prog w);let L1:=looks_mroIn (M:=model prog w) XI hb;let LI:Looks (model prog w) hh (isInstance (.ref x) (.type "BaseException")) true:=L0.andThen L1;simp only[checkBuiltinCall,hk,Dl];show aB ?_
  repeat (first|with_reducible show hq|with_reducible show LI.at ?_|wp_step)
 show chk _ fin
theorem bexc_get?(XI:K.In s.heap)(I:InstAt s.heap x ox C od)(hb:mroIn K C (.type "BaseException")=some true)(hga:findIn K (.ref C) "__getattribute__"=some (some (.builtin "BaseException.__getattribute__")))
  (hgn:findIn K (.ref C) "__getattr__"=some none) (hf:findObj K C od name=some r)
  (h:match r with|.value v=>wpAny (model prog w) A (handedOut v) (λu s'=>Q (some u) s') (λ_ _=>False) {s with toks:=s.toks+1}|.bind g a=>wpAny (model prog w) A.in1 (call g [a,.ref x,.ref C]) (λv s'=>wpAny (model prog w) A (handedOut v) (λu s''=>Q (some u) s'') (λ_ _=>False) s') (λ_ _=>False) {s with toks:=s.toks+1}|.missing=>False) :
  wpAny (model prog w) A (getAttr? (.ref x) name) Q E s:=by
 let⟨hh,g,d,t,os⟩:=s;let L0:=I.type (M:=model prog w);let L1:=looks_findIn (M:=model prog w) XI hga;let L2:=looks_findIn (M:=model prog w) XI hgn;let Dm:(Value.builtin "BaseException.__getattribute__"==Value.builtin "object.__getattribute__")=false:=by decide +kernel
 unfold getAttr? getAttrBy? getAttrBy;show aB (wpAny_mkText (aB (Cg (mj (aB (L0.at (aB (L1.at ?_))))))));change wpAny _ _ (if (onTheHeap (.ref C)&&(Value.builtin "BaseException.__getattribute__"==Value.builtin "object.__getattribute__"))=true then _ else getAttrByItsOwn _ _ _ _ _ _) _ _ _;rw[Dm,Bool.and_false,if_neg J0];unfold getAttrByItsOwn hookBefore callGetattribute boundAndCalled;show aB (L2.at ?_);show aB (Cg (mj (aB (wpAny_of_eq (F.attr_ValueError.ga.bind (.ref x)) ?_))));show wpAny_call (zhe XI I hb hf ?_);cases r with
 |value v=>show oZ h (λv s'' hv=>aP hv) (λ_ _ z=>z.elim)|bind g a=>show oZ h (λv s' hv=>oZ hv (λu s'' z=>aP z) λ_ _ z=>z.elim) (λ_ _ z=>z.elim)|missing=>show h.elim
end
structure XC(K:Frag)(C:Addr):Prop where
 ga:findIn K (.ref C) "__getattribute__"=some (some (.builtin "BaseException.__getattribute__"))
 gn:findIn K (.ref C) "__getattr__"=some none
 cl:findIn K (.ref C) "__class__"=some (some (.builtin "object.__class__"))
 mb:mroIn K C (.type "BaseException")=some true
 mo:mroIn K C (.type "object")=some true
 cd:(clsIn K C).isSome=true
 dg:specialIn K (.builtin "object.__class__") "__get__"=some (some (.builtin "getset_descriptor.__get__"))
 dt:takesIn K (.builtin "object.__class__")=some true
theorem zfp{K:Frag}{C:Addr}{od:Option Obj}{name:Str}{a g:Value}(hc:(clsIn K C).isSome=true)(ha:findIn K (.ref C) name=some (some a))(hg:specialIn K a "__get__"=some (some g))(ht:takesIn K a=some true):findObj K C od name=some (.bind g a):=by
 let⟨cd,z⟩:=QW.mp hc;simp only[findObj,z,ha,hg,ht,Option.bind_some]
theorem zeE{K:Frag}{e C:Addr}(c:XC K C):KitX K (.ref e) (.ref C) (λh=>∃ox od,InstAt h e ox C od) where
 ty:=λ_ _ _ ⟨_,_,I⟩=>I.type
 it:=λ_ _ XI _=>by
  let q:=c.cd;unfold clsIn at q;split at q
  .rename_i c' d' cd' sl' lk;intro A' Q' E' s' k z;unfold isType loadHead;show aB (wpAny_loadPart (k _ _ (XI _ _ lk)) (aP z))
  .cases q
 ne:=λh tp dd its n sl XI htp=>by
  show Ro.mpr λz=>?_;let ee:C=tp:=Value.ref.inj (xT.mp z);subst ee;let q:=c.cd;unfold clsIn at q;split at q
  .rename_i c' d' cd' sl' lk;let y:=(XI _ _ lk).symm.trans htp;cases y
  .cases q
 ca:=λ{prog w A E Q s} XI ⟨ox,od,I⟩ k=>by
  let hf:findObj K C od "__class__"=some (.bind (.builtin "getset_descriptor.__get__") (.builtin "object.__class__")):=zfp c.cd c.cl c.dg c.dt;show bexc_get? XI I c.mb c.ga c.gn hf ?_;show wpAny_call (class_get (s:={s with toks:=s.toks+1}) (ox:=ox) (od:=od) XI I c.mo (handed_on rfl k))
end L2
namespace L2
open PySem PySem.Spec PyProof.Rows
theorem zeO:∀(names:List (Str×NameKind)) (cs:List (Str×Addr)),(∀x∈names,x.2=.free->∃c,env.cells.lookup x.1=some c)->(∀x c,cs.lookup x=some c->env.cells.lookup x=some c)->
  ∃cl,(forIn names cs λx r=>(do
    if x.2==.free then
     let a <-cellOf env x.1
     pure (ForInStep.yield ((x.1,a)::r))
    else pure (ForInStep.yield r)):Sem (List (Str×Addr)))=pure cl/\(∀x c,cl.lookup x=some c->env.cells.lookup x=some c)/\(∀x c,cs.lookup x=some c->cl.lookup x=some c)/\∀x∈names,x.2=.free->∃c,cl.lookup x.1=some c:=by
 intro names
 induction names with
 |nil=>intro cs _ h;show⟨cs,rfl,h,λ_ _ q=>q,λx z=>nomatch z⟩
 |cons y r ih=>
  intro cs h1 h2;let⟨n,k⟩:=y;by_cases hk:k=.free
  .subst hk;let⟨c,hc⟩:=h1 (n,.free) jH rfl;let hc:env.cells.lookup n=some c:=hc;let h3:∀x d,((n,c)::cs).lookup x=some d->env.cells.lookup x=some d:=λx d q=>by
    rw[rD]at q;by_cases z:x=n
    .subst z;simp at q;subst q;show hc
    .let z':(x==n)=false:=by simpa using z
     rw[z']at q;show h2 x d q
   let⟨cl,e,a,b,d⟩:=ih ((n,c)::cs) (λx z=>h1 x (fZ _ z)) h3;let hco:cellOf env n=pure c:=by
    unfold cellOf;rw[hc]
   show⟨cl,?_,a,λx q z=>?_,λx z q=>?_⟩
   .rw[Cd];simp only[ug,if_true,hco];show e
   .by_cases y:x=n
    .subst y;let z1:=h2 x q z;rw[hc]at z1;cases z1;show b x c V8
    .let y':(x==n)=false:=by simpa using y
     show b x q (by rw[rD,y'];show z)
   .rcases cX.mp z with z|z
    .subst z;show⟨c,b n c V8⟩
    .exact d x z q
  .let hb:(k==NameKind.free)=false:=by simpa using hk
   let⟨cl,e,a,b,d⟩:=ih cs (λx z=>h1 x (fZ _ z)) h2;show⟨cl,?_,a,b,λx z q=>?_⟩
   .rw[Cd];simp only[hb,xK,sW];show e
   .rcases cX.mp z with z|z
    .subst z;show absurd q hk
    .exact d x z q
theorem zfb(h:∀x∈scope.names,x.2=.free->∃c,env.cells.lookup x.1=some c):∃cl,closureFor scope env=pure cl/\(∀x c,cl.lookup x=some c->env.cells.lookup x=some c)/\∀x∈scope.names,x.2=.free->∃c,cl.lookup x.1=some c:=by
 let⟨cl,e,a,_,d⟩:=zeO scope.names [] h (λx c q=>by cases q);show⟨cl,?_,a,d⟩;unfold closureFor;let e':=e;simp only[pure_bind,bind_pure]at e' ⊢;show e'
theorem S9{env:Env}{k:NameKind}:∀{names:List (Str×NameKind)} {x:Str},(names.map λ(n,k)=>if (k==NameKind.free&&env.scope.kind==.function&&env.kindOf n==some .cell) then (n,NameKind.cell) else (n,k)).lookup x=some k->
  names.lookup x=some k\/(k=.cell/\names.lookup x=some .free)
 |[],x,h=>by simp at h|(n,q)::r,x,h=>by
  rw[kJ,rD]at h;rw[rD];let hd:∀c:Bool,(if c=true then (n,NameKind.cell) else (n,q)).1=n:=λc=>by cases c<;>rfl
  rw[hd]at h;by_cases z:x=n
  .subst z;simp only[ug]at h ⊢;split at h
   .rename_i y;simp only[dZ,xT]at y;cases h;show .inr ⟨rfl,by rw[y.1.1]⟩
   .cases h;show .inl rfl
  .let z':(x==n)=false:=by simpa using z
   simp only[z']at h ⊢;show S9 h
theorem O9{env:Env}:∀{names:List (Str×NameKind)} {x:Str},names.lookup x=some .free->
  (names.map λ(n,k)=>if (k==NameKind.free&&env.scope.kind==.function&&env.kindOf n==some .cell) then (n,NameKind.cell) else (n,k)).lookup x=some .cell \/
  (names.map λ(n,k)=>if (k==NameKind.free&&env.scope.kind==.function&&env.kindOf n==some .cell) then (n,NameKind.cell) else (n,k)).lookup x=some .free
 |[],x,h=>by simp at h|(n,q)::r,x,h=>by
  rw[rD]at h;rw[kJ,rD];let hd:∀c:Bool,(if c=true then (n,NameKind.cell) else (n,q)).1=n:=λc=>by cases c<;>rfl
  rw[hd];by_cases z:x=n
  .subst z;simp only[ug]at h ⊢;cases h
   split
   .exact .inl rfl
   .exact .inr rfl
  .let z':(x==n)=false:=by simpa using z
   simp only[z']at h ⊢;show O9 h
structure oh(n:Nat)(h1:Heap)(names:List (Str×NameKind))(cl jM:List (Str×Addr)):Prop where
 d1:∀x c,jM.lookup x=some c->(cl.lookup x=some c/\(x,NameKind.cell)∉names)\/((x,NameKind.cell)∈names/\n<c/\h1.IsCell c none)
 d2:∀x y c,n<c->jM.lookup x=some c->jM.lookup y=some c->x=y
 d3:∀x,names.lookup x=some .cell->∃c,jM.lookup x=some c
 d4:∀x c,(x,NameKind.cell)∉names->cl.lookup x=some c->jM.lookup x=some c
theorem cc:(NameKind.cell==NameKind.cell)=true:=by decide
theorem Jx:∀(names:List (Str×NameKind)) (h:Heap) (b:Addr) (o:Obj),h.get? b=some o->(pushCells h names).get? b=some o
 |[],h,b,o,e=>e|(x,k)::r,h,b,o,e=>by
  rw[pushCells]
  split
  .exact Jx r _ b o (dD _ e)
  .exact Jx r h b o e
theorem S_:∀(names:List (Str×NameKind)) (h:Heap) (acc:List (Str×Addr)) (x:Str) (c:Addr),(cellsFrom h.objs.size names acc).lookup x=some c->
  (acc.lookup x=some c/\(x,NameKind.cell)∉names)\/((x,NameKind.cell)∈names/\h.objs.size<=c/\(pushCells h names).IsCell c none)
 |[],h,acc,x,c,e=>.inl ⟨e,by simp⟩|(y,k)::r,h,acc,x,c,e=>by
  rw[cellsFrom]at e;rw[pushCells];by_cases hk:k=.cell
  .subst hk;rw[if_pos cc]at e ⊢;let sz:(h.push {cls:=Value.type "cell",data:=Data.cell none}).objs.size=h.objs.size+1:=by unfold Heap.push;simp
   rw[<-sz]at e;rcases S_ r _ _ x c e with ⟨a,b⟩|⟨a,b,d⟩
   .rw[rD]at a;by_cases z:x=y
    .subst z;simp at a;subst a;show .inr ⟨jH,bQ _,_,Jx r _ _ _ (gK _ rfl),rfl⟩
    .let z':(x==y)=false:=by simpa using z
     rw[z']at a;show .inl ⟨a,by simp[z,b]⟩
   .exact .inr ⟨fZ _ a,by lia,d⟩
  .let hb:(k==NameKind.cell)=false:=by simpa using hk
   rw[if_neg (by rw[hb];decide)]at e ⊢;rcases S_ r _ _ x c e with ⟨a,b⟩|⟨a,b,d⟩
   .exact .inl ⟨a,by simp[b];intro _ q;show hk q.symm⟩
   .exact .inr ⟨fZ _ a,b,d⟩
theorem Tc:∀(names:List (Str×NameKind)) (n:Nat) (acc:List (Str×Addr)) (x y:Str) (c:Addr),(∀u v,acc.lookup u=some c->acc.lookup v=some c->u=v)->(∀u a,acc.lookup u=some a->a<n\/a≠c)->(cellsFrom n names acc).lookup x=some c->(cellsFrom n names acc).lookup y=some c->x=y
 |[],n,acc,x,y,c,h,_,e1,e2=>h x y e1 e2|(z,k)::r,n,acc,x,y,c,h,hl,e1,e2=>by
  rw[cellsFrom]at e1 e2;by_cases hk:k=.cell
  .subst hk;rw[if_pos cc]at e1 e2;show Tc r (n+1) _ x y c (λu v a b=>?_) (λu a q=>?_) e1 e2
   .rw[rD]at a b;by_cases u1:u=z
    .by_cases v1:v=z
     .rw[u1,v1]
     .let v':(v==z)=false:=by simpa using v1
      subst u1;simp at a;rw[v']at b;subst a;let b:acc.lookup v=some n:=b;rcases hl v n b with q|q
      .exact absurd q (nU _)
      .exact absurd rfl q
    .let u':(u==z)=false:=by simpa using u1
     rw[u']at a;let a:acc.lookup u=some c:=a;by_cases v1:v=z
     .subst v1;simp at b;subst b;rcases hl u n a with q|q
      .exact absurd q (nU _)
      .exact absurd rfl q
     .let v':(v==z)=false:=by simpa using v1
      rw[v']at b;show h u v a b
   .rw[rD]at q;by_cases u1:u=z
    .subst u1;simp at q;subst q;show .inl (Ac _)
    .let u':(u==z)=false:=by simpa using u1
     rw[u']at q;show(hl u a q).imp (λq=>k_ q) id
  .let hb:(k==NameKind.cell)=false:=by simpa using hk
   rw[if_neg (by rw[hb];decide)]at e1 e2;show Tc r n acc x y c h hl e1 e2
theorem Td:∀(names:List (Str×NameKind)) (n:Nat) (acc:List (Str×Addr)) (x:Str) (c:Addr),(x,NameKind.cell)∉names->acc.lookup x=some c->(cellsFrom n names acc).lookup x=some c
 |[],n,acc,x,c,_,e=>e|(z,k)::r,n,acc,x,c,h,e=>by
  rw[cellsFrom];let hr:(x,NameKind.cell)∉r:=λq=>h (fZ _ q);by_cases hk:k=.cell
  .subst hk;rw[if_pos cc];show Td r (n+1) _ x c hr ?_;let:x≠z:=λq=>h (by rw[q];show jH);let z':(x==z)=false:=by simpa using this
   rw[rD,z'];show e
  .let hb:(k==NameKind.cell)=false:=by simpa using hk
   rw[if_neg (by rw[hb];decide)];show Td r n acc x c hr e
theorem Te:∀(names:List (Str×NameKind)) (acc:List (Str×Addr)) (s:Shared) (Q:List (Str×Addr)->Shared->Prop),
  Q (cellsFrom s.heap.objs.size names acc) {s with heap:=pushCells s.heap names}->
  wpAny M A (forIn names acc λx (cells:List (Str×Addr))=>match x with
   |(name,kind)=>if (kind==NameKind.cell)=true then do
     let a <-alloc {cls:=Value.type "cell",data:=Data.cell none}
     pure (ForInStep.yield ((name,a)::cells))
    else pure (ForInStep.yield cells)) Q E s
 |[],acc,s,Q,h=>by
  rw[FZ];show aP h
 |(z,k)::r,acc,s,Q,h=>by
  rw[Cd];rw[cellsFrom,pushCells]at h;by_cases hk:k=.cell
  .subst hk;rw[if_pos cc,if_pos cc]at h;show aB ?_;dsimp only;rw[if_pos cc];show aB (wpAny_alloc (aP ?_));show Te r _ _ Q ?_;let sz:(s.heap.push {cls:=Value.type "cell",data:=Data.cell none}).objs.size=s.heap.objs.size+1:=by unfold Heap.push;simp
   rw[sz];show h
  .let hb:(k==NameKind.cell)=false:=by simpa using hk
   rw[if_neg (by rw[hb];decide),if_neg (by rw[hb];decide)]at h;show aB ?_;dsimp only;rw[if_neg (by rw[hb];decide)];show aP (Te r _ _ Q h)
theorem zfr(old:∀x c,cl.lookup x=some c->c<s.heap.objs.size)(inj:∀x y c,cl.lookup x=some c->cl.lookup y=some c->x=y)
  (h:∀h1 jM,h1.Ns s.heap.objs.size (λ_=>none)->(∀b o,s.heap.get? b=some o->h1.get? b=some o)->oh s.heap.objs.size h1 scope.names cl jM->Q {scope:=scope,locals:=s.heap.objs.size,globals:=globals,cells:=jM,qual:=qual,func:=none,code:=env.code,frame:=env.frame,builtins:=env.builtins} {s with heap:=h1}) :
  wpAny M A (newFunctionEnv scope globals cl [] qual none .none (some env)) Q E s:=by
 unfold newFunctionEnv;show aB (wpAny_alloc ?_);show aB ?_;show Te scope.names cl _ _ ?_;dsimp only;rw[FZ];show aB (aP (aP ?_));let sz:(s.heap.push {cls:=Value.type (if (some env).isSome=true then "dict" else "frame"),data:=Data.dict #[]}).objs.size=s.heap.objs.size+1:=by unfold Heap.push;simp
 show h _ _ ?_ (λb o e=>Jx _ _ _ _ (dD _ e)) ⟨λx c e=>?_,λx y c hc e1 e2=>?_,λx e=>?_,λx c hx e=>Td _ _ _ x c hx e⟩
 .refine⟨_,#[],_,Jx _ _ _ _ (gK _ rfl),rfl,?_,λ_=>rfl⟩;intro e he;simp at he
 .rcases S_ _ _ _ x c e with ⟨a,b⟩|⟨a,b,d⟩
  .exact .inl ⟨a,b⟩
  .rw[sz]at b;show .inr ⟨a,by lia,d⟩
 .exact Tc _ _ _ x y c (λu v a b=>inj u v c a b) (λu a q=>.inl (by rw[sz];show k_ (old u a q))) e1 e2
 .let:=Q6 scope.names (s.heap.push {cls:=Value.type (if (some env).isSome=true then "dict" else "frame"),data:=Data.dict #[]}).objs.size cl (.inl e);show QW.mp this
noncomputable def Cx.blk(X:Cx)(scope:Scope)(cl:List (Str×Addr))(N:List Str)(C:Addr)(s3:Shared)(H3:Hp)(fp:List Addr)(ak:List (Addr×Obj)):Cx where
 prog:=X.prog
 w:=X.w
 K:=X.K
 mg:=X.mg
 base:=X.base
 A:=X.A
 N:=N
 s₀:=s3
 H₀:=H3
 env:=compEnvC scope cl C X.env
 outer:=X.stack
 stack:=X.stack
 ex:=fp
 fn:=λx=>scope.names.lookup x==some .cell
 aj:=X.aj
 pn:=X.pn++ak
 xe:=λ_ _=>False
structure eE(sc scope:Scope):Prop where
 kind:scope.kind=.function
 cel:∀y∈scope.names,y.2=.cell->scope.names.lookup y.1=some .cell
 free:∀y∈scope.names,y.2=.free->sc.names.lookup y.1=some .cell\/sc.names.lookup y.1=some .free
 loc:∀y∈scope.names,y.2=.local->scope.names.lookup y.1=some .local
section
variable {X:Cx}{ak:List (Addr×Obj)}{Z:St}{H:Hp}{s:Shared}{scope:Scope}{cl:List (Str×Addr)}{N:List Str}{fp:List Addr}{ZY:St}
theorem zks{h1:Heap}{t:Nat}{jM:List (Str×Addr)}(I:Inv X ak Z H s)(B:eE X.env.scope scope)(c1:∀x c,cl.lookup x=some c->X.env.cells.lookup x=some c)(c2:∀x∈scope.names,x.2=.free->∃c,cl.lookup x.1=some c)
  (f:∀b∈fp,jo X ak H b) (fo:∀b∈fp,∃o,s.heap.get? b=some o) (hn:h1.Ns s.heap.objs.size (λ_=>none)) (kp:∀b o,s.heap.get? b=some o->h1.get? b=some o) (CN:oh s.heap.objs.size h1 scope.names cl jM)
  (hl:ZY.length=N.length) (hZ:∀(i:Nat) (x:Str) (v:V),N[i]?=some x->ZY[i]?=some (some v)->scope.names.lookup x=some .free/\∃j:Nat,X.N[j]?=some x/\Z[j]?=some (some v)) :
  Inv (X.blk scope jM N s.heap.objs.size s H fp ak) [] ZY H {s with heap:=h1,toks:=t}:=by
 let lt:∀b o,s.heap.get? b=some o->b≠s.heap.objs.size:=λb o q=>dU (bL q);let nfs:∀b,b≠X.env.locals->b∉X.fs->b∉frs X.stack:=λb a c z=>(cX.mp (I.mD b z)).elim a c;let mem_of:∀x k,scope.names.lookup x=some k->(x,k)∈scope.names:=λx k q=>FN q;let old:∀x c,cl.lookup x=some c->c<s.heap.objs.size:=λx c q=>by
  let⟨v,o,q1,q2⟩:=I.cell x c (c1 x c q);show bL q1
 let fnc:∀x,scope.names.lookup x=some .free->(x,NameKind.cell)∉scope.names:=λx q z=>by
  let:=B.cel _ z rfl;let this:scope.names.lookup x=some .cell:=this;rw[q]at this;cases this
 show⟨⟨I.ok.mod,B.kind,I.ok.glob,I.ok.blt,bQ _,λx y c a b=>?_,λx hx=>?_,λx c z q=>?_,I.ok.hd,I.ok.frames,.inl rfl,λb hb=>?_,I.bs,jf I.ok.Ai I.sz,λb o q hb=>?_,λb hb=>nfs b (f b hb).2.1 (f b hb).2.2.1,I.stack,I.jL⟩,
  rfl,I.bare,Un.kept kp,⟨_,hn,λi x v e1 e2 e3=>?_⟩,λx c q=>?_,I.hok.fresh (bQ _),λx c q=>?_,λp hp=>?_,I.hok.kept kp,hl⟩
 .by_cases hc:s.heap.objs.size<c
  .exact CN.d2 x y c hc a b
  .rcases CN.d1 x c a with ⟨a1,_⟩|⟨_,a1,_⟩
   .rcases CN.d1 y c b with ⟨b1,_⟩|⟨_,b1,_⟩
    .exact I.ok.inj x y c (c1 x c a1) (c1 y c b1)
    .exact absurd b1 hc
   .exact absurd a1 hc
 .let hx:(relabel scope X.env).names.lookup x=some .cell\/(relabel scope X.env).names.lookup x=some .free:=hx;let fr:scope.names.lookup x=some .cell\/scope.names.lookup x=some .free:=by
   rcases hx with hx|hx
   .rcases S9 hx with z|⟨_,z⟩
    .exact .inl z
    .exact .inr z
   .rcases S9 hx with z|⟨z,_⟩
    .exact .inr z
    .cases z
  rcases fr with fr|fr
  .exact CN.d3 x fr
  .obtain⟨c,hc⟩:=c2 (x,.free) (mem_of x _ fr) rfl;show⟨c,CN.d4 x c (fnc x fr) hc⟩
 .rcases CN.d1 x c q with ⟨_,q1⟩|⟨_,q1,_⟩
  .let z:(scope.names.lookup x==some NameKind.cell)=true:=z;show absurd (mem_of x _ (by simpa using z)) q1
  .exact xR q1
 .obtain⟨o,q⟩:=fo b hb;show⟨lt b o q,λx c z=>?_⟩;rcases CN.d1 x c z with ⟨q1,_⟩|⟨_,q1,_⟩
  .exact(f b hb).2.2.2.2.1 x c (c1 x c q1)
  .exact λe=>absurd (bL q) (by rw[<-e];show HW.mpr (xR q1))
 .obtain⟨_,_,_,z,_⟩:=f b hb;rcases z with z|z
  .exact I.ok.uD b o q z
  .exact absurd (dF (bL q) (jf I.ok.Ai z)) (nU _)
 .obtain⟨fr,j,hj,hv⟩:=hZ i x v e1 e2;let hk:=B.free (x,.free) (mem_of x _ fr) rfl;let⟨m,hm,hlk⟩:=I.loc;let⟨u,r,l⟩:=hlk j x v hj hv (hk.elim (λz=>.inr (.inl z)) λz=>.inr (.inr z));let⟨c',jm⟩:=c2 (x,.free) (mem_of x _ fr) rfl;let jm:cl.lookup x=some c':=jm;show⟨u,r,.inr ⟨O9 fr,c',CN.d4 x c' (fnc x fr) jm,?_⟩⟩;rcases l with ⟨k1,_⟩|⟨_,c,k2,oc,k3,k4⟩
  .let k1:X.env.scope.names.lookup x=some .local:=k1;rcases hk with hk|hk
   .let hk:X.env.scope.names.lookup x=some .cell:=hk;rw[k1]at hk;cases hk
   .let hk:X.env.scope.names.lookup x=some .free:=hk;rw[k1]at hk;cases hk
  .let e:=c1 x c' jm;rw[k2]at e;cases e;show⟨oc,kp _ oc k3,k4⟩
 .rcases CN.d1 x c q with ⟨q1,_⟩|⟨_,_,q1⟩
  .obtain⟨v,o,q1,q2⟩:=I.cell x c (c1 x c q1);show⟨v,o,kp c o q1,q2⟩
  .exact⟨none,q1⟩
 .rcases CN.d1 x c q with ⟨q1,_⟩|⟨_,q1,_⟩
  .exact I.fG x c (c1 x c q1)
  .exact I.hok.fresh (xR q1)
 .let hp:p∈X.pn++ak:=by
   let z:p∈(X.pn++ak)++[]:=hp;simpa using z
  let⟨a1,a2,a3,a4,a5⟩:=I.pin p hp;show⟨kp _ _ a1,a2,lt _ _ a1,nfs _ a3 a4,a5⟩
theorem zdW(I:Inv X ak Z H s)(f:∀b∈fp,jo X ak H b)(cg:Inv (X.blk scope cl N s.heap.objs.size s H fp ak) [] Z' H' s'):Inv X ak Z H' s':=
 I.call' (ch:=fp) cg.os cg.base cg.hok cg.bare λb hb=>by
  let⟨_,a2,_,a4,a5,a6⟩:=f b hb;show⟨a4.imp id λz=>Ht z,a2,a5,a6⟩
theorem zbJ{Z':St}{H':Hp}{s':Shared}{h2:Heap}{C:Addr}(cg:Inv X ak Z H' s')(hC:X.s₀.heap.objs.size<=C)(n1:H' C=none)(n2:C≠X.env.locals)(n3:∀x c,X.env.cells.lookup x=some c->c≠C)(n4:∀p∈X.pn++ak,p.1≠C)
  (sb:Heap.SameBut C s'.heap h2):Inv X ak Z H' {s' with heap:=h2}:=
 cg.turned (t':=s'.toks) (λb o z q=>(sb.2 b z).trans q) n1 n2 (.inr hC) n3 n4
end
noncomputable abbrev qH(ifs:List Expr)(env:Env):Sem Bool:=forIn ifs true λc r=>if r=true then do let ok <-isTrue c env (eval c env);pure (ForInStep.yield ok) else pure (ForInStep.yield r)
theorem zgY{prog:Program}{w:World}{A:Around}{R:Result->Shared->Prop}{s:Shared}{elt target iter:Expr}{ifs:List Expr}{scope:Scope}{pos:Pos}{it acc:Value}{env:Env}(V:Nat->Shared->Prop)
  (turn:∀n s,V n s->wpAny (model prog w) A (pyNext it) (λr s₁=>match r with
   |none=>R (.ok .next) s₁|some v=>wpAny (model prog w) A (letOwnedTupleGo target it v) (λ_ s₂=>wpAny (model prog w) A (assign target env v) (λ_ s₃=>
     wpAny (model prog w) A (qH ifs env) (λok s₄=>
      if ok=true then wpAny (model prog w) A (eval elt env) (λx s₅=>wpAny (model prog w) A (call (.builtin "list.append") [acc,x]) (λ_ s₆=>∃m,m<n/\V m s₆) (λ_ _=>False) s₅) (λ_ _=>False) s₄
      else ∃m,m<n/\V m s₄) (λ_ _=>False) s₃) (λ_ _=>False) s₂) (λ_ _=>False) s₁) (λ_ _=>False) s)
  (n:Nat) (h:V n s):codeAny (model prog w) A (.compLoop (.ListComp elt [⟨target,iter,ifs,0⟩] scope pos) 0 it acc env) R s:=by
 show codeAny_loop rfl V (λn s hV=>?_) n h;change wpAny _ A ((compTurn (.ListComp elt [⟨target,iter,ifs,0⟩] scope pos) 0 it acc env).onRaise (λx=>do noteFrame x env;theTreesLotGoes x)) _ _ s;show wpAny_noted ?_;rw[compTurn_list];show aB (wpAny_standAt (aB (oZ (turn n s hV) (λr s₁ h₁=>?_) λ_ _ z=>z.elim)));cases r with
 |none=>show aP h₁|some v=>
  show aB (oZ h₁ (λ_ s₂ h₂=>?_) λ_ _ z=>z.elim);show aB (oZ h₂ (λ_ s₃ h₃=>aB (oZ h₃ (λok s₄ h₄=>?_) λ_ _ z=>z.elim)) λ_ _ z=>z.elim);cases ok with
  |true=>
   simp only[if_true]at h₄ ⊢;show aB (aB (oZ h₄ (λx s₅ h₅=>aB (oZ h₅ (λ_ s₆ h₆=>aP (aP ⟨rfl,h₆⟩)) λ_ _ z=>z.elim)) λ_ _ z=>z.elim))
  |false=>
   simp only[xK,sW]at h₄ ⊢;show aP ⟨rfl,h₄⟩
def O_(X:Cx)(ifs:List Expr)(t:TT):Prop:=
 ∀(ak:List (Addr×Obj)) (s:Shared) (Z:St) (H:Hp) (Q:Bool->Hp->Prop),Inv X ak Z H s->t Z H Q->wpAny (model X.prog X.w) X.A (qH ifs X.env) (TP X ak Z Q) X.xe s
noncomputable def Tf:TT:=λ_ H Q=>Q true H
theorem zkU:O_ X [] Tf:=λ_ _ _ H _ I h=>wpAny_tests_nil ⟨H,I,h⟩
theorem zkC(h:PT X c t):O_ X [c] t:=λak s Z H Q I hq=>wpAny_tests_one (h ak s Z H Q I hq)
def Jy(ZY:St->St)(g:TG)(tt:TT)(te:TE)(cg:It)(Z:St)(H:Hp)(Q:VK):Prop:=∀D,H D=none->∃W:Nat->Nat->St->Hp->Prop,(∃m,W 0 m (ZY Z) (upd H D (.lst [])))/\∀i m Z' H',W i m Z' H'->
 (cg.stop i H'/\Q (.ref D) H')\/(cg.go i H'/\∃N:St->Hp->Prop,(∀Z2 H2,N Z2 H2->∃m',m'<m/\W (i+1) m' Z2 H2)/\∀x H2,cg.CK i H' x H2->g x Z' H2 λZ3 H3=>tt Z3 H3 λok H4=>
  if ok=true then te Z3 H4 λy H5=>∃ys,H5 D=some (.lst ys)/\ys.length<sizeLine/\N Z3 (upd H5 D (.lst (ys++[y]))) else N Z3 H4)
section
variable {X:Cx}{elt tg iter:Expr}{ifs:List Expr}{scope:Scope}{pos:Pos}{N:List Str}{ZY:St->St}{wi:TI}{g:TG}{tt:TT}{te:TE}
structure Parts(X:Cx)(elt tg:Expr)(ifs:List Expr)(scope:Scope)(N:List Str)(g:TG)(tt:TT)(te:TE):Prop where
 tgt:∀cl C s3 H3 fp ak,PG (X.blk scope cl N C s3 H3 fp ak) tg g
 tst:∀cl C s3 H3 fp ak,O_ (X.blk scope cl N C s3 H3 fp ak) ifs tt
 el:∀cl C s3 H3 fp ak,PE (X.blk scope cl N C s3 H3 fp ak) elt te
theorem zdg(hc:X.aj=true)(B:eE X.env.scope scope)(P:Parts X elt tg ifs scope N g tt te)(hl:∀Z,(ZY Z).length=N.length)
  (hZ:∀(Z:St) (i:Nat) (x:Str) (v:V),N[i]?=some x->(ZY Z)[i]?=some (some v)->scope.names.lookup x=some .free/\∃j:Nat,X.N[j]?=some x/\Z[j]?=some (some v))
  {ak:List (Addr×Obj)} {s:Shared} {Z:St} {H:Hp} {Q:VK} {it:Addr} {fp:List Addr} {tn:Nat->Heap->Prop} {cg:It} (I:Inv X ak Z H s) (T:Turn X.prog X.w X.K tg cg fp it tn) (st:tn 0 s.heap) (f:∀b∈fp,jo X ak H b) (h:Jy ZY g tt te cg Z H Q)
  {cl:List (Str×Addr)} (c1:∀x c,cl.lookup x=some c->X.env.cells.lookup x=some c) (c2:∀x∈scope.names,x.2=.free->∃c,cl.lookup x.1=some c) {R:Value->Addr->Result->Shared->Prop} {E:Value->Shared->Prop}
  (k:∀D C s' H',Inv X ak Z H' s'->X.s₀.heap.objs.size<=C->H' C=none->C≠X.env.locals->(∀x c,X.env.cells.lookup x=some c->c≠C)->(∀p∈X.pn++ak,p.1≠C)->(∃m,s'.heap.Ns C m)->Q (.ref D) H'->R (.ref D) C (.ok .next) s') :
  wpAny (model X.prog X.w) X.A (newList []) (λacc s₃=>wpAny (model X.prog X.w) X.A (newFunctionEnv scope X.env.globals cl [] X.env.qual none .none (some X.env)) (λcenv s₄=>
   codeAny (model X.prog X.w) X.A (.compStart (.ListComp elt [⟨tg,iter,ifs,0⟩] scope pos) 0 (.ref it) acc {cenv with scope:=relabel scope X.env}) (R acc cenv.locals) s₄) E s₃) E s:=by
 show sS ?_;let hD:H s.heap.objs.size=none:=I.hok.fresh (bQ _);let I3:Inv X ak Z (upd H s.heap.objs.size (.lst [])) {s with heap:=s.heap.push {cls:=.type "list",dict:=none,data:=.seq ([]:List Value).toArray}}:=
  I.laid (t':=s.toks) (λb u q=>dD _ q) (bQ _) ⟨jJ _,[],0,.nil,gK _ rfl⟩
 let f3:∀b∈fp,jo X ak (upd H s.heap.objs.size (.lst [])) b:=λb hb=>by
  let⟨a1,a2⟩:=f b hb;let⟨o,q,_⟩:=T.obj 0 _ st b hb;show⟨by rw[dJ (dU (bL q))];show a1,a2⟩
 let st3:tn 0 (s.heap.push {cls:=.type "list",dict:=none,data:=.seq ([]:List Value).toArray}):=T.keep _ _ _ st λb hb o q=>dD _ q;let⟨W,⟨m0,w0⟩,turn⟩:=h s.heap.objs.size hD;generalize hs3:({s with heap:=s.heap.push {cls:=.type "list",dict:=none,data:=.seq ([]:List Value).toArray}}:Shared)=s3 at *;let Dn:tn 0 s3.heap:=by rw[<-hs3];show st3
 generalize hH3:upd H s.heap.objs.size (.lst [])=H3 at *;show zfr (λx c q=>by let⟨v,o,q1,_⟩:=I3.cell x c (c1 x c q);show bL q1) (λx y c a b=>I3.ok.inj x y c (c1 x c a) (c1 y c b)) λh1 jM hn kp CN=>?_;let Ti:Inv (X.blk scope jM N s3.heap.objs.size s3 H3 fp ak) [] (ZY Z) H3 {s3 with heap:=h1}:=
  zks (t:=s3.toks) I3 B c1 c2 f3 (λb hb=>let ⟨o,q,_⟩:=T.obj 0 _ Dn b hb;⟨o,q⟩) hn kp CN (hl Z) (hZ Z)
 let st4:tn 0 h1:=T.keep _ _ _ Dn λb hb o q=>kp b o q;let fY:∀{H':Hp},(∀b∈fp,H' b=none)->∀b∈fp,jo (X.blk scope jM N s3.heap.objs.size s3 H3 fp ak) [] H' b:=λ{H'} z b hb=>by
  let⟨a1,a2,a3,a4,a5,a6⟩:=f3 b hb;let⟨o,q,_⟩:=T.obj 0 _ Dn b hb;show⟨z b hb,dU (bL q),λy=>(cX.mp (I3.mD b y)).elim a2 a3,.inl hb,λx c y=>?_,λp hp=>a6 p ?_⟩
  .rcases CN.d1 x c y with ⟨q1,_⟩|⟨_,q1,_⟩
   .exact a5 x c (c1 x c q1)
   .exact λe=>absurd (bL q) (by rw[<-e];show HW.mpr (xR q1))
  let y:p∈(X.pn++ak)++[]:=hp;simpa using y
 let loop:codeAny (model X.prog X.w) X.A (.compLoop (.ListComp elt [⟨tg,iter,ifs,0⟩] scope pos) 0 (.ref it) (.ref s.heap.objs.size) (compEnvC scope jM s3.heap.objs.size X.env)) (R (.ref s.heap.objs.size) s3.heap.objs.size) {s3 with heap:=h1}:=by
  show zgY (λn s'=>∃i Z' H',Inv (X.blk scope jM N s3.heap.objs.size s3 H3 fp ak) [] Z' H' s'/\tn i s'.heap/\(∀b∈fp,H' b=none)/\W i n Z' H') ?_ m0 ⟨0,ZY Z,H3,Ti,st4,λb hb=>(f3 b hb).1,w0⟩;rintro n s5 ⟨i,Z5,H5,yD,Gh,OD,w5⟩;rcases turn i n Z5 H5 w5 with ⟨stop,q⟩|⟨go,Nx,hN,step⟩
  .refine bD (T.done (X.blk scope jM N s3.heap.objs.size s3 H3 fp ak) rfl rfl rfl hc i [] s5 Z5 H5 _ yD (fY OD) Gh stop) λr s6 ⟨hr,jr⟩=>?_;subst hr;let JX:=zdW I3 f3 jr;show k s.heap.objs.size s3.heap.objs.size s6 H5 JX I3.sz jr.free (gD I3.lt) (λx c y z=>?_) (λp hp z=>?_) ?_ q
   .obtain⟨v,qc⟩:=I3.cell x c y;show absurd qc.lt (by rw[z];show nU _)
   .exact absurd (bL (I3.pin p hp).1) (by rw[z];show nU _)
   .obtain⟨m,hm,_⟩:=jr.loc;show⟨m,hm⟩
  .refine bD (T.item (X.blk scope jM N s3.heap.objs.size s3 H3 fp ak) rfl rfl rfl hc i [] s5 Z5 H5 _ yD (fY OD) Gh go) λr s6 hx=>wk hx λu hr h6=>?_;subst hr;show bD h6 λ_ s7 hz=>?_;let⟨x,H7,mQ,r7,y7,Tj,fr7⟩:=hz;let Jz:=mQ.pinned (fY fr7) (T.obj _ _ Tj);show bD (P.tgt jM s3.heap.objs.size s3 H3 fp ak _ s7 Z5 H7 x u _ Jz r7 (step x H7 y7)) λ_ s8 hz=>?_;let⟨Z8,H8,Tn,q8⟩:=hz;show bD (P.tst jM s3.heap.objs.size s3 H3 fp ak _ s8 Z8 H8 _ Tn q8) λok s9 hx=>wk hx λH9 JD q9=>?_;let again:∀{H':Hp} {s':Shared},Inv (X.blk scope jM N s3.heap.objs.size s3 H3 fp ak) ([]++jV fp s7.heap) Z8 H' s'->Nx Z8 H'->∃m,m<n/\∃i Z' H',Inv (X.blk scope jM N s3.heap.objs.size s3 H3 fp ak) [] Z' H' s'/\tn i s'.heap/\(∀b∈fp,H' b=none)/\W i m Z' H':=λ{H' s'} pP n'=>by
    let⟨m',hm,w'⟩:=hN Z8 H' n';show⟨m',hm,i+1,Z8,H',pP.iU,T.keep _ _ _ Tj λb hb o e=>(pP.pin (b,o) (oV _ (oV _ (Oz hb e)))).1,λb hb=>?_,w'⟩;let⟨o,e,d⟩:=T.obj _ _ Tj b hb;show(pP.pin (b,o) (oV _ (oV _ (Oz hb e)))).2.1
   cases ok with
   |false=>
    rw[if_neg J0]at q9 ⊢;show again JD q9
   |true=>
    rw[if_pos rfl]at q9 ⊢;show bD (P.el jM s3.heap.objs.size s3 H3 fp ak _ s9 Z8 H9 _ JD q9) λv s10 hz=>?_;let⟨y,H10,JF,r10,ys,Tq,hz,q10⟩:=hz;show bD (ZJ (X:=(X.blk scope jM N s3.heap.objs.size s3 H3 fp ak)) _ s10 Z8 H10 (.ref s.heap.objs.size) [y] (.ref s.heap.objs.size) [v] (λ_ H'=>Nx Z8 H') JF rfl (.cons r10 .nil) ⟨s.heap.objs.size,ys,y,rfl,rfl,Tq,hz,q10⟩) λ_ s11 hx=>gb hx λ_ H11 JL _ q11=>again JL q11
 show codeAny_compStart_list loop (T.self _ 0 _ _ _ st4 loop)
end
noncomputable def uL(wi:TI)(ZY:St->St)(g:TG)(tt:TT)(te:TE):TE:=λZ H Q=>wi Z H λcg H1=>Jy ZY g tt te cg Z H1 Q
section
variable {X:Cx}{elt tg iter:Expr}{ifs:List Expr}{scope:Scope}{pos spos py:Pos}{N:List Str}{ZY:St->St}{wi:TI}{g:TG}{tt:TT}{te:TE}{i:Nat}{y:Str}
theorem zfJ(I:Inv X ak Z H s)(B:eE X.env.scope scope):∃cl,closureFor scope X.env=pure cl/\(∀x c,cl.lookup x=some c->X.env.cells.lookup x=some c)/\∀x∈scope.names,x.2=.free->∃c,cl.lookup x.1=some c:=
 zfb λx hx hf=>I.ok.has x.1 (B.free x hx hf)
theorem zk1(hc:X.aj=true)(B:eE X.env.scope scope)(hi:PI X tg iter wi)(P:Parts X elt tg ifs scope N g tt te)(hl:∀Z,(ZY Z).length=N.length)
  (hZ:∀(Z:St) (i:Nat) (x:Str) (v:V),N[i]?=some x->(ZY Z)[i]?=some (some v)->scope.names.lookup x=some .free/\∃j:Nat,X.N[j]?=some x/\Z[j]?=some (some v))
  (hs:∀x,foldedSetIterable iter X.env x=pure x:=by intro _;rfl):PE X (.ListComp elt [⟨tg,iter,ifs,0⟩] scope pos) (uL wi ZY g tt te):=by
 intro ak s Z H Q I h;let⟨cl,yE,c1,c2⟩:=zfJ I B;rw[eval_ListComp];show wpAny_comprehension_free (use:=none) rfl hs yE B.kind B.loc (bD (hi ak s Z H _ I h) λxv s1 h1=>bD h1 λitv s2 h2=>?_);let⟨it,fp,tn,cg,H2,e,I2,T,st2,f2,hq⟩:=h2;subst e;show zdg hc B P hl hZ I2 T st2 f2 hq c1 c2 (R:=λacc C=>compPost (model X.prog X.w) X.A X.xe none (EP X ak Z Q) acc C) λD C s' H' pP a b c d e ⟨m,hm⟩ q=>⟨m,hm,λh' sb=>⟨.ref D,H',zbJ (Z':=Z) pP a b c d e sb,rfl,q⟩⟩
theorem ze5(hc:X.aj=true)(hN:X.N.Nodup)(tH:X.N[i]?=some y)(hx:Loc X.env.scope y)(hf:X.fn y=true\/X.env.scope.names.lookup y=some .local)(B:eE X.env.scope scope)(hi:PI X tg iter wi)(P:Parts X elt tg ifs scope N g tt te)(hl:∀Z,(ZY Z).length=N.length)
  (hZ:∀(Z:St) (i:Nat) (x:Str) (v:V),N[i]?=some x->(ZY Z)[i]?=some (some v)->scope.names.lookup x=some .free/\∃j:Nat,X.N[j]?=some x/\Z[j]?=some (some v))
  (JM:swapsWith (.ListComp elt [⟨tg,iter,ifs,0⟩] scope pos) (some (.Name y py)) spos.line X.env=pure true) (hs:∀x,foldedSetIterable iter X.env x=pure x:=by intro _;rfl) :
  PS X (.Assign [.Name y py] (.ListComp elt [⟨tg,iter,ifs,0⟩] scope pos) spos) (CG (uL wi ZY g tt te) (eY i)):=by
 intro ak s Z H D I h;let⟨cl,yE,c1,c2⟩:=zfJ I B;rw[exec_Assign_Name_used _ _ _ _ JM];show aB (wpAny_standAt (aB ?_));change wpAny _ X.A (do let _ <-comprehension (.ListComp elt [⟨tg,iter,ifs,0⟩] scope pos) scope X.env _ (newList []) false (eval iter X.env) (some (assign (.Name y py) X.env))) _ _ s;show aB (wpAny_comprehension_free (use:=some (assign (.Name y py) X.env)) rfl hs yE B.kind B.loc (bD (hi ak s Z H _ I h) λxv s1 h1=>bD h1 λitv s2 h2=>?_));let⟨it,fp,tn,cg,H2,e,I2,T,st2,f2,hq⟩:=h2;subst e;show zdg hc B P hl hZ I2 T st2 f2 hq c1 c2 (R:=λacc C=>compPost (model X.prog X.w) X.A X.xe (some (assign (.Name y py) X.env)) _ acc C) λD' C s' H' pP a b c d e ⟨m,hm⟩ q=>?_;change wpAny _ _ (assign (.Name y py) X.env (.ref D')) _ _ s';show wpAny_assign_Name (zdt (v:=.ref D') pP hN tH hx rfl (λs5 yD ⟨ad,sb,had⟩=>?_) hf);let nC:C≠ad:=by
  rcases had with z|z
  .rw[z];show c
  .exact(d y ad z).symm
 let⟨ol,es,ep,e1,r1⟩:=hm;show⟨m,⟨ol,es,ep,(sb.2 C nC).trans e1,r1⟩,λh' sb'=>aP (aP ⟨_,H',zbJ (Z':=Z) yD a b c d e sb',q⟩)⟩
end
end L2
namespace L2
open PySem PySem.Spec PyProof.Rows PySem.W
noncomputable def bM{α:Type}(lt:Nat->Nat->Option Bool):KasT α->Option α
 |.ret a=>some a|.ask i j k=>match lt i j with
  |some b=>bM lt (k b)|none=>none
theorem zcr{α:Type}{lt:Nat->Nat->Option Bool}{cmp:Nat->Nat->(Bool->Shared->Prop)->Shared->Prop}{Q:α->Shared->Prop}{s:Shared}(hc:∀i j b C,lt i j=some b->C b s->cmp i j C s){a:α}(q:Q a s):∀{t:KasT α},bM lt t=some a->t.kasWp cmp Q s
 |.ret a',h=>by
  unfold bM at h;cases h;show q
 |.ask i j k,h=>by
  unfold bM at h;cases e:lt i j with
  |none=>rw[e]at h;cases h|some b=>
   rw[e]at h;show hc i j b _ e (zcr hc q h)
noncomputable def jE(vs:List Value)(p:Array Nat):Array Value:=if vs.length<2 then vs.toArray else List.toArray (p.toList.map λi=>vs.getD i Value.none)
section
variable {prog:Program}{w:World}{A:Around}{E:Value->Shared->Prop}{s:Shared}{κ:SortKind}{lt:Nat->Nat->Option Bool}{p:Array Nat}
theorem zcG{a:Addr}{vs:List Value}{n:Nat}{P:PySem.Fin->Shared->Prop}(ho:s.heap.get? a=some (seqObj "list" vs.toArray n))(uM:vs.length<64)
  (hk:2<=vs.length->∀(s':Shared) (Q:SortKind->Shared->Prop),(∀b o,b≠a->s.heap.get? b=some o->s'.heap.get? b=some o)->Q κ s'->wpAny (model prog w) A (keyKind' vs.toArray) Q E s')
  (bV:2<=vs.length->∀(s':Shared) i j b C,(∀b o,b≠a->s.heap.get? b=some o->s'.heap.get? b=some o)->lt i j=some b->C b s'->kas_ask prog w A κ vs i j C s') (hr:2<=vs.length->bM lt (kas_sort vs.length)=some p) (Dp:2<=vs.length->p.size=vs.length)
  (h:P (.done (.ret .none)) {s with heap:=sortedHeap s.heap a vs (jE vs p)}) :
  wpAny (model prog w) A (Builtin.«list.sort» ⟨[.ref a],[]⟩) P E s:=by
 rw[list_sort_plain];let ha:a<s.heap.objs.size:=bL ho;show aB (listItems_at ho rfl ?_);show aB (listUpdate_at ho rfl ?_ (by rw[dH,uq];lia) (jJ _));obtain⟨e1,Pa⟩ : ∃e1,(s.heap.update a (Obj.mapSeq λ_=>#[])).get? a=some (seqObj "list" #[] e1):=⟨_,get?_update_seq ho (λ_=>#[])⟩;show aB (seqEpoch_at Pa rfl ?_);show aB (wpAny_newTuple ?_ (by change vs.length<=_;rw[uq];lia));show aB (wpAny_newList ?_ (jJ _));show mj ?_;let keep:∀b o,b≠a->s.heap.get? b=some o->(((s.heap.update a (Obj.mapSeq λ_=>(#[]:Array Value))).push (seqObj "tuple" vs.toArray 0)).push (seqObj "list" #[] 0)).get? b=some o:=λb o nb e=>
  dD _ (dD _ ((Heap.get?_update_ne _ _ _ _ nb).trans e))
 let Pb:(((s.heap.update a (Obj.mapSeq λ_=>(#[]:Array Value))).push (seqObj "tuple" vs.toArray 0)).push (seqObj "list" #[] 0)).get? a=some (seqObj "list" #[] e1):=by
  rw[NK _ _ _ (by rw[size_push',Heap.size_update];show dU (k_ ha)),NK _ _ _ (by rw[Heap.size_update];show dU ha)];show Pa
 change wpAny (model prog w) A _ P E {s with heap:=((s.heap.update a (Obj.mapSeq λ_=>#[])).push (seqObj "tuple" vs.toArray 0)).push (seqObj "list" #[] 0)};dsimp only;let iw:vs.toArray.size=vs.length:=by simp
 by_cases h2:vs.toArray.size<2
 .rw[if_pos h2,if_pos h2];show aB (aP ?_);rw[StateT.run_pure];show aB (aP ?_);dsimp only;show aB (seqEpoch_at Pb rfl ?_);show aB (listUpdate_at Pb rfl ?_ (jJ _) (by rw[Array.size_map];change (pairsOf vs).size<=_;rw[pairsOf_size,uq];lia));simp only[bne_self_eq_false,xK,sW];let e:((vs.toArray.zip vs.toArray).map (·.2))=jE vs p:=by
   unfold jE;rw[if_pos (by rw[iw]at h2;show h2)];apply Array.toList_inj.mp;simp[List.map_snd_zip]
  show aP ?_;let h':=h;rw[<-e]at h';show h'
 .rw[if_neg h2,if_neg h2];let ou:2<=vs.length:=by lia
  show aB (hk ou _ _ keep ?_);show aB (oZ (kat_run (κ:=κ) (ks:=vs) (vs:=vs) (G:=λp' s'=>p'=p/\s'={s with heap:=((s.heap.update a (Obj.mapSeq λ_=>#[])).push (seqObj "tuple" vs.toArray 0)).push (seqObj "list" #[] 0)})
   (Q:=λst' s'=>arrOf st'=p.map (kas_item (vs.toArray.zip vs.toArray))/\failedOf st'=none/\s'={s with heap:=((s.heap.update a (Obj.mapSeq λ_=>#[])).push (seqObj "tuple" vs.toArray 0)).push (seqObj "list" #[] 0)})
   rfl ou uM (λp' st' s' a1 a2 a3 a4=>⟨by rw[a2,a4.1],a3,a4.2⟩) (zcr (λi j b C hl hC=>bV ou _ i j b C keep hl hC) ⟨rfl,rfl⟩ (hr ou))) ?_ λ_ _ e=>e)
  rintro⟨⟨⟩,st'⟩ s' ⟨Pg,hf,rfl⟩;dsimp only;let hout:=kat_snds (ks:=vs) (vs:=vs) rfl Pg;let e:List.toArray (p.toList.map λi=>vs.getD i Value.none)=jE vs p:=by
   unfold jE;rw[if_neg gV]
  rw[hout,e];let hso:(jE vs p).size=vs.length:=by rw[<-e,dH,aY,zW,Dp ou]
  show aB (seqEpoch_at Pb rfl ?_);show aB (listUpdate_at Pb rfl ?_ (jJ _) (by rw[hso,uq];lia));rw[hf];simp only[bne_self_eq_false,xK,sW];show aP h
theorem Tr(hl:s.heap.IsList l vs.toArray)(uM:vs.length<64)
  (hk:2<=vs.length->∀(s':Shared) (Q:SortKind->Shared->Prop) E,(∀b o,s.heap.get? b=some o->s'.heap.get? b=some o)->Q κ s'->wpAny (model prog w) A.in1.in1 (keyKind' vs.toArray) Q E s')
  (bV:2<=vs.length->∀(s':Shared) i j b C,(∀b o,s.heap.get? b=some o->s'.heap.get? b=some o)->lt i j=some b->C b s'->kas_ask prog w A.in1.in1 κ vs i j C s') (hr:2<=vs.length->bM lt (kas_sort vs.length)=some p) (Dp:2<=vs.length->p.size=vs.length)
  (h:Q (.ref (s.heap.objs.size+1)) {s with heap:=sortedAll s.heap vs (jE vs p)}) :
  wpAny (model prog w) A (call (.builtin "sorted") [.ref l]) Q E s:=by
 show Calls.call_function_entry kind_sorted plain_sorted entry_sorted (args_sorted1 _) ?_;unfold Builtin.«sorted»;show aB (m:=checkCount "sorted" 1 1 _) (aP ?_);show aB (collect_list hl ?_ (by rw[uq];lia));show aB (wpAny_newList ?_ (by rw[uq];lia));let iw:((s.heap.push (seqObj "list" #[] 0)).update s.heap.objs.size (Obj.mapSeq (·++vs.toArray))).objs.size=s.heap.objs.size+1:=by
  rw[Heap.size_update,size_push']
 let Oo:(((s.heap.push (seqObj "list" #[] 0)).update s.heap.objs.size (Obj.mapSeq (·++vs.toArray))).push (seqObj "list" vs.toArray 0)).get? (s.heap.objs.size+1)=some (seqObj "list" vs.toArray 0):=by
  rw[<-iw];show gK _ rfl
 let keep:∀b o,s.heap.get? b=some o->(((s.heap.push (seqObj "list" #[] 0)).update s.heap.objs.size (Obj.mapSeq (·++vs.toArray))).push (seqObj "list" vs.toArray 0)).get? b=some o:=λb o q=>by
  let bV:b<s.heap.objs.size:=bL q;rw[NK _ _ _ (by rw[iw];show dU (k_ bV)),Heap.get?_update_ne _ _ _ _ (dU bV),NK _ _ _ (dU bV)];show q
 change wpAny _ _ _ _ _ {s with heap:=((s.heap.push (seqObj "list" #[] 0)).update s.heap.objs.size (Obj.mapSeq (·++vs.toArray))).push (seqObj "list" vs.toArray 0)};rw[iw];let nn:∀b o,s.heap.get? b=some o->b≠s.heap.objs.size+1:=λb o e=>dU (k_ (bL e));show aB (mj (sU slot_list_sort ⟨_,Oo,rfl⟩ entry_list_sort (zcG (κ:=κ) (lt:=lt) (p:=p) Oo uM (λh2 s' Q' k q=>hk h2 s' Q' _ (λb o e=>k b o (nn b o e) (keep b o e)) q) (λh2 s' i j b C k e q=>bV h2 s' i j b C (λb o e=>k b o (nn b o e) (keep b o e)) e q) hr Dp ⟨_,rfl,?_⟩) (args_list_sort _)));show aP ⟨_,rfl,h⟩
end
noncomputable def lu:List V->List V->Option Bool
 |[],ys=>some (decide (0<ys.length))|_::_,[]=>some false|.int x::xs,.int y::ys=>if x=y then lu xs ys else some (decide (x<y))|_::_,_::_=>none
theorem zlx{prog:Program}{w:World}{A:Around}{s:Shared}{fin:Bool}{C:Bool->Shared->Prop}{b:Bool}:∀{us ws:List V} {its jts:List Value} {i:Nat},Vals us its->Vals ws jts->lu us ws=some b->fin=decide (us.length<ws.length)->C b s->KatLex prog w A true fin C (its.zip jts) i s:=by
 intro us ws its jts i r1
 induction r1 generalizing ws jts i with
 |nil=>
  intro _ h hf hc;rw[List.zip_nil_left];unfold lu at h;cases h;rw[hf];show kat_nil hc
 |@cons x u us its rx ri ih=>
  intro r2 h hf hc;cases r2 with
  |nil=>
   rw[List.zip_nil_right];unfold lu at h;cases h;rw[hf];show kat_nil (by simpa using hc)
  |@cons y v ws jts ry rj=>
   rw[Nu];cases x with
   |int a=>
    cases y with
    |int c=>
     let⟨t,rfl⟩:=rx;let⟨t',rfl⟩:=ry;unfold lu at h;show kat_cons (wpAny_eqBool_int ?_);by_cases e:a=c
     .rw[if_pos e]at h;subst e;rw[ug];show kat_yes (ih rj h (by rw[hf];simp) hc)
     .rw[if_neg e]at h;cases h;rw[show (a==c)=false by simpa using e];show kat_no ?_;by_cases hi:i=0
      .subst hi;show oneLt_int hc
      .rw[show (true&&i==0)=false by simpa using hi];show kat_one _ _ (wpAny_lt_int hc)
    |_=>cases h
   |_=>cases y<;>cases h
def uN(K:W.Frag)(H:Hp)(ys:List V)(lt:Nat->Nat->Option Bool):Prop:=
 ((∀v∈ys,∃i,v=V.int i)/\∀i j b,lt i j=some b->∃x y,ys[i]?=some (.int x)/\ys[j]?=some (.int y)/\b=decide (x<y)) \/
 ((∀v∈ys,∃a i r,v=.ref a/\fQ K H a (.int i::r))/\∀i j b,lt i j=some b->∃a c us ws,ys[i]?=some (.ref a)/\ys[j]?=some (.ref c)/\fQ K H a us/\fQ K H c ws/\lu us ws=some b)
noncomputable def lA(ys:List V)(p:Array Nat):List V:=if ys.length<2 then ys else p.toList.map λi=>ys.getD i .non
theorem zet(r:Vals ys its):∀l:List Nat,Vals (l.map λi=>ys.getD i .non) (l.map λi=>its.getD i Value.none)
 |[]=>.nil|i::l=>by
  show .cons ?_ (zet r l);cases e:ys[i]? with
  |some y=>
   let⟨u,e1,e2⟩:=r.get e;change RelV (ys.getD i .non) (its.getD i Value.none);rw[gJ,gJ,e,e1];show e2
  |none=>
   let e1:its[i]?=none:=by rw[oU]at e ⊢;rw[<-r.length];show e
   change RelV (ys.getD i .non) (its.getD i Value.none);rw[gJ,gJ,e,e1];rfl
theorem zhQ{ys:List V}{its:List Value}(r:Vals ys its)(p:Array Nat):Vals (lA ys p) (jE its p).toList:=by
 unfold lA jE;rw[r.length];by_cases h:its.length<2
 .rw[if_pos h,if_pos h];show r
 .rw[if_neg h,if_neg h];show zet r p.toList
theorem zhL{ys:List V}{its:List Value}(r:Vals ys its):∀u∈its,∃v∈ys,RelV v u:=by
 induction r with
 |nil=>intro u hu;cases hu|cons h t ih=>
  intro u hu;rcases cX.mp hu with rfl|hu
  .exact⟨_,jH,h⟩
  .obtain⟨v,a,b⟩:=ih u hu;show⟨v,fZ _ a,b⟩
section
variable {X:Cx}
theorem zgK{prog:Program}{w:World}{A:Around}{E:Value->Shared->Prop}{s:Shared}{its:List Value}{Q:SortKind->Shared->Prop}(h2:2<=its.length)(hi:∀u∈its,∃i t,u=Value.int i t)(q:Q oneType' s):wpAny (model prog w) A (keyKind' its.toArray) Q E s:=
 kas_kind (T:=.type "int") h2 (λv hv=>by let⟨i,t,rfl⟩:=hi v hv;show .of_pure rfl) J0 J0 q
theorem zjl{K:W.Frag}{ak:List (Addr×Obj)}{s:Shared}{Z:St}{H:Hp}(I:Inv X ak Z H s){h':Heap}(k:∀b o,s.heap.get? b=some o->h'.get? b=some o):∀{ys:List V} {its:List Value},Vals ys its->(∀v∈ys,∃a i r,v=.ref a/\fQ X.K H a (.int i::r))->∃fs:List Value,fs.length=its.length/\(∀f∈fs,∃i t,f=Value.int i t)/\KatTups h' its fs:=by
 intro ys its r0
 induction r0 with
 |nil=>show λ_=>⟨[],rfl,(λf hf=>by cases hf),trivial⟩|@cons v u ys its r rs ih=>
  intro h;let⟨a,i,r',rfl,hq⟩:=h _ jH;let⟨fs,l,hf,kt⟩:=ih λv hv=>h v (fZ _ hv);let⟨its',rv,⟨o,ho,hc,n,hd⟩,_⟩:=I.tuple hq;cases (show u=Value.ref a from r);cases rv with
  |cons ri rr=>
   let⟨t,rfl⟩:=ri;show⟨Value.int i t::fs,by simp[l],λf hf'=>?_,KatTups.cons (k _ _ ho) hc hd V8 kt⟩;rcases cX.mp hf' with rfl|z
   .exact⟨i,t,rfl⟩
   .exact hf f z
theorem zgl{prog:Program}{w:World}{A:Around}{E:Value->Shared->Prop}{s:Shared}{its fs:List Value}{Q:SortKind->Shared->Prop}(h2:2<=its.length)(hl:fs.length=its.length)(hi:∀u∈fs,∃i t,u=Value.int i t)(kt:KatTups s.heap its fs)(q:Q (tuples' true) s):wpAny (model prog w) A (keyKind' its.toArray) Q E s:=
 kat_kind (T:=.type "int") kt gV (λv hv=>by let⟨i,t,rfl⟩:=hi v hv;show .of_pure rfl) J0 q
theorem Pj{its:List Value}{i:Nat}{u:Value}(h:its[i]?=some u):its.getD i Value.none=u:=by rw[gJ,h];rfl
theorem zdO:cL X (.builtin "sorted") (λxs H Q=>∃l ys lt p,xs=[.ref l]/\cY X.K H l ys/\ys.length<64/\(2<=ys.length->uN X.K H ys lt/\bM lt (kas_sort ys.length)=some p/\p.size=ys.length)/\∀r,H r=none->Q (.ref r) (upd H r (.lst (lA ys p)))):=by
 intro ak s Z H xs us Q I r h;let⟨l,ys,lt,p,rfl,hq,uM,hs,q⟩:=h;let⟨u,rfl,rx⟩:=vals1 r;cases rx;let⟨its,rv,pl,hz⟩:=I.list hq;let hlen:=rv.length;let fin:EP X ak Z Q (.ref (s.heap.objs.size+1)) {s with heap:=sortedAll s.heap its (jE its p)}:=by
  let⟨e,he⟩:=sortedAll_at s.heap its (jE its p);let hn:H (s.heap.objs.size+1)=none:=I.hok.fresh (Nat.le_succ _);show⟨.ref (s.heap.objs.size+1),_,I.laid (t':=s.toks) (λb u q=>sortedAll_old q) (Nat.le_succ _) (show aU X.prog X.w _ _ _ (.lst (lA ys p)) from ⟨?_,(jE its p).toList,e,zhQ rv p,by rw[Array.toArray_toList];show he⟩),rfl,q _ hn⟩;unfold lA;by_cases h2:ys.length<2
  .rw[if_pos h2];show hz
  .rw[if_neg h2,aY,zW,(hs gV).2.2];show hz
 by_cases h2:2<=ys.length
 .obtain⟨hS,hr,hp⟩:=hs h2;rcases hS with ⟨hI,bV⟩|⟨hT,bV⟩
  .refine Tr (κ:=oneType') (lt:=lt) (p:=p) pl.isList gV (λou s' Q' E' k q'=>zgK ou (λu hu=>?_) q') (λ_ s' i j b C k e hC=>?_) (λ_=>by rw[<-hlen];show hr) (λ_=>by lia) fin
   .obtain⟨v,hv,rr⟩:=zhL rv u hu;let⟨i,rfl⟩:=hI v hv;let⟨t,rfl⟩:=rr;show⟨i,t,rfl⟩
   .obtain⟨x,y,e1,e2,rfl⟩:=bV i j b e;let⟨u1,f1,g1⟩:=rv.get e1;let⟨u2,f2,g2⟩:=rv.get e2;let⟨t1,rfl⟩:=g1;let⟨t2,rfl⟩:=g2;change wpAny _ _ (keyLt' oneType' (its.getD i Value.none) (its.getD j Value.none)) C _ s';rw[Pj f1,Pj f2];show kat_lt_int hC
  .refine Tr (κ:=tuples' true) (lt:=lt) (p:=p) pl.isList gV (λou s' Q' E' k q'=>?_) (λ_ s' i j b C k e hC=>?_) (λ_=>by rw[<-hlen];show hr) (λ_=>by lia) fin
   .obtain⟨fs,l1,hf,kt⟩:=zjl (K:=X.K) I k rv hT;show zgl ou l1 hf kt q'
   .obtain⟨a,c,us,ws,e1,e2,q1,q2,e3⟩:=bV i j b e;let⟨u1,f1,g1⟩:=rv.get e1;let⟨u2,f2,g2⟩:=rv.get e2;cases (show u1=Value.ref a from g1);cases (show u2=Value.ref c from g2);let⟨i1,r1,⟨o1,Pa,hc1,n1,hd1⟩,_⟩:=I.tuple q1;let⟨i2,r2,⟨o2,pL,tu,n2,hd2⟩,_⟩:=I.tuple q2;change wpAny _ _ (keyLt' (tuples' true) (its.getD i Value.none) (its.getD j Value.none)) C _ s';rw[Pj f1,Pj f2];show kat_lt (k _ _ Pa) hd1 (k _ _ pL) hd2 (zlx r1 r2 e3 ?_ hC);rw[r1.length,r2.length];simp
 .exact Tr (κ:=oneType') (lt:=lt) (p:=p) pl.isList gV (λou=>absurd ou gV) (λou=>absurd ou gV) (λou=>absurd ou gV) (λou=>absurd ou gV) fin
end
end L2
namespace L2
open PySem PySem.Spec PyProof.Rows PySem.W PySem.Calls
structure XF(K:Frag)(C:Addr)(f:Str):Prop where
 ga:findIn K (.ref C) "__getattribute__"=some (some (.builtin "BaseException.__getattribute__"))
 gn:findIn K (.ref C) "__getattr__"=some none
 mb:mroIn K C (.type "BaseException")=some true
 no:findIn K (.ref C) f=some none
 hd:hasDictIn K C=true
end L2
namespace L2
open PySem PySem.Spec PyProof.Rows
section
variable {X:Cx}{ak:List (Addr×Obj)}{Z:St}{H:Hp}{s:Shared}{h':Heap}
theorem Inv.lJ{t':Nat}{ch:List Addr}{a:Addr}{o:HO}(I:Inv X ak Z H s)(k:∀b u,b∉ch->s.heap.get? b=some u->h'.get? b=some u)(hf:∀b∈ch,jo X ak H b)(ha:s.heap.objs.size<=a)(new:aU X.prog X.w (upd H a o) h' a o) :
  Inv X ak Z (upd H a o) {s with heap:=h',toks:=t'}:=by
 let Aj:∀b u,H b=some u->b∉ch:=λb u e z=>by rw[(hf b z).1]at e;cases e
 let hn:H a=none:=I.hok.fresh ha;let na:∀b u,H b=some u->b≠a:=λb u e z=>by rw[z,hn]at e;cases e
 let la:∀b u,s.heap.get? b=some u->b≠a:=λb u e=>dU (dF (bL e) ha);show I.step (g':=s.gens) (d':=s.drawn) (ch:=ch) (λb hb=>?_) (λb o _ _ hc e _=>k b o hc e) (λb o _ _ hc e _=>⟨o.slots,k b o hc e⟩) (λb o' _ e n=>by rw[dJ (la b o' e)];show n)
  (λb o hc e=>⟨o,k b o hc e⟩) (λb xs e=>by rw[dJ (na b _ e)];show e) (λb o u e=>by rw[dJ (na b _ e)];show e) (λb ps e=>⟨#[],by rw[dJ (na b _ e),e];simp⟩) (λm hm=>?_) (λb u e=>?_) I.bare
 .obtain⟨f0,f1,f2,f3,f4,f5⟩:=hf b hb;show⟨f3.imp id λz=>Ht z,f1,f4,f5⟩
 .obtain⟨o,es,ep,ho,r⟩:=hm;show⟨o,es,ep,k _ o (λz=>(hf _ z).2.1 rfl) ho,r⟩
 .by_cases z:b=a
  .subst z;rw[jK]at e;cases e;show new
  .rw[dJ z]at e;show(I.hok b u e).stay (λc v hc q=>k c v ?_ q) (λc q=>by rw[dJ (na c _ q)];show q) λc _ q=>by rw[dJ (na c _ q)];show q
   rcases hc with y|y
   .rw[y];show Aj b u e
   .exact Aj c _ y
theorem Inv.qI{t':Nat}{ch:List Addr}(I:Inv X ak Z H s)(k:∀b u,b∉ch->s.heap.get? b=some u->h'.get? b=some u)(hf:∀b∈ch,jo X ak H b):Inv X ak Z H {s with heap:=h',toks:=t'}:=by
 let Aj:∀b u,H b=some u->b∉ch:=λb u e z=>by rw[(hf b z).1]at e;cases e
 show I.step (g':=s.gens) (d':=s.drawn) (ch:=ch) (λb hb=>?_) (λb o _ _ hc e _=>k b o hc e) (λb o _ _ hc e _=>⟨o.slots,k b o hc e⟩) (λ_ _ _ _ n=>n)
  (λb o hc e=>⟨o,k b o hc e⟩) (λ_ _ e=>e) (λ_ _ _ e=>e) (λb ps e=>⟨#[],by rw[e];simp⟩) (λm hm=>?_) (λb u e=>?_) I.bare
 .obtain⟨f0,f1,f2,f3,f4,f5⟩:=hf b hb;show⟨f3.imp id λz=>Ht z,f1,f4,f5⟩
 .obtain⟨o,es,ep,ho,r⟩:=hm;show⟨o,es,ep,k _ o (λz=>(hf _ z).2.1 rfl) ho,r⟩
 .refine(I.hok b u e).stay (λc v hc q=>k c v ?_ q) (λ_ q=>q) λ_ _ q=>q;rcases hc with y|y
  .rw[y];show Aj b u e
  .exact Aj c _ y
end
structure jg(prog:Program)(w:World)(it src:Addr)(st:Nat->Heap->Prop)(its:Array Value):Prop where
 item:∀(A:Around) (E:Value->Shared->Prop) (s:Shared) (i:Nat) (x:Value) (Q:Value->Shared->Prop),st i s.heap->its[i]?=some x->(∀h',st (i+1) h'->Heap.SameBut it s.heap h'->Q x {s with heap:=h'})->wpAny (model prog w) A (Builtin.SmallTypes.nextOf (.ref it)) Q E s
 fin:∀(A:Around) (E:Value->Shared->Prop) (s:Shared) (i:Nat) (Q:Value->Shared->Prop),A.handled=none->st i s.heap->its[i]?=none->(∀h' e,Heap.ExtBut it s.heap h'->(∃o,h'.get? e=some o/\o.cls=.type "StopIteration")->E (.ref e) {s with heap:=h'})->wpAny (model prog w) A (Builtin.SmallTypes.nextOf (.ref it)) Q E s
 keep:∀i h h',st i h->(∀b o,b=it\/b=src->h.get? b=some o->h'.get? b=some o)->st i h'
theorem jg.list(hne:l≠it):jg prog w it l (λi h=>h.IsListIter it l i/\h.IsList l its) its where
 item:=λA E s i x Q ⟨h1,h2⟩ hx q=>wpAny_nextOf_list_item h1 h2 hx λh' a sb=>q h' ⟨a,h2.at λo e=>(sb.2 l hne).trans e⟩ sb
 fin:=λA E s i Q hh ⟨h1,h2⟩ hx q=>wpAny_nextOf_list_end hh h1 h2 hx q
 keep:=λi h h' ⟨h1,h2⟩ k=>⟨h1.at λo e=>k it o (.inl rfl) e,h2.at λo e=>k l o (.inr rfl) e⟩
theorem zey(l:Addr):¬((Value.ref l==Value.none)=true):=λz=>by cases (show false=true from z)
theorem IsTupleIter.at'{h h':Heap}{it l:Addr}{i:Nat}(x:h.IsTupleIter it l i)(k:∀o,h.get? it=some o->h'.get? it=some o):h'.IsTupleIter it l i:=by
 let⟨o,e,r⟩:=x;show⟨o,k o e,r⟩
theorem IsTuple.at'{h h':Heap}{l:Addr}{xs:Array Value}(x:h.IsTuple l xs)(k:∀o,h.get? l=some o->h'.get? l=some o):h'.IsTuple l xs:=by
 let⟨o,e,r⟩:=x;show⟨o,k o e,r⟩
section
variable {prog:Program}{w:World}{A:Around}{E:Value->Shared->Prop}{s:Shared}{it l:Addr}{i:Nat}{its:Array Value}
theorem zeV{x:Value}{Q:Value->Shared->Prop}(hi:s.heap.IsTupleIter it l i)(hl:s.heap.IsTuple l its)(hx:its[i]?=some x)(q:∀h',h'.IsTupleIter it l (i+1)->Heap.SameBut it s.heap h'->Q x {s with heap:=h'}) :
  wpAny (model prog w) A (Builtin.SmallTypes.nextOf (.ref it)) Q E s:=by
 let⟨oi,ei,ci,di⟩:=id hi;let⟨ol,el,_,nl,dl⟩:=hl;unfold Builtin.SmallTypes.nextOf;show aB (v7 (name:=Str.ofString "__next__") hi.typeIs M8 (sU M8 hi.typeIs F.entry_tuple_iterator_next ?_ (F.args_tuple_iterator_next_1 _)));change wpAny _ A.in1 (field (.ref it) 0 >>= _) _ E s;show aB (iM ei di (x:=.ref l) rfl ?_);change wpAny _ A.in1 (if (Value.ref l==Value.none)=true then _ else _) _ E s;rw[if_neg (zey l)];change wpAny _ A.in1 (field (.ref it) 1 >>= _) _ E s;show aB (iM ei di (x:=.int i 0) rfl ?_);change wpAny _ A.in1 (seqItems? (.ref l) >>= _) _ E s;show aB (uh el dl ?_);simp only[xO,hx];show aB (HB ei di V8 (aP ⟨x,rfl,aP (q _ ⟨_,wg _ ei (Ng (xJ di _)),(Obj.cls_mapFields ..).trans ci,?_⟩ (zX ..))⟩));rw[xJ di];simp[rawInt]
theorem zgX{Q:Value->Shared->Prop}(hh:A.handled=none)(hi:s.heap.IsTupleIter it l i)(hl:s.heap.IsTuple l its)(hx:its[i]?=none)(q:∀h' e,Heap.ExtBut it s.heap h'->(∃o,h'.get? e=some o/\o.cls=.type "StopIteration")->E (.ref e) {s with heap:=h'}) :
  wpAny (model prog w) A (Builtin.SmallTypes.nextOf (.ref it)) Q E s:=by
 let⟨oi,ei,ci,di⟩:=id hi;let⟨ol,el,_,nl,dl⟩:=hl;unfold Builtin.SmallTypes.nextOf;show aB (v7 (name:=Str.ofString "__next__") hi.typeIs M8 (sU M8 hi.typeIs F.entry_tuple_iterator_next ?_ (F.args_tuple_iterator_next_1 _)));change wpAny _ A.in1 (field (.ref it) 0 >>= _) _ E s;show aB (iM ei di (x:=.ref l) rfl ?_);change wpAny _ A.in1 (if (Value.ref l==Value.none)=true then _ else _) _ E s;rw[if_neg (zey l)];change wpAny _ A.in1 (field (.ref it) 1 >>= _) _ E s;show aB (iM ei di (x:=.int i 0) rfl ?_);change wpAny _ A.in1 (seqItems? (.ref l) >>= _) _ E s;show aB (uh el dl ?_);simp only[xO,hx];show aB (Gb (aB (HB ei di V8 ?_)));change wpAny _ A.in1 (newExc (.type "StopIteration") [] >>= _) _ E _;show aB ?_;simp only[newExc,newTuple];show aB (sS (aB (m:=firstArgMember _ _) (wpAny_of_eq (a:=Value.none) (by first|rfl|(simp only[firstArgMember];rfl)) (sS ?_ (by size_fits)))) (by size_fits));simp only[raiseNew];show aB (wpAny_handled ?_);rw[show A.in1.handled=none from hh];show aB (aP (wpAny_throw (q _ _ (((zX ..).extBut.push _).push _) ⟨_,gK _ rfl,rfl⟩)))
end
theorem jg.tuple{prog:Program}{w:World}{it l:Addr}{its:Array Value}(hne:l≠it):jg prog w it l (λi h=>h.IsTupleIter it l i/\h.IsTuple l its) its where
 item:=λA E s i x Q ⟨h1,h2⟩ hx q=>zeV h1 h2 hx λh' a sb=>q h' ⟨a,IsTuple.at' h2 λo e=>(sb.2 l hne).trans e⟩ sb
 fin:=λA E s i Q hh ⟨h1,h2⟩ hx q=>zgX hh h1 h2 hx q
 keep:=λi h h' ⟨h1,h2⟩ k=>⟨IsTupleIter.at' h1 λo e=>k it o (.inl rfl) e,IsTuple.at' h2 λo e=>k l o (.inr rfl) e⟩
structure fu(z TI TO i1 i2 l1 l2:Addr):Prop where
 zs:z≠TI/\z≠TO/\z≠i1/\z≠i2/\z≠l1/\z≠l2
 os:TO≠TI/\TO≠i1/\TO≠i2/\TO≠l1/\TO≠l2
 is:TI≠i1/\TI≠i2/\i1≠i2/\i1≠l1/\i1≠l2/\i2≠l1/\i2≠l2
section
variable {prog:Program}{w:World}{A:Around}{E:Value->Shared->Prop}{s:Shared}{z TI TO i1 i2 l1 l2:Addr}{st1 st2:Nat->Heap->Prop}{xs ys:Array Value}{k:Nat}{a b:Value}
theorem zel(N1:jg prog w i1 l1 st1 xs)(N2:jg prog w i2 l2 st2 ys)(D:fu z TI TO i1 i2 l1 l2)(hz:IsZip s.heap z TI TO .none)(wC:IsPair s.heap TI (.ref i1) (.ref i2))(tK:IsPair s.heap TO a b)
  (h1:st1 k s.heap) (h2:st2 k s.heap) (hx:xs[k]?=some x) (hy:ys[k]?=some y)
  (q:∀h',IsZip h' z TI TO (rawInt s.heap.objs.size)->IsPair h' TO x y->st1 (k+1) h'->st2 (k+1) h'->IsPair h' s.heap.objs.size x y->h'.objs.size=s.heap.objs.size+1->(∀c o,c≠z->c≠TO->c≠i1->c≠i2->s.heap.get? c=some o->h'.get? c=some o)->Q (some (.ref s.heap.objs.size)) {s with heap:=h'}) :
  wpAny (model prog w) A (pyNext (.ref z)) Q E s:=by
 let⟨⟨z1,z2,z3,z4,z5,z6⟩,⟨t1,t2,t3,t4,t5⟩,⟨j1,j2,j3,j4,j5,j6,j7⟩⟩:=D;let hT:s.TypeIs (.ref z) "zip":=⟨_,hz,rfl⟩;unfold pyNext;show aB (Cg (v7 (name:=Str.ofString "__next__") hT xP (sU xP hT NZ ?_ (NP _))));change wpAny _ A.in1 (field (.ref z) 2 >>= _) _ _ s;show aB (iM hz rfl (x:=.bool false) rfl ?_);change wpAny _ A.in1 (field (.ref z) 3 >>= _) _ _ s;show aB (iM hz rfl (x:=.ref TI) rfl (aB (uh wC rfl ?_)));change wpAny _ A.in1 (Builtin.SmallTypes.ownedTupleIsFree (.ref z) >>= _) _ _ s;show aB ?_;unfold Builtin.SmallTypes.ownedTupleIsFree;show aB (iM hz rfl (x:=.none) rfl (aP ?_));simp only[if_true];show aB (Gb (aB (iM hz rfl (x:=.ref TO) rfl (aB (BX hz V8 λha za sa=>aB ?_)))))
 replace za:IsZip ha z TI TO .ellipsis:=za
 simp only[List.zipIdx_cons,List.zipIdx_nil,Cd,FZ];show aB (aB (wpAny_onRaise ?_));change wpAny _ A.in1 (Builtin.SmallTypes.nextOf (.ref i1) >>= _) _ _ _;show aB (N1.item _ _ {s with heap:=ha} k x _ (N1.keep _ _ _ h1 λc o hc e=>sa.extBut c o (by rcases hc with rfl|rfl;show z3.symm;show z5.symm) e) hx λhb JV sb=>aP ?_);let tb:IsPair hb TO a b:=sb.extBut _ _ t2 (sa.extBut _ _ z2.symm tK);show aB (uh tb rfl (aB (Rb tb λhc tc sc=>aB (wpAny_letGo (aP ?_)))))
 replace tc:IsPair hc TO x b:=tc
 show aB (aB (wpAny_onRaise ?_));change wpAny _ A.in1 (Builtin.SmallTypes.nextOf (.ref i2) >>= _) _ _ _;let k2:st2 k hc:=N2.keep _ _ _ h2 λc o jm e=>by
  rcases jm with rfl|rfl
  .exact sc.extBut _ _ t3.symm (sb.extBut _ _ j3.symm (sa.extBut _ _ z4.symm e))
  .exact sc.extBut _ _ t5.symm (sb.extBut _ _ j5.symm (sa.extBut _ _ z6.symm e))
 let k1:st1 (k+1) hc:=N1.keep _ _ _ JV λc o jm e=>by
  rcases jm with rfl|rfl
  .exact sc.extBut _ _ t2.symm e
  .exact sc.extBut _ _ t4.symm e
 show aB (N2.item _ _ {s with heap:=hc} k y _ k2 hy λhd Tt sd=>aP ?_);let td:IsPair hd TO x b:=sd.extBut _ _ t3 tc;show aB (uh td rfl (aB (Rb td λhe te se=>aB (wpAny_letGo (aP (aP ?_))))))
 replace te:IsPair he TO x y:=te
 show aB (uh te rfl (aB (wpAny_newTuple ?_)));let size:he.objs.size=s.heap.objs.size:=by rw[se.1,sd.1,sc.1,sb.1,sa.1]
 let ze:IsZip he z TI TO .ellipsis:=se.extBut _ _ z2 (sd.extBut _ _ z4 (sc.extBut _ _ z2 (sb.extBut _ _ z3 za)));let kept:∀c o,c≠z->c≠TO->c≠i1->c≠i2->s.heap.get? c=some o->he.get? c=some o:=λc o c1 c2 c3 c4 e=>se.extBut _ _ c2 (sd.extBut _ _ c4 (sc.extBut _ _ c2 (sb.extBut _ _ c3 (sa.extBut _ _ c1 e))));let e1:st1 (k+1) he:=N1.keep _ _ _ k1 λc o jm e=>by
  rcases jm with rfl|rfl
  .exact se.extBut _ _ t2.symm (sd.extBut _ _ j3 e)
  .exact se.extBut _ _ t4.symm (sd.extBut _ _ j6.symm e)
 let e2:st2 (k+1) he:=N2.keep _ _ _ Tt λc o jm e=>by
  rcases jm with rfl|rfl
  .exact se.extBut _ _ t3.symm e
  .exact se.extBut _ _ t5.symm e
 change wpAny _ A.in1 (Builtin.SmallTypes.ownedTupleHandOut (.ref z) (.ref he.objs.size) >>= _) _ _ _;show aB ?_;unfold Builtin.SmallTypes.ownedTupleHandOut;let zf:IsZip (he.push {cls:=.type "tuple",data:=.seq #[x,y]}) z TI TO .ellipsis:=dD _ ze;show aB (BX zf V8 λhg zg sg=>BX zg V8 λhh zh sh=>aP ⟨_,rfl,aP ?_⟩)
 replace zh:IsZip hh z TI TO (rawInt he.objs.size):=zh
 let up:∀c o,c≠z->he.get? c=some o->hh.get? c=some o:=λc o c1 e=>sh.extBut _ _ c1 (sg.extBut _ _ c1 (dD _ e));let lz:z<he.objs.size:=bL ze;let tn:IsPair hh he.objs.size x y:=sh.extBut _ _ (gD lz) (sg.extBut _ _ (gD lz) (gK _ rfl));let sz:hh.objs.size=he.objs.size+1:=by rw[sh.1,sg.1,oY]
 rw[size]at zh tn sz;change Q (some (.ref he.objs.size)) _;rw[size];show q hh zh (up _ _ z2.symm te) (N1.keep _ _ _ e1 λc o jm e=>up c o (by rcases jm with rfl|rfl;show z3.symm;show z5.symm) e) (N2.keep _ _ _ e2 λc o jm e=>up c o (by rcases jm with rfl|rfl;show z4.symm;show z6.symm) e) tn sz λc o c1 c2 c3 c4 e=>up c o c1 (kept c o c1 c2 c3 c4 e)
theorem zfC(hn:A.handled=none)(N1:jg prog w i1 l1 st1 xs)(N2:jg prog w i2 l2 st2 ys)(D:fu z TI TO i1 i2 l1 l2)(hz:IsZip s.heap z TI TO .none)(wC:IsPair s.heap TI (.ref i1) (.ref i2))(tK:IsPair s.heap TO a b)
  (h1:st1 k s.heap) (h2:st2 k s.heap) (hx:xs[k]?=none\/ys[k]?=none) (q:∀h',(∀c o,c≠z->c≠TO->c≠i1->c≠i2->s.heap.get? c=some o->h'.get? c=some o)->Q none {s with heap:=h'}):wpAny (model prog w) A (pyNext (.ref z)) Q E s:=by
 let⟨⟨z1,z2,z3,z4,z5,z6⟩,⟨t1,t2,t3,t4,t5⟩,⟨j1,j2,j3,j4,j5,j6,j7⟩⟩:=D;let hT:s.TypeIs (.ref z) "zip":=⟨_,hz,rfl⟩;let stop:∀(h':Heap) (e:Addr),(∀c o,c≠z->c≠TO->c≠i1->c≠i2->s.heap.get? c=some o->h'.get? c=some o)->(∃o,h'.get? e=some o/\o.cls=.type "StopIteration")->
   wpAny (model prog w) A (do if <-isInstance (.ref e) (.type "StopIteration") then pure none else throw (.ref e):Sem (Option Value)) Q E {s with heap:=h'}:=λh' e kp ⟨o,ho,hc⟩=>
  aB (wpAny_isInstance (T:="StopIteration") (b:=true) ⟨o,ho,hc⟩ isSubtype_stop (aP (q h' kp)))
 unfold pyNext;show aB (Cg (v7 (name:=Str.ofString "__next__") hT xP (sU xP hT NZ ?_ (NP _))));change wpAny _ A.in1 (field (.ref z) 2 >>= _) _ _ s;show aB (iM hz rfl (x:=.bool false) rfl ?_);change wpAny _ A.in1 (field (.ref z) 3 >>= _) _ _ s;show aB (iM hz rfl (x:=.ref TI) rfl (aB (uh wC rfl ?_)));change wpAny _ A.in1 (Builtin.SmallTypes.ownedTupleIsFree (.ref z) >>= _) _ _ s;show aB ?_;unfold Builtin.SmallTypes.ownedTupleIsFree;show aB (iM hz rfl (x:=.none) rfl (aP ?_));simp only[if_true];show aB (Gb (aB (iM hz rfl (x:=.ref TO) rfl (aB (BX hz V8 λha za sa=>aB ?_)))))
 replace za:IsZip ha z TI TO .ellipsis:=za
 simp only[List.zipIdx_cons,List.zipIdx_nil,Cd,FZ];show aB (aB (wpAny_onRaise ?_));change wpAny _ A.in1 (Builtin.SmallTypes.nextOf (.ref i1) >>= _) _ _ _;let ka:st1 k ha:=N1.keep _ _ _ h1 λc o hc e=>sa.extBut c o (by rcases hc with rfl|rfl;show z3.symm;show z5.symm) e;cases ex:xs[k]? with
 |none=>
  show aB (N1.fin _ _ {s with heap:=ha} k _ hn ka ex λhb e sb se=>?_);let⟨oe,ho,hc⟩:=se;let zb:IsZip hb z TI TO .ellipsis:=sb _ _ z3 za;let ne:e≠z:=λy=>by subst y;rw[zb]at ho;cases ho;simp at hc
  show BX zb V8 λhd _ sd=>stop hd e (λc o c1 _ c3 _ y=>sd.extBut _ _ c1 (sb _ _ c3 (sa.extBut _ _ c1 y))) ⟨oe,sd.extBut _ _ ne ho,hc⟩
 |some x=>
  let ey:ys[k]?=none:=by
   rcases hx with y|y
   .rw[ex]at y;cases y
   .exact y
  show aB (N1.item _ _ {s with heap:=ha} k x _ ka ex λhb JV sb=>aP ?_);let tb:IsPair hb TO a b:=sb.extBut _ _ t2 (sa.extBut _ _ z2.symm tK);show aB (uh tb rfl (aB (Rb tb λhc tc sc=>aB (wpAny_letGo (aP ?_)))));show aB (aB (wpAny_onRaise ?_));change wpAny _ A.in1 (Builtin.SmallTypes.nextOf (.ref i2) >>= _) _ _ _;let k2:st2 k hc:=N2.keep _ _ _ h2 λc o jm e=>by
   rcases jm with rfl|rfl
   .exact sc.extBut _ _ t3.symm (sb.extBut _ _ j3.symm (sa.extBut _ _ z4.symm e))
   .exact sc.extBut _ _ t5.symm (sb.extBut _ _ j5.symm (sa.extBut _ _ z6.symm e))
  show aB (N2.fin _ _ {s with heap:=hc} k _ hn k2 ey λhd e sd se=>?_);let⟨oe,ho,yE⟩:=se;let zd:IsZip hd z TI TO .ellipsis:=sd _ _ z4 (sc.extBut _ _ z2 (sb.extBut _ _ z3 za));let ne:e≠z:=λy=>by subst y;rw[zd]at ho;cases ho;simp at yE
  show BX zd V8 λhf _ sf=>stop hf e (λc o c1 c2 c3 c4 y=>sf.extBut _ _ c1 (sd _ _ c4 (sc.extBut _ _ c2 (sb.extBut _ _ c3 (sa.extBut _ _ c1 y))))) ⟨oe,sf.extBut _ _ ne ho,yE⟩
end
noncomputable def Ck:Bool->Heap->Addr->Array Value->Prop
 |true,h,l,xs=>h.IsList l xs|false,h,l,xs=>h.IsTuple l xs
noncomputable def Rk:Bool->Addr->Addr->Nat->Heap->Prop
 |true,it,l,i,h=>h.IsListIter it l i|false,it,l,i,h=>h.IsTupleIter it l i
noncomputable def Sk:Bool->W.Frag->Hp->Addr->List V->Prop
 |true,K,H,l,xs=>cY K H l xs|false,K,H,l,xs=>fQ K H l xs
noncomputable def gG:Bool->Addr->Obj
 |true,l=>{cls:=.type "list_iterator",data:=.fields #[.ref l,.int 0 0]}|false,l=>{cls:=.type "tuple_iterator",data:=.fields #[.ref l,.int 0 0]}
theorem jg.of(kd:Bool)(hne:l≠it):jg prog w it l (λi h=>Rk kd it l i h/\Ck kd h l its) its:=by
 cases kd
 .exact jg.tuple hne
 .exact jg.list hne
theorem Ck.keep(x:Ck kd h l xs)(k:∀o,h.get? l=some o->h'.get? l=some o):Ck kd h' l xs:=by
 cases kd
 .exact IsTuple.at' x k
 .exact Heap.IsList.at x k
theorem Rk.keep(x:Rk kd it l i h)(k:∀o,h.get? it=some o->h'.get? it=some o):Rk kd it l i h':=by
 cases kd
 .exact IsTupleIter.at' x k
 .exact Heap.IsListIter.at x k
theorem Rk.obj(x:Rk kd it l i h):∃o,h.get? it=some o/\∀v,o.data≠.cell v:=by
 cases kd
 .obtain⟨o,e,c,d⟩:=x;show⟨o,e,λv z=>by rw[d]at z;cases z⟩
 .obtain⟨o,e,c,d⟩:=x;show⟨o,e,λv z=>by rw[d]at z;cases z⟩
theorem Ck.lt(x:Ck kd h l xs):l<h.objs.size:=by
 cases kd
 .obtain⟨o,e,_⟩:=x;show bL e
 .obtain⟨o,e,_⟩:=x;show bL e
section
variable {prog:Program}{w:World}{A:Around}{E:Value->Shared->Prop}{s:Shared}
theorem Pk(c:Ck kd s.heap l xs)(q:Q (.ref s.heap.objs.size) {s with heap:=s.heap.push (gG kd l)}):wpAny (model prog w) A (pyIter (.ref l)) Q E s:=by
 cases kd
 .exact Hw c q
 .exact Hx c q
end
noncomputable def zH(h:Heap)(k1 k2:Bool)(l1 l2:Addr):Heap:=((((h.push (gG k1 l1)).push (gG k2 l2)).push {cls:=.type "tuple",data:=.seq #[.ref h.objs.size,.ref (h.push (gG k1 l1)).objs.size]}).push {cls:=.type "tuple",data:=.seq #[.none,.none]}).push
 {cls:=.type "zip",data:=.fields #[.none,.bool false,.bool false,.ref ((h.push (gG k1 l1)).push (gG k2 l2)).objs.size,.ref (((h.push (gG k1 l1)).push (gG k2 l2)).push {cls:=.type "tuple",data:=.seq #[.ref h.objs.size,.ref (h.push (gG k1 l1)).objs.size]}).objs.size]}
theorem zhq(k1 k2:Bool)(l1 l2:Addr)(xs ys:Array Value):Meets (Builtin.«zip.__new__» ⟨[.type "zip",.ref l1,.ref l2],[]⟩) (λ_ R s=>Ck k1 s.heap l1 xs/\Ck k2 s.heap l2 ys /\
   R (.ok (.ret (.ref ((((s.heap.push (gG k1 l1)).push (gG k2 l2)).push {cls:=.type "tuple",data:=.seq #[.ref s.heap.objs.size,.ref (s.heap.push (gG k1 l1)).objs.size]}).push {cls:=.type "tuple",data:=.seq #[.none,.none]}).objs.size))) {s with heap:=zH s.heap k1 k2 l1 l2}):=
 .of_wp λprog w A R s h=>by
  let⟨hp,g,d,tk,os⟩:=s;let⟨c1,c2,h⟩:=h;let hsub:=sub_zip;let C1:Ck k1 (Shared.heap ⟨hp,g,d,tk,os⟩) l1 xs:=c1;let C2:Ck k2 (Shared.heap ⟨hp.push (gG k1 l1),g,d,tk,os⟩) l2 ys:=c2.keep λo e=>dD _ e
  wp_walk using Pk C1,Pk C2
  show⟨_,rfl,h⟩
section
variable {prog:Program}{w:World}{A:Around}{E:Value->Shared->Prop}{s:Shared}
theorem zfq(c1:Ck k1 s.heap l1 xs)(c2:Ck k2 s.heap l2 ys)
  (h:∀h',IsZip h' (s.heap.objs.size+4) (s.heap.objs.size+2) (s.heap.objs.size+3) .none->IsPair h' (s.heap.objs.size+2) (.ref s.heap.objs.size) (.ref (s.heap.objs.size+1))->IsPair h' (s.heap.objs.size+3) .none .none->
   Rk k1 s.heap.objs.size l1 0 h'->Rk k2 (s.heap.objs.size+1) l2 0 h'->(∀c o,s.heap.get? c=some o->h'.get? c=some o)->Q (.ref (s.heap.objs.size+4)) {s with heap:=h'}) :
  wpAny (model prog w) A (call (.type "zip") [.ref l1,.ref l2]) Q E s:=by
 show callType_new F.called_zip J0 (F.typeCall_zip_2 _ _) (F.newCall_zip_2 _ _) (λobj=>F.args_object_init_3 obj _ _) F.entry_zip_new (zhq k1 k2 l1 l2 xs ys) ⟨c1,c2,?_⟩;let n1:(s.heap.push (gG k1 l1)).objs.size=s.heap.objs.size+1:=oY ..;let n2:((s.heap.push (gG k1 l1)).push (gG k2 l2)).objs.size=s.heap.objs.size+2:=by rw[oY,n1]
 let fr:∀kd l,(gG kd l).isFreed=false:=λkd l=>by cases kd<;>rfl
 let rk:∀{h:Heap} {a:Addr} {kd:Bool} {l:Addr},h.get? a=some (gG kd l)->Rk kd a l 0 h:=λ{h a kd l} e=>by
  cases kd
  .exact⟨_,e,rfl,rfl⟩
  .exact⟨_,e,rfl,rfl⟩
 let o1:(s.heap.push (gG k1 l1)).get? s.heap.objs.size=some (gG k1 l1):=gK _ (fr _ _);let o2:((s.heap.push (gG k1 l1)).push (gG k2 l2)).get? (s.heap.objs.size+1)=some (gG k2 l2):=by
  let:=gK (s.heap.push (gG k1 l1)) (o:=gG k2 l2) (fr _ _);rw[n1]at this;show this
 generalize hA:(s.heap.push (gG k1 l1)).push (gG k2 l2)=Pn at *;let eH:zH s.heap k1 k2 l1 l2=((Pn.push {cls:=.type "tuple",data:=.seq #[.ref s.heap.objs.size,.ref (s.heap.objs.size+1)]}).push {cls:=.type "tuple",data:=.seq #[.none,.none]}).push {cls:=.type "zip",data:=.fields #[.none,.bool false,.bool false,.ref (s.heap.objs.size+2),.ref (s.heap.objs.size+3)]}:=by
  unfold zH;rw[hA,n1,n2,oY,n2]
 let n3:(Pn.push {cls:=.type "tuple",data:=.seq #[.ref s.heap.objs.size,.ref (s.heap.objs.size+1)]}).objs.size=s.heap.objs.size+3:=by rw[oY,n2]
 let n4:((Pn.push {cls:=.type "tuple",data:=.seq #[.ref s.heap.objs.size,.ref (s.heap.objs.size+1)]}).push {cls:=.type "tuple",data:=.seq #[.none,.none]}).objs.size=s.heap.objs.size+4:=by rw[oY,n3]
 rw[n1,n4];let g5:(zH s.heap k1 k2 l1 l2).get? (s.heap.objs.size+4)=some {cls:=.type "zip",data:=.fields #[.none,.bool false,.bool false,.ref (s.heap.objs.size+2),.ref (s.heap.objs.size+3)]}:=by
  rw[eH,<-n4];show gK _ rfl
 let g4:(zH s.heap k1 k2 l1 l2).get? (s.heap.objs.size+3)=some {cls:=.type "tuple",data:=.seq #[.none,.none]}:=by
  rw[eH,<-n3];show dD _ (gK _ rfl)
 let g3:(zH s.heap k1 k2 l1 l2).get? (s.heap.objs.size+2)=some {cls:=.type "tuple",data:=.seq #[.ref s.heap.objs.size,.ref (s.heap.objs.size+1)]}:=by
  rw[eH,<-n2];show dD _ (dD _ (gK _ rfl))
 let up:∀c o,Pn.get? c=some o->(zH s.heap k1 k2 l1 l2).get? c=some o:=λc o e=>by rw[eH];show dD _ (dD _ (dD _ e))
 show⟨⟨_,g5,rfl⟩,h _ g5 g3 g4 (rk (up _ _ ?_)) (rk (up _ _ o2)) λc o e=>up _ _ ?_⟩
 .rw[<-hA];show dD _ o1
 .rw[<-hA];show dD _ (dD _ e)
end
noncomputable def Tv(K:W.Frag)(k1 k2:Bool)(l1 l2:Addr):It:=
 ⟨λi H=>∃xs ys x y,Sk k1 K H l1 xs/\Sk k2 K H l2 ys/\xs[i]?=some x/\ys[i]?=some y,
  λi H v H'=>∃a x y,H a=none/\v=.ref a/\H'=upd H a (.tup [x,y])/\(∀xs,Sk k1 K H l1 xs->xs[i]?=some x)/\∀ys,Sk k2 K H l2 ys->ys[i]?=some y,
  λi H=>∃xs ys,Sk k1 K H l1 xs/\Sk k2 K H l2 ys/\(xs.length<=i\/ys.length<=i)⟩
section
variable {X:Cx}{ak:List (Addr×Obj)}{Z:St}{H:Hp}{s:Shared}{kd:Bool}{l:Addr}{xs ys:List V}
theorem Inv.row(I:Inv X ak Z H s)(h:Sk kd X.K H l xs):∃its:List Value,Vals xs its/\Ck kd s.heap l its.toArray:=by
 cases kd
 .obtain⟨its,rv,p,hz⟩:=I.tuple h;show⟨its,rv,p⟩
 .obtain⟨its,rv,p,hz⟩:=I.list h;show⟨its,rv,p.isList⟩
theorem Inv.mR(I:Inv X ak Z H s)(h:Sk kd X.K H l xs)(h':Sk kd X.K H l ys):xs=ys:=by
 cases kd
 .exact I.lH h h'
 .exact I.n6 h h'
end
theorem zhE{P:Program}{w:World}{K:W.Frag}{elts:List Expr}{kk:Nat}{pos:Pos}{k1 k2:Bool}{l1 l2 z TI TO i1 i2:Addr}(D:fu z TI TO i1 i2 l1 l2) :
  Turn P w K (.Tuple elts kk pos) (Tv K k1 k2 l1 l2) [z,TI,TO,i1,i2] z (λi h=>IsZip h z TI TO .none/\IsPair h TI (.ref i1) (.ref i2)/\(∃a b,IsPair h TO a b)/\Rk k1 i1 l1 i h/\Rk k2 i2 l2 i h) where
 mem:=by simp
 obj:=λi h ⟨a1,a2,⟨p,q,a3⟩,a4,a5⟩ b hb=>by
  let:b=z\/b=TI\/b=TO\/b=i1\/b=i2:=by simpa using hb
  rcases this with rfl|rfl|rfl|rfl|rfl
  .exact⟨_,a1,λv y=>by cases y⟩
  .exact⟨_,a2,λv y=>by cases y⟩
  .exact⟨_,a3,λv y=>by cases y⟩
  .exact a4.obj
  .exact a5.obj
 keep:=λi h h' ⟨a1,a2,⟨p,q,a3⟩,a4,a5⟩ k=>⟨k z V8 _ a1,k TI V8 _ a2,⟨p,q,k TO V8 _ a3⟩,a4.keep λo e=>k i1 V8 o e,a5.keep λo e=>k i2 V8 o e⟩
 item:=by
  rintro X hP hw hK hc i ak s Z H E I hf ⟨a1,a2,⟨p,q,a3⟩,a4,a5⟩ hg;subst hP hw hK;let⟨xs,ys,x,y,Ao,Aq,hx,hy⟩:=hg;let⟨Tw,Dq,c1⟩:=I.row Ao;let⟨Gm,Dr,c2⟩:=I.row Aq;let⟨u,hu,ru⟩:=Dq.get hx;let⟨v,hv,rv⟩:=Dr.get hy;let D':=D;let⟨⟨z1,z2,z3,z4,z5,z6⟩,⟨t1,t2,t3,t4,t5⟩,⟨j1,j2,j3,j4,j5,j6,j7⟩⟩:=D';show zel (jg.of k1 j4.symm) (jg.of k2 j7.symm) D a1 a2 a3 ⟨a4,c1⟩ ⟨a5,c2⟩ (x:=u) (y:=v) (by simpa using hu) (by simpa using hv) λh1 b1 b2 b3 b4 b5 b6 kp=>?_;show⟨_,rfl,wpAny_letOwnedTupleGo_zip (s:={s with heap:=h1}) b1 λh2 e2 sb=>?_⟩;let Ds:IsPair h2 s.heap.objs.size u v:=(sb.2 _ (gD (bL a1))).trans b5;let kk:∀b o,b∉[z,TI,TO,i1,i2]->s.heap.get? b=some o->h2.get? b=some o:=λb o hb e=>(sb.2 b λy=>hb (by simp[y])).trans (kp b o (λy=>hb (by simp[y])) (λy=>hb (by simp[y])) (λy=>hb (by simp[y])) (λy=>hb (by simp[y])) e);let I2:=I.lJ (t':=s.toks) (a:=s.heap.objs.size) (o:=.tup [x,y]) kk (λb hb=>hf b hb) (bQ _) (show aU X.prog X.w _ h2 _ (.tup [x,y]) from ⟨by change 2<=sizeLine;decide,[u,v],.cons ru (.cons rv .nil),⟨_,Ds,rfl,_,rfl,rfl⟩⟩);let hn:H s.heap.objs.size=none:=I.hok.fresh (bQ _);show⟨.ref s.heap.objs.size,_,I2,rfl,⟨_,x,y,hn,rfl,rfl,λzs hz=>by rw[I.mR hz Ao];show hx,λzs hz=>by rw[I.mR hz Aq];show hy⟩,⟨e2,(sb.2 _ z1.symm).trans (kp _ _ z1.symm t1.symm j1 j2 a2),⟨_,_,(sb.2 _ z2.symm).trans b2⟩,b3.1.keep λo e=>(sb.2 _ z3.symm).trans e,b4.1.keep λo e=>(sb.2 _ z4.symm).trans e⟩,λb hb=>?_⟩;let nb:b≠s.heap.objs.size:=by
   let:b=z\/b=TI\/b=TO\/b=i1\/b=i2:=by simpa using hb
   rcases this with rfl|rfl|rfl|rfl|rfl
   .exact dU (bL a1)
   .exact dU (bL a2)
   .exact dU (bL a3)
   .obtain⟨o,e,_⟩:=a4.obj;show dU (bL e)
   .obtain⟨o,e,_⟩:=a5.obj;show dU (bL e)
  rw[dJ nb];show(hf b hb).1
 done:=by
  rintro X hP hw hK hc i ak s Z H E I hf ⟨a1,a2,⟨p,q,a3⟩,a4,a5⟩ hg;subst hP hw hK;let⟨xs,ys,Ao,Aq,hx⟩:=hg;let⟨Tw,Dq,c1⟩:=I.row Ao;let⟨Gm,Dr,c2⟩:=I.row Aq;let n1:=Dq.length;let n2:=Dr.length;show zfC (I.ok.hd hc) (jg.of k1 D.is.2.2.2.1.symm) (jg.of k2 D.is.2.2.2.2.2.2.symm) D a1 a2 a3 ⟨a4,c1⟩ ⟨a5,c2⟩ ?_ λh' kp=>⟨rfl,I.qI (t':=s.toks) (ch:=[z,TI,TO,i1,i2]) (λb o hb e=>kp b o (λy=>hb (by simp[y])) (λy=>hb (by simp[y])) (λy=>hb (by simp[y])) (λy=>hb (by simp[y])) e) λb hb=>hf b hb⟩;rcases hx with y|y
  .exact .inl (by simp;lia)
  .exact .inr (by simp;lia)
 self:=λ_ _ _ _ _ ⟨a1,_⟩ h=>wpAny_pyIter_zip a1 h
section
variable {X:Cx}
noncomputable def Tz(K:W.Frag)(ta:TA):TI:=λZ H R=>ta Z H λvs H1=>∃k1 k2 l1 l2 xs ys,vs=[.ref l1,.ref l2]/\Sk k1 K H1 l1 xs/\Sk k2 K H1 l2 ys/\R (Tv K k1 k2 l1 l2) H1
theorem zeD:bootBuiltins "zip"=some (.type "zip"):=by decide +kernel
theorem znl{a b:Expr}{ta:TA}{p pos tpos:Pos}{elts:List Expr}{kk:Nat}(hg:Gl X "zip")(hm:X.mg "zip"=none)(ha:PA X [a,b] ta)(hs:starEach [a,b] X.env=[(false,eval a X.env),(false,eval b X.env)]:=by rfl)(yc:starEach [b] X.env=[(false,eval b X.env)]:=by rfl) :
  PI X (.Tuple elts kk tpos) (.Call (.Name "zip" p) [a,b] [] pos) (Tz X.K ta):=by
 intro ak s Z H R I h;show Call_ (sY I hg hm zeD (xH (bD (ha pos ak s Z H _ I h) λus s1 hz=>?_) (by rw[hs,yc]) (by rw[yc];rfl)));let⟨vs,H1,I1,r1,q1⟩:=hz;let⟨k1,k2,l1,l2,xs,ys,e,Ao,Aq,q⟩:=q1;subst e;cases r1 with
 |cons r rr=>
  cases rr with
  |cons r' rr=>
   cases rr;cases r;cases r';let⟨Tw,Dq,c1⟩:=I1.row Ao;let⟨Gm,Dr,c2⟩:=I1.row Aq;let m1:=c1.lt;let m2:=c2.lt;show zfq c1 c2 λh' b1 b2 b3 b4 b5 kp=>?_;show wpAny_pyIter_zip b1 ?_;let ne:∀{u v:Nat},u<v->u≠v:=λh=>dU h;let D:fu (s1.heap.objs.size+4) (s1.heap.objs.size+2) (s1.heap.objs.size+3) s1.heap.objs.size (s1.heap.objs.size+1) l1 l2:=
    ⟨⟨(ne gV).symm,(ne gV).symm,(ne gV).symm,(ne gV).symm,(ne (dF m1 gV)).symm,(ne (dF m2 gV)).symm⟩,
     ⟨(ne gV).symm,(ne gV).symm,(ne gV).symm,(ne (dF m1 gV)).symm,(ne (dF m2 gV)).symm⟩,
     ⟨(ne gV).symm,(ne gV).symm,ne gV,(ne m1).symm,(ne m2).symm,(ne (dF m1 gV)).symm,(ne (dF m2 gV)).symm⟩⟩
   show⟨s1.heap.objs.size+4,[s1.heap.objs.size+4,s1.heap.objs.size+2,s1.heap.objs.size+3,s1.heap.objs.size,s1.heap.objs.size+1],_,_,H1,rfl,I1.kept (t':=s1.toks) kp,zhE D,⟨b1,b2,⟨_,_,b3⟩,b4,b5⟩,λb hb=>?_,q⟩;let:s1.heap.objs.size<=b:=by
    let:b=s1.heap.objs.size+4\/b=s1.heap.objs.size+2\/b=s1.heap.objs.size+3\/b=s1.heap.objs.size\/b=s1.heap.objs.size+1:=by simpa using hb
    rcases this with rfl|rfl|rfl|rfl|rfl<;>lia
   show I1.uH this (I1.hok.fresh this)
end
noncomputable def Ite(K:W.Frag)(kd:Bool)(l:Addr):It:=
 ⟨λi H=>∃xs x,Sk kd K H l xs/\xs[i]?=some x,λi H v H'=>∃a x,H a=none/\v=.ref a/\H'=upd H a (.tup [.int i,x])/\∀xs,Sk kd K H l xs->xs[i]?=some x,λi H=>∃xs,Sk kd K H l xs/\xs.length<=i⟩
theorem Dt{prog:Program}{w:World}{A:Around}(hh:A.handled=none)(kd:Bool){it l:Addr}(hne:l≠it)(its:Array Value):Draws prog w A it [it,l] its.size (λi v=>its[i]?=some v) (λi h=>Rk kd it l i h/\Ck kd h l its) where
 live:=λ_ _ st=>let ⟨o,e,_⟩:=st.1.obj;⟨o,e⟩
 frame:=λ_ _ _ st k=>⟨st.1.keep λo e=>k it V8 o e,st.2.keep λo e=>k l V8 o e⟩
 item:=λi s Q E hi st q=>(jg.of kd hne).item A E s i its[i] Q st (by simp[hi]) λh' a b=>q _ h' s.toks (by simp[hi]) a b
 done:=λs Q E st q=>(jg.of kd hne).fin A E s its.size Q hh st V8 q
theorem zh1(kd:Bool)(l:Addr)(xs:Array Value):Meets (Builtin.«enumerate.__new__» ⟨[.type "enumerate",.ref l],[]⟩) (λ_ R s=>Ck kd s.heap l xs /\
   R (.ok (.ret (.ref (s.heap.push (gG kd l)).objs.size))) {s with heap:=(s.heap.push (gG kd l)).push {cls:=.type "enumerate",data:=.fields #[.none,.bool false,.ref s.heap.objs.size,rawInt 0,.none,.none]}}):=
 .of_wp λprog w A R s h=>by
  let⟨hp,g,d,tk,os⟩:=s;let⟨c1,h⟩:=h;let hsub:=sub_enumerate;let C1:Ck kd (Shared.heap ⟨hp,g,d,tk,os⟩) l xs:=c1;obtain⟨ol,el⟩ : ∃o,hp.get? l=some o:=by
   cases kd
   .obtain⟨o,e,_⟩:=c1;show⟨o,e⟩
   .obtain⟨o,e,_⟩:=c1;show⟨o,e⟩
  wp_walk using QZ el
  show wpAny_stack_any λst=>aP ?_
  split
  .rename_i c _ _ _ _ _;cases (c==Value.type "enumerate")<;>(wp_walk using QZ el,Pk C1;show⟨_,rfl,h⟩)
  .wp_walk using QZ el,Pk C1
   show⟨_,rfl,h⟩
theorem zhM{prog:Program}{w:World}{A:Around}{E:Value->Shared->Prop}{s:Shared}{e it l:Addr}{its:Array Value}{st:Nat->Heap->Prop}{i:Nat}{old:Value}{Q:Option Value->Shared->Prop}(hh:A.handled=none)(N:jg prog w it l st its)(he:IsEnum s.heap e it i old)(nM:st i s.heap)(hx:its[i]?=none)
  (q:∀h',Heap.ExtBut it s.heap h'->Q none {s with heap:=h'}):wpAny (model prog w) A (pyNext (.ref e)) Q E s:=by
 let ty:s.TypeIs (.ref e) "enumerate":=⟨_,he,rfl⟩;let body:∀{E':Value->Shared->Prop},(∀h' x,Heap.ExtBut it s.heap h'->(∃o,h'.get? x=some o/\o.cls=.type "StopIteration")->E' (.ref x) {s with heap:=h'})->wpAny (model prog w) A.in1 (Builtin.«enumerate.__next__» ⟨[.ref e],[]⟩) (λ_ _=>False) E' s:=λk=>by
  change wpAny _ A.in1 (field (.ref e) 2 >>= _) _ _ _;show aB (iM he rfl (x:=.ref it) rfl (aB (N.fin A.in1 _ s i _ hh nM hx k)))
 unfold pyNext;show aB (Cg (v7 (name:=Str.ofString "__next__") ty F.slot_enumerate_next (sU F.slot_enumerate_next ty F.entry_enumerate_next (oZ (body λh' x a b=>?_) (λ_ _ z=>z.elim) λ_ _ z=>z) (F.args_enumerate_next_1 _))));let⟨o,a1,a2⟩:=b;show aB (wpAny_isInstance (T:="StopIteration") (b:=true) ⟨o,a1,a2⟩ isSubtype_stop (aP (q h' a)))
theorem zfS{P:Program}{w:World}{K:W.Frag}{elts:List Expr}{kk:Nat}{pos:Pos}{kd:Bool}{l e it:Addr}(TF:e≠it)(hli:l≠it)(hle:l≠e) :
  Turn P w K (.Tuple elts kk pos) (Ite K kd l) [e,it] e (λi h=>(∃old,IsEnum h e it i old)/\Rk kd it l i h) where
 mem:=by simp
 obj:=λi h ⟨⟨old,he⟩,st⟩ b hb=>by
  let:b=e\/b=it:=by simpa using hb
  rcases this with rfl|rfl
  .exact⟨_,he,λv z=>by cases z⟩
  .exact st.obj
 keep:=λi h h' ⟨⟨old,he⟩,st⟩ k=>⟨⟨old,k e V8 _ he⟩,st.keep λo e=>k it V8 o e⟩
 item:=by
  rintro X hP hw hK hc i ak s Z H E I hf ⟨⟨old,he⟩,st⟩ hg;subst hP hw hK;let⟨xs,x,hq,hx⟩:=hg;let⟨its,rv,p⟩:=I.row hq;let⟨u,hu,ru⟩:=rv.get hx;let bV:i<its.toArray.size:=by simpa using (h_.mp hu).1
  show wpAny_pyNext_enum_itemD (Dt (A:=X.A.in1) (I.ok.hd hc) kd hli its.toArray) he ⟨st,p⟩ bV TF (by simp[TF,hle.symm]) λu' h1 tk hP ho TJ hT iw hk=>?_;let eu:u'=u:=by
   let:its[i]?=some u':=by simpa using hP
   rw[hu]at this;cases this;rfl
  subst eu;show⟨_,rfl,wpAny_letOwnedTupleGo_enum (s:={s with heap:=h1,toks:=tk+1}) ho λh2 he2 sb=>?_⟩;let Ds:h2.get? s.heap.objs.size=some {cls:=.type "tuple",data:=.seq #[.int i tk,u']}:=(sb.2 _ (gD (bL he))).trans hT;let kk:∀b o,b∉[e,it]->s.heap.get? b=some o->h2.get? b=some o:=λb o hb q=>(sb.2 b λz=>hb (by simp[z])).trans (hk b o (λz=>hb (by simp[z])) (λz=>hb (by simp[z])) q);let I2:=I.lJ (t':=tk+1) (a:=s.heap.objs.size) (o:=.tup [.int i,x]) kk (λb hb=>hf b hb) (bQ _) (show aU X.prog X.w _ h2 _ (.tup [.int i,x]) from ⟨by change 2<=sizeLine;decide,[.int i tk,u'],.cons ⟨_,rfl⟩ (.cons ru .nil),⟨_,Ds,rfl,_,rfl,rfl⟩⟩);let hn:H s.heap.objs.size=none:=I.hok.fresh (bQ _);show⟨.ref s.heap.objs.size,_,I2,rfl,⟨_,x,hn,rfl,rfl,λys hy=>by rw[I.mR hy hq];show hx⟩,⟨⟨_,by simpa using he2⟩,TJ.1.keep λo q=>(sb.2 it TF.symm).trans q⟩,λb hb=>?_⟩;let nb:b≠s.heap.objs.size:=by
   let:b=e\/b=it:=by simpa using hb
   rcases this with rfl|rfl
   .exact dU (bL he)
   .obtain⟨o,q,_⟩:=st.obj;show dU (bL q)
  rw[dJ nb];show(hf b hb).1
 done:=by
  rintro X hP hw hK hc i ak s Z H E I hf ⟨⟨old,he⟩,st⟩ hg;subst hP hw hK;let⟨xs,hq,hx⟩:=hg;let⟨its,rv,p⟩:=I.row hq;let hl:=rv.length;show zhM (I.ok.hd hc) (jg.of kd hli) he ⟨st,p⟩ (by simp;lia) λh' eb=>⟨rfl,I.qI (t':=s.toks) (ch:=[e,it]) (λb o hb q=>eb b o (λz=>hb (by simp[z])) q) λb hb=>hf b hb⟩
 self:=λ_ _ _ _ _ ⟨⟨old,he⟩,_⟩ h=>wpAny_pyIter_enum he h
section
variable {X:Cx}
noncomputable def JZ(K:W.Frag)(ta:TA):TI:=λZ H R=>ta Z H λvs H1=>∃kd l xs,vs=[.ref l]/\Sk kd K H1 l xs/\R (Ite K kd l) H1
theorem zgh:bootBuiltins "enumerate"=some (.type "enumerate"):=by decide +kernel
theorem zjt{a:Expr}{ta:TA}{p pos tpos:Pos}{elts:List Expr}{kk:Nat}(hg:Gl X "enumerate")(hm:X.mg "enumerate"=none)(ha:PA X [a] ta)(hs:starEach [a] X.env=[(false,eval a X.env)]:=by rfl):PI X (.Tuple elts kk tpos) (.Call (.Name "enumerate" p) [a] [] pos) (JZ X.K ta):=by
 intro ak s Z H R I h;show Call_ (sY I hg hm zgh (xH (bD (ha pos ak s Z H _ I h) λus s1 hz=>?_) hs rfl));let⟨vs,H1,I1,r1,q1⟩:=hz;let⟨kd,l,xs,e,hq,q⟩:=q1;subst e;cases r1 with
 |cons r rr=>
  cases rr;cases r;let⟨its,rv,p⟩:=I1.row hq;let hl:l<s1.heap.objs.size:=p.lt;show callType_new F.called_enumerate J0 (F.typeCall_enumerate_1 _) (F.newCall_enumerate_1 _) (λobj=>F.args_object_init_2 obj _) F.entry_enumerate_new (zh1 kd l its.toArray) ⟨p,?_⟩;let n1:(s1.heap.push (gG kd l)).objs.size=s1.heap.objs.size+1:=oY ..;let he:IsEnum ((s1.heap.push (gG kd l)).push {cls:=.type "enumerate",data:=.fields #[.none,.bool false,.ref s1.heap.objs.size,rawInt 0,.none,.none]}) (s1.heap.objs.size+1) s1.heap.objs.size 0 .none:=by
   let:=gK (s1.heap.push (gG kd l)) (o:={cls:=.type "enumerate",data:=.fields #[.none,.bool false,.ref s1.heap.objs.size,rawInt 0,.none,.none]}) rfl;rw[n1]at this;show this
  change _/\_;rw[n1];show⟨⟨_,he,rfl⟩,wpAny_pyIter_enum (s:={s1 with heap:=(s1.heap.push (gG kd l)).push {cls:=.type "enumerate",data:=.fields #[.none,.bool false,.ref s1.heap.objs.size,rawInt 0,.none,.none]}}) he ?_⟩;let rk:Rk kd s1.heap.objs.size l 0 ((s1.heap.push (gG kd l)).push {cls:=.type "enumerate",data:=.fields #[.none,.bool false,.ref s1.heap.objs.size,rawInt 0,.none,.none]}):=by
   cases kd
   .exact⟨_,dD _ (gK _ rfl),rfl,rfl⟩
   .exact⟨_,dD _ (gK _ rfl),rfl,rfl⟩
  show⟨s1.heap.objs.size+1,[s1.heap.objs.size+1,s1.heap.objs.size],_,_,H1,rfl,I1.kept (t':=s1.toks) λb o x=>dD _ (dD _ x),zfS (kd:=kd) (l:=l) (Nat.succ_ne_self _) (dU hl) (dU (k_ hl)),⟨⟨_,he⟩,rk⟩,λb hb=>?_,q⟩;let:s1.heap.objs.size<=b:=by
   let:b=s1.heap.objs.size+1\/b=s1.heap.objs.size:=by simpa using hb
   rcases this with rfl|rfl
   .exact Nat.le_succ _
   .exact bQ _
  show I1.uH this (I1.hok.fresh this)
end
end L2
set_option genSizeOf false
set_option genInjectivity false
namespace Mi
open PySem
inductive D where
 |non|bl (b:Bool)|int (i:Int)|str (s:Str)|tup (xs:List D)|fl (xs:List D)|fd (ks vs:List D)|exc (c:Nat) (fs:List D)|ob (c:Nat) (fs:List D)|any
inductive Xv where
 |d (x:D)|l (n:Nat)
inductive Kx where
 |non|int (i:Int)|row (is:List Int)
deriving DecidableEq
inductive SO where
 |lst (xs:List D)
 |dct (kvs:List (List Kx×D))
noncomputable abbrev S:=List SO
inductive Rs (α:Type) where
 |ok (a:α)|er (c:Nat) (fs:List D)
noncomputable abbrev M(α:Type):=S->Option (Rs α×S)
noncomputable def M.ret{α:Type}(a:α):M α:=λs=>some (.ok a,s)
noncomputable def M.bd{α β:Type}(m:M α)(k:α->M β):M β:=λs=>match m s with
 |some (.ok a,s')=>k a s'|some (.er c f,s')=>some (.er c f,s')|none=>none
noncomputable def M.qt{α:Type}(m:M α):M α:=λs=>match m s with
 |some (.ok a,s')=>some (.ok a,s')|_=>none
noncomputable def M.no{α:Type}:M α:=λ_=>none
noncomputable def M.opt{α:Type}:Option α->M α
 |some a=>M.ret a|none=>M.no
inductive Rz where
 |dat (d:D)|nw (xs:List D)
inductive Pr where
 |add|ao|mul|fdiv|mod|pow|neg
 |eq|ne|lt|le|gt|ge|inn|nin
 |J1|J3
 |len|abs|max2|min2|J5|rM|J6|rgt|yF|divmod|all|sum|list|tuple|sorted|qJ|gw|str1
 |ix|rev|rgl|J7|mult|Ar
 |count|index|repr
 |Pq|uO|TQ|shl|shr|band|isT|noT|isF|J8|Du|Dv
inductive Kd where
 |int|bool|str|tuple|list|dict|cls (c:Nat)|pQ
mutual
inductive E where
 |c (d:D)
 |v (i:Nat)
 |pr (fz:Bool) (p:Pr) (xs:Es)
 |yC (p q:Pr) (a b c:E)
 |ch3 (p q r:Pr) (a b c d:E)
 |and (a b:E)
 |or (a b:E)
 |not (a:E)
 |ite (c a b:E)
 |tup (xs:Es)
 |lst (fz:Bool) (xs:Es)
 |uP (k:Str) (i:Int)
 |call (f:Nat) (xs:Es)
 |iy (a:E) (k:Kd)
 |sl (fz:Bool) (a:E) (lo hi:Eo)
 |meth (fz:Bool) (p:Pr) (k:Kd) (o:E) (xs:Es)
 |push (o a:E)
 |pop (o:E)
 |comp (fz:Bool) (elt:E) (tg:List Nat) (it:Wk) (fr:List Nat) (many:Nat) (cond:Eo)
 |J9 (fz:Bool) (elt:E) (tg:List Nat) (it:Wk) (tg2:List Nat) (Gm:Wk) (fr:List Nat) (many:Nat) (cond:Eo)
 |fld (o:E) (cs:List Nat) (i:Nat)
 |of (o:E) (c i:Nat)
 |mk (c f:Nat) (xs:Es)
 |cm (c f:Nat) (o:E) (xs:Es)
 |TV
 |din (b:Bool) (k d:E)
 |TX (d k:E)
 |tru (a:E)
 |J_ (fz:Bool) (a:E) (b:E)
 |orv (a b:E)
 |ins (o i a:E)
 |no
inductive Wk where
 |seq (e:E)
 |rg (a b:E)
 |zip (a b:E)
 |enum (a:E)
 |rrg (a:E)
inductive Es where
 |nil
 |cons (a:E) (r:Es)
inductive Eo where
 |no
 |yes (a:E)
end
noncomputable abbrev Ea(a:E):Es:=.cons a .nil
noncomputable abbrev Eb(a b:E):Es:=.cons a (.cons b .nil)
noncomputable abbrev Ec(a b c:E):Es:=.cons a (.cons b (.cons c .nil))
noncomputable abbrev Ei(a b:E):E:=.pr true .ix (.cons a (.cons b .nil))
noncomputable abbrev Ci(i:Int):E:=.c (.int i)
noncomputable def Es.len:Es->Nat
 |.nil=>0|.cons _ r=>r.len+1
inductive Tg where
 |nm (i:Nat)
 |tp (is:List Nat)
 |ao (o i:E)
mutual
inductive St where
 |pass
 |ex (e:E)
 |asg (t:Tg) (e:E)
 |par (i j:Nat) (a b:E)
 |aug (i:Nat) (e:E)
 |ret (e:E)
 |rise (c:Nat) (kp:Bool) (xs:Es)
 |iff (c:E) (t e:b_)
 |wh (c:E) (b:b_)
 |fr (t:Tg) (w:Wk) (b:b_)
 |rN (b:b_) (d:Nat) (i:Nat) (h:b_)
 |dput (d k v:E)
 |no
inductive b_ where
 |nil
 |cons (a:St) (r:b_)
end
noncomputable def jF(eq:D->D->Option Bool):List D->List D->Option Bool
 |[],[]=>some true|[],_::_=>some false|_::_,[]=>some false|x::xs,y::ys=>match eq x y,jF eq xs ys with
  |some a,some b=>some (a&&b)|_,_=>none
noncomputable def kq:D->Option Nat
 |.non=>some 0|.bl _=>some 1|.int _=>some 1|.str _=>some 2|.tup _=>some 3|.fl _=>some 4|_=>none
noncomputable def dz:Nat->D->D->Option Bool
 |n+1,.tup xs,.tup ys=>jF (dz n) xs ys|n+1,.fl xs,.fl ys=>jF (dz n) xs ys|_,.non,.non=>some true|_,.bl a,.bl b=>some (a==b)|_,.int a,.int b=>some (a==b)|_,.str a,.str b=>some (a==b)|_,.bl a,.int b=>some ((if a then 1 else 0)==b)|_,.int a,.bl b=>some (a==(if b then 1 else 0))|_,a,b=>match kq a,kq b with
  |some i,some j=>if i=j then none else some false|_,_=>none
noncomputable def gA:List D->Option (List Int)
 |[]=>some []|.int i::r=>(gA r).map (i::·)|_=>none
noncomputable def ltI:List Int->List Int->Bool
 |_,[]=>false|[],_::_=>true|x::xs,y::ys=>if x=y then ltI xs ys else decide (x<y)
noncomputable def fK:List D->Option (List Bool)
 |[]=>some []|.bl b::r=>(fK r).map (b::·)|_=>none
noncomputable def cut{α:Type}(xs:List α)(lo hi:Option Int):List α:=(xs.drop (HT.bR xs.length 0 lo)).take (HT.bR xs.length xs.length hi-HT.bR xs.length 0 lo)
noncomputable def dX:D->Option (List D)
 |.tup xs=>some xs|.fl xs=>some xs|_=>none
noncomputable def cutD(x:D)(lo hi:Option Int):Option Rz:=match x with
 |.tup xs=>some (.dat (.tup (cut xs lo hi)))|.fl xs=>some (.nw (cut xs lo hi))|_=>none
noncomputable def memD(d:D):List D->Option Bool
 |[]=>some false|x::r=>match dz 50 x d,memD d r with
  |some a,some b=>some (a||b)|_,_=>none
noncomputable def rO(d:D):List D->Nat
 |[]=>0|x::r=>rO d r+(if dz 50 x d=some true then 1 else 0)
noncomputable def pR:Kd->D->Bool
 |.list,.fl _=>true|.str,.str _=>true|.dict,.fd _ _=>true|.tuple,.tup _=>true|_,_=>false
noncomputable def insI(x:Int):List Int->List Int
 |[]=>[x]|y::r=>if x<y then x::y::r else y::insI x r
noncomputable def sortI:List Int->List Int
 |[]=>[]|x::r=>insI x (sortI r)
noncomputable def cD(f:Int->Int->Option D):List D->Option Rz
 |[.int i,.int j]=>(f i j).map .dat|_=>none
noncomputable def qK(f:Int->D):List D->Option Rz
 |[.int i]=>some (.dat (f i))|_=>none
noncomputable def rP(f:List D->Option Rz):List D->Option Rz
 |[a]=>(dX a).bind f|_=>none
noncomputable def Dw:List D->Option Rz
 |[.int i,.int j]=>some (.dat (.int (i+j)))|[.tup xs,.tup ys]=>if xs.length+ys.length<=sizeLine then some (.dat (.tup (xs++ys))) else none|[.fl xs,.fl ys]=>if xs.length+ys.length<=sizeLine then some (.nw (xs++ys)) else none|[.str x,.str y]=>if x.length+y.length<=sizeLine then some (.dat (.str (x++y))) else none|_=>none
noncomputable def Ka:List D->Option Rz
 |[.int i,.int j]=>some (.dat (.bl (decide (i<j))))|[.tup xs,.tup ys]=>match gA xs,gA ys with
  |some a,some b=>some (.dat (.bl (ltI a b)))|_,_=>none
 |_=>none
noncomputable def Av(f:Bool->Bool):List D->Option Rz
 |[a,b]=>(dz 50 a b).map λk=>.dat (.bl (f k))|_=>none
noncomputable def yG(f:Bool->Bool):List D->Option Rz
 |[a,b]=>((dX b).bind (memD a)).map λk=>.dat (.bl (f k))|_=>none
noncomputable def D.Aw:D->Bool
 |.non=>true|_=>false
noncomputable def Dy(f:Bool->Bool):List D->Option Rz
 |[a]=>some (.dat (.bl (f a.Aw)))|_=>none
noncomputable def Kc:List D->Option Rz
 |[.int i]=>some (.dat (.int i))|[.bl k]=>some (.dat (.int (if k then 1 else 0)))|_=>none
noncomputable def Dz:List D->Option Rz
 |[.fl xs]=>(fK xs).map λbs=>.dat (.bl (bs.all id))|_=>none
noncomputable def aJ:List D->Option (List Int)
 |[]=>some []|.int i::r=>(aJ r).map (i::·)|_=>none
noncomputable def best(bt:Int->Int->Bool)(i:Int)(is:List Int):Int:=is.foldl (λm j=>if bt j m then j else m) i
noncomputable def lK(bt:Int->Int->Bool):Option (List Int)->Option Rz
 |some (i::is)=>some (.dat (.int (best bt i is)))|_=>none
noncomputable def qL(bt:Int->Int->Bool):List D->Option Rz
 |[a]=>(dX a).bind λxs=>lK bt (aJ xs)|_=>none
noncomputable def okR(i j:Int):Bool:=decide (-(2^62)<=i/\i<2^62/\-(2^62)<=j/\j<2^62/\(j-i).toNat<=65536)
noncomputable def TY(i:Int)(n:Nat):List D:=(List.range n).map λk=>.int (i+(k:Nat))
noncomputable def T3:List D->Option Rz
 |[.int j]=>if okR 0 j then some (.nw (TY 0 (j-0).toNat)) else none|[.int i,.int j]=>if okR i j then some (.nw (TY i (j-i).toNat)) else none|_=>none
noncomputable def T4:List D->Option Rz
 |[.int j]=>if okR 0 j then some (.dat (.tup (TY 0 (j-0).toNat))) else none|_=>none
noncomputable def pU:List D->Option Rz
 |[a]=>(dX a).map λxs=>.dat (.tup xs)|_=>none
noncomputable def T5:List D->Option Rz
 |[a,.int i]=>((dX a).bind λxs=>L2.qC xs i).map .dat|_=>none
noncomputable def lB:List D->List D->Option Bool
 |[],ys=>some (decide (0<ys.length))|_::_,[]=>some false|.int x::xs,.int y::ys=>if x=y then lB xs ys else some (decide (x<y))|_::_,_::_=>none
noncomputable def uQ(xs:List D)(i j:Nat):Option Bool:=match xs[i]?,xs[j]? with
 |some (.int x),some (.int y)=>some (decide (x<y))|some (.tup us),some (.tup ws)=>lB us ws|_,_=>none
noncomputable def Ax(b:List Int):List (List Int)->List Int
 |[]=>b|x::r=>Ax (if ltI x b=true then x else b) r
noncomputable def Ay:List D->Option (List (List Int))
 |[]=>some []|.tup xs::r=>match gA xs,Ay r with
  |some a,some b=>some (a::b)|_,_=>none
 |_=>none
noncomputable def Ke:List D->Option Rz
 |[.fl xs]=>match Ay xs with
  |some (x::r)=>some (.dat (.tup ((Ax x r).map .int)))|_=>none
 |_=>none
noncomputable def jt:D->Bool
 |.int _=>true|_=>false
noncomputable def iz:D->Bool
 |.tup (.int _::_)=>true|_=>false
noncomputable def oA(lt:Nat->Nat->Option Bool)(xs:List D):Option (List D):=if xs.length<2 then some xs else if xs.length<64 then (match L2.bM lt (PySem.W.kas_sort xs.length) with
  |some p=>if p.size=xs.length then some (p.toList.map λi=>xs.getD i .non) else none|none=>none) else none
noncomputable def uR(xs:List D):Option (List D):=if xs.all jt||xs.all iz then oA (uQ xs) xs else none
noncomputable def mU:List D->Option Rz
 |[.fl xs]=>(uR xs).map .nw|_=>none
noncomputable def ltK(ks:List Int)(i j:Nat):Option Bool:=match ks[i]?,ks[j]? with
 |some x,some y=>some (decide (x<y))|_,_=>none
noncomputable def T6:List D->Option Rz
 |[.tup xs]=>some (.dat (.tup xs.reverse))|_=>none
noncomputable def pW:List D->Option Rz
 |[.fl xs,d]=>(memD d xs).map λ_=>.dat (.int (rO d xs:Nat))|_=>none
noncomputable def pX:List D->Option Rz
 |[.fl xs,.bl b]=>((fK xs).bind λbs=>bs.idxOf? b).map λ(i:Nat)=>.dat (.int i)|_=>none
noncomputable def T7:List D->Option Rz
 |[.int i]=>if i.natAbs<2^62 then some (.dat (.str (Str.ofString (toString i)))) else none|_=>none
noncomputable def mV(f:D->Option PyData):List D->Option (List PyData)
 |[]=>some []|x::r=>match f x,mV f r with
  |some a,some b=>some (a::b)|_,_=>none
noncomputable def pd:Nat->D->Option PyData
 |n+1,.tup xs=>(mV (pd n) xs).map .tuple|n+1,.fl xs=>(mV (pd n) xs).map .list|_,.non=>some .none|_,.bl b=>some (.bool b)|_,.int i=>some (.int i)|_,.str x=>some (.str x)|_,_=>none
noncomputable def pe:Nat->D->Option PyData
 |n+1,.tup xs=>(mV (pe n) xs).map .tuple|n+1,.fd [.str k] [.int i]=>some (.dict [(.str k,.int i)])|_,.non=>some .none|_,.bl b=>some (.bool b)|_,.int i=>some (.int i)|_,.str x=>some (.str x)|_,_=>none
noncomputable def T8(a b:Option PyData):Option PyData:=match a with
 |some d=>some d|none=>b
noncomputable def Gn:D->Option PyData
 |.fd [.str k] [.int i]=>some (.dict [(.str k,.int i)])|x=>T8 (pd 40 x) (pe 40 x)
noncomputable def Gp(d:PyData):Option Rz:=if d.showable=true/\d.shown.length<=sizeLine then some (.dat (.str d.shown)) else none
noncomputable def uU:List D->Option Rz
 |[x]=>(Gn x).bind Gp|_=>none
noncomputable def Az:List (Int×Int):=[(0,1),(0,2),(0,3),(0,4),(0,5),(0,6),(0,7),(1,2),(1,3),(1,4),(1,5),(1,6),(1,7),(2,3),(2,4),(2,5),(2,6),(2,7),(3,4),(3,5),(3,6),(3,7),(4,5),(4,6),(4,7),(5,6),(5,7),(6,7)]
noncomputable def ss(ts:List (Int×Int)):List (Int×Int):=Az.filter λt=>ts.contains t
noncomputable def T9:D->Option (Int×Int)
 |.tup [.int a,.int b]=>if 0<=a/\a<b/\b<8 then some (a,b) else none|_=>none
noncomputable def A_:List D->Option (List (Int×Int))
 |[]=>some []|x::r=>match T9 x,A_ r with
  |some a,some b=>some (a::b)|_,_=>none
noncomputable def pSs:List D->Option Rz
 |[.tup xs]=>(A_ xs).map λts=>.nw ((ss ts).map λp=>.tup [.int p.1,.int p.2])|_=>none
noncomputable def jy(is:List Int):Bool:=decide (is.length<=1000)&&is.all λi=>decide (-1000000<=i/\i<=1000000)
noncomputable def oE(is:List Int):Option Rz:=match jy is with
 |true=>some (.dat (.int is.sum))|false=>none
noncomputable def Kf:List D->Option Rz
 |[a]=>(dX a).bind λxs=>(aJ xs).bind oE|_=>none
noncomputable def aO:List Int->List Int
 |[]=>[]|x::r=>if r.contains x then aO r else x::aO r
noncomputable def rQ(x:Int):Bool:=decide (-1<=x/\x<=34)||decide (100000000000000000000<=x/\x<=100000000000000000034)
noncomputable def wD(is:List Int):Bool:=decide (is.length<=18)&&is.all rQ
noncomputable def lM(is:List Int):Option Rz:=match wD is with
 |true=>some (.dat (.int (aO is).length))|false=>none
noncomputable def uV:List D->Option Rz
 |[.tup xs]=>(aJ xs).bind lM|_=>none
noncomputable def T_(is:List Int):Option Rz:=match wD is with
 |true=>some (.nw ((sortI (aO is)).map .int))|false=>none
noncomputable def Ua:List D->Option Rz
 |[.tup xs]=>(aJ xs).bind T_|_=>none
noncomputable def yH:List D->Option Rz
 |[.fl xs,.int i]=>((aJ xs).bind λis=>is.idxOf? i).map λ(k:Nat)=>.dat (.int k)|_=>none
noncomputable def rep{α:Type}(xs:List α)(n:Nat):List α:=(List.replicate n xs).flatten
noncomputable def Kg:List D->Option Rz
 |[.fl xs,.int n]=>if 0<=n/\n<=1000/\xs.length<=1000 then some (.nw (rep xs n.toNat)) else none|_=>none
noncomputable def DG:List D->Option Rz
 |[.tup xs]=>if xs.all jt=true then (uR xs).map .nw else none|_=>none
noncomputable def Kh:List D->Option Rz
 |[.tup xs,.int n]=>if 1<=n/\n<=1000/\1<=xs.length/\xs.length<=1000 then some (.dat (.tup (rep xs n.toNat))) else none|_=>none
noncomputable def yI(xs ys:List D):List D:=List.zipWith (λp q=>.tup [p,q]) xs ys
noncomputable def Ba(xs ys:List D):Option Rz:=if xs.length<=65536 then some (.nw (yI xs ys)) else none
noncomputable def Bb:List D->Option Rz
 |[a,b]=>match dX a,dX b with
  |some xs,some ys=>Ba xs ys|_,_=>none
 |_=>none
noncomputable def Kl:List D->Option Rz
 |[.fl xs]=>some (.nw (xs.drop 1).reverse)|_=>none
noncomputable def D.Bc(b:Bool):D->Bool
 |.bl c=>b==c|_=>false
noncomputable def DK(b:Bool)(f:Bool->Bool):List D->Option Rz
 |[a]=>some (.dat (.bl (f (a.Bc b))))|_=>none
noncomputable def J8:List D->Option Nat
 |[]=>none|.tup []::_=>some 0|.tup (_::_)::r=>(J8 r).map (·+1)|.non::r=>(J8 r).map (·+1)|_=>none
noncomputable def Ub:List D->Option Rz
 |[.tup xs,.tup []]=>(J8 xs).map λ(i:Nat)=>.dat (.int i)|_=>none
noncomputable def Km:D->Option Bool
 |.non=>some false|.bl b=>some b|.int i=>some (i != 0)|.tup xs=>some (!xs.isEmpty)|.fl xs=>some (!xs.isEmpty)|_=>none
noncomputable def prim:Pr->List D->Option Rz
 |.add=>Dw|.ao=>cD λi j=>some (.int (i-j))|.mul=>cD λi j=>if (-(2^64)<i/\i<2^64)\/(-(2^64)<j/\j<2^64) then some (.int (i*j)) else none|.fdiv=>cD λi j=>if 0<j/\j<1073741824 then some (.int (i/j)) else none|.mod=>cD λi j=>if 0<j then some (.int (i%j)) else none|.pow=>cD λi j=>if 0<=j/\j<=1000000/\i.natAbs<2^64 then some (.int (i^j.toNat)) else none|.neg=>qK λi=>.int (-i)|.eq=>Av id|.ne=>Av not|.lt=>Ka|.le=>cD λi j=>some (.bl (decide (i<=j)))|.gt=>cD λi j=>some (.bl (decide (j<i)))|.ge=>cD λi j=>some (.bl (decide (j<=i)))|.inn=>yG id|.nin=>yG not|.J1=>Dy id|.J3=>Dy not|.len=>rP λxs=>some (.dat (.int xs.length))|.abs=>qK λi=>.int (if i<0 then -i else i)|.max2=>cD λi j=>some (.int (if j>i then j else i))|.min2=>cD λi j=>some (.int (if j<i then j else i))|.yF=>Kc|.divmod=>cD λi j=>if 0<j/\j<1073741824 then some (.tup [.int (i/j),.int (i%j)]) else none|.all=>Dz|.rgl=>T3|.J5=>qL λa b=>decide (a>b)|.rM=>qL λa b=>decide (a<b)|.J6=>Ke|.rgt=>T4|.list=>rP λxs=>some (.nw xs)|.tuple=>pU|.ix=>T5|.rev=>T6|.sorted=>mU|.qJ=>pSs|.J7=>Kg|.mult=>Kh|.Ar=>DG|.sum=>Kf|.gw=>uV|.count=>pW|.index=>pX|.repr=>uU|.str1=>T7|.Pq=>cD λi j=>some (.bl (!decide (0<=i/\i<j)))|.uO=>Bb|.TQ=>Kl|.shl=>cD λi j=>if 0<=j/\j<=64/\i.natAbs<2^64 then some (.int (i*2^j.toNat)) else none|.shr=>cD λi j=>if 0<=j/\j<=64/\0<=i then some (.int (i/2^j.toNat)) else none|.band=>cD λi j=>if j=1/\0<=i then some (.int (i%2)) else none|.isT=>DK true id|.noT=>DK true not|.isF=>DK false id|.J8=>Ub|.Du=>Ua|.Dv=>yH
noncomputable def lN(ao:Nat->Nat->Bool):D->Kd->Option Bool
 |.exc c _,.cls e=>some (ao c e)|.exc _ _,.pQ=>some true|.exc _ _,_=>none|.ob _ _,_=>none|.any,_=>none|_,.cls _=>none|_,.pQ=>none|.bl _,.bool=>some true|.bl _,.int=>some true|.bl _,_=>some false|.int _,.int=>some true|.int _,_=>some false|.non,_=>some false|.str _,.str=>some true|.str _,_=>some false|.tup _,.tuple=>some true|.tup _,_=>some false|.fl _,.list=>some true|.fl _,_=>some false|.fd _ _,.dict=>some true|.fd _ _,_=>some false
noncomputable def rd(x:Xv):M D:=λs=>match x with
 |.d v=>some (.ok v,s)|.l n=>match s[n]? with
  |some (.lst xs)=>some (.ok (.fl xs),s)|_=>none
noncomputable def gM:List Xv->M (List D)
 |[]=>M.ret []|x::r=>M.bd (rd x) λd=>M.bd (gM r) λds=>M.ret (d::ds)
noncomputable def dat(x:Xv):M D:=match x with
 |.d v=>M.ret v|.l _=>M.no
noncomputable def fV:List Xv->M (List D)
 |[]=>M.ret []|x::r=>M.bd (dat x) λd=>M.bd (fV r) λds=>M.ret (d::ds)
noncomputable def bool(x:Xv):M Bool:=match x with
 |.d (.bl b)=>M.ret b|_=>M.no
noncomputable def int(x:Xv):M Int:=match x with
 |.d (.int b)=>M.ret b|_=>M.no
noncomputable def newL(fz:Bool)(xs:List D):M Xv:=match fz with
 |true=>M.ret (.d (.fl xs))|false=>λs=>some (.ok (.l s.length),s++[.lst xs])
noncomputable def bN(fz:Bool)(o:Option Rz):M Xv:=match o with
 |some (.dat d)=>M.ret (.d d)|some (.nw xs)=>newL fz xs|none=>M.no
noncomputable def cT(x:Xv):M (Nat×List D):=λs=>match x with
 |.l n=>match s[n]? with
  |some (.lst xs)=>some (.ok (n,xs),s)|_=>none
 |_=>none
noncomputable def putL(n:Nat)(xs:List D):M Unit:=λs=>some (.ok (),s.set n (.lst xs))
noncomputable def Uc:D->Option Kx
 |.non=>some .non|.int i=>some (.int i)|.tup xs=>(gA xs).map .row|_=>none
noncomputable def kxs:List D->Option (List Kx)
 |[]=>some []|x::r=>match Uc x,kxs r with
  |some a,some b=>some (a::b)|_,_=>none
noncomputable def kOf:D->Option (List Kx)
 |.tup xs=>kxs xs|_=>none
noncomputable abbrev wF:=List (List Kx×D)
noncomputable def yJ(k:List Kx):wF->Option D
 |[]=>none|p::r=>if p.1=k then some p.2 else yJ k r
noncomputable def Ud(k:List Kx)(d:D)(r:wF):wF:=if (yJ k r).isSome=true then r.map λp=>if p.1=k then (p.1,d) else p else r++[(k,d)]
noncomputable def uW(x:Xv):M (Nat×wF):=λs=>match x with
 |.l n=>match s[n]? with
  |some (.dct kvs)=>some (.ok (n,kvs),s)|_=>none
 |_=>none
noncomputable def putD(n:Nat)(kvs:wF):M Unit:=λs=>some (.ok (),s.set n (.dct kvs))
noncomputable def key(x:Xv):M (List Kx):=match x with
 |.d v=>M.opt (kOf v)|.l _=>M.no
noncomputable def enumFrom:Nat->List D->List D
 |_,[]=>[]|i,x::r=>.tup [.int i,x]::enumFrom (i+1) r
inductive Src where
 |fix (xs:List D)|live (n:Nat)|lO (n:Nat)
noncomputable def Src.at(c:Src)(i:Nat)(s:S):Option (Option D):=match c with
 |.fix xs=>some xs[i]?|.live n=>match s[n]? with
  |some (.lst xs)=>some xs[i]?|_=>none
 |.lO n=>match s[n]? with
  |some (.lst xs)=>some (xs[i]?.map λx=>.tup [.int i,x])|_=>none
noncomputable def qM(x:Xv):M (Src×Nat):=λs=>match x with
 |.d (.tup xs)=>some (.ok (.fix (enumFrom 0 xs),(enumFrom 0 xs).length),s)|.d (.fl xs)=>some (.ok (.fix (enumFrom 0 xs),(enumFrom 0 xs).length),s)|.l n=>match s[n]? with
  |some (.lst xs)=>some (.ok (.lO n,xs.length),s)|_=>none
 |_=>none
noncomputable def src(x:Xv):M (Src×Nat):=λs=>match x with
 |.d (.tup xs)=>some (.ok (.fix xs,xs.length),s)|.d (.fl xs)=>some (.ok (.fix xs,xs.length),s)|.l n=>match s[n]? with
  |some (.lst xs)=>some (.ok (.live n,xs.length),s)|_=>none
 |_=>none
noncomputable def pY(x:Xv):M (List D):=match x with
 |.d (.tup xs)=>M.ret xs|.d (.fl xs)=>M.ret xs|_=>M.no
noncomputable def jh(a b:Int):List D:=(List.range (b-a).toNat).map λ(i:Nat)=>.int (a+i)
noncomputable def gB(a:Int):Bool:=decide (-(2^62)<a)&&decide (a<2^62)
noncomputable def walk(c:Src)(f:D->List D->M (List D)):Nat->Nat->List D->M (List D)
 |0,_,_=>M.no|k+1,i,acc=>λs=>match c.at i s with
  |none=>none|some none=>some (.ok acc,s)|some (some x)=>M.bd (f x acc) (λacc'=>walk c f k (i+1) acc') s
noncomputable def Bf(f:D->M Xv):List D->Option (List Int)
 |[]=>some []|x::r=>match f x [] with
  |some (.ok (.d (.int k)),[])=>(Bf f r).map (k::·)|_=>none
noncomputable abbrev Vs:=List (Option Xv)
noncomputable abbrev Fn:=Nat->List Xv->M Xv
noncomputable def locs:List Xv->List Nat
 |[]=>[]|.d _::r=>locs r|.l n::r=>n::locs r
noncomputable def eF:Nat->List Xv->List Xv
 |_,[]=>[]|k,.d v::r=>.d v::eF k r|k,.l _::r=>.l k::eF (k+1) r
noncomputable def ju(s:S):List Nat->Option S
 |[]=>some []|n::r=>match s[n]?,ju s r with
  |some o,some q=>some (o::q)|_,_=>none
noncomputable def dB(s:S):List Nat->S->S
 |n::r,o::q=>dB (s.set n o) r q|_,_=>s
noncomputable def cG(F:List Xv->M Xv)(xs:List Xv):M Xv:=λs=>
 if (locs xs).Nodup then match ju s (locs xs) with
  |none=>none|some s0=>match F (eF 0 xs) s0 with
   |none=>none|some (.er c fs,s1)=>some (.er c fs,dB s (locs xs) s1)|some (.ok (.d v),s1)=>some (.ok (.d v),dB s (locs xs) s1)|some (.ok (.l n),s1)=>match (locs xs)[n]? with
    |some m=>some (.ok (.l m),dB s (locs xs) s1)|none=>match s1[n]? with
     |some o=>some (.ok (.l s.length),dB s (locs xs) s1++[o])|none=>none
 else none
noncomputable def mkW(F:List Xv->M Xv)(c:Nat)(vs:List Xv):M Xv:=λs=>
 if locs vs=[] then match F (.d .any::vs) [] with
  |some (.ok (.d (.tup ds)),_)=>some (.ok (.d (.ob c ds)),s)|_=>none
 else none
noncomputable def Ko(c:Nat)(x:Xv):M (List D):=match x with
 |.d (.ob e fs)=>if e=c then M.ret fs else M.no|_=>M.no
noncomputable def iB{α:Type}:List Nat->List α->List (Option α)->Option (List (Option α))
 |[],[],J=>some J|i::is,d::ds,J=>iB is ds (J.set i (some d))|_,_,_=>none
noncomputable def lQ:D->Option (List D)
 |.tup xs=>some xs|_=>none
noncomputable def gZ(tg:List Nat)(x:D)(J:Vs):Option Vs:=match tg with
 |[i]=>some (J.set i (some (.d x)))|is=>(lQ x).bind λds=>iB is (ds.map .d) J
noncomputable def blk(many:Nat)(fr:List Nat)(J:Vs):Vs:=List.replicate many none++fr.map λj=>J[j]?.join
section
variable (ao:Nat->Nat->Bool)(aj:Bool)(F:Fn)
mutual
noncomputable def ev:E->Vs->M Xv
 |.c d,_=>M.ret (.d d)|.v i,J=>M.opt (J[i]?.join)|.pr fz p xs,J=>M.bd (evs xs J) λvs=>M.bd (gM vs) λds=>bN fz (prim p ds)|.yC p q a b c,J=>M.bd (ev a J) λx=>M.bd (ev b J) λy=>M.bd (gM [x,y]) λds=>M.bd (bN true (prim p ds)) λt=>M.bd (bool t) λk=>
   if k=true then M.bd (ev c J) λz=>M.bd (gM [y,z]) λds=>bN true (prim q ds) else M.ret (.d (.bl false))
 |.ch3 p q r a b c d,J=>M.bd (ev a J) λx=>M.bd (ev b J) λy=>M.bd (gM [x,y]) λds=>M.bd (bN true (prim p ds)) λt=>M.bd (bool t) λk=>
   if k=true then M.bd (ev c J) λz=>M.bd (gM [y,z]) λds=>M.bd (bN true (prim q ds)) λt=>M.bd (bool t) λk2=>
    if k2=true then M.bd (ev d J) λw=>M.bd (gM [z,w]) λds=>bN true (prim r ds) else M.ret (.d (.bl false))
   else M.ret (.d (.bl false))
 |.and a b,J=>M.bd (ev a J) λx=>M.bd (bool x) λk=>if k=true then ev b J else M.ret (.d (.bl false))|.or a b,J=>M.bd (ev a J) λx=>M.bd (bool x) λk=>if k=true then M.ret (.d (.bl true)) else ev b J|.not a,J=>M.bd (ev a J) λx=>M.bd (bool x) λk=>M.ret (.d (.bl (!k)))|.ite c a b,J=>M.bd (ev c J) λx=>M.bd (bool x) λk=>if k=true then ev a J else ev b J|.tup xs,J=>M.bd (evs xs J) λvs=>M.bd (fV vs) λds=>M.ret (.d (.tup ds))|.lst fz xs,J=>M.bd (evs xs J) λvs=>M.bd (fV vs) λds=>newL fz ds|.uP k i,_=>M.ret (.d (.fd [.str k] [.int i]))|.call f xs,J=>M.bd (evs xs J) λvs=>cG (F f) vs|.iy a k,J=>M.bd (ev a J) λx=>M.bd (rd x) λd=>M.bd (M.opt (lN ao d k)) λb=>M.ret (.d (.bl b))|.sl fz a lo hi,J=>M.bd (ev a J) λx=>M.bd (yK lo J) λl=>M.bd (yK hi J) λh=>M.bd (rd x) λd=>bN fz (cutD d l h)|.meth fz p k o xs,J=>M.bd (ev o J) λx=>M.bd (rd x) λd=>if pR k d=true then M.bd (evs xs J) λys=>M.bd (gM (x::ys)) λds=>bN fz (prim p ds) else M.no|.push o a,J=>M.bd (ev o J) λx=>M.bd (cT x) λ_=>M.bd (ev a J) λy=>M.bd (dat y) λd=>M.bd (cT x) λnx=>if nx.2.length<sizeLine then M.bd (putL nx.1 (nx.2++[d])) λ_=>M.ret (.d .non) else M.no|.pop o,J=>M.bd (ev o J) λx=>M.bd (cT x) λnx=>match nx.2.getLast? with
   |some d=>M.bd (putL nx.1 nx.2.dropLast) λ_=>M.ret (.d d)|none=>M.no
 |.comp fz elt tg it fr many cond,J=>if aj=true then M.bd (mW it J) λcn=>
   M.bd (walk cn.1 (λd acc=>M.bd (M.opt (gZ tg d (blk many fr J))) λJ'=>M.bd (M.qt (qN cond J')) λok=>
    if ok=true then M.bd (M.qt (ev elt J')) λy=>M.bd (dat y) λe=>if acc.length<sizeLine then M.ret (acc++[e]) else M.no else M.ret acc) (cn.2+1) 0 []) λxs=>newL fz xs
  else M.no
 |.J9 fz elt tg it tg2 Gm fr many cond,J=>if aj=true then M.bd (mW it J) λcn=>
   M.bd (walk cn.1 (λd acc=>M.bd (M.opt (gZ tg d (blk many fr J))) λJ'=>M.bd (M.qt (mW Gm J')) λcn2=>
    walk cn2.1 (λd2 acc=>M.bd (M.opt (gZ tg2 d2 J')) λJ''=>M.bd (M.qt (qN cond J'')) λok=>
     if ok=true then M.bd (M.qt (ev elt J'')) λy=>M.bd (dat y) λe=>if acc.length<sizeLine then M.ret (acc++[e]) else M.no else M.ret acc) (cn2.2+1) 0 acc) (cn.2+1) 0 []) λxs=>newL fz xs
  else M.no
 |.fld o cs i,J=>M.bd (ev o J) λx=>match x with
   |.d (.exc c fs)=>if cs.contains c=true then M.opt (fs[i]?.map .d) else M.no|_=>M.no
 |.of o c i,J=>M.bd (ev o J) λx=>M.bd (Ko c x) λfs=>M.opt (fs[i]?.map .d)|.mk c f xs,J=>M.bd (evs xs J) λvs=>mkW (F f) c vs|.cm c f o xs,J=>M.bd (ev o J) λx=>M.bd (Ko c x) λ_=>M.bd (evs xs J) λvs=>M.qt (cG (F f) (x::vs))|.TV,_=>λs=>some (.ok (.l s.length),s++[.dct []])|.din b k d,J=>M.bd (ev k J) λx=>M.bd (ev d J) λy=>M.bd (key x) λkx=>M.bd (uW y) λnk=>M.ret (.d (.bl ((yJ kx nk.2).isSome==b)))|.TX d k,J=>M.bd (ev d J) λy=>M.bd (ev k J) λx=>M.bd (key x) λkx=>M.bd (uW y) λnk=>M.opt ((yJ kx nk.2).map .d)|.tru a,J=>M.bd (ev a J) λx=>M.bd (rd x) λd=>M.bd (M.opt (Km d)) λk=>M.ret (.d (.bl k))|.J_ fz a b,J=>if aj=true then M.bd (ev a J) λx=>match x with
   |.d (.fl xs)=>M.bd (M.opt (Bf (λd=>ev b [some (.d d)]) xs)) λks=>M.bd (M.opt (oA (ltK ks) xs)) λys=>newL fz ys|_=>M.no else M.no
 |.orv a b,J=>M.bd (ev a J) λx=>M.bd (rd x) λd=>M.bd (M.opt (Km d)) λk=>if k=true then M.ret x else ev b J|.ins o i a,J=>M.bd (ev o J) λx=>M.bd (cT x) λ_=>M.bd (ev i J) λz=>M.bd (int z) λj=>M.bd (ev a J) λy=>M.bd (dat y) λd=>M.bd (cT x) λnx=>if 0<=j/\j<=nx.2.length/\nx.2.length<sizeLine then M.bd (putL nx.1 (nx.2.take j.toNat++d::nx.2.drop j.toNat)) λ_=>M.ret (.d .non) else M.no|.no,_=>M.no
noncomputable def mW:Wk->Vs->M (Src×Nat)
 |.seq e,J=>M.bd (ev e J) src|.rg a b,J=>M.bd (ev a J) λx=>M.bd (ev b J) λy=>M.bd (int x) λi=>M.bd (int y) λj=>if gB i&&gB j then M.ret (.fix (jh i j),(jh i j).length) else M.no|.zip a b,J=>M.bd (ev a J) λx=>M.bd (ev b J) λy=>M.bd (pY x) λxs=>M.bd (pY y) λys=>M.ret (.fix (List.zipWith (λp q=>.tup [p,q]) xs ys),(List.zipWith (λ(p q:D)=>D.tup [p,q]) xs ys).length)|.enum a,J=>M.bd (ev a J) qM|.rrg a,J=>M.bd (ev a J) λx=>M.bd (int x) λi=>if gB i then M.ret (.fix (jh 0 i).reverse,(jh 0 i).length) else M.no
noncomputable def yK:Eo->Vs->M (Option Int)
 |.no,_=>M.ret none|.yes a,J=>M.bd (ev a J) λx=>M.bd (int x) λi=>M.ret (some i)
noncomputable def qN:Eo->Vs->M Bool
 |.no,_=>M.ret true|.yes a,J=>M.bd (ev a J) bool
noncomputable def evs:Es->Vs->M (List Xv)
 |.nil,_=>M.ret []|.cons a r,J=>M.bd (ev a J) λx=>M.bd (evs r J) λxs=>M.ret (x::xs)
end
end
inductive Out where
 |nx (J:Vs)|rt (x:Xv)|bk (J:Vs)|ct (J:Vs)|er (c:Nat) (fs:List D) (J:Vs)
noncomputable abbrev MS:=S->Option (Out×S)
noncomputable def ofM{α:Type}(m:M α)(J:Vs)(k:α->MS):MS:=λs=>match m s with
 |some (.ok a,s')=>k a s'|some (.er c fs,s')=>some (.er c fs J,s')|none=>none
noncomputable def cU(m:MS)(k:Vs->MS):MS:=λs=>match m s with
 |some (.nx J,s')=>k J s'|r=>r
section
variable (ao:Nat->Nat->Bool)
noncomputable def store(aj:Bool)(F:Fn)(t:Tg)(x:Xv)(J:Vs):MS:=match t with
 |.nm i=>λs=>some (.nx (J.set i (some x)),s)|.tp is=>if aj=true then ofM (M.bd (dat x) λd=>M.opt ((lQ d).bind λds=>iB is (ds.map .d) J)) J (λJ' s=>some (.nx J',s)) else λ_=>none|.ao o i=>ofM (M.bd (dat x) λd=>M.bd (ev ao aj F o J) λy=>M.bd (ev ao aj F i J) λz=>M.bd (int z) λj=>M.bd (cT y) λnx=>
   match L2.tD nx.2.length j with
   |some q=>putL nx.1 (nx.2.set q d)|none=>M.no) J (λ_ s=>some (.nx J,s))
noncomputable def iC(c:Vs->M Bool)(b:Vs->MS):Nat->Vs->MS
 |0,_=>λ_=>none|k+1,J=>ofM (c J) J λok=>if ok=true then λs=>match b J s with
   |some (.nx J',s')=>iC c b k J' s'|some (.ct J',s')=>iC c b k J' s'|some (.bk J',s')=>some (.nx J',s')|r=>r
  else λs=>some (.nx J,s)
noncomputable def cZ(c:Src)(b:D->Vs->MS):Nat->Nat->Vs->MS
 |0,_,_=>λ_=>none|k+1,i,J=>λs=>match c.at i s with
  |none=>none|some none=>some (.nx J,s)|some (some d)=>match b d J s with
   |some (.nx J',s')=>cZ c b k (i+1) J' s'|some (.ct J',s')=>cZ c b k (i+1) J' s'|some (.bk J',s')=>some (.nx J',s')|r=>r
noncomputable def goes(i:Nat):Out->Out
 |.nx J=>.nx (J.set i none)|.bk J=>.bk (J.set i none)|.ct J=>.ct (J.set i none)|r=>r
noncomputable def j8:Nat:=1000000000000
mutual
noncomputable def ex(aj:Bool)(F:Bool->Fn):St->Vs->MS
 |.pass,J=>λs=>some (.nx J,s)|.ex e,J=>ofM (ev ao aj (F aj) e J) J λ_ s=>some (.nx J,s)|.asg t e,J=>ofM (ev ao aj (F aj) e J) J λx=>store ao aj (F aj) t x J|.par i j a b,J=>if aj=true then ofM (M.bd (ev ao aj (F aj) a J) λx=>M.bd (ev ao aj (F aj) b J) λy=>M.ret (x,y)) J λxy s=>some (.nx ((J.set i (some xy.1)).set j (some xy.2)),s) else λ_=>none|.aug i e,J=>ofM (M.bd (M.opt (J[i]?.join)) λx=>M.bd (ev ao aj (F aj) e J) λy=>M.bd (int x) λp=>M.bd (int y) λq=>M.ret (p+q)) J λr s=>some (.nx (J.set i (some (.d (.int r)))),s)|.ret e,J=>ofM (ev ao aj (F aj) e J) J λx s=>some (.rt x,s)|.rise c kp xs,J=>if aj=true then ofM (M.bd (evs ao aj (F aj) xs J) fV) J λds s=>some (.er c (if kp=true then ds else []) J,s) else λ_=>none|.iff c t e,J=>ofM (M.bd (ev ao aj (F aj) c J) bool) J λb=>if b=true then exs aj F t J else exs aj F e J|.wh c b,J=>iC (λJ=>M.bd (ev ao aj (F aj) c J) bool) (λJ=>exs aj F b J) j8 J|.fr t w b,J=>if aj=true then ofM (mW ao aj (F aj) w J) J λcn=>cZ cn.1 (λd J=>cU (store ao aj (F aj) t (.d d) J) λJ'=>exs aj F b J') (cn.2+1) 0 J else λ_=>none|.rN b d i h,J=>if aj=true then λs=>match exs aj F b J s with
   |some (.er c fs J',s')=>if ao c d=true then (match exs false F h (J'.set i (some (.d (.exc c fs)))) s' with
    |some (r,s'')=>(match r with
     |.er _ _ _=>none|r=>some (goes i r,s''))
    |none=>none) else none
   |r=>r
  else λ_=>none
 |.dput d k v,J=>ofM (M.bd (ev ao aj (F aj) v J) λz=>M.bd (dat z) λw=>M.bd (ev ao aj (F aj) d J) λy=>M.bd (ev ao aj (F aj) k J) λx=>M.bd (key x) λkx=>M.bd (uW y) λnk=>if nk.2.length<sizeLine then putD nk.1 (Ud kx w nk.2) else M.no) J (λ_ s=>some (.nx J,s))|.no,_=>λ_=>none
noncomputable def exs(aj:Bool)(F:Bool->Fn):b_->Vs->MS
 |.nil,J=>λs=>some (.nx J,s)|.cons a r,J=>cU (ex aj F a J) λJ'=>exs aj F r J'
end
structure Df where
 many:Nat
 iY:Nat
 body:b_
noncomputable def call(T:Nat->Option Df):Nat->Bool->Fn
 |0,_,_,_=>M.no|k+1,aj,f,xs=>match T f with
  |none=>M.no|some d=>if xs.length=d.iY then λs=>match exs ao aj (λc=>call T k c) d.body (xs.map some++List.replicate (d.many-d.iY) none) s with
    |some (.nx _,s')=>some (.ok (.d .non),s')|some (.rt v,s')=>some (.ok v,s')|some (.er c fs _,s')=>some (.er c fs,s')|_=>none
   else M.no
end
end Mi
namespace Mi
open PySem L2
structure Ph where
 z:Addr->Prop
 l:List Addr
structure Cl where
 a:Nat->Addr
 f:Nat->List Str
 b:Nat->Addr
 g:Nat->List Str
section
variable (K:W.Frag)(cA:Cl)
def KT(a:Addr)(vs:List V):Prop:=fQ K (λ_=>none) a vs
def KL(a:Addr)(vs:List V):Prop:=cY K (λ_=>none) a vs
def TupAt(U:Ph)(H:Hp)(a:Addr)(vs:List V):Prop:=(Rd H a (.tup vs)/\¬U.z a)\/KT K a vs
def LstAt(U:Ph)(H:Hp)(a:Addr)(vs:List V):Prop:=(Rd H a (.lst vs)/\¬U.z a)\/KL K a vs
def ExcAt(U:Ph)(H:Hp)(a:Addr)(c:Nat)(vs:List V):Prop:=¬U.z a/\((cA.f c=[]/\vs=[]/\H a=some (jZ a (cA.a c) none))\/∃dx,H a=some (jZ a (cA.a c) (some dx))/\¬U.z dx/\H dx=some (.xd ((cA.f c).zip vs))/\(cA.f c).length=vs.length)
def pZ(U:Ph)(H:Hp)(a:Addr)(c:Nat)(vs:List V):Prop:=¬U.z a/\∃dx,H a=some (.ins (cA.b c) dx ((cA.g c).zip vs))/\(cA.g c).length=vs.length
mutual
inductive Rep (U:Ph) (H:Hp):D->V->Prop where
 |non:Rep U H .non .non
 |bl (b:Bool):Rep U H (.bl b) (.bl b)
 |int (i:Int):Rep U H (.int i) (.int i)
 |str (x:Str):Rep U H (.str x) (.str x)
 |tup {a:Addr} {xs:List D} {vs:List V} (h:TupAt K U H a vs) (r:aD U H xs vs):Rep U H (.tup xs) (.ref a)
 |fl {a:Addr} {xs:List D} {vs:List V} (h:LstAt K U H a vs) (r:aD U H xs vs):Rep U H (.fl xs) (.ref a)
 |fd {a:Addr} {k:Str} {i:Int} (h:H a=some (.dK [(.inr k,.int i)])) (n:¬U.z a):Rep U H (.fd [.str k] [.int i]) (.ref a)
 |exc {a:Addr} {c:Nat} {xs:List D} {vs:List V} (h:ExcAt cA U H a c vs) (r:aD U H xs vs):Rep U H (.exc c xs) (.ref a)
 |ob {a:Addr} {c:Nat} {xs:List D} {vs:List V} (h:pZ cA U H a c vs) (r:aD U H xs vs):Rep U H (.ob c xs) (.ref a)
 |any (a:Addr):Rep U H .any (.ref a)
inductive aD (U:Ph) (H:Hp):List D->List V->Prop where
 |nil:aD U H [] []
 |cons {d:D} {v:V} {ds:List D} {vs:List V} (h:Rep U H d v) (r:aD U H ds vs):aD U H (d::ds) (v::vs)
end
inductive bJ (U:Ph) (H:Hp):Xv->V->Prop where
 |d {x:D} {v:V} (h:Rep K cA U H x v):bJ U H (.d x) v
 |l {n:Nat} {a:Addr} (h:U.l[n]?=some a):bJ U H (.l n) (.ref a)
inductive cH (U:Ph) (H:Hp):List Xv->List V->Prop where
 |nil:cH U H [] []
 |cons {d:Xv} {v:V} {ds:List Xv} {vs:List V} (h:bJ K cA U H d v) (r:cH U H ds vs):cH U H (d::ds) (v::vs)
noncomputable def kxH:Kx->Int
 |.non=>reduceHash 0xFCA86420|.int i=>hashInt i|.row is=>reduceHash (Builtin.Tuple.tupleHashOf (is.map hashInt))
noncomputable def Kp(k:List Kx):Int:=reduceHash (Builtin.Tuple.tupleHashOf (k.map kxH))
noncomputable def kxD:Kx->D
 |.non=>.non|.int i=>.int i|.row is=>.tup (is.map .int)
noncomputable def Ue(k:List Kx):D:=.tup (k.map kxD)
noncomputable abbrev rR:=List (List Kx×Addr×Value)
noncomputable def DcO(a:Addr)(xs:rR):HO:=.ext λh=>(a==sysModules)=false/\xs.length<=sizeLine/\∃o es ep,h.get? a=some o/\o.ExactDict/\o.data=.dict es ep/\es.toList=xs.map (λx=>⟨Kp x.1,.ref x.2.1,x.2.2⟩)/\(xs.map (·.1)).Nodup
inductive DN (U:Ph) (H:Hp):wF->rR->Prop where
 |nil:DN U H [] []
 |cons {k:List Kx} {d:D} {ka:Addr} {u:Value} {v:V} {r:wF} {xs:rR} (hk:Rep K cA U H (Ue k) (.ref ka)) (hu:RelV v u) (hv:Rep K cA U H d v) (q:DN U H r xs):DN U H ((k,d)::r) ((k,ka,u)::xs)
noncomputable def kO(U:Ph)(H:Hp)(a:Addr):SO->Prop
 |.lst xs=>∃vs,H a=some (.lst vs)/\aD K cA U H xs vs|.dct kvs=>∃xs,H a=some (DcO a xs)/\DN K cA U H kvs xs
structure aK(U:Ph)(H:Hp)(s:S):Prop where
 len:U.l.length=s.length
 obj:∀(n:Nat) o a,s[n]?=some o->U.l[n]?=some a->kO K cA U H a o
 uniq:U.l.Nodup
 lz:∀a∈U.l,U.z a
 zt:∀a,U.z a->∃o,H a=some o
structure Ext(U:Ph)(H:Hp)(U':Ph)(H':Hp):Prop where
 more:∃r,U'.l=U.l++r/\∀b∈r,H b=none
 wG:∀a,U.z a->U'.z a
 oF:∀a,U'.z a->U.z a\/H a=none
 frame:∀a o,H a=some o->a∉U.l->H' a=some o
 stay:∀a o,H a=some o->∃o',H' a=some o'
def bF(U:Ph)(H:Hp)(Z:L2.St)(J:Vs):Prop:=Z.length=J.length/\∀(i:Nat) (x:Xv),J[i]?=some (some x)->∃v,Z[i]?=some (some v)/\bJ K cA U H x v
end
section
variable {K:W.Frag}{cA:Cl}{U U' Ug:Ph}{H H' Kq:Hp}{s:S}{Z:L2.St}{J:Vs}
theorem Ext.refl:Ext U H U H:=⟨⟨[],by simp,by simp⟩,λ_ h=>h,λ_ h=>.inl h,λ_ _ h _=>h,λ_ o h=>⟨o,h⟩⟩
theorem Ext.lR(x:Ext U H U' H'){a:Addr}(h:H' a=none):H a=none:=by
 cases e:H a with
 |none=>rfl|some o=>let⟨o',q⟩:=x.stay a o e;rw[h]at q;cases q
theorem Ext.trans(x:Ext U H U' H')(y:Ext U' H' Ug Kq):Ext U H Ug Kq:=by
 let⟨r,e,hr⟩:=x.more;let⟨r',e',wH⟩:=y.more;show⟨⟨r++r',by rw[e',e,Aa],λb hb=>?_⟩,λa h=>y.wG a (x.wG a h),λa h=>?_,λa o h n=>y.frame a o (x.frame a o h n) ?_,λa o h=>?_⟩
 .rcases dw.mp hb with z|z
  .exact hr b z
  .exact x.lR (wH b z)
 .rcases y.oF a h with z|z
  .exact x.oF a z
  .exact .inr (x.lR z)
 .rw[e];intro z;rcases dw.mp z with z|z
  .exact n z
  .rw[hr a z]at h;cases h
 .obtain⟨o',q⟩:=x.stay a o h;show y.stay a o' q
theorem Ext.get(x:Ext U H U' H'){n:Nat}{a:Addr}(h:U.l[n]?=some a):U'.l[n]?=some a:=by
 let⟨r,e,_⟩:=x.more;rw[e,nQ (h_.mp h).1];show h
theorem Ext.out(x:Ext U H U' H')(hz:∀a∈U.l,U.z a){a:Addr}{o:HO}(h:H a=some o)(n:¬U.z a):H' a=some o/\¬U'.z a:=
 ⟨x.frame a o h λz=>n (hz a z),λz=>by
  rcases x.oF a z with y|y
  .exact n y
  .rw[h]at y;cases y⟩
theorem TupAt.mono(x:Ext U H U' H')(hz:∀a∈U.l,U.z a){a:Addr}{vs:List V}(h:TupAt K U H a vs):TupAt K U' H' a vs:=by
 rcases h with ⟨h|⟨o,h⟩,n⟩|h
 .obtain⟨p,q⟩:=x.out hz h n;show .inl ⟨.inl p,q⟩
 .obtain⟨p,q⟩:=x.out hz h n;show .inl ⟨.inr ⟨o,p⟩,q⟩
 .exact .inr h
theorem LstAt.mono(x:Ext U H U' H')(hz:∀a∈U.l,U.z a){a:Addr}{vs:List V}(h:LstAt K U H a vs):LstAt K U' H' a vs:=by
 rcases h with ⟨h|⟨o,h⟩,n⟩|h
 .obtain⟨p,q⟩:=x.out hz h n;show .inl ⟨.inl p,q⟩
 .obtain⟨p,q⟩:=x.out hz h n;show .inl ⟨.inr ⟨o,p⟩,q⟩
 .exact .inr h
theorem ExcAt.mono(x:Ext U H U' H')(hz:∀a∈U.l,U.z a){a:Addr}{c:Nat}{vs:List V}(h:ExcAt cA U H a c vs):ExcAt cA U' H' a c vs:=by
 obtain⟨n,⟨e1,e2,h⟩|⟨dx,h,n2,h2,h3⟩⟩:=h
 .obtain⟨p,q⟩:=x.out hz h n;show⟨q,.inl ⟨e1,e2,p⟩⟩
 .obtain⟨p,q⟩:=x.out hz h n;let⟨p2,q2⟩:=x.out hz h2 n2;show⟨q,.inr ⟨dx,p,q2,p2,h3⟩⟩
theorem pZ.mono(x:Ext U H U' H')(hz:∀a∈U.l,U.z a){a:Addr}{c:Nat}{vs:List V}(h:pZ cA U H a c vs):pZ cA U' H' a c vs:=by
 let⟨n,dx,h,h3⟩:=h;let⟨p,q⟩:=x.out hz h n;show⟨q,dx,p,h3⟩
theorem Rep.mono(x:Ext U H U' H')(hz:∀a∈U.l,U.z a){d:D}{v:V}(h:Rep K cA U H d v):Rep K cA U' H' d v:=
 Rep.rec (motive_1:=λd v _=>Rep K cA U' H' d v) (motive_2:=λd v _=>aD K cA U' H' d v) .non .bl .int .str (λh _ i=>.tup (h.mono x hz) i) (λh _ i=>.fl (h.mono x hz) i) (λh n=>.fd (x.out hz h n).1 (x.out hz h n).2) (λh _ i=>.exc (h.mono x hz) i) (λh _ i=>.ob (h.mono x hz) i) .any .nil (λ_ _ i j=>.cons i j) h
theorem aD.mono(x:Ext U H U' H')(hz:∀a∈U.l,U.z a){d:List D}{v:List V}(h:aD K cA U H d v):aD K cA U' H' d v:=
 aD.rec (motive_1:=λd v _=>Rep K cA U' H' d v) (motive_2:=λd v _=>aD K cA U' H' d v) .non .bl .int .str (λh _ i=>.tup (h.mono x hz) i) (λh _ i=>.fl (h.mono x hz) i) (λh n=>.fd (x.out hz h n).1 (x.out hz h n).2) (λh _ i=>.exc (h.mono x hz) i) (λh _ i=>.ob (h.mono x hz) i) .any .nil (λ_ _ i j=>.cons i j) h
theorem aD.map(m:∀d v,Rep K cA U H d v->Rep K cA U' H' d v):∀{d:List D} {v:List V},aD K cA U H d v->aD K cA U' H' d v:=by
 intro d
 induction d with
 |nil=>intro v h;cases h;show .nil|cons a d ih=>intro v h;cases h with|cons h r=>show .cons (m _ _ h) (ih r)
theorem DN.map(m:∀d v,Rep K cA U H d v->Rep K cA U' H' d v){d:wF}{v:rR}(h:DN K cA U H d v):DN K cA U' H' d v:=by
 induction h with
 |nil=>show .nil|cons a b c _ ih=>show .cons (m _ _ a) b (m _ _ c) ih
theorem kO.map{a:Addr}{o:SO}(h:kO K cA U H a o)(e:∀u,H a=some u->H' a=some u)(m:∀d v,Rep K cA U H d v->Rep K cA U' H' d v):kO K cA U' H' a o:=by
 cases o with
 |lst xs=>let⟨vs,q,r⟩:=h;show⟨vs,e _ q,r.map m⟩|dct xs=>let⟨vs,q,r⟩:=h;show⟨vs,e _ q,r.map m⟩
theorem bJ.mono(x:Ext U H U' H')(hz:∀a∈U.l,U.z a){d:Xv}{v:V}(h:bJ K cA U H d v):bJ K cA U' H' d v:=by
 cases h with
 |d h=>show .d (h.mono x hz)|l h=>show .l (x.get h)
theorem bF.mono(x:Ext U H U' H')(hz:∀a∈U.l,U.z a)(h:bF K cA U H Z J):bF K cA U' H' Z J:=⟨h.1,λi d e=>let ⟨v,a,b⟩:=h.2 i d e;⟨v,a,b.mono x hz⟩⟩
theorem aD.len{ds:List D}{vs:List V}(r:aD K cA U H ds vs):ds.length=vs.length:=by
 induction ds generalizing vs with
 |nil=>cases r;rfl|cons a d ih=>cases r with|cons _ r=>rw[fP,fP,ih r]
theorem cH.len{ds:List Xv}{vs:List V}(r:cH K cA U H ds vs):ds.length=vs.length:=by
 induction r with
 |nil=>rfl|cons _ _ ih=>rw[fP,fP,ih]
theorem aD.get{ds:List D}{vs:List V}{i:Nat}{d:D}(r:aD K cA U H ds vs)(e:ds[i]?=some d):∃v,vs[i]?=some v/\Rep K cA U H d v:=by
 induction ds generalizing vs i with
 |nil=>cases e|cons a ds ih=>
  cases r with
  |cons h r=>cases i with
   |zero=>cases e;show⟨_,rfl,h⟩|succ i=>let⟨w,p,q⟩:=ih r e;show⟨w,p,q⟩
theorem cH.get{ds:List Xv}{vs:List V}{i:Nat}{d:Xv}(r:cH K cA U H ds vs)(e:ds[i]?=some d):∃v,vs[i]?=some v/\bJ K cA U H d v:=by
 induction r generalizing i with
 |nil=>cases e|cons h _ ih=>cases i with
  |zero=>cases e;show⟨_,rfl,h⟩|succ i=>let⟨w,p,q⟩:=ih e;show⟨w,p,q⟩
theorem aD.none:∀{ds:List D} {vs:List V} {i:Nat},aD K cA U H ds vs->ds[i]?=none->vs[i]?=none:=λ{ds vs i} r e=>by
 let:=r.len;let h2:ds.length<=i:=oU.mp e;show oU.mpr gV
theorem aD.app{ds es:List D}{vs us:List V}(h:aD K cA U H ds vs)(s:aD K cA U H es us):aD K cA U H (ds++es) (vs++us):=by
 induction ds generalizing vs with
 |nil=>cases h;show s|cons a d ih=>cases h with|cons h r=>show .cons h (ih r)
theorem aD.take{ds:List D}{vs:List V}(n:Nat)(r:aD K cA U H ds vs):aD K cA U H (ds.take n) (vs.take n):=by
 induction n generalizing ds vs with
 |zero=>show .nil|succ n ih=>cases r with
  |nil=>show .nil|cons h r=>show .cons h (ih r)
theorem aD.drop{ds:List D}{vs:List V}(n:Nat)(r:aD K cA U H ds vs):aD K cA U H (ds.drop n) (vs.drop n):=by
 induction n generalizing ds vs with
 |zero=>show r|succ n ih=>cases r with
  |nil=>show .nil|cons h r=>show ih r
theorem aD.set{d:D}{v:V}(h:Rep K cA U H d v){ds:List D}{vs:List V}(i:Nat)(r:aD K cA U H ds vs):aD K cA U H (ds.set i d) (vs.set i v):=by
 induction i generalizing ds vs with
 |zero=>cases r with
  |nil=>show .nil|cons _ r=>show .cons h r
 |succ i ih=>cases r with
  |nil=>show .nil|cons q r=>show .cons q (ih r)
theorem aD.rev{ds:List D}{vs:List V}(r:aD K cA U H ds vs):aD K cA U H ds.reverse vs.reverse:=by
 induction ds generalizing vs with
 |nil=>cases r;show .nil|cons a ds ih=>cases r with|cons h r=>rw[NQ,NQ];show(ih r).app (.cons h .nil)
theorem aD.cut{ds:List D}{vs:List V}{l h:Option Int}(r:aD K cA U H ds vs):aD K cA U H (Mi.cut ds l h) (mJ vs l h):=by
 unfold Mi.cut mJ;rw[<-r.len];show(r.drop _).take _
def bx(H H':Hp):Prop:=∀a o,H a=some o->H' a=some o
theorem bx.refl:bx H H:=λ_ _ h=>h
theorem bx.trans(x:bx H H')(y:bx H' Kq):bx H Kq:=λa o h=>y a o (x a o h)
theorem bx.new{p:Addr}{o:HO}(hp:H p=none):bx H (upd H p o):=λa u h=>by rw[dJ (Gd h hp)];show h
theorem bx.ext(g:bx H H'):Ext U H U H':=⟨⟨[],by simp,by simp⟩,λ_ h=>h,λ_ h=>.inl h,λa o h _=>g a o h,λa o h=>⟨o,g a o h⟩⟩
theorem kO.grow{a:Addr}{o:SO}(g:bx H H')(hz:∀a∈U.l,U.z a)(h:kO K cA U H a o):kO K cA U H' a o:=h.map (g _) λ_ _ r=>r.mono g.ext hz
theorem aK.grow(g:bx H H')(h:aK K cA U H s):aK K cA U H' s:=
 ⟨h.len,λn o a e1 e2=>(h.obj n o a e1 e2).grow g h.lz,h.uniq,h.lz,λa z=>let ⟨o,e⟩:=h.zt a z;⟨o,g _ _ e⟩⟩
theorem aK.nz(h:aK K cA U H s){p:Addr}(hp:H p=none):¬U.z p:=λz=>by let⟨o,e⟩:=h.zt p z;rw[hp]at e;cases e
noncomputable def Ph.add(U:Ph)(p:Addr):Ph:=⟨λa=>U.z a\/a=p,U.l++[p]⟩
theorem Ext.add{p:Addr}{o:HO}(hp:H p=none):Ext U H (U.add p) (upd H p o):=
 ⟨⟨[p],rfl,by simpa using hp⟩,λ_ h=>.inl h,λa h=>h.imp id λe=>by rw[e];show hp,λa u h _=>bx.new hp a u h,λa u h=>⟨u,bx.new hp a u h⟩⟩
theorem aK.Uh{p:Addr}{so:SO}{ho:HO}(h:aK K cA U H s)(hp:H p=none)(hr:kO K cA (U.add p) (upd H p ho) p so):aK K cA (U.add p) (upd H p ho) (s++[so]):=by
 let pn:p∉U.l:=λz=>h.nz hp (h.lz p z);show⟨by change (U.l++[p]).length=_;rw[bZ,bZ,h.len];rfl,λn o a e1 e2=>?_,?_,λa ha=>?_,λa ha=>?_⟩
 .let e2:(U.l++[p])[n]?=some a:=e2;by_cases hn:n<s.length
  .rw[nQ hn]at e1;rw[nQ (by rw[h.len];show hn)]at e2;show(h.obj n o a e1 e2).map (bx.new hp _) λ_ _ r=>r.mono (Ext.add hp) h.lz
  .let hl:n=s.length:=by
    let z:=(h_.mp e1).1;rw[bZ]at z;simp at z
    lia
   subst hl;rw[pF (bQ _)]at e1;rw[pF (by rw[h.len];show bQ _)]at e2;simp at e1;simp[h.len]at e2;subst e1 e2;show hr
 .show (U.l++[p]).Nodup;rw[FP];show⟨h.uniq,by simp,λa ha b hb e=>?_⟩;simp at hb;subst hb e;show pn ha
 .let ha:a∈U.l++[p]:=ha;rcases dw.mp ha with z|z
  .exact .inl (h.lz a z)
  .simp at z;show .inr z
 .rcases ha with z|z
  .obtain⟨o,e⟩:=h.zt a z;show⟨o,bx.new hp _ _ e⟩
  .subst z;show⟨_,jK⟩
theorem aK.add{p:Addr}{xs:List D}{vs:List V}(h:aK K cA U H s)(hp:H p=none)(r:aD K cA U H xs vs):aK K cA (U.add p) (upd H p (.lst vs)) (s++[.lst xs]):=h.Uh hp ⟨vs,jK,r.mono (Ext.add hp) h.lz⟩
theorem Ext.write{n:Nat}{p:Addr}{o:HO}(hp:U.l[n]?=some p)(hv:∃u,H p=some u):Ext U H U (upd H p o):=by
 let hm:p∈U.l:=iH hp;show⟨⟨[],by simp,by simp⟩,λ_ h=>h,λ_ h=>.inl h,λa u h n=>by
  let ne:a≠p:=λe=>n (by rw[e];show hm);rw[dJ ne];show h,λa u h=>?_⟩
 by_cases e:a=p
 .subst e;show⟨o,jK⟩
 .exact⟨u,by rw[dJ e];show h⟩
theorem aK.DP{n:Nat}{p:Addr}{so:SO}{ho:HO}(h:aK K cA U H s)(hl:n<s.length)(hp:U.l[n]?=some p)(hr:kO K cA U (upd H p ho) p so):aK K cA U (upd H p ho) (s.set n so):=by
 let hv:=h.zt p (h.lz p (iH hp));let x:Ext U H U (upd H p ho):=Ext.write hp hv;show⟨by rw[pH];show h.len,λm o a e1 e2=>?_,h.uniq,h.lz,λa ha=>?_⟩
 .by_cases hm:n=m
  .subst hm;rw[zV hl]at e1;cases e1;rw[hp]at e2;cases e2;show hr
  .rw[sJ hm]at e1;let ne:a≠p:=λy=>by
    subst y;show hm ((Rq (h_.mp hp).1 h.uniq).mp (hp.trans e2.symm))
   show(h.obj m o a e1 e2).map (λ_ q=>by rw[dJ ne];show q) λ_ _ r=>r.mono x h.lz
 .obtain⟨o,e⟩:=h.zt a ha;let⟨o',e'⟩:=x.stay a o e;show⟨o',e'⟩
theorem aK.write{n:Nat}{p:Addr}{xs ys:List D}{us:List V}(h:aK K cA U H s)(hn:s[n]?=some (.lst xs))(hp:U.l[n]?=some p)(r:aD K cA U H ys us):aK K cA U (upd H p (.lst us)) (s.set n (.lst ys)):=
 h.DP (h_.mp hn).1 hp ⟨us,jK,r.mono (Ext.write hp (h.zt p (h.lz p (iH hp)))) h.lz⟩
theorem bF.set{i:Nat}{d:Xv}{v:V}(hL:bF K cA U H Z J)(r:bJ K cA U H d v):bF K cA U H (Z.set i (some v)) (J.set i (some d)):=by
 show⟨by rw[pH,pH];show hL.1,λj e h=>?_⟩;by_cases lU:i=j
 .subst lU;by_cases hl:i<J.length
  .rw[zV hl]at h;cases h;show⟨v,by rw[zV (by rw[hL.1];show hl)],r⟩
  .rw[Hs (by rw[pH];lia)]at h;cases h
 .rw[sJ lU]at h;let⟨u,a,b⟩:=hL.2 j e h;show⟨u,by rw[sJ lU];show a,b⟩
theorem bF.unset{i:Nat}(hL:bF K cA U H Z J):bF K cA U H (Z.set i none) (J.set i none):=by
 show⟨by rw[pH,pH];show hL.1,λj e h=>?_⟩;by_cases lU:i=j
 .subst lU;by_cases hl:i<J.length
  .rw[zV hl]at h;cases h
  .rw[Hs (by rw[pH];lia)]at h;cases h
 .rw[sJ lU]at h;let⟨u,a,b⟩:=hL.2 j e h;show⟨u,by rw[sJ lU];show a,b⟩
theorem TupAt.jw{a:Addr}{vs:List V}(h:TupAt K U H a vs):fQ K H a vs:=by
 rcases h with ⟨h,_⟩|(h|h)
 .exact .inl h
 .rcases h with h|⟨o,h⟩<;>cases h
 .exact .inr h
theorem LstAt.tL{a:Addr}{vs:List V}(h:LstAt K U H a vs):cY K H a vs:=by
 rcases h with ⟨h,_⟩|(h|h)
 .exact .inl h
 .rcases h with h|⟨o,h⟩<;>cases h
 .exact .inr h
theorem TupAt.new{p:Addr}{vs:List V}(hz:¬U.z p):TupAt K U (upd H p (.tup vs)) p vs:=.inl ⟨.inl jK,hz⟩
theorem LstAt.new{p:Addr}{vs:List V}(hz:¬U.z p):LstAt K U (upd H p (.lst vs)) p vs:=.inl ⟨.inl jK,hz⟩
end
end Mi
namespace Mi
open PySem PySem.Spec PyProof.Rows L2
theorem un{α β γ:Type}{A B C:α->β->γ->Prop}{R:Prop}(h:∃a b c,A a b c/\B a b c/\C a b c)(f:∀a b c,A a b c->B a b c->C a b c->R):R:=by
 let⟨a,b,c,x,y,z⟩:=h;show f a b c x y z
section
variable (K:W.Frag)(cA:Cl)
def Run{α:Type}(m:M α)(U:Ph)(H:Hp)(s:S)(P:α->S->Ph->Hp->Prop)(Ee:Nat->List D->S->Ph->Hp->Prop):Prop:=
 match m s with
 |some (.ok a,s')=>∀U' H',Ext U H U' H'->aK K cA U' H' s'->P a s' U' H'|some (.er c f,s')=>∀U' H',Ext U H U' H'->aK K cA U' H' s'->Ee c f s' U' H'|none=>False
def j9(U:Ph)(H:Hp)(c:Nat)(fs:List D)(dx:Option Addr):Prop:=
 (cA.f c=[]/\fs=[]/\dx=none)\/∃d vs,dx=some d/\¬U.z d/\H d=some (.xd ((cA.f c).zip vs))/\(cA.f c).length=vs.length/\aD K cA U H fs vs
noncomputable def eX(EX:XS)(Z:L2.St):Nat->List D->S->Ph->Hp->Prop:=λc fs _ U' H'=>∀dx,j9 K cA U' H' c fs dx->EX Z (.ref (cA.a c)) dx H'
noncomputable def tE(EX:XS)(m:Vs->M Xv):TE:=λZ H Q=>∃U J s,bF K cA U H Z J/\aK K cA U H s/\Run K cA (m J) U H s (λd _ U' H'=>∀v,bJ K cA U' H' d v->Q v H') (eX K cA EX Z)
noncomputable def Ui(EX:XS)(m:Vs->M (List Xv)):TA:=λZ H Q=>∃U J s,bF K cA U H Z J/\aK K cA U H s/\Run K cA (m J) U H s (λd _ U' H'=>∀v,cH K cA U' H' d v->Q v H') (eX K cA EX Z)
noncomputable def yL(EX:XS)(m:Vs->M Bool):TT:=λZ H Q=>∃U J s,bF K cA U H Z J/\aK K cA U H s/\Run K cA (m J) U H s (λd _ U' H'=>Q d H') (eX K cA EX Z)
def Rv(U:Ph)(H:Hp)(d:D)(v:V):Prop:=match d with
 |.fl xs=>∃a vs,v=.ref a/\cY K H a vs/\aD K cA U H xs vs|d=>Rep K cA U H d v
inductive yM (U:Ph) (H:Hp):List D->List V->Prop where
 |nil:yM U H [] []
 |cons {d:D} {v:V} {ds:List D} {vs:List V} (h:Rv K cA U H d v) (r:yM U H ds vs):yM U H (d::ds) (v::vs)
def aX(U:Ph)(H:Hp)(o:Option Rz)(Q:VK):Prop:=match o with
 |none=>False|some (.dat d)=>∀H' v,bx H H'->Rep K cA U H' d v->Q v H'|some (.nw xs)=>∀p vs,H p=none->aD K cA U H xs vs->Q (.ref p) (upd H p (.lst vs))
structure Zt(U:Ph)(H:Hp):Prop where
 lz:∀a∈U.l,U.z a
 zt:∀a,U.z a->∃o,H a=some o
def bA(p:Pr)(r:List V->Hp->VK->Prop):Prop:=∀(U:Ph) (H:Hp) (ds:List D) (vs:List V) (Q:VK),Zt U H->yM K cA U H ds vs->aX K cA U H (prim p ds) Q->r vs H Q
end
section
variable {K:W.Frag}{cA:Cl}{U U':Ph}{H H':Hp}{s:S}{Z:L2.St}{J:Vs}{EX:XS}
theorem aK.zs(h:aK K cA U H s):Zt U H:=⟨h.lz,h.zt⟩
theorem Zt.nz(h:Zt U H)(hp:H p=none):¬U.z p:=λz=>by let⟨o,e⟩:=h.zt p z;rw[hp]at e;cases e
theorem Rep.rv{d:D}{v:V}(h:Rep K cA U H d v):Rv K cA U H d v:=by
 cases h with
 |fl h r=>show⟨_,_,rfl,h.tL,r⟩|non=>show .non|bl b=>show .bl b|int b=>show .int b|str b=>show .str b|tup h r=>show .tup h r|fd h n=>show .fd h n|exc h r=>show .exc h r|ob h r=>show .ob h r|any v=>show .any v
theorem Run.bd{α β:Type}{m:M α}{k:α->M β}{P:β->S->Ph->Hp->Prop}{Ee:Nat->List D->S->Ph->Hp->Prop}(h:Run K cA (M.bd m k) U H s P Ee):Run K cA m U H s (λa s1 U1 H1=>Ext U H U1 H1/\aK K cA U1 H1 s1/\Run K cA (k a) U1 H1 s1 P Ee) Ee:=by
 unfold Run M.bd at *;cases e:m s with
 |none=>rw[e]at h;show h|some r=>
  let⟨r,s1⟩:=r;rw[e]at h;cases r with
  |er c f=>show h|ok a=>
   intro U1 H1 x1 r1;show⟨x1,r1,?_⟩;dsimp only at h ⊢;cases e2:k a s1 with
   |none=>rw[e2]at h;show h|some q=>
    let⟨q,s2⟩:=q;rw[e2]at h;cases q with
    |ok b=>show λU2 H2 x2 r2=>h U2 H2 (x1.trans x2) r2|er c f=>show λU2 H2 x2 r2=>h U2 H2 (x1.trans x2) r2
theorem Run.imp{α:Type}{m:M α}{P P':α->S->Ph->Hp->Prop}{Ee:Nat->List D->S->Ph->Hp->Prop}(h:Run K cA m U H s P Ee)(f:∀a s' U' H',P a s' U' H'->P' a s' U' H'):Run K cA m U H s P' Ee:=by
 unfold Run at *;split at h
 .exact λU' H' x r=>f _ _ _ _ (h U' H' x r)
 .exact h
 .exact h
theorem Run.bY{α:Type}{a:α}{P:α->S->Ph->Hp->Prop}{Ee:Nat->List D->S->Ph->Hp->Prop}(r:aK K cA U H s)(h:Run K cA (M.ret a) U H s P Ee):P a s U H:=h U H Ext.refl r
theorem Run.opt{α:Type}{o:Option α}{P:α->S->Ph->Hp->Prop}{Ee:Nat->List D->S->Ph->Hp->Prop}(r:aK K cA U H s)(h:Run K cA (M.opt o) U H s P Ee):∃a,o=some a/\P a s U H:=by
 cases o with
 |none=>show h.elim|some a=>show⟨a,rfl,h U H Ext.refl r⟩
theorem Kae(h:Run K cA (M.bd (M.opt o) k) U H s P Ee):∃a,o=some a/\Run K cA (k a) U H s P Ee:=by
 cases o with
 |none=>show h.elim|some a=>show⟨a,rfl,h⟩
theorem Pu{β:Type}{x:Xv}{v:V}{k:Bool->M β}{P:β->S->Ph->Hp->Prop}{Ee:Nat->List D->S->Ph->Hp->Prop}(r:bJ K cA U H x v)(h:Run K cA (M.bd (bool x) k) U H s P Ee):∃b,x=.d (.bl b)/\v=.bl b/\Run K cA (k b) U H s P Ee:=by
 cases r with
 |l _=>show h.elim|d r=>cases r with
  |bl b=>show⟨b,rfl,rfl,h⟩|_=>show h.elim
theorem Kr(r:bJ K cA U H x v)(h:Run K cA (M.bd (int x) k) U H s P Ee):∃b,x=.d (.int b)/\v=.int b/\Run K cA (k b) U H s P Ee:=by
 cases r with
 |l _=>show h.elim|d r=>cases r with
  |int b=>show⟨b,rfl,rfl,h⟩|_=>show h.elim
theorem Uj(r:bJ K cA U H x v)(h:Run K cA (M.bd (dat x) k) U H s P Ee):∃d,x=.d d/\Rep K cA U H d v/\Run K cA (k d) U H s P Ee:=by
 cases r with
 |l _=>show h.elim|d r=>show⟨_,rfl,r,h⟩
theorem Uk:∀{xs:List Xv} {vs:List V} {k:List D->M β} {P:β->S->Ph->Hp->Prop} {Ee:Nat->List D->S->Ph->Hp->Prop},cH K cA U H xs vs->Run K cA (M.bd (fV xs) k) U H s P Ee->∃ds,xs=ds.map .d/\aD K cA U H ds vs/\Run K cA (k ds) U H s P Ee:=by
 intro xs
 induction xs with
 |nil=>intro vs k P Ee r h;cases r;show⟨[],rfl,.nil,h⟩|cons x xs ih=>
  intro vs k P Ee r h;cases r with
  |cons a r=>
   cases a with
   |l _=>show h.elim|@d y v a=>
    let h2:Run K cA (M.bd (fV xs) λds=>k (y::ds)) U H s P Ee:=by
     unfold Run M.bd fV dat at h;unfold Run M.bd;simp only[M.bd,M.ret]at h;cases e:fV xs s with
     |none=>simp only[e]at h|some q=>
      let⟨q,s1⟩:=q;simp only[e]at h;cases q with
      |ok ds=>show h|er c f=>show h
    let⟨ds,e,rs,h3⟩:=ih r h2;show⟨y::ds,by rw[e];rfl,.cons a rs,h3⟩
theorem Ks(hS:aK K cA U H s)(r:bJ K cA U H x v)(h:Run K cA (M.bd (rd x) k) U H s P Ee):∃d,Rv K cA U H d v/\Run K cA (k d) U H s P Ee:=by
 cases r with
 |d r=>show⟨_,r.rv,h⟩|@l n a hl=>
  unfold Run M.bd rd at h;dsimp only at h;cases e:s[n]? with
  |none=>rw[e]at h;show h.elim|some o=>
   rw[e]at h;cases o with
   |lst xs=>
    let⟨vs,q1,q2⟩:=hS.obj n _ _ e hl;show⟨.fl xs,⟨a,vs,rfl,cY.of q1,q2⟩,h⟩
   |_=>show h.elim
theorem j_{α β γ:Type}(m:M α)(f:α->M β)(g:β->M γ):M.bd (M.bd m f) g=M.bd m λx=>M.bd (f x) g:=by
 funext s
 unfold M.bd;cases m s with
 |none=>rfl|some r=>
  let⟨r,s1⟩:=r;cases r<;>rfl
theorem tM{β:Type}:∀{xs:List Xv} {vs:List V} {k:List D->M β} {P:β->S->Ph->Hp->Prop} {Ee:Nat->List D->S->Ph->Hp->Prop},aK K cA U H s->cH K cA U H xs vs->Run K cA (M.bd (gM xs) k) U H s P Ee->∃ds,yM K cA U H ds vs/\Run K cA (k ds) U H s P Ee:=by
 intro xs
 induction xs with
 |nil=>intro vs k P Ee hS r h;cases r;show⟨[],.nil,h⟩|cons x xs ih=>
  intro vs k P Ee hS r h;cases r with
  |cons a r=>
   let h2:Run K cA (M.bd (rd x) λd=>M.bd (gM xs) λds=>k (d::ds)) U H s P Ee:=by
    let e:M.bd (gM (x::xs)) k=M.bd (rd x) λd=>M.bd (gM xs) λds=>k (d::ds):=by
     change M.bd (M.bd (rd x) λd=>M.bd (gM xs) λds=>M.ret (d::ds)) k=_;rw[j_]
     congr 1
     funext d
     rw[j_];rfl
    rw[e]at h;show h
   let⟨d,rd,h3⟩:=Ks hS a h2;let⟨ds,rs,h4⟩:=ih hS r h3;show⟨d::ds,.cons rd rs,h4⟩
theorem qO{fz:Bool}{o:Option Rz}{Q:VK}{Ee:Nat->List D->S->Ph->Hp->Prop}(hS:aK K cA U H s)(h:Run K cA (bN fz o) U H s (λx _ U' H'=>∀v,bJ K cA U' H' x v->Q v H') Ee):aX K cA U H o Q:=by
 cases o with
 |none=>show h.elim|some z=>
  cases z with
  |dat d=>show λH' v g r=>h U H' g.ext (hS.grow g) v (.d r)|nw xs=>
   intro p vs hp r;cases fz with
   |true=>show h U _ (bx.new hp).ext (hS.grow (bx.new hp)) _ (.d (.fl (LstAt.new (hS.nz hp)) (r.mono (bx.new hp).ext hS.lz)))|false=>show h (U.add p) _ (Ext.add hp) (hS.add hp r) _ (.l (by change (U.l++[p])[s.length]?=_;rw[<-hS.len];simp))
theorem ziC{fz:Bool}{xs:List D}{Q:VK}{Ee:Nat->List D->S->Ph->Hp->Prop}(hS:aK K cA U H s)(h:Run K cA (newL fz xs) U H s (λx _ U' H'=>∀v,bJ K cA U' H' x v->Q v H') Ee):∀p vs,H p=none->aD K cA U H xs vs->Q (.ref p) (upd H p (.lst vs)):=
 qO (o:=some (.nw xs)) hS h
theorem bO{β:Type}{ma:Vs->M Xv}{k:Xv->M β}{P:β->S->Ph->Hp->Prop}(hL:bF K cA U H Z J)(hS:aK K cA U H s)(h:Run K cA (M.bd (ma J) k) U H s P (eX K cA EX Z)){Q:VK}
  (f:∀x H1 U1 d s1,Ext U H U1 H1->bF K cA U1 H1 Z J->aK K cA U1 H1 s1->bJ K cA U1 H1 d x->Run K cA (k d) U1 H1 s1 P (eX K cA EX Z)->Q x H1):tE K cA EX ma Z H Q:=
 ⟨U,J,s,hL,hS,h.bd.imp λd s1 U1 H1 ⟨x1,r1,h1⟩ v rv=>f v H1 U1 d s1 x1 (hL.mono x1 hS.lz) r1 rv h1⟩
theorem p8{β:Type}{ma:Vs->M (List Xv)}{k:List Xv->M β}{P:β->S->Ph->Hp->Prop}(hL:bF K cA U H Z J)(hS:aK K cA U H s)(h:Run K cA (M.bd (ma J) k) U H s P (eX K cA EX Z)){Q:List V->Hp->Prop}
  (f:∀x H1 U1 d s1,Ext U H U1 H1->bF K cA U1 H1 Z J->aK K cA U1 H1 s1->cH K cA U1 H1 d x->Run K cA (k d) U1 H1 s1 P (eX K cA EX Z)->Q x H1):Ui K cA EX ma Z H Q:=
 ⟨U,J,s,hL,hS,h.bd.imp λd s1 U1 H1 ⟨x1,r1,h1⟩ v rv=>f v H1 U1 d s1 x1 (hL.mono x1 hS.lz) r1 rv h1⟩
theorem yN(hL:bF K cA U H Z J)(hS:aK K cA U H s)(h:Run K cA (M.bd (ma J) k) U H s P (eX K cA EX Z))
  (f:∀b H1 U1 s1,Ext U H U1 H1->bF K cA U1 H1 Z J->aK K cA U1 H1 s1->Run K cA (k b) U1 H1 s1 P (eX K cA EX Z)->Q b H1):yL K cA EX ma Z H Q:=
 ⟨U,J,s,hL,hS,h.bd.imp λd s1 U1 H1 ⟨x1,r1,h1⟩=>f d H1 U1 s1 x1 (hL.mono x1 hS.lz) r1 h1⟩
end
section
variable (X:Cx)(cA:Cl)(ao:Nat->Nat->Bool)(aj:Bool)(F:Fn)(EX:XS)
def SE(e:Expr)(m:E):Prop:=PE X e (tE X.K cA EX (ev ao aj F m))
def SA(es:List Expr)(m:Es):Prop:=PA X es (Ui X.K cA EX (evs ao aj F m))
def ST(e:Expr)(m:E):Prop:=PT X e (yL X.K cA EX (λJ=>M.bd (ev ao aj F m J) bool))
def SW(e:Expr)(m:E):Prop:=PW X e (yL X.K cA EX (λJ=>M.bd (ev ao aj F m J) bool))
end
section
variable {X:Cx}{cA:Cl}{ao:Nat->Nat->Bool}{aj:Bool}{F:Fn}{EX:XS}{a b c d e:Expr}{A B C Dd E':E}{pos:Pos}{es:List Expr}{Xs:Es}{fz:Bool}{p:Pr}
theorem PE.weak{t t':TE}(h:PE X e t)(f:∀Z H Q,t' Z H Q->t Z H Q):PE X e t':=λak s Z H Q I q=>h ak s Z H Q I (f Z H Q q)
theorem PT.weak{t t':TT}(h:PT X e t)(f:∀Z H Q,t' Z H Q->t Z H Q):PT X e t':=λak s Z H Q I q=>h ak s Z H Q I (f Z H Q q)
theorem PW.weak{t t':TT}(h:PW X e t)(f:∀Z H Q,t' Z H Q->t Z H Q):PW X e t':=λwh ak s Z H Q I q=>h wh ak s Z H Q I (f Z H Q q)
theorem PA.weak{t t':TA}(h:PA X es t)(f:∀Z H Q,t' Z H Q->t Z H Q):PA X es t':=λp ak s Z H Q I q=>h p ak s Z H Q I (f Z H Q q)
theorem znA{i j p}:SE X cA ao aj F EX (.Constant (.int i) j p) (.c (.int i)):=PE.weak Oq λZ H Q hh=>un hh λU J s hL hS h=>h.bY hS _ (.d (.int i))
theorem zn9{i j p}:SE X cA ao aj F EX (.Constant (.bool i) j p) (.c (.bl i)):=PE.weak zoa λZ H Q hh=>un hh λU J s hL hS h=>h.bY hS _ (.d (.bl i))
theorem znf{j p}:SE X cA ao aj F EX (.Constant .none j p) (.c .non):=PE.weak zmA λZ H Q hh=>un hh λU J s hL hS h=>h.bY hS _ (.d .non)
theorem zmF{i j p}:SE X cA ao aj F EX (.Constant (.str i) j p) (.c (.str i)):=PE.weak Zc λZ H Q hh=>un hh λU J s hL hS h=>h.bY hS _ (.d (.str i))
theorem Ul{α:Type}{o:Option (Option α)}{x:α}(h:o.join=some x):o=some (some x):=by
 cases o with
 |none=>cases h|some y=>cases y with
  |none=>cases h|some z=>cases h;rfl
theorem zpd(i:Nat){x:Str}(hN:X.N[i]?=some x:=by rfl)(hv:Rw X.env.scope x:=by first|exact Or.inl rfl|exact Or.inr (Or.inl rfl)|exact Or.inr (Or.inr rfl))(hd:(x==("__debug__" : Str))=false:=by decide)
  (nJ:(x==("__classdict__" : Str))=false:=by decide):SE X cA ao aj F EX (.Name x pos) (.v i):=PE.weak (zm8 hN hv hd nJ) λZ H Q hh=>un hh λU J s hL hS h=>by
 let⟨dd,e1,q⟩:=Run.opt hS h;let⟨v,q1,q2⟩:=hL.2 i dd (Ul e1);show⟨v,q1,q v q2⟩
theorem zkv{x:Str}{i:Int}{t:Tok}(hg:Gl X x)(hm:X.mg x=some (.int i t))(hd:(x==("__debug__" : Str))=false:=by decide):SE X cA ao aj F EX (.Name x pos) (.c (.int i)):=PE.weak (Zd (v:=.int i) hg hm ⟨t,rfl⟩ hd) λZ H Q hh=>un hh λU J s hL hS h=>h.bY hS _ (.d (.int i))
theorem zlJ:SA X cA ao aj F EX [] .nil:=PA.weak CV λZ H Q hh=>un hh λU J s hL hS h=>h.bY hS _ .nil
theorem zjj(ha:SE X cA ao aj F EX a A)(hr:SA X cA ao aj F EX es Xs)(hs:starEach (a::es) X.env=(false,eval a X.env)::starEach es X.env:=by rfl):SA X cA ao aj F EX (a::es) (.cons A Xs):=PA.weak (wA ha hr hs) λZ H Q hh=>un hh λU J s hL hS h=>by
 show bO hL hS h λx H1 U1 d1 s1 x1 hL1 aL r1 h1=>p8 hL1 aL h1 λys H2 U2 d2 s2 x2 hL2 hS2 r2 h2=>h2.bY hS2 _ (.cons (r1.mono x2 aL.lz) r2)
theorem Px{U U1 U2:Ph}{H1 H2:Hp}{s1 s2:S}{d1 d2:Xv}{x y:V}{Q:VK}{Ee:Nat->List D->S->Ph->Hp->Prop}(x2:Ext U1 H1 U2 H2)(aL:aK X.K cA U1 H1 s1)(hS2:aK X.K cA U2 H2 s2)(r1:bJ X.K cA U1 H1 d1 x)(r2:bJ X.K cA U2 H2 d2 y)
  (h:Run X.K cA (M.bd (gM [d1,d2]) λds=>bN fz (prim p ds)) U2 H2 s2 (λx _ U' H'=>∀v,bJ X.K cA U' H' x v->Q v H') Ee) {r:List V->Hp->VK->Prop} (hp:bA X.K cA p r):r [x,y] H2 Q:=by
 let⟨ds,rs,h2⟩:=tM hS2 (.cons (r1.mono x2 aL.lz) (.cons r2 .nil)) h;show hp U2 H2 ds _ Q hS2.zs rs (qO hS2 h2)
noncomputable def r2(r:R2):List V->Hp->VK->Prop:=λvs H Q=>∃x y,vs=[x,y]/\r x y H Q
theorem DQ{r:R2}{x y:V}{H:Hp}{Q:VK}(h:r2 r [x,y] H Q):r x y H Q:=by
 let⟨_,_,e,q⟩:=h;cases e;show q
theorem zmz{op:Operator}{r:R2}(ho:fH X (binaryOp op) r)(hp:bA X.K cA p (r2 r))(ha:SE X cA ao aj F EX a A)(hb:SE X cA ao aj F EX b B):SE X cA ao aj F EX (.BinOp a op b pos) (.pr fz p (.cons A (.cons B .nil))):=PE.weak (zog ho ha hb) λZ H Q hh=>un hh λU J s hL hS h=>by
 let h:Run X.K cA (M.bd (M.bd (ev ao aj F A J) λx=>M.bd (M.bd (ev ao aj F B J) λy=>M.bd (M.ret []) λz=>M.ret (y::z)) λys=>M.ret (x::ys)) λvs=>M.bd (gM vs) λds=>bN fz (prim p ds)) U H s _ _:=h;simp only[j_]at h;show bO hL hS h λx H1 U1 d1 s1 x1 hL1 aL r1 h1=>bO hL1 aL h1 λy H2 U2 d2 s2 x2 hL2 hS2 r2' h2=>?_;show DQ (Px (fz:=fz) (U:=U) x2 aL hS2 r1 r2' h2 hp)
theorem znc{op:CmpOp}{r:R2}(ho:fH X (compareOp op) r)(hp:bA X.K cA p (r2 r))(ha:SE X cA ao aj F EX a A)(hb:SE X cA ao aj F EX b B)(hm:behindInMarks op b=false):SE X cA ao aj F EX (.Compare a [op] [b] pos) (.pr true p (.cons A (.cons B .nil))):=PE.weak (zkL ho ha hb hm) λZ H Q hh=>un hh λU J s hL hS h=>by
 let h:Run X.K cA (M.bd (M.bd (ev ao aj F A J) λx=>M.bd (M.bd (ev ao aj F B J) λy=>M.bd (M.ret []) λz=>M.ret (y::z)) λys=>M.ret (x::ys)) λvs=>M.bd (gM vs) λds=>bN true (prim p ds)) U H s _ _:=h;simp only[j_]at h;show bO hL hS h λx H1 U1 d1 s1 x1 hL1 aL r1 h1=>bO hL1 aL h1 λy H2 U2 d2 s2 x2 hL2 hS2 r2' h2=>?_;show DQ (Px (fz:=true) (U:=U) x2 aL hS2 r1 r2' h2 hp)
theorem iT{A B:Prop}(h:A):if true=true then A else B:=by rw[if_pos rfl];show h
theorem iF{A B:Prop}(h:B):if false=true then A else B:=by rw[if_neg Nr];show h
theorem zmp{op:CmpOp}{r:R2}(ho:fH X (compareOp op) r)(hp:bA X.K cA p (r2 r))(ha:SE X cA ao aj F EX a A)(hb:SE X cA ao aj F EX b B)(hm:behindInMarks op b=false):ST X cA ao aj F EX (.Compare a [op] [b] pos) (.pr true p (.cons A (.cons B .nil))):=PT.weak (zjn ho ha hb hm) λZ H Q hh=>un hh λU J s hL hS h=>by
 let h:Run X.K cA (M.bd (M.bd (M.bd (ev ao aj F A J) λx=>M.bd (M.bd (ev ao aj F B J) λy=>M.bd (M.ret []) λz=>M.ret (y::z)) λys=>M.ret (x::ys)) λvs=>M.bd (gM vs) λds=>bN true (prim p ds)) bool) U H s _ _:=h;simp only[j_]at h;show bO hL hS h λx H1 U1 d1 s1 x1 hL1 aL r1 h1=>bO hL1 aL h1 λy H2 U2 d2 s2 x2 hL2 hS2 r2' h2=>?_;let⟨ds,rs,h3⟩:=tM hS2 (.cons (r1.mono x2 aL.lz) (.cons r2' .nil)) h2;show DQ (hp U2 H2 ds _ _ hS2.zs rs (qO (Ee:=eX X.K cA EX Z) hS2 (h3.bd.imp λt s3 U3 H3 ⟨x3,lV,h4⟩ v rv=>?_)));cases rv with
 |l _=>show h4.elim|d rv=>cases rv with
  |bl k=>show⟨k,rfl,h4 U3 H3 Ext.refl lV⟩|_=>show h4.elim
theorem zlX{op op':CmpOp}{r r':R2}{q:Pr}(ho:fH X (compareOp op) r)(hp:bA X.K cA p (r2 r))(uE:fH X (compareOp op') r')(hp':bA X.K cA q (r2 r'))(ha:SE X cA ao aj F EX a A)(hb:SE X cA ao aj F EX b B)(hc:SE X cA ao aj F EX c C)(hm:lastMarks [op,op'] [b,c]=false:=by with_unfolding_all rfl) :
  SE X cA ao aj F EX (.Compare a [op,op'] [b,c] pos) (.yC p q A B C):=PE.weak (zib ho uE ha hb hc hm) λZ H Q hh=>un hh λU J s hL hS h=>by
 show bO hL hS h λx H1 U1 d1 s1 x1 hL1 aL r1 h1=>bO hL1 aL h1 λy H2 U2 d2 s2 x2 hL2 hS2 r2' h2=>?_;let⟨ds,rs,h3⟩:=tM hS2 (.cons (r1.mono x2 aL.lz) (.cons r2' .nil)) h2;show DQ (hp U2 H2 ds _ _ hS2.zs rs (qO (Ee:=eX X.K cA EX Z) hS2 (h3.bd.imp λt s3 U3 H3 ⟨x3,lV,h4⟩ v rv=>?_)));let⟨k,_,e,h5⟩:=Pu rv h4;show⟨k,e,?_⟩;cases k with
 |false=>show iF (h5.bY lV _ (.d (.bl _)))|true=>
  let DR:=hL2.mono x3 hS2.lz;show iT (bO DR lV h5 λz H4 U4 d4 s4 x4 hL4 uX r4 h6=>?_);show DQ (Px (fz:=true) (U:=U) x4 lV uX (r2'.mono x3 hS2.lz) r4 h6 hp')
theorem zmZ(ha:SE X cA ao aj F EX a A):SE X cA ao aj F EX (.UnaryOp .Not a pos) (.not A):=PE.weak (zmQ ha) λZ H Q hh=>un hh λU J s hL hS h=>by
 show bO hL hS h λx H1 U1 d1 s1 x1 hL1 aL r1 h1=>?_;let⟨i,_,e,h3⟩:=Pu r1 h1;show⟨i,e,h3.bY aL _ (.d (.bl _))⟩
theorem zli{op}(ha:SE X cA ao aj F EX a A):SE X cA ao aj F EX (.BoolOp op [a] pos) A:=zlH ha
theorem zln{rest:List Expr}(ha:SE X cA ao aj F EX a A)(hb:SE X cA ao aj F EX (.BoolOp .And (b::rest) pos) B):SE X cA ao aj F EX (.BoolOp .And (a::b::rest) pos) (.and A B):=PE.weak (zm0 ha hb) λZ H Q hh=>un hh λU J s hL hS h=>by
 show bO hL hS h λx H1 U1 d1 s1 x1 hL1 aL r1 h1=>?_;let⟨i,_,e,h3⟩:=Pu r1 h1;show⟨i,e,?_⟩;cases i with
 |true=>show iT ⟨U1,J,s1,hL1,aL,h3⟩|false=>show iF (h3.bY aL _ (.d (.bl _)))
end
section
variable {X:Cx}{cA:Cl}{ao:Nat->Nat->Bool}{aj:Bool}{F:Fn}{EX:XS}{a b c d e o:Expr}{A B C Dd E' O:E}{pos pp p2 apos:Pos}{es:List Expr}{Xs:Es}{fz:Bool}{p:Pr}{x:Str}
theorem zmf(ha:SE X cA ao aj F EX a A)(he:∀whole,isTrue a X.env whole=(do let v <-whole;standAt a.pos;holding [v] (truthy v)):=by intro _;rfl):ST X cA ao aj F EX a A:=PT.weak (zlS ha he) λZ H Q hh=>un hh λU J s hL hS h=>by
 show bO hL hS h λx H1 U1 d1 s1 x1 hL1 aL r1 h1=>?_;let h1:Run X.K cA (M.bd (bool d1) M.ret) U1 H1 s1 (λd _ U' H'=>Q d H') (eX X.K cA EX Z):=by
  cases d1 with
  |l n=>show h1|d v=>cases v<;>show h1
 let⟨k,_,e,q⟩:=Pu r1 h1;show⟨k,e,q.bY aL⟩
theorem zht{m:M Xv}{g:Bool->Bool}:M.bd (M.bd m λx=>M.bd (bool x) λk=>M.ret (Xv.d (.bl (g k)))) bool=M.bd (M.bd m bool) λk=>M.ret (g k):=by
 rw[j_,j_]
 congr 1
 funext x
 rw[j_];rfl
theorem zml(ha:ST X cA ao aj F EX a A):ST X cA ao aj F EX (.UnaryOp .Not a pos) (.not A):=PT.weak (zmW ha) λZ H Q hh=>un hh λU J s hL hS h=>by
 let h:Run X.K cA (M.bd (M.bd (ev ao aj F A J) λx=>M.bd (bool x) λk=>M.ret (Xv.d (.bl (!k)))) bool) U H s _ _:=h;rw[zht (g:=λk=>!k)]at h;show yN hL hS h λk H1 U1 s1 x1 hL1 aL h1=>h1.bY aL
theorem zkw(ha:ST X cA ao aj F EX a A):SW X cA ao aj F EX (.BoolOp .And [a] pos) A:=zkt ha
theorem zlT(ha:ST X cA ao aj F EX a A):SW X cA ao aj F EX (.BoolOp .Or [a] pos) A:=zmc ha
theorem zg9{m:M Xv}{k:Bool->M Xv}:M.bd (M.bd m λx=>M.bd (bool x) k) bool=M.bd (M.bd m bool) λb=>M.bd (k b) bool:=by
 rw[j_,j_]
 congr 1
 funext x
 rw[j_]
theorem znO{rest:List Expr}(ha:ST X cA ao aj F EX a A)(hb:SW X cA ao aj F EX (.BoolOp .And (b::rest) pos) B):SW X cA ao aj F EX (.BoolOp .And (a::b::rest) pos) (.and A B):=PW.weak (zl6 ha hb) λZ H Q hh=>un hh λU J s hL hS h=>by
 let h:Run X.K cA (M.bd (M.bd (ev ao aj F A J) λx=>M.bd (bool x) λk=>if k=true then ev ao aj F B J else M.ret (Xv.d (.bl false))) bool) U H s _ _:=h;rw[zg9]at h;show yN hL hS h λk H1 U1 s1 x1 hL1 aL h3=>?_;cases k with
 |true=>show iT ⟨U1,J,s1,hL1,aL,h3⟩|false=>show iF (Run.bY aL (a:=false) h3)
theorem zn0{rest:List Expr}(ha:ST X cA ao aj F EX a A)(hb:SW X cA ao aj F EX (.BoolOp .Or (b::rest) pos) B):SW X cA ao aj F EX (.BoolOp .Or (a::b::rest) pos) (.or A B):=PW.weak (zoE ha hb) λZ H Q hh=>un hh λU J s hL hS h=>by
 let h:Run X.K cA (M.bd (M.bd (ev ao aj F A J) λx=>M.bd (bool x) λk=>if k=true then M.ret (Xv.d (.bl true)) else ev ao aj F B J) bool) U H s _ _:=h;rw[zg9]at h;show yN hL hS h λk H1 U1 s1 x1 hL1 aL h3=>?_;cases k with
 |true=>show iT (Run.bY aL (a:=true) h3)|false=>show iF ⟨U1,J,s1,hL1,aL,h3⟩
theorem zpy(h:SW X cA ao aj F EX a A):ST X cA ao aj F EX a A:=Kac h
theorem zjw:(M.bd m λx=>M.bd (bool x) k)=M.bd (M.bd m bool) k:=by rw[j_]
theorem znk(hc:ST X cA ao aj F EX c C)(ha:SE X cA ao aj F EX a A)(hb:SE X cA ao aj F EX b B):SE X cA ao aj F EX (.IfExp c a b pos) (.ite C A B):=PE.weak (zhC hc ha hb) λZ H Q hh=>un hh λU J s hL hS h=>by
 let h:Run X.K cA (M.bd (ev ao aj F C J) λx=>M.bd (bool x) λk=>if k=true then ev ao aj F A J else ev ao aj F B J) U H s _ _:=h;rw[zjw]at h;show yN hL hS h λk H1 U1 s1 x1 hL1 aL h3=>?_;cases k with
 |true=>show iT ⟨U1,J,s1,hL1,aL,h3⟩|false=>show iF ⟨U1,J,s1,hL1,aL,h3⟩
theorem zfF:∀(Xs:Es) (J:Vs) (s:S) (ds:List Xv) (s':S),evs ao aj F Xs J s=some (.ok ds,s')->ds.length=Es.len Xs
 |.nil,J,s,ds,s',h=>by cases h;rfl|.cons a r,J,s,ds,s',h=>by
  let h:M.bd (ev ao aj F a J) (λx=>M.bd (evs ao aj F r J) λxs=>M.ret (x::xs)) s=some (.ok ds,s'):=h;unfold M.bd at h;cases e1:ev ao aj F a J s with
  |none=>rw[e1]at h;cases h|some q=>
   let⟨q,s1⟩:=q;rw[e1]at h;cases q with
   |er c f=>cases h|ok d=>
    dsimp only at h;cases e2:evs ao aj F r J s1 with
    |none=>rw[e2]at h;cases h|some q=>
     let⟨q,s2⟩:=q;rw[e2]at h;cases q with
     |er c f=>cases h|ok ds'=>
      cases h;rw[fP,zfF r J s1 ds' _ e2];rfl
theorem DW{β:Type}{K:W.Frag}{U:Ph}{H:Hp}{s:S}{Z:L2.St}{J:Vs}{k:List Xv->M β}{P:β->S->Ph->Hp->Prop}(hL:bF K cA U H Z J)(hS:aK K cA U H s)(h:Run K cA (M.bd (evs ao aj F Xs J) k) U H s P (eX K cA EX Z)){Q:List V->Hp->Prop}
  (f:∀x H1 U1 d s1,d.length=Es.len Xs->Ext U H U1 H1->bF K cA U1 H1 Z J->aK K cA U1 H1 s1->cH K cA U1 H1 d x->Run K cA (k d) U1 H1 s1 P (eX K cA EX Z)->Q x H1):Ui K cA EX (evs ao aj F Xs) Z H Q:=by
 show⟨U,J,s,hL,hS,?_⟩;let h2:=h.bd;unfold Run at h2 ⊢;cases e:evs ao aj F Xs J s with
 |none=>rw[e]at h2;show h2|some r=>
  let⟨r,s1⟩:=r;rw[e]at h2;cases r with
  |er c f=>show h2|ok ds=>
   intro U1 H1 x1 r1 v rv;let⟨_,_,h3⟩:=h2 U1 H1 x1 r1;show f v H1 U1 ds s1 (zfF Xs J s ds s1 e) x1 (hL.mono x1 hS.lz) r1 rv h3
theorem zld{k}(ha:SA X cA ao aj F EX es Xs)(hz:Es.len Xs<=sizeLine):SE X cA ao aj F EX (.Tuple es k pos) (.tup Xs):=PE.weak (zmu ha) λZ H Q hh=>un hh λU J s hL hS h=>by
 show DW hL hS h λvs H1 U1 xs s1 hl x1 hL1 aL rv h1=>?_;let⟨ds,e,rs,h2⟩:=Uk rv h1;show⟨by rw[<-rv.len,hl];show hz,λp hp=>?_⟩;show h2 U1 (upd H1 p (.tup vs)) (bx.new hp).ext (aL.grow (bx.new hp)) _ (.d (.tup (TupAt.new (aL.nz hp)) (rs.mono (bx.new hp).ext aL.lz)))
theorem zny(ha:SA X cA ao aj F EX es Xs)(hz:Es.len Xs<=sizeLine):SE X cA ao aj F EX (.List es pos) (.lst fz Xs):=PE.weak (zlc ha) λZ H Q hh=>un hh λU J s hL hS h=>by
 show DW hL hS h λvs H1 U1 xs s1 hl x1 hL1 aL rv h1=>?_;let⟨ds,e,rs,h2⟩:=Uk rv h1;show⟨by rw[<-rv.len,hl];show hz,λp hp=>ziC aL h2 p vs hp rs⟩
theorem wI{id:String}{r:List V->Hp->VK->Prop}(hc:cL X (.builtin id) r)(hp:bA X.K cA p r)
  (hg:Gl X x) (hm:X.mg x=none) (hv:bootBuiltins x=some (.builtin id)) (ha:SA X cA ao aj F EX (e::es) Xs) (hn:x≠"__name__":=by decide) (lg:(x==("__debug__" : Str))=false:=by decide)
  (he:starEach (e::es) X.env=(false,eval e X.env)::starEach es X.env:=by rfl) (bU:(backTo pos (starEach es X.env)).any (·.1)=false:=by rfl):SE X cA ao aj F EX (.Call (.Name x pp) (e::es) [] pos) (.pr fz p Xs):=PE.weak (Zv hc hg hm hv ha hn lg he bU) λZ H Q hh=>un hh λU J s hL hS h=>
 p8 hL hS h λvs H1 U1 ds s1 x1 hL1 aL r1 h1=>by
  let⟨ds,rs,h3⟩:=tM aL r1 h1;show hp U1 H1 ds _ _ aL.zs rs (qO aL h3)
theorem Um{id:String}{r:List V->Hp->VK->Prop}(hc:cL X (.type id) r)(hp:bA X.K cA p r)
  (hg:Gl X x) (hm:X.mg x=none) (hv:bootBuiltins x=some (.type id)) (ha:SA X cA ao aj F EX (e::es) Xs) (hn:x≠"__name__":=by decide) (lg:(x==("__debug__" : Str))=false:=by decide)
  (he:starEach (e::es) X.env=(false,eval e X.env)::starEach es X.env:=by rfl) (bU:(backTo pos (starEach es X.env)).any (·.1)=false:=by rfl):SE X cA ao aj F EX (.Call (.Name x pp) (e::es) [] pos) (.pr fz p Xs):=PE.weak (zgI hc hg hm hv ha hn lg he bU) λZ H Q hh=>un hh λU J s hL hS h=>
 p8 hL hS h λvs H1 U1 ds s1 x1 hL1 aL r1 h1=>by
  let⟨ds,rs,h3⟩:=tM aL r1 h1;show hp U1 H1 ds _ _ aL.zs rs (qO aL h3)
theorem zn3(hp:bA X.K cA p (r2 (Ss X.K)))(ha:SE X cA ao aj F EX a A)(hb:SE X cA ao aj F EX b B)(hs:qD b:=by intro _ _;rfl):SE X cA ao aj F EX (.Subscript a b pos) (.pr true p (.cons A (.cons B .nil))):=PE.weak (zn7 zm5 ha hb hs) λZ H Q hh=>un hh λU J s hL hS h=>by
 let h:Run X.K cA (M.bd (M.bd (ev ao aj F A J) λx=>M.bd (M.bd (ev ao aj F B J) λy=>M.bd (M.ret []) λz=>M.ret (y::z)) λys=>M.ret (x::ys)) λvs=>M.bd (gM vs) λds=>bN true (prim p ds)) U H s _ _:=h;simp only[j_]at h;show bO hL hS h λx H1 U1 d1 s1 x1 hL1 aL r1 h1=>bO hL1 aL h1 λy H2 U2 d2 s2 x2 hL2 hS2 r2' h2=>?_;show DQ (Px (fz:=true) (U:=U) x2 aL hS2 r1 r2' h2 hp)
theorem zov(ho:OJ X (unaryOp op) r)(hp:bA X.K cA p (λvs H Q=>∃x,vs=[x]/\r x H Q))(ha:SE X cA ao aj F EX a A):SE X cA ao aj F EX (.UnaryOp op a pos) (.pr true p (.cons A .nil)):=PE.weak (Zi ho ha) λZ H Q hh=>un hh λU J s hL hS h=>by
 let h:Run X.K cA (M.bd (M.bd (ev ao aj F A J) λx=>M.bd (M.ret []) λz=>M.ret (x::z)) λvs=>M.bd (gM vs) λds=>bN true (prim p ds)) U H s _ _:=h;simp only[j_]at h;show bO hL hS h λx H1 U1 d1 s1 x1 hL1 aL r1 h1=>?_;let⟨ds,rs,h3⟩:=tM aL (.cons r1 .nil) h1;let⟨_,e,q⟩:=hp U1 H1 ds _ _ aL.zs rs (qO aL h3);cases e;show q
theorem zlf{j p'}(ha:SE X cA ao aj F EX a A):SE X cA ao aj F EX (.Compare a [.Is] [.Constant .none j p'] pos) (.pr true .J1 (.cons A .nil)):=PE.weak (zl4 (zlw ha)) λZ H Q hh=>un hh λU J s hL hS h=>by
 let h:Run X.K cA (M.bd (M.bd (ev ao aj F A J) λx=>M.bd (M.ret []) λz=>M.ret (x::z)) λvs=>M.bd (gM vs) λds=>bN true (prim .J1 ds)) U H s _ _:=h;simp only[j_]at h;show bO hL hS h λx H1 U1 d1 s1 x1 hL1 aL r1 h1=>?_;let⟨ds,rs,h3⟩:=tM aL (.cons r1 .nil) h1;cases rs with
 |cons r rs=>cases rs with
  |nil=>
   rename_i d;let h4:=qO aL h3;let q:=h4 H1 _ bx.refl (.bl _);cases d<;>first
    |(let⟨_,_,rfl,_,_⟩:=r;show q)
    |(cases (show Rep _ _ _ _ _ x from r)<;>show q)
theorem zhR(q:Pr)(hq:prim q=Dy f)(hh:yL X.K cA EX (λJ=>M.bd (ev ao aj F (.pr true q (.cons A .nil)) J) bool) Z H Q):tE X.K cA EX (ev ao aj F A) Z H λx H1=>Q (f (decide (x=.non))) H1:=un hh λU J s hL hS h=>by
 let h:Run X.K cA (M.bd (M.bd (M.bd (ev ao aj F A J) λx=>M.bd (M.ret []) λz=>M.ret (x::z)) λvs=>M.bd (gM vs) λds=>bN true (prim q ds)) bool) U H s _ _:=h;simp only[j_]at h;show bO hL hS h λx H1 U1 d1 s1 x1 hL1 aL r1 h1=>?_;let⟨ds,rs,h3⟩:=tM aL (.cons r1 .nil) h1;cases rs with
 |cons r rs=>cases rs with
  |nil=>
   rename_i d;rw[hq]at h3;let h4:Run X.K cA (M.bd (M.ret (Xv.d (.bl (f d.Aw)))) bool) U1 H1 s1 (λd _ U' H'=>Q d H') (eX X.K cA EX Z):=h3;let q:=h4 U1 H1 Ext.refl aL;cases d<;>first
    |(let⟨_,_,rfl,_,_⟩:=r;show q)
    |(cases (show Rep _ _ _ _ _ x from r)<;>show q)
theorem zj4{j p'}(ha:SE X cA ao aj F EX a A):ST X cA ao aj F EX (.Compare a [.IsNot] [.Constant .none j p'] pos) (.pr true .J3 (.cons A .nil)):=PT.weak (znw (zk8 ha)) λZ H Q hh=>by
 let:=zhR .J3 (f:=not) rfl hh;let⟨U,J,s,a,b,c⟩:=this;show⟨U,J,s,a,b,c.imp λd s' U' H' k v rv=>⟨_,rfl,k v rv⟩⟩
end
mutual
inductive Is (h:Heap):D->Value->Prop where
 |non:Is h .non .none
 |bl (b:Bool):Is h (.bl b) (.bool b)
 |int (i:Int) (t:Tok):Is h (.int i) (.int i t)
 |str (x:Str) (t:Tok):Is h (.str x) (.str x t)
 |tup {a:Addr} {xs:List D} {its:List Value} (p:h.IsTuple a its.toArray) (r:jz h xs its):Is h (.tup xs) (.ref a)
 |fl {a:Addr} {xs:List D} {its:List Value} (p:h.IsList a its.toArray) (r:jz h xs its):Is h (.fl xs) (.ref a)
 |oth {d:D} {u:Value} (k:kq d=none):Is h d u
inductive jz (h:Heap):List D->List Value->Prop where
 |nil:jz h [] []
 |cons {d:D} {u:Value} {ds:List D} {us:List Value} (a:Is h d u) (r:jz h ds us):jz h (d::ds) (u::us)
end
section
variable {X:Cx}{cA:Cl}{ak:List (Addr×Obj)}{Z:L2.St}{H:Hp}{s:Shared}{U:Ph}{h:Heap}
theorem Uo(I:Inv X ak Z H s){ds:List D}{vs:List V}{us:List Value}(h:aD X.K cA U H ds vs)(r:Vals vs us):jz s.heap ds us:=
 aD.rec (motive_1:=λd v _=>∀{u:Value},RelV v u->Is s.heap d u) (motive_2:=λd v _=>∀{u:List Value},Vals v u->jz s.heap d u) (λr=>by cases r;show .non) (λb _ r=>by cases r;show .bl b) (λi _ r=>by let⟨t,rfl⟩:=r;show .int i t) (λi _ r=>by let⟨t,rfl⟩:=r;show .str i t)
 (λh _ ih _ r=>by
  cases r;let⟨its,rv,ht,_⟩:=I.tuple h.jw;show .tup ht (ih rv))
 (λh _ ih _ r=>by
  cases r;let⟨its,rv,ht,_⟩:=I.list h.tL;show .fl ht.isList (ih rv))
 (λ_ _ _ _=>.oth rfl) (λ_ _ _ _ _=>.oth rfl) (λ_ _ _ _ _=>.oth rfl) (λ_ _ _=>.oth rfl)
 (λr=>by cases r;show .nil)
 (λ_ _ i j _ r=>by
  cases r with
  |cons a b=>show .cons (i a) (j b)) h r
theorem yO(I:Inv X ak Z H s){d:D}{v:V}{u:Value}(h:Rep X.K cA U H d v)(r:RelV v u):Is s.heap d u:=by
 cases h with
 |non=>cases r;show .non|bl b=>cases r;show .bl b|int i=>let⟨t,rfl⟩:=r;show .int i t|str i=>let⟨t,rfl⟩:=r;show .str i t|tup h q=>
  cases r;let⟨its,rv,ht,_⟩:=I.tuple h.jw;show .tup ht (Uo I q rv)
 |fl h q=>
  cases r;let⟨its,rv,ht,_⟩:=I.list h.tL;show .fl ht.isList (Uo I q rv)
 |fd _ _=>show .oth rfl|exc _ _=>show .oth rfl|ob _ _=>show .oth rfl|any _=>show .oth rfl
theorem uY(I:Inv X ak Z H s){d:D}{v:V}{u:Value}(q:Rv X.K cA U H d v)(r:RelV v u):Is s.heap d u:=by
 cases d with
 |fl xs=>
  let⟨a,vs,rfl,sq,rs⟩:=q;cases r;let⟨its,rv,ht,_⟩:=I.list sq;show .fl ht.isList (Uo I rs rv)
 |non=>show yO I q r|bl b=>show yO I q r|int b=>show yO I q r|str b=>show yO I q r|tup b=>show yO I q r|fd b c=>show yO I q r|exc b c=>show yO I q r|ob b c=>show yO I q r|any=>show yO I q r
theorem jz.len{ds:List D}{us:List Value}(r:jz h ds us):ds.length=us.length:=by
 induction ds generalizing us with
 |nil=>cases r;rfl|cons a d ih=>cases r with|cons _ r=>rw[fP,fP,ih r]
theorem jz.get:∀{ds:List D} {us:List Value} {i:Nat} {d:D},jz h ds us->ds[i]?=some d->∃u,us[i]?=some u/\Is h d u
 |_,_,_,_,.nil,e=>by simp at e|_,_,0,_,.cons h _,e=>by simp at e;subst e;show⟨_,rfl,h⟩|_,_,i+1,d,.cons _ r,e=>by
  let⟨v,a,b⟩:=jz.get (i:=i) (d:=d) r (by simpa using e);show⟨v,by simpa using a,b⟩
theorem zeh{a:Addr}{is js:Array Value}(p:h.IsTuple a is)(q:h.IsTuple a js):is=js:=by
 let⟨o,e,c,n,d⟩:=p;let⟨o',e',c',n',d'⟩:=q;rw[e]at e';cases e';rw[d]at d';cases d';rfl
theorem zeo{a:Addr}{is js:Array Value}(p:h.IsList a is)(q:h.IsList a js):is=js:=by
 let⟨o,e,c,n,d⟩:=p;let⟨o',e',c',n',d'⟩:=q;rw[e]at e';cases e';rw[d]at d';cases d';rfl
theorem Gq{a:Addr}{is js:Array Value}(p:h.IsList a is)(q:h.IsTuple a js):False:=by
 let⟨o,e,c,n,d⟩:=p;let⟨o',e',c',n',d'⟩:=q;rw[e]at e';cases e';rw[c]at c';show absurd c' V8
theorem Ku{eq:D->D->Option Bool}:∀{xs ys:List D} {b:Bool},jF eq xs ys=some b->∃e:Nat->Bool,(∀(j:Nat) x y,xs[j]?=some x->ys[j]?=some y->eq x y=some (e j))/\b=((List.range (min xs.length ys.length)).all e&&xs.length==ys.length)
 |[],[],b,h=>by cases h;show⟨λ_=>true,λj x y q=>by simp at q,by simp⟩|[],y::ys,b,h=>by cases h;show⟨λ_=>true,λj x y q=>by simp at q,by simp⟩|x::xs,[],b,h=>by cases h;show⟨λ_=>true,λj x y q r=>by simp at r,by simp⟩|x::xs,y::ys,b,h=>by
  simp only[jF]at h;cases e1:eq x y with
  |none=>rw[e1]at h;cases h|some a=>
   cases e2:jF eq xs ys with
   |none=>rw[e1,e2]at h;cases h|some c=>
    rw[e1,e2]at h;cases h;let⟨e,h1,h2⟩:=Ku e2;show⟨λj=>match j with|0=>a|j+1=>e j,λj p q r1 r2=>?_,?_⟩
    .cases j with
     |zero=>
      simp at r1 r2;subst r1 r2;show e1
     |succ j=>show h1 j p q (by simpa using r1) (by simpa using r2)
    .rw[h2];simp only[fP,Nat.succ_min_succ,Q8,xQ,HS,Function.comp_def];rw[Bool.and_assoc]
     congr 2
     simp
theorem tO{n:Nat}{d e:D}(k:kq d=none):dz n d e=none:=by
 cases n<;>cases d<;>first|cases k;done|(cases e<;>rfl)
theorem iJ{n:Nat}{d e:D}(k:kq e=none):dz n d e=none:=by
 cases n<;>cases e<;>first|cases k;done|(cases d<;>rfl)
theorem zd8:∀(n:Nat) {d1 d2:D} {u:Value} {b:Bool},Is h d1 u->Is h d2 u->dz n d1 d2=some b->b=true:=by
 intro n;let rows:∀(n:Nat),(∀{d1 d2:D} {u:Value} {b:Bool},Is h d1 u->Is h d2 u->dz n d1 d2=some b->b=true)->∀{xs ys:List D} {is js:List Value} {b:Bool},jz h xs is->jz h ys js->is.toArray=js.toArray->jF (dz n) xs ys=some b->b=true:=by
  intro n ih xs ys is js b q1 q2 e hd;let e:is=js:=by simpa using e
  subst e;let⟨e,a1,a2⟩:=Ku (eq:=dz n) hd;rw[a2];let hl:_=_:=q1.len.trans q2.len.symm;rw[dZ];show⟨gY.mpr λj hj=>?_,by rw[hl];simp⟩;let hj:=gC.mp hj;obtain⟨x,hx⟩ : ∃x,_=some x:=⟨_,dW (dF hj (N_ _ _))⟩;obtain⟨y,hy⟩ : ∃y,_=some y:=⟨_,dW (dF hj (Nat.min_le_right _ _))⟩;let⟨v1,e1,p1⟩:=q1.get hx;let⟨v2,e2,p2⟩:=q2.get hy;rw[e1]at e2;cases e2;show ih p1 p2 (a1 j x y hx hy)
 induction n with
 |zero=>
  intro d1 d2 u b r1 r2 hd;cases r1 with
  |oth k=>rw[tO k]at hd;cases hd|non=>cases r2 with
   |oth k=>rw[iJ k]at hd;cases hd|non=>cases hd;rfl
  |bl x=>cases r2 with
   |oth k=>rw[iJ k]at hd;cases hd|bl y=>cases hd;simp
  |int x t=>cases r2 with
   |oth k=>rw[iJ k]at hd;cases hd|int y=>cases hd;simp
  |str x t=>cases r2 with
   |oth k=>rw[iJ k]at hd;cases hd|str y=>cases hd;simp
  |tup p q=>cases r2 with
   |oth k=>rw[iJ k]at hd;cases hd|tup p2 q2=>cases hd|fl p2 q2=>show(Gq p2 p).elim
  |fl p q=>cases r2 with
   |oth k=>rw[iJ k]at hd;cases hd|fl p2 q2=>cases hd|tup p2 q2=>show(Gq p p2).elim
 |succ n ih=>
  intro d1 d2 u b r1 r2 hd;cases r1 with
  |oth k=>rw[tO k]at hd;cases hd|non=>cases r2 with
   |oth k=>rw[iJ k]at hd;cases hd|non=>cases hd;rfl
  |bl x=>cases r2 with
   |oth k=>rw[iJ k]at hd;cases hd|bl y=>cases hd;simp
  |int x t=>cases r2 with
   |oth k=>rw[iJ k]at hd;cases hd|int y=>cases hd;simp
  |str x t=>cases r2 with
   |oth k=>rw[iJ k]at hd;cases hd|str y=>cases hd;simp
  |tup p q=>cases r2 with
   |oth k=>rw[iJ k]at hd;cases hd|tup p2 q2=>show rows n ih q q2 (zeh p p2) hd|fl p2 q2=>show(Gq p2 p).elim
  |fl p q=>cases r2 with
   |oth k=>rw[iJ k]at hd;cases hd|fl p2 q2=>show rows n ih q q2 (zeo p p2) hd|tup p2 q2=>show(Gq p p2).elim
theorem parts{n:Nat}{A:Around}{xs ys:List D}{is js:List Value}{b:Bool}(r1:jz s.heap xs is)(r2:jz s.heap ys js)(hd:jF (dz n) xs ys=some b)
  (ih:∀{d1 d2:D} {u1 u2:Value} {b:Bool},Is s.heap d1 u1->Is s.heap d2 u2->dz n d1 d2=some b->SeqAt.EqAt A s u1 u2 b) :
  ∃e:Nat->Bool,(∀j (h1:j<is.toArray.size) (h2:j<js.toArray.size),SeqAt.EqAt A s is.toArray[j] js.toArray[j] (e j))/\b=((List.range (min is.toArray.size js.toArray.size)).all e&&is.toArray.size==js.toArray.size):=by
 let⟨e,a1,a2⟩:=Ku hd;let z1:=r1.len;let z2:=r2.len;show⟨e,λj h1 h2=>?_,by simp only[dH,<-z1,<-z2];show a2⟩;simp only[dH]at h1 h2;obtain⟨x,hx⟩ : ∃x,xs[j]?=some x:=⟨_,dW (by rw[z1];show h1)⟩;obtain⟨y,hy⟩ : ∃y,ys[j]?=some y:=⟨_,dW (by rw[z2];show h2)⟩;let⟨u,f1,g1⟩:=r1.get hx;let⟨u',f2,g2⟩:=r2.get hy;let k1:is.toArray[j]=u:=by
  let:=h_.mp f1;simpa using this.2
 let k2:js.toArray[j]=u':=by
  let:=h_.mp f2;simpa using this.2
 rw[k1,k2];show ih g1 g2 (a1 j x y hx hy)
theorem zed{A:Around}{l m:Addr}{is js:Array Value}{e:Nat->Bool}{b:Bool}(p1:s.heap.IsList l is)(p2:s.heap.IsList m js)(hu:A.units<cLine)(he:∀j (h1:j<is.size) (h2:j<js.size),SeqAt.EqAt A.in1 s is[j] js[j] (e j))(hb:b=((List.range (min is.size js.size)).all e&&is.size==js.size)):SeqAt.RcAt A s (.ref l) (.ref m) b:=by
 by_cases hz:is.size=js.size
 .let:b=(List.range is.size).all e:=by rw[hb,hz];simp
  rw[this];show SeqAt.RcAt.lists p1 p2 hz hu he
 .let Uq:(is.size != js.size)=true:=by simpa using hz
  let:b=false:=by rw[hb];simp[hz]
  rw[this];show SeqAt.RcAt.lists_lengths p1 p2 Uq hu
theorem zgo{A:Around}{l m:Addr}{is js:Array Value}{e:Nat->Bool}{b:Bool}(p1:s.heap.IsList l is)(p2:s.heap.IsList m js)(hu:A.units<cLine)(he:∀j (h1:j<is.size) (h2:j<js.size),SeqAt.EqAt A.in1 s is[j] js[j] (e j))(hb:b=((List.range (min is.size js.size)).all e&&is.size==js.size)):SeqAt.RcNeAt A s (.ref l) (.ref m) (!b):=by
 by_cases hz:is.size=js.size
 .let:b=(List.range is.size).all e:=by rw[hb,hz];simp
  rw[this];show SeqAt.RcNeAt.lists p1 p2 hz hu he
 .let Uq:(is.size != js.size)=true:=by simpa using hz
  let:b=false:=by rw[hb];simp[hz]
  rw[this];show SeqAt.RcNeAt.lists_lengths p1 p2 Uq hu
open SeqAt in
theorem DX:∀(n:Nat) {A:Around} {d1 d2:D} {u1 u2:Value} {b:Bool},A.units+n<cLine->Is s.heap d1 u1->Is s.heap d2 u2->dz n d1 d2=some b->SeqAt.EqAt A s u1 u2 b:=by
 intro n
 induction n with
 |zero=>
  intro A d1 d2 u1 u2 b hu r1 r2 hd;let hu:A.units<cLine:=by lia
  cases r1 with
  |oth k=>rw[tO k]at hd;cases hd|non=>cases r2 with
   |oth k=>rw[iJ k]at hd;cases hd|non=>cases hd;show EqAt.same _|bl y=>cases hd;show EqAt.none_bool _|int y t=>cases hd;show EqAt.none_int _ _|str y t=>cases hd;show EqAt.none_str _ _|tup p q=>cases hd;show EqAt.none_tuple p hu|fl p q=>cases hd;show EqAt.none_list p hu
  |bl x=>cases r2 with
   |oth k=>rw[iJ k]at hd;cases hd|non=>cases hd;show EqAt.bool_none _|bl y=>cases hd;show EqAt.bool_bool _ _|int y t=>cases hd;show EqAt.bool_int _ _ _|str y t=>cases hd;show EqAt.bool_str _ _ _|tup p q=>cases hd;show EqAt.bool_tuple _ p hu|fl p q=>cases hd;show EqAt.bool_list _ p hu
  |int x t=>cases r2 with
   |oth k=>rw[iJ k]at hd;cases hd|non=>cases hd;show EqAt.int_none _ _|bl y=>cases hd;show EqAt.int_bool _ _ _|int y t=>cases hd;show EqAt.int_int _ _ _ _|str y t=>cases hd;show EqAt.int_str _ _ _ _|tup p q=>cases hd;show EqAt.int_tuple _ _ p hu|fl p q=>cases hd;show EqAt.int_list _ _ p hu
  |str x t=>cases r2 with
   |oth k=>rw[iJ k]at hd;cases hd|non=>cases hd;show EqAt.str_none _ _|bl y=>cases hd;show EqAt.str_bool _ _ _|int y t=>cases hd;show EqAt.str_int _ _ _ _|str y t=>cases hd;show EqAt.str_str _ _ _ _|tup p q=>cases hd;show EqAt.str_tuple _ _ p hu|fl p q=>cases hd;show EqAt.str_list _ _ p hu
  |tup p q=>cases r2 with
   |oth k=>rw[iJ k]at hd;cases hd|non=>cases hd;show EqAt.tuple_none p hu|bl y=>cases hd;show EqAt.tuple_bool _ p hu|int y t=>cases hd;show EqAt.tuple_int _ _ p hu|str y t=>cases hd;show EqAt.tuple_str _ _ p hu|tup p2 q2=>cases hd|fl p2 q2=>cases hd;show EqAt.tuple_list p p2 hu
  |fl p q=>cases r2 with
   |oth k=>rw[iJ k]at hd;cases hd|non=>cases hd;show EqAt.list_none p hu|bl y=>cases hd;show EqAt.list_bool _ p hu|int y t=>cases hd;show EqAt.list_int _ _ p hu|str y t=>cases hd;show EqAt.list_str _ _ p hu|tup p2 q2=>cases hd;show EqAt.list_tuple p p2 hu|fl p2 q2=>cases hd
 |succ n ih=>
  intro A d1 d2 u1 u2 b hu0 r1 r2 hd;let hu:A.units<cLine:=by lia
  let fL:A.in1.units+n<cLine:=by change A.units+1+n<cLine;lia
  cases r1 with
  |oth k=>rw[tO k]at hd;cases hd|non=>cases r2 with
   |oth k=>rw[iJ k]at hd;cases hd|non=>cases hd;show EqAt.same _|bl y=>cases hd;show EqAt.none_bool _|int y t=>cases hd;show EqAt.none_int _ _|str y t=>cases hd;show EqAt.none_str _ _|tup p q=>cases hd;show EqAt.none_tuple p hu|fl p q=>cases hd;show EqAt.none_list p hu
  |bl x=>cases r2 with
   |oth k=>rw[iJ k]at hd;cases hd|non=>cases hd;show EqAt.bool_none _|bl y=>cases hd;show EqAt.bool_bool _ _|int y t=>cases hd;show EqAt.bool_int _ _ _|str y t=>cases hd;show EqAt.bool_str _ _ _|tup p q=>cases hd;show EqAt.bool_tuple _ p hu|fl p q=>cases hd;show EqAt.bool_list _ p hu
  |int x t=>cases r2 with
   |oth k=>rw[iJ k]at hd;cases hd|non=>cases hd;show EqAt.int_none _ _|bl y=>cases hd;show EqAt.int_bool _ _ _|int y t=>cases hd;show EqAt.int_int _ _ _ _|str y t=>cases hd;show EqAt.int_str _ _ _ _|tup p q=>cases hd;show EqAt.int_tuple _ _ p hu|fl p q=>cases hd;show EqAt.int_list _ _ p hu
  |str x t=>cases r2 with
   |oth k=>rw[iJ k]at hd;cases hd|non=>cases hd;show EqAt.str_none _ _|bl y=>cases hd;show EqAt.str_bool _ _ _|int y t=>cases hd;show EqAt.str_int _ _ _ _|str y t=>cases hd;show EqAt.str_str _ _ _ _|tup p q=>cases hd;show EqAt.str_tuple _ _ p hu|fl p q=>cases hd;show EqAt.str_list _ _ p hu
  |@tup a1 xs is p q=>cases r2 with
   |oth k=>rw[iJ k]at hd;cases hd|non=>cases hd;show EqAt.tuple_none p hu|bl y=>cases hd;show EqAt.tuple_bool _ p hu|int y t=>cases hd;show EqAt.tuple_int _ _ p hu|str y t=>cases hd;show EqAt.tuple_str _ _ p hu|@tup a2 ys js p2 q2=>
    by_cases ea:a1=a2
    .subst ea;let:=zd8 (n+1) (.tup p q) (.tup p2 q2) hd;subst this;show EqAt.same _
    .obtain⟨e,he,hb⟩:=parts (A:=A.in1) q q2 hd λa b c=>ih fL a b c;rw[hb];show EqAt.of_refs ea (RcAt.tuples p p2 hu he)
   |fl p2 q2=>cases hd;show EqAt.tuple_list p p2 hu
  |@fl a1 xs is p q=>cases r2 with
   |oth k=>rw[iJ k]at hd;cases hd|non=>cases hd;show EqAt.list_none p hu|bl y=>cases hd;show EqAt.list_bool _ p hu|int y t=>cases hd;show EqAt.list_int _ _ p hu|str y t=>cases hd;show EqAt.list_str _ _ p hu|tup p2 q2=>cases hd;show EqAt.list_tuple p p2 hu|@fl a2 ys js p2 q2=>
    by_cases ea:a1=a2
    .subst ea;let:=zd8 (n+1) (.fl p q) (.fl p2 q2) hd;subst this;show EqAt.same _
    .obtain⟨e,he,hb⟩:=parts (A:=A.in1) q q2 hd λa b c=>ih fL a b c;show EqAt.of_refs ea (zed p p2 hu he hb)
end
section
variable {X:Cx}{cA:Cl}{ak:List (Addr×Obj)}{Z:L2.St}{H:Hp}{s:Shared}{U:Ph}{h:Heap}
open SeqAt in
theorem zft(hu0:A.units+(n+1)<cLine)(r1:Is s.heap d1 u1)(r2:Is s.heap d2 u2)(hd:dz (n+1) d1 d2=some b):RcAt A s u1 u2 b/\RcNeAt A s u1 u2 (!b):=by
 let hu:A.units<cLine:=by lia
 let fL:A.in1.units+n<cLine:=by change A.units+1+n<cLine;lia
 cases r1 with
 |oth k=>rw[tO k]at hd;cases hd|non=>cases r2 with
  |oth k=>rw[iJ k]at hd;cases hd|non=>cases hd;show⟨RcAt.none_none,RcNeAt.none_none⟩|bl y=>cases hd;show⟨RcAt.none_bool _,RcNeAt.none_bool _⟩|int y t=>cases hd;show⟨RcAt.none_int _ _,RcNeAt.none_int _ _⟩|str y t=>cases hd;show⟨RcAt.none_str _ _,RcNeAt.none_str _ _⟩|tup p q=>cases hd;show⟨RcAt.none_tuple p hu,RcNeAt.none_tuple p hu⟩|fl p q=>cases hd;show⟨RcAt.none_list p hu,RcNeAt.none_list p hu⟩
 |bl x=>cases r2 with
  |oth k=>rw[iJ k]at hd;cases hd|non=>cases hd;show⟨RcAt.bool_none _,RcNeAt.bool_none _⟩|bl y=>cases hd;show⟨RcAt.bool_bool _ _,RcNeAt.bool_bool _ _⟩|int y t=>cases hd;show⟨RcAt.bool_int _ _ _,RcNeAt.bool_int _ _ _⟩|str y t=>cases hd;show⟨RcAt.bool_str _ _ _,RcNeAt.bool_str _ _ _⟩|tup p q=>cases hd;show⟨RcAt.bool_tuple _ p hu,RcNeAt.bool_tuple _ p hu⟩|fl p q=>cases hd;show⟨RcAt.bool_list _ p hu,RcNeAt.bool_list _ p hu⟩
 |int x t=>cases r2 with
  |oth k=>rw[iJ k]at hd;cases hd|non=>cases hd;show⟨RcAt.int_none _ _,RcNeAt.int_none _ _⟩|bl y=>cases hd;show⟨RcAt.int_bool _ _ _,RcNeAt.int_bool _ _ _⟩|int y t=>cases hd;show⟨RcAt.int_int _ _ _ _,RcNeAt.int_int _ _ _ _⟩|str y t=>cases hd;show⟨RcAt.int_str _ _ _ _,RcNeAt.int_str _ _ _ _⟩|tup p q=>cases hd;show⟨RcAt.int_tuple _ _ p hu,RcNeAt.int_tuple _ _ p hu⟩|fl p q=>cases hd;show⟨RcAt.int_list _ _ p hu,RcNeAt.int_list _ _ p hu⟩
 |str x t=>cases r2 with
  |oth k=>rw[iJ k]at hd;cases hd|non=>cases hd;show⟨RcAt.str_none _ _,RcNeAt.str_none _ _⟩|bl y=>cases hd;show⟨RcAt.str_bool _ _ _,RcNeAt.str_bool _ _ _⟩|int y t=>cases hd;show⟨RcAt.str_int _ _ _ _,RcNeAt.str_int _ _ _ _⟩|str y t=>cases hd;show⟨RcAt.str_str _ _ _ _,RcNeAt.str_str _ _ _ _⟩|tup p q=>cases hd;show⟨RcAt.str_tuple _ _ p hu,RcNeAt.str_tuple _ _ p hu⟩|fl p q=>cases hd;show⟨RcAt.str_list _ _ p hu,RcNeAt.str_list _ _ p hu⟩
 |@tup a1 xs is p q=>cases r2 with
  |oth k=>rw[iJ k]at hd;cases hd|non=>cases hd;show⟨RcAt.tuple_none p hu,RcNeAt.tuple_none p hu⟩|bl y=>cases hd;show⟨RcAt.tuple_bool _ p hu,RcNeAt.tuple_bool _ p hu⟩|int y t=>cases hd;show⟨RcAt.tuple_int _ _ p hu,RcNeAt.tuple_int _ _ p hu⟩|str y t=>cases hd;show⟨RcAt.tuple_str _ _ p hu,RcNeAt.tuple_str _ _ p hu⟩|@tup a2 ys js p2 q2=>
   let⟨e,he,hb⟩:=parts (A:=A.in1) q q2 hd λa b c=>DX n fL a b c;rw[hb];show⟨RcAt.tuples p p2 hu he,RcNeAt.tuples p p2 hu he⟩
  |fl p2 q2=>cases hd;show⟨RcAt.tuple_list p p2 hu,RcNeAt.tuple_list p p2 hu⟩
 |@fl a1 xs is p q=>cases r2 with
  |oth k=>rw[iJ k]at hd;cases hd|non=>cases hd;show⟨RcAt.list_none p hu,RcNeAt.list_none p hu⟩|bl y=>cases hd;show⟨RcAt.list_bool _ p hu,RcNeAt.list_bool _ p hu⟩|int y t=>cases hd;show⟨RcAt.list_int _ _ p hu,RcNeAt.list_int _ _ p hu⟩|str y t=>cases hd;show⟨RcAt.list_str _ _ p hu,RcNeAt.list_str _ _ p hu⟩|tup p2 q2=>cases hd;show⟨RcAt.list_tuple p p2 hu,RcNeAt.list_tuple p p2 hu⟩|@fl a2 ys js p2 q2=>
   let⟨e,he,hb⟩:=parts (A:=A.in1) q q2 hd λa b c=>DX n fL a b c;show⟨zed p p2 hu he hb,zgo p p2 hu he hb⟩
noncomputable def yP(K:W.Frag)(cA:Cl)(f:Bool->Bool):R2:=λx y H Q=>∃U d1 d2 b,Rv K cA U H d1 x/\Rv K cA U H d2 y/\dz 50 d1 d2=some b/\Q (.bl (f b)) H
theorem znN(hu:X.A.units+60<cLine):fH X (compareOp .Eq) (yP X.K cA id):=by
 rintro ak s Z H x y v u Q I rx ry ⟨U,d1,d2,b,r1,r2,hd,q⟩;show(zft (n:=49) gV (uY I r1 rx) (uY I r2 ry) hd).1 X.prog X.w X.xe _ ⟨.bl b,H,I,rfl,q⟩
theorem zm1(hu:X.A.units+60<cLine):fH X (compareOp .NotEq) (yP X.K cA not):=by
 rintro ak s Z H x y v u Q I rx ry ⟨U,d1,d2,b,r1,r2,hd,q⟩;show(zft (n:=49) gV (uY I r1 rx) (uY I r2 ry) hd).2 X.prog X.w X.xe _ ⟨.bl (!b),H,I,rfl,q⟩
theorem zfn:∀(n:Nat) {d d' x:D} {u:Value} {b b':Bool},Is h d u->Is h d' u->dz n d x=some b->dz n d' x=some b'->b=b':=by
 intro n;let tn:∀{n:Nat} {xs xs':List D} {x:D},(∀ys,x=.tup ys->False)->dz n (.tup xs) x=dz n (.tup xs') x:=λ{n xs xs' x} hx=>by
  cases n<;>cases x<;>first|rfl|exact(hx _ rfl).elim
 let ln:∀{n:Nat} {xs xs':List D} {x:D},(∀ys,x=.fl ys->False)->dz n (.fl xs) x=dz n (.fl xs') x:=λ{n xs xs' x} hx=>by
  cases n<;>cases x<;>first|rfl|exact(hx _ rfl).elim
 let main:∀{n:Nat},(∀{xs xs' ys:List D} {is js:List Value} {b b':Bool},jz h xs is->jz h xs' js->is.toArray=js.toArray->dz n (.tup xs) (.tup ys)=some b->dz n (.tup xs') (.tup ys)=some b'->b=b')->(∀{xs xs' ys:List D} {is js:List Value} {b b':Bool},jz h xs is->jz h xs' js->is.toArray=js.toArray->dz n (.fl xs) (.fl ys)=some b->dz n (.fl xs') (.fl ys)=some b'->b=b')->∀{d d' x:D} {u:Value} {b b':Bool},Is h d u->Is h d' u->dz n d x=some b->dz n d' x=some b'->b=b':=by
  intro n R L d d' x u b b' r1 r2 h1 h2;cases r1 with
  |oth k=>rw[tO k]at h1;cases h1|non=>cases r2 with
   |oth k=>rw[tO k]at h2;cases h2|non=>rw[h1]at h2;show dM h2
  |bl y=>cases r2 with
   |oth k=>rw[tO k]at h2;cases h2|bl=>rw[h1]at h2;show dM h2
  |int y=>cases r2 with
   |oth k=>rw[tO k]at h2;cases h2|int=>rw[h1]at h2;show dM h2
  |str y=>cases r2 with
   |oth k=>rw[tO k]at h2;cases h2|str=>rw[h1]at h2;show dM h2
  |tup p q=>cases r2 with
   |oth k=>rw[tO k]at h2;cases h2|tup p2 q2=>
    cases x with
    |tup ys=>show R q q2 (zeh p p2) h1 h2|_=>rw[tn (by intro ys z;cases z),h2]at h1;show(dM h1).symm
   |fl p2 q2=>show(Gq p2 p).elim
  |fl p q=>cases r2 with
   |oth k=>rw[tO k]at h2;cases h2|fl p2 q2=>
    cases x with
    |fl ys=>show L q q2 (zeo p p2) h1 h2|_=>rw[ln (by intro ys z;cases z),h2]at h1;show(dM h1).symm
   |tup p2 q2=>show(Gq p p2).elim
 induction n with
 |zero=>
  intro d d' x u b b' r1 r2;show main (n:=0) (λ_ _ _ z=>by cases z) (λ_ _ _ z=>by cases z) r1 r2
 |succ n ih=>
  let rows:∀{xs xs' ys:List D} {is js:List Value} {b b':Bool},jz h xs is->jz h xs' js->is.toArray=js.toArray->jF (dz n) xs ys=some b->jF (dz n) xs' ys=some b'->b=b':=by
   intro xs xs' ys is js b b' q1 q2 e h1 h2;let e:is=js:=by simpa using e
   subst e;let⟨e1,a1,b1⟩:=Ku h1;let⟨e2,a2,b2⟩:=Ku h2;let hl:xs.length=xs'.length:=q1.len.trans q2.len.symm;rw[b1,b2,hl]
   congr 1
   rw[Bool.eq_iff_iff,gY,gY];let key:∀j∈List.range (min xs'.length ys.length),e1 j=e2 j:=λj hj=>by
    let hj:=gC.mp hj;obtain⟨x1,hx1⟩ : ∃x,xs[j]?=some x:=⟨_,dW (by rw[hl];show dF hj (N_ _ _))⟩;obtain⟨x2,Dm⟩ : ∃x,xs'[j]?=some x:=⟨_,dW (dF hj (N_ _ _))⟩;obtain⟨y,hy⟩ : ∃y,ys[j]?=some y:=⟨_,dW (dF hj (Nat.min_le_right _ _))⟩;let⟨v1,f1,p1⟩:=q1.get hx1;let⟨v2,f2,p2⟩:=q2.get Dm;rw[f1]at f2;cases f2;show ih p1 p2 (a1 j x1 y hx1 hy) (a2 j x2 y Dm hy)
   show⟨λz j hj=>by rw[<-key j hj];show z j hj,λz j hj=>by rw[key j hj];show z j hj⟩
  intro d d' x u b b' r1 r2;show main (n:=n+1) rows rows r1 r2
theorem Ur:∀{xs:List D} {b:Bool},memD x xs=some b->∀d∈xs,∃k,dz 50 d x=some k
 |[],_,_,d,hd=>by cases hd|y::xs,b,h,d,hd=>by
  unfold memD at h;cases e1:dz 50 y x with
  |none=>simp only[e1]at h;cases h|some a=>
   cases e2:memD x xs with
   |none=>simp only[e1,e2]at h;cases h|some c=>
    rcases cX.mp hd with rfl|hd
    .exact⟨a,e1⟩
    .exact Ur e2 d hd
theorem Kv:∀{xs:List D} {us:List Value} {b:Bool},memD x xs=some b->jz h xs us->∃e:Value->Bool,(∀u∈us,∃d,Is h d u/\dz 50 d x=some (e u))/\us.any e=b:=by
 intro xs us b hm r;let ex:∀u∈us,∃d k,Is h d u/\dz 50 d x=some k:=by
  intro u hu;let⟨i,hi,e⟩:=Hv hu;let hl:=r.len;obtain⟨d,hd⟩ : ∃d,xs[i]?=some d:=⟨_,dW gV⟩;let⟨u',e1,q⟩:=r.get hd;rw[dW hi,e]at e1;cases e1;let⟨k,hk⟩:=Ur hm d (iH hd);show⟨d,k,q,hk⟩
 show⟨λu=>by classical show if z:∃k,∃d,Is h d u/\dz 50 d x=some k then z.choose else false,λu hu=>?_,?_⟩
 .obtain⟨d,k,q,hk⟩:=ex u hu;let z:∃k,∃d,Is h d u/\dz 50 d x=some k:=⟨k,d,q,hk⟩;dsimp only;rw[dif_pos z];show z.choose_spec
 .clear ex;let key:∀(xs:List D) (us:List Value) (b:Bool),memD x xs=some b->jz h xs us->us.any (λu=>by classical show if z:∃k,∃d,Is h d u/\dz 50 d x=some k then z.choose else false)=b:=by
   intro xs
   induction xs with
   |nil=>intro us b hm r;cases r;cases hm;rfl|cons d ds ih=>
    intro us b hm r;cases r with
    |@cons _ u _ us a r=>
     unfold memD at hm;cases e1:dz 50 d x with
     |none=>simp only[e1]at hm;cases hm|some k=>
      cases e2:memD x ds with
      |none=>simp only[e1,e2]at hm;cases hm|some c=>
       simp only[e1,e2]at hm;cases hm;rw[List.any_cons];let z:∃k,∃d,Is h d u/\dz 50 d x=some k:=⟨k,d,a,e1⟩;let hk:z.choose=k:=by
        let⟨d',q,Ij⟩:=z.choose_spec;show zfn 50 q a Ij e1
       rw[dif_pos z,hk,ih us c e2 r]
  show key xs us b hm r
noncomputable def yQ(K:W.Frag)(cA:Cl)(f:Bool->Bool):R2:=λx y H Q=>∃U d1 d2 xs b,Rv K cA U H d1 x/\Rv K cA U H d2 y/\dX d2=some xs/\memD d1 xs=some b/\Q (.bl (f b)) H
theorem zmE(hu:X.A.units+60<cLine):fH X (compareOp .In) (yQ X.K cA id):=by
 rintro ak s Z H x y v u Q I rx ry ⟨U,d1,d2,xs,b,r1,r2,hq,hm,q⟩;let fL:X.A.in1.units+50<cLine:=by change X.A.units+1+50<cLine;lia
 let i1:=uY I r1 rx;cases uY I r2 ry with
 |tup p r=>
  cases hq;let⟨e,he,hb⟩:=Kv hm r;show SeqAt.in_tupleAt e p (λw hw=>?_) ⟨.bl b,H,I,by rw[<-hb];simp[L2.RelV],q⟩;let⟨d,q1,q2⟩:=he w (by simpa using hw);show DX 50 fL q1 i1 q2
 |fl p r=>
  cases hq;let⟨e,he,hb⟩:=Kv hm r;show SeqAt.in_listAt e p (λw hw=>?_) ⟨.bl b,H,I,by rw[<-hb];simp[L2.RelV],q⟩;let⟨d,q1,q2⟩:=he w (by simpa using hw);show DX 50 fL q1 i1 q2
 |oth k=>cases d2<;>cases hq<;>cases k|_=>cases hq
theorem zk2(hu:X.A.units+60<cLine):fH X (compareOp .NotIn) (yQ X.K cA not):=by
 rintro ak s Z H x y v u Q I rx ry ⟨U,d1,d2,xs,b,r1,r2,hq,hm,q⟩;let fL:X.A.in1.units+50<cLine:=by change X.A.units+1+50<cLine;lia
 let i1:=uY I r1 rx;cases uY I r2 ry with
 |tup p r=>
  cases hq;let⟨e,he,hb⟩:=Kv hm r;show SeqAt.notIn_tupleAt e p (λw hw=>?_) ⟨.bl (!b),H,I,by rw[<-hb];simp[L2.RelV],q⟩;let⟨d,q1,q2⟩:=he w (by simpa using hw);show DX 50 fL q1 i1 q2
 |fl p r=>
  cases hq;let⟨e,he,hb⟩:=Kv hm r;show SeqAt.notIn_listAt e p (λw hw=>?_) ⟨.bl (!b),H,I,by rw[<-hb];simp[L2.RelV],q⟩;let⟨d,q1,q2⟩:=he w (by simpa using hw);show DX 50 fL q1 i1 q2
 |oth k=>cases d2<;>cases hq<;>cases k|_=>cases hq
end
end Mi
namespace HT
open PySem PyProof.Rows
section
variable {prog:Program}{w:World}{A:Around}{E:Value->Shared->Prop}{s:Shared}
theorem uZ{t b:Addr}{vs ws:List Value}{Q:Value->Shared->Prop}(ht:IsTup s.heap t vs.toArray)(hb:IsTup s.heap b ws.toArray)(hv:vs=[])
  (h1:Q (.ref b) s):wpAny (model prog w) A (binaryOp .Add (.ref t) (.ref b)) Q E s:=by
 let⟨⟨cls,dd,data,sl⟩,ho,hc,n,hd⟩:=id ht;let⟨⟨cls2,dd2,data2,sl2⟩,pL,tu,n2,hd2⟩:=id hb;simp only at hc hd tu hd2;subst hc hd tu hd2;show concat_meets ⟨_,ho,rfl⟩ ⟨_,pL,rfl⟩ noFill_tuple_add seq_tuple_add Q7 Q5 (QX _ _)
   (tuple_addW0 t b vs.toArray ws.toArray n n2 dd dd2 sl sl2 (by simp[hv])) ⟨ho,pL,h1⟩
theorem gO{t sl:Addr}{items:Array Value}{vl vu:Value}{lo hi:Option Int}{Q:Value->Shared->Prop}(ht:IsTup s.heap t items)(hs:s.heap.IsSliceOf sl vl vu .none)(pl:IsPart vl lo)(pu:IsPart vu hi)
  (hw:bR items.size 0 lo=0/\bR items.size items.size hi=items.size) (h:Q (.ref t) s):wpAny (model prog w) A (getItem (.ref t) (.ref sl)) Q E s:=by
 let⟨os,rJ,CZ,wB⟩:=id hs;let Jd:s.TypeIs (.ref sl) "slice":=⟨os,rJ,CZ⟩;unfold getItem
 try with_reducible show mj ?_
 first|refine aB (aP ?_)|skip
 show aB (wpAny_sequenceKey ht.typeIs J0 ?_);show aB (v7 (name:=Str.ofString "__getitem__") ht.typeIs xG
  (sU xG ht.typeIs entry_tuple_getitem ?_ (args_tuple_getitem _ _)))
 change wpAny _ _ (Builtin.Tuple.tupleItemsOf (.ref t) >>= _) _ _ s;show aB (tupleItemsOf_ ht ?_);show aB (HJ Jd ?_);rw[if_pos J0];show aB (Zx hs pl pu ?_);let Us:(((bR items.size 0 lo:Nat):Int)==0&&(1:Int)==1&&(bR items.size items.size hi-bR items.size 0 lo)==items.size)=true:=by
  rw[hw.1,hw.2];simp
 change wpAny _ _ (if (((bR items.size 0 lo:Nat):Int)==0&&(1:Int)==1&&(bR items.size items.size hi-bR items.size 0 lo)==items.size)=true then _ else _) _ _ s;rw[if_pos Us];show aB ?_;unfold Builtin.Tuple.tupleIsExact;show aB (HJ ht.typeIs ?_);show aP ?_;rw[if_pos J0];show aB (Gb ?_);show aP ⟨_,rfl,aP h⟩
theorem zbc{i:Int}{t:Tok}{Q:Option Int->Shared->Prop}(h:Q (some i) s):wpAny (model prog w) A (Builtin.Slice.slicePartIndex (.int i t)) Q E s:=Sg (.int i t) h
end
end HT
namespace L2
open PySem PySem.Spec PyProof.Rows
section
variable {X:Cx}{e:Expr}{te:TE}{pos p2:Pos}
noncomputable def u0(K:W.Frag):R2:=λx y H Q=>∃a b xs ys,x=.ref a/\y=.ref b/\fQ K H a xs/\fQ K H b ys/\xs.length+ys.length<=sizeLine /\
 (xs=[]->Q (.ref b) H)/\(ys=[]->Q (.ref a) H)/\∀p,H p=none->Q (.ref p) (upd H p (.tup (xs++ys)))
theorem u5:fH X (binaryOp .Add) (u0 X.K):=by
 intro ak s Z H x y v u Q I rx ry h;let⟨a,b,xs,ys,rfl,rfl,ha,hb,hz,q0,q1,q2⟩:=h;cases rx;cases ry;let⟨its,r1,p1,_⟩:=I.tuple ha;let⟨its2,r2,p2,_⟩:=I.tuple hb;by_cases hx:xs=[]
 .exact HT.uZ p1 p2 (r1.mK.mpr hx) ⟨.ref b,H,I,rfl,q0 hx⟩
 .refine HT.yp p1 p2 (λz=>hx (r1.mK.mp z)) (λz=>⟨.ref a,H,I,rfl,q1 (r2.mK.mp z)⟩) (λz=>?_) (by rw[<-r1.length,<-r2.length];show hz);show⟨.ref s.heap.objs.size,_,I.laid (t':=s.toks) (o:=.tup (xs++ys)) (λb ob q=>dD _ q) (bQ _) ?_,rfl,q2 _ (I.hok.fresh (bQ _))⟩;show⟨by rw[bZ];show hz,_,r1.append r2,jR.new _ _⟩
noncomputable def Bg(K:W.Frag):V->Option Int->Option Int->Hp->VK->Prop:=λx lo hi H Q=>∃a xs,x=.ref a/\fQ K H a xs /\
 ((HT.bR xs.length 0 lo=0/\HT.bR xs.length xs.length hi=xs.length)->Q (.ref a) H)/\∀p,H p=none->Q (.ref p) (upd H p (.tup (mJ xs lo hi)))
theorem zkc:yr X (Bg X.K):=by
 intro ak s Z H x v vl vu lo hi sl Q I rx hs pl pu h;let⟨a,xs,rfl,hx,hw,q⟩:=h;by_cases hz:HT.bR xs.length 0 lo=0/\HT.bR xs.length xs.length hi=xs.length
 .cases rx;let⟨its,r,ht,_⟩:=I.tuple hx;let hlen:its.toArray.size=xs.length:=by rw[dH];show r.length.symm
  show⟨"tuple",_,xG.lookup,ht.typeIs,?_⟩;show HT.gO ht hs pl pu (by rw[hlen];show hz) ⟨.ref a,H,I,rfl,hw hz⟩
 .exact zme ak s Z H (.ref a) v vl vu lo hi sl Q I rx hs pl pu ⟨a,xs,rfl,hx,hz,q⟩
end
section
variable {X:Cx}
noncomputable def Bh(K:W.Frag):R2:=λx y H Q=>∃l b xs zs,x=.ref l/\y=.ref b/\cY K H l xs/\cY K H b zs/\xs.length+zs.length<=sizeLine/\∀p,H p=none->Q (.ref p) (upd H p (.lst (xs++zs)))
theorem yR:fH X (binaryOp .Add) (Bh X.K):=by
 intro ak s Z H x y v u Q I rx ry h;let⟨l,b,xs,zs,rfl,rfl,hH,hB,hz,q⟩:=h;cases rx;cases ry;let⟨its,r,pl,_⟩:=I.list hH;let⟨its2,r2,pl2,_⟩:=I.list hB;let⟨⟨cls,dd,data,sl⟩,ho,hc,n,hd⟩:=pl.isList;let⟨⟨cls2,dd2,data2,sl2⟩,pL,tu,n2,hd2⟩:=pl2.isList;simp only at hc hd tu hd2;subst hc hd tu hd2;show concat_meets ⟨_,ho,rfl⟩ ⟨_,pL,rfl⟩ noFill_list_add seq_list_add PySem.F.slot_list_add PySem.F.entry_list_add (PySem.F.args_list_add_2 _ _) (list_addW l b its.toArray its2.toArray n n2 dd dd2 sl sl2 (by rw[dH,dH,<-r.length,<-r2.length];show hz)) ⟨ho,pL,?_⟩;let ea:its.toArray++its2.toArray=(its++its2).toArray:=by simp
 rw[ea];show⟨.ref _,_,I.Sw (t':=s.toks) (r.append r2) (by rw[bZ];omega),rfl,q _ I.fresh⟩
noncomputable def qP(K:W.Frag):R2:=λx y H Q=>n8 (λi j=>.int (i+j)) x y H Q\/Bh K x y H Q\/u0 K x y H Q\/∃i j,x=.str i/\y=.str j/\i.length+j.length<=sizeLine/\Q (.str (i++j)) H
theorem zgn:fH X (binaryOp .Add) (qP X.K):=CQ.or (yR.or (u5.or ze0))
end
end L2
namespace Mi
open PySem PySem.Spec PyProof.Rows L2
section
variable {K:W.Frag}{cA:Cl}{U:Ph}{H:Hp}{Q:VK}{p:Pr}
theorem aX.some'{o:Option Rz}(h:aX K cA U H o Q):∃z,o=some z:=by
 cases o with
 |none=>show h.elim|some z=>show⟨z,rfl⟩
theorem aX.of{o:Option Rz}{z:Rz}(h:aX K cA U H o Q)(e:o=some z):aX K cA U H (some z) Q:=e▸h
theorem aX.here{d:D}{v:V}(h:aX K cA U H (some (.dat d)) Q)(r:Rep K cA U H d v):Q v H:=h H v bx.refl r
theorem aX.tup{xs:List D}{vs:List V}{a:Addr}(h:aX K cA U H (some (.dat (.tup xs))) Q)(z:Zt U H)(r:aD K cA U H xs vs)(hp:H a=none):Q (.ref a) (upd H a (.tup vs)):=
 h _ _ (bx.new hp) (.tup (TupAt.new (z.nz hp)) (r.mono (bx.new hp).ext z.lz))
theorem yM.two{ds:List D}{vs:List V}{d d':D}(h:yM K cA U H [d,d'] vs):∃v v',vs=[v,v']/\Rv K cA U H d v/\Rv K cA U H d' v':=by
 cases h with
 |cons a r=>cases r with
  |cons b r=>cases r;show⟨_,_,rfl,a,b⟩
theorem yM.one(h:yM K cA U H [d] vs):∃v,vs=[v]/\Rv K cA U H d v:=by
 cases h with
 |cons a r=>cases r;show⟨_,rfl,a⟩
theorem Rv.int{i:Int}{v:V}(h:Rv K cA U H (.int i) v):v=.int i:=by cases (show Rep K cA U H (.int i) v from h);rfl
theorem Rv.bl{i:Bool}{v:V}(h:Rv K cA U H (.bl i) v):v=.bl i:=by cases (show Rep K cA U H (.bl i) v from h);rfl
theorem Rv.str{i:Str}{v:V}(h:Rv K cA U H (.str i) v):v=.str i:=by cases (show Rep K cA U H (.str i) v from h);rfl
theorem Rv.tup{xs:List D}{v:V}(h:Rv K cA U H (.tup xs) v):∃a vs,v=.ref a/\TupAt K U H a vs/\aD K cA U H xs vs:=by
 cases (show Rep K cA U H (.tup xs) v from h) with
 |tup a r=>show⟨_,_,rfl,a,r⟩
theorem Rv.sq{d:D}{xs:List D}{v:V}(h:Rv K cA U H d v)(e:dX d=some xs):∃a vs,v=.ref a/\(cY K H a vs\/fQ K H a vs)/\aD K cA U H xs vs:=by
 cases d with
 |tup ys=>
  cases e;let⟨a,vs,e,t,r⟩:=Rv.tup h;show⟨a,vs,e,.inr t.jw,r⟩
 |fl ys=>
  cases e;let⟨a,vs,e,l,r⟩:=h;show⟨a,vs,e,.inl l,r⟩
 |_=>cases e
theorem zdc{f:Int->Int->Option D}{ds:List D}{z:Rz}(h:cD f ds=some z):∃i j d,ds=[.int i,.int j]/\f i j=some d/\z=.dat d:=by
 cases ds with
 |nil=>cases h|cons a t=>
 cases a with
 |int i=>
  cases t with
  |nil=>cases h|cons b t=>
  cases b with
  |int j=>
   cases t with
   |cons _ _=>cases h|nil=>
    let⟨d,e1,e2⟩:=je.mp h;show⟨_,_,d,rfl,e1,e2.symm⟩
  |_=>cases h
 |_=>cases h
theorem Kw{f:Int->Int->Option D}(hp:prim p=cD f){C:Int->Int->Prop}{g:Int->Int->V}(hf:∀i j d,f i j=some d->C i j/\∀U H,Rep K cA U H d (g i j)):bA K cA p (r2 (rI C g)):=by
 intro U H ds vs Q zt rs o;rw[hp]at o;let⟨z,e⟩:=o.some';let⟨i,j,d,rfl,e1,rfl⟩:=zdc e;let⟨c,r⟩:=hf i j d e1;let⟨v,v',rfl,r1,r2⟩:=rs.two (ds:=[]);rw[r1.int,r2.int];show⟨_,_,rfl,i,j,rfl,rfl,c,(o.of e).here (r U H)⟩
theorem DY{f:Int->Int->D}(hp:prim p=cD λi j=>some (f i j)){g:Int->Int->V}(hf:∀i j U H,Rep K cA U H (f i j) (g i j)):bA K cA p (r2 (n8 g)):=by
 intro U H ds vs Q zt rs o;let⟨x,y,e,i,j,a,b,_,q⟩:=Kw (K:=K) (cA:=cA) (C:=λ_ _=>True) hp (λi j d e=>⟨trivial,λU H=>by cases e;show hf i j U H⟩) U H ds vs Q zt rs o;show⟨x,y,e,i,j,a,b,q⟩
theorem Ky{α:Type}{c:Prop}[Decidable c]{x y:α}(h:(if c then some x else none)=some y):c/\y=x:=by
 split at h
 .rename_i z;cases h;show⟨z,rfl⟩
 .cases h
theorem zlP:bA K cA .ao (r2 (n8 λi j=>.int (i-j))):=DY (f:=λi j=>.int (i-j)) rfl λi j _ _=>.int _
theorem zmL:bA K cA .mul (r2 (rI yh λi j=>.int (i*j))):=Kw rfl λi j d e=>by let⟨c,rfl⟩:=Ky e;show⟨c,λ_ _=>.int _⟩
theorem zj7:bA K cA .fdiv (r2 (rI yg λi j=>.int (i/j))):=Kw rfl λi j d e=>by let⟨c,rfl⟩:=Ky e;show⟨c,λ_ _=>.int _⟩
theorem zmw:bA K cA .mod (r2 (rI (λ_ j=>0<j) λi j=>.int (i%j))):=Kw rfl λi j d e=>by let⟨c,rfl⟩:=Ky e;show⟨c,λ_ _=>.int _⟩
theorem znd:bA K cA .pow (r2 (rI IV λi j=>.int (i^j.toNat))):=Kw rfl λi j d e=>by let⟨c,rfl⟩:=Ky e;show⟨c,λ_ _=>.int _⟩
theorem zou:bA K cA .le (r2 (n8 λi j=>.bl (decide (i<=j)))):=DY (f:=λi j=>.bl (decide (i<=j))) rfl λi j _ _=>.bl _
theorem zoz:bA K cA .gt (r2 (n8 λi j=>.bl (decide (j<i)))):=DY (f:=λi j=>.bl (decide (j<i))) rfl λi j _ _=>.bl _
theorem zoM:bA K cA .ge (r2 (n8 λi j=>.bl (decide (j<=i)))):=DY (f:=λi j=>.bl (decide (j<=i))) rfl λi j _ _=>.bl _
theorem zmq:bA K cA .neg (λvs H Q=>∃x,vs=[x]/\rU (λi=>.int (-i)) x H Q):=by
 intro U H ds vs Q zt rs o;let⟨z,e⟩:=o.some';let e:qK (λi=>.int (-i)) ds=some z:=e;cases ds with
 |nil=>cases e|cons a t=>
 cases a with
 |int i=>
  cases t with
  |cons _ _=>cases e|nil=>
   cases e;let⟨v,rfl,r1⟩:=rs.one;show⟨_,rfl,_,r1.int,aX.here (o.of rfl) (.int _)⟩
 |_=>cases e
theorem zoD:bA K cA .eq (r2 (yP K cA id)):=by
 intro U H ds vs Q zt rs o;let⟨z,e⟩:=o.some';let e:Av id ds=some z:=e;unfold Av at e;split at e
 .obtain⟨b,e1,e2⟩:=je.mp e;let⟨v,v',rfl,r1,r2⟩:=rs.two (ds:=[]);subst e2;show⟨_,_,rfl,U,_,_,b,r1,r2,e1,(o.of e).here (.bl _)⟩
 .cases e
theorem zoF:bA K cA .ne (r2 (yP K cA not)):=by
 intro U H ds vs Q zt rs o;let⟨z,e⟩:=o.some';let e:Av not ds=some z:=e;unfold Av at e;split at e
 .obtain⟨b,e1,e2⟩:=je.mp e;let⟨v,v',rfl,r1,r2⟩:=rs.two (ds:=[]);subst e2;show⟨_,_,rfl,U,_,_,b,r1,r2,e1,(o.of e).here (.bl _)⟩
 .cases e
theorem zfT{f:Bool->Bool}{ds:List D}{z:Rz}(h:yG f ds=some z):∃a b xs k,ds=[a,b]/\dX b=some xs/\memD a xs=some k/\z=.dat (.bl (f k)):=by
 unfold yG at h;split at h
 .obtain⟨k,e1,e2⟩:=je.mp h;let⟨xs,e3,e4⟩:=v8.mp e1;show⟨_,_,xs,k,rfl,e3,e4,e2.symm⟩
 .cases h
theorem zoc:bA K cA .inn (r2 (yQ K cA id)):=by
 intro U H ds vs Q zt rs o;let⟨z,e⟩:=o.some';let⟨a,b,xs,k,rfl,e1,e2,rfl⟩:=zfT (show yG id ds=some z from e);let⟨v,v',rfl,r1,r2⟩:=rs.two (ds:=[]);show⟨_,_,rfl,U,_,_,xs,k,r1,r2,e1,e2,(o.of e).here (.bl _)⟩
theorem zlM:bA K cA .nin (r2 (yQ K cA not)):=by
 intro U H ds vs Q zt rs o;let⟨z,e⟩:=o.some';let⟨a,b,xs,k,rfl,e1,e2,rfl⟩:=zfT (show yG not ds=some z from e);let⟨v,v',rfl,r1,r2⟩:=rs.two (ds:=[]);show⟨_,_,rfl,U,_,_,xs,k,r1,r2,e1,e2,(o.of e).here (.bl _)⟩
theorem Ut:∀{xs:List D} {ns:List Int} {vs:List V},gA xs=some ns->aD K cA U H xs vs->vs=ns.map V.int
 |[],ns,vs,h,r=>by cases h;cases r;rfl|d::xs,ns,vs,h,r=>by
  cases d with
  |int i=>
   simp only[gA,je]at h;let⟨ns',h1,rfl⟩:=h;cases r with
   |cons a r=>cases a;rw[Ut h1 r];rfl
  |_=>simp[gA]at h
theorem zga:∀(a b:List Int),ltI a b=HT.lexLt a b
 |_,[]=>by cases ‹List Int›<;>rfl|[],_::_=>rfl|x::xs,y::ys=>by
  unfold ltI;rw[zga xs ys,HT.jX]
theorem zon:bA K cA .lt (r2 λx y H Q=>n8 (λi j=>.bl (decide (i<j))) x y H Q\/Jg K x y H Q):=by
 intro U H ds vs Q zt rs o;let⟨z,e⟩:=o.some';let e:Ka ds=some z:=e;unfold Ka at e;split at e
 .cases e;let⟨v,v',rfl,r1,r2⟩:=rs.two (ds:=[]);show⟨_,_,rfl,.inl ⟨_,_,r1.int,r2.int,aX.here (o.of rfl) (.bl _)⟩⟩
 .split at e
  .rename_i a b h1 h2;cases e;let⟨v,v',rfl,r1,r2⟩:=rs.two (ds:=[]);let⟨p,us,rfl,t1,q1⟩:=r1.tup;let⟨p',us',rfl,t2,q2⟩:=r2.tup;let o2:aX K cA U H (some (.dat (.bl (ltI a b)))) Q:=by
    let o3:aX K cA U H (Ka [.tup _,.tup _]) Q:=o;unfold Ka at o3;simp only[h1,h2]at o3;show o3
   show⟨_,_,rfl,.inr ⟨p,p',a,b,rfl,rfl,by rw[<-Ut h1 q1];show t1.jw,by rw[<-Ut h2 q2];show t2.jw,?_⟩⟩;rw[<-zga];show o2.here (.bl _)
  .cases e
 .cases e
theorem znD:bA K cA .add (r2 (qP K)):=by
 intro U H ds vs Q zt rs o;let o:aX K cA U H (Dw ds) Q:=o;cases ds with
 |nil=>show False.elim o|cons a t=>
 cases a with
 |int i=>
  cases t with
  |nil=>show False.elim o|cons b t=>
  cases b with
  |int j=>
   cases t with
   |cons _ _=>show False.elim o|nil=>
    let⟨v,v',rfl,r1,r2⟩:=rs.two (ds:=[]);show⟨_,_,rfl,.inl ⟨_,_,r1.int,r2.int,aX.here o (.int _)⟩⟩
  |_=>show False.elim o
 |tup xs=>
  cases t with
  |nil=>show False.elim o|cons b t=>
  cases b with
  |tup ys=>
   cases t with
   |cons _ _=>show False.elim o|nil=>
    let⟨v,v',rfl,r1,r2⟩:=rs.two (ds:=[]);let⟨p,us,rfl,t1,q1⟩:=r1.tup;let⟨p',us',rfl,t2,q2⟩:=r2.tup;let o:aX K cA U H (if xs.length+ys.length<=sizeLine then some (.dat (.tup (xs++ys))) else none) Q:=o;by_cases hz:xs.length+ys.length<=sizeLine
    .rw[if_pos hz]at o;show⟨_,_,rfl,.inr (.inr (.inl ⟨p,p',us,us',rfl,rfl,t1.jw,t2.jw,by rw[<-q1.len,<-q2.len];show hz,λe=>?_,λe=>?_,λa ha=>o.tup zt (q1.app q2) ha⟩))⟩
     .subst e;cases q1;show o.here (.tup t2 q2)
     .subst e;cases q2;rw[sV]at o;show o.here (.tup t1 q1)
    .rw[if_neg hz]at o;show o.elim
  |_=>show False.elim o
 |fl xs=>
  cases t with
  |nil=>show False.elim o|cons b t=>
  cases b with
  |fl ys=>
   cases t with
   |cons _ _=>show False.elim o|nil=>
    let⟨v,v',rfl,⟨p,us,rfl,t1,q1⟩,⟨p',us',rfl,t2,q2⟩⟩:=rs.two (ds:=[]);let o:aX K cA U H (if xs.length+ys.length<=sizeLine then some (.nw (xs++ys)) else none) Q:=o;by_cases hz:xs.length+ys.length<=sizeLine
    .rw[if_pos hz]at o;show⟨_,_,rfl,.inr (.inl ⟨p,p',us,us',rfl,rfl,t1,t2,by rw[<-q1.len,<-q2.len];show hz,λa ha=>o a _ ha (q1.app q2)⟩)⟩
    .rw[if_neg hz]at o;show o.elim
  |_=>show False.elim o
 |str x=>
  cases t with
  |nil=>show False.elim o|cons b t=>
  cases b with
  |str y=>
   cases t with
   |cons _ _=>show False.elim o|nil=>
    let⟨v,v',rfl,r1,r2⟩:=rs.two (ds:=[]);let o:aX K cA U H (if x.length+y.length<=sizeLine then some (.dat (.str (x++y))) else none) Q:=o;by_cases hz:x.length+y.length<=sizeLine
    .rw[if_pos hz]at o;show⟨_,_,rfl,.inr (.inr (.inr ⟨_,_,r1.str,r2.str,hz,o.here (.str _)⟩))⟩
    .rw[if_neg hz]at o;show o.elim
  |_=>show False.elim o
 |_=>show False.elim o
theorem znr:bA K cA .len (λxs H Q=>∃p ys,xs=[.ref p]/\(cY K H p ys\/fQ K H p ys)/\Q (.int ys.length) H):=by
 intro U H ds vs Q zt rs o;let o:aX K cA U H (rP (λxs=>some (.dat (.int xs.length))) ds) Q:=o;unfold rP at o;split at o
 .obtain⟨v,rfl,r1⟩:=rs.one;let⟨z,e⟩:=o.some';let⟨xs,e1,e2⟩:=v8.mp e;let⟨a,us,rfl,sq,q⟩:=r1.sq e1;cases e2;show⟨a,us,rfl,sq,?_⟩;rw[<-q.len];show(o.of e).here (.int _)
 .exact o.elim
theorem zkm:bA K cA .list (λxs H Q=>∃p ys,xs=[.ref p]/\(cY K H p ys\/fQ K H p ys)/\∀l,H l=none->Q (.ref l) (upd H l (.lst ys))):=by
 intro U H ds vs Q zt rs o;let o:aX K cA U H (rP (λxs=>some (.nw xs)) ds) Q:=o;unfold rP at o;split at o
 .obtain⟨v,rfl,r1⟩:=rs.one;let⟨z,e⟩:=o.some';let⟨xs,e1,e2⟩:=v8.mp e;let⟨a,us,rfl,sq,q⟩:=r1.sq e1;cases e2;show⟨a,us,rfl,sq,λl hl=>(o.of e) l us hl q⟩
 .exact o.elim
theorem zhm:bA K cA .tuple (λxs H Q=>∃p ys,xs=[.ref p]/\((cY K H p ys/\∀l,H l=none->Q (.ref l) (upd H l (.tup ys)))\/(fQ K H p ys/\Q (.ref p) H))):=by
 intro U H ds vs Q zt rs o;let o:aX K cA U H (pU ds) Q:=o;unfold pU at o;split at o
 .rename_i d _;let⟨v,rfl,r1⟩:=rs.one;cases d with
  |tup xs=>
   let⟨a,us,rfl,t,q⟩:=r1.tup;show⟨a,us,rfl,.inr ⟨t.jw,aX.here o (.tup t q)⟩⟩
  |fl xs=>
   let⟨a,us,rfl,t,q⟩:=r1;show⟨a,us,rfl,.inl ⟨t,λl hl=>aX.tup o zt q hl⟩⟩
  |_=>show o.elim
 .exact o.elim
theorem zmy:bA K cA .abs (λxs H Q=>∃i,xs=[.int i]/\Q (.int (if i<0 then -i else i)) H):=by
 intro U H ds vs Q zt rs o;let o:aX K cA U H (qK (λi=>.int (if i<0 then -i else i)) ds) Q:=o;cases ds with
 |nil=>show False.elim o|cons a t=>
 cases a with
 |int i=>
  cases t with
  |cons _ _=>show False.elim o|nil=>
   let⟨v,rfl,r1⟩:=rs.one;rw[r1.int];show⟨_,rfl,aX.here o (.int _)⟩
 |_=>show False.elim o
theorem zjs:bA K cA .yF (λxs H Q=>(∃i,xs=[.int i]/\Q (.int i) H)\/∃k,xs=[.bl k]/\Q (.int (if k then 1 else 0)) H):=by
 intro U H ds vs Q zt rs o;let o:aX K cA U H (Kc ds) Q:=o;cases ds with
 |nil=>show False.elim o|cons a t=>
 cases a with
 |int i=>
  cases t with
  |cons _ _=>show False.elim o|nil=>
   let⟨v,rfl,r1⟩:=rs.one;rw[r1.int];show .inl ⟨_,rfl,aX.here o (.int _)⟩
 |bl k=>
  cases t with
  |cons _ _=>show False.elim o|nil=>
   let⟨v,rfl,r1⟩:=rs.one;rw[r1.bl];show .inr ⟨_,rfl,aX.here o (.int _)⟩
 |_=>show False.elim o
theorem zjX:bA K cA .max2 (λxs H Q=>∃i j,xs=[.int i,.int j]/\Q (.int (if j>i then j else i)) H):=by
 intro U H ds vs Q zt rs o;let⟨x,y,e,i,j,rfl,rfl,q⟩:=DY (K:=K) (cA:=cA) (p:=.max2) (f:=λi j=>.int (if j>i then j else i)) rfl (λi j _ _=>.int _) U H ds vs Q zt rs o;show⟨i,j,e,q⟩
theorem zj9:bA K cA .min2 (λxs H Q=>∃i j,xs=[.int i,.int j]/\Q (.int (if j<i then j else i)) H):=by
 intro U H ds vs Q zt rs o;let⟨x,y,e,i,j,rfl,rfl,q⟩:=DY (K:=K) (cA:=cA) (p:=.min2) (f:=λi j=>.int (if j<i then j else i)) rfl (λi j _ _=>.int _) U H ds vs Q zt rs o;show⟨i,j,e,q⟩
theorem zhd:bA K cA .divmod (λxs H Q=>∃i j,xs=[.int i,.int j]/\yg i j/\∀p,H p=none->Q (.ref p) (upd H p (.tup [.int (i/j),.int (i%j)]))):=by
 intro U H ds vs Q zt rs o;let o:aX K cA U H (cD (λi j=>if 0<j/\j<1073741824 then some (.tup [.int (i/j),.int (i%j)]) else none) ds) Q:=o;let⟨z,e⟩:=o.some';let⟨i,j,d,rfl,e1,rfl⟩:=zdc e;let⟨c,rfl⟩:=Ky e1;let⟨v,v',rfl,r1,r2⟩:=rs.two (ds:=[]);rw[r1.int,r2.int];show⟨i,j,rfl,c,λp hp=>(o.of e).tup zt (.cons (.int _) (.cons (.int _) .nil)) hp⟩
theorem Uu:∀{xs:List D} {bs:List Bool} {vs:List V},fK xs=some bs->aD K cA U H xs vs->vs=bs.map V.bl
 |[],bs,vs,h,r=>by cases h;cases r;rfl|d::xs,bs,vs,h,r=>by
  cases d with
  |bl b=>
   simp only[fK,je]at h;let⟨bs',h1,rfl⟩:=h;cases r with
   |cons q r=>cases q;rw[Uu h1 r];rfl
  |_=>simp[fK]at h
theorem zod:bA K cA .ix (r2 (Ss K)):=by
 intro U H ds vs Q zt rs o;let o:aX K cA U H (T5 ds) Q:=o;unfold T5 at o;split at o
 .rename_i d i _;let⟨v,v',rfl,r1,r2⟩:=rs.two (ds:=[]);let⟨z,e⟩:=o.some';let⟨y,e1,e2⟩:=je.mp e;let⟨xs,e3,e4⟩:=v8.mp e1;let⟨a,us,rfl,sq,q⟩:=r1.sq e3;let key:∃w,L2.qC us i=some w/\Rep K cA U H y w:=by
   unfold L2.qC at *;rw[<-q.len];let⟨j,h1,h2⟩:=v8.mp e4;let⟨w,h3,h4⟩:=q.get h2;show⟨w,by rw[h1];show h3,h4⟩
  let⟨w,hw,mL⟩:=key;subst e2;let q':=(o.of e).here mL;rcases sq with sq|sq
  .exact⟨_,_,rfl,.inl ⟨a,us,i,w,rfl,r2.int,sq,hw,q'⟩⟩
  .exact⟨_,_,rfl,.inr (.inl ⟨a,us,i,w,rfl,r2.int,sq,hw,q'⟩)⟩
 .exact o.elim
noncomputable def rSl(K:W.Frag):V->Option Int->Option Int->Hp->VK->Prop:=λx lo hi H Q=>Jm K x lo hi H Q\/Bg K x lo hi H Q
theorem zl1:yr X (rSl X.K):=yw.or zkc
theorem zjN{d:D}{lo hi:Option Int}{v:V}(zt:Zt U H)(r:Rv K cA U H d v)(o:aX K cA U H (cutD d lo hi) Q):rSl K v lo hi H Q:=by
 cases d with
 |tup xs=>
  let⟨a,us,rfl,t,q⟩:=r.tup;show .inr ⟨a,us,rfl,t.jw,λe=>?_,λp hp=>aX.tup o zt q.cut hp⟩;let hc:cut xs lo hi=xs:=by
   unfold cut;rw[q.len,e.1,e.2,List.drop_zero,Nat.sub_zero,<-q.len,Ad]
  let o:aX K cA U H (some (.dat (.tup (cut xs lo hi)))) Q:=o;rw[hc]at o;show o.here (.tup t q)
 |fl xs=>
  let⟨a,us,rfl,t,q⟩:=r;show .inl ⟨a,us,rfl,t,λp hp=>o p _ hp q.cut⟩
 |_=>show o.elim
end
end Mi
namespace L2
open PySem PySem.Spec PyProof.Rows
section
variable {κ:Type}[DecidableEq κ]
noncomputable def putK(kvs:List (κ×V))(k:κ)(v:V):List (κ×V):=
 if (kvs.any λkv=>decide (kv.1=k))=true then kvs.map (λkv=>if kv.1=k then (kv.1,v) else kv) else kvs++[(k,v)]
theorem zdF(kvs:List (κ×V))(k:κ)(v:V):(putK kvs k v).length<=kvs.length+1:=by
 unfold putK
 split
 .rw[aY];lia
 .rw[bZ,fP,B_];lia
theorem KV.any(r:KV kvs vs)(k:κ):(kvs.any λkv=>decide (kv.1=k))=vs.any λkv=>decide (kv.1=k):=by
 unfold KV at r
 induction r with
 |nil=>rfl|cons h t ih=>rw[List.any_cons,List.any_cons,ih,h.1]
theorem KV.repl(r:KV kvs vs)(k:κ)(ry:RelV y u) :
  KV (kvs.map λkv=>if kv.1=k then (kv.1,y) else kv) (vs.map λkv=>if kv.1=k then (kv.1,u) else kv):=by
 unfold KV at r ⊢
 induction r with
 |nil=>show .nil|@cons p q ps qs h t ih=>
  rw[kJ,kJ];show .cons ?_ ih;let⟨h1,h2⟩:=h;by_cases e:p.1=k
  .rw[if_pos e,if_pos (h1.symm.trans e)];show⟨h1,ry⟩
  .rw[if_neg e,if_neg (λz=>e (h1.trans z))];show⟨h1,h2⟩
theorem KV.put(r:KV kvs vs)(k:κ)(ry:RelV y u):KV (putK kvs k y) (stored vs k u):=by
 unfold putK stored;rw[r.any k];by_cases e:(vs.any λkv=>decide (kv.1=k))=true
 .rw[if_pos e,if_pos e];show r.repl k ry
 .rw[if_neg e,if_neg e];show Paired.snoc r ⟨rfl,ry⟩
end
theorem zoH(r:RelV (kV k) u):(cP P w).is k u=true:=by
 cases k with
 |inl i=>let⟨t,e⟩:=(show ∃t,u=Value.int i t from r);subst e;show zdH P w i t|inr x=>let⟨t,e⟩:=(show ∃t,u=Value.str x t from r);subst e;show zdI P w x t
section
variable {P:Program}{w:World}{H:Hp}{h:Heap}{a:Addr}
theorem znY(ok:iI P w H h)(e:Rd H a u):aU P w H h a u:=e.ok ok
theorem zob(ok:iI P w H h)(e:Rd H a (.dK kvs)):kvs.length<=sizeLine/\(a==sysModules)=false/\∃vs,KV kvs vs/\h.DictOf (cP P w) a vs:=
 show aU P w H h a (.dK kvs) from znY ok e
theorem znT(ok:iI P w H h)(e:H a=some (.dK kvs)):kvs.length<=sizeLine/\(a==sysModules)=false/\∃vs,KV kvs vs/\h.DictOf (cP P w) a vs:=zob ok (.inl e)
end
section
variable {X:Cx}{ak:List (Addr×Obj)}{Z:St}{H:Hp}{s:Shared}{a:Addr}{y v:V}{u r:Value}{o:Option V}{A:Around}{E:Value->Shared->Prop}
theorem Inv.big(I:Inv X ak Z H s):sysModules<s.heap.objs.size:=by
 let h:mainGlobals<s.heap.objs.size:=(I.mod.glob.keeps I.bk).lt;show Nat.lt_trans J0 h
theorem zky(I:Inv X ak Z H s)(mu:Ih (H a))(hs:Heap.SameBut a s.heap h')(he:∃q,h'.get? a=some q)(new:aU X.prog X.w (upd H a ob) h' a ob) :
  Inv X ak Z (upd H a ob) {s with heap:=h',toks:=t'}:=
 I.write (x:=a) (e:=a) mu (.inl rfl) (λb q hb z=>(hs.2 b hb).trans z) he new
theorem znm(z:kvs.length<=sizeLine)(hd:(a==sysModules)=false)(rel:KV kvs vs)(dd:h'.DictOf (cP P w) a vs) :
  aU P w H' h' a (.dK kvs):=⟨z,hd,vs,rel,dd⟩
end
theorem zh9(h:Heap)(hb:sysModules<h.objs.size):aU P w H (h.push {cls:=.type "dict",data:=.dict #[]}) h.objs.size (.dK []):=
 ⟨jJ _,beq_eq_false_iff_ne.mpr (Ne.symm (dU hb)),[],.nil,Heap.DictOf.new h⟩
noncomputable def qb:List (TE×TE)->St->Hp->(List (V×V)->Hp->Prop)->Prop
 |[],_,H,Q=>Q [] H|(tk,tv)::r,Z,H,Q=>tk Z H λx H1=>tv Z H1 λy H2=>qb r Z H2 λps H3=>Q ((x,y)::ps) H3
noncomputable abbrev VV:List (V×V)->List (Value×Value)->Prop:=Paired λp q=>RelV p.1 q.1/\RelV p.2 q.2
def Py(X:Cx)(pos:Pos)(keys:List (Option Expr))(values:List Expr)(D_:List (TE×TE)):Prop:=
 ∀(ak:List (Addr×Obj)) (s:Shared) (Z:St) (H:Hp) (Q:List (V×V)->Hp->Prop),Inv X ak Z H s->qb D_ Z H Q->
  wpAny (model X.prog X.w) X.A (evalPairs (pairTrees keys values X.env pos)) (λvs s'=>∃ps H',Inv X ak Z H' s'/\VV ps vs/\Q ps H') X.xe s
theorem zjM:Py X pos [] [] []:=λak s Z H Q I h=>pairTrees_nil_walk ⟨[],H,I,.nil,h⟩
theorem zhi(hk:PE X k tk)(hv:PE X v tv)(hr:Py X pos ks vs D_) :
  Py X pos (some k::ks) (v::vs) ((tk,tv)::D_):=λak s Z H Q I h=>
 pairTrees_cons_walk (bD (hk ak s Z H _ I h) λu s1 hx=>gb hx λx H1 I1 rx q1=>bD (hv ak s1 Z H1 _ I1 q1) λw2 s2 hx=>gb hx λy H2 I2 ry q2=>
  bD (hr ak s2 Z H2 _ I2 q2) λws s3 hx=>gb hx λps H3 I3 rel q3=>⟨(x,y)::ps,H3,I3,.cons ⟨rx,ry⟩ rel,q3⟩)
noncomputable def kh(kvs more:List (Key×V)):List (Key×V):=more.foldl (λacc kv=>putK acc kv.1 kv.2) kvs
theorem KV.merge:∀{more:List (Key×V)} {rs:List (Key×Value)} {kvs:List (Key×V)} {vs:List (Key×Value)},KV more rs->KV kvs vs->KV (kh kvs more) (merged vs rs):=by
 intro more rs kvs vs r;unfold KV at r
 induction r generalizing kvs vs with
 |nil=>intro q;show q|@cons p q ps qs h t ih=>
  intro r0;let e:KV (putK kvs p.1 p.2) (stored vs q.1 q.2):=by
   let:=r0.put p.1 h.2;rw[<-h.1];show this
  show ih e
theorem zbm:∀(more kvs:List (Key×V)),(kh kvs more).length<=kvs.length+more.length
 |[],kvs=>by change kvs.length<=kvs.length+0;lia|p::r,kvs=>by
  let h1:=zbm r (putK kvs p.1 p.2);let h2:=zdF kvs p.1 p.2;change (kh (putK kvs p.1 p.2) r).length<=_;rw[fP];lia
theorem zcx:∀{kvs:List (Key×V)} {ws:List (Value×Value)},VV (kvs.map λkv=>(kV kv.1,kv.2)) ws->∃rs,Carries (cP P w) ws rs/\KV kvs rs
 |[],_,r=>by rw[List.map_nil]at r;cases r;show⟨[],True.intro,.nil⟩|p::kvs,_,r=>by
  rw[kJ]at r;cases r with
  |@cons a b as bs h t=>
   let⟨rs,c,q⟩:=zcx (P:=P) (w:=w) t;let⟨b1,b2⟩:=b;show⟨(p.1,b2)::rs,⟨zoH h.1,rfl,c⟩,.cons ⟨rfl,h.2⟩ q⟩
noncomputable def Kz(D_:List (TE×TE)):TE:=λZ H Q=>∀p,H p=none->qb D_ Z (upd H p (.dK [])) λps H2=>H2 p=some (.dK [])/\∃kvs:List (Key×V),ps=kvs.map (λkv=>(kV kv.1,kv.2))/\kvs.length<=15/\Q (.ref p) (upd H2 p (.dK (kh [] kvs)))
theorem zk9(h:Py X pos keys values D_)(pN:keys.all (·.isSome)=true)(hl:keys.length=values.length)(h0:keys≠[])
  (h15:keys.length<=15):PE X (.Dict keys values pos) (Kz D_):=by
 intro ak s Z H Q I q;let hn:=I.hok.fresh (bQ s.heap.objs.size);let I1:=I.laid (a:=s.heap.objs.size) (o:=.dK []) (h':=s.heap.push {cls:=.type "dict",data:=.dict #[]}) (t':=s.toks) (λ_ _ q=>dD _ q) (bQ _) (zh9 s.heap I.big);show wpAny_Dict_walk (knd:=cP X.prog X.w) pN hl h0 h15 (bD (h ak _ Z _ _ I1 (q _ hn)) λws s2 hz=>?_);let⟨ps,H2,I2,rel,e,kvs,ep,lk,q2⟩:=hz;subst ep;let⟨rs,c,rk⟩:=zcx (P:=X.prog) (w:=X.w) rel;let⟨z,hd,vs0,r0,dd⟩:=znT I2.hok e;cases r0;show⟨rs,c,dd,λh' S7 hs=>⟨.ref s.heap.objs.size,_,?_,rfl,q2⟩⟩;let hz:(kh [] kvs).length<=sizeLine:=by
  let h1:=zbm kvs [];rw[B_]at h1;rw[uq];lia
 let he:∃q,h'.get? s.heap.objs.size=some q:=let ⟨q,_,_,hq,_⟩:=S7;⟨q,hq⟩;show zky I2 (by rw[e];show True.intro) hs he (znm hz hd (rk.merge .nil) S7)
end L2
namespace Mi
open PySem PySem.Spec PyProof.Rows L2
section
variable {X:Cx}{cA:Cl}{ao:Nat->Nat->Bool}{aj:Bool}{F:Fn}{EX:XS}{a b c d e o:Expr}{A B C Dd E' O:E}{pos pp p2 apos cpos:Pos}{es:List Expr}{Xs:Es}{fz:Bool}{p:Pr}{x:Str}{U:Ph}{H:Hp}{s:S}{lo hi:Option Expr}{Lo Hi:Eo}
def KC(X:Cx)(cA:Cl)(ao:Nat->Nat->Bool)(aj:Bool)(F:Fn)(EX:XS)(oe:Option Expr)(m:Eo):Prop:=
 PO X oe (λZ H Q=>∃U J s,bF X.K cA U H Z J/\aK X.K cA U H s/\Run X.K cA (yK ao aj F m J) U H s (λi _ U' H'=>Q i H') (eX X.K cA EX Z))
theorem PO.weak{oe:Option Expr}{t t':TO}(h:PO X oe t)(f:∀Z H Q,t' Z H Q->t Z H Q):PO X oe t':=by
 intro ak s Z H Q I q;show h ak s Z H Q I (f Z H Q q)
theorem zoB:KC X cA ao aj F EX none .no:=PO.weak zkh λZ H Q hh=>un hh λU J s hL hS h=>h.bY hS
theorem zlp(ha:SE X cA ao aj F EX a A):KC X cA ao aj F EX (some a) (.yes A):=PO.weak (zjC ha) λZ H Q hh=>un hh λU J s hL hS h=>by
 show bO hL hS h λx H1 U1 d1 s1 x1 hL1 aL r1 h1=>?_;let⟨i,_,e,h3⟩:=Kr r1 h1;show⟨i,e,h3.bY aL⟩
theorem KD{β:Type}{Z:L2.St}{J:Vs}{m:Eo}{k:Option Int->M β}{P:β->S->Ph->Hp->Prop}(hL:bF X.K cA U H Z J)(hS:aK X.K cA U H s)(h:Run X.K cA (M.bd (yK ao aj F m J) k) U H s P (eX X.K cA EX Z)){Q:Option Int->Hp->Prop}
  (f:∀i H1 U1 s1,Ext U H U1 H1->bF X.K cA U1 H1 Z J->aK X.K cA U1 H1 s1->Run X.K cA (k i) U1 H1 s1 P (eX X.K cA EX Z)->Q i H1) :
  ∃U J s,bF X.K cA U H Z J/\aK X.K cA U H s/\Run X.K cA (yK ao aj F m J) U H s (λi _ U' H'=>Q i H') (eX X.K cA EX Z):=
 ⟨U,J,s,hL,hS,h.bd.imp λi s1 U1 H1 ⟨x1,r1,h1⟩=>f i H1 U1 s1 x1 (hL.mono x1 hS.lz) r1 h1⟩
theorem zof(ha:SE X cA ao aj F EX a A)(hl:KC X cA ao aj F EX lo Lo)(hh:KC X cA ao aj F EX hi Hi):SE X cA ao aj F EX (.Subscript a (.Slice lo hi none p2) pos) (.sl fz A Lo Hi):=PE.weak (zhJ zl1 ha hl hh) λZ H Q hh=>un hh λU J s hL hS h=>by
 show bO hL hS h λx H1 U1 d1 s1 x1 hL1 aL r1 h1=>KD hL1 aL h1 λl H2 U2 s2 x2 hL2 hS2 h2=>KD hL2 hS2 h2 λu H3 U3 s3 x3 DR lV h3=>?_;let⟨dd,rv,h4⟩:=Ks lV ((r1.mono x2 aL.lz).mono x3 hS2.lz) h3;show zjN lV.zs rv (qO lV h4)
theorem zc3:∀bs:List Bool,(List.range bs.length).all (λi=>(bs[i]?).getD false)=bs.all id
 |[]=>rfl|b::r=>by
  rw[fP,Q8,xQ,HS,xQ];let:=zc3 r;simp only[Function.comp_def,Hq,List.getElem?_cons_zero,Option.getD_some,id];rw[this]
theorem zgM(hc:X.aj=true):cL X (.builtin "all") (λxs H Q=>∃(p:Addr) (bs:List Bool),xs=[.ref p]/\cY X.K H p (bs.map V.bl)/\Q (.bl (bs.all id)) H):=by
 rintro ak s Z H xs us Q I r ⟨p,bs,e,hp,q⟩;subst e;let⟨u,rfl,ru⟩:=Vals.one r;cases (show u=Value.ref p from ru);let⟨its,rv,pl,hz⟩:=I.list hp;let hl:s.heap.IsList p its.toArray:=pl.isList;let hpn:p≠s.heap.objs.size:=by
  let⟨o,hg,_⟩:=hl;show dU (bL hg)
 show call_all_walk (Hx hl ?_);show⟨_,_,_,_,_,_,λi=>(bs[i]?).getD false,rfl,Walks.list (A:=X.A.in1) (I.ok.hd hc) _ p hpn its.toArray,⟨⟨_,gK _ rfl,rfl,rfl⟩,hl.push _⟩,?_,λh' tk hk=>?_⟩
 .intro i v s' Q' E' hP hQ;let hi:its[i]?=some v:=by simpa using hP
  let hb:∃b,bs[i]?=some b:=by
   let bV:i<its.length:=(h_.mp hi).1;let z:=rv.length;rw[aY]at z;show⟨_,dW gV⟩
  let⟨b,hb⟩:=hb;let⟨u,e1,e2⟩:=rv.get (i:=i) (x:=V.bl b) (by rw[ji,hb];rfl);rw[hi]at e1;cases e1;cases (show v=Value.bool b from e2);let hQ:Q' ((bs[i]?).getD false) s':=hQ;rw[hb]at hQ;show xM hQ
 .let ez:(List.range its.toArray.size).all (λi=>(bs[i]?).getD false)=bs.all id:=by
   let z:=rv.length;rw[aY]at z;rw[dH,<-z];show zc3 bs
  rw[ez];show⟨.bl (bs.all id),H,I.kept (h':=h') (t':=tk) (old_kept hk),rfl,q⟩
theorem zlq{K:W.Frag}:bA K cA .all (λxs H Q=>∃(p:Addr) (bs:List Bool),xs=[.ref p]/\cY K H p (bs.map V.bl)/\Q (.bl (bs.all id)) H):=by
 intro U H ds vs Q zt rs o;let o:aX K cA U H (Dz ds) Q:=o;unfold Dz at o;split at o
 .obtain⟨v,rfl,⟨ad,us,rfl,l,q⟩⟩:=rs.one;let⟨z,e⟩:=o.some';let⟨bs,e1,e2⟩:=je.mp e;subst e2;show⟨ad,bs,rfl,by rw[<-Uu e1 q];show l,(o.of e).here (.bl _)⟩
 .exact o.elim
noncomputable def Bc(k:Bool):Value->Bool
 |.bool c=>c==k|_=>false
theorem znC{A:Around}{sh:Shared}{k:Bool}{bs:List Bool}{its:List Value}(rv:Vals (bs.map V.bl) its):∀y,y∈its.toArray->SeqAt.EqAt A sh y (.bool k) (Bc k y):=λy hy=>by
 let hy:y∈its:=by simpa using hy
 let⟨i,hi,e⟩:=Hv hy;let hl:=rv.length;rw[aY]at hl;let⟨u,e1,e2⟩:=rv.get (i:=i) (x:=V.bl (bs[i]' gV)) (by rw[ji,dW gV];rfl);rw[dW hi,e]at e1;cases e1;cases e2;show SeqAt.EqAt.bool_bool _ _
theorem zh7{h:Heap}{x:D}{e:Value->Bool}:∀{xs:List D} {us:List Value},jz h xs us->(∀u∈us,∃d,Is h d u/\dz 50 d x=some (e u))->(∀d∈xs,∃k,dz 50 d x=some k)->us.countP e=rO x xs:=by
 intro xs
 induction xs with
 |nil=>intro us r _ _;cases r;rfl|cons d ds ih=>
  intro us r he hk;cases r with
  |@cons _ u _ us a r=>
   rw[List.countP_cons,ih r (λu hu=>he u (fZ _ hu)) λd hd=>hk d (fZ _ hd)];let⟨d',q,Ij⟩:=he u jH;let⟨k,Ed⟩:=hk d jH;let:=zfn 50 q a Ij Ed;change _+_=rO x ds+(if dz 50 d x=some true then 1 else 0);rw[Ed,this];cases k<;>rfl
def KH(K:W.Frag)(cA:Cl)(x:V)(xs:List V)(H:Hp)(Q:VK):Prop:=∃U ds d v b,xs=[v]/\Rv K cA U H (.fl ds) x/\Rv K cA U H d v/\memD d ds=some b/\Q (.int (rO d ds:Nat)) H
theorem zgw(hu:X.A.units+60<cLine):Jh X "list.count" (KH X.K cA):=by
 rintro ak sh Z H x xs v us Q I rx r ⟨U,ds,d,y,b,e2,r1,r2,hm,q⟩;subst e2;let⟨u,rfl,ru⟩:=Vals.one r;let fL:X.A.in1.units+50<cLine:=by change X.A.units+1+50<cLine;lia
 let i1:=uY I r2 ru;cases uY I r1 rx with
 |@fl l _ its p rr=>
  let⟨e,he,_⟩:=Kv hm rr;let⟨⟨cls,dd,data,sl⟩,hg,hc,n,hd⟩:=p;simp only at hc hd;subst hc hd;show call_meets PySem.F.slot_list_count ⟨_,hg,rfl⟩ PySem.F.entry_list_count (PySem.F.args_list_count_2 _ _) (SeqAt.list_countAt l _ n dd sl u e) ⟨hg,λw hw=>?_,?_⟩
  .obtain⟨d',q1,q2⟩:=he w (by simpa using hw);show DX 50 fL q1 i1 q2
  .refine⟨.int (rO d ds:Nat),H,I.tok _,?_,q⟩;rw[<-zh7 rr he (Ur hm)];show⟨_,rfl⟩
 |oth k=>cases k
theorem zgP:∀{bs:List Bool} {its:List Value} {j:Nat},Vals (bs.map V.bl) its->bs.idxOf? k=some j->∃hj:j<its.length,Bc k its[j]=true/\∀m (hm:m<its.length),m<j->Bc k its[m]=false
 |[],_,j,.nil,h=>by simp at h|b::bs,_,j,.cons r t,h=>by
  cases r;rw[List.idxOf?_cons]at h;by_cases hb:b=k
  .subst hb;simp at h;subst h;show⟨N5 _,by simp[Bc],λm hm z=>absurd z (Oa _)⟩
  .let hb':(b==k)=false:=by simpa using hb
   rw[hb']at h;simp at h;let⟨j',h1,h2⟩:=h;subst h2;let⟨hj,a1,a2⟩:=zgP t h1;show⟨by simpa using hj,by simpa using a1,λm hm z=>?_⟩;cases m with
   |zero=>simp[Bc,hb']|succ m=>simpa using a2 m (by simpa using hm) gV
theorem zgr:Jh X "list.index" (λx xs H Q=>∃(l:Addr) (bs:List Bool) (b:Bool) (j:Nat),x=.ref l/\xs=[.bl b]/\cY X.K H l (bs.map V.bl)/\bs.idxOf? b=some j/\Q (.int j) H):=by
 rintro ak sh Z H x xs v us Q I rx r ⟨l,bs,b,j,e1,e2,hl,hj,q⟩;subst e1 e2;cases (show v=Value.ref l from rx);let⟨u,rfl,ru⟩:=Vals.one r;cases (show u=Value.bool b from ru);let⟨its,rv,pl,hz⟩:=I.list hl;let⟨⟨cls,dd,data,sl⟩,hg,hc,n,hd⟩:=pl.isList;simp only at hc hd;subst hc hd;let⟨bV,h1,h2⟩:=zgP rv hj;let hs:(j:Int)<2^63-1:=by
  let z:=rv.length;rw[uq]at hz
  lia
 show call_meets PySem.F.slot_list_index ⟨_,hg,rfl⟩ PySem.F.entry_list_index (PySem.F.args_list_index_2 _ _) (SeqAt.list_indexAt l its.toArray n dd sl (.bool b) (Bc b) j (by simpa using bV) hs (by simpa using h1) (λm hm z=>by simpa using h2 m (by simpa using hm) z)) ⟨hg,znC rv,?_⟩;show⟨.int j,H,I.tok _,⟨_,rfl⟩,q⟩
def Uv(K:W.Frag)(cA:Cl)(p:Pr)(r:V->List V->Hp->VK->Prop):Prop:=bA K cA p (λvs H Q=>∃x xs,vs=x::xs/\r x xs H Q)
theorem zhA{K:W.Frag}:Uv K cA .count (KH K cA):=by
 intro U H ds vs Q zt rs o;let o:aX K cA U H (pW ds) Q:=o;unfold pW at o;split at o
 .obtain⟨v,v',rfl,r1,r2⟩:=rs.two (ds:=[]);let⟨z,e⟩:=o.some';let⟨b,e1,e2⟩:=je.mp e;subst e2;show⟨_,_,rfl,U,_,_,_,b,rfl,r1,r2,e1,(o.of e).here (.int _)⟩
 .exact o.elim
theorem ziH{K:W.Frag}:Uv K cA .index (λx xs H Q=>∃(l:Addr) (bs:List Bool) (b:Bool) (j:Nat),x=.ref l/\xs=[.bl b]/\cY K H l (bs.map V.bl)/\bs.idxOf? b=some j/\Q (.int j) H):=by
 intro U H ds vs Q zt rs o;let o:aX K cA U H (pX ds) Q:=o;unfold pX at o;split at o
 .obtain⟨v,v',rfl,⟨ad,us,rfl,l,q⟩,r2⟩:=rs.two (ds:=[]);let⟨z,e⟩:=o.some';let⟨j,e1,e2⟩:=je.mp e;let⟨bs,e3,e4⟩:=v8.mp e1;subst e2;show⟨_,_,rfl,ad,bs,_,j,rfl,by rw[r2.bl],by rw[<-Uu e3 q];show l,e4,(o.of e).here (.int _)⟩
 .exact o.elim
noncomputable def kdT:Kd->String
 |.list=>"list"|.str=>"str"|.tuple=>"tuple"|_=>"dict"
theorem zkz{K:W.Frag}{k:Kd}{dd:D}{v:V}(h:pR k dd=true)(r:Rv K cA U H dd v):O6 K (kdT k) v H:=by
 cases k<;>cases dd<;>first
  |(cases h;done)
  |(let⟨a,vs,rfl,l,_⟩:=r;show .inl ⟨rfl,vs,l⟩)
  |(rw[r.str];show rfl)
  |(cases (show Rep K cA U H (.fd _ _) v from r) with|@fd _ _ _ q n=>show .inr (.inr (.inl ⟨rfl,.inl ⟨_,q⟩⟩)))|(cases (show Rep K cA U H (.tup _) v from r) with|tup l _=>show .inr (.inl ⟨rfl,_,l.jw⟩))
theorem zgz{k:Kd}{id:String}{name:Str}{r:V->List V->Hp->VK->Prop}(pa:PlainAttrs (kdT k))(slot:Slot (kdT k) name id)(Jo:typeOf (.builtin id)=pure (.type "method_descriptor"))(hm:Jh X id r)(hr:Uv X.K cA p r)
  (ho:SE X cA ao aj F EX o O) (ha:SA X cA ao aj F EX (e::es) Xs)
  (cQ:attributeBase o name X.env (eval o X.env)=eval o X.env:=by rfl)
  (mO:((backTo cpos (starEach (e::es) X.env)).all (λx=>!x.1)&&(backToKw cpos (keywordEach [] X.env)).all (λx=>x.1.isSome)
  &&decide ((e::es).length+([]:List Keyword).length+(if ([]:List Keyword).isEmpty then 0 else 1)<30))=true:=by rfl)
  (cR:(apos.endLine==cpos.line)=true:=by rfl) (hs:starEach (e::es) X.env=(false,eval e X.env)::starEach es X.env:=by rfl) (dO:(backTo cpos (starEach es X.env)).any (·.1)=false:=by rfl) :
  SE X cA ao aj F EX (.Call (.Attribute o name apos) (e::es) [] cpos) (.meth fz p k O Xs):=PE.weak (ZF pa slot Jo hm ho ha cQ mO cR hs dO) λZ H Q hh=>un hh λU J s hL hS h=>by
 show bO hL hS h λx H1 U1 d1 s1 x1 hL1 aL r1 h1=>?_;let⟨dd,rv,h2⟩:=Ks aL r1 h1;by_cases hk:pR k dd=true
 .rw[if_pos hk]at h2;show⟨zkz hk rv,p8 hL1 aL h2 λys H2 U2 ds s2 x2 hL2 hS2 r2 h3=>?_⟩;let⟨ds,rs,h4⟩:=tM hS2 (.cons (r1.mono x2 aL.lz) r2) h3;let⟨_,_,e,q⟩:=hr U2 H2 ds _ _ hS2.zs rs (qO hS2 h4);cases e;show q
 .rw[if_neg hk]at h2;show h2.elim
noncomputable def Pz:Kd->String->Bool
 |.int,"int"=>true|.int,"bool"=>true|.bool,"bool"=>true|.str,"str"=>true|.tuple,"tuple"=>true|.list,"list"=>true|.dict,"dict"=>true|_,_=>false
noncomputable def wJ:Kd->Option Value
 |.int=>some (.type "int")|.bool=>some (.type "bool")|.str=>some (.type "str")|.tuple=>some (.type "tuple")|.list=>some (.type "list")|.dict=>some (.type "dict")|_=>none
theorem zmx{K:W.Frag}{k:Kd}{cu:Value}(h:wJ k=some cu){T:String}(hT:T∈["NoneType","bool","int","str","tuple","list","dict"]):PySem.W.kitOne K (.type T) cu=some (Pz k T):=by
 simp only[cX,List.mem_nil_iff,pJ]at hT;cases k<;>simp only[wJ]at h<;>cases h<;>rcases hT with rfl|rfl|rfl|rfl|rfl|rfl|rfl<;>rfl
structure u6(K:W.Frag)(cA:Cl)(ao:Nat->Nat->Bool):Prop where
 xc:∀c,XC K (cA.a c)
 ao:∀c e,PySem.W.kitOne K (.ref (cA.a c)) (.ref (cA.a e))=some (ao c e)
 pQ:∀c,PySem.W.kitOne K (.ref (cA.a c)) (.type "ValueError")=some true
noncomputable def Gs(cA:Cl):Kd->V
 |.cls e=>.ref (cA.a e)|.pQ=>.ty "ValueError"|.int=>.ty "int"|.bool=>.ty "bool"|.str=>.ty "str"|.tuple=>.ty "tuple"|.list=>.ty "list"|.dict=>.ty "dict"
theorem ziz(Cs:wJ k=none->u6 X.K cA ao) :
  cL X (.builtin "isinstance") (λxs H Q=>∃U d v bb,xs=[v,Gs cA k]/\Rv X.K cA U H d v/\lN ao d k=some bb/\Q (.bl bb) H):=by
 rintro ak sh Z H xs us Q I r ⟨U,d,v,bb,e,rd,hi,q⟩;subst e;let⟨u,w,rfl,ru,Uw⟩:=Vals.two r;let u9:∀tk,EP X ak Z Q (.bool bb) {sh with toks:=tk}:=λtk=>⟨.bl bb,H,I.tok tk,rfl,q⟩;let bt:∀{T:String} {Hh:Heap->Prop},PySem.W.KitX X.K u (.type T) Hh->Hh sh.heap->T∈["NoneType","bool","int","str","tuple","list","dict"]->u≠Value.builtin "__main__.__loader__#opaque"->(∃cu,wJ k=some cu/\w=cu/\Pz k T=bb)->wpAny (model X.prog X.w) X.A (PySem.call (.builtin "isinstance") [u,w]) (EP X ak Z Q) X.xe sh:=λ{T Hh} zzZ hh hT hx ⟨cu,h1,h2,h3⟩=>by
  subst h2 h3;show PySem.W.kia_one zzZ I.xY hh (zmx h1 hT) hx u9
 let wv:∀cu,wJ k=some cu->w=cu:=λcu h=>by
  cases k<;>simp only[wJ]at h<;>cases h<;>show Uw
 let fin:∀T,lN ao d k=(match wJ k with|some _=>some (Pz k T)|none=>none)->∃cu,wJ k=some cu/\w=cu/\Pz k T=bb:=λT h=>by
  rw[hi]at h;cases z:wJ k with
  |none=>rw[z]at h;cases h|some cu=>rw[z]at h;cases h;show⟨cu,rfl,wv cu z,rfl⟩
 cases d with
 |non=>
  cases (show Rep X.K cA U H .non v from rd);cases (show u=Value.none from ru);show bt PySem.W.kitx_none trivial V8 (λz=>nomatch z) (fin "NoneType" (by cases k<;>rfl))
 |bl b=>
  cases rd.bl;cases (show u=Value.bool b from ru);show bt PySem.W.kitx_bool trivial V8 (λz=>nomatch z) (fin "bool" (by cases k<;>rfl))
 |int i=>
  cases rd.int;let⟨t,z⟩:=(show ∃t,u=Value.int i t from ru);cases z;show bt PySem.W.kitx_int trivial V8 (λz=>nomatch z) (fin "int" (by cases k<;>rfl))
 |str y=>
  cases rd.str;let⟨t,z⟩:=(show ∃t,u=Value.str y t from ru);cases z;show bt PySem.W.kitx_str trivial V8 (λz=>nomatch z) (fin "str" (by cases k<;>rfl))
 |tup xs=>
  let⟨ad,vs,rfl,h1,h2⟩:=rd.tup;cases (show u=Value.ref ad from ru);let⟨its,_,ht,_⟩:=I.tuple h1.jw;let⟨o,q1,q2,_⟩:=ht;show bt PySem.W.kitx_tuple ⟨o,q1,q2⟩ V8 (λz=>nomatch z) (fin "tuple" (by cases k<;>rfl))
 |fl xs=>
  let⟨ad,vs,rfl,h1,h2⟩:=rd;cases (show u=Value.ref ad from ru);let⟨its,_,ht,_⟩:=I.list h1;let⟨o,q1,q2,_⟩:=ht.isList;show bt PySem.W.kitx_list ⟨o,q1,q2⟩ V8 (λz=>nomatch z) (fin "list" (by cases k<;>rfl))
 |fd ks vs=>
  cases (show Rep X.K cA U H (.fd ks vs) v from rd) with
  |@fd ad kk ii q1 n=>
   cases (show u=Value.ref ad from ru);let⟨_,_,vs,_,o,es',ep,g1,g2,_⟩:=(show aU X.prog X.w H sh.heap ad (.dK [(.inr kk,.int ii)]) from I.hok ad _ q1);show bt PySem.W.kitx_dict ⟨o,g1,g2.1⟩ V8 (λz=>nomatch z) (fin "dict" (by cases k<;>rfl))
 |ob c fs=>cases k<;>cases hi|any=>cases k<;>cases hi|exc c fs=>
  cases (show Rep X.K cA U H (.exc c fs) v from rd) with
  |@exc ad _ _ vs hx rs=>
   cases (show u=Value.ref ad from ru);let hI:∃ox od,PySem.W.InstAt sh.heap ad ox (cA.a c) od:=by
    obtain⟨_,⟨_,_,hx⟩|⟨dx,hx,_,hd,_⟩⟩:=hx
    .obtain⟨⟨oe,vs,g1,g2,g3,g4⟩,_⟩:=(show aU X.prog X.w H sh.heap ad (jZ ad (cA.a c) none) from I.hok ad _ hx);show⟨oe,none,g1,g2,by unfold PySem.W.notCls;rw[g4],by rw[g3];trivial⟩
    .obtain⟨⟨oe,vs,g1,g2,g3,g4⟩,_⟩:=(show aU X.prog X.w H sh.heap ad (jZ ad (cA.a c) (some dx)) from I.hok ad _ hx);let⟨mA,⟨od,es,ep,e1,c1⟩,_⟩:=(show aU X.prog X.w H sh.heap dx (.xd _) from I.hok dx _ hd);show⟨oe,some od,g1,g2,by unfold PySem.W.notCls;rw[g4],by rw[g3];show e1⟩
   cases k with
   |cls e=>
    cases (show w=Value.ref (cA.a e) from Uw);let z:some (ao c e)=some bb:=hi;cases z;show PySem.W.kia_one (zeE ((Cs rfl).xc c)) I.xY hI ((Cs rfl).ao c e) (λz=>nomatch z) u9
   |pQ=>
    cases (show w=Value.type "ValueError" from Uw);let z:some true=some bb:=hi;cases z;show PySem.W.kia_one (zeE ((Cs rfl).xc c)) I.xY hI ((Cs rfl).pQ c) (λz=>nomatch z) u9
   |_=>cases hi
theorem zlm(Cs:wJ k=none->u6 X.K cA ao)(hg:Gl X "isinstance")(hm:X.mg "isinstance"=none)(ha:SE X cA ao aj F EX a A)(hk:PE X kx (tC (Gs cA k)))(h1:starEach [a,kx] X.env=(false,eval a X.env)::starEach [kx] X.env:=by rfl)(h2:starEach [kx] X.env=(false,eval kx X.env)::starEach [] X.env:=by rfl)
  (bU:(backTo pos (starEach [kx] X.env)).any (·.1)=false:=by rfl):SE X cA ao aj F EX (.Call (.Name "isinstance" pp) [a,kx] [] pos) (.iy A k):=PE.weak (Zv (ziz (cA:=cA) (k:=k) Cs) hg hm PyProof.Rows.boot_isinstance (wA ha (wA hk CV h2) h1) J0 J0 h1 bU) λZ H Q hh=>un hh λU J s hL hS h=>
 bO hL hS h λv H1 U1 d s1 x1 hL1 aL r1 h1=>by
  change ∃U d' v' bb,[v,Gs cA k]=[v',Gs cA k]/\_;let⟨dd,rv,h2⟩:=Ks aL r1 h1;let⟨bb,e,h3⟩:=Kae h2;show⟨U1,dd,v,bb,rfl,rv,e,h3.bY aL _ (.d (.bl bb))⟩
theorem zjY{j p1 j2 p3}:SE X cA ao aj F EX (.Dict [some (.Constant (.str k) j p1)] [.Constant (.int i) j2 p3] pos) (.uP k i):=PE.weak (zk9 (zhi Zc Oq zjM) rfl rfl V8 (Q_ rfl)) λZ H Q hh=>un hh λU J s hL hS h=>by
 intro p hp;show⟨jK,[(.inr k,.int i)],rfl,Q_ rfl,?_⟩;rw[Y6];show h U _ (bx.new hp).ext (hS.grow (bx.new hp)) _ (.d (.fd jK (hS.nz hp)))
end
section
variable {K:W.Frag}{cA:Cl}{U U':Ph}{H H':Hp}{s:S}
theorem TupAt.kW(e:∀a,U'.z a->U.z a){a:Addr}{vs:List V}(h:TupAt K U H a vs):TupAt K U' H a vs:=h.imp (λ⟨p,n⟩=>⟨p,λz=>n (e a z)⟩) id
theorem LstAt.kW(e:∀a,U'.z a->U.z a){a:Addr}{vs:List V}(h:LstAt K U H a vs):LstAt K U' H a vs:=h.imp (λ⟨p,n⟩=>⟨p,λz=>n (e a z)⟩) id
theorem ExcAt.kW(e:∀a,U'.z a->U.z a){a:Addr}{c:Nat}{vs:List V}(h:ExcAt cA U H a c vs):ExcAt cA U' H a c vs:=
 ⟨λz=>h.1 (e a z),h.2.imp id λ⟨dx,p,n,q,l⟩=>⟨dx,p,λz=>n (e dx z),q,l⟩⟩
theorem pZ.kW(e:∀a,U'.z a->U.z a){a:Addr}{c:Nat}{vs:List V}(h:pZ cA U H a c vs):pZ cA U' H a c vs:=⟨λz=>h.1 (e a z),h.2⟩
theorem Rep.kW(e:∀a,U'.z a->U.z a){d:D}{v:V}(h:Rep K cA U H d v):Rep K cA U' H d v:=
 Rep.rec (motive_1:=λd v _=>Rep K cA U' H d v) (motive_2:=λd v _=>aD K cA U' H d v) .non .bl .int .str (λh _ i=>.tup (h.kW e) i) (λh _ i=>.fl (h.kW e) i) (λh n=>.fd h (λz=>n (e _ z))) (λh _ i=>.exc (h.kW e) i) (λh _ i=>.ob (h.kW e) i) .any .nil (λ_ _ i j=>.cons i j) h
theorem aD.kW(e:∀a,U'.z a->U.z a){d:List D}{v:List V}(h:aD K cA U H d v):aD K cA U' H d v:=
 aD.rec (motive_1:=λd v _=>Rep K cA U' H d v) (motive_2:=λd v _=>aD K cA U' H d v) .non .bl .int .str (λh _ i=>.tup (h.kW e) i) (λh _ i=>.fl (h.kW e) i) (λh n=>.fd h (λz=>n (e _ z))) (λh _ i=>.exc (h.kW e) i) (λh _ i=>.ob (h.kW e) i) .any .nil (λ_ _ i j=>.cons i j) h
theorem kO.kW(e:∀a,U'.z a->U.z a){a:Addr}{o:SO}(h:kO K cA U H a o):kO K cA U' H a o:=h.map (λ_ q=>q) λ_ _ r=>r.kW e
theorem Rep.zl{d:D}{v:V}(h:Rep K cA U H d v)(l:List Addr):Rep K cA ⟨U.z,l⟩ H d v:=Rep.kW (U:=U) (U':=⟨U.z,l⟩) (λ_ z=>z) h
theorem aD.zl{d:List D}{v:List V}(h:aD K cA U H d v)(l:List Addr):aD K cA ⟨U.z,l⟩ H d v:=aD.kW (U:=U) (U':=⟨U.z,l⟩) (λ_ z=>z) h
theorem kO.zl{a:Addr}{o:SO}(h:kO K cA U H a o)(l:List Addr):kO K cA ⟨U.z,l⟩ H a o:=kO.kW (U:=U) (U':=⟨U.z,l⟩) (λ_ z=>z) h
noncomputable def adr(l:List Addr):List Nat->List Addr
 |[]=>[]|n::r=>match l[n]? with
  |some a=>a::adr l r|none=>adr l r
theorem Gu{l:List Addr}:∀{ns:List Nat} {a:Addr},a∈adr l ns->∃n∈ns,l[n]?=some a
 |[],a,h=>by cases h|n::r,a,h=>by
  unfold adr at h;cases e:l[n]? with
  |none=>
   simp only[e]at h;let⟨m,h1,h2⟩:=Gu h;show⟨m,fZ _ h1,h2⟩
  |some b=>
   simp only[e]at h;rcases cX.mp h with rfl|h
   .exact⟨n,jH,e⟩
   .obtain⟨m,h1,h2⟩:=Gu h;show⟨m,fZ _ h1,h2⟩
theorem zeg{s:S}:∀{ns:List Nat} {s0:S} {i n:Nat},ju s ns=some s0->ns[i]?=some n->s0[i]?=s[n]?/\∃o,s[n]?=some o
 |[],s0,i,n,h,e=>by simp at e|m::r,s0,i,n,h,e=>by
  unfold ju at h;cases e1:s[m]? with
  |none=>simp only[e1]at h;cases h|some o=>
   cases e2:ju s r with
   |none=>simp only[e1,e2]at h;cases h|some q=>
    simp only[e1,e2]at h;cases h;cases i with
    |zero=>simp at e;subst e;show⟨by simp[e1],o,e1⟩|succ i=>simpa using zeg e2 (by simpa using e)
theorem zd5{s:S}:∀{ns:List Nat} {s0:S},ju s ns=some s0->s0.length=ns.length
 |[],s0,h=>by cases h;rfl|m::r,s0,h=>by
  unfold ju at h;cases e1:s[m]? with
  |none=>simp only[e1]at h;cases h|some o=>
   cases e2:ju s r with
   |none=>simp only[e1,e2]at h;cases h|some q=>
    simp only[e1,e2]at h;cases h;rw[fP,fP,zd5 e2]
theorem KJ{l:List Addr}:∀{ns:List Nat} {i n:Nat},(∀n∈ns,∃a,l[n]?=some a)->ns[i]?=some n->(adr l ns)[i]?=l[n]?
 |[],i,n,_,e=>by simp at e|m::r,i,n,h,e=>by
  let⟨a,ha⟩:=h m jH;unfold adr;simp only[ha];cases i with
  |zero=>simp at e;subst e;simp[ha]|succ i=>simpa using KJ (λn hn=>h n (fZ _ hn)) (by simpa using e)
theorem KN{l:List Addr}:∀{ns:List Nat},(∀n∈ns,∃a,l[n]?=some a)->(adr l ns).length=ns.length
 |[],_=>rfl|m::r,h=>by
  let⟨a,ha⟩:=h m jH;unfold adr;simp only[ha];rw[fP,fP,KN (λn hn=>h n (fZ _ hn))]
theorem zdo{l:List Addr}(hl:l.Nodup):∀{ns:List Nat},ns.Nodup->(∀n∈ns,∃a,l[n]?=some a)->(adr l ns).Nodup
 |[],_,_=>Ce|m::r,hn,h=>by
  let⟨a,ha⟩:=h m jH;unfold adr;simp only[ha];let⟨h1,h2⟩:=rE.mp hn;show rE.mpr ⟨λz=>?_,zdo hl h2 (λn hn=>h n (fZ _ hn))⟩;let⟨n,q1,q2⟩:=Gu z;let:m=n:=(Rq (h_.mp ha).1 hl).mp (ha.trans q2.symm);show h1 (this▸q1)
theorem Gv{s:S}:∀{ns:List Nat} {s1:S},(dB s ns s1).length=s.length
 |[],s1=>by cases s1<;>rfl|n::r,[]=>rfl|n::r,o::q=>by
  change (dB (s.set n o) r q).length=_;rw[Gv,pH]
theorem Ux{s:S}:∀{ns:List Nat} {s1:S} {m:Nat},m∉ns->(dB s ns s1)[m]?=s[m]?
 |[],s1,m,_=>by cases s1<;>rfl|n::r,[],m,_=>rfl|n::r,o::q,m,h=>by
  change (dB (s.set n o) r q)[m]?=_;rw[Ux (λz=>h (fZ _ z)),sJ (λz=>h (by rw[z];show jH))]
theorem zd3{s:S}:∀{ns:List Nat} {s1:S} {i m:Nat} {o:SO},ns.Nodup->ns[i]?=some m->s1[i]?=some o->m<s.length->(dB s ns s1)[m]?=some o
 |[],s1,i,m,o,_,e,_,_=>by simp at e|n::r,[],i,m,o,_,_,e,_=>by simp at e|n::r,q::qs,i,m,o,hn,e1,e2,hm=>by
  change (dB (s.set n q) r qs)[m]?=_;let⟨h1,h2⟩:=rE.mp hn;cases i with
  |zero=>
   simp at e1 e2;subst e1 e2;rw[Ux h1,zV hm]
  |succ i=>show zd3 h2 (by simpa using e1) (by simpa using e2) (by rw[pH];show hm)
theorem zfw:∀{xs:List Xv} {vs:List V} (l0:List Addr) (z:Addr->Prop) (k:Nat),cH K cA U H xs vs->U.z=z->(∀i n,(locs xs)[i]?=some n->l0[k+i]?=U.l[n]?)->cH K cA ⟨z,l0⟩ H (eF k xs) vs
 :=by
 intro xs vs l0 z k r0
 induction r0 generalizing k with
 |nil=>show λ_ _=>.nil|@cons x v xs vs a q ih=>
  intro ez h;cases a with
  |d a=>show .cons (.d (a.kW λb hb=>by rw[ez];show hb)) (ih k ez h)|@l n a' a=>
   show .cons (.l ?_) (ih (k+1) ez λi m e=>?_)
   .let:=h 0 n rfl;rw[Nat.add_zero]at this;change l0[k]?=_;rw[this];show a
   .let:=h (i+1) m (by simpa [locs] using e);rw[<-this]
    congr 1
    lia
theorem zeS:∀{xs:List Xv} {vs:List V},cH K cA U H xs vs->∀n∈locs xs,∃a,U.l[n]?=some a
 :=by
 intro xs vs r0
 induction r0 with
 |nil=>show λn h=>by cases h|cons a q ih=>
  intro n h;cases a with
  |d a=>show ih n h|l a=>
   rcases cX.mp h with rfl|h
   .exact⟨_,a⟩
   .exact ih n h
theorem zdd{xs:List Xv}{U1:Ph}{s0 s1:S}(hS:aK K cA U H s)(hn:(locs xs).Nodup)(ht:∀n∈locs xs,∃a,U.l[n]?=some a)(x:Ext ⟨U.z,adr U.l (locs xs)⟩ H U1 H')(r1:aK K cA U1 H' s1) :
  Ext U H ⟨U1.z,U.l⟩ H'/\aK K cA ⟨U1.z,U.l⟩ H' (dB s (locs xs) s1):=by
 let ao:∀a∈adr U.l (locs xs),a∈U.l:=λa ha=>by let⟨n,_,q⟩:=Gu ha;show iH q
 let⟨r,er,hr⟩:=x.more;let er:U1.l=adr U.l (locs xs)++r:=er;show⟨⟨⟨[],by simp,by simp⟩,λa h=>x.wG a h,λa h=>x.oF a h,λa o h n=>x.frame a o h λz=>n (ao a z),x.stay⟩,?_⟩;show⟨by rw[Gv];show hS.len,λn o a e1 e2=>?_,hS.uniq,λa ha=>x.wG a (hS.lz a ha),r1.zt⟩;let e2:U.l[n]?=some a:=e2;by_cases fL:n∈locs xs
 .obtain⟨i,hi,ei⟩:=Hv fL;let ei:(locs xs)[i]?=some n:=by rw[dW hi,ei]
  let ha:(adr U.l (locs xs))[i]?=some a:=by rw[KJ ht ei];show e2
  let ha1:U1.l[i]?=some a:=by rw[er,nQ (h_.mp ha).1];show ha
  let bV:i<s1.length:=by rw[<-r1.len];show(h_.mp ha1).1
  let hb:=zd3 (s:=s) (s1:=s1) hn ei (dW bV) (by rw[<-hS.len];show(h_.mp e2).1);rw[hb]at e1;cases e1;show kO.zl (r1.obj i _ a (dW bV) ha1) _
 .rw[Ux fL]at e1;let Uy:a∉adr U.l (locs xs):=λz=>by
   let⟨m,q1,q2⟩:=Gu z;let:n=m:=(Rq (h_.mp e2).1 hS.uniq).mp (e2.trans q2.symm);show fL (this▸q1)
  show(hS.obj n o a e1 e2).map (λ_ q=>x.frame a _ q Uy) λ_ _ r=>Rep.zl ((Rep.zl r _).mono x λa ha=>hS.lz a (ao a ha)) _
theorem zih{F:List Xv->M Xv}{xs:List Xv}{vs:List V}{Q:VK}{EE:Nat->List D->Ph->Hp->Prop}(hS:aK K cA U H s)(r:cH K cA U H xs vs)
  (hE:∀c fs U1 U2 H',U1.z=U2.z->EE c fs U1 H'->EE c fs U2 H')
  (h:Run K cA (cG F xs) U H s (λx _ U' H'=>∀v,bJ K cA U' H' x v->Q v H') (λc fs _ U' H'=>EE c fs U' H')) :
  ∃U0 s0,cH K cA U0 H (eF 0 xs) vs/\aK K cA U0 H s0/\Run K cA (F (eF 0 xs)) U0 H s0 (λx _ U' H'=>∀v,bJ K cA U' H' x v->Q v H') (λc fs _ U' H'=>EE c fs U' H'):=by
 unfold Run cG at h;by_cases hn:(locs xs).Nodup
 .simp only[if_pos hn]at h;let ht:=zeS r;let ao:∀a∈adr U.l (locs xs),a∈U.l:=λa ha=>by let⟨n,_,q⟩:=Gu ha;show iH q
  cases e0:ju s (locs xs) with
  |none=>simp only[e0]at h|some s0=>
   simp only[e0]at h;show⟨⟨U.z,adr U.l (locs xs)⟩,s0,zfw _ _ 0 r rfl (λi n e=>by rw[Nat.zero_add];show KJ ht e),?_,?_⟩
   .refine⟨by rw[zd5 e0];show KN ht,λi o a e1 e2=>?_,zdo hS.uniq hn ht,λa ha=>hS.lz a (ao a ha),hS.zt⟩;let e2:(adr U.l (locs xs))[i]?=some a:=e2;let hi:i<(locs xs).length:=by rw[<-KN ht];show(h_.mp e2).1
    let ei:(locs xs)[i]?=some ((locs xs)[i]):=dW hi;rw[KJ ht ei]at e2;rw[(zeg e0 ei).1]at e1;show kO.zl (hS.obj _ o a e1 e2) _
   .unfold Run;cases e1:F (eF 0 xs) s0 with
    |none=>simp only[e1]at h|some q=>
     let⟨q,s1⟩:=q;simp only[e1]at h;cases q with
     |er c fs=>
      intro U1 H' x r1;let⟨x2,r2⟩:=zdd (s0:=s0) hS hn ht x r1;show hE c fs ⟨U1.z,U.l⟩ U1 H' rfl (h ⟨U1.z,U.l⟩ H' x2 r2)
     |ok y=>
      intro U1 H' x r1 v rv;let⟨x2,r2⟩:=zdd (s0:=s0) hS hn ht x r1;cases y with
      |d w=>
       cases rv with
       |d rv=>show h ⟨U1.z,U.l⟩ H' x2 r2 v (.d (Rep.zl rv _))
      |l n=>
       cases rv with
       |@l _ a hl=>
        let⟨rr,er,hr⟩:=x.more;let er:U1.l=adr U.l (locs xs)++rr:=er;cases em:(locs xs)[n]? with
        |some m=>
         simp only[em]at h;show h _ H' x2 r2 _ (.l ?_);change U.l[m]?=some a;let ha:(adr U.l (locs xs))[n]?=U.l[m]?:=KJ ht em;let bV:n<(adr U.l (locs xs)).length:=by rw[KN ht];show(h_.mp em).1
         rw[er,nQ bV]at hl;rw[<-ha];show hl
        |none=>
         simp only[em]at h;let hge:(adr U.l (locs xs)).length<=n:=by rw[KN ht];show oU.mp em
         let Pg:a∈rr:=by
          rw[er,pF hge]at hl;show iH hl
         let Uy:a∉U.l:=λz=>by
          let⟨o,eo⟩:=hS.zt a (hS.lz a z);rw[hr a Pg]at eo;cases eo
         cases eo:s1[n]? with
         |none=>simp only[eo]at h|some o=>
          simp only[eo]at h;let ho:=r1.obj n o a eo hl;show h ⟨U1.z,U.l++[a]⟩ H' ⟨⟨[a],rfl,by simpa using hr a Pg⟩,x2.wG,x2.oF,x2.frame,x2.stay⟩ ?_ _ (.l (by change (U.l++[a])[s.length]?=_;rw[<-hS.len];simp));show⟨by change (U.l++[a]).length=_;rw[bZ,bZ,Gv,hS.len];rfl,λm o' a' e1 e2=>?_,?_,λb hb=>?_,r1.zt⟩
          .let e2:(U.l++[a])[m]?=some a':=e2;by_cases hm:m<s.length
           .rw[nQ (by rw[Gv];show hm)]at e1;rw[nQ (by rw[hS.len];show hm)]at e2;show kO.zl (r2.obj m o' a' e1 e2) _
           .let pO:m=s.length:=by
             let z:=(h_.mp e2).1;rw[bZ,hS.len]at z;simp at z
             lia
            subst pO;rw[pF (by rw[Gv];show bQ _)]at e1;rw[pF (by rw[hS.len];show bQ _)]at e2;simp[Gv]at e1;simp[hS.len]at e2;subst e1 e2;show kO.zl ho _
          .show (U.l++[a]).Nodup;rw[FP];show⟨hS.uniq,by simp,λb hb c hc e=>?_⟩;simp at hc;subst hc e;show Uy hb
          .let hb:b∈U.l++[a]:=hb;rcases dw.mp hb with z|z
           .exact x2.wG b (hS.lz b z)
           .simp at z;subst z;show r1.lz _ (iH hl)
 .simp only[if_neg hn]at h
end
section
variable {X:Cx}{cA:Cl}{ao:Nat->Nat->Bool}{aj:Bool}{F:Fn}{EX:XS}{a b c d e o:Expr}{A B C Dd E' O:E}{pos pp p2 apos cpos:Pos}{es:List Expr}{Xs:Es}{fz:Bool}{p:Pr}{x:Str}{U:Ph}{H:Hp}{s:S}
theorem PB{K:W.Frag}{β:Type}{x:Xv}{v:V}{k:Nat×List D->M β}{P:β->S->Ph->Hp->Prop}{Ee:Nat->List D->S->Ph->Hp->Prop}(hS:aK K cA U H s)(r:bJ K cA U H x v)(h:Run K cA (M.bd (cT x) k) U H s P Ee) :
  ∃n ad xs vs,x=.l n/\v=.ref ad/\s[n]?=some (.lst xs)/\U.l[n]?=some ad/\H ad=some (.lst vs)/\aD K cA U H xs vs/\Run K cA (k (n,xs)) U H s P Ee:=by
 cases r with
 |d _=>show h.elim|@l n ad hl=>
  unfold Run M.bd cT at h;dsimp only at h;cases e:s[n]? with
  |none=>rw[e]at h;show h.elim|some o=>
   rw[e]at h;cases o with
   |lst xs=>
    let⟨vs,q1,q2⟩:=hS.obj n _ _ e hl;show⟨n,ad,xs,vs,rfl,rfl,e,hl,q1,q2,h⟩
   |_=>show h.elim
theorem zjF(ho:SE X cA ao aj F EX o O)(ha:SE X cA ao aj F EX a A)
  (cQ:attributeBase o "append" X.env (eval o X.env)=eval o X.env:=by rfl)
  (mO:((backTo cpos (starEach [a] X.env)).all (λx=>!x.1)&&(backToKw cpos (keywordEach [] X.env)).all (λx=>x.1.isSome)
  &&decide ([a].length+([]:List Keyword).length+(if ([]:List Keyword).isEmpty then 0 else 1)<30))=true:=by rfl)
  (cR:(apos.endLine==cpos.line)=true:=by rfl) (hs:starEach [a] X.env=(false,eval a X.env)::starEach [] X.env:=by rfl) (dO:(backTo cpos (starEach [] X.env)).any (·.1)=false:=by rfl) :
  SE X cA ao aj F EX (.Call (.Attribute o "append" apos) [a] [] cpos) (.push O A):=PE.weak (ZF M_ PySem.F.slot_list_append PySem.F.type_list_append ZJ ho (wA ha CV hs) cQ mO cR hs dO) λZ H Q hh=>un hh λU J s hL hS h=>by
 show bO hL hS h λx H1 U1 d1 s1 x1 hL1 aL r1 h1=>?_;let⟨n,ad,xs,vs,rfl,rfl,e1,f1,g1,q1,h2⟩:=PB aL r1 h1;show⟨.inl ⟨rfl,vs,cY.of g1⟩,bO hL1 aL h2 λy H2 U2 d2 s2 x2 hL2 hS2 r2 h3=>?_⟩;let⟨dd,_,rd,h4⟩:=Uj r2 h3;let⟨n',ad',ys,us,en,ea,e2,f2,g2,q2,h5⟩:=PB hS2 (r1.mono x2 aL.lz) h4;cases en;cases ea;by_cases hz:ys.length<sizeLine
 .let h5:Run X.K cA (M.bd (putL n (ys++[dd])) λ_=>M.ret (Xv.d .non)) U2 H2 s2 (λd _ U' H'=>∀v,bJ X.K cA U' H' d v->Q v H') (eX X.K cA EX Z):=by
   let h6:Run X.K cA (if ys.length<sizeLine then M.bd (putL n (ys++[dd])) λ_=>M.ret (Xv.d .non) else M.no) U2 H2 s2 (λd _ U' H'=>∀v,bJ X.K cA U' H' d v->Q v H') (eX X.K cA EX Z):=h5;rw[if_pos hz]at h6;show h6
  show⟨ad,us,y,rfl,rfl,g2,by rw[<-q2.len];show hz,?_⟩;show h5 U2 _ (Ext.write f2 ⟨_,g2⟩) (hS2.write e2 f2 (q2.app (.cons rd .nil))) _ (.d .non)
 .let h6:Run X.K cA (if ys.length<sizeLine then M.bd (putL n (ys++[dd])) λ_=>M.ret (Xv.d .non) else M.no) U2 H2 s2 (λd _ U' H'=>∀v,bJ X.K cA U' H' d v->Q v H') (eX X.K cA EX Z):=h5;rw[if_neg hz]at h6;show h6.elim
theorem zdX{α:Type}{xs:List α}{d:α}(h:xs.getLast?=some d):xs[xs.length-1]?=some d:=by
 rw[List.getLast?_eq_getElem?]at h;show h
theorem aD.dropLast{K:W.Frag}{ds:List D}{vs:List V}(r:aD K cA U H ds vs):aD K cA U H ds.dropLast vs.dropLast:=by
 rw[List.dropLast_eq_take,List.dropLast_eq_take,r.len];show r.take _
theorem zng(ho:SE X cA ao aj F EX o O)(cQ:attributeBase o "pop" X.env (eval o X.env)=eval o X.env:=by rfl)(cR:(apos.endLine==cpos.line)=true:=by rfl) :
  SE X cA ao aj F EX (.Call (.Attribute o "pop" apos) [] [] cpos) (.pop O):=PE.weak (zmr M_ PySem.F.slot_list_pop PySem.F.type_list_pop zlN ho cQ cR) λZ H Q hh=>un hh λU J s hL hS h=>by
 show bO hL hS h λx H1 U1 d1 s1 x1 hL1 aL r1 h1=>?_;let⟨n,ad,xs,vs,rfl,rfl,e1,f1,g1,q1,h2⟩:=PB aL r1 h1;show⟨.inl ⟨rfl,vs,cY.of g1⟩,?_⟩;cases eg:xs.getLast? with
 |none=>simp only[eg]at h2;show h2.elim|some dd=>
  simp only[eg]at h2;let⟨w,hw,mL⟩:=q1.get (zdX eg);rw[q1.len]at hw;show⟨ad,vs,w,rfl,rfl,g1,hw,?_⟩;let x2:Ext U1 H1 U1 (upd H1 ad (.lst vs.dropLast)):=Ext.write f1 ⟨_,g1⟩;show h2 U1 _ x2 (aL.write e1 f1 q1.dropLast) _ (.d (mL.mono x2 aL.lz))
noncomputable def tQ(K:W.Frag)(cA:Cl)(m:List Xv->M Xv):Sp:=λvs H Q E=>∃U xs s,cH K cA U H xs vs/\aK K cA U H s/\Run K cA (m xs) U H s (λd _ U' H'=>∀v,bJ K cA U' H' d v->Q v H') (λc fs _ U' H'=>∀dx,j9 K cA U' H' c fs dx->E (.ref (cA.a c)) dx H')
theorem zjp{K:W.Frag}{U1 U2:Ph}{c:Nat}{fs:List D}{dx:Option Addr}(e:U1.z=U2.z)(h:j9 K cA U2 H c fs dx):j9 K cA U1 H c fs dx:=h.imp id λ⟨d,vs,a,b,c,l,r⟩=>⟨d,vs,a,by rw[e];show b,c,l,r.kW λ_ z=>by rw[<-e];show z⟩
theorem zkX{cm:Bool}{k f:Nat}{fa:Addr}{fd:FuncData}{ps:List Str}(Fo:fU X.prog X.w X.K X.mg X.base (lq X.prog X.w) cm k fa fd ps (tQ X.K cA (F f)))(rH:cm=true->X.aj=true)(hr:cC k X.A)(hg:Gl X x)(hm:X.mg x=some (.ref fa))(hk:PySem.W.keepIn X.K (.ref fa)=true)(hb:Binds X.K fd ps [])(R:Raises X EX)
  (ha:SA X cA ao aj F EX (e::es) Xs) (lg:(x==("__debug__" : Str))=false:=by decide) (he:starEach (e::es) X.env=(false,eval e X.env)::starEach es X.env:=by rfl) (bU:(backTo pos (starEach es X.env)).any (·.1)=false:=by rfl) :
  SE X cA ao aj F EX (.Call (.Name x pp) (e::es) [] pos) (.call f Xs):=PE.weak (zit Fo rH hr hg hm hk hb R ha lg he bU) λZ H Q hh=>un hh λU J s hL hS h=>
 p8 hL hS h λvs H1 U1 ds s1 x1 hL1 aL r1 h1=>by
  let⟨U0,s0,a1,a2,a3⟩:=zih (EE:=λc fs U' H'=>∀dx,j9 X.K cA U' H' c fs dx->EX Z (.ref (cA.a c)) dx H') aL r1 (λc fs U1 U2 H' ez z dx q=>z dx (zjp ez q)) h1;show⟨U0,_,s0,a1,a2,a3⟩
end
section
variable {K:W.Frag}{cA:Cl}{U U':Ph}{H H':Hp}{s:S}
def fB(U:Ph)(H H':Hp):Prop:=∀a o,H a=some o->¬U.z a->H' a=some o
theorem Rep.out(x:fB U H H'){d:D}{v:V}(h:Rep K cA U H d v):Rep K cA U H' d v:=
 Rep.rec (motive_1:=λd v _=>Rep K cA U H' d v) (motive_2:=λd v _=>aD K cA U H' d v) .non .bl .int .str
  (λh _ r=>.tup (h.imp (λz=>⟨z.1.imp (λq=>x _ _ q z.2) λw=>w.elim λo q=>⟨o,x _ _ q z.2⟩,z.2⟩) id) r)
  (λh _ r=>.fl (h.imp (λz=>⟨z.1.imp (λq=>x _ _ q z.2) λw=>w.elim λo q=>⟨o,x _ _ q z.2⟩,z.2⟩) id) r)
  (λh n=>.fd (x _ _ h n) n)
  (λh _ r=>.exc ⟨h.1,h.2.imp (λz=>z.elim λa z=>z.elim λb q=>⟨a,b,x _ _ q h.1⟩) λz=>z.elim λdx z=>⟨dx,x _ _ z.1 h.1,z.2.1,x _ _ z.2.2.1 z.2.1,z.2.2.2⟩⟩ r)
  (λh _ r=>.ob ⟨h.1,h.2.elim λdx z=>⟨dx,x _ _ z.1 h.1,z.2⟩⟩ r) .any .nil (λ_ _ a b=>.cons a b) h
theorem aD.out(x:fB U H H'){ds:List D}{vs:List V}(h:aD K cA U H ds vs):aD K cA U H' ds vs:=
 aD.rec (motive_1:=λ_ _ _=>True) (motive_2:=λd v _=>aD K cA U H' d v) trivial (λ_=>trivial) (λ_=>trivial) (λ_=>trivial) (λ_ _ _=>trivial) (λ_ _ _=>trivial) (λ_ _=>trivial) (λ_ _ _=>trivial) (λ_ _ _=>trivial) (λ_=>trivial) .nil (λh _ _ r=>.cons (h.out x) r) h
theorem fB.refl:fB U H H:=λa o e _=>e
structure jN(K:W.Frag)(cA:Cl)(c:Src)(U:Ph)(H:Hp)(cg:L2.It):Prop where
 stop:∀U' H₁ H' s' i,Ext U H U' H₁->fB U' H₁ H'->aK K cA U' H' s'->c.at i s'=some none->cg.stop i H'
 go:∀U' H₁ H' s' i x,Ext U H U' H₁->fB U' H₁ H'->aK K cA U' H' s'->c.at i s'=some (some x)->cg.go i H'
 CK:∀U' H₁ H' s' i x v H2,Ext U H U' H₁->fB U' H₁ H'->aK K cA U' H' s'->c.at i s'=some (some x)->cg.CK i H' v H2->bx H' H2/\Rep K cA U' H2 x v
theorem LstAt.later(hz:∀a∈U.l,U.z a)(h:LstAt K U H a vs)(x:Ext U H U' H₁)(o:fB U' H₁ H'):LstAt K U' H' a vs:=
 (h.mono x hz).imp (λ⟨p,n⟩=>⟨p.imp (λq=>o _ _ q n) λ⟨w,q⟩=>⟨w,o _ _ q n⟩,n⟩) id
theorem TupAt.later(hz:∀a∈U.l,U.z a)(h:TupAt K U H a vs)(x:Ext U H U' H₁)(o:fB U' H₁ H'):TupAt K U' H' a vs:=
 (h.mono x hz).imp (λ⟨p,n⟩=>⟨p.imp (λq=>o _ _ q n) λ⟨w,q⟩=>⟨w,o _ _ q n⟩,n⟩) id
theorem jN.list(hz:∀a∈U.l,U.z a)(h:LstAt K U H a vs)(r:aD K cA U H xs vs):jN K cA (.fix xs) U H (Ox K a):=by
 show⟨λU' H₁ H' s' i x o hS e=>⟨vs,(h.later hz x o).tL,?_⟩,λU' H₁ H' s' i d x o hS e=>?_,λU' H₁ H' s' i d v H2 x o hS e y=>?_⟩
 .let e:xs[i]?=none:=dM e;show oU.mp ((r.mono x hz).none e)
 .let e:xs[i]?=some d:=dM e;let⟨v,q,_⟩:=r.get e;show⟨vs,v,(h.later hz x o).tL,q⟩
 .let e:xs[i]?=some d:=dM e;let⟨rfl,y⟩:=y;let⟨w,q,mL⟩:=((r.mono x hz).out o).get e;let:=y vs (h.later hz x o).tL;rw[q]at this;cases this;show⟨bx.refl,mL⟩
theorem jN.tuple(hz:∀a∈U.l,U.z a)(h:TupAt K U H a vs)(r:aD K cA U H xs vs):jN K cA (.fix xs) U H (R4 K a):=by
 show⟨λU' H₁ H' s' i x o hS e=>⟨vs,(h.later hz x o).jw,?_⟩,λU' H₁ H' s' i d x o hS e=>?_,λU' H₁ H' s' i d v H2 x o hS e y=>?_⟩
 .let e:xs[i]?=none:=dM e;show oU.mp ((r.mono x hz).none e)
 .let e:xs[i]?=some d:=dM e;let⟨v,q,_⟩:=r.get e;show⟨vs,v,(h.later hz x o).jw,q⟩
 .let e:xs[i]?=some d:=dM e;let⟨rfl,y⟩:=y;let⟨w,q,mL⟩:=((r.mono x hz).out o).get e;let:=y vs (h.later hz x o).jw;rw[q]at this;cases this;show⟨bx.refl,mL⟩
theorem Uz(h:(Src.live n).at i s=some o):∃xs,s[n]?=some (.lst xs)/\xs[i]?=o:=by
 unfold Src.at at h;dsimp only at h;cases e:s[n]? with
 |none=>rw[e]at h;cases h|some ob=>
  rw[e]at h;cases ob with
  |lst xs=>show⟨xs,rfl,dM h⟩|_=>cases h
theorem jN.live(h:U.l[n]?=some a):jN K cA (.live n) U H (Ox K a):=by
 show⟨λU' H₁ H' s' i x o hS e=>?_,λU' H₁ H' s' i d x o hS e=>?_,λU' H₁ H' s' i d v H2 x o hS e y=>?_⟩
 .obtain⟨xs,e1,e2⟩:=Uz e;let⟨vs,q1,q2⟩:=hS.obj n _ a e1 (x.get h);show⟨vs,cY.of q1,oU.mp (q2.none e2)⟩
 .obtain⟨xs,e1,e2⟩:=Uz e;let⟨vs,q1,q2⟩:=hS.obj n _ a e1 (x.get h);let⟨v,q3,_⟩:=q2.get e2;show⟨vs,v,cY.of q1,q3⟩
 .obtain⟨xs,e1,e2⟩:=Uz e;let⟨vs,q1,q2⟩:=hS.obj n _ a e1 (x.get h);let⟨w,q3,mL⟩:=q2.get e2;let⟨rfl,y⟩:=y;let:=y vs (cY.of q1);rw[q3]at this;cases this;show⟨bx.refl,mL⟩
theorem UG:(jh a b)[i]?=if i<(b-a).toNat then some (.int (a+i)) else none:=by
 unfold jh;rw[ji,List.getElem?_range']
where
 List.getElem?_range' {n i:Nat}:Option.map (λ(i:Nat)=>D.int (a+i)) (List.range n)[i]?=if i<n then some (.int (a+i)) else none:=by
  by_cases h:i<n
  .rw[if_pos h,Rh h];rfl
  .rw[if_neg h,Hs (by simp;lia)];rfl
theorem jN.range{a b:Int}:jN K cA (.fix (jh a b)) U H (Iv a (b-a).toNat):=by
 show⟨λU' H₁ H' s' i x o hS e=>?_,λU' H₁ H' s' i d x o hS e=>?_,λU' H₁ H' s' i d v H2 x o hS e y=>?_⟩
 .let e:(jh a b)[i]?=none:=dM e;rw[UG]at e;split at e
  .cases e
  .exact NT (by assumption)
 .let e:(jh a b)[i]?=some d:=dM e;rw[UG]at e;split at e
  .assumption
  .cases e
 .let e:(jh a b)[i]?=some d:=dM e;rw[UG]at e;split at e
  .cases e;let⟨rfl,rfl⟩:=y;show⟨bx.refl,.int _⟩
  .cases e
end
noncomputable def UJ(K:W.Frag)(te:TE):TI:=λZ H R=>te Z H λv H1=>∃a,v=.ref a/\(((∃xs,cY K H1 a xs)/\R (Ox K a) H1)\/((∃xs,fQ K H1 a xs)/\R (R4 K a) H1))
theorem znB(he:PE X l te):PI X tg l (UJ X.K te):=by
 intro ak s Z H R I h;show bD (he ak s Z H _ I h) λv s1 hx=>Oi hx λx H1 I1 r1 a e q=>?_;subst e;cases r1;rcases q with ⟨⟨xs,hq⟩,q⟩|⟨⟨xs,hq⟩,q⟩
 .obtain⟨its,rv,p,hz⟩:=I1.list hq;show Hx p.isList ?_;show⟨s1.heap.objs.size,[s1.heap.objs.size],_,_,H1,rfl,I1.kept (t':=s1.toks) λb o e=>dD _ e,zfG a _,⟨_,gK _ rfl,rfl,rfl⟩,λb hb=>?_,q⟩;let e:b=s1.heap.objs.size:=by simpa using hb
  subst e;show I1.uH (bQ _) (I1.hok.fresh (bQ _))
 .obtain⟨its,rv,p,hz⟩:=I1.tuple hq;show Hw (show s1.heap.IsTuple a its.toArray from p) ?_;show⟨s1.heap.objs.size,[s1.heap.objs.size],_,_,H1,rfl,I1.kept (t':=s1.toks) λb o e=>dD _ e,zeN a _,⟨_,gK _ rfl,rfl,rfl⟩,λb hb=>?_,q⟩;let e:b=s1.heap.objs.size:=by simpa using hb
  subst e;show I1.uH (bQ _) (I1.hok.fresh (bQ _))
section
variable {X:Cx}{cA:Cl}{ao:Nat->Nat->Bool}{aj:Bool}{F:Fn}{EX:XS}{a b tg:Expr}{A B:E}{pos pp:Pos}
noncomputable def tI(K:W.Frag)(cA:Cl)(EX:XS)(m:Vs->M (Src×Nat)):TI:=λZ H R=>∃U J s,bF K cA U H Z J/\aK K cA U H s/\Run K cA (m J) U H s (λcn _ U1 H1=>∀cg,jN K cA cn.1 U1 H1 cg->R cg H1) (eX K cA EX Z)
def SI(X:Cx)(cA:Cl)(ao:Nat->Nat->Bool)(aj:Bool)(F:Fn)(EX:XS)(tg iter:Expr)(w:Wk):Prop:=PI X tg iter (tI X.K cA EX (mW ao aj F w))
theorem PI.weak{iter:Expr}{t t':TI}(h:PI X tg iter t)(f:∀Z H Q,t' Z H Q->t Z H Q):PI X tg iter t':=λak s Z H Q I q=>h ak s Z H Q I (f Z H Q q)
theorem znh(ha:SE X cA ao aj F EX a A):SI X cA ao aj F EX tg a (.seq A):=PI.weak (znB ha) λZ H R hh=>un hh λU J s hL hS h=>by
 show bO hL hS h λv H1 U1 d s1 x1 hL1 aL r1 h1=>?_;cases r1 with
 |@l n ad hl=>
  unfold Run src at h1;dsimp only at h1;cases e:s1[n]? with
  |none=>rw[e]at h1;show h1.elim|some o=>
   rw[e]at h1;cases o with
   |lst xs=>
    let⟨vs,q1,q2⟩:=aL.obj n _ _ e hl;show⟨ad,rfl,.inl ⟨⟨vs,cY.of q1⟩,h1 U1 H1 Ext.refl aL _ (jN.live hl)⟩⟩
   |_=>show h1.elim
 |d r1=>
  cases r1 with
  |tup q r=>show⟨_,rfl,.inr ⟨⟨_,q.jw⟩,h1 U1 H1 Ext.refl aL _ (jN.tuple aL.lz q r)⟩⟩|fl q r=>show⟨_,rfl,.inl ⟨⟨_,q.tL⟩,h1 U1 H1 Ext.refl aL _ (jN.list aL.lz q r)⟩⟩|_=>show h1.elim
theorem zeC{i:Int}(h:gB i=true) : -(2^62)<=i/\i<2^62:=by
 unfold gB at h;rw[dZ,kI,kI]at h;show⟨by lia,h.2⟩
theorem zi2{K:W.Frag}{U:Ph}{H:Hp}{s:S}{i j:Int}{P:Src×Nat->S->Ph->Hp->Prop}{Ee:Nat->List D->S->Ph->Hp->Prop}(hS:aK K cA U H s)(h:Run K cA (if (gB i&&gB j)=true then M.ret (Src.fix (jh i j),(jh i j).length) else M.no) U H s P Ee):(-(2^62)<=i/\i<2^62/\-(2^62)<=j/\j<2^62)/\P (.fix (jh i j),(jh i j).length) s U H:=by
 by_cases hk:(gB i&&gB j)=true
 .rw[if_pos hk]at h;rw[dZ]at hk;let⟨a,b⟩:=zeC hk.1;let⟨c,d⟩:=zeC hk.2;show⟨⟨a,b,c,d⟩,h.bY hS⟩
 .rw[if_neg hk]at h;show h.elim
theorem znZ(qd:Gl X "range")(hmg:X.mg "range"=none)(ha:SE X cA ao aj F EX a A)(hb:SE X cA ao aj F EX b B)(h1:starEach [a,b] X.env=(false,eval a X.env)::starEach [b] X.env)(h2:starEach [b] X.env=(false,eval b X.env)::starEach [] X.env) :
  SI X cA ao aj F EX tg (.Call (.Name "range" pp) [a,b] [] pos) (.rg A B):=PI.weak (zgR qd hmg (wA ha (wA hb CV h2) h1) (by rw[h1,h2];rfl) (by rw[h2];rfl)) λZ H R hh=>un hh λU J s hL hS h=>by
 show bO hL hS h λx H1 U1 d1 s1 x1 hL1 aL r1 h1=>bO hL1 aL h1 λy H2 U2 d2 s2 x2 hL2 hS2 r2 h2=>?_;let⟨i,_,e1,h3⟩:=Kr (r1.mono x2 aL.lz) h2;let⟨j,_,e2,h4⟩:=Kr r2 h3;let⟨hz,q⟩:=zi2 hS2 h4;subst e1 e2;show⟨i,j,rfl,hz,q _ jN.range⟩
theorem zlD(qd:Gl X "range")(hmg:X.mg "range"=none)(hb:SE X cA ao aj F EX b B)(h2:starEach [b] X.env=(false,eval b X.env)::starEach [] X.env) :
  SI X cA ao aj F EX tg (.Call (.Name "range" pp) [b] [] pos) (.rg (.c (.int 0)) B):=PI.weak (zgb qd hmg (wA hb CV h2) (by rw[h2];rfl)) λZ H R hh=>un hh λU J s hL hS h=>by
 let h:Run X.K cA (M.bd (ev ao aj F B J) λy=>M.bd (int (.d (.int 0))) λi=>M.bd (int y) λj=>if (gB i&&gB j)=true then M.ret (Src.fix (jh i j),(jh i j).length) else M.no) U H s _ _:=h;show bO hL hS h λy H2 U2 d2 s2 x2 hL2 hS2 r2 h2=>?_;let⟨j,_,e2,h4⟩:=Kr r2 (show Run X.K cA (M.bd (int d2) λj=>if (gB 0&&gB j)=true then M.ret (Src.fix (jh 0 j),(jh 0 j).length) else M.no) U2 H2 s2 _ _ from h2);let⟨hz,q⟩:=zi2 hS2 h4;subst e2;show⟨j,rfl,hz.2.2.1,hz.2.2.2,q _ ?_⟩;let:=jN.range (K:=X.K) (cA:=cA) (U:=U2) (H:=H2) (a:=0) (b:=j);rw[Int.sub_zero]at this;show this
end
section
variable {K:W.Frag}{cA:Cl}{U U' U0:Ph}{H H' H0:Hp}{s:S}
theorem Run.bd0(x:Ext U0 H0 U H)(h:Run K cA (M.bd m k) U0 H0 s P Ee) :
  Run K cA m U H s (λa s1 U1 H1=>Ext U H U1 H1/\aK K cA U1 H1 s1/\Run K cA (k a) U0 H0 s1 P Ee) Ee:=by
 unfold Run M.bd at *;cases e:m s with
 |none=>rw[e]at h;show h|some r=>
  let⟨r,s1⟩:=r;rw[e]at h;cases r with
  |er c f=>show λU1 H1 x1 r1=>h U1 H1 (x.trans x1) r1|ok a=>show λU1 H1 x1 r1=>⟨x1,r1,h⟩
theorem zgD{α β:Type}{m:M α}{k:α->M β}{P:β->S->Ph->Hp->Prop}{Ee Ee':Nat->List D->S->Ph->Hp->Prop}(x:Ext U0 H0 U H)(h:Run K cA (M.bd (M.qt m) k) U0 H0 s P Ee) :
  Run K cA m U H s (λa s1 U1 H1=>Ext U H U1 H1/\aK K cA U1 H1 s1/\Run K cA (k a) U0 H0 s1 P Ee) Ee':=by
 let h2:=h.bd0 x;unfold Run at h2 ⊢;unfold M.qt at h2;cases e:m s with
 |none=>rw[e]at h2;show h2|some r=>
  let⟨r,s1⟩:=r;rw[e]at h2;cases r with
  |ok a=>show h2|er c f=>show h2.elim
theorem zl5{α β:Type}{m m':M α}{k:α->M β}{P:β->S->Ph->Hp->Prop}{Ee:Nat->List D->S->Ph->Hp->Prop}(e:m s=m' s)(h:Run K cA (M.bd m k) U H s P Ee):Run K cA (M.bd m' k) U H s P Ee:=by
 unfold Run M.bd at *;rw[<-e];show h
end
section
variable {X:Cx}{cA:Cl}{ao:Nat->Nat->Bool}{aj:Bool}{F:Fn}{EX:XS}{elt iter tg:Expr}{A B:E}{pos p:Pos}{ifs:List Expr}{scope:Scope}{N:List Str}{cond:Eo}{fr dY:List Nat}{many:Nat}{fz:Bool}{w:Wk}
def KQ(X:Cx)(cA:Cl)(ao:Nat->Nat->Bool)(aj:Bool)(F:Fn)(EX:XS)(ifs:List Expr)(m:Eo):Prop:=O_ X ifs (yL X.K cA EX (qN ao aj F m))
theorem znI:KQ X cA ao aj F EX [] .no:=λak s Z H Q I ⟨U,J,st,hL,hS,h⟩=>zkU ak s Z H Q I (h.bY hS)
theorem zjU(h:ST X cA ao aj F EX c C):KQ X cA ao aj F EX [c] (.yes C):=zkC h
structure mX(K:W.Frag)(cA:Cl)(g:TG)(dY:List Nat):Prop where
 run:∀(U:Ph) (H:Hp) (s:S) (Z:L2.St) (J J':Vs) (d:D) (v:V) (Q:L2.St->Hp->Prop),bF K cA U H Z J->aK K cA U H s->Rep K cA U H d v->gZ dY d J=some J'->
  (∀Z',bF K cA U H Z' J'->Z'.length=Z.length->(∀i,i∉dY->Z'[i]?=Z[i]?)->Q Z' H)->g v Z H Q
theorem lC{K:W.Frag}(i:Nat):mX K cA (eY i) [i] where
 run:=λU H s Z J J' d v Q hL hS r e k=>by
  cases e;show k _ (hL.set (.d r)) (pH ..) λj hj=>sJ (by simpa using λz=>hj (by simp[z]))
theorem Gw{K:W.Frag}(i j:Nat):mX K cA (uG K 2 (iR (eY i) (iR (eY j) uF))) [i,j] where
 run:=λU H s Z J J' d v Q hL hS r e k=>by
  let e:(lQ d).bind (λds=>iB [i,j] (ds.map Xv.d) J)=some J':=e;let⟨ds,e1,e2⟩:=v8.mp e;cases r with
  |@tup ad xs vs h1 h2=>
   let e1:xs=ds:=dM e1;subst e1;cases h2 with
   |nil=>cases e2|cons r1 t1=>
    cases t1 with
    |nil=>cases e2|cons r2 t2=>
     cases t2 with
     |nil=>
      let e2:=dM e2;subst e2;show⟨ad,_,rfl,h1.jw,rfl,_,_,rfl,_,_,rfl,rfl,k _ ((hL.set (.d r1)).set (.d r2)) (by rw[pH,pH]) λm hm=>?_⟩;rw[sJ (λz=>hm (by simp[z])),sJ (λz=>hm (by simp[z]))]
     |cons r3 t3=>cases e2
  |_=>cases e1
noncomputable def dh(many:Nat)(fr:List Nat)(Z:L2.St):L2.St:=List.replicate many none++fr.map λj=>(Z[j]?).join
theorem zjA{U:Ph}{H:Hp}{Z:L2.St}{J:Vs}(hL:bF X.K cA U H Z J){Z':L2.St}(hl:Z'.length=many+fr.length)(hf:∀(i:Nat) j v,fr[i]?=some j->Z[j]?=some (some v)->Z'[many+i]?=some (some v)):bF X.K cA U H Z' (blk many fr J):=by
 show⟨by unfold blk;simp[hl],λi d e=>?_⟩;unfold blk at e;by_cases hi:i<many
 .rw[nQ (by simpa using hi),M9,if_pos hi]at e;cases e
 .rw[pF (by simpa using NT hi),Nf,ji]at e;cases z:fr[i-many]? with
  |none=>rw[z]at e;cases e|some j=>
   rw[z]at e;let e3:J[j]?.join=some d:=by simpa using e
   let⟨v,q1,q2⟩:=hL.2 j d (Ul e3);show⟨v,?_,q2⟩;let:=hf (i-many) j v z q1;rw[show many+(i-many)=i by omega]at this;show this
structure jA(U:Ph)(H:Hp)(Dd:Addr)(o:HO):Prop where
 at_:H Dd=some o
 nl:Dd∉U.l
 z:U.z Dd
abbrev Keep(U:Ph)(H:Hp)(Dd:Addr)(vs:List V):Prop:=jA U H Dd (.lst vs)
theorem jA.mono{U U':Ph}{H H':Hp}{Dd:Addr}{o:HO}(x:Ext U H U' H')(k:jA U H Dd o):jA U' H' Dd o:=by
 show⟨x.frame _ _ k.at_ k.nl,λz=>?_,x.wG _ k.z⟩;let⟨r,er,hr⟩:=x.more;rw[er]at z;rcases dw.mp z with z|z
 .exact k.nl z
 .let:=hr _ z;rw[k.at_]at this;cases this
theorem jA.ext{U:Ph}{H:Hp}{Dd:Addr}{o u:HO}(k:jA U H Dd o):(∀a o,H a=some o->¬U.z a->(upd H Dd u) a=some o)/\jA U (upd H Dd u) Dd u:=
 ⟨λa o e n=>by rw[dJ (λz=>n (by rw[z];show k.z))];show e,jK,k.nl,k.z⟩
end
section
variable {K:W.Frag}{cA:Cl}{U U':Ph}{H H':Hp}
theorem aK.keep{s:S}{Dd:Addr}{o u:HO}(h:aK K cA U H s)(k:jA U H Dd o):aK K cA U (upd H Dd u) s:=by
 let x:fB U H (upd H Dd u):=k.ext.1;show⟨h.len,λn o a e1 e2=>?_,h.uniq,h.lz,λa z=>?_⟩
 .let na:a≠Dd:=λy=>k.nl (by rw[<-y];show iH e2);show(h.obj n o a e1 e2).map (λ_ q=>by rw[dJ na];show q) λ_ _ r=>r.out x
 .by_cases e:a=Dd
  .subst e;show⟨_,jK⟩
  .obtain⟨o,q⟩:=h.zt a z;show⟨o,by rw[dJ e];show q⟩
theorem Ext.keep{U1:Ph}{H1:Hp}{Dd:Addr}{vs:List V}{u:HO}(x:Ext U1 H1 U H)(hD:H1 Dd=none):Ext U1 H1 U (upd H Dd u):=by
 show⟨x.more,x.wG,x.oF,λa o h n=>?_,λa o h=>?_⟩
 .rw[dJ (λz=>by rw[z,hD]at h;cases h)];show x.frame a o h n
 .rw[dJ (λz=>by rw[z,hD]at h;cases h)];show x.stay a o h
theorem zgG{U1:Ph}{H1:Hp}{s':S}{fz:Bool}{acc:List D}{vs:List V}{Dd:Addr}{Q:VK}{Ee:Nat->List D->S->Ph->Hp->Prop}(h:Run K cA (newL fz acc) U1 H1 s' (λd _ U' H'=>∀v,bJ K cA U' H' d v->Q v H') Ee)
  (x2:Ext U1 H1 U' H') (hD:H1 Dd=none) (nz:¬U1.z Dd) (hS2:aK K cA U' H' s') (k:Keep U' H' Dd vs) (Bj:aD K cA U' H' acc vs):Q (.ref Dd) H':=by
 cases fz with
 |true=>
  let zq:∀a,(λa=>U'.z a/\a≠Dd) a->U'.z a:=λa z=>z.1;show h ⟨λa=>U'.z a/\a≠Dd,U'.l⟩ H' ⟨x2.more,λa z=>⟨x2.wG a z,λe=>nz (by rw[<-e];show z)⟩,λa z=>x2.oF a z.1,x2.frame,x2.stay⟩ ?_ _ (.d (.fl (.inl ⟨.inl k.at_,λz=>z.2 rfl⟩) (aD.kW (U:=U') zq Bj)));show⟨hS2.len,λn o a e1 e2=>kO.kW (U:=U') zq (hS2.obj n o a e1 e2),hS2.uniq,λa ha=>⟨hS2.lz a ha,λe=>k.nl (by rw[<-e];show ha)⟩,λa z=>hS2.zt a z.1⟩
 |false=>
  let⟨r,er,hr⟩:=x2.more;show h ⟨U'.z,U'.l++[Dd]⟩ H' ⟨⟨r++[Dd],by change U'.l++[Dd]=_;rw[er,Aa],λb hb=>?_⟩,x2.wG,x2.oF,x2.frame,x2.stay⟩ ?_ _ (.l (by change (U'.l++[Dd])[s'.length]?=_;rw[<-hS2.len];simp))
  .rcases dw.mp hb with z|z
   .exact hr b z
   .simp at z;subst z;show hD
  .refine⟨by change (U'.l++[Dd]).length=_;rw[bZ,bZ,hS2.len];rfl,λm o' a' e1 e2=>?_,?_,λb hb=>?_,hS2.zt⟩
   .let e2:(U'.l++[Dd])[m]?=some a':=e2;by_cases hm:m<s'.length
    .rw[nQ hm]at e1;rw[nQ (by rw[hS2.len];show hm)]at e2;show kO.zl (hS2.obj m o' a' e1 e2) _
    .let pO:m=s'.length:=by
      let z:=(h_.mp e2).1;rw[bZ,hS2.len]at z;simp at z;omega
     subst pO;rw[pF (bQ _)]at e1;rw[pF (by rw[hS2.len];show bQ _)]at e2;simp at e1;simp[hS2.len]at e2;subst e1 e2;show⟨vs,k.at_,aD.zl Bj _⟩
   .show (U'.l++[Dd]).Nodup;rw[FP];show⟨hS2.uniq,by simp,λb hb c hc e=>?_⟩;simp at hc;subst hc e;show k.nl hb
   .let hb:b∈U'.l++[Dd]:=hb;rcases dw.mp hb with z|z
    .exact hS2.lz b z
    .simp at z;subst z;show k.z
noncomputable def Ph.mark(U:Ph)(p:Addr):Ph:=⟨λa=>U.z a\/a=p,U.l⟩
theorem ze1{s:S}{p:Addr}(hS:aK K cA U H s)(hp:H p=none):Ext U H (U.mark p) (upd H p (.lst []))/\aK K cA (U.mark p) (upd H p (.lst [])) s/\Keep (U.mark p) (upd H p (.lst [])) p []:=by
 let g:=bx.new (o:=.lst []) hp;let nz:=hS.nz hp;show⟨⟨⟨[],by simp[Ph.mark],by simp⟩,λa z=>.inl z,λa z=>z.imp id λe=>by rw[e];show hp,λa o h _=>g a o h,λa o h=>⟨o,g a o h⟩⟩,⟨hS.len,λn o a e1 e2=>?_,hS.uniq,λa ha=>.inl (hS.lz a ha),λa z=>?_⟩,jK,λz=>nz (hS.lz p z),.inr rfl⟩
 .let x:Ext U H (U.mark p) (upd H p (.lst [])):=⟨⟨[],by simp[Ph.mark],by simp⟩,λa z=>.inl z,λa z=>z.imp id λe=>by rw[e];show hp,λa o h _=>g a o h,λa o h=>⟨o,g a o h⟩⟩;show(hS.obj n o a e1 e2).map (g _) λ_ _ r=>r.mono x hS.lz
 .rcases z with z|z
  .obtain⟨o,e⟩:=hS.zt a z;show⟨o,g _ _ e⟩
  .subst z;show⟨_,jK⟩
end
section
variable {X:Cx}{cA:Cl}{ao:Nat->Nat->Bool}{aj:Bool}{F:Fn}{EX:XS}{elt iter tg:Expr}{A B:E}{pos p:Pos}{ifs:List Expr}{scope:Scope}{N:List Str}{cond:Eo}{fr dY:List Nat}{many:Nat}{fz:Bool}{w:Wk}
noncomputable abbrev g8(ao:Nat->Nat->Bool)(aj:Bool)(F:Fn)(B:E)(cond:Eo)(dY:List Nat)(Jb:Vs):D->List D->M (List D):=λd acc=>M.bd (M.opt (gZ dY d Jb)) λJ'=>M.bd (M.qt (qN ao aj F cond J')) λok=>
    if ok=true then M.bd (M.qt (ev ao aj F B J')) λy=>M.bd (dat y) λe=>if acc.length<sizeLine then M.ret (acc++[e]) else M.no else M.ret acc
theorem zi0{H:Hp}{a:Addr}{o:HO}(h:H a=some o):upd H a o=H:=funext λb=>by
 by_cases z:b=a
 .subst z;rw[jK,h]
 .rw[dJ z]
theorem zh4{K:W.Frag}{g:TG}{U1 U':Ph}{H1 H2:Hp}{s':S}{Z':L2.St}{Jb:Vs}{Dd:Addr}{acc:List D}{vs:List V}{xi:D}{v:V}{β:Type}{kk:List D->M β}{P:β->S->Ph->Hp->Prop}{Ee:Nat->List D->S->Ph->Hp->Prop}(hT:mX K cA g dY)(fL:∀i∈dY,i<many)
  (hD:H1 Dd=none) (x2:Ext U1 H1 U' H2) (hL2:bF K cA U' H2 Z' Jb) (hS2:aK K cA U' H2 s') (kp:Keep U' H2 Dd vs) (Bj:aD K cA U' H2 acc vs) (rx:Rep K cA U' H2 xi v)
  (h:Run K cA (M.bd (g8 ao aj F B cond dY Jb xi acc) kk) U1 H1 s' P Ee) {Nn:L2.St->Hp->Prop}
  (hN:∀Z3 H3 U3 s3 yS PJ,Z3.length=Z'.length->(∀i,many<=i->Z3[i]?=Z'[i]?)->Ext U1 H1 U3 H3->Ext U' H2 U3 (upd H3 Dd (.lst vs))->aK K cA U3 H3 s3->Keep U3 H3 Dd PJ->aD K cA U3 H3 yS PJ->Run K cA (kk yS) U1 H1 s3 P Ee->Nn Z3 H3) :
  g v Z' H2 λZ3 H3=>yL K cA (λ_ _ _ _=>False) (qN ao aj F cond) Z3 H3 λok H4=>
   if ok=true then tE K cA (λ_ _ _ _=>False) (ev ao aj F B) Z3 H4 λy H5=>∃ys,H5 Dd=some (.lst ys)/\ys.length<sizeLine/\Nn Z3 (upd H5 Dd (.lst (ys++[y]))) else Nn Z3 H4:=by
 unfold g8 at h;rw[j_]at h;let⟨J',e1,h1⟩:=Kae h;show hT.run U' H2 s' Z' Jb J' xi v _ hL2 hS2 rx e1 λZ3 DR hl3 hf3=>?_;rw[j_]at h1;let kf:∀i,many<=i->Z3[i]?=Z'[i]?:=λi hi=>hf3 i λz=>absurd (fL i z) (HW.mpr hi);show⟨U',J',s',DR,hS2,(zgD x2 h1).imp λok s4 U4 H4 ⟨x4,uX,h6⟩=>?_⟩;cases ok with
 |false=>
  show iF (hN Z3 H4 U4 s4 acc vs hl3 kf (x2.trans x4) (by rw[zi0 (kp.mono x4).at_];show x4) uX (kp.mono x4) (Bj.mono x4 hS2.lz) ?_);rw[if_neg J0]at h6;show h6
 |true=>
  rw[if_pos rfl,j_]at h6;show iT ⟨U4,J',s4,DR.mono x4 hS2.lz,uX,(zgD (x2.trans x4) h6).imp λy s5 U5 H5 ⟨x5,hS5,h7⟩ u ru=>?_⟩;rw[j_]at h7;let k5:=(kp.mono x4).mono x5;let r5:=(Bj.mono x4 hS2.lz).mono x5 uX.lz;let x15:=(x2.trans x4).trans x5;obtain⟨dd,ey,rd,h8⟩ : ∃d,y=.d d/\Rep K cA U5 H5 d u/\Run K cA (M.bd (if acc.length<sizeLine then M.ret (acc++[d]) else M.no) kk) U1 H1 s5 P Ee:=by
   cases ru with
   |l _=>show h7.elim|d r=>show⟨_,rfl,r,h7⟩
  by_cases hz:acc.length<sizeLine
  .rw[if_pos hz]at h8;show⟨vs,k5.at_,by rw[<-r5.len];show hz,?_⟩;let ox:fB U5 H5 (upd H5 Dd (.lst (vs++[u]))):=k5.ext.1;show hN Z3 _ U5 s5 (acc++[dd]) (vs++[u]) hl3 kf (Ext.keep (vs:=vs) x15 hD) (by rw[Y6,zi0 k5.at_];show x4.trans x5) (hS5.keep k5) k5.ext.2 ((r5.app (.cons rd .nil)).out ox) h8
  .rw[if_neg hz]at h8;show h8.elim
theorem zdr{g:TG}{iter':Expr}(hT:mX X.K cA g dY)(fL:∀i∈dY,i<many){Z:L2.St}{H:Hp}{Q:VK}(hh:tE X.K cA EX (ev ao aj F (.comp fz B dY w fr many cond)) Z H Q) :
  uL (tI X.K cA EX (mW ao aj F w)) (dh many fr) g (yL X.K cA (λ_ _ _ _=>False) (qN ao aj F cond)) (tE X.K cA (λ_ _ _ _=>False) (ev ao aj F B)) Z H Q:=un hh λU J s hL hS h=>by
 by_cases dG:aj=true
 .let h:Run X.K cA (if aj=true then M.bd (mW ao aj F w J) λcn=>M.bd (walk cn.1 (g8 ao aj F B cond dY (blk many fr J)) (cn.2+1) 0 []) λxs=>newL fz xs else M.no) U H s (λd _ U' H'=>∀v,bJ X.K cA U' H' d v->Q v H') (eX X.K cA EX Z):=h;rw[if_pos dG]at h;show⟨U,J,s,hL,hS,h.bd.imp λcn s1 U1 H1 ⟨x1,aL,h1⟩ cg hJ=>?_⟩;let hL1:=hL.mono x1 hS.lz;let⟨c,n⟩:=cn;dsimp only at h1 hJ;intro Dd hD;let⟨x0,UL,k0⟩:=ze1 aL hD;let UW:∀{Z':L2.St},(Z'.length=many+fr.length/\∀i,many<=i->Z'[i]?=(dh many fr Z)[i]?)->∀{U' H'},Ext U1 H1 U' H'->bF X.K cA U' H' Z' (blk many fr J):=λ{Z'} hZ {U' H'} x=>zjA (hL1.mono x aL.lz) hZ.1 λi j v e1 e2=>by
   rw[hZ.2 _ (by omega)];unfold dh;rw[pF V8,Nf,ji,show many+i-many=i by omega,e1];simp[e2]
  show⟨λi m Z' H'=>m=n+1-i/\(Z'.length=many+fr.length/\∀i,many<=i->Z'[i]?=(dh many fr Z)[i]?)/\∃U' s' acc vs,Ext U1 H1 U' H'/\aK X.K cA U' H' s'/\Keep U' H' Dd vs/\aD X.K cA U' H' acc vs /\
   Run X.K cA (M.bd (walk c (g8 ao aj F B cond dY (blk many fr J)) (n+1-i) i acc) λxs=>newL fz xs) U1 H1 s' (λd _ U' H'=>∀v,bJ X.K cA U' H' d v->Q v H') (eX X.K cA EX Z),⟨n+1,rfl,⟨by simp[dh],λi _=>rfl⟩,U1.mark Dd,s1,[],[],x0,UL,k0,.nil,h1⟩,?_⟩
  rintro i m Z' H' ⟨rfl,hZ,U',s',acc,vs,x2,hS2,kp,Bj,h3⟩;let hL2:=UW hZ x2;cases ek:n+1-i with
  |zero=>rw[ek]at h3;show h3.elim|succ k=>
   rw[ek]at h3;cases ei:c.at i s' with
   |none=>
    exfalso
    unfold Run M.bd walk at h3;simp only[ei]at h3
   |some oi=>
    cases oi with
    |none=>
     show .inl ⟨hJ.stop U' H' H' s' i x2 fB.refl hS2 ei,?_⟩;let h4:Run X.K cA (newL fz acc) U1 H1 s' (λd _ U' H'=>∀v,bJ X.K cA U' H' d v->Q v H') (eX X.K cA EX Z):=by
      unfold Run M.bd walk at h3;simp only[ei]at h3;show h3
     show zgG h4 x2 hD (aL.nz hD) hS2 kp Bj
    |some xi=>
     show .inr ⟨hJ.go U' H' H' s' i xi x2 fB.refl hS2 ei,λZ2 H2=>(Z2.length=many+fr.length/\∀i,many<=i->Z2[i]?=(dh many fr Z)[i]?)/\∃U' s' acc vs,Ext U1 H1 U' H2/\aK X.K cA U' H2 s'/\Keep U' H2 Dd vs/\aD X.K cA U' H2 acc vs /\
      Run X.K cA (M.bd (walk c (g8 ao aj F B cond dY (blk many fr J)) k (i+1) acc) λxs=>newL fz xs) U1 H1 s' (λd _ U' H'=>∀v,bJ X.K cA U' H' d v->Q v H') (eX X.K cA EX Z),λZ2 H2 hn=>⟨k,by omega,by omega,hn.1,?_⟩,λv H2 hy=>?_⟩
     .let:n+1-(i+1)=k:=by omega
      rw[this];show hn.2
     .obtain⟨gr,rx⟩:=hJ.CK U' H' H' s' i xi v H2 x2 fB.refl hS2 ei hy;let h4:Run X.K cA (M.bd (g8 ao aj F B cond dY (blk many fr J) xi acc) λacc'=>M.bd (walk c (g8 ao aj F B cond dY (blk many fr J)) k (i+1) acc') λxs=>newL fz xs) U1 H1 s' (λd _ U' H'=>∀v,bJ X.K cA U' H' d v->Q v H') (eX X.K cA EX Z):=by
       let h5:=zl5 (m':=M.bd (g8 ao aj F B cond dY (blk many fr J) xi acc) λacc'=>walk c (g8 ao aj F B cond dY (blk many fr J)) k (i+1) acc') (by rw[walk];simp only[ei]) h3;rw[j_]at h5;show h5
      show zh4 hT fL hD (x2.trans gr.ext) (hL2.mono gr.ext hS2.lz) (hS2.grow gr) (kp.mono gr.ext) (Bj.mono gr.ext hS2.lz) rx h4 λZ3 H3 U3 s3 yS PJ l3 f3 x3 _ lV k3 r3 h6=>⟨⟨l3.trans hZ.1,λi hi=>(f3 i hi).trans (hZ.2 i hi)⟩,U3,s3,yS,PJ,x3,lV,k3,r3,h6⟩
 .let h:Run X.K cA (if aj=true then M.bd (mW ao aj F w J) λcn=>M.bd (walk cn.1 (g8 ao aj F B cond dY (blk many fr J)) (cn.2+1) 0 []) λxs=>newL fz xs else M.no) U H s (λd _ U' H'=>∀v,bJ X.K cA U' H' d v->Q v H') (eX X.K cA EX Z):=h;rw[if_neg dG]at h;show h.elim
theorem zep{XN:List Str}(hfr:∀(i:Nat) (y:Str) (j:Nat),N[many+i]?=some y->fr[i]?=some j->scope.names.lookup y=some .free/\XN[j]?=some y)(Z:L2.St)(i:Nat)(x:Str)(v:V)(e1:N[i]?=some x)(e2:(dh many fr Z)[i]?=some (some v)):scope.names.lookup x=some .free/\∃j:Nat,XN[j]?=some x/\Z[j]?=some (some v):=by
 unfold dh at e2;by_cases hi:i<many
 .rw[nQ (by simpa using hi),M9,if_pos hi]at e2;cases e2
 .rw[pF (by simpa using NT hi),Nf,ji]at e2;cases z:fr[i-many]? with
  |none=>rw[z]at e2;cases e2|some j=>
   rw[z]at e2;let e3:(Z[j]?).join=some v:=by simpa using e2
   let⟨a1,a2⟩:=hfr (i-many) x j (by rw[show many+(i-many)=i by omega];show e1) z;show⟨a1,j,a2,Ul e3⟩
theorem zgf{g:TG}(hc:X.aj=true)(B':eE X.env.scope scope)(hi:SI X cA ao aj F EX tg iter w)(hN:N.length=many+fr.length)
  (hfr:∀(i:Nat) (y:Str) (j:Nat),N[many+i]?=some y->fr[i]?=some j->scope.names.lookup y=some .free/\X.N[j]?=some y)
  (hg:∀cl C s3 H3 fp ak,PG (X.blk scope cl N C s3 H3 fp ak) tg g) (hT:mX X.K cA g dY) (fL:∀i∈dY,i<many)
  (ht:∀cl C s3 H3 fp ak,KQ (X.blk scope cl N C s3 H3 fp ak) cA ao aj F (λ_ _ _ _=>False) ifs cond) (he:∀cl C s3 H3 fp ak,SE (X.blk scope cl N C s3 H3 fp ak) cA ao aj F (λ_ _ _ _=>False) elt B)
  (hs:∀x,foldedSetIterable iter X.env x=pure x:=by intro _;rfl):SE X cA ao aj F EX (.ListComp elt [⟨tg,iter,ifs,0⟩] scope pos) (.comp fz B dY w fr many cond):=
 PE.weak (zk1 hc B' hi (⟨hg,ht,he⟩ : Parts X elt tg ifs scope N g (yL X.K cA (λ_ _ _ _=>False) (qN ao aj F cond)) (tE X.K cA (λ_ _ _ _=>False) (ev ao aj F B))) (ZY:=dh many fr) (λZ=>by simp[dh,hN]) (λZ i x v e1 e2=>zep hfr Z i x v e1 e2) hs) λZ H Q hh=>zdr (iter':=iter) hT fL hh
end
section
variable (K:W.Frag)(cA:Cl)
def aR(m:MS)(U:Ph)(H:Hp)(s:S)(D:Ends)(EX:XS):Prop:=match m s with
 |some (.nx J,s')=>∀U' H' Z',Ext U H U' H'->aK K cA U' H' s'->bF K cA U' H' Z' J->D.nx Z' H'|some (.bk J,s')=>∀U' H' Z',Ext U H U' H'->aK K cA U' H' s'->bF K cA U' H' Z' J->D.bk Z' H'|some (.ct J,s')=>∀U' H' Z',Ext U H U' H'->aK K cA U' H' s'->bF K cA U' H' Z' J->D.ct Z' H'|some (.rt d,s')=>∀U' H' v,Ext U H U' H'->aK K cA U' H' s'->bJ K cA U' H' d v->D.rt v H'|some (.er c fs J,s')=>∀U' H' Z',Ext U H U' H'->aK K cA U' H' s'->bF K cA U' H' Z' J->∀dx,j9 K cA U' H' c fs dx->EX Z' (.ref (cA.a c)) dx H'|none=>False
noncomputable def tS(EX:XS)(m:Vs->MS):TS:=λD Z H=>∃U J s,bF K cA U H Z J/\aK K cA U H s/\aR K cA (m J) U H s D EX
end
section
variable {K:W.Frag}{cA:Cl}{U U':Ph}{H H':Hp}{s:S}{Z:L2.St}{J:Vs}{EX:XS}{D:Ends}
theorem aR.ext{m:MS}(x:Ext U H U' H')(h:aR K cA m U H s D EX):aR K cA m U' H' s D EX:=by
 unfold aR at *;split at h<;>first
  |exact λU2 H2 a y r l=>h U2 H2 a (x.trans y) r l|exact h.elim
theorem aR.ofM{α:Type}{m:M α}{k:α->MS}(hL:bF K cA U H Z J)(hz:∀a∈U.l,U.z a)(h:aR K cA (ofM m J k) U H s D EX):Run K cA m U H s (λa s1 U1 H1=>Ext U H U1 H1/\aK K cA U1 H1 s1/\aR K cA (k a) U1 H1 s1 D EX) (eX K cA EX Z):=by
 unfold aR Mi.ofM at h;unfold Run;cases e:m s with
 |none=>rw[e]at h;show h|some r=>
  let⟨r,s1⟩:=r;rw[e]at h;cases r with
  |er c fs=>show λU1 H1 x r=>h U1 H1 Z x r (hL.mono x hz)|ok a=>
   intro U1 H1 x r;show⟨x,r,?_⟩;let h2:aR K cA (k a) U H s1 D EX:=h;show h2.ext x
theorem aR.then_(h:aR K cA (cU m k) U H s D EX):aR K cA m U H s {D with nx:=λZ' H'=>∃U' J' s',bF K cA U' H' Z' J'/\aK K cA U' H' s'/\aR K cA (k J') U' H' s' D EX} EX:=by
 unfold aR cU at h;unfold aR;cases e:m s with
 |none=>rw[e]at h;show h|some r=>
  let⟨r,s1⟩:=r;rw[e]at h;cases r with
  |nx J=>
   intro U1 H1 Z1 x r l;let h2:aR K cA (k J) U H s1 D EX:=h;show⟨U1,J,s1,l,r,h2.ext x⟩
  |bk J=>show h|ct J=>show h|rt d=>show h|er c fs J=>show h
end
section
variable (X:Cx)(cA:Cl)(ao:Nat->Nat->Bool)(aj:Bool)(F:Bool->Fn)(EX:XS)
def SS(st:Stmt)(m:St):Prop:=PS X st (tS X.K cA EX (ex ao aj F m))
def tR(st:List Stmt)(m:b_):Prop:=pq X st (tS X.K cA EX (exs ao aj F m))
end
section
variable {X:Cx}{cA:Cl}{ao:Nat->Nat->Bool}{aj:Bool}{F:Bool->Fn}{EX:XS}{a b c d e:Expr}{A B C:E}{pos p p2:Pos}{st:Stmt}{sts body orelse:List Stmt}{m:St}{ms mb me mh:b_}{es:List Expr}{Xs:Es}{x y n:Str}{i j:Nat}
theorem PS.weak{t t':TS}(h:PS X st t)(f:∀D Z H,t' D Z H->t D Z H):PS X st t':=λak s Z H D I q=>h ak s Z H D I (f D Z H q)
theorem pq.weak{t t':TS}(h:pq X sts t)(f:∀D Z H,t' D Z H->t D Z H):pq X sts t':=λak s Z H D I q=>h ak s Z H D I (f D Z H q)
theorem zok:SS X cA ao aj F EX st .no:=λ_ _ _ _ _ _ ⟨_,_,_,_,_,h⟩=>h.elim
theorem zku:tR X cA ao aj F EX [] .nil:=pq.weak zjR λD Z H hh=>un hh λU J s hL hS h=>h U H Z Ext.refl hS hL
theorem zhk(h1:SS X cA ao aj F EX st m)(h2:tR X cA ao aj F EX sts ms):tR X cA ao aj F EX (st::sts) (.cons m ms):=pq.weak (ziw h1 h2) λD Z H hh=>un hh λU J s hL hS h=>by
 let h:aR X.K cA (cU (ex ao aj F m J) λJ'=>exs ao aj F ms J') U H s D EX:=h;show⟨U,J,s,hL,hS,h.then_⟩
theorem zn2(ha:SE X cA ao aj (F aj) EX a A)(hs:swapsWith a none pos.line X.env=pure false:=by rfl):SS X cA ao aj F EX (.Expr a pos) (.ex A):=PS.weak (zjT ha hs) λD Z H hh=>un hh λU J s hL hS h=>
 ⟨U,J,s,hL,hS,(aR.ofM hL hS.lz h).imp λd s1 U1 H1 ⟨x1,aL,h1⟩ v rv=>h1 U1 H1 Z Ext.refl aL (hL.mono x1 hS.lz)⟩
theorem zlo(ha:SE X cA ao aj (F aj) EX a A):SS X cA ao aj F EX (.Return (some a) pos) (.ret A):=PS.weak (znj ha) λD Z H hh=>un hh λU J s hL hS h=>
 ⟨U,J,s,hL,hS,(aR.ofM hL hS.lz h).imp λd s1 U1 H1 ⟨x1,aL,h1⟩ v rv=>h1 U1 H1 v Ext.refl aL rv⟩
theorem zmS(hN:X.N.Nodup)(hi:X.N[i]?=some x)(hx:Loc X.env.scope x)(ha:SE X cA ao aj (F aj) EX a A)(hs:swapsWith a (some (.Name x p)) pos.line X.env=pure false:=by rfl)(hf:X.fn x=true\/X.env.scope.names.lookup x=some .local:=by first|exact .inl rfl|exact .inr rfl) :
  SS X cA ao aj F EX (.Assign [.Name x p] a pos) (.asg (.nm i) A):=PS.weak (zmv hN hi hx ha hs hf) λD Z H hh=>un hh λU J s hL hS h=>
 ⟨U,J,s,hL,hS,(aR.ofM hL hS.lz h).imp λd s1 U1 H1 ⟨x1,aL,h1⟩ v rv=>h1 U1 H1 _ Ext.refl aL ((hL.mono x1 hS.lz).set rv)⟩
theorem U6{k}(hc:X.aj=true)(hN:X.N.Nodup)(hi:X.N[i]?=some x)(hj:X.N[j]?=some y)(hx:Loc X.env.scope x)(hy:Loc X.env.scope y)(yU:X.fn x=true\/X.env.scope.names.lookup x=some .local)(yV:X.fn y=true\/X.env.scope.names.lookup y=some .local) :
  PG X (.Tuple [.Name x px,.Name y py] k pos) (uG X.K 2 (iR (eY i) (iR (eY j) uF))):=zmI hc (Ze (Ow hN hi hx yU) (Ze (Ow hN hj hy yV) zjV))
theorem zdf{K:W.Frag}{U:Ph}{H:Hp}{s:S}{J:Vs}{Z:L2.St}{D:Ends}{d:Xv}{v:V}(dG:aj=true)(hL:bF K cA U H Z J)(hS:aK K cA U H s)(rv:bJ K cA U H d v)(h:aR K cA (store ao aj (F aj) (.tp [i,j]) d J) U H s D EX):uG K 2 (iR (eY i) (iR (eY j) uF)) v Z H D.nx:=by
 let h:aR K cA (if aj=true then ofM (M.bd (dat d) λd=>M.opt ((lQ d).bind λds=>iB [i,j] (ds.map Xv.d) J)) J (λJ' s=>some (Out.nx J',s)) else λ_=>none) U H s D EX:=h;rw[if_pos dG]at h;let⟨dd,e0,rd,h1⟩:=Uj rv (aR.ofM hL hS.lz h);let⟨J',e,_,aL,h2⟩:=Run.opt hS h1;show(Gw i j).run U H s Z J J' dd v _ hL hS rd e λZ' hL' _ _=>h2 U H Z' Ext.refl hS hL'
theorem zkp{k}(hc:X.aj=true)(dG:aj=true)(hN:X.N.Nodup)(hi:X.N[i]?=some x)(hj:X.N[j]?=some y)(hx:Loc X.env.scope x)(hy:Loc X.env.scope y)(yU:X.fn x=true\/X.env.scope.names.lookup x=some .local)(yV:X.fn y=true\/X.env.scope.names.lookup y=some .local)(ha:SE X cA ao aj (F aj) EX a A)
  (hs:swapsWithSole [.Tuple [.Name x px,.Name y py] k pt] a pos.line X.env=pure false:=by rfl) (hw:swappedStores [.Tuple [.Name x px,.Name y py] k pt] a X.env=pure none:=by rfl)
  (h1:(assignEach [.Tuple [.Name x px,.Name y py] k pt] X.env).map (·.2)=[assign (.Tuple [.Name x px,.Name y py] k pt) X.env]:=by rfl) :
  SS X cA ao aj F EX (.Assign [.Tuple [.Name x px,.Name y py] k pt] a pos) (.asg (.tp [i,j]) A):=PS.weak (Zf ha (U6 hc hN hi hj hx hy yU yV) hs hw h1) λD Z H hh=>un hh λU J s hL hS h=>
 ⟨U,J,s,hL,hS,(aR.ofM hL hS.lz h).imp λd s1 U1 H1 ⟨x1,aL,h1⟩ v rv=>zdf dG (hL.mono x1 hS.lz) aL rv h1⟩
theorem zmY(hO:SE X cA ao aj (F aj) EX oo O)(hI:SE X cA ao aj (F aj) EX ii I')(ha:SE X cA ao aj (F aj) EX a A)
  (U7:∀v,assign (.Subscript oo ii p) X.env v=(do
   let ov <-holding [v] (eval oo X.env)
   let iv <-holding [v,ov] (eval ii X.env)
   standAt p
   holding [v,ov,iv] (setItem ov iv v)
   release [v,ov,iv] []):=by intro _;rfl) (hs:swapsWithSole [.Subscript oo ii p] a pos.line X.env=pure false:=by rfl) (hw:swappedStores [.Subscript oo ii p] a X.env=pure none:=by rfl)
  (h1:(assignEach [.Subscript oo ii p] X.env).map (·.2)=[assign (.Subscript oo ii p) X.env]:=by rfl) :
  SS X cA ao aj F EX (.Assign [.Subscript oo ii p] a pos) (.asg (.ao O I') A):=PS.weak (Zf ha (zlt hO hI zhF U7) hs hw h1) λD Z H hh=>un hh λU J s hL hS h=>by
 show⟨U,J,s,hL,hS,(aR.ofM hL hS.lz h).imp λd s1 U1 H1 ⟨x1,aL,h1⟩ v rv=>?_⟩;let⟨dd,e0,rd,h2⟩:=Uj rv (aR.ofM (hL.mono x1 hS.lz) aL.lz h1);show bO (hL.mono x1 hS.lz) aL h2 λxo H2 U2 d2 s2 x2 hL2 hS2 r2 h3=>bO hL2 hS2 h3 λyi H3 U3 d3 s3 x3 DR lV r3 h4=>?_;let⟨k,_,ek,h5⟩:=Kr r3 h4;let⟨n,ad,xs,vs,_,ea,e1,f1,g1,q1,h6⟩:=PB lV (r2.mono x3 hS2.lz) h5;subst ek ea;cases ej:L2.tD xs.length k with
 |none=>simp only[ej]at h6;show h6.elim|some jj=>
  simp only[ej]at h6;show⟨ad,vs,k,jj,rfl,rfl,g1,by rw[<-q1.len];show ej,?_⟩;let rv3:=(rd.mono x2 aL.lz).mono x3 hS2.lz;let uX:=lV.write e1 f1 (q1.set rv3 jj);let x4:Ext U3 H3 U3 (upd H3 ad (.lst (vs.set jj v))):=Ext.write f1 ⟨_,g1⟩;let⟨_,_,h8⟩:=h6 U3 _ x4 uX;show h8 U3 _ Z Ext.refl uX (DR.mono x4 lV.lz)
theorem zom(hc:ST X cA ao aj (F aj) EX c C)(ht:tR X cA ao aj F EX body mb)(he:tR X cA ao aj F EX orelse me):SS X cA ao aj F EX (.If c body orelse pos) (.iff C mb me):=PS.weak (zoq hc ht he) λD Z H hh=>un hh λU J s hL hS h=>by
 show⟨U,J,s,hL,hS,(aR.ofM hL hS.lz h).imp λk s1 U1 H1 ⟨x1,aL,h1⟩=>?_⟩;cases k with
 |true=>show iT ⟨U1,J,s1,hL.mono x1 hS.lz,aL,h1⟩|false=>show iF ⟨U1,J,s1,hL.mono x1 hS.lz,aL,h1⟩
theorem zix{cc:Nat}{B' Bn newId nid initId inN:String}{bmB bmN:List Value}{apos:Pos}(hf:cA.f cc=[])(Fn':ExcBaseFacts Bn newId inN bmN)(S6:bmB.contains (.type Bn)=true)(FB:ExcBaseFacts B' nid initId bmB)(hc:X.aj=true)(dG:aj=true)(hX:mq X.K (cA.a cc) bmB newId none=true)(hg:Gl X x)(hm:X.mg x=some (.ref (cA.a cc)))
  (R:Raises X EX) (ha:SA X cA ao aj (F aj) EX (e::es) Xs) (hz:Es.len Xs<=sizeLine) (lg:(x==("__debug__" : Str))=false:=by decide) (he:starEach (e::es) X.env=(false,eval e X.env)::starEach es X.env:=by rfl) (bU:(backTo apos (starEach es X.env)).any (·.1)=false:=by rfl) :
  SS X cA ao aj F EX (.Raise (some (.Call (.Name x p) (e::es) [] apos)) none pos) (.rise cc false Xs):=PS.weak (zhX Fn' S6 FB hc hX hg hm R ha lg he bU) λD Z H hh=>un hh λU J s hL hS h=>by
 let h:aR X.K cA (if aj=true then ofM (M.bd (evs ao aj (F aj) Xs J) fV) J (λds s=>some (.er cc (if false=true then ds else []) J,s)) else λ_=>none) U H s D EX:=h;rw[if_pos dG]at h;show DW hL hS (aR.ofM hL hS.lz h) λvs H1 U1 xs s1 hl x1 hL1 aL rv h1=>?_;let h1:Run X.K cA (M.bd (fV xs) M.ret) U1 H1 s1 (λa s1 U1 H1=>Ext U H U1 H1/\aK X.K cA U1 H1 s1/\aR X.K cA (λs=>some (.er cc (if false=true then a else []) J,s)) U1 H1 s1 D EX) (eX X.K cA EX Z):=by
  unfold Run at h1 ⊢;unfold M.bd;cases e1:fV xs s1 with
  |none=>rw[e1]at h1;show h1|some r=>
   let⟨r,s2⟩:=r;rw[e1]at h1;cases r with
   |er c f=>show h1|ok ds=>show h1
 let⟨ds,e1,rs,h2⟩:=Uk rv h1;let⟨_,_,h3⟩:=h2.bY aL;show⟨by rw[<-rv.len,hl];show hz,h3 U1 H1 Z Ext.refl aL hL1 none (.inl ⟨hf,rfl,rfl⟩)⟩
theorem zjL{g:TG}{elt iter tg:Expr}{ifs:List Expr}{scope:Scope}{N:List Str}{cond:Eo}{fr dY:List Nat}{many:Nat}{fz:Bool}{w:Wk}{spos py:Pos}(hc:X.aj=true)(yW:X.N.Nodup)(tH:X.N[i]?=some y)(hx:Loc X.env.scope y)(hf:X.fn y=true\/X.env.scope.names.lookup y=some .local)(B':eE X.env.scope scope)(hi:SI X cA ao aj (F aj) EX tg iter w)(hN:N.length=many+fr.length)
  (hfr:∀(i:Nat) (y:Str) (j:Nat),N[many+i]?=some y->fr[i]?=some j->scope.names.lookup y=some .free/\X.N[j]?=some y)
  (hg:∀cl C s3 H3 fp ak,PG (X.blk scope cl N C s3 H3 fp ak) tg g) (hT:mX X.K cA g dY) (fL:∀i∈dY,i<many)
  (ht:∀cl C s3 H3 fp ak,KQ (X.blk scope cl N C s3 H3 fp ak) cA ao aj (F aj) (λ_ _ _ _=>False) ifs cond) (he:∀cl C s3 H3 fp ak,SE (X.blk scope cl N C s3 H3 fp ak) cA ao aj (F aj) (λ_ _ _ _=>False) elt B)
  (JM:swapsWith (.ListComp elt [⟨tg,iter,ifs,0⟩] scope pos) (some (.Name y py)) spos.line X.env=pure true) (hs:∀x,foldedSetIterable iter X.env x=pure x:=by intro _;rfl) :
  SS X cA ao aj F EX (.Assign [.Name y py] (.ListComp elt [⟨tg,iter,ifs,0⟩] scope pos) spos) (.asg (.nm i) (.comp fz B dY w fr many cond)):=
 PS.weak (ze5 hc yW tH hx hf B' hi (⟨hg,ht,he⟩ : Parts X elt tg ifs scope N g (yL X.K cA (λ_ _ _ _=>False) (qN ao aj (F aj) cond)) (tE X.K cA (λ_ _ _ _=>False) (ev ao aj (F aj) B))) (ZY:=dh many fr) (λZ=>by simp[dh,hN]) (λZ i x v e1 e2=>zep hfr Z i x v e1 e2) JM hs) λD Z H hh=>un hh λU J s hL hS h=>
  zdr (iter':=iter) hT fL ⟨U,J,s,hL,hS,(aR.ofM hL hS.lz h).imp λd s1 U1 H1 ⟨x1,aL,h1⟩ v rv=>h1 U1 H1 _ Ext.refl aL ((hL.mono x1 hS.lz).set rv)⟩
noncomputable def oG(m:MS)(kN:Vs->MS):MS:=λs=>match m s with
 |some (.nx J',s')=>kN J' s'|some (.ct J',s')=>kN J' s'|some (.bk J',s')=>some (.nx J',s')|r=>r
theorem Kaf{K:W.Frag}{U:Ph}{H:Hp}{s:S}{D:Ends}{m:MS}{kN:Vs->MS}{N:L2.St->Hp->Prop}(hN:∀U' J' s' Z' H',Ext U H U' H'->bF K cA U' H' Z' J'->aK K cA U' H' s'->aR K cA (kN J') U' H' s' D EX->N Z' H')(h:aR K cA (oG m kN) U H s D EX) :
  aR K cA m U H s {D with nx:=N,ct:=N,bk:=D.nx} EX:=by
 unfold aR oG at h;unfold aR;cases e:m s with
 |none=>rw[e]at h;show h|some r=>
  let⟨r,s1⟩:=r;rw[e]at h;cases r with
  |nx J'=>
   intro U1 H1 Z1 x r l;let h2:aR K cA (kN J') U H s1 D EX:=h;show hN U1 J' s1 Z1 H1 x l r (h2.ext x)
  |ct J'=>
   intro U1 H1 Z1 x r l;let h2:aR K cA (kN J') U H s1 D EX:=h;show hN U1 J' s1 Z1 H1 x l r (h2.ext x)
  |bk J'=>show h|rt d=>show h|er c fs J'=>show h
theorem zir(hp:PassesOwn (model X.prog X.w) X.A X.env X.xe)(hc:ST X cA ao aj (F aj) EX c C)(hb:tR X cA ao aj F EX body mb):SS X cA ao aj F EX (.While c body [] pos) (.wh C mb):=PS.weak (ziB hp hc hb) λD Z H hh=>un hh λU J s hL hS h=>by
 show⟨λm Z H=>∃U J s,bF X.K cA U H Z J/\aK X.K cA U H s/\aR X.K cA (iC (λJ=>M.bd (ev ao aj (F aj) C J) bool) (λJ=>exs ao aj F mb J) m J) U H s D EX,⟨j8,U,J,s,hL,hS,h⟩,?_⟩;rintro m Z H ⟨U,J,s,hL,hS,h⟩;cases m with
 |zero=>show h.elim|succ m=>
  show⟨U,J,s,hL,hS,(aR.ofM (k:=λok=>if ok=true then oG (exs ao aj F mb J) (iC (λJ=>M.bd (ev ao aj (F aj) C J) bool) (λJ=>exs ao aj F mb J) m) else λs=>some (.nx J,s)) hL hS.lz h).imp λk s1 U1 H1 ⟨x1,aL,h1⟩=>?_⟩;cases k with
  |true=>
   rw[if_pos rfl]at h1 ⊢;show⟨_,λZ' H' z=>⟨m,Ac m,z⟩,U1,J,s1,hL.mono x1 hS.lz,aL,Kaf (λU' J' s' Z' H' _ l r q=>?_) h1⟩;show⟨U',J',s',l,r,q⟩
  |false=>
   rw[if_neg Nr]at h1 ⊢;show h1 U1 H1 Z Ext.refl aL (hL.mono x1 hS.lz)
def SG(X:Cx)(cA:Cl)(ao:Nat->Nat->Bool)(aj:Bool)(F:Bool->Fn)(EX:XS)(tg:Expr)(t:Tg):Prop:=∃g:TG,PG X tg g/\∀(U:Ph) (H:Hp) (s:S) (Z:L2.St) (J:Vs) (d:Xv) (v:V) (D:Ends),bF X.K cA U H Z J->aK X.K cA U H s->bJ X.K cA U H d v->
 aR X.K cA (store ao aj (F aj) t d J) U H s D EX->g v Z H D.nx
theorem zjq(hN:X.N.Nodup)(hi:X.N[i]?=some x)(hx:Loc X.env.scope x)(hf:X.fn x=true\/X.env.scope.names.lookup x=some .local:=by first|exact .inl rfl|exact .inr rfl):SG X cA ao aj F EX (.Name x pos) (.nm i):=
 ⟨_,Ow hN hi hx hf,λU H s Z J d v D hL hS r h=>h U H _ Ext.refl hS (hL.set r)⟩
theorem zj2{k}(hc:X.aj=true)(dG:aj=true)(hN:X.N.Nodup)(hi:X.N[i]?=some x)(hj:X.N[j]?=some y)(hx:Loc X.env.scope x)(hy:Loc X.env.scope y)(yU:X.fn x=true\/X.env.scope.names.lookup x=some .local)(yV:X.fn y=true\/X.env.scope.names.lookup y=some .local) :
  SG X cA ao aj F EX (.Tuple [.Name x px,.Name y py] k pos) (.tp [i,j]):=
 ⟨_,U6 hc hN hi hj hx hy yU yV,λU H s Z J d v D hL hS r h=>zdf dG hL hS r h⟩
theorem zlz(hp:PassesOwn (model X.prog X.w) X.A X.env X.xe)(hc:X.aj=true)(dG:aj=true)(ha:SI X cA ao aj (F aj) EX tg a w)(hg:SG X cA ao aj F EX tg t)(hb:tR X cA ao aj F EX body mb)
  (hs:∀x,foldedSetIterable a X.env x=pure x:=by intro _;rfl):SS X cA ao aj F EX (.For tg a body [] pos) (.fr t w mb):=by
 let⟨g,hG,hg⟩:=hg;show PS.weak (zm2 hp hc ha hG hb hs) λD Z H hh=>un hh λU J s hL hS h=>?_;let h:aR X.K cA (if aj=true then ofM (mW ao aj (F aj) w J) J λcn=>cZ cn.1 (λd J=>cU (store ao aj (F aj) t (.d d) J) λJ'=>exs ao aj F mb J') (cn.2+1) 0 J else λ_=>none) U H s D EX:=h;rw[if_pos dG]at h;show⟨U,J,s,hL,hS,(aR.ofM hL hS.lz h).imp λcn s1 U1 H1 ⟨x1,aL,h1⟩ cg hJ=>?_⟩;let hL1:=hL.mono x1 hS.lz;let⟨c,n⟩:=cn;dsimp only at h1 hJ;show⟨λi m Z' H'=>∃U' J' s',Ext U1 H1 U' H'/\bF X.K cA U' H' Z' J'/\aK X.K cA U' H' s'/\aR X.K cA (cZ c (λd J=>cU (store ao aj (F aj) t (.d d) J) λJ'=>exs ao aj F mb J') m i J') U' H' s' D EX,⟨n+1,U1,J,s1,Ext.refl,hL1,aL,h1⟩,?_⟩;rintro i m Z' H' ⟨U',J',s',x2,hL2,hS2,h4⟩;cases m with
 |zero=>show h4.elim|succ m=>
  cases ei:c.at i s' with
  |none=>
   exfalso
   unfold aR cZ at h4;simp only[ei]at h4
  |some oi=>
   cases oi with
   |none=>
    show .inl ⟨hJ.stop U' H' H' s' i x2 fB.refl hS2 ei,?_⟩;unfold aR cZ at h4;simp only[ei]at h4;show h4 U' H' Z' Ext.refl hS2 hL2
   |some xi=>
    show .inr ⟨hJ.go U' H' H' s' i xi x2 fB.refl hS2 ei,_,λZ3 H3 z=>⟨m,Ac m,z⟩,λv H3 hy=>?_⟩;let⟨gr,rx⟩:=hJ.CK U' H' H' s' i xi v H3 x2 fB.refl hS2 ei hy;let h5:aR X.K cA (oG (cU (store ao aj (F aj) t (.d xi) J') λJ'=>exs ao aj F mb J') (cZ c (λd J=>cU (store ao aj (F aj) t (.d d) J) λJ'=>exs ao aj F mb J') m (i+1))) U' H' s' D EX:=by
     unfold aR at h4 ⊢;let e:cZ c (λd J=>cU (store ao aj (F aj) t (.d d) J) λJ'=>exs ao aj F mb J') (m+1) i J' s'=oG (cU (store ao aj (F aj) t (.d xi) J') λJ'=>exs ao aj F mb J') (cZ c (λd J=>cU (store ao aj (F aj) t (.d d) J) λJ'=>exs ao aj F mb J') m (i+1)) s':=by
      rw[cZ];simp only[ei];rfl
     rw[e]at h4;show h4
    show hg U' H3 s' Z' J' (.d xi) v _ (hL2.mono gr.ext hS2.lz) (hS2.grow gr) (.d rx) (aR.then_ (Kaf (λU4 J4 s4 Z4 H4 x4 l4 r4 q4=>⟨U4,J4,s4,(x2.trans gr.ext).trans x4,l4,r4,q4⟩) (h5.ext gr.ext)))
theorem zmo(dG:aj=true)(hex:X.ex=[])(nM:X.stack=X.env::X.outer/\X.env.frame=some X.env.locals)(hg:Gl X x)(hm:X.mg x=some (.ref (cA.a dc)))(hN:X.N.Nodup)(hi:X.N[i]?=some n)(hl:X.env.scope.names.lookup n=some .local)
  (hsub:∀c,ao c dc=true->subIn X.K (cA.a c) (cA.a dc)=true)
  (hb:∀(pn:List (Addr×Obj)) (E':Value->Shared->Prop) (tG:XS),Raises (X.seen X.A X.aj pn E') tG->PassesOwn (model X.prog X.w) X.A X.env E'->tR (X.seen X.A X.aj pn E') cA ao aj F tG body mb)
  (hh:∀e:Value,tR (X.seen (X.A.mark (some e)) false X.pn (λ_ _=>False)) cA ao false F (λ_ _ _ _=>False) (b₀::suite) mh) (lg:(x==("__debug__" : Str))=false:=by decide) :
  SS X cA ao aj F EX (.Try body [.ExceptHandler (some (.Name x np)) (some n) (b₀::suite) rK] [] [] pos) (.rN mb dc i mh):=by
 show PS.weak (zl2 (tb:=λtG=>tS X.K cA tG (exs ao aj F mb)) (th:=tS X.K cA (λ_ _ _ _=>False) (exs ao false F mh)) hex nM hg hm hN hi hl hb hh lg) λD Z H hh=>un hh λU J s hL hS h=>?_;show⟨U,J,s,hL,hS,?_⟩;let h:aR X.K cA (if aj=true then λs=>match exs ao aj F mb J s with
   |some (.er c fs J',s')=>if ao c dc=true then (match exs ao false F mh (J'.set i (some (.d (.exc c fs)))) s' with
    |some (r,s'')=>(match r with
     |.er _ _ _=>none|r=>some (goes i r,s''))
    |none=>none) else none
   |r=>r
  else λ_=>none) U H s D EX:=h
 rw[if_pos dG]at h;unfold aR at h ⊢;cases e:exs ao aj F mb J s with
 |none=>simp only[e]at h|some r=>
  let⟨r,s1⟩:=r;simp only[e]at h;cases r with
  |nx J'=>show h|ct J'=>show h|bk J'=>show h|rt d=>show h|er c fs J'=>
   intro U1 H1 Z1 x1 r1 l1 dx Am;by_cases wK:ao c dc=true
   .simp only[if_pos wK]at h;show⟨cA.a c,rfl,hsub c wK,λad hn=>?_⟩;let gr:bx H1 (upd H1 ad (jZ ad (cA.a c) dx)):=bx.new hn;let xe:Ext U1 H1 U1 (upd H1 ad (jZ ad (cA.a c) dx)):=gr.ext;let rx:Rep X.K cA U1 (upd H1 ad (jZ ad (cA.a c) dx)) (.exc c fs) (.ref ad):=by
     rcases Am with ⟨e1,e2,e3⟩|⟨d,vs,e3,nz,hd,hl,rs⟩
     .subst e2 e3;show .exc ⟨r1.nz hn,.inl ⟨e1,rfl,jK⟩⟩ .nil
     .subst e3;show .exc ⟨r1.nz hn,.inr ⟨d,jK,nz,gr _ _ hd,hl⟩⟩ (rs.mono xe r1.lz)
    show⟨U1,J'.set i (some (.d (.exc c fs))),s1,(l1.mono xe r1.lz).set (.d rx),r1.grow gr,?_⟩;unfold aR;cases e2:exs ao false F mh (J'.set i (some (.d (.exc c fs)))) s1 with
    |none=>rw[e2]at h;show h|some q=>
     let⟨q,s2⟩:=q;rw[e2]at h;cases q with
     |er c2 f2 J2=>show h.elim|nx J2=>show λU2 H2 Z2 x2 r2 l2=>h U2 H2 _ ((x1.trans xe).trans x2) r2 l2.unset|bk J2=>show λU2 H2 Z2 x2 r2 l2=>h U2 H2 _ ((x1.trans xe).trans x2) r2 l2.unset|ct J2=>show λU2 H2 Z2 x2 r2 l2=>h U2 H2 _ ((x1.trans xe).trans x2) r2 l2.unset|rt dd=>show λU2 H2 v x2 r2 rv=>h U2 H2 v ((x1.trans xe).trans x2) r2 rv
   .simp only[if_neg wK]at h
end
end Mi
namespace L2
open PySem PySem.Spec PyProof.Rows
structure u_(K:W.Frag)(x qual:Str)(st:Stmt)(f:Addr)(fd:FuncData):Prop where
 ex:∃(oc:Value) (od:Option Addr) (kV doc pm:Value) (an:Option Addr) (cdv ct:Value) (osl:Array (Option Value)),
  fd=PySem.W.fnOf x qual (bC st) (aV st) (aA st) .none kV doc pm an cdv ct/\K.lookup f=some ⟨oc,od,.func fd,osl⟩/\PySem.W.codeIn K cdv qual=true
 kp:PySem.W.keepIn K (.ref f)=true
end L2
namespace Mi
open PySem PySem.Spec PyProof.Rows L2
section
variable {P:Program}{w:World}{K:W.Frag}{mg:Str->Option Value}{base:Heap}{cA:Cl}{ao:Nat->Nat->Bool}{T:Nat->Option Df}
theorem ze3{U:Ph}{H:Hp}{N:List Str}{ds:List Xv}{vs:List V}{m p:Nat}(r:cH K cA U H ds vs)(hp:p=ds.length)(hm:m=N.length):bF K cA U H (L2.start N vs) (ds.map some++List.replicate (m-p) none):=by
 subst hp hm;unfold L2.start;let hl:=r.len;show⟨by simp[hl],λi d e=>?_⟩;by_cases hi:i<ds.length
 .rw[nQ (by simpa using hi),ji]at e;cases z:ds[i]? with
  |none=>rw[z]at e;cases e|some x=>
   rw[z]at e;cases e;let⟨v,a,b⟩:=r.get z;show⟨v,by rw[nQ (by simp;lia),ji,a];rfl,b⟩
 .rw[pF (by simpa using hi),M9]at e;split at e<;>cases e
theorem zei{U:Ph}{H:Hp}{s:S}{ds:List Xv}{k n:Nat}{cm:Bool}{df:Df}{Q:VK}{E:XK}(hT:T n=some df)
  (h:Run K cA (call ao T (k+1) cm n ds) U H s (λd _ U' H'=>∀v,bJ K cA U' H' d v->Q v H') (λc fs _ U' H'=>∀dx,j9 K cA U' H' c fs dx->E (.ref (cA.a c)) dx H')) :
  ds.length=df.iY/\aR K cA (exs ao cm (λc=>call ao T k c) df.body (ds.map some++List.replicate (df.many-df.iY) none)) U H s {nx:=λ_ H'=>Q .non H',rt:=Q} (λ_ C dx H'=>E C dx H'):=by
 unfold call at h;simp only[hT]at h;by_cases hl:ds.length=df.iY
 .refine⟨hl,?_⟩;rw[if_pos hl]at h;unfold Run at h;unfold aR;cases e:exs ao cm (λc=>call ao T k c) df.body (ds.map some++List.replicate (df.many-df.iY) none) s with
  |none=>simp only[e]at h|some r=>
   let⟨r,s1⟩:=r;simp only[e]at h;cases r with
   |nx J=>show λU' H' Z' x r l=>h U' H' x r _ (.d .non)|rt d=>show λU' H' v x r rv=>h U' H' x r v rv|er c fs J=>show λU' H' Z' x r l=>h U' H' x r|bk J=>show h.elim|ct J=>show h.elim
 .rw[if_neg hl]at h;show h.elim
theorem eN{cm:Bool}{n:Nat}{f:Addr}{fd:FuncData}{ps:List Str}:fU P w K mg base (lq P w) cm 0 f fd ps (tQ K cA (call ao T 0 cm n)):=by
 let no:∀vs H Q E,tQ K cA (call ao T 0 cm n) vs H Q E->False:=by
  rintro vs H Q E ⟨_,_,_,_,_,h⟩;show h.elim
 show⟨λvs H Q E h=>(no _ _ _ _ h).elim,λA outer s H args us vs Q E _ _ _ _ _ h=>(no _ _ _ _ h).elim⟩
theorem zlZ{x qual:Str}{st:Stmt}{f:Addr}{fd:FuncData}{N ps:List Str}{k n:Nat}{cm:Bool}{df:Df}(F:u_ K x qual st f fd)(S:gF N ps (aA st))(hT:T n=some df)(hp:df.iY=ps.length)(hm:df.many=N.length)
  (hb:∀(cdv:Value) (A:Around) (outer:List Env) (s:Shared) (H:Hp) (E:XK),cC (k+1) A->
   tR (jq (lq P w) P w K mg base N qual (aA st) f cdv A outer s H E cm) cA ao cm (λc=>call ao T k c) (λ_ C dx H'=>E C dx H') (aV st) df.body) :
  fU P w K mg base (lq P w) cm (k+1) f fd ps (tQ K cA (call ao T (k+1) cm n)):=by
 let⟨oc,od,kV,doc,pm,an,cdv,ct,osl,rfl,lk,nJ⟩:=F.ex;show zow lk nJ S (λvs H Q E hz=>?_) λA outer s H vs Q E hr hz=>?_
 .obtain⟨U,ds,s,r,hS,h⟩:=hz;rw[<-r.len,(zei hT h).1,hp]
 .obtain⟨U,ds,st',r,hS,h⟩:=hz;let⟨hl,h2⟩:=zei hT h;show⟨_,hb cdv A outer s H E hr,U,_,st',ze3 r hl.symm hm,hS,h2⟩
theorem zl7{x qual:Str}{st:Stmt}{f:Addr}{fd:FuncData}{N ps:List Str}{k n:Nat}{cm:Bool}{df:Df}(F:u_ K x qual st f fd)(S:gF N ps (aA st))(hT:T n=some df)(hp:df.iY=ps.length)(hm:df.many=N.length)
  (hb:∀(cdv:Value) (A:Around) (outer:List Env) (s:Shared) (H:Hp) (E:XK),cC k (A.deeper (envOfC qual (aA st) s.heap.objs.size f cdv))->
   tR (jq (lq P w) P w K mg base N qual (aA st) f cdv A outer s H E cm) cA ao cm (λc=>call ao T k c) (λ_ C dx H'=>E C dx H') (aV st) df.body) :
  fU P w K mg base (lq P w) cm (k+1) f fd ps (tQ K cA (call ao T (k+1) cm n)):=zlZ F S hT hp hm λcdv A outer s H E hr=>hb cdv A outer s H E (hr.deeper _)
end
theorem zlC{K:W.Frag}{cA:Cl}{m:List Xv->M Xv}{H:Hp}{a:Addr}{ns:List Int}(hq:cY K H a (ns.map V.int))(hm:∃s',m [.d (.fl (ns.map D.int))] []=some (.ok (.d (.bl true)),s')) :
  tQ K cA m [.ref a] H (λv _=>v=.bl true) λ_ _ _=>False:=by
 let rs:∀(l:List Int) U,aD K cA U H (l.map D.int) (l.map V.int):=λl U=>by
  induction l with
  |nil=>show .nil|cons i l ih=>show .cons (.int i) ih
 let hl:LstAt K ⟨λ_=>False,[]⟩ H a (ns.map V.int):=by
  rcases hq with h|h
  .exact .inl ⟨h,λz=>z⟩
  .exact .inr (.inr h)
 show⟨⟨λ_=>False,[]⟩,[.d (.fl (ns.map D.int))],[],.cons (.d (.fl hl (rs ns _))) .nil,⟨rfl,(λn o b e1 e2=>by simp at e1),Ce,(λb hb=>by cases hb),(λb z=>False.elim z)⟩,?_⟩;let⟨s',e⟩:=hm;unfold Run;rw[e];intro U' H' _ _ v rv;cases rv with
 |d rv=>cases rv;rfl
theorem zfk:Raises X (λ_ _ _ _=>False):=λ_ _ _ _ _ _ _ _ _ _ _ _ _ z=>z.elim
theorem zgq(r:cC k A):cC k (A.mark o):=⟨r.dp,r.un,r.gd⟩
theorem vd(r:cC k A):A.units+60<cLine:=by let:=r.un;lia
noncomputable def aC:Expr->Bool
 |.Starred _ _=>false|_=>true
theorem bf(h:aC e=true):starEach (e::es) env=(false,eval e env)::starEach es env:=by
 cases e<;>first|rfl|cases h
theorem aW:∀{es:List Expr} {env:Env} {pos:Pos},es.all aC=true->(backTo pos (starEach es env)).any (·.1)=false
 |[],_,_,_=>rfl|e::es,env,pos,h=>by
  rw[xQ,dZ]at h;rw[bf h.1];change (false||(backTo pos (starEach es env)).any (·.1))=false;rw[aW h.2];rfl
theorem qQ:∀{es:List Expr} {env:Env} {pos:Pos},es.all aC=true->(backTo pos (starEach es env)).all (λx=>!x.1)=true
 |[],_,_,_=>rfl|e::es,env,pos,h=>by
  rw[xQ,dZ]at h;rw[bf h.1];change (true&&(backTo pos (starEach es env)).all (λx=>!x.1))=true;rw[qQ h.2];rfl
theorem mY(h1:aC e=true)(h2:es.all aC=true)(h3:decide (es.length<28)=true):((backTo pos (starEach (e::es) env)).all (λx=>!x.1)&&(backToKw pos (keywordEach [] env)).all (λx=>x.1.isSome)&&decide ((e::es).length+([]:List Keyword).length+(if ([]:List Keyword).isEmpty then 0 else 1)<30))=true:=by
 rw[qQ (es:=e::es) (by rw[xQ,h1,h2];rfl)];let:=fj h3;let z:(e::es).length+([]:List Keyword).length+(if ([]:List Keyword).isEmpty then 0 else 1)<30:=by
  change es.length+1+0+0<30
  lia
 rw[cO z];rfl
noncomputable def vf(sc scope:Scope):Bool:=(match scope.kind with|.function=>true|_=>false)&&scope.names.all λy=>match y.2 with
 |.cell=>(match scope.names.lookup y.1 with|some .cell=>true|_=>false)
 |.free=>(match sc.names.lookup y.1 with|some .cell=>true|some .free=>true|_=>false)
 |.local=>(match scope.names.lookup y.1 with|some .local=>true|_=>false)
 |_=>true
theorem eE.of(h:vf sc scope=true):eE sc scope:=by
 unfold vf at h;rw[dZ,gY]at h;let⟨h1,h2⟩:=h;show⟨?_,λy hy z=>?_,λy hy z=>?_,λy hy z=>?_⟩
 .split at h1
  .assumption
  .cases h1
 .let:=h2 y hy;rw[z]at this;dsimp only at this;split at this
  .assumption
  .cases this
 .let:=h2 y hy;rw[z]at this;dsimp only at this;split at this
  .exact .inl (by assumption)
  .exact .inr (by assumption)
  .cases this
 .let:=h2 y hy;rw[z]at this;dsimp only at this;split at this
  .assumption
  .cases this
noncomputable def frB(scope:Scope)(XN:List Str):List Str->List Nat->Bool
 |y::N,j::fr=>(match scope.names.lookup y with|some .free=>true|_=>false)&&decide (XN[j]?=some y)&&frB scope XN N fr
 |[],[]=>true|_,_=>false
theorem zjc:∀{N:List Str} {fr:List Nat},frB scope XN N fr=true->N.length=fr.length/\∀(i:Nat) (y:Str) (j:Nat),N[i]?=some y->fr[i]?=some j->scope.names.lookup y=some .free/\XN[j]?=some y
 |[],[],_=>⟨rfl,λi y j h=>by simp at h⟩|[],_::_,h=>by cases h|_::_,[],h=>by cases h|y::N,j::fr,h=>by
  unfold frB at h;rw[dZ,dZ,kI]at h;let⟨⟨h1,h2⟩,h3⟩:=h;let⟨l,q⟩:=zjc h3;show⟨by simp[l],λi z m e1 e2=>?_⟩;cases i with
  |zero=>
   simp at e1 e2;subst e1 e2;show⟨?_,h2⟩;split at h1
   .assumption
   .cases h1
  |succ i=>show q i z m (by simpa using e1) (by simpa using e2)
noncomputable def okN(x:Str):Bool:=!(x==("__debug__" : Str)) && !(x==("__classdict__" : Str)) && !decide (x="__name__")
theorem vg(h:okN x=true):(x==("__debug__" : Str))=false/\(x==("__classdict__" : Str))=false/\x≠"__name__":=by
 unfold okN at h;simp only[dZ,Bool.not_eq_true',decide_eq_false_iff_not]at h;show⟨h.1.1,h.1.2,h.2⟩
theorem PK{env:Env}{k:NameKind}(hk:k≠.free):∀{names:List (Str×NameKind)} {x:Str},names.lookup x=some k->
  (names.map λ(n,k)=>if (k==NameKind.free&&env.scope.kind==.function&&env.kindOf n==some .cell) then (n,NameKind.cell) else (n,k)).lookup x=some k
 |[],x,h=>by simp at h|(n,q)::r,x,h=>by
  rw[rD]at h;rw[kJ,rD];let hd:∀c:Bool,(if c=true then (n,NameKind.cell) else (n,q)).1=n:=λc=>by cases c<;>rfl
  rw[hd];by_cases z:x=n
  .subst z;simp only[ug]at h ⊢;cases h
   split
   .rename_i y;simp only[dZ,xT]at y;show absurd y.1.1 hk
   .rfl
  .let z':(x==n)=false:=by simpa using z
   simp only[z']at h ⊢;show PK hk h
theorem zmt{K:W.Frag}{C:Addr}(h:Oe K C=true):XC K C:=by
 unfold Oe at h;simp only[dZ,xT]at h;let⟨⟨⟨⟨⟨⟨⟨h1,h2⟩,h3⟩,h4⟩,h5⟩,h6⟩,h7⟩,h8⟩:=h;show⟨h1,h2,h3,h4,h5,h6,h7,h8⟩
theorem U8{n c:Nat}(hn:0<n):o_ n c<n:=by unfold o_;split<;>lia
theorem U9{n c:Nat}(hn:0<n):o_ n (o_ n c)=o_ n c:=by unfold o_;split<;>simp_all
theorem zk5{n c e:Nat}(hn:0<n):jQ n (o_ n c) (o_ n e)=jQ n c e:=by unfold jQ;rw[U9 hn,U9 hn]
theorem zjo{K:W.Frag}{L:List Addr}{f g:Nat->List Str}{b:Nat->Addr}(hL:0<L.length)(h:qx K L=true):u6 K ⟨eU L,f,b,g⟩ (jQ L.length):=by
 unfold qx at h;rw[gY]at h;let key:∀c,Oe K (eU L c)=true/\PySem.W.kitOne K (.ref (eU L c)) (.type "ValueError")=some true/\∀e,PySem.W.kitOne K (.ref (eU L c)) (.ref (eU L e))=some (jQ L.length c e):=λc=>by
  let z:=h (o_ L.length c) (gC.mpr (U8 hL));simp only[dZ,xT,gY]at z;let⟨⟨z1,z2⟩,z3⟩:=z;show⟨z1,z2,λe=>?_⟩;let y:=z3 (o_ L.length e) (gC.mpr (U8 hL));rw[zk5 hL]at y;show y
 show⟨λc=>zmt (key c).1,λc e=>(key c).2.2 e,λc=>(key c).2.1⟩
theorem zk0{K:W.Frag}{L:List Addr}{d:Nat}(hL:0<L.length)(h:subB K L d=true):∀c,jQ L.length c d=true->L2.subIn K (eU L c) (eU L d)=true:=λc hc=>by
 unfold subB at h;rw[gY]at h;let z:=h (o_ L.length c) (gC.mpr (U8 hL));let y:jQ L.length (o_ L.length c) d=true:=by
  unfold jQ at hc ⊢;rw[U9 hL];show hc
 rw[y]at z;show z
noncomputable def vh(K:W.Frag):Sp:=λvs H Q _=>∃(a:Addr) (ns:List Int),vs=[.ref a]/\cY K H a (ns.map V.int)/\ns.length<=63/\Only H/\∀H',Q (.bl true) H'
theorem zkN{K:W.Frag}{cA:Cl}{m:List Xv->M Xv}(hm:∀ns:List Int,ns.length<=63->∃s',m [.d (.fl (ns.map D.int))] []=some (.ok (.d (.bl true)),s'))(vs:List V)(H:Hp)(Q:VK)(E:XK)(h:vh K vs H Q E):tQ K cA m vs H Q E:=by
 let⟨a,ns,rfl,hq,hl,hO,k⟩:=h;let⟨U,ds,s,r1,r2,h⟩:=zlC (cA:=cA) (m:=m) hq (hm ns hl);show⟨U,ds,s,r1,r2,?_⟩;unfold Run at h ⊢;split at h
 .intro U' H' x r v rv;rw[h U' H' x r v rv];show k H'
 .exact λU' H' x r dx q=>(h U' H' x r dx q).elim
 .exact h
theorem Ef{K:W.Frag}{fd:FuncData}{p:Str}(h:∀a,bindArgs fd ⟨[a],[]⟩=pure [(p,a)]):Binds K fd [p] []:=.all λus hl=>by
 cases us with
 |nil=>cases hl|cons a r=>cases r with
  |nil=>show h a|cons b r=>cases hl
theorem Eh{K:W.Frag}{fd:FuncData}{p q:Str}(h:∀a b,bindArgs fd ⟨[a,b],[]⟩=pure [(p,a),(q,b)]):Binds K fd [p,q] []:=.all λus hl=>by
 cases us with
 |nil=>cases hl|cons a r=>cases r with
  |nil=>cases hl|cons b r=>cases r with
   |nil=>show h a b|cons c r=>cases hl
theorem Ej{K:W.Frag}{fd:FuncData}{p q t:Str}(h:∀a b c,bindArgs fd ⟨[a,b,c],[]⟩=pure [(p,a),(q,b),(t,c)]):Binds K fd [p,q,t] []:=.all λus hl=>by
 cases us with
 |nil=>cases hl|cons a r=>cases r with
  |nil=>cases hl|cons b r=>cases r with
   |nil=>cases hl|cons c r=>cases r with
    |nil=>show h a b c|cons d r=>cases hl
theorem Ek{K:W.Frag}{fd:FuncData}{p q t u:Str}(h:∀a b c d,bindArgs fd ⟨[a,b,c,d],[]⟩=pure [(p,a),(q,b),(t,c),(u,d)]):Binds K fd [p,q,t,u] []:=.all λus hl=>by
 cases us with
 |nil=>cases hl|cons a r=>cases r with
  |nil=>cases hl|cons b r=>cases r with
   |nil=>cases hl|cons c r=>cases r with
    |nil=>cases hl|cons d r=>cases r with
     |nil=>show h a b c d|cons e r=>cases hl
theorem zi9:bootBuiltins "int"=some (.type "int"):=by decide +kernel
theorem U_:bootBuiltins "bool"=some (.type "bool"):=by decide +kernel
theorem KR:bootBuiltins "tuple"=some (.type "tuple"):=by decide +kernel
theorem qR:bootBuiltins "list"=some (.type "list"):=by decide +kernel
theorem zcI:bootBuiltins "ValueError"=some (.type "ValueError"):=by decide +kernel
structure JE(X:Cx)(cA:Cl)(ao:Nat->Nat->Bool)(aj:Bool)(F:Fn)(EX:XS)(e:Expr)(m:E):Prop where
 o:SE X cA ao aj F EX e m
structure JA(X:Cx)(cA:Cl)(ao:Nat->Nat->Bool)(aj:Bool)(F:Fn)(EX:XS)(e:List Expr)(m:Es):Prop where
 o:SA X cA ao aj F EX e m
structure JT(X:Cx)(cA:Cl)(ao:Nat->Nat->Bool)(aj:Bool)(F:Fn)(EX:XS)(e:Expr)(m:E):Prop where
 o:ST X cA ao aj F EX e m
structure JW(X:Cx)(cA:Cl)(ao:Nat->Nat->Bool)(aj:Bool)(F:Fn)(EX:XS)(e:Expr)(m:E):Prop where
 o:SW X cA ao aj F EX e m
structure JC(X:Cx)(cA:Cl)(ao:Nat->Nat->Bool)(aj:Bool)(F:Fn)(EX:XS)(e:List Expr)(m:Eo):Prop where
 o:KQ X cA ao aj F EX e m
structure JO(X:Cx)(cA:Cl)(ao:Nat->Nat->Bool)(aj:Bool)(F:Fn)(EX:XS)(e:Option Expr)(m:Eo):Prop where
 o:KC X cA ao aj F EX e m
structure JI(X:Cx)(cA:Cl)(ao:Nat->Nat->Bool)(aj:Bool)(F:Fn)(EX:XS)(tg e:Expr)(m:Wk):Prop where
 o:SI X cA ao aj F EX tg e m
structure JG(X:Cx)(cA:Cl)(ao:Nat->Nat->Bool)(aj:Bool)(F:Bool->Fn)(EX:XS)(e:Expr)(m:Tg):Prop where
 o:SG X cA ao aj F EX e m
structure JS(X:Cx)(cA:Cl)(ao:Nat->Nat->Bool)(aj:Bool)(F:Bool->Fn)(EX:XS)(e:Stmt)(m:St):Prop where
 o:SS X cA ao aj F EX e m
structure JB(X:Cx)(cA:Cl)(ao:Nat->Nat->Bool)(aj:Bool)(F:Bool->Fn)(EX:XS)(e:List Stmt)(m:b_):Prop where
 o:tR X cA ao aj F EX e m
structure JK(X:Cx)(x:Str)(k:NameKind):Prop where
 o:X.env.scope.names.lookup x=some k
structure JP(X:Cx)(cA:Cl)(op:CmpOp)(p:Pr):Prop where
 o:∃r,fH X (compareOp op) r/\bA X.K cA p (r2 r)
structure JQ(X:Cx)(cA:Cl)(op:Operator)(p:Pr):Prop where
 o:∃r,fH X (binaryOp op) r/\bA X.K cA p (r2 r)
structure JN(X:Cx)(cA:Cl)(kx:Expr)(k:Kd):Prop where
 o:PE X kx (tC (Gs cA k))
structure JR(X:Cx)(EX:XS):Prop where
 o:Raises X EX
structure JH(X:Cx):Prop where
 o:PassesOwn (model X.prog X.w) X.A X.env X.xe
structure JY(X:Cx)(tg:Expr)(g:TG):Prop where
 o:PG X tg g
noncomputable def oH:NameKind->Bool
 |.local=>true|.cell=>true|_=>false
noncomputable def El:NameKind->Bool
 |.local=>true|.cell=>true|.free=>true|_=>false
section
variable {X:Cx}{cA:Cl}{ao:Nat->Nat->Bool}{aj:Bool}{F:Fn}{EX:XS}{a b c d e:Expr}{A B C Dd E':E}{pos p p2 apos:Pos}{es:List Expr}{Xs:Es}{x y:Str}{k k':NameKind}{q q1 q2 q3:Pr}{fz:Bool}
theorem zo0(h:scope.names.lookup x=some k)(hk:(match k with|.free=>false|_=>true)=true):JK (X.blk scope cl N Cc s3 H3 fp ak) x k:=
 ⟨PK (by intro z;subst z;cases hk) h⟩
theorem g_v(i:Nat)(hN:X.N[i]?=some x)(h:JK X x k)(hv:El k=true)(hd:okN x=true):JE X cA ao aj F EX (.Name x pos) (.v i):=
 ⟨zpd i hN (by cases k<;>first|exact .inl h.o|exact .inr (.inl h.o)|exact .inr (.inr h.o)|cases hv) (vg hd).1 (vg hd).2.1⟩
theorem zps(i:Nat)(hN:N[i]?=some x)(h:scope.names.lookup x=some .free)(hd:okN x=true):JE (X.blk scope cl N Cc s3 H3 fp ak) cA ao aj F EX (.Name x pos) (.v i):=
 ⟨zpd i hN (.inr (O9 h)) (vg hd).1 (vg hd).2.1⟩
theorem aF{i j p}:JE X cA ao aj F EX (.Constant (.int i) j p) (.c (.int i)):=⟨znA⟩
theorem kj{i j p}:JE X cA ao aj F EX (.Constant (.bool i) j p) (.c (.bl i)):=⟨zn9⟩
theorem yX{j p}:JE X cA ao aj F EX (.Constant .none j p) (.c .non):=⟨znf⟩
theorem nO{i j p}:JE X cA ao aj F EX (.Constant (.str i) j p) (.c (.str i)):=⟨zmF⟩
theorem zpk(h:∃t,X.mg x=some (.int i t))(hg:JK X x .globalImplicit)(hd:okN x=true):JE X cA ao aj F EX (.Name x pos) (.c (.int i)):=by
 let⟨t,h⟩:=h;show⟨zkv hg.o h (vg hd).1⟩
theorem fM:JQ X cA .Add .add:=⟨_,zgn,znD⟩
theorem vm:JQ X cA .Sub .ao:=⟨_,zly,zlP⟩
theorem wL:JQ X cA .Mult .mul:=⟨_,zle,zmL⟩
theorem ziW:JQ X cA .FloorDiv .fdiv:=⟨_,zj5,zj7⟩
theorem Bk:JQ X cA .Mod .mod:=⟨_,zlv,zmw⟩
theorem zmg:JQ X cA .Pow .pow:=⟨_,zlB,znd⟩
theorem bT(h:JQ X cA op q)(ha:JE X cA ao aj F EX a A)(hb:JE X cA ao aj F EX b B):JE X cA ao aj F EX (.BinOp a op b pos) (.pr fz q (.cons A (.cons B .nil))):=by
 let⟨r,h1,h2⟩:=h.o;show⟨zmz h1 h2 ha.o hb.o⟩
theorem vo(ha:JE X cA ao aj F EX a A):JE X cA ao aj F EX (.UnaryOp .USub a pos) (.pr true .neg (.cons A .nil)):=⟨zov Zj zmq ha.o⟩
theorem zl9(ha:JE X cA ao aj F EX a A):JE X cA ao aj F EX (.UnaryOp .Not a pos) (.not A):=⟨zmZ ha.o⟩
theorem wM{op}(ha:JE X cA ao aj F EX a A):JE X cA ao aj F EX (.BoolOp op [a] pos) A:=⟨zli ha.o⟩
theorem tU{rest:List Expr}(ha:JE X cA ao aj F EX a A)(hb:JE X cA ao aj F EX (.BoolOp .And (b::rest) pos) B):JE X cA ao aj F EX (.BoolOp .And (a::b::rest) pos) (.and A B):=⟨zln ha.o hb.o⟩
theorem oJ{k:Nat}(hr:cC k X.A):JP X cA .Eq .eq:=⟨_,znN (vd hr),zoD⟩
theorem wN{k:Nat}(hr:cC k X.A):JP X cA .NotEq .ne:=⟨_,zm1 (vd hr),zoF⟩
theorem vp{k:Nat}(hr:cC k X.A):JP X cA .Lt .lt:=⟨_,IW.or (zl3 (by let:=vd hr;lia)),zon⟩
theorem zpa:JP X cA .LtE .le:=⟨_,zoy,zou⟩
theorem zpi:JP X cA .Gt .gt:=⟨_,zoh,zoz⟩
theorem zpw:JP X cA .GtE .ge:=⟨_,zoJ,zoM⟩
theorem Gx{k:Nat}(hr:cC k X.A):JP X cA .In .inn:=⟨_,zmE (vd hr),zoc⟩
theorem zmN{k:Nat}(hr:cC k X.A):JP X cA .NotIn .nin:=⟨_,zk2 (vd hr),zlM⟩
noncomputable def qT:Expr->Bool
 |.Set _ _ _=>false|_=>true
theorem Em(h:qT b=true):behindInMarks op b=false:=by cases b<;>first|rfl|cases h
theorem vq(ho:JP X cA op q)(ha:JE X cA ao aj F EX a A)(hb:JE X cA ao aj F EX b B)(h1:qT b=true:=by rfl):JE X cA ao aj F EX (.Compare a [op] [b] pos) (.pr true q (.cons A (.cons B .nil))):=by
 let⟨r,h2,h3⟩:=ho.o;show⟨znc h2 h3 ha.o hb.o (Em h1)⟩
theorem fO(ho:JP X cA op q)(ha:JE X cA ao aj F EX a A)(hb:JE X cA ao aj F EX b B)(h1:qT b=true:=by rfl):JT X cA ao aj F EX (.Compare a [op] [b] pos) (.pr true q (.cons A (.cons B .nil))):=by
 let⟨r,h2,h3⟩:=ho.o;show⟨zmp h2 h3 ha.o hb.o (Em h1)⟩
theorem znW(h1:JP X cA op q1)(h2:JP X cA op' q2)(ha:JE X cA ao aj F EX a A)(hb:JE X cA ao aj F EX b B)(hc:JE X cA ao aj F EX c C)(hm:qT c=true:=by rfl):JE X cA ao aj F EX (.Compare a [op,op'] [b,c] pos) (.yC q1 q2 A B C):=by
 let⟨r,h3,h4⟩:=h1.o;let⟨r',h5,h6⟩:=h2.o;show⟨zlX h3 h4 h5 h6 ha.o hb.o hc.o (Em hm)⟩
theorem znV{j p}(ha:JE X cA ao aj F EX a A):JE X cA ao aj F EX (.Compare a [.Is] [.Constant .none j p] pos) (.pr true .J1 (.cons A .nil)):=⟨zlf ha.o⟩
theorem zmb{j p}(ha:JE X cA ao aj F EX a A):JT X cA ao aj F EX (.Compare a [.IsNot] [.Constant .none j p] pos) (.pr true .J3 (.cons A .nil)):=⟨zj4 ha.o⟩
noncomputable def KY:Expr->Bool
 |.Call _ _ _ _=>true|.Name _ _=>true|.Subscript _ _ _=>true|.Attribute _ _ _=>true|_=>false
theorem kY(ha:JE X cA ao aj F EX a A)(he:KY a=true:=by rfl):JT X cA ao aj F EX a A:=⟨zmf ha.o (by cases a<;>first|(intro _;rfl)|cases he)⟩
theorem mZ(ha:JT X cA ao aj F EX a A):JT X cA ao aj F EX (.UnaryOp .Not a pos) (.not A):=⟨zml ha.o⟩
theorem KZ(ha:JT X cA ao aj F EX a A):JW X cA ao aj F EX (.BoolOp .And [a] pos) A:=⟨zkw ha.o⟩
theorem Bl(ha:JT X cA ao aj F EX a A):JW X cA ao aj F EX (.BoolOp .Or [a] pos) A:=⟨zlT ha.o⟩
theorem K1{rest:List Expr}(ha:JT X cA ao aj F EX a A)(hb:JW X cA ao aj F EX (.BoolOp .And (b::rest) pos) B):JW X cA ao aj F EX (.BoolOp .And (a::b::rest) pos) (.and A B):=⟨znO ha.o hb.o⟩
theorem yZ{rest:List Expr}(ha:JT X cA ao aj F EX a A)(hb:JW X cA ao aj F EX (.BoolOp .Or (b::rest) pos) B):JW X cA ao aj F EX (.BoolOp .Or (a::b::rest) pos) (.or A B):=⟨zn0 ha.o hb.o⟩
theorem rT(h:JW X cA ao aj F EX a A):JT X cA ao aj F EX a A:=⟨zpy h.o⟩
theorem zm6(hc:JT X cA ao aj F EX c C)(ha:JE X cA ao aj F EX a A)(hb:JE X cA ao aj F EX b B):JE X cA ao aj F EX (.IfExp c a b pos) (.ite C A B):=⟨znk hc.o ha.o hb.o⟩
theorem aG:JA X cA ao aj F EX [] .nil:=⟨zlJ⟩
theorem aq(ha:JE X cA ao aj F EX a A)(hr:JA X cA ao aj F EX es Xs)(hs:aC a=true:=by rfl):JA X cA ao aj F EX (a::es) (.cons A Xs):=⟨zjj ha.o hr.o (bf hs)⟩
theorem dR{k}(ha:JA X cA ao aj F EX es Xs)(hz:decide (Es.len Xs<=sizeLine)=true:=by rfl):JE X cA ao aj F EX (.Tuple es k pos) (.tup Xs):=⟨zld ha.o (fj hz)⟩
theorem gR(ha:JA X cA ao aj F EX es Xs)(hz:decide (Es.len Xs<=sizeLine)=true:=by rfl):JE X cA ao aj F EX (.List es pos) (.lst fz Xs):=⟨zny ha.o (fj hz)⟩
theorem znq{j p1 j2 p3}{k:Str}{i:Int}:JE X cA ao aj F EX (.Dict [some (.Constant (.str k) j p1)] [.Constant (.int i) j2 p3] pos) (.uP k i):=⟨zjY⟩
noncomputable def vA:Expr->Bool
 |.Constant _ _ _=>true|.Name _ _=>true|.Call _ _ _ _=>true|.BinOp _ _ _ _=>true|.UnaryOp _ _ _=>true|.Subscript _ _ _=>true|.IfExp _ _ _ _=>true|.Attribute _ _ _=>true|.Compare _ _ _ _=>true|.BoolOp _ _ _=>true|_=>false
theorem bH(ha:JE X cA ao aj F EX a A)(hb:JE X cA ao aj F EX b B)(hs:vA b=true:=by rfl):JE X cA ao aj F EX (.Subscript a b pos) (.pr true .ix (.cons A (.cons B .nil))):=⟨zn3 zod ha.o hb.o (by cases b<;>first|(intro _ _;rfl)|cases hs)⟩
theorem oK:JO X cA ao aj F EX none .no:=⟨zoB⟩
theorem m5(ha:JE X cA ao aj F EX a A):JO X cA ao aj F EX (some a) (.yes A):=⟨zlp ha.o⟩
theorem nP{lo hi:Option Expr}{Lo Hi:Eo}(ha:JE X cA ao aj F EX a A)(hl:JO X cA ao aj F EX lo Lo)(hh:JO X cA ao aj F EX hi Hi):JE X cA ao aj F EX (.Subscript a (.Slice lo hi none p2) pos) (.sl fz A Lo Hi):=⟨zof ha.o hl.o hh.o⟩
theorem zlW(f:Nat){cm:Bool}{k:Nat}{fa:Addr}{fd:FuncData}{ps:List Str}(Fo:fU X.prog X.w X.K X.mg X.base (lq X.prog X.w) cm k fa fd ps (tQ X.K cA (F f)))(rH:cm=true->X.aj=true)(hr:cC k X.A)(hm:X.mg x=some (.ref fa))(hk:PySem.W.keepIn X.K (.ref fa)=true)(hb:Binds X.K fd ps [])(R:JR X EX)(hg:JK X x .globalImplicit)
  (ha:JA X cA ao aj F EX (e::es) Xs) (hd:okN x=true) (he:aC e=true:=by rfl) (bU:es.all aC=true:=by rfl) :
  JE X cA ao aj F EX (.Call (.Name x p) (e::es) [] pos) (.call f Xs):=⟨zkX Fo rH hr hg.o hm hk hb R.o ha.o (vg hd).1 (bf he) (aW bU)⟩
theorem vB{c:Nat}(hm:X.mg x=some (.ref (cA.a c)))(hg:JK X x .globalImplicit)(hd:okN x=true):JN X cA (.Name x pos) (.cls c):=⟨Zd hg.o hm rfl (vg hd).1⟩
theorem wO(hv:Gs cA kd=.ty T)(hm:X.mg x=none)(hb:bootBuiltins x=some (.type T))(hg:JK X x .globalImplicit)(hd:okN x=true):JN X cA (.Name x pos) kd:=⟨λak s Z H Q I h=>by
 rw[hv]at h;show sY I hg.o hm hb ⟨.ty T,H,I,rfl,h⟩ (vg hd).2.2 (vg hd).1⟩
theorem lD(Cs:u6 X.K cA ao)(hm:X.mg "isinstance"=none)(hg:JK X "isinstance" .globalImplicit)(ha:JE X cA ao aj F EX a A)(hk:JN X cA kx kd)(h1:aC a=true:=by rfl)(h2:aC kx=true:=by rfl):JE X cA ao aj F EX (.Call (.Name "isinstance" p) [a,kx] [] pos) (.iy A kd):=
 ⟨zlm (λ_=>Cs) hg.o hm ha.o hk.o (bf h1) (bf h2) (aW (by rw[xQ,h2];rfl))⟩
theorem tV(hm:X.mg "len"=none)(hg:JK X "len" .globalImplicit)(ha:JA X cA ao aj F EX (e::es) Xs)(he:aC e=true:=by rfl)(bU:es.all aC=true:=by rfl):JE X cA ao aj F EX (.Call (.Name "len" p) (e::es) [] pos) (.pr fz .len Xs):=⟨wI zda znr hg.o hm PySem.boot_len ha.o J0 J0 (bf he) (aW bU)⟩
theorem zmd(hm:X.mg "abs"=none)(hg:JK X "abs" .globalImplicit)(ha:JA X cA ao aj F EX (e::es) Xs)(he:aC e=true:=by rfl)(bU:es.all aC=true:=by rfl):JE X cA ao aj F EX (.Call (.Name "abs" p) (e::es) [] pos) (.pr fz .abs Xs):=⟨wI ziF zmy hg.o hm PyProof.Rows.boot_abs ha.o J0 J0 (bf he) (aW bU)⟩
theorem Va(hc:X.aj=true)(hm:X.mg "max"=none)(hg:JK X "max" .globalImplicit)(ha:JA X cA ao aj F EX (e::es) Xs)(he:aC e=true:=by rfl)(bU:es.all aC=true:=by rfl):JE X cA ao aj F EX (.Call (.Name "max" p) (e::es) [] pos) (.pr fz .max2 Xs):=⟨wI (zgZ hc) zjX hg.o hm PyProof.Rows.boot_max ha.o J0 J0 (bf he) (aW bU)⟩
theorem Vb(hc:X.aj=true)(hm:X.mg "min"=none)(hg:JK X "min" .globalImplicit)(ha:JA X cA ao aj F EX (e::es) Xs)(he:aC e=true:=by rfl)(bU:es.all aC=true:=by rfl):JE X cA ao aj F EX (.Call (.Name "min" p) (e::es) [] pos) (.pr fz .min2 Xs):=⟨wI (zff hc) zj9 hg.o hm PyProof.Rows.boot_min ha.o J0 J0 (bf he) (aW bU)⟩
theorem zlg(hm:X.mg "int"=none)(hg:JK X "int" .globalImplicit)(ha:JA X cA ao aj F EX (e::es) Xs)(he:aC e=true:=by rfl)(bU:es.all aC=true:=by rfl):JE X cA ao aj F EX (.Call (.Name "int" p) (e::es) [] pos) (.pr fz .yF Xs):=⟨Um zgy zjs hg.o hm PyProof.Rows.boot_int ha.o J0 J0 (bf he) (aW bU)⟩
theorem zhY(hm:X.mg "divmod"=none)(hg:JK X "divmod" .globalImplicit)(ha:JA X cA ao aj F EX (e::es) Xs)(he:aC e=true:=by rfl)(bU:es.all aC=true:=by rfl):JE X cA ao aj F EX (.Call (.Name "divmod" p) (e::es) [] pos) (.pr fz .divmod Xs):=⟨wI zdG zhd hg.o hm PyProof.Rows.boot_divmod ha.o J0 J0 (bf he) (aW bU)⟩
theorem Bm(hc:X.aj=true)(hm:X.mg "all"=none)(hg:JK X "all" .globalImplicit)(ha:JA X cA ao aj F EX (e::es) Xs)(he:aC e=true:=by rfl)(bU:es.all aC=true:=by rfl):JE X cA ao aj F EX (.Call (.Name "all" p) (e::es) [] pos) (.pr fz .all Xs):=⟨wI (zgM hc) zlq hg.o hm PyProof.Rows.boot_all ha.o J0 J0 (bf he) (aW bU)⟩
theorem znE(hm:X.mg "list"=none)(hg:JK X "list" .globalImplicit)(ha:JA X cA ao aj F EX (e::es) Xs)(he:aC e=true:=by rfl)(bU:es.all aC=true:=by rfl):JE X cA ao aj F EX (.Call (.Name "list" p) (e::es) [] pos) (.pr fz .list Xs):=⟨Um zdl zkm hg.o hm qR ha.o J0 J0 (bf he) (aW bU)⟩
theorem K3(hm:X.mg "tuple"=none)(hg:JK X "tuple" .globalImplicit)(ha:JA X cA ao aj F EX (e::es) Xs)(he:aC e=true:=by rfl)(bU:es.all aC=true:=by rfl):JE X cA ao aj F EX (.Call (.Name "tuple" p) (e::es) [] pos) (.pr fz .tuple Xs):=⟨Um zcC zhm hg.o hm KR ha.o J0 J0 (bf he) (aW bU)⟩
theorem zjx{k:Nat}(hr:cC k X.A)(ho:JE X cA ao aj F EX a A)(ha:JA X cA ao aj F EX (e::es) Xs)(cQ:attributeBase a "count" X.env (eval a X.env)=eval a X.env:=by rfl)(mO:decide (es.length<28)=true:=by rfl)(cR:(apos.endLine==pos.line)=true:=by rfl)(hs:aC e=true:=by rfl)(dO:es.all aC=true:=by rfl) :
  JE X cA ao aj F EX (.Call (.Attribute a "count" apos) (e::es) [] pos) (.meth true .count .list A Xs):=⟨zgz (k:=.list) M_ PySem.F.slot_list_count PySem.F.type_list_count (zgw (by let:=hr.un;lia)) zhA ho.o ha.o cQ (mY hs dO mO) cR (bf hs) (aW dO)⟩
theorem zkA(ho:JE X cA ao aj F EX a A)(ha:JA X cA ao aj F EX (e::es) Xs)(cQ:attributeBase a "index" X.env (eval a X.env)=eval a X.env:=by rfl)(mO:decide (es.length<28)=true:=by rfl)(cR:(apos.endLine==pos.line)=true:=by rfl)(hs:aC e=true:=by rfl)(dO:es.all aC=true:=by rfl) :
  JE X cA ao aj F EX (.Call (.Attribute a "index" apos) (e::es) [] pos) (.meth true .index .list A Xs):=⟨zgz (k:=.list) M_ PySem.F.slot_list_index PySem.F.type_list_index zgr ziH ho.o ha.o cQ (mY hs dO mO) cR (bf hs) (aW dO)⟩
theorem Vc(ho:JE X cA ao aj F EX a A)(hb:JE X cA ao aj F EX b B)(cQ:attributeBase a "append" X.env (eval a X.env)=eval a X.env:=by rfl)(cR:(apos.endLine==pos.line)=true:=by rfl)(hs:aC b=true:=by rfl) :
  JE X cA ao aj F EX (.Call (.Attribute a "append" apos) [b] [] pos) (.push A B):=⟨zjF ho.o hb.o cQ (mY hs rfl rfl) cR (bf hs) rfl⟩
theorem zoQ(ho:JE X cA ao aj F EX a A)(cQ:attributeBase a "pop" X.env (eval a X.env)=eval a X.env:=by rfl)(cR:(apos.endLine==pos.line)=true:=by rfl) :
  JE X cA ao aj F EX (.Call (.Attribute a "pop" apos) [] [] pos) (.pop A):=⟨zng ho.o cQ cR⟩
theorem qe:JC X cA ao aj F EX [] .no:=⟨znI⟩
theorem vC(h:JT X cA ao aj F EX c C):JC X cA ao aj F EX [c] (.yes C):=⟨zjU h.o⟩
theorem kZ(ha:JE X cA ao aj F EX a A):JI X cA ao aj F EX tg a (.seq A):=⟨znh ha.o⟩
theorem zpc(hmg:X.mg "range"=none)(qd:JK X "range" .globalImplicit)(ha:JE X cA ao aj F EX a A)(hb:JE X cA ao aj F EX b B)(h1:aC a=true:=by rfl)(h2:aC b=true:=by rfl):JI X cA ao aj F EX tg (.Call (.Name "range" p) [a,b] [] pos) (.rg A B):=⟨znZ qd.o hmg ha.o hb.o (bf h1) (bf h2)⟩
theorem zc(hmg:X.mg "range"=none)(qd:JK X "range" .globalImplicit)(hb:JE X cA ao aj F EX b B)(h2:aC b=true:=by rfl):JI X cA ao aj F EX tg (.Call (.Name "range" p) [b] [] pos) (.rg (.c (.int 0)) B):=⟨zlD qd.o hmg hb.o (bf h2)⟩
noncomputable def K4(scope:Scope)(x:Str):Bool:=match scope.names.lookup x with
 |some .local=>true|some .cell=>true|_=>false
theorem Gy(h:K4 scope x=true):Loc (X.blk scope cl N Cc s3 H3 fp ak).env.scope x/\((X.blk scope cl N Cc s3 H3 fp ak).fn x=true\/(X.blk scope cl N Cc s3 H3 fp ak).env.scope.names.lookup x=some .local):=by
 unfold K4 at h;split at h
 .rename_i z;show⟨.inl (lookup_relabel_local z),.inr (lookup_relabel_local z)⟩
 .rename_i z;show⟨.inr (PK (by intro y;cases y) z),.inl (by change (scope.names.lookup x==some NameKind.cell)=true;rw[z];rfl)⟩
 .cases h
theorem lE(i:Nat)(hnd:N.Nodup)(hi:N[i]?=some x)(hl:K4 scope x=true):JY (X.blk scope cl N Cc s3 H3 fp ak) (.Name x tp) (eY i):=
 ⟨Ow hnd hi (Gy hl).1 (Gy hl).2⟩
theorem K5(i j:Nat)(hc:X.aj=true)(hnd:N.Nodup)(hi:N[i]?=some x)(hj:N[j]?=some y)(hl:K4 scope x=true)(pO:K4 scope y=true):JY (X.blk scope cl N Cc s3 H3 fp ak) (.Tuple [.Name x px,.Name y py] kt tp) (uG X.K 2 (iR (eY i) (iR (eY j) uF))):=
 ⟨U6 (X:=X.blk scope cl N Cc s3 H3 fp ak) hc hnd hi hj (Gy hl).1 (Gy pO).1 (Gy hl).2 (Gy pO).2⟩
theorem Gz{scope:Scope}{XN:List Str}{M0 N:List Str}{fr:List Nat}(h:frB scope XN N fr=true):(M0++N).length=M0.length+fr.length/\∀(i:Nat) (y:Str) (j:Nat),(M0++N)[M0.length+i]?=some y->fr[i]?=some j->scope.names.lookup y=some .free/\XN[j]?=some y:=by
 let⟨l,q⟩:=zjc h;show⟨by rw[bZ,l],λi y j e1 e2=>q i y j ?_ e2⟩;rw[pF gV]at e1;rw[show M0.length+i-M0.length=i by lia]at e1;show e1
theorem m6{elt iter tg:Expr}{ifs:List Expr}{scope:Scope}{cond:Eo}{dY:List Nat}{g:TG}{w:Wk}(sc:Scope)(XN M0 N:List Str)(fr:List Nat)(hc:X.aj=true)(Vd:X.env.scope=sc)(yW:X.N=XN)(hB:vf sc scope=true)(hf:frB scope XN N fr=true)(hT:mX X.K cA g dY)(fL:dY.all (λi=>decide (i<M0.length))=true)
  (hi:JI X cA ao aj F EX tg iter w) (hg:∀cl C s3 H3 fp ak,JY (X.blk scope cl (M0++N) C s3 H3 fp ak) tg g)
  (ht:∀cl C s3 H3 fp ak,JC (X.blk scope cl (M0++N) C s3 H3 fp ak) cA ao aj F (λ_ _ _ _=>False) ifs cond) (he:∀cl C s3 H3 fp ak,JE (X.blk scope cl (M0++N) C s3 H3 fp ak) cA ao aj F (λ_ _ _ _=>False) elt B)
  (hs:∀x,foldedSetIterable iter X.env x=pure x:=by intro _;rfl):JE X cA ao aj F EX (.ListComp elt [⟨tg,iter,ifs,0⟩] scope pos) (.comp fz B dY w fr M0.length cond):=
 ⟨zgf hc (eE.of (Vd▸hB)) hi.o (Gz (yW▸hf)).1 (Gz (yW▸hf)).2 (λa b c d e f=>(hg a b c d e f).o) hT (λi hi=>fj (gY.mp fL i hi)) (λa b c d e f=>(ht a b c d e f).o) (λa b c d e f=>(he a b c d e f).o) hs⟩
theorem Kaa{scope fC:Scope}{env:Env}(h:eE scope fC):eE (relabel scope env) fC:=⟨h.kind,h.cel,λy hy z=>by
 rcases h.free y hy z with q|q
 .exact .inl (PK (by intro y;cases y) q)
 .exact O9 q,h.loc⟩
theorem zkq{elt iter tg:Expr}{ifs:List Expr}{scope fC:Scope}{cond:Eo}{dY:List Nat}{g:TG}{w:Wk}{cl:List (Str×Addr)}{Bo:List Str}{Cc:Addr}{s3:Shared}{H3:Hp}{fp:List Addr}{ak:List (Addr×Obj)}(XN M0 N:List Str)(fr:List Nat)(hc:X.aj=true)(yW:Bo=XN)(hB:vf scope fC=true)(hf:frB fC XN N fr=true)(hT:mX X.K cA g dY)(fL:dY.all (λi=>decide (i<M0.length))=true)
  (hi:JI (X.blk scope cl Bo Cc s3 H3 fp ak) cA ao aj F EX tg iter w) (hg:∀cl2 C s3' K6 fp' iQ,JY ((X.blk scope cl Bo Cc s3 H3 fp ak).blk fC cl2 (M0++N) C s3' K6 fp' iQ) tg g)
  (ht:∀cl2 C s3' K6 fp' iQ,JC ((X.blk scope cl Bo Cc s3 H3 fp ak).blk fC cl2 (M0++N) C s3' K6 fp' iQ) cA ao aj F (λ_ _ _ _=>False) ifs cond) (he:∀cl2 C s3' K6 fp' iQ,JE ((X.blk scope cl Bo Cc s3 H3 fp ak).blk fC cl2 (M0++N) C s3' K6 fp' iQ) cA ao aj F (λ_ _ _ _=>False) elt B)
  (hs:∀x,foldedSetIterable iter (X.blk scope cl Bo Cc s3 H3 fp ak).env x=pure x:=by intro _;rfl):JE (X.blk scope cl Bo Cc s3 H3 fp ak) cA ao aj F EX (.ListComp elt [⟨tg,iter,ifs,0⟩] fC pos) (.comp fz B dY w fr M0.length cond):=by
 subst yW;show⟨zgf (X:=X.blk scope cl Bo Cc s3 H3 fp ak) hc (Kaa (eE.of hB)) hi.o (Gz hf).1 (Gz hf).2 (λa b c d e f=>(hg a b c d e f).o) hT (λi hi=>fj (gY.mp fL i hi)) (λa b c d e f=>(ht a b c d e f).o) (λa b c d e f=>(he a b c d e f).o) hs⟩
theorem qU:JR X (λ_ _ _ _=>False):=⟨zfk⟩
theorem cM{P:Program}{w:World}{K:W.Frag}{mg:Str->Option Value}{base:Heap}{N:List Str}{qual:Str}{scope:Scope}{f:Addr}{cd:Value}{A:Around}{outer:List Env}{s:Shared}{H:Hp}{E:XK}{cm:Bool} :
  JR (jq (lq P w) P w K mg base N qual scope f cd A outer s H E cm) (λ_ C dx H'=>E C dx H'):=⟨zfa⟩
theorem rW{CX:sZ}{P:Program}{w:World}{K:W.Frag}{mg:Str->Option Value}{base:Heap}{N:List Str}{qual:Str}{scope:Scope}{f:Addr}{cd:Value}{A:Around}{outer:List Env}{s:Shared}{H:Hp}{E:XK}{cm:Bool} :
  JH (jq CX P w K mg base N qual scope f cd A outer s H E cm):=⟨PassesOwn.leaving⟩
end
section
variable {X:Cx}{cA:Cl}{ao:Nat->Nat->Bool}{aj:Bool}{F:Bool->Fn}{EX:XS}{a b c d e:Expr}{A B C:E}{pos p p2:Pos}{st:Stmt}{sts body orelse:List Stmt}{m:St}{ms mb me mh:b_}{es:List Expr}{Xs:Es}{x y n:Str}{k k':NameKind}
theorem En(h:JK X x k)(hv:oH k=true):Loc X.env.scope x:=by cases k<;>first|exact .inl h.o|exact .inr h.o|cases hv
theorem Ep(h:JK X x k)(hv:X.fn x=true\/k=.local):X.fn x=true\/X.env.scope.names.lookup x=some .local:=by
 rcases hv with hv|hv
 .exact .inl hv
 .subst hv;show .inr h.o
theorem aN:JB X cA ao aj F EX [] .nil:=⟨zku⟩
theorem aH(h1:JS X cA ao aj F EX st m)(h2:JB X cA ao aj F EX sts ms):JB X cA ao aj F EX (st::sts) (.cons m ms):=⟨zhk h1.o h2.o⟩
theorem Ve:JS X cA ao aj F EX st .no:=⟨zok⟩
theorem Er(ha:JE X cA ao aj (F aj) EX a A)(hs:swapsWith a none pos.line X.env=pure false:=by rfl):JS X cA ao aj F EX (.Expr a pos) (.ex A):=⟨zn2 ha.o hs⟩
theorem bW(ha:JE X cA ao aj (F aj) EX a A):JS X cA ao aj F EX (.Return (some a) pos) (.ret A):=⟨zlo ha.o⟩
theorem eO(i:Nat)(hN:X.N.Nodup)(hi:X.N[i]?=some x)(hx:JK X x k)(hl:oH k=true)(ha:JE X cA ao aj (F aj) EX a A)(hs:swapsWith a (some (.Name x p)) pos.line X.env=pure false:=by rfl)(hf:X.fn x=true\/k=.local:=by first|exact .inl rfl|exact .inr rfl):JS X cA ao aj F EX (.Assign [.Name x p] a pos) (.asg (.nm i) A):=
 ⟨zmS hN hi (En hx hl) ha.o hs (Ep hx hf)⟩
theorem GC{elt iter tg:Expr}{ifs:List Expr}{scope:Scope}{cond:Eo}{dY:List Nat}{g:TG}{w:Wk}{fz:Bool}{py spos:Pos}(i:Nat)(sc:Scope)(XN M0 N:List Str)(fr:List Nat)(hN:X.N.Nodup)(tH:X.N[i]?=some y)(hx:JK X y k)(hl:oH k=true)(hc:X.aj=true)(Vd:X.env.scope=sc)(yW:X.N=XN)(hB:vf sc scope=true)(hf:frB scope XN N fr=true)(hT:mX X.K cA g dY)(fL:dY.all (λi=>decide (i<M0.length))=true)
  (hi:JI X cA ao aj (F aj) EX tg iter w) (hg:∀cl C s3 H3 fp ak,JY (X.blk scope cl (M0++N) C s3 H3 fp ak) tg g)
  (ht:∀cl C s3 H3 fp ak,JC (X.blk scope cl (M0++N) C s3 H3 fp ak) cA ao aj (F aj) (λ_ _ _ _=>False) ifs cond) (he:∀cl C s3 H3 fp ak,JE (X.blk scope cl (M0++N) C s3 H3 fp ak) cA ao aj (F aj) (λ_ _ _ _=>False) elt B)
  (JM:swapsWith (.ListComp elt [⟨tg,iter,ifs,0⟩] scope pos) (some (.Name y py)) spos.line X.env=pure true:=by rfl) (hff:X.fn y=true\/k=.local:=by first|exact .inl rfl|exact .inr rfl) (hs:∀x,foldedSetIterable iter X.env x=pure x:=by intro _;rfl) :
  JS X cA ao aj F EX (.Assign [.Name y py] (.ListComp elt [⟨tg,iter,ifs,0⟩] scope pos) spos) (.asg (.nm i) (.comp fz B dY w fr M0.length cond)):=
 ⟨zjL hc hN tH (En hx hl) (Ep hx hff) (eE.of (Vd▸hB)) hi.o (Gz (yW▸hf)).1 (Gz (yW▸hf)).2 (λa b c d e f=>(hg a b c d e f).o) hT (λi hi=>fj (gY.mp fL i hi)) (λa b c d e f=>(ht a b c d e f).o) (λa b c d e f=>(he a b c d e f).o) JM hs⟩
theorem K7(i j:Nat){k0}(hc:X.aj=true)(dG:aj=true)(hN:X.N.Nodup)(hi:X.N[i]?=some x)(hj:X.N[j]?=some y)(hx:JK X x k)(hy:JK X y k')(Vf:oH k=true)(Vg:oH k'=true)(ha:JE X cA ao aj (F aj) EX a A)
  (yU:X.fn x=true\/k=.local:=by first|exact .inl rfl|exact .inr rfl) (yV:X.fn y=true\/k'=.local:=by first|exact .inl rfl|exact .inr rfl)
  (hs:swapsWithSole [.Tuple [.Name x px,.Name y py] k0 pt] a pos.line X.env=pure false:=by rfl) (hw:swappedStores [.Tuple [.Name x px,.Name y py] k0 pt] a X.env=pure none:=by rfl) (h1:(assignEach [.Tuple [.Name x px,.Name y py] k0 pt] X.env).map (·.2)=[assign (.Tuple [.Name x px,.Name y py] k0 pt) X.env]:=by rfl) :
  JS X cA ao aj F EX (.Assign [.Tuple [.Name x px,.Name y py] k0 pt] a pos) (.asg (.tp [i,j]) A):=⟨zkp hc dG hN hi hj (En hx Vf) (En hy Vg) (Ep hx yU) (Ep hy yV) ha.o hs hw h1⟩
theorem PL(hO:JE X cA ao aj (F aj) EX oo O)(hI:JE X cA ao aj (F aj) EX ii I')(ha:JE X cA ao aj (F aj) EX a A)
  (U7:∀v,assign (.Subscript oo ii p) X.env v=(do
   let obj <-holding [v] (eval oo X.env)
   let at_ <-holding [v,obj] (eval ii X.env)
   standAt p
   holding [v,obj,at_] (setItem obj at_ v)
   release [v,obj,at_] []):=by intro _;rfl) (hs:swapsWithSole [.Subscript oo ii p] a pos.line X.env=pure false:=by rfl) (hw:swappedStores [.Subscript oo ii p] a X.env=pure none:=by rfl)
  (h1:(assignEach [.Subscript oo ii p] X.env).map (·.2)=[assign (.Subscript oo ii p) X.env]:=by rfl):JS X cA ao aj F EX (.Assign [.Subscript oo ii p] a pos) (.asg (.ao O I') A):=⟨zmY hO.o hI.o ha.o U7 hs hw h1⟩
theorem gU(hc:JT X cA ao aj (F aj) EX c C)(ht:JB X cA ao aj F EX body mb)(he:JB X cA ao aj F EX orelse me):JS X cA ao aj F EX (.If c body orelse pos) (.iff C mb me):=⟨zom hc.o ht.o he.o⟩
theorem zfd(hp:JH X)(hc:JT X cA ao aj (F aj) EX c C)(hb:JB X cA ao aj F EX body mb):JS X cA ao aj F EX (.While c body [] pos) (.wh C mb):=⟨zir hp.o hc.o hb.o⟩
theorem Bp(i:Nat)(hN:X.N.Nodup)(hi:X.N[i]?=some x)(hx:JK X x k)(hl:oH k=true)(hf:X.fn x=true\/k=.local:=by first|exact .inl rfl|exact .inr rfl):JG X cA ao aj F EX (.Name x pos) (.nm i):=⟨zjq hN hi (En hx hl) (Ep hx hf)⟩
theorem Vh(i j:Nat){k0}(hc:X.aj=true)(dG:aj=true)(hN:X.N.Nodup)(hi:X.N[i]?=some x)(hj:X.N[j]?=some y)(hx:JK X x k)(hy:JK X y k')(Vf:oH k=true)(Vg:oH k'=true)(yU:X.fn x=true\/k=.local:=by first|exact .inl rfl|exact .inr rfl)(yV:X.fn y=true\/k'=.local:=by first|exact .inl rfl|exact .inr rfl) :
  JG X cA ao aj F EX (.Tuple [.Name x px,.Name y py] k0 pos) (.tp [i,j]):=⟨zj2 hc dG hN hi hj (En hx Vf) (En hy Vg) (Ep hx yU) (Ep hy yV)⟩
theorem vD(hp:JH X)(hc:X.aj=true)(dG:aj=true)(ha:JI X cA ao aj (F aj) EX tg a w)(hg:JG X cA ao aj F EX tg t)(hb:JB X cA ao aj F EX body mb)(hs:∀x,foldedSetIterable a X.env x=pure x:=by intro _;rfl):JS X cA ao aj F EX (.For tg a body [] pos) (.fr t w mb):=
 ⟨zlz hp.o hc dG ha.o hg.o hb.o hs⟩
theorem zji{cc:Nat}{apos:Pos}(hf:cA.f cc=[])(hc:X.aj=true)(dG:aj=true)(hX:mq X.K (cA.a cc) [.type "ValueError",.type "Exception",.type "BaseException",.type "object"] "ValueError.__new__" none=true)(hm:X.mg x=some (.ref (cA.a cc)))(hg:JK X x .globalImplicit)
  (R:JR X EX) (ha:JA X cA ao aj (F aj) EX (e::es) Xs) (hd:okN x=true) (hz:decide (Es.len Xs<=sizeLine)=true:=by rfl) (he:aC e=true:=by rfl) (bU:es.all aC=true:=by rfl) :
  JS X cA ao aj F EX (.Raise (some (.Call (.Name x p) (e::es) [] apos)) none pos) (.rise cc false Xs):=⟨zix hf PySem.F.excBase_ValueError Bd PySem.F.excBase_ValueError hc dG hX hg.o hm R.o ha.o (fj hz) (vg hd).1 (bf he) (aW bU)⟩
theorem zoA(i:Nat)(dG:aj=true)(hex:X.ex=[])(nM:X.stack=X.env::X.outer/\X.env.frame=some X.env.locals)(hg:JK X x .globalImplicit)(hm:X.mg x=some (.ref (cA.a dc)))(hN:X.N.Nodup)(hi:X.N[i]?=some n)(hl:JK X n .local)
  (hsub:∀c,ao c dc=true->subIn X.K (cA.a c) (cA.a dc)=true)
  (hb:∀(pn:List (Addr×Obj)) (E':Value->Shared->Prop) (tG:XS),JR (X.seen X.A X.aj pn E') tG->JH (X.seen X.A X.aj pn E')->JB (X.seen X.A X.aj pn E') cA ao aj F tG body mb)
  (hh:∀e:Value,JB (X.seen (X.A.mark (some e)) false X.pn (λ_ _=>False)) cA ao false F (λ_ _ _ _=>False) (b₀::suite) mh) (hd:okN x=true) :
  JS X cA ao aj F EX (.Try body [.ExceptHandler (some (.Name x np)) (some n) (b₀::suite) rK] [] [] pos) (.rN mb dc i mh):=
 ⟨zmo dG hex nM hg.o hm hN hi hl.o hsub (λpn E' tG R H=>(hb pn E' tG ⟨R⟩ ⟨H⟩).o) (λe=>(hh e).o) (vg hd).1⟩
end
theorem znp{P:Program}{w:World}{K:W.Frag}{mg:Str->Option Value}{base:Heap}{cA:Cl}{ao:Nat->Nat->Bool}{T:Nat->Option Df}{x qual:Str}{st:Stmt}{f:Addr}{fd:FuncData}{N ps:List Str}{k n:Nat}{cm:Bool}{df:Df}(F:u_ K x qual st f fd)(S:gF N ps (aA st))(hT:T n=some df)(hp:df.iY=ps.length)(hm:df.many=N.length)
  (hb:∀(cdv:Value) (A:Around) (outer:List Env) (s:Shared) (H:Hp) (E:XK),cC k (A.deeper (envOfC qual (aA st) s.heap.objs.size f cdv))->
   JB (jq (lq P w) P w K mg base N qual (aA st) f cdv A outer s H E cm) cA ao cm (λc=>call ao T k c) (λ_ C dx H'=>E C dx H') (aV st) df.body) :
  fU P w K mg base (lq P w) cm (k+1) f fd ps (tQ K cA (call ao T (k+1) cm n)):=zl7 F S hT hp hm λcdv A outer s H E hr=>(hb cdv A outer s H E hr).o
end Mi
namespace Mi
open PySem PySem.Spec PyProof.Rows L2 PySem.W
theorem znJ{fd:FuncData}{x:Str}{st:Stmt}(h:sX fd=wj x st):fd=fnOf x x (bC st) (aV st) (aA st) .none fd.kwdefaults fd.doc fd.pyModule fd.annotations fd.code fd.closureTuple:=by
 cases fd;unfold sX wj at h;cases h;rfl
noncomputable def jG(K:Frag)(x:Str):Addr:=match Cp K x with
 |some p=>p.1|none=>0
noncomputable def fdOf(K:Frag)(x:Str)(st:Stmt):FuncData:=match Cp K x with
 |some p=>p.2|none=>wj x st
structure FnAt(K:Frag)(x:Str)(st:Stmt):Prop where
 ns:nsIn K mainGlobals x=some (some (.ref (jG K x)))
 fn:u_ K x x st (jG K x) (fdOf K x st)
theorem zox{K:Frag}{x:Str}{st:Stmt}(h:(Cp K x).map (λp=>sX p.2)=some (wj x st)):FnAt K x st:=by
 cases e:Cp K x with
 |none=>rw[e]at h;cases h|some p=>
  rw[e]at h;let hp:sX p.2=wj x st:=dM h;let h1:jG K x=p.1:=by unfold jG;rw[e]
  let h2:fdOf K x st=p.2:=by unfold fdOf;rw[e]
  unfold Cp at e;split at e
  .rename_i f hf;split at e
   .rename_i oc od fd sl hl;split at e
    .rename_i hc;cases e;rw[dZ]at hc;show⟨by rw[h1];show hf,?_⟩;rw[h1,h2];show⟨⟨oc,od,_,_,_,_,_,_,sl,znJ hp,hl,hc.1⟩,hc.2⟩
    .cases e
   .cases e
  .cases e
theorem FnAt.m{K:Frag}{x:Str}{st:Stmt}(F:FnAt K x st){h:Heap}{mg:Str->Option Value}(X:K.In h)(G:h.Ns mainGlobals mg):mg x=some (.ref (jG K x)):=mg_of X G F.ns
theorem tW{K:Frag}{x:Str}(h:xV K x=true){hp:Heap}{mg:Str->Option Value}(X:K.In hp)(G:hp.Ns mainGlobals mg):mg x=some (.ref (Cq K x)):=by
 show mg_of X G ?_;unfold xV at h;unfold Cq;split at h
 .rename_i C e;rw[e]
 .cases h
theorem zjh{K:Frag}{x:Str}{i:Int}(h:mz K (x,i)=true){hp:Heap}{mg:Str->Option Value}(X:K.In hp)(G:hp.Ns mainGlobals mg):∃t,mg x=some (.int i t):=by
 unfold mz at h;split at h
 .rename_i j t e;rw[kI]at h;subst h;show⟨t,mg_of X G e⟩
 .cases h
theorem m7{K:Frag}{x:Str}(h:qy K x=true){hp:Heap}{mg:Str->Option Value}(X:K.In hp)(G:hp.Ns mainGlobals mg):mg x=none:=by
 show mg_none_of X G ?_;unfold qy at h;split at h
 .rename_i e;show e
 .cases h
structure Bq(l:Lk)(K:Frag):Prop where
 cl:∀x∈l.Ia,xV K x=true
 cs:l.Ia.isEmpty=true\/qx K (l.L K)=true
 ra:∀k∈l.YZ,H_ K (eU (l.L K) k)=true
 ca:∀k∈l.Y0,subB K (l.L K) k=true
 it:∀p∈l.Cr,mz K p=true
 no:∀x∈l.YX,qy K x=true
 st:∀p∈l.Y4,ux K p=true
theorem Kab{l:Lk}{K:Frag}(h:l.good K=true):Bq l K:=by
 unfold Lk.good at h;simp only[dZ,Hy,gY]at h;let⟨⟨⟨⟨⟨⟨h1,h2⟩,h3⟩,h4⟩,h5⟩,h6⟩,h7⟩:=h;show⟨h1,h2,h3,h4,h5,h6,h7⟩
theorem zj{K:Frag}{x:Str}{st:Stmt}{f:Addr}{fd:FuncData}{p:Str}(F:u_ K x x st f fd)(h:∀(kV doc pm:Value) (an:Option Addr) (cdv ct a:Value),bindArgs (fnOf x x (bC st) (aV st) (aA st) .none kV doc pm an cdv ct) ⟨[a],[]⟩=pure [(p,a)]):Binds K fd [p] []:=by
 let⟨oc,od,kV,doc,pm,an,cdv,ct,osl,rfl,lk,nJ⟩:=F.ex;show Ef (h kV doc pm an cdv ct)
theorem zm{K:Frag}{x:Str}{st:Stmt}{f:Addr}{fd:FuncData}{p q:Str}(F:u_ K x x st f fd)(h:∀(kV doc pm:Value) (an:Option Addr) (cdv ct a b:Value),bindArgs (fnOf x x (bC st) (aV st) (aA st) .none kV doc pm an cdv ct) ⟨[a,b],[]⟩=pure [(p,a),(q,b)]):Binds K fd [p,q] []:=by
 let⟨oc,od,kV,doc,pm,an,cdv,ct,osl,rfl,lk,nJ⟩:=F.ex;show Eh (h kV doc pm an cdv ct)
theorem zu{K:Frag}{x:Str}{st:Stmt}{f:Addr}{fd:FuncData}{p q t:Str}(F:u_ K x x st f fd)(h:∀(kV doc pm:Value) (an:Option Addr) (cdv ct a b c:Value),bindArgs (fnOf x x (bC st) (aV st) (aA st) .none kV doc pm an cdv ct) ⟨[a,b,c],[]⟩=pure [(p,a),(q,b),(t,c)]):Binds K fd [p,q,t] []:=by
 let⟨oc,od,kV,doc,pm,an,cdv,ct,osl,rfl,lk,nJ⟩:=F.ex;show Ej (h kV doc pm an cdv ct)
theorem zx{K:Frag}{x:Str}{st:Stmt}{f:Addr}{fd:FuncData}{p q t u:Str}(F:u_ K x x st f fd)(h:∀(kV doc pm:Value) (an:Option Addr) (cdv ct a b c d:Value),bindArgs (fnOf x x (bC st) (aV st) (aA st) .none kV doc pm an cdv ct) ⟨[a,b,c,d],[]⟩=pure [(p,a),(q,b),(t,c),(u,d)]):Binds K fd [p,q,t,u] []:=by
 let⟨oc,od,kV,doc,pm,an,cdv,ct,osl,rfl,lk,nJ⟩:=F.ex;show Ek (h kV doc pm an cdv ct)
theorem Et{K:Frag}{x:Str}{st:Stmt}{f:Addr}{fd:FuncData}{p:Str}(F:u_ K x x st f fd)(h:∀(kV doc pm:Value) (an:Option Addr) (cdv ct a:Value),bindArgs (fnOf x x (bC st) (aV st) (aA st) .none kV doc pm an cdv ct) ⟨[a],[]⟩=pure [(p,a)]):∀(s:Shared) (u:Value),BindsTo s fd ⟨[u],[]⟩ [(p,u)]:=by
 let⟨oc,od,kV,doc,pm,an,cdv,ct,osl,rfl,lk,nJ⟩:=F.ex;show λs u=>.of_eq (h kV doc pm an cdv ct u)
end Mi
namespace Mi
open PySem PySem.Spec PyProof.Rows L2
section
variable {K:W.Frag}{cA:Cl}{U:Ph}{H:Hp}
theorem aD.K8(r:aD K cA U H xs ys):∀l:List Nat,aD K cA U H (l.map λi=>xs.getD i .non) (l.map λi=>ys.getD i .non)
 |[]=>.nil|i::l=>by
  show .cons ?_ (aD.K8 r l);change Rep K cA U H (xs.getD i .non) (ys.getD i .non);cases e:xs[i]? with
  |some x=>
   let⟨u,e1,e2⟩:=r.get e;rw[gJ,gJ,e,e1];show e2
  |none=>
   let e1:ys[i]?=Option.none:=r.none e;rw[gJ,gJ,e,e1];show .non
theorem aD.mem(r:aD K cA U H xs ys):∀v∈ys,∃d∈xs,Rep K cA U H d v:=by
 intro v hv;let⟨i,hi,e⟩:=Hv hv;let e':ys[i]?=some v:=by rw[dW hi,e]
 cases ex:xs[i]? with
 |none=>rw[r.none ex]at e';cases e'|some d=>
  let⟨u,e1,e2⟩:=r.get ex;rw[e1]at e';cases e';show⟨d,iH ex,e2⟩
theorem zgN:∀{us ws:List D} {xs ys:List V},aD K cA U H us xs->aD K cA U H ws ys->∀{b:Bool},lB us ws=some b->lu xs ys=some b
 |[],ws,_,ys,r1,r2,b,h=>by
  cases r1;unfold lB at h;unfold lu;rw[<-r2.len];show h
 |_::_,[],_,_,r1,r2,b,h=>by
  cases r2;cases r1;unfold lB at h;unfold lu;show h
 |x::us,y::ws,_,_,r1,r2,b,h=>by
  cases r1 with
  |cons a1 b1=>
   cases r2 with
   |cons a2 b2=>
    unfold lB at h;split at h
    .rename_i z;cases z
    .rename_i z;cases z
    .rename_i p ps q qs e1 e2;cases e1;cases e2;cases a1;cases a2;unfold lu;by_cases e:p=q
     .rw[if_pos e]at h ⊢;show zgN b1 b2 h
     .rw[if_neg e]at h ⊢;show h
    .cases h
theorem zic(r:aD K cA U H xs ys)(h:(xs.all jt||xs.all iz)=true):uN K H ys (uQ xs):=by
 rw[Hy]at h;rcases h with h|h
 .left
  rw[gY]at h;show⟨λv hv=>?_,λi j b e=>?_⟩
  .obtain⟨d,hd,q⟩:=r.mem v hv;let:=h d hd;cases q<;>first|exact⟨_,rfl⟩|cases this
  .unfold uQ at e;cases e1:xs[i]? with
   |none=>rw[e1]at e;cases e|some d1=>
    cases e2:xs[j]? with
    |none=>rw[e1,e2]at e;cases d1<;>cases e|some d2=>
     let h1:=h d1 (iH e1);let h2:=h d2 (iH e2);rw[e1,e2]at e;let⟨v1,a1,b1⟩:=r.get e1;let⟨v2,a2,b2⟩:=r.get e2;cases d1<;>first|cases h1|skip
     cases d2<;>first|cases h2|skip
     cases b1;cases b2;cases e;show⟨_,_,a1,a2,rfl⟩
 .right
  rw[gY]at h;show⟨λv hv=>?_,λi j b e=>?_⟩
  .obtain⟨d,hd,q⟩:=r.mem v hv;let:=h d hd;unfold iz at this;split at this
   .cases q with
    |tup t r'=>
     cases r' with
     |cons a1 b1=>
      cases a1;show⟨_,_,_,rfl,t.jw⟩
   .cases this
  .unfold uQ at e;cases e1:xs[i]? with
   |none=>rw[e1]at e;cases e|some d1=>
    cases e2:xs[j]? with
    |none=>rw[e1,e2]at e;cases d1<;>cases e|some d2=>
     let h1:=h d1 (iH e1);let h2:=h d2 (iH e2);rw[e1,e2]at e;let⟨v1,a1,b1⟩:=r.get e1;let⟨v2,a2,b2⟩:=r.get e2;unfold iz at h1 h2;split at h1
     .split at h2
      .cases b1 with
       |tup t1 r1=>
        cases b2 with
        |tup t2 r2=>show⟨_,_,_,_,a1,a2,t1.jw,t2.jw,zgN r1 r2 e⟩
      .cases h2
     .cases h1
theorem zg8:bA K cA .sorted (λxs H Q=>∃l ys lt p,xs=[.ref l]/\cY K H l ys/\ys.length<64/\(2<=ys.length->uN K H ys lt/\bM lt (PySem.W.kas_sort ys.length)=some p/\p.size=ys.length)/\∀r,H r=none->Q (.ref r) (upd H r (.lst (lA ys p)))):=by
 intro U H ds vs Q zt rs o;let o:aX K cA U H (mU ds) Q:=o;unfold mU at o;split at o
 .rename_i xs _;let⟨v,rfl,r1⟩:=rs.one;let⟨z,e⟩:=o.some';let⟨zs,e1,e2⟩:=je.mp e;subst e2;obtain⟨a,us,rfl,sq,q⟩ : ∃a us,v=.ref a/\cY K H a us/\aD K cA U H xs us:=r1;let hl:=q.len;unfold uR at e1;by_cases hk:(xs.all jt||xs.all iz)=true
  .rw[if_pos hk]at e1;unfold oA at e1;by_cases h2:xs.length<2
   .rw[if_pos h2]at e1;cases e1;show⟨a,us,λ_ _=>none,#[],rfl,sq,by lia,λz=>absurd z gV,λr hr=>?_⟩;let:lA us #[]=us:=by unfold lA;rw[if_pos gV]
    rw[this];show(o.of e) r us hr q
   .rw[if_neg h2]at e1;by_cases uM:xs.length<64
    .rw[if_pos uM]at e1;cases ek:bM (uQ xs) (PySem.W.kas_sort xs.length) with
     |none=>rw[ek]at e1;cases e1|some p=>
      rw[ek]at e1;dsimp only at e1;by_cases hp:p.size=xs.length
      .rw[if_pos hp]at e1;cases e1;show⟨a,us,uQ xs,p,rfl,sq,by lia,λ_=>⟨zic q hk,by rw[<-hl];show ek,by lia⟩,λr hr=>?_⟩;let:lA us p=p.toList.map λi=>us.getD i .non:=by unfold lA;rw[if_neg gV]
       rw[this];show(o.of e) r _ hr (q.K8 p.toList)
      .rw[if_neg hp]at e1;cases e1
    .rw[if_neg uM]at e1;cases e1
  .rw[if_neg hk]at e1;cases e1
 .exact o.elim
end
section
variable {X:Cx}{cA:Cl}{ao:Nat->Nat->Bool}{aj:Bool}{F:Fn}{EX:XS}{e:Expr}{pos p:Pos}{es:List Expr}{Xs:Es}{fz:Bool}
theorem zd0:bootBuiltins "sorted"=some (.builtin "sorted"):=by decide +kernel
theorem zek(hm:X.mg "sorted"=none)(hg:JK X "sorted" .globalImplicit)(ha:JA X cA ao aj F EX (e::es) Xs)(he:aC e=true:=by rfl)(bU:es.all aC=true:=by rfl):JE X cA ao aj F EX (.Call (.Name "sorted" p) (e::es) [] pos) (.pr fz .sorted Xs):=⟨wI zdO zg8 hg.o hm zd0 ha.o J0 J0 (bf he) (aW bU)⟩
end
section
variable {K:W.Frag}{cA:Cl}{U:Ph}{H:Hp}
theorem PN:∀{xs:List D} {k i:Nat},(enumFrom k xs)[i]?=(xs[i]?).map λd=>.tup [.int ((k+i:Nat):Int),d]
 |[],k,i=>by simp[enumFrom]|x::r,k,0=>by simp[enumFrom]|x::r,k,i+1=>by
  unfold enumFrom;rw[Hq,Hq,PN]
  congr 1
  funext d
  rw[show k+1+i=k+(i+1) by lia]
noncomputable def rY(K:W.Frag)(U:Ph)(H:Hp):Bool->Addr->List V->Prop
 |true,a,vs=>LstAt K U H a vs|false,a,vs=>TupAt K U H a vs
theorem rY.sk{kd:Bool}{a:Addr}{vs:List V}(h:rY K U H kd a vs):Sk kd K H a vs:=by
 cases kd
 .exact TupAt.jw h
 .exact LstAt.tL h
theorem rY.later{U':Ph}{H₁ H':Hp}{kd:Bool}{a:Addr}{vs:List V}(hz:∀a∈U.l,U.z a)(h:rY K U H kd a vs)(x:Ext U H U' H₁)(o:fB U' H₁ H'):rY K U' H' kd a vs:=by
 cases kd
 .exact TupAt.later hz h x o
 .exact LstAt.later hz h x o
theorem jN.enum{kd:Bool}{l:Addr}{xs:List D}{vs:List V}(hz:∀a∈U.l,U.z a)(h:rY K U H kd l vs)(r:aD K cA U H xs vs):jN K cA (.fix (enumFrom 0 xs)) U H (Ite K kd l):=by
 show⟨λU' H₁ H' s' i x o hS e=>⟨vs,(h.later hz x o).sk,?_⟩,λU' H₁ H' s' i d x o hS e=>?_,λU' H₁ H' s' i d v H2 x o hS e y=>?_⟩
 .let e:(enumFrom 0 xs)[i]?=none:=dM e;rw[PN,Option.map_eq_none_iff]at e;show oU.mp ((r.mono x hz).none e)
 .let e:(enumFrom 0 xs)[i]?=some d:=dM e;rw[PN]at e;let⟨d',e',_⟩:=je.mp e;let⟨v,q,_⟩:=r.get e';show⟨vs,v,(h.later hz x o).sk,q⟩
 .let e:(enumFrom 0 xs)[i]?=some d:=dM e;rw[PN]at e;let⟨d',e',rfl⟩:=je.mp e;let⟨a,u,hn,rfl,rfl,hu⟩:=y;let⟨w,q,mL⟩:=((r.mono x hz).out o).get e';let:=hu vs (h.later hz x o).sk;rw[q]at this;cases this;let g:bx H' (upd H' a (.tup [.int i,u])):=bx.new hn;show⟨g,?_⟩;rw[show ((0+i:Nat):Int)=(i:Int) by simp];show .tup (.inl ⟨.inl jK,hS.nz hn⟩) (.cons (.int _) (.cons (mL.mono g.ext hS.lz) .nil))
theorem Vi(h:(Src.lO n).at i s=some o):∃xs,s[n]?=some (.lst xs)/\(xs[i]?.map λx=>D.tup [.int i,x])=o:=by
 unfold Src.at at h;dsimp only at h;cases e:s[n]? with
 |none=>rw[e]at h;cases h|some ob=>
  rw[e]at h;cases ob with
  |lst xs=>show⟨xs,rfl,dM h⟩|_=>cases h
theorem jN.lO{a:Addr}{n:Nat}(h:U.l[n]?=some a):jN K cA (.lO n) U H (Ite K true a):=by
 show⟨λU' H₁ H' s' i x o hS e=>?_,λU' H₁ H' s' i d x o hS e=>?_,λU' H₁ H' s' i d v H2 x o hS e y=>?_⟩
 .obtain⟨xs,e1,e2⟩:=Vi e;rw[Option.map_eq_none_iff]at e2;let⟨vs,q1,q2⟩:=hS.obj n _ a e1 (x.get h);show⟨vs,cY.of q1,oU.mp (q2.none e2)⟩
 .obtain⟨xs,e1,e2⟩:=Vi e;let⟨d',e',_⟩:=je.mp e2;let⟨vs,q1,q2⟩:=hS.obj n _ a e1 (x.get h);let⟨v,q3,_⟩:=q2.get e';show⟨vs,v,cY.of q1,q3⟩
 .obtain⟨xs,e1,e2⟩:=Vi e;let⟨d',e',rfl⟩:=je.mp e2;let⟨vs,q1,q2⟩:=hS.obj n _ a e1 (x.get h);let⟨w,q3,mL⟩:=q2.get e';let⟨b,u,hn,rfl,rfl,hu⟩:=y;let:=hu vs (cY.of q1);rw[q3]at this;cases this;let g:bx H' (upd H' b (.tup [.int i,w])):=bx.new hn;show⟨g,.tup (.inl ⟨.inl jK,hS.nz hn⟩) (.cons (.int _) (.cons (mL.mono g.ext hS.lz) .nil))⟩
end
section
variable {X:Cx}{cA:Cl}{ao:Nat->Nat->Bool}{aj:Bool}{F:Fn}{EX:XS}{a b:Expr}{A B:E}{pos pp tpos:Pos}{elts:List Expr}{kk:Nat}
theorem zkr(qd:Gl X "enumerate")(hmg:X.mg "enumerate"=none)(hb:SE X cA ao aj F EX b B)(h2:starEach [b] X.env=(false,eval b X.env)::starEach [] X.env) :
  SI X cA ao aj F EX (.Tuple elts kk tpos) (.Call (.Name "enumerate" pp) [b] [] pos) (.enum B):=PI.weak (zjt qd hmg (wA hb CV h2) (by rw[h2];rfl)) λZ H R hh=>un hh λU J s hL hS h=>by
 show bO hL hS h λy H2 U2 d2 s2 x2 hL2 hS2 r2 h2=>?_;cases r2 with
 |@l n ad hl=>
  unfold Run qM at h2;dsimp only at h2;cases e:s2[n]? with
  |none=>rw[e]at h2;show h2.elim|some o=>
   rw[e]at h2;cases o with
   |lst xs=>
    let⟨vs,q1,q2⟩:=hS2.obj n _ _ e hl;show⟨true,_,_,rfl,cY.of q1,h2 U2 H2 Ext.refl hS2 _ (jN.lO hl)⟩
   |_=>show h2.elim
 |d r2=>
  cases r2 with
  |fl q r=>show⟨true,_,_,rfl,q.tL,h2 U2 H2 Ext.refl hS2 _ (jN.enum (kd:=true) hS2.lz q r)⟩|tup q r=>show⟨false,_,_,rfl,q.jw,h2 U2 H2 Ext.refl hS2 _ (jN.enum (kd:=false) hS2.lz q r)⟩|_=>show h2.elim
end
section
variable {X:Cx}{cA:Cl}{ao:Nat->Nat->Bool}{aj:Bool}{F:Fn}{EX:XS}{a b:Expr}{A B:E}{pos p tpos:Pos}{elts:List Expr}{kk:Nat}
theorem zne(hmg:X.mg "enumerate"=none)(qd:JK X "enumerate" .globalImplicit)(hb:JE X cA ao aj F EX b B)(h2:aC b=true:=by rfl):JI X cA ao aj F EX (.Tuple elts kk tpos) (.Call (.Name "enumerate" p) [b] [] pos) (.enum B):=⟨zkr qd.o hmg hb.o (bf h2)⟩
end
end Mi
namespace Mi
open PySem PySem.Spec PyProof.Rows L2 PySem.W
theorem zjI{fd:FuncData}{q:Str}{st:Stmt}(h:sX fd=Cu q st):fd=fnOf "__init__" q (bC st) (aV st) (aA st) .none fd.kwdefaults fd.doc fd.pyModule fd.annotations fd.code fd.closureTuple:=by
 cases fd;unfold sX Cu at h;cases h;rfl
structure K9(K:Frag)(C:Addr)(q:Str)(st:Stmt):Prop where
 ex:∃(fI:Addr) (od:Option Addr) (kV doc pm:Value) (an:Option Addr) (cdv ct:Value) (osl:Array (Option Value)) (cd:ClassData),
  K.lookup fI=some ⟨.type "function",od,.func (fnOf "__init__" q (bC st) (aV st) (aA st) .none kV doc pm an cdv ct),osl⟩/\codeIn K cdv q=true/\uw K C fI=true/\clsIn K C=some cd/\ur cd.mro=true/\cd.hasDict=true
theorem zoC{K:Frag}{C:Addr}{q:Str}{st:Stmt}(h:(Ib K C).map sX=some (Cu q st)):K9 K C q st:=by
 cases e:Ib K C with
 |none=>rw[e]at h;cases h|some fd=>
  rw[e]at h;let hp:sX fd=Cu q st:=dM h;unfold Ib at e;split at e
  .rename_i cd nJ;split at e
   .rename_i f hf;split at e
    .rename_i od fd' sl hl;split at e
     .rename_i hc;cases e;simp only[dZ]at hc;let⟨⟨⟨c1,c2⟩,c3⟩,c4⟩:=hc;let eq:=zjI hp;let qn:fd.qualname=q:=by rw[eq]
      show⟨⟨f,od,fd.kwdefaults,fd.doc,fd.pyModule,fd.annotations,fd.code,fd.closureTuple,sl,cd,?_,by rw[<-qn];show c1,c2,nJ,c3,c4⟩⟩;rw[<-eq];show hl
     .cases e
    .cases e
   .cases e
  .cases e
theorem zos{K:Frag}{C:Addr}{f:Str}(h:Og K C f=true):XF K C f:=by
 unfold Og at h;simp only[dZ,xT]at h;let⟨⟨⟨⟨h1,h2⟩,h3⟩,h4⟩,h5⟩:=h;show⟨h1,h2,h3,h4,h5⟩
structure iZ(fs:List (Str×Stmt))(ms:List xW)(xs:List (Nat×Str))(l:Lk)(K:Frag):Prop where
 fn:∀p∈fs,FnAt K p.1 p.2
 gd:Bq l K
 mi:∀m∈ms,K9 K (eU (l.L K) m.c) m.q m.st
 se:∀m∈ms,setB K (eU (l.L K) m.c) m.fs=true
 xf:∀x∈xs,XF K (eU (l.L K) x.1) x.2
theorem Vj{a:Nat}{o:Obj}:∀{l:List Obj} {i:Nat},((a:Addr),o)∈Ie i l->i<=a/\l[a-i]?=some o/\o.isFreed=false
 |[],i,h=>by cases h|p::r,i,h=>by
  unfold Ie at h;split at h
  .obtain⟨h1,h2,h3⟩:=Vj h;show⟨by lia,?_,h3⟩;rw[show a-i=(a-(i+1))+1 by lia];show h2
  .rename_i hf;rcases cX.mp h with e|h
   .cases e;show⟨bQ _,by simp,hf⟩
   .obtain⟨h1,h2,h3⟩:=Vj h;show⟨by lia,?_,h3⟩;rw[show a-i=(a-(i+1))+1 by lia];show h2
theorem zcy:∀{K:Frag},K.lookup a=some o->(a,o)∈K
 |[],h=>by cases h|(b,p)::r,h=>by
  rw[rD]at h;by_cases e:a=b
  .subst e;simp only[ug]at h;cases h;show jH
  .rw[show (a==b)=false by simpa using e]at h;show fZ _ (zcy h)
theorem zh5:(cB h).In h:=λa o e=>by
 let hm:=zcy e;unfold cB at hm;rcases dw.mp hm with z|z
 .unfold qz at z;split at z
  .rename_i p hp;rcases cX.mp z with e|z
   .cases e;show hp
   .cases z
  .cases z
 .obtain⟨_,h2,h3⟩:=Vj (List.mem_reverse.mp z);rw[Heap.get?_some_iff];show⟨?_,h3⟩;let:h.objs.toList[a]?=some o:=by simpa using h2
  simpa using this
noncomputable def lW(fs:List (Str×Stmt))(ms:List xW)(xs:List (Nat×Str))(l:Lk):Hook where
 α:=List (Option FuncData)×List (Option FuncData)×Bool
 obs:=rF fs ms xs l
 val:=uy fs ms
 says:=λ_ h=>∃K:Frag,K.In h/\iZ fs ms xs l K
 of:=λw s e=>by
  let e3:(_&&_&&_)=true:=pI (λx=>x.2.2) e;rw[dZ,dZ,gY,gY]at e3;show⟨cB s.heap,zh5,⟨λp hp=>?_,Kab e3.1.1,λm hm=>?_,e3.1.2,λx hx=>zos (e3.2 x hx)⟩⟩
  .let e1:=pI Prod.fst e;show zox (List.map_inj_left.mp e1 p hp)
  .let e1:=pI (λx=>x.2.1) e;show zoC (List.map_inj_left.mp e1 m hm)
 keeps:=λw h h' ⟨K,X,Y⟩ k=>⟨K,X.keeps k,Y⟩
theorem K_{l:OpenLaw}{k:Nat}{q:Program}{loose:List Str}{XP:(Str->Option Value)->Heap->Prop}{fs:List (Str×Stmt)}{ms:List xW}{xs:List (Nat×Str)}{lk:Lk}{d:DefRec}{x:Str}(hn:l.most=some 63)(SJ:d.params.defaults=[])(hr:cC k callerA)
  (F:∀(w:World) (K:Frag) (mg:Str->Option Value) (fa:Addr) (h:Heap),iZ fs ms xs lk K->K.In h->h.Ns mainGlobals mg->mg d.name=some (.ref fa)->
   ∃fd:FuncData,(∀(s:Shared) (u:Value),BindsTo s fd ⟨[u],[]⟩ [(x,u)])/\∀base:Heap,K.In base->base.Ns mainGlobals mg->fU l.prog w K mg base (lq l.prog w) true k fa fd [x] (vh K)) :
  WalkO q loose XP (lW fs ms xs lk).says l.row.toRowW d [] (λf vs=>PySem.call f vs):=by
 show ZK.n_ hn SJ λw s₀ s₁ mg mb fa o pm cd doc a vs ns G Y ho hd nJ hmg Dh hints hlen hg=>?_;let⟨K,KX,SY⟩:=Y;let⟨fd,hb,hF⟩:=F w K mg fa _ SY KX G.T.g hmg;show zhK KX G.T.g G.T.b G.T.builtins G.T.nolimit hg Dh hints (jf hlen J0) hr hF hb (λH hO hS=>⟨a,ns,rfl,hS,hlen,hO,λ_=>rfl⟩) λH e s' h=>by
  let⟨_,_,_,_,_,_,_,_,_,_,z⟩:=h;show z
end Mi
namespace Mi
open PySem PySem.Spec PyProof.Rows L2
section
variable {K:W.Frag}{cA:Cl}{U:Ph}{H:Hp}
noncomputable def jB(K:W.Frag)(U:Ph)(H:Hp):Bool->Addr->List V->Prop
 |true,a,vs=>LstAt K U H a vs|false,a,vs=>TupAt K U H a vs
theorem jB.sk{kd:Bool}{a:Addr}{vs:List V}(h:jB K U H kd a vs):Sk kd K H a vs:=by
 cases kd
 .exact TupAt.jw h
 .exact LstAt.tL h
theorem jB.later{kd:Bool}{a:Addr}{vs:List V}{U':Ph}{H₁ H':Hp}(hz:∀a∈U.l,U.z a)(h:jB K U H kd a vs)(x:Ext U H U' H₁)(o:fB U' H₁ H'):jB K U' H' kd a vs:=by
 cases kd
 .exact TupAt.later hz h x o
 .exact LstAt.later hz h x o
theorem Vk{xs ys:List D}{i:Nat}:(List.zipWith (λp q=>D.tup [p,q]) xs ys)[i]?=match xs[i]?,ys[i]? with
  |some p,some q=>some (.tup [p,q])|_,_=>none:=by
 rw[List.getElem?_zipWith];cases xs[i]?<;>cases ys[i]?<;>rfl
theorem jN.zip{k1 k2:Bool}{l1 l2:Addr}{xs ys:List D}{us vs:List V}(hz:∀a∈U.l,U.z a)(h1:jB K U H k1 l1 us)(h2:jB K U H k2 l2 vs)(r1:aD K cA U H xs us)(r2:aD K cA U H ys vs):jN K cA (.fix (List.zipWith (λp q=>D.tup [p,q]) xs ys)) U H (Tv K k1 k2 l1 l2):=by
 show⟨λU' H₁ H' s' i x o hS e=>?_,λU' H₁ H' s' i d x o hS e=>?_,λU' H₁ H' s' i d v H2 x o hS e y=>?_⟩
 .let e:(List.zipWith (λp q=>D.tup [p,q]) xs ys)[i]?=none:=dM e;rw[Vk]at e;show⟨us,vs,(h1.later hz x o).sk,(h2.later hz x o).sk,?_⟩;cases ex:xs[i]? with
  |none=>show .inl (oU.mp (r1.none ex))|some p=>
   cases ey:ys[i]? with
   |none=>show .inr (oU.mp (r2.none ey))|some q=>rw[ex,ey]at e;cases e
 .let e:(List.zipWith (λp q=>D.tup [p,q]) xs ys)[i]?=some d:=dM e;rw[Vk]at e;cases ex:xs[i]? with
  |none=>rw[ex]at e;cases e|some p=>
   cases ey:ys[i]? with
   |none=>rw[ex,ey]at e;cases e|some q=>
    let⟨u,q1,_⟩:=r1.get ex;let⟨v,q2,_⟩:=r2.get ey;show⟨us,vs,u,v,(h1.later hz x o).sk,(h2.later hz x o).sk,q1,q2⟩
 .let e:(List.zipWith (λp q=>D.tup [p,q]) xs ys)[i]?=some d:=dM e;rw[Vk]at e;cases ex:xs[i]? with
  |none=>rw[ex]at e;cases e|some p=>
   cases ey:ys[i]? with
   |none=>rw[ex,ey]at e;cases e|some q=>
    rw[ex,ey]at e;cases e;let⟨a,u,w,hn,rfl,rfl,hu,hw⟩:=y;let⟨u',q1,ru⟩:=((r1.mono x hz).out o).get ex;let⟨w',q2,mL⟩:=((r2.mono x hz).out o).get ey;let e1:=hu us (h1.later hz x o).sk;let e2:=hw vs (h2.later hz x o).sk;rw[q1]at e1;rw[q2]at e2;cases e1;cases e2;let g:bx H' (upd H' a (.tup [u,w])):=bx.new hn;show⟨g,.tup (.inl ⟨.inl jK,hS.nz hn⟩) (.cons (ru.mono g.ext hS.lz) (.cons (mL.mono g.ext hS.lz) .nil))⟩
theorem zew(r:bJ K cA U H x v)(h:Run K cA (M.bd (pY x) k) U H s P Ee) :
  ∃xs kd a vs,v=.ref a/\jB K U H kd a vs/\aD K cA U H xs vs/\Run K cA (k xs) U H s P Ee:=by
 cases r with
 |l _=>show h.elim|d r=>
  cases r with
  |tup q r=>show⟨_,false,_,_,rfl,q,r,h⟩|fl q r=>show⟨_,true,_,_,rfl,q,r,h⟩|_=>show h.elim
end
section
variable {X:Cx}{cA:Cl}{ao:Nat->Nat->Bool}{aj:Bool}{F:Fn}{EX:XS}{a b:Expr}{A B:E}{pos pp tpos:Pos}{elts:List Expr}{kk:Nat}
theorem zm3(qd:Gl X "zip")(hmg:X.mg "zip"=none)(ha:SE X cA ao aj F EX a A)(hb:SE X cA ao aj F EX b B)(h1:starEach [a,b] X.env=(false,eval a X.env)::starEach [b] X.env)(h2:starEach [b] X.env=(false,eval b X.env)::starEach [] X.env) :
  SI X cA ao aj F EX (.Tuple elts kk tpos) (.Call (.Name "zip" pp) [a,b] [] pos) (.zip A B):=PI.weak (znl qd hmg (wA ha (wA hb CV h2) h1) (by rw[h1,h2];rfl) (by rw[h2];rfl)) λZ H R hh=>un hh λU J s hL hS h=>by
 show bO hL hS h λx H1 U1 d1 s1 x1 hL1 aL r1 h1=>bO hL1 aL h1 λy H2 U2 d2 s2 x2 hL2 hS2 r2 h2=>?_;let⟨xs,k1,l1,us,e1,q1,p1,h3⟩:=zew (r1.mono x2 aL.lz) h2;let⟨ys,k2,l2,vs,e2,q2,p2,h4⟩:=zew r2 h3;subst e1 e2;show⟨k1,k2,l1,l2,us,vs,rfl,q1.sk,q2.sk,(h4.bY hS2) _ (jN.zip hS2.lz q1 q2 p1 p2)⟩
theorem Vl(hmg:X.mg "zip"=none)(qd:JK X "zip" .globalImplicit)(ha:JE X cA ao aj F EX a A)(hb:JE X cA ao aj F EX b B)(h1:aC a=true:=by rfl)(h2:aC b=true:=by rfl):JI X cA ao aj F EX (.Tuple elts kk tpos) (.Call (.Name "zip" p) [a,b] [] pos) (.zip A B):=⟨zm3 qd.o hmg ha.o hb.o (bf h1) (bf h2)⟩
end
theorem zgT:∀k,k<=is.length->(i::is).getD (argBest (λa b=>bt ((i::is).getD a 0) ((i::is).getD b 0)) k) 0=best bt i (is.take k)
 |0,_=>rfl|k+1,hk=>by
  let ih:=zgT (bt:=bt) (i:=i) (is:=is) k gV;let hg:is[k]?=some (is[k]' gV):=dW gV;let ht:is.take (k+1)=is.take k++[is[k]' gV]:=YQ gV;let hv:(i::is).getD (k+1) 0=is[k]' gV:=by
   rw[gJ,Hq,hg];rfl
  unfold best at ih ⊢;rw[ht,List.foldl_append,List.foldl_cons,List.foldl_nil,<-ih];rw[argBest.eq_2];generalize argBest (λa b=>bt ((i::is).getD a 0) ((i::is).getD b 0)) k=m;rw[hv];by_cases hb:bt (is[k]' gV) ((i::is).getD m 0)=true
  .rw[if_pos hb,if_pos hb,hv]
  .rw[if_neg hb,if_neg hb]
theorem zko{bt:Int->Int->Bool}{i:Int}{is:List Int}:(i::is).getD (argBest (λa b=>bt ((i::is).getD a 0) ((i::is).getD b 0)) is.length) 0=best bt i is:=by
 rw[zgT is.length (bQ _),Ad]
section
variable {K:W.Frag}{cA:Cl}{U:Ph}{H:Hp}
theorem PX:∀{xs:List D} {is:List Int} {vs:List V},aJ xs=some is->aD K cA U H xs vs->vs=is.map V.int
 |[],is,vs,h,r=>by cases h;cases r;rfl|d::xs,is,vs,h,r=>by
  cases d with
  |int b=>
   simp only[aJ,je]at h;let⟨bs',h1,rfl⟩:=h;cases r with
   |cons q r=>cases q;rw[PX h1 r];rfl
  |_=>simp[aJ]at h
theorem zk6(hp:prim p=qL bt):bA K cA p (λxs H Q=>∃(a:Addr) (i:Int) (is:List Int),xs=[.ref a]/\(cY K H a ((i::is).map V.int)\/fQ K H a ((i::is).map V.int))/\Q (.int (best bt i is)) H):=by
 intro U H ds vs Q zt rs o;rw[hp]at o;unfold qL at o;split at o
 .rename_i a;let⟨v,rfl,rv⟩:=rs.one;cases e0:dX a with
  |none=>rw[e0]at o;show o.elim|some xs=>
   rw[e0]at o;let⟨ad,us,rfl,l,q⟩:=Rv.sq rv e0;cases e1:aJ xs with
   |none=>
    let o:aX K cA U H (lK bt (aJ xs)) Q:=o;rw[e1]at o;show False.elim o
   |some js=>
    cases js with
    |nil=>
     let o:aX K cA U H (lK bt (aJ xs)) Q:=o;rw[e1]at o;show False.elim o
    |cons i is=>
     let o:aX K cA U H (lK bt (aJ xs)) Q:=o;rw[e1]at o;show⟨ad,i,is,rfl,by rw[<-PX e1 q];show l,(o.of rfl).here (.int _)⟩
 .exact o.elim
end
section
variable {X:Cx}
theorem GD{js:List Int}{its:List Value}(rv:Vals (js.map V.int) its){i:Nat}{v:Value}(hP:its.toArray[i]?=some v):∃t,v=.int (js.getD i 0) t:=by
 let hi:its[i]?=some v:=by simpa using hP
 let bV:i<its.length:=(h_.mp hi).1;let z:=rv.length;rw[aY]at z;let hb:js[i]?=some (js[i]' gV):=dW gV;let⟨u,e1,e2⟩:=rv.get (i:=i) (x:=V.int (js[i]' gV)) (by rw[ji,hb];rfl);rw[hi]at e1;cases e1;let⟨t,e⟩:=e2;show⟨t,by rw[e,gJ,hb];rfl⟩
theorem zfz(hc:X.aj=true):cL X (.builtin "min") (λxs H Q=>∃(a:Addr) (i:Int) (is:List Int),xs=[.ref a]/\(cY X.K H a ((i::is).map V.int)\/fQ X.K H a ((i::is).map V.int))/\Q (.int (best (λa b=>decide (a<b)) i is)) H):=by
 rintro ak s Z H xs us Q I r ⟨p,i,is,e,hp,q⟩;subst e;let⟨u,rfl,ru⟩:=Vals.one r;cases (show u=Value.ref p from ru);let fin:∀{its:List Value},Vals ((i::is).map V.int) its->∀{v:Value} {h':Heap} {tk:Nat},its.toArray[argBest (λa b=>decide ((i::is).getD a 0<(i::is).getD b 0)) (its.toArray.size-1)]?=some v->(∀b o,s.heap.get? b=some o->h'.get? b=some o)->EP X ak Z Q v {s with heap:=h',toks:=tk}:=by
  intro its rv v h' tk hP hk;let z:is.length+1=its.length:=by let:=rv.length;rw[aY]at this;show this
  let en:its.toArray.size-1=is.length:=by rw[dH];lia
  rw[en]at hP;let⟨t,ev⟩:=GD rv hP;rw[zko (bt:=λa b=>decide (a<b))]at ev;show⟨.int (best (λa b=>decide (a<b)) i is),H,I.kept (h':=h') (t':=tk) hk,⟨t,ev⟩,q⟩
 rcases hp with hp|hp
 .obtain⟨its,rv,pl,hz⟩:=I.list hp;let hl:s.heap.IsList p its.toArray:=pl.isList;let bV:p<s.heap.objs.size:=by
   let⟨o,hg,_⟩:=hl;show bL hg
  let z:is.length+1=its.length:=by let:=rv.length;rw[aY]at this;show this
  show call_min_walk (Hx hl ?_);show⟨_,_,_,_,_,_,_,rfl,Walks.list (A:=X.A.in1) (I.ok.hd hc) _ p (dU bV) its.toArray,⟨⟨_,gK _ rfl,rfl,rfl⟩,hl.push _⟩,?_,by rw[dH];lia,CmpOf.ints_lt (λj=>(i::is).getD j 0) (λ_ _=>GD rv),λv h' tk hP hk=>fin rv hP (old_kept hk)⟩;intro b hb;change b<(s.heap.push _).objs.size;rw[oY];simp only[cX,qw,pJ]at hb;rcases hb with e|e
  .exact e▸Ac _
  .exact e▸k_ bV
 .obtain⟨its,rv,pl,hz⟩:=I.tuple hp;let hl:s.heap.IsTuple p its.toArray:=pl;let bV:p<s.heap.objs.size:=by
   let⟨o,hg,_⟩:=hl;show bL hg
  let z:is.length+1=its.length:=by let:=rv.length;rw[aY]at this;show this
  show call_min_walk (Hw hl ?_);show⟨_,_,_,_,_,_,_,rfl,Walks.tuple (A:=X.A.in1) (I.ok.hd hc) _ p (dU bV) its.toArray,⟨⟨_,gK _ rfl,rfl,rfl⟩,hl.push _⟩,?_,by rw[dH];lia,CmpOf.ints_lt (λj=>(i::is).getD j 0) (λ_ _=>GD rv),λv h' tk hP hk=>fin rv hP (λb o e=>hk b o (by simpa using dU (bL e)) (dD _ e))⟩;intro b hb;change b<(s.heap.push _).objs.size;rw[oY];simp only[cX,qw,pJ]at hb;rcases hb with e|e
  .exact e▸Ac _
  .exact e▸k_ bV
end
section
variable {X:Cx}{cA:Cl}{ao:Nat->Nat->Bool}{aj:Bool}{F:Fn}{EX:XS}{e:Expr}{pos p:Pos}{es:List Expr}{Xs:Es}{fz:Bool}
theorem ziR(hc:X.aj=true)(hm:X.mg "min"=none)(hg:JK X "min" .globalImplicit)(ha:JA X cA ao aj F EX (e::es) Xs)(he:aC e=true:=by rfl)(bU:es.all aC=true:=by rfl):JE X cA ao aj F EX (.Call (.Name "min" p) (e::es) [] pos) (.pr fz .rM Xs):=⟨wI (zfz hc) (zk6 rfl) hg.o hm PyProof.Rows.boot_min ha.o J0 J0 (bf he) (aW bU)⟩
end
end Mi
namespace Mi
open PySem PySem.Spec PyProof.Rows L2 PySem.W
theorem Eu{K:W.Frag}{fd:FuncData}{p q t u v:Str}(h:∀a b c d e,bindArgs fd ⟨[a,b,c,d,e],[]⟩=pure [(p,a),(q,b),(t,c),(u,d),(v,e)]):Binds K fd [p,q,t,u,v] []:=.all λus hl=>by
 rcases us with _|⟨a,_|⟨b,_|⟨c,_|⟨d,_|⟨e,_|⟨zz,r⟩⟩⟩⟩⟩⟩
 all_goals first|exact h a b c d e|cases hl
theorem zy{K:Frag}{x:Str}{st:Stmt}{f:Addr}{fd:FuncData}{p q t u v:Str}(F:u_ K x x st f fd)(h:∀(kV doc pm:Value) (an:Option Addr) (cdv ct a b c d e:Value),bindArgs (fnOf x x (bC st) (aV st) (aA st) .none kV doc pm an cdv ct) ⟨[a,b,c,d,e],[]⟩=pure [(p,a),(q,b),(t,c),(u,d),(v,e)]):Binds K fd [p,q,t,u,v] []:=by
 let⟨oc,od,kV,doc,pm,an,cdv,ct,osl,rfl,lk,nJ⟩:=F.ex;show Eu (h kV doc pm an cdv ct)
structure D3(K:Frag)(mg:Str->Option Value)(x:Str)(st:Stmt)(ps:List Str):Prop where
 f:u_ K x x st (jG K x) (fdOf K x st)
 m:mg x=some (.ref (jG K x))
 b:Binds K (fdOf K x st) ps []
theorem dk{p:Prop}(h:p:=by decide +kernel):p:=h
section
variable {fs:List (Str×Stmt)}{ms:List xW}{xs:List (Nat×Str)}{lk:Lk}{K:Frag}{h:Heap}{mg:Str->Option Value}{x:Str}{st:Stmt}
theorem zev(S:iZ fs ms xs lk K)(X:K.In h)(G:h.Ns mainGlobals mg)(j:Nat)(hj:fs[j]?=some (x,st):=by rfl)(hb:∀(kV doc pm:Value) (an:Option Addr) (cdv ct a:Value),bindArgs (fnOf x x (bC st) (aV st) (aA st) .none kV doc pm an cdv ct) ⟨[a],[]⟩=pure [(p,a)]:=by intros;rfl):D3 K mg x st [p]:=have F:=S.fn (x,st) (iH hj);⟨F.fn,F.m X G,zj F.fn hb⟩
theorem vG(S:iZ fs ms xs lk K)(X:K.In h)(G:h.Ns mainGlobals mg)(j:Nat)(hj:fs[j]?=some (x,st):=by rfl)(hb:∀(kV doc pm:Value) (an:Option Addr) (cdv ct a b:Value),bindArgs (fnOf x x (bC st) (aV st) (aA st) .none kV doc pm an cdv ct) ⟨[a,b],[]⟩=pure [(p,a),(q,b)]:=by intros;rfl):D3 K mg x st [p,q]:=have F:=S.fn (x,st) (iH hj);⟨F.fn,F.m X G,zm F.fn hb⟩
theorem tX(S:iZ fs ms xs lk K)(X:K.In h)(G:h.Ns mainGlobals mg)(j:Nat)(hj:fs[j]?=some (x,st):=by rfl)(hb:∀(kV doc pm:Value) (an:Option Addr) (cdv ct a b c:Value),bindArgs (fnOf x x (bC st) (aV st) (aA st) .none kV doc pm an cdv ct) ⟨[a,b,c],[]⟩=pure [(p,a),(q,b),(t,c)]:=by intros;rfl):D3 K mg x st [p,q,t]:=have F:=S.fn (x,st) (iH hj);⟨F.fn,F.m X G,zu F.fn hb⟩
theorem Ld(S:iZ fs ms xs lk K)(X:K.In h)(G:h.Ns mainGlobals mg)(j:Nat)(hj:fs[j]?=some (x,st):=by rfl)(hb:∀(kV doc pm:Value) (an:Option Addr) (cdv ct a b c d:Value),bindArgs (fnOf x x (bC st) (aV st) (aA st) .none kV doc pm an cdv ct) ⟨[a,b,c,d],[]⟩=pure [(p,a),(q,b),(t,c),(u,d)]:=by intros;rfl):D3 K mg x st [p,q,t,u]:=have F:=S.fn (x,st) (iH hj);⟨F.fn,F.m X G,zx F.fn hb⟩
theorem zpv{p q t u v:Str}(S:iZ fs ms xs lk K)(X:K.In h)(G:h.Ns mainGlobals mg)(j:Nat)(hj:fs[j]?=some (x,st):=by rfl)(hb:∀(kV doc pm:Value) (an:Option Addr) (cdv ct a b c d e:Value),bindArgs (fnOf x x (bC st) (aV st) (aA st) .none kV doc pm an cdv ct) ⟨[a,b,c,d,e],[]⟩=pure [(p,a),(q,b),(t,c),(u,d),(v,e)]:=by intros;rfl):D3 K mg x st [p,q,t,u,v]:=have F:=S.fn (x,st) (iH hj);⟨F.fn,F.m X G,zy F.fn hb⟩
theorem mG{α:Type}{l:List α}{a:α}(j:Nat)(h:l[j]?=some a:=by rfl):a∈l:=iH h
end
end Mi
namespace Mi
open PySem PySem.Spec PyProof.Rows L2
theorem ziy:∀(n:Nat) {x:D} {d:PyData},pd n x=some d->d.depth<=n/\d.hasDict=false:=by
 let hs:∀(n:Nat),(∀{x:D} {d:PyData},pd n x=some d->d.depth<=n/\d.hasDict=false)->∀(xs:List D) {ds:List PyData},mV (pd n) xs=some ds->PyData.depthAll ds<=n/\PyData.hasDictAll ds=false:=by
  intro n ih xs
  induction xs with
  |nil=>intro ds h;cases h;show⟨jJ _,rfl⟩|cons x r ihr=>
   intro ds h;unfold mV at h;split at h
   .rename_i a b e1 e2;cases h;let⟨p1,p2⟩:=ih e1;let⟨q1,q2⟩:=ihr e2;show⟨?_,?_⟩
    .simp only[PyData.depthAll];lia
    .simp only[PyData.hasDictAll,p2,q2,Bool.or_self]
   .cases h
 intro n
 induction n with
 |zero=>intro x d h;cases x<;>simp only[pd]at h<;>first|(cases h;done)|(cases h;show⟨bQ _,rfl⟩)
 |succ n ih=>
  intro x d h;cases x with
  |tup xs=>
   simp only[pd,je]at h;let⟨ds,e,rfl⟩:=h;let⟨p,q⟩:=hs n ih xs e;show⟨by simp only[PyData.depth];lia,by simp only[PyData.hasDict];show q⟩
  |fl xs=>
   simp only[pd,je]at h;let⟨ds,e,rfl⟩:=h;let⟨p,q⟩:=hs n ih xs e;show⟨by simp only[PyData.depth];lia,by simp only[PyData.hasDict];show q⟩
  |non=>simp only[pd]at h;cases h;show⟨jJ _,rfl⟩|bl _=>simp only[pd]at h;cases h;show⟨jJ _,rfl⟩|int _=>simp only[pd]at h;cases h;show⟨jJ _,rfl⟩|str _=>simp only[pd]at h;cases h;show⟨jJ _,rfl⟩|_=>simp only[pd]at h;cases h
theorem zhV:∀(n:Nat) {x:D} {u:Value} {d:PyData},Is h x u->pd n x=some d->∃as,Reads h u d as:=by
 let hs:∀(n:Nat),(∀{x:D} {u:Value} {d:PyData},Is h x u->pd n x=some d->∃as,Reads h u d as)->∀(xs:List D) {us:List Value} {ds:List PyData},jz h xs us->mV (pd n) xs=some ds->∃as,ReadsAll h us ds as:=by
  intro n ih xs
  induction xs with
  |nil=>intro us ds i h;cases h;cases i;show⟨_,.nil⟩|cons x r ihr=>
   intro us ds i h;unfold mV at h;split at h
   .rename_i a b e1 e2;cases h;cases i with
    |cons i1 i2=>
     let⟨as,p1⟩:=ih i1 e1;let⟨bs,q1⟩:=ihr i2 e2;show⟨_,.cons p1 q1⟩
   .cases h
 intro n
 induction n with
 |zero=>
  intro x u d i h;cases x<;>simp only[pd]at h<;>first
   |(cases h;done)
   | (cases h
      cases i<;>first
        |exact⟨_,.none⟩
        |exact⟨_,.bool _⟩
        |exact⟨_,.int _ _⟩
        |exact⟨_,.str _ _⟩
        |contradiction)
 |succ n ih=>
  intro x u d i h;cases x with
  |tup xs=>
   simp only[pd,je]at h;let⟨ds,e,rfl⟩:=h;cases i with
   |tup p r=>
    let⟨as,q⟩:=hs n ih xs r e;let⟨o,h1,h2,m,h3⟩:=p;show⟨_,.tuple h1 h2 h3 q⟩
   |oth k=>cases k
  |fl xs=>
   simp only[pd,je]at h;let⟨ds,e,rfl⟩:=h;cases i with
   |fl p r=>
    let⟨as,q⟩:=hs n ih xs r e;let⟨o,h1,h2,m,h3⟩:=p;show⟨_,.list h1 h2 h3 q⟩
   |oth k=>cases k
  |non=>simp only[pd]at h;cases h;cases i with|non=>show⟨_,.none⟩|oth k=>cases k
  |bl _=>simp only[pd]at h;cases h;cases i with|bl=>show⟨_,.bool _⟩|oth k=>cases k
  |int _=>simp only[pd]at h;cases h;cases i with|int=>show⟨_,.int _ _⟩|oth k=>cases k
  |str _=>simp only[pd]at h;cases h;cases i with|str=>show⟨_,.str _ _⟩|oth k=>cases k
  |_=>simp only[pd]at h;cases h
theorem zf7(h:jx (.inr k) v=true):∃t,v=.str k t:=by
 rcases wu h with ⟨i,u,e,_⟩|⟨x,u,e,e2⟩
 .cases e
 .cases e;show⟨u,e2⟩
theorem zcs{X:Cx}{cA:Cl}{ak:List (Addr×Obj)}{Z:L2.St}{H:Hp}{s:Shared}{a:Addr}{kk:Str}{ii:Int}(I:Inv X ak Z H s)(q1:H a=some (.dK [(.inr kk,.int ii)])):Reads s.heap (.ref a) (.dict [(.str kk,.int ii)]) [a]/\sysModules∉[a]:=by
 let⟨_,hne,kv,rel,o,es,ep,g1,g2,g3,g4,g5,_⟩:=(show aU X.prog X.w H s.heap a (.dK [(.inr kk,.int ii)]) from I.hok a _ q1);show⟨?_,λhm=>by simp at hm;rw[hm]at hne;simp at hne⟩;cases rel with
 |cons rl rr=>
  cases rr;let⟨l⟩:=es;cases g5 with
  |cons p1 p2 p3=>
   cases p3;rename_i q e;let⟨e1,tt,e2⟩:=rl;let hk:jx (.inr kk) e.key=true:=by rw[show (Sum.inr kk:Key)=_ from e1];show p1
   let⟨tk,hk⟩:=zf7 hk;show .dict (as:=[]) (bs:=[]) g1 g2.1 g3 ?_ ?_
   .show ReadsAll s.heap [e.key] [.str kk] [];rw[hk];show .cons (.str kk tk) .nil
   .show ReadsAll s.heap [e.val] [.int ii] [];rw[p2,e2];show .cons (.int ii tt) .nil
theorem zhj{X:Cx}{cA:Cl}{ak:List (Addr×Obj)}{Z:L2.St}{H:Hp}{s:Shared}{U:Ph}(I:Inv X ak Z H s):∀(n:Nat) {x:D} {v:V} {u:Value} {d:PyData},Rep X.K cA U H x v->RelV v u->pe n x=some d->∃as,Reads s.heap u d as/\sysModules∉as/\d.depth<=n:=by
 let hs:∀(n:Nat),(∀{x:D} {v:V} {u:Value} {d:PyData},Rep X.K cA U H x v->RelV v u->pe n x=some d->∃as,Reads s.heap u d as/\sysModules∉as/\d.depth<=n)->∀(xs:List D) {vs:List V} {us:List Value} {ds:List PyData},aD X.K cA U H xs vs->Vals vs us->mV (pe n) xs=some ds->∃as,ReadsAll s.heap us ds as/\sysModules∉as/\PyData.depthAll ds<=n:=by
  intro n ih xs
  induction xs with
  |nil=>intro vs us ds i rv h;cases h;cases i;cases rv;show⟨_,.nil,by simp,jJ _⟩|cons x r ihr=>
   intro vs us ds i rv h;unfold mV at h;split at h
   .rename_i a b e1 e2;cases h;cases i with
    |cons i1 i2=>
     cases rv with
     |cons r1 r2=>
      let⟨as,p1,p2,p3⟩:=ih i1 r1 e1;let⟨bs,q1,q2,q3⟩:=ihr i2 r2 e2;show⟨_,.cons p1 q1,λz=>?_,?_⟩
      .rcases dw.mp z with z|z
       .exact p2 z
       .exact q2 z
      .simp only[PyData.depthAll];lia
   .cases h
 intro n
 induction n with
 |zero=>
  intro x v u d i rv h;cases i<;>simp only[pe]at h<;>first
   |(cases h;done)
   |(cases h;let⟨t,rfl⟩:=rv;first|exact⟨_,.int _ _,by simp,bQ _⟩|exact⟨_,.str _ _,by simp,bQ _⟩)
   |(cases h;cases rv;first|exact⟨_,.none,by simp,bQ _⟩|exact⟨_,.bool _,by simp,bQ _⟩)
 |succ n ih=>
  intro x v u d i rv h;cases i with
  |tup t r=>
   simp only[pe,je]at h;let⟨ds,e,rfl⟩:=h;cases rv;let⟨its,rv,ht,_⟩:=I.tuple t.jw;let⟨as,q1,q2,q3⟩:=hs n ih _ r rv e;let⟨o,h1,h2,m,h3⟩:=ht;show⟨_,.tuple h1 h2 h3 q1,q2,by simp only[PyData.depth];lia⟩
  |fd q1 nz=>
   simp only[pe]at h;cases h;cases rv;let⟨rd,hn⟩:=zcs (cA:=cA) I q1;show⟨_,rd,hn,by simp only[PyData.depth,PyData.depthKv];lia⟩
  |non=>simp only[pe]at h;cases h;cases rv;show⟨_,.none,by simp,jJ _⟩|bl _=>simp only[pe]at h;cases h;cases rv;show⟨_,.bool _,by simp,jJ _⟩|int _=>simp only[pe]at h;cases h;let⟨t,rfl⟩:=rv;show⟨_,.int _ _,by simp,jJ _⟩|str _=>simp only[pe]at h;cases h;let⟨t,rfl⟩:=rv;show⟨_,.str _ _,by simp,jJ _⟩|_=>simp only[pe]at h;cases h
section
variable {X:Cx}{cA:Cl}
theorem zhy(h:Gp d=some z):d.showable=true/\d.shown.length<=sizeLine/\z=.dat (.str d.shown):=by
 unfold Gp at h;split at h
 .rename_i q;cases h;show⟨q.1,q.2,rfl⟩
 .cases h
noncomputable def Br(K:W.Frag)(cA:Cl):List V->Hp->VK->Prop:=λxs H Q=>∃U x v d,xs=[v]/\Rv K cA U H x v/\Gn x=some d/\d.showable=true/\d.shown.length<=sizeLine/\Q (.str d.shown) H
theorem zfQ(hr:cC k X.A):cL X (.builtin "repr") (Br X.K cA):=by
 rintro ak s Z H xs us Q I r ⟨U,x,v,d,e,rv,hp,hs,hz,q⟩;subst e;let⟨u,rfl,ru⟩:=vals1 r;let hu:=hr.un;let hg:=hr.gd;let fin:∀h' t tk,(∀b o,s.heap.get? b=some o->h'.get? b=some o)->EP X ak Z Q (.str d.shown t) {s with heap:=h',toks:=tk}:=λh' t tk hk=>⟨.str d.shown,H,I.kept (h':=h') (t':=tk) hk,⟨t,rfl⟩,q⟩;let leaf:EP X ak Z Q (.str d.shown s.toks) {s with toks:=s.toks+1}:=fin s.heap _ _ λ_ _ e=>e;by_cases Vm:∃ks vs,x=.fd ks vs
 .obtain⟨ks,vs,rfl⟩:=Vm;cases (show Rep X.K cA U H (.fd ks vs) v from rv) with
  |@fd a kk ii q1 n=>
   cases (show u=Value.ref a from ru);cases hp;let⟨rd,hn⟩:=zcs (cA:=cA) I q1;show repr_of_reads' rd hs (λ_=>hn) hg (by simp only[PyData.depth,PyData.depthKv];lia) (λ_ _ e=>e) (λh' t tk hk=>fin h' t tk hk) hz
 .let hp:T8 (pd 40 x) (pe 40 x)=some d:=by
   cases x with
   |fd ks vs=>show absurd ⟨ks,vs,rfl⟩ Vm|_=>show hp
  by_cases hp':pd 40 x=none
  .rw[hp']at hp;let hp:pe 40 x=some d:=hp;cases x with
   |tup xs=>
    let rv:Rep X.K cA U H (.tup xs) v:=rv;let⟨as,rd,hn,dp⟩:=zhj I 40 rv ru hp;cases rv;cases ru;show repr_of_reads' rd hs (λ_=>hn) hg gV (λ_ _ e=>e) (λh' t tk hk=>fin h' t tk hk) hz
   |fd ks vs=>show absurd ⟨ks,vs,rfl⟩ Vm|fl _=>cases hp|exc _ _=>cases hp|ob _ _=>cases hp|any=>cases hp|_=>cases hp'
  let hp':pd 40 x=some d:=by
   cases e:pd 40 x with
   |none=>show absurd e hp'|some d'=>rw[e]at hp;show hp
  let i:Is s.heap x u:=uY I rv ru;let⟨as,rd⟩:=zhV 40 i hp';let⟨dp,nd⟩:=ziy 40 hp';cases rd with
  |none=>show P.repr_of_none leaf|bool b=>show P.repr_of_bool (by cases b<;>show leaf)|int j t=>show P.repr_of_int (by simpa [PyData.showable] using hs) leaf|str y t=>show P.repr_of_str leaf hz|list h1 h2 h3 h4=>show repr_of_reads' (.list h1 h2 h3 h4) hs (PyData.noDict_hsm nd) hg gV (λ_ _ e=>e) (λh' t tk hk=>fin h' t tk hk) hz|tuple h1 h2 h3 h4=>show repr_of_reads' (.tuple h1 h2 h3 h4) hs (PyData.noDict_hsm nd) hg gV (λ_ _ e=>e) (λh' t tk hk=>fin h' t tk hk) hz|dict h1 h2 h3 h4 h5=>cases nd
theorem zkf:bA X.K cA .repr (Br X.K cA):=by
 intro U H ds vs Q zt rs o;let o:aX X.K cA U H (uU ds) Q:=o;unfold uU at o;split at o
 .rename_i x _;let⟨v,rfl,r1⟩:=rs.one;let⟨z,e⟩:=o.some';let⟨d,e1,e2⟩:=v8.mp e;let⟨q1,q2,rfl⟩:=zhy e2;show⟨U,x,v,d,rfl,r1,e1,q1,q2,(o.of e).here (.str _)⟩
 .exact o.elim
end
section
variable {X:Cx}{cA:Cl}{ao:Nat->Nat->Bool}{aj:Bool}{F:Fn}{EX:XS}{e:Expr}{pos p:Pos}{es:List Expr}{Xs:Es}{fz:Bool}
theorem Vn(hr:cC k X.A)(hm:X.mg "repr"=none)(hg:JK X "repr" .globalImplicit)(ha:JA X cA ao aj F EX (e::es) Xs)(he:aC e=true:=by rfl)(bU:es.all aC=true:=by rfl):JE X cA ao aj F EX (.Call (.Name "repr" p) (e::es) [] pos) (.pr fz .repr Xs):=⟨wI (zfQ hr) zkf hg.o hm PyProof.Rows.boot_repr ha.o J0 J0 (bf he) (aW bU)⟩
end
end Mi
namespace L2
open PySem PySem.Spec PyProof.Rows
section
variable {prog:Program}{w:World}{A:Around}{E:Value->Shared->Prop}{s:Shared}
theorem zfZ(r:Addr)(x b:Int)(k t u v:Tok) :
  Meets (Builtin.«range.__contains__» ⟨[.ref r,.int x k],[]⟩) (λ_ R s=>s.heap.get? r=some {cls:=.type "range",dict:=none,data:=.fields #[.int 0 t,.int b u,.int 1 v],slots:=#[]} /\
   R (.ok (.ret (Value.bool (Builtin.Range.rangePlace? 0 b 1 x).isSome))) s):=
 .of_wp λprog w A R s h=>by
  let⟨hp,g,d,tk,os⟩:=s;let⟨hl,h⟩:=h
  wp_walk
  show⟨_,rfl,h⟩
theorem zgV{x b:Int}:(Builtin.Range.rangePlace? 0 b 1 x).isSome=decide (0<=x/\x<b):=by
 unfold Builtin.Range.rangePlace?;by_cases h:0<=x/\x<b
 .simp[h.1,h.2]
 .by_cases h0:0<=x
  .let:¬x<b:=λz=>h ⟨h0,z⟩;simp[this]
  .simp[h0]
theorem zhH{r:Addr}{x b:Int}{k t u v:Tok}{Q:Value->Shared->Prop}(hr:IsRange s.heap r 0 b 1 t u v)
  (h:Q (.bool (decide (0<=x/\x<b))) s):wpAny (model prog w) A (call (.builtin "range.__contains__") [.ref r,.int x k]) Q E s:=by
 show call_meets F.slot_range_contains ⟨_,hr,rfl⟩ F.entry_range_contains (F.args_range_contains_2 _ _) (zfZ r x b k t u v) ⟨hr,?_⟩;rw[zgV];show h
end
section
variable {X:Cx}{a b:Expr}{ta tb:TE}{pos pos' p':Pos}
def P0(X:Cx)(op:CmpOp)(r:R2):Prop:=
 ∀(ak:List (Addr×Obj)) (s:Shared) (Z:St) (H:Hp) (x y:V) (v u:Value) (Q:VK),Inv X ak Z H s->RelV x v->RelV y u->r x y H Q->
  wpAny (model X.prog X.w) X.A (call (.type "range") [u]) (λz s'=>wpAny (model X.prog X.w) X.A (compareOp op v z) (EP X ak Z Q) X.xe s') X.xe s
theorem znG:P0 X .NotIn (n8 λi j=>.bl (!decide (0<=i/\i<j))):=by
 rintro ak s Z H x y v u Q I rx ry ⟨i,j,rfl,rfl,q⟩;let⟨t,rfl⟩:=rx;let⟨t',rfl⟩:=ry;show call_range_1 (NotIn_slot (T:="range") ⟨_,IsRange.new ..,rfl⟩ F.slot_range_contains (zhH (IsRange.new ..) (xM ?_)));show⟨.bl _,H,I.kept λb u q=>dD _ q,rfl,q⟩
theorem zop{op:CmpOp}{r:R2}(ho:P0 X op r)(hg:Gl X "range")(hm:X.mg "range"=none)(ha:PE X a ta)(hb:PE X b tb)(he:starEach [b] X.env=(false,eval b X.env)::starEach [] X.env)(bU:(backTo pos' (starEach [] X.env)).any (·.1)=false)
  {ak:List (Addr×Obj)} {s:Shared} {Z:St} {H:Hp} {Q:VK} (I:Inv X ak Z H s) (h:Gi r ta tb Z H Q):wpAny (model X.prog X.w) X.A (eval a X.env) (λv s₁=>wpAny (model X.prog X.w) X.A (eval (.Call (.Name "range" p') [b] [] pos') X.env) (λu s₂=>wpAny (model X.prog X.w) X.A (compareOp op v u) (EP X ak Z Q) X.xe s₂) X.xe s₁) X.xe s:=by
 show bD (ha ak s Z H _ I h) λv s1 hx=>gb hx λx H1 I1 r1 q1=>?_;show zZ (sY I1 hg hm boot_range ?_);show xH ?_ he bU;rw[he];change wpAny _ _ (spliced ((false,eval b X.env)::backTo pos' (starEach [] X.env))) _ _ s1;show Nt (bD (hb ak s1 Z H1 _ I1 q1) λu s2 hx=>gb hx λy H2 I2 r2 q2=>Nz ?_);show ho ak s2 Z H2 x y v u Q I2 r1 r2 q2
theorem zmO{op:CmpOp}{r:R2}(ho:P0 X op r)(hg:Gl X "range")(hm:X.mg "range"=none)(ha:PE X a ta)(hb:PE X b tb)(he:starEach [b] X.env=(false,eval b X.env)::starEach [] X.env)(bU:(backTo pos' (starEach [] X.env)).any (·.1)=false):PT X (.Compare a [op] [.Call (.Name "range" p') [b] [] pos'] pos) (Al (Gi r ta tb)):=by
 intro ak s Z H Q I h;show Q9 (bD (zop ho hg hm ha hb he bU I h) λv s1 hx=>bD hx λu s2 hx=>bD hx λc s3 hx=>Oi hx λz H3 I3 r3 k e q3=>?_) (by cases op<;>rfl);subst e;cases r3;show xM ⟨H3,I3,q3⟩
end
end L2
namespace Mi
open PySem PySem.Spec PyProof.Rows L2
theorem zlK{K:W.Frag}{cA:Cl}:bA K cA .Pq (r2 (n8 λi j=>.bl (!decide (0<=i/\i<j)))):=DY (f:=λi j=>.bl (!decide (0<=i/\i<j))) rfl λi j _ _=>.bl _
section
variable {X:Cx}{cA:Cl}{ao:Nat->Nat->Bool}{aj:Bool}{F:Fn}{EX:XS}{a b:Expr}{A B:E}{pos pos' p p':Pos}
theorem zns{op:CmpOp}{r:R2}{p:Pr}(ho:P0 X op r)(hp:bA X.K cA p (r2 r))(hg:Gl X "range")(hm:X.mg "range"=none)(ha:SE X cA ao aj F EX a A)(hb:SE X cA ao aj F EX b B)(he:starEach [b] X.env=(false,eval b X.env)::starEach [] X.env)(bU:(backTo pos' (starEach [] X.env)).any (·.1)=false):ST X cA ao aj F EX (.Compare a [op] [.Call (.Name "range" p') [b] [] pos'] pos) (.pr true p (.cons A (.cons B .nil))):=PT.weak (zmO ho hg hm ha hb he bU) λZ H Q hh=>un hh λU J s hL hS h=>by
 let h:Run X.K cA (M.bd (M.bd (M.bd (ev ao aj F A J) λx=>M.bd (M.bd (ev ao aj F B J) λy=>M.bd (M.ret []) λz=>M.ret (y::z)) λys=>M.ret (x::ys)) λvs=>M.bd (gM vs) λds=>bN true (prim p ds)) bool) U H s _ _:=h;simp only[j_]at h;show bO hL hS h λx H1 U1 d1 s1 x1 hL1 aL r1 h1=>bO hL1 aL h1 λy H2 U2 d2 s2 x2 hL2 hS2 r2' h2=>?_;let⟨ds,rs,h3⟩:=tM hS2 (.cons (r1.mono x2 aL.lz) (.cons r2' .nil)) h2;show DQ (hp U2 H2 ds _ _ hS2.zs rs (qO (Ee:=eX X.K cA EX Z) hS2 (h3.bd.imp λt s3 U3 H3 ⟨x3,lV,h4⟩ v rv=>?_)));cases rv with
 |l _=>show h4.elim|d rv=>cases rv with
  |bl k=>show⟨k,rfl,h4 U3 H3 Ext.refl lV⟩|_=>show h4.elim
theorem zoK(hm:X.mg "range"=none)(hg:JK X "range" .globalImplicit)(ha:JE X cA ao aj F EX a A)(hb:JE X cA ao aj F EX b B)(he:aC b=true:=by rfl):JT X cA ao aj F EX (.Compare a [.NotIn] [.Call (.Name "range" p') [b] [] pos'] pos) (.pr true .Pq (.cons A (.cons B .nil))):=⟨zns znG zlK hg.o hm ha.o hb.o (bf he) (aW rfl)⟩
end
end Mi
namespace Mi
open PySem
def W{α:Type}(m:M α)(s:S)(P:α->S->Prop):Prop:=∃a s',m s=some (.ok a,s')/\P a s'
def WS(m:MS)(s:S)(Q:Out->S->Prop):Prop:=∃o s',m s=some (o,s')/\Q o s'
section
variable {α β:Type}{m:M α}{k:α->M β}{s:S}{P:α->S->Prop}{R:β->S->Prop}
theorem W.bd(h:W m s λa s'=>W (k a) s' R):W (M.bd m k) s R:=by
 let⟨a,s',e,b,s2,e2,r⟩:=h;show⟨b,s2,by unfold M.bd;rw[e];show e2,r⟩
theorem W.ret{a:α}(h:P a s):W (M.ret a) s P:=⟨a,s,rfl,h⟩
theorem W.qt(h:W m s P):W (M.qt m) s P:=by
 let⟨a,s',e,p⟩:=h;show⟨a,s',by unfold M.qt;rw[e],p⟩
theorem W.opt(e:o=some a)(h:P a s):W (M.opt o) s P:=by subst e;show⟨a,s,rfl,h⟩
theorem W.imp{P':α->S->Prop}(h:W m s P)(f:∀a s',P a s'->P' a s'):W m s P':=let ⟨a,s',e,p⟩:=h;⟨a,s',e,f a s' p⟩
theorem W.eq(e:m s=some (.ok a,s'))(p:P a s'):W m s P:=⟨a,s',e,p⟩
theorem GF{d:D}{P:D->S->Prop}(h:P d s):W (rd (.d d)) s P:=⟨d,s,rfl,h⟩
theorem Vo{n:Nat}{xs:List D}{P:D->S->Prop}(e:s[n]?=some (.lst xs))(h:P (.fl xs) s):W (rd (.l n)) s P:=⟨.fl xs,s,by unfold rd;simp only[e],h⟩
theorem P_{P:List D->S->Prop}(h:P [] s):W (gM []) s P:=⟨[],s,rfl,h⟩
theorem GJ{x:Xv}{r:List Xv}{P:List D->S->Prop}(h:W (rd x) s λd s1=>W (gM r) s1 λds s2=>P (d::ds) s2):W (gM (x::r)) s P:=W.bd (h.imp λd s1 h1=>W.bd (h1.imp λds s2 h2=>W.ret h2))
theorem Kat{P:List D->S->Prop}(h:P [] s):W (fV []) s P:=⟨[],s,rfl,h⟩
theorem Kas{d:D}{r:List Xv}{P:List D->S->Prop}(h:W (fV r) s λds s2=>P (d::ds) s2):W (fV (.d d::r)) s P:=W.bd (W.ret (W.bd (h.imp λds s2 h2=>W.ret h2)))
theorem W.dat{x:D}{P:D->S->Prop}(h:P x s):W (dat (.d x)) s P:=⟨x,s,rfl,h⟩
theorem W.bool{b:Bool}{P:Bool->S->Prop}(h:P b s):W (bool (.d (.bl b))) s P:=⟨b,s,rfl,h⟩
theorem W.int{b:Int}{P:Int->S->Prop}(h:P b s):W (int (.d (.int b))) s P:=⟨b,s,rfl,h⟩
theorem bI{fz:Bool}{o:Option Rz}{d:D}{P:Xv->S->Prop}(e:o=some (.dat d))(h:P (.d d) s):W (bN fz o) s P:=by subst e;show⟨_,s,rfl,h⟩
theorem rZ{o:Option Rz}{xs:List D}{P:Xv->S->Prop}(e:o=some (.nw xs))(h:P (.d (.fl xs)) s):W (bN true o) s P:=by subst e;show⟨_,s,rfl,h⟩
theorem KaP{xs:List D}{P:Xv->S->Prop}(h:P (.d (.fl xs)) s):W (newL true xs) s P:=⟨_,s,rfl,h⟩
theorem KaO{xs:List D}{P:Xv->S->Prop}(h:P (.l s.length) (s++[.lst xs])):W (newL false xs) s P:=⟨_,_,rfl,h⟩
theorem W.cV{F:List Xv->M Xv}{xs:List Xv}{P:Xv->S->Prop}(hl:locs xs=[])(h:W (F (eF 0 xs)) [] λv _=>∃d,v=.d d/\P (.d d) s):W (cG F xs) s P:=by
 let⟨v,s1,e,d,rfl,p⟩:=h;show⟨.d d,s,?_,p⟩;unfold cG;rw[hl,if_pos Ce];simp only[ju,e,dB]
theorem Kak{F:List Xv->M Xv}{xs:List Xv}{P:Xv->S->Prop}(hl:locs xs=[])(h:W (F (eF 0 xs)) [] λv s1=>∃n o,v=.l n/\s1[n]?=some o/\P (.l s.length) (s++[o])):W (cG F xs) s P:=by
 let⟨v,s1,e,n,o,rfl,eo,p⟩:=h;show⟨.l s.length,s++[o],?_,p⟩;unfold cG;rw[hl,if_pos Ce];simp only[ju,e,dB,List.getElem?_nil,eo]
theorem Vp{F:List Xv->M Xv}{xs:List Xv}{n:Nat}{o:SO}{P:Xv->S->Prop}(hl:locs xs=[n])(ho:s[n]?=some o)(h:W (F (eF 0 xs)) [o] λv s1=>∃d o',v=.d d/\s1=[o']/\P (.d d) (s.set n o')):W (cG F xs) s P:=by
 let⟨v,s1,e,d,o',rfl,rfl,p⟩:=h;show⟨.d d,s.set n o',?_,p⟩;unfold cG;rw[hl,if_pos V8];simp only[ju,ho,e,dB]
end
section
variable {s:S}{Q:Out->S->Prop}
theorem WS.ofM(h:W m s λa s'=>WS (k a) s' Q):WS (Mi.ofM m J k) s Q:=by
 let⟨a,s',e,o,s2,e2,q⟩:=h;show⟨o,s2,by unfold Mi.ofM;rw[e];show e2,q⟩
theorem WS.nx(h:Q (.nx J) s):WS (λs=>some (.nx J,s)) s Q:=⟨_,s,rfl,h⟩
theorem WS.rt(h:Q (.rt x) s):WS (λs=>some (.rt x,s)) s Q:=⟨_,s,rfl,h⟩
theorem WS.imp(h:WS m s Q)(f:∀o s',Q o s'->Q' o s'):WS m s Q':=let ⟨a,s',e,p⟩:=h;⟨a,s',e,f a s' p⟩
end
theorem W.call(hT:T f=some d)(hl:xs.length=d.iY)
  (h:WS (exs ao aj (λc=>Mi.call ao T k c) d.body (xs.map some++List.replicate (d.many-d.iY) none)) s λo s'=>match o with|.nx _=>P (.d .non) s'|.rt v=>P v s'|_=>False):W (Mi.call ao T (k+1) aj f xs) s P:=by
 let⟨o,s',e,q⟩:=h;unfold Mi.call;simp only[hT,if_pos hl];unfold W;simp only[e];cases o with
 |nx J=>show⟨_,_,rfl,q⟩|rt v=>show⟨_,_,rfl,q⟩|bk J=>show q.elim|ct J=>show q.elim|er c fs J=>show q.elim
theorem wQ(I:Nat->Vs->S->Prop)(h0:I 0 J s)(hb:∀i x J s,c[i]?=some x->I i J s->WS (b x J) s λo s'=>∃J',o=.nx J'/\I (i+1) J' s')
  (he:∀J s,I c.length J s->Q (.nx J) s):WS (cZ (.fix c) b (c.length+1) 0 J) s Q:=by
 let key:∀n i J s,i+n=c.length->I i J s->WS (cZ (.fix c) b (n+1) i J) s Q:=by
  intro n
  induction n with
  |zero=>
   intro i J s hi hI;let e:c[i]?=none:=by rw[oU];lia
   let:i=c.length:=by lia
   subst this;show⟨_,s,?_,he J s hI⟩;unfold cZ;simp only[Src.at,e]
  |succ n ih=>
   intro i J s hi hI;let bV:i<c.length:=by lia
   let e:c[i]?=some c[i]:=dW bV;let⟨o,s',eb,J',rfl,vH⟩:=hb i c[i] J s e hI;let⟨o2,s2,e2,q⟩:=ih (i+1) J' s' gV vH;show⟨o2,s2,?_,q⟩;unfold cZ;simp only[Src.at,e,eb];show e2
 show key c.length 0 J s gV h0
theorem zm7{i j:Int}(h:(-(2^64)<i/\i<2^64)\/(-(2^64)<j/\j<2^64)):prim .mul [.int i,.int j]=some (.dat (.int (i*j))):=by
 change Option.map _ (if _ then _ else _)=_;rw[if_pos h];rfl
theorem zoN{i j:Int}(h:0<j):prim .mod [.int i,.int j]=some (.dat (.int (i%j))):=by
 change Option.map _ (if _ then _ else _)=_;rw[if_pos h];rfl
theorem ziP{i j:Int}(h:0<j/\j<1073741824):prim .fdiv [.int i,.int j]=some (.dat (.int (i/j))):=by
 change Option.map _ (if _ then _ else _)=_;rw[if_pos h];rfl
theorem zh0{i j:Int}(h:0<j/\j<1073741824):prim .divmod [.int i,.int j]=some (.dat (.tup [.int (i/j),.int (i%j)])):=by
 change Option.map _ (if _ then _ else _)=_;rw[if_pos h];rfl
theorem zoj{i j:Int}(h:0<=j/\j<=1000000/\i.natAbs<2^64):prim .pow [.int i,.int j]=some (.dat (.int (i^j.toNat))):=by
 change Option.map _ (if _ then _ else _)=_;rw[if_pos h];rfl
theorem Ew{xs:List D}{i:Nat}{x:D}(h:xs[i]?=some x):prim .ix [.fl xs,.int i]=some (.dat x):=by
 change Option.map Rz.dat (L2.qC xs i)=_;let:L2.qC xs (i:Int)=some x:=by
  unfold L2.qC L2.tD;let hl:i<xs.length:=(h_.mp h).1;simp[hl];show(h_.mp h).2
 rw[this];rfl
theorem zA(h:xs.length+ys.length<=sizeLine):prim .add [.fl xs,.fl ys]=some (.nw (xs++ys)):=by
 change (if _ then _ else _)=_;rw[if_pos h]
theorem W.ite[Decidable c](h1:c->W m1 s P)(h2:¬c->W m2 s P):W (if c then m1 else m2) s P:=by
 by_cases h:c
 .rw[if_pos h];show h1 h
 .rw[if_neg h];show h2 h
theorem WS.ite[Decidable c](h1:c->WS m1 s P)(h2:¬c->WS m2 s P):WS (if c then m1 else m2) s P:=by
 by_cases h:c
 .rw[if_pos h];show h1 h
 .rw[if_neg h];show h2 h
theorem Qa{n:Nat}{xs:List D}{s:S}{P:Unit->S->Prop}(h:P () (s.set n (.lst xs))):W (putL n xs) s P:=⟨_,_,rfl,h⟩
theorem W.cT{n:Nat}{xs:List D}{s:S}{P:Nat×List D->S->Prop}(e:s[n]?=some (.lst xs))(h:P (n,xs) s):W (cT (.l n)) s P:=⟨_,s,by unfold Mi.cT;simp only[e],h⟩
theorem Ka3{xs:List D}{s:S}{P:Src×Nat->S->Prop}(h:P (.fix xs,xs.length) s):W (src (.d (.tup xs))) s P:=⟨_,s,rfl,h⟩
theorem Ka2{xs:List D}{s:S}{P:Src×Nat->S->Prop}(h:P (.fix xs,xs.length) s):W (src (.d (.fl xs))) s P:=⟨_,s,rfl,h⟩
theorem WS.nil{ao:Nat->Nat->Bool}{aj:Bool}{F:Bool->Fn}{J:Vs}{s:S}{Q:Out->S->Prop}(h:Q (.nx J) s):WS (exs ao aj F .nil J) s Q:=⟨_,s,rfl,h⟩
theorem WS.cons{ao:Nat->Nat->Bool}{aj:Bool}{F:Bool->Fn}{a:St}{r:b_}{J:Vs}{s:S}{Q:Out->S->Prop}(h:WS (ex ao aj F a J) s λo s'=>match o with|.nx J'=>WS (exs ao aj F r J') s' Q|.rt x=>Q (.rt x) s'|_=>False):WS (exs ao aj F (.cons a r) J) s Q:=by
 let⟨o,s',e,q⟩:=h;unfold WS exs Mi.cU;rw[e];cases o with
 |nx J'=>show q|rt x=>show⟨_,_,rfl,q⟩|bk _=>show q.elim|ct _=>show q.elim|er _ _ _=>show q.elim
def su{α:Type}(o:Option α)(P:α->Prop):Prop:=∃a,o=some a/\P a
theorem su.mk{α:Type}{o:Option α}{P:α->Prop}{a:α}(e:o=some a)(h:P a):su o P:=⟨a,e,h⟩
section
variable {ao:Nat->Nat->Bool}{aj:Bool}{F:Fn}{J:Vs}{s:S}{P:Xv->S->Prop}
theorem W.eC{d:D}(h:P (.d d) s):W (ev ao aj F (.c d) J) s P:=W.ret h
theorem W.eV{i:Nat}{x:Xv}(e:J[i]?.join=some x)(h:P x s):W (ev ao aj F (.v i) J) s P:=W.opt e h
theorem Le{fz:Bool}{p:Pr}{xs:Es}(h:W (evs ao aj F xs J) s λvs s1=>W (gM vs) s1 λds s2=>W (bN fz (prim p ds)) s2 P):W (ev ao aj F (.pr fz p xs) J) s P:=W.bd (h.imp λ_ _ h=>W.bd h)
theorem Kaw{a b:E}(h:W (ev ao aj F a J) s λx s1=>W (Mi.bool x) s1 λk s2=>W (if k=true then ev ao aj F b J else M.ret (.d (.bl false))) s2 P):W (ev ao aj F (.and a b) J) s P:=W.bd (h.imp λ_ _ h=>W.bd h)
theorem KaF{a b:E}(h:W (ev ao aj F a J) s λx s1=>W (Mi.bool x) s1 λk s2=>W (if k=true then M.ret (.d (.bl true)) else ev ao aj F b J) s2 P):W (ev ao aj F (.or a b) J) s P:=W.bd (h.imp λ_ _ h=>W.bd h)
theorem KaE{a:E}(h:W (ev ao aj F a J) s λx s1=>W (Mi.bool x) s1 λk s2=>P (.d (.bl (!k))) s2):W (ev ao aj F (.not a) J) s P:=W.bd (h.imp λ_ _ h=>W.bd (h.imp λ_ _ h=>W.ret h))
theorem KaI{xs:Es}(h:W (evs ao aj F xs J) s λvs s1=>W (fV vs) s1 λds s2=>P (.d (.tup ds)) s2):W (ev ao aj F (.tup xs) J) s P:=W.bd (h.imp λ_ _ h=>W.bd (h.imp λ_ _ h=>W.ret h))
theorem KaD{fz:Bool}{xs:Es}(h:W (evs ao aj F xs J) s λvs s1=>W (fV vs) s1 λds s2=>W (newL fz ds) s2 P):W (ev ao aj F (.lst fz xs) J) s P:=W.bd (h.imp λ_ _ h=>W.bd h)
theorem Kaz{k:Str}{i:Int}(h:P (.d (.fd [.str k] [.int i])) s):W (ev ao aj F (.uP k i) J) s P:=W.ret h
theorem Kax{f:Nat}{xs:Es}(h:W (evs ao aj F xs J) s λvs s1=>W (cG (F f) vs) s1 P):W (ev ao aj F (.call f xs) J) s P:=W.bd h
theorem KaH{fz:Bool}{a:E}{lo hi:Eo}(h:W (ev ao aj F a J) s λx s1=>W (yK ao aj F lo J) s1 λl s2=>W (yK ao aj F hi J) s2 λu s3=>W (rd x) s3 λd s4=>W (bN fz (cutD d l u)) s4 P):W (ev ao aj F (.sl fz a lo hi) J) s P:=W.bd (h.imp λ_ _ h=>W.bd (h.imp λ_ _ h=>W.bd (h.imp λ_ _ h=>W.bd h)))
theorem KaQ{P:Option Int->S->Prop}(h:P none s):W (yK ao aj F .no J) s P:=W.ret h
theorem KaR{a:E}{P:Option Int->S->Prop}(h:W (ev ao aj F a J) s λx s1=>W (Mi.int x) s1 λi s2=>P (some i) s2):W (yK ao aj F (.yes a) J) s P:=W.bd (h.imp λ_ _ h=>W.bd (h.imp λ_ _ h=>W.ret h))
theorem Qc{P:List Xv->S->Prop}(h:P [] s):W (evs ao aj F .nil J) s P:=W.ret h
theorem GK{a:E}{r:Es}{P:List Xv->S->Prop}(h:W (ev ao aj F a J) s λx s1=>W (evs ao aj F r J) s1 λxs s2=>P (x::xs) s2):W (evs ao aj F (.cons a r) J) s P:=W.bd (h.imp λ_ _ h=>W.bd (h.imp λ_ _ h=>W.ret h))
theorem KaM{a:E}{P:Src×Nat->S->Prop}(h:W (ev ao aj F a J) s λx s1=>W (src x) s1 P):W (mW ao aj F (.seq a) J) s P:=W.bd h
end
section
variable {ao:Nat->Nat->Bool}{aj:Bool}{F:Bool->Fn}{J:Vs}{s:S}{Q:Out->S->Prop}
theorem WS.Lf{b:Bool}{m1 m2:MS}(e:b=true)(h:WS m1 s Q):WS (if b=true then m1 else m2) s Q:=by rw[if_pos e];show h
theorem WS.GP{b:Bool}{m1 m2:MS}(e:b=false)(h:WS m2 s Q):WS (if b=true then m1 else m2) s Q:=by rw[if_neg (by rw[e];decide)];show h
theorem WS.wR{m1 m2:MS}(h:WS m1 s Q):WS (if true=true then m1 else m2) s Q:=by rw[if_pos rfl];show h
theorem WS.Ey{m1 m2:MS}(h:WS m2 s Q):WS (if false=true then m1 else m2) s Q:=by rw[if_neg J0];show h
theorem Kbg{e:E}(h:W (ev ao aj (F aj) e J) s λ_ s1=>Q (.nx J) s1):WS (ex ao aj F (.ex e) J) s Q:=WS.ofM (h.imp λ_ _ h=>WS.nx h)
theorem Kbj{i:Nat}{e:E}(h:W (ev ao aj (F aj) e J) s λx s1=>Q (.nx (J.set i (some x))) s1):WS (ex ao aj F (.asg (.nm i) e) J) s Q:=WS.ofM (h.imp λ_ _ h=>WS.nx h)
theorem Kbo{is:List Nat}{e:E}(h:W (ev ao true (F true) e J) s λx s1=>W (dat x) s1 λd s2=>su ((lQ d).bind λds=>iB is (ds.map .d) J) λJ'=>Q (.nx J') s2):WS (ex ao true F (.asg (.tp is) e) J) s Q:=by
 show WS.ofM (h.imp λx s1 h=>?_);show WS.wR (m2:=λ_=>none) (WS.ofM (W.bd (h.imp λd s2 ⟨J',e,q⟩=>W.opt e (WS.nx q))))
theorem Kbn{o i e:E}(h:W (ev ao aj (F aj) e J) s λx s1=>W (dat x) s1 λd s2=>W (ev ao aj (F aj) o J) s2 λy s3=>W (ev ao aj (F aj) i J) s3 λz s4=>W (Mi.int z) s4 λj s5=>W (cT y) s5 λnx s6=>su (L2.tD nx.2.length j) λq=>Q (.nx J) (s6.set nx.1 (.lst (nx.2.set q d)))):WS (ex ao aj F (.asg (.ao o i) e) J) s Q:=by
 show WS.ofM (h.imp λx s1 h=>WS.ofM (W.bd (h.imp λd s2 h=>W.bd (h.imp λy s3 h=>W.bd (h.imp λz s4 h=>W.bd (h.imp λj s5 h=>W.bd (h.imp λnx s6 h=>?_)))))));let⟨q,e,h⟩:=h;simp only[e];show Qa (WS.nx h)
theorem Kbk{i j:Nat}{a b:E}(h:W (ev ao true (F true) a J) s λx s1=>W (ev ao true (F true) b J) s1 λy s2=>Q (.nx ((J.set i (some x)).set j (some y))) s2):WS (ex ao true F (.par i j a b) J) s Q:=by
 show WS.wR (m2:=λ_=>none) (WS.ofM (W.bd (h.imp λx s1 h=>W.bd (h.imp λy s2 h=>W.ret (WS.nx h)))))
theorem Vq{e:E}(h:W (ev ao aj (F aj) e J) s λx s1=>Q (.rt x) s1):WS (ex ao aj F (.ret e) J) s Q:=WS.ofM (h.imp λ_ _ h=>WS.rt h)
theorem GQ{c:E}{t e:b_}(h:W (ev ao aj (F aj) c J) s λx s1=>W (Mi.bool x) s1 λb s2=>WS (if b=true then exs ao aj F t J else exs ao aj F e J) s2 Q):WS (ex ao aj F (.iff c t e) J) s Q:=WS.ofM (W.bd h)
theorem Kbh{t:Tg}{w:Wk}{b:b_}(h:W (mW ao true (F true) w J) s λcn s1=>WS (cZ cn.1 (λd J=>Mi.cU (store ao true (F true) t (.d d) J) λJ'=>exs ao true F b J') (cn.2+1) 0 J) s1 Q):WS (ex ao true F (.fr t w b) J) s Q:=by
 show WS.wR (m2:=λ_=>none) (WS.ofM h)
end
theorem W.Lf{α:Type}{b:Bool}{m1 m2:M α}{s:S}{P:α->S->Prop}(e:b=true)(h:W m1 s P):W (if b=true then m1 else m2) s P:=by rw[if_pos e];show h
theorem W.GP{α:Type}{b:Bool}{m1 m2:M α}{s:S}{P:α->S->Prop}(e:b=false)(h:W m2 s P):W (if b=true then m1 else m2) s P:=by rw[if_neg (by rw[e];decide)];show h
theorem W.wR{α:Type}{m1 m2:M α}{s:S}{P:α->S->Prop}(h:W m1 s P):W (if true=true then m1 else m2) s P:=by rw[if_pos rfl];show h
theorem W.Ey{α:Type}{m1 m2:M α}{s:S}{P:α->S->Prop}(h:W m2 s P):W (if false=true then m1 else m2) s P:=by rw[if_neg J0];show h
structure Bx(R:Prop):Prop where
 o:R
end Mi
namespace Mi
open PySem PySem.W PyProof.Rows L2
abbrev cJ(n:Nat)(p:Array Nat):Prop:=p.Perm (List.range n).toArray
theorem cJ.lt(h:cJ n p)(hn:0<n)(i:Nat):p.getD i 0<n:=by
 by_cases hi:i<p.size
 .let e:p.getD i 0=p[i]:=by simp[Array.getD,hi]
  rw[e];let hm:p[i]∈(List.range n).toArray:=h.mem_iff.mp (Array.getElem_mem hi);simpa using hm
 .let e:p.getD i 0=0:=by simp[Array.getD,hi]
  rw[e];show hn
theorem cJ.rev(h:cJ n p)(i j:Nat):cJ n (kas_rev p i j):=(mirror_perm p i j _).trans h
theorem cJ.bub(h:cJ n p)(i j:Nat):cJ n (bubble p i j):=(bubble_perm p i j).trans h
def iK{α:Type}(lt:Nat->Nat->Option Bool)(t:KasT α)(P:α->Prop):Prop:=∃a,bM lt t=some a/\P a
section
variable {α β:Type}{lt:Nat->Nat->Option Bool}{n:Nat}
theorem iK.ret(h:P a):iK lt (.ret a) P:=⟨a,rfl,h⟩
theorem iK.bind(hf:∀a,P a->iK lt (f a) R):∀{t:KasT α},iK lt t P->iK lt (t.bind f) R
 |.ret a,⟨a',e,h⟩=>by cases e;show hf _ h|.ask i j k,⟨a',e,h⟩=>by
  unfold bM at e;cases el:lt i j with
  |none=>rw[el]at e;cases e|some b=>
   rw[el]at e;let⟨c,e1,h1⟩:=iK.bind hf (t:=k b) ⟨a',e,h⟩;show⟨c,?_,h1⟩;change bM lt (.ask i j λb=>(k b).bind f)=some c;unfold bM;rw[el];show e1
def Tot(n:Nat)(lt:Nat->Nat->Option Bool):Prop:=∀i j,i<n->j<n->∃b,lt i j=some b
variable (ht:Tot n lt)(hn:0<n)
include ht hn
end
section
variable {lt:Nat->Nat->Option Bool}{n:Nat}
theorem zgd(h:∀k,1<=k->k<n->lt (p.getD k 0) (p.getD (k-1) 0)=some false):∀f k,1<=k->k+f=n->iK lt (kas_asc p f k) λr=>r=n
 |0,k,h1,e=>.ret gV|f+1,k,h1,e=>by
  let⟨a,e1,e2⟩:=zgd h f (k+1) gV gV;show⟨a,?_,e2⟩;unfold kas_asc bM;rw[h k h1 gV];show e1
theorem zeJ(hk:k<n):(List.range n).toArray.getD k 0=k:=by
 simp[Array.getD,hk]
theorem zf1(hn:0<n)(h:∀k,k+1<n->lt (k+1) k=some false):bM lt (kas_sort n)=some (List.range n).toArray:=by
 let h1:iK lt (kas_asc (List.range n).toArray (n-1) 1) λr=>r=n:=zgd (λk a b=>by
  rw[zeJ b,zeJ gV];let:=h (k-1) gV
  rwa [show k-1+1=k by lia]at this) _ _ (bQ _) gV
 let h2:iK lt (kas_count n (List.range n).toArray) λr=>r=(n,(List.range n).toArray):=by
  show iK.bind (λr hr=>?_) h1;subst hr;rw[if_pos V8];show .ret rfl
 let h3:iK lt (kas_sort n) λr=>r=(List.range n).toArray:=by
  show iK.bind (λr hr=>?_) h2;subst hr;rw[if_neg (nU _)];show .ret rfl
 let⟨a,e,rfl⟩:=h3;show e
end
theorem zhu(hk:(xs.all jt||xs.all iz)=true)(uM:xs.length<64)(h:∀k,k+1<xs.length->uQ xs (k+1) k=some false):uR xs=some xs:=by
 unfold uR;rw[if_pos hk];unfold oA;by_cases h2:xs.length<2
 .rw[if_pos h2]
 .rw[if_neg h2,if_pos uM,zf1 gV h];dsimp only;rw[if_pos V8]
  congr 1
  apply List.ext_getElem
  .simp
  .intro i a b;simp[gJ,b]
noncomputable def cI(p:Int×Int):D:=.tup [.int p.1,.int p.2]
end Mi
namespace Mi
open PySem
theorem W.walk{c:List D}{f:D->List D->M (List D)}{s:S}{acc:List D}{P:List D->S->Prop}(I:Nat->List D->S->Prop)(h0:I 0 acc s)(hb:∀i x acc s,c[i]?=some x->I i acc s->W (f x acc) s λa s'=>I (i+1) a s')
  (he:∀acc s,I c.length acc s->P acc s):W (Mi.walk (.fix c) f (c.length+1) 0 acc) s P:=by
 let key:∀n i acc s,i+n=c.length->I i acc s->W (Mi.walk (.fix c) f (n+1) i acc) s P:=by
  intro n
  induction n with
  |zero=>
   intro i acc s hi hI;let e:c[i]?=none:=by rw[oU];lia
   let:i=c.length:=by lia
   subst this;show⟨acc,s,?_,he acc s hI⟩;unfold Mi.walk;simp only[Src.at,e]
  |succ n ih=>
   intro i acc s hi hI;let bV:i<c.length:=by lia
   let e:c[i]?=some c[i]:=dW bV;let⟨a,s',eb,vH⟩:=hb i c[i] acc s e hI;let⟨a2,s2,e2,q⟩:=ih (i+1) a s' gV vH;show⟨a2,s2,?_,q⟩;unfold Mi.walk;simp only[Src.at,e,M.bd,eb];show e2
 show key c.length 0 acc s gV h0
section
variable {ao:Nat->Nat->Bool}{F:Fn}{J:Vs}{s:S}{P:Xv->S->Prop}
theorem Kan{fz:Bool}{elt:E}{tg:List Nat}{it:Wk}{fr:List Nat}{many:Nat}{cond:Eo}{c:List D}(g:D->Option D)(hc:c.length<=sizeLine)
  (hw:W (mW ao true F it J) s λcn s1=>cn=(.fix c,c.length)/\s1=s)
  (hb:∀x∈c,∃J',gZ tg x (blk many fr J)=some J'/\W (qN ao true F cond J') s λb s1=>s1=s/\(if b=true then W (ev ao true F elt J') s λy s2=>s2=s/\∃d,y=.d d/\g x=some d else g x=none))
  (h:W (newL fz (c.filterMap g)) s P):W (ev ao true F (.comp fz elt tg it fr many cond) J) s P:=by
 change W (_root_.ite (true=true) _ _) s P
 rw[if_pos rfl];show W.bd (hw.imp λcn s1=>?_);rintro⟨rfl,rfl⟩;show W.bd ?_;show W.walk (c:=c) (λi acc s'=>s'=s1/\acc=(c.take i).filterMap g) ⟨rfl,rfl⟩ (λi x acc s' e hI=>?_) (λacc s' hI=>?_)
 .obtain⟨rfl,rfl⟩:=hI;let hi:i<c.length:=(h_.mp e).1;let ht:c.take (i+1)=c.take i++[x]:=by rw[HD,e];rfl
  let hl:((c.take i).filterMap g).length<sizeLine:=Nv (Ho _ _) (by rw[oX];lia);let⟨J',e1,h1⟩:=hb x (iH e);show W.bd (W.opt e1 ?_);show W.bd (W.qt (h1.imp λb s2=>?_));rintro⟨rfl,h2⟩;rw[ht,Nh];cases b
  .rw[if_neg J0]at h2 ⊢;show W.ret ⟨rfl,?_⟩;simp[h2]
  .rw[if_pos rfl]at h2 ⊢;show W.bd (W.qt (h2.imp λy s3=>?_));rintro⟨rfl,d,rfl,eg⟩;show W.bd (W.dat ?_);rw[if_pos hl];show W.ret ⟨rfl,?_⟩;simp[eg]
 .obtain⟨rfl,rfl⟩:=hI;rw[Ad];show h
end
section
variable {ao:Nat->Nat->Bool}{aj:Bool}{F:Fn}{J:Vs}{s:S}{P:Xv->S->Prop}
theorem KaA(h:W (ev ao aj F a J) s λx s1=>W (rd x) s1 λd s2=>∃b,lN ao d k=some b/\P (.d (.bl b)) s2):W (ev ao aj F (.iy a k) J) s P:=
 W.bd (h.imp λ_ _ h=>W.bd (h.imp λ_ _ ⟨_,e,h⟩=>W.bd (W.opt e (W.ret h))))
theorem Kay(h:W (ev ao aj F a J) s λx s1=>W (ev ao aj F b J) s1 λy s2=>W (gM [x,y]) s2 λds s3=>W (bN true (prim p ds)) s3 λt s4=>W (Mi.bool t) s4 λk s5=>
  W (if k=true then M.bd (ev ao aj F c J) λz=>M.bd (gM [y,z]) λds=>bN true (prim q ds) else M.ret (.d (.bl false))) s5 P):W (ev ao aj F (.yC p q a b c) J) s P:=
 W.bd (h.imp λ_ _ h=>W.bd (h.imp λ_ _ h=>W.bd (h.imp λ_ _ h=>W.bd (h.imp λ_ _ h=>W.bd h))))
end
noncomputable def Lg(fz:Bool):Option Rz->Option Xv
 |some (.dat d)=>some (.d d)|some (.nw ys)=>match fz with
  |true=>some (.d (.fl ys))|false=>none
 |none=>none
noncomputable def addQ:D->D->Option Rz
 |.int i,.int j=>some (.dat (.int (i+j)))|_,_=>none
noncomputable def Bs:List D->Option Rz
 |a::r=>match r with
  |b::r=>match r with
   |[]=>addQ a b|_::_=>none
  |[]=>none
 |[]=>none
noncomputable def quick:Pr->Bool
 |.J6=>false|.rgt=>false|.mul=>false|.fdiv=>false|.mod=>false|.pow=>false|.divmod=>false|.sorted=>false|.qJ=>false|.J7=>false|.mult=>false|.Ar=>false|.repr=>false|.str1=>false|.rgl=>false|.J5=>false|.rM=>false|.shl=>false|.shr=>false|.band=>false|.gw=>false|_=>true
noncomputable def qW(p:Pr)(ds:List D):Option Rz:=match p with
 |.add=>Bs ds|p=>match quick p with
  |true=>prim p ds|false=>none
theorem Lh{ds:List D}{r:Rz}(h:Bs ds=some r):Dw ds=some r:=by
 cases ds with
 |nil=>cases h|cons a t=>cases t with
  |nil=>cases h|cons b t=>cases t with
   |cons _ _=>cases h|nil=>cases a with
    |int i=>cases b with
     |int j=>show h|_=>cases h
    |_=>cases h
theorem Ez{p:Pr}{ds:List D}{r:Rz}(h:qW p ds=some r):prim p ds=some r:=by
 cases p with
 |add=>show Lh h|_=>first|exact h|cases h
noncomputable def Vr(fz:Bool)(ds:List D):Option Xv:=match fz with
 |true=>some (.d (.fl ds))|false=>none
noncomputable def Li:Xv->Option D
 |.d x=>some x|.l _=>none
noncomputable def obP(c:Nat):Xv->Option (List D)
 |.d (.ob e fs)=>if e=c then some fs else none|_=>none
noncomputable def notP:Xv->Option Xv
 |.d (.bl b)=>some (.d (.bl (!b)))|_=>none
noncomputable def Vt(r:Option Xv):Xv->Option Xv
 |.d (.bl true)=>r|.d (.bl false)=>some (.d (.bl false))|_=>none
noncomputable def orP(r:Option Xv):Xv->Option Xv
 |.d (.bl true)=>some (.d (.bl true))|.d (.bl false)=>r|_=>none
section
variable (ao:Nat->Nat->Bool)
mutual
noncomputable def iD:E->Vs->Option Xv
 |.c d,_=>some (.d d)|.v i,J=>J[i]?.join|.pr fz p xs,J=>(qg xs J).bind λds=>Lg fz (qW p ds)|.tup xs,J=>(qg xs J).bind λds=>some (.d (.tup ds))|.lst fz xs,J=>(qg xs J).bind λds=>Vr fz ds|.not a,J=>(iD a J).bind notP|.and a b,J=>(iD a J).bind (Vt (iD b J))|.or a b,J=>(iD a J).bind (orP (iD b J))|.iy a k,J=>(iD a J).bind λx=>(Li x).bind λd=>(lN ao d k).bind λb=>some (.d (.bl b))|.of o c i,J=>(iD o J).bind λx=>(obP c x).bind λfs=>fs[i]?.map .d|_,_=>none
noncomputable def qg:Es->Vs->Option (List D)
 |.nil,_=>some []|.cons a r,J=>(iD a J).bind λx=>(Li x).bind λd=>(qg r J).bind λds=>some (d::ds)
end
noncomputable def qX:Es->Vs->Option (List Xv)
 |.nil,_=>some []|.cons a r,J=>(iD ao a J).bind λx=>(qX r J).bind λxs=>some (x::xs)
end
theorem m8{α β:Type}{o:Option α}{f:α->Option β}{b:β}(h:o.bind f=some b):∃a,o=some a/\f a=some b:=v8.mp h
theorem jC{α β:Type}{m:M α}{k:α->M β}{s s':S}{a:α}(e:m s=some (.ok a,s')):M.bd m k s=k a s':=by
 change (match m s with|some (.ok a,s')=>k a s'|some (.er c f,s')=>some (.er c f,s')|none=>none)=_;rw[e]
theorem EY(s:S):∀ds:List D,gM (ds.map .d) s=some (.ok ds,s)
 |[]=>rfl|d::r=>(jC (s':=s) (a:=d) rfl).trans ((jC (EY s r)).trans rfl)
theorem vI(s:S):∀ds:List D,fV (ds.map .d) s=some (.ok ds,s)
 |[]=>rfl|d::r=>(jC (s':=s) (a:=d) rfl).trans ((jC (vI s r)).trans rfl)
theorem Vu{fz:Bool}{p:Pr}{ds:List D}{x:Xv}{s:S}(h:Lg fz (qW p ds)=some x):bN fz (prim p ds) s=some (.ok x,s):=by
 cases o:qW p ds with
 |none=>rw[o]at h;cases h|some r=>
  rw[o]at h;rw[Ez o];cases r with
  |dat d=>cases h;rfl|nw ys=>cases fz with
   |true=>cases h;rfl|false=>cases h
section
variable {ao:Nat->Nat->Bool}{aj:Bool}{F:Fn}{J:Vs}{s:S}
theorem vJ(e:E):∀x:Xv,iD ao e J=some x->ev ao aj F e J s=some (.ok x,s):=by
 show E.rec (motive_1:=λe=>∀x:Xv,iD ao e J=some x->ev ao aj F e J s=some (.ok x,s)) (motive_2:=λ_=>True) (motive_3:=λxs=>∀ds:List D,qg ao xs J=some ds->evs ao aj F xs J s=some (.ok (ds.map .d),s)) (motive_4:=λ_=>True)
  ?c ?v ?pr (λ_ _ _ _ _ _ _ _ _ h=>nomatch h) (λ_ _ _ _ _ _ _ _ _ _ _ _ h=>nomatch h) ?and ?or ?not (λ_ _ _ _ _ _ _ h=>nomatch h) ?tup ?lst (λ_ _ _ h=>nomatch h) (λ_ _ _ _ h=>nomatch h) ?iy (λ_ _ _ _ _ _ _ _ h=>nomatch h) (λ_ _ _ _ _ _ _ _ h=>nomatch h) (λ_ _ _ _ _ h=>nomatch h) (λ_ _ _ h=>nomatch h)
  (λ_ _ _ _ _ _ _ _ _ _ _ h=>nomatch h) (λ_ _ _ _ _ _ _ _ _ _ _ _ _ _ h=>nomatch h) (λ_ _ _ _ _ h=>nomatch h) ?of (λ_ _ _ _ _ h=>nomatch h) (λ_ _ _ _ _ _ _ h=>nomatch h) (λ_ h=>nomatch h) (λ_ _ _ _ _ _ h=>nomatch h) (λ_ _ _ _ _ h=>nomatch h) (λ_ _ _ h=>nomatch h) (λ_ _ _ _ _ _ h=>nomatch h) (λ_ _ _ _ _ h=>nomatch h) (λ_ _ _ _ _ _ _ h=>nomatch h) (λ_ h=>nomatch h)
  (λ_ _=>trivial) (λ_ _ _ _=>trivial) (λ_ _ _ _=>trivial) (λ_ _=>trivial) (λ_ _=>trivial) ?nil ?cons trivial (λ_ _=>trivial) e
 case c=>intro d x h;cases h;rfl
 case v=>intro i x h;show(show M.opt (J[i]?.join) s=_ from by rw[show J[i]?.join=some x from h];rfl)
 case pr=>
  intro fz p xs ih x h;let⟨ds,e1,e2⟩:=m8 h;show(jC (ih _ e1)).trans ((jC (EY s ds)).trans (Vu e2))
 case tup=>
  intro xs ih x h;let⟨ds,e1,e2⟩:=m8 h;cases e2;show(jC (ih _ e1)).trans ((jC (vI s ds)).trans rfl)
 case lst=>
  intro fz xs ih x h;let⟨ds,e1,e2⟩:=m8 h;cases fz with
  |false=>cases e2|true=>cases e2;show(jC (ih _ e1)).trans ((jC (vI s ds)).trans rfl)
 case not=>
  intro a ih x h;let⟨y,e1,e2⟩:=m8 h;cases y with
  |l n=>cases e2|d y=>cases y with
   |bl b=>cases e2;show(jC (ih _ e1)).trans rfl|_=>cases e2
 case and=>
  intro a b ih ih2 x h;let⟨y,e1,e2⟩:=m8 h;cases y with
  |l n=>cases e2|d y=>cases y with
   |bl b=>cases b with
    |true=>show(jC (ih _ e1)).trans (ih2 _ e2)|false=>cases e2;show(jC (ih _ e1)).trans rfl
   |_=>cases e2
 case or=>
  intro a b ih ih2 x h;let⟨y,e1,e2⟩:=m8 h;cases y with
  |l n=>cases e2|d y=>cases y with
   |bl b=>cases b with
    |true=>cases e2;show(jC (ih _ e1)).trans rfl|false=>show(jC (ih _ e1)).trans (ih2 _ e2)
   |_=>cases e2
 case iy=>
  intro a k ih x h;let⟨y,e1,e2⟩:=m8 h;cases y with
  |l n=>cases e2|d y=>
   let⟨d,e3,e4⟩:=m8 e2;cases e3;let⟨b,e5,e6⟩:=m8 e4;cases e6;show(jC (ih _ e1)).trans ((jC (s':=s) (a:=y) rfl).trans ((jC (s':=s) (a:=b) ?_).trans rfl));rw[e5];rfl
 case of=>
  intro o c i ih x h;let⟨y,e1,e2⟩:=m8 h;let⟨fs,e3,e4⟩:=m8 e2;show(jC (ih _ e1)).trans ((jC (s':=s) (a:=fs) ?_).trans ?_)
  .cases y with
   |l n=>cases e3|d y=>cases y with
    |ob e gs=>
     let e3:(if e=c then some gs else none)=some fs:=e3;change (if e=c then M.ret gs else M.no) s=_;split at e3
     .rename_i h;cases e3;rw[if_pos h];rfl
     .cases e3
    |_=>cases e3
  .show M.opt (fs[i]?.map Xv.d) s=_;rw[e4];rfl
 case nil=>intro ds h;cases h;rfl
 case cons=>
  intro a r ih ih2 ds h;let⟨y,e1,e2⟩:=m8 h;cases y with
  |l n=>cases e2|d y=>
   let⟨d,e3,e4⟩:=m8 e2;cases e3;let⟨rs,e5,e6⟩:=m8 e4;cases e6;show(jC (ih _ e1)).trans ((jC (ih2 _ e5)).trans rfl)
theorem vK:∀(xs:Es) (ds:List D),qg ao xs J=some ds->evs ao aj F xs J s=some (.ok (ds.map .d),s)
 |.nil,ds,h=>by cases h;rfl|.cons a r,ds,h=>by
  let⟨y,e1,e2⟩:=m8 h;cases y with
  |l n=>cases e2|d y=>
   let⟨d,e3,e4⟩:=m8 e2;cases e3;let⟨rs,e5,e6⟩:=m8 e4;cases e6;show(jC (vJ a _ e1)).trans ((jC (vK r _ e5)).trans rfl)
theorem m9:∀(xs:Es) {vs:List Xv},qX ao xs J=some vs->evs ao aj F xs J s=some (.ok vs,s)
 |.nil,vs,h=>by cases h;rfl|.cons a r,vs,h=>by
  let⟨y,e1,e2⟩:=m8 h;let⟨ys,e3,e4⟩:=m8 e2;cases e4;show(jC (vJ a _ e1)).trans ((jC (m9 r e3)).trans rfl)
variable {P:Xv->S->Prop}
theorem W.pv{e:E}{x:Xv}(h:iD ao e J=some x)(k:P x s):W (ev ao aj F e J) s P:=W.eq (vJ e _ h) k
theorem KaW{f:Nat}{xs:Es}{vs:List Xv}(h:qX ao xs J=some vs)(k:W (cG (F f) vs) s P):W (ev ao aj F (.call f xs) J) s P:=Kax (W.eq (m9 xs h) k)
theorem KaX{fz:Bool}{p:Pr}{xs:Es}{ds:List D}(h:qg ao xs J=some ds)(k:W (bN fz (prim p ds)) s P):W (ev ao aj F (.pr fz p xs) J) s P:=Le (W.eq (vK xs _ h) (W.eq (EY s ds) k))
theorem KaV{xs:Es}{vs:List Xv}{P:List Xv->S->Prop}(h:qX ao xs J=some vs)(k:P vs s):W (evs ao aj F xs J) s P:=W.eq (m9 xs h) k
end
section
variable {ao:Nat->Nat->Bool}{aj:Bool}{F:Bool->Fn}{J:Vs}{s:S}{Q:Out->S->Prop}{e:E}{r:b_}
theorem Kbd{i:Nat}{x:Xv}(h:iD ao e J=some x)(k:WS (exs ao aj F r (J.set i (some x))) s Q):WS (exs ao aj F (.cons (.asg (.nm i) e) r) J) s Q:=WS.cons (Kbj (W.pv h k))
theorem Kbe{x:Xv}(h:iD ao e J=some x)(k:Q (.rt x) s):WS (exs ao aj F (.cons (.ret e) r) J) s Q:=WS.cons (Vq (W.pv h k))
theorem Kbc{b:Bool}{t u:b_}(h:iD ao e J=some (.d (.bl b)))(k:WS (if b=true then exs ao aj F t J else exs ao aj F u J) s λo s'=>match o with|.nx J'=>WS (exs ao aj F r J') s' Q|.rt x=>Q (.rt x) s'|_=>False):WS (exs ao aj F (.cons (.iff e t u) r) J) s Q:=WS.cons (GQ (W.pv h (W.bool k)))
end
def WR{α:Type}(m:M α)(s:S)(c:Nat)(fs:List D):Prop:=∃s',m s=some (.er c fs,s')
section
variable {α β:Type}{m:M α}{k:α->M β}{s:S}{c:Nat}{fs:List D}
theorem Ka6(h:W m s λa s'=>WR (k a) s' c fs):WR (M.bd m k) s c fs:=by
 let⟨a,s',e,s2,e2⟩:=h;show⟨s2,by unfold M.bd;rw[e];show e2⟩
theorem WR.cV(hl:locs xs=[])(h:WR (F (eF 0 xs)) [] c fs):WR (cG F xs) s c fs:=by
 let⟨s1,e⟩:=h;show⟨s,?_⟩;unfold cG;rw[hl,if_pos Ce];simp only[ju,e,dB]
end
theorem WR.call(hT:T f=some d)(hl:xs.length=d.iY)
  (h:WS (exs ao aj (λc=>Mi.call ao T k c) d.body (xs.map some++List.replicate (d.many-d.iY) none)) s λo _=>∃J,o=.er c fs J):WR (Mi.call ao T (k+1) aj f xs) s c fs:=by
 let⟨o,s',e,J,rfl⟩:=h;unfold Mi.call;simp only[hT,if_pos hl];unfold WR;simp only[e];show⟨_,rfl⟩
section
variable {ao:Nat->Nat->Bool}{aj:Bool}{F:Bool->Fn}{J:Vs}{s:S}{Q:Out->S->Prop}{c:Nat}{fs:List D}
theorem Kbb(h:WR m s c fs)(q:∀s',Q (.er c fs J) s'):WS (Mi.ofM m J k) s Q:=by
 let⟨s',e⟩:=h;show⟨_,s',by unfold Mi.ofM;rw[e],q s'⟩
theorem Vv(h:WS (ex ao aj F a J) s λo s'=>(∃c fs J',o=.er c fs J')/\Q o s'):WS (exs ao aj F (.cons a r) J) s Q:=by
 let⟨o,s',e,⟨c,fs,J',rfl⟩,q⟩:=h;show⟨_,s',by unfold exs Mi.cU;rw[e],q⟩
theorem Kbf(h:WR (ev ao aj (F aj) e J) s c fs)(q:∀s',Q (.er c fs J) s'):WS (ex ao aj F (.ret e) J) s Q:=Kbb h q
theorem Kbm{c:Nat}{kp:Bool}{xs:Es}(h:W (evs ao true (F true) xs J) s λvs s1=>W (fV vs) s1 λds s2=>Q (.er c (if kp=true then ds else []) J) s2):WS (ex ao true F (.rise c kp xs) J) s Q:=by
 show WS.wR (m2:=λ_=>none) (WS.ofM (W.bd (h.imp λvs s1 h=>h.imp λds s2 h=>?_)));show⟨_,s2,rfl,h⟩
theorem Vw{m:MS}{k:Vs->MS}(h:WS m s λo s'=>match o with|.nx J'=>WS (k J') s' Q|.rt x=>Q (.rt x) s'|_=>False):WS (Mi.cU m k) s Q:=by
 let⟨o,s',e,q⟩:=h;unfold WS Mi.cU;rw[e];cases o with
 |nx J'=>show q|rt x=>show⟨_,_,rfl,q⟩|bk _=>show q.elim|ct _=>show q.elim|er _ _ _=>show q.elim
theorem Vx{F:Fn}{i:Nat}{x:Xv}(h:Q (.nx (J.set i (some x))) s):WS (store ao aj F (.nm i) x J) s Q:=⟨_,s,rfl,h⟩
theorem Kbq{F:Fn}{is:List Nat}{d:D}(h:su ((lQ d).bind λds=>iB is (ds.map .d) J) λJ'=>Q (.nx J') s):WS (store ao true F (.tp is) (.d d) J) s Q:=by
 let⟨J',e,q⟩:=h;show WS.wR (m2:=λ_=>none) (WS.ofM (W.bd (W.dat (W.opt e (WS.nx q)))))
theorem Kbs(hb:WS (exs ao true F b J) s λo s'=>(∃x,o=.rt x)/\Q o s'):WS (ex ao true F (.rN b d i h) J) s Q:=by
 let⟨o,s',e,⟨x,rfl⟩,q⟩:=hb;show⟨_,s',by unfold ex;rw[if_pos rfl];simp only[e],q⟩
theorem Kbt(hb:WS (exs ao true F b J) s λo s'=>∃c fs J',o=.er c fs J'/\ao c d=true/\WS (exs ao false F h (J'.set i (some (.d (.exc c fs))))) s' λr s2=>(∃x,r=.rt x)/\Q r s2):WS (ex ao true F (.rN b d i h) J) s Q:=by
 let⟨o,s',e,c,fs,J',rfl,hs,r,s2,e2,⟨x,rfl⟩,q⟩:=hb;show⟨_,s2,by unfold ex;rw[if_pos rfl];simp only[e,hs,if_true,e2];rfl,q⟩
end
section
variable {ao:Nat->Nat->Bool}{aj:Bool}{F:Fn}{J:Vs}{s:S}{P:Xv->S->Prop}
theorem W.iy{a:E}{k:Kd}(h:W (ev ao aj F a J) s λx s1=>W (rd x) s1 λd s2=>su (lN ao d k) λb=>P (.d (.bl b)) s2):W (ev ao aj F (.iy a k) J) s P:=KaA h
theorem W.yC{p q:Pr}{a b c:E}(h:W (ev ao aj F a J) s λx s1=>W (ev ao aj F b J) s1 λy s2=>W (gM [x,y]) s2 λds s3=>W (bN true (prim p ds)) s3 λt s4=>W (Mi.bool t) s4 λk s5=>
  W (if k=true then M.bd (ev ao aj F c J) λz=>M.bd (gM [y,z]) λds=>bN true (prim q ds) else M.ret (.d (.bl false))) s5 P):W (ev ao aj F (.yC p q a b c) J) s P:=Kay h
theorem KaB{c a b:E}(h:W (ev ao aj F c J) s λx s1=>W (Mi.bool x) s1 λk s2=>W (if k=true then ev ao aj F a J else ev ao aj F b J) s2 P):W (ev ao aj F (.ite c a b) J) s P:=W.bd (h.imp λ_ _ h=>W.bd h)
theorem KaK{a:E}{P:Src×Nat->S->Prop}(h:W (ev ao aj F a J) s λx s1=>W (qM x) s1 P):W (mW ao aj F (.enum a) J) s P:=W.bd h
theorem KaJ{xs:List D}{P:Src×Nat->S->Prop}(h:P (.fix (enumFrom 0 xs),(enumFrom 0 xs).length) s):W (qM (.d (.fl xs))) s P:=⟨_,s,rfl,h⟩
theorem KaL{a b:E}{P:Src×Nat->S->Prop}(h:W (ev ao aj F a J) s λx s1=>W (ev ao aj F b J) s1 λy s2=>W (Mi.int x) s2 λi s3=>W (Mi.int y) s3 λj s4=>(gB i&&gB j)=true/\P (.fix (jh i j),(jh i j).length) s4):W (mW ao aj F (.rg a b) J) s P:=by
 show W.bd (h.imp λx s1 h=>W.bd (h.imp λy s2 h=>W.bd (h.imp λi s3 h=>W.bd (h.imp λj s4 h=>?_))));rw[if_pos h.1];show W.ret h.2
theorem KaN{a b:E}{P:Src×Nat->S->Prop}(h:W (ev ao aj F a J) s λx s1=>W (ev ao aj F b J) s1 λy s2=>W (pY x) s2 λxs s3=>W (pY y) s3 λys s4=>P (.fix (List.zipWith (λp q=>.tup [p,q]) xs ys),(List.zipWith (λ(p q:D)=>D.tup [p,q]) xs ys).length) s4):W (mW ao aj F (.zip a b) J) s P:=
 W.bd (h.imp λx s1 h=>W.bd (h.imp λy s2 h=>W.bd (h.imp λxs s3 h=>W.bd (h.imp λys s4 h=>W.ret h))))
theorem W.jw{xs:List D}{P:List D->S->Prop}(h:P xs s):W (pY (.d (.tup xs))) s P:=W.ret h
theorem W.tL{xs:List D}{P:List D->S->Prop}(h:P xs s):W (pY (.d (.fl xs))) s P:=W.ret h
theorem Kai{P:Bool->S->Prop}(h:P true s):W (qN ao aj F .no J) s P:=W.ret h
theorem Kaj{a:E}{P:Bool->S->Prop}(h:W (ev ao aj F a J) s λx s1=>W (Mi.bool x) s1 P):W (qN ao aj F (.yes a) J) s P:=W.bd h
theorem Kap(g:D->D)(hc:c.length<=sizeLine)
  (hw:W (mW ao true F it J) s λcn s1=>cn=(.fix c,c.length)/\s1=s)
  (hb:∀x∈c,su (gZ tg x (blk many fr J)) λJ'=>W (ev ao true F elt J') s λy s2=>s2=s/\y=.d (g x))
  (h:W (newL fz (c.map g)) s P):W (ev ao true F (.comp fz elt tg it fr many .no) J) s P:=by
 show Kan (c:=c) (λx=>some (g x)) hc hw (λx hx=>?_) ?_
 .obtain⟨J',e,h1⟩:=hb x hx;show⟨J',e,W.ret ⟨rfl,?_⟩⟩;rw[if_pos rfl];show h1.imp λy s2 ⟨a,b⟩=>⟨a,_,b,rfl⟩
 .rw[show c.filterMap (λx=>some (g x))=c.map g by rw[<-List.filterMap_eq_map];rfl];show h
theorem lX{α:Type}{f:α->D}{l:List α}{fz:Bool}{elt:E}{tg:List Nat}{it:Wk}{fr:List Nat}{many:Nat}{cond:Eo}(g:α->Option D)(hc:l.length<=sizeLine)
  (hw:W (mW ao true F it J) s λcn s1=>cn=(.fix (l.map f),(l.map f).length)/\s1=s)
  (hb:∀x∈l,su (gZ tg (f x) (blk many fr J)) λJ'=>W (qN ao true F cond J') s λb s1=>s1=s/\(b=true->W (ev ao true F elt J') s λy s2=>s2=s/\∃d,y=.d d/\g x=some d)/\(b=false->g x=none))
  (h:W (newL fz (l.filterMap g)) s P):W (ev ao true F (.comp fz elt tg it fr many cond) J) s P:=by
 change W (_root_.ite (true=true) _ _) s P
 rw[if_pos rfl];show W.bd (hw.imp λcn s1=>?_);rintro⟨rfl,rfl⟩;show W.bd ?_;show W.walk (c:=l.map f) (λi acc s'=>s'=s1/\acc=(l.take i).filterMap g) ⟨rfl,rfl⟩ (λi x acc s' e hI=>?_) (λacc s' hI=>?_)
 .obtain⟨rfl,rfl⟩:=hI;rw[ji]at e;cases el:l[i]? with
  |none=>rw[el]at e;cases e|some y=>
   rw[el]at e;cases e;let hi:i<l.length:=(h_.mp el).1;let ht:l.take (i+1)=l.take i++[y]:=by rw[HD,el];rfl
   let hl:((l.take i).filterMap g).length<sizeLine:=Nv (Ho _ _) (by rw[oX];lia);let⟨J',e1,h1⟩:=hb y (iH el);show W.bd (W.opt e1 ?_);show W.bd (W.qt (h1.imp λb s2=>?_));rintro⟨rfl,h2,h3⟩;rw[ht,Nh];cases b
   .rw[if_neg J0];show W.ret ⟨rfl,?_⟩;simp[h3 rfl]
   .rw[if_pos rfl];show W.bd (W.qt ((h2 rfl).imp λy s3=>?_));rintro⟨rfl,d,rfl,eg⟩;show W.bd (W.dat ?_);rw[if_pos hl];show W.ret ⟨rfl,?_⟩;simp[eg]
 .obtain⟨rfl,rfl⟩:=hI;rw[aY,Ad];show h
theorem Vy{c:List D}{fz:Bool}{elt:E}{tg:List Nat}{it:Wk}{fr:List Nat}{many:Nat}{cond:Eo}(I:Nat->List D->S->Prop)
  (hw:W (mW ao true F it J) s λcn s1=>cn=(.fix c,c.length)/\I 0 [] s1)
  (hb:∀i x acc s,c[i]?=some x->I i acc s->su (gZ tg x (blk many fr J)) λJ'=>W (qN ao true F cond J') s λb s1=>(b=true->W (ev ao true F elt J') s1 λy s2=>∃d,y=.d d/\acc.length<sizeLine/\I (i+1) (acc++[d]) s2)/\(b=false->I (i+1) acc s1))
  (h:∀acc s,I c.length acc s->W (newL fz acc) s P):W (ev ao true F (.comp fz elt tg it fr many cond) J) s P:=by
 change W (_root_.ite (true=true) _ _) s P
 rw[if_pos rfl];show W.bd (hw.imp λcn s1=>?_);rintro⟨rfl,h0⟩;show W.bd ?_;show W.walk (c:=c) I h0 (λi x acc s' e hI=>?_) (λacc s' hI=>h acc s' hI);let⟨J',e1,h1⟩:=hb i x acc s' e hI;show W.bd (W.opt e1 ?_);show W.bd (W.qt (h1.imp λb s2=>?_));rintro⟨h2,h3⟩;cases b
 .rw[if_neg J0];show W.ret (h3 rfl)
 .rw[if_pos rfl];show W.bd (W.qt ((h2 rfl).imp λy s3=>?_));rintro⟨d,rfl,hl,hi⟩;show W.bd (W.dat ?_);rw[if_pos hl];show W.ret hi
theorem W.push{o a:E}(h:W (ev ao aj F o J) s λx s1=>W (Mi.cT x) s1 λ_ s2=>W (ev ao aj F a J) s2 λy s3=>W (Mi.dat y) s3 λd s4=>W (Mi.cT x) s4 λnx s5=>nx.2.length<sizeLine/\P (.d .non) (s5.set nx.1 (.lst (nx.2++[d])))):W (ev ao aj F (.push o a) J) s P:=by
 show W.bd (h.imp λx s1 h=>W.bd (h.imp λ_ s2 h=>W.bd (h.imp λy s3 h=>W.bd (h.imp λd s4 h=>W.bd (h.imp λnx s5 h=>?_)))));rw[if_pos h.1];show W.bd (Qa (W.ret h.2))
end
theorem Lj{s:S}{o:SO}:(s++[o])[s.length]?=some o:=by simp
theorem zhI:(s++[o]).set s.length o'=s++[o']:=by simp
theorem Y{P R:Prop}(k:R)(h:Bx R->P:=by
 intro k
 repeat (first|with_reducible first
   |refine Kbd (by with_unfolding_all rfl) ?_|refine Kbe (by with_unfolding_all rfl) ?_|refine Kbc (by with_unfolding_all rfl) ?_|refine W.pv (by with_unfolding_all rfl) ?_|refine KaX (by with_unfolding_all rfl) ?_|refine KaW (by with_unfolding_all rfl) ?_|refine KaV (by with_unfolding_all rfl) ?_
   |refine WS.cons ?_|refine WS.nil ?_|refine Vw ?_|refine Vx ?_|refine Kbq ?_|refine Kbj ?_|refine Vq ?_|refine GQ ?_|refine Kbo ?_|refine Kbn ?_|refine Kbk ?_|refine Kbg ?_|refine Kbh ?_|refine Kbm ?_|refine WS.wR ?_|refine WS.Ey ?_|refine WS.Lf (by with_unfolding_all rfl) ?_|refine WS.GP (by with_unfolding_all rfl) ?_|refine su.mk (by with_unfolding_all rfl) ?_
   |refine GK ?_|refine Qc ?_|refine W.eC ?_|refine W.eV (by with_unfolding_all rfl) ?_|refine Le ?_|refine Kax ?_|refine KaI ?_|refine KaD ?_|refine KaE ?_|refine Kaw ?_|refine KaF ?_|refine KaB ?_|refine W.iy ?_|refine W.yC ?_|refine W.push ?_|refine KaH ?_|refine Kaz ?_|refine KaQ ?_|refine KaR ?_|refine KaM ?_|refine KaL ?_|refine KaN ?_|refine KaK ?_|refine Kai ?_|refine Kaj ?_|refine W.wR ?_|refine W.Ey ?_|refine W.Lf (by with_unfolding_all rfl) ?_|refine W.GP (by with_unfolding_all rfl) ?_
   |refine GJ ?_|refine P_ ?_|refine GF ?_|refine Vo (by with_unfolding_all rfl) ?_|refine Vo Lj ?_|refine Kas ?_|refine Kat ?_|refine W.dat ?_|refine W.bool ?_|refine W.int ?_|refine W.cT (by with_unfolding_all rfl) ?_|refine W.cT Lj ?_|refine Qa ?_|refine Ka3 ?_|refine KaJ ?_|refine W.jw ?_|refine W.tL ?_|refine Ka2 ?_|refine KaP ?_|refine KaO ?_
   |refine bI (by first|(with_unfolding_all rfl)|exact zm7 (by first|(left;constructor<;>lia)|(right;constructor<;>lia))|exact zoN gV|exact ziP gV|exact zh0 gV|exact zoj J0) ?_|refine rZ (by with_unfolding_all rfl) ?_
   |refine W.ret ?_|refine W.bd ?_
   | (dsimp only))
 all_goals show k.o):P:=h ⟨k⟩
def lx(p q:Int×Int):Prop:=p.1<q.1\/p.1=q.1/\p.2<q.2
noncomputable def bw(n:Int)(ps:List (Int×Int)):D:=.tup [.int n,.tup (ps.map cI)]
structure Web(n:Int)(ps:List (Int×Int)):Prop where
 h1:1<=n
 h8:n<=8
 tie:∀p∈ps,0<=p.1/\p.1<p.2/\p.2<n
 inc:ps.Pairwise lx
 len:(ps.length:Int)<=7*n
theorem zju(h:∀x∈xs,x=.bl true):fK xs=some (List.replicate xs.length true):=by
 induction xs with
 |nil=>rfl|cons x r ih=>
  rw[h x V8];change Option.map _ (fK r)=_;rw[ih λy hy=>h y (by simp[hy])];rfl
theorem Qd(h:∀x∈xs,x=.bl true):prim .all [.fl xs]=some (.dat (.bl true)):=by
 change Option.map _ (fK xs)=_;rw[zju h];simp
theorem zmC(p q:Int×Int):dz (k+1) (cI p) (cI q)=some (decide (p=q)):=by
 change jF (dz k) [.int p.1,.int p.2] [.int q.1,.int q.2]=_;let hi:∀a b:Int,dz k (.int a) (.int b)=some (a==b):=by intro a b;cases k<;>rfl
 simp only[jF,hi];let⟨a,b⟩:=p;let⟨c,d⟩:=q;by_cases h1:a=c
 .by_cases h2:b=d
  .simp[h1,h2]
  .simp[h1,h2]
 .simp[h1]
theorem zm9(p:Int×Int)(ps:List (Int×Int)):memD (cI p) (ps.map cI)=some (decide (p∈ps)):=by
 induction ps with
 |nil=>rfl|cons q r ih=>
  simp only[kJ,memD,ih,zmC]
  congr 1
  rw[<-Bool.decide_or];apply N6.mpr;rw[cX]
  constructor
  .rintro(h|h)
   .exact .inl h.symm
   .exact .inr h
  .rintro(h|h)
   .exact .inl h.symm
   .exact .inr h
theorem Vz{f:Bool->Bool}{p:Int×Int}{ps:List (Int×Int)}:yG f [cI p,.tup (ps.map cI)]=some (.dat (.bl (f (decide (p∈ps))))):=by
 change Option.map _ (memD (cI p) (ps.map cI))=_;rw[zm9];rfl
theorem znU(h:lx p q):ltI [p.1,p.2] [q.1,q.2]=true:=by
 simp only[ltI];rcases h with h|⟨h,h2⟩
 .rw[if_neg gV];simp[h]
 .rw[if_pos h,if_neg gV];simp[h2]
theorem Ln(xs:List D):cut xs (some 1) none=xs.drop 1:=by
 unfold cut;rw[HT.jY];rw[show (some 1:Option Int)=some ((1:Nat):Int) from rfl,HT.mH];cases xs with
 |nil=>rfl|cons x r=>simp
theorem zjd:∀{ps:List (Int×Int)},ps.Pairwise lx->∀x∈List.zipWith (λ(p q:D)=>D.tup [p,q]) (ps.map cI) ((ps.map cI).drop 1),∃p q,x=.tup [cI p,cI q]/\lx p q
 |[],_,x,hx=>by simp at hx|[p],_,x,hx=>by simp at hx|p::q::r,h,x,hx=>by
  rw[show (List.map cI (p::q::r)).drop 1=List.map cI (q::r) from rfl]at hx;let e:List.zipWith (λ(p q:D)=>D.tup [p,q]) (List.map cI (p::q::r)) (List.map cI (q::r))=.tup [cI p,cI q]::List.zipWith (λ(p q:D)=>D.tup [p,q]) (List.map cI (q::r)) (List.map cI r):=rfl;rw[e,cX]at hx;rcases hx with rfl|hx
  .exact⟨p,q,rfl,(z_.mp h).1 q V8⟩
  .exact zjd (ps:=q::r) (z_.mp h).2 x hx
theorem zg2:∀(xs:List D) (j i:Nat),(enumFrom j xs)[i]?=xs[i]?.map λx=>.tup [.int ((j+i:Nat):Int),x]
 |[],j,i=>by simp[enumFrom]|x::r,j,0=>by simp[enumFrom]|x::r,j,i+1=>by
  simp only[enumFrom,Hq,zg2 r (j+1) i];rw[show j+1+i=j+(i+1) by lia]
theorem zex:∀(xs:List D) (j:Nat),(enumFrom j xs).length=xs.length
 |[],j=>rfl|x::r,j=>by simp[enumFrom,zex r (j+1)]
theorem zf9(h:uR xs=some ys):prim .sorted [.fl xs]=some (.nw ys):=by
 change Option.map Rz.nw (uR xs)=_;rw[h];rfl
theorem zij{es:List Int}(uM:es.length<64)(h:es.Pairwise (·<·)):uR (es.map D.int)=some (es.map D.int):=by
 show zhu ?_ (by rw[aY];show uM) λk hk=>?_
 .rw[Hy]
  left
  rw[HS,gY];intro x _;rfl
 .rw[aY]at hk;unfold uQ;rw[ji,ji,dW hk,dW (show k<es.length by lia)];let:=ud.mp h k (k+1) gV hk gV;simp only[Option.map_some]
  congr 1
  apply f9
  lia
noncomputable def endOf(i:Int)(p:Int×Int):Option Int:=if p.1=i then some p.2 else if p.2=i then some p.1 else none
noncomputable def bK(i:Int)(ps:List (Int×Int)):List Int:=ps.filterMap (endOf i)
theorem zeB(h:Web n ps)(i:Int):(bK i ps).Pairwise (·<·):=by
 let ht:=h.tie;let hi:=h.inc;clear h;unfold bK
 induction ps with
 |nil=>simp|cons p r ih=>
  let⟨hp,hr⟩:=z_.mp hi;let ih:=ih (λq hq=>ht q (by simp[hq])) hr;rw[sO]
  split
  .exact ih
  .rename_i b eb;show z_.mpr ⟨λc hc=>?_,ih⟩;let⟨q,hq,eq⟩:=zY.mp hc;let l:=hp q hq;let tp:=ht p V8;let tq:=ht q (by simp[hq]);unfold endOf at eb eq;unfold lx at l;split at eb
   .cases eb;split at eq
    .cases eq;lia
    .split at eq
     .cases eq;lia
     .cases eq
   .split at eb
    .cases eb;split at eq
     .cases eq;lia
     .split at eq
      .cases eq;lia
      .cases eq
    .cases eb
theorem zen(h:Web n ps)(he:e∈bK i ps):0<=e/\e<n:=by
 let⟨q,hq,eq⟩:=zY.mp he;let tq:=h.tie q hq;unfold endOf at eq;split at eq
 .cases eq;lia
 .split at eq
  .cases eq;lia
  .cases eq
theorem VB:∀{es:List Int} {a n:Int},es.Pairwise (·<·)->(∀e∈es,a<=e/\e<n)->a<=n->(es.length:Int)<=n-a
 |[],a,n,_,_,h=>by simp;lia|e::r,a,n,h,hb,ha=>by
  let⟨h1,h2⟩:=z_.mp h;let he:=hb e V8;let:=VB (es:=r) (a:=e+1) (n:=n) h2 (λx hx=>⟨by let:=h1 x hx;lia,(hb x (by simp[hx])).2⟩) gV;rw[fP]
  lia
theorem Lp{a b:Int}{i:Nat}{x:D}(h:(jh a b)[i]?=some x):x=.int (a+i)/\a+i<b:=by
 unfold jh at h;rw[ji]at h;cases e:(List.range (b-a).toNat)[i]? with
 |none=>rw[e]at h;cases h|some j=>
  rw[e]at h;cases h;let⟨hl,rfl⟩:=h_.mp e;rw[nG]at hl;rw[List.getElem_range];show⟨rfl,by lia⟩
theorem Lq:(jh a b).length=(b-a).toNat:=by unfold jh;simp
theorem pA(h1 : -1000<=a)(h2:a<=1000):gB a=true:=by
 unfold gB;rw[cO gV,cO gV];rfl
theorem E_(hl:locs xs=[s.length])(h:W (F (eF 0 xs)) [o] λv s1=>∃d o',v=.d d/\s1=[o']/\P (.d d) (s++[o'])):W (cG F xs) (s++[o]) P:=by
 show Vp (n:=s.length) (o:=o) hl V8 (h.imp λv s1=>?_);rintro⟨d,o',rfl,rfl,hp⟩;show⟨d,o',rfl,rfl,by rw[show (s++[o]).set s.length o'=s++[o'] by simp];show hp⟩
theorem zke{ns:List Int}{lo hi:Option Int}{x:D}(h:x∈cut (ns.map D.int) lo hi):∃n,x=.int n:=by
 let:=Nm (Fy h);let⟨n,_,rfl⟩:=cW.mp this;show⟨n,rfl⟩
theorem zjH{ns:List Int}{lo hi:Option Int}:(cut (ns.map D.int) lo hi).length<=ns.length:=by
 unfold cut;rw[oX,uf,aY]
 lia
theorem Lr{α:Type}[DecidableEq α]:∀{l m:List α},l.Nodup->(∀x∈l,x∈m)->l.length<=m.length
 |[],m,_,_=>jJ _|x::r,m,h,hm=>by
  let⟨h1,h2⟩:=rE.mp h;let hx:x∈m:=hm x V8;let:=Lr (l:=r) (m:=m.erase x) h2 λy hy=>(Rf (λe=>by subst e;show h1 hy)).mpr (hm y (by simp[hy]));rw[Q0 hx]at this;let:=List.length_pos_of_mem hx;rw[fP]
  lia
noncomputable def at'(fs:List Int)(j:Int):Int:=fs.getD j.toNat 0
theorem Ls{fs:List Int}{j:Int}(h0:0<=j)(h:j<fs.length):∃(i:Nat) (hi:i<fs.length),j=i/\at' fs j=fs[i]:=by
 let⟨i,rfl⟩:=Fx h0;let hi:i<fs.length:=by lia
 show⟨i,hi,rfl,?_⟩;unfold at';rw[xO,gJ,dW hi];rfl
theorem Qe{fs:List Int}{j:Int}(h0:0<=j)(h:j<fs.length):at' fs j∈fs:=by
 let⟨i,hi,_,e⟩:=Ls h0 h;rw[e];show pG _
theorem zpm{fs:List Int}{j:Int}(h0:0<=j)(h:j<fs.length):(fs.map D.int)[j.toNat]?=some (.int (at' fs j)):=by
 let⟨i,hi,rfl,e⟩:=Ls h0 h;rw[e,xO,ji,dW hi];rfl
theorem m_{fs gs:List Int}{j:Int}(h0:0<=j)(h:j<fs.length):at' (fs++gs) j=at' fs j:=by
 let⟨i,hi,rfl,e⟩:=Ls h0 h;unfold at';rw[xO,gJ,gJ,nQ hi]
theorem Bt:at' (fs++[x]) fs.length=x:=by
 unfold at';rw[xO,gJ,pF (bQ _)];simp
theorem VD(h0:0<=j)(h:xs[j.toNat]?=some x):prim .ix [.fl xs,.int j]=some (.dat x):=by
 let⟨k,rfl⟩:=Fx h0;show Ew h
theorem zn4(h0:0<=j)(h:j<fs.length):prim .ix [.fl (fs.map .int),.int j]=some (.dat (.int (at' fs j))):=VD h0 (zpm h0 h)
theorem sy(h0:0<=j)(h:j<fs.length):prim .ix [.tup (fs.map .int),.int j]=some (.dat (.int (at' fs j))):=VD h0 (zpm h0 h)
theorem VF:L2.tD (n+1) (-1)=some n:=by
 unfold L2.tD;simp
 lia
theorem Bu:prim .ix [.fl (xs++[x]),.int (-1)]=some (.dat x):=by
 change Option.map Rz.dat (L2.qC (xs++[x]) (-1))=_;let:L2.qC (xs++[x]) (-1)=some x:=by
  unfold L2.qC;rw[bZ];change (L2.tD (xs.length+1) (-1)).bind _=_;rw[VF];simp
 rw[this];rfl
noncomputable def fW(k a b:Int):Int:=if k-(if a-b<0 then -(a-b) else a-b)<(if a-b<0 then -(a-b) else a-b) then k-(if a-b<0 then -(a-b) else a-b) else (if a-b<0 then -(a-b) else a-b)
theorem vL(hd:1<=d):d<=fW k a b↔(d<=a-b/\a-b<=k-d)\/(d<=b-a/\b-a<=k-d):=by
 unfold fW
 split<;>split<;>lia
theorem zha(j:Int)(ls:List Int):memD (.int j) (ls.map .int)=some (decide (j∈ls)):=by
 induction ls with
 |nil=>rfl|cons q r ih=>
  let hi:dz 50 (.int q) (.int j)=some (q==j):=rfl;simp only[kJ,memD,ih,hi]
  congr 1
  by_cases h:q=j
  .subst h;simp
  .let h2:¬j=q:=λe=>h e.symm;simp[h,h2]
structure cj(n k d:Int)(ps:List (Int×Int))(hs:List Int):Prop where
 len:(hs.length:Int)=n
 lo:∀x∈hs,0<=x/\x<k
 fit:∀p∈ps,d<=fW k (at' hs p.1) (at' hs p.2)
section
variable {ao:Nat->Nat->Bool}{aj:Bool}{F:Bool->Fn}{J:Vs}{s:S}{Q:Out->S->Prop}
theorem WS.wh(I:Nat->Vs->S->Prop)(hm:m<j8)(h0:I m J s)
  (step:∀m J s,I m J s->W (ev ao aj (F aj) c J) s λx s1=>W (Mi.bool x) s1 λk s2=>(k=true->WS (exs ao aj F b J) s2 λo s3=>(∃J' m',o=.nx J'/\m'<m/\I m' J' s3)\/(∃x,o=.rt x/\Q (.rt x) s3))/\(k=false->Q (.nx J) s2)):WS (ex ao aj F (.wh c b) J) s Q:=by
 let key:∀n m J s,m<n->I m J s->WS (iC (λJ=>M.bd (ev ao aj (F aj) c J) Mi.bool) (λJ=>exs ao aj F b J) n J) s Q:=by
  intro n
  induction n with
  |zero=>intro m J s h;show absurd h (Oa _)|succ n ih=>
   intro m J s hmn hI;let⟨x,s1,e1,k,s2,e2,hk⟩:=step m J s hI;unfold iC;show WS.ofM (W.bd ⟨x,s1,e1,k,s2,e2,?_⟩);cases k with
   |false=>show⟨_,s2,by rw[if_neg J0],hk.2 rfl⟩|true=>
    let⟨o,s3,e3,hr⟩:=hk.1 rfl;rcases hr with ⟨J',m',rfl,tY,vH⟩|⟨x,rfl,hq⟩
    .obtain⟨o2,s4,e4,q⟩:=ih m' J' s3 gV vH;show⟨o2,s4,by rw[if_pos rfl,e3];show e4,q⟩
    .exact⟨_,s3,by rw[if_pos rfl,e3],hq⟩
 show key j8 m J s hm h0
end
section
variable {ao:Nat->Nat->Bool}{aj:Bool}{F:Fn}{J:Vs}{s:S}{P:Xv->S->Prop}
theorem W.pop(h:W (ev ao aj F o J) s λv s1=>v=.l n/\s1[n]?=some (.lst (xs++[x]))/\P (.d x) (s1.set n (.lst xs))):W (ev ao aj F (.pop o) J) s P:=by
 show W.bd (h.imp λv s1 h=>?_);let⟨rfl,e,h⟩:=h;show W.bd (W.cT e ?_);let e1:(xs++[x]).getLast?=some x:=by simp
 let e2:(xs++[x]).dropLast=xs:=by simp
 simp only[e1,e2];show W.bd (Qa (W.ret h))
end
def Ge(h r:List Int):Prop:=∀j:Nat,j<r.length->(∀i:Nat,i<j->at' h i=at' r i)->at' r j<=at' h j
theorem zfL(g:Ge h r)(h0:∀j:Nat,0<=at' h j):Ge h (r++[0]):=by
 intro j hj ha;rw[bZ]at hj;by_cases hl:j<r.length
 .rw[m_ gV gV];show g j hl λi hi=>by rw[ha i hi,m_ gV gV]
 .let:j=r.length:=by simp at hj;lia
  subst this;rw[Bt];show h0 _
theorem zi6(g:Ge h (r++[x]))(hx:(∀i:Nat,i<r.length->at' h i=at' r i)->at' h r.length≠x):Ge h (r++[x+1]):=by
 intro j hj ha;rw[bZ]at hj;by_cases hl:j<r.length
 .rw[m_ gV gV];let:=g j (by rw[bZ];lia) λi hi=>by rw[ha i hi,m_ gV gV,m_ gV gV]
  rwa [m_ gV gV]at this
 .let:j=r.length:=by simp at hj;lia
  subst this;rw[Bt];let ha':∀i:Nat,i<r.length->at' h i=at' r i:=λi hi=>by rw[ha i hi,m_ gV gV]
  let:=g r.length V8 λi hi=>by rw[ha' i hi,m_ gV gV]
  rw[Bt]at this;let:=hx ha'
  lia
theorem zls(g:Ge h (r++[y]++[x]))(hx:(∀i:Nat,i<(r++[y]).length->at' h i=at' (r++[y]) i)->False):Ge h (r++[y+1]):=by
 let g1:Ge h (r++[y]):=by
  intro j hj ha;let:=g j (by rw[bZ];lia) λi hi=>by rw[ha i hi,m_ (fs:=r++[y]) (gs:=[x]) gV gV]
  rwa [m_ gV gV]at this
 show zi6 g1 λha e=>hx λi hi=>?_;rw[bZ]at hi;by_cases hl:i<r.length
 .rw[ha i hl,m_ gV gV]
 .let:i=r.length:=by simp at hi;lia
  subst this;rw[Bt,e]
noncomputable def val(B:Nat):List Int->Nat->Nat
 |[],_=>0|x::r,n=>x.toNat*B^(n-1)+val B r (n-1)
theorem Fb(B:Nat):∀(r t:List Int) (n:Nat),val B (r++t) n=val B r n+val B t (n-r.length)
 |[],t,n=>by simp[val]|x::r,t,n=>by
  simp only[List.cons_append,val,Fb B r t (n-1),fP];rw[show n-1-r.length=n-(r.length+1) by lia]
  lia
theorem VG{B:Nat}(hB:0<B):∀{r:List Int} {n:Nat},(∀z∈r,z<B)->r.length<=n->val B r n+B^(n-r.length)<=B^n
 |[],n,_,_=>by simp[val]|x::r,n,h,hl=>by
  rw[fP]at hl;let ih:=VG hB (r:=r) (n:=n-1) (λz hz=>h z (by simp[hz])) gV;let hx:x.toNat+1<=B:=by let:=h x V8;lia
  simp only[val,fP];rw[show n-(r.length+1)=n-1-r.length by lia];let h2:B^n=B*B^(n-1):=by
   conv=>lhs;rw[show n=n-1+1 by lia]
   rw[Nat.pow_succ,Nat.mul_comm]
  rw[h2];let h3:=Rg (B^(n-1)) hx;rw[Cj]at h3
  lia
noncomputable def left'(B n:Nat)(r:List Int):Nat:=(n+1)*(B^n-val B r n)+(n-r.length)
theorem zg3(h:r.length<n):left' B n (r++[0])<left' B n r:=by
 unfold left';rw[Fb];simp[val]
 lia
theorem zfM{B n a b la lb:Nat}(h:a<b)(hb:b<=B^n)(hl:la<=n)(pO:lb<=n):(n+1)*(B^n-b)+(n-lb)<(n+1)*(B^n-a)+(n-la):=by
 let:B^n-b+1<=B^n-a:=by lia
 let:=Nat.mul_le_mul_left (n+1) this;rw[Nat.mul_add]at this
 lia
theorem zhG{B n:Nat}{r:List Int}{x:Int}(h0:0<=x)(hx:x+1<B)(hr:∀z∈r,z<B)(h:r.length<n):left' B n (r++[x+1])<left' B n (r++[x]):=by
 let h1:=VG (B:=B) gV (r:=r++[x+1]) (n:=n) (λz hz=>by
  rcases dw.mp hz with hz|hz
  .exact hr z hz
  .let:z=x+1:=by simpa using hz
   lia) (by rw[bZ];simp;lia)
 unfold left';show zfM ?_ gV (by simp;lia) (by simp;lia);rw[Fb,Fb];simp only[val];rw[show (x+1).toNat=x.toNat+1 by lia,Cj];let:0<B^(n-r.length-1):=Nat.pow_pos gV
 lia
theorem zhW{B n:Nat}{r:List Int}{y x:Int}(h0:0<=y)(hy:y+1<B)(hx0:0<=x)(hx:x<B)(hr:∀z∈r,z<B)(h:r.length+1<n):left' B n (r++[y+1])<left' B n (r++[y]++[x]):=by
 let h1:=VG (B:=B) gV (r:=r++[y+1]) (n:=n) (λz hz=>by
  rcases dw.mp hz with hz|hz
  .exact hr z hz
  .let:z=y+1:=by simpa using hz
   lia) (by rw[bZ];simp;lia)
 unfold left';show zfM ?_ gV (by simp;lia) (by simp;lia);rw[Fb,Fb,Fb];simp only[val,bZ];rw[show (y+1).toNat=y.toNat+1 by lia,Cj];let e1:B^(n-r.length-1)=B*B^(n-(r.length+[y].length)-1):=by
  conv=>lhs;rw[show n-r.length-1=n-(r.length+[y].length)-1+1 by simp;lia]
  rw[Nat.pow_succ,Nat.mul_comm]
 let h2:x.toNat+1<=B:=by lia
 let h3:=Rg (B^(n-(r.length+[y].length)-1)) h2;rw[Cj]at h3;let:0<B^(n-(r.length+[y].length)-1):=Nat.pow_pos gV
 lia
theorem Lw{m:Nat}{f:Nat->Int}{j:Int}(h0:0<=j)(h:j<m):at' ((List.range m).map f) j=f j.toNat:=by
 unfold at';rw[gJ,ji,Rh gV];rfl
theorem zjE(xs:List D):dz 50 (.fl xs) (.fl [])=some (decide (xs=[])):=by
 cases xs with
 |nil=>rfl|cons x r=>rfl
theorem zio(xs:List D):dz 50 (.tup xs) (.tup [])=some (decide (xs=[])):=by
 cases xs with
 |nil=>rfl|cons x r=>rfl
theorem GR:Av f [.fl xs,.fl []]=some (.dat (.bl (f (decide (xs=[]))))):=by
 change Option.map _ (dz 50 (.fl xs) (.fl []))=_;rw[zjE];rfl
theorem zll:Av f [.tup xs,.tup []]=some (.dat (.bl (f (decide (xs=[]))))):=by
 change Option.map _ (dz 50 (.tup xs) (.tup []))=_;rw[zio];rfl
theorem zmk{f:Bool->Bool}{j:Int}{ls:List Int}:yG f [.int j,.fl (ls.map .int)]=some (.dat (.bl (f (decide (j∈ls))))):=by
 change Option.map _ (memD (.int j) (ls.map .int))=_;rw[zha];rfl
theorem zi3{f:Bool->Bool}{j:Int}{ls:List Int}:yG f [.int j,.tup (ls.map .int)]=some (.dat (.bl (f (decide (j∈ls))))):=by
 change Option.map _ (memD (.int j) (ls.map .int))=_;rw[zha];rfl
noncomputable def aM(k d:Int):D:=.tup [.int k,.int d]
noncomputable def zB(k d:Int)(ps:List (Int×Int))(hs:List Int):Bool:=ps.all λp=>decide (d<=fW k (at' hs p.1) (at' hs p.2))
theorem oM:zB k d ps hs=true↔∀p∈ps,d<=fW k (at' hs p.1) (at' hs p.2):=by
 unfold zB;rw[gY];show⟨λh p hp=>fj (h p hp),λh p hp=>cO (h p hp)⟩
section
variable {n k d:Int}{ps:List (Int×Int)}{ls:List Int}
structure Good(n k d:Int)(ps:List (Int×Int))(ls:List Int)(h:List Int):Prop where
 hu:cj n k d ps h
 z:at' h 0=0
 l:∀j∈ls,at' h j=0
theorem zkk(w:Web n ps)(hd:1<=d)(hk:1<=k)(hls:∀j∈ls,(0<=j/\j<n)/\∀p∈ps,p.1≠j/\p.2≠j){hs:List Int}(h:cj n k d ps hs):∃g,Good n k d ps ls g:=by
 let h1:=w.h1;let hl:=h.len;let hlo:∀j:Int,0<=j->j<n->0<=at' hs j/\at' hs j<k:=λj a b=>h.lo _ (Qe a gV);let z:=hlo 0 gV gV;let hr:∀x:Int,0<=x/\x<k->0<=(if x<at' hs 0 then x-at' hs 0+k else x-at' hs 0)/\(if x<at' hs 0 then x-at' hs 0+k else x-at' hs 0)<k:=by
  intro x hx
  split<;>lia
 show⟨(List.range n.toNat).map λ(i:Nat)=>if (i:Int)∈ls then 0 else (if at' hs i<at' hs 0 then at' hs i-at' hs 0+k else at' hs i-at' hs 0),⟨?_,λx hx=>?_,λp hp=>?_⟩,?_,λj hj=>?_⟩
 .rw[aY,nG];lia
 .obtain⟨i,hi,rfl⟩:=cW.mp hx;let:=gC.mp hi
  split
  .lia
  .exact hr _ (hlo i gV gV)
 .let ht:=w.tie p hp;rw[Lw gV gV,Lw gV gV];let e1:((p.1.toNat:Nat):Int)=p.1:=by lia
  let e2:((p.2.toNat:Nat):Int)=p.2:=by lia
  rw[e1,e2,if_neg (λq=>(hls _ q).2 p hp |>.1 rfl),if_neg (λq=>(hls _ q).2 p hp |>.2 rfl)];let f:=(vL hd).mp (h.fit p hp);rw[vL hd];let a:=hlo p.1 gV gV;let b:=hlo p.2 gV gV
  split<;>split<;>lia
 .rw[Lw gV gV];change (if ((0:Nat):Int)∈ls then 0 else if at' hs ((0:Nat):Int)<at' hs 0 then _ else _)=(0:Int)
  split
  .rfl
  .show (if at' hs 0<at' hs 0 then _ else at' hs 0-at' hs 0)=(0:Int);rw[if_neg gV]
   lia
 .let:=(hls j hj).1;rw[Lw gV gV];let e1:((j.toNat:Nat):Int)=j:=by lia
  rw[e1,if_pos hj]
structure zE(n k d:Int)(ps:List (Int×Int))(ls:List Int)(r:List Int)(x:Int):Prop where
 lo:∀z∈r,0<=z/\z<k
 x0:0<=x
 xk:x<=k
 len:(r.length:Int)<n
 fit:∀p∈ps,p.2<r.length->d<=fW k (at' r p.1) (at' r p.2)
 ge:∀h,Good n k d ps ls h->Ge h (r++[x])
theorem zfW(g:Good n k d ps ls h)(hk:1<=k)(j:Nat):0<=at' h j:=by
 by_cases hj:j<h.length
 .exact(g.hu.lo _ (Qe gV gV)).1
 .unfold at';rw[xO,gJ,Hs gV];show Int.le_refl _
theorem VH(hn:1<=n)(hk:1<=k)(hp:∀p∈ps,0<=p.1/\p.1<p.2):zE n k d ps ls [] 0 where
 lo:=by simp
 x0:=by lia
 xk:=by lia
 len:=by simp;lia
 fit:=λp hp' h=>by let:=hp p hp';simp at h;lia
 ge:=λh g=>zfL (r:=[]) (λj hj=>by simp at hj) (zfW g hk)
theorem zjW(w:Web n ps)(S:zE n k d ps ls (r++[y]) x)(hx:x=k\/(0<x/\((r++[y]).length:Int)∈ls)):zE n k d ps ls r (y+1) where
 lo:=λz hz=>S.lo z (nR _ hz)
 x0:=by let:=S.lo y V8;lia
 xk:=by let:=S.lo y V8;lia
 len:=by let:=S.len;rw[bZ]at this;simp at this;lia
 fit:=λp hp h=>by
  let ht:=w.tie p hp;let:=S.fit p hp (by rw[bZ];simp;lia)
  rwa [m_ gV gV,m_ gV gV]at this
 ge:=λh g=>by
  show zls (S.ge h g) λha=>?_;let hge:=S.ge h g (r++[y]).length (by rw[bZ (as:=r++[y])];simp) λi hi=>by rw[ha i hi,m_ (fs:=r++[y]) (gs:=[x]) gV gV]
  rw[Bt]at hge;let hlen:=S.len;let hl:=g.hu.len;rcases hx with rfl|⟨h0,pO⟩
  .let:=(g.hu.lo _ (Qe (fs:=h) (j:=((r++[y]).length:Nat)) gV gV)).2
   lia
  .let:=g.l _ pO
   lia
theorem zjO(w:Web n ps)(S:zE n k d ps ls r x)(hx:x≠k)(hn:∃p∈ps,p.2=r.length/\fW k (at' (r++[x]) p.1) x<d):zE n k d ps ls r (x+1) where
 lo:=S.lo
 x0:=by let:=S.x0;lia
 xk:=by let:=S.xk;lia
 len:=S.len
 fit:=S.fit
 ge:=λh g=>zi6 (S.ge h g) λha e=>by
  let⟨p,hp,e2,hg⟩:=hn;let ht:=w.tie p hp;let:=g.hu.fit p hp;rw[e2,e]at this;let⟨i,hi⟩:=Fx ht.1;rw[hi,ha i gV]at this;rw[hi,m_ gV gV]at hg
  lia
theorem zhn(S:zE n k d ps ls r x)(hk:1<=k)(hx:x≠k)(hl:(r.length:Int)+1<n)(Dp:∀p∈ps,0<=p.1/\p.1<p.2)(hn:∀p∈ps,p.2=r.length->d<=fW k (at' (r++[x]) p.1) x):zE n k d ps ls (r++[x]) 0 where
 lo:=λz hz=>by
  rcases dw.mp hz with hz|hz
  .exact S.lo z hz
  .let:z=x:=by simpa using hz
   let:=S.x0;let:=S.xk
   lia
 x0:=by lia
 xk:=by lia
 len:=by rw[bZ];simp;lia
 fit:=λp hp h=>by
  let ht:=Dp p hp;rw[bZ]at h;simp at h;by_cases hl:p.2<r.length
  .rw[m_ gV gV,m_ gV gV];show S.fit p hp hl
  .let e:p.2=r.length:=by lia
   let:=hn p hp e;rw[e,Bt];show this
 ge:=λh g=>zfL (S.ge h g) (zfW g hk)
theorem zhD(S:zE n k d ps ls r x)(hx:x≠k)(hl:(r.length:Int)+1=n)(Dp:∀p∈ps,0<=p.1/\p.1<p.2/\p.2<n)(hn:∀p∈ps,p.2=r.length->d<=fW k (at' (r++[x]) p.1) x):cj n k d ps (r++[x]) where
 len:=by rw[bZ];simp;lia
 lo:=λz hz=>by
  rcases dw.mp hz with hz|hz
  .exact S.lo z hz
  .let:z=x:=by simpa using hz
   let:=S.x0;let:=S.xk
   lia
 fit:=λp hp=>by
  let ht:=Dp p hp;by_cases hl:p.2<r.length
  .rw[m_ gV gV,m_ gV gV];show S.fit p hp hl
  .let e:p.2=r.length:=by lia
   let:=hn p hp e;rw[e,Bt];show this
theorem zmX(hd:1<=d)(hne:ps≠[])(hk:k<2*d)(hs:List Int):¬cj n k d ps hs:=λh=>by
 cases ps with
 |nil=>show hne rfl|cons p r=>
  let:=(vL hd).mp (h.fit p V8)
  lia
theorem zif(hd:1<=d)(ht:∃x y z,(x,y)∈ps/\(x,z)∈ps/\(y,z)∈ps)(hk:k<3*d)(hs:List Int):¬cj n k d ps hs:=λh=>by
 let⟨x,y,z,h1,h2,h3⟩:=ht;let a:=(vL hd).mp (h.fit _ h1);let b:=(vL hd).mp (h.fit _ h2);let c:=(vL hd).mp (h.fit _ h3);dsimp only at a b c
 lia
end
theorem Ka5{c:Src}{xs:List D}{f:D->List D->M (List D)}{s1:S}{acc:List D}{P:List D->S->Prop}(hc:∀i,c.at i s1=some xs[i]?)(I:Nat->List D->Prop)(h0:I 0 acc)(hb:∀i x acc,xs[i]?=some x->I i acc->W (f x acc) s1 λa s'=>s'=s1/\I (i+1) a)
  (he:∀acc,I xs.length acc->P acc s1):W (Mi.walk c f (xs.length+1) 0 acc) s1 P:=by
 let key:∀n i acc,i+n=xs.length->I i acc->W (Mi.walk c f (n+1) i acc) s1 P:=by
  intro n
  induction n with
  |zero=>
   intro i acc hi hI;let e:xs[i]?=none:=by rw[oU];lia
   let:i=xs.length:=by lia
   subst this;show⟨acc,s1,?_,he acc hI⟩;unfold Mi.walk;simp only[hc,e]
  |succ n ih=>
   intro i acc hi hI;let bV:i<xs.length:=by lia
   let e:xs[i]?=some xs[i]:=dW bV;let⟨a,s',eb,rfl,vH⟩:=hb i xs[i] acc e hI;let⟨a2,s2,e2,q⟩:=ih (i+1) a gV vH;show⟨a2,s2,?_,q⟩;unfold Mi.walk;simp only[hc,e,M.bd,eb];show e2
 show key xs.length 0 acc gV h0
section
variable {ao:Nat->Nat->Bool}{F:Fn}{J:Vs}{s:S}{P:Xv->S->Prop}
theorem Kaq{α:Type}{f:α->D}{l:List α}{fz:Bool}{elt:E}{tg:List Nat}{it:Wk}{fr:List Nat}{many:Nat}{cond:Eo}(s1:S)(g:α->Option D)(hc:l.length<=sizeLine)
  (hw:W (mW ao true F it J) s λcn s'=>s'=s1/\cn.2=(l.map f).length/\∀i,cn.1.at i s1=some (l.map f)[i]?)
  (hb:∀x∈l,su (gZ tg (f x) (blk many fr J)) λJ'=>W (qN ao true F cond J') s1 λb s'=>s'=s1/\(b=true->W (ev ao true F elt J') s1 λy s2=>s2=s1/\∃d,y=.d d/\g x=some d)/\(b=false->g x=none))
  (h:W (newL fz (l.filterMap g)) s1 P):W (ev ao true F (.comp fz elt tg it fr many cond) J) s P:=by
 change W (_root_.ite (true=true) _ _) s P
 rw[if_pos rfl];show W.bd (hw.imp λcn s'=>?_);rintro⟨rfl,h2,h3⟩;show W.bd ?_;rw[h2];show Ka5 h3 (λi acc=>acc=(l.take i).filterMap g) rfl (λi x acc e hI=>?_) (λacc hI=>?_)
 .subst hI;rw[ji]at e;cases el:l[i]? with
  |none=>rw[el]at e;cases e|some y=>
   rw[el]at e;cases e;let hi:i<l.length:=(h_.mp el).1;let ht:l.take (i+1)=l.take i++[y]:=by rw[HD,el];rfl
   let hl:((l.take i).filterMap g).length<sizeLine:=Nv (Ho _ _) (by rw[oX];lia);let⟨J',e1,h1⟩:=hb y (iH el);show W.bd (W.opt e1 ?_);show W.bd (W.qt (h1.imp λb s2=>?_));rintro⟨rfl,h2,h3⟩;rw[ht,Nh];cases b
   .rw[if_neg J0];show W.ret ⟨rfl,?_⟩;simp[h3 rfl]
   .rw[if_pos rfl];show W.bd (W.qt ((h2 rfl).imp λy s3=>?_));rintro⟨rfl,d,rfl,eg⟩;show W.bd (W.dat ?_);rw[if_pos hl];show W.ret ⟨rfl,?_⟩;simp[eg]
 .subst hI;rw[aY,Ad];show h
end
theorem zF{α:Type}{l:List α}{f:α->D}:l.filterMap (λx=>some (f x))=l.map f:=by
 rw[<-List.filterMap_eq_map];rfl
theorem zj0{hs:List Int}{i:Nat}{x:Int}(hi:i<hs.length):hs.take i++[x]++hs.drop (i+1)=hs.set i x:=by
 rw[List.set_eq_take_append_cons_drop,if_pos hi];simp
theorem Lx{a d k:Int}(h0:0<=a)(h:a<k)(hd:0<=d)(zG:d<=k):(a+d)%k=if a+d<k then a+d else a+d-k:=by
 split
 .exact Ab gV gV
 .rw[<-Ab (show 0<=a+d-k by lia) (show a+d-k<k by lia),Rj]
noncomputable def au(k d:Int)(ps:List (Int×Int))(hs:List Int)(i:Int):List Int:=(bK i ps).filter λe=>decide (at' hs e=(at' hs i+d)%k)
theorem Kba(I:Nat->Vs->S->Prop)(h0:I 0 J s)(hb:∀i x J s,c[i]?=some x->I i J s->WS (b x J) s λo s'=>(∃J',o=.nx J'/\I (i+1) J' s')\/(∃x,o=.rt x/\Q (.rt x) s'))
  (he:∀J s,I c.length J s->Q (.nx J) s):WS (cZ (.fix c) b (c.length+1) 0 J) s Q:=by
 let key:∀n i J s,i+n=c.length->I i J s->WS (cZ (.fix c) b (n+1) i J) s Q:=by
  intro n
  induction n with
  |zero=>
   intro i J s hi hI;let e:c[i]?=none:=by rw[oU];lia
   let:i=c.length:=by lia
   subst this;show⟨_,s,?_,he J s hI⟩;unfold cZ;simp only[Src.at,e]
  |succ n ih=>
   intro i J s hi hI;let bV:i<c.length:=by lia
   let e:c[i]?=some c[i]:=dW bV;let⟨o,s',eb,hr⟩:=hb i c[i] J s e hI;rcases hr with ⟨J',rfl,vH⟩|⟨x,rfl,hq⟩
   .obtain⟨o2,s2,e2,q⟩:=ih (i+1) J' s' gV vH;show⟨o2,s2,?_,q⟩;unfold cZ;simp only[Src.at,e,eb];show e2
   .refine⟨_,s',?_,hq⟩;unfold cZ;simp only[Src.at,e,eb]
 show key c.length 0 J s gV h0
noncomputable def oN(n:Nat):List Int:=(List.range n).map λ(k:Nat)=>(k:Int)
theorem zgC{n:Nat}{j:Int}(h0:0<=j)(h:j<n):at' (oN n) j=j:=by
 unfold oN;rw[Lw h0 h]
 lia
theorem zkF{n K:Int}{ps:List (Int×Int)}(w:Web n ps)(hK:n<=K):cj n K 1 ps (oN n.toNat) where
 len:=by let:=w.h1;unfold oN;simp;lia
 lo:=λx hx=>by
  unfold oN at hx;let⟨i,hi,rfl⟩:=cW.mp hx;let:=gC.mp hi
  lia
 fit:=λp hp=>by
  let ht:=w.tie p hp;rw[zgC gV gV,zgC gV gV,vL gV]
  lia
theorem zi8{hs:List Int}{f:Int->Int}{j:Int}(h0:0<=j)(h:j<hs.length):at' (hs.map f) j=f (at' hs j):=by
 let⟨i,hi,rfl,e⟩:=Ls h0 h;rw[e];unfold at';rw[xO,gJ,ji,dW hi];rfl
theorem zid(w:Web n ps)(hd:1<=d)(h:cj n k d ps hs):cj n (2*k) (2*d) ps (hs.map λx=>2*x) where
 len:=by rw[aY];show h.len
 lo:=λx hx=>by
  let⟨y,hy,rfl⟩:=cW.mp hx;let:=h.lo y hy
  lia
 fit:=λp hp=>by
  let ht:=w.tie p hp;let hl:=h.len;let hf:=(vL hd).mp (h.fit p hp);rw[zi8 gV gV,zi8 gV gV,vL gV]
  lia
theorem Ly{n k:Int}(hn:n<=6)(hk:k<=18):(n.toNat+1)*(k.toNat+1)^n.toNat+n.toNat<1000000000:=by
 let h1:(k.toNat+1)^n.toNat<=19^n.toNat:=Nat.pow_le_pow_left gV _;let h2:19^n.toNat<=19^6:=Nat.pow_le_pow_right J0 gV;let h3:(n.toNat+1)*(k.toNat+1)^n.toNat<=7*19^6:=Nat.mul_le_mul gV gV;let h4:7*19^6=329321167:=by decide
 lia
theorem Lz{xs:List D}{i:Nat}(h:i<=xs.length):cut xs none (some (i:Int))=xs.take i:=by
 unfold cut;rw[HT.jY,HT.mH,Nat.min_eq_left h];simp
theorem zJ{xs:List D}{i:Nat}(h:i<=xs.length):cut xs (some (i:Int)) none=xs.drop i:=by
 unfold cut;rw[HT.jY,HT.mH,Nat.min_eq_left h];rw[List.take_of_length_le];rw[uf]
 lia
theorem tZ(h:xs.length+ys.length<=sizeLine):prim .add [.tup xs,.tup ys]=some (.dat (.tup (xs++ys))):=by
 change (if _ then _ else _)=_;rw[if_pos h]
theorem zkx{hs:List Int}{i:Nat}{x:Int}(hi:i<hs.length):(hs.map D.int).take i++[D.int x]++(hs.map D.int).drop (i+1)=(hs.set i x).map .int:=by
 rw[<-zj0 hi,iu,iu,HF,Od];rfl
noncomputable def wU:D->Bool
 |.exc _ _=>false|.ob _ _=>false|.any=>false|_=>true
noncomputable def LC:D->Bool
 |.int _=>true|_=>false
noncomputable def okT:D->Bool
 |.tup xs=>xs.all wU|d=>wU d
theorem zgA{α:Type}(l:List α)(f:α->Bool):fK (l.map λx=>D.bl (f x))=some (l.map f):=by
 induction l with
 |nil=>rfl|cons x r ih=>
  change Option.map _ (fK (r.map λx=>D.bl (f x)))=_;rw[ih];rfl
theorem Qf{α:Type}{l:List α}{f:α->Bool}:prim .all [.fl (l.map λx=>D.bl (f x))]=some (.dat (.bl (l.all f))):=by
 change Option.map _ (fK (l.map λx=>D.bl (f x)))=_;rw[zgA];change some (Rz.dat (.bl ((l.map f).all id)))=_;rw[HS];rfl
theorem GX(h:x∈cut xs lo hi):x∈xs:=Nm (Fy h)
theorem qY:(cut xs lo hi).length<=xs.length:=by
 unfold cut;rw[oX,uf]
 lia
end Mi
namespace Mi
open PySem PySem.W PyProof.Rows L2
structure Ord(n:Nat)(lt:Nat->Nat->Option Bool)(le:Nat->Nat->Prop):Prop where
 ans:∀i j,i<n->j<n->(lt i j=some true/\le i j)\/(lt i j=some false/\le j i)
 tr:∀i j k,i<n->j<n->k<n->le i j->le j k->le i k
section
variable {lt:Nat->Nat->Option Bool}{le:Nat->Nat->Prop}{n:Nat}
theorem Ord.rfl'(o:Ord n lt le)(hi:i<n):le i i:=by
 rcases o.ans i i hi hi with ⟨_,e⟩|⟨_,e⟩<;>show e
def gW(le:Nat->Nat->Prop)(p:Array Nat)(r:Nat):Prop:=∀a b,a<b->b<r->le (p.getD a 0) (p.getD b 0)
def wV(le:Nat->Nat->Prop)(p:Array Nat)(r:Nat):Prop:=∀a b,a<b->b<r->le (p.getD b 0) (p.getD a 0)
def LQ(le:Nat->Nat->Prop)(p:Array Nat)(l r:Nat):Prop:=∀a b,l<=a->a<r->l<=b->b<r->le (p.getD a 0) (p.getD b 0)
theorem getD_get?{p q:Array Nat}{i j:Nat}(h:p[i]?=q[j]?):p.getD i 0=q.getD j 0:=by
 let e:∀(x:Array Nat) (k:Nat),x.getD k 0=(x[k]?).getD 0:=by
  intro x k;unfold Array.getD
  split
  .rename_i h;rw[vZ h];rfl
  .rename_i h;rw[Nb gV];rfl
 rw[e,e,h]
theorem cJ.size{p:Array Nat}(h:cJ n p):p.size=n:=by let:=h.size_eq;simpa using this
theorem wW{p:Array Nat}{i j k:Nat}(hj:j<=p.size):(kas_rev p i j).getD k 0=if i<=k/\k<j then p.getD (i+j-1-k) 0 else p.getD k 0:=by
 let:=getElem?_mirror_all (xs:=p) (i:=i) hj k;unfold kas_rev
 split
 .rename_i h;rw[if_pos h]at this;show getD_get? this
 .rename_i h;rw[if_neg h]at this;show getD_get? this
theorem zeI{p:Array Nat}{src d k:Nat}(hs:src<p.size)(hd:d<=src):(bubble p src d).getD k 0=if k=src-d then p.getD src 0 else if src-d<k/\k<=src then p.getD (k-1) 0 else p.getD k 0:=by
 let:=getElem?_bubble hs d hd k;by_cases h:k=src-d
 .rw[if_pos h]at this ⊢;show getD_get? this
 .rw[if_neg h]at this ⊢;by_cases h2:src-d<k/\k<=src
  .rw[if_pos h2]at this ⊢;show getD_get? this
  .rw[if_neg h2]at this ⊢;show getD_get? this
variable (o:Ord n lt le)(hn:0<n)
include o hn
theorem vM(hi:i<n)(hj:j<n)(h1:le i j->iK lt (k true) P)(h2:le j i->iK lt (k false) P):iK lt (.ask i j k) P:=by
 rcases o.ans i j hi hj with ⟨e,hl⟩|⟨e,hl⟩
 .obtain⟨a,e1,q⟩:=h1 hl;show⟨a,by unfold bM;rw[e];show e1,q⟩
 .obtain⟨a,e1,q⟩:=h2 hl;show⟨a,by unfold bM;rw[e];show e1,q⟩
theorem zhz(hp:cJ n p)(hk:1<=k)(h:gW le p k)(hl:le (p.getD (k-1) 0) (p.getD k 0)):gW le p (k+1):=λa b hab hb=>by
 by_cases e:b=k
 .subst e;by_cases e2:a=b-1
  .subst e2;show hl
  .exact o.tr _ _ _ (hp.lt hn _) (hp.lt hn _) (hp.lt hn _) (h a (b-1) gV gV) hl
 .exact h a b hab gV
theorem LR(hp:cJ n p)(hk:1<=k)(h:wV le p k)(hl:le (p.getD k 0) (p.getD (k-1) 0)):wV le p (k+1):=λa b hab hb=>by
 by_cases e:b=k
 .subst e;by_cases e2:a=b-1
  .subst e2;show hl
  .exact o.tr _ _ _ (hp.lt hn _) (hp.lt hn _) (hp.lt hn _) hl (h a (b-1) gV gV)
 .exact h a b hab gV
theorem VJ(hp:cJ n p):∀f k,1<=k->k+f<=n->gW le p k->iK lt (kas_asc p f k) λr=>k<=r/\r<=k+f/\gW le p r/\(r<k+f->le (p.getD r 0) (p.getD (r-1) 0))
 |0,k,_,_,h=>.ret ⟨bQ _,by lia,h,λz=>by lia⟩|f+1,k,hk,hkf,h=>vM o hn (hp.lt hn _) (hp.lt hn _) (λhl=>.ret ⟨bQ _,by lia,h,λ_=>hl⟩) λhl=>by
  let⟨r,e,h1,h2,h3,h4⟩:=VJ hp f (k+1) gV gV (zhz o hn hp hk h hl);show⟨r,e,by lia,by lia,h3,λz=>h4 gV⟩
theorem zfD(hp:cJ n p)(hk:k<=n)(h:wV le p k)(ha:LQ le p l k):wV le (kas_rev p l k) k:=λa b hab hb=>by
 let hs:=hp.size;rw[wW gV,wW gV];by_cases ca:l<=a/\a<k
 .rw[if_pos ca,if_pos gV];show ha _ _ gV gV gV gV
 .rw[if_neg ca];by_cases cb:l<=b/\b<k
  .rw[if_pos cb];show h a _ gV gV
  .rw[if_neg cb];show h a b hab hb
theorem Qg:∀f {p:Array Nat} k q,cJ n p->1<=k->k+f<=n->q+1<=k->wV le p k->LQ le p (k-(q+1)) k->iK lt (kas_desc f p k q) λr=>cJ n r.1/\k<=r.2.1/\r.2.1<=k+f/\r.2.2+1<=r.2.1/\wV le r.1 r.2.1/\LQ le r.1 (r.2.1-(r.2.2+1)) r.2.1
 |0,p,k,q,hp,_,_,hq,h,ha=>.ret ⟨hp,bQ _,by dsimp only;lia,hq,h,ha⟩|f+1,p,k,q,hp,hk,hkf,hq,h,ha=>vM o hn (hp.lt hn _) (hp.lt hn _) (λhl=>by
   change iK lt (if q>0 then _ else _) _;let hs:=hp.size;let one:∀{x:Array Nat},cJ n x->LQ le x (k+1-(0+1)) (k+1):=λ{x} hx a b h1 h2 h3 h4=>by
    let:a=k:=by lia
    let:b=k:=by lia
    subst a;subst b;show o.rfl' (hx.lt hn _)
   split
   .let hp':=hp.rev (k-(q+1)) k;let h':wV le (kas_rev p (k-(q+1)) k) (k+1):=LR o hn hp' hk (zfD o hn hp gV h ha) (by
     rw[wW gV,wW gV,if_neg gV,if_pos gV];show o.tr _ _ _ (hp.lt hn _) (hp.lt hn _) (hp.lt hn _) hl (ha _ _ gV gV gV gV))
    let⟨r,e,w⟩:=Qg f (k+1) 0 hp' gV gV gV h' (one hp');show⟨r,e,w.1,by lia,by lia,w.2.2.2⟩
   .obtain⟨r,e,w⟩:=Qg f (k+1) 0 hp gV gV gV (LR o hn hp hk h hl) (one hp);show⟨r,e,w.1,by lia,by lia,w.2.2.2⟩) λhl=>vM o hn (hp.lt hn _) (hp.lt hn _) (λ_=>.ret ⟨hp,bQ _,by dsimp only;lia,hq,h,ha⟩) λpO=>by
   let hA:LQ le p (k+1-(q+1+1)) (k+1):=λa b h1 h2 h3 h4=>by
    let key:∀c,k-(q+1)<=c->c<k->le (p.getD c 0) (p.getD k 0)/\le (p.getD k 0) (p.getD c 0):=λc c1 c2=>
     ⟨o.tr _ _ _ (hp.lt hn _) (hp.lt hn _) (hp.lt hn _) (ha c (k-1) c1 c2 gV gV) hl,o.tr _ _ _ (hp.lt hn _) (hp.lt hn _) (hp.lt hn _) pO (ha (k-1) c gV gV c1 c2)⟩
    by_cases ea:a=k
    .by_cases eb:b=k
     .subst a;subst b;show o.rfl' (hp.lt hn _)
     .subst a;show(key b gV gV).2
    .by_cases eb:b=k
     .subst b;show(key a gV gV).1
     .exact ha a b gV gV gV gV
   let⟨r,e,w⟩:=Qg f (k+1) (q+1) hp gV gV gV (LR o hn hp hk h pO) hA;show⟨r,e,w.1,by lia,by lia,w.2.2.2⟩
theorem zkP(hp:cJ n p)(hk:k<=n)(h:wV le p k):gW le (kas_rev p 0 k) k:=λa b hab hb=>by
 let hs:=hp.size;rw[wW gV,wW gV,if_pos gV,if_pos gV];show h _ _ gV gV
theorem zgL(hp:cJ n p)(hk:1<=k)(L_:k<=n)(h:wV le p k):iK lt (kas_tail3 k n p) λr=>cJ n r.2/\1<=r.1/\r.1<=n/\gW le r.2 r.1:=by
 show iK.bind (λc hc=>?_) (VJ o hn (hp.rev 0 k) (n-k) k hk gV (zkP o hn hp L_ h));show⟨_,rfl,hp.rev 0 k,by dsimp only;lia,by dsimp only;lia,hc.2.2.1⟩
theorem zcu(hp:cJ n p)(hk:1<=k)(L_:k<n)(h:wV le p (k+1)):iK lt (kas_descPart k n p) λr=>cJ n r.2/\1<=r.1/\r.1<=n/\gW le r.2 r.1:=by
 show iK.bind (λr hr=>?_) (Qg o hn (n-(k+1)) (k+1) 0 hp gV gV gV h (λa b h1 h2 h3 h4=>by
  let:a=k:=by lia
  let:b=k:=by lia
  subst a;subst b;show o.rfl' (hp.lt hn _)))
 let⟨w1,w2,w3,w4,w5,w6⟩:=hr
 split
 .exact zgL o hn (w1.rev _ _) gV gV (zfD o hn w1 gV w5 w6)
 .exact zgL o hn w1 gV gV w5
theorem zj8(hp:cJ n p):iK lt (kas_count n p) λr=>cJ n r.2/\1<=r.1/\r.1<=n/\gW le r.2 r.1:=by
 show iK.bind (λk hk=>?_) (VJ o hn hp (n-1) 1 (bQ _) gV (λa b h1 h2=>by lia));let⟨k1,k2,k3,k4⟩:=hk;let hs:=hp.size;by_cases e:(k==n)=true
 .rw[if_pos e];show .ret ⟨hp,k1,by dsimp only;lia,k3⟩
 .rw[if_neg e];let L_:k<n:=by
   let:k≠n:=by simpa using e
   lia
  let hl:=k4 gV
  split
  .refine vM o hn (hp.lt hn _) (hp.lt hn _) (λ_=>.ret ⟨hp,k1,by dsimp only;lia,k3⟩) λhz=>?_;let alk:∀a b,a<k->b<k->le (p.getD a 0) (p.getD b 0):=λa b ha hb=>by
    let h1:le (p.getD a 0) (p.getD (k-1) 0):=by
     by_cases q:a=k-1
     .subst q;show o.rfl' (hp.lt hn _)
     .exact k3 a (k-1) gV gV
    let h2:le (p.getD 0 0) (p.getD b 0):=by
     by_cases q:b=0
     .subst q;show o.rfl' (hp.lt hn _)
     .exact k3 0 b gV gV
    show o.tr _ _ _ (hp.lt hn _) (hp.lt hn _) (hp.lt hn _) (o.tr _ _ _ (hp.lt hn _) (hp.lt hn _) (hp.lt hn _) h1 hz) h2
   show zcu o hn (hp.rev 0 k) k1 L_ (LR o hn (hp.rev 0 k) k1 (λa b h1 h2=>?_) ?_)
   .rw[wW gV,wW gV,if_pos gV,if_pos gV];show alk _ _ gV gV
   .rw[wW gV,wW gV,if_neg gV,if_pos gV];show o.tr _ _ _ (hp.lt hn _) (hp.lt hn _) (hp.lt hn _) hl (alk _ _ gV gV)
  .let:k=1:=by lia
   subst this;show zcu o hn hp (bQ _) L_ (LR o hn hp (bQ _) (λa b h1 h2=>by lia) hl)
theorem VL(hp:cJ n p)(h:gW le p k):∀f l r,l<=r->r<=k->r-l<=f->(∀a,a<l->le (p.getD a 0) (p.getD k 0))->(∀a,r<=a->a<k->le (p.getD k 0) (p.getD a 0))->iK lt (kas_place p k f l r) λi=>i<=k/\(∀a,a<i->le (p.getD a 0) (p.getD k 0))/\(∀a,i<=a->a<k->le (p.getD k 0) (p.getD a 0))
 |0,l,r,h1,h2,h3,h4,h5=>.ret ⟨by lia,h4,λa z=>h5 a gV⟩|f+1,l,r,h1,h2,h3,h4,h5=>by
  unfold kas_place;by_cases e:l>=r
  .rw[if_pos e];show .ret ⟨by lia,h4,λa z=>h5 a gV⟩
  .rw[if_neg e];show vM o hn (hp.lt hn _) (hp.lt hn _) (λhl=>?_) λhl=>?_
   .refine VL hp h f l ((l+r)/2) gV gV gV h4 λa z1 z2=>?_;by_cases q:a=(l+r)/2
    .subst q;show hl
    .exact o.tr _ _ _ (hp.lt hn _) (hp.lt hn _) (hp.lt hn _) hl (h _ a gV z2)
   .refine VL hp h f ((l+r)/2+1) r gV h2 gV (λa z=>?_) h5;by_cases q:a=(l+r)/2
    .subst q;show hl
    .exact o.tr _ _ _ (hp.lt hn _) (hp.lt hn _) (hp.lt hn _) (h a _ gV gV) hl
theorem znM:∀f {p:Array Nat} k,cJ n p->k+f=n->gW le p k->iK lt (kas_bin f p k) λr=>cJ n r/\gW le r n
 |0,p,k,hp,hk,h=>.ret ⟨hp,(show k=n by lia)▸h⟩|f+1,p,k,hp,hk,h=>iK.bind (λl hl=>by
   let⟨l1,l2,l3⟩:=hl;let hs:=hp.size;show znM f (k+1) (hp.bub _ _) gV λa b hab hb=>?_;rw[zeI gV gV,zeI gV gV,show k-(k-l)=l by lia];by_cases ea:a=l
   .rw[if_pos ea,if_neg gV,if_pos gV];show l3 (b-1) gV gV
   .rw[if_neg ea];by_cases ca:l<a/\a<=k
    .rw[if_pos ca,if_neg gV,if_pos gV];show h _ _ gV gV
    .rw[if_neg ca];by_cases eb:b=l
     .rw[if_pos eb];show l2 a gV
     .rw[if_neg eb];by_cases cb:l<b/\b<=k
      .rw[if_pos cb];by_cases q:a=b-1
       .lia
       .exact h _ _ gV gV
      .rw[if_neg cb];show h _ _ hab gV) (VL o hn hp h k 0 k gV (bQ _) gV (λa z=>by lia) (λa z1 z2=>by lia))
theorem zmV:iK lt (kas_sort n) λp=>cJ n p/\gW le p n:=by
 show iK.bind (λr hr=>?_) (zj8 o hn (.refl _));let⟨w1,w2,w3,w4⟩:=hr
 split
 .rw[Nat.max_eq_left w2];show znM o hn _ _ w1 gV w4
 .let:r.1=n:=by lia
  show .ret ⟨w1,this▸w4⟩
end
end Mi
namespace Ts
open PySem PySem.SetTable
theorem VN{ss:List Nat}{j:Nat}(hs:ss.Pairwise (·<·)):∀(fuel lo hi:Nat),hi-lo<=fuel->lo<=hi->hi<=ss.length->(∀i (h:i<ss.length),i<lo->ss[i]<j)->(∀i (h:i<ss.length),hi<=i->j<=ss[i])->
  below.go ss.toArray j fuel lo hi<=ss.length/\(∀i (h:i<ss.length),i<below.go ss.toArray j fuel lo hi->ss[i]<j)/\(∀i (h:i<ss.length),below.go ss.toArray j fuel lo hi<=i->j<=ss[i])
 |0,lo,hi,hf,h1,h2,h3,h4=>by
  unfold below.go;let:lo=hi:=by lia
  subst this;show⟨h2,h3,h4⟩
 |fuel+1,lo,hi,hf,h1,h2,h3,h4=>by
  unfold below.go;by_cases bV:lo<hi
  .rw[if_pos bV];let hm:(lo+hi)/2<ss.length:=by lia
   let e:ss.toArray.getD ((lo+hi)/2) j=ss[(lo+hi)/2]:=by simp[hm]
   dsimp only;rw[e];by_cases hc:ss[(lo+hi)/2]<j
   .rw[if_pos hc];show VN hs fuel _ _ gV gV h2 (λi h tH=>?_) h4;rcases Cm i ((lo+hi)/2) with z|z
    .let:=ud.mp hs i ((lo+hi)/2) h hm z
     lia
    .let:i=(lo+hi)/2:=by lia
     subst this;show hc
   .rw[if_neg hc];show VN hs fuel _ _ gV gV gV h3 (λi h tH=>?_);rcases Cm ((lo+hi)/2) i with z|z
    .let:=ud.mp hs ((lo+hi)/2) i hm h z
     lia
    .let:i=(lo+hi)/2:=by lia
     subst this
     lia
  .rw[if_neg bV];let:lo=hi:=by lia
   subst this;show⟨h2,h3,h4⟩
theorem zeK{ss:List Nat}(hs:ss.Pairwise (·<·))(j:Nat):below ss.toArray j<=ss.length/\(∀x∈ss.take (below ss.toArray j),x<j)/\∀x∈ss.drop (below ss.toArray j),j<=x:=by
 let⟨h1,h2,h3⟩:=VN (j:=j) hs ss.length 0 ss.length gV gV (bQ _) (λi h hi=>by lia) (λi h hi=>by lia);let e:below ss.toArray j=below.go ss.toArray j ss.length 0 ss.length:=by unfold below;rw[dH]
 rw[e];show⟨h1,λx hx=>?_,λx hx=>?_⟩
 .obtain⟨i,hi,rfl⟩:=Fz.mp hx;rw[oX]at hi;rw[List.getElem_take];show h2 i gV gV
 .obtain⟨i,hi,rfl⟩:=Fz.mp hx;rw[uf]at hi;rw[List.getElem_drop];show h3 _ gV gV
noncomputable abbrev Ent:=List (Nat×Nat)
def gW(L:Ent):Prop:=(L.map (·.1)).Pairwise (·<·)
theorem zgj{L:Ent}(hs:gW L)(j:Nat):∃La Lb,L=La++Lb/\below (L.map (·.1)).toArray j=La.length/\(∀e∈La,e.1<j)/\∀e∈Lb,j<=e.1:=by
 let⟨h1,h2,h3⟩:=zeK hs j;generalize below (L.map (·.1)).toArray j=b at h1 h2 h3;rw[aY]at h1;show⟨L.take b,L.drop b,(Ra b L).symm,by rw[oX];lia,λe he=>h2 _ ?_,λe he=>h3 _ ?_⟩
 .rw[<-HF];show rC he
 .rw[<-Od];show rC he
theorem zlE{La Lb:Ent}{e:Nat×Nat}(h:gW (La++e::Lb)):(∀x∈La,x.1<e.1)/\∀x∈Lb,e.1<x.1:=by
 unfold gW at h;rw[iu,kJ,FJ]at h;show⟨λx hx=>h.2.2 _ (rC hx) _ jH,λx hx=>?_⟩;show(z_.mp h.2.1).1 _ (rC hx)
theorem zkM{La Lb:Ent}{e:Nat×Nat}(h:gW (La++Lb))(ha:∀x∈La,x.1<e.1)(hb:∀x∈Lb,e.1<x.1):gW (La++e::Lb):=by
 unfold gW at h ⊢;rw[iu,FJ]at h;rw[iu,kJ,FJ];show⟨h.1,z_.mpr ⟨λx hx=>?_,h.2.1⟩,λx hx y hy=>?_⟩
 .obtain⟨z,hz,rfl⟩:=cW.mp hx;show hb z hz
 .rcases cX.mp hy with rfl|hy
  .obtain⟨z,hz,rfl⟩:=cW.mp hx;show ha z hz
  .exact h.2.2 x hx y hy
theorem zg5{j:Nat}:has #[] j=false:=by unfold has;rfl
theorem zlk{t:SetTable}{L:Ent}(ht:t.place=(L.map (·.1)).toArray)(hd:t.dummies=#[])(hs:gW L)(j:Nat) :
  (∃La k Lb,L=La++(j,k)::Lb/\t.slot j=.live La.length)\/((∀e∈L,e.1≠j)/\t.slot j=.empty):=by
 let⟨La,Lb,e,hb,h1,h2⟩:=zgj hs j;let zK:t.slot j=if (L.map (·.1)).toArray[La.length]?==some j then .live La.length else if has t.dummies j then .dummy else .empty:=by
  unfold slot;rw[ht,hb]
 rw[hd,zg5]at zK;let hg:(L.map (·.1)).toArray[La.length]?=(Lb.map (·.1))[0]?:=by
  rw[Ni,e,iu,pF V8];simp
 rw[hg]at zK;cases Lb with
 |nil=>
  right
  show⟨λx hx=>?_,by rw[zK];rfl⟩;rw[e,sV]at hx;show dU (h1 x hx)
 |cons x Lb=>
  by_cases hx:x.1=j
  .left
   show⟨La,x.2,Lb,by rw[e,<-hx],?_⟩;rw[zK,if_pos (by simp[hx])]
  .right
   let hgt:j<x.1:=by let:=h2 x jH;lia
   rw[e]at hs;let⟨_,a2⟩:=zlE hs;show⟨λy hy=>?_,by rw[zK,if_neg (by simp[hx])];rfl⟩;rw[e]at hy;rcases dw.mp hy with hy|hy
   .exact dU (h1 y hy)
   .rcases cX.mp hy with rfl|hy
    .exact hx
    .let:=a2 y hy;lia
theorem zbi{α:Type}(a b:List α)(x:α):insertAt (a++b).toArray a.length x=(a++x::b).toArray:=by
 unfold insertAt;apply Array.toList_inj.mp;simp
theorem znR{t:SetTable}{L:Ent}(ht:t.place=(L.map (·.1)).toArray)(hd:t.dummies=#[])(hs:gW L){j:Nat}(hj:∀e∈L,e.1≠j)(k:Nat) :
  ∃La Lb,L=La++Lb/\t.put j=({t with place:=((La++(j,k)::Lb).map (·.1)).toArray},La.length)/\gW (La++(j,k)::Lb):=by
 let⟨La,Lb,e,hb,h1,h2⟩:=zgj hs j;show⟨La,Lb,e,?_,?_⟩
 .unfold put;rw[hd,zg5,ht,hb];dsimp only;let:insertAt (L.map (·.1)).toArray La.length j=((La++(j,k)::Lb).map (·.1)).toArray:=by
   rw[e,iu];let:=zbi (La.map (·.1)) (Lb.map (·.1)) j;rw[aY]at this;rw[this,iu,kJ]
  rw[this];simp[hd]
 .rw[e]at hs;show zkM hs (λx hx=>h1 x hx) (λx hx=>by
   let:=h2 x hx;let:=hj x (by rw[e];show oV _ hx);change j<x.1
   lia)
noncomputable def fX(m:Nat)(p:Probe):Probe:=
 if p.more>0 then {p with j:=p.j+1,more:=p.more-1} else {p with j:=(leap m p.i p.perturb).1,more:=runEnd m (leap m p.i p.perturb).1-(leap m p.i p.perturb).1,i:=(leap m p.i p.perturb).1,perturb:=(leap m p.i p.perturb).2}
theorem zeW(t:SetTable)(p:Probe):t.advance p=fX t.mask p:=rfl
noncomputable def wX(m i pt:Nat):Probe:={j:=i,more:=runEnd m i-i,i,perturb:=pt,dummy:=none}
noncomputable def start(m:Nat)(h:Int):Probe:=wX m (bits h%(m+1)) (bits h)
noncomputable def steps(m:Nat):Nat->Probe->List Nat
 |0,_=>[]|n+1,p=>p.j::steps m n (fX m p)
theorem zfA{m:Nat}{p:Probe}(h:p.dummy=none):(fX m p).dummy=none:=by unfold fX;split<;>show h
def Taken(hk:Nat->Int)(L:Ent)(h:Int)(pre:List Nat):Prop:=∀x∈pre,∃e∈L,e.1=x/\hk e.2≠h
def vN(hk:Nat->Int)(L:Ent)(h:Int)(js:List Nat)(j:Nat):Prop:=∃pre post,js=pre++j::post/\Taken hk L h pre
theorem zf3{t:SetTable}{L:Ent}{hk:Nat->Int}{hashAt:Nat->Int}{h:Int}(ht:t.place=(L.map (·.1)).toArray)(hd:t.dummies=#[])(hs:gW L)(hH:∀La e Lb,L=La++e::Lb->hashAt La.length=hk e.2) :
  ∀(fuel:Nat) (p:Probe),p.dummy=none->match probe.go t hashAt h fuel p with
   |none=>∀j∈steps t.mask fuel p,∃e∈L,e.1=j|some (.empty j d)=>d=none/\(∀e∈L,e.1≠j)/\vN hk L h (steps t.mask fuel p) j|some (.candidate j i next)=>∃La k Lb,L=La++(j,k)::Lb/\i=La.length/\hk k=h
 |0,p,hp=>by unfold probe.go;intro j hj;cases hj|fuel+1,p,hp=>by
  unfold probe.go;rcases zlk ht hd hs p.j with ⟨La,k,Lb,e,zK⟩|⟨Je,zK⟩
  .rw[zK];dsimp only;let hh:hashAt La.length=hk k:=hH La (p.j,k) Lb e;rw[hh];by_cases hc:hk k=h
   .rw[if_pos (by simpa using hc)];show⟨La,k,Lb,e,rfl,hc⟩
   .rw[if_neg (by simpa using hc),zeW];let ih:=zf3 ht hd hs hH (h:=h) fuel (fX t.mask p) (zfA hp);let hme:(p.j,k)∈L:=by rw[e];simp
    cases hg:probe.go t hashAt h fuel (fX t.mask p) with
    |none=>
     rw[hg]at ih;intro j hj;rcases cX.mp (show j∈p.j::steps t.mask fuel (fX t.mask p) from hj) with rfl|hj
     .exact⟨_,hme,rfl⟩
     .exact ih j hj
    |some met=>
     rw[hg]at ih;cases met with
     |empty j d=>
      let⟨a1,a2,pre,post,a3,a4⟩:=ih;show⟨a1,a2,p.j::pre,post,by change p.j::steps t.mask fuel (fX t.mask p)=_;rw[a3];rfl,λx hx=>?_⟩;rcases cX.mp hx with rfl|hx
      .exact⟨_,hme,rfl,hc⟩
      .exact a4 x hx
     |candidate j i next=>show ih
  .rw[zK];show⟨hp,Je,[],steps t.mask fuel (fX t.mask p),rfl,λx hx=>by cases hx⟩
structure Tab(hk:Nat->Int)(t:SetTable)(L:Ent):Prop where
 place:t.place=(L.map (·.1)).toArray
 Fe:t.dummies=#[]
 asc:gW L
 inj:∀e∈L,∀e'∈L,hk e.2=hk e'.2->e=e'
 Qh:∀e∈L,vN hk L (hk e.2) (steps t.mask (10*turns t.mask) (start t.mask (hk e.2))) e.1
def Wide(m c:Nat)(h:Int):Prop:=∃l:List Nat,l.Nodup/\c<=l.length/\∀x∈l,x∈steps m (10*turns m) (start m h)
theorem GZ{α:Type}[DecidableEq α]:∀{l m:List α},l.Nodup->l ⊆ m->l.length<=m.length
 |[],_,_,_=>jJ _|x::l,m,hn,h=>by
  let hx:x∈m:=h jH;rw[rE]at hn;let ih:=GZ (m:=m.erase x) hn.2 λy hy=>(Rf (λe=>hn.1 (by rw[<-e];show hy))).mpr (h (fZ _ hy));let:=Q0 hx;let:=List.length_pos_of_mem hx;rw[fP]
  lia
theorem few{L:Ent}{l:List Nat}(hn:l.Nodup)(hl:∀x∈l,∃e∈L,e.1=x):l.length<=L.length:=by
 let h:l ⊆ L.map (·.1):=λx hx=>by let⟨e,he,q⟩:=hl x hx;show cW.mpr ⟨e,he,q⟩
 let:=GZ hn h
 rwa [aY]at this
theorem Tab.add(T:Tab hk t (La++Lb))(ha:gW (La++(j,k)::Lb))(hn:∀e∈La++Lb,hk e.2≠hk k)(hf:vN hk (La++Lb) (hk k) (steps t.mask (10*turns t.mask) (start t.mask (hk k))) j) :
  Tab hk {t with place:=((La++(j,k)::Lb).map (·.1)).toArray} (La++(j,k)::Lb):=by
 let ao:∀e∈La++Lb,e∈La++(j,k)::Lb:=λe he=>by
  rcases dw.mp he with z|z
  .exact nR _ z
  .exact oV _ (fZ _ z)
 let cas:∀e∈La++(j,k)::Lb,e=(j,k)\/e∈La++Lb:=λe he=>by
  rcases dw.mp he with z|z
  .exact .inr (nR _ z)
  .rcases cX.mp z with z|z
   .exact .inl z
   .exact .inr (oV _ z)
 let mono:∀{h js x},vN hk (La++Lb) h js x->vN hk (La++(j,k)::Lb) h js x:=λ⟨pre,post,a,b⟩=>⟨pre,post,a,λx hx=>let ⟨e,h1,h2⟩:=b x hx;⟨e,ao e h1,h2⟩⟩;show⟨rfl,T.Fe,ha,λe he e' vO q=>?_,λe he=>?_⟩
 .rcases cas e he with rfl|z<;>rcases cas e' vO with rfl|z'
  .rfl
  .exact absurd q.symm (hn e' z')
  .exact absurd q (hn e z)
  .exact T.inj e z e' z' q
 .rcases cas e he with rfl|z
  .exact mono hf
  .exact mono (T.Qh e z)
noncomputable def rounds(m:Nat):Nat->Nat->Nat->List Nat
 |0,_,_=>[]|f+1,i,pt=>(List.range (runEnd m i+1-i)).map (i+·)++rounds m f (leap m i pt).1 (leap m i pt).2
theorem zdm:∀(c f:Nat) (p:Probe),p.more=c->p.dummy=none->steps m (c+1+f) p=(List.range (c+1)).map (p.j+·)++steps m f (wX m (leap m p.i p.perturb).1 (leap m p.i p.perturb).2)
 |0,f,p,hc,hd=>by
  let e:fX m p=wX m (leap m p.i p.perturb).1 (leap m p.i p.perturb).2:=by
   unfold fX wX;rw[if_neg gV,hd]
  rw[show 0+1+f=f+1 by lia];change p.j::steps m f (fX m p)=_;rw[e];rfl
 |c+1,f,p,hc,hd=>by
  let e:fX m p={p with j:=p.j+1,more:=p.more-1}:=by
   unfold fX;rw[if_pos gV]
  rw[show c+1+1+f=(c+1+f)+1 by lia];change p.j::steps m (c+1+f) (fX m p)=_;rw[e,zdm c f {p with j:=p.j+1,more:=p.more-1} (by change p.more-1=c;lia) hd];rw[Q8 (n:=c+1),kJ,nW,List.cons_append]
  congr 1
  congr 1
  apply List.map_congr_left;intro x _;change p.j+1+x=p.j+(x+1)
  lia
theorem zct:∀(a b:Nat) (p:Probe),∃r,steps m (a+b) p=steps m a p++r
 |0,b,p=>⟨steps m (0+b) p,rfl⟩|a+1,b,p=>by
  let⟨r,e⟩:=zct a b (fX m p);show⟨r,?_⟩;rw[show a+1+b=(a+b)+1 by lia];change p.j::steps m (a+b) (fX m p)=p.j::steps m a (fX m p)++r;rw[e];rfl
theorem zkI:runEnd m i-i=9\/runEnd m i-i=0:=by
 unfold runEnd
 split<;>lia
theorem znt:i<=runEnd m i:=by
 unfold runEnd
 split<;>lia
theorem VP{m:Nat}:∀(f i pt:Nat),∃post,steps m (10*f) (wX m i pt)=rounds m f i pt++post
 |0,i,pt=>⟨[],rfl⟩|f+1,i,pt=>by
  let⟨post,e⟩:=VP (m:=m) f (leap m i pt).1 (leap m i pt).2;let⟨r,e2⟩:=zct (m:=m) (10*f) (9-(runEnd m i-i)) (wX m (leap m i pt).1 (leap m i pt).2);let hr:=zkI (m:=m) (i:=i);let hg:=znt (m:=m) (i:=i);show⟨post++r,?_⟩;let h1:10*(f+1)=(runEnd m i-i)+1+(10*f+(9-(runEnd m i-i))):=by lia
  rw[h1,zdm (runEnd m i-i) _ (wX m i pt) rfl rfl];change (List.range (runEnd m i-i+1)).map (i+·)++steps m (10*f+(9-(runEnd m i-i))) (wX m (leap m i pt).1 (leap m i pt).2)=(List.range (runEnd m i+1-i)).map (i+·)++rounds m f (leap m i pt).1 (leap m i pt).2++(post++r);rw[e2,e,show runEnd m i+1-i=runEnd m i-i+1 by lia];simp only[Aa]
theorem VR{m:Nat}:∀(f i pt:Nat),i<=m->∀x∈rounds m f i pt,x<=m
 |0,_,_,_,x,hx=>by cases hx|f+1,i,pt,hi,x,hx=>by
  rcases dw.mp (show x∈(List.range (runEnd m i+1-i)).map (i+·)++rounds m f (leap m i pt).1 (leap m i pt).2 from hx) with z|z
  .obtain⟨k,hk,rfl⟩:=cW.mp z;rw[gC]at hk;unfold runEnd at hk;split at hk<;>lia
  .exact VR f _ _ (by change (i*5+1+pt/32)%(m+1)<=m;let:=Nat.mod_lt (i*5+1+pt/32) (show 0<m+1 by lia);lia) x z
theorem zdq{m:Nat}{owner:Array (Option Nat)}:∀(f i pt:Nat),match layClean.free m owner f i pt with
  |none=>∀x∈rounds m f i pt,(owner.getD x (some 0)).isNone=false|some j=>∃pre post,rounds m f i pt=pre++j::post/\(owner.getD j (some 0)).isNone=true/\∀x∈pre,(owner.getD x (some 0)).isNone=false
 |0,i,pt=>by unfold layClean.free;intro x hx;cases hx|f+1,i,pt=>by
  unfold layClean.free;cases hf:(List.range (runEnd m i+1-i)).find? λk=>(owner.getD (i+k) (some 0)).isNone with
  |some k=>
   dsimp only;let⟨h1,as,bs,h2,h3⟩:=List.find?_eq_some_iff_append.mp hf;show⟨as.map (i+·),bs.map (i+·)++rounds m f (leap m i pt).1 (leap m i pt).2,?_,h1,λx hx=>?_⟩
   .show (List.range (runEnd m i+1-i)).map (i+·)++_=_;rw[h2];simp
   .obtain⟨a,ha,rfl⟩:=cW.mp hx;simpa using h3 a ha
  |none=>
   let hn:=List.find?_eq_none.mp hf;let zL:∀x∈(List.range (runEnd m i+1-i)).map (i+·),(owner.getD x (some 0)).isNone=false:=λx hx=>by
    let⟨a,ha,rfl⟩:=cW.mp hx;show Ro.mpr (hn a ha)
   let ih:=zdq (m:=m) (owner:=owner) f (leap m i pt).1 (leap m i pt).2;change match layClean.free m owner f (leap m i pt).1 (leap m i pt).2 with
    |none=>∀x∈rounds m (f+1) i pt,(owner.getD x (some 0)).isNone=false|some j=>∃pre post,rounds m (f+1) i pt=pre++j::post/\(owner.getD j (some 0)).isNone=true/\∀x∈pre,(owner.getD x (some 0)).isNone=false
   cases hg:layClean.free m owner f (leap m i pt).1 (leap m i pt).2 with
   |none=>
    rw[hg]at ih;intro x hx;rcases dw.mp (show x∈(List.range (runEnd m i+1-i)).map (i+·)++rounds m f (leap m i pt).1 (leap m i pt).2 from hx) with z|z
    .exact zL x z
    .exact ih x z
   |some j=>
    rw[hg]at ih;let⟨pre,post,a1,a2,a3⟩:=ih;show⟨(List.range (runEnd m i+1-i)).map (i+·)++pre,post,?_,a2,λx hx=>?_⟩
    .show (List.range (runEnd m i+1-i)).map (i+·)++rounds m f (leap m i pt).1 (leap m i pt).2=_;rw[a1,Aa]
    .rcases dw.mp hx with z|z
     .exact zL x z
     .exact a3 x z
structure Own(m:Nat)(owner:Array (Option Nat))(O:Ent):Prop where
 size:owner.size=m+1
 at':∀x k,owner[x]?=some (some k)↔(x,k)∈O
theorem Own.yes{m:Nat}{owner:Array (Option Nat)}{O:Ent}(h:Own m owner O){x:Nat}(hx:x<=m)(q:(owner.getD x (some 0)).isNone=false):∃e∈O,e.1=x:=by
 let hs:x<owner.size:=by rw[h.size];lia
 let e:owner.getD x (some 0)=owner[x]:=by simp[hs]
 rw[e]at q;cases hc:owner[x] with
 |none=>rw[hc]at q;cases q|some k=>show⟨(x,k),(h.at' x k).mp (by rw[vZ hs,hc]),rfl⟩
theorem Own.no{m:Nat}{owner:Array (Option Nat)}{O:Ent}(h:Own m owner O){x:Nat}(q:(owner.getD x (some 0)).isNone=true):x<owner.size/\∀e∈O,e.1≠x:=by
 let hs:x<owner.size:=by
  rcases Cm x owner.size with z|z
  .exact z
  .rw[show owner.getD x (some 0)=some 0 by simp[HW.mpr z]]at q;cases q
 let e:owner.getD x (some 0)=owner[x]:=by simp[hs]
 rw[e]at q;show⟨hs,λe he z=>?_⟩;let:=(h.at' e.1 e.2).mpr he;rw[z,vZ hs]at this;rw[dM this]at q;cases q
theorem Own.set{m:Nat}{owner:Array (Option Nat)}{O:Ent}(h:Own m owner O){x k:Nat}(hs:x<owner.size)(hn:∀e∈O,e.1≠x):Own m (owner.setIfInBounds x (some k)) (O++[(x,k)]):=by
 show⟨by rw[Array.size_setIfInBounds];show h.size,λy l=>?_⟩;rw[Array.getElem?_setIfInBounds];by_cases e:x=y
 .subst e;rw[if_pos rfl,if_pos hs]
  constructor
  .intro z;cases z;simp
  .intro z;rcases dw.mp z with z|z
   .exact absurd rfl (hn _ z)
   .simp at z;rw[z]
 .rw[if_neg e,h.at' y l]
  constructor
  .exact λz=>nR _ z
  .intro z;rcases dw.mp z with z|z
   .exact z
   .simp at z;show absurd z.1.symm e
def i_(m c:Nat)(h:Int):Prop:=∃l:List Nat,l.Nodup/\c<=l.length/\∀x∈l,x∈rounds m (turns m) (bits h%(m+1)) (bits h)
theorem i_.wide(w:i_ m c h):Wide m c h:=by
 let⟨l,a,b,d⟩:=w;let⟨post,e⟩:=VP (m:=m) (turns m) (bits h%(m+1)) (bits h);show⟨l,a,b,λx hx=>?_⟩;change x∈steps m (10*turns m) (wX m (bits h%(m+1)) (bits h));rw[e];show nR _ (d x hx)
structure Lay(m:Nat)(hk:Nat->Int)(owner:Array (Option Nat))(k:Nat)(O:Ent):Prop where
 own:Own m owner O
 ids:O.map (·.2)=List.range k
 slots:(O.map (·.1)).Nodup
 le:∀e∈O,e.1<=m
 Qh:∀e∈O,vN hk O (hk e.2) (steps m (10*turns m) (start m (hk e.2))) e.1
noncomputable def jO(m:Nat)(acc:Option (Array (Option Nat)×Nat))(h:Int):Option (Array (Option Nat)×Nat):=do
  let (owner,k) <-acc
  let j <-layClean.free m owner (turns m) (bits h%(m+1)) (bits h)
  pure (owner.setIfInBounds j (some k),k+1)
theorem zd7{m c:Nat}{hs:List Int}(hw:∀h∈hs,i_ m c h)(hc:hs.length<=c)(hd:hs.Nodup):∀(rest:List Int) (k:Nat) (owner:Array (Option Nat)) (O:Ent),hs.drop k=rest->k<=hs.length->Lay m (λi=>hs.getD i 0) owner k O->
  ∃ni O',rest.foldl (jO m) (some (owner,k))=some (ni,hs.length)/\Lay m (λi=>hs.getD i 0) ni hs.length O'
 |[],k,owner,O,e,hk,L=>by
  let:hs.length<=k:=List.drop_eq_nil_iff.mp e;let:k=hs.length:=by lia
  subst this;show⟨owner,O,rfl,L⟩
 |h::rest,k,owner,O,e,hk,L=>by
  let bV:k<hs.length:=by
   rcases Cm k hs.length with z|z
   .exact z
   .rw[List.drop_eq_nil_iff.mpr z]at e;cases e
  let e':=e;rw[List.drop_eq_getElem_cons bV]at e';injection e' with eh er;let hOl:O.length=k:=by let:=pI List.length L.ids;simpa using this
  let hgk:hs.getD k 0=h:=by rw[<-eh];simp[bV]
  let hmh:h∈hs:=by rw[<-eh];show pG _
  let f:=zdq (m:=m) (owner:=owner) (turns m) (bits h%(m+1)) (bits h);let Ma:bits h%(m+1)<=m:=by let:=Nat.mod_lt (bits h) (show 0<m+1 by lia);lia
  let hne:∀e∈O,hs.getD e.2 0≠h:=λx hx q=>by
   let Dm:x.2∈List.range k:=by rw[<-L.ids];show rC hx
   rw[gC]at Dm;let g1:hs.getD x.2 0=hs[x.2]:=by simp[show x.2<hs.length by lia]
   rw[g1,<-eh]at q;let:=(uc.mp hd);show ud.mp this x.2 k gV bV Dm q
  cases hg:layClean.free m owner (turns m) (bits h%(m+1)) (bits h) with
  |none=>
   rw[hg]at f;let⟨l,l1,l2,l3⟩:=hw h hmh;let:=few (L:=O) l1 λx hx=>L.own.yes (VR _ _ _ Ma x (l3 x hx)) (f x (l3 x hx))
   lia
  |some j=>
   rw[hg]at f;let⟨pre,post,a1,a2,a3⟩:=f;let⟨hjs,hjn⟩:=L.own.no a2;let hjm:j<=m:=by let:=L.own.size;lia
   let Fg:vN (λi=>hs.getD i 0) O h (steps m (10*turns m) (start m h)) j:=by
    let⟨post2,e2⟩:=VP (m:=m) (turns m) (bits h%(m+1)) (bits h);show⟨pre,post++post2,?_,λx hx=>?_⟩
    .show steps m (10*turns m) (wX m (bits h%(m+1)) (bits h))=_;rw[e2,a1,Aa,List.cons_append]
    .obtain⟨e,he,q⟩:=L.own.yes (VR _ _ _ Ma x (by rw[a1];show nR _ hx)) (a3 x hx);show⟨e,he,q,hne e he⟩
   let mono:∀{h js x},vN (λi=>hs.getD i 0) O h js x->vN (λi=>hs.getD i 0) (O++[(j,k)]) h js x:=λ⟨pre,post,a,b⟩=>⟨pre,post,a,λx hx=>let ⟨e,h1,h2⟩:=b x hx;⟨e,nR _ h1,h2⟩⟩;let L':Lay m (λi=>hs.getD i 0) (owner.setIfInBounds j (some k)) (k+1) (O++[(j,k)]):=by
    show⟨L.own.set hjs hjn,by rw[iu,L.ids,Hz];rfl,?_,λe he=>?_,λe he=>?_⟩
    .rw[iu,FP];show⟨L.slots,by simp,λa ha b hb=>?_⟩;let⟨x,hx,rfl⟩:=cW.mp ha;simp at hb;rw[hb];show hjn x hx
    .rcases dw.mp he with z|z
     .exact L.le e z
     .simp at z;rw[z];show hjm
    .rcases dw.mp he with z|z
     .exact mono (L.Qh e z)
     .simp at z;rw[z];change vN _ _ (hs.getD k 0) (steps m (10*turns m) (start m (hs.getD k 0))) j;rw[hgk];show mono Fg
   let⟨ni,O',b1,b2⟩:=zd7 hw hc hd rest (k+1) _ _ er bV L';show⟨ni,O',?_,b2⟩;rw[List.foldl_cons];let:jO m (some (owner,k)) h=some (owner.setIfInBounds j (some k),k+1):=by
    unfold jO;change (layClean.free m owner (turns m) (bits h%(m+1)) (bits h)).bind _=_;rw[hg];rfl
   rw[this];show b1
theorem V0{m:Nat}:Own m (Array.replicate (m+1) none) []:=⟨by simp,λx k=>by
 constructor
 .intro h;rw[Array.getElem?_replicate]at h;split at h<;>cases h
 .intro h;cases h⟩
theorem zh8{m c:Nat}{hs:List Int}(hw:∀h∈hs,i_ m c h)(hc:hs.length<=c)(hd:hs.Nodup):∃owner O,layClean m hs.toArray=some owner/\Lay m (λi=>hs.getD i 0) owner hs.length O:=by
 let⟨owner,O,a,b⟩:=zd7 hw hc hd hs 0 _ [] rfl (jJ _) ⟨V0,rfl,by simp,(λe he=>by cases he),λe he=>by cases he⟩;show⟨owner,O,?_,b⟩;unfold layClean;rw[List.foldl_toArray];change (hs.foldl (jO m) (some (Array.replicate (m+1) none,0))).map (·.1)=_;rw[a];rfl
noncomputable def dj(m:Nat)(owner:Array (Option Nat)):Ent:=(List.range (m+1)).filterMap λj=>(owner.getD j none).map (j,·)
theorem zho(h:Own m owner O):e∈dj m owner↔e∈O:=by
 unfold dj;rw[zY]
 constructor
 .rintro⟨j,hj,q⟩;rw[je]at q;let⟨k,q1,rfl⟩:=q;rw[<-h.at'];rw[gC]at hj;let hs:j<owner.size:=by rw[h.size];show hj
  let e:owner.getD j none=owner[j]:=by simp[hs]
  rw[vZ hs,<-e,q1]
 .intro he;let q:=(h.at' e.1 e.2).mpr he;let⟨hs,q2⟩:=Hl.mp q;show⟨e.1,by rw[gC,<-h.size];show hs,?_⟩;let e1:owner.getD e.1 none=owner[e.1]:=by simp[hs]
  rw[e1,q2];rfl
theorem zee{m:Nat}{owner:Array (Option Nat)}:gW (dj m owner):=by
 unfold gW dj;rw[qu];show List.Pairwise.filterMap _ (R:=(·<·)) (λa a' bV b hb b' hb'=>?_) Hr;let⟨_,_,rfl⟩:=je.mp hb;let⟨_,_,rfl⟩:=je.mp hb';show bV
theorem zgB{m k:Nat}{hk:Nat->Int}{owner:Array (Option Nat)}{O:Ent}(h:Lay m hk owner k O):(dj m owner).Perm O:=by
 show(QV ?_ ?_).mpr λe=>zho h.own
 .let:=zee (m:=m) (owner:=owner);unfold gW at this;rw[qu]at this;show uc.mpr (this.imp λz q=>by rw[q]at z;show nU _ z)
 .let:=uc.mp h.slots;rw[qu]at this;show uc.mpr (this.imp λz q=>z (by rw[q]))
theorem V1{α:Type}{l:List α}(h:l.Nodup){i j:Nat}(hi:i<l.length)(hj:j<l.length)(e:l[i]=l[j]):i=j:=by
 let p:=ud.mp (uc.mp h);rcases Nat.lt_trichotomy i j with z|z|z
 .exact absurd e (p i j hi hj z)
 .exact z
 .exact absurd e.symm (p j i hj hi z)
theorem zhU{t:SetTable}{L:Ent}{hk:Nat->Int}(T:Tab hk t L){wanted c:Nat}(hw:∀e∈L,i_ (sizeAbove wanted-1) c (hk e.2))(hc:L.length<=c) :
  ∃(ord:List Nat) (L':Ent),t.relaid (L.map λe=>hk e.2).toArray wanted=some ({t with mask:=sizeAbove wanted-1,moves:=t.movedTo (sizeAbove wanted-1),place:=(L'.map (·.1)).toArray},ord.toArray) /\
   ord.length=L.length/\(∀i∈ord,i<L.length)/\L'.map (·.2)=ord.map (λi=>(L.getD i (0,0)).2)/\L'.length=L.length/\(L'.map (·.2)).Perm (L.map (·.2)) /\
   Tab hk {t with mask:=sizeAbove wanted-1,moves:=t.movedTo (sizeAbove wanted-1),place:=(L'.map (·.1)).toArray} L':=by
 generalize hm:sizeAbove wanted-1=m at hw;let hnd:(L.map λe=>hk e.2).Nodup:=by
  rw[uc,qu];let:=T.asc;unfold gW at this;rw[qu,ud]at this;rw[ud];intro i j hi hj lU q;let e:=T.inj _ (pG hi) _ (pG hj) q;let:=this i j hi hj lU;rw[e]at this;show nU _ this
 let⟨owner,O,h1,h2⟩:=zh8 (m:=m) (c:=c) (hs:=L.map λe=>hk e.2) (λh hh=>by let⟨e,he,rfl⟩:=cW.mp hh;show hw e he) (by rw[aY];show hc) hnd;rw[aY]at h2;let hp:=zgB h2;let Mf:((dj m owner).map (·.2)).Perm (List.range L.length):=by rw[<-h2.ids];show hp.map _
 let bV:∀e∈dj m owner,e.2<L.length:=λe he=>by
  let:=Mf.mem_iff.mp (rC (f:=(·.2)) he);simpa using this
 let Qi:∀e∈O,(L.map λe=>hk e.2).getD e.2 0=hk (L.getD e.2 (0,0)).2:=λe he=>by
  let:=bV e (hp.mem_iff.mpr he);simp[this]
 show⟨(dj m owner).map (·.2),(dj m owner).map λe=>(e.1,(L.getD e.2 (0,0)).2),?_,?_,?_,?_,?_,?_,?_⟩
 .unfold relaid laid;rw[hm,h1];change some (_,_)=some (_,_)
  congr 2
  .rw[nW];change SetTable.mk _ _ _ _ _ _ _=SetTable.mk _ _ _ _ _ _ _;rw[T.Fe];rfl
 .rw[aY,hp.length_eq];let:=pI List.length h2.ids;simpa using this
 .intro i hi;let⟨e,he,rfl⟩:=cW.mp hi;show bV e he
 .rw[nW,nW];rfl
 .rw[aY,hp.length_eq];let:=pI List.length h2.ids;simpa using this
 .rw[nW];let q1:((dj m owner).map ((λx=>x.2)∘λe=>(e.1,(L.getD e.2 (0,0)).2)))=((dj m owner).map (·.2)).map λi=>(L.getD i (0,0)).2:=by rw[nW];rfl
  rw[q1];let q2:L.map (·.2)=(List.range L.length).map λi=>(L.getD i (0,0)).2:=by
   apply List.ext_getElem
   .simp
   .intro i hi tH;rw[aY]at hi;simp[hi]
  rw[q2];show Mf.map _
 .let V2:gW ((dj m owner).map λe=>(e.1,(L.getD e.2 (0,0)).2)):=by
   let:=zee (m:=m) (owner:=owner);unfold gW at this ⊢;rw[nW];show this
  let V3:∀e∈O,∀e'∈O,hk (L.getD e.2 (0,0)).2=hk (L.getD e'.2 (0,0)).2->e=e':=λe he e' vO q=>by
   let a:=bV e (hp.mem_iff.mpr he);let a':=bV e' (hp.mem_iff.mpr vO);rw[<-Qi e he,<-Qi e' vO]at q;let q':(L.map λe=>hk e.2)[e.2]'(by rw[aY];show a)=(L.map λe=>hk e.2)[e'.2]'(by rw[aY];show a'):=by simpa [a,a'] using q
   let e2:e.2=e'.2:=V1 hnd _ _ q';let V4:(O.map (·.2)).Nodup:=by rw[h2.ids];show List.nodup_range
   let⟨i,hi,rfl⟩:=Fz.mp he;let⟨i',tH,rfl⟩:=Fz.mp vO;let:(O.map (·.2))[i]'(by rw[aY];show hi)=(O.map (·.2))[i']'(by rw[aY];show tH):=by simpa using e2
   let:=V1 V4 _ _ this;subst this;rfl
  show⟨rfl,T.Fe,V2,λe he e' vO q=>?_,λe he=>?_⟩
  .obtain⟨x,hx,rfl⟩:=cW.mp he;let⟨x',hx',rfl⟩:=cW.mp vO;rw[V3 x (hp.mem_iff.mp hx) x' (hp.mem_iff.mp hx') q]
  .obtain⟨x,hx,rfl⟩:=cW.mp he;let hxO:=hp.mem_iff.mp hx;let⟨pre,post,a,b⟩:=h2.Qh x hxO;rw[Qi x hxO]at a b;show⟨pre,post,a,λy hy=>?_⟩;let⟨z,hz,q1,q2⟩:=b y hy;let q2:hk (L.getD z.2 (0,0)).2≠hk (L.getD x.2 (0,0)).2:=by rw[<-Qi z hz];show q2
   show⟨(z.1,(L.getD z.2 (0,0)).2),rC (f:=λe=>(e.1,(L.getD e.2 (0,0)).2)) (hp.mem_iff.mpr hz),q1,q2⟩
end Ts
namespace Ts
open Mi PySem PySem.SetTable
noncomputable def dd(l:List Nat):List Nat:=l.foldr (λx r=>if r.contains x then r else x::r) []
theorem znu(h:x∈dd l):x∈l:=by
 induction l with
 |nil=>cases h|cons y r ih=>
  let h:x∈(if (dd r).contains y then dd r else y::dd r):=h;split at h
  .exact fZ _ (ih h)
  .rcases cX.mp h with rfl|h
   .exact jH
   .exact fZ _ (ih h)
theorem V5:∀l:List Nat,(dd l).Nodup
 |[]=>Ce|y::r=>by
  change (if (dd r).contains y then dd r else y::dd r).Nodup
  split
  .exact V5 r
  .rename_i h;show rE.mpr ⟨by simpa using h,V5 r⟩
theorem zbZ:∀(a b i pt:Nat) (x:Nat),x∈rounds m a i pt->x∈rounds m (a+b) i pt
 |0,_,_,_,x,h=>by cases h|a+1,b,i,pt,x,h=>by
  rw[show a+1+b=(a+b)+1 by lia];rcases dw.mp (show x∈(List.range (runEnd m i+1-i)).map (i+·)++rounds m a (leap m i pt).1 (leap m i pt).2 from h) with z|z
  .exact nR _ z
  .exact oV _ (zbZ a b _ _ x z)
noncomputable def vP(m c f:Nat)(h:Int):Bool:=decide (c<=(dd (rounds m f (bits h%(m+1)) (bits h))).length)
theorem zfK(hf:f<=turns m)(hb:vP m c f h=true):i_ m c h:=by
 show⟨dd (rounds m f (bits h%(m+1)) (bits h)),V5 _,fj hb,λx hx=>?_⟩;let:=zbZ f (turns m-f) _ _ x (znu hx)
 rwa [show f+(turns m-f)=turns m by lia]at this
end Ts
namespace Ts
open PySem PySem.SetTable
noncomputable def bG(items:List Value)(hk:Nat->Int)(L:Ent):List (Int×Value):=L.map λe=>(hk e.2,items.getD e.2 .none)
def V6(m n:Nat):Prop:=m=7/\n<=4\/m=31/\n<=18\/m=127/\n<=28
section
variable {prog:Program}{w:World}{A:Around}{E:Value->Shared->Prop}{s:Shared}{S:Addr}{items:List Value}{ts:List (Int×Int)}{L:Ent}{led:Bool}
theorem V7(T:Tab hk t L)(c:V6 t.mask L.length):t.fits (bG items hk L).toArray.size=true:=by
 unfold SetTable.fits SetTable.fill bG;rw[T.place,T.Fe];simp only[dH,aY,dZ,kI];show⟨ug _,?_⟩;change L.length+0<=t.mask;rcases c with c|c|c<;>lia
end
end Ts
namespace Ts
open Mi (Az)
open PySem PySem.SetTable
section
variable {prog:Program}{w:World}{A:Around}{E:Value->Shared->Prop}{s:Shared}{S:Addr}{items:List Value}{ts:List (Int×Int)}{L:Ent}{led:Bool}
theorem zfX:∀{l:List α},(∀x∈l,f x=some (g x))->l.filterMap f=l.map g
 |[],_=>rfl|x::l,h=>by
  rw[sO,h x jH,kJ];rw[zfX λy hy=>h y (fZ _ hy)]
theorem zfu{h:Heap}{es es':Array (Int×Value)}{ep:Nat}{t t':SetTable}(ho:h.get? S=some {cls:=.type "set",dict:=none,data:=.set es ep t}):(h.update S (Obj.putSet es' t')).get? S=some {cls:=.type "set",dict:=none,data:=.set es' (ep+1) t'}:=by
 let:=wg (Obj.putSet es' t') ho (by rw[putSet_of es' t' rfl];rfl);rw[putSet_of es' t' rfl]at this;show this
end
end Ts
namespace Ts
open PySem PySem.SetTable
section
variable {prog:Program}{w:World}{A:Around}{E:Value->Shared->Prop}{s:Shared}
noncomputable def oO(w:World):Bool:=!w.params.followText "set-order"
theorem zh2(a:Value){Q₁:Value->Shared->Prop}
  (h:Q₁ (.ref s.heap.objs.size) {s with heap:=s.heap.push {cls:=.type "set",dict:=none,data:=.set #[] 0 (.fresh 0 0 (oO w))}}) :
  codeAny (model prog w) A (.call (.builtin "set.__new__") ⟨[.type "set",a],[]⟩) (wants Q₁ E) s:=by
 show codeAny_of_tree ?_;change wpAny _ A.in1 (do checkBuiltinCall "set.__new__" ⟨[.type "set",a],[]⟩;again (.builtin "set.__new__" ⟨[.type "set",a],[]⟩)) _ _ s;show aB (wpAny_of_eq (F.newCall_set_1 a) (aP ⟨plainId_quiet F.plain_set_new _,FT F.entry_set_new ?_⟩));rw[Hu F.plain_set_new _];unfold Builtin.«set.__new__» Builtin.Frozenset.newClass;let hsub:=sub_set_self;let⟨hp,g,d,tk,os⟩:=s;dsimp only
 wp_walk
 show wpAny_askSetting (aP ?_);dsimp only;simp only[newObj];show aB (wpAny_alloc (aP ?_));show aP h
theorem tab0{hk:Nat->Int}{led:Bool}:Tab hk (.fresh 0 0 led) []:=⟨rfl,rfl,List.Pairwise.nil,(λe he=>by cases he),λe he=>by cases he⟩
end
section
variable {prog:Program}{w:World}{A:Around}{E:Value->Shared->Prop}{s:Shared}{S:Addr}{items:List Value}{hk:Nat->Int}{L:Ent}
theorem G3:(bG items hk L).toArray.size=L.length:=by unfold bG;rw[dH,aY]
end
end Ts
namespace Mi
open PySem PySem.Spec PyProof.Rows L2 PySem.W Ts
theorem zhx:bootBuiltins "set"=some (.type "set"):=by decide +kernel
end Mi
namespace Mi
open PySem PySem.Spec PyProof.Rows L2 PySem.W
section
variable {X:Cx}{cA:Cl}{ao:Nat->Nat->Bool}{aj:Bool}{F:Fn}{EX:XS}{a b:Expr}{A B:E}{pos p:Pos}{x:Str}{e:Expr}{es:List Expr}{Xs:Es}
noncomputable def zM(sc:Scope)(x:Str):Bool:=match sc.names.lookup x with
 |some k=>El k|none=>false
noncomputable def Qj(sc:Scope)(x:Str):Bool:=match sc.names.lookup x with
 |some .globalImplicit=>true|_=>false
theorem zg7{sc:Scope}{x:Str}(h:zM sc x=true):∃k,sc.names.lookup x=some k/\El k=true:=by
 unfold zM at h;split at h
 .rename_i k e;show⟨k,e,h⟩
 .cases h
theorem zi5{sc:Scope}{x:Str}(h:Qj sc x=true):sc.names.lookup x=some .globalImplicit:=by
 unfold Qj at h;split at h
 .assumption
 .cases h
theorem gk(h:Qj X.env.scope x=true:=by kernel_rfl):JK X x .globalImplicit:=⟨zi5 h⟩
theorem jl(h:(match X.env.scope.names.lookup x with|some .local=>true|_=>false)=true:=by kernel_rfl):JK X x .local:=by
 split at h
 .exact⟨by assumption⟩
 .cases h
theorem jc(h:(match X.env.scope.names.lookup x with|some .cell=>true|_=>false)=true:=by kernel_rfl):JK X x .cell:=by
 split at h
 .exact⟨by assumption⟩
 .cases h
theorem pB{scope:Scope}{cl:List (Str×Addr)}{N:List Str}{Cc:Addr}{s3:Shared}{H3:Hp}{fp:List Addr}{ak:List (Addr×Obj)}(h:Qj scope x=true:=by kernel_rfl):JK (X.blk scope cl N Cc s3 H3 fp ak) x .globalImplicit:=zo0 (zi5 h) rfl
theorem gv(i:Nat)(h:(decide (X.N[i]?=some x)&&zM X.env.scope x&&okN x)=true:=by kernel_rfl):JE X cA ao aj F EX (.Name x pos) (.v i):=by
 rw[dZ,dZ]at h;let⟨k,e,hv⟩:=zg7 h.1.2;show g_v i (fj h.1.1) ⟨e⟩ hv h.2
theorem bB(i:Nat){scope:Scope}{cl:List (Str×Addr)}{N:List Str}{Cc:Addr}{s3:Shared}{H3:Hp}{fp:List Addr}{ak:List (Addr×Obj)}(h:(decide (N[i]?=some x)&&zM scope x&&okN x)=true:=by kernel_rfl):JE (X.blk scope cl N Cc s3 H3 fp ak) cA ao aj F EX (.Name x pos) (.v i):=by
 rw[dZ,dZ]at h;let⟨k,e,hv⟩:=zg7 h.1.2;by_cases hk:k=.free
 .subst hk;show zps i (fj h.1.1) e h.2
 .exact g_v i (fj h.1.1) (zo0 e (by cases k<;>first|rfl|exact absurd rfl hk)) hv h.2
theorem gc{f k:Nat}{cm:Bool}{st:Stmt}{ps:List Str}(Fo:fU X.prog X.w X.K X.mg X.base (lq X.prog X.w) cm k (jG X.K x) (fdOf X.K x st) ps (tQ X.K cA (F f)))(D:D3 X.K X.mg x st ps)(hr:cC k X.A)(R:JR X EX)(g:JK X x .globalImplicit)(ha:JA X cA ao aj F EX (e::es) Xs)(h:okN x=true:=by kernel_rfl)
  (rH:cm=true->X.aj=true:=by first|exact λ_=>rfl|exact λz=>nomatch z) (he:aC e=true:=by rfl) (bU:es.all aC=true:=by rfl):JE X cA ao aj F EX (.Call (.Name x p) (e::es) [] pos) (.call f Xs):=
 zlW f Fo rH hr D.m D.f.kp D.b R g ha h he bU
theorem nd(h:decide X.N.Nodup=true:=by kernel_rfl):X.N.Nodup:=fj h
end
theorem fJ{P:Program}{w:World}{K:W.Frag}{mg:Str->Option Value}{base:Heap}{cA:Cl}{ao:Nat->Nat->Bool}{T:Nat->Option Df}{x:Str}{st:Stmt}{ps:List Str}{k n:Nat}{cm:Bool}{df:Df}(D:D3 K mg x st ps)(N:List Str)(hT:T n=some df)
  (hb:∀(cdv:Value) (A:Around) (outer:List Env) (s:Shared) (H:Hp) (E:XK),cC k (A.deeper (envOfC x (aA st) s.heap.objs.size (jG K x) cdv))->
   JB (jq (lq P w) P w K mg base N x (aA st) (jG K x) cdv A outer s H E cm) cA ao cm (λc=>call ao T k c) (λ_ C dx H'=>E C dx H') (aV st) df.body) (S:gF N ps (aA st):=by show⟨rfl,rfl,rfl,dk,rfl,dk,dk⟩) (hp:df.iY=ps.length:=by rfl) (hm:df.many=N.length:=by rfl) :
  fU P w K mg base (lq P w) cm (k+1) (jG K x) (fdOf K x st) ps (tQ K cA (call ao T (k+1) cm n)):=znp D.f S hT hp hm hb
theorem preS{is:List Int}:∀j,j<=is.length->preSum (λj=>is.getD j 0) j=(is.take j).sum
 |0,_=>by simp[preSum]|j+1,h=>by
  rw[preSum,preS j gV,gJ,HD,dW gV,List.sum_append];change _+is[j]=_+([is[j]]:List Int).sum;rw[List.sum_singleton]
theorem zmD{is:List Int}(h:∀i∈is,-1000000<=i/\i<=1000000) : -1000000*(is.length:Int)<=is.sum/\is.sum<=1000000*(is.length:Int):=by
 induction is with
 |nil=>simp|cons a r ih=>
  let h1:=h a (.head _);let h2:=ih λi hi=>h i (.tail _ hi);rw[Ga,fP]
  lia
theorem zii{is:List Int}(h:jy is=true):is.length<=1000/\∀i∈is,-1000000<=i/\i<=1000000:=by
 unfold jy at h;rw[dZ,gY]at h;show⟨fj h.1,λi hi=>fj (h.2 i hi)⟩
section
variable {X:Cx}
theorem zfo(hc:X.aj=true):cL X (.builtin "sum") (λxs H Q=>∃(a:Addr) (is:List Int),xs=[.ref a]/\(cY X.K H a (is.map V.int)\/fQ X.K H a (is.map V.int))/\jy is=true/\Q (.int is.sum) H):=by
 rintro ak s Z H xs us Q I r ⟨p,is,e,hp,hk,q⟩;subst e;let⟨u,rfl,ru⟩:=Vals.one r;cases (show u=Value.ref p from ru);let⟨V9,hb⟩:=zii hk;let fit:∀j,j<is.length->InLong (is.getD j 0)/\InLong (preSum (λj=>is.getD j 0) (j+1)):=λj hj=>by
  let h1:=hb (is[j]) (pG _);let h2:=zmD (is:=is.take (j+1)) λi hi=>hb i (Fy hi);rw[oX]at h2;rw[preS (j+1) gV,gJ,dW hj,Option.getD_some];unfold InLong;let:((min (j+1) is.length:Nat):Int)<=1000:=by lia
  show⟨by lia,by lia⟩
 let fin:∀{n:Nat},n=is.length->∀{t':Tok} {h':Heap} {tk:Nat},(∀b o,s.heap.get? b=some o->h'.get? b=some o)->EP X ak Z Q (.int (preSum (λj=>is.getD j 0) n) t') {s with heap:=h',toks:=tk}:=by
  intro n en t' h' tk hk;subst en;rw[preS _ (bQ _),Ad];show⟨.int is.sum,H,I.kept (h':=h') (t':=tk) hk,⟨t',rfl⟩,q⟩
 rcases hp with hp|hp
 .obtain⟨its,rv,pl,hz⟩:=I.list hp;let hl:s.heap.IsList p its.toArray:=pl.isList;let bV:p<s.heap.objs.size:=by
   let⟨o,hg,_⟩:=hl;show bL hg
  let z:is.length=its.length:=by let:=rv.length;rw[aY]at this;show this
  let en:its.toArray.size=is.length:=by rw[dH];lia
  show call_sum_walk (Hx hl ?_);show⟨_,_,_,_,_,_,λj=>is.getD j 0,rfl,Walks.list (A:=X.A.in1) (I.ok.hd hc) _ p (dU bV) its.toArray,⟨⟨_,gK _ rfl,rfl,rfl⟩,hl.push _⟩,?_,(λ_ _=>GD rv),(λj hj=>fit j gV),λh' tk t' hk=>fin en (old_kept hk)⟩;intro b hb;change b<(s.heap.push _).objs.size;rw[oY];simp only[cX,qw,pJ]at hb;rcases hb with e|e
  .exact e▸Ac _
  .exact e▸k_ bV
 .obtain⟨its,rv,pl,hz⟩:=I.tuple hp;let hl:s.heap.IsTuple p its.toArray:=pl;let bV:p<s.heap.objs.size:=by
   let⟨o,hg,_⟩:=hl;show bL hg
  let z:is.length=its.length:=by let:=rv.length;rw[aY]at this;show this
  let en:its.toArray.size=is.length:=by rw[dH];lia
  show call_sum_walk (Hw hl ?_);show⟨_,_,_,_,_,_,λj=>is.getD j 0,rfl,Walks.tuple (A:=X.A.in1) (I.ok.hd hc) _ p (dU bV) its.toArray,⟨⟨_,gK _ rfl,rfl,rfl⟩,hl.push _⟩,?_,(λ_ _=>GD rv),(λj hj=>fit j gV),λh' tk t' hk=>fin en (λb o e=>hk b o (by simpa using dU (bL e)) (dD _ e))⟩;intro b hb;change b<(s.heap.push _).objs.size;rw[oY];simp only[cX,qw,pJ]at hb;rcases hb with e|e
  .exact e▸Ac _
  .exact e▸k_ bV
end
section
variable {K:W.Frag}{cA:Cl}{U:Ph}{H:Hp}{Q:VK}
theorem znL:bA K cA .sum (λxs H Q=>∃(a:Addr) (is:List Int),xs=[.ref a]/\(cY K H a (is.map V.int)\/fQ K H a (is.map V.int))/\jy is=true/\Q (.int is.sum) H):=by
 intro U H ds vs Q zt rs o;let o:aX K cA U H (Kf ds) Q:=o;cases ds with
 |nil=>show False.elim o|cons a t=>cases t with
  |cons _ _=>show False.elim o|nil=>
   let⟨v,rfl,rv⟩:=rs.one;let o:aX K cA U H ((dX a).bind λxs=>(aJ xs).bind oE) Q:=o;cases e0:dX a with
   |none=>rw[e0]at o;show o.elim|some xs=>
    rw[e0]at o;let o:aX K cA U H ((aJ xs).bind oE) Q:=o;let⟨ad,us,rfl,l,q⟩:=Rv.sq rv e0;cases e1:aJ xs with
    |none=>rw[e1]at o;show o.elim|some is=>
     rw[e1]at o;let o:aX K cA U H (oE is) Q:=o;unfold oE at o;cases e2:jy is with
     |false=>rw[e2]at o;show o.elim|true=>rw[e2]at o;show⟨ad,is,rfl,by rw[<-PX e1 q];show l,e2,(o.of rfl).here (.int _)⟩
end
section
variable {X:Cx}{cA:Cl}{ao:Nat->Nat->Bool}{aj:Bool}{F:Fn}{EX:XS}{e:Expr}{pos p:Pos}{es:List Expr}{Xs:Es}{fz:Bool}
theorem zoI(hc:X.aj=true)(hm:X.mg "sum"=none)(hg:JK X "sum" .globalImplicit)(ha:JA X cA ao aj F EX (e::es) Xs)(he:aC e=true:=by rfl)(bU:es.all aC=true:=by rfl):JE X cA ao aj F EX (.Call (.Name "sum" p) (e::es) [] pos) (.pr fz .sum Xs):=⟨wI (zfo hc) znL hg.o hm PyProof.Rows.boot_sum ha.o J0 J0 (bf he) (aW bU)⟩
end
end Mi
namespace L2
open PySem PySem.Spec PyProof.Rows
abbrev oR(h:Heap)(z TI TO r:Addr)(k:Bool):Prop:=h.get? z=some {cls:=.type "zip",dict:=none,data:=.fields #[rawInt r,.bool k,.bool false,.ref TI,.ref TO],slots:=#[]}
section
variable {prog:Program}{w:World}{A:Around}{E:Value->Shared->Prop}{s:Shared}{z TI TO i1 i2 l1 l2 r:Addr}{st1 st2:Nat->Heap->Prop}{xs ys:Array Value}{k:Nat}{a b:Value}{kk:Bool}
theorem alive{a:Addr}{Q:Option Obj->Shared->Prop}(h:Q (s.heap.get? a) s):wpAny (model prog w) A (loadIfAlive a) Q E s:=λ_ _ _=>h
theorem zes{o:Obj}{Q:Bool->Shared->Prop}(hz:oR s.heap z TI TO r kk)(hr:s.heap.get? r=some o)(q:∀h',oR h' z TI TO r true->Heap.SameBut z s.heap h'->Q false {s with heap:=h'}):wpAny (model prog w) A (Builtin.SmallTypes.ownedTupleIsFree (.ref z)) Q E s:=by
 unfold Builtin.SmallTypes.ownedTupleIsFree;show aB (iM hz rfl (x:=rawInt r) rfl ?_);change wpAny _ _ (loadIfAlive r >>= _) _ _ _;show aB (alive ?_);rw[hr];simp only[Option.isNone_some,xK,sW];show aB (iM hz rfl (x:=.bool kk) rfl ?_);cases kk with
 |true=>
  rw[if_neg J0];show aP (q s.heap hz (Heap.SameBut.refl _ _))
 |false=>
  rw[if_pos J0];show aB (BX hz V8 λh' z' s'=>aP (q h' z' s'))
theorem zgc{o:Obj}{x y:Value}{Q:Option Value->Shared->Prop}(N1:jg prog w i1 l1 st1 xs)(N2:jg prog w i2 l2 st2 ys)(D:fu z TI TO i1 i2 l1 l2)(hz:oR s.heap z TI TO r kk)(hr:s.heap.get? r=some o)(wC:IsPair s.heap TI (.ref i1) (.ref i2))
  (h1:st1 k s.heap) (h2:st2 k s.heap) (hx:xs[k]?=some x) (hy:ys[k]?=some y)
  (q:∀h',oR h' z TI TO r true->st1 (k+1) h'->st2 (k+1) h'->IsPair h' s.heap.objs.size x y->h'.objs.size=s.heap.objs.size+1->(∀c o,c≠z->c≠i1->c≠i2->s.heap.get? c=some o->h'.get? c=some o)->Q (some (.ref s.heap.objs.size)) {s with heap:=h'}) :
  wpAny (model prog w) A (pyNext (.ref z)) Q E s:=by
 let⟨⟨z1,z2,z3,z4,z5,z6⟩,⟨t1,t2,t3,t4,t5⟩,⟨j1,j2,j3,j4,j5,j6,j7⟩⟩:=D;let hT:s.TypeIs (.ref z) "zip":=⟨_,hz,rfl⟩;unfold pyNext;show aB (Cg (v7 (name:=Str.ofString "__next__") hT xP (sU xP hT NZ ?_ (NP _))));change wpAny _ A.in1 (field (.ref z) 2 >>= _) _ _ s;show aB (iM hz rfl (x:=.bool false) rfl ?_);change wpAny _ A.in1 (field (.ref z) 3 >>= _) _ _ s;show aB (iM hz rfl (x:=.ref TI) rfl (aB (uh wC rfl ?_)));change wpAny _ A.in1 (Builtin.SmallTypes.ownedTupleIsFree (.ref z) >>= _) _ _ s;show aB (zes hz hr λha za sa=>?_);simp only[xK,sW];show aB ?_;rw[<-Array.forIn_toList];simp only[Cd,FZ];show aB (aB (mj ?_));change wpAny _ A.in1 (Builtin.SmallTypes.nextOf (.ref i1) >>= _) _ _ _;show aB (N1.item _ _ {s with heap:=ha} k x _ (N1.keep _ _ _ h1 λc o hc e=>sa.extBut c o (by rcases hc with rfl|rfl;show z3.symm;show z5.symm) e) hx λhb JV sb=>aP (aP ?_));dsimp only;show aB (aB (mj ?_));change wpAny _ A.in1 (Builtin.SmallTypes.nextOf (.ref i2) >>= _) _ _ _;let k2:st2 k hb:=N2.keep _ _ _ h2 λc o jm e=>by
  rcases jm with rfl|rfl
  .exact sb.extBut _ _ j3.symm (sa.extBut _ _ z4.symm e)
  .exact sb.extBut _ _ j5.symm (sa.extBut _ _ z6.symm e)
 show aB (N2.item _ _ {s with heap:=hb} k y _ k2 hy λhd Tt sd=>aP (aP (aP ?_)));dsimp only;show aB (wpAny_newTuple ?_ (by change 2<=sizeLine;decide));let size:hd.objs.size=s.heap.objs.size:=by rw[sd.1,sb.1,sa.1]
 let zd:oR hd z TI TO r true:=sd.extBut _ _ z4 (sb.extBut _ _ z3 za);let kept:∀c o,c≠z->c≠i1->c≠i2->s.heap.get? c=some o->hd.get? c=some o:=λc o c1 c3 c4 e=>sd.extBut _ _ c4 (sb.extBut _ _ c3 (sa.extBut _ _ c1 e));let up:∀c o,hd.get? c=some o->(hd.push {cls:=.type "tuple",data:=.seq #[x,y]}).get? c=some o:=λc o e=>dD _ e;let tn:IsPair (hd.push {cls:=.type "tuple",data:=.seq #[x,y]}) hd.objs.size x y:=gK _ rfl;let sz:(hd.push {cls:=.type "tuple",data:=.seq #[x,y]}).objs.size=hd.objs.size+1:=oY ..;show aP ⟨_,rfl,aP ?_⟩;rw[size]at tn sz;change Q (some (.ref hd.objs.size)) _;rw[size];show q _ (up _ _ zd) (N1.keep _ _ _ JV λc o jm e=>up c o (sd.extBut _ _ (by rcases jm with rfl|rfl;show j3;show j6.symm) e)) (N2.keep _ _ _ Tt λc o _ e=>up c o e) tn sz λc o c1 c3 c4 e=>up c o (kept c o c1 c3 c4 e)
theorem zhl{o:Obj}{Q:Option Value->Shared->Prop}(hn:A.handled=none)(N1:jg prog w i1 l1 st1 xs)(N2:jg prog w i2 l2 st2 ys)(D:fu z TI TO i1 i2 l1 l2)(hz:oR s.heap z TI TO r kk)(hr:s.heap.get? r=some o)(wC:IsPair s.heap TI (.ref i1) (.ref i2))
  (h1:st1 k s.heap) (h2:st2 k s.heap) (hx:xs[k]?=none\/ys[k]?=none) (q:∀h',(∀c o,c≠z->c≠i1->c≠i2->s.heap.get? c=some o->h'.get? c=some o)->Q none {s with heap:=h'}):wpAny (model prog w) A (pyNext (.ref z)) Q E s:=by
 let⟨⟨z1,z2,z3,z4,z5,z6⟩,⟨t1,t2,t3,t4,t5⟩,⟨j1,j2,j3,j4,j5,j6,j7⟩⟩:=D;let hT:s.TypeIs (.ref z) "zip":=⟨_,hz,rfl⟩;let stop:∀(h':Heap) (e:Addr),(∀c o,c≠z->c≠i1->c≠i2->s.heap.get? c=some o->h'.get? c=some o)->(∃o,h'.get? e=some o/\o.cls=.type "StopIteration")->
   wpAny (model prog w) A (do if <-isInstance (.ref e) (.type "StopIteration") then pure none else throw (.ref e):Sem (Option Value)) Q E {s with heap:=h'}:=λh' e kp ⟨o,ho,hc⟩=>
  aB (wpAny_isInstance (T:="StopIteration") (b:=true) ⟨o,ho,hc⟩ isSubtype_stop (aP (q h' kp)))
 unfold pyNext;show aB (Cg (v7 (name:=Str.ofString "__next__") hT xP (sU xP hT NZ ?_ (NP _))));change wpAny _ A.in1 (field (.ref z) 2 >>= _) _ _ s;show aB (iM hz rfl (x:=.bool false) rfl ?_);change wpAny _ A.in1 (field (.ref z) 3 >>= _) _ _ s;show aB (iM hz rfl (x:=.ref TI) rfl (aB (uh wC rfl ?_)));change wpAny _ A.in1 (Builtin.SmallTypes.ownedTupleIsFree (.ref z) >>= _) _ _ s;show aB (zes hz hr λha za sa=>?_);simp only[xK,sW];show aB ?_;rw[<-Array.forIn_toList];simp only[Cd,FZ];show aB (aB (mj ?_));change wpAny _ A.in1 (Builtin.SmallTypes.nextOf (.ref i1) >>= _) _ _ _;let ka:st1 k ha:=N1.keep _ _ _ h1 λc o hc e=>sa.extBut c o (by rcases hc with rfl|rfl;show z3.symm;show z5.symm) e;cases ex:xs[k]? with
 |none=>show aB (N1.fin _ _ {s with heap:=ha} k _ hn ka ex λhb e sb se=>stop hb e (λc o c1 c3 c4 y=>sb _ _ c3 (sa.extBut _ _ c1 y)) se)
 |some x=>
  let ey:ys[k]?=none:=by
   rcases hx with y|y
   .rw[ex]at y;cases y
   .exact y
  show aB (N1.item _ _ {s with heap:=ha} k x _ ka ex λhb JV sb=>aP (aP ?_));dsimp only;show aB (aB (mj ?_));change wpAny _ A.in1 (Builtin.SmallTypes.nextOf (.ref i2) >>= _) _ _ _;let k2:st2 k hb:=N2.keep _ _ _ h2 λc o jm e=>by
   rcases jm with rfl|rfl
   .exact sb.extBut _ _ j3.symm (sa.extBut _ _ z4.symm e)
   .exact sb.extBut _ _ j5.symm (sa.extBut _ _ z6.symm e)
  show aB (N2.fin _ _ {s with heap:=hb} k _ hn k2 ey λhd e sd se=>stop hd e (λc o c1 c3 c4 y=>sd _ _ c4 (sb.extBut _ _ c3 (sa.extBut _ _ c1 y))) se)
structure ZSt(h:Heap)(z TI TO i1 i2 S:Addr)(st1 st2:Nat->Heap->Prop)(xs ys acc:Array Value)(n0 i:Nat):Prop where
 zp:(i=0/\IsZip h z TI TO .none/\∃a b,IsPair h TO a b)\/∃(r:Addr) (o:Obj) (kk:Bool),n0<=r/\r≠S/\oR h z TI TO r kk/\h.get? r=some o
 ti:IsPair h TI (.ref i1) (.ref i2)
 s1:st1 i h
 s2:st2 i h
 sz:acc.size=i
 its:∀(j:Nat) (v:Value),acc[j]?=some v->∃(a:Addr) (x y:Value),v=Value.ref a/\n0<=a/\a≠S/\xs[j]?=some x/\ys[j]?=some y/\IsPair h a x y
 inj:∀(j j':Nat) (v:Value),acc[j]?=some v->acc[j']?=some v->j=j'
theorem zhp{R:Result->Shared->Prop}{res:Value}{S:Addr}{n0:Nat}(hh:A.in1.handled=none)(N1:jg prog w i1 l1 st1 xs)(N2:jg prog w i2 l2 st2 ys)(D:fu z TI TO i1 i2 l1 l2)(hS:S≠z/\S≠TI/\S≠TO/\S≠i1/\S≠i2/\S≠l1/\S≠l2)(hn0:z<n0/\TI<n0/\TO<n0/\i1<n0/\i2<n0/\l1<n0/\l2<n0)(hsm:xs.size<=65536) :
  ∀(k i:Nat) (s:Shared) (acc:Array Value) (c:Nat),min xs.size ys.size-i=k->i<=min xs.size ys.size->n0<=s.heap.objs.size->s.heap.get? S=some {cls:=.type "list",dict:=none,data:=.seq acc c,slots:=#[]}->ZSt s.heap z TI TO i1 i2 S st1 st2 xs ys acc n0 i->
   (∀h' acc' c',(∀b o,b<n0->b≠S->b≠z->b≠TO->b≠i1->b≠i2->s.heap.get? b=some o->h'.get? b=some o)->h'.get? S=some {cls:=.type "list",dict:=none,data:=.seq acc' c',slots:=#[]}->acc'.size=min xs.size ys.size->(∀(j:Nat) (v:Value),acc'[j]?=some v->∃(a:Addr) (x y:Value),v=Value.ref a/\n0<=a/\a≠S/\xs[j]?=some x/\ys[j]?=some y/\IsPair h' a x y)->(∀(j j':Nat) (v:Value),acc'[j]?=some v->acc'[j']?=some v->j=j')->R (.ok (.ret res)) {s with heap:=h'})->
   codeAny (model prog w) A (.builtin "list.extend.loop" ⟨[.ref S,.ref z,res],[]⟩) R s:=by
 let⟨⟨z1,z2,z3,z4,z5,z6⟩,⟨t1,t2,t3,t4,t5⟩,⟨j1,j2,j3,j4,j5,j6,j7⟩⟩:=id D;let⟨c1,c2,c3,c4,c5,c6,c7⟩:=hS;let⟨d1,d2,d3,d4,d5,d6,d7⟩:=hn0;let vQ:(65536:Nat)<=sizeLine:=by decide
 intro k
 induction k with
 |zero=>
  intro i s acc c hk hi hz hL st hR;obtain rfl:i=min xs.size ys.size:=by lia
  let hx:xs[min xs.size ys.size]?=none\/ys[min xs.size ys.size]?=none:=by
   rcases Nat.le_total xs.size ys.size with y|y
   .exact .inl (by rw[Nb];lia)
   .exact .inr (by rw[Nb];lia)
  show FT F.entry_extend_loop ?_;rw[Hu Np _];change wpAny _ A.in1 (pyNext (.ref z) >>= _) _ _ s;show aB ?_;let fin:∀h',(∀c o,c≠z->c≠TO->c≠i1->c≠i2->s.heap.get? c=some o->h'.get? c=some o)->R (.ok (.ret res)) {s with heap:=h'}:=λh' kp=>
   hR h' acc c (λb o _ _ b1 b2 b3 b4 e=>kp b o b1 b2 b3 b4 e) (kp S _ c1 c3 c4 c5 hL) st.sz (λj v e=>by
    let⟨a,x,y,r1,r2,r3,r4,r5,r6⟩:=st.its j v e;show⟨a,x,y,r1,r2,r3,r4,r5,kp a _ (gD (dF d1 r2)) (gD (dF d3 r2)) (gD (dF d4 r2)) (gD (dF d5 r2)) r6⟩) st.inj
  rcases st.zp with ⟨_,hz,a,b,tK⟩|⟨r,o,kk,r1,r2,r3,r4⟩
  .exact zfC hh N1 N2 D hz st.ti tK st.s1 st.s2 hx λh' kp=>aP (fin h' kp)
  .exact zhl hh N1 N2 D r3 r4 st.ti st.s1 st.s2 hx λh' kp=>aP (fin h' λc o e1 _ e3 e4 e=>kp c o e1 e3 e4 e)
 |succ k ih=>
  intro i s acc c hk hi hz hL st hR;let lx:i<xs.size:=by lia
  let ly:i<ys.size:=by lia
  let ex:xs[i]?=some xs[i]:=vZ lx;let ey:ys[i]?=some ys[i]:=vZ ly;show FT F.entry_extend_loop ?_;rw[Hu Np _];change wpAny _ A.in1 (pyNext (.ref z) >>= _) _ _ s;show aB ?_;let Fi:S<s.heap.objs.size:=bL hL;let step:∀h' (kp:∀c o,c≠z->c≠TO->c≠i1->c≠i2->s.heap.get? c=some o->h'.get? c=some o),st1 (i+1) h'->st2 (i+1) h'->IsPair h' s.heap.objs.size xs[i] ys[i]->h'.objs.size=s.heap.objs.size+1->(∃(r:Addr) (o:Obj) (kk:Bool),n0<=r/\r≠S/\oR h' z TI TO r kk/\h'.get? r=some o)->
    wpAny (model prog w) A.in1 (updateSeq S (·.push (.ref s.heap.objs.size)) >>= λ_=>again (.builtin "list.extend.loop" ⟨[.ref S,.ref z,res],[]⟩)) (λfin s'=>match fin with|.done f=>R (.ok f) s'|.again c'=>c'.quiet=true/\codeAny (model prog w) A c' R s') (λe s'=>R (.error e) s') {s with heap:=h'}:=λh' kp e1 e2 tn sz zq=>by
   let hL':=kp S _ c1 c3 c4 c5 hL;let Mg:acc.size=i:=st.sz;show aB (Ob hL' rfl ?_ (by rw[Mg];lia) (by change (acc.push _).size<=sizeLine+1;rw[Array.size_push,Mg];lia));let oth:∀b o,b≠S->h'.get? b=some o->(h'.update S (Obj.mapSeq (·.push (.ref s.heap.objs.size)))).get? b=some o:=λb o hb e=>(v9 _ _ (Ne.symm hb)).trans e;let nS:∀{j:Nat} {v:Value},acc[j]?=some v->∃(a:Addr) (x y:Value),v=Value.ref a/\n0<=a/\a≠S/\xs[j]?=some x/\ys[j]?=some y/\IsPair (h'.update S (Obj.mapSeq (·.push (.ref s.heap.objs.size)))) a x y:=λ{j v} e=>by
    let⟨a,x,y,r1,r2,r3,r4,r5,r6⟩:=st.its j v e;show⟨a,x,y,r1,r2,r3,r4,r5,oth a _ r3 (kp a _ (gD (dF d1 r2)) (gD (dF d3 r2)) (gD (dF d4 r2)) (gD (dF d5 r2)) r6)⟩
   show aP ⟨plainId_quiet Np _,ih (i+1) _ (acc.push (.ref s.heap.objs.size)) _ gV gV (by change n0<=(h'.update S _).objs.size;rw[(zX h' S _).1,sz];lia) (wg _ hL' rfl) ⟨?_,oth _ _ c2.symm (kp _ _ z1.symm t1.symm j1 j2 st.ti),N1.keep _ _ _ e1 λb o hb e=>oth b o (by rcases hb with rfl|rfl;show c4.symm;show c6.symm) e,N2.keep _ _ _ e2 λb o hb e=>oth b o (by rcases hb with rfl|rfl;show c5.symm;show c7.symm) e,by rw[Array.size_push,Mg],λj v e=>?_,λj j' v e e'=>?_⟩ λh'' acc' c' kp' V_ iw hit lU=>?_⟩
   .obtain⟨r,o,kk,r1,r2,r3,r4⟩:=zq;show .inr ⟨r,o,kk,r1,r2,oth _ _ c1.symm r3,oth _ _ r2 r4⟩
   .rw[Array.getElem?_push]at e;split at e
    .rename_i hj;cases e;show⟨_,_,_,rfl,hz,gD Fi,by rw[hj,Mg];show ex,by rw[hj,Mg];show ey,oth _ _ (gD Fi) tn⟩
    .exact nS e
   .let new:∀(m:Nat),acc[m]?≠some (.ref s.heap.objs.size):=λm q=>by
     let⟨a,x,y,r1,r2,r3,r4,r5,r6⟩:=st.its m _ q;cases r1;show nU _ (bL r6)
    rw[Array.getElem?_push]at e e';split at e<;>split at e'
    .lia
    .cases e;show absurd e' (new j')
    .cases e';show absurd e (new j)
    .exact st.inj j j' v e e'
   .exact hR h'' acc' c' (λb o q1 q2 q3 q4 q5 q6 e=>kp' b o q1 q2 q3 q4 q5 q6 (oth b o q2 (kp b o q3 q4 q5 q6 e))) V_ iw hit lU
  rcases st.zp with ⟨_,hzz,a,b,tK⟩|⟨r,o,kk,r1,r2,r3,r4⟩
  .exact zel N1 N2 D hzz st.ti tK st.s1 st.s2 ex ey λh' b1 b2 b3 b4 b5 b6 kp=>step h' kp b3 b4 b5 b6 ⟨s.heap.objs.size,_,false,hz,gD Fi,b1,b5⟩
  .exact zgc N1 N2 D r3 r4 st.ti st.s1 st.s2 ex ey λh' b1 b3 b4 b5 b6 kp=>step h' (λc o e1 _ e3 e4 e=>kp c o e1 e3 e4 e) b3 b4 b5 b6 ⟨r,o,true,r1,r2,b1,kp r o (gD (dF d1 r1)) (gD (dF d4 r1)) (gD (dF d5 r1)) r4⟩
end
theorem zeQ:typeLookup (.type "zip") "__len__"=pure none:=by rw[typeLookup_type,builtinLookup_eq_fast];kernel_rfl
theorem zdN:typeLookup (.type "zip") "__length_hint__"=pure none:=by rw[typeLookup_type,builtinLookup_eq_fast];kernel_rfl
section
variable {prog:Program}{w:World}{A:Around}{E:Value->Shared->Prop}{s:Shared}{z TI TO i1 i2 l1 l2:Addr}{xs ys:Array Value}{k1 k2:Bool}
theorem zh3{f0:Value}{Q:Value->Shared->Prop}(hz:IsZip s.heap z TI TO f0)(q:Q (.ref z) s):wpAny (model prog w) A (pyIter (.ref z)) Q E s:=by
 let hT:s.TypeIs (.ref z) "zip":=⟨_,hz,rfl⟩;show wpAny_pyIter_slot hT F.slot_zip_iter (sU F.slot_zip_iter hT F.entry_zip_iter ?_ (F.args_zip_iter_1 _));change wpAny _ _ (ret (.ref _)) _ _ s;show aP ⟨_,rfl,"zip",_,hT,xP.lookup,q⟩
theorem zcM{Q:Value->Shared->Prop}(hh:A.handled=none)(D:fu z TI TO i1 i2 l1 l2)(hz:IsZip s.heap z TI TO .none)(wC:IsPair s.heap TI (.ref i1) (.ref i2))(tK:∃a b,IsPair s.heap TO a b)(h1:Rk k1 i1 l1 0 s.heap)(h2:Rk k2 i2 l2 0 s.heap)(c1:Ck k1 s.heap l1 xs)(c2:Ck k2 s.heap l2 ys)(hsm:xs.size<=65536)
  (hQ:∀h' acc c,(∀b o,b≠z->b≠TO->b≠i1->b≠i2->s.heap.get? b=some o->h'.get? b=some o)->h'.get? s.heap.objs.size=some {cls:=.type "list",dict:=none,data:=.seq acc c,slots:=#[]}->acc.size=min xs.size ys.size->
   (∀(j:Nat) (v:Value),acc[j]?=some v->∃(a:Addr) (x y:Value),v=Value.ref a/\s.heap.objs.size<a/\xs[j]?=some x/\ys[j]?=some y/\IsPair h' a x y)->(∀(j j':Nat) (v:Value),acc[j]?=some v->acc[j']?=some v->j=j')->Q (.ref s.heap.objs.size) {s with heap:=h'}) :
  wpAny (model prog w) A (call (.type "list") [.ref z]) Q E s:=by
 show callType_codes (Q₁:=λobj s₁=>obj=.ref s.heap.objs.size/\s₁={s with heap:=s.heap.push {cls:=.type "list",data:=.seq #[]}}) F.called_list (F.typeCall_list_1 _) F.entry_list_init
  (code_list_new _ ⟨rfl,rfl⟩) λobj s₁ e₁=>?_
 let⟨rfl,rfl⟩:=e₁;let hS:(s.heap.push {cls:=.type "list",data:=.seq #[]}).get? s.heap.objs.size=some {cls:=.type "list",data:=.seq #[]}:=gK _ rfl;show⟨⟨_,hS,rfl⟩,F.args_list_init_2 _ _,?_⟩;let lt:z<s.heap.objs.size/\TI<s.heap.objs.size/\TO<s.heap.objs.size/\i1<s.heap.objs.size/\i2<s.heap.objs.size/\l1<s.heap.objs.size/\l2<s.heap.objs.size:=by
  let⟨a,b,tK⟩:=tK;let⟨o1,g1,_⟩:=h1.obj;let⟨o2,g2,_⟩:=h2.obj;show⟨bL hz,bL wC,bL tK,bL g1,bL g2,c1.lt,c2.lt⟩
 let⟨d1,d2,d3,d4,d5,d6,d7⟩:=lt;let Wa:s.heap.objs.size≠z:=gD d1;change wpAny _ _ (do let old <-Builtin.List.listItems (.ref s.heap.objs.size);Builtin.List.listUpdate (.ref s.heap.objs.size) (λ_=>#[]);letGo old.toList.reverse;Builtin.List.listExtendWith (.ref s.heap.objs.size) (.ref z) .none) _ _ _;show aB ?_;unfold Builtin.List.listItems;show aB (uh hS rfl (aP ?_));change wpAny _ _ (updateSeq s.heap.objs.size (λ_=>#[]) >>= λ_=>letGo (#[]:Array Value).toList.reverse >>= λ_=>Builtin.List.listExtendWith (.ref s.heap.objs.size) (.ref z) .none) _ _ _;show aB (Ob hS rfl ?_);let hS2:=wg (Obj.mapSeq (λ_=>(#[]:Array Value))) hS rfl;let oth:∀b o,s.heap.get? b=some o->((s.heap.push {cls:=.type "list",data:=.seq #[]}).update s.heap.objs.size (Obj.mapSeq (λ_=>(#[]:Array Value)))).get? b=some o:=λb o e=>(v9 _ _ (gD (bL e))).trans (dD _ e);let Bv:((s.heap.push {cls:=.type "list",data:=.seq #[]}).update s.heap.objs.size (Obj.mapSeq (λ_=>(#[]:Array Value)))).objs.size=s.heap.objs.size+1:=by rw[(zX _ _ _).1,oY]
 show aB (wpAny_letGo ?_);generalize (s.heap.push {cls:=.type "list",data:=.seq #[]}).update s.heap.objs.size (Obj.mapSeq (λ_=>(#[]:Array Value)))=hp2 at hS2 oth Bv;let hz2:IsZip hp2 z TI TO .none:=oth _ _ hz;let Ds:Shared.TypeIs {s with heap:=hp2} (.ref z) "zip":=⟨_,hz2,rfl⟩;unfold Builtin.List.listExtendWith;show aB (HJ Ds ?_);let e1:Builtin.List.listSameRef (.ref s.heap.objs.size) (.ref z)=false:=by simp[Builtin.List.listSameRef,Wa]
 let e2:(Value.type "zip"==Value.type "list")=false:=by decide
 let e3:(Value.type "zip"==Value.type "tuple")=false:=by decide
 simp only[e1,e2,e3,Bool.or_false,xK,sW];show aB (zh3 hz2 (aB (mj ?_)));unfold Builtin.List.listLengthHint;show aB (wpAny_specialOf Ds zeQ ?_);change wpAny _ _ (specialOf (Value.ref z) (Str.ofString "__length_hint__") >>= _) _ _ _;show aB (wpAny_specialOf Ds zdN (aP ?_));change wpAny _ _ (rule "list.extend.makes-room" >>= λ_=>Builtin.List.listTouch (.ref s.heap.objs.size) >>= λ_=>again (.builtin "list.extend.loop" ⟨[.ref s.heap.objs.size,.ref z,.none],[]⟩)) _ _ _;show aB (Gb (aB ?_));change wpAny _ _ (updateSeq s.heap.objs.size (·.push .none) >>= λ_=>updateSeq s.heap.objs.size (·.pop)) _ _ _;show aB (Ob hS2 rfl ?_);let lV:=wg (Obj.mapSeq (·.push Value.none)) hS2 rfl;show Ob (hz:=by seq_fits) lV rfl ?_;let uX:=wg (Obj.mapSeq (·.pop)) lV rfl;let nj:∀b o,s.heap.get? b=some o->((hp2.update s.heap.objs.size (Obj.mapSeq (·.push Value.none))).update s.heap.objs.size (Obj.mapSeq (·.pop))).get? b=some o:=λb o e=>(v9 _ _ (gD (bL e))).trans ((v9 _ _ (gD (bL e))).trans (oth b o e));let Bw:((hp2.update s.heap.objs.size (Obj.mapSeq (·.push Value.none))).update s.heap.objs.size (Obj.mapSeq (·.pop))).objs.size=s.heap.objs.size+1:=by rw[(zX _ _ _).1,(zX _ _ _).1,Bv]
 show aP ⟨plainId_quiet Np _,?_⟩;generalize (hp2.update s.heap.objs.size (Obj.mapSeq (·.push Value.none))).update s.heap.objs.size (Obj.mapSeq (·.pop))=hp4 at uX nj Bw;let⟨_,_,⟨_,_,_,j4,_,_,j7⟩⟩:=id D;show zhp (n0:=s.heap.objs.size+1) (by simp[hh]) (jg.of k1 j4.symm) (jg.of k2 j7.symm) D ⟨gD d1,gD d2,gD d3,gD d4,gD d5,gD d6,gD d7⟩ ⟨k_ d1,k_ d2,k_ d3,k_ d4,k_ d5,k_ d6,k_ d7⟩ hsm (min xs.size ys.size) 0 _ #[] _ gV (jJ _) (Nat.le_of_eq Bw.symm) uX
  ⟨.inl ⟨rfl,nj _ _ hz,let ⟨a,b,e⟩:=tK;⟨a,b,nj _ _ e⟩⟩,nj _ _ wC,⟨h1.keep λo e=>nj _ _ e,c1.keep λo e=>nj _ _ e⟩,⟨h2.keep λo e=>nj _ _ e,c2.keep λo e=>nj _ _ e⟩,rfl,λj v e=>by simp at e,λj j' v e=>by simp at e⟩ λh' acc' c' kp hL iw hit lU=>?_
 show⟨rfl,hQ h' acc' c' (λb o b1 b2 b3 b4 e=>kp b o (k_ (bL e)) (dU (bL e)) b1 b2 b3 b4 (nj b o e)) hL iw (λj v e=>by
  let⟨a,x,y,r1,r2,r3,r4,r5,r6⟩:=hit j v e;show⟨a,x,y,r1,r2,r4,r5,r6⟩) lU⟩
end
end L2
namespace Ts
open Mi (rQ wD)
open PySem PySem.SetTable
noncomputable def nq:List Int:=(List.range 36).map (λk:Nat=>(k:Int)-1)++(List.range 35).map λk:Nat=>100000000000000000000+(k:Int)
theorem dI:(nq.all λx=>vP 7 5 22 (hashInt x)&&vP 31 19 20 (hashInt x))=true:=by decide +kernel
theorem dN:(nq.map hashInt).Nodup:=by decide +kernel
theorem zkO{x:Int}(h:rQ x=true):x∈nq:=by
 unfold rQ at h;rw[Hy]at h;rcases h with h|h
 .let h:=fj h;show nR _ (cW.mpr ⟨(x+1).toNat,gC.mpr gV,?_⟩);change ((x+1).toNat:Int)-1=x
  lia
 .let h:=fj h;show oV _ (cW.mpr ⟨(x-100000000000000000000).toNat,gC.mpr gV,?_⟩);change 100000000000000000000+((x-100000000000000000000).toNat:Int)=x
  lia
theorem zem{x:Int}(h:x∈nq):i_ 7 5 (hashInt x)/\i_ 31 19 (hashInt x):=by
 let:=gY.mp dI x h;rw[dZ]at this;show⟨zfK J0 this.1,zfK J0 this.2⟩
theorem zj6{x y:Int}(h:x∈nq)(h':y∈nq)(e:hashInt x=hashInt y):x=y:=by
 let⟨i,hi,rfl⟩:=Fz.mp h;let⟨j,hj,rfl⟩:=Fz.mp h';let:(nq.map hashInt)[i]'(by rw[aY];show hi)=(nq.map hashInt)[j]'(by rw[aY];show hj):=by simpa using e
 let:=V1 dN _ _ this;subst this;rfl
noncomputable def isAt(is:List Int)(i:Nat):Int:=is.getD i 0
noncomputable def aZ(is:List Int)(i:Nat):Int:=hashInt (isAt is i)
structure Ints(items:List Value)(is:List Int):Prop where
 len:is.length=items.length
 small:is.length<=18
 dom:∀i,i<is.length->isAt is i∈nq
 at':∀i,i<is.length->∃t,items.getD i .none=.int (isAt is i) t
def zN(m n:Nat):Prop:=m=7/\n<=4\/m=31/\n<=18
theorem zN.cap{m n:Nat}(c:zN m n):V6 m n:=c.elim .inl λq=>.inr (.inl q)
structure zO(h:Heap)(S:Addr)(items:List Value)(is:List Int)(L:Ent)(led:Bool):Prop where
 ob:∃ep t,h.get? S=some {cls:=.type "set",dict:=none,data:=.set (bG items (aZ is) L).toArray ep t}/\Tab (aZ is) t L/\zN t.mask L.length/\t.plain=true/\t.led=led
 idx:∀e∈L,e.2<is.length
def BJ(is:List Int)(L L':Ent)(k:Nat):Prop:=(L'=L/\∃e∈L,isAt is e.2=isAt is k)\/((∀e∈L,isAt is e.2≠isAt is k)/\(L'.map (·.2)).Perm (k::L.map (·.2)))
theorem Wb{hk:Nat->Int}{t:SetTable}{L:Ent}(T:Tab hk t L):(L.map (·.2)).Nodup:=by
 rw[uc,qu];let:=T.asc;unfold gW at this;rw[qu,ud]at this;rw[ud];intro i j hi hj lU q;let e:=T.inj _ (pG hi) _ (pG hj) (pI hk q);let:=this i j hi hj lU;rw[e]at this;show nU _ this
theorem Wc{hk:Nat->Int}{t:SetTable}{L:Ent}{n:Nat}(T:Tab hk t L)(hi:∀e∈L,e.2<n):L.length<=n:=by
 let:=GZ (m:=List.range n) (Wb T) λx hx=>by
  let⟨e,he,rfl⟩:=cW.mp hx;show gC.mpr (hi e he)
 rwa [aY,nG]at this
theorem zeZ{l:List Nat}{n:Nat}(hn:l.Nodup)(hl:l.length=n)(hi:∀i∈l,i<n):l.Perm (List.range n):=by
 show(QV hn List.nodup_range).mpr λi=>⟨λh=>gC.mpr (hi i h),λh=>?_⟩;by_cases z:i∈l
 .exact z
 .let:=GZ (l:=i::l) (m:=List.range n) (rE.mpr ⟨z,hn⟩) λx hx=>by
   rcases cX.mp hx with rfl|hx
   .exact h
   .exact gC.mpr (hi x hx)
  rw[fP,nG]at this
  lia
theorem zki{t:SetTable}{L:Ent}{h:Int}{c:Nat}(hp:t.place=(L.map (·.1)).toArray)(hd:t.dummies=#[])(hs:gW L)(hw:Wide t.mask c h)(hc:L.length<c) :
  ∃j,t.freeSlot h=some (j,false)/\(∀e∈L,e.1≠j)/\∃pre post,steps t.mask (10*turns t.mask) (start t.mask h)=pre++j::post/\∀x∈pre,∃e∈L,e.1=x:=by
 let g:=zf3 (hk:=λ_=>h+1) (hashAt:=λ_=>h+1) (h:=h) hp hd hs (λ_ _ _ _=>rfl) (10*turns t.mask) (start t.mask h) rfl;let e0:t.probe (λ_=>h+1) h (t.probeStart h)=probe.go t (λ_=>h+1) h (10*turns t.mask) (start t.mask h):=rfl;unfold SetTable.freeSlot;rw[e0];cases hg:probe.go t (λ_=>h+1) h (10*turns t.mask) (start t.mask h) with
 |none=>
  rw[hg]at g;let⟨l,l1,l2,l3⟩:=hw;let:=few l1 λx hx=>g x (l3 x hx)
  lia
 |some met=>
  rw[hg]at g;cases met with
  |candidate j i next=>
   let⟨_,_,_,_,_,a3⟩:=g
   lia
  |empty j d=>
   let⟨rfl,a2,pre,post,a3,a4⟩:=g;show⟨j,rfl,a2,pre,post,a3,λx hx=>let ⟨e,he,q,_⟩:=a4 x hx;⟨e,he,q⟩⟩
section
variable {prog:Program}{w:World}{A:Around}{E:Value->Shared->Prop}{s:Shared}{S:Addr}{items:List Value}{is:List Int}{L:Ent}{led:Bool}
theorem zi7{hk:Nat->Int}{x:Int×Value}(h:x∈(bG items hk L).toArray.toList):∃e∈L,x=(hk e.2,items.getD e.2 .none):=by
 let⟨e,he,q⟩:=cW.mp h;show⟨e,he,q.symm⟩
theorem zia(T:Ints items is)(hi:∀e∈L,e.2<is.length):ElemsOf (intKind prog w) (bG items (aZ is) L).toArray.toList:=λx hx=>by
 let⟨e,he,rfl⟩:=zi7 hx;let⟨t,q⟩:=T.at' e.2 (hi e he);dsimp only;rw[q];show⟨⟨isAt is e.2,intKind_is _ _ _ _,rfl⟩,rfl⟩
theorem zfE{t:SetTable}{wanted c:Nat}(tb:Tab (aZ is) t L)(hw:∀e∈L,i_ (sizeAbove wanted-1) c (aZ is e.2))(hc:L.length<=c)(Fj:V6 (sizeAbove wanted-1) L.length) :
  ∃L' t',relayAll t (bG items (aZ is) L).toArray wanted=((bG items (aZ is) L').toArray,t',false)/\t'.mask=sizeAbove wanted-1/\t'.plain=t.plain/\t'.led=t.led/\L'.length=L.length/\(L'.map (·.2)).Perm (L.map (·.2))/\Tab (aZ is) t' L':=by
 let⟨ord,L',r1,r2,r3,r4,r5,r6,r7⟩:=zhU tb hw hc;let e1:(bG items (aZ is) L).toArray.map (·.1)=(L.map λe=>aZ is e.2).toArray:=by
  unfold bG;rw[List.map_toArray,nW];rfl
 let e2:ord.toArray.filterMap (λi=>(bG items (aZ is) L).toArray[i]?)=(bG items (aZ is) L').toArray:=by
  let q:bG items (aZ is) L'=ord.map λi=>(aZ is (L.getD i (0,0)).2,items.getD (L.getD i (0,0)).2 .none):=by
   let:bG items (aZ is) L'=(L'.map (·.2)).map λi=>(aZ is i,items.getD i .none):=by unfold bG;rw[nW];rfl
   rw[this,r4,nW];rfl
  rw[List.filterMap_toArray,q]
  congr 1
  show zfX λi hi=>?_;let:=r3 i hi;unfold bG;simp[this]
 let hn:ord.Nodup:=by
  let:(L'.map (·.2)).Nodup:=r6.nodup_iff.mpr (Wb tb);rw[r4]at this;show uc.mpr ((qu.mp (uc.mp this)).imp λz q=>z (by rw[q]))
 let wY:(bG items (aZ is) L).toArray.size=L.length:=G3;let Wd:coversAll ord.toArray (bG items (aZ is) L).toArray.size=true:=by
  unfold coversAll;rw[wY];show List.isPerm_iff.mpr (zeZ hn r2 r3)
 let Wf:({t with mask:=sizeAbove wanted-1,moves:=t.movedTo (sizeAbove wanted-1),place:=(L'.map (·.1)).toArray}:SetTable).fits (bG items (aZ is) L').toArray.size=true:=V7 r7 (by rw[r5];show Fj);show⟨L',{t with mask:=sizeAbove wanted-1,moves:=t.movedTo (sizeAbove wanted-1),place:=(L'.map (·.1)).toArray},?_,rfl,rfl,rfl,r5,r6,r7⟩;unfold relayAll;rw[e1,r1];dsimp only;rw[e2,Wd,Wf];rfl
theorem zeM{fuel k:Nat}{tk:Tok}{Q:Bool->Shared->Prop}(T:Ints items is)(hS:zO s.heap S items is L led)(hk:k<is.length)(ha:items.getD k .none=.int (isAt is k) tk)
  (h:∀h' L' b,Heap.SameBut S s.heap h'->zO h' S items is L' led->BJ is L L' k->Q b {s with heap:=h'}) :
  wpAny (model prog w) A (setAddHashedIn S (.int (isAt is k) tk) (aZ is k) (fuel+1)) Q E s:=by
 let⟨⟨ep,t,ho,tb,cap,bU,Mh⟩,qj⟩:=id hS;let hf':=V7 (items:=items) tb cap.cap;let Qk:ElemsOf (intKind prog w) (bG items (aZ is) L).toArray.toList:=zia T qj;let wY:(bG items (aZ is) L).toArray.size=L.length:=G3;let h18:L.length<=18:=jf (Wc tb qj) T.small;let aac:(100:Nat)<=sizeLine:=by decide
 let aad:(100:Nat)<=scanBound:=by decide
 let Wg:(intKind prog w).is (isAt is k) (.int (isAt is k) tk)=true:=intKind_is _ _ _ _;unfold setAddHashedIn;show aB (wpAny_setState_of ho rfl hf' ?_);dsimp only;rw[byScan_of (knd:=intKind prog w) rfl (by rw[wY];lia) Qk];simp only[if_true];unfold setAddByScan;show aB (aB (Gb (aB (wpAny_setScan_of Wg ho rfl hf' Qk ?_))));cases hr:List.findIdx? (λe=>(intKind prog w).is (isAt is k) e.2) (bG items (aZ is) L).toArray.toList with
 |some j=>
  dsimp only;let⟨hj,Mj,_⟩:=List.findIdx?_eq_some_iff_getElem.mp hr;let⟨e,he,q⟩:=zi7 (pG hj);rw[q]at Mj;let⟨t',q'⟩:=T.at' e.2 (qj e he);dsimp only at Mj;rw[q']at Mj;let hv:isAt is e.2=isAt is k:=by
   let:(intKind prog w).is (isAt is k) (.int (isAt is e.2) t')=decide (isAt is e.2=isAt is k):=rfl;rw[this]at Mj;show fj Mj
  show aP (aP (h s.heap L false (Heap.SameBut.refl S s.heap) hS (.inl ⟨rfl,e,he,hv⟩)))
 |none=>
  dsimp only;let hne:∀e∈L,isAt is e.2≠isAt is k:=λe he q=>by
   let:=List.findIdx?_eq_none_iff.mp hr (aZ is e.2,items.getD e.2 .none) (by
    change _∈bG items (aZ is) L;show rC (f:=λe=>(aZ is e.2,items.getD e.2 .none)) he)
   let⟨t',q'⟩:=T.at' e.2 (qj e he);dsimp only at this;rw[q',q]at this;rw[intKind_is]at this;cases this
  let hnh:∀e∈L,aZ is e.2≠aZ is k:=λe he q=>hne e he (zj6 (T.dom _ (qj e he)) (T.dom _ hk) q);let⟨w7,w31⟩:=zem (T.dom k hk);let Ml:∃c,Wide t.mask c (aZ is k)/\L.length<c:=by
   rcases cap with ⟨c,q⟩|⟨c,q⟩
   .exact⟨5,by rw[c];show w7.wide,by lia⟩
   .exact⟨19,by rw[c];show w31.wide,by lia⟩
  let⟨c,hw,hc⟩:=Ml;let⟨j,lG,hj,pre,post,nM,hpre⟩:=zki tb.place tb.Fe tb.asc hw hc;let⟨La,Lb,e,Mp,Wh⟩:=znR tb.place tb.Fe tb.asc hj k;let hlen:(La++(j,k)::Lb).length=L.length+1:=by rw[e];simp;lia
  let tb':=tb;let Mq:=hnh;rw[e]at tb' Mq;let Fg:vN (aZ is) (La++Lb) (aZ is k) (steps t.mask (10*turns t.mask) (start t.mask (aZ is k))) j:=⟨pre,post,nM,λx hx=>let ⟨y,hy,q⟩:=hpre x hx;⟨y,by rw[<-e];show hy,q,hnh y hy⟩⟩;let BK:=tb'.add Wh Mq Fg;let m1:({t with place:=((La++(j,k)::Lb).map (·.1)).toArray}:SetTable).mask=t.mask:=rfl;let p1:({t with place:=((La++(j,k)::Lb).map (·.1)).toArray}:SetTable).plain=true:=bU;let l1:({t with place:=((La++(j,k)::Lb).map (·.1)).toArray}:SetTable).led=led:=Mh;generalize ({t with place:=((La++(j,k)::Lb).map (·.1)).toArray}:SetTable)=t1 at Mp BK m1 p1 l1;let Mr:insertAt (bG items (aZ is) L).toArray La.length (aZ is k,.int (isAt is k) tk)=(bG items (aZ is) (La++(j,k)::Lb)).toArray:=by
   let q:bG items (aZ is) L=(bG items (aZ is) La)++(bG items (aZ is) Lb):=by rw[e];unfold bG;rw[iu]
   let q2:La.length=(bG items (aZ is) La).length:=by unfold bG;rw[aY]
   rw[q,q2,zbi];unfold bG;rw[iu,kJ,ha]
  let hsub:∀x∈La++(j,k)::Lb,x.2<is.length:=λx hx=>by
   rcases dw.mp hx with z|z
   .exact qj x (by rw[e];show nR _ z)
   .rcases cX.mp z with rfl|z
    .exact hk
    .exact qj x (by rw[e];show oV _ z)
  let vR:((La++(j,k)::Lb).map (·.2)).Perm (k::L.map (·.2)):=by
   rw[e,iu,iu,kJ];show List.perm_middle
  generalize La++(j,k)::Lb=L1 at hlen BK hsub vR Mr;let Wi:L.length+1<=18:=by rw[<-hlen];show jf (Wc BK hsub) T.small
  let Fl:(bG items (aZ is) L1).toArray.size=L.length+1:=by rw[<-hlen];show G3
  let vU:t1.fill=L.length+1:=by
   unfold fill;rw[BK.place,BK.Fe,dH,aY,hlen];rfl
  let Ms:t1.fits (bG items (aZ is) L1).toArray.size=true:=by
   unfold SetTable.fits;rw[vU,Fl,BK.place,dH,aY,hlen,ug,uo];show cO ?_;rw[m1];rcases cap with c|c<;>lia
  let Jr:layNew t (bG items (aZ is) L).toArray (aZ is k) (.int (isAt is k) tk)=((bG items (aZ is) L1).toArray,t1,false,false):=by
   unfold layNew;rw[lG];dsimp only;rw[Mp];dsimp only;rw[Mr];unfold SetTable.orStandIn;rw[Ms];rfl
  rw[Jr];dsimp only;show aB (aP ?_);rw[p1];simp only[if_true];rw[hashByValue_scannable 8 rfl,show plainKind (Value.int (isAt is k) tk)=true from rfl];show aB (aP ?_);simp only[if_true];change wpAny _ _ (storeSet S (bG items (aZ is) L1).toArray t1 >>= _) _ _ _;show aB (wpAny_storeSet_of ho rfl ?_ (by rw[Fl];lia));let hg1:=zfu (es':=(bG items (aZ is) L1).toArray) (t':=t1) ho;let wK:Heap.SameBut S s.heap (s.heap.update S (Obj.putSet (bG items (aZ is) L1).toArray t1)):=zX s.heap S _;by_cases qZ:t1.tooFull=true
  .let Fp:(L.length+1)*5>=t.mask*3:=by
    let:=qZ;unfold tooFull at this;rw[vU,m1]at this;show fj this
   let h4:L.length=4:=by rcases cap with c|c<;>lia
   let hgr:grown (bG items (aZ is) L1).toArray.size=20:=by rw[Fl,h4];rfl
   let iw:sizeAbove 20-1=31:=by decide
   let⟨L',t',q1,q2,q3,q4,q5,q6,q7⟩:=zfE (items:=items) (wanted:=20) (c:=19) BK (λx hx=>by rw[iw];show(zem (T.dom x.2 (hsub x hx))).2) (by rw[hlen];lia) (by rw[iw,hlen];show .inr (.inl ⟨rfl,by lia⟩));change wpAny _ _ (if (!false&&t1.tooFull)=true then _ else _) _ _ _;rw[qZ];simp only[Bool.not_false,Bool.and_self,if_true];rw[hgr,q1];dsimp only;show aB (aP ?_);show aB (wpAny_storeSet_of (s:={s with heap:=s.heap.update S (Obj.putSet (bG items (aZ is) L1).toArray t1)}) hg1 rfl ?_ (by rw[G3,q5,hlen];lia));show aP (aP ?_);show h _ L' true (wK.trans (zX _ S _)) ⟨⟨_,t',zfu hg1,q7,by rw[q2,q5,hlen,iw];show .inr ⟨rfl,Wi⟩,q3.trans p1,q4.trans l1⟩,λx hx=>?_⟩ (.inr ⟨hne,q6.trans vR⟩);let:x.2∈L1.map (·.2):=q6.mem_iff.mp (rC hx);let⟨y,hy,q⟩:=cW.mp this;rw[<-q];show hsub y hy
  .let Fp:¬(L.length+1)*5>=t.mask*3:=by
    let:=qZ;unfold tooFull at this;rw[vU,m1]at this;simpa using this
   let Fj:zN t1.mask L1.length:=by
    rw[hlen,m1];rcases cap with ⟨c,_⟩|⟨c,_⟩
    .exact .inl ⟨c,by lia⟩
    .exact .inr ⟨c,by lia⟩
   change wpAny _ _ (if (!false&&t1.tooFull)=true then _ else _) _ _ _;rw[show t1.tooFull=false by simpa using qZ];simp only[Bool.not_false,Bool.and_false,xK,sW];show aP (aP ?_);show h _ _ true wK ⟨⟨_,_,hg1,BK,Fj,p1,l1⟩,hsub⟩ (.inr ⟨hne,vR⟩)
end
end Ts
namespace Ts
open PySem PySem.SetTable
def Mt(is:List Int)(L:Ent)(i:Nat):Prop:=(∀e∈L,e.2<i)/\∀k,k<i->∃e∈L,isAt is e.2=isAt is k
theorem Mt.Wj{is:List Int}{L L':Ent}{i:Nat}(d:Mt is L i)(g:BJ is L L' i):Mt is L' (i+1):=by
 rcases g with ⟨rfl,e,he,q⟩|⟨hn,hp⟩
 .refine⟨λx hx=>k_ (d.1 x hx),λk hk=>?_⟩;rcases Cm k i with z|z
  .exact d.2 k z
  .obtain rfl:k=i:=by lia
   show⟨e,he,q⟩
 .let back:∀k∈i::L.map (·.2),∃e∈L',e.2=k:=λk hk=>cW.mp (hp.mem_iff.mpr hk);show⟨λx hx=>?_,λk hk=>?_⟩
  .rcases cX.mp (hp.mem_iff.mp (rC (f:=(·.2)) hx)) with q|q
   .lia
   .obtain⟨y,hy,q⟩:=cW.mp q;let:=d.1 y hy
    lia
  .rcases Cm k i with z|z
   .obtain⟨e,he,q⟩:=d.2 k z;let⟨e',vO,q'⟩:=back e.2 (fZ _ (rC he));show⟨e',vO,by rw[q'];show q⟩
   .obtain⟨e',vO,q'⟩:=back i jH;show⟨e',vO,by rw[q'];congr 1;lia⟩
def zP(h:Heap)(S:Addr)(items:List Value)(is:List Int)(led:Bool)(i:Nat):Prop:=∃L,zO h S items is L led/\Mt is L i
section
variable {prog:Program}{w:World}{A:Around}{R:Result->Shared->Prop}{I:Addr}{fp wr:List Addr}{G:Array GenState->Array GenState->Prop}{n:Nat}{P:Nat->Value->Prop}{St:Nat->Shared->Prop}{S:Addr}{items:List Value}{is:List Int}{led:Bool}
theorem zP.keep{h h':Heap}{i:Nat}(x:zP h S items is led i)(k:∀o,h.get? S=some o->h'.get? S=some o):zP h' S items is led i:=
 let ⟨L,⟨⟨ep,t,ho,r⟩,j⟩,d⟩:=x;⟨L,⟨⟨ep,t,k _ ho,r⟩,j⟩,d⟩
theorem zmT{E:Value->Shared->Prop}{s:Shared}{v:Value}{i:Nat}{Q:Bool->Shared->Prop}(T:Ints items is)(hi:i<is.length)(hv:items.getD i .none=v)(hS:zP s.heap S items is led i)
  (h:∀h' b,Heap.SameBut S s.heap h'->zP h' S items is led (i+1)->Q b {s with heap:=h',toks:=s.toks+1}):wpAny (model prog w) A (setAdd S v) Q E s:=by
 let⟨t,q⟩:=T.at' i hi;rw[q]at hv;subst hv;let⟨L,hL,hD⟩:=hS;unfold setAdd;show mj (aB ((intKind prog w).pyHash (k:=isAt is i) (intKind_is _ _ _ _) ?_));unfold setAddHashed;show mj (zeM (fuel:=99999) (k:=i) (s:={s with toks:=s.toks+1}) T hL hi q λh' L' b wK hS2 hg=>h h' b wK ⟨L',hS2,hD.Wj hg⟩)
theorem zkY(W:WalksS prog w A.in1 I fp wr G n P St)(Ql:S∉fp)(hn:n=is.length)(T:Ints items is)(Fq:∀i v,P i v->items.getD i .none=v) :
  ∀(k i:Nat) (s:Shared),n-i=k->i<=n->St i s->zP s.heap S items is led i->
   (∀s',Moved (S::wr) G s s'->zP s'.heap S items is led n->R (.ok (.ret .none)) s')->
   codeAny (model prog w) A (.builtin "set.update.loop" ⟨[.ref S,.ref I],[]⟩) R s:=by
 let hSw:S∉wr:=λh=>Ql (W.«sub» _ h);let hsub:∀b∈wr,b∈S::wr:=λb hb=>fZ _ hb;intro k
 induction k with
 |zero=>
  intro i s hk hi nM hS hR;obtain rfl:i=n:=by lia
  show FT YM ?_;rw[Hu QT _];change wpAny _ A.in1 (pyNext (.ref I) >>= _) _ _ s;show aB (W.done s _ _ nM λs' hm=>?_);change wpAny _ A.in1 (ret Value.none) _ _ s';show aP (hR s' (hm.mono hsub) (hS.keep λo=>hm.heap S o hSw))
 |succ k ih=>
  intro i s hk hi nM hS hR;let bV:i<n:=by lia
  show FT YM ?_;rw[Hu QT _];change wpAny _ A.in1 (pyNext (.ref I) >>= _) _ _ s;show aB (W.item i s _ _ bV nM λv s' hP Wm hm=>?_);change wpAny _ A.in1 (holding [v] (setAdd S v) >>= _) _ _ s';show aB (mj (zmT T gV (Fq i v hP) (hS.keep λo=>hm.heap S o hSw) λh' b wK hS2=>?_));let Ed:∀b o,b≠S->s'.heap.get? b=some o->h'.get? b=some o:=λb o hb e=>by rw[wK.2 b hb];show e
  show aP ⟨plainId_quiet QT _,ih (i+1) _ gV bV (W.frame _ s' _ _ Wm (Nat.le_add_right _ _) λb hb o e=>Ed b o (λh=>Ql (by rw[<-h];show hb)) e) hS2 λs'' Wn Wo=>?_⟩;show hR s'' (Moved.trans W.gtrans ((hm.mono hsub).then_heap (Nat.le_add_right _ _) λb o hb e=>Ed b o (λh=>hb (by rw[h];show jH)) e) Wn) Wo
end
section
variable {prog:Program}{w:World}{A:Around}{E:Value->Shared->Prop}{s:Shared}
noncomputable abbrev kE(w:World):Obj:={cls:=.type "set",dict:=none,data:=.set #[] 0 (.fresh 0 0 (oO w))}
theorem zdV{l:Addr}{items:List Value}{is:List Int}{Q:Value->Shared->Prop}(hh:A.handled=none)(hl:s.heap.IsTuple l items.toArray)(hT:Ints items is)
  (h:∀(h':Heap) (tk:Nat),zP h' s.heap.objs.size items is (oO w) is.length->(∀b o,b<s.heap.objs.size->s.heap.get? b=some o->h'.get? b=some o)->Q (.ref s.heap.objs.size) {s with heap:=h',toks:=tk}) :
  wpAny (model prog w) A (call (.type "set") [.ref l]) Q E s:=by
 let⟨c,tl,aae⟩:=Ag.mro;let hmade:=Ag.made;let hsub:=Ag.«sub»;show wpAny_call (codeAny_of_tree ?_);change wpAny _ _ (callAny (.type "set") _) _ _ _;show aP ⟨Code.quiet_builtin _ Bd,FT F.entry_type_call ?_⟩;rw[Around.under_plain (weight_type_call_type "set" [.ref l] []) rfl];let h1:=Ag.notType;let h2:=Ag.canCreate;let hct:=F.typeCall_set_1 (.ref l)
 repeat (any_goals (first|assumption|wp_step))
 show HN (zh2 (.ref l) (E:=E) (Q₁:=λobj s₁=>obj=.ref s.heap.objs.size/\s₁={s with heap:=s.heap.push (kE w)}) ⟨rfl,rfl⟩) λr s₁ hr=>?_;cases r with
 |error e=>show hr|ok fl=>
  cases fl with
  |ret obj=>
   let⟨rfl,rfl⟩:=hr;let hS:(s.heap.push (kE w)).get? s.heap.objs.size=some (kE w):=gK _ rfl;let hTy:Shared.TypeIs {s with heap:=s.heap.push (kE w)} (.ref s.heap.objs.size) "set":=⟨_,hS,rfl⟩;let hli:=Ag.init.lookup;let hbi:=Ag.init.bind (.ref s.heap.objs.size)
   repeat (any_goals (first|assumption|wp_step))
   show HN (codeAny_call_builtin (R:=wants (λr s₂=>r=.none/\∃h' tk,s₂={s with heap:=h',toks:=tk}/\zP h' s.heap.objs.size items is (oO w) is.length /\
     (∀b o,b<s.heap.objs.size->s.heap.get? b=some o->h'.get? b=some o)) E) Ag.init.plain F.entry_set_init (check_set_init_1 hTy ?_)) λr₂ s₂ hr₂=>?_
   .obtain⟨ol,hol,yE,nl,hdl⟩:=id hl;let⟨ocls,odict,odata,oslots⟩:=ol;simp only at yE hdl;subst yE;subst hdl;let Wq:(s.heap.push (kE w)).get? l=some {cls:=.type "tuple",dict:=odict,data:=.seq items.toArray nl,slots:=oslots}:=dD _ hol;let hsls:=F.sub_tuple_set;let hslf:=F.sub_tuple_frozenset;let hne:(Value.type "tuple"==Value.type "dict")=false:=by decide
    let V9:(s.heap.push (kE w)).IsTuple l items.toArray:=⟨_,Wq,rfl,nl,rfl⟩;unfold Builtin.«set.__init__» noKeywords Builtin.Frozenset.updateFrom;generalize hPI:pyIter=PI
    wp_walk
    subst hPI;show Hw V9 ?_;show aB (wpAny_runValue ?_);let hlS:l<s.heap.objs.size:=bL hol;let hh3:A.in1.in1.in1.handled=none:=by simp[hh]
    let Wr:l≠(s.heap.push (kE w)).objs.size:=by
     rw[oY];show dU (k_ hlS)
    let Ql:s.heap.objs.size∉[(s.heap.push (kE w)).objs.size,l]:=by
     rw[oY];simp only[cX,oW,qw,pJ,not_or];show⟨dU (Ac _),gD hlS⟩
    let Fq:∀(i:Nat) (v:Value),items.toArray[i]?=some v->items.getD i .none=v:=λi v hv=>by
     rw[Ni]at hv;rw[gJ,hv];rfl
    let iw:items.toArray.size=is.length:=by rw[dH,hT.len]
    show zkY (led:=oO w) ((Walks.tuple hh3 _ l Wr items.toArray).toS) Ql iw hT Fq (items.toArray.size-0) 0 _ gV (jJ _)
     ⟨⟨_,gK _ rfl,rfl,rfl⟩,(V9.push _)⟩ ?UL ?hR
    case UL=>
     let Ws:((s.heap.push (kE w)).push {cls:=.type "tuple_iterator",data:=.fields #[.ref l,.int 0 0]}).get? s.heap.objs.size=some (kE w):=dD _ hS;show⟨[],⟨⟨0,_,Ws,tab0,.inl ⟨rfl,jJ _⟩,rfl,rfl⟩,λe he=>by cases he⟩,(λe he=>by cases he),λk hk=>by lia⟩
    case hR=>
     intro s' hm hS';let⟨h',g',d',tk',os'⟩:=s';let eg:g'=s.gens:=hm.gens;let ed:d'=s.drawn:=hm.drawn;let eo:os'=s.os:=hm.os;subst eg;subst ed;subst eo;change wpAny _ _ _ _ _ _;show aP ?_;change wpAny _ _ (ret Value.none) _ _ _;show aP ⟨rfl,h',tk',rfl,by rw[<-iw];show hS',λb o hb e=>?_⟩;let hb1:b≠s.heap.objs.size:=dU hb;let hb2:b≠(s.heap.push (kE w)).objs.size:=by
      rw[oY];show dU (k_ hb)
     show hm.heap b o (by simp only[cX,oW,qw,pJ,not_or];show⟨hb1,hb2⟩) (dD _ (dD _ e))
   .cases r₂ with
    |error e=>show hr₂|ok fl₂=>
     cases fl₂ with
     |ret r=>
      let⟨rfl,h',tk,rfl,hS',Ed⟩:=hr₂
      repeat (any_goals (first|assumption|wp_step))
      show h _ _ hS' Ed
     |_=>show hr₂.elim
  |_=>show hr.elim
end
end Ts
namespace Mi
open PySem PySem.Spec PyProof.Rows L2 PySem.W Ts
theorem dl_mem{y:Int}:∀{l:List Int},y∈aO l↔y∈l
 |[]=>by simp[aO]|a::l=>by
  unfold aO
  split
  .rename_i h;rw[dl_mem (l:=l),cX];show⟨.inr,λz=>z.elim (λe=>by rw[e];simpa using h) id⟩
  .rw[cX,dl_mem (l:=l),cX]
theorem Wt:∀(l:List Int),(aO l).Nodup
 |[]=>Ce|a::l=>by
  unfold aO
  split
  .exact Wt l
  .rename_i h;show rE.mpr ⟨λz=>h (by simpa using dl_mem.mp z),Wt l⟩
theorem ziM{l m:List Int}(h1:l.Nodup)(h2:m.Nodup)(h:∀x,x∈l↔x∈m):l.length=m.length:=
 Nat.le_antisymm (GZ h1 λx hx=>(h x).mp hx) (GZ h2 λx hx=>(h x).mpr hx)
section
variable {prog:Program}{w:World}{A:Around}{E:Value->Shared->Prop}{s:Shared}{items:List Value}{is:List Int}{L:Ent}{l:Addr}
theorem zlh{h:Heap}{S:Addr}{led:Bool}(hS:zO h S items is L led)(hT:Ints items is)(hD:Mt is L is.length):(L.map λe=>isAt is e.2).Nodup/\∀x,x∈L.map (λe=>isAt is e.2)↔x∈is:=by
 let⟨⟨ep,t,ho,tb,r⟩,idx⟩:=hS;show⟨?_,λx=>⟨λhx=>?_,λhx=>?_⟩⟩
 .let:=Wb tb;rw[uc,qu]at this ⊢;show(List.Pairwise.and_mem.mp this).imp λ{a b} z e=>z.2.2 (pI Prod.snd (tb.inj a z.1 b z.2.1 ?_));change hashInt _=hashInt _;rw[e]
 .obtain⟨e,he,rfl⟩:=cW.mp hx;let:=idx e he;change is.getD e.2 0∈is;rw[gJ,dW this];show pG this
 .obtain⟨i,hi,rfl⟩:=Hv hx;let⟨e,he,e2⟩:=hD.2 i hi;show cW.mpr ⟨e,he,e2.trans ?_⟩;change is.getD i 0=_;rw[gJ,dW hi];rfl
theorem zhs{Q:Value->Shared->Prop}(hh:A.handled=none)(hl:s.heap.IsTuple l items.toArray)(hT:Ints items is)
  (h:∀h' tk t',(∀b o,s.heap.get? b=some o->h'.get? b=some o)->Q (.int (aO is).length t') {s with heap:=h',toks:=tk}) :
  wpAny (model prog w) A (PySem.call (.type "set") [.ref l]) (λv s'=>wpAny (model prog w) A (PySem.call (.builtin "len") [v]) Q E s') E s:=by
 show zdV hh hl hT λh1 tk1 hI Mu=>?_;let⟨L,hS,hD⟩:=hI;let⟨v1,v2⟩:=zlh hS hT hD;let⟨⟨ep,t,ho,tb,cap,bU,Mh⟩,idx⟩:=hS;let e:(bG items (aZ is) L).toArray.size=(aO is).length:=by
  rw[G3,<-ziM v1 (Wt is) λx=>(v2 x).trans dl_mem.symm,aY]
 let h18:(bG items (aZ is) L).toArray.size<=18:=by rw[G3];show jf (Wc tb idx) hT.small
 show call_len_set ho ⟨rfl,rfl,rfl⟩ rfl (V7 tb cap.cap) gV ?_;rw[e];show h h1 _ _ λb o q=>Mu b o (bL q) q
end
end Mi
namespace L2
open PySem PySem.Spec PyProof.Rows
section
variable {X:Cx}{ak:List (Addr×Obj)}{Z:List (Option V)}{H H':Hp}{s:Shared}{h':Heap}
theorem Inv.many{t':Nat}(I:Inv X ak Z H s)(k:∀b u,s.heap.get? b=some u->h'.get? b=some u)(g:∀a o,H a=some o->H' a=some o)(new:∀a o,H' a=some o->H a=some o\/(s.heap.objs.size<=a/\aU X.prog X.w H' h' a o)):Inv X ak Z H' {s with heap:=h',toks:=t'}:=
 I.un ⟨λb u q _ _ _=>k b u q,λb u q _ _ _=>⟨u.slots,k b u q⟩,λb u q n _=>by
  cases e:H' b with
  |none=>rfl|some o=>
   rcases new b o e with z|z
   .rw[n]at z;cases z
   .exact absurd (bL q) (HW.mpr z.1),λb u q _=>⟨u,k b u q⟩,λb xs q=>g _ _ q,λb o u q=>g _ _ q,λb ps q=>⟨#[],by rw[g _ _ q];simp⟩⟩
  λa o e=>(new a o e).elim (λe'=>(I.hok a o e').stay (λc v _ q=>k c v q) (λc q=>g _ _ q) λc xs q=>g _ _ q) (·.2)
end
noncomputable def nu(H:Hp):List (Addr×HO)->Hp
 |[]=>H|p::r=>upd (nu H r) p.1 p.2
theorem Qm{H:Hp}{a:Addr}:∀{l:List (Addr×HO)},(∀p∈l,p.1≠a)->nu H l a=H a
 |[],_=>rfl|p::r,h=>by
  change upd (nu H r) p.1 p.2 a=_;rw[dJ (h p jH).symm];show Qm λq hq=>h q (fZ _ hq)
theorem Wu{H:Hp}:∀{l:List (Addr×HO)},(l.map (·.1)).Nodup->∀p∈l,nu H l p.1=some p.2
 |[],_,_,hp=>by cases hp|q::r,hn,p,hp=>by
  let⟨h1,h2⟩:=rE.mp hn;change upd (nu H r) q.1 q.2 p.1=_;rcases cX.mp hp with rfl|hp
  .rw[jK]
  .rw[dJ (λe=>h1 (by change q.1∈_;rw[<-e];show rC (f:=(·.1)) hp))];show Wu h2 p hp
section
variable {X:Cx}
def rZl(K:W.Frag)(vs:List V)(H:Hp)(Q:VK):Prop:=∃k1 k2 l1 l2 xs ys,vs=[.ref l1,.ref l2]/\Sk k1 K H l1 xs/\Sk k2 K H l2 ys/\xs.length<=65536 /\
 ∀(H':Hp) (r:Addr) (as:List Addr),(∀a o,H a=some o->H' a=some o)->H' r=none->as.length=min xs.length ys.length->(∀(j:Nat) (a:Addr) (x y:V),as[j]?=some a->xs[j]?=some x->ys[j]?=some y->H a=none/\H' a=some (.tup [x,y]))->Q (.ref r) (upd H' r (.lst (as.map .ref)))
theorem zj1{a b:Expr}{t:TA}{p p' pos pos':Pos}(hc:X.aj=true)(hg:Gl X "list")(hm:X.mg "list"=none)(vV:Gl X "zip")(tY:X.mg "zip"=none)(ha:PA X [a,b] t)(hs:starEach [a,b] X.env=(false,eval a X.env)::starEach [b] X.env)(yc:starEach [b] X.env=(false,eval b X.env)::starEach [] X.env) :
  PE X (.Call (.Name "list" p) [.Call (.Name "zip" p') [a,b] [] pos'] [] pos) (O4 (rZl X.K) t):=by
 intro ak s Z H Q I h;show zZ (sY I hg hm Mi.qR ?_);show xH ?_ rfl rfl;change wpAny _ _ (spliced ((false,eval (.Call (.Name "zip" p') [a,b] [] pos') X.env)::backTo pos (starEach [] X.env))) _ _ s;show Nt ?_;show zZ (sY I vV tY zeD ?_);show xH (bD (ha pos' ak s Z H _ I h) λus s1 hz=>?_) hs (by rw[yc];rfl);let⟨vs,H1,I1,r1,q1⟩:=hz;let⟨k1,k2,l1,l2,xs,ys,e,Ao,Aq,iw,q⟩:=q1;subst e;cases r1 with
 |cons r rr=>
  cases rr with
  |cons r' rr=>
   cases rr;cases r;cases r';let⟨Tw,Dq,c1⟩:=I1.row Ao;let⟨Gm,Dr,c2⟩:=I1.row Aq;let m1:=c1.lt;let m2:=c2.lt;let z1:=Dq.length;let z2:=Dr.length;show zfq c1 c2 λh' b1 b2 b3 b4 b5 kp=>?_;let ne:∀{u v:Nat},u<v->u≠v:=λh=>dU h;let D:fu (s1.heap.objs.size+4) (s1.heap.objs.size+2) (s1.heap.objs.size+3) s1.heap.objs.size (s1.heap.objs.size+1) l1 l2:=
    ⟨⟨(ne gV).symm,(ne gV).symm,(ne gV).symm,(ne gV).symm,(ne (dF m1 gV)).symm,(ne (dF m2 gV)).symm⟩,
     ⟨(ne gV).symm,(ne gV).symm,(ne gV).symm,(ne (dF m1 gV)).symm,(ne (dF m2 gV)).symm⟩,
     ⟨(ne gV).symm,(ne gV).symm,ne gV,(ne m1).symm,(ne m2).symm,(ne (dF m1 gV)).symm,(ne (dF m2 gV)).symm⟩⟩
   show Nz ?_;show zcM (s:={s1 with heap:=h'}) (I1.ok.hd hc) D b1 b2 ⟨_,_,b3⟩ b4 b5 (c1.keep λo e=>kp _ _ e) (c2.keep λo e=>kp _ _ e) (by rw[dH,<-z1];show iw) λh2 acc c kp2 hL Mv hit lU=>?_;dsimp only at kp2 hL hit ⊢;let Mv:acc.size=min xs.length ys.length:=by rw[Mv,dH,dH,z1,z2]
   let old:∀b o,s1.heap.get? b=some o->h2.get? b=some o:=λb o e=>by
    let:=bL e;show kp2 b o (ne (dF this gV)) (ne (dF this gV)) (ne this) (ne (dF this gV)) (kp b o e)
   let big:s1.heap.objs.size<=h'.objs.size:=jf gV (xR (bL b1));obtain⟨adr,ead⟩ : ∃f:Nat->Addr,f=λj=>match acc[j]? with
    |some (.ref a)=>a|_=>0:=⟨_,rfl⟩
   let at':∀j,j<min xs.length ys.length->∃(x y:V) (u v:Value),acc[j]?=some (.ref (adr j))/\h'.objs.size<adr j/\xs[j]?=some x/\ys[j]?=some y/\RelV x u/\RelV y v/\IsPair h2 (adr j) u v:=λj hj=>by
    let Qn:j<acc.size:=by rw[Mv];show hj
    let⟨a,u,v,r1,r2,r3,r4,r5⟩:=hit j acc[j] (vZ Qn);let e:acc[j]?=some (.ref a):=by rw[vZ Qn,r1]
    let ea:adr j=a:=by rw[ead];change (match acc[j]? with|some (.ref a)=>a|_=>0)=a;rw[e]
    let hx:j<xs.length:=by lia
    let hy:j<ys.length:=by lia
    let⟨u',f1,f2⟩:=Dq.get (dW hx);let⟨v',g1,g2⟩:=Dr.get (dW hy);rw[Ni,f1]at r3;rw[Ni,g1]at r4;cases r3;cases r4;show⟨_,_,_,_,by rw[ea];show e,by rw[ea];show r2,dW hx,dW hy,f2,g2,by rw[ea];show r5⟩
   obtain⟨l,el⟩ : ∃l:List (Addr×HO),l=(List.range (min xs.length ys.length)).map λj=>(adr j,.tup [xs.getD j .non,ys.getD j .non]):=⟨_,rfl⟩;let hnd:(l.map (·.1)).Nodup:=by
    rw[el];change (((List.range (min xs.length ys.length)).map λj=>(adr j,HO.tup [xs.getD j .non,ys.getD j .non])).map (·.1)).Nodup;rw[nW,uc,qu];show(List.Pairwise.and_mem.mp List.nodup_range).imp λ{i j} z e=>z.2.2 ?_;let hi:=gC.mp z.1;let hj:=gC.mp z.2.1;let⟨_,_,_,_,e1,_⟩:=at' i hi;let⟨_,_,_,_,e2,_⟩:=at' j hj;let e:adr i=adr j:=e;rw[e]at e1;show lU i j _ e1 e2
   let Wv:∀j,j<min xs.length ys.length->(adr j,HO.tup [xs.getD j .non,ys.getD j .non])∈l:=λj hj=>by rw[el];show cW.mpr ⟨j,gC.mpr hj,rfl⟩
   let hl:∀p∈l,∃j,j<min xs.length ys.length/\p=(adr j,HO.tup [xs.getD j .non,ys.getD j .non]):=λp hp=>by
    rw[el]at hp;let⟨j,hj,rfl⟩:=cW.mp hp;show⟨j,gC.mp hj,rfl⟩
   let vQ:∀p∈l,s1.heap.objs.size<=p.1/\p.1≠h'.objs.size:=λp hp=>by
    let⟨j,hj,rfl⟩:=hl p hp;let⟨_,_,_,_,_,e2,_⟩:=at' j hj;show⟨jf big (xR e2),gD e2⟩
   let gr:∀a o,H1 a=some o->nu H1 l a=some o:=λa o e=>by
    rw[Qm λp hp q=>?_]
    .exact e
    .let:=I1.hok.fresh (vQ p hp).1;rw[q,e]at this;cases this
   let hr:nu H1 l h'.objs.size=none:=by
    rw[Qm λp hp=>(vQ p hp).2];show I1.hok.fresh big
   obtain⟨as,Qo⟩ : ∃l:List Addr,l=(List.range (min xs.length ys.length)).map adr:=⟨_,rfl⟩;let BL:Vals (as.map .ref) acc.toList:=by
    let:acc.toList=(List.range (min xs.length ys.length)).map λj=>Value.ref (adr j):=by
     apply List.ext_getElem?;intro j;rw[Array.getElem?_toList];by_cases hj:j<min xs.length ys.length
     .obtain⟨_,_,_,_,e1,_⟩:=at' j hj;rw[e1];simp[hj]
     .rw[Nb (by rw[Mv];lia)];simp[hj]
    rw[this,Qo];change Vals (((List.range (min xs.length ys.length)).map adr).map V.ref) _;rw[nW];generalize List.range (min xs.length ys.length)=rg
    induction rg with
    |nil=>show .nil|cons j r ih=>show .cons rfl ih
   show⟨.ref h'.objs.size,upd (nu H1 l) h'.objs.size (.lst (as.map .ref)),I1.many (t':=s1.toks) old (λa o e=>?_) (λa o e=>?_),rfl,q (nu H1 l) h'.objs.size as gr hr (by rw[Qo];simp) λj a x y e1 e2 e3=>?_⟩
   .rw[dJ (λz=>by rw[z]at e;let:=gr _ _ e;rw[hr]at this;cases this)];show gr a o e
   .by_cases hb:a=h'.objs.size
    .subst hb;rw[jK]at e;cases e;show .inr ⟨big,show aU X.prog X.w _ h2 _ (.lst (as.map .ref)) from ⟨?_,acc.toList,c,BL,by rw[Array.toArray_toList];show hL⟩⟩;rw[BL.length,zW,Mv];show jf (N_ ..) (jf iw J0)
    .rw[dJ hb]at e;by_cases fL:∃p∈l,p.1=a
     .obtain⟨p,hp,rfl⟩:=fL;rw[Wu hnd p hp]at e;cases e;show .inr ⟨(vQ p hp).1,?_⟩;let⟨j,hj,rfl⟩:=hl p hp;let⟨x,y,u,v,e1,e2,e3,e4,e5,e6,e7⟩:=at' j hj;let f1:xs.getD j .non=x:=by rw[gJ,e3];rfl
      let f2:ys.getD j .non=y:=by rw[gJ,e4];rfl
      change aU X.prog X.w _ h2 _ (.tup [xs.getD j .non,ys.getD j .non]);rw[f1,f2];show⟨by change 2<=sizeLine;decide,[u,v],.cons e5 (.cons e6 .nil),⟨_,e7,rfl,_,rfl,rfl⟩⟩
     .rw[Qm λp hp z=>fL ⟨p,hp,z⟩]at e;show .inl e
   .let hj:j<min xs.length ys.length:=by
     let:=(h_.mp e1).1;rw[Qo]at this;simpa using this
    let ea:a=adr j:=by
     let:((List.range (min xs.length ys.length)).map adr)[j]?=some a:=by rw[<-Qo];show e1
     simp[hj]at this;show this.symm
    subst ea;let hp:=Wv j hj;show⟨I1.hok.fresh (vQ _ hp).1,?_⟩;let:=Wu (H:=H1) hnd _ hp;rw[gJ,gJ,e2,e3]at this;show this
end
end L2
namespace Mi
open PySem PySem.Spec PyProof.Rows L2 PySem.W Ts
def rLs(K:W.Frag)(vs:List V)(H:Hp)(Q:VK):Prop:=∃(l:Addr) (is:List Int),vs=[.ref l]/\fQ K H l (is.map V.int)/\wD is=true/\Q (.int (aO is).length) H
theorem zhS{is:List Int}{its:List Value}(h:wD is=true)(rv:Vals (is.map V.int) its):Ints its is:=by
 unfold wD at h;rw[dZ]at h;let hl:is.length=its.length:=by let:=rv.length;rwa [aY]at this
 show⟨hl,fj h.1,λi hi=>?_,λi hi=>?_⟩
 .refine zkO (gY.mp h.2 _ ?_);change is.getD i 0∈is;rw[gJ,dW hi];show pG hi
 .obtain⟨t,e⟩:=GD rv (i:=i) (v:=its[i]'(hl▸hi)) (by simp[hl▸hi]);show⟨t,by rw[gJ,dW (hl▸hi)];show e⟩
section
variable {X:Cx}
theorem znb{f:Str}{id:String}{r:List V->Hp->VK->Prop}{e:Expr}{t:TA}{p p' pos pos':Pos}(hv:bootBuiltins f=some (.builtin id))(hg:Gl X f)(hm:X.mg f=none)(vV:Gl X "set")(tY:X.mg "set"=none)(ha:PA X [e] t)(hn:f≠"__name__")(lg:(f==("__debug__" : Str))=false)
  (zL:∀ak s Z H vs us Q,Inv X ak Z H s->Vals vs us->r vs H Q->wpAny (model X.prog X.w) X.A (PySem.call (.type "set") us) (λv s'=>wpAny (model X.prog X.w) X.A (PySem.call (.builtin id) [v]) (EP X ak Z Q) X.xe s') X.xe s)
  (he:starEach [e] X.env=(false,eval e X.env)::starEach [] X.env) (bU:(backTo pos' (starEach [] X.env)).any (·.1)=false) :
  PE X (.Call (.Name f p) [.Call (.Name "set" p') [e] [] pos'] [] pos) (O4 r t):=by
 intro ak s Z H Q I h;show zZ (sY I hg hm hv ?_ hn lg);show PyProof.Rows.callWith_builtin1 ?_ rfl rfl;change wpAny _ _ (spliced ((false,eval (.Call (.Name "set" p') [e] [] pos') X.env)::backTo pos (starEach [] X.env))) _ _ s;show Nt ?_;show zZ (sY I vV tY zhx ?_);show xH (bD (ha pos' ak s Z H _ I h) λus s1 hz=>?_) he bU;let⟨vs,H1,I1,r1,q1⟩:=hz;show bD (zL ak s1 Z H1 vs us Q I1 r1 q1) λv s' hw=>Nz hw
theorem zna(hc:X.aj=true):∀ak s Z H vs us Q,Inv X ak Z H s->Vals vs us->rLs X.K vs H Q->wpAny (model X.prog X.w) X.A (PySem.call (.type "set") us) (λv s'=>wpAny (model X.prog X.w) X.A (PySem.call (.builtin "len") [v]) (EP X ak Z Q) X.xe s') X.xe s:=by
 rintro ak s Z H vs us Q I rv ⟨l,is,rfl,hq,hk,q⟩;let⟨u,rfl,ru⟩:=vals1 rv;cases ru;let⟨its,rv,pl,hz⟩:=I.tuple hq;show zhs (I.ok.hd hc) pl (zhS hk rv) λh' tk t' k=>⟨.int (aO is).length,H,I.kept k,⟨t',rfl⟩,q⟩
end
section
variable {K:W.Frag}{cA:Cl}{U:Ph}{H:Hp}
theorem zn8:bA K cA .gw (rLs K):=by
 intro U H ds vs Q zt rs o;let o:aX K cA U H (uV ds) Q:=o;unfold uV at o;split at o
 .rename_i xs _;let⟨v,rfl,r1⟩:=rs.one;let r1:Rep K cA U H (.tup xs) v:=r1;cases r1 with
  |tup t q=>
   cases e1:aJ xs with
   |none=>rw[e1]at o;show o.elim|some is=>
    rw[e1]at o;let o:aX K cA U H (lM is) Q:=o;unfold lM at o;cases e2:wD is with
    |false=>rw[e2]at o;show o.elim|true=>rw[e2]at o;show⟨_,is,rfl,by rw[<-PX e1 q];show t.jw,e2,(o.of rfl).here (.int _)⟩
 .exact o.elim
theorem zie{s:S}{fz:Bool}{xs:List D}{Q:VK}{Ee:Nat->List D->S->Ph->Hp->Prop}(hS:aK K cA U H s)(h:Run K cA (bN fz (some (.nw xs))) U H s (λx _ U' H'=>∀v,bJ K cA U' H' x v->Q v H') Ee):∀H' p vs,bx H H'->H' p=none->aD K cA U H' xs vs->Q (.ref p) (upd H' p (.lst vs)):=by
 intro H' p vs g hp r;let hS':=hS.grow g;cases fz with
 |true=>show h U _ (g.trans (bx.new hp)).ext (hS.grow (g.trans (bx.new hp))) _ (.d (.fl (LstAt.new (hS'.nz hp)) (r.mono (bx.new hp).ext hS.lz)))|false=>show h (U.add p) _ (g.ext.trans (Ext.add hp)) (hS'.add hp r) _ (.l (by change (U.l++[p])[s.length]?=_;rw[<-hS.len];simp))
theorem zhO{H':Hp}(g:bx H H')(hz:∀a∈U.l,U.z a)(nz:∀a,H a=none->¬U.z a):∀{xs ys:List D} {us vs:List V} {as:List Addr},aD K cA U H xs us->aD K cA U H ys vs->as.length=min us.length vs.length->(∀(j:Nat) (a:Addr) (x y:V),as[j]?=some a->us[j]?=some x->vs[j]?=some y->H a=none/\H' a=some (.tup [x,y]))->aD K cA U H' (yI xs ys) (as.map .ref):=by
 intro xs
 induction xs with
 |nil=>
  intro ys us vs as r1 r2 hl _;cases r1;cases as with
  |nil=>show .nil|cons a as=>simp at hl
 |cons x xs ih=>
  intro ys us vs as r1 r2 hl hh;cases r1 with
  |cons p r=>
   cases r2 with
   |nil=>
    cases as with
    |nil=>show .nil|cons a as=>simp at hl
   |cons p' r'=>
    cases as with
    |nil=>simp at hl|cons a as=>
     let⟨e1,e2⟩:=hh 0 a _ _ rfl rfl rfl;show .cons (.tup (.inl ⟨.inl e2,nz a e1⟩) (.cons (p.mono g.ext hz) (.cons (p'.mono g.ext hz) .nil))) (ih r r' (by simpa using hl) λj a x y f1 f2 f3=>hh (j+1) a x y f1 f2 f3)
end
section
variable {X:Cx}{cA:Cl}{ao:Nat->Nat->Bool}{aj:Bool}{F:Fn}{EX:XS}{e a b:Expr}{pos pos' p p':Pos}{Xs:Es}{A B:E}{fz:Bool}
theorem zn5(hc:X.aj=true)(hg:Gl X "len")(hm:X.mg "len"=none)(vV:Gl X "set")(tY:X.mg "set"=none)(ha:SA X cA ao aj F EX [e] Xs)
  (he:starEach [e] X.env=(false,eval e X.env)::starEach [] X.env) (bU:(backTo pos' (starEach [] X.env)).any (·.1)=false):SE X cA ao aj F EX (.Call (.Name "len" p) [.Call (.Name "set" p') [e] [] pos'] [] pos) (.pr fz .gw Xs):=PE.weak (znb PySem.boot_len hg hm vV tY ha J0 J0 (zna hc) he bU) λZ H Q hh=>un hh λU J s hL hS h=>
 p8 hL hS h λvs H1 U1 ds s1 x1 hL1 aL r1 h1=>by
  let⟨ds,rs,h3⟩:=tM aL r1 h1;show zn8 U1 H1 ds _ _ aL.zs rs (qO aL h3)
theorem zpg(hc:X.aj=true)(hm:X.mg "len"=none)(hg:JK X "len" .globalImplicit)(tY:X.mg "set"=none)(vV:JK X "set" .globalImplicit)(ha:JA X cA ao aj F EX [e] Xs)(he:aC e=true:=by rfl):JE X cA ao aj F EX (.Call (.Name "len" p) [.Call (.Name "set" p') [e] [] pos'] [] pos) (.pr fz .gw Xs):=⟨zn5 hc hg.o hm vV.o tY ha.o (bf he) (aW rfl)⟩
theorem zmK{K:W.Frag}{U:Ph}{H:Hp}{d:D}{v:V}{xs:List D}(r:Rv K cA U H d v)(e:dX d=some xs):∃k l us,v=.ref l/\Sk k K H l us/\aD K cA U H xs us:=by
 let⟨l,us,rfl,q,rr⟩:=Rv.sq r e;rcases q with q|q
 .exact⟨true,l,us,rfl,q,rr⟩
 .exact⟨false,l,us,rfl,q,rr⟩
theorem zot(hc:X.aj=true)(hg:Gl X "list")(hm:X.mg "list"=none)(vV:Gl X "zip")(tY:X.mg "zip"=none)(ha:SA X cA ao aj F EX [a,b] Xs)(hs:starEach [a,b] X.env=(false,eval a X.env)::starEach [b] X.env)(yc:starEach [b] X.env=(false,eval b X.env)::starEach [] X.env) :
  SE X cA ao aj F EX (.Call (.Name "list" p) [.Call (.Name "zip" p') [a,b] [] pos'] [] pos) (.pr fz .uO Xs):=PE.weak (zj1 hc hg hm vV tY ha hs yc) λZ H Q hh=>un hh λU J s hL hS h=>
 p8 hL hS h λvs H1 U1 ds s1 x1 hL1 aL r1 h1=>by
  let⟨ds,rs,h3⟩:=tM aL r1 h1;let h3:Run X.K cA (bN fz (Bb ds)) U1 H1 s1 _ _:=h3;let o:=qO (Q:=Q) aL h3
  match ds,rs,h3,o with
  |[],_,_,o=>show o.elim|[_],_,_,o=>show o.elim|_::_::_::_,_,_,o=>show o.elim|[d,d'],rs,h3,o=>
   let⟨v,v',rfl,q1,q2⟩:=rs.two (ds:=[]);let o:aX X.K cA U1 H1 (match dX d,dX d' with|some xs,some ys=>Ba xs ys|_,_=>none) Q:=o;let h3:Run X.K cA (bN fz (match dX d,dX d' with|some xs,some ys=>Ba xs ys|_,_=>none)) U1 H1 s1 _ _:=h3;cases e1:dX d with
   |none=>rw[e1]at o;show o.elim|some xs=>
    cases e2:dX d' with
    |none=>rw[e1,e2]at o;show o.elim|some ys=>
     rw[e1,e2]at o h3;let o:aX X.K cA U1 H1 (Ba xs ys) Q:=o;let h3:Run X.K cA (bN fz (Ba xs ys)) U1 H1 s1 _ _:=h3;unfold Ba at o h3;by_cases hk:xs.length<=65536
     .rw[if_pos hk]at h3;let⟨k1,l1,us,rfl,s1,w1⟩:=zmK q1 e1;let⟨k2,l2,us',rfl,s2,w2⟩:=zmK q2 e2;show⟨k1,k2,l1,l2,us,us',rfl,s1,s2,by rw[<-w1.len];show hk,λH' r as g hr hl hh=>?_⟩;show zie aL h3 H' r _ g hr (zhO g aL.lz (λa e=>aL.nz e) w1 w2 hl hh)
     .rw[if_neg hk]at o;show o.elim
theorem zpu(hc:X.aj=true)(hm:X.mg "list"=none)(hg:JK X "list" .globalImplicit)(tY:X.mg "zip"=none)(vV:JK X "zip" .globalImplicit)(ha:JA X cA ao aj F EX [a,b] Xs)(h1:aC a=true:=by rfl)(h2:aC b=true:=by rfl):JE X cA ao aj F EX (.Call (.Name "list" p) [.Call (.Name "zip" p') [a,b] [] pos'] [] pos) (.pr fz .uO Xs):=⟨zot hc hg.o hm vV.o tY ha.o (bf h1) (bf h2)⟩
end
end Mi
namespace HT
open PySem PyProof.Rows
section
variable {prog:Program}{w:World}{A:Around}{E:Value->Shared->Prop}{s:Shared}
theorem zbI{sl:Addr}{t0 t:Tok}{n:Nat}{Q:Int×Int×Nat->Shared->Prop}(hs:s.heap.IsSliceOf sl .none (.int 0 t0) (.int (-1) t))
  (h:Q ((n:Int)-1,-1,n-1) s):wpAny (model prog w) A (Builtin.Slice.sliceApplied (.ref sl) (pure (n:Int))) Q E s:=by
 let⟨os,rJ,CZ,wB⟩:=id hs;unfold Builtin.Slice.sliceApplied Builtin.Slice.sliceFields;show aB (aB (iM rJ wB (x:=.none) rfl (aB (iM rJ wB (x:=.int 0 t0) rfl (aB (iM rJ wB (x:=.int (-1) t) rfl (aP ?_)))))));show aB (zbc ?_);change wpAny _ _ (if ((-1:Int)==0)=true then _ else _) _ _ s;rw[if_neg J0];show aB (slicePart_none (aB (zbc (aB (aP ?_)))));change wpAny _ _ (match Builtin.Slice.sliceAdjust none (some 0) (-1) (n:Int) with|(lo,hi)=>pure (lo,(-1:Int),Builtin.Slice.slicePlaces lo hi (-1))) _ _ s;let e:Builtin.Slice.sliceAdjust none (some 0) (-1) (n:Int)=((n:Int)-1,if n=0 then -1 else 0):=by
  unfold Builtin.Slice.sliceAdjust;by_cases hn:n=0
  .subst hn;rfl
  .simp[hn];lia
 rw[e];let e:Builtin.Slice.slicePlaces ((n:Int)-1) (if n=0 then -1 else 0) (-1)=n-1:=by
  unfold Builtin.Slice.slicePlaces;rw[if_neg J0];by_cases hn:n=0
  .subst hn;rfl
  .rw[if_neg hn];let:(-(-1:Int))=1:=rfl;by_cases h1:n=1
   .subst h1;rfl
   .rw[if_pos gV,this,Int.ediv_one]
    lia
 change wpAny _ _ (pure ((n:Int)-1,(-1:Int),Builtin.Slice.slicePlaces ((n:Int)-1) (if n=0 then -1 else 0) (-1))) _ _ s;rw[e];show aP h
theorem zeU(xs:Array Value):((List.range (xs.size-1)).filterMap λ(m:Nat)=>xs[(((xs.size:Int)-1)+(m:Int) * -1).toNat]?).toArray=(xs.toList.drop 1).reverse.toArray:=by
 let e:∀n,n<=xs.size->(List.range n).filterMap (λ(m:Nat)=>xs[(((xs.size:Int)-1)+(m:Int) * -1).toNat]?)=(xs.toList.reverse).take n:=by
  intro n
  induction n with
  |zero=>intro _;simp|succ n ih=>
   intro hn;let bV:n<xs.toList.reverse.length:=by simp;lia
   rw[Hz,Nh,ih gV,YQ bV]
   congr 1
   let:(((xs.size:Int)-1)+(n:Int) * -1).toNat=xs.size-1-n:=by lia
   simp only[sO,List.filterMap_nil,this];rw[vZ gV];simp[List.getElem_reverse]
 rw[e _ gV,List.reverse_drop,zW]
theorem iG{t sl:Addr}{items:Array Value}{t0 tk:Tok}{Q:Value->Shared->Prop}(ht:IsTup s.heap t items)(hs:s.heap.IsSliceOf sl .none (.int 0 t0) (.int (-1) tk))
  (h:Q (.ref s.heap.objs.size) {s with heap:=s.heap.push {cls:=.type "tuple",data:=.seq (items.toList.drop 1).reverse.toArray}})
  (iw:items.size<=sizeLine):wpAny (model prog w) A (getItem (.ref t) (.ref sl)) Q E s:=by
 let iW:sizeOk (.seq (items.toList.drop 1).reverse.toArray):=by
  change (items.toList.drop 1).reverse.toArray.size<=sizeLine;rw[dH,Nq,uf,zW]
  lia
 let⟨os,rJ,CZ,wB⟩:=id hs;let Jd:s.TypeIs (.ref sl) "slice":=⟨os,rJ,CZ⟩;unfold getItem
 try with_reducible show mj ?_
 first|refine aB (aP ?_)|skip
 show aB (wpAny_sequenceKey ht.typeIs J0 ?_);show aB (v7 (name:=Str.ofString "__getitem__") ht.typeIs xG
  (sU xG ht.typeIs entry_tuple_getitem ?_ (args_tuple_getitem _ _)))
 change wpAny _ _ (Builtin.Tuple.tupleItemsOf (.ref t) >>= _) _ _ s;show aB (tupleItemsOf_ ht ?_);show aB (HJ Jd ?_);rw[if_pos J0];show aB (zbI hs ?_);change wpAny _ _ (if (((items.size:Int)-1)==0&&(-1:Int)==1&&(items.size-1)==items.size)=true then _ else _) _ _ s;rw[if_neg V8,zeU]
 first
  |exact aB (m:=Builtin.Tuple.tupleExact _) (sS (aP ⟨_,rfl,aP h⟩) iW)
  |exact aB (m:=Builtin.Tuple.tupleExact _) (sS (aB (aP (aP ⟨_,rfl,aP h⟩))) iW)
  |exact aB (aB (m:=Builtin.Tuple.tupleExact _) (sS (aP (aP ⟨_,rfl,aP h⟩)) iW))
  |exact aB (aB (m:=Builtin.Tuple.tupleExact _) (sS (aP ⟨_,rfl,aP h⟩) iW))
end
end HT
namespace L2
open PySem PySem.Spec PyProof.Rows
section
variable {X:Cx}{e:Expr}{te:TE}{pos p2:Pos}
theorem ziI{j j':Nat}{p3 p4 p5:Pos}(he:PE X e te):PE X (.Subscript e (.Slice none (some (.Constant (.int 0) j' p5)) (some (.UnaryOp .USub (.Constant (.int 1) j p3) p4)) p2) pos) (λZ H Q=>te Z H λx H1=>∃a xs,x=.ref a/\fQ X.K H1 a xs/\∀p,H1 p=none->Q (.ref p) (upd H1 p (.tup (xs.drop 1).reverse))):=by
 intro ak s Z H Q I h;show Subscript_ (bD (he ak s Z H _ I h) λv s1 hz=>?_);let⟨x,H1,I1,r1,a,xs,ex,hx,q⟩:=hz;subst ex;cases r1;show wpAny_Slice ?_;rw[evalPart_none];show aP ?_;rw[evalPart_some];show bD (Oq ak s1 Z H1 (λv H'=>v=.int 0/\H'=H1) I1 ⟨rfl,rfl⟩) λu s2 hz=>?_;let⟨z,H2,I2,r2,ez,eH⟩:=hz;subst ez eH;let⟨t0,rfl⟩:=r2;rw[evalPart_some];show bD (Zi (r:=rU λi=>.int (-i)) Zj Oq ak s2 Z H2 (λv H'=>v=.int (-1)/\H'=H2) I2 ⟨1,rfl,rfl,rfl⟩) λu s3 hz=>?_;let⟨z,H3,I3,r3,ez,eH⟩:=hz;subst ez eH;let⟨t,rfl⟩:=r3;let I4:Inv X ak Z H3 {s3 with heap:=s3.heap.push {cls:=.type "slice",data:=.fields #[.none,.int 0 t0,.int (-1) t]}}:=I3.kept (t':=s3.toks) λb ob q=>dD _ q;let⟨its,r,ht,hz⟩:=I4.tuple hx;let hlen:its.toArray.size=xs.length:=by rw[dH];show r.length.symm
 change wpAny (model X.prog X.w) X.A (subscriptTail e (.Slice none (some (.Constant (.int 0) j' p5)) (some (.UnaryOp .USub (.Constant (.int 1) j p3) p4)) p2) (.ref a) (.ref s3.heap.objs.size)) (EP X ak Z Q) X.xe {s3 with heap:=s3.heap.push {cls:=.type "slice",data:=.fields #[.none,.int 0 t0,.int (-1) t]}};show tail_any (ops:=[.ref a,.ref s3.heap.objs.size]) ht.typeIs xG.lookup (HT.iG ht (Heap.IsSliceOf.new ..) ?_ (by rw[hlen];show hz)) (by with_unfolding_all rfl);show⟨.ref _,_,I4.laid (t':=s3.toks) (o:=.tup (xs.drop 1).reverse) (λb ob q=>dD _ q) (bQ _) ?_,rfl,q _ (I4.hok.fresh (bQ _))⟩;show⟨by rw[Nq,uf];lia,_,?_,jR.new _ _⟩;let rv:∀{xs:List V} {us:List Value},Vals xs us->Vals xs.reverse us.reverse:=λ{xs us} r=>by
  induction r with
  |nil=>show .nil|cons a b ih=>rw[NQ,NQ];show ih.append (.cons a .nil)
 simpa using rv (r.drop 1)
end
end L2
namespace Mi
open PySem PySem.Spec PyProof.Rows L2 PySem.W
section
variable {X:Cx}{cA:Cl}{ao:Nat->Nat->Bool}{aj:Bool}{F:Fn}{EX:XS}{a:Expr}{A:E}{pos p2:Pos}
theorem zis{j j':Nat}{p3 p4 p5:Pos}(ha:SE X cA ao aj F EX a A):SE X cA ao aj F EX (.Subscript a (.Slice none (some (.Constant (.int 0) j' p5)) (some (.UnaryOp .USub (.Constant (.int 1) j p3) p4)) p2) pos) (.pr true .rev (.cons (.sl true A (.yes (.c (.int 1))) .no) .nil)):=PE.weak (ziI ha) λZ H Q hh=>un hh λU J s hL hS h=>by
 let h:Run X.K cA (M.bd (M.bd (M.bd (ev ao aj F A J) λx=>M.bd (M.bd (M.ret (.d (.int 1))) λx=>M.bd (Mi.int x) λi=>M.ret (some i)) λl=>M.bd (M.ret none) λu=>M.bd (rd x) λd=>bN true (cutD d l u)) λx=>M.bd (M.ret []) λz=>M.ret (x::z)) λvs=>M.bd (gM vs) λds=>bN true (prim .rev ds)) U H s _ _:=h;simp only[j_]at h;show bO hL hS h λx H1 U1 d1 s1 x1 hL1 aL r1 h1=>?_;let h1:Run X.K cA (M.bd (rd d1) λd=>M.bd (bN true (cutD d (some 1) none)) λx=>M.bd (gM [x]) λds=>bN true (prim .rev ds)) U1 H1 s1 _ _:=h1;let⟨dd,rv,h4⟩:=Ks aL r1 h1;cases dd with
 |tup xs=>
  let h5:Run X.K cA (bN true (prim .rev [.tup (cut xs (some 1) none)])) U1 H1 s1 _ _:=h4;let o:aX X.K cA U1 H1 (some (.dat (.tup (cut xs (some 1) none).reverse))) Q:=qO aL h5;rw[Ln]at o;let⟨ad,us,e2,t,q⟩:=rv.tup;subst e2;let dr:∀{xs:List D} {us:List V},aD X.K cA U1 H1 xs us->aD X.K cA U1 H1 (xs.drop 1) (us.drop 1):=λ{xs us} r=>by
   cases r with
   |nil=>show .nil|cons _ r=>show r
  show⟨ad,us,rfl,t.jw,λp hp=>aX.tup o aL.zs (dr q).rev hp⟩
 |fl xs=>show(show False from h4).elim|_=>show(show False from h4).elim
theorem zkJ{j j':Nat}{p3 p4 p5:Pos}(ha:JE X cA ao aj F EX a A):JE X cA ao aj F EX (.Subscript a (.Slice none (some (.Constant (.int 0) j' p5)) (some (.UnaryOp .USub (.Constant (.int 1) j p3) p4)) p2) pos) (.pr true .rev (.cons (.sl true A (.yes (.c (.int 1))) .no) .nil)):=⟨zis ha.o⟩
end
end Mi
namespace Mi
open PySem
def Rp(d:D):Prop:=∃t,prim .repr [d]=some (.dat (.str t))
def rpN(n:Nat)(x:D):Prop:=∃p,pd n x=some p/\p.showable=true/\p.leavesShort 40=true/\p.weight<=1000
theorem zmJ{d:D}{p:PyData}(h:Gn d=some p)(hs:p.showable=true)(hl:p.leavesShort 40=true)(hw:p.weight<=200000):Rp d:=by
 show⟨p.shown,?_⟩;change (Gn d).bind Gp=_;rw[h];change Gp p=_;unfold Gp;let h1:=PyData.shown_le 40 J0 p hl;let h2:sizeLine=16777216:=uq;rw[if_pos ⟨hs,by lia⟩]
theorem zeA{n k:Nat}(hk:0<k)(h:n<2^k):n.log2<k:=by
 by_cases z:n=0
 .subst z;simpa using hk
 .exact(Nat.log2_lt z).mpr h
theorem zkS{n:Nat}{i:Int}(h:i.natAbs<10^38):rpN n (.int i):=by
 let h2:i.natAbs<2^127:=Nat.lt_trans h J0;let h3:=zeA J0 h2;show⟨.int i,by cases n<;>rfl,?_,?_,?_⟩
 .simp only[PyData.showable];show cO gV
 .let e:=int_text_length_le10 (k:=38) J0 h;simp only[PyData.leavesShort];show cO ?_;change (Str.ofString (toString i)).length<=40;rw[ofString_length]
  lia
 .simp only[PyData.weight]
  split<;>lia
theorem zmH{r:List Int}{x j:Int}(h0:0<=j)(h:j<(r.length:Int)+1):prim .ix [.fl (r.map .int++[.int x]),.int j]=some (.dat (.int (at' (r++[x]) j))):=by
 let:=zn4 (fs:=r++[x]) h0 (by rw[bZ];simp;lia)
 rwa [iu]at this
theorem nA{α:Type}{l:List α}{g:α->Option D}:l.filterMap g=[]↔∀x∈l,g x=none:=by
 rw[List.filterMap_eq_nil_iff]
end Mi
namespace Mi
open PySem Ts
noncomputable def G4(a b:Int):D->Bool
 |.int i=>decide (a<=i/\i<=b)|_=>false
end Mi
namespace Mi
open PySem
theorem Ka9{n:Nat}{c:List D}{b:D->Vs->MS}{J:Vs}{s:S}{Q:Out->S->Prop}(I:Nat->Vs->S->Prop)(h0:I 0 J s)(hl:∀i J s,I i J s->s[n]?=some (.lst c))(hb:∀i x J s,c[i]?=some x->I i J s->WS (b x J) s λo s'=>∃J',o=.nx J'/\I (i+1) J' s')
  (he:∀J s,I c.length J s->Q (.nx J) s):WS (cZ (.live n) b (c.length+1) 0 J) s Q:=by
 let key:∀m i J s,i+m=c.length->I i J s->WS (cZ (.live n) b (m+1) i J) s Q:=by
  intro m
  induction m with
  |zero=>
   intro i J s hi hI;let e:c[i]?=none:=by rw[oU];lia
   let e0:=hl i J s hI;let:i=c.length:=by lia
   subst this;show⟨_,s,?_,he J s hI⟩;unfold cZ;simp only[Src.at,e0,e]
  |succ m ih=>
   intro i J s hi hI;let e0:=hl i J s hI;let bV:i<c.length:=by lia
   let e:c[i]?=some c[i]:=dW bV;let⟨o,s',eb,J',rfl,vH⟩:=hb i c[i] J s e hI;let⟨o2,s2,e2,q⟩:=ih (i+1) J' s' gV vH;show⟨o2,s2,?_,q⟩;unfold cZ;simp only[Src.at,e0,e,eb];show e2
 show key c.length 0 J s gV h0
theorem Ka4{n:Nat}{c:List D}{s:S}{P:Src×Nat->S->Prop}(e:s[n]?=some (.lst c))(h:P (.live n,c.length) s):W (src (.l n)) s P:=⟨_,s,by unfold src;simp only[e],h⟩
theorem W.c0{F:List Xv->M Xv}{xs:List Xv}{s:S}{e:D}{P:Xv->S->Prop}(h:W (F (eF 0 xs)) [] λv _=>v=.d e)(k:P (.d e) s)(hl:locs xs=[]:=by rfl):W (cG F xs) s P:=W.cV hl (h.imp λ_ _ q=>⟨_,q,k⟩)
theorem W.c1{F:List Xv->M Xv}{xs:List Xv}{s:S}{P:Xv->S->Prop}(h:W (F (eF 0 xs)) [] λv _=>∃d,v=.d d)(k:∀d,P (.d d) s)(hl:locs xs=[]:=by rfl):W (cG F xs) s P:=W.cV hl (h.imp λ_ _ ⟨d,q⟩=>⟨d,q,k d⟩)
section
variable {n m:Int}{ps qs:List (Int×Int)}{x:D}{hs:List Int}
theorem Qp{us:List Int}{j:Int}(h0:0<=j)(h:j<us.length):at' us j∈us:=by
 let⟨i,hi,_,e⟩:=Ls h0 h;rw[e];show pG _
end
section
variable {n k d:Int}{ps:List (Int×Int)}
noncomputable def aQ(r:List Int):D:=.tup (r.map .int)
end
end Mi
namespace Mi
open PySem PySem.W L2
theorem G5:∀a:List Int,ltI a a=false
 |[]=>rfl|x::a=>by change (if x=x then ltI a a else _)=false;rw[if_pos rfl];show G5 a
theorem Ww:∀a b:List Int,ltI a b=true\/a=b\/ltI b a=true
 |[],[]=>.inr (.inl rfl)|[],y::b=>.inl rfl|x::a,[]=>.inr (.inr rfl)|x::a,y::b=>by
  change (if x=y then ltI a b else decide (x<y))=true\/_\/(if y=x then ltI b a else decide (y<x))=true;by_cases e:x=y
  .subst e;rw[if_pos rfl,if_pos rfl];rcases Ww a b with h|h|h
   .exact .inl h
   .exact .inr (.inl (by rw[h]))
   .exact .inr (.inr h)
  .rw[if_neg e,if_neg (Ne.symm e)];by_cases h:x<y
   .exact .inl (cO h)
   .exact .inr (.inr (cO gV))
theorem Wx:∀{a b c:List Int},ltI a b=true->ltI b c=true->ltI a c=true
 |a,b,[],_,h=>by cases b<;>cases h|[],_,z::c,_,_=>rfl|x::a,[],z::c,h,_=>by cases h|x::a,y::b,z::c,h1,h2=>by
  let h1:(if x=y then ltI a b else decide (x<y))=true:=h1;let h2:(if y=z then ltI b c else decide (y<z))=true:=h2;change (if x=z then ltI a c else decide (x<z))=true;by_cases e1:x=y
  .subst e1;rw[if_pos rfl]at h1;by_cases e2:x=z
   .rw[if_pos e2]at h2 ⊢;show Wx h1 h2
   .rw[if_neg e2]at h2 ⊢;show h2
  .rw[if_neg e1]at h1;let h1:=fj h1;by_cases e2:y=z
   .subst e2;rw[if_neg e1];show cO h1
   .rw[if_neg e2]at h2;let h2:=fj h2;rw[if_neg gV];show cO gV
theorem ziO{a b:List Int}(h:ltI a b=true):ltI b a=false:=by
 cases e:ltI b a
 .rfl
 .let:=Wx h e;rw[G5]at this;cases this
theorem zfh{c d:List Int}:∀{a b:List Int},a.length=b.length->ltI a b=true->ltI (a++c) (b++d)=true
 |[],[],_,h=>by cases h|[],_::_,h,_=>by cases h|_::_,[],h,_=>by cases h|x::a,y::b,hl,h=>by
  let h:(if x=y then ltI a b else decide (x<y))=true:=h;change (if x=y then ltI (a++c) (b++d) else decide (x<y))=true;by_cases e:x=y
  .rw[if_pos e]at h ⊢;show zfh (Nat.succ.inj hl) h
  .rw[if_neg e]at h ⊢;show h
theorem Qq{b c:List Int}:∀a:List Int,ltI (a++b) (a++c)=ltI b c
 |[]=>rfl|x::a=>by change (if x=x then ltI (a++b) (a++c) else _)=_;rw[if_pos rfl];show Qq a
abbrev G6(a b:List Int):Prop:=ltI a b=true
theorem zjb:∀{a b:List Int},lB (a.map .int) (b.map .int)=some (ltI a b)
 |[],[]=>rfl|[],_::_=>by simp[lB,ltI]|_::_,[]=>rfl|x::a,y::b=>by
  change (if x=y then lB (a.map .int) (b.map .int) else some (decide (x<y)))=some (if x=y then ltI a b else decide (x<y));by_cases e:x=y
  .rw[if_pos e,if_pos e];show zjb
  .rw[if_neg e,if_neg e]
theorem zdy:∀{a b:List (List Int)},a.Pairwise G6->b.Pairwise G6->(∀x,x∈a↔x∈b)->a=b
 |[],[],_,_,_=>rfl|[],y::b,_,_,h=>absurd ((h y).mpr V8) V8|x::a,[],_,_,h=>absurd ((h x).mp V8) V8|x::a,y::b,ha,hb,h=>by
  rw[z_]at ha hb;let e:x=y:=by
   rcases cX.mp ((h x).mp V8) with e|e
   .exact e
   .rcases cX.mp ((h y).mpr V8) with e2|e2
    .exact e2.symm
    .let h1:ltI y x=true:=hb.1 x e;let h2:ltI x y=true:=ha.1 y e2;rw[ziO h2]at h1;cases h1
  subst e;rw[zdy ha.2 hb.2 λz=>?_];let hz:=h z;rw[cX,cX]at hz
  constructor
  .intro q;rcases hz.mp (.inr q) with e|e
   .subst e;let h1:ltI z z=true:=ha.1 z q;rw[G5]at h1;cases h1
   .exact e
  .intro q;rcases hz.mpr (.inr q) with e|e
   .subst e;let h1:ltI z z=true:=hb.1 z q;rw[G5]at h1;cases h1
   .exact e
def Wy(us:List (List Int))(i j:Nat):Prop:=ltI (us.getD j []) (us.getD i [])=false
theorem zil{us:List (List Int)}{i j:Nat}(hi:i<us.length)(hj:j<us.length):uQ (us.map aQ) i j=some (ltI (us.getD i []) (us.getD j [])):=by
 unfold uQ;rw[ji,ji,dW hi,dW hj];change lB _ _=_;rw[zjb];simp[gJ,hi,hj]
theorem Wz{us:List (List Int)}:Ord us.length (uQ (us.map aQ)) (Wy us) where
 ans i j hi hj:=by
  rw[zil hi hj];cases e:ltI (us.getD i []) (us.getD j [])
  .exact .inr ⟨rfl,e⟩
  .exact .inl ⟨rfl,ziO e⟩
 tr i j k _ _ _ h1 h2:=by
  unfold Wy at *;generalize us.getD i []=a at *;generalize us.getD j []=b at *;generalize us.getD k []=c at *;cases e:ltI c a
  .rfl
  .rcases Ww b c with q|q|q
   .rw[Wx q e]at h1;cases h1
   .subst q;rw[e]at h1;cases h1
   .rw[q]at h2;cases h2
theorem zim{us:List (List Int)}(hl:us.length<64)(ne:∀r∈us,r≠[])(nd:us.Nodup):∃qs:List (List Int),uR (us.map aQ)=some (qs.map aQ)/\qs.Pairwise G6/\∀x,x∈qs↔x∈us:=by
 let hk:((us.map aQ).all jt||(us.map aQ).all iz)=true:=by
  rw[Hy]
  right
  rw[HS,gY];intro r hr;cases r with
  |nil=>show absurd rfl (ne _ hr)|cons x r=>rfl
 unfold uR;rw[if_pos hk];unfold oA;rw[aY];by_cases h2:us.length<2
 .rw[if_pos h2];show⟨us,rfl,?_,λ_=>Iff.rfl⟩;cases us with
  |nil=>show .nil|cons x t=>
   cases t with
   |nil=>show List.pairwise_singleton ..|cons y t=>show absurd h2 V8
 .rw[if_neg h2,if_pos hl];let⟨p,e,hp,ha⟩:=zmV (Wz (us:=us)) gV;let hs:p.size=us.length:=hp.size;rw[e];dsimp only;rw[if_pos hs];let bV:∀i∈p.toList,i<us.length:=λi hi=>by
   let:=(Array.Perm.toList hp).mem_iff.mp hi;simpa using this
  let hm:(p.toList.map λi=>us.getD i []).Perm us:=by
   let h1:(p.toList.map λi=>us.getD i []).Perm ((List.range us.length).map λi=>us.getD i []):=(Array.Perm.toList hp).map _;let h2:((List.range us.length).map λi=>us.getD i [])=us:=by
    apply List.ext_getElem
    .simp
    .intro i a b;simp[gJ,b]
   rw[h2]at h1;show h1
  show⟨p.toList.map λi=>us.getD i [],?_,?_,λx=>hm.mem_iff⟩
  .rw[nW]
   congr 1
   show List.map_congr_left λi hi=>?_;let:=bV i hi;simp[gJ,this]
  .let nd:(p.toList.map λi=>us.getD i []).Nodup:=hm.nodup_iff.mpr nd;rw[ud];intro i j hi hj lU;let hne:=ud.mp nd i j hi hj lU;let tH:i<p.size:=by simpa using hi
   let Qn:j<p.size:=by simpa using hj
   let hl:=ha i j lU gV;unfold Wy at hl;let e1:p.getD i 0=p[i]:=by simp[Array.getD,tH]
   let e2:p.getD j 0=p[j]:=by simp[Array.getD,Qn]
   rw[e1,e2]at hl;simp only[List.getElem_map,Array.getElem_toList]at hne ⊢;rcases Ww (us.getD p[i] []) (us.getD p[j] []) with q|q|q
   .exact q
   .exact absurd q hne
   .rw[q]at hl;cases hl
noncomputable def pC(l:Int):List Int->Int
 |[]=>l|x::e=>pC x e
theorem zkW{l:Int}{e:List Int}{x:Int}:pC l (e++[x])=x:=by
 induction e generalizing l with
 |nil=>rfl|cons y e ih=>show ih
section
variable {nx:Int->List Int}{p:Int}
noncomputable def Ch(nx:Int->List Int)(p:Int):List Int->Int->List Int->Prop
 |_,_,[]=>True|r,l,x::e=>x∈nx l/\p<x/\x∉r/\Ch nx p (r++[x]) x e
theorem nD{x:Int}:∀{e r:List Int} {l:Int},Ch nx p r l (e++[x])↔Ch nx p r l e/\x∈nx (pC l e)/\p<x/\x∉r++e
 |[],r,l=>by
  change x∈nx l/\p<x/\x∉r/\True↔True/\x∈nx l/\p<x/\x∉r++[];rw[sV];show⟨λh=>⟨trivial,h.1,h.2.1,h.2.2.1⟩,λh=>⟨h.2.1,h.2.2.1,h.2.2.2,trivial⟩⟩
 |y::e,r,l=>by
  change y∈nx l/\p<y/\y∉r/\Ch nx p (r++[y]) y (e++[x])↔(y∈nx l/\p<y/\y∉r/\Ch nx p (r++[y]) y e)/\x∈nx (pC y e)/\p<x/\x∉r++y::e;rw[nD (e:=e),Aa,List.singleton_append];show⟨λh=>⟨⟨h.1,h.2.1,h.2.2.1,h.2.2.2.1⟩,h.2.2.2.2⟩,λh=>⟨h.1.1,h.1.2.1,h.1.2.2.1,h.1.2.2.2,h.2⟩⟩
noncomputable def wZ(nx:Int->List Int)(p:Int):Nat->List Int->Int->List (List Int)
 |0,_,_=>[]|f+1,r,l=>(if p∈nx l then [r] else [])++((nx l).filter λx=>decide (p<x)&&decide (x∉r)).flatMap λx=>wZ nx p f (r++[x]) x
theorem eG{q:List Int}:∀{f:Nat} {r:List Int} {l:Int},q∈wZ nx p f r l↔∃e,q=r++e/\Ch nx p r l e/\p∈nx (pC l e)/\e.length<f
 |0,r,l=>⟨λh=>(by cases h),λ⟨_,_,_,_,h⟩=>absurd h (Oa _)⟩|f+1,r,l=>by
  unfold wZ;rw[dw,FQ]
  constructor
  .rintro(h|⟨x,hx,h⟩)
   .split at h
    .rename_i hp;rw[oW]at h;show⟨[],by rw[sV];show h,trivial,hp,N5 _⟩
    .cases h
   .rw[jk,dZ,kI,kI]at hx;let⟨e,rfl,hc,hp,hl⟩:=eG.mp h;show⟨x::e,by simp,⟨hx.1,hx.2.1,hx.2.2,hc⟩,hp,Nat.succ_lt_succ hl⟩
  .rintro⟨e,rfl,hc,hp,hl⟩;cases e with
   |nil=>left;rw[if_pos (show p∈nx l from hp),sV];simp|cons x e=>
    right
    let⟨h1,h2,h3,h4⟩:=hc;show⟨x,by rw[jk,dZ,kI,kI];show⟨h1,h2,h3⟩,?_⟩;show eG.mpr ⟨e,by simp,h4,hp,Nat.lt_of_succ_lt_succ hl⟩
theorem zgH(hs:∀l,(nx l).Pairwise (·<·)):∀{f:Nat} {r:List Int} {l:Int},(wZ nx p f r l).Pairwise G6
 |0,_,_=>.nil|f+1,r,l=>by
  unfold wZ;let pre:∀x,∀q∈wZ nx p f (r++[x]) x,∃e,q=r++x::e:=λx q hq=>by
   let⟨e,rfl,_⟩:=eG.mp hq;show⟨e,by simp⟩
  rw[FJ];show⟨by split<;>simp,?_,λa ha b hb=>?_⟩
  .rw[Nj];show⟨λx _=>zgH hs,((hs l).filter _).imp λ{x y} hxy a ha b hb=>?_⟩;let⟨e1,rfl⟩:=pre x a ha;let⟨e2,rfl⟩:=pre y b hb;change ltI _ _=true;rw[Qq];change (if x=y then _ else decide (x<y))=true;rw[if_neg gV];show cO hxy
  .obtain⟨x,_,hb⟩:=FQ.mp hb;let⟨e,rfl⟩:=pre x b hb;split at ha
   .rw[oW]at ha;subst ha;let:=Qq (b:=[]) (c:=x::e) a;rw[sV]at this;change ltI _ _=true;rw[this];rfl
   .cases ha
end
noncomputable def la:List Int->Int
 |[]=>0|p::e=>pC p e
section
variable {n:Int}{nx:Int->List Int}{p:Int}
noncomputable def t_(a b:Int):List Int:=(List.range (b-a).toNat).map λ(i:Nat)=>a+(i:Int)
theorem gH{a b x:Int}:x∈t_ a b↔a<=x/\x<b:=by
 unfold t_;rw[cW]
 constructor
 .rintro⟨i,hi,rfl⟩;rw[gC]at hi;lia
 .intro h;show⟨(x-a).toNat,by rw[gC];lia,by lia⟩
theorem q_{a b:Int}:(t_ a b).Pairwise (·<·):=by
 unfold t_;rw[qu];show Hr.imp λ{i j} h=>by lia
noncomputable def nxt(n:Int)(nx:Int->List Int)(r:List Int):List (List Int):=((t_ (at' r 0+1) n).filter λx=>decide (x∉r)&&decide (x∈nx (la r))).map λx=>r++[x]
noncomputable def lv(n:Int)(nx:Int->List Int):Nat->List (List Int)
 |0=>(List.range n.toNat).map λ(i:Nat)=>[(i:Int)]|j+1=>(lv n nx j).flatMap (nxt n nx)
theorem zQ(hn:∀l x,x∈nx l->0<=x/\x<n):∀{j:Nat} {r:List Int},r∈lv n nx j↔∃p e,r=p::e/\e.length=j/\(0<=p/\p<n)/\Ch nx p [p] p e
 |0,r=>by
  unfold lv;rw[cW]
  constructor
  .rintro⟨i,hi,rfl⟩;rw[gC]at hi;show⟨i,[],rfl,rfl,by lia,trivial⟩
  .rintro⟨p,e,rfl,he,hp,_⟩;cases e with
   |nil=>show⟨p.toNat,by rw[gC];lia,by rw[show ((p.toNat:Nat):Int)=p by lia]⟩|cons _ _=>cases he
 |j+1,r=>by
  unfold lv;rw[FQ]
  constructor
  .rintro⟨r0,h0,h⟩;let⟨p,e,rfl,he,hp,hc⟩:=(zQ hn).mp h0;unfold nxt at h;let⟨x,hx,rfl⟩:=cW.mp h;rw[jk,dZ,kI,kI,gH]at hx;let h0:at' (p::e) 0=p:=rfl;rw[h0]at hx;show⟨p,e++[x],rfl,by simp[he],hp,nD.mpr ⟨hc,hx.2.2,by lia,hx.2.1⟩⟩
  .rintro⟨p,e',rfl,he,hp,hc⟩;rcases List.eq_nil_or_concat e' with rfl|⟨e,x,rfl⟩
   .cases he
   .rw[List.concat_eq_append]at hc he ⊢;let⟨c1,c2,c3,c4⟩:=nD.mp hc;show⟨p::e,(zQ hn).mpr ⟨p,e,rfl,by simpa using he,hp,c1⟩,?_⟩;unfold nxt;show cW.mpr ⟨x,?_,rfl⟩;rw[jk,dZ,kI,kI,gH];let h0:at' (p::e) 0=p:=rfl;rw[h0];let:=hn _ x c2;show⟨by lia,c4,c2⟩
theorem Mw(hn:∀l x,x∈nx l->0<=x/\x<n){j:Nat}{r:List Int}(h:r∈lv n nx j):r.length=j+1:=by
 let⟨p,e,rfl,he,_⟩:=(zQ hn).mp h;simp[he]
theorem ziU(hn:∀l x,x∈nx l->0<=x/\x<n):∀{j:Nat},(lv n nx j).Pairwise G6
 |0=>by
  unfold lv;rw[qu];show Hr.imp λ{i j} h=>?_;change (if (i:Int)=j then _ else decide ((i:Int)<j))=true;rw[if_neg gV];show cO gV
 |j+1=>by
  unfold lv;rw[Nj];show⟨λr hr=>?_,?_⟩
  .unfold nxt;rw[qu];show(q_.filter _).imp λ{x y} h=>?_;change ltI _ _=true;rw[Qq];change (if x=y then _ else decide (x<y))=true;rw[if_neg gV];show cO h
  .refine(ziU hn (j:=j)).imp_of_mem λ{r s} hr hs h a ha b hb=>?_;unfold nxt at ha hb;let⟨x,_,rfl⟩:=cW.mp ha;let⟨y,_,rfl⟩:=cW.mp hb;show zfh (by rw[Mw hn hr,Mw hn hs]) h
theorem zjy{j i:Nat}(h:lv n nx j=[])(hi:j<=i):lv n nx i=[]:=by
 induction i with
 |zero=>rw[show (0:Nat)=j by lia];show h|succ i ih=>
  by_cases e:j=i+1
  .rw[<-e];show h
  .unfold lv;rw[ih gV];rfl
noncomputable def zR(nx:Int->List Int)(r:List Int):Bool:=decide (at' r 0∈nx (la r))
noncomputable def lY(n:Int)(nx:Int->List Int)(j:Nat):List (List Int):=(List.range j).flatMap λi=>(lv n nx (i+1)).filter (zR nx)
theorem zeb{j:Nat}:lY n nx (j+1)=lY n nx j++(lv n nx (j+1)).filter (zR nx):=by
 unfold lY;rw[Hz,Ri];simp
theorem rm{j:Nat}{r:List Int}:r∈lY n nx j↔∃i,i<j/\r∈lv n nx (i+1)/\zR nx r=true:=by
 unfold lY;rw[FQ]
 constructor
 .rintro⟨i,hi,h⟩;rw[jk]at h;show⟨i,gC.mp hi,h.1,h.2⟩
 .rintro⟨i,hi,h1,h2⟩;show⟨i,gC.mpr hi,jk.mpr ⟨h1,h2⟩⟩
theorem zfH(hn:∀l x,x∈nx l->0<=x/\x<n){j:Nat}:(lY n nx j).Nodup:=by
 unfold lY List.Nodup;rw[Nj];show⟨λi _=>((ziU hn).filter _).imp λ{a b} h e=>?_,Hr.imp λ{i k} h a ha b hb e=>?_⟩
 .subst e;let h:ltI a a=true:=h;rw[G5]at h;cases h
 .subst e;let h1:=Mw hn (jk.mp ha).1;let h2:=Mw hn (jk.mp hb).1
  lia
noncomputable def fD(n:Int)(nx:Int->List Int)(f:Nat):List (List Int):=(List.range n.toNat).flatMap λ(i:Nat)=>wZ nx i f [(i:Int)] i
theorem zhw(hs:∀l,(nx l).Pairwise (·<·)){f:Nat}:(fD n nx f).Pairwise G6:=by
 unfold fD;rw[Nj];show⟨λ_ _=>zgH hs,Hr.imp λ{i j} h a ha b hb=>?_⟩;let⟨e1,rfl,_⟩:=eG.mp ha;let⟨e2,rfl,_⟩:=eG.mp hb;change (if (i:Int)=j then _ else decide ((i:Int)<j))=true;rw[if_neg gV];show cO gV
theorem G7(hn:∀l x,x∈nx l->0<=x/\x<n):∀{e r:List Int} {l:Int},Ch nx p r l e->r.Nodup->(∀x∈r,0<=x/\x<n)->(r++e).Nodup/\∀x∈r++e,0<=x/\x<n
 |[],r,l,_,h,hr=>by rw[sV];show⟨h,hr⟩|x::e,r,l,h,hd,hr=>by
  let⟨h1,h2,h3,h4⟩:=h;let:=G7 hn h4 (by
   rw[FP];show⟨hd,by simp,λa ha b hb=>?_⟩;rw[oW]at hb;subst hb;intro z;subst z;show h3 ha) (λy hy=>by
   rcases dw.mp hy with hy|hy
   .exact hr y hy
   .rw[oW]at hy;subst hy;show hn l y h1)
  rw[Aa]at this;show this
theorem WD{l:List Int}(nd:l.Nodup)(h:∀x∈l,0<=x/\x<n):l.length<=n.toNat:=by
 let:=Lr nd (m:=t_ 0 n) λx hx=>gH.mpr (h x hx);unfold t_ at this;rw[aY,nG]at this
 lia
theorem zkl(hn:∀l x,x∈nx l->0<=x/\x<n)(WK:∀x,x∉nx x){j:Nat}(h0:lv n nx j=[]){f:Nat}(hf:n.toNat<=f):∀r,r∈lY n nx j↔r∈fD n nx f:=by
 intro r;rw[rm];unfold fD;rw[FQ]
 constructor
 .rintro⟨i,hi,h1,h2⟩;let⟨p,e,rfl,he,hp,hc⟩:=(zQ hn).mp h1;show⟨p.toNat,by rw[gC];lia,?_⟩;rw[show ((p.toNat:Nat):Int)=p by lia];let hl:=G7 hn hc V8 (λx hx=>by rw[oW]at hx;subst hx;show hp);let:=WD hl.1 hl.2;show eG.mpr ⟨e,rfl,hc,fj h2,by simp at this;lia⟩
 .rintro⟨i,hi,h⟩;rw[gC]at hi;let⟨e,rfl,hc,hp,hl⟩:=eG.mp h;cases e with
  |nil=>show absurd hp (WK _)|cons x e=>
   let hm:[(i:Int)]++x::e∈lv n nx (e.length+1):=(zQ hn).mpr ⟨i,x::e,rfl,rfl,by lia,hc⟩;show⟨e.length,?_,hm,cO hp⟩;rcases Cm e.length j with q|q
   .exact q
   .rw[zjy h0 gV]at hm;cases hm
end
noncomputable def hB:Nat->Bool->Nat->Nat
 |0,c,_=>c.toNat|a+1,c,b=>c.toNat+b*((List.range (a+2-b)).map λx=>max (hB a false x) (if c=true then 0 else hB a true x)).foldl max 0
theorem zf2{l:List Nat}{m x:Nat}(h:x∈l):x<=l.foldl max m:=by
 induction l generalizing m with
 |nil=>cases h|cons y l ih=>
  let low:∀(l:List Nat) (m:Nat),m<=l.foldl max m:=by
   intro l
   induction l with
   |nil=>intro m;show bQ _|cons z l ih=>intro m;show jf (Nat.le_max_left m z) (ih _)
  rcases cX.mp h with rfl|h
  .exact jf (Nat.le_max_right m x) (low l _)
  .exact ih h
theorem zlI{l:List Int}{f:Int->List (List Int)}{m:Nat}(h:∀x∈l,(f x).length<=m):(l.flatMap f).length<=l.length*m:=by
 induction l with
 |nil=>simp|cons x l ih=>
  rw[List.flatMap_cons,bZ,fP,Cj];let h1:=h x V8;let h2:=ih λy hy=>h y (fZ _ hy)
  lia
section
variable {n p:Int}{nx:Int->List Int}
theorem zf4(hnd:∀l,(nx l).Nodup)(Mx:∀l x y,x∈nx l->y∈nx l->y∉nx x):∀(f:Nat) (r vW:List Int) (l:Int),vW.Nodup->(∀l x,x∈nx l->p<x->x∉r->x∈vW)->(∀x∈vW,x∉r)->
  (wZ nx p f r l).length<=hB vW.length (decide (p∈nx l)) ((nx l).filter λx=>decide (p<x)&&decide (x∉r)).length
 |0,r,vW,l,_,_,_=>jJ _|f+1,r,vW,l,hU,fL,hout=>by
  unfold wZ;let hF:∀x,x∈(nx l).filter (λx=>decide (p<x)&&decide (x∉r))↔x∈nx l/\p<x/\x∉r:=λx=>by
   rw[jk,dZ,kI,kI]
  let WL:((nx l).filter λx=>decide (p<x)&&decide (x∉r)).Nodup:=(hnd l).filter _;generalize hFe:(nx l).filter (λx=>decide (p<x)&&decide (x∉r))=F at hF WL;let WM:∀x∈F,x∈vW:=λx hx=>by let⟨a,b,c⟩:=(hF x).mp hx;show fL l x a b c
  let hFl:=Lr WL WM;rw[bZ];let h1:(if p∈nx l then [r] else []).length=(decide (p∈nx l)).toNat:=by
   by_cases h:p∈nx l
   .rw[if_pos h,cO h];rfl
   .rw[if_neg h,f9 h];rfl
  rw[h1];cases hu:vW.length with
  |zero=>
   let:F=[]:=List.length_eq_zero_iff.mp gV;rw[this];change _+0<=(decide (p∈nx l)).toNat
   lia
  |succ a=>
   change _<=(decide (p∈nx l)).toNat+F.length*_;show Nat.add_le_add_left (zlI λx hx=>?_) _;let⟨x1,x2,x3⟩:=(hF x).mp hx;let hxU:=WM x hx;let hUe:(vW.erase x).length=a:=by rw[Q0 hxU];lia
   let ih:=zf4 hnd Mx f (r++[x]) (vW.erase x) x (hU.erase x) (λl y h1 h2 h3=>by
    let hy:y∉r/\y≠x:=⟨λz=>h3 (nR _ z),λz=>h3 (by rw[z];simp)⟩;show(Rf hy.2).mpr (fL l y h1 h2 hy.1)) (λy hy z=>by
    let hy':=(hU.mem_erase_iff).mp hy;rcases dw.mp z with z|z
    .exact hout y hy'.2 z
    .rw[oW]at z;show hy'.1 z)
   rw[hUe]at ih;show jf ih ?_;let hG:∀y,y∈(nx x).filter (λy=>decide (p<y)&&decide (y∉r++[x]))↔y∈nx x/\p<y/\y∉r++[x]:=λy=>by
    rw[jk,dZ,kI,kI]
   let hGn:((nx x).filter λy=>decide (p<y)&&decide (y∉r++[x])).Nodup:=(hnd x).filter _;generalize (nx x).filter (λy=>decide (p<y)&&decide (y∉r++[x]))=G at hG hGn;let hFG:G.length+F.length<=a+1:=by
    let:=Lr (l:=G++F) (m:=vW) (by
     rw[FP];show⟨hGn,WL,λy hy z hz e=>?_⟩;subst e;show Mx l x y x1 ((hF y).mp hz).1 ((hG y).mp hy).1) (λy hy=>by
     rcases dw.mp hy with hy|hy
     .obtain⟨g1,g2,g3⟩:=(hG y).mp hy;show fL x y g1 g2 λz=>g3 (nR _ z)
     .exact WM y hy)
    rw[bZ]at this
    lia
   show jf ?_ (zf2 (cW.mpr ⟨G.length,gC.mpr gV,rfl⟩));by_cases hp:p∈nx x
   .let hl:p∉nx l:=λz=>Mx l x p x1 z hp;rw[cO hp,f9 hl];show Nat.le_max_right _ _
   .rw[f9 hp];show Nat.le_max_left _ _
noncomputable def tB(m:Nat):Nat:=((List.range m).map λi=>((List.range (m-i)).map λb=>hB (m-1-i) false b).foldl max 0).sum
theorem zn6:∀m,m<=6->tB m<64:=by decide
theorem zjk(hn:∀l x,x∈nx l->0<=x/\x<n)(WK:∀x,x∉nx x)(hnd:∀l,(nx l).Nodup)(Mx:∀l x y,x∈nx l->y∈nx l->y∉nx x)(h6:n<=6){f:Nat}:(fD n nx f).length<64:=by
 show Nv ?_ (zn6 n.toNat gV);unfold fD tB;rw[List.length_flatMap];let key:∀l:List Nat,(∀i∈l,i<n.toNat)->(l.map λ(i:Nat)=>(wZ nx i f [(i:Int)] i).length).sum<=(l.map λi=>((List.range (n.toNat-i)).map λb=>hB (n.toNat-1-i) false b).foldl max 0).sum:=by
  intro l
  induction l with
  |nil=>intro _;show bQ _|cons i l ih=>
   intro h;rw[kJ,kJ,Ga,Ga];show Nat.add_le_add ?_ (ih λj hj=>h j (fZ _ hj));let hi:=h i V8;let hU:(t_ ((i:Int)+1) n).length=n.toNat-1-i:=by unfold t_;rw[aY,nG];lia
   let:=zf4 (p:=(i:Int)) hnd Mx f [(i:Int)] (t_ ((i:Int)+1) n) i (q_.imp λ{a b} h e=>by lia) (λl x h1 h2 _=>gH.mpr ⟨by lia,(hn l x h1).2⟩) (λx hx z=>by rw[oW]at z;let:=gH.mp hx;lia);rw[hU,f9 (WK i)]at this;show jf this (zf2 (cW.mpr ⟨_,gC.mpr ?_,rfl⟩));let:=Lr (l:=(nx i).filter λx=>decide ((i:Int)<x)&&decide (x∉[(i:Int)])) (m:=t_ ((i:Int)+1) n) ((hnd i).filter _) (λx hx=>by
    rw[jk,dZ,kI]at hx;show gH.mpr ⟨by lia,(hn i x hx.1).2⟩)
   lia
 show key _ λi hi=>gC.mp hi
end
end Mi
namespace Mi
open PySem
structure Fd(f:Nat->D->Option PyData):Prop where
 tup:∀j xs,f (j+1) (.tup xs)=(mV (f j) xs).map .tuple
 str:∀j s,f j (.str s)=some (.str s)
 int:∀j i,f j (.int i)=some (.int i)
 bl:∀j b,f j (.bl b)=some (.bool b)
 non:∀j,f j .non=some .none
theorem Qs:Fd pd:=⟨λ_ _=>rfl,λj _=>by cases j<;>rfl,λj _=>by cases j<;>rfl,λj _=>by cases j<;>rfl,λj=>by cases j<;>rfl⟩
def RG(f:Nat->D->Option PyData)(j B:Nat)(x:D):Prop:=∃p,f j x=some p/\p.showable=true/\p.leavesShort 40=true/\p.weight<=B
def xg(f:Nat->D->Option PyData)(j B:Nat)(xs:List D):Prop:=∃ps,mV (f j) xs=some ps/\PyData.showableAll ps=true/\PyData.leavesShortAll 40 ps=true/\PyData.weightAll ps<=B
section
variable {f:Nat->D->Option PyData}{j A B:Nat}{x:D}{xs:List D}
theorem RG.mono(h:RG f j A x)(hb:A<=B):RG f j B x:=let ⟨p,a,b,c,d⟩:=h;⟨p,a,b,c,jf d hb⟩
theorem xg.mono(h:xg f j A xs)(hb:A<=B):xg f j B xs:=let ⟨p,a,b,c,d⟩:=h;⟨p,a,b,c,jf d hb⟩
theorem rz:xg f j 0 []:=⟨[],rfl,rfl,rfl,bQ _⟩
theorem zej(h:RG f j A x)(r:xg f j B xs):xg f j (A+1+B) (x::xs):=by
 let⟨p,e1,e2,e3,e4⟩:=h;let⟨ps,f1,f2,f3,f4⟩:=r;show⟨p::ps,?_,?_,?_,?_⟩
 .unfold mV;rw[e1,f1]
 .simp only[PyData.showableAll,e2,f2,Bool.and_self]
 .simp only[PyData.leavesShortAll,e3,f3,Bool.and_self]
 .simp only[PyData.weightAll];lia
theorem zhf:∀{xs:List D},(∀x∈xs,RG f j A x)->xg f j (xs.length*(A+1)) xs
 |[],_=>rz.mono (jJ _)|x::r,h=>(zej (h x V8) (zhf λy hy=>h y (fZ _ hy))).mono (by rw[fP,Cj];lia)
theorem WQ(hf:Fd f)(h:xg f j A xs):RG f (j+1) A (.tup xs):=by
 let⟨ps,f1,f2,f3,f4⟩:=h;show⟨.tuple ps,by rw[hf.tup,f1];rfl,by simp only[PyData.showable];show f2,by simp only[PyData.leavesShort];show f3,by simp only[PyData.weight];show f4⟩
theorem znX(h:xg pd j A xs):RG pd (j+1) A (.fl xs):=by
 let⟨ps,f1,f2,f3,f4⟩:=h;show⟨.list ps,by change Option.map _ (mV (pd j) xs)=_;rw[f1];rfl,by simp only[PyData.showable];show f2,by simp only[PyData.leavesShort];show f3,by simp only[PyData.weight];show f4⟩
theorem zni(hf:Fd f){i:Int}(h:i.natAbs<16):RG f j 10 (.int i):=by
 let⟨p,e,h1,h2,h3⟩:=zkS (n:=0) (i:=i) (Nat.lt_trans h J0);cases (show PyData.int i=p from dM e);let h4:=zeA (k:=4) J0 h;show⟨.int i,hf.int _ _,h1,h2,?_⟩;simp only[PyData.weight]
 split<;>lia
end
theorem zol:∀(j:Nat) {x:D} {a b:PyData},pd j x=some a->pe j x=some b->a=b:=by
 let hs:∀j,(∀{x:D} {a b:PyData},pd j x=some a->pe j x=some b->a=b)->∀(xs:List D) {a b:List PyData},mV (pd j) xs=some a->mV (pe j) xs=some b->a=b:=by
  intro j ih xs
  induction xs with
  |nil=>intro a b h1 h2;cases h1;cases h2;rfl|cons x r ihr=>
   intro a b h1 h2;unfold mV at h1 h2;split at h1
   .rename_i a1 a2 e1 e2;split at h2
    .rename_i b1 b2 e3 e4;cases h1;cases h2;rw[ih e1 e3,ihr e2 e4]
    .cases h2
   .cases h1
 intro j
 induction j with
 |zero=>
  intro x a b h1 h2;cases x<;>first|(cases h1;done)|(cases h1;cases h2;rfl)
 |succ j ih=>
  intro x a b h1 h2;cases x with
  |tup xs=>
   let⟨p,e1,rfl⟩:=je.mp (show (mV (pd j) xs).map PyData.tuple=some a from h1);let⟨q,e2,rfl⟩:=je.mp (show (mV (pe j) xs).map PyData.tuple=some b from h2);rw[hs j ih xs e1 e2]
  |fl xs=>cases h2|_=>first|(cases h1;done)|(cases h1;cases h2;rfl)
theorem zl0{f:Nat->D->Option PyData}(hf:f=pd\/f=pe){x:D}{B:Nat}(h:RG f 40 B x)(hb:B<=200000):Rp x:=by
 let⟨p,e,h1,h2,h3⟩:=h;let h3:p.weight<=200000:=jf h3 hb;by_cases hx:∃k i,x=.fd [.str k] [.int i]
 .obtain⟨k,i,rfl⟩:=hx;show zmJ (p:=p) ?_ h1 h2 h3;rcases hf with rfl|rfl
  .cases e
  .exact e
 .refine zmJ (p:=p) ?_ h1 h2 h3;let ep:Gn x=T8 (pd 40 x) (pe 40 x):=by
   unfold Gn
   split
   .exact absurd ⟨_,_,rfl⟩ hx
   .rfl
  rw[ep];rcases hf with rfl|rfl
  .rw[e];rfl
  .cases e2:pd 40 x with
   |none=>show e|some q=>rw[zol 40 e2 e];rfl
noncomputable def lF(is:List Int):List (Int×Int):=is.zip (is.drop 1++is.take 1)
noncomputable def BP(is:List Int):Int:=best (λa b=>decide (a<b)) (at' is 0) (is.drop 1)
theorem zi4:∀(l:List Int),(aO l).length<=l.length
 |[]=>bQ _|a::l=>by
  let:=zi4 l;unfold aO
  split
  .rw[fP];lia
  .rw[fP,fP];lia
theorem G8(is:List Int):aJ (is.map D.int)=some is:=by
 induction is with
 |nil=>rfl|cons i r ih=>change (aJ (r.map D.int)).map (i::·)=_;rw[ih];rfl
theorem zjf{is:List Int}(h:wD is=true):prim .gw [.tup (is.map .int)]=some (.dat (.int (aO is).length)):=by
 change (aJ (is.map D.int)).bind lM=_;rw[G8];change lM is=_;unfold lM;rw[h]
theorem znK{is:List Int}(h:is≠[]):prim .rM [.tup (is.map .int)]=some (.dat (.int (BP is))):=by
 cases is with
 |nil=>show absurd rfl h|cons i r=>
  change (dX (.tup ((i::r).map D.int))).bind (λxs=>lK _ (aJ xs))=_;change lK _ (aJ ((i::r).map D.int))=_;rw[G8];rfl
theorem zlQ{is:List Int}(h:is≠[]):prim .ix [.tup (is.map .int),.int 0]=some (.dat (.int (at' is 0))):=sy J0 (by let:=List.length_pos_iff.mpr h;lia)
theorem zdk(a b:List Int):yI (a.map .int) (b.map .int)=(a.zip b).map cI:=by
 unfold yI;rw[List.zipWith_map,List.map_zip_eq_zipWith];rfl
theorem zdi{α:Type}(xs:List α):cut xs (some 1) none=xs.drop 1:=by
 cases xs with
 |nil=>rfl|cons x r=>
  unfold cut HT.bR;simp
theorem zfV{α:Type}(xs:List α):cut xs none (some 1)=xs.take 1:=by
 cases xs with
 |nil=>rfl|cons x r=>
  unfold cut HT.bR;simp
theorem zpx{is:List Int}(h:is.length<=100):prim .uO [.tup (is.map .int),.tup (cut (is.map D.int) (some 1) none++cut (is.map D.int) none (some 1))]=some (.nw ((lF is).map cI)):=by
 change Ba (is.map D.int) _=_;unfold Ba;rw[if_pos (by rw[aY];lia),zdi,zfV,<-Od,<-HF,<-iu,zdk];rfl
noncomputable def intsOf:D->Option (List Int)
 |.tup xs=>aJ xs|_=>none
def xq(p:D):Prop:=okT p=true/\∀xs,p=.tup xs->xs.length<=17/\∀is,aJ xs=some is->wD is=true
theorem Ft:∀{xs:List D} {is:List Int},aJ xs=some is->xs=is.map D.int
 |[],is,h=>by cases h;rfl|x::r,is,h=>by
  cases x with
  |int i=>
   cases e:aJ r with
   |none=>rw[show aJ (D.int i::r)=(aJ r).map (i::·) from rfl,e]at h;cases h|some js=>
    rw[show aJ (D.int i::r)=(aJ r).map (i::·) from rfl,e]at h;cases h;rw[Ft e];rfl
  |_=>cases h
theorem zmj{n:Int}{xs:List D}(h:xs.all (G4 0 (n-1))=true):∃is:List Int,xs=is.map D.int/\∀i∈is,0<=i/\i<n:=by
 induction xs with
 |nil=>show⟨[],rfl,λi hi=>by cases hi⟩|cons x r ih=>
  rw[xQ,dZ]at h;let⟨is,rfl,hi⟩:=ih h.2;cases x with
  |int i=>
   let:0<=i/\i<=n-1:=fj h.1;show⟨i::is,rfl,λj hj=>?_⟩;rcases cX.mp hj with rfl|hj
   .lia
   .exact hi j hj
  |_=>cases h.1
theorem zlr{n:Int}{is:List Int}(h:(is.map D.int).all (G4 0 (n-1))=false):¬∀i∈is,0<=i/\i<n:=λz=>by
 rw[Rr]at h;let⟨x,hx,hn⟩:=h;let⟨i,hi,rfl⟩:=cW.mp hx;let:=z i hi;show hn (cO (show 0<=i/\i<=n-1 by lia))
theorem zlG{xs:List D}(h:xs.all LC=true):∃is,aJ xs=some is:=by
 induction xs with
 |nil=>show⟨[],rfl⟩|cons x r ih=>
  rw[xQ,dZ]at h;let⟨is,e⟩:=ih h.2;cases x with
  |int i=>show⟨i::is,by change (aJ r).map (i::·)=_;rw[e];rfl⟩|_=>cases h.1
theorem zma{xs:List D}(h:xs.all LC=false):aJ xs=none:=by
 cases e:aJ xs with
 |none=>rfl|some is=>
  rw[Ft e,Rr]at h;let⟨x,hx,hn⟩:=h;let⟨i,_,rfl⟩:=cW.mp hx;show absurd rfl hn
theorem zkg{α:Type}(xs:List α)(j:Nat):cut xs none (some (j:Int))=xs.take j:=by
 unfold cut HT.bR;simp only[List.drop_zero,Nat.sub_zero];rw[show (if (j:Int)<0 then _ else _)=min j xs.length from ?_]
 .rw[<-List.take_take,Ad]
 .rw[if_neg gV]
  lia
section
variable {ao:Nat->Nat->Bool}{aj:Bool}{F:Fn}{J:Vs}{s:S}{P:Xv->S->Prop}
theorem KaC{j:Nat}{xs:List D}(e:J[j]?.join=some (.d (.tup xs)))(h:P (.d (.int (xs.length:Nat))) s):W (ev ao aj F (.pr true .len (Ea (.v j))) J) s P:=
 Le (GK (W.eV e (Qc (GJ (GF (P_ (bI rfl h)))))))
end
end Mi
namespace gj
open PySem Mi
noncomputable def b0:b_:=(.cons (.ret (.and (.iy (.v 0) .int) (.not (.iy (.v 0) .bool)))) .nil)
noncomputable def b1:b_:=(.cons (.ret (.and (.call 0 (Ea (.v 0))) (.yC .le .le (.v 1) (.v 0) (.v 2)))) .nil)
noncomputable def b2:b_:=(.cons (.ret (.and (.iy (.v 0) .tuple) (.pr true .eq (Eb (.pr true .len (Ea (.v 0))) (.v 1))))) .nil)
noncomputable def b3:b_:=(.cons (.iff (.not (.call 2 (Eb (.v 0) (Ci 2)))) (.cons (.ret (.c (.bl false))) .nil) .nil) (.cons (.asg (.tp [1,2]) (.v 0)) (.cons (.ret (.and (.call 1 (Ec (.v 1) (Ci 1) (Ci 24))) (.call 1 (Ec (.v 2) (Ci 1) (.v 1))))) .nil)))
noncomputable def b4:b_:=(.cons (.ret (.call 1 (Ec (.v 1) (Ci 0) (.pr true .ao (Eb (Ei (.v 0) (Ci 0)) (Ci 1)))))) .nil)
noncomputable def b5:b_:=(.cons (.iff (.not (.call 3 (Ea (.v 0)))) (.cons .no .nil) .nil) .nil)
noncomputable def b6:b_:=(.cons (.asg (.nm 3) (.pr true .abs (Ea (.pr true .ao (Eb (.v 1) (.v 2)))))) (.cons (.ret (.pr true .min2 (Eb (.v 3) (.pr true .ao (Eb (Ei (.v 0) (Ci 0)) (.v 3)))))) .nil))
noncomputable def b7:b_:=(.cons (.iff (.not (.call 2 (Eb (.v 0) (Ci 2)))) (.cons (.ret (.c (.bl false))) .nil) .nil) (.cons (.asg (.tp [1,2]) (.v 0)) (.cons (.iff (.or (.not (.call 8 (Ea (.v 1)))) (.not (.iy (.v 2) .tuple))) (.cons (.ret (.c (.bl false))) .nil) .nil) (.cons (.iff (.not (.pr true .all (Ea (.comp true (.call 10 (Eb (.v 1) (.v 0))) [0] (.seq (.v 2)) [1] 1 .no)))) (.cons (.ret (.c (.bl false))) .nil) .nil) (.cons (.ret (.pr true .all (Ea (.comp true (.pr true .lt (Eb (.v 0) (.v 1))) [0,1] (.zip (.v 2) (.sl true (.v 2) (.yes (Ci 1)) .no)) [] 2 .no)))) .nil)))))
noncomputable def b8:b_:=(.cons (.ret (.call 1 (Ec (.v 0) (Ci 1) (Ci 8)))) .nil)
noncomputable def b9:b_:=(.cons (.ret (.call 1 (Ec (.v 1) (Ci 0) (.pr true .ao (Eb (.v 0) (Ci 1)))))) .nil)
noncomputable def b10:b_:=(.cons (.iff (.not (.call 2 (Eb (.v 1) (Ci 2)))) (.cons (.ret (.c (.bl false))) .nil) .nil) (.cons (.asg (.tp [2,3]) (.v 1)) (.cons (.ret (.and (.call 9 (Eb (.v 0) (.v 2))) (.and (.call 9 (Eb (.v 0) (.v 3))) (.pr true .lt (Eb (.v 2) (.v 3)))))) .nil)))
noncomputable def WT:b_:=(.cons (.iff (.not (.call 7 (Ea (.v 0)))) (.cons .no .nil) .nil) .nil)
noncomputable def WW:b_:=(.cons (.asg (.nm 2) (.comp true (.ite (.pr true .eq (Eb (.v 0) (.v 2))) (.v 1) (.v 0)) [0,1] (.seq (Ei (.v 0) (Ci 1))) [1] 2 (.yes (.pr true .inn (Eb (.v 2) (.tup (Eb (.v 0) (.v 1)))))))) (.cons (.ret (.pr true .tuple (Ea (.pr true .sorted (Ea (.v 2)))))) .nil))
noncomputable def WX:b_:=(.cons (.ret (.comp true (.call 12 (Eb (.v 1) (.v 0))) [0] (.rg (Ci 0) (Ei (.v 0) (Ci 0))) [0] 1 .no)) .nil)
noncomputable def WY:b_:=(.cons (.ret (.and (.call 2 (Eb (.v 2) (Ei (.v 0) (Ci 0)))) (.pr true .all (Ea (.comp true (.call 4 (Eb (.v 1) (.v 0))) [0] (.seq (.v 2)) [1] 1 .no))))) .nil)
noncomputable def W0:b_:=(.cons (.ret (.and (.call 14 (Ec (.v 0) (.v 1) (.v 2))) (.pr true .J1 (Ea (.call 17 (Ec (.v 0) (.v 1) (.v 2))))))) .nil)
noncomputable def W2:b_:=(.cons (.ex (.call 11 (Ea (.v 0)))) (.cons (.ex (.call 5 (Ea (.v 1)))) (.cons (.iff (.not (.call 15 (Ec (.v 0) (.v 1) (.v 2)))) (.cons .no .nil) .nil) .nil)))
noncomputable def W3:b_:=(.cons (.fr (.tp [3,4]) (.seq (Ei (.v 0) (Ci 1))) (.cons (.iff (.pr true .lt (Eb (.call 6 (Ec (.v 1) (Ei (.v 2) (.v 3)) (Ei (.v 2) (.v 4)))) (Ei (.v 1) (Ci 1)))) (.cons (.ret (.tup (Eb (.v 3) (.v 4)))) .nil) .nil) .nil)) (.cons (.ret (.c .non)) .nil))
noncomputable def W4:b_:=(.cons (.ex (.call 16 (Ec (.v 0) (.v 1) (.v 2)))) (.cons (.ret (.call 21 (Eb (.call 20 (Ec (.v 0) (.v 1) (.v 2))) (.v 3)))) .nil))
noncomputable def Qt:b_:=(.cons (.iff (.not (.call 18 (.cons (.v 0) (Ec (.v 1) (.v 2) (.v 3))))) (.cons (.rise 6 false (Ea (.c (.str "no full round of the hues")))) .nil) .nil) (.cons (.ret (.pr true .fdiv (Eb (.pr true .mul (Eb (.pr true .len (Ea (.v 3))) (Ei (.v 1) (Ci 1)))) (Ei (.v 1) (Ci 0))))) .nil))
noncomputable def W5:b_:=(.cons (.asg (.tp [3,4]) (.v 1)) (.cons (.asg (.nm 5) (.lst false .nil)) (.cons (.fr (.tp [6,7]) (.enum (.call 13 (Ea (.v 0)))) (.cons (.asg (.nm 8) (.pr true .mod (Eb (.pr true .add (Eb (Ei (.v 2) (.v 6)) (.v 4))) (.v 3)))) (.cons (.ex (.push (.v 5) (.pr true .tuple (Ea (.comp true (.v 0) [0] (.seq (.v 7)) [2,8] 1 (.yes (.pr true .eq (Eb (Ei (.v 1) (.v 0)) (.v 2))))))))) .nil))) (.cons (.ret (.v 5)) .nil))))
noncomputable def W6:b_:=(.cons (.iff (.or (.not (.iy (.v 1) .tuple)) (.pr true .eq (Eb (.v 1) (.tup .nil)))) (.cons (.ret (.c (.bl false))) .nil) .nil) (.cons (.iff (.not (.pr true .all (Ea (.comp true (.call 9 (Eb (.pr true .len (Ea (.v 1))) (.v 0))) [0] (.seq (.v 1)) [0] 1 .no)))) (.cons (.ret (.c (.bl false))) .nil) .nil) (.cons (.iff (.or (.pr true .lt (Eb (.pr true .gw (Ea (.v 1))) (.pr true .len (Ea (.v 1))))) (.pr true .ne (Eb (Ei (.v 1) (Ci 0)) (.pr true .rM (Ea (.v 1)))))) (.cons (.ret (.c (.bl false))) .nil) .nil) (.cons (.ret (.pr true .all (Ea (.comp true (.pr true .inn (Eb (.v 1) (Ei (.v 2) (.v 0)))) [0,1] (.seq (.call 22 (Ea (.v 1)))) [0] 2 .no)))) .nil))))
noncomputable def W7:b_:=(.cons (.ret (.pr true .uO (Eb (.v 0) (.pr true .add (Eb (.sl true (.v 0) (.yes (Ci 1)) .no) (.sl true (.v 0) .no (.yes (Ci 1)))))))) .nil)
noncomputable def b23:b_:=(.cons (.asg (.nm 1) (.lst true (.cons (.iy (.v 0) (.cls 1)) (Ec (.iy (.v 0) (.cls 2)) (.iy (.v 0) (.cls 3)) (.iy (.v 0) (.cls 4)))))) (.cons (.asg (.nm 1) (.pr true .add (Eb (.v 1) (.lst true (.cons (.iy (.v 0) (.cls 5)) (Ec (.iy (.v 0) (.cls 6)) (.iy (.v 0) (.cls 7)) (.iy (.v 0) (.cls 8)))))))) (.cons (.asg (.nm 1) (.pr true .add (Eb (.v 1) (.lst true (Ec (.iy (.v 0) (.cls 9)) (.iy (.v 0) (.cls 10)) (.iy (.v 0) (.cls 11))))))) (.cons (.iff (.or (.not (.iy (.v 0) .pQ)) (.pr true .ne (Eb (.meth true .count .list (.v 1) (Ea (.c (.bl true)))) (Ci 1)))) (.cons (.ret (.c (.str "other"))) .nil) .nil) (.cons (.asg (.nm 2) (.lst true (.cons (.c (.str "ring")) (.cons (.c (.str "hues")) (.cons (.c (.str "place")) (.cons (.c (.str "arrows")) (.cons (.c (.str "map")) (.cons (.c (.str "paper")) (.cons (.c (.str "apart")) (.cons (.c (.str "row")) (Ec (.c (.str "web")) (.c (.str "text")) (.c (.str "great"))))))))))))) (.cons (.ret (Ei (.v 2) (.meth true .index .list (.v 1) (Ea (.c (.bl true)))))) .nil))))))
noncomputable def W8:b_:=(.cons (.asg (.nm 1) (.lst true (.cons (.c .non) (.cons (.c (.bl true)) (.cons (.c (.bl false)) (.cons (.pr true .neg (Ea (Ci 1))) (.cons (.c (.str "1")) (.cons (.c (.str "")) (.cons (.tup .nil) (.cons (.lst true .nil) (.cons (.tup (Ea (Ci 0))) (.cons (.lst true (Ea (Ci 0))) (.cons (.uP "a" 1) (.cons (.tup (Eb (Ci 0) (Ci 1))) (Ec (.pr true .pow (Eb (Ci 10) (Ci 30))) (.tup (Eb (Ci 0) (.tup .nil))) (.tup (Ea (.c (.str "ab"))))))))))))))))))) (.cons (.ret (Ei (.pr true .add (Eb (.v 1) (.lst true (Ea (.tup (Eb (Ci 1) (.tup (Ea (.tup (Eb (Ci 0) (Ci 0))))))))))) (.call 27 (Eb (.v 0) (Ci 16))))) .nil))
noncomputable def W9:b_:=(.cons (.iff (.pr true .lt (Eb (.v 1) (.pr true .len (Ea (.v 0))))) (.cons (.ret (Ei (.v 0) (.v 1))) .nil) .nil) (.cons (.ret (Ci 0)) .nil))
noncomputable def W_:b_:=(.cons (.asg (.nm 1) (.pr true .max2 (Eb (.v 0) (.pr true .ao (Eb (Ci 0) (.v 0)))))) (.cons (.ret (.lst false (Eb (.v 1) (.pr true .yF (Ea (.pr true .ge (Eb (.v 1) (.pr true .pow (Eb (Ci 10) (Ci 18)))))))))) .nil))
noncomputable def Xa:b_:=(.cons (.iff (.pr true .eq (Eb (Ei (.v 0) (Ci 1)) (Ci 1))) (.cons (.asg (.tp [2,3]) (.pr true .divmod (Eb (Ei (.v 0) (Ci 0)) (.v 1)))) (.cons (.asg (.ao (.v 0) (Ci 0)) (.v 2)) (.cons (.ret (.v 3)) .nil))) .nil) (.cons (.asg (.nm 4) (.pr true .mod (Eb (.pr true .mul (Eb (.pr true .add (Eb (.pr true .mod (Eb (Ei (.v 0) (Ci 0)) (Ci 2147483647))) (Ci 40503))) (Ci 69621))) (Ci 2147483629)))) (.cons (.asg (.nm 4) (.pr true .mod (Eb (.pr true .add (Eb (.pr true .mul (Eb (.v 4) (.v 4))) (Ci 7817))) (Ci 2147483587)))) (.cons (.asg (.ao (.v 0) (Ci 0)) (.pr true .mod (Eb (.pr true .add (Eb (.pr true .mul (Eb (.v 4) (Ci 48271))) (Ci 11))) (Ci 2147483629)))) (.cons (.ret (.pr true .mod (Eb (.pr true .fdiv (Eb (Ei (.v 0) (Ci 0)) (Ci 32))) (.v 1)))) .nil)))))
noncomputable def b28:b_:=(.cons (.ret (.and (.iy (.v 0) .int) (.not (.iy (.v 0) .bool)))) .nil)
noncomputable def Xb:b_:=(.cons (.asg (.nm 2) (Ei (.lst true (Ec (Ci 2) (Ci 4) (Ci 6))) (.call 27 (Eb (.v 0) (Ci 3))))) (.cons (.asg (.nm 3) (.lst true .nil)) (.cons (.fr (.nm 4) (.rg (Ci 0) (.v 1)) (.cons (.asg (.nm 3) (.pr true .add (Eb (.v 3) (.comp true (.tup (Eb (.v 1) (.v 0))) [0] (.rg (.pr true .add (Eb (.v 4) (Ci 1))) (.v 1)) [4,0,2] 1 (.yes (.pr true .lt (Eb (.call 27 (Eb (.v 2) (Ci 8))) (.v 3)))))))) .nil)) (.cons (.ret (.tup (Eb (.v 1) (.pr true .tuple (Ea (.v 3)))))) .nil))))
noncomputable def b30:b_:=(.cons (.asg (.nm 3) (.pr true .abs (Ea (.pr true .ao (Eb (.v 1) (.v 2)))))) (.cons (.ret (.pr true .min2 (Eb (.v 3) (.pr true .ao (Eb (.v 0) (.v 3)))))) .nil))
noncomputable def Xc:b_:=(.cons (.ret (.pr true .eq (Eb (.comp true (.v 0) [0] (.seq (Ei (.v 0) (Ci 1))) [1,2] 1 (.yes (.pr true .lt (Eb (.call 30 (Ec (Ei (.v 1) (Ci 0)) (Ei (.v 2) (Ei (.v 0) (Ci 0))) (Ei (.v 2) (Ei (.v 0) (Ci 1))))) (Ei (.v 1) (Ci 1)))))) (.lst true .nil)))) .nil)
noncomputable def Xd:b_:=(.cons (.iff (.and (.pr true .ne (Eb (Ei (.v 0) (Ci 1)) (.tup .nil))) (.pr true .lt (Eb (Ei (.v 1) (Ci 0)) (.pr true .mul (Eb (Ci 2) (Ei (.v 1) (Ci 1))))))) (.cons (.ret (.c .non)) .nil) .nil) (.cons (.asg (.nm 2) (.lst true .nil)) (.cons (.fr (.tp [3,4]) (.seq (Ei (.v 0) (Ci 1))) (.cons (.asg (.nm 5) (.comp true (.v 0) [0] (.rg (Ci 0) (Ei (.v 0) (Ci 0))) [3,0,4] 1 (.yes (.and (.pr true .inn (Eb (.tup (Eb (.v 1) (.v 0))) (Ei (.v 2) (Ci 1)))) (.pr true .inn (Eb (.tup (Eb (.v 3) (.v 0))) (Ei (.v 2) (Ci 1)))))))) (.cons (.asg (.nm 2) (.pr true .add (Eb (.v 2) (.v 5)))) .nil))) (.cons (.iff (.and (.pr true .ne (Eb (.v 2) (.lst true .nil))) (.pr true .lt (Eb (Ei (.v 1) (Ci 0)) (.pr true .mul (Eb (Ci 3) (Ei (.v 1) (Ci 1))))))) (.cons (.ret (.c .non)) .nil) .nil) (.cons (.asg (.nm 6) (.comp true (.v 0) [0] (.rg (Ci 0) (Ei (.v 0) (Ci 0))) [0] 1 (.yes (.pr true .eq (Eb (.comp true (.v 0) [0] (.seq (Ei (.v 1) (Ci 1))) [0] 1 (.yes (.pr true .inn (Eb (.v 1) (.v 0))))) (.lst true .nil)))))) (.cons (.asg (.nm 7) (.lst false (Ea (Ci 0)))) (.cons (.wh (.pr true .eq (Eb (Ei (.v 7) (Ci 0)) (Ci 0))) (.cons (.iff (.or (.pr true .eq (Eb (Ei (.v 7) (.pr true .neg (Ea (Ci 1)))) (Ei (.v 1) (Ci 0)))) (.and (.pr true .gt (Eb (Ei (.v 7) (.pr true .neg (Ea (Ci 1)))) (Ci 0))) (.pr true .inn (Eb (.pr true .ao (Eb (.pr true .len (Ea (.v 7))) (Ci 1))) (.v 6))))) (.cons (.ex (.pop (.v 7))) (.cons (.iff (.pr true .eq (Eb (.v 7) (.lst true .nil))) (.cons (.ret (.c .non)) .nil) .nil) (.cons (.asg (.ao (.v 7) (.pr true .neg (Ea (Ci 1)))) (.pr true .add (Eb (Ei (.v 7) (.pr true .neg (Ea (Ci 1)))) (Ci 1)))) .nil))) (.cons (.asg (.nm 8) (.comp true (.v 0) [0] (.seq (Ei (.v 0) (Ci 1))) [7] 1 (.yes (.pr true .eq (Eb (Ei (.v 0) (Ci 1)) (.pr true .ao (Eb (.pr true .len (Ea (.v 1))) (Ci 1)))))))) (.cons (.asg (.nm 9) (.comp true (.v 0) [0] (.seq (.v 8)) [1,7] 1 (.yes (.pr true .lt (Eb (.call 30 (Ec (Ei (.v 1) (Ci 0)) (Ei (.v 2) (Ei (.v 0) (Ci 0))) (Ei (.v 2) (.pr true .neg (Ea (Ci 1)))))) (Ei (.v 1) (Ci 1))))))) (.cons (.iff (.pr true .ne (Eb (.v 9) (.lst true .nil))) (.cons (.asg (.ao (.v 7) (.pr true .neg (Ea (Ci 1)))) (.pr true .add (Eb (Ei (.v 7) (.pr true .neg (Ea (Ci 1)))) (Ci 1)))) .nil) (.cons (.iff (.pr true .eq (Eb (.pr true .len (Ea (.v 7))) (Ei (.v 0) (Ci 0)))) (.cons (.ret (.pr true .tuple (Ea (.v 7)))) .nil) (.cons (.ex (.push (.v 7) (Ci 0))) .nil)) .nil)) .nil)))) .nil)) (.cons (.ret (.c .non)) .nil))))))))
noncomputable def Xe:b_:=(.cons (.fr (.nm 2) (.seq (.lst true (.cons (.tup (Eb (Ci 2) (Ci 1))) (.cons (.tup (Eb (Ci 5) (Ci 2))) (.cons (.tup (Eb (Ci 7) (Ci 3))) (.cons (.tup (Eb (Ci 3) (Ci 1))) (.cons (.tup (Eb (Ci 7) (Ci 2))) (.cons (.tup (Eb (Ci 4) (Ci 1))) (Ec (.tup (Eb (Ci 9) (Ci 2))) (.tup (Eb (Ci 5) (Ci 1))) (.tup (Eb (Ci 6) (Ci 1)))))))))))) (.cons (.iff (.pr true .J3 (Ea (.call 32 (Eb (.v 1) (.v 2))))) (.cons (.ret (.ite (.pr true .gt (Eb (.call 27 (Eb (.v 0) (Ci 4))) (Ci 0))) (.v 2) (.tup (Eb (.pr true .mul (Eb (Ci 2) (Ei (.v 2) (Ci 0)))) (.pr true .mul (Eb (Ci 2) (Ei (.v 2) (Ci 1)))))))) .nil) .nil) .nil)) (.cons (.ret (.tup (Eb (.pr true .max2 (Eb (Ci 2) (Ei (.v 1) (Ci 0)))) (Ci 1)))) .nil))
noncomputable def Xf:b_:=(.cons (.ret (Ei (.lst true (.cons (Ci 1) (.cons (Ci 2) (.cons (Ci 3) (.cons (Ci 4) (.cons (Ci 4) (.cons (Ci 5) (.cons (Ci 5) (Ec (Ci 3) (Ci 6) (Ci 4)))))))))) (.call 27 (Eb (.v 0) (Ci 10))))) .nil)
noncomputable def Xg:b_:=(.cons (.asg (.nm 3) (.call 32 (Eb (.v 1) (.v 2)))) (.cons (.fr (.nm 4) (.rg (Ci 0) (.pr true .mul (Eb (Ci 2) (Ei (.v 1) (Ci 0))))) (.cons (.asg (.nm 5) (.call 27 (Eb (.v 0) (Ei (.v 1) (Ci 0))))) (.cons (.asg (.nm 6) (.pr true .add (Eb (.pr true .add (Eb (.sl true (.v 3) .no (.yes (.v 5))) (.tup (Ea (.call 27 (Eb (.v 0) (Ei (.v 2) (Ci 0)))))))) (.sl true (.v 3) (.yes (.pr true .add (Eb (.v 5) (Ci 1)))) .no)))) (.cons (.iff (.call 31 (Ec (.v 1) (.v 2) (.v 6))) (.cons (.asg (.nm 3) (.v 6)) .nil) .nil) .nil)))) (.cons (.ret (.v 3)) .nil)))
noncomputable def Xh:b_:=(.cons (.iff (.pr true .nin (Eb (.tup (Eb (.pr true .min2 (Eb (.v 3) (.v 4))) (.pr true .max2 (Eb (.v 3) (.v 4))))) (Ei (.v 0) (Ci 1)))) (.cons (.ret (.c (.bl false))) .nil) .nil) (.cons (.ret (.pr true .eq (Eb (.pr true .mod (Eb (.pr true .ao (Eb (.pr true .add (Eb (Ei (.v 2) (.v 3)) (Ei (.v 1) (Ci 1)))) (Ei (.v 2) (.v 4)))) (Ei (.v 1) (Ci 0)))) (Ci 0)))) .nil))
noncomputable def Xi:b_:=(.cons (.asg (.nm 3) (.lst true .nil)) (.cons (.asg (.nm 4) (.comp true (.tup (Ea (.v 0))) [0] (.rg (Ci 0) (Ei (.v 0) (Ci 0))) [] 1 .no)) (.cons (.wh (.pr true .ne (Eb (.v 4) (.lst true .nil))) (.cons (.asg (.nm 5) (.lst false .nil)) (.cons (.fr (.nm 6) (.seq (.v 4)) (.cons (.fr (.nm 7) (.rg (.pr true .add (Eb (Ei (.v 6) (Ci 0)) (Ci 1))) (Ei (.v 0) (Ci 0))) (.cons (.iff (.and (.pr true .nin (Eb (.v 7) (.v 6))) (.call 36 (.cons (.v 0) (.cons (.v 1) (Ec (.v 2) (Ei (.v 6) (.pr true .neg (Ea (Ci 1)))) (.v 7)))))) (.cons (.ex (.push (.v 5) (.pr true .add (Eb (.v 6) (.tup (Ea (.v 7))))))) .nil) .nil) .nil)) .nil)) (.cons (.asg (.nm 3) (.pr true .add (Eb (.v 3) (.comp true (.v 0) [0] (.seq (.v 5)) [0,1,2] 1 (.yes (.call 36 (.cons (.v 1) (.cons (.v 2) (Ec (.v 3) (Ei (.v 0) (.pr true .neg (Ea (Ci 1)))) (Ei (.v 0) (Ci 0))))))))))) (.cons (.asg (.nm 4) (.v 5)) .nil))))) (.cons (.ret (.pr true .sorted (Ea (.v 3)))) .nil))))
noncomputable def Xj:b_:=(.cons (.asg (.nm 3) (.call 27 (Eb (.v 0) (.pr true .add (Eb (.pr true .len (Ea (.v 1))) (Ci 1)))))) (.cons (.asg (.nm 4) (Ei (.lst true (.cons (.c (.bl true)) (.cons (.c (.bl false)) (.cons (.c .non) (.cons (.pr true .neg (Ea (Ci 1))) (.cons (.v 2) (Ec (.c (.str "0")) (.tup (Ea (Ci 0))) (.call 27 (Eb (.v 0) (.v 2)))))))))) (.call 27 (Eb (.v 0) (Ci 8))))) (.cons (.asg (.nm 5) (.lst true (.cons (.pr true .add (Eb (.pr true .add (Eb (.sl true (.v 1) .no (.yes (.v 3))) (.tup (Ea (.v 4))))) (.sl true (.v 1) (.yes (.pr true .add (Eb (.v 3) (Ci 1)))) .no))) (.cons (.pr true .add (Eb (.sl true (.v 1) .no (.yes (.v 3))) (.sl true (.v 1) (.yes (.pr true .add (Eb (.v 3) (Ci 1)))) .no))) (.cons (.pr true .add (Eb (.v 1) (.tup (Ea (Ci 0))))) (Ec (.pr true .list (Ea (.v 1))) (.c .non) (.tup (Ea (.v 1))))))))) (.cons (.ret (Ei (.v 5) (Ei (.lst true (.cons (Ci 0) (.cons (Ci 0) (.cons (Ci 0) (.cons (Ci 0) (.cons (Ci 1) (.cons (Ci 2) (Ec (Ci 3) (Ci 4) (Ci 5))))))))) (.call 27 (Eb (.v 0) (Ci 9)))))) .nil))))
noncomputable def Xk:b_:=(.cons (.iff (.or (.not (.iy (.v 3) .tuple)) (.or (.pr true .lt (Eb (.pr true .len (Ea (.v 3))) (Ci 2))) (.not (.pr true .all (Ea (.comp true (.call 28 (Ea (.v 0))) [0] (.seq (.v 3)) [] 1 .no)))))) (.cons (.ret (.c (.bl false))) .nil) .nil) (.cons (.iff (.or (.pr true .ne (Eb (.comp true (.v 0) [0] (.seq (.v 3)) [0] 1 (.yes (.pr true .Pq (Eb (.v 0) (Ei (.v 1) (Ci 0)))))) (.lst true .nil))) (.pr true .ne (Eb (.pr true .gw (Ea (.v 3))) (.pr true .len (Ea (.v 3)))))) (.cons (.ret (.c (.bl false))) .nil) .nil) (.cons (.iff (.pr true .ne (Eb (Ei (.v 3) (Ci 0)) (.pr true .rM (Ea (.v 3))))) (.cons (.ret (.c (.bl false))) .nil) .nil) (.cons (.ret (.pr true .all (Ea (.comp true (.call 36 (.cons (.v 2) (.cons (.v 3) (Ec (.v 4) (.v 0) (.v 1))))) [0,1] (.zip (.v 3) (.pr true .add (Eb (.sl true (.v 3) (.yes (Ci 1)) .no) (.sl true (.v 3) .no (.yes (Ci 1)))))) [0,1,2] 2 .no)))) .nil))))
noncomputable def Qu:b_:=(.cons (.rN (.cons (.ret (.call 19 (.cons (.v 0) (Ec (.v 1) (.v 2) (.v 3))))) .nil) 0 4 (.cons (.ret (.call 23 (Ea (.v 4)))) .nil)) .nil)
noncomputable def Xl:b_:=(.cons (.asg (.nm 4) (.pr true .repr (Ea (.v 3)))) (.cons (.asg (.nm 5) (.call 39 (.cons (.v 0) (Ec (.v 1) (.v 2) (.v 3))))) (.cons (.fr (.nm 6) (.rg (Ci 0) (Ci 2)) (.cons (.asg (.nm 7) (.call 18 (.cons (.v 0) (Ec (.v 1) (.v 2) (.v 3))))) (.cons (.iff (.or (.not (.iy (.v 7) .bool)) (.pr true .ne (Eb (.v 7) (.v 5)))) (.cons (.ret (.c (.bl false))) .nil) .nil) .nil))) (.cons (.asg (.nm 8) (.call 40 (.cons (.v 0) (Ec (.v 1) (.v 2) (.v 3))))) (.cons (.iff (.not (.v 5)) (.cons (.ret (.and (.pr true .eq (Eb (.v 8) (.c (.str "paper")))) (.pr true .eq (Eb (.pr true .repr (Ea (.v 3))) (.v 4))))) .nil) .nil) (.cons (.asg (.nm 9) (.pr true .sum (Ea (.comp true (.pr true .mod (Eb (.pr true .ao (Eb (Ei (.v 2) (.v 1)) (Ei (.v 2) (.v 0)))) (Ei (.v 3) (Ci 0)))) [0,1] (.zip (.v 3) (.pr true .add (Eb (.sl true (.v 3) (.yes (Ci 1)) .no) (.sl true (.v 3) .no (.yes (Ci 1)))))) [2,1] 2 .no)))) (.cons (.ret (.and (.call 28 (Ea (.v 8))) (.and (.pr true .eq (Eb (.pr true .mul (Eb (.v 8) (Ei (.v 1) (Ci 0)))) (.v 9))) (.pr true .eq (Eb (.pr true .repr (Ea (.v 3))) (.v 4)))))) .nil)))))))
noncomputable def Xm:b_:=(.cons (.fr (.nm 1) (.seq (.lst true (.cons (.tup (Eb (Ci 0) (Ci 1))) (.cons (.tup (Eb (Ci 1) (Ci 0))) (.cons (.tup (Ea (Ci 0))) (.cons (.tup (Eb (Ci 0) (.c (.bl true)))) (.cons (.lst true (Eb (Ci 0) (Ci 1))) (Ec (.c .non) (.tup (Eb (Ci 0) (Ci 0))) (.tup (Ec (Ci 0) (Ci 1) (Ci 0))))))))))) (.cons (.iff (.not (.call 41 (.cons (.tup (Eb (Ci 2) (.tup (Ea (.tup (Eb (Ci 0) (Ci 1))))))) (Ec (.tup (Eb (Ci 2) (Ci 1))) (.tup (Eb (Ci 0) (Ci 1))) (.v 1))))) (.cons (.ret (.c (.bl false))) .nil) .nil) .nil)) (.cons (.fr (.nm 2) (.seq (.pr true .add (Eb (.lst true (Ea (.call 25 (Eb (.v 0) (Ci 0))))) (.sl true (.v 0) (.yes (Ci 1)) (.yes (Ci 4)))))) (.cons (.asg (.nm 3) (.call 26 (Ea (.v 2)))) (.cons (.asg (.nm 4) (.call 29 (Eb (.v 3) (.call 34 (Ea (.v 3)))))) (.cons (.asg (.nm 5) (.call 33 (Eb (.v 3) (.v 4)))) (.cons (.asg (.nm 6) (.call 35 (Ec (.v 3) (.v 4) (.v 5)))) (.cons (.asg (.nm 7) (.sl true (.call 37 (Ec (.v 4) (.v 5) (.v 6))) .no (.yes (Ci 3)))) (.cons (.asg (.nm 8) (.pr true .add (Eb (.pr true .add (Eb (.v 7) (.comp true (.pr true .add (Eb (.sl true (.v 0) (.yes (Ci 1)) .no) (.sl true (.v 0) .no (.yes (Ci 1))))) [0] (.seq (.v 7)) [] 1 .no))) (.comp true (.pr true .add (Eb (.sl true (.v 0) .no (.yes (Ci 1))) (.pr true .rev (Ea (.sl true (.v 0) (.yes (Ci 1)) .no))))) [0] (.seq (.v 7)) [] 1 .no)))) (.cons (.asg (.nm 9) (.pr true .tuple (Ea (.comp true (.call 27 (Eb (.v 1) (Ei (.v 2) (Ci 0)))) [0] (.rg (Ci 0) (Ci 3)) [3,4] 1 .no)))) (.cons (.asg (.nm 10) (Ei (.pr true .add (Eb (.v 7) (.lst true (Ea (.v 9))))) (.call 27 (Eb (.v 3) (.pr true .add (Eb (.pr true .len (Ea (.v 7))) (Ci 1))))))) (.cons (.asg (.nm 8) (.pr true .add (Eb (.pr true .add (Eb (.v 8) (.lst true (Eb (.v 9) (.call 24 (Ea (.v 3))))))) (.comp true (.call 38 (Ec (.v 1) (.v 2) (Ei (.v 3) (Ci 0)))) [0] (.rg (Ci 0) (Ci 4)) [3,10,4] 1 .no)))) (.cons (.iff (.not (.pr true .all (Ea (.comp true (.call 41 (.cons (.v 1) (Ec (.v 2) (.v 3) (.v 0)))) [0] (.seq (.v 8)) [4,5,6] 1 .no)))) (.cons (.ret (.c (.bl false))) .nil) .nil) .nil))))))))))) (.cons (.ret (.c (.bl true))) .nil)))
noncomputable def T(n:Nat):Option Df:=([⟨1,1,b0⟩,⟨3,3,b1⟩,⟨2,2,b2⟩,⟨3,1,b3⟩,⟨2,2,b4⟩,⟨1,1,b5⟩,⟨4,3,b6⟩,⟨3,1,b7⟩,⟨1,1,b8⟩,⟨2,2,b9⟩,⟨4,2,b10⟩,⟨1,1,WT⟩,⟨3,2,WW⟩,⟨1,1,WX⟩,⟨3,3,WY⟩,⟨3,3,W0⟩,⟨3,3,W2⟩,⟨5,3,W3⟩,⟨4,4,W4⟩,⟨4,4,Qt⟩,⟨9,3,W5⟩,⟨2,2,W6⟩,⟨1,1,W7⟩,⟨3,1,b23⟩,⟨2,1,W8⟩,⟨2,2,W9⟩,⟨2,1,W_⟩,⟨5,2,Xa⟩,⟨1,1,b28⟩,⟨5,2,Xb⟩,⟨4,3,b30⟩,⟨3,3,Xc⟩,⟨10,2,Xd⟩,⟨3,2,Xe⟩,⟨1,1,Xf⟩,⟨7,3,Xg⟩,⟨5,5,Xh⟩,⟨8,3,Xi⟩,⟨6,3,Xj⟩,⟨4,4,Xk⟩,⟨5,4,Qu⟩,⟨10,4,Xl⟩,⟨11,1,Xm⟩]:List Df)[n]?
theorem T_0:T 0=some ⟨1,1,b0⟩:=rfl
theorem T_1:T 1=some ⟨3,3,b1⟩:=rfl
theorem T_2:T 2=some ⟨2,2,b2⟩:=rfl
theorem T_3:T 3=some ⟨3,1,b3⟩:=rfl
theorem T_4:T 4=some ⟨2,2,b4⟩:=rfl
theorem T_5:T 5=some ⟨1,1,b5⟩:=rfl
theorem T_6:T 6=some ⟨4,3,b6⟩:=rfl
theorem T_7:T 7=some ⟨3,1,b7⟩:=rfl
theorem T_8:T 8=some ⟨1,1,b8⟩:=rfl
theorem Xn:T 9=some ⟨2,2,b9⟩:=rfl
theorem zo1:T 10=some ⟨4,2,b10⟩:=rfl
theorem zoZ:T 11=some ⟨1,1,WT⟩:=rfl
theorem zpr:T 12=some ⟨3,2,WW⟩:=rfl
theorem zoT:T 13=some ⟨1,1,WX⟩:=rfl
theorem zpj:T 14=some ⟨3,3,WY⟩:=rfl
theorem zoS:T 15=some ⟨3,3,W0⟩:=rfl
theorem zpf:T 16=some ⟨3,3,W2⟩:=rfl
theorem zo9:T 17=some ⟨5,3,W3⟩:=rfl
theorem zph:T 18=some ⟨4,4,W4⟩:=rfl
theorem Xo:T 19=some ⟨4,4,Qt⟩:=rfl
theorem zoR:T 20=some ⟨9,3,W5⟩:=rfl
theorem zoU:T 21=some ⟨2,2,W6⟩:=rfl
theorem zoX:T 22=some ⟨1,1,W7⟩:=rfl
theorem zpt:T 23=some ⟨3,1,b23⟩:=rfl
theorem zpe:T 24=some ⟨2,1,W8⟩:=rfl
theorem zpb:T 25=some ⟨2,2,W9⟩:=rfl
theorem zo4:T 26=some ⟨2,1,W_⟩:=rfl
theorem zpo:T 27=some ⟨5,2,Xa⟩:=rfl
theorem zpz:T 28=some ⟨1,1,b28⟩:=rfl
theorem zoV:T 29=some ⟨5,2,Xb⟩:=rfl
theorem zpA:T 30=some ⟨4,3,b30⟩:=rfl
theorem zpl:T 31=some ⟨3,3,Xc⟩:=rfl
theorem zoY:T 32=some ⟨10,2,Xd⟩:=rfl
theorem zpn:T 33=some ⟨3,2,Xe⟩:=rfl
theorem zpq:T 34=some ⟨1,1,Xf⟩:=rfl
theorem zo6:T 35=some ⟨7,3,Xg⟩:=rfl
theorem zo2:T 36=some ⟨5,5,Xh⟩:=rfl
theorem zo5:T 37=some ⟨8,3,Xi⟩:=rfl
theorem zpp:T 38=some ⟨6,3,Xj⟩:=rfl
theorem zo3:T 39=some ⟨4,4,Xk⟩:=rfl
theorem Xp:T 40=some ⟨5,4,Qu⟩:=rfl
theorem zo7:T 41=some ⟨10,4,Xl⟩:=rfl
theorem zo8:T 42=some ⟨11,1,Xm⟩:=rfl
noncomputable def ao:Nat->Nat->Bool:=λc e=>(let n:=λc=>if c<12 then c else 0;n e==0||n c==n e)
end gj
namespace gj
open PySem PySem.Spec PyProof.Rows L2 Mi
abbrev LK(i:Nat)(x:Str)(k:NameKind):Prop:=(aA (top i)).names.lookup x=some k
noncomputable abbrev gI:NameKind:=.globalImplicit
theorem zoW:ao=jQ 12:=rfl
abbrev N7:List Str:=["thing","many","ties"]
abbrev N12:List Str:=["web","place","ends"]
abbrev N13:List Str:=["web"]
abbrev N14:List Str:=["web","ring","thing"]
abbrev N20:List Str:=["web","ring","hues","k","d","rows","place","ends","spot"]
abbrev Xq:List Str:=["nexts","thing"]
abbrev N29:List Str:=["_law_pen_here","_law_many","_law_often","_law_ties","_law_one"]
abbrev N31:List Str:=["_law_web_here","_law_ring","_law_spots"]
abbrev Mz:List Str:=["_law_web_here","_law_ring","_law_threes","_law_one","_law_other","_law_both_near","_law_loose","_law_row","_law_ties","_law_near"]
abbrev Xr:List Str:=["_law_web_here","_law_ring","_law_hues","_law_found","_law_rows","_law_more","_law_row","_law_place"]
abbrev Qv:List Str:=["_law_web_here","_law_ring","_law_hues","_law_thing"]
abbrev N41:List Str:=["_law_web_here","_law_ring","_law_hues","_law_thing","_law_kept","_law_due","_law_turn","_law_found","_law_laps_here","_law_steps"]
abbrev G9:List Str:=["_law_script","_law_thing","_law_cell_here","_law_pen_here","_law_web_here","_law_ring","_law_hues","_law_rows","_law_things","_law_drawn","_law_row"]
noncomputable def cl(K:W.Frag):Cl:=⟨eU (lk.L K),λc=>(([[],[],[],[],[],[],[],[],[],["at"],["at"],["many","most"]]:List (List Str)).getD c []),λ_=>0,λ_=>[]⟩
structure Top(K:W.Frag)(mg:Str->Option Value):Prop where
 cs:u6 K (cl K) ao
 d0:D3 K mg "is_whole" (top 14) ["thing"]
 d1:D3 K mg "is_within" (top 15) ["thing","least","most"]
 d2:D3 K mg "is_row" (top 16) ["thing","many"]
 d3:D3 K mg "is_ring" (top 19) ["thing"]
 d4:D3 K mg "is_spot" (top 20) ["ring","thing"]
 d5:D3 K mg "check_ring" (top 21) ["thing"]
 d6:D3 K mg "gap_of" (top 22) ["ring","one","other"]
 d7:D3 K mg "is_web" (top 25) ["thing"]
 d8:D3 K mg "is_many" (top 26) ["thing"]
 d9:D3 K mg "is_place" (top 27) ["many","thing"]
 Xu:D3 K mg "is_tie" (top 28) ["many","thing"]
 Xw:D3 K mg "check_web" (top 29) ["thing"]
 Xx:D3 K mg "tied_to" (top 30) ["web","place"]
 Xy:D3 K mg "all_ends" (top 31) ["web"]
 Xz:D3 K mg "are_spots" (top 33) ["web","ring","thing"]
 XD:D3 K mg "are_hues" (top 34) ["web","ring","thing"]
 XH:D3 K mg "check_hues" (top 35) ["web","ring","thing"]
 XJ:D3 K mg "clash_of" (top 36) ["web","ring","spots"]
 Qw:D3 K mg "full_holds" (top 38) ["web","ring","hues","thing"]
 XM:D3 K mg "laps_of" (top 39) ["web","ring","hues","full"]
 XQ:D3 K mg "full_nexts" (top 40) ["web","ring","hues"]
 XR:D3 K mg "goes_round" (top 41) ["nexts","thing"]
 X3:D3 K mg "next_pairs" (top 42) ["places"]
 X4:D3 K mg "_law_kind" (top 44) ["_law_e"]
 X5:D3 K mg "_law_odd" (top 45) ["_law_pen_here"]
 X6:D3 K mg "_law_cell" (top 46) ["_law_script","_law_k"]
 X7:D3 K mg "_law_pen" (top 47) ["_law_cell_here"]
 ql:D3 K mg "_law_draw" (top 48) ["_law_pen_here","_law_many"]
 Qx:D3 K mg "_law_whole" (top 49) ["_law_thing"]
 X8:D3 K mg "_law_web" (top 50) ["_law_pen_here","_law_many"]
 Qy:D3 K mg "_law_apart" (top 51) ["_law_k","_law_one","_law_other"]
 X_:D3 K mg "_law_fit_spots" (top 52) ["_law_web_here","_law_ring","_law_spots"]
 Qz:D3 K mg "_law_first" (top 53) ["_law_web_here","_law_ring"]
 Yb:D3 K mg "_law_tight" (top 54) ["_law_pen_here","_law_web_here"]
 Yc:D3 K mg "_law_few" (top 55) ["_law_pen_here"]
 Yd:D3 K mg "_law_some_hues" (top 56) ["_law_pen_here","_law_web_here","_law_ring"]
 MF:D3 K mg "_law_is_next" (top 57) ["_law_web_here","_law_ring","_law_hues","_law_one","_law_other"]
 Ye:D3 K mg "_law_rounds" (top 58) ["_law_web_here","_law_ring","_law_hues"]
 Yg:D3 K mg "_law_bent_row" (top 59) ["_law_pen_here","_law_row","_law_k"]
 Yh:D3 K mg "_law_holds" (top 60) ["_law_web_here","_law_ring","_law_hues","_law_thing"]
 Yi:D3 K mg "_law_laps" (top 61) ["_law_web_here","_law_ring","_law_hues","_law_thing"]
 QB:D3 K mg "_law_right" (top 62) ["_law_web_here","_law_ring","_law_hues","_law_thing"]
 QC:D3 K mg "law" (top 63) ["_law_script"]
 c0:mg "HueError"=some (.ref ((cl K).a 0))
 c1:mg "NoRing"=some (.ref ((cl K).a 1))
 c2:mg "NoHues"=some (.ref ((cl K).a 2))
 c3:mg "NoPlace"=some (.ref ((cl K).a 3))
 c4:mg "NoArrows"=some (.ref ((cl K).a 4))
 c5:mg "NoMap"=some (.ref ((cl K).a 5))
 c6:mg "NoPaper"=some (.ref ((cl K).a 6))
 c7:mg "Apart"=some (.ref ((cl K).a 7))
 c8:mg "NoRow"=some (.ref ((cl K).a 8))
 c9:mg "NoWeb"=some (.ref ((cl K).a 9))
 c10:mg "NoText"=some (.ref ((cl K).a 10))
 c11:mg "TooGreat"=some (.ref ((cl K).a 11))
 x6:mq K ((cl K).a 6) [.type "ValueError",.type "Exception",.type "BaseException",.type "object"] "ValueError.__new__" none=true
 s0:∀c,ao c 0=true->subIn K ((cl K).a c) ((cl K).a 0)=true
 jd:∃t,mg "MOST_SPOTS"=some (.int 24 t)
 g_:∃t,mg "MOST_PLACES"=some (.int 8 t)
 z14:mg "ValueError"=none
 z6:mg "abs"=none
 z8:mg "all"=none
 z2:mg "bool"=none
 z16:mg "divmod"=none
 z11:mg "enumerate"=none
 z1:mg "int"=none
 z0:mg "isinstance"=none
 z4:mg "len"=none
 Yj:mg "list"=none
 QD:mg "max"=none
 z5:mg "min"=none
 sE:mg "range"=none
 QF:mg "repr"=none
 Yk:mg "set"=none
 z9:mg "sorted"=none
 z18:mg "sum"=none
 z3:mg "tuple"=none
 z7:mg "zip"=none
theorem zmm{K:W.Frag}{h:Heap}{mg:Str->Option Value}(S:iZ fs ms xs lk K)(X:K.In h)(G:h.Ns mainGlobals mg):Top K mg where
 cs:=by
  rcases S.gd.cs with z|z
  .cases z
  .exact zjo (N5 _) z
 d0:=zev S X G 0
 d1:=tX S X G 1
 d2:=vG S X G 2
 d3:=zev S X G 3
 d4:=vG S X G 4
 d5:=zev S X G 5
 d6:=tX S X G 6
 d7:=zev S X G 7
 d8:=zev S X G 8
 d9:=vG S X G 9
 Xu:=vG S X G 10
 Xw:=zev S X G 11
 Xx:=vG S X G 12
 Xy:=zev S X G 13
 Xz:=tX S X G 14
 XD:=tX S X G 15
 XH:=tX S X G 16
 XJ:=tX S X G 17
 Qw:=Ld S X G 18
 XM:=Ld S X G 19
 XQ:=tX S X G 20
 XR:=vG S X G 21
 X3:=zev S X G 22
 X4:=zev S X G 23
 X5:=zev S X G 24
 X6:=vG S X G 25
 X7:=zev S X G 26
 ql:=vG S X G 27
 Qx:=zev S X G 28
 X8:=vG S X G 29
 Qy:=tX S X G 30
 X_:=tX S X G 31
 Qz:=vG S X G 32
 Yb:=vG S X G 33
 Yc:=zev S X G 34
 Yd:=tX S X G 35
 MF:=zpv S X G 36
 Ye:=tX S X G 37
 Yg:=tX S X G 38
 Yh:=Ld S X G 39
 Yi:=Ld S X G 40
 QB:=Ld S X G 41
 QC:=zev S X G 42
 c0:=tW (S.gd.cl "HueError" (mG 0)) X G
 c1:=tW (S.gd.cl "NoRing" (mG 1)) X G
 c2:=tW (S.gd.cl "NoHues" (mG 2)) X G
 c3:=tW (S.gd.cl "NoPlace" (mG 3)) X G
 c4:=tW (S.gd.cl "NoArrows" (mG 4)) X G
 c5:=tW (S.gd.cl "NoMap" (mG 5)) X G
 c6:=tW (S.gd.cl "NoPaper" (mG 6)) X G
 c7:=tW (S.gd.cl "Apart" (mG 7)) X G
 c8:=tW (S.gd.cl "NoRow" (mG 8)) X G
 c9:=tW (S.gd.cl "NoWeb" (mG 9)) X G
 c10:=tW (S.gd.cl "NoText" (mG 10)) X G
 c11:=tW (S.gd.cl "TooGreat" (mG 11)) X G
 x6:=S.gd.ra 6 (mG 0)
 s0:=zk0 (L:=lk.L K) (N5 _) (S.gd.ca 0 (mG 0))
 jd:=zjh (S.gd.it ("MOST_SPOTS",24) (mG 0)) X G
 g_:=zjh (S.gd.it ("MOST_PLACES",8) (mG 1)) X G
 z14:=m7 (S.gd.no "ValueError" (mG 0)) X G
 z6:=m7 (S.gd.no "abs" (mG 1)) X G
 z8:=m7 (S.gd.no "all" (mG 2)) X G
 z2:=m7 (S.gd.no "bool" (mG 3)) X G
 z16:=m7 (S.gd.no "divmod" (mG 4)) X G
 z11:=m7 (S.gd.no "enumerate" (mG 5)) X G
 z1:=m7 (S.gd.no "int" (mG 6)) X G
 z0:=m7 (S.gd.no "isinstance" (mG 7)) X G
 z4:=m7 (S.gd.no "len" (mG 8)) X G
 Yj:=m7 (S.gd.no "list" (mG 9)) X G
 QD:=m7 (S.gd.no "max" (mG 10)) X G
 z5:=m7 (S.gd.no "min" (mG 11)) X G
 sE:=m7 (S.gd.no "range" (mG 12)) X G
 QF:=m7 (S.gd.no "repr" (mG 13)) X G
 Yk:=m7 (S.gd.no "set" (mG 14)) X G
 z9:=m7 (S.gd.no "sorted" (mG 15)) X G
 z18:=m7 (S.gd.no "sum" (mG 16)) X G
 z3:=m7 (S.gd.no "tuple" (mG 17)) X G
 z7:=m7 (S.gd.no "zip" (mG 18)) X G
abbrev FO(P:Program)(w:World)(K:W.Frag)(mg:Str->Option Value)(base:Heap)(k:Nat)(c:Bool)(x:Str)(i:Nat)(ps:List Str)(n:Nat):Prop:=fU P w K mg base (lq P w) c k (jG K x) (fdOf K x (top i)) ps (tQ K (cl K) (call ao T k c n))
structure Fs(P:Program)(w:World)(K:W.Frag)(mg:Str->Option Value)(base:Heap)(k:Nat):Prop where
 t0:FO P w K mg base k true "is_whole" 14 ["thing"] 0
 t1:FO P w K mg base k true "is_within" 15 ["thing","least","most"] 1
 t2:FO P w K mg base k true "is_row" 16 ["thing","many"] 2
 t3:FO P w K mg base k true "is_ring" 19 ["thing"] 3
 t4:FO P w K mg base k true "is_spot" 20 ["ring","thing"] 4
 t5:FO P w K mg base k true "check_ring" 21 ["thing"] 5
 t6:FO P w K mg base k true "gap_of" 22 ["ring","one","other"] 6
 t7:FO P w K mg base k true "is_web" 25 ["thing"] 7
 t8:FO P w K mg base k true "is_many" 26 ["thing"] 8
 t9:FO P w K mg base k true "is_place" 27 ["many","thing"] 9
 t10:FO P w K mg base k true "is_tie" 28 ["many","thing"] 10
 t11:FO P w K mg base k true "check_web" 29 ["thing"] 11
 t12:FO P w K mg base k true "tied_to" 30 ["web","place"] 12
 t13:FO P w K mg base k true "all_ends" 31 ["web"] 13
 t14:FO P w K mg base k true "are_spots" 33 ["web","ring","thing"] 14
 t15:FO P w K mg base k true "are_hues" 34 ["web","ring","thing"] 15
 t16:FO P w K mg base k true "check_hues" 35 ["web","ring","thing"] 16
 t17:FO P w K mg base k true "clash_of" 36 ["web","ring","spots"] 17
 Yl:FO P w K mg base k true "full_holds" 38 ["web","ring","hues","thing"] 18
 t19:FO P w K mg base k true "laps_of" 39 ["web","ring","hues","full"] 19
 t20:FO P w K mg base k true "full_nexts" 40 ["web","ring","hues"] 20
 t21:FO P w K mg base k true "goes_round" 41 ["nexts","thing"] 21
 t22:FO P w K mg base k true "next_pairs" 42 ["places"] 22
 q23:FO P w K mg base k false "_law_kind" 44 ["_law_e"] 23
 t24:FO P w K mg base k true "_law_odd" 45 ["_law_pen_here"] 24
 t25:FO P w K mg base k true "_law_cell" 46 ["_law_script","_law_k"] 25
 t26:FO P w K mg base k true "_law_pen" 47 ["_law_cell_here"] 26
 rA:FO P w K mg base k true "_law_draw" 48 ["_law_pen_here","_law_many"] 27
 Ym:FO P w K mg base k true "_law_whole" 49 ["_law_thing"] 28
 t29:FO P w K mg base k true "_law_web" 50 ["_law_pen_here","_law_many"] 29
 Yn:FO P w K mg base k true "_law_apart" 51 ["_law_k","_law_one","_law_other"] 30
 t31:FO P w K mg base k true "_law_fit_spots" 52 ["_law_web_here","_law_ring","_law_spots"] 31
 Yo:FO P w K mg base k true "_law_first" 53 ["_law_web_here","_law_ring"] 32
 t33:FO P w K mg base k true "_law_tight" 54 ["_law_pen_here","_law_web_here"] 33
 t34:FO P w K mg base k true "_law_few" 55 ["_law_pen_here"] 34
 t35:FO P w K mg base k true "_law_some_hues" 56 ["_law_pen_here","_law_web_here","_law_ring"] 35
 QG:FO P w K mg base k true "_law_is_next" 57 ["_law_web_here","_law_ring","_law_hues","_law_one","_law_other"] 36
 t37:FO P w K mg base k true "_law_rounds" 58 ["_law_web_here","_law_ring","_law_hues"] 37
 t38:FO P w K mg base k true "_law_bent_row" 59 ["_law_pen_here","_law_row","_law_k"] 38
 t39:FO P w K mg base k true "_law_holds" 60 ["_law_web_here","_law_ring","_law_hues","_law_thing"] 39
 t40:FO P w K mg base k true "_law_laps" 61 ["_law_web_here","_law_ring","_law_hues","_law_thing"] 40
 Yp:FO P w K mg base k true "_law_right" 62 ["_law_web_here","_law_ring","_law_hues","_law_thing"] 41
 t42:FO P w K mg base k true "law" 63 ["_law_script"] 42
section
variable {P:Program}{w:World}{K:W.Frag}{mg:Str->Option Value}{base:Heap}{k:Nat}
theorem zj3(Tp:Top K mg)(Fk:Fs P w K mg base k):Fs P w K mg base (k+1) where
 t0:=fJ Tp.d0 ["thing"] T_0 λ_ _ _ _ _ _ hr=>(aH (bW (tU (lD Tp.cs Tp.z0 gk (gv 0) (wO rfl Tp.z1 zi9 gk dk)) (wM (zl9 (lD Tp.cs Tp.z0 gk (gv 0) (wO rfl Tp.z2 U_ gk dk))))))
 aN)
 t1:=fJ Tp.d1 ["thing","least","most"] T_1 λ_ _ _ _ _ _ hr=>(aH (bW (tU (gc Fk.t0 Tp.d0 hr cM gk (aq (gv 0) aG)) (wM (znW zpa zpa (gv 1) (gv 0) (gv 2)))))
 aN)
 t2:=fJ Tp.d2 ["thing","many"] T_2 λ_ _ _ _ _ _ hr=>(aH (bW (tU (lD Tp.cs Tp.z0 gk (gv 0) (wO rfl Tp.z3 KR gk dk)) (wM (vq (oJ hr) (tV Tp.z4 gk (aq (gv 0) aG)) (gv 1)))))
 aN)
 t3:=fJ Tp.d3 ["thing","k","d"] T_3 λ_ _ _ _ _ _ hr=>(aH (gU (mZ (kY (gc Fk.t2 Tp.d2 hr cM gk (aq (gv 0) (aq aF aG))))) (aH (bW kj)
 aN) aN)
 (aH (K7 1 2 rfl rfl nd rfl rfl jl jl rfl rfl (gv 0))
 (aH (bW (tU (gc Fk.t1 Tp.d1 hr cM gk (aq (gv 1) (aq aF (aq (zpk Tp.jd gk dk) aG)))) (wM (gc Fk.t1 Tp.d1 hr cM gk (aq (gv 2) (aq aF (aq (gv 1) aG)))))))
 aN)))
 t4:=fJ Tp.d4 ["ring","thing"] T_4 λ_ _ _ _ _ _ hr=>(aH (bW (gc Fk.t1 Tp.d1 hr cM gk (aq (gv 1) (aq aF (aq (bT vm (bH (gv 0) aF) aF) aG)))))
 aN)
 t5:=fJ Tp.d5 ["thing"] T_5 λ_ _ _ _ _ _ hr=>(aH (gU (mZ (kY (gc Fk.t3 Tp.d3 hr cM gk (aq (gv 0) aG)))) (aH Ve
 aN) aN)
 aN)
 t6:=fJ Tp.d6 ["ring","one","other","gap"] T_6 λ_ _ _ _ _ _ hr=>(aH (eO 3 nd rfl jl rfl (zmd Tp.z6 gk (aq (bT vm (gv 1) (gv 2)) aG)))
 (aH (bW (Vb rfl Tp.z5 gk (aq (gv 3) (aq (bT vm (bH (gv 0) aF) (gv 3)) aG))))
 aN))
 t7:=fJ Tp.d7 N7 T_7 λ_ _ _ _ _ _ hr=>(aH (gU (mZ (kY (gc Fk.t2 Tp.d2 hr cM gk (aq (gv 0) (aq aF aG))))) (aH (bW kj)
 aN) aN)
 (aH (K7 1 2 rfl rfl nd rfl rfl jc jl rfl rfl (gv 0))
 (aH (gU (rT (yZ (mZ (kY (gc Fk.t8 Tp.d8 hr cM gk (aq (gv 1) aG)))) (Bl (mZ (kY (lD Tp.cs Tp.z0 gk (gv 2) (wO rfl Tp.z3 KR gk dk))))))) (aH (bW kj)
 aN) aN)
 (aH (gU (mZ (kY (Bm rfl Tp.z8 gk (aq (m6 (aA (top 25)) N7 ["tie"] ["many"] [1] rfl rfl rfl Bd Bd (lC 0) Bd (kZ (gv 2)) (λ_ _ _ _ _ _=>(lE 0 Bd rfl Bd)) (λ_ _ _ _ _ _=>qe) (λ_ _ _ _ _ _=>(gc Fk.t10 Tp.Xu hr qU pB (aq (bB 1) (aq (bB 0) aG))))) aG)))) (aH (bW kj)
 aN) aN)
 (aH (bW (Bm rfl Tp.z8 gk (aq (m6 (aA (top 25)) N7 ["tie","later"] [] [] rfl rfl rfl Bd Bd (Gw 0 1) Bd (Vl Tp.z7 gk (gv 2) (nP (gv 2) (m5 aF) oK)) (λ_ _ _ _ _ _=>(K5 0 1 rfl Bd rfl rfl Bd Bd)) (λ_ _ _ _ _ _=>qe) (λ_ _ _ _ _ _=>(vq (vp hr) (bB 0) (bB 1)))) aG)))
 aN)))))
 t8:=fJ Tp.d8 ["thing"] T_8 λ_ _ _ _ _ _ hr=>(aH (bW (gc Fk.t1 Tp.d1 hr cM gk (aq (gv 0) (aq aF (aq (zpk Tp.g_ gk dk) aG)))))
 aN)
 t9:=fJ Tp.d9 ["many","thing"] Xn λ_ _ _ _ _ _ hr=>(aH (bW (gc Fk.t1 Tp.d1 hr cM gk (aq (gv 1) (aq aF (aq (bT vm (gv 0) aF) aG)))))
 aN)
 t10:=fJ Tp.Xu ["many","thing","one","other"] zo1 λ_ _ _ _ _ _ hr=>(aH (gU (mZ (kY (gc Fk.t2 Tp.d2 hr cM gk (aq (gv 1) (aq aF aG))))) (aH (bW kj)
 aN) aN)
 (aH (K7 2 3 rfl rfl nd rfl rfl jl jl rfl rfl (gv 1))
 (aH (bW (tU (gc Fk.t9 Tp.d9 hr cM gk (aq (gv 0) (aq (gv 2) aG))) (tU (gc Fk.t9 Tp.d9 hr cM gk (aq (gv 0) (aq (gv 3) aG))) (wM (vq (vp hr) (gv 2) (gv 3))))))
 aN)))
 t11:=fJ Tp.Xw ["thing"] zoZ λ_ _ _ _ _ _ hr=>(aH (gU (mZ (kY (gc Fk.t7 Tp.d7 hr cM gk (aq (gv 0) aG)))) (aH Ve
 aN) aN)
 aN)
 t12:=fJ Tp.Xx N12 zpr λ_ _ _ _ _ _ hr=>(aH (GC 2 (aA (top 30)) N12 ["one","other"] ["place"] [1] nd rfl jl rfl rfl rfl rfl Bd Bd (Gw 0 1) Bd (kZ (bH (gv 0) aF)) (λ_ _ _ _ _ _=>(K5 0 1 rfl Bd rfl rfl Bd Bd)) (λ_ _ _ _ _ _=>(vC (fO (Gx hr) (bB 2) (dR (aq (bB 0) (aq (bB 1) aG)))))) (λ_ _ _ _ _ _=>(zm6 (fO (oJ hr) (bB 0) (bB 2)) (bB 1) (bB 0))))
 (aH (bW (K3 Tp.z3 gk (aq (zek Tp.z9 gk (aq (gv 2) aG)) aG)))
 aN))
 t13:=fJ Tp.Xy N13 zoT λ_ _ _ _ _ _ hr=>(aH (bW (m6 (aA (top 31)) N13 ["place"] ["web"] [0] rfl rfl rfl Bd Bd (lC 0) Bd (zc Tp.sE gk (bH (gv 0) aF)) (λ_ _ _ _ _ _=>(lE 0 Bd rfl Bd)) (λ_ _ _ _ _ _=>qe) (λ_ _ _ _ _ _=>(gc Fk.t12 Tp.Xx hr qU pB (aq (bB 1) (aq (bB 0) aG))))))
 aN)
 t14:=fJ Tp.Xz N14 zpj λ_ _ _ _ _ _ hr=>(aH (bW (tU (gc Fk.t2 Tp.d2 hr cM gk (aq (gv 2) (aq (bH (gv 0) aF) aG))) (wM (Bm rfl Tp.z8 gk (aq (m6 (aA (top 33)) N14 ["spot"] ["ring"] [1] rfl rfl rfl Bd Bd (lC 0) Bd (kZ (gv 2)) (λ_ _ _ _ _ _=>(lE 0 Bd rfl Bd)) (λ_ _ _ _ _ _=>qe) (λ_ _ _ _ _ _=>(gc Fk.t4 Tp.d4 hr qU pB (aq (bB 1) (aq (bB 0) aG))))) aG)))))
 aN)
 t15:=fJ Tp.XD ["web","ring","thing"] zoS λ_ _ _ _ _ _ hr=>(aH (bW (tU (gc Fk.t14 Tp.Xz hr cM gk (aq (gv 0) (aq (gv 1) (aq (gv 2) aG)))) (wM (znV (gc Fk.t17 Tp.XJ hr cM gk (aq (gv 0) (aq (gv 1) (aq (gv 2) aG))))))))
 aN)
 t16:=fJ Tp.XH ["web","ring","thing"] zpf λ_ _ _ _ _ _ hr=>(aH (Er (gc Fk.t11 Tp.Xw hr cM gk (aq (gv 0) aG)))
 (aH (Er (gc Fk.t5 Tp.d5 hr cM gk (aq (gv 1) aG)))
 (aH (gU (mZ (kY (gc Fk.t15 Tp.XD hr cM gk (aq (gv 0) (aq (gv 1) (aq (gv 2) aG)))))) (aH Ve
 aN) aN)
 aN)))
 t17:=fJ Tp.XJ ["web","ring","spots","one","other"] zo9 λ_ _ _ _ _ _ hr=>(aH (vD rW rfl rfl (kZ (bH (gv 0) aF)) (Vh 3 4 rfl rfl nd rfl rfl jl jl rfl rfl) (aH (gU (fO (vp hr) (gc Fk.t6 Tp.d6 hr cM gk (aq (gv 1) (aq (bH (gv 2) (gv 3)) (aq (bH (gv 2) (gv 4)) aG)))) (bH (gv 1) aF)) (aH (bW (dR (aq (gv 3) (aq (gv 4) aG))))
 aN) aN)
 aN))
 (aH (bW yX)
 aN))
 Yl:=fJ Tp.Qw ["web","ring","hues","thing"] zph λ_ _ _ _ _ _ hr=>(aH (Er (gc Fk.t16 Tp.XH hr cM gk (aq (gv 0) (aq (gv 1) (aq (gv 2) aG)))))
 (aH (bW (gc Fk.t21 Tp.XR hr cM gk (aq (gc Fk.t20 Tp.XQ hr cM gk (aq (gv 0) (aq (gv 1) (aq (gv 2) aG)))) (aq (gv 3) aG))))
 aN))
 t19:=fJ Tp.XM ["web","ring","hues","full"] Xo λ_ _ _ _ _ _ hr=>(aH (gU (mZ (kY (gc Fk.Yl Tp.Qw hr cM gk (aq (gv 0) (aq (gv 1) (aq (gv 2) (aq (gv 3) aG))))))) (aH (zji rfl rfl rfl Tp.x6 Tp.c6 gk cM (aq nO aG) dk)
 aN) aN)
 (aH (bW (bT ziW (bT wL (tV Tp.z4 gk (aq (gv 3) aG)) (bH (gv 1) aF)) (bH (gv 1) aF)))
 aN))
 t20:=fJ Tp.XQ N20 zoR λ_ _ _ _ _ _ hr=>(aH (K7 3 4 rfl rfl nd rfl rfl jl jl rfl rfl (gv 1))
 (aH (eO 5 nd rfl jl rfl (gR aG))
 (aH (vD rW rfl rfl (zne Tp.z11 gk (gc Fk.t13 Tp.Xy hr cM gk (aq (gv 0) aG))) (Vh 6 7 rfl rfl nd rfl rfl jl jl rfl rfl) (aH (eO 8 nd rfl jc rfl (bT Bk (bT fM (bH (gv 2) (gv 6)) (gv 4)) (gv 3)))
 (aH (Er (Vc (gv 5) (K3 Tp.z3 gk (aq (m6 (aA (top 40)) N20 ["end"] ["hues","spot"] [2,8] rfl rfl rfl Bd Bd (lC 0) Bd (kZ (gv 7)) (λ_ _ _ _ _ _=>(lE 0 Bd rfl Bd)) (λ_ _ _ _ _ _=>(vC (fO (oJ hr) (bH (bB 1) (bB 0)) (bB 2)))) (λ_ _ _ _ _ _=>(bB 0))) aG))))
 aN)))
 (aH (bW (gv 5))
 aN))))
 t21:=fJ Tp.XR Xq zoU λ_ _ _ _ _ _ hr=>(aH (gU (rT (yZ (mZ (kY (lD Tp.cs Tp.z0 gk (gv 1) (wO rfl Tp.z3 KR gk dk)))) (Bl (fO (oJ hr) (gv 1) (dR aG))))) (aH (bW kj)
 aN) aN)
 (aH (gU (mZ (kY (Bm rfl Tp.z8 gk (aq (m6 (aA (top 41)) Xq ["place"] ["nexts"] [0] rfl rfl rfl Bd Bd (lC 0) Bd (kZ (gv 1)) (λ_ _ _ _ _ _=>(lE 0 Bd rfl Bd)) (λ_ _ _ _ _ _=>qe) (λ_ _ _ _ _ _=>(gc Fk.t9 Tp.d9 hr qU pB (aq (tV Tp.z4 pB (aq (bB 1) aG)) (aq (bB 0) aG))))) aG)))) (aH (bW kj)
 aN) aN)
 (aH (gU (rT (yZ (fO (vp hr) (zpg rfl Tp.z4 gk Tp.Yk gk (aq (gv 1) aG)) (tV Tp.z4 gk (aq (gv 1) aG))) (Bl (fO (wN hr) (bH (gv 1) aF) (ziR rfl Tp.z5 gk (aq (gv 1) aG)))))) (aH (bW kj)
 aN) aN)
 (aH (bW (Bm rfl Tp.z8 gk (aq (m6 (aA (top 41)) Xq ["place","later"] ["nexts"] [0] rfl rfl rfl Bd Bd (Gw 0 1) Bd (kZ (gc Fk.t22 Tp.X3 hr cM gk (aq (gv 1) aG))) (λ_ _ _ _ _ _=>(K5 0 1 rfl Bd rfl rfl Bd Bd)) (λ_ _ _ _ _ _=>qe) (λ_ _ _ _ _ _=>(vq (Gx hr) (bB 1) (bH (bB 2) (bB 0))))) aG)))
 aN))))
 t22:=fJ Tp.X3 ["places"] zoX λ_ _ _ _ _ _ hr=>(aH (bW (zpu rfl Tp.Yj gk Tp.z7 gk (aq (gv 0) (aq (bT fM (nP (gv 0) (m5 aF) oK) (nP (gv 0) oK (m5 aF))) aG))))
 aN)
 q23:=fJ Tp.X4 ["_law_e","_law_marks","_law_words"] zpt λ_ _ _ _ _ _ hr=>(aH (eO 1 nd rfl jl rfl (gR (aq (lD Tp.cs Tp.z0 gk (gv 0) (vB Tp.c1 gk dk)) (aq (lD Tp.cs Tp.z0 gk (gv 0) (vB Tp.c2 gk dk)) (aq (lD Tp.cs Tp.z0 gk (gv 0) (vB Tp.c3 gk dk)) (aq (lD Tp.cs Tp.z0 gk (gv 0) (vB Tp.c4 gk dk)) aG))))))
 (aH (eO 1 nd rfl jl rfl (bT fM (gv 1) (gR (aq (lD Tp.cs Tp.z0 gk (gv 0) (vB Tp.c5 gk dk)) (aq (lD Tp.cs Tp.z0 gk (gv 0) (vB Tp.c6 gk dk)) (aq (lD Tp.cs Tp.z0 gk (gv 0) (vB Tp.c7 gk dk)) (aq (lD Tp.cs Tp.z0 gk (gv 0) (vB Tp.c8 gk dk)) aG)))))))
 (aH (eO 1 nd rfl jl rfl (bT fM (gv 1) (gR (aq (lD Tp.cs Tp.z0 gk (gv 0) (vB Tp.c9 gk dk)) (aq (lD Tp.cs Tp.z0 gk (gv 0) (vB Tp.c10 gk dk)) (aq (lD Tp.cs Tp.z0 gk (gv 0) (vB Tp.c11 gk dk)) aG))))))
 (aH (gU (rT (yZ (mZ (kY (lD Tp.cs Tp.z0 gk (gv 0) (wO rfl Tp.z14 zcI gk dk)))) (Bl (fO (wN hr) (zjx hr (gv 1) (aq kj aG)) aF)))) (aH (bW nO)
 aN) aN)
 (aH (eO 2 nd rfl jl rfl (gR (aq nO (aq nO (aq nO (aq nO (aq nO (aq nO (aq nO (aq nO (aq nO (aq nO (aq nO aG)))))))))))))
 (aH (bW (bH (gv 2) (zkA (gv 1) (aq kj aG))))
 aN))))))
 t24:=fJ Tp.X5 ["_law_pen_here","_law_some"] zpe λ_ _ _ _ _ _ hr=>(aH (eO 1 nd rfl jl rfl (gR (aq yX (aq kj (aq kj (aq (vo aF) (aq nO (aq nO (aq (dR aG) (aq (gR aG) (aq (dR (aq aF aG)) (aq (gR (aq aF aG)) (aq znq (aq (dR (aq aF (aq aF aG))) (aq (bT zmg aF aF) (aq (dR (aq aF (aq (dR aG) aG))) (aq (dR (aq nO aG)) aG)))))))))))))))))
 (aH (bW (bH (bT fM (gv 1) (gR (aq (dR (aq aF (aq (dR (aq (dR (aq aF (aq aF aG))) aG)) aG))) aG))) (gc Fk.rA Tp.ql hr cM gk (aq (gv 0) (aq aF aG)))))
 aN))
 t25:=fJ Tp.X6 ["_law_script","_law_k"] zpb λ_ _ _ _ _ _ hr=>(aH (gU (fO (vp hr) (gv 1) (tV Tp.z4 gk (aq (gv 0) aG))) (aH (bW (bH (gv 0) (gv 1)))
 aN) aN)
 (aH (bW aF)
 aN))
 t26:=fJ Tp.X7 ["_law_cell_here","_law_left"] zo4 λ_ _ _ _ _ _ hr=>(aH (eO 1 nd rfl jl rfl (Va rfl Tp.QD gk (aq (gv 0) (aq (bT vm aF (gv 0)) aG))))
 (aH (bW (gR (aq (gv 1) (aq (zlg Tp.z1 gk (aq (vq zpw (gv 1) (bT zmg aF aF)) aG)) aG))))
 aN))
 rA:=fJ Tp.ql ["_law_pen_here","_law_many","_law_left","_law_found","_law_stir"] zpo λ_ _ _ _ _ _ hr=>(aH (gU (fO (oJ hr) (bH (gv 0) aF) aF) (aH (K7 2 3 rfl rfl nd rfl rfl jl jl rfl rfl (zhY Tp.z16 gk (aq (bH (gv 0) aF) (aq (gv 1) aG))))
 (aH (PL (gv 0) aF (gv 2))
 (aH (bW (gv 3))
 aN))) aN)
 (aH (eO 4 nd rfl jl rfl (bT Bk (bT wL (bT fM (bT Bk (bH (gv 0) aF) aF) aF) aF) aF))
 (aH (eO 4 nd rfl jl rfl (bT Bk (bT fM (bT wL (gv 4) (gv 4)) aF) aF))
 (aH (PL (gv 0) aF (bT Bk (bT fM (bT wL (gv 4) aF) aF) aF))
 (aH (bW (bT Bk (bT ziW (bH (gv 0) aF) aF) (gv 1)))
 aN)))))
 Ym:=fJ Tp.Qx ["_law_thing"] zpz λ_ _ _ _ _ _ hr=>(aH (bW (tU (lD Tp.cs Tp.z0 gk (gv 0) (wO rfl Tp.z1 zi9 gk dk)) (wM (zl9 (lD Tp.cs Tp.z0 gk (gv 0) (wO rfl Tp.z2 U_ gk dk))))))
 aN)
 t29:=fJ Tp.X8 N29 zoV λ_ _ _ _ _ _ hr=>(aH (eO 2 nd rfl jc rfl (bH (gR (aq aF (aq aF (aq aF aG)))) (gc Fk.rA Tp.ql hr cM gk (aq (gv 0) (aq aF aG)))))
 (aH (eO 3 nd rfl jl rfl (gR aG))
 (aH (vD rW rfl rfl (zc Tp.sE gk (gv 1)) (Bp 4 nd rfl jc rfl) (aH (eO 3 nd rfl jl rfl (bT fM (gv 3) (m6 (aA (top 50)) N29 ["_law_other"] ["_law_one","_law_pen_here","_law_often"] [4,0,2] rfl rfl rfl Bd Bd (lC 0) Bd (zpc Tp.sE gk (bT fM (gv 4) aF) (gv 1)) (λ_ _ _ _ _ _=>(lE 0 Bd rfl Bd)) (λ_ _ _ _ _ _=>(vC (fO (vp hr) (gc Fk.rA Tp.ql hr qU pB (aq (bB 2) (aq aF aG))) (bB 3)))) (λ_ _ _ _ _ _=>(dR (aq (bB 1) (aq (bB 0) aG)))))))
 aN))
 (aH (bW (dR (aq (gv 1) (aq (K3 Tp.z3 gk (aq (gv 3) aG)) aG))))
 aN))))
 Yn:=fJ Tp.Qy ["_law_k","_law_one","_law_other","_law_there"] zpA λ_ _ _ _ _ _ hr=>(aH (eO 3 nd rfl jl rfl (zmd Tp.z6 gk (aq (bT vm (gv 1) (gv 2)) aG)))
 (aH (bW (Vb rfl Tp.z5 gk (aq (gv 3) (aq (bT vm (gv 0) (gv 3)) aG))))
 aN))
 t31:=fJ Tp.X_ N31 zpl λ_ _ _ _ _ _ hr=>(aH (bW (vq (oJ hr) (m6 (aA (top 52)) N31 ["_law_tie"] ["_law_ring","_law_spots"] [1,2] rfl rfl rfl Bd Bd (lC 0) Bd (kZ (bH (gv 0) aF)) (λ_ _ _ _ _ _=>(lE 0 Bd rfl Bd)) (λ_ _ _ _ _ _=>(vC (fO (vp hr) (gc Fk.Yn Tp.Qy hr qU pB (aq (bH (bB 1) aF) (aq (bH (bB 2) (bH (bB 0) aF)) (aq (bH (bB 2) (bH (bB 0) aF)) aG)))) (bH (bB 1) aF)))) (λ_ _ _ _ _ _=>(bB 0))) (gR aG)))
 aN)
 Yo:=fJ Tp.Qz Mz zoY λ_ _ _ _ _ _ hr=>(aH (gU (rT (K1 (fO (wN hr) (bH (gv 0) aF) (dR aG)) (KZ (fO (vp hr) (bH (gv 1) aF) (bT wL aF (bH (gv 1) aF)))))) (aH (bW yX)
 aN) aN)
 (aH (eO 2 nd rfl jl rfl (gR aG))
 (aH (vD rW rfl rfl (kZ (bH (gv 0) aF)) (Vh 3 4 rfl rfl nd rfl rfl jc jc rfl rfl) (aH (GC 5 (aA (top 53)) Mz ["_law_place"] ["_law_one","_law_web_here","_law_other"] [3,0,4] nd rfl jl rfl rfl rfl rfl Bd Bd (lC 0) Bd (zc Tp.sE gk (bH (gv 0) aF)) (λ_ _ _ _ _ _=>(lE 0 Bd rfl Bd)) (λ_ _ _ _ _ _=>(vC (rT (K1 (fO (Gx hr) (dR (aq (bB 1) (aq (bB 0) aG))) (bH (bB 2) aF)) (KZ (fO (Gx hr) (dR (aq (bB 3) (aq (bB 0) aG))) (bH (bB 2) aF))))))) (λ_ _ _ _ _ _=>(bB 0)))
 (aH (eO 2 nd rfl jl rfl (bT fM (gv 2) (gv 5)))
 aN)))
 (aH (gU (rT (K1 (fO (wN hr) (gv 2) (gR aG)) (KZ (fO (vp hr) (bH (gv 1) aF) (bT wL aF (bH (gv 1) aF)))))) (aH (bW yX)
 aN) aN)
 (aH (GC 6 (aA (top 53)) Mz ["_law_place"] ["_law_web_here"] [0] nd rfl jl rfl rfl rfl rfl Bd Bd (lC 0) Bd (zc Tp.sE gk (bH (gv 0) aF)) (λ_ _ _ _ _ _=>(lE 0 Bd rfl Bd)) (λ_ _ _ _ _ _=>(vC (fO (oJ hr) (zkq ["_law_place","_law_web_here"] ["_law_tie"] ["_law_place"] [0] rfl rfl Bd Bd (lC 0) Bd (kZ (bH (bB 1) aF)) (λ_ _ _ _ _ _=>(lE 0 Bd rfl Bd)) (λ_ _ _ _ _ _=>(vC (fO (Gx hr) (bB 1) (bB 0)))) (λ_ _ _ _ _ _=>(bB 0))) (gR aG)))) (λ_ _ _ _ _ _=>(bB 0)))
 (aH (eO 7 nd rfl jc rfl (gR (aq aF aG)))
 (aH (zfd rW (fO (oJ hr) (bH (gv 7) aF) aF) (aH (gU (rT (yZ (fO (oJ hr) (bH (gv 7) (vo aF)) (bH (gv 1) aF)) (Bl (rT (K1 (fO zpi (bH (gv 7) (vo aF)) aF) (KZ (fO (Gx hr) (bT vm (tV Tp.z4 gk (aq (gv 7) aG)) aF) (gv 6)))))))) (aH (Er (zoQ (gv 7)))
 (aH (gU (fO (oJ hr) (gv 7) (gR aG)) (aH (bW yX)
 aN) aN)
 (aH (PL (gv 7) (vo aF) (bT fM (bH (gv 7) (vo aF)) aF))
 aN))) (aH (GC 8 (aA (top 53)) Mz ["_law_tie"] ["_law_row"] [7] nd rfl jl rfl rfl rfl rfl Bd Bd (lC 0) Bd (kZ (bH (gv 0) aF)) (λ_ _ _ _ _ _=>(lE 0 Bd rfl Bd)) (λ_ _ _ _ _ _=>(vC (fO (oJ hr) (bH (bB 0) aF) (bT vm (tV Tp.z4 pB (aq (bB 1) aG)) aF)))) (λ_ _ _ _ _ _=>(bB 0)))
 (aH (GC 9 (aA (top 53)) Mz ["_law_tie"] ["_law_ring","_law_row"] [1,7] nd rfl jl rfl rfl rfl rfl Bd Bd (lC 0) Bd (kZ (gv 8)) (λ_ _ _ _ _ _=>(lE 0 Bd rfl Bd)) (λ_ _ _ _ _ _=>(vC (fO (vp hr) (gc Fk.Yn Tp.Qy hr qU pB (aq (bH (bB 1) aF) (aq (bH (bB 2) (bH (bB 0) aF)) (aq (bH (bB 2) (vo aF)) aG)))) (bH (bB 1) aF)))) (λ_ _ _ _ _ _=>(bB 0)))
 (aH (gU (fO (wN hr) (gv 9) (gR aG)) (aH (PL (gv 7) (vo aF) (bT fM (bH (gv 7) (vo aF)) aF))
 aN) (aH (gU (fO (oJ hr) (tV Tp.z4 gk (aq (gv 7) aG)) (bH (gv 0) aF)) (aH (bW (K3 Tp.z3 gk (aq (gv 7) aG)))
 aN) (aH (Er (Vc (gv 7) aF))
 aN))
 aN))
 aN))))
 aN))
 (aH (bW yX)
 aN))))))))
 t33:=fJ Tp.Yb ["_law_pen_here","_law_web_here","_law_ring"] zpn λ_ _ _ _ _ _ hr=>(aH (vD rW rfl rfl (kZ (gR (aq (dR (aq aF (aq aF aG))) (aq (dR (aq aF (aq aF aG))) (aq (dR (aq aF (aq aF aG))) (aq (dR (aq aF (aq aF aG))) (aq (dR (aq aF (aq aF aG))) (aq (dR (aq aF (aq aF aG))) (aq (dR (aq aF (aq aF aG))) (aq (dR (aq aF (aq aF aG))) (aq (dR (aq aF (aq aF aG))) aG))))))))))) (Bp 2 nd rfl jl rfl) (aH (gU (zmb (gc Fk.Yo Tp.Qz hr cM gk (aq (gv 1) (aq (gv 2) aG)))) (aH (bW (zm6 (fO zpi (gc Fk.rA Tp.ql hr cM gk (aq (gv 0) (aq aF aG))) aF) (gv 2) (dR (aq (bT wL aF (bH (gv 2) aF)) (aq (bT wL aF (bH (gv 2) aF)) aG)))))
 aN) aN)
 aN))
 (aH (bW (dR (aq (Va rfl Tp.QD gk (aq aF (aq (bH (gv 1) aF) aG))) (aq aF aG))))
 aN))
 t34:=fJ Tp.Yc ["_law_pen_here"] zpq λ_ _ _ _ _ _ hr=>(aH (bW (bH (gR (aq aF (aq aF (aq aF (aq aF (aq aF (aq aF (aq aF (aq aF (aq aF (aq aF aG))))))))))) (gc Fk.rA Tp.ql hr cM gk (aq (gv 0) (aq aF aG)))))
 aN)
 t35:=fJ Tp.Yd ["_law_pen_here","_law_web_here","_law_ring","_law_found","_law_turn","_law_place","_law_other"] zo6 λ_ _ _ _ _ _ hr=>(aH (eO 3 nd rfl jl rfl (gc Fk.Yo Tp.Qz hr cM gk (aq (gv 1) (aq (gv 2) aG))))
 (aH (vD rW rfl rfl (zc Tp.sE gk (bT wL aF (bH (gv 1) aF))) (Bp 4 nd rfl jl rfl) (aH (eO 5 nd rfl jl rfl (gc Fk.rA Tp.ql hr cM gk (aq (gv 0) (aq (bH (gv 1) aF) aG))))
 (aH (eO 6 nd rfl jl rfl (bT fM (bT fM (nP (gv 3) oK (m5 (gv 5))) (dR (aq (gc Fk.rA Tp.ql hr cM gk (aq (gv 0) (aq (bH (gv 2) aF) aG))) aG))) (nP (gv 3) (m5 (bT fM (gv 5) aF)) oK)))
 (aH (gU (kY (gc Fk.t31 Tp.X_ hr cM gk (aq (gv 1) (aq (gv 2) (aq (gv 6) aG))))) (aH (eO 3 nd rfl jl rfl (gv 6))
 aN) aN)
 aN))))
 (aH (bW (gv 3))
 aN)))
 QG:=fJ Tp.MF ["_law_web_here","_law_ring","_law_hues","_law_one","_law_other"] zo2 λ_ _ _ _ _ _ hr=>(aH (gU (fO (zmN hr) (dR (aq (Vb rfl Tp.z5 gk (aq (gv 3) (aq (gv 4) aG))) (aq (Va rfl Tp.QD gk (aq (gv 3) (aq (gv 4) aG))) aG))) (bH (gv 0) aF)) (aH (bW kj)
 aN) aN)
 (aH (bW (vq (oJ hr) (bT Bk (bT vm (bT fM (bH (gv 2) (gv 3)) (bH (gv 1) aF)) (bH (gv 2) (gv 4))) (bH (gv 1) aF)) aF))
 aN))
 t37:=fJ Tp.Ye Xr zo5 λ_ _ _ _ _ _ hr=>(aH (eO 3 nd rfl jl rfl (gR aG))
 (aH (GC 4 (aA (top 58)) Xr ["_law_place"] [] [] nd rfl jl rfl rfl rfl rfl Bd Bd (lC 0) Bd (zc Tp.sE gk (bH (gv 0) aF)) (λ_ _ _ _ _ _=>(lE 0 Bd rfl Bd)) (λ_ _ _ _ _ _=>qe) (λ_ _ _ _ _ _=>(dR (aq (bB 0) aG))))
 (aH (zfd rW (fO (wN hr) (gv 4) (gR aG)) (aH (eO 5 nd rfl jl rfl (gR aG))
 (aH (vD rW rfl rfl (kZ (gv 4)) (Bp 6 nd rfl jl rfl) (aH (vD rW rfl rfl (zpc Tp.sE gk (bT fM (bH (gv 6) aF) aF) (bH (gv 0) aF)) (Bp 7 nd rfl jl rfl) (aH (gU (rT (K1 (fO (zmN hr) (gv 7) (gv 6)) (KZ (kY (gc Fk.QG Tp.MF hr cM gk (aq (gv 0) (aq (gv 1) (aq (gv 2) (aq (bH (gv 6) (vo aF)) (aq (gv 7) aG)))))))))) (aH (Er (Vc (gv 5) (bT fM (gv 6) (dR (aq (gv 7) aG)))))
 aN) aN)
 aN))
 aN))
 (aH (eO 3 nd rfl jl rfl (bT fM (gv 3) (m6 (aA (top 58)) Xr ["_law_row"] ["_law_web_here","_law_ring","_law_hues"] [0,1,2] rfl rfl rfl Bd Bd (lC 0) Bd (kZ (gv 5)) (λ_ _ _ _ _ _=>(lE 0 Bd rfl Bd)) (λ_ _ _ _ _ _=>(vC (kY (gc Fk.QG Tp.MF hr qU pB (aq (bB 1) (aq (bB 2) (aq (bB 3) (aq (bH (bB 0) (vo aF)) (aq (bH (bB 0) aF) aG))))))))) (λ_ _ _ _ _ _=>(bB 0)))))
 (aH (eO 4 nd rfl jl rfl (gv 5))
 aN)))))
 (aH (bW (zek Tp.z9 gk (aq (gv 3) aG)))
 aN))))
 t38:=fJ Tp.Yg ["_law_pen_here","_law_row","_law_k","_law_at","_law_odd_here","_law_rows"] zpp λ_ _ _ _ _ _ hr=>(aH (eO 3 nd rfl jl rfl (gc Fk.rA Tp.ql hr cM gk (aq (gv 0) (aq (bT fM (tV Tp.z4 gk (aq (gv 1) aG)) aF) aG))))
 (aH (eO 4 nd rfl jl rfl (bH (gR (aq kj (aq kj (aq yX (aq (vo aF) (aq (gv 2) (aq nO (aq (dR (aq aF aG)) (aq (gc Fk.rA Tp.ql hr cM gk (aq (gv 0) (aq (gv 2) aG))) aG))))))))) (gc Fk.rA Tp.ql hr cM gk (aq (gv 0) (aq aF aG)))))
 (aH (eO 5 nd rfl jl rfl (gR (aq (bT fM (bT fM (nP (gv 1) oK (m5 (gv 3))) (dR (aq (gv 4) aG))) (nP (gv 1) (m5 (bT fM (gv 3) aF)) oK)) (aq (bT fM (nP (gv 1) oK (m5 (gv 3))) (nP (gv 1) (m5 (bT fM (gv 3) aF)) oK)) (aq (bT fM (gv 1) (dR (aq aF aG))) (aq (znE Tp.Yj gk (aq (gv 1) aG)) (aq yX (aq (dR (aq (gv 1) aG)) aG))))))))
 (aH (bW (bH (gv 5) (bH (gR (aq aF (aq aF (aq aF (aq aF (aq aF (aq aF (aq aF (aq aF (aq aF aG)))))))))) (gc Fk.rA Tp.ql hr cM gk (aq (gv 0) (aq aF aG))))))
 aN))))
 t39:=fJ Tp.Yh Qv zo3 λ_ _ _ _ _ _ hr=>(aH (gU (rT (yZ (mZ (kY (lD Tp.cs Tp.z0 gk (gv 3) (wO rfl Tp.z3 KR gk dk)))) (yZ (fO (vp hr) (tV Tp.z4 gk (aq (gv 3) aG)) aF) (Bl (mZ (kY (Bm rfl Tp.z8 gk (aq (m6 (aA (top 60)) Qv ["_law_one"] [] [] rfl rfl rfl Bd Bd (lC 0) Bd (kZ (gv 3)) (λ_ _ _ _ _ _=>(lE 0 Bd rfl Bd)) (λ_ _ _ _ _ _=>qe) (λ_ _ _ _ _ _=>(gc Fk.Ym Tp.Qx hr qU pB (aq (bB 0) aG)))) aG)))))))) (aH (bW kj)
 aN) aN)
 (aH (gU (rT (yZ (fO (wN hr) (m6 (aA (top 60)) Qv ["_law_one"] ["_law_web_here"] [0] rfl rfl rfl Bd Bd (lC 0) Bd (kZ (gv 3)) (λ_ _ _ _ _ _=>(lE 0 Bd rfl Bd)) (λ_ _ _ _ _ _=>(vC (zoK Tp.sE pB (bB 0) (bH (bB 1) aF)))) (λ_ _ _ _ _ _=>(bB 0))) (gR aG)) (Bl (fO (wN hr) (zpg rfl Tp.z4 gk Tp.Yk gk (aq (gv 3) aG)) (tV Tp.z4 gk (aq (gv 3) aG)))))) (aH (bW kj)
 aN) aN)
 (aH (gU (fO (wN hr) (bH (gv 3) aF) (ziR rfl Tp.z5 gk (aq (gv 3) aG))) (aH (bW kj)
 aN) aN)
 (aH (bW (Bm rfl Tp.z8 gk (aq (m6 (aA (top 60)) Qv ["_law_one","_law_other"] ["_law_web_here","_law_ring","_law_hues"] [0,1,2] rfl rfl rfl Bd Bd (Gw 0 1) Bd (Vl Tp.z7 gk (gv 3) (bT fM (nP (gv 3) (m5 aF) oK) (nP (gv 3) oK (m5 aF)))) (λ_ _ _ _ _ _=>(K5 0 1 rfl Bd rfl rfl Bd Bd)) (λ_ _ _ _ _ _=>qe) (λ_ _ _ _ _ _=>(gc Fk.QG Tp.MF hr qU pB (aq (bB 2) (aq (bB 3) (aq (bB 4) (aq (bB 0) (aq (bB 1) aG)))))))) aG)))
 aN))))
 t40:=fJ Tp.Yi ["_law_web_here","_law_ring","_law_hues","_law_thing","_law_e"] Xp λ_ _ _ _ _ _ hr=>(aH (zoA 4 (dc:=0) rfl rfl ⟨rfl,rfl⟩ gk Tp.c0 nd rfl jl Tp.s0 (λ_ _ _ R' hp'=>(aH (bW (gc Fk.t19 Tp.XM hr R' gk (aq (gv 0) (aq (gv 1) (aq (gv 2) (aq (gv 3) aG))))))
 aN)) (λ_=>(aH (bW (gc Fk.q23 Tp.X4 (zgq hr) qU gk (aq (gv 4) aG)))
 aN)) dk)
 aN)
 Yp:=fJ Tp.QB N41 zo7 λ_ _ _ _ _ _ hr=>(aH (eO 4 nd rfl jl rfl (Vn hr Tp.QF gk (aq (gv 3) aG)))
 (aH (eO 5 nd rfl jl rfl (gc Fk.t39 Tp.Yh hr cM gk (aq (gv 0) (aq (gv 1) (aq (gv 2) (aq (gv 3) aG))))))
 (aH (vD rW rfl rfl (zc Tp.sE gk aF) (Bp 6 nd rfl jl rfl) (aH (eO 7 nd rfl jl rfl (gc Fk.Yl Tp.Qw hr cM gk (aq (gv 0) (aq (gv 1) (aq (gv 2) (aq (gv 3) aG))))))
 (aH (gU (rT (yZ (mZ (kY (lD Tp.cs Tp.z0 gk (gv 7) (wO rfl Tp.z2 U_ gk dk)))) (Bl (fO (wN hr) (gv 7) (gv 5))))) (aH (bW kj)
 aN) aN)
 aN)))
 (aH (eO 8 nd rfl jl rfl (gc Fk.t40 Tp.Yi hr cM gk (aq (gv 0) (aq (gv 1) (aq (gv 2) (aq (gv 3) aG))))))
 (aH (gU (mZ (kY (gv 5))) (aH (bW (tU (vq (oJ hr) (gv 8) nO) (wM (vq (oJ hr) (Vn hr Tp.QF gk (aq (gv 3) aG)) (gv 4)))))
 aN) aN)
 (aH (eO 9 nd rfl jl rfl (zoI rfl Tp.z18 gk (aq (m6 (aA (top 62)) N41 ["_law_one","_law_other"] ["_law_hues","_law_ring"] [2,1] rfl rfl rfl Bd Bd (Gw 0 1) Bd (Vl Tp.z7 gk (gv 3) (bT fM (nP (gv 3) (m5 aF) oK) (nP (gv 3) oK (m5 aF)))) (λ_ _ _ _ _ _=>(K5 0 1 rfl Bd rfl rfl Bd Bd)) (λ_ _ _ _ _ _=>qe) (λ_ _ _ _ _ _=>(bT Bk (bT vm (bH (bB 2) (bB 1)) (bH (bB 2) (bB 0))) (bH (bB 3) aF)))) aG)))
 (aH (bW (tU (gc Fk.Ym Tp.Qx hr cM gk (aq (gv 8) aG)) (tU (vq (oJ hr) (bT wL (gv 8) (bH (gv 1) aF)) (gv 9)) (wM (vq (oJ hr) (Vn hr Tp.QF gk (aq (gv 3) aG)) (gv 4))))))
 aN)))))))
 t42:=fJ Tp.QC G9 zo8 λ_ _ _ _ _ _ hr=>(aH (vD rW rfl rfl (kZ (gR (aq (dR (aq aF (aq aF aG))) (aq (dR (aq aF (aq aF aG))) (aq (dR (aq aF aG)) (aq (dR (aq aF (aq kj aG))) (aq (gR (aq aF (aq aF aG))) (aq yX (aq (dR (aq aF (aq aF aG))) (aq (dR (aq aF (aq aF (aq aF aG)))) aG)))))))))) (Bp 1 nd rfl jl rfl) (aH (gU (mZ (kY (gc Fk.Yp Tp.QB hr cM gk (aq (dR (aq aF (aq (dR (aq (dR (aq aF (aq aF aG))) aG)) aG))) (aq (dR (aq aF (aq aF aG))) (aq (dR (aq aF (aq aF aG))) (aq (gv 1) aG))))))) (aH (bW kj)
 aN) aN)
 aN))
 (aH (vD rW rfl rfl (kZ (bT fM (gR (aq (gc Fk.t25 Tp.X6 hr cM gk (aq (gv 0) (aq aF aG))) aG)) (nP (gv 0) (m5 aF) (m5 aF)))) (Bp 2 nd rfl jl rfl) (aH (eO 3 nd rfl jc rfl (gc Fk.t26 Tp.X7 hr cM gk (aq (gv 2) aG)))
 (aH (eO 4 nd rfl jc rfl (gc Fk.t29 Tp.X8 hr cM gk (aq (gv 3) (aq (gc Fk.t34 Tp.Yc hr cM gk (aq (gv 3) aG)) aG))))
 (aH (eO 5 nd rfl jc rfl (gc Fk.t33 Tp.Yb hr cM gk (aq (gv 3) (aq (gv 4) aG))))
 (aH (eO 6 nd rfl jc rfl (gc Fk.t35 Tp.Yd hr cM gk (aq (gv 3) (aq (gv 4) (aq (gv 5) aG)))))
 (aH (eO 7 nd rfl jl rfl (nP (gc Fk.t37 Tp.Ye hr cM gk (aq (gv 4) (aq (gv 5) (aq (gv 6) aG)))) oK (m5 aF)))
 (aH (eO 8 nd rfl jl rfl (bT fM (bT fM (gv 7) (m6 (aA (top 63)) G9 ["_law_row"] [] [] rfl rfl rfl Bd Bd (lC 0) Bd (kZ (gv 7)) (λ_ _ _ _ _ _=>(lE 0 Bd rfl Bd)) (λ_ _ _ _ _ _=>qe) (λ_ _ _ _ _ _=>(bT fM (nP (bB 0) (m5 aF) oK) (nP (bB 0) oK (m5 aF)))))) (m6 (aA (top 63)) G9 ["_law_row"] [] [] rfl rfl rfl Bd Bd (lC 0) Bd (kZ (gv 7)) (λ_ _ _ _ _ _=>(lE 0 Bd rfl Bd)) (λ_ _ _ _ _ _=>qe) (λ_ _ _ _ _ _=>(bT fM (nP (bB 0) oK (m5 aF)) (zkJ (bB 0)))))))
 (aH (eO 9 nd rfl jl rfl (K3 Tp.z3 gk (aq (m6 (aA (top 63)) G9 ["_law_turn"] ["_law_pen_here","_law_web_here"] [3,4] rfl rfl rfl Bd Bd (lC 0) Bd (zc Tp.sE gk aF) (λ_ _ _ _ _ _=>(lE 0 Bd rfl Bd)) (λ_ _ _ _ _ _=>qe) (λ_ _ _ _ _ _=>(gc Fk.rA Tp.ql hr qU pB (aq (bB 1) (aq (bH (bB 2) aF) aG))))) aG)))
 (aH (eO 10 nd rfl jc rfl (bH (bT fM (gv 7) (gR (aq (gv 9) aG))) (gc Fk.rA Tp.ql hr cM gk (aq (gv 3) (aq (bT fM (tV Tp.z4 gk (aq (gv 7) aG)) aF) aG)))))
 (aH (eO 8 nd rfl jl rfl (bT fM (bT fM (gv 8) (gR (aq (gv 9) (aq (gc Fk.t24 Tp.X5 hr cM gk (aq (gv 3) aG)) aG)))) (m6 (aA (top 63)) G9 ["_law_turn"] ["_law_pen_here","_law_row","_law_web_here"] [3,10,4] rfl rfl rfl Bd Bd (lC 0) Bd (zc Tp.sE gk aF) (λ_ _ _ _ _ _=>(lE 0 Bd rfl Bd)) (λ_ _ _ _ _ _=>qe) (λ_ _ _ _ _ _=>(gc Fk.t38 Tp.Yg hr qU pB (aq (bB 1) (aq (bB 2) (aq (bH (bB 3) aF) aG))))))))
 (aH (gU (mZ (kY (Bm rfl Tp.z8 gk (aq (m6 (aA (top 63)) G9 ["_law_thing"] ["_law_web_here","_law_ring","_law_hues"] [4,5,6] rfl rfl rfl Bd Bd (lC 0) Bd (kZ (gv 8)) (λ_ _ _ _ _ _=>(lE 0 Bd rfl Bd)) (λ_ _ _ _ _ _=>qe) (λ_ _ _ _ _ _=>(gc Fk.Yp Tp.QB hr qU pB (aq (bB 1) (aq (bB 2) (aq (bB 3) (aq (bB 0) aG))))))) aG)))) (aH (bW kj)
 aN) aN)
 aN)))))))))))
 (aH (bW kj)
 aN)))
theorem zjg(Tp:Top K mg):∀k,Fs P w K mg base k
 |0=>⟨eN,eN,eN,eN,eN,eN,eN,eN,eN,eN,eN,eN,eN,eN,eN,eN,eN,eN,eN,eN,eN,eN,eN,eN,eN,eN,eN,eN,eN,eN,eN,eN,eN,eN,eN,eN,eN,eN,eN,eN,eN,eN,eN⟩|k+1=>zj3 Tp (zjg Tp k)
end
theorem all_mk{l:PySem.W.OpenLaw}{w:World}{K:W.Frag}{h:Heap}{mg:Str->Option Value}{fa:Addr}(hm:∀ns:List Int,ns.length<=63->∃s',call ao T 60 true 42 [.d (.fl (ns.map D.int))] []=some (.ok (.d (.bl true)),s'))
  (S:iZ fs ms xs lk K) (X:K.In h) (G:h.Ns mainGlobals mg) (Yq:mg "law"=some (.ref fa)) :
  ∃fd:FuncData,(∀(s:Shared) (u:Value),BindsTo s fd ⟨[u],[]⟩ [("_law_script",u)])/\∀base:Heap,K.In base->base.Ns mainGlobals mg->fU l.prog w K mg base (lq l.prog w) true 60 fa fd ["_law_script"] (vh K):=by
 let Tp:Top K mg:=zmm S X G;let e:=Yq.symm.trans Tp.QC.m;cases e;show⟨_,Et Tp.QC.f (λ_ _ _ _ _ _ _=>rfl),λbase _ _=>(zjg Tp 60).t42.imp (zkN hm)⟩
end gj
namespace gj
open PySem Mi
def jP(o:SO):Prop:=∃a b:Int,o=.lst [.int a,.int b]/\0<=a/\(b=0\/b=1)
theorem ziY{k:Nat}{o:SO}{m:Int}(ho:jP o)(hm:0<m)(Gk:m<1073741824):W (call ao T (k+1) true 27 [.l 0,.d (.int m)]) [o] λv s=>∃d o',v=.d d/\s=[o']/\(∃r:Int,d=.int r/\0<=r/\r<m)/\jP o':=by
 let⟨a,b,rfl,ha,hb⟩:=ho;show W.call zpo rfl ?_;unfold Xa;rcases hb with rfl|rfl
 .refine Y ?_;show⟨_,_,rfl,rfl,⟨_,rfl,Oc _ gV,Rm _ hm⟩,⟨_,_,rfl,Oc _ J0,.inl rfl⟩⟩
 .refine Y ?_;show⟨_,_,rfl,rfl,⟨_,rfl,Oc _ gV,Rm _ hm⟩,⟨_,_,rfl,Int.ediv_nonneg ha gV,.inr rfl⟩⟩
theorem zoo{k:Nat}{n:Int}:W (call ao T (k+1) true 26 [.d (.int n)]) [] λv s=>∃i o,v=.l i/\s[i]?=some o/\jP o:=by
 show W.call zo4 rfl ?_;unfold W_;ext;show⟨0,_,rfl,rfl,⟨_,_,rfl,?_,?_⟩⟩
 .split<;>lia
 .let:∀c:Bool,(if c=true then (1:Int) else 0)=0\/(if c=true then (1:Int) else 0)=1:=by intro c;cases c<;>simp
  show this _
theorem vX{k:Nat}{o:SO}{m:Int}{P:Xv->S->Prop}(ho:jP o)(hm:0<m)(Gk:m<1073741824)(h:∀(r:Nat) o',(r:Int)<m->jP o'->P (.d (.int r)) [o']):W (cG (call ao T (k+1) true 27) [.l 0,.d (.int m)]) [o] P:=by
 show Vp (n:=0) (o:=o) rfl rfl ((ziY ho hm Gk).imp λv s=>?_);rintro⟨d,o',rfl,rfl,⟨r,rfl,h0,h1⟩,hp⟩;let⟨n,rfl⟩:=Fx h0;show⟨_,_,rfl,rfl,h n o' h1 hp⟩
theorem znz{k:Nat}{ns:List Int}:W (call ao T (k+1) true 25 [.d (.fl (ns.map D.int)),.d (.int 0)]) [] λv _=>∃n,v=.d (.int n):=by
 show W.call zpb rfl ?_;unfold W9;cases ns with
 |nil=>
  ext;show⟨_,rfl⟩
 |cons n r=>
  ext;show WS.ite (λ_=>?_) (λ_=>?_)
  .refine Y ?_;show bI (Ew (i:=0) (x:=.int n) rfl) ?_;ext;show⟨_,rfl⟩
  .refine Y ?_;show⟨_,rfl⟩
theorem zfm{k':Nat}{k a b:Int}:W (call ao T (k'+1) true 30 [.d (.int k),.d (.int a),.d (.int b)]) [] λv s=>v=.d (.int (fW k a b)):=W.eq (a:=.d (.int (fW k a b))) (s':=[]) rfl rfl
theorem zoP{k':Nat}{n k d:Int}{ps:List (Int×Int)}{hs:List Int}(h:Web n ps)(hl:(hs.length:Int)=n):W (call ao T (k'+2) true 31 [.d (bw n ps),.d (aM k d),.d (.tup (hs.map .int))]) [] λv s=>v=.d (.bl (zB k d ps hs)):=by
 show W.call zpl rfl ?_;unfold Xc bw aM;let qm:(100:Nat)<=sizeLine:=by decide
 let hlen:=h.len;let h8:=h.h8;ext;show lX (l:=ps) (f:=cI) (λp=>if d<=fW k (at' hs p.1) (at' hs p.2) then none else some (cI p)) gV ?_ (λp hp=>?_) ?_
 .refine Y ?_;show⟨rfl,rfl⟩
 .obtain⟨a,b⟩:=p;let ht:=h.tie _ hp;dsimp only at ht;ext;show bI (sy gV gV) ?_;ext;show bI (sy gV gV) ?_;ext;show W.c0 zfm ?_;ext;show⟨rfl,λhb=>?_,λhb=>?_⟩
  .refine Y ?_;let hb:=fj hb;show⟨rfl,_,rfl,by rw[if_neg gV]⟩
  .let hb:=Ny hb;rw[if_pos gV]
 .refine Y ?_;show bI (GR (f:=id)) ?_;change Xv.d (D.bl (decide _))=_
  congr 2
  rw[Bool.eq_iff_iff,decide_eq_true_iff,nA,oM]
  constructor
  .intro h p hp;let:=h p hp;split at this
   .assumption
   .cases this
  .intro h p hp;rw[if_pos (h p hp)]
theorem QJ{r:List Int}{x:Int}:(((r.map D.int++[D.int x]).length:Nat):Int)=(r.length:Int)+1:=by simp
noncomputable def nF(n:Int)(ps:List (Int×Int)):List Int:=((List.range n.toNat).filter λ(i:Nat)=>ps.all λp=>decide (p.1≠(i:Int)/\p.2≠(i:Int))).map λ(i:Nat)=>(i:Int)
theorem ziu{n:Int}{ps:List (Int×Int)}:∀j∈nF n ps,(0<=j/\j<n)/\∀p∈ps,p.1≠j/\p.2≠j:=by
 intro j hj;let⟨i,hi,rfl⟩:=cW.mp hj;let⟨h1,h2⟩:=jk.mp hi;let:=gC.mp h1;show⟨by lia,λp hp=>fj (gY.mp h2 p hp)⟩
theorem zf6{k':Nat}{n k d:Int}{ps:List (Int×Int)}(h:Web n ps)(hk:1<=k)(hd:1<=d)(hB:(n.toNat+1)*(k.toNat+1)^n.toNat+n.toNat<1000000000)(hd2:d<1000) :
  W (call ao T (k'+2) true 32 [.d (bw n ps),.d (aM k d)]) [] λv s=>(v=.d .non/\∀hs,¬cj n k d ps hs)\/∃hs,v=.d (.tup (hs.map .int))/\cj n k d ps hs:=by
 show W.call zoY rfl ?_;unfold Xd;let qm:(1000:Nat)<=sizeLine:=by decide
 let h1:=h.h1;let h8:=h.h8;let hlen:=h.len;let hwk:j8=1000000000000:=rfl;let Fv:ps.map cI=[]↔ps=[]:=List.map_eq_nil_iff;unfold bw aM;by_cases c1:ps≠[]/\k<2*d
 .refine Y ?_;show bI (zll (f:=not)) ?_;rw[f9 (λe=>c1.1 (Fv.mp e))];ext;rw[cO c1.2];ext;show .inl ⟨rfl,zmX hd c1.1 c1.2⟩
 show WS.cons (GQ ?_);show W.imp (P:=λx s1=>x=.d (.bl false)/\s1=[]) ?_ λx s1 hx=>?_
 .refine Y ?_;show bI (zll (f:=not)) ?_;by_cases e:ps=[]
  .rw[cO (Fv.mpr e)];ext;show⟨rfl,rfl⟩
  .rw[f9 (λz=>e (Fv.mp z))];ext;rw[f9 (λz=>c1 ⟨e,z⟩)];show⟨rfl,rfl⟩
 let⟨rfl,rfl⟩:=hx;show W.bool (WS.Ey ?_);ext;show wQ (λi J s=>s=[]/\∃(ts:List Int) (a3 a4 a5:Option Xv),J=[some (.d (.tup [.int n,.tup (ps.map cI)])),some (.d (.tup [.int k,.int d])),some (.d (.fl (ts.map .int))),a3,a4,a5,none,none,none,none]/\ts.length<=8*i/\(ts≠[]->∃x y z,(x,y)∈ps/\(x,z)∈ps/\(y,z)∈ps)) ⟨rfl,[],_,_,_,rfl,by simp,λe=>absurd rfl e⟩ (λi x J s e hI=>?_) (λJ s hI=>?_)
 .obtain⟨rfl,ts,a3,a4,a5,rfl,hl,Yr⟩:=hI;rw[ji]at e;cases ep:ps[i]? with
  |none=>rw[ep]at e;cases e|some p=>
   rw[ep]at e;cases e;let⟨a,b⟩:=p;let hp:=iH ep;let hi:i<ps.length:=(h_.mp ep).1;ext;show lX (l:=List.range (n-0).toNat) (f:=λ(j:Nat)=>.int (0+j)) (λ(j:Nat)=>if (a,0+(j:Int))∈ps/\(b,0+(j:Int))∈ps then some (.int (0+j)) else none) (by rw[nG];lia) ?_ (λj hj=>?_) ?_
   .refine Y ?_;show⟨by rw[pA gV gV,pA gV gV];rfl,?_⟩;show⟨rfl,rfl⟩
   .refine Y ?_;show bI (Vz (f:=id) (p:=(a,0+(j:Int)))) ?_;by_cases q1:(a,0+(j:Int))∈ps
    .rw[cO q1];ext;show bI (Vz (f:=id) (p:=(b,0+(j:Int)))) ?_;ext;show⟨rfl,λhb=>?_,λhb=>?_⟩
     .refine Y ?_;show⟨rfl,_,rfl,by rw[if_pos ⟨q1,fj hb⟩]⟩
     .rw[if_neg (λz=>absurd z.2 (Ny hb))]
    .rw[f9 q1];ext;show⟨rfl,?_,λ_=>?_⟩
     .intro hb;cases hb
     .rw[if_neg (λz=>q1 z.1)]
   .refine Y ?_;let e1:∀l:List Nat,∃us:List Int,l.filterMap (λ(j:Nat)=>if (a,0+(j:Int))∈ps/\(b,0+(j:Int))∈ps then some (D.int (0+j)) else none)=us.map .int/\us.length<=l.length/\(us≠[]->∃j:Int,(a,j)∈ps/\(b,j)∈ps):=by
     intro l
     induction l with
     |nil=>show⟨[],rfl,bQ _,λe=>absurd rfl e⟩|cons j r ih=>
      let⟨us,q1,q2,q3⟩:=ih;rw[sO];by_cases z:(a,0+(j:Int))∈ps/\(b,0+(j:Int))∈ps
      .rw[if_pos z,q1];show⟨(0+(j:Int))::us,rfl,by simp;lia,λ_=>⟨_,z⟩⟩
      .rw[if_neg z,q1];show⟨us,rfl,by simp;lia,q3⟩
    let⟨us,q1,q2,q3⟩:=e1 (List.range (n-0).toNat);rw[q1];rw[nG]at q2;show rZ (zA ?_) ?_
    .rw[aY,aY];lia
    ext;show⟨_,rfl,rfl,ts++us,_,_,some (.d (.fl (us.map .int))),by rw[iu];rfl,by rw[bZ];lia,λhne=>?_⟩;by_cases t0:ts=[]
    .subst t0;let⟨j,w1,w2⟩:=q3 (by simpa using hne);show⟨a,b,j,hp,w1,w2⟩
    .exact Yr t0
 .obtain⟨rfl,ts,a3,a4,a5,rfl,hl,Yr⟩:=hI;let Ys:ts.map D.int=[]↔ts=[]:=List.map_eq_nil_iff;by_cases c2:ts≠[]/\k<3*d
  .refine Y ?_;show bI (GR (f:=not)) ?_;rw[f9 (λe=>c2.1 (Ys.mp e))];ext;rw[cO c2.2];ext;show .inl ⟨rfl,zif hd (Yr c2.1) c2.2⟩
  show WS.cons (GQ ?_);show W.imp (P:=λx s1=>x=.d (.bl false)/\s1=[]) ?_ λx s1 hx=>?_
  .refine Y ?_;show bI (GR (f:=not)) ?_;by_cases e:ts=[]
   .rw[cO (Ys.mpr e)];ext;show⟨rfl,rfl⟩
   .rw[f9 (λz=>e (Ys.mp z))];ext;rw[f9 (λz=>c2 ⟨e,z⟩)];show⟨rfl,rfl⟩
  let⟨rfl,rfl⟩:=hx;show W.bool (WS.Ey ?_);ext;show lX (l:=List.range (n-0).toNat) (f:=λ(j:Nat)=>.int (0+j)) (λ(j:Nat)=>if (ps.all λp=>decide (p.1≠(j:Int)/\p.2≠(j:Int)))=true then some (.int j) else none) (by rw[nG];lia) ?_ (λj hj=>?_) ?_
  .refine Y ?_;show⟨by rw[pA gV gV,pA gV gV];rfl,?_⟩;show⟨rfl,rfl⟩
  .refine Y ?_;show lX (l:=ps) (f:=cI) (λp=>if p.1=(j:Int)\/p.2=(j:Int) then some (cI p) else none) gV ?_ (λp hp=>?_) ?_
   .refine Y ?_;show⟨rfl,rfl⟩
   .obtain⟨a,b⟩:=p;ext;show⟨rfl,λhb=>?_,λhb=>?_⟩
    .refine Y ?_;simp at hb;show⟨rfl,_,rfl,by rw[if_pos hb]⟩
    .simp at hb;rw[if_neg (by simp;lia)]
   .refine Y ?_;show bI (GR (f:=id)) ?_;ext;let uI:(ps.filterMap (λp=>if p.1=(j:Int)\/p.2=(j:Int) then some (cI p) else none)=[])↔(ps.all λp=>decide (p.1≠(j:Int)/\p.2≠(j:Int)))=true:=by
     rw[nA,gY]
     constructor
     .intro h p hp;let:=h p hp;apply cO;split at this
      .cases this
      .lia
     .intro h p hp;let:=fj (h p hp);rw[if_neg gV]
    show⟨rfl,λhb=>?_,λhb=>?_⟩
    .refine Y ?_;rw[if_pos (uI.mp (fj hb))];show⟨rfl,_,rfl,by congr 2;lia⟩
    .rw[if_neg (λz=>absurd (uI.mpr z) (Ny hb))]
  .let el:(List.range (n-0).toNat).filterMap (λ(j:Nat)=>if (ps.all λp=>decide (p.1≠(j:Int)/\p.2≠(j:Int)))=true then some (D.int j) else none)=(nF n ps).map .int:=by
    unfold nF;rw[nW,show n-0=n by lia];generalize List.range n.toNat=l
    induction l with
    |nil=>rfl|cons j r ih=>
     rw[sO,Ae];cases q:(ps.all λp=>decide (p.1≠(j:Int)/\p.2≠(j:Int)))
     .simp[ih]
     .simp[ih]
   rw[el];let hls:=ziu (n:=n) (ps:=ps);generalize nF n ps=ls at hls;ext;let hB0:left' (k.toNat+1) n.toNat [0]<=(n.toNat+1)*(k.toNat+1)^n.toNat+n.toNat:=by
    unfold left';let:=Nat.mul_le_mul_left (n.toNat+1) (Nat.sub_le ((k.toNat+1)^n.toNat) (val (k.toNat+1) [0] n.toNat))
    lia
   show WS.wh (λm J s=>∃(r:List Int) (x:Int) (a8 a9:Option Xv),J=[some (.d (.tup [.int n,.tup (ps.map cI)])),some (.d (.tup [.int k,.int d])),some (.d (.fl (ts.map .int))),a3,a4,a5,some (.d (.fl (ls.map .int))),some (.l 0),a8,a9]/\s=[.lst (r.map .int++[.int x])]/\zE n k d ps ls r x/\m=left' (k.toNat+1) n.toNat (r++[x])) (m:=left' (k.toNat+1) n.toNat [0]) gV ⟨[],0,none,none,rfl,rfl,VH h1 hk (λp hp=>⟨(h.tie p hp).1,(h.tie p hp).2.1⟩),rfl⟩ λm J s hI=>?_;let⟨r,x,a8,a9,rfl,rfl,St,rfl⟩:=hI;let g1:=St.len;let g2:=St.x0;let g3:=St.xk;let MJ:∀z∈r,z<((k.toNat+1:Nat):Int):=λz hz=>by let:=St.lo z hz;lia
   ext;show bI (zmH gV gV) ?_;ext;show⟨λh0=>?_,λh0=>?_⟩
   .let h0:at' (r++[x]) 0=0:=by simpa using h0
    by_cases cA:x=k\/(0<x/\(r.length:Int)∈ls)
    .-- back
     let hne:r≠[]:=by
      rintro rfl;let:at' ([]++[x]) ((([]:List Int).length:Nat):Int)=x:=Bt;let e0:at' ([]++[x]) 0=x:=this;rw[e0]at h0;rcases cA with e|e
      .lia
      .lia
     obtain⟨r',y,rfl⟩ : ∃r' y,r=r'++[y]:=⟨r.dropLast,r.getLast hne,(List.dropLast_concat_getLast hne).symm⟩;let hy:=St.lo y V8;let pO:(r'.length:Int)+1<n:=by rw[bZ]at g1;simpa using g1
     show WS.cons (GQ ?_);show W.imp (P:=λv s1=>v=.d (.bl true)/\s1=[.lst ((r'++[y]).map .int++[.int x])]) ?_ λv s1 hv=>?_
     .refine Y ?_;show bI Bu ?_;ext;by_cases e:x=k
      .subst e;show W.Lf V8 ?_;ext;show⟨rfl,rfl⟩
      .rcases cA with cA|cA
       .exact absurd cA e
       show W.GP (by simp;show e) ?_;ext;show bI Bu ?_;ext;rw[cO cA.1];ext;show bI (zmk (f:=id)) ?_;rw[QJ,show ((r'++[y]).length:Int)+1-1=((r'++[y]).length:Int) by lia,cO cA.2];show⟨rfl,rfl⟩
     let⟨rfl,rfl⟩:=hv;show W.bool (WS.wR ?_);show WS.cons (Kbg ?_);show W.pop (n:=0) (xs:=(r'++[y]).map .int) (x:=.int x) ?_;ext;show⟨rfl,rfl,?_⟩;rw[show [SO.lst ((r'++[y]).map D.int++[D.int x])].set 0 (.lst ((r'++[y]).map .int))=[.lst (r'.map .int++[.int y])] by rw[iu];rfl];ext;show bI (GR (f:=id)) ?_;rw[f9 V8];ext;show bI Bu ?_;ext;show su.mk (a:=r'.length) ?_ ?_
     .rw[bZ,aY];show VF
     ext;show .inl ⟨_,left' (k.toNat+1) n.toNat (r'++[y+1]),rfl,?_,r',y+1,a8,a9,rfl,?_,zjW h St cA,rfl⟩
     .exact zhW hy.1 gV g2 gV (λz hz=>MJ z (nR _ hz)) gV
     .let:(r'.map D.int++[D.int y]).set r'.length (.int (y+1))=r'.map .int++[.int (y+1)]:=by
       rw[List.set_append_right _ _ V8];simp
      change [SO.lst ((r'.map D.int++[D.int y]).set r'.length (.int (y+1)))]=_;rw[this]
    .-- on
     let QK:x≠k:=λe=>cA (.inl e);show WS.cons (GQ ?_);show W.imp (P:=λv s1=>v=.d (.bl false)/\s1=[.lst (r.map .int++[.int x])]) ?_ λv s1 hv=>?_
     .refine Y ?_;show bI Bu ?_;ext;show W.GP (by simp;show QK) ?_;ext;show bI Bu ?_;ext;by_cases e:0<x
      .rw[cO e];ext;show bI (zmk (f:=id)) ?_;rw[QJ,show (r.length:Int)+1-1=(r.length:Int) by lia,f9 (λz=>cA (.inr ⟨e,z⟩))];show⟨rfl,rfl⟩
      .rw[f9 e];ext;show⟨rfl,rfl⟩
     let⟨rfl,rfl⟩:=hv;show W.bool (WS.Ey ?_);ext;show lX (l:=ps) (f:=cI) (λp=>if p.2=(r.length:Int) then some (cI p) else none) gV ?_ (λp hp=>?_) ?_
     .refine Y ?_;show⟨rfl,rfl⟩
     .obtain⟨a,b⟩:=p;ext;rw[QJ,show (r.length:Int)+1-1=(r.length:Int) by lia];show⟨rfl,λhb=>?_,λhb=>?_⟩
      .refine Y ?_;show⟨rfl,_,rfl,by rw[if_pos (by simpa using hb)]⟩
      .rw[if_neg (by simpa using hb)]
     .let ef:ps.filterMap (λp=>if p.2=(r.length:Int) then some (cI p) else none)=(ps.filter λp=>decide (p.2=(r.length:Int))).map cI:=by
       generalize ps=l
       induction l with
       |nil=>rfl|cons p q ih=>
        rw[sO,Ae];by_cases e:p.2=(r.length:Int)
        .simp[e,ih]
        .simp[e,ih]
      rw[ef];let hfl:(ps.filter λp=>decide (p.2=(r.length:Int))).length<=ps.length:=Nk _ _;ext;show lX (l:=ps.filter λp=>decide (p.2=(r.length:Int))) (f:=cI) (λp=>if fW k (at' (r++[x]) p.1) x<d then some (cI p) else none) gV ?_ (λp hp=>?_) ?_
      .refine Y ?_;show⟨rfl,rfl⟩
      .obtain⟨Dk,hp2⟩:=jk.mp hp;let hp2:=fj hp2;let ht:=h.tie p Dk;let⟨a,b⟩:=p;dsimp only at hp2 ht;ext;show bI (zmH gV gV) ?_;ext;show bI Bu ?_;ext;show W.c0 zfm ?_;ext;show⟨rfl,λhb=>?_,λhb=>?_⟩
       .refine Y ?_;show⟨rfl,_,rfl,by rw[if_pos (fj hb)]⟩
       .rw[if_neg (Ny hb)]
      .refine Y ?_;show bI (GR (f:=not)) ?_;by_cases cN:∃p∈ps,p.2=(r.length:Int)/\fW k (at' (r++[x]) p.1) x<d
       .rw[f9 (λz=>by
         let⟨p,hp,e1,e2⟩:=cN;let:=nA.mp z p (jk.mpr ⟨hp,cO e1⟩);rw[if_pos e2]at this;cases this)]
        ext;show bI Bu ?_;ext;show su.mk (a:=r.length) ?_ ?_
        .rw[bZ,aY];show VF
        ext;show .inl ⟨_,left' (k.toNat+1) n.toNat (r++[x+1]),rfl,?_,r,x+1,_,_,rfl,?_,zjO h St QK cN,rfl⟩
        .exact zhG g2 gV MJ gV
        .let:(r.map D.int++[D.int x]).set r.length (.int (x+1))=r.map .int++[.int (x+1)]:=by
          rw[List.set_append_right _ _ V8];simp
         change [SO.lst ((r.map D.int++[D.int x]).set r.length (.int (x+1)))]=_;rw[this]
       .let hN:∀p∈ps,p.2=(r.length:Int)->d<=fW k (at' (r++[x]) p.1) x:=λp hp e=>by
         by_cases z:fW k (at' (r++[x]) p.1) x<d
         .exact absurd ⟨p,hp,e,z⟩ cN
         .lia
        rw[cO (nA.mpr λp hp=>by
         let⟨Dk,hp2⟩:=jk.mp hp;let:=hN p Dk (fj hp2);rw[if_neg gV])]
        ext;rw[QJ];by_cases cF:(r.length:Int)+1=n
        .refine WS.Lf (by simp;show cF) ?_;ext;show .inr ⟨_,rfl,.inr ⟨r++[x],by rw[iu];rfl,zhD St QK cF h.tie hN⟩⟩
        .refine WS.GP (by simp;show cF) ?_;ext;show⟨by rw[bZ,aY];simp;lia,?_⟩;ext;show .inl ⟨_,left' (k.toNat+1) n.toNat (r++[x]++[0]),rfl,zg3 (by rw[bZ];simp;lia),r++[x],0,_,_,rfl,?_,zhn St hk QK gV (λp hp=>⟨(h.tie p hp).1,(h.tie p hp).2.1⟩) hN,rfl⟩;rw[iu];rfl
   .let h0:at' (r++[x]) 0≠0:=by simpa using h0
    ext;show .inl ⟨rfl,λhs hh=>?_⟩;let⟨g,hg⟩:=zkk h hd hk hls hh;let:=St.ge g hg 0 (by rw[bZ];simp) (λi hi=>absurd hi (Oa _));let e1:at' (r++[x]) ((0:Nat):Int)=at' (r++[x]) 0:=rfl;let e2:at' g ((0:Nat):Int)=at' g 0:=rfl;rw[e1,e2,hg.z]at this;let rK:0<=at' (r++[x]) 0:=by
     let hm:=Qe (fs:=r++[x]) (j:=0) gV (by rw[bZ];simp);rcases dw.mp hm with z|z
     .exact(St.lo _ z).1
     .let:at' (r++[x]) 0=x:=by simpa using z
      lia
    lia
theorem zjQ{k:Nat}{i:Int}:W (call ao T (k+1) true 0 [.d (.int i)]) [] λv s=>v=.d (.bl true):=W.eq (a:=.d (.bl true)) (s':=[]) rfl rfl
theorem Yt{k:Nat}{a b:D}:W (call ao T (k+1) true 2 [.d (.tup [a,b]),.d (.int 2)]) [] λv s=>v=.d (.bl true):=W.eq (a:=.d (.bl true)) (s':=[]) rfl rfl
theorem eZ{k:Nat}{i a b:Int}:W (call ao T (k+2) true 1 [.d (.int i),.d (.int a),.d (.int b)]) [] λv s=>v=.d (.bl (decide (a<=i/\i<=b))):=by
 show W.call T_1 rfl ?_;unfold b1;ext;show W.c0 zjQ ?_;ext;show W.ite (λh1=>?_) (λh1=>?_)
 .refine Y ?_;let:=fj h1;simp[this]
 .refine Y ?_;simp at h1;let:¬(a<=i/\i<=b):=by lia
  simp[this]
theorem znn{k:Nat}{i:Int}(h1:1<=i)(h2:i<=8):W (call ao T (k+3) true 8 [.d (.int i)]) [] λv s=>v=.d (.bl true):=by
 show W.call T_8 rfl ?_;unfold b8;ext;show W.cV rfl (eZ.imp λv s e=>⟨_,e,by rw[cO (And.intro h1 h2)]⟩)
theorem zfP{k:Nat}{n i:Int}:W (call ao T (k+3) true 9 [.d (.int n),.d (.int i)]) [] λv s=>v=.d (.bl (decide (0<=i/\i<n))):=by
 show W.call Xn rfl ?_;unfold b9;ext;show W.cV rfl (eZ.imp λv s e=>⟨_,e,by rw[N6.mpr (show 0<=i/\i<=n-1↔0<=i/\i<n by lia)]⟩)
theorem zn1{k:Nat}{n:Int}{p:Int×Int}(h:0<=p.1/\p.1<p.2/\p.2<n):W (call ao T (k+4) true 10 [.d (.int n),.d (cI p)]) [] λv s=>v=.d (.bl true):=by
 let⟨a,b⟩:=p;let⟨h1,h2,h3⟩:=h;unfold cI;dsimp only at h1 h2 h3 ⊢;show W.call zo1 rfl ?_;unfold b10;ext;show W.c0 Yt ?_;ext;show W.c0 zfP ?_;rw[cO (show 0<=a/\a<n by lia)];ext;show W.c0 zfP ?_;rw[cO (show 0<=b/\b<n by lia)];ext;rw[cO h2]
theorem zjJ{k:Nat}{n:Int}{ps:List (Int×Int)}(h:Web n ps):W (call ao T (k+5) true 7 [.d (bw n ps)]) [] λv s=>v=.d (.bl true):=by
 show W.call T_7 rfl ?_;unfold b7 bw;let hl:(ps.map cI).length<=100:=by rw[aY];let:=h.len;let:=h.h8;lia
 let hs:(100:Nat)<=sizeLine:=by decide
 ext;show W.c0 Yt ?_;ext;show W.c0 (znn h.h1 h.h8) ?_;ext;show Kap (c:=ps.map cI) (λ_=>.bl true) gV ?_ (λx hx=>?_) ?_
 .refine Y ?_;show⟨rfl,rfl⟩
 .obtain⟨p,hp,rfl⟩:=cW.mp hx;ext;show W.cV rfl ((zn1 (h.tie p hp)).imp λv s e=>⟨_,e,rfl,rfl⟩)
 .refine Y ?_;show bI (Qd ?_) ?_
  .intro x hx;let⟨_,_,e⟩:=cW.mp hx;show e.symm
  ext;show Kap (c:=List.zipWith (λ(p q:D)=>D.tup [p,q]) (ps.map cI) ((ps.map cI).drop 1)) (λ_=>.bl true) (by rw[List.length_zipWith];lia) ?_ (λx hx=>?_) ?_
  .refine Y ?_;rw[Ln];show⟨rfl,rfl⟩
  .obtain⟨p,q,rfl,hpq⟩:=zjd h.inc x hx;ext;rw[znU hpq];show⟨rfl,rfl⟩
  .refine Y ?_;show bI (Qd ?_) ?_
   .intro x hx;let⟨_,_,e⟩:=cW.mp hx;show e.symm
   rfl
theorem zhZ{k:Nat}{n:Int}{ps:List (Int×Int)}(h:Web n ps):W (call ao T (k+6) true 11 [.d (bw n ps)]) [] λv s=>∃d,v=.d d:=by
 show W.call zoZ rfl ?_;unfold WT;ext;show W.c0 (zjJ h) ?_;ext;show⟨_,rfl⟩
theorem zik{k:Nat}{n i:Int}{ps:List (Int×Int)}(h:Web n ps):W (call ao T (k+1) true 12 [.d (bw n ps),.d (.int i)]) [] λv s=>v=.d (.tup ((bK i ps).map .int)):=by
 show W.call zpr rfl ?_;unfold WW bw;let hl:(ps.map cI).length<=100:=by rw[aY];let:=h.len;let:=h.h8;lia
 let hs:(100:Nat)<=sizeLine:=by decide
 ext;show lX (l:=ps) (f:=cI) (λp=>(endOf i p).map .int) (by rw[aY]at hl;lia) ?_ (λp hp=>?_) ?_
 .refine Y ?_;show⟨rfl,rfl⟩
 .obtain⟨a,b⟩:=p;ext;show⟨rfl,λhb=>?_,λhb=>?_⟩
  .refine Y ?_;show W.ite (λh1=>?_) (λh1=>?_)
   .refine Y ?_;show⟨rfl,_,rfl,?_⟩;let h1:a=i:=by simpa using h1
    simp[endOf,h1]
   .refine Y ?_;show⟨rfl,_,rfl,?_⟩;simp[xT]at h1 hb;rcases hb with hb|hb
    .exact absurd hb h1
    .simp[endOf,h1,hb]
  .simp[xT]at hb;simp[endOf,hb]
 .let he:ps.filterMap (λp=>(endOf i p).map D.int)=(bK i ps).map D.int:=by unfold bK;rw[List.map_filterMap]
  rw[he];ext;show rZ (zf9 (zij ?_ (zeB h i))) ?_
  .let:=Ho (endOf i) ps;let:=h.len;let:=h.h8;unfold bK
   lia
  show Y trivial
theorem ziL{k':Nat}{k d:Int}(hd:1<=d)(zG:d<=k)(hk:k<=24):W (call ao T (k'+3) true 3 [.d (aM k d)]) [] λv s=>v=.d (.bl true):=by
 show W.call T_3 rfl ?_;unfold b3 aM;ext;show W.c0 Yt ?_;ext;show W.c0 eZ ?_;rw[cO (show 1<=k/\k<=24 by lia)];ext;show W.c0 eZ ?_;rw[cO (show 1<=d/\d<=k by lia)]
theorem zfi{k':Nat}{k d:Int}(hd:1<=d)(zG:d<=k)(hk:k<=24):W (call ao T (k'+4) true 5 [.d (aM k d)]) [] λv s=>∃d,v=.d d:=by
 show W.call T_5 rfl ?_;unfold b5;ext;show W.c0 (ziL hd zG hk) ?_;ext;show⟨_,rfl⟩
theorem zh6{k':Nat}{k d x:Int}:W (call ao T (k'+3) true 4 [.d (aM k d),.d (.int x)]) [] λv s=>v=.d (.bl (decide (0<=x/\x<k))):=by
 show W.call T_4 rfl ?_;unfold b4 aM;ext;show W.cV rfl (eZ.imp λv s e=>⟨_,e,by rw[N6.mpr (show 0<=x/\x<=k-1↔0<=x/\x<k by lia)]⟩)
theorem zjr{k':Nat}{k d a b:Int}:W (call ao T (k'+1) true 6 [.d (aM k d),.d (.int a),.d (.int b)]) [] λv s=>v=.d (.int (fW k a b)):=W.eq (a:=.d (.int (fW k a b))) (s':=[]) rfl rfl
theorem znH{k':Nat}{xs:List D}{n:Int}(h:(xs.length:Int)=n):W (call ao T (k'+1) true 2 [.d (.tup xs),.d (.int n)]) [] λv s=>v=.d (.bl true):=by
 show W.call T_2 rfl ?_;unfold b2;ext;simp[h]
section
variable {n k d:Int}{ps:List (Int×Int)}{hs:List Int}
theorem zeL{k':Nat}(hn:n<=8)(hl:(hs.length:Int)=n)(hlo:∀x∈hs,0<=x/\x<k):W (call ao T (k'+4) true 14 [.d (bw n ps),.d (aM k d),.d (.tup (hs.map .int))]) [] λv s=>v=.d (.bl true):=by
 show W.call zpj rfl ?_;unfold WY bw;let qm:(100:Nat)<=sizeLine:=by decide
 ext;show W.c0 (znH (by rw[aY];show hl)) ?_;ext;show lX (l:=hs) (f:=D.int) (λ_=>some (.bl true)) gV ?_ (λx hx=>?_) ?_
 .refine Y ?_;show⟨rfl,rfl⟩
 .refine Y ?_;show⟨rfl,λ_=>?_,λhb=>by cases hb⟩;ext;show W.c0 zh6 ?_;rw[cO (hlo x hx)];show⟨rfl,_,rfl,rfl⟩
 .refine Y ?_;show bI (Qd ?_) ?_
  .intro x hx;let⟨_,_,e⟩:=zY.mp hx;show(dM e).symm
  show Y trivial
theorem zkE{k':Nat}(h:Web n ps)(hh:cj n k d ps hs):W (call ao T (k'+2) true 17 [.d (bw n ps),.d (aM k d),.d (.tup (hs.map .int))]) [] λv s=>v=.d .non:=by
 show W.call zo9 rfl ?_;unfold W3;let hl:=hh.len;let er:aM k d=.tup [.int k,.int d]:=rfl;ext;show wQ (λi J s=>s=[]/\∃(a b:Option Xv),J=[some (.d (bw n ps)),some (.d (aM k d)),some (.d (.tup (hs.map .int))),a,b]) ⟨rfl,_,_,rfl⟩ (λi x J s e hI=>?_) (λJ s hI=>?_)
 .obtain⟨rfl,a,b,rfl⟩:=hI;let hm:=iH e;let⟨p,hp,rfl⟩:=cW.mp hm;let ht:=h.tie p hp;let hf:=hh.fit p hp;let⟨a,b⟩:=p;dsimp only at ht hf;ext;show bI (sy gV gV) ?_;ext;show bI (sy gV gV) ?_;ext;show W.c0 zjr ?_;unfold aM;ext;rw[f9 gV];ext;show⟨_,rfl,rfl,_,_,rfl⟩
 .obtain⟨rfl,a,b,rfl⟩:=hI;show Y trivial
theorem zf5{k':Nat}(h:Web n ps)(hh:cj n k d ps hs):W (call ao T (k'+5) true 15 [.d (bw n ps),.d (aM k d),.d (.tup (hs.map .int))]) [] λv s=>v=.d (.bl true):=by
 show W.call zoS rfl ?_;unfold W0;ext;show W.c0 (zeL h.h8 hh.len hh.lo) ?_;ext;show W.c0 (zkE h hh) ?_;ext;rfl
theorem zgt{k':Nat}(h:Web n ps)(hd:1<=d)(zG:d<=k)(hk:k<=24)(hh:cj n k d ps hs):W (call ao T (k'+7) true 16 [.d (bw n ps),.d (aM k d),.d (.tup (hs.map .int))]) [] λv s=>∃d,v=.d d:=by
 show W.call zpf rfl ?_;unfold W2;ext;show W.c1 (zhZ h) λ_=>?_;ext;show W.c1 (zfi hd zG hk) λ_=>?_;ext;show W.c0 (zf5 h hh) ?_;ext;show⟨_,rfl⟩
end
theorem zig{k:Nat}{o:SO}{n:Int}(ho:jP o)(h1:1<=n)(h8:n<=8):W (call ao T (k+2) true 29 [.l 0,.d (.int n)]) [o] λv s=>∃ps o',v=.d (bw n ps)/\s=[o']/\Web n ps/\jP o':=by
 show W.call zoV rfl ?_;unfold Xb;let hs:(100:Nat)<=sizeLine:=by decide
 ext;show vX ho J0 J0 λr o' hr hp=>?_;ext;let wH:r<3:=by lia
 show bI (Ew (x:=.int (([2,4,6]:List Int)[r]'wH)) ?_) ?_
 .revert wH;revert r;intro r _ wH;show match r,wH with
  |0,_=>rfl|1,_=>rfl|2,_=>rfl|n+3,h=>absurd h gV
 generalize ([2,4,6]:List Int)[r]=often;ext;show⟨by rw[pA gV gV,pA gV gV];rfl,?_⟩;show wQ (λ(i:Nat) J s=>∃(ps:List (Int×Int)) (a:Option Xv) (o':SO),J=[some (.l 0),some (.d (.int n)),some (.d (.int often)),some (.d (.fl (ps.map cI))),a]/\s=[o']/\jP o'/\(∀p∈ps,0<=p.1/\p.1<(i:Int)/\p.1<p.2/\p.2<n)/\ps.Pairwise lx/\ps.length<=7*i)
  ⟨[],_,_,rfl,rfl,hp,by simp,by simp,by simp⟩ (λi x J s e hI=>?_) (λJ s hI=>?_)
 .obtain⟨ps,a,o',rfl,rfl,hp,ht,Fw,hlen⟩:=hI;let⟨rfl,hi⟩:=Lp e;let hi8:i<8:=by lia
  ext;show Vy (c:=jh (0+(i:Int)+1) n) (λ(j:Nat) acc s=>∃(es:List Int) (o':SO),acc=es.map (λe=>cI (0+(i:Int),e))/\es.Pairwise (·<·)/\(∀e∈es,(i:Int)<e/\e<(i:Int)+1+j)/\s=[o']/\jP o') ?_ (λj x acc s e hJ=>?_) (λacc s hJ=>?_)
  .refine Y ?_;show⟨by rw[pA gV gV,pA gV gV];rfl,?_⟩;show⟨rfl,[],_,rfl,by simp,by simp,rfl,hp⟩
  .obtain⟨es,o',rfl,wY,BR,rfl,hp⟩:=hJ;let⟨rfl,hj⟩:=Lp e;let Qk:(es.length:Int)<=(i:Int)+1+j-((i:Int)+1):=VB wY (λe he=>by let:=BR e he;lia) gV;ext;show vX hp J0 J0 λr o' hr hp=>?_;ext;show⟨λhb=>?_,λhb=>?_⟩
   .refine Y ?_;show⟨_,rfl,by rw[aY];lia,es++[0+(i:Int)+1+j],o',?_,?_,?_,rfl,hp⟩
    .rw[iu];rfl
    .rw[FJ];show⟨wY,by simp,λa ha b hb=>?_⟩;simp at hb;let:=BR a ha
     lia
    .intro e he;rcases dw.mp he with he|he
     .let:=BR e he;lia
     .simp at he;lia
   .exact⟨es,o',rfl,wY,λe he=>by let:=BR e he;lia,rfl,hp⟩
  .obtain⟨es,o',rfl,wY,BR,rfl,hp⟩:=hJ;rw[Lq]at BR;let Qk:(es.length:Int)<=n-((i:Int)+1):=VB wY (λe he=>by let:=BR e he;lia) gV;ext;show rZ (zA ?_) ?_
   .rw[aY,aY];lia
   ext;show⟨_,rfl,ps++es.map (λe=>(0+(i:Int),e)),some (.d (.int (0+(i:Int)))),o',?_,rfl,hp,?_,?_,?_⟩
   .rw[iu,nW];rfl
   .intro p hp;rcases dw.mp hp with hp|hp
    .let:=ht p hp;lia
    .obtain⟨e,he,rfl⟩:=cW.mp hp;let:=BR e he;dsimp only
     lia
   .rw[FJ,qu];show⟨Fw,wY.imp λh=>.inr ⟨rfl,h⟩,λp hp q hq=>?_⟩;let⟨e,he,rfl⟩:=cW.mp hq;let:=ht p hp;show .inl (by dsimp only;lia)
   .rw[bZ,aY];lia
 .obtain⟨ps,a,o',rfl,rfl,hp,ht,Fw,hlen⟩:=hI;rw[Lq]at ht hlen;ext;show⟨ps,o',rfl,rfl,⟨h1,h8,λp hp=>?_,Fw,by lia⟩,hp⟩;let:=ht p hp
  lia
theorem ziE{k:Nat}{c:Bool}{i:Int}:W (call ao T (k+1) c 28 [.d (.int i)]) [] λv s=>v=.d (.bl true):=W.eq (a:=.d (.bl true)) (s':=[]) rfl rfl
section
variable {n:Int}{ps:List (Int×Int)}
theorem zjz{k':Nat}{o:SO}(ho:jP o)(h:Web n ps)(hn:n<=6):W (call ao T (k'+3) true 33 [.l 0,.d (bw n ps)]) [o] λv s=>∃(k d:Int) (o':SO),v=.d (aM k d)/\s=[o']/\(1<=d/\d<=k/\k<=18)/\(∃hs,cj n k d ps hs)/\jP o':=by
 show W.call zpn rfl ?_;unfold Xe;let h1:=h.h1;ext;show Kba (λi J s=>∃(a:Option Xv),s=[o]/\J=[some (.l 0),some (.d (bw n ps)),a]) ⟨_,rfl,rfl⟩ (λi x J s e hI=>?_) (λJ s hI=>?_)
 .obtain⟨a,rfl,rfl⟩:=hI;obtain⟨k,d,rfl,hr⟩ : ∃k d:Int,x=aM k d/\1<=d/\d<=k/\k<=9:=by
   let:=iH e;simp only[cX,qw,pJ]at this;rcases this with rfl|rfl|rfl|rfl|rfl|rfl|rfl|rfl|rfl
   all_goals show⟨_,_,rfl,by decide⟩
  ext;show W.cV rfl ((zf6 h gV hr.1 (Ly hn gV) gV).imp λv s hv=>?_);rcases hv with ⟨rfl,_⟩|⟨hs,rfl,hh⟩
  .refine⟨_,rfl,?_⟩;ext;show .inl ⟨_,rfl,_,rfl,rfl⟩
  .refine⟨_,rfl,?_⟩;ext;show vX ho J0 J0 λr o' QL hp=>?_;ext;show W.ite (λ_=>?_) (λ_=>?_)
   .refine Y ?_;show .inr ⟨_,rfl,_,_,_,rfl,rfl,⟨hr.1,hr.2.1,by lia⟩,⟨_,hh⟩,hp⟩
   .unfold aM;ext;show .inr ⟨_,rfl,_,_,_,rfl,rfl,⟨by lia,by lia,by lia⟩,⟨_,zid h hr.1 hh⟩,hp⟩
 .obtain⟨a,rfl,rfl⟩:=hI;unfold bw;ext;show⟨_,_,_,rfl,rfl,?_,⟨_,zkF h ?_⟩,ho⟩
  .split<;>lia
  .split<;>lia
theorem ze4{k':Nat}{o:SO}{k d:Int}(ho:jP o)(h:Web n ps)(hn:n<=6)(hr:1<=d/\d<=k/\k<=18)(hex:∃hs,cj n k d ps hs):W (call ao T (k'+3) true 35 [.l 0,.d (bw n ps),.d (aM k d)]) [o] λv s=>∃(hs:List Int) (o':SO),v=.d (.tup (hs.map .int))/\s=[o']/\cj n k d ps hs/\jP o':=by
 show W.call zo6 rfl ?_;unfold Xg;let h1:=h.h1;let qm:(100:Nat)<=sizeLine:=by decide
 ext;show W.cV rfl ((zf6 h gV hr.1 (Ly hn gV) gV).imp λv s hv=>?_);rcases hv with ⟨rfl,Je⟩|⟨hs,rfl,hh⟩
 .obtain⟨hs,hh⟩:=hex;show absurd hh (Je hs)
 show⟨_,rfl,?_⟩;let ew:bw n ps=.tup [.int n,.tup (ps.map cI)]:=rfl;ext;show⟨by rw[pA gV gV,pA gV gV];rfl,?_⟩;show wQ (λi J s=>∃(hs:List Int) (o':SO) (a b c:Option Xv),s=[o']/\jP o'/\J=[some (.l 0),some (.d (bw n ps)),some (.d (aM k d)),some (.d (.tup (hs.map .int))),a,b,c]/\cj n k d ps hs) ⟨hs,o,_,_,_,rfl,ho,rfl,hh⟩ (λi x J s e hI=>?_) (λJ s hI=>?_)
 .obtain⟨hs,o',a,b,c,rfl,hp,rfl,hh⟩:=hI;let hl:=hh.len;let hml:(hs.map D.int).length=hs.length:=aY ..;ext;show vX hp gV gV λr o2 QL hp2=>?_;ext;rw[Lz gV];show vX hp2 gV gV λr3 o3 hr3 hp3=>?_;ext;show bI (tZ (by rw[oX];change _+1<=_;lia)) ?_;ext;rw[show (r:Int)+1=((r+1:Nat):Int) by lia,zJ gV];show bI (tZ (by rw[bZ,oX,uf];change _+1+_<=_;lia)) ?_;rw[zkx gV];ext;show W.c0 (zoP (hs:=hs.set r r3) h (by simp;lia)) ?_;cases hb:zB k d ps (hs.set r r3)
  .refine Y ?_;show⟨_,rfl,hs,o3,_,_,_,rfl,hp3,rfl,hh⟩
  .refine Y ?_;show⟨_,rfl,hs.set r r3,o3,_,_,_,rfl,hp3,rfl,⟨by simp;lia,λx hx=>?_,oM.mp hb⟩⟩;rcases List.mem_or_eq_of_mem_set hx with z|z
   .exact hh.lo x z
   .lia
 .obtain⟨hs,o',a,b,c,rfl,hp,rfl,hh⟩:=hI;ext;show⟨_,_,rfl,rfl,hh,hp⟩
end
theorem zkb{k:Nat}{d:D}(h:wU d=true):W (call ao T (k+1) true 28 [.d d]) [] λv s=>v=.d (.bl (LC d)):=by
 cases d with
 |exc _ _=>cases h|ob _ _=>cases h|any=>cases h|_=>show W.eq (a:=_) (s':=[]) rfl rfl
theorem zhP{k:Nat}{d:D}{a b:Int}(h:wU d=true):W (call ao T (k+2) true 1 [.d d,.d (.int a),.d (.int b)]) [] λv s=>v=.d (.bl (G4 a b d)):=by
 cases d with
 |exc _ _=>cases h|ob _ _=>cases h|any=>cases h|int i=>show eZ|_=>show W.eq (a:=_) (s':=[]) rfl rfl
theorem zjG{k:Nat}{d:D}{n:Int}(h:wU d=true):W (call ao T (k+3) true 9 [.d (.int n),.d d]) [] λv s=>v=.d (.bl (G4 0 (n-1) d)):=by
 show W.call Xn rfl ?_;unfold b9;ext;show W.cV rfl ((zhP h).imp λv s e=>⟨_,e,rfl⟩)
noncomputable def sG:List D:=[.non,.bl true,.bl false,.int (-1),.str "1",.str "",.tup [],.fl [],.tup [.int 0],.fl [.int 0],.fd [.str "a"] [.int 1],.tup [.int 0,.int 1],.int 1000000000000000000000000000000,.tup [.int 0,.tup []],.tup [.str "ab"],.tup [.int 1,.tup [.tup [.int 0,.int 0]]]]
theorem zoL{k:Nat}{o:SO}(ho:jP o):W (call ao T (k+2) true 24 [.l 0]) [o] λv s=>∃d o',v=.d d/\s=[o']/\d∈sG/\jP o':=by
 show W.call zpe rfl ?_;unfold W8;ext;show vX ho J0 J0 λr o' hr hp=>?_;ext;let wH:r<sG.length:=by change r<16;lia
 show bI (Ew (x:=sG[r]) (dW (l:=sG) wH)) ?_;ext;show⟨_,_,rfl,rfl,pG _,hp⟩
theorem Kav{k:Nat}{s:S}{o:SO}{m:Int}{P:Xv->S->Prop}(ho:jP o)(hm:0<m)(Gk:m<1073741824)(h:∀(r:Nat) o',(r:Int)<m->jP o'->P (.d (.int r)) (s++[o'])):W (cG (call ao T (k+1) true 27) [.l s.length,.d (.int m)]) (s++[o]) P:=by
 show E_ rfl ((ziY ho hm Gk).imp λv s1=>?_);rintro⟨d,o',rfl,rfl,⟨r,rfl,h0,h1⟩,hp⟩;let⟨n,rfl⟩:=Fx h0;show⟨_,_,rfl,rfl,h n o' h1 hp⟩
theorem MK{xs:List Int}{r:Nat}{B:Int}(hb:∀z∈xs,1<=z/\z<=B)(hr:r<xs.length):∃z:Int,prim .ix [.fl (xs.map .int),.int r]=some (.dat (.int z))/\1<=z/\z<=B:=
 ⟨xs[r],Ew (by rw[ji,dW hr];rfl),hb _ (pG _)⟩
theorem Yu{xs:List D}{r:Nat}(hr:r<xs.length):∃x,prim .ix [.fl xs,.int r]=some (.dat x)/\x∈xs:=⟨xs[r],Ew (dW hr),pG _⟩
theorem zjv{xs:List D}{z:Int}(h0:0<=z)(hz:z<xs.length):∃x,prim .ix [.fl xs,.int z]=some (.dat x)/\x∈xs:=by
 let⟨r,rfl⟩:=Fx h0;show Yu gV
theorem zmU{xs:List Int}{r:Nat}{q:Int->Prop}(hb:∀z∈xs,q z)(hr:r<xs.length):∃z:Int,prim .ix [.fl (xs.map .int),.int r]=some (.dat (.int z))/\q z:=
 ⟨xs[r],Ew (by rw[ji,dW hr];rfl),hb _ (pG _)⟩
section
variable {n k d:Int}{ps:List (Int×Int)}{hs:List Int}
theorem zfR{k':Nat}(h:Web n ps):W (call ao T (k'+2) true 13 [.d (bw n ps)]) [] λv s=>v=.d (.fl ((List.range n.toNat).map λ(i:Nat)=>.tup ((bK i ps).map .int))):=by
 show W.call zoT rfl ?_;unfold WX;let qm:(100:Nat)<=sizeLine:=by decide
 let h1:=h.h1;let h8:=h.h8;ext;show lX (l:=List.range (n-0).toNat) (f:=λ(j:Nat)=>.int (0+j)) (λ(i:Nat)=>some (.tup ((bK i ps).map .int))) (by rw[nG];lia) ?_ (λj hj=>?_) ?_
 .unfold bw;ext;show⟨by rw[pA gV gV,pA gV gV];rfl,?_⟩;show⟨rfl,rfl⟩
 .refine Y ?_;show⟨rfl,λ_=>?_,λhb=>by cases hb⟩;ext;show W.c0 (zik h) ?_;show⟨rfl,_,rfl,by rw[show (0:Int)+j=j by lia]⟩
 .rw[show (List.range (n-0).toNat).filterMap (λ(i:Nat)=>some (D.tup ((bK i ps).map .int)))=(List.range n.toNat).map λ(i:Nat)=>D.tup ((bK i ps).map .int) by rw[zF,show n-0=n by lia]];show Y trivial
noncomputable def lZ(k d:Int)(ps:List (Int×Int))(hs:List Int)(i:Nat):D:=.tup ((au k d ps hs i).map .int)
theorem zjP{k':Nat}(h:Web n ps)(hk:1<=k)(hh:cj n k d ps hs):W (call ao T (k'+3) true 20 [.d (bw n ps),.d (aM k d),.d (.tup (hs.map .int))]) [] λv s=>∃j o,v=.l j/\s[j]?=some o/\o=.lst ((List.range n.toNat).map (lZ k d ps hs)):=by
 show W.call zoR rfl ?_;unfold W5;let qm:(100:Nat)<=sizeLine:=by decide
 let h1:=h.h1;let h8:=h.h8;let hl:=hh.len;let hlen:=h.len;let er:aM k d=.tup [.int k,.int d]:=rfl;ext;show W.c0 (zfR h) ?_;ext;show wQ (λi J s=>s=[.lst ((List.range i).map (lZ k d ps hs))]/\∃(a b c:Option Xv),J=[some (.d (bw n ps)),some (.d (aM k d)),some (.d (.tup (hs.map .int))),some (.d (.int k)),some (.d (.int d)),some (.l 0),a,b,c]) ⟨rfl,_,_,_,rfl⟩ (λi x J s e hI=>?_) (λJ s hI=>?_)
 .obtain⟨rfl,a,b,c,rfl⟩:=hI;rw[zg2,ji]at e;cases ei:(List.range n.toNat)[i]? with
  |none=>rw[ei]at e;cases e|some j=>
   rw[ei]at e;let⟨G_,ej⟩:=h_.mp ei;rw[List.getElem_range]at ej;rw[nG]at G_;subst ej;let e:=dM e;subst e;let hz:((0+i:Nat):Int)=(i:Int):=by lia
   ext;rw[hz];show bI (sy gV gV) ?_;ext;show lX (l:=bK i ps) (f:=D.int) (λe=>if at' hs e=(at' hs i+d)%k then some (.int e) else none) ?_ ?_ (λe he=>?_) ?_
   .let:=Ho (endOf i) ps;unfold bK
    lia
   .refine Y ?_;show⟨rfl,rfl⟩
   .let hm:=zen h he;ext;show bI (sy gV gV) ?_;ext;show⟨rfl,λhb=>?_,λhb=>?_⟩
    .refine Y ?_;show⟨rfl,_,rfl,by rw[if_pos (by simpa using hb)]⟩
    .rw[if_neg (by simpa using hb)]
   .let ef:(bK i ps).filterMap (λe=>if at' hs e=(at' hs i+d)%k then some (D.int e) else none)=(au k d ps hs i).map .int:=by
     unfold au;generalize bK (i:Int) ps=l
     induction l with
     |nil=>rfl|cons x r ih=>
      rw[sO,Ae];by_cases q:at' hs x=(at' hs i+d)%k
      .simp[q,ih]
      .simp[q,ih]
    rw[ef];ext;show⟨by rw[aY,nG];lia,?_⟩;ext;show⟨_,rfl,?_,_,_,_,rfl⟩;rw[Hz,iu];rfl
 .obtain⟨rfl,a,b,c,rfl⟩:=hI;rw[zex,aY,nG];ext;show⟨0,_,rfl,rfl,rfl⟩
end
theorem ziZ{p:Int}{e:List Int}:prim .ix [aQ (p::e),.int (-1)]=some (.dat (.int (pC p e))):=by
 rcases List.eq_nil_or_concat e with rfl|⟨e',x,rfl⟩
 .rfl
 .rw[List.concat_eq_append,zkW,<-Bu (xs:=(p::e').map D.int) (x:=.int x)];unfold aQ;rw[show (p::(e'++[x])).map D.int=(p::e').map D.int++[.int x] by simp];rfl
section
variable {n k d:Int}{ps:List (Int×Int)}{hs:List Int}
theorem Yv:∀{e:List Int} {p:Int},pC p e∈p::e
 |[],p=>by simp[pC]|x::e,p=>fZ _ (Yv (e:=e) (p:=x))
theorem Hf(h:Web n ps)(l x:Int)(hx:x∈au k d ps hs l):0<=x/\x<n:=zen h (jk.mp hx).1
noncomputable abbrev Yw(n k d:Int)(ps:List (Int×Int))(hs:List Int):SO:=.lst ((List.range n.toNat).map (lZ k d ps hs))
theorem zoO{l:Int}(hl:0<=l/\l<n):prim .ix [.fl ((List.range n.toNat).map (lZ k d ps hs)),.int l]=some (.dat (.tup ((au k d ps hs l).map .int))):=by
 show VD hl.1 ?_;rw[ji,Rh gV];change some (lZ k d ps hs l.toNat)=_;unfold lZ;rw[show ((l.toNat:Nat):Int)=l by lia]
end
theorem Yx{xs:List D}:prim .ne [.fl xs,.fl []]=some (.dat (.bl (!xs.isEmpty))):=by
 cases xs with
 |nil=>rfl|cons x r=>rfl
section
variable {n k d:Int}{ps:List (Int×Int)}{hs:List Int}
theorem zhN{a b:Int}:b∈bK a ps↔∃p∈ps,(p.1=a/\p.2=b)\/(p.1≠a/\p.2=a/\p.1=b):=by
 unfold bK;rw[zY];show exists_congr λp=>and_congr_right λ_=>?_;unfold endOf;by_cases h1:p.1=a
 .rw[if_pos h1]
  constructor
  .intro e;show .inl ⟨h1,dM e⟩
  .rintro(⟨_,e⟩|⟨e,_⟩)
   .rw[e]
   .exact absurd h1 e
 .rw[if_neg h1];by_cases h2:p.2=a
  .rw[if_pos h2]
   constructor
   .intro e;show .inr ⟨h1,h2,dM e⟩
   .rintro(⟨e,_⟩|⟨_,_,e⟩)
    .exact absurd e h1
    .rw[e]
  .rw[if_neg h2]
   constructor
   .intro e;cases e
   .rintro(⟨e,_⟩|⟨_,e,_⟩)
    .exact absurd e h1
    .exact absurd e h2
theorem QM(h:Web n ps){a b:Int}:b∈bK a ps↔((if b<a then b else a,if b>a then b else a):Int×Int)∈ps:=by
 rw[zhN]
 constructor
 .rintro⟨⟨x,y⟩,hp,⟨rfl,rfl⟩|⟨h1,rfl,rfl⟩⟩
  .let:=h.tie _ hp;dsimp only at this ⊢;rw[if_neg gV,if_pos gV];show hp
  .let:=h.tie _ hp;dsimp only at this ⊢;rw[if_pos gV,if_neg gV];show hp
 .intro hp;let ht:=h.tie _ hp;dsimp only at ht;by_cases c:b<a
  .rw[if_pos c,if_neg gV]at hp;show⟨_,hp,.inr ⟨by dsimp only;lia,rfl,rfl⟩⟩
  .by_cases c2:b>a
   .rw[if_neg c,if_pos c2]at hp;show⟨_,hp,.inl ⟨rfl,rfl⟩⟩
   .rw[if_neg c,if_neg c2]at ht
    lia
theorem Yy{k':Nat}{a b:Int}(h:Web n ps)(hk:1<=k)(hk2:k<=1000)(hh:cj n k d ps hs)(ha:0<=a/\a<n)(hb:0<=b/\b<n):W (call ao T (k'+1) true 36 [.d (bw n ps),.d (aM k d),.d (.tup (hs.map .int)),.d (.int a),.d (.int b)]) [] λv s=>v=.d (.bl (decide (b∈au k d ps hs a))):=by
 let hl:=hh.len;let ew:bw n ps=.tup [.int n,.tup (ps.map cI)]:=rfl;let er:aM k d=.tup [.int k,.int d]:=rfl;show W.call zo2 rfl ?_;unfold Xh;ext;show bI (Vz (f:=λb=>!b) (p:=(if b<a then b else a,if b>a then b else a))) ?_;ext;let hm:(b∈au k d ps hs a)↔((if b<a then b else a,if b>a then b else a):Int×Int)∈ps/\at' hs b=(at' hs a+d)%k:=by
  unfold au;rw[jk,QM h,kI]
 by_cases hp:((if b<a then b else a,if b>a then b else a):Int×Int)∈ps
 .rw[cO hp];ext;show bI (sy gV gV) ?_;ext;show bI (sy gV gV) ?_;ext;let hb':=hh.lo _ (Qp (us:=hs) hb.1 gV);change Xv.d (.bl _)=_
  congr 2
  change decide ((at' hs a+d-at' hs b)%k=0)=_;rw[N6,hm]
  constructor
  .intro e;show⟨hp,?_⟩;let:=Int.emod_emod_of_dvd (at' hs a+d) (Int.dvd_refl k);let e2:(at' hs a+d)%k=(at' hs b)%k:=(YL).mpr e;rw[e2,Ab hb'.1 hb'.2]
  .rintro⟨_,e⟩;show(YL).mp ?_;rw[<-e,Ab hb'.1 hb'.2]
 .rw[f9 hp];ext;rw[f9 λz=>hp (hm.mp z).1]
theorem ziS{k':Nat}{s0:S}{acc:List (List Int)}{p:Int}{e:List Int}{a3 a4 a7:Option Xv}(h:Web n ps)(hk:1<=k/\k<=1000)(hh:cj n k d ps hs)(lo:∀x∈p::e,0<=x/\x<n)(he:e.length<=100)(hm:acc.length<=1000000){Q:Out->S->Prop}
  (q:∀a7,Q (.nx [some (.d (bw n ps)),some (.d (aM k d)),some (.d (.tup (hs.map .int))),a3,a4,some (.l s0.length),some (.d (aQ (p::e))),a7]) (s0++[.lst ((acc++nxt n (au k d ps hs) (p::e)).map aQ)])) :
  WS (exs ao true (λc=>Mi.call ao T (k'+1) c) (.cons (.fr (.nm 7) (.rg (.pr true .add (Eb (Ei (.v 6) (Ci 0)) (Ci 1))) (Ei (.v 0) (Ci 0))) (.cons (.iff (.and (.pr true .nin (Eb (.v 7) (.v 6))) (.call 36 (.cons (.v 0) (.cons (.v 1) (Ec (.v 2) (Ei (.v 6) (.pr true .neg (Ea (Ci 1)))) (.v 7)))))) (.cons (.ex (.push (.v 5) (.pr true .add (Eb (.v 6) (.tup (Ea (.v 7))))))) .nil) .nil) .nil)) .nil)
   [some (.d (bw n ps)),some (.d (aM k d)),some (.d (.tup (hs.map .int))),a3,a4,some (.l s0.length),some (.d (aQ (p::e))),a7]) (s0++[.lst (acc.map aQ)]) Q:=by
 let qm:(2000000:Nat)<=sizeLine:=by decide
 let h1:=h.h1;let h8:=h.h8;let hp:=lo p V8;let hla:=lo _ (Yv (e:=e) (p:=p));let ew:bw n ps=.tup [.int n,.tup (ps.map cI)]:=rfl;let i0:prim .ix [aQ (p::e),.int 0]=some (.dat (.int p)):=sy (fs:=p::e) (j:=0) J0 V8;ext;show bI i0 ?_;ext;show⟨by rw[pA gV gV,pA gV gV];rfl,?_⟩;show wQ (c:=jh (p+1) n) (λi J s'=>∃a7:Option Xv,J=[some (.d (bw n ps)),some (.d (aM k d)),some (.d (.tup (hs.map .int))),a3,a4,some (.l s0.length),some (.d (aQ (p::e))),a7]/\s'=s0++[.lst ((acc++((((List.range i).map λ(j:Nat)=>p+1+(j:Int)).filter λx=>decide (x∉p::e)&&decide (x∈au k d ps hs (pC p e))).map λx=>p::e++[x])).map aQ)]) ⟨_,rfl,by simp⟩ (λi x J s' ei hI=>?_) (λJ s' hI=>?_)
 .obtain⟨a7,rfl,rfl⟩:=hI;let⟨rfl,hi⟩:=Lp ei;let et:(List.range (i+1)).map (λ(j:Nat)=>p+1+(j:Int))=(List.range i).map (λ(j:Nat)=>p+1+(j:Int))++[p+1+(i:Int)]:=by rw[Hz,iu];rfl
  let hle:((((List.range i).map λ(j:Nat)=>p+1+(j:Int)).filter λx=>decide (x∉p::e)&&decide (x∈au k d ps hs (pC p e))).map λx=>p::e++[x]).length<=8:=by
   rw[aY];show jf (Nk _ _) ?_;rw[aY,nG]
   lia
  generalize hx:p+1+(i:Int)=x at et hi;ext;show bI (zi3 (f:=λb=>!b) (ls:=p::e)) ?_;ext;show W.ite (λc1=>?_) (λc1=>?_)
  .let c1:x∉p::e:=by simpa using c1
   ext;show bI ziZ ?_;ext;show W.c0 (Yy h hk.1 hk.2 hh hla gV) ?_;ext;show WS.ite (λc2=>?_) (λc2=>?_)
   .let ef:[x].filter (λx=>decide (x∉p::e)&&decide (x∈au k d ps hs (pC p e)))=[x]:=by
     rw[Ae,cO c1,c2];rfl
    ext;show bI (tZ (by rw[aY,fP];change _+1<=_;lia)) ?_;ext;show⟨by rw[aY,bZ];lia,?_⟩;rw[zhI];ext;show⟨_,rfl,_,rfl,?_⟩;rw[et,Rn,ef];generalize List.filter _ ((List.range i).map _)=G;unfold aQ;simp[Aa]
   .let ef:[x].filter (λx=>decide (x∉p::e)&&decide (x∈au k d ps hs (pC p e)))=[]:=by
     rw[Ae,show decide (x∈au k d ps hs (pC p e))=false by simpa using c2,Bool.and_false];rfl
    ext;show⟨_,rfl,_,rfl,?_⟩;rw[et,Rn,ef,sV]
  .let c1:x∈p::e:=by
    cases hq:decide (x∈p::e) with
    |true=>show fj hq|false=>rw[hq]at c1;show absurd rfl c1
   let ef:[x].filter (λx=>decide (x∉p::e)&&decide (x∈au k d ps hs (pC p e)))=[]:=by
    rw[Ae,show decide (x∉p::e)=false from f9 λz=>z c1,FW];rfl
   ext;show⟨_,rfl,_,rfl,?_⟩;rw[et,Rn,ef,sV]
 .obtain⟨a7,rfl,rfl⟩:=hI;rw[Lq];ext;show q _
theorem ziT(h:Web n ps)(l:Int):(au k d ps hs l).Pairwise (·<·):=(zeB h l).filter _
theorem Yz(h:Web n ps)(l:Int):l∉au k d ps hs l:=λz=>by
 let:=(QM h).mp (jk.mp z).1;let:=h.tie _ this;dsimp only at this;rw[if_neg gV]at this
 lia
theorem zoe(h:Web n ps)(hd:1<=d)(hh:cj n k d ps hs)(l x y:Int)(h1:x∈au k d ps hs l)(h2:y∈au k d ps hs l):y∉au k d ps hs x:=λh3=>by
 let q1:=fj (jk.mp h1).2;let q2:=fj (jk.mp h2).2;let q3:=fj (jk.mp h3).2;let hx:=Hf h l x h1;let hxl:=hh.lo _ (Qp (us:=hs) hx.1 (by let:=hh.len;lia));let hp:=(QM h).mp (jk.mp h1).1;let hg:=hh.fit _ hp;let hk:=(vL hd).mp hg;let zG:d<k:=by lia
 let e:at' hs x=(at' hs x+d)%k:=by rw[<-q3,q2,q1]
 by_cases c:at' hs x+d<k
 .rw[Ab gV c]at e;lia
 .let:(at' hs x+d)%k=at' hs x+d-k:=by
   rw[<-Rj,Ab gV gV]
  lia
theorem zkT(h:Web n ps)(h6:n<=6)(hd:1<=d)(hh:cj n k d ps hs):(fD n (au k d ps hs) 8).length<64:=
 zjk (λl x=>Hf h l x) (Yz h) (λl=>(ziT h l).imp λ{a b} q e=>by lia) (zoe h hd hh) h6
theorem zge(h:Web n ps)(h6:n<=6):∀j,(lv n (au k d ps hs) j).length<=6^(j+1)
 |0=>by unfold lv;rw[aY,nG];lia|j+1=>by
  unfold lv;let key:∀l:List (List Int),(∀r∈l,0<=at' r 0)->(l.flatMap (nxt n (au k d ps hs))).length<=l.length*6:=by
   intro l
   induction l with
   |nil=>intro _;simp|cons r l ih=>
    intro hr;rw[List.flatMap_cons,bZ,fP,Cj];let h1:(nxt n (au k d ps hs) r).length<=6:=by
     unfold nxt;rw[aY];show jf (Nk _ _) ?_;unfold t_;rw[aY,nG];let:=hr r V8
     lia
    let:=ih λr wH=>hr r (fZ _ wH)
    lia
  let:=key (lv n (au k d ps hs) j) λr hr=>by
   let⟨p,e,rfl,_,hp,_⟩:=(zQ λl x=>Hf h l x).mp hr;show hp.1
  let ih:=zge h h6 j;rw[Nat.pow_succ]
  lia
end
section
variable {n k d:Int}{ps:List (Int×Int)}{hs:List Int}
def MN(x:Option Xv)(s:S)(rows:List (List Int)):Prop:=x=some (.d (.fl (rows.map aQ)))\/∃j,x=some (.l j)/\s[j]?=some (.lst (rows.map aQ))
theorem zfI{k':Nat}(h:Web n ps)(h6:n<=6)(hr:1<=d/\d<=k/\k<=24)(hh:cj n k d ps hs):W (call ao T (k'+2) true 37 [.d (bw n ps),.d (aM k d),.d (.tup (hs.map .int))]) [] λv s=>v=.d (.fl ((fD n (au k d ps hs) 8).map aQ)):=by
 let qm:(10000000:Nat)<=sizeLine:=by decide
 let h1:=h.h1;let ew:bw n ps=.tup [.int n,.tup (ps.map cI)]:=rfl;let hn:∀l x,x∈au k d ps hs l->0<=x/\x<n:=λl x=>Hf h l x;let p6:∀j,j<=7->6^(j+1)<=1679616:=by decide
 show W.call zo5 rfl ?_;unfold Xi;ext;show lX (l:=List.range (n-0).toNat) (f:=λ(j:Nat)=>.int (0+j)) (λ(j:Nat)=>some (aQ [(j:Int)])) (by rw[nG];lia) ?_ (λj hj=>?_) ?_
 .refine Y ?_;show⟨by rw[pA gV gV,pA gV gV];rfl,?_⟩;show⟨rfl,rfl⟩
 .refine Y ?_;show⟨rfl,λ_=>?_,λhb=>by cases hb⟩;ext;show⟨rfl,_,rfl,by unfold aQ;rw[show (0:Int)+j=j by lia];rfl⟩
 let e0:(List.range (n-0).toNat).filterMap (λ(j:Nat)=>some (aQ [(j:Int)]))=(lv n (au k d ps hs) 0).map aQ:=by
  rw[zF,show n-0=n by lia];unfold lv;rw[nW];rfl
 rw[e0];ext;show WS.imp (Q:=λo s'=>∃(j:Nat) (a4 a5 a6 a7:Option Xv),lv n (au k d ps hs) j=[]/\o=.nx [some (.d (bw n ps)),some (.d (aM k d)),some (.d (.tup (hs.map .int))),some (.d (.fl ((lY n (au k d ps hs) j).map aQ))),a4,a5,a6,a7]) ?_ (λo s' hR=>?_)
 .refine WS.wh (λm J s'=>∃(j:Nat) (a4 a5 a6 a7:Option Xv),m+j=n.toNat+1/\J=[some (.d (bw n ps)),some (.d (aM k d)),some (.d (.tup (hs.map .int))),some (.d (.fl ((lY n (au k d ps hs) j).map aQ))),a4,a5,a6,a7]/\MN a4 s' (lv n (au k d ps hs) j)/\(lY n (au k d ps hs) j).length<=j*1679616) (m:=n.toNat+1) (by change _<j8;unfold j8;lia) ⟨0,_,_,_,_,by lia,rfl,.inl rfl,by simp[lY]⟩ (λm J s' hI=>?_);let⟨j,a4,a5,a6,a7,hmj,rfl,MP,hfl⟩:=hI;let hne:∀rows:List (List Int),rows=lv n (au k d ps hs) j->rows≠[]->j<n.toNat:=λrows e hne=>by
   subst e;let⟨r,hr⟩:=List.exists_mem_of_ne_nil _ hne;let⟨p,e,rfl,he,hp,hc⟩:=(zQ hn).mp hr;let hl:=G7 hn hc V8 (λx hx=>by rw[oW]at hx;subst hx;show hp);let:=WD hl.1 hl.2;simp at this
   lia
  let test:W (ev ao true (call ao T (k'+1) true) (.pr true .ne (Eb (.v 4) (.lst true .nil))) [some (.d (bw n ps)),some (.d (aM k d)),some (.d (.tup (hs.map .int))),some (.d (.fl ((lY n (au k d ps hs) j).map aQ))),a4,a5,a6,a7]) s' λx s1=>x=.d (.bl (!((lv n (au k d ps hs) j).map aQ).isEmpty))/\s1=s':=by
   rcases MP with rfl|⟨i,rfl,hi⟩
   .refine Y ?_;show bI Yx ?_;show⟨rfl,rfl⟩
   .refine Y ?_;show Vo hi ?_;ext;show bI Yx ?_;show⟨rfl,rfl⟩
  show test.imp λx s1 hx=>?_;let⟨rfl,rfl⟩:=hx;show W.bool ⟨λhb=>?_,λhb=>?_⟩
  .let hj:j<n.toNat:=hne _ rfl λz=>by rw[z]at hb;cases hb
   let p7:∀j,j<=5->6^(j+2)<=279936:=by decide
   let hll:(lv n (au k d ps hs) (j+1)).length<=279936:=jf (zge h h6 (j+1)) (p7 j gV);let elv:lv n (au k d ps hs) (j+1)=(lv n (au k d ps hs) j).flatMap (nxt n (au k d ps hs)):=rfl;let rest:∀a4 a6 a7:Option Xv,WS (exs ao true (λc=>Mi.call ao T (k'+1) c) (.cons (.asg (.nm 3) (.pr true .add (Eb (.v 3) (.comp true (.v 0) [0] (.seq (.v 5)) [0,1,2] 1 (.yes (.call 36 (.cons (.v 1) (.cons (.v 2) (Ec (.v 3) (Ei (.v 0) (.pr true .neg (Ea (Ci 1)))) (Ei (.v 0) (Ci 0))))))))))) (.cons (.asg (.nm 4) (.v 5)) .nil))
     [some (.d (bw n ps)),some (.d (aM k d)),some (.d (.tup (hs.map .int))),some (.d (.fl ((lY n (au k d ps hs) j).map aQ))),a4,some (.l s1.length),a6,a7]) (s1++[.lst ((lv n (au k d ps hs) (j+1)).map aQ)]) λo s3=>(∃J' m',o=.nx J'/\m'<m/\∃(j:Nat) (a4 a5 a6 a7:Option Xv),m'+j=n.toNat+1/\J'=[some (.d (bw n ps)),some (.d (aM k d)),some (.d (.tup (hs.map .int))),some (.d (.fl ((lY n (au k d ps hs) j).map aQ))),a4,a5,a6,a7]/\MN a4 s3 (lv n (au k d ps hs) j)/\(lY n (au k d ps hs) j).length<=j*1679616):=by
    intro a4 a6 a7;ext;show Kaq (l:=lv n (au k d ps hs) (j+1)) (f:=aQ) (s1++[.lst ((lv n (au k d ps hs) (j+1)).map aQ)]) (λr=>if zR (au k d ps hs) r=true then some (aQ r) else none) gV ?_ (λr QL=>?_) ?_
    .refine Y ?_;show Ka4 (c:=(lv n (au k d ps hs) (j+1)).map aQ) Lj ?_;show⟨rfl,rfl,λi=>?_⟩;simp only[Src.at,Lj]
    .obtain⟨p,e,rfl,he,hp,hc⟩:=(zQ hn).mp QL;let hl:=G7 hn hc V8 (λx hx=>by rw[oW]at hx;subst hx;show hp);let i0:prim .ix [aQ (p::e),.int 0]=some (.dat (.int p)):=sy (fs:=p::e) (j:=0) J0 V8;ext;show bI ziZ ?_;ext;show bI i0 ?_;ext;show W.c0 (Yy h gV gV hh (hl.2 _ (Yv (e:=e) (p:=p))) hp) ?_;ext;let ec:zR (au k d ps hs) (p::e)=decide (p∈au k d ps hs (pC p e)):=rfl;rw[ec];show⟨rfl,λhb=>?_,λhb=>?_⟩
     .refine Y ?_;show⟨rfl,_,rfl,by rw[if_pos hb]⟩
     .rw[if_neg (by rw[hb];decide)]
    .let ef:(lv n (au k d ps hs) (j+1)).filterMap (λr=>if zR (au k d ps hs) r=true then some (aQ r) else none)=((lv n (au k d ps hs) (j+1)).filter (zR (au k d ps hs))).map aQ:=by
      generalize lv n (au k d ps hs) (j+1)=l
      induction l with
      |nil=>rfl|cons r l ih=>
       rw[sO,Ae];cases zR (au k d ps hs) r
       .simpa using ih
       .simpa using ih
     rw[ef];let hlf:=Nk (zR (au k d ps hs)) (lv n (au k d ps hs) (j+1));ext;show rZ (zA (by rw[aY,aY];lia)) ?_;ext;show⟨_,m-1,rfl,by lia,j+1,_,_,_,_,by lia,by rw[zeb,iu];rfl,.inr ⟨_,rfl,Lj⟩,?_⟩;rw[zeb,bZ]
     lia
   let key:∀(t:Nat) (r:List Int),(lv n (au k d ps hs) j)[t]?=some r->∃p e,r=p::e/\(∀x∈p::e,0<=x/\x<n)/\e.length<=100/\((lv n (au k d ps hs) j).take (t+1)).flatMap (nxt n (au k d ps hs))=((lv n (au k d ps hs) j).take t).flatMap (nxt n (au k d ps hs))++nxt n (au k d ps hs) (p::e)/\(((lv n (au k d ps hs) j).take t).flatMap (nxt n (au k d ps hs))).length<=1000000:=λt r er=>by
    let⟨p,e,rfl,he,hp,hc⟩:=(zQ hn).mp (iH er);let hl:=G7 hn hc V8 (λx hx=>by rw[oW]at hx;subst hx;show hp);show⟨p,e,rfl,hl.2,by lia,by rw[HD,er,Ri];simp,?_⟩;let:(((lv n (au k d ps hs) j).take t).flatMap (nxt n (au k d ps hs))).length<=(lv n (au k d ps hs) (j+1)).length:=by
     rw[elv]
     conv=>rhs;rw[<-Ra t (lv n (au k d ps hs) j)]
     rw[Ri,bZ]
     lia
    lia
   let e5:((lv n (au k d ps hs) j).take ((lv n (au k d ps hs) j).map aQ).length).flatMap (nxt n (au k d ps hs))=lv n (au k d ps hs) (j+1):=by rw[aY,Ad];rfl
   show WS.imp (Q:=_) ?_ λo s3 q=>.inl q;rcases MP with rfl|⟨i,rfl,hi⟩
   .refine Y ?_;show wQ (c:=(lv n (au k d ps hs) j).map aQ) (λt J s'=>∃(a6 a7:Option Xv),s'=s1++[.lst ((((lv n (au k d ps hs) j).take t).flatMap (nxt n (au k d ps hs))).map aQ)]/\J=[some (.d (bw n ps)),some (.d (aM k d)),some (.d (.tup (hs.map .int))),some (.d (.fl ((lY n (au k d ps hs) j).map aQ))),some (.d (.fl ((lv n (au k d ps hs) j).map aQ))),some (.l s1.length),a6,a7]) ⟨_,_,rfl,rfl⟩ (λt x J s' e hI=>?_) (λJ s' hI=>?_)
    .obtain⟨a6,a7,rfl,rfl⟩:=hI;rw[ji,je]at e;let⟨r,er,rfl⟩:=e;let⟨p,e,rfl,k1,k2,k3,k4⟩:=key t r er;show Vw (Vx ?_);show ziS h gV hh k1 k2 k4 λa7=>?_;show⟨_,rfl,_,_,by rw[k3],rfl⟩
    .obtain⟨a6,a7,rfl,rfl⟩:=hI;rw[e5];show rest _ _ _
   .refine Y ?_;let G_:i<s1.length:=(h_.mp hi).1;show Ka4 (c:=(lv n (au k d ps hs) j).map aQ) (by rw[nQ G_];show hi) ?_;show Ka9 (n:=i) (c:=(lv n (au k d ps hs) j).map aQ) (λt J s'=>∃(a6 a7:Option Xv),s'=s1++[.lst ((((lv n (au k d ps hs) j).take t).flatMap (nxt n (au k d ps hs))).map aQ)]/\J=[some (.d (bw n ps)),some (.d (aM k d)),some (.d (.tup (hs.map .int))),some (.d (.fl ((lY n (au k d ps hs) j).map aQ))),some (.l i),some (.l s1.length),a6,a7]) ⟨_,_,rfl,rfl⟩ (λt J s' hI=>?_) (λt x J s' e hI=>?_) (λJ s' hI=>?_)
    .obtain⟨a6,a7,rfl,rfl⟩:=hI;rw[nQ G_];show hi
    .obtain⟨a6,a7,rfl,rfl⟩:=hI;rw[ji,je]at e;let⟨r,er,rfl⟩:=e;let⟨p,e,rfl,k1,k2,k3,k4⟩:=key t r er;show Vw (Vx ?_);show ziS h gV hh k1 k2 k4 λa7=>?_;show⟨_,rfl,_,_,by rw[k3],rfl⟩
    .obtain⟨a6,a7,rfl,rfl⟩:=hI;rw[e5];show rest _ _ _
  .refine⟨j,_,_,_,_,?_,rfl⟩;cases hl:lv n (au k d ps hs) j with
   |nil=>rfl|cons r l=>rw[hl]at hb;cases hb
 .obtain⟨j,a4,a5,a6,a7,h0,rfl⟩:=hR;let hfr:=zkl hn (Yz h) h0 (f:=8) gV;let hnd:=zfH hn (n:=n) (nx:=au k d ps hs) (j:=j);let hrd:=zhw (n:=n) (nx:=au k d ps hs) (ziT h) (f:=8);let hrn:(fD n (au k d ps hs) 8).Nodup:=hrd.imp λ{a b} q e=>by subst e;let q:ltI a a=true:=q;rw[G5]at q;cases q
  let hpm:(lY n (au k d ps hs) j).Perm (fD n (au k d ps hs) 8):=(QV hnd hrn).mpr hfr;let YB:(lY n (au k d ps hs) j).length<64:=by rw[hpm.length_eq];show zkT h h6 hr.1 hh
  let⟨qs,e1,e2,e3⟩:=zim YB (λr hr=>by
   let⟨i,_,hm,_⟩:=rm.mp hr;intro z;let:=Mw hn hm;rw[z]at this;simp at this) hnd
  let eq:qs=fD n (au k d ps hs) 8:=zdy e2 hrd λx=>(e3 x).trans (hfr x);subst eq;ext;show rZ (xs:=(fD n (au k d ps hs) 8).map aQ) (show (uR _).map Rz.nw=_ by rw[e1];rfl) ?_;show Y trivial
end
noncomputable def rB(n:Int)(nx:Int->List Int)(is:List Int):Bool:=decide (is≠[])&&(is.all (λi=>decide (0<=i/\i<n))&&(decide ((aO is).length=is.length)&&(decide (at' is 0=BP is)&&(lF is).all λq=>decide (q.2∈nx q.1))))
noncomputable def zT(n:Int)(nx:Int->List Int)(p:D):Bool:=match intsOf p with
 |some is=>rB n nx is|none=>false
theorem Hg{n:Int}{nx:Int->List Int}{xs:List D}{is:List Int}(e:aJ xs=some is):zT n nx (.tup xs)=rB n nx is:=by
 change (match aJ xs with|some is=>rB n nx is|none=>false)=_;rw[e]
theorem QS{n:Int}{nx:Int->List Int}{xs:List D}(e:aJ xs=none):zT n nx (.tup xs)=false:=by
 change (match aJ xs with|some is=>rB n nx is|none=>false)=_;rw[e]
theorem zja{n:Int}{nx:Int->List Int}{is:List Int}(h:is.all (λi=>decide (0<=i/\i<n))=false):rB n nx is=false:=by
 unfold rB;rw[h];simp
theorem zkd{n:Int}{nx:Int->List Int}{a:Int}(h:a∉nx a):rB n nx [a]=false:=by
 unfold rB;let:(lF [a]).all (λq=>decide (q.2∈nx q.1))=false:=by
  change (decide (a∈nx a)&&true)=false;rw[f9 h];rfl
 rw[this];simp
section
variable {n k d:Int}{ps:List (Int×Int)}{hs:List Int}
theorem zgv{k':Nat}{is:List Int}(hl:is.length<=17):W (call ao T (k'+1) true 22 [.d (.tup (is.map .int))]) [] λv s=>v=.d (.fl ((lF is).map cI)):=by
 show W.call zoX rfl ?_;unfold W7;let qm:(100:Nat)<=sizeLine:=by decide
 let l1:=qY (xs:=is.map D.int) (lo:=some 1) (hi:=none);let l2:=qY (xs:=is.map D.int) (lo:=none) (hi:=some 1);rw[aY]at l1 l2;ext;show bI (tZ gV) ?_;ext;show rZ (zpx gV) ?_
 first|exact Y trivial|exact Y rfl|(ext;rfl)|refine Y ?_
theorem zlj{k':Nat}{p:D}(h:Web n ps)(hp:xq p):W (call ao T (k'+4) true 21 [.l 0,.d p]) [Yw n k d ps hs] λv s=>v=.d (.bl (zT n (au k d ps hs) p))/\s=[Yw n k d ps hs]:=by
 let h1:=h.h1;let h8:=h.h8;let qm:(100:Nat)<=sizeLine:=by decide
 show W.call zoU rfl ?_;unfold W6;cases p with
 |tup xs=>
  let⟨hl,hd⟩:=hp.2 xs rfl;let hx:∀x∈xs,wU x=true:=gY.mp hp.1;cases xs with
  |nil=>ext;show⟨rfl,rfl⟩|cons x0 xr=>
   ext;show lX (l:=x0::xr) (f:=λx=>x) (λx=>some (.bl (G4 0 (n-1) x))) gV ?_ (λt ht=>?_) ?_
   .refine Y ?_;rw[List.map_id'];show⟨rfl,rfl⟩
   .refine Y ?_;show⟨rfl,λ_=>?_,λhb=>by cases hb⟩;ext;rw[aY,nG,show ((n.toNat:Nat):Int)=n by lia];show W.cV rfl ((zjG (hx t ht)).imp λv s e=>⟨_,e,rfl,_,rfl,rfl⟩)
   rw[zF];ext;show bI Qf ?_;cases ha:(x0::xr).all (G4 0 (n-1))
   .refine Y ?_;show⟨?_,rfl⟩;change Xv.d (.bl false)=.d (.bl (zT n (au k d ps hs) (.tup (x0::xr))));cases e:aJ (x0::xr) with
    |none=>rw[QS e]|some is=>
     rw[Ft e]at ha;let:=zlr ha;rw[Hg e];rw[zja (show is.all (λi=>decide (0<=i/\i<n))=false by
      rw[Ro];intro z;show this λi hi=>fj (gY.mp z i hi))]
   .obtain⟨is,e,hi⟩:=zmj ha;rw[e];let hne:is≠[]:=by rintro rfl;cases e
    let hok:=hd is (by rw[e];show G8 is);let G_:is.length<=17:=by rw[e,aY]at hl;show hl
    rw[Hg (G8 is)];let pN:is.all (λi=>decide (0<=i/\i<n))=true:=gY.mpr λi z=>cO (hi i z);unfold rB;rw[cO hne,pN,uo,uo];ext;show bI (zjf hok) ?_;ext;rw[aY];by_cases sH:(aO is).length=is.length
    .rw[cO sH,uo,f9 (show ¬(((aO is).length:Int)<(is.length:Int)) by lia)];ext;show bI (zlQ hne) ?_;ext;show bI (znK hne) ?_;ext;by_cases hm:at' is 0=BP is
     .rw[cO hm,uo,show (!at' is 0==BP is)=false by rw[hm];simp];ext;show lX (l:=lF is) (f:=cI) (λq=>some (.bl (decide (q.2∈au k d ps hs q.1)))) (by unfold lF;rw[List.length_zip];lia) ?_ (λq hq=>?_) ?_
      .refine Y ?_;show W.c0 (zgv G_) ?_
       first|(ext;show⟨rfl,rfl⟩)|exact⟨rfl,rfl⟩
      .obtain⟨a,b⟩:=q;let hab:=hi a (Af hq).1;ext;show⟨rfl,λ_=>?_,λhb=>by cases hb⟩;ext;show bI (zoO hab) ?_;ext;show bI (zi3 (f:=id)) ?_;show⟨rfl,_,rfl,rfl⟩
      rw[zF];ext;show bI Qf ?_;ext;show⟨rfl,rfl⟩
     .rw[f9 hm,FW,show (!at' is 0==BP is)=true by simpa using hm]
      (ext;show⟨rfl,rfl⟩)
    .let:=zi4 is;rw[f9 sH,FW,cO (show ((aO is).length:Int)<(is.length:Int) by lia)]
     (ext;show⟨rfl,rfl⟩)
 |exc _ _=>cases hp.1|ob _ _=>cases hp.1|any=>cases hp.1|_=>ext;show⟨rfl,rfl⟩
end
theorem zkn{k:Nat}:W (call ao T (k+1) false 23 [.d (.exc 6 [])]) [] λv s=>v=.d (.str "paper"):=W.eq (a:=.d (.str "paper")) (s':=[]) rfl rfl
theorem zeY{n:Int}{is:List Int}:is.filterMap (λi=>if 0<=i/\i<n then none else some (D.int i))=(is.filter λi=>!decide (0<=i/\i<n)).map D.int:=by
 induction is with
 |nil=>rfl|cons i r ih=>
  rw[sO,Ae,ih];by_cases h:0<=i/\i<n
  .simp[h]
  .simp[h]
theorem M4{is:List Int}:List.zipWith (λ(p q:D)=>D.tup [p,q]) (is.map D.int) (cut (is.map D.int) (some 1) none++cut (is.map D.int) none (some 1))=(lF is).map cI:=by
 rw[zdi,zfV,<-Od,<-HF,<-iu];show zdk _ _
theorem zfN{f:Int->Int}:∀{a b:List Int},a.length=b.length->((a.zip b).map λq=>f q.2-f q.1).sum=(b.map f).sum-(a.map f).sum
 |[],[],_=>rfl|x::a,y::b,h=>by
  let ih:=zfN (f:=f) (a:=a) (b:=b) (by simpa using h);simp only[Nu,kJ,Ga,ih]
  lia
 |[],_::_,h=>by simp at h|_::_,[],h=>by simp at h
theorem M5{is:List Int}:(lF is).length=is.length:=by
 unfold lF;rw[List.length_zip,bZ,uf,oX]
 lia
theorem zlY{f:Int->Int}{is:List Int}:((lF is).map λq=>f q.2-f q.1).sum=0:=by
 unfold lF;rw[zfN (by rw[bZ,uf,oX];lia),iu,List.sum_append];let:(is.map f).sum=((is.take 1).map f).sum+((is.drop 1).map f).sum:=by
  rw[<-List.sum_append,<-iu,Ra]
 lia
theorem zhc{k d:Int}{f:Int×Int->Int}:∀{qs:List (Int×Int)},(∀q∈qs,(f q)%k=d)->∃z,(qs.map f).sum=k*z+qs.length*d
 |[],_=>⟨0,by simp⟩|q::r,h=>by
  let⟨z,e⟩:=zhc (f:=f) (qs:=r) λx hx=>h x (fZ _ hx);let h1:=h q V8;let h2:=Int.mul_ediv_add_emod (f q) k;show⟨f q/k+z,?_⟩;rw[kJ,Ga,e,fP,Int.mul_add,Int.natCast_succ,Int.add_mul,Int.one_mul]
  lia
theorem zc5{k d:Int}{f:Int×Int->Int}:∀{qs:List (Int×Int)},(∀q∈qs,(f q)%k=d)->(qs.map λq=>f q%k).sum=qs.length*d
 |[],_=>by simp|q::r,h=>by
  rw[kJ,Ga,zc5 (λx hx=>h x (fZ _ hx)),h q V8,fP,Int.natCast_succ,Int.add_mul,Int.one_mul]
  lia
section
variable {n k d:Int}{ps:List (Int×Int)}{hs:List Int}
theorem ziV{nx:Int->List Int}{is:List Int}(h:rB n nx is=true):is≠[]/\(∀i∈is,0<=i/\i<n)/\∀q∈lF is,q.2∈nx q.1:=by
 unfold rB at h;simp only[dZ,kI,gY]at h;show⟨h.1,h.2.1,h.2.2.2.2⟩
theorem zlV(h:Web n ps)(hd:1<=d)(hh:cj n k d ps hs){a b:Int}(hb:b∈au k d ps hs a):(at' hs b-at' hs a)%k=d:=by
 let q1:=fj (jk.mp hb).2;let hp:=(QM h).mp (jk.mp hb).1;let ht:=h.tie _ hp;let hg:=hh.fit _ hp;let hk:=(vL hd).mp hg;let hl:=hh.len;let hbn:=Hf h a b hb;let zG:d<k:=by lia
 let han:0<=a/\a<n:=by
  dsimp only at ht;by_cases c:b<a
  .rw[if_pos c,if_neg gV]at ht;lia
  .by_cases c2:b>a
   .rw[if_neg c,if_pos c2]at ht;lia
   .rw[if_neg c,if_neg c2]at ht;lia
 let hal:=hh.lo _ (Qp (us:=hs) han.1 gV);let hbl:=hh.lo _ (Qp (us:=hs) hbn.1 gV);rw[Lx hal.1 hal.2 gV gV]at q1;by_cases c:at' hs a+d<k
 .rw[if_pos c]at q1;rw[q1,show at' hs a+d-at' hs a=d by lia,Ab gV zG]
 .rw[if_neg c]at q1;rw[q1,show at' hs a+d-k-at' hs a=d-k by lia,Rj,Ab gV zG]
theorem zkG(h:Web n ps)(hd:1<=d)(hk:1<=k)(hh:cj n k d ps hs){is:List Int}(hg:rB n (au k d ps hs) is=true):((lF is).map λq=>(at' hs q.2-at' hs q.1)%k).sum=(is.length:Int)*d/\((is.length:Int)*d/k)*k=(is.length:Int)*d:=by
 let⟨_,_,hq⟩:=ziV hg;let qm:∀q∈lF is,(at' hs q.2-at' hs q.1)%k=d:=λq z=>zlV h hd hh (hq q z);show⟨by rw[zc5 qm,M5],?_⟩;let⟨z,e⟩:=zhc qm;rw[zlY (f:=at' hs),M5]at e;show Int.ediv_mul_cancel ⟨-z,?_⟩;rw[Int.mul_neg]
 lia
theorem YC{k':Nat}{p:D}(h:Web n ps)(hr:1<=d/\d<=k/\k<=24)(hh:cj n k d ps hs)(hp:xq p):W (call ao T (k'+10) true 18 [.d (bw n ps),.d (aM k d),.d (.tup (hs.map .int)),.d p]) [] λv s=>v=.d (.bl (zT n (au k d ps hs) p)):=by
 show W.call zph rfl ?_;unfold W4;ext;show W.c1 (zgt h hr.1 hr.2.1 hr.2.2 hh) λ_=>?_;ext;show Kak rfl ((zjP h gV hh).imp λv s=>?_);rintro⟨j,o,rfl,hj,rfl⟩;show⟨j,_,rfl,hj,?_⟩;ext;show Vp (n:=0) (o:=Yw n k d ps hs) rfl rfl ((zlj h hp).imp λv s=>?_);rintro⟨rfl,rfl⟩;show⟨_,_,rfl,rfl,rfl⟩
theorem zno{k':Nat}{is:List Int}(h:Web n ps)(hr:1<=d/\d<=k/\k<=24)(hh:cj n k d ps hs)(hp:xq (.tup (is.map .int)))(hg:rB n (au k d ps hs) is=true):W (call ao T (k'+12) true 40 [.d (bw n ps),.d (aM k d),.d (.tup (hs.map .int)),.d (.tup (is.map .int))]) [] λv s=>v=.d (.int ((is.length:Int)*d/k)):=by
 let er:aM k d=.tup [.int k,.int d]:=rfl;show W.call Xp rfl ?_;unfold Qu;show WS.cons (Kbs ?_);ext;show W.cV rfl ?_;show W.call Xo rfl ?_;unfold Qt;ext;show W.c0 (YC h hr hh hp) ?_;rw[Hg (G8 is),hg];show W.bool (W.bool (WS.Ey (WS.nil ?_)));show WS.cons (Vq (Le (GK (Le (GK (KaC rfl (GK (W.pv (x:=.d (.int d)) rfl (Qc (GJ (GF (GJ (GF (P_ ?_))))))))))))));rw[aY];show bI (d:=.int ((is.length:Int)*d)) ?_ ?_
 .exact zm7 (.inr ⟨by lia,by lia⟩)
 show GK (W.pv (x:=.d (.int k)) rfl (Qc (GJ (GF (GJ (GF (P_ ?_)))))));show bI (ziP ⟨by lia,by lia⟩) ?_;show⟨_,rfl,⟨_,rfl⟩,rfl⟩
theorem zmM{k':Nat}{p:D}(h:Web n ps)(hr:1<=d/\d<=k/\k<=24)(hh:cj n k d ps hs)(hp:xq p)(hg:zT n (au k d ps hs) p=false):W (call ao T (k'+12) true 40 [.d (bw n ps),.d (aM k d),.d (.tup (hs.map .int)),.d p]) [] λv s=>v=.d (.str "paper"):=by
 let hq:WR (call ao T (k'+11) true 19 [.d (bw n ps),.d (aM k d),.d (.tup (hs.map .int)),.d p]) [] 6 []:=by
  show WR.call Xo rfl ?_;unfold Qt;show Vv ?_;ext;show W.c0 (YC h hr hh hp) ?_;rw[hg];show W.bool (W.bool (WS.wR (Vv ?_)));ext;show⟨⟨_,_,_,rfl⟩,⟨_,_,_,rfl⟩,_,rfl⟩
 show W.call Xp rfl ?_;unfold Qu;show WS.cons (Kbt ?_);show Vv (Kbf (c:=6) (fs:=[]) ?_ λs'=>⟨⟨_,_,_,rfl⟩,_,_,_,rfl,rfl,?_⟩)
 .refine Ka6 ?_;ext;show WR.cV rfl hq
 .refine Y ?_;show W.c0 zkn ?_;ext;show⟨⟨_,rfl⟩,rfl⟩
end
def gE(x:D):Prop:=wU x=true/\(∀i,x=.int i->rQ i=true)/\∀j,RG pd (j+2) 12 x
theorem Hj{x:D}{p:PyData}(h1:wU x=true)(h2:∀i,x≠.int i)(h3:∀j,pd (j+2) x=some p)(h4:(p.showable&&p.leavesShort 40&&decide (p.weight<=12))=true):gE x:=by
 simp only[dZ,kI]at h4;show⟨h1,λi e=>absurd e (h2 i),λj=>⟨p,h3 j,h4.1.1,h4.1.2,h4.2⟩⟩
theorem xu{i:Int}(h : -1<=i/\i<=8):gE (.int i):=by
 show⟨rfl,λj e=>?_,λj=>(zni Qs gV).mono J0⟩;cases e;unfold rQ;rw[cO (show -1<=i/\i<=34 by lia)];rfl
theorem YD{xs:List D}{j:Nat}(h:∀x∈xs,gE x)(hl:xs.length<=17):xg pd (j+2) 221 xs:=(zhf λx hx=>(h x hx).2.2 j).mono (Rg _ hl)
def gP(d:D):Prop:=xq d/\∀j,RG pd (j+4) 300 d
theorem zU{xs:List D}(h:∀x∈xs,gE x)(hl:xs.length<=17):gP (.tup xs):=by
 show⟨⟨gY.mpr λx hx=>(h x hx).1,λys e=>?_⟩,λj=>(WQ (j:=j+3) Qs (YD (j:=j+1) h hl)).mono J0⟩;cases e;show⟨hl,λis e=>?_⟩;let:=Ft e;subst this;rw[aY]at hl;unfold wD;rw[cO (show is.length<=18 by lia),uo,gY];show λi hi=>(h _ (rC hi)).2.1 i rfl
theorem zmi{xs:List D}(h:∀x∈xs,gE x)(hl:xs.length<=17):gP (.fl xs):=
 ⟨⟨rfl,λys e=>by cases e⟩,λj=>(znX (j:=j+3) (YD (j:=j+1) h hl)).mono J0⟩
theorem BW{is:List Int}(h:∀i∈is,-1<=i/\i<=8)(hl:is.length<=17):gP (.tup (is.map .int)):=zU (λx hx=>by let⟨i,hi,rfl⟩:=cW.mp hx;show xu (h i hi)) (by rw[aY];show hl)
theorem zhv{k':Nat}{o:SO}{row:List D}{kk:Int}(ho:jP o)(hl:row.length<=8)(mi:∀y∈row,gE y)(hk:1<=kk)(hk2:kk<=8):W (call ao T (k'+2) true 38 [.l 0,.d (.tup row),.d (.int kk)]) [o] λv s=>∃(d:D) (o':SO),v=.d d/\s=[o']/\gP d/\jP o':=by
 show W.call zpp rfl ?_;unfold Xj;let qm:(100:Nat)<=sizeLine:=by decide
 ext;show vX ho gV gV λr o1 hr hp=>?_;ext;show vX hp gV gV λr2 o2 QL hp=>?_;ext;show vX hp J0 J0 λr3 o3 hr3 hp=>?_;ext;let⟨x,ex,hx⟩:=Yu (xs:=[.bl true,.bl false,.non,.int (-1),.int kk,.str "0",.tup [.int 0],.int r2]) (r:=r3) (by change r3<8;lia);let hxo:gE x:=by
  simp only[cX,qw,pJ]at hx;rcases hx with rfl|rfl|rfl|rfl|rfl|rfl|rfl|rfl
  .exact Hj (p:=.bool true) rfl (λ_ e=>by cases e) (λj=>by cases j<;>rfl) Bd
  .exact Hj (p:=.bool false) rfl (λ_ e=>by cases e) (λj=>by cases j<;>rfl) Bd
  .exact Hj (p:=.none) rfl (λ_ e=>by cases e) (λj=>by cases j<;>rfl) Bd
  .exact xu J0
  .exact xu gV
  .exact Hj (p:=.str "0") rfl (λ_ e=>by cases e) (λj=>by cases j<;>rfl) Bd
  .exact Hj (p:=.tuple [.int 0]) rfl (λ_ e=>by cases e) (λj=>by cases j<;>rfl) Bd
  .exact xu gV
 show bI ex ?_;clear ex hx;let l1:=qY (xs:=row) (lo:=none) (hi:=some (r:Int));let l2:=qY (xs:=row) (lo:=some ((r:Int)+1)) (hi:=none);let m1:∀y∈cut row none (some (r:Int)),gE y:=λy hy=>mi y (GX hy);let m2:∀y∈cut row (some ((r:Int)+1)) none,gE y:=λy hy=>mi y (GX hy);ext;show bI (tZ (by change _+1<=_;lia)) ?_;ext;show bI (tZ (by rw[bZ];change _+1+_<=_;lia)) ?_;ext;show bI (tZ gV) ?_;ext;show bI (tZ (by change _+1<=_;lia)) ?_;ext;show vX hp J0 J0 λr4 o4 hr4 hp=>?_;ext;let⟨z,ez,hz⟩:=zmU (xs:=[0,0,0,0,1,2,3,4,5]) (r:=r4) (q:=λz=>0<=z/\z<6) J0 (by change r4<9;lia);show bI ez ?_;ext;let⟨y,ey,hy⟩:=zjv (xs:=[.tup (cut row none (some (r:Int))++[x]++cut row (some ((r:Int)+1)) none),.tup (cut row none (some (r:Int))++cut row (some ((r:Int)+1)) none),.tup (row++[.int 0]),.fl row,.non,.tup [.tup row]]) hz.1 (by change z<6;show hz.2);show bI ey ?_;ext;show⟨_,_,rfl,rfl,?_,hp⟩;simp only[cX,qw,pJ]at hy;rcases hy with rfl|rfl|rfl|rfl|rfl|rfl
 .refine zU (λy hy=>?_) (by rw[bZ,bZ];change _+1+_<=_;lia);rcases dw.mp hy with hy|hy
  .rcases dw.mp hy with hy|hy
   .exact m1 y hy
   .let:y=x:=by simpa using hy
    rw[this];show hxo
  .exact m2 y hy
 .refine zU (λy hy=>?_) (by rw[bZ];lia);rcases dw.mp hy with hy|hy
  .exact m1 y hy
  .exact m2 y hy
 .refine zU (λy hy=>?_) (by rw[bZ];change _+1<=_;lia);rcases dw.mp hy with hy|hy
  .exact mi y hy
  .let:y=.int 0:=by simpa using hy
   rw[this];show xu J0
 .exact zmi mi gV
 .exact⟨⟨rfl,λxs e=>by cases e⟩,λj=>⟨.none,by cases j<;>rfl,rfl,rfl,by decide +kernel⟩⟩
 .refine⟨⟨rfl,λxs e=>?_⟩,λj=>(WQ (j:=j+3) Qs (zej (WQ (j:=j+2) Qs (YD (j:=j) mi gV)) rz)).mono J0⟩;cases e;show⟨Q_ rfl,λis e=>by cases e⟩
section
variable {n k d:Int}{ps:List (Int×Int)}{hs:List Int}
theorem zor{k:Nat}{o:SO}(ho:jP o):W (call ao T (k+2) true 34 [.l 0]) [o] λv s=>∃(z:Int) (o':SO),v=.d (.int z)/\s=[o']/\(1<=z/\z<=6)/\jP o':=by
 show W.call zpq rfl ?_;unfold Xf;ext;show vX ho J0 J0 λr o' hr hp=>?_;ext;let⟨z,ez,hz⟩:=MK (xs:=[1,2,3,4,4,5,5,3,6,4]) (r:=r) (B:=6) J0 (by change r<10;lia);show bI ez ?_;ext;show⟨_,_,rfl,rfl,hz,hp⟩
theorem zjZ{k':Nat}{p:D}(h:Web n ps)(hr:1<=d/\d<=k/\k<=24)(hh:cj n k d ps hs)(hp:xq p):W (call ao T (k'+2) true 39 [.d (bw n ps),.d (aM k d),.d (.tup (hs.map .int)),.d p]) [] λv s=>v=.d (.bl (zT n (au k d ps hs) p)):=by
 let qm:(100:Nat)<=sizeLine:=by decide
 let ew:bw n ps=.tup [.int n,.tup (ps.map cI)]:=rfl;show W.call zo3 rfl ?_;unfold Xk;cases p with
 |tup xs=>
  let⟨hl,hd⟩:=hp.2 xs rfl;let hx:∀x∈xs,wU x=true:=gY.mp hp.1;ext;by_cases h2:(xs.length:Int)<2
  .rw[cO h2];ext;change Xv.d (.bl false)=.d (.bl (zT n (au k d ps hs) (.tup xs)))
   congr 2
   symm
   cases e:aJ xs with
   |none=>show QS e|some is=>
    rw[Hg e];let:=Ft e;subst this;rw[aY]at h2
    match is,h2 with
    |[],_=>rfl|[a],_=>show zkd (Yz h a)|_::_::_,h2=>simp at h2;lia
  .rw[f9 h2];ext;show lX (l:=xs) (f:=λx=>x) (λx=>some (.bl (LC x))) gV ?_ (λt ht=>?_) ?_
   .refine Y ?_;rw[List.map_id'];show⟨rfl,rfl⟩
   .refine Y ?_;show⟨rfl,λ_=>?_,λhb=>by cases hb⟩;ext;show W.cV rfl ((zkb (hx t ht)).imp λv s e=>⟨_,e,rfl,_,rfl,rfl⟩)
   rw[zF];ext;show bI Qf ?_;cases ha:xs.all LC
   .refine Y ?_;rw[QS (zma ha)]
   let⟨is,e⟩:=zlG ha;let hok:=hd is e;rw[Hg e];let e':=Ft e;subst e';rw[aY]at hl h2;let hne:is≠[]:=by rintro rfl;simp at h2
   ext;show lX (l:=is) (f:=D.int) (λi=>if 0<=i/\i<n then none else some (.int i)) gV ?_ (λi hi=>?_) ?_
   .refine Y ?_;show⟨rfl,rfl⟩
   .rw[ew];ext;show⟨rfl,λhb=>?_,λhb=>?_⟩
    .refine Y ?_;show⟨rfl,_,rfl,if_neg (by simp at hb;lia)⟩
    .exact if_pos (by simp at hb;lia)
   rw[zeY];ext;show bI Yx ?_;cases hf:is.filter λi=>!decide (0<=i/\i<n) with
   |cons y r=>
    let:is.all (λi=>decide (0<=i/\i<n))=false:=by
     rw[Rr];let hm:y∈is.filter λi=>!decide (0<=i/\i<n):=by rw[hf];simp
     let⟨h1,h2⟩:=jk.mp hm;show⟨y,h1,by simp at h2 ⊢;lia⟩
    rw[zja this];show Y trivial
   |nil=>
    let hi:∀i∈is,0<=i/\i<n:=λi hi=>by
     let:=List.filter_eq_nil_iff.mp hf i hi;simpa using this
    let pN:is.all (λi=>decide (0<=i/\i<n))=true:=gY.mpr λi z=>cO (hi i z);unfold rB;rw[cO hne,pN,uo,uo];ext;show bI (zjf hok) ?_;ext;rw[aY];by_cases sH:(aO is).length=is.length
    .rw[cO sH,uo,show (!((aO is).length:Int)==(is.length:Int))=false by rw[sH];simp];ext;show bI (zlQ hne) ?_;ext;show bI (znK hne) ?_;ext;by_cases hm:at' is 0=BP is
     .rw[cO hm,uo,show (!at' is 0==BP is)=false by rw[hm];simp];let l1:=qY (xs:=is.map D.int) (lo:=some 1) (hi:=none);let l2:=qY (xs:=is.map D.int) (lo:=none) (hi:=some 1);rw[aY]at l1 l2;ext;show lX (l:=lF is) (f:=cI) (λq=>some (.bl (decide (q.2∈au k d ps hs q.1)))) (by rw[M5];lia) ?_ (λq hq=>?_) ?_
      .refine Y ?_;show bI (tZ gV) ?_;ext;rw[M4];show⟨rfl,rfl⟩
      .obtain⟨a,b⟩:=q;let hab:=hi a (Af hq).1;let O7:0<=b/\b<n:=by
        let:=(Af hq).2;rcases dw.mp this with z|z
        .exact hi b (Nm z)
        .exact hi b (Fy z)
       ext;show⟨rfl,λ_=>?_,λhb=>by cases hb⟩;ext;show W.cV rfl ((Yy h gV gV hh hab O7).imp λv s e=>⟨_,e,rfl,_,rfl,rfl⟩)
      rw[zF];ext;show bI Qf ?_
      first|exact Y trivial|exact Y rfl|(ext;rfl)|refine Y ?_
     .rw[f9 hm,FW,show (!at' is 0==BP is)=true by simpa using hm];show Y trivial
    .rw[f9 sH,FW,show (!((aO is).length:Int)==(is.length:Int))=true by simp;lia];show Y trivial
 |exc _ _=>cases hp.1|ob _ _=>cases hp.1|any=>cases hp.1|_=>show Y rfl
theorem zgU{k':Nat}{p:D}(h:Web n ps)(hr:1<=d/\d<=k/\k<=24)(hh:cj n k d ps hs)(hp:xq p)(ht:Rp p):W (call ao T (k'+13) true 41 [.d (bw n ps),.d (aM k d),.d (.tup (hs.map .int)),.d p]) [] λv s=>v=.d (.bl true):=by
 let qm:(100:Nat)<=sizeLine:=by decide
 let er:aM k d=.tup [.int k,.int d]:=rfl;let⟨t,et⟩:=ht;show W.call zo7 rfl ?_;unfold Xl;ext;show bI et ?_;ext;show W.c0 (zjZ (k':=k'+10) h hr hh hp) ?_;generalize hg:zT n (au k d ps hs) p=g;ext;show⟨rfl,?_⟩;show wQ (λ_ J s=>s=[]/\∃a b:Option Xv,J=[some (.d (bw n ps)),some (.d (aM k d)),some (.d (.tup (hs.map .int))),some (.d p),some (.d (.str t)),some (.d (.bl g)),a,b,none,none]) ⟨rfl,_,_,rfl⟩ (λi y J s e hI=>?_) (λJ s hI=>?_)
 .obtain⟨rfl,a,b,rfl⟩:=hI;ext;show W.c0 (YC (k':=k'+2) h hr hh hp) ?_;rw[hg];cases g
  .refine Y ?_;show⟨_,rfl,rfl,_,_,rfl⟩
  .refine Y ?_;show⟨_,rfl,rfl,_,_,rfl⟩
 .obtain⟨rfl,a,b,rfl⟩:=hI;ext;cases g with
  |false=>
   show W.c0 (zmM h hr hh hp hg) ?_;ext;show bI et ?_;ext;change Xv.d (.bl (t==t))=_;rw[ug]
  |true=>
   obtain⟨xs,rfl⟩ : ∃xs,p=.tup xs:=by
    cases p with
    |tup xs=>show⟨xs,rfl⟩|_=>cases hg
   let⟨hl,_⟩:=hp.2 xs rfl;cases e:aJ xs with
   |none=>rw[QS e]at hg;cases hg|some is=>
    rw[Hg e]at hg;let e':=Ft e;subst e';rw[aY]at hl;let hlo:=(ziV hg).2.1;let⟨s1,s2⟩:=zkG h hr.1 gV hh hg;let hhl:=hh.len;let l1:=qY (xs:=is.map D.int) (lo:=some 1) (hi:=none);let l2:=qY (xs:=is.map D.int) (lo:=none) (hi:=some 1);rw[aY]at l1 l2;show W.c0 (zno h hr hh hp hg) ?_;ext;show lX (l:=lF is) (f:=cI) (λq=>some (.int ((at' hs q.2-at' hs q.1)%k))) (by rw[M5];lia) ?_ (λq hq=>?_) ?_
    .refine Y ?_;show bI (tZ gV) ?_;ext;rw[M4];show⟨rfl,rfl⟩
    .obtain⟨a,b⟩:=q;let hab:=hlo a (Af hq).1;let O7:0<=b/\b<n:=by
      let:=(Af hq).2;rcases dw.mp this with z|z
      .exact hlo b (Nm z)
      .exact hlo b (Fy z)
     rw[er];ext;show⟨rfl,λ_=>?_,λhb=>by cases hb⟩;ext;show bI (sy gV gV) ?_;ext;show bI (sy gV gV) ?_;ext;show⟨rfl,_,rfl,rfl⟩
    let ef:(lF is).filterMap (λq=>some (D.int ((at' hs q.2-at' hs q.1)%k)))=((lF is).map λq=>(at' hs q.2-at' hs q.1)%k).map D.int:=by
     rw[zF,nW];rfl
    rw[ef];let YF:prim .sum [.fl (((lF is).map λq=>(at' hs q.2-at' hs q.1)%k).map D.int)]=some (.dat (.int ((is.length:Int)*d))):=by
     change (aJ (((lF is).map λq=>(at' hs q.2-at' hs q.1)%k).map D.int)).bind oE=_;rw[G8];change oE _=_;let:jy ((lF is).map λq=>(at' hs q.2-at' hs q.1)%k)=true:=by
      unfold jy;rw[aY,M5,cO (show is.length<=1000 by lia),uo,gY];intro x hx;let⟨q,_,rfl⟩:=cW.mp hx;let h1:=Oc (at' hs q.2-at' hs q.1) (show k≠0 by lia);let h2:=Rm (at' hs q.2-at' hs q.1) (show 0<k by lia);show cO gV
     unfold oE;rw[this,s1]
    ext;show bI YF ?_;ext;show W.c0 ziE ?_;ext;rw[s2,show id ((is.length:Int)*d==(is.length:Int)*d)=true from ug _];ext;show bI et ?_;ext;change Xv.d (.bl (t==t))=_;rw[ug]
end
def gQ(d:D):Prop:=xq d/\Rp d
theorem pD{d:D}(h:gP d):gQ d:=⟨h.1,zl0 (.inl rfl) (h.2 36) J0⟩
theorem zmP{x:D}(hx:x∈sG):gQ x:=by
 let key:∀{x:D} {f:Nat->D->Option PyData} {p:PyData},(f=pd\/f=pe)->f 40 x=some p->(p.showable&&p.leavesShort 40&&decide (p.weight<=110))=true->Rp x:=λ{x f p} h3 h4 h5=>by
  simp only[dZ,kI]at h5;show zl0 h3 ⟨p,h4,h5.1.1,h5.1.2,h5.2⟩ J0
 let pl:∀{xs:List D},xs.length<=17->xs.all wU=true->aJ xs=none->xq (.tup xs):=λ{xs} h1 h2 h3=>⟨h2,λys e=>by
  cases e;show⟨h1,λis e=>by rw[h3]at e;cases e⟩⟩
 let po:∀{x:D},okT x=true->(∀xs,x≠.tup xs)->xq x:=λ{x} h1 h2=>⟨h1,λxs e=>absurd e (h2 xs)⟩;simp only[sG,cX,qw,pJ]at hx;rcases hx with rfl|rfl|rfl|rfl|rfl|rfl|rfl|rfl|rfl|rfl|rfl|rfl|rfl|rfl|rfl|rfl
 .exact⟨po rfl (λ_ e=>by cases e),key (.inl rfl) rfl Bd⟩
 .exact⟨po rfl (λ_ e=>by cases e),key (.inl rfl) rfl Bd⟩
 .exact⟨po rfl (λ_ e=>by cases e),key (.inl rfl) rfl Bd⟩
 .exact⟨po rfl (λ_ e=>by cases e),key (.inl rfl) rfl Bd⟩
 .exact⟨po rfl (λ_ e=>by cases e),key (.inl rfl) rfl Bd⟩
 .exact⟨po rfl (λ_ e=>by cases e),key (.inl rfl) rfl Bd⟩
 .exact pD (BW (is:=[]) J0 J0)
 .exact⟨po rfl (λ_ e=>by cases e),key (.inl rfl) rfl Bd⟩
 .exact pD (BW (is:=[0]) J0 J0)
 .exact⟨po rfl (λ_ e=>by cases e),key (.inl rfl) rfl Bd⟩
 .exact⟨po rfl (λ_ e=>by cases e),key (.inr rfl) rfl Bd⟩
 .exact pD (BW (is:=[0,1]) J0 J0)
 .exact⟨po rfl (λ_ e=>by cases e),key (.inl rfl) rfl Bd⟩
 .exact⟨pl J0 rfl rfl,key (.inl rfl) rfl Bd⟩
 .exact⟨pl J0 rfl rfl,key (.inl rfl) rfl Bd⟩
 .exact⟨pl J0 rfl rfl,key (p:=.tuple [.int 1,.tuple [.tuple [.int 0,.int 0]]]) (.inl rfl) rfl Bd⟩
noncomputable def YG:List D:=[.tup [.int 0,.int 1],.tup [.int 1,.int 0],.tup [.int 0],.tup [.int 0,.bl true],.fl [.int 0,.int 1],.non,.tup [.int 0,.int 0],.tup [.int 0,.int 1,.int 0]]
theorem znv{x:D}(hx:x∈YG):gQ x:=by
 simp only[YG,cX,qw,pJ]at hx;rcases hx with rfl|rfl|rfl|rfl|rfl|rfl|rfl|rfl
 .exact pD (BW (is:=[0,1]) J0 J0)
 .exact pD (BW (is:=[1,0]) J0 J0)
 .exact pD (BW (is:=[0]) J0 J0)
 .exact pD (zU (λx hx=>by
   simp only[cX,qw,pJ]at hx;rcases hx with rfl|rfl
   .exact xu J0
   .exact Hj (p:=.bool true) rfl (λ_ e=>by cases e) (λj=>by cases j<;>rfl) Bd) J0)
 .exact pD (zmi (λx hx=>by
   simp only[cX,qw,pJ]at hx;rcases hx with rfl|rfl
   .exact xu J0
   .exact xu J0) J0)
 .exact pD ⟨⟨rfl,λxs e=>by cases e⟩,λj=>⟨.none,by cases j<;>rfl,rfl,rfl,by decide +kernel⟩⟩
 .exact pD (BW (is:=[0,0]) J0 J0)
 .exact pD (BW (is:=[0,1,0]) J0 J0)
section
variable {n k d:Int}{ps:List (Int×Int)}{hs:List Int}
theorem zjS(h:Web n ps){r:List Int}(hr:r∈fD n (au k d ps hs) 8):(∀x∈r,0<=x/\x<n)/\r.length<=8:=by
 unfold fD at hr;let⟨i,hi,hm⟩:=FQ.mp hr;rw[gC]at hi;let⟨e,rfl,hc,_⟩:=eG.mp hm;let hl:=G7 (λl x=>Hf h l x) hc V8 (λx hx=>by rw[oW]at hx;subst hx;lia);let:=WD hl.1 hl.2;let h8:=h.h8;show⟨λx hx=>hl.2 x hx,by lia⟩
end
theorem vY(ns:List Int)(hn:ns.length<=63):∃s',call ao T 60 true 42 [.d (.fl (ns.map D.int))] []=some (.ok (.d (.bl true)),s'):=by
 suffices h:W (call ao T 60 true 42 [.d (.fl (ns.map D.int))]) [] λv _=>v=.d (.bl true) by
  let⟨v,s',e,rfl⟩:=h;show⟨s',e⟩
 let hs:(1000:Nat)<=sizeLine:=by decide
 show W.call (k:=59) zo8 rfl ?_;unfold Xm;ext;show wQ (c:=YG) (λ_ J s=>s=[]/\∃(a b c d e f g h i j:Option Xv),J=[some (.d (.fl (ns.map D.int))),a,b,c,d,e,f,g,h,i,j]) ⟨rfl,_,_,_,_,_,_,_,_,_,_,rfl⟩ (λi x J s hx qp=>?_) (λJ s qp=>?_)
 .obtain⟨rfl,a,b,c,d,e,f,g,h,i,j,rfl⟩:=qp;let hq:=znv (iH hx);ext;show W.c0 (zgU (k':=46) (n:=2) (ps:=[(0,1)]) (k:=2) (d:=1) (hs:=[0,1]) ⟨by lia,by lia,by simp,by simp,by simp⟩ gV ⟨by simp,by simp,by decide⟩ hq.1 hq.2) ?_;ext;show⟨_,rfl,rfl,_,_,_,_,_,_,_,_,_,_,rfl⟩
 let⟨rfl,a,b,c,d,e,f,g,h,i,j,rfl⟩:=qp;ext;show W.cV rfl ((znz (k:=58)).imp λv _=>?_);rintro⟨n0,rfl⟩;show⟨_,rfl,?_⟩;ext;show rZ (zA ?_) ?_
 .let:=zjH (ns:=ns) (lo:=some 1) (hi:=some 4);change 1+_<=_
  lia
 ext;show wQ (λ_ J s=>∃(a b c d e f g h i j:Option Xv),J=[some (.d (.fl (ns.map D.int))),a,b,c,d,e,f,g,h,i,j]) ⟨_,_,_,_,_,_,_,_,_,_,rfl⟩ (λi x J s hx qp=>?_) (λJ s qp=>?_)
 .obtain⟨m,rfl⟩ : ∃m,x=.int m:=by
   rcases dw.mp (iH hx) with z|z
   .rcases cX.mp z with rfl|z
    .exact⟨_,rfl⟩
    .cases z
   .exact zke z
  let⟨a,b,c,d,e,f,g,h,i,j,rfl⟩:=qp;ext;show Kak rfl ((zoo (k:=58)).imp λv s1=>?_);rintro⟨jj,o,rfl,hj,hp⟩;show⟨jj,o,rfl,hj,?_⟩;ext;show E_ rfl ((zor (k:=57) hp).imp λv s1=>?_);rintro⟨z,o1,rfl,rfl,⟨hz1,YH⟩,hp⟩;show⟨_,_,rfl,rfl,?_⟩;ext;show E_ rfl ((zig (k:=57) hp (n:=z) gV gV).imp λv s1=>?_);rintro⟨ps,o2,rfl,rfl,hw,hp⟩;show⟨_,_,rfl,rfl,?_⟩;ext;show E_ rfl ((zjz (k':=56) hp hw YH).imp λv s1=>?_);rintro⟨kk,dd,o4,rfl,rfl,hr,hex,hp⟩;show⟨_,_,rfl,rfl,?_⟩;ext;show E_ rfl ((ze4 (k':=56) hp hw YH hr hex).imp λv s1=>?_);rintro⟨M6,o5,rfl,rfl,hh,hp⟩;show⟨_,_,rfl,rfl,?_⟩;let ew:bw z ps=.tup [.int z,.tup (ps.map cI)]:=rfl;ext;show W.c0 (zfI (k':=57) hw YH ⟨hr.1,hr.2.1,by lia⟩ hh) ?_;let hR:∀r∈(fD z (au kk dd ps M6) 8).take 3,(∀x∈r,0<=x/\x<z)/\r.length<=8:=λr hr=>zjS hw (Fy hr);let hRl:((fD z (au kk dd ps M6) 8).take 3).length<=3:=by rw[oX];lia
  let ec:cut ((fD z (au kk dd ps M6) 8).map aQ) none (some 3)=((fD z (au kk dd ps M6) 8).take 3).map aQ:=by
   rw[HF];show zkg _ 3
  generalize (fD z (au kk dd ps M6) 8).take 3=R at hR hRl ec;ext;rw[ec];let gr:∀r∈R,∀y∈r.map D.int,gE y:=λr hr y hy=>by
   let⟨i,hi,rfl⟩:=cW.mp hy;let:=(hR r hr).1 i hi;show xu gV
  show lX (l:=R) (f:=aQ) (λr=>some (.tup (cut (r.map .int) (some 1) none++cut (r.map .int) none (some 1)))) gV ?_ (λr hr=>?_) ?_
  .refine Y ?_;show⟨rfl,rfl⟩
  .let l1:=qY (xs:=r.map D.int) (lo:=some 1) (hi:=none);let l2:=qY (xs:=r.map D.int) (lo:=none) (hi:=some 1);let l3:=(hR r hr).2;rw[aY]at l1 l2;unfold aQ;ext;show⟨rfl,λ_=>?_,λhb=>by cases hb⟩;ext;show bI (tZ gV) ?_;ext;show⟨rfl,_,rfl,rfl⟩
  rw[zF];ext;show rZ (zA (by rw[aY,aY];lia)) ?_;ext;show lX (l:=R) (f:=aQ) (λr=>some (.tup (cut (r.map .int) none (some 1)++(cut (r.map .int) (some 1) none).reverse))) gV ?_ (λr hr=>?_) ?_
  .refine Y ?_;show⟨rfl,rfl⟩
  .let l1:=qY (xs:=r.map D.int) (lo:=some 1) (hi:=none);let l2:=qY (xs:=r.map D.int) (lo:=none) (hi:=some 1);let l3:=(hR r hr).2;rw[aY]at l1 l2;unfold aQ;ext;show⟨rfl,λ_=>?_,λhb=>by cases hb⟩;ext;show bI (tZ (by rw[Nq];lia)) ?_;ext;show⟨rfl,_,rfl,rfl⟩
  rw[zF];ext;show rZ (zA (by simp only[bZ,aY];lia)) ?_;let hT:∀x∈R.map aQ++R.map (λr=>.tup (cut (r.map .int) (some 1) none++cut (r.map .int) none (some 1)))++R.map (λr=>.tup (cut (r.map .int) none (some 1)++(cut (r.map .int) (some 1) none).reverse)),gQ x:=λx hx=>by
   let key:∀r∈R,r.length<=8/\(cut (r.map D.int) (some 1) none).length<=r.length/\(cut (r.map D.int) none (some 1)).length<=r.length:=λr hr=>by
    let l1:=qY (xs:=r.map D.int) (lo:=some 1) (hi:=none);let l2:=qY (xs:=r.map D.int) (lo:=none) (hi:=some 1);rw[aY]at l1 l2;show⟨(hR r hr).2,l1,l2⟩
   rcases dw.mp hx with hx|hx
   .rcases dw.mp hx with hx|hx
    .obtain⟨r,hr,rfl⟩:=cW.mp hx;show pD (zU (gr r hr) (by let:=key r hr;rw[aY];lia))
    .obtain⟨r,hr,rfl⟩:=cW.mp hx;show pD (zU (λy hy=>?_) (by let:=key r hr;rw[bZ];lia));rcases dw.mp hy with hy|hy
     .exact gr r hr y (GX hy)
     .exact gr r hr y (GX hy)
   .obtain⟨r,hr,rfl⟩:=cW.mp hx;show pD (zU (λy hy=>?_) (by let:=key r hr;rw[bZ,Nq];lia));rcases dw.mp hy with hy|hy
    .exact gr r hr y (GX hy)
    .exact gr r hr y (GX (List.mem_reverse.mp hy))
  let hTl:(R.map aQ++R.map (λr=>D.tup (cut (r.map .int) (some 1) none++cut (r.map .int) none (some 1)))++R.map (λr=>D.tup (cut (r.map .int) none (some 1)++(cut (r.map .int) (some 1) none).reverse))).length<=9:=by
   simp only[bZ,aY];lia
  generalize R.map aQ++R.map (λr=>D.tup (cut (r.map .int) (some 1) none++cut (r.map .int) none (some 1)))++R.map (λr=>D.tup (cut (r.map .int) none (some 1)++(cut (r.map .int) (some 1) none).reverse))=TS at hT hTl;ext;show Vy (c:=jh 0 3) (λj acc s'=>∃(zs:List Int) (o':SO),acc=zs.map .int/\zs.length=j/\(∀x∈zs,0<=x/\x<z)/\s'=s++[o']/\jP o') ?_ (λj x acc s' e hJ=>?_) (λacc s' hJ=>?_)
  .refine Y ?_;show⟨rfl,rfl,[],_,rfl,rfl,by simp,rfl,hp⟩
  .obtain⟨zs,o',rfl,M7,YJ,rfl,hp⟩:=hJ;let⟨rfl,hjz⟩:=Lp e;rw[ew];ext;show⟨λ_=>?_,λhb=>by cases hb⟩;ext;show Kav hp gV gV λr o2 hr hp=>?_;show⟨_,rfl,by rw[aY];lia,zs++[(r:Int)],o2,by rw[iu];rfl,by simp[M7],λx hx=>?_,rfl,hp⟩;rcases dw.mp hx with hx|hx
   .exact YJ x hx
   .rw[oW]at hx;subst hx;lia
  let⟨zs,o6,rfl,M7,YJ,rfl,hp⟩:=hJ;rw[Lq]at M7;let M7:zs.length=3:=M7;let gz:∀y∈zs.map D.int,gE y:=λy hy=>by
   let⟨i,hi,rfl⟩:=cW.mp hy;let:=YJ i hi;show xu gV
  ext;show rZ (zA (by rw[aY];change _+1<=_;lia)) ?_;ext;rw[aY];show Kav hp gV gV λr7 o7 hr7 hp=>?_;ext;let⟨x,ex,hx⟩:=Yu (xs:=R.map aQ++[.tup (zs.map .int)]) (r:=r7) (by rw[bZ,aY];change r7<R.length+1;lia);obtain⟨us,rfl,hul,hug⟩ : ∃us:List D,x=.tup us/\us.length<=8/\∀y∈us,gE y:=by
   rcases dw.mp hx with hx|hx
   .obtain⟨r,hr,rfl⟩:=cW.mp hx;show⟨_,rfl,by rw[aY];show(hR r hr).2,gr r hr⟩
   .rw[oW]at hx;show⟨_,hx,by rw[aY];lia,gz⟩
  show bI ex ?_;ext;show E_ rfl ((zoL (k:=57) hp).imp λv s1=>?_);rintro⟨od,o8,rfl,rfl,hod,hp⟩;show⟨_,_,rfl,rfl,?_⟩;ext;show rZ (zA (by change _+2<=_;lia)) ?_;ext;show Vy (c:=jh 0 4) (λj acc s'=>∃(o':SO),acc.length=j/\(∀x∈acc,gQ x)/\s'=s++[o']/\jP o') ?_ (λj x acc s' e hJ=>?_) (λacc s' hJ=>?_)
  .refine Y ?_;show⟨rfl,rfl,_,rfl,by simp,rfl,hp⟩
  .obtain⟨o',hal,YK,rfl,hp⟩:=hJ;let⟨rfl,hj4⟩:=Lp e;rw[ew];ext;show⟨λ_=>?_,λhb=>by cases hb⟩;ext;show E_ rfl ((zhv (k':=57) hp (row:=us) (kk:=z) hul hug hz1 gV).imp λv s1=>?_);rintro⟨bd,o9,rfl,rfl,hbd,hp⟩;show⟨_,_,rfl,rfl,?_⟩;show⟨_,rfl,by lia,o9,by simp[hal],λx hx=>?_,rfl,hp⟩;rcases dw.mp hx with hx|hx
   .exact YK x hx
   .rw[oW]at hx;subst hx;show pD hbd
  let⟨o9,hal,YK,rfl,hp⟩:=hJ;rw[Lq]at hal;let hal:acc.length=4:=hal;ext;show rZ (zA (by rw[bZ];change _+2+_<=_;lia)) ?_;let hG:∀x∈TS++[.tup (zs.map .int),od]++acc,gQ x:=λx hx=>by
   rcases dw.mp hx with hx|hx
   .rcases dw.mp hx with hx|hx
    .exact hT x hx
    .simp only[cX,qw,pJ]at hx;rcases hx with rfl|rfl
     .exact pD (zU gz (by rw[aY];lia))
     .exact zmP hod
   .exact YK x hx
  let hGl:(TS++[.tup (zs.map .int),od]++acc).length<=15:=by
   rw[bZ,bZ,hal];change _+2+4<=_;lia
  generalize TS++[.tup (zs.map .int),od]++acc=GS at hG hGl;ext;show lX (l:=GS) (f:=λx=>x) (λ_=>some (.bl true)) gV ?_ (λx hx=>?_) ?_
  .refine Y ?_;rw[List.map_id'];show⟨rfl,rfl⟩
  .refine Y ?_;show⟨rfl,λ_=>?_,λhb=>by cases hb⟩;ext;show W.cV rfl ((zgU (k':=46) hw ⟨hr.1,hr.2.1,by lia⟩ hh (hG x hx).1 (hG x hx).2).imp λv s e=>⟨_,e,rfl,_,rfl,rfl⟩)
  ext;show bI (Qd λx hx=>by
   let⟨_,_,e⟩:=zY.mp hx;show(dM e).symm) ?_
  ext;show⟨_,rfl,_,_,_,_,_,_,_,_,_,_,rfl⟩
 .obtain⟨a,b,c,d,e,f,g,h,i,j,rfl⟩:=qp;show Y trivial
end gj
end Lake
open Lake
open PySem PySem.W PyProof.Rows
set_option maxRecDepth 100000 in
set_option maxHeartbeats 0 in
theorem PySem.Challenge.cw_ringhues_k26_full_rounds_by_anybody_holds : PySem.Challenge.rw_ringhues_k26_full_rounds_by_anybody.Holds := by
 refine PySem.W.holds_law gj.ws λsaid=>?_;refine holds_open (q:=gj.qv) (loose:=gj.loose) (Xt:=λs=>xlAt gj.qv [] s&&recOk [] s) (XP:=XL gj.qv []) (Yf:=(Mi.lW gj.fs gj.ms gj.xs gj.lk).obs) (Ya:=(Mi.lW gj.fs gj.ms gj.xs gj.lk).val) (YP:=(Mi.lW gj.fs gj.ms gj.xs gj.lk).says) (N:=20000) gj.left (Mi.lW gj.fs gj.ms gj.xs gj.lk).of (Mi.lW gj.fs gj.ms gj.xs gj.lk).keeps (λs e=>xl_of s (Bool.and_eq_true_iff.mp e).1) XL.keeps (by rfl) (by rfl) (by rfl) (λs e=>recFacts_of (Bool.and_eq_true_iff.mp e).2) (by rfl) said gj.wc ⟨rfl,rfl,rfl,rfl,rfl,gj.wt⟩ ?hw ?hc
 case hw=>w_witness2
 case hc=>exact Mi.K_ (l:=PySem.Challenge.rw_ringhues_k26_full_rounds_by_anybody) (x:="_law_script") (k:=60) rfl rfl ⟨by decide,by decide,rfl⟩ (λw K mg fa h S X G Yq=>gj.all_mk gj.vY S X G Yq)
